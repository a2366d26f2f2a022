import PyProof.Rows.All
import Wide.All
import OpenK.AllK
import Wide.FinOn
import Lean
import PyProof.EqAt
import PyProof.EqKinds
import PyProof.TupleCall
import PyProof.ExcClass3
import PyProof.StationsW
import PyProof.ExcBaseAll.ValueError
import PyProof.ExcArgsOwn
import PyProof.IsiBase
import PyProof.IsiH_tuple
import PyProof.ExcAttrAll.ValueError
import PyProof.Rows.RuleN_isinstance
import PyProof.MeetsSeq
import PyProof.RulesAs
import PyProof.IsiH_list
import PyProof.AttrMiss
import KE.KDictOf
import PyProof.Rows.SumAny
import PyProof.Rows.MinMaxN
import PyProof.Rows.SortShellK
import PyProof.Rows.SortWalk
import PyProof.ZipIter
import PyProof.WalksMore
import PyProof.DictWalks
import PyProof.AutoSeq1
import PyProof.Rows.Range3
import PyProof.CollectWalk
import KE.KSortTup
import PyProof.EnumMake
import PyProof.ListRange
import KE.KRevIter
import PySem.Challenge.RW_farclocks_k83_sketches
variable{D ab ab' b expr hdct hdct' tt:Bool}{M N a ask i j k k' kk n t' tk x1:Nat}{Ty newId:String}{col col':Option Bool}{d m s y:Int}{g:Int->Int->Int}{hi lo:Option Int}{ks w:List Nat}{ns:List Int}{x:Int×List Nat}{α β κ:Type}
noncomputable section
open PySem.Challenge renaming pw_farclocks_k83_sketches→Pg,rw_farclocks_k83_sketches→SZ
open PySem.AutoListH renaming list___mul___list_int_3→Ud
open PyProof.Rows renaming slot_tuple_getitem→O9,callWith_builtin1→PQ,callWith_type1→Pa,subscriptTail_builtinR→S1,entry_tuple_getitem→T6,args_tuple_getitem→Uv,call_isinstance_of→Uy,tupleItemsOf_→Uw,subscriptTail→Ux,IntsAre→RQ,AllBare→SM,IsTup→VF
open List renaming dropLast_concat_getLast→QQ,getElem?_append_right→PC,nodup_iff_pairwise_ne→Sa,getElem?_eq_some_iff→N1,getElem?_append_left→O5,drop_eq_getElem_cons→Qs,getElem?_eq_getElem→N6,getElem?_take_of_lt→Sv,getElem?_replicate→Po,getElem?_cons_succ→Px,length_eq_zero_iff→SL,getElem?_set_self→Oo,drop_eq_nil_of_le→Rv,take_of_length_le→Rw,mem_append_right→Om,length_singleton→PR,getElem?_eq_none→RH,singleton_append→S7,set_getElem_self→Ta,dropLast_eq_take→Te,take_append_drop→Tg,mem_cons_of_mem→NR,getElem?_set_ne→Ol,mem_of_getElem?→Ot,mem_append_left→Oy,mem_of_mem_take→P3,mem_of_mem_drop→RT,mem_erase_of_ne→TJ,getLast?_concat→TK,map_congr_left→O6,filterMap_cons→Ph,replicate_succ→PK,getElem_of_mem→QF,length_reverse→R3,drop_succ_cons→T5,mem_cons_self→NU,length_append→N3,mem_singleton→Oa,contains_cons→Pd,mem_filterMap→Se,append_of_mem→Um,size_toArray→Od,getElem?_map→Oj,append_assoc→Oz,nodup_append→OW,flatten_cons→Qy,length_range→Qz,flatMap_cons→Q2,any_eq_false→Su,pairwise_map→UJ,length_cons→NZ,all_eq_true→Os,length_take→OU,lookup_cons→OV,not_mem_nil→Pm,getElem_mem→PB,length_drop→PZ,any_eq_true→RP,getElem_map→SR,cons_append→SS,mem_reverse→SU,drop_length→U6,filter_cons→U8,mem_flatMap→Vb,length_map→NW,nodup_cons→On,mem_append→Oq,append_nil→Ou,map_append→Pc,length_set→Pl,nil_append→PU,find?_cons→Qb,of_mem_zip→QR,mem_filter→RY,length_nil→Tb,range_succ→Th,foldl_cons→Vo,forIn_cons→Vq,idxOf_cons→Vw,replicate→Oi,mem_range→Pv,nodup_nil→Qt,map_cons→NT,mem_cons→N0,sum_cons→P5,any_cons→QH,mem_map→Ov,map_map→Qk,map_nil→S6,toArray→UW,set_set→U0,length→Pb,lookup→PH,map_id→Vr,range→O7,Nodup→Pp,foldl→Sw,map→Vh
open PySem.F renaming args_tuple_iterator_next_1→RV,entry_tuple_iterator_next→R0,slot_tuple_iterator_next→Qg,excBase_ValueError→R8,slot_list_getattribute→QB,args_tuple_add_2→Re,slot_list_append→Sq,type_list_append→Sr,plainAttrs_list→Pn,entry_tuple_add→Rk,args_dict_get_2→SB,slot_list_index→SC,type_list_index→SD,slot_tuple_add→Ru,entry_dict_get→SY,slot_dict_get→RE,typeOf_object_class→RL,slot_enumerate_next→S8,args_list_index_2→T2,entry_list_index→Ui,args_int_rmul_2→UD,slot_tuple_rmul→UG,slot_list_index→UH,slot_tuple_mul→SQ,slot_int_index→U4,entry_int_rmul→U5,slot_int_rmul→RZ,fills_int_mul→Vp,slot_gs_get→Uh
open PySem.Builtin.Slice renaming slicePartIndex→Vg,sliceApplied→R5,slicePlaces→Qp,sliceAdjust→Q7
open Array renaming getElem?_eq_some_iff→Pe,length_toList→Pj,find?_toList→Uc,toList→S5
open PySem renaming wpAny_newFunctionEnv_cells→Qh,wpAny_binaryOp_repeat_ref→Sk,codeAny_handlers_suite_as→Sm,wpAny_callSpecial?_slot→P6,wpAny_pyNext_list_item→S0,wpAny_Call_method_late→S2,builtinLookup_eq_fast→Qo,codeAny_call_function→QZ,wpAny_isTrue_Compare1→RN,wpAny_pyNext_list_end→Ts,codeAny_handlers_test→Tx,codeAny_call_builtin→RU,wpAny_setFlight_none→TL,wpAny_pyIter_revIter→TM,mem_of_lookup→Qa,wpAny_isSubtype_exc→Qd,wpAny_handleBy_cons→T8,wpAny_Call_Name_kw→ON,wpAny_pyIter_tuple→Rq,tupleKind_room_in1→Rt,wpAny_List_spliced→Us,wpAny_truthy_bool→OY,foldedSetIterable→OZ,wpAny_loadPart_at→O0,wpAny_newObj_type→PM,wpAny_pyIter_list→SA,wpAny_assign_Name→UM,wpAny_sequenceKey→UN,wpAny_pyIter_enum→UP,wpAny_call_entry→Rb,noFill_tuple_add→SX,seqSlot_of→U7,wpAny_execs_cons→Vc,lookupAlong_cons→Vd,checkBuiltinCall→Ve,wpAny_Try_except→Vf,wpAny_loadPart'→QC,wpAny_execs_nil→QV,letOwnedTupleGo→Rp,typeLookup_type→Rr,pushCells_keeps→Tv,codeAny_builtin→Tw,importedModules→Vx,wpAny_passesOwn→Vy,recursionLimit→Q9,wpAny_seqItems→TU,wpAny_setField→TV,attributeBase→Ox,behindInMarks→Qm,wpAny_holding→SN,swapsWithSole→Uq,swappedStores→Ur,seq_tuple_add→Ut,bootBuiltins→OL,codeAny_mono→Qn,wpAny_typeOf→Sg,codeAny_func→Tt,Within→UR,concat_meets→U1,mainGlobals→OJ,excClassObj→Pq,wpAny_field→Qv,sizeLine_eq→QY,keywordEach→Q0,sliceBounds→RC,subscripted→T7,lookupAlong→VC,wpAny_bind→NY,wpAny_pure→Oe,wpAny_mono→Pz,assignEach→PL,sysModules→Q4,call_meets→Q5,wpAny_call→RA,typeLookup→RB,builtinsNs→Sy,typeIs_int→TB,wpAny_rule→UO,compareOp→OM,swapsWith→OQ,cellsFrom→Qc,getMethod→R4,tupleKind→Sz,Arguments→Tq,pushCells→Tu,noteFrame→VA,lastMarks→VB,starEach→N5,FuncData→OG,boot_len→Py,binaryOp→PY,NameKind→Q3,backToKw→Sh,GenState→Uo,callWith→Uz,bindArgs→Vi,Program→Oh,BindsTo→Sj,OsState→UL,Keyword→Vz,Shared→NV,Around→OB,Result→TR,IsPart→Uu,Paired→VE,Value→NS,World→O8,Scope→Rc,CmpOp→UK,Model→VD
open PySem.Builtin.Tuple renaming tupleItemsOf→R6,tupleIsExact→R7,tupleExact→PX
open PySem.Calls renaming Name_function_global→R9,callWith_builtin→QK,evalArgs_plain→Q6,spliced_cons→Rm,Constant_str→Ub,spliced_nil→Ry
open PySem.Builtin.SmallTypes renaming nextOf→Qq
open PySem.Builtin.List renaming listTooLong→Qw
open Option renaming isSome_iff_exists→Ri,map_eq_some_iff→QP,isSome_some→Ug,getD_none→U3,map_some→Vu,some→OR
open Int renaming eq_ofNat_of_zero_le→OF,emod_lt_of_pos→Sf,toNat_natCast→PJ,emod_nonneg→Tj,le_antisymm→Vt,le_refl→P2
open PySem.Builtin.Dict renaming updateFrom→SE
open PySem.Heap renaming get?_push_of_some→N4,get?_update_other→QL,get?_update_self→RI,get?_push_size→Og,NewAttrErr→Vs,size_push→Qr,lt_size→N8,SameBut→Rg
open PySem.W renaming cellsFrom_some→Qe,methodCall_KW→RF,hideAll_none→RS,hideAll_get→QD,plainGet_of→RX,callWith_K0→TY,callWith_K→PV,codeRec_of→Rj,of_hideAll→Sb,emptyDict→Pu,methodObj→Sn,hasDictIn→So,plainOver→UA,kitx_list→UB,kitx_dict→UC,plainGet→RO,handedIn→U2,kia_one→Pt,instObj→P8,hideAll→S3,takerIn→S4,makesIn→Vj,findIn→PN,keepIn→PP,lookIn→Si,codeIn→TN,mg_of→SG,Frag→NQ,nsIn→Rf,fnOf→RD,isFn→UQ
open PySem.Obj renaming isFreed_of_fields→RJ,data_mapFields→Qj,mapFields→RW
open Bool renaming and_eq_false_iff→Ti,and_eq_true_iff→Pf,or_eq_false_iff→TH,false_ne_true→N9,false_eq_true→Ue,not_eq_true'→UI,and_eq_true→NX,eq_iff_iff→Rl,or_eq_true→S9,false_and→TQ,true_and→Ro,false_or→SI,or_true→UX,true_or→UY
open PySem.Around renaming frames_deeper→TC,under_plainId→TF,units→RM,under→US
open PySem.Heap.SameBut renaming update→TX
open Nat renaming lt_of_lt_of_le→Of,lt_of_le_of_lt→Ul,le_of_succ_le→Sx,lt_succ_of_lt→UE,lt_succ_self→SO,max_eq_right→SW,min_eq_right→U9,mod_eq_of_lt→Va,max_eq_left→To,min_eq_left→Vv,lt_irrefl→OA,le_trans→O4,ne_of_lt→Pr,le_of_lt→Rh,le_of_eq→RG,ne_of_gt→Sd,sub_self→Tc,sub_zero→Td,add_comm→UU,mul_comm→UV,le_refl→Ob,zero_le→P9
open Option.some renaming injEq→Ss,inj→OH
open ForInStep renaming yield→QU
open PySem.Expr renaming Subscript→P7,Attribute→Q8,Constant→SJ,ListComp→Uk,Compare→Tf,UnaryOp→UZ,BoolOp→Qu,Name→OK,Call→Ql
open PySem.NameKind renaming free→OP,cell→Pw
open PySem.Value renaming builtin→Q1,float→Vl,none→OI,bool→OS,type→Rx,ref→Oc,int→PD,str→PF
open Prod.mk renaming injEq→SF,inj→Vk
open PySem.Paired renaming length→SH
open PySem.Value.ref renaming inj→T9
open PySem.Str renaming ofString→N7
open PySem.Code renaming isFrame→UT
open PySem.Stmt renaming Assign→R1
open PySem.Scope renaming names→T3
open PySem.Pos renaming endLine→T4,line→Ra
open PySem.Data renaming fields→Vm
open False renaming elim→Qi
open True renaming intro→Qx
open PySem.BoolOp renaming And→Tz,Or→Uj
open PySem.Env renaming scope→QJ
open PyProof.Rows.IsTup renaming new→Vn
open Ne renaming symm→P4
open Iff renaming rfl→Rn
open Sum renaming inl→TZ,inr→T1
open Prod renaming mk→UF
open Or renaming inl→Ua
open Option renaming some→ZA,none→ZB
open Bool renaming true→ZC,false→ZD
open PySem renaming Addr→ZE,Stmt→ZF,Expr→ZG,Heap→ZH,sizeLine→ZI,wpAny→ZJ,model→ZK,codeAny→ZL
set_option Elab.async false
set_option compiler.extract_closed false
set_option linter.all false
set_option maxRecDepth 100000
set_option maxHeartbeats 8000000
abbrev V0:=PySem.Str->Option NS
abbrev V1:=NS->NV->Prop
abbrev V2:=List (PySem.Addr×PySem.Obj)
variable{A:OB}{E Q:V1}{K:NQ}{M:VD}{P prog q:Oh}{R:TR->NV->Prop}{bm bmE bs' its sub' tl us vs:List NS}{cd f ux v vl vu:NS}{fd fd_r:OG}{k0 k1 k2 k3 k5:Option NS}{op op':UK}{os:UL}{s s' s1:NV}{sc scope:Rc}{w:O8}
noncomputable section
abbrev nDb(x:PySem.Str):Prop:=(x == PySem.Str.ofString "__debug__")=ZD
def qr_(h:True:=by first|exact .inl rfl|exact .inr rfl|assumption):True:=trivial
def r_:=qr_._auto_1
def qs_(h:True:=by decide):True:=trivial
def s_:=qs_._auto_1
def qt_(h:True:=by intro _;rfl):True:=trivial
def t_:=qt_._auto_1
def qu_(h:True:=by first|exact Ua rfl|exact Or.inr (Ua rfl)|exact Or.inr (Or.inr rfl)):True:=trivial
def u_:=qu_._auto_1
def qv_(h:True:=by with_unfolding_all rfl):True:=trivial
def v_:=qv_._auto_1
def qw_(h:True:=by intro _ _;rfl):True:=trivial
def w_:=qw_._auto_1
def qx_(h:True:=by first|exact Ua rfl|exact Or.inr rfl):True:=trivial
def x_:=qx_._auto_1
def qy_(h:True:=by decide+kernel):True:=trivial
def y_:=qy_._auto_1
namespace L2
open PySem PySem.Spec PyProof.Rows
inductive V where
 |non|bl (b:Bool)|int (i:Int)|str (x:Str)|byt (b:Array UInt8)|flt (b:UInt64)|ref (a:ZE)|ty (n:String)
 deriving DecidableEq
def cL(s:ZF)(j:Nat):ZF:=match s with
 |.ClassDef _ _ _ body _ _ _ _ _ _ _=>body.getD j (.Pass ⟨0,0,0,0⟩)
 |_=>.Pass ⟨0,0,0,0⟩
def gz(s:ZF):Tq:=match s with
 |.FunctionDef _ a _ _ _ _ _ _ _ _=>a
 |_=>{posonlyargs:=[],args:=[],vararg:=ZB,kwonlyargs:=[],kw_defaults:=[],kwarg:=ZB,defaults:=[]}
def bA(s:ZF):List ZF:=match s with
 |.FunctionDef _ _ b _ _ _ _ _ _ _=>b
 |_=>[]
def ai(s:ZF):Rc:=match s with
 |.FunctionDef _ _ _ _ _ _ sc _ _ _=>sc
 |_=>{kind:=.function,names:=[],isGenerator:=ZD,isCoroutine:=ZD}
end L2
namespace Tr
open PySem PySem.Spec PyProof.Rows L2
inductive T where
 |non|bl (b:Bool)|int (i:Int)|str (x:Str)|tup (l:List T)|lst (l:List T)
  |scr (l:List Int)
  |dct (ks vs:List T)
  |ob (C:Str) (ns:List Str) (ts:List T)
inductive OT where
 |lst (l:List T)|dct (ks ts:List T)|dd (ks:List T) (rows:List (List T×List T))
  |ob (C:Str) (ns:List Str) (ls:List (List T))
def OT.view:OT->T
 |.lst l=>.lst l
 |.dct ks ts=>.dct ks ts
 |.dd ks rows=>.dct ks (rows.map λr=>.dct r.1 r.2)
 |.ob C ns ls=>.ob C ns (ls.map T.lst)
noncomputable def calmNames:List Str:=["__init__","__getattribute__","__getattr__","__class__"]
def Co:NS->Bool
 |.str _ _=>ZC
 |_=>ZD
def gQ:List Int->List Int->Bool
 |[],[] =>ZD
 |[],_::_=>ZC
 |_::_,[] =>ZD
 |a::l,b::m=>if a=b then gQ l m else decide (a<b)
structure RK where
 V:ZH->NS->List Int->Prop
 inj:∀{h v a b},V h v a->V h v b->a=b
 on:∀{h h':ZH} {v a},V h v a->(∀b o,h.get? b=ZA o->h'.get? b=ZA o)->V h' v a
 fst:∀{h v a},V h v a->∃ad xs n o m t,v=.ref ad/\h.get? ad=ZA o/\o.cls=.type "tuple"/\o.data=.seq xs n/\xs[0]?=ZA (.int m t)
 lt:∀{prog w A s E x y a b} {Q:Bool->NV->Prop},A.units+60<cLine->V s.heap x a->V s.heap y b->Q (gQ a b) s->ZJ (ZK prog w) A (keyLt' (tuples' ZC) x y) Q E s
variable (R:RK)
open Classical in
def RK.key(h:ZH)(v:NS):Option (List Int):=if e:∃ns,R.V h v ns then ZA e.choose else ZB
variable {R:RK}
end Tr
namespace Tr
open PySem PySem.Spec PyProof.Rows L2 PySem.W
def Ej(h:ZH):Frag:=(O7 h.objs.size).filterMap λa=>(h.get? a).map λo=>(a,o)
noncomputable def obF(K:Frag)(n:Str):Option (Str×Str×Tq×FuncBody×Rc×ZE×List (Str×ZE)×NS×ZE×Bool×Bool):=match nsIn K OJ n with
 |some (ZA (.ref f))=>match K.lookup f with
  |some ⟨_,_,.func d,_⟩=>ZA (d.name,d.qualname,d.params,d.body,d.scope,d.globals,d.closure,d.defaults,d.builtins,codeIn K d.code n,keepIn K (.ref f))
  |_=>ZB
 |_=>ZB
noncomputable def exF(n:Str)(st:ZF):Option (Str×Str×Tq×FuncBody×Rc×ZE×List (Str×ZE)×NS×ZE×Bool×Bool):=
 ZA (n,n,gz st,.stmts (bA st),ai st,OJ,[],.none,Sy,ZC,ZC)
def LS(K:Frag)(N:ZE)(n:Str):Bool:=match nsIn K N n with|some ZB=>ZC|_=>ZD
def MQ(K:Frag)(n:Str):Option Int:=match nsIn K OJ n with|some (ZA (.int i _))=>ZA i|_=>ZB
noncomputable def zu:List NS->Bool
 |[.type a,.type b,.type c,.type d] =>a == "ValueError" &&b == "Exception" &&c == "BaseException" &&d == "object"
 |_=>ZD
def under(D:Option ZE)(m:List NS):Bool:=match D with
 |none=>zu m
 |some D=>match m with
  |.ref E::m=>E == D&&zu m
  |_=>ZD
noncomputable def Gz(K:Frag)(D:Option ZE)(n:Str):Option ZE:=match nsIn K OJ n with
 |some (ZA (.ref C))=>match K.lookup C with
  |some ⟨.type t,_,.cls c,⟨[_,_,_,_,ZA (.builtin b),_]⟩⟩=>match c.mro,K.lookup c.ns with
   |.ref E::m,ZA ⟨_,_,.dict es _,_⟩=>
    if (t == "type" &&b == "ValueError.__new__" && !c.hasDel&&(es.toList.all λe=>Co e.key)&&calmNames.all (LS K c.ns)&&E == C&&under D m)=ZC then ZA C else ZB
   |_,_=>ZB
  |_=>ZB
 |_=>ZB
noncomputable def zf{α:Type}:List (Option α)->Option (List α)
 |[] =>ZA []
 |none::_=>ZB
 |some a::r=>match zf r with|some l=>ZA (a::l)|none=>ZB
def uH:List ZE->Bool
 |[] =>ZC
 |a::r=>(r.all λb=>!(a == b))&&uH r
noncomputable def MP(K:Frag):List Str->Bool
 |[] =>ZC
 |m::es=>match Gz K ZB m with
  |some D=>match zf (es.map (Gz K (ZA D)))with|some l=>uH (l++[D])|none=>ZD
  |none=>ZD
structure E8 where
 tab:List (Str×Nat)
 zs:List Str
 cs:List (Str×Int)
 es:List Str
noncomputable def yu(S:E8)(K:Frag):=(S.tab.map (λp=>obF K p.1),S.zs.all (LS K OJ),S.cs.map (λc=>MQ K c.1),MP K S.es)
def xW(S:E8)(top:Nat->ZF):=(S.tab.map (λp=>exF p.1 (top p.2)),ZC,S.cs.map (λc=>ZA c.2),ZC)
noncomputable def LU(K:Frag)(C:ZE)(m q:Str):Option (Str×Str×Tq×FuncBody×Rc×ZE×List (Str×ZE)×NS×ZE×Bool×Bool×Bool):=match findIn K (.ref C) m with
 |some (ZA (.ref f))=>match K.lookup f with
  |some ⟨_,_,.func d,_⟩=>ZA (d.name,d.qualname,d.params,d.body,d.scope,d.globals,d.closure,d.defaults,d.builtins,codeIn K d.code q,keepIn K (.ref f),isFn K (.ref f))
  |_=>ZB
 |_=>ZB
noncomputable def Mx(m q:Str)(st:ZF):Option (Str×Str×Tq×FuncBody×Rc×ZE×List (Str×ZE)×NS×ZE×Bool×Bool×Bool):=
 ZA (m,q,gz st,.stmts (bA st),ai st,OJ,[],.none,Sy,ZC,ZC,ZC)
def JI(K:Frag)(C:ZE)(f:Str):Bool:=match findIn K (.ref C) f with|some ZB=>ZC|_=>ZD
def IC(K:Frag)(C:ZE):Bool:=match findIn K (.ref C) "__setattr__" with|some (ZA (.builtin b))=>b == "object.__setattr__" |_=>ZD
def HX(K:Frag)(C:ZE)(as:List Str):Bool:=plainGet K C Str.empty&&hasDictIn K C&&plainOver K C&&IC K C&&makesIn K C&&keepIn K (.ref C)&&as.all (JI K C)
structure Hs where
 c:Str
 i:Nat
 as:List Str
 ms:List (Str×Str×Nat)
noncomputable def obK(K:Frag)(A:Hs):=match nsIn K OJ A.c with
 |some (ZA (.ref C))=>ZA (HX K C A.as,A.ms.map λ(m:Str×Str×Nat)=>LU K C m.1 m.2.1)
 |_=>ZB
def exK(top:Nat->ZF)(A:Hs):=ZA (ZC,A.ms.map λ(m:Str×Str×Nat)=>Mx m.1 m.2.1 (cL (top A.i) m.2.2))
structure xN where
 a:E8
 ks:List Hs
def Dd(S:xN)(K:Frag):=(yu S.a K,S.ks.map (obK K))
def Cc(S:xN)(top:Nat->ZF):=(xW S.a top,S.ks.map (exK top))
end Tr
namespace G
open PySem PySem.Spec PyProof.Rows L2 Tr
def top(i:Nat):ZF:=Pg.main.body.getD i (.Pass ⟨0,0,0,0⟩)
noncomputable def ES:E8:=⟨([("_law_cell",49),("_law_drawn",50),("_law_events",53),("_law_letter",52),("_law_clock",51),("_law_record",54),("is_long",15),("is_whole",13),("is_within",14),("is_pace",18),("rises",16),("are_readings",17),("is_clock",19),("are_clocks",20),("is_event",21)]:List (Str×Nat))++([("is_delay",22),("is_letter",23),("are_letters",24),("is_record",25),("need_record",26),("_law_new",60),("events",28),("is_better",41),("settle",40),("greatest_world",43),("bounds_of_clock",36),("bounds_of_letter",37),("bounds",38),("world",44),("has_world",45)]:List (Str×Nat))++([("_law_next",61),("if_record",30),("with_letter",31),("need_number",27),("with_clock",33),("with_reading",34),("without_letter",32),("_law_told",59),("_law_table",56),("_law_bounds",55),("_law_has",57),("_law_good",62),("law",63),("_law_refused",58)]:List (Str×Nat)),(["ValueError","all","bool","dict","enumerate","int","isinstance","len","max","min","range","reversed","tuple"]:List Str),[("MOST_CLOCKS",4),("MOST_LETTERS",8),("MOST_READINGS",4),("LAST_READING",99),("SLOWEST",9),("LONGEST",999)],["ClockError","NoRecord","NoNumber","Nothing"]⟩
noncomputable def asks:xN:=⟨ES,[⟨"Sketch",47,["past","ahead"],[("__init__","Sketch.__init__",0),("counts","Sketch.counts",9),("record","Sketch.record",1),("good","Sketch.good",6),("back","Sketch.back",7),("forth","Sketch.forth",8),("go_on","Sketch.go_on",2),("write","Sketch.write",3),("read","Sketch.read",4),("cut","Sketch.cut",5)]⟩]⟩
def vw:Oh:=PySem.W.view Pg [63]
noncomputable def lse:List Str:=(["_wall","ClockError","NoRecord","NoNumber","Nothing","MOST_CLOCKS","MOST_LETTERS","MOST_READINGS","LAST_READING","SLOWEST","LONGEST","is_whole","is_within","is_long","rises","are_readings","is_pace","is_clock","are_clocks","is_event"]:List Str)++(["is_delay","is_letter","are_letters","is_record","need_record","need_number","events","if_record","with_letter","without_letter","with_clock","with_reading","bounds_of_clock","bounds_of_letter","bounds","settle","is_better","greatest_world","world","has_world"]:List Str)++(["Sketch","_law_cell","_law_drawn","_law_clock","_law_letter","_law_events","_law_record","_law_bounds","_law_table","_law_has","_law_refused","_law_told","_law_new","_law_next","_law_good"]:List Str)
noncomputable def lhs(w:O8)(h:ZH)(d:Drawn)(t:Nat)(os:UL):=(PySem.W.topFrom treeTable Pg w 9000 ⟨h,⟨[]⟩,d,t,os⟩).map (λs=>(PySem.W.openSeen vw lse (Vx Pg.main.body) (λ_=>ZC) ZC s,Dd asks (Ej s.heap)))
def rhs(w:O8):=ZA (PySem.W.openGood vw lse,Cc asks top)
def lhs_r:lhs=lhs:=rfl
def rhs_r:rhs=rhs:=rfl
end G
section
lay_quick G.lhs G.rhs
name_quick lhsz for G.lhs by G.lhs_r
name_quick rhsz for G.rhs by G.rhs_r
open PySem PySem.W PyProof.Rows
set_option maxRecDepth 100000 in
theorem G.NK(w:O8)(os:UL):PySem.W.Fast.lhsz w (boot_heap w.params) boot_drawn boot_toks os=PySem.W.Fast.rhsz w:=by kernel_rfl
end
namespace L2
open PySem PySem.Spec PyProof.Rows
abbrev Key:=Sum Int Str
def sR:Key->NS->Bool
 |.inl k,v=>Value.isInt k v
 |.inr x,v=>Value.isStrOf x v
def keyH(w:O8):Key->Int
 |.inl k=>hashInt k
 |.inr x=>hashStr w x
theorem cK:∀{k:Key}{v:NS},sR k v=ZC->(∃i t,k=TZ i/\v=PD i t)\/(∃x t,k=T1 x/\v=PF x t)
 |.inl i,v,h=>by
  obtain⟨t,e⟩:=Value.isInt_shape (k:=i) (v:=v) h
  exact .inl ⟨i,t,rfl,e⟩
 |.inr x,v,h=>by
  obtain⟨t,e⟩:=Value.isStrOf_shape (x:=x) (v:=v) h;exact .inr ⟨x,t,rfl,e⟩
def Bc(i:Int)(t:Tok):sR (.inl i) (.int i t)=ZC:=by simp[sR,Value.isInt]
def Bb(x:Str)(t:Tok):sR (.inr x) (.str x t)=ZC:=by simp[sR,Value.isStrOf]
def JW(a b:Int):decide ((TZ a:Key)=TZ b)=(a == b):=by
 by_cases e:a=b
 ·subst e;simp
 ·have h:¬ (TZ a:Key)=TZ b:=λq=>e (TZ.inj q)
  rw[decide_eq_false h];exact(beq_eq_false_iff_ne.mpr e).symm
def JS(a b:Str):decide ((T1 a:Key)=T1 b)=decide (a=b):=by
 by_cases e:a=b
 ·subst e;simp
 ·have h:¬ (T1 a:Key)=T1 b:=λq=>e (T1.inj q)
  rw[decide_eq_false h,decide_eq_false e]
def JV(a:Int)(b:Str):decide ((TZ a:Key)=T1 b)=ZD:=decide_eq_false (λq=>nomatch q)
def JT(a:Str)(b:Int):decide ((T1 a:Key)=TZ b)=ZD:=decide_eq_false (λq=>nomatch q)
def cW(prog:Oh)(w:O8):PySem.KeyKind prog w Key where
 is:=sR
 hash:=keyH w
 inj:=λv a b ha hb=>by
  rcases cK ha with⟨i,t,rfl,rfl⟩|⟨x,t,rfl,rfl⟩
  ·rcases cK hb with⟨j,u,rfl,e⟩|⟨y,u,rfl,e⟩
   ·injection e with e1 _;rw[e1]
   ·exact nomatch e
  ·rcases cK hb with⟨j,u,rfl,e⟩|⟨y,u,rfl,e⟩
   ·exact nomatch e
   ·injection e with e1 _;rw[e1]
 byValue:=λk v h=>by
  rcases cK h with⟨i,t,rfl,rfl⟩|⟨x,t,rfl,rfl⟩ <;> rfl
 pyHash:=λhv h=>by
  rcases cK hv with⟨i,t,rfl,rfl⟩|⟨x,t,rfl,rfl⟩
  ·exact wpAny_pyHash_int h
  ·exact wpAny_pyHash_str h
 eqBool:=λhu hv h=>by
  rcases cK hu with⟨i,t,rfl,rfl⟩|⟨x,t,rfl,rfl⟩
  ·rcases cK hv with⟨j,u,rfl,rfl⟩|⟨y,u,rfl,rfl⟩
   ·rw[JW]at h;exact wpAny_eqBool_int h
   ·rw[JV]at h;exact SeqAt.EqAt.int_str i t y u _ _ _ _ h
  ·rcases cK hv with⟨j,u,rfl,rfl⟩|⟨y,u,rfl,rfl⟩
   ·rw[JT]at h;exact SeqAt.EqAt.str_int x t j u _ _ _ _ h
   ·rw[JS]at h;exact wpAny_eqBool_str h
 «strs»:=λk x t v h=>by
  rcases cK h with⟨i,u,rfl,e⟩|⟨y,u,rfl,e⟩
  ·exact nomatch e
  ·injection e with e1 _
   subst e1;cases v <;> rfl
def wR(prog:Oh)(w:O8)(i:Int)(t:Tok):(cW prog w).is (.inl i) (.int i t)=ZC:=Bc i t
def wQ(prog:Oh)(w:O8)(x:Str)(t:Tok):(cW prog w).is (.inr x) (.str x t)=ZC:=Bb x t
def RelV:V->NS->Prop
 |.non,u=>u=OI
 |.bl b,u=>u=OS b
 |.int i,u=>∃t,u=PD i t
 |.str x,u=>∃t,u=PF x t
 |.byt b,u=>∃t,u=Value.bytes b t
 |.flt b,u=>∃t,u=Vl b t
 |.ref a,u=>u=Oc a
 |.ty n,u=>u=Rx n
abbrev Vals:List V->List NS->Prop:=VE RelV
variable{xs:List V}
def Vals.length(r:Vals xs us):xs.length=us.length:=SH r
theorem Vals.get:∀{xs:List V}{us:List NS}{i:Nat}{x:V},Vals xs us->xs[i]?=ZA x->∃u,us[i]?=ZA u/\RelV x u
 |_,_,_,_,.nil,e=>by simp at e
 |_,_,0,_,.cons r _,e=>by simp at e;subst e;exact⟨_,rfl,r⟩
 |_,_,i+1,x,.cons _ t,e=>by
  obtain⟨u,h1,h2⟩:=Vals.get (i:=i) (x:=x) t (by simpa using e)
  exact⟨u,by simpa using h1,h2⟩
theorem Vals.append:∀{xs ys:List V}{us ws:List NS},Vals xs us->Vals ys ws->Vals (xs++ys) (us++ws)
 |_,_,_,_,.nil,s=>s
 |_,_,_,_,.cons r t,s=>.cons r (Vals.append t s)
theorem Vals.take:∀{xs:List V}{us:List NS}(n:Nat),Vals xs us->Vals (xs.take n) (us.take n)
 |_,_,0,_=>.nil
 |_,_,_+1,.nil=>.nil
 |_,_,n+1,.cons r t=>.cons r (Vals.take n t)
theorem Vals.drop:∀{xs:List V}{us:List NS}(n:Nat),Vals xs us->Vals (xs.drop n) (us.drop n)
 |_,_,0,r=>r
 |_,_,_+1,.nil=>.nil
 |_,_,n+1,.cons _ t=>Vals.drop n t
def RelO:Option V->Option NS->Prop
 |some v,ZA u=>RelV v u
 |none,ZB=>True
 |_,_=>False
def KV{κ:Type}:List (κ×V)->List (κ×NS)->Prop:=VE λ(p:κ×V)(q:κ×NS)=>p.1=q.1/\RelV p.2 q.2
def kV:Key->V
 |.inl i=>.int i
 |.inr x=>.str x
inductive HO where
  |lst (xs:List V)
  |tup (xs:List V)
  |dK (kvs:List (Key×V))|dT (kvs:List (List Key×V))
  |set (S:Int->Bool) (n:Nat)
  |ins (C dx:ZE) (fs:List (Str×V))
  |own (x:ZE)
  |xd (fs:List (Str×V))
  |met (f x:ZE)
  |rng (lo hi:Int)
  |frz (o:Obj) (u:HO)
  |tbl (ps:Array NS)
  |ext (φ:ZH->Prop)
abbrev Hp:=ZE->Option HO
def upd(H:Hp)(a:ZE)(o:HO):Hp:=λb=>if b=a then ZA o else H b
variable{H:Hp}{a:ZE}
def aJ{o:HO}:upd H a o a=ZA o:=by unfold upd;rw[if_pos rfl]
variable{b:ZE}
def aG{o:HO}(h:b≠a):upd H a o b=H b:=by unfold upd;rw[if_neg h]
def tL{o u:HO}:upd (upd H a o) a u=upd H a u:=by
 funext b;unfold upd;split <;> rfl
def jR{o u:HO}(h:H a=ZA o)(h':H b=ZA u)(d:o≠u):a≠b:=by
 intro e;subst e;rw[h]at h';exact d (OH h')
def cy{o:HO}(h:H a=ZA o)(h':H b=ZB):a≠b:=by
 intro e;subst e;rw[h]at h';cases h'
section
variable (P:Oh)(w:O8)
def ObjOk(H:Hp)(h:ZH)(a:ZE):HO->Prop
 |.lst xs=>xs.length<=ZI/\∃(its:List NS)(n:Nat),Vals xs its/\h.get? a=ZA {cls:=.type "list",data:=.seq its.toArray n}
 |.tup xs=>xs.length<=ZI/\∃its:List NS,Vals xs its/\VF h a its.toArray
 |.dK kvs=>kvs.length<=ZI/\(a == Q4)=ZD/\∃vs,KV kvs vs/\h.DictOf (cW P w) a vs
 |.dT kvs=>kvs.length<=ZI/\(a == Q4)=ZD/\∃xs:List (List Key×ZE×NS),
   VE (λ(p:List Key×V)(q:List Key×ZE×NS)=>p.1=q.1/\H q.2.1=ZA (.tup (p.1.map kV))/\RelV p.2 q.2.2) kvs xs ∧
   ∃o es ep,h.get? a=ZA o/\o.ExactDict/\o.data=.dict es ep/\es.toList=xs.map (entryOfKey (Sz (cW P w)))/\(xs.map (·.1)).Nodup
 |.set S n=>h.SetOf (intKind P w) a S n
 |.ins C dx fs=>H dx=ZA (.own a)/\fs.length<=1000/\dx≠a/\h.get? a=ZA (P8 C dx) ∧
   ∃mA,h.Ns1 dx mA/\(∀f,RelO (fs.lookup f) (mA f))/\UR mA (fs.map (·.1))
 |.own _=>∃o,h.get? a=ZA o
 |.xd fs=>∃mA,h.Ns1 a mA/\∀f,RelO (fs.lookup f) (mA f)
 |.rng lo hi=>∃t u v,h.get? a=ZA {cls:=.type "range",data:=.fields #[.int lo t,.int hi u,.int 1 v]}
 |.frz o u=>h.get? a=ZA o/\ObjOk H h a u
 |.tbl ps=>h.get? a=ZA {cls:=.none,data:=.fields ps}
 |.met f x=>h.get? a=ZA (Sn (.ref f) (.ref x))
 |.ext φ=>φ h/\(∃o,h.get? a=ZA o)/\∀h1 h2:ZH,φ h1->(∀o,h1.get? a=ZA o->h2.get? a=ZA o)->φ h2
def HOk(H:Hp)(h:ZH):Prop:=∀a o,H a=ZA o->ObjOk P w H h a o
end
variable{H':Hp}{h h':ZH}
section
variable {o:HO}
theorem ObjOk.lt(x:ObjOk P w H h a o):a<h.objs.size:=by
 cases o with
 |lst xs=>obtain⟨_,_,_,_,e⟩:=x;exact N8 e
 |tup xs=>obtain⟨_,_,_,p⟩:=x;exact p.lt
 |dK kvs=>obtain⟨_,_,_,_,o,_,_,e,_⟩:=x;exact N8 e
 |dT kvs=>obtain⟨_,_,_,_,o,_,_,e,_⟩:=x;exact N8 e
 |set S n=>obtain⟨o,_,_,_,e,_⟩:=x;exact N8 e
 |ins C dx fs=>obtain⟨_,_,_,e,_⟩:=x;exact N8 e
 |own y=>obtain⟨_,e⟩:=x;exact N8 e
 |xd fs=>obtain⟨_,⟨_,_,_,e,_⟩,_⟩:=x;exact N8 e
 |rng lo hi=>obtain⟨_,_,_,e⟩:=x;exact N8 e
 |frz ob u=>obtain⟨e,_⟩:=x;exact N8 e
 |tbl ps=>exact N8 (show h.get? a=ZA _ from x)
 |met f y=>exact N8 (show h.get? a=ZA _ from x)
 |ext φ=>obtain⟨_,⟨_,e⟩,_⟩:=x;exact N8 e
theorem Paired.NC{F G:α->β->Prop}:∀{l₁:List α}{l₂:List β},VE F l₁ l₂->(∀a b,F a b->G a b)->VE G l₁ l₂
 |_,_,.nil,_=>.nil
 |_,_,.cons r t,f=>.cons (f _ _ r) (Paired.NC t f)
def ObjOk.Nc(x:ObjOk P w H h a o)(k:∀b u,(b=a\/H b=ZA (.own a))->h.get? b=ZA u->h'.get? b=ZA u)
  (ho:∀b,H b=ZA (.own a)->H' b=ZA (.own a)) (ht:∀b xs,H b=ZA (.tup xs)->H' b=ZA (.tup xs)):ObjOk P w H' h' a o:=by
 induction o with
 |lst xs=>obtain⟨z,its,n,r,e⟩:=x;exact⟨z,its,n,r,k _ _ (.inl rfl) e⟩
 |tup xs=>obtain⟨z,its,r,ob,e,c⟩:=x;exact⟨z,its,r,ob,k _ _ (.inl rfl) e,c⟩
 |dK kvs=>obtain⟨z,y,vs,r,ob,es,ep,e,c⟩:=x;exact⟨z,y,vs,r,ob,es,ep,k _ _ (.inl rfl) e,c⟩
 |dT kvs=>
  obtain⟨z,y,xs,r,ob,es,ep,e,c⟩:=x
  exact⟨z,y,xs,Paired.NC r λp q z=>⟨z.1,ht _ _ z.2.1,z.2.2⟩,ob,es,ep,k _ _ (.inl rfl) e,c⟩
 |set S n=>obtain⟨ob,es,ep,t,e,c⟩:=x;exact⟨ob,es,ep,t,k _ _ (.inl rfl) e,c⟩
 |ins C dx fs=>
  obtain⟨d,z,ne,e,mA,⟨od,es,ep,e2,c⟩,r⟩:=x
  exact⟨ho _ d,z,ne,k _ _ (.inl rfl) e,mA,⟨od,es,ep,k _ _ (.inr d) e2,c⟩,r⟩
 |own y=>obtain⟨ob,e⟩:=x;exact⟨ob,k _ _ (.inl rfl) e⟩
 |xd fs=>obtain⟨mA,⟨od,es,ep,e,c⟩,r⟩:=x;exact⟨mA,⟨od,es,ep,k _ _ (.inl rfl) e,c⟩,r⟩
 |rng lo hi=>obtain⟨t,u,v,e⟩:=x;exact⟨t,u,v,k _ _ (.inl rfl) e⟩
 |frz ob u ih=>obtain⟨e,q⟩:=x;exact⟨k _ _ (.inl rfl) e,ih q⟩
 |tbl ps=>
  have e:h.get? a=ZA {cls:=.none,data:=.fields ps}:=x
  show h'.get? a=ZA {cls:=.none,data:=.fields ps}
  exact k a _ (.inl rfl) e
 |met f y=>
  have e:h.get? a=ZA (Sn (.ref f) (.ref y)):=x
  show h'.get? a=ZA (Sn (.ref f) (.ref y))
  exact k a _ (.inl rfl) e
 |ext φ=>obtain⟨p,⟨o,e⟩,st⟩:=x;exact⟨st _ _ p λo q=>k _ _ (.inl rfl) q,⟨o,k _ _ (.inl rfl) e⟩,st⟩
theorem HOk.lt(x:HOk P w H h)(e:H a=ZA o):a<h.objs.size:=(x a o e).lt
def HOk.fresh(x:HOk P w H h)(e:h.objs.size<=a):H a=ZB:=by
 cases q:H a with
 |none=>rfl
 |some u=>exact absurd (Of (x.lt q) e) (OA _)
def HOk.kept(x:HOk P w H h)(k:∀b u,h.get? b=ZA u->h'.get? b=ZA u):HOk P w H h':=λa o e=>
 (x a o e).Nc (λb u _ q=>k b u q) (λ_ q=>q) λ_ _ q=>q
def HOk.laid(x:HOk P w H h)(k:∀b u,h.get? b=ZA u->h'.get? b=ZA u)(hp:h.objs.size<=a)(new:ObjOk P w (upd H a o) h' a o):HOk P w (upd H a o) h':=λb u e=>by
 have hn:=x.fresh hp
 by_cases hb:b=a
 ·subst hb;rw[aJ]at e;cases e;exact new
 ·rw[aG hb]at e
  exact(x b u e).Nc (λc v _ q=>k c v q) (λc q=>by rw[aG (cy q hn)];exact q) λc xs q=>by rw[aG (cy q hn)];exact q
end
def Rd(H:Hp)(a:ZE)(u:HO):Prop:=H a=ZA u\/∃o,H a=ZA (.frz o u)
def Rd.ok{u:HO}(r:Rd H a u)(x:HOk P w H h):ObjOk P w H h a u:=by
 rcases r with r|⟨o,r⟩
 ·exact x a u r
 ·obtain⟨_,q⟩:=x a _ r
  exact q
def MI:Option HO->Prop
 |some (.lst _)=>True
 |some (.dK _)=>True
 |some (.dT _)=>True
 |some (.set _ _)=>True
 |some (.ins _ _ _)=>True
 |some (.ext _)=>True
 |_=>False
variable{e:ZE}
section
variable {x:ZE}{o':HO}
def HOk.write(ok:HOk P w H h)(mu:MI (H x))(he:e=x\/H e=ZA (.own x))(k:∀b u,b≠e->h.get? b=ZA u->h'.get? b=ZA u)(heo:∃u,h'.get? e=ZA u)
  (new:ObjOk P w (upd H x o') h' x o'):HOk P w (upd H x o') h':=λb u q=>by
 have nown:∀c y,H c=ZA (.own y)->c≠x:=λc y r z=>by subst z;rw[r]at mu;exact mu
 have ntup:∀c xs,H c=ZA (.tup xs)->c≠x:=λc xs r z=>by subst z;rw[r]at mu;exact mu
 by_cases hb:b=x
 ·subst hb;rw[aJ]at q;cases q;exact new
 ·rw[aG hb]at q
  by_cases hbe:b=e
  ·have q':H b=ZA (.own x):=by
    rcases he with z|z
    ·exact absurd (hbe.trans z) hb
    ·rw[hbe];exact z
   rw[q]at q';cases q';obtain⟨v,hv⟩:=heo;exact⟨v,by rw[hbe];exact hv⟩
  ·refine(ok b u q).Nc (λc v hc r=>k c v ?_ r) (λc r=>by rw[aG (nown c b r)];exact r) λc xs r=>by rw[aG (ntup c xs r)];exact r
   rcases hc with rfl|hc
   ·exact hbe
   ·rintro rfl
    rcases he with z|z
    ·exact nown c b hc z
    ·rw[hc]at z;cases z;exact hb rfl
end
structure Un (fs ex:List ZE)(H H':Hp)(h h':ZH):Prop where
 keep:∀b o,h.get? b=ZA o->H b=ZB->b∉fs->b∉ex->h'.get? b=ZA o
 slot:∀b o,h.get? b=ZA o->H b=ZB->b∈fs->b∉ex->∃sl,h'.get? b=ZA {o with slots:=sl}
 free:∀b o,h.get? b=ZA o->H b=ZB->b∉ex->H' b=ZB
 there:∀b o,h.get? b=ZA o->b∉ex->∃o',h'.get? b=ZA o'
 tups:∀b xs,H b=ZA (.tup xs)->H' b=ZA (.tup xs)
 frzs:∀b o u,H b=ZA (.frz o u)->H' b=ZA (.frz o u)
 tbls:∀b ps,H b=ZA (.tbl ps)->∃more,H' b=ZA (.tbl (ps++more))
section
variable {fs fs' ex ex':List ZE}{H1 H2:Hp}{h1 h2:ZH}{x:ZE}{o:HO}
def Un.any(u:Un fs ex H H1 h h1){ob:Obj}(q:h.get? b=ZA ob)(n:H b=ZB)(hx:b∉ex):∃sl,h1.get? b=ZA {ob with slots:=sl}:=by
 by_cases hb:b∈fs
 ·exact u.slot b ob q n hb hx
 ·exact⟨ob.slots,u.keep b ob q n hb hx⟩
def Un.kept(k:∀b u,h.get? b=ZA u->h'.get? b=ZA u):Un fs ex H H h h':=
 ⟨λb ob q _ _ _=>k b ob q,λb ob q _ _ _=>⟨ob.slots,k b ob q⟩,λ_ _ _ n _=>n,λb ob q _=>⟨ob,k b ob q⟩,λ_ _ q=>q,λ_ _ _ q=>q,λ_ ps q=>⟨#[],by rw[q];simp⟩⟩
def Un.refl:Un fs ex H H h h:=Un.kept λ_ _ q=>q
def Un.laid(k:∀b u,h.get? b=ZA u->h'.get? b=ZA u)(hp:h.objs.size<=a)(hn:H a=ZB):Un fs ex H (upd H a o) h h' where
 keep:=λb u q _ _ _=>k b u q
 slot:=λb u q _ _ _=>⟨u.slots,k b u q⟩
 free:=λb u q n _=>by rw[aG (Pr (Of (N8 q) hp))];exact n
 there:=λb u q _=>⟨u,k b u q⟩
 tups:=λb xs q=>by rw[aG (cy q hn)];exact q
 frzs:=λb u xs q=>by rw[aG (cy q hn)];exact q
 tbls:=λb ps q=>⟨#[],by rw[aG (cy q hn),q];simp⟩
def Un.write(mu:MI (H x))(he:e=x\/H e=ZA (.own x))(k:∀b u,b≠e->h.get? b=ZA u->h'.get? b=ZA u)(heo:∃u,h'.get? e=ZA u):Un fs ex H (upd H x o) h h':=by
 have hx:∀b,H b=ZB->b≠x:=λb n z=>by subst z;rw[n]at mu;exact mu
 have hb:∀b,H b=ZB->b≠e:=λb n z=>by
  subst z;rcases he with r|r
  ·exact hx b n r
  ·rw[n]at r;cases r
 have hm:∀b u,H b=ZA u->¬ MI (ZA u)->b≠x:=λb u q nm z=>by subst z;rw[q]at mu;exact nm mu
 refine⟨λb u q n _ _=>k b u (hb b n) q,λb u q n _ _=>⟨u.slots,k b u (hb b n) q⟩,λb u q n _=>by rw[aG (hx b n)];exact n,λb u q _=>?_,
  λb xs q=>by rw[aG (hm b _ q λz=>z)];exact q,λb u xs q=>by rw[aG (hm b _ q λz=>z)];exact q,λb ps q=>⟨#[],by rw[aG (hm b _ q λz=>z),q];simp⟩⟩
 by_cases hbe:b=e
 ·subst hbe;exact heo
 ·exact⟨u,k b u hbe q⟩
end
def trk(h:ZH)(H:Hp):List ZE:=(O7 h.objs.size).filter λa=>(H a).isSome
def uY(h:ZH)(H:Hp):ZH:=S3 h (trk h H)
def Bh(h:ZH)(H:Hp):(uY h H).objs.size=h.objs.size:=PySem.W.hideAll_size _ _
def D8{o:Obj}(e:h.get? b=ZA o)(n:H b=ZB):(uY h H).get? b=ZA o:=
 QD _ e λhm=>by
  have q:(H b).isSome=ZC:=(RY.mp hm).2;rw[n]at q;simp at q
def Gy{o:Obj}(e:(uY h H).get? b=ZA o):h.get? b=ZA o/\H b=ZB:=by
 have e':h.get? b=ZA o:=Sb (trk h H) e;refine⟨e',?_⟩
 cases q:H b with
 |none=>rfl
 |some x=>
  have hm:b∈trk h H:=RY.mpr ⟨Pv.mpr (N8 e'),by simp[q]⟩
  have z:(uY h H).get? b=ZB:=RS (trk h H) hm;rw[z]at e;cases e
def Hl(g h:ZH)(L:ZE):V2:=(O7 h.objs.size).filterMap λa=>if a=L\/(g.get? a).isSome=ZC then ZB else(h.get? a).map λo=>(a,o)
def cb(g h:ZH)(L d:ZE):V2:=(Hl g h L).filter λp=>decide (p.1≠d)
structure Mod (K:NQ)(mg:V0)(base:ZH):Prop where
 kin:K.In base
 glob:base.Ns OJ mg
 blt:∃mb,base.Ns Sy mb/\∀x:Str,x≠ "__name__"->mb x=OL x
 nolimit:base.NoLimit
structure Cx where
 prog:Oh
 w:O8
 K:NQ
 mg:V0
 base:ZH
 A:OB
 N:List Str
 s₀:NV
 H₀:Hp
 env:Env
 outer:List Env
 stack:List Env
 ex:List ZE
 fn:Str->Bool
 calm:Bool
 pn:V2
 xe:V1
def nF(l:List Env):List ZE:=l.filterMap (·.frame)
abbrev Cx.fs(X:Cx):List ZE:=nF X.outer
def lX(sc:Rc)(x:Str):Prop:=sc.names.lookup x=ZA .local\/sc.names.lookup x=ZA .cell\/sc.names.lookup x=ZA .free
def Loc(sc:Rc)(x:Str):Prop:=sc.names.lookup x=ZA .local\/sc.names.lookup x=ZA .cell
def Look(env:Env)(h:ZH)(m:V0)(x:Str)(u:NS):Prop:=
 (env.kindOf x=ZA .local/\m x=ZA u)\/((env.kindOf x=ZA .cell\/env.kindOf x=ZA .free)/\∃c,env.cells.lookup x=ZA c/\h.IsCell c (ZA u))
structure Cx.Ok (X:Cx):Prop where
 mod:Mod X.K X.mg X.base
 kind:X.env.scope.kind=.function
 glob:X.env.globals=OJ
 blt:X.env.builtins=Sy
 above:X.s₀.heap.objs.size<=X.env.locals
 inj:∀x y c,X.env.cells.lookup x=ZA c->X.env.cells.lookup y=ZA c->x=y
 has:∀x,(X.env.kindOf x=ZA .cell\/X.env.kindOf x=ZA .free)->∃c,X.env.cells.lookup x=ZA c
 cab:∀x c,X.fn x=ZC->X.env.cells.lookup x=ZA c->X.s₀.heap.objs.size<=c
 hd:X.calm=ZC->X.A.handled=ZB
 frames:X.A.frames=ZA X.stack
 stk:X.stack=X.outer\/(X.stack=X.env::X.outer/\X.env.frame=ZA X.env.locals)
 exf:∀b∈X.ex,b≠X.env.locals/\∀x c,X.env.cells.lookup x=ZA c->c≠b
 bs:∀b o,X.base.get? b=ZA o->X.s₀.heap.get? b=ZA o/\X.H₀ b=ZB
 bsz:X.base.objs.size<=X.s₀.heap.objs.size
 noex:∀b o,X.base.get? b=ZA o->b∉X.ex
 exfs:∀b∈X.ex,b∉X.fs
 funs:X.s₀.heap.FunFrames X.base X.outer
 frf:∀b∈X.fs,X.H₀ b=ZB
structure Inv (X:Cx)(lm:V2)(σ:List (Option V))(H:Hp)(s:NV):Prop where
 ok:X.Ok
 os:s.os=X.s₀.os
 bare:SM s.gens
 base:Un X.fs X.ex X.H₀ H X.s₀.heap s.heap
 loc:∃m,s.heap.Ns X.env.locals m/\∀(i:Nat)(x:Str)(v:V),X.N[i]?=ZA x->σ[i]?=ZA (ZA v)->lX X.env.scope x->∃u,RelV v u/\Look X.env s.heap m x u
 cell:∀x c,X.env.cells.lookup x=ZA c->∃v,s.heap.IsCell c v
 free:H X.env.locals=ZB
 freeC:∀x c,X.env.cells.lookup x=ZA c->H c=ZB
 pin:∀p∈X.pn++lm,s.heap.get? p.1=ZA p.2/\H p.1=ZB/\p.1≠X.env.locals/\p.1∉X.fs/\∀v,p.2.data≠ .cell v
 hok:HOk X.prog X.w H s.heap
 len:σ.length=X.N.length
variable{N:List Str}{X:Cx}{it:ZE}{lm:V2}{v:V}{x:Str}
section
variable {σ:List (Option V)}
def Cx.Ok.NO(ok:X.Ok){o:Obj}(e:X.base.get? b=ZA o):b∉X.fs:=λhb=>by
 have:=(ok.funs.mem hb).1;rw[e]at this;cases this
theorem Inv.bs(I:Inv X lm σ H s):∀b o,X.base.get? b=ZA o->s.heap.get? b=ZA o/\H b=ZB:=λb o e=>
 ⟨I.base.keep b o (I.ok.bs b o e).1 (I.ok.bs b o e).2 (I.ok.NO e) (I.ok.noex b o e),I.base.free b o (I.ok.bs b o e).1 (I.ok.bs b o e).2 (I.ok.noex b o e)⟩
def Inv.bk(I:Inv X lm σ H s):∀b o,X.base.get? b=ZA o->s.heap.get? b=ZA o:=λb o e=>(I.bs b o e).1
theorem Inv.mod(I:Inv X lm σ H s):Mod X.K X.mg X.base:=I.ok.mod
def Inv.kIn(I:Inv X lm σ H s):X.K.In s.heap:=I.ok.mod.kin.keeps I.bk
theorem Inv.lt(I:Inv X lm σ H s):X.env.locals<s.heap.objs.size:=let ⟨_,hn,_⟩:=I.loc;hn.lt
def Inv.sz(I:Inv X lm σ H s):X.s₀.heap.objs.size<=s.heap.objs.size:=O4 I.ok.above (Rh I.lt)
def Inv.NP(I:Inv X lm σ H s)(h:s.heap.objs.size<=a):a∉X.fs:=λhb=>by
 obtain⟨_,o,ho,_⟩:=I.ok.funs.mem hb;exact absurd (Of (N8 ho) (O4 I.sz h)) (OA _)
def Inv.cne(I:Inv X lm σ H s):∀x c,X.env.cells.lookup x=ZA c->c≠X.env.locals:=λx c e z=>by
 obtain⟨v,o,ho,hd⟩:=I.cell x c e;obtain⟨m,⟨o',es,ep,ho',hd',_⟩,_⟩:=I.loc;rw[z,ho']at ho;cases ho;rw[hd']at hd;cases hd
theorem Inv.funs(I:Inv X lm σ H s):s.heap.FunFrames X.base X.outer:=by
 have all:∀(l:List Env),(∀b∈nF l,b∈X.fs)->X.s₀.heap.FunFrames X.base l->s.heap.FunFrames X.base l:=by
  intro l
  induction l with
  |nil=>intro _ _;trivial
  |cons env r ih=>
   intro hs hl;obtain⟨hk,⟨L,o,hf,hn,ho,hd⟩,hr⟩:=hl
   have hL:L∈X.fs:=hs L (by unfold nF;rw[Ph,hf];exact NU)
   obtain⟨sl,e⟩:=I.base.slot L o ho (I.ok.frf L hL) hL λz=>I.ok.exfs L z hL
   exact⟨hk,⟨L,_,hf,hn,e,hd⟩,ih (λb hb=>hs b (by unfold nF;rw[Ph,hf];exact NR _ hb)) hr⟩
 exact all X.outer (λ_ hb=>hb) I.ok.funs
def Inv.stack(I:Inv X lm σ H s):s.heap.FunFrames X.base X.stack:=by
 rcases I.ok.stk with e|⟨e,hf⟩
 ·rw[e];exact I.funs
 ·rw[e]
  obtain⟨m,hn,_⟩:=I.loc;refine .cons (by rw[I.ok.kind];decide) hf hn ?_ I.funs
  exact Heap.get?_none_of_le (O4 I.ok.bsz I.ok.above)
def Inv.Nn(I:Inv X lm σ H s):∀b∈nF X.stack,b∈X.env.locals::X.fs:=λb hb=>by
 rcases I.ok.stk with e|⟨e,hf⟩
 ·rw[e]at hb;exact NR _ hb
 ·rw[e]at hb
  unfold nF at hb;rw[Ph,hf]at hb;exact hb
def Inv.M8(I:Inv X lm σ H s):∀b∈nF X.stack,H b=ZB:=λb hb=>by
 rcases N0.mp (I.Nn b hb)with e|hb
 ·rw[e];exact I.free
 ·obtain⟨_,o,ho,_⟩:=I.ok.funs.mem hb
  exact I.base.free b o ho (I.ok.frf b hb) λz=>I.ok.exfs b z hb
def Inv.step{g':Array Uo}{t':Nat}{d':Drawn}{ch:List ZE}(I:Inv X lm σ H s)
  (hch:∀b∈ch,(b∈X.ex\/X.s₀.heap.objs.size<=b)/\b≠X.env.locals/\(∀x c,X.env.cells.lookup x=ZA c->c≠b)/\∀p∈X.pn++lm,p.1≠b)
  (keep:∀b o,b≠X.env.locals->b∉X.fs->b∉ch->s.heap.get? b=ZA o->H b=ZB->h'.get? b=ZA o)
  (slot:∀b o,b≠X.env.locals->b∈X.fs->b∉ch->s.heap.get? b=ZA o->H b=ZB->∃sl,h'.get? b=ZA {o with slots:=sl}) (free:∀b o,b∉ch->s.heap.get? b=ZA o->H b=ZB->H' b=ZB)
  (there:∀b o,b∉ch->s.heap.get? b=ZA o->∃o',h'.get? b=ZA o')
  (tups:∀b xs,H b=ZA (.tup xs)->H' b=ZA (.tup xs)) (frzs:∀b o u,H b=ZA (.frz o u)->H' b=ZA (.frz o u)) (tbls:∀b ps,H b=ZA (.tbl ps)->∃more,H' b=ZA (.tbl (ps++more)))
  (ns:∀m,s.heap.Ns X.env.locals m->h'.Ns X.env.locals m) (hok:HOk X.prog X.w H' h') (hg:SM g'):
  Inv X lm σ H' {s with heap:=h',gens:=g',drawn:=d',toks:=t'}:=by
 have neL:∀b o,X.s₀.heap.get? b=ZA o->b≠X.env.locals:=λb o e=>Pr (Of (N8 e) I.ok.above)
 have neC:∀b o,X.s₀.heap.get? b=ZA o->b∉X.ex->b∉ch:=λb o e hx hb=>by
  rcases(hch b hb).1 with z|z
  ·exact hx z
  ·exact absurd (Of (N8 e) z) (OA _)
 have cellK:∀x c,X.env.cells.lookup x=ZA c->∀v,s.heap.IsCell c v->h'.IsCell c v:=λx c e v hh_=>by
  obtain⟨o,ho,hd⟩:=hh_
  have nch:c∉ch:=λz=>(hch c z).2.2.1 x c e rfl
  by_cases hc:c∈X.fs
  ·obtain⟨sl,q⟩:=slot c o (I.cne x c e) hc nch ho (I.freeC x c e)
   exact⟨_,q,hd⟩
  ·exact⟨o,keep c o (I.cne x c e) hc nch ho (I.freeC x c e),hd⟩
 refine⟨I.ok,I.os,hg,⟨λb o e n hb hx=>?_,λb o e n hb hx=>?_,λb o e n hx=>?_,λb o e hx=>?_,λb xs e=>tups b xs (I.base.tups b xs e),λb o xs e=>frzs b o xs (I.base.frzs b o xs e),λb ps e=>?_⟩,?_,λx c e=>?_,?_,λx c e=>?_,λp hp=>?_,hok,I.len⟩
 ·exact keep b o (neL b o e) hb (neC b o e hx) (I.base.keep b o e n hb hx) (I.base.free b o e n hx)
 ·obtain⟨sl,e1⟩:=I.base.slot b o e n hb hx
  obtain⟨sl',e2⟩:=slot b _ (neL b o e) hb (neC b o e hx) e1 (I.base.free b o e n hx);exact⟨sl',e2⟩
 ·obtain⟨o',e1⟩:=I.base.there b o e hx
  exact free b o' (neC b o e hx) e1 (I.base.free b o e n hx)
 ·obtain⟨o',e1⟩:=I.base.there b o e hx
  exact there b o' (neC b o e hx) e1
 ·obtain⟨m1,e1⟩:=I.base.tbls b ps e
  obtain⟨m2,e2⟩:=tbls b _ e1;exact⟨m1++m2,by rw[e2,Array.append_assoc]⟩
 ·obtain⟨m,hn,hl⟩:=I.loc
  refine⟨m,ns m hn,λi x v e1 e2 e3=>?_⟩
  obtain⟨u,r,l⟩:=hl i x v e1 e2 e3;refine⟨u,r,?_⟩
  rcases l with l|⟨k,c,e,z⟩
  ·exact .inl l
  ·exact .inr ⟨k,c,e,cellK x c e _ z⟩
 ·obtain⟨v,z⟩:=I.cell x c e
  exact⟨v,cellK x c e v z⟩
 ·obtain⟨m,⟨o,_,_,ho,_⟩,_⟩:=I.loc
  exact free _ o (λz=>(hch _ z).2.1 rfl) ho I.free
 ·obtain⟨v,o,ho,hd⟩:=I.cell x c e
  exact free c o (λz=>(hch c z).2.2.1 x c e rfl) ho (I.freeC x c e)
 ·obtain⟨e,n,ne,nf,d⟩:=I.pin p hp
  have nch:p.1∉ch:=λz=>(hch p.1 z).2.2.2 p hp rfl
  exact⟨keep p.1 p.2 ne nf nch e n,free p.1 p.2 nch e n,ne,nf,d⟩
def Inv.un(I:Inv X lm σ H s)(u:Un X.fs [] H H' s.heap h')(hok:HOk X.prog X.w H' h'):Inv X lm σ H' {s with heap:=h',toks:=t'}:=by
 obtain⟨m,⟨o,es,ep,ho,r⟩,_⟩:=id I.loc;obtain⟨sl,hL⟩:=u.any ho I.free (by simp)
 exact I.step (g':=s.gens) (d':=s.drawn) (ch:=[]) (λ_ z=>nomatch z) (λb o _ hb _ e n=>u.keep b o e n hb (by simp)) (λb o _ hb _ e n=>u.slot b o e n hb (by simp)) (λb o _ e n=>u.free b o e n (by simp)) (λb o _ e=>u.there b o e (by simp)) u.tups u.frzs u.tbls (λm' hm=>by
  obtain⟨o',es',ep',ho',r'⟩:=hm;rw[ho]at ho';cases ho';exact⟨_,es',ep',hL,r'⟩) hok I.bare
def Inv.call{g':Array Uo}{d':Drawn}{ch:List ZE}(I:Inv X lm σ H s)(u:Un (nF X.stack) ch H H' s.heap h')(hok:HOk X.prog X.w H' h')(hg:SM g')
  (hch:∀b∈ch,(b∈X.ex\/X.s₀.heap.objs.size<=b)/\b≠X.env.locals/\(∀x c,X.env.cells.lookup x=ZA c->c≠b)/\∀p∈X.pn++lm,p.1≠b):
  Inv X lm σ H' {s with heap:=h',gens:=g',drawn:=d',toks:=t'}:=by
 obtain⟨m,⟨o,es,ep,ho,r⟩,_⟩:=id I.loc;obtain⟨sl,hL⟩:=u.any ho I.free λz=>(hch _ z).2.1 rfl
 exact I.step (ch:=ch) hch (λb o hL hb hc e n=>u.keep b o e n (λz=>(N0.mp (I.Nn b z)).elim hL hb) hc) (λb o _ _ hc e n=>u.any e n hc) (λb o hc e n=>u.free b o e n hc) (λb o hc e=>u.there b o e hc) u.tups u.frzs u.tbls (λm' hm=>by
  obtain⟨o',es',ep',ho',r'⟩:=hm;rw[ho]at ho';cases ho';exact⟨_,es',ep',hL,r'⟩) hok hg
def Inv.turned(I:Inv X lm σ H s)(k:∀b o,b≠it->s.heap.get? b=ZA o->h'.get? b=ZA o)(hn:H it=ZB)(hL:it≠X.env.locals)
  (h1:it∈X.ex\/X.s₀.heap.objs.size<=it) (h2:∀x c,X.env.cells.lookup x=ZA c->c≠it) (h3:∀p∈X.pn++lm,p.1≠it):Inv X lm σ H {s with heap:=h',toks:=t'}:=by
 have nit:∀b u,H b=ZA u->b≠it:=λb u e z=>by rw[z,hn]at e;cases e
 refine I.step (g':=s.gens) (d':=s.drawn) (ch:=[it]) (λb hb=>?_) (λb o _ _ hc e _=>k b o (λz=>hc (by simp[z])) e) (λb o _ _ hc e _=>⟨o.slots,k b o (λz=>hc (by simp[z])) e⟩) (λ_ _ _ _ n=>n)
  (λb o hc e=>⟨o,k b o (λz=>hc (by simp[z])) e⟩) (λ_ _ e=>e) (λ_ _ _ e=>e) (λb ps e=>⟨#[],by rw[e];simp⟩) (λm hm=>?_) (λb u e=>?_) I.bare
 ·have e:b=it:=by simpa using hb
  subst e;exact⟨h1,hL,h2,h3⟩
 ·obtain⟨o,es,ep,ho,r⟩:=hm
  exact⟨o,es,ep,k _ o (P4 hL) ho,r⟩
 ·refine(I.hok b u e).Nc (λc v hc q=>k c v ?_ q) (λ_ q=>q) λ_ _ q=>q
  rcases hc with z|z
  ·rw[z];exact nit b u e
  ·exact nit c _ z
def Inv.tok(I:Inv X lm σ H s)(t:Nat):Inv X lm σ H {s with toks:=t}:=I.un (h':=s.heap) (t':=t) Un.refl I.hok
theorem Inv.kept(I:Inv X lm σ H s)(k:∀b u,s.heap.get? b=ZA u->h'.get? b=ZA u):Inv X lm σ H {s with heap:=h',toks:=t'}:=I.un (Un.kept k) (I.hok.kept k)
theorem Inv.laid{o:HO}(I:Inv X lm σ H s)(k:∀b u,s.heap.get? b=ZA u->h'.get? b=ZA u)(hp:s.heap.objs.size<=a)(new:ObjOk X.prog X.w (upd H a o) h' a o):
  Inv X lm σ (upd H a o) {s with heap:=h',toks:=t'}:=I.un (Un.laid k hp (I.hok.fresh hp)) (I.hok.laid k hp new)
theorem Inv.write{x:ZE}{o:HO}(I:Inv X lm σ H s)(mu:MI (H x))(he:e=x\/H e=ZA (.own x))(k:∀b u,b≠e->s.heap.get? b=ZA u->h'.get? b=ZA u)(heo:∃u,h'.get? e=ZA u)
  (new:ObjOk X.prog X.w (upd H x o) h' x o):Inv X lm σ (upd H x o) {s with heap:=h',toks:=t'}:=I.un (Un.write mu he k heo) (I.hok.write mu he k heo new)
def Inv.Np{pins':V2}(I:Inv X lm σ H s)(h:∀p∈pins',s.heap.get? p.1=ZA p.2/\H p.1=ZB/\p.1≠X.env.locals/\p.1∉X.fs/\∀v,p.2.data≠ .cell v):Inv X pins' σ H s:=
 ⟨I.ok,I.os,I.bare,I.base,I.loc,I.cell,I.free,I.freeC,λp hp=>(Oq.mp hp).elim (λz=>I.pin p (Oy _ z)) (h p),I.hok,I.len⟩
def wA(hN:N.Nodup)(a:N[i]?=ZA x)(b:N[j]?=ZA x):i=j:=by
 obtain⟨h1,e1⟩:=N1.mp a
 obtain⟨h2,e2⟩:=N1.mp b
 exact(List.getElem_inj hN).mp (e1.trans e2.symm)
variable{Q:Unit->NV->Prop}
def sj{u:NS}(I:Inv X lm σ H s)(hN:X.N.Nodup)(hi:X.N[i]?=ZA x)(hx:Loc X.env.scope x)(r:RelV v u)
  (h:∀s',Inv X lm (σ.set i (ZA v)) H s'->(∃a,Rg a s.heap s'.heap/\(a=X.env.locals\/X.env.cells.lookup x=ZA a))->Q () s') (hf:autoParam (X.fn x=ZC\/X.env.scope.names.lookup x=ZA .local) r_):ZJ M A (storeName X.env x u) Q E s:=by
 obtain⟨m,hn,hl⟩:=id I.loc
 have hcls:(X.env.scope.kind == .class||(X.env.scope.kind == .module&&X.env.locals != X.env.globals))=ZD:=by rw[I.ok.kind];rfl
 have hiσ:i<σ.length:=by rw[I.len];exact(N1.mp hi).1
 have cne:=I.cne
 have tracked:∀{a:ZE}{h':ZH},(∃o,s.heap.get? a=ZA o/\H a=ZB)->Rg a s.heap h'->HOk X.prog X.w H h':=λ{a h'} ha hs b ob e=>by
  obtain⟨_,_,hfree⟩:=ha;refine(I.hok b ob e).Nc (λc w' hc q=>(hs.2 c ?_).trans q) (λ_ q=>q) λ_ _ q=>q
  rintro rfl
  rcases hc with rfl|hc
  ·rw[hfree]at e;cases e
  ·rw[hfree]at hc;cases hc
 rcases hx with hk|hk
 ·refine wpAny_storeName_local hk hn (λh' hn' hs=>?_) hcls
  obtain⟨oL,_,_,hoL,_⟩:=id hn;refine h _ ⟨I.ok,I.os,I.bare,⟨λb o e n hb hx=>?_,λb o e n hb hx=>?_,I.base.free,λb o e hx=>?_,I.base.tups,I.base.frzs,I.base.tbls⟩,⟨_,hn',λj y v' e1 e2 e3=>?_⟩,λy c e=>?_,I.free,I.freeC,λp hp=>?_,tracked ⟨oL,hoL,I.free⟩ hs,by simpa using I.len⟩ ⟨_,hs,.inl rfl⟩
  ·exact(hs.2 b (Pr (Of (N8 e) I.ok.above))).trans (I.base.keep b o e n hb hx)
  ·obtain⟨sl,e1⟩:=I.base.slot b o e n hb hx
   exact⟨sl,(hs.2 b (Pr (Of (N8 e) I.ok.above))).trans e1⟩
  ·obtain⟨o',e1⟩:=I.base.there b o e hx
   exact⟨o',(hs.2 b (Pr (Of (N8 e) I.ok.above))).trans e1⟩
  ·by_cases hj:j=i
   ·subst hj
    rw[hi]at e1;cases e1;rw[Oo hiσ]at e2
    cases e2;exact⟨u,r,.inl ⟨hk,by simp⟩⟩
   ·rw[Ol (P4 hj)]at e2
    obtain⟨u',r',q⟩:=hl j y v' e1 e2 e3;refine⟨u',r',?_⟩
    rcases q with⟨k,e⟩|⟨k,c,e,z⟩
    ·refine .inl ⟨k,?_⟩
     have:y≠x:=λe=>hj (wA hN e1 (e▸hi))
     simp[this,e]
    ·exact .inr ⟨k,c,e,z.sameBut hs (cne y c e)⟩
  ·obtain⟨w',z⟩:=I.cell y c e
   exact⟨w',z.sameBut hs (cne y c e)⟩
  ·obtain⟨e,n,ne,nf,d⟩:=I.pin p hp
   exact⟨(hs.2 p.1 ne).trans e,n,ne,nf,d⟩
 ·have hfn:X.fn x=ZC:=by
   rcases hf with z|z
   ·exact z
   ·rw[z]at hk;cases hk
  obtain⟨c,hc⟩:=I.ok.has x (.inl hk);obtain⟨w',z⟩:=I.cell x c hc;refine wpAny_storeName_cell I.ok.kind hk hc z (λh' hc' hs=>?_)
  obtain⟨oc,hoc,hocd⟩:=id z;refine h {s with heap:=h'} ⟨I.ok,I.os,I.bare,⟨λb o e n hb hx=>?_,λb o e n hb hx=>?_,I.base.free,λb o e hx=>?_,I.base.tups,I.base.frzs,I.base.tbls⟩,⟨m,hn.sameBut hs (P4 (cne x c hc)),λj y v' e1 e2 e3=>?_⟩,λy c' e=>?_,I.free,I.freeC,λp hp=>?_,tracked ⟨oc,hoc,I.freeC x c hc⟩ hs,by simpa using I.len⟩ ⟨c,hs,.inr hc⟩
  ·exact(hs.2 b (Pr (Of (N8 e) (I.ok.cab x c hfn hc)))).trans (I.base.keep b o e n hb hx)
  ·obtain⟨sl,e1⟩:=I.base.slot b o e n hb hx
   exact⟨sl,(hs.2 b (Pr (Of (N8 e) (I.ok.cab x c hfn hc)))).trans e1⟩
  ·obtain⟨o',e1⟩:=I.base.there b o e hx
   exact⟨o',(hs.2 b (Pr (Of (N8 e) (I.ok.cab x c hfn hc)))).trans e1⟩
  ·by_cases hj:j=i
   ·subst hj
    rw[hi]at e1;cases e1;rw[Oo hiσ]at e2
    cases e2;exact⟨u,r,.inr ⟨.inl hk,c,hc,hc'⟩⟩
   ·rw[Ol (P4 hj)]at e2
    obtain⟨u',r',q⟩:=hl j y v' e1 e2 e3;refine⟨u',r',?_⟩
    rcases q with q|⟨k,c',e,z'⟩
    ·exact .inl q
    ·refine .inr ⟨k,c',e,z'.sameBut hs ?_⟩
     rintro rfl
     exact hj (wA hN e1 (I.ok.inj _ _ _ e hc▸hi))
  ·by_cases hcc:c'=c
   ·subst hcc;exact⟨_,hc'⟩
   ·obtain⟨w2,z2⟩:=I.cell y c' e
    exact⟨w2,z2.sameBut hs hcc⟩
  ·obtain⟨e,n,ne,nf,d⟩:=I.pin p hp
   refine⟨(hs.2 p.1 ?_).trans e,n,ne,nf,d⟩
   intro q;rw[q,hoc]at e
   have q':oc=p.2:=OH e;exact d w' (by rw[<-q'];exact hocd)
def lZ{u:NS}(I:Inv X lm σ H s)(hN:X.N.Nodup)(hi:X.N[i]?=ZA x)(hx:Loc X.env.scope x)(r:RelV v u)
  (h:∀s',Inv X lm (σ.set i (ZA v)) H s'->Q () s') (hf:autoParam (X.fn x=ZC\/X.env.scope.names.lookup x=ZA .local) r_):ZJ M A (storeName X.env x u) Q E s:=
 sj I hN hi hx r (λs' I' _=>h s' I') hf
def Inv.Ng{ch:List ZE}(I:Inv X lm σ H s)(ho:s'.os=s.os)(u:Un (nF X.stack) ch H H' s.heap s'.heap)(hok:HOk X.prog X.w H' s'.heap)(hg:SM s'.gens)
  (hch:∀b∈ch,(b∈X.ex\/X.s₀.heap.objs.size<=b)/\b≠X.env.locals/\(∀x c,X.env.cells.lookup x=ZA c->c≠b)/\∀p∈X.pn++lm,p.1≠b):Inv X lm σ H' s':=by
 obtain⟨h',g',d',t',o'⟩:=s'
 have e:o'=s.os:=ho;subst e;exact I.call (g':=g') (t':=t') (d':=d') u hok hg hch
end
abbrev XK:=NS->Option ZE->Hp->Prop
abbrev St:=List (Option V)
abbrev VK:=V->Hp->Prop
abbrev TE:=St->Hp->VK->Prop
abbrev TT:=St->Hp->(Bool->Hp->Prop)->Prop
abbrev TA:=St->Hp->(List V->Hp->Prop)->Prop
structure nP where
 nx:St->Hp->Prop
 rt:VK
 bk:St->Hp->Prop:=λ_ _=>False
 ct:St->Hp->Prop:=λ_ _=>False
abbrev TS:=nP->St->Hp->Prop
def EP(X:Cx)(lm:V2)(σ:St)(Q:VK)(u:NS)(s':NV):Prop:=∃v H',Inv X lm σ H' s'/\RelV v u/\Q v H'
def TP(X:Cx)(lm:V2)(σ:St)(Q:Bool->Hp->Prop)(b:Bool)(s':NV):Prop:=∃H',Inv X lm σ H' s'/\Q b H'
def AP(X:Cx)(lm:V2)(σ:St)(Q:List V->Hp->Prop)(us:List NS)(s':NV):Prop:=∃vs H',Inv X lm σ H' s'/\Vals vs us/\Q vs H'
def SP(X:Cx)(lm:V2)(D:nP)(f:Flow)(s':NV):Prop:=
 match f with
 |.next=>∃σ' H',Inv X lm σ' H' s'/\D.nx σ' H'
 |.brk=>∃σ' H',Inv X lm σ' H' s'/\D.bk σ' H'
 |.cont=>∃σ' H',Inv X lm σ' H' s'/\D.ct σ' H'
 |.ret u=>∃v σ' H',Inv X lm σ' H' s'/\RelV v u/\D.rt v H'
def PE(X:Cx)(e:ZG)(t:TE):Prop:=
 ∀(lm:V2)(s:NV)(σ:St)(H:Hp)(Q:VK),Inv X lm σ H s->t σ H Q->ZJ (ZK X.prog X.w) X.A (eval e X.env) (EP X lm σ Q) X.xe s
def PT(X:Cx)(e:ZG)(t:TT):Prop:=
 ∀(lm:V2)(s:NV)(σ:St)(H:Hp)(Q:Bool->Hp->Prop),Inv X lm σ H s->t σ H Q->ZJ (ZK X.prog X.w) X.A (isTrue e X.env (eval e X.env)) (TP X lm σ Q) X.xe s
def PW(X:Cx)(e:ZG)(t:TT):Prop:=
 ∀(whole:Sem NS)(lm:V2)(s:NV)(σ:St)(H:Hp)(Q:Bool->Hp->Prop),Inv X lm σ H s->t σ H Q->ZJ (ZK X.prog X.w) X.A (isTrue e X.env whole) (TP X lm σ Q) X.xe s
variable{e:ZG}
def PW.pt{t:TT}(h:PW X e t):PT X e t:=h _
def PA(X:Cx)(es:List ZG)(t:TA):Prop:=
 ∀(pos:Pos)(lm:V2)(s:NV)(σ:St)(H:Hp)(Q:List V->Hp->Prop),Inv X lm σ H s->t σ H Q->ZJ (ZK X.prog X.w) X.A (spliced (backTo pos (N5 es X.env))) (AP X lm σ Q) X.xe s
def PS(X:Cx)(st:ZF)(t:TS):Prop:=
 ∀(lm:V2)(s:NV)(σ:St)(H:Hp)(D:nP),Inv X lm σ H s->t D σ H->ZJ (ZK X.prog X.w) X.A (exec st X.env) (SP X lm D) X.xe s
def PSs(X:Cx)(st:List ZF)(t:TS):Prop:=
 ∀(lm:V2)(s:NV)(σ:St)(H:Hp)(D:nP),Inv X lm σ H s->t D σ H->ZJ (ZK X.prog X.w) X.A (execs st X.env) (SP X lm D) X.xe s
def bW{t:Sem α}{Q Q':α->NV->Prop}(h:ZJ M A t Q E s)(hQ:∀a s,Q a s->Q' a s):ZJ M A t Q' E s:=Pz h hQ λ_ _ x=>x
variable{c:ZG}{pos:Pos}{ta:TE}{σ:St}
section
def pB(i:Nat):TE:=λσ H Q=>∃v,σ[i]?=ZA (ZA v)/\Q v H
def tC(v:V):TE:=λ_ H Q=>Q v H
def eG{pos:Pos}(hN:X.N[i]?=ZA x)(hv:lX X.env.scope x)(hd:autoParam ((x == ("__debug__" : Str))=ZD) s_)(hcd:autoParam ((x == ("__classdict__" : Str))=ZD) s_):PE X (.Name x pos) (pB i):=by
 intro lm s σ H Q I h;obtain⟨v,e,h⟩:=h;obtain⟨m,hn,hl⟩:=I.loc;obtain⟨u,r,l⟩:=hl i x v hN e hv
 have fin:EP X lm σ Q u s:=⟨v,H,I,r,h⟩;rcases l with⟨hk,hm⟩|⟨hk,c,hc,hcell⟩
 ·exact wpAny_Name (wpAny_loadName_local I.ok.kind hk hn hm fin) hd
 ·rcases hk with hk|hk
  ·exact wpAny_Name (wpAny_loadName_cell I.ok.kind hk hc hcell fin) hd
  ·exact wpAny_Name (wpAny_loadName_free I.ok.kind hk hc hcell fin hcd) hd
def C1{i j pos}:PE X (.Constant (.int i) j pos) (tC (.int i)):=λ_ _ _ H _ I h=>wpAny_Constant_int ⟨.int i,H,I.tok _,⟨_,rfl⟩,h⟩
def C4{b j pos}:PE X (.Constant (.bool b) j pos) (tC (.bl b)):=λ_ _ _ H _ I h=>Constant_bool ⟨.bl b,H,I,rfl,h⟩
def CZ{j pos}:PE X (.Constant .none j pos) (tC .non):=λ_ _ _ H _ I h=>Constant_none ⟨.non,H,I,rfl,h⟩
def CW{x j pos}:PE X (.Constant (.str x) j pos) (tC (.str x)):=λ_ _ _ H _ I h=>Ub ⟨.str x,H,I.tok _,⟨_,rfl⟩,h⟩
def Gl(X:Cx)(x:Str):Prop:=X.env.kindOf x=ZA .globalImplicit
def fR{u:NS}{pos:Pos}(I:Inv X lm σ H s)(hg:Gl X x)(hm:X.mg x=ZA u)(h:Q u s)
  (hd:autoParam ((x == ("__debug__" : Str))=ZD) s_):ZJ (ZK X.prog X.w) X.A (eval (.Name x pos) X.env) Q E s:=
 R9 I.ok.kind hg (Calls.loadGlobal_global (by rw[I.ok.glob];exact I.mod.glob.keeps I.bk) hm h) hd
def gg{u:NS}{pos:Pos}(I:Inv X lm σ H s)(hg:Gl X x)(hm:X.mg x=ZB)(hv:OL x=ZA u)(h:Q u s)
  (hn:autoParam (x≠ "__name__") s_) (hd:autoParam ((x == ("__debug__" : Str))=ZD) s_):ZJ (ZK X.prog X.w) X.A (eval (.Name x pos) X.env) Q E s:=by
 obtain⟨mb,h1,h2⟩:=I.mod.blt;exact R9 I.ok.kind hg (Calls.loadGlobal_builtin (by rw[I.ok.glob];exact I.mod.glob.keeps I.bk) hm (by rw[I.ok.blt];exact h1.keeps I.bk) ((h2 x hn).trans hv) h) hd
def zH{u:NS}{pos:Pos}(hg:Gl X x)(hm:X.mg x=ZA u)(r:RelV v u)(hd:autoParam ((x == ("__debug__" : Str))=ZD) s_):PE X (.Name x pos) (tC v):=
 λ_ _ _ H _ I h=>fR I hg hm ⟨v,H,I,r,h⟩ hd
def zK{u:NS}{pos:Pos}(hg:Gl X x)(hm:X.mg x=ZB)(hv:OL x=ZA u)(r:RelV v u)(hn:autoParam (x≠ "__name__") s_)(hd:autoParam ((x == ("__debug__" : Str))=ZD) s_):PE X (.Name x pos) (tC v):=
 λ_ _ _ H _ I h=>gg I hg hm hv ⟨v,H,I,r,h⟩ hn hd
variable {a b:ZG}{tb:TE}
def tB(t:TE):TT:=λσ H Q=>t σ H λx H1=>∃c,x=.bl c/\Q c H1
def CO{t:TE}(h:PE X e t)(he:autoParam (∀whole,isTrue e X.env whole=(do let v <-whole;standAt e.pos;holding [v] (truthy v))) t_):PT X e (tB t):=by
 intro lm s σ H Q I hw;refine isTrue_plain (bW (h lm s σ H _ I hw) λv s1 ⟨x,H1,I1,r1,q1⟩=>?_) (he _)
 obtain⟨d,rfl,q⟩:=q1;cases r1;exact OY ⟨H1,I1,q⟩
variable {tA tB':TT}{cb:List ZG}
def tAnd(t u:TT):TT:=λσ H Q=>t σ H λc H1=>if c=ZC then u σ H1 Q else Q ZD H1
def tOr(t u:TT):TT:=λσ H Q=>t σ H λc H1=>if c=ZC then Q ZC H1 else u σ H1 Q
def tNot(t:TT):TT:=λσ H Q=>t σ H λc H1=>Q (!c) H1
def Ge(ha:PT X a tA):PW X (.BoolOp .And [a] pos) tA:=by
 intro wh lm s σ H Q I h;refine isTrue_and (bW (ha lm s σ H Q I h) λc s1 e=>?_)
 cases c with
 |true=>exact isTrue_and_nil e
 |false=>exact e
def CL(ha:PT X a tA):PW X (.BoolOp .Or [a] pos) tA:=by
 intro wh lm s σ H Q I h;refine isTrue_or (bW (ha lm s σ H Q I h) λc s1 e=>?_)
 cases c with
 |false=>exact isTrue_or_nil e
 |true=>exact e
def Ji(ha:PT X a tA)(hb:PW X (.BoolOp .And (b::cb) pos) tB'):PW X (.BoolOp .And (a::b::cb) pos) (tAnd tA tB'):=by
 intro wh lm s σ H Q I h;refine isTrue_and (bW (ha lm s σ H _ I h) λc s1 hh_=>?_)
 obtain⟨H1,I1,q1⟩:=hh_
 cases c with
 |true=>exact hb wh lm s1 σ H1 Q I1 q1
 |false=>exact⟨H1,I1,q1⟩
def HH(ha:PT X a tA)(hb:PW X (.BoolOp .Or (b::cb) pos) tB'):PW X (.BoolOp .Or (a::b::cb) pos) (tOr tA tB'):=by
 intro wh lm s σ H Q I h;refine isTrue_or (bW (ha lm s σ H _ I h) λc s1 hh_=>?_)
 obtain⟨H1,I1,q1⟩:=hh_
 cases c with
 |true=>exact⟨H1,I1,q1⟩
 |false=>exact hb wh lm s1 σ H1 Q I1 q1
def CP(ha:PT X a tA):PT X (.UnaryOp .Not a pos) (tNot tA):=by
 intro lm s σ H Q I h;exact isTrue_not (ha lm s σ H (λc H1=>Q (!c) H1) I h)
def K8(ta tb:TE):TE:=λσ H Q=>ta σ H λx H1=>∃c,x=.bl c/\if c=ZC then tb σ H1 Q else Q (.bl ZD) H1
def tOrV(ta tb:TE):TE:=λσ H Q=>ta σ H λx H1=>∃c,x=.bl c/\if c=ZC then Q (.bl ZC) H1 else tb σ H1 Q
def K1(ta:TE):TE:=λσ H Q=>ta σ H λx H1=>∃c,x=.bl c/\Q (.bl (!c)) H1
def Jo{op}{t:TE}(h:PE X a t):PE X (.BoolOp op [a] pos) t:=λlm s σ H Q I hw=>BoolOp_one (h lm s σ H Q I hw)
def Js(ha:PE X a ta)(hb:PE X (.BoolOp .And (b::cb) pos) tb):PE X (.BoolOp .And (a::b::cb) pos) (K8 ta tb):=by
 intro lm s σ H Q I h;refine BoolOp_and (bW (ha lm s σ H _ I h) λv s1 hh_=>?_)
 obtain⟨x,H1,I1,r1,q1⟩:=hh_;obtain⟨c,rfl,q1⟩:=q1;cases r1;refine OY ?_
 cases c with
 |true=>exact hb lm s1 σ H1 Q I1 q1
 |false=>exact⟨.bl ZD,H1,I1,rfl,q1⟩
def LJ(ha:PE X a ta)(hb:PE X (.BoolOp .Or (b::cb) pos) tb):PE X (.BoolOp .Or (a::b::cb) pos) (tOrV ta tb):=by
 intro lm s σ H Q I h;refine BoolOp_or (bW (ha lm s σ H _ I h) λv s1 hh_=>?_)
 obtain⟨x,H1,I1,r1,q1⟩:=hh_;obtain⟨c,rfl,q1⟩:=q1;cases r1;refine OY ?_
 cases c with
 |false=>exact hb lm s1 σ H1 Q I1 q1
 |true=>exact⟨.bl ZC,H1,I1,rfl,q1⟩
def Jp(ha:PE X a ta):PE X (.UnaryOp .Not a pos) (K1 ta):=by
 intro lm s σ H Q I h;refine UnaryOp_ (bW (ha lm s σ H _ I h) λv s1 hh_=>?_)
 obtain⟨x,H1,I1,r1,q1⟩:=hh_;obtain⟨c,rfl,q1⟩:=q1;cases r1;exact not_of (OY ⟨.bl (!c),H1,I1,rfl,q1⟩)
def tIf(t:TT)(ta tb:TE):TE:=λσ H Q=>t σ H λc H1=>if c=ZC then ta σ H1 Q else tb σ H1 Q
def v9(hc:PT X c tA)(ha:PE X a ta)(hb:PE X b tb):PE X (.IfExp c a b pos) (tIf tA ta tb):=by
 intro lm s σ H Q I h;refine wpAny_IfExp (bW (hc lm s σ H _ I h) λd s1 hh_=>?_)
 obtain⟨H1,I1,q1⟩:=hh_
 cases d with
 |true=>exact ha lm s1 σ H1 Q I1 q1
 |false=>exact hb lm s1 σ H1 Q I1 q1
end
def SqL(K:NQ)(H:Hp)(a:ZE)(xs:List V):Prop:=
 Rd H a (.lst xs) ∨
  ∃(o:Obj)(its:Array NS)(n:Nat),K.lookup a=ZA o/\o.cls=.type "list"/\o.dict=ZB/\o.data=.seq its n/\its.size<=ZI/\Vals xs its.toList
def SqT(K:NQ)(H:Hp)(a:ZE)(xs:List V):Prop:=
 Rd H a (.tup xs) ∨
  ∃(o:Obj)(its:Array NS)(n:Nat),K.lookup a=ZA o/\o.cls=.type "tuple"/\o.data=.seq its n/\its.size<=ZI/\Vals xs its.toList
noncomputable def absV:NS->Option V
 |.none=>ZA .non
 |.bool b=>ZA (.bl b)
 |.int i _=>ZA (.int i)
 |.str x _=>ZA (.str x)
 |.bytes b _=>ZA (.byt b)
 |.float b _=>ZA (.flt b)
 |.ref a=>ZA (.ref a)
 |.type n=>ZA (.ty n)
 |_=>ZB
def RelV.abs{x:V}{u:NS}(r:RelV x u):absV u=ZA x:=by
 cases x with
 |non=>cases r;rfl
 |bl _=>cases r;rfl
 |int _=>obtain⟨t,rfl⟩:=r;rfl
 |str _=>obtain⟨t,rfl⟩:=r;rfl
 |byt _=>obtain⟨t,rfl⟩:=r;rfl
 |flt _=>obtain⟨t,rfl⟩:=r;rfl
 |ref _=>cases r;rfl
 |ty _=>cases r;rfl
variable{y:V}
def RelV.inj{x:V}{u:NS}(r:RelV x u)(q:RelV y u):x=y:=OH (r.abs.symm.trans q.abs)
theorem Vals.inj:∀{xs ys:List V}{us:List NS},Vals xs us->Vals ys us->xs=ys
 |_,_,_,.nil,.nil=>rfl
 |_,_,_,.cons r t,.cons r' t'=>by rw[r.inj r',Vals.inj t t']
section
variable {ys:List V}
def SqL.of(h:H a=ZA (.lst xs)):SqL K H a xs:=.inl (.inl h)
def SqT.of(h:H a=ZA (.tup xs)):SqT K H a xs:=.inl (.inl h)
def Inv.list(I:Inv X lm σ H s)(h:SqL X.K H a xs):∃its:List NS,Vals xs its/\PlainL s.heap a its.toArray/\xs.length<=ZI:=by
 rcases h with h|⟨o,its,n,hk,hc,hd,hs,hz,r⟩
 ·obtain⟨z,its,n,r,e⟩:=h.ok I.hok
  exact⟨its,r,⟨_,n,e,rfl,rfl,rfl⟩,z⟩
 ·refine⟨its.toList,r,⟨o,n,I.kIn a o hk,hc,hd,by simpa using hs⟩,?_⟩
  have e:=r.length;simp only[Pj]at e;omega
def Inv.tuple(I:Inv X lm σ H s)(h:SqT X.K H a xs):∃its:List NS,Vals xs its/\VF s.heap a its.toArray/\xs.length<=ZI:=by
 rcases h with h|⟨o,its,n,hk,hc,hs,hz,r⟩
 ·obtain⟨z,its,r,p⟩:=h.ok I.hok
  exact⟨its,r,p,z⟩
 ·refine⟨its.toList,r,⟨o,I.kIn a o hk,hc,n,by simpa using hs⟩,?_⟩
  have e:=r.length;simp only[Pj]at e;omega
def Inv.Nd(I:Inv X lm σ H s)(h:SqL X.K H a xs)(h':SqL X.K H a ys):xs=ys:=by
 obtain⟨its,r,⟨o,n,e,_,_,d⟩,_⟩:=I.list h;obtain⟨its',r',⟨o',n',e',_,_,d'⟩,_⟩:=I.list h';rw[e]at e';cases e';rw[d]at d';injection d' with d1 _
 have:its=its':=by simpa using congrArg S5 d1
 subst this;exact r.inj r'
def Inv.Nf(I:Inv X lm σ H s)(h:SqT X.K H a xs)(h':SqT X.K H a ys):xs=ys:=by
 obtain⟨its,r,⟨o,e,_,n,d⟩,_⟩:=I.tuple h;obtain⟨its',r',⟨o',e',_,n',d'⟩,_⟩:=I.tuple h';rw[e]at e';cases e';rw[d]at d';injection d' with d1 _
 have:its=its':=by simpa using congrArg S5 d1
 subst this;exact r.inj r'
end
abbrev Cx.FB(X:Cx)(E:V1):Cx:={X with xe:=E}
abbrev Cx.nox(X:Cx):Cx:=X.FB λ_ _=>False
def Cx.Ok.FB(ok:X.Ok)(E:V1):(X.FB E).Ok:=
 ⟨ok.mod,ok.kind,ok.glob,ok.blt,ok.above,ok.inj,ok.has,ok.cab,ok.hd,ok.frames,ok.stk,ok.exf,ok.bs,ok.bsz,ok.noex,ok.exfs,ok.funs,ok.frf⟩
def Cx.Ok.GT(ok:(X.FB E).Ok):X.Ok:=
 ⟨ok.mod,ok.kind,ok.glob,ok.blt,ok.above,ok.inj,ok.has,ok.cab,ok.hd,ok.frames,ok.stk,ok.exf,ok.bs,ok.bsz,ok.noex,ok.exfs,ok.funs,ok.frf⟩
theorem Inv.FB(I:Inv X lm σ H s)(E:V1):Inv (X.FB E) lm σ H s:=⟨I.ok.FB E,I.os,I.bare,I.base,I.loc,I.cell,I.free,I.freeC,I.pin,I.hok,I.len⟩
theorem Inv.GT(I:Inv (X.FB E) lm σ H s):Inv X lm σ H s:=⟨I.ok.GT,I.os,I.bare,I.base,I.loc,I.cell,I.free,I.freeC,I.pin,I.hok,I.len⟩
theorem SP.GT{D:nP}{f:Flow}(h:SP (X.FB E) lm D f s'):SP X lm D f s':=by
 cases f with
 |next=>obtain⟨σ',H',I,q⟩:=h;exact⟨σ',H',I.GT,q⟩
 |brk=>obtain⟨σ',H',I,q⟩:=h;exact⟨σ',H',I.GT,q⟩
 |cont=>obtain⟨σ',H',I,q⟩:=h;exact⟨σ',H',I.GT,q⟩
 |ret u=>obtain⟨v,σ',H',I,r,q⟩:=h;exact⟨v,σ',H',I.GT,r,q⟩
def PSs.nox{st:List ZF}{t:TS}(h:PSs X.nox st t):PSs X st t:=λlm s σ H D I hw=>
 Pz (h lm s σ H D (I.FB _) hw) (λ_ _ q=>q.GT) λ_ _ z=>Qi z
variable{tc:TT}{te:TE}
section
variable {st:ZF}{cb:List ZF}{t u:TS}
def K2:TS:=λD σ H=>D.nx σ H
def tSeq(t u:TS):TS:=λD σ H=>t {D with nx:=u D} σ H
def oV:PSs X [] K2:=λ_ _ σ H _ I h=>QV ⟨σ,H,I,h⟩
def jL(h1:PS X st t)(h2:PSs X cb u):PSs X (st::cb) (tSeq t u):=by
 intro lm s σ H D I h;refine Vc (bW (h1 lm s σ H {D with nx:=u D} I h) λf s1 q=>?_)
 cases f with
 |next=>
  obtain⟨σ',H',I',q⟩:=q
  exact h2 lm s1 σ' H' D I' q
 |ret v=>exact q
 |brk=>exact q
 |cont=>exact q
def gZ(h1:PS X st t):PSs X [st] t:=by
 intro lm s σ H D I h;refine Vc (bW (h1 lm s σ H D I h) λf s1 q=>?_)
 cases f with
 |next=>exact QV q
 |ret v=>exact q
 |brk=>exact q
 |cont=>exact q
def K6:TS:=λD σ H=>D.ct σ H
def v7:PS X (.Continue pos) K6:=λ_ _ σ H _ I h=>wpAny_Continue ⟨σ,H,I,h⟩
def Inv.quiet(I:Inv X lm σ H s):interactive X.env=ZD:=by simp[interactive,I.ok.kind]
def K4(te:TE):TS:=λD σ H=>te σ H λ_ H1=>D.nx σ H1
def oX(he:PE X e te)(hs:OQ e ZB pos.line X.env=pure ZD:=by rfl):PS X (.Expr e pos) (K4 te):=by
 intro lm s σ H D I h;exact wpAny_Expr_any (bW (he lm s σ H _ I h) λv s1 ⟨x,H1,I1,r1,q1⟩=>⟨σ,H1,I1,q1⟩) I.quiet hs
def tRet(te:TE):TS:=λD σ H=>te σ H D.rt
def lH(he:PE X e te):PS X (.Return (ZA e) pos) (tRet te):=by
 intro lm s σ H D I h;exact wpAny_Return_some (bW (he lm s σ H _ I h) λv s1 ⟨x,H1,I1,r1,q1⟩=>⟨x,σ,H1,I1,r1,q1⟩)
def tIfS(c:TT)(t u:TS):TS:=λD σ H=>c σ H λb H1=>if b=ZC then t D σ H1 else u D σ H1
def v5{a b:List ZF}(hc:PT X c tc)(ha:PSs X a t)(hb:PSs X b u):PS X (.If c a b pos) (tIfS tc t u):=by
 intro lm s σ H D I h;refine wpAny_If (bW (hc lm s σ H _ I h) λd s1 hh_=>?_)
 obtain⟨H1,I1,q1⟩:=hh_
 cases d with
 |true=>exact ha lm s1 σ H1 D I1 q1
 |false=>exact hb lm s1 σ H1 D I1 q1
def Iy:TS:=λ_ _ _=>False
def CS:PS X st Iy:=λ_ _ _ _ _ _ h=>h.elim
end
abbrev TG:=V->St->Hp->(St->Hp->Prop)->Prop
abbrev Hm:=List V->St->Hp->(St->Hp->Prop)->Prop
def PG(X:Cx)(target:ZG)(t:TG):Prop:=
 ∀(lm:V2)(s:NV)(σ:St)(H:Hp)(v:V)(u:NS)(Q:St->Hp->Prop),Inv X lm σ H s->RelV v u->t v σ H Q →
  ZJ (ZK X.prog X.w) X.A (assign target X.env u) (λ_ s'=>∃σ' H',Inv X lm σ' H' s'/\Q σ' H') X.xe s
def PGs(X:Cx)(ts:List ZG)(t:Hm):Prop:=
 ∀(lm:V2)(s:NV)(σ:St)(H:Hp)(vs:List V)(us:List NS)(Q:St->Hp->Prop),Inv X lm σ H s->Vals vs us->t vs σ H Q →
  ZJ (ZK X.prog X.w) X.A (assignInOrder ((PL ts X.env).map (·.2)) us) (λ_ s'=>∃σ' H',Inv X lm σ' H' s'/\Q σ' H') X.xe s
variable{es:List ZG}{pos':Pos}{tg:ZG}
def Ee(i:Nat):TG:=λv σ H Q=>Q (σ.set i (ZA v)) H
def Gq(hN:X.N.Nodup)(hi:X.N[i]?=ZA x)(hx:Loc X.env.scope x)(hf:autoParam (X.fn x=ZC\/X.env.scope.names.lookup x=ZA .local) r_):PG X (.Name x pos) (Ee i):=by
 intro lm s σ H v u Q I r h;exact UM (lZ I hN hi hx r (λs' I'=>⟨_,H,I',h⟩) hf)
def gNil:Hm:=λvs σ H Q=>vs=[]/\Q σ H
def Mt(t:TG)(u:Hm):Hm:=λvs σ H Q=>∃v r,vs=v::r/\t v σ H λσ' H'=>u r σ' H' Q
def Gp:PGs X [] gNil:=by
 intro lm s σ H vs us Q I r h;obtain⟨e,h⟩:=h;subst e;cases r;exact assignInOrder_nil ⟨σ,H,I,h⟩
def CV{t:TG}{u:Hm}(h1:PG X e t)(h2:PGs X es u)
  (hs:(PL (e::es) X.env).map (·.2)=assign e X.env::(PL es X.env).map (·.2):=by rfl):PGs X (e::es) (Mt t u):=by
 intro lm s σ H vs us Q I r h;obtain⟨v,vr,e1,h⟩:=h;subst e1
 cases r with
 |cons r rr=>
  rw[hs];refine assignInOrder_cons (bW (h1 lm s σ H _ _ _ I r h) λ_ s1 hh_=>?_)
  obtain⟨σ1,H1,I1,q1⟩:=hh_;exact h2 lm s1 σ1 H1 _ _ Q I1 rr q1
def gTup(K:NQ)(n:Nat)(t:Hm):TG:=λv σ H Q=>∃a xs,v=.ref a/\SqT K H a xs/\xs.length=n/\t xs σ H Q
def Jm{t:Hm}(hc:X.calm=ZC)(h:PGs X es t)
  (hn:(PL es X.env).length=n:=by rfl) (hst:(PL es X.env).findIdx? (·.1)=ZB:=by rfl):PG X (.Tuple es k pos) (gTup X.K n t):=by
 intro lm s σ H v u Q I r hw;obtain⟨a,xs,e1,hq,hl,hw⟩:=hw;subst e1;cases r;obtain⟨its,rv,ht,hz⟩:=I.tuple hq;refine assign_Tuple_tuple (I.ok.hd hc) ht (by simp[hn,<-hl,rv.length]) hst λh' hx=>?_
 have I1:Inv X lm σ H {s with heap:=h'}:=I.kept (t':=s.toks) λb o e=>hx b o (Pr (N8 e)) e
 exact h lm _ σ H xs _ Q I1 (by simpa using rv) hw
def Cn(te:TE)(g:TG):TS:=λD σ H=>te σ H λx H1=>g x σ H1 D.nx
def Jk{g:TG}(he:PE X e te)(hg:PG X tg g)(hs:Uq [tg] e pos.line X.env=pure ZD:=by rfl)(hw:Ur [tg] e X.env=pure ZB:=by rfl)
  (h1:(PL [tg] X.env).map (·.2)=[assign tg X.env]:=by rfl):PS X (.Assign [tg] e pos) (Cn te g):=by
 intro lm s σ H D I h;refine wpAny_Assign_stores (bW (he lm s σ H _ I h) λv s1 ⟨x,H1,I1,r1,q1⟩=>?_) hs hw
 rw[h1];exact bW (hg lm s1 σ H1 x v _ I1 r1 q1) λ_ s2 q=>q
def mZ(hN:X.N.Nodup)(hi:X.N[i]?=ZA x)(hx:Loc X.env.scope x)(he:PE X e te)(hs:OQ e (ZA (.Name x pos')) pos.line X.env=pure ZD:=by rfl)(hf:autoParam (X.fn x=ZC\/X.env.scope.names.lookup x=ZA .local) r_):
  PS X (.Assign [.Name x pos'] e pos) (Cn te (Ee i)):=by
 intro lm s σ H D I h;refine wpAny_Assign_Name (bW (he lm s σ H _ I h) λv s1 ⟨y,H1,I1,r1,q1⟩=>?_) hs
 exact lZ I1 hN hi hx r1 (λs2 I2=>⟨_,H1,I2,q1⟩) hf
variable{body:List ZF}
def x5(c:TT)(tb:TS):TS:=λD σ H=>∃W:Nat->St->Hp->Prop,(∃m,W m σ H)/\∀m σ H,W m σ H →
 c σ H λb H1=>if b=ZC then ∃N:St->Hp->Prop,(∀σ' H',N σ' H'->∃m',m'<m/\W m' σ' H')/\tb {D with nx:=N,ct:=N,bk:=D.nx} σ H1 else D.nx σ H1
def CQ{tb:TS}(hp:PassesOwn (ZK X.prog X.w) X.A X.env X.xe)(hc:PT X c tc)(hb:PSs X body tb):PS X (.While c body [] pos) (x5 tc tb):=by
 intro lm s σ H D I h;obtain⟨W,⟨m0,w0⟩,turn⟩:=h;refine wpAny_While (codeAny_whileLoop (λn s'=>∃σ' H',Inv X lm σ' H' s'/\W n σ' H') ?_ m0 ⟨σ,H,I,w0⟩)
 rintro n s1 ⟨σ1,H1,I1,w1⟩
 refine Vy hp (bW (hc lm s1 σ1 H1 _ I1 (turn n σ1 H1 w1)) λb s2 hh_=>?_)
 obtain⟨H2,I2,q2⟩:=hh_
 cases b with
 |true=>
  obtain⟨N,hN,q2⟩:=q2;rw[if_pos rfl];refine Vy hp (bW (hb lm s2 σ1 H2 _ I2 q2) λf s3 q3=>?_)
  cases f with
  |next=>
   obtain⟨σ3,H3,I3,n3⟩:=q3;obtain⟨m',hm,w3⟩:=hN σ3 H3 n3
   exact⟨m',hm,σ3,H3,I3,w3⟩
  |cont=>
   obtain⟨σ3,H3,I3,n3⟩:=q3;obtain⟨m',hm,w3⟩:=hN σ3 H3 n3
   exact⟨m',hm,σ3,H3,I3,w3⟩
  |brk=>exact q3
  |ret v=>exact q3
 |false=>
  rw[if_neg N9];exact QV ⟨σ1,H2,I2,q2⟩
structure It where
 go:Nat->Hp->Prop
 yld:Nat->Hp->V->Hp->Prop
 stop:Nat->Hp->Prop
def rk(X:Cx)(lm:V2)(H:Hp)(b:ZE):Prop:=
 H b=ZB/\b≠X.env.locals/\b∉X.fs/\(b∈X.ex\/X.s₀.heap.objs.size<=b)/\(∀x c,X.env.cells.lookup x=ZA c->c≠b)/\∀p∈X.pn++lm,p.1≠b
def Inv.Nm(I:Inv X lm σ H s)(hb:s.heap.objs.size<=b)(hn:H' b=ZB):rk X lm H' b:=by
 refine⟨hn,Sd (Of I.lt hb),I.NP hb,.inr (O4 I.sz hb),λx c e z=>?_,λp hp z=>?_⟩
 ·obtain⟨v,q⟩:=I.cell x c e
  exact absurd (Of q.lt (by rw[z];exact hb)) (OA _)
 ·exact absurd (Of (N8 (I.pin p hp).1) (by rw[z];exact hb)) (OA _)
structure Bz (P:Oh)(w:O8)(K:NQ)(tg:ZG)(J:It)(fp:List ZE)(it:ZE)(tn:Nat->ZH->Prop):Prop where
 mem:it∈fp
 obj:∀i h,tn i h->∀b∈fp,∃o,h.get? b=ZA o/\∀v,o.data≠ .cell v
 keep:∀i h h',tn i h->(∀b∈fp,∀o,h.get? b=ZA o->h'.get? b=ZA o)->tn i h'
 item:∀(X:Cx),X.prog=P->X.w=w->X.K=K->X.calm=ZC->∀(i:Nat)(lm:V2)(s:NV)(σ:St)(H:Hp)(E:V1),Inv X lm σ H s->(∀b∈fp,rk X lm H b)->tn i s.heap->J.go i H →
  ZJ (ZK P w) X.A (pyNext (.ref it)) (λr s1=>∃u,r=ZA u ∧
   ZJ (ZK P w) X.A (Rp tg (.ref it) u) (λ_ s2=>∃x H',Inv X lm σ H' s2/\RelV x u/\J.yld i H x H'/\tn (i+1) s2.heap/\∀b∈fp,H' b=ZB) E s1) E s
 done:∀(X:Cx),X.prog=P->X.w=w->X.K=K->X.calm=ZC->∀(i:Nat)(lm:V2)(s:NV)(σ:St)(H:Hp)(E:V1),Inv X lm σ H s->(∀b∈fp,rk X lm H b)->tn i s.heap->J.stop i H →
  ZJ (ZK P w) X.A (pyNext (.ref it)) (λr s1=>r=ZB/\Inv X lm σ H s1) E s
 self:∀(A:OB)(i:Nat)(s:NV)(Q:V1)(E:V1),tn i s.heap->Q (.ref it) s->ZJ (ZK P w) A (pyIter (.ref it)) Q E s
abbrev TI:=St->Hp->(It->Hp->Prop)->Prop
def PIE(X:Cx)(lm:V2)(σ:St)(tg:ZG)(R:It->Hp->Prop)(itv:NS)(s2:NV):Prop:=
 ∃(it:ZE)(fp:List ZE)(tn:Nat->ZH->Prop)(J:It)(H':Hp),itv=.ref it/\Inv X lm σ H' s2/\Bz X.prog X.w X.K tg J fp it tn/\tn 0 s2.heap/\(∀b∈fp,rk X lm H' b)/\R J H'
def PI(X:Cx)(tg iter:ZG)(wi:TI):Prop:=
 ∀(lm:V2)(s:NV)(σ:St)(H:Hp)(R:It->Hp->Prop),Inv X lm σ H s->wi σ H R →
  ZJ (ZK X.prog X.w) X.A (eval iter X.env) (λv s1=>ZJ (ZK X.prog X.w) X.A (pyIter v) (PIE X lm σ tg R) X.xe s1) X.xe s
def Af{u:NS}{o:Obj}{n:String}{vs:Array NS}{Q:Unit->NV->Prop}(ho:s.heap.get? it=ZA o)(hc:o.cls=.type n)(hd:o.data=.fields vs)
  (hn:["enumerate","zip","dict_itemiterator","dict_reverseitemiterator","odict_iterator","itertools.zip_longest","itertools.pairwise"].contains n=ZD) (hQ:Q () s):ZJ M A (Rp tg (.ref it) u) Q E s:=by
 unfold Rp
 cases tg <;> first
  |exact Oe hQ
  | (cases u <;> first
    |exact Oe hQ
    | (refine NY (wpAny_load ho ?_)
       rw[hc,hd]
       show ZJ M A (if (["enumerate","zip","dict_itemiterator","dict_reverseitemiterator","odict_iterator","itertools.zip_longest","itertools.pairwise"].contains n&&vs[0]? == ZA (rawInt _))=ZC then _ else _) Q E s
       rw[if_neg (by intro h;rw[hn,TQ]at h;cases h)]
       exact Oe hQ))
def Itl(K:NQ)(a:ZE):It:=
 ⟨λi H=>∃xs x,SqL K H a xs/\xs[i]?=ZA x,λi H x H'=>H'=H/\∀xs,SqL K H a xs->xs[i]?=ZA x,λi H=>∃xs,SqL K H a xs/\xs.length<=i⟩
def Itt(K:NQ)(a:ZE):It:=
 ⟨λi H=>∃xs x,SqT K H a xs/\xs[i]?=ZA x,λi H x H'=>H'=H/\∀xs,SqT K H a xs->xs[i]?=ZA x,λi H=>∃xs,SqT K H a xs/\xs.length<=i⟩
def Itr(lo:Int)(n:Nat):It:=⟨λi _=>i<n,λi H x H'=>H'=H/\x=.int (lo+i),λi _=>n<=i⟩
def AG(a it:ZE):Bz P w K tg (Itl K a) [it] it (λi h=>h.IsListIter it a i) where
 mem:=by simp
 obj:=λi h st b hb=>by
  have e:b=it:=by simpa using hb
  subst e;obtain⟨o,e,c,d⟩:=st;exact⟨o,e,λv z=>by rw[d]at z;cases z⟩
 keep:=λi h h' st k=>st.at λo e=>k it (by simp) o e
 item:=by
  intro X hP hw hK hc i lm s σ H E I hf st hg;subst hP hw hK;obtain⟨xs,x,hq,hx⟩:=hg;obtain⟨its,rv,p,hz⟩:=I.list hq;obtain⟨u,hu,ru⟩:=rv.get hx;obtain⟨f0,f1,f2,f3,f4,f5⟩:=hf it (by simp)
  refine S0 st p.isList (x:=u) (by simpa using hu) λh' st' sb=>?_
  have I1:Inv X lm σ H {s with heap:=h'}:=I.turned (t':=s.toks) (λb o hb e=>(sb.2 b hb).trans e) f0 f1 f3 f4 f5
  obtain⟨o,e,c,d⟩:=id st';exact⟨u,rfl,Af (s:={s with heap:=h'}) e c d (by decide) ⟨x,H,I1,ru,⟨rfl,λys hy=>by rw[I.Nd hy hq];exact hx⟩,st',λb hb=>(hf b hb).1⟩⟩
 done:=by
  intro X hP hw hK hc i lm s σ H E I hf st hg;subst hP hw hK;obtain⟨xs,hq,hx⟩:=hg;obtain⟨its,rv,p,hz⟩:=I.list hq;obtain⟨f0,f1,f2,f3,f4,f5⟩:=hf it (by simp)
  have hl:=rv.length;exact Ts (I.ok.hd hc) st p.isList (by simp;omega) λh' eb=>⟨rfl,I.turned (t':=s.toks) (λb o hb e=>eb b o hb e) f0 f1 f3 f4 f5⟩
 self:=λ_ _ _ _ _ st h=>wpAny_pyIter_listiter st h
def xY(a it:ZE):Bz P w K tg (Itt K a) [it] it (λi h=>h.IsTupleIter it a i) where
 mem:=by simp
 obj:=λi h st b hb=>by
  have e:b=it:=by simpa using hb
  subst e;obtain⟨o,e,c,d⟩:=st;exact⟨o,e,λv z=>by rw[d]at z;cases z⟩
 keep:=λi h h' st k=>st.at λo e=>k it (by simp) o e
 item:=by
  intro X hP hw hK hc i lm s σ H E I hf st hg;subst hP hw hK;obtain⟨xs,x,hq,hx⟩:=hg;obtain⟨its,rv,p,hz⟩:=I.tuple hq;obtain⟨u,hu,ru⟩:=rv.get hx;obtain⟨f0,f1,f2,f3,f4,f5⟩:=hf it (by simp)
  refine wpAny_pyNext_tuple_item st (show s.heap.IsTuple a its.toArray from p) (x:=u) (by simpa using hu) λh' st' sb=>?_
  have I1:Inv X lm σ H {s with heap:=h'}:=I.turned (t':=s.toks) (λb o hb e=>(sb.2 b hb).trans e) f0 f1 f3 f4 f5
  obtain⟨o,e,c,d⟩:=id st';exact⟨u,rfl,Af (s:={s with heap:=h'}) e c d (by decide) ⟨x,H,I1,ru,⟨rfl,λys hy=>by rw[I.Nf hy hq];exact hx⟩,st',λb hb=>(hf b hb).1⟩⟩
 done:=by
  intro X hP hw hK hc i lm s σ H E I hf st hg;subst hP hw hK;obtain⟨xs,hq,hx⟩:=hg;obtain⟨its,rv,p,hz⟩:=I.tuple hq;obtain⟨f0,f1,f2,f3,f4,f5⟩:=hf it (by simp)
  have hl:=rv.length;exact wpAny_pyNext_tuple_end (I.ok.hd hc) st (show s.heap.IsTuple a its.toArray from p) (by simp;omega) λh' eb=>⟨rfl,I.turned (t':=s.toks) (λb o hb e=>eb b o hb e) f0 f1 f3 f4 f5⟩
 self:=λ_ _ _ _ _ st h=>wpAny_pyIter_tupleiter st h
def xZ(it:ZE)(lo:Int)(n:Nat):Bz P w K tg (Itr lo n) [it] it (λi h=>IsRangeIter h it (lo+(i:Nat)*1) ((n:Int) - (i:Nat)) 1) where
 mem:=by simp
 obj:=λi h st b hb=>by
  have e:b=it:=by simpa using hb
  subst e
  exact⟨_,st,λv z=>by
   have z':Vm _=Data.cell v:=z;cases z'⟩
 keep:=λi h h' st k=>k it (by simp) _ st
 item:=by
  intro X hP hw hK hc i lm s σ H E I hf st hg;subst hP hw hK;obtain⟨f0,f1,f2,f3,f4,f5⟩:=hf it (by simp)
  have W:=Walks.range (prog:=X.prog) (w:=X.w) (I.ok.hd hc) it lo 1 n;refine W.item i s _ _ hg st λv h' tk hv st' kk=>?_
  obtain⟨t,rfl⟩:=hv
  have I1:Inv X lm σ H {s with heap:=h',toks:=tk}:=I.turned (λb o hb e=>kk b o (by simpa using hb) e) f0 f1 f3 f4 f5
  refine⟨_,rfl,Af (s:={s with heap:=h',toks:=tk}) (n:="range_iterator") st' rfl rfl (by decide) ⟨.int (lo+i),H,I1,⟨t,?_⟩,⟨rfl,rfl⟩,st',λb hb=>(hf b hb).1⟩⟩
  rw[Int.mul_one]
 done:=by
  intro X hP hw hK hc i lm s σ H E I hf st hg;subst hP hw hK;obtain⟨f0,f1,f2,f3,f4,f5⟩:=hf it (by simp)
  exact wpAny_pyNext_range_end (I.ok.hd hc) st (by have:n<=i:=hg;omega) λh' eb=>⟨rfl,I.turned (t':=s.toks) (λb o hb e=>eb b o hb e) f0 f1 f3 f4 f5⟩
 self:=λ_ _ _ _ _ st h=>wpAny_pyIter_rangeiter st h
variable{fp:List ZE}{l:ZG}{tl:TE}
def Mq(K:NQ)(tl:TE):TI:=λσ H R=>tl σ H λx H1=>∃a,x=.ref a/\(∃xs,SqL K H1 a xs)/\R (Itl K a) H1
def iTup(K:NQ)(tl:TE):TI:=λσ H R=>tl σ H λx H1=>∃a,x=.ref a/\(∃xs,SqT K H1 a xs)/\R (Itt K a) H1
def Gm(hl:PE X l tl):PI X tg l (Mq X.K tl):=by
 intro lm s σ H R I h;refine bW (hl lm s σ H _ I h) λv s1 hh_=>?_
 obtain⟨x,H1,I1,r1,q1⟩:=hh_;obtain⟨a,e,⟨xs,hq⟩,q⟩:=q1;subst e;cases r1;obtain⟨its,rv,p,hz⟩:=I1.list hq;refine SA p.isList ?_
 refine⟨s1.heap.objs.size,[s1.heap.objs.size],_,_,H1,rfl,I1.kept (t':=s1.toks) λb o e=>N4 _ e,AG a _,⟨_,Og _ rfl,rfl,rfl⟩,λb hb=>?_,q⟩
 have e:b=s1.heap.objs.size:=by simpa using hb
 subst e;exact I1.Nm (Ob _) (I1.hok.fresh (Ob _))
def Jl(hl:PE X l tl):PI X tg l (iTup X.K tl):=by
 intro lm s σ H R I h;refine bW (hl lm s σ H _ I h) λv s1 hh_=>?_
 obtain⟨x,H1,I1,r1,q1⟩:=hh_;obtain⟨a,e,⟨xs,hq⟩,q⟩:=q1;subst e;cases r1;obtain⟨its,rv,p,hz⟩:=I1.tuple hq;refine Rq (show s1.heap.IsTuple a its.toArray from p) ?_
 refine⟨s1.heap.objs.size,[s1.heap.objs.size],_,_,H1,rfl,I1.kept (t':=s1.toks) λb o e=>N4 _ e,xY a _,⟨_,Og _ rfl,rfl,rfl⟩,λb hb=>?_,q⟩
 have e:b=s1.heap.objs.size:=by simpa using hb
 subst e;exact I1.Nm (Ob _) (I1.hok.fresh (Ob _))
def ml{R:It->Hp->Prop}{lo hi:Int}{t u v:Tok}(I:Inv X lm σ H s)(h1 : -(2 ^ 62)<=lo)(h2:lo<2 ^ 62)(h3 : -(2 ^ 62)<=hi)(h4:hi<2 ^ 62)
  (q:R (Itr lo (hi - lo).toNat) H):ZJ (ZK X.prog X.w) X.A (pyIter (.ref s.heap.objs.size)) (PIE X lm σ tg R) E {s with heap:=s.heap.push {cls:=.type "range",data:=.fields #[.int lo t,.int hi u,.int 1 v]},toks:=tk}:=by
 refine wpAny_pyIter_range (IsRange.new ..) (small_one h1 h2 h3 h4) ?_
 have I1:Inv X lm σ H {s with heap:=s.heap.push {cls:=.type "range",data:=.fields #[.int lo t,.int hi u,.int 1 v]},toks:=tk}:=I.kept λb o e=>N4 _ e
 refine⟨(s.heap.push {cls:=.type "range",data:=.fields #[.int lo t,.int hi u,.int 1 v]}).objs.size,[(s.heap.push {cls:=.type "range",data:=.fields #[.int lo t,.int hi u,.int 1 v]}).objs.size],_,_,H,rfl,
  I1.kept (t':=tk) λb o e=>N4 _ e,xZ _ lo (hi - lo).toNat,?_,λb hb=>?_,q⟩
 ·have e1:lo+((0:Nat):Int)*1=lo:=by simp
  have e2:(((hi - lo).toNat:Nat):Int) - ((0:Nat):Int)=Builtin.Range.rangeSize lo hi 1:=by rw[rangeSize_one];split <;> omega
  show IsRangeIter _ _ (lo+((0:Nat):Int)*1) ((((hi - lo).toNat:Nat):Int) - ((0:Nat):Int)) 1
  rw[e1,e2];exact Og _ rfl
 ·have e:b=(s.heap.push {cls:=.type "range",data:=.fields #[.int lo t,.int hi u,.int 1 v]}).objs.size:=by simpa using hb
  subst e;exact I1.Nm (Ob _) (I1.hok.fresh (Ob _))
def tFor(wi:TI)(g:TG)(tb:TS):TS:=λD σ H=>wi σ H λJ H1=>∃W:Nat->Nat->St->Hp->Prop,(∃m,W 0 m σ H1)/\∀i m σ H,W i m σ H →
 (J.stop i H/\D.nx σ H)\/(J.go i H/\∃N:St->Hp->Prop,(∀σ' H',N σ' H'->∃m',m'<m/\W (i+1) m' σ' H')/\∀x H',J.yld i H x H'->g x σ H' λσ2 H2=>tb {D with nx:=N,ct:=N,bk:=D.nx} σ2 H2)
def pT(fp:List ZE)(h:ZH):V2:=fp.filterMap λb=>(h.get? b).map λo=>(b,o)
def iW{o:Obj}(hb:b∈fp)(e:h.get? b=ZA o):(b,o)∈pT fp h:=Se.mpr ⟨b,hb,by rw[e];rfl⟩
def A0{p:ZE×Obj}(hp:p∈pT fp h):p.1∈fp/\h.get? p.1=ZA p.2:=by
 obtain⟨b,hb,e⟩:=Se.mp hp
 cases q:h.get? b with
 |none=>rw[q]at e;cases e
 |some o=>
  rw[q]at e
  have e':(b,o)=p:=OH e;subst e';exact⟨hb,q⟩
def Inv.pinned(I:Inv X lm σ H s)(hf:∀b∈fp,rk X lm H b)(ho:∀b∈fp,∃o,s.heap.get? b=ZA o/\∀v,o.data≠ .cell v):Inv X (lm++pT fp s.heap) σ H s:=
 I.Np λp hp=>(Oq.mp hp).elim (λz=>I.pin p (Om _ z)) λz=>by
  obtain⟨hb,e⟩:=A0 z;obtain⟨f0,f1,f2,_⟩:=hf p.1 hb;obtain⟨o,e',d⟩:=ho p.1 hb;rw[e]at e';cases e';exact⟨e,f0,f1,f2,d⟩
def Inv.M7{pl:V2}(I:Inv X (lm++pl) σ H s):Inv X lm σ H s:=I.Np λp hp=>I.pin p (Om _ (Oy _ hp))
abbrev R2:=V->V->Hp->VK->Prop
def rE(X:Cx)(f:NS->NS->Sem NS)(r:R2):Prop:=
 ∀(lm:V2)(s:NV)(σ:St)(H:Hp)(x y:V)(v u:NS)(Q:VK),Inv X lm σ H s->RelV x v->RelV y u->r x y H Q →
  ZJ (ZK X.prog X.w) X.A (f v u) (EP X lm σ Q) X.xe s
def UnR(X:Cx)(f:NS->Sem NS)(r:V->Hp->VK->Prop):Prop:=
 ∀(lm:V2)(s:NV)(σ:St)(H:Hp)(x:V)(v:NS)(Q:VK),Inv X lm σ H s->RelV x v->r x H Q →
  ZJ (ZK X.prog X.w) X.A (f v) (EP X lm σ Q) X.xe s
def CallR(X:Cx)(f:NS)(r:List V->Hp->VK->Prop):Prop:=
 ∀(lm:V2)(s:NV)(σ:St)(H:Hp)(xs:List V)(us:List NS)(Q:VK),Inv X lm σ H s->Vals xs us->r xs H Q →
  ZJ (ZK X.prog X.w) X.A (call f us) (EP X lm σ Q) X.xe s
def tOp(r:R2)(ta tb:TE):TE:=λσ H Q=>ta σ H λx H1=>tb σ H1 λy H2=>r x y H2 Q
def tUn(r:V->Hp->VK->Prop)(ta:TE):TE:=λσ H Q=>ta σ H λx H1=>r x H1 Q
def rI(C:Int->Int->Prop)(g:Int->Int->V):R2:=λx y H Q=>∃i j,x=.int i/\y=.int j/\C i j/\Q (g i j) H
def HG(g:Int->Int->V):R2:=λx y H Q=>∃i j,x=.int i/\y=.int j/\Q (g i j) H
def rU(g:Int->V):V->Hp->VK->Prop:=λx H Q=>∃i,x=.int i/\Q (g i) H
variable{f:NS->NS->Sem NS}
section
variable {a b:ZG}{tb tc:TE}
def LG{op:UnaryOp}{r:V->Hp->VK->Prop}(ho:UnR X (unaryOp op) r)(ha:PE X a ta):PE X (.UnaryOp op a pos) (tUn r ta):=by
 intro lm s σ H Q I h;exact UnaryOp_ (bW (ha lm s σ H _ I h) λv s1 ⟨x,H1,I1,r1,q1⟩=>ho lm s1 σ H1 x v Q I1 r1 q1)
def opI{C:Int->Int->Prop}
  (rule:∀(i j:Int)(t u:Tok)(s:NV)(Q:V1)(E:V1),C i j->Q (.int (g i j) s.toks) {s with toks:=s.toks+1}->ZJ (ZK X.prog X.w) X.A (f (.int i t) (.int j u)) Q E s):
  rE X f (rI C λi j=>.int (g i j)):=by
 intro lm s σ H x y v u Q I rx ry h;obtain⟨i,j,rfl,rfl,hc,q⟩:=h;obtain⟨t,rfl⟩:=rx;obtain⟨t',rfl⟩:=ry;exact rule i j t t' s _ _ hc ⟨.int (g i j),H,I.tok _,⟨_,rfl⟩,q⟩
def LR
  (rule:∀(i j:Int)(t u:Tok)(s:NV)(Q:V1)(E:V1),Q (.int (g i j) s.toks) {s with toks:=s.toks+1}->ZJ (ZK X.prog X.w) X.A (f (.int i t) (.int j u)) Q E s):
  rE X f (HG λi j=>.int (g i j)):=by
 intro lm s σ H x y v u Q I rx ry h;obtain⟨i,j,rfl,rfl,q⟩:=h;obtain⟨t,rfl⟩:=rx;obtain⟨t',rfl⟩:=ry;exact rule i j t t' s _ _ ⟨.int (g i j),H,I.tok _,⟨_,rfl⟩,q⟩
def JB{g:Int->Int->Bool}
  (rule:∀(i j:Int)(t u:Tok)(s:NV)(Q:V1)(E:V1),Q (.bool (g i j)) s->ZJ (ZK X.prog X.w) X.A (f (.int i t) (.int j u)) Q E s):
  rE X f (HG λi j=>.bl (g i j)):=by
 intro lm s σ H x y v u Q I rx ry h;obtain⟨i,j,rfl,rfl,q⟩:=h;obtain⟨t,rfl⟩:=rx;obtain⟨t',rfl⟩:=ry;exact rule i j t t' s _ _ ⟨.bl (g i j),H,I,rfl,q⟩
def CDiv(i j:Int):Prop:=0<j/\j<1073741824
def CMul(i j:Int):Prop:=(-(2 ^ 64)<i/\i<2 ^ 64)\/(-(2 ^ 64)<j/\j<2 ^ 64)
def CMul.ok{i j:Int}(h:CMul i j):IntMulOk i j:=by
 rcases h with⟨h1,h2⟩|⟨h1,h2⟩
 ·exact .of_left (intBits_le_64 h1 h2)
 ·exact .of_right (intBits_le_64 h1 h2)
def JA:rE X (PY .Add) (HG λi j=>.int (i+j)):=LR λ_ _ _ _ _ _ _ q=>add_int q
def Ju:rE X (PY .Sub) (HG λi j=>.int (i - j)):=LR λ_ _ _ _ _ _ _ q=>sub_int q
def Jw:rE X (PY .Mult) (rI CMul λi j=>.int (i*j)):=opI λ_ _ _ _ _ _ _ hc q=>mul_int q hc.ok
def Gw:rE X (PY .FloorDiv) (rI CDiv λi j=>.int (i / j)):=opI λi j _ _ _ _ _ hc q=>by
 have h1:(0:Int)<j:=hc.1
 have h2:j<1073741824:=hc.2;exact floordiv_int (by omega) (by rw[Int.fdiv_eq_ediv_of_nonneg i (by omega)];exact q) (.inl (PyProof.noPylong_small (by omega)))
def Jx:rE X (PY .Mod) (rI (λ_ j=>0<j) λi j=>.int (i % j)):=opI λi j _ _ _ _ _ hc q=>by
 have h1:(0:Int)<j:=hc;exact mod_int' (by omega) (by rw[Int.fmod_eq_emod_of_nonneg i (by omega)];exact q)
def unI{f:NS->Sem NS}{g:Int->Int}
  (rule:∀(i:Int)(t:Tok)(s:NV)(Q:V1)(E:V1),Q (.int (g i) s.toks) {s with toks:=s.toks+1}->ZJ (ZK X.prog X.w) X.A (f (.int i t)) Q E s):
  UnR X f (rU λi=>.int (g i)):=by
 intro lm s σ H x v Q I rx h;obtain⟨i,rfl,q⟩:=h;obtain⟨t,rfl⟩:=rx;exact rule i t s _ _ ⟨.int (g i),H,I.tok _,⟨_,rfl⟩,q⟩
def Iq:UnR X (unaryOp .USub) (rU λi=>.int (-i)):=unI λ_ _ _ _ _ q=>neg_int q
end
noncomputable def scal:V->V->Bool
 |.non,.non=>ZC|.non,.int _=>ZC|.int _,.non=>ZC|.non,.bl _=>ZC|.bl _,.non=>ZC|.non,.str _=>ZC|.str _,.non=>ZC
 |.int _,.int _=>ZC|.bl _,.bl _=>ZC|.str _,.str _=>ZC|.byt _,.byt _=>ZC
 |.int _,.str _=>ZC|.str _,.int _=>ZC|.bl _,.str _=>ZC|.str _,.bl _=>ZC
 |_,_=>ZD
def rNe:R2:=λx y H Q=>scal x y=ZC/\Q (.bl (!decide (x=y))) H
def G9{i j:Int}:decide (V.int i=V.int j)=(i == j):=by
 rw[Rl];simp
def Kt{i j:Bool}:decide (V.bl i=V.bl j)=(i == j):=by
 rw[Rl];simp
def G8{i j:Str}:decide (V.str i=V.str j)=(i == j):=by
 rw[Rl];simp
def Ha{i j:Array UInt8}:decide (V.byt i=V.byt j)=(i.toList == j.toList):=by
 rw[Rl];cases i;cases j;simp
section
variable {a b:ZG}{tb tc:TE}
def dQ{Q:VK}{k k':Bool}(I:Inv X lm σ H s)(q:Q (.bl k) H)(e:k=k'):EP X lm σ Q (.bool k') s:=by
 subst e;exact⟨.bl k,H,I,rfl,q⟩
def LM:rE X (OM .NotEq) rNe:=by
 intro lm s σ H x y v u Q I rx ry h;obtain⟨hs,q⟩:=h
 cases x with
 |non=>
  cases rx
  cases y with
  |non=>cases ry;exact PySem.EqNone.ne_none_none (dQ I q (by simp))
  |bl j=>cases ry;exact PySem.EqNone.ne_none_bool (dQ I q (by simp))
  |int j=>obtain⟨t',rfl⟩:=ry;exact PySem.EqNone.ne_none_int (dQ I q (by simp))
  |str j=>obtain⟨t',rfl⟩:=ry;exact PySem.EqNone.ne_none_str (dQ I q (by simp))
  |_=>exact absurd (show ZD=ZC from hs) N9
 |bl i=>
  cases rx
  cases y with
  |non=>cases ry;exact PySem.EqNone.ne_bool_none (dQ I q (by simp))
  |bl j=>cases ry;exact ne_bool (dQ I q (congrArg not Kt))
  |str j=>obtain⟨t',rfl⟩:=ry;exact PySem.EqMixed.ne_bool_str (dQ I q (by simp))
  |_=>exact absurd (show ZD=ZC from hs) N9
 |int i=>
  obtain⟨t,rfl⟩:=rx
  cases y with
  |non=>cases ry;exact PySem.EqNone.ne_int_none (dQ I q (by simp))
  |int j=>obtain⟨t',rfl⟩:=ry;exact ne_int (dQ I q (congrArg not G9))
  |str j=>obtain⟨t',rfl⟩:=ry;exact PySem.EqMixed.ne_int_str (dQ I q (by simp))
  |_=>exact absurd (show ZD=ZC from hs) N9
 |str i=>
  obtain⟨t,rfl⟩:=rx
  cases y with
  |non=>cases ry;exact PySem.EqNone.ne_str_none (dQ I q (by simp))
  |bl j=>cases ry;exact PySem.EqMixed.ne_str_bool (dQ I q (by simp))
  |int j=>obtain⟨t',rfl⟩:=ry;exact PySem.EqMixed.ne_str_int (dQ I q (by simp))
  |str j=>obtain⟨t',rfl⟩:=ry;exact ne_str (dQ I q (congrArg not G8))
  |_=>exact absurd (show ZD=ZC from hs) N9
 |byt i=>
  obtain⟨t,rfl⟩:=rx
  cases y with
  |byt j=>obtain⟨t',rfl⟩:=ry;exact PySem.W.ne_bytes (dQ I q (congrArg not Ha))
  |_=>exact absurd (show ZD=ZC from hs) N9
 |_=>cases y <;> exact absurd (show ZD=ZC from hs) N9
def LN:rE X (OM .Lt) (HG λi j=>.bl (decide (i<j))):=JB λ_ _ _ _ _ _ _ q=>lt_int q
def LP:rE X (OM .LtE) (HG λi j=>.bl (decide (i<=j))):=JB λ_ _ _ _ _ _ _ q=>le_int q
def LQ:rE X (OM .Gt) (HG λi j=>.bl (decide (j<i))):=JB λ_ _ _ _ _ _ _ q=>gt_int q
def Jy:rE X (OM .Is) (λx y H Q=>y=.non/\Q (.bl (decide (x=.non))) H):=by
 intro lm s σ H x y v u Q I rx ry h;obtain⟨rfl,q⟩:=h;cases ry;refine is_none_gen (dQ I q ?_)
 cases x <;> first
  | (cases rx;rfl)
  | (obtain⟨t,rfl⟩:=rx;rfl)
def Gv:rE X (OM .IsNot) (λx y H Q=>y=.non/\Q (.bl (!decide (x=.non))) H):=by
 intro lm s σ H x y v u Q I rx ry h;obtain⟨rfl,q⟩:=h;cases ry;refine isnot_none_gen (dQ I q ?_)
 cases x <;> first
  | (cases rx;rfl)
  | (obtain⟨t,rfl⟩:=rx;rfl)
def JG(b:ZG)(h:autoParam (op≠ .In) s_)(h2:autoParam (op≠ .NotIn) s_):Qm op b=ZD:=by
 have e1:(op == CmpOp.In)=ZD:=by cases op <;> first|rfl|exact absurd rfl h
 have e2:(op == CmpOp.NotIn)=ZD:=by cases op <;> first|rfl|exact absurd rfl h2
 cases b <;> simp[Qm,e1,e2]
def KZ(t:TE):TT:=λσ H Q=>t σ H λx H'=>∃k,x=.bl k/\Q k H'
def Gg{r:R2}(ho:rE X (OM op) r)(ha:PE X a ta)(hb:PE X b tb)(hm:Qm op b=ZD):PT X (.Compare a [op] [b] pos) (KZ (tOp r ta tb)):=by
 intro lm s σ H Q I h
 refine RN (bW (ha lm s σ H _ I h) λv s1 ⟨x,H1,I1,r1,q1⟩=>bW (hb lm s1 σ H1 _ I1 q1) λu s2 ⟨y,H2,I2,r2,q2⟩=>
  bW (ho lm s2 σ H2 x y v u _ I2 r1 r2 q2) λc s3 ⟨z,H3,I3,r3,k,e,q3⟩=>?_) hm
 subst e;cases r3;exact OY ⟨H3,I3,q3⟩
def qC:(ZI:Nat)<2 ^ 63:=by rw[QY];decide
def yp:rE X (PY .Add) (λx y H Q=>∃i j,x=.str i/\y=.str j/\i.length+j.length<=ZI/\Q (.str (i++j)) H):=by
 intro lm s σ H x y v u Q I rx ry h;obtain⟨i,j,rfl,rfl,hz,q⟩:=h;obtain⟨t,rfl⟩:=rx;obtain⟨t',rfl⟩:=ry;exact add_str (λt' tk=>⟨.str (i++j),H,I.tok _,⟨_,rfl⟩,q⟩) hz
def jA{x:V}(r:Vals [x] us):∃u,us=[u]/\RelV x u:=by
 cases r with
 |cons r1 r2=>cases r2;exact⟨_,rfl,r1⟩
def vt{x:V}(r:Vals [x,y] us):∃u w',us=[u,w']/\RelV x u/\RelV y w':=by
 cases r with
 |cons r1 r2=>
  cases r2 with
  |cons r3 r4=>cases r4;exact⟨_,_,rfl,r1,r3⟩
def Bw(hc:X.calm=ZC):CallR X (.builtin "max") (λxs H Q=>∃i j,xs=[.int i,.int j]/\Q (.int (if j > i then j else i)) H):=by
 intro lm s σ H xs us Q I r h;obtain⟨i,j,rfl,q⟩:=h;obtain⟨u,w',rfl,⟨t,rfl⟩,⟨t',rfl⟩⟩:=vt r;refine max_two_ints (I.ok.hd hc) λh' tk k=>⟨_,H,I.kept k,?_,q⟩
 by_cases hj:j > i
 ·rw[if_pos hj,if_pos hj];exact⟨_,rfl⟩
 ·rw[if_neg hj,if_neg hj];exact⟨_,rfl⟩
def Bv(hc:X.calm=ZC):CallR X (.builtin "min") (λxs H Q=>∃i j,xs=[.int i,.int j]/\Q (.int (if j<i then j else i)) H):=by
 intro lm s σ H xs us Q I r h;obtain⟨i,j,rfl,q⟩:=h;obtain⟨u,w',rfl,⟨t,rfl⟩,⟨t',rfl⟩⟩:=vt r;refine min_two_ints (I.ok.hd hc) λh' tk k=>⟨_,H,I.kept k,?_,q⟩
 by_cases hj:j<i
 ·rw[if_pos hj,if_pos hj];exact⟨_,rfl⟩
 ·rw[if_neg hj,if_neg hj];exact⟨_,rfl⟩
def Bx:CallR X (.type "int") (λxs H Q=>(∃i,xs=[.int i]/\Q (.int i) H)\/∃k,xs=[.bl k]/\Q (.int (if k then 1 else 0)) H):=by
 intro lm s σ H xs us Q I r h;rcases h with⟨i,rfl,q⟩|⟨k,rfl,q⟩
 ·obtain⟨u,rfl,t,rfl⟩:=jA r
  exact call_int_int ⟨.int i,H,I,⟨_,rfl⟩,q⟩
 ·obtain⟨u,rfl,r1⟩:=jA r
  cases r1;exact call_int_bool ⟨.int (if k then 1 else 0),H,I.tok _,⟨_,rfl⟩,q⟩
end
structure ObjM (h:ZH)(x dx C:ZE)(mA:V0):Prop where
 obj:h.get? x=ZA (P8 C dx)
 ns:h.Ns1 dx mA
 ne:dx≠x
variable{dx:ZE}{mA:V0}
def A8(n:h.Ns1 dx mA):∃od,h.get? dx=ZA od/\∀name,Si name od=ZA (mA name):=by
 obtain⟨o,es,ep,ho,hd,hk,_,hm⟩:=n;refine⟨o,ho,λname=>?_⟩
 have e:=hm name;unfold nsFind findBy at e;rw[<-Uc]at e
 unfold Si;rw[hd]
 dsimp only
 split
 ·rename_i y q
  rw[q]at e;exact congrArg ZA e
 ·rename_i q
  rw[q]at e
  have a:es.toList.any (·.refKey)=ZD:=by
   rw[Su];intro y hy;obtain⟨z,t,hkey⟩:=hk y (Array.mem_toList_iff.mp hy);simp[DictEntry.refKey,hkey]
  have a':¬ es.toList.any (·.refKey)=ZC:=by rw[a];exact N9
  rw[if_neg a'];exact congrArg ZA e
variable{C:ZE}
def ObjM.look{x:ZE}(I:ObjM h x dx C mA):∃od,PySem.W.InstAt h x (P8 C dx) C (ZA od)/\∀name,Si name od=ZA (mA name):=
 let ⟨od,ho,hl⟩:=A8 I.ns
 ⟨od,⟨I.obj,rfl,rfl,ho⟩,hl⟩
variable{kw:List (Str×NS)}{name:Str}
section
variable {x f:ZE}{v:NS}
def kP(X:K.In s.heap)(I:ObjM s.heap x dx C mA)(hg:RO K C name=ZC)(hh:So K C=ZC)
  (ha:PN K (.ref C) name=ZA ZB) (hv:mA name=ZA v) (hv':U2 v=ZC) (h:Q v {s with toks:=s.toks+1}):
  ZJ (ZK prog w) A (getAttr (.ref x) name expr) Q E s:=by
 obtain⟨od,J,hl⟩:=I.look;exact PySem.W.get_value X J (RX hg).1 (PySem.W.findObj_own hh ha rfl (by rw[hl,hv])) hv' h
def D9{pl:Sem Bool}{Q:NS×List NS->NV->Prop}(X:K.In s.heap)(I:ObjM s.heap x dx C mA)(hg:RO K C name=ZC)
  (hf:PN K (.ref C) name=ZA (ZA (.ref f))) (ht:UQ K (.ref f)=ZC) (hv:mA name=ZB) (h:Q (.ref f,[.ref x]) s):
  ZJ (ZK prog w) A (R4 (.ref x) name pl) Q E s:=by
 obtain⟨od,J,hl⟩:=I.look;exact PySem.W.method_fn X J (RX hg).1 (RX hg).2 hf (beq_iff_eq.mp ht) (by show(Si name od).map (·.isSome)=ZA ZD;rw[hl,hv];rfl) h
def FI{ns:List Str}{Q:Unit->NV->Prop}(X:K.In s.heap)(I:ObjM s.heap x dx C mA)
  (hs:PN K (.ref C) "__setattr__" =ZA (ZA (.builtin "object.__setattr__"))) (hp:UA K C=ZC) (ht:S4 K C name=ZA ZB) (hh:So K C=ZC)
  (hw:UR mA ns) (hsz:ns.length<=ZI)
  (h:∀h',ObjM h' x dx C (λy=>if y=name then ZA v else mA y)->Rg dx s.heap h'->Q () {s with heap:=h',toks:=s.toks+2}):
  ZJ (ZK prog w) A (setAttr (.ref x) name v) Q E s:=by
 obtain⟨od,J,hl⟩:=I.look;refine PySem.W.set_plain X J hs (PySem.W.osa_open (s:={s with toks:=s.toks+1}) (r:=ZB) X J hp ht λb=>?_)
 obtain⟨cd,hc,hd'⟩:=PySem.W.any_some hh
 have hx:s.heap.get? x=ZA ⟨.ref C,ZA dx,.plain,#[]⟩:=I.obj;refine NY (Oe (NY (NY (wpAny_loadPart hx (NY (PySem.W.Looks.here (s:={s with toks:=s.toks+1}) (PySem.W.looks_clsIn X hc) ?_))))))
 rw[hd'];refine Oe (a:=ZA dx) (NY (Oe (NY ?_)))
 refine wpAny_nsSet1 (s:={s with toks:=s.toks+1}) I.ns λh' hn2 hs2=>?_
 obtain⟨oD,esD,epD,hoD,hdD,hcD⟩:=hn2.count (PySem.Within.cons name v hw);refine NY (wpAny_lookBehind hoD (by rw[hdD];exact pastItsLine_dict (O4 hcD (by rw[NZ];omega))) ?_)
 exact Oe (h _ ⟨(hs2.2 _ (P4 I.ne)).trans I.obj,hn2,I.ne⟩ hs2)
def wV(X:K.In s.heap)(hm:Vj K C=ZC)
  (hi:PN K (.ref C) "__init__" =ZA (ZA (.ref f))) (hf:PySem.W.typeIn K (.ref f)=ZA (.type "function"))
  (h:ZL (ZK prog w) (A.under (.builtin "type.__call__" ⟨.ref C::vs,kw⟩)) (.call (.ref f) ⟨.ref (s.heap.objs.size+1)::vs,kw⟩) (PySem.W.InitBack (s.heap.objs.size+1) R)
   {s with heap:=(s.heap.push Pu).push (P8 C s.heap.objs.size)}):
  ZL (ZK prog w) A (.call (.ref C) ⟨vs,kw⟩) R s:=by
 obtain⟨hh,g,d,t,os⟩:=s;exact PySem.W.make_core (PySem.W.makes_of X hm) (PySem.W.looks_findIn X hi) (λself=>PySem.W.bind_fn X self hf) (.inl rfl) h
end
noncomputable def putF(f:Str)(v:V):List (Str×V)->List (Str×V)
 |[] =>[(f,v)]
 | (g,x)::r=>if g=f then(g,v)::r else(g,x)::putF f v r
theorem nZ(f g:Str)(v:V):∀fs:List (Str×V),(putF f v fs).lookup g=if g=f then ZA v else fs.lookup g
 |[] =>by
  show PH g [(f,v)]=_
  by_cases h:g=f
  ·have hb:(g == f)=ZC:=beq_iff_eq.mpr h
   simp only[PH,hb,if_pos h]
  ·have hb:(g == f)=ZD:=beq_eq_false_iff_ne.mpr h
   simp only[PH,hb,if_neg h]
 | (k,x)::r=>by
  have ih:=nZ f g v r;rw[show putF f v ((k,x)::r)=(if k=f then(k,v)::r else(k,x)::putF f v r)from rfl]
  by_cases hk:k=f
  ·rw[if_pos hk]
   by_cases h:g=k
   ·have hb:(g == k)=ZC:=beq_iff_eq.mpr h
    simp only[PH,hb,if_pos (h.trans hk)]
   ·have hb:(g == k)=ZD:=beq_eq_false_iff_ne.mpr h
    simp only[PH,hb,if_neg (λe:g=f=>h (e.trans hk.symm))]
  ·rw[if_neg hk]
   by_cases h:g=k
   ·have hb:(g == k)=ZC:=beq_iff_eq.mpr h
    simp only[PH,hb,if_neg (λe:g=f=>hk (h.symm.trans e))]
   ·have hb:(g == k)=ZD:=beq_eq_false_iff_ne.mpr h
    simp only[PH,hb];exact ih
theorem nC(f:Str)(v:V):∀fs:List (Str×V),f∈(putF f v fs).map (·.1)/\∀g,g∈fs.map (·.1)->g∈(putF f v fs).map (·.1)
 |[] =>⟨by simp[putF],λg h=>by simp at h⟩
 | (k,x)::r=>by
  obtain⟨i1,i2⟩:=nC f v r;rw[show putF f v ((k,x)::r)=(if k=f then(k,v)::r else(k,x)::putF f v r)from rfl]
  by_cases hk:k=f
  ·rw[if_pos hk]
   subst hk;exact⟨by simp,λg h=>by simpa using h⟩
  ·rw[if_neg hk]
   refine⟨?_,λg h=>?_⟩
   ·rw[NT]
    exact NR _ i1
   ·rw[NT]at h ⊢
    rcases N0.mp h with e|e
    ·exact N0.mpr (.inl e)
    ·exact NR _ (i2 g e)
theorem n5(f:Str)(v:V):∀fs:List (Str×V),(putF f v fs).length<=fs.length+1
 |[] =>by simp[putF]
 | (k,x)::r=>by
  have ih:=n5 f v r;rw[show putF f v ((k,x)::r)=(if k=f then(k,v)::r else(k,x)::putF f v r)from rfl]
  by_cases hk:k=f
  ·rw[if_pos hk,NZ,NZ];omega
  ·rw[if_neg hk,NZ,NZ];omega
def RelO.some_of{o:Option NS}(r:RelO (ZA v) o):∃u,o=ZA u/\RelV v u:=by
 cases o with
 |none=>exact(show False from r).elim
 |some u=>exact⟨u,rfl,r⟩
def RelO.none_of{o:Option NS}(r:RelO ZB o):o=ZB:=by
 cases o with
 |none=>rfl
 |some u=>exact(show False from r).elim
def Bi{u:NS}(r:RelV v u):U2 u=ZC:=by
 cases v with
 |non=>cases (show u=OI from r);rfl
 |bl b=>cases (show u=OS b from r);rfl
 |int i=>obtain⟨t,e⟩:=(show ∃t,u=PD i t from r);cases e;rfl
 |str x=>obtain⟨t,e⟩:=(show ∃t,u=PF x t from r);cases e;rfl
 |byt b=>obtain⟨t,e⟩:=(show ∃t,u=Value.bytes b t from r);cases e;rfl
 |flt b=>obtain⟨t,e⟩:=(show ∃t,u=Vl b t from r);cases e;rfl
 |ref a=>cases (show u=Oc a from r);rfl
 |ty n=>cases (show u=Rx n from r);rfl
section
variable {fs fs':List (Str×V)}
def o8(hok:HOk P w H h)(e:H a=ZA (.ins C dx fs)):∃mA,ObjM h a dx C mA/\(∀f,RelO (fs.lookup f) (mA f))/\UR mA (fs.map (·.1))/\fs.length<=1000/\H dx=ZA (.own a):=by
 obtain⟨d,z,ne,ob,mA,n,r,q⟩:=(show ObjOk P w H h a (.ins C dx fs)from hok a _ e)
 exact⟨mA,⟨ob,n,ne⟩,r,q,z,d⟩
end
structure Cls (K:NQ)(C:ZE):Prop where
 pg:RO K C Str.empty=ZC
 hd:So K C=ZC
 po:UA K C=ZC
 sa:PN K (.ref C) "__setattr__" =ZA (ZA (.builtin "object.__setattr__"))
def Cls.get(c:Cls K C)(f:Str):RO K C f=ZC:=c.pg
def NoAttr(K:NQ)(C:ZE)(f:Str):Prop:=PN K (.ref C) f=ZA ZB
variable{f:Str}
def NoAttr.NH(n:NoAttr K C f):S4 K C f=ZA ZB:=by
 unfold S4;rw[show PN K (.ref C) f=ZA ZB from n]
 rfl
structure xJ (K:NQ)(C:ZE)(m:Str)(f:ZE):Prop where
 at_:PN K (.ref C) m=ZA (ZA (.ref f))
 fn:UQ K (.ref f)=ZC
 kp:PP K (.ref f)=ZC
variable{b:Bool}{m:Str}
section
variable {fs:List (Str×V)}
def yT(I:Inv X lm σ H s)(e:H a=ZA (.ins C dx fs))(c:Cls X.K C)(n:NoAttr X.K C f)(l:fs.lookup f=ZA v)
  (h:∀u s',Inv X lm σ H s'->RelV v u->Q u s'):ZJ (ZK X.prog X.w) A (getAttr (.ref a) f b) Q E s:=by
 obtain⟨mA,O,r,_,_,_⟩:=o8 I.hok e;obtain⟨u,hu,ru⟩:=RelO.some_of (v:=v) (o:=mA f) (by rw[<-l];exact r f)
 exact kP I.kIn O (c.get f) c.hd n hu (Bi ru) (h u _ (I.tok _) ru)
def lT{g:ZE}{pl:Sem Bool}{Q:NS×List NS->NV->Prop}(I:Inv X lm σ H s)(e:H a=ZA (.ins C dx fs))(c:Cls X.K C)(k:xJ X.K C m g)(l:fs.lookup m=ZB)
  (h:Q (.ref g,[.ref a]) s):ZJ (ZK X.prog X.w) A (R4 (.ref a) m pl) Q E s:=by
 obtain⟨mA,O,r,_,_,_⟩:=o8 I.hok e
 have hn:mA m=ZB:=RelO.none_of (by rw[<-l];exact r m)
 exact D9 I.kIn O (c.get m) k.at_ k.fn hn h
def yb{u:NS}{Q:Unit->NV->Prop}(I:Inv X lm σ H s)(e:H a=ZA (.ins C dx fs))(c:Cls X.K C)(n:NoAttr X.K C f)(hl:fs.length<1000)(ry:RelV y u)
  (h:∀s',Inv X lm σ (upd H a (.ins C dx (putF f y fs))) s'->Q () s'):ZJ (ZK X.prog X.w) A (setAttr (.ref a) f u) Q E s:=by
 obtain⟨mA,O,r,wi,_,ho⟩:=o8 I.hok e
 have hz:(fs.map (·.1)).length<=ZI:=by rw[NW,QY];omega
 refine FI I.kIn O c.sa c.po n.NH c.hd wi hz λh' O' sb=>h _ ?_
 have hd:∃o,h'.get? dx=ZA o:=let ⟨o,_,_,e',_⟩:=O'.ns;⟨o,e'⟩
 refine I.write (x:=a) (e:=dx) (by rw[e];exact Qx) (.inr ho) (λb q hb z=>(sb.2 b hb).trans z) hd ?_
 refine⟨by rw[aG O.ne];exact ho,?_,O.ne,O'.obj,_,O'.ns,λg=>?_,λg hg=>?_⟩
 ·have:=n5 f y fs;omega
 ·show RelO ((putF f y fs).lookup g) (if g=f then ZA u else mA g)
  rw[nZ]
  by_cases q:g=f
  ·rw[if_pos q,if_pos q];exact ry
  ·rw[if_neg q,if_neg q];exact r g
 ·by_cases q:g=f
  ·rw[q];exact(nC f y fs).1
  ·refine(nC f y fs).2 g (wi g λz=>hg ?_)
   show(if g=f then ZA u else mA g)=ZB
   rw[if_neg q];exact z
def Inv.made(I:Inv X lm σ H s):Inv X lm σ (upd (upd H s.heap.objs.size (.own (s.heap.objs.size+1))) (s.heap.objs.size+1) (.ins C s.heap.objs.size []))
  {s with heap:=(s.heap.push Pu).push (P8 C s.heap.objs.size)}:=by
 have e1:(s.heap.push Pu).get? s.heap.objs.size=ZA Pu:=Og s.heap rfl
 have e2:((s.heap.push Pu).push (P8 C s.heap.objs.size)).get? (s.heap.objs.size+1)=ZA (P8 C s.heap.objs.size):=by
  have:=Og (s.heap.push Pu) (o:=P8 C s.heap.objs.size) rfl
  rwa [Qr]at this
 have e3:(s.heap.push Pu).Ns s.heap.objs.size (λ_=>ZB):=⟨Pu,#[],_,e1,rfl,(λe he=>absurd he (by simp)),λ_=>rfl⟩
 have I1:=I.laid (a:=s.heap.objs.size) (o:=.own (s.heap.objs.size+1)) (h':=s.heap.push Pu) (t':=s.toks) (λb u q=>N4 _ q) (Ob _) ⟨_,e1⟩
 refine I1.laid (a:=s.heap.objs.size+1) (o:=.ins C s.heap.objs.size []) (t':=s.toks) (λb u q=>N4 _ q) (RG (Qr _ _)) ?_
 have ne:s.heap.objs.size≠s.heap.objs.size+1:=Pr (SO _);refine⟨by rw[aG ne,aJ],P9 _,ne,e2,λ_=>ZB,(Heap.Ns1.of_empty e3).at λo q=>N4 _ q,λ_=>Qx,λy hy=>absurd rfl hy⟩
def Hj{env:Env}(hb:Ox e f env (eval e env)=eval e env)
  (h:ZJ (ZK prog w) A (eval e env) (λo s₁=>ZJ (ZK prog w) A (getAttr o f ZC) Q E s₁) E s):ZJ (ZK prog w) A (eval (.Attribute e f pos) env) Q E s:=
 Attribute_any_ h (by rw[arm_eval_Attribute,hb])
end
def tFld(K:NQ)(ta:TE)(f:Str):TE:=λσ H Q=>ta σ H λx H1=>∃a C dx fs v,x=.ref a/\H1 a=ZA (.ins C dx fs)/\Cls K C/\NoAttr K C f/\fs.lookup f=ZA v/\Q v H1
def sFld(K:NQ)(ta tv:TE)(f:Str):TS:=λD σ H=>tv σ H λy H1=>ta σ H1 λx H2=>∃a C dx fs,x=.ref a/\H2 a=ZA (.ins C dx fs)/\Cls K C/\NoAttr K C f/\fs.length<1000 ∧
 D.nx σ (upd H2 a (.ins C dx (putF f y fs)))
section
variable {o value:ZG}{tpos:Pos}{tv:TE}
def ym(he:PE X e ta)(hb:Ox e f X.env (eval e X.env)=eval e X.env):PE X (.Attribute e f pos) (tFld X.K ta f):=by
 intro lm s σ H Q I h;refine Hj hb (bW (he lm s σ H _ I h) λu s1 hh_=>?_)
 obtain⟨x,H1,I1,rx,a,C,dx,fs,v,ex,ea,c,n,l,q⟩:=hh_;subst ex;obtain rfl:u=Oc a:=rx;exact yT I1 ea c n l λu' s2 I2 ru=>⟨v,H1,I2,ru,q⟩
def Jj(ha:PE X o ta)(hv:PE X value tv)(hs:OQ value (ZA (.Attribute o f pos')) pos.line X.env=pure ZD):PS X (.Assign [.Attribute o f pos'] value pos) (sFld X.K ta tv f):=by
 intro lm s σ H D I h;refine plainObj_wpAny_Assign_Attribute (bW (hv lm s σ H _ I h) λu s1 ⟨y,H1,I1,ry,q⟩=>bW (ha lm s1 σ H1 _ I1 q) λov s2 ⟨x,H2,I2,rx,a,C,dx,fs,ex,ea,c,n,l,q2⟩=>?_) hs
 subst ex;obtain rfl:ov=Oc a:=rx;exact yb I2 ea c n l ry λs3 I3=>⟨σ,_,I3,q2⟩
end
section
variable {c:NS}
inductive nL (K:NQ) (H:Hp):V->NS->Prop where
 |non:nL K H .non (.type "NoneType")
 |bl (x:Bool):nL K H (.bl x) (.type "bool")
 |int (i:Int):nL K H (.int i) (.type "int")
 |str (x:Str):nL K H (.str x) (.type "str")
 |flt (x:UInt64):nL K H (.flt x) (.type "float")
 |lst {a:ZE} {xs:List V} (e:H a=ZA (.lst xs)):nL K H (.ref a) (.type "list")
 |frz {a:ZE} {o:Obj} {xs:List V} (e:H a=ZA (.frz o (.lst xs))):nL K H (.ref a) (.type "list")
 |tup {a:ZE} {xs:List V} (e:H a=ZA (.tup xs)):nL K H (.ref a) (.type "tuple")
 |dK {a:ZE} {kvs:List (Key×V)} (e:H a=ZA (.dK kvs)):nL K H (.ref a) (.type "dict")
 |dT {a:ZE} {kvs:List (List Key×V)} (e:H a=ZA (.dT kvs)):nL K H (.ref a) (.type "dict")
 |ins {a C dx:ZE} {fs:List (Str×V)} (e:H a=ZA (.ins C dx fs)) (cl:Cls K C) (ha:PN K (.ref C) "__class__" =ZA (ZA (.builtin "object.__class__")))
   (hn:PySem.W.specialIn K (.builtin "object.__class__") "__get__" =ZA (ZA (.builtin "getset_descriptor.__get__"))) (htk:PySem.W.takesIn K (.builtin "object.__class__")=ZA ZC)
   (hm:PySem.W.mroIn K C (.type "object")=ZA ZC):nL K H (.ref a) (.ref C)
def Bf{x:V}{u t:NS}(I:Inv X lm σ H s)(rx:RelV x u)(ty:nL X.K H x t)(e:PySem.W.kitOne X.K t c=ZA b)(h:∀tk,Q (.bool b) {s with toks:=tk}):
  ZJ (ZK X.prog X.w) A (call (.builtin "isinstance") [u,c]) Q E s:=by
 cases ty with
 |non=>cases (show u=OI from rx);exact Pt PySem.W.kitx_none I.kIn Qx e (λz=>nomatch z) h
 |bl y=>cases (show u=OS y from rx);exact Pt PySem.W.kitx_bool I.kIn Qx e (λz=>nomatch z) h
 |int i=>obtain⟨t,q⟩:=(show ∃t,u=PD i t from rx);cases q;exact Pt PySem.W.kitx_int I.kIn Qx e (λz=>nomatch z) h
 |str y=>obtain⟨t,q⟩:=(show ∃t,u=PF y t from rx);cases q;exact Pt PySem.W.kitx_str I.kIn Qx e (λz=>nomatch z) h
 |flt y=>obtain⟨t,q⟩:=(show ∃t,u=Vl y t from rx);cases q;exact Pt PySem.W.kitx_float I.kIn Qx e (λz=>nomatch z) h
 |@lst a xs ea=>
  cases (show u=Oc a from rx)
  obtain⟨_,_,n,_,h1⟩:=(show ObjOk X.prog X.w H s.heap a (.lst xs)from I.hok a _ ea)
  exact Pt UB I.kIn ⟨_,h1,rfl⟩ e (λz=>nomatch z) h
 |@frz a ob xs ea=>
  cases (show u=Oc a from rx)
  obtain⟨_,_,_,n,_,h1⟩:=(show ObjOk X.prog X.w H s.heap a (.frz ob (.lst xs))from I.hok a _ ea)
  exact Pt UB I.kIn ⟨_,h1,rfl⟩ e (λz=>nomatch z) h
 |@tup a xs ea=>
  cases (show u=Oc a from rx)
  obtain⟨_,_,_,p⟩:=(show ObjOk X.prog X.w H s.heap a (.tup xs)from I.hok a _ ea)
  obtain⟨o,h1,h2,_⟩:=p
  exact Pt PySem.W.kitx_tuple I.kIn ⟨o,h1,h2⟩ e (λz=>nomatch z) h
 |@dK a kvs ea=>
  cases (show u=Oc a from rx)
  obtain⟨_,_,vs,_,p⟩:=(show ObjOk X.prog X.w H s.heap a (.dK kvs)from I.hok a _ ea)
  obtain⟨o,es,ep,h1,h2,_⟩:=p
  exact Pt UC I.kIn ⟨o,h1,h2.1⟩ e (λz=>nomatch z) h
 |@dT a kvs ea=>
  cases (show u=Oc a from rx)
  obtain⟨_,_,xs,_,o,es,ep,h1,h2,_⟩:=(show ObjOk X.prog X.w H s.heap a (.dT kvs)from I.hok a _ ea)
  exact Pt UC I.kIn ⟨o,h1,h2.1⟩ e (λz=>nomatch z) h
 |@ins a C dx fs ea cl ha hn htk hm=>
  cases (show u=Oc a from rx)
  obtain⟨mA,O,_⟩:=o8 I.hok ea;obtain⟨od,J,_⟩:=O.look;exact Pt (PySem.W.kitx_own (cl.get _) cl.hd ha hn htk hm) I.kIn J e (λz=>nomatch z) h
end
structure Room (k:Nat)(A:OB):Prop where
 hd:A.handled=ZB
 dp:A.depth+3*k+5<Q9
 un:A.units+16*k+200<cLine
def Room.mono(r:Room k A)(h:j<=k):Room j A:=⟨r.hd,by have:=r.dp;omega,by have:=r.un;omega⟩
def Room.deeper(r:Room (k+1) A)(env:Env):Room k (A.deeper env):=
 ⟨r.hd,by have:=r.dp;show A.depth+1+3*k+5<_;omega,by have:=r.un;show A.units+3+16*k+200<_;omega⟩
def yC:(A.under (.builtin "type.__call__" ⟨.ref C::us,kw⟩)).depth=A.depth+1:=by
 first|rfl|simp[US,Code.weight,Code.isCreation,Code.isGuard,Code.isCaller,Code.frames,UT,guardIds]
def yB:(A.under (.builtin "type.__call__" ⟨.ref C::us,kw⟩)).units=A.units+1:=by
 first|rfl|simp[US,Code.cUnits,Code.frames,UT]
def Room.make(r:Room (k+1) A)(C:ZE)(us:List NS)(kw:List (Str×NS)):Room k (A.under (.builtin "type.__call__" ⟨.ref C::us,kw⟩)):=
 ⟨r.hd,by have:=r.dp;rw[yC];omega,by have:=r.un;rw[yB];omega⟩
def Room.depth(r:Room k A):A.depth<Q9:=by have:=r.dp;omega
def vI:TA:=λ_ H Q=>Q [] H
def gX(ta:TE)(tr:TA):TA:=λσ H Q=>ta σ H λx H1=>tr σ H1 λxs H2=>Q (x::xs) H2
section
variable {t:TA}
def d6:PA X [] vI:=λ_ _ _ _ H Q I h=>Ry ⟨[],H,I,.nil,h⟩
def bz(ha:PE X e te)(hr:PA X es t)(hs:N5 (e::es) X.env=(ZD,eval e X.env)::N5 es X.env:=by rfl):PA X (e::es) (gX te t):=by
 intro pos lm s σ H Q I h;rw[hs]
 show ZJ _ _ (spliced ((ZD,eval e X.env)::backTo pos (N5 es X.env))) _ _ s
 refine Rm (bW (ha lm s σ H _ I h) λu s1 hh_=>?_)
 obtain⟨x,H1,I1,r1,q1⟩:=hh_;exact bW (hr pos lm s1 σ H1 _ I1 q1) λus s2 ⟨xs,H2,I2,r2,q2⟩=>⟨x::xs,H2,I2,.cons r1 r2,q2⟩
def FC(t:TA):TE:=λσ H Q=>t σ H λxs H1=>xs.length<=ZI/\∀p,H1 p=ZB->Q (.ref p) (upd H1 p (.tup xs))
def tLst(t:TA):TE:=λσ H Q=>t σ H λxs H1=>xs.length<=ZI/\∀p,H1 p=ZB->Q (.ref p) (upd H1 p (.lst xs))
def ui{x1}(h:PA X es t):PE X (.Tuple es x1 pos) (FC t):=by
 intro lm s σ H Q I hq;refine wpAny_Tuple_spliced (bW (h pos lm s σ H _ I hq) λus s1 ⟨xs,H1,I1,r,z,q⟩=>⟨by rw[<-r.length];exact z,?_⟩)
 have hf:H1 s1.heap.objs.size=ZB:=I1.hok.fresh (Ob _);refine⟨.ref s1.heap.objs.size,upd H1 s1.heap.objs.size (.tup xs),I1.laid (t':=s1.toks) (λb u e=>N4 _ e) (Ob _) ?_,rfl,q _ hf⟩
 exact⟨z,us,r,⟨_,Og _ rfl,rfl,_,rfl⟩⟩
def C0(h:PA X es t):PE X (.List es pos) (tLst t):=by
 intro lm s σ H Q I hq;refine Us (bW (h pos lm s σ H _ I hq) λus s1 ⟨xs,H1,I1,r,z,q⟩=>⟨by rw[<-r.length];exact z,?_⟩)
 have hf:H1 s1.heap.objs.size=ZB:=I1.hok.fresh (Ob _);refine⟨.ref s1.heap.objs.size,upd H1 s1.heap.objs.size (.lst xs),I1.laid (t':=s1.toks) (λb u e=>N4 _ e) (Ob _) ?_,rfl,q _ hf⟩
 exact⟨z,us,0,r,Og _ rfl⟩
end
abbrev Sp:=List V->Hp->VK->XK->Prop
abbrev BL:=List Env->Hp->NV->XK->V1
structure Env0 (P:Oh)(w:O8)(K:NQ)(mg:V0)(base:ZH)(A:OB)(outer:List Env)(s:NV)(H:Hp):Prop where
 frames:A.frames=ZA outer
 mod:Mod K mg base
 bs:∀b o,base.get? b=ZA o->s.heap.get? b=ZA o/\H b=ZB
 bsz:base.objs.size<=s.heap.objs.size
 funs:s.heap.FunFrames base outer
 frf:∀b∈nF outer,H b=ZB
 hok:HOk P w H s.heap
 bare:SM s.gens
def CE(outer:List Env)(P:Oh)(w:O8)(H:Hp)(s:NV)(Q:VK)(u:NS)(s':NV):Prop:=
 ∃v H',s'.os=s.os/\SM s'.gens/\Un (nF outer) [] H H' s.heap s'.heap/\HOk P w H' s'.heap/\RelV v u/\Q v H'
def CR(CX:BL)(outer:List Env)(P:Oh)(w:O8)(H:Hp)(s:NV)(Q:VK)(E:XK)(r:TR)(s':NV):Prop:=
 match r with
 |.ok (.ret u)=>CE outer P w H s Q u s'
 |.ok _=>False
 |.error e=>CX outer H s E e s'
structure FnOk (P:Oh)(w:O8)(K:NQ)(mg:V0)(base:ZH)(CX:BL)(k:Nat)(f:ZE)(fd:OG)(ps:List Str)(sp:Sp):Prop where
 len:∀vs H Q E,sp vs H Q E->vs.length=ps.length
 run:∀(A:OB)(outer:List Env)(s:NV)(H:Hp)(args:Args)(us:List NS)(vs:List V)(Q:VK)(E:XK),Room k A->Env0 P w K mg base A outer s H->Sj s fd args (ps.zip us)->Vals vs us->sp vs H Q E →
  ZL (ZK P w) A (.call (.ref f) args) (CR CX outer P w H s Q E) s
variable{CX:BL}{f:ZE}{mg:V0}{ps:List Str}
theorem FnOk.mono{base:ZH}{sp:Sp}(F:FnOk P w K mg base CX j f fd ps sp)(h:j<=k):
  FnOk P w K mg base CX k f fd ps sp:=⟨F.len,λA outer s H args us vs Q E hr=>F.run A outer s H args us vs Q E (hr.mono h)⟩
def FnOk.imp{base:ZH}{sp sp':Sp}(F:FnOk P w K mg base CX k f fd ps sp)
  (h:∀vs H Q E,sp' vs H Q E->sp vs H Q E):FnOk P w K mg base CX k f fd ps sp':=
 ⟨λvs H Q E q=>F.len vs H Q E (h _ _ _ _ q),λA outer s H args us vs Q E hr he hb hv hs=>F.run A outer s H args us vs Q E hr he hb hv (h _ _ _ _ hs)⟩
variable{outer:List Env}
def Env0.make{base:ZH}(e:Env0 P w K mg base A outer s H)(C:ZE)(us:List NS)(kw:List (Str×NS)):
  Env0 P w K mg base (A.under (.builtin "type.__call__" ⟨.ref C::us,kw⟩)) outer s H:=⟨by first|exact e.frames| (simpa [US,Code.envs,UT,pushEnvs]using e.frames),e.mod,e.bs,e.bsz,e.funs,e.frf,e.hok,e.bare⟩
variable{Q:VK}
def Inv.Nk(I:Inv X lm σ H s):Env0 X.prog X.w X.K X.mg X.base X.A X.stack s H:=
 ⟨I.ok.frames,I.ok.mod,I.bs,O4 I.ok.bsz I.sz,I.stack,I.M8,I.hok,I.bare⟩
def Inv.after{u:NS}(I:Inv X lm σ H s)(h:CE X.stack X.prog X.w H s Q u s'):EP X lm σ Q u s':=by
 obtain⟨v,H',os,bare,un,hok,r,q⟩:=h;obtain⟨hh,g,d,t,os'⟩:=s';obtain rfl:os'=s.os:=os;exact⟨v,H',I.call (h':=hh) (g':=g) (d':=d) (t':=t) (ch:=[]) un hok bare (λb z=>absurd z (by simp)),r,q⟩
def K7(sp:Sp)(dvs:List V)(E:XK)(t:TA):TE:=λσ H Q=>t σ H λvs H1=>sp (vs++dvs) H1 Q E
def Binds(K:NQ)(fd:OG)(ps:List Str)(ds:List NS):Prop:=
 ∀(s:NV)(us:List NS),K.In s.heap->(us++ds).length=ps.length->Sj s fd ⟨us,[]⟩ (ps.zip (us++ds))
def Binds.all(h:∀us:List NS,us.length=ps.length->Vi fd ⟨us,[]⟩=pure (ps.zip us)):Binds K fd ps []:=λs us _ hl=>by
 rw[Ou]at hl ⊢;exact .of_eq (h us hl)
def zi(CX:BL)(X:Cx)(E:XK):Prop:=∀(lm:V2)(σ:St)(H:Hp)(s:NV)(e:NS)(s':NV),Inv X lm σ H s->CX X.stack H s E e s'->X.xe e s'
variable{E:XK}{vs:List V}
section
variable {sp:Sp}{dvs:List V}{ds:List NS}{p apos:Pos}{o:ZG}{t:TA}
def t9(F:FnOk X.prog X.w X.K X.mg X.base CX k f fd ps sp)(hr:Room k X.A)(hb:Binds X.K fd ps ds)(hd:Vals dvs ds)(hx:zi CX X E)
  (I:Inv X lm σ H s) (r:Vals vs us) (h:sp (vs++dvs) H Q E):ZJ (ZK X.prog X.w) X.A (call (.ref f) us) (EP X lm σ Q) X.xe s:=by
 have r2:Vals (vs++dvs) (us++ds):=r.append hd
 have hl:(us++ds).length=ps.length:=by rw[<-r2.length];exact F.len _ _ _ _ h
 refine RA (Qn (F.run X.A X.stack s H ⟨us,[]⟩ (us++ds) (vs++dvs) Q E hr I.Nk (hb s us I.kIn hl) r2 h) λr s' hq=>?_)
 cases r with
 |error e=>exact hx lm σ H s e s' I hq
 |ok fl=>
  cases fl with
  |ret u=>exact I.after hq
  |next=>exact Qi hq
  |brk=>exact Qi hq
  |cont=>exact Qi hq
def zJ(F:FnOk X.prog X.w X.K X.mg X.base CX k f fd ps sp)(hr:Room k X.A)(hg:Gl X x)(hm:X.mg x=ZA (.ref f))(hk:PP X.K (.ref f)=ZC)(hb:Binds X.K fd ps ds)(hd:Vals dvs ds)(hx:zi CX X E)
  (ha:PA X (e::es) t) (hdb:autoParam ((x == ("__debug__" : Str))=ZD) s_) (he:N5 (e::es) X.env=(ZD,eval e X.env)::N5 es X.env:=by rfl) (hpl:(backTo pos (N5 es X.env)).any (·.1)=ZD:=by rfl):
  PE X (.Call (.Name x p) (e::es) [] pos) (K7 sp dvs E t):=by
 intro lm s σ H Q I h;refine ON (fR I hg hm ?_ hdb)
 refine PV (h₀:=X.base) I.ok.mod.kin hk (bW (ha pos lm s σ H _ I h) λus s1 ⟨vs,H1,I1,r,q⟩=>⟨I1.kIn,?_⟩) he hpl
 exact t9 F hr hb hd hx I1 r q
structure Mk (K:NQ)(C f:ZE):Prop where
 makes:Vj K C=ZC
 init:PN K (.ref C) "__init__" =ZA (ZA (.ref f))
 fn:UQ K (.ref f)=ZC
 kp:PP K (.ref C)=ZC
end
structure az (N P:List Str)(sc:Rc):Prop where
 kind:sc.kind=.function
 co:sc.isCoroutine=ZD
 gen:sc.isGenerator=ZD
 nd:N.Nodup
 pre:N.take P.length=P
 par:∀x∈P,sc.names.lookup x=ZA .local\/sc.names.lookup x=ZA .cell
 nofree:∀y∈sc.names,y.2≠ .free
variable{kindOf:Str->Option Q3}
theorem tj:∀{binds:List (Str×NS)}{m:V0},(∀v,(x,v)∉binds)->bindL kindOf binds m x=m x
 |[],_,_=>rfl
 | (n,v)::r,m,h=>by
  unfold bindL;rw[tj λw hw=>h w (NR _ hw)]
  split
  ·have:x≠n:=by rintro rfl;exact h v NU
   simp[this]
  ·rfl
theorem tq:∀{binds:List (Str×NS)}{m:V0},(∀v,(x,v)∉binds)->bindC kindOf binds m x=m x
 |[],_,_=>rfl
 | (n,v)::r,m,h=>by
  unfold bindC;rw[tq λw hw=>h w (NR _ hw)]
  split
  ·rfl
  ·have:x≠n:=by rintro rfl;exact h v NU
   simp[this]
variable{v:NS}
theorem tp:∀{P:List Str}{vs:List NS}{i:Nat}{m:V0},P.Nodup->P[i]?=ZA x->vs[i]?=ZA v->kindOf x=ZA .local →
  bindL kindOf (P.zip vs) m x=ZA v
 |[],_,_,_,_,h,_,_=>by simp at h
 |_::_,[],_,_,_,_,h,_=>by simp at h
 |p::P,w::vs,0,m,nd,h1,h2,hk=>by
  simp at h1 h2;subst h1;subst h2
  show bindL kindOf ((p,w)::P.zip vs) m p=_
  unfold bindL;rw[tj λv hv=>(On.mp nd).1 (QR hv).1,if_pos hk]
  simp
 |p::P,w::vs,i+1,m,nd,h1,h2,hk=>by
  show bindL kindOf ((p,w)::P.zip vs) m x=_
  unfold bindL;exact tp (i:=i) (On.mp nd).2 (by simpa using h1) (by simpa using h2) hk
theorem tu:∀{P:List Str}{vs:List NS}{i:Nat}{m:V0},P.Nodup->P[i]?=ZA x->vs[i]?=ZA v->kindOf x≠ZA .local →
  bindC kindOf (P.zip vs) m x=ZA v
 |[],_,_,_,_,h,_,_=>by simp at h
 |_::_,[],_,_,_,_,h,_=>by simp at h
 |p::P,w::vs,0,m,nd,h1,h2,hk=>by
  simp at h1 h2;subst h1;subst h2
  show bindC kindOf ((p,w)::P.zip vs) m p=_
  unfold bindC;rw[tq λv hv=>(On.mp nd).1 (QR hv).1,if_neg hk]
  simp
 |p::P,w::vs,i+1,m,nd,h1,h2,hk=>by
  show bindC kindOf ((p,w)::P.zip vs) m x=_
  unfold bindC;exact tu (i:=i) (On.mp nd).2 (by simpa using h1) (by simpa using h2) hk
def start(N:List Str)(vs:List V):St:=vs.map ZA++Oi (N.length - vs.length) ZB
noncomputable def gh(CX:BL)(P:Oh)(w:O8)(K:NQ)(mg:V0)(base:ZH)(N:List Str)(qual:Str)(scope:Rc)(f:ZE)(cd:NS)(A:OB)(outer:List Env)(s:NV)(H:Hp)(E:XK):Cx where
 prog:=P
 w:=w
 K:=K
 mg:=mg
 base:=base
 A:=A.deeper (envOfC qual scope s.heap.objs.size f cd)
 N:=N
 s₀:=s
 H₀:=H
 env:=envOfC qual scope s.heap.objs.size f cd
 outer:=outer
 stack:=envOfC qual scope s.heap.objs.size f cd::outer
 ex:=[]
 calm:=ZC
 fn:=λ_=>ZC
 pn:=[]
 xe:=λe s'=>ZJ (ZK P w) (A.deeper (envOfC qual scope s.heap.objs.size f cd)) (leaving (envOfC qual scope s.heap.objs.size f cd) e) (λ_ s''=>CX outer H s E e s'') (λe' s''=>CX outer H s E e' s'') s'
def xF(h:sc.names.lookup x=ZA .cell):∃c,(Qc n sc.names []).lookup x=ZA c:=by
 have q:=Qe sc.names n [] (.inl h);exact Ri.mp q
variable{qual:Str}
def kN{base:ZH}
  (S:az N ps scope) (hd:A.handled=ZB) (e0:Env0 P w K mg base A outer s H) (hl:vs.length=ps.length) (r:Vals vs us)
  (x:InCallC s s.heap.objs.size (bindL (envOfC qual scope s.heap.objs.size f cd).kindOf (ps.zip us) λ_=>ZB) (Qc (s.heap.objs.size+1) scope.names []) (bindC (envOfC qual scope s.heap.objs.size f cd).kindOf (ps.zip us) λ_=>ZB) s1):
  Inv (gh CX P w K mg base N qual scope f cd A outer s H E) [] (start N vs) H s1:=by
 have hpl:ps.length<=N.length:=by have:=congrArg Pb S.pre;rw[OU]at this;omega
 obtain⟨h1,tk,rfl,hk⟩:=x.done
 have noA:∀b:ZE,b∉(gh CX P w K mg base N qual scope f cd A outer s H E).ex:=λb z=>absurd (show b∈([]:List ZE)from z) (by simp)
 refine⟨⟨e0.mod,S.kind,rfl,rfl,Ob _,λy z c h1 h2=>?_,λy hy=>?_,λy c _ h=>?_,λ_=>hd,TC e0.frames,.inr ⟨rfl,rfl⟩,λb z=>absurd z (noA b),e0.bs,e0.bsz,λb _ _=>noA b,λb z=>absurd z (noA b),e0.funs,e0.frf⟩,
  rfl,e0.bare,Un.kept hk,⟨_,x.toInCall.ns,λi y v h1 h2 h3=>?_⟩,λy c h=>⟨_,x.cell y c h⟩,e0.hok.fresh (Ob _),λy c h=>?_,λp hp=>absurd (show p∈([]:V2)from hp) (by simp),e0.hok.kept hk,?_⟩
 ·exact name_of_addr x.apart (Qa h1) (Qa h2)
 ·have hy:scope.names.lookup y=ZA .cell\/scope.names.lookup y=ZA .free:=hy
  rcases hy with hy|hy
  ·exact xF hy
  ·exact absurd rfl (S.nofree _ (Qa hy))
 ·exact Rh (x.above y c (Qa h))
 ·have hi:i<vs.length:=by
   unfold start at h2
   by_cases hi:i<vs.length
   ·exact hi
   ·rw[PC (by simpa using hi)]at h2
    rw[Po]at h2
    split at h2 <;> cases h2
  have ha:vs[i]?=ZA v:=by
   unfold start at h2;rw[O5 (by simpa using hi),Oj]at h2
   cases e:vs[i]? with
   |none=>rw[e]at h2;cases h2
   |some a=>rw[e]at h2;cases h2;rfl
  obtain⟨u,hu,rv⟩:=r.get ha
  have hp:ps[i]?=ZA y:=by
   rw[<-S.pre,Sv (by omega)];exact h1
  have ndP:ps.Nodup:=by rw[<-S.pre];exact S.nd.sublist (List.take_sublist _ _)
  refine⟨u,rv,?_⟩
  rcases S.par y (Ot hp)with k|k
  ·exact .inl ⟨k,tp ndP hp hu k⟩
  ·obtain⟨c,e⟩:=xF (n:=s.heap.objs.size+1) k
   refine .inr ⟨.inl k,c,e,?_⟩
   have q:=x.cell y c e;rw[tu ndP hp hu (by show scope.names.lookup y≠_;rw[k];decide)]at q
   exact q
 ·exact e0.hok.fresh (Rh (x.above y c (Qa h)))
 ·unfold start
  show _=N.length
  rw[N3,NW,List.length_replicate];omega
def Mw{base:ZH}{params:Tq}{dV kV doc pm cdv ct oc:NS}{an od:Option ZE}
  {osl:Array (Option NS)}  {sp:Sp} (lk:K.lookup f=ZA ⟨oc,od,.func (RD name qual params body scope dV kV doc pm an cdv ct),osl⟩) (hcd:TN K cdv qual=ZC) (S:az N ps scope)
  (len:∀vs H Q E,sp vs H Q E->vs.length=ps.length)
  (hbody:∀(A:OB)(outer:List Env)(s:NV)(H:Hp)(vs:List V)(Q:VK)(E:XK),Room k (A.deeper (envOfC qual scope s.heap.objs.size f cdv))->sp vs H Q E →
   ∃t,PSs (gh CX P w K mg base N qual scope f cdv A outer s H E) body t/\t {nx:=λ_ H'=>Q .non H',rt:=Q} (start N vs) H):
  FnOk P w K mg base CX (k+1) f (RD name qual params body scope dV kV doc pm an cdv ct) ps sp:=by
 refine⟨len,λA outer s H args us vs Q E hr e0 hb r hsp=>?_⟩
 have hl:=len _ _ _ _ hsp
 have KX:K.In s.heap:=e0.mod.kin.keeps λb o e=>(e0.bs b o e).1
 have lim:s.heap.NoLimit:=e0.mod.nolimit.keeps λb o e=>(e0.bs b o e).1
 have hkind:∀y∈ps.zip us,scope.names.lookup y.1=ZA .local\/(scope.names.lookup y.1=ZA .cell/\((Qc (s.heap.objs.size+1) scope.names []).lookup y.1).isSome=ZC):=λ⟨n,v⟩ hy=>by
  rcases S.par n (QR hy).1 with q|q
  ·exact .inl q
  ·exact .inr ⟨q,Qe _ _ _ (.inl q)⟩
 refine QZ hr.depth (KX _ _ lk) rfl S.co S.gen rfl (Rj KX hcd) (hb _ _ _ _ ?_)
 refine Qh S.kind hkind λenv he s1 x=>?_
 subst he;refine⟨lim.keeps x.toInCall.keep,Tt ?_⟩
 obtain⟨t,ht,hq⟩:=hbody A outer s H vs Q E (hr.deeper _) hsp
 have I:Inv (gh CX P w K mg base N qual scope f cdv A outer s H E) [] (start N vs) H s1:=kN S hr.hd e0 hl r x;refine Pz (ht [] s1 (start N vs) H _ I hq) (λfl s' hs=>?_) λe s' hs=>hs
 have fin:∀{σ':St}{H':Hp}{v:V}{u:NS},Inv (gh CX P w K mg base N qual scope f cdv A outer s H E) [] σ' H' s'->RelV v u->Q v H'->CE outer P w H s Q u s':=
  λ{σ' H' v u} J rv q=>⟨v,H',J.os,J.bare,J.base,J.hok,rv,q⟩
 cases fl with
 |ret u=>
  obtain⟨v,σ',H',J,rv,q⟩:=hs
  exact fin J rv q
 |next=>
  obtain⟨σ',H',J,q⟩:=hs
  exact fin (v:=V.non) (u:=OI) J rfl q
 |brk=>
  obtain⟨_,_,_,q⟩:=hs
  exact Qi q
 |cont=>
  obtain⟨_,_,_,q⟩:=hs;exact Qi q
end L2
namespace HT
open PySem PyProof.Rows
def cat_tup{t b:ZE}{ws:List NS}(ht:VF s.heap t vs.toArray)(hb:VF s.heap b ws.toArray)(hv:vs≠ [])
  (h1:ws=[]->Q (.ref t) s) (h2:ws≠ []->Q (.ref s.heap.objs.size) {s with heap:=s.heap.push {cls:=.type "tuple",data:=.seq (vs++ws).toArray}})
  (hsz:vs.length+ws.length<=ZI):ZJ (ZK prog w) A (PY .Add (.ref t) (.ref b)) Q E s:=by
 obtain⟨⟨cls,dd,data,sl⟩,ho,hc,n,hd⟩:=id ht;obtain⟨⟨cls2,dd2,data2,sl2⟩,ho2,hc2,n2,hd2⟩:=id hb;simp only at hc hd hc2 hd2;subst hc hd hc2 hd2
 have e:vs.toArray++ws.toArray=(vs++ws).toArray:=by simp
 by_cases hw:ws=[]
 ·exact U1 ⟨_,ho,rfl⟩ ⟨_,ho2,rfl⟩ SX Ut Ru Rk (Re _ _)
   (tuple_addW1 t b vs.toArray ws.toArray n n2 dd dd2 sl sl2 (by simpa using hv) (by simp[hw])) ⟨ho,ho2,h1 hw⟩
 ·refine U1 ⟨_,ho,rfl⟩ ⟨_,ho2,rfl⟩ SX Ut Ru Rk (Re _ _)
   (tuple_addW2 t b vs.toArray ws.toArray n n2 dd dd2 sl sl2 (by simpa using hv) (by simpa using hw) (by rw[Od,Od];exact hsz)) ⟨ho,ho2,?_⟩
  rw[e];exact h2 hw
def sIx(n d:Nat):Option Int->Nat
 |none=>d
 |some v=>if v<0 then(v+(n:Int)).toNat else min v.toNat n
def sIx_none(n d:Nat):sIx n d ZB=d:=rfl
def sIx_nat(n d k:Nat):sIx n d (ZA (k:Int))=min k n:=by
 show(if (k:Int)<0 then((k:Int)+(n:Int)).toNat else min (k:Int).toNat n)=min k n
 rw[if_neg (by omega),PJ]
def ID(n d:Nat)(hd:d<=n)(o:Option Int):sIx n d o<=n:=by
 cases o with
 |none=>exact hd
 |some v=>
  show(if v<0 then(v+(n:Int)).toNat else min v.toNat n)<=n
  by_cases hv:v<0
  ·rw[if_pos hv];omega
  ·rw[if_neg hv];exact Nat.min_le_right _ _
def Ap(v:Int)(n d:Nat):(if v<0 then max (v+(n:Int)) 0 else min v (n:Int))=((sIx n d (ZA v):Nat):Int):=by
 show(if v<0 then max (v+(n:Int)) 0 else min v (n:Int))=(((if v<0 then(v+(n:Int)).toNat else min v.toNat n):Nat):Int)
 by_cases hv:v<0
 ·simp only[if_pos hv];omega
 ·simp only[if_neg hv];omega
def zg(lo hi:Option Int)(n:Nat):Q7 lo hi 1 (n:Int)=(((sIx n 0 lo:Nat):Int),((sIx n n hi:Nat):Int)):=by
 have h1:¬ ((1:Int)<0):=by omega
 unfold Q7;simp only[h1,if_false];refine Prod.ext ?_ ?_
 ·cases lo with
  |none=>rfl
  |some v=>exact Ap v n 0
 ·cases hi with
  |none=>rfl
  |some v=>exact Ap v n n
def yj(i j:Nat):Qp (i:Int) (j:Int) 1=j - i:=by
 unfold Qp
 have h1:(1:Int) > 0:=by omega
 simp only[h1,if_true,Int.ediv_one]
 split <;> omega
def pH{o:Option Int}{Q:Option Int->NV->Prop}(p:Uu v o)(h:Q o s):ZJ (ZK prog w) A (Vg v) Q E s:=by
 cases p with
 |none=>exact slicePart_none h
 |int i t=>exact slicePart_int h
def iB{sl:ZE}{Q:Int×Int×Nat->NV->Prop}(hs:s.heap.IsSliceOf sl vl vu .none)(pl:Uu vl lo)(pu:Uu vu hi)
  (h:Q (((sIx n 0 lo:Nat):Int),1,sIx n n hi - sIx n 0 lo) s):ZJ (ZK prog w) A (R5 (.ref sl) (pure (n:Int))) Q E s:=by
 obtain⟨os,hos,hcs,hds⟩:=id hs;unfold R5 Builtin.Slice.sliceFields;refine NY (NY (Qv hos hds (x:=vl) rfl (NY (Qv hos hds (x:=vu) rfl (NY (Qv hos hds (x:=.none) rfl (Oe ?_)))))))
 refine NY (slicePart_none ?_)
 show ZJ _ _ (if ((1:Int) == 0)=ZC then _ else _) _ _ s
 rw[if_neg (by decide)]
 refine NY (pH pl (NY (pH pu (NY (Oe ?_)))))
 show ZJ _ _ (match Q7 lo hi 1 (n:Int)with| (lo,hi)=>pure (lo,(1:Int),Qp lo hi 1)) _ _ s
 rw[zg lo hi n]
 show ZJ _ _ (pure (((sIx n 0 lo:Nat):Int),(1:Int),Qp ((sIx n 0 lo:Nat):Int) ((sIx n n hi:Nat):Int) 1)) _ _ s
 rw[yj];exact Oe h
def CU(xs:Array NS)(i k:Nat):((O7 k).filterMap λ(m:Nat)=>xs[((i:Int)+(m:Int)*1).toNat]?).toArray=((xs.toList.drop i).take k).toArray:=by
 have e:(λ(m:Nat)=>xs[((i:Int)+(m:Int)*1).toNat]?)=λm=>xs[i+m]?:=by
  funext m
  have:((i:Int)+(m:Int)*1).toNat=i+m:=by omega
  rw[this]
 rw[e]
 have:=pick_run xs i k;rw[List.filterMap_map]at this
 have e2:((λx=>xs[x]?)∘λx=>i+x)=λm=>xs[i+m]?:=rfl
 rw[e2]at this;rw[this]
def getItem_tuple_cut{t sl:ZE}{items:Array NS}(ht:VF s.heap t items)(hs:s.heap.IsSliceOf sl vl vu .none)(pl:Uu vl lo)(pu:Uu vu hi)
  (hw:¬ (sIx items.size 0 lo=0/\sIx items.size items.size hi=items.size))
  (h:Q (.ref s.heap.objs.size) {s with heap:=s.heap.push {cls:=.type "tuple",data:=.seq ((items.toList.drop (sIx items.size 0 lo)).take (sIx items.size items.size hi - sIx items.size 0 lo)).toArray}})
  (hsz:items.size<=ZI):ZJ (ZK prog w) A (getItem (.ref t) (.ref sl)) Q E s:=by
 have htake:sizeOk (.seq ((items.toList.drop (sIx items.size 0 lo)).take (sIx items.size items.size hi - sIx items.size 0 lo)).toArray):=by
  show((items.toList.drop (sIx items.size 0 lo)).take (sIx items.size items.size hi - sIx items.size 0 lo)).toArray.size<=ZI
  rw[Od,OU,PZ,Pj];omega
 have hj:sIx items.size items.size hi<=items.size:=ID _ _ (Ob _) hi;obtain⟨os,hos,hcs,hds⟩:=id hs
 have hTs:s.TypeIs (.ref sl) "slice":=⟨os,hos,hcs⟩;unfold getItem
 try with_reducible refine SN ?_
 first|refine NY (Oe ?_)|skip
 refine NY (UN ht.typeIs (by decide) ?_)
 refine NY (P6 (name:=N7 "__getitem__") ht.typeIs O9
  (Rb O9 ht.typeIs T6 ?_ (Uv _ _)))
 show ZJ _ _ (R6 (.ref t) >>= _) _ _ s
 refine NY (Uw ht ?_)
 refine NY (Sg hTs ?_)
 rw[if_pos (by decide)]
 refine NY (iB hs pl pu ?_)
 have hno:¬ ((((sIx items.size 0 lo:Nat):Int) == 0&&(1:Int) == 1&&(sIx items.size items.size hi - sIx items.size 0 lo) == items.size)=ZC):=by
  intro q;rw[NX,NX]at q
  have q1:((sIx items.size 0 lo:Nat):Int)=0:=eq_of_beq q.1.1
  have q2:sIx items.size items.size hi - sIx items.size 0 lo=items.size:=eq_of_beq q.2;exact hw ⟨by omega,by omega⟩
 show ZJ _ _ (if (((sIx items.size 0 lo:Nat):Int) == 0&&(1:Int) == 1&&(sIx items.size items.size hi - sIx items.size 0 lo) == items.size)=ZC then _ else _) _ _ s
 rw[if_neg hno,CU]
 first
  |exact NY (m:=PX _) (PM (Oe ⟨_,rfl,Oe h⟩) htake)
  |exact NY (m:=PX _) (PM (NY (Oe (Oe ⟨_,rfl,Oe h⟩))) htake)
  |exact NY (NY (m:=PX _) (PM (Oe (Oe ⟨_,rfl,Oe h⟩)) htake))
  |exact NY (NY (m:=PX _) (PM (Oe ⟨_,rfl,Oe h⟩) htake))
end HT
variable{i:Int}
namespace L2
open PySem PySem.Spec PyProof.Rows
abbrev TO:=St->Hp->(Option Int->Hp->Prop)->Prop
def PO(X:Cx)(e:Option ZG)(t:TO):Prop:=
 ∀(lm:V2)(s:NV)(σ:St)(H:Hp)(Q:Option Int->Hp->Prop),Inv X lm σ H s->t σ H Q →
  ZJ (ZK X.prog X.w) X.A (evalPart e X.env) (λu s'=>∃o H',Inv X lm σ H' s'/\Uu u o/\Q o H') X.xe s
def FD:TO:=λ_ H Q=>Q ZB H
def K0(t:TE):TO:=λσ H Q=>t σ H λx H1=>∃i,x=.int i/\Q (ZA i) H1
def yR:∀{us:List NS},Vals (ns.map V.int) us->RQ us ns:=by
 induction ns with
 |nil=>intro us r;rw[S6]at r;cases r;exact .nil
 |cons n ns ih=>
  intro us r;rw[NT]at r
  cases r with
  |cons r1 r2=>
   obtain⟨t,e⟩:=r1;subst e;exact .cons n t (ih r2)
variable{X:Cx}{e:ZG}{pos:Pos}{r:V->Option Int->Option Int->Hp->VK->Prop}{xs:List V}
section
variable {te:TE}{lo hi:Option ZG}{tl th:TO}{p2:Pos}
def Gj:PO X ZB FD:=by
 intro lm s σ H Q I h;rw[evalPart_none];exact Oe ⟨ZB,H,I,.none,h⟩
def Gi(h:PE X e te):PO X (ZA e) (K0 te):=by
 intro lm s σ H Q I hw;rw[evalPart_some];refine bW (h lm s σ H _ I hw) λu s1 hh_=>?_
 obtain⟨x,H1,I1,r1,q1⟩:=hh_;obtain⟨i,rfl,q⟩:=q1;obtain⟨t,rfl⟩:=r1;exact⟨ZA i,H1,I1,.int i t,q⟩
def SlR(X:Cx)(r:V->Option Int->Option Int->Hp->VK->Prop):Prop:=
 ∀(lm:V2)(s:NV)(σ:St)(H:Hp)(x:V)(v vl vu:NS)(lo hi:Option Int)(sl:ZE)(Q:VK),Inv X lm σ H s->RelV x v->s.heap.IsSliceOf sl vl vu .none->Uu vl lo->Uu vu hi->r x lo hi H Q →
  ∃T id,RB (.type T) "__getitem__" =pure (ZA (.builtin id))/\s.TypeIs v T/\ZJ (ZK X.prog X.w) X.A (getItem v (.ref sl)) (EP X lm σ Q) X.xe s
def SlR.or{r':V->Option Int->Option Int->Hp->VK->Prop}(h:SlR X r)(h':SlR X r'):SlR X (λx lo hi H Q=>r x lo hi H Q\/r' x lo hi H Q):=by
 intro lm s σ H x v vl vu lo hi sl Q I rx hs pl pu q;rcases q with q|q
 ·exact h lm s σ H x v vl vu lo hi sl Q I rx hs pl pu q
 ·exact h' lm s σ H x v vl vu lo hi sl Q I rx hs pl pu q
def tSl(r:V->Option Int->Option Int->Hp->VK->Prop)(te:TE)(tl th:TO):TE:=λσ H Q=>te σ H λx H1=>tl σ H1 λl H2=>th σ H2 λu H3=>r x l u H3 Q
def CY(hr:SlR X r)(he:PE X e te)(hl:PO X lo tl)(hu:PO X hi th):PE X (.Subscript e (.Slice lo hi ZB p2) pos) (tSl r te tl th):=by
 intro lm s σ H Q I h;refine Subscript_ (bW (he lm s σ H _ I h) λv s1 hh_=>?_)
 obtain⟨x,H1,I1,r1,q1⟩:=hh_;refine wpAny_Slice (bW (hl lm s1 σ H1 _ I1 q1) λvl s2 ⟨l,H2,I2,pl,q2⟩=>bW (hu lm s2 σ H2 _ I2 q2) λvu s3 hh_=>?_)
 obtain⟨u,H3,I3,pu,q3⟩:=hh_;rw[evalPart_none];refine Oe ?_
 have I4:Inv X lm σ H3 {s3 with heap:=s3.heap.push {cls:=.type "slice",data:=.fields #[vl,vu,.none]}}:=I3.kept (t':=s3.toks) λb ob q=>N4 _ q
 obtain⟨T,id,hT,ht,hg⟩:=hr lm {s3 with heap:=s3.heap.push {cls:=.type "slice",data:=.fields #[vl,vu,.none]}} σ H3 x v vl vu l u s3.heap.objs.size Q I4 r1 (Heap.IsSliceOf.new ..) pl pu q3
 show ZJ (ZK X.prog X.w) X.A (Ux e (.Slice lo hi ZB p2) v (.ref s3.heap.objs.size)) (EP X lm σ Q) X.xe {s3 with heap:=s3.heap.push {cls:=.type "slice",data:=.fields #[vl,vu,.none]}}
 exact tail_any (ops:=[.ref s3.heap.objs.size,v]) ht hT hg (by with_unfolding_all rfl)
def xA(xs:List V)(lo hi:Option Int):List V:=(xs.drop (HT.sIx xs.length 0 lo)).take (HT.sIx xs.length xs.length hi - HT.sIx xs.length 0 lo)
def n9(xs:List V)(lo hi:Option Int):(xA xs lo hi).length<=xs.length:=by
 unfold xA;rw[OU,PZ];omega
def rSlT(K:NQ):V->Option Int->Option Int->Hp->VK->Prop:=λx lo hi H Q=>∃a xs,x=.ref a/\SqT K H a xs ∧
 ¬(HT.sIx xs.length 0 lo=0/\HT.sIx xs.length xs.length hi=xs.length)/\∀p,H p=ZB->Q (.ref p) (upd H p (.tup (xA xs lo hi)))
def sl_tup:SlR X (rSlT X.K):=by
 intro lm s σ H x v vl vu lo hi sl Q I rx hs pl pu h;obtain⟨a,xs,rfl,hx,hw,q⟩:=h;cases rx;obtain⟨its,r,ht,hz⟩:=I.tuple hx
 have hlen:its.toArray.size=xs.length:=by rw[Od];exact r.length.symm
 refine⟨"tuple",_,O9.lookup,ht.typeIs,?_⟩
 refine HT.getItem_tuple_cut ht hs pl pu (by rw[hlen];exact hw) ?_ (by rw[hlen];exact hz)
 rw[hlen];refine⟨.ref s.heap.objs.size,_,I.laid (t':=s.toks) (o:=.tup (xA xs lo hi)) (λb ob q=>N4 _ q) (Ob _) ?_,rfl,q _ (I.hok.fresh (Ob _))⟩
 exact⟨O4 (n9 xs lo hi) hz,_,(r.drop (HT.sIx xs.length 0 lo)).take (HT.sIx xs.length xs.length hi - HT.sIx xs.length 0 lo),Vn _ _⟩
def Lh(K:NQ):R2:=λx y H Q=>∃a b xs ys,x=.ref a/\y=.ref b/\SqT K H a xs/\SqT K H b ys/\xs≠ []/\xs.length+ys.length<=ZI ∧
 (ys=[]->Q (.ref a) H)/\(ys≠ []->∀p,H p=ZB->Q (.ref p) (upd H p (.tup (xs++ys))))
def Vals.Da(r:Vals xs us):us=[] ↔xs=[]:=by
 cases r with
 |nil=>simp
 |cons _ _=>simp
def Gx:rE X (PY .Add) (Lh X.K):=by
 intro lm s σ H x y v u Q I rx ry h;obtain⟨a,b,xs,ys,rfl,rfl,ha,hb,hx,hz,q1,q2⟩:=h;cases rx;cases ry;obtain⟨its,r1,p1,_⟩:=I.tuple ha;obtain⟨its2,r2,p2,_⟩:=I.tuple hb;refine HT.cat_tup p1 p2 (λz=>hx (r1.Da.mp z)) (λz=>⟨.ref a,H,I,rfl,q1 (r2.Da.mp z)⟩) (λz=>?_) (by rw[<-r1.length,<-r2.length];exact hz)
 refine⟨.ref s.heap.objs.size,_,I.laid (t':=s.toks) (o:=.tup (xs++ys)) (λb ob q=>N4 _ q) (Ob _) ?_,rfl,q2 (λw=>z (r2.Da.mpr w)) _ (I.hok.fresh (Ob _))⟩
 exact⟨by rw[N3];exact hz,_,r1.append r2,Vn _ _⟩
end
def ixN(n:Nat)(i:Int):Option Nat:=if 0<=i then(if i<n then ZA i.toNat else ZB)else if -(n:Int)<=i then ZA (i+n).toNat else ZB
def atI{α:Type}(xs:List α)(i:Int):Option α:=(ixN xs.length i).bind λj=>xs[j]?
def GV(h:ixN n i=ZA j):seqIndex? i n=ZA j/\j<n/\-(n:Int)<=i/\i<n:=by
 unfold ixN at h
 by_cases h0:0<=i
 ·rw[if_pos h0]at h
  by_cases h1:i<n
  ·rw[if_pos h1]at h
   have e:i.toNat=j:=OH h;exact⟨by rw[seqIndex_of h0 h1,e],by omega,by omega,h1⟩
  ·rw[if_neg h1]at h;cases h
 ·rw[if_neg h0]at h
  by_cases h1 : -(n:Int)<=i
  ·rw[if_pos h1]at h
   have e:(i+n).toNat=j:=OH h;exact⟨by rw[seqIndex_neg (by omega) h1,e],by omega,h1,by omega⟩
  ·rw[if_neg h1]at h;cases h
def vh{xs:List α}{v:α}(h:atI xs i=ZA v):∃j,seqIndex? i xs.length=ZA j/\xs[j]?=ZA v/\j<xs.length/\-(xs.length:Int)<=i/\i<xs.length:=by
 unfold atI at h
 cases e:ixN xs.length i with
 |none=>rw[e]at h;cases h
 |some j=>
  rw[e]at h;obtain⟨h1,h2,h3,h4⟩:=GV e;exact⟨j,h1,h,h2,h3,h4⟩
def Ay(b:ZG):Prop:=∀o i,T7 b ZD o i=operate [o,i] (getItem o i)
def IxR(X:Cx)(r:R2):Prop:=
 ∀(value slice:ZG)(lm:V2)(s:NV)(σ:St)(H:Hp)(x y:V)(v u:NS)(Q:VK),Inv X lm σ H s->RelV x v->RelV y u->r x y H Q →
  T7 slice ZD v u=operate [v,u] (getItem v u)->ZJ (ZK X.prog X.w) X.A (Ux value slice v u) (EP X lm σ Q) X.xe s
def M4(X:Cx)(id:String)(r:V->List V->Hp->VK->Prop):Prop:=
 ∀(lm:V2)(s:NV)(σ:St)(H:Hp)(x:V)(xs:List V)(v:NS)(us:List NS)(Q:VK),Inv X lm σ H s->RelV x v->Vals xs us->r x xs H Q →
  ZJ (ZK X.prog X.w) X.A (call (.builtin id) (v::us)) (EP X lm σ Q) X.xe s
variable{H:Hp}{lm:V2}{σ:St}
section
variable {a b:ZG}{ta tb:TE}
def IxR.or{r r':R2}(h:IxR X r)(h':IxR X r'):IxR X (λx y H Q=>r x y H Q\/r' x y H Q):=by
 intro value slice lm s σ H x y v u Q I rx ry q hs;rcases q with q|q
 ·exact h value slice lm s σ H x y v u Q I rx ry q hs
 ·exact h' value slice lm s σ H x y v u Q I rx ry q hs
def Lg(K:NQ):R2:=λx y H Q=>∃p xs i v,x=.ref p/\y=.int i/\SqL K H p xs/\atI xs i=ZA v/\Q v H
def Ld(K:NQ):R2:=λx y H Q=>∃p xs i v,x=.ref p/\y=.int i/\SqT K H p xs/\atI xs i=ZA v/\Q v H
def Lf:R2:=λx y H Q=>∃z i c,x=.str z/\y=.int i/\z.length<=ZI/\atI z.cps.toList i=ZA c/\Q (.str ⟨#[c]⟩) H
def ix_list:IxR X (Lg X.K):=by
 intro value slice lm s σ H x y v u Q I rx ry h hs;obtain⟨p,xs,i,z,rfl,rfl,hq,he,q⟩:=h;cases rx;obtain⟨t,rfl⟩:=ry;obtain⟨its,r,pl,hz⟩:=I.list hq;obtain⟨j,h1,h2,h3,h4,h5⟩:=vh he;obtain⟨w,ew,rw'⟩:=r.get h2
 have hl:=r.length
 have hn:=qC
 have fin:EP X lm σ Q w s:=⟨z,H,I,rw',q⟩
 by_cases h0:0<=i
 ·have hj:i.toNat=j:=by
   rw[seqIndex_of h0 h5]at h1;exact OH h1
  exact item_listR pl.isList h0 (by omega) (by rw[hj];simpa using ew) fin hs
 ·have hj:(i+(its.toArray.size:Int)).toNat=j:=by
   rw[seqIndex_neg (by omega) h4]at h1
   rw[Od,<-hl];exact OH h1
  exact S1 (x:=w) pl.isList.typeIs slot_list_getitem.lookup
   (wpAny_getItem_list_neg (Q:=λr s'=>r=w/\EP X lm σ Q r s') pl.isList (by omega) (by rw[Od] <;> omega) (by omega) (by rw[hj];simpa using ew) ⟨rfl,fin⟩) hs
def ix_tup:IxR X (Ld X.K):=by
 intro value slice lm s σ H x y v u Q I rx ry h hs;obtain⟨p,xs,i,z,rfl,rfl,hq,he,q⟩:=h;cases rx;obtain⟨t,rfl⟩:=ry;obtain⟨its,r,pl,hz⟩:=I.tuple hq;obtain⟨j,h1,h2,h3,h4,h5⟩:=vh he;obtain⟨w,ew,rw'⟩:=r.get h2
 have hl:=r.length
 have hn:=qC
 have fin:EP X lm σ Q w s:=⟨z,H,I,rw',q⟩
 exact S1 (x:=w) pl.typeIs slot_tuple_getitem.lookup
  (getItem_tuple (j:=j) (Q:=λr s'=>r=w/\EP X lm σ Q r s') pl (by omega) (by omega) (by rw[Od,<-hl];exact h1) (by simpa using ew) ⟨rfl,fin⟩) hs
def J8:IxR X Lf:=by
 intro value slice lm s σ H x y v u Q I rx ry h hs;obtain⟨z,i,c,rfl,rfl,hz,he,q⟩:=h;obtain⟨t,rfl⟩:=rx;obtain⟨t',rfl⟩:=ry;obtain⟨j,h1,h2,h3,h4,h5⟩:=vh he
 have hl:z.cps.toList.length=z.length:=by simp[Str.length]
 rw[hl]at h1 h4 h5
 have hn:=qC
 exact tail_any (typeIs_str s z t) slot_str_getitem.lookup (getItem_str (c:=c) (by
  have e1:decide (i< -(2 ^ 63:Int))=ZD:=decide_eq_false (by omega)
  have e2:decide (i ≥ 2 ^ 63)=ZD:=decide_eq_false (by omega)
  rw[e1,e2,Bool.or_false]) (by rw[h1];simpa using h2) ⟨.str ⟨#[c]⟩,H,I.tok _,⟨_,rfl⟩,q⟩) hs
def rIx(K:NQ):R2:=λx y H Q=>Lg K x y H Q\/Ld K x y H Q\/Lf x y H Q
def J9:IxR X (rIx X.K):=ix_list.or (ix_tup.or J8)
def tQ(lo hi:Option Int)(n:Nat):(RC lo hi ZB n).1=((HT.sIx n 0 lo:Nat):Int)/\(RC lo hi ZB n).2.1=((HT.sIx n n hi:Nat):Int)/\(RC lo hi ZB n).2.2=1:=by
 refine⟨?_,?_,rfl⟩
 ·cases lo with
  |none=>simp[RC,HT.sIx]
  |some i=>
   simp only[RC,HT.sIx,U3,show(1:Int) > 0 by decide,if_true]
   by_cases h:i<0
   ·simp only[h,if_true] <;> omega
   ·simp only[h,if_false] <;> omega
 ·cases hi with
  |none=>simp[RC,HT.sIx]
  |some i=>
   simp only[RC,HT.sIx,U3,show(1:Int) > 0 by decide,if_true]
   by_cases h:i<0
   ·simp only[h,if_true] <;> omega
   ·simp only[h,if_false] <;> omega
def rF(its:List NS)(lo hi:Option Int):slicePick its.toArray lo hi ZB=((its.drop (HT.sIx its.length 0 lo)).take (HT.sIx its.length its.length hi - HT.sIx its.length 0 lo)).toArray:=by
 obtain⟨h1,h2,h3⟩:=tQ lo hi its.toArray.size;unfold slicePick;rw[h1,h2,h3];simp only[sliceRange_one,pick_run,Od] <;> rfl
def rSlL(K:NQ):V->Option Int->Option Int->Hp->VK->Prop:=λx lo hi H Q=>∃a xs,x=.ref a/\SqL K H a xs/\∀p,H p=ZB->Q (.ref p) (upd H p (.lst (xA xs lo hi)))
def FG:SlR X (rSlL X.K):=by
 intro lm s σ H x v vl vu lo hi sl Q I rx hs pl pu h;obtain⟨a,xs,rfl,hx,q⟩:=h;cases rx;obtain⟨its,r,ht,hz⟩:=I.list hx
 have hlen:=r.length;refine⟨"list",_,slot_list_getitem.lookup,ht.isList.typeIs,?_⟩
 refine wpAny_getItem_list_slice ht.isList hs pl pu .none (by simp) ?_ (by rw[Od] <;> omega)
 rw[rF,<-hlen];refine⟨.ref s.heap.objs.size,_,I.laid (t':=s.toks) (o:=.lst (xA xs lo hi)) (λb ob q=>N4 _ q) (Ob _) ?_,rfl,q _ (I.hok.fresh (Ob _))⟩
 exact⟨O4 (n9 xs lo hi) hz,_,0,(r.drop (HT.sIx xs.length 0 lo)).take (HT.sIx xs.length xs.length hi - HT.sIx xs.length 0 lo),Og _ rfl⟩
def call_len_seq:CallR X (.builtin "len") (λxs H Q=>∃p ys,xs=[.ref p]/\(SqL X.K H p ys\/SqT X.K H p ys)/\Q (.int ys.length) H):=by
 intro lm s σ H xs us Q I r h;obtain⟨p,ys,rfl,hq,q⟩:=h;obtain⟨u,rfl,rx⟩:=jA r;cases rx
 have hn:=qC;rcases hq with hq|hq
 ·obtain⟨its,r',pl,hz⟩:=I.list hq
  have hlen:=r'.length;exact Calls.call_len_list pl.isList (by simp only[Od] <;> omega) ⟨.int ys.length,H,I.tok _,⟨s.toks+1,by rw[Od,hlen]⟩,q⟩
 ·obtain⟨its,r',pl,hz⟩:=I.tuple hq
  have hlen:=r'.length;exact len_tuple pl (by simp only[Od] <;> omega) ⟨.int ys.length,H,I.tok _,⟨s.toks+1,by rw[Od,hlen]⟩,q⟩
def vf:CallR X (.builtin "len") (λxs H Q=>∃z,xs=[.str z]/\z.length<=ZI/\Q (.int z.length) H):=by
 intro lm s σ H xs us Q I r h;obtain⟨z,rfl,hz,q⟩:=h;obtain⟨u,rfl,t,rfl⟩:=jA r
 have hn:=qC;exact len_str (by omega) ⟨.int z.length,H,I.tok _,⟨_,rfl⟩,q⟩
def CallR.or{r r':List V->Hp->VK->Prop}(h:CallR X f r)(h':CallR X f r'):CallR X f (λxs H Q=>r xs H Q\/r' xs H Q):=by
 intro lm s σ H xs us Q I rs q;rcases q with q|q
 ·exact h lm s σ H xs us Q I rs q
 ·exact h' lm s σ H xs us Q I rs q
def r9:CallR X (.type "tuple") (λxs H Q=>∃p ys,xs=[.ref p]/\((SqL X.K H p ys/\∀l,H l=ZB->Q (.ref l) (upd H l (.tup ys)))\/(SqT X.K H p ys/\Q (.ref p) H))):=by
 intro lm s σ H xs us Q I r h;obtain⟨p,ys,rfl,h⟩:=h;obtain⟨u,rfl,rx⟩:=jA r;cases rx;rcases h with⟨hq,q⟩|⟨hq,q⟩
 ·obtain⟨its,r',pl,hz⟩:=I.list hq
  have hlen:=r'.length;refine call_tuple_list pl.isList (λh' kp=>?_) (by simp only[Od] <;> omega)
  have I1:Inv X lm σ H {s with heap:=h'}:=I.kept (t':=s.toks) kp
  have I2:Inv X lm σ (upd H h'.objs.size (.tup ys)) {s with heap:=h'.push {cls:=.type "tuple",data:=.seq its.toArray}}:=
   I1.laid (t':=s.toks) (λb o e=>N4 _ e) (Ob _) (show ObjOk X.prog X.w _ _ _ (.tup ys)from⟨hz,its,r',Vn _ _⟩)
  exact⟨.ref h'.objs.size,_,I2,rfl,q _ (I1.hok.fresh (Ob _))⟩
 ·obtain⟨its,r',pl,hz⟩:=I.tuple hq
  exact call_tuple_same pl ⟨.ref p,H,I,rfl,q⟩
def tyV(K:NQ)(T:String)(x:V)(H:Hp):Prop:=match x with
 |.str _=>T= "str"
 |.int _=>T= "int"
 |.ref p=>(T= "list"/\∃xs,SqL K H p xs)\/(T= "tuple"/\∃o,K.lookup p=ZA o/\o.cls=.type "tuple"/\o.dict=ZB) ∨
   (T= "dict"/\((∃kvs,H p=ZA (.dK kvs))\/∃kvs,H p=ZA (.dT kvs)))\/(T= "set"/\∃S n,H p=ZA (.set S n))
 |_=>False
def xX{T:String}{x:V}(I:Inv X lm σ H s)(r:RelV x v)(ty:tyV X.K T x H):
  s.TypeIs v T/\∀a,v=.ref a->∃ob,s.heap.get? a=ZA ob/\ob.dict=ZB:=by
 cases x with
 |str z=>
  obtain⟨t,rfl⟩:=r;cases (show T= "str" from ty)
  exact⟨typeIs_str s z t,λ_ e=>nomatch e⟩
 |int i=>
  obtain⟨t,rfl⟩:=r;cases (show T= "int" from ty)
  exact⟨TB s i t,λ_ e=>nomatch e⟩
 |ref p=>
  cases r;rcases ty with⟨rfl,xs,hq⟩|⟨rfl,o,hk,hc,hd⟩|⟨rfl,hk⟩|⟨rfl,S,n,hk⟩
  ·obtain⟨its,_,pl,_⟩:=I.list hq
   refine⟨pl.isList.typeIs,λa e=>?_⟩
   cases e;obtain⟨o,n,e,c,hd,_⟩:=pl;exact⟨o,e,hd⟩
  ·refine⟨⟨o,I.kIn p o hk,hc⟩,λa e=>?_⟩
   cases e;exact⟨o,I.kIn _ o hk,hd⟩
  ·have z:∃o,s.heap.get? p=ZA o/\o.ExactDict:=by
    rcases hk with⟨kvs,hk⟩|⟨kvs,hk⟩
    ·obtain⟨_,_,_,_,o,_,_,e,ex,_⟩:=I.hok p _ hk
     exact⟨o,e,ex⟩
    ·obtain⟨_,_,_,_,o,_,_,e,ex,_⟩:=I.hok p _ hk
     exact⟨o,e,ex⟩
   obtain⟨o,e,ex⟩:=z;refine⟨⟨o,e,ex.1⟩,λa e2=>?_⟩
   cases e2;exact⟨o,e,ex.2.1⟩
  ·obtain⟨o,_,_,_,e,ex,_⟩:=I.hok p _ hk
   refine⟨⟨o,e,ex.1⟩,λa e2=>?_⟩
   cases e2
   exact⟨o,e,ex.2.1⟩
 |_=>exact Qi ty
def tBM0(K:NQ)(T:String)(r:V->List V->Hp->VK->Prop)(to:TE):TE:=λσ H Q=>to σ H λx H1=>tyV K T x H1/\r x [] H1 Q
def tBM(K:NQ)(T:String)(r:V->List V->Hp->VK->Prop)(to:TE)(t:TA):TE:=λσ H Q=>to σ H λx H1=>tyV K T x H1/\t σ H1 λxs H2=>r x xs H2 Q
variable {o:ZG}{es:List ZG}{to:TE}{t:TA}{name:Str}{apos cpos:Pos}{T id:String}{r:V->List V->Hp->VK->Prop}
def Jr(pa:PlainAttrs T)(slot:Slot T name id)(hty:typeOf (.builtin id)=pure (.type "method_descriptor"))(hm:M4 X id r)(ho:PE X o to)
  (hbase:Ox o name X.env (eval o X.env)=eval o X.env:=by rfl) (hline:(apos.endLine == cpos.line)=ZC:=by rfl):PE X (.Call (.Attribute o name apos) [] [] cpos) (tBM0 X.K T r to):=by
 intro lm s σ H Q I h;refine wpAny_Call_method0_late hbase hline (bW (ho lm s σ H _ I h) λv s1 hh_=>?_)
 obtain⟨x,H1,I1,r1,ty,q1⟩:=hh_;obtain⟨h1,h2⟩:=xX I1 r1 ty;exact⟨T,id,pa,slot,hty,h1,h2,QK rfl (PySem.evalArgs_none (hm lm s1 σ H1 x [] v [] Q I1 r1 .nil q1))⟩
def wb(pa:PlainAttrs T)(slot:Slot T name id)(hty:typeOf (.builtin id)=pure (.type "method_descriptor"))(hm:M4 X id r)(ho:PE X o to)(ha:PA X (e::es) t)
  (hbase:Ox o name X.env (eval o X.env)=eval o X.env:=by rfl)
  (hfew:((backTo cpos (N5 (e::es) X.env)).all (λx=>!x.1)&&(Sh cpos (Q0 [] X.env)).all (λx=>x.1.isSome)
   &&decide ((e::es).length+([]:List Vz).length+(if ([]:List Vz).isEmpty then 0 else 1)<30))=ZC:=by rfl)
  (hline:(apos.endLine == cpos.line)=ZC:=by rfl) (hs:N5 (e::es) X.env=(ZD,eval e X.env)::N5 es X.env:=by rfl) (hplain:(backTo cpos (N5 es X.env)).any (·.1)=ZD:=by rfl):
  PE X (.Call (.Attribute o name apos) (e::es) [] cpos) (tBM X.K T r to t):=by
 intro lm s σ H Q I h;refine S2 hbase hfew hline rfl (bW (ho lm s σ H _ I h) λv s1 hh_=>?_)
 obtain⟨x,H1,I1,r1,ty,q1⟩:=hh_;obtain⟨h1,h2⟩:=xX I1 r1 ty;refine⟨T,id,pa,slot,hty,h1,h2,?_⟩
 have hA:=ha cpos lm s1 σ H1 _ I1 q1;rw[hs]at hA ⊢;refine QK (by show(ZD||(backTo cpos (N5 es X.env)).any (·.1))=ZD;rw[hplain] <;> rfl) (Q6 ?_)
 exact bW hA λus s2 ⟨vs,H2,I2,r2,q2⟩=>hm lm s2 σ H2 x vs v us Q I2 r1 r2 q2
end
def MtM(X:Cx)(id:String)(r:V->List V->Hp->VK->Prop):Prop:=
 ∀(lm:V2)(s:NV)(σ:St)(H:Hp)(x:V)(xs:List V)(v:NS)(us:List NS)(Q:VK),Inv X lm σ H s->RelV x v->Vals xs us->r x xs H Q →
  ZJ (ZK X.prog X.w) X.A (call (.builtin id) (v::us)) (EP X lm σ Q) X.xe s
theorem Vals.one:∀{x:V}{us:List NS},Vals [x] us->∃u,us=[u]/\RelV x u
 |_,_,.cons r .nil=>⟨_,rfl,r⟩
theorem Vals.zero:∀{us:List NS},Vals [] us->us=[]
 |_,.nil=>rfl
def Vals.dropLast(h:Vals xs us):Vals xs.dropLast us.dropLast:=by
 induction h with
 |nil=>exact .nil
 |cons r t ih=>
  cases t with
  |nil=>exact .nil
  |cons q t'=>exact .cons r ih
theorem Vals.rep(h:Vals xs us):∀k:Nat,Vals (Oi k xs).flatten (Oi k us).flatten
 |0=>.nil
 |k+1=>by
  rw[PK,PK,Qy,Qy];exact Vals.append h (Vals.rep h k)
def yV(l:List α):l.eraseIdx (l.length - 1)=l.dropLast:=by
 induction l with
 |nil=>rfl
 |cons a r ih=>
  cases r with
  |nil=>rfl
  |cons b r=>
   have e:(a::b::r).length - 1=((b::r).length - 1)+1:=by
    have h1:(a::b::r).length=r.length+2:=rfl
    have h2:(b::r).length=r.length+1:=rfl;omega
   rw[e,List.eraseIdx_cons_succ,ih]
   all_goals rfl
theorem foldl_rep(its:List NS):∀(k:Nat)(acc:List NS),
  Sw (λx1 x2=>x1++x2) acc.toArray (Oi k its.toArray)=(acc++(Oi k its).flatten).toArray
 |0,acc=>by simp
 |k+1,acc=>by
  have e:acc.toArray++its.toArray=(acc++its).toArray:=by simp
  have e2:(acc++its)++(Oi k its).flatten=acc++(Oi (k+1) its).flatten:=by
   rw[PK,Qy,Oz]
  rw[<-e2,<-foldl_rep its k (acc++its),<-e,PK,Vo]
section
variable {l b:ZE}{ys zs:List V}
def Inv.Ny{its':List NS}{f:Array NS->Array NS}(I:Inv X lm σ H s)(hH:H l=ZA (.lst xs))
  (e:s.heap.get? l=ZA {cls:=.type "list",data:=.seq its.toArray n}) (hf:f its.toArray=its'.toArray) (hv:Vals ys its') (hz:ys.length<=ZI):
  Inv X lm σ (upd H l (.lst ys)) {s with heap:=s.heap.update l (Obj.mapSeq f),toks:=t'}:=by
 have q:=PySem.IsL.update e f;rw[hf]at q;refine I.write (x:=l) (e:=l) (by rw[hH];exact trivial) (.inl rfl) (λb' u hb hu=>(QL s.heap (Obj.mapSeq f) (P4 hb)).trans hu) ⟨_,q⟩ ?_
 exact⟨hz,its',_,hv,q⟩
def Inv.NA(I:Inv X lm σ H s)(hv:Vals ys its)(hz:ys.length<=ZI):
  Inv X lm σ (upd H s.heap.objs.size (.lst ys)) {s with heap:=s.heap.push {cls:=.type "list",data:=.seq its.toArray},toks:=t'}:=
 I.laid (λ_ _ q=>N4 _ q) (Ob _) ⟨hz,its,0,hv,Og _ rfl⟩
theorem Inv.fresh(I:Inv X lm σ H s):H s.heap.objs.size=ZB:=I.hok.fresh (Ob _)
def Inv.Na(I:Inv X lm σ H s)(hH:H l=ZA (.lst xs)):xs.length<=ZI/\∃(its:List NS)(n:Nat),Vals xs its/\xs.length=its.length/\s.heap.get? l=ZA {cls:=.type "list",data:=.seq its.toArray n}:=by
 obtain⟨z,its,n,r,e⟩:=I.hok l _ hH;exact⟨z,its,n,r,r.length,e⟩
def wz(h:n<=ZI):Qw n=ZD:=by
 unfold Qw;exact decide_eq_false (by omega)
end
def FT:V->List V->Hp->VK->Prop:=λx vs H Q=>∃l xs y,x=.ref l/\vs=[y]/\H l=ZA (.lst xs)/\xs.length<ZI/\Q .non (upd H l (.lst (xs++[y])))
def nv:MtM X "list.append" FT:=by
 intro lm s σ H x vs v us Q I rx rv h;obtain⟨l,xs,y,rfl,rfl,hH,hz,q⟩:=h;cases rx;obtain⟨u,rfl,ru⟩:=rv.one;obtain⟨z,its,n,r,hl,e⟩:=I.Na hH;refine Q5 F.slot_list_append ⟨_,e,rfl⟩ F.entry_list_append (F.args_list_append_2 _ _) (PySem.list_append l its.toArray n u (by rw[Od];omega)) ⟨e,?_⟩
 refine⟨.non,_,I.Ny (its':=its++[u]) hH e (by simp) (r.append (.cons ru .nil)) ?_,rfl,q⟩
 rw[N3,PR];omega
def FQ:V->List V->Hp->VK->Prop:=λx vs H Q=>∃l b xs zs,x=.ref l/\vs=[.ref b]/\H l=ZA (.lst xs)/\H b=ZA (.lst zs)/\xs.length+zs.length<=ZI/\Q .non (upd H l (.lst (xs++zs)))
def A6:MtM X "list.extend" FQ:=by
 intro lm s σ H x vs v us Q I rx rv h;obtain⟨l,b,xs,zs,rfl,rfl,hH,hB,hz,q⟩:=h;cases rx;obtain⟨u,rfl,ru⟩:=rv.one;cases ru;obtain⟨z,its,n,r,hl,e⟩:=I.Na hH;obtain⟨z2,its2,n2,r2,hl2,e2⟩:=I.Na hB
 have hsz:its.toArray.size+its2.toArray.size<=ZI:=by rw[Od,Od];omega
 have hlong:¬ (!its.toArray.isEmpty&&Qw (its.toArray.size+its2.toArray.size))=ZC:=by
  rw[wz hsz,Bool.and_false];exact N9
 refine Q5 F.slot_list_extend ⟨_,e,rfl⟩ F.entry_list_extend (F.args_list_extend_2 _ _)
  (AutoSeq1.list_extend_list_list_0 l its.toArray n b its2.toArray n2 hlong (by rw[Od];omega) (by omega)) ⟨e,e2,?_⟩
 refine⟨.non,_,I.Ny (its':=its++its2) hH e (by simp) (r.append r2) ?_,rfl,q⟩
 rw[N3];omega
def rPop:V->List V->Hp->VK->Prop:=λx vs H Q=>∃l xs y,x=.ref l/\vs=[]/\H l=ZA (.lst xs)/\xs[xs.length - 1]?=ZA y/\Q y (upd H l (.lst xs.dropLast))
def JM:MtM X "list.pop" rPop:=by
 intro lm s σ H x vs v us Q I rx rv h;obtain⟨l,xs,y,rfl,rfl,hH,hy,q⟩:=h;cases rx
 have hus:=rv.zero;subst hus;obtain⟨z,its,n,r,hl,e⟩:=I.Na hH;obtain⟨u,hu,ru⟩:=r.get hy
 have hy':its.toArray[its.toArray.size - 1]?=ZA u:=by
  show its.toArray[its.length - 1]?=ZA u
  rw[<-Array.getElem?_toList,<-hl]
  exact hu
 refine Q5 F.slot_list_pop ⟨_,e,rfl⟩ F.entry_list_pop (F.args_list_pop_1 _) (MeetsSeq.list_pop_last l its.toArray n u hy' (by rw[Od];omega)) ⟨e,?_⟩
 refine⟨y,_,I.Ny (its':=its.dropLast) hH e ?_ r.dropLast ?_,ru,q⟩
 ·show its.toArray.eraseIdxIfInBounds (its.toArray.size - 1)=its.dropLast.toArray
  rw[Od,List.eraseIdxIfInBounds_toArray,yV]
 ·rw[List.length_dropLast]
  omega
def rCat:R2:=λx y H Q=>∃l b xs zs,x=.ref l/\y=.ref b/\H l=ZA (.lst xs)/\H b=ZA (.lst zs)/\xs.length+zs.length<=ZI/\∀p,H p=ZB->Q (.ref p) (upd H p (.lst (xs++zs)))
def Jz:rE X (PY .Add) rCat:=by
 intro lm s σ H x y v u Q I rx ry h;obtain⟨l,b,xs,zs,rfl,rfl,hH,hB,hz,q⟩:=h;cases rx;cases ry;obtain⟨z,its,n,r,hl,e⟩:=I.Na hH;obtain⟨z2,its2,n2,r2,hl2,e2⟩:=I.Na hB;refine PySem.P.add_list e e2 ?_ (by rw[Od,Od];omega)
 have ea:its.toArray++its2.toArray=(its++its2).toArray:=by simp
 rw[ea];exact⟨.ref _,_,I.NA (t':=s.toks) (r.append r2) (by rw[N3];omega),rfl,q _ I.fresh⟩
def rRep:R2:=λx y H Q=>∃l k xs,x=.ref l/\y=.int k/\H l=ZA (.lst xs)/\-(2 ^ 63)<=k/\k<2 ^ 63/\xs.length*k.toNat<=ZI ∧
 ∀p,H p=ZB->Q (.ref p) (upd H p (.lst (Oi k.toNat xs).flatten))
def len_rep(xs:List α)(k:Nat):(Oi k xs).flatten.length=k*xs.length:=by
 induction k with
 |zero=>simp
 |succ k ih=>rw[PK,Qy,N3,ih,Nat.succ_mul,UU]
def Jv:rE X (PY .Mult) rRep:=by
 intro lm s σ H x y v u Q I rx ry h;obtain⟨l,k,xs,rfl,rfl,hH,h1,h2,hz,q⟩:=h;cases rx;obtain⟨t,rfl⟩:=ry;obtain⟨z,its,n,r,hl,e⟩:=I.Na hH
 have hlen:its.toArray.size*k.toNat<=ZI:=by rw[Od,<-hl];exact hz
 have hcap:¬ its.toArray.size*k.toNat > (2 ^ 63 - 1) / 8:=by
  have:(ZI:Nat)<=(2 ^ 63 - 1) / 8:=by decide
  omega
 have hfit:¬ (!Builtin.List.listFitsIndex k)=ZC:=by
  rw[fitsIndex_both h1 h2];exact N9
 have hlong:¬ Qw (its.toArray.size*k.toNat)=ZC:=by
  rw[wz hlen];exact N9
 have hnew:Sw (λx1 x2=>x1++x2) #[] (Oi (if its.toArray.isEmpty=ZC then 0 else k.toNat) its.toArray)=(Oi k.toNat its).flatten.toArray:=by
  have f0:∀m:Nat,Sw (λx1 x2=>x1++x2) #[] (Oi m its.toArray)=(Oi m its).flatten.toArray:=λm=>by
   have:=foldl_rep its m [];rw[PU]at this;exact this
  rw[f0]
  cases its with
  |nil=>simp
  |cons a r'=>rw[if_neg (by simp)]
 refine Sk (T:="list") (U:="int") (by decide) ⟨_,e,rfl⟩ (λs'=>TB s' k t) noFill_list_mul Vp RZ repeat_list U4.lookup
  (Q5 RZ (TB s k t) U5 (UD _ _) (int___rmul___int_list k t l its.toArray n)
   ⟨e,rfl,⟨_,e,rfl⟩,Q5 F.slot_list_mul ⟨_,e,rfl⟩ F.entry_list_mul (F.args_list_mul_2 _ _) (Ud l its.toArray n k t hfit hcap hlong) ⟨e,?_⟩⟩)
 rw[hnew];exact⟨.ref _,_,I.NA (t':=s.toks) (r.rep k.toNat) (by rw[len_rep,UV];exact hz),rfl,q _ I.fresh⟩
end L2
namespace Att
open PySem PySem.W PySem.Calls PyProof.Rows
variable{P:Params}{h:ZH}
def oJ:∀(ns:List Int)(vs:List NS),WellAll P h vs (ns.map WData.int)->RQ vs ns:=by
 intro ns
 induction ns with
 |nil=>
  intro vs w;rw[S6]at w;cases w
  exact .nil
 |cons n ns ih=>
  intro vs w;rw[NT]at w
  cases w with
  |cons a b=>
   cases a;exact .cons _ _ (ih _ b)
variable{l:OpenLaw}
def AL(hn:l.most=ZA n){args:List WData}{vals:List NS}
  (hpre:l.row.toRowW.claim.pre args=ZC) (hwl:WellAll P h vals args):
  ∃a vs ns,vals=[Oc a]/\args=[WData.list (ns.map WData.int)]/\h.get? a=ZA {cls:=.type "list",data:=.seq vs.toArray}/\RQ vs ns/\ns.length<=n:=by
 have hsh:WShape.hasAll [] args [.list .int]=ZC:=(pre_splitW hpre).1
 have hc:l.pre.holds [] {args:=args}=ZC:=(pre_splitW hpre).2;obtain⟨d,r,rfl,h1,h2⟩:=hasAllW_cons hsh;obtain rfl:=hasAllW_nil h2;obtain⟨xs,rfl,h3⟩:=hasW_list h1;obtain⟨ns,rfl⟩:=items_int h3
 have hlen:ns.length<=n:=by
  unfold OpenLaw.pre at hc
  have h4:(WTm.not (.lt (.lit (.int (n:Int))) (.len (.arg 0)))).holds [] {args:=[.list (ns.map .int)]}=ZC:=by
   have h4:=(holds_andW hc).1;rw[hn]at h4;exact h4
  have h5:=condW_of h4 (w_not (w_lt w_lit (w_len_list (w_arg rfl))));rw[NW]at h5;refine Nat.le_of_not_lt λq=>?_
  have q':(n:Int)<((ns.length:Nat):Int):=by omega
  first
   | (rw[decide_eq_true q']at h5;exact absurd h5 (by decide))
   | (simp at h5;omega)
 cases hwl with
 |cons w1 w2=>
  cases w2
  cases w1 with
  |list ho hall=>exact⟨_,_,ns,rfl,rfl,ho,oJ ns _ hall,hlen⟩
def AV(l:OpenLaw)(args:List WData):l.row.toRowW.claim.post args (.bool ZC) args=ZC:=
 postW_of (r:=l.row.toRowW) (X:=(ZC == ZC))
  (show WShape.has [] (.bool ZC) .bool=ZC by first|rfl|decide|simp[WShape.has,WShape.arms,WShape.armsAll])
  (show(WTm.eq .res (.lit (.bool ZC))).value [] {args:=args,res:=ZA (.bool ZC),after:=args}=ZA (.bool (ZC == ZC))from w_eq_bool (w_res rfl) w_lit) rfl
def attach_call{loose:List Str}{XP:(V0)->ZH->Prop}{YP:O8->ZH->Prop}{d:DefRec}
  (hn:l.most=ZA n) (hdf:d.params.defaults=[])
  (call:∀(w:O8)(s₀ s₁:NV)(mg mb:V0)(fa:ZE)(o:Obj)(pm cd doc:NS)(a:ZE)(vs:List NS)(ns:List Int),
   Ground q loose [] XP w s₀ mg mb s₁.heap->YP w s₁.heap →
   s₁.heap.get? fa=ZA o->o.data=.func (docDef d.name d.params d.body d.scope pm cd doc)->s₁.heap.CodeRec cd d.name->mg d.name=ZA (.ref fa) →
   s₁.heap.get? a=ZA {cls:=.type "list",data:=.seq vs.toArray}->RQ vs ns->ns.length<=n->s₁.gens= #[] →
   ZL (ZK l.prog w) callerA (.call (.ref fa) ⟨[.ref a],[]⟩) (λr s'=>r=.ok (.ret (.bool ZC))/\OldK s₁.heap s'.heap/\s'.os=s₁.os/\SM s'.gens) s₁):
  WalkO q loose XP YP l.row.toRowW d [] (λf vs=>PySem.call f vs):=by
 intro w s₀ s₁ mg mb G Y fa o pm cd doc dV kV ho hd hcd hD hmg hg args vals as hpre hlay hrd hwl hlo;obtain rfl:dV=.none:=Dflts.none hD hdf;obtain rfl:kV=.none:=Dflts.noKw hD;obtain⟨a,vs,ns,rfl,rfl,hobj,hints,hlen⟩:=AL hn hpre hwl;refine enter_call (Qn (call w s₀ s₁ mg mb fa o pm cd doc a vs ns G Y ho (fd_plain hd) hcd hmg hobj hints hlen hg) λr s' hq=>?_)
 obtain⟨rfl,h2,h3,h4⟩:=hq;exact⟨.inl ⟨.bool ZC,.bool ZC,[],rfl,λ_=>rfl,.bool ZC,AV l _,λ_=>⟨List.Pairwise.nil,λ_ hm=>(nomatch hm)⟩⟩,h2,h3,h4⟩
end Att
namespace L2
open PySem PySem.Spec PyProof.Rows
theorem si:∀{vs:List NS}{ns:List Int},RQ vs ns->Vals (ns.map V.int) vs
 |_,_,.nil=>.nil
 |_,_,.cons n t h=>.cons ⟨t,rfl⟩ (si h)
def KL(H:Hp):Prop:=∀b,H b=ZB\/∃o xs,H b=ZA (.frz o (.lst xs))
variable{mg:V0}{x:Str}
def Dz{mb:V0}{CX:BL}{fa a:ZE}{sp:Sp}{s₁:NV}
  (KX:K.In s₁.heap) (hns:s₁.heap.Ns OJ mg) (hb:s₁.heap.Ns Sy mb) (hbb:∀x:Str,x≠ "__name__"->mb x=OL x) (hlim:s₁.heap.NoLimit) (hg:s₁.gens= #[])
  (ha:s₁.heap.get? a=ZA {cls:=.type "list",data:=.seq vs.toArray}) (hi:RQ vs ns) (hl:ns.length<=ZI) (hr:Room k callerA)
  (F:∀base:ZH,K.In base->base.Ns OJ mg->FnOk P w K mg base CX k fa fd [x] sp) (hbind:∀(s:NV)(u:NS),Sj s fd ⟨[u],[]⟩ [(x,u)])
  (hsp:∀H:Hp,KL H->SqL K H a (ns.map V.int)->sp [.ref a] H (λv _=>v=.bl ZC) λ_ _ _=>False)
  (hCX:∀H e s',CX [] H s₁ (λ_ _ _=>False) e s'->False):
  ZL (ZK P w) callerA (.call (.ref fa) ⟨[.ref a],[]⟩) (λr s'=>r=.ok (.ret (.bool ZC))/\OldK s₁.heap s'.heap/\s'.os=s₁.os/\SM s'.gens) s₁:=by
 have rv:=si hi
 have lenV:=hi.length
 have core:∀H:Hp,KL H->SqL K H a (ns.map V.int)->HOk P w H s₁.heap->(∀b,H b≠ZB->b=a)->(H a≠ZB->K.lookup a=ZB) →
   ZL (ZK P w) callerA (.call (.ref fa) ⟨[.ref a],[]⟩) (λr s'=>r=.ok (.ret (.bool ZC))/\OldK s₁.heap s'.heap/\s'.os=s₁.os/\SM s'.gens) s₁:=by
  intro H hO hS hok hA hK
  have base_of:∀{b:ZE}{o:Obj},s₁.heap.get? b=ZA o->H b=ZB->(uY s₁.heap H).get? b=ZA o:=λe n=>D8 e n
  have noA:∀{b:ZE}{o:Obj}{es:Array DictEntry}{ep:Nat},s₁.heap.get? b=ZA o->o.data=.dict es ep->H b=ZB:=λ{b o es ep} e d=>by
   cases q:H b with
   |none=>rfl
   |some u=>
    have e':b=a:=hA b (by rw[q];simp)
    subst e';rw[ha]at e;cases e
    have d':Data.seq vs.toArray _=Data.dict es ep:=d;cases d'
  have nsK:∀{b:ZE}{m:V0},s₁.heap.Ns b m->(uY s₁.heap H).Ns b m:=λ{b m} ⟨o,es,ep,e,d,r⟩=>⟨o,es,ep,base_of e (noA e d),d,r⟩
  have hKb:K.In (uY s₁.heap H):=λb o e=>base_of (KX b o e) (by
   cases q:H b with
   |none=>rfl
   |some u=>
    have e':b=a:=hA b (by rw[q];simp)
    subst e';rw[hK (by rw[q];simp)]at e;cases e)
  have hM:Mod K mg (uY s₁.heap H):=⟨hKb,nsK hns,⟨mb,nsK hb,hbb⟩,let ⟨mc,h1,h2⟩:=hlim;⟨mc,nsK h1,h2⟩⟩
  have e0:Env0 P w K mg (uY s₁.heap H) callerA [] s₁ H:=⟨rfl,hM,λb o e=>Gy e,RG (Bh _ _),trivial,λb hb=>absurd (show b∈([]:List ZE)from hb) (by simp),hok,.of_eq hg⟩
  refine Qn ((F _ hKb (nsK hns)).run callerA [] s₁ H ⟨[.ref a],[]⟩ [.ref a] [.ref a] _ _ hr e0 (hbind s₁ (.ref a)) (.cons rfl .nil) (hsp H hO hS)) λr s' h=>?_
  cases r with
  |error e=>exact(hCX H e s' h).elim
  |ok fl=>
   cases fl with
   |next=>exact Qi h
   |brk=>exact Qi h
   |cont=>exact Qi h
   |ret u=>
    obtain⟨v,H',os,bare,un,hok',r',q⟩:=h
    have q':v=.bl ZC:=q;subst q';obtain rfl:u=OS ZC:=r';refine⟨rfl,OldK.of_keep λb o e=>?_,os,bare⟩
    cases q:H b with
    |none=>exact un.keep b o e q (by intro z;exact absurd (show b∈([]:List ZE)from z) (by simp)) (by simp)
    |some u=>
     rcases hO b with z|⟨ob,xs,z⟩
     ·rw[q]at z;cases z
     ·have z2:=un.frzs b ob _ z
      obtain⟨e1,_⟩:=hok b _ z;obtain⟨e2,_⟩:=hok' b _ z2;rw[e]at e1;cases e1;exact e2
 cases hk:K.lookup a with
 |some o=>
  have e:=KX a o hk;rw[ha]at e;cases e
  refine core (λ_=>ZB) (λ_=>.inl rfl) (.inr ⟨_,vs.toArray,_,hk,rfl,rfl,rfl,by rw[Od,lenV];exact hl,by simpa using rv⟩) (λb u z=>by have z':(ZB:Option HO)=ZA u:=z;cases z') (λb z=>absurd rfl z) λz=>absurd rfl z
 |none=>
  refine core (λb=>if b=a then ZA (.frz {cls:=.type "list",data:=.seq vs.toArray} (.lst (ns.map V.int)))else ZB) (λb=>?_) (.inl (.inr ⟨{cls:=.type "list",data:=.seq vs.toArray},if_pos rfl⟩)) (λb u z=>?_) (λb z=>?_) λ_=>hk
  ·by_cases hb:b=a
   ·exact .inr ⟨_,_,if_pos hb⟩
   ·exact .inl (if_neg hb)
  ·by_cases hb:b=a
   ·have z':=(if_pos hb).symm.trans z
    cases z';subst hb;exact⟨ha,by rw[NW];exact hl,vs,_,rv,ha⟩
   ·have z':=(if_neg hb).symm.trans z
    cases z'
  ·by_cases hb:b=a
   ·exact hb
   ·exact absurd (if_neg hb) z
abbrev CX0:BL:=λ_ _ _ _ _ _=>False
abbrev E0:XK:=λ_ _ _=>False
variable{X:Cx}
def wc:zi CX0 X E0:=λ_ _ _ _ _ _ _ h=>h.elim
structure Fun (K:NQ)(x qual:Str)(st:ZF)(f:ZE)(fd:OG):Prop where
 ex:∃(oc:NS)(od:Option ZE)(kV doc pm:NS)(an:Option ZE)(cdv ct:NS)(osl:Array (Option NS)),
  fd=RD x qual (gz st) (bA st) (ai st) .none kV doc pm an cdv ct/\K.lookup f=ZA ⟨oc,od,.func fd,osl⟩/\TN K cdv qual=ZC
 kp:PP K (.ref f)=ZC
variable{f:ZE}{ps:List Str}{qual:Str}{st:ZF}
section
variable {base:ZH}
def Fun.ok{N:List Str}{sp:Sp}(F:Fun K x qual st f fd)(S:az N ps (ai st))(len:∀vs H Q E,sp vs H Q E->vs.length=ps.length)
  (hbody:∀(cdv:NS)(A:OB)(outer:List Env)(s:NV)(H:Hp)(vs:List V)(Q:VK)(E:XK),Room k (A.deeper (envOfC qual (ai st) s.heap.objs.size f cdv))->sp vs H Q E →
   ∃t,PSs (gh CX0 P w K mg base N qual (ai st) f cdv A outer s H E).nox (bA st) t/\t {nx:=λ_ H'=>Q .non H',rt:=Q} (start N vs) H):FnOk P w K mg base CX0 (k+1) f fd ps sp:=by
 obtain⟨oc,od,kV,doc,pm,an,cdv,ct,osl,rfl,lk,hcd⟩:=F.ex;refine Mw lk hcd S len λA outer s H vs Q E hr hsp=>?_
 obtain⟨t,h,q⟩:=hbody cdv A outer s H vs Q E hr hsp;exact⟨t,h.nox,q⟩
def Fun.binds(F:Fun K x qual st f fd)
  (h:∀(kV doc pm:NS)(an:Option ZE)(cdv ct:NS)(us:List NS),us.length=ps.length->Vi (RD x qual (gz st) (bA st) (ai st) .none kV doc pm an cdv ct) ⟨us,[]⟩=pure (ps.zip us)):Binds K fd ps []:=by
 obtain⟨oc,od,kV,doc,pm,an,cdv,ct,osl,rfl,lk,hcd⟩:=F.ex;exact .all (h kV doc pm an cdv ct)
def Ef{oc:NS}{od an:Option ZE}{osl:Array (Option NS)}{kV doc pm cdv ct:NS}(l:K.lookup f=ZA ⟨oc,od,.func (RD x qual (gz st) (bA st) (ai st) .none kV doc pm an cdv ct),osl⟩)
  (c:TN K cdv qual=ZC) (k:PP K (.ref f)=ZC):Fun K x qual st f (RD x qual (gz st) (bA st) (ai st) .none kV doc pm an cdv ct):=⟨⟨oc,od,kV,doc,pm,an,cdv,ct,osl,rfl,l,c⟩,k⟩
end
variable{pos:Pos}
def pv(i:Nat)(hN:X.N[i]?=ZA x:=by rfl)(hv:autoParam (lX X.env.scope x) u_)(hd:autoParam ((x == ("__debug__" : Str))=ZD) s_)
  (hcd:autoParam ((x == ("__classdict__" : Str))=ZD) s_):PE X (.Name x pos) (pB i):=eG hN hv hd hcd
def iteF{A B:Prop}(h:B):if ZD=ZC then A else B:=by
 rw[if_neg N9];exact h
def iteT{A B:Prop}(h:A):if ZC=ZC then A else B:=by
 rw[if_pos rfl];exact h
def Same(H H':Hp):Prop:=∀b o,H b=ZA o->H' b=ZA o
def Same.refl(H:Hp):Same H H:=λ_ _ h=>h
def Same.trans{H H1 H2:Hp}(a:Same H H1)(b:Same H1 H2):Same H H2:=λc o h=>b c o (a c o h)
variable{env:Env}
theorem lV:∀(names:List (Str×Q3))(acc:List (Str×ZE)),
  (∀x,(x,OP)∈names->∃c,env.cells.lookup x=ZA c) →
  (∀x c,acc.lookup x=ZA c->env.cells.lookup x=ZA c) →
  ∃cl,(forIn (m:=Sem) names acc (λx cs=>(if (x.2 == OP)=ZC then do let a <-cellOf env x.1;pure (QU ((x.1,a)::cs))else pure (QU cs))))=pure cl ∧
   (∀x c,cl.lookup x=ZA c->env.cells.lookup x=ZA c) ∧
   (∀x,(x,OP)∈names->∃c,cl.lookup x=ZA c)/\(∀x c,acc.lookup x=ZA c->∃c',cl.lookup x=ZA c')
 |[],acc,_,h=>⟨acc,rfl,h,λx hx=>by simp at hx,λx c e=>⟨c,e⟩⟩
 | (n,k)::r,acc,hf,h=>by
  by_cases hk:k=OP
  ·subst hk
   obtain⟨c,hc⟩:=hf n (by simp)
   have h':∀x c',((n,c)::acc).lookup x=ZA c'->env.cells.lookup x=ZA c':=λx c' e=>by
    rw[OV]at e
    cases q:x == n with
    |true=>
     rw[q]at e
     have e2:c=c':=OH e
     have e3:x=n:=by simpa using q
     rw[<-e2,e3];exact hc
    |false=>rw[q]at e;exact h x c' e
   obtain⟨cl,e1,e2,e3,e4⟩:=lV r ((n,c)::acc) (λx hx=>hf x (NR _ hx)) h'
   refine⟨cl,?_,e2,λx hx=>?_,λx c' e=>?_⟩
   ·rw[Vq]
    simp only[beq_self_eq_true,if_true,cellOf,hc,pure_bind];exact e1
   ·rcases N0.mp hx with z|z
    ·have z1:x=n:=by injection z
     subst z1;exact e4 x c (by simp[OV])
    ·exact e3 x z
   ·cases q:x == n with
    |true=>exact e4 x c (by simp[OV,q])
    |false=>exact e4 x c' (by simp[OV,q,e])
  ·have hb:(k == OP)=ZD:=by simpa using hk
   obtain⟨cl,e1,e2,e3,e4⟩:=lV r acc (λx hx=>hf x (NR _ hx)) h
   refine⟨cl,?_,e2,λx hx=>?_,e4⟩
   ·rw[Vq]
    simp only[hb,Ue,if_false,pure_bind];exact e1
   ·rcases N0.mp hx with z|z
    ·have z1:OP=k:=by injection z
     exact absurd z1.symm hk
    ·exact e3 x z
def zc(hf:∀x,(x,OP)∈scope.names->∃c,env.cells.lookup x=ZA c):
  ∃cl,closureFor scope env=pure cl/\(∀x c,cl.lookup x=ZA c->env.cells.lookup x=ZA c)/\(∀x,(x,OP)∈scope.names->∃c,cl.lookup x=ZA c):=by
 obtain⟨cl,e1,e2,e3,_⟩:=lV scope.names [] hf (λx c e=>by simp at e)
 refine⟨cl,?_,e2,e3⟩
 unfold closureFor;refine Eq.trans ?_ (congrArg (λz=>z >>= pure) e1|>.trans (by simp))
 rfl
variable{tg:ZG}
def ve{pr:Oh}{wd:O8}{Ar:OB}{Rz:TR->NV->Prop}{s0:NV}{el it0:ZG}{cs:List ZG}{ps:Pos}{itv av:NS}{ev:Env}(W:Nat->NV->Prop)
  (go:∀k st,W k st->ZJ (ZK pr wd) Ar (pyNext itv) (λr s1=>match r with
   |none=>Rz (.ok .next) s1
   |some v=>ZJ (ZK pr wd) Ar (Rp tg itv v) (λ_ s2=>ZJ (ZK pr wd) Ar (assign tg ev v) (λ_ s3=>
     ZJ (ZK pr wd) Ar (forIn cs ZC λc b=>if b=ZC then do let z <-isTrue c ev (eval c ev);pure (QU z)else pure (QU b)) (λz s4=>
      if z=ZC then ZJ (ZK pr wd) Ar (eval el ev) (λy s5=>
       ZJ (ZK pr wd) Ar (call (.builtin "list.append") [av,y]) (λ_ s6=>∃m,m<k/\W m s6) (λ_ _=>False) s5) (λ_ _=>False) s4
      else ∃m,m<k/\W m s4) (λ_ _=>False) s3) (λ_ _=>False) s2) (λ_ _=>False) s1) (λ_ _=>False) st)
  (k:Nat) (hk:W k s0):ZL (ZK pr wd) Ar (.compLoop (.ListComp el [⟨tg,it0,cs,0⟩] sc ps) 0 itv av ev) Rz s0:=by
 refine codeAny_loop rfl W (λk st hw=>?_) k hk
 show ZJ (ZK pr wd) Ar ((compTurn (.ListComp el [⟨tg,it0,cs,0⟩] sc ps) 0 itv av ev).onRaise (λz=>do VA z ev;theTreesLotGoes z)) _ _ st
 refine wpAny_noted ?_
 rw[compTurn_list]
 have no:∀{α:Type}{t:Sem α}{Q Q':α->NV->Prop}{E':V1}{x:NV},ZJ (ZK pr wd) Ar t Q (λ_ _=>False) x->(∀y z,Q y z->Q' y z)->ZJ (ZK pr wd) Ar t Q' E' x:=λh f=>Pz h f λ_ _ z=>z.elim
 refine NY (wpAny_standAt (NY (no (go k st hw) λr s1 g1=>?_)))
 cases r with
 |none=>exact Oe g1
 |some v=>
  refine NY (no g1 λ_ s2 g2=>NY (no g2 λ_ s3 g3=>NY (no g3 λz s4 g4=>?_)))
  cases z with
  |false=>exact Oe (And.intro rfl g4)
  |true=>exact NY (NY (no g4 λy s5 g5=>NY (no g5 λ_ s6 g6=>Oe (Oe (And.intro rfl g6)))))
noncomputable def cm(X:Cx)(scope:Rc)(cl:List (Str×ZE))(N':List Str)(C:ZE)(s₀:NV)(H₀:Hp)(fp:List ZE):Cx:=
 {X with N:=N',s₀:=s₀,H₀:=H₀,env:=compEnvC scope cl C X.env,outer:=X.stack,stack:=X.stack,ex:=fp,fn:=λx=>scope.names.lookup x == ZA .cell,xe:=λ_ _=>False}
def gy(src:List (Option Nat))(σ:St):St:=src.map λo=>match o with
 |some i=>(σ[i]?).join
 |none=>ZB
theorem jV{env:Env}:∀{names:List (Str×Q3)}{x:Str}{k:Q3},
  (names.map λ(n,k)=>if (k == OP&&env.scope.kind == .function&&env.kindOf n == ZA .cell)then(n,Pw)else(n,k)).lookup x=ZA k →
  ∃k',names.lookup x=ZA k'/\(k=k'\/k'=.free)
 |[],_,_,h=>by simp at h
 | (n,k0)::r,x,k,h=>by
  have ih:=@jV env r x k
  have h':PH x ((if (k0 == OP&&env.scope.kind == .function&&env.kindOf n == ZA .cell)=ZC then(n,Pw)else(n,k0))::(r.map λ(n,k)=>if (k == OP&&env.scope.kind == .function&&env.kindOf n == ZA .cell)then(n,Pw)else(n,k)))=ZA k:=h
  by_cases hc:(k0 == OP&&env.scope.kind == .function&&env.kindOf n == ZA .cell)=ZC
  ·rw[if_pos hc]at h'
   rw[OV]at h' ⊢
   cases hx:x == n with
   |true=>
    refine⟨k0,rfl,.inr ?_⟩
    have:=Pf.mp hc|>.1
    have:=Pf.mp this|>.1
    simpa using this
   |false=>rw[hx]at h';exact ih h'
  ·rw[if_neg hc]at h'
   rw[OV]at h' ⊢
   cases hx:x == n with
   |true=>rw[hx]at h';exact⟨k0,rfl,.inl (OH h').symm⟩
   |false=>rw[hx]at h';exact ih h'
def kI{names:List (Str×Q3)}{k:Q3}(h:names.lookup x=ZA k):(x,k)∈names:=Qa h
theorem jq{env:Env}:∀{names:List (Str×Q3)}{x:Str},names.lookup x=ZA .free →
  (names.map λ(n,k)=>if (k == OP&&env.scope.kind == .function&&env.kindOf n == ZA .cell)then(n,Pw)else(n,k)).lookup x=ZA .cell ∨
  (names.map λ(n,k)=>if (k == OP&&env.scope.kind == .function&&env.kindOf n == ZA .cell)then(n,Pw)else(n,k)).lookup x=ZA .free
 |[],_,h=>by simp at h
 | (n,k0)::r,x,h=>by
  have ih:=@jq env r x
  show PH x ((if (k0 == OP&&env.scope.kind == .function&&env.kindOf n == ZA .cell)=ZC then(n,Pw)else(n,k0))::_)=_\/PH x ((if (k0 == OP&&env.scope.kind == .function&&env.kindOf n == ZA .cell)=ZC then(n,Pw)else(n,k0))::_)=_
  rw[OV]at h
  by_cases hc:(k0 == OP&&env.scope.kind == .function&&env.kindOf n == ZA .cell)=ZC
  ·rw[if_pos hc]
   rw[OV]
   cases hx:x == n with
   |true=>exact .inl rfl
   |false=>rw[hx]at h;exact ih h
  ·rw[if_neg hc]
   rw[OV]
   cases hx:x == n with
   |true=>rw[hx]at h;exact .inr h
   |false=>rw[hx]at h;exact ih h
variable{N':List Str}{elt iter:ZG}{g:TG}{ifs:List ZG}{tc:TT}{te:TE}{wi:TI}
structure LcScope (X:Cx)(scope:Rc)(N':List Str)(src:List (Option Nat)):Prop where
 kind:scope.kind=.function
 cel:∀y∈scope.names,y.2=.cell->scope.names.lookup y.1=ZA .cell
 loc:∀y∈scope.names,y.2=.local->scope.names.lookup y.1=ZA .local
 len:src.length=N'.length
 from_:∀(j i:Nat)(x:Str),src[j]?=ZA (ZA i)->N'[j]?=ZA x->X.N[i]?=ZA x/\scope.names.lookup x=ZA .free
 free:∀x,(x,OP)∈scope.names->X.env.kindOf x=ZA .cell\/X.env.kindOf x=ZA .free
def Iz(K:NQ)(wi:TI)(src:List (Option Nat))(g:TG)(tc:TT)(te:TE):TE:=λσ H Q=>wi σ H λJ H1=>∀D,H1 D=ZB->K.lookup D=ZB →
 ∃W:Nat->Nat->St->List V->Hp->Prop,(∃m,W 0 m (gy src σ) [] (upd H1 D (.lst [])))/\∀i m σ ys H,W i m σ ys H->H D=ZA (.lst ys) ∧
  ((J.stop i H/\Q (.ref D) H)\/(J.go i H/\ys.length<ZI/\∀x H',J.yld i H x H'->g x σ H' λσ2 H2=>tc σ2 H2 λb H3=>
   if b=ZC then te σ2 H3 λv H4=>H4 D=ZA (.lst ys)/\∃m',m'<m/\W (i+1) m' σ2 (ys++[v]) (upd H4 D (.lst (ys++[v])))else ∃m',m'<m/\W (i+1) m' σ2 ys H3))
def BK(X:Cx)(ifs:List ZG)(t:TT):Prop:=
 ∀(lm:V2)(s:NV)(σ:St)(H:Hp)(Q:Bool->Hp->Prop),Inv X lm σ H s->t σ H Q →
  ZJ (ZK X.prog X.w) X.A (forIn ifs ZC λc r=>if r=ZC then do let ok <-isTrue c X.env (eval c X.env);pure (QU ok)else pure (QU r)) (TP X lm σ Q) X.xe s
def vG:TT:=λ_ H Q=>Q ZC H
def uh:BK X [] vG:=λ_ _ _ H _ I h=>wpAny_tests_nil ⟨H,I,h⟩
def Gk{c:ZG}{t:TT}(h:PT X c t):BK X [c] t:=λlm s σ H Q I q=>wpAny_tests_one (h lm s σ H Q I q)
theorem nH:∀(names:List (Str×Q3))(h:ZH)(acc:List (Str×ZE)),(∀x y c,acc.lookup x=ZA c->acc.lookup y=ZA c->x=y)->(∀x c,acc.lookup x=ZA c->c<h.objs.size) →
  (∀x c,(Qc h.objs.size names acc).lookup x=ZA c->acc.lookup x=ZA c\/(h.objs.size<=c/\(Tu h names).IsCell c ZB)) ∧
  (∀x y c,(Qc h.objs.size names acc).lookup x=ZA c->(Qc h.objs.size names acc).lookup y=ZA c->x=y) ∧
  (∀x,(x,Pw)∉names->(Qc h.objs.size names acc).lookup x=acc.lookup x) ∧
  (∀x,((x,Pw)∈names\/∃c,acc.lookup x=ZA c)->∃c,(Qc h.objs.size names acc).lookup x=ZA c) ∧
  (∀x c,(x,Pw)∈names->(Qc h.objs.size names acc).lookup x=ZA c->h.objs.size<=c)
 |[],h,acc,hi,_=>⟨λ_ _ e=>.inl e,hi,λ_ _=>rfl,λx e=>e.elim (λz=>absurd z Pm) id,λ_ _ z=>absurd z Pm⟩
 | (n,k)::r,h,acc,hi,hl=>by
  unfold Qc Tu
  by_cases hk:k=.cell
  ·subst hk
   rw[if_pos (by rfl),if_pos (by rfl)]
   have hz:(h.push {cls:=.type "cell",data:=.cell ZB}).objs.size=h.objs.size+1:=Qr ..
   have lk:∀x,((n,h.objs.size)::acc).lookup x=if x=n then ZA h.objs.size else acc.lookup x:=λx=>by
    rw[OV]
    by_cases e:x=n
    ·rw[if_pos e,beq_iff_eq.mpr e]
    ·rw[if_neg e,beq_eq_false_iff_ne.mpr e]
   obtain⟨c1,c2,c3,c4,c5⟩:=nH r (h.push {cls:=.type "cell",data:=.cell ZB}) ((n,h.objs.size)::acc) (λx y c e1 e2=>by
     rw[lk]at e1 e2
     by_cases q1:x=n
     ·by_cases q2:y=n
      ·rw[q1,q2]
      ·rw[if_pos q1]at e1;rw[if_neg q2]at e2
       cases e1;exact absurd (hl _ _ e2) (OA _)
     ·rw[if_neg q1]at e1
      by_cases q2:y=n
      ·rw[if_pos q2]at e2
       cases e2;exact absurd (hl _ _ e1) (OA _)
      ·rw[if_neg q2]at e2;exact hi x y c e1 e2) (λx c e=>by
     rw[lk]at e;rw[hz]
     by_cases q:x=n
     ·rw[if_pos q]at e;cases e;exact SO _
     ·rw[if_neg q]at e;exact UE (hl x c e))
   rw[hz]at c1 c2 c3 c4 c5;refine⟨λx c e=>?_,c2,λx hx=>?_,λx hx=>?_,λx c hx e=>?_⟩
   ·rcases c1 x c e with z|z
    ·rw[lk]at z
     by_cases q:x=n
     ·rw[if_pos q]at z;cases z
      exact .inr ⟨Ob _,_,Tv r _ _ _ (Og _ rfl),rfl⟩
     ·rw[if_neg q]at z;exact .inl z
    ·exact .inr ⟨Sx z.1,z.2⟩
   ·rw[c3 x λz=>hx (NR _ z),lk,if_neg λz=>hx (by rw[z];exact NU)]
   ·refine c4 x ?_
    rcases hx with hx|hx
    ·rcases N0.mp hx with z|z
     ·cases z
      exact .inr ⟨_,by rw[lk,if_pos rfl]⟩
     ·exact .inl z
    ·by_cases q:x=n
     ·exact .inr ⟨_,by rw[lk,if_pos q]⟩
     ·exact .inr (by rw[lk,if_neg q];exact hx)
   ·rcases N0.mp hx with z|z
    ·have q:x=n:=(Vk z).1
     rcases c1 x c e with y|y
     ·rw[lk,if_pos q]at y;cases y;exact Ob _
     ·exact Sx y.1
    ·exact Sx (c5 x c z e)
  ·have hb:¬ (k == Pw)=ZC:=λz=>hk (by simpa using z)
   rw[if_neg hb,if_neg hb];obtain⟨c1,c2,c3,c4,c5⟩:=nH r h acc hi hl;exact⟨c1,c2,λx hx=>c3 x λz=>hx (NR _ z),λx hx=>c4 x (hx.imp (λz=>(N0.mp z).resolve_left λz=>hk (Vk z).2.symm) id),λx c hx=>c5 x c ((N0.mp hx).resolve_left λz=>hk (Vk z).2.symm)⟩
def A2{globals:ZE}{cl:List (Str×ZE)}{Q:Env->NV->Prop}
  (q:Q (newEnv scope s.heap.objs.size globals (Qc (s.heap.objs.size+1) scope.names cl) qual ZB .none (ZA env) Sy) {s with heap:=Tu (s.heap.push {cls:=.type "dict",data:=.dict #[]}) scope.names}):
  ZJ M A (newFunctionEnv scope globals cl [] qual ZB .none (ZA env)) Q E s:=by
 simp only[newFunctionEnv,Ug,if_true];refine NY (wpAny_alloc (NY (wpAny_layCells _ (λname kind cells=>by cases hkc:kind == Pw <;> simp[hkc]) _ _ _ _ ?_)))
 rw[show({s with heap:=s.heap.push {cls:=.type "dict",data:=.dict #[]}}:NV).heap.objs.size=s.heap.objs.size+1 from Qr ..]
 rw[List.forIn_nil];exact NY (Oe (Oe q))
def zV{fpos:Pos}{src:List (Option Nat)}{use:Option (NS->Sem Unit)}{Qf:V1}
  {lm:V2}  {σ:St} {H:Hp} {Q:VK}
  (hc:X.calm=ZC) (S:LcScope X scope N' src) (hi:PI X tg iter wi)
  (block:∀cl C s₀ H₀ fp,PG (cm X scope cl N' C s₀ H₀ fp) tg g/\BK (cm X scope cl N' C s₀ H₀ fp) ifs tc/\PE (cm X scope cl N' C s₀ H₀ fp) elt te)
  (hs:∀x,OZ iter X.env x=pure x) (I:Inv X lm σ H s) (h:Iz X.K wi src g tc te σ H Q)
  (hend:∀(D C:ZE)(H':Hp)(s':NV),(∃m,s'.heap.Ns C m)->(∀h',Rg C s'.heap h'->Inv X lm σ H' {s' with heap:=h'})->(H' C=ZB/\C≠X.env.locals/\X.s₀.heap.objs.size<=C/\(∀x c,X.env.cells.lookup x=ZA c->c≠C)/\∀p∈X.pn++lm,p.1≠C)->Q (.ref D) H' →
   compPost (ZK X.prog X.w) X.A X.xe use Qf (.ref D) C (.ok .next) s'):
  ZJ (ZK X.prog X.w) X.A (comprehension (.ListComp elt [⟨tg,iter,ifs,0⟩] scope pos) scope X.env fpos (newList []) ZD (eval iter X.env) use) Qf X.xe s:=by
 have hcell:∀x,(x,OP)∈scope.names->∃c,X.env.cells.lookup x=ZA c:=λx hx=>I.ok.has x (S.free x hx)
 obtain⟨cl0,hcl,cl01,cl02⟩:=zc (env:=X.env) (scope:=scope) hcell;refine wpAny_comprehension_free (use:=use) rfl hs hcl S.kind S.loc (bW (hi lm s σ H _ I h) λv s1 h1=>bW h1 λitv s2 h2=>?_)
 obtain⟨it,fp,tn,J,H2,e,I2,T,st2,f2,hq⟩:=h2;subst e
 refine PM ?_
 have hD:H2 s2.heap.objs.size=ZB:=I2.hok.fresh (Ob _)
 have hDK:X.K.lookup s2.heap.objs.size=ZB:=by
  cases q:X.K.lookup s2.heap.objs.size with
  |none=>rfl
  |some o=>exact absurd (N8 (I2.kIn _ o q)) (OA _)
 obtain⟨W,⟨m0,w0⟩,turn⟩:=hq s2.heap.objs.size hD hDK
 have I3:=I2.NA (its:=[]) (ys:=[]) (t':=s2.toks) .nil (P9 _)
 generalize hs3:({s2 with heap:=s2.heap.push {cls:=.type "list",data:=.seq ([]:List NS).toArray},toks:=s2.toks}:NV)=s3 at I3
 generalize hH3:upd H2 s2.heap.objs.size (.lst [])=H3 at I3 w0
 have hDsz:s2.heap.objs.size<s3.heap.objs.size:=by rw[<-hs3];simp[Qr]
 have fr3:∀b∈fp,H3 b=ZB:=λb hb=>by
  obtain⟨o,eo,_⟩:=T.obj _ _ st2 b hb;rw[<-hH3,aG (Pr (N8 eo))];exact(f2 b hb).1
 have st3:tn 0 s3.heap:=T.keep _ _ _ st2 λb hb o e=>by rw[<-hs3];exact N4 _ e
 have f3:∀b∈fp,rk X lm H3 b:=λb hb=>⟨fr3 b hb,(f2 b hb).2⟩
 have D3:H3 s2.heap.objs.size=ZA (.lst []):=by rw[<-hH3];exact aJ
 generalize s2.heap.objs.size=D at*
 clear hs3 hH3 hD hDK
 refine A2 ?_
 have old:∀b o,s3.heap.get? b=ZA o->(Tu (s3.heap.push {cls:=.type "dict",data:=.dict #[]}) scope.names).get? b=ZA o:=λb o e=>Tv _ _ b o (N4 _ e)
 have hns₁:(Tu (s3.heap.push {cls:=.type "dict",data:=.dict #[]}) scope.names).Ns s3.heap.objs.size (λ_=>ZB):=(Heap.Ns.new s3.heap (.type "dict")).keeps (Tv _ _)
 have hz3:(s3.heap.push {cls:=.type "dict",data:=.dict #[]}).objs.size=s3.heap.objs.size+1:=Qr ..
 have lt0:∀x c,cl0.lookup x=ZA c->c<s3.heap.objs.size:=λx c e=>let ⟨_,ic⟩:=I3.cell x c (cl01 x c e);ic.lt
 obtain⟨c1,c2,c3,c4,c5⟩:=nH scope.names (s3.heap.push {cls:=.type "dict",data:=.dict #[]}) cl0 (λx y c e1 e2=>I3.ok.inj x y c (cl01 x c e1) (cl01 y c e2)) λx c e=>by rw[hz3];exact UE (lt0 x c e)
 rw[hz3]at c1 c2 c3 c4 c5
 generalize hcl':Qc (s3.heap.objs.size+1) scope.names cl0=cl at*
 generalize hh₁:Tu (s3.heap.push {cls:=.type "dict",data:=.dict #[]}) scope.names=h₁ at*
 have below:∀b o,s3.heap.get? b=ZA o->b≠s3.heap.objs.size:=λb o e=>Pr (N8 e)
 have cl1:∀x c,cl.lookup x=ZA c->X.env.cells.lookup x=ZA c\/(s3.heap.objs.size<c/\h₁.IsCell c ZB):=λx c e=>(c1 x c e).imp (cl01 x c) id
 generalize hC:s3.heap.objs.size=C at*
 have stk:∀b,b≠X.env.locals->b∉X.fs->b∉nF X.stack:=λb h1 h2 z=>(N0.mp (I3.Nn b z)).elim h1 h2
 have apart:∀b∈fp,∀x c,cl.lookup x=ZA c->c≠b:=λb hb x c e=>by
  rcases cl1 x c e with z|z
  ·exact(f3 b hb).2.2.2.2.1 x c z
  ·obtain⟨o,eo,_⟩:=T.obj _ _ st3 b hb
   have h1:=N8 eo;rw[hC]at h1;exact Sd (Nat.lt_trans h1 z.1)
 have I4:Inv (cm X scope cl N' C s3 H3 fp) lm (gy src σ) H3 {s3 with heap:=h₁}:=by
  refine⟨⟨I3.ok.mod,S.kind,I3.ok.glob,I3.ok.blt,RG hC,c2,λx hx=>?_,λx c hx e=>Rh (hC▸c5 x c (kI (beq_iff_eq.mp hx)) e),I3.ok.hd,I3.ok.frames,.inl rfl,
    λb hb=>⟨?_,λx c e=>apart b hb x c e⟩,I3.bs,O4 I3.ok.bsz I3.sz,λb o e z=>?_,λb hb=>stk b (f3 b hb).2.1 (f3 b hb).2.2.1,I3.stack,I3.M8⟩,
   rfl,I3.bare,Un.kept old,⟨_,hns₁,λj x v e1 e2 e3=>?_⟩,λx c e=>?_,I3.hok.fresh (RG hC),λx c e=>(cl1 x c e).elim (I3.freeC x c) λz=>I3.hok.fresh (by rw[hC];exact Rh z.1),λp hp=>?_,I3.hok.kept old,?_⟩
  ·have key:∀k,(relabel scope X.env).names.lookup x=ZA k->(k=.cell\/k=.free)->∃c,cl.lookup x=ZA c:=λk e hk=>by
    obtain⟨k',e',z⟩:=jV e
    have hk':k'=.cell\/k'=.free:=z.elim (λz=>z▸hk) .inr
    rcases hk' with q|q
    ·exact c4 x (.inl (q▸kI e'))
    ·exact c4 x (.inr (cl02 x (q▸kI e')))
   rcases hx with hx|hx
   ·exact key _ hx (.inl rfl)
   ·exact key _ hx (.inr rfl)
  ·obtain⟨o,eo,_⟩:=T.obj _ _ st3 b hb
   show b≠C
   exact below b o eo
  ·have z':b∈fp:=z
   obtain⟨_,_,_,z1,_⟩:=f3 b z';rcases z1 with z1|z1
   ·exact I3.ok.noex b o e z1
   ·exact absurd (Of (N8 (I3.ok.bs b o e).1) z1) (OA _)
  ·unfold gy at e2
   rw[Oj]at e2
   cases q:src[j]? with
   |none=>rw[q]at e2;simp at e2
   |some o=>
    rw[q]at e2
    cases o with
    |none=>simp at e2
    |some i=>
     have e2':(σ[i]?).join=ZA v:=by simpa using e2
     have e2'':σ[i]?=ZA (ZA v):=by
      cases q2:σ[i]? with
      |none=>rw[q2]at e2';simp at e2'
      |some z=>rw[q2]at e2';simp at e2';rw[e2']
     obtain⟨hN,hfree⟩:=S.from_ j i x q e1
     have hm:=kI hfree
     have hk:=S.free x hm;obtain⟨m,hn,hl⟩:=I3.loc
     have hv:lX X.env.scope x:=by
      rcases hk with z|z
      ·exact .inr (.inl z)
      ·exact .inr (.inr z)
     obtain⟨u,r,l⟩:=hl i x v hN e2'' hv;refine⟨u,r,.inr ⟨?_,?_⟩⟩
     ·exact jq hfree
     ·rcases l with⟨z,_⟩|⟨_,c,ec,ic⟩
      ·rcases hk with z'|z' <;> rw[z']at z <;> cases z
      ·obtain⟨c',ec0⟩:=cl02 x hm
       have ec':cl.lookup x=ZA c':=(c3 x λz=>by have:=S.cel _ z rfl;rw[hfree]at this;cases this).trans ec0
       have:=cl01 x c' ec0;rw[ec]at this;cases this;obtain⟨o,ho,hd⟩:=ic;exact⟨c,ec',o,old _ _ ho,hd⟩
  ·rcases cl1 x c e with z|z
   ·obtain⟨v,o,ho,hd⟩:=I3.cell x c z
    exact⟨v,o,old _ _ ho,hd⟩
   ·exact⟨ZB,z.2⟩
  ·obtain⟨e,n,ne,nf,d⟩:=I3.pin p hp
   exact⟨old _ _ e,n,below _ _ e,stk _ ne nf,d⟩
  ·show(gy src σ).length=N'.length
   unfold gy;rw[NW];exact S.len
 obtain⟨bG,bI,bE⟩:=block cl C s3 H3 fp
 have stat:∀{H':Hp},(∀b∈fp,H' b=ZB)->∀b∈fp,rk (cm X scope cl N' C s3 H3 fp) lm H' b:=λhn b hb=>by
  obtain⟨o,eo,_⟩:=T.obj _ _ st3 b hb;exact⟨hn b hb,below b o eo,stk b (f3 b hb).2.1 (f3 b hb).2.2.1,.inl hb,apart b hb,(f3 b hb).2.2.2.2.2⟩
 have st4:tn 0 h₁:=T.keep _ _ _ st3 λb hb o e=>old b o e
 have after:∀(H':Hp)(s':NV)(σ':St),Inv (cm X scope cl N' C s3 H3 fp) lm σ' H' s'->Q (.ref D) H' →
   compPost (ZK X.prog X.w) X.A X.xe use Qf (.ref D) C (.ok .next) s':=λH' s' σ' I' q=>by
  obtain⟨m,hn,_⟩:=id I'.loc
  have fC:X.s₀.heap.objs.size<=C:=by rw[<-hC];exact I3.sz
  have ltC:∀b o,s3.heap.get? b=ZA o->b<C:=λb o e=>by rw[<-hC];exact N8 e
  refine hend D C H' s' ⟨m,hn⟩ (λh' hsb=>?_) ⟨I'.free,?_,fC,λx c e z=>?_,λp hp z=>?_⟩ q
  rotate_left
  ·have:=I3.lt;rw[hC]at this;exact Sd this
  ·obtain⟨v,ic⟩:=I3.cell x c e
   have:=ic.lt;rw[hC,z]at this;exact OA _ this
  ·have:=ltC _ _ (I3.pin p hp).1;rw[z]at this;exact OA _ this
  have u:Un (nF X.stack) fp H3 H' s3.heap s'.heap:=I'.base
  have lift:∀b o,s3.heap.get? b=ZA o->∀o',s'.heap.get? b=ZA o'->h'.get? b=ZA o':=λb o e o' e'=>hsb.extBut b o' (below b o e) e'
  have u':Un (nF X.stack) fp H3 H' s3.heap h':=
   ⟨λb o e n hb hx=>lift b o e o (u.keep b o e n hb hx),λb o e n hb hx=>by
     obtain⟨sl,z⟩:=u.slot b o e n hb hx;exact⟨sl,lift b o e _ z⟩,u.free,λb o e hx=>by
     obtain⟨o',z⟩:=u.there b o e hx;exact⟨o',lift b o e _ z⟩,u.tups,u.frzs,u.tbls⟩
  have hCn:H' C=ZB:=I'.free
  have hok':HOk X.prog X.w H' h':=λb ob e=>by
   refine(I'.hok b ob e).Nc (λc w' hc' q'=>(hsb.2 c ?_).trans q') (λ_ q=>q) λ_ _ q=>q
   rintro rfl
   rcases hc' with rfl|hc'
   ·rw[hCn]at e;cases e
   ·rw[hCn]at hc';cases hc'
  have I5:Inv X lm σ H' {s' with heap:=h'}:=I3.Ng (s':={s' with heap:=h'}) (ch:=fp) I'.os u' hok' I'.bare λb hb=>⟨(f3 b hb).2.2.2.1,(f3 b hb).2.1,(f3 b hb).2.2.2.2.1,(f3 b hb).2.2.2.2.2⟩
  exact I5
 have loop:ZL (ZK X.prog X.w) X.A (.compLoop (.ListComp elt [⟨tg,iter,ifs,0⟩] scope pos) 0 (.ref it) (.ref D) (compEnvC scope cl C X.env))
   (compPost (ZK X.prog X.w) X.A X.xe use Qf (.ref D) C) {s3 with heap:=h₁}:=by
  refine ve (λn s'=>∃i σ' ys H',Inv (cm X scope cl N' C s3 H3 fp) lm σ' H' s'/\tn i s'.heap/\(∀b∈fp,H' b=ZB)/\W i n σ' ys H') ?_ m0 ⟨0,_,[],H3,I4,st4,fr3,w0⟩
  rintro n s5 ⟨i,σ5,ys,H5,I5,st5,fr5,w5⟩
  obtain⟨hDl,alt⟩:=turn i n σ5 ys H5 w5;rcases alt with⟨stop,qn⟩|⟨go,hlen,step⟩
  ·refine bW (T.done (cm X scope cl N' C s3 H3 fp) rfl rfl rfl hc i lm s5 σ5 H5 _ I5 (stat fr5) st5 stop) λr s6 ⟨hr,I6⟩=>?_
   subst hr;exact after H5 s6 σ5 I6 qn
  ·refine bW (T.item (cm X scope cl N' C s3 H3 fp) rfl rfl rfl hc i lm s5 σ5 H5 _ I5 (stat fr5) st5 go) λr s6 ⟨u,hr,h6⟩=>?_
   subst hr;refine bW h6 λ_ s7 hh_=>?_
   obtain⟨x,H7,I7,r7,y7,st7,fr7⟩:=hh_
   have I7':=I7.pinned (stat fr7) (T.obj _ _ st7);refine bW (bG _ s7 σ5 H7 x u _ I7' r7 (step x H7 y7)) λ_ s8 hh_=>?_
   obtain⟨σ8,H8,I8,q8⟩:=hh_;refine bW (bI _ s8 σ8 H8 _ I8 q8) λok s9 hh_=>?_
   obtain⟨H9,I9,q9⟩:=hh_
   have again:∀{σx:St}{Hx:Hp}{sx:NV}{ys':List V},Inv (cm X scope cl N' C s3 H3 fp) (lm++pT fp s7.heap) σx Hx sx->(∃m',m'<n/\W (i+1) m' σx ys' Hx) →
     ∃m,m<n/\∃i σ' ys H',Inv (cm X scope cl N' C s3 H3 fp) lm σ' H' sx/\tn i sx.heap/\(∀b∈fp,H' b=ZB)/\W i m σ' ys H':=λ{σx Hx sx ys'} Ix nx=>by
    obtain⟨m',hm,wx⟩:=nx;refine⟨m',hm,i+1,σx,ys',Hx,Ix.M7,T.keep _ _ _ st7 λb hb o e=>(Ix.pin (b,o) (Om _ (Om _ (iW hb e)))).1,λb hb=>?_,wx⟩
    obtain⟨o,e,d⟩:=T.obj _ _ st7 b hb;exact(Ix.pin (b,o) (Om _ (Om _ (iW hb e)))).2.1
   cases ok with
   |false=>
    rw[if_neg N9]at q9 ⊢
    exact again I9 q9
   |true=>
    rw[if_pos rfl]at q9 ⊢;refine bW (bE _ s9 σ8 H9 _ I9 q9) λv s10 hh_=>?_
    obtain⟨y,H10,I10,r10,hD10,q10⟩:=hh_;refine bW (nv _ s10 σ8 H10 (.ref D) [y] (.ref D) [v] (λ_ H'=>H'=upd H10 D (.lst (ys++[y]))) I10 rfl (.cons r10 .nil) ⟨D,ys,y,rfl,rfl,hD10,hlen,rfl⟩) λ_ s11 hh_=>?_
    obtain⟨_,H11,I11,_,e11⟩:=hh_;subst e11;exact again I11 q10
 exact codeAny_compStart_list loop (T.self _ 0 _ _ _ st4 loop)
def v8{src:List (Option Nat)}
  (hc:X.calm=ZC) (S:LcScope X scope N' src) (hi:PI X tg iter wi)
  (block:∀cl C s₀ H₀ fp,PG (cm X scope cl N' C s₀ H₀ fp) tg g/\BK (cm X scope cl N' C s₀ H₀ fp) ifs tc/\PE (cm X scope cl N' C s₀ H₀ fp) elt te)
  (hs:autoParam (∀x,OZ iter X.env x=pure x) t_):
  PE X (.ListComp elt [⟨tg,iter,ifs,0⟩] scope pos) (Iz X.K wi src g tc te):=by
 intro lm s σ H Q I h;rw[eval_ListComp];exact zV (use:=ZB) hc S hi block hs I h λD C H' s' ⟨m,hn⟩ inv _ q=>⟨m,hn,λh' hsb=>⟨.ref D,H',inv h' hsb,rfl,q⟩⟩
def LD{py spos:Pos}{src:List (Option Nat)}{i:Nat}{y:Str}
  (hc:X.calm=ZC) (S:LcScope X scope N' src) (hi:PI X tg iter wi)
  (block:∀cl C s₀ H₀ fp,PG (cm X scope cl N' C s₀ H₀ fp) tg g/\BK (cm X scope cl N' C s₀ H₀ fp) ifs tc/\PE (cm X scope cl N' C s₀ H₀ fp) elt te)
  (hN:X.N.Nodup) (hiy:X.N[i]?=ZA y) (hy:Loc X.env.scope y) (hsw:OQ (.ListComp elt [⟨tg,iter,ifs,0⟩] scope pos) (ZA (.Name y py)) spos.line X.env=pure ZC)
  (hf:X.fn y=ZC\/X.env.scope.names.lookup y=ZA .local) (hs:autoParam (∀x,OZ iter X.env x=pure x) t_):
  PS X (.Assign [.Name y py] (.ListComp elt [⟨tg,iter,ifs,0⟩] scope pos) spos) (Cn (Iz X.K wi src g tc te) (Ee i)):=by
 intro lm s σ H D I h;rw[exec_Assign_Name_used _ _ _ _ hsw];refine NY (wpAny_standAt (NY ?_))
 show ZJ (ZK X.prog X.w) X.A (do let _ <-comprehension (.ListComp elt [⟨tg,iter,ifs,0⟩] scope pos) scope X.env _ (newList []) ZD (eval iter X.env) (ZA (assign (.Name y py) X.env))) _ _ s
 refine NY (bW (zV (use:=ZA (assign (.Name y py) X.env)) (Qf:=λ_ s'=>SP X lm D .next s') (Q:=λv H'=>D.nx (σ.set i (ZA v)) H') hc S hi block hs I h λL C H' s' ⟨m,hn⟩ inv ⟨c0,c1,c2,c3,c4⟩ q=>?_) λ_ s' hq=>Oe (Oe hq))
 have I0:Inv X lm σ H' s':=inv s'.heap (Heap.SameBut.refl ..)
 show ZJ (ZK X.prog X.w) X.A (assign (.Name y py) X.env (.ref L)) _ _ s'
 refine UM (sj I0 hN hiy hy (v:=.ref L) rfl (λs2 I2 ⟨b,sb,hb⟩=>?_) hf)
 have hbC:C≠b:=by
  rcases hb with z|z
  ·rw[z];exact c1
  ·exact λw=>c3 y b z w.symm
 refine⟨m,hn.sameBut sb hbC,λh' hsb=>?_⟩
 exact⟨_,H',I2.turned (t':=s2.toks) (λb' o hb' e=>(hsb.2 b' hb').trans e) c0 c1 (.inr c2) c3 c4,q⟩
end L2
namespace Tr
open PySem PySem.Spec PyProof.Rows L2
def bO(K:NQ)(c:Str):ZE:=match Rf K OJ c with
 |some (ZA (.ref C))=>C
 |_=>0
def HM:T->Option Key
 |.int i=>ZA (.inl i)
 |.str x=>ZA (.inr x)
 |_=>ZB
def qJ:List T->Option (List Key)
 |[] =>ZA []
 |t::l=>match HM t,qJ l with
  |some k,ZA r=>ZA (k::r)
  |_,_=>ZB
def keyOf:T->Option (List Key)
 |.tup l=>qJ l
 |_=>ZB
inductive Rs (α:Type) where
 |ok (a:α)|err (c:Str)|bad
noncomputable def Rs.bind{α β:Type}(x:Rs α)(f:α->Rs β):Rs β:=match x with
 |.ok a=>f a
 |.err c=>.err c
 |.bad=>.bad
noncomputable instance:Monad Rs where
 pure:=Rs.ok
 bind:=Rs.bind
@[simp] theorem ay {α β:Type} (a:α) (f:α->Rs β):(Rs.ok a >>= f)=f a:=rfl
@[simp] theorem MO {α:Type} (a:α):(pure a:Rs α)=Rs.ok a:=rfl
@[simp] theorem MG {α β:Type} (f:α->Rs β):((Rs.bad:Rs α) >>= f)=.bad:=rfl
@[simp] theorem Mz {α β:Type} (c:Str) (f:α->Rs β):((Rs.err c:Rs α) >>= f)=.err c:=rfl
abbrev Ow:=ZE->Prop
mutual
def Rep(K:NQ)(O:Ow)(H:Hp):T->V->Prop
 |.non,v=>v=.non
 |.bl b,v=>v=.bl b
 |.int i,v=>v=.int i
 |.str x,v=>v=.str x
 |.tup l,v=>∃a vs,v=.ref a/\¬ O a/\H a=ZA (.tup vs)/\Reps K O H l vs
 |.lst l,v=>∃a vs,v=.ref a/\¬ O a/\H a=ZA (.lst vs)/\Reps K O H l vs
 |.scr l,v=>∃a,v=.ref a/\¬ O a/\SqL K H a (l.map V.int)
 |.dct ks ts,v=>∃a kvs,v=.ref a/\¬ O a/\Rd H a (.dT kvs)/\ks.map keyOf=kvs.map (λp=>ZA p.1)/\Reps K O H ts (kvs.map (·.2))
 |.ob C ns ts,v=>∃a dx fs,v=.ref a/\¬ O a/\H a=ZA (.ins (bO K C) dx fs)/\fs.map (·.1)=ns/\Reps K O H ts (fs.map (·.2))
def Reps(K:NQ)(O:Ow)(H:Hp):List T->List V->Prop
 |[],vs=>vs=[]
 |t::r,vs=>∃v ws,vs=v::ws/\Rep K O H t v/\Reps K O H r ws
end
def SameO(P:Ow)(H H':Hp):Prop:=∀b o,H b=ZA o->¬ P b->H' b=ZA o
variable{H H':Hp}{P:Ow}
def SameO.of(h:Same H H'):SameO P H H':=λb o e _=>h b o e
variable{a:ZE}
def Rd.Nx{u:HO}(h:SameO P H H')(n:¬ P a)(q:Rd H a u):Rd H' a u:=q.elim (λe=>.inl (h _ _ e n)) λ⟨o,e⟩=>.inr ⟨o,h _ _ e n⟩
variable{vs:List V}
def SqL.keep(h:SameO P H H')(n:¬ P a)(q:SqL K H a vs):SqL K H' a vs:=by
 rcases q with(q|⟨o,q⟩)|q
 ·exact .inl (.inl (h _ _ q n))
 ·exact .inl (.inr ⟨o,h _ _ q n⟩)
 ·exact .inr q
mutual
theorem Rep.keep{K:NQ}{O P:Ow}{H H':Hp}(h:SameO P H H')(sub:∀a,P a->O a):∀{t:T}{v:V},Rep K O H t v->Rep K O H' t v
 |.non,_,r=>by unfold Rep at r ⊢;exact r
 |.bl _,_,r=>by unfold Rep at r ⊢;exact r
 |.int _,_,r=>by unfold Rep at r ⊢;exact r
 |.str _,_,r=>by unfold Rep at r ⊢;exact r
 |.tup l,_,r=>by
  unfold Rep at r ⊢;obtain⟨a,vs,e,n,q,z⟩:=r
  exact⟨a,vs,e,n,h _ _ q (λp=>n (sub a p)),Reps.keep h sub z⟩
 |.lst l,_,r=>by
  unfold Rep at r ⊢;obtain⟨a,vs,e,n,q,z⟩:=r
  exact⟨a,vs,e,n,h _ _ q (λp=>n (sub a p)),Reps.keep h sub z⟩
 |.scr l,_,r=>by
  unfold Rep at r ⊢;obtain⟨a,e,n,q⟩:=r
  exact⟨a,e,n,SqL.keep h (λp=>n (sub a p)) q⟩
 |.dct ks ts,_,r=>by
  unfold Rep at r ⊢;obtain⟨a,kvs,e,n,q,k,z⟩:=r
  exact⟨a,kvs,e,n,Rd.Nx h (λp=>n (sub a p)) q,k,Reps.keep h sub z⟩
 |.ob C ns ts,_,r=>by
  unfold Rep at r ⊢;obtain⟨a,dx,fs,e,n,q,k,z⟩:=r;exact⟨a,dx,fs,e,n,h _ _ q (λp=>n (sub a p)),k,Reps.keep h sub z⟩
theorem Reps.keep{K:NQ}{O P:Ow}{H H':Hp}(h:SameO P H H')(sub:∀a,P a->O a):∀{l:List T}{vs:List V},Reps K O H l vs->Reps K O H' l vs
 |[],_,r=>by unfold Reps at r ⊢;exact r
 |t::l,_,r=>by
  unfold Reps at r ⊢;obtain⟨v,ws,e,p,q⟩:=r;exact⟨v,ws,e,Rep.keep h sub p,Reps.keep h sub q⟩
end
mutual
theorem Rep.less{K:NQ}{O O':Ow}{H:Hp}(sub:∀a,O' a->O a):∀{t:T}{v:V},Rep K O H t v->Rep K O' H t v
 |.non,_,r=>by unfold Rep at r ⊢;exact r
 |.bl _,_,r=>by unfold Rep at r ⊢;exact r
 |.int _,_,r=>by unfold Rep at r ⊢;exact r
 |.str _,_,r=>by unfold Rep at r ⊢;exact r
 |.tup l,_,r=>by
  unfold Rep at r ⊢;obtain⟨a,vs,e,n,q,z⟩:=r
  exact⟨a,vs,e,λp=>n (sub a p),q,Reps.less sub z⟩
 |.lst l,_,r=>by
  unfold Rep at r ⊢;obtain⟨a,vs,e,n,q,z⟩:=r
  exact⟨a,vs,e,λp=>n (sub a p),q,Reps.less sub z⟩
 |.scr l,_,r=>by
  unfold Rep at r ⊢;obtain⟨a,e,n,z⟩:=r
  exact⟨a,e,λp=>n (sub a p),z⟩
 |.dct ks ts,_,r=>by
  unfold Rep at r ⊢;obtain⟨a,kvs,e,n,q,k,z⟩:=r
  exact⟨a,kvs,e,λp=>n (sub a p),q,k,Reps.less sub z⟩
 |.ob C ns ts,_,r=>by
  unfold Rep at r ⊢;obtain⟨a,dx,fs,e,n,q,k,z⟩:=r;exact⟨a,dx,fs,e,λp=>n (sub a p),q,k,Reps.less sub z⟩
theorem Reps.less{K:NQ}{O O':Ow}{H:Hp}(sub:∀a,O' a->O a):∀{l:List T}{vs:List V},Reps K O H l vs->Reps K O' H l vs
 |[],_,r=>by unfold Reps at r ⊢;exact r
 |t::l,_,r=>by
  unfold Reps at r ⊢;obtain⟨v,ws,e,p,q⟩:=r;exact⟨v,ws,e,Rep.less sub p,Reps.less sub q⟩
end
variable{O:Ow}{l ts:List T}{v:V}
section
variable {t:T}
def Rep.same(h:Same H H')(r:Rep K O H t v):Rep K O H' t v:=Rep.keep (P:=λ_=>False) (SameO.of h) (λ_ z=>z.elim) r
def Reps.same(h:Same H H')(r:Reps K O H l vs):Reps K O H' l vs:=Reps.keep (P:=λ_=>False) (SameO.of h) (λ_ z=>z.elim) r
def Rep.Nq:Rep K O H .non .non:=by unfold Rep;rfl
def Rep.bl_(b:Bool):Rep K O H (.bl b) (.bl b):=by unfold Rep;rfl
def Rep.Gc(i:Int):Rep K O H (.int i) (.int i):=by unfold Rep;rfl
def Rep.Nz(x:Str):Rep K O H (.str x) (.str x):=by unfold Rep;rfl
def Rep.Fk:Rep K O H (.tup l) v↔ ∃a vs,v=.ref a/\¬ O a/\H a=ZA (.tup vs)/\Reps K O H l vs:=by unfold Rep;exact Rn
def Rep.Do:Rep K O H (.lst l) v↔ ∃a vs,v=.ref a/\¬ O a/\H a=ZA (.lst vs)/\Reps K O H l vs:=by unfold Rep;exact Rn
def Rep.IR{ks:List T}:Rep K O H (.dct ks ts) v↔ ∃a kvs,v=.ref a/\¬ O a/\Rd H a (.dT kvs)/\ks.map keyOf=kvs.map (λp=>ZA p.1)/\Reps K O H ts (kvs.map (·.2)):=by unfold Rep;exact Rn
def Rep.Nh{C:Str}{ns:List Str}:Rep K O H (.ob C ns ts) v↔ ∃a dx fs,v=.ref a/\¬ O a/\H a=ZA (.ins (bO K C) dx fs)/\fs.map (·.1)=ns/\Reps K O H ts (fs.map (·.2)):=by unfold Rep;exact Rn
def Rep.AC:Rep K O H (.int i) v↔v=.int i:=by unfold Rep;exact Rn
def Rep.FM:Rep K O H (.bl b) v↔v=.bl b:=by unfold Rep;exact Rn
def Rep.GM{b:Str}:Rep K O H (.str b) v↔v=.str b:=by unfold Rep;exact Rn
def Rep.KB:Rep K O H .non v↔v=.non:=by unfold Rep;exact Rn
def Reps.GE:Reps K O H [] []:=by unfold Reps;rfl
def Reps.FS(r:Rep K O H t v)(q:Reps K O H l vs):Reps K O H (t::l) (v::vs):=by unfold Reps;exact⟨v,vs,rfl,r,q⟩
def Reps.Da:Reps K O H [] vs↔vs=[]:=by unfold Reps;exact Rn
def Reps.me:Reps K O H (t::l) vs↔ ∃v ws,vs=v::ws/\Rep K O H t v/\Reps K O H l ws:=by
 constructor
 ·intro h;unfold Reps at h;exact h
 ·intro h;unfold Reps;exact h
end
theorem Reps.length:∀{l:List T}{vs:List V},Reps K O H l vs->l.length=vs.length
 |[],vs,r=>by rw[Reps.Da.mp r];rfl
 |t::l,vs,r=>by
  obtain⟨v,ws,rfl,_,q⟩:=Reps.me.mp r;simp[q.length]
theorem Reps.get:∀{l:List T}{vs:List V}{i:Nat}{t:T},Reps K O H l vs->l[i]?=ZA t->∃v,vs[i]?=ZA v/\Rep K O H t v
 |[],_,_,_,_,e=>by simp at e
 |t::l,vs,i,u,r,e=>by
  obtain⟨v,ws,rfl,p,q⟩:=Reps.me.mp r
  cases i with
  |zero=>simp at e;subst e;exact⟨v,rfl,p⟩
  |succ i=>
   obtain⟨z,e1,e2⟩:=q.get (i:=i) (t:=u) (by simpa using e)
   exact⟨z,by simpa using e1,e2⟩
theorem Reps.append:∀{l m:List T}{vs ws:List V},Reps K O H l vs->Reps K O H m ws->Reps K O H (l++m) (vs++ws)
 |[],_,vs,_,r,s=>by rw[Reps.Da.mp r];exact s
 |t::l,m,vs,ws,r,s=>by
  obtain⟨v,us,rfl,p,q⟩:=Reps.me.mp r;exact Reps.FS p (q.append s)
theorem Reps.take:∀{l:List T}{vs:List V}(n:Nat),Reps K O H l vs->Reps K O H (l.take n) (vs.take n)
 |_,_,0,_=>Reps.GE
 |[],vs,n+1,r=>by rw[Reps.Da.mp r];exact Reps.GE
 |t::l,vs,n+1,r=>by
  obtain⟨v,us,rfl,p,q⟩:=Reps.me.mp r;exact Reps.FS p (q.take n)
theorem Reps.drop:∀{l:List T}{vs:List V}(n:Nat),Reps K O H l vs->Reps K O H (l.drop n) (vs.drop n)
 |_,_,0,r=>r
 |[],vs,n+1,r=>by rw[Reps.Da.mp r];exact Reps.GE
 |t::l,vs,n+1,r=>by
  obtain⟨v,us,rfl,p,q⟩:=Reps.me.mp r;exact q.drop n
theorem Reps.ints:∀{ns:List Int},Reps K O H (ns.map T.int) (ns.map V.int)
 |[] =>Reps.GE
 |n::r=>Reps.FS (Rep.Gc n) Reps.ints
def RowsR(K:NQ)(O:Ow)(H:Hp):List (List T×List T)->List ZE->Prop
 |[],as=>as=[]
 |r::rs,as=>∃b bs kvs,as=b::bs/\H b=ZA (.dT kvs)/\r.1.map keyOf=kvs.map (λp=>ZA p.1)/\Reps K O H r.2 (kvs.map (·.2))/\RowsR K O H rs bs
def LsR(K:NQ)(O:Ow)(H:Hp):List (List T)->List ZE->Prop
 |[],as=>as=[]
 |l::ls,as=>∃b bs vs,as=b::bs/\H b=ZA (.lst vs)/\Reps K O H l vs/\LsR K O H ls bs
def ORep(K:NQ)(O M:Ow)(H:Hp):OT->V->Prop
 |.lst l,v=>∃a vs,v=.ref a/\(∀b,M b↔b=a)/\H a=ZA (.lst vs)/\Reps K O H l vs
 |.dct ks ts,v=>∃a kvs,v=.ref a/\(∀b,M b↔b=a)/\H a=ZA (.dT kvs)/\ks.map keyOf=kvs.map (λp=>ZA p.1)/\Reps K O H ts (kvs.map (·.2))
 |.dd ks rows,v=>∃a kvs as,v=.ref a/\(∀b,M b↔b=a\/b∈as)/\a∉as/\as.Nodup/\H a=ZA (.dT kvs)/\ks.map keyOf=kvs.map (λp=>ZA p.1)/\kvs.map (·.2)=as.map V.ref/\RowsR K O H rows as
 |.ob C ns ls,v=>∃a dx as,v=.ref a/\(∀b,M b↔b=a\/b=dx\/b∈as)/\(a∉as/\dx∉as/\dx≠a/\as.Nodup)/\H a=ZA (.ins (bO K C) dx (ns.zip (as.map V.ref)))/\H dx=ZA (.own a)/\ns.length=as.length/\ns.Nodup/\LsR K O H ls as
inductive Sl where
 |em|va (t:T)|ow (o:OT)
abbrev En:=List Sl
abbrev V6:=En->Rs Bool
abbrev V5:=En->Rs T
abbrev V3:=En->Rs (List T)
abbrev Mn:=Nat->Ow
def Mn.u(M:Mn):Ow:=λa=>∃i,M i a
def isO:HO->Bool
 |.ins _ _ _=>ZC
 |.own _=>ZC
 |_=>ZD
def Mtb(H:Hp)(a:ZE):Prop:=(∃vs,H a=ZA (.lst vs))\/(∃kvs,H a=ZA (.dT kvs))\/∃o,H a=ZA o/\isO o=ZC
def Mtb.some(h:Mtb H a):∃o,H a=ZA o:=by
 rcases h with⟨_,e⟩|⟨_,e⟩|⟨_,e,_⟩ <;> exact⟨_,e⟩
def Mtb.at(s:∀o,H a=OR o->H' a=OR o)(h:Mtb H a):Mtb H' a:=by
 rcases h with⟨vs,e⟩|⟨k,e⟩|⟨o,e,q⟩
 ·exact .inl ⟨vs,s _ e⟩
 ·exact .inr (.inl ⟨k,s _ e⟩)
 ·exact .inr (.inr ⟨o,s _ e,q⟩)
def Mtb.same(s:Same H H')(h:Mtb H a):Mtb H' a:=h.at λo e=>s a o e
structure EnvM (K:NQ)(O:Ow)(M:Mn)(H:Hp)(Z:En)(σ:L2.St):Prop where
 len:Z.length=σ.length
 val:∀(i:Nat)(t:T),Z[i]?=ZA (.va t)->∃v,σ[i]?=ZA (ZA v)/\Rep K O H t v
 own:∀(i:Nat)(o:OT),Z[i]?=ZA (.ow o)->∃v,σ[i]?=ZA (ZA v)/\ORep K O (M i) H o v
 sub:∀(i:Nat)(a:ZE),M i a->O a
 dis:∀(i j:Nat)(a:ZE),M i a->M j a->i=j
 trk:∀(a:ZE),O a->Mtb H a
theorem RowsR.same(h:Same H H'):∀{rs:List (List T×List T)}{as:List ZE},RowsR K O H rs as->RowsR K O H' rs as
 |[],_,r=>r
 |_::_,_,⟨b,bs,kvs,e1,e2,e3,e4,e5⟩=>⟨b,bs,kvs,e1,h _ _ e2,e3,e4.same h,e5.same h⟩
theorem LsR.same(h:Same H H'):∀{ls:List (List T)}{as:List ZE},LsR K O H ls as->LsR K O H' ls as
 |[],_,r=>r
 |_::_,_,⟨b,bs,vs,e1,e2,e3,e4⟩=>⟨b,bs,vs,e1,h _ _ e2,e3.same h,e4.same h⟩
theorem ORep.same{M:Ow}(h:Same H H'){o:OT}(r:ORep K O M H o v):ORep K O M H' o v:=by
 cases o with
 |lst l=>obtain⟨a,vs,e1,e2,e3,e4⟩:=r;exact⟨a,vs,e1,e2,h _ _ e3,e4.same h⟩
 |dct ks ts=>obtain⟨a,kvs,e1,e2,e3,e4,e5⟩:=r;exact⟨a,kvs,e1,e2,h _ _ e3,e4,e5.same h⟩
 |dd ks rows=>obtain⟨a,kvs,as,e1,e2,e3,e4,e5,e6,e7,e8⟩:=r;exact⟨a,kvs,as,e1,e2,e3,e4,h _ _ e5,e6,e7,e8.same h⟩
 |ob C ns ls=>obtain⟨a,dx,as,e1,e2,e3,e4,e5,e6,e7,e8⟩:=r;exact⟨a,dx,as,e1,e2,e3,h _ _ e4,h _ _ e5,e6,e7,e8.same h⟩
variable{Z:En}{σ:L2.St}
theorem EnvM.same{M:Mn}(h:Same H H')(e:EnvM K O M H Z σ):EnvM K O M H' Z σ where
 len:=e.len
 val:=λi t q=>let ⟨v,e1,e2⟩:=e.val i t q;⟨v,e1,e2.same h⟩
 own:=λi o q=>let ⟨v,e1,e2⟩:=e.own i o q;⟨v,e1,e2.same h⟩
 sub:=e.sub
 dis:=e.dis
 trk:=λa q=>(e.trk a q).same h
def EnvO(K:NQ)(O:Ow)(H:Hp)(Z:En)(σ:L2.St):Prop:=∃M,EnvM K O M H Z σ
variable{p:ZE}
theorem EnvO.val(e:EnvO K O H Z σ)(i:Nat)(t:T)(q:Z[i]?=ZA (.va t)):∃v,σ[i]?=ZA (ZA v)/\Rep K O H t v:=e.elim λ_ e=>e.val i t q
def EnvO.mtb(e:EnvO K O H Z σ):∀a,O a->Mtb H a:=e.elim λ_ e=>e.trk
def EnvO.trk(e:EnvO K O H Z σ)(a:ZE)(z:O a):∃o,H a=ZA o:=(e.mtb a z).some
theorem EnvO.same(h:Same H H')(e:EnvO K O H Z σ):EnvO K O H' Z σ:=e.elim λM e=>⟨M,e.same h⟩
def EnvO.fresh(e:EnvO K O H Z σ)(h:H p=ZB):¬ O p:=λz=>by
 obtain⟨o,q⟩:=e.trk p z;rw[h]at q;cases q
def MJ(h:ZH)(C e:ZE):Option ZE->Prop
 |none=>∃oe vs,h.get? e=ZA oe/\oe.cls=.ref C/\oe.data=.fields vs/\vs[1]?=ZA .none
 |some T=>T≠e/\∃oe vs,h.get? e=ZA oe/\oe.cls=.ref C/\oe.data=.fields vs/\vs[1]?=ZA (.ref T)/\∃oT ts,h.get? T=ZA oT/\oT.data=.fields ts/\ts[3]?=ZA .none
def RzP(X:Cx)(lm:V2)(P:Ow)(H:Hp)(c:Str)(ev:NS)(s':NV):Prop:=
 ∃e T C σ' H',ev=.ref e/\X.mg c=ZA (.ref C)/\Inv X lm σ' H' s'/\SameO P H H'/\H' e=ZB/\(X.ex=[]->X.s₀.heap.get? e=ZB)/\MJ s'.heap C e T/\(∀t,T=ZA t->H' t=ZB/\(X.ex=[]->X.s₀.heap.get? t=ZB))/\∀p∈X.pn++lm,p.1≠e/\T≠ZA p.1
def Nw(K:NQ)(H:Hp):Ow:=λa=>H a=ZB/\K.lookup a=ZB
variable{H1:Hp}
def g8(h:SameO P H H1)(n:Nw K H1 a):P a\/Nw K H a:=by
 by_cases hp:P a
 ·exact .inl hp
 ·refine .inr ⟨?_,n.2⟩
  cases q:H a with
  |none=>rfl
  |some o=>have:=h a o q hp;rw[n.1]at this;cases this
def SameO.trans{P1:Ow}{H2:Hp}(h:SameO P H H1)(h1:SameO P1 H1 H2)(sub:∀a,P1 a->P a\/Nw K H a):SameO P H H2:=λb o e n=>
 h1 b o (h b o e n) λz=>(sub b z).elim n λw=>by rw[w.1]at e;cases e
def XA(X:Cx)(P:Ow)(H:Hp)(c:Str):Prop:=∀lm ev s',RzP X lm P H c ev s'->X.xe ev s'
variable{X:Cx}
def XA.later{P1:Ow}{c:Str}(h:XA X P H c)(s:SameO P H H1)(sub:∀a,P1 a->P a\/Nw X.K H a):XA X P1 H1 c:=λlm ev s' ⟨e,T,C,σ',H',a1,a2,a3,a4,a5⟩=>
 h lm ev s' ⟨e,T,C,σ',H',a1,a2,a3,s.trans a4 sub,a5⟩
abbrev lq:Ow:=λ_=>False
def Post{α:Type}(X:Cx)(H:Hp)(r:Rs α)(k:α->Hp->Prop):Prop:=match r with
 |.ok t=>∀H',Same H H'->k t H'
 |.err c=>XA X lq H c
 |.bad=>False
def Post.mono{r:Rs α}{k k':α->Hp->Prop}(h:Post X H r k)(f:∀t H',Same H H'->k t H'->k' t H'):Post X H r k':=by
 cases r with
 |ok t=>exact λH' s=>f t H' s (h H' s)
 |err c=>exact h
 |bad=>exact h
theorem Post.later{r:Rs α}{k:α->Hp->Prop}(h:Post X H r k)(s:Same H H1):Post X H1 r k:=by
 cases r with
 |ok t=>exact λH' s'=>h H' (s.trans s')
 |err c=>exact XA.later h (SameO.of s) λ_ z=>z.elim
 |bad=>exact h
def Post.bind{r:Rs α}{f:α->Rs β}{k:β->Hp->Prop}(h:Post X H (r >>= f) k):Post X H r λt H'=>Post X H' (f t) k:=by
 cases r with
 |ok t=>exact λH' s=>Post.later h s
 |err c=>exact h
 |bad=>exact h
def tP(X:Cx)(f:V5):TE:=λσ H Q=>∃Z O,EnvO X.K O H Z σ/\Post X H (f Z) λt H'=>∀v,Rep X.K O H' t v->Q v H'
def tPA(X:Cx)(f:V3):TA:=λσ H Q=>∃Z O,EnvO X.K O H Z σ/\Post X H (f Z) λt H'=>∀v,Reps X.K O H' t v->Q v H'
def Ck(X:Cx)(f:V6):TT:=λσ H Q=>∃Z O,EnvO X.K O H Z σ/\Post X H (f Z) λb H'=>Q b H'
abbrev cE(X:Cx)(e:ZG)(f:V5):Prop:=PE X e (tP X f)
abbrev pk(X:Cx)(e:List ZG)(f:V3):Prop:=PA X e (tPA X f)
abbrev tE(X:Cx)(e:ZG)(f:V6):Prop:=PT X e (Ck X f)
variable{e:ZG}
def PE.imp{t t':TE}(h:PE X e t)(w:∀σ H Q,t' σ H Q->t σ H Q):PE X e t':=λlm s σ H Q I q=>h lm s σ H Q I (w σ H Q q)
def PA.imp{e:List ZG}{t t':TA}(h:PA X e t)(w:∀σ H Q,t' σ H Q->t σ H Q):PA X e t':=λpos lm s σ H Q I q=>h pos lm s σ H Q I (w σ H Q q)
def PT.imp{t t':TT}(h:PT X e t)(w:∀σ H Q,t' σ H Q->t σ H Q):PT X e t':=λlm s σ H Q I q=>h lm s σ H Q I (w σ H Q q)
def PS.imp{e:ZF}{t t':TS}(h:PS X e t)(w:∀D σ H,t' D σ H->t D σ H):PS X e t':=λlm s σ H D I q=>h lm s σ H D I (w D σ H q)
def PSs.imp{e:List ZF}{t t':TS}(h:PSs X e t)(w:∀D σ H,t' D σ H->t D σ H):PSs X e t':=λlm s σ H D I q=>h lm s σ H D I (w D σ H q)
variable{es:List ZG}{f:V3}{pos:Pos}{x:Str}
def aZ{f:V5}{k:T->Rs α}{Q:α->Hp->Prop}(E:EnvO X.K O H Z σ)(h:Post X H (f Z >>= k) Q):
  tP X f σ H λv H'=>∃t,Rep X.K O H' t v/\Same H H'/\EnvO X.K O H' Z σ/\Post X H' (k t) Q:=
 ⟨Z,O,E,Post.mono h.bind λt H' s q v r=>⟨t,r,s,E.same s,q⟩⟩
def fV{k:List T->Rs α}{Q:α->Hp->Prop}(E:EnvO X.K O H Z σ)(h:Post X H (f Z >>= k) Q):
  tPA X f σ H λv H'=>∃t,Reps X.K O H' t v/\Same H H'/\EnvO X.K O H' Z σ/\Post X H' (k t) Q:=
 ⟨Z,O,E,Post.mono h.bind λt H' s q v r=>⟨t,r,s,E.same s,q⟩⟩
def lY{f:V6}{k:Bool->Rs α}{Q:α->Hp->Prop}(E:EnvO X.K O H Z σ)(h:Post X H (f Z >>= k) Q):
  Ck X f σ H λb H'=>Same H H'/\EnvO X.K O H' Z σ/\Post X H' (k b) Q:=
 ⟨Z,O,E,Post.mono h.bind λt H' s q=>⟨s,E.same s,q⟩⟩
noncomputable def vr(i:Nat)(Z:En):Rs T:=match Z[i]? with
 |some (.va t)=>.ok t
 |_=>.bad
def cn(t:T)(_:En):Rs T:=.ok t
def Ln(i:Nat)(hN:X.N[i]?=ZA x:=by rfl)(hv:autoParam (lX X.env.scope x) u_)(hd:autoParam ((x == ("__debug__" : Str))=ZD) s_)
  (hcd:autoParam ((x == ("__classdict__" : Str))=ZD) s_):cE X (.Name x pos) (vr i):=PE.imp (eG hN hv hd hcd) λσ H Q hh_=>by
 obtain⟨Z,O,E,h⟩:=hh_;unfold vr at h
 split at h
 ·rename_i t e
  obtain⟨v,e1,e2⟩:=E.val i t e;exact⟨v,e1,h H (Same.refl H) v e2⟩
 ·exact h.elim
def Lx{i j pos}:cE X (.Constant (.int i) j pos) (cn (.int i)):=PE.imp C1 λσ H Q ⟨Z,O,E,h⟩=>h H (Same.refl H) _ (Rep.Gc i)
def q_bl{i j pos}:cE X (.Constant (.bool i) j pos) (cn (.bl i)):=PE.imp C4 λσ H Q ⟨Z,O,E,h⟩=>h H (Same.refl H) _ (Rep.bl_ i)
def Ls{j pos}:cE X (.Constant .none j pos) (cn .non):=PE.imp CZ λσ H Q ⟨Z,O,E,h⟩=>h H (Same.refl H) _ Rep.Nq
def Lp{i j pos}:cE X (.Constant (.str i) j pos) (cn (.str i)):=PE.imp CW λσ H Q ⟨Z,O,E,h⟩=>h H (Same.refl H) _ (Rep.Nz i)
def Jf{u:NS}(hm:X.mg x=ZA u)(r:RelV (.int i) u)(hg:Gl X x:=by rfl)(hd:autoParam ((x == ("__debug__" : Str))=ZD) s_):cE X (.Name x pos) (cn (.int i)):=
 PE.imp (zH hg hm r hd) λσ H Q ⟨Z,O,E,h⟩=>h H (Same.refl H) _ (Rep.Gc i)
def aj(_:En):Rs (List T):=.ok []
def ae(f:V5)(g:V3)(Z:En):Rs (List T):=do
 let t <-f Z
 let r <-g Z
 .ok (t::r)
def Je:pk X [] aj:=PA.imp d6 λσ H Q ⟨Z,O,E,h⟩=>h H (Same.refl H) _ Reps.GE
def F8{f:V5}{g:V3}(he:cE X e f)(hr:pk X es g)(hs:N5 (e::es) X.env=(ZD,eval e X.env)::N5 es X.env:=by rfl):pk X (e::es) (ae f g):=by
 intro pos lm s σ H Q I h;obtain⟨Z,O,E,h⟩:=h;refine bz he hr hs pos lm s σ H Q I ?_
 obtain⟨Z1,O1,E1,h1⟩:=aZ E h;refine⟨Z1,O1,E1,Post.mono h1 λt H' s q v r=>?_⟩
 obtain⟨t',r',s',E',q'⟩:=q v r;refine⟨Z,O,E',Post.mono q'.bind λts H2 s2 q2 vs rs=>?_⟩
 exact q2 H2 (Same.refl H2) _ (Reps.FS (r'.same s2) rs)
variable{g:T->T->Rs T}
section
def lz(l:List T):Rs T:=if l.length<=ZI then .ok (.tup l)else .bad
def lA(l:List T):Rs T:=if l.length<=ZI then .ok (.lst l)else .bad
def aP(f:V3)(Z:En):Rs T:=f Z >>= lz
def de(f:V3)(Z:En):Rs T:=f Z >>= lA
def bh(h:H p=ZB)(o:HO):Same H (upd H p o):=λb u q=>by rw[aG (cy q h)];exact q
def iD(h:H p=ZB)(n:¬ O p)(r:Reps K O H l vs):Rep K O (upd H p (.tup vs)) (.tup l) (.ref p):=
 Rep.Fk.mpr ⟨p,vs,rfl,n,aJ,r.same (bh h _)⟩
def mj(h:H p=ZB)(n:¬ O p)(r:Reps K O H l vs):Rep K O (upd H p (.lst vs)) (.lst l) (.ref p):=
 Rep.Do.mpr ⟨p,vs,rfl,n,aJ,r.same (bh h _)⟩
def Lo{pos:Pos}(h:pk X es f):cE X (.Tuple es x1 pos) (aP f):=by
 intro lm s σ H Q I ⟨Z,O,E,hq⟩;refine ui h lm s σ H Q I ?_
 obtain⟨Z1,O1,E1,h1⟩:=fV E hq;refine⟨Z1,O1,E1,Post.mono h1 λts H1 s1 q vs r=>?_⟩
 obtain⟨t',r',s',E',q'⟩:=q vs r;unfold lz at q'
 split at q'
 ·rename_i hz
  refine⟨by rw[<-r'.length];exact hz,λp hp=>?_⟩
  exact q' _ (bh hp _) _ (iD hp (E'.fresh hp) r')
 ·exact q'.elim
def Lv{pos:Pos}(h:pk X es f):cE X (.List es pos) (de f):=by
 intro lm s σ H Q I ⟨Z,O,E,hq⟩;refine C0 h lm s σ H Q I ?_
 obtain⟨Z1,O1,E1,h1⟩:=fV E hq;refine⟨Z1,O1,E1,Post.mono h1 λts H1 s1 q vs r=>?_⟩
 obtain⟨t',r',s',E',q'⟩:=q vs r;unfold lA at q'
 split at q'
 ·rename_i hz
  refine⟨by rw[<-r'.length];exact hz,λp hp=>?_⟩
  exact q' _ (bh hp _) _ (mj hp (E'.fresh hp) r')
 ·exact q'.elim
def OpT(X:Cx)(f:NS->NS->Sem NS)(g:T->T->Rs T):Prop:=
 ∀(lm:V2)(s:NV)(σ:L2.St)(H:Hp)(O:Ow)(x y:T)(vx vy:V)(ux uy:NS)(Q:VK),Inv X lm σ H s->(∀p,H p=ZB->¬ O p)->Rep X.K O H x vx->Rep X.K O H y vy->RelV vx ux->RelV vy uy →
  Post X H (g x y) (λt H'=>∀v,Rep X.K O H' t v->Q v H')->ZJ (ZK X.prog X.w) X.A (f ux uy) (EP X lm σ Q) X.xe s
def o2(g:T->T->Rs T)(fa fb:V5)(Z:En):Rs T:=do
 let x <-fa Z
 let y <-fb Z
 g x y
variable {a b c:ZG}{fa fb fc:V5}
def LB{op:Operator}(ho:OpT X (PY op) g)(ha:cE X a fa)(hb:cE X b fb):cE X (.BinOp a op b pos) (o2 g fa fb):=by
 intro lm s σ H Q I ⟨Z,O,E,hq⟩
 have h1:=aZ E hq;refine wpAny_BinOp (bW (ha lm s σ H _ I h1) λv s1 hh_=>?_)
 obtain⟨x,H1,I1,r1,t,rt,s',E',q1⟩:=hh_
 have h2:=aZ (f:=fb) E' q1;refine bW (hb lm s1 σ H1 _ I1 h2) λu s2 hh_=>?_
 obtain⟨y,H2,I2,r2,t2,rt2,s'',E'',q2⟩:=hh_;exact ho lm s2 σ H2 O t t2 x y v u Q I2 (λp=>E''.fresh) (rt.same s'') rt2 r1 r2 q2
def LA(ho:OpT X (OM op) g)(ha:cE X a fa)(hb:cE X b fb)(hm:Qm op b=ZD:=by rfl):cE X (.Compare a [op] [b] pos) (o2 g fa fb):=by
 intro lm s σ H Q I ⟨Z,O,E,hq⟩
 have h1:=aZ E hq;refine wpAny_Compare1 (bW (ha lm s σ H _ I h1) λv s1 ⟨x,H1,I1,r1,t,rt,s',E',q1⟩=>?_) hm
 have h2:=aZ (f:=fb) E' q1;refine bW (hb lm s1 σ H1 _ I1 h2) λu s2 hh_=>?_
 obtain⟨y,H2,I2,r2,t2,rt2,s'',E'',q2⟩:=hh_;exact ho lm s2 σ H2 O t t2 x y v u Q I2 (λp=>E''.fresh) (rt.same s'') rt2 r1 r2 q2
def OpT.of{f:NS->NS->Sem NS}{r:R2}(h:rE X f r)
  (w:∀(H:Hp)(O:Ow)(x y:T)(vx vy:V)(Q:VK),(∀p,H p=ZB->¬ O p)->Rep X.K O H x vx->Rep X.K O H y vy->Post X H (g x y) (λt H'=>∀v,Rep X.K O H' t v->Q v H')->r vx vy H Q):OpT X f g:=
 λlm s σ H O x y vx vy ux uy Q I hf rx ry r1 r2 hp=>h lm s σ H vx vy ux uy Q I r1 r2 (w H O x y vx vy Q hf rx ry hp)
def cv:T->T->Rs T
 |.int i,.int j=>.ok (.int (i - j))
 |_,_=>.bad
def cY:OpT X (PY .Sub) cv:=OpT.of Ju λH O x y vx vy Q hf rx ry hp=>by
 unfold cv at hp
 split at hp
 ·exact⟨_,_,Rep.AC.mp rx,Rep.AC.mp ry,hp H (Same.refl H) _ (Rep.Gc _)⟩
 ·exact hp.elim
def mG:T->T->Rs T
 |.int i,.int j=>if 0<j/\j<1073741824 then .ok (.int (i / j))else .bad
 |_,_=>.bad
def my:T->T->Rs T
 |.int i,.int j=>if 0<j then .ok (.int (i % j))else .bad
 |_,_=>.bad
def oY:OpT X (PY .FloorDiv) mG:=OpT.of Gw λH O x y vx vy Q hf rx ry hp=>by
 unfold mG at hp
 split at hp
 ·split at hp
  ·rename_i h
   exact⟨_,_,Rep.AC.mp rx,Rep.AC.mp ry,h,hp H (Same.refl H) _ (Rep.Gc _)⟩
  ·exact hp.elim
 ·exact hp.elim
def lJ:OpT X (PY .Mod) my:=OpT.of Jx λH O x y vx vy Q hf rx ry hp=>by
 unfold my at hp
 split at hp
 ·split at hp
  ·rename_i h
   exact⟨_,_,Rep.AC.mp rx,Rep.AC.mp ry,h,hp H (Same.refl H) _ (Rep.Gc _)⟩
  ·exact hp.elim
 ·exact hp.elim
def C7:rE X (PY .Add) (λx y H Q=>∃a b ys,x=.ref a/\y=.ref b/\SqT X.K H a []/\SqT X.K H b ys/\Q (.ref b) H):=by
 intro lm s σ H x y v u Q I rx ry h;obtain⟨a,b,ys,rfl,rfl,ha,hb,q⟩:=h;cases rx;cases ry;obtain⟨its,r1,p1,_⟩:=I.tuple ha;obtain⟨its2,r2,p2,_⟩:=I.tuple hb;obtain⟨⟨cls,dd,data,sl⟩,ho,hc,n,hd⟩:=id p1;obtain⟨⟨cls2,dd2,data2,sl2⟩,ho2,hc2,n2,hd2⟩:=id p2;simp only at hc hd hc2 hd2;subst hc hd hc2 hd2
 have e:its=[]:=by cases r1;rfl
 subst e;exact HT_concat0 ho ho2 ⟨.ref b,H,I,rfl,q⟩
where
 HT_concat0 {prog:Oh} {w:O8} {A:OB} {E:V1} {s:NV} {t b:ZE} {ws:Array NS} {n n2:Nat} {dd dd2:Option ZE} {sl sl2:Array (Option NS)} {Q:V1}
   (ho:s.heap.get? t=ZA {cls:=.type "tuple",dict:=dd,data:=.seq (([]:List NS).toArray) n,slots:=sl}) (ho2:s.heap.get? b=ZA {cls:=.type "tuple",dict:=dd2,data:=.seq ws n2,slots:=sl2}) (h:Q (.ref b) s):
   ZJ (ZK prog w) A (PY .Add (.ref t) (.ref b)) Q E s:=
  U1 ⟨_,ho,rfl⟩ ⟨_,ho2,rfl⟩ SX Ut Ru Rk (Re _ _)
   (tuple_addW0 t b _ _ n n2 dd dd2 sl sl2 (by simp)) ⟨ho,ho2,h⟩
def aM:T->T->Rs T
 |.int i,.int j=>.ok (.int (i+j))
 |.str i,.str j=>if i.length+j.length<=ZI then .ok (.str (i++j))else .bad
 |.tup l,.tup m=>lz (l++m)
 |.lst l,.lst m=>lA (l++m)
 |_,_=>.bad
def aL:OpT X (PY .Add) aM:=by
 intro lm s σ H O x y vx vy ux uy Q I hf rx ry r1 r2 hp;unfold aM at hp
 split at hp
 ·exact JA lm s σ H vx vy ux uy Q I r1 r2 ⟨_,_,Rep.AC.mp rx,Rep.AC.mp ry,hp H (Same.refl H) _ (Rep.Gc _)⟩
 ·split at hp
  ·rename_i h
   exact yp lm s σ H vx vy ux uy Q I r1 r2 ⟨_,_,Rep.GM.mp rx,Rep.GM.mp ry,h,hp H (Same.refl H) _ (Rep.Nz _)⟩
  ·exact hp.elim
 ·rename_i l m
  unfold lz at hp
  split at hp
  ·rename_i h
   obtain⟨a,vs,e1,n1,q1,z1⟩:=Rep.Fk.mp rx;obtain⟨b,ws,e2,n2,q2,z2⟩:=Rep.Fk.mp ry
   have hl1:=z1.length
   have hl2:=z2.length;rw[N3]at h
   cases vs with
   |nil=>
    have e:l=[]:=by cases l with
     |nil=>rfl
     |cons _ _=>simp at hl1
    subst e
    exact C7 lm s σ H vx vy ux uy Q I r1 r2 ⟨a,b,ws,e1,e2,SqT.of q1,SqT.of q2,hp H (Same.refl H) _ (Rep.Fk.mpr ⟨b,ws,rfl,n2,q2,z2⟩)⟩
   |cons v0 vr=>
    refine Gx lm s σ H vx vy ux uy Q I r1 r2 ⟨a,b,v0::vr,ws,e1,e2,SqT.of q1,SqT.of q2,by simp,by omega,λhw=>?_,λ_ p hpn=>?_⟩
    ·subst hw
     have e:m=[]:=by cases m with
      |nil=>rfl
      |cons _ _=>simp at hl2
     subst e;rw[Ou]at hp;exact hp H (Same.refl H) _ (Rep.Fk.mpr ⟨a,_,rfl,n1,q1,z1⟩)
    ·exact hp _ (bh hpn _) _ (iD hpn (hf p hpn) (z1.append z2))
  ·exact hp.elim
 ·rename_i l m
  unfold lA at hp
  split at hp
  ·rename_i h
   obtain⟨a,vs,e1,n1,q1,z1⟩:=Rep.Do.mp rx;obtain⟨b,ws,e2,n2,q2,z2⟩:=Rep.Do.mp ry
   have hl1:=z1.length
   have hl2:=z2.length;rw[N3]at h;exact Jz lm s σ H vx vy ux uy Q I r1 r2 ⟨a,b,vs,ws,e1,e2,q1,q2,by omega,λp hpn=>hp _ (bh hpn _) _ (mj hpn (hf p hpn) (z1.append z2))⟩
  ·exact hp.elim
 ·exact hp.elim
noncomputable def yA:T->T->Rs T
 |.int i,.int j=>if (-(2 ^ 64)<i/\i<2 ^ 64)\/(-(2 ^ 64)<j/\j<2 ^ 64)then .ok (.int (i*j))else .bad
 |.lst l,.int k=>if -(2 ^ 63)<=k/\k<2 ^ 63/\l.length*k.toNat<=ZI then .ok (.lst (Oi k.toNat l).flatten)else .bad
 |_,_=>.bad
theorem Reps.rep(h:Reps K O H l vs):∀k:Nat,Reps K O H (Oi k l).flatten (Oi k vs).flatten
 |0=>Reps.GE
 |k+1=>by rw[PK,PK,Qy,Qy];exact h.append (h.rep k)
def Jt:OpT X (PY .Mult) yA:=by
 intro lm s σ H O x y vx vy ux uy Q I hf rx ry r1 r2 hp;unfold yA at hp
 split at hp
 ·split at hp
  ·rename_i h
   exact Jw lm s σ H vx vy ux uy Q I r1 r2 ⟨_,_,Rep.AC.mp rx,Rep.AC.mp ry,h,hp H (Same.refl H) _ (Rep.Gc _)⟩
  ·exact hp.elim
 ·split at hp
  ·rename_i l k h
   obtain⟨a,vs,e1,n1,q1,z1⟩:=Rep.Do.mp rx
   have hl1:=z1.length;exact Jv lm s σ H vx vy ux uy Q I r1 r2 ⟨a,k,vs,e1,Rep.AC.mp ry,q1,h.1,h.2.1,by rw[<-hl1];exact h.2.2,λp hpn=>hp _ (bh hpn _) _ (mj hpn (hf p hpn) (z1.rep _))⟩
  ·exact hp.elim
 ·exact hp.elim
def nu:T->Rs T
 |.int i=>.ok (.int (-i))
 |_=>.bad
def o1(g:T->Rs T)(fa:V5)(Z:En):Rs T:=fa Z >>= g
def Lu(ha:cE X a fa):cE X (.UnaryOp .USub a pos) (o1 nu fa):=by
 intro lm s σ H Q I ⟨Z,O,E,hq⟩;refine LG Iq ha lm s σ H Q I ?_
 obtain⟨Z1,O1,E1,h1⟩:=aZ E hq;refine⟨Z1,O1,E1,Post.mono h1 λts H1 s1 q vs r=>?_⟩
 obtain⟨t',r',s',E',q'⟩:=q vs r;unfold nu at q'
 split at q'
 ·exact⟨_,Rep.AC.mp r',q' H1 (Same.refl H1) _ (Rep.Gc _)⟩
 ·exact q'.elim
def xC(p:Int->Int->Bool):T->T->Rs T
 |.int i,.int j=>.ok (.bl (p i j))
 |_,_=>.bad
def ur{p:Int->Int->Bool}(h:rE X (OM op) (HG λi j=>.bl (p i j))):OpT X (OM op) (xC p):=OpT.of h λH O x y vx vy Q hf rx ry hp=>by
 unfold xC at hp
 split at hp
 ·exact⟨_,_,Rep.AC.mp rx,Rep.AC.mp ry,hp H (Same.refl H) _ (Rep.bl_ _)⟩
 ·exact hp.elim
abbrev nA:=xC λi j=>decide (i<j)
abbrev zS:=xC λi j=>decide (i<=j)
abbrev Ms:=xC λi j=>decide (j<i)
def lj:OpT X (OM .Lt) nA:=ur LN
def pV:OpT X (OM .LtE) zS:=ur LP
def LL:OpT X (OM .Gt) Ms:=ur LQ
def T.isN:T->Bool
 |.non=>ZC
 |_=>ZD
def Rep.isN{t:T}(r:Rep K O H t v):decide (v=.non)=t.isN:=by
 cases t with
 |non=>rw[Rep.KB.mp r];rfl
 |bl _=>rw[Rep.FM.mp r];rfl
 |int _=>rw[Rep.AC.mp r];rfl
 |str _=>rw[Rep.GM.mp r];rfl
 |tup _=>obtain⟨a,vs,e,_⟩:=Rep.Fk.mp r;rw[e];rfl
 |lst _=>obtain⟨a,vs,e,_⟩:=Rep.Do.mp r;rw[e];rfl
 |scr _=>unfold Rep at r;obtain⟨a,e,_⟩:=r;rw[e];rfl
 |dct _ _=>obtain⟨a,_,e,_⟩:=Rep.IR.mp r;rw[e];rfl
 |ob _ _ _=>obtain⟨a,_,_,e,_⟩:=Rep.Nh.mp r;rw[e];rfl
def kc:T->T->Rs T
 |x,.non=>.ok (.bl x.isN)
 |_,_=>.bad
def fW:T->T->Rs T
 |x,.non=>.ok (.bl (!x.isN))
 |_,_=>.bad
def sC:OpT X (OM .Is) kc:=OpT.of Jy λH O x y vx vy Q hf rx ry hp=>by
 unfold kc at hp
 split at hp
 ·exact⟨Rep.KB.mp ry,hp H (Same.refl H) _ (by rw[rx.isN];exact Rep.bl_ _)⟩
 ·exact hp.elim
def gM:OpT X (OM .IsNot) fW:=OpT.of Gv λH O x y vx vy Q hf rx ry hp=>by
 unfold fW at hp
 split at hp
 ·exact⟨Rep.KB.mp ry,hp H (Same.refl H) _ (by rw[rx.isN];exact Rep.bl_ _)⟩
 ·exact hp.elim
end
open PySem.SeqAt
mutual
def ReV(s:NV):T->NS->Prop
 |.non,u=>u=.none
 |.bl b,u=>u=.bool b
 |.int i,u=>∃t,u=.int i t
 |.str x,u=>∃t,u=.str x t
 |.tup l,u=>∃a its,u=.ref a/\s.heap.IsTuple a (UW its)/\ReVs s l its
 |.lst l,u=>∃a its,u=.ref a/\s.heap.IsList a (UW its)/\ReVs s l its
 |.scr l,u=>∃a its,u=.ref a/\s.heap.IsList a (UW its)/\RQ its l
 |.dct _ _,_=>False
 |.ob _ _ _,_=>False
def ReVs(s:NV):List T->List NS->Prop
 |[],us=>us=[]
 |t::r,us=>∃u ws,us=u::ws/\ReV s t u/\ReVs s r ws
end
def ReVs.Da:ReVs s [] us↔us=[]:=by unfold ReVs;exact Rn
def ReVs.me{t:T}:ReVs s (t::l) us↔ ∃u ws,us=u::ws/\ReV s t u/\ReVs s l ws:=by
 constructor
 ·intro h;unfold ReVs at h;exact h
 ·intro h;unfold ReVs;exact h
theorem ReVs.length:∀{l:List T}{us:List NS},ReVs s l us->l.length=us.length
 |[],us,r=>by rw[ReVs.Da.mp r];rfl
 |t::l,us,r=>by
  obtain⟨v,ws,rfl,_,q⟩:=ReVs.me.mp r;simp[q.length]
theorem ReVs.get:∀{l:List T}{us:List NS}{i:Nat}{t:T},ReVs s l us->l[i]?=ZA t->∃v,us[i]?=ZA v/\ReV s t v
 |[],_,_,_,_,e=>by simp at e
 |t::l,vs,i,u,r,e=>by
  obtain⟨v,ws,rfl,p,q⟩:=ReVs.me.mp r
  cases i with
  |zero=>simp at e;subst e;exact⟨v,rfl,p⟩
  |succ i=>
   obtain⟨z,e1,e2⟩:=q.get (i:=i) (t:=u) (by simpa using e)
   exact⟨z,by simpa using e1,e2⟩
mutual
def T.nd:T->Bool
 |.dct _ _=>ZD
 |.ob _ _ _=>ZD
 |.tup l=>nds l
 |.lst l=>nds l
 |_=>ZC
def nds:List T->Bool
 |[] =>ZC
 |t::l=>t.nd&&nds l
end
def wN{t:T}(h:nds (t::l)=ZC):t.nd=ZC/\nds l=ZC:=by unfold nds at h;exact Pf.mp h
theorem yz:∀{l:List T},(∀t∈l,t.nd=ZC)->nds l=ZC
 |[],_=>rfl
 |t::l,h=>by unfold nds;rw[h t NU,yz λu hu=>h u (NR _ hu)];rfl
section
variable {lm:V2}
mutual
theorem Rep.val(I:Inv X lm σ H s):∀{t:T}{v:V}{u:NS},t.nd=ZC->Rep X.K O H t v->RelV v u->ReV s t u
 |.non,v,u,hn,r,q=>by cases Rep.KB.mp r;unfold ReV;exact q
 |.bl b,v,u,hn,r,q=>by cases Rep.FM.mp r;unfold ReV;exact q
 |.int b,v,u,hn,r,q=>by cases Rep.AC.mp r;unfold ReV;exact q
 |.str b,v,u,hn,r,q=>by cases Rep.GM.mp r;unfold ReV;exact q
 |.tup l,v,u,hn,r,q=>by
  obtain⟨a,vs,rfl,_,z,w⟩:=Rep.Fk.mp r;cases q;obtain⟨its,rv,p,_⟩:=I.tuple (SqT.of z);unfold ReV
  exact⟨a,its,rfl,p,Reps.val I (by unfold T.nd at hn;exact hn) w rv⟩
 |.lst l,v,u,hn,r,q=>by
  obtain⟨a,vs,rfl,_,z,w⟩:=Rep.Do.mp r;cases q;obtain⟨its,rv,p,_⟩:=I.list (SqL.of z);unfold ReV
  exact⟨a,its,rfl,p.isList,Reps.val I (by unfold T.nd at hn;exact hn) w rv⟩
 |.scr l,v,u,hn,r,q=>by
  unfold Rep at r;obtain⟨a,rfl,_,z⟩:=r;cases q;obtain⟨its,rv,p,_⟩:=I.list z;unfold ReV
  exact⟨a,its,rfl,p.isList,yR rv⟩
 |.dct _ _,v,u,hn,r,q=>by cases hn
 |.ob _ _ _,v,u,hn,r,q=>by cases hn
theorem Reps.val(I:Inv X lm σ H s):∀{l:List T}{vs:List V}{us:List NS},nds l=ZC->Reps X.K O H l vs->Vals vs us->ReVs s l us
 |[],vs,us,hn,r,q=>by
  cases Reps.Da.mp r;cases q
  exact ReVs.Da.mpr rfl
 |t::l,vs,us,hn,r,q=>by
  obtain⟨v,ws,rfl,p,z⟩:=Reps.me.mp r
  cases q with
  |cons q1 q2=>exact ReVs.me.mpr ⟨_,_,rfl,Rep.val I (wN hn).1 p q1,Reps.val I (wN hn).2 z q2⟩
end
end
mutual
def T.dep:T->Nat
 |.tup l=>deps l+1
 |.lst l=>deps l+1
 |.scr _=>1
 |_=>0
def deps:List T->Nat
 |[] =>0
 |t::l=>max t.dep (deps l)
end
def He(i:Int):T->Bool
 |.int j=>i == j
 |.bl b=>i == (if b then 1 else 0)
 |_=>ZD
def lC:List Int->List T->Bool
 |[],[] =>ZC
 |i::r,t::l=>He i t&&lC r l
 |_,_=>ZD
mutual
def bj:T->T->Bool
 |.non,.non=>ZC
 |.bl a,.bl b=>a == b
 |.bl a,.int b=>(if a then 1 else 0) == b
 |.int a,.bl b=>a == (if b then 1 else 0)
 |.int a,.int b=>a == b
 |.str a,.str b=>a == b
 |.tup l,.tup m=>beqTs l m
 |.lst l,.lst m=>beqTs l m
 |.lst l,.scr m=>beqTs l (m.map .int)
 |.scr l,.lst m=>lC l m
 |.scr l,.scr m=>l == m
 |_,_=>ZD
def beqTs:List T->List T->Bool
 |[],[] =>ZC
 |t::l,u::m=>bj t u&&beqTs l m
 |_,_=>ZD
end
def rj(n:Nat)(e:Nat->Bool):(O7 (n+1)).all e=(e 0&&(O7 n).all λj=>e (j+1)):=by
 rw[List.range_succ_eq_map,List.all_cons,List.all_map];rfl
theorem nI:∀(l m:List T)(e:Nat->Bool),(∀(j:Nat) t u,l[j]?=ZA t->m[j]?=ZA u->e j=bj t u) →
  beqTs l m=((O7 (min l.length m.length)).all e&&l.length == m.length)
 |[],[],_,_=>by simp[beqTs]
 |[],_::_,_,_=>by simp[beqTs]
 |_::_,[],_,_=>by simp[beqTs]
 |t::l,u::m,e,h=>by
  have ih:=nI l m (λj=>e (j+1)) λj t' u' h1 h2=>h (j+1) t' u' (by simpa using h1) (by simpa using h2)
  rw[beqTs,ih]
  have h0:=h 0 t u rfl rfl;simp only[NZ];rw[Nat.succ_min_succ,rj,h0,Bool.and_assoc]
  congr 2
  simp
theorem tw:∀{l m:List T},l.length≠m.length->beqTs l m=ZD
 |[],[],h=>absurd rfl h
 |[],_::_,_=>by simp[beqTs]
 |_::_,[],_=>by simp[beqTs]
 |t::l,u::m,h=>by
  rw[beqTs,tw (l:=l) (m:=m) (by intro z;exact h (by simp[z]))]
  simp
theorem kn:∀{l:List T}{i:Nat}{t:T},l[i]?=ZA t->t.dep<=deps l
 |[],_,_,e=>by simp at e
 |t::l,0,u,e=>by simp at e;subst e;unfold deps;exact Nat.le_max_left _ _
 |t::l,i+1,u,e=>by
  have:=kn (l:=l) (i:=i) (t:=u) (by simpa using e)
  unfold deps;exact O4 this (Nat.le_max_right _ _)
def j9{x y:List NS}(h:s.heap.IsTuple a x.toArray)(h':s.heap.IsTuple a y.toArray):x=y:=by
 obtain⟨o,e,_,n,d⟩:=h;obtain⟨o',e',_,n',d'⟩:=h';rw[e]at e';cases e';rw[d]at d';injection d' with d1 _
 simpa using congrArg S5 d1
def di{x y:List NS}(h:s.heap.IsList a x.toArray)(h':s.heap.IsList a y.toArray):x=y:=by
 obtain⟨o,e,_,n,d⟩:=h;obtain⟨o',e',_,n',d'⟩:=h';rw[e]at e';cases e';rw[d]at d';injection d' with d1 _
 simpa using congrArg S5 d1
variable{k:Tok}
def By{t:T}(r:ReV s t (.int i k)):He i t=ZC:=by
 cases t with
 |non=>unfold ReV at r;cases r
 |bl b=>unfold ReV at r;cases r
 |int j=>unfold ReV at r;obtain⟨t,e⟩:=r;injection e with e1 _;subst e1;simp[He]
 |str x=>unfold ReV at r;obtain⟨t,e⟩:=r;cases e
 |tup l=>unfold ReV at r;obtain⟨a,its,e,_⟩:=r;cases e
 |lst l=>unfold ReV at r;obtain⟨a,its,e,_⟩:=r;cases e
 |scr l=>unfold ReV at r;obtain⟨a,its,e,_⟩:=r;cases e
 |dct _ _=>unfold ReV at r;exact r.elim
 |ob _ _ _=>unfold ReV at r;exact r.elim
theorem ri:∀{ns:List Int}{us:List NS}{l:List T},RQ us ns->ReVs s l us->lC ns l=ZC
 |[],us,l,h,r=>by
  cases h
  cases l with
  |nil=>rfl
  |cons t l=>obtain⟨_,_,e,_⟩:=ReVs.me.mp r;cases e
 |n::ns,us,l,h,r=>by
  cases h with
  |cons a b hh=>
   cases l with
   |nil=>have:=ReVs.Da.mp r;cases this
   |cons t l=>
    obtain⟨u,ws,e,p,q⟩:=ReVs.me.mp r;injection e with e1 e2
    subst e1 e2;rw[lC,By p,ri hh q];rfl
theorem eR:∀{us:List NS}{ns:List Int},RQ us ns->ReVs s (ns.map T.int) us
 |_,_,.nil=>ReVs.Da.mpr rfl
 |_,_,.cons n t h=>ReVs.me.mpr ⟨_,_,rfl,by unfold ReV;exact⟨_,rfl⟩,eR h⟩
theorem ke:∀{us:List NS}{ns ms:List Int},RQ us ns->RQ us ms->ns=ms
 |_,_,_,.nil,.nil=>rfl
 |_,_,_,.cons n t h,.cons _ _ h'=>by rw[ke h h']
mutual
theorem ReV.refl{s:NV}:∀{t u:T}{v:NS},ReV s t v->ReV s u v->bj t u=ZC
 |.non,u,v,r,q=>by
  unfold ReV at r;subst r
  cases u <;> (unfold ReV at q) <;> first|rfl| (cases q;done)| (obtain⟨_,e⟩:=q;cases e;done)| (obtain⟨_,_,e,_⟩:=q;cases e;done)
 |.bl b,u,v,r,q=>by
  unfold ReV at r;subst r
  cases u <;> (unfold ReV at q) <;> first| (cases q;done)| (cases q;simp[bj];done)| (obtain⟨_,e⟩:=q;cases e;done)| (obtain⟨_,_,e,_⟩:=q;cases e;done)
 |.int b,u,v,r,q=>by
  unfold ReV at r;obtain⟨k,rfl⟩:=r
  cases u <;> (unfold ReV at q) <;> first| (cases q;done)| (obtain⟨_,e⟩:=q;cases e;simp[bj];done)| (obtain⟨_,e⟩:=q;cases e;done)| (obtain⟨_,_,e,_⟩:=q;cases e;done)
 |.str b,u,v,r,q=>by
  unfold ReV at r;obtain⟨k,rfl⟩:=r
  cases u <;> (unfold ReV at q) <;> first| (cases q;done)| (obtain⟨_,e⟩:=q;cases e;simp[bj];done)| (obtain⟨_,e⟩:=q;cases e;done)| (obtain⟨_,_,e,_⟩:=q;cases e;done)
 |.tup l,u,v,r,q=>by
  unfold ReV at r;obtain⟨a,its,rfl,h1,h2⟩:=r
  cases u with
  |non=>unfold ReV at q;cases q
  |dct _ _=>unfold ReV at q;exact q.elim
  |ob _ _ _=>unfold ReV at q;exact q.elim
  |bl _=>unfold ReV at q;cases q
  |int _=>unfold ReV at q;obtain⟨_,e⟩:=q;cases e
  |str _=>unfold ReV at q;obtain⟨_,e⟩:=q;cases e
  |tup m=>
   unfold ReV at q;obtain⟨a',its',e,h1',h2'⟩:=q;injection e with e;subst e
   have:=j9 h1 h1';subst this;unfold bj
   exact ReVs.refl h2 h2'
  |lst m=>unfold ReV at q;obtain⟨a',its',e,h1',h2'⟩:=q;injection e with e;subst e;exact absurd rfl (ne_of_list_tuple h1' h1)
  |scr m=>unfold ReV at q;obtain⟨a',its',e,h1',h2'⟩:=q;injection e with e;subst e;exact absurd rfl (ne_of_list_tuple h1' h1)
 |.lst l,u,v,r,q=>by
  unfold ReV at r;obtain⟨a,its,rfl,h1,h2⟩:=r
  cases u with
  |non=>unfold ReV at q;cases q
  |dct _ _=>unfold ReV at q;exact q.elim
  |ob _ _ _=>unfold ReV at q;exact q.elim
  |bl _=>unfold ReV at q;cases q
  |int _=>unfold ReV at q;obtain⟨_,e⟩:=q;cases e
  |str _=>unfold ReV at q;obtain⟨_,e⟩:=q;cases e
  |lst m=>
   unfold ReV at q;obtain⟨a',its',e,h1',h2'⟩:=q;injection e with e;subst e
   have:=di h1 h1';subst this;unfold bj
   exact ReVs.refl h2 h2'
  |tup m=>unfold ReV at q;obtain⟨a',its',e,h1',h2'⟩:=q;injection e with e;subst e;exact absurd rfl (ne_of_list_tuple h1 h1')
  |scr m=>
   unfold ReV at q;obtain⟨a',its',e,h1',h2'⟩:=q;injection e with e;subst e
   have:=di h1 h1';subst this;unfold bj
   exact ReVs.refl h2 (eR h2')
 |.scr l,u,v,r,q=>by
  unfold ReV at r;obtain⟨a,its,rfl,h1,h2⟩:=r
  cases u with
  |non=>unfold ReV at q;cases q
  |dct _ _=>unfold ReV at q;exact q.elim
  |ob _ _ _=>unfold ReV at q;exact q.elim
  |bl _=>unfold ReV at q;cases q
  |int _=>unfold ReV at q;obtain⟨_,e⟩:=q;cases e
  |str _=>unfold ReV at q;obtain⟨_,e⟩:=q;cases e
  |lst m=>
   unfold ReV at q;obtain⟨a',its',e,h1',h2'⟩:=q;injection e with e;subst e
   have:=di h1 h1';subst this;unfold bj
   exact ri h2 h2'
  |tup m=>unfold ReV at q;obtain⟨a',its',e,h1',h2'⟩:=q;injection e with e;subst e;exact absurd rfl (ne_of_list_tuple h1 h1')
  |scr m=>
   unfold ReV at q;obtain⟨a',its',e,h1',h2'⟩:=q;injection e with e;subst e
   have:=di h1 h1';subst this;unfold bj
   have:=ke h2 h2'
   simp[this]
 |.dct _ _,u,v,r,q=>by unfold ReV at r;exact r.elim
 |.ob _ _ _,u,v,r,q=>by unfold ReV at r;exact r.elim
theorem ReVs.refl{s:NV}:∀{l m:List T}{us:List NS},ReVs s l us->ReVs s m us->beqTs l m=ZC
 |[],m,us,r,q=>by
  cases ReVs.Da.mp r
  cases m with
  |nil=>simp[beqTs]
  |cons _ _=>obtain⟨_,_,e,_⟩:=ReVs.me.mp q;cases e
 |t::l,m,us,r,q=>by
  obtain⟨v,ws,rfl,p,z⟩:=ReVs.me.mp r
  cases m with
  |nil=>cases ReVs.Da.mp q
  |cons u m=>
   obtain⟨v',ws',e,p',z'⟩:=ReVs.me.mp q;injection e with e1 e2
   subst e1 e2;rw[beqTs,ReV.refl p p',ReVs.refl z z'];rfl
end
theorem rh:∀(l:List Int)(m:List T),lC l m=beqTs (l.map T.int) m
 |[],[] =>by simp[lC,beqTs]
 |[],_::_=>by simp[lC,beqTs]
 |_::_,[] =>by simp[lC,beqTs]
 |i::l,t::m=>by
  rw[lC,NT,beqTs,rh l m]
  congr 1
  cases t <;> simp[He,bj]
theorem tS:∀(l m:List Int),(l == m)=beqTs (l.map T.int) (m.map T.int)
 |[],[] =>by simp[beqTs]
 |[],_::_=>by simp[beqTs]
 |_::_,[] =>by simp[beqTs]
 |i::l,t::m=>by
  rw[NT,NT,beqTs,<-tS l m];simp[bj]
theorem gE:∀(l:List Int),deps (l.map T.int)=0
 |[] =>rfl
 |i::l=>by rw[NT,deps,gE l];simp[T.dep]
def kG:T->T->Prop
 |.tup _,.tup _=>False
 |.lst _,.lst _=>False
 |.lst _,.scr _=>False
 |.scr _,.lst _=>False
 |.scr _,.scr _=>False
 |_,_=>True
def xn(A:OB)(s:NV)(x y:T)(u v:NS)(hn:kG x y)(hu:A.units<cLine)(rx:ReV s x u)(ry:ReV s y v):EqAt A s u v (bj x y)/\RcAt A s u v (bj x y)/\RcNeAt A s u v (!bj x y):=by
 match x,y,hn,rx,ry with
 |.dct _ _,_,_,rx,_=>exact(by unfold ReV at rx;exact rx:False).elim
 |.ob _ _ _,_,_,rx,_=>exact(by unfold ReV at rx;exact rx:False).elim
 |_,.dct _ _,_,_,ry=>exact(by unfold ReV at ry;exact ry:False).elim
 |_,.ob _ _ _,_,_,ry=>exact(by unfold ReV at ry;exact ry:False).elim
 |.non,.non,hn,rx,ry=>
  obtain rfl:u=OI:=by unfold ReV at rx;exact rx
  obtain rfl:v=OI:=by unfold ReV at ry;exact ry
  exact⟨EqAt.same _,RcAt.none_none ,RcNeAt.none_none ⟩
 |.non,.bl b2,hn,rx,ry=>
  obtain rfl:u=OI:=by unfold ReV at rx;exact rx
  obtain rfl:v=OS b2:=by unfold ReV at ry;exact ry
  exact⟨EqAt.none_bool b2,RcAt.none_bool b2,RcNeAt.none_bool b2⟩
 |.non,.int i2,hn,rx,ry=>
  obtain rfl:u=OI:=by unfold ReV at rx;exact rx
  obtain⟨k2,rfl⟩:∃k,v=PD i2 k:=by unfold ReV at ry;exact ry
  exact⟨EqAt.none_int i2 k2,RcAt.none_int i2 k2,RcNeAt.none_int i2 k2⟩
 |.non,.str x2,hn,rx,ry=>
  obtain rfl:u=OI:=by unfold ReV at rx;exact rx
  obtain⟨k2,rfl⟩:∃k,v=PF x2 k:=by unfold ReV at ry;exact ry
  exact⟨EqAt.none_str x2 k2,RcAt.none_str x2 k2,RcNeAt.none_str x2 k2⟩
 |.non,.tup l2,hn,rx,ry=>
  obtain rfl:u=OI:=by unfold ReV at rx;exact rx
  unfold ReV at ry;obtain⟨a2,us2,rfl,h2,q2⟩:=ry
  exact⟨EqAt.none_tuple h2 hu,RcAt.none_tuple h2 hu,RcNeAt.none_tuple h2 hu⟩
 |.non,.lst l2,hn,rx,ry=>
  obtain rfl:u=OI:=by unfold ReV at rx;exact rx
  unfold ReV at ry;obtain⟨a2,us2,rfl,h2,q2⟩:=ry
  exact⟨EqAt.none_list h2 hu,RcAt.none_list h2 hu,RcNeAt.none_list h2 hu⟩
 |.non,.scr l2,hn,rx,ry=>
  obtain rfl:u=OI:=by unfold ReV at rx;exact rx
  unfold ReV at ry;obtain⟨a2,us2,rfl,h2,q2⟩:=ry
  exact⟨EqAt.none_list h2 hu,RcAt.none_list h2 hu,RcNeAt.none_list h2 hu⟩
 |.bl b1,.non,hn,rx,ry=>
  obtain rfl:u=OS b1:=by unfold ReV at rx;exact rx
  obtain rfl:v=OI:=by unfold ReV at ry;exact ry
  exact⟨EqAt.bool_none b1,RcAt.bool_none b1,RcNeAt.bool_none b1⟩
 |.bl b1,.bl b2,hn,rx,ry=>
  obtain rfl:u=OS b1:=by unfold ReV at rx;exact rx
  obtain rfl:v=OS b2:=by unfold ReV at ry;exact ry
  exact⟨EqAt.bool_bool b1 b2,RcAt.bool_bool b1 b2,RcNeAt.bool_bool b1 b2⟩
 |.bl b1,.int i2,hn,rx,ry=>
  obtain rfl:u=OS b1:=by unfold ReV at rx;exact rx
  obtain⟨k2,rfl⟩:∃k,v=PD i2 k:=by unfold ReV at ry;exact ry
  exact⟨EqAt.bool_int b1 i2 k2,RcAt.bool_int b1 i2 k2,RcNeAt.bool_int b1 i2 k2⟩
 |.bl b1,.str x2,hn,rx,ry=>
  obtain rfl:u=OS b1:=by unfold ReV at rx;exact rx
  obtain⟨k2,rfl⟩:∃k,v=PF x2 k:=by unfold ReV at ry;exact ry
  exact⟨EqAt.bool_str b1 x2 k2,RcAt.bool_str b1 x2 k2,RcNeAt.bool_str b1 x2 k2⟩
 |.bl b1,.tup l2,hn,rx,ry=>
  obtain rfl:u=OS b1:=by unfold ReV at rx;exact rx
  unfold ReV at ry;obtain⟨a2,us2,rfl,h2,q2⟩:=ry
  exact⟨EqAt.bool_tuple b1 h2 hu,RcAt.bool_tuple b1 h2 hu,RcNeAt.bool_tuple b1 h2 hu⟩
 |.bl b1,.lst l2,hn,rx,ry=>
  obtain rfl:u=OS b1:=by unfold ReV at rx;exact rx
  unfold ReV at ry;obtain⟨a2,us2,rfl,h2,q2⟩:=ry
  exact⟨EqAt.bool_list b1 h2 hu,RcAt.bool_list b1 h2 hu,RcNeAt.bool_list b1 h2 hu⟩
 |.bl b1,.scr l2,hn,rx,ry=>
  obtain rfl:u=OS b1:=by unfold ReV at rx;exact rx
  unfold ReV at ry;obtain⟨a2,us2,rfl,h2,q2⟩:=ry
  exact⟨EqAt.bool_list b1 h2 hu,RcAt.bool_list b1 h2 hu,RcNeAt.bool_list b1 h2 hu⟩
 |.int i1,.non,hn,rx,ry=>
  obtain⟨k1,rfl⟩:∃k,u=PD i1 k:=by unfold ReV at rx;exact rx
  obtain rfl:v=OI:=by unfold ReV at ry;exact ry
  exact⟨EqAt.int_none i1 k1,RcAt.int_none i1 k1,RcNeAt.int_none i1 k1⟩
 |.int i1,.bl b2,hn,rx,ry=>
  obtain⟨k1,rfl⟩:∃k,u=PD i1 k:=by unfold ReV at rx;exact rx
  obtain rfl:v=OS b2:=by unfold ReV at ry;exact ry
  exact⟨EqAt.int_bool i1 k1 b2,RcAt.int_bool i1 k1 b2,RcNeAt.int_bool i1 k1 b2⟩
 |.int i1,.int i2,hn,rx,ry=>
  obtain⟨k1,rfl⟩:∃k,u=PD i1 k:=by unfold ReV at rx;exact rx
  obtain⟨k2,rfl⟩:∃k,v=PD i2 k:=by unfold ReV at ry;exact ry
  exact⟨EqAt.int_int i1 k1 i2 k2,RcAt.int_int i1 k1 i2 k2,RcNeAt.int_int i1 k1 i2 k2⟩
 |.int i1,.str x2,hn,rx,ry=>
  obtain⟨k1,rfl⟩:∃k,u=PD i1 k:=by unfold ReV at rx;exact rx
  obtain⟨k2,rfl⟩:∃k,v=PF x2 k:=by unfold ReV at ry;exact ry
  exact⟨EqAt.int_str i1 k1 x2 k2,RcAt.int_str i1 k1 x2 k2,RcNeAt.int_str i1 k1 x2 k2⟩
 |.int i1,.tup l2,hn,rx,ry=>
  obtain⟨k1,rfl⟩:∃k,u=PD i1 k:=by unfold ReV at rx;exact rx
  unfold ReV at ry;obtain⟨a2,us2,rfl,h2,q2⟩:=ry
  exact⟨EqAt.int_tuple i1 k1 h2 hu,RcAt.int_tuple i1 k1 h2 hu,RcNeAt.int_tuple i1 k1 h2 hu⟩
 |.int i1,.lst l2,hn,rx,ry=>
  obtain⟨k1,rfl⟩:∃k,u=PD i1 k:=by unfold ReV at rx;exact rx
  unfold ReV at ry;obtain⟨a2,us2,rfl,h2,q2⟩:=ry
  exact⟨EqAt.int_list i1 k1 h2 hu,RcAt.int_list i1 k1 h2 hu,RcNeAt.int_list i1 k1 h2 hu⟩
 |.int i1,.scr l2,hn,rx,ry=>
  obtain⟨k1,rfl⟩:∃k,u=PD i1 k:=by unfold ReV at rx;exact rx
  unfold ReV at ry;obtain⟨a2,us2,rfl,h2,q2⟩:=ry
  exact⟨EqAt.int_list i1 k1 h2 hu,RcAt.int_list i1 k1 h2 hu,RcNeAt.int_list i1 k1 h2 hu⟩
 |.str x1,.non,hn,rx,ry=>
  obtain⟨k1,rfl⟩:∃k,u=PF x1 k:=by unfold ReV at rx;exact rx
  obtain rfl:v=OI:=by unfold ReV at ry;exact ry
  exact⟨EqAt.str_none x1 k1,RcAt.str_none x1 k1,RcNeAt.str_none x1 k1⟩
 |.str x1,.bl b2,hn,rx,ry=>
  obtain⟨k1,rfl⟩:∃k,u=PF x1 k:=by unfold ReV at rx;exact rx
  obtain rfl:v=OS b2:=by unfold ReV at ry;exact ry
  exact⟨EqAt.str_bool x1 k1 b2,RcAt.str_bool x1 k1 b2,RcNeAt.str_bool x1 k1 b2⟩
 |.str x1,.int i2,hn,rx,ry=>
  obtain⟨k1,rfl⟩:∃k,u=PF x1 k:=by unfold ReV at rx;exact rx
  obtain⟨k2,rfl⟩:∃k,v=PD i2 k:=by unfold ReV at ry;exact ry
  exact⟨EqAt.str_int x1 k1 i2 k2,RcAt.str_int x1 k1 i2 k2,RcNeAt.str_int x1 k1 i2 k2⟩
 |.str x1,.str x2,hn,rx,ry=>
  obtain⟨k1,rfl⟩:∃k,u=PF x1 k:=by unfold ReV at rx;exact rx
  obtain⟨k2,rfl⟩:∃k,v=PF x2 k:=by unfold ReV at ry;exact ry
  exact⟨EqAt.str_str x1 k1 x2 k2,RcAt.str_str x1 k1 x2 k2,RcNeAt.str_str x1 k1 x2 k2⟩
 |.str x1,.tup l2,hn,rx,ry=>
  obtain⟨k1,rfl⟩:∃k,u=PF x1 k:=by unfold ReV at rx;exact rx
  unfold ReV at ry;obtain⟨a2,us2,rfl,h2,q2⟩:=ry
  exact⟨EqAt.str_tuple x1 k1 h2 hu,RcAt.str_tuple x1 k1 h2 hu,RcNeAt.str_tuple x1 k1 h2 hu⟩
 |.str x1,.lst l2,hn,rx,ry=>
  obtain⟨k1,rfl⟩:∃k,u=PF x1 k:=by unfold ReV at rx;exact rx
  unfold ReV at ry;obtain⟨a2,us2,rfl,h2,q2⟩:=ry
  exact⟨EqAt.str_list x1 k1 h2 hu,RcAt.str_list x1 k1 h2 hu,RcNeAt.str_list x1 k1 h2 hu⟩
 |.str x1,.scr l2,hn,rx,ry=>
  obtain⟨k1,rfl⟩:∃k,u=PF x1 k:=by unfold ReV at rx;exact rx
  unfold ReV at ry;obtain⟨a2,us2,rfl,h2,q2⟩:=ry
  exact⟨EqAt.str_list x1 k1 h2 hu,RcAt.str_list x1 k1 h2 hu,RcNeAt.str_list x1 k1 h2 hu⟩
 |.tup l1,.non,hn,rx,ry=>
  unfold ReV at rx;obtain⟨a1,us1,rfl,h1,q1⟩:=rx;obtain rfl:v=OI:=by unfold ReV at ry;exact ry
  exact⟨EqAt.tuple_none h1 hu,RcAt.tuple_none h1 hu,RcNeAt.tuple_none h1 hu⟩
 |.tup l1,.bl b2,hn,rx,ry=>
  unfold ReV at rx;obtain⟨a1,us1,rfl,h1,q1⟩:=rx;obtain rfl:v=OS b2:=by unfold ReV at ry;exact ry
  exact⟨EqAt.tuple_bool b2 h1 hu,RcAt.tuple_bool b2 h1 hu,RcNeAt.tuple_bool b2 h1 hu⟩
 |.tup l1,.int i2,hn,rx,ry=>
  unfold ReV at rx;obtain⟨a1,us1,rfl,h1,q1⟩:=rx;obtain⟨k2,rfl⟩:∃k,v=PD i2 k:=by unfold ReV at ry;exact ry
  exact⟨EqAt.tuple_int i2 k2 h1 hu,RcAt.tuple_int i2 k2 h1 hu,RcNeAt.tuple_int i2 k2 h1 hu⟩
 |.tup l1,.str x2,hn,rx,ry=>
  unfold ReV at rx;obtain⟨a1,us1,rfl,h1,q1⟩:=rx;obtain⟨k2,rfl⟩:∃k,v=PF x2 k:=by unfold ReV at ry;exact ry
  exact⟨EqAt.tuple_str x2 k2 h1 hu,RcAt.tuple_str x2 k2 h1 hu,RcNeAt.tuple_str x2 k2 h1 hu⟩
 |.tup _,.tup _,hn,_,_=>exact hn.elim
 |.tup l1,.lst l2,hn,rx,ry=>
  unfold ReV at rx;obtain⟨a1,us1,rfl,h1,q1⟩:=rx;unfold ReV at ry;obtain⟨a2,us2,rfl,h2,q2⟩:=ry
  exact⟨EqAt.tuple_list h1 h2 hu,RcAt.tuple_list h1 h2 hu,RcNeAt.tuple_list h1 h2 hu⟩
 |.tup l1,.scr l2,hn,rx,ry=>
  unfold ReV at rx;obtain⟨a1,us1,rfl,h1,q1⟩:=rx;unfold ReV at ry;obtain⟨a2,us2,rfl,h2,q2⟩:=ry
  exact⟨EqAt.tuple_list h1 h2 hu,RcAt.tuple_list h1 h2 hu,RcNeAt.tuple_list h1 h2 hu⟩
 |.lst l1,.non,hn,rx,ry=>
  unfold ReV at rx;obtain⟨a1,us1,rfl,h1,q1⟩:=rx;obtain rfl:v=OI:=by unfold ReV at ry;exact ry
  exact⟨EqAt.list_none h1 hu,RcAt.list_none h1 hu,RcNeAt.list_none h1 hu⟩
 |.lst l1,.bl b2,hn,rx,ry=>
  unfold ReV at rx;obtain⟨a1,us1,rfl,h1,q1⟩:=rx;obtain rfl:v=OS b2:=by unfold ReV at ry;exact ry
  exact⟨EqAt.list_bool b2 h1 hu,RcAt.list_bool b2 h1 hu,RcNeAt.list_bool b2 h1 hu⟩
 |.lst l1,.int i2,hn,rx,ry=>
  unfold ReV at rx;obtain⟨a1,us1,rfl,h1,q1⟩:=rx;obtain⟨k2,rfl⟩:∃k,v=PD i2 k:=by unfold ReV at ry;exact ry
  exact⟨EqAt.list_int i2 k2 h1 hu,RcAt.list_int i2 k2 h1 hu,RcNeAt.list_int i2 k2 h1 hu⟩
 |.lst l1,.str x2,hn,rx,ry=>
  unfold ReV at rx;obtain⟨a1,us1,rfl,h1,q1⟩:=rx;obtain⟨k2,rfl⟩:∃k,v=PF x2 k:=by unfold ReV at ry;exact ry
  exact⟨EqAt.list_str x2 k2 h1 hu,RcAt.list_str x2 k2 h1 hu,RcNeAt.list_str x2 k2 h1 hu⟩
 |.lst l1,.tup l2,hn,rx,ry=>
  unfold ReV at rx;obtain⟨a1,us1,rfl,h1,q1⟩:=rx;unfold ReV at ry;obtain⟨a2,us2,rfl,h2,q2⟩:=ry
  exact⟨EqAt.list_tuple h1 h2 hu,RcAt.list_tuple h1 h2 hu,RcNeAt.list_tuple h1 h2 hu⟩
 |.lst _,.lst _,hn,_,_=>exact hn.elim
 |.lst _,.scr _,hn,_,_=>exact hn.elim
 |.scr l1,.non,hn,rx,ry=>
  unfold ReV at rx;obtain⟨a1,us1,rfl,h1,q1⟩:=rx;obtain rfl:v=OI:=by unfold ReV at ry;exact ry
  exact⟨EqAt.list_none h1 hu,RcAt.list_none h1 hu,RcNeAt.list_none h1 hu⟩
 |.scr l1,.bl b2,hn,rx,ry=>
  unfold ReV at rx;obtain⟨a1,us1,rfl,h1,q1⟩:=rx;obtain rfl:v=OS b2:=by unfold ReV at ry;exact ry
  exact⟨EqAt.list_bool b2 h1 hu,RcAt.list_bool b2 h1 hu,RcNeAt.list_bool b2 h1 hu⟩
 |.scr l1,.int i2,hn,rx,ry=>
  unfold ReV at rx;obtain⟨a1,us1,rfl,h1,q1⟩:=rx;obtain⟨k2,rfl⟩:∃k,v=PD i2 k:=by unfold ReV at ry;exact ry
  exact⟨EqAt.list_int i2 k2 h1 hu,RcAt.list_int i2 k2 h1 hu,RcNeAt.list_int i2 k2 h1 hu⟩
 |.scr l1,.str x2,hn,rx,ry=>
  unfold ReV at rx;obtain⟨a1,us1,rfl,h1,q1⟩:=rx;obtain⟨k2,rfl⟩:∃k,v=PF x2 k:=by unfold ReV at ry;exact ry
  exact⟨EqAt.list_str x2 k2 h1 hu,RcAt.list_str x2 k2 h1 hu,RcNeAt.list_str x2 k2 h1 hu⟩
 |.scr l1,.tup l2,hn,rx,ry=>
  unfold ReV at rx;obtain⟨a1,us1,rfl,h1,q1⟩:=rx;unfold ReV at ry;obtain⟨a2,us2,rfl,h2,q2⟩:=ry
  exact⟨EqAt.list_tuple h1 h2 hu,RcAt.list_tuple h1 h2 hu,RcNeAt.list_tuple h1 h2 hu⟩
 |.scr _,.lst _,hn,_,_=>exact hn.elim
 |.scr _,.scr _,hn,_,_=>exact hn.elim
def GX:∀(n:Nat)(A:OB)(s:NV)(x y:T)(u v:NS),(x.dep<=n\/y.dep<=n)->A.units+n<cLine->ReV s x u->ReV s y v->EqAt A s u v (bj x y)/\RcAt A s u v (bj x y)/\RcNeAt A s u v (!bj x y):=by
 intro n
 induction n with
 |zero=>
  intro A s x y u v hd hu rx ry
  exact xn A s x y u v (by cases x <;> cases y <;> simp_all [kG,T.dep]) (by omega) rx ry
 |succ n ih=>
  intro A s x y u v hd hu rx ry
  have hin:A.in1.units+n<cLine:=by show A.units+1+n<cLine;omega
  have items:∀(l m:List T)(us vs:List NS),(deps l<=n\/deps m<=n)->ReVs s l us->ReVs s m vs->∃e:Nat->Bool,(∀j (h1:j<us.toArray.size) (h2:j<vs.toArray.size),EqAt A.in1 s us.toArray[j] vs.toArray[j] (e j)) ∧
    (∀(j:Nat) t u,l[j]?=ZA t->m[j]?=ZA u->e j=bj t u):=λl m us vs hd r1 r2=>by
   refine⟨λj=>bj (l.getD j .non) (m.getD j .non),λj h1 h2=>?_,λj t u e1 e2=>by simp[List.getD,e1,e2]⟩
   have l1:=r1.length
   have l2:=r2.length
   have h1':j<l.length:=by rw[l1];simpa using h1
   have h2':j<m.length:=by rw[l2];simpa using h2
   have e1:l[j]?=ZA l[j]:=by simp
   have e2:m[j]?=ZA m[j]:=by simp
   obtain⟨u1,z1,w1⟩:=r1.get e1;obtain⟨u2,z2,w2⟩:=r2.get e2
   have q1:us.toArray[j]=u1:=by
    have:us[j]?=ZA us.toArray[j]:=by simp
    rw[z1]at this;exact(OH this).symm
   have q2:vs.toArray[j]=u2:=by
    have:vs[j]?=ZA vs.toArray[j]:=by simp
    rw[z2]at this;exact(OH this).symm
   rw[q1,q2]
   have g1:l.getD j .non=l[j]:=by simp[List.getD,e1]
   have g2:m.getD j .non=m[j]:=by simp[List.getD,e2]
   show EqAt A.in1 s u1 u2 (bj (l.getD j .non) (m.getD j .non))
   rw[g1,g2];refine(ih A.in1 s l[j] m[j] u1 u2 ?_ hin w1 w2).1
   rcases hd with hd|hd
   ·exact .inl (O4 (kn e1) hd)
   ·exact .inr (O4 (kn e2) hd)
  have lists:∀(l m:List T)(a b:ZE)(us vs:List NS),(deps l<=n\/deps m<=n)->ReVs s l us->ReVs s m vs->s.heap.IsList a us.toArray->s.heap.IsList b vs.toArray →
    EqAt A s (.ref a) (.ref b) (beqTs l m)/\RcAt A s (.ref a) (.ref b) (beqTs l m)/\RcNeAt A s (.ref a) (.ref b) (!beqTs l m):=λl m a b us vs hd r1 r2 h1 h2=>by
   have l1:=r1.length
   have l2:=r2.length
   have key:RcAt A s (.ref a) (.ref b) (beqTs l m)/\RcNeAt A s (.ref a) (.ref b) (!beqTs l m):=by
    by_cases hl:l.length=m.length
    ·obtain⟨e,he,hb⟩:=items l m us vs hd r1 r2
     have q:=nI l m e hb
     have q2:beqTs l m=(O7 us.toArray.size).all e:=by
      rw[q,hl,Nat.min_self];simp[l2.symm,hl.symm,l1]
     rw[q2]
     have hsz:us.toArray.size=vs.toArray.size:=by simp;omega
     exact⟨RcAt.lists h1 h2 hsz (by omega) he,RcNeAt.lists h1 h2 hsz (by omega) he⟩
    ·rw[tw hl]
     have hsz:(us.toArray.size != vs.toArray.size)=ZC:=by simp;omega
     exact⟨RcAt.lists_lengths h1 h2 hsz (by omega),RcNeAt.lists_lengths h1 h2 hsz (by omega)⟩
   refine⟨?_,key⟩
   by_cases hab:a=b
   ·subst hab
    have:=di h1 h2;subst this;rw[ReVs.refl r1 r2];exact EqAt.same _
   ·exact EqAt.of_refs hab key.1
  cases x with
  |tup l=>
   cases y with
   |tup m=>
    unfold ReV at rx ry;obtain⟨a,us,rfl,h1,r1⟩:=rx;obtain⟨b,vs,rfl,h2,r2⟩:=ry
    have hd':deps l<=n\/deps m<=n:=by
     simp only[T.dep]at hd;omega
    have l1:=r1.length
    have l2:=r2.length;obtain⟨e,he,hb⟩:=items l m us vs hd' r1 r2
    have q:=nI l m e hb
    have q2:beqTs l m=((O7 (min us.toArray.size vs.toArray.size)).all e&&us.toArray.size == vs.toArray.size):=by
     rw[q];simp[l1,l2]
    have key:RcAt A s (.ref a) (.ref b) (beqTs l m)/\RcNeAt A s (.ref a) (.ref b) (!beqTs l m):=by
     rw[q2];exact⟨RcAt.tuples h1 h2 (by omega) he,RcNeAt.tuples h1 h2 (by omega) he⟩
    unfold bj;refine⟨?_,key⟩
    by_cases hab:a=b
    ·subst hab
     have:=j9 h1 h2;subst this;rw[ReVs.refl r1 r2];exact EqAt.same _
    ·exact EqAt.of_refs hab key.1
   |_=>exact xn A s _ _ u v (by simp[kG]) (by omega) rx ry
  |lst l=>
   cases y with
   |lst m=>
    unfold ReV at rx ry;obtain⟨a,us,rfl,h1,r1⟩:=rx;obtain⟨b,vs,rfl,h2,r2⟩:=ry;unfold bj
    exact lists l m a b us vs (by simp only[T.dep]at hd;omega) r1 r2 h1 h2
   |scr m=>
    unfold ReV at rx ry;obtain⟨a,us,rfl,h1,r1⟩:=rx;obtain⟨b,vs,rfl,h2,r2⟩:=ry;unfold bj
    exact lists l (m.map T.int) a b us vs (by rw[gE];omega) r1 (eR r2) h1 h2
   |_=>exact xn A s _ _ u v (by simp[kG]) (by omega) rx ry
  |scr l=>
   cases y with
   |lst m=>
    unfold ReV at rx ry;obtain⟨a,us,rfl,h1,r1⟩:=rx;obtain⟨b,vs,rfl,h2,r2⟩:=ry;unfold bj;rw[rh]
    exact lists (l.map T.int) m a b us vs (by rw[gE];omega) (eR r1) r2 h1 h2
   |scr m=>
    unfold ReV at rx ry;obtain⟨a,us,rfl,h1,r1⟩:=rx;obtain⟨b,vs,rfl,h2,r2⟩:=ry;unfold bj;rw[tS]
    exact lists (l.map T.int) (m.map T.int) a b us vs (by rw[gE];omega) (eR r1) (eR r2) h1 h2
   |_=>exact xn A s _ _ u v (by simp[kG]) (by omega) rx ry
  |_=>exact xn A s _ _ u v (by simp[kG]) (by omega) rx ry
mutual
def T.nf:T->T
 |.tup l=>.tup (nfs l)
 |.lst l=>.lst (nfs l)
 |.scr l=>.lst (l.map .int)
 |.non=>.non
 |.bl b=>.bl b
 |.int b=>.int b
 |.str b=>.str b
 |.dct a b=>.dct a b
 |.ob a b c=>.ob a b c
def nfs:List T->List T
 |[] =>[]
 |t::l=>t.nf::nfs l
end
theorem wL:∀(l:List Int),nfs (l.map T.int)=l.map T.int
 |[] =>rfl
 |i::l=>by rw[NT,nfs,wL l];simp[T.nf]
mutual
theorem mM:∀(t x:T),bj t.nf x=bj t x
 |.non,x=>by simp[T.nf]
 |.bl _,x=>by simp[T.nf]
 |.int _,x=>by simp[T.nf]
 |.str _,x=>by simp[T.nf]
 |.tup l,x=>by cases x <;> simp[T.nf,bj,beqTs_nf l]
 |.lst l,x=>by cases x <;> simp[T.nf,bj,beqTs_nf l]
 |.scr l,x=>by cases x <;> simp[T.nf,bj,rh,tS]
 |.dct _ _,x=>by simp[T.nf]
 |.ob _ _ _,x=>by simp[T.nf]
theorem beqTs_nf:∀(l m:List T),beqTs (nfs l) m=beqTs l m
 |[],m=>by simp[nfs]
 |t::l,m=>by cases m <;> simp[nfs,beqTs,mM t,beqTs_nf l]
end
def Kb{t:T}(r:ReV s t (.int i k)):t.nf=.int i:=by
 cases t with
 |non=>unfold ReV at r;cases r
 |bl b=>unfold ReV at r;cases r
 |int j=>unfold ReV at r;obtain⟨t,e⟩:=r;injection e with e1 _;subst e1;rfl
 |str x=>unfold ReV at r;obtain⟨t,e⟩:=r;cases e
 |tup l=>unfold ReV at r;obtain⟨a,its,e,_⟩:=r;cases e
 |lst l=>unfold ReV at r;obtain⟨a,its,e,_⟩:=r;cases e
 |scr l=>unfold ReV at r;obtain⟨a,its,e,_⟩:=r;cases e
 |dct _ _=>unfold ReV at r;exact r.elim
 |ob _ _ _=>unfold ReV at r;exact r.elim
theorem Ae:∀{l:List T}{us:List NS}{ns:List Int},ReVs s l us->RQ us ns->nfs l=ns.map T.int
 |[],us,ns,r,h=>by cases ReVs.Da.mp r;cases h;rfl
 |t::l,us,ns,r,h=>by
  obtain⟨u,ws,rfl,p,q⟩:=ReVs.me.mp r
  cases h with
  |cons a b hh=>rw[nfs,Kb p,Ae q hh];rfl
mutual
theorem ReV.nf{s:NV}:∀{t u:T}{v:NS},ReV s t v->ReV s u v->t.nf=u.nf
 |.non,u,v,r,q=>by
  unfold ReV at r;subst r
  cases u <;> (unfold ReV at q) <;> first|rfl| (cases q;done)| (obtain⟨_,e⟩:=q;cases e;done)| (obtain⟨_,_,e,_⟩:=q;cases e;done)
 |.bl b,u,v,r,q=>by
  unfold ReV at r;subst r
  cases u <;> (unfold ReV at q) <;> first| (cases q;done)| (cases q;rfl)| (obtain⟨_,e⟩:=q;cases e;done)| (obtain⟨_,_,e,_⟩:=q;cases e;done)
 |.int b,u,v,r,q=>by
  unfold ReV at r;obtain⟨k,rfl⟩:=r
  cases u <;> (unfold ReV at q) <;> first| (cases q;done)| (obtain⟨_,e⟩:=q;cases e;done)| (obtain⟨_,e⟩:=q;cases e;rfl)| (obtain⟨_,_,e,_⟩:=q;cases e;done)
 |.str b,u,v,r,q=>by
  unfold ReV at r;obtain⟨k,rfl⟩:=r
  cases u <;> (unfold ReV at q) <;> first| (cases q;done)| (obtain⟨_,e⟩:=q;cases e;done)| (obtain⟨_,e⟩:=q;cases e;rfl)| (obtain⟨_,_,e,_⟩:=q;cases e;done)
 |.tup l,u,v,r,q=>by
  unfold ReV at r;obtain⟨a,its,rfl,h1,h2⟩:=r
  cases u with
  |non=>unfold ReV at q;cases q
  |dct _ _=>unfold ReV at q;exact q.elim
  |ob _ _ _=>unfold ReV at q;exact q.elim
  |bl _=>unfold ReV at q;cases q
  |int _=>unfold ReV at q;obtain⟨_,e⟩:=q;cases e
  |str _=>unfold ReV at q;obtain⟨_,e⟩:=q;cases e
  |tup m=>
   unfold ReV at q;obtain⟨a',its',e,h1',h2'⟩:=q;injection e with e;subst e
   have:=j9 h1 h1';subst this;unfold T.nf
   rw[ReVs.nf h2 h2']
  |lst m=>unfold ReV at q;obtain⟨a',its',e,h1',h2'⟩:=q;injection e with e;subst e;exact absurd rfl (ne_of_list_tuple h1' h1)
  |scr m=>unfold ReV at q;obtain⟨a',its',e,h1',h2'⟩:=q;injection e with e;subst e;exact absurd rfl (ne_of_list_tuple h1' h1)
 |.lst l,u,v,r,q=>by
  unfold ReV at r;obtain⟨a,its,rfl,h1,h2⟩:=r
  cases u with
  |non=>unfold ReV at q;cases q
  |dct _ _=>unfold ReV at q;exact q.elim
  |ob _ _ _=>unfold ReV at q;exact q.elim
  |bl _=>unfold ReV at q;cases q
  |int _=>unfold ReV at q;obtain⟨_,e⟩:=q;cases e
  |str _=>unfold ReV at q;obtain⟨_,e⟩:=q;cases e
  |lst m=>
   unfold ReV at q;obtain⟨a',its',e,h1',h2'⟩:=q;injection e with e;subst e
   have:=di h1 h1';subst this;unfold T.nf
   rw[ReVs.nf h2 h2']
  |tup m=>unfold ReV at q;obtain⟨a',its',e,h1',h2'⟩:=q;injection e with e;subst e;exact absurd rfl (ne_of_list_tuple h1 h1')
  |scr m=>
   unfold ReV at q;obtain⟨a',its',e,h1',h2'⟩:=q;injection e with e;subst e
   have:=di h1 h1';subst this;unfold T.nf
   rw[ReVs.nf h2 (eR h2'),wL]
 |.scr l,u,v,r,q=>by
  unfold ReV at r;obtain⟨a,its,rfl,h1,h2⟩:=r
  cases u with
  |non=>unfold ReV at q;cases q
  |dct _ _=>unfold ReV at q;exact q.elim
  |ob _ _ _=>unfold ReV at q;exact q.elim
  |bl _=>unfold ReV at q;cases q
  |int _=>unfold ReV at q;obtain⟨_,e⟩:=q;cases e
  |str _=>unfold ReV at q;obtain⟨_,e⟩:=q;cases e
  |lst m=>
   unfold ReV at q;obtain⟨a',its',e,h1',h2'⟩:=q;injection e with e;subst e
   have:=di h1 h1';subst this
   have z:=Ae h2' h2;unfold T.nf
   rw[z]
  |tup m=>unfold ReV at q;obtain⟨a',its',e,h1',h2'⟩:=q;injection e with e;subst e;exact absurd rfl (ne_of_list_tuple h1 h1')
  |scr m=>
   unfold ReV at q;obtain⟨a',its',e,h1',h2'⟩:=q;injection e with e;subst e
   have:=di h1 h1';subst this
   rw[ke h2 h2']
 |.dct _ _,u,v,r,q=>by unfold ReV at r;exact r.elim
 |.ob _ _ _,u,v,r,q=>by unfold ReV at r;exact r.elim
theorem ReVs.nf{s:NV}:∀{l m:List T}{us:List NS},ReVs s l us->ReVs s m us->nfs l=nfs m
 |[],m,us,r,q=>by
  cases ReVs.Da.mp r
  cases m with
  |nil=>rfl
  |cons _ _=>obtain⟨_,_,e,_⟩:=ReVs.me.mp q;cases e
 |t::l,m,us,r,q=>by
  obtain⟨v,ws,rfl,p,z⟩:=ReVs.me.mp r
  cases m with
  |nil=>cases ReVs.Da.mp q
  |cons u m=>
   obtain⟨v',ws',e,p',z'⟩:=ReVs.me.mp q;injection e with e1 e2
   subst e1 e2;rw[nfs,nfs,ReV.nf p p',ReVs.nf z z']
end
variable{x y:T}
section
variable {a b c:ZG}{fa fb fc:V5}
def gS(x y:T):Bool:=(decide (x.dep<=60)||decide (y.dep<=60))&&(x.nd&&y.nd)
def ju(x y:T):Rs T:=if gS x y=ZC then .ok (.bl (bj x y))else .bad
def lu(x y:T):Rs T:=if gS x y=ZC then .ok (.bl (!bj x y))else .bad
def kh(h:x.dep<=60)(hx:x.nd=ZC)(hy:y.nd=ZC):gS x y=ZC:=by unfold gS;rw[decide_eq_true h,hx,hy];rfl
def mF(h:y.dep<=60)(hx:x.nd=ZC)(hy:y.nd=ZC):gS x y=ZC:=by unfold gS;rw[decide_eq_true h,hx,hy,UX];rfl
def kR(h:gS x y=ZC):x.nd=ZC/\y.nd=ZC:=by
 unfold gS at h;exact Pf.mp (Pf.mp h).2
def sV(h:gS x y=ZC):x.dep<=60\/y.dep<=60:=by
 unfold gS at h
 replace h:=(Pf.mp h).1
 rcases Bool.or_eq_true_iff.mp h with h|h
 ·exact .inl (of_decide_eq_true h)
 ·exact .inr (of_decide_eq_true h)
def jm(hu:X.A.units+60<cLine):OpT X (OM .Eq) ju:=by
 intro lm s σ H O x y vx vy ux uy Q I hf rx ry r1 r2 hp;unfold ju at hp
 split at hp
 ·rename_i h
  have z:=GX 60 X.A s x y ux uy (sV h) hu (Rep.val I (kR h).1 rx r1) (Rep.val I (kR h).2 ry r2);exact z.2.1 _ _ _ _ ⟨.bl _,H,I,rfl,hp H (Same.refl H) _ (Rep.bl_ _)⟩
 ·exact hp.elim
def pU(hu:X.A.units+60<cLine):OpT X (OM .NotEq) lu:=by
 intro lm s σ H O x y vx vy ux uy Q I hf rx ry r1 r2 hp;unfold lu at hp
 split at hp
 ·rename_i h
  have z:=GX 60 X.A s x y ux uy (sV h) hu (Rep.val I (kR h).1 rx r1) (Rep.val I (kR h).2 ry r2);exact z.2.2 _ _ _ _ ⟨.bl _,H,I,rfl,hp H (Same.refl H) _ (Rep.bl_ _)⟩
 ·exact hp.elim
def T.items:T->Option (List T)
 |.tup l=>ZA l
 |.lst l=>ZA l
 |.scr l=>ZA (l.map T.int)
 |_=>ZB
def tD(x:T)(l:List T):Bool:=l.any λy=>bj y x
def KP(x y:T):Rs T:=match y.items with
 |some l=>if (x.dep<=60\/deps l<=60)/\x.nd=ZC/\y.nd=ZC then .ok (.bl (tD x l))else .bad
 |none=>.bad
def GG(rx:ReV s x ux)(hu:A.units+60<cLine)(hd:x.dep<=60\/deps l<=60)(r:ReVs s l us):
  ∃e:NS->Bool,(∀y∈us,EqAt A s y ux (e y))/\us.any e=tD x l:=by
 classical
 have ex:∀y∈us,∃t∈l,ReV s t y:=λy hy=>by
  obtain⟨i,hi,rfl⟩:=QF hy
  have hl:=r.length
  have e1:l[i]?=ZA l[i]:=by simp
  obtain⟨u,q1,q2⟩:=r.get e1
  have:us[i]?=ZA us[i]:=by simp
  rw[this]at q1;cases q1;exact⟨l[i],PB _,q2⟩
 let e:NS->Bool:=λy=>decide (∃t∈l,ReV s t y/\bj t x=ZC)
 have dep:∀t∈l,t.dep<=60\/x.dep<=60:=λt ht=>by
  rcases hd with h|h
  ·exact .inr h
  ·obtain⟨i,hi,rfl⟩:=QF ht
   exact .inl (O4 (kn (i:=i) (by simp)) h)
 have uniq:∀y t t',ReV s t y->ReV s t' y->bj t x=bj t' x:=λy t t' z z'=>by
  rw[<-mM t,<-mM t',ReV.nf z z']
 have agree:∀y t,t∈l->ReV s t y->e y=bj t x:=λy t h z=>by
  show decide (∃t∈l,ReV s t y/\bj t x=ZC)=bj t x
  cases q:bj t x with
  |true=>exact decide_eq_true ⟨t,h,z,q⟩
  |false=>
   refine decide_eq_false ?_
   rintro ⟨t',h',z',q'⟩
   rw[<-uniq y t t' z z',q]at q';cases q'
 refine⟨e,λy hy=>?_,?_⟩
 ·obtain⟨t,h,z⟩:=ex y hy
  rw[agree y t h z];exact(GX 60 A s t x y ux (dep t h) hu z rx).1
 ·have go:∀(l':List T)(us':List NS),(∀t∈l',t∈l)->ReVs s l' us'->us'.any e=l'.any λy=>bj y x:=by
   intro l'
   induction l' with
   |nil=>intro us' _ r';rw[ReVs.Da.mp r'];rfl
   |cons t l' ih=>
    intro us' sub r';obtain⟨u,ws,rfl,p,q⟩:=ReVs.me.mp r';rw[QH,QH,ih ws (λt ht=>sub t (NR _ ht)) q,agree u t (sub t NU) p]
  exact go l us (λ_ h=>h) r
def Be{u:NS}(r:ReV s y u)(h:y.items=ZA l):∃a us,u=.ref a/\ReVs s l us/\(s.heap.IsTuple a us.toArray\/s.heap.IsList a us.toArray):=by
 cases y with
 |tup m=>cases h;unfold ReV at r;obtain⟨a,us,e,h1,h2⟩:=r;exact⟨a,us,e,h2,.inl h1⟩
 |lst m=>cases h;unfold ReV at r;obtain⟨a,us,e,h1,h2⟩:=r;exact⟨a,us,e,h2,.inr h1⟩
 |scr m=>cases h;unfold ReV at r;obtain⟨a,us,e,h1,h2⟩:=r;exact⟨a,us,e,eR h2,.inr h1⟩
 |_=>cases h
def LK(hu:X.A.units+61<cLine):OpT X (OM .In) KP:=by
 intro lm s σ H O x y vx vy ux uy Q I hf rx ry r1 r2 hp;unfold KP at hp
 split at hp
 ·rename_i l hl
  split at hp
  ·rename_i hd3
   obtain⟨hd,hnx,hny⟩:=hd3;obtain⟨a,us,rfl,rs,hh⟩:=Be (Rep.val I hny ry r2) hl;obtain⟨e,he,ha⟩:=GG (A:=X.A.in1) (Rep.val I hnx rx r1) (by show X.A.units+1+60<cLine;omega) hd rs
   have q:=hp H (Same.refl H) _ (Rep.bl_ (tD x l))
   have he':∀y,y∈us.toArray->EqAt X.A.in1 s y ux (e y):=λy hy=>he y (by simpa using hy)
   have ha':us.toArray.any e=tD x l:=by simpa using ha
   rcases hh with hh|hh
   ·exact in_tupleAt e hh he' (by rw[ha'];exact⟨.bl _,H,I,rfl,q⟩)
   ·exact in_listAt e hh he' (by rw[ha'];exact⟨.bl _,H,I,rfl,q⟩)
  ·exact hp.elim
 ·exact hp.elim
noncomputable def ch(g g':T->T->Rs T)(fa fb fc:V5)(Z:En):Rs T:=do
 let x <-fa Z
 let y <-fb Z
 let z <-g x y
 match z with
 |.bl ZC=>do
  let w <-fc Z
  g' y w
 |.bl ZD=>.ok (.bl ZD)
 |_=>.bad
def Gb{g g':T->T->Rs T}(ho:OpT X (OM op) g)(ho':OpT X (OM op') g')(ha:cE X a fa)(hb:cE X b fb)(hc:cE X c fc)
  (hm:autoParam (VB [op,op'] [b,c]=ZD) v_):cE X (.Compare a [op,op'] [b,c] pos) (ch g g' fa fb fc):=by
 intro lm s σ H Q I ⟨Z,O,E,hq⟩
 have h1:=aZ E hq;refine Compare_chain (bW (ha lm s σ H _ I h1) λv s1 ⟨x,H1,I1,r1,t,rt,s',E',q1⟩=>chain_link ?_) hm
 have h2:=aZ (f:=fb) E' q1;refine bW (hb lm s1 σ H1 _ I1 h2) λu s2 hh_=>?_
 obtain⟨y,H2,I2,r2,t2,rt2,s'',E'',q2⟩:=hh_
 refine bW (ho lm s2 σ H2 O t t2 x y v u (λv' H'=>∃t',Rep X.K O H' t' v'/\Same H2 H'/\Post X H' (match t' with
  |.bl ZC=>fc Z >>= λw=>g' t2 w
  |.bl ZD=>.ok (.bl ZD)
  |_=>.bad) (λt H'=>∀v,Rep X.K O H' t v->Q v H')) I2 (λp=>E''.fresh) (rt.same s'') rt2 r1 r2 (Post.mono q2.bind λt' H' s3 q v rv=>⟨t',rv,s3,q⟩)) λd s3 ⟨z,H3,I3,r3,t3,rt3,sm3,q3⟩=>?_
 have E3:=E''.same sm3
 split at q3
 ·cases Rep.FM.mp rt3
  cases r3;refine OY (ite_tt (chain_last ?_))
  have h4:=aZ (f:=fc) E3 q3;refine bW (hc lm s3 σ H3 _ I3 h4) λw' s4 ⟨z',H4,I4,r4,t4,rt4,s4',E4,q4⟩=>?_
  exact ho' lm s4 σ H4 O t2 t4 y z' u w' Q I4 (λp=>E4.fresh) ((rt2.same sm3).same s4') rt4 r2 r4 q4
 ·cases Rep.FM.mp rt3
  cases r3;refine OY (ite_ff ⟨.bl ZD,H3,I3,rfl,q3 H3 (Same.refl H3) _ (Rep.bl_ ZD)⟩)
 ·exact q3.elim
def tb(f:V5)(Z:En):Rs Bool:=do
 let x <-f Z
 match x with
 |.bl k=>.ok k
 |_=>.bad
def bt(f:V6)(Z:En):Rs T:=do
 let k <-f Z
 .ok (.bl k)
def IK{f:V5}(h:cE X e f)(he:autoParam (∀whole,isTrue e X.env whole=(do let v <-whole;standAt e.pos;holding [v] (truthy v))) t_):tE X e (tb f):=by
 intro lm s σ H Q I ⟨Z,O,E,hq⟩;refine CO h he lm s σ H Q I ?_
 obtain⟨Z1,O1,E1,h1⟩:=aZ E hq;refine⟨Z1,O1,E1,Post.mono h1 λts H1 s1 q vs r=>?_⟩
 obtain⟨t',r',s',E',q'⟩:=q vs r
 split at q'
 ·exact⟨_,Rep.FM.mp r',q' H1 (Same.refl H1)⟩
 ·exact q'.elim
def IM{g:T->T->Rs T}(ho:OpT X (OM op) g)(ha:cE X a fa)(hb:cE X b fb)(hm:Qm op b=ZD:=by rfl):tE X (.Compare a [op] [b] pos) (tb (o2 g fa fb)):=by
 intro lm s σ H Q I ⟨Z,O,E,hq⟩
 have hq':Post X H (o2 g fa fb Z) λt H'=>∀v,Rep X.K O H' t v->∃k,v=.bl k/\Q k H':=Post.mono hq.bind λt H' s' q v r=>by
  split at q
  ·exact⟨_,Rep.FM.mp r,q H' (Same.refl H')⟩
  ·exact q.elim
 have h1:=aZ E hq';refine RN (bW (ha lm s σ H _ I h1) λv s1 ⟨x,H1,I1,r1,t,rt,s',E',q1⟩=>?_) hm
 have h2:=aZ (f:=fb) E' q1;refine bW (hb lm s1 σ H1 _ I1 h2) λu s2 hh_=>?_
 obtain⟨y,H2,I2,r2,t2,rt2,s'',E'',q2⟩:=hh_;refine bW (ho lm s2 σ H2 O t t2 x y v u _ I2 (λp=>E''.fresh) (rt.same s'') rt2 r1 r2 q2) λd s3 hh_=>?_
 obtain⟨z,H3,I3,r3,k,e,q3⟩:=hh_;subst e;cases r3;exact OY ⟨H3,I3,q3⟩
def CC{g g':T->T->Rs T}(ho:OpT X (OM op) g)(ho':OpT X (OM op') g')(ha:cE X a fa)(hb:cE X b fb)(hc:cE X c fc)
  (hm:autoParam (VB [op,op'] [b,c]=ZD) v_):tE X (.Compare a [op,op'] [b,c] pos) (tb (ch g g' fa fb fc)):=by
 intro lm s σ H Q I ⟨Z,O,E,hq⟩
 have hq':Post X H (ch g g' fa fb fc Z) λt H'=>∀v,Rep X.K O H' t v->∃k,v=.bl k/\Q k H':=Post.mono hq.bind λt H' s' q v r=>by
  split at q
  ·exact⟨_,Rep.FM.mp r,q H' (Same.refl H')⟩
  ·exact q.elim
 have h1:=aZ E hq';refine isTrue_chain (bW (ha lm s σ H _ I h1) λv s1 ⟨x,H1,I1,r1,t,rt,s',E',q1⟩=>test_link ?_) hm
 have h2:=aZ (f:=fb) E' q1;refine bW (hb lm s1 σ H1 _ I1 h2) λu s2 hh_=>?_
 obtain⟨y,H2,I2,r2,t2,rt2,s'',E'',q2⟩:=hh_
 refine bW (ho lm s2 σ H2 O t t2 x y v u (λv' H'=>∃t',Rep X.K O H' t' v'/\Same H2 H'/\Post X H' (match t' with
  |.bl ZC=>fc Z >>= λw=>g' t2 w
  |.bl ZD=>.ok (.bl ZD)
  |_=>.bad) (λt H'=>∀v,Rep X.K O H' t v->∃k,v=.bl k/\Q k H')) I2 (λp=>E''.fresh) (rt.same s'') rt2 r1 r2 (Post.mono q2.bind λt' H' s3 q v rv=>⟨t',rv,s3,q⟩)) λd s3 ⟨z,H3,I3,r3,t3,rt3,sm3,q3⟩=>?_
 have E3:=E''.same sm3
 split at q3
 ·cases Rep.FM.mp rt3
  cases r3;refine OY (ite_tt (test_last ?_))
  have h4:=aZ (f:=fc) E3 q3;refine bW (hc lm s3 σ H3 _ I3 h4) λw' s4 ⟨z',H4,I4,r4,t4,rt4,s4',E4,q4⟩=>?_
  refine bW (ho' lm s4 σ H4 O t2 t4 y z' u w' _ I4 (λp=>E4.fresh) ((rt2.same sm3).same s4') rt4 r2 r4 q4) λd' s5 ⟨z2,H5,I5,r5,k2,e2,q5⟩=>?_
  subst e2;cases r5;exact OY ⟨H5,I5,q5⟩
 ·cases Rep.FM.mp rt3
  cases r3;obtain⟨k,e,q⟩:=q3 H3 (Same.refl H3) _ (Rep.bl_ ZD);cases e;exact OY (ite_ff ⟨H3,I3,q⟩)
 ·exact q3.elim
def xG(f g:V6)(Z:En):Rs Bool:=do
 let k <-f Z
 if k then g Z else .ok ZD
def m5(f g:V6)(Z:En):Rs Bool:=do
 let k <-f Z
 if k then .ok ZC else g Z
def d8(f:V6)(Z:En):Rs Bool:=do
 let k <-f Z
 .ok (!k)
variable {f g:V6}{cb:List ZG}
abbrev Ib(X:Cx)(e:ZG)(f:V6):Prop:=PW X e (Ck X f)
def FV(ha:tE X a f):Ib X (.BoolOp .And [a] pos) f:=Ge ha
def II(ha:tE X a f):Ib X (.BoolOp .Or [a] pos) f:=CL ha
def IJ(ha:tE X a f)(hb:Ib X (.BoolOp .And (b::cb) pos) g):Ib X (.BoolOp .And (a::b::cb) pos) (xG f g):=by
 intro wh lm s σ H Q I ⟨Z,O,E,hq⟩;refine Ji ha hb wh lm s σ H Q I ?_
 obtain⟨Z1,O1,E1,h1⟩:=lY E hq;refine⟨Z1,O1,E1,Post.mono h1 λk H1 s1 q=>?_⟩
 obtain⟨s',E',q'⟩:=q
 cases k with
 |true=>rw[if_pos rfl];exact⟨Z,O,E',by simpa using q'⟩
 |false=>rw[if_neg N9];exact q' H1 (Same.refl H1)
def Li(ha:tE X a f)(hb:Ib X (.BoolOp .Or (b::cb) pos) g):Ib X (.BoolOp .Or (a::b::cb) pos) (m5 f g):=by
 intro wh lm s σ H Q I ⟨Z,O,E,hq⟩;refine HH ha hb wh lm s σ H Q I ?_
 obtain⟨Z1,O1,E1,h1⟩:=lY E hq;refine⟨Z1,O1,E1,Post.mono h1 λk H1 s1 q=>?_⟩
 obtain⟨s',E',q'⟩:=q
 cases k with
 |true=>rw[if_pos rfl];exact q' H1 (Same.refl H1)
 |false=>rw[if_neg N9];exact⟨Z,O,E',by simpa using q'⟩
def qt_w(h:Ib X e f):tE X e f:=h.pt
def IL(ha:tE X a f):tE X (.UnaryOp .Not a pos) (d8 f):=by
 intro lm s σ H Q I ⟨Z,O,E,hq⟩;refine CP ha lm s σ H Q I ?_
 obtain⟨Z1,O1,E1,h1⟩:=lY E hq;exact⟨Z1,O1,E1,Post.mono h1 λk H1 s1 ⟨s',E',q'⟩=>q' H1 (Same.refl H1)⟩
def dk(f g:V5)(Z:En):Rs T:=do
 let x <-f Z
 match x with
 |.bl ZC=>g Z
 |.bl ZD=>.ok (.bl ZD)
 |_=>.bad
def Fb(f g:V5)(Z:En):Rs T:=do
 let x <-f Z
 match x with
 |.bl ZC=>.ok (.bl ZC)
 |.bl ZD=>g Z
 |_=>.bad
def GA:T->Rs T
 |.bl k=>.ok (.bl (!k))
 |_=>.bad
def Lq{op}(h:cE X a fa):cE X (.BoolOp op [a] pos) fa:=Jo h
def LC(ha:cE X a fa)(hb:cE X (.BoolOp .And (b::cb) pos) fb):cE X (.BoolOp .And (a::b::cb) pos) (dk fa fb):=by
 intro lm s σ H Q I ⟨Z,O,E,hq⟩;refine Js ha hb lm s σ H Q I ?_
 obtain⟨Z1,O1,E1,h1⟩:=aZ E hq;refine⟨Z1,O1,E1,Post.mono h1 λts H1 s1 q vs r=>?_⟩
 obtain⟨t',r',s',E',q'⟩:=q vs r
 split at q'
 ·exact⟨ZC,Rep.FM.mp r',by rw[if_pos rfl];exact⟨Z,O,E',q'⟩⟩
 ·exact⟨ZD,Rep.FM.mp r',by rw[if_neg N9];exact q' H1 (Same.refl H1) _ (Rep.bl_ ZD)⟩
 ·exact q'.elim
def q_or(ha:cE X a fa)(hb:cE X (.BoolOp .Or (b::cb) pos) fb):cE X (.BoolOp .Or (a::b::cb) pos) (Fb fa fb):=by
 intro lm s σ H Q I ⟨Z,O,E,hq⟩;refine LJ ha hb lm s σ H Q I ?_
 obtain⟨Z1,O1,E1,h1⟩:=aZ E hq;refine⟨Z1,O1,E1,Post.mono h1 λts H1 s1 q vs r=>?_⟩
 obtain⟨t',r',s',E',q'⟩:=q vs r
 split at q'
 ·exact⟨ZC,Rep.FM.mp r',by rw[if_pos rfl];exact q' H1 (Same.refl H1) _ (Rep.bl_ ZC)⟩
 ·exact⟨ZD,Rep.FM.mp r',by rw[if_neg N9];exact⟨Z,O,E',q'⟩⟩
 ·exact q'.elim
def Lr(ha:cE X a fa):cE X (.UnaryOp .Not a pos) (o1 GA fa):=by
 intro lm s σ H Q I ⟨Z,O,E,hq⟩;refine Jp ha lm s σ H Q I ?_
 obtain⟨Z1,O1,E1,h1⟩:=aZ E hq;refine⟨Z1,O1,E1,Post.mono h1 λts H1 s1 q vs r=>?_⟩
 obtain⟨t',r',s',E',q'⟩:=q vs r;unfold GA at q'
 split at q'
 ·exact⟨_,Rep.FM.mp r',q' H1 (Same.refl H1) _ (Rep.bl_ _)⟩
 ·exact q'.elim
def qO(f:V6)(fa fb:V5)(Z:En):Rs T:=do
 let k <-f Z
 if k then fa Z else fb Z
def q_if(hc:tE X c f)(ha:cE X a fa)(hb:cE X b fb):cE X (.IfExp c a b pos) (qO f fa fb):=by
 intro lm s σ H Q I ⟨Z,O,E,hq⟩;refine v9 hc ha hb lm s σ H Q I ?_
 obtain⟨Z1,O1,E1,h1⟩:=lY E hq;refine⟨Z1,O1,E1,Post.mono h1 λk H1 s1 q=>?_⟩
 obtain⟨s',E',q'⟩:=q
 cases k with
 |true=>rw[if_pos rfl];exact⟨Z,O,E',by simpa using q'⟩
 |false=>rw[if_neg N9];exact⟨Z,O,E',by simpa using q'⟩
end
end Tr
namespace HT
open PySem PyProof.Rows
def k8{t:ZE}{items:Array NS}{Q:Bool->NV->Prop}(ht:VF s.heap t items)(h:Q ZC s):ZJ (ZK prog w) A (R7 (.ref t)) Q E s:=by
 unfold R7;refine NY (Sg ht.typeIs (Oe ?_))
 exact h
def getItem_tuple_whole{t sl:ZE}{items:Array NS}(ht:VF s.heap t items)(hs:s.heap.IsSliceOf sl vl vu .none)(pl:Uu vl lo)(pu:Uu vu hi)
  (hw:sIx items.size 0 lo=0/\sIx items.size items.size hi=items.size) (h:Q (.ref t) s):ZJ (ZK prog w) A (getItem (.ref t) (.ref sl)) Q E s:=by
 obtain⟨os,hos,hcs,hds⟩:=id hs
 have hTs:s.TypeIs (.ref sl) "slice":=⟨os,hos,hcs⟩;unfold getItem
 try with_reducible refine SN ?_
 first|refine NY (Oe ?_)|skip
 refine NY (UN ht.typeIs (by decide) ?_)
 refine NY (P6 (name:=N7 "__getitem__") ht.typeIs O9
  (Rb O9 ht.typeIs T6 ?_ (Uv _ _)))
 show ZJ _ _ (R6 (.ref t) >>= _) _ _ s
 refine NY (Uw ht ?_)
 refine NY (Sg hTs ?_)
 rw[if_pos (by decide)]
 refine NY (iB hs pl pu ?_)
 have hyes:(((sIx items.size 0 lo:Nat):Int) == 0&&(1:Int) == 1&&(sIx items.size items.size hi - sIx items.size 0 lo) == items.size)=ZC:=by
  rw[hw.1,hw.2];simp
 show ZJ _ _ (if (((sIx items.size 0 lo:Nat):Int) == 0&&(1:Int) == 1&&(sIx items.size items.size hi - sIx items.size 0 lo) == items.size)=ZC then _ else _) _ _ s
 rw[if_pos hyes]
 first
  |refine NY (k8 ht ?_)
  |refine k8 ht ?_
 try rw[if_pos rfl]
 first
  |exact NY (UO (Oe ⟨_,rfl,Oe h⟩))
  |exact NY (UO (NY (Oe (Oe ⟨_,rfl,Oe h⟩))))
end HT
variable{i:Nat}
namespace Tr
open PySem PySem.Spec PyProof.Rows L2
variable{H:Hp}{O:Ow}{X:Cx}{Z:En}{e:ZG}{es:List ZG}{fa fb fc:V5}{l:List T}{p pos:Pos}{v:V}{vs:List V}{x:Str}{σ:L2.St}
section
variable {a b c:ZG}
theorem Reps.atI{i:Int}{t:T}(r:Reps K O H l vs)(e:L2.atI l i=ZA t):∃v,L2.atI vs i=ZA v/\Rep K O H t v:=by
 unfold L2.atI at e ⊢;rw[r.length]at e
 cases q:ixN vs.length i with
 |none=>rw[q]at e;cases e
 |some j=>
  rw[q]at e;obtain⟨v,e1,e2⟩:=r.get (i:=j) (t:=t) e;exact⟨v,e1,e2⟩
def aQ(x y:T):Rs T:=match x.items,y with
 |some l,.int i=>match L2.atI l i with
  |some t=>.ok t
  |none=>.bad
 |_,_=>.bad
def q_ix(ha:cE X a fa)(hb:cE X b fb)(hs:autoParam (Ay b) w_):cE X (.Subscript a b pos) (o2 aQ fa fb):=by
 intro lm s σ H Q I ⟨Z,O,E,hq⟩
 have h1:=aZ E hq;refine Subscript_ (bW (ha lm s σ H _ I h1) λv s1 hh_=>?_)
 obtain⟨x,H1,I1,r1,t,rt,s',E',q1⟩:=hh_
 have h2:=aZ (f:=fb) E' q1;refine bW (hb lm s1 σ H1 _ I1 h2) λu s2 hh_=>?_
 obtain⟨y,H2,I2,r2,t2,rt2,s'',E'',q2⟩:=hh_
 have rt':=rt.same s'';unfold aQ at q2
 split at q2
 ·rename_i l i hl
  split at q2
  ·rename_i z hz
   have hy:=Rep.AC.mp rt2;refine J9 a b lm s2 σ H2 x y v u Q I2 r1 r2 ?_ (hs _ _)
   cases t with
   |tup m=>
    cases hl;obtain⟨p,vs,e,n,q,rr⟩:=Rep.Fk.mp rt';obtain⟨w,ew,rw'⟩:=rr.atI hz
    exact .inr (.inl ⟨p,vs,i,w,e,hy,SqT.of q,ew,q2 H2 (Same.refl H2) _ rw'⟩)
   |lst m=>
    cases hl;obtain⟨p,vs,e,n,q,rr⟩:=Rep.Do.mp rt';obtain⟨w,ew,rw'⟩:=rr.atI hz
    exact .inl ⟨p,vs,i,w,e,hy,SqL.of q,ew,q2 H2 (Same.refl H2) _ rw'⟩
   |scr m=>
    cases hl;unfold Rep at rt';obtain⟨p,e,n,q⟩:=rt';obtain⟨w,ew,rw'⟩:=(Reps.ints (K:=X.K) (O:=O) (H:=H2) (ns:=m)).atI hz
    exact .inl ⟨p,_,i,w,e,hy,q,ew,q2 H2 (Same.refl H2) _ rw'⟩
   |_=>cases hl
  ·exact q2.elim
 ·exact q2.elim
def nG(l:List T)(lo hi:Option Int):List T:=(l.drop (HT.sIx l.length 0 lo)).take (HT.sIx l.length l.length hi - HT.sIx l.length 0 lo)
def Reps.cut(r:Reps K O H l vs)(lo hi:Option Int):Reps K O H (nG l lo hi) (xA vs lo hi):=by
 unfold nG xA;rw[r.length];exact(r.drop _).take _
def Bs(h:HT.sIx l.length 0 lo=0/\HT.sIx l.length l.length hi=l.length):nG l lo hi=l:=by
 unfold nG;rw[h.1,h.2];simp
def sl_tup_whole:SlR X (λx lo hi H Q=>∃a xs,x=.ref a/\SqT X.K H a xs/\(HT.sIx xs.length 0 lo=0/\HT.sIx xs.length xs.length hi=xs.length)/\Q (.ref a) H):=by
 intro lm s σ H x v vl vu lo hi sl Q I rx hs pl pu h;obtain⟨a,xs,rfl,hx,hw,q⟩:=h;cases rx;obtain⟨its,r,ht,hz⟩:=I.tuple hx
 have hlen:its.toArray.size=xs.length:=by rw[Od];exact r.length.symm
 refine⟨"tuple",_,O9.lookup,ht.typeIs,?_⟩
 exact HT.getItem_tuple_whole ht hs pl pu (by rw[hlen];exact hw) ⟨.ref a,H,I,rfl,q⟩
def pN(_:En):Rs (Option Int):=.ok ZB
def pS(f:V5)(Z:En):Rs (Option Int):=do
 let x <-f Z
 match x with
 |.int i=>.ok (ZA i)
 |_=>.bad
def tPO(X:Cx)(f:En->Rs (Option Int)):TO:=λσ H Q=>∃Z O,EnvO X.K O H Z σ/\Post X H (f Z) λb H'=>Q b H'
abbrev MH(X:Cx)(e:Option ZG)(f:En->Rs (Option Int)):Prop:=PO X e (tPO X f)
def F2:MH X ZB pN:=by
 intro lm s σ H Q I ⟨Z,O,E,hq⟩;exact Gj lm s σ H Q I (hq H (Same.refl H))
def F1(ha:cE X a fa):MH X (ZA a) (pS fa):=by
 intro lm s σ H Q I ⟨Z,O,E,hq⟩;refine Gi ha lm s σ H Q I ?_
 obtain⟨Z1,O1,E1,h1⟩:=aZ E hq;refine⟨Z1,O1,E1,Post.mono h1 λts H1 s1 q vs r=>?_⟩
 obtain⟨t',r',s',E',q'⟩:=q vs r
 split at q'
 ·exact⟨_,Rep.AC.mp r',q' H1 (Same.refl H1)⟩
 ·exact q'.elim
def slT(x:T)(lo hi:Option Int):Rs T:=match x with
 |.tup l=>.ok (.tup (nG l lo hi))
 |.lst l=>.ok (.lst (nG l lo hi))
 |_=>.bad
def sl(fe:V5)(fl fu:En->Rs (Option Int))(Z:En):Rs T:=do
 let x <-fe Z
 let l <-fl Z
 let u <-fu Z
 slT x l u
def vH{f:En->Rs (Option Int)}{k:Option Int->Rs α}{Q:α->Hp->Prop}(E:EnvO X.K O H Z σ)(h:Post X H (f Z >>= k) Q):
  tPO X f σ H λb H'=>Same H H'/\EnvO X.K O H' Z σ/\Post X H' (k b) Q:=
 ⟨Z,O,E,Post.mono h.bind λt H' s q=>⟨s,E.same s,q⟩⟩
def F9{lo hi:Option ZG}{p2:Pos}{fl fu:En->Rs (Option Int)}(ha:cE X a fa)(hl:MH X lo fl)(hu:MH X hi fu):cE X (.Subscript a (.Slice lo hi ZB p2) pos) (sl fa fl fu):=by
 intro lm s σ H Q I ⟨Z,O,E,hq⟩;refine CY (sl_tup.or (sl_tup_whole.or FG)) ha hl hu lm s σ H Q I ?_
 obtain⟨Z1,O1,E1,h1⟩:=aZ E hq;refine⟨Z1,O1,E1,Post.mono h1 λts H1 s1 q vs r=>?_⟩
 obtain⟨t',r',s',E',q'⟩:=q vs r;obtain⟨Z2,O2,E2,h2⟩:=vH E' q';refine⟨Z2,O2,E2,Post.mono h2 λo1 H2 s2 q=>?_⟩
 obtain⟨s2',E2',q2⟩:=q;obtain⟨Z3,O3,E3,h3⟩:=vH E2' q2;refine⟨Z3,O3,E3,Post.mono h3 λo2 H3 s3 q=>?_⟩
 obtain⟨s3',E3',q3⟩:=q
 have rt:=(r'.same s2').same s3';unfold slT at q3
 split at q3
 ·rename_i l
  obtain⟨p,ws,e,n,q,rr⟩:=Rep.Fk.mp rt
  have hlen:=rr.length
  by_cases hw:HT.sIx ws.length 0 o1=0/\HT.sIx ws.length ws.length o2=ws.length
  ·refine .inr (.inl ⟨p,ws,e,SqT.of q,hw,?_⟩)
   rw[<-hlen]at hw;refine q3 H3 (Same.refl H3) _ ?_
   rw[Bs hw];exact Rep.Fk.mpr ⟨p,ws,rfl,n,q,rr⟩
  ·exact .inl ⟨p,ws,e,SqT.of q,hw,λp' hp=>q3 _ (bh hp _) _ (iD hp (E3'.fresh hp) (rr.cut o1 o2))⟩
 ·rename_i l
  obtain⟨p,ws,e,n,q,rr⟩:=Rep.Do.mp rt;exact .inr (.inr ⟨p,ws,e,SqL.of q,λp' hp=>q3 _ (bh hp _) _ (mj hp (E3'.fresh hp) (rr.cut o1 o2))⟩)
 ·exact q3.elim
def CallT(X:Cx)(f:NS)(g:List T->Rs T):Prop:=
 ∀(lm:V2)(s:NV)(σ:L2.St)(H:Hp)(O:Ow)(ts:List T)(vs:List V)(us:List NS)(Q:VK),Inv X lm σ H s->(∀p,H p=ZB->¬ O p)->Reps X.K O H ts vs->Vals vs us →
  Post X H (g ts) (λt H'=>∀v,Rep X.K O H' t v->Q v H')->ZJ (ZK X.prog X.w) X.A (call f us) (EP X lm σ Q) X.xe s
def CallT.of{r:List V->Hp->VK->Prop}(h:CallR X f r){g:List T->Rs T}
  (w:∀(H:Hp)(O:Ow)(ts:List T)(vs:List V)(Q:VK),(∀p,H p=ZB->¬ O p)->Reps X.K O H ts vs->Post X H (g ts) (λt H'=>∀v,Rep X.K O H' t v->Q v H')->r vs H Q):CallT X f g:=
 λlm s σ H O ts vs us Q I hf rs rv hp=>h lm s σ H vs us Q I rv (w H O ts vs Q hf rs hp)
def cl(g:List T->Rs T)(fs:V3)(Z:En):Rs T:=fs Z >>= g
variable {fs:V3}{id:String}{g:List T->Rs T}
def Gd(hc:CallT X (.builtin id) g)(hm:X.mg x=ZB)(hv:OL x=ZA (.builtin id))(ha:pk X (e::es) fs)(hg:Gl X x:=by rfl)(hn:autoParam (x≠ "__name__") s_)(hdb:autoParam ((x == ("__debug__" : Str))=ZD) s_)
  (he:N5 (e::es) X.env=(ZD,eval e X.env)::N5 es X.env:=by rfl) (hpl:(backTo pos (N5 es X.env)).any (·.1)=ZD:=by rfl):cE X (.Call (.Name x p) (e::es) [] pos) (cl g fs):=by
 intro lm s σ H Q I ⟨Z,O,E,hq⟩;refine ON (gg I hg hm hv ?_ hn hdb)
 have h1:=fV E hq;exact PQ (bW (ha pos lm s σ H _ I h1) λus s1 ⟨vs,H1,I1,r1,ts,rs,s',E',q1⟩=>hc lm s1 σ H1 O ts vs us Q I1 (λp=>E'.fresh) rs r1 q1) he hpl
def CK(hc:CallT X (.type Ty) g)(hm:X.mg x=ZB)(hv:OL x=ZA (.type Ty))(ha:pk X (e::es) fs)(hg:Gl X x:=by rfl)(hn:autoParam (x≠ "__name__") s_)(hdb:autoParam ((x == ("__debug__" : Str))=ZD) s_)
  (he:N5 (e::es) X.env=(ZD,eval e X.env)::N5 es X.env:=by rfl) (hpl:(backTo pos (N5 es X.env)).any (·.1)=ZD:=by rfl):cE X (.Call (.Name x p) (e::es) [] pos) (cl g fs):=by
 intro lm s σ H Q I ⟨Z,O,E,hq⟩;refine ON (gg I hg hm hv ?_ hn hdb)
 have h1:=fV E hq;exact Pa (bW (ha pos lm s σ H _ I h1) λus s1 ⟨vs,H1,I1,r1,ts,rs,s',E',q1⟩=>hc lm s1 σ H1 O ts vs us Q I1 (λp=>E'.fresh) rs r1 q1) he hpl
def Reps.one{t:T}(r:Reps K O H [t] vs):∃v,vs=[v]/\Rep K O H t v:=by
 obtain⟨v,ws,rfl,p,q⟩:=Reps.me.mp r;cases Reps.Da.mp q;exact⟨v,rfl,p⟩
def Rep.sq{t:T}(r:Rep K O H t v)(h:t.items=ZA l):∃a vs,v=.ref a/\¬ O a/\Reps K O H l vs/\(SqL K H a vs\/SqT K H a vs):=by
 cases t with
 |tup m=>cases h;obtain⟨a,vs,e,n,q,z⟩:=Rep.Fk.mp r;exact⟨a,vs,e,n,z,.inr (SqT.of q)⟩
 |lst m=>cases h;obtain⟨a,vs,e,n,q,z⟩:=Rep.Do.mp r;exact⟨a,vs,e,n,z,.inl (SqL.of q)⟩
 |scr m=>cases h;unfold Rep at r;obtain⟨a,e,n,q⟩:=r;exact⟨a,_,e,n,Reps.ints,.inl q⟩
 |_=>cases h
noncomputable def bX:List T->Rs T
 |[.str x] =>if x.length<=ZI then .ok (.int x.length)else .bad
 |[x] =>match x.items with
  |some l=>.ok (.int l.length)
  |none=>.bad
 |_=>.bad
def cp:CallT X (.builtin "len") bX:=CallT.of (call_len_seq.or vf) λH O ts vs Q hf rs hp=>by
 unfold bX at hp
 split at hp
 ·obtain⟨v,rfl,r⟩:=rs.one
  split at hp
  ·rename_i h
   exact .inr ⟨_,by rw[Rep.GM.mp r],h,hp H (Same.refl H) _ (Rep.Gc _)⟩
  ·exact hp.elim
 ·obtain⟨v,rfl,r⟩:=rs.one
  split at hp
  ·rename_i l hl
   obtain⟨a,vs,rfl,n,z,q⟩:=r.sq hl;exact .inl ⟨a,vs,rfl,q,hp H (Same.refl H) _ (by rw[<-z.length];exact Rep.Gc _)⟩
  ·exact hp.elim
 ·exact hp.elim
def lE:List T->Rs T
 |[.tup l] =>.ok (.tup l)
 |[.lst l] =>.ok (.tup l)
 |_=>.bad
def qY:CallT X (.type "tuple") lE:=CallT.of r9 λH O ts vs Q hf rs hp=>by
 unfold lE at hp
 split at hp
 ·obtain⟨v,rfl,r⟩:=rs.one
  obtain⟨a,ws,rfl,n,q,z⟩:=Rep.Fk.mp r;exact⟨a,ws,rfl,.inr ⟨SqT.of q,hp H (Same.refl H) _ (Rep.Fk.mpr ⟨a,ws,rfl,n,q,z⟩)⟩⟩
 ·obtain⟨v,rfl,r⟩:=rs.one
  obtain⟨a,ws,rfl,n,q,z⟩:=Rep.Do.mp r;exact⟨a,ws,rfl,.inl ⟨SqL.of q,λl hl=>hp _ (bh hl _) _ (iD hl (hf l hl) z)⟩⟩
 ·exact hp.elim
def D1:List T->Rs T
 |[.int i] =>.ok (.int i)
 |[.bl k] =>.ok (.int (if k then 1 else 0))
 |_=>.bad
def Kx:CallT X (.type "int") D1:=CallT.of Bx λH O ts vs Q hf rs hp=>by
 unfold D1 at hp
 split at hp
 ·obtain⟨v,rfl,r⟩:=rs.one
  exact .inl ⟨_,by rw[Rep.AC.mp r],hp H (Same.refl H) _ (Rep.Gc _)⟩
 ·obtain⟨v,rfl,r⟩:=rs.one
  exact .inr ⟨_,by rw[Rep.FM.mp r],hp H (Same.refl H) _ (Rep.Gc _)⟩
 ·exact hp.elim
def rg:List T->Option (List Bool)
 |[] =>ZA []
 |.bl k::r=>(rg r).map (k:: ·)
 |_=>ZB
def se:List T->Rs T
 |[.lst l] =>match rg l with
  |some ks=>.ok (.bl (ks.all λk=>k))
  |none=>.bad
 |_=>.bad
theorem rf:∀{l:List T}{ks:List Bool}{vs:List V}{us:List NS},rg l=ZA ks->Reps K O H l vs->Vals vs us->us=ks.map OS
 |[],ks,vs,us,e,r,v=>by cases e;cases Reps.Da.mp r;cases v;rfl
 |t::l,ks,vs,us,e,r,v=>by
  obtain⟨w,ws,rfl,p,q⟩:=Reps.me.mp r
  cases t with
  |bl k=>
   unfold rg at e
   cases z:rg l with
   |none=>rw[z]at e;cases e
   |some ks'=>
    rw[z]at e;cases e
    cases v with
    |cons v1 v2=>
     cases Rep.FM.mp p;cases v1
     rw[rf z q v2];rfl
  |_=>cases e
def vd(hc:X.calm=ZC):CallT X (.builtin "all") se:=by
 intro lm s σ H O ts vs us Q I hf rs rv hp;unfold se at hp
 split at hp
 ·obtain⟨v,rfl,r⟩:=rs.one
  split at hp
  ·rename_i ks hk
   obtain⟨a,ws,rfl,n,q,z⟩:=Rep.Do.mp r;obtain⟨u,rfl,ru⟩:=jA rv;cases ru;obtain⟨its,r',pl,hz⟩:=I.list (SqL.of q)
   have hits:=rf hk z r';refine call_all_walk (SA pl.isList ?_)
   have hne:a≠s.heap.objs.size:=λe=>by
    obtain⟨o,ho,_⟩:=pl.isList;rw[e]at ho;exact absurd (N8 ho) (OA _)
   refine⟨s.heap.objs.size,_,_,_,_,_,λi=>(ks[i]?).getD ZC,rfl,Walks.list (A:=X.A.in1) (I.ok.hd hc) s.heap.objs.size a hne its.toArray,⟨⟨_,Og _ rfl,rfl,rfl⟩,?_⟩,?_,?_⟩
   ·obtain⟨o,ho,hh⟩:=pl.isList
    exact⟨o,N4 _ ho,hh⟩
   ·intro i v s' Q' E' hP hQ'
    subst hits
    dsimp only at hQ'
    have hP':(ks.map OS)[i]?=ZA v:=by simpa using hP
    rw[Oj]at hP'
    cases e:ks[i]? with
    |none=>rw[e]at hP';cases hP'
    |some k=>
     rw[e]at hP' hQ';cases hP';exact OY hQ'
   ·intro h' tk hk'
    have hlen:its.toArray.size=ks.length:=by rw[hits];simp
    have e:((O7 its.toArray.size).all λi=>(ks[i]?).getD ZC)=(ks.all λk=>k):=by
     rw[hlen];rw[Rl,Os,Os]
     constructor
     ·intro h x hx
      obtain⟨i,hi,rfl⟩:=QF hx
      have:=h i (Pv.mpr hi)
      simpa [hi]using this
     ·intro h i hi
      have hi':=Pv.mp hi
      have:=h ks[i] (PB hi')
      simpa [hi']using this
    rw[e]
    have I1:Inv X lm σ H {s with heap:=s.heap.push {cls:=.type "list_iterator",data:=.fields #[.ref a,.int 0 0]}}:=I.kept (t':=s.toks) λb o e=>N4 _ e
    have I2:Inv X lm σ H {s with heap:=h',toks:=tk}:=by
     have:=I1.turned (h':=h') (t':=tk) (it:=s.heap.objs.size) (λb o hb e=>hk' b o (by simpa using hb) e) (I.hok.fresh (Ob _))
      (Sd I.lt) (.inr I.sz) (λx c e z=>?_) (λp hp z=>?_)
     ·exact this
     ·obtain⟨v,q⟩:=I.cell x c e
      exact absurd (Of q.lt (RG z.symm)) (OA _)
     ·exact absurd (Of (N8 (I.pin p hp).1) (RG z.symm)) (OA _)
    exact⟨.bl _,H,I2,rfl,hp H (Same.refl H) _ (Rep.bl_ _)⟩
  ·exact hp.elim
 ·exact hp.elim
end
noncomputable def T.ty:T->Option String
 |.non=>ZA "NoneType"
 |.bl _=>ZA "bool"
 |.int _=>ZA "int"
 |.str _=>ZA "str"
 |.tup _=>ZA "tuple"
 |.lst _=>ZA "list"
 |.scr _=>ZB
 |.dct _ _=>ZB
 |.ob _ _ _=>ZB
noncomputable def xj(i b t l s:Bool)(Ty:String):Option Bool:=match Ty with
 | "int" =>ZA i| "bool" =>ZA b| "tuple" =>ZA t| "list" =>ZA l| "str" =>ZA s
 |_=>ZB
noncomputable def Ac(n Ty:String):Option Bool:=match n with
 | "NoneType" =>xj ZD ZD ZD ZD ZD Ty
 | "bool" =>xj ZC ZC ZD ZD ZD Ty
 | "int" =>xj ZC ZD ZD ZD ZD Ty
 | "str" =>xj ZD ZD ZD ZD ZC Ty
 | "tuple" =>xj ZD ZD ZC ZD ZD Ty
 | "list" =>xj ZD ZD ZD ZC ZD Ty
 |_=>ZB
def Bg(K:NQ){n:String}(h:Ac n Ty=ZA b):PySem.W.kitOne K (.type n) (.type Ty)=ZA b:=by
 unfold Ac at h
 split at h <;> first| (cases h;done)| (unfold xj at h;split at h <;> first| (cases h;done)| (cases h;kernel_rfl))
def BI(Ty:String)(t:T):Rs T:=match t.ty with
 |some n=>match Ac n Ty with
  |some b=>.ok (.bl b)
  |none=>.bad
 |none=>.bad
def Rep.NM{t:T}{n:String}(r:Rep K O H t v)(h:t.ty=ZA n):nL K H v (.type n):=by
 cases t with
 |non=>cases h;cases Rep.KB.mp r;exact .non
 |bl b=>cases h;cases Rep.FM.mp r;exact .bl b
 |int b=>cases h;cases Rep.AC.mp r;exact .int b
 |str b=>cases h;cases Rep.GM.mp r;exact .str b
 |tup l=>cases h;obtain⟨a,vs,rfl,_,q,_⟩:=Rep.Fk.mp r;exact .tup q
 |lst l=>cases h;obtain⟨a,vs,rfl,_,q,_⟩:=Rep.Do.mp r;exact .lst q
 |scr l=>cases h
 |dct _ _=>cases h
 |ob _ _ _=>cases h
variable{H':Hp}{M:Mn}{O':Ow}{g:T->En->Rs En}{gs:List T->En->Rs En}{iter tg:ZG}{lm:V2}{ps:List Str}
section
variable {a b c:ZG}{fs:V3}{p2:Pos}
def gi:OL "isinstance" =ZA (.builtin "isinstance"):=by decide+kernel
def Lw{tn:Str}(hm:X.mg "isinstance" =ZB)(hmt:X.mg tn=ZB)(hv:OL tn=ZA (.type Ty))(ha:cE X a fa)(hg:Gl X "isinstance":=by rfl)(hgt:Gl X tn:=by rfl)
  (hn:autoParam (tn≠ "__name__") s_) (hd:autoParam ((tn == ("__debug__" : Str))=ZD) s_)
  (he:N5 [a,.Name tn p2] X.env=(ZD,eval a X.env)::N5 [.Name tn p2] X.env:=by rfl) (hpl:(backTo pos (N5 [.Name tn p2] X.env)).any (·.1)=ZD:=by rfl)
  (hs:N5 [.Name tn p2] X.env=(ZD,eval (.Name tn p2) X.env)::N5 [] X.env:=by rfl):
  cE X (.Call (.Name "isinstance" p) [a,.Name tn p2] [] pos) (o1 (BI Ty) fa):=by
 intro lm s σ H Q I ⟨Z,O,E,hq⟩;refine ON (gg I hg hm gi ?_ (by decide) (by decide))
 have hA:PA X [a,.Name tn p2] (gX (tP X fa) (gX (tC (.ty Ty)) vI)):=bz ha (bz (zK (v:=.ty Ty) hgt hmt hv rfl hn hd) d6 hs) he;obtain⟨Z1,O1,E1,h1⟩:=aZ E hq;refine PQ (bW (hA pos lm s σ H (λvs H'=>∃v t,vs=[v,.ty Ty]/\Rep X.K O H' t v/\Post X H' (BI Ty t) (λt H'=>∀v,Rep X.K O H' t v->Q v H')) I ?_) λus s1 ⟨vs,H1,I1,r1,v,t,e1,rt,q⟩=>?_) he hpl
 ·refine⟨Z1,O1,E1,Post.mono h1 λts H1 s1 q vs r=>?_⟩
  obtain⟨t',r',s',E',q'⟩:=q vs r;exact⟨vs,t',rfl,r',q'⟩
 ·subst e1
  obtain⟨u,w',rfl,ru,rw'⟩:=vt r1;cases rw';unfold BI at q
  split at q
  ·rename_i n hn'
   split at q
   ·rename_i bb hb
    exact Bf I1 ru (rt.NM hn') (Bg _ hb) λtk=>⟨.bl bb,H1,I1.tok _,rfl,q H1 (Same.refl H1) _ (Rep.bl_ _)⟩
   ·exact q.elim
  ·exact q.elim
def spP(K:NQ)(n:Nat)(g:List T->Rs T):Sp:=λvs H Q _=>∃ts O,Reps K O H ts vs/\(∀a,O a->Mtb H a)/\ts.length=n ∧
 match g ts with
 |.ok t=>∀v H',Same H H'->Rep K O H' t v->Q v H'
 |_=>False
def MV(P:Oh)(w:O8)(mg:V0)(outer:List Env)(H:Hp)(s:NV)(c:Str)(ev:NS)(s':NV):Prop:=
 ∃e T C H',ev=.ref e/\mg c=ZA (.ref C)/\s'.os=s.os/\SM s'.gens/\Un (nF outer) [] H H' s.heap s'.heap/\HOk P w H' s'.heap/\Same H H'/\H' e=ZB/\s.heap.get? e=ZB/\MJ s'.heap C e (ZA T)/\H' T=ZB/\s.heap.get? T=ZB
def FnX(P:Oh)(w:O8)(K:NQ)(mg:V0)(base:ZH)(k:Nat)(f:ZE)(fd:OG)(ps:List Str)(n:Nat)(g:List T->Rs T):Prop:=
 ∀(A:OB)(outer:List Env)(s:NV)(H:Hp)(args:Args)(us:List NS)(vs:List V)(O:Ow)(ts:List T)(c:Str)(R:TR->NV->Prop),Room k A->Env0 P w K mg base A outer s H->Sj s fd args (ps.zip us)->Vals vs us →
  Reps K O H ts vs->(∀a,O a->Mtb H a)->ts.length=n->g ts=.err c->(∀ev s',MV P w mg outer H s c ev s'->R (.error ev) s')->ZL (ZK P w) A (.call (.ref f) args) R s
structure E5 (P:Oh)(w:O8)(K:NQ)(mg:V0)(base:ZH)(k:Nat)(f:ZE)(fd:OG)(ps:List Str)(n:Nat)(g:List T->Rs T):Prop where
 h:FnOk P w K mg base CX0 k f fd ps (spP K n g)
 x:FnX P w K mg base k f fd ps n g
def C9{h:ZH}{a:ZE}{o:HO}(x:ObjOk P w H h a o):∃u,h.get? a=ZA u:=by
 cases o with
 |lst xs=>obtain⟨_,_,_,_,e⟩:=x;exact⟨_,e⟩
 |tup xs=>obtain⟨_,_,_,ob,e,_⟩:=x;exact⟨_,e⟩
 |dK kvs=>obtain⟨_,_,_,_,o,_,_,e,_⟩:=x;exact⟨_,e⟩
 |dT kvs=>obtain⟨_,_,_,_,o,_,_,e,_⟩:=x;exact⟨_,e⟩
 |set S n=>obtain⟨o,_,_,_,e,_⟩:=x;exact⟨_,e⟩
 |ins C dx fs=>obtain⟨_,_,_,e,_⟩:=x;exact⟨_,e⟩
 |own y=>obtain⟨_,e⟩:=x;exact⟨_,e⟩
 |xd fs=>obtain⟨_,⟨_,_,_,e,_⟩,_⟩:=x;exact⟨_,e⟩
 |rng lo hi=>obtain⟨_,_,_,e⟩:=x;exact⟨_,e⟩
 |frz ob u=>obtain⟨e,_⟩:=x;exact⟨_,e⟩
 |tbl ps=>exact⟨_,(show h.get? a=ZA _ from x)⟩
 |met f y=>exact⟨_,(show h.get? a=ZA _ from x)⟩
 |ext φ=>obtain⟨_,⟨_,e⟩,_⟩:=x;exact⟨_,e⟩
def jN(I:Inv X lm σ H s){e:ZE}(n:s.heap.get? e=ZB):H e=ZB:=by
 cases z:H e with
 |none=>rfl
 |some o=>
  obtain⟨o',ho'⟩:=C9 (I.hok e o z);rw[n]at ho';cases ho'
def eI(I:Inv X lm σ H s)(hex:X.ex=[]){e:ZE}(n:s.heap.get? e=ZB):X.s₀.heap.get? e=ZB:=by
 cases z:X.s₀.heap.get? e with
 |none=>rfl
 |some o=>
  obtain⟨o',ho'⟩:=I.base.there e o z (by rw[hex];simp)
  rw[n]at ho';cases ho'
def Jh{f:ZE}{g:List T->Rs T}(F:E5 X.prog X.w X.K X.mg X.base k f fd ps n g)(hr:Room k X.A)(hm:X.mg x=ZA (.ref f))(hk:PP X.K (.ref f)=ZC)(hb:Binds X.K fd ps [])(hps:ps.length=n)
  (hl:∀Z ts,fs Z=.ok ts->ts.length=n) (ha:pk X (e::es) fs) (hg:Gl X x:=by rfl) (hdb:autoParam ((x == ("__debug__" : Str))=ZD) s_) (he:N5 (e::es) X.env=(ZD,eval e X.env)::N5 es X.env:=by rfl) (hpl:(backTo pos (N5 es X.env)).any (·.1)=ZD:=by rfl):
  cE X (.Call (.Name x p) (e::es) [] pos) (cl g fs):=by
 intro lm s σ H Q I ⟨Z,O,E,hq⟩
 have hq':Post X H (fs Z >>= g) λt H'=>∀v,Rep X.K O H' t v->Q v H':=hq
 cases q:fs Z with
 |bad=>rw[q]at hq';exact hq'.elim
 |err c=>
  rw[q]at hq';refine zJ (E:=E0) F.h hr hg hm hk hb .nil wc ha hdb he hpl lm s σ H Q I ⟨Z,O,E,?_⟩
  rw[q]
  exact hq'
 |ok ts=>
  rw[q]at hq'
  have hq2:Post X H (g ts) λt H'=>∀v,Rep X.K O H' t v->Q v H':=hq'
  cases q2:g ts with
  |bad=>rw[q2]at hq2;exact hq2.elim
  |ok t=>
   rw[q2]at hq2;refine zJ (E:=E0) F.h hr hg hm hk hb .nil wc ha hdb he hpl lm s σ H Q I ⟨Z,O,E,?_⟩
   rw[q];intro H1 s1 vs rs;rw[Ou];refine⟨ts,O,rs,(E.same s1).mtb,hl Z ts q,?_⟩
   rw[q2]
   exact λv H' s2 r=>hq2 H' (s1.trans s2) v r
  |err c=>
   rw[q2]at hq2;refine ON (fR I hg hm ?_ hdb)
   refine PV (h₀:=X.base) I.ok.mod.kin hk (bW (ha pos lm s σ H (λvs H'=>Same H H'/\Reps X.K O H' ts vs) I ⟨Z,O,E,?_⟩) (λus s1 ⟨vs,H1,I1,r,sm,rs⟩=>⟨I1.kIn,?_⟩)) he hpl
   ·rw[q];exact λH' sm vs rs=>⟨sm,rs⟩
   ·have hlen:us.length=ps.length:=by rw[<-r.length,<-rs.length,hl Z ts q,hps]
    have hb':=hb s1 us I1.kIn (by rw[Ou];exact hlen)
    rw[Ou]at hb';refine RA (Qn (F.x X.A X.stack s1 H1 ⟨us,[]⟩ us vs O ts c (λr s'=>match r with|.error ev=>X.xe ev s'|_=>False) hr I1.Nk hb' r rs (E.same sm).mtb (hl Z ts q) q2 λev s' w=>?_) λr s' hq=>?_)
    ·obtain⟨ea,T,C,H',rfl,hmc,ho,hbare,hun,hok,sm2,hea,heo,fl,hT,hTo⟩:=w
     have I2:Inv X lm σ H' s':=I1.Ng ho hun hok hbare (λb z=>absurd z (by simp))
     exact hq2 lm _ _ ⟨ea,ZA T,C,σ,H',rfl,hmc,I2,λb o q _=>sm2 b o (sm b o q),hea,λhex=>eI I1 hex heo,fl,(λt zt=>by cases zt;exact⟨hT,λhex=>eI I1 hex hTo⟩),λpp hpp=>⟨λzz=>(by have:=(I1.pin pp hpp).1;rw[zz,heo]at this;cases this),λzz=>(by cases zz;have:=(I1.pin pp hpp).1;rw[hTo]at this;cases this)⟩⟩
    ·cases r with
     |error ev=>exact hq
     |ok fl=>exact hq.elim
def Cm(X:Cx)(g:T->En->Rs En):TG:=λv σ H Q=>∃Z O M t,EnvM X.K O M H Z σ/\Rep X.K O H t v/\match g t Z with
 |.ok Z'=>∀σ',EnvM X.K O M H Z' σ'->Q σ' H
 |_=>False
abbrev Ff(X:Cx)(tg:ZG)(g:T->En->Rs En):Prop:=PG X tg (Cm X g)
def tPGs(X:Cx)(g:List T->En->Rs En):Hm:=λvs σ H Q=>∃Z O M ts,EnvM X.K O M H Z σ/\Reps X.K O H ts vs/\match g ts Z with
 |.ok Z'=>∀σ',EnvM X.K O M H Z' σ'->Q σ' H
 |_=>False
abbrev EX(X:Cx)(tg:List ZG)(g:List T->En->Rs En):Prop:=PGs X tg (tPGs X g)
def PG.imp{t t':TG}(h:PG X e t)(w:∀v σ H Q,t' v σ H Q->t v σ H Q):PG X e t':=λlm s σ H v u Q I r q=>h lm s σ H v u Q I r (w v σ H Q q)
def PGs.imp{e:List ZG}{t t':Hm}(h:PGs X e t)(w:∀v σ H Q,t' v σ H Q->t v σ H Q):PGs X e t':=λlm s σ H v u Q I r q=>h lm s σ H v u Q I r (w v σ H Q q)
def gN(i:Nat)(t:T)(Z:En):Rs En:=if i<Z.length then .ok (Z.set i (.va t))else .bad
def EnvM.set{t:T}(E:EnvM K O M H Z σ)(hi:i<Z.length)(r:Rep K O H t v):EnvM K O M H (Z.set i (.va t)) (σ.set i (ZA v)) where
 len:=by rw[Pl,Pl];exact E.len
 val:=λj u e=>by
  by_cases hj:i=j
  ·subst hj
   rw[Oo hi]at e
   cases e;exact⟨v,Oo (by rw[<-E.len];exact hi),r⟩
  ·rw[Ol hj]at e
   obtain⟨w,e1,e2⟩:=E.val j u e;exact⟨w,by rw[Ol hj];exact e1,e2⟩
 own:=λj o e=>by
  by_cases hj:i=j
  ·subst hj
   rw[Oo hi]at e
   cases e
  ·rw[Ol hj]at e
   obtain⟨w,e1,e2⟩:=E.own j o e;exact⟨w,by rw[Ol hj];exact e1,e2⟩
 sub:=E.sub
 dis:=E.dis
 trk:=E.trk
def F7(i:Nat)(hN:X.N.Nodup)(hi:X.N[i]?=ZA x:=by rfl)(hx:autoParam (Loc X.env.scope x) x_)(hf:autoParam (X.fn x=ZC\/X.env.scope.names.lookup x=ZA .local) r_):Ff X (.Name x pos) (gN i):=
 PG.imp (Gq hN hi hx hf) λv σ H Q hh_=>by
  obtain⟨Z,O,M,t,E,r,h⟩:=hh_;unfold gN at h
  split at h
  ·rename_i Z' e
   split at e
   ·rename_i hl
    cases e;exact h _ (E.set hl r)
   ·cases e
  ·exact h.elim
def rB(ts:List T)(Z:En):Rs En:=match ts with
 |[] =>.ok Z
 |_=>.bad
def gd(g:T->En->Rs En)(gs:List T->En->Rs En)(ts:List T)(Z:En):Rs En:=match ts with
 |t::r=>do
  let Z1 <-g t Z
  gs r Z1
 |[] =>.bad
def F6:EX X [] rB:=PGs.imp Gp λvs σ H Q hh_=>by
 obtain⟨Z,O,M,ts,E,r,h⟩:=hh_;unfold rB at h
 cases ts with
 |nil=>exact⟨Reps.Da.mp r,h σ E⟩
 |cons _ _=>exact h.elim
def CI(h1:Ff X e g)(h2:EX X es gs)
  (hs:(PL (e::es) X.env).map (·.2)=assign e X.env::(PL es X.env).map (·.2):=by rfl):EX X (e::es) (gd g gs):=
 PGs.imp (CV h1 h2 hs) λvs σ H Q hh_=>by
  obtain⟨Z,O,M,ts,E,r,h⟩:=hh_
  cases ts with
  |nil=>exact h.elim
  |cons t ts=>
   obtain⟨v,ws,rfl,p,q⟩:=Reps.me.mp r;refine⟨v,ws,rfl,Z,O,M,t,E,p,?_⟩
   unfold gd at h
   cases e1:g t Z with
   |bad=>simp[e1]at h
   |err c=>simp[e1]at h
   |ok Z1=>
    intro σ1 E1;refine⟨Z1,O,M,ts,E1,q,?_⟩
    simp only[e1,ay]at h
    cases e2:gs ts Z1 with
    |bad=>simp[e2]at h
    |err c=>simp[e2]at h
    |ok Z2=>
     simp only[e2]at h;exact λσ2 E2=>h σ2 E2
def gT(n:Nat)(gs:List T->En->Rs En)(t:T)(Z:En):Rs En:=match t with
 |.tup l=>if l.length=n then gs l Z else .bad
 |_=>.bad
def Jd(hc:X.calm=ZC)(h:EX X es gs)(hn:(PL es X.env).length=n:=by rfl)(hst:(PL es X.env).findIdx? (·.1)=ZB:=by rfl):Ff X (.Tuple es k pos) (gT n gs):=
 PG.imp (Jm hc h hn hst) λv σ H Q hh_=>by
  obtain⟨Z,O,M,t,E,r,h⟩:=hh_;unfold gT at h
  cases t with
  |tup l=>
   obtain⟨a,vs,rfl,n',q,z⟩:=Rep.Fk.mp r
   by_cases hl:l.length=n
   ·simp only[if_pos hl]at h
    exact⟨a,vs,rfl,SqT.of q,by rw[<-z.length];exact hl,Z,O,M,l,E,z,h⟩
   ·simp only[if_neg hl]at h
  |_=>exact h.elim
def SqL.nn{a:ZE}(q:SqL K H a vs):¬ Nw K H a:=λ⟨h1,h2⟩=>by
 rcases q with(q|⟨o,q⟩)|⟨o,_,_,q,_⟩
 ·rw[h1]at q;cases q
 ·rw[h1]at q;cases q
 ·rw[h2]at q;cases q
mutual
theorem Rep.more{K:NQ}{O O':Ow}{H:Hp}(sub:∀a,O' a->O a\/Nw K H a):∀{t:T}{v:V},Rep K O H t v->Rep K O' H t v
 |.non,_,r=>by unfold Rep at r ⊢;exact r
 |.bl _,_,r=>by unfold Rep at r ⊢;exact r
 |.int _,_,r=>by unfold Rep at r ⊢;exact r
 |.str _,_,r=>by unfold Rep at r ⊢;exact r
 |.tup l,_,r=>by
  unfold Rep at r ⊢;obtain⟨a,vs,e,n,q,z⟩:=r
  exact⟨a,vs,e,λp=>(sub a p).elim n λw=>(by rw[w.1]at q;cases q),q,Reps.more sub z⟩
 |.lst l,_,r=>by
  unfold Rep at r ⊢;obtain⟨a,vs,e,n,q,z⟩:=r
  exact⟨a,vs,e,λp=>(sub a p).elim n λw=>(by rw[w.1]at q;cases q),q,Reps.more sub z⟩
 |.scr l,_,r=>by
  unfold Rep at r ⊢;obtain⟨a,e,n,q⟩:=r
  exact⟨a,e,λp=>(sub a p).elim n λw=>Tr.SqL.nn q w,q⟩
 |.dct ks ts,_,r=>by
  unfold Rep at r ⊢;obtain⟨a,kvs,e,n,q,k,z⟩:=r
  exact⟨a,kvs,e,λp=>(sub a p).elim n λw=>(by rcases q with q|⟨_,q⟩ <;> rw[w.1]at q <;> cases q),q,k,Reps.more sub z⟩
 |.ob C ns ts,_,r=>by
  unfold Rep at r ⊢;obtain⟨a,dx,fs,e,n,q,k,z⟩:=r;exact⟨a,dx,fs,e,λp=>(sub a p).elim n λw=>(by rw[w.1]at q;cases q),q,k,Reps.more sub z⟩
theorem Reps.more{K:NQ}{O O':Ow}{H:Hp}(sub:∀a,O' a->O a\/Nw K H a):∀{l:List T}{vs:List V},Reps K O H l vs->Reps K O' H l vs
 |[],_,r=>by unfold Reps at r ⊢;exact r
 |t::l,_,r=>by
  unfold Reps at r ⊢;obtain⟨v,ws,e,p,q⟩:=r;exact⟨v,ws,e,Rep.more sub p,Reps.more sub q⟩
end
def Rep.move{P:Ow}{t:T}(hP:∀a,P a->O a\/Nw K H a)(hO:∀a,O' a->O a\/Nw K H a)(h:SameO P H H')(r:Rep K O H t v):Rep K O' H' t v:=
 Rep.less (O:=λa=>O' a\/P a) (λ_ z=>.inl z) (Rep.keep h (λ_ z=>.inr z) (Rep.more (λa z=>z.elim (hO a) (hP a)) r))
def Reps.move{P:Ow}{t:List T}{v:List V}(hP:∀a,P a->O a\/Nw K H a)(hO:∀a,O' a->O a\/Nw K H a)(h:SameO P H H')(r:Reps K O H t v):Reps K O' H' t v:=
 Reps.less (O:=λa=>O' a\/P a) (λ_ z=>.inl z) (Reps.keep h (λ_ z=>.inr z) (Reps.more (λa z=>z.elim (hO a) (hP a)) r))
def M6(K:NQ)(O:Ow)(H:Hp)(ts:List T)(J:It):Prop:=∀(P O':Ow),(∀a,P a->O a\/Nw K H a)->(∀a,O' a->O a\/Nw K H a)->∀(i:Nat)(Hc:Hp),SameO P H Hc->(∀a,O' a->∃o,Hc a=ZA o) →
 (ts.length<=i->J.stop i Hc)/\(∀t,ts[i]?=ZA t->J.go i Hc/\∀x Hc',J.yld i Hc x Hc'->Same Hc Hc'/\Rep K O' Hc' t x)
def MM(X:Cx)(f:V3):TI:=λσ H R=>∃Z O,EnvO X.K O H Z σ/\Post X H (f Z) λts H'=>∀J,M6 X.K O H' ts J->R J H'
abbrev BD(X:Cx)(tg iter:ZG)(f:V3):Prop:=PI X tg iter (MM X f)
def PI.imp{t t':TI}(h:PI X tg iter t)(w:∀σ H R,t' σ H R->t σ H R):PI X tg iter t':=λlm s σ H R I q=>h lm s σ H R I (w σ H R q)
def iL(f:V5)(Z:En):Rs (List T):=do
 let x <-f Z
 match x with
 |.lst l=>.ok l
 |_=>.bad
def iT(f:V5)(Z:En):Rs (List T):=do
 let x <-f Z
 match x with
 |.tup l=>.ok l
 |_=>.bad
def zB(ha:cE X a fa):BD X tg a (iL fa):=PI.imp (Gm ha) λσ H R hh_=>by
 obtain⟨Z,O,E,h⟩:=hh_;obtain⟨Z1,O1,E1,h1⟩:=aZ E h;refine⟨Z1,O1,E1,Post.mono h1 λts H1 s1 q vs r=>?_⟩
 obtain⟨t',r',s',E',q'⟩:=q vs r
 split at q'
 ·rename_i l
  obtain⟨a,ws,rfl,n,q,z⟩:=Rep.Do.mp r';refine⟨a,rfl,⟨ws,SqL.of q⟩,q' H1 (Same.refl H1) _ λP O' hP hO i Hc hs ht=>?_⟩
  have hnP:¬ P a:=λz=>(hP a z).elim n λw=>by rw[w.1]at q;cases q
  refine⟨λhi=>⟨ws,SqL.of (hs _ _ q hnP),by rw[<-z.length];exact hi⟩,λt ht'=>?_⟩
  obtain⟨v,e1,e2⟩:=z.get ht';refine⟨⟨ws,v,SqL.of (hs _ _ q hnP),e1⟩,λx Hc' y=>?_⟩
  obtain⟨e,y⟩:=y;subst e
  have:=y ws (SqL.of (hs _ _ q hnP));rw[e1]at this;cases this;exact⟨Same.refl _,e2.move hP hO hs⟩
 ·exact q'.elim
def Ja(ha:cE X a fa):BD X tg a (iT fa):=PI.imp (Jl ha) λσ H R hh_=>by
 obtain⟨Z,O,E,h⟩:=hh_;obtain⟨Z1,O1,E1,h1⟩:=aZ E h;refine⟨Z1,O1,E1,Post.mono h1 λts H1 s1 q vs r=>?_⟩
 obtain⟨t',r',s',E',q'⟩:=q vs r
 split at q'
 ·rename_i l
  obtain⟨a,ws,rfl,n,q,z⟩:=Rep.Fk.mp r';refine⟨a,rfl,⟨ws,SqT.of q⟩,q' H1 (Same.refl H1) _ λP O' hP hO i Hc hs ht=>?_⟩
  have hnP:¬ P a:=λz=>(hP a z).elim n λw=>by rw[w.1]at q;cases q
  refine⟨λhi=>⟨ws,SqT.of (hs _ _ q hnP),by rw[<-z.length];exact hi⟩,λt ht'=>?_⟩
  obtain⟨v,e1,e2⟩:=z.get ht';refine⟨⟨ws,v,SqT.of (hs _ _ q hnP),e1⟩,λx Hc' y=>?_⟩
  obtain⟨e,y⟩:=y;subst e
  have:=y ws (SqT.of (hs _ _ q hnP));rw[e1]at this;cases this;exact⟨Same.refl _,e2.move hP hO hs⟩
 ·exact q'.elim
def rng(lo hi:Int):List T:=(O7 (hi - lo).toNat).map λ(k:Nat)=>T.int (lo+(k:Int))
def yS(i:Int):Bool:=decide (-(2 ^ 62)<=i)&&decide (i<2 ^ 62)
noncomputable def iR(f:V3)(Z:En):Rs (List T):=do
 let x <-f Z
 match x with
 |[.int j] =>if yS j then .ok (rng 0 j)else .bad
 |[.int i,.int j] =>if yS i&&yS j then .ok (rng i j)else .bad
 |_=>.bad
def kO{i:Int}(h:yS i=ZC): -(2 ^ 62)<=i/\i<2 ^ 62:=by
 unfold yS at h;rw[NX]at h;exact⟨of_decide_eq_true h.1,of_decide_eq_true h.2⟩
def o6(lo hi:Int):M6 K O H (rng lo hi) (Itr lo (hi - lo).toNat):=λP O' hP hO i Hc hs ht=>by
 refine⟨λh=>?_,λt h=>?_⟩
 ·show(hi - lo).toNat<=i
  unfold rng at h;rw[NW,Qz]at h;exact h
 ·unfold rng at h
  rw[Oj]at h
  by_cases hi':i<(hi - lo).toNat
  ·rw[List.getElem?_range hi']at h
   cases h;refine⟨hi',λx Hc' y=>?_⟩
   obtain⟨e,y⟩:=y;subst e y;exact⟨Same.refl _,Rep.Gc _⟩
  ·rw[RH (by simpa using hi')]at h
   cases h
def AU(hm:X.mg "range" =ZB)(ha:pk X [a] fs)(hg:Gl X "range":=by rfl)(hs:N5 [a] X.env=[(ZD,eval a X.env)]:=by rfl):BD X tg (.Call (.Name "range" p) [a] [] pos) (iR fs):=by
 intro lm s σ H R I ⟨Z,O,E,h⟩
 have h1:=fV E h;refine Call_ (gg I hg hm boot_range (Pa (bW (ha pos lm s σ H _ I h1) λus s1 ⟨vs,H1,I1,r1,ts,rs,s',E',q1⟩=>?_) hs rfl))
 split at q1
 ·obtain⟨v,rfl,r⟩:=rs.one
  split at q1
  ·rename_i j hj
   obtain⟨b1,b2⟩:=kO hj;cases Rep.AC.mp r
   cases r1 with
   |cons r rr=>
    cases rr;obtain⟨t,rfl⟩:=r;exact call_range_1 (ml I1 (by omega) (by omega) b1 b2 (q1 H1 (Same.refl H1) _ (o6 0 j)))
  ·exact q1.elim
 ·obtain⟨v,ws,rfl,p1,q⟩:=Reps.me.mp rs
  obtain⟨v2,rfl,r⟩:=q.one
  split at q1
  ·rename_i i j hj
   rw[NX]at hj;obtain⟨b1,b2⟩:=kO hj.1;obtain⟨b3,b4⟩:=kO hj.2;cases Rep.AC.mp p1;cases Rep.AC.mp r
   cases r1 with
   |cons r rr=>
    cases rr with
    |cons r' rr=>
     cases rr;obtain⟨t,rfl⟩:=r;obtain⟨t',rfl⟩:=r';exact call_range_2 (ml I1 b1 b2 b3 b4 (q1 H1 (Same.refl H1) _ (o6 i j)))
  ·exact q1.elim
 ·exact q1.elim
def AS(hm:X.mg "range" =ZB)(ha:pk X [a,b] fs)(hg:Gl X "range":=by rfl)(hs:N5 [a,b] X.env=[(ZD,eval a X.env),(ZD,eval b X.env)]:=by rfl)(hs2:N5 [b] X.env=[(ZD,eval b X.env)]:=by rfl):
  BD X tg (.Call (.Name "range" p) [a,b] [] pos) (iR fs):=by
 intro lm s σ H R I ⟨Z,O,E,h⟩
 have h1:=fV E h;refine Call_ (gg I hg hm boot_range (Pa (bW (ha pos lm s σ H _ I h1) λus s1 ⟨vs,H1,I1,r1,ts,rs,s',E',q1⟩=>?_) (by rw[hs,hs2]) (by rw[hs2];rfl)))
 split at q1
 ·obtain⟨v,rfl,r⟩:=rs.one
  split at q1
  ·rename_i j hj
   obtain⟨b1,b2⟩:=kO hj;cases Rep.AC.mp r
   cases r1 with
   |cons r rr=>
    cases rr;obtain⟨t,rfl⟩:=r;exact call_range_1 (ml I1 (by omega) (by omega) b1 b2 (q1 H1 (Same.refl H1) _ (o6 0 j)))
  ·exact q1.elim
 ·obtain⟨v,ws,rfl,p1,q⟩:=Reps.me.mp rs
  obtain⟨v2,rfl,r⟩:=q.one
  split at q1
  ·rename_i i j hj
   rw[NX]at hj;obtain⟨b1,b2⟩:=kO hj.1;obtain⟨b3,b4⟩:=kO hj.2;cases Rep.AC.mp p1;cases Rep.AC.mp r
   cases r1 with
   |cons r rr=>
    cases rr with
    |cons r' rr=>
     cases rr;obtain⟨t,rfl⟩:=r;obtain⟨t',rfl⟩:=r';exact call_range_2 (ml I1 b1 b2 b3 b4 (q1 H1 (Same.refl H1) _ (o6 i j)))
  ·exact q1.elim
 ·exact q1.elim
end
variable{B:Ow}{D:nP}{N':List Str}{Q:VK}{body:List ZF}{f:V6}{fe:V5}{fi:V3}{ifs:List ZG}{st:ZF}{tgt:T->En->Rs En}
section
variable {a b c:ZG}{fs:V3}{p2:Pos}
def b6(src:List (Option Nat))(Z:En):En:=src.map λo=>match o with
 |some i=>match Z[i]? with
  |some (.va t)=>.va t
  |_=>.em
 |none=>.em
noncomputable def d7(tgt:T->En->Rs En)(fc:V6)(fe:V5):List T->V3
 |[],_=>.ok []
 |t::r,Z=>do
  let Z1 <-tgt t Z
  let k <-fc Z1
  if k then do
   let y <-fe Z1
   let ys <-d7 tgt fc fe r Z1
   .ok (y::ys)
  else d7 tgt fc fe r Z1
def gC(fi:V3)(src:List (Option Nat))(tgt:T->En->Rs En)(fc:V6)(fe:V5)(Z:En):Rs T:=do
 let ts <-fi Z
 if ts.length<=ZI then match d7 tgt fc fe ts (b6 src Z)with
  |.ok ys=>.ok (.lst ys)
  |_=>.bad
 else .bad
def bT(_:En):Rs Bool:=.ok ZC
def tP0(K:NQ)(f:V5):TE:=λσ H Q=>∃Z O,EnvO K O H Z σ/\match f Z with
 |.ok t=>∀H',Same H H'->∀v,Rep K O H' t v->Q v H'
 |_=>False
def tPT0(K:NQ)(f:V6):TT:=λσ H Q=>∃Z O,EnvO K O H Z σ/\match f Z with
 |.ok t=>∀H',Same H H'->Q t H'
 |_=>False
def tP0.up{f:V5}(h:tP0 X.K f σ H Q):tP X f σ H Q:=by
 obtain⟨Z,O,E,h⟩:=h;refine⟨Z,O,E,?_⟩
 cases q:f Z with
 |ok t=>rw[q]at h;exact h
 |err c=>rw[q]at h;exact h.elim
 |bad=>rw[q]at h;exact h.elim
def tPT0.up{Q:Bool->Hp->Prop}(h:tPT0 X.K f σ H Q):Ck X f σ H Q:=by
 obtain⟨Z,O,E,h⟩:=h;refine⟨Z,O,E,?_⟩
 cases q:f Z with
 |ok t=>rw[q]at h;exact h
 |err c=>rw[q]at h;exact h.elim
 |bad=>rw[q]at h;exact h.elim
def F4:BK X [] (Ck X bT):=λlm s σ H Q I ⟨Z,O,E,h⟩=>uh lm s σ H Q I (h H (Same.refl H))
def F3(h:tE X c f):BK X [c] (Ck X f):=Gk h
abbrev noM:Mn:=λ_ _=>False
def Ba{src:List (Option Nat)}{o:OT}(e:(b6 src Z)[j]?=ZA (.ow o)):False:=by
 unfold b6 at e;rw[Oj]at e
 cases q:src[j]? with
 |none=>rw[q]at e;cases e
 |some o'=>
  rw[q]at e
  cases o' with
  |none=>cases e
  |some i=>
   have e':(match Z[i]? with|some (Sl.va t)=>Sl.va t|_=>Sl.em)=Sl.ow o:=OH e
   split at e' <;> cases e'
def w4(E:EnvO K O H Z σ)(src:List (Option Nat)):EnvM K O noM H (b6 src Z) (gy src σ) where
 len:=by unfold b6 gy;rw[NW,NW]
 val:=λj t e=>by
  unfold b6 at e;unfold gy;rw[Oj]at e ⊢
  cases q:src[j]? with
  |none=>rw[q]at e;cases e
  |some o=>
   rw[q]at e
   cases o with
   |none=>cases e
   |some i=>
    have e':(match Z[i]? with|some (Sl.va t)=>Sl.va t|_=>Sl.em)=Sl.va t:=OH e
    cases q2:Z[i]? with
    |none=>rw[q2]at e';cases e'
    |some z=>
     rw[q2]at e'
     cases z with
     |em=>cases e'
     |ow l=>cases e'
     |va t'=>
      cases e';obtain⟨v,e1,e2⟩:=E.val i _ q2;exact⟨v,by simp[e1],e2⟩
 own:=λj o e=>(Ba e).elim
 sub:=λ_ _ z=>z.elim
 dis:=λ_ _ _ z=>z.elim
 trk:=E.mtb
def ORep.no{o:OT}(r:ORep K O lq H o v):False:=by
 cases o with
 |lst l=>obtain⟨a,_,_,e,_⟩:=r;exact(e a).mpr rfl
 |dct ks ts=>obtain⟨a,_,_,e,_⟩:=r;exact(e a).mpr rfl
 |dd ks rows=>obtain⟨a,_,_,_,e,_⟩:=r;exact(e a).mpr (.inl rfl)
 |ob C ns ls=>obtain⟨a,_,_,_,e,_⟩:=r;exact(e a).mpr (.inl rfl)
theorem EnvM.move{P:Ow}(E:EnvM K O noM H Z σ)(hP:∀a,P a->O a\/Nw K H a)(hO:∀a,O' a->O a\/Nw K H a)(h:SameO P H H')(trk:∀a,O' a->Mtb H' a):EnvM K O' noM H' Z σ where
 len:=E.len
 val:=λi t e=>let ⟨v,e1,e2⟩:=E.val i t e;⟨v,e1,e2.move hP hO h⟩
 own:=λi o e=>let ⟨_,_,r⟩:=E.own i o e;r.no.elim
 sub:=λ_ _ z=>z.elim
 dis:=λ_ _ _ z=>z.elim
 trk:=trk
noncomputable def KO(fi:V3)(src:List (Option Nat))(tgt:T->En->Rs En)(fc:V6)(fe:V5)(Z:En):Rs (List T):=fi Z >>= λts=>if ts.length<=ZI then(match d7 tgt fc fe ts (b6 src Z)with|.ok ys=>Rs.ok ys|_=>.bad)else .bad
def Dy{src:List (Option Nat)}{fc:V6}:gC fi src tgt fc fe Z=KO fi src tgt fc fe Z >>= λl=>.ok (.lst l):=by
 unfold gC KO
 cases fi Z with
 |bad=>rfl
 |err c=>rfl
 |ok ts=>
  rw[ay,ay]
  by_cases hz:ts.length<=ZI
  ·rw[if_pos hz,if_pos hz]
   cases d7 tgt fc fe ts (b6 src Z) <;> rfl
  ·rw[if_neg hz,if_neg hz];rfl
def Dx{src:List (Option Nat)}{fc:V6}(E:EnvO X.K O H Z σ)
  (hq1:Post X H (KO fi src tgt fc fe Z) λall H1=>∀D ys H',Nw X.K H1 D->Same H1 H'->H' D=ZA (.lst ys)->Reps X.K (λa=>O a\/a=D) H' all ys->Q (.ref D) H'):Iz X.K (MM X fi) src (Cm X tgt) (tPT0 X.K fc) (tP0 X.K fe) σ H Q:=by
 unfold KO at hq1;refine⟨Z,O,E,Post.mono hq1.bind λts H1 s1 q1 J hJ D hD hK=>?_⟩
 have E1:=E.same s1
 by_cases hz:ts.length<=ZI
 ·rw[if_pos hz]at q1
  cases hall:d7 tgt fc fe ts (b6 src Z)with
  |bad=>rw[hall]at q1;exact q1.elim
  |err c=>rw[hall]at q1;exact q1.elim
  |ok all=>
   rw[hall]at q1
   have q2:∀D ys H',Nw X.K H1 D->Same H1 H'->H' D=ZA (.lst ys)->Reps X.K (λa=>O a\/a=D) H' all ys->Q (.ref D) H':=q1 H1 (Same.refl H1)
   have nD:Nw X.K H1 D:=⟨hD,hK⟩
   let O':Ow:=λa=>O a\/a=D
   have subO:∀a,O' a->O a\/Nw X.K H1 a:=λa z=>z.elim .inl λw=>.inr (w▸nD)
   refine⟨λi m σ' ys H'=>m=ts.length - i/\i<=ts.length/\ys.length<=i/\H' D=ZA (.lst ys)/\SameO (λa=>a=D) (upd H1 D (.lst [])) H' ∧
    ∃Z' yts zs,EnvM X.K O' noM H' Z' σ'/\Reps X.K O' H' yts ys/\d7 tgt fc fe (ts.drop i) Z'=.ok zs/\yts++zs=all,⟨ts.length,?_⟩,?_⟩
   ·have sN:Same H1 (upd H1 D (.lst [])):=bh hD _
    refine⟨by omega,P9 _,Ob _,aJ,λb o e _=>e,b6 src Z,[],all,?_,Reps.GE,by simpa using hall,rfl⟩
    have E2:EnvM X.K O noM H1 (b6 src Z) (gy src σ):=w4 E1 src
    exact E2.move (P:=λa=>a=D) (λa z=>.inr (z▸nD)) subO (λb o e _=>sN b o e) λa z=>by
     rcases z with z|z
     ·exact(E1.mtb a z).same sN
     ·rw[z];exact .inl ⟨_,aJ⟩
   ·rintro i m σ' ys H' ⟨rfl,hi',hyl,hDl,hsm,Z',yts,zs,E',ry,hl,hyz⟩
    refine⟨hDl,?_⟩
    have sm1:SameO (λa=>a=D) H1 H':=λb o e nb=>hsm b o (by rw[aG nb];exact e) nb
    have it:=hJ (λa=>a=D) O' (λa z=>.inr (z▸nD)) subO i H' sm1 (λa z=>(E'.trk a z).some)
    by_cases hlt:i<ts.length
    ·refine .inr ?_
     have hti:ts[i]?=ZA ts[i]:=by simp
     obtain⟨go,yl⟩:=it.2 ts[i] hti;refine⟨go,by omega,λxx Hc y=>?_⟩
     obtain⟨sc,rx⟩:=yl xx Hc y
     have Ec:=E'.same sc;rw[Qs hlt]at hl;unfold d7 at hl;refine⟨Z',O',noM,ts[i],Ec,rx,?_⟩
     cases e1:tgt ts[i] Z' with
     |bad=>rw[e1]at hl;cases hl
     |err cc=>rw[e1]at hl;cases hl
     |ok Z1=>
      rw[e1,ay]at hl;intro σ1 Eg;refine⟨Z1,O',⟨noM,Eg⟩,?_⟩
      cases e2:fc Z1 with
      |bad=>rw[e2]at hl;cases hl
      |err cc=>rw[e2]at hl;cases hl
      |ok k=>
       rw[e2,ay]at hl;intro H3 s3
       have E3:=Eg.same s3
       have tot:Same H' H3:=sc.trans s3
       have D3:H3 D=ZA (.lst ys):=tot _ _ hDl
       have sm3:SameO (λa=>a=D) (upd H1 D (.lst [])) H3:=λb o e nb=>tot _ _ (hsm b o e nb)
       cases k with
       |false=>
        refine L2.iteF ?_
        have hl':d7 tgt fc fe (ts.drop (i+1)) Z1=.ok zs:=by simpa using hl
        exact⟨ts.length - (i+1),by omega,rfl,hlt,by omega,D3,sm3,Z1,yts,zs,E3,ry.same tot,hl',hyz⟩
       |true=>
        refine L2.iteT ?_
        have hl':(fe Z1 >>= λy=>d7 tgt fc fe (ts.drop (i+1)) Z1 >>= λys=>Rs.ok (y::ys))=.ok zs:=by simpa using hl
        refine⟨Z1,O',⟨noM,E3⟩,?_⟩
        cases e3:fe Z1 with
        |bad=>rw[e3]at hl';cases hl'
        |err cc=>rw[e3]at hl';cases hl'
        |ok yt=>
         rw[e3,ay]at hl'
         cases e4:d7 tgt fc fe (ts.drop (i+1)) Z1 with
         |bad=>rw[e4]at hl';cases hl'
         |err cc=>rw[e4]at hl';cases hl'
         |ok zs'=>
          rw[e4,ay]at hl'
          have hzs:yt::zs'=zs:=by injection hl'
          intro H4 s4 v rv
          have D4:H4 D=ZA (.lst ys):=s4 _ _ D3
          have E4:=E3.same s4
          have tot4:Same H' H4:=tot.trans s4
          have smD:SameO (λa=>a=D) H4 (upd H4 D (.lst (ys++[v]))):=λb o e nb=>by rw[aG nb];exact e
          have inO:∀a,a=D->O' a\/Nw X.K H4 a:=λa z=>.inl (.inr z)
          refine⟨D4,ts.length - (i+1),by omega,rfl,hlt,?_,aJ,λb o e nb=>smD b o (s4 _ _ (sm3 b o e nb)) nb,Z1,yts++[yt],zs',?_,?_,e4,?_⟩
          ·rw[N3,PR];omega
          ·exact E4.move inO (λa z=>.inl z) smD λaa z=>by
            by_cases hz:aa=D
            ·rw[hz];exact .inl ⟨_,aJ⟩
            ·unfold Mtb;rw[aG hz];exact E4.trk aa z
          ·have r1:Reps X.K O' H4 (yts++[yt]) (ys++[v]):=(ry.same tot4).append (Reps.FS rv Reps.GE)
           exact r1.move inO (λa z=>.inl z) smD
          ·rw[Oz,S7,hzs];exact hyz
    ·refine .inl ⟨it.1 (by omega),?_⟩
     have hi2:i=ts.length:=by omega
     subst hi2;rw[U6]at hl
     have hzs:zs=[]:=by unfold d7 at hl;injection hl with hl;exact hl.symm
     subst hzs;rw[Ou]at hyz;subst hyz
     have sF:Same H1 H':=λb o e=>sm1 b o e λz=>by rw[z,hD]at e;cases e
     exact q2 D ys H' nD sF hDl ry
 ·rw[if_neg hz]at q1
  exact q1.elim
def zT{src:List (Option Nat)}{fc:V6}(h0:tP X (gC fi src tgt fc fe) σ H Q):Iz X.K (MM X fi) src (Cm X tgt) (tPT0 X.K fc) (tP0 X.K fe) σ H Q:=by
 obtain⟨Z,O,E,hq⟩:=h0;refine Dx E ?_
 have e:gC fi src tgt fc fe Z=KO fi src tgt fc fe Z >>= λl=>.ok (.lst l):=Dy
 rw[e]at hq
 cases q:KO fi src tgt fc fe Z with
 |bad=>rw[q]at hq;exact hq.elim
 |err c=>rw[q]at hq;exact hq
 |ok l=>
  rw[q,ay]at hq;intro H1 s1 D ys H' nD sD eD rD;exact hq H' (s1.trans sD) _ (Rep.Do.mpr ⟨D,ys,rfl,λz=>(E.same s1).fresh nD.1 z,eD,rD.less λa z=>.inl z⟩)
def q_lc{elt:ZG}{src:List (Option Nat)}{fc:V6}
  (hc:X.calm=ZC) (S:LcScope X scope N' src) (hi:BD X tg iter fi)
  (block:∀cl C s₀ H₀ fp,Ff (cm X scope cl N' C s₀ H₀ fp) tg tgt/\BK (cm X scope cl N' C s₀ H₀ fp) ifs (Ck (cm X scope cl N' C s₀ H₀ fp) fc)/\cE (cm X scope cl N' C s₀ H₀ fp) elt fe)
  (hs:autoParam (∀x,OZ iter X.env x=pure x) t_):
  cE X (.ListComp elt [⟨tg,iter,ifs,0⟩] scope pos) (gC fi src tgt fc fe):=by
 have hPG:∀cl C s₀ H₀ fp,PG (cm X scope cl N' C s₀ H₀ fp) tg (Cm X tgt):=λcl C s₀ H₀ fp=>(block cl C s₀ H₀ fp).1
 have hPI:∀cl C s₀ H₀ fp,BK (cm X scope cl N' C s₀ H₀ fp) ifs (tPT0 X.K fc):=λcl C s₀ H₀ fp lm s σ H Q I h=>(block cl C s₀ H₀ fp).2.1 lm s σ H Q I (tPT0.up (X:=cm X scope cl N' C s₀ H₀ fp) h)
 have hPE:∀cl C s₀ H₀ fp,PE (cm X scope cl N' C s₀ H₀ fp) elt (tP0 X.K fe):=λcl C s₀ H₀ fp lm s σ H Q I h=>(block cl C s₀ H₀ fp).2.2 lm s σ H Q I (tP0.up (X:=cm X scope cl N' C s₀ H₀ fp) h)
 exact PE.imp (v8 (g:=Cm X tgt) (tc:=tPT0 X.K fc) (te:=tP0 X.K fe) hc S hi (λcl C s₀ H₀ fp=>⟨hPG cl C s₀ H₀ fp,hPI cl C s₀ H₀ fp,hPE cl C s₀ H₀ fp⟩) hs) λσ H Q h=>zT h
inductive Fl where
 |nx (Z:En)|rt (t:T)|bk (Z:En)|ct (Z:En)
abbrev V4:=En->Rs Fl
def OO(B:Ow)(M:Mn):Ow:=λa=>B a\/M.u a
structure Ev (K:NQ)(B:Ow)(M:Mn)(H:Hp)(Z:En)(σ:L2.St):Prop where
 env:EnvM K (OO B M) M H Z σ
 mine:∀a,M.u a->¬ B a
theorem Ev.same(h:Same H H')(e:Ev K B M H Z σ):Ev K B M H' Z σ:=⟨e.env.same h,e.mine⟩
def Ev.o(e:Ev K B M H Z σ):EnvO K (OO B M) H Z σ:=⟨M,e.env⟩
def PostF(X:Cx)(B P:Ow)(H:Hp)(r:Rs Fl)(D:nP):Prop:=match r with
 |.ok (.nx Z')=>∀σ' H' M',SameO P H H'->Ev X.K B M' H' Z' σ'->(∀a,M'.u a->P a\/Nw X.K H a)->D.nx σ' H'
 |.ok (.rt t)=>∀v H',SameO P H H'->Rep X.K B H' t v->D.rt v H'
 |.ok (.bk Z')=>∀σ' H' M',SameO P H H'->Ev X.K B M' H' Z' σ'->(∀a,M'.u a->P a\/Nw X.K H a)->D.bk σ' H'
 |.ok (.ct Z')=>∀σ' H' M',SameO P H H'->Ev X.K B M' H' Z' σ'->(∀a,M'.u a->P a\/Nw X.K H a)->D.ct σ' H'
 |.err c=>XA X P H c
 |.bad=>False
def ML(X:Cx)(F:V4):TS:=λD σ H=>∃Z B M,Ev X.K B M H Z σ/\PostF X B M.u H (F Z) D
abbrev pj(X:Cx)(s:ZF)(F:V4):Prop:=PS X s (ML X F)
abbrev mP(X:Cx)(s:List ZF)(F:V4):Prop:=PSs X s (ML X F)
theorem PostF.later{P P1:Ow}{H1:Hp}{r:Rs Fl}(h:PostF X B P H r D)(s:SameO P H H1)(sub:∀a,P1 a->P a\/Nw X.K H a):PostF X B P1 H1 r D:=by
 have back:∀a,P1 a\/Nw X.K H1 a->P a\/Nw X.K H a:=λa z=>z.elim (sub a) (g8 s)
 cases r with
 |bad=>exact h
 |err c=>exact XA.later h s sub
 |ok f=>
  cases f with
  |nx Z'=>exact λσ' H' M' s' E' o'=>h σ' H' M' (s.trans s' sub) E' λa z=>back a (o' a z)
  |rt t=>exact λv H' s' r=>h v H' (s.trans s' sub) r
  |bk Z'=>exact λσ' H' M' s' E' o'=>h σ' H' M' (s.trans s' sub) E' λa z=>back a (o' a z)
  |ct Z'=>exact λσ' H' M' s' E' o'=>h σ' H' M' (s.trans s' sub) E' λa z=>back a (o' a z)
def PostF.xa{P:Ow}{c:Str}(h:PostF X B P H (.err c) D):XA X lq H c:=XA.later (P:=P) h (λ_ _ e _=>e) λ_ z=>z.elim
def sN(Z:En):Rs Fl:=.ok (.nx Z)
def aB(F G:V4)(Z:En):Rs Fl:=do
 let f <-F Z
 match f with
 |.nx Z'=>G Z'
 |f=>.ok f
def IT:mP X [] sN:=PSs.imp oV λD σ H ⟨Z,B,M,E,h⟩=>h σ H M (λ_ _ e _=>e) E λa z=>.inl z
def F0{cb:List ZF}{F G:V4}(h1:pj X st F)(h2:mP X cb G):mP X (st::cb) (aB F G):=PSs.imp (jL h1 h2) λD σ H hh_=>by
 obtain⟨Z,B,M,E,h⟩:=hh_;refine⟨Z,B,M,E,?_⟩
 unfold aB at h
 cases q:F Z with
 |bad=>rw[q]at h;exact h.elim
 |err c=>rw[q]at h;exact h
 |ok f=>
  rw[q,ay]at h
  cases f with
  |nx Z'=>exact λσ' H' M' s' E' o'=>⟨Z',B,M',E',h.later s' o'⟩
  |rt t=>exact h
  |bk Z'=>exact h
  |ct Z'=>exact h
def IS{F:V4}(h:pj X st F):mP X [st] F:=gZ h
def aN(f:V5)(Z:En):Rs Fl:=do
 let t <-f Z
 .ok (.rt t)
def IP(ha:cE X a fa):pj X (.Return (ZA a) pos) (aN fa):=PS.imp (lH ha) λD σ H hh_=>by
 obtain⟨Z,B,M,E,h⟩:=hh_;refine⟨Z,OO B M,E.o,?_⟩
 unfold aN at h
 cases q:fa Z with
 |bad=>rw[q]at h;exact h.elim
 |err c=>rw[q]at h;exact PostF.xa h
 |ok t=>
  rw[q,ay]at h;exact λH' s v r=>h v H' (SameO.of s) (r.less λ_ z=>.inl z)
def eX(f:V6)(F G:V4)(Z:En):Rs Fl:=do
 let k <-f Z
 if k then F Z else G Z
def Ll{A B:List ZF}{F G:V4}(hc:tE X c f)(ha:mP X A F)(hb:mP X B G):pj X (.If c A B pos) (eX f F G):=PS.imp (v5 hc ha hb) λD σ H hh_=>by
 obtain⟨Z,B,M,E,h⟩:=hh_;refine⟨Z,OO B M,E.o,?_⟩
 unfold eX at h
 cases q:f Z with
 |bad=>rw[q]at h;exact h.elim
 |err c=>rw[q]at h;exact PostF.xa h
 |ok k=>
  rw[q,ay]at h;intro H' s
  have E':Ev X.K B M H' Z σ:=E.same s
  cases k with
  |true=>refine L2.iteT ?_;exact⟨Z,B,M,E',PostF.later (by simpa using h) (SameO.of s) λa z=>.inl z⟩
  |false=>refine L2.iteF ?_;exact⟨Z,B,M,E',PostF.later (by simpa using h) (SameO.of s) λa z=>.inl z⟩
def b7(f:V5)(g:T->En->Rs En)(Z:En):Rs Fl:=do
 let t <-f Z
 match g t Z with
 |.ok Z'=>.ok (.nx Z')
 |_=>.bad
variable{f:V5}
def Cu(E:Ev X.K B M H Z σ)(h:PostF X B M.u H (b7 f g Z) D):Cn (tP X f) (Cm X g) D σ H:=by
 refine⟨Z,OO B M,E.o,?_⟩
 unfold b7 at h
 cases q:f Z with
 |bad=>rw[q]at h;exact h.elim
 |err c=>rw[q]at h;exact PostF.xa h
 |ok t=>
  rw[q,ay]at h;intro H' s v r;refine⟨Z,OO B M,M,t,E.env.same s,r,?_⟩
  cases q2:g t Z with
  |bad=>rw[q2]at h;exact h.elim
  |err c=>rw[q2]at h;exact h.elim
  |ok Z'=>
   rw[q2]at h;exact λσ' E'=>h σ' H' M (SameO.of s) ⟨E',E.mine⟩ λa z=>.inl z
def zv{Q':VK}(h:tP X f σ H Q)(w:∀v H',Q v H'->Q' v H'):tP X f σ H Q':=by
 obtain⟨Z,O,E,q⟩:=h;exact⟨Z,O,E,Post.mono q λt H' _ z v r=>w v H' (z v r)⟩
def Lk{elt:ZG}{spos py:Pos}{src:List (Option Nat)}{fc:V6}(i:Nat){y:Str}
  (hc:X.calm=ZC) (S:LcScope X scope N' src) (hi:BD X tg iter fi)
  (block:∀cl C s₀ H₀ fp,Ff (cm X scope cl N' C s₀ H₀ fp) tg tgt/\BK (cm X scope cl N' C s₀ H₀ fp) ifs (Ck (cm X scope cl N' C s₀ H₀ fp) fc)/\cE (cm X scope cl N' C s₀ H₀ fp) elt fe)
  (hN:X.N.Nodup) (hiy:X.N[i]?=ZA y:=by rfl) (hy:autoParam (Loc X.env.scope y) x_) (hsw:OQ (.ListComp elt [⟨tg,iter,ifs,0⟩] scope pos) (ZA (.Name y py)) spos.line X.env=pure ZC:=by rfl)
  (hf:autoParam (X.fn y=ZC\/X.env.scope.names.lookup y=ZA .local) r_) (hs:autoParam (∀x,OZ iter X.env x=pure x) t_):
  pj X (.Assign [.Name y py] (.ListComp elt [⟨tg,iter,ifs,0⟩] scope pos) spos) (b7 (gC fi src tgt fc fe) (gN i)):=by
 have hPG:∀cl C s₀ H₀ fp,PG (cm X scope cl N' C s₀ H₀ fp) tg (Cm X tgt):=λcl C s₀ H₀ fp=>(block cl C s₀ H₀ fp).1
 have hPI:∀cl C s₀ H₀ fp,BK (cm X scope cl N' C s₀ H₀ fp) ifs (tPT0 X.K fc):=λcl C s₀ H₀ fp lm s σ H Q I h=>(block cl C s₀ H₀ fp).2.1 lm s σ H Q I (tPT0.up (X:=cm X scope cl N' C s₀ H₀ fp) h)
 have hPE:∀cl C s₀ H₀ fp,PE (cm X scope cl N' C s₀ H₀ fp) elt (tP0 X.K fe):=λcl C s₀ H₀ fp lm s σ H Q I h=>(block cl C s₀ H₀ fp).2.2 lm s σ H Q I (tP0.up (X:=cm X scope cl N' C s₀ H₀ fp) h)
 refine PS.imp (LD (g:=Cm X tgt) (tc:=tPT0 X.K fc) (te:=tP0 X.K fe) (i:=i) hc S hi (λcl C s₀ H₀ fp=>⟨hPG cl C s₀ H₀ fp,hPI cl C s₀ H₀ fp,hPE cl C s₀ H₀ fp⟩) hN hiy hy hsw hf hs) λD σ H ⟨Z,B,M,E,h⟩=>zT (zv (Cu E h) λv H' z=>?_)
 obtain⟨Z',O,M',t,E',r,q⟩:=z;unfold gN at q
 split at q
 ·rename_i Z2 e
  split at e
  ·rename_i hl
   cases e;exact q _ (E'.set hl r)
  ·cases e
 ·exact q.elim
def IY(ha:cE X a fa)(hg:Ff X tg g)(hs:Uq [tg] a pos.line X.env=pure ZD:=by rfl)(hw:Ur [tg] a X.env=pure ZB:=by rfl)
  (h1:(PL [tg] X.env).map (·.2)=[assign tg X.env]:=by rfl):pj X (.Assign [tg] a pos) (b7 fa g):=PS.imp (Jk ha hg hs hw h1) λD σ H ⟨Z,B,M,E,h⟩=>Cu E h
def yf(f:V5)(Z:En):Rs Fl:=do
 let _ <-f Z
 .ok (.nx Z)
def FZ(ha:cE X a fa)(hs:OQ a ZB pos.line X.env=pure ZD:=by rfl):pj X (.Expr a pos) (yf fa):=PS.imp (oX ha hs) λD σ H hh_=>by
 obtain⟨Z,B,M,E,h⟩:=hh_;refine⟨Z,OO B M,E.o,?_⟩
 unfold yf at h
 cases q:fa Z with
 |bad=>rw[q]at h;exact h.elim
 |err c=>rw[q]at h;exact PostF.xa h
 |ok t=>
  rw[q,ay]at h;exact λH' s v r=>h σ H' M (SameO.of s) (E.same s) λa z=>.inl z
noncomputable def bo(g:T->En->Rs En)(F:V4):List T->V4
 |[],Z=>.ok (.nx Z)
 |t::r,Z=>do
  let Z1 <-g t Z
  let f <-F Z1
  match f with
  |.nx Z2=>bo g F r Z2
  |.ct Z2=>bo g F r Z2
  |.bk Z2=>.ok (.nx Z2)
  |.rt t=>.ok (.rt t)
def fA(fi:V3)(g:T->En->Rs En)(F:V4)(Z:En):Rs Fl:=do
 let ts <-fi Z
 match bo g F ts Z with
 |.ok f=>.ok f
 |_=>.bad
def m9{t:Sem α}{Q:α->NV->Prop}(h:ZJ (ZK P w) A t Q (λ_ _=>False) s):ZJ (ZK P w) A t Q E s:=Pz h (λ_ _ q=>q) λ_ _ z=>z.elim
def Gh{wi:TI}{g:TG}{tb:TS}(hc:X.calm=ZC)(hi:PI X tg iter wi)(hg:PG X.nox tg g)(hb:PSs X.nox body tb)
  (hs:autoParam (∀x,OZ iter X.env x=pure x) t_):PS X (.For tg iter body [] pos) (tFor wi g tb):=by
 intro lm s σ H D I h;refine wpAny_For (bW (hi lm s σ H _ I h) λv s1 h1=>bW h1 λitv s2 h2=>?_) hs
 obtain⟨it,fp,tn,J,H2,e,I2,T,st2,f2,W,⟨m0,w0⟩,turn⟩:=h2;subst e
 have stat:∀{H':Hp},(∀b∈fp,H' b=ZB)->∀b∈fp,rk X lm H' b:=λhn b hb=>⟨hn b hb,(f2 b hb).2⟩
 refine codeAny_forLoop_any (λn s'=>∃i σ' H',Inv X lm σ' H' s'/\tn i s'.heap/\(∀b∈fp,H' b=ZB)/\W i n σ' H') ?_ m0 ⟨0,σ,H2,I2,st2,λb hb=>(f2 b hb).1,w0⟩
 rintro n s3 ⟨i,σ3,H3,I3,st3,fr3,w3⟩
 rcases turn i n σ3 H3 w3 with⟨stop,qn⟩|⟨go,N,hN,step⟩
 ·refine m9 (bW (T.done X.nox rfl rfl rfl hc i lm s3 σ3 H3 _ (I3.FB _) (stat fr3) st3 stop) λr s4 ⟨hr,I4⟩=>?_)
  subst hr;exact QV ⟨σ3,H3,I4.FB _,qn⟩
 ·refine m9 (bW (T.item X.nox rfl rfl rfl hc i lm s3 σ3 H3 _ (I3.FB _) (stat fr3) st3 go) λr s4 ⟨u,hr,h4⟩=>?_)
  subst hr;refine m9 (bW h4 λ_ s5 hh_=>?_)
  obtain⟨x,H5,I5,r5,y5,st5,fr5⟩:=hh_
  have I5':=Inv.pinned (X:=X.nox) I5 (stat fr5) (T.obj _ _ st5);refine m9 (bW (hg _ s5 σ3 H5 x u _ I5' r5 (step x H5 y5)) λ_ s6 hh_=>?_)
  obtain⟨σ6,H6,I6,q6⟩:=hh_;refine m9 (bW (hb _ s6 σ6 H6 _ I6 q6) λf s7 q7=>?_)
  have again:∀{σ7:L2.St}{H7:Hp},Inv X.nox (lm++pT fp s5.heap) σ7 H7 s7->N σ7 H7->∃m,m<n/\∃i σ' H',Inv X lm σ' H' s7/\tn i s7.heap/\(∀b∈fp,H' b=ZB)/\W i m σ' H':=λ{σ7 H7} I7 n7=>by
   obtain⟨m',hm,w7⟩:=hN σ7 H7 n7;refine⟨m',hm,i+1,σ7,H7,(Inv.M7 (X:=X.nox) I7).FB _,T.keep _ _ _ st5 λb hb o e=>(I7.pin (b,o) (Om _ (Om _ (iW hb e)))).1,λb hb=>?_,w7⟩
   obtain⟨o,e,d⟩:=T.obj _ _ st5 b hb;exact(I7.pin (b,o) (Om _ (Om _ (iW hb e)))).2.1
  cases f with
  |next=>obtain⟨σ7,H7,I7,n7⟩:=q7;exact again I7 n7
  |cont=>obtain⟨σ7,H7,I7,n7⟩:=q7;exact again I7 n7
  |brk=>obtain⟨σ7,H7,I7,q7⟩:=q7;exact⟨σ7,H7,(Inv.M7 (X:=X.nox) I7).FB _,q7⟩
  |ret v=>obtain⟨x7,σ7,H7,I7,r7,q7⟩:=q7;exact⟨x7,σ7,H7,(Inv.M7 (X:=X.nox) I7).FB _,r7,q7⟩
def IV{F:V4}(hc:X.calm=ZC)(hi:BD X tg iter fi)(hg:Ff X.nox tg g)(hb:mP X.nox body F)
  (hs:autoParam (∀x,OZ iter X.env x=pure x) t_):pj X (.For tg iter body [] pos) (fA fi g F):=PS.imp (Gh hc hi hg hb hs) λD σ H hh_=>by
 obtain⟨Z,B,M,E,h⟩:=hh_;refine⟨Z,OO B M,E.o,?_⟩
 unfold fA at h
 cases q:fi Z with
 |bad=>rw[q]at h;exact h.elim
 |err c=>rw[q]at h;exact PostF.xa h
 |ok ts=>
  rw[q,ay]at h
  cases qq:bo g F ts Z with
  |bad=>rw[qq]at h;exact h.elim
  |err c=>rw[qq]at h;exact h.elim
  |ok fin=>
  rw[qq]at h;intro H1 s1 J hJ
  have E1:Ev X.K B M H1 Z σ:=E.same s1
  have h1:PostF X B M.u H1 (.ok fin) D:=PostF.later h (SameO.of s1) λa z=>.inl z
  refine⟨λi m σ' H'=>m=ts.length - i/\i<=ts.length/\SameO M.u H1 H'/\∃Z' M',Ev X.K B M' H' Z' σ'/\(∀a,M'.u a->M.u a\/Nw X.K H1 a)/\bo g F (ts.drop i) Z'=.ok fin,
   ⟨ts.length,by omega,P9 _,λ_ _ e _=>e,Z,M,E1,λa z=>.inl z,by simpa using qq⟩,?_⟩
  rintro i m σ' H' ⟨rfl,hi',sm,Z',M',E',ow,hl⟩
  have it:=hJ M.u (OO B M') (λa z=>.inl (.inr z)) (λa z=>z.elim (λw=>.inl (.inl w)) λw=>(ow a w).elim (λy=>.inl (.inr y)) .inr) i H' sm (λa z=>(E'.env.trk a z).some)
  by_cases hlt:i<ts.length
  ·have hti:ts[i]?=ZA ts[i]:=by simp
   obtain⟨go,yl⟩:=it.2 ts[i] hti;rw[Qs hlt]at hl;unfold bo at hl;refine .inr ⟨go,λσ2 H2=>∃m',m'<ts.length - i/\(m'=ts.length - (i+1)/\i+1<=ts.length/\SameO M.u H1 H2/\∃Z2 M2,Ev X.K B M2 H2 Z2 σ2/\(∀a,M2.u a->M.u a\/Nw X.K H1 a)/\bo g F (ts.drop (i+1)) Z2=.ok fin),λσ2 H2 z=>z,λx Hc y=>?_⟩
   obtain⟨sc,rx⟩:=yl x Hc y;refine⟨Z',OO B M',M',ts[i],E'.env.same sc,rx,?_⟩
   cases e1:g ts[i] Z' with
   |bad=>rw[e1]at hl;cases hl
   |err cc=>rw[e1]at hl;cases hl
   |ok Z1=>
    rw[e1,ay]at hl;intro σ1 Eg
    have E2:Ev X.K B M' Hc Z1 σ1:=⟨Eg,E'.mine⟩;refine⟨Z1,B,M',E2,?_⟩
    have smc:SameO M.u H1 Hc:=λb o e n=>sc _ _ (sm b o e n)
    have onward:∀{σ3:L2.St}{H3:Hp}{Z3:En}{M3:Mn},SameO M'.u Hc H3->Ev X.K B M3 H3 Z3 σ3->(∀a,M3.u a->M'.u a\/Nw X.K Hc a)->bo g F (ts.drop (i+1)) Z3=.ok fin →
      ∃m',m'<ts.length - i/\(m'=ts.length - (i+1)/\i+1<=ts.length/\SameO M.u H1 H3/\∃Z2 M2,Ev X.K B M2 H3 Z2 σ3/\(∀a,M2.u a->M.u a\/Nw X.K H1 a)/\bo g F (ts.drop (i+1)) Z2=.ok fin):=
     λ{σ3 H3 Z3 M3} s3 E3 o3 p3=>⟨_,by omega,rfl,hlt,smc.trans s3 ow,Z3,M3,E3,λa z=>(o3 a z).elim (ow a) (g8 smc),p3⟩
    cases e2:F Z1 with
    |bad=>rw[e2]at hl;cases hl
    |err cc=>rw[e2]at hl;cases hl
    |ok f=>
     rw[e2,ay]at hl
     cases f with
     |nx Z2=>exact λσ3 H3 M3 s3 E3 o3=>onward s3 E3 o3 hl
     |ct Z2=>exact λσ3 H3 M3 s3 E3 o3=>onward s3 E3 o3 hl
     |bk Z2=>
      cases hl
      exact λσ3 H3 M3 s3 E3 o3=>h1 σ3 H3 M3 (smc.trans s3 ow) E3 λa z=>(o3 a z).elim (ow a) (g8 smc)
     |rt t=>
      cases hl;exact λv H3 s3 r=>h1 v H3 (smc.trans s3 ow) r
  ·refine .inl ⟨it.1 (by omega),?_⟩
   have hi2:i=ts.length:=by omega
   subst hi2;rw[U6]at hl;cases hl;exact h1 σ' H' M' sm E' ow
noncomputable def bY(c:V6)(F:V4):Nat->V4
 |0,_=>.bad
 |n+1,Z=>match c Z with
  |.ok ZD=>.ok (.nx Z)
  |.ok ZC=>match F Z with
   |.ok (.nx Z')=>bY c F n Z'
   |.ok (.ct Z')=>bY c F n Z'
   |.ok (.bk Z')=>.ok (.nx Z')
   |.ok (.rt t)=>.ok (.rt t)
   |_=>.bad
  |_=>.bad
def CD{fc:V6}{F:V4}(n:Nat)(hc:tE X.nox c fc)(hb:mP X.nox body F):pj X (.While c body [] pos) (bY fc F n):=by
 have base:PS X.nox (.While c body [] pos) (x5 (Ck X.nox fc) (ML X.nox F)):=CQ PassesOwn.never hc hb;intro lm s σ H D I ⟨Z,B,M,E,h⟩
 cases qq:bY fc F n Z with
 |bad=>rw[qq]at h;exact h.elim
 |err c=>
  exfalso
  have:∀n Z,bY fc F n Z≠ .err c:=by
   intro n
   induction n with
   |zero=>intro Z z;cases z
   |succ n ih=>
    intro Z z;unfold bY at z
    split at z
    ·cases z
    ·split at z <;> first|exact ih _ z|cases z
    ·cases z
  exact this n Z qq
 |ok fin=>
  rw[qq]at h
  have goal:x5 (Ck X.nox fc) (ML X.nox F) D σ H:=by
   refine⟨λm σ' H'=>SameO M.u H H'/\∃Z' M',Ev X.K B M' H' Z' σ'/\(∀a,M'.u a->M.u a\/Nw X.K H a)/\bY fc F m Z'=.ok fin,⟨n,λ_ _ e _=>e,Z,M,E,λa z=>.inl z,qq⟩,?_⟩
   rintro m σ' H' ⟨sm,Z',M',E',ow,hl⟩
   cases m with
   |zero=>cases hl
   |succ m=>
    refine⟨Z',OO B M',E'.o,?_⟩
    unfold bY at hl
    cases e1:fc Z' with
    |bad=>rw[e1]at hl;cases hl
    |err cc=>rw[e1]at hl;cases hl
    |ok k=>
     rw[e1]at hl;intro H2 s2
     have E2:Ev X.K B M' H2 Z' σ':=E'.same s2
     have sm2:SameO M.u H H2:=λb o e n=>s2 _ _ (sm b o e n)
     cases k with
     |false=>
      cases hl;refine L2.iteF ?_
      exact h σ' H2 M' sm2 E2 ow
     |true=>
      refine L2.iteT ?_
      refine⟨λσ3 H3=>SameO M.u H H3/\∃Z3 M3,Ev X.K B M3 H3 Z3 σ3/\(∀a,M3.u a->M.u a\/Nw X.K H a)/\bY fc F m Z3=.ok fin,λσ3 H3 z=>⟨m,SO m,z⟩,Z',B,M',E2,?_⟩
      have hl':(match F Z' with|.ok (.nx Z')=>bY fc F m Z'|.ok (.ct Z')=>bY fc F m Z'|.ok (.bk Z')=>.ok (.nx Z')|.ok (.rt t)=>.ok (.rt t)|_=>.bad)=.ok fin:=hl
      cases e2:F Z' with
      |bad=>rw[e2]at hl';cases hl'
      |err cc=>rw[e2]at hl';cases hl'
      |ok f=>
       rw[e2]at hl'
       cases f with
       |nx Z2=>exact λσ3 H3 M3 s3 E3 o3=>⟨sm2.trans s3 ow,Z2,M3,E3,λa z=>(o3 a z).elim (ow a) (g8 sm2),hl'⟩
       |ct Z2=>exact λσ3 H3 M3 s3 E3 o3=>⟨sm2.trans s3 ow,Z2,M3,E3,λa z=>(o3 a z).elim (ow a) (g8 sm2),hl'⟩
       |bk Z2=>
        cases hl'
        exact λσ3 H3 M3 s3 E3 o3=>h σ3 H3 M3 (sm2.trans s3 ow) E3 λa z=>(o3 a z).elim (ow a) (g8 sm2)
       |rt t=>
        cases hl';exact λv H3 s3 r=>h v H3 (sm2.trans s3 ow) r
  refine m9 (bW (base lm s σ H D (I.FB _) goal) λf s' q=>?_)
  cases f with
  |next=>obtain⟨σ7,H7,I7,n7⟩:=q;exact⟨σ7,H7,I7.FB _,n7⟩
  |cont=>obtain⟨σ7,H7,I7,n7⟩:=q;exact⟨σ7,H7,I7.FB _,n7⟩
  |brk=>obtain⟨σ7,H7,I7,n7⟩:=q;exact⟨σ7,H7,I7.FB _,n7⟩
  |ret v=>obtain⟨x7,σ7,H7,I7,r7,q7⟩:=q;exact⟨x7,σ7,H7,I7.FB _,r7,q7⟩
def HE(Z:En):Rs Fl:=.ok (.ct Z)
end
def bV(F:V4)(Z:En):Rs T:=do
 let f <-F Z
 match f with
 |.nx _=>.ok .non
 |.rt t=>.ok t
 |_=>.bad
def aR(n:Nat)(ts:List T):En:=ts.map Sl.va++Oi (n - ts.length) Sl.em
variable{ts:List T}
def AK{o:OT}(e:(aR n ts)[i]?=ZA (.ow o)):False:=by
 unfold aR at e
 by_cases hi:i<ts.length
 ·rw[O5 (by simpa using hi),Oj,N6 hi]at e
  cases e
 ·rw[PC (by simpa using hi),Po]at e
  split at e <;> cases e
variable{N:List Str}
def kE(r:Reps K O H ts vs)(hl:ts.length<=N.length)(trk:∀a,O a->Mtb H a):Ev K O noM H (aR N.length ts) (start N vs):=by
 have hlen:=r.length
 have sub:∀a,OO O noM a->O a:=λa z=>z.elim id λ⟨_,w⟩=>w.elim
 refine⟨⟨by unfold aR L2.start;simp;omega,λi t e=>?_,λi o e=>(AK e).elim,λ_ _ z=>z.elim,λ_ _ _ z=>z.elim,λa z=>trk a (sub a z)⟩,λa ⟨_,z⟩=>z.elim⟩
 unfold aR at e;unfold L2.start
 by_cases hi:i<ts.length
 ·rw[O5 (by simpa using hi),Oj,N6 hi]at e
  have e':ts[i]=t:=by injection e with e;injection e
  obtain⟨v,e1,e2⟩:=r.get (i:=i) (t:=t) (by rw[<-e'];simp)
  refine⟨v,?_,e2.less sub⟩
  rw[O5 (by simp;omega),Oj,e1];rfl
 ·rw[PC (by simpa using hi),Po]at e
  split at e <;> cases e
section
variable {mg:V0}{base:ZH}
def Mv{qual:Str}{f:ZE}{g:List T->Rs T}(Fn:L2.Fun K x qual st f fd)(S:az N ps (ai st))(hn:ps.length=n)
  (hbody:∀(cdv:NS)(A:OB)(outer:List Env)(s:NV)(H:Hp)(E:XK),Room k (A.deeper (envOfC qual (ai st) s.heap.objs.size f cdv)) →
   ∃F,mP (gh CX0 P w K mg base N qual (ai st) f cdv A outer s H E).nox (bA st) F/\∀ts,ts.length=n->∀t,g ts=.ok t->bV F (aR N.length ts)=.ok t):FnOk P w K mg base CX0 (k+1) f fd ps (spP K n g):=by
 have hpl:ps.length<=N.length:=by have:=congrArg Pb S.pre;rw[OU]at this;omega
 refine Fn.ok S (λvs H Q E h=>?_) (λcdv A outer s H vs Q E hr h=>?_)
 ·obtain⟨ts,O,r,_,hl,_⟩:=h
  rw[<-r.length,hl,hn]
 ·obtain⟨ts,O,r,trk,hl,h⟩:=h
  obtain⟨F,hF,hv⟩:=hbody cdv A outer s H E hr;refine⟨_,hF,aR N.length ts,O,noM,kE r (by omega) trk,?_⟩
  have no:∀a,¬noM.u a:=λa ⟨_,z⟩=>z
  cases q:g ts with
  |bad=>rw[q]at h;exact h.elim
  |err c=>rw[q]at h;exact h.elim
  |ok t=>
   rw[q]at h
   have hb:=hv ts hl t q;unfold bV at hb
   cases q2:F (aR N.length ts)with
   |bad=>rw[q2]at hb;cases hb
   |err c=>rw[q2]at hb;cases hb
   |ok fl=>
    rw[q2,ay]at hb
    have sameOf:∀H',SameO noM.u H H'->Same H H':=λH' s b o e=>s b o e (no b)
    cases fl with
    |nx Z'=>cases hb;exact λσ' H' M' s' E' o'=>h .non H' (sameOf H' s') Rep.Nq
    |rt t'=>cases hb;exact λv H' s' r'=>h v H' (sameOf H' s') r'
    |bk Z'=>cases hb
    |ct Z'=>cases hb
end
end Tr
namespace Enu
open PySem
open AutoSeq1 (wpAny_loadPart')
variable{its:Array NS}
def Fw{it tt:ZE}{x:NS}(hi:s.heap.IsTupleIter it tt k)(ht:s.heap.IsTuple tt its)(hx:its[k]?=ZA x)
  (hQ:∀h',h'.IsTupleIter it tt (k+1)->Rg it s.heap h'->Q x {s with heap:=h'}):ZJ (ZK prog w) A (Qq (.ref it)) Q E s:=by
 obtain⟨ob,g1,g2,g3⟩:=id hi;obtain⟨ot,k1,_,m,k3⟩:=ht;unfold Qq;refine NY (P6 (name:=N7 "__next__") hi.typeIs Qg (Rb Qg hi.typeIs R0 ?_ (RV _)))
 show ZJ (ZK prog w) _ (field (.ref it) 0 >>= _) _ _ s
 refine NY (Qv g1 g3 (x:=.ref tt) rfl ?_)
 show ZJ (ZK prog w) _ (if (Oc tt == OI)=ZC then _ else _) _ _ s
 rw[if_neg (show ¬((Oc tt == OI)=ZC)by exact N9)]
 show ZJ (ZK prog w) _ (field (.ref it) 1 >>= _) _ _ s
 refine NY (Qv g1 g3 (x:=.int k 0) rfl ?_)
 show ZJ (ZK prog w) _ (seqItems? (.ref tt) >>= _) _ _ s
 refine NY (TU k1 k3 ?_)
 simp only[hx,PJ];refine NY (TV g1 g3 (by simp) (Oe ⟨x,rfl,Oe (hQ _ ?_ (TX ..))⟩))
 refine⟨_,RI _ g1 (RJ (Qj g3 _)),(Obj.cls_mapFields ..).trans g2,?_⟩
 rw[Qj g3];simp[rawInt]
def tupStop{it tt:ZE}(hh:A.handled=ZB)(hi:s.heap.IsTupleIter it tt k)(ht:s.heap.IsTuple tt its)(hx:its[k]?=ZB)
  (hE:∀h' e,Heap.ExtBut it s.heap h'->(∃o,h'.get? e=ZA o/\o.cls=.type "StopIteration")->E (.ref e) {s with heap:=h'}):ZJ (ZK prog w) A (Qq (.ref it)) Q E s:=by
 obtain⟨ob,g1,g2,g3⟩:=id hi;obtain⟨ot,k1,_,m,k3⟩:=ht;unfold Qq;refine NY (P6 (name:=N7 "__next__") hi.typeIs Qg (Rb Qg hi.typeIs R0 ?_ (RV _)))
 show ZJ (ZK prog w) _ (field (.ref it) 0 >>= _) _ _ s
 refine NY (Qv g1 g3 (x:=.ref tt) rfl ?_)
 show ZJ (ZK prog w) _ (if (Oc tt == OI)=ZC then _ else _) _ _ s
 rw[if_neg (show ¬((Oc tt == OI)=ZC)by exact N9)]
 show ZJ (ZK prog w) _ (field (.ref it) 1 >>= _) _ _ s
 refine NY (Qv g1 g3 (x:=.int k 0) rfl ?_)
 show ZJ (ZK prog w) _ (seqItems? (.ref tt) >>= _) _ _ s
 refine NY (TU k1 k3 ?_)
 simp only[hx,PJ];refine NY (UO (NY (TV g1 g3 (by simp) ?_)))
 show ZJ (ZK prog w) _ (newExc (.type "StopIteration") [] >>= _) _ _ _
 refine NY ?_
 simp only[newTuple,newExc];refine NY (PM ?_ (by size_fits))
 refine NY (m:=firstArgMember _ _) (wpAny_of_eq (a:=OI) (by first| (simp only[firstArgMember];rfl)|rfl) ?_)
 refine PM ?_ (by size_fits)
 simp only[raiseNew];refine NY (wpAny_handled ?_)
 first|rw[hh]|rw[show A.in1.handled=ZB from hh]
 refine NY (Oe (wpAny_throw ?_))
 refine hE _ _ (((TX ..).extBut.push _).push _) ⟨_,Og _ rfl,rfl⟩
def tupDraws(hh:A.handled=ZB)(it tt:ZE)(hne:tt≠it)(its:Array NS):
  Draws prog w A it [it,tt] its.size (λi v=>its[i]?=ZA v) (λi h=>h.IsTupleIter it tt i/\h.IsTuple tt its) where
 live:=λ_ _ st=>by obtain⟨o,ho,_⟩:=st.1;exact⟨o,ho⟩
 frame:=λ_ _ _ st hk=>by
  obtain⟨⟨o,e,r⟩,⟨o',e',r'⟩⟩:=st;exact⟨⟨o,hk it (by simp) o e,r⟩,⟨o',hk tt (by simp) o' e',r'⟩⟩
 item:=λi s Q E hi st hQ=>by
  refine Fw st.1 st.2 (x:=its[i]) (by simp[hi]) λh' hit' hs'=>?_
  obtain⟨o',e',r'⟩:=st.2;exact hQ _ h' s.toks (by simp[hi]) ⟨hit',⟨o',(hs'.2 tt hne).trans e',r'⟩⟩ hs'
 done:=λs Q E st hE=>tupStop hh st.1 st.2 (by simp) hE
def newT(l:ZE)(items:Array NS)(n:Nat)(dct:Option ZE)(sl:Array (Option NS)):
  Meets (Builtin.«enumerate.__new__» ⟨[.type "enumerate",.ref l],[]⟩) (λ_ R s=>s.heap.get? l=ZA {cls:=.type "tuple",dict:=dct,data:=.seq items n,slots:=sl} ∧
   R (.ok (.ret (.ref (s.heap.push {cls:=.type "tuple_iterator",data:=.fields #[.ref l,.int 0 0]}).objs.size)))
    {s with heap:=(s.heap.push {cls:=.type "tuple_iterator",data:=.fields #[.ref l,.int 0 0]}).push {cls:=.type "enumerate",data:=.fields #[.none,.bool ZD,.ref s.heap.objs.size,rawInt 0,.none,.none]}}):=
 .of_wp λprog w A R s h=>by
  obtain⟨hp,g,d,tk,os⟩:=s;obtain⟨hl,h⟩:=h
  have hsub:=sub_enumerate
  have hT:Heap.IsTuple (Shared.heap ⟨hp,g,d,tk,os⟩) l items:=⟨_,hl,rfl,n,rfl⟩
  wp_walk using QC hl
  refine wpAny_stack_any λst=>Oe ?_
  split
  ·rename_i c _ _ _ _ _
   cases (c == Rx "enumerate")
   ·wp_walk using QC hl,Rq hT
    exact⟨_,rfl,h⟩
   ·wp_walk using QC hl,Rq hT
    exact⟨_,rfl,h⟩
  ·wp_walk using QC hl,Rq hT
   exact⟨_,rfl,h⟩
def callT{l:ZE}{items:Array NS}(hL:s.heap.IsTuple l items)
  (h:∀h',IsEnum h' (s.heap.objs.size+1) s.heap.objs.size 0 .none->h'.IsTupleIter s.heap.objs.size l 0->h'.objs.size=s.heap.objs.size+2 →
   (∀b o,s.heap.get? b=ZA o->h'.get? b=ZA o)->Q (.ref (s.heap.objs.size+1)) {s with heap:=h'}):ZJ (ZK prog w) A (call (.type "enumerate") [.ref l]) Q E s:=by
 obtain⟨⟨cc,dc,dd,ss⟩,hl,hc,n,hd⟩:=hL
 replace hc:cc=.type "tuple":=hc
 replace hd:dd=.seq items n:=hd
 subst hc hd;refine callType_new F.called_enumerate (by decide) (F.typeCall_enumerate_1 _) (F.newCall_enumerate_1 _) (λobj=>F.args_object_init_2 obj _) F.entry_enumerate_new (newT l items n dc ss) ⟨hl,?_⟩
 have hz:(s.heap.push {cls:=.type "tuple_iterator",data:=.fields #[.ref l,.int 0 0]}).objs.size=s.heap.objs.size+1:=Qr ..
 show _/\_
 rw[hz]
 have he:IsEnum ((s.heap.push {cls:=.type "tuple_iterator",data:=.fields #[.ref l,.int 0 0]}).push
   {cls:=.type "enumerate",data:=.fields #[.none,.bool ZD,.ref s.heap.objs.size,rawInt 0,.none,.none]}) (s.heap.objs.size+1) s.heap.objs.size 0 .none:=by
  have q:=Og (s.heap.push {cls:=.type "tuple_iterator",data:=.fields #[.ref l,.int 0 0]})
   (o:={cls:=.type "enumerate",data:=.fields #[.none,.bool ZD,.ref s.heap.objs.size,rawInt 0,.none,.none]}) rfl
  rw[hz]at q;exact q
 refine⟨⟨_,he,rfl⟩,h _ he ⟨_,N4 _ (Og _ rfl),rfl,rfl⟩ (by rw[Qr,hz]) λb o x=>N4 _ (N4 _ x)⟩
end Enu
namespace L2
open PySem PySem.Spec PyProof.Rows
variable{X:Cx}{fp:List ZE}{h':ZH}
section
variable {lm:V2}{σ:L2.St}{H:Hp}
def Inv.Nt{Tp:ZE}{xs:List V}(I:Inv X lm σ H s)(hf:∀b∈fp,rk X lm H b)(k:∀b o,b∉fp->s.heap.get? b=ZA o->h'.get? b=ZA o)
  (ht:∀b∈fp,∃o,h'.get? b=ZA o) (hT:s.heap.objs.size<=Tp) (new:ObjOk X.prog X.w (upd H Tp (.tup xs)) h' Tp (.tup xs)):Inv X lm σ (upd H Tp (.tup xs)) {s with heap:=h',toks:=t'}:=by
 have hn:H Tp=ZB:=I.hok.fresh hT
 have lu:∀b o,s.heap.get? b=ZA o->b≠Tp:=λb o e=>Pr (Of (N8 e) hT)
 have nf:∀b u,H b=ZA u->b∉fp:=λb u e z=>by rw[(hf b z).1]at e;cases e
 refine I.step (g':=s.gens) (d':=s.drawn) (ch:=fp) (λb hb=>⟨(hf b hb).2.2.2.1,(hf b hb).2.1,(hf b hb).2.2.2.2.1,(hf b hb).2.2.2.2.2⟩) (λb o _ _ hc e _=>k b o hc e) (λb o _ _ hc e _=>⟨o.slots,k b o hc e⟩)
  (λb o _ e n=>by rw[aG (lu b o e)];exact n) (λb o hc e=>⟨o,k b o hc e⟩) (λb ys e=>by rw[aG (cy e hn)];exact e) (λb o u e=>by rw[aG (cy e hn)];exact e)
  (λb ps e=>⟨#[],by rw[aG (cy e hn),e];simp⟩) (λm hm=>?_) (λb u e=>?_) I.bare
 ·obtain⟨o,es,ep,ho,r⟩:=hm
  exact⟨o,es,ep,k _ o (λz=>(hf _ z).2.1 rfl) ho,r⟩
 ·by_cases hb:b=Tp
  ·subst hb;rw[aJ]at e;cases e;exact new
  ·rw[aG hb]at e
   refine(I.hok b u e).Nc (λc v hc q=>k c v ?_ q) (λc q=>by rw[aG (cy q hn)];exact q) λc ys q=>by rw[aG (cy q hn)];exact q
   rcases hc with z|z
   ·rw[z];exact nf b u e
   ·exact nf c _ z
def Inv.Ni(I:Inv X lm σ H s)(hf:∀b∈fp,rk X lm H b)(k:∀b o,b∉fp->s.heap.get? b=ZA o->h'.get? b=ZA o):Inv X lm σ H {s with heap:=h',toks:=t'}:=by
 have nf:∀b u,H b=ZA u->b∉fp:=λb u e z=>by rw[(hf b z).1]at e;cases e
 refine I.step (g':=s.gens) (d':=s.drawn) (ch:=fp) (λb hb=>⟨(hf b hb).2.2.2.1,(hf b hb).2.1,(hf b hb).2.2.2.2.1,(hf b hb).2.2.2.2.2⟩) (λb o _ _ hc e _=>k b o hc e) (λb o _ _ hc e _=>⟨o.slots,k b o hc e⟩)
  (λb o _ e n=>n) (λb o hc e=>⟨o,k b o hc e⟩) (λb ys e=>e) (λb o u e=>e)
  (λb ps e=>⟨#[],by rw[e];simp⟩) (λm hm=>?_) (λb u e=>?_) I.bare
 ·obtain⟨o,es,ep,ho,r⟩:=hm
  exact⟨o,es,ep,k _ o (λz=>(hf _ z).2.1 rfl) ho,r⟩
 ·refine(I.hok b u e).Nc (λc v hc q=>k c v ?_ q) (λc q=>q) λc ys q=>q
  rcases hc with z|z
  ·rw[z];exact nf b u e
  ·exact nf c _ z
end
def Fd(K:NQ)(H:Hp)(a:ZE)(tt:Bool)(xs:List V):Prop:=if tt then SqT K H a xs else SqL K H a xs
def M5(K:NQ)(a:ZE)(tt:Bool):It:=
 ⟨λi H=>∃xs x,Fd K H a tt xs/\xs[i]?=ZA x,λi H x H'=>∃p v,x=.ref p/\H p=ZB/\H'=upd H p (.tup [.int (i:Nat),v])/\∀xs,Fd K H a tt xs->xs[i]?=ZA v,λi H=>∃xs,Fd K H a tt xs/\xs.length<=i⟩
def itAt(tt:Bool)(h:ZH)(it a:ZE)(i:Nat):Prop:=if tt then h.IsTupleIter it a i else h.IsListIter it a i
variable{h:ZH}
def itAt.obj{it a:ZE}(st:itAt tt h it a i):∃o,h.get? it=ZA o/\∀v,o.data≠ .cell v:=by
 cases tt with
 |true=>obtain⟨o,e,c,d⟩:=(show h.IsTupleIter it a i from st);exact⟨o,e,λv z=>by rw[d]at z;cases z⟩
 |false=>obtain⟨o,e,c,d⟩:=(show h.IsListIter it a i from st);exact⟨o,e,λv z=>by rw[d]at z;cases z⟩
def itAt.keep{it a:ZE}(st:itAt tt h it a i)(k:∀o,h.get? it=ZA o->h'.get? it=ZA o):itAt tt h' it a i:=by
 cases tt with
 |true=>obtain⟨o,e,r⟩:=(show h.IsTupleIter it a i from st);exact(show h'.IsTupleIter it a i from⟨o,k o e,r⟩)
 |false=>obtain⟨o,e,r⟩:=(show h.IsListIter it a i from st);exact(show h'.IsListIter it a i from⟨o,k o e,r⟩)
variable{elts:List ZG}{pos:Pos}
def AH(tt:Bool)(a e it:ZE)(hei:e≠it):
  Bz P w K (.Tuple elts kk pos) (M5 K a tt) [e,it] e (λi h=>(∃old,IsEnum h e it i old)/\itAt tt h it a i) where
 mem:=by simp
 obj:=λi h st b hb=>by
  obtain⟨⟨old,he⟩,hi⟩:=st;rcases N0.mp hb with rfl|hb
  ·exact⟨_,he,λv z=>by have z':Vm _=Data.cell v:=z;cases z'⟩
  ·rw[Oa.mp hb];exact hi.obj
 keep:=λi h h' st k=>by
  obtain⟨⟨old,he⟩,hi⟩:=st;exact⟨⟨old,k e (by simp) _ he⟩,hi.keep λo q=>k it (by simp) o q⟩
 item:=by
  intro X hP hw hK hc i lm s σ H E I hf st hg;subst hP hw hK;obtain⟨xs,x,hq,hx⟩:=hg;obtain⟨⟨old,he⟩,hi⟩:=st
  have key:∀(its:List NS),Vals xs its->(∀ys,Fd X.K H a tt ys->ys=xs)->∀(fp0:List ZE)(St:Nat->ZH->Prop),Draws X.prog X.w X.A.in1 it fp0 its.toArray.size (λi v=>its.toArray[i]?=ZA v) St->e∉fp0->it∈fp0->St i s.heap →
    (∀h',St (i+1) h'->itAt tt h' it a (i+1)) →
    ZJ (ZK X.prog X.w) X.A (pyNext (.ref e)) (λr s1=>∃u,r=ZA u/\ZJ (ZK X.prog X.w) X.A (Rp (.Tuple elts kk pos) (.ref e) u) (λ_ s2=>∃x' H',Inv X lm σ H' s2/\RelV x' u/\(M5 X.K a tt).yld i H x' H' ∧
     ((∃old,IsEnum s2.heap e it (i+1:Nat) old)/\itAt tt s2.heap it a (i+1))/\∀b∈ [e,it],H' b=ZB) E s1) E s:=by
   intro its rv uniq fp0 St D hef hif hst hnext;obtain⟨u,hu,ru⟩:=rv.get hx
   have hlt:i<its.toArray.size:=by
    have:=(N1.mp hu).1
    simpa using this
   have W:=WalksT.enumerateD D e hei hef hif;refine W.item i s _ _ hlt ⟨⟨old,he⟩,hst⟩ λTp vals h1 tk hPt hTsz hTup hMid hk=>⟨.ref Tp,rfl,?_⟩
   refine W.go elts kk pos i Tp {s with heap:=h1,toks:=tk} _ _ hMid λh2 hst2 hk2=>?_
   obtain⟨t,x',hPx,hvals⟩:=hPt;subst hvals
   have hxe:x'=u:=by
    have h1':its.toArray[i]?=ZA x':=hPx
    have h2':its.toArray[i]?=ZA u:=by simpa using hu
    rw[h1']at h2';exact OH h2'
   subst hxe
   have hTw:=W.apart i Tp h1 hMid;obtain⟨oT,eT,rT⟩:=hTup
   have eT2:h2.get? Tp=ZA oT:=hk2 Tp oT hTw eT
   have kAll:∀b o,b∉ [e,it]->s.heap.get? b=ZA o->h2.get? b=ZA o:=λb o hb q=>hk2 b o hb (hk b o hb q)
   obtain⟨⟨old2,he2⟩,hs2⟩:=hst2
   have hit2:=hnext h2 hs2
   have there:∀b∈ [e,it],∃o,h2.get? b=ZA o:=λb hb=>by
    rcases N0.mp hb with rfl|hb
    ·exact⟨_,he2⟩
    ·rw[Oa.mp hb];obtain⟨o,q,_⟩:=hit2.obj;exact⟨o,q⟩
   have hn:H Tp=ZB:=I.hok.fresh hTsz
   have new:ObjOk X.prog X.w (upd H Tp (.tup [.int (i:Nat),x])) h2 Tp (.tup [.int (i:Nat),x]):=
    ⟨by show 2<=ZI;decide,[.int (i:Nat) t,x'],.cons ⟨t,rfl⟩ (.cons ru .nil),⟨oT,eT2,rT⟩⟩
   have I2:=I.Nt (t':=tk) hf kAll there hTsz new;refine⟨.ref Tp,_,I2,rfl,⟨Tp,x,rfl,hn,rfl,λys hy=>by rw[uniq ys hy];exact hx⟩,⟨⟨old2,he2⟩,hit2⟩,λb hb=>?_⟩
   have hbT:b≠Tp:=λz=>by
    obtain⟨o,q⟩:∃o,s.heap.get? b=ZA o:=by
     rcases N0.mp hb with rfl|hb
     ·exact⟨_,he⟩
     ·rw[Oa.mp hb];obtain⟨o,q,_⟩:=hi.obj;exact⟨o,q⟩
    exact absurd (Of (N8 q) hTsz) (by rw[z];exact OA _)
   rw[aG hbT];exact(hf b hb).1
  have hne:∀b∈ [e,it],a≠b:=λb hb z=>by
   have hb':=(hf b hb).1;rw[<-z]at hb'
   have hbs:=hf b hb
   cases tt with
   |true=>
    have hq':SqT X.K H a xs:=hq;rcases hq' with(q|⟨o,q⟩)|⟨o,its,n,q,_⟩
    ·rw[hb']at q;cases q
    ·rw[hb']at q;cases q
    ·rcases hbs.2.2.2.1 with z1|z1
     ·exact I.ok.noex a o (I.ok.mod.kin a o q) (z▸z1)
     ·exact absurd (Of (N8 (I.ok.bs a o (I.ok.mod.kin a o q)).1) (z▸z1)) (OA _)
   |false=>
    have hq':SqL X.K H a xs:=hq;rcases hq' with(q|⟨o,q⟩)|⟨o,its,n,q,_⟩
    ·rw[hb']at q;cases q
    ·rw[hb']at q;cases q
    ·rcases hbs.2.2.2.1 with z1|z1
     ·exact I.ok.noex a o (I.ok.mod.kin a o q) (z▸z1)
     ·exact absurd (Of (N8 (I.ok.bs a o (I.ok.mod.kin a o q)).1) (z▸z1)) (OA _)
  have hea:e≠a:=λz=>hne e (by simp) z.symm
  have hia:it≠a:=λz=>hne it (by simp) z.symm
  cases tt with
  |true=>
   have hq':SqT X.K H a xs:=hq;obtain⟨its,rv,p,hz⟩:=I.tuple hq'
   exact key its rv (λys hy=>I.Nf hy hq') _ _ (Enu.tupDraws (A:=X.A.in1) (I.ok.hd hc) it a (P4 hia) its.toArray) (by simp[hei,hea]) (by simp) ⟨hi,p⟩ λh' z=>z.1
  |false=>
   have hq':SqL X.K H a xs:=hq;obtain⟨its,rv,p,hz⟩:=I.list hq';exact key its rv (λys hy=>I.Nd hy hq') _ _ (Draws.list (A:=X.A.in1) (I.ok.hd hc) it a (P4 hia) its.toArray) (by simp[hei,hea]) (by simp) ⟨hi,p.isList⟩ λh' z=>z.1
 done:=by
  intro X hP hw hK hc i lm s σ H E I hf st hg;subst hP hw hK;obtain⟨xs,hq,hx⟩:=hg;obtain⟨⟨old,he⟩,hi⟩:=st
  have fin:∀h',Heap.ExtBut it s.heap h'->(ZB:Option NS)=ZB/\Inv X lm σ H {s with heap:=h'}:=λh' eb=>⟨rfl,I.Ni (t':=s.toks) hf λb o hb q=>eb b o (λz=>hb (by simp[z])) q⟩
  cases tt with
  |true=>
   have hq':SqT X.K H a xs:=hq;obtain⟨its,rv,p,hz⟩:=I.tuple hq'
   have hl:=rv.length
   have hnone:its.toArray[i]?=ZB:=by simp;omega
   have hT:s.TypeIs (.ref e) "enumerate":=⟨_,he,rfl⟩;unfold pyNext;refine NY (wpAny_attempt (P6 (name:=N7 "__next__") hT S8 (Rb S8 hT F.entry_enumerate_next ?_ (F.args_enumerate_next_1 _))))
   show ZJ (ZK X.prog X.w) _ (field (.ref e) 2 >>= _) _ _ _
   refine NY (Qv he rfl (x:=.ref it) rfl ?_)
   refine NY (Enu.tupStop (I.ok.hd hc) hi p hnone λh' x he' hx'=>?_)
   obtain⟨o,ho,hcl⟩:=hx'
   exact NY (wpAny_isInstance (T:="StopIteration") (b:=ZC) ⟨o,ho,hcl⟩ isSubtype_stop (Oe (fin h' he')))
  |false=>
   have hq':SqL X.K H a xs:=hq;obtain⟨its,rv,p,hz⟩:=I.list hq'
   have hl:=rv.length
   have hnone:its.toArray[i]?=ZB:=by simp;omega
   exact wpAny_pyNext_enum_end (I.ok.hd hc) he hi p.isList hnone fin
 self:=λ_ _ _ _ _ st h=>by
  obtain⟨⟨old,he⟩,_⟩:=st;exact UP he h
section
variable {tpos:Pos}
def qZ:OL "enumerate" =ZA (.type "enumerate"):=by decide+kernel
def iEnu(K:NQ)(tl:TA):TI:=λσ H R=>tl σ H λvs H1=>∃a tt,vs=[.ref a]/\(∃xs,Fd K H1 a tt xs)/\R (M5 K a tt) H1
def Gn{l:ZG}{tl:TA}{p:Pos}(hg:Gl X "enumerate")(hm:X.mg "enumerate" =ZB)(hl:PA X [l] tl)(hs:N5 [l] X.env=[(ZD,eval l X.env)]:=by rfl):PI X (.Tuple elts kk tpos) (.Call (.Name "enumerate" p) [l] [] pos) (iEnu X.K tl):=by
 intro lm s σ H R I h;refine Call_ (gg I hg hm qZ (Pa (bW (hl pos lm s σ H _ I h) λus s1 ⟨vs,H1,I1,r1,q1⟩=>?_) hs rfl))
 obtain⟨a,tt,e,⟨xs,hq⟩,q⟩:=q1;subst e;obtain⟨u,rfl,ru⟩:=jA r1;cases ru
 have fin:∀h',IsEnum h' (s1.heap.objs.size+1) s1.heap.objs.size 0 .none->itAt tt h' s1.heap.objs.size a 0->h'.objs.size=s1.heap.objs.size+2->(∀b o,s1.heap.get? b=ZA o->h'.get? b=ZA o) →
   ZJ (ZK X.prog X.w) X.A (pyIter (.ref (s1.heap.objs.size+1))) (PIE X lm σ (.Tuple elts kk tpos) R) X.xe {s1 with heap:=h'}:=λh' he hi hsz hk=>by
  refine UP he ?_
  have I2:Inv X lm σ H1 {s1 with heap:=h'}:=I1.kept (t':=s1.toks) hk
  refine⟨s1.heap.objs.size+1,[s1.heap.objs.size+1,s1.heap.objs.size],_,_,H1,rfl,I2,AH tt a (s1.heap.objs.size+1) s1.heap.objs.size (Nat.succ_ne_self _),⟨⟨_,he⟩,hi⟩,λb hb=>?_,q⟩
  rcases N0.mp hb with rfl|hb
  ·exact I1.Nm (by omega) (I1.hok.fresh (by omega))
  ·rw[Oa.mp hb];exact I1.Nm (Ob _) (I1.hok.fresh (Ob _))
 cases tt with
 |true=>
  have hq':SqT X.K H1 a xs:=hq;obtain⟨its,rv,pl,hz⟩:=I1.tuple hq'
  exact Enu.callT pl λh' he hi hsz hk=>fin h' he hi hsz hk
 |false=>
  have hq':SqL X.K H1 a xs:=hq;obtain⟨its,rv,pl,hz⟩:=I1.list hq';exact call_enumerate_list pl.isList λh' he hi hsz hk=>fin h' he hi hsz hk
end
end L2
namespace Tr
open PySem PySem.Spec PyProof.Rows L2
section
variable {X:Cx}{a:ZG}{fa:V5}{fs:V3}{p pos:Pos}
def iS(f:V5)(Z:En):Rs (List T):=do
 let x <-f Z
 match x with
 |.lst l=>.ok l
 |.tup l=>.ok l
 |_=>.bad
def Jb{tg:ZG}(ha:cE X a fa):BD X tg a (iS fa):=by
 intro lm s σ H R I ⟨Z,O,E,h⟩;unfold iS at h
 cases q:fa Z with
 |bad=>rw[q]at h;exact h.elim
 |err c=>exact zB ha lm s σ H R I ⟨Z,O,E,by unfold iL;rw[q]at h ⊢;exact h⟩
 |ok x=>
  rw[q,ay]at h
  cases x with
  |lst l=>exact zB ha lm s σ H R I ⟨Z,O,E,by unfold iL;rw[q];exact h⟩
  |tup l=>exact Ja ha lm s σ H R I ⟨Z,O,E,by unfold iT;rw[q];exact h⟩
  |_=>exact h.elim
def cM:Nat->List T->List T
 |_,[] =>[]
 |n,t::r=>.tup [.int n,t] ::cM (n+1) r
theorem sY:∀(l:List T)(n i:Nat),(cM n l)[i]?=(l[i]?).map λt=>T.tup [.int ((n+i:Nat):Int),t]
 |[],n,i=>by simp[cM]
 |t::l,n,0=>by simp[cM]
 |t::l,n,i+1=>by
  rw[cM,Px,sY l (n+1) i,Px]
  congr 2
  funext t
  congr 4
  omega
theorem sX:∀(l:List T)(n:Nat),(cM n l).length=l.length
 |[],n=>rfl
 |t::l,n=>by rw[cM,NZ,NZ,sX l]
noncomputable def iE(f:V3)(Z:En):Rs (List T):=do
 let xs <-f Z
 match xs with
 |[x] =>match x.items with
  |some l=>.ok (cM 0 l)
  |none=>.bad
 |_=>.bad
def F5{elts:List ZG}{tpos:Pos}(hm:X.mg "enumerate" =ZB)(ha:pk X [a] fs)(hg:Gl X "enumerate":=by rfl)(hs:N5 [a] X.env=[(ZD,eval a X.env)]:=by rfl):
  BD X (.Tuple elts kk tpos) (.Call (.Name "enumerate" p) [a] [] pos) (iE fs):=PI.imp (Gn hg hm ha hs) λσ H R hh_=>by
 obtain⟨Z,O,E,h⟩:=hh_;obtain⟨Z1,O1,E1,h1⟩:=fV E h;refine⟨Z1,O1,E1,Post.mono h1 λts H1 s1 q vs r=>?_⟩
 obtain⟨t',r',s',E',q'⟩:=q vs r
 split at q'
 ·rename_i x0
  obtain⟨v,rfl,rv⟩:=r'.one
  split at q'
  ·rename_i l hl
   have main:∀(aa:ZE)(tt:Bool)(ws:List V),v=.ref aa->¬ O aa->Reps X.K O H1 l ws->Fd X.K H1 aa tt ws->(∀P Hc,SameO P H1 Hc->¬ P aa->Fd X.K Hc aa tt ws)->¬ Nw X.K H1 aa →
     ∃a tt,[v]=[V.ref a]/\(∃xs,Fd X.K H1 a tt xs)/\R (M5 X.K a tt) H1:=λaa tt ws e n z sq mv nn=>by
    refine⟨aa,tt,by rw[e],⟨ws,sq⟩,q' H1 (Same.refl H1) _ λP O' hP hO i Hc hsm htr=>?_⟩
    have hnP:¬ P aa:=λy=>(hP aa y).elim n nn
    have sqc:=mv P Hc hsm hnP;refine⟨λhi=>⟨ws,sqc,by rw[<-z.length,<-sX l 0];exact hi⟩,λt ht=>?_⟩
    rw[sY]at ht
    cases e1:l[i]? with
    |none=>rw[e1]at ht;cases ht
    |some t0=>
     rw[e1]at ht;cases ht;obtain⟨v0,f1,f2⟩:=z.get e1;refine⟨⟨ws,v0,sqc,f1⟩,λx Hc' y=>?_⟩
     obtain⟨pp,vv,e2,hpn,e3,hy⟩:=y
     have:=hy ws sqc;rw[f1]at this;cases this;subst e2 e3;refine⟨bh hpn _,iD hpn (λzz=>?_) (Reps.FS (by simpa using Rep.Gc _) (Reps.FS (f2.move hP hO hsm) Reps.GE))⟩
     obtain⟨o,w⟩:=htr pp zz;rw[hpn]at w;cases w
   cases x0 with
   |tup m=>
    cases hl;obtain⟨aa,ws,e,n,qq,z⟩:=Rep.Fk.mp rv
    exact main aa ZC ws e n z (show SqT X.K H1 aa ws from SqT.of qq) (λP Hc hsm hn=>show SqT X.K Hc aa ws from SqT.of (hsm _ _ qq hn)) λw=>by rw[w.1]at qq;cases qq
   |lst m=>
    cases hl;obtain⟨aa,ws,e,n,qq,z⟩:=Rep.Do.mp rv
    exact main aa ZD ws e n z (show SqL X.K H1 aa ws from SqL.of qq) (λP Hc hsm hn=>show SqL X.K Hc aa ws from SqL.of (hsm _ _ qq hn)) λw=>by rw[w.1]at qq;cases qq
   |scr m=>
    cases hl;unfold Rep at rv;obtain⟨aa,e,n,qq⟩:=rv
    exact main aa ZD _ e n Reps.ints (show SqL X.K H1 aa _ from qq) (λP Hc hsm hn=>show SqL X.K Hc aa _ from Tr.SqL.keep hsm hn qq) (Tr.SqL.nn qq)
   |_=>cases hl
  ·exact q'.elim
 ·exact q'.elim
end
end Tr
namespace Tm
open PySem PyProof.Rows
def nh:fillsNumberSlot (.type "tuple") "mul" =pure ZD:=
 PySem.fillsNumberSlot_seq (id:="tuple.__mul__") (r:=ZA (.builtin "tuple.__rmul__")) SQ.lookup (by decide+kernel) UG.lookup (by decide+kernel)
def uc:seqRepeat? (.type "tuple")=pure (ZA (.builtin "tuple.__mul__")):=by
 unfold seqRepeat?;rw[U7 (T:="tuple") (name:="__mul__") (id:="tuple.__mul__") SQ.lookup (by decide+kernel),U7 (T:="tuple") (name:="__rmul__") (id:="tuple.__rmul__") UG.lookup (by decide+kernel)]
 rfl
def yg(a:Int)(t:Tok)(l:ZE)(items:Array NS)(n:Nat)(dd:Option ZE)(sl:Array (Option NS)):
  Meets (Builtin.«int.__rmul__» ⟨[.int a t,.ref l],[]⟩) (λ_ R s=>s.heap.get? l=ZA {cls:=.type "tuple",dict:=dd,data:=.seq items n,slots:=sl}/\R (.ok (.ret Value.notImplemented)) s):=
 .of_wp λprog w A R s h=>by obtain⟨hp,g,d,tk,os⟩:=s;obtain⟨hl,h⟩:=h;wp_walk;exact⟨_,rfl,h⟩
open AutoSeq1 (wpAny_loadPart')
def Dl(l:ZE)(items:Array NS)(n:Nat)(dd:Option ZE)(sl:Array (Option NS))(x:Int)(u:Tok)(h1:1<x)(h2:x<2 ^ 31)(hne:items.isEmpty=ZD)(hz:items.size*x.toNat<=ZI)
  (hz2:(Sw (λa b=>a++b) #[] (Oi x.toNat items)).size<=ZI):
  Meets (Builtin.«tuple.__mul__» ⟨[.ref l,.int x u],[]⟩) (λ_ R s=>s.heap.get? l=ZA {cls:=.type "tuple",dict:=dd,data:=.seq items n,slots:=sl} ∧
   R (.ok (.ret (Oc s.heap.objs.size))) {s with heap:=s.heap.push {cls:=Rx "tuple",data:=Data.seq (Sw (λa b=>a++b) #[] (Oi x.toNat items))}}):=
 .of_wp λprog w A R s h=>by
  obtain⟨hp,g,d,tk,os⟩:=s;obtain⟨hl,h⟩:=h
  have hT:VF hp l items:=⟨_,hl,rfl,n,rfl⟩
  have hx:((items.size:Nat):Int)*x=((items.size*x.toNat:Nat):Int):=by
   have e:x=((x.toNat:Nat):Int):=by omega
   rw[Int.natCast_mul,<-e]
  wp_walk using QC hl
  rw[if_neg (by simp;omega)]
  refine NY (Uw (s:=⟨hp,g,d,tk,os⟩) hT ?_)
  dsimp only
  rw[if_neg (by rw[hne];simp;omega),if_neg (by rw[hne];simp;omega),hx,if_neg (by have:(ZI:Nat)<=1000000000:=(by decide);omega),if_neg (by unfold Builtin.Tuple.tupleTooMany;rw[decide_eq_true_iff];omega)]
  refine NY (m:=PX _) (PM ?_ hz2)
  exact Oe ⟨_,rfl,h⟩
def mul_tuple{t:ZE}{k:Int}{tk:Tok}(ht:VF s.heap t vs.toArray)(h1:1<k)(h2:k<2 ^ 31)(hv:vs≠ [])(hz:vs.length*k.toNat<=ZI)
  (h:Q (.ref s.heap.objs.size) {s with heap:=s.heap.push {cls:=.type "tuple",data:=.seq (Oi k.toNat vs).flatten.toArray}}):
  ZJ (ZK prog w) A (PY .Mult (.ref t) (.int k tk)) Q E s:=by
 obtain⟨⟨cls,dd,data,sl⟩,ho,hc,n,hd⟩:=id ht;simp only at hc hd;subst hc hd
 have e:Sw (λa b=>a++b) #[] (Oi k.toNat vs.toArray)=(Oi k.toNat vs).flatten.toArray:=by
  have q:=L2.foldl_rep vs k.toNat []
  simpa using q
 refine Sk (T:="tuple") (U:="int") (by decide) ⟨_,ho,rfl⟩ (λs'=>TB s' k tk) nh Vp RZ uc U4.lookup
  (Q5 RZ (TB s k tk) U5 (UD _ _) (yg k tk t vs.toArray n dd sl)
   ⟨ho,rfl,⟨_,ho,rfl⟩,Q5 SQ ⟨_,ho,rfl⟩ F.entry_tuple_mul (F.args_tuple_mul_2 _ _) (Dl t vs.toArray n dd sl k tk h1 h2 (by simpa using hv) (by simpa using hz) (by rw[e,Od,L2.len_rep,UV];exact hz)) ⟨ho,?_⟩⟩)
 rw[e];exact h
end Tm
variable{Q:Option NS->NV->Prop}
namespace Tr
open PySem PySem.Spec PyProof.Rows L2
variable{X:Cx}
noncomputable def cf(x y:T):Rs T:=match x,y with
 |.tup l,.int k=>if 1<k/\k<2 ^ 31/\l≠ []/\l.length*k.toNat<=ZI then .ok (.tup (Oi k.toNat l).flatten)else .bad
 |x,y=>yA x y
instance (l:List T):Decidable (l≠ []):=by cases l <;> simp <;> infer_instance
def dh:OpT X (PY .Mult) cf:=by
 intro lm s σ H O x y vx vy ux uy Q I hf rx ry r1 r2 hp;unfold cf at hp
 split at hp
 ·rename_i l k
  split at hp
  ·rename_i h
   obtain⟨a,vs,e1,n1,q1,z1⟩:=Rep.Fk.mp rx;subst e1;cases Rep.AC.mp ry;cases r1;obtain⟨tk,rfl⟩:=r2;obtain⟨its,rv,pl,hz⟩:=I.tuple (SqT.of q1)
   have hl1:=z1.length
   have hl2:=rv.length
   have hne:its≠ []:=λz=>h.2.2.1 (List.eq_nil_of_length_eq_zero (by rw[hl1,hl2,z];rfl))
   refine Tm.mul_tuple pl h.1 h.2.1 hne (by rw[<-hl2,<-hl1];exact h.2.2.2) ?_
   have hn:=I.hok.fresh (Ob _);refine⟨.ref _,_,I.laid (t':=s.toks) (o:=.tup (Oi k.toNat vs).flatten) (λb ob q=>N4 _ q) (Ob _) ?_,rfl,hp _ (bh hn _) _ (iD hn (hf _ hn) (z1.rep _))⟩
   refine⟨?_,_,rv.rep k.toNat,Vn _ _⟩
   rw[len_rep,UV,<-hl1];exact h.2.2.2
  ·exact hp.elim
 ·exact Jt lm s σ H O _ _ vx vy ux uy Q I hf rx ry r1 r2 hp
noncomputable def JR(outer:List (Str×Q3))(N:List Str)(names:List (Str×Q3))(N':List Str)(src:List (Option Nat)):Bool:=
 names.all (λy=>y.2 != .cell||names.lookup y.1 == ZA .cell)&&names.all (λy=>y.2 != .local||names.lookup y.1 == ZA .local)&&src.length == N'.length&&
 (O7 N'.length).all (λj=>match src[j]? with
  |some (ZA i)=>match N'[j]? with
   |some x=>N[i]? == ZA x&&names.lookup x == ZA .free
   |none=>ZC
  |_=>ZC)&&
 names.all (λy=>y.2 != .free||(outer.lookup y.1 == ZA .cell||outer.lookup y.1 == ZA .free))
variable{N:List Str}
theorem LcScope.by{N':List Str}{src:List (Option Nat)}{names:List (Str×Q3)}(hN:X.N=N)(hs:X.env.scope.names=names)(hk:scope.kind=.function)(h:JR names N scope.names N' src=ZC):LcScope X scope N' src:=by
 unfold JR at h;simp only[NX]at h;obtain⟨⟨⟨⟨h1,h2⟩,h3⟩,h4⟩,h5⟩:=h
 have a1:=Os.mp h1
 have a2:=Os.mp h2
 have a4:=Os.mp h4
 have a5:=Os.mp h5;refine⟨hk,λy hy hl=>by have:=a1 y hy;rw[hl]at this;simpa using this,λy hy hl=>?_,by simpa using h3,λj i x e1 e2=>?_,λx hx=>?_⟩
 ·have:=a2 y hy
  rw[hl]at this
  simpa using this
 ·have hj:j<N'.length:=(N1.mp e2).1
  have:=a4 j (Pv.mpr hj);rw[e1]at this;simp only[e2]at this;rw[NX]at this;rw[hN];exact⟨by simpa using this.1,by simpa using this.2⟩
 ·have:=a5 _ hx
  simp only[bne_self_eq_false,SI,S9]at this
  show X.env.scope.names.lookup x=_\/X.env.scope.names.lookup x=_
  rw[hs];rcases this with z|z
  ·exact .inl (by simpa using z)
  ·exact .inr (by simpa using z)
def bp:ZG->Bool
 |.Starred .. =>ZD
 |_=>ZC
def bB:List ZG->Bool
 |[] =>ZC
 |e::r=>bp e&&bB r
variable{e:ZG}{env:Env}{es:List ZG}
def a9(h:bp e=ZC):N5 (e::es) env=(ZD,eval e env)::N5 es env:=by
 cases e <;> first|rfl|cases h
theorem e9{pos:Pos}{env:Env}:∀{es:List ZG},bB es=ZC->(backTo pos (N5 es env)).any (·.1)=ZD
 |[],_=>rfl
 |e::r,h=>by
  unfold bB at h;rw[NX]at h;rw[a9 h.1]
  have ih:=e9 (pos:=pos) (env:=env) h.2
  show(ZD||(backTo pos (N5 r env)).any (·.1))=ZD
  rw[ih];rfl
variable{f fa:V5}{g:List T->Rs T}{p pos:Pos}{ps:List Str}{x:Str}
section
variable {a b:ZG}{fs:V3}{p2:Pos}
def qa_c{g:V3}(he:cE X e f)(hr:pk X es g)(hn:bp e=ZC:=by rfl):pk X (e::es) (ae f g):=F8 he hr (a9 hn)
def q_cB{id:String}(hc:CallT X (.builtin id) g)(hm:X.mg x=ZB)(hv:OL x=ZA (.builtin id))(ha:pk X (e::es) fs)(hn:bB (e::es)=ZC:=by rfl)(hg:Gl X x:=by rfl)(h1:autoParam (x≠ "__name__") s_)(h2:autoParam ((x == ("__debug__" : Str))=ZD) s_):
  cE X (.Call (.Name x p) (e::es) [] pos) (cl g fs):=by
 unfold bB at hn;rw[NX]at hn;exact Gd hc hm hv ha hg h1 h2 (a9 hn.1) (e9 hn.2)
def q_cT(hc:CallT X (.type Ty) g)(hm:X.mg x=ZB)(hv:OL x=ZA (.type Ty))(ha:pk X (e::es) fs)(hn:bB (e::es)=ZC:=by rfl)(hg:Gl X x:=by rfl)(h1:autoParam (x≠ "__name__") s_)(h2:autoParam ((x == ("__debug__" : Str))=ZD) s_):
  cE X (.Call (.Name x p) (e::es) [] pos) (cl g fs):=by
 unfold bB at hn;rw[NX]at hn;exact CK hc hm hv ha hg h1 h2 (a9 hn.1) (e9 hn.2)
def q_c{f:ZE}(F:E5 X.prog X.w X.K X.mg X.base k f fd ps n g)(hr:Room k X.A)(hm:X.mg x=ZA (.ref f))(hk:PP X.K (.ref f)=ZC)(hb:Binds X.K fd ps [])
  (hl:∀Z ts,fs Z=.ok ts->ts.length=n) (ha:pk X (e::es) fs) (hps:ps.length=n:=by rfl) (hn:bB (e::es)=ZC:=by rfl) (hg:Gl X x:=by rfl) (h2:autoParam ((x == ("__debug__" : Str))=ZD) s_):cE X (.Call (.Name x p) (e::es) [] pos) (cl g fs):=by
 unfold bB at hn;rw[NX]at hn;exact Jh F hr hm hk hb hps hl ha hg h2 (a9 hn.1) (e9 hn.2)
def q_is{tn:Str}(hm:X.mg "isinstance" =ZB)(hmt:X.mg tn=ZB)(hv:OL tn=ZA (.type Ty))(ha:cE X a fa)(hn:bp a=ZC:=by rfl)(hg:Gl X "isinstance":=by rfl)(hgt:Gl X tn:=by rfl)
  (h1:autoParam (tn≠ "__name__") s_) (h2:autoParam ((tn == ("__debug__" : Str))=ZD) s_):cE X (.Call (.Name "isinstance" p) [a,.Name tn p2] [] pos) (o1 (BI Ty) fa):=
 Lw hm hmt hv ha hg hgt h1 h2 (a9 hn) (e9 rfl) (a9 rfl)
end
def xI(Z:En)(ts:List T)(h:aj Z=.ok ts):ts.length=0:=by cases h;rfl
def xH{g:V3}(hg:∀Z ts,g Z=.ok ts->ts.length=n)(Z:En)(ts:List T)(h:ae f g Z=.ok ts):ts.length=n+1:=by
 unfold ae at h
 cases q:f Z with
 |bad=>rw[q]at h;cases h
 |err c=>rw[q]at h;cases h
 |ok t=>
  rw[q,ay]at h
  cases q2:g Z with
  |bad=>rw[q2]at h;cases h
  |err c=>rw[q2]at h;cases h
  |ok r=>
   rw[q2,ay]at h;cases h;rw[NZ,hg Z r q2]
def i5(h:Room k A):A.units+60<cLine:=by have:=h.un;omega
def Mr(h:Room k A):A.units+61<cLine:=by have:=h.un;omega
structure Fn (K:NQ)(mg:V0)(x:Str)(st:ZF)(ps:List Str)(f:ZE)(fd:OG):Prop where
 fn:L2.Fun K x x st f fd
 bd:Binds K fd ps []
 mg:mg x=ZA (.ref f)
def val(n m:Nat)(F:V4)(ts:List T):Rs T:=if ts.length=n then bV F (aR m ts)else .bad
variable{ts:List T}
def Ip{m:Nat}{F:V4}{t:T}(h:val n m F ts=.ok t):bV F (aR m ts)=.ok t:=by
 unfold val at h
 split at h
 ·exact h
 ·cases h
variable{H:Hp}{a:ZE}
def sp_script{E:XK}(hS:SqL K H a (ns.map V.int))(h:g [.scr ns]=.ok (.bl ZC)):spP K 1 g [.ref a] H (λv _=>v=.bl ZC) E:=by
 refine⟨[.scr ns],λ_=>False,Reps.FS ?_ Reps.GE,λ_ z=>z.elim,rfl,?_⟩
 ·unfold Rep;exact⟨a,rfl,λz=>z,hS⟩
 ·rw[h];exact λv H' _ r=>Rep.FM.mp r
def vM{l:List α}{z:α}(h:l[i]?=ZA z):l.set i z=l:=by
 obtain⟨hi,rfl⟩:=N1.mp h
 exact Ta hi
def Mn.set(M:Mn)(i:Nat)(m:Ow):Mn:=λj=>if j=i then m else M j
variable{M:Mn}{m:Ow}
def Mn.KF(h:(M.set i m).u a):m a\/M.u a:=by
 obtain⟨j,h⟩:=h;unfold Mn.set at h
 by_cases z:j=i
 ·rw[if_pos z]at h;exact .inl h
 ·rw[if_neg z]at h;exact .inr ⟨j,h⟩
def Mn.Nb:M.set i m i=m:=by unfold Mn.set;rw[if_pos rfl]
def Mn.Nj(h:j≠i):M.set i m j=M j:=by unfold Mn.set;rw[if_neg h]
variable{H':Hp}{O O':Ow}
theorem RowsR.move{P:Ow}(hP:∀a,P a->O a\/Nw K H a)(hO:∀a,O' a->O a\/Nw K H a)(h:SameO P H H'):∀{rs:List (List T×List T)}{as:List ZE},(∀b∈as,¬P b)->RowsR K O H rs as->RowsR K O' H' rs as
 |[],_,_,r=>r
 |_::_,_,hb,⟨b,bs,kvs,e1,e2,e3,e4,e5⟩=>by
  subst e1;exact⟨b,bs,kvs,rfl,h _ _ e2 (hb b NU),e3,e4.move hP hO h,e5.move hP hO h λc hc=>hb c (NR _ hc)⟩
theorem LsR.move{P:Ow}(hP:∀a,P a->O a\/Nw K H a)(hO:∀a,O' a->O a\/Nw K H a)(h:SameO P H H'):∀{rs:List (List T)}{as:List ZE},(∀b∈as,¬P b)->LsR K O H rs as->LsR K O' H' rs as
 |[],_,_,r=>r
 |_::_,_,hb,⟨b,bs,vs,e1,e2,e4,e5⟩=>by
  subst e1;exact⟨b,bs,vs,rfl,h _ _ e2 (hb b NU),e4.move hP hO h,e5.move hP hO h λc hc=>hb c (NR _ hc)⟩
variable{v:V}
theorem ORep.move{P M:Ow}{o:OT}(hP:∀a,P a->O a\/Nw K H a)(hO:∀a,O' a->O a\/Nw K H a)(h:SameO P H H')(hM:∀a,M a->¬ P a)(r:ORep K O M H o v):ORep K O' M H' o v:=by
 cases o with
 |lst l=>obtain⟨a,vs,e1,e2,e3,e4⟩:=r;exact⟨a,vs,e1,e2,h _ _ e3 (hM a ((e2 a).mpr rfl)),e4.move hP hO h⟩
 |dct ks ts=>obtain⟨a,kvs,e1,e2,e3,e4,e5⟩:=r;exact⟨a,kvs,e1,e2,h _ _ e3 (hM a ((e2 a).mpr rfl)),e4,e5.move hP hO h⟩
 |dd ks rows=>
  obtain⟨a,kvs,as,e1,e2,e3,e4,e5,e6,e7,e8⟩:=r
  exact⟨a,kvs,as,e1,e2,e3,e4,h _ _ e5 (hM a ((e2 a).mpr (.inl rfl))),e6,e7,e8.move hP hO h λb hb=>hM b ((e2 b).mpr (.inr hb))⟩
 |ob C ns ls=>
  obtain⟨a,dx,as,e1,e2,e3,e4,e5,e6,e7,e8⟩:=r;exact⟨a,dx,as,e1,e2,e3,h _ _ e4 (hM a ((e2 a).mpr (.inl rfl))),h _ _ e5 (hM dx ((e2 dx).mpr (.inr (.inl rfl)))),e6,e7,e8.move hP hO h λb hb=>hM b ((e2 b).mpr (.inr (.inr hb)))⟩
theorem RowsR.mtb:∀{rs:List (List T×List T)}{as:List ZE},RowsR K O H rs as->∀b∈as,∃kvs,H b=ZA (.dT kvs)
 |[],_,r,b,hb=>by unfold RowsR at r;subst r;simp at hb
 |_::_,_,⟨b0,bs,kvs,e1,e2,e3,e4,e5⟩,b,hb=>by
  subst e1;rcases N0.mp hb with rfl|hb
  ·exact⟨kvs,e2⟩
  ·exact e5.mtb b hb
theorem LsR.mtb:∀{rs:List (List T)}{as:List ZE},LsR K O H rs as->∀b∈as,∃vs,H b=ZA (.lst vs)
 |[],_,r,b,hb=>by unfold LsR at r;subst r;simp at hb
 |_::_,_,⟨b0,bs,kvs,e1,e2,e4,e5⟩,b,hb=>by
  subst e1;rcases N0.mp hb with rfl|hb
  ·exact⟨kvs,e2⟩
  ·exact e5.mtb b hb
def LO(H:Hp)(a:ZE):Prop:=(∃vs,H a=ZA (.lst vs))\/∃o,H a=ZA o/\isO o=ZC
def OT.isD:OT->Bool
 |.lst _=>ZD
 |.ob _ _ _=>ZD
 |_=>ZC
def ORep.kind{M:Ow}{o:OT}(r:ORep K O M H o v):∀a,M a->if o.isD then ∃kvs,H a=ZA (.dT kvs)else LO H a:=λa z=>by
 cases o with
 |lst l=>obtain⟨b,vs,e1,e2,e3,e4⟩:=r;cases (e2 a).mp z;exact .inl ⟨vs,e3⟩
 |dct ks ts=>obtain⟨b,kvs,e1,e2,e3,e4,e5⟩:=r;cases (e2 a).mp z;exact⟨kvs,e3⟩
 |dd ks rows=>
  obtain⟨b,kvs,as,e1,e2,e3,e4,e5,e6,e7,e8⟩:=r
  rcases(e2 a).mp z with z|z
  ·cases z;exact⟨kvs,e5⟩
  ·exact e8.mtb a z
 |ob C ns ls=>
  obtain⟨b,dx,as,e1,e2,e3,e4,e5,e6,e7,e8⟩:=r
  rcases(e2 a).mp z with z|z|z
  ·cases z;exact .inr ⟨_,e4,rfl⟩
  ·cases z;exact .inr ⟨_,e5,rfl⟩
  ·exact .inl (e8.mtb a z)
def ORep.mtb{M:Ow}{o:OT}(r:ORep K O M H o v)(a:ZE)(z:M a):Mtb H a:=by
 have:=r.kind a z
 split at this
 ·exact .inr (.inl this)
 ·exact this.imp_right .inr
theorem vV:∀{rs:List (List T×List T)}{as:List ZE},(∀b∈as,¬O b)->RowsR K O H rs as->Reps K O H (rs.map λr=>T.dct r.1 r.2) (as.map V.ref)
 |[],_,_,r=>by unfold RowsR at r;subst r;exact Reps.GE
 |_::_,_,hn,⟨b,bs,kvs,e1,e2,e3,e4,e5⟩=>by
  subst e1;exact Reps.FS (Rep.IR.mpr ⟨b,kvs,rfl,hn b NU,.inl e2,e3,e4⟩) (vV (λc hc=>hn c (NR _ hc)) e5)
theorem RowsR.less(sub:∀a,O' a->O a):∀{rs:List (List T×List T)}{as:List ZE},RowsR K O H rs as->RowsR K O' H rs as
 |[],_,r=>r
 |_::_,_,⟨b,bs,kvs,e1,e2,e3,e4,e5⟩=>⟨b,bs,kvs,e1,e2,e3,e4.less sub,e5.less sub⟩
theorem LsR.less(sub:∀a,O' a->O a):∀{rs:List (List T)}{as:List ZE},LsR K O H rs as->LsR K O' H rs as
 |[],_,r=>r
 |_::_,_,⟨b,bs,kvs,e1,e2,e4,e5⟩=>⟨b,bs,kvs,e1,e2,e4.less sub,e5.less sub⟩
theorem LsR.rep:∀{rs:List (List T)}{as:List ZE},(∀b∈as,¬O b)->LsR K O H rs as->Reps K O H (rs.map T.lst) (as.map V.ref)
 |[],_,_,r=>by unfold LsR at r;subst r;exact Reps.GE
 |_::_,_,hn,⟨b,bs,kvs,e1,e2,e4,e5⟩=>by
  subst e1;exact Reps.FS (Rep.Do.mpr ⟨b,kvs,rfl,hn b NU,e2,e4⟩) (LsR.rep (λc hc=>hn c (NR _ hc)) e5)
theorem oS:∀{l:List α}{m:List β},l.length=m.length->(l.zip m).map (·.1)=l
 |[],[],_=>rfl
 |a::l,b::m,h=>by
  have h':l.length=m.length:=by simpa using h
  show a::(l.zip m).map (·.1)=_
  rw[oS h']
theorem zr:∀{l:List α}{m:List β},l.length=m.length->(l.zip m).map (·.2)=m
 |[],[],_=>rfl
 |a::l,b::m,h=>by
  have h':l.length=m.length:=by simpa using h
  show b::(l.zip m).map (·.2)=_
  rw[zr h']
theorem ORep.rep{M:Ow}{o:OT}(sub:∀a,O' a->O a)(hn:∀a,M a->¬ O' a)(r:ORep K O M H o v):Rep K O' H o.view v:=by
 cases o with
 |lst l=>obtain⟨a,vs,e1,e2,e3,e4⟩:=r;exact Rep.Do.mpr ⟨a,vs,e1,hn a ((e2 a).mpr rfl),e3,e4.less sub⟩
 |dct ks ts=>obtain⟨a,kvs,e1,e2,e3,e4,e5⟩:=r;exact Rep.IR.mpr ⟨a,kvs,e1,hn a ((e2 a).mpr rfl),.inl e3,e4,e5.less sub⟩
 |dd ks rows=>
  obtain⟨a,kvs,as,e1,e2,e3,e4,e5,e6,e7,e8⟩:=r;refine Rep.IR.mpr ⟨a,kvs,e1,hn a ((e2 a).mpr (.inl rfl)),.inl e5,e6,?_⟩
  rw[e7]
  exact vV (λb hb=>hn b ((e2 b).mpr (.inr hb))) (e8.less sub)
 |ob C ns ls=>
  obtain⟨a,dx,as,e1,e2,e3,e4,e5,e6,e7,e8⟩:=r
  have hl:ns.length=(as.map V.ref).length:=by rw[NW];exact e6
  refine Rep.Nh.mpr ⟨a,dx,_,e1,hn a ((e2 a).mpr (.inl rfl)),e4,oS hl,?_⟩
  rw[zr hl];exact(e8.less sub).rep λb hb=>hn b ((e2 b).mpr (.inr (.inr hb)))
variable{B:Ow}{Z:En}{σ:L2.St}
section
variable {o o':OT}
def Ev.new(E:Ev K B M H Z σ)(hl:i<Z.length)(hm:∀a,m a->Nw K H a)(s:Same H H')(r:ORep K (OO B (M.set i m)) m H' o v):
  Ev K B (M.set i m) H' (Z.set i (.ow o)) (σ.set i (ZA v))/\∀a,(M.set i m).u a->M.u a\/Nw K H a:=by
 have hls:i<σ.length:=by rw[<-E.env.len];exact hl
 have sub:∀a,(M.set i m).u a->M.u a\/Nw K H a:=λa z=>(Mn.KF z).elim (λw=>.inr (hm a w)) .inl
 have subO:∀a,OO B (M.set i m) a->OO B M a\/Nw K H a:=λa z=>z.elim (λw=>.inl (.inl w)) λw=>(sub a w).elim (λy=>.inl (.inr y)) .inr
 have d8:∀a,Nw K H a->¬ OO B M a:=λa w z=>by
  obtain⟨o,e⟩:=(E.env.trk a z).some;rw[w.1]at e;cases e
 refine⟨⟨⟨by rw[Pl,Pl];exact E.env.len,λj t e=>?_,λj o' e=>?_,λj a z=>.inr ⟨j,z⟩,λj k a z1 z2=>?_,λa z=>?_⟩,λa z=>?_⟩,sub⟩
 ·by_cases hj:i=j
  ·subst hj;rw[Oo hl]at e;cases e
  ·rw[Ol hj]at e
   obtain⟨w,e1,e2⟩:=E.env.val j t e;exact⟨w,by rw[Ol hj];exact e1,(e2.more subO).same s⟩
 ·by_cases hj:i=j
  ·subst hj
   rw[Oo hl]at e
   cases e;exact⟨v,Oo hls,by rw[Mn.Nb];exact r⟩
  ·rw[Ol hj]at e
   obtain⟨w,e1,e2⟩:=E.env.own j o' e;refine⟨w,by rw[Ol hj];exact e1,?_⟩
   rw[Mn.Nj (λz=>hj z.symm)]
   exact(e2.move (P:=lq) (λ_ z=>z.elim) subO (λb u q _=>q) λ_ _ z=>z).same s
 ·unfold Mn.set at z1 z2
  by_cases hj:j=i
  ·by_cases hk:k=i
   ·exact hj.trans hk.symm
   ·rw[if_pos hj]at z1;rw[if_neg hk]at z2
    exact(d8 a (hm a z1) (.inr ⟨k,z2⟩)).elim
  ·by_cases hk:k=i
   ·rw[if_neg hj]at z1;rw[if_pos hk]at z2
    exact(d8 a (hm a z2) (.inr ⟨j,z1⟩)).elim
   ·rw[if_neg hj]at z1;rw[if_neg hk]at z2
    exact E.env.dis j k a z1 z2
 ·rcases z with z|z
  ·exact(E.env.trk a (.inl z)).same s
  ·rcases Mn.KF z with w|w
   ·exact r.mtb a w
   ·exact(E.env.trk a (.inr w)).same s
 ·intro hb
  rcases Mn.KF z with w|w
  ·exact d8 a (hm a w) (.inl hb)
  ·exact E.mine a w hb
def Ev.put(E:Ev K B M H Z σ)(hi:Z[i]?=ZA (.ow o))(hs:σ[i]?=ZA (ZA v))(s:SameO (M i) H H')(r:ORep K (OO B M) (M i) H' o' v):Ev K B M H' (Z.set i (.ow o')) σ/\SameO M.u H H':=by
 have hl:i<Z.length:=(N1.mp hi).1
 have inO:∀a,M i a->OO B M a\/Nw K H a:=λa z=>.inl (.inr ⟨i,z⟩)
 have idO:∀a,OO B M a->OO B M a\/Nw K H a:=λa z=>.inl z
 refine⟨⟨⟨by rw[Pl];exact E.env.len,λj t e=>?_,λj o2 e=>?_,E.env.sub,E.env.dis,λa z=>?_⟩,E.mine⟩,λb u e n=>s b u e λz=>n ⟨i,z⟩⟩
 ·by_cases hj:i=j
  ·subst hj;rw[Oo hl]at e;cases e
  ·rw[Ol hj]at e
   obtain⟨w,e1,e2⟩:=E.env.val j t e;exact⟨w,e1,e2.move inO idO s⟩
 ·by_cases hj:i=j
  ·subst hj
   rw[Oo hl]at e
   cases e;exact⟨v,hs,r⟩
  ·rw[Ol hj]at e
   obtain⟨w,e1,e2⟩:=E.env.own j o2 e;exact⟨w,e1,e2.move inO idO s λa z y=>hj (E.env.dis i j a y z)⟩
 ·by_cases hz:M i a
  ·exact r.mtb a hz
  ·exact(E.env.trk a z).at λo e=>s _ _ e hz
def disown(i:Nat)(Z:En):En:=match Z[i]? with
 |some (.ow o)=>Z.set i (.va o.view)
 |_=>Z
theorem EnvM.disown(E:EnvM K O M H Z σ)(i:Nat)(sub:∀a,O' a->O a)(hn:∀a,M i a->¬ O' a)(hin:∀j a,j≠i->M j a->O' a):EnvM K O' (M.set i lq) H (disown i Z) σ:=by
 have base:EnvM K O' (M.set i lq) H (Z.set i (match Z[i]? with|some (.ow o)=>.va o.view|some x=>x|none=>.em)) σ:=by
  refine⟨by rw[Pl];exact E.len,λj t e=>?_,λj o e=>?_,λj a z=>?_,λj k a z1 z2=>?_,λa z=>E.trk a (sub a z)⟩
  ·by_cases hj:i=j
   ·subst hj
    by_cases hl:i<Z.length
    ·rw[Oo hl]at e
     cases q:Z[i]? with
     |none=>rw[q]at e;cases e
     |some z=>
      rw[q]at e
      cases z with
      |em=>cases e
      |va t'=>cases e;obtain⟨w,e1,e2⟩:=E.val i _ q;exact⟨w,e1,e2.less sub⟩
      |ow o=>cases e;obtain⟨w,e1,e2⟩:=E.own i _ q;exact⟨w,e1,e2.rep sub hn⟩
    ·rw[RH (by rw[Pl];omega)]at e;cases e
   ·rw[Ol hj]at e
    obtain⟨w,e1,e2⟩:=E.val j t e;exact⟨w,e1,e2.less sub⟩
  ·by_cases hj:i=j
   ·subst hj
    by_cases hl:i<Z.length
    ·rw[Oo hl]at e
     cases q:Z[i]? with
     |none=>rw[q]at e;cases e
     |some z=>
      rw[q]at e
      cases z with
      |em=>cases e
      |va t'=>cases e
      |ow o=>cases e
    ·rw[RH (by rw[Pl];omega)]at e;cases e
   ·rw[Ol hj]at e
    obtain⟨w,e1,e2⟩:=E.own j o e;refine⟨w,e1,?_⟩
    rw[Mn.Nj (λz=>hj z.symm)]
    exact e2.move (P:=lq) (λ_ z=>z.elim) (λa z=>.inl (sub a z)) (λb u q _=>q) λ_ _ z=>z
  ·unfold Mn.set at z
   by_cases hj:j=i
   ·rw[if_pos hj]at z;exact z.elim
   ·rw[if_neg hj]at z;exact hin j a hj z
  ·unfold Mn.set at z1 z2
   by_cases hj:j=i
   ·rw[if_pos hj]at z1;exact z1.elim
   ·by_cases hk:k=i
    ·rw[if_pos hk]at z2;exact z2.elim
    ·rw[if_neg hj]at z1;rw[if_neg hk]at z2;exact E.dis j k a z1 z2
 unfold Tr.disown
 cases q:Z[i]? with
 |none=>rw[q,List.set_eq_of_length_le (List.getElem?_eq_none_iff.mp q)]at base;exact base
 |some z=>
  rw[q]at base
  cases z with
  |em=>rw[vM q]at base;exact base
  |va t=>rw[vM q]at base;exact base
  |ow o=>exact base
theorem Ev.disown(E:Ev K B M H Z σ)(i:Nat):Ev K B (M.set i lq) H (disown i Z) σ/\∀a,(M.set i lq).u a->M.u a:=by
 have sub:∀a,(M.set i lq).u a->M.u a:=λa z=>(Mn.KF z).elim (λw=>w.elim) id
 refine⟨⟨E.env.disown i (λa z=>z.elim .inl λw=>.inr (sub a w)) (λa z y=>?_) λj a hj z=>.inr ⟨j,by rw[Mn.Nj hj];exact z⟩,λa z=>E.mine a (sub a z)⟩,sub⟩
 rcases y with y|⟨j,y⟩
 ·exact E.mine a ⟨i,z⟩ y
 ·unfold Mn.set at y
  by_cases hj:j=i
  ·rw[if_pos hj]at y;exact y
  ·rw[if_neg hj]at y;exact hj (E.env.dis j i a y z)
end
variable{apos cpos:Pos}{st:ZF}
section
variable {a:ZG}{p2 p3:Pos}
def Ev.subO(hm:∀a,m a->Nw K H a)(a:ZE)(z:OO B (M.set i m) a):OO B M a\/Nw K H a:=
 z.elim (λw=>.inl (.inl w)) λw=>(Mn.KF w).elim (λy=>.inr (hm a y)) λy=>.inl (.inr y)
def fO{H1:Hp}(s:Same H H1){a:ZE}(n:Nw K H1 a):Nw K H a:=(g8 (SameO.of (P:=lq) s) n).elim (λz=>z.elim) id
def K3(X:Cx)(t:TA):TE:=λσ H Q=>t σ H λxs H1=>xs.length<=ZI/\∀p,Nw X.K H1 p->Q (.ref p) (upd H1 p (.lst xs))
def zF{t:TA}(h:PA X es t):PE X (.List es pos) (K3 X t):=by
 intro lm s σ H Q I hq;refine Us (bW (h pos lm s σ H _ I hq) λus s1 ⟨xs,H1,I1,r,z,q⟩=>⟨by rw[<-r.length];exact z,?_⟩)
 have hf:H1 s1.heap.objs.size=ZB:=I1.hok.fresh (Ob _)
 have hk:X.K.lookup s1.heap.objs.size=ZB:=by
  cases q:X.K.lookup s1.heap.objs.size with
  |none=>rfl
  |some o=>exact absurd (N8 (I1.kIn _ o q)) (OA _)
 refine⟨.ref s1.heap.objs.size,upd H1 s1.heap.objs.size (.lst xs),I1.laid (t':=s1.toks) (λb u e=>N4 _ e) (Ob _) ?_,rfl,q _ ⟨hf,hk⟩⟩
 exact⟨z,us,0,r,Og _ rfl⟩
def jK(i:Nat)(f:V3)(Z:En):Rs Fl:=do
 let l <-f Z
 if i<Z.length/\l.length<=ZI then .ok (.nx (Z.set i (.ow (.lst l))))else .bad
def FX(i:Nat){f:V3}(hN:X.N.Nodup)(ha:pk X es f)(hi:X.N[i]?=ZA x:=by rfl)(hx:autoParam (Loc X.env.scope x) x_)(hs:OQ (.List es p2) (ZA (.Name x p3)) pos.line X.env=pure ZD:=by rfl)
  (hf:autoParam (X.fn x=ZC\/X.env.scope.names.lookup x=ZA .local) r_):pj X (.Assign [.Name x p3] (.List es p2) pos) (jK i f):=PS.imp (mZ hN hi hx (zF ha) hs hf) λD σ H hh_=>by
 obtain⟨Z,B,M,E,h⟩:=hh_;refine⟨Z,OO B M,E.o,?_⟩
 unfold jK at h
 cases q:f Z with
 |bad=>rw[q]at h;exact h.elim
 |err c=>rw[q]at h;exact PostF.xa h
 |ok l=>
  rw[q,ay]at h;intro H1 s1 vs rs
  by_cases hl:i<Z.length/\l.length<=ZI
  ·rw[if_pos hl]at h
   refine⟨by rw[<-rs.length];exact hl.2,λp hp=>?_⟩
   have hm:∀a,a=p->Nw X.K H1 a:=λa z=>z▸hp
   obtain⟨E2,sub⟩:=(E.same s1).new (m:=λa=>a=p) (o:=.lst l) (v:=.ref p) (H':=upd H1 p (.lst vs)) hl.1 hm (bh hp.1 _) ⟨p,vs,rfl,λb=>Rn,aJ,(rs.more (Ev.subO hm)).same (bh hp.1 _)⟩
   exact h _ _ _ (SameO.of (s1.trans (bh hp.1 _))) E2 λa z=>(sub a z).imp_right (fO s1)
  ·rw[if_neg hl]at h
   exact h.elim
noncomputable def jw(i:Nat)(f:V5)(Z:En):Rs Fl:=match Z[i]? with
 |some (.ow (.lst l))=>f Z >>= λt=>if l.length<ZI then .ok (.nx (Z.set i (.ow (.lst (l++[t])))))else .bad
 |_=>.bad
def Ev.putL{o:OT}{l':List T}{b:ZE}{vs':List V}(E:Ev K B M H Z σ)(hi:Z[i]?=ZA (.ow o))(hs:σ[i]?=ZA (ZA (.ref b)))(hM:∀c,M i c↔c=b)(r:Reps K (OO B M) H l' vs'):
  Ev K B M (upd H b (.lst vs')) (Z.set i (.ow (.lst l'))) σ/\SameO M.u H (upd H b (.lst vs')):=by
 have sm:SameO (M i) H (upd H b (.lst vs')):=λc u e nb=>by rw[aG (λz=>nb ((hM c).mpr z))];exact e
 exact E.put hi hs sm ⟨b,vs',rfl,hM,aJ,r.move (P:=M i) (λa z=>.inl (.inr ⟨i,z⟩)) (λa z=>.inl z) sm⟩
def IZ(i:Nat)(ha:cE X a fa)(hN:X.N[i]?=ZA x:=by rfl)(hv:autoParam (lX X.env.scope x) u_)(hn:bp a=ZC:=by rfl)
  (hbase:Ox (.Name x p2) "append" X.env (eval (.Name x p2) X.env)=eval (.Name x p2) X.env:=by rfl) (hline:(apos.endLine == cpos.line)=ZC:=by rfl)
  (hd:autoParam ((x == ("__debug__" : Str))=ZD) s_) (hcd:autoParam ((x == ("__classdict__" : Str))=ZD) s_)
  (hsw:OQ (.Call (.Attribute (.Name x p2) "append" apos) [a] [] cpos) ZB pos.line X.env=pure ZD:=by rfl):pj X (.Expr (.Call (.Attribute (.Name x p2) "append" apos) [a] [] cpos) pos) (jw i fa):=by
 have h1:N5 [a] X.env=(ZD,eval a X.env)::N5 [] X.env:=a9 hn;refine PS.imp (oX (wb Pn Sq Sr nv (eG hN hv hd hcd) (bz ha d6 h1) hbase ?_ hline h1 rfl) hsw) λD σ H ⟨Z,B,M,E,h⟩=>?_
 ·rw[h1];rfl
 unfold jw at h
 split at h
 ·rename_i l hl
  obtain⟨v0,e1,b,vs,rfl,hM,e3,e4⟩:=E.env.own i _ hl;refine⟨.ref b,e1,.inl ⟨rfl,vs,SqL.of e3⟩,Z,OO B M,E.o,?_⟩
  cases q:fa Z with
  |bad=>rw[q]at h;exact h.elim
  |err c=>rw[q]at h;exact PostF.xa h
  |ok t=>
   rw[q,ay]at h
   split at h
   ·rename_i hz
    intro H1 s1 v r
    have e3':=s1 _ _ e3;refine⟨b,vs,v,rfl,rfl,e3',by rw[<-e4.length];exact hz,?_⟩
    obtain⟨g1,g2⟩:=(E.same s1).putL (l':=l++[t]) (vs':=vs++[v]) hl e1 hM ((e4.same s1).append (Reps.FS r Reps.GE));exact h σ _ M (λc o e nb=>g2 c o (s1 _ _ e) nb) g1 λc z=>.inl z
   ·exact h.elim
 ·exact h.elim
noncomputable def Kh(i:Nat)(l:List T)(Z:En):T->Rs Fl
 |.lst m=>if l.length+m.length<=ZI then .ok (.nx (Z.set i (.ow (.lst (l++m)))))else .bad
 |_=>.bad
def pP(i:Nat)(f:V5)(Z:En):Rs Fl:=match Z[i]? with
 |some (.ow (.lst l))=>f Z >>= Kh i l Z
 |_=>.bad
def IW(i:Nat)(ha:cE X a fa)(hN:X.N[i]?=ZA x:=by rfl)(hv:autoParam (lX X.env.scope x) u_)(hn:bp a=ZC:=by rfl)
  (hbase:Ox (.Name x p2) "extend" X.env (eval (.Name x p2) X.env)=eval (.Name x p2) X.env:=by rfl) (hline:(apos.endLine == cpos.line)=ZC:=by rfl)
  (hd:autoParam ((x == ("__debug__" : Str))=ZD) s_) (hcd:autoParam ((x == ("__classdict__" : Str))=ZD) s_)
  (hsw:OQ (.Call (.Attribute (.Name x p2) "extend" apos) [a] [] cpos) ZB pos.line X.env=pure ZD:=by rfl):pj X (.Expr (.Call (.Attribute (.Name x p2) "extend" apos) [a] [] cpos) pos) (pP i fa):=by
 have h1:N5 [a] X.env=(ZD,eval a X.env)::N5 [] X.env:=a9 hn;refine PS.imp (oX (wb Pn PySem.F.slot_list_extend PySem.F.type_list_extend A6 (eG hN hv hd hcd) (bz ha d6 h1) hbase ?_ hline h1 rfl) hsw) λD σ H ⟨Z,B,M,E,h⟩=>?_
 ·rw[h1];rfl
 unfold pP at h
 split at h
 ·rename_i l hl
  obtain⟨v0,e1,b,vs,rfl,hM,e3,e4⟩:=E.env.own i _ hl;refine⟨.ref b,e1,.inl ⟨rfl,vs,SqL.of e3⟩,Z,OO B M,E.o,?_⟩
  cases q:fa Z with
  |bad=>rw[q]at h;exact h.elim
  |err c=>rw[q]at h;exact PostF.xa h
  |ok t=>
   rw[q,ay]at h;unfold Kh at h
   split at h
   ·rename_i m
    split at h
    ·rename_i hz
     intro H1 s1 v r;obtain⟨c,ws,rfl,nO,hc,rm⟩:=Rep.Do.mp r
     have e3':=s1 _ _ e3;refine⟨b,c,vs,ws,rfl,rfl,e3',hc,by rw[<-e4.length,<-rm.length];exact hz,?_⟩
     obtain⟨g1,g2⟩:=(E.same s1).putL (l':=l++m) (vs':=vs++ws) hl e1 hM ((e4.same s1).append rm);exact h σ _ M (λc o e nb=>g2 c o (s1 _ _ e) nb) g1 λc z=>.inl z
    ·exact h.elim
   ·exact h.elim
 ·exact h.elim
def oq(i:Nat)(F:V4)(Z:En):Rs Fl:=F (disown i Z)
def IX(i:Nat){F:V4}(h:pj X st F):pj X st (oq i F):=PS.imp h λD σ H hh_=>by
 obtain⟨Z,B,M,E,q⟩:=hh_;obtain⟨E',sub⟩:=E.disown i;exact⟨disown i Z,B,_,E',PostF.later q (λ_ _ e _=>e) λa z=>.inl (sub a z)⟩
mutual
def T.nk(D:Bool):T->Bool
 |.scr _=>ZD
 |.dct _ ts=>!D&&nks D ts
 |.ob _ _ _=>ZD
 |.lst l=>D&&nks D l
 |.tup l=>nks D l
 |_=>ZC
def nks(D:Bool):List T->Bool
 |[] =>ZC
 |t::l=>t.nk D&&nks D l
end
mutual
theorem Rep.lend{K:NQ}{O O':Ow}{H:Hp}{D:Bool}(hk:∀a,O a->O' a\/if D then ∃kvs,Rd H a (.dT kvs)else LO H a):∀{t:T}{v:V},t.nk D=ZC->Rep K O' H t v->Rep K O H t v
 |.non,_,_,r=>by unfold Rep at r ⊢;exact r
 |.bl _,_,_,r=>by unfold Rep at r ⊢;exact r
 |.int _,_,_,r=>by unfold Rep at r ⊢;exact r
 |.str _,_,_,r=>by unfold Rep at r ⊢;exact r
 |.tup l,_,h,r=>by
  unfold Rep at r ⊢;unfold T.nk at h;obtain⟨a,vs,e,n,q,z⟩:=r;refine⟨a,vs,e,λp=>(hk a p).elim n λw=>?_,q,Reps.lend hk h z⟩
  split at w
  ·obtain⟨_,w|⟨_,w⟩⟩:=w <;> rw[q]at w <;> cases w
  ·rcases w with⟨_,w⟩|⟨_,w,y⟩ <;> rw[q]at w <;> cases w <;> cases y
 |.lst l,_,h,r=>by
  unfold Rep at r ⊢;unfold T.nk at h;rw[NX]at h;obtain⟨h1,h2⟩:=h;subst h1;obtain⟨a,vs,e,n,q,z⟩:=r;refine⟨a,vs,e,λp=>(hk a p).elim n λw=>?_,q,Reps.lend hk h2 z⟩
  rw[if_pos rfl]at w;obtain⟨_,w|⟨_,w⟩⟩:=w <;> rw[q]at w <;> cases w
 |.scr l,_,h,r=>by unfold T.nk at h;cases h
 |.dct ks ts,_,h,r=>by
  unfold Rep at r ⊢;unfold T.nk at h;rw[NX]at h;obtain⟨h1,h2⟩:=h
  cases D with
  |true=>cases h1
  |false=>
   obtain⟨a,kvs,e,n,q,k,z⟩:=r;refine⟨a,kvs,e,λp=>(hk a p).elim n λw=>?_,q,k,Reps.lend hk h2 z⟩
   rw[if_neg N9]at w;rcases w with⟨_,w⟩|⟨_,w,y⟩ <;> rcases q with q|⟨_,q⟩ <;> rw[q]at w <;> cases w <;> cases y
 |.ob _ _ _,_,h,r=>by unfold T.nk at h;cases h
theorem Reps.lend{K:NQ}{O O':Ow}{H:Hp}{D:Bool}(hk:∀a,O a->O' a\/if D then ∃kvs,Rd H a (.dT kvs)else LO H a):∀{l:List T}{vs:List V},nks D l=ZC->Reps K O' H l vs->Reps K O H l vs
 |[],_,_,r=>by unfold Reps at r ⊢;exact r
 |t::l,_,h,r=>by
  unfold Reps at r ⊢;unfold nks at h;rw[NX]at h;obtain⟨v,ws,e,p,q⟩:=r;exact⟨v,ws,e,Rep.lend hk h.1 p,Reps.lend hk h.2 q⟩
end
def ln(i:Nat)(f:V5)(Z:En):Rs T:=match Z[i]? with
 |some (.ow o)=>f (disown i Z) >>= λt=>if t.nk o.isD=ZC then .ok t else .bad
 |_=>f Z
def Fc(i:Nat)(f:V6)(Z:En):Rs Bool:=f (disown i Z)
def tG(E:EnvM K O M H Z σ)(i:Nat):EnvM K (λa=>O a/\¬ M i a) (M.set i lq) H (disown i Z) σ:=
 E.disown i (λa z=>z.1) (λa z y=>y.2 z) λj a hj z=>⟨E.sub j a z,λy=>hj (E.dis j i a z y)⟩
def q_ln(i:Nat)(h:cE X e f):cE X e (ln i f):=PE.imp h λσ H Q ⟨Z,O,⟨M,E⟩,q⟩=>by
 unfold ln at q
 split at q
 ·rename_i o hi
  refine⟨disown i Z,_,⟨_,tG E i⟩,?_⟩
  obtain⟨w,e1,r⟩:=E.own i o hi;refine Post.mono (Post.bind q) λt H' s q2 v rv=>?_
  split at q2
  ·rename_i hk
   have kd:=(r.same s).kind;refine q2 H' (Same.refl _) v (Rep.lend (λa z=>?_) hk rv)
   by_cases hm:M i a
   ·refine .inr ?_
    have this:=kd a hm
    by_cases hD:o.isD=ZC
    ·rw[if_pos hD]at this ⊢;exact this.imp λ_ z=>.inl z
    ·rw[if_neg hD]at this ⊢;exact this
   ·exact .inl ⟨z,hm⟩
  ·exact q2.elim
 ·exact⟨Z,O,⟨M,E⟩,q⟩
def Lj(i:Nat){f:V6}(h:tE X e f):tE X e (Fc i f):=PT.imp h λσ H Q ⟨Z,O,⟨M,E⟩,q⟩=>⟨disown i Z,_,⟨_,tG E i⟩,q⟩
end
noncomputable def oO:List T->List T->List Key->Option T
 |k'::ks,v::vs,k=>if keyOf k'=ZA k then ZA v else oO ks vs k
 |_,_,_=>ZB
noncomputable def gV(k v:T):List T->List T->List T×List T
 |k'::ks,v'::vs=>if keyOf k'=keyOf k then(k'::ks,v::vs)else(k'::(gV k v ks vs).1,v'::(gV k v ks vs).2)
 |_,_=>([k],[v])
def bJ(x y:T):Rs T:=match x,keyOf y with
 |.dct ks vs,ZA k=>match oO ks vs k with
  |some t=>.ok t
  |none=>.bad
 |_,_=>.bad
def jv(x y:T):Rs T:=match x,keyOf y with
 |.dct ks vs,ZA k=>match oO ks vs k with
  |some t=>.ok t
  |none=>.ok .non
 |_,_=>.bad
def oD(g:T->T->Rs T)(fa fb:V5)(Z:En):Rs T:=fa Z >>= λx=>match x with
 |.dct ks vs=>fb Z >>= g (.dct ks vs)
 |_=>.bad
def oL(g:T->T->Rs T)(fa fb:V5)(Z:En):Rs T:=fa Z >>= λx=>match x with
 |.lst l=>fb Z >>= g (.lst l)
 |_=>.bad
noncomputable def KN:List T->Option (List (T×T))
 |[] =>ZA []
 |.tup [k,v] ::l=>match keyOf k,KN l with
  |some _,ZA r=>ZA ((k,v)::r)
  |_,_=>ZB
 |_=>ZB
def km:List (T×T)->List T×List T->List T×List T
 |[],d=>d
 | (k,v)::r,d=>km r (gV k v d.1 d.2)
noncomputable def Am:List T->Rs T
 |[.lst l] =>match KN l with
  |some ps=>if l.length<=1000 then .ok (.dct (km ps ([],[])).1 (km ps ([],[])).2)else .bad
  |none=>.bad
 |_=>.bad
def n6:List T->Bool
 |[] =>ZC
 |k::l=>(keyOf k).isSome&&n6 l
noncomputable def sv(i:Nat)(f:V5)(Z:En):Rs Fl:=f Z >>= λt=>Am [t] >>= λd=>match d with
 |.dct ks vs=>if i<Z.length then .ok (.nx (Z.set i (.ow (.dct ks vs))))else .bad
 |_=>.bad
noncomputable def AM(i:Nat)(fk fv:V5)(Z:En):Rs Fl:=match Z[i]? with
 |some (.ow (.dct ks vs))=>fv Z >>= λv=>fk Z >>= λk=>match keyOf k with
  |some _=>if ks.length<1000 then .ok (.nx (Z.set i (.ow (.dct (gV k v ks vs).1 (gV k v ks vs).2))))else .bad
  |none=>.bad
 |_=>.bad
noncomputable def pO(i j:Nat)(Z:En):Rs Fl:=match Z[j]? with
 |some (.va (.lst l))=>if i<Z.length/\n6 l=ZC/\(l.map keyOf).Nodup/\l.length<=1000 then .ok (.nx (Z.set i (.ow (.dd l (l.map λ_=>(l,l.map λ_=>.non))))))else .bad
 |_=>.bad
def rK:List T->List (List T×List T)->List Key->Option (List T×List T)
 |k'::ks,r::rs,k=>if keyOf k'=ZA k then ZA r else rK ks rs k
 |_,_,_=>ZB
noncomputable def rJ(k:List Key)(x:List T×List T):List T->List (List T×List T)->List (List T×List T)
 |k'::ks,r::rs=>if keyOf k'=ZA k then x::rs else r::rJ k x ks rs
 |_,rs=>rs
noncomputable def jl(i:Nat)(fa fb fv:V5)(Z:En):Rs Fl:=match Z[i]? with
 |some (.ow (.dd ks rows))=>fv Z >>= λv=>fa Z >>= λa=>match(keyOf a).bind λka=>(rK ks rows ka).map λr=>(ka,r)with
  |some (ka,r)=>fb Z >>= λb=>if (keyOf b).isSome=ZC/\r.1.length<1000 then .ok (.nx (Z.set i (.ow (.dd ks (rJ ka (gV b v r.1 r.2) ks rows)))))else .bad
  |none=>.bad
 |_=>.bad
def sG:List T->Option (List Int)
 |[] =>ZA []
 |.int i::l=>(sG l).map (i:: ·)
 |_=>ZB
def yE(i:Int):List Int->Int
 |[] =>i
 |j::l=>yE (if j<i then j else i) l
def yF(i:Int):List Int->Int
 |[] =>i
 |j::l=>yF (if i<j then j else i) l
def Dn:List T->Rs T
 |[.lst l] =>match sG l with
  |some (i::ns)=>.ok (.int (yE i ns))
  |_=>.bad
 |[.int i,.int j] =>.ok (.int (yE i [j]))
 |_=>.bad
noncomputable def wU:List T->Rs T
 |[.lst l] =>match sG l with
  |some (i::ns)=>.ok (.int (yF i ns))
  |_=>.bad
 |[.int i,.int j] =>.ok (.int (yF i [j]))
 |_=>.bad
def kS(x:T):List T->Nat->Option Nat
 |[],_=>ZB
 |t::l,n=>if bj t x then ZA n else kS x l (n+1)
noncomputable def hI(y x:T):Rs T:=match y with
 |.lst l=>if (x.dep<=60\/deps l<=60)/\x.nd=ZC/\nds l=ZC then match kS x l 0 with
   |some n=>.ok (.int n)
   |none=>.bad
  else .bad
 |_=>.bad
def FU:Nat:=1000000000000
variable{h:ZH}
theorem iq{b b':ZH}:∀{l:List Env},h.FunFrames b l->(∀a∈l.filterMap (·.frame),b'.get? a=ZB)->h.FunFrames b' l
 |[],_,_=>trivial
 |env::cb,⟨hk,⟨L,o,hf,hn,ho,hd⟩,hr⟩,q=>by
  rw[Ph,hf]at q;exact⟨hk,⟨L,o,hf,q L NU,ho,hd⟩,iq hr λa ha=>q a (NR _ ha)⟩
variable{C e:ZE}{M:VD}{outer:List Env}
structure EZ (fs:List ZE)(C e:ZE)(T:Option ZE)(h h':ZH)(T':ZE):Prop where
 flt:MJ h' C e (ZA T')
 new:T=ZA T'\/h.get? T'=ZB
 keep:∀b o,b∉fs->b≠e->T≠ZA b->h.get? b=ZA o->h'.get? b=ZA o
 slot:∀b o,b∈fs->h.get? b=ZA o->∃sl,h'.get? b=ZA {o with slots:=sl}
def Dw{base:ZH}{L:ZE}{T:Option ZE}{Q:Unit->NV->Prop}(hfr:A.frames=ZA (env::outer))(hl:s.heap.FunFrames base (env::outer))(hf:env.frame=ZA L)
  (F:MJ s.heap C e T) (h:∀h' T',EZ ((env::outer).filterMap (·.frame)) C e T s.heap h' T'->Q () {s with heap:=h'}):ZJ M A (leaving env (.ref e)) Q E s:=by
 generalize hB:S3 s.heap (e::(T.toList++(env::outer).filterMap (·.frame)))=B
 have bm:∀b,b∈e::(T.toList++(env::outer).filterMap (·.frame))->B.get? b=ZB:=λb m=>by rw[<-hB];exact RS _ m
 have hl':s.heap.FunFrames B (env::outer):=iq hl λa ha=>bm a (NR _ (Om _ ha))
 have hst:B.StaysIn s.heap:=λb o q=>by rw[<-hB]at q;exact Sb _ q
 have hen:B.get? e=ZB:=bm e NU
 have main:∀h',Heap.Left B (env::outer) e (.ref C) s.heap h'->Q () {s with heap:=h'}:=λh' ⟨x1,x2,⟨oe,vs,T',oT,ts,he,hc,hd,h1,hnT,hTe,hT,hdT,h3⟩,x4⟩=>by
  refine h h' T' ⟨⟨hTe,oe,vs,he,hc,hd,h1,oT,ts,hT,hdT,h3⟩,?_,λb o n1 n2 n3 q=>?_,λb o m q=>?_⟩
  ·cases q:s.heap.get? T' with
   |none=>exact .inr rfl
   |some o=>
    left
    by_cases z:T'∈e::(T.toList++(env::outer).filterMap (·.frame))
    ·rcases N0.mp z with z|z
     ·exact absurd z hTe
     ·rcases Oq.mp z with z|z
      ·cases T with
       |none=>simp at z
       |some t=>simp at z;rw[z]
      ·obtain⟨_,o',ho',hnf⟩:=x2.mem z
       rw[hT]at ho';cases ho';exact absurd hdT (hnf ts)
    ·rw[<-hB,QD _ q z]at hnT;cases hnT
  ·refine x1 b o ?_
   rw[<-hB];refine QD _ q λz=>?_
   rcases N0.mp z with z|z
   ·exact n2 z
   ·rcases Oq.mp z with z|z
    ·cases T with
     |none=>simp at z
     |some t=>simp at z;exact n3 (by rw[z])
    ·exact n1 z
  ·obtain⟨_,o',ho',hnf⟩:=hl.mem m
   rw[q]at ho';cases ho';exact x4 b o q hnf
 cases T with
 |none=>
  obtain⟨oe,vs,he,hc,hd,h1⟩:=F;refine wpAny_leaving_first hfr hl' hf he hst hen hd h1 λh' x=>main h' ?_
  rw[hc]at x;exact x
 |some t=>
  obtain⟨hte,oe,vs,he,hc,hd,h1,oT,ts,hT,hdT,h3⟩:=F;exact wpAny_leaving_next hfr hl' hf ⟨oe,vs,t,oT,ts,he,hc,hd,h1,bm t (NR _ (Oy _ (by simp))),hte,hT,hdT,h3⟩ hst hen main
abbrev rC:List NS:=[.type "ValueError",.type "Exception",.type "BaseException",.type "object"]
structure OwnExc (K:NQ)(C:ZE)(bm:List NS):Prop where
 at_:∀h:ZH,K.In h->∃nm q N bs hdct sn sub ab col dd k0 k1 k2 k3 k5 mN,h.get? C=ZA (Pq nm q C N bs bm hdct sn sub ab col dd k0 k1 k2 k3 k5 "ValueError.__new__")/\h.Ns N mN/\mN "__init__" =ZB/\OwnTail h rC bm
def OwnExc.base(O:OwnExc K C bm)(k:K.In h):bm.contains (.type "BaseException")=ZC:=by
 obtain⟨_,_,_,_,_,_,_,_,_,_,_,_,_,_,_,_,_,_,_,T⟩:=O.at_ h k;exact T.hasType (by decide)
def AN(c:Str)(_:En):Rs Fl:=.err c
variable{c:Str}{p1:Pos}
def CF{msg:Str}{np:Pos}(O:OwnExc X.K C bm)(hc:X.calm=ZC)(hm:X.mg c=ZA (.ref C))(hg:Gl X c:=by rfl)(hd:autoParam ((c == ("__debug__" : Str))=ZD) s_):
  pj X (.Raise (ZA (.Call (.Name c np) [.Constant (.str msg) j p1] [] cpos)) ZB pos) (AN c):=by
 intro lm s σ H D I ⟨Z,B,M,E,k⟩
 have k:XA X M.u H c:=k;obtain⟨nm,q,N,bs,hdct,sn,sub,ab,col,dd,k0,k1,k2,k3,k5,mN,hC,hN,hni,T⟩:=O.at_ s.heap I.kIn;refine wpAny_Raise_call_subU (C:=C) (mN:=mN) (nm:=nm) (q:=q) (N:=N) (bs:=bs) (hdct:=hdct) (sn:=sn) (sub:=sub) (ab:=ab) (col:=col) (dd:=dd) (k0:=k0) (k1:=k1) (k2:=k2) (k3:=k3) (k5:=k5) R8 (Bn:="ValueError") (by decide) R8 (O.base I.kIn) (I.ok.hd hc) (by rfl) hni (fR I hg hm ⟨rfl,?_⟩ hd)
 show ZJ _ _ (evalArgs (.ref C) ZC ((ZD,eval (.Constant (.str msg) j p1) X.env)::backTo cpos (N5 [] X.env)) []) _ _ s
 refine Q6 (Rm (Ub (Ry ?_)))
 refine⟨rfl,by show 1<=ZI;decide,hC,hN,T,λh' e hm'=>k lm _ _ ?_⟩
 obtain⟨t,ht,ht2,ht3⟩:=hm'.there
 have I':Inv X lm σ H {s with heap:=h',toks:=s.toks+1}:=I.kept (t':=s.toks+1) λb o z=>hm'.keeps b o z
 refine⟨e,ZB,C,σ,H,rfl,hm,I',λb o z _=>z,?_,?_,⟨_,_,ht,rfl,rfl,rfl⟩,(λt z=>by cases z),λp hp=>⟨λz=>?_,λz=>by cases z⟩⟩
 ·exact jN I hm'.new
 ·exact λhex=>eI I hex hm'.new
 ·have:=(I.pin p hp).1
  rw[z,show s.heap.get? e=ZB from hm'.new]at this
  cases this
variable{f:ZE}{mg:V0}{qual:Str}
section
variable {base:ZH}
def Kd(Fn:L2.Fun K x qual st f fd)(S:az N ps (ai st))(hn:ps.length=n)
  (hbody:∀(cdv:NS)(A:OB)(outer:List Env)(s:NV)(H:Hp)(E:XK),Room k (A.deeper (envOfC qual (ai st) s.heap.objs.size f cdv)) →
   ∃F,(∀xe,mP ((gh CX0 P w K mg base N qual (ai st) f cdv A outer s H E).FB xe) (bA st) F)/\∀ts,ts.length=n->∀c,g ts=.err c->F (aR N.length ts)=.err c):FnX P w K mg base (k+1) f fd ps n g:=by
 intro A outer s H args us vs O ts c R hr e0 hb r rs trk hl hg hR
 have hpl:ps.length<=N.length:=by have:=congrArg Pb S.pre;rw[OU]at this;omega
 obtain⟨oc,od,kV,doc,pm,an,cdv,ct,osl,rfl,lk,hcd⟩:=Fn.ex
 have hlen:vs.length=ps.length:=by rw[<-rs.length,hl,hn]
 have KX:K.In s.heap:=e0.mod.kin.keeps λb o e=>(e0.bs b o e).1
 have lim:s.heap.NoLimit:=e0.mod.nolimit.keeps λb o e=>(e0.bs b o e).1
 have hkind:∀y∈ps.zip us,(ai st).names.lookup y.1=ZA .local\/((ai st).names.lookup y.1=ZA .cell/\((Qc (s.heap.objs.size+1) (ai st).names []).lookup y.1).isSome=ZC):=λ⟨n,v⟩ hy=>by
  rcases S.par n (QR hy).1 with q|q
  ·exact .inl q
  ·exact .inr ⟨q,Qe _ _ _ (.inl q)⟩
 refine QZ hr.depth (KX _ _ lk) rfl S.co S.gen rfl (Rj KX hcd) (hb _ _ _ _ ?_)
 refine Qh S.kind hkind λenv he s1 x=>?_
 subst he;refine⟨lim.keeps x.toInCall.keep,Tt ?_⟩
 obtain⟨F,hF,hv⟩:=hbody cdv A outer s H E0 (hr.deeper _)
 let xe:V1:=λev s'=>ZJ (ZK P w) (A.deeper (envOfC qual (ai st) s.heap.objs.size f cdv)) (leaving (envOfC qual (ai st) s.heap.objs.size f cdv) ev) (λ_ s''=>R (.error ev) s'') (λe' s''=>R (.error e') s'') s'
 have I:Inv ((gh CX0 P w K mg base N qual (ai st) f cdv A outer s H E0).FB xe) [] (start N vs) H s1:=(kN S hr.hd e0 hlen r x).FB _
 have no:∀a,¬noM.u a:=λa ⟨_,z⟩=>z
 refine Pz (hF xe [] s1 (start N vs) H {nx:=λ_ _=>False,rt:=λ_ _=>False,bk:=λ_ _=>False,ct:=λ_ _=>False} I ⟨aR N.length ts,O,noM,kE rs (by omega) trk,?_⟩) (λfl s' z=>?_) λe s' hs=>hs
 rotate_left
 ·cases fl with
  |next=>obtain⟨_,_,_,z⟩:=z;exact z.elim
  |cont=>obtain⟨_,_,_,z⟩:=z;exact z.elim
  |brk=>obtain⟨_,_,_,z⟩:=z;exact z.elim
  |ret v=>obtain⟨_,_,_,_,_,z⟩:=z;exact z.elim
 rw[hv ts hl c hg];intro lm ev s' w'
 show ZJ _ _ _ _ _ _
 obtain⟨e,T,C,σ',H',rfl,hm,I',sm,he,heo,fl,hT,_⟩:=w'
 have heo:=heo rfl
 have hT:∀t,T=ZA t->H' t=ZB/\s.heap.get? t=ZB:=λt z=>⟨(hT t z).1,(hT t z).2 rfl⟩
 refine Dw (base:=base) (outer:=outer) (L:=s.heap.objs.size) I'.ok.frames I'.stack rfl fl λh' T' g=>hR _ _ ?_
 have hex:((gh CX0 P w K mg base N qual (ai st) f cdv A outer s H E0).FB xe).ex=[]:=rfl
 have Tn:H' T'=ZB/\s.heap.get? T'=ZB:=by
  rcases g.new with z|z
  ·exact hT T' z
  ·exact⟨jN I' z,eI I' hex z⟩
 have out:∀b o,s.heap.get? b=ZA o->b≠s.heap.objs.size:=λb o q z=>by
  have:=N8 q;rw[z]at this;exact absurd this (OA _)
 have mem:∀b,b∈nF ((envOfC qual (ai st) s.heap.objs.size f cdv)::outer)->b=s.heap.objs.size\/b∈nF outer:=λb z=>by
  have z':b∈s.heap.objs.size::nF outer:=z;exact N0.mp z'
 have ne:∀b o,s.heap.get? b=ZA o->b≠e/\T≠ZA b:=λb o q=>⟨λz=>(by subst z;rw[show s.heap.get? b=ZB from heo]at q;cases q),λz=>(by rw[show s.heap.get? b=ZB from(hT b z).2]at q;cases q)⟩
 have keepH:∀b u,H' b≠ZB->s'.heap.get? b=ZA u->h'.get? b=ZA u:=λb u hb q=>by
  refine g.keep b u (λz=>hb (I'.M8 b z)) (λz=>hb (by rw[z];exact he)) (λz=>hb (hT b z).1) q
 refine⟨e,T',C,H',rfl,hm,I'.os,I'.bare,⟨λb o q n hb hx=>?_,λb o q n hb hx=>?_,λb o q n hx=>I'.base.free b o q n hx,λb o q hx=>?_,I'.base.tups,I'.base.frzs,I'.base.tbls⟩,λa o q=>?_,λb o q=>sm b o q (no b),he,heo,g.flt,Tn.1,Tn.2⟩
 ·exact g.keep b o (λz=>(mem b z).elim (out b o q) hb) (ne b o q).1 (ne b o q).2 (I'.base.keep b o q n hb hx)
 ·obtain⟨sl,q1⟩:=I'.base.slot b o q n hb hx
  obtain⟨sl',q2⟩:=g.slot b _ (NR _ hb) q1;exact⟨sl',q2⟩
 ·obtain⟨o',q1⟩:=I'.base.there b o q hx
  by_cases z:b∈nF ((envOfC qual (ai st) s.heap.objs.size f cdv)::outer)
  ·obtain⟨sl,q2⟩:=g.slot b o' z q1
   exact⟨_,q2⟩
  ·exact⟨o',g.keep b o' z (ne b o q).1 (ne b o q).2 q1⟩
 ·refine(I'.hok a o q).Nc (λb u hb z=>keepH b u ?_ z) (λ_ z=>z) λ_ _ z=>z
  rcases hb with rfl|hb
  ·rw[q];simp
  ·rw[hb];simp
end
def Fv{m:Nat}{F:V4}(h:val n m F ts=.err c):F (aR m ts)=.err c:=by
 unfold val at h
 split at h
 ·unfold bV at h
  cases z:F (aR m ts)with
  |bad=>rw[z]at h;cases h
  |err c'=>rw[z]at h;cases h;rfl
  |ok f=>
   rw[z,ay]at h;cases f <;> cases h
 ·cases h
section
variable {base:ZH}
def Kg{F:V4}(Fn:L2.Fun K x qual st f fd)(S:az N ps (ai st))(hn:ps.length=n)
  (hbody:∀(cdv:NS)(A:OB)(outer:List Env)(s:NV)(H:Hp)(E:XK),Room k (A.deeper (envOfC qual (ai st) s.heap.objs.size f cdv)) →
   ∀xe,mP ((gh CX0 P w K mg base N qual (ai st) f cdv A outer s H E).FB xe) (bA st) F):E5 P w K mg base (k+1) f fd ps n (val n N.length F):=
 ⟨Mv Fn S hn λcdv A outer s H E hr=>⟨F,hbody cdv A outer s H E hr _,λts _ _ h=>Ip h⟩,Kd Fn S hn λcdv A outer s H E hr=>⟨F,hbody cdv A outer s H E hr,λts _ c h=>Fv h⟩⟩
end
variable{lm:V2}{vs:List V}
section
variable {Q:VK}
def La(F:E5 X.prog X.w X.K X.mg X.base k f fd ps n g)(hr:Room k X.A)(hb:Binds X.K fd ps [])(hps:ps.length=n)(I:Inv X lm σ H s)(r:Vals vs us)(rs:Reps X.K O H ts vs)(mt:∀a,O a->Mtb H a)(hl:ts.length=n)
  (hq:Post X H (g ts) λt H'=>∀v,Rep X.K O H' t v->Q v H'):ZJ (ZK X.prog X.w) X.A (call (.ref f) us) (EP X lm σ Q) X.xe s:=by
 cases q2:g ts with
 |bad=>rw[q2]at hq;exact hq.elim
 |ok t=>
  rw[q2]at hq;refine t9 (E:=E0) (dvs:=[]) (ds:=[]) F.h hr hb .nil wc I r ⟨ts,O,by simpa using rs,mt,hl,?_⟩
  rw[q2]
  exact λv H' s2 rr=>hq H' s2 v rr
 |err c=>
  rw[q2]at hq
  have hlen:us.length=ps.length:=by rw[<-r.length,<-rs.length,hl,hps]
  have hb':=hb s us I.kIn (by rw[Ou];exact hlen)
  rw[Ou]at hb';refine RA (Qn (F.x X.A X.stack s H ⟨us,[]⟩ us vs O ts c (λr s'=>match r with|.error ev=>X.xe ev s'|_=>False) hr I.Nk hb' r rs mt hl q2 λev s' w=>?_) λr s' hq=>?_)
  ·obtain⟨ea,T,C,H',rfl,hmc,ho,hbare,hun,hok,sm2,hea,heo,fl,hT,hTo⟩:=w
   have I2:Inv X lm σ H' s':=I.Ng ho hun hok hbare (λb z=>absurd z (by simp))
   exact hq lm _ _ ⟨ea,ZA T,C,σ,H',rfl,hmc,I2,λb o q _=>sm2 b o q,hea,λhex=>eI I hex heo,fl,(λt zt=>by cases zt;exact⟨hT,λhex=>eI I hex hTo⟩),λpp hpp=>⟨λzz=>(by have:=(I.pin pp hpp).1;rw[zz,heo]at this;cases this),λzz=>(by cases zz;have:=(I.pin pp hpp).1;rw[hTo]at this;cases this)⟩⟩
  ·cases r with
   |error ev=>exact hq
   |ok fl=>exact hq.elim
end
section
variable {a:ZG}
def Lm:pj X (.Continue pos) HE:=PS.imp v7 λD σ H ⟨Z,B,M,E,h⟩=>h σ H M (λ_ _ e _=>e) E λa z=>.inl z
end
inductive OTail (h:ZH):List NS->Prop
 |base:OTail h rC
 |own {A:ZE} {c0:NS} {dd:Option ZE} {cd:ClassData} {sl:Array (Option NS)} {mA:V0} {tl:List NS} :
   h.get? A=ZA {cls:=c0,dict:=dd,data:=.cls cd,slots:=sl}->h.Ns cd.ns mA->(∀n∈calmNames,mA n=ZB)->OTail h tl->OTail h (.ref A::tl)
def OTail.tail(T:OTail h tl):OwnTail h rC tl:=by
 induction T with
 |base=>exact .base
 |own hA hN hq _ ih=>exact .own hA hN (hq _ (.head _)) ih
variable{d:Drawn}{dd:Option ZE}{g:Array Uo}{nm q:Str}{sn:List Str}{tk:Tok}{y:Option NS}
section
variable {t:Nat}
variable{n:Str}
def Hk(hn:n∈calmNames)(T:OTail h tl)(hrest:VC rC n=pure y)(hq:Q y ⟨h,g,d,t,os⟩):
  ZJ M A (VC tl n) Q E ⟨h,g,d,t,os⟩:=by
 induction T with
 |base=>rw[hrest];exact Oe hq
 |own hA hN hni _ ih=>
  rw[Vd];refine NY (wpAny_classOwn_cls hA hN ?_)
  rw[hni n hn];exact ih
def LY:mroOf (.type "ValueError")=pure rC:=by rw[mroOf_type];kernel_rfl
variable {N:ZE}{bs:List NS}{sub:List NS}{mN:V0}
def yD(hn:n∈calmNames)(hC:h.get? C=ZA (Pq nm q C N bs bm hdct sn sub ab col dd k0 k1 k2 k3 k5 newId))(hN:h.Ns N mN)(hmN:∀n∈calmNames,mN n=ZB)(T:OTail h bm)
  (hB:RB (.type "ValueError") n=pure y) (hq:Q y ⟨h,g,d,t,os⟩):ZJ M A (RB (.ref C) n) Q E ⟨h,g,d,t,os⟩:=by
 have hrest:VC rC n=pure y:=by rw[typeLookup_eq,LY]at hB;exact hB
 rw[typeLookup_eq];refine NY (wpAny_mroOf_exc hC ?_)
 rw[Vd];refine NY (wpAny_classOwn_exc hC hN ?_)
 rw[hmN n hn];exact Hk hn T hrest hq
def Ds:RB (.type "ValueError") "__class__" =pure (ZA (.builtin "object.__class__")):=by rw[Rr,Qo];kernel_rfl
def yG:RB (.type "ValueError") "__getattr__" =pure ZB:=by rw[Rr,Qo];kernel_rfl
def ga_V:Slot "ValueError" "__getattribute__" "BaseException.__getattribute__":=.of (owner:="BaseException") (n:="__getattribute__") (by rw[Rr,Qo];kernel_rfl) (by decide+kernel) (by decide+kernel) (by decide+kernel) (by first|exact .inl (by decide+kernel)|exact .inr (by decide+kernel)) (by rw[isSubtype_type];kernel_rfl)
variable {o:Obj}{vs:Array NS}
def Hb(hC:h.get? C=ZA (Pq nm q C N bs bm hdct sn sub ab col dd k0 k1 k2 k3 k5 newId))(T:OTail h bm)
  (hx:h.get? a=ZA o) (hc:o.cls=.ref C) (hq:R (.ok (.ret (.ref C))) ⟨h,g,d,t,os⟩):
  ZL (ZK prog w) A (.call (.builtin "getset_descriptor.__get__") ⟨[.builtin "object.__class__",.ref a,.ref C],[]⟩) R ⟨h,g,d,t,os⟩:=by
 have hT5:(⟨h,g,d,t,os⟩:NV).TypeIs (.builtin "object.__class__") "getset_descriptor":=RL
 have hcB:(Oc C::bm).contains (.type (".".intercalate ("object.__class__".cutAt '.').dropLast))=ZC:=by
  rw[F.owner_object_class,Pd,T.tail.hasType (b:=ZC) (by decide)];rfl
 refine RU Uh.plain F.entry_gs_get (Uh.check _ _ _ _ _ _ _ _ hT5 (F.args_gs_get _ _ _) ?_)
 repeat (any_goals (first|assumption| (with_reducible refine O0 hx ?_;rw[hc])| (with_reducible refine Qd hC ?_;rw[hcB])|wp_step))
 refine⟨Code.quiet_builtin _ (by decide+kernel),Tw F.entry_object_class ?_⟩
 repeat (any_goals (first|assumption| (with_reducible refine O0 hx ?_;rw[hc])|wp_step))
def Ed{nameV:NS}{Q:Unit->NV->Prop}(hC:h.get? C=ZA (Pq nm q C N bs bm hdct sn sub ab col dd k0 k1 k2 k3 k5 newId))(T:OTail h bm)
  (hx:h.get? a=ZA o) (hc:o.cls=.ref C) (hq:Q () ⟨h,g,d,t,os⟩):ZJ M A (Ve "BaseException.__getattribute__" ⟨[.ref a,nameV],[]⟩) Q E ⟨h,g,d,t,os⟩:=by
 have hk:builtinKind "BaseException.__getattribute__" =ZA .slot:=by decide+kernel
 have hsplit:splitId "BaseException.__getattribute__" =ZA ("BaseException","__getattribute__"):=by decide+kernel
 have hcB:(Oc C::bm).contains (.type "BaseException")=ZC:=by rw[Pd,T.tail.hasType (b:=ZC) (by decide)];rfl
 have ha:=F.args_bexc_ga (.ref a) nameV;simp only[Ve,hk,hsplit];refine NY ?_
 ·unfold isInstance
  repeat (first| (with_reducible refine O0 hx ?_;rw[hc])| (with_reducible refine Qd hC ?_;rw[hcB])|wp_step)
  exact hq
def Bt{Q:Fin->NV->Prop}(hC:h.get? C=ZA (Pq nm q C N bs bm hdct sn sub ab col dd k0 k1 k2 k3 k5 newId))(hN:h.Ns N mN)
  (hmN:∀n∈calmNames,mN n=ZB) (T:OTail h bm) (hx:h.get? a=ZA o) (hc:o.cls=.ref C) (hd:o.data=.fields vs) (hq:Q (.done (.ret (.ref C))) ⟨h,g,d,t,os⟩):
  ZJ (ZK prog w) A (Builtin.«object.__getattribute__» ⟨[.ref a,.str "__class__" tk],[]⟩) Q E ⟨h,g,d,t,os⟩:=by
 have hT5:(⟨h,g,d,t,os⟩:NV).TypeIs (.builtin "object.__class__") "getset_descriptor":=RL
 have f5:=RL
 have f6:=Uh.lookup
 have f7:=F.slot_gs_set.lookup
 have hmA:("__class__" : Str)∈calmNames:=.tail _ (.tail _ (.tail _ (.head _)))
 repeat (any_goals (first|assumption| (with_reducible refine O0 hx ?_;rw[hc])|with_reducible refine yD hmA hC hN hmN T Ds ?_|wp_step))
 refine Hb hC T hx hc ?_
 repeat (any_goals (first|assumption|wp_step))
def EK(hC:h.get? C=ZA (Pq nm q C N bs bm hdct sn sub ab col dd k0 k1 k2 k3 k5 newId))(hN:h.Ns N mN)
  (hmN:∀n∈calmNames,mN n=ZB) (T:OTail h bm) (hx:h.get? a=ZA o) (hc:o.cls=.ref C) (hd:o.data=.fields vs) (hq:R (.ok (.ret (.ref C))) ⟨h,g,d,t,os⟩):
  ZL (ZK prog w) A (.call (.builtin "BaseException.__getattribute__") ⟨[.ref a,.str "__class__" tk],[]⟩) R ⟨h,g,d,t,os⟩:=
 RU ga_V.plain F.entry_bexc_ga (Ed hC T hx hc (Bt hC hN hmN T hx hc hd hq))
def Ky{fill:Bool}{Q:V1}(hC:h.get? C=ZA (Pq nm q C N bs bm hdct sn sub ab col dd k0 k1 k2 k3 k5 newId))(hN:h.Ns N mN)
  (hmN:∀n∈calmNames,mN n=ZB) (T:OTail h bm) (hx:h.get? a=ZA o) (hc:o.cls=.ref C) (hd:o.data=.fields vs) (hq:Q (.ref C) ⟨h,g,d,t,os⟩):
  ZJ (ZK prog w) A (getAttrBy (.ref a) (.str "__class__" tk) fill expr) Q E ⟨h,g,d,t,os⟩:=by
 have f3:=ga_V.bind (.ref a)
 have hx0:(expr&&onTheHeap (Q1 "BaseException.__getattribute__"))=ZD:=by cases expr <;> rfl
 have hx2:(Q1 "BaseException.__getattribute__" == Q1 "object.__getattribute__")=ZD:=by decide+kernel
 have hx1:(onTheHeap (Oc C)&&Q1 "BaseException.__getattribute__" == Q1 "object.__getattribute__")=ZD:=by rw[hx2];rfl
 have hm1:("__getattribute__" : Str)∈calmNames:=.tail _ (.head _)
 have hm2:("__getattr__" : Str)∈calmNames:=.tail _ (.tail _ (.head _))
 repeat (any_goals (first|assumption| (with_reducible refine O0 hx ?_;rw[hc])|with_reducible refine yD hm1 hC hN hmN T ga_V.lookup ?_|with_reducible refine yD hm2 hC hN hmN T yG ?_|wp_step))
 refine EK hC hN hmN T hx hc hd ?_
 repeat (any_goals (first|assumption|wp_step))
def EL(hC:h.get? C=ZA (Pq nm q C N bs bm hdct sn sub ab col dd k0 k1 k2 k3 k5 newId))(hN:h.Ns N mN)
  (hmN:∀n∈calmNames,mN n=ZB) (T:OTail h bm) (hx:h.get? a=ZA o) (hc:o.cls=.ref C) (hd:o.data=.fields vs) (hq:Q (ZA (.ref C)) ⟨h,g,d,t+1,os⟩):
  ZJ (ZK prog w) A (getAttr? (.ref a) "__class__") Q E ⟨h,g,d,t,os⟩:=by
 unfold getAttr? getAttrBy?
 repeat (any_goals (first|assumption|with_reducible apply Ky hC hN hmN T hx hc hd|wp_step))
end
variable{D:ZE}{Q:Fin->NV->Prop}
section
variable {t:Nat}
variable {N:ZE}{bs:List NS}{sub:List NS}{mN:V0}
variable {o:Obj}{vs:Array NS}
def A3{dep:Int}(hx:h.get? a=ZA o)(hc:o.cls=.ref C)(hq:Q (.done (.ret (.bool ZC))) ⟨h,g,d,t,os⟩):
  ZJ (ZK prog w) A (Builtin.«isinstance.nested» ⟨[.ref a,.ref C,.int dep tk],[]⟩) Q E ⟨h,g,d,t,os⟩:=by
 have e:(Oc C == Oc C)=ZC:=by simp
 repeat (any_goals (first|assumption| (with_reducible refine O0 hx ?_;rw[hc])|wp_step))
def JK{dep:Int}(hC:h.get? C=ZA (Pq nm q C N bs bm hdct sn sub ab col dd k0 k1 k2 k3 k5 newId))(T:OTail h bm)(hx:h.get? a=ZA o)(hc:o.cls=.ref C)
  (hq:Q (.done (.ret (.bool ZC))) ⟨h,g,d,t,os⟩):ZJ (ZK prog w) A (Builtin.«isinstance.nested» ⟨[.ref a,.type "ValueError",.int dep tk],[]⟩) Q E ⟨h,g,d,t,os⟩:=by
 have e:(Oc C == Rx "ValueError")=ZD:=rfl
 have hty:typeOf (.type "ValueError")=pure (.type "type"):=by kernel_rfl
 have hcB:(Oc C::bm).contains (.type "ValueError")=ZC:=by rw[Pd,T.tail.hasType (b:=ZC) (by decide)];rfl
 repeat (any_goals (first|assumption| (with_reducible refine O0 hx ?_;rw[hc])| (with_reducible refine Qd hC ?_;rw[hcB])|wp_step))
def Dj{oD:Obj}{cD:ClassData}{dep:Int}(hC:h.get? C=ZA (Pq nm q C N bs bm hdct sn sub ab col dd k0 k1 k2 k3 k5 newId))(hN:h.Ns N mN)(hmN:∀n∈calmNames,mN n=ZB)(T:OTail h bm)
  (hx:h.get? a=ZA o) (hc:o.cls=.ref C) (hd:o.data=.fields vs) (hD:h.get? D=ZA oD) (hDt:oD.cls=.type "type") (hDd:oD.data=.cls cD) (hne:(Oc C == Oc D)=ZD) (hnb:(Oc C::bm).contains (.ref D)=ZD)
  (hq:Q (.done (.ret (.bool ZD))) ⟨h,g,d,t+1,os⟩):ZJ (ZK prog w) A (Builtin.«isinstance.nested» ⟨[.ref a,.ref D,.int dep tk],[]⟩) Q E ⟨h,g,d,t,os⟩:=by
 repeat (any_goals (first|assumption| (with_reducible refine O0 hx ?_;rw[hc])| (with_reducible refine O0 hD ?_;rw[hDt])| (with_reducible refine O0 hD ?_;rw[hDd])| (with_reducible refine O0 hC ?_)| (with_reducible refine Qd hC ?_;rw[hnb])|with_reducible refine EL hC hN hmN T hx hc hd ?_|wp_step))
end
structure OX (K:NQ)(C:ZE)(bm:List NS):Prop where
 at_:∀h:ZH,K.In h->∃nm q N bs hdct sn sub ab col dd k0 k1 k2 k3 k5 mN,h.get? C=ZA (Pq nm q C N bs bm hdct sn sub ab col dd k0 k1 k2 k3 k5 "ValueError.__new__")/\h.Ns N mN/\(∀n∈calmNames,mN n=ZB)/\OTail h bm
def OX.own(O:OX K C bm):OwnExc K C bm:=⟨λh k=>by
 obtain⟨nm,q,N,bs,hdct,sn,sub,ab,col,dd,k0,k1,k2,k3,k5,mN,h1,h2,h3,h4⟩:=O.at_ h k;exact⟨nm,q,N,bs,hdct,sn,sub,ab,col,dd,k0,k1,k2,k3,k5,mN,h1,h2,h3 _ (.head _),h4.tail⟩⟩
variable{Q:VK}{oe:Obj}
section
variable {ev:Array NS}{bmD:List NS}
def tIs(e:ZE)(b:Bool):TE:=λσ H Q=>σ[0]?=ZA (ZA (.ref e))/\Q (.bl b) H
def DY(hp:(e,oe)∈X.pn)(hc:oe.cls=.ref C)(hd:oe.data=.fields ev)(OC:OX X.K C bm)(OD:OX X.K D bmD)(b:Bool)(hb:(decide (C=D))=b)(hnb:C≠D->bm.contains (.ref D)=ZD)
  (I:Inv X lm σ H s) (q:Q (.bl b) H):ZJ (ZK X.prog X.w) X.A (call (.builtin "isinstance") [.ref e,.ref D]) (EP X lm σ Q) X.xe s:=by
 have hx:s.heap.get? e=ZA oe:=(I.pin (e,oe) (Oy _ hp)).1;obtain⟨nm,qq,N,bs,hdct,sn,sub,ab,col,dd,k0,k1,k2,k3,k5,mN,hC,hN,hmN,T⟩:=OC.at_ s.heap I.kIn;obtain⟨nm',qq',N',bs',hdct',sn',sub',ab',col',dd',k0',k1',k2',k3',k5',mN',hD,_⟩:=OD.at_ s.heap I.kIn;obtain⟨h,g,d,t,os⟩:=s;refine Uy ?_ (by intro z;cases z)
 by_cases z:C=D
 ·subst z
  have:b=ZC:=by rw[<-hb];simp
  subst this;exact A3 hx hc ⟨.bl ZC,H,I,rfl,q⟩
 ·have:b=ZD:=by rw[<-hb];simp[z]
  subst this;refine Dj hC hN hmN T hx hc hd hD rfl rfl ?_ ?_ ⟨.bl ZD,H,I.tok _,rfl,q⟩
  ·rw[beq_eq_false_iff_ne];exact λy=>z (T9 y)
  ·rw[Pd,hnb z,Bool.or_false,beq_eq_false_iff_ne]
   exact λy=>z (T9 y).symm
def DZ(hp:(e,oe)∈X.pn)(hc:oe.cls=.ref C)(OC:OX X.K C bm)
  (I:Inv X lm σ H s) (q:Q (.bl ZC) H):ZJ (ZK X.prog X.w) X.A (call (.builtin "isinstance") [.ref e,.type "ValueError"]) (EP X lm σ Q) X.xe s:=by
 have hx:s.heap.get? e=ZA oe:=(I.pin (e,oe) (Oy _ hp)).1;obtain⟨nm,qq,N,bs,hdct,sn,sub,ab,col,dd,k0,k1,k2,k3,k5,mN,hC,hN,hmN,T⟩:=OC.at_ s.heap I.kIn;obtain⟨h,g,d,t,os⟩:=s;refine Uy ?_ (by intro z;cases z)
 exact JK hC T hx hc ⟨.bl ZC,H,I,rfl,q⟩
def yk{en dn:Str}{p2:Pos}(hN:X.N[0]?=ZA en)(hv:lX X.env.scope en)(hp:(e,oe)∈X.pn)(hc:oe.cls=.ref C)(hd:oe.data=.fields ev)(OC:OX X.K C bm)(OD:OX X.K D bmD)(b:Bool)(hb:(decide (C=D))=b)(hnb:C≠D->bm.contains (.ref D)=ZD)
  (hm:X.mg "isinstance" =ZB) (hmD:X.mg dn=ZA (.ref D)) (hg:Gl X "isinstance":=by rfl) (hgD:Gl X dn:=by rfl) (hde:autoParam ((en == ("__debug__" : Str))=ZD) s_) (hce:autoParam ((en == ("__classdict__" : Str))=ZD) s_) (hdd:autoParam ((dn == ("__debug__" : Str))=ZD) s_)
  (he:N5 [.Name en p1,.Name dn p2] X.env=(ZD,eval (.Name en p1) X.env)::N5 [.Name dn p2] X.env:=by rfl) (hpl:(backTo pos (N5 [.Name dn p2] X.env)).any (·.1)=ZD:=by rfl)
  (hs:N5 [.Name dn p2] X.env=(ZD,eval (.Name dn p2) X.env)::N5 [] X.env:=by rfl):
  PE X (.Call (.Name "isinstance" p) [.Name en p1,.Name dn p2] [] pos) (tIs e b):=by
 intro lm s σ H Q I ⟨hσ,q⟩;refine ON (gg I hg hm gi ?_ (by decide) (by decide))
 have hA:PA X [.Name en p1,.Name dn p2] (gX (pB 0) (gX (tC (.ref D)) vI)):=bz (eG hN hv hde hce) (bz (zH hgD hmD rfl hdd) d6 hs) he;refine PQ (bW (hA pos lm s σ H (λvs H'=>vs=[.ref e,.ref D]/\H'=H) I ⟨.ref e,hσ,rfl,rfl⟩) λus s1 ⟨vs,H1,I1,r1,e1,e2⟩=>?_) he hpl
 subst e1;obtain⟨u,w',rfl,ru,rw'⟩:=vt r1;cases ru;cases rw';subst e2;exact DY hp hc hd OC OD b hb hnb I1 q
end
def eqB(a b:Bool):MeetsSeq.EqGives (.bool a) (.bool b) (a == b):=λprog w A E s Q h=>(PySem.SeqAt.EqAt.bool_bool a b (A:=A) (s:=s)) prog w E Q h
theorem tJ:∀{ks:List Bool}{us:List NS},Vals (ks.map V.bl) us->us=ks.map OS
 |[],us,r=>by cases r;rfl
 |k::ks,us,r=>by
  cases r with
  |cons r1 r2=>cases r1;rw[tJ r2];rfl
def mz:NS->Bool
 |.bool b=>b
 |_=>ZD
def FR:V->List V->Hp->VK->Prop:=λx vs H Q=>∃(l:ZE)(ks:List Bool),x=.ref l/\vs=[.bl ZC]/\H l=ZA (.lst (ks.map V.bl))/\Q (.int (ks.countP id:Nat)) H
def A7:M4 X "list.count" FR:=by
 intro lm s σ H x vs v us Q I rx rv h;obtain⟨l,ks,rfl,rfl,hH,q⟩:=h;cases rx;obtain⟨u,rfl,ru⟩:=rv.one;cases ru;obtain⟨z,its,n,r,hl,e⟩:=I.Na hH
 have hi:=tJ r;subst hi;refine Q5 F.slot_list_count ⟨_,e,rfl⟩ F.entry_list_count (F.args_list_count_2 _ _) (MeetsSeq.list_count l (ks.map OS).toArray n (.bool ZC) mz λy hy=>?_) ⟨e,?_⟩
 ·have hy':y∈ks.map OS:=by simpa using hy
  obtain⟨k,_,rfl⟩:=Ov.mp hy'
  have:=eqB k ZC;cases k <;> exact this
 ·have hc:(ks.map OS).toArray.toList.countP mz=ks.countP id:=by
   simp only[List.countP_map];rfl
  rw[hc];exact⟨.int _,H,I.tok _,⟨_,rfl⟩,q⟩
def FP:V->List V->Hp->VK->Prop:=λx vs H Q=>∃(l:ZE)(ks:List Bool)(j:Nat),x=.ref l/\vs=[.bl ZC]/\H l=ZA (.lst (ks.map V.bl))/\ks[j]?=ZA ZC/\(∀m,m<j->ks[m]?=ZA ZD)/\j<=1000/\Q (.int (j:Nat)) H
def A5:M4 X "list.index" FP:=by
 intro lm s σ H x vs v us Q I rx rv h;obtain⟨l,ks,j,rfl,rfl,hH,hj,hno,hs,q⟩:=h;cases rx;obtain⟨u,rfl,ru⟩:=rv.one;cases ru;obtain⟨z,its,n,r,hl,e⟩:=I.Na hH
 have hi:=tJ r;subst hi
 have hjl:j<ks.length:=(N1.mp hj).1
 refine Q5 UH ⟨_,e,rfl⟩ Ui (T2 _ _) (MeetsSeq.list_index l (ks.map OS).toArray n (.bool ZC) mz (λy hy=>?_) j (by simpa using hjl) (by omega) ?_ ?_) ⟨e,?_⟩
 ·have hy':y∈ks.map OS:=by simpa using hy
  obtain⟨k,_,rfl⟩:=Ov.mp hy'
  have:=eqB k ZC;cases k <;> exact this
 ·have:ks[j]=ZC:=by have:=(N1.mp hj).2;exact this
  simp[this,mz]
 ·intro m hm hmj
  have hmk:m<ks.length:=by simpa using hm
  have:=(N1.mp (hno m hmj)).2
  simp[this,mz]
 ·exact⟨.int _,H,I.tok _,⟨_,rfl⟩,q⟩
abbrev MT(P:Oh)(w:O8)(K:NQ)(mg:V0)(base:ZH)(N:List Str)(qual:Str)(scope:Rc)(f:ZE)(cd:NS)(A:OB)(outer:List Env)(s:NV)(H:Hp)(e:ZE)(oe:Obj):Cx:=
 {gh CX0 P w K mg base N qual scope f cd A outer s H E0 with calm:=ZD,pn:=[(e,oe)],xe:=λ_ _=>False}
section
variable {base:ZH}
def yQ
  (S:az N ps scope) (e0:Env0 P w K mg base A outer s H) (hl:vs.length=ps.length) (r:Vals vs us)
  (x:InCallC s s.heap.objs.size (bindL (envOfC qual scope s.heap.objs.size f cd).kindOf (ps.zip us) λ_=>ZB) (Qc (s.heap.objs.size+1) scope.names []) (bindC (envOfC qual scope s.heap.objs.size f cd).kindOf (ps.zip us) λ_=>ZB) s1)
  (he:s.heap.get? e=ZA oe) (hH:H e=ZB) (hf:e∉nF outer) (hc:∀v,oe.data≠ .cell v):
  Inv (MT P w K mg base N qual scope f cd A outer s H e oe) [] (start N vs) H s1:=by
 have e0':Env0 P w K mg base {A with handled:=ZB} outer s H:=⟨e0.frames,e0.mod,e0.bs,e0.bsz,e0.funs,e0.frf,e0.hok,e0.bare⟩
 have I:=kN (CX:=CX0) (E:=E0) S (A:={A with handled:=ZB}) rfl e0' hl r x
 obtain⟨h1,tk,hs1,hk⟩:=x.done
 have ok:=I.ok;refine⟨⟨ok.mod,ok.kind,ok.glob,ok.blt,ok.above,ok.inj,ok.has,ok.cab,(λz=>by cases z),TC e0.frames,.inr ⟨rfl,rfl⟩,ok.exf,ok.bs,ok.bsz,ok.noex,ok.exfs,ok.funs,ok.frf⟩,I.os,I.bare,I.base,I.loc,I.cell,I.free,I.freeC,λp hp=>?_,I.hok,I.len⟩
 have hp':p=(e,oe):=by simpa using hp
 subst hp';refine⟨?_,hH,?_,hf,hc⟩
 ·rw[hs1];exact hk e oe he
 ·exact Pr (N8 he)
def Kf{args:Args}(Fn:L2.Fun K x qual st f fd)(S:az N ps (ai st))(hlen:vs.length=ps.length)
  (hr:A.depth+3<Q9) (e0:Env0 P w K mg base A outer s H) (hb:Sj s fd args (ps.zip us)) (r:Vals vs us) (he:s.heap.get? e=ZA oe) (hH:H e=ZB) (hf:e∉nF outer) (hc:∀v,oe.data≠ .cell v)
  (hbody:∀(cdv:NS),∃t,PSs (MT P w K mg base N qual (ai st) f cdv A outer s H e oe) (bA st) t/\t {nx:=λ_ _=>False,rt:=Q} (start N vs) H):
  ZL (ZK P w) A (.call (.ref f) args) (CR CX0 outer P w H s Q E0) s:=by
 obtain⟨oc,od,kV,doc,pm,an,cdv,ct,osl,rfl,lk,hcd⟩:=Fn.ex
 have KX:K.In s.heap:=e0.mod.kin.keeps λb o e=>(e0.bs b o e).1
 have lim:s.heap.NoLimit:=e0.mod.nolimit.keeps λb o e=>(e0.bs b o e).1
 have hkind:∀y∈ps.zip us,(ai st).names.lookup y.1=ZA .local\/((ai st).names.lookup y.1=ZA .cell/\((Qc (s.heap.objs.size+1) (ai st).names []).lookup y.1).isSome=ZC):=λ⟨n,v⟩ hy=>by
  rcases S.par n (QR hy).1 with q|q
  ·exact .inl q
  ·exact .inr ⟨q,Qe _ _ _ (.inl q)⟩
 refine QZ (by omega) (KX _ _ lk) rfl S.co S.gen rfl (Rj KX hcd) (hb _ _ _ _ ?_)
 refine Qh S.kind hkind λenv hen s1 x=>?_
 subst hen;refine⟨lim.keeps x.toInCall.keep,Tt ?_⟩
 obtain⟨t,ht,hq⟩:=hbody cdv
 have I:=yQ S e0 hlen r x he hH hf hc;refine Pz (ht [] s1 (start N vs) H _ I hq) (λfl s' hs=>?_) λe s' hs=>hs.elim
 cases fl with
 |ret u=>
  obtain⟨v,σ',H',J,rv,q⟩:=hs
  exact⟨v,H',J.os,J.bare,J.base,J.hok,rv,q⟩
 |next=>obtain⟨_,_,_,q⟩:=hs;exact q.elim
 |brk=>obtain⟨_,_,_,q⟩:=hs;exact q.elim
 |cont=>obtain⟨_,_,_,q⟩:=hs;exact q.elim
end
def HI{base:ZH}{L:ZE}{T:Option ZE}{Q:Unit->NV->Prop}(hfr:A.frames=ZA (env::outer))(hl:s.heap.FunFrames base (env::outer))(hf:env.frame=ZA L)
  (F:MJ s.heap C e T) (h:∀h' T',EZ ((env::outer).filterMap (·.frame)) C e T s.heap h' T'->Q () {s with heap:=h'}):
  ZJ M A (VA (.ref e) env) (λ_ s'=>ZJ M A (setFlight (.ref e) ZB) Q E s') E s:=by
 generalize hB:S3 s.heap (e::(T.toList++(env::outer).filterMap (·.frame)))=B
 have bm:∀b,b∈e::(T.toList++(env::outer).filterMap (·.frame))->B.get? b=ZB:=λb m=>by rw[<-hB];exact RS _ m
 have hl':s.heap.FunFrames B (env::outer):=iq hl λa ha=>bm a (NR _ (Om _ ha))
 have hst:B.StaysIn s.heap:=λb o q=>by rw[<-hB]at q;exact Sb _ q
 have hen:B.get? e=ZB:=bm e NU
 have main:∀h',Heap.Left B (env::outer) e (.ref C) s.heap h'->Q () {s with heap:=h'}:=λh' ⟨x1,x2,⟨oe,vs,T',oT,ts,he,hc,hd,h1,hnT,hTe,hT,hdT,h3⟩,x4⟩=>by
  refine h h' T' ⟨⟨hTe,oe,vs,he,hc,hd,h1,oT,ts,hT,hdT,h3⟩,?_,λb o n1 n2 n3 q=>?_,λb o m q=>?_⟩
  ·cases q:s.heap.get? T' with
   |none=>exact .inr rfl
   |some o=>
    left
    by_cases z:T'∈e::(T.toList++(env::outer).filterMap (·.frame))
    ·rcases N0.mp z with z|z
     ·exact absurd z hTe
     ·rcases Oq.mp z with z|z
      ·cases T with
       |none=>simp at z
       |some t=>simp at z;rw[z]
      ·obtain⟨_,o',ho',hnf⟩:=x2.mem z
       rw[hT]at ho';cases ho';exact absurd hdT (hnf ts)
    ·rw[<-hB,QD _ q z]at hnT;cases hnT
  ·refine x1 b o ?_
   rw[<-hB];refine QD _ q λz=>?_
   rcases N0.mp z with z|z
   ·exact n2 z
   ·rcases Oq.mp z with z|z
    ·cases T with
     |none=>simp at z
     |some t=>simp at z;exact n3 (by rw[z])
    ·exact n1 z
  ·obtain⟨_,o',ho',hnf⟩:=hl.mem m
   rw[q]at ho';cases ho';exact x4 b o q hnf
 cases T with
 |none=>
  obtain⟨oe,vs,he,hc,hd,h1⟩:=F;unfold VA;simp only[hf];refine NY (Qv he hd h1 ?_)
  rw[if_neg (by decide)]
  refine wpAny_newEntry hfr hl' hf he hst hen hd (Pe.mp h1).1 λh' x=>main h' ?_
  rw[hc]at x;exact x
 |some t=>
  obtain⟨hte,oe,vs,he,hc,hd,h1,oT,ts,hT,hdT,h3⟩:=F
  have hnT:B.get? t=ZB:=bm t (NR _ (Oy _ (by simp)))
  unfold VA;simp only[hf];refine NY (Qv he hd h1 ?_)
  rw[if_pos (show(Oc t != OI)=ZC from by simp)]
  refine NY (Qv hT hdT h3 ?_)
  rw[if_neg (show ¬((OI == rawInt L)=ZC)from by simp[rawInt])]
  refine NY (TV hT hdT (Pe.mp h3).1 ?_)
  have other:∀b,b≠t->(s.heap.update t (RW (·.setIfInBounds 3 OI))).get? b=s.heap.get? b:=λb hb=>QL _ _ (P4 hb)
  have noRec:∀b o,s.heap.get? b=ZA o->(∀vs,o.data≠ .fields vs)->b≠t:=λb o hb hnf q=>by
   rw[q,hT]at hb;injection hb with hb;subst hb;exact hnf ts hdT
  refine wpAny_newEntry hfr (hl'.of_keeps λb o hb hnf=>⟨o,(other b (noRec b o hb hnf)).trans hb,rfl⟩) hf ((other e (P4 hte)).trans he)
   (λb o hbo=>(other b λq=>by rw[q,hnT]at hbo;cases hbo).trans (hst b o hbo)) hen hd (Pe.mp h1).1
   λh' x=>main h' ?_
  obtain⟨x1,x2,x3,x4⟩:=x;rw[hc]at x3;exact⟨x1,x2,x3,λb o hb hnf=>x4 b o ((other b (noRec b o hb hnf)).trans hb) hnf⟩
variable{h':ZH}
def Inv.gone{T':ZE}{T:Option ZE}(I:Inv X lm σ H s)(hst:X.stack=X.env::X.outer)(hfe:X.env.frame=ZA X.env.locals)(hcl:∀x c,X.env.cells.lookup x≠ZA c)(hex:X.ex=[])
  (g:EZ ((X.env::X.outer).filterMap (·.frame)) C e T s.heap h' T') (he:H e=ZB) (heo:X.s₀.heap.get? e=ZB) (hT:∀t,T=ZA t->H t=ZB/\X.s₀.heap.get? t=ZB) (hp:∀p∈X.pn++lm,p.1≠e/\T≠ZA p.1):
  Inv X lm σ H {s with heap:=h'}:=by
 have mem:∀b,b∈(X.env::X.outer).filterMap (·.frame)↔b=X.env.locals\/b∈X.fs:=λb=>by
  rw[Ph,hfe];exact N0
 have out:∀b o,X.s₀.heap.get? b=ZA o->b≠X.env.locals:=λb o q z=>by
  have h1:=N8 q
  have h2:=I.ok.above;rw[z]at h1;exact absurd (Of h1 h2) (OA _)
 have ne:∀b o,X.s₀.heap.get? b=ZA o->b≠e/\T≠ZA b:=λb o q=>⟨λz=>(by subst z;rw[heo]at q;cases q),λz=>(by rw[(hT b z).2]at q;cases q)⟩
 have fr:∀b,b∈(X.env::X.outer).filterMap (·.frame)->H b=ZB:=λb z=>I.M8 b (by rw[hst];exact z)
 have keepH:∀b u,H b≠ZB->s.heap.get? b=ZA u->h'.get? b=ZA u:=λb u hb q=>by
  refine g.keep b u (λz=>hb (fr b z)) (λz=>hb (by rw[z];exact he)) (λz=>hb (hT b z).1) q
 refine⟨I.ok,I.os,I.bare,⟨λb o q n hb hx=>?_,λb o q n hb hx=>?_,I.base.free,λb o q hx=>?_,I.base.tups,I.base.frzs,I.base.tbls⟩,?_,λx c z=>absurd z (hcl x c),I.free,I.freeC,λp hp'=>?_,λa o q=>?_,I.len⟩
 ·exact g.keep b o (λz=>((mem b).mp z).elim (out b o q) hb) (ne b o q).1 (ne b o q).2 (I.base.keep b o q n hb hx)
 ·obtain⟨sl,q1⟩:=I.base.slot b o q n hb hx
  obtain⟨sl',q2⟩:=g.slot b _ ((mem b).mpr (.inr hb)) q1;exact⟨sl',q2⟩
 ·obtain⟨o',q1⟩:=I.base.there b o q hx
  by_cases z:b∈(X.env::X.outer).filterMap (·.frame)
  ·obtain⟨sl,q2⟩:=g.slot b o' z q1
   exact⟨_,q2⟩
  ·exact⟨o',g.keep b o' z (ne b o q).1 (ne b o q).2 q1⟩
 ·obtain⟨m,⟨o,es,ep,ho,hd,r⟩,hl⟩:=I.loc
  obtain⟨sl,q2⟩:=g.slot X.env.locals o ((mem _).mpr (.inl rfl)) ho;refine⟨m,⟨_,es,ep,q2,hd,r⟩,λi x v a1 a2 a3=>?_⟩
  obtain⟨u,ru,lk⟩:=hl i x v a1 a2 a3;refine⟨u,ru,?_⟩
  rcases lk with z|⟨_,c,z,_⟩
  ·exact .inl z
  ·exact absurd z (hcl x c)
 ·obtain⟨b1,b2,b3,b4,b5⟩:=I.pin p hp'
  exact⟨g.keep p.1 p.2 (λz=>((mem _).mp z).elim b3 b4) (hp p hp').1 (hp p hp').2 b1,b2,b3,b4,b5⟩
 ·refine(I.hok a o q).Nc (λb u hb z=>keepH b u ?_ z) (λ_ z=>z) λ_ _ z=>z
  rcases hb with rfl|hb
  ·rw[q];simp
  ·rw[hb];simp
variable{N:ZE}{dd':Option ZE}{sn':List Str}
section
variable {t:Nat}
variable {bs:List NS}{sub:List NS}
variable {nm' q':Str}{N':ZE}{bm':List NS}{k0' k1' k2' k3' k5':Option NS}{newId':String}
def sM{Q:Bool->NV->Prop}(hC:h.get? C=ZA (Pq nm q C N bs bm hdct sn sub ab col dd k0 k1 k2 k3 k5 newId))(hD:h.get? D=ZA (Pq nm' q' D N' bs' bm' hdct' sn' sub' ab' col' dd' k0' k1' k2' k3' k5' newId'))
  (he:h.get? e=ZA oe) (hcls:oe.cls=.ref C) (hb:bm'.contains (.type "BaseException")=ZC) (hin:(Oc C::bm).contains (.ref D)=ZC) (hq:Q ZC ⟨h,g,d,t,os⟩):ZJ M A (excMatches (.ref e) (.ref D)) Q E ⟨h,g,d,t,os⟩:=by
 have hcB:(Oc D::bm').contains (.type "BaseException")=ZC:=by rw[Pd,hb,UX]
 have f:=tc_notTuple;unfold excMatches
 repeat (first| (with_reducible refine O0 he ?_;rw[hcls])|with_reducible refine O0 hD ?_| (with_reducible refine Qd hD ?_;rw[hcB])| (with_reducible refine Qd hC ?_;rw[hin])|wp_step)
 exact hq
end
abbrev u9(X:Cx)(e:ZE)(oe:Obj):Cx:={X with A:=X.A.mark (ZA (.ref e)),calm:=ZD,pn:=(e,oe)::X.pn,xe:=λ_ _=>False}
def o7(I:Inv X lm σ H s)(he:s.heap.get? e=ZA oe)(hH:H e=ZB)(hne:e≠X.env.locals)(hf:e∉X.fs)(hc:∀v,oe.data≠ .cell v):Inv (u9 X e oe) lm σ H s:=by
 have ok:=I.ok;refine⟨⟨ok.mod,ok.kind,ok.glob,ok.blt,ok.above,ok.inj,ok.has,ok.cab,(λz=>by cases z),?_,ok.stk,ok.exf,ok.bs,ok.bsz,ok.noex,ok.exfs,ok.funs,ok.frf⟩,I.os,I.bare,I.base,I.loc,I.cell,I.free,I.freeC,λp hp=>?_,I.hok,I.len⟩
 ·exact ok.frames
 ·rcases N0.mp (show p∈(e,oe)::(X.pn++lm)from hp)with z|z
  ·subst z;exact⟨he,hH,hne,hf,hc⟩
  ·exact I.pin p z
def Ad(ok:X.Ok)(I:Inv (u9 X e oe) lm σ H s):Inv X lm σ H s:=
 ⟨ok,I.os,I.bare,I.base,I.loc,I.cell,I.free,I.freeC,λp hp=>I.pin p (NR _ hp),I.hok,I.len⟩
def Inv.forget{tk:Nat}{m:V0}(I:Inv X lm σ H s)(hcl:∀x c,X.env.cells.lookup x≠ZA c)(hn:h'.Ns X.env.locals m)(hs:Rg X.env.locals s.heap h'):Inv X lm (Oi X.N.length ZB) H {s with heap:=h',toks:=tk}:=by
 have out:∀b o,X.s₀.heap.get? b=ZA o->b≠X.env.locals:=λb o q z=>by
  have h1:=N8 q
  have h2:=I.ok.above;rw[z]at h1;exact absurd (Of h1 h2) (OA _)
 have kp:∀b o,b≠X.env.locals->s.heap.get? b=ZA o->h'.get? b=ZA o:=λb o n q=>hs.extBut b o n q
 refine⟨I.ok,I.os,I.bare,⟨λb o q n hb hx=>kp b o (out b o q) (I.base.keep b o q n hb hx),λb o q n hb hx=>?_,I.base.free,λb o q hx=>?_,I.base.tups,I.base.frzs,I.base.tbls⟩,⟨m,hn,λi x v a1 a2 a3=>?_⟩,λx c z=>absurd z (hcl x c),I.free,I.freeC,λp hp=>?_,λa o q=>?_,by simp⟩
 ·obtain⟨sl,q1⟩:=I.base.slot b o q n hb hx
  exact⟨sl,kp b _ (out b o q) q1⟩
 ·obtain⟨o',q1⟩:=I.base.there b o q hx
  exact⟨o',kp b o' (out b o q) q1⟩
 ·rw[Po]at a2
  split at a2 <;> cases a2
 ·obtain⟨b1,b2,b3,b4,b5⟩:=I.pin p hp
  exact⟨kp p.1 p.2 b3 b1,b2,b3,b4,b5⟩
 ·have nl:∀b u,H b=ZA u->b≠X.env.locals:=λb u q z=>by rw[z,I.free]at q;cases q
  refine(I.hok a o q).Nc (λb u hb z=>kp b u ?_ z) (λ_ z=>z) λ_ _ z=>z
  rcases hb with rfl|hb
  ·exact nl _ _ q
  ·exact nl _ _ hb
def mO(X:Cx)(i:Nat)(suite:List ZF)(CE:ZE)(h:Str->Rs T):Prop:=
 ∀(c:Str)(C:ZE)(t:T),X.mg c=ZA (.ref C)->h c=.ok t->∃bm,OX X.K C bm/\(Oc C::bm).contains (.ref CE)=ZC ∧
  ∀(e:ZE)(oe:Obj)(ev:Array NS),oe.cls=.ref C->oe.data=.fields ev->∀(lm:V2)(s:NV)(σ:L2.St)(H:Hp)(O:Ow)(Q:VK),Inv (u9 X e oe) lm σ H s->H e=ZB->e∉nF X.stack->σ[i]?=ZA (ZA (.ref e))->(∀p,H p=ZB->¬ O p) →
   (∀v H',Same H H'->Rep X.K O H' t v->Q v H')->ZJ (ZK X.prog X.w) (u9 X e oe).A (execs suite X.env) (SP (u9 X e oe) lm {nx:=λ_ _=>False,rt:=Q}) (λ_ _=>False) s
def Inv.Nv(lm:V2)(I:Inv X lm σ H s):Inv {X with pn:=X.pn++lm} [] σ H s:=
 ⟨⟨I.ok.mod,I.ok.kind,I.ok.glob,I.ok.blt,I.ok.above,I.ok.inj,I.ok.has,I.ok.cab,I.ok.hd,I.ok.frames,I.ok.stk,I.ok.exf,I.ok.bs,I.ok.bsz,I.ok.noex,I.ok.exfs,I.ok.funs,I.ok.frf⟩,I.os,I.bare,I.base,I.loc,I.cell,I.free,I.freeC,λp hp=>I.pin p (by rw[Ou]at hp;exact hp),I.hok,I.len⟩
def Inv.Nu{pins1:V2}{xe:V1}(I:Inv {X with pn:=X.pn++lm,xe:=xe} pins1 σ H s):Inv X lm σ H s:=
 ⟨⟨I.ok.mod,I.ok.kind,I.ok.glob,I.ok.blt,I.ok.above,I.ok.inj,I.ok.has,I.ok.cab,I.ok.hd,I.ok.frames,I.ok.stk,I.ok.exf,I.ok.bs,I.ok.bsz,I.ok.noex,I.ok.exfs,I.ok.funs,I.ok.frf⟩,I.os,I.bare,I.base,I.loc,I.cell,I.free,I.freeC,λp hp=>I.pin p (Oy _ hp),I.hok,I.len⟩
def KA:OL "ValueError" =ZA (.type "ValueError"):=by decide+kernel
def Jq{en:Str}{p2:Pos}(hN:X.N[0]?=ZA en)(hv:lX X.env.scope en)(hp:(e,oe)∈X.pn)(hc:oe.cls=.ref C)(OC:OX X.K C bm)
  (hm:X.mg "isinstance" =ZB) (hmD:X.mg "ValueError" =ZB) (hg:Gl X "isinstance":=by rfl) (hgD:Gl X "ValueError":=by rfl) (hde:autoParam ((en == ("__debug__" : Str))=ZD) s_) (hce:autoParam ((en == ("__classdict__" : Str))=ZD) s_)
  (he:N5 [.Name en p1,.Name "ValueError" p2] X.env=(ZD,eval (.Name en p1) X.env)::N5 [.Name "ValueError" p2] X.env:=by rfl) (hpl:(backTo pos (N5 [.Name "ValueError" p2] X.env)).any (·.1)=ZD:=by rfl)
  (hs:N5 [.Name "ValueError" p2] X.env=(ZD,eval (.Name "ValueError" p2) X.env)::N5 [] X.env:=by rfl):
  PE X (.Call (.Name "isinstance" p) [.Name en p1,.Name "ValueError" p2] [] pos) (tIs e ZC):=by
 intro lm s σ H Q I ⟨hσ,q⟩;refine ON (gg I hg hm gi ?_ (by decide) (by decide))
 have hA:PA X [.Name en p1,.Name "ValueError" p2] (gX (pB 0) (gX (tC (.ty "ValueError")) vI)):=bz (eG hN hv hde hce) (bz (zK (v:=.ty "ValueError") hgD hmD KA rfl) d6 hs) he;refine PQ (bW (hA pos lm s σ H (λvs H'=>vs=[.ref e,.ty "ValueError"]/\H'=H) I ⟨.ref e,hσ,rfl,rfl⟩) λus s1 ⟨vs,H1,I1,r1,e1,e2⟩=>?_) he hpl
 subst e1;obtain⟨u,w',rfl,ru,rw'⟩:=vt r1;cases ru;cases rw';subst e2;exact DZ hp hc OC I1 q
def LV{ob:NS}{oe:Option ZE}{es:Array DictEntry}{oz:Array (Option NS)}(r:K.lookup N=ZA ⟨ob,oe,.dict es n,oz⟩)(s:(es.toList.all λe=>Co e.key)=ZC)
  (u0:Rf K N "__init__" =ZA ZB) (u1:Rf K N "__getattribute__" =ZA ZB) (u2:Rf K N "__getattr__" =ZA ZB) (u3:Rf K N "__class__" =ZA ZB):
  ∀h:ZH,K.In h->∃mN,h.Ns N mN/\∀n∈calmNames,mN n=ZB:=λh k=>by
 refine⟨nsFind es,⟨_,es,n,k _ _ r,rfl,λe he=>?_,λ_=>rfl⟩,λx hx=>?_⟩
 ·have:=Os.mp s e (by simpa using he)
  cases q:e.key <;> rw[q]at this <;> first|exact⟨_,_,rfl⟩|cases this
 ·have key:∀x,Rf K N x=ZA ZB->nsFind es x=ZB:=λx u=>by
   unfold Rf at u;rw[r]at u;simp only at u
   split at u
   ·cases u
   ·rename_i he
    unfold nsFind findBy;rw[<-Uc,he];rfl
  unfold calmNames at hx;simp only[N0,Pm,or_false]at hx;rcases hx with rfl|rfl|rfl|rfl
  ·exact key _ u0
  ·exact key _ u1
  ·exact key _ u2
  ·exact key _ u3
section
variable {bs:List NS}{sub:List NS}
variable {nm' q':Str}{N':ZE}{k0' k1' k2' k3' k5':Option NS}
def Gs(w:K.lookup C=ZA (Pq nm q C N bs rC hdct sn sub ab col dd k0 k1 k2 k3 k5 "ValueError.__new__"))(ns:∀h:ZH,K.In h->∃mN,h.Ns N mN/\∀n∈calmNames,mN n=ZB):OX K C rC:=⟨λh k=>by
 obtain⟨mN,h1,h2⟩:=ns h k;exact⟨nm,q,N,bs,hdct,sn,sub,ab,col,dd,k0,k1,k2,k3,k5,mN,k _ _ w,h1,h2,.base⟩⟩
def C6(w:K.lookup C=ZA (Pq nm q C N bs (.ref D::rC) hdct sn sub ab col dd k0 k1 k2 k3 k5 "ValueError.__new__"))(ns:∀h:ZH,K.In h->∃mN,h.Ns N mN/\∀n∈calmNames,mN n=ZB)
  (wD:K.lookup D=ZA (Pq nm' q' D N' bs' rC hdct' sn' sub' ab' col' dd' k0' k1' k2' k3' k5' "ValueError.__new__")) (nsD:∀h:ZH,K.In h->∃mN,h.Ns N' mN/\∀n∈calmNames,mN n=ZB):OX K C (.ref D::rC):=⟨λh k=>by
 obtain⟨mN,h1,h2⟩:=ns h k;obtain⟨mD,d1,d2⟩:=nsD h k;exact⟨nm,q,N,bs,hdct,sn,sub,ab,col,dd,k0,k1,k2,k3,k5,mN,k _ _ w,h1,h2,.own (k _ _ wD) d1 d2 .base⟩⟩
end
def HF(h:Room k A):A.depth+3<Q9:=by have:=h.dp;omega
end Tr
variable{Q:V1}
namespace L2
open PySem PySem.Spec PyProof.Rows
variable{y:V}
section
variable {κ:Type}[DecidableEq κ]
def iN(kvs:List (κ×V))(k:κ):Option V:=(kvs.find? λkv=>decide (kv.1=k)).map (·.2)
noncomputable def dH(kvs:List (κ×V))(k:κ)(v:V):List (κ×V):=
 if (kvs.any λkv=>decide (kv.1=k))=ZC then kvs.map (λkv=>if kv.1=k then(kv.1,v)else kv)else kvs++[(k,v)]
def Ca{k:κ}:iN ([]:List (κ×V)) k=ZB:=rfl
def gF{p:κ×V}{r:List (κ×V)}{k:κ}(e:p.1=k):iN (p::r) k=ZA p.2:=by simp[iN,Qb,e]
def gG{p:κ×V}{r:List (κ×V)}{k:κ}(e:¬ p.1=k):iN (p::r) k=iN r k:=by simp[iN,Qb,e]
theorem vA(k:κ):∀kvs:List (κ×V),(kvs.any λkv=>decide (kv.1=k))=(iN kvs k).isSome
 |[] =>rfl
 |p::r=>by
  rw[QH]
  by_cases e:p.1=k
  ·simp only[gF e,decide_eq_true e,UY,Ug]
  ·rw[gG e,decide_eq_false e,SI];exact vA k r
def hV(kvs:List (κ×V))(k:κ)(v:V):(dH kvs k v).length<=kvs.length+1:=by
 unfold dH;split
 ·rw[NW];omega
 ·rw[N3,NZ,Tb];omega
def RelO.Nr{o:Option V}{u:Option NS}(r:RelO o u):o.isSome=u.isSome:=by
 cases o with
 |none=>cases u with
  |none=>rfl
  |some _=>exact(show False from r).elim
 |some _=>cases u with
  |none=>exact(show False from r).elim
  |some _=>rfl
def RelO.getD{o:Option V}{u:Option NS}{d:V}{d':NS}(r:RelO o u)(rd:RelV d d'):RelV (o.getD d) (u.getD d'):=by
 cases o with
 |none=>cases u with
  |none=>exact rd
  |some _=>exact(show False from r).elim
 |some _=>cases u with
  |none=>exact(show False from r).elim
  |some _=>exact r
def KV.val{kvs:List (κ×V)}{vs:List (κ×NS)}(r:KV kvs vs)(k:κ):RelO (iN kvs k) (valueAt vs k):=by
 unfold KV at r
 induction r with
 |nil=>exact Qx
 |@cons p q ps qs h t ih=>
  obtain⟨h1,h2⟩:=h
  by_cases e:p.1=k
  ·have e':q.1=k:=h1.symm.trans e
   have b:valueAt (q::qs) k=ZA q.2:=by simp[valueAt,Qb,e']
   rw[gF e,b];exact h2
  ·have e':¬ q.1=k:=λz=>e (h1.trans z)
   have b:valueAt (q::qs) k=valueAt qs k:=by simp[valueAt,Qb,e']
   rw[gG e,b];exact ih
def KV.any{kvs:List (κ×V)}{vs:List (κ×NS)}(r:KV kvs vs)(k:κ):(kvs.any λkv=>decide (kv.1=k))=vs.any λkv=>decide (kv.1=k):=by
 unfold KV at r
 induction r with
 |nil=>rfl
 |cons h t ih=>rw[QH,QH,ih,h.1]
def KV.NB{kvs:List (κ×V)}{vs:List (κ×NS)}(r:KV kvs vs)(k:κ){u:NS}(ry:RelV y u):
  KV (kvs.map λkv=>if kv.1=k then(kv.1,y)else kv) (vs.map λkv=>if kv.1=k then(kv.1,u)else kv):=by
 unfold KV at r ⊢
 induction r with
 |nil=>exact .nil
 |@cons p q ps qs h t ih=>
  rw[NT,NT];refine .cons ?_ ih
  obtain⟨h1,h2⟩:=h
  by_cases e:p.1=k
  ·rw[if_pos e,if_pos (h1.symm.trans e)];exact⟨h1,ry⟩
  ·rw[if_neg e,if_neg (λz=>e (h1.trans z))];exact⟨h1,h2⟩
def KV.put{kvs:List (κ×V)}{vs:List (κ×NS)}(r:KV kvs vs)(k:κ){u:NS}(ry:RelV y u):KV (dH kvs k y) (stored vs k u):=by
 unfold dH stored;rw[r.any k]
 by_cases e:(vs.any λkv=>decide (kv.1=k))=ZC
 ·rw[if_pos e,if_pos e];exact r.NB k ry
 ·rw[if_neg e,if_neg e];exact Paired.snoc r ⟨rfl,ry⟩
def KV.length{kvs:List (κ×V)}{vs:List (κ×NS)}(r:KV kvs vs):kvs.length=vs.length:=SH r
end
def Ab{k:Key}{u:NS}(r:RelV (kV k) u):(cW P w).is k u=ZC:=by
 cases k with
 |inl i=>obtain⟨t,e⟩:=(show ∃t,u=PD i t from r);subst e;exact wR P w i t
 |inr x=>obtain⟨t,e⟩:=(show ∃t,u=PF x t from r);subst e;exact wQ P w x t
theorem sT:∀{ks:List Key}{us:List NS},Vals (ks.map kV) us->ItemsAre (cW P w) ks us
 |[],_,r=>by rw[S6]at r;cases r;exact .nil
 |k::ks,_,r=>by
  rw[NT]at r
  cases r with
  |cons h t=>exact .cons (Ab h) (sT t)
abbrev KT(H:Hp):List (List Key×V)->List (List Key×ZE×NS)->Prop:=VE λp q=>p.1=q.1/\H q.2.1=ZA (.tup (p.1.map kV))/\RelV p.2 q.2.2
variable{H:Hp}{kvs:List (List Key×V)}{xs:List (List Key×ZE×NS)}
def KT.val(r:KT H kvs xs)(k:List Key):RelO (iN kvs k) ((atKey xs k).map (·.2)):=by
 induction r with
 |nil=>exact Qx
 |@cons p q ps qs h t ih=>
  obtain⟨h1,_,h2⟩:=h
  by_cases e:p.1=k
  ·have e':q.1=k:=h1.symm.trans e
   have b:atKey (q::qs) k=ZA q.2:=by simp[atKey,Qb,e']
   rw[gF e,b];exact h2
  ·have e':¬ q.1=k:=λz=>e (h1.trans z)
   have b:atKey (q::qs) k=atKey qs k:=by simp[atKey,Qb,e']
   rw[gG e,b];exact ih
def KT.NB(r:KT H kvs xs)(k:List Key){u:NS}(ry:RelV y u):
  KT H (kvs.map λkv=>if kv.1=k then(kv.1,y)else kv) (xs.map (putAt k u)):=by
 induction r with
 |nil=>exact .nil
 |@cons p q ps qs h t ih=>
  rw[NT,NT];refine .cons ?_ ih
  obtain⟨h1,h2,h3⟩:=h;unfold putAt
  by_cases e:p.1=k
  ·rw[if_pos e,if_pos (h1.symm.trans e)];exact⟨h1,h2,ry⟩
  ·rw[if_neg e,if_neg (λz=>e (h1.trans z))];exact⟨h1,h2,h3⟩
variable{b:ZE}
def KT.put(r:KT H kvs xs)(k:List Key){u:NS}(hb:H b=ZA (.tup (k.map kV)))(ry:RelV y u):
  KT H (dH kvs k y) (storedH xs k b u):=by
 have e:(kvs.any λkv=>decide (kv.1=k))=(atKey xs k).isSome:=by
  rw[vA,(r.val k).Nr,Option.isSome_map]
 unfold dH storedH;rw[e]
 by_cases q:(atKey xs k).isSome=ZC
 ·rw[if_pos q,if_pos q];exact r.NB k ry
 ·rw[if_neg q,if_neg q];exact Paired.snoc r ⟨rfl,hb,ry⟩
variable{H':Hp}
def KT.keeps(r:KT H kvs xs)(ht:∀b ys,H b=ZA (.tup ys)->H' b=ZA (.tup ys)):KT H' kvs xs:=
 Paired.NC r λ_ _ z=>⟨z.1,ht _ _ z.2.1,z.2.2⟩
variable{a:ZE}
section
variable {h:ZH}
def v3{u:HO}(ok:HOk P w H h)(e:Rd H a u):ObjOk P w H h a u:=e.ok ok
def xt{kvs:List (Key×V)}(ok:HOk P w H h)(e:Rd H a (.dK kvs)):kvs.length<=ZI/\(a == Q4)=ZD/\∃vs,KV kvs vs/\h.DictOf (cW P w) a vs:=
 show ObjOk P w H h a (.dK kvs)from v3 ok e
def MD{kvs:List (Key×V)}(ok:HOk P w H h)(e:H a=ZA (.dK kvs)):kvs.length<=ZI/\(a == Q4)=ZD/\∃vs,KV kvs vs/\h.DictOf (cW P w) a vs:=xt ok (.inl e)
def qH{ks:List Key}(ok:HOk P w H h)(e:H a=ZA (.tup (ks.map kV))):(Sz (cW P w)).is h ks a:=by
 obtain⟨_,its,r,o,h1,h2,n,h3⟩:=(show ObjOk P w H h a (.tup (ks.map kV))from ok a _ e)
 exact⟨o,its.toArray,n,h1,h2,h3,by simpa using sT r⟩
def xp(ok:HOk P w H h)(e:Rd H a (.dT kvs)):kvs.length<=ZI/\(a == Q4)=ZD ∧
  ∃xs,KT H kvs xs/\h.DictOfH (Sz (cW P w)) a xs:=by
 obtain⟨z,y,xs,r,o,es,ep,h1,h2,h3,h4,h5⟩:=(show ObjOk P w H h a (.dT kvs)from v3 ok e)
 refine⟨z,y,xs,r,o,es,ep,h1,h2,h3,h4,λx hx=>?_,h5⟩
 have all:∀{l:List (List Key×V)}{m:List (List Key×ZE×NS)},KT H l m->∀x∈m,(Sz (cW P w)).is h x.1 x.2.1:=by
  intro l m q
  induction q with
  |nil=>intro x hx;exact nomatch hx
  |@cons p q ps qs hq t ih=>
   intro x hx;rcases N0.mp hx with e|hx
   ·subst e
    exact qH ok (by rw[<-hq.1];exact hq.2.1)
   ·exact ih x hx
 exact all r x hx
def EF(ok:HOk P w H h)(e:H a=ZA (.dT kvs)):kvs.length<=ZI/\(a == Q4)=ZD ∧
  ∃xs,KT H kvs xs/\h.DictOfH (Sz (cW P w)) a xs:=xp ok (.inl e)
end
def DGet(H:Hp)(a:ZE)(y:V)(r:Option V):Prop:=
 (∃kvs k,Rd H a (.dK kvs)/\y=kV k/\r=iN kvs k)\/∃kvs k b,Rd H a (.dT kvs)/\y=.ref b/\H b=ZA (.tup (k.map kV))/\r=iN kvs k
def DPut(H:Hp)(a:ZE)(y v:V)(H':Hp):Prop:=
 (∃kvs k,H a=ZA (.dK kvs)/\y=kV k/\kvs.length<ZI/\H'=upd H a (.dK (dH kvs k v))) ∨
 ∃kvs k b,H a=ZA (.dT kvs)/\y=.ref b/\H b=ZA (.tup (k.map kV))/\kvs.length<ZI/\H'=upd H a (.dT (dH kvs k v))
variable{k:List Key}
def DGet.t(e:H a=ZA (.dT kvs))(eb:H b=ZA (.tup (k.map kV))):DGet H a (.ref b) (iN kvs k):=.inr ⟨kvs,k,b,.inl e,rfl,eb,rfl⟩
def DPut.t{v:V}(e:H a=ZA (.dT kvs))(eb:H b=ZA (.tup (k.map kV)))(hl:kvs.length<ZI):
  DPut H a (.ref b) v (upd H a (.dT (dH kvs k v))):=.inr ⟨kvs,k,b,e,rfl,eb,hl,rfl⟩
variable{X:Cx}{h':ZH}{lm:V2}{σ:St}
section
variable {v:V}{u r:NS}{o:Option V}
def Inv.big(I:Inv X lm σ H s):Q4<s.heap.objs.size:=by
 have h:OJ<s.heap.objs.size:=(I.mod.glob.keeps I.bk).lt;exact Nat.lt_trans (by decide) h
def Br(hu:A.units+1<cLine)(I:Inv X lm σ H s)(g:DGet H a y (ZA v))(ry:RelV y u)(h:∀w' s',Inv X lm σ H s'->RelV v w'->Q w' s'):
  ZJ (ZK X.prog X.w) A (getItem (.ref a) u) Q E s:=by
 rcases g with⟨kvs,k,e,ey,l⟩|⟨kvs,k,b,e,ey,eb,l⟩
 ·subst ey
  obtain⟨z,hd,vs,rel,dd⟩:=xt I.hok e;obtain⟨w',hw,rw'⟩:=RelO.some_of (v:=v) (o:=valueAt vs k) (by rw[l];exact rel.val k)
  exact wpAny_getItem_of (Ab ry) dd.mapOf hw (h w' _ (I.tok _) rw')
 ·subst ey
  cases (show u=Oc b from ry)
  obtain⟨z,hd,xs,rel,dd⟩:=xp I.hok e;obtain⟨w',hw,rw'⟩:=RelO.some_of (v:=v) (o:=(atKey xs k).map (·.2)) (by rw[l];exact rel.val k)
  obtain⟨p,hp,hp2⟩:=QP.mp hw;refine wpAny_getItem_heap (Rt hu) (qH I.hok eb) dd hp ?_
  rw[hp2];exact h w' _ (I.tok _) rw'
def u7{ob:HO}(I:Inv X lm σ H s)(mu:MI (H a))(hs:Rg a s.heap h')(he:∃q,h'.get? a=ZA q)(new:ObjOk X.prog X.w (upd H a ob) h' a ob):
  Inv X lm σ (upd H a ob) {s with heap:=h',toks:=t'}:=
 I.write (x:=a) (e:=a) mu (.inl rfl) (λb q hb z=>(hs.2 b hb).trans z) he new
def Kr{kvs:List (Key×V)}{vs:List (Key×NS)}(z:kvs.length<=ZI)(hd:(a == Q4)=ZD)(rel:KV kvs vs)(dd:h'.DictOf (cW P w) a vs):
  ObjOk P w H' h' a (.dK kvs):=⟨z,hd,vs,rel,dd⟩
def Bq{Q:Unit->NV->Prop}(hu:A.units+1<cLine)(I:Inv X lm σ H s)(g:DPut H a y v H')(ry:RelV y u)(rv:RelV v r)(h:∀s',Inv X lm σ H' s'->Q () s'):
  ZJ (ZK X.prog X.w) A (setItem (.ref a) u r) Q E s:=by
 rcases g with⟨kvs,k,e,ey,l,eH⟩|⟨kvs,k,b,e,ey,eb,l,eH⟩
 ·subst ey eH
  obtain⟨z,hd,vs,rel,dd⟩:=MD I.hok e
  have hz:vs.length<=ZI:=by rw[<-rel.length];exact z
  have hl:(dH kvs k v).length<=ZI:=by have:=hV kvs k v;omega
  refine wpAny_setItem_pairs (hsz:=hz) (Ab ry) dd λh' dd' hs=>h _ ?_
  have he:∃q,h'.get? a=ZA q:=let ⟨q,_,_,hq,_⟩:=dd';⟨q,hq⟩
  exact u7 I (by rw[e];exact Qx) hs he (Kr hl hd (rel.put k rv) dd')
 ·subst ey eH
  cases (show u=Oc b from ry)
  obtain⟨z,hd,xs,rel,dd⟩:=EF I.hok e
  have hz:xs.length<=ZI:=by rw[<-SH rel];exact z
  have hl:(dH kvs k v).length<=ZI:=by have:=hV kvs k v;omega
  refine wpAny_setItem_heap (hsz:=hz) (Rt hu) (qH I.hok eb) dd λh' dd' hs=>h _ ?_
  obtain⟨q,es,ep,hq,h2,h3,h4,_,h5⟩:=dd';refine u7 I (by rw[e];exact Qx) hs ⟨q,hq⟩ ⟨hl,hd,_,(rel.put k eb rv).keeps λc ys ec=>?_,q,es,ep,hq,h2,h3,h4,h5⟩
  rw[aG (jR ec e (λz=>nomatch z))]
  exact ec
end
def BE(i:ZG):Prop:=∀ov iv,T7 i ZD ov iv=operate [ov,iv] (getItem ov iv)
variable{pos:Pos}{value:ZG}
def FE{env:Env}{slice:ZG}{T id:String}
  (hl:RB (.type T) "__getitem__" =pure (ZA (.builtin id))) (hs:BE slice)
  (h:ZJ (ZK prog w) A (eval value env) (λo s₁=>ZJ (ZK prog w) A (eval slice env) (λi s₂=>s₂.TypeIs o T/\ZJ (ZK prog w) A (getItem o i) Q E s₂) E s₁) E s):
  ZJ (ZK prog w) A (eval (.Subscript value slice pos) env) Q E s:=by
 refine Subscript_ (Pz h (λo s₁ h₁=>Pz h₁ (λi s₂ h₂=>?_) λ_ _ x=>x) λ_ _ x=>x)
 obtain⟨hT,h₂⟩:=h₂;unfold Ux;refine NY ?_
 rw[getitemInPython_of_ne hT.not_modules];refine NY (wpAny_specialOf hT hl ?_)
 have fin:ZJ (ZK prog w) A (T7 slice ZD o i) (λr s₃=>ZJ (ZK prog w) A (letTemporaryGo value o r >>= λ_=>pure r) Q E s₃) E s₂:=by
  rw[hs o i];exact wpAny_operating (Pz h₂ (λr s₃ h₃=>NY (wpAny_letTemporaryGo (Oe h₃))) λ_ _ x=>x)
 first
  |exact Oe (NY fin)
  |exact NY (Oe (NY fin))
  |exact NY fin
def xu{o:Option V}(I:Inv X lm σ H s)(g:DGet H a y o):s.TypeIs (.ref a) "dict":=by
 rcases g with⟨kvs,k,e,_,_⟩|⟨kvs,k,b,e,_,_,_⟩
 ·obtain⟨_,_,vs,_,dd⟩:=xt I.hok e
  exact dd.typeIs
 ·obtain⟨_,_,xs,_,dd⟩:=xp I.hok e
  exact dd.typeIs
def K5(td ty:TE):TE:=λσ H Q=>td σ H λx H1=>ty σ H1 λy H2=>∃a v,x=.ref a/\DGet H2 a y (ZA v)/\Q v H2
def K9(td ty tv:TE):TS:=λD σ H=>tv σ H λv H1=>td σ H1 λx H2=>ty σ H2 λy H3=>∃a H4,x=.ref a/\DPut H3 a y v H4/\D.nx σ H4
section
variable {o i e:ZG}{pos' tpos:Pos}{td ty tv:TE}
def zI(hu:X.A.units+1<cLine)(ho:PE X o td)(hi:PE X i ty)(hs:BE i):PE X (.Subscript o i pos) (K5 td ty):=by
 intro lm s σ H Q I h;refine FE PySem.F.slot_dict_getitem.lookup hs (bW (ho lm s σ H _ I h) λu s1 ⟨x,H1,I1,rx,q1⟩=>bW (hi lm s1 σ H1 _ I1 q1) λiv s2 hh_=>?_)
 obtain⟨y,H2,I2,ry,a,v,ex,g,q2⟩:=hh_;subst ex;obtain rfl:u=Oc a:=rx;exact⟨xu I2 g,Br hu I2 g ry λw' s3 I3 rw'=>⟨v,H2,I3,rw',q2⟩⟩
def zD(hu:X.A.units+1<cLine)(ho:PE X o td)(hi:PE X i ty)(hv:PE X value tv)(hs:OQ value (ZA (.Subscript o i pos')) pos.line X.env=pure ZD):
  PS X (.Assign [.Subscript o i pos'] value pos) (K9 td ty tv):=by
 intro lm s σ H D I h;refine wpAny_Assign_Subscript (bW (hv lm s σ H _ I h) λr s1 ⟨v,H1,I1,rv,q1⟩=>bW (ho lm s1 σ H1 _ I1 q1) λu s2 ⟨x,H2,I2,rx,q2⟩=>bW (hi lm s2 σ H2 _ I2 q2) λiv s3 ⟨y,H3,I3,ry,a,H4,ex,g,q3⟩=>?_) hs
 subst ex;obtain rfl:u=Oc a:=rx;exact Bq hu I3 g ry rv λs4 I4=>⟨σ,H4,I4,q3⟩
end
def EG(h:ZH)(hb:Q4<h.objs.size):ObjOk P w H (h.push {cls:=.type "dict",data:=.dict #[]}) h.objs.size (.dT []):=
 ⟨P9 _,beq_eq_false_iff_ne.mpr (P4 (Pr hb)),[],.nil,_,#[],0,Og _ rfl,⟨rfl,rfl,rfl⟩,rfl,rfl,Qt⟩
structure M1 (X:Cx)(o:ZG)(m:Str)(apos:Pos)(e:ZG)(cpos:Pos):Prop where
 base:Ox o m X.env (eval o X.env)=eval o X.env
 few:((backTo cpos (N5 [e] X.env)).all (λx=>!x.1)&&(Sh cpos (Q0 [] X.env)).all (λx=>x.1.isSome)
  &&decide (([e]:List ZG).length+([]:List Vz).length+(if ([]:List Vz).isEmpty then 0 else 1)<30))=ZC
 line:(apos.endLine == cpos.line)=ZC
 trees:backTo cpos (N5 [e] X.env)=[(ZD,eval e X.env)]
structure M2 (X:Cx)(o:ZG)(m:Str)(apos:Pos)(e f:ZG)(cpos:Pos):Prop where
 base:Ox o m X.env (eval o X.env)=eval o X.env
 few:((backTo cpos (N5 [e,f] X.env)).all (λx=>!x.1)&&(Sh cpos (Q0 [] X.env)).all (λx=>x.1.isSome)
  &&decide (([e,f]:List ZG).length+([]:List Vz).length+(if ([]:List Vz).isEmpty then 0 else 1)<30))=ZC
 line:(apos.endLine == cpos.line)=ZC
 trees:backTo cpos (N5 [e,f] X.env)=[(ZD,eval e X.env),(ZD,eval f X.env)]
def IsD(H:Hp)(a:ZE):Prop:=(∃kvs,Rd H a (.dK kvs))\/∃kvs,Rd H a (.dT kvs)
def Ka(I:Inv X lm σ H s)(d:IsD H a):
  s.TypeIs (.ref a) "dict"/\(∀b,Oc a=.ref b->∃ob,s.heap.get? b=ZA ob/\ob.dict=ZB)/\(a == Q4)=ZD:=by
 rcases d with⟨kvs,e⟩|⟨kvs,e⟩
 ·obtain⟨_,hd,vs,_,dd⟩:=xt I.hok e
  refine⟨dd.typeIs,λb q=>?_,hd⟩
  cases q;obtain⟨ob,_,_,h1,h2,_⟩:=dd;exact⟨ob,h1,h2.2.1⟩
 ·obtain⟨_,hd,xs,_,dd⟩:=xp I.hok e
  refine⟨dd.typeIs,λb q=>?_,hd⟩
  cases q;obtain⟨ob,_,_,h1,h2,_⟩:=dd;exact⟨ob,h1,h2.2.1⟩
section
variable {d:V}{u r:NS}{o:Option V}
def Ku(hu:A.units+1<cLine)(I:Inv X lm σ H s)(g:DGet H a y o)(ry:RelV y u)(h:∀w' s',Inv X lm σ H s'->RelV (o.getD .non) w'->Q w' s'):
  ZJ (ZK X.prog X.w) A (call (.builtin "dict.get") [.ref a,u]) Q E s:=by
 rcases g with⟨kvs,k,e,ey,l⟩|⟨kvs,k,b,e,ey,eb,l⟩
 ·subst ey
  obtain⟨z,hd,vs,rel,dd⟩:=xt I.hok e;refine call_meetsIn RE dd.typeIs SY (SB _ _) (meets_dict_get (cW X.prog X.w) a (Ab ry) hd) ⟨_,dd.mapOf,h _ _ (I.tok _) ?_⟩
  rw[l];exact(rel.val k).getD rfl
 ·subst ey
  cases (show u=Oc b from ry)
  obtain⟨z,hd,xs,rel,dd⟩:=xp I.hok e;refine call_meetsIn RE dd.typeIs SY (SB _ _) (meetsH_dict_get (Sz (cW X.prog X.w)) a b hd) ⟨Rt hu,k,xs,qH I.hok eb,dd,h _ _ (I.tok _) ?_⟩
  rw[l];exact(rel.val k).getD rfl
end
def IB(td ty:TE):TE:=λσ H Q=>td σ H λx H1=>∃a,x=.ref a/\IsD H1 a/\ty σ H1 λy H2=>∃o,DGet H2 a y o/\Q (o.getD .non) H2
section
variable {o e f:ZG}{apos cpos:Pos}{td ty tx:TE}
def C3(hu:X.A.units+1<cLine)(ho:PE X o td)(he:PE X e ty)(m:M1 X o "get" apos e cpos):PE X (.Call (.Attribute o "get" apos) [e] [] cpos) (IB td ty):=by
 intro lm s σ H Q I h;refine wpAny_Call_method m.base m.few m.line PySem.F.plainAttrs_dict RE PySem.F.type_dict_get (bW (ho lm s σ H _ I h) λu s1 hh_=>?_)
 obtain⟨x,H1,I1,rx,a,ex,d,q1⟩:=hh_;subst ex;obtain rfl:u=Oc a:=rx;obtain⟨t1,t2,_⟩:=Ka I1 d;refine⟨t1,t2,?_⟩
 rw[m.trees];refine QK rfl (Q6 (Rm (bW (he lm s1 σ H1 _ I1 q1) λiv s2 ⟨y,H2,I2,ry,ov,g,q2⟩=>Ry ?_)))
 exact Ku hu I2 g ry λw' s3 I3 rw'=>⟨_,H2,I3,rw',q2⟩
end
end L2
namespace Tr
open PySem PySem.Spec PyProof.Rows L2
variable{H:Hp}{a:ZE}{k:List Key}{kvs:List (List Key×V)}
def DGet.NJ{b:ZE}(e:Rd H a (.dT kvs))(eb:H b=ZA (.tup (k.map kV))):DGet H a (.ref b) (iN kvs k):=.inr ⟨kvs,k,b,e,rfl,eb,rfl⟩
def oK{k:Nat}(h:Room k A):A.units+1<cLine:=by have:=h.un;omega
variable{O:Ow}
theorem qI:∀{l:List T}{vs:List V}{k:List Key},qJ l=ZA k->Reps K O H l vs->vs=k.map kV
 |[],vs,k,h,r=>by cases Reps.Da.mp r;cases h;rfl
 |t::l,vs,k,h,r=>by
  obtain⟨v,ws,rfl,p,q⟩:=Reps.me.mp r;unfold qJ at h
  cases e1:HM t with
  |none=>rw[e1]at h;cases h
  |some a=>
   cases e2:qJ l with
   |none=>rw[e1,e2]at h;cases h
   |some b=>
    rw[e1,e2]at h;cases h;rw[qI e2 q,NT]
    congr 1
    cases t with
    |int i=>cases e1;exact Rep.AC.mp p
    |str x=>cases e1;exact Rep.GM.mp p
    |_=>cases e1
variable{v:V}
def iZ{y:T}(h:keyOf y=ZA k)(r:Rep K O H y v):∃b,v=.ref b/\H b=ZA (.tup (k.map kV)):=by
 cases y with
 |tup l=>
  obtain⟨a,vs,e1,_,e3,e4⟩:=Rep.Fk.mp r;rw[qI h e4]at e3
  exact⟨a,e1,e3⟩
 |_=>cases h
theorem qW:∀{ks ts:List T}{kvs:List (List Key×V)},ks.map keyOf=kvs.map (λp=>ZA p.1)->Reps K O H ts (kvs.map (·.2))->match oO ks ts k with
  |some t=>∃v,iN kvs k=ZA v/\Rep K O H t v
  |none=>iN kvs k=ZB
 |[],ts,kvs,h,r=>by
  cases kvs with
  |nil=>unfold oO;exact Ca
  |cons _ _=>cases h
 |k'::ks,ts,kvs,h,r=>by
  cases kvs with
  |nil=>cases h
  |cons p kvs=>
   rw[NT,NT]at h;injection h with h1 h2
   rw[NT]at r
   cases ts with
   |nil=>have:=Reps.Da.mp r;cases this
   |cons t ts=>
    obtain⟨v,ws,e,q1,q2⟩:=Reps.me.mp r;injection e with e1 e2
    subst e1 e2;unfold oO
    by_cases hk:keyOf k'=ZA k
    ·rw[if_pos hk]
     rw[h1]at hk;injection hk with hk
     exact⟨_,gF hk,q1⟩
    ·rw[if_neg hk]
     have hk2:¬ p.1=k:=λz=>hk (by rw[h1,z])
     rw[gG hk2];exact qW h2 q2
def ue [DecidableEq κ]{k:κ}{p:κ×V}{r:List (κ×V)}(h:¬ p.1=k):dH (p::r) k v=p::dH r k v:=by
 unfold dH;rw[QH,decide_eq_false h,SI]
 by_cases q:(r.any λkv=>decide (kv.1=k))=ZC
 ·rw[if_pos q,if_pos q,NT,if_neg h]
 ·rw[if_neg q,if_neg q];rfl
def uf [DecidableEq κ]{k:κ}{p:κ×V}{r:List (κ×V)}(h:p.1=k)(hn:∀q∈r,q.1≠k):dH (p::r) k v=(p.1,v)::r:=by
 unfold dH;rw[QH,decide_eq_true h,UY,if_pos rfl,NT,if_pos h]
 congr 1
 conv=>rhs;rw[<-Vr r]
 exact O6 λq hq=>if_neg (hn q hq)
theorem mI{kT vT:T}(hk:keyOf kT=ZA k)(hv:Rep K O H vT v):∀{ks ts:List T}{kvs:List (List Key×V)},ks.map keyOf=kvs.map (λp=>ZA p.1)->Reps K O H ts (kvs.map (·.2))->(kvs.map (·.1)).Nodup →
  (gV kT vT ks ts).1.map keyOf=(dH kvs k v).map (λp=>ZA p.1)/\Reps K O H (gV kT vT ks ts).2 ((dH kvs k v).map (·.2))
 |[],ts,kvs,h,r,_=>by
  cases kvs with
  |nil=>
   unfold gV;refine⟨?_,Reps.FS hv Reps.GE⟩
   simp[dH,hk]
  |cons _ _=>cases h
 |k'::ks,ts,kvs,h,r,hn=>by
  cases kvs with
  |nil=>cases h
  |cons p kvs=>
   rw[NT,NT]at h;injection h with h1 h2
   rw[NT]at r;rw[NT]at hn;obtain⟨n1,n2⟩:=On.mp hn
   cases ts with
   |nil=>have:=Reps.Da.mp r;cases this
   |cons t ts=>
    obtain⟨v',ws,e,q1,q2⟩:=Reps.me.mp r;injection e with e1 e2
    subst e1 e2;unfold gV
    by_cases hz:keyOf k'=keyOf kT
    ·rw[if_pos hz]
     have hp:p.1=k:=by rw[hz,hk]at h1;injection h1 with h1;exact h1.symm
     rw[uf hp λq hq z=>n1 (by rw[hp,<-z];exact List.mem_map_of_mem hq)]
     exact⟨by rw[NT,NT,h1,h2],Reps.FS hv q2⟩
    ·rw[if_neg hz]
     have hp:¬ p.1=k:=λz=>hz (by rw[h1,z,hk])
     obtain⟨a1,a2⟩:=mI hk hv h2 q2 n2;rw[ue hp];exact⟨by rw[NT,NT,h1,a1],Reps.FS q1 a2⟩
def Ho{xs:List (List Key×ZE×NS)}(rel:KT H kvs xs):kvs.map (·.1)=xs.map (·.1):=by
 induction rel with
 |nil=>rfl
 |cons h t ih=>rw[NT,NT,ih,h.1]
variable{X:Cx}
def xw{lm:V2}{σ:L2.St}(I:Inv X lm σ H s)(e:H a=ZA (.dT kvs)):(kvs.map (·.1)).Nodup/\kvs.length<=ZI:=by
 obtain⟨z,_,xs,rel,_,_,_,_,_,_,_,_,hn⟩:=EF I.hok e;rw[Ho rel];exact⟨hn,z⟩
variable{a b:ZG}{fa fb:V5}{pos:Pos}
def Lz(hu:X.A.units+1<cLine)(ha:cE X a fa)(hb:cE X b fb)(hs:autoParam (BE b) w_):cE X (.Subscript a b pos) (o2 bJ fa fb):=by
 refine PE.imp (zI hu ha hb hs) λσ H Q ⟨Z,O,E,hq⟩=>?_
 obtain⟨Z1,O1,E1,h1⟩:=aZ E hq;refine⟨Z1,O1,E1,Post.mono h1 λt H1 s1 q v r=>?_⟩
 obtain⟨t',r',s',E',q'⟩:=q v r;obtain⟨Z2,O2,E2,h2⟩:=aZ (f:=fb) E' q';refine⟨Z2,O2,E2,Post.mono h2 λt2 H2 s2 q2 v2 r2=>?_⟩
 obtain⟨t2',r2',s2',E2',q2'⟩:=q2 v2 r2
 have r'':=r'.same s2';unfold bJ at q2'
 split at q2'
 ·rename_i ks vs k hk
  split at q2'
  ·rename_i x hx
   obtain⟨a,kvs,e1,e2,e3,e4,e5⟩:=Rep.IR.mp r'';obtain⟨b,f1,f2⟩:=iZ hk r2'
   have g:=qW (k:=k) e4 e5;rw[hx]at g;obtain⟨w,g1,g2⟩:=g;exact⟨a,w,e1,by rw[f1,<-g1];exact DGet.NJ e3 f2,q2' H2 (Same.refl H2) w g2⟩
  ·exact q2'.elim
 ·exact q2'.elim
open PySem.SeqAt
variable{x:T}
def Dp(rx:ReV s x ux)(hu:A.units+60<cLine){l:List T}(hd:x.dep<=60\/deps l<=60)(r:ReVs s l us):
  ∃e:NS->Bool,(∀y∈us,EqAt A s y ux (e y))/\us.map e=l.map λt=>bj t x:=by
 classical
 have ex:∀y∈us,∃t∈l,ReV s t y:=λy hy=>by
  obtain⟨i,hi,rfl⟩:=QF hy
  have hl:=r.length
  have e1:l[i]?=ZA l[i]:=by simp
  obtain⟨u,q1,q2⟩:=r.get e1
  have:us[i]?=ZA us[i]:=by simp
  rw[this]at q1;cases q1;exact⟨l[i],PB _,q2⟩
 let e:NS->Bool:=λy=>decide (∃t∈l,ReV s t y/\bj t x=ZC)
 have dep:∀t∈l,t.dep<=60\/x.dep<=60:=λt ht=>by
  rcases hd with h|h
  ·exact .inr h
  ·obtain⟨i,hi,rfl⟩:=QF ht
   exact .inl (O4 (kn (i:=i) (by simp)) h)
 have uniq:∀y t t',ReV s t y->ReV s t' y->bj t x=bj t' x:=λy t t' z z'=>by
  rw[<-mM t,<-mM t',ReV.nf z z']
 have agree:∀y t,t∈l->ReV s t y->e y=bj t x:=λy t h z=>by
  show decide (∃t∈l,ReV s t y/\bj t x=ZC)=bj t x
  cases q:bj t x with
  |true=>exact decide_eq_true ⟨t,h,z,q⟩
  |false=>
   refine decide_eq_false ?_
   rintro ⟨t',h',z',q'⟩
   rw[<-uniq y t t' z z',q]at q';cases q'
 refine⟨e,λy hy=>?_,?_⟩
 ·obtain⟨t,h,z⟩:=ex y hy
  rw[agree y t h z];exact(GX 60 A s t x y ux (dep t h) hu z rx).1
 ·have go:∀(l':List T)(us':List NS),(∀t∈l',t∈l)->ReVs s l' us'->us'.map e=l'.map λy=>bj y x:=by
   intro l'
   induction l' with
   |nil=>intro us' _ r';rw[ReVs.Da.mp r'];rfl
   |cons t l' ih=>
    intro us' sub r';obtain⟨u,ws,rfl,p,q⟩:=ReVs.me.mp r';rw[NT,NT,ih ws (λt ht=>sub t (NR _ ht)) q,agree u t (sub t NU) p]
  exact go l us (λ_ h=>h) r
theorem qT:∀{l:List T}{n k:Nat},kS x l n=ZA k->n<=k/\(l.map λt=>bj t x)[k - n]?=ZA ZC/\∀m,m<k - n->(l.map λt=>bj t x)[m]?=ZA ZD
 |[],n,k,h=>by cases h
 |t::l,n,k,h=>by
  unfold kS at h
  cases q:bj t x with
  |true=>
   rw[q,if_pos rfl]at h;cases h;refine⟨Ob _,?_,λm hm=>by omega⟩
   rw[Tc,NT,q];rfl
  |false=>
   rw[q,if_neg (by decide)]at h
   obtain⟨h1,h2,h3⟩:=qT h
   have e:k - n=(k - (n+1))+1:=by omega
   refine⟨by omega,?_,λm hm=>?_⟩
   ·rw[e,NT,Px];exact h2
   ·cases m with
    |zero=>rw[NT,q];rfl
    |succ m=>rw[NT,Px];exact h3 m (by omega)
section
variable {apos cpos:Pos}
def CJ(hu:X.A.units+61<cLine)(ha:cE X a fa)(hb:cE X b fb)(hn:bp b=ZC:=by rfl)
  (hbase:Ox a "index" X.env (eval a X.env)=eval a X.env:=by rfl) (hline:(apos.endLine == cpos.line)=ZC:=by rfl):cE X (.Call (.Attribute a "index" apos) [b] [] cpos) (oL hI fa fb):=by
 have hs:N5 [b] X.env=(ZD,eval b X.env)::N5 [] X.env:=a9 hn;intro lm s σ H Q I ⟨Z,O,E,hq⟩;refine S2 hbase (by rw[hs];rfl) hline rfl (bW (ha lm s σ H _ I (aZ E hq)) λv s1 hh_=>?_)
 obtain⟨x,H1,I1,r1,t,rt,s',E',q1⟩:=hh_
 cases t with
 |lst l=>
  obtain⟨c,vs,e1,e2,e3,e4⟩:=Rep.Do.mp rt;subst e1;obtain rfl:v=Oc c:=r1;obtain⟨h1,h2⟩:=xX I1 (show RelV (.ref c) (.ref c)from rfl) (.inl ⟨rfl,vs,SqL.of e3⟩)
  refine⟨_,_,Pn,SC,SD,h1,h2,?_⟩
  rw[hs];refine QK rfl (Q6 (Rm (bW (hb lm s1 σ H1 _ I1 (aZ (f:=fb) E' q1)) λu s2 ⟨y,H2,I2,r2,t2,rt2,s'',E'',q2⟩=>Ry ?_)))
  unfold hI at q2
  split at q2
  ·rename_i l' heq
   cases heq
   split at q2
   ·rename_i hd3
    obtain⟨hd,hnx,hny⟩:=hd3
    split at q2
    ·rename_i k hk
     have rv:=Rep.val I2 (show(T.lst l).nd=ZC by unfold T.nd;exact hny) (rt.same s'') (show RelV (.ref c) (.ref c)from rfl)
     unfold ReV at rv;obtain⟨c',us,ec,hl,rs⟩:=rv;cases ec;obtain⟨⟨cls,dd,data,sl⟩,ho,hc,n,hdd⟩:=id hl;simp only at hc hdd;subst hc hdd;obtain⟨e,he,ha⟩:=Dp (A:=X.A.in1) (Rep.val I2 hnx rt2 r2) (by show X.A.units+1+60<cLine;omega) hd rs
     obtain⟨_,k1,k2⟩:=qT hk;rw[Td]at k1 k2;rw[<-ha]at k1 k2
     have hkl:k<us.length:=by have:=(N1.mp k1).1;rwa [NW]at this
     have hz:us.length<=ZI:=by
      have z:=(I2.Na (s'' _ _ e3)).1
      have h3:=rs.length
      have h4:=e4.length;omega
     refine Q5 UH ⟨_,ho,rfl⟩ Ui (T2 _ _) (list_indexAt c us.toArray n dd sl u e k (by simpa using hkl) (by rw[QY]at hz;omega) ?_ ?_) ⟨ho,λy hy=>he y (by simpa using hy),?_⟩
     ·have:=(N1.mp k1).2
      rw[SR]at this
      simpa using this
     ·intro m hm hmk
      have:=(N1.mp (k2 m hmk)).2
      rw[SR]at this
      simpa using this
     ·exact⟨.int _,H2,I2.tok _,⟨_,rfl⟩,q2 H2 (Same.refl H2) _ (Rep.Gc _)⟩
    ·exact q2.elim
   ·exact q2.elim
  ·rename_i hno
   exact(hno l rfl).elim
 |_=>exact q1.elim
def Jg(hu:X.A.units+1<cLine)(ha:cE X a fa)(hb:cE X b fb)(hn:bp b=ZC:=by rfl)
  (hbase:Ox a "get" X.env (eval a X.env)=eval a X.env:=by rfl) (hline:(apos.endLine == cpos.line)=ZC:=by rfl):cE X (.Call (.Attribute a "get" apos) [b] [] cpos) (oD jv fa fb):=by
 have hs:N5 [b] X.env=(ZD,eval b X.env)::N5 [] X.env:=a9 hn;refine PE.imp (C3 hu ha hb ⟨hbase,by rw[hs];rfl,hline,by rw[hs];rfl⟩) λσ H Q ⟨Z,O,E,hq⟩=>?_
 obtain⟨Z1,O1,E1,h1⟩:=aZ E hq;refine⟨Z1,O1,E1,Post.mono h1 λt H1 s1 q v r=>?_⟩
 obtain⟨t',r',s',E',q'⟩:=q v r
 cases t' with
 |dct ks vs=>
  obtain⟨c,kvs,e1,e2,e3,e4,e5⟩:=Rep.IR.mp r';refine⟨c,e1,.inr ⟨kvs,e3⟩,?_⟩
  obtain⟨Z2,O2,E2,h2⟩:=aZ (f:=fb) E' q';refine⟨Z2,O2,E2,Post.mono h2 λt2 H2 s2 q2 v2 r2=>?_⟩
  obtain⟨t2',r2',s2',E2',q2'⟩:=q2 v2 r2;unfold jv at q2'
  split at q2'
  ·rename_i ks' vs' k heq hk
   cases heq;obtain⟨b,f1,f2⟩:=iZ hk r2'
   have g:=qW (k:=k) e4 (e5.same s2');refine⟨iN kvs k,by rw[f1];exact DGet.NJ (Rd.Nx (P:=lq) (SameO.of s2') (λz=>z) e3) f2,?_⟩
   cases hx:oO ks vs k with
   |some z=>
    rw[hx]at g q2';obtain⟨w,g1,g2⟩:=g;rw[g1]
    exact q2' H2 (Same.refl H2) w g2
   |none=>
    rw[hx]at g q2';rw[g];exact q2' H2 (Same.refl H2) .non Rep.Nq
  ·exact q2'.elim
 |_=>exact q'.elim
end
section
variable {c:ZG}{fc:V5}{p2 p3 p4:Pos}{x:Str}
def IQ(i:Nat)(hu:X.A.units+1<cLine)(hb:cE X b fb)(hc:cE X c fc)(hN:X.N[i]?=ZA x:=by rfl)(hv:autoParam (lX X.env.scope x) u_)
  (hd:autoParam ((x == ("__debug__" : Str))=ZD) s_) (hcd:autoParam ((x == ("__classdict__" : Str))=ZD) s_)
  (hs:OQ c (ZA (.Subscript (.Name x p2) b p3)) pos.line X.env=pure ZD:=by rfl):pj X (.Assign [.Subscript (.Name x p2) b p3] c pos) (AM i fb fc):=by
 intro lm s σ H D I ⟨Z,B,M,E,h⟩;refine zD hu (eG hN hv hd hcd) hb hc hs lm s σ H D I ?_
 unfold AM at h
 split at h
 ·rename_i ks vs hl
  obtain⟨v0,e1,d,kvs,rfl,hM,e3,e4,e5⟩:=E.env.own i _ hl;obtain⟨nd,nz⟩:=xw I e3;refine⟨Z,OO B M,E.o,?_⟩
  cases q:fc Z with
  |bad=>rw[q]at h;exact h.elim
  |err c=>rw[q]at h;exact PostF.xa h
  |ok vT=>
   rw[q,ay]at h;intro H1 s1 v r;refine⟨.ref d,e1,Z,OO B M,(E.same s1).o,?_⟩
   have h1:=h.later (SameO.of s1) (P1:=M.u) λa z=>.inl z
   cases q2:fb Z with
   |bad=>rw[q2]at h1;exact h1.elim
   |err c=>rw[q2]at h1;exact PostF.xa h1
   |ok kT=>
    rw[q2,ay]at h1;intro H2 s2 y ry
    cases q3:keyOf kT with
    |none=>rw[q3]at h1;exact h1.elim
    |some k=>
     rw[q3]at h1
     have h2:=h1.later (SameO.of s2) (P1:=M.u) λa z=>.inl z
     have hlen:ks.length=kvs.length:=by have:=congrArg Pb e4;simpa using this
     by_cases hz:ks.length<1000
     ·simp only[if_pos hz]at h2
      obtain⟨kb,f1,f2⟩:=iZ q3 ry
      have e3':=s2 _ _ (s1 _ _ e3);obtain⟨g1,g2⟩:=mI q3 (r.same s2) e4 ((e5.same s1).same s2) nd;refine⟨d,upd H2 d (.dT (dH kvs k v)),rfl,by rw[f1];exact DPut.t e3' f2 (by rw[QY];omega),?_⟩
      have sm:SameO (M i) H2 (upd H2 d (.dT (dH kvs k v))):=λc u e nb=>by rw[aG (λz=>nb ((hM c).mpr z))];exact e
      obtain⟨g3,g4⟩:=((E.same s1).same s2).put (o':=.dct (gV kT vT ks vs).1 (gV kT vT ks vs).2) hl e1 sm ⟨d,_,rfl,hM,aJ,g1,g2.move (P:=M i) (λa z=>.inl (.inr ⟨i,z⟩)) (λa z=>.inl z) sm⟩
      exact h2 σ _ M g4 g3 λc z=>.inl z
     ·simp only[if_neg hz]at h2
      exact h2.elim
 ·exact h.elim
theorem vz:∀{kvs:List (List Key×V)}{as:List ZE}{v:V},kvs.map (·.2)=as.map V.ref->iN kvs k=ZA v->∃b∈as,v=.ref b
 |[],as,v,_,h=>by cases h
 |p::kvs,as,v,e,h=>by
  cases as with
  |nil=>cases e
  |cons b0 bs=>
   rw[NT,NT]at e;injection e with e1 e2
   by_cases hk:p.1=k
   ·rw[gF hk]at h
    cases h;exact⟨b0,NU,e1⟩
   ·rw[gG hk]at h
    obtain⟨b,hb,e⟩:=vz e2 h;exact⟨b,NR _ hb,e⟩
theorem vY{r:List T×List T}:∀{ks:List T}{rows:List (List T×List T)}{kvs:List (List Key×V)}{as:List ZE},ks.map keyOf=kvs.map (λp=>ZA p.1)->kvs.map (·.2)=as.map V.ref->RowsR K O H rows as->rK ks rows k=ZA r →
  ∃b kv,iN kvs k=ZA (.ref b)/\b∈as/\H b=ZA (.dT kv)/\r.1.map keyOf=kv.map (λp=>ZA p.1)/\Reps K O H r.2 (kv.map (·.2))
 |[],rows,kvs,as,h1,h2,h3,h=>by unfold rK at h;cases h
 |k'::ks,rows,kvs,as,h1,h2,h3,h=>by
  cases rows with
  |nil=>unfold rK at h;cases h
  |cons r0 rows=>
   cases kvs with
   |nil=>cases h1
   |cons p kvs=>
    rw[NT,NT]at h1;injection h1 with h1 h1'
    obtain⟨b0,bs,kv0,rfl,e2,e3,e4,e5⟩:=h3;rw[NT,NT]at h2;injection h2 with h2 h2'
    unfold rK at h
    by_cases hk:keyOf k'=ZA k
    ·rw[if_pos hk]at h
     cases h;rw[h1]at hk;injection hk with hk
     exact⟨b0,kv0,by rw[gF hk,h2],NU,e2,e3,e4⟩
    ·rw[if_neg hk]at h
     have hk2:¬ p.1=k:=λz=>hk (by rw[h1,z])
     obtain⟨b,kv,g1,g2,g3⟩:=vY h1' h2' e5 h;exact⟨b,kv,by rw[gG hk2];exact g1,NR _ g2,g3⟩
theorem vU{H':Hp}{xr:List T×List T}{b:ZE}{kv':List (List Key×V)}(hO:O b)(hS:SameO (λc=>c=b) H H')(hb:H' b=ZA (.dT kv'))(hx1:xr.1.map keyOf=kv'.map (λp=>ZA p.1))(hx2:Reps K O H' xr.2 (kv'.map (·.2))):
  ∀{ks:List T}{rows:List (List T×List T)}{kvs:List (List Key×V)}{as:List ZE},ks.map keyOf=kvs.map (λp=>ZA p.1)->kvs.map (·.2)=as.map V.ref->RowsR K O H rows as->as.Nodup->iN kvs k=ZA (.ref b)->RowsR K O H' (rJ k xr ks rows) as
 |[],rows,kvs,as,h1,h2,h3,hn,h=>by
  cases kvs with
  |nil=>cases h
  |cons _ _=>cases h1
 |k'::ks,rows,kvs,as,h1,h2,h3,hn,h=>by
  have inO:∀a,a=b->O a\/Nw K H a:=λa z=>.inl (z▸hO)
  cases kvs with
  |nil=>cases h1
  |cons p kvs=>
   rw[NT,NT]at h1;injection h1 with h1 h1'
   cases rows with
   |nil=>unfold RowsR at h3;subst h3;cases h2
   |cons r0 rows=>
    obtain⟨b0,bs,kv0,rfl,e2,e3,e4,e5⟩:=h3;rw[NT,NT]at h2;injection h2 with h2 h2'
    obtain⟨n1,n2⟩:=On.mp hn;unfold rJ
    by_cases hk:keyOf k'=ZA k
    ·rw[if_pos hk]
     rw[h1]at hk;injection hk with hk
     rw[gF hk,h2]at h;cases h;exact⟨b,bs,kv',rfl,hb,hx1,hx2,e5.move (P:=λc=>c=b) inO (λa z=>.inl z) hS λc hc z=>n1 (z▸hc)⟩
    ·rw[if_neg hk]
     have hk2:¬ p.1=k:=λz=>hk (by rw[h1,z])
     rw[gG hk2]at h;obtain⟨b',hb',e'⟩:=vz h2' h;cases e'
     have hne:b0≠b:=λz=>n1 (z▸hb')
     exact⟨b0,bs,kv0,rfl,hS _ _ e2 hne,e3,e4.move (P:=λc=>c=b) inO (λa z=>.inl z) hS,vU hO hS hb hx1 hx2 h1' h2' e5 n2 h⟩
def FW(i:Nat)(hu:X.A.units+1<cLine)(ha:cE X a fa)(hb:cE X b fb)(hc:cE X c fc)(hsl:autoParam (BE a) w_)(hN:X.N[i]?=ZA x:=by rfl)(hv:autoParam (lX X.env.scope x) u_)
  (hd:autoParam ((x == ("__debug__" : Str))=ZD) s_) (hcd:autoParam ((x == ("__classdict__" : Str))=ZD) s_)
  (hs:OQ c (ZA (.Subscript (.Subscript (.Name x p2) a p3) b p4)) pos.line X.env=pure ZD:=by rfl):pj X (.Assign [.Subscript (.Subscript (.Name x p2) a p3) b p4] c pos) (jl i fa fb fc):=by
 intro lm s σ H D I ⟨Z,B,M,E,h⟩;refine zD hu (zI hu (eG hN hv hd hcd) ha hsl) hb hc hs lm s σ H D I ?_
 unfold jl at h
 split at h
 ·rename_i ks rows hl
  obtain⟨v0,e1,d,kvs,as,rfl,hM,na,nas,e5,e6,e7,e8⟩:=E.env.own i _ hl;refine⟨Z,OO B M,E.o,?_⟩
  cases q:fc Z with
  |bad=>rw[q]at h;exact h.elim
  |err c=>rw[q]at h;exact PostF.xa h
  |ok vT=>
   rw[q,ay]at h;intro H1 s1 v r;refine⟨.ref d,e1,Z,OO B M,(E.same s1).o,?_⟩
   have h1:=h.later (SameO.of s1) (P1:=M.u) λa z=>.inl z
   cases q2:fa Z with
   |bad=>rw[q2]at h1;exact h1.elim
   |err c=>rw[q2]at h1;exact PostF.xa h1
   |ok aT=>
    rw[q2,ay]at h1;intro H2 s2 y ry
    have h2:=h1.later (SameO.of s2) (P1:=M.u) λa z=>.inl z
    have E2:=(E.same s1).same s2
    have s12:=s1.trans s2
    split at h2
    ·rename_i ka rr hk
     obtain⟨ka',q3,hk⟩:=Option.bind_eq_some_iff.mp hk;obtain⟨r',q4,hk⟩:=QP.mp hk;cases hk;obtain⟨rb,kv,g1,g2,g3,g4,g5⟩:=vY e6 e7 e8 q4;obtain⟨ndr,nzr⟩:=xw I g3;obtain⟨ab,f1,f2⟩:=iZ q3 ry;refine⟨d,.ref rb,rfl,by rw[f1,<-g1];exact DGet.t (s12 _ _ e5) f2,Z,OO B M,E2.o,?_⟩
     cases q5:fb Z with
     |bad=>rw[q5]at h2;exact h2.elim
     |err c=>rw[q5]at h2;exact PostF.xa h2
     |ok bT=>
      rw[q5,ay]at h2;intro H3 s3 y2 ry2
      have h3:=h2.later (SameO.of s3) (P1:=M.u) λa z=>.inl z
      have s13:=s12.trans s3
      have E3:=E2.same s3
      have hlen:rr.1.length=kv.length:=by have:=congrArg Pb g4;simpa using this
      by_cases hz:(keyOf bT).isSome=ZC/\rr.1.length<1000
      ·rw[if_pos hz]at h3
       obtain⟨kb,q6⟩:=Ri.mp hz.1;obtain⟨bb,f3,f4⟩:=iZ q6 ry2;obtain⟨u1,u2⟩:=mI q6 ((r.same s2).same s3) g4 (g5.same s13) ndr;refine⟨rb,upd H3 rb (.dT (dH kv kb v)),rfl,by rw[f3];exact DPut.t (s13 _ _ g3) f4 (by rw[QY];omega),?_⟩
       have mrb:M i rb:=(hM rb).mpr (.inr g2)
       have hOb:OO B M rb:=.inr ⟨i,mrb⟩
       have sm1:SameO (λc=>c=rb) H3 (upd H3 rb (.dT (dH kv kb v))):=λc u e nb=>by rw[aG nb];exact e
       have sm:SameO (M i) H3 (upd H3 rb (.dT (dH kv kb v))):=λc u e nb=>sm1 c u e λz=>nb (z▸mrb)
       have inO:∀a,a=rb->OO B M a\/Nw X.K H3 a:=λa z=>.inl (z▸hOb)
       have dne:d≠rb:=λz=>na (z▸g2)
       obtain⟨g6,g7⟩:=E3.put (o':=.dd ks (rJ ka (gV bT vT rr.1 rr.2) ks rows)) hl e1 sm ⟨d,kvs,as,rfl,hM,na,nas,sm1 _ _ (s13 _ _ e5) dne,e6,e7,vU hOb sm1 aJ u1 (u2.move (P:=λc=>c=rb) inO (λa z=>.inl z) sm1) e6 e7 (e8.same s13) nas g1⟩
       exact h3 σ _ M g7 g6 λc z=>.inl z
      ·rw[if_neg hz]at h3
       exact h3.elim
    ·exact h2.elim
 ·exact h.elim
end
end Tr
namespace PySem
open Sem (wp)
namespace F
def lk_list_keys:RB (.type "list") "keys" =pure ZB:=by rw[Rr,Qo];kernel_rfl
def lk_list_getattr:RB (.type "list") "__getattr__" =pure ZB:=by rw[Rr,Qo];kernel_rfl
end F
variable{tk:Tok}
section
variable {h:ZH}{g:Array Uo}{d:Drawn}{t:Nat}{a:ZE}{its:Array NS}
def oH{Q:Fin->NV->Prop}(hx:h.get? a=ZA {cls:=.type "list",data:=.seq its n})(hh:A.handled=ZB)
  (hq:∀h' tk' e,Vs h h' e (.ref a) "keys"->E (.ref e) ⟨h',g,d,tk',os⟩):
  ZJ (ZK prog w) A (Builtin.«object.__getattribute__» ⟨[.ref a,.str "keys" tk],[]⟩) Q E ⟨h,g,d,t,os⟩:=by
 have hT:(⟨h,g,d,t,os⟩:NV).TypeIs (.ref a) "list":=⟨_,hx,rfl⟩
 have f4:=F.lk_list_keys
 repeat (any_goals (first|assumption|wp_step))
 exact wpAny_raiseAttrError hh (λh' tk e hx=>hq h' tk e hx) (attrMsg_fits (by decide+kernel) (by rw[QY];decide))
def qF(hx:h.get? a=ZA {cls:=.type "list",data:=.seq its n})(hh:A.handled=ZB)
  (hq:∀h' tk' e,Vs h h' e (.ref a) "keys"->R (.error (.ref e)) ⟨h',g,d,tk',os⟩):
  ZL (ZK prog w) A (.call (.builtin "list.__getattribute__") ⟨[.ref a,.str "keys" tk],[]⟩) R ⟨h,g,d,t,os⟩:=
 RU QB.plain F.entry_list_ga (QB.check _ _ _ _ _ _ _ _ (show(⟨h,g,d,t,os⟩:NV).TypeIs (.ref a) "list" from⟨_,hx,rfl⟩) (F.args_list_getattribute_2 _ _) (oH hx hh hq))
def qG{Q:Option NS->NV->Prop}(hx:h.get? a=ZA {cls:=.type "list",data:=.seq its n})(hh:A.handled=ZB)
  (hq:∀h' tk',(∀b o,h.get? b=ZA o->h'.get? b=ZA o)->Q ZB ⟨h',g,d,tk',os⟩):ZJ (ZK prog w) A (getAttr? (.ref a) "keys") Q E ⟨h,g,d,t,os⟩:=by
 have hT:∀tk,(⟨h,g,d,tk,os⟩:NV).TypeIs (.ref a) "list":=λ_=>⟨_,hx,rfl⟩
 have f1:=sub_AttributeError
 have f2:=QB.lookup
 have f3:=QB.bind (.ref a)
 have f5:=F.lk_list_getattr;unfold getAttr? getAttrBy? getAttrBy
 repeat (any_goals (first|assumption|exact hT _|wp_step))
 refine qF hx hh λh' tk' e hx'=>?_
 obtain⟨t',u',he⟩:=hx'.there
 repeat (any_goals (first|assumption|exact hT _|wp_step))
 exact hq _ _ hx'.keeps
end
end PySem
namespace PySem.F
def entry_dict_update_loop:entryFor table "dict.update.loop" =ZA Builtin.«dict.update.loop»:=entryFor_of_tree (by kernel_rfl)
def plain_dict_update_loop:plainId "dict.update.loop" =ZC:=by decide+kernel
end PySem.F
namespace Tr
open PySem PySem.Spec PyProof.Rows L2
def fE(kvs:List (List Key×V)):List (List Key×V)->List (List Key×V)
 |[] =>kvs
 |p::ps=>fE (dH kvs p.1 p.2) ps
def PairsAt(H:Hp):List V->List (List Key×V)->Prop
 |[],ps=>ps=[]
 |x::xs,ps=>∃b kb p r,ps=p::r/\x=.ref b/\H b=ZA (.tup [.ref kb,p.2])/\H kb=ZA (.tup (p.1.map kV))/\PairsAt H xs r
variable{H:Hp}{d:ZE}{kvs:List (List Key×V)}
theorem PairsAt.upd{o:HO}(hd:H d=ZA (.dT kvs)):∀{xs:List V}{ps:List (List Key×V)},PairsAt H xs ps->PairsAt (L2.upd H d o) xs ps
 |[],_,h=>h
 |x::xs,_,⟨b,kb,p,r,e1,e2,e3,e4,e5⟩=>⟨b,kb,p,r,e1,e2,by rw[aG (jR e3 hd (λz=>nomatch z))];exact e3,by rw[aG (jR e4 hd (λz=>nomatch z))];exact e4,e5.upd hd⟩
def tL{a b:HO}:upd (upd H d a) d b=upd H d b:=by
 funext c
 by_cases h:c=d
 ·rw[h,aJ,aJ]
 ·rw[aG h,aG h,aG h]
variable{X:Cx}{lm:V2}{xs:List V}{σ:L2.St}
section
variable {res:NS}{R:TR->NV->Prop}{l it:ZE}
def Bp(hh:A.handled=ZB)(hu:A.units+3<cLine):∀(k i:Nat)(s:NV)(H:Hp)(kvs ps:List (List Key×V)),xs.length - i=k->i<=xs.length->H l=ZA (.lst xs)->H d=ZA (.dT kvs)->kvs.length+(xs.length - i)<=1000->Inv X lm σ H s->s.heap.IsListIter it l i->rk X lm H it->PairsAt H (xs.drop i) ps →
  (∀s',Inv X lm σ (upd H d (.dT (fE kvs ps))) s'->R (.ok (.ret res)) s')->ZL (ZK X.prog X.w) A (.builtin "dict.update.loop" ⟨[.ref d,.ref it,rawInt i,res],[]⟩) R s:=by
 intro k
 induction k with
 |zero=>
  intro i s H kvs ps hk hi hl hd hz I hit hf hp hR;refine Tw F.entry_dict_update_loop ?_
  rw[TF F.plain_dict_update_loop _];obtain⟨z,its,n,r,hlen,e⟩:=I.Na hl
  have hL:s.heap.IsList l its.toArray:=⟨_,e,rfl,n,rfl⟩
  show ZJ _ A.in1 (pyNext (.ref it) >>= _) _ _ s
  refine NY (Ts hh hit hL (by simp;omega) λh' hm=>?_)
  show ZJ _ _ (Builtin.Dict.addKeywords d [] >>= _) _ _ _
  refine NY (Oe (Oe ?_))
  have hnil:xs.drop i=[]:=Rv (by omega)
  rw[hnil]at hp;unfold PairsAt at hp;subst hp
  have e2:upd H d (.dT (fE kvs []))=H:=by
   funext b
   by_cases hb:b=d
   ·rw[hb,aJ,hd];rfl
   ·rw[aG hb]
  rw[e2]at hR
  exact hR _ (I.Ni (fp:=[it]) (t':=s.toks) (λb hb=>by rw[Oa.mp hb];exact hf) λb o hb eb=>hm b o (λz=>hb (by rw[z];exact Oa.mpr rfl)) eb)
 |succ k ih=>
  intro i s H kvs ps hk hi hl hd hz I hit hf hp hR;refine Tw F.entry_dict_update_loop ?_
  rw[TF F.plain_dict_update_loop _];obtain⟨z,its,n,r,hlen,e⟩:=I.Na hl
  have hL:s.heap.IsList l its.toArray:=⟨_,e,rfl,n,rfl⟩
  have hlt:i<xs.length:=by omega
  have hlt':i<its.length:=by omega
  show ZJ _ A.in1 (pyNext (.ref it) >>= _) _ _ s
  refine NY (S0 hit hL (x:=its[i]) (by simp[hlt']) λh' hit' hm=>?_)
  have I1:Inv X lm σ H {s with heap:=h'}:=I.Ni (fp:=[it]) (t':=s.toks) (λb hb=>by rw[Oa.mp hb];exact hf) λb o hb eb=>(hm.2 b (λz=>hb (by rw[z];exact Oa.mpr rfl))).trans eb
  have hdrop:xs.drop i=xs[i] ::xs.drop (i+1):=Qs hlt;rw[hdrop]at hp;obtain⟨b,kb,p,r',rfl,ex,hb,hkb,hp'⟩:=hp
  have rx:RelV xs[i] its[i]:=by
   obtain⟨u,q1,q2⟩:=r.get (N6 hlt)
   rw[N6 hlt']at q1
   cases q1;exact q2
  rw[ex]at rx
  have eu:its[i]=Oc b:=rx;rw[eu];obtain⟨z2,its2,r2,ob,hob1,hob2,nb,hob3⟩:=(show ObjOk X.prog X.w H h' b (.tup [.ref kb,p.2])from I1.hok b _ hb)
  obtain⟨u1,us1,q1,rfl⟩:∃u1 us1,RelV (V.ref kb) u1/\its2=u1::us1:=by cases r2 with|cons a b=>exact⟨_,_,a,rfl⟩
  cases r2 with
  |cons ra rb=>
   obtain⟨u2,q2,rfl⟩:∃u2,RelV p.2 u2/\us1=[u2]:=by cases rb with|cons a b=>cases b;exact⟨_,a,rfl⟩
   obtain rfl:u1=Oc kb:=q1
   show ZJ _ A.in1 (holding [Oc b] _ >>= _) _ _ _
   refine NY (SN ?_)
   refine NY (wpAny_tryCatch ?_)
   unfold Builtin.Dict.pairItems;refine NY (Sg (s:={s with heap:=h'}) (T:="tuple") ⟨ob,hob1,hob2⟩ ?_)
   rw[if_pos (by decide)]
   refine NY (TU (s:={s with heap:=h'}) hob1 hob3 (Oe ?_))
   show ZJ _ _ (holding [Oc kb,u2] (dictSet d (.ref kb) u2)) _ _ _
   refine SN ?_
   obtain⟨zz,hds,xs2,rel,dd⟩:=EF I1.hok hd
   have hzl:xs2.length<=ZI:=by rw[<-SH rel];exact zz
   have hkl:kvs.length<ZI:=by rw[QY];omega
   have hl2:(dH kvs p.1 p.2).length<=ZI:=by have:=hV kvs p.1 p.2;omega
   refine wpAny_dictSet_heap (hsz:=hzl) (Rt (by show A.units+1<cLine;omega)) (qH I1.hok hkb) dd λh2 dd2 hs2=>?_
   obtain⟨q,es,ep,hq,h22,h3,h4,_,h5⟩:=dd2
   have I2:Inv X lm σ (upd H d (.dT (dH kvs p.1 p.2))) {s with heap:=h2,toks:=s.toks+(Sz (cW X.prog X.w)).draws p.1}:=
    u7 (s:={s with heap:=h'}) I1 (by rw[hd];exact Qx) hs2 ⟨q,hq⟩ ⟨hl2,hds,_,(rel.put p.1 hkb q2).keeps λc ys ec=>by rw[aG (jR ec hd (λz=>nomatch z))];exact ec,q,es,ep,hq,h22,h3,h4,h5⟩
   have hld:l≠d:=jR hl hd (λz=>nomatch z)
   have hitd:it≠d:=λz=>by have:=hf.1;rw[z,hd]at this;cases this
   have hcast:(i:Int)+1=((i+1:Nat):Int):=by omega
   refine Oe ⟨plainId_quiet F.plain_dict_update_loop _,?_⟩
   rw[hcast];refine ih (i+1) _ (upd H d (.dT (dH kvs p.1 p.2))) (dH kvs p.1 p.2) r' (by omega) (by omega) (by rw[aG hld];exact hl) aJ (by have:=hV kvs p.1 p.2;omega) I2 ?_ ⟨by rw[aG hitd];exact hf.1,hf.2⟩ (hp'.upd hd) λs' I'=>?_
   ·obtain⟨oi,ho1,ho2,ho3⟩:=hit'
    exact⟨oi,(hs2.2 it hitd).trans ho1,ho2,ho3⟩
   ·rw[tL]at I'
    exact hR s' I'
end
theorem PairsAt.same{H':Hp}(s:Same H H'):∀{xs:List V}{ps:List (List Key×V)},PairsAt H xs ps->PairsAt H' xs ps
 |[],_,h=>h
 |x::xs,_,⟨b,kb,p,r,e1,e2,e3,e4,e5⟩=>⟨b,kb,p,r,e1,e2,s _ _ e3,s _ _ e4,e5.same s⟩
section
variable {l:ZE}{ps:List (List Key×V)}
def xv(hh:A.handled=ZB)(hu:A.units+8<cLine)(I:Inv X lm σ H s)(hl:H l=ZA (.lst xs))(hz:xs.length<=1000)(hp:PairsAt H xs ps)
  (h:∀p s',Nw X.K H p->Inv X lm σ (upd H p (.dT (fE [] ps))) s'->Q (.ref p) s'):ZJ (ZK X.prog X.w) A (call (.type "dict") [.ref l]) Q E s:=by
 have hk:X.K.lookup s.heap.objs.size=ZB:=by
  cases q:X.K.lookup s.heap.objs.size with
  |none=>rfl
  |some o=>exact absurd (N8 (I.kIn _ o q)) (OA _)
 have hn:H s.heap.objs.size=ZB:=I.hok.fresh (Ob _)
 have hlp:l≠s.heap.objs.size:=λz=>by rw[z,hn]at hl;cases hl
 refine callType_codes (Q₁:=λobj s₁=>obj=.ref s.heap.objs.size/\s₁= {s with heap:=s.heap.push {cls:=.type "dict",data:=.dict #[]}}) F.kt_called_dict (F.kt_typeCall_dict_1 _) F.entry_dict_init (kt_code_dict_new _ ⟨rfl,rfl⟩) ?_
 rintro obj s₁ ⟨rfl,rfl⟩
 have I1:Inv X lm σ (upd H s.heap.objs.size (.dT [])) {s with heap:=s.heap.push {cls:=.type "dict",data:=.dict #[]}}:=I.laid (a:=s.heap.objs.size) (o:=.dT []) (t':=s.toks) (λ_ _ q=>N4 _ q) (Ob _) (EG s.heap I.big)
 have hT:({s with heap:=s.heap.push {cls:=.type "dict",data:=.dict #[]}}:NV).TypeIs (.ref s.heap.objs.size) "dict":=⟨_,Og _ rfl,rfl⟩
 have hl1:upd H s.heap.objs.size (.dT []) l=ZA (.lst xs):=by rw[aG hlp];exact hl
 obtain⟨z,its,n,r,hlen,e⟩:=I1.Na hl1;refine⟨hT,F.args_dict_init_2 _ _,?_⟩
 unfold Builtin.«dict.__init__»;refine NY ?_
 unfold Builtin.Dict.selfAndRest;refine NY (wpAny_notOrdered_dict hT ?_)
 show ZJ _ _ (pure (s.heap.objs.size,[Oc l])) _ _ _
 refine Oe ?_
 show ZJ _ _ (SE "dict.__init__" s.heap.objs.size (.ref l) [] .none) _ _ _
 unfold SE;refine NY (Sg (T:="list") ⟨_,e,rfl⟩ ?_)
 rw[if_pos (by decide)]
 refine NY (qG e hh λh' tk' kp=>?_)
 have I2:Inv X lm σ (upd H s.heap.objs.size (.dT [])) {s with heap:=h',toks:=tk'}:=I1.kept (t':=tk') kp
 rw[if_pos (by rfl)]
 refine NY (UO ?_)
 have eL:({s with heap:=h',toks:=tk'}:NV).heap.IsList l its.toArray:=⟨_,kp _ _ e,rfl,n,rfl⟩
 refine NY (SA eL ?_)
 have I3:Inv X lm σ (upd H s.heap.objs.size (.dT [])) {s with heap:=h'.push {cls:=.type "list_iterator",data:=.fields #[.ref l,.int 0 0]},toks:=tk'}:=I2.kept (t':=tk') λb u q=>N4 _ q
 have hpl:s.heap.objs.size<h'.objs.size:=N8 (kp _ _ (Og _ rfl))
 have hni:upd H s.heap.objs.size (.dT []) h'.objs.size=ZB:=by
  rw[aG (Sd hpl)];exact I.hok.fresh (Rh hpl)
 have hp1:PairsAt (upd H s.heap.objs.size (.dT [])) xs ps:=hp.same (bh hn _);refine Oe ⟨plainId_quiet F.plain_dict_update_loop _,?_⟩
 refine Bp (A:=A.in1) (X:=X) (lm:=lm) (σ:=σ) (l:=l) (xs:=xs) (it:=h'.objs.size) hh (by show A.units+1+3<cLine;omega) xs.length 0 _ (upd H s.heap.objs.size (.dT [])) [] ps (by omega) (P9 _) hl1 aJ (by simp;omega) I3 ⟨_,Og _ rfl,rfl,rfl⟩ (I2.Nm (Ob _) hni) hp1 λs' I'=>?_
 rw[tL]at I';exact⟨rfl,h _ _ ⟨hn,hk⟩ I'⟩
end
def hu8(h:Room k A):A.units+8<cLine:=by have:=h.un;omega
def yv{k:List Key}{v:V}(h:(kvs.map (·.1)).Nodup):((dH kvs k v).map (·.1)).Nodup:=by
 unfold dH
 by_cases a:(kvs.any λkv=>decide (kv.1=k))=ZC
 ·rw[if_pos a,Qk]
  have:((λx=>x.1)∘λkv:List Key×V=>if kv.1=k then(kv.1,v)else kv)=λx=>x.1:=by
   funext x
   show(if x.1=k then(x.1,v)else x).1=x.1
   by_cases e:x.1=k
   ·rw[if_pos e]
   ·rw[if_neg e]
  rw[this];exact h
 ·rw[if_neg a,Pc,OW]
  refine⟨h,by simp,λx hx y hy=>?_⟩
  simp only[NT,S6,Oa]at hy;subst hy;intro z;subst z;obtain⟨p,hp,e⟩:=Ov.mp hx;exact a (RP.mpr ⟨p,hp,decide_eq_true e⟩)
def MY(K:NQ)(O:Ow)(H:Hp):List (T×T)->List (List Key×V)->Prop
 |[],ps=>ps=[]
 |a::l,ps=>∃p r,ps=p::r/\keyOf a.1=ZA p.1/\Rep K O H a.2 p.2/\MY K O H l r
variable{O:Ow}
theorem tf:∀{l:List (T×T)}{ps:List (List Key×V)}{ks ts:List T}{kvs:List (List Key×V)},MY K O H l ps->ks.map keyOf=kvs.map (λp=>ZA p.1)->Reps K O H ts (kvs.map (·.2))->(kvs.map (·.1)).Nodup →
  (km l (ks,ts)).1.map keyOf=(fE kvs ps).map (λp=>ZA p.1)/\Reps K O H (km l (ks,ts)).2 ((fE kvs ps).map (·.2))
 |[],ps,ks,ts,kvs,h,h1,h2,hn=>by unfold MY at h;subst h;exact⟨h1,h2⟩
 | (a,b)::l,ps,ks,ts,kvs,h,h1,h2,hn=>by
  obtain⟨p,r,rfl,e1,e2,e3⟩:=h;obtain⟨g1,g2⟩:=mI (vT:=b) e1 e2 h1 h2 hn
  show(km l (gV a b ks ts)).1.map keyOf=(fE (dH kvs p.1 p.2) r).map (λp=>ZA p.1)/\Reps K O H (km l (gV a b ks ts)).2 ((fE (dH kvs p.1 p.2) r).map (·.2))
  exact tf (l:=l) e3 g1 g2 (yv hn)
theorem zE:∀{l:List T}{tps:List (T×T)}{xs:List V},KN l=ZA tps->Reps K O H l xs->∃ps,PairsAt H xs ps/\MY K O H tps ps
 |[],tps,xs,h,r=>by cases Reps.Da.mp r;cases h;exact⟨[],rfl,rfl⟩
 |t::l,tps,xs,h,r=>by
  obtain⟨v,ws,rfl,p,q⟩:=Reps.me.mp r;unfold KN at h
  split at h
  ·rename_i heq;cases heq
  ·rename_i k v' l' heq
   cases heq
   split at h
   ·rename_i kk rr hk hr
    cases h;obtain⟨ps,g1,g2⟩:=zE hr q;obtain⟨b,vs,e1,e2,e3,e4⟩:=Rep.Fk.mp p;obtain⟨u1,us1,rfl,f1,f2⟩:=Reps.me.mp e4;obtain⟨u2,us2,rfl,f3,f4⟩:=Reps.me.mp f2;cases Reps.Da.mp f4;obtain⟨kb,f5,f6⟩:=iZ hk f1;subst f5;exact⟨(kk,u2)::ps,⟨b,kb,(kk,u2),ps,rfl,e1,e3,f6,g1⟩,⟨(kk,u2),ps,rfl,hk,f3,g2⟩⟩
   ·cases h
  ·cases h
section
variable {e:ZG}{f:V5}{x y:Str}{p pos p2 p3:Pos}
def IA(X:Cx)(f:V5):TE:=λσ H Q=>tP X f σ H λv H'=>∃a xs ps,v=.ref a/\H' a=ZA (.lst xs)/\xs.length<=1000/\PairsAt H' xs ps/\∀q,Nw X.K H' q->Q (.ref q) (upd H' q (.dT (fE [] ps)))
def C2(hu:X.A.units+8<cLine)(hc:X.calm=ZC)(hm:X.mg "dict" =ZB)(ha:cE X e f)(hg:Gl X "dict")(hs:bp e=ZC):PE X (.Call (.Name "dict" p) [e] [] pos) (IA X f):=by
 have h1:N5 [e] X.env=(ZD,eval e X.env)::N5 [] X.env:=a9 hs;intro lm s σ H Q I hq;refine ON (gg I hg hm (show OL "dict" =ZA (.type "dict")by decide+kernel) ?_ (by decide) (by decide))
 refine Pa (bW (bz (te:=tP X f) ha d6 h1 pos lm s σ H (λxs H'=>∃v,xs=[v]/\∃a xs ps,v=.ref a/\H' a=ZA (.lst xs)/\xs.length<=1000/\PairsAt H' xs ps/\∀q,Nw X.K H' q->Q (.ref q) (upd H' q (.dT (fE [] ps)))) I ?_) λus s1 hh=>?_) h1 rfl
 ·obtain⟨Z,O,E,h⟩:=hq
  exact⟨Z,O,E,Post.mono h λt H' _ g v r=>⟨v,rfl,g v r⟩⟩
 ·obtain⟨vs,H1,I1,r1,v,rfl,a,xs,ps,ev,e1,e2,e3,e4⟩:=hh
  subst ev;obtain⟨u,rfl,ru⟩:=r1.one;obtain rfl:u=Oc a:=ru;exact xv (I1.ok.hd hc) hu I1 e1 e2 e3 λq s' nw I'=>⟨.ref q,_,I',rfl,e4 q nw⟩
def FY(i:Nat)(hu:X.A.units+8<cLine)(hc:X.calm=ZC)(hm:X.mg "dict" =ZB)(hN:X.N.Nodup)(ha:cE X e f)(hst:bp e=ZC:=by rfl)(hg:Gl X "dict":=by rfl)(hi:X.N[i]?=ZA x:=by rfl)(hx:autoParam (Loc X.env.scope x) x_)(hs:OQ (.Call (.Name "dict" p) [e] [] p2) (ZA (.Name x p3)) pos.line X.env=pure ZD:=by rfl)
  (hf:autoParam (X.fn x=ZC\/X.env.scope.names.lookup x=ZA .local) r_):pj X (.Assign [.Name x p3] (.Call (.Name "dict" p) [e] [] p2) pos) (sv i f):=PS.imp (mZ hN hi hx (C2 hu hc hm ha hg hst) hs hf) λD σ H hh_=>by
 obtain⟨Z,B,M,E,h⟩:=hh_;refine⟨Z,OO B M,E.o,?_⟩
 unfold sv at h
 cases q:f Z with
 |bad=>rw[q]at h;exact h.elim
 |err c=>rw[q]at h;exact PostF.xa h
 |ok t=>
  rw[q,ay]at h;intro H1 s1 v r
  have h1:=h.later (SameO.of s1) (P1:=M.u) λa z=>.inl z
  cases t with
  |lst l=>
   obtain⟨a,xs,rfl,e2,e3,e4⟩:=Rep.Do.mp r;unfold Am at h1
   split at h1
   ·rename_i l' heq
    cases heq
    split at h1
    ·rename_i tps hps
     by_cases hz:l.length<=1000
     ·rw[if_pos hz,ay]at h1
      obtain⟨ps,g1,g2⟩:=zE hps e4;refine⟨a,xs,ps,rfl,e3,by rw[<-e4.length];exact hz,g1,λnd nw=>?_⟩
      by_cases hl:i<Z.length
      ·simp only[if_pos hl]at h1
       have hm:∀a,a=nd->Nw X.K H1 a:=λa z=>z▸nw
       obtain⟨k1,k2⟩:=tf (ks:=[]) (ts:=[]) (kvs:=[]) g2 rfl Reps.GE Qt;obtain⟨E2,sub⟩:=(E.same s1).new (m:=λa=>a=nd) (o:=.dct (km tps ([],[])).1 (km tps ([],[])).2) (v:=.ref nd) (H':=upd H1 nd (.dT (fE [] ps))) hl hm (bh nw.1 _) ⟨nd,_,rfl,λb=>Rn,aJ,k1,(k2.more (Ev.subO hm)).same (bh nw.1 _)⟩
       exact h1 _ _ _ (SameO.of (bh nw.1 _)) E2 sub
      ·simp only[if_neg hl]at h1;exact h1.elim
     ·rw[if_neg hz]at h1;exact h1.elim
    ·exact h1.elim
   ·rename_i hno
    exact(hno l rfl).elim
  |_=>exact h1.elim
end
theorem lN:∀{l:List T}{ns:List Int}{xs:List V}{us:List NS},sG l=ZA ns->Reps K O H l xs->Vals xs us->RQ us ns
 |[],ns,xs,us,h,r,v=>by cases Reps.Da.mp r;cases v;cases h;exact .nil
 |t::l,ns,xs,us,h,r,v=>by
  obtain⟨w,ws,rfl,p,q⟩:=Reps.me.mp r
  cases v with
  |cons v1 v2=>
   cases t with
   |int i=>
    unfold sG at h;obtain⟨m,h1,rfl⟩:=QP.mp h;cases Rep.AC.mp p;obtain⟨k,rfl⟩:=v1
    exact .cons _ _ (lN h1 q v2)
   |_=>cases h
theorem sO:∀(l:List Int)(i:Int),yE i l∈i::l/\∀a∈i::l,yE i l<=a
 |[],i=>⟨NU,λa h=>by cases Oa.mp h;exact P2 _⟩
 |j::l,i=>by
  obtain⟨h1,h2⟩:=sO l (if j<i then j else i)
  unfold yE
  have h3:=h2 _ NU;refine⟨?_,λa ha=>?_⟩
  ·rcases N0.mp h1 with e|e
   ·rw[e]
    by_cases h:j<i
    ·rw[if_pos h];simp
    ·rw[if_neg h];simp
   ·exact NR _ (NR _ e)
  ·rcases N0.mp ha with rfl|ha
   ·by_cases h:j<a
    ·rw[if_pos h]at h3 ⊢;omega
    ·rw[if_neg h]at h3 ⊢;omega
   ·rcases N0.mp ha with rfl|ha
    ·by_cases h:a<i
     ·rw[if_pos h]at h3 ⊢;omega
     ·rw[if_neg h]at h3 ⊢;omega
    ·exact h2 a (NR _ ha)
theorem sP:∀(l:List Int)(i:Int),yF i l∈i::l/\∀a∈i::l,a<=yF i l
 |[],i=>⟨NU,λa h=>by cases Oa.mp h;exact P2 _⟩
 |j::l,i=>by
  obtain⟨h1,h2⟩:=sP l (if i<j then j else i)
  unfold yF
  have h3:=h2 _ NU;refine⟨?_,λa ha=>?_⟩
  ·rcases N0.mp h1 with e|e
   ·rw[e]
    by_cases h:i<j
    ·rw[if_pos h];simp
    ·rw[if_neg h];simp
   ·exact NR _ (NR _ e)
  ·rcases N0.mp ha with rfl|ha
   ·by_cases h:a<j
    ·rw[if_pos h]at h3 ⊢;omega
    ·rw[if_neg h]at h3 ⊢;omega
   ·rcases N0.mp ha with rfl|ha
    ·by_cases h:i<a
     ·rw[if_pos h]at h3 ⊢;omega
     ·rw[if_neg h]at h3 ⊢;omega
    ·exact h2 a (NR _ ha)
def Kw(hc:X.calm=ZC):CallT X (.builtin "min") Dn:=by
 intro lm s σ H O ts vs us Q I hf rs rv hp;unfold Dn at hp
 split at hp
 ·rename_i l
  obtain⟨v,rfl,r⟩:=rs.one
  split at hp
  ·rename_i i ns hk
   obtain⟨a,ws,rfl,n,q,z⟩:=Rep.Do.mp r;obtain⟨u,rfl,ru⟩:=jA rv;cases ru;obtain⟨its,r',pl,hz⟩:=I.list (SqL.of q)
   have hi:=lN hk z r';obtain⟨xs,e⟩:=hi.allInts.items
   have hns:i::ns=xs.toList.map (·.1):=by rw[<-hi.numsOf,<-nums_intItems,<-e]
   have hl:s.heap.IsList a (intItems xs):=by rw[<-e];exact pl.isList
   have hsz:0<xs.size:=by
    have h3:=congrArg Pb hns;rw[NZ,NW]at h3;rw[<-Pj];omega
   refine min_intList (I.ok.hd hc) hl hsz λv h' tk hv hk'=>?_
   obtain⟨t,rfl⟩:=intItems_at hv;obtain⟨h1,h2⟩:=argBest_lt (numAt xs) (xs.size - 1);refine⟨.int _,H,I.kept (t':=tk) hk',⟨_,rfl⟩,?_⟩
   have eM:numAt xs (argBest (λi j=>decide (numAt xs i<numAt xs j)) (xs.size - 1))=yE i ns:=by
    obtain⟨g1,g2⟩:=sO ns i
    have m1:numAt xs (argBest (λi j=>decide (numAt xs i<numAt xs j)) (xs.size - 1))∈i::ns:=by
     rw[hns,numAt_eq];exact PySem.getD_mem (by rw[NW,Pj];omega)
    have k1:=g2 _ m1;rw[hns]at g1;obtain⟨j,hj,ej⟩:=mem_getD g1;rw[NW,Pj]at hj;rw[<-numAt_eq]at ej
    have k2:=h2 j (by omega)
    rw[ej]at k2;exact Vt k2 k1
   rw[eM];exact hp H (Same.refl H) _ (Rep.Gc _)
  ·exact hp.elim
 ·rename_i i j
  obtain⟨v,ws,rfl,p,q⟩:=Reps.me.mp rs;obtain⟨v2,rfl,p2⟩:=q.one;cases Rep.AC.mp p;cases Rep.AC.mp p2;refine Bv hc lm s σ H _ us Q I rv ⟨i,j,rfl,?_⟩
  exact hp H (Same.refl H) _ (Rep.Gc _)
 ·exact hp.elim
def EI(hc:X.calm=ZC):CallT X (.builtin "max") wU:=by
 intro lm s σ H O ts vs us Q I hf rs rv hp;unfold wU at hp
 split at hp
 ·rename_i l
  obtain⟨v,rfl,r⟩:=rs.one
  split at hp
  ·rename_i i ns hk
   obtain⟨a,ws,rfl,n,q,z⟩:=Rep.Do.mp r;obtain⟨u,rfl,ru⟩:=jA rv;cases ru;obtain⟨its,r',pl,hz⟩:=I.list (SqL.of q)
   have hi:=lN hk z r';obtain⟨xs,e⟩:=hi.allInts.items
   have hns:i::ns=xs.toList.map (·.1):=by rw[<-hi.numsOf,<-nums_intItems,<-e]
   have hl:s.heap.IsList a (intItems xs):=by rw[<-e];exact pl.isList
   have hsz:0<xs.size:=by
    have h3:=congrArg Pb hns;rw[NZ,NW]at h3;rw[<-Pj];omega
   refine max_intList (I.ok.hd hc) hl hsz λv h' tk hv hk'=>?_
   obtain⟨t,rfl⟩:=intItems_at hv;obtain⟨h1,h2⟩:=argBest_gt (numAt xs) (xs.size - 1);refine⟨.int _,H,I.kept (t':=tk) hk',⟨_,rfl⟩,?_⟩
   have eM:numAt xs (argBest (λi j=>decide (numAt xs i > numAt xs j)) (xs.size - 1))=yF i ns:=by
    obtain⟨g1,g2⟩:=sP ns i
    have m1:numAt xs (argBest (λi j=>decide (numAt xs i > numAt xs j)) (xs.size - 1))∈i::ns:=by
     rw[hns,numAt_eq];exact PySem.getD_mem (by rw[NW,Pj];omega)
    have k1:=g2 _ m1;rw[hns]at g1;obtain⟨j,hj,ej⟩:=mem_getD g1;rw[NW,Pj]at hj;rw[<-numAt_eq]at ej
    have k2:=h2 j (by omega)
    rw[ej]at k2;exact Vt k1 k2
   rw[eM];exact hp H (Same.refl H) _ (Rep.Gc _)
  ·exact hp.elim
 ·rename_i i j
  obtain⟨v,ws,rfl,p,q⟩:=Reps.me.mp rs;obtain⟨v2,rfl,p2⟩:=q.one;cases Rep.AC.mp p;cases Rep.AC.mp p2;refine Bw hc lm s σ H _ us Q I rv ⟨i,j,rfl,?_⟩
  exact hp H (Same.refl H) _ (Rep.Gc _)
 ·exact hp.elim
noncomputable def fD:List T->Option (List (List Int))
 |[] =>ZA []
 |.tup l::r=>match sG l,fD r with
  |some ns,ZA k=>if ns=[]then ZB else ZA (ns::k)
  |_,_=>ZB
 |_=>ZB
theorem wY:∀l,gQ l l=ZD
 |[] =>rfl
 |a::l=>by unfold gQ;rw[if_pos rfl];exact wY l
theorem uT:∀a b c,gQ a b=ZC->gQ b c=ZC->gQ a c=ZC
 |[],[],_,h,_=>absurd h (by simp[gQ])
 |_::_,[],_,h,_=>absurd h (by simp[gQ])
 |[],_::_,[],_,h=>absurd h (by simp[gQ])
 |[],_::_,_::_,_,_=>rfl
 |_::_,_::_,[],_,h=>absurd h (by simp[gQ])
 |x::a,y::b,z::c,h,g=>by
  unfold gQ at h g ⊢
  by_cases e:x=y
  ·subst e
   rw[if_pos rfl]at h
   by_cases e2:x=z
   ·rw[if_pos e2]at g ⊢;exact uT a b c h g
   ·rw[if_neg e2]at g ⊢;exact g
  ·rw[if_neg e]at h
   by_cases e2:y=z
   ·subst e2;rw[if_neg e];exact h
   ·rw[if_neg e2]at g
    have h1:=of_decide_eq_true h
    have h2:=of_decide_eq_true g;rw[if_neg (by omega)]
    exact decide_eq_true (by omega)
theorem qE:∀a b,gQ a b=ZD->gQ b a=ZD->a=b
 |[],[],_,_=>rfl
 |[],_::_,h,_=>absurd h (by simp[gQ])
 |_::_,[],_,h=>absurd h (by simp[gQ])
 |x::a,y::b,h,g=>by
  unfold gQ at h g
  by_cases e:x=y
  ·subst e
   rw[if_pos rfl]at h g;rw[qE a b h g]
  ·rw[if_neg e]at h
   rw[if_neg (λz=>e z.symm)]at g
   have h1:=of_decide_eq_false h
   have h2:=of_decide_eq_false g;omega
def Dt(a b c:List Int)(h:gQ a c=ZC):gQ a b=ZC\/gQ b c=ZC:=by
 cases h1:gQ a b with
 |true=>exact .inl rfl
 |false=>
  cases h2:gQ b a with
  |true=>exact .inr (uT _ _ _ h2 h)
  |false=>rw[<-qE _ _ h1 h2];exact .inr h
variable (R:RK)
variable {R:RK}
def RK.kind(R:RK)(h:ZH):PyProof.Rows.KeyKind:={α:=List Int,blt:=gQ,irrefl:=wY,trans:=uT,negTrans:=Dt,total:=qE,keyOf:=R.key h,dflt:=[]}
def RK.row(R:RK)(h:ZH)(v:NS):List Int:=(R.key h v).getD []
end Tr
namespace L2
open PySem PySem.Spec PyProof.Rows
def xj{b:Nat}:b∈ [n+4,n,n+1,n+2,n+3] ↔n<=b/\b<n+5:=by
 simp only[N0,Pm,or_false];omega
end L2
namespace Tr
open PySem PySem.Spec PyProof.Rows L2
def Wk(K:NQ)(O:Ow)(H1:Hp)(l:List T)(v:V):Prop:=∃(aa:ZE)(tt:Bool)(ws:List V),v=.ref aa/\¬ O aa/\Reps K O H1 l ws/\Fd K H1 aa tt ws/\(∀P Hc,SameO P H1 Hc->¬ P aa->Fd K Hc aa tt ws)/\¬ Nw K H1 aa
def c0(g:List T->Rs T)(_:En):Rs T:=match g []with
 |.ok t=>.ok t
 |_=>.bad
end Tr
namespace PySem
open Sem (wp)
open L2 (itAt)
structure PW (prog:Oh)(w:O8)(A:OB)(I:ZE)(T:String)(fp wr:List ZE)(n:Nat)(R:Nat->NS->NS->Prop)(St:Nat->Option ZE->ZH->Prop):Prop where
 sub:∀b∈wr,b∈fp
 ty:∀i o (s:NV),St i o s.heap->s.TypeIs (.ref I) T
 frame:∀i o h h',St i o h->(∀b∈fp,∀ob,h.get? b=ZA ob->h'.get? b=ZA ob)->St i o h'
 item:∀i o (s:NV) (Q:Option NS->NV->Prop) (E:V1),i<n->St i o s.heap->(∀t,o=ZA t->∃ob,s.heap.get? t=ZA ob) →
  (∀p h' tk x y,R i x y->s.heap.objs.size<=p->IsPair h' p x y->St (i+1) (ZA (o.getD p)) h'->(∀b ob,b∉wr->s.heap.get? b=ZA ob->h'.get? b=ZA ob)->Q (ZA (.ref p)) {s with heap:=h',toks:=tk})->ZJ (ZK prog w) A (pyNext (.ref I)) Q E s
 done:∀o (s:NV) (Q:Option NS->NV->Prop) (E:V1),St n o s.heap->(∀t,o=ZA t->∃ob,s.heap.get? t=ZA ob)->(∀h' tk,(∀b ob,b∉wr->s.heap.get? b=ZA ob->h'.get? b=ZA ob)->Q ZB {s with heap:=h',toks:=tk})->ZJ (ZK prog w) A (pyNext (.ref I)) Q E s
 self:∀i o (s:NV) (Q:V1) (E:V1),St i o s.heap->Q (.ref I) s->ZJ (ZK prog w) A (pyIter (.ref I)) Q E s
end PySem
namespace Tr
open PySem PySem.Spec PyProof.Rows L2
variable{X:Cx}{b:ZG}{p pos:Pos}
section
variable {a:ZG}{fs:V3}{p1 p2:Pos}
theorem iC:∀{m:List T}{ks:List (List Int)},fD m=ZA ks->m.length=ks.length
 |[],ks,h=>by cases h;rfl
 |u::m,ks,h=>by
  cases u with
  |tup l=>
   unfold fD at h
   split at h
   ·rename_i ns k' h1 h2
    by_cases ne:ns=[]
    ·rw[if_pos ne]at h;cases h
    ·rw[if_neg ne]at h;cases h
     rw[NZ,NZ,iC h2]
   ·cases h
  |_=>cases h
end
inductive Fx where
 |nx (Z:En)|rt (t:T) (Z:En)
def kj{α:Type}(f:Str):List Str->List α->Option α
 |n::ns,l::ls=>if n=f then ZA l else kj f ns ls
 |_,_=>ZB
def jx(f:Str)(l':List T):List Str->List (List T)->List (List T)
 |n::ns,l::ls=>if n=f then l'::ls else l::jx f l' ns ls
 |_,ls=>ls
def kY(c f:Str):T->Rs T
 |.ob c' ns ts=>if c'=c then(match kj f ns ts with|some t=>.ok t|none=>.bad)else .bad
 |_=>.bad
noncomputable def r6(c m:Str)(g:List T->Rs T)(fo:V5)(fs:V3)(Z:En):Rs T:=do
 let o <-fo Z
 match o with
 |.ob c' ns ts=>if c'=c/\ns.contains m=ZD then fs Z >>= λl=>g (.ob c' ns ts::l)else .bad
 |_=>.bad
def xP(f:V5)(Z:En):Rs (T×En):=f Z >>= λt=>.ok (t,Z)
noncomputable def vq(i:Nat)(c f:Str)(fa:V5)(Z:En):Rs (T×En):=match Z[i]? with
 |some (.ow (.ob c' ns ls))=>if c'=c then(match kj f ns ls with
  |some l=>fa Z >>= λt=>if l.length<ZI then .ok (.non,Z.set i (.ow (.ob c' ns (jx f (l++[t]) ns ls))))else .bad
  |none=>.bad)else .bad
 |_=>.bad
noncomputable def xS(i:Nat)(c f:Str)(Z:En):Rs (T×En):=match Z[i]? with
 |some (.ow (.ob c' ns ls))=>if c'=c then(match kj f ns ls with
  |some l=>(match l.getLast? with
   |some t=>.ok (t,Z.set i (.ow (.ob c' ns (jx f l.dropLast ns ls))))
   |none=>.bad)
  |none=>.bad)else .bad
 |_=>.bad
noncomputable def BY(i:Nat)(Z:En):Rs (T×OT)->Rs (T×En)
 |.ok p=>.ok (p.1,Z.set i (.ow p.2))
 |.err c=>.err c
 |.bad=>.bad
noncomputable def cX(i:Nat)(c m:Str)(g:List Sl->Rs (T×OT))(fs:V3)(Z:En):Rs (T×En):=match Z[i]? with
 |some (.ow (.ob c' ns ls))=>if c'=c/\ns.contains m=ZD then fs Z >>= λts=>BY i Z (g (.ow (.ob c' ns ls)::ts.map Sl.va))else .bad
 |_=>.bad
def xT(i:Nat)(g:List Sl->Rs (T×OT))(fs:V3)(Z:En):Rs (T×En):=match Z[i]? with
 |some (.ow o)=>fs Z >>= λts=>BY i Z (g (.ow o::ts.map Sl.va))
 |_=>.bad
def fI(n:Nat)(sls:List Sl):En:=sls++Oi (n - sls.length) Sl.em
noncomputable def rN(j:Nat):Fx->Rs (T×OT)
 |.nx Z=>match Z[j]? with
  |some (.ow o)=>.ok (.non,o)
  |_=>.bad
 |.rt t Z=>match Z[j]? with
  |some (.ow o)=>.ok (t,o)
  |_=>.bad
def hZ(n j m:Nat)(F:En->Rs Fx)(sls:List Sl):Rs (T×OT):=if sls.length=n then F (fI m sls) >>= rN j else .bad
def JH{α:Type}:Rs α->Rs α
 |.err _=>.bad
 |r=>r
def mN(Z:En):Rs Fx:=.ok (.nx Z)
def jU(F G:En->Rs Fx)(Z:En):Rs Fx:=match F Z with
 |.ok (.nx Z')=>JH (G Z')
 |r=>r
def Dq(x:En->Rs (T×En))(Z:En):Rs Fx:=x Z >>= λp=>.ok (.nx p.2)
def ij(x:En->Rs (T×En))(Z:En):Rs Fx:=x Z >>= λp=>.ok (.rt p.1 p.2)
def JP(i:Nat)(x:En->Rs (T×En))(Z:En):Rs Fx:=x Z >>= λp=>if i<p.2.length then .ok (.nx (p.2.set i (.va p.1)))else .bad
def JO(f:V6)(F G:En->Rs Fx)(Z:En):Rs Fx:=f Z >>= λk=>if k then F Z else G Z
def GH(c:Str)(_:En):Rs Fx:=.err c
noncomputable def wX(i:Nat)(c f:Str)(fs:V3)(Z:En):Rs Fx:=match Z[i]? with
 |some (.ow (.ob c' ns ls))=>fs Z >>= λl=>if c'=c/\l.length<=ZI/\ns.length<1000 then
   .ok (.nx (Z.set i (.ow (if ns.contains f then .ob c' ns (jx f l ns ls)else .ob c' (ns++[f]) (ls++[l])))))else .bad
 |_=>.bad
def wW(F:En->Rs Fx)(h:Str->Rs T)(Z:En):Rs Fx:=match F Z with
 |.err c=>(match h c with
  |.ok t=>.ok (.rt t Z)
  |_=>.bad)
 |r=>r
def Il(x:En->Rs (T×En))(Z:En):Rs (Bool×En):=x Z >>= λp=>match p.1 with
 |.bl b=>.ok (b,p.2)
 |_=>.bad
def Ft(g:T->T->Rs T)(x:En->Rs (T×En))(f:V5)(Z:En):Rs (T×En):=x Z >>= λp=>JH (f p.2 >>= g p.1) >>= λt=>.ok (t,p.2)
def D6(f:V3)(Z:En):Rs (List T):=f Z >>= λx=>match x with
 |[.lst l] =>.ok l.reverse
 |_=>.bad
def BZ(f:V6)(x y:En->Rs (T×En))(Z:En):Rs (T×En):=f Z >>= λk=>if k then x Z else y Z
def ye(x:En->Rs (Bool×En))(F G:V4)(Z:En):Rs Fl:=x Z >>= λp=>if p.1 then F p.2 else G p.2
def jM(g:List T->Rs (T ⊕ OT))(ts:List T):Rs T:=match g ts with
 |.ok (.inl t)=>.ok t
 |.ok (.inr _)=>.bad
 |.err c=>.err c
 |.bad=>.bad
def xV(n m:Nat)(F:En->Rs (T ⊕ OT))(ts:List T):Rs (T ⊕ OT):=if ts.length=n then F (aR m ts)else .bad
noncomputable def lx(c:Str)(g:List Sl->Rs (T×OT))(fs:V3)(Z:En):Rs (T ⊕ OT):=fs Z >>= λts=>g (.ow (.ob c [] [])::ts.map Sl.va) >>= λp=>match p.1 with
 |.non=>.ok (.inr p.2)
 |_=>.bad
def wO(F:En->Rs (T ⊕ OT))(h:Str->Rs T)(Z:En):Rs (T ⊕ OT):=match F Z with
 |.err c=>(match h c with
  |.ok t=>.ok (.inl t)
  |_=>.bad)
 |r=>r
noncomputable def pQ(i:Nat)(g:List T->Rs (T ⊕ OT))(fs:V3)(Z:En):Rs Fl:=fs Z >>= λts=>g ts >>= λp=>if i<Z.length then(match p with
 |.inl t=>.ok (.nx (Z.set i (.va t)))
 |.inr o=>.ok (.nx (Z.set i (.ow o))))else .bad
def MR:Rs Fx->Rs Fx
 |.ok (.nx _)=>.bad
 |r=>r
def qB(f:V6)(F G:En->Rs Fx)(Z:En):Rs Fx:=f Z >>= λk=>if k then MR (F Z)else G Z
abbrev one(j:Nat)(m:Ow):Mn:=noM.set j m
abbrev BM(B m:Ow):Ow:=λa=>B a\/m a
variable{a:ZE}{m:Ow}
def one_u:(one j m).u a↔m a:=⟨λz=>(Mn.KF z).elim id λ⟨_,w⟩=>w.elim,λz=>⟨j,by unfold one;rw[Mn.Nb];exact z⟩⟩
variable{B:Ow}
def one_oo:OO B (one j m) a↔BM B m a:=or_congr Rn one_u
variable{H:Hp}{M:Mn}{Z:En}{o':OT}{σ:L2.St}
section
variable {H':Hp}{o:OT}{v:V}
def Ev.old(E:Ev K B M H Z σ)(w:Nw K H a):¬ OO B M a:=λz=>by
 obtain⟨o,e⟩:=(E.env.trk a z).some;rw[w.1]at e;cases e
def Ev.back(E:Ev K B M H Z σ)(hi:Z[i]?=ZA (.ow o))(hs:σ[i]?=ZA (ZA v))(s:SameO (M i) H H')(r:ORep K (OO B (M.set i m)) m H' o' v)(hm:∀a,m a->M i a\/Nw K H a):
  Ev K B (M.set i m) H' (Z.set i (.ow o')) σ/\SameO M.u H H'/\∀a,(M.set i m).u a->M.u a\/Nw K H a:=by
 have hl:i<Z.length:=(N1.mp hi).1
 have sub:∀a,(M.set i m).u a->M.u a\/Nw K H a:=λa z=>(Mn.KF z).elim (λw=>(hm a w).imp_left λy=>⟨i,y⟩) .inl
 have subO:∀a,OO B (M.set i m) a->OO B M a\/Nw K H a:=λa z=>z.elim (λw=>.inl (.inl w)) λw=>(sub a w).elim (λy=>.inl (.inr y)) .inr
 have inO:∀a,M i a->OO B M a\/Nw K H a:=λa z=>.inl (.inr ⟨i,z⟩)
 refine⟨⟨⟨by rw[Pl];exact E.env.len,λj t e=>?_,λj o2 e=>?_,λj a z=>.inr ⟨j,z⟩,λj k a z1 z2=>?_,λa z=>?_⟩,λa z hb=>?_⟩,λb u e n=>s b u e λz=>n ⟨i,z⟩,sub⟩
 ·by_cases hj:i=j
  ·subst hj;rw[Oo hl]at e;cases e
  ·rw[Ol hj]at e
   obtain⟨w,e1,e2⟩:=E.env.val j t e;exact⟨w,e1,e2.move inO subO s⟩
 ·by_cases hj:i=j
  ·subst hj
   rw[Oo hl]at e
   cases e;exact⟨v,hs,by rw[Mn.Nb];exact r⟩
  ·rw[Ol hj]at e
   obtain⟨w,e1,e2⟩:=E.env.own j o2 e;refine⟨w,e1,?_⟩
   rw[Mn.Nj (λz=>hj z.symm)]
   exact e2.move inO subO s λa z y=>hj (E.env.dis i j a y z)
 ·unfold Mn.set at z1 z2
  by_cases hj:j=i
  ·by_cases hk:k=i
   ·exact hj.trans hk.symm
   ·rw[if_pos hj]at z1;rw[if_neg hk]at z2
    exact(hm a z1).elim (λw=>(hk (E.env.dis k i a z2 w)).elim) λw=>(E.old w (.inr ⟨k,z2⟩)).elim
  ·by_cases hk:k=i
   ·rw[if_neg hj]at z1;rw[if_pos hk]at z2
    exact(hm a z2).elim (λw=>(hj (E.env.dis j i a z1 w)).elim) λw=>(E.old w (.inr ⟨j,z1⟩)).elim
   ·rw[if_neg hj]at z1;rw[if_neg hk]at z2
    exact E.env.dis j k a z1 z2
 ·rcases z with z|⟨j,z⟩
  ·exact(E.env.trk a (.inl z)).at λo e=>s _ _ e λw=>E.mine a ⟨i,w⟩ z
  ·unfold Mn.set at z
   by_cases hj:j=i
   ·rw[if_pos hj]at z;exact r.mtb a z
   ·rw[if_neg hj]at z
    exact(E.env.trk a (.inr ⟨j,z⟩)).at λo e=>s _ _ e λw=>hj (E.env.dis j i a z w)
 ·rcases Mn.KF z with w|w
  ·exact(hm a w).elim (λy=>E.mine a ⟨i,y⟩ hb) λy=>E.old y (.inl hb)
  ·exact E.mine a w hb
end
variable{O:Ow}{apos cpos p3:Pos}{c x:Str}{e:ZG}{es:List ZG}{fa:V5}{l:List T}
section
variable {a:ZG}{fs:V3}{p2:Pos}{f:Str}
def PostX(X:Cx)(B P:Ow)(σ:L2.St)(H:Hp)(r:Rs (T×En))(Q:VK):Prop:=match r with
 |.ok p=>∀v H' M',SameO P H H'->Ev X.K B M' H' p.2 σ->(∀a,M'.u a->P a\/Nw X.K H a)->Rep X.K (OO B M') H' p.1 v->Q v H'
 |.err c=>XA X lq H c
 |.bad=>False
def tX(X:Cx)(f:En->Rs (T×En)):TE:=λσ H Q=>∃Z B M,Ev X.K B M H Z σ/\PostX X B M.u σ H (f Z) Q
abbrev Az(X:Cx)(e:ZG)(f:En->Rs (T×En)):Prop:=PE X e (tX X f)
def Im(h:cE X a fa):Az X a (xP fa):=PE.imp h λσ H Q hh_=>by
 obtain⟨Z,B,M,E,q⟩:=hh_;refine⟨Z,OO B M,E.o,?_⟩
 unfold xP at q
 cases z:fa Z with
 |bad=>rw[z]at q;exact q
 |err c=>rw[z]at q;exact q
 |ok t=>
  rw[z,ay]at q;exact λH' s v r=>q v H' M (SameO.of s) (E.same s) (λ_ w=>.inl w) r
theorem Eb:∀{fs:List (Str×V)}{ts:List T}{t:T},kj f (fs.map (·.1)) ts=ZA t->Reps K O H ts (fs.map (·.2))->∃v,fs.lookup f=ZA v/\Rep K O H t v
 |[],ts,t,h,_=>by cases h
 | (n,w)::fs,[],t,h,_=>by cases h
 | (n,w)::fs,u::ts,t,h,r=>by
  obtain⟨w',ws,e,p,q⟩:=Reps.me.mp r;cases e
  have h':(if n=f then ZA u else kj f (fs.map (·.1)) ts)=ZA t:=h
  rw[OV]
  by_cases z:n=f
  ·subst z
   rw[if_pos rfl]at h';cases h';exact⟨w,by rw[beq_self_eq_true],p⟩
  ·rw[if_neg z]at h'
   rw[beq_eq_false_iff_ne.mpr (P4 z)];exact Eb h' q
def Ly(hc:Cls X.K (bO X.K c))(hn:NoAttr X.K (bO X.K c) f)(ha:cE X a fa)(hb:Ox a f X.env (eval a X.env)=eval a X.env:=by rfl):cE X (.Attribute a f pos) (o1 (kY c f) fa):=PE.imp (ym ha hb) λσ H Q hh_=>by
 obtain⟨Z,O,E,h⟩:=hh_;refine zv (aZ (k:=kY c f) E h) λv H' ⟨t,r,s,E',q⟩=>?_
 cases t with
 |ob c' ns ts=>
  unfold kY at q
  dsimp only at q
  split at q
  ·rename_i hcc
   subst hcc;obtain⟨b,dx,fs,e1,e2,e3,e4,e5⟩:=Rep.Nh.mp r;subst e4
   split at q
   ·rename_i t ht
    obtain⟨w,l1,l2⟩:=Eb ht e5;exact⟨b,_,dx,fs,w,e1,e3,hc,hn,l1,q H' (Same.refl _) w l2⟩
   ·exact q.elim
  ·exact q.elim
 |_=>exact q.elim
theorem yU:∀{ns:List Str}{as:List ZE}{ls:List (List T)}{l:List T},kj f ns ls=ZA l->LsR K O H ls as->ns.length=as.length->as.Nodup →
  ∃b vs,(ns.zip (as.map V.ref)).lookup f=ZA (.ref b)/\b∈as/\H b=ZA (.lst vs)/\Reps K O H l vs/\∀(l':List T)(vs':List V),O b->Reps K O H l' vs'->LsR K O (upd H b (.lst vs')) (jx f l' ns ls) as
 |[],as,ls,l,h,_,_,_=>by cases ls <;> cases h
 |n::ns,[],ls,l,h,_,hl,_=>by cases hl
 |n::ns,b::as,[],l,h,_,_,_=>by cases h
 |n::ns,b::as,u::ls,l,h,r,hl,nd=>by
  obtain⟨b',bs,vs,e1,e2,e3,e4⟩:=r;cases e1
  have nb:b∉as:=(On.mp nd).1
  have h':(if n=f then ZA u else kj f ns ls)=ZA l:=h
  show ∃c ws,((n,V.ref b)::ns.zip (as.map V.ref)).lookup f=_/\_
  rw[OV]
  have keep:∀(c:ZE)(vs':List V),O c->∀{t:List T}{ws:List V},Reps K O H t ws->Reps K O (upd H c (.lst vs')) t ws:=λc vs' hc t ws q=>Reps.keep (P:=λa=>a=c) (λd o e n=>by rw[aG n];exact e) (λa z=>z▸hc) q
  by_cases z:n=f
  ·subst z
   rw[if_pos rfl]at h';cases h';refine⟨b,vs,by rw[beq_self_eq_true],NU,e2,e3,λl' vs' ob rl=>?_⟩
   show LsR K O _ (if n=n then l'::ls else _) _
   rw[if_pos rfl];refine⟨b,as,vs',rfl,aJ,keep _ _ ob rl,?_⟩
   clear h hl nd e3 e2
   induction ls generalizing as with
   |nil=>exact e4
   |cons w ls ih=>
    obtain⟨c,cs,ws,f1,f2,f3,f4⟩:=e4;subst f1;exact⟨c,cs,ws,rfl,by rw[aG (λy=>nb (by rw[<-y];exact NU))];exact f2,keep _ _ ob f3,ih cs f4 λy=>nb (NR _ y)⟩
  ·rw[if_neg z]at h'
   rw[beq_eq_false_iff_ne.mpr (P4 z)];obtain⟨d,ws,g1,g2,g3,g4,g5⟩:=yU h' e4 (by simpa using hl) (On.mp nd).2
   refine⟨d,ws,g1,NR _ g2,g3,g4,λl' vs' od rl=>?_⟩
   show LsR K O _ (if n=f then l'::ls else u::jx f l' ns ls) _
   rw[if_neg z];exact⟨b,as,vs,rfl,by rw[aG (λy=>nb (by rw[y];exact g2))];exact e2,keep _ _ od e3,g5 l' vs' od rl⟩
def Ev.putF{ns:List Str}{ls:List (List T)}(E:Ev K B M H Z σ)(hi:Z[i]?=ZA (.ow (.ob c ns ls)))(hf:kj f ns ls=ZA l):
  ∃p dx fs b vs,σ[i]?=ZA (ZA (.ref p))/\H p=ZA (.ins (bO K c) dx fs)/\fs.lookup f=ZA (.ref b)/\H b=ZA (.lst vs)/\Reps K (OO B M) H l vs/\∀(l':List T)(vs':List V),Reps K (OO B M) H l' vs' →
   Ev K B M (upd H b (.lst vs')) (Z.set i (.ow (.ob c ns (jx f l' ns ls)))) σ/\SameO M.u H (upd H b (.lst vs')):=by
 obtain⟨v0,s0,p,dx,as,e1,e2,⟨n1,n2,n3,n4⟩,e4,e5,e6,e7,e8⟩:=E.env.own i _ hi;subst e1;obtain⟨b,vs,g1,g2,g3,g4,g5⟩:=yU hf e8 e6 n4
 have Mb:M i b:=(e2 b).mpr (.inr (.inr g2));refine⟨p,dx,_,b,vs,s0,e4,g1,g3,g4,λl' vs' rl=>?_⟩
 have sm:SameO (M i) H (upd H b (.lst vs')):=λd u e nb=>by rw[aG (λz=>nb (by rw[z];exact Mb))];exact e
 refine E.put hi s0 sm ⟨p,dx,as,rfl,e2,⟨n1,n2,n3,n4⟩,?_,?_,e6,e7,g5 l' vs' (.inr ⟨i,Mb⟩) rl⟩
 ·rw[aG (jR e4 g3 (λz=>nomatch z))];exact e4
 ·rw[aG (jR e5 g3 (λz=>nomatch z))];exact e5
def KW(i:Nat)(hc:Cls X.K (bO X.K c))(hn:NoAttr X.K (bO X.K c) f)(ha:cE X a fa)(hN:X.N[i]?=ZA x:=by rfl)(hv:autoParam (lX X.env.scope x) u_)(hs:bp a=ZC:=by rfl)
  (hb1:Ox (.Name x p2) f X.env (eval (.Name x p2) X.env)=eval (.Name x p2) X.env:=by rfl)
  (hbase:Ox (.Attribute (.Name x p2) f p3) "append" X.env (eval (.Attribute (.Name x p2) f p3) X.env)=eval (.Attribute (.Name x p2) f p3) X.env:=by rfl) (hline:(apos.endLine == cpos.line)=ZC:=by rfl)
  (hd:autoParam ((x == ("__debug__" : Str))=ZD) s_) (hcd:autoParam ((x == ("__classdict__" : Str))=ZD) s_):Az X (.Call (.Attribute (.Attribute (.Name x p2) f p3) "append" apos) [a] [] cpos) (vq i c f fa):=by
 have h1:N5 [a] X.env=(ZD,eval a X.env)::N5 [] X.env:=a9 hs;refine PE.imp (wb Pn Sq Sr nv (ym (eG hN hv hd hcd) hb1) (bz ha d6 h1) hbase (by rw[h1];rfl) hline h1 rfl) λσ H Q ⟨Z,B,M,E,h⟩=>?_
 unfold vq at h
 split at h
 ·rename_i c' ns ls hl
  split at h
  ·rename_i hcc
   subst hcc
   split at h
   ·rename_i l hf
    obtain⟨p,dx,fs,b,vs,s0,e1,e2,e3,e4,k⟩:=E.putF hl hf;refine⟨.ref p,s0,p,_,dx,fs,.ref b,rfl,e1,hc,hn,e2,.inl ⟨rfl,vs,SqL.of e3⟩,Z,OO B M,E.o,?_⟩
    cases q:fa Z with
    |bad=>rw[q]at h;exact h.elim
    |err c=>rw[q]at h;exact h
    |ok t=>
     rw[q,ay]at h
     split at h
     ·rename_i hz
      intro H1 s1 v r;obtain⟨p',dx',fs',b',vs',s0',e1',e2',e3',e4',k'⟩:=(E.same s1).putF hl hf;cases s0.symm.trans s0'
      have z1:=(s1 _ _ e1).symm.trans e1';cases z1;cases e2.symm.trans e2'
      have z3:=(s1 _ _ e3).symm.trans e3';cases z3;obtain⟨g1,g2⟩:=k' (l++[t]) (vs++[v]) (e4'.append (Reps.FS r Reps.GE));exact⟨b,vs,v,rfl,rfl,e3',by rw[<-e4.length];exact hz,h .non _ M (λc o e nb=>g2 c o (s1 _ _ e) nb) g1 (λc z=>.inl z) Rep.Nq⟩
     ·exact h.elim
   ·exact h.elim
  ·exact h.elim
 ·exact h.elim
def KR(i:Nat)(hc:Cls X.K (bO X.K c))(hn:NoAttr X.K (bO X.K c) f)(hN:X.N[i]?=ZA x:=by rfl)(hv:autoParam (lX X.env.scope x) u_)
  (hb1:Ox (.Name x p2) f X.env (eval (.Name x p2) X.env)=eval (.Name x p2) X.env:=by rfl)
  (hbase:Ox (.Attribute (.Name x p2) f p3) "pop" X.env (eval (.Attribute (.Name x p2) f p3) X.env)=eval (.Attribute (.Name x p2) f p3) X.env:=by rfl) (hline:(apos.endLine == cpos.line)=ZC:=by rfl)
  (hd:autoParam ((x == ("__debug__" : Str))=ZD) s_) (hcd:autoParam ((x == ("__classdict__" : Str))=ZD) s_):Az X (.Call (.Attribute (.Attribute (.Name x p2) f p3) "pop" apos) [] [] cpos) (xS i c f):=by
 refine PE.imp (Jr Pn PySem.F.slot_list_pop PySem.F.type_list_pop JM (ym (eG hN hv hd hcd) hb1) hbase hline) λσ H Q ⟨Z,B,M,E,h⟩=>?_
 unfold xS at h
 split at h
 ·rename_i c' ns ls hl
  split at h
  ·rename_i hcc
   subst hcc
   split at h
   ·rename_i l hf
    split at h
    ·rename_i t ht
     obtain⟨p,dx,fs,b,vs,s0,e1,e2,e3,e4,k⟩:=E.putF hl hf
     have hlen:=e4.length
     have hne:l≠ []:=λz=>by rw[z]at ht;cases ht
     rw[List.getLast?_eq_getElem?]at ht
     obtain⟨w,w1,w2⟩:=e4.get ht;rw[hlen]at w1;obtain⟨g1,g2⟩:=k l.dropLast vs.dropLast (by rw[Te,Te,hlen];exact e4.take _)
     refine⟨.ref p,s0,p,_,dx,fs,.ref b,rfl,e1,hc,hn,e2,.inl ⟨rfl,vs,SqL.of e3⟩,b,vs,w,rfl,rfl,e3,w1,?_⟩
     refine h w _ M g2 g1 (λc z=>.inl z) (w2.keep (P:=λa=>a=b) (λd o e n=>by rw[aG n];exact e) λa z=>?_)
     obtain⟨v0,s1,p',dx',as,f1,f2,f3,f4,f5,f6,f7,f8⟩:=E.env.own i _ hl;rw[f1]at s1;cases s0.symm.trans s1;cases e1.symm.trans f4;obtain⟨b2,vs2,y1,y2,_⟩:=yU hf f8 f6 f3.2.2.2;rw[e2]at y1;cases y1;exact .inr ⟨i,(f2 a).mpr (.inr (.inr (z▸y2)))⟩
    ·exact h.elim
   ·exact h.elim
  ·exact h.elim
 ·exact h.elim
end
variable{m:Str}
theorem o5:∀{fs:List (Str×V)},(fs.map (·.1)).contains m=ZD->fs.lookup m=ZB
 |[],_=>rfl
 | (n,v)::fs,h=>by
  rw[NT,Pd,TH]at h;rw[OV,h.1];exact o5 h.2
variable{f:ZE}{fo:V5}{ps:List Str}
section
variable {o:ZG}{fs:V3}{p2:Pos}
def Ga{pl:Sem Bool}{g:List T->Rs T}(hc:Cls X.K (bO X.K c))(hm:xJ X.K (bO X.K c) m f)(F:E5 X.prog X.w X.K X.mg X.base k f fd ps 1 g)(hr:Room k X.A)(hb:Binds X.K fd ps [])(hps:ps.length=1)(ho:cE X o fo)
  (ht:eval (.Call (.Attribute o m apos) [] [] pos) X.env=(do
   let ov <-eval o X.env
   standAt apos.atName
   let (f,first) <-holding [ov] (R4 ov m pl)
   Uz pos f first (backTo pos (N5 [] X.env)) (Sh pos (Q0 [] X.env))):=by rfl):cE X (.Call (.Attribute o m apos) [] [] pos) (r6 c m g fo aj):=by
 intro lm s σ H Q I ⟨Z,O,E,hq⟩;refine RF (pl:=pl) (bW (ho lm s σ H _ I (aZ E hq)) λu s1 ⟨v,H1,I1,rx,t,r,sm,E1,q⟩=>?_) ht
 cases t with
 |ob c' ns ts=>
  dsimp only at q
  split at q
  ·rename_i hcc
   obtain⟨h1,h2⟩:=hcc;subst h1;obtain⟨p,dx,fs',rfl,n,e3,e4,e5⟩:=Rep.Nh.mp r;obtain rfl:u=.ref p:=rx;subst e4;refine lT I1 e3 hc hm (o5 h2) ?_
   exact TY (first:=[.ref p]) I1.kIn hm.kp (La (us:=[.ref p]) (vs:=[.ref p]) F hr hb hps I1 (.cons rfl .nil) (Reps.FS r Reps.GE) E1.mtb rfl q)
  ·exact q.elim
 |_=>exact q.elim
end
def spE(K:NQ)(n j:Nat)(g:List Sl->Rs (T×OT)):Sp:=λvs H Q _=>∃sls B m v,Ev K B (one j m) H sls (vs.map ZA)/\sls.length=n/\vs[j]?=ZA v ∧
 match g sls with
 |.ok p=>∀u H' m',SameO m H H'->ORep K (BM B m') m' H' p.2 v->(∀a,m' a->m a\/Nw K H a)->Rep K (BM B m') H' p.1 u->Q u H'
 |_=>False
def FnXE(P:Oh)(w:O8)(K:NQ)(mg:V0)(base:ZH)(k:Nat)(f:ZE)(fd:OG)(ps:List Str)(n j:Nat)(g:List Sl->Rs (T×OT)):Prop:=
 ∀(A:OB)(outer:List Env)(s:NV)(H:Hp)(args:Args)(us:List NS)(vs:List V)(B m:Ow)(sls:List Sl)(c:Str)(R:TR->NV->Prop),Room k A->Env0 P w K mg base A outer s H->Sj s fd args (ps.zip us)->Vals vs us →
  Ev K B (one j m) H sls (vs.map ZA)->sls.length=n->g sls=.err c->(∀ev s',MV P w mg outer H s c ev s'->R (.error ev) s')->ZL (ZK P w) A (.call (.ref f) args) R s
structure Fg (P:Oh)(w:O8)(K:NQ)(mg:V0)(base:ZH)(k:Nat)(f:ZE)(fd:OG)(ps:List Str)(n j:Nat)(g:List Sl->Rs (T×OT)):Prop where
 h:FnOk P w K mg base CX0 k f fd ps (spE K n j g)
 x:FnXE P w K mg base k f fd ps n j g
variable{sls:List Sl}{ts:List T}{v0:V}{vs:List V}
section
variable {H':Hp}{o:OT}{v:V}{m:Ow}
abbrev BC(B:Ow)(M:Mn)(i:Nat):Ow:=λa=>OO B M a/\¬ M i a
def ze:OO (BC B M i) (one j (M i)) a->OO B M a:=λz=>(one_oo.mp z).elim (λw=>w.1) λw=>.inr ⟨i,w⟩
def Ev.args{ws:List V}(E:Ev K B M H Z σ)(hi:Z[i]?=ZA (.ow o))(hs:σ[i]?=ZA (ZA v0))(hl:sls.length=ws.length)(hj:sls[j]?=ZA (.ow o))(hw:ws[j]?=ZA v0)
  (ho:∀(k:Nat)(o':OT),sls[k]?=ZA (Sl.ow o')->k=j) (hv:∀(k:Nat)(t:T),sls[k]?=ZA (Sl.va t)->∃w,ws[k]?=ZA w/\Rep K (OO B M) H t w):Ev K (BC B M i) (one j (M i)) H sls (ws.map ZA):=by
 obtain⟨v',s',r⟩:=E.env.own i o hi;rw[hs]at s';cases s';refine⟨⟨by rw[NW];exact hl,λk t e=>?_,λk o' e=>?_,λk a z=>.inr ⟨k,z⟩,λk k' a z1 z2=>?_,λa z=>E.env.trk a (ze z)⟩,λa z y=>y.2 (one_u.mp z)⟩
 ·obtain⟨w,e1,e2⟩:=hv k t e
  exact⟨w,by rw[Oj,e1];rfl,e2.less λa z=>ze z⟩
 ·have hk:=ho k o' e
  subst hk;rw[hj]at e;cases e;refine⟨v0,by rw[Oj,hw];rfl,?_⟩
  rw[show one k (M i) k=M i from Mn.Nb]
  exact r.move (P:=lq) (λ_ z=>z.elim) (λa z=>.inl (ze z)) (λb u q _=>q) λ_ _ z=>z
 ·unfold one Mn.set at z1 z2
  by_cases h1:k=j
  ·by_cases h2:k'=j
   ·exact h1.trans h2.symm
   ·rw[if_neg h2]at z2;exact z2.elim
  ·rw[if_neg h1]at z1;exact z1.elim
def Ev.ret{t:T}{u:V}(E:Ev K B M H Z σ)(hi:Z[i]?=ZA (.ow o))(hs:σ[i]?=ZA (ZA v0))(s:SameO (M i) H H')(r:ORep K (BM (BC B M i) m) m H' o' v0)(hm:∀a,m a->M i a\/Nw K H a)(rt:Rep K (BM (BC B M i) m) H' t u):
  Ev K B (M.set i m) H' (Z.set i (.ow o')) σ/\SameO M.u H H'/\(∀a,(M.set i m).u a->M.u a\/Nw K H a)/\Rep K (OO B (M.set i m)) H' t u:=by
 have sub:∀a,OO B (M.set i m) a->BM (BC B M i) m a:=λa z=>by
  rcases z with z|⟨k,z⟩
  ·exact .inl ⟨.inl z,λw=>E.mine a ⟨i,w⟩ z⟩
  ·unfold Mn.set at z
   by_cases hk:k=i
   ·rw[if_pos hk]at z;exact .inr z
   ·rw[if_neg hk]at z;exact .inl ⟨.inr ⟨k,z⟩,λw=>hk (E.env.dis k i a z w)⟩
 obtain⟨g1,g2,g3⟩:=E.back hi hs s (r.move (P:=lq) (λ_ z=>z.elim) (λa z=>.inl (sub a z)) (λb u q _=>q) λ_ _ z=>z) hm
 exact⟨g1,g2,g3,rt.less sub⟩
end
variable{H1:Hp}{Q:VK}{g:List Sl->Rs (T×OT)}{lm:V2}
section
variable {m:Ow}{v:V}
def Ia(X:Cx)(B m:Ow)(v:V)(H:Hp)(r:Rs (T×OT))(Q:VK):Prop:=match r with
 |.ok p=>∀u H' m',SameO m H H'->ORep X.K (BM B m') m' H' p.2 v->(∀a,m' a->m a\/Nw X.K H a)->Rep X.K (BM B m') H' p.1 u->Q u H'
 |.err c=>XA X lq H c
 |.bad=>False
def Cv(F:Fg X.prog X.w X.K X.mg X.base k f fd ps n j g)(hr:Room k X.A)(hb:Binds X.K fd ps [])(hps:ps.length=n)(I:Inv X lm σ H s)(r:Vals vs us)(Ea:Ev X.K B (one j m) H sls (vs.map ZA))(hl:sls.length=n)(hv:vs[j]?=ZA v)
  (hq:Ia X B m v H (g sls) Q):ZJ (ZK X.prog X.w) X.A (call (.ref f) us) (EP X lm σ Q) X.xe s:=by
 cases q2:g sls with
 |bad=>rw[q2]at hq;exact hq.elim
 |ok p=>
  rw[q2]at hq;refine t9 (E:=E0) (dvs:=[]) (ds:=[]) F.h hr hb .nil wc I r ⟨sls,B,m,v,by simpa using Ea,hl,by simpa using hv,?_⟩
  rw[q2]
  exact hq
 |err c=>
  rw[q2]at hq
  have hlen:us.length=ps.length:=by rw[<-r.length,hps,<-hl,Ea.env.len,NW]
  have hb':=hb s us I.kIn (by rw[Ou];exact hlen)
  rw[Ou]at hb';refine RA (Qn (F.x X.A X.stack s H ⟨us,[]⟩ us vs B m sls c (λr s'=>match r with|.error ev=>X.xe ev s'|_=>False) hr I.Nk hb' r Ea hl q2 λev s' w=>?_) λr s' hq=>?_)
  ·obtain⟨ea,T,C,H',rfl,hmc,ho,hbare,hun,hok,sm2,hea,heo,fl,hT,hTo⟩:=w
   have I2:Inv X lm σ H' s':=I.Ng ho hun hok hbare (λb z=>absurd z (by simp))
   exact hq lm _ _ ⟨ea,ZA T,C,σ,H',rfl,hmc,I2,λb o q _=>sm2 b o q,hea,λhex=>eI I hex heo,fl,(λt zt=>by cases zt;exact⟨hT,λhex=>eI I hex hTo⟩),λpp hpp=>⟨λzz=>(by have:=(I.pin pp hpp).1;rw[zz,heo]at this;cases this),λzz=>(by cases zz;have:=(I.pin pp hpp).1;rw[hTo]at this;cases this)⟩⟩
  ·cases r with
   |error ev=>exact hq
   |ok fl=>exact hq.elim
def yi{o:OT}{H0:Hp}{P0:Ow}(E:Ev X.K B M H Z σ)(hi:Z[i]?=ZA (.ow o))(hs:σ[i]?=ZA (ZA v0)){r:Rs (T×OT)}(h:PostX X B M.u σ H (BY i Z r) Q):Ia X (BC B M i) (M i) v0 H r Q:=by
 cases r with
 |bad=>exact h
 |err c=>exact h
 |ok p=>
  intro u H' m' s r hm rt;obtain⟨g1,g2,g3,g4⟩:=E.ret hi hs s r hm rt;exact h u H' _ g2 g1 g3 g4
theorem PostX.later{P:Ow}{r:Rs (T×En)}(h:PostX X B P σ H r Q)(s:Same H H1):PostX X B P σ H1 r Q:=by
 cases r with
 |bad=>exact h
 |err c=>exact XA.later h (SameO.of s) λ_ z=>z.elim
 |ok p=>exact λv H' M' s' E' o' r'=>h v H' M' (λb o e nb=>s' b o (s _ _ e) nb) E' (λa z=>(o' a z).imp_right (fO s)) r'
def qQ{o:OT}(h:(Sl.ow o::ts.map Sl.va)[k]?=ZA (.ow o')):k=0:=by
 cases k with
 |zero=>rfl
 |succ k=>
  rw[Px,Oj]at h
  cases z:ts[k]? <;> rw[z]at h <;> cases h
def qP{o:OT}(r:Reps K O H ts vs){t:T}(h:(Sl.ow o::ts.map Sl.va)[k]?=ZA (.va t)):∃w,(v0::vs)[k]?=ZA w/\Rep K O H t w:=by
 cases k with
 |zero=>cases h
 |succ k=>
  rw[Px,Oj]at h
  cases z:ts[k]? with
  |none=>rw[z]at h;cases h
  |some u=>
   rw[z]at h;cases h;exact r.get z
end
section
variable {fs:V3}{p2:Pos}{y:Str}
def Io{pl:Sem Bool}(i:Nat)(hc:Cls X.K (bO X.K c))(hm:xJ X.K (bO X.K c) m f)(F:Fg X.prog X.w X.K X.mg X.base k f fd ps n 0 g)(hr:Room k X.A)(hb:Binds X.K fd ps [])(hps:ps.length=n)(hl:∀Z ts,fs Z=.ok ts->ts.length+1=n)(ha:pk X (e::es) fs)
  (hN:X.N[i]?=ZA x:=by rfl) (hv:autoParam (lX X.env.scope x) u_) (hd:autoParam ((x == ("__debug__" : Str))=ZD) s_) (hcd:autoParam ((x == ("__classdict__" : Str))=ZD) s_)
  (hst:N5 (e::es) X.env=(ZD,eval e X.env)::N5 es X.env:=by rfl) (hpl:(backTo pos (N5 es X.env)).any (·.1)=ZD:=by rfl)
  (ht:eval (.Call (.Attribute (.Name x p2) m apos) (e::es) [] pos) X.env=(do
   let ov <-eval (.Name x p2) X.env
   standAt apos.atName
   let (f,first) <-holding [ov] (R4 ov m pl)
   Uz pos f first (backTo pos (N5 (e::es) X.env)) (Sh pos (Q0 [] X.env))):=by rfl):
  Az X (.Call (.Attribute (.Name x p2) m apos) (e::es) [] pos) (cX i c m g fs):=by
 intro lm s σ H Q I ⟨Z,B,M,E,h⟩;unfold cX at h
 split at h
 ·rename_i c' ns ls hi
  split at h
  ·rename_i hcc
   obtain⟨h1,h2⟩:=hcc;subst h1;obtain⟨v0,s0,q,dx,as,e1,e2,e3,e4,e5,e6,e7,e8⟩:=E.env.own i _ hi;subst e1;refine RF (pl:=pl) (bW (eG (pos:=p2) hN hv hd hcd lm s σ H (λv H'=>v=.ref q/\H'=H) I ⟨_,s0,rfl,rfl⟩) λu s1 ⟨v,H1,I1,rx,ev,eH⟩=>?_) ht
   subst ev eH;obtain rfl:u=.ref q:=rx;refine lT I1 e4 hc hm (o5 (by rw[oS (by rw[NW];exact e6)];exact h2)) ?_
   refine PV (first:=[.ref q]) (h₀:=X.base) I.ok.mod.kin hm.kp (bW (ha pos lm s1 σ H1 (λvs H2=>∃ts,fs Z=.ok ts/\Same H1 H2/\Reps X.K (OO B M) H2 ts vs) I1 ⟨Z,OO B M,E.o,?_⟩) λus s2 ⟨vs,H2,I2,r,ts,q1,sm,rs⟩=>⟨I2.kIn,?_⟩) hst hpl
   ·cases z:fs Z with
    |bad=>rw[z]at h;exact h.elim
    |err c=>rw[z]at h;exact h
    |ok ts=>exact λH' s' vs rs=>⟨ts,rfl,s',rs⟩
   ·rw[q1,ay]at h
    have E2:=E.same sm;refine Cv (us:=.ref q::us) (vs:=.ref q::vs) (v:=.ref q) F hr hb hps I2 (.cons rfl r) (E2.args (o:=.ob c' ns ls) hi s0 (by rw[NZ,NZ,NW,rs.length]) rfl rfl (λk o' z=>qQ z) λk t z=>qP rs z) ?_ rfl (yi (H0:=H1) (P0:=lq) E2 hi s0 (h.later sm))
    rw[NZ,NW];exact hl Z ts q1
  ·exact h.elim
 ·exact h.elim
def Fs{pl:Sem Bool}(i:Nat)(hc:Cls X.K (bO X.K c))(hm:xJ X.K (bO X.K c) m f)(F:Fg X.prog X.w X.K X.mg X.base k f fd ps 1 0 g)(hr:Room k X.A)(hb:Binds X.K fd ps [])(hps:ps.length=1)
  (hN:X.N[i]?=ZA x:=by rfl) (hv:autoParam (lX X.env.scope x) u_) (hd:autoParam ((x == ("__debug__" : Str))=ZD) s_) (hcd:autoParam ((x == ("__classdict__" : Str))=ZD) s_)
  (ht:eval (.Call (.Attribute (.Name x p2) m apos) [] [] pos) X.env=(do
   let ov <-eval (.Name x p2) X.env
   standAt apos.atName
   let (f,first) <-holding [ov] (R4 ov m pl)
   Uz pos f first (backTo pos (N5 [] X.env)) (Sh pos (Q0 [] X.env))):=by rfl):
  Az X (.Call (.Attribute (.Name x p2) m apos) [] [] pos) (cX i c m g aj):=by
 intro lm s σ H Q I ⟨Z,B,M,E,h⟩;unfold cX at h
 split at h
 ·rename_i c' ns ls hi
  split at h
  ·rename_i hcc
   obtain⟨h1,h2⟩:=hcc;subst h1;obtain⟨v0,s0,q,dx,as,e1,e2,e3,e4,e5,e6,e7,e8⟩:=E.env.own i _ hi;subst e1;refine RF (pl:=pl) (bW (eG (pos:=p2) hN hv hd hcd lm s σ H (λv H'=>v=.ref q/\H'=H) I ⟨_,s0,rfl,rfl⟩) λu s1 ⟨v,H1,I1,rx,ev,eH⟩=>?_) ht
   subst ev eH;obtain rfl:u=.ref q:=rx;refine lT I1 e4 hc hm (o5 (by rw[oS (by rw[NW];exact e6)];exact h2)) ?_
   exact TY (first:=[.ref q]) I1.kIn hm.kp (Cv (us:=[.ref q]) (vs:=[.ref q]) (v:=.ref q) F hr hb hps I1 (.cons rfl .nil) (E.args (o:=.ob c' ns ls) hi s0 rfl rfl rfl (λk o' z=>qQ (ts:=[]) z) λk t z=>qP (ts:=[]) Reps.GE z) rfl rfl (yi (H0:=H1) (P0:=lq) E hi s0 h))
  ·exact h.elim
 ·exact h.elim
def KU(i:Nat)(F:Fg X.prog X.w X.K X.mg X.base k f fd ps n 0 g)(hr:Room k X.A)(hm:X.mg y=ZA (.ref f))(hk:PP X.K (.ref f)=ZC)(hb:Binds X.K fd ps [])(hps:ps.length=n)(hl:∀Z ts,fs Z=.ok ts->ts.length+1=n)(ha:pk X es fs)
  (hN:X.N[i]?=ZA x:=by rfl) (hv:autoParam (lX X.env.scope x) u_) (hd:autoParam ((x == ("__debug__" : Str))=ZD) s_) (hcd:autoParam ((x == ("__classdict__" : Str))=ZD) s_)
  (hg:Gl X y:=by rfl) (hdb:autoParam ((y == ("__debug__" : Str))=ZD) s_) (he:N5 (.Name x p2::es) X.env=(ZD,eval (.Name x p2) X.env)::N5 es X.env:=by rfl) (hpl:(backTo pos (N5 es X.env)).any (·.1)=ZD:=by rfl):
  Az X (.Call (.Name y p) (.Name x p2::es) [] pos) (xT i g fs):=by
 intro lm s σ H Q I ⟨Z,B,M,E,h⟩;unfold xT at h
 split at h
 ·rename_i o hi
  obtain⟨v0,s0,r0⟩:=E.env.own i _ hi;refine ON (fR I hg hm ?_ hdb)
  refine PV (h₀:=X.base) I.ok.mod.kin hk (bW (bz (eG (pos:=p2) hN hv hd hcd) ha he pos lm s σ H (λws H2=>∃ts vs,ws=v0::vs/\fs Z=.ok ts/\Same H H2/\Reps X.K (OO B M) H2 ts vs) I ⟨v0,s0,Z,OO B M,E.o,?_⟩) λus s2 ⟨ws,H2,I2,r,ts,vs,e1,q1,sm,rs⟩=>⟨I2.kIn,?_⟩) he hpl
  ·cases z:fs Z with
   |bad=>rw[z]at h;exact h.elim
   |err c=>rw[z]at h;exact h
   |ok ts=>exact λH' s' vs rs=>⟨ts,vs,rfl,rfl,s',rs⟩
  ·subst e1
   rw[q1,ay]at h
   have E2:=E.same sm;refine Cv (v:=v0) F hr hb hps I2 r (E2.args (o:=o) hi s0 (by rw[NZ,NZ,NW,rs.length]) rfl rfl (λk o' z=>qQ z) λk t z=>qP rs z) ?_ rfl (yi (H0:=H) (P0:=lq) E2 hi s0 (h.later sm))
   rw[NZ,NW];exact hl Z ts q1
 ·exact h.elim
end
variable{A:List ZF}{G:V4}{a:ZG}{fb:V5}{y:En->Rs (T×En)}
section
variable {c:ZG}{x:En->Rs (T×En)}{fs:V3}{p2:Pos}{cb:List ZG}
def KS(E:Ev X.K B M H Z σ)(he:∀c,x Z=.err c->XA X lq H c)(hb:x Z≠ .bad):
  tX X x σ H λv H1=>∃p M1,x Z=.ok p/\SameO M.u H H1/\Ev X.K B M1 H1 p.2 σ/\(∀a,M1.u a->M.u a\/Nw X.K H a)/\Rep X.K (OO B M1) H1 p.1 v:=by
 refine⟨Z,B,M,E,?_⟩
 cases z:x Z with
 |bad=>exact(hb z).elim
 |err c=>exact he c z
 |ok p=>exact λv H' M' s e o r=>⟨p,M',rfl,s,e,o,r⟩
def KJ(X:Cx)(B P:Ow)(σ:L2.St)(H:Hp)(r:Rs (Bool×En))(Q:Bool->Hp->Prop):Prop:=match r with
 |.ok p=>∀H' M',SameO P H H'->Ev X.K B M' H' p.2 σ->(∀a,M'.u a->P a\/Nw X.K H a)->Q p.1 H'
 |.err c=>XA X lq H c
 |.bad=>False
def tXB(X:Cx)(f:En->Rs (Bool×En)):TT:=λσ H Q=>∃Z B M,Ev X.K B M H Z σ/\KJ X B M.u σ H (f Z) Q
abbrev PXT(X:Cx)(e:ZG)(f:En->Rs (Bool×En)):Prop:=PT X e (tXB X f)
def BX{g:T->T->Rs T}{p:T×En}{M1:Mn}{vx:V}(ho:OpT X (OM op) g)(hb:cE X b fb)(I1:Inv X lm σ H1 s1)(r1:RelV vx v)(sm:SameO M.u H H1)(E1:Ev X.K B M1 H1 p.2 σ)
  (gr:∀a,M1.u a->M.u a\/Nw X.K H a) (rt:Rep X.K (OO B M1) H1 p.1 vx) (h:PostX X B M.u σ H (JH (fb p.2 >>= g p.1) >>= λt=>.ok (t,p.2)) Q):
  ZJ (ZK X.prog X.w) X.A (eval b X.env) (λu s2=>ZJ (ZK X.prog X.w) X.A (OM op v u) (EP X lm σ Q) X.xe s2) X.xe s1:=by
 cases z:fb p.2 with
 |bad=>rw[z]at h;exact h.elim
 |err c=>rw[z]at h;exact h.elim
 |ok t2=>
  rw[z,ay]at h;refine bW (hb lm s1 σ H1 (λu H2=>Same H1 H2/\Rep X.K (OO B M1) H2 t2 u) I1 ⟨p.2,OO B M1,E1.o,by rw[z];exact λH' s u r=>⟨s,r⟩⟩) λu s2 hh_=>?_
  obtain⟨y,H2,I2,r2,s',rt2⟩:=hh_;refine ho lm s2 σ H2 (OO B M1) p.1 t2 vx y v u Q I2 (λp=>(E1.same s').o.fresh) (rt.same s') rt2 r1 r2 ?_
  cases z2:g p.1 t2 with
  |bad=>rw[z2]at h;exact h.elim
  |err c=>rw[z2]at h;exact h.elim
  |ok t3=>
   rw[z2]at h;exact λH' s3 v r=>h v H' M1 (λb o e nb=>s3 _ _ (s' _ _ (sm b o e nb))) ((E1.same s').same s3) gr r
def Ik{g:T->T->Rs T}(ho:OpT X (OM op) g)(ha:Az X a x)(hb:cE X b fb)(hm:Qm op b=ZD:=by rfl):PXT X (.Compare a [op] [b] pos) (Il (Ft g x fb)):=by
 intro lm s σ H Q I ⟨Z,B,M,E,h⟩
 have h':PostX X B M.u σ H (Ft g x fb Z) λv H'=>∃k,v=.bl k/\Q k H':=by
  unfold Il at h
  cases z:Ft g x fb Z with
  |bad=>rw[z]at h;exact h
  |err c=>rw[z]at h;exact h
  |ok p=>
   rw[z,ay]at h;obtain⟨t,Z'⟩:=p
   cases t with
   |bl k=>exact λv H' M' s e o r=>⟨k,Rep.FM.mp r,h H' M' s e o⟩
   |_=>exact h.elim
 unfold Ft at h';refine RN (bW (ha lm s σ H _ I (KS E (λc z=>by rw[z]at h';exact h') (λz=>by rw[z]at h';exact h'))) λv s1 ⟨vx,H1,I1,r1,p,M1,hx,sm,E1,gr,rt⟩=>?_) hm
 rw[hx,ay]at h';refine bW (BX ho hb I1 r1 sm E1 gr rt h') λu s2 q2=>bW q2 λd s3 hh_=>?_
 obtain⟨z,H3,I3,r3,k,ez,q3⟩:=hh_;subst ez;cases r3;exact OY ⟨H3,I3,q3⟩
variable {f g:En->Rs (Bool×En)}
def IU{C:List ZF}{F:V4}(hc:PXT X c f)(ha:mP X A F)(hb:mP X C G):pj X (.If c A C pos) (ye f F G):=PS.imp (v5 hc ha hb) λD σ H hh_=>by
 obtain⟨Z,B,M,E,h⟩:=hh_;refine⟨Z,B,M,E,?_⟩
 unfold ye at h
 cases z:f Z with
 |bad=>rw[z]at h;exact h.elim
 |err c=>rw[z]at h;exact PostF.xa h
 |ok p=>
  rw[z,ay]at h;obtain⟨k,Z'⟩:=p;intro H' M' s' E' o'
  cases k with
  |true=>refine L2.iteT ?_;exact⟨Z',B,M',E',PostF.later (by simpa using h) s' o'⟩
  |false=>refine L2.iteF ?_;exact⟨Z',B,M',E',PostF.later (by simpa using h) s' o'⟩
end
def PostM(X:Cx)(B P:Ow)(j:Nat)(σ:L2.St)(H:Hp)(r:Rs Fx)(D:nP):Prop:=match r with
 |.ok (.nx Z')=>∀σ' H' M',SameO P H H'->Ev X.K B M' H' Z' σ'->(∀a,M'.u a->P a\/Nw X.K H a)->σ'[j]?=σ[j]?->D.nx σ' H'
 |.ok (.rt t Z')=>∀v σ' H' M',SameO P H H'->Ev X.K B M' H' Z' σ'->(∀a,M'.u a->P a\/Nw X.K H a)->σ'[j]?=σ[j]?->Rep X.K (OO B M') H' t v->D.rt v H'
 |.err c=>XA X lq H c
 |.bad=>False
def tPM(X:Cx)(j:Nat)(F:En->Rs Fx):TS:=λD σ H=>∃Z B M,Ev X.K B M H Z σ/\PostM X B M.u j σ H (F Z) D
abbrev Fe(X:Cx)(j:Nat)(s:ZF)(F:En->Rs Fx):Prop:=PS X s (tPM X j F)
abbrev BB(X:Cx)(j:Nat)(s:List ZF)(F:En->Rs Fx):Prop:=PSs X s (tPM X j F)
variable{D:nP}{r:Rs Fx}{st:ZF}
section
variable {c:ZG}{x:En->Rs (T×En)}{fs:V3}{p2:Pos}
def PostM.later{P P1:Ow}{σ1:L2.St}(h:PostM X B P j σ H (JH r) D)(s:SameO P H H1)(sub:∀a,P1 a->P a\/Nw X.K H a)(hj:σ1[j]?=σ[j]?):PostM X B P1 j σ1 H1 r D:=by
 have back:∀a,P1 a\/Nw X.K H1 a->P a\/Nw X.K H a:=λa z=>z.elim (sub a) (g8 s)
 cases r with
 |bad=>exact h
 |err c=>exact h.elim
 |ok f=>
  cases f with
  |nx Z'=>exact λσ' H' M' s' E' o' k=>h σ' H' M' (s.trans s' sub) E' (λa z=>back a (o' a z)) (k.trans hj)
  |rt t Z'=>exact λv σ' H' M' s' E' o' k r=>h v σ' H' M' (s.trans s' sub) E' (λa z=>back a (o' a z)) (k.trans hj) r
def PostM.same{P:Ow}(h:PostM X B P j σ H r D)(s:Same H H1):PostM X B P j σ H1 r D:=by
 cases r with
 |err c=>exact XA.later h (SameO.of s) λ_ z=>z.elim
 |bad=>exact h
 |ok f=>exact PostM.later (r:=.ok f) h (SameO.of s) (λa z=>.inl z) rfl
def L4:BB X j [] mN:=PSs.imp oV λD σ H ⟨Z,B,M,E,h⟩=>h σ H M (λ_ _ e _=>e) E (λa z=>.inl z) rfl
def L3{F:En->Rs Fx}(h:Fe X j st F):BB X j [st] F:=gZ h
def JN{cb:List ZF}{F G:En->Rs Fx}(h1:Fe X j st F)(h2:BB X j cb G):BB X j (st::cb) (jU F G):=PSs.imp (jL h1 h2) λD σ H hh_=>by
 obtain⟨Z,B,M,E,h⟩:=hh_;refine⟨Z,B,M,E,?_⟩
 unfold jU at h
 cases q:F Z with
 |bad=>rw[q]at h;exact h.elim
 |err c=>rw[q]at h;exact h
 |ok f=>
  rw[q]at h
  cases f with
  |nx Z'=>exact λσ' H' M' s' E' o' k=>⟨Z',B,M',E',PostM.later h s' o' k⟩
  |rt t Z'=>exact h
def m_ex(ha:Az X a x)(hs:OQ a ZB pos.line X.env=pure ZD:=by rfl):Fe X j (.Expr a pos) (Dq x):=PS.imp (oX ha hs) λD σ H hh_=>by
 obtain⟨Z,B,M,E,h⟩:=hh_;refine⟨Z,B,M,E,?_⟩
 unfold Dq at h
 cases z:x Z with
 |bad=>rw[z]at h;exact h.elim
 |err c=>rw[z]at h;exact h
 |ok p=>rw[z,ay]at h;exact λv H' M' s' E' o' r=>h σ H' M' s' E' o' rfl
def L1(ha:Az X a x):Fe X j (.Return (ZA a) pos) (ij x):=PS.imp (lH ha) λD σ H hh_=>by
 obtain⟨Z,B,M,E,h⟩:=hh_;refine⟨Z,B,M,E,?_⟩
 unfold ij at h
 cases z:x Z with
 |bad=>rw[z]at h;exact h.elim
 |err c=>rw[z]at h;exact h
 |ok p=>rw[z,ay]at h;exact λv H' M' s' E' o' r=>h v σ H' M' s' E' o' rfl r
def m_as(i:Nat){n:Str}(hij:i≠j)(hN:X.N.Nodup)(ha:Az X a x)(hi:X.N[i]?=ZA n:=by rfl)(hx:autoParam (Loc X.env.scope n) x_)(hs:OQ a (ZA (.Name n p3)) pos.line X.env=pure ZD:=by rfl)
  (hf:autoParam (X.fn n=ZC\/X.env.scope.names.lookup n=ZA .local) r_):Fe X j (.Assign [.Name n p3] a pos) (JP i x):=PS.imp (mZ hN hi hx ha hs hf) λD σ H hh_=>by
 obtain⟨Z,B,M,E,h⟩:=hh_;refine⟨Z,B,M,E,?_⟩
 unfold JP at h
 cases z:x Z with
 |bad=>rw[z]at h;exact h.elim
 |err c=>rw[z]at h;exact h
 |ok p=>
  rw[z,ay]at h;intro v H' M' s' E' o' r
  by_cases hl:i<p.2.length
  ·rw[if_pos hl]at h
   exact h _ H' M' s' ⟨E'.env.set hl r,E'.mine⟩ o' (Ol hij)
  ·rw[if_neg hl]at h;exact h.elim
def m_if{f:V6}{C:List ZF}{F G:En->Rs Fx}(hc:tE X c f)(ha:BB X j A F)(hb:BB X j C G):Fe X j (.If c A C pos) (JO f F G):=PS.imp (v5 hc ha hb) λD σ H hh_=>by
 obtain⟨Z,B,M,E,h⟩:=hh_;refine⟨Z,OO B M,E.o,?_⟩
 unfold JO at h
 cases q:f Z with
 |bad=>rw[q]at h;exact h.elim
 |err c=>rw[q]at h;exact h
 |ok k=>
  rw[q,ay]at h;intro H' s
  have E':Ev X.K B M H' Z σ:=E.same s
  cases k with
  |true=>refine L2.iteT ?_;exact⟨Z,B,M,E',PostM.same (by simpa using h) s⟩
  |false=>refine L2.iteF ?_;exact⟨Z,B,M,E',PostM.same (by simpa using h) s⟩
def Ev.blank(E:Ev K B M H Z σ):Ev K (OO B M) noM H (Oi σ.length .em) σ:=
 ⟨⟨by simp,λi t e=>(by rw[Po]at e;split at e <;> cases e),λi o e=>(by rw[Po]at e;split at e <;> cases e),λ_ _ z=>z.elim,λ_ _ _ z=>z.elim,λa z=>E.env.trk a (z.elim id λ⟨_,w⟩=>w.elim)⟩,λa ⟨_,z⟩=>z.elim⟩
def L7{c:Str}(h:pj X st (AN c)):Fe X j st (GH c):=PS.imp h λD σ H hh_=>by
 obtain⟨Z,B,M,E,q⟩:=hh_;refine⟨_,_,_,E.blank,?_⟩
 exact XA.later (P:=lq) q (λ_ _ e _=>e) λ_ ⟨_,z⟩=>z.elim
end
section
theorem sA{f:Str}{b:ZE}:∀{ns:List Str}{as:List ZE},ns.length=as.length->ns.contains f=ZC->∃as1 d as2,as=as1++d::as2/\putF f (.ref b) (ns.zip (as.map V.ref))=ns.zip ((as1++b::as2).map V.ref) ∧
  ∀{O:Ow}{H:Hp}{ls:List (List T)}{l:List T}{vs:List V},H b=ZA (.lst vs)->Reps K O H l vs->LsR K O H ls as->LsR K O H (jx f l ns ls) (as1++b::as2)
 |[],as,_,h=>by cases h
 |n::ns,[],hl,_=>by cases hl
 |n::ns,d::as,hl,h=>by
  by_cases z:n=f
  ·subst z
   refine⟨[],d,as,rfl,?_,λ{O H ls l vs} e1 e2 r=>?_⟩
   ·show(if n=n then(n,V.ref b)::_ else _)=_
    rw[if_pos rfl];rfl
   ·cases ls with
    |nil=>cases (show d::as=[]from r)
    |cons u ls=>
     obtain⟨b',bs,ws,f1,f2,f3,f4⟩:=r;cases f1
     show LsR K O H (if n=n then l::ls else _) _
     rw[if_pos rfl];exact⟨b,as,vs,rfl,e1,e2,f4⟩
  ·have h':ns.contains f=ZC:=by
    rw[Pd,S9]at h;rcases h with h|h
    ·exact absurd (eq_of_beq h).symm z
    ·exact h
   obtain⟨as1,d',as2,g1,g2,g3⟩:=sA (f:=f) (b:=b) (by simpa using hl) h'
   refine⟨d::as1,d',as2,by rw[g1];rfl,?_,λ{O H ls l vs} e1 e2 r=>?_⟩
   ·show(if n=f then _ else(n,V.ref d)::putF f (.ref b) (ns.zip (as.map V.ref)))=_
    rw[if_neg z,g2];rfl
   ·cases ls with
    |nil=>cases (show d::as=[]from r)
    |cons u ls=>
     obtain⟨b',bs,ws,f1,f2,f3,f4⟩:=r;cases f1
     show LsR K O H (if n=f then _ else u::jx f l ns ls) _
     rw[if_neg z];exact⟨d,_,ws,rfl,f2,f3,g3 e1 e2 f4⟩
variable{b:ZE}
theorem zC{f:Str}:∀{ns:List Str}{as:List ZE},ns.length=as.length->ns.contains f=ZD->putF f (.ref b) (ns.zip (as.map V.ref))=(ns++[f]).zip ((as++[b]).map V.ref)
 |[],[],_,_=>rfl
 |n::ns,[],hl,_=>by cases hl
 |n::ns,d::as,hl,h=>by
  rw[Pd,TH]at h
  show(if n=f then _ else(n,V.ref d)::putF f (.ref b) (ns.zip (as.map V.ref)))=_
  rw[if_neg (λz=>by rw[z,beq_self_eq_true]at h;exact Bool.noConfusion h.1),zC (by simpa using hl) h.2];rfl
theorem LsR.app(e1:H b=ZA (.lst vs))(e2:Reps K O H l vs):∀{ls:List (List T)}{as:List ZE},LsR K O H ls as->LsR K O H (ls++[l]) (as++[b])
 |[],as,r=>by cases (show as=[]from r);exact⟨b,[],vs,rfl,e1,e2,rfl⟩
 |u::ls,as,⟨d,ds,ws,f1,f2,f3,f4⟩=>by subst f1;exact⟨d,ds++[b],ws,rfl,f2,f3,LsR.app e1 e2 f4⟩
end
variable{p4:Pos}
section
variable {fs:V3}{p2:Pos}
def L6(i:Nat){n f:Str}(hc:Cls X.K (bO X.K c))(hn:NoAttr X.K (bO X.K c) f)(ha:pk X es fs)(hN:X.N[i]?=ZA n:=by rfl)(hv:autoParam (lX X.env.scope n) u_)
  (hd:autoParam ((n == ("__debug__" : Str))=ZD) s_) (hcd:autoParam ((n == ("__classdict__" : Str))=ZD) s_) (hs:OQ (.List es p4) (ZA (.Attribute (.Name n p2) f p3)) pos.line X.env=pure ZD:=by rfl):
  Fe X j (.Assign [.Attribute (.Name n p2) f p3] (.List es p4) pos) (wX i c f fs):=PS.imp (Jj (eG hN hv hd hcd) (zF ha) hs) λD σ H hh_=>by
 obtain⟨Z,B,M,E,h⟩:=hh_;unfold wX at h
 split at h
 ·rename_i c' ns ls hi
  refine⟨Z,OO B M,E.o,?_⟩
  cases z:fs Z with
  |bad=>rw[z]at h;exact h.elim
  |err c=>rw[z]at h;exact h
  |ok l=>
   rw[z,ay]at h;intro H1 s1 vs rs
   split at h
   ·rename_i hcc
    obtain⟨h1,h2,h3⟩:=hcc;subst h1;refine⟨by rw[<-rs.length];exact h2,λb hb=>?_⟩
    have E1:=E.same s1;obtain⟨v0,s0,p,dx,as,e1,e2,⟨n1,n2,n3,n4⟩,e4,e5,e6,e7,e8⟩:=E1.env.own i _ hi;subst e1
    have nb:∀{d:ZE}{o:HO},H1 d=ZA o->d≠b:=λe z=>by rw[z,hb.1]at e;cases e
    have mb:∀a,M i a->a≠b:=λa w=>nb (E1.env.trk a (.inr ⟨i,w⟩)).some.choose_spec
    have pb:p≠b:=nb e4
    have hbas:b∉as:=λw=>mb b ((e2 b).mpr (.inr (.inr w))) rfl
    have sm1:Same H1 (upd H1 b (.lst vs)):=bh hb.1 _;refine⟨_,s0,p,_,dx,_,rfl,sm1 _ _ e4,hc,hn,by rw[List.length_zip,NW,<-e6];simpa using h3,?_⟩
    have key:∀(ns':List Str)(as':List ZE)(ls':List (List T)),putF f (.ref b) (ns.zip (as.map V.ref))=ns'.zip (as'.map V.ref)->ns'.length=as'.length->ns'.Nodup->as'.Nodup->(∀a,a∈as'->a=b\/a∈as) →
      (∀{O:Ow}{H:Hp},H b=ZA (.lst vs)->Reps X.K O H l vs->LsR X.K O H ls as->LsR X.K O H ls' as')->PostM X B M.u j σ H (.ok (.nx (Z.set i (.ow (.ob c' ns' ls'))))) D->D.nx σ (upd (upd H1 b (.lst vs)) p (.ins (bO X.K c') dx (putF f (.ref b) (ns.zip (as.map V.ref))))):=λns' as' ls' k1 k2 k3 k4 k5 k6 k7=>by
     rw[k1]
     generalize hm:(λa=>a=p\/a=dx\/a∈as':Ow)=m
     have hsub:∀a,m a->M i a\/Nw X.K H1 a:=λa w=>by
      subst hm;rcases w with w|w|w
      ·exact .inl ((e2 a).mpr (.inl w))
      ·exact .inl ((e2 a).mpr (.inr (.inl w)))
      ·exact(k5 a w).elim (λy=>.inr (y▸hb)) λy=>.inl ((e2 a).mpr (.inr (.inr y)))
     have hO:∀a,OO B (M.set i m) a->OO B M a\/Nw X.K H1 a:=λa w=>w.elim (λy=>.inl (.inl y)) λy=>(Mn.KF y).elim (λq=>(hsub a q).imp_left λt=>.inr ⟨i,t⟩) λq=>.inl (.inr q)
     have sm2:SameO (λa=>a=p) (upd H1 b (.lst vs)) (upd (upd H1 b (.lst vs)) p (.ins (bO X.K c') dx (ns'.zip (as'.map V.ref)))):=λd o e ne=>by rw[aG ne];exact e
     have smi:SameO (M i) H1 (upd (upd H1 b (.lst vs)) p (.ins (bO X.K c') dx (ns'.zip (as'.map V.ref)))):=λd o e ne=>sm2 d o (sm1 _ _ e) λw=>ne ((e2 d).mpr (.inl w))
     have nin:∀a∈as',a≠p:=λa ha w=>(k5 a ha).elim (λy=>pb (w▸y)) λy=>n1 (w▸y)
     have rp:∀{t:List T}{ws:List V},Reps X.K (OO B M) H1 t ws->Reps X.K (OO B (M.set i m)) (upd (upd H1 b (.lst vs)) p (.ins (bO X.K c') dx (ns'.zip (as'.map V.ref)))) t ws:=λr=>r.move (P:=M i) (λa w=>.inl (.inr ⟨i,w⟩)) hO smi
     have smp:SameO (λa=>a=p) H1 (upd (upd H1 b (.lst vs)) p (.ins (bO X.K c') dx (ns'.zip (as'.map V.ref)))):=λd o e ne=>sm2 d o (sm1 _ _ e) ne
     have fin:=k6 (O:=OO B (M.set i m)) (H:=upd (upd H1 b (.lst vs)) p (.ins (bO X.K c') dx (ns'.zip (as'.map V.ref)))) (by rw[aG (P4 pb)];exact aJ) (rp rs) (e8.move (P:=λa=>a=p) (λa w=>.inl (.inr ⟨i,(e2 a).mpr (.inl w)⟩)) hO smp λd hd w=>n1 (w▸hd))
     have ndx:dx∉as':=λw=>(k5 dx w).elim (nb e5) n2
     obtain⟨g1,g2,g3⟩:=E1.back (m:=m) (o':=.ob c' ns' ls') hi s0 smi ⟨p,dx,as',rfl,λd=>by subst hm;exact Rn,⟨λw=>nin p w rfl,ndx,n3,k4⟩,aJ,by rw[aG n3];exact sm1 _ _ e5,k2,k3,fin⟩ hsub
     exact k7 σ _ _ (λd o e ne=>g2 d o (s1 _ _ e) ne) g1 (λa w=>(g3 a w).imp_right (fO s1)) rfl
    cases hf:ns.contains f with
    |true=>
     rw[hf,if_pos rfl]at h;obtain⟨as1,d,as2,q1,q2,q3⟩:=sA (K:=X.K) (f:=f) (b:=b) e6 hf;subst q1;refine key ns (as1++b::as2) (jx f l ns ls) q2 (by rw[e6];simp) e7 ?_ (λa w=>?_) (λa1 a2 a3=>q3 a1 a2 a3) h
     ·rw[OW]at n4 ⊢
      obtain⟨m1,m2,m3⟩:=n4
      have nb1:b∉as1:=λw=>hbas (Oy _ w)
      have nb2:b∉as2:=λw=>hbas (Om _ (NR _ w))
      refine⟨m1,On.mpr ⟨nb2,(On.mp m2).2⟩,λu hu w hw=>?_⟩
      rcases N0.mp hw with hw|hw
      ·exact λy=>nb1 (by rw[<-hw,<-y];exact hu)
      ·exact m3 u hu w (NR _ hw)
     ·rcases Oq.mp w with w|w
      ·exact .inr (Oy _ w)
      ·rcases N0.mp w with w|w
       ·exact .inl w
       ·exact .inr (Om _ (NR _ w))
    |false=>
     rw[hf,if_neg N9]at h;refine key (ns++[f]) (as++[b]) (ls++[l]) (zC e6 hf) (by simp[e6]) ?_ ?_ (λa w=>?_) (λa1 a2 a3=>LsR.app a1 a2 a3) h
     ·rw[OW]
      refine⟨e7,by simp,λu hu w hw y=>?_⟩
      rw[Oa.mp hw]at y
      have:ns.contains f=ZC:=by rw[List.contains_iff_mem,<-y];exact hu
      rw[hf]at this;cases this
     ·rw[OW]
      exact⟨n4,by simp,λu hu w hw y=>hbas (by rw[<-Oa.mp hw,<-y];exact hu)⟩
     ·rcases Oq.mp w with w|w
      ·exact .inr w
      ·exact .inl (Oa.mp w)
   ·exact h.elim
 ·exact h.elim
end
variable{N:List Str}
def pC(E:Ev K B M H sls (vs.map ZA))(hl:sls.length<=N.length):Ev K B M H (fI N.length sls) (start N vs):=by
 have hlen:sls.length=vs.length:=by rw[E.env.len,NW]
 have low:∀(i:Nat)(z:Sl),(fI N.length sls)[i]?=ZA z->z=.em\/(sls[i]?=ZA z/\(start N vs)[i]?=(vs.map ZA)[i]?):=λi z e=>by
  unfold fI at e;unfold L2.start
  by_cases hi:i<sls.length
  ·rw[O5 hi]at e
   exact .inr ⟨e,O5 (by rw[NW,<-hlen];exact hi)⟩
  ·rw[PC (by omega),Po]at e
   split at e
   ·cases e;exact .inl rfl
   ·cases e
 refine⟨⟨by unfold fI L2.start;simp;omega,λi t e=>?_,λi o e=>?_,E.env.sub,E.env.dis,E.env.trk⟩,E.mine⟩
 ·rcases low i _ e with z|⟨e1,e2⟩
  ·cases z
  ·rw[e2];exact E.env.val i t e1
 ·rcases low i _ e with z|⟨e1,e2⟩
  ·cases z
  ·rw[e2];exact E.env.own i o e1
def Gu{f:Fx}{p:T×OT}(h:rN j f=.ok p):(∃Z,f=.nx Z/\p.1=.non/\Z[j]?=ZA (.ow p.2))\/∃Z,f=.rt p.1 Z/\Z[j]?=ZA (.ow p.2):=by
 cases f with
 |nx Z=>
  unfold rN at h
  dsimp only at h
  split at h
  ·rename_i o e;cases h;exact .inl ⟨Z,rfl,rfl,e⟩
  ·cases h
 |rt t Z=>
  unfold rN at h
  dsimp only at h
  split at h
  ·rename_i o e;cases h;exact .inr ⟨Z,rfl,e⟩
  ·cases h
variable{mg:V0}{qual:Str}
section
variable {base:ZH}
def Mu{F:En->Rs Fx}(Fn:L2.Fun K x qual st f fd)(S:az N ps (ai st))(hn:ps.length=n)
  (hbody:∀(cdv:NS)(A:OB)(outer:List Env)(s:NV)(H:Hp)(E:XK),Room k (A.deeper (envOfC qual (ai st) s.heap.objs.size f cdv)) →
   BB (gh CX0 P w K mg base N qual (ai st) f cdv A outer s H E).nox j (bA st) F):FnOk P w K mg base CX0 (k+1) f fd ps (spE K n j (hZ n j N.length F)):=by
 have hpl:ps.length<=N.length:=by have:=congrArg Pb S.pre;rw[OU]at this;omega
 refine Fn.ok S (λvs H Q E h=>?_) (λcdv A outer s H vs Q E hr h=>?_)
 ·obtain⟨sls,B,m,v,Ea,hl,_⟩:=h
  rw[<-NW (as:=vs) (f:=ZA),<-Ea.env.len,hl,hn]
 ·obtain⟨sls,B,m,v,Ea,hl,hv,h⟩:=h
  refine⟨_,hbody cdv A outer s H E hr,fI N.length sls,B,one j m,pC Ea (by omega),?_⟩
  have hjs:(start N vs)[j]?=ZA (ZA v):=by
   unfold L2.start;rw[O5 (by rw[NW];exact(N1.mp hv).1),Oj,hv];rfl
  unfold hZ at h;rw[if_pos hl]at h
  have fin:∀{p:T×OT}{Z':En}{σ':L2.St}{H':Hp}{M':Mn}{u:V},(∀u H' m',SameO m H H'->ORep K (BM B m') m' H' p.2 v->(∀a,m' a->m a\/Nw K H a)->Rep K (BM B m') H' p.1 u->Q u H')->Z'[j]?=ZA (.ow p.2) →
    SameO (one j m).u H H'->Ev K B M' H' Z' σ'->(∀a,M'.u a->(one j m).u a\/Nw K H a)->σ'[j]?=(start N vs)[j]?->Rep K (OO B M') H' p.1 u->Q u H':=λ{p Z' σ' H' M' u} h hj s' E' o' k r=>by
   obtain⟨v',e1,e2⟩:=E'.env.own j _ hj;rw[k,hjs]at e1;cases e1
   have sub:∀a,BM B (M' j) a->OO B M' a:=λa z=>z.imp_right λy=>⟨j,y⟩
   exact h u H' (M' j) (λb o e n=>s' b o e λz=>n (one_u.mp z)) (e2.move (P:=lq) (λ_ z=>z.elim) (λa z=>.inl (sub a z)) (λb u q _=>q) λ_ _ z=>z) (λa z=>(o' a ⟨j,z⟩).imp_left one_u.mp) (r.less sub)
  cases q:F (fI N.length sls)with
  |bad=>rw[q]at h;exact h.elim
  |err c=>rw[q]at h;exact h.elim
  |ok fl=>
   rw[q,ay]at h
   cases q2:rN j fl with
   |bad=>rw[q2]at h;exact h.elim
   |err c=>rw[q2]at h;exact h.elim
   |ok p=>
    rw[q2]at h;rcases Gu q2 with⟨Z',rfl,e1,e2⟩|⟨Z',rfl,e2⟩
    ·exact λσ' H' M' s' E' o' k=>fin h e2 s' E' o' k (by rw[e1];exact Rep.Nq)
    ·exact λu σ' H' M' s' E' o' k r=>fin h e2 s' E' o' k r
def Ah(Fn:L2.Fun K x qual st f fd)(S:az N ps (ai st)){A:OB}{outer:List Env}{args:Args}
  (hr:Room (k+1) A) (e0:Env0 P w K mg base A outer s H) (hb:Sj s fd args (ps.zip us)) (r:Vals vs us) (hlen:vs.length=ps.length) (hR:∀ev s',MV P w mg outer H s c ev s'->R (.error ev) s')
  (hbody:∀cdv,Room k (A.deeper (envOfC qual (ai st) s.heap.objs.size f cdv))->∀xe,∃t,PSs ((gh CX0 P w K mg base N qual (ai st) f cdv A outer s H E0).FB xe) (bA st) t ∧
   (XA ((gh CX0 P w K mg base N qual (ai st) f cdv A outer s H E0).FB xe) lq H c->t {nx:=λ_ _=>False,rt:=λ_ _=>False,bk:=λ_ _=>False,ct:=λ_ _=>False} (start N vs) H)):
  ZL (ZK P w) A (.call (.ref f) args) R s:=by
 obtain⟨oc,od,kV,doc,pm,an,cdv,ct,osl,rfl,lk,hcd⟩:=Fn.ex
 have KX:K.In s.heap:=e0.mod.kin.keeps λb o e=>(e0.bs b o e).1
 have lim:s.heap.NoLimit:=e0.mod.nolimit.keeps λb o e=>(e0.bs b o e).1
 have hkind:∀y∈ps.zip us,(ai st).names.lookup y.1=ZA .local\/((ai st).names.lookup y.1=ZA .cell/\((Qc (s.heap.objs.size+1) (ai st).names []).lookup y.1).isSome=ZC):=λ⟨n,v⟩ hy=>by
  rcases S.par n (QR hy).1 with q|q
  ·exact .inl q
  ·exact .inr ⟨q,Qe _ _ _ (.inl q)⟩
 refine QZ hr.depth (KX _ _ lk) rfl S.co S.gen rfl (Rj KX hcd) (hb _ _ _ _ ?_)
 refine Qh S.kind hkind λenv he s1 x=>?_
 subst he;refine⟨lim.keeps x.toInCall.keep,Tt ?_⟩
 let xe:V1:=λev s'=>ZJ (ZK P w) (A.deeper (envOfC qual (ai st) s.heap.objs.size f cdv)) (leaving (envOfC qual (ai st) s.heap.objs.size f cdv) ev) (λ_ s''=>R (.error ev) s'') (λe' s''=>R (.error e') s'') s'
 obtain⟨t,ht,hgo⟩:=hbody cdv (hr.deeper _) xe
 have I:Inv ((gh CX0 P w K mg base N qual (ai st) f cdv A outer s H E0).FB xe) [] (start N vs) H s1:=(kN S hr.hd e0 hlen r x).FB _;refine Pz (ht [] s1 (start N vs) H _ I (hgo ?_)) (λfl s' z=>?_) λe s' hs=>hs
 rotate_left
 ·cases fl with
  |next=>obtain⟨_,_,_,z⟩:=z;exact z.elim
  |cont=>obtain⟨_,_,_,z⟩:=z;exact z.elim
  |brk=>obtain⟨_,_,_,z⟩:=z;exact z.elim
  |ret v=>obtain⟨_,_,_,_,_,z⟩:=z;exact z.elim
 intro lm ev s' w'
 show ZJ _ _ _ _ _ _
 obtain⟨e,T,C,σ',H',rfl,hm,I',sm,he,heo,fl,hT,_⟩:=w'
 have heo:=heo rfl
 have hT:∀t,T=ZA t->H' t=ZB/\s.heap.get? t=ZB:=λt z=>⟨(hT t z).1,(hT t z).2 rfl⟩
 refine Dw (base:=base) (outer:=outer) (L:=s.heap.objs.size) I'.ok.frames I'.stack rfl fl λh' T' g=>hR _ _ ?_
 have hex:((gh CX0 P w K mg base N qual (ai st) f cdv A outer s H E0).FB xe).ex=[]:=rfl
 have Tn:H' T'=ZB/\s.heap.get? T'=ZB:=by
  rcases g.new with z|z
  ·exact hT T' z
  ·exact⟨jN I' z,eI I' hex z⟩
 have out:∀b o,s.heap.get? b=ZA o->b≠s.heap.objs.size:=λb o q z=>by
  have:=N8 q;rw[z]at this;exact absurd this (OA _)
 have mem:∀b,b∈nF ((envOfC qual (ai st) s.heap.objs.size f cdv)::outer)->b=s.heap.objs.size\/b∈nF outer:=λb z=>by
  have z':b∈s.heap.objs.size::nF outer:=z;exact N0.mp z'
 have ne:∀b o,s.heap.get? b=ZA o->b≠e/\T≠ZA b:=λb o q=>⟨λz=>(by subst z;rw[show s.heap.get? b=ZB from heo]at q;cases q),λz=>(by rw[show s.heap.get? b=ZB from(hT b z).2]at q;cases q)⟩
 have keepH:∀b u,H' b≠ZB->s'.heap.get? b=ZA u->h'.get? b=ZA u:=λb u hb q=>by
  refine g.keep b u (λz=>hb (I'.M8 b z)) (λz=>hb (by rw[z];exact he)) (λz=>hb (hT b z).1) q
 refine⟨e,T',C,H',rfl,hm,I'.os,I'.bare,⟨λb o q n hb hx=>?_,λb o q n hb hx=>?_,λb o q n hx=>I'.base.free b o q n hx,λb o q hx=>?_,I'.base.tups,I'.base.frzs,I'.base.tbls⟩,λa o q=>?_,λb o q=>sm b o q λz=>z,he,heo,g.flt,Tn.1,Tn.2⟩
 ·exact g.keep b o (λz=>(mem b z).elim (out b o q) hb) (ne b o q).1 (ne b o q).2 (I'.base.keep b o q n hb hx)
 ·obtain⟨sl,q1⟩:=I'.base.slot b o q n hb hx
  obtain⟨sl',q2⟩:=g.slot b _ (NR _ hb) q1;exact⟨sl',q2⟩
 ·obtain⟨o',q1⟩:=I'.base.there b o q hx
  by_cases z:b∈nF ((envOfC qual (ai st) s.heap.objs.size f cdv)::outer)
  ·obtain⟨sl,q2⟩:=g.slot b o' z q1
   exact⟨_,q2⟩
  ·exact⟨o',g.keep b o' z (ne b o q).1 (ne b o q).2 q1⟩
 ·refine(I'.hok a o q).Nc (λb u hb z=>keepH b u ?_ z) (λ_ z=>z) λ_ _ z=>z
  rcases hb with rfl|hb
  ·rw[q];simp
  ·rw[hb];simp
def Cb{m:Nat}{F:En->Rs Fx}(h:hZ n j m F sls=.err c):F (fI m sls)=.err c:=by
 unfold hZ at h
 split at h
 ·cases z:F (fI m sls)with
  |bad=>rw[z]at h;cases h
  |err c'=>rw[z]at h;cases h;rfl
  |ok f=>
   rw[z,ay]at h;cases f <;> unfold rN at h <;> dsimp only at h <;> split at h <;> cases h
 ·cases h
def El{F:En->Rs Fx}(Fn:L2.Fun K x qual st f fd)(S:az N ps (ai st))(hn:ps.length=n)
  (hbody:∀(cdv:NS)(A:OB)(outer:List Env)(s:NV)(H:Hp)(E:XK),Room k (A.deeper (envOfC qual (ai st) s.heap.objs.size f cdv)) →
   ∀xe,BB ((gh CX0 P w K mg base N qual (ai st) f cdv A outer s H E).FB xe) j (bA st) F):Fg P w K mg base (k+1) f fd ps n j (hZ n j N.length F):=
 ⟨Mu Fn S hn λcdv A outer s H E hr=>hbody cdv A outer s H E hr _,λA outer s H args us vs B m sls c R hr e0 hb r Ea hl hg hR=>by
  have hpl:ps.length<=N.length:=by have:=congrArg Pb S.pre;rw[OU]at this;omega
  refine Ah Fn S hr e0 hb r ?_ hR λcdv hr' xe=>⟨_,hbody cdv A outer s H E0 hr' xe,λxa=>⟨fI N.length sls,B,one j m,pC Ea (by omega),?_⟩⟩
  ·rw[<-NW (as:=vs) (f:=ZA),<-Ea.env.len,hl,hn]
  ·rw[Cb hg];exact xa⟩
end
def AQ(M:Mk X.K (bO X.K c) f)(F:Fg X.prog X.w X.K X.mg X.base k f fd ps n 0 g)(hr:Room (k+1) X.A)(hb:Binds X.K fd ps [])(hn:ts.length+1=n)(hps:ps.length=n)(I:Inv X lm σ H s)(r:Vals vs us)(rs:Reps X.K O H ts vs)(mt:∀a,O a->Mtb H a){o:OT}
  (hg:g (.ow (.ob c [] [])::ts.map Sl.va)=.ok (.non,o)) (h:∀p H' m,Same H H'->ORep X.K (BM O m) m H' o (.ref p)->(∀a,m a->Nw X.K H a)->Q (.ref p) H'):ZJ (ZK X.prog X.w) X.A (call (.ref (bO X.K c)) us) (EP X lm σ Q) X.xe s:=by
 have nk:∀q,s.heap.objs.size<=q->X.K.lookup q=ZB:=λq hq=>by
  cases z:X.K.lookup q with
  |none=>rfl
  |some o=>exact absurd (N8 (I.kIn _ o z)) (Nat.not_lt.mpr hq)
 generalize hp:s.heap.objs.size+1=p
 have np:Nw X.K H p:=⟨I.hok.fresh (by omega),nk p (by omega)⟩
 generalize hd:s.heap.objs.size=dx at hp
 have nd:Nw X.K H dx:=⟨I.hok.fresh (by omega),nk dx (by omega)⟩
 have ne:dx≠p:=by omega
 have sm0:Same H (upd (upd H dx (.own p)) p (.ins (bO X.K c) dx [])):=λb o e=>by
  rw[aG (λz=>by rw[z,np.1]at e;cases e),aG (λz=>by rw[z,nd.1]at e;cases e)];exact e
 have hm:∀a,(λa=>a=p\/a=dx:Ow) a->Nw X.K H a:=λa z=>z.elim (λy=>y▸np) λy=>y▸nd
 have subO:∀a,OO O (one 0 λa=>a=p\/a=dx) a->O a\/Nw X.K H a:=λa z=>(one_oo.mp z).imp_right (hm a)
 have hlen:=rs.length
 have Ea:Ev X.K O (one 0 λa=>a=p\/a=dx) (upd (upd H dx (.own p)) p (.ins (bO X.K c) dx [])) (.ow (.ob c [] [])::ts.map Sl.va) ((V.ref p::vs).map ZA):=by
  refine⟨⟨by simp[hlen],λi t e=>?_,λi o' e=>?_,λi a z=>.inr ⟨i,z⟩,λi k a z1 z2=>?_,λa z=>?_⟩,λa z y=>?_⟩
  ·obtain⟨w,e1,e2⟩:=qP (v0:=V.ref p) rs e
   exact⟨w,by rw[Oj,e1];rfl,(e2.more subO).same sm0⟩
  ·have hi:=qQ e
   subst hi;cases e;refine⟨.ref p,rfl,p,dx,[],rfl,λb=>?_,⟨by simp,by simp,ne,by simp⟩,aJ,?_,rfl,by simp,rfl⟩
   ·rw[show one 0 (λa=>a=p\/a=dx) 0=_ from Mn.Nb];simp
   ·rw[aG ne];exact aJ
  ·unfold one Mn.set at z1 z2
   by_cases h1:i=0
   ·by_cases h2:k=0
    ·rw[h1,h2]
    ·rw[if_neg h2]at z2;exact z2.elim
   ·rw[if_neg h1]at z1;exact z1.elim
  ·rcases one_oo.mp z with y|y|y
   ·exact(mt a y).same sm0
   ·rw[y];exact .inr (.inr ⟨_,aJ,rfl⟩)
   ·rw[y];exact .inr (.inr ⟨_,by rw[aG ne];exact aJ,rfl⟩)
  ·obtain⟨o,e⟩:=(mt a y).some
   rw[(hm a (one_u.mp z)).1]at e;cases e
 have hq:spE X.K n 0 g (.ref p::(vs++[])) (upd (upd H dx (.own p)) p (.ins (bO X.K c) dx [])) (λv H2=>v=.non/\Q (.ref p) H2) E0:=by
  refine⟨_,O,_,.ref p,by rw[Ou];exact Ea,by simp[hn],rfl,?_⟩
  rw[hg];intro u H' m' s' ro hm' rt;refine⟨Rep.KB.mp rt,h p H' m' (λb o e=>s' b o (sm0 _ _ e) λz=>?_) ro λa z=>?_⟩
  ·rw[(hm b z).1]at e;cases e
  ·rcases hm' a z with y|y
   ·exact hm a y
   ·exact fO sm0 y
 have I2:=Inv.made (C:=bO X.K c) I;rw[hd,hp]at I2
 have r2:Vals (V.ref p::(vs++[])) (Oc p::(us++[])):=.cons rfl (r.append .nil)
 have hl:(Oc p::us++[]).length=ps.length:=by rw[Ou,NZ,<-r.length,<-hlen,hps,hn]
 refine RA (wV (f:=f) I.kIn M.makes M.init (beq_iff_eq.mp M.fn) ?_)
 rw[hd,hp]
 have hb2:=hb _ (Oc p::us) I2.kIn hl;rw[SS]at hb2;refine Qn (F.h.run _ X.stack _ _ ⟨Oc p::us,[]⟩ (Oc p::(us++[])) _ _ E0 (hr.make (bO X.K c) us []) (I2.Nk.make (bO X.K c) us []) hb2 r2 hq) λr s' hq'=>?_
 cases r with
 |error e=>exact hq'.elim
 |ok fl=>
  cases fl with
  |ret u=>
   obtain⟨v,H',I3,rv,ev,q3⟩:=I2.after hq';subst ev
   exact⟨rv,⟨V.ref p,H',I3,rfl,q3⟩⟩
  |next=>exact Qi hq'
  |brk=>exact Qi hq'
  |cont=>exact Qi hq'
variable{b0:ZF}{body suite:List ZF}{ce:Str}{h:Str->Rs T}{hpos np:Pos}
def L0{F:En->Rs Fx}{n:Str}{CE:ZE}(hst:X.stack=X.env::X.outer)(hfe:X.env.frame=ZA X.env.locals)(hcl:∀x c,X.env.cells.lookup x≠ZA c)(hex:X.ex=[])
  (hN:X.N.Nodup) (hi:X.N[i]?=ZA n) (hloc:X.env.scope.names.lookup n=ZA .local) (hm:X.mg ce=ZA (.ref CE)) (OE:OX X.K CE bmE)
  (hb:∀pn xe,BB {X with pn:=pn,xe:=xe} j body F) (hs:mO X i (b0::suite) CE h) (hg:Gl X ce:=by rfl) (hd:autoParam ((ce == ("__debug__" : Str))=ZD) s_):
  Fe X j (.Try body [.ExceptHandler (ZA (.Name ce np)) (ZA n) (b0::suite) hpos] [] [] pos) (wW F h):=by
 intro lm s σ H D I ⟨Z,B,M,E,hq⟩;refine Vf ?_
 unfold wW at hq
 cases q:F Z with
 |bad=>rw[q]at hq;exact hq.elim
 |ok fl=>
  rw[q]at hq;refine Pz (hb X.pn (λ_ _=>False) lm s σ H D (I.FB _) ⟨Z,B,M,E,by rw[q];cases fl <;> exact hq⟩) (λf s1 r=>?_) (λe s1 z=>z.elim)
  cases f with
  |next=>obtain⟨σ7,H7,I7,q7⟩:=r;exact QV ⟨σ7,H7,I7.FB _,q7⟩
  |ret u=>obtain⟨x7,σ7,H7,I7,r7,q7⟩:=r;exact⟨x7,σ7,H7,I7.FB _,r7,q7⟩
  |brk=>obtain⟨σ7,H7,I7,q7⟩:=r;exact⟨σ7,H7,I7.FB _,q7⟩
  |cont=>obtain⟨σ7,H7,I7,q7⟩:=r;exact⟨σ7,H7,I7.FB _,q7⟩
 |err c=>
  rw[q]at hq
  cases q2:h c with
  |bad=>simp only[q2]at hq;exact hq.elim
  |err c'=>simp only[q2]at hq;exact hq.elim
  |ok t=>
   simp only[q2]at hq
   have hq':∀v H',Same H H'->Rep X.K (OO B M) H' t v->D.rt v H':=λv H' s' r=>hq v σ H' M (SameO.of s') (E.same s') (λa z=>.inl z) rfl r
   refine Pz (hb (X.pn++lm) _ [] s σ H {nx:=λ_ _=>False,rt:=λ_ _=>False,bk:=λ_ _=>False,ct:=λ_ _=>False} ((Tr.Inv.Nv lm I).FB _) ⟨Z,B,M,E,?_⟩) (λfl s' z=>?_) λ_ _ z=>z
   rotate_left
   ·cases fl with
    |next=>obtain⟨_,_,_,z⟩:=z;exact z.elim
    |cont=>obtain⟨_,_,_,z⟩:=z;exact z.elim
    |brk=>obtain⟨_,_,_,z⟩:=z;exact z.elim
    |ret v=>obtain⟨_,_,_,_,_,z⟩:=z;exact z.elim
   rw[q];intro pins1 ev s1 w;obtain⟨e,T,C,σ1,H1,rfl,hmc,I1,smn,he,heo,fl,hT,hpp⟩:=w
   have sm:Same H H1:=λb o z=>smn b o z λy=>y
   have I1:Inv X lm σ1 H1 s1:=Tr.Inv.Nu (X:=X) I1
   have hpp:∀p∈X.pn++lm,p.1≠e/\T≠ZA p.1:=λp hp=>hpp p (Oy _ hp)
   have heo:=heo hex
   have hT:∀t,T=ZA t->H1 t=ZB/\X.s₀.heap.get? t=ZB:=λt z=>⟨(hT t z).1,(hT t z).2 hex⟩
   show ZJ _ _ _ _ _ _
   have hfr:X.A.frames=ZA (X.env::X.outer):=by rw[<-hst];exact I1.ok.frames
   have hstk:s1.heap.FunFrames X.base (X.env::X.outer):=by rw[<-hst];exact I1.stack
   refine HI hfr hstk hfe fl λh' T' g=>?_
   have I2:=Inv.gone I1 hst hfe hcl hex g he heo hT hpp
   have Tn:H1 T'=ZB/\X.s₀.heap.get? T'=ZB/\∀p∈X.pn++lm,p.1≠T':=by
    rcases g.new with z|z
    ·exact⟨(hT T' z).1,(hT T' z).2,λp hp y=>(hpp p hp).2 (by rw[z,y])⟩
    ·exact⟨jN I1 z,eI I1 hex z,λp hp y=>by have:=(I1.pin p hp).1;rw[y,z]at this;cases this⟩
   obtain⟨bm,OC,hin,run⟩:=hs c C t hmc q2;obtain⟨hTe,oe,ev,hoe,hoc,hod,h1,oT,ts,hoT,hdT,h3⟩:=g.flt
   have nfr:∀b o vs,h'.get? b=ZA o->o.data=.fields vs->b∉(X.env::X.outer).filterMap (·.frame):=λb o vs hb hd z=>by
    have:=I2.stack;rw[hst]at this;obtain⟨_,o',ho',hnf⟩:=this.mem z;rw[show h'.get? b=ZA o' from ho']at hb
    cases hb;exact hnf vs hd
   have hel:e≠X.env.locals:=λz=>nfr e oe ev hoe hod (by rw[Ph,hfe];exact z▸NU)
   have hef:e∉X.fs:=λz=>nfr e oe ev hoe hod (by rw[Ph,hfe];exact NR _ z)
   have hcell:∀v,oe.data≠ .cell v:=λv z=>by rw[hod]at z;cases z
   have I3:Inv (u9 X e oe) lm σ1 H1 {s1 with heap:=h'}:=o7 I2 hoe he hel hef hcell
   refine T8 (Tx (fR (X:=u9 X e oe) I3 hg hm ?_ hd)) (by intro z;cases z)
   obtain⟨nm,qq,N,bs,hdct,sn,sub,ab,col,dd,k0,k1,k2,k3,k5,mN,hC,_⟩:=OC.at_ h' I3.kIn;obtain⟨nm',qq',N',bs',hdct',sn',sub',ab',col',dd',k0',k1',k2',k3',k5',mN',hD,_,_,TD⟩:=OE.at_ h' I3.kIn;refine sM hC hD hoe hoc (TD.tail.hasType (by decide)) hin (Sm ?_)
   refine TL hoe hod h1 hoT hdT (Pe.mp h3).1 ?_
   generalize hU:h'.update T' (RW (·.setIfInBounds 3 OI))=h2
   have kp:∀b,b≠T'->h2.get? b=h'.get? b:=λb hb=>by rw[<-hU];exact QL _ _ (P4 hb)
   have hT2:h2.get? T'=ZA (RW (·.setIfInBounds 3 OI) oT):=by rw[<-hU];exact RI _ hoT (RJ (Qj hdT _))
   have hoe2:h2.get? e=ZA oe:=(kp e (P4 hTe)).trans hoe
   have g2:EZ ((X.env::X.outer).filterMap (·.frame)) C e (ZA T') h' h2 T':=⟨⟨hTe,oe,ev,hoe2,hoc,hod,h1,_,_,hT2,Qj hdT _,by simp[(Pe.mp h3).1]⟩,.inl rfl,λb o _ _ n3 q=>(kp b λz=>n3 (by rw[z])).trans q,λb o m q=>⟨o.slots,(kp b λz=>nfr T' oT ts hoT hdT (z▸m)).trans q⟩⟩
   have I4:Inv X lm σ1 H1 {s1 with heap:=h2}:=Inv.gone (s:={s1 with heap:=h'}) I2 hst hfe hcl hex g2 he heo (λt z=>by cases z;exact⟨Tn.1,Tn.2.1⟩) λp hp=>⟨(hpp p hp).1,λz=>Tn.2.2 p hp (OH z).symm⟩
   have I5:Inv (u9 X e oe) lm σ1 H1 {s1 with heap:=h2}:=o7 I4 hoe2 he hel hef hcell
   refine lZ (X:=u9 X e oe) (v:=.ref e) I5 hN hi (.inl hloc) rfl (λs3 I6=>?_) (.inr hloc)
   have hil:i<σ1.length:=by
    rw[I1.len];exact(N1.mp hi).1
   refine Pz (run e oe ev hoc hod lm s3 _ H1 (OO B M) (λv H'=>Same H1 H'/\Rep X.K (OO B M) H' t v) I6 he (λz=>?_) (by simp[hil]) (λp hp z=>?_) λv H' s' r=>⟨s',r⟩) (λf s4 r=>?_) λ_ _ z=>z.elim
   ·rw[hst]at z
    exact nfr e oe ev hoe hod z
   ·obtain⟨o,ho⟩:=(E.env.trk p z).some
    have:=sm p o ho;rw[hp]at this;cases this
   ·cases f with
    |next=>obtain⟨_,_,_,z⟩:=r;exact z.elim
    |brk=>obtain⟨_,_,_,z⟩:=r;exact z.elim
    |cont=>obtain⟨_,_,_,z⟩:=r;exact z.elim
    |ret u=>
     obtain⟨v,σ',H',I7,rv,s',rt⟩:=r;obtain⟨m,hn,_⟩:=I7.loc;refine wpAny_nameGoes (show X.env.kindOf n=ZA .local from hloc) hn (by rw[I.ok.kind];rfl) λh8 m8 hn8 hs8=>?_
     exact⟨v,_,H',Inv.forget (Ad I.ok I7) hcl hn8 hs8,rv,hq' v H' (λb o y=>s' b o (sm b o y)) rt⟩
structure QE (X:Cx)(e:ZG)(f:V5):Prop where
 h:cE X e f
structure QA (X:Cx)(e:List ZG)(f:V3):Prop where
 h:pk X e f
structure QT (X:Cx)(e:ZG)(f:V6):Prop where
 h:tE X e f
structure QW (X:Cx)(e:ZG)(f:V6):Prop where
 h:Ib X e f
structure QS (X:Cx)(e:ZF)(f:V4):Prop where
 h:pj X e f
structure BA (X:Cx)(e:List ZF)(f:V4):Prop where
 h:mP X e f
structure QG (X:Cx)(e:ZG)(f:T->En->Rs En):Prop where
 h:Ff X e f
structure MX (X:Cx)(e:List ZG)(f:List T->En->Rs En):Prop where
 h:EX X e f
structure QI (X:Cx)(t e:ZG)(f:V3):Prop where
 h:BD X t e f
structure QO (X:Cx)(e:Option ZG)(f:En->Rs (Option Int)):Prop where
 h:MH X e f
structure MW (X:Cx)(e:List ZG)(f:V6):Prop where
 h:BK X e (Ck X f)
def af(i:Nat)(hN:(Cx.N X)[i]?=ZA x:=by rfl)(hv:autoParam (lX (QJ (Cx.env X)) x) u_)(hd:autoParam ((x == N7 "__debug__")=ZD) s_)(hcd:autoParam ((x == N7 "__classdict__")=ZD) s_):QE X (OK x pos) (vr i):=
 ⟨Ln (i:=i) (hN:=hN) (hv:=hv) (hd:=hd) (hcd:=hcd)⟩
variable{i:Int}
def ao:QE X (SJ (Const.int i) j pos) (cn (T.int i)):=
 ⟨Lx ⟩
def kZ{i:Bool}:QE X (SJ (Const.bool i) j pos) (cn (T.bl i)):=
 ⟨q_bl ⟩
def ck:QE X (SJ Const.none j pos) (cn T.non):=
 ⟨Ls ⟩
def fF{i:Str}:QE X (SJ (Const.str i) j pos) (cn (T.str i)):=
 ⟨Lp ⟩
def Fp{u:NS}(hm:Cx.mg X x=ZA u)(r:L2.RelV (V.int i) u)(hg:Gl X x:=by rfl)(hd:autoParam ((x == N7 "__debug__")=ZD) s_):QE X (OK x pos) (cn (T.int i)):=
 ⟨Jf (hm:=hm) (r:=r) (hg:=hg) (hd:=hd)⟩
def ah:QA X [] aj:=
 ⟨Je ⟩
def ag{X:Cx}{e:ZG}{es:List ZG}{f:V5}{g:V3}(he:QE X e f)(hr:QA X es g)(hn:bp e=ZC:=by rfl):QA X (e::es) (ae f g):=
 ⟨qa_c (he:=he.h) (hr:=hr.h) (hn:=hn)⟩
def aO{f:V3}(h:QA X es f):QE X (Expr.Tuple es x1 pos) (aP f):=
 ⟨Lo (h:=h.h)⟩
def eF{X:Cx}{es:List ZG}{pos:Pos}{f:V3}(h:QA X es f):QE X (Expr.List es pos) (de f):=
 ⟨Lv (h:=h.h)⟩
variable{g:T->T->Rs T}
def ax{op:Operator}(ho:OpT X (PY op) g)(ha:QE X a fa)(hb:QE X b fb):QE X (Expr.BinOp a op b pos) (o2 g fa fb):=
 ⟨LB (ho:=ho) (ha:=ha.h) (hb:=hb.h)⟩
def iJ(ho:OpT X (OM op) g)(ha:QE X a fa)(hb:QE X b fb)(hm:Qm op b=ZD:=by rfl):QE X (Tf a [op] [b] pos) (o2 g fa fb):=
 ⟨LA (ho:=ho) (ha:=ha.h) (hb:=hb.h) (hm:=hm)⟩
def mS(ha:QE X a fa):QE X (UZ UnaryOp.USub a pos) (o1 nu fa):=
 ⟨Lu (ha:=ha.h)⟩
variable{c:ZG}
def vp{fc:V5}{g':T->T->Rs T}(ho:OpT X (OM op) g)(ho':OpT X (OM op') g')(ha:QE X a fa)(hb:QE X b fb)(hc:QE X c fc)(hm:autoParam (VB [op,op'] [b,c]=ZD) v_):QE X (Tf a [op,op'] [b,c] pos) (ch g g' fa fb fc):=
 ⟨Gb (ho:=ho) (ho':=ho') (ha:=ha.h) (hb:=hb.h) (hc:=hc.h) (hm:=hm)⟩
def dA{f:V5}(h:QE X e f)(he:autoParam (∀(whole:Sem NS),PySem.isTrue e (Cx.env X) whole=(do let v <-whole;standAt (Expr.pos e);holding [v] (truthy v))) t_):QT X e (tb f):=
 ⟨IK (h:=h.h) (he:=he)⟩
def ba(ho:OpT X (OM op) g)(ha:QE X a fa)(hb:QE X b fb)(hm:Qm op b=ZD:=by rfl):QT X (Tf a [op] [b] pos) (tb (o2 g fa fb)):=
 ⟨IM (ho:=ho) (ha:=ha.h) (hb:=hb.h) (hm:=hm)⟩
def mR{fc:V5}{g':T->T->Rs T}(ho:OpT X (OM op) g)(ho':OpT X (OM op') g')(ha:QE X a fa)(hb:QE X b fb)(hc:QE X c fc)(hm:autoParam (VB [op,op'] [b,c]=ZD) v_):QT X (Tf a [op,op'] [b,c] pos) (tb (ch g g' fa fb fc)):=
 ⟨CC (ho:=ho) (ho':=ho') (ha:=ha.h) (hb:=hb.h) (hc:=hc.h) (hm:=hm)⟩
variable{f:V6}
def BO(ha:QT X a f):QW X (Qu Tz [a] pos) f:=
 ⟨FV (ha:=ha.h)⟩
def kB(ha:QT X a f):QW X (Qu Uj [a] pos) f:=
 ⟨II (ha:=ha.h)⟩
def Fi{g:V6}{cb:List ZG}(ha:QT X a f)(hb:QW X (Qu Tz (b::cb) pos) g):QW X (Qu Tz (a::b::cb) pos) (xG f g):=
 ⟨IJ (ha:=ha.h) (hb:=hb.h)⟩
def mQ{g:V6}{cb:List ZG}(ha:QT X a f)(hb:QW X (Qu Uj (b::cb) pos) g):QW X (Qu Uj (a::b::cb) pos) (m5 f g):=
 ⟨Li (ha:=ha.h) (hb:=hb.h)⟩
def pq(h:QW X e f):QT X e f:=
 ⟨qt_w (h:=h.h)⟩
def gp(ha:QT X a f):QT X (UZ UnaryOp.Not a pos) (d8 f):=
 ⟨IL (ha:=ha.h)⟩
def fG{op:BoolOp}(h:QE X a fa):QE X (Qu op [a] pos) fa:=
 ⟨Lq (h:=h.h)⟩
def eZ{cb:List ZG}(ha:QE X a fa)(hb:QE X (Qu Tz (b::cb) pos) fb):QE X (Qu Tz (a::b::cb) pos) (dk fa fb):=
 ⟨LC (ha:=ha.h) (hb:=hb.h)⟩
def Hu{cb:List ZG}(ha:QE X a fa)(hb:QE X (Qu Uj (b::cb) pos) fb):QE X (Qu Uj (a::b::cb) pos) (Fb fa fb):=
 ⟨q_or (ha:=ha.h) (hb:=hb.h)⟩
def Ih(ha:QE X a fa):QE X (UZ UnaryOp.Not a pos) (o1 GA fa):=
 ⟨Lr (ha:=ha.h)⟩
def nQ(hc:QT X c f)(ha:QE X a fa)(hb:QE X b fb):QE X (Expr.IfExp c a b pos) (qO f fa fb):=
 ⟨q_if (hc:=hc.h) (ha:=ha.h) (hb:=hb.h)⟩
def aF(ha:QE X a fa)(hb:QE X b fb)(hs:autoParam (Ay b) w_):QE X (P7 a b pos) (o2 aQ fa fb):=
 ⟨q_ix (ha:=ha.h) (hb:=hb.h) (hs:=hs)⟩
def dq:QO X ZB pN:=
 ⟨F2 ⟩
def dm(ha:QE X a fa):QO X (ZA a) (pS fa):=
 ⟨F1 (ha:=ha.h)⟩
def dv{lo hi:Option ZG}{p2:Pos}{fl fu:En->Rs (Option Int)}(ha:QE X a fa)(hl:QO X lo fl)(hu:QO X hi fu):QE X (P7 a (Expr.Slice lo hi ZB p2) pos) (sl fa fl fu):=
 ⟨F9 (ha:=ha.h) (hl:=hl.h) (hu:=hu.h)⟩
variable{g:List T->Rs T}
def cx{fs:V3}{id:String}(hc:CallT X (Q1 id) g)(hm:Cx.mg X x=ZB)(hv:OL x=ZA (Q1 id))(ha:QA X (e::es) fs)(hn:bB (e::es)=ZC:=by rfl)(hg:Gl X x:=by rfl)(h1:autoParam (x≠N7 "__name__") s_)(h2:autoParam ((x == N7 "__debug__")=ZD) s_):QE X (Ql (OK x p) (e::es) [] pos) (cl g fs):=
 ⟨q_cB (hc:=hc) (hm:=hm) (hv:=hv) (ha:=ha.h) (hn:=hn) (hg:=hg) (h1:=h1) (h2:=h2)⟩
def zp{fs:V3}(hc:CallT X (Rx Ty) g)(hm:Cx.mg X x=ZB)(hv:OL x=ZA (Rx Ty))(ha:QA X (e::es) fs)(hn:bB (e::es)=ZC:=by rfl)(hg:Gl X x:=by rfl)(h1:autoParam (x≠N7 "__name__") s_)(h2:autoParam ((x == N7 "__debug__")=ZD) s_):QE X (Ql (OK x p) (e::es) [] pos) (cl g fs):=
 ⟨q_cT (hc:=hc) (hm:=hm) (hv:=hv) (ha:=ha.h) (hn:=hn) (hg:=hg) (h1:=h1) (h2:=h2)⟩
def zq_c{fs:V3}{f:ZE}(F:E5 (Cx.prog X) (Cx.w X) (Cx.K X) (Cx.mg X) (Cx.base X) k f fd ps n g)(hr:Room k (Cx.A X))(hm:Cx.mg X x=ZA (Oc f))(hk:W.keepIn (Cx.K X) (Oc f)=ZC)(hb:L2.Binds (Cx.K X) fd ps [])(hl:∀(Z:En)(ts:List T),fs Z=Rs.ok ts->Pb ts=n)(ha:QA X (e::es) fs)(hps:Pb ps=n:=by rfl)(hn:bB (e::es)=ZC:=by rfl)(hg:Gl X x:=by rfl)(h2:autoParam ((x == N7 "__debug__")=ZD) s_):QE X (Ql (OK x p) (e::es) [] pos) (cl g fs):=
 ⟨q_c (F:=F) (hr:=hr) (hm:=hm) (hk:=hk) (hb:=hb) (hl:=hl) (ha:=ha.h) (hps:=hps) (hn:=hn) (hg:=hg) (h2:=h2)⟩
def zm{p2:Pos}{tn:Str}(hm:Cx.mg X (N7 "isinstance")=ZB)(hmt:Cx.mg X tn=ZB)(hv:OL tn=ZA (Rx Ty))(ha:QE X a fa)(hn:bp a=ZC:=by rfl)(hg:Gl X (N7 "isinstance"):=by rfl)(hgt:Gl X tn:=by rfl)(h1:autoParam (tn≠N7 "__name__") s_)(h2:autoParam ((tn == N7 "__debug__")=ZD) s_):QE X (Ql (OK (N7 "isinstance") p) [a,OK tn p2] [] pos) (o1 (BI Ty) fa):=
 ⟨q_is (hm:=hm) (hmt:=hmt) (hv:=hv) (ha:=ha.h) (hn:=hn) (hg:=hg) (hgt:=hgt) (h1:=h1) (h2:=h2)⟩
def aq(i:Nat)(hN:Pp (Cx.N X))(hi:(Cx.N X)[i]?=ZA x:=by rfl)(hx:autoParam (L2.Loc (QJ (Cx.env X)) x) x_)(hf:autoParam (Cx.fn X x=ZC\/PH x (T3 (QJ (Cx.env X)))=ZA NameKind.local) r_):QG X (OK x pos) (gN i):=
 ⟨F7 (i:=i) (hN:=hN) (hi:=hi) (hx:=hx) (hf:=hf)⟩
def dG:MX X [] rB:=
 ⟨F6 ⟩
variable{g:T->En->Rs En}{gs:List T->En->Rs En}
def aU(h1:QG X e g)(h2:MX X es gs)(hs:Vh (λx=>Prod.snd x) (PL (e::es) (Cx.env X))=assign e (Cx.env X)::Vh (λx=>Prod.snd x) (PL es (Cx.env X)):=by rfl):MX X (e::es) (gd g gs):=
 ⟨CI (h1:=h1.h) (h2:=h2.h) (hs:=hs)⟩
def eY(hc:Cx.calm X=ZC)(h:MX X es gs)(hn:Pb (PL es (Cx.env X))=n:=by rfl)(hst:List.findIdx? (λx=>Prod.fst x) (PL es (Cx.env X))=ZB:=by rfl):QG X (Expr.Tuple es k pos) (gT n gs):=
 ⟨Jd (hc:=hc) (h:=h.h) (hn:=hn) (hst:=hst)⟩
variable{tg:ZG}
def dF{fs:V3}(hm:Cx.mg X (N7 "range")=ZB)(ha:QA X [a] fs)(hg:Gl X (N7 "range"):=by rfl)(hs:N5 [a] (Cx.env X)=[(ZD,eval a (Cx.env X))]:=by rfl):QI X tg (Ql (OK (N7 "range") p) [a] [] pos) (iR fs):=
 ⟨AU (hm:=hm) (ha:=ha.h) (hg:=hg) (hs:=hs)⟩
def xQ{fs:V3}(hm:Cx.mg X (N7 "range")=ZB)(ha:QA X [a,b] fs)(hg:Gl X (N7 "range"):=by rfl)(hs:N5 [a,b] (Cx.env X)=[(ZD,eval a (Cx.env X)),(ZD,eval b (Cx.env X))]:=by rfl)(hs2:N5 [b] (Cx.env X)=[(ZD,eval b (Cx.env X))]:=by rfl):QI X tg (Ql (OK (N7 "range") p) [a,b] [] pos) (iR fs):=
 ⟨AS (hm:=hm) (ha:=ha.h) (hg:=hg) (hs:=hs) (hs2:=hs2)⟩
def dt:MW X [] bT:=
 ⟨F4 ⟩
def vn(h:QT X c f):MW X [c] f:=
 ⟨F3 (h:=h.h)⟩
variable{N':List Str}{fc:V6}{fe:V5}{fi:V3}{ifs:List ZG}{iter:ZG}{tgt:T->En->Rs En}
def je{elt:ZG}{src:List (Option Nat)}(hc:Cx.calm X=ZC)(S:LcScope X scope N' src)(hi:QI X tg iter fi)(block:∀(cl:List (Str×ZE))(C:ZE)(s₀:NV)(H₀:Hp)(fp:List ZE),QG (cm X scope cl N' C s₀ H₀ fp) tg tgt/\MW (cm X scope cl N' C s₀ H₀ fp) ifs fc/\QE (cm X scope cl N' C s₀ H₀ fp) elt fe)(hs:autoParam (∀(x:NS),OZ iter (Cx.env X) x=pure x) t_):QE X (Uk elt [{target:=tg,iter:=iter,ifs:=ifs,is_async:=0}] scope pos) (gC fi src tgt fc fe):=
 ⟨q_lc (hc:=hc) (S:=S) (hi:=hi.h) (block:=λa1 a2 a3 a4 a5=>⟨(block a1 a2 a3 a4 a5).1.h,(block a1 a2 a3 a4 a5).2.1.h,(block a1 a2 a3 a4 a5).2.2.h⟩) (hs:=hs)⟩
def bK:BA X [] sN:=
 ⟨IT ⟩
def ar{cb:List ZF}{F:V4}(h1:QS X st F)(h2:BA X cb G):BA X (st::cb) (aB F G):=
 ⟨F0 (h1:=h1.h) (h2:=h2.h)⟩
def aw{F:V4}(h:QS X st F):BA X [st] F:=
 ⟨IS (h:=h.h)⟩
def aH(ha:QE X a fa):QS X (Stmt.Return (ZA a) pos) (aN fa):=
 ⟨IP (ha:=ha.h)⟩
def cg{B:List ZF}{F:V4}(hc:QT X c f)(ha:BA X A F)(hb:BA X B G):QS X (Stmt.If c A B pos) (eX f F G):=
 ⟨Ll (hc:=hc.h) (ha:=ha.h) (hb:=hb.h)⟩
def BR{elt:ZG}{spos py:Pos}{src:List (Option Nat)}(i:Nat){y:Str}(hc:Cx.calm X=ZC)(S:LcScope X scope N' src)(hi:QI X tg iter fi)(block:∀(cl:List (Str×ZE))(C:ZE)(s₀:NV)(H₀:Hp)(fp:List ZE),QG (cm X scope cl N' C s₀ H₀ fp) tg tgt/\MW (cm X scope cl N' C s₀ H₀ fp) ifs fc/\QE (cm X scope cl N' C s₀ H₀ fp) elt fe)(hN:Pp (Cx.N X))(hiy:(Cx.N X)[i]?=ZA y:=by rfl)(hy:autoParam (L2.Loc (QJ (Cx.env X)) y) x_)(hsw:OQ (Uk elt [{target:=tg,iter:=iter,ifs:=ifs,is_async:=0}] scope pos) (ZA (OK y py)) (Ra spos) (Cx.env X)=pure ZC:=by rfl)(hf:autoParam (Cx.fn X y=ZC\/PH y (T3 (QJ (Cx.env X)))=ZA NameKind.local) r_)(hs:autoParam (∀(x:NS),OZ iter (Cx.env X) x=pure x) t_):QS X (R1 [OK y py] (Uk elt [{target:=tg,iter:=iter,ifs:=ifs,is_async:=0}] scope pos) spos) (b7 (gC fi src tgt fc fe) (gN i)):=
 ⟨Lk (i:=i) (hc:=hc) (S:=S) (hi:=hi.h) (block:=λa1 a2 a3 a4 a5=>⟨(block a1 a2 a3 a4 a5).1.h,(block a1 a2 a3 a4 a5).2.1.h,(block a1 a2 a3 a4 a5).2.2.h⟩) (hN:=hN) (hiy:=hiy) (hy:=hy) (hsw:=hsw) (hf:=hf) (hs:=hs)⟩
def aI(ha:QE X a fa)(hg:QG X tg g)(hs:Uq [tg] a (Ra pos) (Cx.env X)=pure ZD:=by rfl)(hw:Ur [tg] a (Cx.env X)=pure ZB:=by rfl)(h1:Vh (λx=>Prod.snd x) (PL [tg] (Cx.env X))=[assign tg (Cx.env X)]:=by rfl):QS X (R1 [tg] a pos) (b7 fa g):=
 ⟨IY (ha:=ha.h) (hg:=hg.h) (hs:=hs) (hw:=hw) (h1:=h1)⟩
def fU(ha:QE X a fa)(hs:OQ a ZB (Ra pos) (Cx.env X)=pure ZD:=by rfl):QS X (Stmt.Expr a pos) (yf fa):=
 ⟨FZ (ha:=ha.h) (hs:=hs)⟩
def cF{F:V4}(hc:Cx.calm X=ZC)(hi:QI X tg iter fi)(hg:QG (Cx.nox X) tg g)(hb:BA (Cx.nox X) body F)(hs:autoParam (∀(x:NS),OZ iter (Cx.env X) x=pure x) t_):QS X (Stmt.For tg iter body [] pos) (fA fi g F):=
 ⟨IV (hc:=hc) (hi:=hi.h) (hg:=hg.h) (hb:=hb.h) (hs:=hs)⟩
def AB{F:V4}(n:Nat)(hc:QT (Cx.nox X) c fc)(hb:BA (Cx.nox X) body F):QS X (Stmt.While c body [] pos) (bY fc F n):=
 ⟨CD (n:=n) (hc:=hc.h) (hb:=hb.h)⟩
def cj(ha:QE X a fa):QI X tg a (iS fa):=
 ⟨Jb (ha:=ha.h)⟩
def jz{fs:V3}{elts:List ZG}{tpos:Pos}(hm:Cx.mg X (N7 "enumerate")=ZB)(ha:QA X [a] fs)(hg:Gl X (N7 "enumerate"):=by rfl)(hs:N5 [a] (Cx.env X)=[(ZD,eval a (Cx.env X))]:=by rfl):QI X (Expr.Tuple elts kk tpos) (Ql (OK (N7 "enumerate") p) [a] [] pos) (iE fs):=
 ⟨F5 (hm:=hm) (ha:=ha.h) (hg:=hg) (hs:=hs)⟩
def jy{p2:Pos}(i:Nat){f:V3}(hN:Pp (Cx.N X))(ha:QA X es f)(hi:(Cx.N X)[i]?=ZA x:=by rfl)(hx:autoParam (L2.Loc (QJ (Cx.env X)) x) x_)(hs:OQ (Expr.List es p2) (ZA (OK x p3)) (Ra pos) (Cx.env X)=pure ZD:=by rfl)(hf:autoParam (Cx.fn X x=ZC\/PH x (T3 (QJ (Cx.env X)))=ZA NameKind.local) r_):QS X (R1 [OK x p3] (Expr.List es p2) pos) (jK i f):=
 ⟨FX (i:=i) (hN:=hN) (ha:=ha.h) (hi:=hi) (hx:=hx) (hs:=hs) (hf:=hf)⟩
def iI{p2:Pos}(i:Nat)(ha:QE X a fa)(hN:(Cx.N X)[i]?=ZA x:=by rfl)(hv:autoParam (lX (QJ (Cx.env X)) x) u_)(hn:bp a=ZC:=by rfl)(hbase:Ox (OK x p2) (N7 "append") (Cx.env X) (eval (OK x p2) (Cx.env X))=eval (OK x p2) (Cx.env X):=by rfl)(hline:(T4 apos == Ra cpos)=ZC:=by rfl)(hd:autoParam ((x == N7 "__debug__")=ZD) s_)(hcd:autoParam ((x == N7 "__classdict__")=ZD) s_)(hsw:OQ (Ql (Q8 (OK x p2) (N7 "append") apos) [a] [] cpos) ZB (Ra pos) (Cx.env X)=pure ZD:=by rfl):QS X (Stmt.Expr (Ql (Q8 (OK x p2) (N7 "append") apos) [a] [] cpos) pos) (jw i fa):=
 ⟨IZ (i:=i) (ha:=ha.h) (hN:=hN) (hv:=hv) (hn:=hn) (hbase:=hbase) (hline:=hline) (hd:=hd) (hcd:=hcd) (hsw:=hsw)⟩
def tH{p2:Pos}(i:Nat)(ha:QE X a fa)(hN:(Cx.N X)[i]?=ZA x:=by rfl)(hv:autoParam (lX (QJ (Cx.env X)) x) u_)(hn:bp a=ZC:=by rfl)(hbase:Ox (OK x p2) (N7 "extend") (Cx.env X) (eval (OK x p2) (Cx.env X))=eval (OK x p2) (Cx.env X):=by rfl)(hline:(T4 apos == Ra cpos)=ZC:=by rfl)(hd:autoParam ((x == N7 "__debug__")=ZD) s_)(hcd:autoParam ((x == N7 "__classdict__")=ZD) s_)(hsw:OQ (Ql (Q8 (OK x p2) (N7 "extend") apos) [a] [] cpos) ZB (Ra pos) (Cx.env X)=pure ZD:=by rfl):QS X (Stmt.Expr (Ql (Q8 (OK x p2) (N7 "extend") apos) [a] [] cpos) pos) (pP i fa):=
 ⟨IW (i:=i) (ha:=ha.h) (hN:=hN) (hv:=hv) (hn:=hn) (hbase:=hbase) (hline:=hline) (hd:=hd) (hcd:=hcd) (hsw:=hsw)⟩
def iH(i:Nat){F:V4}(h:QS X st F):QS X st (oq i F):=
 ⟨IX (i:=i) (h:=h.h)⟩
def gj(i:Nat){f:V5}(h:QE X e f):QE X e (ln i f):=
 ⟨q_ln (i:=i) (h:=h.h)⟩
def BP(i:Nat)(h:QT X e f):QT X e (Fc i f):=
 ⟨Lj (i:=i) (h:=h.h)⟩
def Ig:QS X (Stmt.Continue pos) HE:=
 ⟨Lm ⟩
variable{C:ZE}
def kC{c:Str}{msg:Str}{p1:Pos}(O:OX X.K C bm)(hm:X.mg c=ZA (.ref C))(hc:X.calm=ZC:=by rfl)(hg:Gl X c:=by rfl)(hd:autoParam ((c == ("__debug__" : Str))=ZD) s_):
  QS X (.Raise (ZA (.Call (.Name c np) [.Constant (.str msg) j p1] [] cpos)) ZB pos) (AN c):=⟨CF O.own hc hm hg hd⟩
def tI{base:ZH}{f:ZE}{F:V4}(Fn:L2.Fun K x qual st f fd)(S:az N ps (ai st))(hn:ps.length=n)
  (hbody:∀(cdv:NS)(A:OB)(outer:List Env)(s:NV)(H:Hp)(E:XK),Room k (A.deeper (envOfC qual (ai st) s.heap.objs.size f cdv)) →
   ∀xe,BA ((gh CX0 P w K mg base N qual (ai st) f cdv A outer s H E).FB xe) (bA st) F):E5 P w K mg base (k+1) f fd ps n (val n N.length F):=Kg Fn S hn λcdv A outer s H E hr xe=>(hbody cdv A outer s H E hr xe).h
def dg(hu:RM (Cx.A X)+1<cLine)(ha:QE X a fa)(hb:QE X b fb)(hs:autoParam (BE b) w_):QE X (P7 a b pos) (o2 bJ fa fb):=
 ⟨Lz (hu:=hu) (ha:=ha.h) (hb:=hb.h) (hs:=hs)⟩
def zo(hu:RM (Cx.A X)+1<cLine)(ha:QE X a fa)(hb:QE X b fb)(hn:bp b=ZC:=by rfl)(hbase:Ox a (N7 "get") (Cx.env X) (eval a (Cx.env X))=eval a (Cx.env X):=by rfl)(hline:(T4 apos == Ra cpos)=ZC:=by rfl):QE X (Ql (Q8 a (N7 "get") apos) [b] [] cpos) (oD jv fa fb):=
 ⟨Jg (hu:=hu) (ha:=ha.h) (hb:=hb.h) (hn:=hn) (hbase:=hbase) (hline:=hline)⟩
def AF(hu:RM (Cx.A X)+61<cLine)(ha:QE X a fa)(hb:QE X b fb)(hn:bp b=ZC:=by rfl)(hbase:Ox a (N7 "index") (Cx.env X) (eval a (Cx.env X))=eval a (Cx.env X):=by rfl)(hline:(T4 apos == Ra cpos)=ZC:=by rfl):QE X (Ql (Q8 a (N7 "index") apos) [b] [] cpos) (oL hI fa fb):=
 ⟨CJ (hu:=hu) (ha:=ha.h) (hb:=hb.h) (hn:=hn) (hbase:=hbase) (hline:=hline)⟩
def BQ{f:V5}{p2:Pos}(i:Nat)(hu:RM (Cx.A X)+8<cLine)(hc:Cx.calm X=ZC)(hm:Cx.mg X (N7 "dict")=ZB)(hN:Pp (Cx.N X))(ha:QE X e f)(hst:bp e=ZC:=by rfl)(hg:Gl X (N7 "dict"):=by rfl)(hi:(Cx.N X)[i]?=ZA x:=by rfl)(hx:autoParam (L2.Loc (QJ (Cx.env X)) x) x_)(hs:OQ (Ql (OK (N7 "dict") p) [e] [] p2) (ZA (OK x p3)) (Ra pos) (Cx.env X)=pure ZD:=by rfl)(hf:autoParam (Cx.fn X x=ZC\/PH x (T3 (QJ (Cx.env X)))=ZA NameKind.local) r_):QS X (R1 [OK x p3] (Ql (OK (N7 "dict") p) [e] [] p2) pos) (sv i f):=
 ⟨FY (i:=i) (hu:=hu) (hc:=hc) (hm:=hm) (hN:=hN) (ha:=ha.h) (hst:=hst) (hg:=hg) (hi:=hi) (hx:=hx) (hs:=hs) (hf:=hf)⟩
def Fj{fc:V5}{p2:Pos}(i:Nat)(hu:RM (Cx.A X)+1<cLine)(hb:QE X b fb)(hc:QE X c fc)(hN:(Cx.N X)[i]?=ZA x:=by rfl)(hv:autoParam (lX (QJ (Cx.env X)) x) u_)(hd:autoParam ((x == N7 "__debug__")=ZD) s_)(hcd:autoParam ((x == N7 "__classdict__")=ZD) s_)(hs:OQ c (ZA (P7 (OK x p2) b p3)) (Ra pos) (Cx.env X)=pure ZD:=by rfl):QS X (R1 [P7 (OK x p2) b p3] c pos) (AM i fb fc):=
 ⟨IQ (i:=i) (hu:=hu) (hb:=hb.h) (hc:=hc.h) (hN:=hN) (hv:=hv) (hd:=hd) (hcd:=hcd) (hs:=hs)⟩
def pw{fc:V5}{p2:Pos}(i:Nat)(hu:RM (Cx.A X)+1<cLine)(ha:QE X a fa)(hb:QE X b fb)(hc:QE X c fc)(hsl:autoParam (BE a) w_)(hN:(Cx.N X)[i]?=ZA x:=by rfl)(hv:autoParam (lX (QJ (Cx.env X)) x) u_)(hd:autoParam ((x == N7 "__debug__")=ZD) s_)(hcd:autoParam ((x == N7 "__classdict__")=ZD) s_)(hs:OQ c (ZA (P7 (P7 (OK x p2) a p3) b p4)) (Ra pos) (Cx.env X)=pure ZD:=by rfl):QS X (R1 [P7 (P7 (OK x p2) a p3) b p4] c pos) (jl i fa fb fc):=
 ⟨FW (i:=i) (hu:=hu) (ha:=ha.h) (hb:=hb.h) (hc:=hc.h) (hsl:=hsl) (hN:=hN) (hv:=hv) (hd:=hd) (hcd:=hcd) (hs:=hs)⟩
def LcScope.byN{src:List (Option Nat)}(hN:X.N=N)(hk:scope.kind=.function)(h:JR scope.names N scope.names N' src=ZC)
  (hf:(scope.names.all λy=>y.2 != .free||(X.env.scope.names.lookup y.1 == ZA .cell||X.env.scope.names.lookup y.1 == ZA .free))=ZC):LcScope X scope N' src:=by
 have z:=LcScope.by (X:={X with env:={X.env with scope:=scope}}) hN rfl hk h
 refine⟨hk,z.cel,z.loc,z.len,z.from_,λx hx=>?_⟩
 have:=Os.mp hf _ hx;simp only[bne_self_eq_false,SI,S9]at this
 show X.env.scope.names.lookup x=_\/X.env.scope.names.lookup x=_
 rcases this with z|z
 ·exact .inl (by simpa using z)
 ·exact .inr (by simpa using z)
open PySem.W
def Ei(h:ZH):(Ej h).In h:=by
 have key:∀(l:List Nat)(a:ZE)(o:Obj),(l.filterMap λa=>(h.get? a).map λo=>(a,o)).lookup a=ZA o->h.get? a=ZA o:=by
  intro l
  induction l with
  |nil=>intro a o e;cases e
  |cons b r ih=>
   intro a o e
   cases hb:h.get? b with
   |none=>rw[List.filterMap_cons_none (by rw[hb];rfl)]at e;exact ih a o e
   |some ob=>
    rw[List.filterMap_cons_some (b:=(b,ob)) (by rw[hb];rfl),OV]at e
    cases q:a == b with
    |true=>rw[q]at e;cases e;rw[eq_of_beq q];exact hb
    |false=>rw[q]at e;exact ih a o e
 exact λa o e=>key _ a o e
variable{K:Frag}{n:Str}
def HU(e:obF K n=exF n st):∃f fd,nsIn K OJ n=ZA (ZA (.ref f))/\L2.Fun K n n st f fd:=by
 unfold obF at e
 split at e
 ·rename_i f hf
  split at e
  ·rename_i oc od d sl hl
   cases d;unfold exF at e;simp only[Ss,SF]at e;obtain⟨h1,h2,h3,h4,h5,h6,h7,h8,h9,h10,h11⟩:=e;subst h1 h2 h3 h4 h5 h6 h7 h8 h9;exact⟨f,_,hf,Ef hl h10 h11⟩
  ·cases e
 ·cases e
def ql{N:ZE}(e:LS K N n=ZC):nsIn K N n=ZA ZB:=by
 unfold LS at e
 split at e
 ·assumption
 ·cases e
def JE(e:MQ K n=ZA i):∃t,nsIn K OJ n=ZA (ZA (.int i t)):=by
 unfold MQ at e
 split at e
 ·rename_i i' t h;cases e;exact⟨t,h⟩
 ·cases e
def pz:∀{l:List NS},zu l=ZC->l=rC:=by
 intro l e;unfold zu at e
 split at e
 ·simp only[NX,beq_iff_eq]at e
  obtain⟨⟨⟨h1,h2⟩,h3⟩,h4⟩:=e;subst h1 h2 h3 h4;rfl
 ·cases e
def lM{D:Option ZE}(e:Gz K D n=ZA C):nsIn K OJ n=ZA (ZA (.ref C)) ∧
  ∃nm q N bs bm hd sn su ab co dd k0 k1 k2 k3 k5,under D bm=ZC/\K.lookup C=ZA (Pq nm q C N bs bm hd sn su ab co dd k0 k1 k2 k3 k5 "ValueError.__new__")/\∀h:ZH,K.In h->∃mN,h.Ns N mN/\∀n∈calmNames,mN n=ZB:=by
 unfold Gz at e
 split at e
 ·rename_i C' hC
  split at e
  ·rename_i t dd c k0 k1 k2 k3 b k5 hl
   split at e
   ·rename_i E m ob oe es ep oz hm hN
    split at e
    ·rename_i hq
     cases e;simp only[NX,beq_iff_eq,UI]at hq;obtain⟨⟨⟨⟨⟨⟨h1,h2⟩,h3⟩,h4⟩,h5⟩,h6⟩,h7⟩:=hq
     have z:=Os.mp h5;refine⟨hC,c.name,c.qualname,c.ns,c.bases,m,c.hasDict,c.slotNames,c.subclasses,c.abstract,c.collection,dd,k0,k1,k2,k3,k5,h7,?_,LV hN h4 (ql (z _ (.head _))) (ql (z _ (.tail _ (.head _)))) (ql (z _ (.tail _ (.tail _ (.head _))))) (ql (z _ (.tail _ (.tail _ (.tail _ (.head _))))))⟩
     rw[hl];cases c;simp only at hm h3;subst h1 h2 hm h3 h6
     rfl
    ·cases e
   ·cases e
  ·cases e
 ·cases e
def ox0(e:Gz K ZB n=ZA C):OX K C rC:=by
 obtain⟨_,_,_,_,_,_,_,_,_,_,_,_,_,_,_,_,_,hu,hl,hn⟩:=lM e;cases pz hu;exact Gs hl hn
def ox1{D:ZE}(e:Gz K (ZA D) n=ZA C)(d:Gz K ZB m=ZA D):OX K C (.ref D::rC):=by
 obtain⟨_,_,_,_,_,bm,_,_,_,_,_,_,_,_,_,_,_,hu,hl,hn⟩:=lM e;obtain⟨_,_,_,_,_,_,_,_,_,_,_,_,_,_,_,_,_,hu',hl',hn'⟩:=lM d;cases pz hu';unfold under at hu;simp only at hu
 split at hu
 ·rw[NX]at hu
  cases eq_of_beq hu.1;cases pz hu.2;exact C6 hl hn hl' hn'
 ·cases hu
def nK{o:Option α}{r:List (Option α)}{l:List α}(e:zf (o::r)=ZA l):∃a l',o=ZA a/\l=a::l'/\zf r=ZA l':=by
 cases o with
 |none=>cases e
 |some a=>
  unfold zf at e
  split at e
  ·rename_i l' h;cases e;exact⟨a,l',rfl,rfl,h⟩
  ·cases e
def EU{l:List α}(e:zf ([]:List (Option α))=ZA l):l=[]:=by cases e;rfl
theorem sH:∀{l:List ZE},uH l=ZC->l.Nodup
 |[],_=>.nil
 |a::r,h=>by
  unfold uH at h;rw[NX]at h;refine On.mpr ⟨λhm=>?_,sH h.2⟩
  have:=Os.mp h.1 a hm
  simp at this
def JD{es:List Str}(e:MP K (m::es)=ZC):∃D l,Gz K ZB m=ZA D/\zf (es.map (Gz K (ZA D)))=ZA l/\(l++[D]).Nodup:=by
 rw[MP]at e
 split at e
 ·rename_i D hD
  split at e
  ·rename_i l hl;exact⟨D,l,hD,hl,sH e⟩
  ·cases e
 ·cases e
section
variable {S:E8}{top:Nat->ZF}{h:ZH}
theorem ny{f g:α->β}:∀{l:List α}(j:Nat){a:α},l.map f=l.map g->l[j]?=ZA a->f a=g a
 |[],_,_,_,q=>by cases q
 |b::l,0,a,e,q=>by cases q;exact(List.cons.inj e).1
 |b::l,j+1,a,e,q=>ny (l:=l) j (List.cons.inj e).2 q
def cT(j:Nat){i:Nat}(X:K.In h)(G:h.Ns OJ mg)(e:yu S K=xW S top)(q:S.tab[j]?=ZA (n,i))
  (hb:∀(kV doc pm:NS)(an:Option ZE)(cdv ct:NS)(us:List NS),us.length=ps.length->Vi (fnOf n n (gz (top i)) (bA (top i)) (ai (top i)) .none kV doc pm an cdv ct) ⟨us,[]⟩=pure (ps.zip us)):
  ∃f fd,Fn K mg n (top i) ps f fd:=by
 obtain⟨f,fd,h1,h2⟩:=HU (ny j (congrArg (·.1) e) q)
 exact⟨f,fd,h2,h2.binds hb,mg_of X G h1⟩
def Mf(j:Nat){i:Nat}{fa:ZE}(X:K.In h)(G:h.Ns OJ mg)(e:yu S K=xW S top)(q:S.tab[j]?=ZA (n,i))(hfa:mg n=ZA (.ref fa))
  (hb:∀(kV doc pm:NS)(an:Option ZE)(cdv ct u:NS),Vi (fnOf n n (gz (top i)) (bA (top i)) (ai (top i)) .none kV doc pm an cdv ct) ⟨[u],[]⟩=pure [(x,u)]):
  ∃fd,Fn K mg n (top i) [x] fa fd/\∀(s:NV)(u:NS),Sj s fd ⟨[u],[]⟩ [(x,u)]:=by
 obtain⟨f,fd,h1,h2⟩:=HU (ny j (congrArg (·.1) e) q)
 have z:=hfa.symm.trans (mg_of X G h1);cases z
 have hh:=h2;obtain⟨oc,od,kV,doc,pm,an,cdv,ct,osl,rfl,lk,hcd⟩:=hh.ex;exact⟨_,⟨h2,.all λus hl=>match us,hl with|[u],_=>hb kV doc pm an cdv ct u,mg_of X G h1⟩,λs u=>.of_eq (hb kV doc pm an cdv ct u)⟩
def fJ(j:Nat)(X:K.In h)(G:h.Ns OJ mg)(e:yu S K=xW S top)(q:S.zs[j]?=ZA n):mg n=ZB:=
 mg_none_of X G (ql (Os.mp (congrArg (·.2.1) e:S.zs.all (LS K OJ)=ZC) n (Ot q)))
def sS(j:Nat)(X:K.In h)(G:h.Ns OJ mg)(e:yu S K=xW S top)(q:S.cs[j]?=ZA (n,i)):∃t,mg n=ZA (.int i t):=by
 obtain⟨t,ht⟩:=JE (ny (f:=λc=>MQ K c.1) (g:=λc=>ZA c.2) j (congrArg (·.2.2.1) e) q)
 exact⟨t,mg_of X G ht⟩
def Mi(e:yu S K=xW S top):MP K S.es=ZC:=congrArg (·.2.2.2) e
end
variable{loose:List Str}
def left_of{p:Oh}{Xt:NV->Bool}{Yf:NV->α}{Ya:O8->α}{N:Nat}{g0:Bool}
  (e:opening p=plainProg p.main.scope.names) (hN:Nat.ble 600 N=ZC) (f:∀s,fenceModules? p s=ZA s)
  (h:∀(w:O8)(os:UL),(topFrom treeTable p w N ⟨boot_heap w.params,⟨[]⟩,boot_drawn,boot_toks,os⟩).map (λs=>(openSeen q loose (Vx p.main.body) Xt g0 s,Yf s))=ZA (openGood q loose,Ya w)):
  LeftO p q loose Xt Yf Ya N g0:=λw=>by
 obtain⟨⟨h0,gs,d,k,os⟩,e1,e2⟩:=QP.mp (boot_open e hN f w);simp only[SF]at e2;obtain⟨rfl,rfl,rfl,rfl⟩:=e2;unfold openEnds;rw[e1];exact h w os
structure Cl (P:Oh)(w:O8)(K:Frag)(mg:V0)(base:ZH)(k:Nat)(x:Str)(n:Nat)(m:List T->Rs T):Prop where
 ex:∃f fd ps,mg x=ZA (.ref f)/\keepIn K (.ref f)=ZC/\Binds K fd ps []/\ps.length=n/\E5 P w K mg base k f fd ps n m
abbrev gW(K:Frag)(mg:V0)(x:Str)(st:ZF)(ps:List Str):Prop:=∃f fd,Fn K mg x st ps f fd
variable{n:Nat}
section
variable {base:ZH}{F:V4}
def bN(H:gW K mg x st ps)(S:az N ps (ai st))(hn:ps.length=n)
  (hbody:∀(f:ZE)(cdv:NS)(A:OB)(outer:List Env)(s:NV)(H:Hp)(E:XK),Room k (A.deeper (envOfC x (ai st) s.heap.objs.size f cdv)) →
   ∀xe,BA ((gh CX0 P w K mg base N x (ai st) f cdv A outer s H E).FB xe) (bA st) F):Cl P w K mg base (k+1) x n (val n N.length F):=by
 obtain⟨f,fd,h⟩:=H;exact⟨f,fd,ps,h.mg,h.fn.kp,h.bd,hn,tI h.fn S hn (hbody f)⟩
end
variable{g:List T->Rs T}
section
variable {fs:V3}
def a6(c:Cl X.prog X.w X.K X.mg X.base k x n g)(hr:Room k' X.A)(ha:QA X (e::es) fs)(hk:autoParam (k<=k') s_)(hl:∀(Z:En)(ts:List T),fs Z=.ok ts->ts.length=n:=by repeat first|exact xI|refine xH ?_)
  (hn:bB (e::es)=ZC:=by rfl) (hg:Gl X x:=by rfl) (h2:autoParam ((x == N7 "__debug__")=ZD) s_):QE X (.Call (.Name x p) (e::es) [] pos) (cl g fs):=by
 obtain⟨f,fd,ps,h1,h3,h4,h5,h6⟩:=c.ex;exact zq_c h6 (hr.mono hk) h1 h3 h4 hl ha h5 hn hg h2
def vo(h:∃t,X.mg x=ZA (.int i t))(hg:Gl X x:=by rfl)(hd:autoParam ((x == N7 "__debug__")=ZD) s_):QE X (.Name x pos) (cn (.int i)):=by
 obtain⟨t,h⟩:=h;exact Fp h ⟨_,rfl⟩ hg hd
end
def GD{q:Str}(e:LU K C m q=Mx m q st):∃f fd,xJ K C m f/\L2.Fun K m q st f fd:=by
 unfold LU at e
 split at e
 ·rename_i f hf
  split at e
  ·rename_i oc od d sl hl
   cases d;unfold Mx at e;simp only[Ss,SF]at e;obtain⟨h1,h2,h3,h4,h5,h6,h7,h8,h9,h10,h11,h12⟩:=e;subst h1 h2 h3 h4 h5 h6 h7 h8 h9;exact⟨f,_,⟨hf,h12,h11⟩,Ef hl h10 h11⟩
  ·cases e
 ·cases e
def GB{f:Str}(e:JI K C f=ZC):NoAttr K C f:=by
 unfold JI at e
 split at e
 ·assumption
 ·cases e
def FK(e:IC K C=ZC):findIn K (.ref C) "__setattr__" =ZA (ZA (.builtin "object.__setattr__")):=by
 unfold IC at e
 split at e
 ·rename_i b h;rw[h,eq_of_beq e]
 ·cases e
structure sg (K:Frag)(mg:V0)(c:Str):Prop where
 cl:Cls K (bO K c)
 mg:mg c=ZA (.ref (bO K c))
 mks:makesIn K (bO K c)=ZC
 kp:keepIn K (.ref (bO K c))=ZC
abbrev nM(K:Frag)(c m q:Str)(st:ZF)(ps:List Str):Prop:=∃f fd,xJ K (bO K c) m f/\L2.Fun K m q st f fd/\Binds K fd ps []
section
variable {h:ZH}{top:Nat->ZF}{A:Hs}
def Mo(X:K.In h)(G:h.Ns OJ mg)(e:obK K A=exK top A):sg K mg A.c/\(∀f∈A.as,NoAttr K (bO K A.c) f)/\A.ms.map (λ(m:Str×Str×Nat)=>LU K (bO K A.c) m.1 m.2.1)=A.ms.map (λ(m:Str×Str×Nat)=>Mx m.1 m.2.1 (cL (top A.i) m.2.2)):=by
 unfold obK at e
 split at e
 ·rename_i C hC
  unfold exK at e;simp only[Ss,SF]at e;obtain⟨e1,e2⟩:=e
  have hc:bO K A.c=C:=by unfold bO;rw[hC]
  unfold HX at e1;simp only[NX]at e1;obtain⟨⟨⟨⟨⟨⟨h1,h2⟩,h3⟩,h4⟩,h5⟩,h6⟩,h7⟩:=e1;rw[hc];exact⟨⟨by rw[hc];exact⟨h1,h2,h3,FK h4⟩,by rw[hc];exact mg_of X G hC,by rw[hc];exact h5,by rw[hc];exact h6⟩,λf hf=>GB (Os.mp h7 f hf),e2⟩
 ·cases e
def il(j:Nat){q:Str}{i:Nat}(e:A.ms.map (λ(m:Str×Str×Nat)=>LU K (bO K A.c) m.1 m.2.1)=A.ms.map (λ(m:Str×Str×Nat)=>Mx m.1 m.2.1 (cL (top A.i) m.2.2)))(z:A.ms[j]?=ZA (m,q,i))
  (hb:∀(kV doc pm:NS)(an:Option ZE)(cdv ct:NS)(us:List NS),us.length=ps.length->Vi (fnOf m q (gz (cL (top A.i) i)) (bA (cL (top A.i) i)) (ai (cL (top A.i) i)) .none kV doc pm an cdv ct) ⟨us,[]⟩=pure (ps.zip us)):
  nM K A.c m q (cL (top A.i) i) ps:=by
 obtain⟨f,fd,h1,h2⟩:=GD (ny j e z);exact⟨f,fd,h1,h2,h2.binds hb⟩
end
def hookC(S:xN)(top:Nat->ZF):Hook:=
 ⟨_,λs=>Dd S (Ej s.heap),λ_=>Cc S top,λ_ h=>∃K:Frag,K.In h/\Dd S K=Cc S top,λ_ s e=>⟨_,Ei s.heap,e⟩,λ_ _ _ ⟨K,a,b⟩ k=>⟨K,a.keeps k,b⟩⟩
def walk_c{l:OpenLaw}{XP:(V0)->ZH->Prop}{d:DefRec}{S:xN}{top:Nat->ZF}{CX:BL}{sp:Frag->Sp}
  (hn:l.most=ZA n) (hn2:n<=ZI) (hdf:d.params.defaults=[]) (hr:Room k callerA)
  (F:∀(w:O8)(K:Frag)(mg:V0)(fa:ZE)(h:ZH),K.In h->Dd S K=Cc S top->h.Ns OJ mg->mg d.name=ZA (.ref fa) →
   ∃fd:OG,(∀(s:NV)(u:NS),Sj s fd ⟨[u],[]⟩ [(x,u)])/\∀base:ZH,K.In base->base.Ns OJ mg->FnOk l.prog w K mg base CX k fa fd [x] (sp K))
  (hsp:∀(K:Frag)(H:Hp)(a:ZE)(ns:List Int),ns.length<=n->KL H->SqL K H a (ns.map V.int)->sp K [.ref a] H (λv _=>v=.bl ZC) λ_ _ _=>False)
  (hCX:∀(H:Hp)(s:NV)(e:NS)(s':NV),CX [] H s (λ_ _ _=>False) e s'->False):
  WalkO q loose XP (hookC S top).says l.row.toRowW d [] (λf vs=>PySem.call f vs):=by
 refine Att.attach_call hn hdf λw s₀ s₁ mg mb fa o pm cd doc a vs ns G Y ho hd hcd hmg hobj hints hlen hg=>?_
 obtain⟨K,KX,e⟩:=Y;obtain⟨fd,hb,hF⟩:=F w K mg fa _ KX e G.T.g hmg;exact Dz KX G.T.g G.T.b G.T.builtins G.T.nolimit hg hobj hints (O4 hlen hn2) hr hF hb (λH hO hS=>hsp K H a ns hlen hO hS) λH e s'=>hCX H s₁ e s'
structure Ml (P:Oh)(w:O8)(K:Frag)(mg:V0)(base:ZH)(k:Nat)(c m:Str)(g:List T->Rs T):Prop where
 ex:∃f fd ps,xJ K (bO K c) m f/\Binds K fd ps []/\ps.length=1/\E5 P w K mg base k f fd ps 1 g
structure Mm (P:Oh)(w:O8)(K:Frag)(mg:V0)(base:ZH)(k:Nat)(c m:Str)(n:Nat)(g:List Sl->Rs (T×OT)):Prop where
 ex:∃f fd ps,xJ K (bO K c) m f/\Binds K fd ps []/\ps.length=n/\Fg P w K mg base k f fd ps n 0 g
structure Ce (P:Oh)(w:O8)(K:Frag)(mg:V0)(base:ZH)(k:Nat)(x:Str)(n j:Nat)(g:List Sl->Rs (T×OT)):Prop where
 ex:∃f fd ps,mg x=ZA (.ref f)/\keepIn K (.ref f)=ZC/\Binds K fd ps []/\ps.length=n/\Fg P w K mg base k f fd ps n j g
structure QX (X:Cx)(e:ZG)(f:En->Rs (T×En)):Prop where
 h:Az X e f
structure QXT (X:Cx)(e:ZG)(f:En->Rs (Bool×En)):Prop where
 h:PXT X e f
structure QM (X:Cx)(j:Nat)(e:ZF)(f:En->Rs Fx):Prop where
 h:Fe X j e f
structure BJ (X:Cx)(j:Nat)(e:List ZF)(f:En->Rs Fx):Prop where
 h:BB X j e f
section
variable {base:ZH}{c q:Str}
def Dm{F:V4}(H:nM K c m q st ps)(S:az N ps (ai st))(hn:ps.length=1)
  (hbody:∀(f:ZE)(cdv:NS)(A:OB)(outer:List Env)(s:NV)(H:Hp)(E:XK),Room k (A.deeper (envOfC q (ai st) s.heap.objs.size f cdv)) →
   ∀xe,BA ((gh CX0 P w K mg base N q (ai st) f cdv A outer s H E).FB xe) (bA st) F):Ml P w K mg base (k+1) c m (val 1 N.length F):=by
 obtain⟨f,fd,h1,h2,h3⟩:=H;exact⟨f,fd,ps,h1,h3,hn,tI h2 S hn (hbody f)⟩
def qA{F:En->Rs Fx}(H:nM K c m q st ps)(S:az N ps (ai st))(hn:ps.length=n)
  (hbody:∀(f:ZE)(cdv:NS)(A:OB)(outer:List Env)(s:NV)(H:Hp)(E:XK),Room k (A.deeper (envOfC q (ai st) s.heap.objs.size f cdv)) →
   ∀xe,BJ ((gh CX0 P w K mg base N q (ai st) f cdv A outer s H E).FB xe) 0 (bA st) F):Mm P w K mg base (k+1) c m n (hZ n 0 N.length F):=by
 obtain⟨f,fd,h1,h2,h3⟩:=H;exact⟨f,fd,ps,h1,h3,hn,El h2 S hn λcdv A outer s H E hr xe=>(hbody f cdv A outer s H E hr xe).h⟩
def MF{F:En->Rs Fx}(H:gW K mg x st ps)(S:az N ps (ai st))(hn:ps.length=n)
  (hbody:∀(f:ZE)(cdv:NS)(A:OB)(outer:List Env)(s:NV)(H:Hp)(E:XK),Room k (A.deeper (envOfC x (ai st) s.heap.objs.size f cdv)) →
   ∀xe,BJ ((gh CX0 P w K mg base N x (ai st) f cdv A outer s H E).FB xe) j (bA st) F):Ce P w K mg base (k+1) x n j (hZ n j N.length F):=by
 obtain⟨f,fd,h⟩:=H;exact⟨f,fd,ps,h.mg,h.fn.kp,h.bd,hn,El h.fn S hn λcdv A outer s H E hr xe=>(hbody f cdv A outer s H E hr xe).h⟩
end
variable{s:ZF}
section
variable {o:ZG}{cb:List ZG}{fs:V3}{p2 spos:Pos}{y n cn' f:Str}{l:Nat}{ge:List Sl->Rs (T×OT)}{ex ey:En->Rs (T×En)}{tx ty:En->Rs (Bool×En)}
def oR(h:QE X a fa):QX X a (xP fa):=⟨Im h.h⟩
def mT(C:sg X.K X.mg m)(hn:NoAttr X.K (bO X.K m) f)(ha:QE X a fa)(hb:Ox a f X.env (eval a X.env)=eval a X.env:=by rfl):QE X (.Attribute a f pos) (o1 (kY m f) fa):=⟨Ly C.cl hn ha.h hb⟩
def kD{pl:Sem Bool}(C:sg X.K X.mg n)(M:Ml X.prog X.w X.K X.mg X.base k n m g)(hr:Room k' X.A)(ho:QE X o fo)(hk:autoParam (k<=k') s_)
  (ht:eval (.Call (.Attribute o m apos) [] [] pos) X.env=(do
   let ov <-eval o X.env
   standAt apos.atName
   let (f,first) <-holding [ov] (R4 ov m pl)
   Uz pos f first (backTo pos (N5 [] X.env)) (Sh pos (Q0 [] X.env))):=by rfl):QE X (.Call (.Attribute o m apos) [] [] pos) (r6 n m g fo aj):=by
 obtain⟨f,fd,ps,h1,h2,h3,h4⟩:=M.ex;exact⟨Ga (pl:=pl) C.cl h1 h4 (hr.mono hk) h2 h3 ho.h ht⟩
def xO(i:Nat)(C:sg X.K X.mg m)(hn:NoAttr X.K (bO X.K m) f)(ha:QE X a fa)(hN:X.N[i]?=ZA x:=by rfl)(hv:autoParam (lX X.env.scope x) u_)(hs:bp a=ZC:=by rfl)
  (hb1:Ox (.Name x p2) f X.env (eval (.Name x p2) X.env)=eval (.Name x p2) X.env:=by rfl)
  (hbase:Ox (.Attribute (.Name x p2) f p3) "append" X.env (eval (.Attribute (.Name x p2) f p3) X.env)=eval (.Attribute (.Name x p2) f p3) X.env:=by rfl) (hline:(apos.endLine == cpos.line)=ZC:=by rfl)
  (hd:autoParam ((x == ("__debug__" : Str))=ZD) s_) (hcd:autoParam ((x == ("__classdict__" : Str))=ZD) s_):QX X (.Call (.Attribute (.Attribute (.Name x p2) f p3) "append" apos) [a] [] cpos) (vq i m f fa):=⟨KW i C.cl hn ha.h hN hv hs hb1 hbase hline hd hcd⟩
def BN(i:Nat)(C:sg X.K X.mg m)(hn:NoAttr X.K (bO X.K m) f)(hN:X.N[i]?=ZA x:=by rfl)(hv:autoParam (lX X.env.scope x) u_)
  (hb1:Ox (.Name x p2) f X.env (eval (.Name x p2) X.env)=eval (.Name x p2) X.env:=by rfl)
  (hbase:Ox (.Attribute (.Name x p2) f p3) "pop" X.env (eval (.Attribute (.Name x p2) f p3) X.env)=eval (.Attribute (.Name x p2) f p3) X.env:=by rfl) (hline:(apos.endLine == cpos.line)=ZC:=by rfl)
  (hd:autoParam ((x == ("__debug__" : Str))=ZD) s_) (hcd:autoParam ((x == ("__classdict__" : Str))=ZD) s_):QX X (.Call (.Attribute (.Attribute (.Name x p2) f p3) "pop" apos) [] [] cpos) (xS i m f):=⟨KR i C.cl hn hN hv hb1 hbase hline hd hcd⟩
def JQ{fs:V3}(h:∀(Z:En)(ts:List T),fs Z=.ok ts->ts.length=l)(Z:En)(ts:List T)(z:fs Z=.ok ts):ts.length+1=l+1:=congrArg (· +1) (h Z ts z)
def kA{pl:Sem Bool}(i:Nat)(C:sg X.K X.mg n)(M:Mm X.prog X.w X.K X.mg X.base k n m (l+1) ge)(hr:Room k' X.A)(ha:QA X (e::es) fs)(hk:autoParam (k<=k') s_)(hl:∀(Z:En)(ts:List T),fs Z=.ok ts->ts.length=l:=by repeat first|exact xI|refine xH ?_)
  (hN:X.N[i]?=ZA x:=by rfl) (hv:autoParam (lX X.env.scope x) u_) (hd:autoParam ((x == ("__debug__" : Str))=ZD) s_) (hcd:autoParam ((x == ("__classdict__" : Str))=ZD) s_)
  (hns:bB (e::es)=ZC:=by rfl)
  (ht:eval (.Call (.Attribute (.Name x p2) m apos) (e::es) [] pos) X.env=(do
   let ov <-eval (.Name x p2) X.env
   standAt apos.atName
   let (f,first) <-holding [ov] (R4 ov m pl)
   Uz pos f first (backTo pos (N5 (e::es) X.env)) (Sh pos (Q0 [] X.env))):=by rfl):QX X (.Call (.Attribute (.Name x p2) m apos) (e::es) [] pos) (cX i n m ge fs):=by
 obtain⟨f,fd,ps,h1,h2,h3,h4⟩:=M.ex
 have hn2:bp e=ZC/\bB es=ZC:=Pf.mp hns;exact⟨Io (pl:=pl) i C.cl h1 h4 (hr.mono hk) h2 h3 (JQ hl) ha.h hN hv hd hcd (a9 hn2.1) (e9 hn2.2) ht⟩
def vm{pl:Sem Bool}(i:Nat)(C:sg X.K X.mg n)(M:Mm X.prog X.w X.K X.mg X.base k n m 1 ge)(hr:Room k' X.A)(hk:autoParam (k<=k') s_)
  (hN:X.N[i]?=ZA x:=by rfl) (hv:autoParam (lX X.env.scope x) u_) (hd:autoParam ((x == ("__debug__" : Str))=ZD) s_) (hcd:autoParam ((x == ("__classdict__" : Str))=ZD) s_)
  (ht:eval (.Call (.Attribute (.Name x p2) m apos) [] [] pos) X.env=(do
   let ov <-eval (.Name x p2) X.env
   standAt apos.atName
   let (f,first) <-holding [ov] (R4 ov m pl)
   Uz pos f first (backTo pos (N5 [] X.env)) (Sh pos (Q0 [] X.env))):=by rfl):QX X (.Call (.Attribute (.Name x p2) m apos) [] [] pos) (cX i n m ge aj):=by
 obtain⟨f,fd,ps,h1,h2,h3,h4⟩:=M.ex;exact⟨Fs (pl:=pl) i C.cl h1 h4 (hr.mono hk) h2 h3 hN hv hd hcd ht⟩
def Ie(i:Nat)(M:Ce X.prog X.w X.K X.mg X.base k y (l+1) 0 ge)(hr:Room k' X.A)(ha:QA X es fs)(hk:autoParam (k<=k') s_)(hl:∀(Z:En)(ts:List T),fs Z=.ok ts->ts.length=l:=by repeat first|exact xI|refine xH ?_)
  (hN:X.N[i]?=ZA x:=by rfl) (hv:autoParam (lX X.env.scope x) u_) (hd:autoParam ((x == ("__debug__" : Str))=ZD) s_) (hcd:autoParam ((x == ("__classdict__" : Str))=ZD) s_)
  (hg:Gl X y:=by rfl) (hdb:autoParam ((y == ("__debug__" : Str))=ZD) s_) (hns:bB es=ZC:=by rfl):QX X (.Call (.Name y p) (.Name x p2::es) [] pos) (xT i ge fs):=by
 obtain⟨f,fd,ps,h1,h0,h2,h3,h4⟩:=M.ex;exact⟨KU i h4 (hr.mono hk) h1 h0 h2 h3 (JQ hl) ha.h hN hv hd hcd hg hdb rfl (e9 hns)⟩
def Fh{r:T->T->Rs T}(ho:OpT X (OM op) r)(ha:QX X a ex)(hb:QE X b fb)(hm:Qm op b=ZD:=by rfl):QXT X (.Compare a [op] [b] pos) (Il (Ft r ex fb)):=⟨Ik ho ha.h hb.h hm⟩
def Fm{C:List ZF}{F:V4}(hc:QXT X c tx)(ha:BA X A F)(hb:BA X C G):QS X (.If c A C pos) (ye tx F G):=⟨IU hc.h ha.h hb.h⟩
def BU:BJ X j [] mN:=⟨L4⟩
def fH{F:En->Rs Fx}(h:QM X j s F):BJ X j [s] F:=⟨L3 h.h⟩
def fM{ss:List ZF}{F G:En->Rs Fx}(h1:QM X j s F)(h2:BJ X j ss G):BJ X j (s::ss) (jU F G):=⟨JN h1.h h2.h⟩
def zq(ha:QX X a ex)(hs:OQ a ZB pos.line X.env=pure ZD:=by rfl):QM X j (.Expr a pos) (Dq ex):=⟨m_ex ha.h hs⟩
def iK(ha:QX X a ex):QM X j (.Return (ZA a) pos) (ij ex):=⟨L1 ha.h⟩
def Hw(i:Nat)(hN:X.N.Nodup)(ha:QX X a ex)(hij:autoParam (i≠j) s_)(hi:X.N[i]?=ZA n:=by rfl)(hx:autoParam (Loc X.env.scope n) x_)(hs:OQ a (ZA (.Name n p3)) pos.line X.env=pure ZD:=by rfl)
  (hf:autoParam (X.fn n=ZC\/X.env.scope.names.lookup n=ZA .local) r_):QM X j (.Assign [.Name n p3] a pos) (JP i ex):=⟨m_as i hij hN ha.h hi hx hs hf⟩
def Hv{t:V6}{C:List ZF}{F G:En->Rs Fx}(hc:QT X c t)(ha:BJ X j A F)(hb:BJ X j C G):QM X j (.If c A C pos) (JO t F G):=⟨m_if hc.h ha.h hb.h⟩
def BW{d:Str}(h:QS X s (AN d)):QM X j s (GH d):=⟨L7 h.h⟩
def xR(i:Nat)(C:sg X.K X.mg m)(hn:NoAttr X.K (bO X.K m) f)(ha:QA X es fs)(hN:X.N[i]?=ZA n:=by rfl)(hv:autoParam (lX X.env.scope n) u_)
  (hd:autoParam ((n == ("__debug__" : Str))=ZD) s_) (hcd:autoParam ((n == ("__classdict__" : Str))=ZD) s_) (hs:OQ (.List es p4) (ZA (.Attribute (.Name n p2) f p3)) pos.line X.env=pure ZD:=by rfl):
  QM X j (.Assign [.Attribute (.Name n p2) f p3] (.List es p4) pos) (wX i m f fs):=⟨L6 i C.cl hn ha.h hN hv hd hcd hs⟩
def Ij{F:En->Rs Fx}{CE:ZE}(i:Nat)(hN:X.N.Nodup)(hm:X.mg ce=ZA (.ref CE))(OE:OX X.K CE bmE)
  (hb:∀pn xe,BJ {X with pn:=pn,xe:=xe} j body F) (hs:mO X i (b0::suite) CE h) (hst:X.stack=X.env::X.outer:=by rfl) (hfe:X.env.frame=ZA X.env.locals:=by rfl) (hcl:∀x c,X.env.cells.lookup x≠ZA c) (hex:X.ex=[]:=by rfl)
  (hi:X.N[i]?=ZA n:=by rfl) (hloc:X.env.scope.names.lookup n=ZA .local:=by rfl) (hg:Gl X ce:=by rfl) (hd:autoParam ((ce == ("__debug__" : Str))=ZD) s_):
  QM X j (.Try body [.ExceptHandler (ZA (.Name ce np)) (ZA n) (b0::suite) hpos] [] [] pos) (wW F h):=⟨L0 hst hfe hcl hex hN hi hloc hm OE (λpn xe=>(hb pn xe).h) hs hg hd⟩
end
def x_if{x:En->Rs (T×En)}(hc:tE X c f)(ha:Az X a x)(hb:Az X b y):Az X (.IfExp c a b pos) (BZ f x y):=PE.imp (v9 hc ha hb) λσ H Q hh_=>by
 obtain⟨Z,B,M,E,h⟩:=hh_;refine⟨Z,OO B M,E.o,?_⟩
 unfold BZ at h
 cases q:f Z with
 |bad=>rw[q]at h;exact h
 |err c=>rw[q]at h;exact h
 |ok k=>
  rw[q,ay]at h;intro H' s
  have E':Ev X.K B M H' Z σ:=E.same s
  cases k with
  |true=>refine L2.iteT ?_;exact⟨Z,B,M,E',PostX.later (by simpa using h) s⟩
  |false=>refine L2.iteF ?_;exact⟨Z,B,M,E',PostX.later (by simpa using h) s⟩
def Ht{x:En->Rs (T×En)}(hc:QT X c f)(ha:QX X a x)(hb:QX X b y):QX X (.IfExp c a b pos) (BZ f x y):=⟨x_if hc.h ha.h hb.h⟩
end Tr
namespace L2
open PySem PySem.Spec PyProof.Rows
def Itv(K:NQ)(a:ZE)(n:Nat):It:=
 ⟨λi H=>i<n/\∃xs,SqL K H a xs/\xs.length=n,λi H x H'=>H'=H/\∀xs,SqL K H a xs->xs[n - 1 - i]?=ZA x,λi H=>n<=i⟩
def Cd{tg:ZG}(a it:ZE)(n:Nat):Bz P w K tg (Itv K a n) [it] it (λi h=>i<=n/\h.IsRevIter it a ((n:Int) - 1 - (i:Int))) where
 mem:=by simp
 obj:=λi h st b hb=>by
  have e:b=it:=by simpa using hb
  subst e;obtain⟨_,o,e,c,d⟩:=st;exact⟨o,e,λv z=>by rw[d]at z;cases z⟩
 keep:=λi h h' st k=>⟨st.1,st.2.at λo e=>k it (by simp) o e⟩
 item:=by
  intro X hP hw hK hc i lm s σ H E I hf st hg;subst hP hw hK;obtain⟨hlt,xs,hq,hn⟩:=hg;obtain⟨its,rv,p,hz⟩:=I.list hq
  have hx:xs[n - 1 - i]?=ZA xs[n - 1 - i]:=N6 (by omega)
  obtain⟨u,hu,ru⟩:=rv.get hx;obtain⟨f0,f1,f2,f3,f4,f5⟩:=hf it (by simp)
  have e1:(n:Int) - 1 - (i:Int)=((n - 1 - i:Nat):Int):=by omega
  have st:=st.2;rw[e1]at st;refine wpAny_pyNext_rev_item st p.isList (x:=u) (by simpa using hu) λh' st' sb=>?_
  have I1:Inv X lm σ H {s with heap:=h'}:=I.turned (t':=s.toks) (λb o hb e=>(sb.2 b hb).trans e) f0 f1 f3 f4 f5
  have e2:((n - 1 - i:Nat):Int) - 1=(n:Int) - 1 - ((i+1:Nat):Int):=by omega
  rw[e2]at st';obtain⟨o,e,c,d⟩:=id st';exact⟨u,rfl,Af (s:={s with heap:=h'}) e c d (by decide) ⟨_,H,I1,ru,⟨rfl,λys hy=>by rw[I.Nd hy hq];exact hx⟩,⟨hlt,st'⟩,λb hb=>(hf b hb).1⟩⟩
 done:=by
  intro X hP hw hK hc i lm s σ H E I hf st hg;subst hP hw hK
  have hg:n<=i:=hg;obtain⟨hle,st⟩:=st
  have hin:i=n:=Nat.le_antisymm hle hg;subst hin;obtain⟨f0,f1,f2,f3,f4,f5⟩:=hf it (by simp)
  have e1:(i:Int) - 1 - (i:Int)= -1:=by omega
  rw[e1]at st;exact wpAny_pyNext_rev_end (I.ok.hd hc) st λh' eb=>⟨rfl,I.turned (t':=s.toks) (λb o hb e=>eb b o hb e) f0 f1 f3 f4 f5⟩
 self:=λ_ _ _ _ _ st h=>TM st.2 h
end L2
namespace Tr
open PySem PySem.Spec PyProof.Rows L2
variable{X:Cx}{p pos:Pos}{tg:ZG}
section
variable {a:ZG}{fs:V3}
def sd:OL "reversed" =ZA (.type "reversed"):=by decide+kernel
def Jc(hm:X.mg "reversed" =ZB)(ha:pk X [a] fs)(hg:Gl X "reversed":=by rfl)(hs:N5 [a] X.env=[(ZD,eval a X.env)]:=by rfl):BD X tg (.Call (.Name "reversed" p) [a] [] pos) (D6 fs):=by
 intro lm s σ H R I ⟨Z,O,E,h⟩
 have h1:=fV E h;refine Call_ (gg I hg hm sd (Pa (bW (ha pos lm s σ H _ I h1) λus s1 ⟨vs,H1,I1,r1,ts,rs,s',E',q1⟩=>?_) hs rfl))
 split at q1
 ·rename_i l
  obtain⟨v,rfl,r⟩:=rs.one;obtain⟨b,ws,rfl,n,q,z⟩:=Rep.Do.mp r;obtain⟨u,rfl,ru⟩:=jA r1;cases ru;obtain⟨its,rv,pl,hz⟩:=I1.list (SqL.of q);refine call_reversed_list pl.isList ?_
  have hl1:its.length=ws.length:=rv.length.symm
  have hl2:l.length=ws.length:=z.length
  have hit:(s1.heap.push (revObj b ((its.toArray.size:Int) - 1))).IsRevIter s1.heap.objs.size b ((ws.length:Int) - 1 - ((0:Nat):Int)):=by
   refine⟨_,Og _ rfl,rfl,?_⟩
   show Vm #[.ref b,rawInt ((its.toArray.size:Int) - 1)]=_
   rw[Od,hl1];simp
  refine TM (s:={s1 with heap:=s1.heap.push (revObj b ((its.toArray.size:Int) - 1))}) hit ?_
  refine⟨s1.heap.objs.size,[s1.heap.objs.size],_,_,H1,rfl,I1.kept (t':=s1.toks) λb o e=>N4 _ e,Cd b _ ws.length,⟨P9 _,hit⟩,λc hb=>?_,?_⟩
  ·have e:c=s1.heap.objs.size:=by simpa using hb
   subst e;exact I1.Nm (Ob _) (I1.hok.fresh (Ob _))
  ·refine q1 H1 (Same.refl H1) _ λP O' hP hO i Hc hs ht=>?_
   have hnP:¬ P b:=λw=>(hP b w).elim n λw=>by rw[w.1]at q;cases q
   have hc:=hs _ _ q hnP;refine⟨λhi=>?_,λt ht'=>?_⟩
   ·rw[R3,hl2]at hi
    exact hi
   ·have hi:i<l.length:=by have:=(N1.mp ht').1;simpa using this
    rw[List.getElem?_reverse hi,show l.length - 1 - i=ws.length - 1 - i by omega]at ht'
    obtain⟨v,e1,e2⟩:=z.get ht';refine⟨⟨by omega,ws,SqL.of hc,rfl⟩,λx Hc' y=>?_⟩
    obtain⟨e,y⟩:=y;subst e
    have:=y ws (SqL.of hc);rw[e1]at this;cases this;exact⟨Same.refl _,e2.move hP hO hs⟩
 ·exact q1.elim
def Fo(hm:X.mg "reversed" =ZB)(ha:QA X [a] fs)(hn:bp a=ZC:=by rfl)(hg:Gl X "reversed":=by rfl):QI X tg (.Call (.Name "reversed" p) [a] [] pos) (D6 fs):=⟨Jc hm ha.h hg (a9 hn)⟩
end
def Ax(X:Cx)(B P:Ow)(H:Hp)(r:Rs (T ⊕ OT))(D:nP):Prop:=match r with
 |.ok (.inl t)=>∀v H',SameO P H H'->Rep X.K B H' t v->D.rt v H'
 |.ok (.inr o)=>∀v H' m,SameO P H H'->ORep X.K (BM B m) m H' o v->(∀a,m a->P a\/Nw X.K H a)->D.rt v H'
 |.err c=>XA X lq H c
 |.bad=>False
def tPN(X:Cx)(F:En->Rs (T ⊕ OT)):TS:=λD σ H=>∃Z B M,Ev X.K B M H Z σ/\Ax X B M.u H (F Z) D
abbrev MZ(X:Cx)(s:ZF)(F:En->Rs (T ⊕ OT)):Prop:=PS X s (tPN X F)
abbrev M0(X:Cx)(s:List ZF)(F:En->Rs (T ⊕ OT)):Prop:=PSs X s (tPN X F)
variable{H:Hp}{O:Ow}{Q:VK}{b0 st:ZF}{body suite:List ZF}{ce:Str}{e:ZG}{es:List ZG}{f:ZE}{h:Str->Rs T}{hpos spos:Pos}{ps:List Str}{σ:L2.St}
section
variable {lm:V2}{vs:List V}{ts:List T}{B:Ow}{g:List Sl->Rs (T×OT)}{c:Str}
def AO(M:Mk X.K (bO X.K c) f)(F:Fg X.prog X.w X.K X.mg X.base k f fd ps n 0 g)(hr:Room (k+1) X.A)(hb:Binds X.K fd ps [])(hn:ts.length+1=n)(hps:ps.length=n)(I:Inv X lm σ H s)(r:Vals vs us)(rs:Reps X.K O H ts vs)(mt:∀a,O a->Mtb H a){d:Str}
  (hg:g (.ow (.ob c [] [])::ts.map Sl.va)=.err d) (h:XA X lq H d):ZJ (ZK X.prog X.w) X.A (call (.ref (bO X.K c)) us) (EP X lm σ Q) X.xe s:=by
 have nk:∀q,s.heap.objs.size<=q->X.K.lookup q=ZB:=λq hq=>by
  cases z:X.K.lookup q with
  |none=>rfl
  |some o=>exact absurd (N8 (I.kIn _ o z)) (Nat.not_lt.mpr hq)
 generalize hp:s.heap.objs.size+1=p
 have np:Nw X.K H p:=⟨I.hok.fresh (by omega),nk p (by omega)⟩
 generalize hd:s.heap.objs.size=dx at hp
 have nd:Nw X.K H dx:=⟨I.hok.fresh (by omega),nk dx (by omega)⟩
 have ne:dx≠p:=by omega
 have sm0:Same H (upd (upd H dx (.own p)) p (.ins (bO X.K c) dx [])):=λb o e=>by
  rw[aG (λz=>by rw[z,np.1]at e;cases e),aG (λz=>by rw[z,nd.1]at e;cases e)];exact e
 have hm:∀a,(λa=>a=p\/a=dx:Ow) a->Nw X.K H a:=λa z=>z.elim (λy=>y▸np) λy=>y▸nd
 have subO:∀a,OO O (one 0 λa=>a=p\/a=dx) a->O a\/Nw X.K H a:=λa z=>(one_oo.mp z).imp_right (hm a)
 have hlen:=rs.length
 have Ea:Ev X.K O (one 0 λa=>a=p\/a=dx) (upd (upd H dx (.own p)) p (.ins (bO X.K c) dx [])) (.ow (.ob c [] [])::ts.map Sl.va) ((V.ref p::vs).map ZA):=by
  refine⟨⟨by simp[hlen],λi t e=>?_,λi o' e=>?_,λi a z=>.inr ⟨i,z⟩,λi k a z1 z2=>?_,λa z=>?_⟩,λa z y=>?_⟩
  ·obtain⟨w,e1,e2⟩:=qP (v0:=V.ref p) rs e
   exact⟨w,by rw[Oj,e1];rfl,(e2.more subO).same sm0⟩
  ·have hi:=qQ e
   subst hi;cases e;refine⟨.ref p,rfl,p,dx,[],rfl,λb=>?_,⟨by simp,by simp,ne,by simp⟩,aJ,?_,rfl,by simp,rfl⟩
   ·rw[show one 0 (λa=>a=p\/a=dx) 0=_ from Mn.Nb];simp
   ·rw[aG ne];exact aJ
  ·unfold one Mn.set at z1 z2
   by_cases h1:i=0
   ·by_cases h2:k=0
    ·rw[h1,h2]
    ·rw[if_neg h2]at z2;exact z2.elim
   ·rw[if_neg h1]at z1;exact z1.elim
  ·rcases one_oo.mp z with y|y|y
   ·exact(mt a y).same sm0
   ·rw[y];exact .inr (.inr ⟨_,aJ,rfl⟩)
   ·rw[y];exact .inr (.inr ⟨_,by rw[aG ne];exact aJ,rfl⟩)
  ·obtain⟨o,e⟩:=(mt a y).some
   rw[(hm a (one_u.mp z)).1]at e;cases e
 have I2:=Inv.made (C:=bO X.K c) I;rw[hd,hp]at I2
 have r2:Vals (V.ref p::(vs++[])) (Oc p::(us++[])):=.cons rfl (r.append .nil)
 have hl:(Oc p::us++[]).length=ps.length:=by rw[Ou,NZ,<-r.length,<-hlen,hps,hn]
 refine RA (wV (f:=f) I.kIn M.makes M.init (beq_iff_eq.mp M.fn) ?_)
 rw[hd,hp]
 have hb2:=hb _ (Oc p::us) I2.kIn hl;rw[SS]at hb2
 have Ea':Ev X.K O (one 0 λa=>a=p\/a=dx) (upd (upd H dx (.own p)) p (.ins (bO X.K c) dx [])) (.ow (.ob c [] [])::ts.map Sl.va) ((V.ref p::(vs++[])).map ZA):=by rw[Ou];exact Ea
 refine Qn (F.x _ X.stack _ _ ⟨Oc p::us,[]⟩ (Oc p::(us++[])) _ O _ _ d (λr s'=>match r with|.error ev=>X.xe ev s'|_=>False) (hr.make (bO X.K c) us []) (I2.Nk.make (bO X.K c) us []) hb2 r2 Ea' (by simp[hn]) hg λev s' w=>?_) λr s' hq'=>?_
 ·obtain⟨ea,T,C,H',rfl,hmc,ho,hbare,hun,hok,sm2,hea,heo,fl,hT,hTo⟩:=w
  have I3:Inv X lm σ H' s':=I2.Ng ho hun hok hbare (λb z=>absurd z (by simp))
  exact h lm _ _ ⟨ea,ZA T,C,σ,H',rfl,hmc,I3,λb o q _=>sm2 b o (sm0 _ _ q),hea,λhex=>eI I2 hex heo,fl,(λt zt=>by cases zt;exact⟨hT,λhex=>eI I2 hex hTo⟩),λpp hpp=>⟨λzz=>(by have:=(I2.pin pp hpp).1;rw[zz,heo]at this;cases this),λzz=>(by cases zz;have:=(I2.pin pp hpp).1;rw[hTo]at this;cases this)⟩⟩
 ·cases r with
  |error e=>exact hq'
  |ok fl=>exact hq'.elim
def JL{fs:V3}(M:Mk X.K (bO X.K c) f)(F:Fg X.prog X.w X.K X.mg X.base k f fd ps n 0 g)(hr:Room (k+1) X.A)(hm:X.mg c=ZA (.ref (bO X.K c)))(hb:Binds X.K fd ps [])(hps:ps.length=n)
  (hl:∀Z ts,fs Z=.ok ts->ts.length+1=n) (ha:pk X (e::es) fs) (hg:Gl X c:=by rfl) (hdb:autoParam ((c == ("__debug__" : Str))=ZD) s_) (he:N5 (e::es) X.env=(ZD,eval e X.env)::N5 es X.env:=by rfl) (hpl:(backTo pos (N5 es X.env)).any (·.1)=ZD:=by rfl):
  MZ X (.Return (ZA (.Call (.Name c p) (e::es) [] pos)) spos) (lx c g fs):=by
 let te:TE:=λσ H Q=>∃Z B M',Ev X.K B M' H Z σ/\Ax X B M'.u H (lx c g fs Z) {nx:=λ_ _=>False,rt:=Q}
 have pe:PE X (.Call (.Name c p) (e::es) [] pos) te:=by
  intro lm s σ H Q I ⟨Z,B,M',E,h⟩;unfold lx at h;refine ON (fR I hg hm ?_ hdb)
  refine PV (h₀:=X.base) I.ok.mod.kin M.kp (bW (ha pos lm s σ H (λvs H2=>∃ts,fs Z=.ok ts/\Same H H2/\Reps X.K (OO B M') H2 ts vs) I ⟨Z,OO B M',E.o,?_⟩) λus s1 ⟨vs,H1,I1,r,ts,q1,sm,rs⟩=>⟨I1.kIn,?_⟩) he hpl
  ·cases z:fs Z with
   |bad=>rw[z]at h;exact h.elim
   |err c=>rw[z]at h;exact h
   |ok ts=>exact λH' s' vs rs=>⟨ts,rfl,s',rs⟩
  ·rw[q1,ay]at h
   cases z:g (.ow (.ob c [] [])::ts.map Sl.va)with
   |bad=>rw[z]at h;exact h.elim
   |err d=>rw[z]at h;exact AO M F hr hb (hl Z ts q1) hps I1 r rs (E.same sm).env.trk z (XA.later h (SameO.of sm) λ_ z=>z.elim)
   |ok q=>
    rw[z,ay]at h;obtain⟨t,o⟩:=q
    cases t with
    |non=>
     have h':∀v H' m,SameO M'.u H H'->ORep X.K (BM B m) m H' o v->(∀a,m a->M'.u a\/Nw X.K H a)->Q v H':=h;refine AQ M F hr hb (hl Z ts q1) hps I1 r rs (E.same sm).env.trk z λq H' m s' ro hm'=>h' _ H' m (SameO.of (sm.trans s')) ?_ λa w=>.inr (fO sm (hm' a w))
     exact ro.move (P:=lq) (λ_ z=>z.elim) (λa z=>.inl (z.imp_left .inl)) (λb u q _=>q) λ_ _ z=>z
    |_=>exact h.elim
 exact PS.imp (lH pe) λD σ H ⟨Z,B,M',E,h⟩=>⟨Z,B,M',E,by
  cases z:lx c g fs Z with
  |bad=>rw[z]at h;exact h
  |err c=>rw[z]at h;exact h
  |ok q=>rw[z]at h;cases q <;> exact h⟩
def LX{F:En->Rs (T ⊕ OT)}(h:MZ X st F):M0 X [st] F:=gZ h
def LW{F:En->Rs (T ⊕ OT)}{n:Str}{CE:ZE}{np:Pos}(hst:X.stack=X.env::X.outer)(hfe:X.env.frame=ZA X.env.locals)(hcl:∀x c,X.env.cells.lookup x≠ZA c)(hex:X.ex=[])
  (hN:X.N.Nodup) (hi:X.N[i]?=ZA n) (hloc:X.env.scope.names.lookup n=ZA .local) (hm:X.mg ce=ZA (.ref CE)) (OE:OX X.K CE bmE)
  (hb:∀pn xe,M0 {X with pn:=pn,xe:=xe} body F) (hs:mO X i (b0::suite) CE h) (hg:Gl X ce:=by rfl) (hd:autoParam ((ce == ("__debug__" : Str))=ZD) s_):
  MZ X (.Try body [.ExceptHandler (ZA (.Name ce np)) (ZA n) (b0::suite) hpos] [] [] pos) (wO F h):=by
 intro lm s σ H D I ⟨Z,B,M,E,hq⟩;refine Vf ?_
 unfold wO at hq
 cases q:F Z with
 |bad=>rw[q]at hq;exact hq.elim
 |ok fl=>
  rw[q]at hq;refine Pz (hb X.pn (λ_ _=>False) lm s σ H D (I.FB _) ⟨Z,B,M,E,by rw[q];cases fl <;> exact hq⟩) (λf s1 r=>?_) (λe s1 z=>z.elim)
  cases f with
  |next=>obtain⟨σ7,H7,I7,q7⟩:=r;exact QV ⟨σ7,H7,I7.FB _,q7⟩
  |ret u=>obtain⟨x7,σ7,H7,I7,r7,q7⟩:=r;exact⟨x7,σ7,H7,I7.FB _,r7,q7⟩
  |brk=>obtain⟨σ7,H7,I7,q7⟩:=r;exact⟨σ7,H7,I7.FB _,q7⟩
  |cont=>obtain⟨σ7,H7,I7,q7⟩:=r;exact⟨σ7,H7,I7.FB _,q7⟩
 |err c=>
  rw[q]at hq
  cases q2:h c with
  |bad=>simp only[q2]at hq;exact hq.elim
  |err c'=>simp only[q2]at hq;exact hq.elim
  |ok t=>
   simp only[q2]at hq
   have hq':∀v H',Same H H'->Rep X.K B H' t v->D.rt v H':=λv H' s' r=>hq v H' (SameO.of s') r
   refine Pz (hb (X.pn++lm) _ [] s σ H {nx:=λ_ _=>False,rt:=λ_ _=>False,bk:=λ_ _=>False,ct:=λ_ _=>False} ((Tr.Inv.Nv lm I).FB _) ⟨Z,B,M,E,?_⟩) (λfl s' z=>?_) λ_ _ z=>z
   rotate_left
   ·cases fl with
    |next=>obtain⟨_,_,_,z⟩:=z;exact z.elim
    |cont=>obtain⟨_,_,_,z⟩:=z;exact z.elim
    |brk=>obtain⟨_,_,_,z⟩:=z;exact z.elim
    |ret v=>obtain⟨_,_,_,_,_,z⟩:=z;exact z.elim
   rw[q];intro pins1 ev s1 w;obtain⟨e,T,C,σ1,H1,rfl,hmc,I1,smn,he,heo,fl,hT,hpp⟩:=w
   have sm:Same H H1:=λb o z=>smn b o z λy=>y
   have I1:Inv X lm σ1 H1 s1:=Tr.Inv.Nu (X:=X) I1
   have hpp:∀p∈X.pn++lm,p.1≠e/\T≠ZA p.1:=λp hp=>hpp p (Oy _ hp)
   have heo:=heo hex
   have hT:∀t,T=ZA t->H1 t=ZB/\X.s₀.heap.get? t=ZB:=λt z=>⟨(hT t z).1,(hT t z).2 hex⟩
   show ZJ _ _ _ _ _ _
   have hfr:X.A.frames=ZA (X.env::X.outer):=by rw[<-hst];exact I1.ok.frames
   have hstk:s1.heap.FunFrames X.base (X.env::X.outer):=by rw[<-hst];exact I1.stack
   refine HI hfr hstk hfe fl λh' T' g=>?_
   have I2:=Inv.gone I1 hst hfe hcl hex g he heo hT hpp
   have Tn:H1 T'=ZB/\X.s₀.heap.get? T'=ZB/\∀p∈X.pn++lm,p.1≠T':=by
    rcases g.new with z|z
    ·exact⟨(hT T' z).1,(hT T' z).2,λp hp y=>(hpp p hp).2 (by rw[z,y])⟩
    ·exact⟨jN I1 z,eI I1 hex z,λp hp y=>by have:=(I1.pin p hp).1;rw[y,z]at this;cases this⟩
   obtain⟨bm,OC,hin,run⟩:=hs c C t hmc q2;obtain⟨hTe,oe,ev,hoe,hoc,hod,h1,oT,ts,hoT,hdT,h3⟩:=g.flt
   have nfr:∀b o vs,h'.get? b=ZA o->o.data=.fields vs->b∉(X.env::X.outer).filterMap (·.frame):=λb o vs hb hd z=>by
    have:=I2.stack;rw[hst]at this;obtain⟨_,o',ho',hnf⟩:=this.mem z;rw[show h'.get? b=ZA o' from ho']at hb
    cases hb;exact hnf vs hd
   have hel:e≠X.env.locals:=λz=>nfr e oe ev hoe hod (by rw[Ph,hfe];exact z▸NU)
   have hef:e∉X.fs:=λz=>nfr e oe ev hoe hod (by rw[Ph,hfe];exact NR _ z)
   have hcell:∀v,oe.data≠ .cell v:=λv z=>by rw[hod]at z;cases z
   have I3:Inv (u9 X e oe) lm σ1 H1 {s1 with heap:=h'}:=o7 I2 hoe he hel hef hcell
   refine T8 (Tx (fR (X:=u9 X e oe) I3 hg hm ?_ hd)) (by intro z;cases z)
   obtain⟨nm,qq,N,bs,hdct,sn,sub,ab,col,dd,k0,k1,k2,k3,k5,mN,hC,_⟩:=OC.at_ h' I3.kIn;obtain⟨nm',qq',N',bs',hdct',sn',sub',ab',col',dd',k0',k1',k2',k3',k5',mN',hD,_,_,TD⟩:=OE.at_ h' I3.kIn;refine sM hC hD hoe hoc (TD.tail.hasType (by decide)) hin (Sm ?_)
   refine TL hoe hod h1 hoT hdT (Pe.mp h3).1 ?_
   generalize hU:h'.update T' (RW (·.setIfInBounds 3 OI))=h2
   have kp:∀b,b≠T'->h2.get? b=h'.get? b:=λb hb=>by rw[<-hU];exact QL _ _ (P4 hb)
   have hT2:h2.get? T'=ZA (RW (·.setIfInBounds 3 OI) oT):=by rw[<-hU];exact RI _ hoT (RJ (Qj hdT _))
   have hoe2:h2.get? e=ZA oe:=(kp e (P4 hTe)).trans hoe
   have g2:EZ ((X.env::X.outer).filterMap (·.frame)) C e (ZA T') h' h2 T':=⟨⟨hTe,oe,ev,hoe2,hoc,hod,h1,_,_,hT2,Qj hdT _,by simp[(Pe.mp h3).1]⟩,.inl rfl,λb o _ _ n3 q=>(kp b λz=>n3 (by rw[z])).trans q,λb o m q=>⟨o.slots,(kp b λz=>nfr T' oT ts hoT hdT (z▸m)).trans q⟩⟩
   have I4:Inv X lm σ1 H1 {s1 with heap:=h2}:=Inv.gone (s:={s1 with heap:=h'}) I2 hst hfe hcl hex g2 he heo (λt z=>by cases z;exact⟨Tn.1,Tn.2.1⟩) λp hp=>⟨(hpp p hp).1,λz=>Tn.2.2 p hp (OH z).symm⟩
   have I5:Inv (u9 X e oe) lm σ1 H1 {s1 with heap:=h2}:=o7 I4 hoe2 he hel hef hcell
   refine lZ (X:=u9 X e oe) (v:=.ref e) I5 hN hi (.inl hloc) rfl (λs3 I6=>?_) (.inr hloc)
   have hil:i<σ1.length:=by
    rw[I1.len];exact(N1.mp hi).1
   refine Pz (run e oe ev hoc hod lm s3 _ H1 B (λv H'=>Same H1 H'/\Rep X.K B H' t v) I6 he (λz=>?_) (by simp[hil]) (λp hp z=>?_) λv H' s' r=>⟨s',r⟩) (λf s4 r=>?_) λ_ _ z=>z.elim
   ·rw[hst]at z
    exact nfr e oe ev hoe hod z
   ·obtain⟨o,ho⟩:=(E.env.trk p (.inl z)).some
    have:=sm p o ho;rw[hp]at this;cases this
   ·cases f with
    |next=>obtain⟨_,_,_,z⟩:=r;exact z.elim
    |brk=>obtain⟨_,_,_,z⟩:=r;exact z.elim
    |cont=>obtain⟨_,_,_,z⟩:=r;exact z.elim
    |ret u=>
     obtain⟨v,σ',H',I7,rv,s',rt⟩:=r;obtain⟨m,hn,_⟩:=I7.loc;refine wpAny_nameGoes (show X.env.kindOf n=ZA .local from hloc) hn (by rw[I.ok.kind];rfl) λh8 m8 hn8 hs8=>?_
     exact⟨v,_,H',Inv.forget (Ad I.ok I7) hcl hn8 hs8,rv,hq' v H' (λb o y=>s' b o (sm b o y)) rt⟩
end
def spS(K:NQ)(n:Nat)(g:List T->Rs (T ⊕ OT)):Sp:=λvs H Q _=>∃ts O,Reps K O H ts vs/\(∀a,O a->Mtb H a)/\ts.length=n ∧
 match g ts with
 |.ok (.inl t)=>∀v H',Same H H'->Rep K O H' t v->Q v H'
 |.ok (.inr o)=>∀v H' m,Same H H'->ORep K (BM O m) m H' o v->(∀a,m a->Nw K H a)->Q v H'
 |_=>False
def FnXS(P:Oh)(w:O8)(K:NQ)(mg:V0)(base:ZH)(k:Nat)(f:ZE)(fd:OG)(ps:List Str)(n:Nat)(g:List T->Rs (T ⊕ OT)):Prop:=
 ∀(A:OB)(outer:List Env)(s:NV)(H:Hp)(args:Args)(us:List NS)(vs:List V)(O:Ow)(ts:List T)(c:Str)(R:TR->NV->Prop),Room k A->Env0 P w K mg base A outer s H->Sj s fd args (ps.zip us)->Vals vs us →
  Reps K O H ts vs->(∀a,O a->Mtb H a)->ts.length=n->g ts=.err c->(∀ev s',MV P w mg outer H s c ev s'->R (.error ev) s')->ZL (ZK P w) A (.call (.ref f) args) R s
structure FnS (P:Oh)(w:O8)(K:NQ)(mg:V0)(base:ZH)(k:Nat)(f:ZE)(fd:OG)(ps:List Str)(n:Nat)(g:List T->Rs (T ⊕ OT)):Prop where
 h:FnOk P w K mg base CX0 k f fd ps (spS K n g)
 x:FnXS P w K mg base k f fd ps n g
variable{N:List Str}{g:List T->Rs (T ⊕ OT)}{mg:V0}{x:Str}
section
variable {base:ZH}
def FnS.plain(F:FnS P w K mg base k f fd ps n g):E5 P w K mg base k f fd ps n (jM g):=by
 refine⟨F.h.imp λvs H Q E ⟨ts,O,h1,h2,h3,h4⟩=>⟨ts,O,h1,h2,h3,?_⟩,λA outer s H args us vs O ts c R hr e0 hb r rs mt hl hg hR=>F.x A outer s H args us vs O ts c R hr e0 hb r rs mt hl ?_ hR⟩
 ·unfold jM at h4
  cases z:g ts with
  |bad=>rw[z]at h4;exact h4
  |err c=>rw[z]at h4;exact h4
  |ok q=>rw[z]at h4;cases q <;> first|exact h4|exact h4.elim
 ·unfold jM at hg
  cases z:g ts with
  |bad=>rw[z]at hg;cases hg
  |err c'=>rw[z]at hg;cases hg;rfl
  |ok q=>rw[z]at hg;cases q <;> cases hg
def Ke{qual:Str}{F:En->Rs (T ⊕ OT)}(Fn:L2.Fun K x qual st f fd)(S:az N ps (ai st))(hn:ps.length=n)
  (hbody:∀(cdv:NS)(A:OB)(outer:List Env)(s:NV)(H:Hp)(E:XK),Room k (A.deeper (envOfC qual (ai st) s.heap.objs.size f cdv)) →
   ∀xe,M0 ((gh CX0 P w K mg base N qual (ai st) f cdv A outer s H E).FB xe) (bA st) F):FnS P w K mg base (k+1) f fd ps n (xV n N.length F):=by
 have hpl:ps.length<=N.length:=by have:=congrArg Pb S.pre;rw[OU]at this;omega
 have no:∀a,¬noM.u a:=λa ⟨_,z⟩=>z
 refine⟨Fn.ok S (λvs H Q E h=>?_) (λcdv A outer s H vs Q E hr h=>?_),λA outer s H args us vs O ts c R hr e0 hb r rs mt hl hg hR=>?_⟩
 ·obtain⟨ts,O,r,_,hl,_⟩:=h
  rw[<-r.length,hl,hn]
 ·obtain⟨ts,O,r,trk,hl,h⟩:=h
  refine⟨_,hbody cdv A outer s H E hr _,aR N.length ts,O,noM,kE r (by omega) trk,?_⟩
  unfold xV at h;rw[if_pos hl]at h
  cases q:F (aR N.length ts)with
  |bad=>rw[q]at h;exact h.elim
  |err c=>rw[q]at h;exact h.elim
  |ok z=>
   rw[q]at h
   cases z with
   |inl t=>exact λv H' s' r'=>h v H' (λb o e=>s' b o e (no b)) r'
   |inr o=>exact λv H' m s' ro hm=>h v H' m (λb o e=>s' b o e (no b)) ro λa z=>(hm a z).elim (λw=>(no a w).elim) id
 ·refine Ah Fn S hr e0 hb r (by rw[<-rs.length,hl,hn]) hR λcdv hr' xe=>⟨_,hbody cdv A outer s H E0 hr' xe,λxa=>⟨aR N.length ts,O,noM,kE rs (by omega) mt,?_⟩⟩
  unfold xV at hg;rw[if_pos hl]at hg;rw[hg];exact xa
end
variable{p3:Pos}
section
variable {fs:V3}{n0:Str}
def CH(i:Nat)(F:FnS X.prog X.w X.K X.mg X.base k f fd ps n g)(hr:Room k X.A)(hm:X.mg x=ZA (.ref f))(hk:PP X.K (.ref f)=ZC)(hb:Binds X.K fd ps [])(hps:ps.length=n)(hl:∀Z ts,fs Z=.ok ts->ts.length=n)(hN:X.N.Nodup)(ha:pk X (e::es) fs)
  (hi:X.N[i]?=ZA n0:=by rfl) (hx:autoParam (Loc X.env.scope n0) x_) (hs:OQ (.Call (.Name x p) (e::es) [] pos) (ZA (.Name n0 p3)) spos.line X.env=pure ZD:=by rfl) (hf:autoParam (X.fn n0=ZC\/X.env.scope.names.lookup n0=ZA .local) r_)
  (hg:Gl X x:=by rfl) (hdb:autoParam ((x == ("__debug__" : Str))=ZD) s_) (he:N5 (e::es) X.env=(ZD,eval e X.env)::N5 es X.env:=by rfl) (hpl:(backTo pos (N5 es X.env)).any (·.1)=ZD:=by rfl):
  pj X (.Assign [.Name n0 p3] (.Call (.Name x p) (e::es) [] pos) spos) (pQ i g fs):=by
 let te:TE:=λσ H Q=>∃Z B M,Ev X.K B M H Z σ/\Ax X (OO B M) lq H (fs Z >>= g) {nx:=λ_ _=>False,rt:=Q}
 have pe:PE X (.Call (.Name x p) (e::es) [] pos) te:=by
  intro lm s σ H Q I ⟨Z,B,M,E,h⟩;refine ON (fR I hg hm ?_ hdb)
  refine PV (h₀:=X.base) I.ok.mod.kin hk (bW (ha pos lm s σ H (λvs H2=>∃ts,fs Z=.ok ts/\Same H H2/\Reps X.K (OO B M) H2 ts vs) I ⟨Z,OO B M,E.o,?_⟩) λus s1 ⟨vs,H1,I1,r,ts,q1,sm,rs⟩=>⟨I1.kIn,?_⟩) he hpl
  ·cases z:fs Z with
   |bad=>rw[z]at h;exact h.elim
   |err c=>rw[z]at h;exact h
   |ok ts=>exact λH' s' vs rs=>⟨ts,rfl,s',rs⟩
  ·rw[q1,ay]at h
   have mt:=(E.same sm).env.trk
   cases z:g ts with
   |bad=>rw[z]at h;exact h.elim
   |err c=>
    rw[z]at h
    have hlen:us.length=ps.length:=by rw[<-r.length,<-rs.length,hl Z ts q1,hps]
    have hb':=hb s1 us I1.kIn (by rw[Ou];exact hlen)
    rw[Ou]at hb';refine RA (Qn (F.x X.A X.stack s1 H1 ⟨us,[]⟩ us vs (OO B M) ts c (λr s'=>match r with|.error ev=>X.xe ev s'|_=>False) hr I1.Nk hb' r rs mt (hl Z ts q1) z λev s' w=>?_) λr s' hq=>?_)
    ·obtain⟨ea,T,C,H',rfl,hmc,ho,hbare,hun,hok,sm2,hea,heo,fl,hT,hTo⟩:=w
     have I2:Inv X lm σ H' s':=I1.Ng ho hun hok hbare (λb z=>absurd z (by simp))
     exact h lm _ _ ⟨ea,ZA T,C,σ,H',rfl,hmc,I2,λb o q _=>sm2 b o (sm b o q),hea,λhex=>eI I1 hex heo,fl,(λt zt=>by cases zt;exact⟨hT,λhex=>eI I1 hex hTo⟩),λpp hpp=>⟨λzz=>(by have:=(I1.pin pp hpp).1;rw[zz,heo]at this;cases this),λzz=>(by cases zz;have:=(I1.pin pp hpp).1;rw[hTo]at this;cases this)⟩⟩
    ·cases r with
     |error ev=>exact hq
     |ok fl=>exact hq.elim
   |ok q=>
    rw[z]at h;refine t9 (E:=E0) (dvs:=[]) (ds:=[]) F.h hr hb .nil wc I1 r ⟨ts,OO B M,by simpa using rs,mt,hl Z ts q1,?_⟩
    rw[z]
    cases q with
    |inl t=>exact λv H' s' r'=>h v H' (SameO.of (sm.trans s')) r'
    |inr o=>exact λv H' m s' ro hm'=>h v H' m (SameO.of (sm.trans s')) ro λa w=>.inr (fO sm (hm' a w))
 refine PS.imp (mZ hN hi hx pe hs hf) λD σ H ⟨Z,B,M,E,h⟩=>⟨Z,B,M,E,?_⟩
 unfold pQ at h
 cases z:fs Z with
 |bad=>rw[z]at h;exact h
 |err c=>rw[z]at h;exact PostF.xa h
 |ok ts=>
  rw[z,ay]at h
  show Ax X (OO B M) lq H (g ts) _
  cases z2:g ts with
  |bad=>rw[z2]at h;exact h
  |err c=>rw[z2]at h;exact PostF.xa h
  |ok q=>
   rw[z2,ay]at h
   by_cases hl:i<Z.length
   ·rw[if_pos hl]at h
    cases q with
    |inl t=>
     intro v H' s' r
     have s':Same H H':=λb o e=>s' b o e λz=>z
     exact h _ H' M (SameO.of s') ⟨(E.env.same s').set hl r,E.mine⟩ λa z=>.inl z
    |inr o=>
     intro v H' m s' ro hm'
     have s':Same H H':=λb o e=>s' b o e λz=>z
     obtain⟨E2,sub⟩:=E.new (m:=m) (o:=o) (v:=v) hl (λa w=>(hm' a w).elim (λy=>y.elim) id) s' (ro.move (P:=lq) (λ_ z=>z.elim) (λa z=>.inl (z.elim (λw=>.inl (.inl w)) λw=>(Mn.KF w).elim .inr λy=>.inl (.inr y))) (λb u q _=>q) λ_ _ z=>z)
     exact h _ _ _ (SameO.of s') E2 sub
   ·rw[if_neg hl]at h;exact h.elim
end
variable{f:V6}
section
variable {c:ZG}
def L5{A cb:List ZF}{F G:En->Rs Fx}(hc:tE X c f)(ha:BB X j A F)(hr:BB X j cb G):BB X j (.If c A [] pos::cb) (qB f F G):=PSs.imp (jL (v5 hc ha oV) hr) λD σ H hh_=>by
 obtain⟨Z,B,M,E,h⟩:=hh_;refine⟨Z,OO B M,E.o,?_⟩
 unfold qB at h
 cases q:f Z with
 |bad=>rw[q]at h;exact h.elim
 |err c=>rw[q]at h;exact h
 |ok k=>
  rw[q,ay]at h;intro H' s
  have E':Ev X.K B M H' Z σ:=E.same s
  cases k with
  |true=>
   refine L2.iteT ⟨Z,B,M,E',?_⟩
   replace h:PostM X B M.u j σ H (MR (F Z)) D:=by simpa using h
   have h:=PostM.same h s
   cases z:F Z with
   |bad=>rw[z]at h;exact h
   |err c=>rw[z]at h;exact h
   |ok fl=>
    rw[z]at h
    cases fl with
    |nx Z'=>exact h.elim
    |rt t Z'=>exact h
  |false=>
   refine L2.iteF ?_
   exact⟨Z,B,M,E',PostM.same (by simpa using h) s⟩
def BV{A cb:List ZF}{F G:En->Rs Fx}(hc:QT X c f)(ha:BJ X j A F)(hr:BJ X j cb G):BJ X j (.If c A [] pos::cb) (qB f F G):=⟨L5 hc.h ha.h hr.h⟩
end
structure QN (X:Cx)(e:ZF)(f:En->Rs (T ⊕ OT)):Prop where
 h:MZ X e f
structure QNs (X:Cx)(e:List ZF)(f:En->Rs (T ⊕ OT)):Prop where
 h:M0 X e f
structure Cs_ (P:Oh)(w:O8)(K:NQ)(mg:V0)(base:ZH)(k:Nat)(x:Str)(n:Nat)(g:List T->Rs (T ⊕ OT)):Prop where
 ex:∃f fd ps,mg x=ZA (.ref f)/\PP K (.ref f)=ZC/\Binds K fd ps []/\ps.length=n/\FnS P w K mg base k f fd ps n g
def Cs_.cl{base:ZH}(c:Cs_ P w K mg base k x n g):Cl P w K mg base k x n (jM g):=by
 obtain⟨f,fd,ps,h1,h2,h3,h4,h5⟩:=c.ex;exact⟨f,fd,ps,h1,h2,h3,h4,h5.plain⟩
def ME{base:ZH}{F:En->Rs (T ⊕ OT)}(H:gW K mg x st ps)(S:az N ps (ai st))(hn:ps.length=n)
  (hbody:∀(f:ZE)(cdv:NS)(A:OB)(outer:List Env)(s:NV)(H:Hp)(E:XK),Room k (A.deeper (envOfC x (ai st) s.heap.objs.size f cdv)) →
   ∀xe,QNs ((gh CX0 P w K mg base N x (ai st) f cdv A outer s H E).FB xe) (bA st) F):Cs_ P w K mg base (k+1) x n (xV n N.length F):=by
 obtain⟨f,fd,h⟩:=H;exact⟨f,fd,ps,h.mg,h.fn.kp,h.bd,hn,Ke h.fn S hn λcdv A outer s H E hr xe=>(hbody f cdv A outer s H E hr xe).h⟩
section
variable {fs:V3}{n m:Str}{l:Nat}{ge:List Sl->Rs (T×OT)}
def BS{s:ZF}{F:En->Rs (T ⊕ OT)}(h:QN X s F):QNs X [s] F:=⟨LX h.h⟩
def Fq(C:sg X.K X.mg m)(M:Mm X.prog X.w X.K X.mg X.base k m "__init__" (l+1) ge)(hr:Room k' X.A)(ha:QA X (e::es) fs)(hk:autoParam (k+1<=k') s_)(hl:∀(Z:En)(ts:List T),fs Z=.ok ts->ts.length=l:=by repeat first|exact xI|refine xH ?_)
  (hg:Gl X m:=by rfl) (hdb:autoParam ((m == ("__debug__" : Str))=ZD) s_) (hns:bB (e::es)=ZC:=by rfl):QN X (.Return (ZA (.Call (.Name m p) (e::es) [] pos)) spos) (lx m ge fs):=by
 obtain⟨f,fd,ps,h1,h2,h3,h4⟩:=M.ex
 have hn2:bp e=ZC/\bB es=ZC:=Pf.mp hns;exact⟨JL ⟨C.mks,h1.at_,h1.fn,C.kp⟩ h4 (hr.mono hk) C.mg h2 h3 (JQ hl) ha.h hg hdb (a9 hn2.1) (e9 hn2.2)⟩
def Ii{F:En->Rs (T ⊕ OT)}{CE:ZE}(i:Nat){np:Pos}(hN:X.N.Nodup)(hm:X.mg ce=ZA (.ref CE))(OE:OX X.K CE bmE)
  (hb:∀pn xe,QNs {X with pn:=pn,xe:=xe} body F) (hs:mO X i (b0::suite) CE h) (hst:X.stack=X.env::X.outer:=by rfl) (hfe:X.env.frame=ZA X.env.locals:=by rfl) (hcl:∀x c,X.env.cells.lookup x≠ZA c) (hex:X.ex=[]:=by rfl)
  (hi:X.N[i]?=ZA n:=by rfl) (hloc:X.env.scope.names.lookup n=ZA .local:=by rfl) (hg:Gl X ce:=by rfl) (hd:autoParam ((ce == ("__debug__" : Str))=ZD) s_):
  QN X (.Try body [.ExceptHandler (ZA (.Name ce np)) (ZA n) (b0::suite) hpos] [] [] pos) (wO F h):=⟨LW hst hfe hcl hex hN hi hloc hm OE (λpn xe=>(hb pn xe).h) hs hg hd⟩
def AE(i:Nat)(hN:X.N.Nodup)(c:Cs_ X.prog X.w X.K X.mg X.base k x l g)(hr:Room k' X.A)(ha:QA X (e::es) fs)(hk:autoParam (k<=k') s_)(hl:∀(Z:En)(ts:List T),fs Z=.ok ts->ts.length=l:=by repeat first|exact xI|refine xH ?_)
  (hi:X.N[i]?=ZA n:=by rfl) (hx:autoParam (Loc X.env.scope n) x_) (hs:OQ (.Call (.Name x p) (e::es) [] pos) (ZA (.Name n p3)) spos.line X.env=pure ZD:=by rfl) (hf:autoParam (X.fn n=ZC\/X.env.scope.names.lookup n=ZA .local) r_)
  (hg:Gl X x:=by rfl) (hdb:autoParam ((x == ("__debug__" : Str))=ZD) s_) (hns:bB (e::es)=ZC:=by rfl):QS X (.Assign [.Name n p3] (.Call (.Name x p) (e::es) [] pos) spos) (pQ i g fs):=by
 obtain⟨f,fd,ps,h1,h2,h3,h4,h5⟩:=c.ex
 have hn2:bp e=ZC/\bB es=ZC:=Pf.mp hns;exact⟨CH i (FnS.mk (h5.h.mono hk) λA outer s H args us vs O ts c R hr=>h5.x A outer s H args us vs O ts c R (hr.mono hk)) hr h1 h2 h3 h4 hl hN ha.h hi hx hs hf hg hdb (a9 hn2.1) (e9 hn2.2)⟩
end
theorem PairsAt.snoc{b kb:ZE}{p:List Key×V}(h1:H b=ZA (.tup [.ref kb,p.2]))(h2:H kb=ZA (.tup (p.1.map kV))):∀{xs:List V}{ps:List (List Key×V)},PairsAt H xs ps->PairsAt H (xs++[.ref b]) (ps++[p])
 |[],_,h=>by
  unfold PairsAt at h;subst h
  exact⟨b,kb,p,[],rfl,rfl,h1,h2,rfl⟩
 |x::xs,_,⟨b',kb',p',r,e1,e2,e3,e4,e5⟩=>by
  subst e1;exact⟨b',kb',p',r++[p],rfl,e2,e3,e4,e5.snoc h1 h2⟩
theorem PairsAt.move{H':Hp}{D:ZE}{zs:List V}(hD:H D=ZA (.lst zs))(s:SameO (λa=>a=D) H H'):∀{xs:List V}{ps:List (List Key×V)},PairsAt H xs ps->PairsAt H' xs ps
 |[],_,h=>h
 |x::xs,_,⟨b,kb,p,r,e1,e2,e3,e4,e5⟩=>⟨b,kb,p,r,e1,e2,s _ _ e3 (jR e3 hD (λz=>nomatch z)),s _ _ e4 (jR e4 hD (λz=>nomatch z)),e5.move hD s⟩
theorem PairsAt.len:∀{xs:List V}{ps:List (List Key×V)},PairsAt H xs ps->xs.length=ps.length
 |[],_,h=>by unfold PairsAt at h;subst h;rfl
 |x::xs,_,⟨b,kb,p,r,e1,e2,e3,e4,e5⟩=>by subst e1;rw[NZ,NZ,e5.len]
variable{Z:En}{kk:List (List Key)}{l:List T}
def wZ{src:List (Option Nat)}{wi:TI}{te:TE}(E:EnvO X.K O H Z σ)(hwi:∀R,(∀H1,Same H H1->∀J,M6 X.K O H1 l J->R J H1)->wi σ H R)(hz:l.length<=1000)(hk:l.map keyOf=kk.map ZA)(hs:0<src.length)
  (Acc:Hp->ZE->List V->Prop) (a0:∀H1 D,Same H H1->Nw X.K H1 D->Acc (upd H1 D (.lst [])) D [])
  (am:∀H1 H2 D vs ys,Acc H1 D vs->H1 D=ZA (.lst ys)->SameO (λa=>a=D) H1 H2->Acc H2 D vs)
  (hte:∀t∈l,∀σ' H' O' D vs ys (Q':VK),EnvM X.K O' noM H' ((b6 src Z).set 0 (.va t)) σ'->Acc H' D vs->H' D=ZA (.lst ys)->(∀v H'',Same H' H''->Acc H'' D (vs++[v])->Q' v H'')->te σ' H' Q')
  (hq:∀H1 D ys ps H',Same H H1->Nw X.K H1 D->Same H1 H'->H' D=ZA (.lst ys)->PairsAt H' ys ps->ps.map (·.1)=kk->Acc H' D (ps.map (·.2))->Q (.ref D) H'):
  Iz X.K wi src (Cm X (gN 0)) vG (FC (gX (pB 0) (gX te vI))) σ H Q:=by
 refine hwi _ λH1 s1 J hJ D hD hK=>?_
 have nD:Nw X.K H1 D:=⟨hD,hK⟩
 have E1:=E.same s1
 have lk:l.length=kk.length:=by have:=congrArg Pb hk;rwa [NW,NW]at this
 have hlen:0<(b6 src Z).length:=by unfold b6;rw[NW];exact hs
 let O':Ow:=λa=>O a\/a=D
 have subO:∀a,O' a->O a\/Nw X.K H1 a:=λa z=>z.elim .inl λw=>.inr (w▸nD)
 refine⟨λi m σ' ys H'=>m=l.length - i/\i<=l.length/\ys.length=i/\H' D=ZA (.lst ys)/\SameO (λa=>a=D) (upd H1 D (.lst [])) H' ∧
  ∃s0 ps,EnvM X.K O' noM H' ((b6 src Z).set 0 s0) σ'/\PairsAt H' ys ps/\ps.map (·.1)=kk.take i/\Acc H' D (ps.map (·.2)),⟨l.length,?_⟩,?_⟩
 ·have sN:Same H1 (upd H1 D (.lst [])):=bh hD _
  refine⟨by omega,P9 _,rfl,aJ,λb o e _=>e,(b6 src Z)[0],[],?_,rfl,rfl,a0 H1 D s1 nD⟩
  rw[Ta]
  exact(w4 E1 src).move (P:=λa=>a=D) (λa z=>.inr (z▸nD)) subO (λb o e _=>sN b o e) λa z=>by
   rcases z with z|z
   ·exact(E1.mtb a z).same sN
   ·rw[z];exact .inl ⟨_,aJ⟩
 ·rintro i m σ' ys H' ⟨rfl,hi',hyl,hDl,hsm,s0,ps,E',hp,hkk,hacc⟩
  refine⟨hDl,?_⟩
  have sm1:SameO (λa=>a=D) H1 H':=λb o e nb=>hsm b o (by rw[aG nb];exact e) nb
  have it:=hJ (λa=>a=D) O' (λa z=>.inr (z▸nD)) subO i H' sm1 (λa z=>(E'.trk a z).some)
  by_cases hlt:i<l.length
  ·refine .inr ?_
   obtain⟨go,yl⟩:=it.2 l[i] (by simp)
   refine⟨go,by rw[hyl,QY];omega,λxx Hc y=>?_⟩
   obtain⟨sc,rx⟩:=yl xx Hc y
   have Ec:=E'.same sc
   have eg:gN 0 l[i] ((b6 src Z).set 0 s0)=.ok ((b6 src Z).set 0 (.va l[i])):=by unfold gN;rw[if_pos (by rw[Pl];exact hlen),U0]
   refine⟨(b6 src Z).set 0 s0,O',noM,l[i],Ec,rx,?_⟩
   rw[eg];intro σ1 Eg;unfold vG
   dsimp only
   rw[if_pos rfl];obtain⟨kv,ekv,rkv⟩:=Eg.val 0 l[i] (by rw[Oo hlen])
   refine⟨kv,ekv,?_⟩
   have aC:Acc Hc D (ps.map (·.2)):=am H' Hc D _ ys hacc hDl λb o e _=>sc b o e
   have DC:Hc D=ZA (.lst ys):=sc _ _ hDl;refine hte l[i] (PB hlt) σ1 Hc O' D _ ys _ Eg aC DC λv H4 s4 acc4=>⟨by show 2<=ZI;rw[QY];omega,λp hpn=>?_⟩
   have D4:H4 D=ZA (.lst ys):=s4 _ _ DC
   have pD:p≠D:=λz=>by rw[z,D4]at hpn;cases hpn
   have E4:=Eg.same s4
   have ki:kk[i]'(by omega)=kk[i]'(by omega):=rfl
   have hki:keyOf l[i]=ZA (kk[i]'(by omega)):=by
    have:=congrArg (λz=>z[i]?) hk
    simp only[Oj,N6 hlt,N6 (show i<kk.length by omega),Vu]at this
    exact OH this
   obtain⟨kb,rfl,hkb⟩:=iZ hki (rkv.same s4)
   have s46:SameO (λa=>a=D) H4 (upd (upd H4 p (.tup [.ref kb,v])) D (.lst (ys++[.ref p]))):=λb o e nb=>by
    rw[aG nb,aG (λz=>by rw[z,hpn]at e;cases e)];exact e
   refine⟨by rw[aG (P4 pD)];exact D4,l.length - (i+1),by omega,rfl,hlt,?_,aJ,λb o e nb=>s46 b o (s4 _ _ (sc _ _ (hsm b o e nb))) nb,.va l[i],ps++[(kk[i]'(by omega),v)],?_,?_,?_,?_⟩
   ·rw[N3,hyl];rfl
   ·exact E4.move (λa z=>.inl (.inr z)) (λa z=>.inl z) s46 λaa z=>by
     by_cases hz:aa=D
     ·rw[hz];exact .inl ⟨_,aJ⟩
     ·exact(E4.trk aa z).at λo e=>s46 _ _ e hz
   ·refine((hp.same (sc.trans s4)).move D4 s46).snoc (kb:=kb) (p:=(kk[i]'(by omega),v)) ?_ ?_
    ·rw[aG pD,aJ]
    ·exact s46 _ _ hkb (jR hkb D4 (λz=>nomatch z))
   ·rw[Pc,hkk]
    show kk.take i++[kk[i]'(by omega)]=kk.take (i+1)
    rw[List.take_append_getElem]
   ·rw[Pc]
    exact am H4 _ D _ ys acc4 D4 s46
  ·refine .inl ⟨it.1 (by omega),?_⟩
   have sF:Same H1 H':=λb o e=>sm1 b o e λz=>by rw[z,hD]at e;cases e
   exact hq H1 D ys ps H' s1 nD sF hDl hp (by rw[hkk,Rw (by omega)]) hacc
def tN(K:NQ)(t:TE):TE:=λσ H Q=>t σ H λv H'=>∃a xs ps,v=.ref a/\H' a=ZA (.lst xs)/\xs.length<=1000/\PairsAt H' xs ps/\∀q,Nw K H' q->Q (.ref q) (upd H' q (.dT (fE [] ps)))
def wa{t:TE}(hu:X.A.units+8<cLine)(hc:X.calm=ZC)(hm:X.mg "dict" =ZB)(ha:PE X e t)(hg:Gl X "dict")(hs:bp e=ZC):PE X (.Call (.Name "dict" p) [e] [] pos) (tN X.K t):=by
 have h1:N5 [e] X.env=(ZD,eval e X.env)::N5 [] X.env:=a9 hs;intro lm s σ H Q I hq;refine ON (gg I hg hm (show OL "dict" =ZA (.type "dict")by decide+kernel) ?_ (by decide) (by decide))
 refine Pa (bW (bz (te:=t) ha d6 h1 pos lm s σ H (λzs H'=>match zs with|[v] =>∃a xs ps,v=.ref a/\H' a=ZA (.lst xs)/\xs.length<=1000/\PairsAt H' xs ps/\∀q,Nw X.K H' q->Q (.ref q) (upd H' q (.dT (fE [] ps)))|_=>False) I ?_) λus s1 hh=>?_) h1 rfl
 ·exact hq
 ·obtain⟨vs,H1,I1,r1,hv⟩:=hh
  match vs,hv,r1 with
  |[v],hv,r1=>
  obtain⟨a,xs,ps,ev,e1,e2,e3,e4⟩:=hv;subst ev;obtain⟨u,rfl,ru⟩:=r1.one;obtain rfl:u=Oc a:=ru;exact xv (I1.ok.hd hc) hu I1 e1 e2 e3 λq s' nw I'=>⟨.ref q,_,I',rfl,e4 q nw⟩
theorem mY:∀(ps kvs:List (List Key×V)),((kvs++ps).map (·.1)).Nodup->fE kvs ps=kvs++ps
 |[],kvs,_=>by rw[fE,Ou]
 |p::ps,kvs,h=>by
  have e:dH kvs p.1 p.2=kvs++[p]:=by
   unfold dH;rw[if_neg];intro z;obtain⟨q,hq,e⟩:=RP.mp z
   have e:=of_decide_eq_true e;rw[Pc,OW]at h;exact h.2.2 q.1 (Ov.mpr ⟨q,hq,rfl⟩) p.1 (by simp) e
  rw[fE,e,mY ps (kvs++[p]) (by rw[Oz];exact h),Oz]
  rfl
def gO(kk:List (List Key)):List (List Key×V):=kk.map λk=>(k,V.non)
def IE:∀{ps:List (List Key×V)},ps.map (·.1)=kk->(∀v∈ps.map (·.2),v=V.non)->ps=gO kk:=by
 intro ps h1 h2;subst h1;unfold gO;rw[Qk]
 conv=>lhs;rw[<-Vr ps]
 exact O6 λp hp=>Prod.ext rfl (h2 p.2 (Ov.mpr ⟨p,hp,rfl⟩))
variable{N':List Str}
def tPI0(K:NQ)(f:V3):TI:=λσ H R=>∃Z O,EnvO K O H Z σ/\match f Z with
 |.ok ts=>∀H',Same H H'->∀J,M6 K O H' ts J->R J H'
 |_=>False
def tPI0.up{f:V3}{R:It->Hp->Prop}(h:tPI0 X.K f σ H R):MM X f σ H R:=by
 obtain⟨Z,O,E,h⟩:=h;refine⟨Z,O,E,?_⟩
 cases q:f Z with
 |ok t=>rw[q]at h;exact h
 |err c=>rw[q]at h;exact h.elim
 |bad=>rw[q]at h;exact h.elim
def x6(X:Cx)(src:List (Option Nat)):TE:=tN X.K (Iz X.K (tPI0 X.K (iS (vr 1))) src (Cm X (gN 0)) vG (FC (gX (pB 0) (gX (tC .non) vI))))
def Jn{eb tb ib:ZG}{q1 pc lp:Pos}{jj:Nat}{src:List (Option Nat)}{x1}(hu:X.A.units+8<cLine)(hc:X.calm=ZC)(hm:X.mg "dict" =ZB)(hg:Gl X "dict")(S:LcScope X sc N' src)(hi:BD X tb ib (iS (vr 1)))
  (blk:∀cl C s₀ H₀ fp,Ff (cm X sc cl N' C s₀ H₀ fp) tb (gN 0)/\PE (cm X sc cl N' C s₀ H₀ fp) eb (pB 0)/\bp eb=ZC) (hs:∀x,OZ ib X.env x=pure x):
  PE X (.Call (.Name "dict" p) [.ListComp (.Tuple [eb,.Constant .none jj pc] x1 q1) [⟨tb,ib,[],0⟩] sc lp] [] pos) (x6 X src):=
 PE.imp (wa hu hc hm (v8 hc S hi (λcl C s₀ H₀ fp=>⟨(blk cl C s₀ H₀ fp).1,uh,ui (bz (blk cl C s₀ H₀ fp).2.1 (bz CZ d6 (a9 rfl)) (a9 (blk cl C s₀ H₀ fp).2.2))⟩) hs) hg rfl) λσ H Q h=>tPI0.up h
def Cz{src:List (Option Nat)}(E:EnvO X.K O H Z σ)(hf:iS (vr 1) Z=.ok l)(hz:l.length<=1000)(hk:l.map keyOf=kk.map ZA)(hn:kk.Nodup)(hs:0<src.length)
  (hq:∀d H',Same H H'->Nw X.K H d->H' d=ZA (.dT (gO kk))->Q (.ref d) H'):x6 X src σ H Q:=by
 have lk:l.length=kk.length:=by have:=congrArg Pb hk;rwa [NW,NW]at this
 unfold x6 tN;refine wZ (X:=X) (te:=tC .non) E (λR h=>⟨Z,O,E,by rw[hf];exact h⟩) hz hk hs (λ_ _ vs=>∀v∈vs,v=V.non) (λ_ _ _ _ v h=>nomatch h) (λ_ _ _ _ _ h _ _=>h) (λt ht σ' H' O' D vs ys Q' _ acc _ k=>k _ H' (Same.refl H') λv hv=>?_) λH1 D ys ps H' s1 nD s2 hD hp h1 h2=>?_
 ·rcases Oq.mp hv with z|z
  ·exact acc v z
  ·exact Oa.mp z
 ·have e:ps=gO kk:=IE h1 h2
  refine⟨D,ys,ps,rfl,hD,by rw[hp.len,e];unfold gO;rw[NW];omega,hp,λq nq=>?_⟩
  have e2:fE [] ps=gO kk:=by rw[mY ps [] (by rw[PU,h1];exact hn),PU,e]
  rw[e2];exact hq q _ ((s1.trans s2).trans (bh nq.1 _)) (fO (s1.trans s2) nq) aJ
theorem vZ:∀(l:List T)(kk:List (List Key)),l.length=kk.length->Reps K O H (l.map λ_=>T.non) ((gO kk).map (·.2))
 |[],[],_=>Reps.GE
 |_::l,_::kk,h=>Reps.FS Rep.Nq (vZ l kk (by simpa using h))
 |[],_::_,h=>by simp at h
 |_::_,[],h=>by simp at h
theorem vW(hk:l.map keyOf=kk.map ZA):∀{m:List T}{ds:List ZE},m.length=ds.length->(∀d∈ds,H d=ZA (.dT (gO kk)))->RowsR K O H (m.map λ_=>(l,l.map λ_=>T.non)) ds
 |[],[],_,_=>rfl
 |_::m,d::ds,h,hd=>⟨d,ds,gO kk,rfl,hd d NU,by unfold gO;rw[Qk];exact hk,vZ l kk (by have:=congrArg Pb hk;rwa [NW,NW]at this),vW hk (by simpa using h) λe he=>hd e (NR _ he)⟩
 |[],_::_,h,_=>by simp at h
 |_::_,[],h,_=>by simp at h
theorem zX:∀{l:List T},n6 l=ZC->∃kk:List (List Key),l.map keyOf=kk.map ZA
 |[],_=>⟨[],rfl⟩
 |t::l,h=>by
  unfold n6 at h;rw[NX]at h;obtain⟨kk,e⟩:=zX h.2;obtain⟨k,ek⟩:=Ri.mp h.1;exact⟨k::kk,by rw[NT,NT,ek,e]⟩
def CG(i j:Nat){ea r ta ia:ZG}{q1 lp p2:Pos}{x1}{src:List (Option Nat)}(hu:X.A.units+8<cLine)(hc:X.calm=ZC)(hm:X.mg "dict" =ZB)(hN:X.N.Nodup)
  (S:LcScope X sc N' [ZB,ZA j]) (hi:BD X ta ia (iS (vr j))) (hsr:0<src.length)
  (blk:∀cl C s₀ H₀ fp,Ff (cm X sc cl N' C s₀ H₀ fp) ta (gN 0)/\PE (cm X sc cl N' C s₀ H₀ fp) ea (pB 0)/\PE (cm X sc cl N' C s₀ H₀ fp) r (x6 X src)) (h1:bp ea=ZC:=by rfl) (h2:bp r=ZC:=by rfl)
  (hs:autoParam (∀x,OZ ia X.env x=pure x) t_) (hg:Gl X "dict":=by rfl) (hix:X.N[i]?=ZA x:=by rfl) (hx:autoParam (Loc X.env.scope x) x_)
  (hsw:OQ (.Call (.Name "dict" p) [.ListComp (.Tuple [ea,r] x1 q1) [⟨ta,ia,[],0⟩] sc lp] [] p2) (ZA (.Name x p3)) pos.line X.env=pure ZD:=by rfl)
  (hf:autoParam (X.fn x=ZC\/X.env.scope.names.lookup x=ZA .local) r_):
  pj X (.Assign [.Name x p3] (.Call (.Name "dict" p) [.ListComp (.Tuple [ea,r] x1 q1) [⟨ta,ia,[],0⟩] sc lp] [] p2) pos) (pO i j):=
 PS.imp (mZ hN hix hx (wa hu hc hm (v8 (g:=Cm X (gN 0)) (tc:=vG) (te:=FC (gX (pB 0) (gX (x6 X src) vI))) hc S hi (λcl C s₀ H₀ fp=>⟨(blk cl C s₀ H₀ fp).1,uh,ui (bz (blk cl C s₀ H₀ fp).2.1 (bz (blk cl C s₀ H₀ fp).2.2 d6 (a9 h2)) (a9 h1))⟩) hs) hg rfl) hsw hf) λD σ H hh_=>by
  obtain⟨Z,B,M,E,h⟩:=hh_;unfold pO at h
  cases qj:Z[j]? with
  |none=>rw[qj]at h;exact h.elim
  |some z=>
   rw[qj]at h
   match z,h,qj with
   |.va (.lst l),h,qj=>
    dsimp only at h
    by_cases hh:i<Z.length/\n6 l=ZC/\(l.map keyOf).Nodup/\l.length<=1000
    ·rw[if_pos hh]at h
     obtain⟨hl,hky,hnd,hz⟩:=hh;obtain⟨kk,hk⟩:=zX hky
     have lk:l.length=kk.length:=by have:=congrArg Pb hk;rwa [NW,NW]at this
     have hn:kk.Nodup:=by
      rw[hk]at hnd;exact(UJ.mp hnd).imp λh z=>h (by rw[z])
     have fj:iS (vr j) Z=.ok l:=by unfold iS vr;rw[qj];rfl
     have hlc:b6 [ZB,ZA j] Z=[.em,.va (.lst l)]:=by unfold b6;simp[qj]
     unfold Cn tN
     refine wZ (X:=X) (te:=x6 X src) E.o (λR h=>⟨Z,OO B M,E.o,by rw[fj];exact h⟩) hz hk (by simp)
      (λH' D vs=>H D=ZB/\Same H H'/\∃ds:List ZE,vs=ds.map V.ref/\ds.Nodup/\∀d∈ds,Nw X.K H d/\H' d=ZA (.dT (gO kk)))
      (λH1 D s1 nD=>⟨(fO s1 nD).1,s1.trans (bh nD.1 _),[],rfl,Qt,λd h=>nomatch h⟩)
      (λH1 H2 D vs ys ⟨c1,c2,ds,c3,c4,c5⟩ hD s=>⟨c1,(λb o e=>s b o (c2 b o e) (λz=>by rw[z,c1]at e;cases e)),ds,c3,c4,λd hd=>⟨(c5 d hd).1,s _ _ (c5 d hd).2 (jR (c5 d hd).2 hD (λz=>nomatch z))⟩⟩)
      (λt ht σ' H' O' D vs ys Q' E' ⟨c1,c2,ds,c3,c4,c5⟩ hD k=>Cz (l:=l) (kk:=kk) ⟨noM,E'⟩ (by rw[hlc];rfl) hz hk hn hsr λd H'' s' nd hd=>?_) λH1 D ys ps H' s1 nD s2 hD hp e1 ⟨c1,c2,ds,c3,c4,c5⟩=>?_
     ·refine k _ H'' s' ⟨c1,c2.trans s',ds++[d],by rw[c3,Pc];rfl,?_,λe he=>?_⟩
      ·refine OW.mpr ⟨c4,by simp,λu hu w hw=>?_⟩
       rw[Oa.mp hw];intro z
       have:=(c5 u hu).2;rw[z,nd.1]at this;cases this
      ·rcases Oq.mp he with z|z
       ·exact⟨(c5 e z).1,s' _ _ (c5 e z).2⟩
       ·rw[Oa.mp z]
        exact⟨fO c2 nd,hd⟩
     ·have hpl:ps.length=kk.length:=by rw[<-e1,NW]
      refine⟨D,ys,ps,rfl,hD,by rw[hp.len];omega,hp,λq nq=>?_⟩
      have e2:fE [] ps=ps:=by rw[mY ps [] (by rw[PU,e1];exact hn),PU]
      rw[e2]
      have qd:q∉ds:=λz=>by have:=(c5 q z).2;rw[nq.1]at this;cases this
      have dl:ds.length=ps.length:=by have:=congrArg Pb c3;rw[NW,NW]at this;exact this.symm
      have hm':∀b,b=q\/b∈ds->Nw X.K H b:=λb z=>z.elim (λw=>w▸fO c2 nq) λw=>(c5 b w).1
      have sF:Same H (upd H' q (.dT ps)):=c2.trans (bh nq.1 _);obtain⟨E2,sub⟩:=E.new (m:=λb=>b=q\/b∈ds) (o:=.dd l (l.map λ_=>(l,l.map λ_=>.non))) (v:=.ref q) (H':=upd H' q (.dT ps)) hl hm' sF ⟨q,ps,ds,rfl,λb=>Rn,qd,c4,aJ,by rw[hk,<-e1,Qk];rfl,c3,vW hk (by omega) λd hd=>by rw[aG (show d≠q from λz=>qd (z▸hd))];exact(c5 d hd).2⟩
      exact h _ _ _ (SameO.of sF) E2 sub
    ·rw[if_neg hh]at h;exact h.elim
   |.em,h,_=>exact h.elim
   |.ow _,h,_=>exact h.elim
   |.va .non,h,_=>exact h.elim
   |.va (.bl _),h,_=>exact h.elim
   |.va (.int _),h,_=>exact h.elim
   |.va (.str _),h,_=>exact h.elim
   |.va (.tup _),h,_=>exact h.elim
   |.va (.scr _),h,_=>exact h.elim
   |.va (.dct _ _),h,_=>exact h.elim
def AD(i j:Nat){ea r ta ia:ZG}{q1 lp p2:Pos}{x1}{src:List (Option Nat)}(hu:X.A.units+8<cLine)(hc:X.calm=ZC)(hm:X.mg "dict" =ZB)(hN:X.N.Nodup)
  (S:LcScope X sc N' [ZB,ZA j]) (hi:QI X ta ia (iS (vr j))) (hsr:0<src.length)
  (blk:∀cl C s₀ H₀ fp,QG (cm X sc cl N' C s₀ H₀ fp) ta (gN 0)/\PE (cm X sc cl N' C s₀ H₀ fp) ea (pB 0)/\PE (cm X sc cl N' C s₀ H₀ fp) r (x6 X src)) (h1:bp ea=ZC:=by rfl) (h2:bp r=ZC:=by rfl)
  (hs:autoParam (∀x,OZ ia X.env x=pure x) t_) (hg:Gl X "dict":=by rfl) (hix:X.N[i]?=ZA x:=by rfl) (hx:autoParam (Loc X.env.scope x) x_)
  (hsw:OQ (.Call (.Name "dict" p) [.ListComp (.Tuple [ea,r] x1 q1) [⟨ta,ia,[],0⟩] sc lp] [] p2) (ZA (.Name x p3)) pos.line X.env=pure ZD:=by rfl)
  (hf:autoParam (X.fn x=ZC\/X.env.scope.names.lookup x=ZA .local) r_):
  QS X (.Assign [.Name x p3] (.Call (.Name "dict" p) [.ListComp (.Tuple [ea,r] x1 q1) [⟨ta,ia,[],0⟩] sc lp] [] p2) pos) (pO i j):=
 ⟨CG i j hu hc hm hN S hi.h hsr (λcl C s₀ H₀ fp=>⟨(blk cl C s₀ H₀ fp).1.h,(blk cl C s₀ H₀ fp).2⟩) h1 h2 hs hg hix hx hsw hf⟩
def fZ{P:List Str}(h1:sc.kind=.function:=by rfl)(h2:sc.isCoroutine=ZD:=by rfl)(h3:sc.isGenerator=ZD:=by rfl)(h4:autoParam (N.Nodup) y_)(h5:N.take P.length=P:=by rfl)
  (h6:autoParam (∀x∈P,sc.names.lookup x=ZA .local\/sc.names.lookup x=ZA .cell) y_) (h7:autoParam (∀y∈sc.names,y.2≠ .free) y_):az N P sc:=⟨h1,h2,h3,h4,h5,h6,h7⟩
end Tr
namespace G
open PySem PySem.Spec PyProof.Rows L2 Tr
structure Bl (mg:V0):Prop where
 b_ValueError:mg "ValueError" =ZB
 b_all:mg "all" =ZB
 b_bool:mg "bool" =ZB
 b_dict:mg "dict" =ZB
 b_enumerate:mg "enumerate" =ZB
 b_int:mg "int" =ZB
 b_isinstance:mg "isinstance" =ZB
 b_len:mg "len" =ZB
 b_max:mg "max" =ZB
 b_min:mg "min" =ZB
 b_range:mg "range" =ZB
 b_reversed:mg "reversed" =ZB
 b_tuple:mg "tuple" =ZB
structure Cs (mg:V0):Prop where
 MOST_CLOCKS:∃t,mg "MOST_CLOCKS" =ZA (.int 4 t)
 MOST_LETTERS:∃t,mg "MOST_LETTERS" =ZA (.int 8 t)
 MOST_READINGS:∃t,mg "MOST_READINGS" =ZA (.int 4 t)
 LAST_READING:∃t,mg "LAST_READING" =ZA (.int 99 t)
 SLOWEST:∃t,mg "SLOWEST" =ZA (.int 9 t)
 LONGEST:∃t,mg "LONGEST" =ZA (.int 999 t)
structure b8 (K:NQ)(mg:V0):Prop where
 k:sg K mg "Sketch"
 a_past:NoAttr K (bO K "Sketch") "past"
 a_ahead:NoAttr K (bO K "Sketch") "ahead"
def mL:OL "bool" =ZA (.type "bool"):=by decide+kernel
def og:OL "int" =ZA (.type "int"):=by decide+kernel
def fT:OL "tuple" =ZA (.type "tuple"):=by decide+kernel
structure Xs (K:NQ)(mg:V0)(ac al bi bn:ZE):Prop where
 m_NoRecord:mg "NoRecord" =ZA (.ref ac)
 m_NoNumber:mg "NoNumber" =ZA (.ref al)
 m_Nothing:mg "Nothing" =ZA (.ref bi)
 m_ClockError:mg "ClockError" =ZA (.ref bn)
 o_NoRecord:OX K ac (.ref bn::rC)
 o_NoNumber:OX K al (.ref bn::rC)
 o_Nothing:OX K bi (.ref bn::rC)
 o_ClockError:OX K bn rC
 d:[ac,al,bi,bn].Nodup
abbrev bS:ZF:=top 58
def aaH:az ["_law_e","_law_flags"] ["_law_e"] (ai bS):=⟨rfl,rfl,rfl,by decide+kernel,rfl,by decide+kernel,by decide+kernel⟩
def dE(j:Nat):T:=.tup [.str "refused",.int (j:Nat)]
noncomputable def lS(c:Str):Rs T:=if c= "NoRecord" then .ok (dE 0)else if c= "NoNumber" then .ok (dE 1)else if c= "Nothing" then .ok (dE 2)else .bad
variable{C bn al ac bi f:ZE}{ev:Array NS}{mg:V0}{oe:Obj}
section
variable {base:ZH}
def Xs.ne{D:ZE}(h:C≠D):(Oc C::rC).contains (.ref D)=ZD:=by
 rw[Pd]
 have:(Oc D == Oc C)=ZD:=by rw[beq_eq_false_iff_ne];exact λz=>h (T9 z).symm
 rw[this];rfl
def CB{e:ZE}{outer:List Env}{H:Hp}{Q:VK}(S:Xs K mg ac al bi bn)(OC:OX K C (.ref bn::rC))
  (hc:oe.cls=.ref C) (hd:oe.data=.fields ev) (hi:mg "isinstance" =ZB) (hv:mg "ValueError" =ZB) (bv:bn≠ac) (ca:bn≠al) (ci:bn≠bi)
  {b0 b1 b2:Bool} (h0:decide (C=ac)=b0) (h1:decide (C=al)=b1) (h2:decide (C=bi)=b2)
  (cnt:[b0,b1,b2].countP id=1) (hj:[b0,b1,b2][j]?=ZA ZC) (hno:∀m,m<j->[b0,b1,b2][m]?=ZA ZD)
  (q:∀p H',Same H H'->H p=ZB->H' p=ZA (.tup [.str "refused",.int (j:Nat)])->Q (.ref p) H') (cdv:NS):
  ∃t,PSs (MT P w K mg base ["_law_e","_law_flags"] "_law_refused" (ai bS) f cdv A outer s H e oe) (bA bS) t/\t {nx:=λ_ _=>False,rt:=Q} (start ["_law_e","_law_flags"] [.ref e]) H:=by
 have nd:=aaH.nd
 have hp:(e,oe)∈(MT P w K mg base ["_law_e","_law_flags"] "_law_refused" (ai bS) f cdv A outer s H e oe).pn:=NU
 refine⟨_,jL (mZ (i:=1) nd rfl (Ua rfl) (C0 (bz (yk rfl (Ua rfl) hp hc hd OC S.o_NoRecord b0 h0 (λ_=>Xs.ne bv) hi S.m_NoRecord) (bz (yk rfl (Ua rfl) hp hc hd OC S.o_NoNumber b1 h1 (λ_=>Xs.ne ca) hi S.m_NoNumber) (bz (yk rfl (Ua rfl) hp hc hd OC S.o_Nothing b2 h2 (λ_=>Xs.ne ci) hi S.m_Nothing) d6)))))
  (jL (v5 (PW.pt (HH (Gg LM (wb Pn PySem.F.slot_list_count PySem.F.type_list_count A7 (pv 1) (bz C4 d6)) C1 (JG _)) (CL (CP (CO (Jq rfl (Ua rfl) hp hc OC hi hv)))))) (gZ CS) oV)
  (gZ (lH (ui (bz CW (bz (wb Pn SC SD A5 (pv 1) (bz C4 d6)) d6)))))),?_⟩
 refine⟨rfl,rfl,rfl,(by show 3<=ZI;decide),λl1 n1=>?_⟩
 refine⟨.ref l1,rfl,.inl ⟨rfl,_,SqL.of aJ⟩,⟨l1,[b0,b1,b2],rfl,rfl,aJ,?_⟩⟩
 have hz:(!decide (V.int (([b0,b1,b2].countP id:Nat):Int)=V.int 1))=ZD:=by rw[cnt];simp
 refine⟨rfl,ZD,congrArg V.bl hz,iteF ⟨rfl,ZC,rfl,iteF ?_⟩⟩
 have hj6:j<3:=by have:=(N1.mp hj).1;simpa using this
 refine⟨.ref l1,rfl,.inl ⟨rfl,_,SqL.of aJ⟩,⟨l1,[b0,b1,b2],j,rfl,rfl,aJ,hj,hno,by omega,(by show 2<=ZI;decide),λp np=>q p _ ?_ ?_ aJ⟩⟩
 rotate_left
 ·have m1:p≠l1:=λz=>by subst z;rw[aJ]at np;cases np
  rw[aG m1]at np;exact np
 intro b o hb
 have m1:b≠l1:=λz=>by subst z;rw[n1]at hb;cases hb
 have m4:b≠p:=λz=>by subst z;rw[aG m1,hb]at np;cases np
 rw[aG m4,aG m1];exact hb
end
variable{X:Cx}{p1:Pos}
def tRC(X:Cx)(i:Nat)(e:ZE)(j:Nat):TE:=λσ H Q=>σ[i]?=ZA (ZA (.ref e))/\H e=ZB/\e∉nF X.stack/\∀p H',Same H H'->H p=ZB->H' p=ZA (.tup [.str "refused",.int (j:Nat)])->Q (.ref p) H'
def lI{en:Str}{p pos:Pos}{e:ZE}(hN:X.N[i]?=ZA en)(hv:lX X.env.scope en)
  (Fn_:Fn X.K X.mg "_law_refused" bS ["_law_e"] f fd) (S:Xs X.K X.mg ac al bi bn) (OC:OX X.K C (.ref bn::rC))
  (hc:oe.cls=.ref C) (hd:oe.data=.fields ev) (hi:X.mg "isinstance" =ZB) (hvv:X.mg "ValueError" =ZB) (bv:bn≠ac) (ca:bn≠al) (ci:bn≠bi)
  {b0 b1 b2:Bool} (h0:decide (C=ac)=b0) (h1:decide (C=al)=b1) (h2:decide (C=bi)=b2)
  (cnt:[b0,b1,b2].countP id=1) (hj:[b0,b1,b2][j]?=ZA ZC) (hno:∀m,m<j->[b0,b1,b2][m]?=ZA ZD) (hr:X.A.depth+3<Q9)
  (hg:Gl (u9 X e oe) "_law_refused":=by rfl) (hde:autoParam ((en == ("__debug__" : Str))=ZD) s_) (hce:autoParam ((en == ("__classdict__" : Str))=ZD) s_)
  (he:N5 [.Name en p1] X.env=(ZD,eval (.Name en p1) X.env)::N5 [] X.env:=by rfl) (hpl:(backTo pos (N5 [] X.env)).any (·.1)=ZD:=by rfl):
  PE (u9 X e oe) (.Call (.Name "_law_refused" p) [.Name en p1] [] pos) (tRC X i e j):=by
 intro lm s σ H Q I ⟨hσ,hH,hf,q⟩;refine ON (fR (X:=u9 X e oe) I hg Fn_.mg ?_ (by decide))
 have hA:PA (u9 X e oe) [.Name en p1] (gX (pB i) vI):=bz (eG (X:=u9 X e oe) hN hv hde hce) d6 he;refine PV (h₀:=X.base) I.ok.mod.kin Fn_.fn.kp (bW (hA pos lm s σ H (λvs H'=>vs=[.ref e]/\H'=H) I ⟨.ref e,hσ,rfl,rfl⟩) λus s1 ⟨vs,H1,I1,r,e1,e2⟩=>⟨I1.kIn,?_⟩) he hpl
 subst e1;subst e2;obtain⟨u,rfl,ru⟩:=jA r;cases ru
 have hoe:s1.heap.get? e=ZA oe:=(I1.pin (e,oe) (Oy _ NU)).1
 have hb:=Fn_.bd s1 [.ref e] I1.kIn rfl;refine RA (Qn (Kf (Q:=Q) Fn_.fn aaH (vs:=[.ref e]) rfl hr I1.Nk hb r hoe hH hf (λv z=>by rw[hd]at z;cases z) λcdv=>CB S OC hc hd hi hvv bv ca ci h0 h1 h2 cnt hj hno q cdv) λr s' hq=>?_)
 cases r with
 |error ev=>exact hq.elim
 |ok fl=>
  cases fl with
  |ret u=>exact I1.after hq
  |next=>exact hq.elim
  |brk=>exact hq.elim
  |cont=>exact hq.elim
def ud{O:Ow}{H H':Hp}{p:ZE}(hO:∀p,H p=ZB->¬ O p)(hp:H p=ZB)(h:H' p=ZA (.tup [.str "refused",.int (j:Nat)])):Rep K O H' (dE j) (.ref p):=
 Rep.Fk.mpr ⟨p,_,rfl,hO p hp,h,Reps.FS (Rep.Nz _) (Reps.FS (Rep.Gc _) Reps.GE)⟩
def vJ{en:Str}{p pos rp:Pos}(hN:X.N[i]?=ZA en)(hv:lX X.env.scope en)
  (Fn_:Fn X.K X.mg "_law_refused" bS ["_law_e"] f fd) (S:Xs X.K X.mg ac al bi bn) (hi:X.mg "isinstance" =ZB) (hvv:X.mg "ValueError" =ZB) (hr:X.A.depth+3<Q9)
  (hg:autoParam (∀e oe,Gl (u9 X e oe) "_law_refused") w_) (hde:autoParam ((en == ("__debug__" : Str))=ZD) s_) (hce:autoParam ((en == ("__classdict__" : Str))=ZD) s_)
  (he:N5 [.Name en p1] X.env=(ZD,eval (.Name en p1) X.env)::N5 [] X.env:=by rfl) (hpl:(backTo pos (N5 [] X.env)).any (·.1)=ZD:=by rfl):
  mO X i [.Return (ZA (.Call (.Name "_law_refused" p) [.Name en p1] [] pos)) rp] bn lS:=by
 have dd:=S.d
 have ap:∀{a b:ZE}(i j:Nat),i<j->[ac,al,bi,bn][i]?=ZA a->[ac,al,bi,bn][j]?=ZA b->a≠b:=λ{a b} i j hij ha hb z=>by
  have:=(List.getElem?_inj (N1.mp ha).1 dd).mp (ha.trans (z▸hb.symm))
  omega
 have hin:∀C:ZE,(Oc C:: .ref bn::rC).contains (.ref bn)=ZC:=λC=>by rw[Pd,Pd,beq_self_eq_true,UY,UX]
 have bv:bn≠ac:=(P4 (ap 0 3 (by decide) rfl rfl))
 have ca:bn≠al:=(P4 (ap 1 3 (by decide) rfl rfl))
 have ci:bn≠bi:=(P4 (ap 2 3 (by decide) rfl rfl))
 intro c C t hm ht;unfold lS at ht
 by_cases z0:c= "NoRecord"
 ·rw[if_pos z0]at ht
  cases ht;rw[z0,S.m_NoRecord]at hm;cases hm;refine⟨_,S.o_NoRecord,hin _,λe oe ev hc hd lm s σ H O Q I hH hf hσ hO q=>?_⟩
  exact gZ (lH (lI hN hv Fn_ S S.o_NoRecord hc hd hi hvv bv ca ci (b0:=ZC) (b1:=ZD) (b2:=ZD) (by simp) (by rw[decide_eq_false (ap 0 1 (by decide) rfl rfl)]) (by rw[decide_eq_false (ap 0 2 (by decide) rfl rfl)]) (by decide) (j:=0) rfl (λm hm=>by omega) hr (hg e oe) hde hce he hpl)) lm s σ H _ I ⟨hσ,hH,hf,λp H' sm hp h=>q _ _ sm (ud hO hp h)⟩
 rw[if_neg z0]at ht
 by_cases z1:c= "NoNumber"
 ·rw[if_pos z1]at ht
  cases ht;rw[z1,S.m_NoNumber]at hm;cases hm;refine⟨_,S.o_NoNumber,hin _,λe oe ev hc hd lm s σ H O Q I hH hf hσ hO q=>?_⟩
  exact gZ (lH (lI hN hv Fn_ S S.o_NoNumber hc hd hi hvv bv ca ci (b0:=ZD) (b1:=ZC) (b2:=ZD) (by rw[decide_eq_false (P4 (ap 0 1 (by decide) rfl rfl))]) (by simp) (by rw[decide_eq_false (ap 1 2 (by decide) rfl rfl)]) (by decide) (j:=1) rfl (λm hm=>by match m,hm with|0,_=>rfl) hr (hg e oe) hde hce he hpl)) lm s σ H _ I ⟨hσ,hH,hf,λp H' sm hp h=>q _ _ sm (ud hO hp h)⟩
 rw[if_neg z1]at ht
 by_cases z2:c= "Nothing"
 ·rw[if_pos z2]at ht
  cases ht;rw[z2,S.m_Nothing]at hm;cases hm;refine⟨_,S.o_Nothing,hin _,λe oe ev hc hd lm s σ H O Q I hH hf hσ hO q=>?_⟩
  exact gZ (lH (lI hN hv Fn_ S S.o_Nothing hc hd hi hvv bv ca ci (b0:=ZD) (b1:=ZD) (b2:=ZC) (by rw[decide_eq_false (P4 (ap 0 2 (by decide) rfl rfl))]) (by rw[decide_eq_false (P4 (ap 1 2 (by decide) rfl rfl))]) (by simp) (by decide) (j:=2) rfl (λm hm=>by match m,hm with|0,_=>rfl|1,_=>rfl) hr (hg e oe) hde hce he hpl)) lm s σ H _ I ⟨hσ,hH,hf,λp H' sm hp h=>q _ _ sm (ud hO hp h)⟩
 rw[if_neg z2]at ht;cases ht
def kz:V4:=
 (aB (eX (tb (o2 ju (vr 0) (de aj))) (aN (o2 cf (cn (.int 7)) (vr 1))) sN) (aN (o2 aM (o2 aQ (vr 0) (o2 my (vr 1) (cl bX (ae (vr 0) aj)))) (o2 cf (cn (.int 6553)) (o2 mG (vr 1) (cl bX (ae (vr 0) aj)))))))
def fX:List T->Rs T:=val 2 2 kz
def jc:V4:=
 (aB (b7 (o2 my (o2 aM (o2 cf (o2 my (cl fX (ae (vr 0) (ae (vr 1) aj))) (cn (.int 2147483563))) (cn (.int 69069))) (o2 cf (cn (.int 104723)) (o2 aM (vr 1) (cn (.int 1))))) (cn (.int 2147483563))) (gN 3)) (aB (b7 (o2 my (o2 aM (o2 cf (vr 3) (vr 3)) (o2 mG (vr 3) (cn (.int 3)))) (cn (.int 2147483399))) (gN 3)) (aN (o2 my (o2 mG (o2 my (o2 aM (o2 cf (vr 3) (vr 3)) (o2 mG (vr 3) (cn (.int 7)))) (cn (.int 2147483647))) (cn (.int 11))) (vr 2)))))
def aE:List T->Rs T:=val 3 4 jc
abbrev evF:V4:=b7 (o2 aM (vr 1) (gC (iR (ae (cl bX (ae (o2 aQ (vr 3) (cn (.int 2))) aj)) aj)) [ZB,ZA 2] (gN 0) bT (aP (ae (vr 1) (ae (vr 0) aj))))) (gN 1)
def lD:V4:=
 (aB (b7 (de aj) (gN 1)) (aB (fA (iE (ae (vr 0) aj)) (gT 2 (gd (gN 2) (gd (gN 3) rB))) evF) (aN (vr 1))))
def cR:List T->Rs T:=val 1 4 lD
def eh:V4:=
 (aB (b7 (cl cR (ae (vr 2) aj)) (gN 3)) (aB (eX (tb (o2 nA (cl bX (ae (vr 3) aj)) (cn (.int 2)))) (aN (cn .non)) sN) (aB (b7 (cl aE (ae (vr 0) (ae (vr 1) (ae (cl bX (ae (vr 3) aj)) aj)))) (gN 4)) (aB (b7 (o2 my (o2 aM (o2 aM (vr 4) (cn (.int 1))) (cl aE (ae (vr 0) (ae (o2 aM (vr 1) (cn (.int 1))) (ae (o2 cv (cl bX (ae (vr 3) aj)) (cn (.int 1))) aj))))) (cl bX (ae (vr 3) aj))) (gN 5)) (aB (b7 (cl aE (ae (vr 0) (ae (o2 aM (vr 1) (cn (.int 2))) (ae (cn (.int 8)) aj)))) (gN 6)) (aB (b7 (qO (tb (o2 ju (cl aE (ae (vr 0) (ae (o2 aM (vr 1) (cn (.int 3))) (ae (cn (.int 3)) aj)))) (cn (.int 0)))) (cn .non) (o2 aM (vr 6) (cl aE (ae (vr 0) (ae (o2 aM (vr 1) (cn (.int 4))) (ae (cn (.int 9)) aj)))))) (gN 7)) (aN (aP (ae (o2 aQ (vr 3) (vr 4)) (ae (o2 aQ (vr 3) (vr 5)) (ae (vr 6) (ae (vr 7) aj))))))))))))
def bP:List T->Rs T:=val 3 8 eh
abbrev clF:V4:=b7 (o2 aM (vr 3) (aP (ae (o2 aM (o2 aM (o2 aQ (vr 3) (o1 nu (cn (.int 1)))) (cn (.int 1))) (cl aE (ae (vr 0) (ae (o2 aM (o2 aM (vr 1) (cn (.int 3))) (vr 4)) (ae (cn (.int 5)) aj))))) aj))) (gN 3)
def jd:V4:=
 (aB (b7 (o2 aM (cn (.int 1)) (cl aE (ae (vr 0) (ae (vr 1) (ae (cn (.int 3)) aj))))) (gN 2)) (aB (b7 (aP (ae (cl aE (ae (vr 0) (ae (o2 aM (vr 1) (cn (.int 2))) (ae (cn (.int 6)) aj)))) aj)) (gN 3)) (aB (fA (iR (ae (cl aE (ae (vr 0) (ae (o2 aM (vr 1) (cn (.int 1))) (ae (cn (.int 3)) aj)))) aj)) (gN 4) clF) (aN (aP (ae (vr 2) (ae (o2 aM (vr 2) (cl aE (ae (vr 0) (ae (o2 aM (vr 1) (cn (.int 6))) (ae (cn (.int 3)) aj))))) (ae (vr 3) aj))))))))
def cI:List T->Rs T:=val 2 5 jd
abbrev leF:V4:=aB (b7 (cl bP (ae (vr 0) (ae (o2 aM (o2 aM (vr 1) (cn (.int 31))) (o2 cf (cn (.int 6)) (vr 5))) (ae (vr 3) aj)))) (gN 6)) (b7 (o2 aM (vr 4) (o2 cf (de (ae (vr 6) aj)) (cl D1 (ae (o2 fW (vr 6) (cn .non)) aj)))) (gN 4))
def iw:V4:=
 (aB (b7 (cl lE (ae (gC (iR (ae (o2 aM (cn (.int 1)) (cl aE (ae (vr 0) (ae (vr 1) (ae (cn (.int 3)) aj))))) aj)) [ZB,ZA 0,ZA 1] (gN 0) bT (cl cI (ae (vr 1) (ae (o2 aM (o2 aM (vr 2) (cn (.int 1))) (o2 cf (cn (.int 8)) (vr 0))) aj)))) aj)) (gN 3)) (aB (b7 (de aj) (gN 4)) (aB (fA (iR (ae (cl aE (ae (vr 0) (ae (o2 aM (vr 1) (cn (.int 30))) (ae (o2 aM (vr 2) (cn (.int 1))) aj)))) aj)) (gN 5) leF) (aN (aP (ae (vr 3) (ae (cl lE (ae (vr 4) aj)) aj)))))))
def fP:List T->Rs T:=val 3 7 iw
def tF:V4:=
 (aN (dk (o1 (BI "tuple") (vr 0)) (ch zS zS (vr 1) (cl bX (ae (vr 0) aj)) (vr 2))))
def aV:List T->Rs T:=val 3 3 tF
def zj:V4:=
 (aN (dk (o1 (BI "int") (vr 0)) (o1 GA (o1 (BI "bool") (vr 0)))))
def iX:List T->Rs T:=val 1 1 zj
def kq:V4:=
 (aN (dk (cl iX (ae (vr 0) aj)) (ch zS zS (vr 1) (vr 0) (vr 2))))
def aY:List T->Rs T:=val 3 3 kq
def nN:V4:=
 (aN (dk (cl aY (ae (vr 0) (ae (cn (.int 1)) (ae (cn (.int 9)) aj)))) (cl aY (ae (vr 1) (ae (vr 0) (ae (cn (.int 9)) aj))))))
def gB:List T->Rs T:=val 2 2 nN
def AA:V4:=
 (aN (cl se (ae (gC (iR (ae (o2 cv (cl bX (ae (vr 0) aj)) (cn (.int 1))) aj)) [ZB,ZA 0] (gN 0) bT (o2 nA (o2 aQ (vr 1) (vr 0)) (o2 aQ (vr 1) (o2 aM (vr 0) (cn (.int 1)))))) aj)))
def kJ:List T->Rs T:=val 1 1 AA
def fy:V4:=
 (aB (eX (d8 (tb (cl aV (ae (vr 0) (ae (cn (.int 1)) (ae (cn (.int 4)) aj)))))) (aN (cn (.bl ZD))) sN) (aN (dk (cl se (ae (gC (iS (vr 0)) [ZB] (gN 0) bT (cl aY (ae (vr 0) (ae (cn (.int 0)) (ae (cn (.int 99)) aj))))) aj)) (cl kJ (ae (vr 0) aj)))))
def bZ:List T->Rs T:=val 1 1 fy
def i9:V4:=
 (aN (dk (cl aV (ae (vr 0) (ae (cn (.int 3)) (ae (cn (.int 3)) aj)))) (dk (cl gB (ae (o2 aQ (vr 0) (cn (.int 0))) (ae (o2 aQ (vr 0) (cn (.int 1))) aj))) (cl bZ (ae (o2 aQ (vr 0) (cn (.int 2))) aj)))))
def dJ:List T->Rs T:=val 1 1 i9
def ja:V4:=
 (aN (dk (cl aV (ae (vr 0) (ae (cn (.int 1)) (ae (cn (.int 4)) aj)))) (cl se (ae (gC (iS (vr 0)) [ZB] (gN 0) bT (cl dJ (ae (vr 0) aj))) aj))))
def dX:List T->Rs T:=val 1 1 ja
def i7:V4:=
 (aB (eX (m5 (d8 (tb (cl aV (ae (vr 1) (ae (cn (.int 2)) (ae (cn (.int 2)) aj)))))) (d8 (tb (cl aY (ae (o2 aQ (vr 1) (cn (.int 0))) (ae (cn (.int 0)) (ae (o2 cv (cl bX (ae (vr 0) aj)) (cn (.int 1))) aj))))))) (aN (cn (.bl ZD))) sN) (aN (cl aY (ae (o2 aQ (vr 1) (cn (.int 1))) (ae (cn (.int 0)) (ae (o2 cv (cl bX (ae (o2 aQ (o2 aQ (vr 0) (o2 aQ (vr 1) (cn (.int 0)))) (cn (.int 2))) aj)) (cn (.int 1))) aj))))))
def dI:List T->Rs T:=val 2 2 i7
def i8:V4:=
 (aN (dk (cl aY (ae (vr 0) (ae (cn (.int 0)) (ae (cn (.int 999)) aj)))) (Fb (o2 kc (vr 1) (cn .non)) (cl aY (ae (vr 1) (ae (vr 0) (ae (cn (.int 999)) aj)))))))
def eJ:List T->Rs T:=val 2 2 i8
def eV:V4:=
 (aB (eX (m5 (d8 (tb (cl aV (ae (vr 1) (ae (cn (.int 4)) (ae (cn (.int 4)) aj)))))) (d8 (tb (cl eJ (ae (o2 aQ (vr 1) (cn (.int 2))) (ae (o2 aQ (vr 1) (cn (.int 3))) aj)))))) (aN (cn (.bl ZD))) sN) (aN (dk (cl dI (ae (vr 0) (ae (o2 aQ (vr 1) (cn (.int 0))) aj))) (dk (cl dI (ae (vr 0) (ae (o2 aQ (vr 1) (cn (.int 1))) aj))) (o2 lu (o2 aQ (vr 1) (cn (.int 0))) (o2 aQ (vr 1) (cn (.int 1))))))))
def cq:List T->Rs T:=val 2 2 eV
def iu:V4:=
 (aN (dk (cl aV (ae (vr 1) (ae (cn (.int 0)) (ae (cn (.int 8)) aj)))) (cl se (ae (gC (iS (vr 1)) [ZB,ZA 0] (gN 0) bT (cl cq (ae (vr 1) (ae (vr 0) aj)))) aj))))
def dy:List T->Rs T:=val 2 2 iu
def hY:V4:=
 (aN (dk (cl aV (ae (vr 0) (ae (cn (.int 2)) (ae (cn (.int 2)) aj)))) (dk (cl dX (ae (o2 aQ (vr 0) (cn (.int 0))) aj)) (cl dy (ae (o2 aQ (vr 0) (cn (.int 0))) (ae (o2 aQ (vr 0) (cn (.int 1))) aj))))))
def bD:List T->Rs T:=val 1 1 hY
def cU:V4:=
 (eX (d8 (tb (cl bD (ae (vr 0) aj)))) (AN "NoRecord") sN)
def aS:List T->Rs T:=val 1 1 cU
def cN:En->Rs Fx:=
 (jU (Dq (xP (cl aS (ae (vr 1) aj)))) (jU (wX 0 "Sketch" "past" (ae (aP (ae (cn .non) (ae (vr 1) aj))) aj)) (wX 0 "Sketch" "ahead" aj)))
def cJ:List Sl->Rs (T×OT):=hZ 2 0 2 cN
def zk:En->Rs (T ⊕ OT):=
 (wO (lx "Sketch" cJ (ae (vr 0) aj)) lS)
def cQ:List T->Rs (T ⊕ OT):=xV 1 2 zk
def oQ:V4:=
 (aN (aP (ae (o2 cv (cl bX (ae (o1 (kY "Sketch" "past") (vr 0)) aj)) (cn (.int 1))) (ae (cl bX (ae (o1 (kY "Sketch" "ahead") (vr 0)) aj)) aj))))
def bU:List T->Rs T:=val 1 1 oQ
def oP:V4:=
 (aN (o2 aQ (o2 aQ (o1 (kY "Sketch" "past") (vr 0)) (o1 nu (cn (.int 1)))) (cn (.int 1))))
def aW:List T->Rs T:=val 1 1 oP
abbrev peF:V4:=pP 1 (gC (iR (ae (cl bX (ae (o2 aQ (vr 3) (cn (.int 2))) aj)) aj)) [ZB,ZA 2] (gN 0) bT (aP (ae (vr 1) (ae (vr 0) aj))))
def rn:V4:=
 (aB (yf (cl aS (ae (vr 0) aj))) (aB (jK 1 aj) (aB (fA (iE (ae (o2 aQ (vr 0) (cn (.int 0))) aj)) (gT 2 (gd (gN 2) (gd (gN 3) rB))) peF) (oq 1 (aN (vr 1))))))
def jS:List T->Rs T:=val 1 4 rn
def kr:V4:=
 (aB (b7 (oD jv (vr 0) (o2 aQ (vr 1) (cn (.int 1)))) (gN 3)) (aN (Fb (o2 kc (vr 3) (cn .non)) (o2 nA (o2 aM (o2 aQ (vr 2) (cn (.int 0))) (o2 aQ (vr 1) (cn (.int 2)))) (o2 aQ (vr 3) (cn (.int 0)))))))
def dM:List T->Rs T:=val 3 4 kr
abbrev E9:V4:=(aB (b7 (ln 2 (oD jv (vr 2) (o2 aQ (vr 5) (cn (.int 0))))) (gN 6)) (aB (eX (m5 (tb (o2 kc (vr 6) (cn .non))) (d8 (Fc 2 (tb (cl dM (ae (vr 2) (ae (vr 5) (ae (vr 6) aj)))))))) HE sN) (aB (b7 (o2 aM (o2 aQ (vr 6) (cn (.int 1))) (de (ae (vr 4) aj))) (gN 7)) (aB (b7 (gC (iS (vr 7)) [ZB,ZA 0] (gN 0) bT (o2 aQ (o2 aQ (vr 1) (vr 0)) (cn (.int 0)))) (gN 8)) (aB (eX (tb (o2 KP (o2 aQ (vr 5) (cn (.int 1))) (vr 8))) (aN (aP (ae (cn .non) (ae (sl (vr 7) (pS (oL hI (vr 8) (o2 aQ (vr 5) (cn (.int 1))))) pN) aj)))) sN) (aB (AM 2 (o2 aQ (vr 5) (cn (.int 1))) (aP (ae (o2 aM (o2 aQ (vr 6) (cn (.int 0))) (o2 aQ (vr 5) (cn (.int 2)))) (ae (vr 7) aj)))) (b7 (cn (.bl ZC)) (gN 3))))))))
def ko:V4:=
 (aB (sv 2 (gC (iS (vr 1)) [ZB] (gN 0) bT (aP (ae (vr 0) (ae (aP (ae (cn (.int 0)) (ae (de aj) aj))) aj))))) (aB (b7 (cn (.bl ZC)) (gN 3)) (aB (bY (tb (vr 3)) (aB (b7 (cn (.bl ZD)) (gN 3)) (fA (iE (ae (vr 0) aj)) (gT 2 (gd (gN 4) (gd (gN 5) rB))) E9)) FU) (oq 2 (aN (aP (ae (vr 2) (ae (cn .non) aj))))))))
def gP:List T->Rs T:=val 2 9 ko
def fL:V4:=
 (aB (b7 (cl jS (ae (vr 0) aj)) (gN 2)) (aB (b7 (o2 aQ (cl gP (ae (vr 1) (ae (vr 2) aj))) (cn (.int 0))) (gN 3)) (aB (eX (tb (o2 kc (vr 3) (cn .non))) (aN (cn .non)) sN) (aN (cl lE (ae (gC (iS (vr 2)) [ZB,ZA 3] (gN 0) bT (o2 aQ (o2 bJ (vr 1) (vr 0)) (cn (.int 0)))) aj))))))
def dW:List T->Rs T:=val 2 4 fL
abbrev bcF:V4:=(aB (b7 (aP (ae (vr 0) (ae (vr 4) aj))) (gN 5)) (aB (b7 (aP (ae (vr 0) (ae (o2 aM (vr 4) (cn (.int 1))) aj))) (gN 6)) (aB (b7 (o2 cv (o2 aQ (vr 2) (o2 aM (vr 4) (cn (.int 1)))) (o2 aQ (vr 2) (vr 4))) (gN 7)) (aB (jw 3 (aP (ae (vr 5) (ae (vr 6) (ae (o2 cf (vr 7) (o2 aQ (vr 1) (cn (.int 1)))) aj))))) (jw 3 (aP (ae (vr 6) (ae (vr 5) (ae (o2 cf (o1 nu (vr 7)) (o2 aQ (vr 1) (cn (.int 0)))) aj)))))))))
def fx:V4:=
 (aB (b7 (o2 aQ (vr 1) (cn (.int 2))) (gN 2)) (aB (jK 3 aj) (aB (fA (iR (ae (o2 cv (cl bX (ae (vr 2) aj)) (cn (.int 1))) aj)) (gN 4) bcF) (oq 3 (aN (vr 3))))))
def cG:List T->Rs T:=val 2 8 fx
def eQ:V4:=
 (aB (jK 1 (ae (aP (ae (o2 aQ (vr 0) (cn (.int 1))) (ae (o2 aQ (vr 0) (cn (.int 0))) (ae (o1 nu (o2 aQ (vr 0) (cn (.int 2)))) aj)))) aj)) (aB (eX (tb (o2 fW (o2 aQ (vr 0) (cn (.int 3))) (cn .non))) (jw 1 (aP (ae (o2 aQ (vr 0) (cn (.int 0))) (ae (o2 aQ (vr 0) (cn (.int 1))) (ae (o2 aQ (vr 0) (cn (.int 3))) aj))))) sN) (oq 1 (aN (vr 1)))))
def cA:List T->Rs T:=val 1 2 eQ
abbrev bdF:V4:=pP 1 (cl cG (ae (vr 2) (ae (vr 3) aj)))
def rq:V4:=
 (aB (yf (cl aS (ae (vr 0) aj))) (aB (jK 1 aj) (aB (fA (iE (ae (o2 aQ (vr 0) (cn (.int 0))) aj)) (gT 2 (gd (gN 2) (gd (gN 3) rB))) bdF) (aB (fA (iS (o2 aQ (vr 0) (cn (.int 1)))) (gN 4) (pP 1 (cl cA (ae (vr 4) aj)))) (oq 1 (aN (vr 1)))))))
def jT:List T->Rs T:=val 1 5 rq
def Hq:V4:=
 (aN (cl dW (ae (vr 0) (ae (cl jT (ae (vr 0) aj)) aj))))
def o4:List T->Rs T:=val 1 1 Hq
def xK:V4:=
 (aN (o2 fW (cl o4 (ae (vr 0) aj)) (cn .non)))
def bF:List T->Rs T:=val 1 1 xK
abbrev MS:V4:=eX (tb (cl bF (ae (o2 aQ (vr 1) (cn (.int 1))) aj))) (aN (o2 aQ (vr 1) (cn (.int 1)))) sN
def iy:V4:=
 (aB (fA (D6 (ae (o1 (kY "Sketch" "past") (vr 0)) aj)) (gN 1) MS) (aN (cn .non)))
def cS:List T->Rs T:=val 1 2 iy
abbrev X2:V4:=(eX (tb (o2 ju (vr 1) (cn (.int 0)))) (aB (b7 (aP (ae (vr 3) (ae (o2 aM (vr 4) (aP (ae (vr 5) aj))) aj))) (gN 8)) (aN (qO (tb (cl bD (ae (vr 8) aj))) (vr 8) (aP (ae (cn (.str "refused")) (ae (cn (.int 0)) aj)))))) sN)
abbrev X3:V4:=(eX (m5 (tb (o1 (BI "bool") (vr 6))) (d8 (tb (ch zS nA (cn (.int 0)) (vr 6) (cl bX (ae (o2 aQ (de (ae (vr 3) (ae (vr 4) aj))) (o2 cv (vr 1) (cn (.int 1)))) aj)))))) (aN (aP (ae (cn (.str "refused")) (ae (cn (.int 1)) aj)))) sN)
abbrev X4:V4:=(eX (tb (o2 ju (vr 1) (cn (.int 2)))) (aN (aP (ae (vr 3) (ae (o2 aM (sl (vr 4) pN (pS (vr 6))) (sl (vr 4) (pS (o2 aM (vr 6) (cn (.int 1)))) pN)) aj)))) sN)
abbrev X5:V4:=(b7 (o2 aQ (vr 3) (vr 6)) (gT 3 (gd (gN 9) (gd (gN 10) (gd (gN 11) rB)))))
abbrev X6:V4:=(b7 (aP (ae (o2 aM (o2 aM (sl (vr 3) pN (pS (vr 6))) (aP (ae (aP (ae (vr 9) (ae (vr 10) (ae (o2 aM (vr 11) (aP (ae (vr 7) aj))) aj)))) aj))) (sl (vr 3) (pS (o2 aM (vr 6) (cn (.int 1)))) pN)) (ae (vr 4) aj))) (gN 8))
abbrev X7:V4:=(aN (qO (tb (cl bD (ae (vr 8) aj))) (vr 8) (aP (ae (cn (.str "refused")) (ae (cn (.int 0)) aj)))))
def ku:V4:=
 (aB (b7 (vr 0) (gT 2 (gd (gN 3) (gd (gN 4) rB)))) (aB (b7 (vr 2) (gT 3 (gd (gN 5) (gd (gN 6) (gd (gN 7) rB))))) (aB X2 (aB X3 (aB X4 (aB X5 (aB X6 X7)))))))
def cH:List T->Rs T:=val 3 12 ku
def eC:En->Rs Fx:=
 (jU (JO (tb (o2 ju (ln 0 (cl bX (ae (o1 (kY "Sketch" "past") (vr 0)) aj))) (cn (.int 1)))) (GH "Nothing") mN) (jU (JP 1 (xS 0 "Sketch" "past")) (jU (Dq (vq 0 "Sketch" "ahead" (vr 1))) (ij (xP (o2 aQ (vr 1) (cn (.int 0))))))))
def bQ:List Sl->Rs (T×OT):=hZ 1 0 2 eC
def dU:En->Rs Fx:=
 (jU (JO (Fc 0 (tb (o2 ju (o1 (kY "Sketch" "ahead") (vr 0)) (de aj)))) (GH "Nothing") mN) (jU (JP 1 (xS 0 "Sketch" "ahead")) (jU (Dq (vq 0 "Sketch" "past" (vr 1))) (ij (xP (o2 aQ (vr 1) (cn (.int 0))))))))
def bR:List Sl->Rs (T×OT):=hZ 1 0 2 dU
def gU:En->Rs Fx:=
 (jU (Dq (vq 0 "Sketch" "past" (aP (ae (vr 1) (ae (vr 2) aj))))) (jU (wX 0 "Sketch" "ahead" aj) (ij (xP (cl bF (ae (vr 2) aj))))))
def bw:List Sl->Rs (T×OT):=hZ 3 0 3 gU
def gc:V4:=
 (aB (yf (cl aS (ae (vr 0) aj))) (aN (vr 0)))
def df:List T->Rs T:=val 1 1 gc
def ir:V4:=
 (aB (yf (cl aS (ae (vr 0) aj))) (aN (cl df (ae (aP (ae (o2 aQ (vr 0) (cn (.int 0))) (ae (o2 aM (o2 aQ (vr 0) (cn (.int 1))) (aP (ae (vr 1) aj))) aj))) aj))))
def dw:List T->Rs T:=val 2 2 ir
def rz:En->Rs Fx:=
 (ij (cX 0 "Sketch" "go_on" bw (ae (cn (.str "write")) (ae (cl dw (ae (ln 0 (r6 "Sketch" "record" aW (vr 0) aj)) (ae (vr 1) aj))) aj))))
def dO:List Sl->Rs (T×OT):=hZ 2 0 2 rz
def ef:V4:=
 (eX (d8 (tb (cl aY (ae (vr 1) (ae (cn (.int 0)) (ae (o2 cv (vr 0) (cn (.int 1))) aj)))))) (AN "NoNumber") sN)
def cP:List T->Rs T:=val 2 2 ef
def i6:V4:=
 (aB (b7 (o2 aQ (vr 0) (cn (.int 0))) (gN 3)) (aN (cl df (ae (aP (ae (o2 aM (o2 aM (sl (vr 3) pN (pS (vr 1))) (aP (ae (vr 2) aj))) (sl (vr 3) (pS (o2 aM (vr 1) (cn (.int 1)))) pN)) (ae (o2 aQ (vr 0) (cn (.int 1))) aj))) aj))))
def gv:List T->Rs T:=val 3 4 i6
def dS:V4:=
 (aB (yf (cl aS (ae (vr 0) aj))) (aB (yf (cl cP (ae (cl bX (ae (o2 aQ (vr 0) (cn (.int 0))) aj)) (ae (vr 1) aj)))) (aB (b7 (o2 aQ (o2 aQ (vr 0) (cn (.int 0))) (vr 1)) (gN 3)) (aN (cl gv (ae (vr 0) (ae (vr 1) (ae (aP (ae (o2 aQ (vr 3) (cn (.int 0))) (ae (o2 aQ (vr 3) (cn (.int 1))) (ae (o2 aM (o2 aQ (vr 3) (cn (.int 2))) (aP (ae (vr 2) aj))) aj)))) aj))))))))
def cz:List T->Rs T:=val 3 4 dS
def sf:En->Rs Fx:=
 (ij (cX 0 "Sketch" "go_on" bw (ae (cn (.str "read")) (ae (cl cz (ae (ln 0 (r6 "Sketch" "record" aW (vr 0) aj)) (ae (vr 1) (ae (vr 2) aj)))) aj))))
def d9:List Sl->Rs (T×OT):=hZ 3 0 3 sf
def da:V4:=
 (aB (yf (cl aS (ae (vr 0) aj))) (aB (b7 (o2 aQ (vr 0) (cn (.int 1))) (gN 2)) (aB (yf (cl cP (ae (cl bX (ae (vr 2) aj)) (ae (vr 1) aj)))) (aN (aP (ae (o2 aQ (vr 0) (cn (.int 0))) (ae (o2 aM (sl (vr 2) pN (pS (vr 1))) (sl (vr 2) (pS (o2 aM (vr 1) (cn (.int 1)))) pN)) aj)))))))
def cw:List T->Rs T:=val 2 3 da
def vk:En->Rs Fx:=
 (ij (cX 0 "Sketch" "go_on" bw (ae (cn (.str "cut")) (ae (cl cw (ae (ln 0 (r6 "Sketch" "record" aW (vr 0) aj)) (ae (vr 1) aj))) aj))))
def gx:List Sl->Rs (T×OT):=hZ 2 0 2 vk
abbrev tdB:En->Rs Fx:=(qB (tb (o2 nA (vr 1) (cn (.int 3)))) (qB (tb (o2 ju (vr 1) (cn (.int 0)))) (ij (cX 0 "Sketch" "write" dO (ae (o2 aQ (vr 2) (cn (.int 0))) aj))) (ij (BZ (tb (o2 ju (vr 1) (cn (.int 1)))) (cX 0 "Sketch" "read" d9 (ae (o2 aQ (vr 2) (cn (.int 1))) (ae (o2 aQ (vr 2) (cn (.int 2))) aj))) (cX 0 "Sketch" "cut" gx (ae (o2 aQ (vr 2) (cn (.int 1))) aj))))) (ij (BZ (tb (o2 ju (vr 1) (cn (.int 3)))) (cX 0 "Sketch" "back" bQ aj) (cX 0 "Sketch" "forth" bR aj))))
def xM:En->Rs Fx:=
 (wW tdB lS)
def bH:List Sl->Rs (T×OT):=hZ 3 0 4 xM
abbrev KY:V4:=(eX (xG (tb (o2 fW (ln 2 (o2 bJ (o2 bJ (vr 2) (vr 3)) (vr 6))) (cn .non))) (tb (o2 fW (ln 2 (o2 bJ (o2 bJ (vr 2) (vr 6)) (vr 4))) (cn .non)))) (aB (b7 (o2 aM (ln 2 (o2 bJ (o2 bJ (vr 2) (vr 3)) (vr 6))) (ln 2 (o2 bJ (o2 bJ (vr 2) (vr 6)) (vr 4)))) (gN 7)) (eX (m5 (tb (o2 kc (ln 2 (o2 bJ (o2 bJ (vr 2) (vr 3)) (vr 4))) (cn .non))) (tb (o2 nA (vr 7) (ln 2 (o2 bJ (o2 bJ (vr 2) (vr 3)) (vr 4)))))) (jl 2 (vr 3) (vr 4) (vr 7)) sN)) sN)
def jb:V4:=
 (aB (pO 2 0) (aB (fA (iS (vr 0)) (gN 3) (jl 2 (vr 3) (vr 3) (cn (.int 0)))) (aB (fA (iS (vr 1)) (gT 3 (gd (gN 3) (gd (gN 4) (gd (gN 5) rB)))) (eX (m5 (tb (o2 kc (ln 2 (o2 bJ (o2 bJ (vr 2) (vr 3)) (vr 4))) (cn .non))) (tb (o2 nA (vr 5) (ln 2 (o2 bJ (o2 bJ (vr 2) (vr 3)) (vr 4)))))) (jl 2 (vr 3) (vr 4) (vr 5)) sN)) (aB (fA (iS (vr 0)) (gN 6) (fA (iS (vr 0)) (gN 3) (fA (iS (vr 0)) (gN 4) KY))) (oq 2 (aN (qO (tb (o2 ju (gC (iS (vr 0)) [ZB,ZA 2] (gN 0) (tb (o2 nA (o2 bJ (o2 bJ (vr 1) (vr 0)) (vr 0)) (cn (.int 0)))) (vr 0)) (de aj))) (vr 2) (cn .non))))))))
def gw:List T->Rs T:=val 2 8 jb
abbrev lkF:V4:=(aB (b7 (o2 cv (o2 aQ (vr 5) (vr 6)) (o2 aQ (vr 5) (o2 cv (vr 6) (cn (.int 1))))) (gN 7)) (aB (jw 1 (aP (ae (aP (ae (vr 2) (ae (o2 cv (vr 6) (cn (.int 1))) aj))) (ae (aP (ae (vr 2) (ae (vr 6) aj))) (ae (o2 cf (vr 4) (vr 7)) aj))))) (jw 1 (aP (ae (aP (ae (vr 2) (ae (vr 6) aj))) (ae (aP (ae (vr 2) (ae (o2 cv (vr 6) (cn (.int 1))) aj))) (ae (o2 cv (cn (.int 0)) (o2 cf (vr 3) (vr 7))) aj)))))))
abbrev llF:V4:=(aB (jw 1 (aP (ae (vr 9) (ae (vr 8) (ae (o2 cv (cn (.int 0)) (vr 10)) aj))))) (eX (tb (o2 fW (vr 11) (cn .non))) (jw 1 (aP (ae (vr 8) (ae (vr 9) (ae (vr 11) aj))))) sN))
def ix:V4:=
 (aB (jK 1 aj) (aB (fA (iE (ae (o2 aQ (vr 0) (cn (.int 0))) aj)) (gT 2 (gd (gN 2) (gd (gT 3 (gd (gN 3) (gd (gN 4) (gd (gN 5) rB)))) rB))) (fA (iR (ae (cn (.int 1)) (ae (cl bX (ae (vr 5) aj)) aj))) (gN 6) lkF)) (aB (fA (iS (o2 aQ (vr 0) (cn (.int 1)))) (gT 4 (gd (gN 8) (gd (gN 9) (gd (gN 10) (gd (gN 11) rB))))) llF) (oq 1 (aN (vr 1))))))
def fQ:List T->Rs T:=val 1 12 ix
def zl:V4:=
 (aN (o2 fW (cl gw (ae (cl cR (ae (o2 aQ (vr 0) (cn (.int 0))) aj)) (ae (cl fQ (ae (vr 0) aj)) aj))) (cn .non)))
def dN:List T->Rs T:=val 1 1 zl
def kx:V4:=
 (aB (b7 (gC (iS (vr 0)) [ZB] (gN 0) (tb (cl dN (ae (vr 0) aj))) (vr 0)) (gN 1)) (aN (qO (tb (o2 lu (vr 1) (de aj))) (o2 aQ (vr 1) (o1 nu (cn (.int 1)))) (cn .non))))
def eU:List T->Rs T:=val 1 2 kx
abbrev B0:V4:=(b7 (o2 aM (cn (.int 80)) (o2 cf (cn (.int 12)) (vr 5))) (gN 6))
abbrev B1:V4:=(b7 (o2 aQ (o2 aQ (vr 3) (vr 4)) (cn (.int 1))) (gN 7))
abbrev B2:V4:=(b7 (o2 aQ (de (ae (cn (.int 0)) (ae (cn (.int 0)) (ae (cn (.int 0)) (ae (cn (.int 0)) (ae (cn (.int 1)) (ae (cn (.int 2)) (ae (cn (.int 3)) (ae (cn (.int 4)) aj))))))))) (cl aE (ae (vr 0) (ae (vr 6) (ae (cn (.int 8)) aj))))) (gN 8))
abbrev B3:V4:=(b7 (cl bP (ae (vr 0) (ae (o2 aM (vr 6) (cn (.int 4))) (ae (o2 aQ (vr 7) (cn (.int 0))) aj)))) (gN 9))
abbrev B4:V4:=(b7 (o2 aQ (o2 aQ (o2 aQ (vr 7) (cn (.int 0))) (cn (.int 0))) (cn (.int 2))) (gN 10))
abbrev B5:V4:=(b7 (aP (ae (vr 9) (ae (o2 cv (cl aE (ae (vr 0) (ae (o2 aM (vr 6) (cn (.int 1))) (ae (cn (.int 4)) aj)))) (cn (.int 1))) (ae (o2 cv (o2 aM (o2 aQ (vr 10) (o1 nu (cn (.int 1)))) (cl aE (ae (vr 0) (ae (o2 aM (vr 6) (cn (.int 2))) (ae (cn (.int 9)) aj))))) (cn (.int 1))) aj)))) (gN 11))
abbrev B6:V4:=(eX (tb (o2 Ms (vr 8) (cn (.int 2)))) (aB (b7 (qO (tb (o2 ju (vr 8) (cn (.int 3)))) (o2 cv (vr 4) (cn (.int 1))) (o2 aM (vr 4) (cn (.int 1)))) (gN 12)) (aB (b7 (qO (tb (ch zS nA (cn (.int 0)) (vr 12) (cl bX (ae (vr 3) aj)))) (o2 aQ (o2 aQ (vr 3) (cl wU (ae (vr 4) (ae (vr 12) aj)))) (cn (.int 0))) (aP (ae (cn (.str "refused")) (ae (cn (.int 2)) aj)))) (gN 13)) (b7 (qO (tb (ch zS nA (cn (.int 0)) (vr 12) (cl bX (ae (vr 3) aj)))) (vr 12) (vr 4)) (gN 4)))) (aB (b7 (cl cH (ae (vr 7) (ae (vr 8) (ae (vr 11) aj)))) (gN 14)) (aB (b7 (vr 14) (gN 13)) (eX (tb (o2 lu (o2 aQ (vr 14) (cn (.int 0))) (cn (.str "refused")))) (aB (b7 (cl dN (ae (vr 14) aj)) (gN 13)) (aB (b7 (o2 aM (sl (vr 3) pN (pS (o2 aM (vr 4) (cn (.int 1))))) (de (ae (aP (ae (o2 aQ (de (ae (cn (.str "write")) (ae (cn (.str "read")) (ae (cn (.str "cut")) aj)))) (vr 8)) (ae (vr 14) aj))) aj))) (gN 3)) (b7 (o2 aM (vr 4) (cn (.int 1))) (gN 4)))) sN))))
abbrev B7:V4:=(ye (Il (Ft lu (xT 2 bH (ae (vr 8) (ae (vr 11) aj))) (vr 13))) (aN (cn (.bl ZD))) sN)
abbrev B8:V4:=(eX (tb (o2 lu (ln 2 (r6 "Sketch" "counts" bU (vr 2) aj)) (aP (ae (vr 4) (ae (o2 cv (o2 cv (cl bX (ae (vr 3) aj)) (cn (.int 1))) (vr 4)) aj))))) (aN (cn (.bl ZD))) sN)
abbrev B9:V4:=(eX (tb (o2 lu (ln 2 (r6 "Sketch" "record" aW (vr 2) aj)) (o2 aQ (o2 aQ (vr 3) (vr 4)) (cn (.int 1))))) (aN (cn (.bl ZD))) sN)
abbrev B10:V4:=(eX (tb (o2 lu (ln 2 (r6 "Sketch" "good" cS (vr 2) aj)) (cl eU (ae (gC (iS (sl (vr 3) pN (pS (o2 aM (vr 4) (cn (.int 1)))))) [ZB] (gN 0) bT (o2 aQ (vr 0) (cn (.int 1)))) aj)))) (aN (cn (.bl ZD))) sN)
def E6:V4:=
 (aB (b7 (cl fP (ae (vr 0) (ae (cn (.int 0)) (ae (cn (.int 2)) aj)))) (gN 1)) (aB (pQ 2 cQ (ae (vr 1) aj)) (aB (b7 (de (ae (aP (ae (cn (.str "")) (ae (vr 1) aj))) aj)) (gN 3)) (aB (b7 (cn (.int 0)) (gN 4)) (aB (fA (iR (ae (cl wU (ae (cn (.int 1)) (ae (cl Dn (ae (cn (.int 10)) (ae (cl bX (ae (vr 0) aj)) aj))) aj))) aj)) (gN 5) (aB B0 (aB B1 (aB B2 (aB B3 (aB B4 (aB B5 (aB B6 (aB B7 (aB B8 (aB B9 B10))))))))))) (aN (o2 ju (gC (iS (aP (ae (sl (vr 1) pN (pS (cn (.int 1)))) (ae (aP (ae (o2 aQ (vr 1) (cn (.int 0))) (ae (cn .non) aj))) (ae (cn .non) aj))))) [ZB] (gN 0) bT (cl (jM cQ) (ae (vr 0) aj))) (o2 cf (de (ae (aP (ae (cn (.str "refused")) (ae (cn (.int 0)) aj))) aj)) (cn (.int 3))))))))))
def m_law:List T->Rs T:=val 1 15 E6
variable{f_r:ZE}
section
variable (P:Oh)(w:O8)(base:ZH)
abbrev mh:ZF:=top 49
abbrev uQ:List Str:=["_law_script","_law_k"]
theorem tZ:az uQ ["_law_script","_law_k"] (ai mh):=fZ
theorem uF(F:gW K mg "_law_cell" mh ["_law_script","_law_k"])(B:Bl mg):Cl P w K mg base 1 "_law_cell" 2 fX:=
 bN F tZ rfl λf c A o s H E hr x=>(ar (cg (ba (jm (i5 hr)) (af 0) (eF ah)) (aw (aH (ax dh ao (af 1)))) bK) (aw (aH (ax aL (aF (af 0) (ax lJ (af 1) (cx cp B.b_len Py (ag (af 0) ah)))) (ax dh ao (ax oY (af 1) (cx cp B.b_len Py (ag (af 0) ah))))))))
abbrev lb:ZF:=top 50
abbrev rX:List Str:=["_law_script","_law_k","_law_many","_law_cell_here"]
theorem aav:az rX ["_law_script","_law_k","_law_many"] (ai lb):=fZ
theorem rR(F:gW K mg "_law_drawn" lb ["_law_script","_law_k","_law_many"])(aaK:Cl P w K mg base 1 "_law_cell" 2 fX):Cl P w K mg base 2 "_law_drawn" 3 aE:=
 bN F aav rfl λf c A o s H E hr x=>(by(apply ar;exact(aI (ax lJ (ax aL (ax dh (ax lJ (a6 aaK hr (ag (af 0) (ag (af 1) ah))) ao) ao) (ax dh ao (ax aL (af 1) ao))) ao) (aq 3 aav.nd));apply ar;exact(aI (ax lJ (ax aL (ax dh (af 3) (af 3)) (ax oY (af 3) ao)) ao) (aq 3 aav.nd));exact aw (aH (ax lJ (ax oY (ax lJ (ax aL (ax dh (af 3) (af 3)) (ax oY (af 3) ao)) ao) ao) (af 2)))))
abbrev gK:ZF:=top 53
abbrev jQ:List Str:=["_law_clocks","_law_found","_law_number","_law_clock_here"]
theorem aah:az jQ ["_law_clocks"] (ai gK):=fZ
theorem qf(F:gW K mg "_law_events" gK ["_law_clocks"])(B:Bl mg):Cl P w K mg base 1 "_law_events" 1 cR:=
 bN F aah rfl λf c A o s H E hr x=>(by(apply ar;exact(aI (eF ah) (aq 1 aah.nd));apply ar;exact(cF rfl (jz B.b_enumerate (ag (af 0) ah)) (eY rfl (aU (aq 2 aah.nd) (aU (aq 3 aah.nd) dG))) (aw (aI (ax aL (af 1) (je (N':=["_law_place","_law_number"]) (src:=[ZB,ZA 2]) rfl (LcScope.by (N:=jQ) (names:=(ai gK).names) rfl rfl rfl (by decide+kernel)) (dF B.b_range (ag (cx cp B.b_len Py (ag (aF (af 3) ao) ah)) ah)) (λ_ _ _ _ _=>⟨(aq 0 (show Pp (["_law_place","_law_number"]:List Str)by decide+kernel)),dt,(aO (ag (af 1) (ag (af 0) ah)))⟩))) (aq 1 aah.nd))));exact aw (aH (af 1))))
abbrev jF:ZF:=top 52
abbrev qv:List Str:=["_law_script","_law_at","_law_clocks","_law_row","_law_place","_law_other","_law_least","_law_most"]
theorem aab:az qv ["_law_script","_law_at","_law_clocks"] (ai jF):=fZ
theorem qe(F:gW K mg "_law_letter" jF ["_law_script","_law_at","_law_clocks"])(aad:Cl P w K mg base 1 "_law_events" 1 cR)(aa0:Cl P w K mg base 2 "_law_drawn" 3 aE)(B:Bl mg):Cl P w K mg base 3 "_law_letter" 3 bP:=
 bN F aab rfl λf c A o s H E hr x=>(by(apply ar;exact(aI (a6 aad hr (ag (af 2) ah)) (aq 3 aab.nd));apply ar;exact(cg (ba lj (cx cp B.b_len Py (ag (af 3) ah)) ao) (aw (aH ck)) bK);apply ar;exact(aI (a6 aa0 hr (ag (af 0) (ag (af 1) (ag (cx cp B.b_len Py (ag (af 3) ah)) ah)))) (aq 4 aab.nd));apply ar;exact(aI (ax lJ (ax aL (ax aL (af 4) ao) (a6 aa0 hr (ag (af 0) (ag (ax aL (af 1) ao) (ag (ax cY (cx cp B.b_len Py (ag (af 3) ah)) ao) ah))))) (cx cp B.b_len Py (ag (af 3) ah))) (aq 5 aab.nd));apply ar;exact(aI (a6 aa0 hr (ag (af 0) (ag (ax aL (af 1) ao) (ag ao ah)))) (aq 6 aab.nd));apply ar;exact(aI (nQ (ba (jm (i5 hr)) (a6 aa0 hr (ag (af 0) (ag (ax aL (af 1) ao) (ag ao ah)))) ao) ck (ax aL (af 6) (a6 aa0 hr (ag (af 0) (ag (ax aL (af 1) ao) (ag ao ah)))))) (aq 7 aab.nd));exact aw (aH (aO (ag (aF (af 3) (af 4)) (ag (aF (af 3) (af 5)) (ag (af 6) (ag (af 7) ah))))))))
abbrev lg:ZF:=top 51
abbrev rY:List Str:=["_law_script","_law_at","_law_slow","_law_readings","_law_k"]
theorem aai:az rY ["_law_script","_law_at"] (ai lg):=fZ
theorem rS(F:gW K mg "_law_clock" lg ["_law_script","_law_at"])(aa0:Cl P w K mg base 2 "_law_drawn" 3 aE)(B:Bl mg):Cl P w K mg base 3 "_law_clock" 2 cI:=
 bN F aai rfl λf c A o s H E hr x=>(by(apply ar;exact(aI (ax aL ao (a6 aa0 hr (ag (af 0) (ag (af 1) (ag ao ah))))) (aq 2 aai.nd));apply ar;exact(aI (aO (ag (a6 aa0 hr (ag (af 0) (ag (ax aL (af 1) ao) (ag ao ah)))) ah)) (aq 3 aai.nd));apply ar;exact(cF rfl (dF B.b_range (ag (a6 aa0 hr (ag (af 0) (ag (ax aL (af 1) ao) (ag ao ah)))) ah)) (aq 4 aai.nd) (aw (aI (ax aL (af 3) (aO (ag (ax aL (ax aL (aF (af 3) (mS ao)) ao) (a6 aa0 hr (ag (af 0) (ag (ax aL (ax aL (af 1) ao) (af 4)) (ag ao ah))))) ah))) (aq 3 aai.nd))));exact aw (aH (aO (ag (af 2) (ag (ax aL (af 2) (a6 aa0 hr (ag (af 0) (ag (ax aL (af 1) ao) (ag ao ah))))) (ag (af 3) ah)))))))
abbrev gJ:ZF:=top 54
abbrev jP:List Str:=["_law_script","_law_at","_law_most","_law_clocks","_law_letters","_law_k","_law_letter_here"]
theorem aac:az jP ["_law_script","_law_at","_law_most"] (ai gJ):=fZ
theorem qc(F:gW K mg "_law_record" gJ ["_law_script","_law_at","_law_most"])(aa0:Cl P w K mg base 2 "_law_drawn" 3 aE)(aae:Cl P w K mg base 3 "_law_letter" 3 bP)(aaD:Cl P w K mg base 3 "_law_clock" 2 cI)(B:Bl mg):Cl P w K mg base 4 "_law_record" 3 fP:=
 bN F aac rfl λf c A o s H E hr x=>(by(apply ar;exact(aI (zp qY B.b_tuple fT (ag (je (N':=["_law_k","_law_script","_law_at"]) (src:=[ZB,ZA 0,ZA 1]) rfl (LcScope.by (N:=jP) (names:=(ai gJ).names) rfl rfl rfl (by decide+kernel)) (dF B.b_range (ag (ax aL ao (a6 aa0 hr (ag (af 0) (ag (af 1) (ag ao ah))))) ah)) (λ_ _ _ _ _=>⟨(aq 0 (show Pp (["_law_k","_law_script","_law_at"]:List Str)by decide+kernel)),dt,(a6 aaD hr (ag (af 1) (ag (ax aL (ax aL (af 2) ao) (ax dh ao (af 0))) ah)))⟩)) ah)) (aq 3 aac.nd));apply ar;exact(aI (eF ah) (aq 4 aac.nd));apply ar;exact(cF rfl (dF B.b_range (ag (a6 aa0 hr (ag (af 0) (ag (ax aL (af 1) ao) (ag (ax aL (af 2) ao) ah)))) ah)) (aq 5 aac.nd) (ar (aI (a6 aae hr (ag (af 0) (ag (ax aL (ax aL (af 1) ao) (ax dh ao (af 5))) (ag (af 3) ah)))) (aq 6 aac.nd)) (aw (aI (ax aL (af 4) (ax dh (eF (ag (af 6) ah)) (zp Kx B.b_int og (ag (iJ gM (af 6) ck) ah)))) (aq 4 aac.nd)))));exact aw (aH (aO (ag (af 3) (ag (zp qY B.b_tuple fT (ag (af 4) ah)) ah))))))
abbrev pG:ZF:=top 15
abbrev yy:List Str:=["thing","least","most"]
theorem yd:az yy ["thing","least","most"] (ai pG):=fZ
theorem yr(F:gW K mg "is_long" pG ["thing","least","most"])(B:Bl mg):Cl P w K mg base 1 "is_long" 3 aV:=
 bN F yd rfl λf c A o s H E hr x=>(aw (aH (eZ (zm B.b_isinstance B.b_tuple fT (af 0)) (fG (vp pV pV (af 1) (cx cp B.b_len Py (ag (af 0) ah)) (af 2))))))
abbrev nT:ZF:=top 13
abbrev wC:List Str:=["thing"]
theorem vO:az wC ["thing"] (ai nT):=fZ
theorem wm(F:gW K mg "is_whole" nT ["thing"])(B:Bl mg):Cl P w K mg base 1 "is_whole" 1 iX:=
 bN F vO rfl λf c A o s H E hr x=>(aw (aH (eZ (zm B.b_isinstance B.b_int og (af 0)) (fG (Ih (zm B.b_isinstance B.b_bool mL (af 0)))))))
abbrev l0:ZF:=top 14
abbrev uI:List Str:=["thing","least","most"]
theorem tT:az uI ["thing","least","most"] (ai l0):=fZ
theorem uu(F:gW K mg "is_within" l0 ["thing","least","most"])(aaQ:Cl P w K mg base 1 "is_whole" 1 iX):Cl P w K mg base 2 "is_within" 3 aY:=
 bN F tT rfl λf c A o s H E hr x=>(aw (aH (eZ (a6 aaQ hr (ag (af 0) ah)) (fG (vp pV pV (af 1) (af 0) (af 2))))))
abbrev pF:ZF:=top 18
abbrev yx:List Str:=["slow","fast"]
theorem yc:az yx ["slow","fast"] (ai pF):=fZ
theorem yq(F:gW K mg "is_pace" pF ["slow","fast"])(aa2:Cl P w K mg base 2 "is_within" 3 aY)(C:Cs mg):Cl P w K mg base 3 "is_pace" 2 gB:=
 bN F yc rfl λf c A o s H E hr x=>(aw (aH (eZ (a6 aa2 hr (ag (af 0) (ag ao (ag (vo C.SLOWEST) ah)))) (fG (a6 aa2 hr (ag (af 1) (ag (af 0) (ag (vo C.SLOWEST) ah))))))))
abbrev pE:ZF:=top 16
abbrev wB:List Str:=["numbers"]
theorem Ct:az wB ["numbers"] (ai pE):=fZ
theorem Dc(F:gW K mg "rises" pE ["numbers"])(B:Bl mg):Cl P w K mg base 1 "rises" 1 kJ:=
 bN F Ct rfl λf c A o s H E hr x=>(aw (aH (cx (vd rfl) B.b_all boot_all (ag (je (N':=["k","numbers"]) (src:=[ZB,ZA 0]) rfl (LcScope.by (N:=wB) (names:=(ai pE).names) rfl rfl rfl (by decide+kernel)) (dF B.b_range (ag (ax cY (cx cp B.b_len Py (ag (af 0) ah)) ao) ah)) (λ_ _ _ _ _=>⟨(aq 0 (show Pp (["k","numbers"]:List Str)by decide+kernel)),dt,(iJ lj (aF (af 1) (af 0)) (aF (af 1) (ax aL (af 0) ao)))⟩)) ah))))
abbrev gf:ZF:=top 17
abbrev jn:List Str:=["thing"]
theorem oj:az jn ["thing"] (ai gf):=fZ
theorem ox(F:gW K mg "are_readings" gf ["thing"])(aa3:Cl P w K mg base 1 "is_long" 3 aV)(ab2:Cl P w K mg base 1 "rises" 1 kJ)(aa2:Cl P w K mg base 2 "is_within" 3 aY)(B:Bl mg)(C:Cs mg):Cl P w K mg base 3 "are_readings" 1 bZ:=
 bN F oj rfl λf c A o s H E hr x=>(ar (cg (gp (dA (a6 aa3 hr (ag (af 0) (ag ao (ag (vo C.MOST_READINGS) ah)))))) (aw (aH kZ)) bK) (aw (aH (eZ (cx (vd rfl) B.b_all boot_all (ag (je (N':=["part"]) (src:=[ZB]) rfl (LcScope.by (N:=jn) (names:=(ai gf).names) rfl rfl rfl (by decide+kernel)) (cj (af 0)) (λ_ _ _ _ _=>⟨(aq 0 (show Pp (["part"]:List Str)by decide+kernel)),dt,(a6 aa2 hr (ag (af 0) (ag ao (ag (vo C.LAST_READING) ah))))⟩)) ah)) (fG (a6 ab2 hr (ag (af 0) ah)))))))
abbrev nW:ZF:=top 19
abbrev wI:List Str:=["thing"]
theorem vR:az wI ["thing"] (ai nW):=fZ
theorem wt(F:gW K mg "is_clock" nW ["thing"])(aa3:Cl P w K mg base 1 "is_long" 3 aV)(aaU:Cl P w K mg base 3 "is_pace" 2 gB)(aas:Cl P w K mg base 3 "are_readings" 1 bZ):Cl P w K mg base 4 "is_clock" 1 dJ:=
 bN F vR rfl λf c A o s H E hr x=>(aw (aH (eZ (a6 aa3 hr (ag (af 0) (ag ao (ag ao ah)))) (eZ (a6 aaU hr (ag (aF (af 0) ao) (ag (aF (af 0) ao) ah))) (fG (a6 aas hr (ag (aF (af 0) ao) ah)))))))
abbrev ie:ZF:=top 20
abbrev lr:List Str:=["thing"]
theorem rG:az lr ["thing"] (ai ie):=fZ
theorem rP(F:gW K mg "are_clocks" ie ["thing"])(aa3:Cl P w K mg base 1 "is_long" 3 aV)(aaR:Cl P w K mg base 4 "is_clock" 1 dJ)(B:Bl mg)(C:Cs mg):Cl P w K mg base 5 "are_clocks" 1 dX:=
 bN F rG rfl λf c A o s H E hr x=>(aw (aH (eZ (a6 aa3 hr (ag (af 0) (ag ao (ag (vo C.MOST_CLOCKS) ah)))) (fG (cx (vd rfl) B.b_all boot_all (ag (je (N':=["part"]) (src:=[ZB]) rfl (LcScope.by (N:=lr) (names:=(ai ie).names) rfl rfl rfl (by decide+kernel)) (cj (af 0)) (λ_ _ _ _ _=>⟨(aq 0 (show Pp (["part"]:List Str)by decide+kernel)),dt,(a6 aaR hr (ag (af 0) ah))⟩)) ah))))))
abbrev nU:ZF:=top 21
abbrev wG:List Str:=["clocks","thing"]
theorem vP:az wG ["clocks","thing"] (ai nU):=fZ
theorem wo(F:gW K mg "is_event" nU ["clocks","thing"])(aa2:Cl P w K mg base 2 "is_within" 3 aY)(aa3:Cl P w K mg base 1 "is_long" 3 aV)(B:Bl mg):Cl P w K mg base 3 "is_event" 2 dI:=
 bN F vP rfl λf c A o s H E hr x=>(ar (cg (pq (mQ (gp (dA (a6 aa3 hr (ag (af 1) (ag ao (ag ao ah)))))) (kB (gp (dA (a6 aa2 hr (ag (aF (af 1) ao) (ag ao (ag (ax cY (cx cp B.b_len Py (ag (af 0) ah)) ao) ah))))))))) (aw (aH kZ)) bK) (aw (aH (a6 aa2 hr (ag (aF (af 1) ao) (ag ao (ag (ax cY (cx cp B.b_len Py (ag (aF (aF (af 0) (aF (af 1) ao)) ao) ah)) ao) ah)))))))
abbrev nV:ZF:=top 22
abbrev wH:List Str:=["least","most"]
theorem vQ:az wH ["least","most"] (ai nV):=fZ
theorem wq(F:gW K mg "is_delay" nV ["least","most"])(aa2:Cl P w K mg base 2 "is_within" 3 aY)(C:Cs mg):Cl P w K mg base 3 "is_delay" 2 eJ:=
 bN F vQ rfl λf c A o s H E hr x=>(aw (aH (eZ (a6 aa2 hr (ag (af 0) (ag ao (ag (vo C.LONGEST) ah)))) (fG (Hu (iJ sC (af 1) ck) (fG (a6 aa2 hr (ag (af 1) (ag (af 0) (ag (vo C.LONGEST) ah))))))))))
abbrev l6:ZF:=top 23
abbrev uK:List Str:=["clocks","thing"]
theorem tV:az uK ["clocks","thing"] (ai l6):=fZ
theorem uw(F:gW K mg "is_letter" l6 ["clocks","thing"])(aaB:Cl P w K mg base 3 "is_event" 2 dI)(aa3:Cl P w K mg base 1 "is_long" 3 aV)(aaS:Cl P w K mg base 3 "is_delay" 2 eJ):Cl P w K mg base 4 "is_letter" 2 cq:=
 bN F tV rfl λf c A o s H E hr x=>(ar (cg (pq (mQ (gp (dA (a6 aa3 hr (ag (af 1) (ag ao (ag ao ah)))))) (kB (gp (dA (a6 aaS hr (ag (aF (af 1) ao) (ag (aF (af 1) ao) ah)))))))) (aw (aH kZ)) bK) (aw (aH (eZ (a6 aaB hr (ag (af 0) (ag (aF (af 1) ao) ah))) (eZ (a6 aaB hr (ag (af 0) (ag (aF (af 1) ao) ah))) (fG (iJ (pU (i5 hr)) (aF (af 1) ao) (aF (af 1) ao))))))))
abbrev gI:ZF:=top 24
abbrev jO:List Str:=["clocks","thing"]
theorem pL:az jO ["clocks","thing"] (ai gI):=fZ
theorem pZ(F:gW K mg "are_letters" gI ["clocks","thing"])(aa3:Cl P w K mg base 1 "is_long" 3 aV)(aaL:Cl P w K mg base 4 "is_letter" 2 cq)(B:Bl mg)(C:Cs mg):Cl P w K mg base 5 "are_letters" 2 dy:=
 bN F pL rfl λf c A o s H E hr x=>(aw (aH (eZ (a6 aa3 hr (ag (af 1) (ag ao (ag (vo C.MOST_LETTERS) ah)))) (fG (cx (vd rfl) B.b_all boot_all (ag (je (N':=["part","clocks"]) (src:=[ZB,ZA 0]) rfl (LcScope.by (N:=jO) (names:=(ai gI).names) rfl rfl rfl (by decide+kernel)) (cj (af 1)) (λ_ _ _ _ _=>⟨(aq 0 (show Pp (["part","clocks"]:List Str)by decide+kernel)),dt,(a6 aaL hr (ag (af 1) (ag (af 0) ah)))⟩)) ah))))))
abbrev l5:ZF:=top 25
abbrev uJ:List Str:=["thing"]
theorem tU:az uJ ["thing"] (ai l5):=fZ
theorem uv(F:gW K mg "is_record" l5 ["thing"])(aa3:Cl P w K mg base 1 "is_long" 3 aV)(aaE:Cl P w K mg base 5 "are_clocks" 1 dX)(aaw:Cl P w K mg base 5 "are_letters" 2 dy):Cl P w K mg base 6 "is_record" 1 bD:=
 bN F tU rfl λf c A o s H E hr x=>(aw (aH (eZ (a6 aa3 hr (ag (af 0) (ag ao (ag ao ah)))) (eZ (a6 aaE hr (ag (aF (af 0) ao) ah)) (fG (a6 aaw hr (ag (aF (af 0) ao) (ag (aF (af 0) ao) ah))))))))
abbrev jD:ZF:=top 26
abbrev qt:List Str:=["thing"]
theorem pJ:az qt ["thing"] (ai jD):=fZ
theorem pX(F:gW K mg "need_record" jD ["thing"])(aag:Cl P w K mg base 6 "is_record" 1 bD)(S:Xs K mg ac al bi bn):Cl P w K mg base 7 "need_record" 1 aS:=
 bN F pJ rfl λf c A o s H E hr x=>(aw (cg (gp (dA (a6 aag hr (ag (af 0) ah)))) (aw (kC S.o_NoRecord S.m_NoRecord)) bK))
abbrev gL:ZF:=cL (top 47) 0
abbrev lP:List Str:=["self","record"]
theorem lF:az lP ["self","record"] (ai gL):=fZ
theorem lL(F:nM K "Sketch" "__init__" "Sketch.__init__" gL ["self","record"])(aa1:Cl P w K mg base 7 "need_record" 1 aS)(cr:b8 K mg):Mm P w K mg base 8 "Sketch" "__init__" 2 cJ:=
 qA F lF rfl λf c A o s H E hr x=>(fM (zq (oR (a6 aa1 hr (ag (af 1) ah)))) (fM (xR 0 cr.k cr.a_past (ag (aO (ag ck (ag (af 1) ah))) ah)) (fH (xR 0 cr.k cr.a_ahead ah))))
abbrev nX:ZF:=top 60
abbrev wJ:List Str:=["_law_record_here","_law_e"]
theorem aaY:az wJ ["_law_record_here"] (ai nX):=fZ
theorem wu(F:gW K mg "_law_new" nX ["_law_record_here"])(db:Mm P w K mg base 8 "Sketch" "__init__" 2 cJ)(B:Bl mg)(cr:b8 K mg)(S:Xs K mg ac al bi bn)(aa9:Fn K mg "_law_refused" bS ["_law_e"] f_r fd_r):Cs_ P w K mg base 10 "_law_new" 1 cQ:=
 ME F aaY rfl λf c A o s H E hr x=>(BS (Ii 1 aaY.nd S.m_ClockError S.o_ClockError (λ_ _=>(BS (Fq cr.k db hr (ag (af 0) ah)))) (vJ rfl (Ua rfl) aa9 S B.b_isinstance B.b_ValueError (HF hr)) (hcl:=λ_ _ z=>by cases z)))
abbrev iA:ZF:=cL (top 47) 9
abbrev nr:List Str:=["self"]
theorem mX:az nr ["self"] (ai iA):=fZ
theorem m7(F:nM K "Sketch" "counts" "Sketch.counts" iA ["self"])(B:Bl mg)(cr:b8 K mg):Ml P w K mg base 1 "Sketch" "counts" bU:=
 Dm F mX rfl λf c A o s H E hr x=>(aw (aH (aO (ag (ax cY (cx cp B.b_len Py (ag (mT cr.k cr.a_past (af 0)) ah)) ao) (ag (cx cp B.b_len Py (ag (mT cr.k cr.a_ahead (af 0)) ah)) ah)))))
abbrev iz:ZF:=cL (top 47) 1
abbrev nj:List Str:=["self"]
theorem mW:az nj ["self"] (ai iz):=fZ
theorem m6(F:nM K "Sketch" "record" "Sketch.record" iz ["self"])(cr:b8 K mg):Ml P w K mg base 1 "Sketch" "record" aW:=
 Dm F mW rfl λf c A o s H E hr x=>(aw (aH (aF (aF (mT cr.k cr.a_past (af 0)) (mS ao)) ao)))
abbrev mV:ZF:=top 28
abbrev sI:List Str:=["record","told","number","clock"]
theorem aaI:az sI ["record"] (ai mV):=fZ
theorem AY(F:gW K mg "events" mV ["record"])(aa1:Cl P w K mg base 7 "need_record" 1 aS)(B:Bl mg):Cl P w K mg base 8 "events" 1 jS:=
 bN F aaI rfl λf c A o s H E hr x=>(by(apply ar;exact(fU (a6 aa1 hr (ag (af 0) ah)));apply ar;exact(jy 1 aaI.nd ah);apply ar;exact(cF rfl (jz B.b_enumerate (ag (aF (af 0) ao) ah)) (eY rfl (aU (aq 2 aaI.nd) (aU (aq 3 aaI.nd) dG))) (aw (tH 1 (je (N':=["k","number"]) (src:=[ZB,ZA 2]) rfl (LcScope.by (N:=sI) (names:=(ai mV).names) rfl rfl rfl (by decide+kernel)) (dF B.b_range (ag (cx cp B.b_len Py (ag (aF (af 3) ao) ah)) ah)) (λ_ _ _ _ _=>⟨(aq 0 (show Pp (["k","number"]:List Str)by decide+kernel)),dt,(aO (ag (af 1) (ag (af 0) ah)))⟩)))));exact aw (iH 1 (aH (af 1)))))
abbrev l7:ZF:=top 41
abbrev uL:List Str:=["best","bound","ahead","known"]
theorem aaV:az uL ["best","bound","ahead"] (ai l7):=fZ
theorem uz(F:gW K mg "is_better" l7 ["best","bound","ahead"]):Cl P w K mg base 1 "is_better" 3 dM:=
 bN F aaV rfl λf c A o s H E hr x=>(ar (aI (zo (oK hr) (af 0) (aF (af 1) ao)) (aq 3 aaV.nd)) (aw (aH (Hu (iJ sC (af 3) ck) (fG (iJ lj (ax aL (aF (af 2) ao) (aF (af 1) ao)) (aF (af 3) ao)))))))
abbrev kF:ZF:=top 40
abbrev ni:List Str:=["limits","starts","best","moved","number","bound","ahead","walk","passed"]
theorem aaa:az ni ["limits","starts"] (ai kF):=fZ
theorem AX(F:gW K mg "settle" kF ["limits","starts"])(aaM:Cl P w K mg base 1 "is_better" 3 dM)(B:Bl mg):Cl P w K mg base 2 "settle" 2 gP:=
 bN F aaa rfl λf c A o s H E hr x=>(by(apply ar;exact(BQ 2 (hu8 hr) rfl B.b_dict aaa.nd (je (N':=["event"]) (src:=[ZB]) rfl (LcScope.by (N:=ni) (names:=(ai kF).names) rfl rfl rfl (by decide+kernel)) (cj (af 1)) (λ_ _ _ _ _=>⟨(aq 0 (show Pp (["event"]:List Str)by decide+kernel)),dt,(aO (ag (af 0) (ag (aO (ag ao (ag (eF ah) ah))) ah)))⟩)));apply ar;exact(aI kZ (aq 3 aaa.nd));apply ar;exact(AB FU (dA (af 3)) (ar (aI kZ (aq 3 aaa.nd)) (aw (cF rfl (jz B.b_enumerate (ag (af 0) ah)) (eY rfl (aU (aq 4 aaa.nd) (aU (aq 5 aaa.nd) dG))) (by(apply ar;exact(aI (gj 2 (zo (oK hr) (af 2) (aF (af 5) ao))) (aq 6 aaa.nd));apply ar;exact(cg (pq (mQ (ba sC (af 6) ck) (kB (gp (BP 2 (dA (a6 aaM hr (ag (af 2) (ag (af 5) (ag (af 6) ah)))))))))) (aw Ig) bK);apply ar;exact(aI (ax aL (aF (af 6) ao) (eF (ag (af 4) ah))) (aq 7 aaa.nd));apply ar;exact(BR 8 (N':=["step","limits"]) (src:=[ZB,ZA 0]) rfl (LcScope.by (N:=ni) (names:=(ai kF).names) rfl rfl rfl (by decide+kernel)) (cj (af 7)) (λ_ _ _ _ _=>⟨(aq 0 (show Pp (["step","limits"]:List Str)by decide+kernel)),dt,(aF (aF (af 1) (af 0)) ao)⟩) aaa.nd);apply ar;exact(cg (ba (LK (Mr hr)) (aF (af 5) ao) (af 8)) (aw (aH (aO (ag ck (ag (dv (af 7) (dm (AF (Mr hr) (af 8) (aF (af 5) ao))) dq) ah))))) bK);apply ar;exact(Fj 2 (oK hr) (aF (af 5) ao) (aO (ag (ax aL (aF (af 6) ao) (aF (af 5) ao)) (ag (af 7) ah))));exact aw (aI kZ (aq 3 aaa.nd))))))));exact aw (iH 2 (aH (aO (ag (af 2) (ag ck ah)))))))
abbrev ff:ZF:=top 43
abbrev g9:List Str:=["record","limits","places","best"]
theorem aan:az g9 ["record","limits"] (ai ff):=fZ
theorem mn(F:gW K mg "greatest_world" ff ["record","limits"])(aaZ:Cl P w K mg base 8 "events" 1 jS)(ab0:Cl P w K mg base 2 "settle" 2 gP)(B:Bl mg):Cl P w K mg base 9 "greatest_world" 2 dW:=
 bN F aan rfl λf c A o s H E hr x=>(by(apply ar;exact(aI (a6 aaZ hr (ag (af 0) ah)) (aq 2 aan.nd));apply ar;exact(aI (aF (a6 ab0 hr (ag (af 1) (ag (af 2) ah))) ao) (aq 3 aan.nd));apply ar;exact(cg (ba sC (af 3) ck) (aw (aH ck)) bK);exact aw (aH (zp qY B.b_tuple fT (ag (je (N':=["event","best"]) (src:=[ZB,ZA 3]) rfl (LcScope.by (N:=g9) (names:=(ai ff).names) rfl rfl rfl (by decide+kernel)) (cj (af 2)) (λ_ _ _ _ _=>⟨(aq 0 (show Pp (["event","best"]:List Str)by decide+kernel)),dt,(aF (dg (oK hr) (af 1) (af 0)) ao)⟩)) ah)))))
abbrev gH:ZF:=top 36
abbrev lO:List Str:=["number","clock","readings","told","k","first","second","steps"]
theorem aa5:az lO ["number","clock"] (ai gH):=fZ
theorem lK(F:gW K mg "bounds_of_clock" gH ["number","clock"])(B:Bl mg):Cl P w K mg base 1 "bounds_of_clock" 2 cG:=
 bN F aa5 rfl λf c A o s H E hr x=>(by(apply ar;exact(aI (aF (af 1) ao) (aq 2 aa5.nd));apply ar;exact(jy 3 aa5.nd ah);apply ar;exact(cF rfl (dF B.b_range (ag (ax cY (cx cp B.b_len Py (ag (af 2) ah)) ao) ah)) (aq 4 aa5.nd) (by(apply ar;exact(aI (aO (ag (af 0) (ag (af 4) ah))) (aq 5 aa5.nd));apply ar;exact(aI (aO (ag (af 0) (ag (ax aL (af 4) ao) ah))) (aq 6 aa5.nd));apply ar;exact(aI (ax cY (aF (af 2) (ax aL (af 4) ao)) (aF (af 2) (af 4))) (aq 7 aa5.nd));apply ar;exact(iI 3 (aO (ag (af 5) (ag (af 6) (ag (ax dh (af 7) (aF (af 1) ao)) ah)))));exact aw (iI 3 (aO (ag (af 6) (ag (af 5) (ag (ax dh (mS (af 7)) (aF (af 1) ao)) ah))))))));exact aw (iH 3 (aH (af 3)))))
abbrev gk:ZF:=top 37
abbrev kX:List Str:=["letter","told"]
theorem aar:az kX ["letter"] (ai gk):=fZ
theorem kW(F:gW K mg "bounds_of_letter" gk ["letter"]):Cl P w K mg base 1 "bounds_of_letter" 1 cA:=
 bN F aar rfl λf c A o s H E hr x=>(by(apply ar;exact(jy 1 aar.nd (ag (aO (ag (aF (af 0) ao) (ag (aF (af 0) ao) (ag (mS (aF (af 0) ao)) ah)))) ah));apply ar;exact(cg (ba gM (aF (af 0) ao) ck) (aw (iI 1 (aO (ag (aF (af 0) ao) (ag (aF (af 0) ao) (ag (aF (af 0) ao) ah)))))) bK);exact aw (iH 1 (aH (af 1)))))
abbrev sk:ZF:=top 38
abbrev A1:List Str:=["record","told","number","clock","letter"]
theorem aau:az A1 ["record"] (ai sk):=fZ
theorem AZ(F:gW K mg "bounds" sk ["record"])(aa1:Cl P w K mg base 7 "need_record" 1 aS)(aao:Cl P w K mg base 1 "bounds_of_clock" 2 cG)(aal:Cl P w K mg base 1 "bounds_of_letter" 1 cA)(B:Bl mg):Cl P w K mg base 8 "bounds" 1 jT:=
 bN F aau rfl λf c A o s H E hr x=>(by(apply ar;exact(fU (a6 aa1 hr (ag (af 0) ah)));apply ar;exact(jy 1 aau.nd ah);apply ar;exact(cF rfl (jz B.b_enumerate (ag (aF (af 0) ao) ah)) (eY rfl (aU (aq 2 aau.nd) (aU (aq 3 aau.nd) dG))) (aw (tH 1 (a6 aao hr (ag (af 2) (ag (af 3) ah))))));apply ar;exact(cF rfl (cj (aF (af 0) ao)) (aq 4 aau.nd) (aw (tH 1 (a6 aal hr (ag (af 4) ah)))));exact aw (iH 1 (aH (af 1)))))
abbrev vK:ZF:=top 44
abbrev Dg:List Str:=["record"]
theorem Cr:az Dg ["record"] (ai vK):=fZ
theorem C8(F:gW K mg "world" vK ["record"])(aap:Cl P w K mg base 9 "greatest_world" 2 dW)(ab1:Cl P w K mg base 8 "bounds" 1 jT):Cl P w K mg base 10 "world" 1 o4:=
 bN F Cr rfl λf c A o s H E hr x=>(aw (aH (a6 aap hr (ag (af 0) (ag (a6 ab1 hr (ag (af 0) ah)) ah)))))
abbrev l9:ZF:=top 45
abbrev uN:List Str:=["record"]
theorem tY:az uN ["record"] (ai l9):=fZ
theorem uB(F:gW K mg "has_world" l9 ["record"])(ab3:Cl P w K mg base 10 "world" 1 o4):Cl P w K mg base 11 "has_world" 1 bF:=
 bN F tY rfl λf c A o s H E hr x=>(aw (aH (iJ gM (a6 ab3 hr (ag (af 0) ah)) ck)))
abbrev jI:ZF:=cL (top 47) 6
abbrev qy:List Str:=["self","step"]
theorem sc_Sketch_good:az qy ["self"] (ai jI):=fZ
theorem qi(F:nM K "Sketch" "good" "Sketch.good" jI ["self"])(aaj:Cl P w K mg base 11 "has_world" 1 bF)(B:Bl mg)(cr:b8 K mg):Ml P w K mg base 12 "Sketch" "good" cS:=
 Dm F sc_Sketch_good rfl λf c A o s H E hr x=>(ar (cF rfl (Fo B.b_reversed (ag (mT cr.k cr.a_past (af 0)) ah)) (aq 1 sc_Sketch_good.nd) (aw (cg (dA (a6 aaj hr (ag (aF (af 1) ao) ah))) (aw (aH (aF (af 1) ao))) bK))) (aw (aH ck)))
abbrev mf:ZF:=top 61
abbrev uP:List Str:=["_law_record_here","_law_ask","_law_some","_law_clocks","_law_letters","_law_letter_here","_law_number","_law_reading","_law_found","_law_slow","_law_fast","_law_readings"]
theorem aa6:az uP ["_law_record_here","_law_ask","_law_some"] (ai mf):=fZ
theorem uD(F:gW K mg "_law_next" mf ["_law_record_here","_law_ask","_law_some"])(aag:Cl P w K mg base 6 "is_record" 1 bD)(B:Bl mg):Cl P w K mg base 7 "_law_next" 3 cH:=
 bN F aa6 rfl λf c A o s H E hr x=>(by(apply ar;exact(aI (af 0) (eY rfl (aU (aq 3 aa6.nd) (aU (aq 4 aa6.nd) dG))));apply ar;exact(aI (af 2) (eY rfl (aU (aq 5 aa6.nd) (aU (aq 6 aa6.nd) (aU (aq 7 aa6.nd) dG)))));apply ar;exact(cg (ba (jm (i5 hr)) (af 1) ao) (ar (aI (aO (ag (af 3) (ag (ax aL (af 4) (aO (ag (af 5) ah))) ah))) (aq 8 aa6.nd)) (aw (aH (nQ (dA (a6 aag hr (ag (af 8) ah))) (af 8) (aO (ag fF (ag ao ah))))))) bK);apply ar;exact(cg (pq (mQ (dA (zm B.b_isinstance B.b_bool mL (af 6))) (kB (gp (mR pV lj ao (af 6) (cx cp B.b_len Py (ag (aF (eF (ag (af 3) (ag (af 4) ah))) (ax cY (af 1) ao)) ah))))))) (aw (aH (aO (ag fF (ag ao ah))))) bK);apply ar;exact(cg (ba (jm (i5 hr)) (af 1) ao) (aw (aH (aO (ag (af 3) (ag (ax aL (dv (af 4) dq (dm (af 6))) (dv (af 4) (dm (ax aL (af 6) ao)) dq)) ah))))) bK);apply ar;exact(aI (aF (af 3) (af 6)) (eY rfl (aU (aq 9 aa6.nd) (aU (aq 10 aa6.nd) (aU (aq 11 aa6.nd) dG)))));apply ar;exact(aI (aO (ag (ax aL (ax aL (dv (af 3) dq (dm (af 6))) (aO (ag (aO (ag (af 9) (ag (af 10) (ag (ax aL (af 11) (aO (ag (af 7) ah))) ah)))) ah))) (dv (af 3) (dm (ax aL (af 6) ao)) dq)) (ag (af 4) ah))) (aq 8 aa6.nd));exact aw (aH (nQ (dA (a6 aag hr (ag (af 8) ah))) (af 8) (aO (ag fF (ag ao ah)))))))
abbrev jJ:ZF:=cL (top 47) 7
abbrev qz:List Str:=["self","step"]
theorem sc_Sketch_back:az qz ["self"] (ai jJ):=fZ
theorem qk(F:nM K "Sketch" "back" "Sketch.back" jJ ["self"])(B:Bl mg)(cr:b8 K mg)(S:Xs K mg ac al bi bn):Mm P w K mg base 1 "Sketch" "back" 1 bQ:=
 qA F sc_Sketch_back rfl λf c A o s H E hr x=>(fM (Hv (ba (jm (i5 hr)) (gj 0 (cx cp B.b_len Py (ag (mT cr.k cr.a_past (af 0)) ah))) ao) (fH (BW (kC S.o_Nothing S.m_Nothing))) BU) (fM (Hw 1 sc_Sketch_back.nd (BN 0 cr.k cr.a_past)) (fM (zq (xO 0 cr.k cr.a_ahead (af 1))) (fH (iK (oR (aF (af 1) ao)))))))
abbrev jk:ZF:=cL (top 47) 8
abbrev oG:List Str:=["self","step"]
theorem sc_Sketch_forth:az oG ["self"] (ai jk):=fZ
theorem oB(F:nM K "Sketch" "forth" "Sketch.forth" jk ["self"])(cr:b8 K mg)(S:Xs K mg ac al bi bn):Mm P w K mg base 1 "Sketch" "forth" 1 bR:=
 qA F sc_Sketch_forth rfl λf c A o s H E hr x=>(fM (Hv (BP 0 (ba (jm (i5 hr)) (mT cr.k cr.a_ahead (af 0)) (eF ah))) (fH (BW (kC S.o_Nothing S.m_Nothing))) BU) (fM (Hw 1 sc_Sketch_forth.nd (BN 0 cr.k cr.a_ahead)) (fM (zq (xO 0 cr.k cr.a_past (af 1))) (fH (iK (oR (aF (af 1) ao)))))))
abbrev ji:ZF:=cL (top 47) 2
abbrev oF:List Str:=["self","word","record"]
theorem oo:az oF ["self","word","record"] (ai ji):=fZ
theorem oA(F:nM K "Sketch" "go_on" "Sketch.go_on" ji ["self","word","record"])(aaj:Cl P w K mg base 11 "has_world" 1 bF)(cr:b8 K mg):Mm P w K mg base 12 "Sketch" "go_on" 3 bw:=
 qA F oo rfl λf c A o s H E hr x=>(fM (zq (xO 0 cr.k cr.a_past (aO (ag (af 1) (ag (af 2) ah))))) (fM (xR 0 cr.k cr.a_ahead ah) (fH (iK (oR (a6 aaj hr (ag (af 2) ah)))))))
abbrev l8:ZF:=top 30
abbrev uM:List Str:=["thing"]
theorem tW:az uM ["thing"] (ai l8):=fZ
theorem uA(F:gW K mg "if_record" l8 ["thing"])(aa1:Cl P w K mg base 7 "need_record" 1 aS):Cl P w K mg base 8 "if_record" 1 df:=
 bN F tW rfl λf c A o s H E hr x=>(ar (fU (a6 aa1 hr (ag (af 0) ah))) (aw (aH (af 0))))
abbrev jC:ZF:=top 31
abbrev qr:List Str:=["record","letter"]
theorem pI:az qr ["record","letter"] (ai jC):=fZ
theorem pW(F:gW K mg "with_letter" jC ["record","letter"])(aa1:Cl P w K mg base 7 "need_record" 1 aS)(aak:Cl P w K mg base 8 "if_record" 1 df):Cl P w K mg base 9 "with_letter" 2 dw:=
 bN F pI rfl λf c A o s H E hr x=>(ar (fU (a6 aa1 hr (ag (af 0) ah))) (aw (aH (a6 aak hr (ag (aO (ag (aF (af 0) ao) (ag (ax aL (aF (af 0) ao) (aO (ag (af 1) ah))) ah))) ah)))))
abbrev jh:ZF:=cL (top 47) 3
abbrev oE:List Str:=["self","letter"]
theorem om:az oE ["self","letter"] (ai jh):=fZ
theorem oy(F:nM K "Sketch" "write" "Sketch.write" jh ["self","letter"])(gt:Mm P w K mg base 12 "Sketch" "go_on" 3 bw)(aax:Cl P w K mg base 9 "with_letter" 2 dw)(ii:Ml P w K mg base 1 "Sketch" "record" aW)(cr:b8 K mg):Mm P w K mg base 13 "Sketch" "write" 2 dO:=
 qA F om rfl λf c A o s H E hr x=>(fH (iK (kA 0 cr.k gt hr (ag fF (ag (a6 aax hr (ag (gj 0 (kD cr.k ii hr (af 0))) (ag (af 1) ah))) ah)))))
abbrev jE:ZF:=top 27
abbrev qu:List Str:=["many","thing"]
theorem pK:az qu ["many","thing"] (ai jE):=fZ
theorem pY(F:gW K mg "need_number" jE ["many","thing"])(aa2:Cl P w K mg base 2 "is_within" 3 aY)(S:Xs K mg ac al bi bn):Cl P w K mg base 3 "need_number" 2 cP:=
 bN F pK rfl λf c A o s H E hr x=>(aw (cg (gp (dA (a6 aa2 hr (ag (af 1) (ag ao (ag (ax cY (af 0) ao) ah)))))) (aw (kC S.o_NoNumber S.m_NoNumber)) bK))
abbrev la:ZF:=top 33
abbrev rW:List Str:=["record","number","clock","clocks"]
theorem aaT:az rW ["record","number","clock"] (ai la):=fZ
theorem rO(F:gW K mg "with_clock" la ["record","number","clock"])(aak:Cl P w K mg base 8 "if_record" 1 df):Cl P w K mg base 9 "with_clock" 3 gv:=
 bN F aaT rfl λf c A o s H E hr x=>(ar (aI (aF (af 0) ao) (aq 3 aaT.nd)) (aw (aH (a6 aak hr (ag (aO (ag (ax aL (ax aL (dv (af 3) dq (dm (af 1))) (aO (ag (af 2) ah))) (dv (af 3) (dm (ax aL (af 1) ao)) dq)) (ag (aF (af 0) ao) ah))) ah)))))
abbrev jg:ZF:=top 34
abbrev oC:List Str:=["record","clock","reading","old"]
theorem aaJ:az oC ["record","clock","reading"] (ai jg):=fZ
theorem ou(F:gW K mg "with_reading" jg ["record","clock","reading"])(aa1:Cl P w K mg base 7 "need_record" 1 aS)(aaf:Cl P w K mg base 3 "need_number" 2 cP)(aaF:Cl P w K mg base 9 "with_clock" 3 gv)(B:Bl mg):Cl P w K mg base 10 "with_reading" 3 cz:=
 bN F aaJ rfl λf c A o s H E hr x=>(by(apply ar;exact(fU (a6 aa1 hr (ag (af 0) ah)));apply ar;exact(fU (a6 aaf hr (ag (cx cp B.b_len Py (ag (aF (af 0) ao) ah)) (ag (af 1) ah))));apply ar;exact(aI (aF (aF (af 0) ao) (af 1)) (aq 3 aaJ.nd));exact aw (aH (a6 aaF hr (ag (af 0) (ag (af 1) (ag (aO (ag (aF (af 3) ao) (ag (aF (af 3) ao) (ag (ax aL (aF (af 3) ao) (aO (ag (af 2) ah))) ah)))) ah)))))))
abbrev jH:ZF:=cL (top 47) 4
abbrev qx:List Str:=["self","clock","reading"]
theorem pM:az qx ["self","clock","reading"] (ai jH):=fZ
theorem qh(F:nM K "Sketch" "read" "Sketch.read" jH ["self","clock","reading"])(gt:Mm P w K mg base 12 "Sketch" "go_on" 3 bw)(aat:Cl P w K mg base 10 "with_reading" 3 cz)(ii:Ml P w K mg base 1 "Sketch" "record" aW)(cr:b8 K mg):Mm P w K mg base 13 "Sketch" "read" 3 d9:=
 qA F pM rfl λf c A o s H E hr x=>(fH (iK (kA 0 cr.k gt hr (ag fF (ag (a6 aat hr (ag (gj 0 (kD cr.k ii hr (af 0))) (ag (af 1) (ag (af 2) ah)))) ah)))))
abbrev gY:ZF:=top 32
abbrev mw:List Str:=["record","number","letters"]
theorem aaA:az mw ["record","number"] (ai gY):=fZ
theorem mm(F:gW K mg "without_letter" gY ["record","number"])(aa1:Cl P w K mg base 7 "need_record" 1 aS)(aaf:Cl P w K mg base 3 "need_number" 2 cP)(B:Bl mg):Cl P w K mg base 8 "without_letter" 2 cw:=
 bN F aaA rfl λf c A o s H E hr x=>(by(apply ar;exact(fU (a6 aa1 hr (ag (af 0) ah)));apply ar;exact(aI (aF (af 0) ao) (aq 2 aaA.nd));apply ar;exact(fU (a6 aaf hr (ag (cx cp B.b_len Py (ag (af 2) ah)) (ag (af 1) ah))));exact aw (aH (aO (ag (aF (af 0) ao) (ag (ax aL (dv (af 2) dq (dm (af 1))) (dv (af 2) (dm (ax aL (af 1) ao)) dq)) ah))))))
abbrev lh:ZF:=cL (top 47) 5
abbrev rZ:List Str:=["self","number"]
theorem rH:az rZ ["self","number"] (ai lh):=fZ
theorem rV(F:nM K "Sketch" "cut" "Sketch.cut" lh ["self","number"])(gt:Mm P w K mg base 12 "Sketch" "go_on" 3 bw)(aaq:Cl P w K mg base 8 "without_letter" 2 cw)(ii:Ml P w K mg base 1 "Sketch" "record" aW)(cr:b8 K mg):Mm P w K mg base 13 "Sketch" "cut" 2 gx:=
 qA F rH rfl λf c A o s H E hr x=>(fH (iK (kA 0 cr.k gt hr (ag fF (ag (a6 aaq hr (ag (gj 0 (kD cr.k ii hr (af 0))) (ag (af 1) ah))) ah)))))
abbrev md:ZF:=top 59
abbrev uO:List Str:=["_law_sketch","_law_ask","_law_some","_law_e"]
theorem aaW:az uO ["_law_sketch","_law_ask","_law_some"] (ai md):=fZ
theorem uC(F:gW K mg "_law_told" md ["_law_sketch","_law_ask","_law_some"])(im:Mm P w K mg base 1 "Sketch" "back" 1 bQ)(io:Mm P w K mg base 1 "Sketch" "forth" 1 bR)(jp:Mm P w K mg base 13 "Sketch" "write" 2 dO)(kt:Mm P w K mg base 13 "Sketch" "read" 3 d9)(ld:Mm P w K mg base 13 "Sketch" "cut" 2 gx)(B:Bl mg)(cr:b8 K mg)(S:Xs K mg ac al bi bn)(aa9:Fn K mg "_law_refused" bS ["_law_e"] f_r fd_r):Ce P w K mg base 14 "_law_told" 3 0 bH:=
 MF F aaW rfl λf c A o s H E hr x=>(fH (Ij 3 aaW.nd S.m_ClockError S.o_ClockError (λ_ _=>(BV (ba lj (af 1) ao) (BV (ba (jm (i5 hr)) (af 1) ao) (fH (iK (kA 0 cr.k jp hr (ag (aF (af 2) ao) ah)))) (fH (iK (Ht (ba (jm (i5 hr)) (af 1) ao) (kA 0 cr.k kt hr (ag (aF (af 2) ao) (ag (aF (af 2) ao) ah))) (kA 0 cr.k ld hr (ag (aF (af 2) ao) ah)))))) (fH (iK (Ht (ba (jm (i5 hr)) (af 1) ao) (vm 0 cr.k im hr) (vm 0 cr.k io hr)))))) (vJ rfl (Ua rfl) aa9 S B.b_isinstance B.b_ValueError (HF hr)) (hcl:=λ_ _ z=>by cases z)))
abbrev fN:ZF:=top 56
abbrev ig:List Str:=["_law_places","_law_row","_law_far","_law_one","_law_other","_law_most","_law_middle","_law_whole"]
theorem aa7:az ig ["_law_places","_law_row"] (ai fN):=fZ
theorem rQ(F:gW K mg "_law_table" fN ["_law_places","_law_row"])(B:Bl mg):Cl P w K mg base 1 "_law_table" 2 gw:=
 bN F aa7 rfl λf c A o s H E hr x=>(by(apply ar;exact(AD 2 0 (N':=["_law_one","_law_places"]) (src:=[ZB]) (hu8 hr) rfl B.b_dict aa7.nd (LcScope.by (N:=ig) (names:=(ai fN).names) rfl rfl rfl (by decide+kernel)) (cj (af 0)) (by decide) (λ_ _ _ _ _=>⟨(aq 0 (show Pp (["_law_one","_law_places"]:List Str)by decide+kernel)),pv 0,Jn (hu8 hr) rfl B.b_dict rfl (LcScope.byN (N:=["_law_one","_law_places"]) (N':=["_law_other"]) rfl rfl (by decide+kernel) rfl) (cj (af 1)).h (λ_ _ _ _ _=>⟨(aq 0 (show Pp (["_law_other"]:List Str)by decide+kernel)).h,pv 0,rfl⟩) (λ_=>rfl)⟩));apply ar;exact(cF rfl (cj (af 0)) (aq 3 aa7.nd) (aw (pw 2 (oK hr) (af 3) (af 3) ao)));apply ar;exact(cF rfl (cj (af 1)) (eY rfl (aU (aq 3 aa7.nd) (aU (aq 4 aa7.nd) (aU (aq 5 aa7.nd) dG)))) (aw (cg (pq (mQ (ba sC (gj 2 (dg (oK hr) (dg (oK hr) (af 2) (af 3)) (af 4))) ck) (kB (ba lj (af 5) (gj 2 (dg (oK hr) (dg (oK hr) (af 2) (af 3)) (af 4))))))) (aw (pw 2 (oK hr) (af 3) (af 4) (af 5))) bK)));apply ar;exact(cF rfl (cj (af 0)) (aq 6 aa7.nd) (aw (cF rfl (cj (af 0)) (aq 3 aa7.nd) (aw (cF rfl (cj (af 0)) (aq 4 aa7.nd) (aw (cg (pq (Fi (ba gM (gj 2 (dg (oK hr) (dg (oK hr) (af 2) (af 3)) (af 6))) ck) (BO (ba gM (gj 2 (dg (oK hr) (dg (oK hr) (af 2) (af 6)) (af 4))) ck)))) (ar (aI (ax aL (gj 2 (dg (oK hr) (dg (oK hr) (af 2) (af 3)) (af 6))) (gj 2 (dg (oK hr) (dg (oK hr) (af 2) (af 6)) (af 4)))) (aq 7 aa7.nd)) (aw (cg (pq (mQ (ba sC (gj 2 (dg (oK hr) (dg (oK hr) (af 2) (af 3)) (af 4))) ck) (kB (ba lj (af 7) (gj 2 (dg (oK hr) (dg (oK hr) (af 2) (af 3)) (af 4))))))) (aw (pw 2 (oK hr) (af 3) (af 4) (af 7))) bK))) bK)))))));exact aw (iH 2 (aH (nQ (ba (jm (i5 hr)) (je (N':=["_law_one","_law_far"]) (src:=[ZB,ZA 2]) rfl (LcScope.by (N:=ig) (names:=(ai fN).names) rfl rfl rfl (by decide+kernel)) (cj (af 0)) (λ_ _ _ _ _=>⟨(aq 0 (show Pp (["_law_one","_law_far"]:List Str)by decide+kernel)),(vn (ba lj (dg (oK hr) (dg (oK hr) (af 1) (af 0)) (af 0)) ao)),(af 0)⟩)) (eF ah)) (af 2) ck)))))
abbrev jG:ZF:=top 55
abbrev qw:List Str:=["_law_record_here","_law_found","_law_number","_law_slow","_law_fast","_law_readings","_law_k","_law_steps","_law_one","_law_other","_law_least","_law_most"]
theorem aa4:az qw ["_law_record_here"] (ai jG):=fZ
theorem qg(F:gW K mg "_law_bounds" jG ["_law_record_here"])(B:Bl mg):Cl P w K mg base 1 "_law_bounds" 1 fQ:=
 bN F aa4 rfl λf c A o s H E hr x=>(by(apply ar;exact(jy 1 aa4.nd ah);apply ar;exact(cF rfl (jz B.b_enumerate (ag (aF (af 0) ao) ah)) (eY rfl (aU (aq 2 aa4.nd) (aU (eY rfl (aU (aq 3 aa4.nd) (aU (aq 4 aa4.nd) (aU (aq 5 aa4.nd) dG)))) dG))) (aw (cF rfl (xQ B.b_range (ag ao (ag (cx cp B.b_len Py (ag (af 5) ah)) ah))) (aq 6 aa4.nd) (by(apply ar;exact(aI (ax cY (aF (af 5) (af 6)) (aF (af 5) (ax cY (af 6) ao))) (aq 7 aa4.nd));apply ar;exact(iI 1 (aO (ag (aO (ag (af 2) (ag (ax cY (af 6) ao) ah))) (ag (aO (ag (af 2) (ag (af 6) ah))) (ag (ax dh (af 4) (af 7)) ah)))));exact aw (iI 1 (aO (ag (aO (ag (af 2) (ag (af 6) ah))) (ag (aO (ag (af 2) (ag (ax cY (af 6) ao) ah))) (ag (ax cY ao (ax dh (af 3) (af 7))) ah))))))))));apply ar;exact(cF rfl (cj (aF (af 0) ao)) (eY rfl (aU (aq 8 aa4.nd) (aU (aq 9 aa4.nd) (aU (aq 10 aa4.nd) (aU (aq 11 aa4.nd) dG))))) (ar (iI 1 (aO (ag (af 9) (ag (af 8) (ag (ax cY ao (af 10)) ah))))) (aw (cg (ba gM (af 11) ck) (aw (iI 1 (aO (ag (af 8) (ag (af 9) (ag (af 11) ah)))))) bK))));exact aw (iH 1 (aH (af 1)))))
abbrev nY:ZF:=top 57
abbrev wK:List Str:=["_law_record_here"]
theorem vS:az wK ["_law_record_here"] (ai nY):=fZ
theorem wy(F:gW K mg "_law_has" nY ["_law_record_here"])(aaG:Cl P w K mg base 1 "_law_table" 2 gw)(aad:Cl P w K mg base 1 "_law_events" 1 cR)(aay:Cl P w K mg base 1 "_law_bounds" 1 fQ):Cl P w K mg base 2 "_law_has" 1 dN:=
 bN F vS rfl λf c A o s H E hr x=>(aw (aH (iJ gM (a6 aaG hr (ag (a6 aad hr (ag (aF (af 0) ao) ah)) (ag (a6 aay hr (ag (af 0) ah)) ah))) ck)))
abbrev iP:ZF:=top 62
abbrev mx:List Str:=["_law_records","_law_some"]
theorem aaX:az mx ["_law_records"] (ai iP):=fZ
theorem uE(F:gW K mg "_law_good" iP ["_law_records"])(aam:Cl P w K mg base 2 "_law_has" 1 dN):Cl P w K mg base 3 "_law_good" 1 eU:=
 bN F aaX rfl λf c A o s H E hr x=>(ar (BR 1 (N':=["_law_record_here"]) (src:=[ZB]) rfl (LcScope.by (N:=mx) (names:=(ai iP).names) rfl rfl rfl (by decide+kernel)) (cj (af 0)) (λ_ _ _ _ _=>⟨(aq 0 (show Pp (["_law_record_here"]:List Str)by decide+kernel)),(vn (dA (a6 aam hr (ag (af 0) ah)))),(af 0)⟩) aaX.nd) (aw (aH (nQ (ba (pU (i5 hr)) (af 1) (eF ah)) (aF (af 1) (mS ao)) ck))))
theorem EJ{j1 j2 j3 j4 j5 j6 j7 j8:Nat}{p2 p3 p4 p5 p6 p7 p8 p9:Pos}:QE X (.List [(.Constant (.int 0) j1 p1),(.Constant (.int 0) j2 p2),(.Constant (.int 0) j3 p3),(.Constant (.int 0) j4 p4),(.Constant (.int 1) j5 p5),(.Constant (.int 2) j6 p6),(.Constant (.int 3) j7 p7),(.Constant (.int 4) j8 p8)] p9) (de (ae (cn (.int 0)) (ae (cn (.int 0)) (ae (cn (.int 0)) (ae (cn (.int 0)) (ae (cn (.int 1)) (ae (cn (.int 2)) (ae (cn (.int 3)) (ae (cn (.int 4)) aj))))))))):=by
 refine @eF X _ _ _ ?_
 refine @ag X _ _ _ _ ?_ ?_ rfl
 ·exact ao
 refine @ag X _ _ _ _ ?_ ?_ rfl
 ·exact ao
 refine @ag X _ _ _ _ ?_ ?_ rfl
 ·exact ao
 refine @ag X _ _ _ _ ?_ ?_ rfl
 ·exact ao
 refine @ag X _ _ _ _ ?_ ?_ rfl
 ·exact ao
 refine @ag X _ _ _ _ ?_ ?_ rfl
 ·exact ao
 refine @ag X _ _ _ _ ?_ ?_ rfl
 ·exact ao
 refine @ag X _ _ _ _ ?_ ?_ rfl
 ·exact ao
 exact ah
abbrev tO:ZF:=top 63
abbrev yw:List Str:=["_law_script","_law_first","_law_sketch","_law_rows","_law_at","_law_k","_law_here","_law_record_here","_law_ask","_law_letter_here","_law_readings","_law_some","_law_there","_law_due","_law_new_here"]
theorem aa8:az yw ["_law_script"] (ai tO):=fZ
theorem JC(ab4:Fn K mg "law" tO ["_law_script"] f fd)(aaz:Cl P w K mg base 4 "_law_record" 3 fP)(aaC:Cs_ P w K mg base 10 "_law_new" 1 cQ)(aae:Cl P w K mg base 3 "_law_letter" 3 bP)(lf:Ml P w K mg base 1 "Sketch" "counts" bU)(ii:Ml P w K mg base 1 "Sketch" "record" aW)(li:Ml P w K mg base 12 "Sketch" "good" cS)(aa0:Cl P w K mg base 2 "_law_drawn" 3 aE)(aaN:Cl P w K mg base 7 "_law_next" 3 cH)(aaO:Ce P w K mg base 14 "_law_told" 3 0 bH)(aaP:Cl P w K mg base 3 "_law_good" 1 eU)(aam:Cl P w K mg base 2 "_law_has" 1 dN)(B:Bl mg)(cr:b8 K mg):E5 P w K mg base 15 f fd ["_law_script"] 1 m_law:=
 tI ab4.fn aa8 rfl λc A o s H E hr x=>(by(apply ar;exact(aI (a6 aaz hr (ag (af 0) (ag ao (ag ao ah)))) (aq 1 aa8.nd));apply ar;exact(AE 2 aa8.nd aaC hr (ag (af 1) ah));apply ar;exact(aI (eF (ag (aO (ag fF (ag (af 1) ah))) ah)) (aq 3 aa8.nd));apply ar;exact(aI ao (aq 4 aa8.nd));apply ar;exact(cF rfl (dF B.b_range (ag (cx (EI rfl) B.b_max boot_max (ag ao (ag (cx (Kw rfl) B.b_min boot_min (ag ao (ag (cx cp B.b_len Py (ag (af 0) ah)) ah))) ah))) ah)) (aq 5 aa8.nd) (by(apply ar;exact(aI (ax aL ao (ax dh ao (af 5))) (aq 6 aa8.nd));apply ar;exact(aI (aF (aF (af 3) (af 4)) ao) (aq 7 aa8.nd));apply ar;exact(aI (aF EJ (a6 aa0 hr (ag (af 0) (ag (af 6) (ag ao ah))))) (aq 8 aa8.nd));apply ar;exact(aI (a6 aae hr (ag (af 0) (ag (ax aL (af 6) ao) (ag (aF (af 7) ao) ah)))) (aq 9 aa8.nd));apply ar;exact(aI (aF (aF (aF (af 7) ao) ao) ao) (aq 10 aa8.nd));apply ar;exact(aI (aO (ag (af 9) (ag (ax cY (a6 aa0 hr (ag (af 0) (ag (ax aL (af 6) ao) (ag ao ah)))) ao) (ag (ax cY (ax aL (aF (af 10) (mS ao)) (a6 aa0 hr (ag (af 0) (ag (ax aL (af 6) ao) (ag ao ah))))) ao) ah)))) (aq 11 aa8.nd));apply ar;exact(cg (ba LL (af 8) ao) (by(apply ar;exact(aI (nQ (ba (jm (i5 hr)) (af 8) ao) (ax cY (af 4) ao) (ax aL (af 4) ao)) (aq 12 aa8.nd));apply ar;exact(aI (nQ (mR pV lj ao (af 12) (cx cp B.b_len Py (ag (af 3) ah))) (aF (aF (af 3) (cx (EI rfl) B.b_max boot_max (ag (af 4) (ag (af 12) ah)))) ao) (aO (ag fF (ag ao ah)))) (aq 13 aa8.nd));exact aw (aI (nQ (mR pV lj ao (af 12) (cx cp B.b_len Py (ag (af 3) ah))) (af 12) (af 4)) (aq 4 aa8.nd)))) (by(apply ar;exact(aI (a6 aaN hr (ag (af 7) (ag (af 8) (ag (af 11) ah)))) (aq 14 aa8.nd));apply ar;exact(aI (af 14) (aq 13 aa8.nd));exact aw (cg (ba (pU (i5 hr)) (aF (af 14) ao) fF) (by(apply ar;exact(aI (a6 aam hr (ag (af 14) ah)) (aq 13 aa8.nd));apply ar;exact(aI (ax aL (dv (af 3) dq (dm (ax aL (af 4) ao))) (eF (ag (aO (ag (aF (eF (ag fF (ag fF (ag fF ah)))) (af 8)) (ag (af 14) ah))) ah))) (aq 3 aa8.nd));exact aw (aI (ax aL (af 4) ao) (aq 4 aa8.nd)))) bK))));apply ar;exact(Fm (Fh (pU (i5 hr)) (Ie 2 aaO hr (ag (af 8) (ag (af 11) ah))) (af 13)) (aw (aH kZ)) bK);apply ar;exact(cg (ba (pU (i5 hr)) (gj 2 (kD cr.k lf hr (af 2))) (aO (ag (af 4) (ag (ax cY (ax cY (cx cp B.b_len Py (ag (af 3) ah)) ao) (af 4)) ah)))) (aw (aH kZ)) bK);apply ar;exact(cg (ba (pU (i5 hr)) (gj 2 (kD cr.k ii hr (af 2))) (aF (aF (af 3) (af 4)) ao)) (aw (aH kZ)) bK);exact aw (cg (ba (pU (i5 hr)) (gj 2 (kD cr.k li hr (af 2))) (a6 aaP hr (ag (je (N':=["_law_row"]) (src:=[ZB]) rfl (LcScope.by (N:=yw) (names:=(ai tO).names) rfl rfl rfl (by decide+kernel)) (cj (dv (af 3) dq (dm (ax aL (af 4) ao)))) (λ_ _ _ _ _=>⟨(aq 0 (show Pp (["_law_row"]:List Str)by decide+kernel)),dt,(aF (af 0) ao)⟩)) ah))) (aw (aH kZ)) bK))));exact aw (aH (iJ (jm (i5 hr)) (je (N':=["_law_bad"]) (src:=[ZB]) rfl (LcScope.by (N:=yw) (names:=(ai tO).names) rfl rfl rfl (by decide+kernel)) (cj (aO (ag (dv (af 1) dq (dm ao)) (ag (aO (ag (aF (af 1) ao) (ag ck ah))) (ag ck ah))))) (λ_ _ _ _ _=>⟨(aq 0 (show Pp (["_law_bad"]:List Str)by decide+kernel)),dt,(a6 aaC.cl hr (ag (af 0) ah))⟩)) (ax dh (eF (ag (aO (ag fF (ag ao ah))) ah)) ao)))))
end
@[elab_as_elim] theorem dB {α:Type} {p:List α->Prop} (h:∀a0,p [a0]):∀us:List α,us.length=1->p us
 |[a0],_=>h a0
@[elab_as_elim] theorem fY {α:Type} {p:List α->Prop} (h:∀a0 a1,p [a0,a1]):∀us:List α,us.length=2->p us
 |[a0,a1],_=>h a0 a1
@[elab_as_elim] theorem jo {α:Type} {p:List α->Prop} (h:∀a0 a1 a2,p [a0,a1,a2]):∀us:List α,us.length=3->p us
 |[a0,a1,a2],_=>h a0 a1 a2
def all_ok{l:PySem.W.OpenLaw}{h:ZH}{fa:ZE}(X:K.In h)(e0:Dd asks K=Cc asks top)(G:h.Ns OJ mg)(hfa:mg "law" =ZA (.ref fa)):
  ∃fd:OG,(∀(s:NV)(v:NS),Sj s fd ⟨[v],[]⟩ [("_law_script",v)])/\∀base:ZH,K.In base->base.Ns OJ mg->FnOk l.prog w K mg base CX0 15 fa fd ["_law_script"] (spP K 1 m_law):=by
 have e:yu ES K=xW ES top:=congrArg (·.1) e0
 obtain⟨kc0,ka0,km0⟩:=Mo (A:=⟨"Sketch",47,["past","ahead"],[("__init__","Sketch.__init__",0),("counts","Sketch.counts",9),("record","Sketch.record",1),("good","Sketch.good",6),("back","Sketch.back",7),("forth","Sketch.forth",8),("go_on","Sketch.go_on",2),("write","Sketch.write",3),("read","Sketch.read",4),("cut","Sketch.cut",5)]⟩) X G (ny 0 (congrArg (·.2) e0) rfl)
 have cr:b8 K mg:=⟨kc0,ka0 _ (by decide),ka0 _ (by decide)⟩
 have B:Bl mg:=⟨fJ 0 X G e rfl,fJ 1 X G e rfl,fJ 2 X G e rfl,fJ 3 X G e rfl,fJ 4 X G e rfl,fJ 5 X G e rfl,fJ 6 X G e rfl,fJ 7 X G e rfl,fJ 8 X G e rfl,fJ 9 X G e rfl,fJ 10 X G e rfl,fJ 11 X G e rfl,fJ 12 X G e rfl⟩
 have C:Cs mg:=⟨sS 0 X G e rfl,sS 1 X G e rfl,sS 2 X G e rfl,sS 3 X G e rfl,sS 4 X G e rfl,sS 5 X G e rfl⟩;obtain⟨bn,ls,xD,xl,nd⟩:=JD (Mi e);obtain⟨ac,ls0,x_NoRecord,rfl,xl0⟩:=nK xl;obtain⟨al,ls1,x_NoNumber,rfl,xl1⟩:=nK xl0;obtain⟨bi,ls2,x_Nothing,rfl,xl2⟩:=nK xl1;cases EU xl2
 have S:Xs K mg ac al bi bn:=⟨SG X G (lM x_NoRecord).1,SG X G (lM x_NoNumber).1,SG X G (lM x_Nothing).1,SG X G (lM xD).1,ox1 x_NoRecord xD,ox1 x_NoNumber xD,ox1 x_Nothing xD,ox0 xD,nd⟩;obtain⟨fd42,ab4,bnd⟩:=Mf (n:="law") (i:=63) (x:="_law_script") 42 X G e rfl hfa λ_ _ _ _ _ _ _=>rfl
 obtain⟨f43,fd43,aa9⟩:=cT (n:="_law_refused") (i:=58) (ps:=["_law_e"]) 43 X G e rfl λ_ _ _ _ _ _=>dB λ_=>rfl
 refine⟨fd42,bnd,λbase _ _=>?_⟩
 have aaK:=uF l.prog w base (cT 0 X G e rfl λ_ _ _ _ _ _=>fY λ_ _=>rfl) B
 have aa0:=rR l.prog w base (cT 1 X G e rfl λ_ _ _ _ _ _=>jo λ_ _ _=>rfl) aaK
 have aad:=qf l.prog w base (cT 2 X G e rfl λ_ _ _ _ _ _=>dB λ_=>rfl) B
 have aae:=qe l.prog w base (cT 3 X G e rfl λ_ _ _ _ _ _=>jo λ_ _ _=>rfl) aad aa0 B
 have aaD:=rS l.prog w base (cT 4 X G e rfl λ_ _ _ _ _ _=>fY λ_ _=>rfl) aa0 B
 have aaz:=qc l.prog w base (cT 5 X G e rfl λ_ _ _ _ _ _=>jo λ_ _ _=>rfl) aa0 aae aaD B
 have aa3:=yr l.prog w base (cT 6 X G e rfl λ_ _ _ _ _ _=>jo λ_ _ _=>rfl) B
 have aaQ:=wm l.prog w base (cT 7 X G e rfl λ_ _ _ _ _ _=>dB λ_=>rfl) B
 have aa2:=uu l.prog w base (cT 8 X G e rfl λ_ _ _ _ _ _=>jo λ_ _ _=>rfl) aaQ
 have aaU:=yq l.prog w base (cT 9 X G e rfl λ_ _ _ _ _ _=>fY λ_ _=>rfl) aa2 C
 have ab2:=Dc l.prog w base (cT 10 X G e rfl λ_ _ _ _ _ _=>dB λ_=>rfl) B
 have aas:=ox l.prog w base (cT 11 X G e rfl λ_ _ _ _ _ _=>dB λ_=>rfl) aa3 ab2 aa2 B C
 have aaR:=wt l.prog w base (cT 12 X G e rfl λ_ _ _ _ _ _=>dB λ_=>rfl) aa3 aaU aas
 have aaE:=rP l.prog w base (cT 13 X G e rfl λ_ _ _ _ _ _=>dB λ_=>rfl) aa3 aaR B C
 have aaB:=wo l.prog w base (cT 14 X G e rfl λ_ _ _ _ _ _=>fY λ_ _=>rfl) aa2 aa3 B
 have aaS:=wq l.prog w base (cT 15 X G e rfl λ_ _ _ _ _ _=>fY λ_ _=>rfl) aa2 C
 have aaL:=uw l.prog w base (cT 16 X G e rfl λ_ _ _ _ _ _=>fY λ_ _=>rfl) aaB aa3 aaS
 have aaw:=pZ l.prog w base (cT 17 X G e rfl λ_ _ _ _ _ _=>fY λ_ _=>rfl) aa3 aaL B C
 have aag:=uv l.prog w base (cT 18 X G e rfl λ_ _ _ _ _ _=>dB λ_=>rfl) aa3 aaE aaw
 have aa1:=pX l.prog w base (cT 19 X G e rfl λ_ _ _ _ _ _=>dB λ_=>rfl) aag S
 have db:=lL l.prog w base (il 0 km0 rfl λ_ _ _ _ _ _=>fY λ_ _=>rfl) aa1 cr
 have aaC:=wu l.prog w base (cT 20 X G e rfl λ_ _ _ _ _ _=>dB λ_=>rfl) db B cr S aa9
 have lf:=m7 l.prog w base (il 1 km0 rfl λ_ _ _ _ _ _=>dB λ_=>rfl) B cr
 have ii:=m6 l.prog w base (il 2 km0 rfl λ_ _ _ _ _ _=>dB λ_=>rfl) cr
 have aaZ:=AY l.prog w base (cT 21 X G e rfl λ_ _ _ _ _ _=>dB λ_=>rfl) aa1 B
 have aaM:=uz l.prog w base (cT 22 X G e rfl λ_ _ _ _ _ _=>jo λ_ _ _=>rfl)
 have ab0:=AX l.prog w base (cT 23 X G e rfl λ_ _ _ _ _ _=>fY λ_ _=>rfl) aaM B
 have aap:=mn l.prog w base (cT 24 X G e rfl λ_ _ _ _ _ _=>fY λ_ _=>rfl) aaZ ab0 B
 have aao:=lK l.prog w base (cT 25 X G e rfl λ_ _ _ _ _ _=>fY λ_ _=>rfl) B
 have aal:=kW l.prog w base (cT 26 X G e rfl λ_ _ _ _ _ _=>dB λ_=>rfl)
 have ab1:=AZ l.prog w base (cT 27 X G e rfl λ_ _ _ _ _ _=>dB λ_=>rfl) aa1 aao aal B
 have ab3:=C8 l.prog w base (cT 28 X G e rfl λ_ _ _ _ _ _=>dB λ_=>rfl) aap ab1
 have aaj:=uB l.prog w base (cT 29 X G e rfl λ_ _ _ _ _ _=>dB λ_=>rfl) ab3
 have li:=qi l.prog w base (il 3 km0 rfl λ_ _ _ _ _ _=>dB λ_=>rfl) aaj B cr
 have aaN:=uD l.prog w base (cT 30 X G e rfl λ_ _ _ _ _ _=>jo λ_ _ _=>rfl) aag B
 have im:=qk l.prog w base (il 4 km0 rfl λ_ _ _ _ _ _=>dB λ_=>rfl) B cr S
 have io:=oB l.prog w base (il 5 km0 rfl λ_ _ _ _ _ _=>dB λ_=>rfl) cr S
 have gt:=oA l.prog w base (il 6 km0 rfl λ_ _ _ _ _ _=>jo λ_ _ _=>rfl) aaj cr
 have aak:=uA l.prog w base (cT 31 X G e rfl λ_ _ _ _ _ _=>dB λ_=>rfl) aa1
 have aax:=pW l.prog w base (cT 32 X G e rfl λ_ _ _ _ _ _=>fY λ_ _=>rfl) aa1 aak
 have jp:=oy l.prog w base (il 7 km0 rfl λ_ _ _ _ _ _=>fY λ_ _=>rfl) gt aax ii cr
 have aaf:=pY l.prog w base (cT 33 X G e rfl λ_ _ _ _ _ _=>fY λ_ _=>rfl) aa2 S
 have aaF:=rO l.prog w base (cT 34 X G e rfl λ_ _ _ _ _ _=>jo λ_ _ _=>rfl) aak
 have aat:=ou l.prog w base (cT 35 X G e rfl λ_ _ _ _ _ _=>jo λ_ _ _=>rfl) aa1 aaf aaF B
 have kt:=qh l.prog w base (il 8 km0 rfl λ_ _ _ _ _ _=>jo λ_ _ _=>rfl) gt aat ii cr
 have aaq:=mm l.prog w base (cT 36 X G e rfl λ_ _ _ _ _ _=>fY λ_ _=>rfl) aa1 aaf B
 have ld:=rV l.prog w base (il 9 km0 rfl λ_ _ _ _ _ _=>fY λ_ _=>rfl) gt aaq ii cr
 have aaO:=uC l.prog w base (cT 37 X G e rfl λ_ _ _ _ _ _=>jo λ_ _ _=>rfl) im io jp kt ld B cr S aa9
 have aaG:=rQ l.prog w base (cT 38 X G e rfl λ_ _ _ _ _ _=>fY λ_ _=>rfl) B
 have aay:=qg l.prog w base (cT 39 X G e rfl λ_ _ _ _ _ _=>dB λ_=>rfl) B
 have aam:=wy l.prog w base (cT 40 X G e rfl λ_ _ _ _ _ _=>dB λ_=>rfl) aaG aad aay
 have aaP:=uE l.prog w base (cT 41 X G e rfl λ_ _ _ _ _ _=>dB λ_=>rfl) aam
 exact(JC l.prog w base ab4 aaz aaC aae lf ii li aa0 aaN aaO aaP aam B cr).h
end G
variable{M:Nat}
namespace Tr
open PySem
abbrev RR(cs ls:List T):T:=.tup [.tup cs,.tup ls]
mutual
def T.pl:T->Bool
 |.scr _=>ZD
 |.dct _ _=>ZD
 |.ob _ _ _=>ZD
 |.tup l=>plS l
 |.lst l=>plS l
 |_=>ZC
def plS:List T->Bool
 |[] =>ZC
 |t::l=>t.pl&&plS l
end
theorem gq:∀{l:List T}{t:T},plS l=ZC->t∈l->t.pl=ZC
 |[],_,_,h=>by cases h
 |u::l,t,h,m=>by
  unfold plS at h;rw[NX]at h;rcases N0.mp m with rfl|m
  ·exact h.1
  ·exact gq h.2 m
mutual
theorem T.M9:∀(t:T),t.pl=ZC->t.nd=ZC
 |.non,_=>rfl
 |.bl _,_=>rfl
 |.int _,_=>rfl
 |.str _,_=>rfl
 |.scr _,h=>by cases h
 |.dct _ _,h=>by cases h
 |.ob _ _ _,h=>by cases h
 |.tup l,h=>by unfold T.pl at h;unfold T.nd;exact plS_nds l h
 |.lst l,h=>by unfold T.pl at h;unfold T.nd;exact plS_nds l h
theorem plS_nds:∀(l:List T),plS l=ZC->nds l=ZC
 |[],_=>rfl
 |t::l,h=>by
  unfold plS at h;rw[NX]at h;unfold nds;rw[T.M9 t h.1,plS_nds l h.2];rfl
end
variable{fe:V5}{h:T->T}
theorem yI:∀(ts:List T)(Z:En),0<Z.length->(∀t∈ts,fe (Z.set 0 (.va t))=.ok (h t))->d7 (gN 0) bT fe ts Z=.ok (ts.map h)
 |[],_,_,_=>rfl
 |t::r,Z,hl,hf=>by
  unfold d7
  have e1:gN 0 t Z=.ok (Z.set 0 (.va t)):=by unfold gN;rw[if_pos hl]
  have ih:=yI r (Z.set 0 (.va t)) (by rw[Pl];exact hl) (λu hu=>by rw[U0];exact hf u (NR _ hu))
  simp only[e1,ay,bT,if_true,hf t NU,ih,NT]
variable{p:T->Bool}
theorem sQ{fc:V6}:∀(ts:List T)(Z:En),0<Z.length->(∀t∈ts,fc (Z.set 0 (.va t))=.ok (p t)/\(p t=ZC->fe (Z.set 0 (.va t))=.ok (h t)))->d7 (gN 0) fc fe ts Z=.ok ((ts.filter p).map h)
 |[],_,_,_=>rfl
 |t::r,Z,hl,hf=>by
  unfold d7
  have e1:gN 0 t Z=.ok (Z.set 0 (.va t)):=by unfold gN;rw[if_pos hl]
  have ih:=sQ r (Z.set 0 (.va t)) (by rw[Pl];exact hl) (λu hu=>by rw[U0];exact hf u (NR _ hu))
  obtain⟨h1,h2⟩:=hf t NU;simp only[e1,ay,h1]
  cases q:p t with
  |true=>simp only[if_true,h2 q,ay,ih,U8,q,NT]
  |false=>simp only[Ue,if_false,ih,U8,q]
theorem ti(p:T->Bool):∀l:List T,rg (l.map λt=>T.bl (p t))=ZA (l.map p)
 |[] =>rfl
 |t::l=>by rw[NT,rg,ti p l];rfl
theorem all_map(p:T->Bool)(l:List T):se [.lst (l.map λt=>T.bl (p t))]=.ok (.bl (l.all p)):=by
 simp only[se,ti,List.all_map]
 rfl
def lW{l:List α}{t:α}(h:l[k]?=ZA t):L2.atI l (k:Int)=ZA t:=by
 have hk:k<l.length:=(N1.mp h).1
 unfold L2.atI L2.ixN;rw[if_pos (by omega),if_pos (by omega),PJ]
 exact h
def aA(h:n<=k)(hk:autoParam (k<=1000) s_):n<=ZI:=by unfold ZI;omega
variable{fi:V3}{g:T->En->Rs En}{k:Bool}{ks:List T}{x:Rs T}
section
variable {f fa fb fc:V5}{fs:V3}{b c:V6}{F G:V4}{Z Z' Z1 Z2:En}{t u r:T}{ts l m:List T}
def DI(h:Z[i]?=ZA (.va t)):vr i Z=.ok t:=by unfold vr;rw[h]
variable{g:T->T->Rs T}
def aK(ha:fa Z=.ok t)(hb:fb Z=.ok u)(hg:g t u=x):o2 g fa fb Z=x:=by unfold o2;rw[ha,hb];exact hg
def GN{g:T->Rs T}(ha:fa Z=.ok t)(hg:g t=x):o1 g fa Z=x:=by unfold o1;rw[ha];exact hg
def Me{vs:List T}(ha:fa Z=.ok (.dct ks vs))(hb:fb Z=.ok u)(hg:g (.dct ks vs) u=x):oD g fa fb Z=x:=by unfold oD;rw[ha];show(fb Z >>= g (.dct ks vs))=_;rw[hb];exact hg
def k_oL(ha:fa Z=.ok (.lst ks))(hb:fb Z=.ok u)(hg:g (.lst ks) u=x):oL g fa fb Z=x:=by unfold oL;rw[ha];show(fb Z >>= g (.lst ks))=_;rw[hb];exact hg
def au(h:f Z=.ok t)(hs:fs Z=.ok ts):ae f fs Z=.ok (t::ts):=by unfold ae;rw[h,hs];rfl
def bf{g:List T->Rs T}(h:fs Z=.ok ts)(hg:g ts=x):cl g fs Z=x:=by unfold cl;rw[h];exact hg
def a7(h:f Z=.ok (.bl k)):tb f Z=.ok k:=by unfold tb;rw[h];rfl
def qM(h:b Z=.ok k):d8 b Z=.ok (!k):=by unfold d8;rw[h];rfl
def HN(h:b Z=.ok ZC):m5 b c Z=.ok ZC:=by unfold m5;rw[h];rfl
variable{x:Rs Bool}
def zY(h:b Z=.ok ZD)(h2:c Z=x):m5 b c Z=x:=by unfold m5;rw[h];exact h2
def J7(h:b Z=.ok ZD):xG b c Z=.ok ZD:=by unfold xG;rw[h];rfl
def DW(h:b Z=.ok ZC)(h2:c Z=x):xG b c Z=x:=by unfold xG;rw[h];exact h2
def J0(h:fa Z=.ok (.bl ZC)):Fb fa fb Z=.ok (.bl ZC):=by unfold Fb;rw[h];rfl
def J1(h:fa Z=.ok (.bl ZD)):Fb fa fb Z=fb Z:=by unfold Fb;rw[h];rfl
def jt{p:Bool}(h:b Z=.ok p):qO b fa fb Z=if p then fa Z else fb Z:=by unfold qO;rw[h];rfl
variable{g:T->En->Rs En}
def bM(h:f Z=.ok t)(hg:g t Z=.ok Z'):b7 f g Z=.ok (.nx Z'):=by unfold b7;rw[h];show(match g t Z with|.ok Z'=>Rs.ok (Fl.nx Z')|_=>.bad)=_;rw[hg]
def aD(h:F Z=.ok (.nx Z')):aB F G Z=G Z':=by unfold aB;rw[h];rfl
def ik(h:F Z=.ok (.rt t)):aB F G Z=.ok (.rt t):=by unfold aB;rw[h];rfl
def DL(h:F Z=.ok (.ct Z')):aB F G Z=.ok (.ct Z'):=by unfold aB;rw[h];rfl
def yM{c:Str}(h:F Z=.err c):aB F G Z=.err c:=by unfold aB;rw[h];rfl
def ee(h:b Z=.ok ZC):eX b F G Z=F Z:=by unfold eX;rw[h];rfl
def dC(h:b Z=.ok ZD):eX b F G Z=G Z:=by unfold eX;rw[h];rfl
def cZ(h:f Z=.ok t):aN f Z=.ok (.rt t):=by unfold aN;rw[h];rfl
def JZ{c:Str}(h:f Z=.err c):aN f Z=.err c:=by unfold aN;rw[h];rfl
def r8(h:f Z=.ok t):yf f Z=.ok (.nx Z):=by unfold yf;rw[h];rfl
def DU{c:Str}(h:f Z=.err c):yf f Z=.err c:=by unfold yf;rw[h];rfl
def fq{x:Fl}(h:fi Z=.ok ts)(h2:bo g F ts Z=.ok x):fA fi g F Z=.ok x:=by unfold fA;rw[h];show(match bo g F ts Z with|.ok f=>Rs.ok f|_=>.bad)=_;rw[h2]
def dz(h:g t Z=.ok Z1)(h2:F Z1=.ok (.nx Z2)):bo g F (t::ts) Z=bo g F ts Z2:=by rw[bo,h];show(F Z1 >>= _)=_;rw[h2];rfl
def GS(h:g t Z=.ok Z1)(h2:F Z1=.ok (.ct Z2)):bo g F (t::ts) Z=bo g F ts Z2:=by rw[bo,h];show(F Z1 >>= _)=_;rw[h2];rfl
def z9(h:g t Z=.ok Z1)(h2:F Z1=.ok (.rt r)):bo g F (t::ts) Z=.ok (.rt r):=by rw[bo,h];show(F Z1 >>= _)=_;rw[h2];rfl
def DH(h:c Z=.ok ZD):bY c F (n+1) Z=.ok (.nx Z):=by unfold bY;rw[h]
def w9(h:c Z=.ok ZC)(h2:F Z=.ok (.nx Z')):bY c F (n+1) Z=bY c F n Z':=by rw[bY,h];simp only[h2]
def DG(h:c Z=.ok ZC)(h2:F Z=.ok (.rt t)):bY c F (n+1) Z=.ok (.rt t):=by rw[bY,h];simp only[h2]
def cC{m:Nat}(hl:ts.length=n)(h:F (aR m ts)=.ok (.rt t)):val n m F ts=.ok t:=by unfold val;rw[if_pos hl];unfold bV;rw[h];rfl
def lR{m:Nat}{c:Str}(hl:ts.length=n)(h:F (aR m ts)=.err c):val n m F ts=.err c:=by unfold val;rw[if_pos hl];unfold bV;rw[h];rfl
def DJ{m:Nat}(hl:ts.length=n)(h:F (aR m ts)=.ok (.nx Z)):val n m F ts=.ok .non:=by unfold val;rw[if_pos hl];unfold bV;rw[h];rfl
def xb{src:List (Option Nat)}(hi:fi Z=.ok ts)(hs:ts.length<=ZI)(hn:0<src.length)(hf:∀t∈ts,fe ((b6 src Z).set 0 (.va t))=.ok (h t)):
  gC fi src (gN 0) bT fe Z=.ok (.lst (ts.map h)):=by
 have e:=yI (fe:=fe) (h:=h) ts (b6 src Z) (by unfold b6;rw[NW];exact hn) hf
 unfold gC;rw[hi,ay,if_pos hs,e]
def HQ{src:List (Option Nat)}{fc:V6}(hi:fi Z=.ok ts)(hs:ts.length<=ZI)(hn:0<src.length)
  (hf:∀t∈ts,fc ((b6 src Z).set 0 (.va t))=.ok (p t)/\(p t=ZC->fe ((b6 src Z).set 0 (.va t))=.ok (h t))):gC fi src (gN 0) fc fe Z=.ok (.lst ((ts.filter p).map h)):=by
 have e:=sQ (fc:=fc) (fe:=fe) (p:=p) (h:=h) ts (b6 src Z) (by unfold b6;rw[NW];exact hn) hf
 unfold gC;rw[hi,ay,if_pos hs,e]
def bc(h:fs Z=.ok ts)(hl:ts.length<=ZI):aP fs Z=.ok (.tup ts):=by unfold aP;rw[h];show lz ts=_;unfold lz;rw[if_pos hl]
def gn(h:fs Z=.ok ts)(hl:ts.length<=ZI):de fs Z=.ok (.lst ts):=by unfold de;rw[h];show lA ts=_;unfold lA;rw[if_pos hl]
def DN{f:V3}(h:f Z=.ok l)(hi:i<Z.length)(hl:l.length<=1000):jK i f Z=.ok (.nx (Z.set i (.ow (.lst l)))):=by
 unfold jK;rw[h,ay,if_pos ⟨hi,aA hl (by omega)⟩]
def yN(hi:i<Z.length):jK i aj Z=.ok (.nx (Z.set i (.ow (.lst [])))):=DN rfl hi (P9 _)
def qN(h:f Z=.ok t)(hi:Z[i]?=ZA (.ow (.lst l)))(hl:l.length<=1000):jw i f Z=.ok (.nx (Z.set i (.ow (.lst (l++[t]))))):=by
 unfold jw;rw[hi];simp only[h,ay];rw[if_pos (by unfold ZI;omega)]
def DT(h:f Z=.ok (.lst m))(hi:Z[i]?=ZA (.ow (.lst l)))(hl:l.length+m.length<=1000):pP i f Z=.ok (.nx (Z.set i (.ow (.lst (l++m))))):=by
 unfold pP;rw[hi];simp only[h,ay,Kh];rw[if_pos (by unfold ZI;omega)]
def k_iS(h:f Z=.ok (.tup l)):iS f Z=.ok l:=by unfold iS;rw[h];rfl
def xc(h:f Z=.ok (.lst l)):iS f Z=.ok l:=by unfold iS;rw[h];rfl
def Mh(h:fs Z=.ok [.lst l]):iE fs Z=.ok (cM 0 l):=by unfold iE;rw[h];rfl
def HR(e:l[n]?=ZA t):aQ (.tup l) (.int (n:Int))=.ok t:=by show(match L2.atI l _ with|some t=>Rs.ok t|none=>.bad)=_;rw[lW e]
def J5(e:l[n]?=ZA t):aQ (.lst l) (.int (n:Int))=.ok t:=by show(match L2.atI l _ with|some t=>Rs.ok t|none=>.bad)=_;rw[lW e]
def iG(h:fa Z=.ok (.tup l))(h2:fb Z=.ok (.int (n:Int)))(e:l[n]?=ZA t):o2 aQ fa fb Z=.ok t:=aK h h2 (HR e)
def Aa(h:fa Z=.ok (.lst l))(h2:fb Z=.ok (.int (n:Int)))(e:l[n]?=ZA t):o2 aQ fa fb Z=.ok t:=aK h h2 (J5 e)
def JY{fl fu:En->Rs (Option Int)}(h:fe Z=.ok (.tup l))(h1:fl Z=.ok lo)(h2:fu Z=.ok hi):sl fe fl fu Z=.ok (.tup (nG l lo hi)):=by
 unfold sl;rw[h,h1,h2];rfl
def DK{fl fu:En->Rs (Option Int)}(h:fe Z=.ok (.lst l))(h1:fl Z=.ok lo)(h2:fu Z=.ok hi):sl fe fl fu Z=.ok (.lst (nG l lo hi)):=by
 unfold sl;rw[h,h1,h2];rfl
def Bd{i:Int}(h:f Z=.ok (.int i)):pS f Z=.ok (ZA i):=by unfold pS;rw[h];rfl
def qX(l:List T)(n:Nat):nG l ZB (ZA (n:Int))=l.take n:=by
 unfold nG;rw[HT.sIx_none,HT.sIx_nat,List.drop_zero,Td,List.take_eq_take_iff];omega
def xy(l:List T)(n:Nat):nG l (ZA (n:Int)) ZB=l.drop n:=by
 unfold nG;rw[HT.sIx_none,HT.sIx_nat]
 by_cases h:n<=l.length
 ·rw[Vv h]
  exact Rw (by rw[PZ];omega)
 ·rw[U9 (by omega),Rv (Ob _),Rv (by omega),List.take_nil]
def yP{o:OT}(hi:Z[i]?=ZA (.ow o))(h:f (disown i Z)=.ok t)(hk:t.nk o.isD=ZC):ln i f Z=.ok t:=by
 unfold ln;rw[hi];simp only[h,ay,hk,if_true]
def DQ(h:b (disown i Z)=.ok k):Fc i b Z=.ok k:=h
def DV{x:Rs Fl}(h:F (disown i Z)=x):oq i F Z=x:=h
end
def mk2(a b:T):lz [a,b]=.ok (.tup [a,b]):=by unfold lz;rw[if_pos (aA (k:=1000) (by simp only[NZ,Tb];omega))]
def mi(n:Nat):(rng 0 n).length=n:=by unfold rng;rw[NW,Qz];omega
variable{h:Str->Rs T}{sls:List Sl}
section
variable {Z Z':En}{f fa fo:V5}{fs:V3}{t u:T}{ts l:List T}{x:En->Rs (T×En)}{c m n a:Str}{ns:List Str}{ls:List (List T)}{F G:En->Rs Fx}{o:OT}{g:List Sl->Rs (T×OT)}{d:Str}
def DP{gm:List T->Rs T}{r:Rs T}(h:fo Z=.ok (.ob c ns ts))(hm:ns.contains m=ZD)(hs:fs Z=.ok l)(hg:gm (.ob c ns ts::l)=r):r6 c m gm fo fs Z=r:=by
 unfold r6;rw[h];show(if _ then _ else _)=_;rw[if_pos ⟨rfl,hm⟩,hs];exact hg
def n8(h:fa Z=.ok (.ob c ns ts))(hg:kj a ns ts=ZA t):o1 (kY c a) fa Z=.ok t:=GN h (by show(if _ then _ else _)=_;rw[if_pos rfl,hg])
def GK(h:f Z=.ok t):xP f Z=.ok (t,Z):=by unfold xP;rw[h];rfl
def Mc(h:f Z=.err d):xP f Z=.err d:=by unfold xP;rw[h];rfl
def yL(hi:Z[i]?=ZA (.ow (.ob c ns ls)))(hf:kj a ns ls=ZA l)(h:fa Z=.ok t)(hl:l.length<=1000):vq i c a fa Z=.ok (.non,Z.set i (.ow (.ob c ns (jx a (l++[t]) ns ls)))):=by
 unfold vq;rw[hi];show(if _ then _ else _)=_;rw[if_pos rfl,hf];show(fa Z >>= _)=_;rw[h];show(if _ then _ else _)=_;rw[if_pos (by unfold ZI;omega)]
def DE(hi:Z[i]?=ZA (.ow (.ob c ns ls)))(hf:kj a ns ls=ZA (l++[t])):xS i c a Z=.ok (t,Z.set i (.ow (.ob c ns (jx a l ns ls)))):=by
 unfold xS;rw[hi];show(if _ then _ else _)=_;rw[if_pos rfl,hf];simp
def DD{r:Rs (T×OT)}(h:r=.ok (t,o)):BY i Z r=.ok (t,Z.set i (.ow o)):=by rw[h];rfl
def kK(hi:Z[i]?=ZA (.ow (.ob c ns ls)))(hm:ns.contains m=ZD)(hs:fs Z=.ok ts)(h:g (.ow (.ob c ns ls)::ts.map Sl.va)=.ok (t,o)):cX i c m g fs Z=.ok (t,Z.set i (.ow o)):=by
 unfold cX;rw[hi];show(if _ then _ else _)=_;rw[if_pos ⟨rfl,hm⟩,hs];exact DD h
def jX(hi:Z[i]?=ZA (.ow (.ob c ns ls)))(hm:ns.contains m=ZD)(hs:fs Z=.ok ts)(h:g (.ow (.ob c ns ls)::ts.map Sl.va)=.err d):cX i c m g fs Z=.err d:=by
 unfold cX;rw[hi];show(if _ then _ else _)=_;rw[if_pos ⟨rfl,hm⟩,hs];show BY i Z _=_;rw[h];rfl
def DF(hi:Z[i]?=ZA (.ow (.ob c ns ls)))(hm:ns.contains m=ZD)(hs:fs Z=.err d):cX i c m g fs Z=.err d:=by
 unfold cX;rw[hi];show(if _ then _ else _)=_;rw[if_pos ⟨rfl,hm⟩,hs];rfl
def JX(hi:Z[i]?=ZA (.ow o))(hs:fs Z=.ok ts){o':OT}(h:g (.ow o::ts.map Sl.va)=.ok (t,o')):xT i g fs Z=.ok (t,Z.set i (.ow o')):=by
 unfold xT;rw[hi];show(fs Z >>= _)=_;rw[hs];exact DD h
def ip{k:Fx}(h:F Z=.ok (.nx Z'))(h2:G Z'=.ok k):jU F G Z=.ok k:=by unfold jU;rw[h];show JH (G Z')=_;rw[h2];rfl
def uW(h:F Z=.err d):jU F G Z=.err d:=by unfold jU;rw[h]
def z8(h:x Z=.ok (t,Z')):Dq x Z=.ok (.nx Z'):=by unfold Dq;rw[h];rfl
def J4(h:x Z=.err d):Dq x Z=.err d:=by unfold Dq;rw[h];rfl
def i0(h:x Z=.ok (t,Z')):ij x Z=.ok (.rt t Z'):=by unfold ij;rw[h];rfl
def kM(h:x Z=.err d):ij x Z=.err d:=by unfold ij;rw[h];rfl
def HP(h:x Z=.ok (t,Z'))(hl:i<Z'.length):JP i x Z=.ok (.nx (Z'.set i (.va t))):=by unfold JP;rw[h];show(if _ then _ else _)=_;rw[if_pos hl]
def zZ{b:V6}(h:b Z=.ok k):JO b F G Z=if k then F Z else G Z:=by unfold JO;rw[h];rfl
def yO(hi:Z[i]?=ZA (.ow (.ob c ns ls)))(hs:fs Z=.ok l)(hl:l.length<=1000)(hn:ns.length<1000):wX i c a fs Z=.ok (.nx (Z.set i (.ow (if ns.contains a then .ob c ns (jx a l ns ls)else .ob c (ns++[a]) (ls++[l]))))):=by
 unfold wX;rw[hi];show(fs Z >>= _)=_;rw[hs];show(if _ then _ else _)=_;rw[if_pos ⟨rfl,by unfold ZI;omega,hn⟩]
def J3{k:Fx}(e:F Z=.ok k):wW F h Z=.ok k:=by unfold wW;rw[e]
def GQ(e:F Z=.err d)(e2:h d=.ok t):wW F h Z=.ok (.rt t Z):=by unfold wW;rw[e];simp only[e2]
def jY(hl:sls.length=N)(h:F (fI M sls)=.ok (.rt t Z))(hj:Z[j]?=ZA (.ow o)):hZ N j M F sls=.ok (t,o):=by unfold hZ;rw[if_pos hl,h];show rN j (.rt t Z)=_;unfold rN;simp only[hj]
def GL(hl:sls.length=N)(h:F (fI M sls)=.ok (.nx Z))(hj:Z[j]?=ZA (.ow o)):hZ N j M F sls=.ok (.non,o):=by unfold hZ;rw[if_pos hl,h];show rN j (.nx Z)=_;unfold rN;simp only[hj]
def kL(hl:sls.length=N)(h:F (fI M sls)=.err d):hZ N j M F sls=.err d:=by unfold hZ;rw[if_pos hl,h];rfl
def Md{r:T->T->Rs T}{v:T}(h:x Z=.ok (t,Z'))(h2:f Z'=.ok u)(hr:r t u=.ok v):Ft r x f Z=.ok (v,Z'):=by unfold Ft;rw[h];show(JH (f Z' >>= _) >>= _)=_;rw[h2];show(JH (r t u) >>= _)=_;rw[hr];rfl
def Ma(h:x Z=.ok (.bl b,Z')):Il x Z=.ok (b,Z'):=by unfold Il;rw[h];rfl
def Mg{y:En->Rs (Bool×En)}{A B:V4}(h:y Z=.ok (b,Z')):ye y A B Z=if b then A Z' else B Z':=by unfold ye;rw[h];rfl
end
end Tr
variable{s:Int}{w:List Nat}
namespace Gr
variable {ν:Type}[DecidableEq ν]
abbrev cu(ν:Type):=List (ν×ν×Int)
inductive Wk (L:cu ν):ν->ν->Int->Prop
 |nil (a:ν):Wk L a a 0
 |step {a b c:ν} {m s:Int}:(a,b,m)∈L->Wk L b c s->Wk L a c (m+s)
def Wk.one{L:cu ν}{a b:ν}(h:(a,b,m)∈L):Wk L a b m:=by
 have:=Wk.step h (Wk.nil (L:=L) b)
 rwa [Int.add_zero]at this
def Wk.app{L:cu ν}{a b c:ν}{t:Int}(h:Wk L a b s)(k:Wk L b c t):Wk L a c (s+t):=by
 induction h with
 |nil a=>rwa [Int.zero_add]
 |step e _ ih=>rw[Int.add_assoc];exact .step e (ih k)
def Holds(L:cu ν)(t:ν->Int):Prop:=∀a b m,(a,b,m)∈L->t b - t a<=m
def Holds.walk{L:cu ν}{t:ν->Int}(h:Holds L t){a b:ν}(w:Wk L a b s):t b - t a<=s:=by
 induction w with
 |nil a=>omega
 |step e _ ih=>have:=h _ _ _ e;omega
def oh(L:cu ν):Prop:=∀a s,Wk L a a s->0<=s
def Holds.NF{L:cu ν}{t:ν->Int}(h:Holds L t):oh L:=λa s w=>by have:=h.walk w;omega
def Ch(L:cu ν):ν->List Nat->ν->Prop
 |a,[],b=>a=b
 |a,k::r,b=>∃c m,L[k]?=ZA (a,c,m)/\Ch L c r b
def most(L:cu ν)(k:Nat):Int:=match L[k]? with
 |some x=>x.2.2
 |none=>0
def fB(L:cu ν):List Nat->Int
 |[] =>0
 |k::r=>most L k+fB L r
theorem mK(L:cu ν):∀(p q:List Nat),fB L (p++q)=fB L p+fB L q
 |[],q=>by simp[fB]
 |k::p,q=>by rw[SS,fB,fB,mK L p q];omega
theorem Ch.wk{L:cu ν}:∀{ks:List Nat}{a b:ν},Ch L a ks b->Wk L a b (fB L ks)
 |[],a,b,h=>by cases h;exact .nil a
 |k::r,a,b,⟨c,m,e,h⟩=>by
  have:fB L (k::r)=m+fB L r:=by rw[fB,most,e]
  rw[this];exact .step (Ot e) h.wk
theorem Ch.app{L:cu ν}:∀{p q:List Nat}{a b c:ν},Ch L a p b->Ch L b q c->Ch L a (p++q) c
 |[],q,a,b,c,h,k=>by cases h;exact k
 |x::p,q,a,b,c,⟨d,m,e,h⟩,k=>⟨d,m,e,Ch.app h k⟩
theorem Ch.lt{L:cu ν}:∀{ks:List Nat}{a b:ν},Ch L a ks b->∀k∈ks,k<L.length
 |[],_,_,_,k,hk=>by simp at hk
 |x::r,a,b,⟨c,m,e,h⟩,k,hk=>by
  rcases N0.mp hk with rfl|hk
  ·exact(N1.mp e).1
  ·exact h.lt k hk
def Ch.snoc{L:cu ν}{p:List Nat}{a b c:ν}(h:Ch L a p b)(e:L[k]?=ZA (b,c,m)):Ch L a (p++[k]) c:=h.app ⟨c,m,e,rfl⟩
def src(L:cu ν)(k:Nat):Option ν:=(L[k]?).map (·.1)
abbrev cO(ν:Type):=ν->Option (Int×List Nat)
def put(b:cO ν)(v:ν)(x:Int×List Nat):cO ν:=λu=>if u=v then ZA x else b u
def fg{b:cO ν}{v:ν}:put b v x v=ZA x:=by unfold put;rw[if_pos rfl]
def lG{b:cO ν}{u v:ν}(h:u≠v):put b v x u=b u:=by unfold put;rw[if_neg h]
def fz(L:cu ν)(ks:List Nat):List ν:=ks.filterMap (src L)
def fw(b:cO ν)(v:ν)(d:Int):Bool:=match b v with
 |none=>ZC
 |some x=>decide (d<x.1)
noncomputable def iF(L:cu ν)(b:cO ν)(k:Nat)(x:ν×ν×Int):Sum (Option (cO ν)) (List Nat):=match b x.1 with
 |none=>.inl ZB
 |some (d,w)=>if fw b x.2.1 (d+x.2.2)=ZC then
   if x.2.1∈fz L (w++[k])then .inr ((w++[k]).drop ((fz L (w++[k])).idxOf x.2.1))else .inl (ZA (put b x.2.1 (d+x.2.2,w++[k])))
  else .inl ZB
noncomputable def jf(L:cu ν):Nat->cu ν->cO ν->Bool->Sum (cO ν×Bool) (List Nat)
 |_,[],b,mv=>.inl (b,mv)
 |k,x::r,b,mv=>match iF L b k x with
  |.inr q=>.inr q
  |.inl ZB=>jf L (k+1) r b mv
  |.inl (ZA b')=>jf L (k+1) r b' ZC
noncomputable def settle(L:cu ν):Nat->cO ν->Option (Sum (cO ν) (List Nat))
 |0,_=>ZB
 |n+1,b=>match jf L 0 L b ZD with
  |.inr q=>ZA (.inr q)
  |.inl (b',ZC)=>settle L n b'
  |.inl (b',ZD)=>ZA (.inl b')
def uk(L:cu ν)(p q:List Nat):fz L (p++q)=fz L p++fz L q:=by unfold fz;rw[List.filterMap_append]
def uj{L:cu ν}{x:ν×ν×Int}(e:L[k]?=ZA x):fz L [k]=[x.1]:=by unfold fz src;simp[e]
def Ch.KM{L:cu ν}{r:List Nat}{a b:ν}(h:Ch L a (k::r) b):fz L (k::r)=a::fz L r:=by
 obtain⟨c,m,e,_⟩:=h;rw[show k::r=[k] ++r from rfl,uk,uj e];rfl
theorem Ch.cut{L:cu ν}{v:ν}:∀{ks:List Nat}{a b:ν},Ch L a ks b->v∈fz L ks->Ch L a (ks.take ((fz L ks).idxOf v)) v/\Ch L v (ks.drop ((fz L ks).idxOf v)) b/\(fz L ks).idxOf v<ks.length
 |[],a,b,_,hv=>by simp[fz]at hv
 |k::r,a,b,h,hv=>by
  rw[h.KM]at hv ⊢
  have h0:=h;obtain⟨c,m,e,h⟩:=h
  by_cases z:a=v
  ·subst z
   rw[List.idxOf_cons_self];exact⟨rfl,h0,by simp⟩
  ·have hv':v∈fz L r:=by
    rcases N0.mp hv with q|q
    ·exact absurd q.symm z
    ·exact q
   obtain⟨h1,h2,h3⟩:=h.cut hv'
   have ei:(a::fz L r).idxOf v=(fz L r).idxOf v+1:=by
    rw[Vw]
    have:(a == v)=ZD:=by rw[beq_eq_false_iff_ne];exact z
    rw[this];rfl
   rw[ei];exact⟨⟨c,m,e,h1⟩,h2,by simpa using h3⟩
structure Kept (L:cu ν)(S:List ν)(b:cO ν):Prop where
 walk:∀v d w,b v=ZA (d,w)->∃s∈S,Ch L s w v/\fB L w=d/\v∉fz L w/\(fz L w).Nodup/\∀p q u,w=p++q->Ch L s p u->∃d' w',b u=ZA (d',w')/\d'<=fB L p
 start:∀s∈S,∃d w,b s=ZA (d,w)/\d<=0
theorem Kept.put{L:cu ν}{S:List ν}{b:cO ν}(K:Kept L S b){a c:ν}(e:L[k]?=ZA (a,c,m))(ha:b a=ZA (d,w))(hb:fw b c (d+m)=ZC)(hn:c∉fz L (w++[k])):
  Kept L S (put b c (d+m,w++[k])):=by
 have low:∀u d' w',b u=ZA (d',w')->∃d'' w'',Gr.put b c (d+m,w++[k]) u=ZA (d'',w'')/\d''<=d':=λu d' w' h=>by
  by_cases z:u=c
  ·subst z
   refine⟨_,_,fg,?_⟩
   unfold fw at hb;rw[h]at hb
   have:=of_decide_eq_true hb;omega
  ·exact⟨d',w',by rw[lG z];exact h,P2 _⟩
 obtain⟨s,hs,h1,h2,h3,h4,h5⟩:=K.walk a d w ha
 have hch:Ch L s (w++[k]) c:=h1.snoc e
 have hcost:fB L (w++[k])=d+m:=by rw[mK,h2,fB,fB,most,e];simp
 refine⟨λv d' w' h=>?_,λs' hs'=>?_⟩
 ·by_cases z:v=c
  ·subst z
   rw[fg]at h;cases h;refine⟨s,hs,hch,hcost,hn,?_,λp q u hpq hp=>?_⟩
   ·rw[uk,uj e]
    exact OW.mpr ⟨h4,by simp,λx hx y hy=>by simp at hy;subst hy;exact λz=>h3 (z▸hx)⟩
   ·by_cases hq:q=[]
    ·subst hq
     rw[Ou]at hpq;subst hpq
     have:u=v:=by
      clear low hb hn h5
      have aux:∀{ks:List Nat}{x y z:ν},Ch L x ks y->Ch L x ks z->y=z:=by
       intro ks
       induction ks with
       |nil=>intro x y z h1 h2;cases h1;cases h2;rfl
       |cons k r ih=>
        rintro x y z ⟨c1,m1,e1,r1⟩ ⟨c2,m2,e2,r2⟩
        rw[e1]at e2;cases e2;exact ih r1 r2
      exact aux hp hch
     subst this;exact⟨_,_,fg,by rw[hcost];exact P2 _⟩
    ·have hw:∃q',w=p++q':=by
      refine⟨q.dropLast,?_⟩
      have:=congrArg List.dropLast hpq;rw[List.dropLast_concat,List.dropLast_append_of_ne_nil hq]at this;exact this
     obtain⟨q',hw⟩:=hw;obtain⟨d1,w1,e1,l1⟩:=h5 p q' u hw hp;obtain⟨d2,w2,e2,l2⟩:=low u d1 w1 e1;exact⟨d2,w2,e2,by omega⟩
  ·rw[lG z]at h
   obtain⟨s',hs',g1,g2,g3,g4,g5⟩:=K.walk v d' w' h;refine⟨s',hs',g1,g2,g3,g4,λp q u hpq hp=>?_⟩
   obtain⟨d1,w1,e1,l1⟩:=g5 p q u hpq hp;obtain⟨d2,w2,e2,l2⟩:=low u d1 w1 e1;exact⟨d2,w2,e2,by omega⟩
 ·obtain⟨d1,w1,e1,l1⟩:=K.start s' hs'
  obtain⟨d2,w2,e2,l2⟩:=low s' d1 w1 e1;exact⟨d2,w2,e2,by omega⟩
def Bar(L:cu ν)(q:List Nat):Prop:=q≠ []/\(∃a,Ch L a q a)/\fB L q<0/\(fz L q).Nodup
theorem Ch.Nl{L:cu ν}:∀{ks:List Nat}{a b:ν}(i:Nat),Ch L a ks b->fz L (ks.drop i)=(fz L ks).drop i
 |[],_,_,i,_=>by simp[fz]
 |k::r,a,b,0,_=>rfl
 |k::r,a,b,i+1,h=>by
  have:=h;obtain⟨c,m,e,h'⟩:=this;rw[h.KM,T5,T5,h'.Nl i]
def Kept.round{L:cu ν}{S:List ν}{b:cO ν}(K:Kept L S b){a c:ν}(e:L[k]?=ZA (a,c,m))(ha:b a=ZA (d,w))(hb:fw b c (d+m)=ZC)(hn:c∈fz L (w++[k])):
  Bar L ((w++[k]).drop ((fz L (w++[k])).idxOf c)):=by
 obtain⟨s,hs,h1,h2,h3,h4,h5⟩:=K.walk a d w ha
 have hch:Ch L s (w++[k]) c:=h1.snoc e
 have hcost:fB L (w++[k])=d+m:=by rw[mK,h2,fB,fB,most,e];simp
 obtain⟨c1,c2,c3⟩:=hch.cut hn
 generalize hi:(fz L (w++[k])).idxOf c=i at c1 c2 c3
 refine⟨λz=>?_,⟨c,c2⟩,?_,?_⟩
 ·have:=congrArg Pb z
  rw[PZ]at this
  simp at this c3
  omega
 ·have hsum:fB L ((w++[k]).take i)+fB L ((w++[k]).drop i)=d+m:=by rw[<-mK,Tg,hcost]
  have hiw:i<=w.length:=by simp at c3;omega
  have ht:(w++[k]).take i=w.take i:=by rw[List.take_append_of_le_length hiw]
  rw[ht]at c1 hsum;obtain⟨d1,w1,e1,l1⟩:=h5 (w.take i) (w.drop i) c (Tg i w).symm c1;unfold fw at hb;rw[e1]at hb
  have:=of_decide_eq_true hb;simp only at this;omega
 ·rw[hch.Nl,uk,uj e]
  refine(List.drop_sublist _ _).nodup (OW.mpr ⟨h4,by simp,λx hx y hy=>?_⟩)
  rw[Oa.mp hy];exact λz=>h3 (by have z:x=a:=z;rw[<-z];exact hx)
def size(L:cu ν):Nat:=(L.map λx=>x.2.2.natAbs).sum
theorem k9{f:Nat->Nat}:∀{ks rs:List Nat},ks.Nodup->(∀k∈ks,k∈rs)->(ks.map f).sum<=(rs.map f).sum
 |[],rs,_,_=>by simp
 |k::ks,rs,hn,hs=>by
  have hk:k∈rs:=hs k NU;rw[On]at hn
  have hp:=List.perm_cons_erase hk
  have e:(rs.map f).sum=f k+((rs.erase k).map f).sum:=by
   have:=(hp.map f).sum_nat
   rwa [NT,P5]at this
  rw[e,NT,P5]
  have:=k9 (f:=f) hn.2 (rs:=rs.erase k) λj hj=>by
   have h1:=hs j (NR _ hj);exact(TJ (λ(z:j=k)=>hn.1 (z▸hj))).mpr h1
  omega
def x8(L:cu ν):size L=((O7 L.length).map λk=>(most L k).natAbs).sum:=by
 unfold size
 congr 1
 apply List.ext_getElem
 ·simp
 ·intro i h1 h2
  simp only[SR,List.getElem_range];unfold most;rw[N6 (by simpa using h1)]
theorem Ao(L:cu ν):∀(ks:List Nat),(fB L ks).natAbs<=(ks.map λk=>(most L k).natAbs).sum
 |[] =>by simp[fB]
 |k::r=>by
  have:=Ao L r;rw[fB,NT,P5];omega
theorem Ch.nodup{L:cu ν}:∀{ks:List Nat}{a b:ν},Ch L a ks b->(fz L ks).Nodup->ks.Nodup
 |[],_,_,_,_=>Qt
 |k::r,a,b,h,hn=>by
  have h0:=h;rw[h.KM,On]at hn;obtain⟨c,m,e,h⟩:=h;rw[On];refine⟨λhk=>hn.1 ?_,h.nodup hn.2⟩
  unfold fz src;exact Se.mpr ⟨k,hk,by rw[e];rfl⟩
def Ch.small{L:cu ν}{a b:ν}(h:Ch L a ks b)(hn:(fz L ks).Nodup):(fB L ks).natAbs<=size L:=by
 rw[x8];exact O4 (Ao L ks) (k9 (h.nodup hn) λk hk=>Pv.mpr (h.lt k hk))
def val(M:Nat)(b:cO ν)(v:ν):Nat:=match b v with
 |none=>2*M+1
 |some x=>(x.1+M).toNat
def left(M:Nat)(b:cO ν)(L:cu ν):Nat:=(L.map λx=>val M b x.2.1).sum
theorem zQ{b b':cO ν}:∀{L:cu ν},(∀x∈L,val M b' x.2.1<=val M b x.2.1)->left M b' L<=left M b L
 |[],_=>by simp[left]
 |x::L,h=>by
  have h1:=h x NU
  have h2:=zQ (L:=L) λy hy=>h y (NR _ hy)
  unfold left at h2 ⊢;rw[NT,P5,NT,P5];omega
theorem zP{b b':cO ν}{x:ν×ν×Int}:∀{L:cu ν},x∈L->(∀x∈L,val M b' x.2.1<=val M b x.2.1)->val M b' x.2.1<val M b x.2.1->left M b' L<left M b L
 |[],hx,_,_=>by simp at hx
 |y::L,hx,h,hl=>by
  have h1:=h y NU
  have h2:=zQ (L:=L) λy hy=>h y (NR _ hy)
  unfold left at h2 ⊢;rw[NT,P5,NT,P5];rcases N0.mp hx with rfl|hx
  ·omega
  ·have h3:=zP (L:=L) hx (λy hy=>h y (NR _ hy)) hl
   unfold left at h3;omega
def Du{L:cu ν}{S:List ν}{b:cO ν}(K:Kept L S b){a c:ν}(e:L[k]?=ZA (a,c,m))(ha:b a=ZA (d,w))(hb:fw b c (d+m)=ZC)(hn:c∉fz L (w++[k])):
  left (size L) (put b c (d+m,w++[k])) L<left (size L) b L:=by
 have K':=K.put e ha hb hn;obtain⟨s,hs,h1,h2,h3,h4,h5⟩:=K'.walk c (d+m) (w++[k]) fg
 have sm:=h1.small h4;rw[h2]at sm
 have lt:val (size L) (put b c (d+m,w++[k])) c<val (size L) b c:=by
  unfold val fw at*;rw[fg]
  cases z:b c with
  |none=>simp only;omega
  |some y=>
   rw[z]at hb
   have hb:=of_decide_eq_true hb;simp only;omega
 refine zP (x:=(a,c,m)) (Ot e) (λy _=>?_) lt
 by_cases z:y.2.1=c
 ·rw[z];exact Rh lt
 ·unfold val;rw[lG z];exact Ob _
def EW(b:cO ν)(x:ν×ν×Int):Prop:=∀d w,b x.1=ZA (d,w)->∃d' w',b x.2.1=ZA (d',w')/\d'<=d+x.2.2
def Cp{b:cO ν}{x:ν×ν×Int}(h:∀d w,b x.1=ZA (d,w)->fw b x.2.1 (d+x.2.2)=ZD):EW b x:=λd w e=>by
 have:=h d w e;unfold fw at this
 cases z:b x.2.1 with
 |none=>rw[z]at this;cases this
 |some y=>
  rw[z]at this
  have:=of_decide_eq_false this;exact⟨y.1,y.2,rfl,by omega⟩
theorem jB{L:cu ν}{S:List ν}:∀(r:cu ν)(k:Nat)(b:cO ν)(mv:Bool),L.drop k=r->Kept L S b->match jf L k r b mv with
  |.inr q=>Bar L q
  |.inl (b',mv')=>Kept L S b'/\(mv'=ZD->mv=ZD/\b'=b/\∀x∈r,EW b x)/\left (size L) b' L<=left (size L) b L/\(mv'=ZC->mv=ZC\/left (size L) b' L<left (size L) b L)
 |[],k,b,mv,_,K=>⟨K,λh=>⟨h,rfl,λx hx=>by simp at hx⟩,Ob _,λh=>.inl h⟩
 |x::r,k,b,mv,hr,K=>by
  have e:L[k]?=ZA x:=by
   have:=congrArg (·[0]?) hr
   simpa using this
  have hr':L.drop (k+1)=r:=by
   have:=congrArg (List.drop 1) hr
   simpa [List.drop_drop,UU]using this
  rw[jf];obtain⟨a,c,m⟩:=x;unfold iF
  cases z:b a with
  |none=>
   simp only[z]
   have ih:=jB r (k+1) b mv hr' K
   revert ih
   generalize jf L (k+1) r b mv=R
   cases R with
   |inr q=>exact id
   |inl p=>
    obtain⟨b',mv'⟩:=p
    rintro ⟨i1,i2,i3,i4⟩
    refine⟨i1,λh=>?_,i3,i4⟩
    obtain⟨j1,j2,j3⟩:=i2 h;refine⟨j1,j2,λx hx=>?_⟩
    rcases N0.mp hx with rfl|hx
    ·intro d w q;rw[z]at q;cases q
    ·exact j3 x hx
  |some y=>
   obtain⟨d,w⟩:=y;simp only[z]
   by_cases hb:fw b c (d+m)=ZC
   ·rw[if_pos hb]
    by_cases hn:c∈fz L (w++[k])
    ·rw[if_pos hn]
     exact K.round e z hb hn
    ·rw[if_neg hn]
     have K':=K.put e z hb hn
     have lt:=Du K e z hb hn
     have ih:=jB r (k+1) (put b c (d+m,w++[k])) ZC hr' K'
     revert ih
     simp only
     generalize jf L (k+1) r (put b c (d+m,w++[k])) ZC=R
     cases R with
     |inr q=>exact id
     |inl p=>
      obtain⟨b',mv'⟩:=p
      rintro ⟨i1,i2,i3,i4⟩
      refine⟨i1,λh=>?_,by omega,λ_=>.inr (by omega)⟩
      obtain⟨j1,_⟩:=i2 h;cases j1
   ·rw[if_neg hb]
    have ih:=jB r (k+1) b mv hr' K
    revert ih
    simp only
    generalize jf L (k+1) r b mv=R
    cases R with
    |inr q=>exact id
    |inl p=>
     obtain⟨b',mv'⟩:=p
     rintro ⟨i1,i2,i3,i4⟩
     refine⟨i1,λh=>?_,i3,i4⟩
     obtain⟨j1,j2,j3⟩:=i2 h;refine⟨j1,j2,λx hx=>?_⟩
     rcases N0.mp hx with rfl|hx
     ·refine Cp λd' w' q=>?_
      simp only at q;rw[z]at q;cases q
      simpa using hb
     ·exact j3 x hx
structure Settled (L:cu ν)(S:List ν)(b:cO ν):Prop where
 walk:∀v d w,b v=ZA (d,w)->∃s∈S,Ch L s w v/\fB L w=d/\v∉fz L w/\(fz L w).Nodup
 least:∀s∈S,∀v t,Wk L s v t->∃d w,b v=ZA (d,w)/\d<=t
def x9{L:cu ν}{S:List ν}{b:cO ν}(K:Kept L S b)(h:∀x∈L,EW b x):Settled L S b where
 walk:=λv d w e=>by
  obtain⟨s,h1,h2,h3,h4,h5,_⟩:=K.walk v d w e;exact⟨s,h1,h2,h3,h4,h5⟩
 least:=by
  have go:∀{u v:ν}{t:Int},Wk L u v t->∀d w,b u=ZA (d,w)->∃d' w',b v=ZA (d',w')/\d'<=d+t:=by
   intro u v t hw
   induction hw with
   |nil a=>exact λd w e=>⟨d,w,e,by omega⟩
   |step e _ ih=>
    intro d w q;obtain⟨d1,w1,e1,l1⟩:=h _ e d w q;obtain⟨d2,w2,e2,l2⟩:=ih d1 w1 e1;exact⟨d2,w2,e2,by simp only at l1;omega⟩
  intro s hs v t hw;obtain⟨d,w,e,l⟩:=K.start s hs;obtain⟨d2,w2,e2,l2⟩:=go hw d w e;exact⟨d2,w2,e2,by omega⟩
theorem sr{L:cu ν}{S:List ν}:∀(n:Nat)(b:cO ν),Kept L S b->left (size L) b L<n->∃r,settle L n b=ZA r/\match r with
  |.inr q=>Bar L q
  |.inl b'=>Settled L S b'
 |0,b,K,h=>by omega
 |n+1,b,K,h=>by
  have s:=jB (S:=S) L 0 b ZD rfl K;rw[settle]
  revert s
  generalize jf L 0 L b ZD=R
  cases R with
  |inr q=>exact λs=>⟨_,rfl,s⟩
  |inl p=>
   obtain⟨b',mv'⟩:=p
   rintro ⟨i1,i2,i3,i4⟩
   cases mv' with
   |false=>
    obtain⟨_,j2,j3⟩:=i2 rfl;subst j2
    exact⟨_,rfl,x9 i1 j3⟩
   |true=>
    rcases i4 rfl with z|z
    ·cases z
    ·exact sr n b' i1 (by omega)
def start(S:List ν):cO ν:=λv=>if v∈S then ZA (0,[])else ZB
def qK(L:cu ν)(S:List ν):Kept L S (start S) where
 walk:=λv d w e=>by
  unfold start at e
  split at e
  ·rename_i h
   cases e;refine⟨v,h,rfl,rfl,by simp[fz],by simp[fz],λp q u hpq hp=>?_⟩
   obtain⟨rfl,rfl⟩:=List.append_eq_nil_iff.mp hpq.symm;cases hp;exact⟨0,[],by unfold start;rw[if_pos h],by simp[fB]⟩
  ·cases e
 start:=λs hs=>⟨0,[],by unfold start;rw[if_pos hs],P2 _⟩
def Dv(L:cu ν)(S:List ν):left (size L) (start S) L<=L.length*(2*size L+1):=by
 unfold left
 have:∀M:cu ν,(M.map λx=>val (size L) (start S) x.2.1).sum<=M.length*(2*size L+1):=by
  intro M
  induction M with
  |nil=>simp
  |cons x M ih=>
   rw[NT,P5,NZ,Nat.succ_mul]
   have:val (size L) (start S) x.2.1<=2*size L+1:=by
    unfold val start;split
    ·exact Ob _
    ·rename_i h
     split at h
     ·cases h;simp;omega
     ·cases h
   omega
 exact this L
theorem ya(L:cu ν)(S:List ν)(h:L.length*(2*size L+1)<n):∃r,settle L n (start S)=ZA r/\match r with
  |.inr q=>Bar L q
  |.inl b'=>Settled L S b':=sr n (start S) (qK L S) (Ul (Dv L S) h)
def Bar.neg{L:cu ν}{q:List Nat}(h:Bar L q):¬ oh L:=λn=>by
 obtain⟨_,⟨a,ha⟩,hc,_⟩:=h
 have:=n a _ ha.wk;omega
def Settled.holds{L:cu ν}{S:List ν}{b:cO ν}(h:Settled L S b)(hS:∀x∈L,x.1∈S/\x.2.1∈S){t:ν->Int}(ht:∀v∈S,∃w,b v=ZA (t v,w)):Holds L t:=λa c m hx=>by
 obtain⟨ha,hc⟩:=hS _ hx;obtain⟨w,e⟩:=ht a ha;obtain⟨s,hs,h1,h2,_⟩:=h.walk a _ _ e;obtain⟨d,w',e',l⟩:=h.least s hs c _ (h1.wk.app (.one hx));obtain⟨w2,e2⟩:=ht c hc;rw[e2]at e';cases e';omega
inductive Pth (L:cu ν):ν->List ν->ν->Int->Prop
 |one {a b:ν} {m:Int}:(a,b,m)∈L->Pth L a [] b m
 |cons {a x b:ν} {ms:List ν} {m s:Int}:(a,x,m)∈L->Pth L x ms b s->Pth L a (x::ms) b (m+s)
theorem Pth.cut{L:cu ν}{x:ν}{q:List ν}:∀{p:List ν}{a b:ν}{s:Int},Pth L a (p++x::q) b s->∃s1 s2,Pth L a p x s1/\Pth L x q b s2/\s=s1+s2
 |[],a,b,s,h=>by
  cases h with
  |cons e h=>exact⟨_,_,.one e,h,rfl⟩
 |y::p,a,b,s,h=>by
  cases h with
  |cons e h=>
   obtain⟨s1,s2,h1,h2,h3⟩:=Pth.cut h;exact⟨_,s2,.cons e h1,h2,by omega⟩
def KI(L:cu ν)(u v:ν)(s:Int):Prop:=(u=v/\s=0)\/(u≠v/\∃ms,Pth L u ms v s/\ms.Nodup/\u∉ms/\v∉ms)
def EY(L:cu ν):Prop:=∃x ms s,Pth L x ms x s/\ms.Nodup/\x∉ms/\s<0
def Wk.simple{L:cu ν}{u v:ν}(w:Wk L u v s):EY L\/∃s',s'<=s/\KI L u v s':=by
 induction w with
 |nil a=>exact .inr ⟨0,P2 _,.inl ⟨rfl,rfl⟩⟩
 |@step a b c m s e w ih=>
  rcases ih with ih|⟨s',hs,ih⟩
  ·exact .inl ih
  by_cases hab:a=b
  ·subst hab
   by_cases hm:m<0
   ·exact .inl ⟨a,[],m,.one e,Qt,by simp,hm⟩
   ·exact .inr ⟨s',by omega,ih⟩
  rcases ih with⟨rfl,rfl⟩|⟨hbc,ms,hp,hn,hb,hc⟩
  ·exact .inr ⟨m,by omega,.inr ⟨hab,[],.one e,Qt,by simp,by simp⟩⟩
  by_cases hac:a=c
  ·subst hac
   by_cases hm:m+s'<0
   ·exact .inl ⟨a,b::ms,m+s',.cons e hp,On.mpr ⟨hb,hn⟩,by simp[hab,hc],hm⟩
   ·exact .inr ⟨0,by omega,.inl ⟨rfl,rfl⟩⟩
  by_cases ham:a∈ms
  ·obtain⟨p,q,rfl⟩:=Um ham
   obtain⟨s1,s2,h1,h2,h3⟩:=hp.cut;rw[OW]at hn;obtain⟨n1,n2,n3⟩:=hn;rw[On]at n2
   have hap:a∉p:=λz=>n3 a z a NU rfl
   by_cases hm:m+s1<0
   ·refine .inl ⟨a,b::p,m+s1,.cons e h1,On.mpr ⟨λz=>hb (Oy _ z),n1⟩,by simp[hab,hap],hm⟩
   ·exact .inr ⟨s2,by omega,.inr ⟨hac,q,h2,n2.2,n2.1,λz=>hc (Om _ (NR _ z))⟩⟩
  ·refine .inr ⟨m+s',by omega,.inr ⟨hac,b::ms,.cons e hp,On.mpr ⟨hb,hn⟩,by simp[hab,ham],?_⟩⟩
   simp only[N0,not_or];exact⟨λz=>hbc z.symm,hc⟩
abbrev fK(ν:Type):=ν->ν->Option Int
def kg(f:fK ν)(a b:ν)(x:Int):fK ν:=λu v=>if u=a/\v=b then ZA x else f u v
def oM(f:fK ν)(a b:ν)(x:Int):fK ν:=match f a b with
 |none=>kg f a b x
 |some y=>if x<y then kg f a b x else f
def mC(mid one other:ν)(f:fK ν):fK ν:=match f one mid,f mid other with
 |some x,ZA y=>oM f one other (x+y)
 |_,_=>f
def vF(P:List ν):fK ν:=λu v=>if u∈P/\u=v then ZA 0 else ZB
def Cj(P:List ν)(L:cu ν):fK ν:=L.foldl (λf x=>oM f x.1 x.2.1 x.2.2) (vF P)
def mE(mid one:ν)(P:List ν)(f:fK ν):fK ν:=P.foldl (λf other=>mC mid one other f) f
def qS(mid:ν)(Q P:List ν)(f:fK ν):fK ν:=Q.foldl (λf one=>mE mid one P f) f
def xi(M P:List ν)(f:fK ν):fK ν:=M.foldl (λf mid=>qS mid P P f) f
def table(P:List ν)(L:cu ν):fK ν:=xi P P (Cj P L)
def Le(f g:fK ν):Prop:=∀u v x,g u v=ZA x->∃y,f u v=ZA y/\y<=x
def Le.refl(f:fK ν):Le f f:=λu v x h=>⟨x,h,P2 _⟩
def Le.trans{f g h:fK ν}(a:Le f g)(b:Le g h):Le f h:=λu v x e=>by
 obtain⟨y,e1,l1⟩:=b u v x e;obtain⟨z,e2,l2⟩:=a u v y e1;exact⟨z,e2,by omega⟩
variable{x:Int}
def nE{f:fK ν}{a b:ν}:kg f a b x a b=ZA x:=by unfold kg;rw[if_pos ⟨rfl,rfl⟩]
def uZ(f:fK ν)(a b:ν)(x:Int):Le (oM f a b x) f:=λu v y e=>by
 unfold oM
 cases q:f a b with
 |none=>
  by_cases z:u=a/\v=b
  ·obtain⟨rfl,rfl⟩:=z;rw[q]at e;cases e
  ·exact⟨y,by simp only;unfold kg;rw[if_neg z];exact e,P2 _⟩
 |some y0=>
  simp only;split
  ·by_cases z:u=a/\v=b
   ·obtain⟨rfl,rfl⟩:=z;rw[q]at e;cases e
    exact⟨x,nE,by omega⟩
   ·exact⟨y,by unfold kg;rw[if_neg z];exact e,P2 _⟩
  ·exact⟨y,e,P2 _⟩
def Ai(f:fK ν)(a b:ν)(x:Int):∃y,oM f a b x a b=ZA y/\y<=x:=by
 unfold oM
 cases q:f a b with
 |none=>exact⟨x,nE,P2 _⟩
 |some y0=>
  simp only;split
  ·exact⟨x,nE,P2 _⟩
  ·exact⟨y0,q,by omega⟩
def qU{L:cu ν}{f:fK ν}{a b:ν}(h:∀u v y,f u v=ZA y->Wk L u v y)(hx:Wk L a b x):∀u v y,oM f a b x u v=ZA y->Wk L u v y:=λu v y e=>by
 have key:kg f a b x u v=ZA y->Wk L u v y:=λe'=>by
  unfold kg at e'
  by_cases z:u=a/\v=b
  ·rw[if_pos z]at e';injection e' with e';rw[z.1,z.2,<-e'];exact hx
  ·rw[if_neg z]at e';exact h u v y e'
 unfold oM at e
 cases q:f a b with
 |none=>rw[q]at e;exact key e
 |some y0=>
  rw[q]at e;simp only at e
  split at e
  ·exact key e
  ·exact h u v y e
def xg(mid one other:ν)(f:fK ν):Le (mC mid one other f) f:=by
 unfold mC;split
 ·exact uZ _ _ _ _
 ·exact Le.refl f
def Eh{mid one other:ν}{f:fK ν}(h1:f one mid=ZA x)(h2:f mid other=ZA y):∃z,mC mid one other f one other=ZA z/\z<=x+y:=by
 unfold mC;rw[h1,h2];exact Ai _ _ _ _
theorem kQ(step:fK ν->α->fK ν)(hs:∀f a,Le (step f a) f):∀(l:List α)(f:fK ν),Le (l.foldl step f) f
 |[],f=>Le.refl f
 |a::l,f=>(kQ step hs l (step f a)).trans (hs f a)
def qR(mid one:ν)(P:List ν)(f:fK ν):Le (mE mid one P f) f:=kQ _ (λf o=>xg mid one o f) P f
def xh(mid:ν)(Q P:List ν)(f:fK ν):Le (qS mid Q P f) f:=kQ _ (λf o=>qR mid o P f) Q f
def Em(M P:List ν)(f:fK ν):Le (xi M P f) f:=kQ _ (λf o=>xh o P P f) M f
theorem o9(step:fK ν->α->fK ν)(hs:∀f a,Le (step f a) f):∀(l:List α)(f:fK ν)(a:α),a∈l->∃g,Le g f/\Le (l.foldl step f) (step g a)
 |[],f,a,h=>by simp at h
 |b::l,f,a,h=>by
  rcases N0.mp h with rfl|h
  ·exact⟨f,Le.refl f,kQ step hs l (step f a)⟩
  ·obtain⟨g,h1,h2⟩:=o9 step hs l (step f b) a h
   exact⟨g,h1.trans (hs f b),h2⟩
def Ek{mid u v:ν}{P:List ν}{f:fK ν}(hu:u∈P)(hv:v∈P)(h1:f u mid=ZA x)(h2:f mid v=ZA y):∃z,qS mid P P f u v=ZA z/\z<=x+y:=by
 obtain⟨g,g1,g2⟩:=o9 (λf one=>mE mid one P f) (λf o=>qR mid o P f) P f u hu
 obtain⟨g',g3,g4⟩:=o9 (λf other=>mC mid u other f) (λf o=>xg mid u o f) P g v hv
 have l:Le g' f:=g3.trans g1;obtain⟨x',e1,l1⟩:=l _ _ _ h1;obtain⟨y',e2,l2⟩:=l _ _ _ h2;obtain⟨z,e3,l3⟩:=Eh e1 e2;obtain⟨z',e4,l4⟩:=(g2.trans g4) _ _ _ e3;exact⟨z',e4,by omega⟩
def Up(L:cu ν)(M:List ν)(f:fK ν):Prop:=∀u v ms s,Pth L u ms v s->ms.Nodup->(∀x∈ms,x∈M)->∃y,f u v=ZA y/\y<=s
def Pth.ends{L:cu ν}{P:List ν}(hL:∀x∈L,x.1∈P/\x.2.1∈P){u v:ν}{ms:List ν}(h:Pth L u ms v s):u∈P/\v∈P/\∀x∈ms,x∈P:=by
 induction h with
 |one e=>exact⟨(hL _ e).1,(hL _ e).2,by simp⟩
 |cons e _ ih=>exact⟨(hL _ e).1,ih.2.1,λx hx=>by
   rcases N0.mp hx with rfl|hx
   ·exact ih.1
   ·exact ih.2.2 x hx⟩
def Up.mid{L:cu ν}{P M:List ν}{f:fK ν}(hL:∀x∈L,x.1∈P/\x.2.1∈P)(h:Up L M f)(k:ν):Up L (k::M) (qS k P P f):=λu v ms s hp hn hm=>by
 by_cases hk:k∈ms
 ·obtain⟨p,q,rfl⟩:=Um hk
  obtain⟨s1,s2,h1,h2,h3⟩:=hp.cut;rw[OW]at hn;obtain⟨n1,n2,n3⟩:=hn;rw[On]at n2
  have hp':∀x∈p,x∈M:=λx hx=>by
   rcases N0.mp (hm x (Oy _ hx))with rfl|z
   ·exact absurd rfl (n3 x hx x NU)
   ·exact z
  have hq':∀x∈q,x∈M:=λx hx=>by
   rcases N0.mp (hm x (Om _ (NR _ hx)))with rfl|z
   ·exact absurd hx n2.1
   ·exact z
  obtain⟨y1,e1,l1⟩:=h u k p s1 h1 n1 hp';obtain⟨y2,e2,l2⟩:=h k v q s2 h2 n2.2 hq';obtain⟨z,e3,l3⟩:=Ek (P:=P) (h1.ends hL).1 (h2.ends hL).2.1 e1 e2;exact⟨z,e3,by omega⟩
 ·obtain⟨y,e,l⟩:=h u v ms s hp hn λx hx=>by
   rcases N0.mp (hm x hx)with rfl|z
   ·exact absurd hx hk
   ·exact z
  obtain⟨z,e2,l2⟩:=xh k P P f u v y e;exact⟨z,e2,by omega⟩
theorem Up.NG{L:cu ν}{P:List ν}(hL:∀x∈L,x.1∈P/\x.2.1∈P):∀(Q M:List ν)(f:fK ν),Up L M f->∃M',(∀x,x∈Q\/x∈M->x∈M')/\Up L M' (xi Q P f)
 |[],M,f,h=>⟨M,λx hx=>hx.elim (λz=>by simp at z) id,h⟩
 |k::Q,M,f,h=>by
  obtain⟨M',h1,h2⟩:=Up.NG hL Q (k::M) (qS k P P f) (h.mid hL k);refine⟨M',λx hx=>h1 x ?_,h2⟩
  rcases hx with hx|hx
  ·rcases N0.mp hx with rfl|hx
   ·exact .inr NU
   ·exact .inl hx
  ·exact .inr (NR _ hx)
def FA{P:List ν}{L:cu ν}:Up L [] (Cj P L):=λu v ms s hp hn hm=>by
 have:ms=[]:=by
  cases ms with
  |nil=>rfl
  |cons x r=>exact absurd (hm x NU) (by simp)
 subst this
 cases hp with
 |one e=>
  obtain⟨g,h1,h2⟩:=o9 (λ(f:fK ν)(x:ν×ν×Int)=>oM f x.1 x.2.1 x.2.2) (λf x=>uZ f _ _ _) L (vF P) _ e
  obtain⟨y,e1,l1⟩:=Ai g u v s;obtain⟨z,e2,l2⟩:=h2 u v y e1;exact⟨z,e2,by omega⟩
theorem gR{L:cu ν}(step:fK ν->α->fK ν):∀(l:List α)(f:fK ν),(∀f,∀a∈l,(∀u v y,f u v=ZA y->Wk L u v y)->∀u v y,step f a u v=ZA y->Wk L u v y)->(∀u v y,f u v=ZA y->Wk L u v y)->∀u v y,l.foldl step f u v=ZA y->Wk L u v y
 |[],f,_,h=>h
 |a::l,f,hs,h=>gR step l (step f a) (λf b hb=>hs f b (NR _ hb)) (hs f a NU h)
def nS(P:List ν)(L:cu ν):∀u v y,table P L u v=ZA y->Wk L u v y:=by
 unfold table xi;refine gR _ P _ (λf m _ h=>?_) ?_
 ·unfold qS
  refine gR _ P _ (λf o _ h=>?_) h
  unfold mE;refine gR _ P _ (λf v _ h=>?_) h
  unfold mC
  cases e1:f o m with
  |none=>exact h
  |some x=>
   cases e2:f m v with
   |none=>exact h
   |some y=>exact qU h ((h _ _ _ e1).app (h _ _ _ e2))
 ·unfold Cj
  refine gR _ L _ (λf x hx h=>qU h (.one hx)) λu v y e=>?_
  unfold vF at e
  split at e
  ·rename_i z;obtain⟨_,rfl⟩:=z;cases e;exact .nil u
  ·cases e
def vD{P:List ν}{L:cu ν}(hL:∀x∈L,x.1∈P/\x.2.1∈P):∀u v ms s,Pth L u ms v s->ms.Nodup->∃y,table P L u v=ZA y/\y<=s:=λu v ms s hp hn=>by
 obtain⟨M',h1,h2⟩:=Up.NG hL P [] (Cj P L) FA;exact h2 u v ms s hp hn λx hx=>h1 x (.inl ((hp.ends hL).2.2 x hx))
def pA{P:List ν}{L:cu ν}{u:ν}(hu:u∈P):∃y,table P L u u=ZA y/\y<=0:=by
 have h0:vF P u u=ZA 0:=by unfold vF;rw[if_pos ⟨hu,rfl⟩]
 have h1:Le (table P L) (vF P):=(Em P P _).trans (kQ _ (λf x=>uZ f _ _ _) L _)
 exact h1 u u 0 h0
structure Ic (L:cu ν)(P:List ν)(f:fK ν):Prop where
 is:∀u v d,f u v=ZA d->Wk L u v d
 le:∀u∈P,∀v t,Wk L u v t->∃d,f u v=ZA d/\d<=t
def AJ{P:List ν}{L:cu ν}{u:ν}(h:table P L u u=ZA y)(hy:y<0):¬ oh L:=λn=>by
 have:=n u y (nS P L u u y h);omega
def vE{P:List ν}{L:cu ν}(hL:∀x∈L,x.1∈P/\x.2.1∈P)(h:∀u∈P,∀y,table P L u u=ZA y->0<=y):oh L/\Ic L P (table P L):=by
 have nc:¬ EY L:=λ⟨x,ms,s,hp,hn,_,hs⟩=>by
  obtain⟨y,e,l⟩:=vD hL x x ms s hp hn
  have:=h x (hp.ends hL).1 y e;omega
 have le:∀u∈P,∀v t,Wk L u v t->∃d,table P L u v=ZA d/\d<=t:=λu hu v t w=>by
  rcases w.simple with z|⟨s',hs,z⟩
  ·exact absurd z nc
  ·rcases z with⟨rfl,rfl⟩|⟨_,ms,hp,hn,_⟩
   ·obtain⟨y,e,l⟩:=pA (L:=L) hu
    exact⟨y,e,by omega⟩
   ·obtain⟨y,e,l⟩:=vD hL u v ms s' hp hn
    exact⟨y,e,by omega⟩
 refine⟨λa s w=>?_,λu v d e=>nS P L u v d e,le⟩
 by_cases ha:a∈P
 ·obtain⟨d,e,l⟩:=le a ha a s w
  have:=h a ha d e;omega
 ·cases w with
  |nil=>exact P2 _
  |step e _=>exact absurd (hL _ e).1 ha
end Gr
variable{j:Int}
namespace G
open PySem Tr
def isI:T->Bool
 |.int _=>ZC
 |_=>ZD
def GY(t:T)(h:t.pl=ZC):iX [t]=.ok (.bl (isI t)):=by
 cases t <;> first|rfl| (simp[T.pl]at h;done)
def aX(t:T)(a b:Int):Bool:=match t with
 |.int i=>decide (a<=i)&&decide (i<=b)
 |_=>ZD
def ft(t:T)(a b:Int)(h:t.pl=ZC):aY [t,.int a,.int b]=.ok (.bl (aX t a b)):=by
 have w:=GY t h
 cases t with
 |int i=>
  simp[aY,val,bV,kq,aR,aN,dk,vr,ch,cl,ae,aj,xC,aX,w,isI]
  cases decide (a<=i) <;> rfl
 |scr _=>simp[T.pl]at h
 |dct _ _=>simp[T.pl]at h
 |ob _ _ _=>simp[T.pl]at h
 |_=>simp[aY,val,bV,kq,aR,aN,dk,vr,ch,cl,ae,aj,aX,w,isI]
def eK(t:T)(a b:Nat):Bool:=match t with
 |.tup l=>decide (a<=l.length)&&decide (l.length<=b)
 |_=>ZD
def lU(t:T)(a b:Nat)(h:t.pl=ZC):aV [t,.int a,.int b]=.ok (.bl (eK t a b)):=by
 cases t with
 |tup l=>
  simp[aV,val,bV,tF,aR,aN,dk,o1,vr,BI,T.ty,Ac,ch,cl,ae,aj,bX,T.items,xC,eK]
  cases decide (a<=l.length) <;> rfl
 |scr _=>simp[T.pl]at h
 |dct _ _=>simp[T.pl]at h
 |ob _ _ _=>simp[T.pl]at h
 |_=>rfl
def rL(x y:T):Bool:=aX x 1 9&&(match x with
 |.int i=>aX y i 9
 |_=>ZD)
def Kj(x y:T)(hx:x.pl=ZC)(hy:y.pl=ZC):gB [x,y]=.ok (.bl (rL x y)):=by
 have w:=ft x 1 9 hx;unfold rL
 cases q:aX x 1 9 with
 |false=>rw[q]at w;simp[gB,val,bV,nN,aR,aN,dk,vr,cn,cl,ae,aj,w]
 |true=>
  rw[q]at w
  cases x with
  |int i=>simp[gB,val,bV,nN,aR,aN,dk,vr,cn,cl,ae,aj,w,ft y i 9 hy]
  |_=>cases q
def rA:List Int->Bool
 |a::b::r=>decide (a<b)&&rA (b::r)
 |_=>ZC
def Lb(a b:Int)(r:List Int):rA (a::b::r)=(decide (a<b)&&rA (b::r)):=rfl
variable{Z:En}{l:List T}
def vi{fe:V5}{p:T->Bool}{fi:V3}{src:List (Option Nat)}(hi:fi Z=.ok l)(hs:l.length<=ZI)(hn:0<src.length)(hf:∀t∈l,fe ((b6 src Z).set 0 (.va t))=.ok (.bl (p t))):
  cl se (ae (gC fi src (gN 0) bT fe) aj) Z=.ok (.bl (l.all p)):=by
 have e:=yI (fe:=fe) (h:=λt=>T.bl (p t)) l (b6 src Z) (by unfold b6;rw[NW];exact hn) hf
 simp only[cl,ae,aj,gC,hi,ay,if_pos hs,e,all_map]
def nB(l:List T):T->Bool
 |.int k=>match L2.atI l k,L2.atI l (k+1)with
  |some (.int a),ZA (.int b)=>decide (a<b)
  |_,_=>ZD
 |_=>ZD
def ua{t:T}(h:t∈rng 0 j):∃k:Nat,t=.int k/\(k:Int)<j:=by
 unfold rng at h;obtain⟨k,hk,e⟩:=Ov.mp h;rw[Pv]at hk;exact⟨k,by rw[<-e];simp,by omega⟩
theorem IF:(l:List Int)->l.length<=4->(rng 0 ((l.length:Int) - 1)).all (nB (l.map .int))=rA l
 |[],_=>rfl
 |[a],_=>rfl
 |[a,b],_=>by simp[rng,Th,nB,L2.atI,L2.ixN,rA]
 |[a,b,c],_=>by simp[rng,Th,nB,L2.atI,L2.ixN,rA]
 |[a,b,c,d],_=>by simp[rng,Th,nB,L2.atI,L2.ixN,rA,Bool.and_assoc]
 |a::b::c::d::e::r,h=>absurd h (by simp only[NZ];omega)
def G0(l:List Int)(h:l.length<=4):kJ [.tup (l.map .int)]=.ok (.bl (rA l)):=by
 have hr:iR (ae (o2 cv (cl bX (ae (vr 0) aj)) (cn (.int 1))) aj) [.va (.tup (l.map .int))]=.ok (rng 0 ((l.length:Int) - 1)):=by
  have:yS ((l.length:Int) - 1)=ZC:=by unfold yS;rw[NX];exact⟨decide_eq_true (by omega),decide_eq_true (by omega)⟩
  simp[iR,ae,aj,o2,cl,vr,cn,bX,T.items,cv,this]
 have hs:(rng 0 ((l.length:Int) - 1)).length<=ZI:=by
  unfold rng ZI;rw[NW,Qz];omega
 have e:=vi (fe:=o2 nA (o2 aQ (vr 1) (vr 0)) (o2 aQ (vr 1) (o2 aM (vr 0) (cn (.int 1))))) (p:=nB (l.map .int)) (src:=[ZB,ZA 0]) hr hs (by decide) (λt ht=>by
  obtain⟨k,rfl,hk⟩:=ua ht
  have h1:(l.map T.int)[k]?=ZA (.int (l[k]'(by omega))):=by simp
  have h2:(l.map T.int)[k+1]?=ZA (.int (l[k+1]'(by omega))):=by rw[Oj,N6 (by omega)];rfl
  have g1:=lW h1
  have g2:L2.atI (l.map T.int) ((k:Int)+1)=ZA (.int (l[k+1]'(by omega))):=lW h2
  simp[o2,vr,b6,cn,aM,aQ,T.items,g1,g2,xC,nB])
 rw[IF l h]at e;simp only[kJ,val,PR,if_true,AA,bV,aN,aR]
 show(do let f <-(do let t <-cl se _ [.va (.tup (l.map .int))];Rs.ok (Fl.rt t));_)=_
 rw[e]
 rfl
def mr:List T->Option (List Int)
 |[] =>ZA []
 |.int i::l=>match mr l with
  |some m=>ZA (i::m)
  |none=>ZB
 |_::_=>ZB
def dD(t:T):Bool:=eK t 1 4&&(match t with
 |.tup l=>l.all (λu=>aX u 0 99)&&(match mr l with|some m=>rA m|none=>ZD)
 |_=>ZD)
theorem qm:∀{l:List T}{m:List Int},mr l=ZA m->l=m.map .int
 |[],m,h=>by cases h;rfl
 |t::l,m,h=>by
  cases t with
  |int i=>
   unfold mr at h
   cases q:mr l with
   |none=>rw[q]at h;cases h
   |some m'=>rw[q]at h;cases h;rw[NT,<-qm q]
  |_=>cases h
theorem uG:∀{l:List T}{a b:Int},(l.all λu=>aX u a b)=ZC->∃m,mr l=ZA m
 |[],_,_,_=>⟨[],rfl⟩
 |t::l,a,b,h=>by
  rw[List.all_cons,NX]at h
  cases t with
  |int i=>
   obtain⟨m,e⟩:=uG h.2
   exact⟨i::m,by unfold mr;rw[e]⟩
  |_=>exact absurd h.1 (by simp[aX])
def dP{t:T}{b:Nat}(h:eK t a b=ZC):∃l,t=.tup l/\a<=l.length/\l.length<=b:=by
 cases t with
 |tup l=>unfold eK at h;rw[NX]at h;exact⟨l,rfl,of_decide_eq_true h.1,of_decide_eq_true h.2⟩
 |_=>cases h
def small(h:n<=k)(hk:autoParam (k<=1000) s_):n<=ZI:=by unfold ZI;omega
def yW(t:T)(h:t.pl=ZC):bZ [t]=.ok (.bl (dD t)):=by
 have w:aV [t,.int 1,.int 4]=.ok (.bl (eK t 1 4)):=lU t 1 4 h;unfold dD
 cases q:eK t 1 4 with
 |false=>rw[q]at w;simp[bZ,val,bV,fy,aR,aB,eX,d8,tb,sN,aN,cl,vr,cn,ae,aj,w]
 |true=>
  rw[q]at w;obtain⟨l,rfl,h1,h2⟩:=dP q
  have hp:∀u∈l,u.pl=ZC:=λu hu=>gq (by unfold T.pl at h;exact h) hu
  have e:=vi (fe:=cl aY (ae (vr 0) (ae (cn (.int 0)) (ae (cn (.int 99)) aj)))) (p:=λu=>aX u 0 99) (src:=[ZB]) (fi:=iS (vr 0)) (Z:=[.va (.tup l)]) rfl (small h2) (by decide) (λu hu=>by
   simp[cl,ae,aj,vr,cn,b6,ft u 0 99 (hp u hu)])
  have w':cl aV (ae (vr 0) (ae (cn (.int 1)) (ae (cn (.int 4)) aj))) [.va (.tup l)]=.ok (.bl ZC):=w
  show bZ _=.ok (.bl (ZC&&(l.all (λu=>aX u 0 99)&&(match mr l with|some m=>rA m|none=>ZD))))
  cases qa:l.all λu=>aX u 0 99 with
  |false=>
   rw[qa]at e
   simp[bZ,val,bV,fy,aR,aB,eX,d8,tb,sN,aN,dk,e,w']
  |true=>
   rw[qa]at e;obtain⟨m,em⟩:=uG qa
   have el:=qm em
   have er:=G0 m (by rw[el,NW]at h2;exact h2)
   rw[<-el]at er
   have er':cl kJ (ae (vr 0) aj) [.va (.tup l)]=.ok (.bl (rA m)):=er;simp[bZ,val,bV,fy,aR,aB,eX,d8,tb,sN,aN,dk,e,w',er',em]
def at_(t:T)(k:Nat):T:=match t.items with
 |some l=>l.getD k .non
 |none=>.non
def bL(t:T):Bool:=eK t 3 3&&(match t with
 |.tup [x,y,r] =>rL x y&&dD r
 |_=>ZD)
def G5(t:T)(h:t.pl=ZC):dJ [t]=.ok (.bl (bL t)):=by
 have w:aV [t,.int 3,.int 3]=.ok (.bl (eK t 3 3)):=lU t 3 3 h;unfold bL
 cases q:eK t 3 3 with
 |false=>rw[q]at w;simp[dJ,val,bV,i9,aR,aN,dk,cl,vr,cn,ae,aj,w]
 |true=>
  rw[q]at w;obtain⟨l,rfl,h1,h2⟩:=dP q
  match l,h1,h2 with
  |[x,y,r],_,_=>
   simp[T.pl,plS]at h;obtain⟨px,py,pr⟩:=h
   have g0:aQ (.tup [x,y,r]) (.int 0)=.ok x:=rfl
   have g1:aQ (.tup [x,y,r]) (.int 1)=.ok y:=rfl
   have g2:aQ (.tup [x,y,r]) (.int 2)=.ok r:=rfl
   have ep:=Kj x y px py
   have er:=yW r pr
   cases qp:rL x y with
   |false=>rw[qp]at ep;simp[dJ,val,bV,i9,aR,aN,dk,cl,vr,cn,ae,aj,o2,w,g0,g1,ep,qp]
   |true=>rw[qp]at ep;simp[dJ,val,bV,i9,aR,aN,dk,cl,vr,cn,ae,aj,o2,w,g0,g1,g2,ep,er,qp]
def a8(t:T):Bool:=eK t 1 4&&(match t with
 |.tup l=>l.all bL
 |_=>ZD)
def EB(t:T)(h:t.pl=ZC):dX [t]=.ok (.bl (a8 t)):=by
 have w:aV [t,.int 1,.int 4]=.ok (.bl (eK t 1 4)):=lU t 1 4 h;unfold a8
 cases q:eK t 1 4 with
 |false=>rw[q]at w;simp[dX,val,bV,ja,aR,aN,dk,cl,vr,cn,ae,aj,w]
 |true=>
  rw[q]at w;obtain⟨l,rfl,h1,h2⟩:=dP q
  have hp:∀u∈l,u.pl=ZC:=λu hu=>gq (by unfold T.pl at h;exact h) hu
  have e:=vi (fe:=cl dJ (ae (vr 0) aj)) (p:=bL) (src:=[ZB]) (fi:=iS (vr 0)) (Z:=[.va (.tup l)]) rfl (small h2) (by decide) (λu hu=>by
   simp[cl,ae,aj,vr,cn,b6,G5 u (hp u hu)])
  have w':cl aV (ae (vr 0) (ae (cn (.int 1)) (ae (cn (.int 4)) aj))) [.va (.tup l)]=.ok (.bl ZC):=w;simp[dX,val,bV,ja,aR,aN,dk,e,w']
def dY(x y:T):Bool:=aX x 0 999&&(match x,y with
 |_,.non=>ZC
 |.int i,_=>aX y i 999
 |_,_=>ZD)
def G4(x y:T)(hx:x.pl=ZC)(hy:y.pl=ZC):eJ [x,y]=.ok (.bl (dY x y)):=by
 have w:=ft x 0 999 hx;unfold dY
 cases q:aX x 0 999 with
 |false=>rw[q]at w;simp[eJ,val,bV,i8,aR,aN,dk,vr,cn,cl,ae,aj,w]
 |true=>
  rw[q]at w
  cases x with
  |int i=>
   have e:=ft y i 999 hy
   cases y with
   |non=>simp[eJ,val,bV,i8,aR,aN,dk,Fb,vr,cn,cl,ae,aj,o2,kc,T.isN,w]
   |_=>simp[eJ,val,bV,i8,aR,aN,dk,Fb,vr,cn,cl,ae,aj,o2,kc,T.isN,w,e]
  |_=>cases q
noncomputable def reads(cs:List T)(c:Int):Nat:=if 0<=c then(match cs[c.toNat]? with
 |some (.tup [_,_,.tup r])=>r.length
 |_=>0)else 0
noncomputable def bq(cs:List T)(t:T):Bool:=match t with
 |.tup [.int c,.int k] =>decide (0<=c)&&decide (c<cs.length)&&(decide (0<=k)&&decide (k<reads cs c))
 |_=>ZD
def oa{t:T}(h:bL t=ZC):∃x y r,t=.tup [x,y,.tup r]:=by
 unfold bL at h;rw[NX]at h;obtain⟨h1,h2⟩:=h;obtain⟨l,rfl,h3,h4⟩:=dP h1
 match l,h3,h4,h2 with
 |[x,y,r],_,_,h2=>
  simp only[NX]at h2;obtain⟨_,h5⟩:=h2;unfold dD at h5;rw[NX]at h5;obtain⟨m,rfl,_⟩:=dP h5.1;exact⟨x,y,m,rfl⟩
def b9{t:T}{a b:Int}(h:aX t a b=ZC):∃i,t=.int i/\a<=i/\i<=b:=by
 cases t with
 |int i=>unfold aX at h;rw[NX]at h;exact⟨i,rfl,of_decide_eq_true h.1,of_decide_eq_true h.2⟩
 |_=>cases h
def Al(cs:List T)(t:T)(hc:a8 (.tup cs)=ZC)(h:t.pl=ZC):dI [.tup cs,t]=.ok (.bl (bq cs t)):=by
 have w:aV [t,.int 2,.int 2]=.ok (.bl (eK t 2 2)):=lU t 2 2 h
 cases q:eK t 2 2 with
 |false=>
  rw[q]at w
  have:bq cs t=ZD:=by
   unfold bq;split
   ·cases q
   ·rfl
  simp[dI,val,bV,i7,aR,aB,eX,m5,d8,tb,sN,aN,cl,vr,cn,ae,aj,w,this]
 |true=>
  rw[q]at w;obtain⟨l,rfl,h1,h2⟩:=dP q
  match l,h1,h2 with
  |[x,y],_,_=>
   simp[T.pl,plS]at h;obtain⟨px,py⟩:=h
   have g0:aQ (.tup [x,y]) (.int 0)=.ok x:=rfl
   have g1:aQ (.tup [x,y]) (.int 1)=.ok y:=rfl
   have gl:bX [.tup cs]=.ok (.int cs.length):=rfl
   have e1:=ft x 0 ((cs.length:Int) - 1) px
   cases q1:aX x 0 ((cs.length:Int) - 1)with
   |false=>
    rw[q1]at e1
    have:bq cs (.tup [x,y])=ZD:=by
     cases x with
     |int c=>
      cases y with
      |int k=>
       simp only[aX,Ti,decide_eq_false_iff_not]at q1;simp only[bq,Ti,decide_eq_false_iff_not]
       omega
      |_=>rfl
     |_=>rfl
    simp[dI,val,bV,i7,aR,aB,eX,m5,d8,tb,sN,aN,cl,vr,cn,ae,aj,o2,cv,w,g0,gl,e1,this]
   |true=>
    rw[q1]at e1;obtain⟨c,rfl,c1,c2⟩:=b9 q1;obtain⟨n,rfl⟩:=OF c1
    have hn:n<cs.length:=by omega
    have hcl:bL cs[n]=ZC:=by
     unfold a8 at hc;rw[NX]at hc;exact Os.mp hc.2 _ (PB hn)
    obtain⟨a,b,r,er⟩:=oa hcl
    have g2:aQ (.tup cs) (.int (n:Int))=.ok (.tup [a,b,.tup r]):=by
     simp only[aQ,T.items];rw[lW (N6 hn),er]
    have g3:aQ (.tup [a,b,.tup r]) (.int 2)=.ok (.tup r):=rfl
    have gr:bX [.tup r]=.ok (.int r.length):=rfl
    have e2:=ft y 0 ((r.length:Int) - 1) py
    have:bq cs (.tup [.int n,y])=aX y 0 ((r.length:Int) - 1):=by
     have er2:reads cs (n:Int)=r.length:=by
      unfold reads;rw[if_pos c1,PJ,N6 hn,er]
     cases y with
     |int k=>
      simp only[bq,aX,er2];rw[decide_eq_true c1,decide_eq_true (show(n:Int)<cs.length by omega)]
      simp only[Ro]
      congr 1
      exact decide_eq_decide.mpr (by omega)
     |_=>rfl
    simp[dI,val,bV,i7,aR,aB,eX,m5,d8,tb,sN,aN,cl,vr,cn,ae,aj,o2,cv,w,g0,g1,g2,g3,gl,gr,e1,e2,this]
noncomputable def br(cs:List T)(t:T):Bool:=match t with
 |.tup [a,b,x,y] =>dY x y&&(bq cs a&&(bq cs b&& !bj a b))
 |_=>ZD
variable{cs:List T}
def dR{t:T}(h:bq cs t=ZC):∃c k:Int,t=.tup [.int c,.int k]:=by
 unfold bq at h
 split at h
 ·exact⟨_,_,rfl⟩
 ·cases h
def Et(cs:List T)(t:T)(hc:a8 (.tup cs)=ZC)(h:t.pl=ZC):cq [.tup cs,t]=.ok (.bl (br cs t)):=by
 have w:aV [t,.int 4,.int 4]=.ok (.bl (eK t 4 4)):=lU t 4 4 h
 cases q:eK t 4 4 with
 |false=>
  rw[q]at w
  have:br cs t=ZD:=by
   unfold br;split
   ·cases q
   ·rfl
  simp[cq,val,bV,eV,aR,aB,eX,m5,d8,tb,sN,aN,cl,vr,cn,ae,aj,w,this]
 |true=>
  rw[q]at w;obtain⟨l,rfl,h1,h2⟩:=dP q
  match l,h1,h2 with
  |[a,b,x,y],_,_=>
   simp[T.pl,plS]at h;obtain⟨pa,pb,px,py⟩:=h
   have g0:aQ (.tup [a,b,x,y]) (.int 0)=.ok a:=rfl
   have g1:aQ (.tup [a,b,x,y]) (.int 1)=.ok b:=rfl
   have g2:aQ (.tup [a,b,x,y]) (.int 2)=.ok x:=rfl
   have g3:aQ (.tup [a,b,x,y]) (.int 3)=.ok y:=rfl
   have e1:=G4 x y px py
   have e2:=Al cs a hc pa
   have e3:=Al cs b hc pb
   show _=Rs.ok (T.bl (dY x y&&(bq cs a&&(bq cs b&& !bj a b))))
   cases q1:dY x y with
   |false=>
    rw[q1]at e1
    simp[cq,val,bV,eV,aR,aB,eX,m5,d8,tb,sN,aN,cl,vr,cn,ae,aj,o2,w,g2,g3,e1]
   |true=>
    rw[q1]at e1
    cases q2:bq cs a with
    |false=>
     rw[q2]at e2
     simp[cq,val,bV,eV,aR,aB,eX,m5,d8,tb,sN,aN,dk,cl,vr,cn,ae,aj,o2,w,g0,g2,g3,e1,e2]
    |true=>
     rw[q2]at e2
     cases q3:bq cs b with
     |false=>
      rw[q3]at e3
      simp[cq,val,bV,eV,aR,aB,eX,m5,d8,tb,sN,aN,dk,cl,vr,cn,ae,aj,o2,w,g0,g1,g2,g3,e1,e2,e3]
     |true=>
      rw[q3]at e3;obtain⟨c,k,rfl⟩:=dR q2
      have f:gS (.tup [.int c,.int k]) b=ZC:=kh (by simp[T.dep,deps]) rfl (T.M9 _ pb)
      have g4:lu (.tup [.int c,.int k]) b=.ok (.bl (!bj (.tup [.int c,.int k]) b)):=by unfold lu;rw[if_pos f]
      simp[cq,val,bV,eV,aR,aB,eX,m5,d8,tb,sN,aN,dk,cl,vr,cn,ae,aj,o2,w,g0,g1,g2,g3,g4,e1,e2,e3]
def gD(cs:List T)(t:T):Bool:=eK t 0 8&&(match t with
 |.tup l=>l.all (br cs)
 |_=>ZD)
def Bk(cs:List T)(t:T)(hc:a8 (.tup cs)=ZC)(h:t.pl=ZC):dy [.tup cs,t]=.ok (.bl (gD cs t)):=by
 have w:aV [t,.int 0,.int 8]=.ok (.bl (eK t 0 8)):=lU t 0 8 h;unfold gD
 cases q:eK t 0 8 with
 |false=>rw[q]at w;simp[dy,val,bV,iu,aR,aN,dk,cl,vr,cn,ae,aj,w]
 |true=>
  rw[q]at w;obtain⟨l,rfl,h1,h2⟩:=dP q
  have hp:∀u∈l,u.pl=ZC:=λu hu=>gq (by unfold T.pl at h;exact h) hu
  have e:=vi (fe:=cl cq (ae (vr 1) (ae (vr 0) aj))) (p:=br cs) (src:=[ZB,ZA 0]) (fi:=iS (vr 1)) (Z:=[.va (.tup cs),.va (.tup l)]) rfl (small h2) (by decide) (λu hu=>by
   simp[cl,ae,aj,vr,cn,b6,Et cs u hc (hp u hu)])
  have w':cl aV (ae (vr 1) (ae (cn (.int 0)) (ae (cn (.int 8)) aj))) [.va (.tup cs),.va (.tup l)]=.ok (.bl ZC):=w;simp[dy,val,bV,iu,aR,aN,dk,e,w']
def cV(t:T):Bool:=match t with
 |.tup [.tup cs,ls] =>a8 (.tup cs)&&gD cs ls
 |_=>ZD
def mH(t:T)(h:t.pl=ZC):bD [t]=.ok (.bl (cV t)):=by
 have w:aV [t,.int 2,.int 2]=.ok (.bl (eK t 2 2)):=lU t 2 2 h
 cases q:eK t 2 2 with
 |false=>
  rw[q]at w
  have:cV t=ZD:=by
   unfold cV;split
   ·cases q
   ·rfl
  simp[bD,val,bV,hY,aR,aN,dk,cl,vr,cn,ae,aj,w,this]
 |true=>
  rw[q]at w;obtain⟨l,rfl,h1,h2⟩:=dP q
  match l,h1,h2 with
  |[x,y],_,_=>
   simp[T.pl,plS]at h;obtain⟨px,py⟩:=h
   have g0:aQ (.tup [x,y]) (.int 0)=.ok x:=rfl
   have g1:aQ (.tup [x,y]) (.int 1)=.ok y:=rfl
   have e1:=EB x px
   cases q1:a8 x with
   |false=>
    rw[q1]at e1
    have:cV (.tup [x,y])=ZD:=by
     cases x with
     |tup cs=>show(a8 (.tup cs)&&_)=ZD;rw[q1];rfl
     |_=>rfl
    simp[bD,val,bV,hY,aR,aN,dk,cl,vr,cn,ae,aj,o2,w,g0,e1,this]
   |true=>
    rw[q1]at e1
    cases x with
    |tup cs=>
     have e2:=Bk cs y q1 py
     have:cV (.tup [.tup cs,y])=gD cs y:=by show(a8 (.tup cs)&&_)=_;rw[q1];rfl
     simp[bD,val,bV,hY,aR,aN,dk,cl,vr,cn,ae,aj,o2,w,g0,g1,e1,e2,this]
    |_=>cases q1
theorem gE:∀m:List Int,deps (m.map .int)=0
 |[] =>rfl
 |a::m=>by rw[NT,deps,gE m];rfl
def oN(i n:Nat):List T:=(rng 0 n).map λt=>T.tup [.int i,t]
def IH:T->Nat
 |.tup [_,_,.tup r] =>r.length
 |_=>0
def fS:Nat->List T->List T
 |_,[] =>[]
 |i,c::r=>oN i (IH c)++fS (i+1) r
def hW{t:T}(h:bL t=ZC):∃x y r,t=.tup [x,y,.tup r]/\1<=r.length/\r.length<=4:=by
 obtain⟨x,y,r,rfl⟩:=oa h
 have:dD (.tup r)=ZC:=by
  have h':(rL x y&&dD (.tup r))=ZC:=h;rw[NX]at h';exact h'.2
 unfold dD at this;rw[NX]at this;obtain⟨l,e,h1,h2⟩:=dP this.1;cases e;exact⟨x,y,r,rfl,h1,h2⟩
def kl(i n:Nat):(oN i n).length=n:=by unfold oN;rw[NW,mi]
abbrev evG:T->En->Rs En:=gT 2 (gd (gN 2) (gd (gN 3) rB))
def Kc{f:V3}(h:f Z=.ok [.int j])(h0:0<=j)(h1:j<=100000):iR f Z=.ok (rng 0 j):=by
 have e:yS j=ZC:=by unfold yS;rw[NX];exact⟨decide_eq_true (by omega),decide_eq_true (by omega)⟩
 unfold iR;rw[h]
 show(if yS j=ZC then _ else _)=_
 rw[e];rfl
def vj(l m:List T)(h:(l++m).length<=1000):aM (.lst l) (.lst m)=.ok (.lst (l++m)):=by
 show lA (l++m)=_
 unfold lA;rw[if_pos (aA h)]
def gA(l m:List T)(h:(l++m).length<=1000):aM (.tup l) (.tup m)=.ok (.tup (l++m)):=by
 show lz (l++m)=_
 unfold lz;rw[if_pos (aA h)]
def My(c0 acc x y:T)(r:List T)(i:Nat)(h:r.length<=4):
  gC (iR (ae (cl bX (ae (o2 aQ (vr 3) (cn (.int 2))) aj)) aj)) [ZB,ZA 2] (gN 0) bT (aP (ae (vr 1) (ae (vr 0) aj))) [.va c0,.va acc,.va (.int i),.va (.tup [x,y,.tup r])]=.ok (.lst (oN i r.length)):=
 xb (Kc (j:=(r.length:Int)) rfl (by omega) (by omega)) (aA (k:=4) (by rw[mi];exact h)) (by simp) λt _=>mk2 _ _
def GW(c0 x y:T)(acc r:List T)(i:Nat)(h:r.length<=4)(ha:acc.length<=100):evF [.va c0,.va (.lst acc),.va (.int i),.va (.tup [x,y,.tup r])]=.ok (.nx [.va c0,.va (.lst (acc++oN i r.length)),.va (.int i),.va (.tup [x,y,.tup r])]):=
 bM (aK (t:=.lst acc) rfl (My c0 (.lst acc) x y r i h) (vj _ _ (by rw[N3,kl];omega))) rfl
theorem Aj:∀(cs:List T)(c0:T)(acc:List T)(i:Nat)(s2 s3:Sl),(∀c∈cs,bL c=ZC)->acc.length+4*cs.length<=100 →
  ∃y2 y3,bo evG evF (cM i cs) [.va c0,.va (.lst acc),s2,s3]=.ok (.nx [.va c0,.va (.lst (acc++fS i cs)),y2,y3])
 |[],c0,acc,i,s2,s3,_,_=>⟨s2,s3,by simp[cM,bo,fS]⟩
 |c::cs,c0,acc,i,s2,s3,hc,hl=>by
  obtain⟨x,y,r,rfl,r1,r2⟩:=hW (hc c NU);rw[NZ]at hl;obtain⟨z2,z3,ih⟩:=Aj cs c0 (acc++oN i r.length) (i+1) (.va (.int i)) (.va (.tup [x,y,.tup r])) (λc h=>hc c (NR _ h)) (by rw[N3,kl];omega)
  refine⟨z2,z3,?_⟩
  rw[cM,dz (Z1:=[.va c0,.va (.lst acc),.va (.int i),.va (.tup [x,y,.tup r])]) rfl (GW c0 x y acc r i r2 (by omega)),ih,fS,Oz]
  rfl
def bu(hc:a8 (.tup cs)=ZC):(∀c∈cs,bL c=ZC)/\1<=cs.length/\cs.length<=4:=by
 unfold a8 at hc;rw[NX]at hc;obtain⟨l,e,h1,h2⟩:=dP hc.1;cases e;exact⟨λc h=>Os.mp hc.2 c h,h1,h2⟩
def xo(cs:List T)(hc:a8 (.tup cs)=ZC):cR [.tup cs]=.ok (.lst (fS 0 cs)):=by
 obtain⟨ha,h1,h2⟩:=bu hc;obtain⟨y2,y3,e⟩:=Aj cs (.tup cs) [] 0 .em .em ha (by simp;omega)
 rw[PU]at e;refine cC rfl ?_
 unfold lD;rw[aD (Z':=[.va (.tup cs),.va (.lst []),.em,.em]) rfl,aD ((fq (ts:=cM 0 cs) rfl e))]
 rfl
def GF(h:k<n):T.int (k:Int)∈rng 0 (n:Int):=by
 unfold rng;exact Ov.mpr ⟨k,Pv.mpr (by omega),by simp⟩
def sy(cs:List T)(c:Nat):reads cs (c:Int)=IH (cs.getD c .non):=by
 unfold reads;rw[if_pos (by omega),PJ,List.getD_eq_getElem?_getD]
 cases cs[c]? with
 |none=>rfl
 |some t=>
  cases t with
  |tup l=>
   match l with
   |[] =>rfl
   |[_] =>rfl
   |[_,_] =>rfl
   |[_,_,z] =>cases z <;> rfl
   |_::_::z::_::_=>cases z <;> rfl
  |_=>rfl
mutual
def sm(n:Nat):T->Bool
 |.dct _ _=>ZD
 |.ob _ _ _=>ZD
 |.scr _=>ZD
 |.tup l=>decide (l.length<=n)&&sms n l
 |.lst l=>decide (l.length<=n)&&sms n l
 |_=>ZC
def sms(n:Nat):List T->Bool
 |[] =>ZC
 |t::l=>sm n t&&sms n l
end
mutual
theorem zx{n:Nat}:∀(t:T),sm n t=ZC->t.pl=ZC
 |.scr _,h=>by simp[sm]at h
 |.dct _ _,h=>by simp[sm]at h
 |.ob _ _ _,h=>by simp[sm]at h
 |.tup l,h=>by rw[sm,NX]at h;rw[T.pl];exact sms_pl l h.2
 |.lst l,h=>by rw[sm,NX]at h;rw[T.pl];exact sms_pl l h.2
 |.non,_=>by simp[T.pl]
 |.bl _,_=>by simp[T.pl]
 |.int _,_=>by simp[T.pl]
 |.str _,_=>by simp[T.pl]
theorem sms_pl{n:Nat}:∀(l:List T),sms n l=ZC->plS l=ZC
 |[],_=>by simp[plS]
 |t::l,h=>by rw[sms,NX]at h;rw[plS,zx t h.1,sms_pl l h.2];rfl
end
theorem zw:∀{l:List T},sms n l=ZC↔ ∀t∈l,sm n t=ZC
 |[] =>by simp[sms]
 |t::l=>by rw[sms,NX,zw (l:=l)];simp
def sm_tup:sm n (.tup l)=ZC↔l.length<=n/\∀t∈l,sm n t=ZC:=by rw[sm,NX,zw,decide_eq_true_iff]
def lQ{i:Int}(h:0<j):my (.int i) (.int j)=.ok (.int (i % j)):=by show(if _ then _ else _)=_;rw[if_pos h]
def pd{i:Int}(h:0<j)(h2:j<1073741824):mG (.int i) (.int j)=.ok (.int (i / j)):=by show(if _ then _ else _)=_;rw[if_pos ⟨h,h2⟩]
def ly{i:Int}(h : -18446744073709551616<i)(h2:i<18446744073709551616):cf (.int i) (.int j)=.ok (.int (i*j)):=by
 show yA (.int i) (.int j)=_
 show(if _ then _ else _)=_
 rw[if_pos (.inl ⟨by omega,by omega⟩)]
def Dk{i:Int}(h : -18446744073709551616<j)(h2:j<18446744073709551616):cf (.int i) (.int j)=.ok (.int (i*j)):=by
 show yA (.int i) (.int j)=_
 show(if _ then _ else _)=_
 rw[if_pos (.inr ⟨by omega,by omega⟩)]
def Ko(ns:List Int)(k:Nat)(hn:ns.length<=63):∃c,fX [.scr ns,.int k]=.ok (.int c):=by
 have e0:o2 ju (vr 0) (de aj) [.va (.scr ns),.va (.int k)]=.ok (.bl (lC ns [])):=by
  refine aK (t:=.scr ns) (u:=.lst []) rfl (gn (ts:=[]) rfl (aA (k:=0) (Ob _))) ?_
  unfold ju;rw[if_pos (kh (by simp[T.dep]) rfl rfl)]
  rfl
 cases ns with
 |nil=>
  refine⟨7*k,cC rfl ?_⟩
  unfold kz
  refine ik ((ee (a7 e0)).trans (cZ (aK (t:=.int 7) (u:=.int k) rfl rfl (ly (by omega) (by omega)))))
 |cons a r=>
  have hl:(0:Int)<((a::r).length:Nat):=by simp only[NZ];omega
  have hl2:(((a::r).length:Nat):Int)<1073741824:=by simp only[NZ]at hn ⊢;omega
  have hi:k % (a::r).length<(a::r).length:=Nat.mod_lt _ (by simp)
  have g0:o2 my (vr 1) (cl bX (ae (vr 0) aj)) [.va (.scr (a::r)),.va (.int k)]=.ok (.int ((k % (a::r).length:Nat):Int)):=by
   refine aK (t:=.int k) (u:=.int ((a::r).length:Nat)) rfl ?_ (by rw[lQ hl];rfl)
   refine bf (ts:=[.scr (a::r)]) rfl ?_
   show Rs.ok (T.int (((a::r).map T.int).length:Nat))=_
   rw[NW]
  have g1:aQ (.scr (a::r)) (.int ((k % (a::r).length:Nat):Int))=.ok (.int (a::r)[k % (a::r).length]):=by
   have e:((a::r).map T.int)[k % (a::r).length]?=ZA (.int (a::r)[k % (a::r).length]):=by rw[Oj,N6 hi];rfl
   show(match L2.atI ((a::r).map T.int) ((k % (a::r).length:Nat):Int)with|some t=>Rs.ok t|none=>.bad)=_
   rw[lW e]
  have g2:o2 mG (vr 1) (cl bX (ae (vr 0) aj)) [.va (.scr (a::r)),.va (.int k)]=.ok (.int ((k:Int) / ((a::r).length:Nat))):=by
   refine aK (t:=.int k) (u:=.int ((a::r).length:Nat)) rfl ?_ (pd hl hl2)
   refine bf (ts:=[.scr (a::r)]) rfl ?_
   show Rs.ok (T.int (((a::r).map T.int).length:Nat))=_
   rw[NW]
  refine⟨(a::r)[k % (a::r).length] +6553*((k:Int) / ((a::r).length:Nat)),cC rfl ?_⟩
  unfold kz
  show aB _ _ [.va (.scr (a::r)),.va (.int k)]=_
  refine(aD (Z':=[.va (.scr (a::r)),.va (.int k)]) ((dC (a7 e0)).trans rfl)).trans ?_
  exact cZ (aK (aK (t:=.scr (a::r)) rfl g0 g1) (aK (t:=.int 6553) rfl g2 (ly (by omega) (by omega))) rfl)
def dj(ns:List Int)(k:Nat)(m:Int)(hn:ns.length<=63)(hm:0<m):∃r,aE [.scr ns,.int k,.int m]=.ok (.int r)/\0<=r/\r<m:=by
 obtain⟨c,hc⟩:=Ko ns k hn
 have b1:∀x:Int,0<=x % 2147483563/\x % 2147483563<2147483563:=λx=>⟨Tj _ (by omega),Sf _ (by omega)⟩
 have b2:∀x:Int,0<=x % 2147483399/\x % 2147483399<2147483399:=λx=>⟨Tj _ (by omega),Sf _ (by omega)⟩
 generalize hx:(c % 2147483563*69069+104723*((k:Int)+1)) % 2147483563=x
 have hx':=b1 (c % 2147483563*69069+104723*((k:Int)+1));rw[hx]at hx'
 generalize hy:(x*x+x / 3) % 2147483399=y
 have hy':=b2 (x*x+x / 3);rw[hy]at hy';refine⟨(y*y+y / 7) % 2147483647 / 11 % m,cC rfl ?_,Tj _ (by omega),Sf _ hm⟩
 show jc [.va (.scr ns),.va (.int k),.va (.int m),.em]=_
 unfold jc
 have s1:b7 (o2 my (o2 aM (o2 cf (o2 my (cl fX (ae (vr 0) (ae (vr 1) aj))) (cn (.int 2147483563))) (cn (.int 69069))) (o2 cf (cn (.int 104723)) (o2 aM (vr 1) (cn (.int 1))))) (cn (.int 2147483563))) (gN 3) [.va (.scr ns),.va (.int k),.va (.int m),.em]=.ok (.nx [.va (.scr ns),.va (.int k),.va (.int m),.va (.int x)]):=by
  refine bM (t:=.int x) (aK (u:=.int 2147483563) (aK (aK (u:=.int 69069) (aK (u:=.int 2147483563) (bf (ts:=[.scr ns,.int k]) rfl hc) rfl (lQ (by omega))) rfl (Dk (by omega) (by omega))) (aK (t:=.int 104723) (u:=.int ((k:Int)+1)) rfl rfl (ly (by omega) (by omega))) rfl) rfl ?_) rfl
  rw[lQ (by omega),hx]
 have s2:b7 (o2 my (o2 aM (o2 cf (vr 3) (vr 3)) (o2 mG (vr 3) (cn (.int 3)))) (cn (.int 2147483399))) (gN 3) [.va (.scr ns),.va (.int k),.va (.int m),.va (.int x)]=.ok (.nx [.va (.scr ns),.va (.int k),.va (.int m),.va (.int y)]):=by
  refine bM (t:=.int y) (aK (u:=.int 2147483399) (aK (aK (t:=.int x) (u:=.int x) rfl rfl (ly (by omega) (by omega))) (aK (t:=.int x) (u:=.int 3) rfl rfl (pd (by omega) (by omega))) rfl) rfl ?_) rfl
  rw[lQ (by omega),hy]
 rw[aD s1,aD s2];exact cZ (aK (u:=.int m) (aK (u:=.int 11) (aK (u:=.int 2147483647) (aK (aK (t:=.int y) (u:=.int y) rfl rfl (ly (by omega) (by omega))) (aK (t:=.int y) (u:=.int 7) rfl rfl (pd (by omega) (by omega))) rfl) rfl (lQ (by omega))) rfl (pd (by omega) (by omega))) rfl (lQ hm))
def eE{r:Int}{f g h:V5}(e:aE [.scr ns,.int k,.int m]=.ok (.int r))(h1:f Z=.ok (.scr ns))(h2:g Z=.ok (.int k))(h3:h Z=.ok (.int m)):
  cl aE (ae f (ae g (ae h aj))) Z=.ok (.int r):=bf (au h1 (au h2 (au h3 rfl))) e
theorem vX:∀(l:List Int)(z y:Int),rA (l++[z])=ZC->z<y->rA (l++[z] ++[y])=ZC
 |[],z,y,_,h=>by simp[rA,h]
 |[a],z,y,h,hy=>by
  simp[rA]at h ⊢
  omega
 |a::b::l,z,y,h,hy=>by
  have h':rA (a::b::(l++[z]))=ZC:=h;rw[Lb,NX]at h'
  have ih:=vX (b::l) z y h'.2 hy
  show rA (a::b::(l++[z] ++[y]))=ZC
  rw[Lb,h'.1];exact ih
theorem qo:∀l:List Int,mr (l.map .int)=ZA l
 |[] =>rfl
 |a::l=>by rw[NT,mr,qo l]
def RdOk(l:List Int):Prop:=∃(l':List Int)(z:Int),l=l'++[z]/\rA l=ZC/\(∀x∈l,0<=x/\x<=5*l.length)/\z<=5*l.length
def uX(l:List T)(z:T):aQ (.tup (l++[z])) (.int (-1))=.ok z:=by
 have e:L2.atI (l++[z]) (-1)=ZA z:=by
  unfold L2.atI L2.ixN;simp;rw[if_pos (by omega)]
  have q:(-1+((l.length:Int)+1)).toNat=l.length:=by omega
  show(l++[z])[(-1+((l.length:Int)+1)).toNat]?=ZA z
  rw[q];simp
 show(match L2.atI (l++[z]) (-1)with|some t=>Rs.ok t|none=>.bad)=_
 rw[e]
def Hd(ns:List Int)(hn:ns.length<=63)(a j:Nat)(s:T)(l:List Int)(h:RdOk l)(hl:l.length<=3):∃l2,clF [.va (.scr ns),.va (.int a),.va s,.va (.tup (l.map .int)),.va (.int j)]=.ok (.nx [.va (.scr ns),.va (.int a),.va s,.va (.tup (l2.map .int)),.va (.int j)])/\RdOk l2/\l2.length=l.length+1:=by
 obtain⟨l',z,rfl,h1,h2,h3⟩:=h;obtain⟨d,ed,d0,d1⟩:=dj ns (a+3+j) 5 hn (by omega)
 refine⟨l'++[z] ++[z+1+d],?_,⟨l'++[z],z+1+d,rfl,vX l' z _ h1 (by omega),?_,?_⟩,by simp⟩
 ·refine bM (t:=.tup ((l'++[z] ++[z+1+d]).map .int)) (aK (t:=.tup ((l'++[z]).map .int)) (u:=.tup [.int (z+1+d)]) rfl (bc (ts:=[.int (z+1+d)]) (au (aK (t:=.int (z+1)) (u:=.int d) (aK (t:=.int z) (u:=.int 1) (aK (t:=.tup ((l'++[z]).map .int)) (u:=.int (-1)) rfl rfl ?_) rfl rfl) (eE (k:=a+3+j) ed rfl ?_ rfl) rfl) rfl) (aA (k:=1) (by simp))) ?_) rfl
  ·rw[Pc];exact uX _ _
  ·refine aK (t:=.int ((a:Int)+3)) (u:=.int j) (aK (t:=.int a) (u:=.int 3) rfl rfl rfl) rfl ?_
   show Rs.ok (T.int ((a:Int)+3+j))=_
   congr 2
  ·rw[Pc (l₁:=l'++[z])]
   exact gA _ _ (by rw[N3,NW];simp at hl ⊢;omega)
 ·intro x hx
  rcases Oq.mp hx with hx|hx
  ·have:=h2 x hx
   simp only[N3,PR]at this ⊢;omega
  ·rw[Oa]at hx
   subst hx
   have hz:=h2 z (by simp)
   simp only[N3,PR]at h3 ⊢;omega
 ·simp only[N3,PR]at h3 ⊢
  omega
theorem Aq(ns:List Int)(hn:ns.length<=63)(a:Nat)(s:T):∀(js:List Nat)(l:List Int)(s4:Sl),RdOk l->l.length+js.length<=4->∃l2 s5,bo (gN 4) clF (js.map λ(j:Nat)=>T.int j) [.va (.scr ns),.va (.int a),.va s,.va (.tup (l.map .int)),s4]=.ok (.nx [.va (.scr ns),.va (.int a),.va s,.va (.tup (l2.map .int)),s5])/\RdOk l2/\l2.length=l.length+js.length
 |[],l,s4,h,_=>⟨l,s4,rfl,h,rfl⟩
 |j::js,l,s4,h,hl=>by
  rw[NZ]at hl;obtain⟨l2,e2,h2,n2⟩:=Hd ns hn a j s l h (by omega)
  obtain⟨l3,s5,e3,h3,n3⟩:=Aq ns hn a s js l2 (.va (.int j)) h2 (by omega)
  refine⟨l3,s5,?_,h3,by rw[n3,n2,NZ];omega⟩
  rw[NT,dz (Z1:=[.va (.scr ns),.va (.int a),.va s,.va (.tup (l.map .int)),.va (.int j)]) rfl e2];exact e3
def oU(n:Nat):rng 0 (n:Int)=(O7 n).map λ(j:Nat)=>T.int j:=by
 unfold rng;simp
def RdOk.reads{l:List Int}(h:RdOk l)(hl:l.length<=4):dD (.tup (l.map .int))=ZC:=by
 obtain⟨l',z,rfl,h1,h2,h3⟩:=h;unfold dD;rw[NX];refine⟨?_,?_⟩
 ·simp[eK];simp at hl;omega
 ·show(((l'++[z]).map T.int).all (λu=>aX u 0 99)&&(match mr ((l'++[z]).map T.int)with|some m=>rA m|none=>ZD))=ZC
  rw[qo]
  show(_&&rA (l'++[z]))=ZC
  rw[h1,Bool.and_true,Os];intro t ht;obtain⟨x,hx,rfl⟩:=Ov.mp ht
  have:=h2 x hx;simp only[aX,NX,decide_eq_true_eq];omega
def FF(n:Nat)(l:List Int)(h:l.length<=n):sm n (.tup (l.map .int))=ZC:=sm_tup.mpr ⟨by rw[NW];exact h,λt ht=>by obtain⟨x,_,rfl⟩:=Ov.mp ht;simp[sm]⟩
def Ez(ns:List Int)(hn:ns.length<=63)(a:Nat):∃c,cI [.scr ns,.int a]=.ok c/\bL c=ZC/\sm 8 c=ZC:=by
 obtain⟨d1,e1,p1,q1⟩:=dj ns a 3 hn (by omega)
 obtain⟨d2,e2,p2,q2⟩:=dj ns (a+2) 6 hn (by omega)
 obtain⟨d3,e3,p3,q3⟩:=dj ns (a+1) 3 hn (by omega)
 obtain⟨d4,e4,p4,q4⟩:=dj ns (a+6) 3 hn (by omega)
 obtain⟨n3,rfl⟩:=OF p3;obtain⟨l,s5,el,hl,nl⟩:=Aq ns hn a (.int (1+d1)) (O7 n3) [d2] .em ⟨[],d2,rfl,rfl,λx hx=>by rw[Oa]at hx;subst hx;simp;omega,by simp;omega⟩ (by simp;omega)
 have nl':l.length<=4:=by rw[nl];simp;omega
 have hr:=hl.reads nl';refine⟨.tup [.int (1+d1),.int (1+d1+d4),.tup (l.map .int)],cC rfl ?_,?_,?_⟩
 ·show jd [.va (.scr ns),.va (.int a),.em,.em,.em]=_
  unfold jd;rw[aD (Z':=[.va (.scr ns),.va (.int a),.va (.int (1+d1)),.em,.em]) (bM (t:=.int (1+d1)) (aK (t:=.int 1) rfl (eE e1 rfl rfl rfl) rfl) rfl)];rw[aD (Z':=[.va (.scr ns),.va (.int a),.va (.int (1+d1)),.va (.tup ([d2].map .int)),.em]) (bM (t:=.tup [.int d2]) (bc (ts:=[.int d2]) (au (eE (k:=a+2) e2 rfl rfl rfl) rfl) (aA (k:=1) (by simp))) rfl)]
  rw[aD ((fq (Kc (au (eE (k:=a+1) e3 rfl rfl rfl) rfl) (by omega) (by omega)) (by rw[oU];exact el)))]
  exact cZ (bc (au (t:=.int (1+d1)) rfl (au (aK (t:=.int (1+d1)) rfl (eE (k:=a+6) e4 rfl rfl rfl) rfl) (au (t:=.tup (l.map .int)) rfl rfl))) (aA (k:=3) (by simp)))
 ·show(ZC&&(rL (.int (1+d1)) (.int (1+d1+d4))&&dD _))=ZC
  rw[hr];simp only[rL,aX,Ro,Bool.and_true,NX,decide_eq_true_eq];omega
 ·refine sm_tup.mpr ⟨by simp,λt ht=>?_⟩
  rcases N0.mp ht with rfl|ht
  ·simp[sm]
  ·rcases N0.mp ht with rfl|ht
   ·simp[sm]
   ·rw[Oa]at ht;subst ht;exact FF 8 l (by omega)
variable{y:T}
theorem oZ:∀(cs:List T)(i:Nat),y∈fS i cs->∃c k:Nat,y=.tup [.int c,.int k]/\i<=c/\c<i+cs.length/\k<IH (cs.getD (c - i) .non)
 |[],i,h=>by cases h
 |x::cs,i,h=>by
  rw[fS]at h;rcases Oq.mp h with h|h
  ·unfold oN at h
   obtain⟨t,ht,rfl⟩:=Ov.mp h;obtain⟨j,rfl,hj⟩:=ua ht;refine⟨i,j,rfl,Ob _,by rw[NZ];omega,?_⟩
   rw[Tc]
   show j<IH x
   omega
  ·obtain⟨c,k,e,h1,h2,h3⟩:=oZ cs (i+1) h
   refine⟨c,k,e,by omega,by rw[NZ];omega,?_⟩
   have:c - i=(c - (i+1))+1:=by omega
   rw[this];exact h3
def HV(h:y∈fS 0 cs):bq cs y=ZC:=by
 obtain⟨c,k,rfl,_,h2,h3⟩:=oZ cs 0 h
 show(decide ((0:Int)<=(c:Int))&&decide ((c:Int)<(cs.length:Int))&&(decide ((0:Int)<=(k:Int))&&decide ((k:Int)<(reads cs (c:Int):Int))))=ZC
 rw[Td]at h3;rw[sy];simp only[NX,decide_eq_true_eq];omega
theorem ng:∀(cs:List T)(i:Nat),(fS i cs).Nodup
 |[],i=>Qt
 |x::cs,i=>by
  rw[fS,OW];refine⟨?_,ng cs (i+1),?_⟩
  ·unfold oN rng
   rw[Qk];rw[Sa,UJ];refine List.nodup_range.imp ?_
   intro a b hab e
   simp at e
   exact hab (by omega)
  ·intro a ha b hb e
   subst e;unfold oN at ha;obtain⟨t,ht,rfl⟩:=Ov.mp ha;obtain⟨c,k,e,h1,_,_⟩:=oZ cs (i+1) hb
   simp at e
   omega
def Df(h:l.Nodup){j:Nat}(hi:i<l.length)(hj:j<l.length)(hij:i≠j):l[i] ≠l[j]:=by
 rw[Sa,List.pairwise_iff_getElem]at h;rcases Nat.lt_or_ge i j with q|q
 ·exact h i j hi hj q
 ·exact λe=>h j i hj hi (by omega) e.symm
theorem pf:∀(cs:List T)(i:Nat),(∀c∈cs,bL c=ZC)->(fS i cs).length<=4*cs.length
 |[],i,_=>Ob _
 |x::cs,i,h=>by
  obtain⟨a,b,r,rfl,_,h2⟩:=hW (h x NU)
  have:=pf cs (i+1) λc hc=>h c (NR _ hc)
  rw[fS,N3,kl,NZ]
  show r.length+_<=_
  omega
def Eo{a b:T}(ha:bq cs a=ZC)(hb:bq cs b=ZC)(h:a≠b):bj a b=ZD:=by
 obtain⟨c,k,rfl⟩:=dR ha;obtain⟨c',k',rfl⟩:=dR hb;rw[Bool.eq_false_iff];intro e;simp[bj,beqTs]at e;exact h (by rw[e.1,e.2])
def vL{a:T}(ha:bq cs a=ZC):sm 8 a=ZC:=by
 obtain⟨c,k,rfl⟩:=dR ha;simp[sm,sms]
def DX(h:i<l.length):aQ (.lst l) (.int (i:Int))=.ok l[i]:=by
 show(match L2.atI l (i:Int)with|some t=>Rs.ok t|none=>.bad)=_
 rw[lW (N6 h)]
def u5(a b:Int):ju (.int a) (.int b)=.ok (.bl (a == b)):=by
 unfold ju;rw[if_pos (kh (by simp[T.dep]) rfl rfl)]
 rfl
def yX(ns:List Int)(hn:ns.length<=63)(a:Nat)(cs:List T)(hc:a8 (.tup cs)=ZC):∃r,bP [.scr ns,.int a,.tup cs]=.ok r/\((r=.non/\(fS 0 cs).length<2)\/(br cs r=ZC/\sm 8 r=ZC)):=by
 obtain⟨ha,h1,h4⟩:=bu hc
 have hlen:=pf cs 0 ha
 have er:=xo cs hc
 have gl:∀s4 s5 s6 s7:Sl,cl bX (ae (vr 3) aj) [.va (.scr ns),.va (.int a),.va (.tup cs),.va (.lst (fS 0 cs)),s4,s5,s6,s7]=.ok (.int ((fS 0 cs).length:Nat)):=λ_ _ _ _=>rfl
 have s1:b7 (cl cR (ae (vr 2) aj)) (gN 3) [.va (.scr ns),.va (.int a),.va (.tup cs),.em,.em,.em,.em,.em]=.ok (.nx [.va (.scr ns),.va (.int a),.va (.tup cs),.va (.lst (fS 0 cs)),.em,.em,.em,.em]):=bM (bf (ts:=[.tup cs]) rfl er) rfl
 have lt:o2 nA (cl bX (ae (vr 3) aj)) (cn (.int 2)) [.va (.scr ns),.va (.int a),.va (.tup cs),.va (.lst (fS 0 cs)),.em,.em,.em,.em]=.ok (.bl (decide (((fS 0 cs).length:Int)<2))):=aK (t:=.int ((fS 0 cs).length:Nat)) (u:=.int 2) (gl _ _ _ _) rfl rfl
 by_cases hs:(fS 0 cs).length<2
 ·refine⟨.non,cC rfl ?_,.inl ⟨rfl,hs⟩⟩
  show eh [.va (.scr ns),.va (.int a),.va (.tup cs),.em,.em,.em,.em,.em]=_
  unfold eh;rw[aD s1];rw[decide_eq_true (by omega)]at lt
  exact ik ((ee (a7 lt)).trans rfl)
 ·rw[decide_eq_false (by omega)]at lt
  generalize hN:(fS 0 cs).length=n at*
  obtain⟨d1,e1,p1,q1⟩:=dj ns a (n:Int) hn (by omega)
  obtain⟨d2,e2,p2,q2⟩:=dj ns (a+1) ((n:Int) - 1) hn (by omega)
  obtain⟨d3,e3,p3,q3⟩:=dj ns (a+2) 8 hn (by omega)
  obtain⟨d4,e4,p4,q4⟩:=dj ns (a+3) 3 hn (by omega)
  obtain⟨d5,e5,p5,q5⟩:=dj ns (a+4) 9 hn (by omega)
  obtain⟨i,rfl⟩:=OF p1;obtain⟨d2,rfl⟩:=OF p2
  have hi:i<(fS 0 cs).length:=by omega
  have hj:(i+1+d2) % n<(fS 0 cs).length:=by rw[hN];exact Nat.mod_lt _ (by omega)
  have hij:i≠(i+1+d2) % n:=by
   rcases Nat.lt_or_ge (i+1+d2) n with q|q
   ·rw[Va q];omega
   ·have:(i+1+d2) % n=i+1+d2 - n:=by
     rw[Nat.mod_eq_sub_mod q,Va (by omega)]
    rw[this];omega
  have eA:=HV (PB hi)
  have eB:=HV (PB hj)
  have eN:(fS 0 cs)[i] ≠(fS 0 cs)[(i+1+d2) % n]:=Df (ng cs 0) hi hj hij
  generalize hA:(fS 0 cs)[i]=A at*
  generalize hB:(fS 0 cs)[(i+1+d2) % n]=B at*
  let y:T:=if d4 == 0 then .non else .int (d3+d5)
  refine⟨.tup [A,B,.int d3,y],cC rfl ?_,.inr ⟨?_,?_⟩⟩
  ·show eh [.va (.scr ns),.va (.int a),.va (.tup cs),.em,.em,.em,.em,.em]=_
   unfold eh;rw[aD s1];rw[aD (Z':=[.va (.scr ns),.va (.int a),.va (.tup cs),.va (.lst (fS 0 cs)),.em,.em,.em,.em]) ((dC (a7 lt)).trans rfl)];rw[aD (Z':=[.va (.scr ns),.va (.int a),.va (.tup cs),.va (.lst (fS 0 cs)),.va (.int (i:Nat)),.em,.em,.em]) (bM (eE e1 rfl rfl (gl _ _ _ _)) rfl)];rw[aD (Z':=[.va (.scr ns),.va (.int a),.va (.tup cs),.va (.lst (fS 0 cs)),.va (.int (i:Nat)),.va (.int ((i+1+d2) % n:Nat)),.em,.em]) (bM (t:=.int ((i+1+d2) % n:Nat)) (aK (t:=.int ((i:Int)+1+d2)) (u:=.int n) (aK (t:=.int ((i:Int)+1)) (u:=.int d2) rfl (eE (k:=a+1) e2 rfl rfl (aK (t:=.int n) (u:=.int 1) (gl _ _ _ _) rfl rfl)) rfl) (gl _ _ _ _) (lQ (by omega))) rfl)]
   rw[aD (Z':=[.va (.scr ns),.va (.int a),.va (.tup cs),.va (.lst (fS 0 cs)),.va (.int (i:Nat)),.va (.int ((i+1+d2) % n:Nat)),.va (.int d3),.em]) (bM (eE (k:=a+2) e3 rfl rfl rfl) rfl)]
   have ey:qO (tb (o2 ju (cl aE (ae (vr 0) (ae (o2 aM (vr 1) (cn (.int 3))) (ae (cn (.int 3)) aj)))) (cn (.int 0)))) (cn .non) (o2 aM (vr 6) (cl aE (ae (vr 0) (ae (o2 aM (vr 1) (cn (.int 4))) (ae (cn (.int 9)) aj))))) [.va (.scr ns),.va (.int a),.va (.tup cs),.va (.lst (fS 0 cs)),.va (.int (i:Nat)),.va (.int ((i+1+d2) % n:Nat)),.va (.int d3),.em]=.ok y:=by
    rw[jt (a7 (aK (u:=.int 0) (eE (k:=a+3) e4 rfl rfl rfl) rfl (u5 _ _)))]
    show _=Rs.ok (if d4 == 0 then T.non else .int (d3+d5))
    cases d4 == 0 with
    |true=>rfl
    |false=>exact aK (t:=.int d3) rfl (eE (k:=a+4) e5 rfl rfl rfl) rfl
   rw[aD (Z':=[.va (.scr ns),.va (.int a),.va (.tup cs),.va (.lst (fS 0 cs)),.va (.int (i:Nat)),.va (.int ((i+1+d2) % n:Nat)),.va (.int d3),.va y]) (bM ey rfl)];refine cZ (bc (au (t:=A) (aK (t:=.lst (fS 0 cs)) (u:=.int (i:Nat)) rfl rfl ?_) (au (t:=B) (aK (t:=.lst (fS 0 cs)) (u:=.int ((i+1+d2) % n:Nat)) rfl rfl ?_) (au (t:=.int d3) rfl (au (t:=y) rfl rfl)))) (aA (k:=4) (by simp)))
   ·rw[<-hA];exact DX hi
   ·rw[<-hB];exact DX hj
  ·show(dY (.int d3) y&&(bq cs A&&(bq cs B&& !bj A B)))=ZC
   rw[eA,eB,Eo eA eB eN]
   have:dY (.int d3) y=ZC:=by
    show(aX (.int d3) 0 999&&(match(T.int d3),(if d4 == 0 then T.non else .int (d3+d5))with|_,.non=>ZC|.int i,_=>aX (if d4 == 0 then T.non else .int (d3+d5)) i 999|_,_=>ZD))=ZC
    cases d4 == 0 with
    |true=>simp[aX];omega
    |false=>simp[aX];omega
   rw[this];rfl
  ·refine sm_tup.mpr ⟨by simp,λt ht=>?_⟩
   have hy:sm 8 y=ZC:=by show sm 8 (if d4 == 0 then T.non else .int (d3+d5))=ZC;cases d4 == 0 <;> simp[sm]
   simp only[N0,Pm,or_false]at ht;rcases ht with rfl|rfl|rfl|rfl
   ·exact vL eA
   ·exact vL eB
   ·simp[sm]
   ·exact hy
def sZ(ns:List Int)(hn:ns.length<=63)(a:Nat)(cs:List T)(hc:a8 (.tup cs)=ZC):∃r,bP [.scr ns,.int a,.tup cs]=.ok r/\(r=.non\/(br cs r=ZC/\sm 8 r=ZC)):=by
 obtain⟨r,e,h⟩:=yX ns hn a cs hc;exact⟨r,e,h.imp_left (·.1)⟩
def okv:Rs T->T
 |.ok t=>t
 |_=>.non
def uS(l:List T)(k:Int)(h : -(2 ^ 63)<=k/\k<2 ^ 63/\l.length*k.toNat<=ZI):cf (.lst l) (.int k)=.ok (.lst (Oi k.toNat l).flatten):=by
 show yA (.lst l) (.int k)=_
 unfold yA;exact if_pos h
def mul_one(x:T)(b:Bool):cf (.lst [x]) (.int (if b then 1 else 0))=.ok (.lst (if b then [x]else [])):=by
 cases b with
 |true=>exact uS [x] 1 ⟨by decide,by decide,aA (k:=1) (by simp)⟩
 |false=>exact uS [x] 0 ⟨by decide,by decide,aA (k:=1) (by simp)⟩
def BF(cs ls:List T):Prop:=∀t∈ls,br cs t=ZC/\sm 8 t=ZC
def GJ(ns:List Int)(hn:ns.length<=63)(a j:Nat)(m:T)(cs ls:List T)(hc:a8 (.tup cs)=ZC)(h:BF cs ls)(hl:ls.length<=100)(s6:Sl):
  ∃ls2 s7,leF [.va (.scr ns),.va (.int a),.va m,.va (.tup cs),.va (.lst ls),.va (.int j),s6]=.ok (.nx [.va (.scr ns),.va (.int a),.va m,.va (.tup cs),.va (.lst ls2),.va (.int j),s7])/\BF cs ls2/\ls2.length<=ls.length+1:=by
 obtain⟨r,er,hr⟩:=sZ ns hn (a+31+6*j) cs hc
 have e1:∀G,aB (b7 (cl bP (ae (vr 0) (ae (o2 aM (o2 aM (vr 1) (cn (.int 31))) (o2 cf (cn (.int 6)) (vr 5))) (ae (vr 3) aj)))) (gN 6)) G [.va (.scr ns),.va (.int a),.va m,.va (.tup cs),.va (.lst ls),.va (.int j),s6]=G [.va (.scr ns),.va (.int a),.va m,.va (.tup cs),.va (.lst ls),.va (.int j),.va r]:=λG=>by
  refine aD (bM (t:=r) (bf (ts:=[.scr ns,.int (a+31+6*j:Nat),.tup cs]) (au (t:=.scr ns) rfl (au (t:=.int (a+31+6*j:Nat)) (aK (t:=.int ((a:Int)+31)) (u:=.int (6*(j:Int))) rfl (aK (t:=.int 6) (u:=.int j) rfl rfl (ly (by omega) (by omega))) rfl) (au (t:=.tup cs) rfl rfl))) er) rfl)
 have e2:cl D1 (ae (o2 fW (vr 6) (cn .non)) aj) [.va (.scr ns),.va (.int a),.va m,.va (.tup cs),.va (.lst ls),.va (.int j),.va r]=.ok (.int (if !r.isN then 1 else 0)):=bf (ts:=[.bl (!r.isN)]) rfl rfl
 refine⟨ls++(if !r.isN then [r]else []),.va r,?_,?_,?_⟩
 ·refine(e1 _).trans (bM (aK (t:=.lst ls) (u:=.lst (if !r.isN then [r]else [])) rfl (aK (t:=.lst [r]) (gn (ts:=[r]) rfl (aA (k:=1) (by simp))) e2 (mul_one _ _)) (vj _ _ ?_)) rfl)
  rw[N3];cases r.isN <;> simp <;> omega
 ·intro t ht
  rcases Oq.mp ht with ht|ht
  ·exact h t ht
  ·rcases hr with rfl|hr
   ·cases ht
   ·cases q:r.isN with
    |true=>rw[q]at ht;cases ht
    |false=>
     rw[q]at ht;rw[show t=r by simpa using ht]
     exact hr
 ·rw[N3]
  cases r.isN <;> simp
theorem zR(ns:List Int)(hn:ns.length<=63)(a:Nat)(m:T)(cs:List T)(hc:a8 (.tup cs)=ZC):∀(js:List Nat)(ls:List T)(s5 s6:Sl),BF cs ls->ls.length+js.length<=100 →
  ∃ls2 t5 t6,bo (gN 5) leF (js.map λ(j:Nat)=>T.int j) [.va (.scr ns),.va (.int a),.va m,.va (.tup cs),.va (.lst ls),s5,s6]=.ok (.nx [.va (.scr ns),.va (.int a),.va m,.va (.tup cs),.va (.lst ls2),t5,t6])/\BF cs ls2/\ls2.length<=ls.length+js.length
 |[],ls,s5,s6,h,_=>⟨ls,s5,s6,rfl,h,Ob _⟩
 |j::js,ls,s5,s6,h,hl=>by
  rw[NZ]at hl;obtain⟨l2,s7,e2,h2,n2⟩:=GJ ns hn a j m cs ls hc h (by omega) s6
  obtain⟨l3,t5,t6,e3,h3,n3⟩:=zR ns hn a m cs hc js l2 (.va (.int j)) s7 h2 (by omega)
  refine⟨l3,t5,t6,?_,h3,by rw[NZ];omega⟩
  rw[NT,dz (Z1:=[.va (.scr ns),.va (.int a),.va m,.va (.tup cs),.va (.lst ls),.va (.int j),s6]) rfl e2];exact e3
def Kn(ns:List Int)(hn:ns.length<=63)(a m:Nat)(hm:m<=8):∃cs ls,fP [.scr ns,.int a,.int m]=.ok (RR cs ls)/\a8 (.tup cs)=ZC/\cs.length<=3/\(∀c∈cs,sm 8 c=ZC)/\BF cs ls/\ls.length<=m:=by
 obtain⟨d1,e1,p1,q1⟩:=dj ns a 3 hn (by omega)
 obtain⟨d2,e2,p2,q2⟩:=dj ns (a+30) ((m:Int)+1) hn (by omega)
 obtain⟨d1,rfl⟩:=OF p1;obtain⟨d2,rfl⟩:=OF p2
 let hcl:T->T:=λt=>match t with
  |.int k=>okv (cI [.scr ns,.int ((a:Int)+1+8*k)])
  |_=>.non
 have hh:∀t∈rng 0 ((1+d1:Nat):Int),∃k:Nat,t=.int k/\cI [.scr ns,.int ((a+1+8*k:Nat):Int)]=.ok (hcl t)/\bL (hcl t)=ZC/\sm 8 (hcl t)=ZC:=λt ht=>by
  obtain⟨k,rfl,_⟩:=ua ht;obtain⟨c,ec,h1,h2⟩:=Ez ns hn (a+1+8*k)
  have e:hcl (.int k)=c:=by
   show okv (cI [.scr ns,.int ((a+1+8*k:Nat):Int)])=c
   rw[ec];rfl
  exact⟨k,rfl,by rw[e];exact ec,by rw[e];exact h1,by rw[e];exact h2⟩
 generalize hcs:(rng 0 ((1+d1:Nat):Int)).map hcl=cs
 have lc:cs.length=1+d1:=by rw[<-hcs,NW,mi]
 have hc:a8 (.tup cs)=ZC:=by
  show(eK (.tup cs) 1 4&&cs.all bL)=ZC
  rw[NX,Os];refine⟨by simp[eK];omega,λc h=>?_⟩
  rw[<-hcs]at h;obtain⟨t,ht,rfl⟩:=Ov.mp h;obtain⟨_,_,_,h1,_⟩:=hh t ht;exact h1
 have hsm:∀c∈cs,sm 8 c=ZC:=λc h=>by
  rw[<-hcs]at h;obtain⟨t,ht,rfl⟩:=Ov.mp h;obtain⟨_,_,_,_,h1⟩:=hh t ht;exact h1
 obtain⟨ls,t5,t6,el,hl,nl⟩:=zR ns hn a (.int m) cs hc (O7 d2) [] .em .em (λt h=>by cases h) (by simp;omega)
 refine⟨cs,ls,cC rfl ?_,hc,by omega,hsm,hl,by simp at nl;omega⟩
 show iw [.va (.scr ns),.va (.int a),.va (.int m),.em,.em,.em,.em]=_
 unfold iw
 have s1:b7 (cl lE (ae (gC (iR (ae (o2 aM (cn (.int 1)) (cl aE (ae (vr 0) (ae (vr 1) (ae (cn (.int 3)) aj))))) aj)) [ZB,ZA 0,ZA 1] (gN 0) bT (cl cI (ae (vr 1) (ae (o2 aM (o2 aM (vr 2) (cn (.int 1))) (o2 cf (cn (.int 8)) (vr 0))) aj)))) aj)) (gN 3) [.va (.scr ns),.va (.int a),.va (.int m),.em,.em,.em,.em]=.ok (.nx [.va (.scr ns),.va (.int a),.va (.int m),.va (.tup cs),.em,.em,.em]):=by
  refine bM (t:=.tup cs) (bf (ts:=[.lst cs]) (au (t:=.lst cs) ?_ rfl) rfl) rfl
  rw[<-hcs];refine xb (ts:=rng 0 ((1+d1:Nat):Int)) (h:=hcl) (Kc (au (t:=.int ((1+d1:Nat):Int)) (aK (t:=.int 1) (u:=.int d1) rfl (eE e1 rfl rfl rfl) rfl) rfl) (by omega) (by omega)) (aA (k:=3) (by rw[mi];omega)) (by simp) λt ht=>?_
  obtain⟨k,rfl,ek,_,_⟩:=hh t ht;refine bf (ts:=[.scr ns,.int ((a+1+8*k:Nat):Int)]) (au (t:=.scr ns) rfl (au (aK (t:=.int ((a:Int)+1)) (u:=.int (8*(k:Int))) rfl (aK (t:=.int 8) (u:=.int k) rfl rfl (ly (by omega) (by omega))) rfl) rfl)) ek
 rw[aD s1];rw[aD (Z':=[.va (.scr ns),.va (.int a),.va (.int m),.va (.tup cs),.va (.lst []),.em,.em]) (bM (gn (ts:=[]) rfl (aA (k:=0) (by simp))) rfl)]
 rw[aD ((fq (Kc (au (eE (k:=a+30) e2 rfl rfl (aK (t:=.int m) (u:=.int 1) rfl rfl rfl)) rfl) (by omega) (by omega)) (by rw[oU];exact el)))]
 exact cZ (bc (au (t:=.tup cs) rfl (au (t:=.tup ls) rfl rfl)) (aA (k:=2) (by simp)))
def fm{t:T}(h:br cs t=ZC):∃a b x y,t=.tup [a,b,x,y]/\dY x y=ZC/\bq cs a=ZC/\bq cs b=ZC/\bj a b=ZD:=by
 unfold br at h
 split at h
 ·simp only[NX,UI]at h
  exact⟨_,_,_,_,rfl,h.1,h.2.1,h.2.2.1,h.2.2.2⟩
 ·cases h
def IG{ls:List T}(hc:a8 (.tup cs)=ZC)(hs:∀c∈cs,sm 8 c=ZC)(hl:BF cs ls)(hn:ls.length<=8):cV (RR cs ls)=ZC/\sm 8 (RR cs ls)=ZC:=by
 refine⟨?_,?_⟩
 ·show(a8 (.tup cs)&&(eK (.tup ls) 0 8&&ls.all (br cs)))=ZC
  rw[hc,Ro,NX,Os];exact⟨by simp[eK];exact hn,λt ht=>(hl t ht).1⟩
 ·refine sm_tup.mpr ⟨by simp,λt ht=>?_⟩
  simp only[N0,Pm,or_false]at ht;rcases ht with rfl|rfl
  ·exact sm_tup.mpr ⟨by have:=(bu hc).2.2;omega,hs⟩
  ·exact sm_tup.mpr ⟨hn,λt ht=>(hl t ht).2⟩
end G
namespace Tr
open PySem
section
variable {f fa fb:V5}{fs:V3}{b c:V6}{F G:V4}{Z Z' Z1 Z2:En}{t u r:T}{ts l m:List T}
mutual
theorem nJ:∀(t:T),t.pl=ZC->bj t t=ZC
 |.non,_=>rfl
 |.bl a,_=>by simp[bj]
 |.int a,_=>by simp[bj]
 |.str a,_=>by simp[bj]
 |.tup l,h=>by rw[bj];exact beqTs_refl l (by unfold T.pl at h;exact h)
 |.lst l,h=>by rw[bj];exact beqTs_refl l (by unfold T.pl at h;exact h)
 |.scr _,h=>by simp[T.pl]at h
theorem beqTs_refl:∀(l:List T),plS l=ZC->beqTs l l=ZC
 |[],_=>rfl
 |t::l,h=>by
  unfold plS at h;rw[NX]at h;rw[beqTs,nJ t h.1,beqTs_refl l h.2];rfl
end
def gu(hp:t.pl=ZC)(hd:t.dep<=60):lu t t=.ok (.bl ZD):=by
 unfold lu;rw[if_pos (kh hd (T.M9 _ hp) (T.M9 _ hp)),nJ t hp];rfl
def u4(hp:t.pl=ZC)(hd:t.dep<=60):ju t t=.ok (.bl ZC):=by
 unfold ju;rw[if_pos (kh hd (T.M9 _ hp) (T.M9 _ hp)),nJ t hp]
theorem An:∀{l:List T},(∀t∈l,t.dep<=n)->deps l<=n
 |[],_=>by unfold deps;omega
 |t::l,h=>by
  unfold deps
  have:=An (l:=l) λu hu=>h u (NR _ hu)
  have:=h t NU;omega
theorem iV:∀{l:List T},(∀t∈l,t.pl=ZC)->plS l=ZC
 |[],_=>rfl
 |t::l,h=>by unfold plS;rw[h t NU,iV λu hu=>h u (NR _ hu)];rfl
end
end Tr
variable{j:Nat}
namespace G
open PySem Tr
def dr(r:List Int)(k:Nat):Int:=r.getD (k+1) 0 - r.getD k 0
noncomputable def pr(n:Nat)(x y:Int)(r:List Int)(k:Nat):List T:=
 [.tup [.tup [.int n,.int k],.tup [.int n,.int ((k+1:Nat):Int)],.int (dr r k*y)],.tup [.tup [.int n,.int ((k+1:Nat):Int)],.tup [.int n,.int k],.int (-dr r k*x)]]
def cB(n:Nat)(x y:Int)(r:List Int):List T:=(O7 (r.length - 1)).flatMap (pr n x y r)
abbrev EO(n:Nat)(x y:Int)(r:List Int)(acc:List T)(s4 s5 s6 s7:Sl):En:=[.va (.int n),.va (.tup [.int x,.int y,.tup (r.map .int)]),.va (.tup (r.map .int)),.ow (.lst acc),s4,s5,s6,s7]
def kP{r:List Int}(h:k<r.length):(r.map T.int)[k]?=ZA (.int (r.getD k 0)):=by
 rw[Oj,N6 h]
 simp[h]
def Hg(n:Nat)(x y:Int)(r:List Int)(acc:List T)(k:Nat)(s5 s6 s7:Sl)(hk:k+1<r.length)(hx:0<=x/\x<=9)(hy:0<=y/\y<=9)(ha:acc.length<=100):
  bcF (EO n x y r acc (.va (.int k)) s5 s6 s7)=.ok (.nx (EO n x y r (acc++pr n x y r k) (.va (.int k)) (.va (.tup [.int n,.int k])) (.va (.tup [.int n,.int ((k+1:Nat):Int)])) (.va (.int (dr r k))))):=by
 have h2:([T.int n,T.int k]:List T).length<=ZI:=aA (k:=2) (by simp)
 have ek:((k:Int)+1)=((k+1:Nat):Int):=by omega
 refine(aD (Z':=EO n x y r acc (.va (.int k)) (.va (.tup [.int n,.int k])) s6 s7) (bM (bc rfl (aA (k:=2) (by simp))) rfl)).trans ?_
 refine(aD (Z':=EO n x y r acc (.va (.int k)) (.va (.tup [.int n,.int k])) (.va (.tup [.int n,.int ((k+1:Nat):Int)])) s7) (bM (bc (au rfl (au (t:=.int ((k+1:Nat):Int)) (aK (t:=.int k) (u:=.int 1) rfl rfl (congrArg (λz=>Rs.ok (T.int z)) ek)) rfl)) (aA (k:=2) (by simp))) rfl)).trans ?_
 refine(aD (Z':=EO n x y r acc (.va (.int k)) (.va (.tup [.int n,.int k])) (.va (.tup [.int n,.int ((k+1:Nat):Int)])) (.va (.int (dr r k)))) (bM (t:=.int (dr r k)) (aK (t:=.int (r.getD (k+1) 0)) (u:=.int (r.getD k 0)) (iG (n:=k+1) rfl (aK (t:=.int k) (u:=.int 1) rfl rfl (congrArg (λz=>Rs.ok (T.int z)) ek)) (kP hk)) (iG (n:=k) rfl rfl (kP (by omega))) rfl) rfl)).trans ?_
 refine(aD (Z':=EO n x y r (acc++[.tup [.tup [.int n,.int k],.tup [.int n,.int ((k+1:Nat):Int)],.int (dr r k*y)]]) (.va (.int k)) (.va (.tup [.int n,.int k])) (.va (.tup [.int n,.int ((k+1:Nat):Int)])) (.va (.int (dr r k)))) (qN (l:=acc) (bc (au rfl (au rfl (au (aK (t:=.int (dr r k)) (u:=.int y) rfl rfl (Dk (by omega) (by omega))) rfl))) (aA (k:=3) (by simp))) rfl (by omega))).trans ?_
 refine(qN (l:=acc++[.tup [.tup [.int n,.int k],.tup [.int n,.int ((k+1:Nat):Int)],.int (dr r k*y)]]) (bc (au rfl (au rfl (au (aK (t:=.int (-dr r k)) (u:=.int x) rfl rfl (Dk (by omega) (by omega))) rfl))) (aA (k:=3) (by simp))) rfl (by rw[N3];simp;omega)).trans ?_
 rw[Oz]
 rfl
theorem Av(n:Nat)(x y:Int)(r:List Int)(hx:0<=x/\x<=9)(hy:0<=y/\y<=9):∀(js:List Nat)(acc:List T)(s4 s5 s6 s7:Sl),(∀k∈js,k+1<r.length)->acc.length+2*js.length<=100 →
  ∃t4 t5 t6 t7,bo (gN 4) bcF (js.map λ(k:Nat)=>T.int k) (EO n x y r acc s4 s5 s6 s7)=.ok (.nx (EO n x y r (acc++js.flatMap (pr n x y r)) t4 t5 t6 t7))
 |[],acc,s4,s5,s6,s7,_,_=>⟨s4,s5,s6,s7,by simp[bo]⟩
 |k::js,acc,s4,s5,s6,s7,hk,hl=>by
  rw[NZ]at hl
  have e:=Hg n x y r acc k s5 s6 s7 (hk k NU) hx hy (by omega)
  obtain⟨t4,t5,t6,t7,ih⟩:=Av n x y r hx hy js (acc++pr n x y r k) (.va (.int k)) (.va (.tup [.int n,.int k])) (.va (.tup [.int n,.int ((k+1:Nat):Int)])) (.va (.int (dr r k))) (λj hj=>hk j (NR _ hj)) (by rw[N3];simp[pr];omega)
  refine⟨t4,t5,t6,t7,?_⟩
  rw[NT,dz (Z1:=EO n x y r acc (.va (.int k)) s5 s6 s7) rfl e,ih,Q2,Oz]
def EE(n:Nat)(x y:Int)(r:List Int)(hx:0<=x/\x<=9)(hy:0<=y/\y<=9)(h1:1<=r.length)(h4:r.length<=4):cG [.int n,.tup [.int x,.int y,.tup (r.map .int)]]=.ok (.lst (cB n x y r)):=by
 refine cC rfl ?_
 show fx [.va (.int n),.va (.tup [.int x,.int y,.tup (r.map .int)]),.em,.em,.em,.em,.em,.em]=_
 unfold fx;rw[aD (Z':=[.va (.int n),.va (.tup [.int x,.int y,.tup (r.map .int)]),.va (.tup (r.map .int)),.em,.em,.em,.em,.em]) (bM (t:=.tup (r.map .int)) rfl rfl)];rw[aD (Z':=EO n x y r [] .em .em .em .em) rfl];obtain⟨t4,t5,t6,t7,e⟩:=Av n x y r hx hy (O7 (r.length - 1)) [] .em .em .em .em (λk hk=>by have:=Pv.mp hk;omega) (by simp;omega)
 have e1:iR (ae (o2 cv (cl bX (ae (vr 2) aj)) (cn (.int 1))) aj) (EO n x y r [] .em .em .em .em)=.ok (rng 0 ((r.length - 1:Nat):Int)):=by
  refine Kc (j:=((r.length - 1:Nat):Int)) (au (aK (t:=.int (r.length:Nat)) (u:=.int 1) (bf (ts:=[.tup (r.map .int)]) rfl (by show Rs.ok (T.int ((r.map T.int).length:Nat))=_;rw[NW])) rfl (congrArg (λz=>Rs.ok (T.int z)) (by omega))) rfl) (by omega) (by omega)
 rw[aD ((fq (ts:=(O7 (r.length - 1)).map λ(k:Nat)=>T.int k) (by rw[e1,oU]) e))]
 rfl
def eO{t:T}(h:bL t=ZC):∃(x y:Int)(r:List Int),t=.tup [.int x,.int y,.tup (r.map .int)]/\(0<=x/\x<=9)/\(0<=y/\y<=9)/\1<=r.length/\r.length<=4:=by
 obtain⟨x,y,r,rfl,h1,h4⟩:=hW h
 have h':(rL x y&&dD (.tup r))=ZC:=h;rw[NX]at h';obtain⟨hp,hr⟩:=h';unfold rL at hp;rw[NX]at hp;obtain⟨i,rfl,i1,i2⟩:=b9 hp.1;obtain⟨j,rfl,j1,j2⟩:=b9 (t:=y) (a:=i) (b:=9) hp.2;unfold dD at hr;rw[NX]at hr
 have hr2:((r.all λu=>aX u 0 99)&&(match mr r with|some m=>rA m|none=>ZD))=ZC:=hr.2
 rw[NX]at hr2;obtain⟨m,em⟩:=uG hr2.1
 have e:=qm em;subst e;rw[NW]at h1 h4;exact⟨i,j,m,rfl,⟨by omega,by omega⟩,⟨by omega,by omega⟩,h1,h4⟩
noncomputable def xB(n:Nat)(t:T):List T:=match t with
 |.tup [.int x,.int y,.tup r] =>match mr r with
  |some m=>cB n x y m
  |none=>[]
 |_=>[]
def bC:Nat->List T->List T
 |_,[] =>[]
 |i,c::r=>xB i c++bC (i+1) r
noncomputable def lB(t:T):List T:=match t with
 |.tup [a,b,.int le,mo] =>.tup [b,a,.int (-le)] ::(if mo.isN then []else [.tup [a,b,mo]])
 |_=>[]
def KC(cs ls:List T):List T:=bC 0 cs++ls.flatMap lB
def sh(n:Nat)(x y:Int)(r:List Int):xB n (.tup [.int x,.int y,.tup (r.map .int)])=cB n x y r:=by
 unfold xB;simp only[qo]
def Kz(n:Nat)(x y:Int)(r:List Int):(cB n x y r).length=2*(r.length - 1):=by
 unfold cB;rw[List.length_flatMap]
 have:∀l:List Nat,(l.map λk=>(pr n x y r k).length).sum=2*l.length:=by
  intro l
  induction l with
  |nil=>rfl
  |cons a l ih=>rw[NT,P5,ih,NZ];simp[pr];omega
 rw[this,Qz]
def xU{t:T}(h:bL t=ZC):(xB n t).length<=6:=by
 obtain⟨x,y,r,rfl,_,_,h1,h4⟩:=eO h;rw[sh,Kz];omega
theorem vg:∀{cs:List T}{i:Nat},(∀c∈cs,bL c=ZC)->(bC i cs).length<=6*cs.length
 |[],i,_=>by simp[bC]
 |c::cs,i,h=>by
  rw[bC,N3,NZ]
  have:=xU (n:=i) (h c NU)
  have:=vg (cs:=cs) (i:=i+1) λc hc=>h c (NR _ hc)
  omega
def yK(t:T):(lB t).length<=2:=by
 unfold lB;split
 ·rename_i a b le mo
  cases mo.isN <;> simp
 ·simp
theorem zW:∀(ls:List T),(ls.flatMap lB).length<=2*ls.length
 |[] =>by simp
 |t::ls=>by
  rw[Q2,N3,NZ]
  have:=yK t
  have:=zW ls;omega
variable{cs:List T}
def jW{t:T}(h:br cs t=ZC):∃(a b mo:T)(le:Int),t=.tup [a,b,.int le,mo]/\bq cs a=ZC/\bq cs b=ZC:=by
 obtain⟨a,b,x,y,rfl,hd,ha,hb,_⟩:=fm h;unfold dY at hd;rw[NX]at hd;obtain⟨i,rfl,_⟩:=b9 hd.1;exact⟨a,b,y,i,rfl,ha,hb⟩
def Bo{t:T}(h:br cs t=ZC):cA [t]=.ok (.lst (lB t)):=by
 obtain⟨a,b,mo,le,rfl,_,_⟩:=jW h;refine cC rfl ?_
 show eQ [.va (.tup [a,b,.int le,mo]),.em]=_
 unfold eQ;rw[aD (Z':=[.va (.tup [a,b,.int le,mo]),.ow (.lst [.tup [b,a,.int (-le)]])]) (DN (l:=[.tup [b,a,.int (-le)]]) (au (bc (au rfl (au rfl (au rfl rfl))) (aA (k:=3) (by simp))) rfl) (by simp) (by simp))]
 have e:∀(Z:En) l,Z=[.va (.tup [a,b,.int le,mo]),.ow (.lst l)]->o2 fW (o2 aQ (vr 0) (cn (.int 3))) (cn .non) Z=.ok (.bl (!mo.isN)):=λZ l z=>by subst z;rfl
 have e2:lB (.tup [a,b,.int le,mo])=.tup [b,a,.int (-le)] ::(if mo.isN then []else [.tup [a,b,mo]]):=rfl
 rw[e2]
 cases q:mo.isN with
 |true=>
  rw[aD (Z':=[.va (.tup [a,b,.int le,mo]),.ow (.lst [.tup [b,a,.int (-le)]])]) ((dC (a7 (by rw[e _ _ rfl,q];rfl))).trans rfl)]
  rfl
 |false=>
  rw[aD (Z':=[.va (.tup [a,b,.int le,mo]),.ow (.lst ([.tup [b,a,.int (-le)]] ++[.tup [a,b,mo]]))]) ((ee (a7 (by rw[e _ _ rfl,q];rfl))).trans (qN (l:=[.tup [b,a,.int (-le)]]) (bc (au rfl (au rfl (au rfl rfl))) (aA (k:=3) (by simp))) rfl (by simp)))]
  rfl
abbrev bdG:T->En->Rs En:=gT 2 (gd (gN 2) (gd (gN 3) rB))
theorem Au(R:T)(s4:Sl):∀(cs:List T)(acc:List T)(i:Nat)(s2 s3:Sl),(∀c∈cs,bL c=ZC)->acc.length+6*cs.length<=100 →
  ∃y2 y3,bo bdG bdF (cM i cs) [.va R,.ow (.lst acc),s2,s3,s4]=.ok (.nx [.va R,.ow (.lst (acc++bC i cs)),y2,y3,s4])
 |[],acc,i,s2,s3,_,_=>⟨s2,s3,by simp[cM,bo,bC]⟩
 |c::cs,acc,i,s2,s3,hc,hl=>by
  have h0:=hc c NU
  have hx:=xU (n:=i) h0;obtain⟨x,y,r,rfl,a1,a2,a3,a4⟩:=eO h0;rw[NZ]at hl;rw[sh]at hx
  have st:bdF [.va R,.ow (.lst acc),.va (.int i),.va (.tup [.int x,.int y,.tup (r.map .int)]),s4]=.ok (.nx [.va R,.ow (.lst (acc++cB i x y r)),.va (.int i),.va (.tup [.int x,.int y,.tup (r.map .int)]),s4]):=
   DT (l:=acc) (bf (ts:=[.int i,.tup [.int x,.int y,.tup (r.map .int)]]) rfl (EE i x y r a1 a2 a3 a4)) rfl (by omega)
  obtain⟨z2,z3,ih⟩:=Au R s4 cs (acc++cB i x y r) (i+1) (.va (.int i)) (.va (.tup [.int x,.int y,.tup (r.map .int)])) (λc h=>hc c (NR _ h)) (by rw[N3];omega)
  refine⟨z2,z3,?_⟩
  rw[cM,dz (Z1:=[.va R,.ow (.lst acc),.va (.int i),.va (.tup [.int x,.int y,.tup (r.map .int)]),s4]) rfl st,ih,bC,sh,Oz]
abbrev blF:V4:=pP 1 (cl cA (ae (vr 4) aj))
theorem As(R:T)(cs:List T)(s2 s3:Sl):∀(ls:List T)(acc:List T)(s4:Sl),(∀t∈ls,br cs t=ZC)->acc.length+2*ls.length<=100 →
  ∃y4,bo (gN 4) blF ls [.va R,.ow (.lst acc),s2,s3,s4]=.ok (.nx [.va R,.ow (.lst (acc++ls.flatMap lB)),s2,s3,y4])
 |[],acc,s4,_,_=>⟨s4,by simp[bo]⟩
 |t::ls,acc,s4,hl,hn=>by
  rw[NZ]at hn
  have:=yK t
  have st:blF [.va R,.ow (.lst acc),s2,s3,.va t]=.ok (.nx [.va R,.ow (.lst (acc++lB t)),s2,s3,.va t]):=DT (l:=acc) (bf (ts:=[t]) rfl (Bo (hl t NU))) rfl (by omega)
  obtain⟨y4,ih⟩:=As R cs s2 s3 ls (acc++lB t) (.va t) (λu h=>hl u (NR _ h)) (by rw[N3];omega)
  refine⟨y4,?_⟩
  rw[dz (Z1:=[.va R,.ow (.lst acc),s2,s3,.va t]) rfl st,ih,Q2,Oz]
variable{R:T}
def fh(hp:R.pl=ZC)(h:cV R=ZC):aS [R]=.ok .non:=by
 refine DJ (Z:=[.va R]) rfl ?_
 show cU [.va R]=_
 unfold cU;exact(dC ((qM (k:=ZC) (a7 (bf (ts:=[R]) rfl (by rw[mH R hp,h])))))).trans rfl
def A4(hp:R.pl=ZC)(h:cV R=ZD):aS [R]=.err "NoRecord":=by
 refine lR rfl ?_
 show cU [.va R]=_
 unfold cU;exact(ee ((qM (k:=ZD) (a7 (bf (ts:=[R]) rfl (by rw[mH R hp,h])))))).trans rfl
structure Good (cs ls:List T):Prop where
 c:a8 (.tup cs)=ZC
 l:∀t∈ls,br cs t=ZC
 n:ls.length<=8
 p:(RR cs ls).pl=ZC
variable{ls:List T}
def Good.ok(g:Good cs ls):cV (RR cs ls)=ZC:=by
 show(a8 (.tup cs)&&(eK (.tup ls) 0 8&&ls.all (br cs)))=ZC
 rw[g.c,Ro,NX,Os];exact⟨by simp[eK];exact g.n,g.l⟩
def EC(g:Good cs ls):jT [RR cs ls]=.ok (.lst (KC cs ls)):=by
 obtain⟨hc,c1,c4⟩:=bu g.c
 have hn:=g.n;refine cC rfl ?_
 show rq [.va (RR cs ls),.em,.em,.em,.em]=_
 unfold rq;rw[aD (r8 (t:=.non) (bf (ts:=[RR cs ls]) rfl (fh g.p g.ok)))];rw[aD (Z':=[.va (RR cs ls),.ow (.lst []),.em,.em,.em]) (yN (by simp))]
 obtain⟨y2,y3,e⟩:=Au (RR cs ls) .em cs [] 0 .em .em hc (by simp;omega)
 rw[aD ((fq (ts:=cM 0 cs) rfl e))]
 have:=vg (i:=0) hc;obtain⟨y4,e2⟩:=As (RR cs ls) cs y2 y3 ls ([] ++bC 0 cs) .em g.l (by rw[PU];omega)
 rw[aD ((fq (ts:=ls) rfl e2))]
 rfl
abbrev BH(R:T)(acc:List T)(n:Nat)(x y:Int)(r:List Int)(s6 s7 s8 s9 s10 s11:Sl):En:=[.va R,.ow (.lst acc),.va (.int n),.va (.int x),.va (.int y),.va (.tup (r.map .int)),s6,s7,s8,s9,s10,s11]
def GI(R:T)(n:Nat)(x y:Int)(r:List Int)(acc:List T)(k:Nat)(s7 s8 s9 s10 s11:Sl)(hk:k+1<r.length)(hx:0<=x/\x<=9)(hy:0<=y/\y<=9)(ha:acc.length<=100):
  lkF (BH R acc n x y r (.va (.int ((k+1:Nat):Int))) s7 s8 s9 s10 s11)=.ok (.nx (BH R (acc++pr n x y r k) n x y r (.va (.int ((k+1:Nat):Int))) (.va (.int (dr r k))) s8 s9 s10 s11)):=by
 have sb:∀acc s7,o2 cv (vr 6) (cn (.int 1)) (BH R acc n x y r (.va (.int ((k+1:Nat):Int))) s7 s8 s9 s10 s11)=.ok (.int k):=λacc s7=>aK (t:=.int ((k+1:Nat):Int)) (u:=.int 1) rfl rfl (congrArg (λz=>Rs.ok (T.int z)) (by omega))
 refine(aD (Z':=BH R acc n x y r (.va (.int ((k+1:Nat):Int))) (.va (.int (dr r k))) s8 s9 s10 s11) (bM (t:=.int (dr r k)) (aK (t:=.int (r.getD (k+1) 0)) (u:=.int (r.getD k 0)) (iG (n:=k+1) rfl rfl (kP hk)) (iG (n:=k) rfl (sb acc s7) (kP (by omega))) rfl) rfl)).trans ?_
 refine(aD (Z':=BH R (acc++[.tup [.tup [.int n,.int k],.tup [.int n,.int ((k+1:Nat):Int)],.int (dr r k*y)]]) n x y r (.va (.int ((k+1:Nat):Int))) (.va (.int (dr r k))) s8 s9 s10 s11) (qN (l:=acc) (bc (au (bc (au rfl (au (sb _ _) rfl)) (aA (k:=2) (by simp))) (au (bc rfl (aA (k:=2) (by simp))) (au (aK (t:=.int y) (u:=.int (dr r k)) rfl rfl ((ly (by omega) (by omega)).trans (by rw[Int.mul_comm]))) rfl))) (aA (k:=3) (by simp))) rfl (by omega))).trans ?_
 refine(qN (l:=acc++[.tup [.tup [.int n,.int k],.tup [.int n,.int ((k+1:Nat):Int)],.int (dr r k*y)]]) (t:=.tup [.tup [.int n,.int ((k+1:Nat):Int)],.tup [.int n,.int k],.int (-dr r k*x)]) (bc (au (bc rfl (aA (k:=2) (by simp))) (au (bc (au rfl (au (sb _ _) rfl)) (aA (k:=2) (by simp))) (au (aK (t:=.int 0) (u:=.int (x*dr r k)) rfl (aK (t:=.int x) (u:=.int (dr r k)) rfl rfl (ly (by omega) (by omega))) (congrArg (λz=>Rs.ok (T.int z)) (by rw[Int.neg_mul,Int.mul_comm x,Int.zero_sub]))) rfl))) (aA (k:=3) (by simp))) rfl (by rw[N3];simp;omega)).trans ?_
 rw[Oz]
 rfl
theorem zO(R:T)(n:Nat)(x y:Int)(r:List Int)(s8 s9 s10 s11:Sl)(hx:0<=x/\x<=9)(hy:0<=y/\y<=9):∀(js:List Nat)(acc:List T)(s6 s7:Sl),(∀k∈js,k+1<r.length)->acc.length+2*js.length<=100 →
  ∃t6 t7,bo (gN 6) lkF (js.map λ(k:Nat)=>T.int ((k+1:Nat):Int)) (BH R acc n x y r s6 s7 s8 s9 s10 s11)=.ok (.nx (BH R (acc++js.flatMap (pr n x y r)) n x y r t6 t7 s8 s9 s10 s11))
 |[],acc,s6,s7,_,_=>⟨s6,s7,by simp[bo]⟩
 |k::js,acc,s6,s7,hk,hl=>by
  rw[NZ]at hl
  have e:=GI R n x y r acc k s7 s8 s9 s10 s11 (hk k NU) hx hy (by omega)
  obtain⟨t6,t7,ih⟩:=zO R n x y r s8 s9 s10 s11 hx hy js (acc++pr n x y r k) (.va (.int ((k+1:Nat):Int))) (.va (.int (dr r k))) (λj hj=>hk j (NR _ hj)) (by rw[N3];simp[pr];omega)
  refine⟨t6,t7,?_⟩
  rw[NT,dz (Z1:=BH R acc n x y r (.va (.int ((k+1:Nat):Int))) s7 s8 s9 s10 s11) rfl e,ih,Q2,Oz]
def FO(n:Nat)(h:1<=n):rng 1 (n:Int)=(O7 (n - 1)).map λ(k:Nat)=>T.int ((k+1:Nat):Int):=by
 unfold rng
 have:((n:Int) - 1).toNat=n - 1:=by omega
 rw[this];exact O6 λk _=>congrArg T.int (by omega)
variable{Z:En}
def iR2{f:V3}{i j:Int}(h:f Z=.ok [.int i,.int j])(h0:0<=i)(h1:i<=100000)(h2:0<=j)(h3:j<=100000):iR f Z=.ok (rng i j):=by
 unfold iR;rw[h]
 have e:(yS i&&yS j)=ZC:=by unfold yS;simp;omega
 show(if (yS i&&yS j)=ZC then _ else _)=_
 rw[e];rfl
abbrev L8:V4:=(fA (iR (ae (cn (.int 1)) (ae (cl bX (ae (vr 5) aj)) aj))) (gN 6) lkF)
abbrev lcG:T->En->Rs En:=gT 2 (gd (gN 2) (gd (gT 3 (gd (gN 3) (gd (gN 4) (gd (gN 5) rB)))) rB))
theorem zU(R:T)(s8 s9 s10 s11:Sl):∀(cs:List T)(acc:List T)(i:Nat)(s2 s3 s4 s5 s6 s7:Sl),(∀c∈cs,bL c=ZC)->acc.length+6*cs.length<=90 →
  ∃y2 y3 y4 y5 y6 y7,bo lcG L8 (cM i cs) [.va R,.ow (.lst acc),s2,s3,s4,s5,s6,s7,s8,s9,s10,s11]=.ok (.nx [.va R,.ow (.lst (acc++bC i cs)),y2,y3,y4,y5,y6,y7,s8,s9,s10,s11])
 |[],acc,i,s2,s3,s4,s5,s6,s7,_,_=>⟨s2,s3,s4,s5,s6,s7,by simp[cM,bo,bC]⟩
 |c::cs,acc,i,s2,s3,s4,s5,s6,s7,hc,hl=>by
  have h0:=hc c NU
  have hx:=xU (n:=i) h0;obtain⟨x,y,r,rfl,a1,a2,a3,a4⟩:=eO h0;rw[NZ]at hl;rw[sh]at hx;obtain⟨t6,t7,e⟩:=zO R i x y r s8 s9 s10 s11 a1 a2 (O7 (r.length - 1)) acc s6 s7 (λk hk=>by have:=Pv.mp hk;omega) (by rw[Qz];omega)
  have e1:iR (ae (cn (.int 1)) (ae (cl bX (ae (vr 5) aj)) aj)) (BH R acc i x y r s6 s7 s8 s9 s10 s11)=.ok (rng 1 (r.length:Nat)):=
   iR2 (i:=1) (j:=(r.length:Nat)) (au rfl (au (bf (ts:=[.tup (r.map .int)]) rfl (by show Rs.ok (T.int ((r.map T.int).length:Nat))=_;rw[NW])) rfl)) (by omega) (by omega) (by omega) (by omega)
  have st:L8 (BH R acc i x y r s6 s7 s8 s9 s10 s11)=.ok (.nx (BH R (acc++cB i x y r) i x y r t6 t7 s8 s9 s10 s11)):=(fq (ts:=(O7 (r.length - 1)).map λ(k:Nat)=>T.int ((k+1:Nat):Int)) (by rw[e1,FO _ a3]) e)
  obtain⟨z2,z3,z4,z5,z6,z7,ih⟩:=zU R s8 s9 s10 s11 cs (acc++cB i x y r) (i+1) (.va (.int i)) (.va (.int x)) (.va (.int y)) (.va (.tup (r.map .int))) t6 t7 (λc h=>hc c (NR _ h)) (by rw[N3];omega)
  refine⟨z2,z3,z4,z5,z6,z7,?_⟩
  rw[cM,dz (Z1:=BH R acc i x y r s6 s7 s8 s9 s10 s11) rfl st,ih,bC,sh,Oz]
abbrev llG:T->En->Rs En:=gT 4 (gd (gN 8) (gd (gN 9) (gd (gN 10) (gd (gN 11) rB))))
theorem zN(R:T)(cs:List T)(s2 s3 s4 s5 s6 s7:Sl):∀(ls:List T)(acc:List T)(s8 s9 s10 s11:Sl),(∀t∈ls,br cs t=ZC)->acc.length+2*ls.length<=100 →
  ∃y8 y9 y10 y11,bo llG llF ls [.va R,.ow (.lst acc),s2,s3,s4,s5,s6,s7,s8,s9,s10,s11]=.ok (.nx [.va R,.ow (.lst (acc++ls.flatMap lB)),s2,s3,s4,s5,s6,s7,y8,y9,y10,y11])
 |[],acc,s8,s9,s10,s11,_,_=>⟨s8,s9,s10,s11,by simp[bo]⟩
 |t::ls,acc,s8,s9,s10,s11,hl,hn=>by
  rw[NZ]at hn
  have hlb:=yK t;obtain⟨a,b,mo,le,rfl,_,_⟩:=jW (hl t NU)
  have e2:lB (.tup [a,b,.int le,mo])=.tup [b,a,.int (-le)] ::(if mo.isN then []else [.tup [a,b,mo]]):=rfl
  have e:∀l,o2 fW (vr 11) (cn .non) [.va R,.ow (.lst l),s2,s3,s4,s5,s6,s7,.va a,.va b,.va (.int le),.va mo]=.ok (.bl (!mo.isN)):=λl=>rfl
  have st:llF [.va R,.ow (.lst acc),s2,s3,s4,s5,s6,s7,.va a,.va b,.va (.int le),.va mo]=.ok (.nx [.va R,.ow (.lst (acc++lB (.tup [a,b,.int le,mo]))),s2,s3,s4,s5,s6,s7,.va a,.va b,.va (.int le),.va mo]):=by
   refine(aD (Z':=[.va R,.ow (.lst (acc++[.tup [b,a,.int (-le)]])),s2,s3,s4,s5,s6,s7,.va a,.va b,.va (.int le),.va mo]) (qN (l:=acc) (t:=.tup [b,a,.int (-le)]) (bc (au rfl (au rfl (au (aK (t:=.int 0) (u:=.int le) rfl rfl (congrArg (λz=>Rs.ok (T.int z)) (Int.zero_sub le))) rfl))) (aA (k:=3) (by simp))) rfl (by omega))).trans ?_
   rw[e2]
   cases q:mo.isN with
   |true=>exact(dC (a7 (by rw[e,q];rfl))).trans rfl
   |false=>
    refine(ee (a7 (by rw[e,q];rfl))).trans ((qN (l:=acc++[.tup [b,a,.int (-le)]]) (t:=.tup [a,b,mo]) (bc (au rfl (au rfl (au rfl rfl))) (aA (k:=3) (by simp))) rfl (by rw[N3];simp;omega)).trans ?_)
    rw[Oz]
    rfl
  obtain⟨y8,y9,y10,y11,ih⟩:=zN R cs s2 s3 s4 s5 s6 s7 ls (acc++lB (.tup [a,b,.int le,mo])) (.va a) (.va b) (.va (.int le)) (.va mo) (λu h=>hl u (NR _ h)) (by rw[N3];omega)
  refine⟨y8,y9,y10,y11,?_⟩
  rw[dz (Z1:=[.va R,.ow (.lst acc),s2,s3,s4,s5,s6,s7,.va a,.va b,.va (.int le),.va mo]) rfl st,ih,Q2,Oz]
def Bm(hcs:a8 (.tup cs)=ZC)(hls:∀t∈ls,br cs t=ZC)(hn:ls.length<=8):fQ [RR cs ls]=.ok (.lst (KC cs ls)):=by
 obtain⟨hc,c1,c4⟩:=bu hcs;refine cC rfl ?_
 show ix [.va (RR cs ls),.em,.em,.em,.em,.em,.em,.em,.em,.em,.em,.em]=_
 unfold ix;rw[aD (Z':=[.va (RR cs ls),.ow (.lst []),.em,.em,.em,.em,.em,.em,.em,.em,.em,.em]) (yN (by simp))]
 obtain⟨y2,y3,y4,y5,y6,y7,e⟩:=zU (RR cs ls) .em .em .em .em cs [] 0 .em .em .em .em .em .em hc (by simp;omega)
 rw[aD ((fq (ts:=cM 0 cs) rfl e))]
 have:=vg (i:=0) hc;obtain⟨y8,y9,y10,y11,e2⟩:=zN (RR cs ls) cs y2 y3 y4 y5 y6 y7 ls ([] ++bC 0 cs) .em .em .em .em hls (by rw[PU];omega)
 rw[aD ((fq (ts:=ls) rfl e2))]
 rfl
variable{l:List T}
def iQ:(T.tup l).pl=plS l:=by unfold T.pl;rfl
def Good.parts(g:Good cs ls):(T.tup cs).pl=ZC/\∀t∈ls,t.pl=ZC:=by
 have:=g.p;rw[iQ]at this;unfold plS at this;rw[NX]at this
 have h2:=this.2;unfold plS at h2;rw[NX,iQ]at h2;exact⟨this.1,λt ht=>gq h2.1 ht⟩
def Good.sub{ms:List T}(g:Good cs ls)(hm:∀t∈ms,t∈ls)(hn:ms.length<=8):Good cs ms:=⟨g.c,λt ht=>g.l t (hm t ht),hn,by
 obtain⟨h1,h2⟩:=g.parts;rw[iQ];refine iV λt ht=>?_
 simp only[N0,Pm,or_false]at ht;rcases ht with rfl|rfl
 ·exact h1
 ·rw[iQ];exact iV λt ht=>h2 t (hm t ht)⟩
def HW{y:T}(h:bq cs y=ZC):y.pl=ZC/\y.dep<=1:=by
 obtain⟨c,k,rfl⟩:=dR h;exact⟨rfl,by simp[T.dep,deps]⟩
def LZ{a b x y:T}(h:br cs (.tup [a,b,x,y])=ZC):y.pl=ZC/\y.dep=0:=by
 obtain⟨a',b',x',y',e,hd,_⟩:=fm h;cases e;unfold dY at hd;rw[NX]at hd;obtain⟨i,rfl,_⟩:=b9 hd.1
 cases y with
 |non=>exact⟨rfl,rfl⟩
 |int j=>exact⟨rfl,rfl⟩
 |bl j=>exact⟨rfl,rfl⟩
 |str j=>exact⟨rfl,rfl⟩
 |tup j=>cases hd.2
 |lst j=>cases hd.2
 |scr j=>cases hd.2
 |dct _ _=>cases hd.2
 |ob _ _ _=>cases hd.2
def v8(c0 s1:Sl)(x y:T)(r:List T)(i:Nat)(h:r.length<=4):
  gC (iR (ae (cl bX (ae (o2 aQ (vr 3) (cn (.int 2))) aj)) aj)) [ZB,ZA 2] (gN 0) bT (aP (ae (vr 1) (ae (vr 0) aj))) [c0,s1,.va (.int i),.va (.tup [x,y,.tup r])]=.ok (.lst (oN i r.length)):=
 xb (Kc (j:=(r.length:Int)) rfl (by omega) (by omega)) (aA (k:=4) (by rw[mi];exact h)) (by simp) λt _=>mk2 _ _
theorem zG:∀(cs:List T)(c0:T)(acc:List T)(i:Nat)(s2 s3:Sl),(∀c∈cs,bL c=ZC)->acc.length+4*cs.length<=100 →
  ∃y2 y3,bo evG peF (cM i cs) [.va c0,.ow (.lst acc),s2,s3]=.ok (.nx [.va c0,.ow (.lst (acc++fS i cs)),y2,y3])
 |[],c0,acc,i,s2,s3,_,_=>⟨s2,s3,by simp[cM,bo,fS]⟩
 |c::cs,c0,acc,i,s2,s3,hc,hl=>by
  obtain⟨x,y,r,rfl,r1,r2⟩:=hW (hc c NU);rw[NZ]at hl
  have st:peF [.va c0,.ow (.lst acc),.va (.int i),.va (.tup [x,y,.tup r])]=.ok (.nx [.va c0,.ow (.lst (acc++oN i r.length)),.va (.int i),.va (.tup [x,y,.tup r])]):=DT (l:=acc) (v8 _ _ x y r i r2) rfl (by rw[kl];omega)
  obtain⟨z2,z3,ih⟩:=zG cs c0 (acc++oN i r.length) (i+1) (.va (.int i)) (.va (.tup [x,y,.tup r])) (λc h=>hc c (NR _ h)) (by rw[N3,kl];omega)
  refine⟨z2,z3,?_⟩
  rw[cM,dz (Z1:=[.va c0,.ow (.lst acc),.va (.int i),.va (.tup [x,y,.tup r])]) rfl st,ih,fS,Oz]
  rfl
def C5(g:Good cs ls):jS [RR cs ls]=.ok (.lst (fS 0 cs)):=by
 obtain⟨hc,c1,c4⟩:=bu g.c;refine cC rfl ?_
 show rn [.va (RR cs ls),.em,.em,.em]=_
 unfold rn;rw[aD (r8 (t:=.non) (bf (ts:=[RR cs ls]) rfl (fh g.p g.ok)))];rw[aD (Z':=[.va (RR cs ls),.ow (.lst []),.em,.em]) (yN (by simp))]
 obtain⟨y2,y3,e⟩:=zG cs (RR cs ls) [] 0 .em .em hc (by simp;omega)
 rw[aD ((fq (ts:=cM 0 cs) rfl e))]
 rfl
variable{a:V5}
def p2{b:V5}{t u:T}(ha:a Z=.ok t)(hb:b Z=.ok u):aP (ae a (ae b aj)) Z=.ok (.tup [t,u]):=bc (au ha (au hb rfl)) (aA (k:=2) (by simp))
def Hf(g:Good cs ls):(KC cs ls).length<=60:=by
 unfold KC;rw[N3];obtain⟨hc,c1,c4⟩:=bu g.c
 have:=vg (i:=0) hc
 have:=zW ls
 have:=g.n;omega
open Gr
structure N2 where
 c:Int
 k:Int
deriving DecidableEq
theorem N2.ext':∀{u v:N2},u.c=v.c->u.k=v.k->u=v
 |⟨_,_⟩,⟨_,_⟩,rfl,rfl=>rfl
def en(v:N2):T:=.tup [.int v.c,.int v.k]
def eB(x:N2×N2×Int):T:=.tup [en x.1,en x.2.1,.int x.2.2]
def eN(ks:List Nat):List T:=ks.map λk=>.int (k:Nat)
def eW(x:Int×List Nat):T:=.tup [.int x.1,.lst (eN x.2)]
def ky(v:N2):List L2.Key:=[.inl v.c,.inl v.k]
def bx(v:N2):keyOf (en v)=ZA (ky v):=rfl
variable{v:N2}
def iY{u:N2}(h:ZA (ky u)=ZA (ky v)):u=v:=by
 injection h with h
 injection h with h1 h2
 injection h2 with h2 _
 injection h1 with h1
 injection h2 with h2
 exact N2.ext' h1 h2
def Ki{u:N2}(h:en u=en v):u=v:=iY (by rw[<-bx u,<-bx v,h])
def EN(u v:N2):bj (en u) (en v)=decide (u=v):=by
 unfold en bj beqTs bj beqTs beqTs
 by_cases h:u=v
 ·subst h;simp[bj]
 ·have:¬ (u.c=v.c/\u.k=v.k):=λz=>h (N2.ext' z.1 z.2)
  simp[h,bj];exact λz=>λy=>this ⟨z,y⟩
theorem ph(g:N2->T)(v:N2):∀(ns:List N2),oO (ns.map en) (ns.map g) (ky v)=if v∈ns then ZA (g v)else ZB
 |[] =>rfl
 |u::ns=>by
  rw[NT,NT,oO,bx]
  by_cases h:u=v
  ·subst h;rw[if_pos rfl,if_pos NU]
  ·rw[if_neg (λz=>h (iY z)),ph g v ns]
   have:(v∈u::ns)↔v∈ns:=by rw[N0];exact⟨λz=>z.elim (λy=>absurd y.symm h) id,.inr⟩
   simp only[this]
theorem qV(x:T)(v:N2)(g:N2->T):∀(ns:List N2),v∉ns->gV (en v) x (ns.map en) (ns.map g)=(ns.map en++[en v],ns.map g++[x])
 |[],_=>rfl
 |u::ns,h=>by
  rw[N0,not_or]at h;rw[NT,NT,gV,bx,bx,if_neg (λz=>h.1 (iY z).symm),qV x v g ns h.2]
  rfl
theorem u6(x:T)(v:N2)(g:N2->T):∀(ns:List N2),ns.Nodup->v∈ns->gV (en v) x (ns.map en) (ns.map g)=(ns.map en,ns.map λu=>if u=v then x else g u)
 |[],_,h=>by simp at h
 |u::ns,hn,h=>by
  rw[On]at hn;rw[NT,NT,NT,gV,bx,bx]
  by_cases z:u=v
  ·subst z
   rw[if_pos rfl,if_pos rfl]
   congr 2
   exact O6 λw hw=>by rw[if_neg (λ(y:w=u)=>hn.1 (y▸hw))]
  ·rw[if_neg (λy=>z (iY y)),if_neg z]
   have h':v∈ns:=(N0.mp h).elim (λy=>absurd y.symm z) id
   rw[u6 x v g ns hn.2 h']
theorem kH [DecidableEq α]:∀{l m:List α},l.Nodup->(∀x∈l,x∈m)->l.length<=m.length
 |[],_,_,_=>P9 _
 |x::l,m,hn,h=>by
  rw[On]at hn
  have hx:=h x NU
  have:=kH (m:=m.erase x) hn.2 λy hy=>(TJ (λ(z:y=x)=>hn.1 (z▸hy))).mpr (h y (NR _ hy))
  rw[List.length_erase_of_mem hx]at this
  have:0<m.length:=List.length_pos_of_mem hx;rw[NZ];omega
def oW(o:Option (Int×List Nat)):T:=match o with
 |some x=>eW x
 |none=>.non
structure DR (P ns:List N2)(b:cO N2):Prop where
 nd:ns.Nodup
 mem:∀v,v∈ns↔(b v).isSome=ZC
 sub:∀v∈ns,v∈P
def dV(ns:List N2)(b:cO N2):List T:=ns.map λv=>oW (b v)
variable{P ns:List N2}{b:cO N2}
def DR.get(D:DR P ns b)(v:N2):oO (ns.map en) (dV ns b) (ky v)=(b v).map eW:=by
 unfold dV;rw[ph (λv=>oW (b v))]
 have:=D.mem v
 cases q:b v with
 |none=>rw[q]at this;rw[if_neg (λz=>by simpa using this.mp z)];rfl
 |some x=>rw[q]at this;rw[if_pos (this.mpr rfl)];rfl
def DR.put(D:DR P ns b)(hv:v∈P)(y:Int×List Nat):∃ns',DR P ns' (Gr.put b v y)/\gV (en v) (eW y) (ns.map en) (dV ns b)=(ns'.map en,dV ns' (Gr.put b v y)):=by
 by_cases h:v∈ns
 ·refine⟨ns,⟨D.nd,λu=>?_,D.sub⟩,?_⟩
  ·by_cases z:u=v
   ·subst z;rw[fg];exact⟨λ_=>rfl,λ_=>h⟩
   ·rw[lG z];exact D.mem u
  ·unfold dV
   rw[u6 _ _ _ _ D.nd h]
   congr 1
   refine O6 λu _=>?_
   by_cases z:u=v
   ·subst z;rw[if_pos rfl,fg];rfl
   ·rw[if_neg z,lG z]
 ·refine⟨ns++[v],⟨?_,λu=>?_,λu hu=>?_⟩,?_⟩
  ·exact OW.mpr ⟨D.nd,by simp,λx hx y hy=>by simp at hy;subst hy;exact λz=>h (z▸hx)⟩
  ·rw[Oq,Oa]
   by_cases z:u=v
   ·subst z;rw[fg];exact⟨λ_=>rfl,λ_=>.inr rfl⟩
   ·rw[lG z,<-D.mem u];exact⟨λw=>w.elim id λy=>absurd y z,.inl⟩
  ·rcases Oq.mp hu with w|w
   ·exact D.sub u w
   ·rw[Oa.mp w];exact hv
  ·unfold dV
   rw[qV _ _ _ _ h,Pc,Pc]
   congr 1
   congr 1
   ·refine O6 λu hu=>?_
    rw[lG (λ(z:u=v)=>h (z▸hu))]
   ·simp[fg,oW]
def ED(D:DR P ns b)(x:N2×N2×Int)(d:Int)(w:List Nat):
  dM [.dct (ns.map en) (dV ns b),eB x,eW (d,w)]=.ok (.bl (fw b x.2.1 (d+x.2.2))):=by
 refine cC rfl ?_
 show kr [.va (.dct (ns.map en) (dV ns b)),.va (eB x),.va (eW (d,w)),.em]=_
 unfold kr
 have g:oD jv (vr 0) (o2 aQ (vr 1) (cn (.int 1))) [.va (.dct (ns.map en) (dV ns b)),.va (eB x),.va (eW (d,w)),.em]=.ok (oW (b x.2.1)):=by
  refine Me (ks:=ns.map en) (vs:=dV ns b) (u:=en x.2.1) rfl rfl ?_
  unfold jv;rw[bx];simp only[D.get];cases b x.2.1 <;> rfl
 rw[aD (bM (t:=oW (b x.2.1)) (Z':=[.va (.dct (ns.map en) (dV ns b)),.va (eB x),.va (eW (d,w)),.va (oW (b x.2.1))]) g rfl)];refine cZ ?_
 unfold fw
 cases q:b x.2.1 with
 |none=>exact J0 (aK (t:=.non) (u:=.non) rfl rfl rfl)
 |some y=>exact(J1 (aK (t:=eW y) (u:=.non) rfl rfl rfl)).trans (aK (t:=.int (d+x.2.2)) (u:=.int y.1) rfl rfl rfl)
abbrev MN:T->En->Rs En:=gT 2 (gd (gN 4) (gd (gN 5) rB))
def eL(L:cu N2):T:=.lst (L.map eB)
def Cq(L:cu N2)(t:T):T:=match t with
 |.int j=>match L[j.toNat]? with
  |some x=>en x.1
  |none=>.non
 |_=>.non
variable{L:cu N2}
theorem zL:∀{ks:List Nat}{a b:N2},Ch L a ks b->(eN ks).map (Cq L)=(fz L ks).map en
 |[],_,_,_=>rfl
 |k::r,a,b,h=>by
  rw[h.KM];obtain⟨c,m,e,h⟩:=h
  show Cq L (.int k)::(eN r).map (Cq L)=en a::(fz L r).map en
  rw[zL h]
  congr 1
  unfold Cq;simp only[PJ,e]
theorem ET(v:N2):∀(l:List N2),tD (en v) (l.map en)=decide (v∈l)
 |[] =>rfl
 |u::l=>by
  have ih:=ET v l;unfold tD at ih ⊢;rw[NT,QH,ih,EN]
  by_cases h:u=v
  ·subst h;simp
  ·have h':¬ v=u:=λz=>h z.symm
   simp[h,h']
theorem xk(v:N2):∀(l:List N2)(n:Nat),v∈l->kS (en v) (l.map en) n=ZA (n+l.idxOf v)
 |[],n,h=>by simp at h
 |u::l,n,h=>by
  rw[NT,kS,EN,Vw]
  by_cases z:u=v
  ·subst z;simp
  ·have h':v∈l:=(N0.mp h).elim (λy=>absurd y.symm z) id
   have zb:(u == v)=ZD:=by rw[beq_eq_false_iff_ne];exact z
   rw[zb,decide_eq_false z,if_neg N9,xk v l (n+1) h'];simp only[cond_false]
   congr 1
   omega
def HJ(v:N2):(en v).nd=ZC:=rfl
theorem uR(f:α->T)(h:∀a,(f a).nd=ZC):∀l:List α,nds (l.map f)=ZC
 |[] =>rfl
 |a::l=>by rw[NT,nds,h a,uR f h l];rfl
def EH(v:N2):(en v).dep<=60:=by show(T.tup [.int v.c,.int v.k]).dep<=60;simp[T.dep,deps]
def Mp(v:N2)(l:List N2):KP (en v) (.lst (l.map en))=.ok (.bl (decide (v∈l))):=by
 show(if (_\/_)/\_/\(T.lst (l.map en)).nd=ZC then _ else _)=_
 rw[if_pos ⟨.inl (EH v),rfl,uR en HJ l⟩,ET]
def D2(v:N2)(l:List N2)(h:v∈l):hI (.lst (l.map en)) (en v)=.ok (.int ((l.idxOf v:Nat):Int)):=by
 unfold hI;simp only;rw[if_pos ⟨.inl (EH v),rfl,uR en HJ l⟩,xk v l 0 h,Nat.zero_add]
def Kq(p q:List Nat):eN (p++q)=eN p++eN q:=by unfold eN;rw[Pc]
theorem Di(D:Bool):∀ks:List Nat,nks D (eN ks)=ZC
 |[] =>rfl
 |k::r=>by show nks D (.int k::eN r)=ZC;unfold nks;rw[Di D r];rfl
def Ch.len{a b:N2}(h:Ch L a ks b)(hn:(fz L ks).Nodup):ks.length<=L.length:=by
 have:=kH (h.nodup hn) (m:=O7 L.length) λk hk=>Pv.mpr (h.lt k hk)
 rwa [Qz]at this
abbrev sE(L:cu N2)(st:T)(o:OT)(b:Bool)(k:Nat)(x:N2×N2×Int)(s6 s7 s8:Sl):En:=[.va (eL L),.va st,.ow o,.va (.bl b),.va (.int k),.va (eB x),s6,s7,s8]
def HZ(L:cu N2)(P ns:List N2)(b:cO N2)(k:Nat)(x:N2×N2×Int)(st:T)(mv:Bool)(s6 s7 s8:Sl):Sum (Option (cO N2)) (List Nat)->Prop
 |.inl ZB=>∃s6' s7' s8',E9 (sE L st (.dct (ns.map en) (dV ns b)) mv k x s6 s7 s8)=.ok (.ct (sE L st (.dct (ns.map en) (dV ns b)) mv k x s6' s7' s8'))
 |.inl (ZA b')=>∃ns' s6' s7' s8',DR P ns' b'/\E9 (sE L st (.dct (ns.map en) (dV ns b)) mv k x s6 s7 s8)=.ok (.nx (sE L st (.dct (ns'.map en) (dV ns' b')) ZC k x s6' s7' s8'))
 |.inr q=>E9 (sE L st (.dct (ns.map en) (dV ns b)) mv k x s6 s7 s8)=.ok (.rt (.tup [.non,.lst (eN q)]))
def FJ{S:List N2}{x:N2×N2×Int}(K:Kept L S b)(D:DR P ns b)(hL:L.length<=500)(hP:P.length<1000)(e:L[k]?=ZA x)(hx:x.2.1∈P)(st:T)(mv:Bool)(s6 s7 s8:Sl):
  HZ L P ns b k x st mv s6 s7 s8 (iF L b k x):=by
 obtain⟨a,c,m⟩:=x;unfold HZ
 generalize hks:ns.map en=ks
 generalize hvs:dV ns b=vs
 have get:∀s7 s8,ln 2 (oD jv (vr 2) (o2 aQ (vr 5) (cn (.int 0)))) (sE L st (.dct ks vs) mv k (a,c,m) s6 s7 s8)=.ok (oW (b a)):=λs7 s8=>by
  refine yP (o:=.dct ks vs) rfl (Me (ks:=ks) (vs:=vs) (u:=en a) rfl rfl ?_) ?_
  ·unfold jv
   rw[bx,<-hks,<-hvs];simp only[D.get];cases b a <;> rfl
  ·cases b a with
   |none=>rfl
   |some y=>show nks ZC [.int y.1,.lst (eN y.2)]=ZC;simp[nks,T.nk,Di]
 have s1:∀G,aB (b7 (ln 2 (oD jv (vr 2) (o2 aQ (vr 5) (cn (.int 0))))) (gN 6)) G (sE L st (.dct ks vs) mv k (a,c,m) s6 s7 s8)=G (sE L st (.dct ks vs) mv k (a,c,m) (.va (oW (b a))) s7 s8):=λG=>
  aD (bM (t:=oW (b a)) (get s7 s8) rfl)
 cases qa:b a with
 |none=>
  rw[show iF L b k (a,c,m)=.inl ZB from by unfold iF;simp only[qa]]
  simp only;refine⟨.va .non,s7,s8,?_⟩
  unfold E9;rw[s1,qa]
  exact DL (ee (F:=HE) (HN (a7 (aK (t:=.non) (u:=.non) rfl rfl rfl))))
 |some y=>
  obtain⟨d,w⟩:=y
  have bt:∀s7 s8,Fc 2 (tb (cl dM (ae (vr 2) (ae (vr 5) (ae (vr 6) aj))))) (sE L st (.dct ks vs) mv k (a,c,m) (.va (eW (d,w))) s7 s8)=.ok (fw b c (d+m)):=λs7 s8=>by
   refine DQ (a7 (bf (ts:=[.dct ks vs,eB (a,c,m),eW (d,w)]) rfl ?_))
   rw[<-hks,<-hvs];exact ED D (a,c,m) d w
  have nn:tb (o2 kc (vr 6) (cn .non)) (sE L st (.dct ks vs) mv k (a,c,m) (.va (eW (d,w))) s7 s8)=.ok ZD:=a7 (aK (t:=eW (d,w)) (u:=.non) rfl rfl rfl)
  have cond:=zY nn (qM (bt s7 s8))
  have s1':∀G,aB (b7 (ln 2 (oD jv (vr 2) (o2 aQ (vr 5) (cn (.int 0))))) (gN 6)) G (sE L st (.dct ks vs) mv k (a,c,m) s6 s7 s8)=G (sE L st (.dct ks vs) mv k (a,c,m) (.va (eW (d,w))) s7 s8):=λG=>by rw[s1 G,qa];rfl
  cases hb:fw b c (d+m)with
  |false=>
   rw[show iF L b k (a,c,m)=.inl ZB from by unfold iF;simp only[qa,hb];rfl]
   simp only;rw[hb]at cond;refine⟨.va (eW (d,w)),s7,s8,?_⟩
   unfold E9;rw[s1']
   exact DL (ee (F:=HE) cond)
  |true=>
   rw[hb]at cond;obtain⟨s,hs,h1,h2,h3,h4,h5⟩:=K.walk a d w qa
   have hch:Ch L s (w++[k]) c:=h1.snoc e
   have hwl:w.length<=500:=O4 (Ch.len h1 h4) hL
   have s2:∀G,aB (eX (m5 (tb (o2 kc (vr 6) (cn .non))) (d8 (Fc 2 (tb (cl dM (ae (vr 2) (ae (vr 5) (ae (vr 6) aj)))))))) HE sN) G (sE L st (.dct ks vs) mv k (a,c,m) (.va (eW (d,w))) s7 s8)=G (sE L st (.dct ks vs) mv k (a,c,m) (.va (eW (d,w))) s7 s8):=λG=>
    aD (Z':=(sE L st (.dct ks vs) mv k (a,c,m) (.va (eW (d,w))) s7 s8)) ((dC (F:=HE) (G:=sN) cond).trans rfl)
   have wk:o2 aM (o2 aQ (vr 6) (cn (.int 1))) (de (ae (vr 4) aj)) (sE L st (.dct ks vs) mv k (a,c,m) (.va (eW (d,w))) s7 s8)=.ok (.lst (eN (w++[k]))):=by
    refine aK (t:=.lst (eN w)) (u:=.lst (eN [k])) rfl (gn (ts:=[.int k]) rfl (aA (k:=1) (by simp))) ?_
    show lA (eN w++eN [k])=_
    rw[<-Kq];unfold lA;rw[if_pos (aA (k:=1000) (by unfold eN;rw[NW,N3];simp;omega))]
   have s3:∀G,aB (b7 (o2 aM (o2 aQ (vr 6) (cn (.int 1))) (de (ae (vr 4) aj))) (gN 7)) G (sE L st (.dct ks vs) mv k (a,c,m) (.va (eW (d,w))) s7 s8)=G (sE L st (.dct ks vs) mv k (a,c,m) (.va (eW (d,w))) (.va (.lst (eN (w++[k])))) s8):=λG=>aD (bM wk rfl)
   have ps:gC (iS (vr 7)) [ZB,ZA 0] (gN 0) bT (o2 aQ (o2 aQ (vr 1) (vr 0)) (cn (.int 0))) (sE L st (.dct ks vs) mv k (a,c,m) (.va (eW (d,w))) (.va (.lst (eN (w++[k])))) s8)=.ok (.lst ((fz L (w++[k])).map en)):=by
    rw[<-zL hch];refine xb (ts:=eN (w++[k])) (xc rfl) (aA (k:=1000) (by unfold eN;rw[NW,N3];simp;omega)) (by simp) λt ht=>?_
    unfold eN at ht;obtain⟨j,hj,rfl⟩:=Ov.mp ht
    have hjl:=hch.lt j hj;refine aK (t:=eB L[j]) (u:=.int 0) (Aa (l:=L.map eB) (n:=j) rfl rfl (by rw[Oj,N6 hjl];rfl)) rfl ?_
    unfold Cq;simp only[PJ,N6 hjl]
    rfl
   have s4:∀G,aB (b7 (gC (iS (vr 7)) [ZB,ZA 0] (gN 0) bT (o2 aQ (o2 aQ (vr 1) (vr 0)) (cn (.int 0)))) (gN 8)) G (sE L st (.dct ks vs) mv k (a,c,m) (.va (eW (d,w))) (.va (.lst (eN (w++[k])))) s8)=G (sE L st (.dct ks vs) mv k (a,c,m) (.va (eW (d,w))) (.va (.lst (eN (w++[k])))) (.va (.lst ((fz L (w++[k])).map en)))):=λG=>aD (bM ps rfl)
   have inn:tb (o2 KP (o2 aQ (vr 5) (cn (.int 1))) (vr 8)) (sE L st (.dct ks vs) mv k (a,c,m) (.va (eW (d,w))) (.va (.lst (eN (w++[k])))) (.va (.lst ((fz L (w++[k])).map en))))=.ok (decide (c∈fz L (w++[k]))):=
    a7 (aK (t:=en c) (u:=.lst ((fz L (w++[k])).map en)) rfl rfl (Mp c _))
   by_cases hn:c∈fz L (w++[k])
   ·rw[show iF L b k (a,c,m)=.inr ((w++[k]).drop ((fz L (w++[k])).idxOf c))from by unfold iF;simp only[qa,hb,if_pos hn,if_true]]
    simp only;unfold E9;rw[s1',s2,s3,s4];rw[decide_eq_true hn]at inn;refine ik ((ee inn).trans (cZ ?_))
    have sle:sl (vr 7) (pS (oL hI (vr 8) (o2 aQ (vr 5) (cn (.int 1))))) pN (sE L st (.dct ks vs) mv k (a,c,m) (.va (eW (d,w))) (.va (.lst (eN (w++[k])))) (.va (.lst ((fz L (w++[k])).map en))))=.ok (.lst (eN ((w++[k]).drop ((fz L (w++[k])).idxOf c)))):=by
     rw[DK (l:=eN (w++[k])) (lo:=ZA (((fz L (w++[k])).idxOf c:Nat):Int)) (hi:=ZB) rfl (Bd (k_oL (ks:=(fz L (w++[k])).map en) (u:=en c) rfl rfl (D2 c _ hn))) rfl,xy];unfold eN;rw[List.map_drop]
    exact(bc (ts:=[.non,.lst (eN ((w++[k]).drop ((fz L (w++[k])).idxOf c)))]) (au rfl (au sle rfl)) (aA (k:=2) (by simp)))
   ·rw[show iF L b k (a,c,m)=.inl (ZA (Gr.put b c (d+m,w++[k])))from by unfold iF;simp only[qa,hb,if_neg hn,if_true]]
    simp only;rw[decide_eq_false hn]at inn;obtain⟨ns',D',hd⟩:=D.put hx (d+m,w++[k]);refine⟨ns',.va (eW (d,w)),.va (.lst (eN (w++[k]))),.va (.lst ((fz L (w++[k])).map en)),D',?_⟩
    unfold E9;rw[s1',s2,s3,s4];rw[aD (Z':=(sE L st (.dct ks vs) mv k (a,c,m) (.va (eW (d,w))) (.va (.lst (eN (w++[k])))) (.va (.lst ((fz L (w++[k])).map en))))) ((dC (G:=sN) inn).trans rfl)]
    have pt:AM 2 (o2 aQ (vr 5) (cn (.int 1))) (aP (ae (o2 aM (o2 aQ (vr 6) (cn (.int 0))) (o2 aQ (vr 5) (cn (.int 2)))) (ae (vr 7) aj))) (sE L st (.dct ks vs) mv k (a,c,m) (.va (eW (d,w))) (.va (.lst (eN (w++[k])))) (.va (.lst ((fz L (w++[k])).map en))))
      = .ok (.nx (sE L st (.dct (ns'.map en) (dV ns' (Gr.put b c (d+m,w++[k])))) mv k (a,c,m) (.va (eW (d,w))) (.va (.lst (eN (w++[k])))) (.va (.lst ((fz L (w++[k])).map en))))):=by
     have ev:aP (ae (o2 aM (o2 aQ (vr 6) (cn (.int 0))) (o2 aQ (vr 5) (cn (.int 2)))) (ae (vr 7) aj)) (sE L st (.dct ks vs) mv k (a,c,m) (.va (eW (d,w))) (.va (.lst (eN (w++[k])))) (.va (.lst ((fz L (w++[k])).map en))))=.ok (eW (d+m,w++[k])):=
      bc (ts:=[.int (d+m),.lst (eN (w++[k]))]) rfl (aA (k:=2) (by simp))
     have ek:o2 aQ (vr 5) (cn (.int 1)) (sE L st (.dct ks vs) mv k (a,c,m) (.va (eW (d,w))) (.va (.lst (eN (w++[k])))) (.va (.lst ((fz L (w++[k])).map en))))=.ok (en c):=rfl
     show(aP _ _ >>= λv=>o2 aQ (vr 5) (cn (.int 1)) _ >>= λkk=>match keyOf kk with|some _=>if ks.length<1000 then Rs.ok (Fl.nx _)else .bad|none=>.bad)=_
     rw[ev,ay,ek,ay,bx]
     have hlen:ks.length<1000:=by rw[<-hks,NW];exact Ul (kH D.nd D.sub) hP
     simp only[if_pos hlen]
     have hd1:gV (en c) (eW (d+m,w++[k])) ks vs=(ns'.map en,dV ns' (Gr.put b c (d+m,w++[k]))):=by rw[<-hks,<-hvs];exact hd
     rw[hd1]
     rfl
    rw[aD pt];exact bM (t:=.bl ZC) rfl rfl
noncomputable def BG(L:cu N2)(st:T)(ns:List N2)(b:cO N2)(mv:Bool)(s4 s5 s6 s7 s8:Sl):En:=[.va (eL L),.va st,.ow (.dct (ns.map en) (dV ns b)),.va (.bl mv),s4,s5,s6,s7,s8]
def EV(L:cu N2)(P:List N2)(st:T)(X:Rs Fl):Sum (cO N2×Bool) (List Nat)->Prop
 |.inr q=>X=.ok (.rt (.tup [.non,.lst (eN q)]))
 |.inl (b',mv')=>∃ns' s4 s5 s6 s7 s8,DR P ns' b'/\X=.ok (.nx (BG L st ns' b' mv' s4 s5 s6 s7 s8))
theorem tR{S:List N2}(hL:L.length<=500)(hP:P.length<1000)(hx:∀x∈L,x.2.1∈P)(st:T):∀(r:cu N2)(k:Nat)(b:cO N2)(mv:Bool)(ns:List N2)(s4 s5 s6 s7 s8:Sl),L.drop k=r->Kept L S b->DR P ns b →
  EV L P st (bo MN E9 (cM k (r.map eB)) (BG L st ns b mv s4 s5 s6 s7 s8)) (jf L k r b mv)
 |[],k,b,mv,ns,s4,s5,s6,s7,s8,_,K,D=>⟨ns,s4,s5,s6,s7,s8,D,rfl⟩
 |x::r,k,b,mv,ns,s4,s5,s6,s7,s8,hr,K,D=>by
  have e:L[k]?=ZA x:=by
   have:=congrArg (·[0]?) hr
   simpa using this
  have hr':L.drop (k+1)=r:=by
   have:=congrArg (List.drop 1) hr
   simpa [List.drop_drop,UU]using this
  have tg:MN (.tup [.int k,eB x]) (BG L st ns b mv s4 s5 s6 s7 s8)=.ok [.va (eL L),.va st,.ow (.dct (ns.map en) (dV ns b)),.va (.bl mv),.va (.int k),.va (eB x),s6,s7,s8]:=rfl
  have tn:=FJ K D hL hP e (hx x (Ot e)) st mv s6 s7 s8;rw[jf,NT,cM]
  cases q:iF L b k x with
  |inr w=>
   rw[q]at tn;simp only;unfold EV
   exact z9 tg tn
  |inl o=>
   rw[q]at tn
   cases o with
   |none=>
    obtain⟨s6',s7',s8',tn⟩:=tn;simp only;rw[GS tg tn]
    exact tR hL hP hx st r (k+1) b mv ns _ _ _ _ _ hr' K D
   |some b'=>
    obtain⟨ns',s6',s7',s8',D',tn⟩:=tn;simp only;rw[dz tg tn];refine tR (S:=S) hL hP hx st r (k+1) b' ZC ns' _ _ _ _ _ hr' ?_ D'
    obtain⟨a,c,m⟩:=x;unfold iF at q
    cases qa:b a with
    |none=>simp only[qa]at q;cases q
    |some y=>
     obtain⟨d,w⟩:=y;simp only[qa]at q
     split at q
     ·rename_i hb
      split at q
      ·cases q
      ·rename_i hn
       cases q;exact K.put e qa hb hn
     ·cases q
abbrev wF:V4:=aB (b7 (cn (.bl ZD)) (gN 3)) (fA (iE (ae (vr 0) aj)) MN E9)
def SetP(L:cu N2)(P:List N2)(st:T)(X:Rs Fl):Sum (cO N2) (List Nat)->Prop
 |.inr q=>X=.ok (.rt (.tup [.non,.lst (eN q)]))
 |.inl b'=>∃ns' s4 s5 s6 s7 s8,DR P ns' b'/\X=.ok (.nx (BG L st ns' b' ZD s4 s5 s6 s7 s8))
theorem vN{S:List N2}(hL:L.length<=500)(hP:P.length<1000)(hx:∀x∈L,x.2.1∈P)(st:T):∀(n:Nat)(b:cO N2)(ns:List N2)(s4 s5 s6 s7 s8:Sl)(r:Sum (cO N2) (List Nat)),Kept L S b->DR P ns b->Gr.settle L n b=ZA r →
  SetP L P st (bY (tb (vr 3)) wF (n+1) (BG L st ns b ZC s4 s5 s6 s7 s8)) r
 |0,_,_,_,_,_,_,_,_,_,_,h=>by cases h
 |n+1,b,ns,s4,s5,s6,s7,s8,r,K,D,h=>by
  have sw:=tR hL hP hx st L 0 b ZD ns s4 s5 s6 s7 s8 rfl K D
  have ok:=jB (S:=S) L 0 b ZD rfl K
  have body:∀X,bo MN E9 (cM 0 (L.map eB)) (BG L st ns b ZD s4 s5 s6 s7 s8)=.ok X->wF (BG L st ns b ZC s4 s5 s6 s7 s8)=.ok X:=λX hX=>by
   show aB _ _ _=_
   rw[aD (Z':=BG L st ns b ZD s4 s5 s6 s7 s8) (bM (t:=.bl ZD) rfl rfl)];exact fq (ts:=cM 0 (L.map eB)) (Mh rfl) hX
  have tt:tb (vr 3) (BG L st ns b ZC s4 s5 s6 s7 s8)=.ok ZC:=rfl;rw[Gr.settle]at h
  revert sw ok h
  generalize jf L 0 L b ZD=R
  intro h sw ok
  cases R with
  |inr q=>
   simp only at h;cases h
   exact DG tt (body _ sw)
  |inl p=>
   obtain⟨b',mv'⟩:=p;obtain⟨ns',t4,t5,t6,t7,t8,D',sw⟩:=sw;obtain⟨K',_⟩:=ok
   cases mv' with
   |true=>
    simp only at h
    have ih:=vN hL hP hx st n b' ns' t4 t5 t6 t7 t8 r K' D' h;rw[w9 tt (body _ sw)]
    exact ih
   |false=>
    simp only at h;cases h;refine⟨ns',t4,t5,t6,t7,t8,D',?_⟩
    rw[w9 tt (body _ sw)];exact DH rfl
theorem iM{c:V6}{F:V4}{x:Fl}:∀{n m:Nat}{Z:En},n<=m->bY c F n Z=.ok x->bY c F m Z=.ok x
 |0,_,_,_,h=>by cases h
 |n+1,0,_,hl,_=>absurd hl (by omega)
 |n+1,m+1,Z,hl,h=>by
  unfold bY at h ⊢
  cases q:c Z with
  |bad=>rw[q]at h;cases h
  |err _=>rw[q]at h;cases h
  |ok k=>
   rw[q]at h
   cases k with
   |false=>exact h
   |true=>
    simp only at h ⊢
    cases q2:F Z with
    |bad=>rw[q2]at h;cases h
    |err _=>rw[q2]at h;cases h
    |ok f=>
     rw[q2]at h
     cases f with
     |nx Z'=>exact iM (by omega) h
     |ct Z'=>exact iM (by omega) h
     |bk Z'=>exact h
     |rt t=>exact h
theorem CT(w:T):∀S:List N2,KN (S.map λv=>.tup [en v,w])=ZA (S.map λv=>(en v,w))
 |[] =>rfl
 |v::S=>by rw[NT,KN,bx,CT w S];rfl
theorem xq(w:T):∀(S ns:List N2)(g:N2->T),(ns++S).Nodup->(∀v∈S,g v=w)->km (S.map λv=>(en v,w)) (ns.map en,ns.map g)=((ns++S).map en,(ns++S).map g)
 |[],ns,g,_,_=>by rw[Ou];rfl
 |v::S,ns,g,hn,hg=>by
  have hv:v∉ns:=λz=>by
   rw[OW]at hn;exact hn.2.2 v z v NU rfl
  rw[NT,km,qV _ _ _ _ hv]
  have e1:ns.map en++[en v]=(ns++[v]).map en:=by rw[Pc];rfl
  have e2:ns.map g++[w]=(ns++[v]).map g:=by rw[Pc,<-hg v NU];rfl
  rw[e1,e2,xq w S (ns++[v]) g (by rw[Oz];exact hn) λu hu=>hg u (NR _ hu),Oz]
  rfl
def G7(w:T)(S:List N2)(hn:S.Nodup)(hl:S.length<=1000):Am [.lst (S.map λv=>.tup [en v,w])]=.ok (.dct (S.map en) (S.map λ_=>w)):=by
 unfold Am;simp only[CT];rw[if_pos (by rw[NW];exact hl)]
 have:=xq w S [] (λ_=>w) (by simpa using hn) (λ_ _=>rfl)
 rw[PU]at this;rw[show(([]:List T),([]:List T))=(([]:List N2).map en,([]:List N2).map λ_=>w)from rfl,this]
def eS(S:List N2):T:=.lst (S.map en)
def Hn(L:cu N2)(P:List N2)(X:Rs T):Sum (cO N2) (List Nat)->Prop
 |.inr q=>X=.ok (.tup [.non,.lst (eN q)])
 |.inl b'=>∃ns',DR P ns' b'/\X=.ok (.tup [.dct (ns'.map en) (dV ns' b'),.non])
structure MK (L:cu N2)(P:List N2):Prop where
 len:L.length<=500
 size:size L<=100000000
 ends:∀x∈L,x.1∈P/\x.2.1∈P
 pl:P.length<1000
def SOk(L:cu N2)(S:List N2):Sum (cO N2) (List Nat)->Prop
 |.inr q=>Bar L q
 |.inl b'=>Settled L S b'
def Es{S:List N2}(F:MK L P)(hS:S.Nodup)(hSP:∀v∈S,v∈P):∃r,Hn L P (gP [eL L,eS S]) r/\SOk L S r:=by
 have bound:L.length*(2*size L+1)<1000000000000 - 1:=by
  have h1:=F.len
  have h2:=F.size
  have:L.length*(2*size L+1)<=500*(2*100000000+1):=Nat.mul_le_mul h1 (by omega)
  omega
 obtain⟨r,hr,ok⟩:=ya L S bound
 have ok':SOk L S r:=by cases r <;> exact ok
 refine⟨r,?_,ok'⟩
 have hSl:S.length<=1000:=O4 (kH hS hSP) (by have:=F.pl;omega)
 have D0:DR P S (Gr.start S):=⟨hS,λv=>by unfold Gr.start;by_cases h:v∈S <;> simp[h],hSP⟩
 have dv0:dV S (Gr.start S)=S.map λ_=>eW (0,[]):=O6 λv hv=>by unfold Gr.start;rw[if_pos hv];rfl
 have w:=vN F.len F.pl (λx hx=>(F.ends x hx).2) (eS S) _ (Gr.start S) S .em .em .em .em .em r (qK L S) D0 hr
 have lc:gC (iS (vr 1)) [ZB] (gN 0) bT (aP (ae (vr 0) (ae (aP (ae (cn (.int 0)) (ae (de aj) aj))) aj))) [.va (eL L),.va (eS S),.em,.em,.em,.em,.em,.em,.em]=.ok (.lst (S.map λv=>.tup [en v,eW (0,[])])):=by
  have:=xb (fi:=iS (vr 1)) (src:=[ZB]) (fe:=aP (ae (vr 0) (ae (aP (ae (cn (.int 0)) (ae (de aj) aj))) aj))) (h:=λt=>.tup [t,eW (0,[])]) (Z:=[.va (eL L),.va (eS S),.em,.em,.em,.em,.em,.em,.em]) (ts:=S.map en) (xc rfl) (aA (k:=1000) (by rw[NW];exact hSl)) (by simp) λt _=>
   bc (ts:=[t,eW (0,[])]) (au rfl (au (bc (ts:=[.int 0,.lst []]) (au rfl (au (gn (ts:=[]) rfl (P9 _)) rfl)) (aA (k:=2) (by simp))) rfl)) (aA (k:=2) (by simp))
  rw[this,Qk];rfl
 have n0:sv 2 (gC (iS (vr 1)) [ZB] (gN 0) bT (aP (ae (vr 0) (ae (aP (ae (cn (.int 0)) (ae (de aj) aj))) aj)))) [.va (eL L),.va (eS S),.em,.em,.em,.em,.em,.em,.em]=.ok (.nx [.va (eL L),.va (eS S),.ow (.dct (S.map en) (dV S (Gr.start S))),.em,.em,.em,.em,.em,.em]):=by
  unfold sv;rw[lc,ay,G7 _ S hS hSl,ay,dv0]
  rfl
 have main:∀G X,bY (tb (vr 3)) wF FU (BG L (eS S) S (Gr.start S) ZC .em .em .em .em .em)=.ok X->ko [.va (eL L),.va (eS S),.em,.em,.em,.em,.em,.em,.em]=G->(aB (bY (tb (vr 3)) wF FU) (oq 2 (aN (aP (ae (vr 2) (ae (cn .non) aj)))))) (BG L (eS S) S (Gr.start S) ZC .em .em .em .em .em)=G:=λG X _ h=>by
  rw[<-h];unfold ko;rw[aD n0,aD (Z':=BG L (eS S) S (Gr.start S) ZC .em .em .em .em .em) (bM (t:=.bl ZC) rfl rfl)]
 cases r with
 |inr q=>
  have w':=iM (m:=FU) (by unfold FU;omega) w
  refine cC rfl ?_
  show ko [.va (eL L),.va (eS S),.em,.em,.em,.em,.em,.em,.em]=_
  rw[<-main _ _ w' rfl]
  exact ik w'
 |inl b'=>
  obtain⟨ns',s4,s5,s6,s7,s8,D',w⟩:=w
  have w':=iM (m:=FU) (by unfold FU;omega) w
  refine⟨ns',D',cC rfl ?_⟩
  show ko [.va (eL L),.va (eS S),.em,.em,.em,.em,.em,.em,.em]=_
  rw[<-main _ _ w' rfl,aD w'];exact DV (cZ (bc (ts:=[.dct (ns'.map en) (dV ns' b'),.non]) rfl (aA (k:=2) (by simp))))
theorem qD{f:α->T}{p:α->Prop}:∀{l:List T},(∀t∈l,∃x,t=f x/\p x)->∃L:List α,l=L.map f/\∀x∈L,p x
 |[],_=>⟨[],rfl,λ_ h=>nomatch h⟩
 |t::l,h=>by
  obtain⟨x,e,hx⟩:=h t NU;obtain⟨L,e2,h2⟩:=qD (l:=l) λu hu=>h u (NR _ hu)
  exact⟨x::L,by rw[e,e2];rfl,λy hy=>(N0.mp hy).elim (λz=>z▸hx) (h2 y)⟩
def zd{t:T}(h:bL t=ZC):∃(x y:Int)(r:List Int),t=.tup [.int x,.int y,.tup (r.map .int)]/\(0<=x/\x<=9)/\(0<=y/\y<=9)/\∀k,0<=r.getD k 0/\r.getD k 0<=99:=by
 obtain⟨x,y,r,rfl,h1,h2,h3,h4⟩:=eO h;refine⟨x,y,r,rfl,h1,h2,λk=>?_⟩
 have h':(rL (.int x) (.int y)&&dD (.tup (r.map .int)))=ZC:=h;rw[NX]at h'
 have hr:=h'.2;unfold dD at hr;rw[NX]at hr
 have hr2:(((r.map T.int).all λu=>aX u 0 99)&&(match mr (r.map .int)with|some m=>rA m|none=>ZD))=ZC:=hr.2
 rw[NX]at hr2
 by_cases hk:k<r.length
 ·have:=Os.mp hr2.1 (.int r[k]) (Ov.mpr ⟨_,PB hk,rfl⟩)
  obtain⟨i,e,a,b⟩:=b9 this;cases e;simp[hk];exact⟨a,b⟩
 ·simp[hk]
def zM{cs:List T}:∀{cs0:List T}{c k:Nat},i<=c->c<i+cs0.length->k<IH (cs0.getD (c - i) .non)->T.tup [.int c,.int k] ∈fS i cs0:=by
 intro cs0
 induction cs0 generalizing i with
 |nil=>intro c k h1 h2;simp at h2;omega
 |cons a r ih=>
  intro c k h1 h2 h3;rw[fS,Oq]
  by_cases e:c=i
  ·subst e
   rw[Tc]at h3
   have h3':k<IH a:=h3;exact .inl (Ov.mpr ⟨.int k,GF h3',rfl⟩)
  ·refine .inr (ih (by omega) (by rw[NZ]at h2;omega) ?_)
   rw[show c - i=(c - (i+1))+1 by omega]at h3
   exact h3
def sW{t:T}(h:bq cs t=ZC):t∈fS 0 cs:=by
 obtain⟨c,k,rfl⟩:=dR h;unfold bq at h;simp only[NX,decide_eq_true_eq]at h;obtain⟨⟨h1,h2⟩,h3,h4⟩:=h;obtain⟨c,rfl⟩:=OF h1;obtain⟨k,rfl⟩:=OF h3;rw[sy]at h4;exact zM (cs:=cs) (P9 _) (by omega) (by rw[Td];omega)
def Ep{t:T}(h:t∈fS 0 cs):∃v:N2,t=en v/\True:=by
 obtain⟨c,k,rfl,_⟩:=oZ cs 0 h;exact⟨⟨c,k⟩,rfl,trivial⟩
def big(x:N2×N2×Int):Prop:=x.2.2.natAbs<=999
def sL{a b:Int}(ha : -99<=a/\a<=99)(hb:0<=b/\b<=9):(a*b).natAbs<=999:=by
 rw[Int.natAbs_mul]
 have h1:a.natAbs<=99:=by omega
 have h2:b.natAbs<=9:=by omega
 exact O4 (Nat.mul_le_mul h1 h2) (by decide)
theorem HY{cs0:List T}:∀{cs:List T}{i:Nat},(∀c∈cs,bL c=ZC)->(∀c k:Nat,i<=c->c<i+cs.length->k<IH (cs.getD (c - i) .non)->T.tup [.int c,.int k] ∈fS 0 cs0) →
  ∀t∈bC i cs,∃x,t=eB x/\(en x.1∈fS 0 cs0/\en x.2.1∈fS 0 cs0/\big x)
 |[],_,_,_,t,h=>by simp[bC]at h
 |c::cs,i,hc,hm,t,h=>by
  rw[bC,Oq]at h;rcases h with h|h
  ·obtain⟨x,y,r,rfl,hx,hy,hr⟩:=zd (hc c NU)
   have hm0:∀k,k<r.length->T.tup [.int i,.int k] ∈fS 0 cs0:=λk hk=>hm i k (Ob _) (by simp) (by rw[Tc];show k<(r.map T.int).length;rw[NW];exact hk)
   rw[sh]at h;unfold cB at h;obtain⟨k,hk,hp⟩:=Vb.mp h
   have hk:=Pv.mp hk
   have d : -99<=dr r k/\dr r k<=99:=by have:=hr k;have:=hr (k+1);unfold dr;omega
   unfold pr at hp;simp only[N0,Pm,or_false]at hp;rcases hp with rfl|rfl
   ·exact⟨(⟨i,k⟩,⟨i,((k+1:Nat):Int)⟩,dr r k*y),rfl,hm0 k (by omega),hm0 (k+1) (by omega),sL d hy⟩
   ·exact⟨(⟨i,((k+1:Nat):Int)⟩,⟨i,k⟩,-dr r k*x),rfl,hm0 (k+1) (by omega),hm0 k (by omega),sL (by omega) hx⟩
  ·exact HY (cs:=cs) (i:=i+1) (λc h=>hc c (NR _ h)) (λc k h1 h2 h3=>hm c k (by omega) (by rw[NZ];omega) (by rw[show c - i=(c - (i+1))+1 by omega];exact h3)) t h
def L9{u:T}(hu:br cs u=ZC):∀t∈lB u,∃x,t=eB x/\(en x.1∈fS 0 cs/\en x.2.1∈fS 0 cs/\big x):=by
 intro t ht;obtain⟨a,b,x,y,rfl,hd,ha,hb,_⟩:=fm hu
 have ma:=sW ha
 have mb:=sW hb;obtain⟨va,rfl,_⟩:=Ep ma;obtain⟨vb,rfl,_⟩:=Ep mb;unfold dY at hd;rw[NX]at hd;obtain⟨i,rfl,i1,i2⟩:=b9 hd.1
 have e2:lB (.tup [en va,en vb,.int i,y])=.tup [en vb,en va,.int (-i)] ::(if y.isN then []else [.tup [en va,en vb,y]]):=rfl
 rw[e2]at ht;rcases N0.mp ht with rfl|ht
 ·exact⟨(vb,va,-i),rfl,mb,ma,by unfold big;simp only;omega⟩
 ·cases q:y.isN with
  |true=>rw[q]at ht;simp at ht
  |false=>
   rw[q]at ht
   have ht:t=.tup [en va,en vb,y]:=by simpa using ht
   have hw:aX y i 999=ZC:=by
    cases y with
    |non=>cases q
    |_=>exact hd.2
   obtain⟨j,rfl,j1,j2⟩:=b9 hw;exact⟨(va,vb,j),ht,ma,mb,by unfold big;simp only;omega⟩
structure Rd (cs ls:List T)(L:cu N2)(P:List N2):Prop where
 g:Good cs ls
 b:KC cs ls=L.map eB
 e:fS 0 cs=P.map en
 f:MK L P
 nd:P.Nodup
 pl:P.length<=16
 ll:L.length<=60
 bg:∀x∈L,big x
def FH(h:∀x∈L,big x):size L<=999*L.length:=by
 unfold size
 induction L with
 |nil=>simp
 |cons x L ih=>
  rw[NT,P5,NZ]
  have:=ih λy hy=>h y (NR _ hy)
  have:=h x NU;unfold big at this;omega
def De(h:(P.map en).Nodup):P.Nodup:=by
 induction P with
 |nil=>exact Qt
 |cons a r ih=>
  rw[NT,On]at h;exact On.mpr ⟨λz=>h.1 (Ov.mpr ⟨a,z,rfl⟩),ih h.2⟩
def v3(g:Good cs ls):∃L P,Rd cs ls L P:=by
 obtain⟨hc,c1,c4⟩:=bu g.c;obtain⟨P,eP,_⟩:=qD (f:=en) (p:=λ_=>True) (l:=fS 0 cs) λt ht=>Ep ht
 have key:∀t∈KC cs ls,∃x,t=eB x/\(en x.1∈fS 0 cs/\en x.2.1∈fS 0 cs/\big x):=λt ht=>by
  unfold KC at ht;rw[Oq]at ht;rcases ht with h|h
  ·exact HY hc (λc k h1 h2 h3=>zM (cs:=cs) h1 h2 h3) t h
  ·obtain⟨u,hu,h⟩:=Vb.mp h
   exact L9 (g.l u hu) t h
 obtain⟨L,eL,hL⟩:=qD key
 have mem:∀v:N2,en v∈fS 0 cs->v∈P:=λv hv=>by
  rw[eP]at hv;obtain⟨u,hu,e⟩:=Ov.mp hv;rw[<-Ki e];exact hu
 have hl:=Hf g;rw[eL,NW]at hl
 have hp:=pf cs 0 hc;rw[eP,NW]at hp
 have hs:=FH λx hx=>(hL x hx).2.2
 exact⟨L,P,g,eL,eP,⟨by omega,by omega,λx hx=>⟨mem _ (hL x hx).1,mem _ (hL x hx).2.1⟩,by omega⟩,De (eP▸ng cs 0),by omega,hl,λx hx=>(hL x hx).2.2⟩
def run(L:cu N2):N2->List Nat->Option N2
 |a,[] =>ZA a
 |a,k::r=>match L[k]? with
  |some x=>if x.1=a then run L x.2.1 r else ZB
  |none=>ZB
def Rd.bounds(R:Rd cs ls L P):jT [RR cs ls]=.ok (eL L):=by rw[EC R.g,R.b];rfl
def Rd.events(R:Rd cs ls L P):jS [RR cs ls]=.ok (eS P):=by rw[C5 R.g,R.e];rfl
def Ks(D:DR P ns b)(e:b v=ZA x):bJ (.dct (ns.map en) (dV ns b)) (en v)=.ok (eW x):=by
 unfold bJ;simp only[bx];rw[D.get,e];rfl
def Rd.NL(R:Rd cs ls L P):∃hw:Bool,bF [RR cs ls]=.ok (.bl hw)/\(hw=ZC↔oh L):=by
 obtain⟨r,hr,ok⟩:=Es R.f R.nd (λv h=>h)
 have wrap:∀{w:T},dW [RR cs ls,eL L]=.ok w->bF [RR cs ls]=.ok (.bl (!w.isN)):=λ{w} e=>by
  have e2:o4 [RR cs ls]=.ok w:=by
   refine cC rfl (cZ (bf (ts:=[RR cs ls,eL L]) (au rfl (au (bf (ts:=[RR cs ls]) rfl R.bounds) rfl)) e))
  refine cC rfl (cZ (aK (t:=w) (u:=.non) (bf (ts:=[RR cs ls]) rfl e2) rfl ?_))
  cases w <;> rfl
 have begin_:∀{x:T}{y:Rs Fl},gP [eL L,eS P]=.ok (.tup [x,.non])\/(∃q,gP [eL L,eS P]=.ok (.tup [x,.lst q]))->((aB (eX (tb (o2 kc (vr 3) (cn .non))) (aN (cn .non)) sN) (aN (cl lE (ae (gC (iS (vr 2)) [ZB,ZA 3] (gN 0) bT (o2 aQ (o2 bJ (vr 1) (vr 0)) (cn (.int 0)))) aj)))) [.va (RR cs ls),.va (eL L),.va (eS P),.va x]=y) →
   fL [.va (RR cs ls),.va (eL L),.em,.em]=y:=λ{x y} hs hy=>by
  unfold fL;rw[aD (Z':=[.va (RR cs ls),.va (eL L),.va (eS P),.em]) (bM (bf (ts:=[RR cs ls]) rfl R.events) rfl)]
  have:o2 aQ (cl gP (ae (vr 1) (ae (vr 2) aj))) (cn (.int 0)) [.va (RR cs ls),.va (eL L),.va (eS P),.em]=.ok x:=by
   rcases hs with e|⟨q,e⟩
   ·exact aK (u:=.int 0) (bf (ts:=[eL L,eS P]) rfl e) rfl rfl
   ·exact aK (u:=.int 0) (bf (ts:=[eL L,eS P]) rfl e) rfl rfl
  rw[aD (Z':=[.va (RR cs ls),.va (eL L),.va (eS P),.va x]) (bM this rfl)];exact hy
 cases r with
 |inr q=>
  refine⟨ZD,wrap (w:=.non) (cC rfl (begin_ (x:=.non) (.inr ⟨_,hr⟩) (ik ((ee (a7 (aK (t:=.non) (u:=.non) rfl rfl rfl))).trans rfl)))),λz=>(by cases z),λn=>absurd n (Bar.neg ok)⟩
 |inl b=>
  obtain⟨ns,D,hr⟩:=hr
  have ok:Settled L P b:=ok
  have all:∀v∈P,∃d w,b v=ZA (d,w):=λv hv=>by
   obtain⟨d,w,e,_⟩:=ok.least v hv v 0 (.nil v);exact⟨d,w,e⟩
  let tm:N2->Int:=λv=>match b v with|some x=>x.1|none=>0
  have htm:∀v∈P,∃w,b v=ZA (tm v,w):=λv hv=>by
   obtain⟨d,w,e⟩:=all v hv;refine⟨w,?_⟩
   show b v=ZA ((match b v with|some x=>x.1|none=>0),w)
   rw[e]
  have lc:gC (iS (vr 2)) [ZB,ZA 3] (gN 0) bT (o2 aQ (o2 bJ (vr 1) (vr 0)) (cn (.int 0))) [.va (RR cs ls),.va (eL L),.va (eS P),.va (.dct (ns.map en) (dV ns b))]=.ok (.lst ((P.map en).map λt=>match t with|.tup [.int c,.int k] =>.int (tm ⟨c,k⟩)|_=>.non)):=
   xb (ts:=P.map en) (xc rfl) (aA (k:=16) (by rw[NW];exact R.pl)) (by simp) λt ht=>by
    obtain⟨v,hv,rfl⟩:=Ov.mp ht;obtain⟨w,e⟩:=htm v hv;exact aK (t:=eW (tm v,w)) (u:=.int 0) (aK (t:=.dct (ns.map en) (dV ns b)) (u:=en v) rfl rfl (Ks D e)) rfl rfl
  refine⟨ZC,wrap (w:=.tup ((P.map en).map λt=>match t with|.tup [.int c,.int k] =>.int (tm ⟨c,k⟩)|_=>.non)) (cC rfl (begin_ (.inl hr) ?_)),λ_=>(ok.holds R.f.ends htm).NF,λ_=>rfl⟩
  rw[aD (Z':=[.va (RR cs ls),.va (eL L),.va (eS P),.va (.dct (ns.map en) (dV ns b))]) ((dC (a7 (aK (t:=.dct (ns.map en) (dV ns b)) (u:=.non) rfl rfl rfl))).trans rfl)];exact cZ (bf (au lc rfl) rfl)
def oI(o:Option Int):T:=match o with
 |some x=>.int x
 |none=>.non
def fD(P:List N2)(f:fK N2):List (List T×List T):=P.map λu=>(P.map en,P.map λv=>oI (f u v))
def tM(P:List N2)(f:fK N2):T:=.dct (P.map en) (P.map λu=>.dct (P.map en) (P.map λv=>oI (f u v)))
abbrev iO(P:List N2)(L:cu N2)(f:fK N2)(s3 s4 s5 s6 s7:Sl):En:=[.va (eS P),.va (eL L),.ow (.dd (P.map en) (fD P f)),s3,s4,s5,s6,s7]
abbrev Iw(P:List N2)(L:cu N2)(f:fK N2)(s3 s4 s5 s6 s7:Sl):En:=[.va (eS P),.va (eL L),.va (tM P f),s3,s4,s5,s6,s7]
variable{b:V5}{s3 s4 s5 s6 s7:Sl}{x:Int}
section
variable {f:fK N2}
def yZ(s3 s4 s5 s6 s7:Sl):disown 2 (iO P L f s3 s4 s5 s6 s7)=Iw P L f s3 s4 s5 s6 s7:=by
 show [Sl.va (eS P),.va (eL L),.va (OT.view (.dd (P.map en) (fD P f))),s3,s4,s5,s6,s7]=_
 have e:OT.view (.dd (P.map en) (fD P f))=tM P f:=by
  show T.dct (P.map en) ((fD P f).map λr=>T.dct r.1 r.2)=_
  unfold fD tM;rw[Qk]
  rfl
 rw[e]
variable{c:V5}
def Ci{u:N2}(hc:c Z=.ok (tM P f))(ha:a Z=.ok (en u))(hb:b Z=.ok (en v))(hu:u∈P)(hv:v∈P):o2 bJ (o2 bJ c a) b Z=.ok (oI (f u v)):=by
 refine aK (t:=.dct (P.map en) (P.map λw=>oI (f u w))) (u:=en v) (aK (t:=tM P f) (u:=en u) hc ha ?_) hb ?_
 ·show(match oO (P.map en) (P.map λu=>T.dct (P.map en) (P.map λv=>oI (f u v))) (ky u)with|some t=>Rs.ok t|none=>.bad)=_
  rw[ph (λu=>T.dct (P.map en) (P.map λv=>oI (f u v))),if_pos hu]
 ·show(match oO (P.map en) (P.map λw=>oI (f u w)) (ky v)with|some t=>Rs.ok t|none=>.bad)=_
  rw[ph (λw=>oI (f u w)),if_pos hv]
def Dr{u:N2}(ha:a (Iw P L f s3 s4 s5 s6 s7)=.ok (en u))(hb:b (Iw P L f s3 s4 s5 s6 s7)=.ok (en v))(hu:u∈P)(hv:v∈P):ln 2 (o2 bJ (o2 bJ (vr 2) a) b) (iO P L f s3 s4 s5 s6 s7)=.ok (oI (f u v)):=
 yP (o:=.dd (P.map en) (fD P f)) rfl (by rw[yZ];exact Ci rfl ha hb hu hv) (by cases f u v <;> rfl)
theorem CA(g:N2->List T×List T)(u:N2):∀(Q:List N2),u∈Q->rK (Q.map en) (Q.map g) (ky u)=ZA (g u)
 |w::Q,h=>by
  rw[NT,NT,rK,bx]
  by_cases e:w=u
  ·subst e;rw[if_pos rfl]
  ·rw[if_neg (λz=>e (iY z)),CA g u Q ((N0.mp h).elim (λz=>absurd z.symm e) id)]
theorem Cw(g:N2->List T×List T)(u:N2)(x:List T×List T):∀(Q:List N2),Q.Nodup->rJ (ky u) x (Q.map en) (Q.map g)=Q.map λw=>if w=u then x else g w
 |[],_=>rfl
 |w::Q,h=>by
  rw[On]at h;rw[NT,NT,rJ,bx,NT]
  by_cases e:w=u
  ·subst e
   rw[if_pos rfl,if_pos rfl]
   congr 1
   exact O6 λz hz=>by rw[if_neg (λ(y:z=w)=>h.1 (y▸hz))]
  ·rw[if_neg (λz=>e (iY z)),if_neg e,Cw g u x Q h.2]
def CM(nd:P.Nodup)(pl:P.length<1000){u:N2}(ha:a (iO P L f s3 s4 s5 s6 s7)=.ok (en u))(hb:b (iO P L f s3 s4 s5 s6 s7)=.ok (en v))(hc:c (iO P L f s3 s4 s5 s6 s7)=.ok (.int x))(hu:u∈P)(hv:v∈P):
  jl 2 a b c (iO P L f s3 s4 s5 s6 s7)=.ok (.nx (iO P L (kg f u v x) s3 s4 s5 s6 s7)):=by
 unfold jl
 show(c (iO P L f s3 s4 s5 s6 s7) >>= λw=>a (iO P L f s3 s4 s5 s6 s7) >>= λz=>match(keyOf z).bind λka=>(rK (P.map en) (fD P f) ka).map λr=>(ka,r)with
  |some (ka,r)=>b (iO P L f s3 s4 s5 s6 s7) >>= λy=>if (keyOf y).isSome=ZC/\r.1.length<1000 then Rs.ok (Fl.nx ((iO P L f s3 s4 s5 s6 s7).set 2 (.ow (.dd (P.map en) (rJ ka (gV y w r.1 r.2) (P.map en) (fD P f))))))else .bad
  |none=>.bad)=_
 rw[hc,ay,ha,ay,bx]
 have e1:rK (P.map en) (fD P f) (ky u)=ZA (P.map en,P.map λv=>oI (f u v)):=CA (λu=>(P.map en,P.map λv=>oI (f u v))) u P hu
 simp only[Option.bind_some,e1,Vu];rw[hb,ay,bx,if_pos ⟨rfl,by rw[NW];exact pl⟩,u6 (.int x) v (λv=>oI (f u v)) P nd hv]
 have e2:=Cw (λu=>(P.map en,P.map λv=>oI (f u v))) u (P.map en,P.map λw=>if w=v then T.int x else oI (f u w)) P nd
 have e3:(P.map λw=>if w=u then(P.map en,P.map λw=>if w=v then T.int x else oI (f u w))else(P.map en,P.map λv=>oI (f w v)))=fD P (kg f u v x):=by
  unfold fD kg;refine O6 λw _=>?_
  by_cases e:w=u
  ·subst e
   rw[if_pos rfl]
   congr 1
   refine O6 λz _=>?_
   by_cases h:z=v
   ·rw[if_pos h,if_pos ⟨rfl,h⟩];rfl
   ·rw[if_neg h,if_neg (λq=>h q.2)]
  ·rw[if_neg e]
   congr 1
   exact O6 λz _=>by rw[if_neg (λq=>e q.1)]
 show Rs.ok (Fl.nx [.va (eS P),.va (eL L),.ow (.dd (P.map en) (rJ (ky u) (P.map en,P.map λw=>if w=v then T.int x else oI (f u w)) (P.map en) (fD P f))),s3,s4,s5,s6,s7])=_
 rw[show rJ (ky u) (P.map en,P.map λw=>if w=v then T.int x else oI (f u w)) (P.map en) (fD P f)=fD P (kg f u v x)from e2.trans e3]
def D5(nd:P.Nodup)(pl:P.length<1000){u:N2}(ha:a (iO P L f s3 s4 s5 s6 s7)=.ok (en u))(hb:b (iO P L f s3 s4 s5 s6 s7)=.ok (en v))(ha':a (Iw P L f s3 s4 s5 s6 s7)=.ok (en u))(hb':b (Iw P L f s3 s4 s5 s6 s7)=.ok (en v))(hc:c (iO P L f s3 s4 s5 s6 s7)=.ok (.int x))(hu:u∈P)(hv:v∈P):
  eX (m5 (tb (o2 kc (ln 2 (o2 bJ (o2 bJ (vr 2) a) b)) (cn .non))) (tb (o2 nA c (ln 2 (o2 bJ (o2 bJ (vr 2) a) b))))) (jl 2 a b c) sN (iO P L f s3 s4 s5 s6 s7)=.ok (.nx (iO P L (oM f u v x) s3 s4 s5 s6 s7)):=by
 have g:=Dr (P:=P) (L:=L) (f:=f) ha' hb' hu hv
 have p:=CM (P:=P) (L:=L) (f:=f) nd pl ha hb hc hu hv;unfold oM
 cases q:f u v with
 |none=>
  rw[q]at g
  exact(ee (HN (a7 (aK (t:=.non) (u:=.non) g rfl rfl)))).trans p
 |some y=>
  rw[q]at g
  have c2:tb (o2 nA c (ln 2 (o2 bJ (o2 bJ (vr 2) a) b))) (iO P L f s3 s4 s5 s6 s7)=.ok (decide (x<y)):=a7 (aK (t:=.int x) (u:=.int y) hc g rfl)
  by_cases h:x<y
  ·rw[decide_eq_true h]at c2
   simp only[if_pos h];exact(ee (zY (a7 (aK (t:=.int y) (u:=.non) g rfl rfl)) c2)).trans p
  ·rw[decide_eq_false h]at c2
   simp only[if_neg h];exact(dC (zY (a7 (aK (t:=.int y) (u:=.non) g rfl rfl)) c2)).trans rfl
end
theorem w8:∀(P:List N2),n6 (P.map en)=ZC
 |[] =>rfl
 |u::P=>by
  have:=w8 P;simp[n6,bx,this]
def JU(nd:P.Nodup):((P.map en).map keyOf).Nodup:=by
 rw[Qk];exact nd.map _ λa b h e=>h (iY e)
def Iu(nd:P.Nodup)(pl:P.length<=1000):pO 2 0 [.va (eS P),.va (eL L),.em,.em,.em,.em,.em,.em]=.ok (.nx (iO P L (λ_ _=>ZB) .em .em .em .em .em)):=by
 show(if (2:Nat)<8/\n6 (P.map en)=ZC/\((P.map en).map keyOf).Nodup/\(P.map en).length<=1000 then Rs.ok (Fl.nx [.va (eS P),.va (eL L),.ow (.dd (P.map en) ((P.map en).map λ_=>(P.map en,(P.map en).map λ_=>T.non))),.em,.em,.em,.em,.em])else .bad)=_
 rw[if_pos ⟨by omega,w8 P,JU nd,by rw[NW];exact pl⟩,Qk,Qk]
 rfl
theorem HD(nd:P.Nodup)(pl:P.length<1000):∀(Q:List N2)(f:fK N2)(s3 s4 s5 s6 s7:Sl),(∀u∈Q,u∈P)->∃s3',
  bo (gN 3) (jl 2 (vr 3) (vr 3) (cn (.int 0))) (Q.map en) (iO P L f s3 s4 s5 s6 s7)=.ok (.nx (iO P L (Q.foldl (λf u=>kg f u u 0) f) s3' s4 s5 s6 s7))
 |[],f,s3,s4,s5,s6,s7,_=>⟨s3,rfl⟩
 |u::Q,f,s3,s4,s5,s6,s7,h=>by
  have hu:=h u NU;rw[NT,dz (Z1:=iO P L f (.va (en u)) s4 s5 s6 s7) rfl (CM nd pl (u:=u) (v:=u) (x:=0) rfl rfl rfl hu hu)];exact HD nd pl Q _ _ _ _ _ _ λw hw=>h w (NR _ hw)
theorem sU:∀(Q:List N2)(f:fK N2)(u v:N2),Q.foldl (λf u=>kg f u u 0) f u v=if u∈Q/\u=v then ZA 0 else f u v
 |[],f,u,v=>by rw[if_neg (λh=>nomatch h.1)];rfl
 |w::Q,f,u,v=>by
  rw[Vo,sU Q]
  by_cases e:u=v
  ·subst e
   by_cases m:u∈Q
   ·rw[if_pos ⟨m,rfl⟩,if_pos ⟨NR _ m,rfl⟩]
   ·rw[if_neg (λz=>m z.1)]
    unfold kg
    by_cases q:u=w
    ·subst q;rw[if_pos ⟨rfl,rfl⟩,if_pos ⟨NU,rfl⟩]
    ·rw[if_neg (λz=>q z.1),if_neg (λz=>(N0.mp z.1).elim q m)]
  ·rw[if_neg (λz=>e z.2),if_neg (λz=>e z.2)]
   unfold kg;rw[if_neg (λz=>e (z.1.trans z.2.symm))]
def Bj(P:List N2):P.foldl (λf u=>kg f u u 0) (λ_ _=>ZB)=vF P:=by
 funext u v
 rw[sU]
 rfl
theorem HC(nd:P.Nodup)(pl:P.length<1000):∀(M:cu N2)(f:fK N2)(s3 s4 s5 s6 s7:Sl),(∀x∈M,x.1∈P/\x.2.1∈P)->∃s3' s4' s5',
  bo (gT 3 (gd (gN 3) (gd (gN 4) (gd (gN 5) rB)))) (eX (m5 (tb (o2 kc (ln 2 (o2 bJ (o2 bJ (vr 2) (vr 3)) (vr 4))) (cn .non))) (tb (o2 nA (vr 5) (ln 2 (o2 bJ (o2 bJ (vr 2) (vr 3)) (vr 4)))))) (jl 2 (vr 3) (vr 4) (vr 5)) sN) (M.map eB) (iO P L f s3 s4 s5 s6 s7)=.ok (.nx (iO P L (M.foldl (λf x=>oM f x.1 x.2.1 x.2.2) f) s3' s4' s5' s6 s7))
 |[],f,s3,s4,s5,s6,s7,_=>⟨s3,s4,s5,rfl⟩
 |x::M,f,s3,s4,s5,s6,s7,h=>by
  have hx:=h x NU;rw[NT,dz (Z1:=iO P L f (.va (en x.1)) (.va (en x.2.1)) (.va (.int x.2.2)) s6 s7) rfl (D5 nd pl (u:=x.1) (v:=x.2.1) (x:=x.2.2) rfl rfl rfl rfl rfl hx.1 hx.2)];exact HC nd pl M _ _ _ _ _ _ λw hw=>h w (NR _ hw)
def Fz(nd:P.Nodup)(pl:P.length<1000){mid one other:N2}(hm:mid∈P)(h1:one∈P)(h2:other∈P)(f:fK N2)(s5 s7:Sl):∃s7',
  KY (iO P L f (.va (en one)) (.va (en other)) s5 (.va (en mid)) s7)=.ok (.nx (iO P L (mC mid one other f) (.va (en one)) (.va (en other)) s5 (.va (en mid)) s7')):=by
 have ga:∀s7,ln 2 (o2 bJ (o2 bJ (vr 2) (vr 3)) (vr 6)) (iO P L f (.va (en one)) (.va (en other)) s5 (.va (en mid)) s7)=.ok (oI (f one mid)):=λs7=>Dr rfl rfl h1 hm
 have gb:∀s7,ln 2 (o2 bJ (o2 bJ (vr 2) (vr 6)) (vr 4)) (iO P L f (.va (en one)) (.va (en other)) s5 (.va (en mid)) s7)=.ok (oI (f mid other)):=λs7=>Dr rfl rfl hm h2
 unfold mC KY
 cases qa:f one mid with
 |none=>
  have ga:=ga s7;rw[qa]at ga
  exact⟨s7,(dC (J7 (a7 (aK (t:=.non) (u:=.non) ga rfl rfl)))).trans rfl⟩
 |some x=>
  have ga:=ga s7;rw[qa]at ga
  have c1:=a7 (aK (g:=fW) (t:=.int x) (u:=.non) (fb:=cn .non) ga rfl rfl)
  cases qb:f mid other with
  |none=>
   have gb:=gb s7;rw[qb]at gb
   exact⟨s7,(dC (DW c1 (a7 (aK (t:=.non) (u:=.non) gb rfl rfl)))).trans rfl⟩
  |some y=>
   have gb:=gb s7;rw[qb]at gb;refine⟨.va (.int (x+y)),(ee (DW c1 (a7 (aK (t:=.int y) (u:=.non) gb rfl rfl)))).trans ?_⟩
   rw[aD (bM (Z':=iO P L f (.va (en one)) (.va (en other)) s5 (.va (en mid)) (.va (.int (x+y)))) (aK (t:=.int x) (u:=.int y) ga gb rfl) rfl)];exact D5 nd pl (u:=one) (v:=other) (x:=x+y) rfl rfl rfl rfl rfl h1 h2
theorem HB(nd:P.Nodup)(pl:P.length<1000){mid one:N2}(hm:mid∈P)(h1:one∈P):∀(Q:List N2)(f:fK N2)(s4 s5 s7:Sl),(∀u∈Q,u∈P)->∃s4' s7',
  bo (gN 4) KY (Q.map en) (iO P L f (.va (en one)) s4 s5 (.va (en mid)) s7)=.ok (.nx (iO P L (mE mid one Q f) (.va (en one)) s4' s5 (.va (en mid)) s7'))
 |[],f,s4,s5,s7,_=>⟨s4,s7,rfl⟩
 |u::Q,f,s4,s5,s7,h=>by
  have hu:=h u NU;obtain⟨s7',e⟩:=Fz (L:=L) nd pl hm h1 hu f s5 s7;rw[NT,dz (Z1:=iO P L f (.va (en one)) (.va (en u)) s5 (.va (en mid)) s7) rfl e];exact HB nd pl hm h1 Q _ _ _ _ λw hw=>h w (NR _ hw)
theorem HA(nd:P.Nodup)(pl:P.length<1000){mid:N2}(hm:mid∈P):∀(Q:List N2)(f:fK N2)(s3 s4 s5 s7:Sl),(∀u∈Q,u∈P)->∃s3' s4' s7',
  bo (gN 3) (fA (iS (vr 0)) (gN 4) KY) (Q.map en) (iO P L f s3 s4 s5 (.va (en mid)) s7)=.ok (.nx (iO P L (qS mid Q P f) s3' s4' s5 (.va (en mid)) s7'))
 |[],f,s3,s4,s5,s7,_=>⟨s3,s4,s7,rfl⟩
 |u::Q,f,s3,s4,s5,s7,h=>by
  have hu:=h u NU;obtain⟨s4',s7',e⟩:=HB (L:=L) nd pl hm hu P f s4 s5 s7 λ_ z=>z
  rw[NT,dz (Z1:=iO P L f (.va (en u)) s4 s5 (.va (en mid)) s7) rfl (fq (ts:=P.map en) rfl e)];exact HA nd pl hm Q _ _ _ _ _ λw hw=>h w (NR _ hw)
theorem Hz(nd:P.Nodup)(pl:P.length<1000):∀(Q:List N2)(f:fK N2)(s3 s4 s5 s6 s7:Sl),(∀u∈Q,u∈P)->∃s3' s4' s6' s7',
  bo (gN 6) (fA (iS (vr 0)) (gN 3) (fA (iS (vr 0)) (gN 4) KY)) (Q.map en) (iO P L f s3 s4 s5 s6 s7)=.ok (.nx (iO P L (xi Q P f) s3' s4' s5 s6' s7'))
 |[],f,s3,s4,s5,s6,s7,_=>⟨s3,s4,s6,s7,rfl⟩
 |u::Q,f,s3,s4,s5,s6,s7,h=>by
  have hu:=h u NU;obtain⟨s3',s4',s7',e⟩:=HA (L:=L) nd pl hu P f s3 s4 s5 s7 λ_ z=>z
  rw[NT,dz (Z1:=iO P L f s3 s4 s5 (.va (en u)) s7) rfl (fq (ts:=P.map en) rfl e)];exact Hz nd pl Q _ _ _ _ _ _ λw hw=>h w (NR _ hw)
def Hr(P:List N2)(f:fK N2):Prop:=∀u∈P,∀y,f u u=ZA y->0<=y
def Iv(hd:∀u∈P,∃y,table P L u u=ZA y)(pl:P.length<1000)(s3 s4 s5 s6 s7:Sl):
  ∃t,((Hr P (table P L)/\t=tM P (table P L))\/(¬Hr P (table P L)/\t=.non))/\oq 2 (aN (qO (tb (o2 ju (gC (iS (vr 0)) [ZB,ZA 2] (gN 0) (tb (o2 nA (o2 bJ (o2 bJ (vr 1) (vr 0)) (vr 0)) (cn (.int 0)))) (vr 0)) (de aj))) (vr 2) (cn .non))) (iO P L (table P L) s3 s4 s5 s6 s7)=.ok (.rt t):=by
 generalize hf:table P L=f
 rw[hf]at hd
 have lc:gC (iS (vr 0)) [ZB,ZA 2] (gN 0) (tb (o2 nA (o2 bJ (o2 bJ (vr 1) (vr 0)) (vr 0)) (cn (.int 0)))) (vr 0) (Iw P L f s3 s4 s5 s6 s7)=.ok (.lst (((P.map en).filter λt=>P.any λu=>decide (keyOf t=ZA (ky u))&&(match f u u with|some y=>decide (y<0)|none=>ZD)).map id)):=by
  refine HQ (ts:=P.map en) rfl (aA (k:=1000) (by rw[NW];omega)) (by simp) λt ht=>?_
  obtain⟨u,hu,rfl⟩:=Ov.mp ht;obtain⟨y,hy⟩:=hd u hu;refine⟨?_,λ_=>rfl⟩
  have e:(P.any λw=>decide (keyOf (en u)=ZA (ky w))&&(match f w w with|some y=>decide (y<0)|none=>ZD))=decide (y<0):=by
   by_cases h:y<0
   ·rw[decide_eq_true h]
    exact RP.mpr ⟨u,hu,by rw[hy];simp[h,bx]⟩
   ·rw[decide_eq_false h,Su]
    intro w hw
    by_cases q:w=u
    ·subst q;rw[hy];simp[h]
    ·rw[decide_eq_false (λz=>q (iY ((bx u).symm.trans z)).symm)];simp
  rw[e]
  have g:=Ci (P:=P) (f:=f) (u:=u) (v:=u) (Z:=[.va (en u),.va (tM P f)]) (c:=vr 1) (a:=vr 0) (b:=vr 0) rfl rfl rfl hu hu;rw[hy]at g;exact a7 (aK (t:=.int y) (u:=.int 0) g rfl rfl)
 rw[Vr]at lc
 generalize hp:(λt=>P.any λu=>decide (keyOf t=ZA (ky u))&&(match f u u with|some y=>decide (y<0)|none=>ZD))=p at lc
 have pu:∀u∈P,∀y,f u u=ZA y->p (en u)=decide (y<0):=by
  intro u hu y hy;rw[<-hp]
  show(P.any λw=>decide (keyOf (en u)=ZA (ky w))&&(match f w w with|some y=>decide (y<0)|none=>ZD))=decide (y<0)
  by_cases h:y<0
  ·rw[decide_eq_true h]
   exact RP.mpr ⟨u,hu,by rw[hy];simp[h,bx]⟩
  ·rw[decide_eq_false h,Su]
   intro w hw
   by_cases q:w=u
   ·subst q;rw[hy];simp[h]
   ·rw[decide_eq_false (λz=>q (iY ((bx u).symm.trans z)).symm)];simp
 have iff:(P.map en).filter p=[] ↔Hr P f:=by
  rw[List.filter_eq_nil_iff]
  constructor
  ·intro h u hu y hy
   have:=h (en u) (Ov.mpr ⟨u,hu,rfl⟩);rw[pu u hu y hy]at this
   simpa using this
  ·intro h t ht
   obtain⟨u,hu,rfl⟩:=Ov.mp ht;obtain⟨y,hy⟩:=hd u hu;rw[pu u hu y hy]
   have:=h u hu y hy
   simpa using this
 have nd:nds ((P.map en).filter p)=ZC:=yz λt ht=>by
  obtain⟨u,_,rfl⟩:=Ov.mp (RY.mp ht).1
  rfl
 have eq:o2 ju (gC (iS (vr 0)) [ZB,ZA 2] (gN 0) (tb (o2 nA (o2 bJ (o2 bJ (vr 1) (vr 0)) (vr 0)) (cn (.int 0)))) (vr 0)) (de aj) (Iw P L f s3 s4 s5 s6 s7)=.ok (.bl (bj (.lst ((P.map en).filter p)) (.lst []))):=
  aK (u:=.lst []) lc (gn rfl (aA (k:=1) (by simp))) (by unfold ju;rw[if_pos (mF (by simp[T.dep,deps]) (by simpa [T.nd]using nd) rfl)])
 by_cases D:Hr P f
 ·refine⟨tM P f,.inl ⟨D,rfl⟩,?_⟩
  rw[iff.mpr D]at eq;refine DV ?_
  rw[yZ];exact cZ ((jt (p:=ZC) (a7 eq)).trans rfl)
 ·refine⟨.non,.inr ⟨D,rfl⟩,?_⟩
  have:(P.map en).filter p≠ []:=λz=>D (iff.mp z)
  cases q:(P.map en).filter p with
  |nil=>exact absurd q this
  |cons a l=>
   rw[q]at eq;refine DV ?_
   rw[yZ];exact cZ ((jt (p:=ZD) (a7 (eq.trans (by simp[bj,beqTs])))).trans rfl)
def GZ(nd:P.Nodup)(pl:P.length<1000)(hL:∀x∈L,x.1∈P/\x.2.1∈P):
  ∃t,((oh L/\Ic L P (table P L)/\t=tM P (table P L))\/(¬oh L/\t=.non))/\gw [eS P,eL L]=.ok t:=by
 obtain⟨a3,e1⟩:=HD (L:=L) nd pl P (λ_ _=>ZB) .em .em .em .em .em λ_ z=>z
 rw[Bj]at e1;obtain⟨b3,b4,b5,e2⟩:=HC (L:=L) nd pl L (vF P) a3 .em .em .em .em hL;obtain⟨c3,c4,c6,c7,e3⟩:=Hz (L:=L) nd pl P (Cj P L) b3 b4 b5 .em .em λ_ z=>z
 obtain⟨t,ht,e4⟩:=Iv (P:=P) (L:=L) (λu hu=>let ⟨y,h,_⟩:=pA (L:=L) hu;⟨y,h⟩) pl c3 c4 b5 c6 c7
 refine⟨t,ht.elim (λh=>.inl ?_) (λh=>.inr ⟨λn=>h.1 λu hu y hy=>?_,h.2⟩),cC rfl ?_⟩
 ·have:=vE hL h.1
  exact⟨this.1,this.2,h.2⟩
 ·exact Int.not_lt.mp λz=>AJ hy z n
 ·show jb [.va (eS P),.va (eL L),.em,.em,.em,.em,.em,.em]=_
  unfold jb;rw[aD (Iu nd (by omega)),aD (fq (ts:=P.map en) rfl e1),aD (fq (ts:=L.map eB) rfl e2)]
  exact(aD (fq (ts:=P.map en) rfl e3)).trans e4
def wM{n:Int}{t:T}(ht:t.pl=ZC)(h:aX t 0 (n - 1)=ZC):cP [.int n,t]=.ok .non:=by
 refine DJ (Z:=[.va (.int n),.va t]) rfl ?_
 show ef [.va (.int n),.va t]=_
 unfold ef;exact(dC (qM (k:=ZC) (a7 (bf (ts:=[t,.int 0,.int (n - 1)]) rfl (by rw[ft _ _ _ ht,h]))))).trans rfl
def Eu{t:T}(hp:t.pl=ZC)(h:cV t=ZC):df [t]=.ok t:=by
 refine cC rfl ?_
 show gc [.va t]=_
 unfold gc;rw[aD (r8 (t:=.non) (bf (ts:=[t]) rfl (fh hp h)))];exact cZ rfl
def Ew{t:T}(hp:t.pl=ZC)(h:cV t=ZD):df [t]=.err "NoRecord":=by
 refine lR rfl ?_
 show gc [.va t]=_
 unfold gc;exact yM (DU (bf (ts:=[t]) rfl (A4 hp h)))
def pR(t:T):Rs T:=if cV t then .ok t else .err "NoRecord"
def Ak{t:T}(hp:t.pl=ZC):df [t]=pR t:=by
 unfold pR
 cases h:cV t with
 |true=>exact Eu hp h
 |false=>exact Ew hp h
variable{f:V5}
def ub{t:T}(h:f Z=pR t):aN f Z=(if cV t then .ok (.rt t)else .err "NoRecord"):=by
 unfold pR at h
 cases q:cV t with
 |true=>rw[q]at h;exact cZ h
 |false=>rw[q]at h;exact JZ h
variable{ts:List T}
def tK{m:Nat}{F:V4}{t:T}(hl:ts.length=n)(h:F (aR m ts)=(if cV t then .ok (.rt t)else .err "NoRecord")):val n m F ts=pR t:=by
 unfold pR
 cases q:cV t with
 |true=>rw[q]at h;exact cC hl h
 |false=>rw[q]at h;exact lR hl h
def iU{a b:T}(ha:a.pl=ZC)(hb:b.pl=ZC):(T.tup [a,b]).pl=ZC:=by simp[T.pl,plS,ha,hb]
def ug{m:List T}(h1:(T.tup l).pl=ZC)(h2:(T.tup m).pl=ZC):(T.tup (l++m)).pl=ZC:=by
 rw[iQ]at*;exact iV λt ht=>(Oq.mp ht).elim (gq h1) (gq h2)
def Good.pls(g:Good cs ls):(T.tup ls).pl=ZC:=by rw[iQ];exact iV g.parts.2
def um{t:T}(hc:(T.tup cs).pl=ZC)(hl:(T.tup ls).pl=ZC)(hn:ls.length<=20)(ht:t.pl=ZC)(ok:cV (RR cs ls)=ZC):dw [RR cs ls,t]=pR (.tup [.tup cs,.tup (ls++[t])]):=by
 refine tK rfl ?_
 show ir [.va (RR cs ls),.va t]=_
 unfold ir;rw[aD (r8 (t:=.non) (bf (ts:=[RR cs ls]) rfl (fh (iU hc hl) ok)))];refine ub (bf (ts:=[.tup [.tup cs,.tup (ls++[t])]]) (au (bc (au (t:=.tup cs) rfl (au (t:=.tup (ls++[t])) (aK (t:=.tup ls) (u:=.tup [t]) rfl (bc rfl (aA (k:=1) (by simp))) (gA _ _ (by simp;omega))) rfl)) (aA (k:=2) (by simp))) rfl) (Ak (iU hc (ug hl (by simp[T.pl,plS,ht])))))
variable{g:V5}
def za(h:f Z=.ok (.tup l))(hg:g Z=.ok (.int n)):sl f pN (pS g) Z=.ok (.tup (l.take n)):=by
 rw[<-qX];exact JY h rfl (Bd hg)
def Kv(h:f Z=.ok (.tup l))(hg:g Z=.ok (.int n)):sl f (pS g) pN Z=.ok (.tup (l.drop n)):=by
 rw[<-xy];exact JY h (Bd hg) rfl
def vc(h:f Z=.ok (.tup l))(hg:g Z=.ok (.int n)):sl f (pS (o2 aM g (cn (.int 1)))) pN Z=.ok (.tup (l.drop (n+1))):=
 Kv h (aK (t:=.int n) (u:=.int 1) hg rfl rfl)
def wj(l:List T)(n:Nat):List T:=l.take n++l.drop (n+1)
def uq(l:List T)(n:Nat):(wj l n).length<=l.length:=by unfold wj;rw[N3,OU,PZ];omega
def AW(g:Good cs ls)(hn:n<ls.length):cw [RR cs ls,.int n]=.ok (.tup [.tup cs,.tup (wj ls n)]):=by
 have hl:=g.n;refine cC rfl ?_
 show da [.va (RR cs ls),.va (.int n),.em]=_
 unfold da;rw[aD (r8 (t:=.non) (bf (ts:=[RR cs ls]) rfl (fh g.p g.ok)))];rw[aD (Z':=[.va (RR cs ls),.va (.int n),.va (.tup ls)]) ((bM (t:=.tup ls) rfl rfl))]
 have w:aX (.int n) 0 ((ls.length:Int) - 1)=ZC:=by unfold aX;simp;omega
 rw[aD (r8 (t:=.non) (bf (ts:=[.int (ls.length:Int),.int n]) rfl (wM rfl w)))];exact cZ (bc (au (t:=.tup cs) rfl (au (t:=.tup (wj ls n)) (aK (t:=.tup (ls.take n)) (u:=.tup (ls.drop (n+1))) (za rfl rfl) (vc rfl rfl) (gA _ _ (by have:=uq ls n;unfold wj at this;omega))) rfl)) (aA (k:=2) (by simp)))
def kU(l:List T)(n:Nat)(c:T):List T:=(l.take n++[c])++l.drop (n+1)
def Gf(l:List T)(n:Nat)(c:T):(kU l n c).length<=l.length+1:=by unfold kU;rw[N3,N3,OU,PZ];simp;omega
variable{c:T}
def CN(h:(T.tup l).pl=ZC)(hc:c.pl=ZC):(T.tup (kU l n c)).pl=ZC:=by
 rw[iQ]at*;refine iV λt ht=>?_
 unfold kU at ht;rcases Oq.mp ht with ht|ht
 ·rcases Oq.mp ht with ht|ht
  ·exact gq h (P3 ht)
  ·cases Oa.mp ht;exact hc
 ·exact gq h (RT ht)
def DM{h:V5}(hl:l.length<=100)(hf:f Z=.ok (.tup l))(hg:g Z=.ok (.int n))(hc:h Z=.ok c):
  o2 aM (o2 aM (sl f pN (pS g)) (aP (ae h aj))) (sl f (pS (o2 aM g (cn (.int 1)))) pN) Z=.ok (.tup (kU l n c)):=by
 have:=Gf l n c;refine aK (t:=.tup (l.take n++[c])) (u:=.tup (l.drop (n+1))) (aK (t:=.tup (l.take n)) (u:=.tup [c]) (za hf hg) (bc (au hc rfl) (aA (k:=1) (by simp))) (gA _ _ (by simp;omega))) (vc hf hg) (gA _ _ (by unfold kU at this;omega))
def wg(g:Good cs ls)(hc:c.pl=ZC):gv [RR cs ls,.int n,c]=pR (.tup [.tup (kU cs n c),.tup ls]):=by
 obtain⟨_,_,h4⟩:=bu g.c;refine tK rfl ?_
 show i6 [.va (RR cs ls),.va (.int n),.va c,.em]=_
 unfold i6;rw[aD (Z':=[.va (RR cs ls),.va (.int n),.va c,.va (.tup cs)]) (bM (t:=.tup cs) rfl rfl)];exact ub (bf (ts:=[.tup [.tup (kU cs n c),.tup ls]]) (au (bc (au (t:=.tup (kU cs n c)) (DM (by omega) rfl rfl rfl) (au (t:=.tup ls) rfl rfl)) (aA (k:=2) (by simp))) rfl) (Ak (iU (CN g.parts.1 hc) g.pls)))
def w_in{m:Nat}(h:n<m):aX (.int n) 0 ((m:Int) - 1)=ZC:=by unfold aX;simp;omega
def xE(g:Good cs ls)(hn:n<cs.length):∃(x y:Int)(r:List Int),cs[n]?=ZA (.tup [.int x,.int y,.tup (r.map .int)])/\1<=r.length/\r.length<=4:=by
 obtain⟨hc,_,h4⟩:=bu g.c;obtain⟨x,y,r,e,_,_,h1,h2⟩:=eO (hc _ (PB hn));exact⟨x,y,r,by rw[N6 hn,e],h1,h2⟩
def rM{x y u:T}{r:List T}(g:Good cs ls)(hn:n<cs.length)(e:cs[n]?=ZA (.tup [x,y,.tup r]))(hr:r.length<=4)(hx:x.pl=ZC)(hy:y.pl=ZC)(hp:(T.tup r).pl=ZC)(hu:u.pl=ZC):
  cz [RR cs ls,.int n,u]=pR (.tup [.tup (kU cs n (.tup [x,y,.tup (r++[u])])),.tup ls]):=by
 refine tK rfl ?_
 show dS [.va (RR cs ls),.va (.int n),.va u,.em]=_
 unfold dS;rw[aD (r8 (t:=.non) (bf (ts:=[RR cs ls]) rfl (fh g.p g.ok)))];rw[aD (r8 (t:=.non) (bf (ts:=[.int (cs.length:Int),.int n]) rfl (wM rfl (w_in hn))))];rw[aD (Z':=[.va (RR cs ls),.va (.int n),.va u,.va (.tup [x,y,.tup r])]) (bM (t:=.tup [x,y,.tup r]) (iG (n:=n) (l:=cs) rfl rfl e) rfl)];refine ub (bf (ts:=[RR cs ls,.int n,.tup [x,y,.tup (r++[u])]]) (au rfl (au rfl (au (bc (au (t:=x) rfl (au (t:=y) rfl (au (t:=.tup (r++[u])) (aK (t:=.tup r) (u:=.tup [u]) rfl (bc rfl (aA (k:=1) (by simp))) (gA _ _ (by simp;omega))) rfl))) (aA (k:=3) (by simp))) rfl))) (wg g ?_))
 have:=ug hp (m:=[u]) (by simp[T.pl,plS,hu])
 simp[T.pl,plS,hx,hy]at this ⊢;exact this
def mJ(h:∀t∈l,t.dep<=n):(T.tup l).dep<=n+1:=by unfold T.dep;have:=An h;omega
def Bu(h:bL c=ZC):c.dep<=2:=by
 obtain⟨x,y,r,rfl,_⟩:=eO h;refine mJ λt ht=>?_
 simp only[N0,Pm,or_false]at ht;rcases ht with rfl|rfl|rfl
 ·simp[T.dep]
 ·simp[T.dep]
 ·exact mJ (n:=0) λt ht=>by obtain⟨i,_,rfl⟩:=Ov.mp ht;simp[T.dep]
def yH{t:T}(h:br cs t=ZC):t.dep<=2:=by
 obtain⟨a,b,x,y,rfl,hd,ha,hb,_⟩:=fm h;obtain⟨m1,m2⟩:=LZ h
 have:=(HW ha).2
 have:=(HW hb).2
 have hx:x.dep<=2:=by
  unfold dY at hd;rw[NX]at hd;obtain⟨i,rfl,_⟩:=b9 hd.1;simp[T.dep]
 unfold T.dep deps deps deps deps deps;obtain⟨a',b',mo,le,e,_⟩:=jW h;cases e;simp only[T.dep];omega
def zA(g:Good cs ls):(T.tup cs).dep<=3/\(T.tup ls).dep<=3:=⟨mJ λt ht=>Bu ((bu g.c).1 t ht),mJ λt ht=>yH (g.l t ht)⟩
def zy(h:cV (RR cs ls)=ZC)(hp:(RR cs ls).pl=ZC):Good cs ls:=by
 have h':(a8 (.tup cs)&&(eK (.tup ls) 0 8&&ls.all (br cs)))=ZC:=h;rw[NX,NX,Os]at h';exact⟨h'.1,h'.2.2,by have:=h'.2.1;simp[eK]at this;exact this,hp⟩
theorem Dh:∀{l:List T},(∀t∈l,t.nk D=ZC)->nks D l=ZC
 |[],_=>rfl
 |t::l,h=>by unfold nks;rw[h t (.head _),Dh λu hu=>h u (.tail _ hu)];rfl
def nt(h:∀t∈l,t.nk D=ZC):(T.tup l).nk D=ZC:=by unfold T.nk;exact Dh h
def EM(h:bL c=ZC):c.nk ZD=ZC:=by
 obtain⟨x,y,r,rfl,_⟩:=eO h;refine nt λt ht=>?_
 simp at ht
 rcases ht with rfl|rfl|rfl
 ·rfl
 ·rfl
 ·exact nt λu hu=>by obtain⟨k,_,rfl⟩:=Ov.mp hu;rfl
def xm{t:T}(h:bq cs t=ZC):t.nk ZD=ZC:=by
 obtain⟨c,k,rfl⟩:=dR h;rfl
def A9{t:T}(h:br cs t=ZC):t.nk ZD=ZC:=by
 obtain⟨a,b,x,y,rfl,hd,ha,hb,_⟩:=fm h;unfold dY at hd;rw[NX]at hd;obtain⟨i,rfl,_⟩:=b9 hd.1;refine nt λt ht=>?_
 simp at ht
 rcases ht with rfl|rfl|rfl|rfl
 ·exact xm ha
 ·exact xm hb
 ·rfl
 ·have:=hd.2
  cases t <;> first|rfl|simp[aX]at this
def GR(r:T):Prop:=∃cs ls,r=RR cs ls/\Good cs ls
variable{r:T}
def GR.pl(h:GR r):r.pl=ZC:=by obtain⟨cs,ls,rfl,g⟩:=h;exact g.p
def GR.nk(h:GR r):r.nk ZD=ZC:=by
 obtain⟨cs,ls,rfl,g⟩:=h;refine nt λt ht=>?_
 simp at ht
 rcases ht with rfl|rfl
 ·exact nt λc hc=>EM ((bu g.c).1 c hc)
 ·exact nt λu hu=>A9 (g.l u hu)
def GR.dep(h:GR r):r.dep<=4:=by
 obtain⟨cs,ls,rfl,g⟩:=h;refine mJ λt ht=>?_
 simp at ht
 rcases ht with rfl|rfl
 ·exact(zA g).1
 ·exact(zA g).2
def GR.hw(h:GR r):∃b,bF [r]=.ok (.bl b):=by
 obtain⟨cs,ls,rfl,g⟩:=h;obtain⟨L,P,R⟩:=v3 g;obtain⟨b,e,_⟩:=R.NL;exact⟨b,e⟩
def GR.need(h:GR r):aS [r]=.ok .non:=by
 obtain⟨cs,ls,rfl,g⟩:=h;exact fh g.p g.ok
def GR.of(hp:(RR cs ls).pl=ZC)(h:cV (RR cs ls)=ZC):GR (RR cs ls):=⟨cs,ls,rfl,zy h hp⟩
abbrev sp(w r:T):T:=.tup [w,r]
abbrev SK(P A:List T):OT:=.ob "Sketch" ["past","ahead"] [P,A]
abbrev SV(P A:List T):T:=.ob "Sketch" ["past","ahead"] [.lst P,.lst A]
def xf(l:List T)(z:T):aQ (.lst (l++[z])) (.int (-1))=.ok z:=by
 have:=uX l z;exact this
def kf(P A:α):kj "past" ["past","ahead"] [P,A]=ZA P:=by unfold kj;rw[if_pos rfl]
def mB(P A:α):kj "ahead" ["past","ahead"] [P,A]=ZA A:=by unfold kj;rw[if_neg (by decide)];unfold kj;rw[if_pos rfl]
def yo(P A Q:List T):jx "past" Q ["past","ahead"] [P,A]=[Q,A]:=by unfold jx;rw[if_pos rfl]
def uo(P A Q:List T):jx "ahead" Q ["past","ahead"] [P,A]=[P,Q]:=by unfold jx;rw[if_neg (by decide)];unfold jx;rw[if_pos rfl]
def MA(P A:List T)(w r:T):aW [SV (P++[sp w r]) A]=.ok r:=
 cC rfl (cZ (aK (aK (n8 (ns:=["past","ahead"]) (ts:=[.lst (P++[sp w r]),.lst A]) rfl (kf _ _)) (GN rfl rfl) (xf P (sp w r))) rfl (HR (n:=1) rfl)))
def EA(P A:List T):bU [SV P A]=.ok (.tup [.int ((P.length:Int) - 1),.int (A.length:Nat)]):=by
 refine cC rfl (cZ (bc (ts:=[.int ((P.length:Int) - 1),.int (A.length:Nat)]) (au (aK (t:=.int (P.length:Nat)) (u:=.int 1) (bf (ts:=[.lst P]) (au (n8 (ns:=["past","ahead"]) (ts:=[.lst P,.lst A]) rfl (kf _ _)) rfl) rfl) rfl rfl) (au (bf (ts:=[.lst A]) (au (n8 (ns:=["past","ahead"]) (ts:=[.lst P,.lst A]) rfl (mB _ _)) rfl) rfl) rfl)) (aA (k:=2) (by simp))))
def Kl(h:GR r):cJ [.ow (.ob "Sketch" [] []),.va r]=.ok (.non,SK [sp .non r] []):=by
 refine GL (Z:=[.ow (SK [sp .non r] []),.va r]) rfl ?_ rfl
 show cN [.ow (.ob "Sketch" [] []),.va r]=_
 unfold cN;refine ip (Z':=[.ow (.ob "Sketch" [] []),.va r]) (z8 (t:=.non) (GK (bf (ts:=[r]) rfl h.need))) ?_
 refine ip (Z':=[.ow (.ob "Sketch" ["past"] [[sp .non r]]),.va r]) ((yO (c:="Sketch") (ns:=[]) (ls:=[]) (l:=[sp .non r]) rfl (au (bc rfl (aA (k:=2) (by simp))) rfl) (by simp) (by simp)).trans rfl) ?_
 refine(yO (c:="Sketch") (ns:=["past"]) (ls:=[[sp .non r]]) (l:=[]) rfl rfl (by simp) (by simp)).trans ?_
 rw[if_neg (by decide)];rfl
variable{A P:List T}
def e_go{w:Str}{b:Bool}(hb:bF [r]=.ok (.bl b))(hl:P.length<=1000):bw [.ow (SK P A),.va (.str w),.va r]=.ok (.bl b,SK (P++[sp (.str w) r]) []):=by
 refine jY (Z:=[.ow (SK (P++[sp (.str w) r]) []),.va (.str w),.va r]) rfl ?_ rfl
 show gU [.ow (SK P A),.va (.str w),.va r]=_
 unfold gU;refine ip (Z':=[.ow (SK (P++[sp (.str w) r]) A),.va (.str w),.va r]) (z8 (t:=.non) ((yL (ns:=["past","ahead"]) (ls:=[P,A]) (l:=P) (t:=sp (.str w) r) rfl (kf _ _) (bc rfl (aA (k:=2) (by simp))) hl).trans (by rw[yo];rfl))) ?_
 refine ip (Z':=[.ow (SK (P++[sp (.str w) r]) []),.va (.str w),.va r]) ((yO (c:="Sketch") (ns:=["past","ahead"]) (ls:=[P++[sp (.str w) r],A]) (l:=[]) rfl rfl (by simp) (by simp)).trans (by rw[if_pos (by decide),uo];rfl)) ?_
 exact i0 (GK (bf (ts:=[r]) rfl hb))
variable{X:V5}{d:Str}
section
variable {w r' t u:T}{v:Str}
def qL(hi:Z[i]?=ZA (.ow (SK (P++[sp w r]) A)))(h:GR r):ln i (r6 "Sketch" "record" aW (vr i) aj) Z=.ok r:=by
 have hl:i<Z.length:=(N1.mp hi).1
 refine yP hi (DP (c:="Sketch") (ns:=["past","ahead"]) (ts:=[.lst (P++[sp w r]),.lst A]) (DI ?_) (by decide) rfl (MA P A w r)) h.nk
 unfold disown;rw[hi];simp[hl];rfl
def Mj(hi:Z[i]?=ZA (.ow (SK P A))):ln i (r6 "Sketch" "counts" bU (vr i) aj) Z=.ok (.tup [.int ((P.length:Int) - 1),.int (A.length:Nat)]):=by
 have hl:i<Z.length:=(N1.mp hi).1
 refine yP hi (DP (c:="Sketch") (ns:=["past","ahead"]) (ts:=[.lst P,.lst A]) (DI ?_) (by decide) rfl (EA P A)) rfl
 unfold disown;rw[hi];simp[hl];rfl
def DS(hi:Z[0]?=ZA (.ow (SK P A)))(hx:X Z=.err d):ij (cX 0 "Sketch" "go_on" bw (ae (cn (.str v)) (ae X aj))) Z=.err d:=by
 refine kM (DF (ns:=["past","ahead"]) (ls:=[P,A]) hi (by decide) ?_)
 unfold ae;rw[show cn (.str v) Z=.ok (.str v)from rfl,ay,hx];rfl
def Er(h:GR r)(hx:dw [r,t]=.err d):dO [.ow (SK (P++[sp w r]) A),.va t]=.err d:=
 kL rfl (DS (P:=P++[sp w r]) (A:=A) (Z:=[.ow (SK (P++[sp w r]) A),.va t]) rfl (bf (au (qL rfl h) rfl) hx))
def G1(h:GR r)(hx:cz [r,t,u]=.err d):d9 [.ow (SK (P++[sp w r]) A),.va t,.va u]=.err d:=
 kL rfl (DS (P:=P++[sp w r]) (A:=A) (Z:=[.ow (SK (P++[sp w r]) A),.va t,.va u]) rfl (bf (au (qL rfl h) rfl) hx))
def Kp(hp:P≠ [])(hl:P.length<=1000)(ha:A.length<=1000):bQ [.ow (SK (P++[sp w r]) A)]=.ok (w,SK P (A++[sp w r])):=by
 refine jY (Z:=[.ow (SK P (A++[sp w r])),.va (sp w r)]) rfl ?_ rfl
 show eC [.ow (SK (P++[sp w r]) A),.em]=_
 unfold eC
 have hn:((P++[sp w r]).length:Int)≠1:=by
  rw[N3]
  have:P.length≠0:=λz=>hp (SL.mp z)
  simp;omega
 have c0:tb (o2 ju (ln 0 (cl bX (ae (o1 (kY "Sketch" "past") (vr 0)) aj))) (cn (.int 1))) [.ow (SK (P++[sp w r]) A),.em]=.ok ZD:=by
  refine a7 (aK (t:=.int ((P++[sp w r]).length:Nat)) (u:=.int 1) (yP (o:=SK (P++[sp w r]) A) rfl (bf (ts:=[.lst (P++[sp w r])]) (au (n8 (ns:=["past","ahead"]) (ts:=[.lst (P++[sp w r]),.lst A]) rfl (kf _ _)) rfl) rfl) rfl) rfl ?_)
  rw[u5,beq_eq_false_iff_ne.mpr hn]
 refine ip (Z':=[.ow (SK (P++[sp w r]) A),.em]) ((zZ c0).trans rfl) ?_
 refine ip (Z':=[.ow (SK P A),.va (sp w r)]) (HP (Z':=[.ow (SK P A),.em]) ((DE (ns:=["past","ahead"]) (ls:=[P++[sp w r],A]) (l:=P) (t:=sp w r) rfl (kf _ _)).trans (by rw[yo];rfl)) (by simp)) ?_
 refine ip (Z':=[.ow (SK P (A++[sp w r])),.va (sp w r)]) (z8 (t:=.non) ((yL (ns:=["past","ahead"]) (ls:=[P,A]) (l:=A) (t:=sp w r) rfl (mB _ _) rfl ha).trans (by rw[uo];rfl))) ?_
 exact i0 (GK (iG (n:=0) (l:=[w,r]) rfl rfl rfl))
def G3(hl:P.length<=1000)(hd:∀s∈A++[sp w r],s.pl=ZC):bR [.ow (SK P (A++[sp w r]))]=.ok (w,SK (P++[sp w r]) A):=by
 refine jY (Z:=[.ow (SK (P++[sp w r]) A),.va (sp w r)]) rfl ?_ rfl
 show dU [.ow (SK P (A++[sp w r])),.em]=_
 unfold dU
 have c0:Fc 0 (tb (o2 ju (o1 (kY "Sketch" "ahead") (vr 0)) (de aj))) [.ow (SK P (A++[sp w r])),.em]=.ok ZD:=by
  refine DQ (a7 (aK (t:=.lst (A++[sp w r])) (u:=.lst []) (n8 (ns:=["past","ahead"]) (ts:=[.lst P,.lst (A++[sp w r])]) rfl (mB _ _)) (gn rfl (by unfold ZI;simp)) ?_))
  unfold ju;rw[if_pos (mF (by simp[T.dep,deps]) (T.M9 _ (by unfold T.pl;exact iV hd)) rfl)]
  cases A <;> rfl
 refine ip (Z':=[.ow (SK P (A++[sp w r])),.em]) ((zZ c0).trans rfl) ?_
 refine ip (Z':=[.ow (SK P A),.va (sp w r)]) (HP (Z':=[.ow (SK P A),.em]) ((DE (ns:=["past","ahead"]) (ls:=[P,A++[sp w r]]) (l:=A) (t:=sp w r) rfl (mB _ _)).trans (by rw[uo];rfl)) (by simp)) ?_
 refine ip (Z':=[.ow (SK (P++[sp w r]) A),.va (sp w r)]) (z8 (t:=.non) ((yL (ns:=["past","ahead"]) (ls:=[P,A]) (l:=P) (t:=sp w r) rfl (kf _ _) rfl hl).trans (by rw[yo];rfl))) ?_
 exact i0 (GK (iG (n:=0) (l:=[w,r]) rfl rfl rfl))
end
def dZ(r:T):Bool:=match bF [r]with
 |.ok (.bl b)=>b
 |_=>ZD
def GR.has(h:GR r):bF [r]=.ok (.bl (dZ r)):=by
 obtain⟨b,e⟩:=h.hw;unfold dZ;rw[e]
def D7{P:List N2}(R:Rd cs ls L P):dZ (RR cs ls)=ZC↔oh L:=by
 obtain⟨b,e,h⟩:=R.NL;unfold dZ;rw[e];exact h
def rc:T->T
 |.tup [_,r] =>r
 |_=>.non
def jr(P:List T):T:=match P.reverse.find? (λs=>dZ (rc s))with
 |some s=>rc s
 |none=>.non
def yJ(P:List T)(s:T):jr (P++[s])=if dZ (rc s)then rc s else jr P:=by
 unfold jr;rw[List.reverse_append,List.reverse_singleton,S7,Qb]
 cases dZ (rc s) <;> rfl
theorem Ag(v:T):∀(l:List T)(s1:Sl),(∀s∈l,∃w r,s=sp w r/\GR r)->(match l.find? (λs=>dZ (rc s))with
  |some s=>bo (gN 1) MS l [.va v,s1]=.ok (.rt (rc s))
  |none=>∃s2,bo (gN 1) MS l [.va v,s1]=.ok (.nx [.va v,s2]))
 |[],s1,_=>⟨s1,rfl⟩
 |s::l,s1,h=>by
  obtain⟨w,r,rfl,hr⟩:=h s (.head _)
  have ih:=Ag v l (.va (sp w r)) λu hu=>h u (.tail _ hu)
  have hix:o2 aQ (vr 1) (cn (.int 1)) [.va v,.va (sp w r)]=.ok r:=iG (n:=1) (l:=[w,r]) rfl rfl rfl
  have ht:tb (cl bF (ae (o2 aQ (vr 1) (cn (.int 1))) aj)) [.va v,.va (sp w r)]=.ok (dZ r):=a7 (bf (ts:=[r]) (au hix rfl) hr.has);rw[Qb]
  show match(match dZ r with|true=>ZA (sp w r)|false=>_)with|some s=>_|none=>_
  cases hb:dZ r with
  |true=>
   rw[hb]at ht
   exact z9 (Z1:=[.va v,.va (sp w r)]) rfl ((ee ht).trans (cZ hix))
  |false=>
   rw[hb]at ht
   have e:∀{x},bo (gN 1) MS l [.va v,.va (sp w r)]=x->bo (gN 1) MS (sp w r::l) [.va v,s1]=x:=λ{x} e=>(dz (Z1:=[.va v,.va (sp w r)]) rfl ((dC ht).trans rfl)).trans e
   dsimp only
   revert ih
   cases l.find? (λs=>dZ (rc s))with
   |some s=>intro ih;exact e ih
   |none=>intro ⟨s2,ih⟩;exact⟨s2,e ih⟩
def Km(h:∀s∈P,∃w r,s=sp w r/\GR r):cS [SV P A]=.ok (jr P):=by
 refine cC rfl ?_
 show iy [.va (SV P A),.em]=_
 unfold iy
 have hi:D6 (ae (o1 (kY "Sketch" "past") (vr 0)) aj) [.va (SV P A),.em]=.ok P.reverse:=by
  unfold D6;rw[au (n8 (ns:=["past","ahead"]) (ts:=[.lst P,.lst A]) rfl (kf _ _)) rfl];rfl
 have hl:=Ag (SV P A) P.reverse .em λs hs=>h s (SU.mp hs)
 unfold jr
 revert hl
 cases P.reverse.find? (λs=>dZ (rc s))with
 |some s=>intro hl;exact ik (fq hi hl)
 |none=>intro ⟨s2,hl⟩;exact(aD (fq hi hl)).trans rfl
def w6(h:∀s∈P,∃w r,s=sp w r/\GR r):jr P=.non\/GR (jr P):=by
 unfold jr
 cases e:P.reverse.find? (λs=>dZ (rc s))with
 |none=>exact .inl rfl
 |some s=>
  obtain⟨w,r,rfl,hr⟩:=h s (SU.mp (List.mem_of_find?_eq_some e))
  exact .inr hr
def J6(h:∀s∈P,∃w r,s=sp w r/\GR r)(hi:Z[i]?=ZA (.ow (SK P A))):ln i (r6 "Sketch" "good" cS (vr i) aj) Z=.ok (jr P):=by
 have hl:i<Z.length:=(N1.mp hi).1
 refine yP hi (DP (c:="Sketch") (ns:=["past","ahead"]) (ts:=[.lst P,.lst A]) (DI ?_) (by decide) rfl (Km h)) ((w6 h).elim (λe=>by rw[e];rfl) λg=>g.nk)
 unfold disown;rw[hi];simp[hl];rfl
def KH(v:Str):Prop:=v= "write"\/v= "read"\/v= "cut"
def wd:T->T
 |.tup [w,_] =>w
 |_=>.non
structure Pk (P:List T):Prop where
 ne:P≠ []
 st:∀s∈P,s=sp (wd s) (rc s)/\GR (rc s)/\(wd s).pl=ZC
 w:∀(j:Nat)(s:T),P[j+1]?=ZA s->∃v,KH v/\wd s=.str v
 n:P.length<=50
abbrev At(P:List T)(k:Nat):OT:=SK (P.take k) ((P.drop k).reverse)
variable{s:T}
def mU(e:P[j]?=ZA s):P.take (j+1)=P.take j++[s]:=by
 rw[List.take_add_one,e];rfl
def yY(e:P[j]?=ZA s):(P.drop j).reverse=(P.drop (j+1)).reverse++[s]:=by
 obtain⟨hj,rfl⟩:=N1.mp e
 rw[Qs hj,List.reverse_cons]
def Pk.back(h:Pk P)(e:P[j+1]?=ZA s):bQ [.ow (At P (j+2))]=.ok (wd s,At P (j+1)):=by
 obtain⟨h1,h2,_⟩:=h.st s (Ot e)
 have hn:=h.n
 have hj:=(N1.mp e).1
 show bQ [.ow (SK (P.take (j+1+1)) ((P.drop (j+2)).reverse))]=_
 rw[mU e];unfold At;rw[yY e]
 have:=Kp (P:=P.take (j+1)) (A:=(P.drop (j+2)).reverse) (w:=wd s) (r:=rc s) (λz=>by have:=congrArg Pb z;rw[OU,Tb]at this;omega) (by rw[OU];omega) (by rw[R3,PZ];omega)
 rw[<-h1]at this;exact this
def Pk.forth(h:Pk P)(e:P[j+1]?=ZA s):bR [.ow (At P (j+1))]=.ok (wd s,At P (j+2)):=by
 obtain⟨h1,h2,_⟩:=h.st s (Ot e)
 have hn:=h.n
 have hj:=(N1.mp e).1
 unfold At;rw[show j+2=j+1+1 from rfl,mU e,yY e]
 have:=G3 (P:=P.take (j+1)) (A:=(P.drop (j+2)).reverse) (w:=wd s) (r:=rc s) (by rw[OU];omega) (λu hu=>?_)
 ·rw[<-h1]at this
  exact this
 ·rw[<-h1,<-yY e]at hu
  obtain⟨g1,g2,g3⟩:=h.st u (RT (SU.mp hu));rw[g1];exact iU g3 g2.pl
def Pk.NN(h:Pk P)(e:P[j]?=ZA s)(hi:Z[i]?=ZA (.ow (At P (j+1)))):ln i (r6 "Sketch" "record" aW (vr i) aj) Z=.ok (rc s):=by
 obtain⟨h1,h2,_⟩:=h.st s (Ot e);unfold At at hi;rw[mU e,h1]at hi;exact qL hi h2
def Pk.cnt(h:Pk P)(hj:j<P.length)(hi:Z[i]?=ZA (.ow (At P (j+1)))):ln i (r6 "Sketch" "counts" bU (vr i) aj) Z=.ok (.tup [.int (j:Nat),.int ((P.length - 1 - j:Nat):Int)]):=by
 have:=Mj hi;rw[OU,R3,PZ]at this;rw[this]
 have a1:((min (j+1) P.length:Nat):Int) - 1=(j:Nat):=by omega
 have a2:P.length - (j+1)=P.length - 1 - j:=by omega
 rw[a1,a2]
def GR.ne(h:GR r):lu r r=.ok (.bl ZD):=gu h.pl (by have:=h.dep;omega)
def DA(h:∀s∈P,∃w r,s=sp w r/\GR r):lu (jr P) (jr P)=.ok (.bl ZD):=(w6 h).elim (λe=>by rw[e];exact gu rfl (by simp[T.dep])) λg=>g.ne
def GR.NI(h:GR r):dN [r]=.ok (.bl (dZ r)):=by
 obtain⟨cs,ls,rfl,g⟩:=h;obtain⟨L,P,R⟩:=v3 g;obtain⟨t,ht,e⟩:=GZ R.nd (by have:=R.e;have:=congrArg Pb this;have h2:=pf cs 0 (bu g.c).1;have h3:=(bu g.c).2.2;simp at this;omega) R.f.ends
 refine cC rfl (cZ (aK (t:=t) (u:=.non) (bf (ts:=[eS P,eL L]) (au (bf (ts:=[.tup cs]) (au (iG (n:=0) (l:=[.tup cs,.tup ls]) rfl rfl rfl) rfl) (by rw[xo cs g.c,R.e];rfl)) (au (bf (ts:=[RR cs ls]) rfl (by rw[Bm g.c g.l g.n,R.b];rfl)) rfl)) e) rfl ?_))
 show Rs.ok (T.bl (!t.isN))=_
 rcases ht with⟨n,_,rfl⟩|⟨n,rfl⟩
 ·rw[(D7 R).mpr n];rfl
 ·have:dZ (RR cs ls)=ZD:=by
   cases hb:dZ (RR cs ls)
   ·rfl
   ·exact absurd ((D7 R).mp hb) n
  rw[this];rfl
variable{n:Int}
def sJ{t:T}(ht:t.pl=ZC)(h:aX t 0 (n - 1)=ZD):cP [.int n,t]=.err "NoNumber":=by
 refine lR rfl ?_
 show ef [.va (.int n),.va t]=_
 unfold ef;exact(ee (qM (k:=ZD) (a7 (bf (ts:=[t,.int 0,.int (n - 1)]) rfl (by rw[ft _ _ _ ht,h]))))).trans rfl
def yn(g:Good cs ls)(hn:aX (.int n) 0 ((ls.length:Int) - 1)=ZD):cw [RR cs ls,.int n]=.err "NoNumber":=by
 refine lR rfl ?_
 show da [.va (RR cs ls),.va (.int n),.em]=_
 unfold da;rw[aD (r8 (t:=.non) (bf (ts:=[RR cs ls]) rfl (fh g.p g.ok)))];rw[aD (Z':=[.va (RR cs ls),.va (.int n),.va (.tup ls)]) ((bM (t:=.tup ls) rfl rfl))];exact yM (DU (bf (ts:=[.int (ls.length:Int),.int n]) rfl (sJ rfl hn)))
def we{u:T}(g:Good cs ls)(hn:aX (.int n) 0 ((cs.length:Int) - 1)=ZD):cz [RR cs ls,.int n,u]=.err "NoNumber":=by
 refine lR rfl ?_
 show dS [.va (RR cs ls),.va (.int n),.va u,.em]=_
 unfold dS;rw[aD (r8 (t:=.non) (bf (ts:=[RR cs ls]) rfl (fh g.p g.ok)))];exact yM (DU (bf (ts:=[.int (cs.length:Int),.int n]) rfl (sJ rfl hn)))
def MU(ask:Nat)(r t:T)(n u:Int):Rs T:=match ask with
 |0=>dw [r,t]
 |1=>cz [r,.int n,.int u]
 |_=>cw [r,.int n]
def r0:lS "NoRecord" =.ok (dE 0):=by unfold lS;rw[if_pos rfl]
def r1:lS "NoNumber" =.ok (dE 1):=by unfold lS;rw[if_neg (by decide),if_pos rfl]
def r2:lS "Nothing" =.ok (dE 2):=by unfold lS;rw[if_neg (by decide),if_neg (by decide),if_pos rfl]
abbrev NE(R:T)(ask:Nat)(S:T)(cs ls t n u f8 f9 f10 f11:Sl):En:=[.va R,.va (.int (ask:Nat)),.va S,cs,ls,t,n,u,f8,f9,f10,f11]
def Aw(ask:Nat)(r t:T)(n u:Int):Prop:=(∃r',MU ask r t n u=.ok r'/\GR r'/\cH [r,.int (ask:Nat),.tup [t,.int n,.int u]]=.ok r') ∨
 ∃c j,MU ask r t n u=.err c/\lS c=.ok (dE j)/\cH [r,.int (ask:Nat),.tup [t,.int n,.int u]]=.ok (dE j)
section
variable {t:T}{u:Int}
def mq{x:Fl}(e:(aB X2 (aB X3 (aB X4 (aB X5 (aB X6 X7))))) (NE (RR cs ls) ask (.tup [t,.int n,.int u]) (.va (.tup cs)) (.va (.tup ls)) (.va t) (.va (.int n)) (.va (.int u)) .em .em .em .em)=.ok x)(hx:x=.rt r'):cH [RR cs ls,.int (ask:Nat),.tup [t,.int n,.int u]]=.ok r':=by
 subst hx;refine cC rfl ?_
 show ku (NE (RR cs ls) ask (.tup [t,.int n,.int u]) .em .em .em .em .em .em .em .em .em)=_
 unfold ku;rw[aD (Z':=NE (RR cs ls) ask (.tup [t,.int n,.int u]) (.va (.tup cs)) (.va (.tup ls)) .em .em .em .em .em .em .em) (bM (t:=RR cs ls) rfl rfl)];rw[aD (Z':=NE (RR cs ls) ask (.tup [t,.int n,.int u]) (.va (.tup cs)) (.va (.tup ls)) (.va t) (.va (.int n)) (.va (.int u)) .em .em .em .em) (bM (t:=.tup [t,.int n,.int u]) rfl rfl)];exact e
def Lc{f:T}(h8:Z[8]?=ZA (.va f))(hp:f.pl=ZC):aN (qO (tb (cl bD (ae (vr 8) aj))) (vr 8) (aP (ae (cn (.str "refused")) (ae (cn (.int 0)) aj)))) Z=.ok (.rt (if cV f then f else dE 0)):=by
 refine cZ ((jt (p:=cV f) (a7 (bf (ts:=[f]) (au (DI h8) rfl) (mH f hp)))).trans ?_)
 cases cV f
 ·exact bc rfl (aA (k:=2) (by simp))
 ·exact DI h8
def nx0(g:Good cs ls)(ht:t.pl=ZC):Aw 0 (RR cs ls) t n u:=by
 have hp:(RR cs (ls++[t])).pl=ZC:=iU g.parts.1 (ug g.pls (by simp[T.pl,plS,ht]))
 have hn:cH [RR cs ls,.int (0:Nat),.tup [t,.int n,.int u]]=.ok (if cV (RR cs (ls++[t]))then RR cs (ls++[t])else dE 0):=by
  refine mq (x:=.rt _) ?_ rfl
  refine ik ((ee (a7 rfl)).trans ?_)
  rw[aD (bM (t:=RR cs (ls++[t])) (bc (au rfl (au (aK (t:=.tup ls) (u:=.tup [t]) rfl (bc rfl (aA (k:=1) (by simp))) (gA _ _ (by have:=g.n;simp;omega))) rfl)) (aA (k:=2) (by simp))) rfl)]
  exact Lc rfl hp
 have hw:=um g.parts.1 g.pls (by have:=g.n;omega) ht g.ok
 unfold pR at hw
 cases hr:cV (RR cs (ls++[t]))with
 |true=>
  rw[hr,if_pos rfl]at hn;rw[if_pos hr]at hw
  exact .inl ⟨_,hw,GR.of hp hr,hn⟩
 |false=>
  rw[hr,if_neg N9]at hn;rw[if_neg (by rw[hr];exact N9)]at hw
  exact .inr ⟨_,0,hw,r0,hn⟩
def Hy{m:Nat}(hl:aQ (.lst [.tup cs,.tup ls]) (.int ((ask:Int) - 1))=.ok (.tup l))(f8 f9 f10 f11:Sl):(m5 (tb (o1 (BI "bool") (vr 6))) (d8 (tb (ch zS nA (cn (.int 0)) (vr 6) (cl bX (ae (o2 aQ (de (ae (vr 3) (ae (vr 4) aj))) (o2 cv (vr 1) (cn (.int 1)))) aj)))))) (NE (RR cs ls) ask (.tup [t,.int n,.int u]) (.va (.tup cs)) (.va (.tup ls)) (.va t) (.va (.int n)) (.va (.int u)) f8 f9 f10 f11)=.ok (!aX (.int n) 0 ((l.length:Int) - 1)):=by
 refine zY (a7 rfl) (qM ?_)
 refine a7 ?_
 have hlen:cl bX (ae (o2 aQ (de (ae (vr 3) (ae (vr 4) aj))) (o2 cv (vr 1) (cn (.int 1)))) aj) (NE (RR cs ls) ask (.tup [t,.int n,.int u]) (.va (.tup cs)) (.va (.tup ls)) (.va t) (.va (.int n)) (.va (.int u)) f8 f9 f10 f11)=.ok (.int (l.length:Nat)):=bf (ts:=[.tup l]) (au (aK (t:=.lst [.tup cs,.tup ls]) (u:=.int ((ask:Int) - 1)) (gn rfl (by unfold ZI;simp)) rfl hl) rfl) rfl
 unfold ch;rw[show cn (.int 0) (NE (RR cs ls) ask (.tup [t,.int n,.int u]) (.va (.tup cs)) (.va (.tup ls)) (.va t) (.va (.int n)) (.va (.int u)) f8 f9 f10 f11)=.ok (.int 0)from rfl,ay,show vr 6 (NE (RR cs ls) ask (.tup [t,.int n,.int u]) (.va (.tup cs)) (.va (.tup ls)) (.va t) (.va (.int n)) (.va (.int u)) f8 f9 f10 f11)=.ok (.int n)from rfl,ay]
 show((Rs.ok (T.bl (decide ((0:Int)<=n))):Rs T) >>= _)=_
 rw[ay]
 show _=Rs.ok (T.bl (decide (0<=n)&&decide (n<=(l.length:Int) - 1)))
 by_cases h0:0<=n
 ·rw[decide_eq_true h0,Ro]
  show(cl bX _ _ >>= _)=_
  rw[hlen,ay]
  show Rs.ok (T.bl (decide (n<((l.length:Nat):Int))))=_
  rw[show decide (n<((l.length:Nat):Int))=decide (n<=(l.length:Int) - 1)from decide_eq_decide.mpr (by omega)]
 ·rw[decide_eq_false h0,TQ]
def nx2(g:Good cs ls):Aw 2 (RR cs ls) t n u:=by
 have hg:=g.n
 have h2:X2 (NE (RR cs ls) 2 (.tup [t,.int n,.int u]) (.va (.tup cs)) (.va (.tup ls)) (.va t) (.va (.int n)) (.va (.int u)) .em .em .em .em)=.ok (.nx (NE (RR cs ls) 2 (.tup [t,.int n,.int u]) (.va (.tup cs)) (.va (.tup ls)) (.va t) (.va (.int n)) (.va (.int u)) .em .em .em .em)):=(dC (a7 rfl)).trans rfl
 have hx:=Hy (cs:=cs) (ls:=ls) (t:=t) (n:=n) (u:=u) (ask:=2) (m:=0) (l:=ls) rfl .em .em .em .em
 cases hw:aX (.int n) 0 ((ls.length:Int) - 1)with
 |false=>
  rw[hw]at hx
  exact .inr ⟨_,1,yn g hw,r1,mq (x:=.rt _) ((aD h2).trans (ik ((ee hx).trans (cZ (bc rfl (aA (k:=2) (by simp))))))) rfl⟩
 |true=>
  rw[hw]at hx;obtain⟨i,hi,h0,h1⟩:=b9 hw;cases hi;obtain⟨k,rfl⟩:=OF h0
  have hk:k<ls.length:=by omega
  refine .inl ⟨_,AW g hk,⟨cs,_,rfl,g.sub (λv hv=>?_) (O4 (uq _ _) g.n)⟩,mq (x:=.rt _) ((aD h2).trans ((aD ((dC hx).trans rfl)).trans (ik ((ee (a7 rfl)).trans (cZ (bc (au (t:=.tup cs) rfl (au (t:=.tup (wj ls k)) (aK (t:=.tup (ls.take k)) (u:=.tup (ls.drop (k+1))) (za rfl rfl) (vc rfl rfl) (gA _ _ (by have:=uq ls k;unfold wj at this;omega))) rfl)) (aA (k:=2) (by simp)))))))) rfl⟩
  unfold wj at hv;rcases Oq.mp hv with z|z
  ·exact P3 z
  ·exact RT z
def nx1(g:Good cs ls):Aw 1 (RR cs ls) t n u:=by
 have hc4:=(bu g.c).2.2
 have h2:X2 (NE (RR cs ls) 1 (.tup [t,.int n,.int u]) (.va (.tup cs)) (.va (.tup ls)) (.va t) (.va (.int n)) (.va (.int u)) .em .em .em .em)=.ok (.nx (NE (RR cs ls) 1 (.tup [t,.int n,.int u]) (.va (.tup cs)) (.va (.tup ls)) (.va t) (.va (.int n)) (.va (.int u)) .em .em .em .em)):=(dC (a7 rfl)).trans rfl
 have hx:=Hy (cs:=cs) (ls:=ls) (t:=t) (n:=n) (u:=u) (ask:=1) (m:=0) (l:=cs) rfl .em .em .em .em
 cases hw:aX (.int n) 0 ((cs.length:Int) - 1)with
 |false=>
  rw[hw]at hx
  exact .inr ⟨_,1,we g hw,r1,mq (x:=.rt _) ((aD h2).trans (ik ((ee hx).trans (cZ (bc rfl (aA (k:=2) (by simp))))))) rfl⟩
 |true=>
  rw[hw]at hx;obtain⟨i,hi,h0,h1⟩:=b9 hw;cases hi;obtain⟨k,rfl⟩:=OF h0
  have hk:k<cs.length:=by omega
  obtain⟨x,y,rr,er,h1',h4⟩:=xE g (n:=k) hk
  have plr:(T.tup (rr.map .int)).pl=ZC:=by rw[iQ];exact iV λt ht=>by obtain⟨k,_,rfl⟩:=Ov.mp ht;rfl
  have hw2:=rM (u:=.int u) g (n:=k) hk er (by rw[NW];exact h4) rfl rfl plr rfl
  have hp:(RR (kU cs k (.tup [.int x,.int y,.tup (rr.map .int++[.int u])])) ls).pl=ZC:=by
   refine iU (CN g.parts.1 ?_) g.pls
   have:=ug plr (m:=[.int u]) rfl;simp[T.pl,plS]at this ⊢;exact this
  have hn:cH [RR cs ls,.int (1:Nat),.tup [t,.int (k:Nat),.int u]]=.ok (if cV (RR (kU cs k (.tup [.int x,.int y,.tup (rr.map .int++[.int u])])) ls)then RR (kU cs k (.tup [.int x,.int y,.tup (rr.map .int++[.int u])])) ls else dE 0):=by
   refine mq (x:=.rt _) ((aD h2).trans ((aD ((dC hx).trans rfl)).trans ((aD ((dC (a7 rfl)).trans rfl)).trans ?_))) rfl
   rw[aD (Z':=NE (RR cs ls) 1 (.tup [t,.int (k:Nat),.int u]) (.va (.tup cs)) (.va (.tup ls)) (.va t) (.va (.int (k:Nat))) (.va (.int u)) .em (.va (.int x)) (.va (.int y)) (.va (.tup (rr.map .int)))) (bM (t:=.tup [.int x,.int y,.tup (rr.map .int)]) (iG (n:=k) (l:=cs) rfl rfl er) rfl)];rw[aD (bM (t:=RR (kU cs k (.tup [.int x,.int y,.tup (rr.map .int++[.int u])])) ls) (bc (au (t:=.tup (kU cs k (.tup [.int x,.int y,.tup (rr.map .int++[.int u])]))) (DM (by omega) rfl rfl (bc (au rfl (au rfl (au (aK (t:=.tup (rr.map .int)) (u:=.tup [.int u]) rfl (bc rfl (aA (k:=1) (by simp))) (gA _ _ (by simp;omega))) rfl))) (aA (k:=3) (by simp)))) (au rfl rfl)) (aA (k:=2) (by simp))) rfl)]
   exact Lc rfl hp
  unfold pR at hw2
  cases hr:cV (RR (kU cs k (.tup [.int x,.int y,.tup (rr.map .int++[.int u])])) ls)with
  |true=>
   rw[hr,if_pos rfl]at hn;rw[if_pos hr]at hw2
   exact .inl ⟨_,hw2,GR.of hp hr,hn⟩
  |false=>
   rw[hr,if_neg N9]at hn;rw[if_neg (by rw[hr];exact N9)]at hw2
   exact .inr ⟨_,0,hw2,r0,hn⟩
end
def JF{t:T}{u:Int}(ha:ask<3)(h:GR r)(ht:t.pl=ZC):Aw ask r t n u:=by
 obtain⟨cs,ls,rfl,g⟩:=h
 match ask,ha with
 |0,_=>exact nx0 g ht
 |1,_=>exact nx1 g
 |2,_=>exact nx2 g
variable{c:Str}
section
variable {f:V6}{F G':En->Rs Fx}{Z':En}{t:T}{x y:En->Rs (T×En)}
def jZ{z:Rs Fx}(h:f Z=.ok ZC)(h2:F Z=z)(hz:MR z=z):qB f F G' Z=z:=by unfold qB;rw[h];show MR (F Z)=_;rw[h2];exact hz
def j0(h:f Z=.ok ZD):qB f F G' Z=G' Z:=by unfold qB;rw[h];rfl
def uU(h:f Z=.ok ZC):BZ f x y Z=x Z:=by unfold BZ;rw[h];rfl
def uV(h:f Z=.ok ZD):BZ f x y Z=y Z:=by unfold BZ;rw[h];rfl
end
def nR(ask:Nat):Str:=match ask with
 |0=> "write"
 |1=> "read"
 |_=> "cut"
variable{g:List Sl->Rs (T×OT)}{hh:Str->Rs T}{o':OT}{v:T}
section
variable {w r' t:T}{u:Int}
def G6(s:T):bQ [.ow (SK [s] A)]=.err "Nothing":=by
 refine kL rfl ?_
 show eC [.ow (SK [s] A),.em]=_
 unfold eC
 have c0:tb (o2 ju (ln 0 (cl bX (ae (o1 (kY "Sketch" "past") (vr 0)) aj))) (cn (.int 1))) [.ow (SK [s] A),.em]=.ok ZC:=
  a7 (aK (t:=.int ((1:Nat):Int)) (u:=.int 1) (yP (o:=SK [s] A) rfl (bf (ts:=[.lst [s]]) (au (n8 (ns:=["past","ahead"]) (ts:=[.lst [s],.lst A]) rfl (kf _ _)) rfl) rfl) rfl) rfl (by rw[u5];rfl))
 exact uW ((zZ c0).trans rfl)
def Ey:bR [.ow (SK P [])]=.err "Nothing":=by
 refine kL rfl ?_
 show dU [.ow (SK P []),.em]=_
 unfold dU
 have c0:Fc 0 (tb (o2 ju (o1 (kY "Sketch" "ahead") (vr 0)) (de aj))) [.ow (SK P []),.em]=.ok ZC:=
  DQ (a7 (aK (t:=.lst []) (u:=.lst []) (n8 (ns:=["past","ahead"]) (ts:=[.lst P,.lst []]) rfl (mB _ _)) (gn rfl (by unfold ZI;simp)) (u4 rfl (by simp[T.dep,deps]))))
 exact uW ((zZ c0).trans rfl)
def Ex{v:Str}(hi:Z[0]?=ZA (.ow (SK P A)))(hx:X Z=.ok r')(h:GR r')(hl:P.length<=1000):ij (cX 0 "Sketch" "go_on" bw (ae (cn (.str v)) (ae X aj))) Z=.ok (.rt (.bl (dZ r')) (Z.set 0 (.ow (SK (P++[sp (.str v) r']) [])))):=
 i0 (kK (ns:=["past","ahead"]) (ls:=[P,A]) (ts:=[.str v,r']) hi (by decide) (au rfl (au hx rfl)) (e_go h.has hl))
abbrev KQ(o:OT)(ask:Nat)(t:T)(n u:Int):En:=[.ow o,.va (.int (ask:Nat)),.va (.tup [t,.int n,.int u]),.em]
def HS{o:OT}(e:[t,.int n,.int u][j]?=ZA v):o2 aQ (vr 2) (cn (.int (j:Nat))) (KQ o ask t n u)=.ok v:=iG (n:=j) (l:=[t,.int n,.int u]) rfl rfl e
def vB{o:OT}(h:tdB (KQ o ask t n u)=.ok (.rt v (KQ o' ask t n u))):bH [.ow o,.va (.int (ask:Nat)),.va (.tup [t,.int n,.int u])]=.ok (v,o'):=jY (Z:=KQ o' ask t n u) rfl (J3 h) rfl
def vC{o:OT}(h:tdB (KQ o ask t n u)=.err c)(hc:lS c=.ok v):bH [.ow o,.va (.int (ask:Nat)),.va (.tup [t,.int n,.int u])]=.ok (v,o):=jY (Z:=KQ o ask t n u) rfl (GQ h hc) rfl
def Ir(ha:ask<3)(h:GR r)(hl:(P++[sp w r]).length<=1000):(∀r',MU ask r t n u=.ok r'->GR r'->bH [.ow (SK (P++[sp w r]) A),.va (.int (ask:Nat)),.va (.tup [t,.int n,.int u])]=.ok (.bl (dZ r'),SK (P++[sp w r] ++[sp (.str (nR ask)) r']) [])) ∧
  (∀c v,MU ask r t n u=.err c->lS c=.ok v->bH [.ow (SK (P++[sp w r]) A),.va (.int (ask:Nat)),.va (.tup [t,.int n,.int u])]=.ok (v,SK (P++[sp w r]) A)):=by
 match ask,ha with
 |0,_=>
  refine⟨λr' hx h'=>vB (jZ (a7 rfl) (jZ (a7 rfl) (i0 (kK (c:="Sketch") (ns:=["past","ahead"]) (ls:=[P++[sp w r],A]) (ts:=[t]) rfl (by decide) (au (HS (j:=0) rfl) rfl) (jY rfl (Ex (Z:=[.ow (SK (P++[sp w r]) A),.va t]) rfl (bf (au (qL rfl h) rfl) hx) h' hl) rfl))) rfl) rfl),λc v hx hc=>vC (jZ (a7 rfl) (jZ (a7 rfl) (kM (jX (c:="Sketch") (ns:=["past","ahead"]) (ls:=[P++[sp w r],A]) (ts:=[t]) rfl (by decide) (au (HS (j:=0) rfl) rfl) (Er h hx))) rfl) rfl) hc⟩
 |1,_=>
  refine⟨λr' hx h'=>vB (jZ (a7 rfl) ((j0 (a7 rfl)).trans (i0 ((uU (a7 rfl)).trans (kK (c:="Sketch") (ns:=["past","ahead"]) (ls:=[P++[sp w r],A]) (ts:=[.int n,.int u]) rfl (by decide) (au (HS (j:=1) rfl) (au (HS (j:=2) rfl) rfl)) (jY rfl (Ex (Z:=[.ow (SK (P++[sp w r]) A),.va (.int n),.va (.int u)]) rfl (bf (au (qL rfl h) rfl) hx) h' hl) rfl))))) rfl),λc v hx hc=>vC (jZ (a7 rfl) ((j0 (a7 rfl)).trans (kM ((uU (a7 rfl)).trans (jX (c:="Sketch") (ns:=["past","ahead"]) (ls:=[P++[sp w r],A]) (ts:=[.int n,.int u]) rfl (by decide) (au (HS (j:=1) rfl) (au (HS (j:=2) rfl) rfl)) (G1 h hx))))) rfl) hc⟩
 |2,_=>
  refine⟨λr' hx h'=>vB (jZ (a7 rfl) ((j0 (a7 rfl)).trans (i0 ((uV (a7 rfl)).trans (kK (c:="Sketch") (ns:=["past","ahead"]) (ls:=[P++[sp w r],A]) (ts:=[.int n]) rfl (by decide) (au (HS (j:=1) rfl) rfl) (jY rfl (Ex (Z:=[.ow (SK (P++[sp w r]) A),.va (.int n)]) rfl (bf (au (qL rfl h) rfl) hx) h' hl) rfl))))) rfl),λc v hx hc=>vC (jZ (a7 rfl) ((j0 (a7 rfl)).trans (kM ((uV (a7 rfl)).trans (jX (c:="Sketch") (ns:=["past","ahead"]) (ls:=[P++[sp w r],A]) (ts:=[.int n]) rfl (by decide) (au (HS (j:=1) rfl) rfl) (kL rfl (DS (P:=P++[sp w r]) (A:=A) (Z:=[.ow (SK (P++[sp w r]) A),.va (.int n)]) rfl (bf (au (qL rfl h) rfl) hx))))))) rfl) hc⟩
def Fy(h:bQ [.ow (SK P A)]=.ok (v,o')):bH [.ow (SK P A),.va (.int (3:Nat)),.va (.tup [t,.int n,.int u])]=.ok (v,o'):=
 vB ((j0 (a7 rfl)).trans (i0 ((uU (a7 rfl)).trans (kK (c:="Sketch") (ns:=["past","ahead"]) (ls:=[P,A]) (ts:=[]) rfl (by decide) rfl h))))
def Cg(h:bQ [.ow (SK P A)]=.err c)(hc:lS c=.ok v):bH [.ow (SK P A),.va (.int (3:Nat)),.va (.tup [t,.int n,.int u])]=.ok (v,SK P A):=
 vC ((j0 (a7 rfl)).trans (kM ((uU (a7 rfl)).trans (jX (c:="Sketch") (ns:=["past","ahead"]) (ls:=[P,A]) (ts:=[]) rfl (by decide) rfl h)))) hc
def Cf(h:bR [.ow (SK P A)]=.ok (v,o')):bH [.ow (SK P A),.va (.int (4:Nat)),.va (.tup [t,.int n,.int u])]=.ok (v,o'):=
 vB ((j0 (a7 rfl)).trans (i0 ((uV (a7 rfl)).trans (kK (c:="Sketch") (ns:=["past","ahead"]) (ls:=[P,A]) (ts:=[]) rfl (by decide) rfl h))))
def AI(h:bR [.ow (SK P A)]=.err c)(hc:lS c=.ok v):bH [.ow (SK P A),.va (.int (4:Nat)),.va (.tup [t,.int n,.int u])]=.ok (v,SK P A):=
 vC ((j0 (a7 rfl)).trans (kM ((uV (a7 rfl)).trans (jX (c:="Sketch") (ns:=["past","ahead"]) (ls:=[P,A]) (ts:=[]) rfl (by decide) rfl h)))) hc
def GP{fs:V3}{o:OT}(h:fs Z=.ok ts)(hg:g (.ow (.ob c [] [])::ts.map Sl.va)=.ok (.non,o)):lx c g fs Z=.ok (.inr o):=by unfold lx;rw[h,ay,hg];rfl
def DO{fs:V3}(h:fs Z=.ok ts)(hg:g (.ow (.ob c [] [])::ts.map Sl.va)=.err d):lx c g fs Z=.err d:=by unfold lx;rw[h,ay,hg];rfl
def J2{F:En->Rs (T ⊕ OT)}{v:T ⊕ OT}(h:F Z=.ok v):wO F hh Z=.ok v:=by unfold wO;rw[h]
def GO{F:En->Rs (T ⊕ OT)}{t:T}(h:F Z=.err c)(hc:hh c=.ok t):wO F hh Z=.ok (.inl t):=by unfold wO;rw[h];dsimp only;rw[hc]
def MB(h:GR r):cQ [r]=.ok (.inr (SK [sp .non r] [])):=by
 unfold cQ xV;rw[if_pos (show [r].length=1 from rfl)]
 exact J2 (GP (ts:=[r]) rfl (Kl h))
def Kk(hp:r.pl=ZC)(h:cV r=ZD):jM cQ [r]=.ok (dE 0):=by
 have hi:cJ [.ow (.ob "Sketch" [] []),.va r]=.err "NoRecord":=by
  refine kL rfl ?_
  show cN [.ow (.ob "Sketch" [] []),.va r]=_
  unfold cN;refine uW (J4 (Mc (bf (ts:=[r]) rfl ?_)))
  refine lR rfl ?_
  show cU [.va r]=_
  unfold cU;exact(ee (qM (k:=ZD) (a7 (bf (ts:=[r]) rfl (by rw[mH r hp,h]))))).trans rfl
 have hm:cQ [r]=.ok (.inl (dE 0)):=by
  unfold cQ xV;rw[if_pos (show [r].length=1 from rfl)]
  exact GO (DO (ts:=[r]) rfl hi) r0
 unfold jM;rw[hm]
end
def rows:List T->List T
 |[] =>[]
 |s::Q=>sp (.str "") (rc s)::Q
def chI{fa fb fc:V5}{z:Int}(ha:fa Z=.ok (.int x))(hb:fb Z=.ok (.int y))(hc:fc Z=.ok (.int z)):ch zS nA fa fb fc Z=.ok (.bl (decide (x<=y)&&decide (y<z))):=by
 unfold ch;rw[ha,ay,hb,ay]
 show((Rs.ok (T.bl (decide (x<=y))):Rs T) >>= _)=_
 rw[ay]
 by_cases h0:x<=y
 ·rw[decide_eq_true h0,Ro]
  show(fc Z >>= _)=_
  rw[hc,ay];rfl
 ·rw[decide_eq_false h0,TQ]
def HK{a b:Int}(h:a<b):wU [.int a,.int b]=.ok (.int b):=by
 show Rs.ok (T.int (if a<b then b else a))=_
 rw[if_pos h]
def HL{a b:Int}(h:b<=a):wU [.int a,.int b]=.ok (.int a):=by
 show Rs.ok (T.int (if a<b then b else a))=_
 rw[if_neg (by omega)]
variable{a:Nat}{ns:List Int}
section
variable {t:T}{u:Int}
def iC(P:List T):(rows P).length=P.length:=by cases P <;> rfl
def Pk.ND(h:Pk P)(e:P[a]?=ZA s):∃w,(rows P)[a]?=ZA (sp w (rc s)):=by
 have hs:=(h.st s (Ot e)).1
 cases P with
 |nil=>simp at e
 |cons x Q=>
  cases a with
  |zero=>cases e;exact⟨_,rfl⟩
  |succ a=>exact⟨wd s,by rw[<-hs];exact e⟩
def Cy(e:P[j+1]?=ZA s):(rows P)[j+1]?=ZA s:=by
 cases P with
 |nil=>simp at e
 |cons x Q=>exact e
def AR(h:P≠ [])(x:T):(rows P).take (a+1)++[x]=rows (P.take (a+1)++[x]):=by
 cases P with
 |nil=>exact absurd rfl h
 |cons y Q=>rfl
def FN(P:List T)(k:Nat):((rows P).take k).map rc=(P.take k).map rc:=by
 cases P with
 |nil=>rfl
 |cons y Q=>
  cases k with
  |zero=>rfl
  |succ k=>rfl
def FL(h:Pk P){x:T}(hx:x∈rows P):∃w,x=sp w (rc x):=by
 cases P with
 |nil=>cases hx
 |cons y Q=>
  rcases N0.mp hx with rfl|hx
  ·exact⟨_,rfl⟩
  ·exact⟨wd x,(h.st x (.tail _ hx)).1⟩
abbrev LE(ns:List Int)(F:T)(o:OT)(R:List T)(a:Nat)(k he re ak le rd so th du nw:Sl):En:=[.va (.scr ns),.va F,.ow o,.va (.lst R),.va (.int (a:Nat)),k,he,re,ak,le,rd,so,th,du,nw]
abbrev LF(ns:List Int)(F:T)(P R:List T)(a:Nat)(k he re:Sl)(ask:Nat)(le rd:Sl)(t:T)(n u:Int)(th du nw:Sl):En:=LE ns F (At P (a+1)) R a k he re (.va (.int (ask:Nat))) le rd (.va (.tup [t,.int n,.int u])) th du nw
def Pk.snoc(h:Pk P)(ha:a<P.length)(hl:P.length<50){v:Str}(hv:KH v)(hr:GR r):Pk (P.take (a+1)++[sp (.str v) r]):=by
 refine⟨by simp,λx hx=>?_,λj x e=>?_,by simp;omega⟩
 ·rcases Oq.mp hx with z|z
  ·exact h.st x (P3 z)
  ·rw[Oa.mp z];exact⟨rfl,hr,rfl⟩
 ·by_cases hj:j+1<a+1
  ·rw[O5 (by simp;omega),Sv hj]at e
   exact h.w j x e
  ·rw[PC (by simp;omega)]at e
   have:=Ot e;rw[Oa.mp this];exact⟨v,hv,rfl⟩
def E7(P:List T)(h:P.length<=k):At P k=SK P []:=by unfold At;rw[Rw h,List.drop_of_length_le h];rfl
def Fu(h:ask<3):KH (nR ask):=by
 match ask,h with
 |0,_=>exact .inl rfl
 |1,_=>exact .inr (.inl rfl)
 |2,_=>exact .inr (.inr rfl)
def GU(h:ask<3):aQ (.lst [.str "write",.str "read",.str "cut"]) (.int (ask:Nat))=.ok (.str (nR ask)):=by
 match ask,h with
 |0,_=>rfl
 |1,_=>rfl
 |2,_=>rfl
def yh(j:Nat):lu (dE j) (dE j)=.ok (.bl ZD):=gu rfl (by simp[dE,T.dep,deps])
def zh(ns:List Int)(F:T)(P:List T)(a:Nat)(k he re:Sl)(ask:Nat)(le rd:Sl)(S:T)(th du nw:Sl):Prop:=∃P' a' D th' nw',Pk P'/\a'<P'.length/\P'.length<=P.length+1 ∧
  B6 (LE ns F (At P (a+1)) (rows P) a k he re (.va (.int (ask:Nat))) le rd (.va S) th du nw)=.ok (.nx (LE ns F (At P (a+1)) (rows P') a' k he re (.va (.int (ask:Nat))) le rd (.va S) th' (.va D) nw')) ∧
  bH [.ow (At P (a+1)),.va (.int (ask:Nat)),.va S]=.ok (D,At P' (a'+1))/\lu D D=.ok (.bl ZD)
def KG(h:Pk P)(e:P[a]?=ZA s)(hl:P.length<50)(hk:ask<3)(ht:t.pl=ZC)(F:T)(k he le rd th du nw:Sl):zh ns F P a k he (.va (rc s)) ask le rd (.tup [t,.int n,.int u]) th du nw:=by
 obtain⟨g1,g2,g3⟩:=h.st s (Ot e)
 have ha:a<P.length:=(N1.mp e).1
 have hA:At P (a+1)=SK (P.take a++[sp (wd s) (rc s)]) ((P.drop (a+1)).reverse):=by unfold At;rw[mU e,<-g1]
 have hT:=Ir (P:=P.take a) (A:=(P.drop (a+1)).reverse) (w:=wd s) (t:=t) (n:=n) (u:=u) hk g2 (by simp;omega)
 rw[<-hA]at hT
 have hgt:tb (o2 Ms (vr 8) (cn (.int 2))) (LF ns F P (rows P) a k he (.va (rc s)) ask le rd t n u th du nw)=.ok ZD:=a7 (aK (t:=.int (ask:Nat)) (u:=.int 2) rfl rfl (by show Rs.ok (T.bl (decide ((ask:Int) > 2)))=_;rw[decide_eq_false (by omega)]))
 rcases JF (n:=n) (u:=u) hk g2 ht with⟨r',c1,c2,c3⟩|⟨c,j,c1,c2,c3⟩
 ·have hT1:=hT.1 r' c1 c2
  rw[<-g1,<-mU e]at hT1;refine⟨P.take (a+1)++[sp (.str (nR ask)) r'],a+1,.bl (dZ r'),th,.va r',h.snoc ha hl (Fu hk) c2,by simp;omega,by simp;omega,?_,?_,gu rfl (by simp[T.dep])⟩
  ·refine(dC hgt).trans ?_
   rw[aD (Z':=LF ns F P (rows P) a k he (.va (rc s)) ask le rd t n u th du (.va r')) (bM (bf (ts:=[rc s,.int (ask:Nat),.tup [t,.int n,.int u]]) rfl c3) rfl)];rw[aD (Z':=LF ns F P (rows P) a k he (.va (rc s)) ask le rd t n u th (.va r') (.va r')) (bM (t:=r') rfl rfl)]
   have hne:tb (o2 lu (o2 aQ (vr 14) (cn (.int 0))) (cn (.str "refused"))) (LF ns F P (rows P) a k he (.va (rc s)) ask le rd t n u th (.va r') (.va r'))=.ok ZC:=by
    obtain⟨cs,ls,rfl,g⟩:=c2;refine a7 (aK (t:=.tup cs) (u:=.str "refused") (iG (n:=0) (l:=[.tup cs,.tup ls]) rfl rfl rfl) rfl ?_)
    unfold lu;rw[if_pos (mF (y:=.str "refused") (by simp[T.dep]) (T.M9 _ g.parts.1) rfl)]
    rfl
   refine(ee hne).trans ?_
   rw[aD (Z':=LF ns F P (rows P) a k he (.va (rc s)) ask le rd t n u th (.va (.bl (dZ r'))) (.va r')) (bM (bf (ts:=[r']) rfl c2.NI) rfl)]
   have hadd:o2 aM (sl (vr 3) pN (pS (o2 aM (vr 4) (cn (.int 1))))) (de (ae (aP (ae (o2 aQ (de (ae (cn (.str "write")) (ae (cn (.str "read")) (ae (cn (.str "cut")) aj)))) (vr 8)) (ae (vr 14) aj))) aj)) (LF ns F P (rows P) a k he (.va (rc s)) ask le rd t n u th (.va (.bl (dZ r'))) (.va r'))=.ok (.lst (rows (P.take (a+1)++[sp (.str (nR ask)) r']))):=by
    rw[<-AR h.ne];refine aK (t:=.lst ((rows P).take (a+1))) (u:=.lst [sp (.str (nR ask)) r']) ?_ (gn (au (bc (au (aK (t:=.lst [.str "write",.str "read",.str "cut"]) (u:=.int (ask:Nat)) (gn rfl (by unfold ZI;simp)) rfl (GU hk)) (au rfl rfl)) (aA (k:=2) (by simp))) rfl) (by unfold ZI;simp)) (vj _ _ (by have:=iC P;simp;omega))
    rw[DK (l:=rows P) (lo:=ZB) (hi:=ZA ((a+1:Nat):Int)) rfl rfl (Bd rfl),qX]
   rw[aD (Z':=LF ns F P (rows (P.take (a+1)++[sp (.str (nR ask)) r'])) a k he (.va (rc s)) ask le rd t n u th (.va (.bl (dZ r'))) (.va r')) (bM hadd rfl)];exact bM (t:=.int ((a+1:Nat):Int)) rfl rfl
  ·rw[hT1,E7 (P.take (a+1)++[sp (.str (nR ask)) r']) (by simp;omega)]
 ·refine⟨P,a,dE j,th,.va (dE j),h,ha,by omega,?_,hT.2 c _ c1 c2,yh j⟩
  refine(dC hgt).trans ?_
  rw[aD (Z':=LF ns F P (rows P) a k he (.va (rc s)) ask le rd t n u th du (.va (dE j))) (bM (bf (ts:=[rc s,.int (ask:Nat),.tup [t,.int n,.int u]]) rfl c3) rfl)];rw[aD (Z':=LF ns F P (rows P) a k he (.va (rc s)) ask le rd t n u th (.va (dE j)) (.va (dE j))) (bM (t:=dE j) rfl rfl)];exact(dC (a7 (aK (t:=.str "refused") (u:=.str "refused") rfl rfl (gu rfl (by simp[T.dep]))))).trans rfl
def Hi(h:Pk P)(ha:a<P.length)(hk:2<ask)(hk5:ask<5)(F:T)(k he re le rd th du nw:Sl):zh ns F P a k he re ask le rd (.tup [t,.int n,.int u]) th du nw:=by
 have hgt:tb (o2 Ms (vr 8) (cn (.int 2))) (LF ns F P (rows P) a k he re ask le rd t n u th du nw)=.ok ZC:=a7 (aK (t:=.int (ask:Nat)) (u:=.int 2) rfl rfl (by show Rs.ok (T.bl (decide ((ask:Int) > 2)))=_;rw[decide_eq_true (by omega)]))
 have go:∀(th1:Int),(qO (tb (o2 ju (vr 8) (cn (.int 3)))) (o2 cv (vr 4) (cn (.int 1))) (o2 aM (vr 4) (cn (.int 1)))) (LF ns F P (rows P) a k he re ask le rd t n u th du nw)=.ok (.int th1)->∀(D:T)(a':Nat),
   ((0<=th1/\th1<P.length/\th1=(a':Nat)/\∃s r,s=sp D r/\(rows P)[max a a']?=ZA s)\/(¬(0<=th1/\th1<P.length)/\D=dE 2/\a'=a)) →
   B6 (LF ns F P (rows P) a k he re ask le rd t n u th du nw)=.ok (.nx (LE ns F (At P (a+1)) (rows P) a' k he re (.va (.int (ask:Nat))) le rd (.va (.tup [t,.int n,.int u])) (.va (.int th1)) (.va D) nw)):=by
  intro th1 e1 D a' hc;refine(ee hgt).trans ?_
  rw[aD (Z':=LF ns F P (rows P) a k he re ask le rd t n u (.va (.int th1)) du nw) (bM e1 rfl)]
  have hch:∀du,tb (ch zS nA (cn (.int 0)) (vr 12) (cl bX (ae (vr 3) aj))) (LF ns F P (rows P) a k he re ask le rd t n u (.va (.int th1)) du nw)=.ok (decide ((0:Int)<=th1)&&decide (th1<(P.length:Int))):=λdu=>by
   rw[<-iC P];exact a7 (chI (x:=0) (y:=th1) (z:=((rows P).length:Nat)) rfl rfl (bf (ts:=[.lst (rows P)]) rfl rfl))
  rcases hc with⟨c0,c1,c2,s,r,rfl,es⟩|⟨c0,rfl,rfl⟩
  ·have hb:(decide ((0:Int)<=th1)&&decide (th1<(P.length:Int)))=ZC:=by rw[decide_eq_true c0,decide_eq_true c1];rfl
   rw[hb]at hch;rw[aD (Z':=LF ns F P (rows P) a k he re ask le rd t n u (.va (.int th1)) (.va D) nw) (bM (t:=D) ((jt (hch du)).trans ?_) rfl)]
   ·exact bM (t:=.int (a':Nat)) ((jt (hch _)).trans (by rw[<-c2];rfl)) rfl
   ·rw[if_pos rfl]
    refine iG (n:=0) (l:=[D,r]) (Aa (n:=max a a') (l:=rows P) rfl (bf (ts:=[.int (a:Nat),.int th1]) rfl ?_) es) rfl rfl
    rw[c2]
    by_cases hm:a<a'
    ·rw[HK (by omega),SW (by omega)]
    ·rw[HL (by omega),To (by omega)]
  ·have hb:(decide ((0:Int)<=th1)&&decide (th1<(P.length:Int)))=ZD:=by
    cases hd:(decide ((0:Int)<=th1)&&decide (th1<(P.length:Int)))
    ·rfl
    ·rw[NX]at hd;exact absurd ⟨of_decide_eq_true hd.1,of_decide_eq_true hd.2⟩ c0
   rw[hb]at hch;rw[aD (Z':=LE ns F (At P (a'+1)) (rows P) a' k he re (.va (.int (ask:Nat))) le rd (.va (.tup [t,.int n,.int u])) (.va (.int th1)) (.va (dE 2)) nw) (bM (t:=dE 2) ((jt (hch du)).trans ((if_neg N9).trans (bc (ts:=[.str "refused",.int 2]) rfl (aA (k:=2) (by simp))))) rfl)]
   exact bM (t:=.int (a':Nat)) ((jt (hch _)).trans rfl) rfl
 match ask,hk,hk5 with
 |3,_,_=>
  have e1:(qO (tb (o2 ju (vr 8) (cn (.int 3)))) (o2 cv (vr 4) (cn (.int 1))) (o2 aM (vr 4) (cn (.int 1)))) (LE ns F (At P (a+1)) (rows P) a k he re (.va (.int (3:Nat))) le rd (.va (.tup [t,.int n,.int u])) th du nw)=.ok (.int ((a:Int) - 1)):=(jt (p:=ZC) (a7 (aK (t:=.int (3:Nat)) (u:=.int 3) rfl rfl (u4 rfl (by simp[T.dep]))))).trans rfl
  cases a with
  |zero=>
   refine⟨P,0,dE 2,_,nw,h,ha,by omega,go _ e1 (dE 2) 0 (.inr ⟨by omega,rfl,rfl⟩),?_,yh 2⟩
   obtain⟨s,es⟩:∃s,P[0]?=ZA s:=⟨_,N6 ha⟩
   have:At P (0+1)=SK [s] ((P.drop 1).reverse):=by unfold At;rw[mU es];rfl
   rw[this]
   exact Cg (G6 s) r2
  |succ j=>
   obtain⟨s,es⟩:∃s,P[j+1]?=ZA s:=⟨_,N6 ha⟩
   obtain⟨g1,g2,g3⟩:=h.st s (Ot es);obtain⟨v,hv,hw⟩:=h.w j s es;refine⟨P,j,wd s,_,nw,h,by omega,by omega,go _ e1 (wd s) j (.inl ⟨by omega,by omega,by omega,s,rc s,g1,by rw[To (by omega)];exact Cy es⟩),Fy (h.back es),?_⟩
   rw[hw];exact gu rfl (by simp[T.dep])
 |4,_,_=>
  have e1:(qO (tb (o2 ju (vr 8) (cn (.int 3)))) (o2 cv (vr 4) (cn (.int 1))) (o2 aM (vr 4) (cn (.int 1)))) (LE ns F (At P (a+1)) (rows P) a k he re (.va (.int (4:Nat))) le rd (.va (.tup [t,.int n,.int u])) th du nw)=.ok (.int ((a:Int)+1)):=(jt (p:=ZD) (a7 (aK (t:=.int (4:Nat)) (u:=.int 3) rfl rfl (by rw[u5];rfl)))).trans rfl
  by_cases hl:a+1<P.length
  ·obtain⟨s,es⟩:∃s,P[a+1]?=ZA s:=⟨_,N6 hl⟩
   obtain⟨g1,g2,g3⟩:=h.st s (Ot es);obtain⟨v,hv,hw⟩:=h.w a s es;refine⟨P,a+1,wd s,_,nw,h,by omega,by omega,go _ e1 (wd s) (a+1) (.inl ⟨by omega,by omega,by omega,s,rc s,g1,by rw[SW (by omega)];exact Cy es⟩),Cf (h.forth es),?_⟩
   rw[hw];exact gu rfl (by simp[T.dep])
  ·refine⟨P,a,dE 2,_,nw,h,ha,by omega,go _ e1 (dE 2) a (.inr ⟨by omega,rfl,rfl⟩),?_,yh 2⟩
   rw[E7 P (by omega)]
   exact AI Ey r2
end
section
variable {t:T}{u:Int}
theorem DB:∀(P:List T),jr P=match((P.map rc).filter dZ).getLast? with
  |some r=>r
  |none=>.non:=by
 intro P
 induction hP:P.length generalizing P with
 |zero=>cases SL.mp hP;rfl
 |succ n ih=>
  obtain⟨Q,x,rfl⟩:∃Q x,P=Q++[x]:=⟨P.dropLast,P.getLast (by intro z;rw[z]at hP;simp at hP),(QQ _).symm⟩
  rw[yJ,ih Q (by simp at hP;omega),Pc,List.filter_append]
  cases hb:dZ (rc x)with
  |true=>rw[show List.filter dZ (Vh rc [x])=[rc x]by simp[hb],TK];rfl
  |false=>rw[show List.filter dZ (Vh rc [x])=[]by simp[hb],Ou];rfl
def JJ(hl:∀t∈l,t.nd=ZC)(h:l≠ []):lu (.lst l) (.lst [])=.ok (.bl ZC):=by
 unfold lu;rw[if_pos (mF (y:=.lst []) (by simp[T.dep,deps]) (by unfold T.nd;exact yz hl) rfl)]
 cases l with
 |nil=>exact absurd rfl h
 |cons x l=>rfl
def G2(h:∀t∈l,GR t)(hl:l.length<=100):eU [.lst l]=.ok (match(l.filter dZ).getLast? with
  |some r=>r
  |none=>.non):=by
 refine cC rfl ?_
 show kx [.va (.lst l),.em]=_
 unfold kx
 have h1:gC (iS (vr 0)) [ZB] (gN 0) (tb (cl dN (ae (vr 0) aj))) (vr 0) [.va (.lst l),.em]=.ok (.lst (l.filter dZ)):=by
  refine(HQ (ts:=l) (p:=dZ) (h:=id) (xc rfl) (by unfold ZI;omega) (by simp) λx hx=>?_).trans (by simp)
  exact⟨a7 (bf (ts:=[x]) rfl (h x hx).NI),λ_=>rfl⟩
 rw[aD (Z':=[.va (.lst l),.va (.lst (l.filter dZ))]) (bM h1 rfl)];refine cZ ?_
 by_cases hz:l.filter dZ=[]
 ·rw[hz]
  exact(jt (p:=ZD) (a7 (aK (t:=.lst []) (u:=.lst []) rfl (gn rfl (by unfold ZI;simp)) (gu rfl (by simp[T.dep,deps]))))).trans rfl
 ·refine(jt (p:=ZC) (a7 (aK (t:=.lst (l.filter dZ)) (u:=.lst []) rfl (gn rfl (by unfold ZI;simp)) (JJ (λx hx=>T.M9 _ (h x (RY.mp hx).1).pl) hz)))).trans ?_
  obtain⟨Q,x,hQ⟩:∃Q x,l.filter dZ=Q++[x]:=⟨_,_,(QQ hz).symm⟩;rw[hQ,TK]
  exact aK (t:=.lst (Q++[x])) (u:=.int (-1)) rfl (GN rfl rfl) (xf Q x)
def Pk.all(h:Pk P)(k:Nat):∀s∈P.take k,∃w r,s=sp w r/\GR r:=λs hs=>by
 obtain⟨g1,g2,_⟩:=h.st s (P3 hs);exact⟨_,_,g1,g2⟩
def GC(i j:Int):lu (.tup [.int i,.int j]) (.tup [.int i,.int j])=.ok (.bl ZD):=gu rfl (by simp[T.dep,deps])
abbrev LI(ns:List Int)(F:T)(P:List T)(a:Nat):Sl->Sl->Sl->Sl->Sl->Sl->Sl->Sl->Sl->Sl->En:=LE ns F (At P (a+1)) (rows P) a
abbrev LH(ns:List Int)(F:T)(P:List T)(a j:Nat):Sl->Sl->Sl->Sl->Sl->Sl->Sl->Sl->En:=LI ns F P a (.va (.int (j:Nat))) (.va (.int ((80+12*j:Nat):Int)))
def Hh(h:Pk P)(ha:a<P.length)(F:T)(k he re ak le rd so th du nw:Sl):
  (aB B8 (aB B9 B10)) (LI ns F P a k he re ak le rd so th du nw)=.ok (.nx (LI ns F P a k he re ak le rd so th du nw)):=by
 have hn:=h.n;obtain⟨s,e⟩:∃s,P[a]?=ZA s:=⟨_,N6 ha⟩
 obtain⟨g1,g2,g3⟩:=h.st s (Ot e);obtain⟨w,hw⟩:=h.ND e
 have c8:tb (o2 lu (ln 2 (r6 "Sketch" "counts" bU (vr 2) aj)) (aP (ae (vr 4) (ae (o2 cv (o2 cv (cl bX (ae (vr 3) aj)) (cn (.int 1))) (vr 4)) aj)))) (LI ns F P a k he re ak le rd so th du nw)=.ok ZD:=by
  refine a7 (aK (h.cnt ha rfl) (bc (au (t:=.int (a:Nat)) rfl (au (t:=.int ((P.length - 1 - a:Nat):Int)) (aK (t:=.int (((rows P).length:Nat) - 1:Int)) (u:=.int (a:Nat)) (aK (t:=.int ((rows P).length:Nat)) (u:=.int 1) (bf (ts:=[.lst (rows P)]) rfl rfl) rfl rfl) rfl ?_) rfl)) (aA (k:=2) (by simp))) (GC _ _))
  show Rs.ok (T.int (((rows P).length:Int) - 1 - (a:Int)))=_
  rw[iC,show((P.length:Int) - 1 - (a:Int))=((P.length - 1 - a:Nat):Int)by omega]
 rw[aD ((dC c8).trans rfl)]
 have c9:tb (o2 lu (ln 2 (r6 "Sketch" "record" aW (vr 2) aj)) (o2 aQ (o2 aQ (vr 3) (vr 4)) (cn (.int 1)))) (LI ns F P a k he re ak le rd so th du nw)=.ok ZD:=
  a7 (aK (h.NN e rfl) (iG (n:=1) (l:=[w,rc s]) (Aa (n:=a) (l:=rows P) rfl rfl hw) rfl rfl) g2.ne)
 rw[aD ((dC c9).trans rfl)]
 have hlc:gC (iS (sl (vr 3) pN (pS (o2 aM (vr 4) (cn (.int 1)))))) [ZB] (gN 0) bT (o2 aQ (vr 0) (cn (.int 1))) (LI ns F P a k he re ak le rd so th du nw)=.ok (.lst ((P.take (a+1)).map rc)):=by
  rw[<-FN];refine xb (ts:=(rows P).take (a+1)) (h:=rc) (xc ?_) (by have:=iC P;unfold ZI;simp;omega) (by simp) λx hx=>?_
  ·rw[DK (l:=rows P) (lo:=ZB) (hi:=ZA ((a+1:Nat):Int)) rfl rfl (Bd rfl),qX]
  ·obtain⟨w,e⟩:=FL h (P3 hx)
   refine iG (n:=1) (l:=[w,rc x]) ?_ rfl rfl
   exact congrArg Rs.ok e
 have c10:tb (o2 lu (ln 2 (r6 "Sketch" "good" cS (vr 2) aj)) (cl eU (ae (gC (iS (sl (vr 3) pN (pS (o2 aM (vr 4) (cn (.int 1)))))) [ZB] (gN 0) bT (o2 aQ (vr 0) (cn (.int 1)))) aj))) (LI ns F P a k he re ak le rd so th du nw)=.ok ZD:=by
  refine a7 (aK (J6 (h.all (a+1)) rfl) (bf (au hlc rfl) ((G2 (λx hx=>?_) (by simp;omega)).trans (by rw[<-DB]))) (DA (h.all (a+1))))
  obtain⟨y,hy,rfl⟩:=Ov.mp hx;exact(h.st y (P3 hy)).2.1
 exact(dC c10).trans rfl
abbrev B11:V4:=aB B0 (aB B1 (aB B2 (aB B3 (aB B4 (aB B5 (aB B6 (aB B7 (aB B8 (aB B9 B10)))))))))
def MC{d:Nat}(h:d<8):∃ask:Nat,ask<5/\aQ (.lst [.int 0,.int 0,.int 0,.int 0,.int 1,.int 2,.int 3,.int 4]) (.int (d:Nat))=.ok (.int (ask:Nat)):=by
 match d,h with
 |0,_=>exact⟨0,by omega,rfl⟩
 |1,_=>exact⟨0,by omega,rfl⟩
 |2,_=>exact⟨0,by omega,rfl⟩
 |3,_=>exact⟨0,by omega,rfl⟩
 |4,_=>exact⟨1,by omega,rfl⟩
 |5,_=>exact⟨2,by omega,rfl⟩
 |6,_=>exact⟨3,by omega,rfl⟩
 |7,_=>exact⟨4,by omega,rfl⟩
def KD(hn:ns.length<=63)(h:Pk P)(ha:a<P.length)(hl:P.length<50)(F:T)(j:Nat)(he re ak le rd so th du nw:Sl):∃P' a' he' re' ak' le' rd' so' th' du' nw',Pk P'/\a'<P'.length/\P'.length<=P.length+1 ∧
  B11 (LI ns F P a (.va (.int (j:Nat))) he re ak le rd so th du nw)=.ok (.nx (LI ns F P' a' (.va (.int (j:Nat))) he' re' ak' le' rd' so' th' du' nw')):=by
 obtain⟨s,e⟩:∃s,P[a]?=ZA s:=⟨_,N6 ha⟩
 obtain⟨g1,g2,g3⟩:=h.st s (Ot e);obtain⟨w,hw⟩:=h.ND e;obtain⟨cs,ls,er,g⟩:=g2;obtain⟨d0,e0,p0,q0⟩:=dj ns (80+12*j) 8 hn (by omega)
 obtain⟨d0,rfl⟩:=OF p0;obtain⟨ask,hask,eask⟩:=MC (d:=d0) (by omega)
 obtain⟨t,et,ht⟩:=sZ ns hn (80+12*j+4) cs g.c
 have htp:t.pl=ZC:=by
  rcases ht with rfl|⟨_,z⟩
  ·rfl
  ·exact zx _ z
 obtain⟨d1,e1,p1,q1⟩:=dj ns (80+12*j+1) 4 hn (by omega)
 obtain⟨d2,e2,p2,q2⟩:=dj ns (80+12*j+2) 9 hn (by omega)
 obtain⟨x,y,rr,ec,hr1,hr4⟩:=xE g (n:=0) (by have:=(bu g.c).2.1;omega)
 obtain⟨rr',z,rfl⟩:∃rr' z,rr=rr'++[z]:=⟨rr.dropLast,rr.getLast (by intro q;rw[q]at hr1;simp at hr1),(QQ _).symm⟩
 have hT:zh ns F P a (.va (.int (j:Nat))) (.va (.int ((80+12*j:Nat):Int))) (.va (rc s)) ask (.va t) (.va (.tup ((rr'++[z]).map .int))) (.tup [t,.int (d1 - 1),.int (z+d2 - 1)]) th du nw:=by
  by_cases hk:ask<3
  ·exact KG h e hl hk htp F _ _ _ _ _ _ _
  ·exact Hi h ha (by omega) hask F _ _ _ _ _ _ _ _
 obtain⟨P',a',D,th',nw',h',ha',hl',eb,etd,hD⟩:=hT;refine⟨P',a',.va (.int ((80+12*j:Nat):Int)),.va (rc s),.va (.int (ask:Nat)),.va t,.va (.tup ((rr'++[z]).map .int)),.va (.tup [t,.int (d1 - 1),.int (z+d2 - 1)]),th',.va D,nw',h',ha',hl',?_⟩
 unfold B11;rw[aD (Z':=LH ns F P a j re ak le rd so th du nw) (bM (t:=.int ((80+12*j:Nat):Int)) (aK (t:=.int 80) (u:=.int (12*(j:Int))) rfl (aK (t:=.int 12) (u:=.int (j:Nat)) rfl rfl (ly (by omega) (by omega))) (by show Rs.ok (T.int (80+12*(j:Int)))=_;rw[show(80+12*(j:Int))=((80+12*j:Nat):Int)by omega])) rfl)]
 rw[aD (Z':=LH ns F P a j (.va (rc s)) ak le rd so th du nw) (bM (t:=rc s) (iG (n:=1) (l:=[w,rc s]) (Aa (n:=a) (l:=rows P) rfl rfl hw) rfl rfl) rfl)];rw[aD (Z':=LH ns F P a j (.va (rc s)) (.va (.int (ask:Nat))) le rd so th du nw) (bM (t:=.int (ask:Nat)) (aK (t:=.lst [.int 0,.int 0,.int 0,.int 0,.int 1,.int 2,.int 3,.int 4]) (u:=.int (d0:Nat)) (gn rfl (by unfold ZI;simp)) (bf (ts:=[.scr ns,.int ((80+12*j:Nat):Int),.int 8]) rfl e0) eask) rfl)]
 have hrc:∀(k he ak le rd so th du nw:Sl),o2 aQ (vr 7) (cn (.int 0)) (LI ns F P a k he (.va (rc s)) ak le rd so th du nw)=.ok (.tup cs):=λk he ak le rd so th du nw=>by
  rw[er];exact iG (n:=0) (l:=[.tup cs,.tup ls]) rfl rfl rfl
 rw[aD (Z':=LH ns F P a j (.va (rc s)) (.va (.int (ask:Nat))) (.va t) rd so th du nw) (bM (t:=t) (bf (ts:=[.scr ns,.int ((80+12*j+4:Nat):Int),.tup cs]) (au rfl (au rfl (au (hrc _ _ _ _ _ _ _ _ _) rfl))) et) rfl)];rw[aD (Z':=LH ns F P a j (.va (rc s)) (.va (.int (ask:Nat))) (.va t) (.va (.tup ((rr'++[z]).map .int))) so th du nw) (bM (t:=.tup ((rr'++[z]).map .int)) (iG (n:=2) (l:=[.int x,.int y,.tup ((rr'++[z]).map .int)]) (iG (n:=0) (l:=cs) (hrc _ _ _ _ _ _ _ _ _) rfl ec) rfl rfl) rfl)]
 have hlast:o2 aQ (vr 10) (o1 nu (cn (.int 1))) (LH ns F P a j (.va (rc s)) (.va (.int (ask:Nat))) (.va t) (.va (.tup ((rr'++[z]).map .int))) so th du nw)=.ok (.int z):=by
  refine aK (t:=.tup ((rr'++[z]).map .int)) (u:=.int (-1)) rfl (GN rfl rfl) ?_
  rw[Pc];exact uX _ _
 rw[aD (Z':=LH ns F P a j (.va (rc s)) (.va (.int (ask:Nat))) (.va t) (.va (.tup ((rr'++[z]).map .int))) (.va (.tup [t,.int (d1 - 1),.int (z+d2 - 1)])) th du nw) (bM (t:=.tup [t,.int (d1 - 1),.int (z+d2 - 1)]) (bc (au rfl (au (aK (t:=.int d1) (u:=.int 1) (bf (ts:=[.scr ns,.int ((80+12*j+1:Nat):Int),.int 4]) rfl e1) rfl rfl) (au (aK (t:=.int (z+d2)) (u:=.int 1) (aK hlast (bf (ts:=[.scr ns,.int ((80+12*j+2:Nat):Int),.int 9]) rfl e2) rfl) rfl rfl) rfl))) (aA (k:=3) (by simp))) rfl)]
 rw[aD eb];rw[aD (Z':=LI ns F P' a' (.va (.int (j:Nat))) (.va (.int ((80+12*j:Nat):Int))) (.va (rc s)) (.va (.int (ask:Nat))) (.va t) (.va (.tup ((rr'++[z]).map .int))) (.va (.tup [t,.int (d1 - 1),.int (z+d2 - 1)])) th' (.va D) nw') ((Mg (b:=ZD) (Ma (Md (JX (o:=At P (a+1)) (ts:=[.int (ask:Nat),.tup [t,.int (d1 - 1),.int (z+d2 - 1)]]) rfl rfl etd) rfl hD))).trans rfl)];exact Hh h' ha' F _ _ _ _ _ _ _ _ _ _
theorem ER(hn:ns.length<=63)(F:T):∀(js:List Nat){P:List T}{a:Nat}(k he re ak le rd so th du nw:Sl),Pk P->a<P.length->P.length+js.length<=50->∃Z:En,(∃o R a,∃k he re ak le rd so th du nw:Sl,Z=LE ns F o R a k he re ak le rd so th du nw) ∧
  bo (gN 5) B11 (js.map λ(j:Nat)=>T.int j) (LI ns F P a k he re ak le rd so th du nw)=.ok (.nx Z)
 |[],P,a,k,he,re,ak,le,rd,so,th,du,nw,h,ha,hl=>⟨_,⟨_,_,_,_,_,_,_,_,_,_,_,_,_,rfl⟩,rfl⟩
 |j::js,P,a,k,he,re,ak,le,rd,so,th,du,nw,h,ha,hl=>by
  rw[NZ]at hl;obtain⟨P',a',he',re',ak',le',rd',so',th',du',nw',h',ha',hl',e⟩:=KD hn h ha (by omega) F j he re ak le rd so th du nw
  obtain⟨Z,hρ,e2⟩:=ER hn F js (.va (.int (j:Nat))) he' re' ak' le' rd' so' th' du' nw' h' ha' (by omega)
  refine⟨Z,hρ,?_⟩
  rw[NT,dz (Z1:=LI ns F P a (.va (.int (j:Nat))) he re ak le rd so th du nw) rfl e];exact e2
end
def pure_law(ns:List Int)(hn:ns.length<=63):m_law [.scr ns]=.ok (.bl ZC):=by
 refine cC rfl ?_
 show E6 [.va (.scr ns),.em,.em,.em,.em,.em,.em,.em,.em,.em,.em,.em,.em,.em,.em]=_
 unfold E6;obtain⟨cs,ls,e0,hc,_,hs,hl,h2⟩:=Kn ns hn 0 2 (by omega)
 obtain⟨hr,hsm⟩:=IG hc hs hl (by omega)
 have hG:GR (RR cs ls):=GR.of (zx _ hsm) hr
 have hg:=zy hr (zx _ hsm);rw[aD (Z':=[.va (.scr ns),.va (RR cs ls),.em,.em,.em,.em,.em,.em,.em,.em,.em,.em,.em,.em,.em]) (bM (bf (ts:=[.scr ns,.int 0,.int 2]) rfl e0) rfl)];rw[aD (Z':=[.va (.scr ns),.va (RR cs ls),.ow (SK [sp .non (RR cs ls)] []),.em,.em,.em,.em,.em,.em,.em,.em,.em,.em,.em,.em]) (by unfold pQ;rw[show ae (vr 1) aj [.va (.scr ns),.va (RR cs ls),.em,.em,.em,.em,.em,.em,.em,.em,.em,.em,.em,.em,.em]=.ok [RR cs ls]from rfl,ay,MB hG];rfl)]
 rw[aD (Z':=[.va (.scr ns),.va (RR cs ls),.ow (SK [sp .non (RR cs ls)] []),.va (.lst [sp (.str "") (RR cs ls)]),.em,.em,.em,.em,.em,.em,.em,.em,.em,.em,.em]) (bM (t:=.lst [sp (.str "") (RR cs ls)]) (gn (au (bc rfl (aA (k:=2) (by simp))) rfl) (by unfold ZI;simp)) rfl)]
 rw[aD (Z':=LE ns (RR cs ls) (At [sp .non (RR cs ls)] (0+1)) (rows [sp .non (RR cs ls)]) 0 .em .em .em .em .em .em .em .em .em .em) (bM (t:=.int 0) rfl rfl)]
 have hP:Pk [sp .non (RR cs ls)]:=⟨by simp,λx hx=>by rw[Oa.mp hx];exact⟨rfl,hG,rfl⟩,λj x e=>by simp at e,by simp⟩
 obtain⟨c,hc1,hc2,hi⟩:∃c:Nat,1<=c/\c<=10/\iR (ae (cl wU (ae (cn (.int 1)) (ae (cl Dn (ae (cn (.int 10)) (ae (cl bX (ae (vr 0) aj)) aj))) aj))) aj) (LE ns (RR cs ls) (At [sp .non (RR cs ls)] (0+1)) (rows [sp .non (RR cs ls)]) 0 .em .em .em .em .em .em .em .em .em .em)=.ok ((O7 c).map λ(j:Nat)=>T.int j):=by
  have hm:cl Dn (ae (cn (.int 10)) (ae (cl bX (ae (vr 0) aj)) aj)) (LE ns (RR cs ls) (At [sp .non (RR cs ls)] (0+1)) (rows [sp .non (RR cs ls)]) 0 .em .em .em .em .em .em .em .em .em .em)=.ok (.int ((min 10 ns.length:Nat):Int)):=by
   refine bf (ts:=[.int 10,.int (ns.length:Nat)]) (au rfl (au (bf (ts:=[.scr ns]) rfl (by show Rs.ok (T.int ((ns.map T.int).length:Nat))=_;rw[NW])) rfl)) ?_
   show Rs.ok (T.int (if ((ns.length:Nat):Int)<10 then((ns.length:Nat):Int)else 10))=_
   by_cases h:ns.length<10
   ·rw[if_pos (by omega),U9 (by omega)]
   ·rw[if_neg (by omega),Vv (by omega)];rfl
  refine⟨max 1 (min 10 ns.length),by omega,by omega,?_⟩
  rw[<-oU];refine Kc (au (bf (ts:=[.int 1,.int ((min 10 ns.length:Nat):Int)]) (au rfl (au hm rfl)) ?_) rfl) (by omega) (by omega)
  by_cases h:1<min 10 ns.length
  ·rw[HK (by omega),SW (by omega)]
  ·rw[HL (by omega),To (by omega)];rfl
 obtain⟨Z,⟨o,R,a,k,he,re,ak,le,rd,so,th,du,nw,rfl⟩,e2⟩:=ER hn (RR cs ls) (O7 c) (a:=0) .em .em .em .em .em .em .em .em .em .em hP (by simp) (by simp;omega)
 rw[aD (fq hi e2)]
 have hls:nG [T.tup cs,T.tup ls] ZB (ZA 1)=[.tup cs]:=rfl
 have h1:gC (iS (aP (ae (sl (vr 1) pN (pS (cn (.int 1)))) (ae (aP (ae (o2 aQ (vr 1) (cn (.int 0))) (ae (cn .non) aj))) (ae (cn .non) aj))))) [ZB] (gN 0) bT (cl (jM cQ) (ae (vr 0) aj)) (LE ns (RR cs ls) o R a k he re ak le rd so th du nw)=.ok (.lst [dE 0,dE 0,dE 0]):=by
  refine(xb (ts:=[.tup [.tup cs],.tup [.tup cs,.non],.non]) (h:=λ_=>dE 0) (k_iS (bc (au (t:=.tup [.tup cs]) ((JY (l:=[.tup cs,.tup ls]) (lo:=ZB) (hi:=ZA 1) rfl rfl (Bd rfl)).trans rfl) (au (bc (au (iG (n:=0) (l:=[.tup cs,.tup ls]) rfl rfl rfl) rfl) (aA (k:=2) (by simp))) (au rfl rfl))) (aA (k:=3) (by simp)))) (by unfold ZI;simp) (by simp) λx hx=>?_).trans rfl
  have hpc:=hg.parts.1;refine bf (ts:=[x]) rfl (Kk ?_ ?_)
  ·simp only[N0,Pm,or_false]at hx
   rcases hx with rfl|rfl|rfl
   ·rw[iQ];exact iV λy hy=>by rw[Oa.mp hy];exact hpc
   ·exact iU hpc rfl
   ·rfl
  ·simp only[N0,Pm,or_false]at hx
   rcases hx with rfl|rfl|rfl
   ·rfl
   ·show(a8 (.tup cs)&&gD cs .non)=ZD
    rw[show gD cs .non=ZD from rfl,Bool.and_false]
   ·rfl
 exact cZ (aK h1 (aK (t:=.lst [dE 0]) (u:=.int 3) (gn (au (bc rfl (aA (k:=2) (by simp))) rfl) (by unfold ZI;simp)) rfl (uS _ _ (by refine⟨by decide,by decide,?_⟩;unfold ZI;simp))) (u4 rfl (by simp[dE,T.dep,deps])))
end G
end
open PySem PySem.W PyProof.Rows
set_option maxRecDepth 100000 in
set_option maxHeartbeats 0 in
theorem PySem.Challenge.cw_farclocks_k83_sketches_holds : PySem.Challenge.rw_farclocks_k83_sketches.Holds := by
  w_on; o_law
  refine holds_open (q :=G.vw) (loose :=G.lse) (Xt :=λ_ =>true) (XP :=λ_ _ =>True) (Yf :=(Tr.hookC G.asks G.top).obs) (Ya :=(Tr.hookC G.asks G.top).val) (YP :=(Tr.hookC G.asks G.top).says) (N :=9000) (Tr.left_of (by rfl) (by rfl) (λ_ =>rfl) λw os =>?hl) (Tr.hookC G.asks G.top).of (Tr.hookC G.asks G.top).keeps (λ_ _ =>trivial) (λ_ _ _ _ _ =>trivial) (by rfl) (by rfl) (by rfl) (λs _ =>recFacts_of (s :=s) rfl) (by rfl) (by assumption) (by decide +kernel) ⟨rfl, rfl, rfl, rfl, rfl, by decide +kernel⟩ ?hw ?hc
  case hl =>exact ((congrFun (congrFun (congrFun (congrFun (congrFun PySem.W.Fast.lhsz_eq w) _) _) _) os).trans (G.NK w os)).trans (congrFun PySem.W.Fast.rhsz_eq w).symm
  case hw =>w_witness2
  case hc =>exact Tr.walk_c (n :=63) (k :=15) (x := "_law_script") (CX :=L2.CX0) (sp :=λK =>Tr.spP K 1 G.m_law) rfl (by decide) rfl ⟨rfl, by decide, by decide⟩ (λw K mg fa h X e g hf =>G.all_ok X e g hf) (λK H a ns hl _ hS =>Tr.sp_script hS (G.pure_law ns hl)) λ_ _ _ _ z =>z
