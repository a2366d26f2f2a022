import PyProof.Rows.All
import Wide.All
import OpenK.AllK
import Wide.FinOn
import Lean
import PyProof.EqAt
import PyProof.EqKinds
import PyProof.TupleCall
import PyProof.ExcClass3
import PyProof.StationsW
import PyProof.ExcBaseAll.ValueError
import PyProof.ExcArgsOwn
import PyProof.IsiBase
import PyProof.IsiH_tuple
import PyProof.ExcAttrAll.ValueError
import PyProof.Rows.RuleN_isinstance
import PyProof.MeetsSeq
import PyProof.RulesAs
import PyProof.IsiH_list
import PyProof.AttrMiss
import KE.KDictOf
import PyProof.Rows.SumAny
import PyProof.Rows.MinMaxN
import PyProof.Rows.SortShellK
import PyProof.Rows.SortWalk
import PyProof.ZipIter
import PyProof.WalksMore
import PyProof.DictWalks
import PyProof.AutoSeq1
import PySem.Challenge.RW_farclocks_k40_orders
open PySem.AutoSeq1 renaming list_insert_list_int_val_1→QM
open PySem.Challenge renaming pw_farclocks_k40_orders→MH,rw_farclocks_k40_orders→QV
open PySem.Builtin.SmallTypes renaming ownedTupleHandOut→Ox,ownedTupleIsFree→Mi,nextOf→Ma
open PySem.AutoListH renaming list___mul___list_int_3→RM
open PyProof.Rows renaming slot_tuple_getitem→Mw,callWith_builtin1→Nq,callWith_type1→Mx,subscriptTail_builtinR→QP,entry_tuple_getitem→RE,args_tuple_getitem→R5,call_isinstance_of→R8,KK_mirror_equal→NI,tupleItemsOf_→R6,subscriptTail→R7,listUpdate_at→Sa,wpS_forRange→Pw,listItems_at→Rf,pairsOf_size→SN,seqEpoch_at→TL,Subscript_→Sv,wpS_modify→Sy,setPending→Sz,SortedToK→M8,pendingOf→OB,wpS_bind→MB,wpS_pure→Np,SortKind→Rj,failedOf→R9,IntsAre→Ou,AllBare→Qw,NonIncK→RG,wpS_get→TK,SortSt→Qb,Keyed→TJ,IsTup→TV
open PySem.F renaming args_tuple_iterator_next_1→PJ,entry_tuple_iterator_next→PP,slot_tuple_iterator_next→NL,excBase_ValueError→P2,slot_list_getattribute→NZ,args_tuple_add_2→OH,plainAttrs_list→M4,entry_tuple_add→OP,args_dict_get_2→Qn,slot_list_index→Qo,type_list_index→Qp,slot_tuple_add→O6,entry_dict_get→QL,slot_dict_get→Pn,typeOf_object_class→Pp,slot_enumerate_next→Q2,args_list_index_2→Rv,entry_list_index→RQ,args_int_rmul_2→Sf,slot_tuple_rmul→Sg,slot_list_index→Sh,args_zip_next_1→Sn,slot_tuple_mul→Qz,slot_int_index→SS,entry_int_rmul→SU,entry_zip_next→SY,slot_int_rmul→PM,slot_zip_next→PU,fills_int_mul→Te,slot_gs_get→RP
open PySem.Builtin.Slice renaming slicePartIndex→S7,sliceApplied→PY,slicePlaces→NS,sliceAdjust→Ov
open Array renaming getElem?_eq_some_iff→Na,perm_iff_toList_perm→P4,length_toList→NC,find?_toList→RL,toList→QY
open List renaming getElem?_append_right→Oq,nodup_iff_pairwise_ne→P5,getElem?_eq_some_iff→LM,getElem?_append_left→NT,drop_eq_getElem_cons→Oy,pairwise_iff_getElem→Qc,getElem?_eq_getElem→LN,getElem?_replicate→N4,getElem?_cons_succ→N7,getLast_eq_getElem→Qv,getElem?_set_self→L4,take_of_length_le→Nb,drop_eq_nil_of_le→Pa,mem_append_right→L3,length_singleton→Nu,getElem?_eq_none→NO,take_append_drop→Pr,set_getElem_self→Q3,mem_cons_of_mem→Lw,getElem?_set_ne→L8,mem_append_left→Mm,mem_of_getElem?→Nz,mem_erase_of_ne→Rm,map_congr_left→L9,filterMap_cons→Nc,replicate_succ→Nd,getElem_of_mem→N5,drop_succ_cons→RB,length_pos_iff→RC,mem_cons_self→Lz,length_append→LF,mem_singleton→LZ,contains_cons→M7,mem_filterMap→P8,getElem_range→RV,append_of_mem→RW,size_toArray→LQ,getElem?_map→LY,append_assoc→L0,nodup_append→MN,length_range→Nf,flatMap_cons→Ng,flatten_cons→NY,pairwise_map→Oj,any_eq_false→Qh,mapM_toArray→Sm,length_cons→LG,all_eq_true→L5,not_mem_nil→MC,lookup_cons→ML,length_take→MX,getElem_mem→M9,length_drop→Nx,getElem_map→OF,any_eq_true→Px,zipIdx_cons→QC,filter_cons→QF,mem_flatMap→QH,flatMap_nil→QJ,drop_length→SW,length_map→LA,nodup_cons→L7,mem_append→Mb,map_append→Mc,append_nil→Mj,nil_append→MJ,length_set→MW,find?_cons→Od,of_mem_zip→OS,forIn_cons→OU,length_nil→PQ,zipIdx_nil→PR,mem_filter→QX,range_succ→Q5,head?_drop→Q8,foldl_cons→Td,length_zip→Tt,idxOf_cons→Tx,filter_nil→Tz,replicate→LS,mem_range→MZ,nodup_nil→NU,forIn_nil→Pk,tail_drop→Rp,map_cons→Lx,mem_cons→LH,sum_cons→Nm,any_cons→N6,map_drop→Qu,all_cons→RO,mem_map→LW,map_map→Ms,map_nil→Po,toArray→SC,all_map→SD,set_set→SJ,length→MD,lookup→Pc,map_id→To,Nodup→Mo,range→MA,foldl→Qi,map→S8
open PySem renaming wpAny_newFunctionEnv_cells→Os,wpAny_binaryOp_repeat_ref→Qe,wpAny_callSpecial?_slot→MQ,wpAny_pyNext_list_item→QN,wpAny_Call_method_late→QQ,builtinLookup_eq_fast→NQ,codeAny_call_function→Pu,wpAny_pyNext_list_end→Q9,wpAny_isTrue_Compare1→Ra,codeAny_call_builtin→PF,wpAny_updateSeq_pair→PH,mem_of_lookup→ND,wpAny_isSubtype_exc→NH,wpAny_Call_Name_kw→My,wpAny_setField_rec→NR,wpAny_pyIter_tuple→Oa,tupleKind_room_in1→Ob,wpAny_List_spliced→R0,foldedSetIterable→Mp,wpAny_loadPart_at→Mq,wpAny_truthy_bool→MO,wpAny_newObj_type→Nj,wpAny_pyIter_list→Pg,wpAny_assign_Name→Sq,wpAny_sequenceKey→Su,wpAny_pyIter_enum→Sw,wpAny_call_entry→Ny,noFill_tuple_add→QK,seqSlot_of→SX,wpAny_eqBool_int→S1,wpAny_execs_cons→S2,wpAny_isInstance→S3,lookupAlong_cons→S4,checkBuiltinCall→S5,wpAny_pyIter_zip→S6,wpAny_loadPart'→N0,wpAny_execs_nil→OZ,letOwnedTupleGo→O0,typeLookup_type→O5,pushCells_keeps→Rc,codeAny_builtin→Re,wpAny_passesOwn→TB,importedModules→TN,wpAny_seqItems→NB,recursionLimit→OA,wpAny_setField→Rq,attributeBase→MY,behindInMarks→On,wpAny_holding→O4,wpAny_attempt→Qx,wpAny_onRaise→Qy,swapsWithSole→RY,swappedStores→RZ,seq_tuple_add→R3,bootBuiltins→Mg,codeAny_mono→Pt,wpAny_typeOf→Pv,codeAny_func→SL,concat_meets→SM,mainGlobals→Mu,wpAny_field→ME,excClassObj→MU,sizeLine_eq→NG,sliceBounds→Pj,keywordEach→PX,subscripted→RF,lookupAlong→TH,wpAny_letGo→TM,wpAny_bind→Lv,wpAny_pure→LI,wpAny_mono→Nh,assignEach→Ni,sysModules→Om,call_meets→Oo,wpAny_rule→OM,typeLookup→Ph,builtinsNs→Rh,typeIs_int→Ri,wpAny_call→Sr,compareOp→Mz,swapsWith→MK,cellsFrom→NP,tupleKind→Qm,pushCells→Rb,Arguments→TC,noteFrame→TF,starEach→LP,FuncData→MP,binaryOp→Nn,boot_len→NK,NameKind→Ol,GenState→RX,backToKw→R1,Program→L1,BindsTo→RD,Keyword→Ss,OsState→Sx,Shared→LB,Around→Mh,IsPart→R4,IsPair→SO,Result→TR,Paired→TU,Value→Ly,World→MG,Scope→OY,Model→TQ,CmpOp→TX
open PySem.Builtin.Tuple renaming tupleItemsOf→PZ,tupleIsExact→P0,tupleExact→Nv
open PySem.Calls renaming Name_function_global→P3,callWith_builtin→O8,evalArgs_plain→Ot,spliced_cons→OR,Constant_str→RJ,spliced_nil→Pb
open Classical renaming byContradiction→Qd
open PySem.Builtin.List renaming listTooLong→NX,listItems→O7
open Option renaming isSome_iff_exists→OJ,map_eq_some_iff→NJ,isSome_some→RN,isSome_map→Si,getD_none→SR,map_some→Tw,some→MI
open Int renaming eq_ofNat_of_zero_le→Mt,emod_lt_of_pos→Qa,toNat_natCast→MM,emod_nonneg→Q7,zero_sub→SK,le_refl→NW
open PySem.Builtin.Dict renaming updateFrom→Qq
open PySem.Heap renaming get?_push_of_some→LD,get?_update_other→O9,get?_update_self→Q0,get?_push_size→LR,get?_update_ne→Rx,get?_push_ne→Pf,size_update→QD,NewAttrErr→Tq,size_push→M0,lt_size→LO,SameBut→OI,ExtBut→Th
open PySem.W renaming cellsFrom_some→N9,hideAll_none→PB,hideAll_get→N3,callWith_K→ON,of_hideAll→P6,codeRec_of→P7,methodObj→Qg,kitx_list→Sb,kitx_dict→Sd,plainGet→SQ,kia_one→MV,instObj→QR,hideAll→QU,keepIn→Nk,lookIn→Rn,codeIn→Ro,mg_of→Of,Frag→Lu,fnOf→Pl,nsIn→Pm
open PySem.Obj renaming isFreed_of_fields→Q1,data_mapFields→OV,mapFields→RS,mapSeq→Qj
open Bool renaming and_eq_false_iff→Q6,and_eq_true_iff→NA,false_ne_true→LX,false_eq_true→NN,not_eq_true'→So,and_eq_true→LC,eq_iff_iff→OQ,or_eq_true→Tj,true_and→PL,false_or→Qs,or_true→SE,true_or→SF
open Nat renaming le_sub_one_of_lt→PC,sub_one_lt_of_lt→PD,lt_of_lt_of_le→LJ,lt_of_le_of_lt→OW,lt_succ_of_lt→Pd,le_of_succ_le→Pe,le_of_lt_succ→Ql,lt_trichotomy→Sk,max_eq_right→Pz,succ_le_succ→QB,lt_succ_self→SV,min_eq_right→SZ,mod_eq_of_lt→S0,le_antisymm→Ts,min_eq_left→Tu,lt_irrefl→L6,le_trans→Md,ne_of_lt→Mr,le_of_lt→Nt,ne_of_gt→N1,le_of_eq→OK,lt_or_ge→OL,sub_zero→P9,lt_trans→QZ,sub_self→Q4,add_comm→SA,mul_comm→SB,zero_add→SG,le_refl→LL,zero_le→MT,sub_le→Sj
open PySem.Around renaming frames_deeper→Rk,under_plainId→Rl,units→Pq
open PySem.Heap.SameBut renaming update→Rr
open PyProof.Rows.KeyOrd renaming kle_antisymm→Rw,kle_of_klt→Qk,kle_trans→Py,kle_refl→Oe
open List.Pairwise renaming nil→Se
open Option.some renaming inj→Me
open ForInStep renaming yield→Oc
open Array.Perm renaming refl→Ta
open PySem.Expr renaming Subscript→Nl,Attribute→Oz,Constant→Qt,ListComp→RU,Compare→SH,UnaryOp→SI,BoolOp→NV,Name→Mf,Call→NF,List→Tv
open PySem.NameKind renaming free→Mk,cell→M6
open PySem.Value renaming builtin→Oi,none→Ml,bool→Mv,type→NM,ref→LV,int→M5,str→Nr
open PySem.Paired renaming length→Qr
open PySem.Value.ref renaming inj→RH
open Prod.mk renaming injEq→RI,inj→S9
open PySem.Str renaming ofString→LU
open PySem.Stmt renaming Assign→PV
open PySem.Scope renaming names→Ry
open PySem.Pos renaming endLine→RA,line→OG
open PySem.Data renaming fields→Tb,cell→RK
open PySem.Shared renaming heap→Ti
open False renaming elim→Og
open True renaming intro→Oh
open PySem.BoolOp renaming And→Rg,Or→RT
open PySem.Env renaming scope→N8
open PyProof.Rows.IsTup renaming new→Tc
open And renaming intro→Tf
open Ne renaming symm→MS
open Iff renaming rfl→PN
open Sum renaming inl→Rt,inr→Ru
open Prod renaming mk→Tg
open Or renaming inr→MF,inl→MR
set_option Elab.async false
set_option linter.all false
set_option maxRecDepth 100000
set_option maxHeartbeats 8000000
noncomputable section
abbrev gE (x:PySem.Str):Prop:=(x == PySem.Str.ofString "__debug__")=false
namespace L2
open PySem PySem.Spec PyProof.Rows
abbrev Key:=Sum Int Str
def rJ:Key->Ly->Bool
 | .inl k,v=>Value.isInt k v
 | .inr x,v=>Value.isStrOf x v
def keyH (w:MG):Key->Int
 | .inl k=>hashInt k
 | .inr x=>hashStr w x
theorem cV:∀{k:Key} {v:Ly},rJ k v=true->(∃i t,k=Rt i/\v=M5 i t)\/(∃x t,k=Ru x/\v=Nr x t)
 | .inl i,v,h=>by
  obtain⟨t,e⟩:=Value.isInt_shape (k:=i) (v:=v) h
  exact .inl ⟨i,t,rfl,e⟩
 | .inr x,v,h=>by
  obtain⟨t,e⟩:=Value.isStrOf_shape (x:=x) (v:=v) h;exact .inr ⟨x,t,rfl,e⟩
theorem zH (i:Int)(t:Tok):rJ (.inl i) (.int i t)=true:=by simp[rJ,Value.isInt]
theorem zG (x:Str)(t:Tok):rJ (.inr x) (.str x t)=true:=by simp[rJ,Value.isStrOf]
theorem Ho (a b:Int):decide ((Rt a:Key)=Rt b)=(a == b):=by
 by_cases e:a=b
 ·subst e;simp
 ·have h:¬ (Rt a:Key)=Rt b:=λq=>e (Rt.inj q)
  rw[decide_eq_false h];exact(beq_eq_false_iff_ne.mpr e).symm
theorem Hk (a b:Str):decide ((Ru a:Key)=Ru b)=decide (a=b):=by
 by_cases e:a=b
 ·subst e;simp
 ·have h:¬ (Ru a:Key)=Ru b:=λq=>e (Ru.inj q)
  rw[decide_eq_false h,decide_eq_false e]
theorem Hn (a:Int)(b:Str):decide ((Rt a:Key)=Ru b)=false:=decide_eq_false (λq=>nomatch q)
theorem Hl (a:Str)(b:Int):decide ((Ru a:Key)=Rt b)=false:=decide_eq_false (λq=>nomatch q)
def c9 (prog:L1)(w:MG):PySem.KeyKind prog w Key where
 is:=rJ
 hash:=keyH w
 inj:=λv a b ha hb=>by
  rcases cV ha with⟨i,t,rfl,rfl⟩ | ⟨x,t,rfl,rfl⟩
  ·rcases cV hb with⟨j,u,rfl,e⟩ | ⟨y,u,rfl,e⟩
   ·injection e with e1 _;rw[e1]
   ·exact nomatch e
  ·rcases cV hb with⟨j,u,rfl,e⟩ | ⟨y,u,rfl,e⟩
   ·exact nomatch e
   ·injection e with e1 _;rw[e1]
 byValue:=λk v h=>by
  rcases cV h with⟨i,t,rfl,rfl⟩ | ⟨x,t,rfl,rfl⟩ <;> rfl
 pyHash:=λhv h=>by
  rcases cV hv with⟨i,t,rfl,rfl⟩ | ⟨x,t,rfl,rfl⟩
  ·exact wpAny_pyHash_int h
  ·exact wpAny_pyHash_str h
 eqBool:=λhu hv h=>by
  rcases cV hu with⟨i,t,rfl,rfl⟩ | ⟨x,t,rfl,rfl⟩
  ·rcases cV hv with⟨j,u,rfl,rfl⟩ | ⟨y,u,rfl,rfl⟩
   ·rw[Ho]at h;exact S1 h
   ·rw[Hn]at h;exact SeqAt.EqAt.int_str i t y u _ _ _ _ h
  ·rcases cV hv with⟨j,u,rfl,rfl⟩ | ⟨y,u,rfl,rfl⟩
   ·rw[Hl]at h;exact SeqAt.EqAt.str_int x t j u _ _ _ _ h
   ·rw[Hk]at h;exact wpAny_eqBool_str h
 «strs»:=λk x t v h=>by
  rcases cV h with⟨i,u,rfl,e⟩ | ⟨y,u,rfl,e⟩
  ·exact nomatch e
  ·injection e with e1 _
   subst e1;cases v <;> rfl
theorem vL (prog:L1)(w:MG)(i:Int)(t:Tok):(c9 prog w).is (.inl i) (.int i t)=true:=zH i t
theorem vK (prog:L1)(w:MG)(x:Str)(t:Tok):(c9 prog w).is (.inr x) (.str x t)=true:=zG x t
inductive V where
 | non | bl (b:Bool) | int (i:Int) | str (x:Str) | byt (b:Array UInt8) | flt (b:UInt64) | ref (a:Addr) | ty (n:String)
 deriving DecidableEq
def RelV:V->Ly->Prop
 | .non,u=>u=Ml
 | .bl b,u=>u=Mv b
 | .int i,u=> ∃t,u=M5 i t
 | .str x,u=> ∃t,u=Nr x t
 | .byt b,u=> ∃t,u=Value.bytes b t
 | .flt b,u=> ∃t,u=Value.float b t
 | .ref a,u=>u=LV a
 | .ty n,u=>u=NM n
abbrev Vals:List V->List Ly->Prop:=TU RelV
theorem Vals.length {xs:List V}{us:List Ly}(r:Vals xs us):xs.length=us.length:=Qr r
theorem Vals.get:∀{xs:List V} {us:List Ly} {i:Nat} {x:V},Vals xs us->xs[i]? =some x->∃u,us[i]? =some u/\RelV x u
 | _,_,_,_,.nil,e=>by simp at e
 | _,_,0,_,.cons r _,e=>by simp at e;subst e;exact⟨_,rfl,r⟩
 | _,_,i+1,x,.cons _ t,e=>by
  obtain⟨u,h1,h2⟩:=Vals.get (i:=i) (x:=x) t (by simpa using e)
  exact⟨u,by simpa using h1,h2⟩
theorem Vals.append:∀{xs ys:List V} {us ws:List Ly},Vals xs us->Vals ys ws->Vals (xs++ys) (us++ws)
 | _,_,_,_,.nil,s=>s
 | _,_,_,_,.cons r t,s=> .cons r (Vals.append t s)
theorem Vals.take:∀{xs:List V} {us:List Ly} (n:Nat),Vals xs us->Vals (xs.take n) (us.take n)
 | _,_,0,_=> .nil
 | _,_,_+1,.nil=> .nil
 | _,_,n+1,.cons r t=> .cons r (Vals.take n t)
theorem Vals.drop:∀{xs:List V} {us:List Ly} (n:Nat),Vals xs us->Vals (xs.drop n) (us.drop n)
 | _,_,0,r=>r
 | _,_,_+1,.nil=> .nil
 | _,_,n+1,.cons _ t=>Vals.drop n t
def RelO:Option V->Option Ly->Prop
 | some v,some u=>RelV v u
 | none,none=>True
 | _,_=>False
def KV {κ:Type}:List (κ×V)->List (κ×Ly)->Prop:=TU λ(p:κ×V) (q:κ×Ly)=>p.1=q.1/\RelV p.2 q.2
def kV:Key->V
 | .inl i=> .int i
 | .inr x=> .str x
inductive HO where
 /-- a list -/
 | lst (xs:List V)
 /-- a tuple (never changes) -/
 | tup (xs:List V)
 /-- a dict whose keys are ints and texts;one whose keys are tuples of ints and texts (the empty one is both) -/
 | dK (kvs:List (Key×V)) | dT (kvs:List (List Key×V))
 /-- a set of ints: its members,its size -/
 | set (S:Int->Bool) (n:Nat)
 /-- an instance of the class at C,its dict at dx,its attributes -/
 | ins (C dx:Addr) (fs:List (Str×V))
 /-- the dict of the instance at x -/
 | own (x:Addr)
 /-- the dict of an exception -/
 | xd (fs:List (Str×V))
 /-- a bound method,f of x -/
 | met (f x:Addr)
 /-- a range object lo,lo+1,.. below hi -/
 | rng (lo hi:Int)
 /-- a thing that is known to the object (the script;a dict while a loop walks it): read,never written while it is so -/
 | frz (o:Obj) (u:HO)
 /-- a code object's table -/
 | tbl (ps:Array Ly)
 /-- any other thing,by what is true of its one object (a def of one's own: SetO a S n:=HO.ext λh=> ..) -/
 | ext (φ:Heap->Prop)
abbrev Hp:=Addr->Option HO
def upd (H:Hp)(a:Addr)(o:HO):Hp:=λb=>if b=a then some o else H b
theorem aJ {H:Hp}{a:Addr}{o:HO}:upd H a o a=some o:=by unfold upd;rw[if_pos rfl]
theorem aI {H:Hp}{a b:Addr}{o:HO}(h:b≠a):upd H a o b=H b:=by unfold upd;rw[if_neg h]
theorem si {H:Hp}{a:Addr}{o u:HO}:upd (upd H a o) a u=upd H a u:=by
 funext b;unfold upd;split <;> rfl
theorem lT {H:Hp}{a b:Addr}{o u:HO}(h:H a=some o)(h':H b=some u)(d:o≠u):a≠b:=by
 intro e;subst e;rw[h]at h';exact d (Me h')
theorem cG {H:Hp}{a b:Addr}{o:HO}(h:H a=some o)(h':H b=none):a≠b:=by
 intro e;subst e;rw[h]at h';cases h'
section
variable (P:L1)(w:MG)
def ObjOk (H:Hp)(h:Heap)(a:Addr):HO->Prop
 | .lst xs=>xs.length<=sizeLine/\∃(its:List Ly) (n:Nat),Vals xs its/\h.get? a=some { cls:=.type "list",data:=.seq its.toArray n }
 | .tup xs=>xs.length<=sizeLine/\∃its:List Ly,Vals xs its/\TV h a its.toArray
 | .dK kvs=>kvs.length<=sizeLine/\(a == Om)=false/\∃vs,KV kvs vs/\h.DictOf (c9 P w) a vs
 | .dT kvs=>kvs.length<=sizeLine/\(a == Om)=false/\∃xs:List (List Key×Addr×Ly),
   TU (λ(p:List Key×V) (q:List Key×Addr×Ly)=>p.1=q.1/\H q.2.1=some (.tup (p.1.map kV))/\RelV p.2 q.2.2) kvs xs ∧
   ∃o es ep,h.get? a=some o/\o.ExactDict/\o.data= .dict es ep/\es.toList=xs.map (entryOfKey (Qm (c9 P w)))/\(xs.map (·.1)).Nodup
 | .set S n=>h.SetOf (intKind P w) a S n
 | .ins C dx fs=>H dx=some (.own a)/\fs.length<=1000/\dx≠a/\h.get? a=some (QR C dx) ∧
   ∃mA,h.Ns1 dx mA/\(∀f,RelO (fs.lookup f) (mA f))/\PySem.Within mA (fs.map (·.1))
 | .own _=> ∃o,h.get? a=some o
 | .xd fs=> ∃mA,h.Ns1 a mA/\∀f,RelO (fs.lookup f) (mA f)
 | .rng lo hi=> ∃t u v,h.get? a=some { cls:=.type "range",data:=.fields #[.int lo t,.int hi u,.int 1 v] }
 | .frz o u=>h.get? a=some o/\ObjOk H h a u
 | .tbl ps=>h.get? a=some { cls:=.none,data:=.fields ps }
 | .met f x=>h.get? a=some (Qg (.ref f) (.ref x))
 | .ext φ=>φ h/\(∃o,h.get? a=some o)/\∀h1 h2:Heap,φ h1->(∀o,h1.get? a=some o->h2.get? a=some o)->φ h2
def HOk (H:Hp)(h:Heap):Prop:=∀a o,H a=some o->ObjOk P w H h a o
end
section
variable {P:L1}{w:MG}{H H':Hp}{h h':Heap}{a:Addr}{o:HO}
theorem ObjOk.lt (x:ObjOk P w H h a o):a<h.objs.size:=by
 cases o with
 | lst xs=>obtain⟨_,_,_,_,e⟩:=x;exact LO e
 | tup xs=>obtain⟨_,_,_,p⟩:=x;exact p.lt
 | dK kvs=>obtain⟨_,_,_,_,o,_,_,e,_⟩:=x;exact LO e
 | dT kvs=>obtain⟨_,_,_,_,o,_,_,e,_⟩:=x;exact LO e
 | set S n=>obtain⟨o,_,_,_,e,_⟩:=x;exact LO e
 | ins C dx fs=>obtain⟨_,_,_,e,_⟩:=x;exact LO e
 | own y=>obtain⟨_,e⟩:=x;exact LO e
 | xd fs=>obtain⟨_,⟨_,_,_,e,_⟩,_⟩:=x;exact LO e
 | rng lo hi=>obtain⟨_,_,_,e⟩:=x;exact LO e
 | frz ob u=>obtain⟨e,_⟩:=x;exact LO e
 | tbl ps=>exact LO (show h.get? a=some _ from x)
 | met f y=>exact LO (show h.get? a=some _ from x)
 | ext φ=>obtain⟨_,⟨_,e⟩,_⟩:=x;exact LO e
theorem Paired.K6 {α β:Type}{F G:α->β->Prop}:∀{l₁:List α} {l₂:List β},TU F l₁ l₂->(∀a b,F a b->G a b)->TU G l₁ l₂
 | _,_,.nil,_=> .nil
 | _,_,.cons r t,f=> .cons (f _ _ r) (Paired.K6 t f)
theorem ObjOk.KC (x:ObjOk P w H h a o)(k:∀b u,(b=a\/H b=some (.own a))->h.get? b=some u->h'.get? b=some u)
  (ho:∀b,H b=some (.own a)->H' b=some (.own a)) (ht:∀b xs,H b=some (.tup xs)->H' b=some (.tup xs)):ObjOk P w H' h' a o:=by
 induction o with
 | lst xs=>obtain⟨z,its,n,r,e⟩:=x;exact⟨z,its,n,r,k _ _ (.inl rfl) e⟩
 | tup xs=>obtain⟨z,its,r,ob,e,c⟩:=x;exact⟨z,its,r,ob,k _ _ (.inl rfl) e,c⟩
 | dK kvs=>obtain⟨z,y,vs,r,ob,es,ep,e,c⟩:=x;exact⟨z,y,vs,r,ob,es,ep,k _ _ (.inl rfl) e,c⟩
 | dT kvs=>
  obtain⟨z,y,xs,r,ob,es,ep,e,c⟩:=x
  exact⟨z,y,xs,Paired.K6 r λp q z=>⟨z.1,ht _ _ z.2.1,z.2.2⟩,ob,es,ep,k _ _ (.inl rfl) e,c⟩
 | set S n=>obtain⟨ob,es,ep,t,e,c⟩:=x;exact⟨ob,es,ep,t,k _ _ (.inl rfl) e,c⟩
 | ins C dx fs=>
  obtain⟨d,z,ne,e,mA,⟨od,es,ep,e2,c⟩,r⟩:=x
  exact⟨ho _ d,z,ne,k _ _ (.inl rfl) e,mA,⟨od,es,ep,k _ _ (.inr d) e2,c⟩,r⟩
 | own y=>obtain⟨ob,e⟩:=x;exact⟨ob,k _ _ (.inl rfl) e⟩
 | xd fs=>obtain⟨mA,⟨od,es,ep,e,c⟩,r⟩:=x;exact⟨mA,⟨od,es,ep,k _ _ (.inl rfl) e,c⟩,r⟩
 | rng lo hi=>obtain⟨t,u,v,e⟩:=x;exact⟨t,u,v,k _ _ (.inl rfl) e⟩
 | frz ob u ih=>obtain⟨e,q⟩:=x;exact⟨k _ _ (.inl rfl) e,ih q⟩
 | tbl ps=>
  have e:h.get? a=some { cls:=.none,data:=.fields ps }:=x
  show h'.get? a=some { cls:=.none,data:=.fields ps }
  exact k a _ (.inl rfl) e
 | met f y=>
  have e:h.get? a=some (Qg (.ref f) (.ref y)):=x
  show h'.get? a=some (Qg (.ref f) (.ref y))
  exact k a _ (.inl rfl) e
 | ext φ=>obtain⟨p,⟨o,e⟩,st⟩:=x;exact⟨st _ _ p λo q=>k _ _ (.inl rfl) q,⟨o,k _ _ (.inl rfl) e⟩,st⟩
theorem HOk.lt (x:HOk P w H h)(e:H a=some o):a<h.objs.size:=(x a o e).lt
theorem HOk.fresh (x:HOk P w H h)(e:h.objs.size<=a):H a=none:=by
 cases q:H a with
 | none=>rfl
 | some u=>exact absurd (LJ (x.lt q) e) (L6 _)
theorem HOk.kept (x:HOk P w H h)(k:∀b u,h.get? b=some u->h'.get? b=some u):HOk P w H h':=λa o e=>
 (x a o e).KC (λb u _ q=>k b u q) (λ_ q=>q) λ_ _ q=>q
theorem HOk.laid (x:HOk P w H h)(k:∀b u,h.get? b=some u->h'.get? b=some u)(hp:h.objs.size<=a)(new:ObjOk P w (upd H a o) h' a o):HOk P w (upd H a o) h':=λb u e=>by
 have hn:=x.fresh hp
 by_cases hb:b=a
 ·subst hb;rw[aJ]at e;cases e;exact new
 ·rw[aI hb]at e
  exact(x b u e).KC (λc v _ q=>k c v q) (λc q=>by rw[aI (cG q hn)];exact q) λc xs q=>by rw[aI (cG q hn)];exact q
end
def Rd (H:Hp)(a:Addr)(u:HO):Prop:=H a=some u\/∃o,H a=some (.frz o u)
theorem Rd.ok {P:L1}{w:MG}{H:Hp}{h:Heap}{a:Addr}{u:HO}(r:Rd H a u)(x:HOk P w H h):ObjOk P w H h a u:=by
 rcases r with r | ⟨o,r⟩
 ·exact x a u r
 ·obtain⟨_,q⟩:=x a _ r
  exact q
def J7:Option HO->Prop
 | some (.lst _)=>True
 | some (.dK _)=>True
 | some (.dT _)=>True
 | some (.set _ _)=>True
 | some (.ins _ _ _)=>True
 | some (.ext _)=>True
 | _=>False
section
variable {P:L1}{w:MG}{H:Hp}{h h':Heap}{x e:Addr}{o':HO}
theorem HOk.write (ok:HOk P w H h)(mu:J7 (H x))(he:e=x\/H e=some (.own x))(k:∀b u,b≠e->h.get? b=some u->h'.get? b=some u)(heo:∃u,h'.get? e=some u)
  (new:ObjOk P w (upd H x o') h' x o'):HOk P w (upd H x o') h':=λb u q=>by
 have nown:∀c y,H c=some (.own y)->c≠x:=λc y r z=>by subst z;rw[r]at mu;exact mu
 have ntup:∀c xs,H c=some (.tup xs)->c≠x:=λc xs r z=>by subst z;rw[r]at mu;exact mu
 by_cases hb:b=x
 ·subst hb;rw[aJ]at q;cases q;exact new
 ·rw[aI hb]at q
  by_cases hbe:b=e
  ·have q':H b=some (.own x):=by
    rcases he with z | z
    ·exact absurd (hbe.trans z) hb
    ·rw[hbe];exact z
   rw[q]at q';cases q';obtain⟨v,hv⟩:=heo;exact⟨v,by rw[hbe];exact hv⟩
  ·refine(ok b u q).KC (λc v hc r=>k c v ?_ r) (λc r=>by rw[aI (nown c b r)];exact r) λc xs r=>by rw[aI (ntup c xs r)];exact r
   rcases hc with rfl | hc
   ·exact hbe
   ·rintro rfl
    rcases he with z | z
    ·exact nown c b hc z
    ·rw[hc]at z;cases z;exact hb rfl
end
structure Un (fs ex:List Addr)(H H':Hp)(h h':Heap):Prop where
 keep:∀b o,h.get? b=some o->H b=none->b∉fs->b∉ex->h'.get? b=some o
 slot:∀b o,h.get? b=some o->H b=none->b∈fs->b∉ex->∃sl,h'.get? b=some { o with slots:=sl }
 free:∀b o,h.get? b=some o->H b=none->b∉ex->H' b=none
 there:∀b o,h.get? b=some o->b∉ex->∃o',h'.get? b=some o'
 tups:∀b xs,H b=some (.tup xs)->H' b=some (.tup xs)
 frzs:∀b o u,H b=some (.frz o u)->H' b=some (.frz o u)
 tbls:∀b ps,H b=some (.tbl ps)->∃more,H' b=some (.tbl (ps++more))
section
variable {fs fs' ex ex':List Addr}{H H1 H2:Hp}{h h1 h2 h':Heap}{a x e:Addr}{o:HO}
theorem Un.any (u:Un fs ex H H1 h h1){b:Addr}{ob:Obj}(q:h.get? b=some ob)(n:H b=none)(hx:b∉ex):∃sl,h1.get? b=some { ob with slots:=sl }:=by
 by_cases hb:b∈fs
 ·exact u.slot b ob q n hb hx
 ·exact⟨ob.slots,u.keep b ob q n hb hx⟩
theorem Un.kept (k:∀b u,h.get? b=some u->h'.get? b=some u):Un fs ex H H h h':=
 ⟨λb ob q _ _ _=>k b ob q,λb ob q _ _ _=>⟨ob.slots,k b ob q⟩,λ_ _ _ n _=>n,λb ob q _=>⟨ob,k b ob q⟩,λ_ _ q=>q,λ_ _ _ q=>q,λ_ ps q=>⟨#[],by rw[q];simp⟩⟩
theorem Un.refl:Un fs ex H H h h:=Un.kept λ_ _ q=>q
theorem Un.laid (k:∀b u,h.get? b=some u->h'.get? b=some u)(hp:h.objs.size<=a)(hn:H a=none):Un fs ex H (upd H a o) h h' where
 keep:=λb u q _ _ _=>k b u q
 slot:=λb u q _ _ _=>⟨u.slots,k b u q⟩
 free:=λb u q n _=>by rw[aI (Mr (LJ (LO q) hp))];exact n
 there:=λb u q _=>⟨u,k b u q⟩
 tups:=λb xs q=>by rw[aI (cG q hn)];exact q
 frzs:=λb u xs q=>by rw[aI (cG q hn)];exact q
 tbls:=λb ps q=>⟨#[],by rw[aI (cG q hn),q];simp⟩
theorem Un.write (mu:J7 (H x))(he:e=x\/H e=some (.own x))(k:∀b u,b≠e->h.get? b=some u->h'.get? b=some u)(heo:∃u,h'.get? e=some u):Un fs ex H (upd H x o) h h':=by
 have hx:∀b,H b=none->b≠x:=λb n z=>by subst z;rw[n]at mu;exact mu
 have hb:∀b,H b=none->b≠e:=λb n z=>by
  subst z;rcases he with r | r
  ·exact hx b n r
  ·rw[n]at r;cases r
 have hm:∀b u,H b=some u->¬ J7 (some u)->b≠x:=λb u q nm z=>by subst z;rw[q]at mu;exact nm mu
 refine⟨λb u q n _ _=>k b u (hb b n) q,λb u q n _ _=>⟨u.slots,k b u (hb b n) q⟩,λb u q n _=>by rw[aI (hx b n)];exact n,λb u q _=> ?_,
  λb xs q=>by rw[aI (hm b _ q λz=>z)];exact q,λb u xs q=>by rw[aI (hm b _ q λz=>z)];exact q,λb ps q=>⟨#[],by rw[aI (hm b _ q λz=>z),q];simp⟩⟩
 by_cases hbe:b=e
 ·subst hbe;exact heo
 ·exact⟨u,k b u hbe q⟩
end
def trk (h:Heap)(H:Hp):List Addr:=(MA h.objs.size).filter λa=>(H a).isSome
def ua (h:Heap)(H:Hp):Heap:=QU h (trk h H)
theorem zN (h:Heap)(H:Hp):(ua h H).objs.size=h.objs.size:=PySem.W.hideAll_size _ _
theorem B3 {h:Heap}{H:Hp}{b:Addr}{o:Obj}(e:h.get? b=some o)(n:H b=none):(ua h H).get? b=some o:=
 N3 _ e λhm=>by
  have q:(H b).isSome=true:=(QX.mp hm).2;rw[n]at q;simp at q
theorem DY {h:Heap}{H:Hp}{b:Addr}{o:Obj}(e:(ua h H).get? b=some o):h.get? b=some o/\H b=none:=by
 have e':h.get? b=some o:=P6 (trk h H) e;refine⟨e',?_⟩
 cases q:H b with
 | none=>rfl
 | some x=>
  have hm:b∈trk h H:=QX.mpr ⟨MZ.mpr (LO e'),by simp[q]⟩
  have z:(ua h H).get? b=none:=PB (trk h H) hm;rw[z]at e;cases e
def EJ (g h:Heap)(L:Addr):List (Addr×Obj):=(MA h.objs.size).filterMap λa=>if a=L\/(g.get? a).isSome=true then none else(h.get? a).map λo=>(a,o)
def dk (g h:Heap)(L d:Addr):List (Addr×Obj):=(EJ g h L).filter λp=>decide (p.1≠d)
structure Mod (K:Lu)(mg:Str->Option Ly)(base:Heap):Prop where
 kin:K.In base
 glob:base.Ns Mu mg
 blt:∃mb,base.Ns Rh mb/\∀x:Str,x≠ "__name__"->mb x=Mg x
 nolimit:base.NoLimit
structure Cx where
 prog:L1
 w:MG
 K:Lu
 mg:Str->Option Ly
 base:Heap
 A:Mh
 N:List Str
 s₀:LB
 H₀:Hp
 env:Env
 outer:List Env
 stack:List Env
 ex:List Addr
 fn:Str->Bool
 calm:Bool
 pn:List (Addr×Obj)
 xe:Ly->LB->Prop
def pO (l:List Env):List Addr:=l.filterMap (·.frame)
abbrev Cx.fs (X:Cx):List Addr:=pO X.outer
def sd (sc:OY)(x:Str):Prop:=sc.names.lookup x=some .local\/sc.names.lookup x=some .cell\/sc.names.lookup x=some .free
def Loc (sc:OY)(x:Str):Prop:=sc.names.lookup x=some .local\/sc.names.lookup x=some .cell
def Look (env:Env)(h:Heap)(m:Str->Option Ly)(x:Str)(u:Ly):Prop:=
 (env.kindOf x=some .local/\m x=some u)\/((env.kindOf x=some .cell\/env.kindOf x=some .free)/\∃c,env.cells.lookup x=some c/\h.IsCell c (some u))
structure Cx.Ok (X:Cx):Prop where
 mod:Mod X.K X.mg X.base
 kind:X.env.scope.kind= .function
 glob:X.env.globals=Mu
 blt:X.env.builtins=Rh
 above:X.s₀.heap.objs.size<=X.env.locals
 inj:∀x y c,X.env.cells.lookup x=some c->X.env.cells.lookup y=some c->x=y
 has:∀x,(X.env.kindOf x=some .cell\/X.env.kindOf x=some .free)->∃c,X.env.cells.lookup x=some c
 cab:∀x c,X.fn x=true->X.env.cells.lookup x=some c->X.s₀.heap.objs.size<=c
 hd:X.calm=true->X.A.handled=none
 frames:X.A.frames=some X.stack
 stk:X.stack=X.outer\/(X.stack=X.env::X.outer/\X.env.frame=some X.env.locals)
 exf:∀b∈X.ex,b≠X.env.locals/\∀x c,X.env.cells.lookup x=some c->c≠b
 bs:∀b o,X.base.get? b=some o->X.s₀.heap.get? b=some o/\X.H₀ b=none
 bsz:X.base.objs.size<=X.s₀.heap.objs.size
 noex:∀b o,X.base.get? b=some o->b∉X.ex
 exfs:∀b∈X.ex,b∉X.fs
 funs:X.s₀.heap.FunFrames X.base X.outer
 frf:∀b∈X.fs,X.H₀ b=none
structure Inv (X:Cx)(pins:List (Addr×Obj))(σ:List (Option V))(H:Hp)(s:LB):Prop where
 ok:X.Ok
 os:s.os=X.s₀.os
 bare:Qw s.gens
 base:Un X.fs X.ex X.H₀ H X.s₀.heap s.heap
 loc:∃m,s.heap.Ns X.env.locals m/\∀(i:Nat) (x:Str) (v:V),X.N[i]? =some x->σ[i]? =some (some v)->sd X.env.scope x->∃u,RelV v u/\Look X.env s.heap m x u
 cell:∀x c,X.env.cells.lookup x=some c->∃v,s.heap.IsCell c v
 free:H X.env.locals=none
 freeC:∀x c,X.env.cells.lookup x=some c->H c=none
 pin:∀p∈X.pn++pins,s.heap.get? p.1=some p.2/\H p.1=none/\p.1≠X.env.locals/\p.1∉X.fs/\∀v,p.2.data≠ .cell v
 hok:HOk X.prog X.w H s.heap
 len:σ.length=X.N.length
section
variable {X:Cx}{pins:List (Addr×Obj)}{σ:List (Option V)}{H H':Hp}{s:LB}{h':Heap}
theorem Cx.Ok.Ln (ok:X.Ok){b:Addr}{o:Obj}(e:X.base.get? b=some o):b∉X.fs:=λhb=>by
 have:=(ok.funs.mem hb).1;rw[e]at this;cases this
theorem Inv.bs (I:Inv X pins σ H s):∀b o,X.base.get? b=some o->s.heap.get? b=some o/\H b=none:=λb o e=>
 ⟨I.base.keep b o (I.ok.bs b o e).1 (I.ok.bs b o e).2 (I.ok.Ln e) (I.ok.noex b o e),I.base.free b o (I.ok.bs b o e).1 (I.ok.bs b o e).2 (I.ok.noex b o e)⟩
theorem Inv.bk (I:Inv X pins σ H s):∀b o,X.base.get? b=some o->s.heap.get? b=some o:=λb o e=>(I.bs b o e).1
theorem Inv.mod (I:Inv X pins σ H s):Mod X.K X.mg X.base:=I.ok.mod
theorem Inv.kIn (I:Inv X pins σ H s):X.K.In s.heap:=I.ok.mod.kin.keeps I.bk
theorem Inv.lt (I:Inv X pins σ H s):X.env.locals<s.heap.objs.size:=let ⟨_,hn,_⟩:=I.loc;hn.lt
theorem Inv.sz (I:Inv X pins σ H s):X.s₀.heap.objs.size<=s.heap.objs.size:=Md I.ok.above (Nt I.lt)
theorem Inv.Ls (I:Inv X pins σ H s){a:Addr}(h:s.heap.objs.size<=a):a∉X.fs:=λhb=>by
 obtain⟨_,o,ho,_⟩:=I.ok.funs.mem hb;exact absurd (LJ (LO ho) (Md I.sz h)) (L6 _)
theorem Inv.cne (I:Inv X pins σ H s):∀x c,X.env.cells.lookup x=some c->c≠X.env.locals:=λx c e z=>by
 obtain⟨v,o,ho,hd⟩:=I.cell x c e;obtain⟨m,⟨o',es,ep,ho',hd',_⟩,_⟩:=I.loc;rw[z,ho']at ho;cases ho;rw[hd']at hd;cases hd
theorem Inv.funs (I:Inv X pins σ H s):s.heap.FunFrames X.base X.outer:=by
 have all:∀(l:List Env),(∀b∈pO l,b∈X.fs)->X.s₀.heap.FunFrames X.base l->s.heap.FunFrames X.base l:=by
  intro l
  induction l with
  | nil=>intro _ _;trivial
  | cons env r ih=>
   intro hs hl;obtain⟨hk,⟨L,o,hf,hn,ho,hd⟩,hr⟩:=hl
   have hL:L∈X.fs:=hs L (by unfold pO;rw[Nc,hf];exact Lz)
   obtain⟨sl,e⟩:=I.base.slot L o ho (I.ok.frf L hL) hL λz=>I.ok.exfs L z hL
   exact⟨hk,⟨L,_,hf,hn,e,hd⟩,ih (λb hb=>hs b (by unfold pO;rw[Nc,hf];exact Lw _ hb)) hr⟩
 exact all X.outer (λ_ hb=>hb) I.ok.funs
theorem Inv.stack (I:Inv X pins σ H s):s.heap.FunFrames X.base X.stack:=by
 rcases I.ok.stk with e | ⟨e,hf⟩
 ·rw[e];exact I.funs
 ·rw[e]
  obtain⟨m,hn,_⟩:=I.loc;refine .cons (by rw[I.ok.kind];decide) hf hn ?_ I.funs
  exact Heap.get?_none_of_le (Md I.ok.bsz I.ok.above)
theorem Inv.KG (I:Inv X pins σ H s):∀b∈pO X.stack,b∈X.env.locals::X.fs:=λb hb=>by
 rcases I.ok.stk with e | ⟨e,hf⟩
 ·rw[e]at hb;exact Lw _ hb
 ·rw[e]at hb
  unfold pO at hb;rw[Nc,hf]at hb;exact hb
theorem Inv.Kz (I:Inv X pins σ H s):∀b∈pO X.stack,H b=none:=λb hb=>by
 rcases LH.mp (I.KG b hb)with e | hb
 ·rw[e];exact I.free
 ·obtain⟨_,o,ho,_⟩:=I.ok.funs.mem hb
  exact I.base.free b o ho (I.ok.frf b hb) λz=>I.ok.exfs b z hb
theorem Inv.step {g':Array RX}{t':Nat}{d':Drawn}{ch:List Addr}(I:Inv X pins σ H s)
  (hch:∀b∈ch,(b∈X.ex\/X.s₀.heap.objs.size<=b)/\b≠X.env.locals/\(∀x c,X.env.cells.lookup x=some c->c≠b)/\∀p∈X.pn++pins,p.1≠b)
  (keep:∀b o,b≠X.env.locals->b∉X.fs->b∉ch->s.heap.get? b=some o->H b=none->h'.get? b=some o)
  (slot:∀b o,b≠X.env.locals->b∈X.fs->b∉ch->s.heap.get? b=some o->H b=none->∃sl,h'.get? b=some { o with slots:=sl }) (free:∀b o,b∉ch->s.heap.get? b=some o->H b=none->H' b=none)
  (there:∀b o,b∉ch->s.heap.get? b=some o->∃o',h'.get? b=some o')
  (tups:∀b xs,H b=some (.tup xs)->H' b=some (.tup xs)) (frzs:∀b o u,H b=some (.frz o u)->H' b=some (.frz o u)) (tbls:∀b ps,H b=some (.tbl ps)->∃more,H' b=some (.tbl (ps++more)))
  (ns:∀m,s.heap.Ns X.env.locals m->h'.Ns X.env.locals m) (hok:HOk X.prog X.w H' h') (hg:Qw g') :
  Inv X pins σ H' { s with heap:=h',gens:=g',drawn:=d',toks:=t' }:=by
 have neL:∀b o,X.s₀.heap.get? b=some o->b≠X.env.locals:=λb o e=>Mr (LJ (LO e) I.ok.above)
 have neC:∀b o,X.s₀.heap.get? b=some o->b∉X.ex->b∉ch:=λb o e hx hb=>by
  rcases(hch b hb).1 with z | z
  ·exact hx z
  ·exact absurd (LJ (LO e) z) (L6 _)
 have cellK:∀x c,X.env.cells.lookup x=some c->∀v,s.heap.IsCell c v->h'.IsCell c v:=λx c e v hh_=>by
  obtain⟨o,ho,hd⟩:=hh_
  have nch:c∉ch:=λz=>(hch c z).2.2.1 x c e rfl
  by_cases hc:c∈X.fs
  ·obtain⟨sl,q⟩:=slot c o (I.cne x c e) hc nch ho (I.freeC x c e)
   exact⟨_,q,hd⟩
  ·exact⟨o,keep c o (I.cne x c e) hc nch ho (I.freeC x c e),hd⟩
 refine⟨I.ok,I.os,hg,⟨λb o e n hb hx=> ?_,λb o e n hb hx=> ?_,λb o e n hx=> ?_,λb o e hx=> ?_,λb xs e=>tups b xs (I.base.tups b xs e),λb o xs e=>frzs b o xs (I.base.frzs b o xs e),λb ps e=> ?_⟩,?_,λx c e=> ?_,?_,λx c e=> ?_,λp hp=> ?_,hok,I.len⟩
 ·exact keep b o (neL b o e) hb (neC b o e hx) (I.base.keep b o e n hb hx) (I.base.free b o e n hx)
 ·obtain⟨sl,e1⟩:=I.base.slot b o e n hb hx
  obtain⟨sl',e2⟩:=slot b _ (neL b o e) hb (neC b o e hx) e1 (I.base.free b o e n hx);exact⟨sl',e2⟩
 ·obtain⟨o',e1⟩:=I.base.there b o e hx
  exact free b o' (neC b o e hx) e1 (I.base.free b o e n hx)
 ·obtain⟨o',e1⟩:=I.base.there b o e hx
  exact there b o' (neC b o e hx) e1
 ·obtain⟨m1,e1⟩:=I.base.tbls b ps e
  obtain⟨m2,e2⟩:=tbls b _ e1;exact⟨m1++m2,by rw[e2,Array.append_assoc]⟩
 ·obtain⟨m,hn,hl⟩:=I.loc
  refine⟨m,ns m hn,λi x v e1 e2 e3=> ?_⟩
  obtain⟨u,r,l⟩:=hl i x v e1 e2 e3;refine⟨u,r,?_⟩
  rcases l with l | ⟨k,c,e,z⟩
  ·exact .inl l
  ·exact .inr ⟨k,c,e,cellK x c e _ z⟩
 ·obtain⟨v,z⟩:=I.cell x c e
  exact⟨v,cellK x c e v z⟩
 ·obtain⟨m,⟨o,_,_,ho,_⟩,_⟩:=I.loc
  exact free _ o (λz=>(hch _ z).2.1 rfl) ho I.free
 ·obtain⟨v,o,ho,hd⟩:=I.cell x c e
  exact free c o (λz=>(hch c z).2.2.1 x c e rfl) ho (I.freeC x c e)
 ·obtain⟨e,n,ne,nf,d⟩:=I.pin p hp
  have nch:p.1∉ch:=λz=>(hch p.1 z).2.2.2 p hp rfl
  exact⟨keep p.1 p.2 ne nf nch e n,free p.1 p.2 nch e n,ne,nf,d⟩
theorem Inv.un {t':Nat}(I:Inv X pins σ H s)(u:Un X.fs [] H H' s.heap h')(hok:HOk X.prog X.w H' h'):Inv X pins σ H' { s with heap:=h',toks:=t' }:=by
 obtain⟨m,⟨o,es,ep,ho,r⟩,_⟩:=id I.loc;obtain⟨sl,hL⟩:=u.any ho I.free (by simp)
 exact I.step (g':=s.gens) (d':=s.drawn) (ch:=[]) (λ_ z=>nomatch z) (λb o _ hb _ e n=>u.keep b o e n hb (by simp)) (λb o _ hb _ e n=>u.slot b o e n hb (by simp)) (λb o _ e n=>u.free b o e n (by simp)) (λb o _ e=>u.there b o e (by simp)) u.tups u.frzs u.tbls (λm' hm=>by
  obtain⟨o',es',ep',ho',r'⟩:=hm;rw[ho]at ho';cases ho';exact⟨_,es',ep',hL,r'⟩) hok I.bare
theorem Inv.call {g':Array RX}{t':Nat}{d':Drawn}{ch:List Addr}(I:Inv X pins σ H s)(u:Un (pO X.stack) ch H H' s.heap h')(hok:HOk X.prog X.w H' h')(hg:Qw g')
  (hch:∀b∈ch,(b∈X.ex\/X.s₀.heap.objs.size<=b)/\b≠X.env.locals/\(∀x c,X.env.cells.lookup x=some c->c≠b)/\∀p∈X.pn++pins,p.1≠b) :
  Inv X pins σ H' { s with heap:=h',gens:=g',drawn:=d',toks:=t' }:=by
 obtain⟨m,⟨o,es,ep,ho,r⟩,_⟩:=id I.loc;obtain⟨sl,hL⟩:=u.any ho I.free λz=>(hch _ z).2.1 rfl
 exact I.step (ch:=ch) hch (λb o hL hb hc e n=>u.keep b o e n (λz=>(LH.mp (I.KG b z)).elim hL hb) hc) (λb o _ _ hc e n=>u.any e n hc) (λb o hc e n=>u.free b o e n hc) (λb o hc e=>u.there b o e hc) u.tups u.frzs u.tbls (λm' hm=>by
  obtain⟨o',es',ep',ho',r'⟩:=hm;rw[ho]at ho';cases ho';exact⟨_,es',ep',hL,r'⟩) hok hg
theorem Inv.turned {t':Nat}{it:Addr}(I:Inv X pins σ H s)(k:∀b o,b≠it->s.heap.get? b=some o->h'.get? b=some o)(hn:H it=none)(hL:it≠X.env.locals)
  (h1:it∈X.ex\/X.s₀.heap.objs.size<=it) (h2:∀x c,X.env.cells.lookup x=some c->c≠it) (h3:∀p∈X.pn++pins,p.1≠it):Inv X pins σ H { s with heap:=h',toks:=t' }:=by
 have nit:∀b u,H b=some u->b≠it:=λb u e z=>by rw[z,hn]at e;cases e
 refine I.step (g':=s.gens) (d':=s.drawn) (ch:=[it]) (λb hb=> ?_) (λb o _ _ hc e _=>k b o (λz=>hc (by simp[z])) e) (λb o _ _ hc e _=>⟨o.slots,k b o (λz=>hc (by simp[z])) e⟩) (λ_ _ _ _ n=>n)
  (λb o hc e=>⟨o,k b o (λz=>hc (by simp[z])) e⟩) (λ_ _ e=>e) (λ_ _ _ e=>e) (λb ps e=>⟨#[],by rw[e];simp⟩) (λm hm=> ?_) (λb u e=> ?_) I.bare
 ·have e:b=it:=by simpa using hb
  subst e;exact⟨h1,hL,h2,h3⟩
 ·obtain⟨o,es,ep,ho,r⟩:=hm
  exact⟨o,es,ep,k _ o (MS hL) ho,r⟩
 ·refine(I.hok b u e).KC (λc v hc q=>k c v ?_ q) (λ_ q=>q) λ_ _ q=>q
  rcases hc with z | z
  ·rw[z];exact nit b u e
  ·exact nit c _ z
theorem Inv.tok (I:Inv X pins σ H s)(t:Nat):Inv X pins σ H { s with toks:=t }:=I.un (h':=s.heap) (t':=t) Un.refl I.hok
theorem Inv.kept {t':Nat}(I:Inv X pins σ H s)(k:∀b u,s.heap.get? b=some u->h'.get? b=some u):Inv X pins σ H { s with heap:=h',toks:=t' }:=I.un (Un.kept k) (I.hok.kept k)
theorem Inv.laid {a:Addr}{o:HO}{t':Nat}(I:Inv X pins σ H s)(k:∀b u,s.heap.get? b=some u->h'.get? b=some u)(hp:s.heap.objs.size<=a)(new:ObjOk X.prog X.w (upd H a o) h' a o) :
  Inv X pins σ (upd H a o) { s with heap:=h',toks:=t' }:=I.un (Un.laid k hp (I.hok.fresh hp)) (I.hok.laid k hp new)
theorem Inv.write {x e:Addr}{o:HO}{t':Nat}(I:Inv X pins σ H s)(mu:J7 (H x))(he:e=x\/H e=some (.own x))(k:∀b u,b≠e->s.heap.get? b=some u->h'.get? b=some u)(heo:∃u,h'.get? e=some u)
  (new:ObjOk X.prog X.w (upd H x o) h' x o):Inv X pins σ (upd H x o) { s with heap:=h',toks:=t' }:=I.un (Un.write mu he k heo) (I.hok.write mu he k heo new)
theorem Inv.KL {pins':List (Addr×Obj)}(I:Inv X pins σ H s)(h:∀p∈pins',s.heap.get? p.1=some p.2/\H p.1=none/\p.1≠X.env.locals/\p.1∉X.fs/\∀v,p.2.data≠ .cell v):Inv X pins' σ H s:=
 ⟨I.ok,I.os,I.bare,I.base,I.loc,I.cell,I.free,I.freeC,λp hp=>(Mb.mp hp).elim (λz=>I.pin p (Mm _ z)) (h p),I.hok,I.len⟩
theorem vA {N:List Str}(hN:N.Nodup){i j:Nat}{x:Str}(a:N[i]? =some x)(b:N[j]? =some x):i=j:=by
 obtain⟨h1,e1⟩:=LM.mp a
 obtain⟨h2,e2⟩:=LM.mp b
 exact(List.getElem_inj hN).mp (e1.trans e2.symm)
theorem rh {M:TQ}{A:Mh}{E:Ly->LB->Prop}{i:Nat}{x:Str}{v:V}{u:Ly}{Q:Unit->LB->Prop}(I:Inv X pins σ H s)(hN:X.N.Nodup)(hi:X.N[i]? =some x)(hx:Loc X.env.scope x)(r:RelV v u)
  (h:∀s',Inv X pins (σ.set i (some v)) H s'->(∃a,OI a s.heap s'.heap/\(a=X.env.locals\/X.env.cells.lookup x=some a))->Q () s') (hf:X.fn x=true\/X.env.scope.names.lookup x=some .local:=by first | exact .inl rfl | exact .inr rfl | assumption):wpAny M A (storeName X.env x u) Q E s:=by
 obtain⟨m,hn,hl⟩:=id I.loc
 have hcls:(X.env.scope.kind == .class||(X.env.scope.kind == .module&&X.env.locals != X.env.globals))=false:=by rw[I.ok.kind];rfl
 have hiσ:i<σ.length:=by rw[I.len];exact(LM.mp hi).1
 have cne:=I.cne
 have tracked:∀{a:Addr} {h':Heap},(∃o,s.heap.get? a=some o/\H a=none)->OI a s.heap h'->HOk X.prog X.w H h':=λ{a h'} ha hs b ob e=>by
  obtain⟨_,_,hfree⟩:=ha;refine(I.hok b ob e).KC (λc w' hc q=>(hs.2 c ?_).trans q) (λ_ q=>q) λ_ _ q=>q
  rintro rfl
  rcases hc with rfl | hc
  ·rw[hfree]at e;cases e
  ·rw[hfree]at hc;cases hc
 rcases hx with hk | hk
 ·refine wpAny_storeName_local hk hn (λh' hn' hs=> ?_) hcls
  obtain⟨oL,_,_,hoL,_⟩:=id hn;refine h _ ⟨I.ok,I.os,I.bare,⟨λb o e n hb hx=> ?_,λb o e n hb hx=> ?_,I.base.free,λb o e hx=> ?_,I.base.tups,I.base.frzs,I.base.tbls⟩,⟨_,hn',λj y v' e1 e2 e3=> ?_⟩,λy c e=> ?_,I.free,I.freeC,λp hp=> ?_,tracked ⟨oL,hoL,I.free⟩ hs,by simpa using I.len⟩ ⟨_,hs,.inl rfl⟩
  ·exact(hs.2 b (Mr (LJ (LO e) I.ok.above))).trans (I.base.keep b o e n hb hx)
  ·obtain⟨sl,e1⟩:=I.base.slot b o e n hb hx
   exact⟨sl,(hs.2 b (Mr (LJ (LO e) I.ok.above))).trans e1⟩
  ·obtain⟨o',e1⟩:=I.base.there b o e hx
   exact⟨o',(hs.2 b (Mr (LJ (LO e) I.ok.above))).trans e1⟩
  ·by_cases hj:j=i
   ·subst hj
    rw[hi]at e1;cases e1;rw[L4 hiσ]at e2
    cases e2;exact⟨u,r,.inl ⟨hk,by simp⟩⟩
   ·rw[L8 (MS hj)]at e2
    obtain⟨u',r',q⟩:=hl j y v' e1 e2 e3;refine⟨u',r',?_⟩
    rcases q with⟨k,e⟩ | ⟨k,c,e,z⟩
    ·refine .inl ⟨k,?_⟩
     have:y≠x:=λe=>hj (vA hN e1 (e▸hi))
     simp[this,e]
    ·exact .inr ⟨k,c,e,z.sameBut hs (cne y c e)⟩
  ·obtain⟨w',z⟩:=I.cell y c e
   exact⟨w',z.sameBut hs (cne y c e)⟩
  ·obtain⟨e,n,ne,nf,d⟩:=I.pin p hp
   exact⟨(hs.2 p.1 ne).trans e,n,ne,nf,d⟩
 ·have hfn:X.fn x=true:=by
   rcases hf with z | z
   ·exact z
   ·rw[z]at hk;cases hk
  obtain⟨c,hc⟩:=I.ok.has x (.inl hk);obtain⟨w',z⟩:=I.cell x c hc;refine wpAny_storeName_cell I.ok.kind hk hc z (λh' hc' hs=> ?_)
  obtain⟨oc,hoc,hocd⟩:=id z;refine h { s with heap:=h' } ⟨I.ok,I.os,I.bare,⟨λb o e n hb hx=> ?_,λb o e n hb hx=> ?_,I.base.free,λb o e hx=> ?_,I.base.tups,I.base.frzs,I.base.tbls⟩,⟨m,hn.sameBut hs (MS (cne x c hc)),λj y v' e1 e2 e3=> ?_⟩,λy c' e=> ?_,I.free,I.freeC,λp hp=> ?_,tracked ⟨oc,hoc,I.freeC x c hc⟩ hs,by simpa using I.len⟩ ⟨c,hs,.inr hc⟩
  ·exact(hs.2 b (Mr (LJ (LO e) (I.ok.cab x c hfn hc)))).trans (I.base.keep b o e n hb hx)
  ·obtain⟨sl,e1⟩:=I.base.slot b o e n hb hx
   exact⟨sl,(hs.2 b (Mr (LJ (LO e) (I.ok.cab x c hfn hc)))).trans e1⟩
  ·obtain⟨o',e1⟩:=I.base.there b o e hx
   exact⟨o',(hs.2 b (Mr (LJ (LO e) (I.ok.cab x c hfn hc)))).trans e1⟩
  ·by_cases hj:j=i
   ·subst hj
    rw[hi]at e1;cases e1;rw[L4 hiσ]at e2
    cases e2;exact⟨u,r,.inr ⟨.inl hk,c,hc,hc'⟩⟩
   ·rw[L8 (MS hj)]at e2
    obtain⟨u',r',q⟩:=hl j y v' e1 e2 e3;refine⟨u',r',?_⟩
    rcases q with q | ⟨k,c',e,z'⟩
    ·exact .inl q
    ·refine .inr ⟨k,c',e,z'.sameBut hs ?_⟩
     rintro rfl
     exact hj (vA hN e1 (I.ok.inj _ _ _ e hc▸hi))
  ·by_cases hcc:c'=c
   ·subst hcc;exact⟨_,hc'⟩
   ·obtain⟨w2,z2⟩:=I.cell y c' e
    exact⟨w2,z2.sameBut hs hcc⟩
  ·obtain⟨e,n,ne,nf,d⟩:=I.pin p hp
   refine⟨(hs.2 p.1 ?_).trans e,n,ne,nf,d⟩
   intro q;rw[q,hoc]at e
   have q':oc=p.2:=Me e;exact d w' (by rw[<-q'];exact hocd)
theorem oE {M:TQ}{A:Mh}{E:Ly->LB->Prop}{i:Nat}{x:Str}{v:V}{u:Ly}{Q:Unit->LB->Prop}(I:Inv X pins σ H s)(hN:X.N.Nodup)(hi:X.N[i]? =some x)(hx:Loc X.env.scope x)(r:RelV v u)
  (h:∀s',Inv X pins (σ.set i (some v)) H s'->Q () s') (hf:X.fn x=true\/X.env.scope.names.lookup x=some .local:=by first | exact .inl rfl | exact .inr rfl | assumption):wpAny M A (storeName X.env x u) Q E s:=
 rh I hN hi hx r (λs' I' _=>h s' I') hf
theorem Inv.KN {s':LB}{ch:List Addr}(I:Inv X pins σ H s)(ho:s'.os=s.os)(u:Un (pO X.stack) ch H H' s.heap s'.heap)(hok:HOk X.prog X.w H' s'.heap)(hg:Qw s'.gens)
  (hch:∀b∈ch,(b∈X.ex\/X.s₀.heap.objs.size<=b)/\b≠X.env.locals/\(∀x c,X.env.cells.lookup x=some c->c≠b)/\∀p∈X.pn++pins,p.1≠b):Inv X pins σ H' s':=by
 obtain⟨h',g',d',t',o'⟩:=s'
 have e:o'=s.os:=ho;subst e;exact I.call (g':=g') (t':=t') (d':=d') u hok hg hch
end
abbrev XK:=Ly->Option Addr->Hp->Prop
abbrev St:=List (Option V)
abbrev VK:=V->Hp->Prop
abbrev TE:=St->Hp->VK->Prop
abbrev TT:=St->Hp->(Bool->Hp->Prop)->Prop
abbrev TA:=St->Hp->(List V->Hp->Prop)->Prop
structure uC where
 nx:St->Hp->Prop
 rt:VK
 bk:St->Hp->Prop:=λ_ _=>False
 ct:St->Hp->Prop:=λ_ _=>False
abbrev TS:=uC->St->Hp->Prop
def EP (X:Cx)(pins:List (Addr×Obj))(σ:St)(Q:VK)(u:Ly)(s':LB):Prop:=∃v H',Inv X pins σ H' s'/\RelV v u/\Q v H'
def TP (X:Cx)(pins:List (Addr×Obj))(σ:St)(Q:Bool->Hp->Prop)(b:Bool)(s':LB):Prop:=∃H',Inv X pins σ H' s'/\Q b H'
def AP (X:Cx)(pins:List (Addr×Obj))(σ:St)(Q:List V->Hp->Prop)(us:List Ly)(s':LB):Prop:=∃vs H',Inv X pins σ H' s'/\Vals vs us/\Q vs H'
def SP (X:Cx)(pins:List (Addr×Obj))(D:uC)(f:Flow)(s':LB):Prop:=
 match f with
 | .next=> ∃σ' H',Inv X pins σ' H' s'/\D.nx σ' H'
 | .brk=> ∃σ' H',Inv X pins σ' H' s'/\D.bk σ' H'
 | .cont=> ∃σ' H',Inv X pins σ' H' s'/\D.ct σ' H'
 | .ret u=> ∃v σ' H',Inv X pins σ' H' s'/\RelV v u/\D.rt v H'
def PE (X:Cx)(e:Expr)(t:TE):Prop:=
 ∀(pins:List (Addr×Obj)) (s:LB) (σ:St) (H:Hp) (Q:VK),Inv X pins σ H s->t σ H Q->wpAny (model X.prog X.w) X.A (eval e X.env) (EP X pins σ Q) X.xe s
def PT (X:Cx)(e:Expr)(t:TT):Prop:=
 ∀(pins:List (Addr×Obj)) (s:LB) (σ:St) (H:Hp) (Q:Bool->Hp->Prop),Inv X pins σ H s->t σ H Q->wpAny (model X.prog X.w) X.A (isTrue e X.env (eval e X.env)) (TP X pins σ Q) X.xe s
def PW (X:Cx)(e:Expr)(t:TT):Prop:=
 ∀(whole:Sem Ly) (pins:List (Addr×Obj)) (s:LB) (σ:St) (H:Hp) (Q:Bool->Hp->Prop),Inv X pins σ H s->t σ H Q->wpAny (model X.prog X.w) X.A (isTrue e X.env whole) (TP X pins σ Q) X.xe s
theorem PW.pt {X:Cx}{e:Expr}{t:TT}(h:PW X e t):PT X e t:=h _
def PA (X:Cx)(es:List Expr)(t:TA):Prop:=
 ∀(pos:Pos) (pins:List (Addr×Obj)) (s:LB) (σ:St) (H:Hp) (Q:List V->Hp->Prop),Inv X pins σ H s->t σ H Q->wpAny (model X.prog X.w) X.A (spliced (backTo pos (LP es X.env))) (AP X pins σ Q) X.xe s
def PS (X:Cx)(st:Stmt)(t:TS):Prop:=
 ∀(pins:List (Addr×Obj)) (s:LB) (σ:St) (H:Hp) (D:uC),Inv X pins σ H s->t D σ H->wpAny (model X.prog X.w) X.A (exec st X.env) (SP X pins D) X.xe s
def PSs (X:Cx)(st:List Stmt)(t:TS):Prop:=
 ∀(pins:List (Addr×Obj)) (s:LB) (σ:St) (H:Hp) (D:uC),Inv X pins σ H s->t D σ H->wpAny (model X.prog X.w) X.A (execs st X.env) (SP X pins D) X.xe s
theorem cE {α:Type}{t:Sem α}{Q Q':α->LB->Prop}{M:TQ}{A:Mh}{E:Ly->LB->Prop}{s:LB}(h:wpAny M A t Q E s)(hQ:∀a s,Q a s->Q' a s):wpAny M A t Q' E s:=Nh h hQ λ_ _ x=>x
section
variable {X:Cx}
def oC (i:Nat):TE:=λσ H Q=> ∃v,σ[i]? =some (some v)/\Q v H
def tC (v:V):TE:=λ_ H Q=>Q v H
theorem iu {i:Nat}{x:Str}{pos:Pos}(hN:X.N[i]? =some x)(hv:sd X.env.scope x)(hd:gE x:=by decide)(hcd:(x == ("__classdict__" : Str))=false:=by decide):PE X (.Name x pos) (oC i):=by
 intro pins s σ H Q I h;obtain⟨v,e,h⟩:=h;obtain⟨m,hn,hl⟩:=I.loc;obtain⟨u,r,l⟩:=hl i x v hN e hv
 have fin:EP X pins σ Q u s:=⟨v,H,I,r,h⟩;rcases l with⟨hk,hm⟩ | ⟨hk,c,hc,hcell⟩
 ·exact wpAny_Name (wpAny_loadName_local I.ok.kind hk hn hm fin) hd
 ·rcases hk with hk | hk
  ·exact wpAny_Name (wpAny_loadName_cell I.ok.kind hk hc hcell fin) hd
  ·exact wpAny_Name (wpAny_loadName_free I.ok.kind hk hc hcell fin hcd) hd
theorem Bb {i j pos}:PE X (.Constant (.int i) j pos) (tC (.int i)):=λ_ _ _ H _ I h=>wpAny_Constant_int ⟨.int i,H,I.tok _,⟨_,rfl⟩,h⟩
theorem Bg {b j pos}:PE X (.Constant (.bool b) j pos) (tC (.bl b)):=λ_ _ _ H _ I h=>Constant_bool ⟨.bl b,H,I,rfl,h⟩
theorem Ba {j pos}:PE X (.Constant .none j pos) (tC .non):=λ_ _ _ H _ I h=>Constant_none ⟨.non,H,I,rfl,h⟩
theorem A8 {x j pos}:PE X (.Constant (.str x) j pos) (tC (.str x)):=λ_ _ _ H _ I h=>RJ ⟨.str x,H,I.tok _,⟨_,rfl⟩,h⟩
def Gl (X:Cx)(x:Str):Prop:=X.env.kindOf x=some .globalImplicit
theorem i7 {E:Ly->LB->Prop}{pins:List (Addr×Obj)}{s:LB}{σ:St}{H:Hp}{x:Str}{u:Ly}{pos:Pos}{Q:Ly->LB->Prop}(I:Inv X pins σ H s)(hg:Gl X x)(hm:X.mg x=some u)(h:Q u s)
  (hd:gE x:=by decide):wpAny (model X.prog X.w) X.A (eval (.Name x pos) X.env) Q E s:=
 P3 I.ok.kind hg (Calls.loadGlobal_global (by rw[I.ok.glob];exact I.mod.glob.keeps I.bk) hm h) hd
theorem gm {E:Ly->LB->Prop}{pins:List (Addr×Obj)}{s:LB}{σ:St}{H:Hp}{x:Str}{u:Ly}{pos:Pos}{Q:Ly->LB->Prop}(I:Inv X pins σ H s)(hg:Gl X x)(hm:X.mg x=none)(hv:Mg x=some u)(h:Q u s)
  (hn:x≠ "__name__":=by decide) (hd:gE x:=by decide):wpAny (model X.prog X.w) X.A (eval (.Name x pos) X.env) Q E s:=by
 obtain⟨mb,h1,h2⟩:=I.mod.blt;exact P3 I.ok.kind hg (Calls.loadGlobal_builtin (by rw[I.ok.glob];exact I.mod.glob.keeps I.bk) hm (by rw[I.ok.blt];exact h1.keeps I.bk) ((h2 x hn).trans hv) h) hd
theorem sW {x:Str}{v:V}{u:Ly}{pos:Pos}(hg:Gl X x)(hm:X.mg x=some u)(r:RelV v u)(hd:gE x:=by decide):PE X (.Name x pos) (tC v):=
 λ_ _ _ H _ I h=>i7 I hg hm ⟨v,H,I,r,h⟩ hd
theorem yd {x:Str}{v:V}{u:Ly}{pos:Pos}(hg:Gl X x)(hm:X.mg x=none)(hv:Mg x=some u)(r:RelV v u)(hn:x≠ "__name__":=by decide)(hd:gE x:=by decide):PE X (.Name x pos) (tC v):=
 λ_ _ _ H _ I h=>gm I hg hm hv ⟨v,H,I,r,h⟩ hn hd
variable {a b:Expr}{ta tb:TE}{pos:Pos}
def tB (t:TE):TT:=λσ H Q=>t σ H λx H1=> ∃c,x= .bl c/\Q c H1
theorem A1 {e:Expr}{t:TE}(h:PE X e t)(he:∀whole,isTrue e X.env whole=(do let v <-whole;standAt e.pos;holding [v] (truthy v)):=by intro _;rfl):PT X e (tB t):=by
 intro pins s σ H Q I hw;refine isTrue_plain (cE (h pins s σ H _ I hw) λv s1 ⟨x,H1,I1,r1,q1⟩=> ?_) (he _)
 obtain⟨d,rfl,q⟩:=q1;cases r1;exact MO ⟨H1,I1,q⟩
variable {tA tB':TT}{dk:List Expr}
def tAnd (t u:TT):TT:=λσ H Q=>t σ H λc H1=>if c=true then u σ H1 Q else Q false H1
def tOr (t u:TT):TT:=λσ H Q=>t σ H λc H1=>if c=true then Q true H1 else u σ H1 Q
def tNot (t:TT):TT:=λσ H Q=>t σ H λc H1=>Q (!c) H1
theorem DH (ha:PT X a tA):PW X (.BoolOp .And [a] pos) tA:=by
 intro wh pins s σ H Q I h;refine isTrue_and (cE (ha pins s σ H Q I h) λc s1 e=> ?_)
 cases c with
 | true=>exact isTrue_and_nil e
 | false=>exact e
theorem AZ (ha:PT X a tA):PW X (.BoolOp .Or [a] pos) tA:=by
 intro wh pins s σ H Q I h;refine isTrue_or (cE (ha pins s σ H Q I h) λc s1 e=> ?_)
 cases c with
 | false=>exact isTrue_or_nil e
 | true=>exact e
theorem GH (ha:PT X a tA)(hb:PW X (.BoolOp .And (b::dk) pos) tB'):PW X (.BoolOp .And (a::b::dk) pos) (tAnd tA tB'):=by
 intro wh pins s σ H Q I h;refine isTrue_and (cE (ha pins s σ H _ I h) λc s1 hh_=> ?_)
 obtain⟨H1,I1,q1⟩:=hh_
 cases c with
 | true=>exact hb wh pins s1 σ H1 Q I1 q1
 | false=>exact⟨H1,I1,q1⟩
theorem Fm (ha:PT X a tA)(hb:PW X (.BoolOp .Or (b::dk) pos) tB'):PW X (.BoolOp .Or (a::b::dk) pos) (tOr tA tB'):=by
 intro wh pins s σ H Q I h;refine isTrue_or (cE (ha pins s σ H _ I h) λc s1 hh_=> ?_)
 obtain⟨H1,I1,q1⟩:=hh_
 cases c with
 | true=>exact⟨H1,I1,q1⟩
 | false=>exact hb wh pins s1 σ H1 Q I1 q1
theorem A2 (ha:PT X a tA):PT X (.UnaryOp .Not a pos) (tNot tA):=by
 intro pins s σ H Q I h;exact isTrue_not (ha pins s σ H (λc H1=>Q (!c) H1) I h)
def Iw (ta tb:TE):TE:=λσ H Q=>ta σ H λx H1=> ∃c,x= .bl c/\if c=true then tb σ H1 Q else Q (.bl false) H1
def tOrV (ta tb:TE):TE:=λσ H Q=>ta σ H λx H1=> ∃c,x= .bl c/\if c=true then Q (.bl true) H1 else tb σ H1 Q
def Io (ta:TE):TE:=λσ H Q=>ta σ H λx H1=> ∃c,x= .bl c/\Q (.bl (!c)) H1
theorem GO {op}{t:TE}(h:PE X a t):PE X (.BoolOp op [a] pos) t:=λpins s σ H Q I hw=>BoolOp_one (h pins s σ H Q I hw)
theorem GR (ha:PE X a ta)(hb:PE X (.BoolOp .And (b::dk) pos) tb):PE X (.BoolOp .And (a::b::dk) pos) (Iw ta tb):=by
 intro pins s σ H Q I h;refine BoolOp_and (cE (ha pins s σ H _ I h) λv s1 hh_=> ?_)
 obtain⟨x,H1,I1,r1,q1⟩:=hh_;obtain⟨c,rfl,q1⟩:=q1;cases r1;refine MO ?_
 cases c with
 | true=>exact hb pins s1 σ H1 Q I1 q1
 | false=>exact⟨.bl false,H1,I1,rfl,q1⟩
theorem Ji (ha:PE X a ta)(hb:PE X (.BoolOp .Or (b::dk) pos) tb):PE X (.BoolOp .Or (a::b::dk) pos) (tOrV ta tb):=by
 intro pins s σ H Q I h;refine BoolOp_or (cE (ha pins s σ H _ I h) λv s1 hh_=> ?_)
 obtain⟨x,H1,I1,r1,q1⟩:=hh_;obtain⟨c,rfl,q1⟩:=q1;cases r1;refine MO ?_
 cases c with
 | false=>exact hb pins s1 σ H1 Q I1 q1
 | true=>exact⟨.bl true,H1,I1,rfl,q1⟩
theorem GP (ha:PE X a ta):PE X (.UnaryOp .Not a pos) (Io ta):=by
 intro pins s σ H Q I h;refine UnaryOp_ (cE (ha pins s σ H _ I h) λv s1 hh_=> ?_)
 obtain⟨x,H1,I1,r1,q1⟩:=hh_;obtain⟨c,rfl,q1⟩:=q1;cases r1;exact not_of (MO ⟨.bl (!c),H1,I1,rfl,q1⟩)
def tIf (t:TT)(ta tb:TE):TE:=λσ H Q=>t σ H λc H1=>if c=true then ta σ H1 Q else tb σ H1 Q
theorem Bc {c:Expr}(hc:PT X c tA)(ha:PE X a ta)(hb:PE X b tb):PE X (.IfExp c a b pos) (tIf tA ta tb):=by
 intro pins s σ H Q I h;refine wpAny_IfExp (cE (hc pins s σ H _ I h) λd s1 hh_=> ?_)
 obtain⟨H1,I1,q1⟩:=hh_
 cases d with
 | true=>exact ha pins s1 σ H1 Q I1 q1
 | false=>exact hb pins s1 σ H1 Q I1 q1
end
def SqL (K:Lu)(H:Hp)(a:Addr)(xs:List V):Prop:=
 Rd H a (.lst xs) ∨
  ∃(o:Obj) (its:Array Ly) (n:Nat),K.lookup a=some o/\o.cls= .type "list"/\o.dict=none/\o.data= .seq its n/\its.size<=sizeLine/\Vals xs its.toList
def SqT (K:Lu)(H:Hp)(a:Addr)(xs:List V):Prop:=
 Rd H a (.tup xs) ∨
  ∃(o:Obj) (its:Array Ly) (n:Nat),K.lookup a=some o/\o.cls= .type "tuple"/\o.data= .seq its n/\its.size<=sizeLine/\Vals xs its.toList
def absV:Ly->Option V
 | .none=>some .non
 | .bool b=>some (.bl b)
 | .int i _=>some (.int i)
 | .str x _=>some (.str x)
 | .bytes b _=>some (.byt b)
 | .float b _=>some (.flt b)
 | .ref a=>some (.ref a)
 | .type n=>some (.ty n)
 | _=>none
theorem RelV.abs {x:V}{u:Ly}(r:RelV x u):absV u=some x:=by
 cases x with
 | non=>cases r;rfl
 | bl _=>cases r;rfl
 | int _=>obtain⟨t,rfl⟩:=r;rfl
 | str _=>obtain⟨t,rfl⟩:=r;rfl
 | byt _=>obtain⟨t,rfl⟩:=r;rfl
 | flt _=>obtain⟨t,rfl⟩:=r;rfl
 | ref _=>cases r;rfl
 | ty _=>cases r;rfl
theorem RelV.inj {x y:V}{u:Ly}(r:RelV x u)(q:RelV y u):x=y:=Me (r.abs.symm.trans q.abs)
theorem Vals.inj:∀{xs ys:List V} {us:List Ly},Vals xs us->Vals ys us->xs=ys
 | _,_,_,.nil,.nil=>rfl
 | _,_,_,.cons r t,.cons r' t'=>by rw[r.inj r',Vals.inj t t']
section
variable {X:Cx}{pins:List (Addr×Obj)}{σ:St}{H:Hp}{s:LB}{a:Addr}{xs ys:List V}
theorem SqL.of {K:Lu}(h:H a=some (.lst xs)):SqL K H a xs:=.inl (.inl h)
theorem SqT.of {K:Lu}(h:H a=some (.tup xs)):SqT K H a xs:=.inl (.inl h)
theorem Inv.list (I:Inv X pins σ H s)(h:SqL X.K H a xs):∃its:List Ly,Vals xs its/\PlainL s.heap a its.toArray/\xs.length<=sizeLine:=by
 rcases h with h | ⟨o,its,n,hk,hc,hd,hs,hz,r⟩
 ·obtain⟨z,its,n,r,e⟩:=h.ok I.hok
  exact⟨its,r,⟨_,n,e,rfl,rfl,rfl⟩,z⟩
 ·refine⟨its.toList,r,⟨o,n,I.kIn a o hk,hc,hd,by simpa using hs⟩,?_⟩
  have e:=r.length;simp only[NC]at e;omega
theorem Inv.tuple (I:Inv X pins σ H s)(h:SqT X.K H a xs):∃its:List Ly,Vals xs its/\TV s.heap a its.toArray/\xs.length<=sizeLine:=by
 rcases h with h | ⟨o,its,n,hk,hc,hs,hz,r⟩
 ·obtain⟨z,its,r,p⟩:=h.ok I.hok
  exact⟨its,r,p,z⟩
 ·refine⟨its.toList,r,⟨o,I.kIn a o hk,hc,n,by simpa using hs⟩,?_⟩
  have e:=r.length;simp only[NC]at e;omega
theorem Inv.KA (I:Inv X pins σ H s)(h:SqL X.K H a xs)(h':SqL X.K H a ys):xs=ys:=by
 obtain⟨its,r,⟨o,n,e,_,_,d⟩,_⟩:=I.list h;obtain⟨its',r',⟨o',n',e',_,_,d'⟩,_⟩:=I.list h';rw[e]at e';cases e';rw[d]at d';injection d' with d1 _
 have:its=its':=by simpa using congrArg QY d1
 subst this;exact r.inj r'
theorem Inv.Kw (I:Inv X pins σ H s)(h:SqT X.K H a xs)(h':SqT X.K H a ys):xs=ys:=by
 obtain⟨its,r,⟨o,e,_,n,d⟩,_⟩:=I.tuple h;obtain⟨its',r',⟨o',e',_,n',d'⟩,_⟩:=I.tuple h';rw[e]at e';cases e';rw[d]at d';injection d' with d1 _
 have:its=its':=by simpa using congrArg QY d1
 subst this;exact r.inj r'
end
abbrev Cx.FB (X:Cx)(E:Ly->LB->Prop):Cx:={ X with xe:=E }
abbrev Cx.nox (X:Cx):Cx:=X.FB λ_ _=>False
theorem Cx.Ok.FB {X:Cx}(ok:X.Ok)(E:Ly->LB->Prop):(X.FB E).Ok:=
 ⟨ok.mod,ok.kind,ok.glob,ok.blt,ok.above,ok.inj,ok.has,ok.cab,ok.hd,ok.frames,ok.stk,ok.exf,ok.bs,ok.bsz,ok.noex,ok.exfs,ok.funs,ok.frf⟩
theorem Cx.Ok.GT {X:Cx}{E:Ly->LB->Prop}(ok:(X.FB E).Ok):X.Ok:=
 ⟨ok.mod,ok.kind,ok.glob,ok.blt,ok.above,ok.inj,ok.has,ok.cab,ok.hd,ok.frames,ok.stk,ok.exf,ok.bs,ok.bsz,ok.noex,ok.exfs,ok.funs,ok.frf⟩
section
variable {X:Cx}{pins:List (Addr×Obj)}{σ:St}{H:Hp}{s:LB}{E:Ly->LB->Prop}
theorem Inv.FB (I:Inv X pins σ H s)(E:Ly->LB->Prop):Inv (X.FB E) pins σ H s:=⟨I.ok.FB E,I.os,I.bare,I.base,I.loc,I.cell,I.free,I.freeC,I.pin,I.hok,I.len⟩
theorem Inv.GT (I:Inv (X.FB E) pins σ H s):Inv X pins σ H s:=⟨I.ok.GT,I.os,I.bare,I.base,I.loc,I.cell,I.free,I.freeC,I.pin,I.hok,I.len⟩
theorem SP.GT {D:uC}{f:Flow}{s':LB}(h:SP (X.FB E) pins D f s'):SP X pins D f s':=by
 cases f with
 | next=>obtain⟨σ',H',I,q⟩:=h;exact⟨σ',H',I.GT,q⟩
 | brk=>obtain⟨σ',H',I,q⟩:=h;exact⟨σ',H',I.GT,q⟩
 | cont=>obtain⟨σ',H',I,q⟩:=h;exact⟨σ',H',I.GT,q⟩
 | ret u=>obtain⟨v,σ',H',I,r,q⟩:=h;exact⟨v,σ',H',I.GT,r,q⟩
theorem PSs.nox {st:List Stmt}{t:TS}(h:PSs X.nox st t):PSs X st t:=λpins s σ H D I hw=>
 Nh (h pins s σ H D (I.FB _) hw) (λ_ _ q=>q.GT) λ_ _ z=>Og z
end
section
variable {X:Cx}{st:Stmt}{dk:List Stmt}{t u:TS}{e:Expr}{te:TE}{pos:Pos}
def Ip:TS:=λD σ H=>D.nx σ H
def tSeq (t u:TS):TS:=λD σ H=>t { D with nx:=u D } σ H
theorem x5:PSs X [] Ip:=λ_ _ σ H _ I h=>OZ ⟨σ,H,I,h⟩
theorem lM (h1:PS X st t)(h2:PSs X dk u):PSs X (st::dk) (tSeq t u):=by
 intro pins s σ H D I h;refine S2 (cE (h1 pins s σ H { D with nx:=u D } I h) λf s1 q=> ?_)
 cases f with
 | next=>
  obtain⟨σ',H',I',q⟩:=q
  exact h2 pins s1 σ' H' D I' q
 | ret v=>exact q
 | brk=>exact q
 | cont=>exact q
theorem gD (h1:PS X st t):PSs X [st] t:=by
 intro pins s σ H D I h;refine S2 (cE (h1 pins s σ H D I h) λf s1 q=> ?_)
 cases f with
 | next=>exact OZ q
 | ret v=>exact q
 | brk=>exact q
 | cont=>exact q
def Iv:TS:=λD σ H=>D.ct σ H
theorem vg:PS X (.Continue pos) Iv:=λ_ _ σ H _ I h=>wpAny_Continue ⟨σ,H,I,h⟩
theorem Inv.quiet {pins:List (Addr×Obj)}{σ:St}{H:Hp}{s:LB}(I:Inv X pins σ H s):interactive X.env=false:=by simp[interactive,I.ok.kind]
def Ir (te:TE):TS:=λD σ H=>te σ H λ_ H1=>D.nx σ H1
theorem nX (he:PE X e te)(hs:MK e none pos.line X.env=pure false:=by rfl):PS X (.Expr e pos) (Ir te):=by
 intro pins s σ H D I h;exact wpAny_Expr_any (cE (he pins s σ H _ I h) λv s1 ⟨x,H1,I1,r1,q1⟩=>⟨σ,H1,I1,q1⟩) I.quiet hs
def tRet (te:TE):TS:=λD σ H=>te σ H D.rt
theorem jI (he:PE X e te):PS X (.Return (some e) pos) (tRet te):=by
 intro pins s σ H D I h;exact wpAny_Return_some (cE (he pins s σ H _ I h) λv s1 ⟨x,H1,I1,r1,q1⟩=>⟨x,σ,H1,I1,r1,q1⟩)
def tIfS (c:TT)(t u:TS):TS:=λD σ H=>c σ H λb H1=>if b=true then t D σ H1 else u D σ H1
theorem Fo {c:Expr}{a b:List Stmt}{tc:TT}(hc:PT X c tc)(ha:PSs X a t)(hb:PSs X b u):PS X (.If c a b pos) (tIfS tc t u):=by
 intro pins s σ H D I h;refine wpAny_If (cE (hc pins s σ H _ I h) λd s1 hh_=> ?_)
 obtain⟨H1,I1,q1⟩:=hh_
 cases d with
 | true=>exact ha pins s1 σ H1 D I1 q1
 | false=>exact hb pins s1 σ H1 D I1 q1
def FQ:TS:=λ_ _ _=>False
theorem A4:PS X st FQ:=λ_ _ _ _ _ _ h=>h.elim
end
abbrev TG:=V->St->Hp->(St->Hp->Prop)->Prop
abbrev EL:=List V->St->Hp->(St->Hp->Prop)->Prop
def PG (X:Cx)(target:Expr)(t:TG):Prop:=
 ∀(pins:List (Addr×Obj)) (s:LB) (σ:St) (H:Hp) (v:V) (u:Ly) (Q:St->Hp->Prop),Inv X pins σ H s->RelV v u->t v σ H Q →
  wpAny (model X.prog X.w) X.A (assign target X.env u) (λ_ s'=> ∃σ' H',Inv X pins σ' H' s'/\Q σ' H') X.xe s
def PGs (X:Cx)(ts:List Expr)(t:EL):Prop:=
 ∀(pins:List (Addr×Obj)) (s:LB) (σ:St) (H:Hp) (vs:List V) (us:List Ly) (Q:St->Hp->Prop),Inv X pins σ H s->Vals vs us->t vs σ H Q →
  wpAny (model X.prog X.w) X.A (assignInOrder ((Ni ts X.env).map (·.2)) us) (λ_ s'=> ∃σ' H',Inv X pins σ' H' s'/\Q σ' H') X.xe s
section
variable {X:Cx}{pos:Pos}
def B6 (i:Nat):TG:=λv σ H Q=>Q (σ.set i (some v)) H
theorem DS {i:Nat}{x:Str}(hN:X.N.Nodup)(hi:X.N[i]? =some x)(hx:Loc X.env.scope x)(hf:X.fn x=true\/X.env.scope.names.lookup x=some .local:=by first | exact .inl rfl | exact .inr rfl | assumption):PG X (.Name x pos) (B6 i):=by
 intro pins s σ H v u Q I r h;exact Sq (oE I hN hi hx r (λs' I'=>⟨_,H,I',h⟩) hf)
def gNil:EL:=λvs σ H Q=>vs= []/\Q σ H
def JT (t:TG)(u:EL):EL:=λvs σ H Q=> ∃v r,vs=v::r/\t v σ H λσ' H'=>u r σ' H' Q
theorem DQ:PGs X [] gNil:=by
 intro pins s σ H vs us Q I r h;obtain⟨e,h⟩:=h;subst e;cases r;exact assignInOrder_nil ⟨σ,H,I,h⟩
theorem A7 {e:Expr}{es:List Expr}{t:TG}{u:EL}(h1:PG X e t)(h2:PGs X es u)
  (hs:(Ni (e::es) X.env).map (·.2)=assign e X.env::(Ni es X.env).map (·.2):=by rfl):PGs X (e::es) (JT t u):=by
 intro pins s σ H vs us Q I r h;obtain⟨v,vr,e1,h⟩:=h;subst e1
 cases r with
 | cons r rr=>
  rw[hs];refine assignInOrder_cons (cE (h1 pins s σ H _ _ _ I r h) λ_ s1 hh_=> ?_)
  obtain⟨σ1,H1,I1,q1⟩:=hh_;exact h2 pins s1 σ1 H1 _ _ Q I1 rr q1
def gTup (K:Lu)(n:Nat)(t:EL):TG:=λv σ H Q=> ∃a xs,v= .ref a/\SqT K H a xs/\xs.length=n/\t xs σ H Q
theorem GL {es:List Expr}{k:Nat}{t:EL}{n:Nat}(hc:X.calm=true)(h:PGs X es t)
  (hn:(Ni es X.env).length=n:=by rfl) (hst:(Ni es X.env).findIdx? (·.1)=none:=by rfl):PG X (.Tuple es k pos) (gTup X.K n t):=by
 intro pins s σ H v u Q I r hw;obtain⟨a,xs,e1,hq,hl,hw⟩:=hw;subst e1;cases r;obtain⟨its,rv,ht,hz⟩:=I.tuple hq;refine assign_Tuple_tuple (I.ok.hd hc) ht (by simp[hn,<-hl,rv.length]) hst λh' hx=> ?_
 have I1:Inv X pins σ H { s with heap:=h' }:=I.kept (t':=s.toks) λb o e=>hx b o (Mr (LO e)) e
 exact h pins _ σ H xs _ Q I1 (by simpa using rv) hw
def Ay (te:TE)(g:TG):TS:=λD σ H=>te σ H λx H1=>g x σ H1 D.nx
theorem GI {tg e:Expr}{te:TE}{g:TG}(he:PE X e te)(hg:PG X tg g)(hs:RY [tg] e pos.line X.env=pure false:=by rfl)(hw:RZ [tg] e X.env=pure none:=by rfl)
  (h1:(Ni [tg] X.env).map (·.2)= [assign tg X.env]:=by rfl):PS X (.Assign [tg] e pos) (Ay te g):=by
 intro pins s σ H D I h;refine wpAny_Assign_stores (cE (he pins s σ H _ I h) λv s1 ⟨x,H1,I1,r1,q1⟩=> ?_) hs hw
 rw[h1];exact cE (hg pins s1 σ H1 x v _ I1 r1 q1) λ_ s2 q=>q
theorem oU {i:Nat}{x:Str}{e:Expr}{te:TE}{pos':Pos}(hN:X.N.Nodup)(hi:X.N[i]? =some x)(hx:Loc X.env.scope x)(he:PE X e te)(hs:MK e (some (.Name x pos')) pos.line X.env=pure false:=by rfl)(hf:X.fn x=true\/X.env.scope.names.lookup x=some .local:=by first | exact .inl rfl | exact .inr rfl | assumption) :
  PS X (.Assign [.Name x pos'] e pos) (Ay te (B6 i)):=by
 intro pins s σ H D I h;refine wpAny_Assign_Name (cE (he pins s σ H _ I h) λv s1 ⟨y,H1,I1,r1,q1⟩=> ?_) hs
 exact oE I1 hN hi hx r1 (λs2 I2=>⟨_,H1,I2,q1⟩) hf
end
section
variable {X:Cx}{pos:Pos}
def wI (c:TT)(tb:TS):TS:=λD σ H=> ∃W:Nat->St->Hp->Prop,(∃m,W m σ H)/\∀m σ H,W m σ H →
 c σ H λb H1=>if b=true then ∃N:St->Hp->Prop,(∀σ' H',N σ' H'->∃m',m'<m/\W m' σ' H')/\tb { D with nx:=N,ct:=N,bk:=D.nx } σ H1 else D.nx σ H1
theorem A3 {c:Expr}{body:List Stmt}{tc:TT}{tb:TS}(hp:PassesOwn (model X.prog X.w) X.A X.env X.xe)(hc:PT X c tc)(hb:PSs X body tb):PS X (.While c body [] pos) (wI tc tb):=by
 intro pins s σ H D I h;obtain⟨W,⟨m0,w0⟩,turn⟩:=h;refine wpAny_While (codeAny_whileLoop (λn s'=> ∃σ' H',Inv X pins σ' H' s'/\W n σ' H') ?_ m0 ⟨σ,H,I,w0⟩)
 rintro n s1 ⟨σ1,H1,I1,w1⟩
 refine TB hp (cE (hc pins s1 σ1 H1 _ I1 (turn n σ1 H1 w1)) λb s2 hh_=> ?_)
 obtain⟨H2,I2,q2⟩:=hh_
 cases b with
 | true=>
  obtain⟨N,hN,q2⟩:=q2;rw[if_pos rfl];refine TB hp (cE (hb pins s2 σ1 H2 _ I2 q2) λf s3 q3=> ?_)
  cases f with
  | next=>
   obtain⟨σ3,H3,I3,n3⟩:=q3;obtain⟨m',hm,w3⟩:=hN σ3 H3 n3
   exact⟨m',hm,σ3,H3,I3,w3⟩
  | cont=>
   obtain⟨σ3,H3,I3,n3⟩:=q3;obtain⟨m',hm,w3⟩:=hN σ3 H3 n3
   exact⟨m',hm,σ3,H3,I3,w3⟩
  | brk=>exact q3
  | ret v=>exact q3
 | false=>
  rw[if_neg LX];exact OZ ⟨σ1,H2,I2,q2⟩
end
structure It where
 go:Nat->Hp->Prop
 yld:Nat->Hp->V->Hp->Prop
 stop:Nat->Hp->Prop
def nU (X:Cx)(pins:List (Addr×Obj))(H:Hp)(b:Addr):Prop:=
 H b=none/\b≠X.env.locals/\b∉X.fs/\(b∈X.ex\/X.s₀.heap.objs.size<=b)/\(∀x c,X.env.cells.lookup x=some c->c≠b)/\∀p∈X.pn++pins,p.1≠b
theorem Inv.KI {X:Cx}{pins:List (Addr×Obj)}{σ:St}{H H':Hp}{s:LB}{b:Addr}(I:Inv X pins σ H s)(hb:s.heap.objs.size<=b)(hn:H' b=none):nU X pins H' b:=by
 refine⟨hn,N1 (LJ I.lt hb),I.Ls hb,.inr (Md I.sz hb),λx c e z=> ?_,λp hp z=> ?_⟩
 ·obtain⟨v,q⟩:=I.cell x c e
  exact absurd (LJ q.lt (by rw[z];exact hb)) (L6 _)
 ·exact absurd (LJ (LO (I.pin p hp).1) (by rw[z];exact hb)) (L6 _)
structure Aa (P:L1)(w:MG)(K:Lu)(tg:Expr)(J:It)(fp:List Addr)(it:Addr)(tn:Nat->Heap->Prop):Prop where
 mem:it∈fp
 obj:∀i h,tn i h->∀b∈fp,∃o,h.get? b=some o/\∀v,o.data≠ .cell v
 keep:∀i h h',tn i h->(∀b∈fp,∀o,h.get? b=some o->h'.get? b=some o)->tn i h'
 item:∀(X:Cx),X.prog=P->X.w=w->X.K=K->X.calm=true->∀(i:Nat) (pins:List (Addr×Obj)) (s:LB) (σ:St) (H:Hp) (E:Ly->LB->Prop),Inv X pins σ H s->(∀b∈fp,nU X pins H b)->tn i s.heap->J.go i H →
  wpAny (model P w) X.A (pyNext (.ref it)) (λr s1=> ∃u,r=some u ∧
   wpAny (model P w) X.A (O0 tg (.ref it) u) (λ_ s2=> ∃x H',Inv X pins σ H' s2/\RelV x u/\J.yld i H x H'/\tn (i+1) s2.heap/\∀b∈fp,H' b=none) E s1) E s
 done:∀(X:Cx),X.prog=P->X.w=w->X.K=K->X.calm=true->∀(i:Nat) (pins:List (Addr×Obj)) (s:LB) (σ:St) (H:Hp) (E:Ly->LB->Prop),Inv X pins σ H s->(∀b∈fp,nU X pins H b)->tn i s.heap->J.stop i H →
  wpAny (model P w) X.A (pyNext (.ref it)) (λr s1=>r=none/\Inv X pins σ H s1) E s
 self:∀(A:Mh) (i:Nat) (s:LB) (Q:Ly->LB->Prop) (E:Ly->LB->Prop),tn i s.heap->Q (.ref it) s->wpAny (model P w) A (pyIter (.ref it)) Q E s
abbrev TI:=St->Hp->(It->Hp->Prop)->Prop
def PIE (X:Cx)(pins:List (Addr×Obj))(σ:St)(tg:Expr)(R:It->Hp->Prop)(itv:Ly)(s2:LB):Prop:=
 ∃(it:Addr) (fp:List Addr) (tn:Nat->Heap->Prop) (J:It) (H':Hp),itv= .ref it/\Inv X pins σ H' s2/\Aa X.prog X.w X.K tg J fp it tn/\tn 0 s2.heap/\(∀b∈fp,nU X pins H' b)/\R J H'
def PI (X:Cx)(tg iter:Expr)(wi:TI):Prop:=
 ∀(pins:List (Addr×Obj)) (s:LB) (σ:St) (H:Hp) (R:It->Hp->Prop),Inv X pins σ H s->wi σ H R →
  wpAny (model X.prog X.w) X.A (eval iter X.env) (λv s1=>wpAny (model X.prog X.w) X.A (pyIter v) (PIE X pins σ tg R) X.xe s1) X.xe s
theorem B4 {M:TQ}{A:Mh}{E:Ly->LB->Prop}{s:LB}{tg:Expr}{it:Addr}{u:Ly}{o:Obj}{n:String}{vs:Array Ly}{Q:Unit->LB->Prop}(ho:s.heap.get? it=some o)(hc:o.cls= .type n)(hd:o.data= .fields vs)
  (hn:["enumerate","zip","dict_itemiterator","dict_reverseitemiterator","odict_iterator","itertools.zip_longest","itertools.pairwise"].contains n=false) (hQ:Q () s):wpAny M A (O0 tg (.ref it) u) Q E s:=by
 unfold O0
 cases tg <;> first
  | exact LI hQ
  | (cases u <;> first
    | exact LI hQ
    | (refine Lv (wpAny_load ho ?_)
       rw[hc,hd]
       show wpAny M A (if (["enumerate","zip","dict_itemiterator","dict_reverseitemiterator","odict_iterator","itertools.zip_longest","itertools.pairwise"].contains n&&vs[0]? == some (rawInt _))=true then _ else _) Q E s
       rw[if_neg (by intro h;rw[hn,Bool.false_and]at h;cases h)]
       exact LI hQ))
def Itl (K:Lu)(a:Addr):It:=
 ⟨λi H=> ∃xs x,SqL K H a xs/\xs[i]? =some x,λi H x H'=>H'=H/\∀xs,SqL K H a xs->xs[i]? =some x,λi H=> ∃xs,SqL K H a xs/\xs.length<=i⟩
def Itt (K:Lu)(a:Addr):It:=
 ⟨λi H=> ∃xs x,SqT K H a xs/\xs[i]? =some x,λi H x H'=>H'=H/\∀xs,SqT K H a xs->xs[i]? =some x,λi H=> ∃xs,SqT K H a xs/\xs.length<=i⟩
def Itr (lo:Int)(n:Nat):It:=⟨λi _=>i<n,λi H x H'=>H'=H/\x= .int (lo+i),λi _=>n<=i⟩
theorem za {P:L1}{w:MG}{K:Lu}{tg:Expr}(a it:Addr):Aa P w K tg (Itl K a) [it] it (λi h=>h.IsListIter it a i) where
 mem:=by simp
 obj:=λi h st b hb=>by
  have e:b=it:=by simpa using hb
  subst e;obtain⟨o,e,c,d⟩:=st;exact⟨o,e,λv z=>by rw[d]at z;cases z⟩
 keep:=λi h h' st k=>st.at λo e=>k it (by simp) o e
 item:=by
  intro X hP hw hK hc i pins s σ H E I hf st hg;subst hP hw hK;obtain⟨xs,x,hq,hx⟩:=hg;obtain⟨its,rv,p,hz⟩:=I.list hq;obtain⟨u,hu,ru⟩:=rv.get hx;obtain⟨f0,f1,f2,f3,f4,f5⟩:=hf it (by simp)
  refine QN st p.isList (x:=u) (by simpa using hu) λh' st' sb=> ?_
  have I1:Inv X pins σ H { s with heap:=h' }:=I.turned (t':=s.toks) (λb o hb e=>(sb.2 b hb).trans e) f0 f1 f3 f4 f5
  obtain⟨o,e,c,d⟩:=id st';exact⟨u,rfl,B4 (s:={ s with heap:=h' }) e c d (by decide) ⟨x,H,I1,ru,⟨rfl,λys hy=>by rw[I.KA hy hq];exact hx⟩,st',λb hb=>(hf b hb).1⟩⟩
 done:=by
  intro X hP hw hK hc i pins s σ H E I hf st hg;subst hP hw hK;obtain⟨xs,hq,hx⟩:=hg;obtain⟨its,rv,p,hz⟩:=I.list hq;obtain⟨f0,f1,f2,f3,f4,f5⟩:=hf it (by simp)
  have hl:=rv.length;exact Q9 (I.ok.hd hc) st p.isList (by simp;omega) λh' eb=>⟨rfl,I.turned (t':=s.toks) (λb o hb e=>eb b o hb e) f0 f1 f3 f4 f5⟩
 self:=λ_ _ _ _ _ st h=>wpAny_pyIter_listiter st h
theorem wG {P:L1}{w:MG}{K:Lu}{tg:Expr}(a it:Addr):Aa P w K tg (Itt K a) [it] it (λi h=>h.IsTupleIter it a i) where
 mem:=by simp
 obj:=λi h st b hb=>by
  have e:b=it:=by simpa using hb
  subst e;obtain⟨o,e,c,d⟩:=st;exact⟨o,e,λv z=>by rw[d]at z;cases z⟩
 keep:=λi h h' st k=>st.at λo e=>k it (by simp) o e
 item:=by
  intro X hP hw hK hc i pins s σ H E I hf st hg;subst hP hw hK;obtain⟨xs,x,hq,hx⟩:=hg;obtain⟨its,rv,p,hz⟩:=I.tuple hq;obtain⟨u,hu,ru⟩:=rv.get hx;obtain⟨f0,f1,f2,f3,f4,f5⟩:=hf it (by simp)
  refine wpAny_pyNext_tuple_item st (show s.heap.IsTuple a its.toArray from p) (x:=u) (by simpa using hu) λh' st' sb=> ?_
  have I1:Inv X pins σ H { s with heap:=h' }:=I.turned (t':=s.toks) (λb o hb e=>(sb.2 b hb).trans e) f0 f1 f3 f4 f5
  obtain⟨o,e,c,d⟩:=id st';exact⟨u,rfl,B4 (s:={ s with heap:=h' }) e c d (by decide) ⟨x,H,I1,ru,⟨rfl,λys hy=>by rw[I.Kw hy hq];exact hx⟩,st',λb hb=>(hf b hb).1⟩⟩
 done:=by
  intro X hP hw hK hc i pins s σ H E I hf st hg;subst hP hw hK;obtain⟨xs,hq,hx⟩:=hg;obtain⟨its,rv,p,hz⟩:=I.tuple hq;obtain⟨f0,f1,f2,f3,f4,f5⟩:=hf it (by simp)
  have hl:=rv.length;exact wpAny_pyNext_tuple_end (I.ok.hd hc) st (show s.heap.IsTuple a its.toArray from p) (by simp;omega) λh' eb=>⟨rfl,I.turned (t':=s.toks) (λb o hb e=>eb b o hb e) f0 f1 f3 f4 f5⟩
 self:=λ_ _ _ _ _ st h=>wpAny_pyIter_tupleiter st h
theorem wH {P:L1}{w:MG}{K:Lu}{tg:Expr}(it:Addr)(lo:Int)(n:Nat):Aa P w K tg (Itr lo n) [it] it (λi h=>IsRangeIter h it (lo+(i:Nat)*1) ((n:Int) - (i:Nat)) 1) where
 mem:=by simp
 obj:=λi h st b hb=>by
  have e:b=it:=by simpa using hb
  subst e
  exact⟨_,st,λv z=>by
   have z':Tb _=RK v:=z;cases z'⟩
 keep:=λi h h' st k=>k it (by simp) _ st
 item:=by
  intro X hP hw hK hc i pins s σ H E I hf st hg;subst hP hw hK;obtain⟨f0,f1,f2,f3,f4,f5⟩:=hf it (by simp)
  have W:=Walks.range (prog:=X.prog) (w:=X.w) (I.ok.hd hc) it lo 1 n;refine W.item i s _ _ hg st λv h' tk hv st' kk=> ?_
  obtain⟨t,rfl⟩:=hv
  have I1:Inv X pins σ H { s with heap:=h',toks:=tk }:=I.turned (λb o hb e=>kk b o (by simpa using hb) e) f0 f1 f3 f4 f5
  refine⟨_,rfl,B4 (s:={ s with heap:=h',toks:=tk }) (n:="range_iterator") st' rfl rfl (by decide) ⟨.int (lo+i),H,I1,⟨t,?_⟩,⟨rfl,rfl⟩,st',λb hb=>(hf b hb).1⟩⟩
  rw[Int.mul_one]
 done:=by
  intro X hP hw hK hc i pins s σ H E I hf st hg;subst hP hw hK;obtain⟨f0,f1,f2,f3,f4,f5⟩:=hf it (by simp)
  exact wpAny_pyNext_range_end (I.ok.hd hc) st (by have:n<=i:=hg;omega) λh' eb=>⟨rfl,I.turned (t':=s.toks) (λb o hb e=>eb b o hb e) f0 f1 f3 f4 f5⟩
 self:=λ_ _ _ _ _ st h=>wpAny_pyIter_rangeiter st h
section
variable {X:Cx}{tg:Expr}
def JR (K:Lu)(tl:TE):TI:=λσ H R=>tl σ H λx H1=> ∃a,x= .ref a/\(∃xs,SqL K H1 a xs)/\R (Itl K a) H1
def iTup (K:Lu)(tl:TE):TI:=λσ H R=>tl σ H λx H1=> ∃a,x= .ref a/\(∃xs,SqT K H1 a xs)/\R (Itt K a) H1
theorem DO {l:Expr}{tl:TE}(hl:PE X l tl):PI X tg l (JR X.K tl):=by
 intro pins s σ H R I h;refine cE (hl pins s σ H _ I h) λv s1 hh_=> ?_
 obtain⟨x,H1,I1,r1,q1⟩:=hh_;obtain⟨a,e,⟨xs,hq⟩,q⟩:=q1;subst e;cases r1;obtain⟨its,rv,p,hz⟩:=I1.list hq;refine Pg p.isList ?_
 refine⟨s1.heap.objs.size,[s1.heap.objs.size],_,_,H1,rfl,I1.kept (t':=s1.toks) λb o e=>LD _ e,za a _,⟨_,LR _ rfl,rfl,rfl⟩,λb hb=> ?_,q⟩
 have e:b=s1.heap.objs.size:=by simpa using hb
 subst e;exact I1.KI (LL _) (I1.hok.fresh (LL _))
theorem GK {l:Expr}{tl:TE}(hl:PE X l tl):PI X tg l (iTup X.K tl):=by
 intro pins s σ H R I h;refine cE (hl pins s σ H _ I h) λv s1 hh_=> ?_
 obtain⟨x,H1,I1,r1,q1⟩:=hh_;obtain⟨a,e,⟨xs,hq⟩,q⟩:=q1;subst e;cases r1;obtain⟨its,rv,p,hz⟩:=I1.tuple hq;refine Oa (show s1.heap.IsTuple a its.toArray from p) ?_
 refine⟨s1.heap.objs.size,[s1.heap.objs.size],_,_,H1,rfl,I1.kept (t':=s1.toks) λb o e=>LD _ e,wG a _,⟨_,LR _ rfl,rfl,rfl⟩,λb hb=> ?_,q⟩
 have e:b=s1.heap.objs.size:=by simpa using hb
 subst e;exact I1.KI (LL _) (I1.hok.fresh (LL _))
theorem lL {pins:List (Addr×Obj)}{σ:St}{H:Hp}{s:LB}{R:It->Hp->Prop}{E:Ly->LB->Prop}{lo hi:Int}{t u v:Tok}{tk:Nat}(I:Inv X pins σ H s)(h1 : -(2 ^ 62)<=lo)(h2:lo<2 ^ 62)(h3 : -(2 ^ 62)<=hi)(h4:hi<2 ^ 62)
  (q:R (Itr lo (hi - lo).toNat) H):wpAny (model X.prog X.w) X.A (pyIter (.ref s.heap.objs.size)) (PIE X pins σ tg R) E { s with heap:=s.heap.push { cls:=.type "range",data:=.fields #[.int lo t,.int hi u,.int 1 v] },toks:=tk }:=by
 refine wpAny_pyIter_range (IsRange.new ..) (small_one h1 h2 h3 h4) ?_
 have I1:Inv X pins σ H { s with heap:=s.heap.push { cls:=.type "range",data:=.fields #[.int lo t,.int hi u,.int 1 v] },toks:=tk }:=I.kept λb o e=>LD _ e
 refine⟨(s.heap.push { cls:=.type "range",data:=.fields #[.int lo t,.int hi u,.int 1 v] }).objs.size,[(s.heap.push { cls:=.type "range",data:=.fields #[.int lo t,.int hi u,.int 1 v] }).objs.size],_,_,H,rfl,
  I1.kept (t':=tk) λb o e=>LD _ e,wH _ lo (hi - lo).toNat,?_,λb hb=> ?_,q⟩
 ·have e1:lo+((0:Nat):Int)*1=lo:=by simp
  have e2:(((hi - lo).toNat:Nat):Int) - ((0:Nat):Int)=Builtin.Range.rangeSize lo hi 1:=by rw[rangeSize_one];split <;> omega
  show IsRangeIter _ _ (lo+((0:Nat):Int)*1) ((((hi - lo).toNat:Nat):Int) - ((0:Nat):Int)) 1
  rw[e1,e2];exact LR _ rfl
 ·have e:b=(s.heap.push { cls:=.type "range",data:=.fields #[.int lo t,.int hi u,.int 1 v] }).objs.size:=by simpa using hb
  subst e;exact I1.KI (LL _) (I1.hok.fresh (LL _))
def tFor (wi:TI)(g:TG)(tb:TS):TS:=λD σ H=>wi σ H λJ H1=> ∃W:Nat->Nat->St->Hp->Prop,(∃m,W 0 m σ H1)/\∀i m σ H,W i m σ H →
 (J.stop i H/\D.nx σ H)\/(J.go i H/\∃N:St->Hp->Prop,(∀σ' H',N σ' H'->∃m',m'<m/\W (i+1) m' σ' H')/\∀x H',J.yld i H x H'->g x σ H' λσ2 H2=>tb { D with nx:=N,ct:=N,bk:=D.nx } σ2 H2)
def oX (fp:List Addr)(h:Heap):List (Addr×Obj):=fp.filterMap λb=>(h.get? b).map λo=>(b,o)
theorem iY {fp:List Addr}{h:Heap}{b:Addr}{o:Obj}(hb:b∈fp)(e:h.get? b=some o):(b,o)∈oX fp h:=P8.mpr ⟨b,hb,by rw[e];rfl⟩
theorem zp {fp:List Addr}{h:Heap}{p:Addr×Obj}(hp:p∈oX fp h):p.1∈fp/\h.get? p.1=some p.2:=by
 obtain⟨b,hb,e⟩:=P8.mp hp
 cases q:h.get? b with
 | none=>rw[q]at e;cases e
 | some o=>
  rw[q]at e
  have e':(b,o)=p:=Me e;subst e';exact⟨hb,q⟩
theorem Inv.pinned {pins:List (Addr×Obj)}{σ:St}{H:Hp}{s:LB}{fp:List Addr}(I:Inv X pins σ H s)(hf:∀b∈fp,nU X pins H b)(ho:∀b∈fp,∃o,s.heap.get? b=some o/\∀v,o.data≠ .cell v):Inv X (pins++oX fp s.heap) σ H s:=
 I.KL λp hp=>(Mb.mp hp).elim (λz=>I.pin p (L3 _ z)) λz=>by
  obtain⟨hb,e⟩:=zp z;obtain⟨f0,f1,f2,_⟩:=hf p.1 hb;obtain⟨o,e',d⟩:=ho p.1 hb;rw[e]at e';cases e';exact⟨e,f0,f1,f2,d⟩
theorem Inv.Kr {pins pl:List (Addr×Obj)}{σ:St}{H:Hp}{s:LB}(I:Inv X (pins++pl) σ H s):Inv X pins σ H s:=I.KL λp hp=>I.pin p (L3 _ (Mm _ hp))
end
abbrev R2:=V->V->Hp->VK->Prop
def qi (X:Cx)(f:Ly->Ly->Sem Ly)(r:R2):Prop:=
 ∀(pins:List (Addr×Obj)) (s:LB) (σ:St) (H:Hp) (x y:V) (v u:Ly) (Q:VK),Inv X pins σ H s->RelV x v->RelV y u->r x y H Q →
  wpAny (model X.prog X.w) X.A (f v u) (EP X pins σ Q) X.xe s
def UnR (X:Cx)(f:Ly->Sem Ly)(r:V->Hp->VK->Prop):Prop:=
 ∀(pins:List (Addr×Obj)) (s:LB) (σ:St) (H:Hp) (x:V) (v:Ly) (Q:VK),Inv X pins σ H s->RelV x v->r x H Q →
  wpAny (model X.prog X.w) X.A (f v) (EP X pins σ Q) X.xe s
def CallR (X:Cx)(f:Ly)(r:List V->Hp->VK->Prop):Prop:=
 ∀(pins:List (Addr×Obj)) (s:LB) (σ:St) (H:Hp) (xs:List V) (us:List Ly) (Q:VK),Inv X pins σ H s->Vals xs us->r xs H Q →
  wpAny (model X.prog X.w) X.A (call f us) (EP X pins σ Q) X.xe s
def tOp (r:R2)(ta tb:TE):TE:=λσ H Q=>ta σ H λx H1=>tb σ H1 λy H2=>r x y H2 Q
def tUn (r:V->Hp->VK->Prop)(ta:TE):TE:=λσ H Q=>ta σ H λx H1=>r x H1 Q
def rI (C:Int->Int->Prop)(g:Int->Int->V):R2:=λx y H Q=> ∃i j,x= .int i/\y= .int j/\C i j/\Q (g i j) H
def Fj (g:Int->Int->V):R2:=λx y H Q=> ∃i j,x= .int i/\y= .int j/\Q (g i j) H
def rU (g:Int->V):V->Hp->VK->Prop:=λx H Q=> ∃i,x= .int i/\Q (g i) H
section
variable {X:Cx}{a b c:Expr}{ta tb tc:TE}{pos:Pos}
theorem J1 (ha:PE X a ta)(hb:PE X b tb){pins:List (Addr×Obj)}{s:LB}{σ:St}{H:Hp}{R:V->V->Hp->Prop}(I:Inv X pins σ H s)
  (h:ta σ H λx H1=>tb σ H1 λy H2=>R x y H2) {Q:Ly->LB->Prop} {f:Ly->Ly->Sem Ly}
  (hf:∀v u s2 x y H2,Inv X pins σ H2 s2->RelV x v->RelV y u->R x y H2->wpAny (model X.prog X.w) X.A (f v u) Q X.xe s2) :
  wpAny (model X.prog X.w) X.A (eval a X.env) (λv s₁=>wpAny (model X.prog X.w) X.A (eval b X.env) (λu s₂=>wpAny (model X.prog X.w) X.A (f v u) Q X.xe s₂) X.xe s₁) X.xe s:=by
 refine cE (ha pins s σ H _ I h) λv s1 hh_=> ?_
 obtain⟨x,H1,I1,r1,q1⟩:=hh_;refine cE (hb pins s1 σ H1 _ I1 q1) λu s2 hh_=> ?_
 obtain⟨y,H2,I2,r2,q2⟩:=hh_;exact hf v u s2 x y H2 I2 r1 r2 q2
theorem Jj {op:Operator}{r:R2}(ho:qi X (Nn op) r)(ha:PE X a ta)(hb:PE X b tb):PE X (.BinOp a op b pos) (tOp r ta tb):=by
 intro pins s σ H Q I h;exact wpAny_BinOp (J1 ha hb I h λv u s2 x y H2 I2 rx ry q=>ho pins s2 σ H2 x y v u Q I2 rx ry q)
theorem Jh {op:UnaryOp}{r:V->Hp->VK->Prop}(ho:UnR X (unaryOp op) r)(ha:PE X a ta):PE X (.UnaryOp op a pos) (tUn r ta):=by
 intro pins s σ H Q I h;exact UnaryOp_ (cE (ha pins s σ H _ I h) λv s1 ⟨x,H1,I1,r1,q1⟩=>ho pins s1 σ H1 x v Q I1 r1 q1)
theorem opI {f:Ly->Ly->Sem Ly}{C:Int->Int->Prop}{g:Int->Int->Int}
  (rule:∀(i j:Int) (t u:Tok) (s:LB) (Q:Ly->LB->Prop) (E:Ly->LB->Prop),C i j->Q (.int (g i j) s.toks) { s with toks:=s.toks+1 }->wpAny (model X.prog X.w) X.A (f (.int i t) (.int j u)) Q E s) :
  qi X f (rI C λi j=> .int (g i j)):=by
 intro pins s σ H x y v u Q I rx ry h;obtain⟨i,j,rfl,rfl,hc,q⟩:=h;obtain⟨t,rfl⟩:=rx;obtain⟨t',rfl⟩:=ry;exact rule i j t t' s _ _ hc ⟨.int (g i j),H,I.tok _,⟨_,rfl⟩,q⟩
theorem Jq {f:Ly->Ly->Sem Ly}{g:Int->Int->Int}
  (rule:∀(i j:Int) (t u:Tok) (s:LB) (Q:Ly->LB->Prop) (E:Ly->LB->Prop),Q (.int (g i j) s.toks) { s with toks:=s.toks+1 }->wpAny (model X.prog X.w) X.A (f (.int i t) (.int j u)) Q E s) :
  qi X f (Fj λi j=> .int (g i j)):=by
 intro pins s σ H x y v u Q I rx ry h;obtain⟨i,j,rfl,rfl,q⟩:=h;obtain⟨t,rfl⟩:=rx;obtain⟨t',rfl⟩:=ry;exact rule i j t t' s _ _ ⟨.int (g i j),H,I.tok _,⟨_,rfl⟩,q⟩
theorem G1 {f:Ly->Ly->Sem Ly}{g:Int->Int->Bool}
  (rule:∀(i j:Int) (t u:Tok) (s:LB) (Q:Ly->LB->Prop) (E:Ly->LB->Prop),Q (.bool (g i j)) s->wpAny (model X.prog X.w) X.A (f (.int i t) (.int j u)) Q E s) :
  qi X f (Fj λi j=> .bl (g i j)):=by
 intro pins s σ H x y v u Q I rx ry h;obtain⟨i,j,rfl,rfl,q⟩:=h;obtain⟨t,rfl⟩:=rx;obtain⟨t',rfl⟩:=ry;exact rule i j t t' s _ _ ⟨.bl (g i j),H,I,rfl,q⟩
def CDiv (i j:Int):Prop:=0<j/\j<1073741824
def CMul (i j:Int):Prop:=(-(2 ^ 64)<i/\i<2 ^ 64)\/(-(2 ^ 64)<j/\j<2 ^ 64)
theorem CMul.ok {i j:Int}(h:CMul i j):IntMulOk i j:=by
 rcases h with⟨h1,h2⟩ | ⟨h1,h2⟩
 ·exact .of_left (intBits_le_64 h1 h2)
 ·exact .of_right (intBits_le_64 h1 h2)
theorem G0:qi X (Nn .Add) (Fj λi j=> .int (i+j)):=Jq λ_ _ _ _ _ _ _ q=>add_int q
theorem GV:qi X (Nn .Sub) (Fj λi j=> .int (i - j)):=Jq λ_ _ _ _ _ _ _ q=>sub_int q
theorem GX:qi X (Nn .Mult) (rI CMul λi j=> .int (i*j)):=opI λ_ _ _ _ _ _ _ hc q=>mul_int q hc.ok
theorem DW:qi X (Nn .FloorDiv) (rI CDiv λi j=> .int (i / j)):=opI λi j _ _ _ _ _ hc q=>by
 have h1:(0:Int)<j:=hc.1
 have h2:j<1073741824:=hc.2;exact floordiv_int (by omega) (by rw[Int.fdiv_eq_ediv_of_nonneg i (by omega)];exact q) (.inl (PyProof.noPylong_small (by omega)))
theorem GY:qi X (Nn .Mod) (rI (λ_ j=>0<j) λi j=> .int (i % j)):=opI λi j _ _ _ _ _ hc q=>by
 have h1:(0:Int)<j:=hc;exact mod_int' (by omega) (by rw[Int.fmod_eq_emod_of_nonneg i (by omega)];exact q)
theorem unI {f:Ly->Sem Ly}{g:Int->Int}
  (rule:∀(i:Int) (t:Tok) (s:LB) (Q:Ly->LB->Prop) (E:Ly->LB->Prop),Q (.int (g i) s.toks) { s with toks:=s.toks+1 }->wpAny (model X.prog X.w) X.A (f (.int i t)) Q E s) :
  UnR X f (rU λi=> .int (g i)):=by
 intro pins s σ H x v Q I rx h;obtain⟨i,rfl,q⟩:=h;obtain⟨t,rfl⟩:=rx;exact rule i t s _ _ ⟨.int (g i),H,I.tok _,⟨_,rfl⟩,q⟩
theorem FK:UnR X (unaryOp .USub) (rU λi=> .int (-i)):=unI λ_ _ _ _ _ q=>neg_int q
end
def scal:V->V->Bool
 | .non,.non=>true | .non,.int _=>true | .int _,.non=>true | .non,.bl _=>true | .bl _,.non=>true | .non,.str _=>true | .str _,.non=>true
 | .int _,.int _=>true | .bl _,.bl _=>true | .str _,.str _=>true | .byt _,.byt _=>true
 | .int _,.str _=>true | .str _,.int _=>true | .bl _,.str _=>true | .str _,.bl _=>true
 | _,_=>false
def rNe:R2:=λx y H Q=>scal x y=true/\Q (.bl (!decide (x=y))) H
theorem Ex {i j:Int}:decide (V.int i=V.int j)=(i == j):=by
 rw[OQ];simp
theorem HQ {i j:Bool}:decide (V.bl i=V.bl j)=(i == j):=by
 rw[OQ];simp
theorem Ew {i j:Str}:decide (V.str i=V.str j)=(i == j):=by
 rw[OQ];simp
theorem Ey {i j:Array UInt8}:decide (V.byt i=V.byt j)=(i.toList == j.toList):=by
 rw[OQ];cases i;cases j;simp
section
variable {X:Cx}{a b c:Expr}{ta tb tc:TE}{pos:Pos}
theorem d8 {pins:List (Addr×Obj)}{σ:St}{H:Hp}{s:LB}{Q:VK}{k k':Bool}(I:Inv X pins σ H s)(q:Q (.bl k) H)(e:k=k'):EP X pins σ Q (.bool k') s:=by
 subst e;exact⟨.bl k,H,I,rfl,q⟩
theorem Jm:qi X (Mz .NotEq) rNe:=by
 intro pins s σ H x y v u Q I rx ry h;obtain⟨hs,q⟩:=h
 cases x with
 | non=>
  cases rx
  cases y with
  | non=>cases ry;exact PySem.EqNone.ne_none_none (d8 I q (by simp))
  | bl j=>cases ry;exact PySem.EqNone.ne_none_bool (d8 I q (by simp))
  | int j=>obtain⟨t',rfl⟩:=ry;exact PySem.EqNone.ne_none_int (d8 I q (by simp))
  | str j=>obtain⟨t',rfl⟩:=ry;exact PySem.EqNone.ne_none_str (d8 I q (by simp))
  | _=>exact absurd (show false=true from hs) LX
 | bl i=>
  cases rx
  cases y with
  | non=>cases ry;exact PySem.EqNone.ne_bool_none (d8 I q (by simp))
  | bl j=>cases ry;exact ne_bool (d8 I q (congrArg not HQ))
  | str j=>obtain⟨t',rfl⟩:=ry;exact PySem.EqMixed.ne_bool_str (d8 I q (by simp))
  | _=>exact absurd (show false=true from hs) LX
 | int i=>
  obtain⟨t,rfl⟩:=rx
  cases y with
  | non=>cases ry;exact PySem.EqNone.ne_int_none (d8 I q (by simp))
  | int j=>obtain⟨t',rfl⟩:=ry;exact ne_int (d8 I q (congrArg not Ex))
  | str j=>obtain⟨t',rfl⟩:=ry;exact PySem.EqMixed.ne_int_str (d8 I q (by simp))
  | _=>exact absurd (show false=true from hs) LX
 | str i=>
  obtain⟨t,rfl⟩:=rx
  cases y with
  | non=>cases ry;exact PySem.EqNone.ne_str_none (d8 I q (by simp))
  | bl j=>cases ry;exact PySem.EqMixed.ne_str_bool (d8 I q (by simp))
  | int j=>obtain⟨t',rfl⟩:=ry;exact PySem.EqMixed.ne_str_int (d8 I q (by simp))
  | str j=>obtain⟨t',rfl⟩:=ry;exact ne_str (d8 I q (congrArg not Ew))
  | _=>exact absurd (show false=true from hs) LX
 | byt i=>
  obtain⟨t,rfl⟩:=rx
  cases y with
  | byt j=>obtain⟨t',rfl⟩:=ry;exact PySem.W.ne_bytes (d8 I q (congrArg not Ey))
  | _=>exact absurd (show false=true from hs) LX
 | _=>cases y <;> exact absurd (show false=true from hs) LX
theorem Jn:qi X (Mz .Lt) (Fj λi j=> .bl (decide (i<j))):=G1 λ_ _ _ _ _ _ _ q=>lt_int q
theorem Jo:qi X (Mz .LtE) (Fj λi j=> .bl (decide (i<=j))):=G1 λ_ _ _ _ _ _ _ q=>le_int q
theorem Jp:qi X (Mz .Gt) (Fj λi j=> .bl (decide (j<i))):=G1 λ_ _ _ _ _ _ _ q=>gt_int q
theorem GZ:qi X (Mz .Is) (λx y H Q=>y= .non/\Q (.bl (decide (x= .non))) H):=by
 intro pins s σ H x y v u Q I rx ry h;obtain⟨rfl,q⟩:=h;cases ry;refine is_none_gen (d8 I q ?_)
 cases x <;> first
  | (cases rx;rfl)
  | (obtain⟨t,rfl⟩:=rx;rfl)
theorem DV:qi X (Mz .IsNot) (λx y H Q=>y= .non/\Q (.bl (!decide (x= .non))) H):=by
 intro pins s σ H x y v u Q I rx ry h;obtain⟨rfl,q⟩:=h;cases ry;refine isnot_none_gen (d8 I q ?_)
 cases x <;> first
  | (cases rx;rfl)
  | (obtain⟨t,rfl⟩:=rx;rfl)
theorem G7 (b:Expr){op:TX}(h:op≠ .In:=by decide)(h2:op≠ .NotIn:=by decide):On op b=false:=by
 have e1:(op == CmpOp.In)=false:=by cases op <;> first | rfl | exact absurd rfl h
 have e2:(op == CmpOp.NotIn)=false:=by cases op <;> first | rfl | exact absurd rfl h2
 cases b <;> simp[On,e1,e2]
def Il (t:TE):TT:=λσ H Q=>t σ H λx H'=> ∃k,x= .bl k/\Q k H'
theorem DI {op:TX}{r:R2}(ho:qi X (Mz op) r)(ha:PE X a ta)(hb:PE X b tb)(hm:On op b=false):PT X (.Compare a [op] [b] pos) (Il (tOp r ta tb)):=by
 intro pins s σ H Q I h
 refine Ra (cE (ha pins s σ H _ I h) λv s1 ⟨x,H1,I1,r1,q1⟩=>cE (hb pins s1 σ H1 _ I1 q1) λu s2 ⟨y,H2,I2,r2,q2⟩=>
  cE (ho pins s2 σ H2 x y v u _ I2 r1 r2 q2) λc s3 ⟨z,H3,I3,r3,k,e,q3⟩=> ?_) hm
 subst e;cases r3;exact MO ⟨H3,I3,q3⟩
theorem pF:(sizeLine:Nat)<2 ^ 63:=by rw[NG];decide
theorem w4:qi X (Nn .Add) (λx y H Q=> ∃i j,x= .str i/\y= .str j/\i.length+j.length<=sizeLine/\Q (.str (i++j)) H):=by
 intro pins s σ H x y v u Q I rx ry h;obtain⟨i,j,rfl,rfl,hz,q⟩:=h;obtain⟨t,rfl⟩:=rx;obtain⟨t',rfl⟩:=ry;exact add_str (λt' tk=>⟨.str (i++j),H,I.tok _,⟨_,rfl⟩,q⟩) hz
theorem lA {x:V}{us:List Ly}(r:Vals [x] us):∃u,us= [u]/\RelV x u:=by
 cases r with
 | cons r1 r2=>cases r2;exact⟨_,rfl,r1⟩
theorem An {x y:V}{us:List Ly}(r:Vals [x,y] us):∃u w',us= [u,w']/\RelV x u/\RelV y w':=by
 cases r with
 | cons r1 r2=>
  cases r2 with
  | cons r3 r4=>cases r4;exact⟨_,_,rfl,r1,r3⟩
theorem z8:CallR X (.type "int") (λxs H Q=>(∃i,xs= [.int i]/\Q (.int i) H)\/∃k,xs= [.bl k]/\Q (.int (if k then 1 else 0)) H):=by
 intro pins s σ H xs us Q I r h;rcases h with⟨i,rfl,q⟩ | ⟨k,rfl,q⟩
 ·obtain⟨u,rfl,t,rfl⟩:=lA r
  exact call_int_int ⟨.int i,H,I,⟨_,rfl⟩,q⟩
 ·obtain⟨u,rfl,r1⟩:=lA r
  cases r1;exact call_int_bool ⟨.int (if k then 1 else 0),H,I.tok _,⟨_,rfl⟩,q⟩
end
structure ObjM (h:Heap)(x dx C:Addr)(mA:Str->Option Ly):Prop where
 obj:h.get? x=some (QR C dx)
 ns:h.Ns1 dx mA
 ne:dx≠x
theorem zD {h:Heap}{dx:Addr}{mA:Str->Option Ly}(n:h.Ns1 dx mA):∃od,h.get? dx=some od/\∀name,Rn name od=some (mA name):=by
 obtain⟨o,es,ep,ho,hd,hk,_,hm⟩:=n;refine⟨o,ho,λname=> ?_⟩
 have e:=hm name;unfold nsFind findBy at e;rw[<-RL]at e
 unfold Rn;rw[hd]
 dsimp only
 split
 ·rename_i y q
  rw[q]at e;exact congrArg some e
 ·rename_i q
  rw[q]at e
  have a:es.toList.any (·.refKey)=false:=by
   rw[Qh];intro y hy;obtain⟨z,t,hkey⟩:=hk y (Array.mem_toList_iff.mp hy);simp[DictEntry.refKey,hkey]
  have a':¬ es.toList.any (·.refKey)=true:=by rw[a];exact LX
  rw[if_neg a'];exact congrArg some e
theorem ObjM.look {h:Heap}{x dx C:Addr}{mA:Str->Option Ly}(I:ObjM h x dx C mA):∃od,PySem.W.InstAt h x (QR C dx) C (some od)/\∀name,Rn name od=some (mA name):=
 let ⟨od,ho,hl⟩:=zD I.ns
 ⟨od,⟨I.obj,rfl,rfl,ho⟩,hl⟩
theorem RelO.some_of {v:V}{o:Option Ly}(r:RelO (some v) o):∃u,o=some u/\RelV v u:=by
 cases o with
 | none=>exact(show False from r).elim
 | some u=>exact⟨u,rfl,r⟩
section
variable {P:L1}{w:MG}{H H':Hp}{h h':Heap}{a C dx:Addr}{fs fs':List (Str×V)}
theorem Ek (hok:HOk P w H h)(e:H a=some (.ins C dx fs)):∃mA,ObjM h a dx C mA/\(∀f,RelO (fs.lookup f) (mA f))/\PySem.Within mA (fs.map (·.1))/\fs.length<=1000/\H dx=some (.own a):=by
 obtain⟨d,z,ne,ob,mA,n,r,q⟩:=(show ObjOk P w H h a (.ins C dx fs)from hok a _ e)
 exact⟨mA,⟨ob,n,ne⟩,r,q,z,d⟩
end
structure Cls (K:Lu)(C:Addr):Prop where
 pg:SQ K C Str.empty=true
 hd:PySem.W.hasDictIn K C=true
 po:PySem.W.plainOver K C=true
 sa:PySem.W.findIn K (.ref C) "__setattr__" =some (some (.builtin "object.__setattr__"))
theorem Cls.get {K:Lu}{C:Addr}(c:Cls K C)(f:Str):SQ K C f=true:=c.pg
section
variable {X:Cx}{pins:List (Addr×Obj)}{σ:St}{H:Hp}{s:LB}{A:Mh}{E:Ly->LB->Prop}{Q:Ly->LB->Prop}{c:Ly}{b:Bool}
inductive mY (K:Lu) (H:Hp):V->Ly->Prop where
 | non:mY K H .non (.type "NoneType")
 | bl (x:Bool):mY K H (.bl x) (.type "bool")
 | int (i:Int):mY K H (.int i) (.type "int")
 | str (x:Str):mY K H (.str x) (.type "str")
 | flt (x:UInt64):mY K H (.flt x) (.type "float")
 | lst {a:Addr} {xs:List V} (e:H a=some (.lst xs)):mY K H (.ref a) (.type "list")
 | frz {a:Addr} {o:Obj} {xs:List V} (e:H a=some (.frz o (.lst xs))):mY K H (.ref a) (.type "list")
 | tup {a:Addr} {xs:List V} (e:H a=some (.tup xs)):mY K H (.ref a) (.type "tuple")
 | dK {a:Addr} {kvs:List (Key×V)} (e:H a=some (.dK kvs)):mY K H (.ref a) (.type "dict")
 | dT {a:Addr} {kvs:List (List Key×V)} (e:H a=some (.dT kvs)):mY K H (.ref a) (.type "dict")
 | ins {a C dx:Addr} {fs:List (Str×V)} (e:H a=some (.ins C dx fs)) (cl:Cls K C) (ha:PySem.W.findIn K (.ref C) "__class__" =some (some (.builtin "object.__class__")))
   (hn:PySem.W.specialIn K (.builtin "object.__class__") "__get__" =some (some (.builtin "getset_descriptor.__get__"))) (htk:PySem.W.takesIn K (.builtin "object.__class__")=some true)
   (hm:PySem.W.mroIn K C (.type "object")=some true):mY K H (.ref a) (.ref C)
theorem zK {x:V}{u t:Ly}(I:Inv X pins σ H s)(rx:RelV x u)(ty:mY X.K H x t)(e:PySem.W.kitOne X.K t c=some b)(h:∀tk,Q (.bool b) { s with toks:=tk }) :
  wpAny (model X.prog X.w) A (call (.builtin "isinstance") [u,c]) Q E s:=by
 cases ty with
 | non=>cases (show u=Ml from rx);exact MV PySem.W.kitx_none I.kIn Oh e (λz=>nomatch z) h
 | bl y=>cases (show u=Mv y from rx);exact MV PySem.W.kitx_bool I.kIn Oh e (λz=>nomatch z) h
 | int i=>obtain⟨t,q⟩:=(show ∃t,u=M5 i t from rx);cases q;exact MV PySem.W.kitx_int I.kIn Oh e (λz=>nomatch z) h
 | str y=>obtain⟨t,q⟩:=(show ∃t,u=Nr y t from rx);cases q;exact MV PySem.W.kitx_str I.kIn Oh e (λz=>nomatch z) h
 | flt y=>obtain⟨t,q⟩:=(show ∃t,u=Value.float y t from rx);cases q;exact MV PySem.W.kitx_float I.kIn Oh e (λz=>nomatch z) h
 | @lst a xs ea=>
  cases (show u=LV a from rx)
  obtain⟨_,_,n,_,h1⟩:=(show ObjOk X.prog X.w H s.heap a (.lst xs)from I.hok a _ ea)
  exact MV Sb I.kIn ⟨_,h1,rfl⟩ e (λz=>nomatch z) h
 | @frz a ob xs ea=>
  cases (show u=LV a from rx)
  obtain⟨_,_,_,n,_,h1⟩:=(show ObjOk X.prog X.w H s.heap a (.frz ob (.lst xs))from I.hok a _ ea)
  exact MV Sb I.kIn ⟨_,h1,rfl⟩ e (λz=>nomatch z) h
 | @tup a xs ea=>
  cases (show u=LV a from rx)
  obtain⟨_,_,_,p⟩:=(show ObjOk X.prog X.w H s.heap a (.tup xs)from I.hok a _ ea)
  obtain⟨o,h1,h2,_⟩:=p
  exact MV PySem.W.kitx_tuple I.kIn ⟨o,h1,h2⟩ e (λz=>nomatch z) h
 | @dK a kvs ea=>
  cases (show u=LV a from rx)
  obtain⟨_,_,vs,_,p⟩:=(show ObjOk X.prog X.w H s.heap a (.dK kvs)from I.hok a _ ea)
  obtain⟨o,es,ep,h1,h2,_⟩:=p
  exact MV Sd I.kIn ⟨o,h1,h2.1⟩ e (λz=>nomatch z) h
 | @dT a kvs ea=>
  cases (show u=LV a from rx)
  obtain⟨_,_,xs,_,o,es,ep,h1,h2,_⟩:=(show ObjOk X.prog X.w H s.heap a (.dT kvs)from I.hok a _ ea)
  exact MV Sd I.kIn ⟨o,h1,h2.1⟩ e (λz=>nomatch z) h
 | @ins a C dx fs ea cl ha hn htk hm=>
  cases (show u=LV a from rx)
  obtain⟨mA,O,_⟩:=Ek I.hok ea;obtain⟨od,J,_⟩:=O.look;exact MV (PySem.W.kitx_own (cl.get _) cl.hd ha hn htk hm) I.kIn J e (λz=>nomatch z) h
end
structure Room (k:Nat)(A:Mh):Prop where
 hd:A.handled=none
 dp:A.depth+3*k+5<OA
 un:A.units+16*k+200<cLine
theorem Room.mono {j k:Nat}{A:Mh}(r:Room k A)(h:j<=k):Room j A:=⟨r.hd,by have:=r.dp;omega,by have:=r.un;omega⟩
theorem Room.deeper {k:Nat}{A:Mh}(r:Room (k+1) A)(env:Env):Room k (A.deeper env):=
 ⟨r.hd,by have:=r.dp;show A.depth+1+3*k+5<_;omega,by have:=r.un;show A.units+3+16*k+200<_;omega⟩
theorem Room.depth {k:Nat}{A:Mh}(r:Room k A):A.depth<OA:=by have:=r.dp;omega
def sk:TA:=λ_ H Q=>Q [] H
def hV (ta:TE)(tr:TA):TA:=λσ H Q=>ta σ H λx H1=>tr σ H1 λxs H2=>Q (x::xs) H2
section
variable {X:Cx}{e:Expr}{es:List Expr}{te:TE}{t:TA}{pos:Pos}
theorem dR:PA X [] sk:=λ_ _ _ _ H Q I h=>Pb ⟨[],H,I,.nil,h⟩
theorem bx (ha:PE X e te)(hr:PA X es t)(hs:LP (e::es) X.env=(false,eval e X.env)::LP es X.env:=by rfl):PA X (e::es) (hV te t):=by
 intro pos pins s σ H Q I h;rw[hs]
 show wpAny _ _ (spliced ((false,eval e X.env)::backTo pos (LP es X.env))) _ _ s
 refine OR (cE (ha pins s σ H _ I h) λu s1 hh_=> ?_)
 obtain⟨x,H1,I1,r1,q1⟩:=hh_;exact cE (hr pos pins s1 σ H1 _ I1 q1) λus s2 ⟨xs,H2,I2,r2,q2⟩=>⟨x::xs,H2,I2,.cons r1 r2,q2⟩
def C8 (t:TA):TE:=λσ H Q=>t σ H λxs H1=>xs.length<=sizeLine/\∀p,H1 p=none->Q (.ref p) (upd H1 p (.tup xs))
def tLst (t:TA):TE:=λσ H Q=>t σ H λxs H1=>xs.length<=sizeLine/\∀p,H1 p=none->Q (.ref p) (upd H1 p (.lst xs))
theorem sU {x1}(h:PA X es t):PE X (.Tuple es x1 pos) (C8 t):=by
 intro pins s σ H Q I hq;refine wpAny_Tuple_spliced (cE (h pos pins s σ H _ I hq) λus s1 ⟨xs,H1,I1,r,z,q⟩=>⟨by rw[<-r.length];exact z,?_⟩)
 have hf:H1 s1.heap.objs.size=none:=I1.hok.fresh (LL _);refine⟨.ref s1.heap.objs.size,upd H1 s1.heap.objs.size (.tup xs),I1.laid (t':=s1.toks) (λb u e=>LD _ e) (LL _) ?_,rfl,q _ hf⟩
 exact⟨z,us,r,⟨_,LR _ rfl,rfl,_,rfl⟩⟩
theorem sV (h:PA X es t):PE X (.List es pos) (tLst t):=by
 intro pins s σ H Q I hq;refine R0 (cE (h pos pins s σ H _ I hq) λus s1 ⟨xs,H1,I1,r,z,q⟩=>⟨by rw[<-r.length];exact z,?_⟩)
 have hf:H1 s1.heap.objs.size=none:=I1.hok.fresh (LL _);refine⟨.ref s1.heap.objs.size,upd H1 s1.heap.objs.size (.lst xs),I1.laid (t':=s1.toks) (λb u e=>LD _ e) (LL _) ?_,rfl,q _ hf⟩
 exact⟨z,us,0,r,LR _ rfl⟩
end
abbrev Sp:=List V->Hp->VK->XK->Prop
abbrev CT:=List Env->Hp->LB->XK->Ly->LB->Prop
structure wu (P:L1)(w:MG)(K:Lu)(mg:Str->Option Ly)(base:Heap)(A:Mh)(outer:List Env)(s:LB)(H:Hp):Prop where
 frames:A.frames=some outer
 mod:Mod K mg base
 bs:∀b o,base.get? b=some o->s.heap.get? b=some o/\H b=none
 bsz:base.objs.size<=s.heap.objs.size
 funs:s.heap.FunFrames base outer
 frf:∀b∈pO outer,H b=none
 hok:HOk P w H s.heap
 bare:Qw s.gens
def CE (outer:List Env)(P:L1)(w:MG)(H:Hp)(s:LB)(Q:VK)(u:Ly)(s':LB):Prop:=
 ∃v H',s'.os=s.os/\Qw s'.gens/\Un (pO outer) [] H H' s.heap s'.heap/\HOk P w H' s'.heap/\RelV v u/\Q v H'
def CR (CX:CT)(outer:List Env)(P:L1)(w:MG)(H:Hp)(s:LB)(Q:VK)(E:XK)(r:TR)(s':LB):Prop:=
 match r with
 | .ok (.ret u)=>CE outer P w H s Q u s'
 | .ok _=>False
 | .error e=>CX outer H s E e s'
structure qW (P:L1)(w:MG)(K:Lu)(mg:Str->Option Ly)(base:Heap)(CX:CT)(k:Nat)(f:Addr)(fd:MP)(ps:List Str)(sp:Sp):Prop where
 len:∀vs H Q E,sp vs H Q E->vs.length=ps.length
 run:∀(A:Mh) (outer:List Env) (s:LB) (H:Hp) (args:Args) (us:List Ly) (vs:List V) (Q:VK) (E:XK),Room k A->wu P w K mg base A outer s H->RD s fd args (ps.zip us)->Vals vs us->sp vs H Q E →
  codeAny (model P w) A (.call (.ref f) args) (CR CX outer P w H s Q E) s
section
variable {X:Cx}{pins:List (Addr×Obj)}{σ:St}{H:Hp}{s s':LB}
theorem Inv.KU (I:Inv X pins σ H s):wu X.prog X.w X.K X.mg X.base X.A X.stack s H:=
 ⟨I.ok.frames,I.ok.mod,I.bs,Md I.ok.bsz I.sz,I.stack,I.Kz,I.hok,I.bare⟩
theorem Inv.after {Q:VK}{u:Ly}(I:Inv X pins σ H s)(h:CE X.stack X.prog X.w H s Q u s'):EP X pins σ Q u s':=by
 obtain⟨v,H',os,bare,un,hok,r,q⟩:=h;obtain⟨hh,g,d,t,os'⟩:=s';obtain rfl:os'=s.os:=os;exact⟨v,H',I.call (h':=hh) (g':=g) (d':=d) (t':=t) (ch:=[]) un hok bare (λb z=>absurd z (by simp)),r,q⟩
end
def E9 (sp:Sp)(dvs:List V)(E:XK)(t:TA):TE:=λσ H Q=>t σ H λvs H1=>sp (vs++dvs) H1 Q E
def Binds (K:Lu)(fd:MP)(ps:List Str)(ds:List Ly):Prop:=
 ∀(s:LB) (us:List Ly),K.In s.heap->(us++ds).length=ps.length->RD s fd ⟨us,[]⟩ (ps.zip (us++ds))
theorem Binds.all {K:Lu}{fd:MP}{ps:List Str}(h:∀us:List Ly,us.length=ps.length->bindArgs fd ⟨us,[]⟩=pure (ps.zip us)):Binds K fd ps []:=λs us _ hl=>by
 rw[Mj]at hl ⊢;exact .of_eq (h us hl)
def uz (CX:CT)(X:Cx)(E:XK):Prop:=∀(pins:List (Addr×Obj)) (σ:St) (H:Hp) (s:LB) (e:Ly) (s':LB),Inv X pins σ H s->CX X.stack H s E e s'->X.xe e s'
section
variable {X:Cx}{CX:CT}{k:Nat}{f C:Addr}{fd:MP}{ps:List Str}{sp:Sp}{dvs:List V}{ds:List Ly}{E:XK}{x m:Str}{p pos apos:Pos}{e o:Expr}{es:List Expr}{ta:TE}{t:TA}
theorem wW {pins:List (Addr×Obj)}{σ:St}{H:Hp}{s:LB}{Q:VK}{us:List Ly}{vs:List V}(F:qW X.prog X.w X.K X.mg X.base CX k f fd ps sp)(hr:Room k X.A)(hb:Binds X.K fd ps ds)(hd:Vals dvs ds)(hx:uz CX X E)
  (I:Inv X pins σ H s) (r:Vals vs us) (h:sp (vs++dvs) H Q E):wpAny (model X.prog X.w) X.A (call (.ref f) us) (EP X pins σ Q) X.xe s:=by
 have r2:Vals (vs++dvs) (us++ds):=r.append hd
 have hl:(us++ds).length=ps.length:=by rw[<-r2.length];exact F.len _ _ _ _ h
 refine Sr (Pt (F.run X.A X.stack s H ⟨us,[]⟩ (us++ds) (vs++dvs) Q E hr I.KU (hb s us I.kIn hl) r2 h) λr s' hq=> ?_)
 cases r with
 | error e=>exact hx pins σ H s e s' I hq
 | ok fl=>
  cases fl with
  | ret u=>exact I.after hq
  | next=>exact Og hq
  | brk=>exact Og hq
  | cont=>exact Og hq
theorem yc (F:qW X.prog X.w X.K X.mg X.base CX k f fd ps sp)(hr:Room k X.A)(hg:Gl X x)(hm:X.mg x=some (.ref f))(hk:Nk X.K (.ref f)=true)(hb:Binds X.K fd ps ds)(hd:Vals dvs ds)(hx:uz CX X E)
  (ha:PA X (e::es) t) (hdb:gE x:=by decide) (he:LP (e::es) X.env=(false,eval e X.env)::LP es X.env:=by rfl) (hpl:(backTo pos (LP es X.env)).any (·.1)=false:=by rfl) :
  PE X (.Call (.Name x p) (e::es) [] pos) (E9 sp dvs E t):=by
 intro pins s σ H Q I h;refine My (i7 I hg hm ?_ hdb)
 refine ON (h₀:=X.base) I.ok.mod.kin hk (cE (ha pos pins s σ H _ I h) λus s1 ⟨vs,H1,I1,r,q⟩=>⟨I1.kIn,?_⟩) he hpl
 exact wW F hr hb hd hx I1 r q
theorem Bf (F:qW X.prog X.w X.K X.mg X.base CX k f fd ps sp)(hr:Room k X.A)(hg:Gl X x)(hm:X.mg x=some (.ref f))(hk:Nk X.K (.ref f)=true)(hb:Binds X.K fd ps ds)(hd:Vals dvs ds)(hx:uz CX X E)
  (hdb:gE x:=by decide):PE X (.Call (.Name x p) [] [] pos) (E9 sp dvs E sk):=by
 intro pins s σ H Q I h;refine My (i7 I hg hm ?_ hdb)
 exact PySem.W.callWith_K0 I.kIn hk (wW (us:=[]) F hr hb hd hx I .nil h)
end
def PK (X:Cx)(kws:List Ss)(t:TA):Prop:=
 ∀(pos:Pos) (pins:List (Addr×Obj)) (s:LB) (σ:St) (H:Hp) (Q:List V->Hp->Prop),Inv X pins σ H s->t σ H Q->wpAny (model X.prog X.w) X.A (evalAll ((R1 pos (PX kws X.env)).map (·.2))) (AP X pins σ Q) X.xe s
structure aE (N P:List Str)(sc:OY):Prop where
 kind:sc.kind= .function
 co:sc.isCoroutine=false
 gen:sc.isGenerator=false
 nd:N.Nodup
 pre:N.take P.length=P
 par:∀x∈P,sc.names.lookup x=some .local\/sc.names.lookup x=some .cell
 nofree:∀y∈sc.names,y.2≠ .free
theorem rY {kindOf:Str->Option Ol}{x:Str}:∀{binds:List (Str×Ly)} {m:Str->Option Ly},(∀v,(x,v)∉binds)->bindL kindOf binds m x=m x
 | [],_,_=>rfl
 | (n,v)::r,m,h=>by
  unfold bindL;rw[rY λw hw=>h w (Lw _ hw)]
  split
  ·have:x≠n:=by rintro rfl;exact h v Lz
   simp[this]
  ·rfl
theorem r6 {kindOf:Str->Option Ol}{x:Str}:∀{binds:List (Str×Ly)} {m:Str->Option Ly},(∀v,(x,v)∉binds)->bindC kindOf binds m x=m x
 | [],_,_=>rfl
 | (n,v)::r,m,h=>by
  unfold bindC;rw[r6 λw hw=>h w (Lw _ hw)]
  split
  ·rfl
  ·have:x≠n:=by rintro rfl;exact h v Lz
   simp[this]
theorem rZ {kindOf:Str->Option Ol}{x:Str}{v:Ly}:∀{P:List Str} {vs:List Ly} {i:Nat} {m:Str->Option Ly},P.Nodup->P[i]? =some x->vs[i]? =some v->kindOf x=some .local →
  bindL kindOf (P.zip vs) m x=some v
 | [],_,_,_,_,h,_,_=>by simp at h
 | _::_,[],_,_,_,_,h,_=>by simp at h
 | p::P,w::vs,0,m,nd,h1,h2,hk=>by
  simp at h1 h2;subst h1;subst h2
  show bindL kindOf ((p,w)::P.zip vs) m p=_
  unfold bindL;rw[rY λv hv=>(L7.mp nd).1 (OS hv).1,if_pos hk]
  simp
 | p::P,w::vs,i+1,m,nd,h1,h2,hk=>by
  show bindL kindOf ((p,w)::P.zip vs) m x=_
  unfold bindL;exact rZ (i:=i) (L7.mp nd).2 (by simpa using h1) (by simpa using h2) hk
theorem r8 {kindOf:Str->Option Ol}{x:Str}{v:Ly}:∀{P:List Str} {vs:List Ly} {i:Nat} {m:Str->Option Ly},P.Nodup->P[i]? =some x->vs[i]? =some v->kindOf x≠some .local →
  bindC kindOf (P.zip vs) m x=some v
 | [],_,_,_,_,h,_,_=>by simp at h
 | _::_,[],_,_,_,_,h,_=>by simp at h
 | p::P,w::vs,0,m,nd,h1,h2,hk=>by
  simp at h1 h2;subst h1;subst h2
  show bindC kindOf ((p,w)::P.zip vs) m p=_
  unfold bindC;rw[r6 λv hv=>(L7.mp nd).1 (OS hv).1,if_neg hk]
  simp
 | p::P,w::vs,i+1,m,nd,h1,h2,hk=>by
  show bindC kindOf ((p,w)::P.zip vs) m x=_
  unfold bindC;exact r8 (i:=i) (L7.mp nd).2 (by simpa using h1) (by simpa using h2) hk
def start (N:List Str)(vs:List V):St:=vs.map some++LS (N.length - vs.length) none
def ml (CX:CT)(P:L1)(w:MG)(K:Lu)(mg:Str->Option Ly)(base:Heap)(N:List Str)(qual:Str)(scope:OY)(f:Addr)(cd:Ly)(A:Mh)(outer:List Env)(s:LB)(H:Hp)(E:XK):Cx where
 prog:=P
 w:=w
 K:=K
 mg:=mg
 base:=base
 A:=A.deeper (envOfC qual scope s.heap.objs.size f cd)
 N:=N
 s₀:=s
 H₀:=H
 env:=envOfC qual scope s.heap.objs.size f cd
 outer:=outer
 stack:=envOfC qual scope s.heap.objs.size f cd::outer
 ex:=[]
 calm:=true
 fn:=λ_=>true
 pn:=[]
 xe:=λe s'=>wpAny (model P w) (A.deeper (envOfC qual scope s.heap.objs.size f cd)) (leaving (envOfC qual scope s.heap.objs.size f cd) e) (λ_ s''=>CX outer H s E e s'') (λe' s''=>CX outer H s E e' s'') s'
theorem wo {sc:OY}{n:Nat}{x:Str}(h:sc.names.lookup x=some .cell):∃c,(NP n sc.names []).lookup x=some c:=by
 have q:=N9 sc.names n [] (.inl h);exact OJ.mp q
theorem mS {CX:CT}{P:L1}{w:MG}{K:Lu}{mg:Str->Option Ly}{base:Heap}{N ps:List Str}{qual:Str}{scope:OY}{f:Addr}{cd:Ly}{A:Mh}{outer:List Env}{s s1:LB}{H:Hp}{E:XK}{us:List Ly}{vs:List V}
  (S:aE N ps scope) (hd:A.handled=none) (e0:wu P w K mg base A outer s H) (hl:vs.length=ps.length) (r:Vals vs us)
  (x:InCallC s s.heap.objs.size (bindL (envOfC qual scope s.heap.objs.size f cd).kindOf (ps.zip us) λ_=>none) (NP (s.heap.objs.size+1) scope.names []) (bindC (envOfC qual scope s.heap.objs.size f cd).kindOf (ps.zip us) λ_=>none) s1) :
  Inv (ml CX P w K mg base N qual scope f cd A outer s H E) [] (start N vs) H s1:=by
 have hpl:ps.length<=N.length:=by have:=congrArg MD S.pre;rw[MX]at this;omega
 obtain⟨h1,tk,rfl,hk⟩:=x.done
 have noA:∀b:Addr,b∉(ml CX P w K mg base N qual scope f cd A outer s H E).ex:=λb z=>absurd (show b∈([]:List Addr)from z) (by simp)
 refine⟨⟨e0.mod,S.kind,rfl,rfl,LL _,λy z c h1 h2=> ?_,λy hy=> ?_,λy c _ h=> ?_,λ_=>hd,Rk e0.frames,.inr ⟨rfl,rfl⟩,λb z=>absurd z (noA b),e0.bs,e0.bsz,λb _ _=>noA b,λb z=>absurd z (noA b),e0.funs,e0.frf⟩,
  rfl,e0.bare,Un.kept hk,⟨_,x.toInCall.ns,λi y v h1 h2 h3=> ?_⟩,λy c h=>⟨_,x.cell y c h⟩,e0.hok.fresh (LL _),λy c h=> ?_,λp hp=>absurd (show p∈([]:List (Addr×Obj))from hp) (by simp),e0.hok.kept hk,?_⟩
 ·exact name_of_addr x.apart (ND h1) (ND h2)
 ·have hy:scope.names.lookup y=some .cell\/scope.names.lookup y=some .free:=hy
  rcases hy with hy | hy
  ·exact wo hy
  ·exact absurd rfl (S.nofree _ (ND hy))
 ·exact Nt (x.above y c (ND h))
 ·have hi:i<vs.length:=by
   unfold start at h2
   by_cases hi:i<vs.length
   ·exact hi
   ·rw[Oq (by simpa using hi)]at h2
    rw[N4]at h2
    split at h2 <;> cases h2
  have ha:vs[i]? =some v:=by
   unfold start at h2;rw[NT (by simpa using hi),LY]at h2
   cases e:vs[i]? with
   | none=>rw[e]at h2;cases h2
   | some a=>rw[e]at h2;cases h2;rfl
  obtain⟨u,hu,rv⟩:=r.get ha
  have hp:ps[i]? =some y:=by
   rw[<-S.pre,List.getElem?_take_of_lt (by omega)];exact h1
  have ndP:ps.Nodup:=by rw[<-S.pre];exact S.nd.sublist (List.take_sublist _ _)
  refine⟨u,rv,?_⟩
  rcases S.par y (Nz hp)with k | k
  ·exact .inl ⟨k,rZ ndP hp hu k⟩
  ·obtain⟨c,e⟩:=wo (n:=s.heap.objs.size+1) k
   refine .inr ⟨.inl k,c,e,?_⟩
   have q:=x.cell y c e;rw[r8 ndP hp hu (by show scope.names.lookup y≠_;rw[k];decide)]at q
   exact q
 ·exact e0.hok.fresh (Nt (x.above y c (ND h)))
 ·unfold start
  show _=N.length
  rw[LF,LA,List.length_replicate];omega
theorem JW {CX:CT}{P:L1}{w:MG}{K:Lu}{mg:Str->Option Ly}{base:Heap}{k:Nat}{f:Addr}{name qual:Str}{params:TC}{body:List Stmt}{scope:OY}{dV kV doc pm cdv ct oc:Ly}{an od:Option Addr}
  {osl:Array (Option Ly)} {N ps:List Str} {sp:Sp} (lk:K.lookup f=some ⟨oc,od,.func (Pl name qual params body scope dV kV doc pm an cdv ct),osl⟩) (hcd:Ro K cdv qual=true) (S:aE N ps scope)
  (len:∀vs H Q E,sp vs H Q E->vs.length=ps.length)
  (hbody:∀(A:Mh) (outer:List Env) (s:LB) (H:Hp) (vs:List V) (Q:VK) (E:XK),Room k (A.deeper (envOfC qual scope s.heap.objs.size f cdv))->sp vs H Q E →
   ∃t,PSs (ml CX P w K mg base N qual scope f cdv A outer s H E) body t/\t { nx:=λ_ H'=>Q .non H',rt:=Q } (start N vs) H) :
  qW P w K mg base CX (k+1) f (Pl name qual params body scope dV kV doc pm an cdv ct) ps sp:=by
 refine⟨len,λA outer s H args us vs Q E hr e0 hb r hsp=> ?_⟩
 have hl:=len _ _ _ _ hsp
 have KX:K.In s.heap:=e0.mod.kin.keeps λb o e=>(e0.bs b o e).1
 have lim:s.heap.NoLimit:=e0.mod.nolimit.keeps λb o e=>(e0.bs b o e).1
 have hkind:∀y∈ps.zip us,scope.names.lookup y.1=some .local\/(scope.names.lookup y.1=some .cell/\((NP (s.heap.objs.size+1) scope.names []).lookup y.1).isSome=true):=λ⟨n,v⟩ hy=>by
  rcases S.par n (OS hy).1 with q | q
  ·exact .inl q
  ·exact .inr ⟨q,N9 _ _ _ (.inl q)⟩
 refine Pu hr.depth (KX _ _ lk) rfl S.co S.gen rfl (P7 KX hcd) (hb _ _ _ _ ?_)
 refine Os S.kind hkind λenv he s1 x=> ?_
 subst he;refine⟨lim.keeps x.toInCall.keep,SL ?_⟩
 obtain⟨t,ht,hq⟩:=hbody A outer s H vs Q E (hr.deeper _) hsp
 have I:Inv (ml CX P w K mg base N qual scope f cdv A outer s H E) [] (start N vs) H s1:=mS S hr.hd e0 hl r x;refine Nh (ht [] s1 (start N vs) H _ I hq) (λfl s' hs=> ?_) λe s' hs=>hs
 have fin:∀{σ':St} {H':Hp} {v:V} {u:Ly},Inv (ml CX P w K mg base N qual scope f cdv A outer s H E) [] σ' H' s'->RelV v u->Q v H'->CE outer P w H s Q u s':=
  λ{σ' H' v u} J rv q=>⟨v,H',J.os,J.bare,J.base,J.hok,rv,q⟩
 cases fl with
 | ret u=>
  obtain⟨v,σ',H',J,rv,q⟩:=hs
  exact fin J rv q
 | next=>
  obtain⟨σ',H',J,q⟩:=hs
  exact fin (v:=V.non) (u:=Ml) J rfl q
 | brk=>
  obtain⟨_,_,_,q⟩:=hs
  exact Og q
 | cont=>
  obtain⟨_,_,_,q⟩:=hs;exact Og q
end L2
namespace HT
open PySem PyProof.Rows
section
variable {prog:L1}{w:MG}{A:Mh}{E:Ly->LB->Prop}{s:LB}
theorem cat_tup {t b:Addr}{vs ws:List Ly}{Q:Ly->LB->Prop}(ht:TV s.heap t vs.toArray)(hb:TV s.heap b ws.toArray)(hv:vs≠ [])
  (h1:ws= []->Q (.ref t) s) (h2:ws≠ []->Q (.ref s.heap.objs.size) { s with heap:=s.heap.push { cls:=.type "tuple",data:=.seq (vs++ws).toArray } })
  (hsz:vs.length+ws.length<=sizeLine):wpAny (model prog w) A (Nn .Add (.ref t) (.ref b)) Q E s:=by
 obtain⟨⟨cls,dd,data,sl⟩,ho,hc,n,hd⟩:=id ht;obtain⟨⟨cls2,dd2,data2,sl2⟩,ho2,hc2,n2,hd2⟩:=id hb;simp only at hc hd hc2 hd2;subst hc hd hc2 hd2
 have e:vs.toArray++ws.toArray=(vs++ws).toArray:=by simp
 by_cases hw:ws= []
 ·exact SM ⟨_,ho,rfl⟩ ⟨_,ho2,rfl⟩ QK R3 O6 OP (OH _ _)
   (tuple_addW1 t b vs.toArray ws.toArray n n2 dd dd2 sl sl2 (by simpa using hv) (by simp[hw])) ⟨ho,ho2,h1 hw⟩
 ·refine SM ⟨_,ho,rfl⟩ ⟨_,ho2,rfl⟩ QK R3 O6 OP (OH _ _)
   (tuple_addW2 t b vs.toArray ws.toArray n n2 dd dd2 sl sl2 (by simpa using hv) (by simpa using hw) (by rw[LQ,LQ];exact hsz)) ⟨ho,ho2,?_⟩
  rw[e];exact h2 hw
def sIx (n d:Nat):Option Int->Nat
 | none=>d
 | some v=>if v<0 then(v+(n:Int)).toNat else min v.toNat n
theorem sIx_none (n d:Nat):sIx n d none=d:=rfl
theorem sIx_nat (n d k:Nat):sIx n d (some (k:Int))=min k n:=by
 show(if (k:Int)<0 then((k:Int)+(n:Int)).toNat else min (k:Int).toNat n)=min k n
 rw[if_neg (by omega),MM]
theorem F5 (n d:Nat)(hd:d<=n)(o:Option Int):sIx n d o<=n:=by
 cases o with
 | none=>exact hd
 | some v=>
  show(if v<0 then(v+(n:Int)).toNat else min v.toNat n)<=n
  by_cases hv:v<0
  ·rw[if_pos hv];omega
  ·rw[if_neg hv];exact Nat.min_le_right _ _
theorem yQ (v:Int)(n d:Nat):(if v<0 then max (v+(n:Int)) 0 else min v (n:Int))=((sIx n d (some v):Nat):Int):=by
 show(if v<0 then max (v+(n:Int)) 0 else min v (n:Int))=(((if v<0 then(v+(n:Int)).toNat else min v.toNat n):Nat):Int)
 by_cases hv:v<0
 ·simp only[if_pos hv];omega
 ·simp only[if_neg hv];omega
theorem xJ (lo hi:Option Int)(n:Nat):Ov lo hi 1 (n:Int)=(((sIx n 0 lo:Nat):Int),((sIx n n hi:Nat):Int)):=by
 have h1:¬ ((1:Int)<0):=by omega
 unfold Ov;simp only[h1,if_false];refine Prod.ext ?_ ?_
 ·cases lo with
  | none=>rfl
  | some v=>exact yQ v n 0
 ·cases hi with
  | none=>rfl
  | some v=>exact yQ v n n
theorem wY (i j:Nat):NS (i:Int) (j:Int) 1=j - i:=by
 unfold NS
 have h1:(1:Int) > 0:=by omega
 simp only[h1,if_true,Int.ediv_one]
 split <;> omega
theorem oN {v:Ly}{o:Option Int}{Q:Option Int->LB->Prop}(p:R4 v o)(h:Q o s):wpAny (model prog w) A (S7 v) Q E s:=by
 cases p with
 | none=>exact slicePart_none h
 | int i t=>exact slicePart_int h
theorem iI {sl:Addr}{vl vu:Ly}{lo hi:Option Int}{n:Nat}{Q:Int×Int×Nat->LB->Prop}(hs:s.heap.IsSliceOf sl vl vu .none)(pl:R4 vl lo)(pu:R4 vu hi)
  (h:Q (((sIx n 0 lo:Nat):Int),1,sIx n n hi - sIx n 0 lo) s):wpAny (model prog w) A (PY (.ref sl) (pure (n:Int))) Q E s:=by
 obtain⟨os,hos,hcs,hds⟩:=id hs;unfold PY Builtin.Slice.sliceFields;refine Lv (Lv (ME hos hds (x:=vl) rfl (Lv (ME hos hds (x:=vu) rfl (Lv (ME hos hds (x:=.none) rfl (LI ?_)))))))
 refine Lv (slicePart_none ?_)
 show wpAny _ _ (if ((1:Int) == 0)=true then _ else _) _ _ s
 rw[if_neg (by decide)]
 refine Lv (oN pl (Lv (oN pu (Lv (LI ?_)))))
 show wpAny _ _ (match Ov lo hi 1 (n:Int)with | (lo,hi)=>pure (lo,(1:Int),NS lo hi 1)) _ _ s
 rw[xJ lo hi n]
 show wpAny _ _ (pure (((sIx n 0 lo:Nat):Int),(1:Int),NS ((sIx n 0 lo:Nat):Int) ((sIx n n hi:Nat):Int) 1)) _ _ s
 rw[wY];exact LI h
theorem A6 (xs:Array Ly)(i k:Nat):((MA k).filterMap λ(m:Nat)=>xs[((i:Int)+(m:Int)*1).toNat]?).toArray=((xs.toList.drop i).take k).toArray:=by
 have e:(λ(m:Nat)=>xs[((i:Int)+(m:Int)*1).toNat]?)=λm=>xs[i+m]?:=by
  funext m
  have:((i:Int)+(m:Int)*1).toNat=i+m:=by omega
  rw[this]
 rw[e]
 have:=pick_run xs i k;rw[List.filterMap_map]at this
 have e2:((λx=>xs[x]?)∘λx=>i+x)=λm=>xs[i+m]?:=rfl
 rw[e2]at this;rw[this]
theorem getItem_tuple_cut {t sl:Addr}{items:Array Ly}{vl vu:Ly}{lo hi:Option Int}{Q:Ly->LB->Prop}(ht:TV s.heap t items)(hs:s.heap.IsSliceOf sl vl vu .none)(pl:R4 vl lo)(pu:R4 vu hi)
  (hw:¬ (sIx items.size 0 lo=0/\sIx items.size items.size hi=items.size))
  (h:Q (.ref s.heap.objs.size) { s with heap:=s.heap.push { cls:=.type "tuple",data:=.seq ((items.toList.drop (sIx items.size 0 lo)).take (sIx items.size items.size hi - sIx items.size 0 lo)).toArray } })
  (hsz:items.size<=sizeLine):wpAny (model prog w) A (getItem (.ref t) (.ref sl)) Q E s:=by
 have htake:sizeOk (.seq ((items.toList.drop (sIx items.size 0 lo)).take (sIx items.size items.size hi - sIx items.size 0 lo)).toArray):=by
  show((items.toList.drop (sIx items.size 0 lo)).take (sIx items.size items.size hi - sIx items.size 0 lo)).toArray.size<=sizeLine
  rw[LQ,MX,Nx,NC];omega
 have hj:sIx items.size items.size hi<=items.size:=F5 _ _ (LL _) hi;obtain⟨os,hos,hcs,hds⟩:=id hs
 have hTs:s.TypeIs (.ref sl) "slice":=⟨os,hos,hcs⟩;unfold getItem
 try with_reducible refine O4 ?_
 first | refine Lv (LI ?_) | skip
 refine Lv (Su ht.typeIs (by decide) ?_)
 refine Lv (MQ (name:=LU "__getitem__") ht.typeIs Mw
  (Ny Mw ht.typeIs RE ?_ (R5 _ _)))
 show wpAny _ _ (PZ (.ref t) >>= _) _ _ s
 refine Lv (R6 ht ?_)
 refine Lv (Pv hTs ?_)
 rw[if_pos (by decide)]
 refine Lv (iI hs pl pu ?_)
 have hno:¬ ((((sIx items.size 0 lo:Nat):Int) == 0&&(1:Int) == 1&&(sIx items.size items.size hi - sIx items.size 0 lo) == items.size)=true):=by
  intro q;rw[LC,LC]at q
  have q1:((sIx items.size 0 lo:Nat):Int)=0:=eq_of_beq q.1.1
  have q2:sIx items.size items.size hi - sIx items.size 0 lo=items.size:=eq_of_beq q.2;exact hw ⟨by omega,by omega⟩
 show wpAny _ _ (if (((sIx items.size 0 lo:Nat):Int) == 0&&(1:Int) == 1&&(sIx items.size items.size hi - sIx items.size 0 lo) == items.size)=true then _ else _) _ _ s
 rw[if_neg hno,A6]
 first
  | exact Lv (m:=Nv _) (Nj (LI ⟨_,rfl,LI h⟩) htake)
  | exact Lv (m:=Nv _) (Nj (Lv (LI (LI ⟨_,rfl,LI h⟩))) htake)
  | exact Lv (Lv (m:=Nv _) (Nj (LI (LI ⟨_,rfl,LI h⟩)) htake))
  | exact Lv (Lv (m:=Nv _) (Nj (LI ⟨_,rfl,LI h⟩) htake))
end
end HT
namespace L2
open PySem PySem.Spec PyProof.Rows
abbrev TO:=St->Hp->(Option Int->Hp->Prop)->Prop
def PO (X:Cx)(e:Option Expr)(t:TO):Prop:=
 ∀(pins:List (Addr×Obj)) (s:LB) (σ:St) (H:Hp) (Q:Option Int->Hp->Prop),Inv X pins σ H s->t σ H Q →
  wpAny (model X.prog X.w) X.A (evalPart e X.env) (λu s'=> ∃o H',Inv X pins σ H' s'/\R4 u o/\Q o H') X.xe s
def Dc:TO:=λ_ H Q=>Q none H
def Im (t:TE):TO:=λσ H Q=>t σ H λx H1=> ∃i,x= .int i/\Q (some i) H1
theorem xy {ns:List Int}:∀{us:List Ly},Vals (ns.map V.int) us->Ou us ns:=by
 induction ns with
 | nil=>intro us r;rw[Po]at r;cases r;exact .nil
 | cons n ns ih=>
  intro us r;rw[Lx]at r
  cases r with
  | cons r1 r2=>
   obtain⟨t,e⟩:=r1;subst e;exact .cons n t (ih r2)
section
variable {X:Cx}{e:Expr}{te:TE}{lo hi:Option Expr}{tl th:TO}{pos p2:Pos}
theorem DM:PO X none Dc:=by
 intro pins s σ H Q I h;rw[evalPart_none];exact LI ⟨none,H,I,.none,h⟩
theorem DL (h:PE X e te):PO X (some e) (Im te):=by
 intro pins s σ H Q I hw;rw[evalPart_some];refine cE (h pins s σ H _ I hw) λu s1 hh_=> ?_
 obtain⟨x,H1,I1,r1,q1⟩:=hh_;obtain⟨i,rfl,q⟩:=q1;obtain⟨t,rfl⟩:=r1;exact⟨some i,H1,I1,.int i t,q⟩
def SlR (X:Cx)(r:V->Option Int->Option Int->Hp->VK->Prop):Prop:=
 ∀(pins:List (Addr×Obj)) (s:LB) (σ:St) (H:Hp) (x:V) (v vl vu:Ly) (lo hi:Option Int) (sl:Addr) (Q:VK),Inv X pins σ H s->RelV x v->s.heap.IsSliceOf sl vl vu .none->R4 vl lo->R4 vu hi->r x lo hi H Q →
  ∃T id,Ph (.type T) "__getitem__" =pure (some (.builtin id))/\s.TypeIs v T/\wpAny (model X.prog X.w) X.A (getItem v (.ref sl)) (EP X pins σ Q) X.xe s
theorem SlR.or {r r':V->Option Int->Option Int->Hp->VK->Prop}(h:SlR X r)(h':SlR X r'):SlR X (λx lo hi H Q=>r x lo hi H Q\/r' x lo hi H Q):=by
 intro pins s σ H x v vl vu lo hi sl Q I rx hs pl pu q;rcases q with q | q
 ·exact h pins s σ H x v vl vu lo hi sl Q I rx hs pl pu q
 ·exact h' pins s σ H x v vl vu lo hi sl Q I rx hs pl pu q
def tSl (r:V->Option Int->Option Int->Hp->VK->Prop)(te:TE)(tl th:TO):TE:=λσ H Q=>te σ H λx H1=>tl σ H1 λl H2=>th σ H2 λu H3=>r x l u H3 Q
theorem A9 {r:V->Option Int->Option Int->Hp->VK->Prop}(hr:SlR X r)(he:PE X e te)(hl:PO X lo tl)(hu:PO X hi th):PE X (.Subscript e (.Slice lo hi none p2) pos) (tSl r te tl th):=by
 intro pins s σ H Q I h;refine Sv (cE (he pins s σ H _ I h) λv s1 hh_=> ?_)
 obtain⟨x,H1,I1,r1,q1⟩:=hh_;refine wpAny_Slice (cE (hl pins s1 σ H1 _ I1 q1) λvl s2 ⟨l,H2,I2,pl,q2⟩=>cE (hu pins s2 σ H2 _ I2 q2) λvu s3 hh_=> ?_)
 obtain⟨u,H3,I3,pu,q3⟩:=hh_;rw[evalPart_none];refine LI ?_
 have I4:Inv X pins σ H3 { s3 with heap:=s3.heap.push { cls:=.type "slice",data:=.fields #[vl,vu,.none] } }:=I3.kept (t':=s3.toks) λb ob q=>LD _ q
 obtain⟨T,id,hT,ht,hg⟩:=hr pins { s3 with heap:=s3.heap.push { cls:=.type "slice",data:=.fields #[vl,vu,.none] } } σ H3 x v vl vu l u s3.heap.objs.size Q I4 r1 (Heap.IsSliceOf.new ..) pl pu q3
 show wpAny (model X.prog X.w) X.A (R7 e (.Slice lo hi none p2) v (.ref s3.heap.objs.size)) (EP X pins σ Q) X.xe { s3 with heap:=s3.heap.push { cls:=.type "slice",data:=.fields #[vl,vu,.none] } }
 exact tail_any (ops:=[.ref s3.heap.objs.size,v]) ht hT hg (by with_unfolding_all rfl)
def wj (xs:List V)(lo hi:Option Int):List V:=(xs.drop (HT.sIx xs.length 0 lo)).take (HT.sIx xs.length xs.length hi - HT.sIx xs.length 0 lo)
theorem nB (xs:List V)(lo hi:Option Int):(wj xs lo hi).length<=xs.length:=by
 unfold wj;rw[MX,Nx];omega
def rSlT (K:Lu):V->Option Int->Option Int->Hp->VK->Prop:=λx lo hi H Q=> ∃a xs,x= .ref a/\SqT K H a xs ∧
 ¬(HT.sIx xs.length 0 lo=0/\HT.sIx xs.length xs.length hi=xs.length)/\∀p,H p=none->Q (.ref p) (upd H p (.tup (wj xs lo hi)))
theorem sl_tup:SlR X (rSlT X.K):=by
 intro pins s σ H x v vl vu lo hi sl Q I rx hs pl pu h;obtain⟨a,xs,rfl,hx,hw,q⟩:=h;cases rx;obtain⟨its,r,ht,hz⟩:=I.tuple hx
 have hlen:its.toArray.size=xs.length:=by rw[LQ];exact r.length.symm
 refine⟨"tuple",_,Mw.lookup,ht.typeIs,?_⟩
 refine HT.getItem_tuple_cut ht hs pl pu (by rw[hlen];exact hw) ?_ (by rw[hlen];exact hz)
 rw[hlen];refine⟨.ref s.heap.objs.size,_,I.laid (t':=s.toks) (o:=.tup (wj xs lo hi)) (λb ob q=>LD _ q) (LL _) ?_,rfl,q _ (I.hok.fresh (LL _))⟩
 exact⟨Md (nB xs lo hi) hz,_,(r.drop (HT.sIx xs.length 0 lo)).take (HT.sIx xs.length xs.length hi - HT.sIx xs.length 0 lo),Tc _ _⟩
def IH (K:Lu):R2:=λx y H Q=> ∃a b xs ys,x= .ref a/\y= .ref b/\SqT K H a xs/\SqT K H b ys/\xs≠ []/\xs.length+ys.length<=sizeLine ∧
 (ys= []->Q (.ref a) H)/\(ys≠ []->∀p,H p=none->Q (.ref p) (upd H p (.tup (xs++ys))))
theorem Vals.AC {xs:List V}{us:List Ly}(r:Vals xs us):us= [] ↔xs= []:=by
 cases r with
 | nil=>simp
 | cons _ _=>simp
theorem DX:qi X (Nn .Add) (IH X.K):=by
 intro pins s σ H x y v u Q I rx ry h;obtain⟨a,b,xs,ys,rfl,rfl,ha,hb,hx,hz,q1,q2⟩:=h;cases rx;cases ry;obtain⟨its,r1,p1,_⟩:=I.tuple ha;obtain⟨its2,r2,p2,_⟩:=I.tuple hb;refine HT.cat_tup p1 p2 (λz=>hx (r1.AC.mp z)) (λz=>⟨.ref a,H,I,rfl,q1 (r2.AC.mp z)⟩) (λz=> ?_) (by rw[<-r1.length,<-r2.length];exact hz)
 refine⟨.ref s.heap.objs.size,_,I.laid (t':=s.toks) (o:=.tup (xs++ys)) (λb ob q=>LD _ q) (LL _) ?_,rfl,q2 (λw=>z (r2.AC.mpr w)) _ (I.hok.fresh (LL _))⟩
 exact⟨by rw[LF];exact hz,_,r1.append r2,Tc _ _⟩
end
def ixN (n:Nat)(i:Int):Option Nat:=if 0<=i then(if i<n then some i.toNat else none)else if -(n:Int)<=i then some (i+n).toNat else none
def atI {α:Type}(xs:List α)(i:Int):Option α:=(ixN xs.length i).bind λj=>xs[j]?
theorem Eh {n:Nat}{i:Int}{j:Nat}(h:ixN n i=some j):seqIndex? i n=some j/\j<n/\-(n:Int)<=i/\i<n:=by
 unfold ixN at h
 by_cases h0:0<=i
 ·rw[if_pos h0]at h
  by_cases h1:i<n
  ·rw[if_pos h1]at h
   have e:i.toNat=j:=Me h;exact⟨by rw[seqIndex_of h0 h1,e],by omega,by omega,h1⟩
  ·rw[if_neg h1]at h;cases h
 ·rw[if_neg h0]at h
  by_cases h1 : -(n:Int)<=i
  ·rw[if_pos h1]at h
   have e:(i+n).toNat=j:=Me h;exact⟨by rw[seqIndex_neg (by omega) h1,e],by omega,h1,by omega⟩
  ·rw[if_neg h1]at h;cases h
theorem ur {α:Type}{xs:List α}{i:Int}{v:α}(h:atI xs i=some v):∃j,seqIndex? i xs.length=some j/\xs[j]? =some v/\j<xs.length/\-(xs.length:Int)<=i/\i<xs.length:=by
 unfold atI at h
 cases e:ixN xs.length i with
 | none=>rw[e]at h;cases h
 | some j=>
  rw[e]at h;obtain⟨h1,h2,h3,h4⟩:=Eh e;exact⟨j,h1,h,h2,h3,h4⟩
def kA (b:Expr):Prop:=∀o i,RF b false o i=operate [o,i] (getItem o i)
def IxR (X:Cx)(r:R2):Prop:=
 ∀(value slice:Expr) (pins:List (Addr×Obj)) (s:LB) (σ:St) (H:Hp) (x y:V) (v u:Ly) (Q:VK),Inv X pins σ H s->RelV x v->RelV y u->r x y H Q →
  RF slice false v u=operate [v,u] (getItem v u)->wpAny (model X.prog X.w) X.A (R7 value slice v u) (EP X pins σ Q) X.xe s
def MtR (X:Cx)(id:String)(r:V->List V->Hp->VK->Prop):Prop:=
 ∀(pins:List (Addr×Obj)) (s:LB) (σ:St) (H:Hp) (x:V) (xs:List V) (v:Ly) (us:List Ly) (Q:VK),Inv X pins σ H s->RelV x v->Vals xs us->r x xs H Q →
  wpAny (model X.prog X.w) X.A (call (.builtin id) (v::us)) (EP X pins σ Q) X.xe s
section
variable {X:Cx}{a b:Expr}{ta tb:TE}{pos:Pos}
theorem IxR.or {r r':R2}(h:IxR X r)(h':IxR X r'):IxR X (λx y H Q=>r x y H Q\/r' x y H Q):=by
 intro value slice pins s σ H x y v u Q I rx ry q hs;rcases q with q | q
 ·exact h value slice pins s σ H x y v u Q I rx ry q hs
 ·exact h' value slice pins s σ H x y v u Q I rx ry q hs
theorem Jk {r:R2}(hr:IxR X r)(ha:PE X a ta)(hb:PE X b tb)(hs:kA b):PE X (.Subscript a b pos) (tOp r ta tb):=by
 intro pins s σ H Q I h;exact Sv (J1 ha hb I h λv u s2 x y H2 I2 rx ry q=>hr a b pins s2 σ H2 x y v u Q I2 rx ry q (hs _ _))
def IG (K:Lu):R2:=λx y H Q=> ∃p xs i v,x= .ref p/\y= .int i/\SqL K H p xs/\atI xs i=some v/\Q v H
def IE (K:Lu):R2:=λx y H Q=> ∃p xs i v,x= .ref p/\y= .int i/\SqT K H p xs/\atI xs i=some v/\Q v H
def IF:R2:=λx y H Q=> ∃z i c,x= .str z/\y= .int i/\z.length<=sizeLine/\atI z.cps.toList i=some c/\Q (.str ⟨#[c]⟩) H
theorem ix_list:IxR X (IG X.K):=by
 intro value slice pins s σ H x y v u Q I rx ry h hs;obtain⟨p,xs,i,z,rfl,rfl,hq,he,q⟩:=h;cases rx;obtain⟨t,rfl⟩:=ry;obtain⟨its,r,pl,hz⟩:=I.list hq;obtain⟨j,h1,h2,h3,h4,h5⟩:=ur he;obtain⟨w,ew,rw'⟩:=r.get h2
 have hl:=r.length
 have hn:=pF
 have fin:EP X pins σ Q w s:=⟨z,H,I,rw',q⟩
 by_cases h0:0<=i
 ·have hj:i.toNat=j:=by
   rw[seqIndex_of h0 h5]at h1;exact Me h1
  exact item_listR pl.isList h0 (by omega) (by rw[hj];simpa using ew) fin hs
 ·have hj:(i+(its.toArray.size:Int)).toNat=j:=by
   rw[seqIndex_neg (by omega) h4]at h1
   rw[LQ,<-hl];exact Me h1
  exact QP (x:=w) pl.isList.typeIs slot_list_getitem.lookup
   (wpAny_getItem_list_neg (Q:=λr s'=>r=w/\EP X pins σ Q r s') pl.isList (by omega) (by rw[LQ] <;> omega) (by omega) (by rw[hj];simpa using ew) ⟨rfl,fin⟩) hs
theorem ix_tup:IxR X (IE X.K):=by
 intro value slice pins s σ H x y v u Q I rx ry h hs;obtain⟨p,xs,i,z,rfl,rfl,hq,he,q⟩:=h;cases rx;obtain⟨t,rfl⟩:=ry;obtain⟨its,r,pl,hz⟩:=I.tuple hq;obtain⟨j,h1,h2,h3,h4,h5⟩:=ur he;obtain⟨w,ew,rw'⟩:=r.get h2
 have hl:=r.length
 have hn:=pF
 have fin:EP X pins σ Q w s:=⟨z,H,I,rw',q⟩
 exact QP (x:=w) pl.typeIs slot_tuple_getitem.lookup
  (getItem_tuple (j:=j) (Q:=λr s'=>r=w/\EP X pins σ Q r s') pl (by omega) (by omega) (by rw[LQ,<-hl];exact h1) (by simpa using ew) ⟨rfl,fin⟩) hs
theorem Hu:IxR X IF:=by
 intro value slice pins s σ H x y v u Q I rx ry h hs;obtain⟨z,i,c,rfl,rfl,hz,he,q⟩:=h;obtain⟨t,rfl⟩:=rx;obtain⟨t',rfl⟩:=ry;obtain⟨j,h1,h2,h3,h4,h5⟩:=ur he
 have hl:z.cps.toList.length=z.length:=by simp[Str.length]
 rw[hl]at h1 h4 h5
 have hn:=pF
 exact tail_any (typeIs_str s z t) slot_str_getitem.lookup (getItem_str (c:=c) (by
  have e1:decide (i< -(2 ^ 63:Int))=false:=decide_eq_false (by omega)
  have e2:decide (i ≥ 2 ^ 63)=false:=decide_eq_false (by omega)
  rw[e1,e2,Bool.or_false]) (by rw[h1];simpa using h2) ⟨.str ⟨#[c]⟩,H,I.tok _,⟨_,rfl⟩,q⟩) hs
def rIx (K:Lu):R2:=λx y H Q=>IG K x y H Q\/IE K x y H Q\/IF x y H Q
theorem Hv:IxR X (rIx X.K):=ix_list.or (ix_tup.or Hu)
theorem sy (lo hi:Option Int)(n:Nat):(Pj lo hi none n).1=((HT.sIx n 0 lo:Nat):Int)/\(Pj lo hi none n).2.1=((HT.sIx n n hi:Nat):Int)/\(Pj lo hi none n).2.2=1:=by
 refine⟨?_,?_,rfl⟩
 ·cases lo with
  | none=>simp[Pj,HT.sIx]
  | some i=>
   simp only[Pj,HT.sIx,SR,show(1:Int) > 0 by decide,if_true]
   by_cases h:i<0
   ·simp only[h,if_true] <;> omega
   ·simp only[h,if_false] <;> omega
 ·cases hi with
  | none=>simp[Pj,HT.sIx]
  | some i=>
   simp only[Pj,HT.sIx,SR,show(1:Int) > 0 by decide,if_true]
   by_cases h:i<0
   ·simp only[h,if_true] <;> omega
   ·simp only[h,if_false] <;> omega
theorem qr (its:List Ly)(lo hi:Option Int):slicePick its.toArray lo hi none=((its.drop (HT.sIx its.length 0 lo)).take (HT.sIx its.length its.length hi - HT.sIx its.length 0 lo)).toArray:=by
 obtain⟨h1,h2,h3⟩:=sy lo hi its.toArray.size;unfold slicePick;rw[h1,h2,h3];simp only[sliceRange_one,pick_run,LQ] <;> rfl
def rSlL (K:Lu):V->Option Int->Option Int->Hp->VK->Prop:=λx lo hi H Q=> ∃a xs,x= .ref a/\SqL K H a xs/\∀p,H p=none->Q (.ref p) (upd H p (.lst (wj xs lo hi)))
theorem Df:SlR X (rSlL X.K):=by
 intro pins s σ H x v vl vu lo hi sl Q I rx hs pl pu h;obtain⟨a,xs,rfl,hx,q⟩:=h;cases rx;obtain⟨its,r,ht,hz⟩:=I.list hx
 have hlen:=r.length;refine⟨"list",_,slot_list_getitem.lookup,ht.isList.typeIs,?_⟩
 refine wpAny_getItem_list_slice ht.isList hs pl pu .none (by simp) ?_ (by rw[LQ] <;> omega)
 rw[qr,<-hlen];refine⟨.ref s.heap.objs.size,_,I.laid (t':=s.toks) (o:=.lst (wj xs lo hi)) (λb ob q=>LD _ q) (LL _) ?_,rfl,q _ (I.hok.fresh (LL _))⟩
 exact⟨Md (nB xs lo hi) hz,_,0,(r.drop (HT.sIx xs.length 0 lo)).take (HT.sIx xs.length xs.length hi - HT.sIx xs.length 0 lo),LR _ rfl⟩
theorem call_len_seq:CallR X (.builtin "len") (λxs H Q=> ∃p ys,xs= [.ref p]/\(SqL X.K H p ys\/SqT X.K H p ys)/\Q (.int ys.length) H):=by
 intro pins s σ H xs us Q I r h;obtain⟨p,ys,rfl,hq,q⟩:=h;obtain⟨u,rfl,rx⟩:=lA r;cases rx
 have hn:=pF;rcases hq with hq | hq
 ·obtain⟨its,r',pl,hz⟩:=I.list hq
  have hlen:=r'.length;exact Calls.call_len_list pl.isList (by simp only[LQ] <;> omega) ⟨.int ys.length,H,I.tok _,⟨s.toks+1,by rw[LQ,hlen]⟩,q⟩
 ·obtain⟨its,r',pl,hz⟩:=I.tuple hq
  have hlen:=r'.length;exact len_tuple pl (by simp only[LQ] <;> omega) ⟨.int ys.length,H,I.tok _,⟨s.toks+1,by rw[LQ,hlen]⟩,q⟩
theorem um:CallR X (.builtin "len") (λxs H Q=> ∃z,xs= [.str z]/\z.length<=sizeLine/\Q (.int z.length) H):=by
 intro pins s σ H xs us Q I r h;obtain⟨z,rfl,hz,q⟩:=h;obtain⟨u,rfl,t,rfl⟩:=lA r
 have hn:=pF;exact len_str (by omega) ⟨.int z.length,H,I.tok _,⟨_,rfl⟩,q⟩
theorem CallR.or {f:Ly}{r r':List V->Hp->VK->Prop}(h:CallR X f r)(h':CallR X f r'):CallR X f (λxs H Q=>r xs H Q\/r' xs H Q):=by
 intro pins s σ H xs us Q I rs q;rcases q with q | q
 ·exact h pins s σ H xs us Q I rs q
 ·exact h' pins s σ H xs us Q I rs q
theorem qS:CallR X (.type "tuple") (λxs H Q=> ∃p ys,xs= [.ref p]/\((SqL X.K H p ys/\∀l,H l=none->Q (.ref l) (upd H l (.tup ys)))\/(SqT X.K H p ys/\Q (.ref p) H))):=by
 intro pins s σ H xs us Q I r h;obtain⟨p,ys,rfl,h⟩:=h;obtain⟨u,rfl,rx⟩:=lA r;cases rx;rcases h with⟨hq,q⟩ | ⟨hq,q⟩
 ·obtain⟨its,r',pl,hz⟩:=I.list hq
  have hlen:=r'.length;refine call_tuple_list pl.isList (λh' kp=> ?_) (by simp only[LQ] <;> omega)
  have I1:Inv X pins σ H { s with heap:=h' }:=I.kept (t':=s.toks) kp
  have I2:Inv X pins σ (upd H h'.objs.size (.tup ys)) { s with heap:=h'.push { cls:=.type "tuple",data:=.seq its.toArray } }:=
   I1.laid (t':=s.toks) (λb o e=>LD _ e) (LL _) (show ObjOk X.prog X.w _ _ _ (.tup ys)from⟨hz,its,r',Tc _ _⟩)
  exact⟨.ref h'.objs.size,_,I2,rfl,q _ (I1.hok.fresh (LL _))⟩
 ·obtain⟨its,r',pl,hz⟩:=I.tuple hq
  exact call_tuple_same pl ⟨.ref p,H,I,rfl,q⟩
def tyV (K:Lu)(T:String)(x:V)(H:Hp):Prop:=match x with
 | .str _=>T= "str"
 | .int _=>T= "int"
 | .ref p=>(T= "list"/\∃xs,SqL K H p xs)\/(T= "tuple"/\∃o,K.lookup p=some o/\o.cls= .type "tuple"/\o.dict=none) ∨
   (T= "dict"/\((∃kvs,H p=some (.dK kvs))\/∃kvs,H p=some (.dT kvs)))\/(T= "set"/\∃S n,H p=some (.set S n))
 | _=>False
theorem Aq {pins:List (Addr×Obj)}{σ:St}{H:Hp}{s:LB}{T:String}{x:V}{v:Ly}(I:Inv X pins σ H s)(r:RelV x v)(ty:tyV X.K T x H) :
  s.TypeIs v T/\∀a,v= .ref a->∃ob,s.heap.get? a=some ob/\ob.dict=none:=by
 cases x with
 | str z=>
  obtain⟨t,rfl⟩:=r;cases (show T= "str" from ty)
  exact⟨typeIs_str s z t,λ_ e=>nomatch e⟩
 | int i=>
  obtain⟨t,rfl⟩:=r;cases (show T= "int" from ty)
  exact⟨Ri s i t,λ_ e=>nomatch e⟩
 | ref p=>
  cases r;rcases ty with⟨rfl,xs,hq⟩ | ⟨rfl,o,hk,hc,hd⟩ | ⟨rfl,hk⟩ | ⟨rfl,S,n,hk⟩
  ·obtain⟨its,_,pl,_⟩:=I.list hq
   refine⟨pl.isList.typeIs,λa e=> ?_⟩
   cases e;obtain⟨o,n,e,c,hd,_⟩:=pl;exact⟨o,e,hd⟩
  ·refine⟨⟨o,I.kIn p o hk,hc⟩,λa e=> ?_⟩
   cases e;exact⟨o,I.kIn _ o hk,hd⟩
  ·have z:∃o,s.heap.get? p=some o/\o.ExactDict:=by
    rcases hk with⟨kvs,hk⟩ | ⟨kvs,hk⟩
    ·obtain⟨_,_,_,_,o,_,_,e,ex,_⟩:=I.hok p _ hk
     exact⟨o,e,ex⟩
    ·obtain⟨_,_,_,_,o,_,_,e,ex,_⟩:=I.hok p _ hk
     exact⟨o,e,ex⟩
   obtain⟨o,e,ex⟩:=z;refine⟨⟨o,e,ex.1⟩,λa e2=> ?_⟩
   cases e2;exact⟨o,e,ex.2.1⟩
  ·obtain⟨o,_,_,_,e,ex,_⟩:=I.hok p _ hk
   refine⟨⟨o,e,ex.1⟩,λa e2=> ?_⟩
   cases e2
   exact⟨o,e,ex.2.1⟩
 | _=>exact Og ty
def tBM (K:Lu)(T:String)(r:V->List V->Hp->VK->Prop)(to:TE)(t:TA):TE:=λσ H Q=>to σ H λx H1=>tyV K T x H1/\t σ H1 λxs H2=>r x xs H2 Q
variable {o e:Expr}{es:List Expr}{to:TE}{t:TA}{name:Str}{apos cpos:Pos}{T id:String}{r:V->List V->Hp->VK->Prop}
theorem vj (pa:PlainAttrs T)(slot:Slot T name id)(hty:typeOf (.builtin id)=pure (.type "method_descriptor"))(hm:MtR X id r)(ho:PE X o to)(ha:PA X (e::es) t)
  (hbase:MY o name X.env (eval o X.env)=eval o X.env:=by rfl)
  (hfew:((backTo cpos (LP (e::es) X.env)).all (λx=> !x.1)&&(R1 cpos (PX [] X.env)).all (λx=>x.1.isSome)
   &&decide ((e::es).length+([]:List Ss).length+(if ([]:List Ss).isEmpty then 0 else 1)<30))=true:=by rfl)
  (hline:(apos.endLine == cpos.line)=true:=by rfl) (hs:LP (e::es) X.env=(false,eval e X.env)::LP es X.env:=by rfl) (hplain:(backTo cpos (LP es X.env)).any (·.1)=false:=by rfl) :
  PE X (.Call (.Attribute o name apos) (e::es) [] cpos) (tBM X.K T r to t):=by
 intro pins s σ H Q I h;refine QQ hbase hfew hline rfl (cE (ho pins s σ H _ I h) λv s1 hh_=> ?_)
 obtain⟨x,H1,I1,r1,ty,q1⟩:=hh_;obtain⟨h1,h2⟩:=Aq I1 r1 ty;refine⟨T,id,pa,slot,hty,h1,h2,?_⟩
 have hA:=ha cpos pins s1 σ H1 _ I1 q1;rw[hs]at hA ⊢;refine O8 (by show(false||(backTo cpos (LP es X.env)).any (·.1))=false;rw[hplain] <;> rfl) (Ot ?_)
 exact cE hA λus s2 ⟨vs,H2,I2,r2,q2⟩=>hm pins s2 σ H2 x vs v us Q I2 r1 r2 q2
end
def MtM (X:Cx)(id:String)(r:V->List V->Hp->VK->Prop):Prop:=
 ∀(pins:List (Addr×Obj)) (s:LB) (σ:St) (H:Hp) (x:V) (xs:List V) (v:Ly) (us:List Ly) (Q:VK),Inv X pins σ H s->RelV x v->Vals xs us->r x xs H Q →
  wpAny (model X.prog X.w) X.A (call (.builtin id) (v::us)) (EP X pins σ Q) X.xe s
theorem Vals.one:∀{x:V} {us:List Ly},Vals [x] us->∃u,us= [u]/\RelV x u
 | _,_,.cons r .nil=>⟨_,rfl,r⟩
theorem Vals.two:∀{x y:V} {us:List Ly},Vals [x,y] us->∃u v,us= [u,v]/\RelV x u/\RelV y v
 | _,_,_,.cons r (.cons q .nil)=>⟨_,_,rfl,r,q⟩
theorem Vals.rep {xs:List V}{us:List Ly}(h:Vals xs us):∀k:Nat,Vals (LS k xs).flatten (LS k us).flatten
 | 0=> .nil
 | k+1=>by
  rw[Nd,Nd,NY,NY];exact Vals.append h (Vals.rep h k)
theorem foldl_rep (its:List Ly):∀(k:Nat) (acc:List Ly),
  Qi (λx1 x2=>x1++x2) acc.toArray (LS k its.toArray)=(acc++(LS k its).flatten).toArray
 | 0,acc=>by simp
 | k+1,acc=>by
  have e:acc.toArray++its.toArray=(acc++its).toArray:=by simp
  have e2:(acc++its)++(LS k its).flatten=acc++(LS (k+1) its).flatten:=by
   rw[Nd,NY,L0]
  rw[<-e2,<-foldl_rep its k (acc++its),<-e,Nd,Td]
section
variable {X:Cx}{pins:List (Addr×Obj)}{σ:St}{H:Hp}{s:LB}{l b:Addr}{xs ys zs:List V}
theorem Inv.K8 {its its':List Ly}{n:Nat}{f:Array Ly->Array Ly}{t':Nat}(I:Inv X pins σ H s)(hH:H l=some (.lst xs))
  (e:s.heap.get? l=some { cls:=.type "list",data:=.seq its.toArray n }) (hf:f its.toArray=its'.toArray) (hv:Vals ys its') (hz:ys.length<=sizeLine) :
  Inv X pins σ (upd H l (.lst ys)) { s with heap:=s.heap.update l (Qj f),toks:=t' }:=by
 have q:=PySem.IsL.update e f;rw[hf]at q;refine I.write (x:=l) (e:=l) (by rw[hH];exact trivial) (.inl rfl) (λb' u hb hu=>(O9 s.heap (Qj f) (MS hb)).trans hu) ⟨_,q⟩ ?_
 exact⟨hz,its',_,hv,q⟩
theorem Inv.K7 {its:List Ly}{t':Nat}(I:Inv X pins σ H s)(hv:Vals ys its)(hz:ys.length<=sizeLine) :
  Inv X pins σ (upd H s.heap.objs.size (.lst ys)) { s with heap:=s.heap.push { cls:=.type "list",data:=.seq its.toArray },toks:=t' }:=
 I.laid (λ_ _ q=>LD _ q) (LL _) ⟨hz,its,0,hv,LR _ rfl⟩
theorem Inv.fresh (I:Inv X pins σ H s):H s.heap.objs.size=none:=I.hok.fresh (LL _)
theorem Inv.Ku (I:Inv X pins σ H s)(hH:H l=some (.lst xs)):xs.length<=sizeLine/\∃(its:List Ly) (n:Nat),Vals xs its/\xs.length=its.length/\s.heap.get? l=some { cls:=.type "list",data:=.seq its.toArray n }:=by
 obtain⟨z,its,n,r,e⟩:=I.hok l _ hH;exact⟨z,its,n,r,r.length,e⟩
theorem vz {n:Nat}(h:n<=sizeLine):NX n=false:=by
 unfold NX;exact decide_eq_false (by omega)
end
section
variable {X:Cx}
def Dn:V->List V->Hp->VK->Prop:=λx vs H Q=> ∃l xs y,x= .ref l/\vs= [y]/\H l=some (.lst xs)/\xs.length<sizeLine/\Q .non (upd H l (.lst (xs++ [y])))
theorem rF:MtM X "list.append" Dn:=by
 intro pins s σ H x vs v us Q I rx rv h;obtain⟨l,xs,y,rfl,rfl,hH,hz,q⟩:=h;cases rx;obtain⟨u,rfl,ru⟩:=rv.one;obtain⟨z,its,n,r,hl,e⟩:=I.Ku hH;refine Oo F.slot_list_append ⟨_,e,rfl⟩ F.entry_list_append (F.args_list_append_2 _ _) (PySem.list_append l its.toArray n u (by rw[LQ];omega)) ⟨e,?_⟩
 refine⟨.non,_,I.K8 (its':=its++ [u]) hH e (by simp) (r.append (.cons ru .nil)) ?_,rfl,q⟩
 rw[LF,Nu];omega
def Dl:V->List V->Hp->VK->Prop:=λx vs H Q=> ∃l b xs zs,x= .ref l/\vs= [.ref b]/\H l=some (.lst xs)/\H b=some (.lst zs)/\xs.length+zs.length<=sizeLine/\Q .non (upd H l (.lst (xs++zs)))
theorem zy:MtM X "list.extend" Dl:=by
 intro pins s σ H x vs v us Q I rx rv h;obtain⟨l,b,xs,zs,rfl,rfl,hH,hB,hz,q⟩:=h;cases rx;obtain⟨u,rfl,ru⟩:=rv.one;cases ru;obtain⟨z,its,n,r,hl,e⟩:=I.Ku hH;obtain⟨z2,its2,n2,r2,hl2,e2⟩:=I.Ku hB
 have hsz:its.toArray.size+its2.toArray.size<=sizeLine:=by rw[LQ,LQ];omega
 have hlong:¬ (!its.toArray.isEmpty&&NX (its.toArray.size+its2.toArray.size))=true:=by
  rw[vz hsz,Bool.and_false];exact LX
 refine Oo F.slot_list_extend ⟨_,e,rfl⟩ F.entry_list_extend (F.args_list_extend_2 _ _)
  (AutoSeq1.list_extend_list_list_0 l its.toArray n b its2.toArray n2 hlong (by rw[LQ];omega) (by omega)) ⟨e,e2,?_⟩
 refine⟨.non,_,I.K8 (its':=its++its2) hH e (by simp) (r.append r2) ?_,rfl,q⟩
 rw[LF];omega
def rCat:R2:=λx y H Q=> ∃l b xs zs,x= .ref l/\y= .ref b/\H l=some (.lst xs)/\H b=some (.lst zs)/\xs.length+zs.length<=sizeLine/\∀p,H p=none->Q (.ref p) (upd H p (.lst (xs++zs)))
theorem Bk:qi X (Nn .Add) rCat:=by
 intro pins s σ H x y v u Q I rx ry h;obtain⟨l,b,xs,zs,rfl,rfl,hH,hB,hz,q⟩:=h;cases rx;cases ry;obtain⟨z,its,n,r,hl,e⟩:=I.Ku hH;obtain⟨z2,its2,n2,r2,hl2,e2⟩:=I.Ku hB;refine PySem.P.add_list e e2 ?_ (by rw[LQ,LQ];omega)
 have ea:its.toArray++its2.toArray=(its++its2).toArray:=by simp
 rw[ea];exact⟨.ref _,_,I.K7 (t':=s.toks) (r.append r2) (by rw[LF];omega),rfl,q _ I.fresh⟩
def rRep:R2:=λx y H Q=> ∃l k xs,x= .ref l/\y= .int k/\H l=some (.lst xs)/\-(2 ^ 63)<=k/\k<2 ^ 63/\xs.length*k.toNat<=sizeLine ∧
 ∀p,H p=none->Q (.ref p) (upd H p (.lst (LS k.toNat xs).flatten))
theorem len_rep {α:Type}(xs:List α)(k:Nat):(LS k xs).flatten.length=k*xs.length:=by
 induction k with
 | zero=>simp
 | succ k ih=>rw[Nd,NY,LF,ih,Nat.succ_mul,SA]
theorem GW:qi X (Nn .Mult) rRep:=by
 intro pins s σ H x y v u Q I rx ry h;obtain⟨l,k,xs,rfl,rfl,hH,h1,h2,hz,q⟩:=h;cases rx;obtain⟨t,rfl⟩:=ry;obtain⟨z,its,n,r,hl,e⟩:=I.Ku hH
 have hlen:its.toArray.size*k.toNat<=sizeLine:=by rw[LQ,<-hl];exact hz
 have hcap:¬ its.toArray.size*k.toNat > (2 ^ 63 - 1) / 8:=by
  have:(sizeLine:Nat)<=(2 ^ 63 - 1) / 8:=by decide
  omega
 have hfit:¬ (!Builtin.List.listFitsIndex k)=true:=by
  rw[fitsIndex_both h1 h2];exact LX
 have hlong:¬ NX (its.toArray.size*k.toNat)=true:=by
  rw[vz hlen];exact LX
 have hnew:Qi (λx1 x2=>x1++x2) #[] (LS (if its.toArray.isEmpty=true then 0 else k.toNat) its.toArray)=(LS k.toNat its).flatten.toArray:=by
  have f0:∀m:Nat,Qi (λx1 x2=>x1++x2) #[] (LS m its.toArray)=(LS m its).flatten.toArray:=λm=>by
   have:=foldl_rep its m [];rw[MJ]at this;exact this
  rw[f0]
  cases its with
  | nil=>simp
  | cons a r'=>rw[if_neg (by simp)]
 refine Qe (T:="list") (U:="int") (by decide) ⟨_,e,rfl⟩ (λs'=>Ri s' k t) noFill_list_mul Te PM repeat_list SS.lookup
  (Oo PM (Ri s k t) SU (Sf _ _) (int___rmul___int_list k t l its.toArray n)
   ⟨e,rfl,⟨_,e,rfl⟩,Oo F.slot_list_mul ⟨_,e,rfl⟩ F.entry_list_mul (F.args_list_mul_2 _ _) (RM l its.toArray n k t hfit hcap hlong) ⟨e,?_⟩⟩)
 rw[hnew];exact⟨.ref _,_,I.K7 (t':=s.toks) (r.rep k.toNat) (by rw[len_rep,SB];exact hz),rfl,q _ I.fresh⟩
end
end L2
namespace Att
open PySem PySem.W PySem.Calls PyProof.Rows
theorem nP {P:Params}{h:Heap}:∀(ns:List Int) (vs:List Ly),WellAll P h vs (ns.map WData.int)->Ou vs ns:=by
 intro ns
 induction ns with
 | nil=>
  intro vs w;rw[Po]at w;cases w
  exact .nil
 | cons n ns ih=>
  intro vs w;rw[Lx]at w
  cases w with
  | cons a b=>
   cases a;exact .cons _ _ (ih _ b)
theorem zg {l:OpenLaw}{n:Nat}(hn:l.most=some n){P:Params}{h:Heap}{args:List WData}{vals:List Ly}
  (hpre:l.row.toRowW.claim.pre args=true) (hwl:WellAll P h vals args) :
  ∃a vs ns,vals= [LV a]/\args= [WData.list (ns.map WData.int)]/\h.get? a=some { cls:=.type "list",data:=.seq vs.toArray }/\Ou vs ns/\ns.length<=n:=by
 have hsh:WShape.hasAll [] args [.list .int] =true:=(pre_splitW hpre).1
 have hc:l.pre.holds [] { args:=args }=true:=(pre_splitW hpre).2;obtain⟨d,r,rfl,h1,h2⟩:=hasAllW_cons hsh;obtain rfl:=hasAllW_nil h2;obtain⟨xs,rfl,h3⟩:=hasW_list h1;obtain⟨ns,rfl⟩:=items_int h3
 have hlen:ns.length<=n:=by
  unfold OpenLaw.pre at hc
  have h4:(WTm.not (.lt (.lit (.int (n:Int))) (.len (.arg 0)))).holds [] { args:=[.list (ns.map .int)] }=true:=by
   have h4:=(holds_andW hc).1;rw[hn]at h4;exact h4
  have h5:=condW_of h4 (w_not (w_lt w_lit (w_len_list (w_arg rfl))));rw[LA]at h5;refine Nat.le_of_not_lt λq=> ?_
  have q':(n:Int)<((ns.length:Nat):Int):=by omega
  first
   | (rw[decide_eq_true q']at h5;exact absurd h5 (by decide))
   | (simp at h5;omega)
 cases hwl with
 | cons w1 w2=>
  cases w2
  cases w1 with
  | list ho hall=>exact⟨_,_,ns,rfl,rfl,ho,nP ns _ hall,hlen⟩
theorem zk (l:OpenLaw)(args:List WData):l.row.toRowW.claim.post args (.bool true) args=true:=
 postW_of (r:=l.row.toRowW) (X:=(true == true))
  (show WShape.has [] (.bool true) .bool=true by first | rfl | decide | simp[WShape.has,WShape.arms,WShape.armsAll])
  (show(WTm.eq .res (.lit (.bool true))).value [] { args:=args,res:=some (.bool true),after:=args }=some (.bool (true == true))from w_eq_bool (w_res rfl) w_lit) rfl
theorem attach_call {l:OpenLaw}{n:Nat}{q:L1}{loose:List Str}{XP:(Str->Option Ly)->Heap->Prop}{YP:MG->Heap->Prop}{d:DefRec}
  (hn:l.most=some n) (hdf:d.params.defaults= [])
  (call:∀(w:MG) (s₀ s₁:LB) (mg mb:Str->Option Ly) (fa:Addr) (o:Obj) (pm cd doc:Ly) (a:Addr) (vs:List Ly) (ns:List Int),
   Ground q loose [] XP w s₀ mg mb s₁.heap->YP w s₁.heap →
   s₁.heap.get? fa=some o->o.data= .func (docDef d.name d.params d.body d.scope pm cd doc)->s₁.heap.CodeRec cd d.name->mg d.name=some (.ref fa) →
   s₁.heap.get? a=some { cls:=.type "list",data:=.seq vs.toArray }->Ou vs ns->ns.length<=n->s₁.gens= #[] →
   codeAny (model l.prog w) callerA (.call (.ref fa) ⟨[.ref a],[]⟩) (λr s'=>r= .ok (.ret (.bool true))/\OldK s₁.heap s'.heap/\s'.os=s₁.os/\Qw s'.gens) s₁) :
  WalkO q loose XP YP l.row.toRowW d [] (λf vs=>PySem.call f vs):=by
 intro w s₀ s₁ mg mb G Y fa o pm cd doc dV kV ho hd hcd hD hmg hg args vals as hpre hlay hrd hwl hlo;obtain rfl:dV= .none:=Dflts.none hD hdf;obtain rfl:kV= .none:=Dflts.noKw hD;obtain⟨a,vs,ns,rfl,rfl,hobj,hints,hlen⟩:=zg hn hpre hwl;refine enter_call (Pt (call w s₀ s₁ mg mb fa o pm cd doc a vs ns G Y ho (fd_plain hd) hcd hmg hobj hints hlen hg) λr s' hq=> ?_)
 obtain⟨rfl,h2,h3,h4⟩:=hq;exact⟨.inl ⟨.bool true,.bool true,[],rfl,λ_=>rfl,.bool true,zk l _,λ_=>⟨Se,λ_ hm=>(nomatch hm)⟩⟩,h2,h3,h4⟩
end Att
namespace L2
open PySem PySem.Spec PyProof.Rows
theorem qZ:∀{vs:List Ly} {ns:List Int},Ou vs ns->Vals (ns.map V.int) vs
 | _,_,.nil=> .nil
 | _,_,.cons n t h=> .cons ⟨t,rfl⟩ (qZ h)
def H0 (H:Hp):Prop:=∀b,H b=none\/∃o xs,H b=some (.frz o (.lst xs))
theorem BK {P:L1}{w:MG}{K:Lu}{mg mb:Str->Option Ly}{CX:CT}{k:Nat}{fa a:Addr}{fd:MP}{x:Str}{sp:Sp}{s₁:LB}{vs:List Ly}{ns:List Int}
  (KX:K.In s₁.heap) (hns:s₁.heap.Ns Mu mg) (hb:s₁.heap.Ns Rh mb) (hbb:∀x:Str,x≠ "__name__"->mb x=Mg x) (hlim:s₁.heap.NoLimit) (hg:s₁.gens= #[])
  (ha:s₁.heap.get? a=some { cls:=.type "list",data:=.seq vs.toArray }) (hi:Ou vs ns) (hl:ns.length<=sizeLine) (hr:Room k callerA)
  (F:∀base:Heap,K.In base->base.Ns Mu mg->qW P w K mg base CX k fa fd [x] sp) (hbind:∀(s:LB) (u:Ly),RD s fd ⟨[u],[]⟩ [(x,u)])
  (hsp:∀H:Hp,H0 H->SqL K H a (ns.map V.int)->sp [.ref a] H (λv _=>v= .bl true) λ_ _ _=>False)
  (hCX:∀H e s',CX [] H s₁ (λ_ _ _=>False) e s'->False) :
  codeAny (model P w) callerA (.call (.ref fa) ⟨[.ref a],[]⟩) (λr s'=>r= .ok (.ret (.bool true))/\OldK s₁.heap s'.heap/\s'.os=s₁.os/\Qw s'.gens) s₁:=by
 have rv:=qZ hi
 have lenV:=hi.length
 -- from an abstract heap in which nothing but the script may be tracked
 have core:∀H:Hp,H0 H->SqL K H a (ns.map V.int)->HOk P w H s₁.heap->(∀b,H b≠none->b=a)->(H a≠none->K.lookup a=none) →
   codeAny (model P w) callerA (.call (.ref fa) ⟨[.ref a],[]⟩) (λr s'=>r= .ok (.ret (.bool true))/\OldK s₁.heap s'.heap/\s'.os=s₁.os/\Qw s'.gens) s₁:=by
  intro H hO hS hok hA hK
  have base_of:∀{b:Addr} {o:Obj},s₁.heap.get? b=some o->H b=none->(ua s₁.heap H).get? b=some o:=λe n=>B3 e n
  have noA:∀{b:Addr} {o:Obj} {es:Array DictEntry} {ep:Nat},s₁.heap.get? b=some o->o.data= .dict es ep->H b=none:=λ{b o es ep} e d=>by
   cases q:H b with
   | none=>rfl
   | some u=>
    have e':b=a:=hA b (by rw[q];simp)
    subst e';rw[ha]at e;cases e
    have d':Data.seq vs.toArray _=Data.dict es ep:=d;cases d'
  have nsK:∀{b:Addr} {m:Str->Option Ly},s₁.heap.Ns b m->(ua s₁.heap H).Ns b m:=λ{b m} ⟨o,es,ep,e,d,r⟩=>⟨o,es,ep,base_of e (noA e d),d,r⟩
  have hKb:K.In (ua s₁.heap H):=λb o e=>base_of (KX b o e) (by
   cases q:H b with
   | none=>rfl
   | some u=>
    have e':b=a:=hA b (by rw[q];simp)
    subst e';rw[hK (by rw[q];simp)]at e;cases e)
  have hM:Mod K mg (ua s₁.heap H):=⟨hKb,nsK hns,⟨mb,nsK hb,hbb⟩,let ⟨mc,h1,h2⟩:=hlim;⟨mc,nsK h1,h2⟩⟩
  have e0:wu P w K mg (ua s₁.heap H) callerA [] s₁ H:=⟨rfl,hM,λb o e=>DY e,OK (zN _ _),trivial,λb hb=>absurd (show b∈([]:List Addr)from hb) (by simp),hok,.of_eq hg⟩
  refine Pt ((F _ hKb (nsK hns)).run callerA [] s₁ H ⟨[.ref a],[]⟩ [.ref a] [.ref a] _ _ hr e0 (hbind s₁ (.ref a)) (.cons rfl .nil) (hsp H hO hS)) λr s' h=> ?_
  cases r with
  | error e=>exact(hCX H e s' h).elim
  | ok fl=>
   cases fl with
   | next=>exact Og h
   | brk=>exact Og h
   | cont=>exact Og h
   | ret u=>
    obtain⟨v,H',os,bare,un,hok',r',q⟩:=h
    have q':v= .bl true:=q;subst q';obtain rfl:u=Mv true:=r';refine⟨rfl,OldK.of_keep λb o e=> ?_,os,bare⟩
    cases q:H b with
    | none=>exact un.keep b o e q (by intro z;exact absurd (show b∈([]:List Addr)from z) (by simp)) (by simp)
    | some u=>
     rcases hO b with z | ⟨ob,xs,z⟩
     ·rw[q]at z;cases z
     ·have z2:=un.frzs b ob _ z
      obtain⟨e1,_⟩:=hok b _ z;obtain⟨e2,_⟩:=hok' b _ z2;rw[e]at e1;cases e1;exact e2
 cases hk:K.lookup a with
 | some o=>
  -- the script is one of the module's own objects
  have e:=KX a o hk;rw[ha]at e;cases e
  refine core (λ_=>none) (λ_=> .inl rfl) (.inr ⟨_,vs.toArray,_,hk,rfl,rfl,rfl,by rw[LQ,lenV];exact hl,by simpa using rv⟩) (λb u z=>by have z':(none:Option HO)=some u:=z;cases z') (λb z=>absurd rfl z) λz=>absurd rfl z
 | none=>
  refine core (λb=>if b=a then some (.frz { cls:=.type "list",data:=.seq vs.toArray } (.lst (ns.map V.int)))else none) (λb=> ?_) (.inl (.inr ⟨{ cls:=.type "list",data:=.seq vs.toArray },if_pos rfl⟩)) (λb u z=> ?_) (λb z=> ?_) λ_=>hk
  ·by_cases hb:b=a
   ·exact .inr ⟨_,_,if_pos hb⟩
   ·exact .inl (if_neg hb)
  ·by_cases hb:b=a
   ·have z':=(if_pos hb).symm.trans z
    cases z';subst hb;exact⟨ha,by rw[LA];exact hl,vs,_,rv,ha⟩
   ·have z':=(if_neg hb).symm.trans z
    cases z'
  ·by_cases hb:b=a
   ·exact hb
   ·exact absurd (if_neg hb) z
def i9 (s:Stmt):TC:=match s with
 | .FunctionDef _ a _ _ _ _ _ _ _ _=>a
 | _=> { posonlyargs:=[],args:=[],vararg:=none,kwonlyargs:=[],kw_defaults:=[],kwarg:=none,defaults:=[] }
def du (s:Stmt):List Stmt:=match s with
 | .FunctionDef _ _ b _ _ _ _ _ _ _=>b
 | _=> []
def aq (s:Stmt):OY:=match s with
 | .FunctionDef _ _ _ _ _ _ sc _ _ _=>sc
 | _=> { kind:=.function,names:=[],isGenerator:=false,isCoroutine:=false }
abbrev CX0:CT:=λ_ _ _ _ _ _=>False
abbrev E0:XK:=λ_ _ _=>False
theorem ye {X:Cx}:uz CX0 X E0:=λ_ _ _ _ _ _ _ h=>h.elim
structure Fun (K:Lu)(x qual:Str)(st:Stmt)(f:Addr)(fd:MP):Prop where
 ex:∃(oc:Ly) (od:Option Addr) (kV doc pm:Ly) (an:Option Addr) (cdv ct:Ly) (osl:Array (Option Ly)),
  fd=Pl x qual (i9 st) (du st) (aq st) .none kV doc pm an cdv ct/\K.lookup f=some ⟨oc,od,.func fd,osl⟩/\Ro K cdv qual=true
 kp:Nk K (.ref f)=true
section
variable {P:L1}{w:MG}{K:Lu}{mg:Str->Option Ly}{base:Heap}
theorem Fun.ok {x qual:Str}{st:Stmt}{f:Addr}{fd:MP}{N ps:List Str}{k:Nat}{sp:Sp}(F:Fun K x qual st f fd)(S:aE N ps (aq st))(len:∀vs H Q E,sp vs H Q E->vs.length=ps.length)
  (hbody:∀(cdv:Ly) (A:Mh) (outer:List Env) (s:LB) (H:Hp) (vs:List V) (Q:VK) (E:XK),Room k (A.deeper (envOfC qual (aq st) s.heap.objs.size f cdv))->sp vs H Q E →
   ∃t,PSs (ml CX0 P w K mg base N qual (aq st) f cdv A outer s H E).nox (du st) t/\t { nx:=λ_ H'=>Q .non H',rt:=Q } (start N vs) H):qW P w K mg base CX0 (k+1) f fd ps sp:=by
 obtain⟨oc,od,kV,doc,pm,an,cdv,ct,osl,rfl,lk,hcd⟩:=F.ex;refine JW lk hcd S len λA outer s H vs Q E hr hsp=> ?_
 obtain⟨t,h,q⟩:=hbody cdv A outer s H vs Q E hr hsp;exact⟨t,h.nox,q⟩
theorem Fun.binds {x qual:Str}{st:Stmt}{f:Addr}{fd:MP}{ps:List Str}(F:Fun K x qual st f fd)
  (h:∀(kV doc pm:Ly) (an:Option Addr) (cdv ct:Ly) (us:List Ly),us.length=ps.length->bindArgs (Pl x qual (i9 st) (du st) (aq st) .none kV doc pm an cdv ct) ⟨us,[]⟩=pure (ps.zip us)):Binds K fd ps []:=by
 obtain⟨oc,od,kV,doc,pm,an,cdv,ct,osl,rfl,lk,hcd⟩:=F.ex;exact .all (h kV doc pm an cdv ct)
theorem HC {x qual:Str}{st:Stmt}{f:Addr}{oc:Ly}{od an:Option Addr}{osl:Array (Option Ly)}{kV doc pm cdv ct:Ly}(l:K.lookup f=some ⟨oc,od,.func (Pl x qual (i9 st) (du st) (aq st) .none kV doc pm an cdv ct),osl⟩)
  (c:Ro K cdv qual=true) (k:Nk K (.ref f)=true):Fun K x qual st f (Pl x qual (i9 st) (du st) (aq st) .none kV doc pm an cdv ct):=⟨⟨oc,od,kV,doc,pm,an,cdv,ct,osl,rfl,l,c⟩,k⟩
end
section
variable {X:Cx}
theorem pv (i:Nat){x:Str}{pos:Pos}(hN:X.N[i]? =some x:=by rfl)(hv:sd X.env.scope x:=by first | exact MR rfl | exact MF (MR rfl) | exact MF (MF rfl))(hd:gE x:=by decide)
  (hcd:(x == ("__classdict__" : Str))=false:=by decide):PE X (.Name x pos) (oC i):=iu hN hv hd hcd
end
theorem iteF {A B:Prop}(h:B):if false=true then A else B:=by
 rw[if_neg LX];exact h
theorem iteT {A B:Prop}(h:A):if true=true then A else B:=by
 rw[if_pos rfl];exact h
def Same (H H':Hp):Prop:=∀b o,H b=some o->H' b=some o
theorem Same.refl (H:Hp):Same H H:=λ_ _ h=>h
theorem Same.trans {H H1 H2:Hp}(a:Same H H1)(b:Same H1 H2):Same H H2:=λc o h=>b c o (a c o h)
theorem lr {env:Env}:∀(names:List (Str×Ol)) (acc:List (Str×Addr)),
  (∀x,(x,Mk)∈names->∃c,env.cells.lookup x=some c) →
  (∀x c,acc.lookup x=some c->env.cells.lookup x=some c) →
  ∃cl,(forIn (m:=Sem) names acc (λx cs=>(if (x.2 == Mk)=true then do let a <-cellOf env x.1;pure (Oc ((x.1,a)::cs))else pure (Oc cs))))=pure cl ∧
   (∀x c,cl.lookup x=some c->env.cells.lookup x=some c) ∧
   (∀x,(x,Mk)∈names->∃c,cl.lookup x=some c)/\(∀x c,acc.lookup x=some c->∃c',cl.lookup x=some c')
 | [],acc,_,h=>⟨acc,rfl,h,λx hx=>by simp at hx,λx c e=>⟨c,e⟩⟩
 | (n,k)::r,acc,hf,h=>by
  by_cases hk:k=Mk
  ·subst hk
   obtain⟨c,hc⟩:=hf n (by simp)
   have h':∀x c',((n,c)::acc).lookup x=some c'->env.cells.lookup x=some c':=λx c' e=>by
    rw[ML]at e
    cases q:x == n with
    | true=>
     rw[q]at e
     have e2:c=c':=Me e
     have e3:x=n:=by simpa using q
     rw[<-e2,e3];exact hc
    | false=>rw[q]at e;exact h x c' e
   obtain⟨cl,e1,e2,e3,e4⟩:=lr r ((n,c)::acc) (λx hx=>hf x (Lw _ hx)) h'
   refine⟨cl,?_,e2,λx hx=> ?_,λx c' e=> ?_⟩
   ·rw[OU]
    simp only[beq_self_eq_true,if_true,cellOf,hc,pure_bind];exact e1
   ·rcases LH.mp hx with z | z
    ·have z1:x=n:=by injection z
     subst z1;exact e4 x c (by simp[ML])
    ·exact e3 x z
   ·cases q:x == n with
    | true=>exact e4 x c (by simp[ML,q])
    | false=>exact e4 x c' (by simp[ML,q,e])
  ·have hb:(k == Mk)=false:=by simpa using hk
   obtain⟨cl,e1,e2,e3,e4⟩:=lr r acc (λx hx=>hf x (Lw _ hx)) h
   refine⟨cl,?_,e2,λx hx=> ?_,e4⟩
   ·rw[OU]
    simp only[hb,NN,if_false,pure_bind];exact e1
   ·rcases LH.mp hx with z | z
    ·have z1:Mk=k:=by injection z
     exact absurd z1.symm hk
    ·exact e3 x z
theorem xG {env:Env}{scope:OY}(hf:∀x,(x,Mk)∈scope.names->∃c,env.cells.lookup x=some c) :
  ∃cl,closureFor scope env=pure cl/\(∀x c,cl.lookup x=some c->env.cells.lookup x=some c)/\(∀x,(x,Mk)∈scope.names->∃c,cl.lookup x=some c):=by
 obtain⟨cl,e1,e2,e3,_⟩:=lr scope.names [] hf (λx c e=>by simp at e)
 refine⟨cl,?_,e2,e3⟩
 unfold closureFor;refine Eq.trans ?_ (congrArg (λz=>z >>= pure) e1|>.trans (by simp))
 rfl
theorem uj {pr:L1}{wd:MG}{Ar:Mh}{Rz:TR->LB->Prop}{s0:LB}{el tg it0:Expr}{cs:List Expr}{sc:OY}{ps:Pos}{itv av:Ly}{ev:Env}(W:Nat->LB->Prop)
  (go:∀k st,W k st->wpAny (model pr wd) Ar (pyNext itv) (λr s1=>match r with
   | none=>Rz (.ok .next) s1
   | some v=>wpAny (model pr wd) Ar (O0 tg itv v) (λ_ s2=>wpAny (model pr wd) Ar (assign tg ev v) (λ_ s3=>
     wpAny (model pr wd) Ar (forIn cs true λc b=>if b=true then do let z <-isTrue c ev (eval c ev);pure (Oc z)else pure (Oc b)) (λz s4=>
      if z=true then wpAny (model pr wd) Ar (eval el ev) (λy s5=>
       wpAny (model pr wd) Ar (call (.builtin "list.append") [av,y]) (λ_ s6=> ∃m,m<k/\W m s6) (λ_ _=>False) s5) (λ_ _=>False) s4
      else ∃m,m<k/\W m s4) (λ_ _=>False) s3) (λ_ _=>False) s2) (λ_ _=>False) s1) (λ_ _=>False) st)
  (k:Nat) (hk:W k s0):codeAny (model pr wd) Ar (.compLoop (.ListComp el [⟨tg,it0,cs,0⟩] sc ps) 0 itv av ev) Rz s0:=by
 refine codeAny_loop rfl W (λk st hw=> ?_) k hk
 show wpAny (model pr wd) Ar ((compTurn (.ListComp el [⟨tg,it0,cs,0⟩] sc ps) 0 itv av ev).onRaise (λz=>do TF z ev;theTreesLotGoes z)) _ _ st
 refine wpAny_noted ?_
 rw[compTurn_list]
 have no:∀{α:Type} {t:Sem α} {Q Q':α->LB->Prop} {E':Ly->LB->Prop} {x:LB},wpAny (model pr wd) Ar t Q (λ_ _=>False) x->(∀y z,Q y z->Q' y z)->wpAny (model pr wd) Ar t Q' E' x:=λh f=>Nh h f λ_ _ z=>z.elim
 refine Lv (wpAny_standAt (Lv (no (go k st hw) λr s1 g1=> ?_)))
 cases r with
 | none=>exact LI g1
 | some v=>
  refine Lv (no g1 λ_ s2 g2=>Lv (no g2 λ_ s3 g3=>Lv (no g3 λz s4 g4=> ?_)))
  cases z with
  | false=>exact LI (Tf rfl g4)
  | true=>exact Lv (Lv (no g4 λy s5 g5=>Lv (no g5 λ_ s6 g6=>LI (LI (Tf rfl g6)))))
def cx (X:Cx)(scope:OY)(cl:List (Str×Addr))(N':List Str)(C:Addr)(s₀:LB)(H₀:Hp)(fp:List Addr):Cx:=
 { X with N:=N',s₀:=s₀,H₀:=H₀,env:=compEnvC scope cl C X.env,outer:=X.stack,stack:=X.stack,ex:=fp,fn:=λx=>scope.names.lookup x == some .cell,xe:=λ_ _=>False }
def gF (src:List (Option Nat))(σ:St):St:=src.map λo=>match o with
 | some i=>(σ[i]?).join
 | none=>none
theorem jM {env:Env}:∀{names:List (Str×Ol)} {x:Str} {k:Ol},
  (names.map λ(n,k)=>if (k == Mk&&env.scope.kind == .function&&env.kindOf n == some .cell)then(n,M6)else(n,k)).lookup x=some k →
  ∃k',names.lookup x=some k'/\(k=k'\/k'= .free)
 | [],_,_,h=>by simp at h
 | (n,k0)::r,x,k,h=>by
  have ih:=@jM env r x k
  have h':Pc x ((if (k0 == Mk&&env.scope.kind == .function&&env.kindOf n == some .cell)=true then(n,M6)else(n,k0))::(r.map λ(n,k)=>if (k == Mk&&env.scope.kind == .function&&env.kindOf n == some .cell)then(n,M6)else(n,k)))=some k:=h
  by_cases hc:(k0 == Mk&&env.scope.kind == .function&&env.kindOf n == some .cell)=true
  ·rw[if_pos hc]at h'
   rw[ML]at h' ⊢
   cases hx:x == n with
   | true=>
    refine⟨k0,rfl,.inr ?_⟩
    have:=NA.mp hc|>.1
    have:=NA.mp this|>.1
    simpa using this
   | false=>rw[hx]at h';exact ih h'
  ·rw[if_neg hc]at h'
   rw[ML]at h' ⊢
   cases hx:x == n with
   | true=>rw[hx]at h';exact⟨k0,rfl,.inl (Me h').symm⟩
   | false=>rw[hx]at h';exact ih h'
theorem kj {names:List (Str×Ol)}{x:Str}{k:Ol}(h:names.lookup x=some k):(x,k)∈names:=ND h
theorem jt {env:Env}:∀{names:List (Str×Ol)} {x:Str},names.lookup x=some .free →
  (names.map λ(n,k)=>if (k == Mk&&env.scope.kind == .function&&env.kindOf n == some .cell)then(n,M6)else(n,k)).lookup x=some .cell ∨
  (names.map λ(n,k)=>if (k == Mk&&env.scope.kind == .function&&env.kindOf n == some .cell)then(n,M6)else(n,k)).lookup x=some .free
 | [],_,h=>by simp at h
 | (n,k0)::r,x,h=>by
  have ih:=@jt env r x
  show Pc x ((if (k0 == Mk&&env.scope.kind == .function&&env.kindOf n == some .cell)=true then(n,M6)else(n,k0))::_)=_\/Pc x ((if (k0 == Mk&&env.scope.kind == .function&&env.kindOf n == some .cell)=true then(n,M6)else(n,k0))::_)=_
  rw[ML]at h
  by_cases hc:(k0 == Mk&&env.scope.kind == .function&&env.kindOf n == some .cell)=true
  ·rw[if_pos hc]
   rw[ML]
   cases hx:x == n with
   | true=>exact .inl rfl
   | false=>rw[hx]at h;exact ih h
  ·rw[if_neg hc]
   rw[ML]
   cases hx:x == n with
   | true=>rw[hx]at h;exact .inr h
   | false=>rw[hx]at h;exact ih h
section
variable {X:Cx}
structure LcScope (X:Cx)(scope:OY)(N':List Str)(src:List (Option Nat)):Prop where
 kind:scope.kind= .function
 cel:∀y∈scope.names,y.2= .cell->scope.names.lookup y.1=some .cell
 loc:∀y∈scope.names,y.2= .local->scope.names.lookup y.1=some .local
 len:src.length=N'.length
 from_:∀(j i:Nat) (x:Str),src[j]? =some (some i)->N'[j]? =some x->X.N[i]? =some x/\scope.names.lookup x=some .free
 free:∀x,(x,Mk)∈scope.names->X.env.kindOf x=some .cell\/X.env.kindOf x=some .free
def FR (K:Lu)(wi:TI)(src:List (Option Nat))(g:TG)(tc:TT)(te:TE):TE:=λσ H Q=>wi σ H λJ H1=> ∀D,H1 D=none->K.lookup D=none →
 ∃W:Nat->Nat->St->List V->Hp->Prop,(∃m,W 0 m (gF src σ) [] (upd H1 D (.lst [])))/\∀i m σ ys H,W i m σ ys H->H D=some (.lst ys) ∧
  ((J.stop i H/\Q (.ref D) H)\/(J.go i H/\ys.length<sizeLine/\∀x H',J.yld i H x H'->g x σ H' λσ2 H2=>tc σ2 H2 λb H3=>
   if b=true then te σ2 H3 λv H4=>H4 D=some (.lst ys)/\∃m',m'<m/\W (i+1) m' σ2 (ys++ [v]) (upd H4 D (.lst (ys++ [v])))else ∃m',m'<m/\W (i+1) m' σ2 ys H3))
def Aj (X:Cx)(ifs:List Expr)(t:TT):Prop:=
 ∀(pins:List (Addr×Obj)) (s:LB) (σ:St) (H:Hp) (Q:Bool->Hp->Prop),Inv X pins σ H s->t σ H Q →
  wpAny (model X.prog X.w) X.A (forIn ifs true λc r=>if r=true then do let ok <-isTrue c X.env (eval c X.env);pure (Oc ok)else pure (Oc r)) (TP X pins σ Q) X.xe s
def uM:TT:=λ_ H Q=>Q true H
theorem sS:Aj X [] uM:=λ_ _ _ H _ I h=>wpAny_tests_nil ⟨H,I,h⟩
theorem DN {c:Expr}{t:TT}(h:PT X c t):Aj X [c] t:=λpins s σ H Q I q=>wpAny_tests_one (h pins s σ H Q I q)
theorem mV:∀(names:List (Str×Ol)) (h:Heap) (acc:List (Str×Addr)),(∀x y c,acc.lookup x=some c->acc.lookup y=some c->x=y)->(∀x c,acc.lookup x=some c->c<h.objs.size) →
  (∀x c,(NP h.objs.size names acc).lookup x=some c->acc.lookup x=some c\/(h.objs.size<=c/\(Rb h names).IsCell c none)) ∧
  (∀x y c,(NP h.objs.size names acc).lookup x=some c->(NP h.objs.size names acc).lookup y=some c->x=y) ∧
  (∀x,(x,M6)∉names->(NP h.objs.size names acc).lookup x=acc.lookup x) ∧
  (∀x,((x,M6)∈names\/∃c,acc.lookup x=some c)->∃c,(NP h.objs.size names acc).lookup x=some c) ∧
  (∀x c,(x,M6)∈names->(NP h.objs.size names acc).lookup x=some c->h.objs.size<=c)
 | [],h,acc,hi,_=>⟨λ_ _ e=> .inl e,hi,λ_ _=>rfl,λx e=>e.elim (λz=>absurd z MC) id,λ_ _ z=>absurd z MC⟩
 | (n,k)::r,h,acc,hi,hl=>by
  unfold NP Rb
  by_cases hk:k= .cell
  ·subst hk
   rw[if_pos (by rfl),if_pos (by rfl)]
   have hz:(h.push { cls:=.type "cell",data:=.cell none }).objs.size=h.objs.size+1:=M0 ..
   have lk:∀x,((n,h.objs.size)::acc).lookup x=if x=n then some h.objs.size else acc.lookup x:=λx=>by
    rw[ML]
    by_cases e:x=n
    ·rw[if_pos e,beq_iff_eq.mpr e]
    ·rw[if_neg e,beq_eq_false_iff_ne.mpr e]
   obtain⟨c1,c2,c3,c4,c5⟩:=mV r (h.push { cls:=.type "cell",data:=.cell none }) ((n,h.objs.size)::acc) (λx y c e1 e2=>by
     rw[lk]at e1 e2
     by_cases q1:x=n
     ·by_cases q2:y=n
      ·rw[q1,q2]
      ·rw[if_pos q1]at e1;rw[if_neg q2]at e2
       cases e1;exact absurd (hl _ _ e2) (L6 _)
     ·rw[if_neg q1]at e1
      by_cases q2:y=n
      ·rw[if_pos q2]at e2
       cases e2;exact absurd (hl _ _ e1) (L6 _)
      ·rw[if_neg q2]at e2;exact hi x y c e1 e2) (λx c e=>by
     rw[lk]at e;rw[hz]
     by_cases q:x=n
     ·rw[if_pos q]at e;cases e;exact SV _
     ·rw[if_neg q]at e;exact Pd (hl x c e))
   rw[hz]at c1 c2 c3 c4 c5;refine⟨λx c e=> ?_,c2,λx hx=> ?_,λx hx=> ?_,λx c hx e=> ?_⟩
   ·rcases c1 x c e with z | z
    ·rw[lk]at z
     by_cases q:x=n
     ·rw[if_pos q]at z;cases z
      exact .inr ⟨LL _,_,Rc r _ _ _ (LR _ rfl),rfl⟩
     ·rw[if_neg q]at z;exact .inl z
    ·exact .inr ⟨Pe z.1,z.2⟩
   ·rw[c3 x λz=>hx (Lw _ z),lk,if_neg λz=>hx (by rw[z];exact Lz)]
   ·refine c4 x ?_
    rcases hx with hx | hx
    ·rcases LH.mp hx with z | z
     ·cases z
      exact .inr ⟨_,by rw[lk,if_pos rfl]⟩
     ·exact .inl z
    ·by_cases q:x=n
     ·exact .inr ⟨_,by rw[lk,if_pos q]⟩
     ·exact .inr (by rw[lk,if_neg q];exact hx)
   ·rcases LH.mp hx with z | z
    ·have q:x=n:=(S9 z).1
     rcases c1 x c e with y | y
     ·rw[lk,if_pos q]at y;cases y;exact LL _
     ·exact Pe y.1
    ·exact Pe (c5 x c z e)
  ·have hb:¬ (k == M6)=true:=λz=>hk (by simpa using z)
   rw[if_neg hb,if_neg hb];obtain⟨c1,c2,c3,c4,c5⟩:=mV r h acc hi hl;exact⟨c1,c2,λx hx=>c3 x λz=>hx (Lw _ z),λx hx=>c4 x (hx.imp (λz=>(LH.mp z).resolve_left λz=>hk (S9 z).2.symm) id),λx c hx=>c5 x c ((LH.mp hx).resolve_left λz=>hk (S9 z).2.symm)⟩
theorem zu {M:TQ}{A:Mh}{E:Ly->LB->Prop}{s:LB}{scope:OY}{globals:Addr}{cl:List (Str×Addr)}{qual:Str}{env:Env}{Q:Env->LB->Prop}
  (q:Q (newEnv scope s.heap.objs.size globals (NP (s.heap.objs.size+1) scope.names cl) qual none .none (some env) Rh) { s with heap:=Rb (s.heap.push { cls:=.type "dict",data:=.dict #[] }) scope.names }) :
  wpAny M A (newFunctionEnv scope globals cl [] qual none .none (some env)) Q E s:=by
 simp only[newFunctionEnv,RN,if_true];refine Lv (wpAny_alloc (Lv (wpAny_layCells _ (λname kind cells=>by cases hkc:kind == M6 <;> simp[hkc]) _ _ _ _ ?_)))
 rw[show({ s with heap:=s.heap.push { cls:=.type "dict",data:=.dict #[] } }:LB).heap.objs.size=s.heap.objs.size+1 from M0 ..]
 rw[Pk];exact Lv (LI (LI q))
theorem yy {elt tg iter:Expr}{ifs:List Expr}{scope:OY}{pos fpos:Pos}{N':List Str}{src:List (Option Nat)}{wi:TI}{g:TG}{tc:TT}{te:TE}{use:Option (Ly->Sem Unit)}{Qf:Ly->LB->Prop}
  {pins:List (Addr×Obj)} {s:LB} {σ:St} {H:Hp} {Q:VK}
  (hc:X.calm=true) (S:LcScope X scope N' src) (hi:PI X tg iter wi)
  (block:∀cl C s₀ H₀ fp,PG (cx X scope cl N' C s₀ H₀ fp) tg g/\Aj (cx X scope cl N' C s₀ H₀ fp) ifs tc/\PE (cx X scope cl N' C s₀ H₀ fp) elt te)
  (hs:∀x,Mp iter X.env x=pure x) (I:Inv X pins σ H s) (h:FR X.K wi src g tc te σ H Q)
  (hend:∀(D C:Addr) (H':Hp) (s':LB),(∃m,s'.heap.Ns C m)->(∀h',OI C s'.heap h'->Inv X pins σ H' { s' with heap:=h' })->(H' C=none/\C≠X.env.locals/\X.s₀.heap.objs.size<=C/\(∀x c,X.env.cells.lookup x=some c->c≠C)/\∀p∈X.pn++pins,p.1≠C)->Q (.ref D) H' →
   compPost (model X.prog X.w) X.A X.xe use Qf (.ref D) C (.ok .next) s') :
  wpAny (model X.prog X.w) X.A (comprehension (.ListComp elt [⟨tg,iter,ifs,0⟩] scope pos) scope X.env fpos (newList []) false (eval iter X.env) use) Qf X.xe s:=by
 have hcell:∀x,(x,Mk)∈scope.names->∃c,X.env.cells.lookup x=some c:=λx hx=>I.ok.has x (S.free x hx)
 obtain⟨cl0,hcl,cl01,cl02⟩:=xG (env:=X.env) (scope:=scope) hcell;refine wpAny_comprehension_free (use:=use) rfl hs hcl S.kind S.loc (cE (hi pins s σ H _ I h) λv s1 h1=>cE h1 λitv s2 h2=> ?_)
 obtain⟨it,fp,tn,J,H2,e,I2,T,st2,f2,hq⟩:=h2;subst e
 -- the new list
 refine Nj ?_
 have hD:H2 s2.heap.objs.size=none:=I2.hok.fresh (LL _)
 have hDK:X.K.lookup s2.heap.objs.size=none:=by
  cases q:X.K.lookup s2.heap.objs.size with
  | none=>rfl
  | some o=>exact absurd (LO (I2.kIn _ o q)) (L6 _)
 obtain⟨W,⟨m0,w0⟩,turn⟩:=hq s2.heap.objs.size hD hDK
 have I3:=I2.K7 (its:=[]) (ys:=[]) (t':=s2.toks) .nil (MT _)
 generalize hs3:({ s2 with heap:=s2.heap.push { cls:=.type "list",data:=.seq ([]:List Ly).toArray },toks:=s2.toks }:LB)=s3 at I3
 generalize hH3:upd H2 s2.heap.objs.size (.lst [])=H3 at I3 w0
 have hDsz:s2.heap.objs.size<s3.heap.objs.size:=by rw[<-hs3];simp[M0]
 have fr3:∀b∈fp,H3 b=none:=λb hb=>by
  obtain⟨o,eo,_⟩:=T.obj _ _ st2 b hb;rw[<-hH3,aI (Mr (LO eo))];exact(f2 b hb).1
 have st3:tn 0 s3.heap:=T.keep _ _ _ st2 λb hb o e=>by rw[<-hs3];exact LD _ e
 have f3:∀b∈fp,nU X pins H3 b:=λb hb=>⟨fr3 b hb,(f2 b hb).2⟩
 have D3:H3 s2.heap.objs.size=some (.lst []):=by rw[<-hH3];exact aJ
 generalize s2.heap.objs.size=D at*
 clear hs3 hH3 hD hDK
 -- the block's frame
 refine zu ?_
 have old:∀b o,s3.heap.get? b=some o->(Rb (s3.heap.push { cls:=.type "dict",data:=.dict #[] }) scope.names).get? b=some o:=λb o e=>Rc _ _ b o (LD _ e)
 have hns₁:(Rb (s3.heap.push { cls:=.type "dict",data:=.dict #[] }) scope.names).Ns s3.heap.objs.size (λ_=>none):=(Heap.Ns.new s3.heap (.type "dict")).keeps (Rc _ _)
 have hz3:(s3.heap.push { cls:=.type "dict",data:=.dict #[] }).objs.size=s3.heap.objs.size+1:=M0 ..
 have lt0:∀x c,cl0.lookup x=some c->c<s3.heap.objs.size:=λx c e=>let ⟨_,ic⟩:=I3.cell x c (cl01 x c e);ic.lt
 obtain⟨c1,c2,c3,c4,c5⟩:=mV scope.names (s3.heap.push { cls:=.type "dict",data:=.dict #[] }) cl0 (λx y c e1 e2=>I3.ok.inj x y c (cl01 x c e1) (cl01 y c e2)) λx c e=>by rw[hz3];exact Pd (lt0 x c e)
 rw[hz3]at c1 c2 c3 c4 c5
 generalize hcl':NP (s3.heap.objs.size+1) scope.names cl0=cl at*
 generalize hh₁:Rb (s3.heap.push { cls:=.type "dict",data:=.dict #[] }) scope.names=h₁ at*
 have below:∀b o,s3.heap.get? b=some o->b≠s3.heap.objs.size:=λb o e=>Mr (LO e)
 -- a cell of the block's: one from around,or a new one
 have cl1:∀x c,cl.lookup x=some c->X.env.cells.lookup x=some c\/(s3.heap.objs.size<c/\h₁.IsCell c none):=λx c e=>(c1 x c e).imp (cl01 x c) id
 generalize hC:s3.heap.objs.size=C at*
 have stk:∀b,b≠X.env.locals->b∉X.fs->b∉pO X.stack:=λb h1 h2 z=>(LH.mp (I3.KG b z)).elim h1 h2
 have apart:∀b∈fp,∀x c,cl.lookup x=some c->c≠b:=λb hb x c e=>by
  rcases cl1 x c e with z | z
  ·exact(f3 b hb).2.2.2.2.1 x c z
  ·obtain⟨o,eo,_⟩:=T.obj _ _ st3 b hb
   have h1:=LO eo;rw[hC]at h1;exact N1 (QZ h1 z.1)
 have I4:Inv (cx X scope cl N' C s3 H3 fp) pins (gF src σ) H3 { s3 with heap:=h₁ }:=by
  refine⟨⟨I3.ok.mod,S.kind,I3.ok.glob,I3.ok.blt,OK hC,c2,λx hx=> ?_,λx c hx e=>Nt (hC▸c5 x c (kj (beq_iff_eq.mp hx)) e),I3.ok.hd,I3.ok.frames,.inl rfl,
    λb hb=>⟨?_,λx c e=>apart b hb x c e⟩,I3.bs,Md I3.ok.bsz I3.sz,λb o e z=> ?_,λb hb=>stk b (f3 b hb).2.1 (f3 b hb).2.2.1,I3.stack,I3.Kz⟩,
   rfl,I3.bare,Un.kept old,⟨_,hns₁,λj x v e1 e2 e3=> ?_⟩,λx c e=> ?_,I3.hok.fresh (OK hC),λx c e=>(cl1 x c e).elim (I3.freeC x c) λz=>I3.hok.fresh (by rw[hC];exact Nt z.1),λp hp=> ?_,I3.hok.kept old,?_⟩
  ·have key:∀k,(relabel scope X.env).names.lookup x=some k->(k= .cell\/k= .free)->∃c,cl.lookup x=some c:=λk e hk=>by
    obtain⟨k',e',z⟩:=jM e
    have hk':k'= .cell\/k'= .free:=z.elim (λz=>z▸hk) .inr
    rcases hk' with q | q
    ·exact c4 x (.inl (q▸kj e'))
    ·exact c4 x (.inr (cl02 x (q▸kj e')))
   rcases hx with hx | hx
   ·exact key _ hx (.inl rfl)
   ·exact key _ hx (.inr rfl)
  ·obtain⟨o,eo,_⟩:=T.obj _ _ st3 b hb
   show b≠C
   exact below b o eo
  ·have z':b∈fp:=z
   obtain⟨_,_,_,z1,_⟩:=f3 b z';rcases z1 with z1 | z1
   ·exact I3.ok.noex b o e z1
   ·exact absurd (LJ (LO (I3.ok.bs b o e).1) z1) (L6 _)
  ·unfold gF at e2
   rw[LY]at e2
   cases q:src[j]? with
   | none=>rw[q]at e2;simp at e2
   | some o=>
    rw[q]at e2
    cases o with
    | none=>simp at e2
    | some i=>
     have e2':(σ[i]?).join=some v:=by simpa using e2
     have e2'':σ[i]? =some (some v):=by
      cases q2:σ[i]? with
      | none=>rw[q2]at e2';simp at e2'
      | some z=>rw[q2]at e2';simp at e2';rw[e2']
     obtain⟨hN,hfree⟩:=S.from_ j i x q e1
     have hm:=kj hfree
     have hk:=S.free x hm;obtain⟨m,hn,hl⟩:=I3.loc
     have hv:sd X.env.scope x:=by
      rcases hk with z | z
      ·exact .inr (.inl z)
      ·exact .inr (.inr z)
     obtain⟨u,r,l⟩:=hl i x v hN e2'' hv;refine⟨u,r,.inr ⟨?_,?_⟩⟩
     ·exact jt hfree
     ·rcases l with⟨z,_⟩ | ⟨_,c,ec,ic⟩
      ·rcases hk with z' | z' <;> rw[z']at z <;> cases z
      ·obtain⟨c',ec0⟩:=cl02 x hm
       have ec':cl.lookup x=some c':=(c3 x λz=>by have:=S.cel _ z rfl;rw[hfree]at this;cases this).trans ec0
       have:=cl01 x c' ec0;rw[ec]at this;cases this;obtain⟨o,ho,hd⟩:=ic;exact⟨c,ec',o,old _ _ ho,hd⟩
  ·rcases cl1 x c e with z | z
   ·obtain⟨v,o,ho,hd⟩:=I3.cell x c z
    exact⟨v,o,old _ _ ho,hd⟩
   ·exact⟨none,z.2⟩
  ·obtain⟨e,n,ne,nf,d⟩:=I3.pin p hp
   exact⟨old _ _ e,n,below _ _ e,stk _ ne nf,d⟩
  ·show(gF src σ).length=N'.length
   unfold gF;rw[LA];exact S.len
 obtain⟨bG,bI,bE⟩:=block cl C s3 H3 fp
 have stat:∀{H':Hp},(∀b∈fp,H' b=none)->∀b∈fp,nU (cx X scope cl N' C s3 H3 fp) pins H' b:=λhn b hb=>by
  obtain⟨o,eo,_⟩:=T.obj _ _ st3 b hb;exact⟨hn b hb,below b o eo,stk b (f3 b hb).2.1 (f3 b hb).2.2.1,.inl hb,apart b hb,(f3 b hb).2.2.2.2.2⟩
 have st4:tn 0 h₁:=T.keep _ _ _ st3 λb hb o e=>old b o e
 -- behind the block
 have after:∀(H':Hp) (s':LB) (σ':St),Inv (cx X scope cl N' C s3 H3 fp) pins σ' H' s'->Q (.ref D) H' →
   compPost (model X.prog X.w) X.A X.xe use Qf (.ref D) C (.ok .next) s':=λH' s' σ' I' q=>by
  obtain⟨m,hn,_⟩:=id I'.loc
  have fC:X.s₀.heap.objs.size<=C:=by rw[<-hC];exact I3.sz
  have ltC:∀b o,s3.heap.get? b=some o->b<C:=λb o e=>by rw[<-hC];exact LO e
  refine hend D C H' s' ⟨m,hn⟩ (λh' hsb=> ?_) ⟨I'.free,?_,fC,λx c e z=> ?_,λp hp z=> ?_⟩ q
  rotate_left
  ·have:=I3.lt;rw[hC]at this;exact N1 this
  ·obtain⟨v,ic⟩:=I3.cell x c e
   have:=ic.lt;rw[hC,z]at this;exact L6 _ this
  ·have:=ltC _ _ (I3.pin p hp).1;rw[z]at this;exact L6 _ this
  have u:Un (pO X.stack) fp H3 H' s3.heap s'.heap:=I'.base
  have lift:∀b o,s3.heap.get? b=some o->∀o',s'.heap.get? b=some o'->h'.get? b=some o':=λb o e o' e'=>hsb.extBut b o' (below b o e) e'
  have u':Un (pO X.stack) fp H3 H' s3.heap h':=
   ⟨λb o e n hb hx=>lift b o e o (u.keep b o e n hb hx),λb o e n hb hx=>by
     obtain⟨sl,z⟩:=u.slot b o e n hb hx;exact⟨sl,lift b o e _ z⟩,u.free,λb o e hx=>by
     obtain⟨o',z⟩:=u.there b o e hx;exact⟨o',lift b o e _ z⟩,u.tups,u.frzs,u.tbls⟩
  have hCn:H' C=none:=I'.free
  have hok':HOk X.prog X.w H' h':=λb ob e=>by
   refine(I'.hok b ob e).KC (λc w' hc' q'=>(hsb.2 c ?_).trans q') (λ_ q=>q) λ_ _ q=>q
   rintro rfl
   rcases hc' with rfl | hc'
   ·rw[hCn]at e;cases e
   ·rw[hCn]at hc';cases hc'
  have I5:Inv X pins σ H' { s' with heap:=h' }:=I3.KN (s':={ s' with heap:=h' }) (ch:=fp) I'.os u' hok' I'.bare λb hb=>⟨(f3 b hb).2.2.2.1,(f3 b hb).2.1,(f3 b hb).2.2.2.2.1,(f3 b hb).2.2.2.2.2⟩
  exact I5
 have loop:codeAny (model X.prog X.w) X.A (.compLoop (.ListComp elt [⟨tg,iter,ifs,0⟩] scope pos) 0 (.ref it) (.ref D) (compEnvC scope cl C X.env))
   (compPost (model X.prog X.w) X.A X.xe use Qf (.ref D) C) { s3 with heap:=h₁ }:=by
  refine uj (λn s'=> ∃i σ' ys H',Inv (cx X scope cl N' C s3 H3 fp) pins σ' H' s'/\tn i s'.heap/\(∀b∈fp,H' b=none)/\W i n σ' ys H') ?_ m0 ⟨0,_,[],H3,I4,st4,fr3,w0⟩
  rintro n s5 ⟨i,σ5,ys,H5,I5,st5,fr5,w5⟩
  obtain⟨hDl,alt⟩:=turn i n σ5 ys H5 w5;rcases alt with⟨stop,qn⟩ | ⟨go,hlen,step⟩
  ·refine cE (T.done (cx X scope cl N' C s3 H3 fp) rfl rfl rfl hc i pins s5 σ5 H5 _ I5 (stat fr5) st5 stop) λr s6 ⟨hr,I6⟩=> ?_
   subst hr;exact after H5 s6 σ5 I6 qn
  ·refine cE (T.item (cx X scope cl N' C s3 H3 fp) rfl rfl rfl hc i pins s5 σ5 H5 _ I5 (stat fr5) st5 go) λr s6 ⟨u,hr,h6⟩=> ?_
   subst hr;refine cE h6 λ_ s7 hh_=> ?_
   obtain⟨x,H7,I7,r7,y7,st7,fr7⟩:=hh_
   have I7':=I7.pinned (stat fr7) (T.obj _ _ st7);refine cE (bG _ s7 σ5 H7 x u _ I7' r7 (step x H7 y7)) λ_ s8 hh_=> ?_
   obtain⟨σ8,H8,I8,q8⟩:=hh_;refine cE (bI _ s8 σ8 H8 _ I8 q8) λok s9 hh_=> ?_
   obtain⟨H9,I9,q9⟩:=hh_
   have again:∀{σx:St} {Hx:Hp} {sx:LB} {ys':List V},Inv (cx X scope cl N' C s3 H3 fp) (pins++oX fp s7.heap) σx Hx sx->(∃m',m'<n/\W (i+1) m' σx ys' Hx) →
     ∃m,m<n/\∃i σ' ys H',Inv (cx X scope cl N' C s3 H3 fp) pins σ' H' sx/\tn i sx.heap/\(∀b∈fp,H' b=none)/\W i m σ' ys H':=λ{σx Hx sx ys'} Ix nx=>by
    obtain⟨m',hm,wx⟩:=nx;refine⟨m',hm,i+1,σx,ys',Hx,Ix.Kr,T.keep _ _ _ st7 λb hb o e=>(Ix.pin (b,o) (L3 _ (L3 _ (iY hb e)))).1,λb hb=> ?_,wx⟩
    obtain⟨o,e,d⟩:=T.obj _ _ st7 b hb;exact(Ix.pin (b,o) (L3 _ (L3 _ (iY hb e)))).2.1
   cases ok with
   | false=>
    rw[if_neg LX]at q9 ⊢
    exact again I9 q9
   | true=>
    rw[if_pos rfl]at q9 ⊢;refine cE (bE _ s9 σ8 H9 _ I9 q9) λv s10 hh_=> ?_
    obtain⟨y,H10,I10,r10,hD10,q10⟩:=hh_;refine cE (rF _ s10 σ8 H10 (.ref D) [y] (.ref D) [v] (λ_ H'=>H'=upd H10 D (.lst (ys++ [y]))) I10 rfl (.cons r10 .nil) ⟨D,ys,y,rfl,rfl,hD10,hlen,rfl⟩) λ_ s11 hh_=> ?_
    obtain⟨_,H11,I11,_,e11⟩:=hh_;subst e11;exact again I11 q10
 exact codeAny_compStart_list loop (T.self _ 0 _ _ _ st4 loop)
theorem vh {elt tg iter:Expr}{ifs:List Expr}{scope:OY}{pos:Pos}{N':List Str}{src:List (Option Nat)}{wi:TI}{g:TG}{tc:TT}{te:TE}
  (hc:X.calm=true) (S:LcScope X scope N' src) (hi:PI X tg iter wi)
  (block:∀cl C s₀ H₀ fp,PG (cx X scope cl N' C s₀ H₀ fp) tg g/\Aj (cx X scope cl N' C s₀ H₀ fp) ifs tc/\PE (cx X scope cl N' C s₀ H₀ fp) elt te)
  (hs:∀x,Mp iter X.env x=pure x:=by intro _;rfl) :
  PE X (.ListComp elt [⟨tg,iter,ifs,0⟩] scope pos) (FR X.K wi src g tc te):=by
 intro pins s σ H Q I h;rw[eval_ListComp];exact yy (use:=none) hc S hi block hs I h λD C H' s' ⟨m,hn⟩ inv _ q=>⟨m,hn,λh' hsb=>⟨.ref D,H',inv h' hsb,rfl,q⟩⟩
theorem Jf {elt tg iter:Expr}{ifs:List Expr}{scope:OY}{pos py spos:Pos}{N':List Str}{src:List (Option Nat)}{wi:TI}{g:TG}{tc:TT}{te:TE}{i:Nat}{y:Str}
  (hc:X.calm=true) (S:LcScope X scope N' src) (hi:PI X tg iter wi)
  (block:∀cl C s₀ H₀ fp,PG (cx X scope cl N' C s₀ H₀ fp) tg g/\Aj (cx X scope cl N' C s₀ H₀ fp) ifs tc/\PE (cx X scope cl N' C s₀ H₀ fp) elt te)
  (hN:X.N.Nodup) (hiy:X.N[i]? =some y) (hy:Loc X.env.scope y) (hsw:MK (.ListComp elt [⟨tg,iter,ifs,0⟩] scope pos) (some (.Name y py)) spos.line X.env=pure true)
  (hf:X.fn y=true\/X.env.scope.names.lookup y=some .local) (hs:∀x,Mp iter X.env x=pure x:=by intro _;rfl) :
  PS X (.Assign [.Name y py] (.ListComp elt [⟨tg,iter,ifs,0⟩] scope pos) spos) (Ay (FR X.K wi src g tc te) (B6 i)):=by
 intro pins s σ H D I h;rw[exec_Assign_Name_used _ _ _ _ hsw];refine Lv (wpAny_standAt (Lv ?_))
 show wpAny (model X.prog X.w) X.A (do let _ <-comprehension (.ListComp elt [⟨tg,iter,ifs,0⟩] scope pos) scope X.env _ (newList []) false (eval iter X.env) (some (assign (.Name y py) X.env))) _ _ s
 refine Lv (cE (yy (use:=some (assign (.Name y py) X.env)) (Qf:=λ_ s'=>SP X pins D .next s') (Q:=λv H'=>D.nx (σ.set i (some v)) H') hc S hi block hs I h λL C H' s' ⟨m,hn⟩ inv ⟨c0,c1,c2,c3,c4⟩ q=> ?_) λ_ s' hq=>LI (LI hq))
 have I0:Inv X pins σ H' s':=inv s'.heap (Heap.SameBut.refl ..)
 show wpAny (model X.prog X.w) X.A (assign (.Name y py) X.env (.ref L)) _ _ s'
 refine Sq (rh I0 hN hiy hy (v:=.ref L) rfl (λs2 I2 ⟨b,sb,hb⟩=> ?_) hf)
 have hbC:C≠b:=by
  rcases hb with z | z
  ·rw[z];exact c1
  ·exact λw=>c3 y b z w.symm
 refine⟨m,hn.sameBut sb hbC,λh' hsb=> ?_⟩
 exact⟨_,H',I2.turned (t':=s2.toks) (λb' o hb' e=>(hsb.2 b' hb').trans e) c0 c1 (.inr c2) c3 c4,q⟩
end
end L2
namespace Tr
open PySem PySem.Spec PyProof.Rows L2
inductive T where
 | non | bl (b:Bool) | int (i:Int) | str (x:Str) | tup (l:List T) | lst (l:List T)
 /-- the law's script: a list of ints that is only read -/
 | scr (l:List Int)
 /-- a dict: its keys,its values -/
 | dct (ks vs:List T)
def Fq:T->Option Key
 | .int i=>some (.inl i)
 | .str x=>some (.inr x)
 | _=>none
def pK:List T->Option (List Key)
 | [] =>some []
 | t::l=>match Fq t,pK l with
  | some k,some r=>some (k::r)
  | _,_=>none
def keyOf:T->Option (List Key)
 | .tup l=>pK l
 | _=>none
inductive Rs (α:Type) where
 | ok (a:α) | err (c:Str) | bad
def Rs.bind {α β:Type}(x:Rs α)(f:α->Rs β):Rs β:=match x with
 | .ok a=>f a
 | .err c=> .err c
 | .bad=> .bad
instance:Monad Rs where
 pure:=Rs.ok
 bind:=Rs.bind
@[simp] theorem aH {α β:Type} (a:α) (f:α->Rs β):(Rs.ok a >>= f)=f a:=rfl
@[simp] theorem Kg {α:Type} (a:α):(pure a:Rs α)=Rs.ok a:=rfl
@[simp] theorem J2 {α β:Type} (f:α->Rs β):((Rs.bad:Rs α) >>= f)= .bad:=rfl
@[simp] theorem JY {α β:Type} (c:Str) (f:α->Rs β):((Rs.err c:Rs α) >>= f)= .err c:=rfl
abbrev Ow:=Addr->Prop
mutual
def Rep (K:Lu)(O:Ow)(H:Hp):T->V->Prop
 | .non,v=>v= .non
 | .bl b,v=>v= .bl b
 | .int i,v=>v= .int i
 | .str x,v=>v= .str x
 | .tup l,v=> ∃a vs,v= .ref a/\¬ O a/\H a=some (.tup vs)/\Reps K O H l vs
 | .lst l,v=> ∃a vs,v= .ref a/\¬ O a/\H a=some (.lst vs)/\Reps K O H l vs
 | .scr l,v=> ∃a,v= .ref a/\¬ O a/\SqL K H a (l.map V.int)
 | .dct ks ts,v=> ∃a kvs,v= .ref a/\¬ O a/\Rd H a (.dT kvs)/\ks.map keyOf=kvs.map (λp=>some p.1)/\Reps K O H ts (kvs.map (·.2))
def Reps (K:Lu)(O:Ow)(H:Hp):List T->List V->Prop
 | [],vs=>vs= []
 | t::r,vs=> ∃v ws,vs=v::ws/\Rep K O H t v/\Reps K O H r ws
end
def SameO (P:Ow)(H H':Hp):Prop:=∀b o,H b=some o->¬ P b->H' b=some o
theorem SameO.of {P:Ow}{H H':Hp}(h:Same H H'):SameO P H H':=λb o e _=>h b o e
theorem Rd.K1 {P:Ow}{H H':Hp}{a:Addr}{u:HO}(h:SameO P H H')(n:¬ P a)(q:Rd H a u):Rd H' a u:=q.elim (λe=> .inl (h _ _ e n)) λ⟨o,e⟩=> .inr ⟨o,h _ _ e n⟩
theorem SqL.keep {K:Lu}{P:Ow}{H H':Hp}{a:Addr}{vs:List V}(h:SameO P H H')(n:¬ P a)(q:SqL K H a vs):SqL K H' a vs:=by
 rcases q with(q | ⟨o,q⟩) | q
 ·exact .inl (.inl (h _ _ q n))
 ·exact .inl (.inr ⟨o,h _ _ q n⟩)
 ·exact .inr q
mutual
theorem Rep.keep {K:Lu}{O P:Ow}{H H':Hp}(h:SameO P H H')(sub:∀a,P a->O a):∀{t:T} {v:V},Rep K O H t v->Rep K O H' t v
 | .non,_,r=>by unfold Rep at r ⊢;exact r
 | .bl _,_,r=>by unfold Rep at r ⊢;exact r
 | .int _,_,r=>by unfold Rep at r ⊢;exact r
 | .str _,_,r=>by unfold Rep at r ⊢;exact r
 | .tup l,_,r=>by
  unfold Rep at r ⊢;obtain⟨a,vs,e,n,q,z⟩:=r
  exact⟨a,vs,e,n,h _ _ q (λp=>n (sub a p)),Reps.keep h sub z⟩
 | .lst l,_,r=>by
  unfold Rep at r ⊢;obtain⟨a,vs,e,n,q,z⟩:=r
  exact⟨a,vs,e,n,h _ _ q (λp=>n (sub a p)),Reps.keep h sub z⟩
 | .scr l,_,r=>by
  unfold Rep at r ⊢;obtain⟨a,e,n,q⟩:=r
  exact⟨a,e,n,SqL.keep h (λp=>n (sub a p)) q⟩
 | .dct ks ts,_,r=>by
  unfold Rep at r ⊢;obtain⟨a,kvs,e,n,q,k,z⟩:=r;exact⟨a,kvs,e,n,Rd.K1 h (λp=>n (sub a p)) q,k,Reps.keep h sub z⟩
theorem Reps.keep {K:Lu}{O P:Ow}{H H':Hp}(h:SameO P H H')(sub:∀a,P a->O a):∀{l:List T} {vs:List V},Reps K O H l vs->Reps K O H' l vs
 | [],_,r=>by unfold Reps at r ⊢;exact r
 | t::l,_,r=>by
  unfold Reps at r ⊢;obtain⟨v,ws,e,p,q⟩:=r;exact⟨v,ws,e,Rep.keep h sub p,Reps.keep h sub q⟩
end
mutual
theorem Rep.less {K:Lu}{O O':Ow}{H:Hp}(sub:∀a,O' a->O a):∀{t:T} {v:V},Rep K O H t v->Rep K O' H t v
 | .non,_,r=>by unfold Rep at r ⊢;exact r
 | .bl _,_,r=>by unfold Rep at r ⊢;exact r
 | .int _,_,r=>by unfold Rep at r ⊢;exact r
 | .str _,_,r=>by unfold Rep at r ⊢;exact r
 | .tup l,_,r=>by
  unfold Rep at r ⊢;obtain⟨a,vs,e,n,q,z⟩:=r
  exact⟨a,vs,e,λp=>n (sub a p),q,Reps.less sub z⟩
 | .lst l,_,r=>by
  unfold Rep at r ⊢;obtain⟨a,vs,e,n,q,z⟩:=r
  exact⟨a,vs,e,λp=>n (sub a p),q,Reps.less sub z⟩
 | .scr l,_,r=>by
  unfold Rep at r ⊢;obtain⟨a,e,n,z⟩:=r
  exact⟨a,e,λp=>n (sub a p),z⟩
 | .dct ks ts,_,r=>by
  unfold Rep at r ⊢;obtain⟨a,kvs,e,n,q,k,z⟩:=r;exact⟨a,kvs,e,λp=>n (sub a p),q,k,Reps.less sub z⟩
theorem Reps.less {K:Lu}{O O':Ow}{H:Hp}(sub:∀a,O' a->O a):∀{l:List T} {vs:List V},Reps K O H l vs->Reps K O' H l vs
 | [],_,r=>by unfold Reps at r ⊢;exact r
 | t::l,_,r=>by
  unfold Reps at r ⊢;obtain⟨v,ws,e,p,q⟩:=r;exact⟨v,ws,e,Rep.less sub p,Reps.less sub q⟩
end
section
variable {K:Lu}{O:Ow}{H H':Hp}{t:T}{v:V}{l:List T}{vs:List V}
theorem Rep.same (h:Same H H')(r:Rep K O H t v):Rep K O H' t v:=Rep.keep (P:=λ_=>False) (SameO.of h) (λ_ z=>z.elim) r
theorem Reps.same (h:Same H H')(r:Reps K O H l vs):Reps K O H' l vs:=Reps.keep (P:=λ_=>False) (SameO.of h) (λ_ z=>z.elim) r
theorem Rep.KW:Rep K O H .non .non:=by unfold Rep;rfl
theorem Rep.bl_ (b:Bool):Rep K O H (.bl b) (.bl b):=by unfold Rep;rfl
theorem Rep.IR (i:Int):Rep K O H (.int i) (.int i):=by unfold Rep;rfl
theorem Rep.La (x:Str):Rep K O H (.str x) (.str x):=by unfold Rep;rfl
theorem Rep.Do:Rep K O H (.tup l) v↔ ∃a vs,v= .ref a/\¬ O a/\H a=some (.tup vs)/\Reps K O H l vs:=by unfold Rep;exact PN
theorem Rep.Fk:Rep K O H (.lst l) v↔ ∃a vs,v= .ref a/\¬ O a/\H a=some (.lst vs)/\Reps K O H l vs:=by unfold Rep;exact PN
theorem Rep.GM {ks ts:List T}:Rep K O H (.dct ks ts) v↔ ∃a kvs,v= .ref a/\¬ O a/\Rd H a (.dT kvs)/\ks.map keyOf=kvs.map (λp=>some p.1)/\Reps K O H ts (kvs.map (·.2)):=by unfold Rep;exact PN
theorem Rep.Da {i:Int}:Rep K O H (.int i) v↔v= .int i:=by unfold Rep;exact PN
theorem Rep.FM {b:Bool}:Rep K O H (.bl b) v↔v= .bl b:=by unfold Rep;exact PN
theorem Rep.Gc {b:Str}:Rep K O H (.str b) v↔v= .str b:=by unfold Rep;exact PN
theorem Rep.Kt:Rep K O H .non v↔v= .non:=by unfold Rep;exact PN
theorem Reps.GE:Reps K O H [] []:=by unfold Reps;rfl
theorem Reps.FS (r:Rep K O H t v)(q:Reps K O H l vs):Reps K O H (t::l) (v::vs):=by unfold Reps;exact⟨v,vs,rfl,r,q⟩
theorem Reps.AC:Reps K O H [] vs↔vs= []:=by unfold Reps;exact PN
theorem Reps.me:Reps K O H (t::l) vs↔ ∃v ws,vs=v::ws/\Rep K O H t v/\Reps K O H l ws:=by
 constructor
 ·intro h;unfold Reps at h;exact h
 ·intro h;unfold Reps;exact h
end
section
variable {K:Lu}{O:Ow}{H H':Hp}
theorem Reps.length:∀{l:List T} {vs:List V},Reps K O H l vs->l.length=vs.length
 | [],vs,r=>by rw[Reps.AC.mp r];rfl
 | t::l,vs,r=>by
  obtain⟨v,ws,rfl,_,q⟩:=Reps.me.mp r;simp[q.length]
theorem Reps.get:∀{l:List T} {vs:List V} {i:Nat} {t:T},Reps K O H l vs->l[i]? =some t->∃v,vs[i]? =some v/\Rep K O H t v
 | [],_,_,_,_,e=>by simp at e
 | t::l,vs,i,u,r,e=>by
  obtain⟨v,ws,rfl,p,q⟩:=Reps.me.mp r
  cases i with
  | zero=>simp at e;subst e;exact⟨v,rfl,p⟩
  | succ i=>
   obtain⟨z,e1,e2⟩:=q.get (i:=i) (t:=u) (by simpa using e)
   exact⟨z,by simpa using e1,e2⟩
theorem Reps.append:∀{l m:List T} {vs ws:List V},Reps K O H l vs->Reps K O H m ws->Reps K O H (l++m) (vs++ws)
 | [],_,vs,_,r,s=>by rw[Reps.AC.mp r];exact s
 | t::l,m,vs,ws,r,s=>by
  obtain⟨v,us,rfl,p,q⟩:=Reps.me.mp r;exact Reps.FS p (q.append s)
theorem Reps.take:∀{l:List T} {vs:List V} (n:Nat),Reps K O H l vs->Reps K O H (l.take n) (vs.take n)
 | _,_,0,_=>Reps.GE
 | [],vs,n+1,r=>by rw[Reps.AC.mp r];exact Reps.GE
 | t::l,vs,n+1,r=>by
  obtain⟨v,us,rfl,p,q⟩:=Reps.me.mp r;exact Reps.FS p (q.take n)
theorem Reps.drop:∀{l:List T} {vs:List V} (n:Nat),Reps K O H l vs->Reps K O H (l.drop n) (vs.drop n)
 | _,_,0,r=>r
 | [],vs,n+1,r=>by rw[Reps.AC.mp r];exact Reps.GE
 | t::l,vs,n+1,r=>by
  obtain⟨v,us,rfl,p,q⟩:=Reps.me.mp r;exact q.drop n
theorem Reps.ints:∀{ns:List Int},Reps K O H (ns.map T.int) (ns.map V.int)
 | [] =>Reps.GE
 | n::r=>Reps.FS (Rep.IR n) Reps.ints
end
inductive OT where
 | lst (l:List T) | dct (ks ts:List T) | dd (ks:List T) (rows:List (List T×List T))
def OT.view:OT->T
 | .lst l=> .lst l
 | .dct ks ts=> .dct ks ts
 | .dd ks rows=> .dct ks (rows.map λr=> .dct r.1 r.2)
def RowsR (K:Lu)(O:Ow)(H:Hp):List (List T×List T)->List Addr->Prop
 | [],as=>as= []
 | r::rs,as=> ∃b bs kvs,as=b::bs/\H b=some (.dT kvs)/\r.1.map keyOf=kvs.map (λp=>some p.1)/\Reps K O H r.2 (kvs.map (·.2))/\RowsR K O H rs bs
def ORep (K:Lu)(O M:Ow)(H:Hp):OT->V->Prop
 | .lst l,v=> ∃a vs,v= .ref a/\(∀b,M b↔b=a)/\H a=some (.lst vs)/\Reps K O H l vs
 | .dct ks ts,v=> ∃a kvs,v= .ref a/\(∀b,M b↔b=a)/\H a=some (.dT kvs)/\ks.map keyOf=kvs.map (λp=>some p.1)/\Reps K O H ts (kvs.map (·.2))
 | .dd ks rows,v=> ∃a kvs as,v= .ref a/\(∀b,M b↔b=a\/b∈as)/\a∉as/\as.Nodup/\H a=some (.dT kvs)/\ks.map keyOf=kvs.map (λp=>some p.1)/\kvs.map (·.2)=as.map V.ref/\RowsR K O H rows as
inductive Sl where
 | em | va (t:T) | ow (o:OT)
abbrev En:=List Sl
abbrev Mn:=Nat->Ow
def Mn.u (M:Mn):Ow:=λa=> ∃i,M i a
def Mtb (H:Hp)(a:Addr):Prop:=(∃vs,H a=some (.lst vs))\/∃kvs,H a=some (.dT kvs)
theorem Mtb.some {H:Hp}{a:Addr}(h:Mtb H a):∃o,H a=some o:=h.elim (λ⟨_,e⟩=>⟨_,e⟩) λ⟨_,e⟩=>⟨_,e⟩
theorem Mtb.same {H H':Hp}(s:Same H H'){a:Addr}(h:Mtb H a):Mtb H' a:=h.elim (λ⟨vs,e⟩=> .inl ⟨vs,s _ _ e⟩) λ⟨k,e⟩=> .inr ⟨k,s _ _ e⟩
structure EnvM (K:Lu)(O:Ow)(M:Mn)(H:Hp)(Z:En)(σ:L2.St):Prop where
 len:Z.length=σ.length
 val:∀(i:Nat) (t:T),Z[i]? =some (.va t)->∃v,σ[i]? =some (some v)/\Rep K O H t v
 own:∀(i:Nat) (o:OT),Z[i]? =some (.ow o)->∃v,σ[i]? =some (some v)/\ORep K O (M i) H o v
 sub:∀(i:Nat) (a:Addr),M i a->O a
 dis:∀(i j:Nat) (a:Addr),M i a->M j a->i=j
 trk:∀(a:Addr),O a->Mtb H a
theorem RowsR.same {K:Lu}{O:Ow}{H H':Hp}(h:Same H H'):∀{rs:List (List T×List T)} {as:List Addr},RowsR K O H rs as->RowsR K O H' rs as
 | [],_,r=>r
 | _::_,_,⟨b,bs,kvs,e1,e2,e3,e4,e5⟩=>⟨b,bs,kvs,e1,h _ _ e2,e3,e4.same h,e5.same h⟩
theorem ORep.same {K:Lu}{O M:Ow}{H H':Hp}(h:Same H H'){o:OT}{v:V}(r:ORep K O M H o v):ORep K O M H' o v:=by
 cases o with
 | lst l=>obtain⟨a,vs,e1,e2,e3,e4⟩:=r;exact⟨a,vs,e1,e2,h _ _ e3,e4.same h⟩
 | dct ks ts=>obtain⟨a,kvs,e1,e2,e3,e4,e5⟩:=r;exact⟨a,kvs,e1,e2,h _ _ e3,e4,e5.same h⟩
 | dd ks rows=>obtain⟨a,kvs,as,e1,e2,e3,e4,e5,e6,e7,e8⟩:=r;exact⟨a,kvs,as,e1,e2,e3,e4,h _ _ e5,e6,e7,e8.same h⟩
theorem EnvM.same {K:Lu}{O:Ow}{M:Mn}{H H':Hp}{Z:En}{σ:L2.St}(h:Same H H')(e:EnvM K O M H Z σ):EnvM K O M H' Z σ where
 len:=e.len
 val:=λi t q=>let ⟨v,e1,e2⟩:=e.val i t q;⟨v,e1,e2.same h⟩
 own:=λi o q=>let ⟨v,e1,e2⟩:=e.own i o q;⟨v,e1,e2.same h⟩
 sub:=e.sub
 dis:=e.dis
 trk:=λa q=>(e.trk a q).same h
def EnvO (K:Lu)(O:Ow)(H:Hp)(Z:En)(σ:L2.St):Prop:=∃M,EnvM K O M H Z σ
section
variable {K:Lu}{O:Ow}{H H':Hp}{Z:En}{σ:L2.St}
theorem EnvO.val (e:EnvO K O H Z σ)(i:Nat)(t:T)(q:Z[i]? =some (.va t)):∃v,σ[i]? =some (some v)/\Rep K O H t v:=e.elim λ_ e=>e.val i t q
theorem EnvO.mtb (e:EnvO K O H Z σ):∀a,O a->Mtb H a:=e.elim λ_ e=>e.trk
theorem EnvO.trk (e:EnvO K O H Z σ)(a:Addr)(z:O a):∃o,H a=some o:=(e.mtb a z).some
theorem EnvO.same (h:Same H H')(e:EnvO K O H Z σ):EnvO K O H' Z σ:=e.elim λM e=>⟨M,e.same h⟩
theorem EnvO.fresh (e:EnvO K O H Z σ){p:Addr}(h:H p=none):¬ O p:=λz=>by
 obtain⟨o,q⟩:=e.trk p z;rw[h]at q;cases q
end
def J8 (h:Heap)(C e:Addr):Option Addr->Prop
 | none=> ∃oe vs,h.get? e=some oe/\oe.cls= .ref C/\oe.data= .fields vs/\vs[1]? =some .none
 | some T=>T≠e/\∃oe vs,h.get? e=some oe/\oe.cls= .ref C/\oe.data= .fields vs/\vs[1]? =some (.ref T)/\∃oT ts,h.get? T=some oT/\oT.data= .fields ts/\ts[3]? =some .none
def RzP (X:Cx)(pins:List (Addr×Obj))(P:Ow)(H:Hp)(c:Str)(ev:Ly)(s':LB):Prop:=
 ∃e T C σ' H',ev= .ref e/\X.mg c=some (.ref C)/\Inv X pins σ' H' s'/\SameO P H H'/\H' e=none/\(X.ex= []->X.s₀.heap.get? e=none)/\J8 s'.heap C e T/\(∀t,T=some t->H' t=none/\(X.ex= []->X.s₀.heap.get? t=none))/\∀p∈X.pn++pins,p.1≠e/\T≠some p.1
def Nw (K:Lu)(H:Hp):Ow:=λa=>H a=none/\K.lookup a=none
theorem iW {K:Lu}{P:Ow}{H H1:Hp}(h:SameO P H H1){a:Addr}(n:Nw K H1 a):P a\/Nw K H a:=by
 by_cases hp:P a
 ·exact .inl hp
 ·refine .inr ⟨?_,n.2⟩
  cases q:H a with
  | none=>rfl
  | some o=>have:=h a o q hp;rw[n.1]at this;cases this
theorem SameO.trans {K:Lu}{P P1:Ow}{H H1 H2:Hp}(h:SameO P H H1)(h1:SameO P1 H1 H2)(sub:∀a,P1 a->P a\/Nw K H a):SameO P H H2:=λb o e n=>
 h1 b o (h b o e n) λz=>(sub b z).elim n λw=>by rw[w.1]at e;cases e
def XA (X:Cx)(P:Ow)(H:Hp)(c:Str):Prop:=∀pins ev s',RzP X pins P H c ev s'->X.xe ev s'
theorem XA.later {X:Cx}{P P1:Ow}{H H1:Hp}{c:Str}(h:XA X P H c)(s:SameO P H H1)(sub:∀a,P1 a->P a\/Nw X.K H a):XA X P1 H1 c:=λpins ev s' ⟨e,T,C,σ',H',a1,a2,a3,a4,a5⟩=>
 h pins ev s' ⟨e,T,C,σ',H',a1,a2,a3,s.trans a4 sub,a5⟩
abbrev zq:Ow:=λ_=>False
def Post {α:Type}(X:Cx)(H:Hp)(r:Rs α)(k:α->Hp->Prop):Prop:=match r with
 | .ok t=> ∀H',Same H H'->k t H'
 | .err c=>XA X zq H c
 | .bad=>False
theorem Post.mono {α:Type}{X:Cx}{H:Hp}{r:Rs α}{k k':α->Hp->Prop}(h:Post X H r k)(f:∀t H',Same H H'->k t H'->k' t H'):Post X H r k':=by
 cases r with
 | ok t=>exact λH' s=>f t H' s (h H' s)
 | err c=>exact h
 | bad=>exact h
theorem Post.later {α:Type}{X:Cx}{H H1:Hp}{r:Rs α}{k:α->Hp->Prop}(h:Post X H r k)(s:Same H H1):Post X H1 r k:=by
 cases r with
 | ok t=>exact λH' s'=>h H' (s.trans s')
 | err c=>exact XA.later h (SameO.of s) λ_ z=>z.elim
 | bad=>exact h
theorem Post.bind {α β:Type}{X:Cx}{H:Hp}{r:Rs α}{f:α->Rs β}{k:β->Hp->Prop}(h:Post X H (r >>= f) k):Post X H r λt H'=>Post X H' (f t) k:=by
 cases r with
 | ok t=>exact λH' s=>Post.later h s
 | err c=>exact h
 | bad=>exact h
def tP (X:Cx)(f:En->Rs T):TE:=λσ H Q=> ∃Z O,EnvO X.K O H Z σ/\Post X H (f Z) λt H'=> ∀v,Rep X.K O H' t v->Q v H'
def tPA (X:Cx)(f:En->Rs (List T)):TA:=λσ H Q=> ∃Z O,EnvO X.K O H Z σ/\Post X H (f Z) λt H'=> ∀v,Reps X.K O H' t v->Q v H'
def Aw (X:Cx)(f:En->Rs Bool):TT:=λσ H Q=> ∃Z O,EnvO X.K O H Z σ/\Post X H (f Z) λb H'=>Q b H'
abbrev cY (X:Cx)(e:Expr)(f:En->Rs T):Prop:=PE X e (tP X f)
abbrev qV (X:Cx)(e:List Expr)(f:En->Rs (List T)):Prop:=PA X e (tPA X f)
abbrev wy (X:Cx)(e:Expr)(f:En->Rs Bool):Prop:=PT X e (Aw X f)
theorem PE.imp {X:Cx}{e:Expr}{t t':TE}(h:PE X e t)(w:∀σ H Q,t' σ H Q->t σ H Q):PE X e t':=λpins s σ H Q I q=>h pins s σ H Q I (w σ H Q q)
theorem PA.imp {X:Cx}{e:List Expr}{t t':TA}(h:PA X e t)(w:∀σ H Q,t' σ H Q->t σ H Q):PA X e t':=λpos pins s σ H Q I q=>h pos pins s σ H Q I (w σ H Q q)
theorem PT.imp {X:Cx}{e:Expr}{t t':TT}(h:PT X e t)(w:∀σ H Q,t' σ H Q->t σ H Q):PT X e t':=λpins s σ H Q I q=>h pins s σ H Q I (w σ H Q q)
theorem PS.imp {X:Cx}{e:Stmt}{t t':TS}(h:PS X e t)(w:∀D σ H,t' D σ H->t D σ H):PS X e t':=λpins s σ H D I q=>h pins s σ H D I (w D σ H q)
theorem PSs.imp {X:Cx}{e:List Stmt}{t t':TS}(h:PSs X e t)(w:∀D σ H,t' D σ H->t D σ H):PSs X e t':=λpins s σ H D I q=>h pins s σ H D I (w D σ H q)
section
variable {X:Cx}
theorem bu {σ:L2.St}{H:Hp}{Z:En}{O:Ow}{α:Type}{f:En->Rs T}{k:T->Rs α}{Q:α->Hp->Prop}(E:EnvO X.K O H Z σ)(h:Post X H (f Z >>= k) Q) :
  tP X f σ H λv H'=> ∃t,Rep X.K O H' t v/\Same H H'/\EnvO X.K O H' Z σ/\Post X H' (k t) Q:=
 ⟨Z,O,E,Post.mono h.bind λt H' s q v r=>⟨t,r,s,E.same s,q⟩⟩
theorem fY {σ:L2.St}{H:Hp}{Z:En}{O:Ow}{α:Type}{f:En->Rs (List T)}{k:List T->Rs α}{Q:α->Hp->Prop}(E:EnvO X.K O H Z σ)(h:Post X H (f Z >>= k) Q) :
  tPA X f σ H λv H'=> ∃t,Reps X.K O H' t v/\Same H H'/\EnvO X.K O H' Z σ/\Post X H' (k t) Q:=
 ⟨Z,O,E,Post.mono h.bind λt H' s q v r=>⟨t,r,s,E.same s,q⟩⟩
theorem lC {σ:L2.St}{H:Hp}{Z:En}{O:Ow}{α:Type}{f:En->Rs Bool}{k:Bool->Rs α}{Q:α->Hp->Prop}(E:EnvO X.K O H Z σ)(h:Post X H (f Z >>= k) Q) :
  Aw X f σ H λb H'=>Same H H'/\EnvO X.K O H' Z σ/\Post X H' (k b) Q:=
 ⟨Z,O,E,Post.mono h.bind λt H' s q=>⟨s,E.same s,q⟩⟩
noncomputable def vr (i:Nat)(Z:En):Rs T:=match Z[i]? with
 | some (.va t)=> .ok t
 | _=> .bad
def cn (t:T)(_:En):Rs T:=.ok t
theorem IP (i:Nat){x:Str}{pos:Pos}(hN:X.N[i]? =some x:=by rfl)(hv:sd X.env.scope x:=by first | exact MR rfl | exact MF (MR rfl) | exact MF (MF rfl))(hd:gE x:=by decide)
  (hcd:(x == ("__classdict__" : Str))=false:=by decide):cY X (.Name x pos) (vr i):=PE.imp (iu hN hv hd hcd) λσ H Q hh_=>by
 obtain⟨Z,O,E,h⟩:=hh_;unfold vr at h
 split at h
 ·rename_i t e
  obtain⟨v,e1,e2⟩:=E.val i t e;exact⟨v,e1,h H (Same.refl H) v e2⟩
 ·exact h.elim
theorem Ja {i j pos}:cY X (.Constant (.int i) j pos) (cn (.int i)):=PE.imp Bb λσ H Q ⟨Z,O,E,h⟩=>h H (Same.refl H) _ (Rep.IR i)
theorem q_bl {i j pos}:cY X (.Constant (.bool i) j pos) (cn (.bl i)):=PE.imp Bg λσ H Q ⟨Z,O,E,h⟩=>h H (Same.refl H) _ (Rep.bl_ i)
theorem IW {j pos}:cY X (.Constant .none j pos) (cn .non):=PE.imp Ba λσ H Q ⟨Z,O,E,h⟩=>h H (Same.refl H) _ Rep.KW
theorem IS {i j pos}:cY X (.Constant (.str i) j pos) (cn (.str i)):=PE.imp A8 λσ H Q ⟨Z,O,E,h⟩=>h H (Same.refl H) _ (Rep.La i)
theorem GD {x:Str}{i:Int}{u:Ly}{pos:Pos}(hm:X.mg x=some u)(r:RelV (.int i) u)(hg:Gl X x:=by rfl)(hd:gE x:=by decide):cY X (.Name x pos) (cn (.int i)):=
 PE.imp (sW hg hm r hd) λσ H Q ⟨Z,O,E,h⟩=>h H (Same.refl H) _ (Rep.IR i)
def ai (_:En):Rs (List T):=.ok []
def ae (f:En->Rs T)(g:En->Rs (List T))(Z:En):Rs (List T):=do
 let t <-f Z
 let r <-g Z
 .ok (t::r)
theorem GC:qV X [] ai:=PA.imp dR λσ H Q ⟨Z,O,E,h⟩=>h H (Same.refl H) _ Reps.GE
theorem DD {e:Expr}{es:List Expr}{f:En->Rs T}{g:En->Rs (List T)}(he:cY X e f)(hr:qV X es g)(hs:LP (e::es) X.env=(false,eval e X.env)::LP es X.env:=by rfl):qV X (e::es) (ae f g):=by
 intro pos pins s σ H Q I h;obtain⟨Z,O,E,h⟩:=h;refine bx he hr hs pos pins s σ H Q I ?_
 obtain⟨Z1,O1,E1,h1⟩:=bu E h;refine⟨Z1,O1,E1,Post.mono h1 λt H' s q v r=> ?_⟩
 obtain⟨t',r',s',E',q'⟩:=q v r;refine⟨Z,O,E',Post.mono q'.bind λts H2 s2 q2 vs rs=> ?_⟩
 exact q2 H2 (Same.refl H2) _ (Reps.FS (r'.same s2) rs)
end
section
variable {X:Cx}
def kS (l:List T):Rs T:=if l.length<=sizeLine then .ok (.tup l)else .bad
def kU (l:List T):Rs T:=if l.length<=sizeLine then .ok (.lst l)else .bad
def aO (f:En->Rs (List T))(Z:En):Rs T:=f Z >>= kS
def dD (f:En->Rs (List T))(Z:En):Rs T:=f Z >>= kU
theorem a9 {H:Hp}{p:Addr}(h:H p=none)(o:HO):Same H (upd H p o):=λb u q=>by rw[aI (cG q h)];exact q
theorem gQ {K:Lu}{O:Ow}{H:Hp}{p:Addr}{l:List T}{vs:List V}(h:H p=none)(n:¬ O p)(r:Reps K O H l vs):Rep K O (upd H p (.tup vs)) (.tup l) (.ref p):=
 Rep.Do.mpr ⟨p,vs,rfl,n,aJ,r.same (a9 h _)⟩
theorem jH {K:Lu}{O:Ow}{H:Hp}{p:Addr}{l:List T}{vs:List V}(h:H p=none)(n:¬ O p)(r:Reps K O H l vs):Rep K O (upd H p (.lst vs)) (.lst l) (.ref p):=
 Rep.Fk.mpr ⟨p,vs,rfl,n,aJ,r.same (a9 h _)⟩
theorem IQ {es:List Expr}{x1:Nat}{pos:Pos}{f:En->Rs (List T)}(h:qV X es f):cY X (.Tuple es x1 pos) (aO f):=by
 intro pins s σ H Q I ⟨Z,O,E,hq⟩;refine sU h pins s σ H Q I ?_
 obtain⟨Z1,O1,E1,h1⟩:=fY E hq;refine⟨Z1,O1,E1,Post.mono h1 λts H1 s1 q vs r=> ?_⟩
 obtain⟨t',r',s',E',q'⟩:=q vs r;unfold kS at q'
 split at q'
 ·rename_i hz
  refine⟨by rw[<-r'.length];exact hz,λp hp=> ?_⟩
  exact q' _ (a9 hp _) _ (gQ hp (E'.fresh hp) r')
 ·exact q'.elim
theorem IY {es:List Expr}{pos:Pos}{f:En->Rs (List T)}(h:qV X es f):cY X (.List es pos) (dD f):=by
 intro pins s σ H Q I ⟨Z,O,E,hq⟩;refine sV h pins s σ H Q I ?_
 obtain⟨Z1,O1,E1,h1⟩:=fY E hq;refine⟨Z1,O1,E1,Post.mono h1 λts H1 s1 q vs r=> ?_⟩
 obtain⟨t',r',s',E',q'⟩:=q vs r;unfold kU at q'
 split at q'
 ·rename_i hz
  refine⟨by rw[<-r'.length];exact hz,λp hp=> ?_⟩
  exact q' _ (a9 hp _) _ (jH hp (E'.fresh hp) r')
 ·exact q'.elim
def OpT (X:Cx)(f:Ly->Ly->Sem Ly)(g:T->T->Rs T):Prop:=
 ∀(pins:List (Addr×Obj)) (s:LB) (σ:L2.St) (H:Hp) (O:Ow) (x y:T) (vx vy:V) (ux uy:Ly) (Q:VK),Inv X pins σ H s->(∀p,H p=none->¬ O p)->Rep X.K O H x vx->Rep X.K O H y vy->RelV vx ux->RelV vy uy →
  Post X H (g x y) (λt H'=> ∀v,Rep X.K O H' t v->Q v H')->wpAny (model X.prog X.w) X.A (f ux uy) (EP X pins σ Q) X.xe s
def o2 (g:T->T->Rs T)(fa fb:En->Rs T)(Z:En):Rs T:=do
 let x <-fa Z
 let y <-fb Z
 g x y
variable {a b c:Expr}{fa fb fc:En->Rs T}{pos:Pos}
theorem Jd {op:Operator}{g:T->T->Rs T}(ho:OpT X (Nn op) g)(ha:cY X a fa)(hb:cY X b fb):cY X (.BinOp a op b pos) (o2 g fa fb):=by
 intro pins s σ H Q I ⟨Z,O,E,hq⟩
 have h1:=bu E hq;refine wpAny_BinOp (cE (ha pins s σ H _ I h1) λv s1 hh_=> ?_)
 obtain⟨x,H1,I1,r1,t,rt,s',E',q1⟩:=hh_
 have h2:=bu (f:=fb) E' q1;refine cE (hb pins s1 σ H1 _ I1 h2) λu s2 hh_=> ?_
 obtain⟨y,H2,I2,r2,t2,rt2,s'',E'',q2⟩:=hh_;exact ho pins s2 σ H2 O t t2 x y v u Q I2 (λp=>E''.fresh) (rt.same s'') rt2 r1 r2 q2
theorem Jc {op:TX}{g:T->T->Rs T}(ho:OpT X (Mz op) g)(ha:cY X a fa)(hb:cY X b fb)(hm:On op b=false:=by rfl):cY X (.Compare a [op] [b] pos) (o2 g fa fb):=by
 intro pins s σ H Q I ⟨Z,O,E,hq⟩
 have h1:=bu E hq;refine wpAny_Compare1 (cE (ha pins s σ H _ I h1) λv s1 ⟨x,H1,I1,r1,t,rt,s',E',q1⟩=> ?_) hm
 have h2:=bu (f:=fb) E' q1;refine cE (hb pins s1 σ H1 _ I1 h2) λu s2 hh_=> ?_
 obtain⟨y,H2,I2,r2,t2,rt2,s'',E'',q2⟩:=hh_;exact ho pins s2 σ H2 O t t2 x y v u Q I2 (λp=>E''.fresh) (rt.same s'') rt2 r1 r2 q2
theorem OpT.of {f:Ly->Ly->Sem Ly}{r:R2}(h:qi X f r){g:T->T->Rs T}
  (w:∀(H:Hp) (O:Ow) (x y:T) (vx vy:V) (Q:VK),(∀p,H p=none->¬ O p)->Rep X.K O H x vx->Rep X.K O H y vy->Post X H (g x y) (λt H'=> ∀v,Rep X.K O H' t v->Q v H')->r vx vy H Q):OpT X f g:=
 λpins s σ H O x y vx vy ux uy Q I hf rx ry r1 r2 hp=>h pins s σ H vx vy ux uy Q I r1 r2 (w H O x y vx vy Q hf rx ry hp)
def fh:T->T->Rs T
 | .int i,.int j=> .ok (.int (i - j))
 | _,_=> .bad
theorem fN:OpT X (Nn .Sub) fh:=OpT.of GV λH O x y vx vy Q hf rx ry hp=>by
 unfold fh at hp
 split at hp
 ·exact⟨_,_,Rep.Da.mp rx,Rep.Da.mp ry,hp H (Same.refl H) _ (Rep.IR _)⟩
 ·exact hp.elim
def mf:T->T->Rs T
 | .int i,.int j=>if 0<j/\j<1073741824 then .ok (.int (i / j))else .bad
 | _,_=> .bad
def lU:T->T->Rs T
 | .int i,.int j=>if 0<j then .ok (.int (i % j))else .bad
 | _,_=> .bad
theorem nY:OpT X (Nn .FloorDiv) mf:=OpT.of DW λH O x y vx vy Q hf rx ry hp=>by
 unfold mf at hp
 split at hp
 ·split at hp
  ·rename_i h
   exact⟨_,_,Rep.Da.mp rx,Rep.Da.mp ry,h,hp H (Same.refl H) _ (Rep.IR _)⟩
  ·exact hp.elim
 ·exact hp.elim
theorem k6:OpT X (Nn .Mod) lU:=OpT.of GY λH O x y vx vy Q hf rx ry hp=>by
 unfold lU at hp
 split at hp
 ·split at hp
  ·rename_i h
   exact⟨_,_,Rep.Da.mp rx,Rep.Da.mp ry,h,hp H (Same.refl H) _ (Rep.IR _)⟩
  ·exact hp.elim
 ·exact hp.elim
theorem Bj:qi X (Nn .Add) (λx y H Q=> ∃a b ys,x= .ref a/\y= .ref b/\SqT X.K H a []/\SqT X.K H b ys/\Q (.ref b) H):=by
 intro pins s σ H x y v u Q I rx ry h;obtain⟨a,b,ys,rfl,rfl,ha,hb,q⟩:=h;cases rx;cases ry;obtain⟨its,r1,p1,_⟩:=I.tuple ha;obtain⟨its2,r2,p2,_⟩:=I.tuple hb;obtain⟨⟨cls,dd,data,sl⟩,ho,hc,n,hd⟩:=id p1;obtain⟨⟨cls2,dd2,data2,sl2⟩,ho2,hc2,n2,hd2⟩:=id p2;simp only at hc hd hc2 hd2;subst hc hd hc2 hd2
 have e:its= []:=by cases r1;rfl
 subst e;exact HT_concat0 ho ho2 ⟨.ref b,H,I,rfl,q⟩
where
 HT_concat0 {prog:L1} {w:MG} {A:Mh} {E:Ly->LB->Prop} {s:LB} {t b:Addr} {ws:Array Ly} {n n2:Nat} {dd dd2:Option Addr} {sl sl2:Array (Option Ly)} {Q:Ly->LB->Prop}
   (ho:s.heap.get? t=some { cls:=.type "tuple",dict:=dd,data:=.seq (([]:List Ly).toArray) n,slots:=sl }) (ho2:s.heap.get? b=some { cls:=.type "tuple",dict:=dd2,data:=.seq ws n2,slots:=sl2 }) (h:Q (.ref b) s) :
   wpAny (model prog w) A (Nn .Add (.ref t) (.ref b)) Q E s:=
  SM ⟨_,ho,rfl⟩ ⟨_,ho2,rfl⟩ QK R3 O6 OP (OH _ _)
   (tuple_addW0 t b _ _ n n2 dd dd2 sl sl2 (by simp)) ⟨ho,ho2,h⟩
def aY:T->T->Rs T
 | .int i,.int j=> .ok (.int (i+j))
 | .str i,.str j=>if i.length+j.length<=sizeLine then .ok (.str (i++j))else .bad
 | .tup l,.tup m=>kS (l++m)
 | .lst l,.lst m=>kU (l++m)
 | _,_=> .bad
theorem aW:OpT X (Nn .Add) aY:=by
 intro pins s σ H O x y vx vy ux uy Q I hf rx ry r1 r2 hp;unfold aY at hp
 split at hp
 ·exact G0 pins s σ H vx vy ux uy Q I r1 r2 ⟨_,_,Rep.Da.mp rx,Rep.Da.mp ry,hp H (Same.refl H) _ (Rep.IR _)⟩
 ·split at hp
  ·rename_i h
   exact w4 pins s σ H vx vy ux uy Q I r1 r2 ⟨_,_,Rep.Gc.mp rx,Rep.Gc.mp ry,h,hp H (Same.refl H) _ (Rep.La _)⟩
  ·exact hp.elim
 ·rename_i l m
  unfold kS at hp
  split at hp
  ·rename_i h
   obtain⟨a,vs,e1,n1,q1,z1⟩:=Rep.Do.mp rx;obtain⟨b,ws,e2,n2,q2,z2⟩:=Rep.Do.mp ry
   have hl1:=z1.length
   have hl2:=z2.length;rw[LF]at h
   cases vs with
   | nil=>
    have e:l= []:=by cases l with
     | nil=>rfl
     | cons _ _=>simp at hl1
    subst e
    exact Bj pins s σ H vx vy ux uy Q I r1 r2 ⟨a,b,ws,e1,e2,SqT.of q1,SqT.of q2,hp H (Same.refl H) _ (Rep.Do.mpr ⟨b,ws,rfl,n2,q2,z2⟩)⟩
   | cons v0 vr=>
    refine DX pins s σ H vx vy ux uy Q I r1 r2 ⟨a,b,v0::vr,ws,e1,e2,SqT.of q1,SqT.of q2,by simp,by omega,λhw=> ?_,λ_ p hpn=> ?_⟩
    ·subst hw
     have e:m= []:=by cases m with
      | nil=>rfl
      | cons _ _=>simp at hl2
     subst e;rw[Mj]at hp;exact hp H (Same.refl H) _ (Rep.Do.mpr ⟨a,_,rfl,n1,q1,z1⟩)
    ·exact hp _ (a9 hpn _) _ (gQ hpn (hf p hpn) (z1.append z2))
  ·exact hp.elim
 ·rename_i l m
  unfold kU at hp
  split at hp
  ·rename_i h
   obtain⟨a,vs,e1,n1,q1,z1⟩:=Rep.Fk.mp rx;obtain⟨b,ws,e2,n2,q2,z2⟩:=Rep.Fk.mp ry
   have hl1:=z1.length
   have hl2:=z2.length;rw[LF]at h;exact Bk pins s σ H vx vy ux uy Q I r1 r2 ⟨a,b,vs,ws,e1,e2,q1,q2,by omega,λp hpn=>hp _ (a9 hpn _) _ (jH hpn (hf p hpn) (z1.append z2))⟩
  ·exact hp.elim
 ·exact hp.elim
def xk:T->T->Rs T
 | .int i,.int j=>if (-(2 ^ 64)<i/\i<2 ^ 64)\/(-(2 ^ 64)<j/\j<2 ^ 64)then .ok (.int (i*j))else .bad
 | .lst l,.int k=>if -(2 ^ 63)<=k/\k<2 ^ 63/\l.length*k.toNat<=sizeLine then .ok (.lst (LS k.toNat l).flatten)else .bad
 | _,_=> .bad
theorem Reps.rep {K:Lu}{O:Ow}{H:Hp}{l:List T}{vs:List V}(h:Reps K O H l vs):∀k:Nat,Reps K O H (LS k l).flatten (LS k vs).flatten
 | 0=>Reps.GE
 | k+1=>by rw[Nd,Nd,NY,NY];exact h.append (h.rep k)
theorem GS:OpT X (Nn .Mult) xk:=by
 intro pins s σ H O x y vx vy ux uy Q I hf rx ry r1 r2 hp;unfold xk at hp
 split at hp
 ·split at hp
  ·rename_i h
   exact GX pins s σ H vx vy ux uy Q I r1 r2 ⟨_,_,Rep.Da.mp rx,Rep.Da.mp ry,h,hp H (Same.refl H) _ (Rep.IR _)⟩
  ·exact hp.elim
 ·split at hp
  ·rename_i l k h
   obtain⟨a,vs,e1,n1,q1,z1⟩:=Rep.Fk.mp rx
   have hl1:=z1.length;exact GW pins s σ H vx vy ux uy Q I r1 r2 ⟨a,k,vs,e1,Rep.Da.mp ry,q1,h.1,h.2.1,by rw[<-hl1];exact h.2.2,λp hpn=>hp _ (a9 hpn _) _ (jH hpn (hf p hpn) (z1.rep _))⟩
  ·exact hp.elim
 ·exact hp.elim
def pE:T->Rs T
 | .int i=> .ok (.int (-i))
 | _=> .bad
def o1 (g:T->Rs T)(fa:En->Rs T)(Z:En):Rs T:=fa Z >>= g
theorem IX (ha:cY X a fa):cY X (.UnaryOp .USub a pos) (o1 pE fa):=by
 intro pins s σ H Q I ⟨Z,O,E,hq⟩;refine Jh FK ha pins s σ H Q I ?_
 obtain⟨Z1,O1,E1,h1⟩:=bu E hq;refine⟨Z1,O1,E1,Post.mono h1 λts H1 s1 q vs r=> ?_⟩
 obtain⟨t',r',s',E',q'⟩:=q vs r;unfold pE at q'
 split at q'
 ·exact⟨_,Rep.Da.mp r',q' H1 (Same.refl H1) _ (Rep.IR _)⟩
 ·exact q'.elim
def wm (p:Int->Int->Bool):T->T->Rs T
 | .int i,.int j=> .ok (.bl (p i j))
 | _,_=> .bad
theorem sZ {op:TX}{p:Int->Int->Bool}(h:qi X (Mz op) (Fj λi j=> .bl (p i j))):OpT X (Mz op) (wm p):=OpT.of h λH O x y vx vy Q hf rx ry hp=>by
 unfold wm at hp
 split at hp
 ·exact⟨_,_,Rep.Da.mp rx,Rep.Da.mp ry,hp H (Same.refl H) _ (Rep.bl_ _)⟩
 ·exact hp.elim
abbrev nu:=wm λi j=>decide (i<j)
abbrev JA:=wm λi j=>decide (i<=j)
abbrev CQ:=wm λi j=>decide (j<i)
theorem kO:OpT X (Mz .Lt) nu:=sZ Jn
theorem yg:OpT X (Mz .LtE) JA:=sZ Jo
theorem vk:OpT X (Mz .Gt) CQ:=sZ Jp
def T.isN:T->Bool
 | .non=>true
 | _=>false
theorem Rep.isN {K:Lu}{O:Ow}{H:Hp}{t:T}{v:V}(r:Rep K O H t v):decide (v= .non)=t.isN:=by
 cases t with
 | non=>rw[Rep.Kt.mp r];rfl
 | bl _=>rw[Rep.FM.mp r];rfl
 | int _=>rw[Rep.Da.mp r];rfl
 | str _=>rw[Rep.Gc.mp r];rfl
 | tup _=>obtain⟨a,vs,e,_⟩:=Rep.Do.mp r;rw[e];rfl
 | lst _=>obtain⟨a,vs,e,_⟩:=Rep.Fk.mp r;rw[e];rfl
 | scr _=>unfold Rep at r;obtain⟨a,e,_⟩:=r;rw[e];rfl
 | dct _ _=>obtain⟨a,_,e,_⟩:=Rep.GM.mp r;rw[e];rfl
def fP:T->T->Rs T
 | x,.non=> .ok (.bl x.isN)
 | _,_=> .bad
def cZ:T->T->Rs T
 | x,.non=> .ok (.bl (!x.isN))
 | _,_=> .bad
theorem jq:OpT X (Mz .Is) fP:=OpT.of GZ λH O x y vx vy Q hf rx ry hp=>by
 unfold fP at hp
 split at hp
 ·exact⟨Rep.Kt.mp ry,hp H (Same.refl H) _ (by rw[rx.isN];exact Rep.bl_ _)⟩
 ·exact hp.elim
theorem dA:OpT X (Mz .IsNot) cZ:=OpT.of DV λH O x y vx vy Q hf rx ry hp=>by
 unfold cZ at hp
 split at hp
 ·exact⟨Rep.Kt.mp ry,hp H (Same.refl H) _ (by rw[rx.isN];exact Rep.bl_ _)⟩
 ·exact hp.elim
end
end Tr
namespace Tr
open PySem PySem.Spec PyProof.Rows L2
open PySem.SeqAt
mutual
def ReV (s:LB):T->Ly->Prop
 | .non,u=>u= .none
 | .bl b,u=>u= .bool b
 | .int i,u=> ∃t,u= .int i t
 | .str x,u=> ∃t,u= .str x t
 | .tup l,u=> ∃a its,u= .ref a/\s.heap.IsTuple a (SC its)/\ReVs s l its
 | .lst l,u=> ∃a its,u= .ref a/\s.heap.IsList a (SC its)/\ReVs s l its
 | .scr l,u=> ∃a its,u= .ref a/\s.heap.IsList a (SC its)/\Ou its l
 | .dct _ _,_=>False
def ReVs (s:LB):List T->List Ly->Prop
 | [],us=>us= []
 | t::r,us=> ∃u ws,us=u::ws/\ReV s t u/\ReVs s r ws
end
theorem ReVs.AC {s:LB}{us:List Ly}:ReVs s [] us↔us= []:=by unfold ReVs;exact PN
theorem ReVs.me {s:LB}{t:T}{l:List T}{us:List Ly}:ReVs s (t::l) us↔ ∃u ws,us=u::ws/\ReV s t u/\ReVs s l ws:=by
 constructor
 ·intro h;unfold ReVs at h;exact h
 ·intro h;unfold ReVs;exact h
theorem ReVs.length {s:LB}:∀{l:List T} {us:List Ly},ReVs s l us->l.length=us.length
 | [],us,r=>by rw[ReVs.AC.mp r];rfl
 | t::l,us,r=>by
  obtain⟨v,ws,rfl,_,q⟩:=ReVs.me.mp r;simp[q.length]
theorem ReVs.get {s:LB}:∀{l:List T} {us:List Ly} {i:Nat} {t:T},ReVs s l us->l[i]? =some t->∃v,us[i]? =some v/\ReV s t v
 | [],_,_,_,_,e=>by simp at e
 | t::l,vs,i,u,r,e=>by
  obtain⟨v,ws,rfl,p,q⟩:=ReVs.me.mp r
  cases i with
  | zero=>simp at e;subst e;exact⟨v,rfl,p⟩
  | succ i=>
   obtain⟨z,e1,e2⟩:=q.get (i:=i) (t:=u) (by simpa using e)
   exact⟨z,by simpa using e1,e2⟩
mutual
def T.nd:T->Bool
 | .dct _ _=>false
 | .tup l=>nds l
 | .lst l=>nds l
 | _=>true
def nds:List T->Bool
 | [] =>true
 | t::l=>t.nd&&nds l
end
theorem vJ {t:T}{l:List T}(h:nds (t::l)=true):t.nd=true/\nds l=true:=by unfold nds at h;exact NA.mp h
theorem Bw:∀{l:List T},(∀t∈l,t.nd=true)->nds l=true
 | [],_=>rfl
 | t::l,h=>by unfold nds;rw[h t Lz,Bw λu hu=>h u (Lw _ hu)];rfl
section
variable {X:Cx}{pins:List (Addr×Obj)}{σ:L2.St}{H:Hp}{s:LB}{O:Ow}
mutual
theorem Rep.val (I:Inv X pins σ H s):∀{t:T} {v:V} {u:Ly},t.nd=true->Rep X.K O H t v->RelV v u->ReV s t u
 | .non,v,u,hn,r,q=>by cases Rep.Kt.mp r;unfold ReV;exact q
 | .bl b,v,u,hn,r,q=>by cases Rep.FM.mp r;unfold ReV;exact q
 | .int b,v,u,hn,r,q=>by cases Rep.Da.mp r;unfold ReV;exact q
 | .str b,v,u,hn,r,q=>by cases Rep.Gc.mp r;unfold ReV;exact q
 | .tup l,v,u,hn,r,q=>by
  obtain⟨a,vs,rfl,_,z,w⟩:=Rep.Do.mp r;cases q;obtain⟨its,rv,p,_⟩:=I.tuple (SqT.of z);unfold ReV
  exact⟨a,its,rfl,p,Reps.val I (by unfold T.nd at hn;exact hn) w rv⟩
 | .lst l,v,u,hn,r,q=>by
  obtain⟨a,vs,rfl,_,z,w⟩:=Rep.Fk.mp r;cases q;obtain⟨its,rv,p,_⟩:=I.list (SqL.of z);unfold ReV
  exact⟨a,its,rfl,p.isList,Reps.val I (by unfold T.nd at hn;exact hn) w rv⟩
 | .scr l,v,u,hn,r,q=>by
  unfold Rep at r;obtain⟨a,rfl,_,z⟩:=r;cases q;obtain⟨its,rv,p,_⟩:=I.list z;unfold ReV
  exact⟨a,its,rfl,p.isList,xy rv⟩
 | .dct _ _,v,u,hn,r,q=>by cases hn
theorem Reps.val (I:Inv X pins σ H s):∀{l:List T} {vs:List V} {us:List Ly},nds l=true->Reps X.K O H l vs->Vals vs us->ReVs s l us
 | [],vs,us,hn,r,q=>by
  cases Reps.AC.mp r;cases q
  exact ReVs.AC.mpr rfl
 | t::l,vs,us,hn,r,q=>by
  obtain⟨v,ws,rfl,p,z⟩:=Reps.me.mp r
  cases q with
  | cons q1 q2=>exact ReVs.me.mpr ⟨_,_,rfl,Rep.val I (vJ hn).1 p q1,Reps.val I (vJ hn).2 z q2⟩
end
end
mutual
def T.dep:T->Nat
 | .tup l=>deps l+1
 | .lst l=>deps l+1
 | .scr _=>1
 | _=>0
def deps:List T->Nat
 | [] =>0
 | t::l=>max t.dep (deps l)
end
def EE (i:Int):T->Bool
 | .int j=>i == j
 | .bl b=>i == (if b then 1 else 0)
 | _=>false
def kX:List Int->List T->Bool
 | [],[] =>true
 | i::r,t::l=>EE i t&&kX r l
 | _,_=>false
mutual
def bo:T->T->Bool
 | .non,.non=>true
 | .bl a,.bl b=>a == b
 | .bl a,.int b=>(if a then 1 else 0) == b
 | .int a,.bl b=>a == (if b then 1 else 0)
 | .int a,.int b=>a == b
 | .str a,.str b=>a == b
 | .tup l,.tup m=>beqTs l m
 | .lst l,.lst m=>beqTs l m
 | .lst l,.scr m=>beqTs l (m.map .int)
 | .scr l,.lst m=>kX l m
 | .scr l,.scr m=>l == m
 | _,_=>false
def beqTs:List T->List T->Bool
 | [],[] =>true
 | t::l,u::m=>bo t u&&beqTs l m
 | _,_=>false
end
theorem qf (n:Nat)(e:Nat->Bool):(MA (n+1)).all e=(e 0&&(MA n).all λj=>e (j+1)):=by
 rw[List.range_succ_eq_map,RO,SD];rfl
theorem mW:∀(l m:List T) (e:Nat->Bool),(∀(j:Nat) t u,l[j]? =some t->m[j]? =some u->e j=bo t u) →
  beqTs l m=((MA (min l.length m.length)).all e&&l.length == m.length)
 | [],[],_,_=>by simp[beqTs]
 | [],_::_,_,_=>by simp[beqTs]
 | _::_,[],_,_=>by simp[beqTs]
 | t::l,u::m,e,h=>by
  have ih:=mW l m (λj=>e (j+1)) λj t' u' h1 h2=>h (j+1) t' u' (by simpa using h1) (by simpa using h2)
  rw[beqTs,ih]
  have h0:=h 0 t u rfl rfl;simp only[LG];rw[Nat.succ_min_succ,qf,h0,Bool.and_assoc]
  congr 2
  simp
theorem kx:∀{l m:List T},l.length≠m.length->beqTs l m=false
 | [],[],h=>absurd rfl h
 | [],_::_,_=>by simp[beqTs]
 | _::_,[],_=>by simp[beqTs]
 | t::l,u::m,h=>by
  rw[beqTs,kx (l:=l) (m:=m) (by intro z;exact h (by simp[z]))]
  simp
theorem jS:∀{l:List T} {i:Nat} {t:T},l[i]? =some t->t.dep<=deps l
 | [],_,_,e=>by simp at e
 | t::l,0,u,e=>by simp at e;subst e;unfold deps;exact Nat.le_max_left _ _
 | t::l,i+1,u,e=>by
  have:=jS (l:=l) (i:=i) (t:=u) (by simpa using e)
  unfold deps;exact Md this (Nat.le_max_right _ _)
theorem jN {s:LB}{a:Addr}{x y:List Ly}(h:s.heap.IsTuple a x.toArray)(h':s.heap.IsTuple a y.toArray):x=y:=by
 obtain⟨o,e,_,n,d⟩:=h;obtain⟨o',e',_,n',d'⟩:=h';rw[e]at e';cases e';rw[d]at d';injection d' with d1 _
 simpa using congrArg QY d1
theorem dq {s:LB}{a:Addr}{x y:List Ly}(h:s.heap.IsList a x.toArray)(h':s.heap.IsList a y.toArray):x=y:=by
 obtain⟨o,e,_,n,d⟩:=h;obtain⟨o',e',_,n',d'⟩:=h';rw[e]at e';cases e';rw[d]at d';injection d' with d1 _
 simpa using congrArg QY d1
theorem z9 {s:LB}{i:Int}{t:T}{k:Tok}(r:ReV s t (.int i k)):EE i t=true:=by
 cases t with
 | non=>unfold ReV at r;cases r
 | bl b=>unfold ReV at r;cases r
 | int j=>unfold ReV at r;obtain⟨t,e⟩:=r;injection e with e1 _;subst e1;simp[EE]
 | str x=>unfold ReV at r;obtain⟨t,e⟩:=r;cases e
 | tup l=>unfold ReV at r;obtain⟨a,its,e,_⟩:=r;cases e
 | lst l=>unfold ReV at r;obtain⟨a,its,e,_⟩:=r;cases e
 | scr l=>unfold ReV at r;obtain⟨a,its,e,_⟩:=r;cases e
 | dct _ _=>unfold ReV at r;exact r.elim
theorem qc {s:LB}:∀{ns:List Int} {us:List Ly} {l:List T},Ou us ns->ReVs s l us->kX ns l=true
 | [],us,l,h,r=>by
  cases h
  cases l with
  | nil=>rfl
  | cons t l=>obtain⟨_,_,e,_⟩:=ReVs.me.mp r;cases e
 | n::ns,us,l,h,r=>by
  cases h with
  | cons a b hh=>
   cases l with
   | nil=>have:=ReVs.AC.mp r;cases this
   | cons t l=>
    obtain⟨u,ws,e,p,q⟩:=ReVs.me.mp r;injection e with e1 e2
    subst e1 e2;rw[kX,z9 p,qc hh q];rfl
theorem eV {s:LB}:∀{us:List Ly} {ns:List Int},Ou us ns->ReVs s (ns.map T.int) us
 | _,_,.nil=>ReVs.AC.mpr rfl
 | _,_,.cons n t h=>ReVs.me.mpr ⟨_,_,rfl,by unfold ReV;exact⟨_,rfl⟩,eV h⟩
theorem jO:∀{us:List Ly} {ns ms:List Int},Ou us ns->Ou us ms->ns=ms
 | _,_,_,.nil,.nil=>rfl
 | _,_,_,.cons n t h,.cons _ _ h'=>by rw[jO h h']
mutual
theorem ReV.refl {s:LB}:∀{t u:T} {v:Ly},ReV s t v->ReV s u v->bo t u=true
 | .non,u,v,r,q=>by
  unfold ReV at r;subst r
  cases u <;> (unfold ReV at q) <;> first | rfl | (cases q;done) | (obtain⟨_,e⟩:=q;cases e;done) | (obtain⟨_,_,e,_⟩:=q;cases e;done)
 | .bl b,u,v,r,q=>by
  unfold ReV at r;subst r
  cases u <;> (unfold ReV at q) <;> first | (cases q;done) | (cases q;simp[bo];done) | (obtain⟨_,e⟩:=q;cases e;done) | (obtain⟨_,_,e,_⟩:=q;cases e;done)
 | .int b,u,v,r,q=>by
  unfold ReV at r;obtain⟨k,rfl⟩:=r
  cases u <;> (unfold ReV at q) <;> first | (cases q;done) | (obtain⟨_,e⟩:=q;cases e;simp[bo];done) | (obtain⟨_,e⟩:=q;cases e;done) | (obtain⟨_,_,e,_⟩:=q;cases e;done)
 | .str b,u,v,r,q=>by
  unfold ReV at r;obtain⟨k,rfl⟩:=r
  cases u <;> (unfold ReV at q) <;> first | (cases q;done) | (obtain⟨_,e⟩:=q;cases e;simp[bo];done) | (obtain⟨_,e⟩:=q;cases e;done) | (obtain⟨_,_,e,_⟩:=q;cases e;done)
 | .tup l,u,v,r,q=>by
  unfold ReV at r;obtain⟨a,its,rfl,h1,h2⟩:=r
  cases u with
  | non=>unfold ReV at q;cases q
  | dct _ _=>unfold ReV at q;exact q.elim
  | bl _=>unfold ReV at q;cases q
  | int _=>unfold ReV at q;obtain⟨_,e⟩:=q;cases e
  | str _=>unfold ReV at q;obtain⟨_,e⟩:=q;cases e
  | tup m=>
   unfold ReV at q;obtain⟨a',its',e,h1',h2'⟩:=q;injection e with e;subst e
   have:=jN h1 h1';subst this;unfold bo
   exact ReVs.refl h2 h2'
  | lst m=>unfold ReV at q;obtain⟨a',its',e,h1',h2'⟩:=q;injection e with e;subst e;exact absurd rfl (ne_of_list_tuple h1' h1)
  | scr m=>unfold ReV at q;obtain⟨a',its',e,h1',h2'⟩:=q;injection e with e;subst e;exact absurd rfl (ne_of_list_tuple h1' h1)
 | .lst l,u,v,r,q=>by
  unfold ReV at r;obtain⟨a,its,rfl,h1,h2⟩:=r
  cases u with
  | non=>unfold ReV at q;cases q
  | dct _ _=>unfold ReV at q;exact q.elim
  | bl _=>unfold ReV at q;cases q
  | int _=>unfold ReV at q;obtain⟨_,e⟩:=q;cases e
  | str _=>unfold ReV at q;obtain⟨_,e⟩:=q;cases e
  | lst m=>
   unfold ReV at q;obtain⟨a',its',e,h1',h2'⟩:=q;injection e with e;subst e
   have:=dq h1 h1';subst this;unfold bo
   exact ReVs.refl h2 h2'
  | tup m=>unfold ReV at q;obtain⟨a',its',e,h1',h2'⟩:=q;injection e with e;subst e;exact absurd rfl (ne_of_list_tuple h1 h1')
  | scr m=>
   unfold ReV at q;obtain⟨a',its',e,h1',h2'⟩:=q;injection e with e;subst e
   have:=dq h1 h1';subst this;unfold bo
   exact ReVs.refl h2 (eV h2')
 | .scr l,u,v,r,q=>by
  unfold ReV at r;obtain⟨a,its,rfl,h1,h2⟩:=r
  cases u with
  | non=>unfold ReV at q;cases q
  | dct _ _=>unfold ReV at q;exact q.elim
  | bl _=>unfold ReV at q;cases q
  | int _=>unfold ReV at q;obtain⟨_,e⟩:=q;cases e
  | str _=>unfold ReV at q;obtain⟨_,e⟩:=q;cases e
  | lst m=>
   unfold ReV at q;obtain⟨a',its',e,h1',h2'⟩:=q;injection e with e;subst e
   have:=dq h1 h1';subst this;unfold bo
   exact qc h2 h2'
  | tup m=>unfold ReV at q;obtain⟨a',its',e,h1',h2'⟩:=q;injection e with e;subst e;exact absurd rfl (ne_of_list_tuple h1 h1')
  | scr m=>
   unfold ReV at q;obtain⟨a',its',e,h1',h2'⟩:=q;injection e with e;subst e
   have:=dq h1 h1';subst this;unfold bo
   have:=jO h2 h2'
   simp[this]
 | .dct _ _,u,v,r,q=>by unfold ReV at r;exact r.elim
theorem ReVs.refl {s:LB}:∀{l m:List T} {us:List Ly},ReVs s l us->ReVs s m us->beqTs l m=true
 | [],m,us,r,q=>by
  cases ReVs.AC.mp r
  cases m with
  | nil=>simp[beqTs]
  | cons _ _=>obtain⟨_,_,e,_⟩:=ReVs.me.mp q;cases e
 | t::l,m,us,r,q=>by
  obtain⟨v,ws,rfl,p,z⟩:=ReVs.me.mp r
  cases m with
  | nil=>cases ReVs.AC.mp q
  | cons u m=>
   obtain⟨v',ws',e,p',z'⟩:=ReVs.me.mp q;injection e with e1 e2
   subst e1 e2;rw[beqTs,ReV.refl p p',ReVs.refl z z'];rfl
end
theorem p0:∀(l:List Int) (m:List T),kX l m=beqTs (l.map T.int) m
 | [],[] =>by simp[kX,beqTs]
 | [],_::_=>by simp[kX,beqTs]
 | _::_,[] =>by simp[kX,beqTs]
 | i::l,t::m=>by
  rw[kX,Lx,beqTs,p0 l m]
  congr 1
  cases t <;> simp[EE,bo]
theorem sC:∀(l m:List Int),(l == m)=beqTs (l.map T.int) (m.map T.int)
 | [],[] =>by simp[beqTs]
 | [],_::_=>by simp[beqTs]
 | _::_,[] =>by simp[beqTs]
 | i::l,t::m=>by
  rw[Lx,Lx,beqTs,<-sC l m];simp[bo]
theorem gH:∀(l:List Int),deps (l.map T.int)=0
 | [] =>rfl
 | i::l=>by rw[Lx,deps,gH l];simp[T.dep]
def kg:T->T->Prop
 | .tup _,.tup _=>False
 | .lst _,.lst _=>False
 | .lst _,.scr _=>False
 | .scr _,.lst _=>False
 | .scr _,.scr _=>False
 | _,_=>True
theorem v7 (A:Mh)(s:LB)(x y:T)(u v:Ly)(hn:kg x y)(hu:A.units<cLine)(rx:ReV s x u)(ry:ReV s y v):EqAt A s u v (bo x y)/\RcAt A s u v (bo x y)/\RcNeAt A s u v (!bo x y):=by
 match x,y,hn,rx,ry with
 | .dct _ _,_,_,rx,_=>exact(by unfold ReV at rx;exact rx:False).elim
 | _,.dct _ _,_,_,ry=>exact(by unfold ReV at ry;exact ry:False).elim
 | .non,.non,hn,rx,ry=>
  obtain rfl:u=Ml:=by unfold ReV at rx;exact rx
  obtain rfl:v=Ml:=by unfold ReV at ry;exact ry
  exact⟨EqAt.same _,RcAt.none_none ,RcNeAt.none_none ⟩
 | .non,.bl b2,hn,rx,ry=>
  obtain rfl:u=Ml:=by unfold ReV at rx;exact rx
  obtain rfl:v=Mv b2:=by unfold ReV at ry;exact ry
  exact⟨EqAt.none_bool b2,RcAt.none_bool b2,RcNeAt.none_bool b2⟩
 | .non,.int i2,hn,rx,ry=>
  obtain rfl:u=Ml:=by unfold ReV at rx;exact rx
  obtain⟨k2,rfl⟩:∃k,v=M5 i2 k:=by unfold ReV at ry;exact ry
  exact⟨EqAt.none_int i2 k2,RcAt.none_int i2 k2,RcNeAt.none_int i2 k2⟩
 | .non,.str x2,hn,rx,ry=>
  obtain rfl:u=Ml:=by unfold ReV at rx;exact rx
  obtain⟨k2,rfl⟩:∃k,v=Nr x2 k:=by unfold ReV at ry;exact ry
  exact⟨EqAt.none_str x2 k2,RcAt.none_str x2 k2,RcNeAt.none_str x2 k2⟩
 | .non,.tup l2,hn,rx,ry=>
  obtain rfl:u=Ml:=by unfold ReV at rx;exact rx
  unfold ReV at ry;obtain⟨a2,us2,rfl,h2,q2⟩:=ry
  exact⟨EqAt.none_tuple h2 hu,RcAt.none_tuple h2 hu,RcNeAt.none_tuple h2 hu⟩
 | .non,.lst l2,hn,rx,ry=>
  obtain rfl:u=Ml:=by unfold ReV at rx;exact rx
  unfold ReV at ry;obtain⟨a2,us2,rfl,h2,q2⟩:=ry
  exact⟨EqAt.none_list h2 hu,RcAt.none_list h2 hu,RcNeAt.none_list h2 hu⟩
 | .non,.scr l2,hn,rx,ry=>
  obtain rfl:u=Ml:=by unfold ReV at rx;exact rx
  unfold ReV at ry;obtain⟨a2,us2,rfl,h2,q2⟩:=ry
  exact⟨EqAt.none_list h2 hu,RcAt.none_list h2 hu,RcNeAt.none_list h2 hu⟩
 | .bl b1,.non,hn,rx,ry=>
  obtain rfl:u=Mv b1:=by unfold ReV at rx;exact rx
  obtain rfl:v=Ml:=by unfold ReV at ry;exact ry
  exact⟨EqAt.bool_none b1,RcAt.bool_none b1,RcNeAt.bool_none b1⟩
 | .bl b1,.bl b2,hn,rx,ry=>
  obtain rfl:u=Mv b1:=by unfold ReV at rx;exact rx
  obtain rfl:v=Mv b2:=by unfold ReV at ry;exact ry
  exact⟨EqAt.bool_bool b1 b2,RcAt.bool_bool b1 b2,RcNeAt.bool_bool b1 b2⟩
 | .bl b1,.int i2,hn,rx,ry=>
  obtain rfl:u=Mv b1:=by unfold ReV at rx;exact rx
  obtain⟨k2,rfl⟩:∃k,v=M5 i2 k:=by unfold ReV at ry;exact ry
  exact⟨EqAt.bool_int b1 i2 k2,RcAt.bool_int b1 i2 k2,RcNeAt.bool_int b1 i2 k2⟩
 | .bl b1,.str x2,hn,rx,ry=>
  obtain rfl:u=Mv b1:=by unfold ReV at rx;exact rx
  obtain⟨k2,rfl⟩:∃k,v=Nr x2 k:=by unfold ReV at ry;exact ry
  exact⟨EqAt.bool_str b1 x2 k2,RcAt.bool_str b1 x2 k2,RcNeAt.bool_str b1 x2 k2⟩
 | .bl b1,.tup l2,hn,rx,ry=>
  obtain rfl:u=Mv b1:=by unfold ReV at rx;exact rx
  unfold ReV at ry;obtain⟨a2,us2,rfl,h2,q2⟩:=ry
  exact⟨EqAt.bool_tuple b1 h2 hu,RcAt.bool_tuple b1 h2 hu,RcNeAt.bool_tuple b1 h2 hu⟩
 | .bl b1,.lst l2,hn,rx,ry=>
  obtain rfl:u=Mv b1:=by unfold ReV at rx;exact rx
  unfold ReV at ry;obtain⟨a2,us2,rfl,h2,q2⟩:=ry
  exact⟨EqAt.bool_list b1 h2 hu,RcAt.bool_list b1 h2 hu,RcNeAt.bool_list b1 h2 hu⟩
 | .bl b1,.scr l2,hn,rx,ry=>
  obtain rfl:u=Mv b1:=by unfold ReV at rx;exact rx
  unfold ReV at ry;obtain⟨a2,us2,rfl,h2,q2⟩:=ry
  exact⟨EqAt.bool_list b1 h2 hu,RcAt.bool_list b1 h2 hu,RcNeAt.bool_list b1 h2 hu⟩
 | .int i1,.non,hn,rx,ry=>
  obtain⟨k1,rfl⟩:∃k,u=M5 i1 k:=by unfold ReV at rx;exact rx
  obtain rfl:v=Ml:=by unfold ReV at ry;exact ry
  exact⟨EqAt.int_none i1 k1,RcAt.int_none i1 k1,RcNeAt.int_none i1 k1⟩
 | .int i1,.bl b2,hn,rx,ry=>
  obtain⟨k1,rfl⟩:∃k,u=M5 i1 k:=by unfold ReV at rx;exact rx
  obtain rfl:v=Mv b2:=by unfold ReV at ry;exact ry
  exact⟨EqAt.int_bool i1 k1 b2,RcAt.int_bool i1 k1 b2,RcNeAt.int_bool i1 k1 b2⟩
 | .int i1,.int i2,hn,rx,ry=>
  obtain⟨k1,rfl⟩:∃k,u=M5 i1 k:=by unfold ReV at rx;exact rx
  obtain⟨k2,rfl⟩:∃k,v=M5 i2 k:=by unfold ReV at ry;exact ry
  exact⟨EqAt.int_int i1 k1 i2 k2,RcAt.int_int i1 k1 i2 k2,RcNeAt.int_int i1 k1 i2 k2⟩
 | .int i1,.str x2,hn,rx,ry=>
  obtain⟨k1,rfl⟩:∃k,u=M5 i1 k:=by unfold ReV at rx;exact rx
  obtain⟨k2,rfl⟩:∃k,v=Nr x2 k:=by unfold ReV at ry;exact ry
  exact⟨EqAt.int_str i1 k1 x2 k2,RcAt.int_str i1 k1 x2 k2,RcNeAt.int_str i1 k1 x2 k2⟩
 | .int i1,.tup l2,hn,rx,ry=>
  obtain⟨k1,rfl⟩:∃k,u=M5 i1 k:=by unfold ReV at rx;exact rx
  unfold ReV at ry;obtain⟨a2,us2,rfl,h2,q2⟩:=ry
  exact⟨EqAt.int_tuple i1 k1 h2 hu,RcAt.int_tuple i1 k1 h2 hu,RcNeAt.int_tuple i1 k1 h2 hu⟩
 | .int i1,.lst l2,hn,rx,ry=>
  obtain⟨k1,rfl⟩:∃k,u=M5 i1 k:=by unfold ReV at rx;exact rx
  unfold ReV at ry;obtain⟨a2,us2,rfl,h2,q2⟩:=ry
  exact⟨EqAt.int_list i1 k1 h2 hu,RcAt.int_list i1 k1 h2 hu,RcNeAt.int_list i1 k1 h2 hu⟩
 | .int i1,.scr l2,hn,rx,ry=>
  obtain⟨k1,rfl⟩:∃k,u=M5 i1 k:=by unfold ReV at rx;exact rx
  unfold ReV at ry;obtain⟨a2,us2,rfl,h2,q2⟩:=ry
  exact⟨EqAt.int_list i1 k1 h2 hu,RcAt.int_list i1 k1 h2 hu,RcNeAt.int_list i1 k1 h2 hu⟩
 | .str x1,.non,hn,rx,ry=>
  obtain⟨k1,rfl⟩:∃k,u=Nr x1 k:=by unfold ReV at rx;exact rx
  obtain rfl:v=Ml:=by unfold ReV at ry;exact ry
  exact⟨EqAt.str_none x1 k1,RcAt.str_none x1 k1,RcNeAt.str_none x1 k1⟩
 | .str x1,.bl b2,hn,rx,ry=>
  obtain⟨k1,rfl⟩:∃k,u=Nr x1 k:=by unfold ReV at rx;exact rx
  obtain rfl:v=Mv b2:=by unfold ReV at ry;exact ry
  exact⟨EqAt.str_bool x1 k1 b2,RcAt.str_bool x1 k1 b2,RcNeAt.str_bool x1 k1 b2⟩
 | .str x1,.int i2,hn,rx,ry=>
  obtain⟨k1,rfl⟩:∃k,u=Nr x1 k:=by unfold ReV at rx;exact rx
  obtain⟨k2,rfl⟩:∃k,v=M5 i2 k:=by unfold ReV at ry;exact ry
  exact⟨EqAt.str_int x1 k1 i2 k2,RcAt.str_int x1 k1 i2 k2,RcNeAt.str_int x1 k1 i2 k2⟩
 | .str x1,.str x2,hn,rx,ry=>
  obtain⟨k1,rfl⟩:∃k,u=Nr x1 k:=by unfold ReV at rx;exact rx
  obtain⟨k2,rfl⟩:∃k,v=Nr x2 k:=by unfold ReV at ry;exact ry
  exact⟨EqAt.str_str x1 k1 x2 k2,RcAt.str_str x1 k1 x2 k2,RcNeAt.str_str x1 k1 x2 k2⟩
 | .str x1,.tup l2,hn,rx,ry=>
  obtain⟨k1,rfl⟩:∃k,u=Nr x1 k:=by unfold ReV at rx;exact rx
  unfold ReV at ry;obtain⟨a2,us2,rfl,h2,q2⟩:=ry
  exact⟨EqAt.str_tuple x1 k1 h2 hu,RcAt.str_tuple x1 k1 h2 hu,RcNeAt.str_tuple x1 k1 h2 hu⟩
 | .str x1,.lst l2,hn,rx,ry=>
  obtain⟨k1,rfl⟩:∃k,u=Nr x1 k:=by unfold ReV at rx;exact rx
  unfold ReV at ry;obtain⟨a2,us2,rfl,h2,q2⟩:=ry
  exact⟨EqAt.str_list x1 k1 h2 hu,RcAt.str_list x1 k1 h2 hu,RcNeAt.str_list x1 k1 h2 hu⟩
 | .str x1,.scr l2,hn,rx,ry=>
  obtain⟨k1,rfl⟩:∃k,u=Nr x1 k:=by unfold ReV at rx;exact rx
  unfold ReV at ry;obtain⟨a2,us2,rfl,h2,q2⟩:=ry
  exact⟨EqAt.str_list x1 k1 h2 hu,RcAt.str_list x1 k1 h2 hu,RcNeAt.str_list x1 k1 h2 hu⟩
 | .tup l1,.non,hn,rx,ry=>
  unfold ReV at rx;obtain⟨a1,us1,rfl,h1,q1⟩:=rx;obtain rfl:v=Ml:=by unfold ReV at ry;exact ry
  exact⟨EqAt.tuple_none h1 hu,RcAt.tuple_none h1 hu,RcNeAt.tuple_none h1 hu⟩
 | .tup l1,.bl b2,hn,rx,ry=>
  unfold ReV at rx;obtain⟨a1,us1,rfl,h1,q1⟩:=rx;obtain rfl:v=Mv b2:=by unfold ReV at ry;exact ry
  exact⟨EqAt.tuple_bool b2 h1 hu,RcAt.tuple_bool b2 h1 hu,RcNeAt.tuple_bool b2 h1 hu⟩
 | .tup l1,.int i2,hn,rx,ry=>
  unfold ReV at rx;obtain⟨a1,us1,rfl,h1,q1⟩:=rx;obtain⟨k2,rfl⟩:∃k,v=M5 i2 k:=by unfold ReV at ry;exact ry
  exact⟨EqAt.tuple_int i2 k2 h1 hu,RcAt.tuple_int i2 k2 h1 hu,RcNeAt.tuple_int i2 k2 h1 hu⟩
 | .tup l1,.str x2,hn,rx,ry=>
  unfold ReV at rx;obtain⟨a1,us1,rfl,h1,q1⟩:=rx;obtain⟨k2,rfl⟩:∃k,v=Nr x2 k:=by unfold ReV at ry;exact ry
  exact⟨EqAt.tuple_str x2 k2 h1 hu,RcAt.tuple_str x2 k2 h1 hu,RcNeAt.tuple_str x2 k2 h1 hu⟩
 | .tup _,.tup _,hn,_,_=>exact hn.elim
 | .tup l1,.lst l2,hn,rx,ry=>
  unfold ReV at rx;obtain⟨a1,us1,rfl,h1,q1⟩:=rx;unfold ReV at ry;obtain⟨a2,us2,rfl,h2,q2⟩:=ry
  exact⟨EqAt.tuple_list h1 h2 hu,RcAt.tuple_list h1 h2 hu,RcNeAt.tuple_list h1 h2 hu⟩
 | .tup l1,.scr l2,hn,rx,ry=>
  unfold ReV at rx;obtain⟨a1,us1,rfl,h1,q1⟩:=rx;unfold ReV at ry;obtain⟨a2,us2,rfl,h2,q2⟩:=ry
  exact⟨EqAt.tuple_list h1 h2 hu,RcAt.tuple_list h1 h2 hu,RcNeAt.tuple_list h1 h2 hu⟩
 | .lst l1,.non,hn,rx,ry=>
  unfold ReV at rx;obtain⟨a1,us1,rfl,h1,q1⟩:=rx;obtain rfl:v=Ml:=by unfold ReV at ry;exact ry
  exact⟨EqAt.list_none h1 hu,RcAt.list_none h1 hu,RcNeAt.list_none h1 hu⟩
 | .lst l1,.bl b2,hn,rx,ry=>
  unfold ReV at rx;obtain⟨a1,us1,rfl,h1,q1⟩:=rx;obtain rfl:v=Mv b2:=by unfold ReV at ry;exact ry
  exact⟨EqAt.list_bool b2 h1 hu,RcAt.list_bool b2 h1 hu,RcNeAt.list_bool b2 h1 hu⟩
 | .lst l1,.int i2,hn,rx,ry=>
  unfold ReV at rx;obtain⟨a1,us1,rfl,h1,q1⟩:=rx;obtain⟨k2,rfl⟩:∃k,v=M5 i2 k:=by unfold ReV at ry;exact ry
  exact⟨EqAt.list_int i2 k2 h1 hu,RcAt.list_int i2 k2 h1 hu,RcNeAt.list_int i2 k2 h1 hu⟩
 | .lst l1,.str x2,hn,rx,ry=>
  unfold ReV at rx;obtain⟨a1,us1,rfl,h1,q1⟩:=rx;obtain⟨k2,rfl⟩:∃k,v=Nr x2 k:=by unfold ReV at ry;exact ry
  exact⟨EqAt.list_str x2 k2 h1 hu,RcAt.list_str x2 k2 h1 hu,RcNeAt.list_str x2 k2 h1 hu⟩
 | .lst l1,.tup l2,hn,rx,ry=>
  unfold ReV at rx;obtain⟨a1,us1,rfl,h1,q1⟩:=rx;unfold ReV at ry;obtain⟨a2,us2,rfl,h2,q2⟩:=ry
  exact⟨EqAt.list_tuple h1 h2 hu,RcAt.list_tuple h1 h2 hu,RcNeAt.list_tuple h1 h2 hu⟩
 | .lst _,.lst _,hn,_,_=>exact hn.elim
 | .lst _,.scr _,hn,_,_=>exact hn.elim
 | .scr l1,.non,hn,rx,ry=>
  unfold ReV at rx;obtain⟨a1,us1,rfl,h1,q1⟩:=rx;obtain rfl:v=Ml:=by unfold ReV at ry;exact ry
  exact⟨EqAt.list_none h1 hu,RcAt.list_none h1 hu,RcNeAt.list_none h1 hu⟩
 | .scr l1,.bl b2,hn,rx,ry=>
  unfold ReV at rx;obtain⟨a1,us1,rfl,h1,q1⟩:=rx;obtain rfl:v=Mv b2:=by unfold ReV at ry;exact ry
  exact⟨EqAt.list_bool b2 h1 hu,RcAt.list_bool b2 h1 hu,RcNeAt.list_bool b2 h1 hu⟩
 | .scr l1,.int i2,hn,rx,ry=>
  unfold ReV at rx;obtain⟨a1,us1,rfl,h1,q1⟩:=rx;obtain⟨k2,rfl⟩:∃k,v=M5 i2 k:=by unfold ReV at ry;exact ry
  exact⟨EqAt.list_int i2 k2 h1 hu,RcAt.list_int i2 k2 h1 hu,RcNeAt.list_int i2 k2 h1 hu⟩
 | .scr l1,.str x2,hn,rx,ry=>
  unfold ReV at rx;obtain⟨a1,us1,rfl,h1,q1⟩:=rx;obtain⟨k2,rfl⟩:∃k,v=Nr x2 k:=by unfold ReV at ry;exact ry
  exact⟨EqAt.list_str x2 k2 h1 hu,RcAt.list_str x2 k2 h1 hu,RcNeAt.list_str x2 k2 h1 hu⟩
 | .scr l1,.tup l2,hn,rx,ry=>
  unfold ReV at rx;obtain⟨a1,us1,rfl,h1,q1⟩:=rx;unfold ReV at ry;obtain⟨a2,us2,rfl,h2,q2⟩:=ry
  exact⟨EqAt.list_tuple h1 h2 hu,RcAt.list_tuple h1 h2 hu,RcNeAt.list_tuple h1 h2 hu⟩
 | .scr _,.lst _,hn,_,_=>exact hn.elim
 | .scr _,.scr _,hn,_,_=>exact hn.elim
theorem Em:∀(n:Nat) (A:Mh) (s:LB) (x y:T) (u v:Ly),(x.dep<=n\/y.dep<=n)->A.units+n<cLine->ReV s x u->ReV s y v->EqAt A s u v (bo x y)/\RcAt A s u v (bo x y)/\RcNeAt A s u v (!bo x y):=by
 intro n
 induction n with
 | zero=>
  intro A s x y u v hd hu rx ry
  exact v7 A s x y u v (by cases x <;> cases y <;> simp_all [kg,T.dep]) (by omega) rx ry
 | succ n ih=>
  intro A s x y u v hd hu rx ry
  have hin:A.in1.units+n<cLine:=by show A.units+1+n<cLine;omega
  have items:∀(l m:List T) (us vs:List Ly),(deps l<=n\/deps m<=n)->ReVs s l us->ReVs s m vs->∃e:Nat->Bool,(∀j (h1:j<us.toArray.size) (h2:j<vs.toArray.size),EqAt A.in1 s us.toArray[j] vs.toArray[j] (e j)) ∧
    (∀(j:Nat) t u,l[j]? =some t->m[j]? =some u->e j=bo t u):=λl m us vs hd r1 r2=>by
   refine⟨λj=>bo (l.getD j .non) (m.getD j .non),λj h1 h2=> ?_,λj t u e1 e2=>by simp[List.getD,e1,e2]⟩
   have l1:=r1.length
   have l2:=r2.length
   have h1':j<l.length:=by rw[l1];simpa using h1
   have h2':j<m.length:=by rw[l2];simpa using h2
   have e1:l[j]? =some l[j]:=by simp
   have e2:m[j]? =some m[j]:=by simp
   obtain⟨u1,z1,w1⟩:=r1.get e1;obtain⟨u2,z2,w2⟩:=r2.get e2
   have q1:us.toArray[j] =u1:=by
    have:us[j]? =some us.toArray[j]:=by simp
    rw[z1]at this;exact(Me this).symm
   have q2:vs.toArray[j] =u2:=by
    have:vs[j]? =some vs.toArray[j]:=by simp
    rw[z2]at this;exact(Me this).symm
   rw[q1,q2]
   have g1:l.getD j .non=l[j]:=by simp[List.getD,e1]
   have g2:m.getD j .non=m[j]:=by simp[List.getD,e2]
   show EqAt A.in1 s u1 u2 (bo (l.getD j .non) (m.getD j .non))
   rw[g1,g2];refine(ih A.in1 s l[j] m[j] u1 u2 ?_ hin w1 w2).1
   rcases hd with hd | hd
   ·exact .inl (Md (jS e1) hd)
   ·exact .inr (Md (jS e2) hd)
  have lists:∀(l m:List T) (a b:Addr) (us vs:List Ly),(deps l<=n\/deps m<=n)->ReVs s l us->ReVs s m vs->s.heap.IsList a us.toArray->s.heap.IsList b vs.toArray →
    EqAt A s (.ref a) (.ref b) (beqTs l m)/\RcAt A s (.ref a) (.ref b) (beqTs l m)/\RcNeAt A s (.ref a) (.ref b) (!beqTs l m):=λl m a b us vs hd r1 r2 h1 h2=>by
   have l1:=r1.length
   have l2:=r2.length
   have key:RcAt A s (.ref a) (.ref b) (beqTs l m)/\RcNeAt A s (.ref a) (.ref b) (!beqTs l m):=by
    by_cases hl:l.length=m.length
    ·obtain⟨e,he,hb⟩:=items l m us vs hd r1 r2
     have q:=mW l m e hb
     have q2:beqTs l m=(MA us.toArray.size).all e:=by
      rw[q,hl,Nat.min_self];simp[l2.symm,hl.symm,l1]
     rw[q2]
     have hsz:us.toArray.size=vs.toArray.size:=by simp;omega
     exact⟨RcAt.lists h1 h2 hsz (by omega) he,RcNeAt.lists h1 h2 hsz (by omega) he⟩
    ·rw[kx hl]
     have hsz:(us.toArray.size != vs.toArray.size)=true:=by simp;omega
     exact⟨RcAt.lists_lengths h1 h2 hsz (by omega),RcNeAt.lists_lengths h1 h2 hsz (by omega)⟩
   refine⟨?_,key⟩
   by_cases hab:a=b
   ·subst hab
    have:=dq h1 h2;subst this;rw[ReVs.refl r1 r2];exact EqAt.same _
   ·exact EqAt.of_refs hab key.1
  cases x with
  | tup l=>
   cases y with
   | tup m=>
    unfold ReV at rx ry;obtain⟨a,us,rfl,h1,r1⟩:=rx;obtain⟨b,vs,rfl,h2,r2⟩:=ry
    have hd':deps l<=n\/deps m<=n:=by
     simp only[T.dep]at hd;omega
    have l1:=r1.length
    have l2:=r2.length;obtain⟨e,he,hb⟩:=items l m us vs hd' r1 r2
    have q:=mW l m e hb
    have q2:beqTs l m=((MA (min us.toArray.size vs.toArray.size)).all e&&us.toArray.size == vs.toArray.size):=by
     rw[q];simp[l1,l2]
    have key:RcAt A s (.ref a) (.ref b) (beqTs l m)/\RcNeAt A s (.ref a) (.ref b) (!beqTs l m):=by
     rw[q2];exact⟨RcAt.tuples h1 h2 (by omega) he,RcNeAt.tuples h1 h2 (by omega) he⟩
    unfold bo;refine⟨?_,key⟩
    by_cases hab:a=b
    ·subst hab
     have:=jN h1 h2;subst this;rw[ReVs.refl r1 r2];exact EqAt.same _
    ·exact EqAt.of_refs hab key.1
   | _=>exact v7 A s _ _ u v (by simp[kg]) (by omega) rx ry
  | lst l=>
   cases y with
   | lst m=>
    unfold ReV at rx ry;obtain⟨a,us,rfl,h1,r1⟩:=rx;obtain⟨b,vs,rfl,h2,r2⟩:=ry;unfold bo
    exact lists l m a b us vs (by simp only[T.dep]at hd;omega) r1 r2 h1 h2
   | scr m=>
    unfold ReV at rx ry;obtain⟨a,us,rfl,h1,r1⟩:=rx;obtain⟨b,vs,rfl,h2,r2⟩:=ry;unfold bo
    exact lists l (m.map T.int) a b us vs (by rw[gH];omega) r1 (eV r2) h1 h2
   | _=>exact v7 A s _ _ u v (by simp[kg]) (by omega) rx ry
  | scr l=>
   cases y with
   | lst m=>
    unfold ReV at rx ry;obtain⟨a,us,rfl,h1,r1⟩:=rx;obtain⟨b,vs,rfl,h2,r2⟩:=ry;unfold bo;rw[p0]
    exact lists (l.map T.int) m a b us vs (by rw[gH];omega) (eV r1) r2 h1 h2
   | scr m=>
    unfold ReV at rx ry;obtain⟨a,us,rfl,h1,r1⟩:=rx;obtain⟨b,vs,rfl,h2,r2⟩:=ry;unfold bo;rw[sC]
    exact lists (l.map T.int) (m.map T.int) a b us vs (by rw[gH];omega) (eV r1) (eV r2) h1 h2
   | _=>exact v7 A s _ _ u v (by simp[kg]) (by omega) rx ry
  | _=>exact v7 A s _ _ u v (by simp[kg]) (by omega) rx ry
mutual
def T.nf:T->T
 | .tup l=> .tup (nfs l)
 | .lst l=> .lst (nfs l)
 | .scr l=> .lst (l.map .int)
 | .non=> .non
 | .bl b=> .bl b
 | .int b=> .int b
 | .str b=> .str b
 | .dct a b=> .dct a b
def nfs:List T->List T
 | [] => []
 | t::l=>t.nf::nfs l
end
theorem vH:∀(l:List Int),nfs (l.map T.int)=l.map T.int
 | [] =>rfl
 | i::l=>by rw[Lx,nfs,vH l];simp[T.nf]
mutual
theorem mn:∀(t x:T),bo t.nf x=bo t x
 | .non,x=>by simp[T.nf]
 | .bl _,x=>by simp[T.nf]
 | .int _,x=>by simp[T.nf]
 | .str _,x=>by simp[T.nf]
 | .tup l,x=>by cases x <;> simp[T.nf,bo,beqTs_nf l]
 | .lst l,x=>by cases x <;> simp[T.nf,bo,beqTs_nf l]
 | .scr l,x=>by cases x <;> simp[T.nf,bo,p0,sC]
 | .dct _ _,x=>by simp[T.nf]
theorem beqTs_nf:∀(l m:List T),beqTs (nfs l) m=beqTs l m
 | [],m=>by simp[nfs]
 | t::l,m=>by cases m <;> simp[nfs,beqTs,mn t,beqTs_nf l]
end
theorem Hz {s:LB}{t:T}{i:Int}{k:Tok}(r:ReV s t (.int i k)):t.nf= .int i:=by
 cases t with
 | non=>unfold ReV at r;cases r
 | bl b=>unfold ReV at r;cases r
 | int j=>unfold ReV at r;obtain⟨t,e⟩:=r;injection e with e1 _;subst e1;rfl
 | str x=>unfold ReV at r;obtain⟨t,e⟩:=r;cases e
 | tup l=>unfold ReV at r;obtain⟨a,its,e,_⟩:=r;cases e
 | lst l=>unfold ReV at r;obtain⟨a,its,e,_⟩:=r;cases e
 | scr l=>unfold ReV at r;obtain⟨a,its,e,_⟩:=r;cases e
 | dct _ _=>unfold ReV at r;exact r.elim
theorem yK {s:LB}:∀{l:List T} {us:List Ly} {ns:List Int},ReVs s l us->Ou us ns->nfs l=ns.map T.int
 | [],us,ns,r,h=>by cases ReVs.AC.mp r;cases h;rfl
 | t::l,us,ns,r,h=>by
  obtain⟨u,ws,rfl,p,q⟩:=ReVs.me.mp r
  cases h with
  | cons a b hh=>rw[nfs,Hz p,yK q hh];rfl
mutual
theorem ReV.nf {s:LB}:∀{t u:T} {v:Ly},ReV s t v->ReV s u v->t.nf=u.nf
 | .non,u,v,r,q=>by
  unfold ReV at r;subst r
  cases u <;> (unfold ReV at q) <;> first | rfl | (cases q;done) | (obtain⟨_,e⟩:=q;cases e;done) | (obtain⟨_,_,e,_⟩:=q;cases e;done)
 | .bl b,u,v,r,q=>by
  unfold ReV at r;subst r
  cases u <;> (unfold ReV at q) <;> first | (cases q;done) | (cases q;rfl) | (obtain⟨_,e⟩:=q;cases e;done) | (obtain⟨_,_,e,_⟩:=q;cases e;done)
 | .int b,u,v,r,q=>by
  unfold ReV at r;obtain⟨k,rfl⟩:=r
  cases u <;> (unfold ReV at q) <;> first | (cases q;done) | (obtain⟨_,e⟩:=q;cases e;done) | (obtain⟨_,e⟩:=q;cases e;rfl) | (obtain⟨_,_,e,_⟩:=q;cases e;done)
 | .str b,u,v,r,q=>by
  unfold ReV at r;obtain⟨k,rfl⟩:=r
  cases u <;> (unfold ReV at q) <;> first | (cases q;done) | (obtain⟨_,e⟩:=q;cases e;done) | (obtain⟨_,e⟩:=q;cases e;rfl) | (obtain⟨_,_,e,_⟩:=q;cases e;done)
 | .tup l,u,v,r,q=>by
  unfold ReV at r;obtain⟨a,its,rfl,h1,h2⟩:=r
  cases u with
  | non=>unfold ReV at q;cases q
  | dct _ _=>unfold ReV at q;exact q.elim
  | bl _=>unfold ReV at q;cases q
  | int _=>unfold ReV at q;obtain⟨_,e⟩:=q;cases e
  | str _=>unfold ReV at q;obtain⟨_,e⟩:=q;cases e
  | tup m=>
   unfold ReV at q;obtain⟨a',its',e,h1',h2'⟩:=q;injection e with e;subst e
   have:=jN h1 h1';subst this;unfold T.nf
   rw[ReVs.nf h2 h2']
  | lst m=>unfold ReV at q;obtain⟨a',its',e,h1',h2'⟩:=q;injection e with e;subst e;exact absurd rfl (ne_of_list_tuple h1' h1)
  | scr m=>unfold ReV at q;obtain⟨a',its',e,h1',h2'⟩:=q;injection e with e;subst e;exact absurd rfl (ne_of_list_tuple h1' h1)
 | .lst l,u,v,r,q=>by
  unfold ReV at r;obtain⟨a,its,rfl,h1,h2⟩:=r
  cases u with
  | non=>unfold ReV at q;cases q
  | dct _ _=>unfold ReV at q;exact q.elim
  | bl _=>unfold ReV at q;cases q
  | int _=>unfold ReV at q;obtain⟨_,e⟩:=q;cases e
  | str _=>unfold ReV at q;obtain⟨_,e⟩:=q;cases e
  | lst m=>
   unfold ReV at q;obtain⟨a',its',e,h1',h2'⟩:=q;injection e with e;subst e
   have:=dq h1 h1';subst this;unfold T.nf
   rw[ReVs.nf h2 h2']
  | tup m=>unfold ReV at q;obtain⟨a',its',e,h1',h2'⟩:=q;injection e with e;subst e;exact absurd rfl (ne_of_list_tuple h1 h1')
  | scr m=>
   unfold ReV at q;obtain⟨a',its',e,h1',h2'⟩:=q;injection e with e;subst e
   have:=dq h1 h1';subst this;unfold T.nf
   rw[ReVs.nf h2 (eV h2'),vH]
 | .scr l,u,v,r,q=>by
  unfold ReV at r;obtain⟨a,its,rfl,h1,h2⟩:=r
  cases u with
  | non=>unfold ReV at q;cases q
  | dct _ _=>unfold ReV at q;exact q.elim
  | bl _=>unfold ReV at q;cases q
  | int _=>unfold ReV at q;obtain⟨_,e⟩:=q;cases e
  | str _=>unfold ReV at q;obtain⟨_,e⟩:=q;cases e
  | lst m=>
   unfold ReV at q;obtain⟨a',its',e,h1',h2'⟩:=q;injection e with e;subst e
   have:=dq h1 h1';subst this
   have z:=yK h2' h2;unfold T.nf
   rw[z]
  | tup m=>unfold ReV at q;obtain⟨a',its',e,h1',h2'⟩:=q;injection e with e;subst e;exact absurd rfl (ne_of_list_tuple h1 h1')
  | scr m=>
   unfold ReV at q;obtain⟨a',its',e,h1',h2'⟩:=q;injection e with e;subst e
   have:=dq h1 h1';subst this
   rw[jO h2 h2']
 | .dct _ _,u,v,r,q=>by unfold ReV at r;exact r.elim
theorem ReVs.nf {s:LB}:∀{l m:List T} {us:List Ly},ReVs s l us->ReVs s m us->nfs l=nfs m
 | [],m,us,r,q=>by
  cases ReVs.AC.mp r
  cases m with
  | nil=>rfl
  | cons _ _=>obtain⟨_,_,e,_⟩:=ReVs.me.mp q;cases e
 | t::l,m,us,r,q=>by
  obtain⟨v,ws,rfl,p,z⟩:=ReVs.me.mp r
  cases m with
  | nil=>cases ReVs.AC.mp q
  | cons u m=>
   obtain⟨v',ws',e,p',z'⟩:=ReVs.me.mp q;injection e with e1 e2
   subst e1 e2;rw[nfs,nfs,ReV.nf p p',ReVs.nf z z']
end
section
variable {X:Cx}{a b c:Expr}{fa fb fc:En->Rs T}{pos:Pos}
def gY (x y:T):Bool:=(decide (x.dep<=60)||decide (y.dep<=60))&&(x.nd&&y.nd)
def qQ (x y:T):Rs T:=if gY x y=true then .ok (.bl (bo x y))else .bad
def nM (x y:T):Rs T:=if gY x y=true then .ok (.bl (!bo x y))else .bad
theorem jQ {x y:T}(h:x.dep<=60)(hx:x.nd=true)(hy:y.nd=true):gY x y=true:=by unfold gY;rw[decide_eq_true h,hx,hy];rfl
theorem vZ {x y:T}(h:y.dep<=60)(hx:x.nd=true)(hy:y.nd=true):gY x y=true:=by unfold gY;rw[decide_eq_true h,hx,hy,SE];rfl
theorem kr {x y:T}(h:gY x y=true):x.nd=true/\y.nd=true:=by
 unfold gY at h;exact NA.mp (NA.mp h).2
theorem rN {x y:T}(h:gY x y=true):x.dep<=60\/y.dep<=60:=by
 unfold gY at h
 replace h:=(NA.mp h).1
 rcases Bool.or_eq_true_iff.mp h with h | h
 ·exact .inl (of_decide_eq_true h)
 ·exact .inr (of_decide_eq_true h)
theorem oY (hu:X.A.units+60<cLine):OpT X (Mz .Eq) qQ:=by
 intro pins s σ H O x y vx vy ux uy Q I hf rx ry r1 r2 hp;unfold qQ at hp
 split at hp
 ·rename_i h
  have z:=Em 60 X.A s x y ux uy (rN h) hu (Rep.val I (kr h).1 rx r1) (Rep.val I (kr h).2 ry r2);exact z.2.1 _ _ _ _ ⟨.bl _,H,I,rfl,hp H (Same.refl H) _ (Rep.bl_ _)⟩
 ·exact hp.elim
theorem lO (hu:X.A.units+60<cLine):OpT X (Mz .NotEq) nM:=by
 intro pins s σ H O x y vx vy ux uy Q I hf rx ry r1 r2 hp;unfold nM at hp
 split at hp
 ·rename_i h
  have z:=Em 60 X.A s x y ux uy (rN h) hu (Rep.val I (kr h).1 rx r1) (Rep.val I (kr h).2 ry r2);exact z.2.2 _ _ _ _ ⟨.bl _,H,I,rfl,hp H (Same.refl H) _ (Rep.bl_ _)⟩
 ·exact hp.elim
def T.items:T->Option (List T)
 | .tup l=>some l
 | .lst l=>some l
 | .scr l=>some (l.map T.int)
 | _=>none
def r9 (x:T)(l:List T):Bool:=l.any λy=>bo y x
def Ig (x y:T):Rs T:=match y.items with
 | some l=>if (x.dep<=60\/deps l<=60)/\x.nd=true/\y.nd=true then .ok (.bl (r9 x l))else .bad
 | none=> .bad
theorem D2 {A:Mh}{s:LB}{x:T}{ux:Ly}(rx:ReV s x ux)(hu:A.units+60<cLine){l:List T}{us:List Ly}(hd:x.dep<=60\/deps l<=60)(r:ReVs s l us) :
  ∃e:Ly->Bool,(∀y∈us,EqAt A s y ux (e y))/\us.any e=r9 x l:=by
 classical
 have ex:∀y∈us,∃t∈l,ReV s t y:=λy hy=>by
  obtain⟨i,hi,rfl⟩:=N5 hy
  have hl:=r.length
  have e1:l[i]? =some l[i]:=by simp
  obtain⟨u,q1,q2⟩:=r.get e1
  have:us[i]? =some us[i]:=by simp
  rw[this]at q1;cases q1;exact⟨l[i],M9 _,q2⟩
 let e:Ly->Bool:=λy=>decide (∃t∈l,ReV s t y/\bo t x=true)
 have dep:∀t∈l,t.dep<=60\/x.dep<=60:=λt ht=>by
  rcases hd with h | h
  ·exact .inr h
  ·obtain⟨i,hi,rfl⟩:=N5 ht
   exact .inl (Md (jS (i:=i) (by simp)) h)
 have uniq:∀y t t',ReV s t y->ReV s t' y->bo t x=bo t' x:=λy t t' z z'=>by
  rw[<-mn t,<-mn t',ReV.nf z z']
 have agree:∀y t,t∈l->ReV s t y->e y=bo t x:=λy t h z=>by
  show decide (∃t∈l,ReV s t y/\bo t x=true)=bo t x
  cases q:bo t x with
  | true=>exact decide_eq_true ⟨t,h,z,q⟩
  | false=>
   refine decide_eq_false ?_
   rintro ⟨t',h',z',q'⟩
   rw[<-uniq y t t' z z',q]at q';cases q'
 refine⟨e,λy hy=> ?_,?_⟩
 ·obtain⟨t,h,z⟩:=ex y hy
  rw[agree y t h z];exact(Em 60 A s t x y ux (dep t h) hu z rx).1
 ·have go:∀(l':List T) (us':List Ly),(∀t∈l',t∈l)->ReVs s l' us'->us'.any e=l'.any λy=>bo y x:=by
   intro l'
   induction l' with
   | nil=>intro us' _ r';rw[ReVs.AC.mp r'];rfl
   | cons t l' ih=>
    intro us' sub r';obtain⟨u,ws,rfl,p,q⟩:=ReVs.me.mp r';rw[N6,N6,ih ws (λt ht=>sub t (Lw _ ht)) q,agree u t (sub t Lz) p]
  exact go l us (λ_ h=>h) r
theorem zJ {s:LB}{y:T}{u:Ly}{l:List T}(r:ReV s y u)(h:y.items=some l):∃a us,u= .ref a/\ReVs s l us/\(s.heap.IsTuple a us.toArray\/s.heap.IsList a us.toArray):=by
 cases y with
 | tup m=>cases h;unfold ReV at r;obtain⟨a,us,e,h1,h2⟩:=r;exact⟨a,us,e,h2,.inl h1⟩
 | lst m=>cases h;unfold ReV at r;obtain⟨a,us,e,h1,h2⟩:=r;exact⟨a,us,e,h2,.inr h1⟩
 | scr m=>cases h;unfold ReV at r;obtain⟨a,us,e,h1,h2⟩:=r;exact⟨a,us,e,eV h2,.inr h1⟩
 | _=>cases h
theorem Jl (hu:X.A.units+61<cLine):OpT X (Mz .In) Ig:=by
 intro pins s σ H O x y vx vy ux uy Q I hf rx ry r1 r2 hp;unfold Ig at hp
 split at hp
 ·rename_i l hl
  split at hp
  ·rename_i hd3
   obtain⟨hd,hnx,hny⟩:=hd3;obtain⟨a,us,rfl,rs,hh⟩:=zJ (Rep.val I hny ry r2) hl;obtain⟨e,he,ha⟩:=D2 (A:=X.A.in1) (Rep.val I hnx rx r1) (by show X.A.units+1+60<cLine;omega) hd rs
   have q:=hp H (Same.refl H) _ (Rep.bl_ (r9 x l))
   have he':∀y,y∈us.toArray->EqAt X.A.in1 s y ux (e y):=λy hy=>he y (by simpa using hy)
   have ha':us.toArray.any e=r9 x l:=by simpa using ha
   rcases hh with hh | hh
   ·exact in_tupleAt e hh he' (by rw[ha'];exact⟨.bl _,H,I,rfl,q⟩)
   ·exact in_listAt e hh he' (by rw[ha'];exact⟨.bl _,H,I,rfl,q⟩)
  ·exact hp.elim
 ·exact hp.elim
def ch (g g':T->T->Rs T)(fa fb fc:En->Rs T)(Z:En):Rs T:=do
 let x <-fa Z
 let y <-fb Z
 let z <-g x y
 match z with
 | .bl true=>do
  let w <-fc Z
  g' y w
 | .bl false=> .ok (.bl false)
 | _=> .bad
theorem DF {op op':TX}{g g':T->T->Rs T}(ho:OpT X (Mz op) g)(ho':OpT X (Mz op') g')(ha:cY X a fa)(hb:cY X b fb)(hc:cY X c fc)
  (hm:lastMarks [op,op'] [b,c] =false:=by with_unfolding_all rfl):cY X (.Compare a [op,op'] [b,c] pos) (ch g g' fa fb fc):=by
 intro pins s σ H Q I ⟨Z,O,E,hq⟩
 have h1:=bu E hq;refine Compare_chain (cE (ha pins s σ H _ I h1) λv s1 ⟨x,H1,I1,r1,t,rt,s',E',q1⟩=>chain_link ?_) hm
 have h2:=bu (f:=fb) E' q1;refine cE (hb pins s1 σ H1 _ I1 h2) λu s2 hh_=> ?_
 obtain⟨y,H2,I2,r2,t2,rt2,s'',E'',q2⟩:=hh_
 refine cE (ho pins s2 σ H2 O t t2 x y v u (λv' H'=> ∃t',Rep X.K O H' t' v'/\Same H2 H'/\Post X H' (match t' with
  | .bl true=>fc Z >>= λw=>g' t2 w
  | .bl false=> .ok (.bl false)
  | _=> .bad) (λt H'=> ∀v,Rep X.K O H' t v->Q v H')) I2 (λp=>E''.fresh) (rt.same s'') rt2 r1 r2 (Post.mono q2.bind λt' H' s3 q v rv=>⟨t',rv,s3,q⟩)) λd s3 ⟨z,H3,I3,r3,t3,rt3,sm3,q3⟩=> ?_
 have E3:=E''.same sm3
 split at q3
 ·cases Rep.FM.mp rt3
  cases r3;refine MO (ite_tt (chain_last ?_))
  have h4:=bu (f:=fc) E3 q3;refine cE (hc pins s3 σ H3 _ I3 h4) λw' s4 ⟨z',H4,I4,r4,t4,rt4,s4',E4,q4⟩=> ?_
  exact ho' pins s4 σ H4 O t2 t4 y z' u w' Q I4 (λp=>E4.fresh) ((rt2.same sm3).same s4') rt4 r2 r4 q4
 ·cases Rep.FM.mp rt3
  cases r3;refine MO (ite_ff ⟨.bl false,H3,I3,rfl,q3 H3 (Same.refl H3) _ (Rep.bl_ false)⟩)
 ·exact q3.elim
def tb (f:En->Rs T)(Z:En):Rs Bool:=do
 let x <-f Z
 match x with
 | .bl k=> .ok k
 | _=> .bad
def bt (f:En->Rs Bool)(Z:En):Rs T:=do
 let k <-f Z
 .ok (.bl k)
theorem Gg {e:Expr}{f:En->Rs T}(h:cY X e f)(he:∀whole,isTrue e X.env whole=(do let v <-whole;standAt e.pos;holding [v] (truthy v)):=by intro _;rfl):wy X e (tb f):=by
 intro pins s σ H Q I ⟨Z,O,E,hq⟩;refine A1 h he pins s σ H Q I ?_
 obtain⟨Z1,O1,E1,h1⟩:=bu E hq;refine⟨Z1,O1,E1,Post.mono h1 λts H1 s1 q vs r=> ?_⟩
 obtain⟨t',r',s',E',q'⟩:=q vs r
 split at q'
 ·exact⟨_,Rep.FM.mp r',q' H1 (Same.refl H1)⟩
 ·exact q'.elim
theorem Gi {op:TX}{g:T->T->Rs T}(ho:OpT X (Mz op) g)(ha:cY X a fa)(hb:cY X b fb)(hm:On op b=false:=by rfl):wy X (.Compare a [op] [b] pos) (tb (o2 g fa fb)):=by
 intro pins s σ H Q I ⟨Z,O,E,hq⟩
 have hq':Post X H (o2 g fa fb Z) λt H'=> ∀v,Rep X.K O H' t v->∃k,v= .bl k/\Q k H':=Post.mono hq.bind λt H' s' q v r=>by
  split at q
  ·exact⟨_,Rep.FM.mp r,q H' (Same.refl H')⟩
  ·exact q.elim
 have h1:=bu E hq';refine Ra (cE (ha pins s σ H _ I h1) λv s1 ⟨x,H1,I1,r1,t,rt,s',E',q1⟩=> ?_) hm
 have h2:=bu (f:=fb) E' q1;refine cE (hb pins s1 σ H1 _ I1 h2) λu s2 hh_=> ?_
 obtain⟨y,H2,I2,r2,t2,rt2,s'',E'',q2⟩:=hh_;refine cE (ho pins s2 σ H2 O t t2 x y v u _ I2 (λp=>E''.fresh) (rt.same s'') rt2 r1 r2 q2) λd s3 hh_=> ?_
 obtain⟨z,H3,I3,r3,k,e,q3⟩:=hh_;subst e;cases r3;exact MO ⟨H3,I3,q3⟩
def qT (f g:En->Rs Bool)(Z:En):Rs Bool:=do
 let k <-f Z
 if k then g Z else .ok false
def mB (f g:En->Rs Bool)(Z:En):Rs Bool:=do
 let k <-f Z
 if k then .ok true else g Z
def eE (f:En->Rs Bool)(Z:En):Rs Bool:=do
 let k <-f Z
 .ok (!k)
variable {f g:En->Rs Bool}{dk:List Expr}
abbrev FD (X:Cx)(e:Expr)(f:En->Rs Bool):Prop:=PW X e (Aw X f)
theorem Dp (ha:wy X a f):FD X (.BoolOp .And [a] pos) f:=DH ha
theorem Ge (ha:wy X a f):FD X (.BoolOp .Or [a] pos) f:=AZ ha
theorem Gf (ha:wy X a f)(hb:FD X (.BoolOp .And (b::dk) pos) g):FD X (.BoolOp .And (a::b::dk) pos) (qT f g):=by
 intro wh pins s σ H Q I ⟨Z,O,E,hq⟩;refine GH ha hb wh pins s σ H Q I ?_
 obtain⟨Z1,O1,E1,h1⟩:=lC E hq;refine⟨Z1,O1,E1,Post.mono h1 λk H1 s1 q=> ?_⟩
 obtain⟨s',E',q'⟩:=q
 cases k with
 | true=>rw[if_pos rfl];exact⟨Z,O,E',by simpa using q'⟩
 | false=>rw[if_neg LX];exact q' H1 (Same.refl H1)
theorem II (ha:wy X a f)(hb:FD X (.BoolOp .Or (b::dk) pos) g):FD X (.BoolOp .Or (a::b::dk) pos) (mB f g):=by
 intro wh pins s σ H Q I ⟨Z,O,E,hq⟩;refine Fm ha hb wh pins s σ H Q I ?_
 obtain⟨Z1,O1,E1,h1⟩:=lC E hq;refine⟨Z1,O1,E1,Post.mono h1 λk H1 s1 q=> ?_⟩
 obtain⟨s',E',q'⟩:=q
 cases k with
 | true=>rw[if_pos rfl];exact q' H1 (Same.refl H1)
 | false=>rw[if_neg LX];exact⟨Z,O,E',by simpa using q'⟩
theorem qt_w {e:Expr}(h:FD X e f):wy X e f:=h.pt
theorem Gh (ha:wy X a f):wy X (.UnaryOp .Not a pos) (eE f):=by
 intro pins s σ H Q I ⟨Z,O,E,hq⟩;refine A2 ha pins s σ H Q I ?_
 obtain⟨Z1,O1,E1,h1⟩:=lC E hq;exact⟨Z1,O1,E1,Post.mono h1 λk H1 s1 ⟨s',E',q'⟩=>q' H1 (Same.refl H1)⟩
def cb (f g:En->Rs T)(Z:En):Rs T:=do
 let x <-f Z
 match x with
 | .bl true=>g Z
 | .bl false=> .ok (.bl false)
 | _=> .bad
def rA (f g:En->Rs T)(Z:En):Rs T:=do
 let x <-f Z
 match x with
 | .bl true=> .ok (.bl true)
 | .bl false=>g Z
 | _=> .bad
def tH:T->Rs T
 | .bl k=> .ok (.bl (!k))
 | _=> .bad
theorem IU {op}(h:cY X a fa):cY X (.BoolOp op [a] pos) fa:=GO h
theorem Je (ha:cY X a fa)(hb:cY X (.BoolOp .And (b::dk) pos) fb):cY X (.BoolOp .And (a::b::dk) pos) (cb fa fb):=by
 intro pins s σ H Q I ⟨Z,O,E,hq⟩;refine GR ha hb pins s σ H Q I ?_
 obtain⟨Z1,O1,E1,h1⟩:=bu E hq;refine⟨Z1,O1,E1,Post.mono h1 λts H1 s1 q vs r=> ?_⟩
 obtain⟨t',r',s',E',q'⟩:=q vs r
 split at q'
 ·exact⟨true,Rep.FM.mp r',by rw[if_pos rfl];exact⟨Z,O,E',q'⟩⟩
 ·exact⟨false,Rep.FM.mp r',by rw[if_neg LX];exact q' H1 (Same.refl H1) _ (Rep.bl_ false)⟩
 ·exact q'.elim
theorem q_or (ha:cY X a fa)(hb:cY X (.BoolOp .Or (b::dk) pos) fb):cY X (.BoolOp .Or (a::b::dk) pos) (rA fa fb):=by
 intro pins s σ H Q I ⟨Z,O,E,hq⟩;refine Ji ha hb pins s σ H Q I ?_
 obtain⟨Z1,O1,E1,h1⟩:=bu E hq;refine⟨Z1,O1,E1,Post.mono h1 λts H1 s1 q vs r=> ?_⟩
 obtain⟨t',r',s',E',q'⟩:=q vs r
 split at q'
 ·exact⟨true,Rep.FM.mp r',by rw[if_pos rfl];exact q' H1 (Same.refl H1) _ (Rep.bl_ true)⟩
 ·exact⟨false,Rep.FM.mp r',by rw[if_neg LX];exact⟨Z,O,E',q'⟩⟩
 ·exact q'.elim
theorem IV (ha:cY X a fa):cY X (.UnaryOp .Not a pos) (o1 tH fa):=by
 intro pins s σ H Q I ⟨Z,O,E,hq⟩;refine GP ha pins s σ H Q I ?_
 obtain⟨Z1,O1,E1,h1⟩:=bu E hq;refine⟨Z1,O1,E1,Post.mono h1 λts H1 s1 q vs r=> ?_⟩
 obtain⟨t',r',s',E',q'⟩:=q vs r;unfold tH at q'
 split at q'
 ·exact⟨_,Rep.FM.mp r',q' H1 (Same.refl H1) _ (Rep.bl_ _)⟩
 ·exact q'.elim
def t9 (f:En->Rs Bool)(fa fb:En->Rs T)(Z:En):Rs T:=do
 let k <-f Z
 if k then fa Z else fb Z
theorem q_if (hc:wy X c f)(ha:cY X a fa)(hb:cY X b fb):cY X (.IfExp c a b pos) (t9 f fa fb):=by
 intro pins s σ H Q I ⟨Z,O,E,hq⟩;refine Bc hc ha hb pins s σ H Q I ?_
 obtain⟨Z1,O1,E1,h1⟩:=lC E hq;refine⟨Z1,O1,E1,Post.mono h1 λk H1 s1 q=> ?_⟩
 obtain⟨s',E',q'⟩:=q
 cases k with
 | true=>rw[if_pos rfl];exact⟨Z,O,E',by simpa using q'⟩
 | false=>rw[if_neg LX];exact⟨Z,O,E',by simpa using q'⟩
end
end Tr
namespace HT
open PySem PyProof.Rows
section
variable {prog:L1}{w:MG}{A:Mh}{E:Ly->LB->Prop}{s:LB}
theorem kG {t:Addr}{items:Array Ly}{Q:Bool->LB->Prop}(ht:TV s.heap t items)(h:Q true s):wpAny (model prog w) A (P0 (.ref t)) Q E s:=by
 unfold P0;refine Lv (Pv ht.typeIs (LI ?_))
 exact h
theorem getItem_tuple_whole {t sl:Addr}{items:Array Ly}{vl vu:Ly}{lo hi:Option Int}{Q:Ly->LB->Prop}(ht:TV s.heap t items)(hs:s.heap.IsSliceOf sl vl vu .none)(pl:R4 vl lo)(pu:R4 vu hi)
  (hw:sIx items.size 0 lo=0/\sIx items.size items.size hi=items.size) (h:Q (.ref t) s):wpAny (model prog w) A (getItem (.ref t) (.ref sl)) Q E s:=by
 obtain⟨os,hos,hcs,hds⟩:=id hs
 have hTs:s.TypeIs (.ref sl) "slice":=⟨os,hos,hcs⟩;unfold getItem
 try with_reducible refine O4 ?_
 first | refine Lv (LI ?_) | skip
 refine Lv (Su ht.typeIs (by decide) ?_)
 refine Lv (MQ (name:=LU "__getitem__") ht.typeIs Mw
  (Ny Mw ht.typeIs RE ?_ (R5 _ _)))
 show wpAny _ _ (PZ (.ref t) >>= _) _ _ s
 refine Lv (R6 ht ?_)
 refine Lv (Pv hTs ?_)
 rw[if_pos (by decide)]
 refine Lv (iI hs pl pu ?_)
 have hyes:(((sIx items.size 0 lo:Nat):Int) == 0&&(1:Int) == 1&&(sIx items.size items.size hi - sIx items.size 0 lo) == items.size)=true:=by
  rw[hw.1,hw.2];simp
 show wpAny _ _ (if (((sIx items.size 0 lo:Nat):Int) == 0&&(1:Int) == 1&&(sIx items.size items.size hi - sIx items.size 0 lo) == items.size)=true then _ else _) _ _ s
 rw[if_pos hyes]
 first
  | refine Lv (kG ht ?_)
  | refine kG ht ?_
 try rw[if_pos rfl]
 first
  | exact Lv (OM (LI ⟨_,rfl,LI h⟩))
  | exact Lv (OM (Lv (LI (LI ⟨_,rfl,LI h⟩))))
end
end HT
namespace Tr
open PySem PySem.Spec PyProof.Rows L2
section
variable {X:Cx}{a b c:Expr}{fa fb fc:En->Rs T}{pos:Pos}
theorem Reps.atI {K:Lu}{O:Ow}{H:Hp}{l:List T}{vs:List V}{i:Int}{t:T}(r:Reps K O H l vs)(e:L2.atI l i=some t):∃v,L2.atI vs i=some v/\Rep K O H t v:=by
 unfold L2.atI at e ⊢;rw[r.length]at e
 cases q:ixN vs.length i with
 | none=>rw[q]at e;cases e
 | some j=>
  rw[q]at e;obtain⟨v,e1,e2⟩:=r.get (i:=j) (t:=t) e;exact⟨v,e1,e2⟩
def aZ (x y:T):Rs T:=match x.items,y with
 | some l,.int i=>match L2.atI l i with
  | some t=> .ok t
  | none=> .bad
 | _,_=> .bad
theorem q_ix (ha:cY X a fa)(hb:cY X b fb)(hs:kA b:=by intro _ _;rfl):cY X (.Subscript a b pos) (o2 aZ fa fb):=by
 intro pins s σ H Q I ⟨Z,O,E,hq⟩
 have h1:=bu E hq;refine Sv (cE (ha pins s σ H _ I h1) λv s1 hh_=> ?_)
 obtain⟨x,H1,I1,r1,t,rt,s',E',q1⟩:=hh_
 have h2:=bu (f:=fb) E' q1;refine cE (hb pins s1 σ H1 _ I1 h2) λu s2 hh_=> ?_
 obtain⟨y,H2,I2,r2,t2,rt2,s'',E'',q2⟩:=hh_
 have rt':=rt.same s'';unfold aZ at q2
 split at q2
 ·rename_i l i hl
  split at q2
  ·rename_i z hz
   have hy:=Rep.Da.mp rt2;refine Hv a b pins s2 σ H2 x y v u Q I2 r1 r2 ?_ (hs _ _)
   cases t with
   | tup m=>
    cases hl;obtain⟨p,vs,e,n,q,rr⟩:=Rep.Do.mp rt';obtain⟨w,ew,rw'⟩:=rr.atI hz
    exact .inr (.inl ⟨p,vs,i,w,e,hy,SqT.of q,ew,q2 H2 (Same.refl H2) _ rw'⟩)
   | lst m=>
    cases hl;obtain⟨p,vs,e,n,q,rr⟩:=Rep.Fk.mp rt';obtain⟨w,ew,rw'⟩:=rr.atI hz
    exact .inl ⟨p,vs,i,w,e,hy,SqL.of q,ew,q2 H2 (Same.refl H2) _ rw'⟩
   | scr m=>
    cases hl;unfold Rep at rt';obtain⟨p,e,n,q⟩:=rt';obtain⟨w,ew,rw'⟩:=(Reps.ints (K:=X.K) (O:=O) (H:=H2) (ns:=m)).atI hz
    exact .inl ⟨p,_,i,w,e,hy,q,ew,q2 H2 (Same.refl H2) _ rw'⟩
   | _=>cases hl
  ·exact q2.elim
 ·exact q2.elim
def nS (l:List T)(lo hi:Option Int):List T:=(l.drop (HT.sIx l.length 0 lo)).take (HT.sIx l.length l.length hi - HT.sIx l.length 0 lo)
theorem Reps.cut {K:Lu}{O:Ow}{H:Hp}{l:List T}{vs:List V}(r:Reps K O H l vs)(lo hi:Option Int):Reps K O H (nS l lo hi) (wj vs lo hi):=by
 unfold nS wj;rw[r.length];exact(r.drop _).take _
theorem zX {l:List T}{lo hi:Option Int}(h:HT.sIx l.length 0 lo=0/\HT.sIx l.length l.length hi=l.length):nS l lo hi=l:=by
 unfold nS;rw[h.1,h.2];simp
theorem sl_tup_whole:SlR X (λx lo hi H Q=> ∃a xs,x= .ref a/\SqT X.K H a xs/\(HT.sIx xs.length 0 lo=0/\HT.sIx xs.length xs.length hi=xs.length)/\Q (.ref a) H):=by
 intro pins s σ H x v vl vu lo hi sl Q I rx hs pl pu h;obtain⟨a,xs,rfl,hx,hw,q⟩:=h;cases rx;obtain⟨its,r,ht,hz⟩:=I.tuple hx
 have hlen:its.toArray.size=xs.length:=by rw[LQ];exact r.length.symm
 refine⟨"tuple",_,Mw.lookup,ht.typeIs,?_⟩
 exact HT.getItem_tuple_whole ht hs pl pu (by rw[hlen];exact hw) ⟨.ref a,H,I,rfl,q⟩
def pN (_:En):Rs (Option Int):=.ok none
def pS (f:En->Rs T)(Z:En):Rs (Option Int):=do
 let x <-f Z
 match x with
 | .int i=> .ok (some i)
 | _=> .bad
def tPO (X:Cx)(f:En->Rs (Option Int)):TO:=λσ H Q=> ∃Z O,EnvO X.K O H Z σ/\Post X H (f Z) λb H'=>Q b H'
abbrev J6 (X:Cx)(e:Option Expr)(f:En->Rs (Option Int)):Prop:=PO X e (tPO X f)
theorem Dw:J6 X none pN:=by
 intro pins s σ H Q I ⟨Z,O,E,hq⟩;exact DM pins s σ H Q I (hq H (Same.refl H))
theorem Dv (ha:cY X a fa):J6 X (some a) (pS fa):=by
 intro pins s σ H Q I ⟨Z,O,E,hq⟩;refine DL ha pins s σ H Q I ?_
 obtain⟨Z1,O1,E1,h1⟩:=bu E hq;refine⟨Z1,O1,E1,Post.mono h1 λts H1 s1 q vs r=> ?_⟩
 obtain⟨t',r',s',E',q'⟩:=q vs r
 split at q'
 ·exact⟨_,Rep.Da.mp r',q' H1 (Same.refl H1)⟩
 ·exact q'.elim
def slT (x:T)(lo hi:Option Int):Rs T:=match x with
 | .tup l=> .ok (.tup (nS l lo hi))
 | .lst l=> .ok (.lst (nS l lo hi))
 | _=> .bad
def sl (fe:En->Rs T)(fl fu:En->Rs (Option Int))(Z:En):Rs T:=do
 let x <-fe Z
 let l <-fl Z
 let u <-fu Z
 slT x l u
theorem uN {σ:L2.St}{H:Hp}{Z:En}{O:Ow}{α:Type}{f:En->Rs (Option Int)}{k:Option Int->Rs α}{Q:α->Hp->Prop}(E:EnvO X.K O H Z σ)(h:Post X H (f Z >>= k) Q) :
  tPO X f σ H λb H'=>Same H H'/\EnvO X.K O H' Z σ/\Post X H' (k b) Q:=
 ⟨Z,O,E,Post.mono h.bind λt H' s q=>⟨s,E.same s,q⟩⟩
theorem DE {lo hi:Option Expr}{p2:Pos}{fl fu:En->Rs (Option Int)}(ha:cY X a fa)(hl:J6 X lo fl)(hu:J6 X hi fu):cY X (.Subscript a (.Slice lo hi none p2) pos) (sl fa fl fu):=by
 intro pins s σ H Q I ⟨Z,O,E,hq⟩;refine A9 (sl_tup.or (sl_tup_whole.or Df)) ha hl hu pins s σ H Q I ?_
 obtain⟨Z1,O1,E1,h1⟩:=bu E hq;refine⟨Z1,O1,E1,Post.mono h1 λts H1 s1 q vs r=> ?_⟩
 obtain⟨t',r',s',E',q'⟩:=q vs r;obtain⟨Z2,O2,E2,h2⟩:=uN E' q';refine⟨Z2,O2,E2,Post.mono h2 λo1 H2 s2 q=> ?_⟩
 obtain⟨s2',E2',q2⟩:=q;obtain⟨Z3,O3,E3,h3⟩:=uN E2' q2;refine⟨Z3,O3,E3,Post.mono h3 λo2 H3 s3 q=> ?_⟩
 obtain⟨s3',E3',q3⟩:=q
 have rt:=(r'.same s2').same s3';unfold slT at q3
 split at q3
 ·rename_i l
  obtain⟨p,ws,e,n,q,rr⟩:=Rep.Do.mp rt
  have hlen:=rr.length
  by_cases hw:HT.sIx ws.length 0 o1=0/\HT.sIx ws.length ws.length o2=ws.length
  ·refine .inr (.inl ⟨p,ws,e,SqT.of q,hw,?_⟩)
   rw[<-hlen]at hw;refine q3 H3 (Same.refl H3) _ ?_
   rw[zX hw];exact Rep.Do.mpr ⟨p,ws,rfl,n,q,rr⟩
  ·exact .inl ⟨p,ws,e,SqT.of q,hw,λp' hp=>q3 _ (a9 hp _) _ (gQ hp (E3'.fresh hp) (rr.cut o1 o2))⟩
 ·rename_i l
  obtain⟨p,ws,e,n,q,rr⟩:=Rep.Fk.mp rt;exact .inr (.inr ⟨p,ws,e,SqL.of q,λp' hp=>q3 _ (a9 hp _) _ (jH hp (E3'.fresh hp) (rr.cut o1 o2))⟩)
 ·exact q3.elim
def CallT (X:Cx)(f:Ly)(g:List T->Rs T):Prop:=
 ∀(pins:List (Addr×Obj)) (s:LB) (σ:L2.St) (H:Hp) (O:Ow) (ts:List T) (vs:List V) (us:List Ly) (Q:VK),Inv X pins σ H s->(∀p,H p=none->¬ O p)->Reps X.K O H ts vs->Vals vs us →
  Post X H (g ts) (λt H'=> ∀v,Rep X.K O H' t v->Q v H')->wpAny (model X.prog X.w) X.A (call f us) (EP X pins σ Q) X.xe s
theorem CallT.of {f:Ly}{r:List V->Hp->VK->Prop}(h:CallR X f r){g:List T->Rs T}
  (w:∀(H:Hp) (O:Ow) (ts:List T) (vs:List V) (Q:VK),(∀p,H p=none->¬ O p)->Reps X.K O H ts vs->Post X H (g ts) (λt H'=> ∀v,Rep X.K O H' t v->Q v H')->r vs H Q):CallT X f g:=
 λpins s σ H O ts vs us Q I hf rs rv hp=>h pins s σ H vs us Q I rv (w H O ts vs Q hf rs hp)
def cl (g:List T->Rs T)(fs:En->Rs (List T))(Z:En):Rs T:=fs Z >>= g
variable {e:Expr}{es:List Expr}{fs:En->Rs (List T)}{x:Str}{p:Pos}{id:String}{g:List T->Rs T}
theorem DG (hc:CallT X (.builtin id) g)(hm:X.mg x=none)(hv:Mg x=some (.builtin id))(ha:qV X (e::es) fs)(hg:Gl X x:=by rfl)(hn:x≠ "__name__":=by decide)(hdb:gE x:=by decide)
  (he:LP (e::es) X.env=(false,eval e X.env)::LP es X.env:=by rfl) (hpl:(backTo pos (LP es X.env)).any (·.1)=false:=by rfl):cY X (.Call (.Name x p) (e::es) [] pos) (cl g fs):=by
 intro pins s σ H Q I ⟨Z,O,E,hq⟩;refine My (gm I hg hm hv ?_ hn hdb)
 have h1:=fY E hq;exact Nq (cE (ha pos pins s σ H _ I h1) λus s1 ⟨vs,H1,I1,r1,ts,rs,s',E',q1⟩=>hc pins s1 σ H1 O ts vs us Q I1 (λp=>E'.fresh) rs r1 q1) he hpl
theorem AY {Ty:String}(hc:CallT X (.type Ty) g)(hm:X.mg x=none)(hv:Mg x=some (.type Ty))(ha:qV X (e::es) fs)(hg:Gl X x:=by rfl)(hn:x≠ "__name__":=by decide)(hdb:gE x:=by decide)
  (he:LP (e::es) X.env=(false,eval e X.env)::LP es X.env:=by rfl) (hpl:(backTo pos (LP es X.env)).any (·.1)=false:=by rfl):cY X (.Call (.Name x p) (e::es) [] pos) (cl g fs):=by
 intro pins s σ H Q I ⟨Z,O,E,hq⟩;refine My (gm I hg hm hv ?_ hn hdb)
 have h1:=fY E hq;exact Mx (cE (ha pos pins s σ H _ I h1) λus s1 ⟨vs,H1,I1,r1,ts,rs,s',E',q1⟩=>hc pins s1 σ H1 O ts vs us Q I1 (λp=>E'.fresh) rs r1 q1) he hpl
theorem Reps.one {K:Lu}{O:Ow}{H:Hp}{t:T}{vs:List V}(r:Reps K O H [t] vs):∃v,vs= [v]/\Rep K O H t v:=by
 obtain⟨v,ws,rfl,p,q⟩:=Reps.me.mp r;cases Reps.AC.mp q;exact⟨v,rfl,p⟩
theorem Rep.sq {K:Lu}{O:Ow}{H:Hp}{t:T}{v:V}{l:List T}(r:Rep K O H t v)(h:t.items=some l):∃a vs,v= .ref a/\¬ O a/\Reps K O H l vs/\(SqL K H a vs\/SqT K H a vs):=by
 cases t with
 | tup m=>cases h;obtain⟨a,vs,e,n,q,z⟩:=Rep.Do.mp r;exact⟨a,vs,e,n,z,.inr (SqT.of q)⟩
 | lst m=>cases h;obtain⟨a,vs,e,n,q,z⟩:=Rep.Fk.mp r;exact⟨a,vs,e,n,z,.inl (SqL.of q)⟩
 | scr m=>cases h;unfold Rep at r;obtain⟨a,e,n,q⟩:=r;exact⟨a,_,e,n,Reps.ints,.inl q⟩
 | _=>cases h
def cI:List T->Rs T
 | [.str x] =>if x.length<=sizeLine then .ok (.int x.length)else .bad
 | [x] =>match x.items with
  | some l=> .ok (.int l.length)
  | none=> .bad
 | _=> .bad
theorem dv:CallT X (.builtin "len") cI:=CallT.of (call_len_seq.or um) λH O ts vs Q hf rs hp=>by
 unfold cI at hp
 split at hp
 ·obtain⟨v,rfl,r⟩:=rs.one
  split at hp
  ·rename_i h
   exact .inr ⟨_,by rw[Rep.Gc.mp r],h,hp H (Same.refl H) _ (Rep.IR _)⟩
  ·exact hp.elim
 ·obtain⟨v,rfl,r⟩:=rs.one
  split at hp
  ·rename_i l hl
   obtain⟨a,vs,rfl,n,z,q⟩:=r.sq hl;exact .inl ⟨a,vs,rfl,q,hp H (Same.refl H) _ (by rw[<-z.length];exact Rep.IR _)⟩
  ·exact hp.elim
 ·exact hp.elim
def gh:List T->Rs T
 | [.tup l] => .ok (.tup l)
 | [.lst l] => .ok (.tup l)
 | _=> .bad
theorem jT:CallT X (.type "tuple") gh:=CallT.of qS λH O ts vs Q hf rs hp=>by
 unfold gh at hp
 split at hp
 ·obtain⟨v,rfl,r⟩:=rs.one
  obtain⟨a,ws,rfl,n,q,z⟩:=Rep.Do.mp r;exact⟨a,ws,rfl,.inr ⟨SqT.of q,hp H (Same.refl H) _ (Rep.Do.mpr ⟨a,ws,rfl,n,q,z⟩)⟩⟩
 ·obtain⟨v,rfl,r⟩:=rs.one
  obtain⟨a,ws,rfl,n,q,z⟩:=Rep.Fk.mp r;exact⟨a,ws,rfl,.inl ⟨SqL.of q,λl hl=>hp _ (a9 hl _) _ (gQ hl (hf l hl) z)⟩⟩
 ·exact hp.elim
def BZ:List T->Rs T
 | [.int i] => .ok (.int i)
 | [.bl k] => .ok (.int (if k then 1 else 0))
 | _=> .bad
theorem HS:CallT X (.type "int") BZ:=CallT.of z8 λH O ts vs Q hf rs hp=>by
 unfold BZ at hp
 split at hp
 ·obtain⟨v,rfl,r⟩:=rs.one
  exact .inl ⟨_,by rw[Rep.Da.mp r],hp H (Same.refl H) _ (Rep.IR _)⟩
 ·obtain⟨v,rfl,r⟩:=rs.one
  exact .inr ⟨_,by rw[Rep.FM.mp r],hp H (Same.refl H) _ (Rep.IR _)⟩
 ·exact hp.elim
def pZ:List T->Option (List Bool)
 | [] =>some []
 | .bl k::r=>(pZ r).map (k:: ·)
 | _=>none
def qU:List T->Rs T
 | [.lst l] =>match pZ l with
  | some ks=> .ok (.bl (ks.all λk=>k))
  | none=> .bad
 | _=> .bad
theorem pY {K:Lu}{O:Ow}{H:Hp}:∀{l:List T} {ks:List Bool} {vs:List V} {us:List Ly},pZ l=some ks->Reps K O H l vs->Vals vs us->us=ks.map Mv
 | [],ks,vs,us,e,r,v=>by cases e;cases Reps.AC.mp r;cases v;rfl
 | t::l,ks,vs,us,e,r,v=>by
  obtain⟨w,ws,rfl,p,q⟩:=Reps.me.mp r
  cases t with
  | bl k=>
   unfold pZ at e
   cases z:pZ l with
   | none=>rw[z]at e;cases e
   | some ks'=>
    rw[z]at e;cases e
    cases v with
    | cons v1 v2=>
     cases Rep.FM.mp p;cases v1
     rw[pY z q v2];rfl
  | _=>cases e
theorem ui (hc:X.calm=true):CallT X (.builtin "all") qU:=by
 intro pins s σ H O ts vs us Q I hf rs rv hp;unfold qU at hp
 split at hp
 ·obtain⟨v,rfl,r⟩:=rs.one
  split at hp
  ·rename_i ks hk
   obtain⟨a,ws,rfl,n,q,z⟩:=Rep.Fk.mp r;obtain⟨u,rfl,ru⟩:=lA rv;cases ru;obtain⟨its,r',pl,hz⟩:=I.list (SqL.of q)
   have hits:=pY hk z r';refine call_all_walk (Pg pl.isList ?_)
   have hne:a≠s.heap.objs.size:=λe=>by
    obtain⟨o,ho,_⟩:=pl.isList;rw[e]at ho;exact absurd (LO ho) (L6 _)
   refine⟨s.heap.objs.size,_,_,_,_,_,λi=>(ks[i]?).getD true,rfl,Walks.list (A:=X.A.in1) (I.ok.hd hc) s.heap.objs.size a hne its.toArray,⟨⟨_,LR _ rfl,rfl,rfl⟩,?_⟩,?_,?_⟩
   ·obtain⟨o,ho,hh⟩:=pl.isList
    exact⟨o,LD _ ho,hh⟩
   ·intro i v s' Q' E' hP hQ'
    subst hits
    dsimp only at hQ'
    have hP':(ks.map Mv)[i]? =some v:=by simpa using hP
    rw[LY]at hP'
    cases e:ks[i]? with
    | none=>rw[e]at hP';cases hP'
    | some k=>
     rw[e]at hP' hQ';cases hP';exact MO hQ'
   ·intro h' tk hk'
    have hlen:its.toArray.size=ks.length:=by rw[hits];simp
    have e:((MA its.toArray.size).all λi=>(ks[i]?).getD true)=(ks.all λk=>k):=by
     rw[hlen];rw[OQ,L5,L5]
     constructor
     ·intro h x hx
      obtain⟨i,hi,rfl⟩:=N5 hx
      have:=h i (MZ.mpr hi)
      simpa [hi]using this
     ·intro h i hi
      have hi':=MZ.mp hi
      have:=h ks[i] (M9 hi')
      simpa [hi']using this
    rw[e]
    have I1:Inv X pins σ H { s with heap:=s.heap.push { cls:=.type "list_iterator",data:=.fields #[.ref a,.int 0 0] } }:=I.kept (t':=s.toks) λb o e=>LD _ e
    have I2:Inv X pins σ H { s with heap:=h',toks:=tk }:=by
     have:=I1.turned (h':=h') (t':=tk) (it:=s.heap.objs.size) (λb o hb e=>hk' b o (by simpa using hb) e) (I.hok.fresh (LL _))
      (N1 I.lt) (.inr I.sz) (λx c e z=> ?_) (λp hp z=> ?_)
     ·exact this
     ·obtain⟨v,q⟩:=I.cell x c e
      exact absurd (LJ q.lt (OK z.symm)) (L6 _)
     ·exact absurd (LJ (LO (I.pin p hp).1) (OK z.symm)) (L6 _)
    exact⟨.bl _,H,I2,rfl,hp H (Same.refl H) _ (Rep.bl_ _)⟩
  ·exact hp.elim
 ·exact hp.elim
end
def T.ty:T->Option String
 | .non=>some "NoneType"
 | .bl _=>some "bool"
 | .int _=>some "int"
 | .str _=>some "str"
 | .tup _=>some "tuple"
 | .lst _=>some "list"
 | .scr _=>none
 | .dct _ _=>none
def five (i b t l s:Bool)(Ty:String):Option Bool:=match Ty with
 | "int" =>some i | "bool" =>some b | "tuple" =>some t | "list" =>some l | "str" =>some s
 | _=>none
def yI (n Ty:String):Option Bool:=match n with
 | "NoneType" =>five false false false false false Ty
 | "bool" =>five true true false false false Ty
 | "int" =>five true false false false false Ty
 | "str" =>five false false false false true Ty
 | "tuple" =>five false false true false false Ty
 | "list" =>five false false false true false Ty
 | _=>none
theorem zL (K:Lu){n Ty:String}{b:Bool}(h:yI n Ty=some b):PySem.W.kitOne K (.type n) (.type Ty)=some b:=by
 unfold yI at h
 split at h <;> first | (cases h;done) | (unfold five at h;split at h <;> first | (cases h;done) | (cases h;kernel_rfl))
def Ei (Ty:String)(t:T):Rs T:=match t.ty with
 | some n=>match yI n Ty with
  | some b=> .ok (.bl b)
  | none=> .bad
 | none=> .bad
theorem Rep.Lq {K:Lu}{O:Ow}{H:Hp}{t:T}{v:V}{n:String}(r:Rep K O H t v)(h:t.ty=some n):mY K H v (.type n):=by
 cases t with
 | non=>cases h;cases Rep.Kt.mp r;exact .non
 | bl b=>cases h;cases Rep.FM.mp r;exact .bl b
 | int b=>cases h;cases Rep.Da.mp r;exact .int b
 | str b=>cases h;cases Rep.Gc.mp r;exact .str b
 | tup l=>cases h;obtain⟨a,vs,rfl,_,q,_⟩:=Rep.Do.mp r;exact .tup q
 | lst l=>cases h;obtain⟨a,vs,rfl,_,q,_⟩:=Rep.Fk.mp r;exact .lst q
 | scr l=>cases h
 | dct _ _=>cases h
section
variable {X:Cx}{a b c e:Expr}{es:List Expr}{fa fb fc:En->Rs T}{fs:En->Rs (List T)}{pos p p2:Pos}{x:Str}
theorem gq:Mg "isinstance" =some (.builtin "isinstance"):=by decide+kernel
theorem IZ {tn:Str}{Ty:String}(hm:X.mg "isinstance" =none)(hmt:X.mg tn=none)(hv:Mg tn=some (.type Ty))(ha:cY X a fa)(hg:Gl X "isinstance":=by rfl)(hgt:Gl X tn:=by rfl)
  (hn:tn≠ "__name__":=by decide) (hd:gE tn:=by decide)
  (he:LP [a,.Name tn p2] X.env=(false,eval a X.env)::LP [.Name tn p2] X.env:=by rfl) (hpl:(backTo pos (LP [.Name tn p2] X.env)).any (·.1)=false:=by rfl)
  (hs:LP [.Name tn p2] X.env=(false,eval (.Name tn p2) X.env)::LP [] X.env:=by rfl) :
  cY X (.Call (.Name "isinstance" p) [a,.Name tn p2] [] pos) (o1 (Ei Ty) fa):=by
 intro pins s σ H Q I ⟨Z,O,E,hq⟩;refine My (gm I hg hm gq ?_ (by decide) (by decide))
 have hA:PA X [a,.Name tn p2] (hV (tP X fa) (hV (tC (.ty Ty)) sk)):=bx ha (bx (yd (v:=.ty Ty) hgt hmt hv rfl hn hd) dR hs) he;obtain⟨Z1,O1,E1,h1⟩:=bu E hq;refine Nq (cE (hA pos pins s σ H (λvs H'=> ∃v t,vs= [v,.ty Ty]/\Rep X.K O H' t v/\Post X H' (Ei Ty t) (λt H'=> ∀v,Rep X.K O H' t v->Q v H')) I ?_) λus s1 ⟨vs,H1,I1,r1,v,t,e1,rt,q⟩=> ?_) he hpl
 ·refine⟨Z1,O1,E1,Post.mono h1 λts H1 s1 q vs r=> ?_⟩
  obtain⟨t',r',s',E',q'⟩:=q vs r;exact⟨vs,t',rfl,r',q'⟩
 ·subst e1
  obtain⟨u,w',rfl,ru,rw'⟩:=An r1;cases rw';unfold Ei at q
  split at q
  ·rename_i n hn'
   split at q
   ·rename_i bb hb
    exact zK I1 ru (rt.Lq hn') (zL _ hb) λtk=>⟨.bl bb,H1,I1.tok _,rfl,q H1 (Same.refl H1) _ (Rep.bl_ _)⟩
   ·exact q.elim
  ·exact q.elim
def spP (K:Lu)(n:Nat)(g:List T->Rs T):Sp:=λvs H Q _=> ∃ts O,Reps K O H ts vs/\(∀a,O a->Mtb H a)/\ts.length=n ∧
 match g ts with
 | .ok t=> ∀v H',Same H H'->Rep K O H' t v->Q v H'
 | _=>False
def RzC (P:L1)(w:MG)(mg:Str->Option Ly)(outer:List Env)(H:Hp)(s:LB)(c:Str)(ev:Ly)(s':LB):Prop:=
 ∃e T C H',ev= .ref e/\mg c=some (.ref C)/\s'.os=s.os/\Qw s'.gens/\Un (pO outer) [] H H' s.heap s'.heap/\HOk P w H' s'.heap/\Same H H'/\H' e=none/\s.heap.get? e=none/\J8 s'.heap C e (some T)/\H' T=none/\s.heap.get? T=none
def FnX (P:L1)(w:MG)(K:Lu)(mg:Str->Option Ly)(base:Heap)(k:Nat)(f:Addr)(fd:MP)(ps:List Str)(n:Nat)(g:List T->Rs T):Prop:=
 ∀(A:Mh) (outer:List Env) (s:LB) (H:Hp) (args:Args) (us:List Ly) (vs:List V) (O:Ow) (ts:List T) (c:Str) (R:TR->LB->Prop),Room k A->wu P w K mg base A outer s H->RD s fd args (ps.zip us)->Vals vs us →
  Reps K O H ts vs->(∀a,O a->Mtb H a)->ts.length=n->g ts= .err c->(∀ev s',RzC P w mg outer H s c ev s'->R (.error ev) s')->codeAny (model P w) A (.call (.ref f) args) R s
structure Ak (P:L1)(w:MG)(K:Lu)(mg:Str->Option Ly)(base:Heap)(k:Nat)(f:Addr)(fd:MP)(ps:List Str)(n:Nat)(g:List T->Rs T):Prop where
 h:qW P w K mg base CX0 k f fd ps (spP K n g)
 x:FnX P w K mg base k f fd ps n g
theorem Bo {P:L1}{w:MG}{H:Hp}{h:Heap}{a:Addr}{o:HO}(x:ObjOk P w H h a o):∃u,h.get? a=some u:=by
 cases o with
 | lst xs=>obtain⟨_,_,_,_,e⟩:=x;exact⟨_,e⟩
 | tup xs=>obtain⟨_,_,_,ob,e,_⟩:=x;exact⟨_,e⟩
 | dK kvs=>obtain⟨_,_,_,_,o,_,_,e,_⟩:=x;exact⟨_,e⟩
 | dT kvs=>obtain⟨_,_,_,_,o,_,_,e,_⟩:=x;exact⟨_,e⟩
 | set S n=>obtain⟨o,_,_,_,e,_⟩:=x;exact⟨_,e⟩
 | ins C dx fs=>obtain⟨_,_,_,e,_⟩:=x;exact⟨_,e⟩
 | own y=>obtain⟨_,e⟩:=x;exact⟨_,e⟩
 | xd fs=>obtain⟨_,⟨_,_,_,e,_⟩,_⟩:=x;exact⟨_,e⟩
 | rng lo hi=>obtain⟨_,_,_,e⟩:=x;exact⟨_,e⟩
 | frz ob u=>obtain⟨e,_⟩:=x;exact⟨_,e⟩
 | tbl ps=>exact⟨_,(show h.get? a=some _ from x)⟩
 | met f y=>exact⟨_,(show h.get? a=some _ from x)⟩
 | ext φ=>obtain⟨_,⟨_,e⟩,_⟩:=x;exact⟨_,e⟩
theorem pq {X:Cx}{pins:List (Addr×Obj)}{σ:L2.St}{H:Hp}{s:LB}(I:Inv X pins σ H s){e:Addr}(n:s.heap.get? e=none):H e=none:=by
 cases z:H e with
 | none=>rfl
 | some o=>
  obtain⟨o',ho'⟩:=Bo (I.hok e o z);rw[n]at ho';cases ho'
theorem k8 {X:Cx}{pins:List (Addr×Obj)}{σ:L2.St}{H:Hp}{s:LB}(I:Inv X pins σ H s)(hex:X.ex= []){e:Addr}(n:s.heap.get? e=none):X.s₀.heap.get? e=none:=by
 cases z:X.s₀.heap.get? e with
 | none=>rfl
 | some o=>
  obtain⟨o',ho'⟩:=I.base.there e o z (by rw[hex];simp)
  rw[n]at ho';cases ho'
theorem GG {n k:Nat}{f:Addr}{fd:MP}{ps:List Str}{g:List T->Rs T}(F:Ak X.prog X.w X.K X.mg X.base k f fd ps n g)(hr:Room k X.A)(hm:X.mg x=some (.ref f))(hk:Nk X.K (.ref f)=true)(hb:Binds X.K fd ps [])(hps:ps.length=n)
  (hl:∀Z ts,fs Z= .ok ts->ts.length=n) (ha:qV X (e::es) fs) (hg:Gl X x:=by rfl) (hdb:gE x:=by decide) (he:LP (e::es) X.env=(false,eval e X.env)::LP es X.env:=by rfl) (hpl:(backTo pos (LP es X.env)).any (·.1)=false:=by rfl) :
  cY X (.Call (.Name x p) (e::es) [] pos) (cl g fs):=by
 intro pins s σ H Q I ⟨Z,O,E,hq⟩
 have hq':Post X H (fs Z >>= g) λt H'=> ∀v,Rep X.K O H' t v->Q v H':=hq
 cases q:fs Z with
 | bad=>rw[q]at hq';exact hq'.elim
 | err c=>
  rw[q]at hq';refine yc (E:=E0) F.h hr hg hm hk hb .nil ye ha hdb he hpl pins s σ H Q I ⟨Z,O,E,?_⟩
  rw[q]
  exact hq'
 | ok ts=>
  rw[q]at hq'
  have hq2:Post X H (g ts) λt H'=> ∀v,Rep X.K O H' t v->Q v H':=hq'
  cases q2:g ts with
  | bad=>rw[q2]at hq2;exact hq2.elim
  | ok t=>
   rw[q2]at hq2;refine yc (E:=E0) F.h hr hg hm hk hb .nil ye ha hdb he hpl pins s σ H Q I ⟨Z,O,E,?_⟩
   rw[q];intro H1 s1 vs rs;rw[Mj];refine⟨ts,O,rs,(E.same s1).mtb,hl Z ts q,?_⟩
   rw[q2]
   exact λv H' s2 r=>hq2 H' (s1.trans s2) v r
  | err c=>
   rw[q2]at hq2;refine My (i7 I hg hm ?_ hdb)
   refine ON (h₀:=X.base) I.ok.mod.kin hk (cE (ha pos pins s σ H (λvs H'=>Same H H'/\Reps X.K O H' ts vs) I ⟨Z,O,E,?_⟩) (λus s1 ⟨vs,H1,I1,r,sm,rs⟩=>⟨I1.kIn,?_⟩)) he hpl
   ·rw[q];exact λH' sm vs rs=>⟨sm,rs⟩
   ·have hlen:us.length=ps.length:=by rw[<-r.length,<-rs.length,hl Z ts q,hps]
    have hb':=hb s1 us I1.kIn (by rw[Mj];exact hlen)
    rw[Mj]at hb';refine Sr (Pt (F.x X.A X.stack s1 H1 ⟨us,[]⟩ us vs O ts c (λr s'=>match r with | .error ev=>X.xe ev s' | _=>False) hr I1.KU hb' r rs (E.same sm).mtb (hl Z ts q) q2 λev s' w=> ?_) λr s' hq=> ?_)
    ·obtain⟨ea,T,C,H',rfl,hmc,ho,hbare,hun,hok,sm2,hea,heo,fl,hT,hTo⟩:=w
     have I2:Inv X pins σ H' s':=I1.KN ho hun hok hbare (λb z=>absurd z (by simp))
     exact hq2 pins _ _ ⟨ea,some T,C,σ,H',rfl,hmc,I2,λb o q _=>sm2 b o (sm b o q),hea,λhex=>k8 I1 hex heo,fl,(λt zt=>by cases zt;exact⟨hT,λhex=>k8 I1 hex hTo⟩),λpp hpp=>⟨λzz=>(by have:=(I1.pin pp hpp).1;rw[zz,heo]at this;cases this),λzz=>(by cases zz;have:=(I1.pin pp hpp).1;rw[hTo]at this;cases this)⟩⟩
    ·cases r with
     | error ev=>exact hq
     | ok fl=>exact hq.elim
def Ax (X:Cx)(g:T->En->Rs En):TG:=λv σ H Q=> ∃Z O M t,EnvM X.K O M H Z σ/\Rep X.K O H t v/\match g t Z with
 | .ok Z'=> ∀σ',EnvM X.K O M H Z' σ'->Q σ' H
 | _=>False
abbrev CS (X:Cx)(tg:Expr)(g:T->En->Rs En):Prop:=PG X tg (Ax X g)
def tPGs (X:Cx)(g:List T->En->Rs En):EL:=λvs σ H Q=> ∃Z O M ts,EnvM X.K O M H Z σ/\Reps X.K O H ts vs/\match g ts Z with
 | .ok Z'=> ∀σ',EnvM X.K O M H Z' σ'->Q σ' H
 | _=>False
abbrev CN (X:Cx)(tg:List Expr)(g:List T->En->Rs En):Prop:=PGs X tg (tPGs X g)
theorem PG.imp {X:Cx}{e:Expr}{t t':TG}(h:PG X e t)(w:∀v σ H Q,t' v σ H Q->t v σ H Q):PG X e t':=λpins s σ H v u Q I r q=>h pins s σ H v u Q I r (w v σ H Q q)
theorem PGs.imp {X:Cx}{e:List Expr}{t t':EL}(h:PGs X e t)(w:∀v σ H Q,t' v σ H Q->t v σ H Q):PGs X e t':=λpins s σ H v u Q I r q=>h pins s σ H v u Q I r (w v σ H Q q)
def gN (i:Nat)(t:T)(Z:En):Rs En:=if i<Z.length then .ok (Z.set i (.va t))else .bad
theorem EnvM.set {K:Lu}{O:Ow}{M:Mn}{H:Hp}{Z:En}{σ:L2.St}{i:Nat}{t:T}{v:V}(E:EnvM K O M H Z σ)(hi:i<Z.length)(r:Rep K O H t v):EnvM K O M H (Z.set i (.va t)) (σ.set i (some v)) where
 len:=by rw[MW,MW];exact E.len
 val:=λj u e=>by
  by_cases hj:i=j
  ·subst hj
   rw[L4 hi]at e
   cases e;exact⟨v,L4 (by rw[<-E.len];exact hi),r⟩
  ·rw[L8 hj]at e
   obtain⟨w,e1,e2⟩:=E.val j u e;exact⟨w,by rw[L8 hj];exact e1,e2⟩
 own:=λj o e=>by
  by_cases hj:i=j
  ·subst hj
   rw[L4 hi]at e
   cases e
  ·rw[L8 hj]at e
   obtain⟨w,e1,e2⟩:=E.own j o e;exact⟨w,by rw[L8 hj];exact e1,e2⟩
 sub:=E.sub
 dis:=E.dis
 trk:=E.trk
theorem DB (i:Nat)(hN:X.N.Nodup)(hi:X.N[i]? =some x:=by rfl)(hx:Loc X.env.scope x:=by first | exact MR rfl | exact MF rfl)(hf:X.fn x=true\/X.env.scope.names.lookup x=some .local:=by first | exact .inl rfl | exact .inr rfl | assumption):CS X (.Name x pos) (gN i):=
 PG.imp (DS hN hi hx hf) λv σ H Q hh_=>by
  obtain⟨Z,O,M,t,E,r,h⟩:=hh_;unfold gN at h
  split at h
  ·rename_i Z' e
   split at e
   ·rename_i hl
    cases e;exact h _ (E.set hl r)
   ·cases e
  ·exact h.elim
def ly (ts:List T)(Z:En):Rs En:=match ts with
 | [] => .ok Z
 | _=> .bad
def eF (g:T->En->Rs En)(gs:List T->En->Rs En)(ts:List T)(Z:En):Rs En:=match ts with
 | t::r=>do
  let Z1 <-g t Z
  gs r Z1
 | [] => .bad
theorem DA:CN X [] ly:=PGs.imp DQ λvs σ H Q hh_=>by
 obtain⟨Z,O,M,ts,E,r,h⟩:=hh_;unfold ly at h
 cases ts with
 | nil=>exact⟨Reps.AC.mp r,h σ E⟩
 | cons _ _=>exact h.elim
theorem AW {g:T->En->Rs En}{gs:List T->En->Rs En}(h1:CS X e g)(h2:CN X es gs)
  (hs:(Ni (e::es) X.env).map (·.2)=assign e X.env::(Ni es X.env).map (·.2):=by rfl):CN X (e::es) (eF g gs):=
 PGs.imp (A7 h1 h2 hs) λvs σ H Q hh_=>by
  obtain⟨Z,O,M,ts,E,r,h⟩:=hh_
  cases ts with
  | nil=>exact h.elim
  | cons t ts=>
   obtain⟨v,ws,rfl,p,q⟩:=Reps.me.mp r;refine⟨v,ws,rfl,Z,O,M,t,E,p,?_⟩
   unfold eF at h
   cases e1:g t Z with
   | bad=>simp[e1]at h
   | err c=>simp[e1]at h
   | ok Z1=>
    intro σ1 E1;refine⟨Z1,O,M,ts,E1,q,?_⟩
    simp only[e1,aH]at h
    cases e2:gs ts Z1 with
    | bad=>simp[e2]at h
    | err c=>simp[e2]at h
    | ok Z2=>
     simp only[e2]at h;exact λσ2 E2=>h σ2 E2
def gT (n:Nat)(gs:List T->En->Rs En)(t:T)(Z:En):Rs En:=match t with
 | .tup l=>if l.length=n then gs l Z else .bad
 | _=> .bad
theorem GB {k n:Nat}{gs:List T->En->Rs En}(hc:X.calm=true)(h:CN X es gs)(hn:(Ni es X.env).length=n:=by rfl)(hst:(Ni es X.env).findIdx? (·.1)=none:=by rfl):CS X (.Tuple es k pos) (gT n gs):=
 PG.imp (GL hc h hn hst) λv σ H Q hh_=>by
  obtain⟨Z,O,M,t,E,r,h⟩:=hh_;unfold gT at h
  cases t with
  | tup l=>
   obtain⟨a,vs,rfl,n',q,z⟩:=Rep.Do.mp r
   by_cases hl:l.length=n
   ·simp only[if_pos hl]at h
    exact⟨a,vs,rfl,SqT.of q,by rw[<-z.length];exact hl,Z,O,M,l,E,z,h⟩
   ·simp only[if_neg hl]at h
  | _=>exact h.elim
theorem SqL.nn {K:Lu}{H:Hp}{a:Addr}{vs:List V}(q:SqL K H a vs):¬ Nw K H a:=λ⟨h1,h2⟩=>by
 rcases q with(q | ⟨o,q⟩) | ⟨o,_,_,q,_⟩
 ·rw[h1]at q;cases q
 ·rw[h1]at q;cases q
 ·rw[h2]at q;cases q
mutual
theorem Rep.more {K:Lu}{O O':Ow}{H:Hp}(sub:∀a,O' a->O a\/Nw K H a):∀{t:T} {v:V},Rep K O H t v->Rep K O' H t v
 | .non,_,r=>by unfold Rep at r ⊢;exact r
 | .bl _,_,r=>by unfold Rep at r ⊢;exact r
 | .int _,_,r=>by unfold Rep at r ⊢;exact r
 | .str _,_,r=>by unfold Rep at r ⊢;exact r
 | .tup l,_,r=>by
  unfold Rep at r ⊢;obtain⟨a,vs,e,n,q,z⟩:=r
  exact⟨a,vs,e,λp=>(sub a p).elim n λw=>(by rw[w.1]at q;cases q),q,Reps.more sub z⟩
 | .lst l,_,r=>by
  unfold Rep at r ⊢;obtain⟨a,vs,e,n,q,z⟩:=r
  exact⟨a,vs,e,λp=>(sub a p).elim n λw=>(by rw[w.1]at q;cases q),q,Reps.more sub z⟩
 | .scr l,_,r=>by
  unfold Rep at r ⊢;obtain⟨a,e,n,q⟩:=r
  exact⟨a,e,λp=>(sub a p).elim n λw=>Tr.SqL.nn q w,q⟩
 | .dct ks ts,_,r=>by
  unfold Rep at r ⊢;obtain⟨a,kvs,e,n,q,k,z⟩:=r;exact⟨a,kvs,e,λp=>(sub a p).elim n λw=>(by rcases q with q | ⟨_,q⟩ <;> rw[w.1]at q <;> cases q),q,k,Reps.more sub z⟩
theorem Reps.more {K:Lu}{O O':Ow}{H:Hp}(sub:∀a,O' a->O a\/Nw K H a):∀{l:List T} {vs:List V},Reps K O H l vs->Reps K O' H l vs
 | [],_,r=>by unfold Reps at r ⊢;exact r
 | t::l,_,r=>by
  unfold Reps at r ⊢;obtain⟨v,ws,e,p,q⟩:=r;exact⟨v,ws,e,Rep.more sub p,Reps.more sub q⟩
end
theorem Rep.move {K:Lu}{O O' P:Ow}{H H':Hp}{t:T}{v:V}(hP:∀a,P a->O a\/Nw K H a)(hO:∀a,O' a->O a\/Nw K H a)(h:SameO P H H')(r:Rep K O H t v):Rep K O' H' t v:=
 Rep.less (O:=λa=>O' a\/P a) (λ_ z=> .inl z) (Rep.keep h (λ_ z=> .inr z) (Rep.more (λa z=>z.elim (hO a) (hP a)) r))
theorem Reps.move {K:Lu}{O O' P:Ow}{H H':Hp}{t:List T}{v:List V}(hP:∀a,P a->O a\/Nw K H a)(hO:∀a,O' a->O a\/Nw K H a)(h:SameO P H H')(r:Reps K O H t v):Reps K O' H' t v:=
 Reps.less (O:=λa=>O' a\/P a) (λ_ z=> .inl z) (Reps.keep h (λ_ z=> .inr z) (Reps.more (λa z=>z.elim (hO a) (hP a)) r))
def Kq (K:Lu)(O:Ow)(H:Hp)(ts:List T)(J:It):Prop:=∀(P O':Ow),(∀a,P a->O a\/Nw K H a)->(∀a,O' a->O a\/Nw K H a)->∀(i:Nat) (Hc:Hp),SameO P H Hc->(∀a,O' a->∃o,Hc a=some o) →
 (ts.length<=i->J.stop i Hc)/\(∀t,ts[i]? =some t->J.go i Hc/\∀x Hc',J.yld i Hc x Hc'->Same Hc Hc'/\Rep K O' Hc' t x)
def Ke (X:Cx)(f:En->Rs (List T)):TI:=λσ H R=> ∃Z O,EnvO X.K O H Z σ/\Post X H (f Z) λts H'=> ∀J,Kq X.K O H' ts J->R J H'
abbrev Ab (X:Cx)(tg iter:Expr)(f:En->Rs (List T)):Prop:=PI X tg iter (Ke X f)
theorem PI.imp {tg iter:Expr}{t t':TI}(h:PI X tg iter t)(w:∀σ H R,t' σ H R->t σ H R):PI X tg iter t':=λpins s σ H R I q=>h pins s σ H R I (w σ H R q)
def iL (f:En->Rs T)(Z:En):Rs (List T):=do
 let x <-f Z
 match x with
 | .lst l=> .ok l
 | _=> .bad
def iT (f:En->Rs T)(Z:En):Rs (List T):=do
 let x <-f Z
 match x with
 | .tup l=> .ok l
 | _=> .bad
theorem xZ {tg:Expr}(ha:cY X a fa):Ab X tg a (iL fa):=PI.imp (DO ha) λσ H R hh_=>by
 obtain⟨Z,O,E,h⟩:=hh_;obtain⟨Z1,O1,E1,h1⟩:=bu E h;refine⟨Z1,O1,E1,Post.mono h1 λts H1 s1 q vs r=> ?_⟩
 obtain⟨t',r',s',E',q'⟩:=q vs r
 split at q'
 ·rename_i l
  obtain⟨a,ws,rfl,n,q,z⟩:=Rep.Fk.mp r';refine⟨a,rfl,⟨ws,SqL.of q⟩,q' H1 (Same.refl H1) _ λP O' hP hO i Hc hs ht=> ?_⟩
  have hnP:¬ P a:=λz=>(hP a z).elim n λw=>by rw[w.1]at q;cases q
  refine⟨λhi=>⟨ws,SqL.of (hs _ _ q hnP),by rw[<-z.length];exact hi⟩,λt ht'=> ?_⟩
  obtain⟨v,e1,e2⟩:=z.get ht';refine⟨⟨ws,v,SqL.of (hs _ _ q hnP),e1⟩,λx Hc' y=> ?_⟩
  obtain⟨e,y⟩:=y;subst e
  have:=y ws (SqL.of (hs _ _ q hnP));rw[e1]at this;cases this;exact⟨Same.refl _,e2.move hP hO hs⟩
 ·exact q'.elim
theorem Gz {tg:Expr}(ha:cY X a fa):Ab X tg a (iT fa):=PI.imp (GK ha) λσ H R hh_=>by
 obtain⟨Z,O,E,h⟩:=hh_;obtain⟨Z1,O1,E1,h1⟩:=bu E h;refine⟨Z1,O1,E1,Post.mono h1 λts H1 s1 q vs r=> ?_⟩
 obtain⟨t',r',s',E',q'⟩:=q vs r
 split at q'
 ·rename_i l
  obtain⟨a,ws,rfl,n,q,z⟩:=Rep.Do.mp r';refine⟨a,rfl,⟨ws,SqT.of q⟩,q' H1 (Same.refl H1) _ λP O' hP hO i Hc hs ht=> ?_⟩
  have hnP:¬ P a:=λz=>(hP a z).elim n λw=>by rw[w.1]at q;cases q
  refine⟨λhi=>⟨ws,SqT.of (hs _ _ q hnP),by rw[<-z.length];exact hi⟩,λt ht'=> ?_⟩
  obtain⟨v,e1,e2⟩:=z.get ht';refine⟨⟨ws,v,SqT.of (hs _ _ q hnP),e1⟩,λx Hc' y=> ?_⟩
  obtain⟨e,y⟩:=y;subst e
  have:=y ws (SqT.of (hs _ _ q hnP));rw[e1]at this;cases this;exact⟨Same.refl _,e2.move hP hO hs⟩
 ·exact q'.elim
def rng (lo hi:Int):List T:=(MA (hi - lo).toNat).map λ(k:Nat)=>T.int (lo+(k:Int))
def xA (i:Int):Bool:=decide (-(2 ^ 62)<=i)&&decide (i<2 ^ 62)
def iR (f:En->Rs (List T))(Z:En):Rs (List T):=do
 let x <-f Z
 match x with
 | [.int j] =>if xA j then .ok (rng 0 j)else .bad
 | [.int i,.int j] =>if xA i&&xA j then .ok (rng i j)else .bad
 | _=> .bad
theorem kn {i:Int}(h:xA i=true) : -(2 ^ 62)<=i/\i<2 ^ 62:=by
 unfold xA at h;rw[LC]at h;exact⟨of_decide_eq_true h.1,of_decide_eq_true h.2⟩
theorem n5 {K:Lu}{O:Ow}{H:Hp}(lo hi:Int):Kq K O H (rng lo hi) (Itr lo (hi - lo).toNat):=λP O' hP hO i Hc hs ht=>by
 refine⟨λh=> ?_,λt h=> ?_⟩
 ·show(hi - lo).toNat<=i
  unfold rng at h;rw[LA,Nf]at h;exact h
 ·unfold rng at h
  rw[LY]at h
  by_cases hi':i<(hi - lo).toNat
  ·rw[List.getElem?_range hi']at h
   cases h;refine⟨hi',λx Hc' y=> ?_⟩
   obtain⟨e,y⟩:=y;subst e y;exact⟨Same.refl _,Rep.IR _⟩
  ·rw[NO (by simpa using hi')]at h
   cases h
theorem zj {tg:Expr}(hm:X.mg "range" =none)(ha:qV X [a] fs)(hg:Gl X "range":=by rfl)(hs:LP [a] X.env= [(false,eval a X.env)]:=by rfl):Ab X tg (.Call (.Name "range" p) [a] [] pos) (iR fs):=by
 intro pins s σ H R I ⟨Z,O,E,h⟩
 have h1:=fY E h;refine Call_ (gm I hg hm boot_range (Mx (cE (ha pos pins s σ H _ I h1) λus s1 ⟨vs,H1,I1,r1,ts,rs,s',E',q1⟩=> ?_) hs rfl))
 split at q1
 ·obtain⟨v,rfl,r⟩:=rs.one
  split at q1
  ·rename_i j hj
   obtain⟨b1,b2⟩:=kn hj;cases Rep.Da.mp r
   cases r1 with
   | cons r rr=>
    cases rr;obtain⟨t,rfl⟩:=r;exact call_range_1 (lL I1 (by omega) (by omega) b1 b2 (q1 H1 (Same.refl H1) _ (n5 0 j)))
  ·exact q1.elim
 ·obtain⟨v,ws,rfl,p1,q⟩:=Reps.me.mp rs
  obtain⟨v2,rfl,r⟩:=q.one
  split at q1
  ·rename_i i j hj
   rw[LC]at hj;obtain⟨b1,b2⟩:=kn hj.1;obtain⟨b3,b4⟩:=kn hj.2;cases Rep.Da.mp p1;cases Rep.Da.mp r
   cases r1 with
   | cons r rr=>
    cases rr with
    | cons r' rr=>
     cases rr;obtain⟨t,rfl⟩:=r;obtain⟨t',rfl⟩:=r';exact call_range_2 (lL I1 b1 b2 b3 b4 (q1 H1 (Same.refl H1) _ (n5 i j)))
  ·exact q1.elim
 ·exact q1.elim
theorem zi {tg:Expr}(hm:X.mg "range" =none)(ha:qV X [a,b] fs)(hg:Gl X "range":=by rfl)(hs:LP [a,b] X.env= [(false,eval a X.env),(false,eval b X.env)]:=by rfl)(hs2:LP [b] X.env= [(false,eval b X.env)]:=by rfl) :
  Ab X tg (.Call (.Name "range" p) [a,b] [] pos) (iR fs):=by
 intro pins s σ H R I ⟨Z,O,E,h⟩
 have h1:=fY E h;refine Call_ (gm I hg hm boot_range (Mx (cE (ha pos pins s σ H _ I h1) λus s1 ⟨vs,H1,I1,r1,ts,rs,s',E',q1⟩=> ?_) (by rw[hs,hs2]) (by rw[hs2];rfl)))
 split at q1
 ·obtain⟨v,rfl,r⟩:=rs.one
  split at q1
  ·rename_i j hj
   obtain⟨b1,b2⟩:=kn hj;cases Rep.Da.mp r
   cases r1 with
   | cons r rr=>
    cases rr;obtain⟨t,rfl⟩:=r;exact call_range_1 (lL I1 (by omega) (by omega) b1 b2 (q1 H1 (Same.refl H1) _ (n5 0 j)))
  ·exact q1.elim
 ·obtain⟨v,ws,rfl,p1,q⟩:=Reps.me.mp rs
  obtain⟨v2,rfl,r⟩:=q.one
  split at q1
  ·rename_i i j hj
   rw[LC]at hj;obtain⟨b1,b2⟩:=kn hj.1;obtain⟨b3,b4⟩:=kn hj.2;cases Rep.Da.mp p1;cases Rep.Da.mp r
   cases r1 with
   | cons r rr=>
    cases rr with
    | cons r' rr=>
     cases rr;obtain⟨t,rfl⟩:=r;obtain⟨t',rfl⟩:=r';exact call_range_2 (lL I1 b1 b2 b3 b4 (q1 H1 (Same.refl H1) _ (n5 i j)))
  ·exact q1.elim
 ·exact q1.elim
end
section
variable {X:Cx}{a b c e:Expr}{es:List Expr}{fa fb fc:En->Rs T}{fs:En->Rs (List T)}{pos p p2:Pos}{x:Str}
def bR (src:List (Option Nat))(Z:En):En:=src.map λo=>match o with
 | some i=>match Z[i]? with
  | some (.va t)=> .va t
  | _=> .em
 | none=> .em
def dJ (tgt:T->En->Rs En)(fc:En->Rs Bool)(fe:En->Rs T):List T->En->Rs (List T)
 | [],_=> .ok []
 | t::r,Z=>do
  let Z1 <-tgt t Z
  let k <-fc Z1
  if k then do
   let y <-fe Z1
   let ys <-dJ tgt fc fe r Z1
   .ok (y::ys)
  else dJ tgt fc fe r Z1
def eY (fi:En->Rs (List T))(src:List (Option Nat))(tgt:T->En->Rs En)(fc:En->Rs Bool)(fe:En->Rs T)(Z:En):Rs T:=do
 let ts <-fi Z
 if ts.length<=sizeLine then match dJ tgt fc fe ts (bR src Z)with
  | .ok ys=> .ok (.lst ys)
  | _=> .bad
 else .bad
def bT (_:En):Rs Bool:=.ok true
def tP0 (K:Lu)(f:En->Rs T):TE:=λσ H Q=> ∃Z O,EnvO K O H Z σ/\match f Z with
 | .ok t=> ∀H',Same H H'->∀v,Rep K O H' t v->Q v H'
 | _=>False
def tPT0 (K:Lu)(f:En->Rs Bool):TT:=λσ H Q=> ∃Z O,EnvO K O H Z σ/\match f Z with
 | .ok t=> ∀H',Same H H'->Q t H'
 | _=>False
theorem tP0.up {f:En->Rs T}{σ:L2.St}{H:Hp}{Q:VK}(h:tP0 X.K f σ H Q):tP X f σ H Q:=by
 obtain⟨Z,O,E,h⟩:=h;refine⟨Z,O,E,?_⟩
 cases q:f Z with
 | ok t=>rw[q]at h;exact h
 | err c=>rw[q]at h;exact h.elim
 | bad=>rw[q]at h;exact h.elim
theorem tPT0.up {f:En->Rs Bool}{σ:L2.St}{H:Hp}{Q:Bool->Hp->Prop}(h:tPT0 X.K f σ H Q):Aw X f σ H Q:=by
 obtain⟨Z,O,E,h⟩:=h;refine⟨Z,O,E,?_⟩
 cases q:f Z with
 | ok t=>rw[q]at h;exact h
 | err c=>rw[q]at h;exact h.elim
 | bad=>rw[q]at h;exact h.elim
theorem Dy:Aj X [] (Aw X bT):=λpins s σ H Q I ⟨Z,O,E,h⟩=>sS pins s σ H Q I (h H (Same.refl H))
theorem Dx {f:En->Rs Bool}(h:wy X c f):Aj X [c] (Aw X f):=DN h
abbrev noM:Mn:=λ_ _=>False
theorem zE {src:List (Option Nat)}{Z:En}{j:Nat}{o:OT}(e:(bR src Z)[j]? =some (.ow o)):False:=by
 unfold bR at e;rw[LY]at e
 cases q:src[j]? with
 | none=>rw[q]at e;cases e
 | some o'=>
  rw[q]at e
  cases o' with
  | none=>cases e
  | some i=>
   have e':(match Z[i]? with | some (Sl.va t)=>Sl.va t | _=>Sl.em)=Sl.ow o:=Me e
   split at e' <;> cases e'
theorem vQ {K:Lu}{O:Ow}{H:Hp}{Z:En}{σ:L2.St}(E:EnvO K O H Z σ)(src:List (Option Nat)):EnvM K O noM H (bR src Z) (gF src σ) where
 len:=by unfold bR gF;rw[LA,LA]
 val:=λj t e=>by
  unfold bR at e;unfold gF;rw[LY]at e ⊢
  cases q:src[j]? with
  | none=>rw[q]at e;cases e
  | some o=>
   rw[q]at e
   cases o with
   | none=>cases e
   | some i=>
    have e':(match Z[i]? with | some (Sl.va t)=>Sl.va t | _=>Sl.em)=Sl.va t:=Me e
    cases q2:Z[i]? with
    | none=>rw[q2]at e';cases e'
    | some z=>
     rw[q2]at e'
     cases z with
     | em=>cases e'
     | ow l=>cases e'
     | va t'=>
      cases e';obtain⟨v,e1,e2⟩:=E.val i _ q2;exact⟨v,by simp[e1],e2⟩
 own:=λj o e=>(zE e).elim
 sub:=λ_ _ z=>z.elim
 dis:=λ_ _ _ z=>z.elim
 trk:=E.mtb
theorem ORep.no {K:Lu}{O:Ow}{H:Hp}{o:OT}{v:V}(r:ORep K O zq H o v):False:=by
 cases o with
 | lst l=>obtain⟨a,_,_,e,_⟩:=r;exact(e a).mpr rfl
 | dct ks ts=>obtain⟨a,_,_,e,_⟩:=r;exact(e a).mpr rfl
 | dd ks rows=>obtain⟨a,_,_,_,e,_⟩:=r;exact(e a).mpr (.inl rfl)
theorem EnvM.move {K:Lu}{O O' P:Ow}{H H':Hp}{Z:En}{σ:L2.St}(E:EnvM K O noM H Z σ)(hP:∀a,P a->O a\/Nw K H a)(hO:∀a,O' a->O a\/Nw K H a)(h:SameO P H H')(trk:∀a,O' a->Mtb H' a):EnvM K O' noM H' Z σ where
 len:=E.len
 val:=λi t e=>let ⟨v,e1,e2⟩:=E.val i t e;⟨v,e1,e2.move hP hO h⟩
 own:=λi o e=>let ⟨_,_,r⟩:=E.own i o e;r.no.elim
 sub:=λ_ _ z=>z.elim
 dis:=λ_ _ _ z=>z.elim
 trk:=trk
def Ie (fi:En->Rs (List T))(src:List (Option Nat))(tgt:T->En->Rs En)(fc:En->Rs Bool)(fe:En->Rs T)(Z:En):Rs (List T):=fi Z >>= λts=>if ts.length<=sizeLine then(match dJ tgt fc fe ts (bR src Z)with | .ok ys=>Rs.ok ys | _=> .bad)else .bad
theorem BJ {src:List (Option Nat)}{fi:En->Rs (List T)}{tgt:T->En->Rs En}{fc:En->Rs Bool}{fe:En->Rs T}{Z:En}:eY fi src tgt fc fe Z=Ie fi src tgt fc fe Z >>= λl=> .ok (.lst l):=by
 unfold eY Ie
 cases fi Z with
 | bad=>rfl
 | err c=>rfl
 | ok ts=>
  rw[aH,aH]
  by_cases hz:ts.length<=sizeLine
  ·rw[if_pos hz,if_pos hz]
   cases dJ tgt fc fe ts (bR src Z) <;> rfl
  ·rw[if_neg hz,if_neg hz];rfl
theorem BI {src:List (Option Nat)}{fi:En->Rs (List T)}{tgt:T->En->Rs En}{fc:En->Rs Bool}{fe:En->Rs T}{σ:L2.St}{H:Hp}{Q:VK}{Z:En}{O:Ow}(E:EnvO X.K O H Z σ)
  (hq1:Post X H (Ie fi src tgt fc fe Z) λall H1=> ∀D ys H',Nw X.K H1 D->Same H1 H'->H' D=some (.lst ys)->Reps X.K (λa=>O a\/a=D) H' all ys->Q (.ref D) H'):FR X.K (Ke X fi) src (Ax X tgt) (tPT0 X.K fc) (tP0 X.K fe) σ H Q:=by
 unfold Ie at hq1;refine⟨Z,O,E,Post.mono hq1.bind λts H1 s1 q1 J hJ D hD hK=> ?_⟩
 have E1:=E.same s1
 by_cases hz:ts.length<=sizeLine
 ·rw[if_pos hz]at q1
  cases hall:dJ tgt fc fe ts (bR src Z)with
  | bad=>rw[hall]at q1;exact q1.elim
  | err c=>rw[hall]at q1;exact q1.elim
  | ok all=>
   rw[hall]at q1
   have q2:∀D ys H',Nw X.K H1 D->Same H1 H'->H' D=some (.lst ys)->Reps X.K (λa=>O a\/a=D) H' all ys->Q (.ref D) H':=q1 H1 (Same.refl H1)
   have nD:Nw X.K H1 D:=⟨hD,hK⟩
   let O':Ow:=λa=>O a\/a=D
   have subO:∀a,O' a->O a\/Nw X.K H1 a:=λa z=>z.elim .inl λw=> .inr (w▸nD)
   -- the walk's word
   refine⟨λi m σ' ys H'=>m=ts.length - i/\i<=ts.length/\ys.length<=i/\H' D=some (.lst ys)/\SameO (λa=>a=D) (upd H1 D (.lst [])) H' ∧
    ∃Z' yts zs,EnvM X.K O' noM H' Z' σ'/\Reps X.K O' H' yts ys/\dJ tgt fc fe (ts.drop i) Z'= .ok zs/\yts++zs=all,⟨ts.length,?_⟩,?_⟩
   ·have sN:Same H1 (upd H1 D (.lst [])):=a9 hD _
    refine⟨by omega,MT _,LL _,aJ,λb o e _=>e,bR src Z,[],all,?_,Reps.GE,by simpa using hall,rfl⟩
    have E2:EnvM X.K O noM H1 (bR src Z) (gF src σ):=vQ E1 src
    exact E2.move (P:=λa=>a=D) (λa z=> .inr (z▸nD)) subO (λb o e _=>sN b o e) λa z=>by
     rcases z with z | z
     ·exact(E1.mtb a z).same sN
     ·rw[z];exact .inl ⟨_,aJ⟩
   ·rintro i m σ' ys H' ⟨rfl,hi',hyl,hDl,hsm,Z',yts,zs,E',ry,hl,hyz⟩
    refine⟨hDl,?_⟩
    have sm1:SameO (λa=>a=D) H1 H':=λb o e nb=>hsm b o (by rw[aI nb];exact e) nb
    have it:=hJ (λa=>a=D) O' (λa z=> .inr (z▸nD)) subO i H' sm1 (λa z=>(E'.trk a z).some)
    by_cases hlt:i<ts.length
    ·refine .inr ?_
     have hti:ts[i]? =some ts[i]:=by simp
     obtain⟨go,yl⟩:=it.2 ts[i] hti;refine⟨go,by omega,λxx Hc y=> ?_⟩
     obtain⟨sc,rx⟩:=yl xx Hc y
     have Ec:=E'.same sc;rw[Oy hlt]at hl;unfold dJ at hl;refine⟨Z',O',noM,ts[i],Ec,rx,?_⟩
     cases e1:tgt ts[i] Z' with
     | bad=>rw[e1]at hl;cases hl
     | err cc=>rw[e1]at hl;cases hl
     | ok Z1=>
      rw[e1,aH]at hl;intro σ1 Eg;refine⟨Z1,O',⟨noM,Eg⟩,?_⟩
      cases e2:fc Z1 with
      | bad=>rw[e2]at hl;cases hl
      | err cc=>rw[e2]at hl;cases hl
      | ok k=>
       rw[e2,aH]at hl;intro H3 s3
       have E3:=Eg.same s3
       have tot:Same H' H3:=sc.trans s3
       have D3:H3 D=some (.lst ys):=tot _ _ hDl
       have sm3:SameO (λa=>a=D) (upd H1 D (.lst [])) H3:=λb o e nb=>tot _ _ (hsm b o e nb)
       cases k with
       | false=>
        refine L2.iteF ?_
        have hl':dJ tgt fc fe (ts.drop (i+1)) Z1= .ok zs:=by simpa using hl
        exact⟨ts.length - (i+1),by omega,rfl,hlt,by omega,D3,sm3,Z1,yts,zs,E3,ry.same tot,hl',hyz⟩
       | true=>
        refine L2.iteT ?_
        have hl':(fe Z1 >>= λy=>dJ tgt fc fe (ts.drop (i+1)) Z1 >>= λys=>Rs.ok (y::ys))= .ok zs:=by simpa using hl
        refine⟨Z1,O',⟨noM,E3⟩,?_⟩
        cases e3:fe Z1 with
        | bad=>rw[e3]at hl';cases hl'
        | err cc=>rw[e3]at hl';cases hl'
        | ok yt=>
         rw[e3,aH]at hl'
         cases e4:dJ tgt fc fe (ts.drop (i+1)) Z1 with
         | bad=>rw[e4]at hl';cases hl'
         | err cc=>rw[e4]at hl';cases hl'
         | ok zs'=>
          rw[e4,aH]at hl'
          have hzs:yt::zs'=zs:=by injection hl'
          intro H4 s4 v rv
          have D4:H4 D=some (.lst ys):=s4 _ _ D3
          have E4:=E3.same s4
          have tot4:Same H' H4:=tot.trans s4
          have smD:SameO (λa=>a=D) H4 (upd H4 D (.lst (ys++ [v]))):=λb o e nb=>by rw[aI nb];exact e
          have inO:∀a,a=D->O' a\/Nw X.K H4 a:=λa z=> .inl (.inr z)
          refine⟨D4,ts.length - (i+1),by omega,rfl,hlt,?_,aJ,λb o e nb=>smD b o (s4 _ _ (sm3 b o e nb)) nb,Z1,yts++ [yt],zs',?_,?_,e4,?_⟩
          ·rw[LF,Nu];omega
          ·exact E4.move inO (λa z=> .inl z) smD λaa z=>by
            by_cases hz:aa=D
            ·rw[hz];exact .inl ⟨_,aJ⟩
            ·unfold Mtb;rw[aI hz];exact E4.trk aa z
          ·have r1:Reps X.K O' H4 (yts++ [yt]) (ys++ [v]):=(ry.same tot4).append (Reps.FS rv Reps.GE)
           exact r1.move inO (λa z=> .inl z) smD
          ·rw[L0,List.singleton_append,hzs];exact hyz
    ·refine .inl ⟨it.1 (by omega),?_⟩
     have hi2:i=ts.length:=by omega
     subst hi2;rw[SW]at hl
     have hzs:zs= []:=by unfold dJ at hl;injection hl with hl;exact hl.symm
     subst hzs;rw[Mj]at hyz;subst hyz
     have sF:Same H1 H':=λb o e=>sm1 b o e λz=>by rw[z,hD]at e;cases e
     exact q2 D ys H' nD sF hDl ry
 ·rw[if_neg hz]at q1
  exact q1.elim
theorem yw {src:List (Option Nat)}{fi:En->Rs (List T)}{tgt:T->En->Rs En}{fc:En->Rs Bool}{fe:En->Rs T}{σ:L2.St}{H:Hp}{Q:VK}(h0:tP X (eY fi src tgt fc fe) σ H Q):FR X.K (Ke X fi) src (Ax X tgt) (tPT0 X.K fc) (tP0 X.K fe) σ H Q:=by
 obtain⟨Z,O,E,hq⟩:=h0;refine BI E ?_
 have e:eY fi src tgt fc fe Z=Ie fi src tgt fc fe Z >>= λl=> .ok (.lst l):=BJ
 rw[e]at hq
 cases q:Ie fi src tgt fc fe Z with
 | bad=>rw[q]at hq;exact hq.elim
 | err c=>rw[q]at hq;exact hq
 | ok l=>
  rw[q,aH]at hq;intro H1 s1 D ys H' nD sD eD rD;exact hq H' (s1.trans sD) _ (Rep.Fk.mpr ⟨D,ys,rfl,λz=>(E.same s1).fresh nD.1 z,eD,rD.less λa z=> .inl z⟩)
theorem q_lc {elt tg iter:Expr}{ifs:List Expr}{scope:OY}{N':List Str}{src:List (Option Nat)}{fi:En->Rs (List T)}{tgt:T->En->Rs En}{fc:En->Rs Bool}{fe:En->Rs T}
  (hc:X.calm=true) (S:LcScope X scope N' src) (hi:Ab X tg iter fi)
  (block:∀cl C s₀ H₀ fp,CS (cx X scope cl N' C s₀ H₀ fp) tg tgt/\Aj (cx X scope cl N' C s₀ H₀ fp) ifs (Aw (cx X scope cl N' C s₀ H₀ fp) fc)/\cY (cx X scope cl N' C s₀ H₀ fp) elt fe)
  (hs:∀x,Mp iter X.env x=pure x:=by intro _;rfl) :
  cY X (.ListComp elt [⟨tg,iter,ifs,0⟩] scope pos) (eY fi src tgt fc fe):=by
 have hPG:∀cl C s₀ H₀ fp,PG (cx X scope cl N' C s₀ H₀ fp) tg (Ax X tgt):=λcl C s₀ H₀ fp=>(block cl C s₀ H₀ fp).1
 have hPI:∀cl C s₀ H₀ fp,Aj (cx X scope cl N' C s₀ H₀ fp) ifs (tPT0 X.K fc):=λcl C s₀ H₀ fp pins s σ H Q I h=>(block cl C s₀ H₀ fp).2.1 pins s σ H Q I (tPT0.up (X:=cx X scope cl N' C s₀ H₀ fp) h)
 have hPE:∀cl C s₀ H₀ fp,PE (cx X scope cl N' C s₀ H₀ fp) elt (tP0 X.K fe):=λcl C s₀ H₀ fp pins s σ H Q I h=>(block cl C s₀ H₀ fp).2.2 pins s σ H Q I (tP0.up (X:=cx X scope cl N' C s₀ H₀ fp) h)
 exact PE.imp (vh (g:=Ax X tgt) (tc:=tPT0 X.K fc) (te:=tP0 X.K fe) hc S hi (λcl C s₀ H₀ fp=>⟨hPG cl C s₀ H₀ fp,hPI cl C s₀ H₀ fp,hPE cl C s₀ H₀ fp⟩) hs) λσ H Q h=>yw h
inductive Fl where
 | nx (Z:En) | rt (t:T) | bk (Z:En) | ct (Z:En)
def OO (B:Ow)(M:Mn):Ow:=λa=>B a\/M.u a
structure Ev (K:Lu)(B:Ow)(M:Mn)(H:Hp)(Z:En)(σ:L2.St):Prop where
 env:EnvM K (OO B M) M H Z σ
 mine:∀a,M.u a->¬ B a
theorem Ev.same {K:Lu}{B:Ow}{M:Mn}{H H':Hp}{Z:En}{σ:L2.St}(h:Same H H')(e:Ev K B M H Z σ):Ev K B M H' Z σ:=⟨e.env.same h,e.mine⟩
theorem Ev.o {K:Lu}{B:Ow}{M:Mn}{H:Hp}{Z:En}{σ:L2.St}(e:Ev K B M H Z σ):EnvO K (OO B M) H Z σ:=⟨M,e.env⟩
def PostF (X:Cx)(B P:Ow)(H:Hp)(r:Rs Fl)(D:uC):Prop:=match r with
 | .ok (.nx Z')=> ∀σ' H' M',SameO P H H'->Ev X.K B M' H' Z' σ'->(∀a,M'.u a->P a\/Nw X.K H a)->D.nx σ' H'
 | .ok (.rt t)=> ∀v H',SameO P H H'->Rep X.K B H' t v->D.rt v H'
 | .ok (.bk Z')=> ∀σ' H' M',SameO P H H'->Ev X.K B M' H' Z' σ'->(∀a,M'.u a->P a\/Nw X.K H a)->D.bk σ' H'
 | .ok (.ct Z')=> ∀σ' H' M',SameO P H H'->Ev X.K B M' H' Z' σ'->(∀a,M'.u a->P a\/Nw X.K H a)->D.ct σ' H'
 | .err c=>XA X P H c
 | .bad=>False
def Kd (X:Cx)(F:En->Rs Fl):TS:=λD σ H=> ∃Z B M,Ev X.K B M H Z σ/\PostF X B M.u H (F Z) D
abbrev qh (X:Cx)(s:Stmt)(F:En->Rs Fl):Prop:=PS X s (Kd X F)
abbrev mZ (X:Cx)(s:List Stmt)(F:En->Rs Fl):Prop:=PSs X s (Kd X F)
theorem PostF.later {B P P1:Ow}{H H1:Hp}{r:Rs Fl}{D:uC}(h:PostF X B P H r D)(s:SameO P H H1)(sub:∀a,P1 a->P a\/Nw X.K H a):PostF X B P1 H1 r D:=by
 have back:∀a,P1 a\/Nw X.K H1 a->P a\/Nw X.K H a:=λa z=>z.elim (sub a) (iW s)
 cases r with
 | bad=>exact h
 | err c=>exact XA.later h s sub
 | ok f=>
  cases f with
  | nx Z'=>exact λσ' H' M' s' E' o'=>h σ' H' M' (s.trans s' sub) E' λa z=>back a (o' a z)
  | rt t=>exact λv H' s' r=>h v H' (s.trans s' sub) r
  | bk Z'=>exact λσ' H' M' s' E' o'=>h σ' H' M' (s.trans s' sub) E' λa z=>back a (o' a z)
  | ct Z'=>exact λσ' H' M' s' E' o'=>h σ' H' M' (s.trans s' sub) E' λa z=>back a (o' a z)
theorem PostF.xa {B P:Ow}{H:Hp}{c:Str}{D:uC}(h:PostF X B P H (.err c) D):XA X zq H c:=XA.later (P:=P) h (λ_ _ e _=>e) λ_ z=>z.elim
def sN (Z:En):Rs Fl:=.ok (.nx Z)
def az (F G:En->Rs Fl)(Z:En):Rs Fl:=do
 let f <-F Z
 match f with
 | .nx Z'=>G Z'
 | f=> .ok f
theorem Gp:mZ X [] sN:=PSs.imp x5 λD σ H ⟨Z,B,M,E,h⟩=>h σ H M (λ_ _ e _=>e) E λa z=> .inl z
theorem Du {st:Stmt}{dk:List Stmt}{F G:En->Rs Fl}(h1:qh X st F)(h2:mZ X dk G):mZ X (st::dk) (az F G):=PSs.imp (lM h1 h2) λD σ H hh_=>by
 obtain⟨Z,B,M,E,h⟩:=hh_;refine⟨Z,B,M,E,?_⟩
 unfold az at h
 cases q:F Z with
 | bad=>rw[q]at h;exact h.elim
 | err c=>rw[q]at h;exact h
 | ok f=>
  rw[q,aH]at h
  cases f with
  | nx Z'=>exact λσ' H' M' s' E' o'=>⟨Z',B,M',E',h.later s' o'⟩
  | rt t=>exact h
  | bk Z'=>exact h
  | ct Z'=>exact h
theorem Gn {st:Stmt}{F:En->Rs Fl}(h:qh X st F):mZ X [st] F:=gD h
def aL (f:En->Rs T)(Z:En):Rs Fl:=do
 let t <-f Z
 .ok (.rt t)
theorem Gk (ha:cY X a fa):qh X (.Return (some a) pos) (aL fa):=PS.imp (jI ha) λD σ H hh_=>by
 obtain⟨Z,B,M,E,h⟩:=hh_;refine⟨Z,OO B M,E.o,?_⟩
 unfold aL at h
 cases q:fa Z with
 | bad=>rw[q]at h;exact h.elim
 | err c=>rw[q]at h;exact PostF.xa h
 | ok t=>
  rw[q,aH]at h;exact λH' s v r=>h v H' (SameO.of s) (r.less λ_ z=> .inl z)
def eM (f:En->Rs Bool)(F G:En->Rs Fl)(Z:En):Rs Fl:=do
 let k <-f Z
 if k then F Z else G Z
theorem IL {f:En->Rs Bool}{A B:List Stmt}{F G:En->Rs Fl}(hc:wy X c f)(ha:mZ X A F)(hb:mZ X B G):qh X (.If c A B pos) (eM f F G):=PS.imp (Fo hc ha hb) λD σ H hh_=>by
 obtain⟨Z,B,M,E,h⟩:=hh_;refine⟨Z,OO B M,E.o,?_⟩
 unfold eM at h
 cases q:f Z with
 | bad=>rw[q]at h;exact h.elim
 | err c=>rw[q]at h;exact PostF.xa h
 | ok k=>
  rw[q,aH]at h;intro H' s
  have E':Ev X.K B M H' Z σ:=E.same s
  cases k with
  | true=>refine L2.iteT ?_;exact⟨Z,B,M,E',PostF.later (by simpa using h) (SameO.of s) λa z=> .inl z⟩
  | false=>refine L2.iteF ?_;exact⟨Z,B,M,E',PostF.later (by simpa using h) (SameO.of s) λa z=> .inl z⟩
def cC (f:En->Rs T)(g:T->En->Rs En)(Z:En):Rs Fl:=do
 let t <-f Z
 match g t Z with
 | .ok Z'=> .ok (.nx Z')
 | _=> .bad
theorem AJ {B:Ow}{M:Mn}{Z:En}{σ:L2.St}{H:Hp}{D:uC}{g:T->En->Rs En}{f:En->Rs T}(E:Ev X.K B M H Z σ)(h:PostF X B M.u H (cC f g Z) D):Ay (tP X f) (Ax X g) D σ H:=by
 refine⟨Z,OO B M,E.o,?_⟩
 unfold cC at h
 cases q:f Z with
 | bad=>rw[q]at h;exact h.elim
 | err c=>rw[q]at h;exact PostF.xa h
 | ok t=>
  rw[q,aH]at h;intro H' s v r;refine⟨Z,OO B M,M,t,E.env.same s,r,?_⟩
  cases q2:g t Z with
  | bad=>rw[q2]at h;exact h.elim
  | err c=>rw[q2]at h;exact h.elim
  | ok Z'=>
   rw[q2]at h;exact λσ' E'=>h σ' H' M (SameO.of s) ⟨E',E.mine⟩ λa z=> .inl z
theorem C9 {f:En->Rs T}{σ:L2.St}{H:Hp}{Q Q':VK}(h:tP X f σ H Q)(w:∀v H',Q v H'->Q' v H'):tP X f σ H Q':=by
 obtain⟨Z,O,E,q⟩:=h;exact⟨Z,O,E,Post.mono q λt H' _ z v r=>w v H' (z v r)⟩
theorem IK {elt tg iter:Expr}{ifs:List Expr}{scope:OY}{spos py:Pos}{N':List Str}{src:List (Option Nat)}{fi:En->Rs (List T)}{tgt:T->En->Rs En}{fc:En->Rs Bool}{fe:En->Rs T}(i:Nat){y:Str}
  (hc:X.calm=true) (S:LcScope X scope N' src) (hi:Ab X tg iter fi)
  (block:∀cl C s₀ H₀ fp,CS (cx X scope cl N' C s₀ H₀ fp) tg tgt/\Aj (cx X scope cl N' C s₀ H₀ fp) ifs (Aw (cx X scope cl N' C s₀ H₀ fp) fc)/\cY (cx X scope cl N' C s₀ H₀ fp) elt fe)
  (hN:X.N.Nodup) (hiy:X.N[i]? =some y:=by rfl) (hy:Loc X.env.scope y:=by first | exact MR rfl | exact MF rfl) (hsw:MK (.ListComp elt [⟨tg,iter,ifs,0⟩] scope pos) (some (.Name y py)) spos.line X.env=pure true:=by rfl)
  (hf:X.fn y=true\/X.env.scope.names.lookup y=some .local:=by first | exact .inl rfl | exact .inr rfl | assumption) (hs:∀x,Mp iter X.env x=pure x:=by intro _;rfl) :
  qh X (.Assign [.Name y py] (.ListComp elt [⟨tg,iter,ifs,0⟩] scope pos) spos) (cC (eY fi src tgt fc fe) (gN i)):=by
 have hPG:∀cl C s₀ H₀ fp,PG (cx X scope cl N' C s₀ H₀ fp) tg (Ax X tgt):=λcl C s₀ H₀ fp=>(block cl C s₀ H₀ fp).1
 have hPI:∀cl C s₀ H₀ fp,Aj (cx X scope cl N' C s₀ H₀ fp) ifs (tPT0 X.K fc):=λcl C s₀ H₀ fp pins s σ H Q I h=>(block cl C s₀ H₀ fp).2.1 pins s σ H Q I (tPT0.up (X:=cx X scope cl N' C s₀ H₀ fp) h)
 have hPE:∀cl C s₀ H₀ fp,PE (cx X scope cl N' C s₀ H₀ fp) elt (tP0 X.K fe):=λcl C s₀ H₀ fp pins s σ H Q I h=>(block cl C s₀ H₀ fp).2.2 pins s σ H Q I (tP0.up (X:=cx X scope cl N' C s₀ H₀ fp) h)
 refine PS.imp (Jf (g:=Ax X tgt) (tc:=tPT0 X.K fc) (te:=tP0 X.K fe) (i:=i) hc S hi (λcl C s₀ H₀ fp=>⟨hPG cl C s₀ H₀ fp,hPI cl C s₀ H₀ fp,hPE cl C s₀ H₀ fp⟩) hN hiy hy hsw hf hs) λD σ H ⟨Z,B,M,E,h⟩=>yw (C9 (AJ E h) λv H' z=> ?_)
 obtain⟨Z',O,M',t,E',r,q⟩:=z;unfold gN at q
 split at q
 ·rename_i Z2 e
  split at e
  ·rename_i hl
   cases e;exact q _ (E'.set hl r)
  ·cases e
 ·exact q.elim
theorem Gw {tg:Expr}{g:T->En->Rs En}(ha:cY X a fa)(hg:CS X tg g)(hs:RY [tg] a pos.line X.env=pure false:=by rfl)(hw:RZ [tg] a X.env=pure none:=by rfl)
  (h1:(Ni [tg] X.env).map (·.2)= [assign tg X.env]:=by rfl):qh X (.Assign [tg] a pos) (cC fa g):=PS.imp (GI ha hg hs hw h1) λD σ H ⟨Z,B,M,E,h⟩=>AJ E h
def uD (f:En->Rs T)(Z:En):Rs Fl:=do
 let _ <-f Z
 .ok (.nx Z)
theorem Dt (ha:cY X a fa)(hs:MK a none pos.line X.env=pure false:=by rfl):qh X (.Expr a pos) (uD fa):=PS.imp (nX ha hs) λD σ H hh_=>by
 obtain⟨Z,B,M,E,h⟩:=hh_;refine⟨Z,OO B M,E.o,?_⟩
 unfold uD at h
 cases q:fa Z with
 | bad=>rw[q]at h;exact h.elim
 | err c=>rw[q]at h;exact PostF.xa h
 | ok t=>
  rw[q,aH]at h;exact λH' s v r=>h σ H' M (SameO.of s) (E.same s) λa z=> .inl z
def bf (g:T->En->Rs En)(F:En->Rs Fl):List T->En->Rs Fl
 | [],Z=> .ok (.nx Z)
 | t::r,Z=>do
  let Z1 <-g t Z
  let f <-F Z1
  match f with
  | .nx Z2=>bf g F r Z2
  | .ct Z2=>bf g F r Z2
  | .bk Z2=> .ok (.nx Z2)
  | .rt t=> .ok (.rt t)
def dP (fi:En->Rs (List T))(g:T->En->Rs En)(F:En->Rs Fl)(Z:En):Rs Fl:=do
 let ts <-fi Z
 match bf g F ts Z with
 | .ok f=> .ok f
 | _=> .bad
theorem mF {α:Type}{t:Sem α}{Q:α->LB->Prop}{s:LB}{E:Ly->LB->Prop}{P:L1}{w:MG}{A:Mh}(h:wpAny (model P w) A t Q (λ_ _=>False) s):wpAny (model P w) A t Q E s:=Nh h (λ_ _ q=>q) λ_ _ z=>z.elim
theorem DJ {tg iter:Expr}{body:List Stmt}{wi:TI}{g:TG}{tb:TS}{pos:Pos}(hc:X.calm=true)(hi:PI X tg iter wi)(hg:PG X.nox tg g)(hb:PSs X.nox body tb)
  (hs:∀x,Mp iter X.env x=pure x:=by intro _;rfl):PS X (.For tg iter body [] pos) (tFor wi g tb):=by
 intro pins s σ H D I h;refine wpAny_For (cE (hi pins s σ H _ I h) λv s1 h1=>cE h1 λitv s2 h2=> ?_) hs
 obtain⟨it,fp,tn,J,H2,e,I2,T,st2,f2,W,⟨m0,w0⟩,turn⟩:=h2;subst e
 have stat:∀{H':Hp},(∀b∈fp,H' b=none)->∀b∈fp,nU X pins H' b:=λhn b hb=>⟨hn b hb,(f2 b hb).2⟩
 refine codeAny_forLoop_any (λn s'=> ∃i σ' H',Inv X pins σ' H' s'/\tn i s'.heap/\(∀b∈fp,H' b=none)/\W i n σ' H') ?_ m0 ⟨0,σ,H2,I2,st2,λb hb=>(f2 b hb).1,w0⟩
 rintro n s3 ⟨i,σ3,H3,I3,st3,fr3,w3⟩
 rcases turn i n σ3 H3 w3 with⟨stop,qn⟩ | ⟨go,N,hN,step⟩
 ·refine mF (cE (T.done X.nox rfl rfl rfl hc i pins s3 σ3 H3 _ (I3.FB _) (stat fr3) st3 stop) λr s4 ⟨hr,I4⟩=> ?_)
  subst hr;exact OZ ⟨σ3,H3,I4.FB _,qn⟩
 ·refine mF (cE (T.item X.nox rfl rfl rfl hc i pins s3 σ3 H3 _ (I3.FB _) (stat fr3) st3 go) λr s4 ⟨u,hr,h4⟩=> ?_)
  subst hr;refine mF (cE h4 λ_ s5 hh_=> ?_)
  obtain⟨x,H5,I5,r5,y5,st5,fr5⟩:=hh_
  have I5':=Inv.pinned (X:=X.nox) I5 (stat fr5) (T.obj _ _ st5);refine mF (cE (hg _ s5 σ3 H5 x u _ I5' r5 (step x H5 y5)) λ_ s6 hh_=> ?_)
  obtain⟨σ6,H6,I6,q6⟩:=hh_;refine mF (cE (hb _ s6 σ6 H6 _ I6 q6) λf s7 q7=> ?_)
  have again:∀{σ7:L2.St} {H7:Hp},Inv X.nox (pins++oX fp s5.heap) σ7 H7 s7->N σ7 H7->∃m,m<n/\∃i σ' H',Inv X pins σ' H' s7/\tn i s7.heap/\(∀b∈fp,H' b=none)/\W i m σ' H':=λ{σ7 H7} I7 n7=>by
   obtain⟨m',hm,w7⟩:=hN σ7 H7 n7;refine⟨m',hm,i+1,σ7,H7,(Inv.Kr (X:=X.nox) I7).FB _,T.keep _ _ _ st5 λb hb o e=>(I7.pin (b,o) (L3 _ (L3 _ (iY hb e)))).1,λb hb=> ?_,w7⟩
   obtain⟨o,e,d⟩:=T.obj _ _ st5 b hb;exact(I7.pin (b,o) (L3 _ (L3 _ (iY hb e)))).2.1
  cases f with
  | next=>obtain⟨σ7,H7,I7,n7⟩:=q7;exact again I7 n7
  | cont=>obtain⟨σ7,H7,I7,n7⟩:=q7;exact again I7 n7
  | brk=>obtain⟨σ7,H7,I7,q7⟩:=q7;exact⟨σ7,H7,(Inv.Kr (X:=X.nox) I7).FB _,q7⟩
  | ret v=>obtain⟨x7,σ7,H7,I7,r7,q7⟩:=q7;exact⟨x7,σ7,H7,(Inv.Kr (X:=X.nox) I7).FB _,r7,q7⟩
theorem Gs {tg iter:Expr}{body:List Stmt}{fi:En->Rs (List T)}{g:T->En->Rs En}{F:En->Rs Fl}(hc:X.calm=true)(hi:Ab X tg iter fi)(hg:CS X.nox tg g)(hb:mZ X.nox body F)
  (hs:∀x,Mp iter X.env x=pure x:=by intro _;rfl):qh X (.For tg iter body [] pos) (dP fi g F):=PS.imp (DJ hc hi hg hb hs) λD σ H hh_=>by
 obtain⟨Z,B,M,E,h⟩:=hh_;refine⟨Z,OO B M,E.o,?_⟩
 unfold dP at h
 cases q:fi Z with
 | bad=>rw[q]at h;exact h.elim
 | err c=>rw[q]at h;exact PostF.xa h
 | ok ts=>
  rw[q,aH]at h
  cases qq:bf g F ts Z with
  | bad=>rw[qq]at h;exact h.elim
  | err c=>rw[qq]at h;exact h.elim
  | ok fin=>
  rw[qq]at h;intro H1 s1 J hJ
  have E1:Ev X.K B M H1 Z σ:=E.same s1
  have h1:PostF X B M.u H1 (.ok fin) D:=PostF.later h (SameO.of s1) λa z=> .inl z
  refine⟨λi m σ' H'=>m=ts.length - i/\i<=ts.length/\SameO M.u H1 H'/\∃Z' M',Ev X.K B M' H' Z' σ'/\(∀a,M'.u a->M.u a\/Nw X.K H1 a)/\bf g F (ts.drop i) Z'= .ok fin,
   ⟨ts.length,by omega,MT _,λ_ _ e _=>e,Z,M,E1,λa z=> .inl z,by simpa using qq⟩,?_⟩
  rintro i m σ' H' ⟨rfl,hi',sm,Z',M',E',ow,hl⟩
  have it:=hJ M.u (OO B M') (λa z=> .inl (.inr z)) (λa z=>z.elim (λw=> .inl (.inl w)) λw=>(ow a w).elim (λy=> .inl (.inr y)) .inr) i H' sm (λa z=>(E'.env.trk a z).some)
  by_cases hlt:i<ts.length
  ·have hti:ts[i]? =some ts[i]:=by simp
   obtain⟨go,yl⟩:=it.2 ts[i] hti;rw[Oy hlt]at hl;unfold bf at hl;refine .inr ⟨go,λσ2 H2=> ∃m',m'<ts.length - i/\(m'=ts.length - (i+1)/\i+1<=ts.length/\SameO M.u H1 H2/\∃Z2 M2,Ev X.K B M2 H2 Z2 σ2/\(∀a,M2.u a->M.u a\/Nw X.K H1 a)/\bf g F (ts.drop (i+1)) Z2= .ok fin),λσ2 H2 z=>z,λx Hc y=> ?_⟩
   obtain⟨sc,rx⟩:=yl x Hc y;refine⟨Z',OO B M',M',ts[i],E'.env.same sc,rx,?_⟩
   cases e1:g ts[i] Z' with
   | bad=>rw[e1]at hl;cases hl
   | err cc=>rw[e1]at hl;cases hl
   | ok Z1=>
    rw[e1,aH]at hl;intro σ1 Eg
    have E2:Ev X.K B M' Hc Z1 σ1:=⟨Eg,E'.mine⟩;refine⟨Z1,B,M',E2,?_⟩
    have smc:SameO M.u H1 Hc:=λb o e n=>sc _ _ (sm b o e n)
    have onward:∀{σ3:L2.St} {H3:Hp} {Z3:En} {M3:Mn},SameO M'.u Hc H3->Ev X.K B M3 H3 Z3 σ3->(∀a,M3.u a->M'.u a\/Nw X.K Hc a)->bf g F (ts.drop (i+1)) Z3= .ok fin →
      ∃m',m'<ts.length - i/\(m'=ts.length - (i+1)/\i+1<=ts.length/\SameO M.u H1 H3/\∃Z2 M2,Ev X.K B M2 H3 Z2 σ3/\(∀a,M2.u a->M.u a\/Nw X.K H1 a)/\bf g F (ts.drop (i+1)) Z2= .ok fin):=
     λ{σ3 H3 Z3 M3} s3 E3 o3 p3=>⟨_,by omega,rfl,hlt,smc.trans s3 ow,Z3,M3,E3,λa z=>(o3 a z).elim (ow a) (iW smc),p3⟩
    cases e2:F Z1 with
    | bad=>rw[e2]at hl;cases hl
    | err cc=>rw[e2]at hl;cases hl
    | ok f=>
     rw[e2,aH]at hl
     cases f with
     | nx Z2=>exact λσ3 H3 M3 s3 E3 o3=>onward s3 E3 o3 hl
     | ct Z2=>exact λσ3 H3 M3 s3 E3 o3=>onward s3 E3 o3 hl
     | bk Z2=>
      cases hl
      exact λσ3 H3 M3 s3 E3 o3=>h1 σ3 H3 M3 (smc.trans s3 ow) E3 λa z=>(o3 a z).elim (ow a) (iW smc)
     | rt t=>
      cases hl;exact λv H3 s3 r=>h1 v H3 (smc.trans s3 ow) r
  ·refine .inl ⟨it.1 (by omega),?_⟩
   have hi2:i=ts.length:=by omega
   subst hi2;rw[SW]at hl;cases hl;exact h1 σ' H' M' sm E' ow
def ck (c:En->Rs Bool)(F:En->Rs Fl):Nat->En->Rs Fl
 | 0,_=> .bad
 | n+1,Z=>match c Z with
  | .ok false=> .ok (.nx Z)
  | .ok true=>match F Z with
   | .ok (.nx Z')=>ck c F n Z'
   | .ok (.ct Z')=>ck c F n Z'
   | .ok (.bk Z')=> .ok (.nx Z')
   | .ok (.rt t)=> .ok (.rt t)
   | _=> .bad
  | _=> .bad
theorem AS {c:Expr}{body:List Stmt}{fc:En->Rs Bool}{F:En->Rs Fl}(n:Nat)(hc:wy X.nox c fc)(hb:mZ X.nox body F):qh X (.While c body [] pos) (ck fc F n):=by
 have base:PS X.nox (.While c body [] pos) (wI (Aw X.nox fc) (Kd X.nox F)):=A3 PassesOwn.never hc hb;intro pins s σ H D I ⟨Z,B,M,E,h⟩
 cases qq:ck fc F n Z with
 | bad=>rw[qq]at h;exact h.elim
 | err c=>
  exfalso
  have:∀n Z,ck fc F n Z≠ .err c:=by
   intro n
   induction n with
   | zero=>intro Z z;cases z
   | succ n ih=>
    intro Z z;unfold ck at z
    split at z
    ·cases z
    ·split at z <;> first | exact ih _ z | cases z
    ·cases z
  exact this n Z qq
 | ok fin=>
  rw[qq]at h
  have goal:wI (Aw X.nox fc) (Kd X.nox F) D σ H:=by
   refine⟨λm σ' H'=>SameO M.u H H'/\∃Z' M',Ev X.K B M' H' Z' σ'/\(∀a,M'.u a->M.u a\/Nw X.K H a)/\ck fc F m Z'= .ok fin,⟨n,λ_ _ e _=>e,Z,M,E,λa z=> .inl z,qq⟩,?_⟩
   rintro m σ' H' ⟨sm,Z',M',E',ow,hl⟩
   cases m with
   | zero=>cases hl
   | succ m=>
    refine⟨Z',OO B M',E'.o,?_⟩
    unfold ck at hl
    cases e1:fc Z' with
    | bad=>rw[e1]at hl;cases hl
    | err cc=>rw[e1]at hl;cases hl
    | ok k=>
     rw[e1]at hl;intro H2 s2
     have E2:Ev X.K B M' H2 Z' σ':=E'.same s2
     have sm2:SameO M.u H H2:=λb o e n=>s2 _ _ (sm b o e n)
     cases k with
     | false=>
      cases hl;refine L2.iteF ?_
      exact h σ' H2 M' sm2 E2 ow
     | true=>
      refine L2.iteT ?_
      refine⟨λσ3 H3=>SameO M.u H H3/\∃Z3 M3,Ev X.K B M3 H3 Z3 σ3/\(∀a,M3.u a->M.u a\/Nw X.K H a)/\ck fc F m Z3= .ok fin,λσ3 H3 z=>⟨m,SV m,z⟩,Z',B,M',E2,?_⟩
      have hl':(match F Z' with | .ok (.nx Z')=>ck fc F m Z' | .ok (.ct Z')=>ck fc F m Z' | .ok (.bk Z')=> .ok (.nx Z') | .ok (.rt t)=> .ok (.rt t) | _=> .bad)= .ok fin:=hl
      cases e2:F Z' with
      | bad=>rw[e2]at hl';cases hl'
      | err cc=>rw[e2]at hl';cases hl'
      | ok f=>
       rw[e2]at hl'
       cases f with
       | nx Z2=>exact λσ3 H3 M3 s3 E3 o3=>⟨sm2.trans s3 ow,Z2,M3,E3,λa z=>(o3 a z).elim (ow a) (iW sm2),hl'⟩
       | ct Z2=>exact λσ3 H3 M3 s3 E3 o3=>⟨sm2.trans s3 ow,Z2,M3,E3,λa z=>(o3 a z).elim (ow a) (iW sm2),hl'⟩
       | bk Z2=>
        cases hl'
        exact λσ3 H3 M3 s3 E3 o3=>h σ3 H3 M3 (sm2.trans s3 ow) E3 λa z=>(o3 a z).elim (ow a) (iW sm2)
       | rt t=>
        cases hl';exact λv H3 s3 r=>h v H3 (sm2.trans s3 ow) r
  refine mF (cE (base pins s σ H D (I.FB _) goal) λf s' q=> ?_)
  cases f with
  | next=>obtain⟨σ7,H7,I7,n7⟩:=q;exact⟨σ7,H7,I7.FB _,n7⟩
  | cont=>obtain⟨σ7,H7,I7,n7⟩:=q;exact⟨σ7,H7,I7.FB _,n7⟩
  | brk=>obtain⟨σ7,H7,I7,n7⟩:=q;exact⟨σ7,H7,I7.FB _,n7⟩
  | ret v=>obtain⟨x7,σ7,H7,I7,r7,q7⟩:=q;exact⟨x7,σ7,H7,I7.FB _,r7,q7⟩
def Fg (Z:En):Rs Fl:=.ok (.ct Z)
end
def bU (F:En->Rs Fl)(Z:En):Rs T:=do
 let f <-F Z
 match f with
 | .nx _=> .ok .non
 | .rt t=> .ok t
 | _=> .bad
def aV (n:Nat)(ts:List T):En:=ts.map Sl.va++LS (n - ts.length) Sl.em
theorem ze {n:Nat}{ts:List T}{i:Nat}{o:OT}(e:(aV n ts)[i]? =some (.ow o)):False:=by
 unfold aV at e
 by_cases hi:i<ts.length
 ·rw[NT (by simpa using hi),LY,LN hi]at e
  cases e
 ·rw[Oq (by simpa using hi),N4]at e
  split at e <;> cases e
theorem ri {K:Lu}{O:Ow}{H:Hp}{N:List Str}{ts:List T}{vs:List V}(r:Reps K O H ts vs)(hl:ts.length<=N.length)(trk:∀a,O a->Mtb H a):Ev K O noM H (aV N.length ts) (start N vs):=by
 have hlen:=r.length
 have sub:∀a,OO O noM a->O a:=λa z=>z.elim id λ⟨_,w⟩=>w.elim
 refine⟨⟨by unfold aV L2.start;simp;omega,λi t e=> ?_,λi o e=>(ze e).elim,λ_ _ z=>z.elim,λ_ _ _ z=>z.elim,λa z=>trk a (sub a z)⟩,λa ⟨_,z⟩=>z.elim⟩
 unfold aV at e;unfold L2.start
 by_cases hi:i<ts.length
 ·rw[NT (by simpa using hi),LY,LN hi]at e
  have e':ts[i] =t:=by injection e with e;injection e
  obtain⟨v,e1,e2⟩:=r.get (i:=i) (t:=t) (by rw[<-e'];simp)
  refine⟨v,?_,e2.less sub⟩
  rw[NT (by simp;omega),LY,e1];rfl
 ·rw[Oq (by simpa using hi),N4]at e
  split at e <;> cases e
section
variable {P:L1}{w:MG}{K:Lu}{mg:Str->Option Ly}{base:Heap}
theorem JV {x qual:Str}{st:Stmt}{f:Addr}{fd:MP}{N ps:List Str}{k n:Nat}{g:List T->Rs T}(Fn:L2.Fun K x qual st f fd)(S:aE N ps (aq st))(hn:ps.length=n)
  (hbody:∀(cdv:Ly) (A:Mh) (outer:List Env) (s:LB) (H:Hp) (E:XK),Room k (A.deeper (envOfC qual (aq st) s.heap.objs.size f cdv)) →
   ∃F,mZ (ml CX0 P w K mg base N qual (aq st) f cdv A outer s H E).nox (du st) F/\∀ts,ts.length=n->∀t,g ts= .ok t->bU F (aV N.length ts)= .ok t):qW P w K mg base CX0 (k+1) f fd ps (spP K n g):=by
 have hpl:ps.length<=N.length:=by have:=congrArg MD S.pre;rw[MX]at this;omega
 refine Fn.ok S (λvs H Q E h=> ?_) (λcdv A outer s H vs Q E hr h=> ?_)
 ·obtain⟨ts,O,r,_,hl,_⟩:=h
  rw[<-r.length,hl,hn]
 ·obtain⟨ts,O,r,trk,hl,h⟩:=h
  obtain⟨F,hF,hv⟩:=hbody cdv A outer s H E hr;refine⟨_,hF,aV N.length ts,O,noM,ri r (by omega) trk,?_⟩
  have no:∀a,¬noM.u a:=λa ⟨_,z⟩=>z
  cases q:g ts with
  | bad=>rw[q]at h;exact h.elim
  | err c=>rw[q]at h;exact h.elim
  | ok t=>
   rw[q]at h
   have hb:=hv ts hl t q;unfold bU at hb
   cases q2:F (aV N.length ts)with
   | bad=>rw[q2]at hb;cases hb
   | err c=>rw[q2]at hb;cases hb
   | ok fl=>
    rw[q2,aH]at hb
    have sameOf:∀H',SameO noM.u H H'->Same H H':=λH' s b o e=>s b o e (no b)
    cases fl with
    | nx Z'=>cases hb;exact λσ' H' M' s' E' o'=>h .non H' (sameOf H' s') Rep.KW
    | rt t'=>cases hb;exact λv H' s' r'=>h v H' (sameOf H' s') r'
    | bk Z'=>cases hb
    | ct Z'=>cases hb
end
end Tr
namespace Enu
open PySem
open AutoSeq1 (wpAny_loadPart')
section
variable {prog:L1}{w:MG}{A:Mh}{E:Ly->LB->Prop}{s:LB}
theorem tupNext {it tt:Addr}{k:Nat}{its:Array Ly}{x:Ly}{Q:Ly->LB->Prop}(hi:s.heap.IsTupleIter it tt k)(ht:s.heap.IsTuple tt its)(hx:its[k]? =some x)
  (hQ:∀h',h'.IsTupleIter it tt (k+1)->OI it s.heap h'->Q x { s with heap:=h' }):wpAny (model prog w) A (Ma (.ref it)) Q E s:=by
 obtain⟨ob,g1,g2,g3⟩:=id hi;obtain⟨ot,k1,_,m,k3⟩:=ht;unfold Ma;refine Lv (MQ (name:=LU "__next__") hi.typeIs NL (Ny NL hi.typeIs PP ?_ (PJ _)))
 show wpAny (model prog w) _ (field (.ref it) 0 >>= _) _ _ s
 refine Lv (ME g1 g3 (x:=.ref tt) rfl ?_)
 show wpAny (model prog w) _ (if (LV tt == Ml)=true then _ else _) _ _ s
 rw[if_neg (show ¬((LV tt == Ml)=true)by exact LX)]
 show wpAny (model prog w) _ (field (.ref it) 1 >>= _) _ _ s
 refine Lv (ME g1 g3 (x:=.int k 0) rfl ?_)
 show wpAny (model prog w) _ (seqItems? (.ref tt) >>= _) _ _ s
 refine Lv (NB k1 k3 ?_)
 simp only[hx,MM];refine Lv (Rq g1 g3 (by simp) (LI ⟨x,rfl,LI (hQ _ ?_ (Rr ..))⟩))
 refine⟨_,Q0 _ g1 (Q1 (OV g3 _)),(Obj.cls_mapFields ..).trans g2,?_⟩
 rw[OV g3];simp[rawInt]
theorem tupStop {it tt:Addr}{k:Nat}{its:Array Ly}{Q:Ly->LB->Prop}(hh:A.handled=none)(hi:s.heap.IsTupleIter it tt k)(ht:s.heap.IsTuple tt its)(hx:its[k]? =none)
  (hE:∀h' e,Th it s.heap h'->(∃o,h'.get? e=some o/\o.cls= .type "StopIteration")->E (.ref e) { s with heap:=h' }):wpAny (model prog w) A (Ma (.ref it)) Q E s:=by
 obtain⟨ob,g1,g2,g3⟩:=id hi;obtain⟨ot,k1,_,m,k3⟩:=ht;unfold Ma;refine Lv (MQ (name:=LU "__next__") hi.typeIs NL (Ny NL hi.typeIs PP ?_ (PJ _)))
 show wpAny (model prog w) _ (field (.ref it) 0 >>= _) _ _ s
 refine Lv (ME g1 g3 (x:=.ref tt) rfl ?_)
 show wpAny (model prog w) _ (if (LV tt == Ml)=true then _ else _) _ _ s
 rw[if_neg (show ¬((LV tt == Ml)=true)by exact LX)]
 show wpAny (model prog w) _ (field (.ref it) 1 >>= _) _ _ s
 refine Lv (ME g1 g3 (x:=.int k 0) rfl ?_)
 show wpAny (model prog w) _ (seqItems? (.ref tt) >>= _) _ _ s
 refine Lv (NB k1 k3 ?_)
 simp only[hx,MM];refine Lv (OM (Lv (Rq g1 g3 (by simp) ?_)))
 show wpAny (model prog w) _ (newExc (.type "StopIteration") [] >>= _) _ _ _
 refine Lv ?_
 simp only[newTuple,newExc];refine Lv (Nj ?_ (by size_fits))
 refine Lv (m:=firstArgMember _ _) (wpAny_of_eq (a:=Ml) (by first | (simp only[firstArgMember];rfl) | rfl) ?_)
 refine Nj ?_ (by size_fits)
 simp only[raiseNew];refine Lv (wpAny_handled ?_)
 first | rw[hh] | rw[show A.in1.handled=none from hh]
 refine Lv (LI (wpAny_throw ?_))
 refine hE _ _ (((Rr ..).extBut.push _).push _) ⟨_,LR _ rfl,rfl⟩
end
theorem tupDraws {prog:L1}{w:MG}{A:Mh}(hh:A.handled=none)(it tt:Addr)(hne:tt≠it)(its:Array Ly) :
  Draws prog w A it [it,tt] its.size (λi v=>its[i]? =some v) (λi h=>h.IsTupleIter it tt i/\h.IsTuple tt its) where
 live:=λ_ _ st=>by obtain⟨o,ho,_⟩:=st.1;exact⟨o,ho⟩
 frame:=λ_ _ _ st hk=>by
  obtain⟨⟨o,e,r⟩,⟨o',e',r'⟩⟩:=st;exact⟨⟨o,hk it (by simp) o e,r⟩,⟨o',hk tt (by simp) o' e',r'⟩⟩
 item:=λi s Q E hi st hQ=>by
  refine tupNext st.1 st.2 (x:=its[i]) (by simp[hi]) λh' hit' hs'=> ?_
  obtain⟨o',e',r'⟩:=st.2;exact hQ _ h' s.toks (by simp[hi]) ⟨hit',⟨o',(hs'.2 tt hne).trans e',r'⟩⟩ hs'
 done:=λs Q E st hE=>tupStop hh st.1 st.2 (by simp) hE
theorem newT (l:Addr)(items:Array Ly)(n:Nat)(dct:Option Addr)(sl:Array (Option Ly)) :
  Meets (Builtin.«enumerate.__new__» ⟨[.type "enumerate",.ref l],[]⟩) (λ_ R s=>s.heap.get? l=some { cls:=.type "tuple",dict:=dct,data:=.seq items n,slots:=sl } ∧
   R (.ok (.ret (.ref (s.heap.push { cls:=.type "tuple_iterator",data:=.fields #[.ref l,.int 0 0] }).objs.size)))
    { s with heap:=(s.heap.push { cls:=.type "tuple_iterator",data:=.fields #[.ref l,.int 0 0] }).push { cls:=.type "enumerate",data:=.fields #[.none,.bool false,.ref s.heap.objs.size,rawInt 0,.none,.none] } }):=
 .of_wp λprog w A R s h=>by
  obtain⟨hp,g,d,tk,os⟩:=s;obtain⟨hl,h⟩:=h
  have hsub:=sub_enumerate
  have hT:Heap.IsTuple (Ti ⟨hp,g,d,tk,os⟩) l items:=⟨_,hl,rfl,n,rfl⟩
  wp_walk using N0 hl
  refine wpAny_stack_any λst=>LI ?_
  split
  ·rename_i c _ _ _ _ _
   cases (c == NM "enumerate")
   ·wp_walk using N0 hl,Oa hT
    exact⟨_,rfl,h⟩
   ·wp_walk using N0 hl,Oa hT
    exact⟨_,rfl,h⟩
  ·wp_walk using N0 hl,Oa hT
   exact⟨_,rfl,h⟩
theorem callT {prog:L1}{w:MG}{A:Mh}{E:Ly->LB->Prop}{s:LB}{l:Addr}{items:Array Ly}{Q:Ly->LB->Prop}(hL:s.heap.IsTuple l items)
  (h:∀h',IsEnum h' (s.heap.objs.size+1) s.heap.objs.size 0 .none->h'.IsTupleIter s.heap.objs.size l 0->h'.objs.size=s.heap.objs.size+2 →
   (∀b o,s.heap.get? b=some o->h'.get? b=some o)->Q (.ref (s.heap.objs.size+1)) { s with heap:=h' }):wpAny (model prog w) A (call (.type "enumerate") [.ref l]) Q E s:=by
 obtain⟨⟨cc,dc,dd,ss⟩,hl,hc,n,hd⟩:=hL
 replace hc:cc= .type "tuple":=hc
 replace hd:dd= .seq items n:=hd
 subst hc hd;refine callType_new F.called_enumerate (by decide) (F.typeCall_enumerate_1 _) (F.newCall_enumerate_1 _) (λobj=>F.args_object_init_2 obj _) F.entry_enumerate_new (newT l items n dc ss) ⟨hl,?_⟩
 have hz:(s.heap.push { cls:=.type "tuple_iterator",data:=.fields #[.ref l,.int 0 0] }).objs.size=s.heap.objs.size+1:=M0 ..
 show _/\_
 rw[hz]
 have he:IsEnum ((s.heap.push { cls:=.type "tuple_iterator",data:=.fields #[.ref l,.int 0 0] }).push
   { cls:=.type "enumerate",data:=.fields #[.none,.bool false,.ref s.heap.objs.size,rawInt 0,.none,.none] }) (s.heap.objs.size+1) s.heap.objs.size 0 .none:=by
  have q:=LR (s.heap.push { cls:=.type "tuple_iterator",data:=.fields #[.ref l,.int 0 0] })
   (o:={ cls:=.type "enumerate",data:=.fields #[.none,.bool false,.ref s.heap.objs.size,rawInt 0,.none,.none] }) rfl
  rw[hz]at q;exact q
 refine⟨⟨_,he,rfl⟩,h _ he ⟨_,LD _ (LR _ rfl),rfl,rfl⟩ (by rw[M0,hz]) λb o x=>LD _ (LD _ x)⟩
end Enu
namespace L2
open PySem PySem.Spec PyProof.Rows
section
variable {X:Cx}{pins:List (Addr×Obj)}{σ:L2.St}{H:Hp}{s:LB}{h':Heap}
theorem Inv.KM {t':Nat}{fp:List Addr}{Tp:Addr}{xs:List V}(I:Inv X pins σ H s)(hf:∀b∈fp,nU X pins H b)(k:∀b o,b∉fp->s.heap.get? b=some o->h'.get? b=some o)
  (ht:∀b∈fp,∃o,h'.get? b=some o) (hT:s.heap.objs.size<=Tp) (new:ObjOk X.prog X.w (upd H Tp (.tup xs)) h' Tp (.tup xs)):Inv X pins σ (upd H Tp (.tup xs)) { s with heap:=h',toks:=t' }:=by
 have hn:H Tp=none:=I.hok.fresh hT
 have nM:∀b o,s.heap.get? b=some o->b≠Tp:=λb o e=>Mr (LJ (LO e) hT)
 have nf:∀b u,H b=some u->b∉fp:=λb u e z=>by rw[(hf b z).1]at e;cases e
 refine I.step (g':=s.gens) (d':=s.drawn) (ch:=fp) (λb hb=>⟨(hf b hb).2.2.2.1,(hf b hb).2.1,(hf b hb).2.2.2.2.1,(hf b hb).2.2.2.2.2⟩) (λb o _ _ hc e _=>k b o hc e) (λb o _ _ hc e _=>⟨o.slots,k b o hc e⟩)
  (λb o _ e n=>by rw[aI (nM b o e)];exact n) (λb o hc e=>⟨o,k b o hc e⟩) (λb ys e=>by rw[aI (cG e hn)];exact e) (λb o u e=>by rw[aI (cG e hn)];exact e)
  (λb ps e=>⟨#[],by rw[aI (cG e hn),e];simp⟩) (λm hm=> ?_) (λb u e=> ?_) I.bare
 ·obtain⟨o,es,ep,ho,r⟩:=hm
  exact⟨o,es,ep,k _ o (λz=>(hf _ z).2.1 rfl) ho,r⟩
 ·by_cases hb:b=Tp
  ·subst hb;rw[aJ]at e;cases e;exact new
  ·rw[aI hb]at e
   refine(I.hok b u e).KC (λc v hc q=>k c v ?_ q) (λc q=>by rw[aI (cG q hn)];exact q) λc ys q=>by rw[aI (cG q hn)];exact q
   rcases hc with z | z
   ·rw[z];exact nf b u e
   ·exact nf c _ z
theorem Inv.Ky {t':Nat}{fp:List Addr}(I:Inv X pins σ H s)(hf:∀b∈fp,nU X pins H b)(k:∀b o,b∉fp->s.heap.get? b=some o->h'.get? b=some o):Inv X pins σ H { s with heap:=h',toks:=t' }:=by
 have nf:∀b u,H b=some u->b∉fp:=λb u e z=>by rw[(hf b z).1]at e;cases e
 refine I.step (g':=s.gens) (d':=s.drawn) (ch:=fp) (λb hb=>⟨(hf b hb).2.2.2.1,(hf b hb).2.1,(hf b hb).2.2.2.2.1,(hf b hb).2.2.2.2.2⟩) (λb o _ _ hc e _=>k b o hc e) (λb o _ _ hc e _=>⟨o.slots,k b o hc e⟩)
  (λb o _ e n=>n) (λb o hc e=>⟨o,k b o hc e⟩) (λb ys e=>e) (λb o u e=>e)
  (λb ps e=>⟨#[],by rw[e];simp⟩) (λm hm=> ?_) (λb u e=> ?_) I.bare
 ·obtain⟨o,es,ep,ho,r⟩:=hm
  exact⟨o,es,ep,k _ o (λz=>(hf _ z).2.1 rfl) ho,r⟩
 ·refine(I.hok b u e).KC (λc v hc q=>k c v ?_ q) (λc q=>q) λc ys q=>q
  rcases hc with z | z
  ·rw[z];exact nf b u e
  ·exact nf c _ z
end
def qg (K:Lu)(H:Hp)(a:Addr)(tt:Bool)(xs:List V):Prop:=if tt then SqT K H a xs else SqL K H a xs
def Kp (K:Lu)(a:Addr)(tt:Bool):It:=
 ⟨λi H=> ∃xs x,qg K H a tt xs/\xs[i]? =some x,λi H x H'=> ∃p v,x= .ref p/\H p=none/\H'=upd H p (.tup [.int (i:Nat),v])/\∀xs,qg K H a tt xs->xs[i]? =some v,λi H=> ∃xs,qg K H a tt xs/\xs.length<=i⟩
def itAt (tt:Bool)(h:Heap)(it a:Addr)(i:Nat):Prop:=if tt then h.IsTupleIter it a i else h.IsListIter it a i
theorem itAt.obj {tt:Bool}{h:Heap}{it a:Addr}{i:Nat}(st:itAt tt h it a i):∃o,h.get? it=some o/\∀v,o.data≠ .cell v:=by
 cases tt with
 | true=>obtain⟨o,e,c,d⟩:=(show h.IsTupleIter it a i from st);exact⟨o,e,λv z=>by rw[d]at z;cases z⟩
 | false=>obtain⟨o,e,c,d⟩:=(show h.IsListIter it a i from st);exact⟨o,e,λv z=>by rw[d]at z;cases z⟩
theorem itAt.keep {tt:Bool}{h h':Heap}{it a:Addr}{i:Nat}(st:itAt tt h it a i)(k:∀o,h.get? it=some o->h'.get? it=some o):itAt tt h' it a i:=by
 cases tt with
 | true=>obtain⟨o,e,r⟩:=(show h.IsTupleIter it a i from st);exact(show h'.IsTupleIter it a i from⟨o,k o e,r⟩)
 | false=>obtain⟨o,e,r⟩:=(show h.IsListIter it a i from st);exact(show h'.IsListIter it a i from⟨o,k o e,r⟩)
theorem zc {P:L1}{w:MG}{K:Lu}{elts:List Expr}{kk:Nat}{pos:Pos}(tt:Bool)(a e it:Addr)(hei:e≠it) :
  Aa P w K (.Tuple elts kk pos) (Kp K a tt) [e,it] e (λi h=>(∃old,IsEnum h e it i old)/\itAt tt h it a i) where
 mem:=by simp
 obj:=λi h st b hb=>by
  obtain⟨⟨old,he⟩,hi⟩:=st;rcases LH.mp hb with rfl | hb
  ·exact⟨_,he,λv z=>by have z':Tb _=RK v:=z;cases z'⟩
  ·rw[LZ.mp hb];exact hi.obj
 keep:=λi h h' st k=>by
  obtain⟨⟨old,he⟩,hi⟩:=st;exact⟨⟨old,k e (by simp) _ he⟩,hi.keep λo q=>k it (by simp) o q⟩
 item:=by
  intro X hP hw hK hc i pins s σ H E I hf st hg;subst hP hw hK;obtain⟨xs,x,hq,hx⟩:=hg;obtain⟨⟨old,he⟩,hi⟩:=st
  -- by what is walked
  have key:∀(its:List Ly),Vals xs its->(∀ys,qg X.K H a tt ys->ys=xs)->∀(fp0:List Addr) (St:Nat->Heap->Prop),Draws X.prog X.w X.A.in1 it fp0 its.toArray.size (λi v=>its.toArray[i]? =some v) St->e∉fp0->it∈fp0->St i s.heap →
    (∀h',St (i+1) h'->itAt tt h' it a (i+1)) →
    wpAny (model X.prog X.w) X.A (pyNext (.ref e)) (λr s1=> ∃u,r=some u/\wpAny (model X.prog X.w) X.A (O0 (.Tuple elts kk pos) (.ref e) u) (λ_ s2=> ∃x' H',Inv X pins σ H' s2/\RelV x' u/\(Kp X.K a tt).yld i H x' H' ∧
     ((∃old,IsEnum s2.heap e it (i+1:Nat) old)/\itAt tt s2.heap it a (i+1))/\∀b∈ [e,it],H' b=none) E s1) E s:=by
   intro its rv uniq fp0 St D hef hif hst hnext;obtain⟨u,hu,ru⟩:=rv.get hx
   have hlt:i<its.toArray.size:=by
    have:=(LM.mp hu).1
    simpa using this
   have W:=WalksT.enumerateD D e hei hef hif;refine W.item i s _ _ hlt ⟨⟨old,he⟩,hst⟩ λTp vals h1 tk hPt hTsz hTup hMid hk=>⟨.ref Tp,rfl,?_⟩
   refine W.go elts kk pos i Tp { s with heap:=h1,toks:=tk } _ _ hMid λh2 hst2 hk2=> ?_
   obtain⟨t,x',hPx,hvals⟩:=hPt;subst hvals
   have hxe:x'=u:=by
    have h1':its.toArray[i]? =some x':=hPx
    have h2':its.toArray[i]? =some u:=by simpa using hu
    rw[h1']at h2';exact Me h2'
   subst hxe
   have hTw:=W.apart i Tp h1 hMid;obtain⟨oT,eT,rT⟩:=hTup
   have eT2:h2.get? Tp=some oT:=hk2 Tp oT hTw eT
   have kAll:∀b o,b∉ [e,it]->s.heap.get? b=some o->h2.get? b=some o:=λb o hb q=>hk2 b o hb (hk b o hb q)
   obtain⟨⟨old2,he2⟩,hs2⟩:=hst2
   have hit2:=hnext h2 hs2
   have there:∀b∈ [e,it],∃o,h2.get? b=some o:=λb hb=>by
    rcases LH.mp hb with rfl | hb
    ·exact⟨_,he2⟩
    ·rw[LZ.mp hb];obtain⟨o,q,_⟩:=hit2.obj;exact⟨o,q⟩
   have hn:H Tp=none:=I.hok.fresh hTsz
   have new:ObjOk X.prog X.w (upd H Tp (.tup [.int (i:Nat),x])) h2 Tp (.tup [.int (i:Nat),x]):=
    ⟨by show 2<=sizeLine;decide,[.int (i:Nat) t,x'],.cons ⟨t,rfl⟩ (.cons ru .nil),⟨oT,eT2,rT⟩⟩
   have I2:=I.KM (t':=tk) hf kAll there hTsz new;refine⟨.ref Tp,_,I2,rfl,⟨Tp,x,rfl,hn,rfl,λys hy=>by rw[uniq ys hy];exact hx⟩,⟨⟨old2,he2⟩,hit2⟩,λb hb=> ?_⟩
   have hbT:b≠Tp:=λz=>by
    obtain⟨o,q⟩:∃o,s.heap.get? b=some o:=by
     rcases LH.mp hb with rfl | hb
     ·exact⟨_,he⟩
     ·rw[LZ.mp hb];obtain⟨o,q,_⟩:=hi.obj;exact⟨o,q⟩
    exact absurd (LJ (LO q) hTsz) (by rw[z];exact L6 _)
   rw[aI hbT];exact(hf b hb).1
  have hne:∀b∈ [e,it],a≠b:=λb hb z=>by
   have hb':=(hf b hb).1;rw[<-z]at hb'
   have hbs:=hf b hb
   cases tt with
   | true=>
    have hq':SqT X.K H a xs:=hq;rcases hq' with(q | ⟨o,q⟩) | ⟨o,its,n,q,_⟩
    ·rw[hb']at q;cases q
    ·rw[hb']at q;cases q
    ·rcases hbs.2.2.2.1 with z1 | z1
     ·exact I.ok.noex a o (I.ok.mod.kin a o q) (z▸z1)
     ·exact absurd (LJ (LO (I.ok.bs a o (I.ok.mod.kin a o q)).1) (z▸z1)) (L6 _)
   | false=>
    have hq':SqL X.K H a xs:=hq;rcases hq' with(q | ⟨o,q⟩) | ⟨o,its,n,q,_⟩
    ·rw[hb']at q;cases q
    ·rw[hb']at q;cases q
    ·rcases hbs.2.2.2.1 with z1 | z1
     ·exact I.ok.noex a o (I.ok.mod.kin a o q) (z▸z1)
     ·exact absurd (LJ (LO (I.ok.bs a o (I.ok.mod.kin a o q)).1) (z▸z1)) (L6 _)
  have hea:e≠a:=λz=>hne e (by simp) z.symm
  have hia:it≠a:=λz=>hne it (by simp) z.symm
  cases tt with
  | true=>
   have hq':SqT X.K H a xs:=hq;obtain⟨its,rv,p,hz⟩:=I.tuple hq'
   exact key its rv (λys hy=>I.Kw hy hq') _ _ (Enu.tupDraws (A:=X.A.in1) (I.ok.hd hc) it a (MS hia) its.toArray) (by simp[hei,hea]) (by simp) ⟨hi,p⟩ λh' z=>z.1
  | false=>
   have hq':SqL X.K H a xs:=hq;obtain⟨its,rv,p,hz⟩:=I.list hq';exact key its rv (λys hy=>I.KA hy hq') _ _ (Draws.list (A:=X.A.in1) (I.ok.hd hc) it a (MS hia) its.toArray) (by simp[hei,hea]) (by simp) ⟨hi,p.isList⟩ λh' z=>z.1
 done:=by
  intro X hP hw hK hc i pins s σ H E I hf st hg;subst hP hw hK;obtain⟨xs,hq,hx⟩:=hg;obtain⟨⟨old,he⟩,hi⟩:=st
  have fin:∀h',Th it s.heap h'->(none:Option Ly)=none/\Inv X pins σ H { s with heap:=h' }:=λh' eb=>⟨rfl,I.Ky (t':=s.toks) hf λb o hb q=>eb b o (λz=>hb (by simp[z])) q⟩
  cases tt with
  | true=>
   have hq':SqT X.K H a xs:=hq;obtain⟨its,rv,p,hz⟩:=I.tuple hq'
   have hl:=rv.length
   have hnone:its.toArray[i]? =none:=by simp;omega
   have hT:s.TypeIs (.ref e) "enumerate":=⟨_,he,rfl⟩;unfold pyNext;refine Lv (Qx (MQ (name:=LU "__next__") hT Q2 (Ny Q2 hT F.entry_enumerate_next ?_ (F.args_enumerate_next_1 _))))
   show wpAny (model X.prog X.w) _ (field (.ref e) 2 >>= _) _ _ _
   refine Lv (ME he rfl (x:=.ref it) rfl ?_)
   refine Lv (Enu.tupStop (I.ok.hd hc) hi p hnone λh' x he' hx'=> ?_)
   obtain⟨o,ho,hcl⟩:=hx'
   exact Lv (S3 (T:="StopIteration") (b:=true) ⟨o,ho,hcl⟩ isSubtype_stop (LI (fin h' he')))
  | false=>
   have hq':SqL X.K H a xs:=hq;obtain⟨its,rv,p,hz⟩:=I.list hq'
   have hl:=rv.length
   have hnone:its.toArray[i]? =none:=by simp;omega
   exact wpAny_pyNext_enum_end (I.ok.hd hc) he hi p.isList hnone fin
 self:=λ_ _ _ _ _ st h=>by
  obtain⟨⟨old,he⟩,_⟩:=st;exact Sw he h
section
variable {X:Cx}{elts:List Expr}{kk:Nat}{tpos:Pos}
theorem pX:Mg "enumerate" =some (.type "enumerate"):=by decide+kernel
def iEnu (K:Lu)(tl:TA):TI:=λσ H R=>tl σ H λvs H1=> ∃a tt,vs= [.ref a]/\(∃xs,qg K H1 a tt xs)/\R (Kp K a tt) H1
theorem DP {l:Expr}{tl:TA}{p pos:Pos}(hg:Gl X "enumerate")(hm:X.mg "enumerate" =none)(hl:PA X [l] tl)(hs:LP [l] X.env= [(false,eval l X.env)]:=by rfl):PI X (.Tuple elts kk tpos) (.Call (.Name "enumerate" p) [l] [] pos) (iEnu X.K tl):=by
 intro pins s σ H R I h;refine Call_ (gm I hg hm pX (Mx (cE (hl pos pins s σ H _ I h) λus s1 ⟨vs,H1,I1,r1,q1⟩=> ?_) hs rfl))
 obtain⟨a,tt,e,⟨xs,hq⟩,q⟩:=q1;subst e;obtain⟨u,rfl,ru⟩:=lA r1;cases ru
 have fin:∀h',IsEnum h' (s1.heap.objs.size+1) s1.heap.objs.size 0 .none->itAt tt h' s1.heap.objs.size a 0->h'.objs.size=s1.heap.objs.size+2->(∀b o,s1.heap.get? b=some o->h'.get? b=some o) →
   wpAny (model X.prog X.w) X.A (pyIter (.ref (s1.heap.objs.size+1))) (PIE X pins σ (.Tuple elts kk tpos) R) X.xe { s1 with heap:=h' }:=λh' he hi hsz hk=>by
  refine Sw he ?_
  have I2:Inv X pins σ H1 { s1 with heap:=h' }:=I1.kept (t':=s1.toks) hk
  refine⟨s1.heap.objs.size+1,[s1.heap.objs.size+1,s1.heap.objs.size],_,_,H1,rfl,I2,zc tt a (s1.heap.objs.size+1) s1.heap.objs.size (Nat.succ_ne_self _),⟨⟨_,he⟩,hi⟩,λb hb=> ?_,q⟩
  rcases LH.mp hb with rfl | hb
  ·exact I1.KI (by omega) (I1.hok.fresh (by omega))
  ·rw[LZ.mp hb];exact I1.KI (LL _) (I1.hok.fresh (LL _))
 cases tt with
 | true=>
  have hq':SqT X.K H1 a xs:=hq;obtain⟨its,rv,pl,hz⟩:=I1.tuple hq'
  exact Enu.callT pl λh' he hi hsz hk=>fin h' he hi hsz hk
 | false=>
  have hq':SqL X.K H1 a xs:=hq;obtain⟨its,rv,pl,hz⟩:=I1.list hq';exact call_enumerate_list pl.isList λh' he hi hsz hk=>fin h' he hi hsz hk
end
end L2
namespace Tr
open PySem PySem.Spec PyProof.Rows L2
section
variable {X:Cx}{a:Expr}{fa:En->Rs T}{fs:En->Rs (List T)}{p pos:Pos}
def iS (f:En->Rs T)(Z:En):Rs (List T):=do
 let x <-f Z
 match x with
 | .lst l=> .ok l
 | .tup l=> .ok l
 | _=> .bad
theorem GA {tg:Expr}(ha:cY X a fa):Ab X tg a (iS fa):=by
 intro pins s σ H R I ⟨Z,O,E,h⟩;unfold iS at h
 cases q:fa Z with
 | bad=>rw[q]at h;exact h.elim
 | err c=>exact xZ ha pins s σ H R I ⟨Z,O,E,by unfold iL;rw[q]at h ⊢;exact h⟩
 | ok x=>
  rw[q,aH]at h
  cases x with
  | lst l=>exact xZ ha pins s σ H R I ⟨Z,O,E,by unfold iL;rw[q];exact h⟩
  | tup l=>exact Gz ha pins s σ H R I ⟨Z,O,E,by unfold iT;rw[q];exact h⟩
  | _=>exact h.elim
def cp:Nat->List T->List T
 | _,[] => []
 | n,t::r=> .tup [.int n,t] ::cp (n+1) r
theorem rR:∀(l:List T) (n i:Nat),(cp n l)[i]? =(l[i]?).map λt=>T.tup [.int ((n+i:Nat):Int),t]
 | [],n,i=>by simp[cp]
 | t::l,n,0=>by simp[cp]
 | t::l,n,i+1=>by
  rw[cp,N7,rR l (n+1) i,N7]
  congr 2
  funext t
  congr 4
  omega
theorem rQ:∀(l:List T) (n:Nat),(cp n l).length=l.length
 | [],n=>rfl
 | t::l,n=>by rw[cp,LG,LG,rQ l]
def iE (f:En->Rs (List T))(Z:En):Rs (List T):=do
 let xs <-f Z
 match xs with
 | [x] =>match x.items with
  | some l=> .ok (cp 0 l)
  | none=> .bad
 | _=> .bad
theorem Dz {elts:List Expr}{kk:Nat}{tpos:Pos}(hm:X.mg "enumerate" =none)(ha:qV X [a] fs)(hg:Gl X "enumerate":=by rfl)(hs:LP [a] X.env= [(false,eval a X.env)]:=by rfl) :
  Ab X (.Tuple elts kk tpos) (.Call (.Name "enumerate" p) [a] [] pos) (iE fs):=PI.imp (DP hg hm ha hs) λσ H R hh_=>by
 obtain⟨Z,O,E,h⟩:=hh_;obtain⟨Z1,O1,E1,h1⟩:=fY E h;refine⟨Z1,O1,E1,Post.mono h1 λts H1 s1 q vs r=> ?_⟩
 obtain⟨t',r',s',E',q'⟩:=q vs r
 split at q'
 ·rename_i x0
  obtain⟨v,rfl,rv⟩:=r'.one
  split at q'
  ·rename_i l hl
   have main:∀(aa:Addr) (tt:Bool) (ws:List V),v= .ref aa->¬ O aa->Reps X.K O H1 l ws->qg X.K H1 aa tt ws->(∀P Hc,SameO P H1 Hc->¬ P aa->qg X.K Hc aa tt ws)->¬ Nw X.K H1 aa →
     ∃a tt,[v] = [V.ref a]/\(∃xs,qg X.K H1 a tt xs)/\R (Kp X.K a tt) H1:=λaa tt ws e n z sq mv nn=>by
    refine⟨aa,tt,by rw[e],⟨ws,sq⟩,q' H1 (Same.refl H1) _ λP O' hP hO i Hc hsm htr=> ?_⟩
    have hnP:¬ P aa:=λy=>(hP aa y).elim n nn
    have sqc:=mv P Hc hsm hnP;refine⟨λhi=>⟨ws,sqc,by rw[<-z.length,<-rQ l 0];exact hi⟩,λt ht=> ?_⟩
    rw[rR]at ht
    cases e1:l[i]? with
    | none=>rw[e1]at ht;cases ht
    | some t0=>
     rw[e1]at ht;cases ht;obtain⟨v0,f1,f2⟩:=z.get e1;refine⟨⟨ws,v0,sqc,f1⟩,λx Hc' y=> ?_⟩
     obtain⟨pp,vv,e2,hpn,e3,hy⟩:=y
     have:=hy ws sqc;rw[f1]at this;cases this;subst e2 e3;refine⟨a9 hpn _,gQ hpn (λzz=> ?_) (Reps.FS (by simpa using Rep.IR _) (Reps.FS (f2.move hP hO hsm) Reps.GE))⟩
     obtain⟨o,w⟩:=htr pp zz;rw[hpn]at w;cases w
   cases x0 with
   | tup m=>
    cases hl;obtain⟨aa,ws,e,n,qq,z⟩:=Rep.Do.mp rv
    exact main aa true ws e n z (show SqT X.K H1 aa ws from SqT.of qq) (λP Hc hsm hn=>show SqT X.K Hc aa ws from SqT.of (hsm _ _ qq hn)) λw=>by rw[w.1]at qq;cases qq
   | lst m=>
    cases hl;obtain⟨aa,ws,e,n,qq,z⟩:=Rep.Fk.mp rv
    exact main aa false ws e n z (show SqL X.K H1 aa ws from SqL.of qq) (λP Hc hsm hn=>show SqL X.K Hc aa ws from SqL.of (hsm _ _ qq hn)) λw=>by rw[w.1]at qq;cases qq
   | scr m=>
    cases hl;unfold Rep at rv;obtain⟨aa,e,n,qq⟩:=rv
    exact main aa false _ e n Reps.ints (show SqL X.K H1 aa _ from qq) (λP Hc hsm hn=>show SqL X.K Hc aa _ from Tr.SqL.keep hsm hn qq) (Tr.SqL.nn qq)
   | _=>cases hl
  ·exact q'.elim
 ·exact q'.elim
end
end Tr
namespace Tm
open PySem PyProof.Rows
theorem mH:fillsNumberSlot (.type "tuple") "mul" =pure false:=
 PySem.fillsNumberSlot_seq (id:="tuple.__mul__") (r:=some (.builtin "tuple.__rmul__")) Qz.lookup (by decide+kernel) Sg.lookup (by decide+kernel)
theorem sO:seqRepeat? (.type "tuple")=pure (some (.builtin "tuple.__mul__")):=by
 unfold seqRepeat?;rw[SX (T:="tuple") (name:="__mul__") (id:="tuple.__mul__") Qz.lookup (by decide+kernel),SX (T:="tuple") (name:="__rmul__") (id:="tuple.__rmul__") Sg.lookup (by decide+kernel)]
 rfl
theorem wX (a:Int)(t:Tok)(l:Addr)(items:Array Ly)(n:Nat)(dd:Option Addr)(sl:Array (Option Ly)) :
  Meets (Builtin.«int.__rmul__» ⟨[.int a t,.ref l],[]⟩) (λ_ R s=>s.heap.get? l=some { cls:=.type "tuple",dict:=dd,data:=.seq items n,slots:=sl }/\R (.ok (.ret Value.notImplemented)) s):=
 .of_wp λprog w A R s h=>by obtain⟨hp,g,d,tk,os⟩:=s;obtain⟨hl,h⟩:=h;wp_walk;exact⟨_,rfl,h⟩
open AutoSeq1 (wpAny_loadPart')
theorem By (l:Addr)(items:Array Ly)(n:Nat)(dd:Option Addr)(sl:Array (Option Ly))(x:Int)(u:Tok)(h1:1<x)(h2:x<2 ^ 31)(hne:items.isEmpty=false)(hz:items.size*x.toNat<=sizeLine)
  (hz2:(Qi (λa b=>a++b) #[] (LS x.toNat items)).size<=sizeLine) :
  Meets (Builtin.«tuple.__mul__» ⟨[.ref l,.int x u],[]⟩) (λ_ R s=>s.heap.get? l=some { cls:=.type "tuple",dict:=dd,data:=.seq items n,slots:=sl } ∧
   R (.ok (.ret (LV s.heap.objs.size))) { s with heap:=s.heap.push { cls:=NM "tuple",data:=Data.seq (Qi (λa b=>a++b) #[] (LS x.toNat items)) } }):=
 .of_wp λprog w A R s h=>by
  obtain⟨hp,g,d,tk,os⟩:=s;obtain⟨hl,h⟩:=h
  have hT:TV hp l items:=⟨_,hl,rfl,n,rfl⟩
  have hx:((items.size:Nat):Int)*x=((items.size*x.toNat:Nat):Int):=by
   have e:x=((x.toNat:Nat):Int):=by omega
   rw[Int.natCast_mul,<-e]
  wp_walk using N0 hl
  rw[if_neg (by simp;omega)]
  refine Lv (R6 (s:=⟨hp,g,d,tk,os⟩) hT ?_)
  dsimp only
  rw[if_neg (by rw[hne];simp;omega),if_neg (by rw[hne];simp;omega),hx,if_neg (by have:(sizeLine:Nat)<=1000000000:=(by decide);omega),if_neg (by unfold Builtin.Tuple.tupleTooMany;rw[decide_eq_true_iff];omega)]
  refine Lv (m:=Nv _) (Nj ?_ hz2)
  exact LI ⟨_,rfl,h⟩
section
variable {prog:L1}{w:MG}{A:Mh}{E:Ly->LB->Prop}{s:LB}
theorem mul_tuple {t:Addr}{vs:List Ly}{k:Int}{tk:Tok}{Q:Ly->LB->Prop}(ht:TV s.heap t vs.toArray)(h1:1<k)(h2:k<2 ^ 31)(hv:vs≠ [])(hz:vs.length*k.toNat<=sizeLine)
  (h:Q (.ref s.heap.objs.size) { s with heap:=s.heap.push { cls:=.type "tuple",data:=.seq (LS k.toNat vs).flatten.toArray } }) :
  wpAny (model prog w) A (Nn .Mult (.ref t) (.int k tk)) Q E s:=by
 obtain⟨⟨cls,dd,data,sl⟩,ho,hc,n,hd⟩:=id ht;simp only at hc hd;subst hc hd
 have e:Qi (λa b=>a++b) #[] (LS k.toNat vs.toArray)=(LS k.toNat vs).flatten.toArray:=by
  have q:=L2.foldl_rep vs k.toNat []
  simpa using q
 refine Qe (T:="tuple") (U:="int") (by decide) ⟨_,ho,rfl⟩ (λs'=>Ri s' k tk) mH Te PM sO SS.lookup
  (Oo PM (Ri s k tk) SU (Sf _ _) (wX k tk t vs.toArray n dd sl)
   ⟨ho,rfl,⟨_,ho,rfl⟩,Oo Qz ⟨_,ho,rfl⟩ F.entry_tuple_mul (F.args_tuple_mul_2 _ _) (By t vs.toArray n dd sl k tk h1 h2 (by simpa using hv) (by simpa using hz) (by rw[e,LQ,L2.len_rep,SB];exact hz)) ⟨ho,?_⟩⟩)
 rw[e];exact h
end
end Tm
namespace Tr
open PySem PySem.Spec PyProof.Rows L2
section
variable {X:Cx}
def bW (x y:T):Rs T:=match x,y with
 | .tup l,.int k=>if 1<k/\k<2 ^ 31/\l≠ []/\l.length*k.toNat<=sizeLine then .ok (.tup (LS k.toNat l).flatten)else .bad
 | x,y=>xk x y
instance (l:List T):Decidable (l≠ []):=by cases l <;> simp <;> infer_instance
theorem cR:OpT X (Nn .Mult) bW:=by
 intro pins s σ H O x y vx vy ux uy Q I hf rx ry r1 r2 hp;unfold bW at hp
 split at hp
 ·rename_i l k
  split at hp
  ·rename_i h
   obtain⟨a,vs,e1,n1,q1,z1⟩:=Rep.Do.mp rx;subst e1;cases Rep.Da.mp ry;cases r1;obtain⟨tk,rfl⟩:=r2;obtain⟨its,rv,pl,hz⟩:=I.tuple (SqT.of q1)
   have hl1:=z1.length
   have hl2:=rv.length
   have hne:its≠ []:=λz=>h.2.2.1 (List.eq_nil_of_length_eq_zero (by rw[hl1,hl2,z];rfl))
   refine Tm.mul_tuple pl h.1 h.2.1 hne (by rw[<-hl2,<-hl1];exact h.2.2.2) ?_
   have hn:=I.hok.fresh (LL _);refine⟨.ref _,_,I.laid (t':=s.toks) (o:=.tup (LS k.toNat vs).flatten) (λb ob q=>LD _ q) (LL _) ?_,rfl,hp _ (a9 hn _) _ (gQ hn (hf _ hn) (z1.rep _))⟩
   refine⟨?_,_,rv.rep k.toNat,Tc _ _⟩
   rw[len_rep,SB,<-hl1];exact h.2.2.2
  ·exact hp.elim
 ·exact GS pins s σ H O _ _ vx vy ux uy Q I hf rx ry r1 r2 hp
end
def Hj (outer:List (Str×Ol))(N:List Str)(names:List (Str×Ol))(N':List Str)(src:List (Option Nat)):Bool:=
 names.all (λy=>y.2 != .cell||names.lookup y.1 == some .cell)&&names.all (λy=>y.2 != .local||names.lookup y.1 == some .local)&&src.length == N'.length&&
 (MA N'.length).all (λj=>match src[j]? with
  | some (some i)=>match N'[j]? with
   | some x=>N[i]? == some x&&names.lookup x == some .free
   | none=>true
  | _=>true)&&
 names.all (λy=>y.2 != .free||(outer.lookup y.1 == some .cell||outer.lookup y.1 == some .free))
theorem LcScope.by {X:Cx}{scope:OY}{N N':List Str}{src:List (Option Nat)}{names:List (Str×Ol)}(hN:X.N=N)(hs:X.env.scope.names=names)(hk:scope.kind= .function)(h:Hj names N scope.names N' src=true):LcScope X scope N' src:=by
 unfold Hj at h;simp only[LC]at h;obtain⟨⟨⟨⟨h1,h2⟩,h3⟩,h4⟩,h5⟩:=h
 have a1:=L5.mp h1
 have a2:=L5.mp h2
 have a4:=L5.mp h4
 have a5:=L5.mp h5;refine⟨hk,λy hy hl=>by have:=a1 y hy;rw[hl]at this;simpa using this,λy hy hl=> ?_,by simpa using h3,λj i x e1 e2=> ?_,λx hx=> ?_⟩
 ·have:=a2 y hy
  rw[hl]at this
  simpa using this
 ·have hj:j<N'.length:=(LM.mp e2).1
  have:=a4 j (MZ.mpr hj);rw[e1]at this;simp only[e2]at this;rw[LC]at this;rw[hN];exact⟨by simpa using this.1,by simpa using this.2⟩
 ·have:=a5 _ hx
  simp only[bne_self_eq_false,Qs,Tj]at this
  show X.env.scope.names.lookup x=_\/X.env.scope.names.lookup x=_
  rw[hs];rcases this with z | z
  ·exact .inl (by simpa using z)
  ·exact .inr (by simpa using z)
def bz:Expr->Bool
 | .Starred .. =>false
 | _=>true
def bD:List Expr->Bool
 | [] =>true
 | e::r=>bz e&&bD r
theorem ba {e:Expr}{es:List Expr}{env:Env}(h:bz e=true):LP (e::es) env=(false,eval e env)::LP es env:=by
 cases e <;> first | rfl | cases h
theorem fZ {pos:Pos}{env:Env}:∀{es:List Expr},bD es=true->(backTo pos (LP es env)).any (·.1)=false
 | [],_=>rfl
 | e::r,h=>by
  unfold bD at h;rw[LC]at h;rw[ba h.1]
  have ih:=fZ (pos:=pos) (env:=env) h.2
  show(false||(backTo pos (LP r env)).any (·.1))=false
  rw[ih];rfl
section
variable {X:Cx}{a b e:Expr}{es:List Expr}{fa:En->Rs T}{fs:En->Rs (List T)}{pos p p2:Pos}{x:Str}
theorem qa_c {f:En->Rs T}{g:En->Rs (List T)}(he:cY X e f)(hr:qV X es g)(hn:bz e=true:=by rfl):qV X (e::es) (ae f g):=DD he hr (ba hn)
theorem q_cB {id:String}{g:List T->Rs T}(hc:CallT X (.builtin id) g)(hm:X.mg x=none)(hv:Mg x=some (.builtin id))(ha:qV X (e::es) fs)(hn:bD (e::es)=true:=by rfl)(hg:Gl X x:=by rfl)(h1:x≠ "__name__":=by decide)(h2:gE x:=by decide) :
  cY X (.Call (.Name x p) (e::es) [] pos) (cl g fs):=by
 unfold bD at hn;rw[LC]at hn;exact DG hc hm hv ha hg h1 h2 (ba hn.1) (fZ hn.2)
theorem q_cT {Ty:String}{g:List T->Rs T}(hc:CallT X (.type Ty) g)(hm:X.mg x=none)(hv:Mg x=some (.type Ty))(ha:qV X (e::es) fs)(hn:bD (e::es)=true:=by rfl)(hg:Gl X x:=by rfl)(h1:x≠ "__name__":=by decide)(h2:gE x:=by decide) :
  cY X (.Call (.Name x p) (e::es) [] pos) (cl g fs):=by
 unfold bD at hn;rw[LC]at hn;exact AY hc hm hv ha hg h1 h2 (ba hn.1) (fZ hn.2)
theorem q_c {n k:Nat}{f:Addr}{fd:MP}{ps:List Str}{g:List T->Rs T}(F:Ak X.prog X.w X.K X.mg X.base k f fd ps n g)(hr:Room k X.A)(hm:X.mg x=some (.ref f))(hk:Nk X.K (.ref f)=true)(hb:Binds X.K fd ps [])
  (hl:∀Z ts,fs Z= .ok ts->ts.length=n) (ha:qV X (e::es) fs) (hps:ps.length=n:=by rfl) (hn:bD (e::es)=true:=by rfl) (hg:Gl X x:=by rfl) (h2:gE x:=by decide):cY X (.Call (.Name x p) (e::es) [] pos) (cl g fs):=by
 unfold bD at hn;rw[LC]at hn;exact GG F hr hm hk hb hps hl ha hg h2 (ba hn.1) (fZ hn.2)
theorem q_is {tn:Str}{Ty:String}(hm:X.mg "isinstance" =none)(hmt:X.mg tn=none)(hv:Mg tn=some (.type Ty))(ha:cY X a fa)(hn:bz a=true:=by rfl)(hg:Gl X "isinstance":=by rfl)(hgt:Gl X tn:=by rfl)
  (h1:tn≠ "__name__":=by decide) (h2:gE tn:=by decide):cY X (.Call (.Name "isinstance" p) [a,.Name tn p2] [] pos) (o1 (Ei Ty) fa):=
 IZ hm hmt hv ha hg hgt h1 h2 (ba hn) (fZ rfl) (ba rfl)
end
theorem FA (Z:En)(ts:List T)(h:ai Z= .ok ts):ts.length=0:=by cases h;rfl
theorem Fz {n:Nat}{f:En->Rs T}{g:En->Rs (List T)}(hg:∀Z ts,g Z= .ok ts->ts.length=n)(Z:En)(ts:List T)(h:ae f g Z= .ok ts):ts.length=n+1:=by
 unfold ae at h
 cases q:f Z with
 | bad=>rw[q]at h;cases h
 | err c=>rw[q]at h;cases h
 | ok t=>
  rw[q,aH]at h
  cases q2:g Z with
  | bad=>rw[q2]at h;cases h
  | err c=>rw[q2]at h;cases h
  | ok r=>
   rw[q2,aH]at h;cases h;rw[LG,hg Z r q2]
theorem kD {k:Nat}{A:Mh}(h:Room k A):A.units+60<cLine:=by have:=h.un;omega
theorem JS {k:Nat}{A:Mh}(h:Room k A):A.units+61<cLine:=by have:=h.un;omega
structure Fn (K:Lu)(mg:Str->Option Ly)(x:Str)(st:Stmt)(ps:List Str)(f:Addr)(fd:MP):Prop where
 fn:L2.Fun K x x st f fd
 bd:Binds K fd ps []
 mg:mg x=some (.ref f)
def val (n m:Nat)(F:En->Rs Fl)(ts:List T):Rs T:=if ts.length=n then bU F (aV m ts)else .bad
theorem FJ {n m:Nat}{F:En->Rs Fl}{ts:List T}{t:T}(h:val n m F ts= .ok t):bU F (aV m ts)= .ok t:=by
 unfold val at h
 split at h
 ·exact h
 ·cases h
theorem sp_script {K:Lu}{H:Hp}{a:Addr}{ns:List Int}{g:List T->Rs T}{E:XK}(hS:SqL K H a (ns.map V.int))(h:g [.scr ns] = .ok (.bl true)):spP K 1 g [.ref a] H (λv _=>v= .bl true) E:=by
 refine⟨[.scr ns],λ_=>False,Reps.FS ?_ Reps.GE,λ_ z=>z.elim,rfl,?_⟩
 ·unfold Rep;exact⟨a,rfl,λz=>z,hS⟩
 ·rw[h];exact λv H' _ r=>Rep.FM.mp r
theorem uT {α:Type}{l:List α}{i:Nat}{z:α}(h:l[i]? =some z):l.set i z=l:=by
 obtain⟨hi,rfl⟩:=LM.mp h
 exact Q3 hi
def Mn.set (M:Mn)(i:Nat)(m:Ow):Mn:=λj=>if j=i then m else M j
theorem Mn.KD {M:Mn}{i:Nat}{m:Ow}{a:Addr}(h:(M.set i m).u a):m a\/M.u a:=by
 obtain⟨j,h⟩:=h;unfold Mn.set at h
 by_cases z:j=i
 ·rw[if_pos z]at h;exact .inl h
 ·rw[if_neg z]at h;exact .inr ⟨j,h⟩
theorem Mn.Lb {M:Mn}{i:Nat}{m:Ow}:M.set i m i=m:=by unfold Mn.set;rw[if_pos rfl]
theorem Mn.KH {M:Mn}{i j:Nat}{m:Ow}(h:j≠i):M.set i m j=M j:=by unfold Mn.set;rw[if_neg h]
theorem RowsR.move {K:Lu}{O O' P:Ow}{H H':Hp}(hP:∀a,P a->O a\/Nw K H a)(hO:∀a,O' a->O a\/Nw K H a)(h:SameO P H H'):∀{rs:List (List T×List T)} {as:List Addr},(∀b∈as,¬P b)->RowsR K O H rs as->RowsR K O' H' rs as
 | [],_,_,r=>r
 | _::_,_,hb,⟨b,bs,kvs,e1,e2,e3,e4,e5⟩=>by
  subst e1;exact⟨b,bs,kvs,rfl,h _ _ e2 (hb b Lz),e3,e4.move hP hO h,e5.move hP hO h λc hc=>hb c (Lw _ hc)⟩
theorem ORep.move {K:Lu}{O O' P M:Ow}{H H':Hp}{o:OT}{v:V}(hP:∀a,P a->O a\/Nw K H a)(hO:∀a,O' a->O a\/Nw K H a)(h:SameO P H H')(hM:∀a,M a->¬ P a)(r:ORep K O M H o v):ORep K O' M H' o v:=by
 cases o with
 | lst l=>obtain⟨a,vs,e1,e2,e3,e4⟩:=r;exact⟨a,vs,e1,e2,h _ _ e3 (hM a ((e2 a).mpr rfl)),e4.move hP hO h⟩
 | dct ks ts=>obtain⟨a,kvs,e1,e2,e3,e4,e5⟩:=r;exact⟨a,kvs,e1,e2,h _ _ e3 (hM a ((e2 a).mpr rfl)),e4,e5.move hP hO h⟩
 | dd ks rows=>
  obtain⟨a,kvs,as,e1,e2,e3,e4,e5,e6,e7,e8⟩:=r;exact⟨a,kvs,as,e1,e2,e3,e4,h _ _ e5 (hM a ((e2 a).mpr (.inl rfl))),e6,e7,e8.move hP hO h λb hb=>hM b ((e2 b).mpr (.inr hb))⟩
theorem RowsR.mtb {K:Lu}{O:Ow}{H:Hp}:∀{rs:List (List T×List T)} {as:List Addr},RowsR K O H rs as->∀b∈as,∃kvs,H b=some (.dT kvs)
 | [],_,r,b,hb=>by unfold RowsR at r;subst r;simp at hb
 | _::_,_,⟨b0,bs,kvs,e1,e2,e3,e4,e5⟩,b,hb=>by
  subst e1;rcases LH.mp hb with rfl | hb
  ·exact⟨kvs,e2⟩
  ·exact e5.mtb b hb
def OT.isD:OT->Bool
 | .lst _=>false
 | _=>true
theorem ORep.kind {K:Lu}{O M:Ow}{H:Hp}{o:OT}{v:V}(r:ORep K O M H o v):∀a,M a->if o.isD then ∃kvs,H a=some (.dT kvs)else ∃vs,H a=some (.lst vs):=λa z=>by
 cases o with
 | lst l=>obtain⟨b,vs,e1,e2,e3,e4⟩:=r;cases (e2 a).mp z;exact⟨vs,e3⟩
 | dct ks ts=>obtain⟨b,kvs,e1,e2,e3,e4,e5⟩:=r;cases (e2 a).mp z;exact⟨kvs,e3⟩
 | dd ks rows=>
  obtain⟨b,kvs,as,e1,e2,e3,e4,e5,e6,e7,e8⟩:=r
  rcases(e2 a).mp z with z | z
  ·cases z;exact⟨kvs,e5⟩
  ·exact e8.mtb a z
theorem ORep.mtb {K:Lu}{O M:Ow}{H:Hp}{o:OT}{v:V}(r:ORep K O M H o v)(a:Addr)(z:M a):Mtb H a:=by
 have:=r.kind a z
 split at this
 ·exact .inr this
 ·exact .inl this
theorem u5 {K:Lu}{O:Ow}{H:Hp}:∀{rs:List (List T×List T)} {as:List Addr},(∀b∈as,¬O b)->RowsR K O H rs as->Reps K O H (rs.map λr=>T.dct r.1 r.2) (as.map V.ref)
 | [],_,_,r=>by unfold RowsR at r;subst r;exact Reps.GE
 | _::_,_,hn,⟨b,bs,kvs,e1,e2,e3,e4,e5⟩=>by
  subst e1;exact Reps.FS (Rep.GM.mpr ⟨b,kvs,rfl,hn b Lz,.inl e2,e3,e4⟩) (u5 (λc hc=>hn c (Lw _ hc)) e5)
theorem RowsR.less {K:Lu}{O O':Ow}{H:Hp}(sub:∀a,O' a->O a):∀{rs:List (List T×List T)} {as:List Addr},RowsR K O H rs as->RowsR K O' H rs as
 | [],_,r=>r
 | _::_,_,⟨b,bs,kvs,e1,e2,e3,e4,e5⟩=>⟨b,bs,kvs,e1,e2,e3,e4.less sub,e5.less sub⟩
theorem ORep.rep {K:Lu}{O O' M:Ow}{H:Hp}{o:OT}{v:V}(sub:∀a,O' a->O a)(hn:∀a,M a->¬ O' a)(r:ORep K O M H o v):Rep K O' H o.view v:=by
 cases o with
 | lst l=>obtain⟨a,vs,e1,e2,e3,e4⟩:=r;exact Rep.Fk.mpr ⟨a,vs,e1,hn a ((e2 a).mpr rfl),e3,e4.less sub⟩
 | dct ks ts=>obtain⟨a,kvs,e1,e2,e3,e4,e5⟩:=r;exact Rep.GM.mpr ⟨a,kvs,e1,hn a ((e2 a).mpr rfl),.inl e3,e4,e5.less sub⟩
 | dd ks rows=>
  obtain⟨a,kvs,as,e1,e2,e3,e4,e5,e6,e7,e8⟩:=r;refine Rep.GM.mpr ⟨a,kvs,e1,hn a ((e2 a).mpr (.inl rfl)),.inl e5,e6,?_⟩
  rw[e7];exact u5 (λb hb=>hn b ((e2 b).mpr (.inr hb))) (e8.less sub)
section
variable {K:Lu}{B:Ow}{M:Mn}{H H':Hp}{Z:En}{σ:L2.St}{i:Nat}{o o':OT}{v:V}{m:Ow}
theorem Ev.new (E:Ev K B M H Z σ)(hl:i<Z.length)(hm:∀a,m a->Nw K H a)(s:Same H H')(r:ORep K (OO B (M.set i m)) m H' o v) :
  Ev K B (M.set i m) H' (Z.set i (.ow o)) (σ.set i (some v))/\∀a,(M.set i m).u a->M.u a\/Nw K H a:=by
 have hls:i<σ.length:=by rw[<-E.env.len];exact hl
 have sub:∀a,(M.set i m).u a->M.u a\/Nw K H a:=λa z=>(Mn.KD z).elim (λw=> .inr (hm a w)) .inl
 have subO:∀a,OO B (M.set i m) a->OO B M a\/Nw K H a:=λa z=>z.elim (λw=> .inl (.inl w)) λw=>(sub a w).elim (λy=> .inl (.inr y)) .inr
 have eE:∀a,Nw K H a->¬ OO B M a:=λa w z=>by
  obtain⟨o,e⟩:=(E.env.trk a z).some;rw[w.1]at e;cases e
 refine⟨⟨⟨by rw[MW,MW];exact E.env.len,λj t e=> ?_,λj o' e=> ?_,λj a z=> .inr ⟨j,z⟩,λj k a z1 z2=> ?_,λa z=> ?_⟩,λa z=> ?_⟩,sub⟩
 ·by_cases hj:i=j
  ·subst hj;rw[L4 hl]at e;cases e
  ·rw[L8 hj]at e
   obtain⟨w,e1,e2⟩:=E.env.val j t e;exact⟨w,by rw[L8 hj];exact e1,(e2.more subO).same s⟩
 ·by_cases hj:i=j
  ·subst hj
   rw[L4 hl]at e
   cases e;exact⟨v,L4 hls,by rw[Mn.Lb];exact r⟩
  ·rw[L8 hj]at e
   obtain⟨w,e1,e2⟩:=E.env.own j o' e;refine⟨w,by rw[L8 hj];exact e1,?_⟩
   rw[Mn.KH (λz=>hj z.symm)]
   exact(e2.move (P:=zq) (λ_ z=>z.elim) subO (λb u q _=>q) λ_ _ z=>z).same s
 ·unfold Mn.set at z1 z2
  by_cases hj:j=i
  ·by_cases hk:k=i
   ·exact hj.trans hk.symm
   ·rw[if_pos hj]at z1;rw[if_neg hk]at z2
    exact(eE a (hm a z1) (.inr ⟨k,z2⟩)).elim
  ·by_cases hk:k=i
   ·rw[if_neg hj]at z1;rw[if_pos hk]at z2
    exact(eE a (hm a z2) (.inr ⟨j,z1⟩)).elim
   ·rw[if_neg hj]at z1;rw[if_neg hk]at z2
    exact E.env.dis j k a z1 z2
 ·rcases z with z | z
  ·exact(E.env.trk a (.inl z)).same s
  ·rcases Mn.KD z with w | w
   ·exact r.mtb a w
   ·exact(E.env.trk a (.inr w)).same s
 ·intro hb
  rcases Mn.KD z with w | w
  ·exact eE a (hm a w) (.inl hb)
  ·exact E.mine a w hb
theorem Ev.put (E:Ev K B M H Z σ)(hi:Z[i]? =some (.ow o))(hs:σ[i]? =some (some v))(s:SameO (M i) H H')(r:ORep K (OO B M) (M i) H' o' v):Ev K B M H' (Z.set i (.ow o')) σ/\SameO M.u H H':=by
 have hl:i<Z.length:=(LM.mp hi).1
 have inO:∀a,M i a->OO B M a\/Nw K H a:=λa z=> .inl (.inr ⟨i,z⟩)
 have idO:∀a,OO B M a->OO B M a\/Nw K H a:=λa z=> .inl z
 refine⟨⟨⟨by rw[MW];exact E.env.len,λj t e=> ?_,λj o2 e=> ?_,E.env.sub,E.env.dis,λa z=> ?_⟩,E.mine⟩,λb u e n=>s b u e λz=>n ⟨i,z⟩⟩
 ·by_cases hj:i=j
  ·subst hj;rw[L4 hl]at e;cases e
  ·rw[L8 hj]at e
   obtain⟨w,e1,e2⟩:=E.env.val j t e;exact⟨w,e1,e2.move inO idO s⟩
 ·by_cases hj:i=j
  ·subst hj
   rw[L4 hl]at e
   cases e;exact⟨v,hs,r⟩
  ·rw[L8 hj]at e
   obtain⟨w,e1,e2⟩:=E.env.own j o2 e;exact⟨w,e1,e2.move inO idO s λa z y=>hj (E.env.dis i j a y z)⟩
 ·by_cases hz:M i a
  ·exact r.mtb a hz
  ·rcases E.env.trk a z with⟨vs,e⟩ | ⟨kvs,e⟩
   ·exact .inl ⟨vs,s _ _ e hz⟩
   ·exact .inr ⟨kvs,s _ _ e hz⟩
def disown (i:Nat)(Z:En):En:=match Z[i]? with
 | some (.ow o)=>Z.set i (.va o.view)
 | _=>Z
theorem EnvM.disown {O O':Ow}{Z:En}(E:EnvM K O M H Z σ)(i:Nat)(sub:∀a,O' a->O a)(hn:∀a,M i a->¬ O' a)(hin:∀j a,j≠i->M j a->O' a):EnvM K O' (M.set i zq) H (disown i Z) σ:=by
 have base:EnvM K O' (M.set i zq) H (Z.set i (match Z[i]? with | some (.ow o)=> .va o.view | some x=>x | none=> .em)) σ:=by
  refine⟨by rw[MW];exact E.len,λj t e=> ?_,λj o e=> ?_,λj a z=> ?_,λj k a z1 z2=> ?_,λa z=>E.trk a (sub a z)⟩
  ·by_cases hj:i=j
   ·subst hj
    by_cases hl:i<Z.length
    ·rw[L4 hl]at e
     cases q:Z[i]? with
     | none=>rw[q]at e;cases e
     | some z=>
      rw[q]at e
      cases z with
      | em=>cases e
      | va t'=>cases e;obtain⟨w,e1,e2⟩:=E.val i _ q;exact⟨w,e1,e2.less sub⟩
      | ow o=>cases e;obtain⟨w,e1,e2⟩:=E.own i _ q;exact⟨w,e1,e2.rep sub hn⟩
    ·rw[NO (by rw[MW];omega)]at e;cases e
   ·rw[L8 hj]at e
    obtain⟨w,e1,e2⟩:=E.val j t e;exact⟨w,e1,e2.less sub⟩
  ·by_cases hj:i=j
   ·subst hj
    by_cases hl:i<Z.length
    ·rw[L4 hl]at e
     cases q:Z[i]? with
     | none=>rw[q]at e;cases e
     | some z=>
      rw[q]at e
      cases z with
      | em=>cases e
      | va t'=>cases e
      | ow o=>cases e
    ·rw[NO (by rw[MW];omega)]at e;cases e
   ·rw[L8 hj]at e
    obtain⟨w,e1,e2⟩:=E.own j o e;refine⟨w,e1,?_⟩
    rw[Mn.KH (λz=>hj z.symm)]
    exact e2.move (P:=zq) (λ_ z=>z.elim) (λa z=> .inl (sub a z)) (λb u q _=>q) λ_ _ z=>z
  ·unfold Mn.set at z
   by_cases hj:j=i
   ·rw[if_pos hj]at z;exact z.elim
   ·rw[if_neg hj]at z;exact hin j a hj z
  ·unfold Mn.set at z1 z2
   by_cases hj:j=i
   ·rw[if_pos hj]at z1;exact z1.elim
   ·by_cases hk:k=i
    ·rw[if_pos hk]at z2;exact z2.elim
    ·rw[if_neg hj]at z1;rw[if_neg hk]at z2;exact E.dis j k a z1 z2
 unfold Tr.disown
 cases q:Z[i]? with
 | none=>rw[q,List.set_eq_of_length_le (List.getElem?_eq_none_iff.mp q)]at base;exact base
 | some z=>
  rw[q]at base
  cases z with
  | em=>rw[uT q]at base;exact base
  | va t=>rw[uT q]at base;exact base
  | ow o=>exact base
theorem Ev.disown (E:Ev K B M H Z σ)(i:Nat):Ev K B (M.set i zq) H (disown i Z) σ/\∀a,(M.set i zq).u a->M.u a:=by
 have sub:∀a,(M.set i zq).u a->M.u a:=λa z=>(Mn.KD z).elim (λw=>w.elim) id
 refine⟨⟨E.env.disown i (λa z=>z.elim .inl λw=> .inr (sub a w)) (λa z y=> ?_) λj a hj z=> .inr ⟨j,by rw[Mn.KH hj];exact z⟩,λa z=>E.mine a (sub a z)⟩,sub⟩
 rcases y with y | ⟨j,y⟩
 ·exact E.mine a ⟨i,z⟩ y
 ·unfold Mn.set at y
  by_cases hj:j=i
  ·rw[if_pos hj]at y;exact y
  ·rw[if_neg hj]at y;exact hj (E.env.dis j i a y z)
end
section
variable {X:Cx}{a:Expr}{es:List Expr}{fa:En->Rs T}{pos p2 p3:Pos}{x:Str}
theorem Ev.subO {K:Lu}{B:Ow}{M:Mn}{H:Hp}{i:Nat}{m:Ow}(hm:∀a,m a->Nw K H a)(a:Addr)(z:OO B (M.set i m) a):OO B M a\/Nw K H a:=
 z.elim (λw=> .inl (.inl w)) λw=>(Mn.KD w).elim (λy=> .inr (hm a y)) λy=> .inl (.inr y)
theorem lR {K:Lu}{H H1:Hp}(s:Same H H1){a:Addr}(n:Nw K H1 a):Nw K H a:=(iW (SameO.of (P:=zq) s) n).elim (λz=>z.elim) id
def Iq (X:Cx)(t:TA):TE:=λσ H Q=>t σ H λxs H1=>xs.length<=sizeLine/\∀p,Nw X.K H1 p->Q (.ref p) (upd H1 p (.lst xs))
theorem DT {t:TA}(h:PA X es t):PE X (.List es pos) (Iq X t):=by
 intro pins s σ H Q I hq;refine R0 (cE (h pos pins s σ H _ I hq) λus s1 ⟨xs,H1,I1,r,z,q⟩=>⟨by rw[<-r.length];exact z,?_⟩)
 have hf:H1 s1.heap.objs.size=none:=I1.hok.fresh (LL _)
 have hk:X.K.lookup s1.heap.objs.size=none:=by
  cases q:X.K.lookup s1.heap.objs.size with
  | none=>rfl
  | some o=>exact absurd (LO (I1.kIn _ o q)) (L6 _)
 refine⟨.ref s1.heap.objs.size,upd H1 s1.heap.objs.size (.lst xs),I1.laid (t':=s1.toks) (λb u e=>LD _ e) (LL _) ?_,rfl,q _ ⟨hf,hk⟩⟩
 exact⟨z,us,0,r,LR _ rfl⟩
def hW (i:Nat)(f:En->Rs (List T))(Z:En):Rs Fl:=do
 let l <-f Z
 if i<Z.length/\l.length<=sizeLine then .ok (.nx (Z.set i (.ow (.lst l))))else .bad
theorem Dr (i:Nat){f:En->Rs (List T)}(hN:X.N.Nodup)(ha:qV X es f)(hi:X.N[i]? =some x:=by rfl)(hx:Loc X.env.scope x:=by first | exact MR rfl | exact MF rfl)(hs:MK (.List es p2) (some (.Name x p3)) pos.line X.env=pure false:=by rfl)
  (hf:X.fn x=true\/X.env.scope.names.lookup x=some .local:=by first | exact .inl rfl | exact .inr rfl | assumption):qh X (.Assign [.Name x p3] (.List es p2) pos) (hW i f):=PS.imp (oU hN hi hx (DT ha) hs hf) λD σ H hh_=>by
 obtain⟨Z,B,M,E,h⟩:=hh_;refine⟨Z,OO B M,E.o,?_⟩
 unfold hW at h
 cases q:f Z with
 | bad=>rw[q]at h;exact h.elim
 | err c=>rw[q]at h;exact PostF.xa h
 | ok l=>
  rw[q,aH]at h;intro H1 s1 vs rs
  by_cases hl:i<Z.length/\l.length<=sizeLine
  ·rw[if_pos hl]at h
   refine⟨by rw[<-rs.length];exact hl.2,λp hp=> ?_⟩
   have hm:∀a,a=p->Nw X.K H1 a:=λa z=>z▸hp
   obtain⟨E2,sub⟩:=(E.same s1).new (m:=λa=>a=p) (o:=.lst l) (v:=.ref p) (H':=upd H1 p (.lst vs)) hl.1 hm (a9 hp.1 _) ⟨p,vs,rfl,λb=>PN,aJ,(rs.more (Ev.subO hm)).same (a9 hp.1 _)⟩
   exact h _ _ _ (SameO.of (s1.trans (a9 hp.1 _))) E2 λa z=>(sub a z).imp_right (lR s1)
  ·rw[if_neg hl]at h
   exact h.elim
def g9 (i:Nat)(f:En->Rs T)(Z:En):Rs Fl:=match Z[i]? with
 | some (.ow (.lst l))=>f Z >>= λt=>if l.length<sizeLine then .ok (.nx (Z.set i (.ow (.lst (l++ [t])))))else .bad
 | _=> .bad
theorem Ev.putL {K:Lu}{B:Ow}{M:Mn}{H:Hp}{Z:En}{σ:L2.St}{i:Nat}{o:OT}{l':List T}{b:Addr}{vs':List V}(E:Ev K B M H Z σ)(hi:Z[i]? =some (.ow o))(hs:σ[i]? =some (some (.ref b)))(hM:∀c,M i c↔c=b)(r:Reps K (OO B M) H l' vs') :
  Ev K B M (upd H b (.lst vs')) (Z.set i (.ow (.lst l'))) σ/\SameO M.u H (upd H b (.lst vs')):=by
 have sm:SameO (M i) H (upd H b (.lst vs')):=λc u e nb=>by rw[aI (λz=>nb ((hM c).mpr z))];exact e
 exact E.put hi hs sm ⟨b,vs',rfl,hM,aJ,r.move (P:=M i) (λa z=> .inl (.inr ⟨i,z⟩)) (λa z=> .inl z) sm⟩
theorem Gx (i:Nat){apos cpos:Pos}(ha:cY X a fa)(hN:X.N[i]? =some x:=by rfl)(hv:sd X.env.scope x:=by first | exact MR rfl | exact MF (MR rfl) | exact MF (MF rfl))(hn:bz a=true:=by rfl)
  (hbase:MY (.Name x p2) "append" X.env (eval (.Name x p2) X.env)=eval (.Name x p2) X.env:=by rfl) (hline:(apos.endLine == cpos.line)=true:=by rfl)
  (hd:gE x:=by decide) (hcd:(x == ("__classdict__" : Str))=false:=by decide)
  (hsw:MK (.Call (.Attribute (.Name x p2) "append" apos) [a] [] cpos) none pos.line X.env=pure false:=by rfl):qh X (.Expr (.Call (.Attribute (.Name x p2) "append" apos) [a] [] cpos) pos) (g9 i fa):=by
 have h1:LP [a] X.env=(false,eval a X.env)::LP [] X.env:=ba hn;refine PS.imp (nX (vj M4 PySem.F.slot_list_append PySem.F.type_list_append rF (iu hN hv hd hcd) (bx ha dR h1) hbase ?_ hline h1 rfl) hsw) λD σ H ⟨Z,B,M,E,h⟩=> ?_
 ·rw[h1];rfl
 unfold g9 at h
 split at h
 ·rename_i l hl
  obtain⟨v0,e1,b,vs,rfl,hM,e3,e4⟩:=E.env.own i _ hl;refine⟨.ref b,e1,.inl ⟨rfl,vs,SqL.of e3⟩,Z,OO B M,E.o,?_⟩
  cases q:fa Z with
  | bad=>rw[q]at h;exact h.elim
  | err c=>rw[q]at h;exact PostF.xa h
  | ok t=>
   rw[q,aH]at h
   split at h
   ·rename_i hz
    intro H1 s1 v r
    have e3':=s1 _ _ e3;refine⟨b,vs,v,rfl,rfl,e3',by rw[<-e4.length];exact hz,?_⟩
    obtain⟨g1,g2⟩:=(E.same s1).putL (l':=l++ [t]) (vs':=vs++ [v]) hl e1 hM ((e4.same s1).append (Reps.FS r Reps.GE));exact h σ _ M (λc o e nb=>g2 c o (s1 _ _ e) nb) g1 λc z=> .inl z
   ·exact h.elim
 ·exact h.elim
def HG (i:Nat)(l:List T)(Z:En):T->Rs Fl
 | .lst m=>if l.length+m.length<=sizeLine then .ok (.nx (Z.set i (.ow (.lst (l++m)))))else .bad
 | _=> .bad
def oS (i:Nat)(f:En->Rs T)(Z:En):Rs Fl:=match Z[i]? with
 | some (.ow (.lst l))=>f Z >>= HG i l Z
 | _=> .bad
theorem Gu (i:Nat){apos cpos:Pos}(ha:cY X a fa)(hN:X.N[i]? =some x:=by rfl)(hv:sd X.env.scope x:=by first | exact MR rfl | exact MF (MR rfl) | exact MF (MF rfl))(hn:bz a=true:=by rfl)
  (hbase:MY (.Name x p2) "extend" X.env (eval (.Name x p2) X.env)=eval (.Name x p2) X.env:=by rfl) (hline:(apos.endLine == cpos.line)=true:=by rfl)
  (hd:gE x:=by decide) (hcd:(x == ("__classdict__" : Str))=false:=by decide)
  (hsw:MK (.Call (.Attribute (.Name x p2) "extend" apos) [a] [] cpos) none pos.line X.env=pure false:=by rfl):qh X (.Expr (.Call (.Attribute (.Name x p2) "extend" apos) [a] [] cpos) pos) (oS i fa):=by
 have h1:LP [a] X.env=(false,eval a X.env)::LP [] X.env:=ba hn;refine PS.imp (nX (vj M4 PySem.F.slot_list_extend PySem.F.type_list_extend zy (iu hN hv hd hcd) (bx ha dR h1) hbase ?_ hline h1 rfl) hsw) λD σ H ⟨Z,B,M,E,h⟩=> ?_
 ·rw[h1];rfl
 unfold oS at h
 split at h
 ·rename_i l hl
  obtain⟨v0,e1,b,vs,rfl,hM,e3,e4⟩:=E.env.own i _ hl;refine⟨.ref b,e1,.inl ⟨rfl,vs,SqL.of e3⟩,Z,OO B M,E.o,?_⟩
  cases q:fa Z with
  | bad=>rw[q]at h;exact h.elim
  | err c=>rw[q]at h;exact PostF.xa h
  | ok t=>
   rw[q,aH]at h;unfold HG at h
   split at h
   ·rename_i m
    split at h
    ·rename_i hz
     intro H1 s1 v r;obtain⟨c,ws,rfl,nO,hc,rm⟩:=Rep.Fk.mp r
     have e3':=s1 _ _ e3;refine⟨b,c,vs,ws,rfl,rfl,e3',hc,by rw[<-e4.length,<-rm.length];exact hz,?_⟩
     obtain⟨g1,g2⟩:=(E.same s1).putL (l':=l++m) (vs':=vs++ws) hl e1 hM ((e4.same s1).append rm);exact h σ _ M (λc o e nb=>g2 c o (s1 _ _ e) nb) g1 λc z=> .inl z
    ·exact h.elim
   ·exact h.elim
 ·exact h.elim
def lK (i:Nat)(F:En->Rs Fl)(Z:En):Rs Fl:=F (disown i Z)
theorem Gv (i:Nat){st:Stmt}{F:En->Rs Fl}(h:qh X st F):qh X st (lK i F):=PS.imp h λD σ H hh_=>by
 obtain⟨Z,B,M,E,q⟩:=hh_;obtain⟨E',sub⟩:=E.disown i;exact⟨disown i Z,B,_,E',PostF.later q (λ_ _ e _=>e) λa z=> .inl (sub a z)⟩
mutual
def T.nk (D:Bool):T->Bool
 | .scr _=>false
 | .dct _ ts=> !D&&nks D ts
 | .lst l=>D&&nks D l
 | .tup l=>nks D l
 | _=>true
def nks (D:Bool):List T->Bool
 | [] =>true
 | t::l=>t.nk D&&nks D l
end
mutual
theorem Rep.lend {K:Lu}{O O':Ow}{H:Hp}{D:Bool}(hk:∀a,O a->O' a\/if D then ∃kvs,Rd H a (.dT kvs)else ∃vs,H a=some (.lst vs)):∀{t:T} {v:V},t.nk D=true->Rep K O' H t v->Rep K O H t v
 | .non,_,_,r=>by unfold Rep at r ⊢;exact r
 | .bl _,_,_,r=>by unfold Rep at r ⊢;exact r
 | .int _,_,_,r=>by unfold Rep at r ⊢;exact r
 | .str _,_,_,r=>by unfold Rep at r ⊢;exact r
 | .tup l,_,h,r=>by
  unfold Rep at r ⊢;unfold T.nk at h;obtain⟨a,vs,e,n,q,z⟩:=r;refine⟨a,vs,e,λp=>(hk a p).elim n λw=> ?_,q,Reps.lend hk h z⟩
  split at w
  ·obtain⟨_,w | ⟨_,w⟩⟩:=w <;> rw[q]at w <;> cases w
  ·obtain⟨_,w⟩:=w;rw[q]at w;cases w
 | .lst l,_,h,r=>by
  unfold Rep at r ⊢;unfold T.nk at h;rw[LC]at h;obtain⟨h1,h2⟩:=h;subst h1;obtain⟨a,vs,e,n,q,z⟩:=r;refine⟨a,vs,e,λp=>(hk a p).elim n λw=> ?_,q,Reps.lend hk h2 z⟩
  rw[if_pos rfl]at w;obtain⟨_,w | ⟨_,w⟩⟩:=w <;> rw[q]at w <;> cases w
 | .scr l,_,h,r=>by unfold T.nk at h;cases h
 | .dct ks ts,_,h,r=>by
  unfold Rep at r ⊢;unfold T.nk at h;rw[LC]at h;obtain⟨h1,h2⟩:=h
  cases D with
  | true=>cases h1
  | false=>
   obtain⟨a,kvs,e,n,q,k,z⟩:=r;refine⟨a,kvs,e,λp=>(hk a p).elim n λw=> ?_,q,k,Reps.lend hk h2 z⟩
   rw[if_neg LX]at w;obtain⟨_,w⟩:=w;rcases q with q | ⟨_,q⟩ <;> rw[q]at w <;> cases w
theorem Reps.lend {K:Lu}{O O':Ow}{H:Hp}{D:Bool}(hk:∀a,O a->O' a\/if D then ∃kvs,Rd H a (.dT kvs)else ∃vs,H a=some (.lst vs)):∀{l:List T} {vs:List V},nks D l=true->Reps K O' H l vs->Reps K O H l vs
 | [],_,_,r=>by unfold Reps at r ⊢;exact r
 | t::l,_,h,r=>by
  unfold Reps at r ⊢;unfold nks at h;rw[LC]at h;obtain⟨v,ws,e,p,q⟩:=r;exact⟨v,ws,e,Rep.lend hk h.1 p,Reps.lend hk h.2 q⟩
end
def ln (i:Nat)(f:En->Rs T)(Z:En):Rs T:=match Z[i]? with
 | some (.ow o)=>f (disown i Z) >>= λt=>if t.nk o.isD=true then .ok t else .bad
 | _=>f Z
def Hg (i:Nat)(f:En->Rs Bool)(Z:En):Rs Bool:=f (disown i Z)
theorem sf {K:Lu}{O:Ow}{M:Mn}{H:Hp}{Z:En}{σ:L2.St}(E:EnvM K O M H Z σ)(i:Nat):EnvM K (λa=>O a/\¬ M i a) (M.set i zq) H (disown i Z) σ:=
 E.disown i (λa z=>z.1) (λa z y=>y.2 z) λj a hj z=>⟨E.sub j a z,λy=>hj (E.dis j i a z y)⟩
theorem q_ln (i:Nat){e:Expr}{f:En->Rs T}(h:cY X e f):cY X e (ln i f):=PE.imp h λσ H Q ⟨Z,O,⟨M,E⟩,q⟩=>by
 unfold ln at q
 split at q
 ·rename_i o hi
  refine⟨disown i Z,_,⟨_,sf E i⟩,?_⟩
  obtain⟨w,e1,r⟩:=E.own i o hi;refine Post.mono (Post.bind q) λt H' s q2 v rv=> ?_
  split at q2
  ·rename_i hk
   have kd:=(r.same s).kind;refine q2 H' (Same.refl _) v (Rep.lend (λa z=> ?_) hk rv)
   by_cases hm:M i a
   ·refine .inr ?_
    have this:=kd a hm
    by_cases hD:o.isD=true
    ·rw[if_pos hD]at this ⊢;exact this.imp λ_ z=> .inl z
    ·rw[if_neg hD]at this ⊢;exact this
   ·exact .inl ⟨z,hm⟩
  ·exact q2.elim
 ·exact⟨Z,O,⟨M,E⟩,q⟩
theorem IJ (i:Nat){e:Expr}{f:En->Rs Bool}(h:wy X e f):wy X e (Hg i f):=PT.imp h λσ H Q ⟨Z,O,⟨M,E⟩,q⟩=>⟨disown i Z,_,⟨_,sf E i⟩,q⟩
end
end Tr
namespace Tr
open PySem L2
def lq:List T->List T->List Key->Option T
 | k'::ks,v::vs,k=>if keyOf k'=some k then some v else lq ks vs k
 | _,_,_=>none
def hG (k v:T):List T->List T->List T×List T
 | k'::ks,v'::vs=>if keyOf k'=keyOf k then(k'::ks,v::vs)else(k'::(hG k v ks vs).1,v'::(hG k v ks vs).2)
 | _,_=>([k],[v])
def bB (x y:T):Rs T:=match x,keyOf y with
 | .dct ks vs,some k=>match lq ks vs k with
  | some t=> .ok t
  | none=> .bad
 | _,_=> .bad
def jv (x y:T):Rs T:=match x,keyOf y with
 | .dct ks vs,some k=>match lq ks vs k with
  | some t=> .ok t
  | none=> .ok .non
 | _,_=> .bad
def Cz (x y:T):Rs T:=match y,keyOf x with
 | .dct ks vs,some k=> .ok (.bl (lq ks vs k).isSome)
 | _,_=> .bad
def oD (g:T->T->Rs T)(fa fb:En->Rs T)(Z:En):Rs T:=fa Z >>= λx=>match x with
 | .dct ks vs=>fb Z >>= g (.dct ks vs)
 | _=> .bad
def oL (g:T->T->Rs T)(fa fb:En->Rs T)(Z:En):Rs T:=fa Z >>= λx=>match x with
 | .lst l=>fb Z >>= g (.lst l)
 | _=> .bad
def Ia:List T->Option (List (T×T))
 | [] =>some []
 | .tup [k,v] ::l=>match keyOf k,Ia l with
  | some _,some r=>some ((k,v)::r)
  | _,_=>none
 | _=>none
def jR:List (T×T)->List T×List T->List T×List T
 | [],d=>d
 | (k,v)::r,d=>jR r (hG k v d.1 d.2)
def yO:List T->Rs T
 | [.lst l] =>match Ia l with
  | some ps=>if l.length<=1000 then .ok (.dct (jR ps ([],[])).1 (jR ps ([],[])).2)else .bad
  | none=> .bad
 | _=> .bad
def ny:List T->Bool
 | [] =>true
 | k::l=>(keyOf k).isSome&&ny l
def rn (i:Nat)(f:En->Rs T)(Z:En):Rs Fl:=f Z >>= λt=>yO [t] >>= λd=>match d with
 | .dct ks vs=>if i<Z.length then .ok (.nx (Z.set i (.ow (.dct ks vs))))else .bad
 | _=> .bad
def zh (i:Nat)(fk fv:En->Rs T)(Z:En):Rs Fl:=match Z[i]? with
 | some (.ow (.dct ks vs))=>fv Z >>= λv=>fk Z >>= λk=>match keyOf k with
  | some _=>if ks.length<1000 then .ok (.nx (Z.set i (.ow (.dct (hG k v ks vs).1 (hG k v ks vs).2))))else .bad
  | none=> .bad
 | _=> .bad
def oR (i j:Nat)(Z:En):Rs Fl:=match Z[j]? with
 | some (.va (.lst l))=>if i<Z.length/\ny l=true/\(l.map keyOf).Nodup/\l.length<=1000 then .ok (.nx (Z.set i (.ow (.dd l (l.map λ_=>(l,l.map λ_=> .non))))))else .bad
 | _=> .bad
def qy:List T->List (List T×List T)->List Key->Option (List T×List T)
 | k'::ks,r::rs,k=>if keyOf k'=some k then some r else qy ks rs k
 | _,_,_=>none
def qx (k:List Key)(x:List T×List T):List T->List (List T×List T)->List (List T×List T)
 | k'::ks,r::rs=>if keyOf k'=some k then x::rs else r::qx k x ks rs
 | _,rs=>rs
def jo (i:Nat)(fa fb fv:En->Rs T)(Z:En):Rs Fl:=match Z[i]? with
 | some (.ow (.dd ks rows))=>fv Z >>= λv=>fa Z >>= λa=>match(keyOf a).bind λka=>(qy ks rows ka).map λr=>(ka,r)with
  | some (ka,r)=>fb Z >>= λb=>if (keyOf b).isSome=true/\r.1.length<1000 then .ok (.nx (Z.set i (.ow (.dd ks (qx ka (hG b v r.1 r.2) ks rows)))))else .bad
  | none=> .bad
 | _=> .bad
def lS:List T->Option (List Int)
 | [] =>some []
 | .int i::l=>(lS l).map (i:: ·)
 | _=>none
def ku (x:T):List T->Nat->Option Nat
 | [],_=>none
 | t::l,n=>if bo t x then some n else ku x l (n+1)
def ig (y x:T):Rs T:=match y with
 | .lst l=>if (x.dep<=60\/deps l<=60)/\x.nd=true/\nds l=true then match ku x l 0 with
   | some n=> .ok (.int n)
   | none=> .bad
  else .bad
 | _=> .bad
def wN (ms:List (List T->Rs T))(f0:En->Rs T)(fs:En->Rs (List T))(Z:En):Rs T:=f0 Z >>= λk=>match k with
 | .int i=>match L2.atI ms i with
  | some m=>fs Z >>= m
  | none=> .bad
 | _=> .bad
def iZ (f:En->Rs (List T))(Z:En):Rs (List T):=f Z >>= λx=>match x with
 | [a,b] =>match a.items,b.items with
  | some l,some m=> .ok ((l.zip m).map λp=> .tup [p.1,p.2])
  | _,_=> .bad
 | _=> .bad
def FU:Nat:=1000000000000
end Tr
namespace Tr
open PySem PySem.Spec PyProof.Rows L2
theorem iy {h b b':Heap}:∀{l:List Env},h.FunFrames b l->(∀a∈l.filterMap (·.frame),b'.get? a=none)->h.FunFrames b' l
 | [],_,_=>trivial
 | env::dk,⟨hk,⟨L,o,hf,hn,ho,hd⟩,hr⟩,q=>by
  rw[Nc,hf]at q;exact⟨hk,⟨L,o,hf,q L Lz,ho,hd⟩,iy hr λa ha=>q a (Lw _ ha)⟩
section
variable {M:TQ}{A:Mh}{E:Ly->LB->Prop}{s:LB}
structure ER (fs:List Addr)(C e:Addr)(T:Option Addr)(h h':Heap)(T':Addr):Prop where
 flt:J8 h' C e (some T')
 new:T=some T'\/h.get? T'=none
 keep:∀b o,b∉fs->b≠e->T≠some b->h.get? b=some o->h'.get? b=some o
 slot:∀b o,b∈fs->h.get? b=some o->∃sl,h'.get? b=some { o with slots:=sl }
theorem Hh {base:Heap}{env:Env}{outer:List Env}{L C e:Addr}{T:Option Addr}{Q:Unit->LB->Prop}(hfr:A.frames=some (env::outer))(hl:s.heap.FunFrames base (env::outer))(hf:env.frame=some L)
  (F:J8 s.heap C e T) (h:∀h' T',ER ((env::outer).filterMap (·.frame)) C e T s.heap h' T'->Q () { s with heap:=h' }):wpAny M A (leaving env (.ref e)) Q E s:=by
 generalize hB:QU s.heap (e::(T.toList++(env::outer).filterMap (·.frame)))=B
 have bm:∀b,b∈e::(T.toList++(env::outer).filterMap (·.frame))->B.get? b=none:=λb m=>by rw[<-hB];exact PB _ m
 have hl':s.heap.FunFrames B (env::outer):=iy hl λa ha=>bm a (Lw _ (L3 _ ha))
 have hst:B.StaysIn s.heap:=λb o q=>by rw[<-hB]at q;exact P6 _ q
 have hen:B.get? e=none:=bm e Lz
 have main:∀h',Heap.Left B (env::outer) e (.ref C) s.heap h'->Q () { s with heap:=h' }:=λh' ⟨x1,x2,⟨oe,vs,T',oT,ts,he,hc,hd,h1,hnT,hTe,hT,hdT,h3⟩,x4⟩=>by
  refine h h' T' ⟨⟨hTe,oe,vs,he,hc,hd,h1,oT,ts,hT,hdT,h3⟩,?_,λb o n1 n2 n3 q=> ?_,λb o m q=> ?_⟩
  ·cases q:s.heap.get? T' with
   | none=>exact .inr rfl
   | some o=>
    left
    by_cases z:T'∈e::(T.toList++(env::outer).filterMap (·.frame))
    ·rcases LH.mp z with z | z
     ·exact absurd z hTe
     ·rcases Mb.mp z with z | z
      ·cases T with
       | none=>simp at z
       | some t=>simp at z;rw[z]
      ·obtain⟨_,o',ho',hnf⟩:=x2.mem z
       rw[hT]at ho';cases ho';exact absurd hdT (hnf ts)
    ·rw[<-hB,N3 _ q z]at hnT;cases hnT
  ·refine x1 b o ?_
   rw[<-hB];refine N3 _ q λz=> ?_
   rcases LH.mp z with z | z
   ·exact n2 z
   ·rcases Mb.mp z with z | z
    ·cases T with
     | none=>simp at z
     | some t=>simp at z;exact n3 (by rw[z])
    ·exact n1 z
  ·obtain⟨_,o',ho',hnf⟩:=hl.mem m
   rw[q]at ho';cases ho';exact x4 b o q hnf
 cases T with
 | none=>
  obtain⟨oe,vs,he,hc,hd,h1⟩:=F;refine wpAny_leaving_first hfr hl' hf he hst hen hd h1 λh' x=>main h' ?_
  rw[hc]at x;exact x
 | some t=>
  obtain⟨hte,oe,vs,he,hc,hd,h1,oT,ts,hT,hdT,h3⟩:=F;exact wpAny_leaving_next hfr hl' hf ⟨oe,vs,t,oT,ts,he,hc,hd,h1,bm t (Lw _ (Mm _ (by simp))),hte,hT,hdT,h3⟩ hst hen main
end
abbrev nT:List Ly:=[.type "ValueError",.type "Exception",.type "BaseException",.type "object"]
structure OwnExc (K:Lu)(C:Addr)(bm:List Ly):Prop where
 at_:∀h:Heap,K.In h->∃nm q N bs hdct sn sub ab col dd k0 k1 k2 k3 k5 mN,h.get? C=some (MU nm q C N bs bm hdct sn sub ab col dd k0 k1 k2 k3 k5 "ValueError.__new__")/\h.Ns N mN/\mN "__init__" =none/\OwnTail h nT bm
theorem OwnExc.base {K:Lu}{C:Addr}{bm:List Ly}(O:OwnExc K C bm){h:Heap}(k:K.In h):bm.contains (.type "BaseException")=true:=by
 obtain⟨_,_,_,_,_,_,_,_,_,_,_,_,_,_,_,_,_,_,_,T⟩:=O.at_ h k;exact T.hasType (by decide)
def AI (c:Str)(_:En):Rs Fl:=.err c
section
variable {X:Cx}
theorem AU {c:Str}{msg:Str}{C:Addr}{bm:List Ly}{np p1 cpos pos:Pos}{j:Nat}(O:OwnExc X.K C bm)(hc:X.calm=true)(hm:X.mg c=some (.ref C))(hg:Gl X c:=by rfl)(hd:gE c:=by decide) :
  qh X (.Raise (some (.Call (.Name c np) [.Constant (.str msg) j p1] [] cpos)) none pos) (AI c):=by
 intro pins s σ H D I ⟨Z,B,M,E,k⟩
 have k:XA X M.u H c:=k;obtain⟨nm,q,N,bs,hdct,sn,sub,ab,col,dd,k0,k1,k2,k3,k5,mN,hC,hN,hni,T⟩:=O.at_ s.heap I.kIn;refine wpAny_Raise_call_subU (C:=C) (mN:=mN) (nm:=nm) (q:=q) (N:=N) (bs:=bs) (hdct:=hdct) (sn:=sn) (sub:=sub) (ab:=ab) (col:=col) (dd:=dd) (k0:=k0) (k1:=k1) (k2:=k2) (k3:=k3) (k5:=k5) P2 (Bn:="ValueError") (by decide) P2 (O.base I.kIn) (I.ok.hd hc) (by rfl) hni (i7 I hg hm ⟨rfl,?_⟩ hd)
 show wpAny _ _ (evalArgs (.ref C) true ((false,eval (.Constant (.str msg) j p1) X.env)::backTo cpos (LP [] X.env)) []) _ _ s
 refine Ot (OR (RJ (Pb ?_)))
 refine⟨rfl,by show 1<=sizeLine;decide,hC,hN,T,λh' e hm'=>k pins _ _ ?_⟩
 obtain⟨t,ht,ht2,ht3⟩:=hm'.there
 have I':Inv X pins σ H { s with heap:=h',toks:=s.toks+1 }:=I.kept (t':=s.toks+1) λb o z=>hm'.keeps b o z
 refine⟨e,none,C,σ,H,rfl,hm,I',λb o z _=>z,?_,?_,⟨_,_,ht,rfl,rfl,rfl⟩,(λt z=>by cases z),λp hp=>⟨λz=> ?_,λz=>by cases z⟩⟩
 ·exact pq I hm'.new
 ·exact λhex=>k8 I hex hm'.new
 ·have:=(I.pin p hp).1
  rw[z,show s.heap.get? e=none from hm'.new]at this
  cases this
end
section
variable {P:L1}{w:MG}{K:Lu}{mg:Str->Option Ly}{base:Heap}
theorem HD {x qual:Str}{st:Stmt}{f:Addr}{fd:MP}{N ps:List Str}{k n:Nat}{g:List T->Rs T}(Fn:L2.Fun K x qual st f fd)(S:aE N ps (aq st))(hn:ps.length=n)
  (hbody:∀(cdv:Ly) (A:Mh) (outer:List Env) (s:LB) (H:Hp) (E:XK),Room k (A.deeper (envOfC qual (aq st) s.heap.objs.size f cdv)) →
   ∃F,(∀xe,mZ ((ml CX0 P w K mg base N qual (aq st) f cdv A outer s H E).FB xe) (du st) F)/\∀ts,ts.length=n->∀c,g ts= .err c->F (aV N.length ts)= .err c):FnX P w K mg base (k+1) f fd ps n g:=by
 intro A outer s H args us vs O ts c R hr e0 hb r rs trk hl hg hR
 have hpl:ps.length<=N.length:=by have:=congrArg MD S.pre;rw[MX]at this;omega
 obtain⟨oc,od,kV,doc,pm,an,cdv,ct,osl,rfl,lk,hcd⟩:=Fn.ex
 have hlen:vs.length=ps.length:=by rw[<-rs.length,hl,hn]
 have KX:K.In s.heap:=e0.mod.kin.keeps λb o e=>(e0.bs b o e).1
 have lim:s.heap.NoLimit:=e0.mod.nolimit.keeps λb o e=>(e0.bs b o e).1
 have hkind:∀y∈ps.zip us,(aq st).names.lookup y.1=some .local\/((aq st).names.lookup y.1=some .cell/\((NP (s.heap.objs.size+1) (aq st).names []).lookup y.1).isSome=true):=λ⟨n,v⟩ hy=>by
  rcases S.par n (OS hy).1 with q | q
  ·exact .inl q
  ·exact .inr ⟨q,N9 _ _ _ (.inl q)⟩
 refine Pu hr.depth (KX _ _ lk) rfl S.co S.gen rfl (P7 KX hcd) (hb _ _ _ _ ?_)
 refine Os S.kind hkind λenv he s1 x=> ?_
 subst he;refine⟨lim.keeps x.toInCall.keep,SL ?_⟩
 obtain⟨F,hF,hv⟩:=hbody cdv A outer s H E0 (hr.deeper _)
 let xe:Ly->LB->Prop:=λev s'=>wpAny (model P w) (A.deeper (envOfC qual (aq st) s.heap.objs.size f cdv)) (leaving (envOfC qual (aq st) s.heap.objs.size f cdv) ev) (λ_ s''=>R (.error ev) s'') (λe' s''=>R (.error e') s'') s'
 have I:Inv ((ml CX0 P w K mg base N qual (aq st) f cdv A outer s H E0).FB xe) [] (start N vs) H s1:=(mS S hr.hd e0 hlen r x).FB _
 have no:∀a,¬noM.u a:=λa ⟨_,z⟩=>z
 refine Nh (hF xe [] s1 (start N vs) H { nx:=λ_ _=>False,rt:=λ_ _=>False,bk:=λ_ _=>False,ct:=λ_ _=>False } I ⟨aV N.length ts,O,noM,ri rs (by omega) trk,?_⟩) (λfl s' z=> ?_) λe s' hs=>hs
 rotate_left
 ·cases fl with
  | next=>obtain⟨_,_,_,z⟩:=z;exact z.elim
  | cont=>obtain⟨_,_,_,z⟩:=z;exact z.elim
  | brk=>obtain⟨_,_,_,z⟩:=z;exact z.elim
  | ret v=>obtain⟨_,_,_,_,_,z⟩:=z;exact z.elim
 rw[hv ts hl c hg];intro pins ev s' w'
 show wpAny _ _ _ _ _ _
 obtain⟨e,T,C,σ',H',rfl,hm,I',sm,he,heo,fl,hT,_⟩:=w'
 have heo:=heo rfl
 have hT:∀t,T=some t->H' t=none/\s.heap.get? t=none:=λt z=>⟨(hT t z).1,(hT t z).2 rfl⟩
 refine Hh (base:=base) (outer:=outer) (L:=s.heap.objs.size) I'.ok.frames I'.stack rfl fl λh' T' g=>hR _ _ ?_
 have hex:((ml CX0 P w K mg base N qual (aq st) f cdv A outer s H E0).FB xe).ex= []:=rfl
 have Tn:H' T'=none/\s.heap.get? T'=none:=by
  rcases g.new with z | z
  ·exact hT T' z
  ·exact⟨pq I' z,k8 I' hex z⟩
 have out:∀b o,s.heap.get? b=some o->b≠s.heap.objs.size:=λb o q z=>by
  have:=LO q;rw[z]at this;exact absurd this (L6 _)
 have mem:∀b,b∈pO ((envOfC qual (aq st) s.heap.objs.size f cdv)::outer)->b=s.heap.objs.size\/b∈pO outer:=λb z=>by
  have z':b∈s.heap.objs.size::pO outer:=z;exact LH.mp z'
 have ne:∀b o,s.heap.get? b=some o->b≠e/\T≠some b:=λb o q=>⟨λz=>(by subst z;rw[show s.heap.get? b=none from heo]at q;cases q),λz=>(by rw[show s.heap.get? b=none from(hT b z).2]at q;cases q)⟩
 have keepH:∀b u,H' b≠none->s'.heap.get? b=some u->h'.get? b=some u:=λb u hb q=>by
  refine g.keep b u (λz=>hb (I'.Kz b z)) (λz=>hb (by rw[z];exact he)) (λz=>hb (hT b z).1) q
 refine⟨e,T',C,H',rfl,hm,I'.os,I'.bare,⟨λb o q n hb hx=> ?_,λb o q n hb hx=> ?_,λb o q n hx=>I'.base.free b o q n hx,λb o q hx=> ?_,I'.base.tups,I'.base.frzs,I'.base.tbls⟩,λa o q=> ?_,λb o q=>sm b o q (no b),he,heo,g.flt,Tn.1,Tn.2⟩
 ·exact g.keep b o (λz=>(mem b z).elim (out b o q) hb) (ne b o q).1 (ne b o q).2 (I'.base.keep b o q n hb hx)
 ·obtain⟨sl,q1⟩:=I'.base.slot b o q n hb hx
  obtain⟨sl',q2⟩:=g.slot b _ (Lw _ hb) q1;exact⟨sl',q2⟩
 ·obtain⟨o',q1⟩:=I'.base.there b o q hx
  by_cases z:b∈pO ((envOfC qual (aq st) s.heap.objs.size f cdv)::outer)
  ·obtain⟨sl,q2⟩:=g.slot b o' z q1
   exact⟨_,q2⟩
  ·exact⟨o',g.keep b o' z (ne b o q).1 (ne b o q).2 q1⟩
 ·refine(I'.hok a o q).KC (λb u hb z=>keepH b u ?_ z) (λ_ z=>z) λ_ _ z=>z
  rcases hb with rfl | hb
  ·rw[q];simp
  ·rw[hb];simp
end
theorem C4 {n m:Nat}{F:En->Rs Fl}{ts:List T}{c:Str}(h:val n m F ts= .err c):F (aV m ts)= .err c:=by
 unfold val at h
 split at h
 ·unfold bU at h
  cases z:F (aV m ts)with
  | bad=>rw[z]at h;cases h
  | err c'=>rw[z]at h;cases h;rfl
  | ok f=>
   rw[z,aH]at h;cases f <;> cases h
 ·cases h
section
variable {P:L1}{w:MG}{K:Lu}{mg:Str->Option Ly}{base:Heap}
theorem HF {x qual:Str}{st:Stmt}{f:Addr}{fd:MP}{N ps:List Str}{k n:Nat}{F:En->Rs Fl}(Fn:L2.Fun K x qual st f fd)(S:aE N ps (aq st))(hn:ps.length=n)
  (hbody:∀(cdv:Ly) (A:Mh) (outer:List Env) (s:LB) (H:Hp) (E:XK),Room k (A.deeper (envOfC qual (aq st) s.heap.objs.size f cdv)) →
   ∀xe,mZ ((ml CX0 P w K mg base N qual (aq st) f cdv A outer s H E).FB xe) (du st) F):Ak P w K mg base (k+1) f fd ps n (val n N.length F):=
 ⟨JV Fn S hn λcdv A outer s H E hr=>⟨F,hbody cdv A outer s H E hr _,λts _ _ h=>FJ h⟩,HD Fn S hn λcdv A outer s H E hr=>⟨F,hbody cdv A outer s H E hr,λts _ c h=>C4 h⟩⟩
end
section
variable {X:Cx}{k n:Nat}{f:Addr}{fd:MP}{ps:List Str}{g:List T->Rs T}{pins:List (Addr×Obj)}{σ:L2.St}{H:Hp}{s:LB}{us:List Ly}{vs:List V}{ts:List T}{O:Ow}{Q:VK}
theorem IB (F:Ak X.prog X.w X.K X.mg X.base k f fd ps n g)(hr:Room k X.A)(hb:Binds X.K fd ps [])(hps:ps.length=n)(I:Inv X pins σ H s)(r:Vals vs us)(rs:Reps X.K O H ts vs)(mt:∀a,O a->Mtb H a)(hl:ts.length=n)
  (hq:Post X H (g ts) λt H'=> ∀v,Rep X.K O H' t v->Q v H'):wpAny (model X.prog X.w) X.A (call (.ref f) us) (EP X pins σ Q) X.xe s:=by
 cases q2:g ts with
 | bad=>rw[q2]at hq;exact hq.elim
 | ok t=>
  rw[q2]at hq;refine wW (E:=E0) (dvs:=[]) (ds:=[]) F.h hr hb .nil ye I r ⟨ts,O,by simpa using rs,mt,hl,?_⟩
  rw[q2]
  exact λv H' s2 rr=>hq H' s2 v rr
 | err c=>
  rw[q2]at hq
  have hlen:us.length=ps.length:=by rw[<-r.length,<-rs.length,hl,hps]
  have hb':=hb s us I.kIn (by rw[Mj];exact hlen)
  rw[Mj]at hb';refine Sr (Pt (F.x X.A X.stack s H ⟨us,[]⟩ us vs O ts c (λr s'=>match r with | .error ev=>X.xe ev s' | _=>False) hr I.KU hb' r rs mt hl q2 λev s' w=> ?_) λr s' hq=> ?_)
  ·obtain⟨ea,T,C,H',rfl,hmc,ho,hbare,hun,hok,sm2,hea,heo,fl,hT,hTo⟩:=w
   have I2:Inv X pins σ H' s':=I.KN ho hun hok hbare (λb z=>absurd z (by simp))
   exact hq pins _ _ ⟨ea,some T,C,σ,H',rfl,hmc,I2,λb o q _=>sm2 b o q,hea,λhex=>k8 I hex heo,fl,(λt zt=>by cases zt;exact⟨hT,λhex=>k8 I hex hTo⟩),λpp hpp=>⟨λzz=>(by have:=(I.pin pp hpp).1;rw[zz,heo]at this;cases this),λzz=>(by cases zz;have:=(I.pin pp hpp).1;rw[hTo]at this;cases this)⟩⟩
  ·cases r with
   | error ev=>exact hq
   | ok fl=>exact hq.elim
inductive Sels (X:Cx) (n:Nat):List Expr->List Addr->List (List T->Rs T)->Prop
 | nil:Sels X n [] [] []
 | cons {x:Str} {p:Pos} {es:List Expr} {as:List Addr} {gs:List (List T->Rs T)} {k:Nat} {f:Addr} {fd:MP} {ps:List Str} {g:List T->Rs T}:Ak X.prog X.w X.K X.mg X.base k f fd ps n g->Room k X.A->X.mg x=some (.ref f)->Nk X.K (.ref f)=true->Binds X.K fd ps []->ps.length=n->Gl X x->(x == ("__debug__" : Str))=false →
   Sels X n es as gs->Sels X n (.Name x p::es) (f::as) (g::gs)
theorem seln:Sels X n [] [] []:=.nil
theorem selc {x:Str}{p:Pos}{es:List Expr}{as:List Addr}{gs:List (List T->Rs T)}(F:Ak X.prog X.w X.K X.mg X.base k f fd ps n g)(hr:Room k X.A)(hm:X.mg x=some (.ref f))(hk:Nk X.K (.ref f)=true)(hb:Binds X.K fd ps [])(h:Sels X n es as gs)(hps:ps.length=n:=by rfl)(hg:Gl X x:=by rfl)(hd:gE x:=by decide) :
  Sels X n (.Name x p::es) (f::as) (g::gs):=.cons F hr hm hk hb hps hg hd h
theorem Sels.pa:∀{es:List Expr} {as:List Addr} {gs:List (List T->Rs T)},Sels X n es as gs->PA X es (λσ H Q=>Q (as.map V.ref) H)
 | _,_,_,.nil=>λpos pins s σ H Q I h=>dR pos pins s σ H Q I h
 | _,_,_,.cons F hr hm hk hb hps hg hd h=>λpos pins s σ H Q I q=>bx (sW (v:=.ref _) hg hm rfl hd) h.pa (ba rfl) pos pins s σ H Q I q
theorem Sels.len:∀{es:List Expr} {as:List Addr} {gs:List (List T->Rs T)},Sels X n es as gs->as.length=gs.length
 | _,_,_,.nil=>rfl
 | _,_,_,.cons _ _ _ _ _ _ _ _ h=>by rw[LG,LG,h.len]
theorem Sels.at_:∀{es:List Expr} {as:List Addr} {gs:List (List T->Rs T)},Sels X n es as gs->∀{j:Nat} {g:List T->Rs T},gs[j]? =some g->∃f fd ps k,as[j]? =some f/\Ak X.prog X.w X.K X.mg X.base k f fd ps n g/\Room k X.A/\Nk X.K (.ref f)=true/\Binds X.K fd ps []/\ps.length=n
 | _,_,_,.nil,j,g,e=>by simp at e
 | _,_,_,.cons F hr hm hk hb hps hg hd h,0,g,e=>by simp at e;subst e;exact⟨_,_,_,_,rfl,F,hr,hk,hb,hps⟩
 | _,_,_,.cons F hr hm hk hb hps hg hd h,j+1,g,e=>by
  obtain⟨f,fd,ps,k,e1,r⟩:=h.at_ (j:=j) (by simpa using e)
  exact⟨f,fd,ps,k,by simpa using e1,r⟩
theorem oy {M:TQ}{A:Mh}{E:Ly->LB->Prop}{s:LB}{env:Env}{a b:Expr}{p pos:Pos}{args:List Expr}{Q:Ly->LB->Prop}
  (h:wpAny M A (eval (.Subscript a b p) env) (λf s₁=>wpAny M A (callWith pos f [] (backTo pos (LP args env)) (R1 pos (PX [] env))) Q E s₁) E s) :
  wpAny M A (eval (.Call (.Subscript a b p) args [] pos) env) Q E s:=by
 rw[show eval (.Call (.Subscript a b p) args [] pos) env=(do callWith pos (<-eval (.Subscript a b p) env) [] (backTo pos (LP args env)) (R1 pos (PX [] env)))from rfl]
 exact Lv h
theorem CG {α β:Type}{xs:List α}{ys:List β}{i:Int}{y:β}(hl:xs.length=ys.length)(h:L2.atI ys i=some y):∃j:Nat,ys[j]? =some y/\∀x,xs[j]? =some x->L2.atI xs i=some x:=by
 unfold L2.atI at h ⊢;rw[hl]
 cases q:ixN ys.length i with
 | none=>rw[q]at h;cases h
 | some j=>rw[q]at h;exact⟨j,h,λx e=>e⟩
theorem IT {es args:List Expr}{a0 i0:Expr}{p1 p2 pos:Pos}{as:List Addr}{gs:List (List T->Rs T)}{f0:En->Rs T}{fs:En->Rs (List T)}(S:Sels X n es as gs)(h0:cY X i0 f0)(hl:∀Z ts,fs Z= .ok ts->ts.length=n)(ha:qV X (a0::args) fs)
  (hn:bD (a0::args)=true:=by rfl) (hs:kA i0:=by intro _ _;rfl) (hz:es.length<=100:=by decide):cY X (.Call (.Subscript (.List es p1) i0 p2) (a0::args) [] pos) (wN gs f0 fs):=by
 intro pins s σ H Q I ⟨Z,O,E,hq⟩
 have hes:as.length<=sizeLine:=by
  have:∀{es:List Expr} {as:List Addr} {gs:List (List T->Rs T)},Sels X n es as gs->es.length=as.length:=by
   intro es as gs h
   induction h with
   | nil=>rfl
   | cons _ _ _ _ _ _ _ _ _ ih=>rw[LG,LG,ih]
  rw[<-this S,NG];omega
 have hq':Post X H (f0 Z >>= λk=>match k with | .int i=>(match L2.atI gs i with | some m=>fs Z >>= m | none=> .bad) | _=> .bad) λt H'=> ∀v,Rep X.K O H' t v->Q v H':=hq
 refine oy (cE (Jk ix_list (sV S.pa) h0 hs pins s σ H (λv H'=> ∃(i:Int) (m:List T->Rs T) (j:Nat),L2.atI gs i=some m/\gs[j]? =some m/\(∀x,as[j]? =some x->v= .ref x)/\Same H H'/\Post X H' (fs Z >>= m) λt H'=> ∀v,Rep X.K O H' t v->Q v H') I ?_) λf s1 r=> ?_)
 ·refine⟨by rw[LA];exact hes,λl hl0=> ?_⟩
  have E1:=E.same (a9 hl0 (.lst (as.map V.ref)))
  have s1:Same H (upd H l (.lst (as.map V.ref))):=a9 hl0 _;refine⟨Z,O,E1,Post.mono (Post.bind (Post.later hq' s1)) λt H2 s2 q2 v rv=> ?_⟩
  cases t with
  | int i=>
   have hv:=Rep.Da.mp rv;subst hv;simp only at q2
   cases z:L2.atI gs i with
   | none=>rw[z]at q2;exact q2.elim
   | some m=>
    rw[z]at q2;obtain⟨j,z1,z2⟩:=CG (xs:=as) S.len z;obtain⟨f,fd,ps,k,e1,_⟩:=S.at_ z1
    have z3:L2.atI (as.map V.ref) i=some (.ref f):=by
     have:=z2 f e1;unfold L2.atI at this ⊢;rw[LA]
     cases y:ixN as.length i with
     | none=>rw[y]at this;cases this
     | some j'=>
      rw[y]at this
      show(as.map V.ref)[j']? =_
      rw[LY]
      have:as[j']? =some f:=this;rw[this];rfl
    refine⟨l,as.map V.ref,i,.ref f,rfl,rfl,SqL.of (s2 _ _ aJ),z3,i,m,j,z,z1,λx ex=> ?_,s1.trans s2,q2⟩
    rw[e1]at ex;cases ex;rfl
  | _=>exact q2.elim
 ·obtain⟨v,H1,I1,rv,i,m,j,z,z1,hv,sm,q⟩:=r
  obtain⟨f',fd,ps,k,e1,F,hr,hk,hb,hps⟩:=S.at_ z1;cases hv f' e1;cases rv;unfold bD at hn;rw[LC]at hn;refine ON (h₀:=X.base) I.ok.mod.kin hk (cE (ha pos pins s1 σ H1 (λvs H'=> ∃ts,fs Z= .ok ts/\Reps X.K O H' ts vs/\Same H1 H'/\Post X H' (m ts) λt H'=> ∀v,Rep X.K O H' t v->Q v H') I1 ⟨Z,O,E.same sm,?_⟩) (λus s2 ⟨vs,H2,I2,r,ts,et,rs,s2',q2⟩=>⟨I2.kIn,?_⟩)) (ba hn.1) (fZ hn.2)
  ·cases y:fs Z with
   | bad=>rw[y]at q;exact q.elim
   | err c=>rw[y]at q;exact q
   | ok ts=>
    rw[y]at q;exact λH' s' vs rs=>⟨ts,rfl,rs,s',Post.later q s'⟩
  ·exact IB F hr hb hps I2 r rs ((E.same sm).same s2').mtb (hl Z ts et) q2
end
section
variable {X:Cx}{a:Expr}{fa:En->Rs T}{pos p:Pos}{x:Str}
theorem IM:qh X (.Continue pos) Fg:=PS.imp vg λD σ H ⟨Z,B,M,E,h⟩=>h σ H M (λ_ _ e _=>e) E λa z=> .inl z
end
def calmNames:List Str:=["__init__","__getattribute__","__getattr__","__class__"]
inductive OTail (h:Heap):List Ly->Prop
 | base:OTail h nT
 | own {A:Addr} {c0:Ly} {dd:Option Addr} {cd:ClassData} {sl:Array (Option Ly)} {mA:Str->Option Ly} {tl:List Ly} :
   h.get? A=some { cls:=c0,dict:=dd,data:=.cls cd,slots:=sl }->h.Ns cd.ns mA->(∀n∈calmNames,mA n=none)->OTail h tl->OTail h (.ref A::tl)
theorem OTail.tail {h:Heap}{tl:List Ly}(T:OTail h tl):OwnTail h nT tl:=by
 induction T with
 | base=>exact .base
 | own hA hN hq _ ih=>exact .own hA hN (hq _ (.head _)) ih
section
variable {M:TQ}{prog:L1}{w:MG}{A:Mh}{E:Ly->LB->Prop}{h:Heap}{g:Array RX}{d:Drawn}{t:Nat}{os:Sx}
theorem EH {tl:List Ly}{n:Str}{y:Option Ly}{Q:Option Ly->LB->Prop}(hn:n∈calmNames)(T:OTail h tl)(hrest:TH nT n=pure y)(hq:Q y ⟨h,g,d,t,os⟩) :
  wpAny M A (TH tl n) Q E ⟨h,g,d,t,os⟩:=by
 induction T with
 | base=>rw[hrest];exact LI hq
 | own hA hN hni _ ih=>
  rw[S4];refine Lv (wpAny_classOwn_cls hA hN ?_)
  rw[hni n hn];exact ih
theorem Jv:mroOf (.type "ValueError")=pure nT:=by rw[mroOf_type];kernel_rfl
variable {nm q:Str}{C N:Addr}{bs bm:List Ly}{hdct:Bool}{sn:List Str}{sub:List Ly}{ab:Bool}{col:Option Bool}{dd:Option Addr}{k0 k1 k2 k3 k5:Option Ly}{newId:String}{mN:Str->Option Ly}
theorem xm {n:Str}{y:Option Ly}{Q:Option Ly->LB->Prop}(hn:n∈calmNames)(hC:h.get? C=some (MU nm q C N bs bm hdct sn sub ab col dd k0 k1 k2 k3 k5 newId))(hN:h.Ns N mN)(hmN:∀n∈calmNames,mN n=none)(T:OTail h bm)
  (hB:Ph (.type "ValueError") n=pure y) (hq:Q y ⟨h,g,d,t,os⟩):wpAny M A (Ph (.ref C) n) Q E ⟨h,g,d,t,os⟩:=by
 have hrest:TH nT n=pure y:=by rw[typeLookup_eq,Jv]at hB;exact hB
 rw[typeLookup_eq];refine Lv (wpAny_mroOf_exc hC ?_)
 rw[S4];refine Lv (wpAny_classOwn_exc hC hN ?_)
 rw[hmN n hn];exact EH hn T hrest hq
theorem BD:Ph (.type "ValueError") "__class__" =pure (some (.builtin "object.__class__")):=by rw[O5,NQ];kernel_rfl
theorem xn:Ph (.type "ValueError") "__getattr__" =pure none:=by rw[O5,NQ];kernel_rfl
theorem ga_V:Slot "ValueError" "__getattribute__" "BaseException.__getattribute__":=.of (owner:="BaseException") (n:="__getattribute__") (by rw[O5,NQ];kernel_rfl) (by decide+kernel) (by decide+kernel) (by decide+kernel) (by first | exact .inl (by decide+kernel) | exact .inr (by decide+kernel)) (by rw[isSubtype_type];kernel_rfl)
variable {a:Addr}{o:Obj}{vs:Array Ly}
theorem EB {R:TR->LB->Prop}(hC:h.get? C=some (MU nm q C N bs bm hdct sn sub ab col dd k0 k1 k2 k3 k5 newId))(T:OTail h bm)
  (hx:h.get? a=some o) (hc:o.cls= .ref C) (hq:R (.ok (.ret (.ref C))) ⟨h,g,d,t,os⟩) :
  codeAny (model prog w) A (.call (.builtin "getset_descriptor.__get__") ⟨[.builtin "object.__class__",.ref a,.ref C],[]⟩) R ⟨h,g,d,t,os⟩:=by
 have hT5:(⟨h,g,d,t,os⟩:LB).TypeIs (.builtin "object.__class__") "getset_descriptor":=Pp
 have hcB:(LV C::bm).contains (.type (".".intercalate ("object.__class__".cutAt '.').dropLast))=true:=by
  rw[F.owner_object_class,M7,T.tail.hasType (b:=true) (by decide)];rfl
 refine PF RP.plain F.entry_gs_get (RP.check _ _ _ _ _ _ _ _ hT5 (F.args_gs_get _ _ _) ?_)
 repeat (any_goals (first | assumption | (with_reducible refine Mq hx ?_;rw[hc]) | (with_reducible refine NH hC ?_;rw[hcB]) | wp_step))
 refine⟨Code.quiet_builtin _ (by decide+kernel),Re F.entry_object_class ?_⟩
 repeat (any_goals (first | assumption | (with_reducible refine Mq hx ?_;rw[hc]) | wp_step))
theorem B5 {nameV:Ly}{Q:Unit->LB->Prop}(hC:h.get? C=some (MU nm q C N bs bm hdct sn sub ab col dd k0 k1 k2 k3 k5 newId))(T:OTail h bm)
  (hx:h.get? a=some o) (hc:o.cls= .ref C) (hq:Q () ⟨h,g,d,t,os⟩):wpAny M A (S5 "BaseException.__getattribute__" ⟨[.ref a,nameV],[]⟩) Q E ⟨h,g,d,t,os⟩:=by
 have hk:builtinKind "BaseException.__getattribute__" =some .slot:=by decide+kernel
 have hsplit:splitId "BaseException.__getattribute__" =some ("BaseException","__getattribute__"):=by decide+kernel
 have hcB:(LV C::bm).contains (.type "BaseException")=true:=by rw[M7,T.tail.hasType (b:=true) (by decide)];rfl
 have ha:=F.args_bexc_ga (.ref a) nameV;simp only[S5,hk,hsplit];refine Lv ?_
 ·unfold isInstance
  repeat (first | (with_reducible refine Mq hx ?_;rw[hc]) | (with_reducible refine NH hC ?_;rw[hcB]) | wp_step)
  exact hq
theorem zZ {tk:Tok}{Q:Fin->LB->Prop}(hC:h.get? C=some (MU nm q C N bs bm hdct sn sub ab col dd k0 k1 k2 k3 k5 newId))(hN:h.Ns N mN)
  (hmN:∀n∈calmNames,mN n=none) (T:OTail h bm) (hx:h.get? a=some o) (hc:o.cls= .ref C) (hd:o.data= .fields vs) (hq:Q (.done (.ret (.ref C))) ⟨h,g,d,t,os⟩) :
  wpAny (model prog w) A (Builtin.«object.__getattribute__» ⟨[.ref a,.str "__class__" tk],[]⟩) Q E ⟨h,g,d,t,os⟩:=by
 have hT5:(⟨h,g,d,t,os⟩:LB).TypeIs (.builtin "object.__class__") "getset_descriptor":=Pp
 have f5:=Pp
 have f6:=RP.lookup
 have f7:=F.slot_gs_set.lookup
 have hmA:("__class__" : Str)∈calmNames:=.tail _ (.tail _ (.tail _ (.head _)))
 repeat (any_goals (first | assumption | (with_reducible refine Mq hx ?_;rw[hc]) | with_reducible refine xm hmA hC hN hmN T BD ?_ | wp_step))
 refine EB hC T hx hc ?_
 repeat (any_goals (first | assumption | wp_step))
theorem CB {tk:Tok}{R:TR->LB->Prop}(hC:h.get? C=some (MU nm q C N bs bm hdct sn sub ab col dd k0 k1 k2 k3 k5 newId))(hN:h.Ns N mN)
  (hmN:∀n∈calmNames,mN n=none) (T:OTail h bm) (hx:h.get? a=some o) (hc:o.cls= .ref C) (hd:o.data= .fields vs) (hq:R (.ok (.ret (.ref C))) ⟨h,g,d,t,os⟩) :
  codeAny (model prog w) A (.call (.builtin "BaseException.__getattribute__") ⟨[.ref a,.str "__class__" tk],[]⟩) R ⟨h,g,d,t,os⟩:=
 PF ga_V.plain F.entry_bexc_ga (B5 hC T hx hc (zZ hC hN hmN T hx hc hd hq))
theorem HU {tk:Tok}{fill expr:Bool}{Q:Ly->LB->Prop}(hC:h.get? C=some (MU nm q C N bs bm hdct sn sub ab col dd k0 k1 k2 k3 k5 newId))(hN:h.Ns N mN)
  (hmN:∀n∈calmNames,mN n=none) (T:OTail h bm) (hx:h.get? a=some o) (hc:o.cls= .ref C) (hd:o.data= .fields vs) (hq:Q (.ref C) ⟨h,g,d,t,os⟩) :
  wpAny (model prog w) A (getAttrBy (.ref a) (.str "__class__" tk) fill expr) Q E ⟨h,g,d,t,os⟩:=by
 have f3:=ga_V.bind (.ref a)
 have hx0:(expr&&onTheHeap (Oi "BaseException.__getattribute__"))=false:=by cases expr <;> rfl
 have hx2:(Oi "BaseException.__getattribute__" == Oi "object.__getattribute__")=false:=by decide+kernel
 have hx1:(onTheHeap (LV C)&&Oi "BaseException.__getattribute__" == Oi "object.__getattribute__")=false:=by rw[hx2];rfl
 have hm1:("__getattribute__" : Str)∈calmNames:=.tail _ (.head _)
 have hm2:("__getattr__" : Str)∈calmNames:=.tail _ (.tail _ (.head _))
 repeat (any_goals (first | assumption | (with_reducible refine Mq hx ?_;rw[hc]) | with_reducible refine xm hm1 hC hN hmN T ga_V.lookup ?_ | with_reducible refine xm hm2 hC hN hmN T xn ?_ | wp_step))
 refine CB hC hN hmN T hx hc hd ?_
 repeat (any_goals (first | assumption | wp_step))
theorem CC {Q:Option Ly->LB->Prop}(hC:h.get? C=some (MU nm q C N bs bm hdct sn sub ab col dd k0 k1 k2 k3 k5 newId))(hN:h.Ns N mN)
  (hmN:∀n∈calmNames,mN n=none) (T:OTail h bm) (hx:h.get? a=some o) (hc:o.cls= .ref C) (hd:o.data= .fields vs) (hq:Q (some (.ref C)) ⟨h,g,d,t+1,os⟩) :
  wpAny (model prog w) A (getAttr? (.ref a) "__class__") Q E ⟨h,g,d,t,os⟩:=by
 unfold getAttr? getAttrBy?
 repeat (any_goals (first | assumption | with_reducible apply HU hC hN hmN T hx hc hd | wp_step))
end
section
variable {M:TQ}{prog:L1}{w:MG}{A:Mh}{E:Ly->LB->Prop}{h:Heap}{g:Array RX}{d:Drawn}{t:Nat}{os:Sx}
variable {nm q:Str}{C N:Addr}{bs bm:List Ly}{hdct:Bool}{sn:List Str}{sub:List Ly}{ab:Bool}{col:Option Bool}{dd:Option Addr}{k0 k1 k2 k3 k5:Option Ly}{newId:String}{mN:Str->Option Ly}
variable {a:Addr}{o:Obj}{vs:Array Ly}
theorem zv {dep:Int}{tk:Tok}{Q:Fin->LB->Prop}(hx:h.get? a=some o)(hc:o.cls= .ref C)(hq:Q (.done (.ret (.bool true))) ⟨h,g,d,t,os⟩) :
  wpAny (model prog w) A (Builtin.«isinstance.nested» ⟨[.ref a,.ref C,.int dep tk],[]⟩) Q E ⟨h,g,d,t,os⟩:=by
 have e:(LV C == LV C)=true:=by simp
 repeat (any_goals (first | assumption | (with_reducible refine Mq hx ?_;rw[hc]) | wp_step))
theorem Ha {dep:Int}{tk:Tok}{Q:Fin->LB->Prop}(hC:h.get? C=some (MU nm q C N bs bm hdct sn sub ab col dd k0 k1 k2 k3 k5 newId))(T:OTail h bm)(hx:h.get? a=some o)(hc:o.cls= .ref C)
  (hq:Q (.done (.ret (.bool true))) ⟨h,g,d,t,os⟩):wpAny (model prog w) A (Builtin.«isinstance.nested» ⟨[.ref a,.type "ValueError",.int dep tk],[]⟩) Q E ⟨h,g,d,t,os⟩:=by
 have e:(LV C == NM "ValueError")=false:=rfl
 have hty:typeOf (.type "ValueError")=pure (.type "type"):=by kernel_rfl
 have hcB:(LV C::bm).contains (.type "ValueError")=true:=by rw[M7,T.tail.hasType (b:=true) (by decide)];rfl
 repeat (any_goals (first | assumption | (with_reducible refine Mq hx ?_;rw[hc]) | (with_reducible refine NH hC ?_;rw[hcB]) | wp_step))
theorem Bv {D:Addr}{oD:Obj}{cD:ClassData}{dep:Int}{tk:Tok}{Q:Fin->LB->Prop}(hC:h.get? C=some (MU nm q C N bs bm hdct sn sub ab col dd k0 k1 k2 k3 k5 newId))(hN:h.Ns N mN)(hmN:∀n∈calmNames,mN n=none)(T:OTail h bm)
  (hx:h.get? a=some o) (hc:o.cls= .ref C) (hd:o.data= .fields vs) (hD:h.get? D=some oD) (hDt:oD.cls= .type "type") (hDd:oD.data= .cls cD) (hne:(LV C == LV D)=false) (hnb:(LV C::bm).contains (.ref D)=false)
  (hq:Q (.done (.ret (.bool false))) ⟨h,g,d,t+1,os⟩):wpAny (model prog w) A (Builtin.«isinstance.nested» ⟨[.ref a,.ref D,.int dep tk],[]⟩) Q E ⟨h,g,d,t,os⟩:=by
 repeat (any_goals (first | assumption | (with_reducible refine Mq hx ?_;rw[hc]) | (with_reducible refine Mq hD ?_;rw[hDt]) | (with_reducible refine Mq hD ?_;rw[hDd]) | (with_reducible refine Mq hC ?_) | (with_reducible refine NH hC ?_;rw[hnb]) | with_reducible refine CC hC hN hmN T hx hc hd ?_ | wp_step))
end
structure OX (K:Lu)(C:Addr)(bm:List Ly):Prop where
 at_:∀h:Heap,K.In h->∃nm q N bs hdct sn sub ab col dd k0 k1 k2 k3 k5 mN,h.get? C=some (MU nm q C N bs bm hdct sn sub ab col dd k0 k1 k2 k3 k5 "ValueError.__new__")/\h.Ns N mN/\(∀n∈calmNames,mN n=none)/\OTail h bm
theorem OX.own {K:Lu}{C:Addr}{bm:List Ly}(O:OX K C bm):OwnExc K C bm:=⟨λh k=>by
 obtain⟨nm,q,N,bs,hdct,sn,sub,ab,col,dd,k0,k1,k2,k3,k5,mN,h1,h2,h3,h4⟩:=O.at_ h k;exact⟨nm,q,N,bs,hdct,sn,sub,ab,col,dd,k0,k1,k2,k3,k5,mN,h1,h2,h3 _ (.head _),h4.tail⟩⟩
section
variable {X:Cx}{e C D:Addr}{oe:Obj}{ev:Array Ly}{bm bmD:List Ly}
def tIs (e:Addr)(b:Bool):TE:=λσ H Q=>σ[0]? =some (some (.ref e))/\Q (.bl b) H
theorem BX {pins:List (Addr×Obj)}{σ:L2.St}{H:Hp}{s:LB}{Q:VK}(hp:(e,oe)∈X.pn)(hc:oe.cls= .ref C)(hd:oe.data= .fields ev)(OC:OX X.K C bm)(OD:OX X.K D bmD)(b:Bool)(hb:(decide (C=D))=b)(hnb:C≠D->bm.contains (.ref D)=false)
  (I:Inv X pins σ H s) (q:Q (.bl b) H):wpAny (model X.prog X.w) X.A (call (.builtin "isinstance") [.ref e,.ref D]) (EP X pins σ Q) X.xe s:=by
 have hx:s.heap.get? e=some oe:=(I.pin (e,oe) (Mm _ hp)).1;obtain⟨nm,qq,N,bs,hdct,sn,sub,ab,col,dd,k0,k1,k2,k3,k5,mN,hC,hN,hmN,T⟩:=OC.at_ s.heap I.kIn;obtain⟨nm',qq',N',bs',hdct',sn',sub',ab',col',dd',k0',k1',k2',k3',k5',mN',hD,_⟩:=OD.at_ s.heap I.kIn;obtain⟨h,g,d,t,os⟩:=s;refine R8 ?_ (by intro z;cases z)
 by_cases z:C=D
 ·subst z
  have:b=true:=by rw[<-hb];simp
  subst this;exact zv hx hc ⟨.bl true,H,I,rfl,q⟩
 ·have:b=false:=by rw[<-hb];simp[z]
  subst this;refine Bv hC hN hmN T hx hc hd hD rfl rfl ?_ ?_ ⟨.bl false,H,I.tok _,rfl,q⟩
  ·rw[beq_eq_false_iff_ne];exact λy=>z (RH y)
  ·rw[M7,hnb z,Bool.or_false,beq_eq_false_iff_ne]
   exact λy=>z (RH y).symm
theorem BY {pins:List (Addr×Obj)}{σ:L2.St}{H:Hp}{s:LB}{Q:VK}(hp:(e,oe)∈X.pn)(hc:oe.cls= .ref C)(OC:OX X.K C bm)
  (I:Inv X pins σ H s) (q:Q (.bl true) H):wpAny (model X.prog X.w) X.A (call (.builtin "isinstance") [.ref e,.type "ValueError"]) (EP X pins σ Q) X.xe s:=by
 have hx:s.heap.get? e=some oe:=(I.pin (e,oe) (Mm _ hp)).1;obtain⟨nm,qq,N,bs,hdct,sn,sub,ab,col,dd,k0,k1,k2,k3,k5,mN,hC,hN,hmN,T⟩:=OC.at_ s.heap I.kIn;obtain⟨h,g,d,t,os⟩:=s;refine R8 ?_ (by intro z;cases z)
 exact Ha hC T hx hc ⟨.bl true,H,I,rfl,q⟩
theorem my {en dn:Str}{p p1 p2 pos:Pos}(hN:X.N[0]? =some en)(hv:sd X.env.scope en)(hp:(e,oe)∈X.pn)(hc:oe.cls= .ref C)(hd:oe.data= .fields ev)(OC:OX X.K C bm)(OD:OX X.K D bmD)(b:Bool)(hb:(decide (C=D))=b)(hnb:C≠D->bm.contains (.ref D)=false)
  (hm:X.mg "isinstance" =none) (hmD:X.mg dn=some (.ref D)) (hg:Gl X "isinstance":=by rfl) (hgD:Gl X dn:=by rfl) (hde:gE en:=by decide) (hce:(en == ("__classdict__" : Str))=false:=by decide) (hdd:gE dn:=by decide)
  (he:LP [.Name en p1,.Name dn p2] X.env=(false,eval (.Name en p1) X.env)::LP [.Name dn p2] X.env:=by rfl) (hpl:(backTo pos (LP [.Name dn p2] X.env)).any (·.1)=false:=by rfl)
  (hs:LP [.Name dn p2] X.env=(false,eval (.Name dn p2) X.env)::LP [] X.env:=by rfl) :
  PE X (.Call (.Name "isinstance" p) [.Name en p1,.Name dn p2] [] pos) (tIs e b):=by
 intro pins s σ H Q I ⟨hσ,q⟩;refine My (gm I hg hm gq ?_ (by decide) (by decide))
 have hA:PA X [.Name en p1,.Name dn p2] (hV (oC 0) (hV (tC (.ref D)) sk)):=bx (iu hN hv hde hce) (bx (sW hgD hmD rfl hdd) dR hs) he;refine Nq (cE (hA pos pins s σ H (λvs H'=>vs= [.ref e,.ref D]/\H'=H) I ⟨.ref e,hσ,rfl,rfl⟩) λus s1 ⟨vs,H1,I1,r1,e1,e2⟩=> ?_) he hpl
 subst e1;obtain⟨u,w',rfl,ru,rw'⟩:=An r1;cases ru;cases rw';subst e2;exact BX hp hc hd OC OD b hb hnb I1 q
end
theorem eqB (a b:Bool):MeetsSeq.EqGives (.bool a) (.bool b) (a == b):=λprog w A E s Q h=>(PySem.SeqAt.EqAt.bool_bool a b (A:=A) (s:=s)) prog w E Q h
section
variable {X:Cx}
theorem sh:∀{ks:List Bool} {us:List Ly},Vals (ks.map V.bl) us->us=ks.map Mv
 | [],us,r=>by cases r;rfl
 | k::ks,us,r=>by
  cases r with
  | cons r1 r2=>cases r1;rw[sh r2];rfl
def l8:Ly->Bool
 | .bool b=>b
 | _=>false
def Dm:V->List V->Hp->VK->Prop:=λx vs H Q=> ∃(l:Addr) (ks:List Bool),x= .ref l/\vs= [.bl true]/\H l=some (.lst (ks.map V.bl))/\Q (.int (ks.countP id:Nat)) H
theorem zA:MtR X "list.count" Dm:=by
 intro pins s σ H x vs v us Q I rx rv h;obtain⟨l,ks,rfl,rfl,hH,q⟩:=h;cases rx;obtain⟨u,rfl,ru⟩:=rv.one;cases ru;obtain⟨z,its,n,r,hl,e⟩:=I.Ku hH
 have hi:=sh r;subst hi;refine Oo F.slot_list_count ⟨_,e,rfl⟩ F.entry_list_count (F.args_list_count_2 _ _) (MeetsSeq.list_count l (ks.map Mv).toArray n (.bool true) l8 λy hy=> ?_) ⟨e,?_⟩
 ·have hy':y∈ks.map Mv:=by simpa using hy
  obtain⟨k,_,rfl⟩:=LW.mp hy'
  have:=eqB k true;cases k <;> exact this
 ·have hc:(ks.map Mv).toArray.toList.countP l8=ks.countP id:=by
   simp only[List.countP_map];rfl
  rw[hc];exact⟨.int _,H,I.tok _,⟨_,rfl⟩,q⟩
def Dk:V->List V->Hp->VK->Prop:=λx vs H Q=> ∃(l:Addr) (ks:List Bool) (j:Nat),x= .ref l/\vs= [.bl true]/\H l=some (.lst (ks.map V.bl))/\ks[j]? =some true/\(∀m,m<j->ks[m]? =some false)/\j<=1000/\Q (.int (j:Nat)) H
theorem zx:MtR X "list.index" Dk:=by
 intro pins s σ H x vs v us Q I rx rv h;obtain⟨l,ks,j,rfl,rfl,hH,hj,hno,hs,q⟩:=h;cases rx;obtain⟨u,rfl,ru⟩:=rv.one;cases ru;obtain⟨z,its,n,r,hl,e⟩:=I.Ku hH
 have hi:=sh r;subst hi
 have hjl:j<ks.length:=(LM.mp hj).1
 refine Oo Sh ⟨_,e,rfl⟩ RQ (Rv _ _) (MeetsSeq.list_index l (ks.map Mv).toArray n (.bool true) l8 (λy hy=> ?_) j (by simpa using hjl) (by omega) ?_ ?_) ⟨e,?_⟩
 ·have hy':y∈ks.map Mv:=by simpa using hy
  obtain⟨k,_,rfl⟩:=LW.mp hy'
  have:=eqB k true;cases k <;> exact this
 ·have:ks[j] =true:=by have:=(LM.mp hj).2;exact this
  simp[this,l8]
 ·intro m hm hmj
  have hmk:m<ks.length:=by simpa using hm
  have:=(LM.mp (hno m hmj)).2
  simp[this,l8]
 ·exact⟨.int _,H,I.tok _,⟨_,rfl⟩,q⟩
end
abbrev Kl (P:L1)(w:MG)(K:Lu)(mg:Str->Option Ly)(base:Heap)(N:List Str)(qual:Str)(scope:OY)(f:Addr)(cd:Ly)(A:Mh)(outer:List Env)(s:LB)(H:Hp)(e:Addr)(oe:Obj):Cx:=
 { ml CX0 P w K mg base N qual scope f cd A outer s H E0 with calm:=false,pn:=[(e,oe)],xe:=λ_ _=>False }
section
variable {P:L1}{w:MG}{K:Lu}{mg:Str->Option Ly}{base:Heap}
theorem xw {N ps:List Str}{qual:Str}{scope:OY}{f:Addr}{cd:Ly}{A:Mh}{outer:List Env}{s s1:LB}{H:Hp}{us:List Ly}{vs:List V}{e:Addr}{oe:Obj}
  (S:aE N ps scope) (e0:wu P w K mg base A outer s H) (hl:vs.length=ps.length) (r:Vals vs us)
  (x:InCallC s s.heap.objs.size (bindL (envOfC qual scope s.heap.objs.size f cd).kindOf (ps.zip us) λ_=>none) (NP (s.heap.objs.size+1) scope.names []) (bindC (envOfC qual scope s.heap.objs.size f cd).kindOf (ps.zip us) λ_=>none) s1)
  (he:s.heap.get? e=some oe) (hH:H e=none) (hf:e∉pO outer) (hc:∀v,oe.data≠ .cell v) :
  Inv (Kl P w K mg base N qual scope f cd A outer s H e oe) [] (start N vs) H s1:=by
 have e0':wu P w K mg base { A with handled:=none } outer s H:=⟨e0.frames,e0.mod,e0.bs,e0.bsz,e0.funs,e0.frf,e0.hok,e0.bare⟩
 have I:=mS (CX:=CX0) (E:=E0) S (A:={ A with handled:=none }) rfl e0' hl r x
 obtain⟨h1,tk,hs1,hk⟩:=x.done
 have ok:=I.ok;refine⟨⟨ok.mod,ok.kind,ok.glob,ok.blt,ok.above,ok.inj,ok.has,ok.cab,(λz=>by cases z),Rk e0.frames,.inr ⟨rfl,rfl⟩,ok.exf,ok.bs,ok.bsz,ok.noex,ok.exfs,ok.funs,ok.frf⟩,I.os,I.bare,I.base,I.loc,I.cell,I.free,I.freeC,λp hp=> ?_,I.hok,I.len⟩
 have hp':p=(e,oe):=by simpa using hp
 subst hp';refine⟨?_,hH,?_,hf,hc⟩
 ·rw[hs1];exact hk e oe he
 ·exact Mr (LO he)
theorem HE {x qual:Str}{st:Stmt}{f:Addr}{fd:MP}{N ps:List Str}{A:Mh}{outer:List Env}{s:LB}{H:Hp}{args:Args}{us:List Ly}{vs:List V}{Q:VK}{e:Addr}{oe:Obj}(Fn:L2.Fun K x qual st f fd)(S:aE N ps (aq st))(hlen:vs.length=ps.length)
  (hr:A.depth+3<OA) (e0:wu P w K mg base A outer s H) (hb:RD s fd args (ps.zip us)) (r:Vals vs us) (he:s.heap.get? e=some oe) (hH:H e=none) (hf:e∉pO outer) (hc:∀v,oe.data≠ .cell v)
  (hbody:∀(cdv:Ly),∃t,PSs (Kl P w K mg base N qual (aq st) f cdv A outer s H e oe) (du st) t/\t { nx:=λ_ _=>False,rt:=Q } (start N vs) H) :
  codeAny (model P w) A (.call (.ref f) args) (CR CX0 outer P w H s Q E0) s:=by
 obtain⟨oc,od,kV,doc,pm,an,cdv,ct,osl,rfl,lk,hcd⟩:=Fn.ex
 have KX:K.In s.heap:=e0.mod.kin.keeps λb o e=>(e0.bs b o e).1
 have lim:s.heap.NoLimit:=e0.mod.nolimit.keeps λb o e=>(e0.bs b o e).1
 have hkind:∀y∈ps.zip us,(aq st).names.lookup y.1=some .local\/((aq st).names.lookup y.1=some .cell/\((NP (s.heap.objs.size+1) (aq st).names []).lookup y.1).isSome=true):=λ⟨n,v⟩ hy=>by
  rcases S.par n (OS hy).1 with q | q
  ·exact .inl q
  ·exact .inr ⟨q,N9 _ _ _ (.inl q)⟩
 refine Pu (by omega) (KX _ _ lk) rfl S.co S.gen rfl (P7 KX hcd) (hb _ _ _ _ ?_)
 refine Os S.kind hkind λenv hen s1 x=> ?_
 subst hen;refine⟨lim.keeps x.toInCall.keep,SL ?_⟩
 obtain⟨t,ht,hq⟩:=hbody cdv
 have I:=xw S e0 hlen r x he hH hf hc;refine Nh (ht [] s1 (start N vs) H _ I hq) (λfl s' hs=> ?_) λe s' hs=>hs.elim
 cases fl with
 | ret u=>
  obtain⟨v,σ',H',J,rv,q⟩:=hs
  exact⟨v,H',J.os,J.bare,J.base,J.hok,rv,q⟩
 | next=>obtain⟨_,_,_,q⟩:=hs;exact q.elim
 | brk=>obtain⟨_,_,_,q⟩:=hs;exact q.elim
 | cont=>obtain⟨_,_,_,q⟩:=hs;exact q.elim
end
section
variable {M:TQ}{A:Mh}{E:Ly->LB->Prop}{s:LB}
theorem Jt {base:Heap}{env:Env}{outer:List Env}{L C e:Addr}{T:Option Addr}{Q:Unit->LB->Prop}(hfr:A.frames=some (env::outer))(hl:s.heap.FunFrames base (env::outer))(hf:env.frame=some L)
  (F:J8 s.heap C e T) (h:∀h' T',ER ((env::outer).filterMap (·.frame)) C e T s.heap h' T'->Q () { s with heap:=h' }) :
  wpAny M A (TF (.ref e) env) (λ_ s'=>wpAny M A (setFlight (.ref e) none) Q E s') E s:=by
 generalize hB:QU s.heap (e::(T.toList++(env::outer).filterMap (·.frame)))=B
 have bm:∀b,b∈e::(T.toList++(env::outer).filterMap (·.frame))->B.get? b=none:=λb m=>by rw[<-hB];exact PB _ m
 have hl':s.heap.FunFrames B (env::outer):=iy hl λa ha=>bm a (Lw _ (L3 _ ha))
 have hst:B.StaysIn s.heap:=λb o q=>by rw[<-hB]at q;exact P6 _ q
 have hen:B.get? e=none:=bm e Lz
 have main:∀h',Heap.Left B (env::outer) e (.ref C) s.heap h'->Q () { s with heap:=h' }:=λh' ⟨x1,x2,⟨oe,vs,T',oT,ts,he,hc,hd,h1,hnT,hTe,hT,hdT,h3⟩,x4⟩=>by
  refine h h' T' ⟨⟨hTe,oe,vs,he,hc,hd,h1,oT,ts,hT,hdT,h3⟩,?_,λb o n1 n2 n3 q=> ?_,λb o m q=> ?_⟩
  ·cases q:s.heap.get? T' with
   | none=>exact .inr rfl
   | some o=>
    left
    by_cases z:T'∈e::(T.toList++(env::outer).filterMap (·.frame))
    ·rcases LH.mp z with z | z
     ·exact absurd z hTe
     ·rcases Mb.mp z with z | z
      ·cases T with
       | none=>simp at z
       | some t=>simp at z;rw[z]
      ·obtain⟨_,o',ho',hnf⟩:=x2.mem z
       rw[hT]at ho';cases ho';exact absurd hdT (hnf ts)
    ·rw[<-hB,N3 _ q z]at hnT;cases hnT
  ·refine x1 b o ?_
   rw[<-hB];refine N3 _ q λz=> ?_
   rcases LH.mp z with z | z
   ·exact n2 z
   ·rcases Mb.mp z with z | z
    ·cases T with
     | none=>simp at z
     | some t=>simp at z;exact n3 (by rw[z])
    ·exact n1 z
  ·obtain⟨_,o',ho',hnf⟩:=hl.mem m
   rw[q]at ho';cases ho';exact x4 b o q hnf
 cases T with
 | none=>
  obtain⟨oe,vs,he,hc,hd,h1⟩:=F;unfold TF;simp only[hf];refine Lv (ME he hd h1 ?_)
  rw[if_neg (by decide)]
  refine wpAny_newEntry hfr hl' hf he hst hen hd (Na.mp h1).1 λh' x=>main h' ?_
  rw[hc]at x;exact x
 | some t=>
  obtain⟨hte,oe,vs,he,hc,hd,h1,oT,ts,hT,hdT,h3⟩:=F
  have hnT:B.get? t=none:=bm t (Lw _ (Mm _ (by simp)))
  unfold TF;simp only[hf];refine Lv (ME he hd h1 ?_)
  rw[if_pos (show(LV t != Ml)=true from by simp)]
  refine Lv (ME hT hdT h3 ?_)
  rw[if_neg (show ¬((Ml == rawInt L)=true)from by simp[rawInt])]
  refine Lv (Rq hT hdT (Na.mp h3).1 ?_)
  have other:∀b,b≠t->(s.heap.update t (RS (·.setIfInBounds 3 Ml))).get? b=s.heap.get? b:=λb hb=>O9 _ _ (MS hb)
  have noRec:∀b o,s.heap.get? b=some o->(∀vs,o.data≠ .fields vs)->b≠t:=λb o hb hnf q=>by
   rw[q,hT]at hb;injection hb with hb;subst hb;exact hnf ts hdT
  refine wpAny_newEntry hfr (hl'.of_keeps λb o hb hnf=>⟨o,(other b (noRec b o hb hnf)).trans hb,rfl⟩) hf ((other e (MS hte)).trans he)
   (λb o hbo=>(other b λq=>by rw[q,hnT]at hbo;cases hbo).trans (hst b o hbo)) hen hd (Na.mp h1).1
   λh' x=>main h' ?_
  obtain⟨x1,x2,x3,x4⟩:=x;rw[hc]at x3;exact⟨x1,x2,x3,λb o hb hnf=>x4 b o ((other b (noRec b o hb hnf)).trans hb) hnf⟩
end
section
variable {X:Cx}{pins:List (Addr×Obj)}{σ:L2.St}{H:Hp}{s:LB}{h':Heap}
theorem Inv.gone {C e T':Addr}{T:Option Addr}(I:Inv X pins σ H s)(hst:X.stack=X.env::X.outer)(hfe:X.env.frame=some X.env.locals)(hcl:∀x c,X.env.cells.lookup x≠some c)(hex:X.ex= [])
  (g:ER ((X.env::X.outer).filterMap (·.frame)) C e T s.heap h' T') (he:H e=none) (heo:X.s₀.heap.get? e=none) (hT:∀t,T=some t->H t=none/\X.s₀.heap.get? t=none) (hp:∀p∈X.pn++pins,p.1≠e/\T≠some p.1) :
  Inv X pins σ H { s with heap:=h' }:=by
 have mem:∀b,b∈(X.env::X.outer).filterMap (·.frame)↔b=X.env.locals\/b∈X.fs:=λb=>by
  rw[Nc,hfe];exact LH
 have out:∀b o,X.s₀.heap.get? b=some o->b≠X.env.locals:=λb o q z=>by
  have h1:=LO q
  have h2:=I.ok.above;rw[z]at h1;exact absurd (LJ h1 h2) (L6 _)
 have ne:∀b o,X.s₀.heap.get? b=some o->b≠e/\T≠some b:=λb o q=>⟨λz=>(by subst z;rw[heo]at q;cases q),λz=>(by rw[(hT b z).2]at q;cases q)⟩
 have fr:∀b,b∈(X.env::X.outer).filterMap (·.frame)->H b=none:=λb z=>I.Kz b (by rw[hst];exact z)
 have keepH:∀b u,H b≠none->s.heap.get? b=some u->h'.get? b=some u:=λb u hb q=>by
  refine g.keep b u (λz=>hb (fr b z)) (λz=>hb (by rw[z];exact he)) (λz=>hb (hT b z).1) q
 refine⟨I.ok,I.os,I.bare,⟨λb o q n hb hx=> ?_,λb o q n hb hx=> ?_,I.base.free,λb o q hx=> ?_,I.base.tups,I.base.frzs,I.base.tbls⟩,?_,λx c z=>absurd z (hcl x c),I.free,I.freeC,λp hp'=> ?_,λa o q=> ?_,I.len⟩
 ·exact g.keep b o (λz=>((mem b).mp z).elim (out b o q) hb) (ne b o q).1 (ne b o q).2 (I.base.keep b o q n hb hx)
 ·obtain⟨sl,q1⟩:=I.base.slot b o q n hb hx
  obtain⟨sl',q2⟩:=g.slot b _ ((mem b).mpr (.inr hb)) q1;exact⟨sl',q2⟩
 ·obtain⟨o',q1⟩:=I.base.there b o q hx
  by_cases z:b∈(X.env::X.outer).filterMap (·.frame)
  ·obtain⟨sl,q2⟩:=g.slot b o' z q1
   exact⟨_,q2⟩
  ·exact⟨o',g.keep b o' z (ne b o q).1 (ne b o q).2 q1⟩
 ·obtain⟨m,⟨o,es,ep,ho,hd,r⟩,hl⟩:=I.loc
  obtain⟨sl,q2⟩:=g.slot X.env.locals o ((mem _).mpr (.inl rfl)) ho;refine⟨m,⟨_,es,ep,q2,hd,r⟩,λi x v a1 a2 a3=> ?_⟩
  obtain⟨u,ru,lk⟩:=hl i x v a1 a2 a3;refine⟨u,ru,?_⟩
  rcases lk with z | ⟨_,c,z,_⟩
  ·exact .inl z
  ·exact absurd z (hcl x c)
 ·obtain⟨b1,b2,b3,b4,b5⟩:=I.pin p hp'
  exact⟨g.keep p.1 p.2 (λz=>((mem _).mp z).elim b3 b4) (hp p hp').1 (hp p hp').2 b1,b2,b3,b4,b5⟩
 ·refine(I.hok a o q).KC (λb u hb z=>keepH b u ?_ z) (λ_ z=>z) λ_ _ z=>z
  rcases hb with rfl | hb
  ·rw[q];simp
  ·rw[hb];simp
end
section
variable {M:TQ}{A:Mh}{E:Ly->LB->Prop}{h:Heap}{g:Array RX}{d:Drawn}{t:Nat}{os:Sx}
variable {nm q:Str}{C N:Addr}{bs bm:List Ly}{hdct:Bool}{sn:List Str}{sub:List Ly}{ab:Bool}{col:Option Bool}{dd:Option Addr}{k0 k1 k2 k3 k5:Option Ly}{newId:String}
variable {nm' q':Str}{D N':Addr}{bs' bm':List Ly}{hdct':Bool}{sn':List Str}{sub':List Ly}{ab':Bool}{col':Option Bool}{dd':Option Addr}{k0' k1' k2' k3' k5':Option Ly}{newId':String}
theorem zC {e:Addr}{oe:Obj}{Q:Bool->LB->Prop}(hC:h.get? C=some (MU nm q C N bs bm hdct sn sub ab col dd k0 k1 k2 k3 k5 newId))(hD:h.get? D=some (MU nm' q' D N' bs' bm' hdct' sn' sub' ab' col' dd' k0' k1' k2' k3' k5' newId'))
  (he:h.get? e=some oe) (hcls:oe.cls= .ref C) (hb:bm'.contains (.type "BaseException")=true) (hin:(LV C::bm).contains (.ref D)=true) (hq:Q true ⟨h,g,d,t,os⟩):wpAny M A (excMatches (.ref e) (.ref D)) Q E ⟨h,g,d,t,os⟩:=by
 have hcB:(LV D::bm').contains (.type "BaseException")=true:=by rw[M7,hb,SE]
 have f:=tc_notTuple;unfold excMatches
 repeat (first | (with_reducible refine Mq he ?_;rw[hcls]) | with_reducible refine Mq hD ?_ | (with_reducible refine NH hD ?_;rw[hcB]) | (with_reducible refine NH hC ?_;rw[hin]) | wp_step)
 exact hq
end
abbrev xF (X:Cx)(e:Addr)(oe:Obj):Cx:={ X with A:=X.A.mark (some (.ref e)),calm:=false,pn:=(e,oe)::X.pn,xe:=λ_ _=>False }
section
variable {X:Cx}{pins:List (Addr×Obj)}{σ:L2.St}{H:Hp}{s:LB}{e:Addr}{oe:Obj}
theorem yJ (I:Inv X pins σ H s)(he:s.heap.get? e=some oe)(hH:H e=none)(hne:e≠X.env.locals)(hf:e∉X.fs)(hc:∀v,oe.data≠ .cell v):Inv (xF X e oe) pins σ H s:=by
 have ok:=I.ok;refine⟨⟨ok.mod,ok.kind,ok.glob,ok.blt,ok.above,ok.inj,ok.has,ok.cab,(λz=>by cases z),?_,ok.stk,ok.exf,ok.bs,ok.bsz,ok.noex,ok.exfs,ok.funs,ok.frf⟩,I.os,I.bare,I.base,I.loc,I.cell,I.free,I.freeC,λp hp=> ?_,I.hok,I.len⟩
 ·exact ok.frames
 ·rcases LH.mp (show p∈(e,oe)::(X.pn++pins)from hp)with z | z
  ·subst z;exact⟨he,hH,hne,hf,hc⟩
  ·exact I.pin p z
theorem Ej (ok:X.Ok)(I:Inv (xF X e oe) pins σ H s):Inv X pins σ H s:=
 ⟨ok,I.os,I.bare,I.base,I.loc,I.cell,I.free,I.freeC,λp hp=>I.pin p (Lw _ hp),I.hok,I.len⟩
theorem Inv.forget {h':Heap}{tk:Nat}{m:Str->Option Ly}(I:Inv X pins σ H s)(hcl:∀x c,X.env.cells.lookup x≠some c)(hn:h'.Ns X.env.locals m)(hs:OI X.env.locals s.heap h'):Inv X pins (LS X.N.length none) H { s with heap:=h',toks:=tk }:=by
 have out:∀b o,X.s₀.heap.get? b=some o->b≠X.env.locals:=λb o q z=>by
  have h1:=LO q
  have h2:=I.ok.above;rw[z]at h1;exact absurd (LJ h1 h2) (L6 _)
 have kp:∀b o,b≠X.env.locals->s.heap.get? b=some o->h'.get? b=some o:=λb o n q=>hs.extBut b o n q
 refine⟨I.ok,I.os,I.bare,⟨λb o q n hb hx=>kp b o (out b o q) (I.base.keep b o q n hb hx),λb o q n hb hx=> ?_,I.base.free,λb o q hx=> ?_,I.base.tups,I.base.frzs,I.base.tbls⟩,⟨m,hn,λi x v a1 a2 a3=> ?_⟩,λx c z=>absurd z (hcl x c),I.free,I.freeC,λp hp=> ?_,λa o q=> ?_,by simp⟩
 ·obtain⟨sl,q1⟩:=I.base.slot b o q n hb hx
  exact⟨sl,kp b _ (out b o q) q1⟩
 ·obtain⟨o',q1⟩:=I.base.there b o q hx
  exact⟨o',kp b o' (out b o q) q1⟩
 ·rw[N4]at a2
  split at a2 <;> cases a2
 ·obtain⟨b1,b2,b3,b4,b5⟩:=I.pin p hp
  exact⟨kp p.1 p.2 b3 b1,b2,b3,b4,b5⟩
 ·have nl:∀b u,H b=some u->b≠X.env.locals:=λb u q z=>by rw[z,I.free]at q;cases q
  refine(I.hok a o q).KC (λb u hb z=>kp b u ?_ z) (λ_ z=>z) λ_ _ z=>z
  rcases hb with rfl | hb
  ·exact nl _ _ q
  ·exact nl _ _ hb
end
def uZ (F:En->Rs Fl)(h:Str->Rs T)(Z:En):Rs Fl:=match F Z with
 | .err c=>match h c with
  | .ok t=> .ok (.rt t)
  | _=> .bad
 | r=>r
def uw (X:Cx)(i:Nat)(suite:List Stmt)(CE:Addr)(h:Str->Rs T):Prop:=
 ∀(c:Str) (C:Addr) (t:T),X.mg c=some (.ref C)->h c= .ok t->∃bm,OX X.K C bm/\(LV C::bm).contains (.ref CE)=true ∧
  ∀(e:Addr) (oe:Obj) (ev:Array Ly),oe.cls= .ref C->oe.data= .fields ev->∀(pins:List (Addr×Obj)) (s:LB) (σ:L2.St) (H:Hp) (O:Ow) (Q:VK),Inv (xF X e oe) pins σ H s->H e=none->e∉pO X.stack->σ[i]? =some (some (.ref e))->(∀p,H p=none->¬ O p) →
   (∀v H',Same H H'->Rep X.K O H' t v->Q v H')->wpAny (model X.prog X.w) (xF X e oe).A (execs suite X.env) (SP (xF X e oe) pins { nx:=λ_ _=>False,rt:=Q }) (λ_ _=>False) s
section
variable {X:Cx}
theorem Inv.Lj {σ:L2.St}{H:Hp}{s:LB}(pins:List (Addr×Obj))(I:Inv X pins σ H s):Inv { X with pn:=X.pn++pins } [] σ H s:=
 ⟨⟨I.ok.mod,I.ok.kind,I.ok.glob,I.ok.blt,I.ok.above,I.ok.inj,I.ok.has,I.ok.cab,I.ok.hd,I.ok.frames,I.ok.stk,I.ok.exf,I.ok.bs,I.ok.bsz,I.ok.noex,I.ok.exfs,I.ok.funs,I.ok.frf⟩,I.os,I.bare,I.base,I.loc,I.cell,I.free,I.freeC,λp hp=>I.pin p (by rw[Mj]at hp;exact hp),I.hok,I.len⟩
theorem Inv.Lg {σ:L2.St}{H:Hp}{s:LB}{pins pins1:List (Addr×Obj)}{xe:Ly->LB->Prop}(I:Inv { X with pn:=X.pn++pins,xe:=xe } pins1 σ H s):Inv X pins σ H s:=
 ⟨⟨I.ok.mod,I.ok.kind,I.ok.glob,I.ok.blt,I.ok.above,I.ok.inj,I.ok.has,I.ok.cab,I.ok.hd,I.ok.frames,I.ok.stk,I.ok.exf,I.ok.bs,I.ok.bsz,I.ok.noex,I.ok.exfs,I.ok.funs,I.ok.frf⟩,I.os,I.bare,I.base,I.loc,I.cell,I.free,I.freeC,λp hp=>I.pin p (Mm _ hp),I.hok,I.len⟩
theorem Gj {body suite:List Stmt}{b0:Stmt}{F:En->Rs Fl}{h:Str->Rs T}{ce n:Str}{CE:Addr}{bmE:List Ly}{i:Nat}{np hpos pos:Pos}(hst:X.stack=X.env::X.outer)(hfe:X.env.frame=some X.env.locals)(hcl:∀x c,X.env.cells.lookup x≠some c)(hex:X.ex= [])
  (hN:X.N.Nodup) (hi:X.N[i]? =some n) (hloc:X.env.scope.names.lookup n=some .local) (hm:X.mg ce=some (.ref CE)) (OE:OX X.K CE bmE)
  (hb:∀pn xe,mZ { X with pn:=pn,xe:=xe } body F) (hs:uw X i (b0::suite) CE h) (hg:Gl X ce:=by rfl) (hd:gE ce:=by decide) :
  qh X (.Try body [.ExceptHandler (some (.Name ce np)) (some n) (b0::suite) hpos] [] [] pos) (uZ F h):=by
 intro pins s σ H D I ⟨Z,B,M,E,hq⟩;refine wpAny_Try_except ?_
 unfold uZ at hq
 cases q:F Z with
 | bad=>rw[q]at hq;exact hq.elim
 | ok fl=>
  rw[q]at hq;refine Nh (hb X.pn (λ_ _=>False) pins s σ H D (I.FB _) ⟨Z,B,M,E,by rw[q];cases fl <;> exact hq⟩) (λf s1 r=> ?_) (λe s1 z=>z.elim)
  cases f with
  | next=>obtain⟨σ7,H7,I7,q7⟩:=r;exact OZ ⟨σ7,H7,I7.FB _,q7⟩
  | ret u=>obtain⟨x7,σ7,H7,I7,r7,q7⟩:=r;exact⟨x7,σ7,H7,I7.FB _,r7,q7⟩
  | brk=>obtain⟨σ7,H7,I7,q7⟩:=r;exact⟨σ7,H7,I7.FB _,q7⟩
  | cont=>obtain⟨σ7,H7,I7,q7⟩:=r;exact⟨σ7,H7,I7.FB _,q7⟩
 | err c=>
  rw[q]at hq
  cases q2:h c with
  | bad=>simp only[q2]at hq;exact hq.elim
  | err c'=>simp only[q2]at hq;exact hq.elim
  | ok t=>
   simp only[q2]at hq
   have hq':∀v H',SameO M.u H H'->Rep X.K B H' t v->D.rt v H':=hq;refine Nh (hb (X.pn++pins) _ [] s σ H { nx:=λ_ _=>False,rt:=λ_ _=>False,bk:=λ_ _=>False,ct:=λ_ _=>False } ((Tr.Inv.Lj pins I).FB _) ⟨Z,B,M,E,?_⟩) (λfl s' z=> ?_) λ_ _ z=>z
   rotate_left
   ·cases fl with
    | next=>obtain⟨_,_,_,z⟩:=z;exact z.elim
    | cont=>obtain⟨_,_,_,z⟩:=z;exact z.elim
    | brk=>obtain⟨_,_,_,z⟩:=z;exact z.elim
    | ret v=>obtain⟨_,_,_,_,_,z⟩:=z;exact z.elim
   rw[q];intro pins1 ev s1 w;obtain⟨e,T,C,σ1,H1,rfl,hmc,I1,sm,he,heo,fl,hT,hpp⟩:=w
   have I1:Inv X pins σ1 H1 s1:=Tr.Inv.Lg (X:=X) I1
   have hpp:∀p∈X.pn++pins,p.1≠e/\T≠some p.1:=λp hp=>hpp p (Mm _ hp)
   have heo:=heo hex
   have hT:∀t,T=some t->H1 t=none/\X.s₀.heap.get? t=none:=λt z=>⟨(hT t z).1,(hT t z).2 hex⟩
   show wpAny _ _ _ _ _ _
   have hfr:X.A.frames=some (X.env::X.outer):=by rw[<-hst];exact I1.ok.frames
   have hstk:s1.heap.FunFrames X.base (X.env::X.outer):=by rw[<-hst];exact I1.stack
   refine Jt hfr hstk hfe fl λh' T' g=> ?_
   have I2:=Inv.gone I1 hst hfe hcl hex g he heo hT hpp
   have Tn:H1 T'=none/\X.s₀.heap.get? T'=none/\∀p∈X.pn++pins,p.1≠T':=by
    rcases g.new with z | z
    ·exact⟨(hT T' z).1,(hT T' z).2,λp hp y=>(hpp p hp).2 (by rw[z,y])⟩
    ·exact⟨pq I1 z,k8 I1 hex z,λp hp y=>by have:=(I1.pin p hp).1;rw[y,z]at this;cases this⟩
   obtain⟨bm,OC,hin,run⟩:=hs c C t hmc q2;obtain⟨hTe,oe,ev,hoe,hoc,hod,h1,oT,ts,hoT,hdT,h3⟩:=g.flt
   have nfr:∀b o vs,h'.get? b=some o->o.data= .fields vs->b∉(X.env::X.outer).filterMap (·.frame):=λb o vs hb hd z=>by
    have:=I2.stack;rw[hst]at this;obtain⟨_,o',ho',hnf⟩:=this.mem z;rw[show h'.get? b=some o' from ho']at hb
    cases hb;exact hnf vs hd
   have hel:e≠X.env.locals:=λz=>nfr e oe ev hoe hod (by rw[Nc,hfe];exact z▸Lz)
   have hef:e∉X.fs:=λz=>nfr e oe ev hoe hod (by rw[Nc,hfe];exact Lw _ z)
   have hcell:∀v,oe.data≠ .cell v:=λv z=>by rw[hod]at z;cases z
   have I3:Inv (xF X e oe) pins σ1 H1 { s1 with heap:=h' }:=yJ I2 hoe he hel hef hcell
   refine wpAny_handleBy_cons (codeAny_handlers_test (i7 (X:=xF X e oe) I3 hg hm ?_ hd)) (by intro z;cases z)
   obtain⟨nm,qq,N,bs,hdct,sn,sub,ab,col,dd,k0,k1,k2,k3,k5,mN,hC,_⟩:=OC.at_ h' I3.kIn;obtain⟨nm',qq',N',bs',hdct',sn',sub',ab',col',dd',k0',k1',k2',k3',k5',mN',hD,_,_,TD⟩:=OE.at_ h' I3.kIn;refine zC hC hD hoe hoc (TD.tail.hasType (by decide)) hin (codeAny_handlers_suite_as ?_)
   refine wpAny_setFlight_none hoe hod h1 hoT hdT (Na.mp h3).1 ?_
   generalize hU:h'.update T' (RS (·.setIfInBounds 3 Ml))=h2
   have kp:∀b,b≠T'->h2.get? b=h'.get? b:=λb hb=>by rw[<-hU];exact O9 _ _ (MS hb)
   have hT2:h2.get? T'=some (RS (·.setIfInBounds 3 Ml) oT):=by rw[<-hU];exact Q0 _ hoT (Q1 (OV hdT _))
   have hoe2:h2.get? e=some oe:=(kp e (MS hTe)).trans hoe
   have g2:ER ((X.env::X.outer).filterMap (·.frame)) C e (some T') h' h2 T':=⟨⟨hTe,oe,ev,hoe2,hoc,hod,h1,_,_,hT2,OV hdT _,by simp[(Na.mp h3).1]⟩,.inl rfl,λb o _ _ n3 q=>(kp b λz=>n3 (by rw[z])).trans q,λb o m q=>⟨o.slots,(kp b λz=>nfr T' oT ts hoT hdT (z▸m)).trans q⟩⟩
   have I4:Inv X pins σ1 H1 { s1 with heap:=h2 }:=Inv.gone (s:={ s1 with heap:=h' }) I2 hst hfe hcl hex g2 he heo (λt z=>by cases z;exact⟨Tn.1,Tn.2.1⟩) λp hp=>⟨(hpp p hp).1,λz=>Tn.2.2 p hp (Me z).symm⟩
   have I5:Inv (xF X e oe) pins σ1 H1 { s1 with heap:=h2 }:=yJ I4 hoe2 he hel hef hcell
   refine oE (X:=xF X e oe) (v:=.ref e) I5 hN hi (.inl hloc) rfl (λs3 I6=> ?_) (.inr hloc)
   have hil:i<σ1.length:=by
    rw[I1.len];exact(LM.mp hi).1
   refine Nh (run e oe ev hoc hod pins s3 _ H1 B (λv H'=>Same H1 H'/\Rep X.K B H' t v) I6 he (λz=> ?_) (by simp[hil]) (λp hp z=> ?_) λv H' s' r=>⟨s',r⟩) (λf s4 r=> ?_) λ_ _ z=>z.elim
   ·rw[hst]at z
    exact nfr e oe ev hoe hod z
   ·obtain⟨o,ho⟩:=(E.env.trk p (.inl z)).some
    have:=sm p o ho (λw=>E.mine p w z)
    rw[hp]at this;cases this
   ·cases f with
    | next=>obtain⟨_,_,_,z⟩:=r;exact z.elim
    | brk=>obtain⟨_,_,_,z⟩:=r;exact z.elim
    | cont=>obtain⟨_,_,_,z⟩:=r;exact z.elim
    | ret u=>
     obtain⟨v,σ',H',I7,rv,s',rt⟩:=r;obtain⟨m,hn,_⟩:=I7.loc;refine wpAny_nameGoes (show X.env.kindOf n=some .local from hloc) hn (by rw[I.ok.kind];rfl) λh8 m8 hn8 hs8=> ?_
     exact⟨v,_,H',Inv.forget (Ej I.ok I7) hcl hn8 hs8,rv,hq' v H' (λb o y nn=>s' b o (sm b o y nn)) rt⟩
end
section
variable {X:Cx}{e C:Addr}{oe:Obj}{bm:List Ly}
theorem HW:Mg "ValueError" =some (.type "ValueError"):=by decide+kernel
theorem GQ {en:Str}{p p1 p2 pos:Pos}(hN:X.N[0]? =some en)(hv:sd X.env.scope en)(hp:(e,oe)∈X.pn)(hc:oe.cls= .ref C)(OC:OX X.K C bm)
  (hm:X.mg "isinstance" =none) (hmD:X.mg "ValueError" =none) (hg:Gl X "isinstance":=by rfl) (hgD:Gl X "ValueError":=by rfl) (hde:gE en:=by decide) (hce:(en == ("__classdict__" : Str))=false:=by decide)
  (he:LP [.Name en p1,.Name "ValueError" p2] X.env=(false,eval (.Name en p1) X.env)::LP [.Name "ValueError" p2] X.env:=by rfl) (hpl:(backTo pos (LP [.Name "ValueError" p2] X.env)).any (·.1)=false:=by rfl)
  (hs:LP [.Name "ValueError" p2] X.env=(false,eval (.Name "ValueError" p2) X.env)::LP [] X.env:=by rfl) :
  PE X (.Call (.Name "isinstance" p) [.Name en p1,.Name "ValueError" p2] [] pos) (tIs e true):=by
 intro pins s σ H Q I ⟨hσ,q⟩;refine My (gm I hg hm gq ?_ (by decide) (by decide))
 have hA:PA X [.Name en p1,.Name "ValueError" p2] (hV (oC 0) (hV (tC (.ty "ValueError")) sk)):=bx (iu hN hv hde hce) (bx (yd (v:=.ty "ValueError") hgD hmD HW rfl) dR hs) he;refine Nq (cE (hA pos pins s σ H (λvs H'=>vs= [.ref e,.ty "ValueError"]/\H'=H) I ⟨.ref e,hσ,rfl,rfl⟩) λus s1 ⟨vs,H1,I1,r1,e1,e2⟩=> ?_) he hpl
 subst e1;obtain⟨u,w',rfl,ru,rw'⟩:=An r1;cases ru;cases rw';subst e2;exact BY hp hc OC I1 q
end
def AA:Ly->Bool
 | .str _ _=>true
 | _=>false
theorem Js {K:Lu}{N:Addr}{ob:Ly}{oe:Option Addr}{es:Array DictEntry}{n:Nat}{oz:Array (Option Ly)}(r:K.lookup N=some ⟨ob,oe,.dict es n,oz⟩)(s:(es.toList.all λe=>AA e.key)=true)
  (u0:Pm K N "__init__" =some none) (u1:Pm K N "__getattribute__" =some none) (u2:Pm K N "__getattr__" =some none) (u3:Pm K N "__class__" =some none) :
  ∀h:Heap,K.In h->∃mN,h.Ns N mN/\∀n∈calmNames,mN n=none:=λh k=>by
 refine⟨nsFind es,⟨_,es,n,k _ _ r,rfl,λe he=> ?_,λ_=>rfl⟩,λx hx=> ?_⟩
 ·have:=L5.mp s e (by simpa using he)
  cases q:e.key <;> rw[q]at this <;> first | exact⟨_,_,rfl⟩ | cases this
 ·have key:∀x,Pm K N x=some none->nsFind es x=none:=λx u=>by
   unfold Pm at u;rw[r]at u;simp only at u
   split at u
   ·cases u
   ·rename_i he
    unfold nsFind findBy;rw[<-RL,he];rfl
  unfold calmNames at hx;simp only[LH,MC,or_false]at hx;rcases hx with rfl | rfl | rfl | rfl
  ·exact key _ u0
  ·exact key _ u1
  ·exact key _ u2
  ·exact key _ u3
section
variable {K:Lu}{nm q:Str}{C N:Addr}{bs:List Ly}{hdct:Bool}{sn:List Str}{sub:List Ly}{ab:Bool}{col:Option Bool}{dd:Option Addr}{k0 k1 k2 k3 k5:Option Ly}
variable {nm' q':Str}{D N':Addr}{bs':List Ly}{hdct':Bool}{sn':List Str}{sub':List Ly}{ab':Bool}{col':Option Bool}{dd':Option Addr}{k0' k1' k2' k3' k5':Option Ly}
theorem DU (w:K.lookup C=some (MU nm q C N bs nT hdct sn sub ab col dd k0 k1 k2 k3 k5 "ValueError.__new__"))(ns:∀h:Heap,K.In h->∃mN,h.Ns N mN/\∀n∈calmNames,mN n=none):OX K C nT:=⟨λh k=>by
 obtain⟨mN,h1,h2⟩:=ns h k;exact⟨nm,q,N,bs,hdct,sn,sub,ab,col,dd,k0,k1,k2,k3,k5,mN,k _ _ w,h1,h2,.base⟩⟩
theorem Bi (w:K.lookup C=some (MU nm q C N bs (.ref D::nT) hdct sn sub ab col dd k0 k1 k2 k3 k5 "ValueError.__new__"))(ns:∀h:Heap,K.In h->∃mN,h.Ns N mN/\∀n∈calmNames,mN n=none)
  (wD:K.lookup D=some (MU nm' q' D N' bs' nT hdct' sn' sub' ab' col' dd' k0' k1' k2' k3' k5' "ValueError.__new__")) (nsD:∀h:Heap,K.In h->∃mN,h.Ns N' mN/\∀n∈calmNames,mN n=none):OX K C (.ref D::nT):=⟨λh k=>by
 obtain⟨mN,h1,h2⟩:=ns h k;obtain⟨mD,d1,d2⟩:=nsD h k;exact⟨nm,q,N,bs,hdct,sn,sub,ab,col,dd,k0,k1,k2,k3,k5,mN,k _ _ w,h1,h2,.own (k _ _ wD) d1 d2 .base⟩⟩
end
theorem IC {k:Nat}{A:Mh}(h:Room k A):A.depth+3<OA:=by have:=h.dp;omega
end Tr
namespace L2
open PySem PySem.Spec PyProof.Rows
section
variable {κ:Type}[DecidableEq κ]
def iD (kvs:List (κ×V))(k:κ):Option V:=(kvs.find? λkv=>decide (kv.1=k)).map (·.2)
def dQ (kvs:List (κ×V))(k:κ)(v:V):List (κ×V):=
 if (kvs.any λkv=>decide (kv.1=k))=true then kvs.map (λkv=>if kv.1=k then(kv.1,v)else kv)else kvs++ [(k,v)]
theorem Ao {k:κ}:iD ([]:List (κ×V)) k=none:=rfl
theorem gJ {p:κ×V}{r:List (κ×V)}{k:κ}(e:p.1=k):iD (p::r) k=some p.2:=by simp[iD,Od,e]
theorem gK {p:κ×V}{r:List (κ×V)}{k:κ}(e:¬ p.1=k):iD (p::r) k=iD r k:=by simp[iD,Od,e]
theorem uJ (k:κ):∀kvs:List (κ×V),(kvs.any λkv=>decide (kv.1=k))=(iD kvs k).isSome
 | [] =>rfl
 | p::r=>by
  rw[N6]
  by_cases e:p.1=k
  ·simp only[gJ e,decide_eq_true e,SF,RN]
  ·rw[gK e,decide_eq_false e,Qs];exact uJ k r
theorem ij (kvs:List (κ×V))(k:κ)(v:V):(dQ kvs k v).length<=kvs.length+1:=by
 unfold dQ;split
 ·rw[LA];omega
 ·rw[LF,LG,PQ];omega
theorem RelO.Kv {o:Option V}{u:Option Ly}(r:RelO o u):o.isSome=u.isSome:=by
 cases o with
 | none=>cases u with
  | none=>rfl
  | some _=>exact(show False from r).elim
 | some _=>cases u with
  | none=>exact(show False from r).elim
  | some _=>rfl
theorem RelO.getD {o:Option V}{u:Option Ly}{d:V}{d':Ly}(r:RelO o u)(rd:RelV d d'):RelV (o.getD d) (u.getD d'):=by
 cases o with
 | none=>cases u with
  | none=>exact rd
  | some _=>exact(show False from r).elim
 | some _=>cases u with
  | none=>exact(show False from r).elim
  | some _=>exact r
theorem KV.val {kvs:List (κ×V)}{vs:List (κ×Ly)}(r:KV kvs vs)(k:κ):RelO (iD kvs k) (valueAt vs k):=by
 unfold KV at r
 induction r with
 | nil=>exact Oh
 | @cons p q ps qs h t ih=>
  obtain⟨h1,h2⟩:=h
  by_cases e:p.1=k
  ·have e':q.1=k:=h1.symm.trans e
   have b:valueAt (q::qs) k=some q.2:=by simp[valueAt,Od,e']
   rw[gJ e,b];exact h2
  ·have e':¬ q.1=k:=λz=>e (h1.trans z)
   have b:valueAt (q::qs) k=valueAt qs k:=by simp[valueAt,Od,e']
   rw[gK e,b];exact ih
theorem KV.any {kvs:List (κ×V)}{vs:List (κ×Ly)}(r:KV kvs vs)(k:κ):(kvs.any λkv=>decide (kv.1=k))=vs.any λkv=>decide (kv.1=k):=by
 unfold KV at r
 induction r with
 | nil=>rfl
 | cons h t ih=>rw[N6,N6,ih,h.1]
theorem KV.Ld {kvs:List (κ×V)}{vs:List (κ×Ly)}(r:KV kvs vs)(k:κ){y:V}{u:Ly}(ry:RelV y u) :
  KV (kvs.map λkv=>if kv.1=k then(kv.1,y)else kv) (vs.map λkv=>if kv.1=k then(kv.1,u)else kv):=by
 unfold KV at r ⊢
 induction r with
 | nil=>exact .nil
 | @cons p q ps qs h t ih=>
  rw[Lx,Lx];refine .cons ?_ ih
  obtain⟨h1,h2⟩:=h
  by_cases e:p.1=k
  ·rw[if_pos e,if_pos (h1.symm.trans e)];exact⟨h1,ry⟩
  ·rw[if_neg e,if_neg (λz=>e (h1.trans z))];exact⟨h1,h2⟩
theorem KV.put {kvs:List (κ×V)}{vs:List (κ×Ly)}(r:KV kvs vs)(k:κ){y:V}{u:Ly}(ry:RelV y u):KV (dQ kvs k y) (stored vs k u):=by
 unfold dQ stored;rw[r.any k]
 by_cases e:(vs.any λkv=>decide (kv.1=k))=true
 ·rw[if_pos e,if_pos e];exact r.Ld k ry
 ·rw[if_neg e,if_neg e];exact Paired.snoc r ⟨rfl,ry⟩
theorem KV.length {kvs:List (κ×V)}{vs:List (κ×Ly)}(r:KV kvs vs):kvs.length=vs.length:=Qr r
end
theorem vV {P:L1}{w:MG}{k:Key}{u:Ly}(r:RelV (kV k) u):(c9 P w).is k u=true:=by
 cases k with
 | inl i=>obtain⟨t,e⟩:=(show ∃t,u=M5 i t from r);subst e;exact vL P w i t
 | inr x=>obtain⟨t,e⟩:=(show ∃t,u=Nr x t from r);subst e;exact vK P w x t
theorem rL {P:L1}{w:MG}:∀{ks:List Key} {us:List Ly},Vals (ks.map kV) us->ItemsAre (c9 P w) ks us
 | [],_,r=>by rw[Po]at r;cases r;exact .nil
 | k::ks,_,r=>by
  rw[Lx]at r
  cases r with
  | cons h t=>exact .cons (vV h) (rL t)
abbrev KT (H:Hp):List (List Key×V)->List (List Key×Addr×Ly)->Prop:=TU λp q=>p.1=q.1/\H q.2.1=some (.tup (p.1.map kV))/\RelV p.2 q.2.2
theorem KT.val {H:Hp}{kvs:List (List Key×V)}{xs:List (List Key×Addr×Ly)}(r:KT H kvs xs)(k:List Key):RelO (iD kvs k) ((atKey xs k).map (·.2)):=by
 induction r with
 | nil=>exact Oh
 | @cons p q ps qs h t ih=>
  obtain⟨h1,_,h2⟩:=h
  by_cases e:p.1=k
  ·have e':q.1=k:=h1.symm.trans e
   have b:atKey (q::qs) k=some q.2:=by simp[atKey,Od,e']
   rw[gJ e,b];exact h2
  ·have e':¬ q.1=k:=λz=>e (h1.trans z)
   have b:atKey (q::qs) k=atKey qs k:=by simp[atKey,Od,e']
   rw[gK e,b];exact ih
theorem KT.Ld {H:Hp}{kvs:List (List Key×V)}{xs:List (List Key×Addr×Ly)}(r:KT H kvs xs)(k:List Key){y:V}{u:Ly}(ry:RelV y u) :
  KT H (kvs.map λkv=>if kv.1=k then(kv.1,y)else kv) (xs.map (putAt k u)):=by
 induction r with
 | nil=>exact .nil
 | @cons p q ps qs h t ih=>
  rw[Lx,Lx];refine .cons ?_ ih
  obtain⟨h1,h2,h3⟩:=h;unfold putAt
  by_cases e:p.1=k
  ·rw[if_pos e,if_pos (h1.symm.trans e)];exact⟨h1,h2,ry⟩
  ·rw[if_neg e,if_neg (λz=>e (h1.trans z))];exact⟨h1,h2,h3⟩
theorem KT.put {H:Hp}{kvs:List (List Key×V)}{xs:List (List Key×Addr×Ly)}(r:KT H kvs xs)(k:List Key){b:Addr}{y:V}{u:Ly}(hb:H b=some (.tup (k.map kV)))(ry:RelV y u) :
  KT H (dQ kvs k y) (storedH xs k b u):=by
 have e:(kvs.any λkv=>decide (kv.1=k))=(atKey xs k).isSome:=by
  rw[uJ,(r.val k).Kv,Si]
 unfold dQ storedH;rw[e]
 by_cases q:(atKey xs k).isSome=true
 ·rw[if_pos q,if_pos q];exact r.Ld k ry
 ·rw[if_neg q,if_neg q];exact Paired.snoc r ⟨rfl,hb,ry⟩
theorem KT.keeps {H H':Hp}{kvs:List (List Key×V)}{xs:List (List Key×Addr×Ly)}(r:KT H kvs xs)(ht:∀b ys,H b=some (.tup ys)->H' b=some (.tup ys)):KT H' kvs xs:=
 Paired.K6 r λ_ _ z=>⟨z.1,ht _ _ z.2.1,z.2.2⟩
section
variable {P:L1}{w:MG}{H:Hp}{h:Heap}{a:Addr}
theorem xY {u:HO}(ok:HOk P w H h)(e:Rd H a u):ObjOk P w H h a u:=e.ok ok
theorem rW {kvs:List (Key×V)}(ok:HOk P w H h)(e:Rd H a (.dK kvs)):kvs.length<=sizeLine/\(a == Om)=false/\∃vs,KV kvs vs/\h.DictOf (c9 P w) a vs:=
 show ObjOk P w H h a (.dK kvs)from xY ok e
theorem J0 {kvs:List (Key×V)}(ok:HOk P w H h)(e:H a=some (.dK kvs)):kvs.length<=sizeLine/\(a == Om)=false/\∃vs,KV kvs vs/\h.DictOf (c9 P w) a vs:=rW ok (.inl e)
theorem mO {ks:List Key}(ok:HOk P w H h)(e:H a=some (.tup (ks.map kV))):(Qm (c9 P w)).is h ks a:=by
 obtain⟨_,its,r,o,h1,h2,n,h3⟩:=(show ObjOk P w H h a (.tup (ks.map kV))from ok a _ e)
 exact⟨o,its.toArray,n,h1,h2,h3,by simpa using rL r⟩
theorem rS {kvs:List (List Key×V)}(ok:HOk P w H h)(e:Rd H a (.dT kvs)):kvs.length<=sizeLine/\(a == Om)=false ∧
  ∃xs,KT H kvs xs/\h.DictOfH (Qm (c9 P w)) a xs:=by
 obtain⟨z,y,xs,r,o,es,ep,h1,h2,h3,h4,h5⟩:=(show ObjOk P w H h a (.dT kvs)from xY ok e)
 refine⟨z,y,xs,r,o,es,ep,h1,h2,h3,h4,λx hx=> ?_,h5⟩
 have all:∀{l:List (List Key×V)} {m:List (List Key×Addr×Ly)},KT H l m->∀x∈m,(Qm (c9 P w)).is h x.1 x.2.1:=by
  intro l m q
  induction q with
  | nil=>intro x hx;exact nomatch hx
  | @cons p q ps qs hq t ih=>
   intro x hx;rcases LH.mp hx with e | hx
   ·subst e
    exact mO ok (by rw[<-hq.1];exact hq.2.1)
   ·exact ih x hx
 exact all r x hx
theorem Cv {kvs:List (List Key×V)}(ok:HOk P w H h)(e:H a=some (.dT kvs)):kvs.length<=sizeLine/\(a == Om)=false ∧
  ∃xs,KT H kvs xs/\h.DictOfH (Qm (c9 P w)) a xs:=rS ok (.inl e)
end
def DGet (H:Hp)(a:Addr)(y:V)(r:Option V):Prop:=
 (∃kvs k,Rd H a (.dK kvs)/\y=kV k/\r=iD kvs k)\/∃kvs k b,Rd H a (.dT kvs)/\y= .ref b/\H b=some (.tup (k.map kV))/\r=iD kvs k
def DPut (H:Hp)(a:Addr)(y v:V)(H':Hp):Prop:=
 (∃kvs k,H a=some (.dK kvs)/\y=kV k/\kvs.length<sizeLine/\H'=upd H a (.dK (dQ kvs k v))) ∨
 ∃kvs k b,H a=some (.dT kvs)/\y= .ref b/\H b=some (.tup (k.map kV))/\kvs.length<sizeLine/\H'=upd H a (.dT (dQ kvs k v))
theorem DGet.t {H:Hp}{a b:Addr}{kvs:List (List Key×V)}{k:List Key}(e:H a=some (.dT kvs))(eb:H b=some (.tup (k.map kV))):DGet H a (.ref b) (iD kvs k):=.inr ⟨kvs,k,b,.inl e,rfl,eb,rfl⟩
theorem DPut.t {H:Hp}{a b:Addr}{kvs:List (List Key×V)}{k:List Key}{v:V}(e:H a=some (.dT kvs))(eb:H b=some (.tup (k.map kV)))(hl:kvs.length<sizeLine) :
  DPut H a (.ref b) v (upd H a (.dT (dQ kvs k v))):=.inr ⟨kvs,k,b,e,rfl,eb,hl,rfl⟩
section
variable {X:Cx}{pins:List (Addr×Obj)}{σ:St}{H:Hp}{s:LB}{a:Addr}{y v:V}{u r:Ly}{o:Option V}{A:Mh}{E:Ly->LB->Prop}
theorem Inv.big (I:Inv X pins σ H s):Om<s.heap.objs.size:=by
 have h:Mu<s.heap.objs.size:=(I.mod.glob.keeps I.bk).lt;exact QZ (by decide) h
theorem zW {Q:Ly->LB->Prop}(hu:A.units+1<cLine)(I:Inv X pins σ H s)(g:DGet H a y (some v))(ry:RelV y u)(h:∀w' s',Inv X pins σ H s'->RelV v w'->Q w' s') :
  wpAny (model X.prog X.w) A (getItem (.ref a) u) Q E s:=by
 rcases g with⟨kvs,k,e,ey,l⟩ | ⟨kvs,k,b,e,ey,eb,l⟩
 ·subst ey
  obtain⟨z,hd,vs,rel,dd⟩:=rW I.hok e;obtain⟨w',hw,rw'⟩:=RelO.some_of (v:=v) (o:=valueAt vs k) (by rw[l];exact rel.val k)
  exact wpAny_getItem_of (vV ry) dd.mapOf hw (h w' _ (I.tok _) rw')
 ·subst ey
  cases (show u=LV b from ry)
  obtain⟨z,hd,xs,rel,dd⟩:=rS I.hok e;obtain⟨w',hw,rw'⟩:=RelO.some_of (v:=v) (o:=(atKey xs k).map (·.2)) (by rw[l];exact rel.val k)
  obtain⟨p,hp,hp2⟩:=NJ.mp hw;refine wpAny_getItem_heap (Ob hu) (mO I.hok eb) dd hp ?_
  rw[hp2];exact h w' _ (I.tok _) rw'
theorem d_in {Q:Ly->LB->Prop}(hu:A.units+1<cLine)(I:Inv X pins σ H s)(g:DGet H a y o)(ry:RelV y u)(h:∀s',Inv X pins σ H s'->Q (.bool o.isSome) s') :
  wpAny (model X.prog X.w) A (Mz .In u (.ref a)) Q E s:=by
 rcases g with⟨kvs,k,e,ey,l⟩ | ⟨kvs,k,b,e,ey,eb,l⟩
 ·subst ey
  obtain⟨z,hd,vs,rel,dd⟩:=rW I.hok e;refine wpAny_in_of (vV ry) hd dd.mapOf ?_
  rw[<-(rel.val k).Kv,<-l];exact h _ (I.tok _)
 ·subst ey
  cases (show u=LV b from ry)
  obtain⟨z,hd,xs,rel,dd⟩:=rS I.hok e;refine wpAny_in_heap (Ob hu) (mO I.hok eb) hd dd ?_
  have q:=(rel.val k).Kv;rw[Si]at q;rw[<-q,<-l];exact h _ (I.tok _)
theorem uh {h':Heap}{t':Nat}{ob:HO}(I:Inv X pins σ H s)(mu:J7 (H a))(hs:OI a s.heap h')(he:∃q,h'.get? a=some q)(new:ObjOk X.prog X.w (upd H a ob) h' a ob) :
  Inv X pins σ (upd H a ob) { s with heap:=h',toks:=t' }:=
 I.write (x:=a) (e:=a) mu (.inl rfl) (λb q hb z=>(hs.2 b hb).trans z) he new
theorem HP {P:L1}{w:MG}{H':Hp}{h':Heap}{kvs:List (Key×V)}{vs:List (Key×Ly)}(z:kvs.length<=sizeLine)(hd:(a == Om)=false)(rel:KV kvs vs)(dd:h'.DictOf (c9 P w) a vs) :
  ObjOk P w H' h' a (.dK kvs):=⟨z,hd,vs,rel,dd⟩
theorem zV {H':Hp}{Q:Unit->LB->Prop}(hu:A.units+1<cLine)(I:Inv X pins σ H s)(g:DPut H a y v H')(ry:RelV y u)(rv:RelV v r)(h:∀s',Inv X pins σ H' s'->Q () s') :
  wpAny (model X.prog X.w) A (setItem (.ref a) u r) Q E s:=by
 rcases g with⟨kvs,k,e,ey,l,eH⟩ | ⟨kvs,k,b,e,ey,eb,l,eH⟩
 ·subst ey eH
  obtain⟨z,hd,vs,rel,dd⟩:=J0 I.hok e
  have hz:vs.length<=sizeLine:=by rw[<-rel.length];exact z
  have hl:(dQ kvs k v).length<=sizeLine:=by have:=ij kvs k v;omega
  refine wpAny_setItem_pairs (hsz:=hz) (vV ry) dd λh' dd' hs=>h _ ?_
  have he:∃q,h'.get? a=some q:=let ⟨q,_,_,hq,_⟩:=dd';⟨q,hq⟩
  exact uh I (by rw[e];exact Oh) hs he (HP hl hd (rel.put k rv) dd')
 ·subst ey eH
  cases (show u=LV b from ry)
  obtain⟨z,hd,xs,rel,dd⟩:=Cv I.hok e
  have hz:xs.length<=sizeLine:=by rw[<-Qr rel];exact z
  have hl:(dQ kvs k v).length<=sizeLine:=by have:=ij kvs k v;omega
  refine wpAny_setItem_heap (hsz:=hz) (Ob hu) (mO I.hok eb) dd λh' dd' hs=>h _ ?_
  obtain⟨q,es,ep,hq,h2,h3,h4,_,h5⟩:=dd';refine uh I (by rw[e];exact Oh) hs ⟨q,hq⟩ ⟨hl,hd,_,(rel.put k eb rv).keeps λc ys ec=> ?_,q,es,ep,hq,h2,h3,h4,h5⟩
  rw[aI (lT ec e (λz=>nomatch z))]
  exact ec
end
def Ac (i:Expr):Prop:=∀ov iv,RF i false ov iv=operate [ov,iv] (getItem ov iv)
theorem Dd {prog:L1}{w:MG}{A:Mh}{E:Ly->LB->Prop}{s:LB}{env:Env}{value slice:Expr}{pos:Pos}{T id:String}{Q:Ly->LB->Prop}
  (hl:Ph (.type T) "__getitem__" =pure (some (.builtin id))) (hs:Ac slice)
  (h:wpAny (model prog w) A (eval value env) (λo s₁=>wpAny (model prog w) A (eval slice env) (λi s₂=>s₂.TypeIs o T/\wpAny (model prog w) A (getItem o i) Q E s₂) E s₁) E s) :
  wpAny (model prog w) A (eval (.Subscript value slice pos) env) Q E s:=by
 refine Sv (Nh h (λo s₁ h₁=>Nh h₁ (λi s₂ h₂=> ?_) λ_ _ x=>x) λ_ _ x=>x)
 obtain⟨hT,h₂⟩:=h₂;unfold R7;refine Lv ?_
 rw[getitemInPython_of_ne hT.not_modules];refine Lv (wpAny_specialOf hT hl ?_)
 have fin:wpAny (model prog w) A (RF slice false o i) (λr s₃=>wpAny (model prog w) A (letTemporaryGo value o r >>= λ_=>pure r) Q E s₃) E s₂:=by
  rw[hs o i];exact wpAny_operating (Nh h₂ (λr s₃ h₃=>Lv (wpAny_letTemporaryGo (LI h₃))) λ_ _ x=>x)
 first
  | exact LI (Lv fin)
  | exact Lv (LI (Lv fin))
  | exact Lv fin
theorem wb {X:Cx}{pins:List (Addr×Obj)}{σ:St}{H:Hp}{s:LB}{a:Addr}{y:V}{o:Option V}(I:Inv X pins σ H s)(g:DGet H a y o):s.TypeIs (.ref a) "dict":=by
 rcases g with⟨kvs,k,e,_,_⟩ | ⟨kvs,k,b,e,_,_,_⟩
 ·obtain⟨_,_,vs,_,dd⟩:=rW I.hok e
  exact dd.typeIs
 ·obtain⟨_,_,xs,_,dd⟩:=rS I.hok e
  exact dd.typeIs
def Iu (td ty:TE):TE:=λσ H Q=>td σ H λx H1=>ty σ H1 λy H2=> ∃a v,x= .ref a/\DGet H2 a y (some v)/\Q v H2
def IA (td ty tv:TE):TS:=λD σ H=>tv σ H λv H1=>td σ H1 λx H2=>ty σ H2 λy H3=> ∃a H4,x= .ref a/\DPut H3 a y v H4/\D.nx σ H4
section
variable {X:Cx}{o i e value:Expr}{pos pos' tpos:Pos}{td ty tv:TE}
theorem yb (hu:X.A.units+1<cLine)(ho:PE X o td)(hi:PE X i ty)(hs:Ac i):PE X (.Subscript o i pos) (Iu td ty):=by
 intro pins s σ H Q I h;refine Dd PySem.F.slot_dict_getitem.lookup hs (cE (ho pins s σ H _ I h) λu s1 ⟨x,H1,I1,rx,q1⟩=>cE (hi pins s1 σ H1 _ I1 q1) λiv s2 hh_=> ?_)
 obtain⟨y,H2,I2,ry,a,v,ex,g,q2⟩:=hh_;subst ex;obtain rfl:u=LV a:=rx;exact⟨wb I2 g,zW hu I2 g ry λw' s3 I3 rw'=>⟨v,H2,I3,rw',q2⟩⟩
theorem x6 (hu:X.A.units+1<cLine)(ho:PE X o td)(hi:PE X i ty)(hv:PE X value tv)(hs:MK value (some (.Subscript o i pos')) pos.line X.env=pure false) :
  PS X (.Assign [.Subscript o i pos'] value pos) (IA td ty tv):=by
 intro pins s σ H D I h;refine wpAny_Assign_Subscript (cE (hv pins s σ H _ I h) λr s1 ⟨v,H1,I1,rv,q1⟩=>cE (ho pins s1 σ H1 _ I1 q1) λu s2 ⟨x,H2,I2,rx,q2⟩=>cE (hi pins s2 σ H2 _ I2 q2) λiv s3 ⟨y,H3,I3,ry,a,H4,ex,g,q3⟩=> ?_) hs
 subst ex;obtain rfl:u=LV a:=rx;exact zV hu I3 g ry rv λs4 I4=>⟨σ,H4,I4,q3⟩
end
theorem Cw {P:L1}{w:MG}{H:Hp}(h:Heap)(hb:Om<h.objs.size):ObjOk P w H (h.push { cls:=.type "dict",data:=.dict #[] }) h.objs.size (.dT []):=
 ⟨MT _,beq_eq_false_iff_ne.mpr (MS (Mr hb)),[],.nil,_,#[],0,LR _ rfl,⟨rfl,rfl,rfl⟩,rfl,rfl,NU⟩
structure M1 (X:Cx)(o:Expr)(m:Str)(apos:Pos)(e:Expr)(cpos:Pos):Prop where
 base:MY o m X.env (eval o X.env)=eval o X.env
 few:((backTo cpos (LP [e] X.env)).all (λx=> !x.1)&&(R1 cpos (PX [] X.env)).all (λx=>x.1.isSome)
  &&decide (([e]:List Expr).length+([]:List Ss).length+(if ([]:List Ss).isEmpty then 0 else 1)<30))=true
 line:(apos.endLine == cpos.line)=true
 trees:backTo cpos (LP [e] X.env)= [(false,eval e X.env)]
structure M2 (X:Cx)(o:Expr)(m:Str)(apos:Pos)(e f:Expr)(cpos:Pos):Prop where
 base:MY o m X.env (eval o X.env)=eval o X.env
 few:((backTo cpos (LP [e,f] X.env)).all (λx=> !x.1)&&(R1 cpos (PX [] X.env)).all (λx=>x.1.isSome)
  &&decide (([e,f]:List Expr).length+([]:List Ss).length+(if ([]:List Ss).isEmpty then 0 else 1)<30))=true
 line:(apos.endLine == cpos.line)=true
 trees:backTo cpos (LP [e,f] X.env)= [(false,eval e X.env),(false,eval f X.env)]
def IsD (H:Hp)(a:Addr):Prop:=(∃kvs,Rd H a (.dK kvs))\/∃kvs,Rd H a (.dT kvs)
theorem Hy {X:Cx}{pins:List (Addr×Obj)}{σ:St}{H:Hp}{s:LB}{a:Addr}(I:Inv X pins σ H s)(d:IsD H a) :
  s.TypeIs (.ref a) "dict"/\(∀b,LV a= .ref b->∃ob,s.heap.get? b=some ob/\ob.dict=none)/\(a == Om)=false:=by
 rcases d with⟨kvs,e⟩ | ⟨kvs,e⟩
 ·obtain⟨_,hd,vs,_,dd⟩:=rW I.hok e
  refine⟨dd.typeIs,λb q=> ?_,hd⟩
  cases q;obtain⟨ob,_,_,h1,h2,_⟩:=dd;exact⟨ob,h1,h2.2.1⟩
 ·obtain⟨_,hd,xs,_,dd⟩:=rS I.hok e
  refine⟨dd.typeIs,λb q=> ?_,hd⟩
  cases q;obtain⟨ob,_,_,h1,h2,_⟩:=dd;exact⟨ob,h1,h2.2.1⟩
section
variable {X:Cx}{pins:List (Addr×Obj)}{σ:St}{H:Hp}{s:LB}{a:Addr}{y d:V}{u r:Ly}{o:Option V}{A:Mh}{E:Ly->LB->Prop}
theorem HR {Q:Ly->LB->Prop}(hu:A.units+1<cLine)(I:Inv X pins σ H s)(g:DGet H a y o)(ry:RelV y u)(h:∀w' s',Inv X pins σ H s'->RelV (o.getD .non) w'->Q w' s') :
  wpAny (model X.prog X.w) A (call (.builtin "dict.get") [.ref a,u]) Q E s:=by
 rcases g with⟨kvs,k,e,ey,l⟩ | ⟨kvs,k,b,e,ey,eb,l⟩
 ·subst ey
  obtain⟨z,hd,vs,rel,dd⟩:=rW I.hok e;refine call_meetsIn Pn dd.typeIs QL (Qn _ _) (meets_dict_get (c9 X.prog X.w) a (vV ry) hd) ⟨_,dd.mapOf,h _ _ (I.tok _) ?_⟩
  rw[l];exact(rel.val k).getD rfl
 ·subst ey
  cases (show u=LV b from ry)
  obtain⟨z,hd,xs,rel,dd⟩:=rS I.hok e;refine call_meetsIn Pn dd.typeIs QL (Qn _ _) (meetsH_dict_get (Qm (c9 X.prog X.w)) a b hd) ⟨Ob hu,k,xs,mO I.hok eb,dd,h _ _ (I.tok _) ?_⟩
  rw[l];exact(rel.val k).getD rfl
end
def FV (td ty:TE):TE:=λσ H Q=>td σ H λx H1=> ∃a,x= .ref a/\IsD H1 a/\ty σ H1 λy H2=> ∃o,DGet H2 a y o/\Q (o.getD .non) H2
section
variable {X:Cx}{o e f:Expr}{apos cpos:Pos}{td ty tx:TE}
theorem Be (hu:X.A.units+1<cLine)(ho:PE X o td)(he:PE X e ty)(m:M1 X o "get" apos e cpos):PE X (.Call (.Attribute o "get" apos) [e] [] cpos) (FV td ty):=by
 intro pins s σ H Q I h;refine wpAny_Call_method m.base m.few m.line PySem.F.plainAttrs_dict Pn PySem.F.type_dict_get (cE (ho pins s σ H _ I h) λu s1 hh_=> ?_)
 obtain⟨x,H1,I1,rx,a,ex,d,q1⟩:=hh_;subst ex;obtain rfl:u=LV a:=rx;obtain⟨t1,t2,_⟩:=Hy I1 d;refine⟨t1,t2,?_⟩
 rw[m.trees];refine O8 rfl (Ot (OR (cE (he pins s1 σ H1 _ I1 q1) λiv s2 ⟨y,H2,I2,ry,ov,g,q2⟩=>Pb ?_)))
 exact HR hu I2 g ry λw' s3 I3 rw'=>⟨_,H2,I3,rw',q2⟩
end
end L2
namespace Tr
open PySem PySem.Spec PyProof.Rows L2
theorem DGet.Lc {H:Hp}{a b:Addr}{kvs:List (List Key×V)}{k:List Key}(e:Rd H a (.dT kvs))(eb:H b=some (.tup (k.map kV))):DGet H a (.ref b) (iD kvs k):=.inr ⟨kvs,k,b,e,rfl,eb,rfl⟩
theorem lh {k:Nat}{A:Mh}(h:Room k A):A.units+1<cLine:=by have:=h.un;omega
theorem pJ {K:Lu}{O:Ow}{H:Hp}:∀{l:List T} {vs:List V} {k:List Key},pK l=some k->Reps K O H l vs->vs=k.map kV
 | [],vs,k,h,r=>by cases Reps.AC.mp r;cases h;rfl
 | t::l,vs,k,h,r=>by
  obtain⟨v,ws,rfl,p,q⟩:=Reps.me.mp r;unfold pK at h
  cases e1:Fq t with
  | none=>rw[e1]at h;cases h
  | some a=>
   cases e2:pK l with
   | none=>rw[e1,e2]at h;cases h
   | some b=>
    rw[e1,e2]at h;cases h;rw[pJ e2 q,Lx]
    congr 1
    cases t with
    | int i=>cases e1;exact Rep.Da.mp p
    | str x=>cases e1;exact Rep.Gc.mp p
    | _=>cases e1
theorem il {K:Lu}{O:Ow}{H:Hp}{y:T}{v:V}{k:List Key}(h:keyOf y=some k)(r:Rep K O H y v):∃b,v= .ref b/\H b=some (.tup (k.map kV)):=by
 cases y with
 | tup l=>
  obtain⟨a,vs,e1,_,e3,e4⟩:=Rep.Do.mp r;rw[pJ h e4]at e3
  exact⟨a,e1,e3⟩
 | _=>cases h
theorem mj {K:Lu}{O:Ow}{H:Hp}{k:List Key}:∀{ks ts:List T} {kvs:List (List Key×V)},ks.map keyOf=kvs.map (λp=>some p.1)->Reps K O H ts (kvs.map (·.2))->match lq ks ts k with
  | some t=> ∃v,iD kvs k=some v/\Rep K O H t v
  | none=>iD kvs k=none
 | [],ts,kvs,h,r=>by
  cases kvs with
  | nil=>unfold lq;exact Ao
  | cons _ _=>cases h
 | k'::ks,ts,kvs,h,r=>by
  cases kvs with
  | nil=>cases h
  | cons p kvs=>
   rw[Lx,Lx]at h;injection h with h1 h2
   rw[Lx]at r
   cases ts with
   | nil=>have:=Reps.AC.mp r;cases this
   | cons t ts=>
    obtain⟨v,ws,e,q1,q2⟩:=Reps.me.mp r;injection e with e1 e2
    subst e1 e2;unfold lq
    by_cases hk:keyOf k'=some k
    ·rw[if_pos hk]
     rw[h1]at hk;injection hk with hk
     exact⟨_,gJ hk,q1⟩
    ·rw[if_neg hk]
     have hk2:¬ p.1=k:=λz=>hk (by rw[h1,z])
     rw[gK hk2];exact mj h2 q2
theorem sP {κ:Type}[DecidableEq κ]{k:κ}{p:κ×V}{r:List (κ×V)}{v:V}(h:¬ p.1=k):dQ (p::r) k v=p::dQ r k v:=by
 unfold dQ;rw[N6,decide_eq_false h,Qs]
 by_cases q:(r.any λkv=>decide (kv.1=k))=true
 ·rw[if_pos q,if_pos q,Lx,if_neg h]
 ·rw[if_neg q,if_neg q];rfl
theorem sQ {κ:Type}[DecidableEq κ]{k:κ}{p:κ×V}{r:List (κ×V)}{v:V}(h:p.1=k)(hn:∀q∈r,q.1≠k):dQ (p::r) k v=(p.1,v)::r:=by
 unfold dQ;rw[N6,decide_eq_true h,SF,if_pos rfl,Lx,if_pos h]
 congr 1
 conv=>rhs;rw[<-To r]
 exact L9 λq hq=>if_neg (hn q hq)
theorem mi {K:Lu}{O:Ow}{H:Hp}{kT vT:T}{k:List Key}{v:V}(hk:keyOf kT=some k)(hv:Rep K O H vT v):∀{ks ts:List T} {kvs:List (List Key×V)},ks.map keyOf=kvs.map (λp=>some p.1)->Reps K O H ts (kvs.map (·.2))->(kvs.map (·.1)).Nodup →
  (hG kT vT ks ts).1.map keyOf=(dQ kvs k v).map (λp=>some p.1)/\Reps K O H (hG kT vT ks ts).2 ((dQ kvs k v).map (·.2))
 | [],ts,kvs,h,r,_=>by
  cases kvs with
  | nil=>
   unfold hG;refine⟨?_,Reps.FS hv Reps.GE⟩
   simp[dQ,hk]
  | cons _ _=>cases h
 | k'::ks,ts,kvs,h,r,hn=>by
  cases kvs with
  | nil=>cases h
  | cons p kvs=>
   rw[Lx,Lx]at h;injection h with h1 h2
   rw[Lx]at r;rw[Lx]at hn;obtain⟨n1,n2⟩:=L7.mp hn
   cases ts with
   | nil=>have:=Reps.AC.mp r;cases this
   | cons t ts=>
    obtain⟨v',ws,e,q1,q2⟩:=Reps.me.mp r;injection e with e1 e2
    subst e1 e2;unfold hG
    by_cases hz:keyOf k'=keyOf kT
    ·rw[if_pos hz]
     have hp:p.1=k:=by rw[hz,hk]at h1;injection h1 with h1;exact h1.symm
     rw[sQ hp λq hq z=>n1 (by rw[hp,<-z];exact List.mem_map_of_mem hq)]
     exact⟨by rw[Lx,Lx,h1,h2],Reps.FS hv q2⟩
    ·rw[if_neg hz]
     have hp:¬ p.1=k:=λz=>hz (by rw[h1,z,hk])
     obtain⟨a1,a2⟩:=mi hk hv h2 q2 n2;rw[sP hp];exact⟨by rw[Lx,Lx,h1,a1],Reps.FS q1 a2⟩
theorem EO {H:Hp}{kvs:List (List Key×V)}{xs:List (List Key×Addr×Ly)}(rel:KT H kvs xs):kvs.map (·.1)=xs.map (·.1):=by
 induction rel with
 | nil=>rfl
 | cons h t ih=>rw[Lx,Lx,ih,h.1]
theorem we {X:Cx}{pins:List (Addr×Obj)}{σ:L2.St}{H:Hp}{s:LB}{a:Addr}{kvs:List (List Key×V)}(I:Inv X pins σ H s)(e:H a=some (.dT kvs)):(kvs.map (·.1)).Nodup/\kvs.length<=sizeLine:=by
 obtain⟨z,_,xs,rel,_,_,_,_,_,_,_,_,hn⟩:=Cv I.hok e;rw[EO rel];exact⟨hn,z⟩
section
variable {X:Cx}{a b:Expr}{fa fb:En->Rs T}{pos:Pos}
theorem Jb (hu:X.A.units+1<cLine)(ha:cY X a fa)(hb:cY X b fb)(hs:Ac b:=by intro _ _;rfl):cY X (.Subscript a b pos) (o2 bB fa fb):=by
 refine PE.imp (yb hu ha hb hs) λσ H Q ⟨Z,O,E,hq⟩=> ?_
 obtain⟨Z1,O1,E1,h1⟩:=bu E hq;refine⟨Z1,O1,E1,Post.mono h1 λt H1 s1 q v r=> ?_⟩
 obtain⟨t',r',s',E',q'⟩:=q v r;obtain⟨Z2,O2,E2,h2⟩:=bu (f:=fb) E' q';refine⟨Z2,O2,E2,Post.mono h2 λt2 H2 s2 q2 v2 r2=> ?_⟩
 obtain⟨t2',r2',s2',E2',q2'⟩:=q2 v2 r2
 have r'':=r'.same s2';unfold bB at q2'
 split at q2'
 ·rename_i ks vs k hk
  split at q2'
  ·rename_i x hx
   obtain⟨a,kvs,e1,e2,e3,e4,e5⟩:=Rep.GM.mp r'';obtain⟨b,f1,f2⟩:=il hk r2'
   have g:=mj (k:=k) e4 e5;rw[hx]at g;obtain⟨w,g1,g2⟩:=g;exact⟨a,w,e1,by rw[f1,<-g1];exact DGet.Lc e3 f2,q2' H2 (Same.refl H2) w g2⟩
  ·exact q2'.elim
 ·exact q2'.elim
end
end Tr
namespace Tr
open PySem PySem.Spec PyProof.Rows L2
open PySem.SeqAt
theorem BA {A:Mh}{s:LB}{x:T}{ux:Ly}(rx:ReV s x ux)(hu:A.units+60<cLine){l:List T}{us:List Ly}(hd:x.dep<=60\/deps l<=60)(r:ReVs s l us) :
  ∃e:Ly->Bool,(∀y∈us,EqAt A s y ux (e y))/\us.map e=l.map λt=>bo t x:=by
 classical
 have ex:∀y∈us,∃t∈l,ReV s t y:=λy hy=>by
  obtain⟨i,hi,rfl⟩:=N5 hy
  have hl:=r.length
  have e1:l[i]? =some l[i]:=by simp
  obtain⟨u,q1,q2⟩:=r.get e1
  have:us[i]? =some us[i]:=by simp
  rw[this]at q1;cases q1;exact⟨l[i],M9 _,q2⟩
 let e:Ly->Bool:=λy=>decide (∃t∈l,ReV s t y/\bo t x=true)
 have dep:∀t∈l,t.dep<=60\/x.dep<=60:=λt ht=>by
  rcases hd with h | h
  ·exact .inr h
  ·obtain⟨i,hi,rfl⟩:=N5 ht
   exact .inl (Md (jS (i:=i) (by simp)) h)
 have uniq:∀y t t',ReV s t y->ReV s t' y->bo t x=bo t' x:=λy t t' z z'=>by
  rw[<-mn t,<-mn t',ReV.nf z z']
 have agree:∀y t,t∈l->ReV s t y->e y=bo t x:=λy t h z=>by
  show decide (∃t∈l,ReV s t y/\bo t x=true)=bo t x
  cases q:bo t x with
  | true=>exact decide_eq_true ⟨t,h,z,q⟩
  | false=>
   refine decide_eq_false ?_
   rintro ⟨t',h',z',q'⟩
   rw[<-uniq y t t' z z',q]at q';cases q'
 refine⟨e,λy hy=> ?_,?_⟩
 ·obtain⟨t,h,z⟩:=ex y hy
  rw[agree y t h z];exact(Em 60 A s t x y ux (dep t h) hu z rx).1
 ·have go:∀(l':List T) (us':List Ly),(∀t∈l',t∈l)->ReVs s l' us'->us'.map e=l'.map λy=>bo y x:=by
   intro l'
   induction l' with
   | nil=>intro us' _ r';rw[ReVs.AC.mp r'];rfl
   | cons t l' ih=>
    intro us' sub r';obtain⟨u,ws,rfl,p,q⟩:=ReVs.me.mp r';rw[Lx,Lx,ih ws (λt ht=>sub t (Lw _ ht)) q,agree u t (sub t Lz) p]
  exact go l us (λ_ h=>h) r
theorem pR {x:T}:∀{l:List T} {n k:Nat},ku x l n=some k->n<=k/\(l.map λt=>bo t x)[k - n]? =some true/\∀m,m<k - n->(l.map λt=>bo t x)[m]? =some false
 | [],n,k,h=>by cases h
 | t::l,n,k,h=>by
  unfold ku at h
  cases q:bo t x with
  | true=>
   rw[q,if_pos rfl]at h;cases h;refine⟨LL _,?_,λm hm=>by omega⟩
   rw[Q4,Lx,q];rfl
  | false=>
   rw[q,if_neg (by decide)]at h
   obtain⟨h1,h2,h3⟩:=pR h
   have e:k - n=(k - (n+1))+1:=by omega
   refine⟨by omega,?_,λm hm=> ?_⟩
   ·rw[e,Lx,N7];exact h2
   ·cases m with
    | zero=>rw[Lx,q];rfl
    | succ m=>rw[Lx,N7];exact h3 m (by omega)
section
variable {X:Cx}{a b:Expr}{fa fb:En->Rs T}{pos apos cpos:Pos}
theorem AX (hu:X.A.units+61<cLine)(ha:cY X a fa)(hb:cY X b fb)(hn:bz b=true:=by rfl)
  (hbase:MY a "index" X.env (eval a X.env)=eval a X.env:=by rfl) (hline:(apos.endLine == cpos.line)=true:=by rfl):cY X (.Call (.Attribute a "index" apos) [b] [] cpos) (oL ig fa fb):=by
 have hs:LP [b] X.env=(false,eval b X.env)::LP [] X.env:=ba hn;intro pins s σ H Q I ⟨Z,O,E,hq⟩;refine QQ hbase (by rw[hs];rfl) hline rfl (cE (ha pins s σ H _ I (bu E hq)) λv s1 hh_=> ?_)
 obtain⟨x,H1,I1,r1,t,rt,s',E',q1⟩:=hh_
 cases t with
 | lst l=>
  obtain⟨c,vs,e1,e2,e3,e4⟩:=Rep.Fk.mp rt;subst e1;obtain rfl:v=LV c:=r1;obtain⟨h1,h2⟩:=Aq I1 (show RelV (.ref c) (.ref c)from rfl) (.inl ⟨rfl,vs,SqL.of e3⟩)
  refine⟨_,_,M4,Qo,Qp,h1,h2,?_⟩
  rw[hs];refine O8 rfl (Ot (OR (cE (hb pins s1 σ H1 _ I1 (bu (f:=fb) E' q1)) λu s2 ⟨y,H2,I2,r2,t2,rt2,s'',E'',q2⟩=>Pb ?_)))
  unfold ig at q2
  split at q2
  ·rename_i l' heq
   cases heq
   split at q2
   ·rename_i hd3
    obtain⟨hd,hnx,hny⟩:=hd3
    split at q2
    ·rename_i k hk
     have rv:=Rep.val I2 (show(T.lst l).nd=true by unfold T.nd;exact hny) (rt.same s'') (show RelV (.ref c) (.ref c)from rfl)
     unfold ReV at rv;obtain⟨c',us,ec,hl,rs⟩:=rv;cases ec;obtain⟨⟨cls,dd,data,sl⟩,ho,hc,n,hdd⟩:=id hl;simp only at hc hdd;subst hc hdd;obtain⟨e,he,ha⟩:=BA (A:=X.A.in1) (Rep.val I2 hnx rt2 r2) (by show X.A.units+1+60<cLine;omega) hd rs
     obtain⟨_,k1,k2⟩:=pR hk;rw[P9]at k1 k2;rw[<-ha]at k1 k2
     have hkl:k<us.length:=by have:=(LM.mp k1).1;rwa [LA]at this
     have hz:us.length<=sizeLine:=by
      have z:=(I2.Ku (s'' _ _ e3)).1
      have h3:=rs.length
      have h4:=e4.length;omega
     refine Oo Sh ⟨_,ho,rfl⟩ RQ (Rv _ _) (list_indexAt c us.toArray n dd sl u e k (by simpa using hkl) (by rw[NG]at hz;omega) ?_ ?_) ⟨ho,λy hy=>he y (by simpa using hy),?_⟩
     ·have:=(LM.mp k1).2
      rw[OF]at this
      simpa using this
     ·intro m hm hmk
      have:=(LM.mp (k2 m hmk)).2
      rw[OF]at this
      simpa using this
     ·exact⟨.int _,H2,I2.tok _,⟨_,rfl⟩,q2 H2 (Same.refl H2) _ (Rep.IR _)⟩
    ·exact q2.elim
   ·exact q2.elim
  ·rename_i hno
   exact(hno l rfl).elim
 | _=>exact q1.elim
theorem GF (hu:X.A.units+1<cLine)(ha:cY X a fa)(hb:cY X b fb)(hn:bz b=true:=by rfl)
  (hbase:MY a "get" X.env (eval a X.env)=eval a X.env:=by rfl) (hline:(apos.endLine == cpos.line)=true:=by rfl):cY X (.Call (.Attribute a "get" apos) [b] [] cpos) (oD jv fa fb):=by
 have hs:LP [b] X.env=(false,eval b X.env)::LP [] X.env:=ba hn;refine PE.imp (Be hu ha hb ⟨hbase,by rw[hs];rfl,hline,by rw[hs];rfl⟩) λσ H Q ⟨Z,O,E,hq⟩=> ?_
 obtain⟨Z1,O1,E1,h1⟩:=bu E hq;refine⟨Z1,O1,E1,Post.mono h1 λt H1 s1 q v r=> ?_⟩
 obtain⟨t',r',s',E',q'⟩:=q v r
 cases t' with
 | dct ks vs=>
  obtain⟨c,kvs,e1,e2,e3,e4,e5⟩:=Rep.GM.mp r';refine⟨c,e1,.inr ⟨kvs,e3⟩,?_⟩
  obtain⟨Z2,O2,E2,h2⟩:=bu (f:=fb) E' q';refine⟨Z2,O2,E2,Post.mono h2 λt2 H2 s2 q2 v2 r2=> ?_⟩
  obtain⟨t2',r2',s2',E2',q2'⟩:=q2 v2 r2;unfold jv at q2'
  split at q2'
  ·rename_i ks' vs' k heq hk
   cases heq;obtain⟨b,f1,f2⟩:=il hk r2'
   have g:=mj (k:=k) e4 (e5.same s2');refine⟨iD kvs k,by rw[f1];exact DGet.Lc (Rd.K1 (P:=zq) (SameO.of s2') (λz=>z) e3) f2,?_⟩
   cases hx:lq ks vs k with
   | some z=>
    rw[hx]at g q2';obtain⟨w,g1,g2⟩:=g;rw[g1]
    exact q2' H2 (Same.refl H2) w g2
   | none=>
    rw[hx]at g q2';rw[g];exact q2' H2 (Same.refl H2) .non Rep.KW
  ·exact q2'.elim
 | _=>exact q'.elim
theorem GU (hu:X.A.units+1<cLine):OpT X (Mz .In) Cz:=by
 intro pins s σ H O x y vx vy ux uy Q I hf rx ry r1 r2 hp;unfold Cz at hp
 split at hp
 ·rename_i ks vs k hk
  obtain⟨c,kvs,e1,e2,e3,e4,e5⟩:=Rep.GM.mp ry;obtain⟨b,f1,f2⟩:=il hk rx;subst e1 f1;obtain rfl:uy=LV c:=r2
  have g:=mj (k:=k) e4 e5
  have hsome:(lq ks vs k).isSome=(iD kvs k).isSome:=by
   cases hx:lq ks vs k with
   | some z=>rw[hx]at g;obtain⟨w,g1,_⟩:=g;rw[g1];rfl
   | none=>rw[hx]at g;rw[g];rfl
  refine d_in hu I (DGet.Lc e3 f2) r1 λs' I'=>⟨.bl _,H,I',rfl,?_⟩
  rw[<-hsome];exact hp H (Same.refl H) _ (Rep.bl_ _)
 ·exact hp.elim
end
end Tr
namespace Tr
open PySem PySem.Spec PyProof.Rows L2
section
variable {X:Cx}{a b c:Expr}{fa fb fc:En->Rs T}{pos p2 p3 p4:Pos}{x:Str}
theorem Gm (i:Nat)(hu:X.A.units+1<cLine)(hb:cY X b fb)(hc:cY X c fc)(hN:X.N[i]? =some x:=by rfl)(hv:sd X.env.scope x:=by first | exact MR rfl | exact MF (MR rfl) | exact MF (MF rfl))
  (hd:gE x:=by decide) (hcd:(x == ("__classdict__" : Str))=false:=by decide)
  (hs:MK c (some (.Subscript (.Name x p2) b p3)) pos.line X.env=pure false:=by rfl):qh X (.Assign [.Subscript (.Name x p2) b p3] c pos) (zh i fb fc):=by
 intro pins s σ H D I ⟨Z,B,M,E,h⟩;refine x6 hu (iu hN hv hd hcd) hb hc hs pins s σ H D I ?_
 unfold zh at h
 split at h
 ·rename_i ks vs hl
  obtain⟨v0,e1,d,kvs,rfl,hM,e3,e4,e5⟩:=E.env.own i _ hl;obtain⟨nd,nz⟩:=we I e3;refine⟨Z,OO B M,E.o,?_⟩
  cases q:fc Z with
  | bad=>rw[q]at h;exact h.elim
  | err c=>rw[q]at h;exact PostF.xa h
  | ok vT=>
   rw[q,aH]at h;intro H1 s1 v r;refine⟨.ref d,e1,Z,OO B M,(E.same s1).o,?_⟩
   have h1:=h.later (SameO.of s1) (P1:=M.u) λa z=> .inl z
   cases q2:fb Z with
   | bad=>rw[q2]at h1;exact h1.elim
   | err c=>rw[q2]at h1;exact PostF.xa h1
   | ok kT=>
    rw[q2,aH]at h1;intro H2 s2 y ry
    cases q3:keyOf kT with
    | none=>rw[q3]at h1;exact h1.elim
    | some k=>
     rw[q3]at h1
     have h2:=h1.later (SameO.of s2) (P1:=M.u) λa z=> .inl z
     have hlen:ks.length=kvs.length:=by have:=congrArg MD e4;simpa using this
     by_cases hz:ks.length<1000
     ·simp only[if_pos hz]at h2
      obtain⟨kb,f1,f2⟩:=il q3 ry
      have e3':=s2 _ _ (s1 _ _ e3);obtain⟨g1,g2⟩:=mi q3 (r.same s2) e4 ((e5.same s1).same s2) nd;refine⟨d,upd H2 d (.dT (dQ kvs k v)),rfl,by rw[f1];exact DPut.t e3' f2 (by rw[NG];omega),?_⟩
      have sm:SameO (M i) H2 (upd H2 d (.dT (dQ kvs k v))):=λc u e nb=>by rw[aI (λz=>nb ((hM c).mpr z))];exact e
      obtain⟨g3,g4⟩:=((E.same s1).same s2).put (o':=.dct (hG kT vT ks vs).1 (hG kT vT ks vs).2) hl e1 sm ⟨d,_,rfl,hM,aJ,g1,g2.move (P:=M i) (λa z=> .inl (.inr ⟨i,z⟩)) (λa z=> .inl z) sm⟩
      exact h2 σ _ M g4 g3 λc z=> .inl z
     ·simp only[if_neg hz]at h2
      exact h2.elim
 ·exact h.elim
theorem uI {k:List Key}:∀{kvs:List (List Key×V)} {as:List Addr} {v:V},kvs.map (·.2)=as.map V.ref->iD kvs k=some v->∃b∈as,v= .ref b
 | [],as,v,_,h=>by cases h
 | p::kvs,as,v,e,h=>by
  cases as with
  | nil=>cases e
  | cons b0 bs=>
   rw[Lx,Lx]at e;injection e with e1 e2
   by_cases hk:p.1=k
   ·rw[gJ hk]at h
    cases h;exact⟨b0,Lz,e1⟩
   ·rw[gK hk]at h
    obtain⟨b,hb,e⟩:=uI e2 h;exact⟨b,Lw _ hb,e⟩
theorem ve {K:Lu}{O:Ow}{H:Hp}{k:List Key}{r:List T×List T}:∀{ks:List T} {rows:List (List T×List T)} {kvs:List (List Key×V)} {as:List Addr},ks.map keyOf=kvs.map (λp=>some p.1)->kvs.map (·.2)=as.map V.ref->RowsR K O H rows as->qy ks rows k=some r →
  ∃b kv,iD kvs k=some (.ref b)/\b∈as/\H b=some (.dT kv)/\r.1.map keyOf=kv.map (λp=>some p.1)/\Reps K O H r.2 (kv.map (·.2))
 | [],rows,kvs,as,h1,h2,h3,h=>by unfold qy at h;cases h
 | k'::ks,rows,kvs,as,h1,h2,h3,h=>by
  cases rows with
  | nil=>unfold qy at h;cases h
  | cons r0 rows=>
   cases kvs with
   | nil=>cases h1
   | cons p kvs=>
    rw[Lx,Lx]at h1;injection h1 with h1 h1'
    obtain⟨b0,bs,kv0,rfl,e2,e3,e4,e5⟩:=h3;rw[Lx,Lx]at h2;injection h2 with h2 h2'
    unfold qy at h
    by_cases hk:keyOf k'=some k
    ·rw[if_pos hk]at h
     cases h;rw[h1]at hk;injection hk with hk
     exact⟨b0,kv0,by rw[gJ hk,h2],Lz,e2,e3,e4⟩
    ·rw[if_neg hk]at h
     have hk2:¬ p.1=k:=λz=>hk (by rw[h1,z])
     obtain⟨b,kv,g1,g2,g3⟩:=ve h1' h2' e5 h;exact⟨b,kv,by rw[gK hk2];exact g1,Lw _ g2,g3⟩
theorem u4 {K:Lu}{O:Ow}{H H':Hp}{k:List Key}{xr:List T×List T}{b:Addr}{kv':List (List Key×V)}(hO:O b)(hS:SameO (λc=>c=b) H H')(hb:H' b=some (.dT kv'))(hx1:xr.1.map keyOf=kv'.map (λp=>some p.1))(hx2:Reps K O H' xr.2 (kv'.map (·.2))) :
  ∀{ks:List T} {rows:List (List T×List T)} {kvs:List (List Key×V)} {as:List Addr},ks.map keyOf=kvs.map (λp=>some p.1)->kvs.map (·.2)=as.map V.ref->RowsR K O H rows as->as.Nodup->iD kvs k=some (.ref b)->RowsR K O H' (qx k xr ks rows) as
 | [],rows,kvs,as,h1,h2,h3,hn,h=>by
  cases kvs with
  | nil=>cases h
  | cons _ _=>cases h1
 | k'::ks,rows,kvs,as,h1,h2,h3,hn,h=>by
  have inO:∀a,a=b->O a\/Nw K H a:=λa z=> .inl (z▸hO)
  cases kvs with
  | nil=>cases h1
  | cons p kvs=>
   rw[Lx,Lx]at h1;injection h1 with h1 h1'
   cases rows with
   | nil=>unfold RowsR at h3;subst h3;cases h2
   | cons r0 rows=>
    obtain⟨b0,bs,kv0,rfl,e2,e3,e4,e5⟩:=h3;rw[Lx,Lx]at h2;injection h2 with h2 h2'
    obtain⟨n1,n2⟩:=L7.mp hn;unfold qx
    by_cases hk:keyOf k'=some k
    ·rw[if_pos hk]
     rw[h1]at hk;injection hk with hk
     rw[gJ hk,h2]at h;cases h;exact⟨b,bs,kv',rfl,hb,hx1,hx2,e5.move (P:=λc=>c=b) inO (λa z=> .inl z) hS λc hc z=>n1 (z▸hc)⟩
    ·rw[if_neg hk]
     have hk2:¬ p.1=k:=λz=>hk (by rw[h1,z])
     rw[gK hk2]at h;obtain⟨b',hb',e'⟩:=uI h2' h;cases e'
     have hne:b0≠b:=λz=>n1 (z▸hb')
     exact⟨b0,bs,kv0,rfl,hS _ _ e2 hne,e3,e4.move (P:=λc=>c=b) inO (λa z=> .inl z) hS,u4 hO hS hb hx1 hx2 h1' h2' e5 n2 h⟩
theorem Dq (i:Nat)(hu:X.A.units+1<cLine)(ha:cY X a fa)(hb:cY X b fb)(hc:cY X c fc)(hsl:Ac a:=by intro _ _;rfl)(hN:X.N[i]? =some x:=by rfl)(hv:sd X.env.scope x:=by first | exact MR rfl | exact MF (MR rfl) | exact MF (MF rfl))
  (hd:gE x:=by decide) (hcd:(x == ("__classdict__" : Str))=false:=by decide)
  (hs:MK c (some (.Subscript (.Subscript (.Name x p2) a p3) b p4)) pos.line X.env=pure false:=by rfl):qh X (.Assign [.Subscript (.Subscript (.Name x p2) a p3) b p4] c pos) (jo i fa fb fc):=by
 intro pins s σ H D I ⟨Z,B,M,E,h⟩;refine x6 hu (yb hu (iu hN hv hd hcd) ha hsl) hb hc hs pins s σ H D I ?_
 unfold jo at h
 split at h
 ·rename_i ks rows hl
  obtain⟨v0,e1,d,kvs,as,rfl,hM,na,nas,e5,e6,e7,e8⟩:=E.env.own i _ hl;refine⟨Z,OO B M,E.o,?_⟩
  cases q:fc Z with
  | bad=>rw[q]at h;exact h.elim
  | err c=>rw[q]at h;exact PostF.xa h
  | ok vT=>
   rw[q,aH]at h;intro H1 s1 v r;refine⟨.ref d,e1,Z,OO B M,(E.same s1).o,?_⟩
   have h1:=h.later (SameO.of s1) (P1:=M.u) λa z=> .inl z
   cases q2:fa Z with
   | bad=>rw[q2]at h1;exact h1.elim
   | err c=>rw[q2]at h1;exact PostF.xa h1
   | ok aT=>
    rw[q2,aH]at h1;intro H2 s2 y ry
    have h2:=h1.later (SameO.of s2) (P1:=M.u) λa z=> .inl z
    have E2:=(E.same s1).same s2
    have s12:=s1.trans s2
    split at h2
    ·rename_i ka rr hk
     obtain⟨ka',q3,hk⟩:=Option.bind_eq_some_iff.mp hk;obtain⟨r',q4,hk⟩:=NJ.mp hk;cases hk;obtain⟨rb,kv,g1,g2,g3,g4,g5⟩:=ve e6 e7 e8 q4;obtain⟨ndr,nzr⟩:=we I g3;obtain⟨ab,f1,f2⟩:=il q3 ry;refine⟨d,.ref rb,rfl,by rw[f1,<-g1];exact DGet.t (s12 _ _ e5) f2,Z,OO B M,E2.o,?_⟩
     cases q5:fb Z with
     | bad=>rw[q5]at h2;exact h2.elim
     | err c=>rw[q5]at h2;exact PostF.xa h2
     | ok bT=>
      rw[q5,aH]at h2;intro H3 s3 y2 ry2
      have h3:=h2.later (SameO.of s3) (P1:=M.u) λa z=> .inl z
      have s13:=s12.trans s3
      have E3:=E2.same s3
      have hlen:rr.1.length=kv.length:=by have:=congrArg MD g4;simpa using this
      by_cases hz:(keyOf bT).isSome=true/\rr.1.length<1000
      ·rw[if_pos hz]at h3
       obtain⟨kb,q6⟩:=OJ.mp hz.1;obtain⟨bb,f3,f4⟩:=il q6 ry2;obtain⟨u1,u2⟩:=mi q6 ((r.same s2).same s3) g4 (g5.same s13) ndr;refine⟨rb,upd H3 rb (.dT (dQ kv kb v)),rfl,by rw[f3];exact DPut.t (s13 _ _ g3) f4 (by rw[NG];omega),?_⟩
       have mrb:M i rb:=(hM rb).mpr (.inr g2)
       have hOb:OO B M rb:=.inr ⟨i,mrb⟩
       have sm1:SameO (λc=>c=rb) H3 (upd H3 rb (.dT (dQ kv kb v))):=λc u e nb=>by rw[aI nb];exact e
       have sm:SameO (M i) H3 (upd H3 rb (.dT (dQ kv kb v))):=λc u e nb=>sm1 c u e λz=>nb (z▸mrb)
       have inO:∀a,a=rb->OO B M a\/Nw X.K H3 a:=λa z=> .inl (z▸hOb)
       have dne:d≠rb:=λz=>na (z▸g2)
       obtain⟨g6,g7⟩:=E3.put (o':=.dd ks (qx ka (hG bT vT rr.1 rr.2) ks rows)) hl e1 sm ⟨d,kvs,as,rfl,hM,na,nas,sm1 _ _ (s13 _ _ e5) dne,e6,e7,u4 hOb sm1 aJ u1 (u2.move (P:=λc=>c=rb) inO (λa z=> .inl z) sm1) e6 e7 (e8.same s13) nas g1⟩
       exact h3 σ _ M g7 g6 λc z=> .inl z
      ·rw[if_neg hz]at h3
       exact h3.elim
    ·exact h2.elim
 ·exact h.elim
end
end Tr
namespace PySem
open Sem (wp)
namespace F
theorem lk_list_keys:Ph (.type "list") "keys" =pure none:=by rw[O5,NQ];kernel_rfl
theorem lk_list_getattr:Ph (.type "list") "__getattr__" =pure none:=by rw[O5,NQ];kernel_rfl
end F
section
variable {prog:L1}{w:MG}{A:Mh}{E:Ly->LB->Prop}{h:Heap}{g:Array RX}{d:Drawn}{t:Nat}{os:Sx}{a:Addr}{its:Array Ly}{n:Nat}
theorem nN {tk:Tok}{Q:Fin->LB->Prop}(hx:h.get? a=some { cls:=.type "list",data:=.seq its n })(hh:A.handled=none)
  (hq:∀h' tk' e,Tq h h' e (.ref a) "keys"->E (.ref e) ⟨h',g,d,tk',os⟩) :
  wpAny (model prog w) A (Builtin.«object.__getattribute__» ⟨[.ref a,.str "keys" tk],[]⟩) Q E ⟨h,g,d,t,os⟩:=by
 have hT:(⟨h,g,d,t,os⟩:LB).TypeIs (.ref a) "list":=⟨_,hx,rfl⟩
 have f4:=F.lk_list_keys
 repeat (any_goals (first | assumption | wp_step))
 exact wpAny_raiseAttrError hh (λh' tk e hx=>hq h' tk e hx) (attrMsg_fits (by decide+kernel) (by rw[NG];decide))
theorem pH {tk:Tok}{R:TR->LB->Prop}(hx:h.get? a=some { cls:=.type "list",data:=.seq its n })(hh:A.handled=none)
  (hq:∀h' tk' e,Tq h h' e (.ref a) "keys"->R (.error (.ref e)) ⟨h',g,d,tk',os⟩) :
  codeAny (model prog w) A (.call (.builtin "list.__getattribute__") ⟨[.ref a,.str "keys" tk],[]⟩) R ⟨h,g,d,t,os⟩:=
 PF NZ.plain F.entry_list_ga (NZ.check _ _ _ _ _ _ _ _ (show(⟨h,g,d,t,os⟩:LB).TypeIs (.ref a) "list" from⟨_,hx,rfl⟩) (F.args_list_getattribute_2 _ _) (nN hx hh hq))
theorem pI {Q:Option Ly->LB->Prop}(hx:h.get? a=some { cls:=.type "list",data:=.seq its n })(hh:A.handled=none)
  (hq:∀h' tk',(∀b o,h.get? b=some o->h'.get? b=some o)->Q none ⟨h',g,d,tk',os⟩):wpAny (model prog w) A (getAttr? (.ref a) "keys") Q E ⟨h,g,d,t,os⟩:=by
 have hT:∀tk,(⟨h,g,d,tk,os⟩:LB).TypeIs (.ref a) "list":=λ_=>⟨_,hx,rfl⟩
 have f1:=sub_AttributeError
 have f2:=NZ.lookup
 have f3:=NZ.bind (.ref a)
 have f5:=F.lk_list_getattr;unfold getAttr? getAttrBy? getAttrBy
 repeat (any_goals (first | assumption | exact hT _ | wp_step))
 refine pH hx hh λh' tk' e hx'=> ?_
 obtain⟨t',u',he⟩:=hx'.there
 repeat (any_goals (first | assumption | exact hT _ | wp_step))
 exact hq _ _ hx'.keeps
end
end PySem
namespace PySem.F
theorem entry_dict_update_loop:entryFor table "dict.update.loop" =some Builtin.«dict.update.loop»:=entryFor_of_tree (by kernel_rfl)
theorem plain_dict_update_loop:plainId "dict.update.loop" =true:=by decide+kernel
end PySem.F
namespace Tr
open PySem PySem.Spec PyProof.Rows L2
def fJ (kvs:List (List Key×V)):List (List Key×V)->List (List Key×V)
 | [] =>kvs
 | p::ps=>fJ (dQ kvs p.1 p.2) ps
def PairsAt (H:Hp):List V->List (List Key×V)->Prop
 | [],ps=>ps= []
 | x::xs,ps=> ∃b kb p r,ps=p::r/\x= .ref b/\H b=some (.tup [.ref kb,p.2])/\H kb=some (.tup (p.1.map kV))/\PairsAt H xs r
theorem PairsAt.upd {H:Hp}{d:Addr}{kvs:List (List Key×V)}{o:HO}(hd:H d=some (.dT kvs)):∀{xs:List V} {ps:List (List Key×V)},PairsAt H xs ps->PairsAt (L2.upd H d o) xs ps
 | [],_,h=>h
 | x::xs,_,⟨b,kb,p,r,e1,e2,e3,e4,e5⟩=>⟨b,kb,p,r,e1,e2,by rw[aI (lT e3 hd (λz=>nomatch z))];exact e3,by rw[aI (lT e4 hd (λz=>nomatch z))];exact e4,e5.upd hd⟩
theorem si {H:Hp}{d:Addr}{a b:HO}:upd (upd H d a) d b=upd H d b:=by
 funext c
 by_cases h:c=d
 ·rw[h,aJ,aJ]
 ·rw[aI h,aI h,aI h]
section
variable {X:Cx}{pins:List (Addr×Obj)}{σ:L2.St}{A:Mh}{res:Ly}{R:TR->LB->Prop}{d l it:Addr}{xs:List V}
theorem zU (hh:A.handled=none)(hu:A.units+3<cLine):∀(k i:Nat) (s:LB) (H:Hp) (kvs ps:List (List Key×V)),xs.length - i=k->i<=xs.length->H l=some (.lst xs)->H d=some (.dT kvs)->kvs.length+(xs.length - i)<=1000->Inv X pins σ H s->s.heap.IsListIter it l i->nU X pins H it->PairsAt H (xs.drop i) ps →
  (∀s',Inv X pins σ (upd H d (.dT (fJ kvs ps))) s'->R (.ok (.ret res)) s')->codeAny (model X.prog X.w) A (.builtin "dict.update.loop" ⟨[.ref d,.ref it,rawInt i,res],[]⟩) R s:=by
 intro k
 induction k with
 | zero=>
  intro i s H kvs ps hk hi hl hd hz I hit hf hp hR;refine Re F.entry_dict_update_loop ?_
  rw[Rl F.plain_dict_update_loop _];obtain⟨z,its,n,r,hlen,e⟩:=I.Ku hl
  have hL:s.heap.IsList l its.toArray:=⟨_,e,rfl,n,rfl⟩
  show wpAny _ A.in1 (pyNext (.ref it) >>= _) _ _ s
  refine Lv (Q9 hh hit hL (by simp;omega) λh' hm=> ?_)
  show wpAny _ _ (Builtin.Dict.addKeywords d [] >>= _) _ _ _
  refine Lv (LI (LI ?_))
  have hnil:xs.drop i= []:=Pa (by omega)
  rw[hnil]at hp;unfold PairsAt at hp;subst hp
  have e2:upd H d (.dT (fJ kvs []))=H:=by
   funext b
   by_cases hb:b=d
   ·rw[hb,aJ,hd];rfl
   ·rw[aI hb]
  rw[e2]at hR
  exact hR _ (I.Ky (fp:=[it]) (t':=s.toks) (λb hb=>by rw[LZ.mp hb];exact hf) λb o hb eb=>hm b o (λz=>hb (by rw[z];exact LZ.mpr rfl)) eb)
 | succ k ih=>
  intro i s H kvs ps hk hi hl hd hz I hit hf hp hR;refine Re F.entry_dict_update_loop ?_
  rw[Rl F.plain_dict_update_loop _];obtain⟨z,its,n,r,hlen,e⟩:=I.Ku hl
  have hL:s.heap.IsList l its.toArray:=⟨_,e,rfl,n,rfl⟩
  have hlt:i<xs.length:=by omega
  have hlt':i<its.length:=by omega
  show wpAny _ A.in1 (pyNext (.ref it) >>= _) _ _ s
  refine Lv (QN hit hL (x:=its[i]) (by simp[hlt']) λh' hit' hm=> ?_)
  have I1:Inv X pins σ H { s with heap:=h' }:=I.Ky (fp:=[it]) (t':=s.toks) (λb hb=>by rw[LZ.mp hb];exact hf) λb o hb eb=>(hm.2 b (λz=>hb (by rw[z];exact LZ.mpr rfl))).trans eb
  have hdrop:xs.drop i=xs[i] ::xs.drop (i+1):=Oy hlt;rw[hdrop]at hp;obtain⟨b,kb,p,r',rfl,ex,hb,hkb,hp'⟩:=hp
  have rx:RelV xs[i] its[i]:=by
   obtain⟨u,q1,q2⟩:=r.get (LN hlt)
   rw[LN hlt']at q1
   cases q1;exact q2
  rw[ex]at rx
  have eu:its[i] =LV b:=rx;rw[eu];obtain⟨z2,its2,r2,ob,hob1,hob2,nb,hob3⟩:=(show ObjOk X.prog X.w H h' b (.tup [.ref kb,p.2])from I1.hok b _ hb)
  obtain⟨u1,us1,q1,rfl⟩:∃u1 us1,RelV (V.ref kb) u1/\its2=u1::us1:=by cases r2 with | cons a b=>exact⟨_,_,a,rfl⟩
  cases r2 with
  | cons ra rb=>
   obtain⟨u2,q2,rfl⟩:∃u2,RelV p.2 u2/\us1= [u2]:=by cases rb with | cons a b=>cases b;exact⟨_,a,rfl⟩
   obtain rfl:u1=LV kb:=q1
   show wpAny _ A.in1 (holding [LV b] _ >>= _) _ _ _
   refine Lv (O4 ?_)
   refine Lv (wpAny_tryCatch ?_)
   unfold Builtin.Dict.pairItems;refine Lv (Pv (s:={ s with heap:=h' }) (T:="tuple") ⟨ob,hob1,hob2⟩ ?_)
   rw[if_pos (by decide)]
   refine Lv (NB (s:={ s with heap:=h' }) hob1 hob3 (LI ?_))
   show wpAny _ _ (holding [LV kb,u2] (dictSet d (.ref kb) u2)) _ _ _
   refine O4 ?_
   obtain⟨zz,hds,xs2,rel,dd⟩:=Cv I1.hok hd
   have hzl:xs2.length<=sizeLine:=by rw[<-Qr rel];exact zz
   have hkl:kvs.length<sizeLine:=by rw[NG];omega
   have hl2:(dQ kvs p.1 p.2).length<=sizeLine:=by have:=ij kvs p.1 p.2;omega
   refine wpAny_dictSet_heap (hsz:=hzl) (Ob (by show A.units+1<cLine;omega)) (mO I1.hok hkb) dd λh2 dd2 hs2=> ?_
   obtain⟨q,es,ep,hq,h22,h3,h4,_,h5⟩:=dd2
   have I2:Inv X pins σ (upd H d (.dT (dQ kvs p.1 p.2))) { s with heap:=h2,toks:=s.toks+(Qm (c9 X.prog X.w)).draws p.1 }:=
    uh (s:={ s with heap:=h' }) I1 (by rw[hd];exact Oh) hs2 ⟨q,hq⟩ ⟨hl2,hds,_,(rel.put p.1 hkb q2).keeps λc ys ec=>by rw[aI (lT ec hd (λz=>nomatch z))];exact ec,q,es,ep,hq,h22,h3,h4,h5⟩
   have hld:l≠d:=lT hl hd (λz=>nomatch z)
   have hitd:it≠d:=λz=>by have:=hf.1;rw[z,hd]at this;cases this
   have hcast:(i:Int)+1=((i+1:Nat):Int):=by omega
   refine LI ⟨plainId_quiet F.plain_dict_update_loop _,?_⟩
   rw[hcast];refine ih (i+1) _ (upd H d (.dT (dQ kvs p.1 p.2))) (dQ kvs p.1 p.2) r' (by omega) (by omega) (by rw[aI hld];exact hl) aJ (by have:=ij kvs p.1 p.2;omega) I2 ?_ ⟨by rw[aI hitd];exact hf.1,hf.2⟩ (hp'.upd hd) λs' I'=> ?_
   ·obtain⟨oi,ho1,ho2,ho3⟩:=hit'
    exact⟨oi,(hs2.2 it hitd).trans ho1,ho2,ho3⟩
   ·rw[si]at I'
    exact hR s' I'
end
theorem PairsAt.same {H H':Hp}(s:Same H H'):∀{xs:List V} {ps:List (List Key×V)},PairsAt H xs ps->PairsAt H' xs ps
 | [],_,h=>h
 | x::xs,_,⟨b,kb,p,r,e1,e2,e3,e4,e5⟩=>⟨b,kb,p,r,e1,e2,s _ _ e3,s _ _ e4,e5.same s⟩
section
variable {X:Cx}{pins:List (Addr×Obj)}{σ:L2.St}{A:Mh}{E:Ly->LB->Prop}{H:Hp}{s:LB}{l:Addr}{xs:List V}{ps:List (List Key×V)}
theorem wc {Q:Ly->LB->Prop}(hh:A.handled=none)(hu:A.units+8<cLine)(I:Inv X pins σ H s)(hl:H l=some (.lst xs))(hz:xs.length<=1000)(hp:PairsAt H xs ps)
  (h:∀p s',Nw X.K H p->Inv X pins σ (upd H p (.dT (fJ [] ps))) s'->Q (.ref p) s'):wpAny (model X.prog X.w) A (call (.type "dict") [.ref l]) Q E s:=by
 have hk:X.K.lookup s.heap.objs.size=none:=by
  cases q:X.K.lookup s.heap.objs.size with
  | none=>rfl
  | some o=>exact absurd (LO (I.kIn _ o q)) (L6 _)
 have hn:H s.heap.objs.size=none:=I.hok.fresh (LL _)
 have hlp:l≠s.heap.objs.size:=λz=>by rw[z,hn]at hl;cases hl
 refine callType_codes (Q₁:=λobj s₁=>obj= .ref s.heap.objs.size/\s₁= { s with heap:=s.heap.push { cls:=.type "dict",data:=.dict #[] } }) F.kt_called_dict (F.kt_typeCall_dict_1 _) F.entry_dict_init (kt_code_dict_new _ ⟨rfl,rfl⟩) ?_
 rintro obj s₁ ⟨rfl,rfl⟩
 have I1:Inv X pins σ (upd H s.heap.objs.size (.dT [])) { s with heap:=s.heap.push { cls:=.type "dict",data:=.dict #[] } }:=I.laid (a:=s.heap.objs.size) (o:=.dT []) (t':=s.toks) (λ_ _ q=>LD _ q) (LL _) (Cw s.heap I.big)
 have hT:({ s with heap:=s.heap.push { cls:=.type "dict",data:=.dict #[] } }:LB).TypeIs (.ref s.heap.objs.size) "dict":=⟨_,LR _ rfl,rfl⟩
 have hl1:upd H s.heap.objs.size (.dT []) l=some (.lst xs):=by rw[aI hlp];exact hl
 obtain⟨z,its,n,r,hlen,e⟩:=I1.Ku hl1;refine⟨hT,F.args_dict_init_2 _ _,?_⟩
 unfold Builtin.«dict.__init__»;refine Lv ?_
 unfold Builtin.Dict.selfAndRest;refine Lv (wpAny_notOrdered_dict hT ?_)
 show wpAny _ _ (pure (s.heap.objs.size,[LV l])) _ _ _
 refine LI ?_
 show wpAny _ _ (Qq "dict.__init__" s.heap.objs.size (.ref l) [] .none) _ _ _
 unfold Qq;refine Lv (Pv (T:="list") ⟨_,e,rfl⟩ ?_)
 rw[if_pos (by decide)]
 refine Lv (pI e hh λh' tk' kp=> ?_)
 have I2:Inv X pins σ (upd H s.heap.objs.size (.dT [])) { s with heap:=h',toks:=tk' }:=I1.kept (t':=tk') kp
 rw[if_pos (by rfl)]
 refine Lv (OM ?_)
 have eL:({ s with heap:=h',toks:=tk' }:LB).heap.IsList l its.toArray:=⟨_,kp _ _ e,rfl,n,rfl⟩
 refine Lv (Pg eL ?_)
 have I3:Inv X pins σ (upd H s.heap.objs.size (.dT [])) { s with heap:=h'.push { cls:=.type "list_iterator",data:=.fields #[.ref l,.int 0 0] },toks:=tk' }:=I2.kept (t':=tk') λb u q=>LD _ q
 have hpl:s.heap.objs.size<h'.objs.size:=LO (kp _ _ (LR _ rfl))
 have hni:upd H s.heap.objs.size (.dT []) h'.objs.size=none:=by
  rw[aI (N1 hpl)];exact I.hok.fresh (Nt hpl)
 have hp1:PairsAt (upd H s.heap.objs.size (.dT [])) xs ps:=hp.same (a9 hn _);refine LI ⟨plainId_quiet F.plain_dict_update_loop _,?_⟩
 refine zU (A:=A.in1) (X:=X) (pins:=pins) (σ:=σ) (l:=l) (xs:=xs) (it:=h'.objs.size) hh (by show A.units+1+3<cLine;omega) xs.length 0 _ (upd H s.heap.objs.size (.dT [])) [] ps (by omega) (MT _) hl1 aJ (by simp;omega) I3 ⟨_,LR _ rfl,rfl,rfl⟩ (I2.KI (LL _) hni) hp1 λs' I'=> ?_
 rw[si]at I';exact⟨rfl,h _ _ ⟨hn,hk⟩ I'⟩
end
theorem hu8 {k:Nat}{A:Mh}(h:Room k A):A.units+8<cLine:=by have:=h.un;omega
theorem xc {kvs:List (List Key×V)}{k:List Key}{v:V}(h:(kvs.map (·.1)).Nodup):((dQ kvs k v).map (·.1)).Nodup:=by
 unfold dQ
 by_cases a:(kvs.any λkv=>decide (kv.1=k))=true
 ·rw[if_pos a,Ms]
  have:((λx=>x.1)∘λkv:List Key×V=>if kv.1=k then(kv.1,v)else kv)=λx=>x.1:=by
   funext x
   show(if x.1=k then(x.1,v)else x).1=x.1
   by_cases e:x.1=k
   ·rw[if_pos e]
   ·rw[if_neg e]
  rw[this];exact h
 ·rw[if_neg a,Mc,MN]
  refine⟨h,by simp,λx hx y hy=> ?_⟩
  simp only[Lx,Po,LZ]at hy;subst hy;intro z;subst z;obtain⟨p,hp,e⟩:=LW.mp hx;exact a (Px.mpr ⟨p,hp,decide_eq_true e⟩)
def Ko (K:Lu)(O:Ow)(H:Hp):List (T×T)->List (List Key×V)->Prop
 | [],ps=>ps= []
 | a::l,ps=> ∃p r,ps=p::r/\keyOf a.1=some p.1/\Rep K O H a.2 p.2/\Ko K O H l r
theorem rV {K:Lu}{O:Ow}{H:Hp}:∀{l:List (T×T)} {ps:List (List Key×V)} {ks ts:List T} {kvs:List (List Key×V)},Ko K O H l ps->ks.map keyOf=kvs.map (λp=>some p.1)->Reps K O H ts (kvs.map (·.2))->(kvs.map (·.1)).Nodup →
  (jR l (ks,ts)).1.map keyOf=(fJ kvs ps).map (λp=>some p.1)/\Reps K O H (jR l (ks,ts)).2 ((fJ kvs ps).map (·.2))
 | [],ps,ks,ts,kvs,h,h1,h2,hn=>by unfold Ko at h;subst h;exact⟨h1,h2⟩
 | (a,b)::l,ps,ks,ts,kvs,h,h1,h2,hn=>by
  obtain⟨p,r,rfl,e1,e2,e3⟩:=h;obtain⟨g1,g2⟩:=mi (vT:=b) e1 e2 h1 h2 hn
  show(jR l (hG a b ks ts)).1.map keyOf=(fJ (dQ kvs p.1 p.2) r).map (λp=>some p.1)/\Reps K O H (jR l (hG a b ks ts)).2 ((fJ (dQ kvs p.1 p.2) r).map (·.2))
  exact rV (l:=l) e3 g1 g2 (xc hn)
theorem x8 {K:Lu}{O:Ow}{H:Hp}:∀{l:List T} {tps:List (T×T)} {xs:List V},Ia l=some tps->Reps K O H l xs->∃ps,PairsAt H xs ps/\Ko K O H tps ps
 | [],tps,xs,h,r=>by cases Reps.AC.mp r;cases h;exact⟨[],rfl,rfl⟩
 | t::l,tps,xs,h,r=>by
  obtain⟨v,ws,rfl,p,q⟩:=Reps.me.mp r;unfold Ia at h
  split at h
  ·rename_i heq;cases heq
  ·rename_i k v' l' heq
   cases heq
   split at h
   ·rename_i kk rr hk hr
    cases h;obtain⟨ps,g1,g2⟩:=x8 hr q;obtain⟨b,vs,e1,e2,e3,e4⟩:=Rep.Do.mp p;obtain⟨u1,us1,rfl,f1,f2⟩:=Reps.me.mp e4;obtain⟨u2,us2,rfl,f3,f4⟩:=Reps.me.mp f2;cases Reps.AC.mp f4;obtain⟨kb,f5,f6⟩:=il hk f1;subst f5;exact⟨(kk,u2)::ps,⟨b,kb,(kk,u2),ps,rfl,e1,e3,f6,g1⟩,⟨(kk,u2),ps,rfl,hk,f3,g2⟩⟩
   ·cases h
  ·cases h
section
variable {X:Cx}{e:Expr}{f:En->Rs T}{x y:Str}{p pos p2 p3:Pos}
def FT (X:Cx)(f:En->Rs T):TE:=λσ H Q=>tP X f σ H λv H'=> ∃a xs ps,v= .ref a/\H' a=some (.lst xs)/\xs.length<=1000/\PairsAt H' xs ps/\∀q,Nw X.K H' q->Q (.ref q) (upd H' q (.dT (fJ [] ps)))
theorem Bd (hu:X.A.units+8<cLine)(hc:X.calm=true)(hm:X.mg "dict" =none)(ha:cY X e f)(hg:Gl X "dict")(hs:bz e=true):PE X (.Call (.Name "dict" p) [e] [] pos) (FT X f):=by
 have h1:LP [e] X.env=(false,eval e X.env)::LP [] X.env:=ba hs;intro pins s σ H Q I hq;refine My (gm I hg hm (show Mg "dict" =some (.type "dict")by decide+kernel) ?_ (by decide) (by decide))
 refine Mx (cE (bx (te:=tP X f) ha dR h1 pos pins s σ H (λxs H'=> ∃v,xs= [v]/\∃a xs ps,v= .ref a/\H' a=some (.lst xs)/\xs.length<=1000/\PairsAt H' xs ps/\∀q,Nw X.K H' q->Q (.ref q) (upd H' q (.dT (fJ [] ps)))) I ?_) λus s1 hh=> ?_) h1 rfl
 ·obtain⟨Z,O,E,h⟩:=hq
  exact⟨Z,O,E,Post.mono h λt H' _ g v r=>⟨v,rfl,g v r⟩⟩
 ·obtain⟨vs,H1,I1,r1,v,rfl,a,xs,ps,ev,e1,e2,e3,e4⟩:=hh
  subst ev;obtain⟨u,rfl,ru⟩:=r1.one;obtain rfl:u=LV a:=ru;exact wc (I1.ok.hd hc) hu I1 e1 e2 e3 λq s' nw I'=>⟨.ref q,_,I',rfl,e4 q nw⟩
theorem Ds (i:Nat)(hu:X.A.units+8<cLine)(hc:X.calm=true)(hm:X.mg "dict" =none)(hN:X.N.Nodup)(ha:cY X e f)(hst:bz e=true:=by rfl)(hg:Gl X "dict":=by rfl)(hi:X.N[i]? =some x:=by rfl)(hx:Loc X.env.scope x:=by first | exact MR rfl | exact MF rfl)(hs:MK (.Call (.Name "dict" p) [e] [] p2) (some (.Name x p3)) pos.line X.env=pure false:=by rfl)
  (hf:X.fn x=true\/X.env.scope.names.lookup x=some .local:=by first | exact .inl rfl | exact .inr rfl | assumption):qh X (.Assign [.Name x p3] (.Call (.Name "dict" p) [e] [] p2) pos) (rn i f):=PS.imp (oU hN hi hx (Bd hu hc hm ha hg hst) hs hf) λD σ H hh_=>by
 obtain⟨Z,B,M,E,h⟩:=hh_;refine⟨Z,OO B M,E.o,?_⟩
 unfold rn at h
 cases q:f Z with
 | bad=>rw[q]at h;exact h.elim
 | err c=>rw[q]at h;exact PostF.xa h
 | ok t=>
  rw[q,aH]at h;intro H1 s1 v r
  have h1:=h.later (SameO.of s1) (P1:=M.u) λa z=> .inl z
  cases t with
  | lst l=>
   obtain⟨a,xs,rfl,e2,e3,e4⟩:=Rep.Fk.mp r;unfold yO at h1
   split at h1
   ·rename_i l' heq
    cases heq
    split at h1
    ·rename_i tps hps
     by_cases hz:l.length<=1000
     ·rw[if_pos hz,aH]at h1
      obtain⟨ps,g1,g2⟩:=x8 hps e4;refine⟨a,xs,ps,rfl,e3,by rw[<-e4.length];exact hz,g1,λnd nw=> ?_⟩
      by_cases hl:i<Z.length
      ·simp only[if_pos hl]at h1
       have hm:∀a,a=nd->Nw X.K H1 a:=λa z=>z▸nw
       obtain⟨k1,k2⟩:=rV (ks:=[]) (ts:=[]) (kvs:=[]) g2 rfl Reps.GE NU;obtain⟨E2,sub⟩:=(E.same s1).new (m:=λa=>a=nd) (o:=.dct (jR tps ([],[])).1 (jR tps ([],[])).2) (v:=.ref nd) (H':=upd H1 nd (.dT (fJ [] ps))) hl hm (a9 nw.1 _) ⟨nd,_,rfl,λb=>PN,aJ,k1,(k2.more (Ev.subO hm)).same (a9 nw.1 _)⟩
       exact h1 _ _ _ (SameO.of (a9 nw.1 _)) E2 sub
      ·simp only[if_neg hl]at h1;exact h1.elim
     ·rw[if_neg hz]at h1;exact h1.elim
    ·exact h1.elim
   ·rename_i hno
    exact(hno l rfl).elim
  | _=>exact h1.elim
end
theorem pk {K:Lu}{O:Ow}{H:Hp}:∀{l:List T} {ns:List Int} {xs:List V} {us:List Ly},lS l=some ns->Reps K O H l xs->Vals xs us->Ou us ns
 | [],ns,xs,us,h,r,v=>by cases Reps.AC.mp r;cases v;cases h;exact .nil
 | t::l,ns,xs,us,h,r,v=>by
  obtain⟨w,ws,rfl,p,q⟩:=Reps.me.mp r
  cases v with
  | cons v1 v2=>
   cases t with
   | int i=>
    unfold lS at h;obtain⟨m,h1,rfl⟩:=NJ.mp h;cases Rep.Da.mp p;obtain⟨k,rfl⟩:=v1
    exact .cons _ _ (pk h1 q v2)
   | _=>cases h
end Tr
namespace Tr
def dg:List Int->List Int->Bool
 | [],[] =>false
 | [],_::_=>true
 | _::_,[] =>false
 | a::l,b::m=>if a=b then dg l m else decide (a<b)
def rowsT:List T->Option (List (List Int))
 | [] =>some []
 | .tup l::r=>match lS l,rowsT r with
  | some ns,some k=>if ns= []then none else some (ns::k)
  | _,_=>none
 | _=>none
def qm (a b:List Int):Bool:=!dg b a
def oM:List T->Rs T
 | [.lst l] =>match rowsT l with
  | some k=>if k.length<64 then .ok (.lst ((k.mergeSort qm).map λns=> .tup (ns.map .int)))else .bad
  | none=> .bad
 | _=> .bad
theorem lY:∀l,dg l l=false
 | [] =>rfl
 | a::l=>by unfold dg;rw[if_pos rfl];exact lY l
theorem lW:∀a b c,dg a b=true->dg b c=true->dg a c=true
 | [],[],_,h,_=>absurd h (by simp[dg])
 | _::_,[],_,h,_=>absurd h (by simp[dg])
 | [],_::_,[],_,h=>absurd h (by simp[dg])
 | [],_::_,_::_,_,_=>rfl
 | _::_,_::_,[],_,h=>absurd h (by simp[dg])
 | x::a,y::b,z::c,h,g=>by
  unfold dg at h g ⊢
  by_cases e:x=y
  ·subst e
   rw[if_pos rfl]at h
   by_cases e2:x=z
   ·rw[if_pos e2]at g ⊢;exact lW a b c h g
   ·rw[if_neg e2]at g ⊢;exact g
  ·rw[if_neg e]at h
   by_cases e2:y=z
   ·subst e2;rw[if_neg e];exact h
   ·rw[if_neg e2]at g
    have h1:=of_decide_eq_true h
    have h2:=of_decide_eq_true g;rw[if_neg (by omega)]
    exact decide_eq_true (by omega)
theorem lX:∀a b,dg a b=false->dg b a=false->a=b
 | [],[],_,_=>rfl
 | [],_::_,h,_=>absurd h (by simp[dg])
 | _::_,[],_,h=>absurd h (by simp[dg])
 | x::a,y::b,h,g=>by
  unfold dg at h g
  by_cases e:x=y
  ·subst e
   rw[if_pos rfl]at h g;rw[lX a b h g]
  ·rw[if_neg e]at h
   rw[if_neg (λz=>e z.symm)]at g
   have h1:=of_decide_eq_false h
   have h2:=of_decide_eq_false g;omega
theorem vO (a b c:List Int)(h:dg a c=true):dg a b=true\/dg b c=true:=by
 cases h1:dg a b with
 | true=>exact .inl rfl
 | false=>
  cases h2:dg b a with
  | true=>exact .inr (lW _ _ _ h2 h)
  | false=>rw[<-lX _ _ h1 h2];exact .inr h
theorem Hi (a b c:List Int)(h:qm a b=true)(g:qm b c=true):qm a c=true:=by
 unfold qm at*
 cases z:dg c a with
 | false=>rfl
 | true=>
  rcases vO c b a z with y | y
  ·rw[y]at g;cases g
  ·rw[y]at h;cases h
theorem D7 (a b:List Int):(qm a b||qm b a)=true:=by
 unfold qm
 cases z:dg b a with
 | false=>rfl
 | true=>
  cases y:dg a b with
  | false=>rfl
  | true=>have:=lW _ _ _ z y;rw[lY]at this;cases this
theorem BH (a b:List Int)(h:qm a b=true)(g:qm b a=true):a=b:=by
 unfold qm at h g;refine lX a b ?_ ?_
 ·cases z:dg a b with
  | false=>rfl
  | true=>rw[z]at g;cases g
 ·cases z:dg b a with
  | false=>rfl
  | true=>rw[z]at h;cases h
theorem uQ {k m:List (List Int)}(p:m.Perm k)(s:m.Pairwise (λa b=>qm a b=true)):m=k.mergeSort qm:=
 List.Perm.eq_of_pairwise (le:=λa b=>qm a b=true) (λa b _ _ h g=>BH a b h g) s (List.pairwise_mergeSort Hi D7 k) (p.trans (List.mergeSort_perm k qm).symm)
end Tr
namespace Tr
open PySem PySem.Spec PyProof.Rows L2
structure SrtB (k0:Rj)(o:Array TJ)(st:Qb):Prop where
 p:(arrOf st).Perm o
 k:kindOf st=k0
 f:R9 st=none
 e:OB st= #[]
theorem SrtB.len {k0:Rj}{o:Array TJ}{st:Qb}(b:SrtB k0 o st):(arrOf st).size=o.size:=b.p.size_eq
theorem SrtB.arr {k0:Rj}{o xs:Array TJ}{st:Qb}(b:SrtB k0 o st)(h:xs.Perm (arrOf st)):SrtB k0 o (setArr st xs):=⟨h.trans b.p,b.k,b.f,b.e⟩
def uA (κ:KeyKind)(k0:Rj)(prog:L1)(w:MG)(A:Mh)(s:LB):Prop:=
 ∀(E:Ly->LB->Prop) (x y:Ly) (a b:κ.α) (Q:Bool->LB->Prop),κ.keyOf x=some a->κ.keyOf y=some b->Q (κ.blt a b) s->wpAny (model prog w) A (keyLt' k0 x y) Q E s
abbrev gk (κ:KeyKind)(st:Qb)(i:Nat):κ.α:=KK κ (arrOf st) i
theorem C5 {κ:KeyKind}{xs:Array TJ}{n:Nat}(h:M8 κ xs n)(hl:κ.kle (KK κ xs (n - 1)) (KK κ xs n)):M8 κ xs (n+1):=λi j le lt=>by
 rcases OL j n with z | z
 ·exact h i j le z
 ·obtain rfl:j=n:=by omega
  rcases OL i j with y | y
  ·exact Py (h i (j - 1) (by omega) (by omega)) hl
  ·rw[show i=j by omega];exact Oe _
theorem oj {κ:KeyKind}{xs:Array TJ}{n:Nat}(h:RG κ xs n)(hl:κ.kle (KK κ xs n) (KK κ xs (n - 1))):RG κ xs (n+1):=λi j le lt=>by
 rcases OL j n with z | z
 ·exact h i j le z
 ·obtain rfl:j=n:=by omega
  rcases OL i j with y | y
  ·exact Py hl (h i (j - 1) (by omega) (by omega))
  ·rw[show i=j by omega];exact Oe _
theorem wC {κ:KeyKind}{xs:Array TJ}{n:Nat}(h:n<=1):M8 κ xs n:=λi j le lt=>by rw[show i=j by omega];exact Oe _
theorem HN {κ:KeyKind}{xs:Array TJ}{n:Nat}(h:n<=1):RG κ xs n:=λi j le lt=>by rw[show i=j by omega];exact Oe _
section
variable {prog:L1}{w:MG}{A:Mh}{E:Ly->LB->Prop}{s:LB}{κ:KeyKind}{k0:Rj}{o:Array TJ}{st:Qb}
theorem Fe (b:SrtB k0 o st)(ks:KeysOf κ o){i:Nat}(hi:i<o.size):∃z,(arrOf st)[i]? =some z/\κ.keyOf z.1=some (gk κ st i):=by
 have h1:i<(arrOf st).size:=b.len▸hi;obtain⟨a,ha⟩:=ks _ ((P4.mp b.p).mem_iff.mp (Array.getElem_mem_toList h1))
 have e:=getElem?_pos (arrOf st) i h1
 refine⟨_,e,?_⟩
 show _=some (KK κ (arrOf st) i)
 unfold KK;rw[e,ha];simp[ha]
theorem uR (c:uA κ k0 prog w A s)(ks:KeysOf κ o)(b:SrtB k0 o st){i j:Nat}{Q:Option Bool->Qb->Prop}(hi:i<o.size)(hj:j<o.size)(q:Q (some (κ.blt (gk κ st i) (gk κ st j))) st) :
  wpS (model prog w) A E s (ltAt' i j) Q st:=by
 obtain⟨⟨x,x2⟩,e1,k1⟩:=Fe b ks hi;obtain⟨⟨y,y2⟩,e2,k2⟩:=Fe b ks hj;rw[ltAt'_eq];refine MB (TK ?_)
 dsimp only
 rw[elem'_eq,elem'_eq,e1,e2];refine MB (Np (MB (Np ?_)))
 rw[lt'_eq];refine MB (TK ?_)
 rw[b.k];exact MB (wpS_lift (Qx (c _ x y _ _ _ k1 k2 ⟨rfl,Np q⟩)))
theorem Fd {a m:Nat}{Q:AscSt->Qb->Prop}(c:uA κ k0 prog w A s)(ks:KeysOf κ o)(b:SrtB k0 o st)(hm:m<=o.size)(h1:1<=a)(h2:a<=m)(so:M8 κ (arrOf st) a)
  (q:∀n,a<=n->n<=m->M8 κ (arrOf st) n->(n≠m->κ.klt (gk κ st n) (gk κ st (n - 1)))->Q (none,n) st):wpS (model prog w) A E s (ascLoop a m) Q st:=by
 unfold ascLoop;refine Pw (I:=λn r st'=>r=(none,n)/\st'=st/\M8 κ (arrOf st) n) (λn r st' l1 l2 hI=> ?_) (λr st' hI=> ?_) ⟨rfl,rfl,so⟩
 ·obtain⟨rfl,rfl,sn⟩:=hI
  refine MB (uR c ks b (LJ l2 hm) (OW (Sj _ _) (LJ l2 hm)) ?_)
  cases z:κ.blt (gk κ st' n) (gk κ st' (n - 1))with
  | true=>exact Np (q n l1 (Nt l2) sn λ_=>z)
  | false=>exact Np ⟨rfl,rfl,C5 sn z⟩
 ·obtain⟨rfl,rfl,sn⟩:=hI
  have e:max a m=m:=Pz h2;rw[e]at sn ⊢;exact q m h2 (LL _) sn λh=>absurd rfl h
theorem sv {i j:Nat}{Q:Unit->Qb->Prop}(b:SrtB k0 o st)(q:∀st',SrtB k0 o st'->arrOf st'=mirror (arrOf st) i j ((j - i) / 2)->Q () st'):wpS (model prog w) A E s (reverseSlice' i j) Q st:=by
 rw[reverseSlice'_eq];exact Sy (q _ (b.arr (mirror_perm _ _ _ _)) rfl)
abbrev CM (κ:KeyKind)(k0:Rj)(o:Array TJ)(m:Nat)(Q:Option Nat->Qb->Prop):Prop:=∀n st',SrtB k0 o st'->1<=n->n<=m->M8 κ (arrOf st') n->Q (some n) st'
theorem xR {n m:Nat}{Q:Option Nat->Qb->Prop}(c:uA κ k0 prog w A s)(ks:KeysOf κ o)(b:SrtB k0 o st)(hm:m<=o.size)(h1:1<=n)(h2:n<=m)(dn:RG κ (arrOf st) n)(q:CM κ k0 o m Q) :
  wpS (model prog w) A E s (tail3 n m) Q st:=by
 unfold tail3;refine MB (sv b λst' b' e=>MB (Fd c ks b' hm h1 h2 (λi j le lt=> ?_) λk l1 l2 so _=>Np (q k st' b' (by omega) l2 so)))
 have hz:n<=(arrOf st).size:=by rw[b.len];omega
 rw[e,KK_mirror hz,KK_mirror hz,if_pos ⟨MT _,by omega⟩,if_pos ⟨MT _,by omega⟩]
 exact dn _ _ (by omega) (by omega)
theorem tf {k i:Nat}(g1:k - 1<=i)(g2:i<k):i=k - 1:=Ts (PC g2) g1
theorem Iz {n m:Nat}{Q:DescSt->Qb->Prop}(c:uA κ k0 prog w A s)(ks:KeysOf κ o)(b:SrtB k0 o st)(hm:m<=o.size)(h1:1<=n)(h2:n<=m)(dn:RG κ (arrOf st) n)
  (q:∀k r st',SrtB k0 o st'->n<=k->k<=m->RG κ (arrOf st') k->r+1<=k->(∀i,k - (r+1)<=i->i<k->gk κ st' i=gk κ st' (k - 1))->Q (none,k,r) st'):wpS (model prog w) A E s (descLoop n m) Q st:=by
 unfold descLoop
 refine Pw (I:=λk c st'=> ∃r,c=(none,k,r)/\SrtB k0 o st'/\RG κ (arrOf st') k/\r+1<=k/\∀i,k - (r+1)<=i->i<k->gk κ st' i=gk κ st' (k - 1)) (λk r st' l1 l2 hI=> ?_) (λr st' hI=> ?_)
  ⟨0,rfl,b,dn,h1,λi g1 g2=>by rw[tf g1 g2]⟩
 ·obtain⟨r,rfl,b',d',hr,eq⟩:=hI
  dsimp only
  have kk:=LJ l2 hm
  have kp:k - 1<o.size:=OW (Sj _ _) kk
  have hz:k<=(arrOf st').size:=by rw[b'.len];exact Nt kk
  refine MB (uR c ks b' kk kp ?_)
  cases z:κ.blt (gk κ st' k) (gk κ st' (k - 1))with
  | true=>
   have d2:=oj d' (Qk z)
   show wpS _ _ _ _ (if r > 0 then _ else _) _ _
   by_cases hr0:r > 0
   ·rw[if_pos hr0]
    refine MB (sv b' λst2 b2 e2=>Np ⟨0,rfl,b2,λi j le lt=> ?_,QB (MT _),λi g1 g2=>by rw[tf g1 g2]⟩)
    rw[e2,NI hz eq,NI hz eq];exact d2 i j le lt
   ·rw[if_neg hr0]
    exact Np ⟨0,rfl,b',d2,QB (MT _),λi g1 g2=>by rw[tf g1 g2]⟩
  | false=>
   refine MB (uR c ks b' kp kk ?_)
   cases y:κ.blt (gk κ st' (k - 1)) (gk κ st' k)with
   | true=>exact Np (q k r st' b' l1 (Nt l2) d' hr eq)
   | false=>
    refine Np ⟨r+1,rfl,b',oj d' y,QB hr,λi g1 g2=> ?_⟩
    have e:gk κ st' k=gk κ st' (k - 1):=Rw y z;rw[Nat.add_sub_cancel];rcases OL i k with g3 | g3
    ·rw[e];exact eq i (by rw[Nat.add_sub_add_right]at g1;exact g1) g3
    ·rw[Ts (Ql g2) g3]
 ·obtain⟨r,rfl,b',d',hr,eq⟩:=hI
  have e:max n m=m:=Pz h2;rw[e]at d' hr eq ⊢;exact q m r st' b' h2 (LL _) d' hr eq
theorem xS {n m:Nat}{Q:Option Nat->Qb->Prop}(c:uA κ k0 prog w A s)(ks:KeysOf κ o)(b:SrtB k0 o st)(hm:m<=o.size)(h2:n+1<=m)(dn:RG κ (arrOf st) (n+1))(q:CM κ k0 o m Q) :
  wpS (model prog w) A E s (descPart n m) Q st:=by
 unfold descPart;refine MB (wpS_lift (OM ⟨rfl,MB (Iz c ks b hm (by omega) h2 dn λk r st' b' l1 l2 d' hr eq=> ?_)⟩))
 dsimp only
 have hz:k<=(arrOf st').size:=by rw[b'.len];omega
 by_cases hr0:r > 0
 ·rw[if_pos hr0]
  refine MB (sv b' λst2 b2 e2=>xR c ks b2 hm (by omega) l2 (λi j le lt=> ?_) q)
  rw[e2,NI hz eq,NI hz eq];exact d' i j le lt
 ·rw[if_neg hr0]
  exact xR c ks b' hm (by omega) l2 d' q
theorem FX {m:Nat}{Q:Option Nat->Qb->Prop}(c:uA κ k0 prog w A s)(ks:KeysOf κ o)(b:SrtB k0 o st)(hm:m<=o.size)(h1:1<=m)(q:CM κ k0 o m Q):wpS (model prog w) A E s (countRun' 0 m) Q st:=by
 rw[countRun0_eq];refine MB (Fd c ks b hm (LL 1) h1 (wC (LL 1)) λn l1 l2 so lt=> ?_)
 dsimp only
 by_cases e:n=m
 ·rw[if_pos (beq_iff_eq.mpr e)]
  exact Np (q n st b l1 l2 so)
 rw[if_neg (λz=>e (beq_iff_eq.mp z))]
 have fall:=Qk (lt e)
 by_cases g:n > 1
 ·rw[if_pos g]
  refine MB (uR c ks b (by omega) (by omega) ?_)
  cases z:κ.blt (gk κ st 0) (gk κ st (n - 1))with
  | true=>exact Np (q n st b l1 l2 so)
  | false=>
   have all:∀k,0<=k->k<n->gk κ st k=gk κ st (n - 1):=λk _ hk=>
    Rw (so k (n - 1) (by omega) (by omega)) (Py (show κ.kle (gk κ st (n - 1)) (gk κ st 0)from z) (so 0 k (by omega) hk))
   have hz:n<=(arrOf st).size:=by rw[b.len];omega
   refine MB (sv b λst2 b2 e2=>xS c ks b2 hm (by omega) (oj (λi j le lt=> ?_) ?_) q)
   ·rw[e2,NI hz all,NI hz all]
    show κ.kle (gk κ st j) (gk κ st i)
    rw[all i (MT _) (by omega),all j (MT _) (by omega)]
    exact Oe _
   ·rw[e2,NI hz all,NI hz all]
    exact fall
 ·rw[if_neg g]
  exact xS c ks b hm (by omega) (oj (HN (by omega)) fall) q
theorem He {l u:Nat}(h:l<u):l<=(l+u) / 2/\(l+u) / 2<u:=⟨by omega,by omega⟩
theorem HA {xs:Array TJ}{k l:Nat}(hk:k<xs.size)(lk:l<=k)(so:M8 κ xs k)(lo:∀i,i<l->κ.kle (KK κ xs i) (KK κ xs k))(hi:∀i,l<=i->i<k->κ.klt (KK κ xs k) (KK κ xs i)):M8 κ (bubble xs k (k - l)) (k+1):=λi j le lt=>by
 rw[KK_bubble hk (Sj _ _),KK_bubble hk (Sj _ _),Nat.sub_sub_self lk]
 have lt:=Ql lt;rcases Sk i l with i1 | i1 | i1
 ·rw[if_neg (Mr i1),if_neg λz=>Nat.lt_asymm z.1 i1]
  rcases Sk j l with j1 | j1 | j1
  ·rw[if_neg (Mr j1),if_neg λz=>Nat.lt_asymm z.1 j1];exact so _ _ le (LJ j1 lk)
  ·rw[if_pos j1];exact lo i i1
  ·rw[if_neg (N1 j1),if_pos ⟨j1,lt⟩];exact so _ _ (PC (QZ i1 j1)) (LJ (PD j1) lt)
 ·rw[if_pos i1]
  rcases Nat.lt_or_eq_of_le (i1▸le:l<=j)with j1 | j1
  ·rw[if_neg (N1 j1),if_pos ⟨j1,lt⟩];exact Qk (hi _ (PC j1) (LJ (PD j1) lt))
  ·rw[if_pos j1.symm];exact Oe _
 ·have j1:=LJ i1 le
  rw[if_neg (N1 i1),if_pos ⟨i1,Md le lt⟩,if_neg (N1 j1),if_pos ⟨j1,lt⟩];exact so _ _ (Nat.sub_le_sub_right le 1) (LJ (PD j1) lt)
theorem FZ {n a:Nat}{Q:Bool->Qb->Prop}(c:uA κ k0 prog w A s)(ks:KeysOf κ o)(b:SrtB k0 o st)(h1:1<=n)(hn:n<=o.size)(ha:a<=n)(so:M8 κ (arrOf st) a)
  (q:∀st',SrtB k0 o st'->M8 κ (arrOf st') n->Q true st'):wpS (model prog w) A E s (binarySort' 0 n a) Q st:=by
 rw[binarySort'_eq];simp only[SG];refine MB (Pw (I:=λk r st'=>r=(none,())/\SrtB k0 o st'/\M8 κ (arrOf st') k) (λk r st1 l1 l2 hI=> ?_) (λr st1 hI=> ?_) ⟨rfl,b,?_⟩)
 ·obtain⟨rfl,b1,so1⟩:=hI
  have hk:k<o.size:=LJ l2 hn
  refine MB (wpS_mono (Pw (I:=λx r st2=>st2=st1/\∃l u,r=(none,l,u)/\l<=u/\u<=k/\u<=k+l - x/\(∀i,i<l->κ.kle (gk κ st1 i) (gk κ st1 k))/\∀i,u<=i->i<k->κ.klt (gk κ st1 k) (gk κ st1 i))
   (Q:=λr st2=>st2=st1/\∃l u,r=(none,l,u)/\l<=k/\(∀i,i<l->κ.kle (gk κ st1 i) (gk κ st1 k))/\∀i,l<=i->i<k->κ.klt (gk κ st1 k) (gk κ st1 i)) (λx r st2 y1 y2 hJ=> ?stp) (λr st2 hJ=> ?fin) ⟨rfl,0,k,rfl,MT _,LL _,LL _,λi hi=>absurd hi (Nat.not_lt_zero _),λi g1 g2=>absurd g2 (Nat.not_lt.mpr g1)⟩) λr st2 hJ=> ?pst)
  case stp=>
   obtain⟨rfl,l,u,rfl,lu,uk,mz,lo,hi⟩:=hJ
   dsimp only
   by_cases g:l ≥ u
   ·rw[if_pos g]
    exact Np ⟨rfl,l,u,rfl,Md lu uk,lo,λi g1 g2=>hi i (Md g g1) g2⟩
   ·rw[if_neg g]
    have hm:=He (Nat.lt_of_not_le g)
    generalize (l+u) / 2=m at hm ⊢
    have mk:m<k:=LJ hm.2 uk;refine MB (uR c ks b1 hk (QZ mk hk) ?_)
    have am:u<=k+(m+1) - (x+1)/\m<=k+l - (x+1):=by
     clear lo hi so so1 q ks c b b1 hn ha h1
     omega
    cases z:κ.blt (gk κ st2 k) (gk κ st2 m)with
    | true=>exact Np ⟨rfl,l,m,rfl,hm.1,Nt mk,am.2,lo,λi g1 g2=>KeyOrd.klt_of_klt_of_kle z (so1 _ i g1 g2)⟩
    | false=>exact Np ⟨rfl,m+1,u,rfl,hm.2,uk,am.1,λi g1=>Py (so1 i m (Ql g1) mk) z,hi⟩
  case fin=>
   obtain⟨rfl,l,u,rfl,lu,uk,mz,lo,hi⟩:=hJ
   have e:u<=l:=by
    clear lo hi so so1 q ks c b b1 hn ha h1
    omega
   exact⟨rfl,l,u,rfl,Md lu uk,lo,λi g1 g2=>hi i (Md e g1) g2⟩
  case pst=>
   obtain⟨rfl,l,u,rfl,lk,lo,hi⟩:=hJ
   dsimp only
   rw[moveDown'_eq];exact MB (Sy (Np ⟨rfl,b1.arr (bubble_perm _ _ _),HA (by rw[b1.len];exact hk) lk so1 lo hi⟩))
 ·obtain⟨rfl,b1,so1⟩:=hI
  rw[Pz (Nat.max_le.mpr ⟨ha,h1⟩)]at so1;exact Np (q st1 b1 so1)
 ·rcases Nat.le_total a 1 with g | g
  ·rw[Pz g];exact wC (LL 1)
  ·rw[Nat.max_eq_left g];exact so
theorem F0 {Q:Unit->Qb->Prop}(c:uA κ k0 prog w A s)(ks:KeysOf κ o)(b:SrtB k0 o st)(h2:2<=o.size)(h64:o.size<64)
  (q:∀st',(arrOf st').Perm o->R9 st'=none->M8 κ (arrOf st') o.size->Q () st'):wpS (model prog w) A E s sortRuns' Q st:=by
 rw[sortRuns'_eq];refine MB (TK ?_)
 dsimp only
 have hmr:minRun' o.size o.size 0=o.size:=by
  cases hz:o.size with
  | zero=>omega
  | succ f=>rw[minRun'_succ,if_pos (by omega)]
 simp only[b.len,hmr]
 refine MB (wpS_mono (Pw (I:=λx r st1=>(x=0/\r=(none,0)/\SrtB k0 o st1)\/(x≠0/\r=(none,o.size)/\(arrOf st1).Perm o/\R9 st1=none/\(OB st1).size=1/\M8 κ (arrOf st1) o.size))
  (Q:=λr st1=>r=(none,o.size)/\(arrOf st1).Perm o/\R9 st1=none/\(OB st1).size=1/\M8 κ (arrOf st1) o.size) (λx r st1 l1 l2 hI=> ?stp) (λr st1 hI=> ?fin) (.inl ⟨rfl,rfl,b⟩)) λr st1 hI=> ?pst)
 case stp=>
  rcases hI with⟨rfl,rfl,b1⟩ | ⟨_,rfl,hI⟩
  ·dsimp only
   rw[if_neg (by omega)]
   simp only[P9,Nat.min_self,SG];refine MB (FX c ks b1 (LL _) (by omega) λn st2 b2 n1 n2 so2=> ?_)
   dsimp only
   have fin:∀st3,SrtB k0 o st3->M8 κ (arrOf st3) o.size->(arrOf (Sz st3 ((OB st3).push (0,o.size,0)))).Perm o/\R9 (Sz st3 ((OB st3).push (0,o.size,0)))=none ∧
     (OB (Sz st3 ((OB st3).push (0,o.size,0)))).size=1/\M8 κ (arrOf (Sz st3 ((OB st3).push (0,o.size,0)))) o.size:=λst3 b3 so3=>⟨b3.p,b3.f,by
    show((OB st3).push _).size=1
    rw[b3.e];rfl,so3⟩
   by_cases g:n<o.size
   ·rw[if_pos g]
    refine MB (wpS_lift (OM ⟨rfl,MB (FZ c ks b2 (Pe h2) (LL _) n2 so2 λst3 b3 so3=> ?_)⟩))
    simp only[Bool.not_true,NN,if_false];refine MB (TK ?_)
    rw[show(OB st3).back?=none by rw[b3.e];rfl]
    exact MB (Sy (Np (.inr ⟨by omega,rfl,fin st3 b3 so3⟩)))
   ·rw[if_neg g]
    obtain rfl:n=o.size:=by omega
    refine MB (TK ?_)
    rw[show(OB st2).back?=none by rw[b2.e];rfl]
    exact MB (Sy (Np (.inr ⟨by omega,rfl,fin st2 b2 so2⟩)))
  ·dsimp only
   rw[if_pos (LL _)];exact Np ⟨rfl,hI⟩
 case fin=>
  rcases hI with⟨h,_,_⟩ | ⟨_,hI⟩
  ·omega
  ·exact hI
 case pst=>
  obtain⟨rfl,hp,hf,he,hs⟩:=hI
  dsimp only
  refine MB (wpS_mono (Pw (I:=λ_ r st2=>st2=st1/\r=(none,())) (Q:=λr st2=>st2=st1/\r=(none,())) (λx r st2 _ _ hJ=> ?stp) (λ_ _ h=>h) ⟨rfl,rfl⟩) λr st2 hJ=> ?pst)
  case stp=>
   obtain⟨rfl,rfl⟩:=hJ;refine MB (TK ?_)
   rw[if_pos (OK he)];exact Np ⟨rfl,rfl⟩
  case pst=>
   obtain⟨rfl,rfl⟩:=hJ;exact Np (q _ hp hf hs)
end
def RowV (h:Heap)(v:Ly)(ns:List Int):Prop:=∃a its,v= .ref a/\h.IsTuple a its/\Ou its.toList ns/\ns≠ []
theorem RowV.inj {h:Heap}{v:Ly}{ns ms:List Int}(r:RowV h v ns)(q:RowV h v ms):ns=ms:=by
 obtain⟨a,its,rfl,⟨o,e,_,n,d⟩,i,_⟩:=r;obtain⟨b,jts,eb,⟨o',e',_,n',d'⟩,j,_⟩:=q;cases eb;rw[e]at e';cases e';rw[d]at d';cases d';rw[<-i.nums,<-j.nums]
open Classical in
def zF (h:Heap)(v:Ly):Option (List Int):=if e:∃ns,RowV h v ns then some e.choose else none
theorem RowV.key {h:Heap}{v:Ly}{ns:List Int}(r:RowV h v ns):zF h v=some ns:=by
 unfold zF
 have e:∃ns,RowV h v ns:=⟨ns,r⟩;rw[dif_pos e,e.choose_spec.inj r]
theorem yB {h:Heap}{v:Ly}{ns:List Int}(e:zF h v=some ns):RowV h v ns:=by
 unfold zF at e
 split at e
 ·rename_i g
  cases e;exact g.choose_spec
 ·cases e
def tZ (h:Heap):PyProof.Rows.KeyKind:={ α:=List Int,blt:=dg,irrefl:=lY,trans:=lW,negTrans:=vO,total:=lX,keyOf:=zF h,dflt:=[] }
def vN:List Int->List Int->Option Bool
 | a::l,b::m=>if a=b then vN l m else some (decide (a<b))
 | _,_=>none
theorem yp:∀l m,dg l m=(vN l m).getD (decide (l.length<m.length))
 | [],[] =>rfl
 | [],_::_=>rfl
 | _::_,[] =>rfl
 | a::l,b::m=>by
  unfold dg vN
  by_cases e:a=b
  ·rw[if_pos e,if_pos e,yp l m]
   simp
  ·rw[if_neg e,if_neg e];rfl
section
variable {prog:L1}{w:MG}{A:Mh}{E:Ly->LB->Prop}{s:LB}
theorem Hf {a b:Int}{t u:Tok}{Q:Bool->LB->Prop}(h:Q (decide (a<b)) s):∀k,wpAny (model prog w) A (oneLt' k (.int a t) (.int b u)) Q E s
 | true=>oneLt_int h
 | false=>by
  rw[oneLt'_eq];simp only[NN,if_false];exact Lv (wpAny_lt_int (show wpAny (model prog w) A (truthOfDropped (.bool (decide (a<b)))) Q E s from MO h))
theorem Ca {β:Type}(f:(Ly×Ly)×Nat->β->Sem (ForInStep β))(b0:β)(fin:Bool->β)
  (hf:∀(a b:Int) (t u:Tok) (i:Nat) (Q:ForInStep β->LB->Prop),(a=b->Q (.yield b0) s)->(a≠b->Q (.done (fin (decide (a<b)))) s)->wpAny (model prog w) A (f ((.int a t,.int b u),i) b0) Q E s)
  {us:List Ly} {ns:List Int} (i:Ou us ns):∀{vs:List Ly} {ms:List Int} (k:Nat) {Q:β->LB->Prop},Ou vs ms->(∀d,vN ns ms=some d->Q (fin d) s)->(vN ns ms=none->Q b0 s)->wpAny (model prog w) A (forIn ((us.zip vs).zipIdx k) b0 f) Q E s:=by
 induction i with
 | nil=>
  intro vs ms k Q _ _ h;rw[List.zip_nil_left,PR,Pk]
  exact LI (h (by unfold vN;rfl))
 | cons a t i ih=>
  intro vs ms k Q j g h
  cases j with
  | nil=>
   rw[List.zip_nil_right,PR,Pk]
   exact LI (h (by unfold vN;rfl))
  | cons b u j=>
   rw[List.zip_cons_cons,QC,OU];unfold vN at g h;refine Lv (hf a b t u k _ (λe=> ?_) λe=> ?_)
   ·rw[if_pos e]at g h
    exact ih (k+1) j g h
   ·rw[if_neg e]at g
    exact LI (g _ rfl)
theorem JE (k:Bool)(x y:Ly):keyLt' (tuples' k) x y=(O7 x >>= λxs=>O7 y >>= λys=>(do
  for z in (xs.toList.zip ys.toList).zipIdx do
   if !(<-eqBool z.1.1 z.1.2)then return (<-oneLt' (k&&z.2 == 0) z.1.1 z.1.2)
  return decide (xs.size<ys.size))):=rfl
theorem JD:uA (tZ s.heap) (tuples' true) prog w A s:=by
 intro E x y (a:List Int) (b:List Int) Q hx hy (q:Q (dg a b) s);obtain⟨xa,xs,rfl,⟨xo,e1,_,n1,d1⟩,i1,_⟩:=yB hx;obtain⟨ya,ys,rfl,⟨yo,e2,_,n2,d2⟩,i2,_⟩:=yB hy;rw[JE];refine Lv (Rf e1 d1 (Lv (Rf e2 d2 ?_)))
 have q':=q;rw[yp]at q';refine Lv (Ca _ _ (λd=>(some d,())) (λa b t u i Q h1 h2=> ?_) i1 0 i2 (λd e=> ?_) λe=> ?_)
 ·refine Lv (S1 ?_)
  by_cases z:a=b
  ·rw[beq_iff_eq.mpr z]
   exact LI (h1 z)
  ·rw[beq_eq_false_iff_ne.mpr z]
   exact Lv (Hf (LI (h2 z)) _)
 ·rw[e]at q'
  exact LI q'
 ·rw[e]at q'
  refine LI ?_
  rw[<-i1.length,<-i2.length,NC,NC]at q';exact q'
theorem JU (v:Ly):firstOfTuple' v=(typeOf v >>= λt=>if t != .type "tuple" then pure none else O7 v >>= λxs=>pure xs[0]?):=rfl
theorem rO:∀{vs:List Ly} {Q:List (Option Ly)->LB->Prop},(∀v∈vs,∃ns,RowV s.heap v ns)->(∀us ns,Ou us ns->us.length=vs.length->Q (us.map some) s)->wpAny (model prog w) A (vs.mapM firstOfTuple') Q E s
 | [],Q,_,q=>by
  rw[List.mapM_nil]
  exact LI (q [] [] .nil rfl)
 | v::vs,Q,h,q=>by
  rw[List.mapM_cons,JU];obtain⟨ns,a,its,rfl,⟨o,e,hc,n,d⟩,i,ne⟩:=h _ Lz;obtain⟨its⟩:=its;refine Lv (Lv (Pv (T:="tuple") ⟨o,e,hc⟩ ?_))
  rw[if_neg (by decide+kernel)]
  refine Lv (Rf e d (LI ?_))
  cases i with
  | nil=>exact absurd rfl ne
  | cons m t i'=>exact Lv (rO (λv hv=>h v (Lw _ hv)) λus ns j hl=>LI (q (.int m t::us) (m::ns) (.cons m t j) (by rw[LG,LG,hl])))
theorem JF {vs:List Ly}{Q:Rj->LB->Prop}(hv:∀v∈vs,∃ns,RowV s.heap v ns)(ne:vs≠ [])(q:Q (tuples' true) s):wpAny (model prog w) A (keyKind' vs.toArray) Q E s:=by
 rw[keyKind'_eq,Sm];refine Lv ?_
 rw[map_eq_pure_bind];refine Lv (rO hv λus ns i hl=>LI ?_)
 rw[if_pos (by simp)]
 refine Lv (OM ?_)
 have ef:(us.map some).toArray.filterMap id=us.toArray:=by simp
 rw[ef,oneTypeOnly'_eq,Sm,mapM_typeOf_ints i]
 cases i with
 | nil=>exact absurd (List.length_eq_zero_iff.mp hl.symm) ne
 | @cons m t us' ns' i'=>
  simp only[map_pure,pure_bind]
  have hall:((S8 (λ_=>NM "int") (M5 m t::us')).toArray.all λx=>x == NM "int")=true:=by
   simp only[List.all_toArray,SD,L5];intro _ _;rfl
  rw[show(S8 (λ_=>NM "int") (M5 m t::us')).toArray[0]? =some (NM "int")by simp]
  simp only[hall,if_true,pure_bind];exact LI q
theorem RowV.on {h h':Heap}{v:Ly}{ns:List Int}(r:RowV h v ns)(k:∀a o,h.get? a=some o->o.cls= .type "tuple"->h'.get? a=some o):RowV h' v ns:=by
 obtain⟨a,its,rfl,⟨o,e,hc,z⟩,i,ne⟩:=r;exact⟨a,its,rfl,⟨o,k a o e hc,hc,z⟩,i,ne⟩
def rk (h:Heap)(v:Ly):List Int:=(zF h v).getD []
theorem ro {h:Heap}{v:Ly}{ns:List Int}(r:RowV h v ns):rk h v=ns:=by unfold rk;rw[r.key];rfl
theorem FY {h:Heap}{vs:List Ly}{xs:Array TJ}(hp:xs.Perm (pairsOf vs))(hs:M8 (tZ h) xs (pairsOf vs).size) :
  (xs.map (·.2)).toList.Perm vs/\((xs.map (·.2)).toList.map (rk h)).Pairwise (λa b=>qm a b=true):=by
 have hl:xs.toList.Perm (vs.zip vs):=by rw[<-pairsOf_toList];exact P4.mp hp
 have e:(xs.map (·.2)).toList=xs.toList.map (·.1):=by
  rw[Array.toList_map];exact L9 λp hp'=>(mem_zip_self (hl.mem_iff.mp hp')).1.symm
 rw[e];refine⟨?_,?_⟩
 ·have:=hl.map (·.1)
  rwa [List.map_fst_zip (LL _)]at this
 ·rw[Qc]
  intro i j hi hj hij
  have hi':i<xs.size:=by simpa using hi
  have hj':j<xs.size:=by simpa using hj
  have z:dg (KK (tZ h) xs j) (KK (tZ h) xs i)=false:=hs i j (Nt hij) (by rw[<-hp.size_eq];exact hj')
  have g:∀k (hk:k<xs.size),KK (tZ h) xs k=rk h xs[k].1:=λk hk=>by unfold KK;rw[getElem?_pos xs k hk];rfl
  rw[g i hi',g j hj']at z;simp only[OF,Array.getElem_toList];unfold qm;rw[z];rfl
theorem Jx {a:Addr}{vs:List Ly}{n:Nat}{P:Fin->LB->Prop}(ho:s.heap.get? a=some (seqObj "list" vs.toArray n))(hv:∀v∈vs,∃ns,RowV s.heap v ns)(h64:vs.length<64)
  (q:∀out:Array Ly,out.toList.Perm vs->(out.toList.map (rk s.heap)).Pairwise (λa b=>qm a b=true)->P (.done (.ret .none)) { s with heap:=sortedHeap s.heap a vs out }) :
  wpAny (model prog w) A (Builtin.«list.sort» ⟨[.ref a],[]⟩) P E s:=by
 rw[list_sort_plain]
 have ha:=LO ho;refine Lv (Rf ho rfl (Lv (Sa ho rfl ?_)))
 have ho1:=get?_update_seq ho (λ_=> #[])
 generalize hm:(if (#[]:Array Ly).size == vs.toArray.size then n else n+1)=m at ho1
 refine Lv (TL ho1 rfl (Lv (wpAny_newTuple (Lv (wpAny_newList (O4 ?_))))))
 generalize hh:((s.heap.update a (Qj λ_=> #[])).push (seqObj "tuple" vs.toArray 0)).push (seqObj "list" #[] 0)=h6
 have old:∀b,b<s.heap.objs.size->h6.get? b=(s.heap.update a (Qj λ_=> #[])).get? b:=λb hb=>by
  rw[<-hh,Pf _ _ _ (by rw[size_push',QD];exact Mr (Pd hb)),Pf _ _ _ (by rw[QD];exact Mr hb)]
 have ho6:h6.get? a=some (seqObj "list" #[] m):=(old a ha).trans ho1
 have hrow:∀v ns,RowV s.heap v ns->RowV h6 v ns:=λv ns r=>r.on λb o e hc=>by
  rw[old b (LO e),Rx _ _ _ _ λz=>by subst z;rw[ho]at e;cases e;exact absurd (show NM "list" =NM "tuple" from hc) (by decide+kernel)]
  exact e
 have hv6:∀v∈vs,∃ns,RowV h6 v ns:=λv hm=>let ⟨ns,r⟩:=hv v hm;⟨ns,hrow v ns r⟩
 have hrk:∀v∈vs,rk h6 v=rk s.heap v:=λv hm=>by
  obtain⟨ns,r⟩:=hv v hm;rw[ro r,ro (hrow v ns r)]
 have fin:∀xs:Array TJ,xs.Perm (pairsOf vs)->M8 (tZ h6) xs (pairsOf vs).size->(xs.map (·.2)).size<=sizeLine+1/\P (.done (.ret .none)) { s with heap:=h6.update a (Qj λ_=>xs.map (·.2)) }:=λxs hp hs=>by
  obtain⟨g1,g2⟩:=FY hp hs;refine⟨?_,?_⟩
  ·have:=g1.length_eq
   rw[NC]at this;rw[this,NG];omega
  ·rw[L9 λv hm=>hrk v (g1.mem_iff.mp hm)]at g2
   have:=q _ g1 g2;unfold sortedHeap at this;rw[hh]at this;exact this
 show wpAny (model prog w) A _ P E { s with heap:=h6 }
 dsimp only
 by_cases h2:vs.toArray.size<2
 ·rw[if_pos h2,if_pos h2]
  obtain⟨f1,f2⟩:=fin (pairsOf vs) (Ta _) (wC (by rw[SN];rw[LQ]at h2;omega))
  refine Lv (LI ?_)
  rw[StateT.run_pure];refine Lv (LI ?_)
  dsimp only
  refine Lv (TL ho6 rfl (Lv (Sa ho6 rfl ?_ (hsz2:=f1))))
  simp only[bne_self_eq_false,NN,if_false];exact LI f2
 ·rw[if_neg h2,if_neg h2]
  rw[LQ]at h2;refine Lv (JF hv6 (λz=>by subst z;exact h2 (by decide)) ?_)
  have ks:PyProof.Rows.KeysOf (tZ h6) (pairsOf vs):=λp hp=>by
   rw[pairsOf_toList]at hp;obtain⟨ns,r⟩:=hv6 p.1 (mem_zip_self hp).2;exact⟨ns,r.key⟩
  refine Lv (Nh (F0 (κ:=tZ h6) (k0:=tuples' true) (o:=pairsOf vs) (st:=SortSt.mk' (tuples' true) (vs.toArray.zip vs.toArray) #[] 7 none)
   (Q:=λ_ st'=>(arrOf st').Perm (pairsOf vs)/\R9 st'=none/\M8 (tZ h6) (arrOf st') (pairsOf vs).size) (JD (s:={ s with heap:=h6 })) ks ⟨Ta _,rfl,rfl,rfl⟩
   (by rw[SN];omega) (by rw[SN];exact h64) λst' a1 a2 a3=>⟨a1,a2,a3⟩) ?_ λ_ _ e=>e)
  rintro ⟨⟨⟩,st'⟩ s' ⟨rfl,hp,hf,hs⟩
  obtain⟨f1,f2⟩:=fin _ hp hs
  dsimp only
  refine Lv (TL ho6 rfl (Lv (Sa ho6 rfl ?_ (hsz2:=f1))))
  rw[hf];simp only[bne_self_eq_false,NN,if_false];exact LI f2
theorem zf {l:Addr}{vs:List Ly}{Q:Ly->LB->Prop}(hl:s.heap.IsList l vs.toArray)(hv:∀v∈vs,∃ns,RowV s.heap v ns)(h64:vs.length<64)
  (q:∀out:Array Ly,out.toList.Perm vs->(out.toList.map (rk s.heap)).Pairwise (λa b=>qm a b=true)->Q (.ref (s.heap.objs.size+1)) { s with heap:=sortedAll s.heap vs out }) :
  wpAny (model prog w) A (call (.builtin "sorted") [.ref l]) Q E s:=by
 refine Calls.call_function_entry kind_sorted plain_sorted entry_sorted (args_sorted1 _) ?_
 unfold Builtin.«sorted»;refine Lv (m:=checkCount "sorted" 1 1 _) (LI (Lv (collect_list hl (Lv (wpAny_newList ?_)) (by rw[NG];omega))))
 generalize hh:(s.heap.push (seqObj "list" #[] 0)).update s.heap.objs.size (Qj (· ++vs.toArray))=h1
 have hz:h1.objs.size=s.heap.objs.size+1:=by rw[<-hh,QD,size_push']
 have keep:∀b o,s.heap.get? b=some o->(h1.push (seqObj "list" vs.toArray 0)).get? b=some o:=λb o e=>by
  have hb:=LO e
  have nb:b≠s.heap.objs.size:=Mr hb;rw[Pf _ _ _ (by rw[hz];exact Mr (Pd hb)),<-hh,Rx _ _ _ _ nb,Pf _ _ _ nb]
  exact e
 have hoL:(h1.push (seqObj "list" vs.toArray 0)).get? (s.heap.objs.size+1)=some (seqObj "list" vs.toArray 0):=by rw[<-hz];exact LR _ rfl
 have hrow:∀v ns,RowV s.heap v ns->RowV (h1.push (seqObj "list" vs.toArray 0)) v ns:=λv ns r=>r.on λb o e _=>keep b o e
 show wpAny (model prog w) _ _ _ _ { s with heap:=h1.push (seqObj "list" vs.toArray 0) }
 dsimp only
 rw[hz];refine Lv (O4 (Ny slot_list_sort ⟨_,hoL,rfl⟩ entry_list_sort (Jx (s:={ s with heap:=h1.push (seqObj "list" vs.toArray 0) }) hoL (λv hm=>let ⟨ns,r⟩:=hv v hm;⟨ns,hrow v ns r⟩) h64 λout g1 g2=>⟨_,rfl,?_⟩) (args_list_sort _)))
 refine LI ⟨_,rfl,?_⟩
 rw[L9 λv hm=>show _=rk s.heap v by obtain⟨ns,r⟩:=hv v (g1.mem_iff.mp hm);rw[ro r,ro (hrow v ns r)]]at g2
 have:=q out g1 g2;unfold sortedAll at this;rw[hh]at this;exact this
end
def qe:Ly->V
 | .ref a=> .ref a
 | _=> .non
section
variable {X:Cx}
theorem kf:∀{m:List T} {ns:List Int},lS m=some ns->m=ns.map .int
 | [],ns,h=>by cases h;rfl
 | t::m,ns,h=>by
  cases t with
  | int i=>
   unfold lS at h;obtain⟨k,h1,rfl⟩:=NJ.mp h
   rw[kf h1];rfl
  | _=>cases h
theorem xW {pins:List (Addr×Obj)}{σ:L2.St}{H:Hp}{s:LB}{O:Ow}(I:Inv X pins σ H s):∀{l:List T} {k:List (List Int)} {vs:List V} {us:List Ly},rowsT l=some k->Reps X.K O H l vs->Vals vs us →
  us.map (rk s.heap)=k/\∀u∈us,RowV s.heap u (rk s.heap u)/\RelV (qe u) u/\Rep X.K O H (.tup ((rk s.heap u).map .int)) (qe u)
 | [],k,vs,us,h,r,v=>by
  cases Reps.AC.mp r;cases v;cases h
  exact⟨rfl,λu hu=>by cases hu⟩
 | t::l,k,vs,us,h,r,v=>by
  obtain⟨x,xs,rfl,p,q⟩:=Reps.me.mp r
  cases v with
  | @cons _ u _ us' v1 v2=>
   cases t with
   | tup m=>
    unfold rowsT at h
    split at h
    ·rename_i ns k' h1 h2
     by_cases ne:ns= []
     ·rw[if_pos ne]at h;cases h
     ·rw[if_neg ne]at h;cases h
      obtain⟨e1,e2⟩:=xW I h2 q v2;obtain⟨a,ws,rfl,_,g3,g4⟩:=Rep.Do.mp p;obtain rfl:u=LV a:=v1;obtain⟨its,w1,t1,_⟩:=I.tuple (SqT.of g3)
      have hi:=pk h1 g4 w1;obtain⟨o,ho,hc,n,hd⟩:=t1
      have row:RowV s.heap (.ref a) ns:=⟨a,_,rfl,⟨o,ho,hc,n,hd⟩,by simpa using hi,ne⟩
      have em:m=ns.map .int:=kf h1;subst em;refine⟨by rw[Lx,e1,ro row],λu hu=> ?_⟩
      rcases LH.mp hu with rfl | hu
      ·rw[ro row];exact⟨row,rfl,p⟩
      ·exact e2 u hu
    ·cases h
   | _=>cases h
theorem q0 {K:Lu}{O:Ow}{H:Hp}{h:Heap}:∀{us:List Ly},(∀u∈us,RelV (qe u) u/\Rep K O H (.tup ((rk h u).map .int)) (qe u))->Vals (us.map qe) us/\Reps K O H (us.map λu=> .tup ((rk h u).map .int)) (us.map qe)
 | [],_=>⟨.nil,Reps.GE⟩
 | u::us,hu=>by
  obtain⟨h1,h2⟩:=hu u Lz;obtain⟨g1,g2⟩:=q0 λv hv=>hu v (Lw _ hv)
  exact⟨.cons h1 g1,Reps.me.mpr ⟨_,_,rfl,h2,g2⟩⟩
theorem zY:CallT X (.builtin "sorted") oM:=by
 intro pins s σ H O ts vs us Q I hf rs rv hp;unfold oM at hp
 split at hp
 ·rename_i l
  obtain⟨v,rfl,r⟩:=rs.one
  split at hp
  ·rename_i k hk
   by_cases h64:k.length<64
   ·rw[if_pos h64]at hp
    obtain⟨a,ws,rfl,n,q,z⟩:=Rep.Fk.mp r;obtain⟨u,rfl,ru⟩:=lA rv;obtain rfl:u=LV a:=ru;obtain⟨its,r',pl,hz⟩:=I.list (SqL.of q);obtain⟨e1,e2⟩:=xW I hk z r';refine zf pl.isList (λv hv=>⟨_,(e2 v hv).1⟩) (by rw[<-LA (rk s.heap),e1];exact h64) λout g1 g2=> ?_
    have g3:=uQ (e1▸g1.map (rk s.heap)) g2;obtain⟨k1,k2⟩:=q0 (us:=out.toList) (K:=X.K) (O:=O) (H:=H) (h:=s.heap) λu hu=>(e2 u (g1.mem_iff.mp hu)).2
    obtain⟨e,he⟩:=sortedAll_at s.heap its out
    have hfr:H (s.heap.objs.size+1)=none:=I.hok.fresh (Nat.le_succ _);refine⟨.ref (s.heap.objs.size+1),_,I.laid (t':=s.toks) (λ_ _=>sortedAll_old) (Nat.le_succ _) (show ObjOk X.prog X.w _ _ _ (.lst (out.toList.map qe))from⟨?_,out.toList,e,k1,he⟩),rfl,hp _ (a9 hfr _) _ ?_⟩
    ·rw[LA,g1.length_eq,<-LA (rk s.heap),e1,NG];omega
    ·have:=jH (p:=s.heap.objs.size+1) hfr (hf _ hfr) k2
     rw[<-g3,Ms];exact this
   ·rw[if_neg h64]at hp;exact hp.elim
  ·exact hp.elim
 ·exact hp.elim
end
end Tr
namespace PySem
open Sem (wp)
abbrev zO (h:Heap)(z ti to:Addr)(f0 f1:Ly):Prop:=h.get? z=some { cls:=.type "zip",dict:=none,data:=.fields #[f0,f1,.bool false,.ref ti,.ref to],slots:=#[] }
theorem FL {h h':Heap}{a:Addr}{xs:Array Ly}(x:h.IsTuple a xs)(e:∀o,h.get? a=some o->h'.get? a=some o):h'.IsTuple a xs:=let ⟨o,ho,r⟩:=x;⟨o,e _ ho,r⟩
section
variable {prog:L1}{w:MG}{A:Mh}{E:Ly->LB->Prop}{s:LB}{n l1 t2 k:Nat}{xs ys:Array Ly}{x y:Ly}
theorem fO {a b:Nat}(h:a<b\/b<a):a≠b:=by omega
end
end PySem
namespace PySem
open Sem (wp)
open L2 (itAt)
def sqAt (tt:Bool)(h:Heap)(a:Addr)(xs:Array Ly):Prop:=if tt then h.IsTuple a xs else h.IsList a xs
theorem sqAt.keep {tt:Bool}{h h':Heap}{a:Addr}{xs:Array Ly}(q:sqAt tt h a xs)(k:∀o,h.get? a=some o->h'.get? a=some o):sqAt tt h' a xs:=by
 cases tt with
 | true=>exact FL (show h.IsTuple a xs from q) k
 | false=>exact Heap.IsList.at (show h.IsList a xs from q) k
section
variable {prog:L1}{w:MG}{A:Mh}{E:Ly->LB->Prop}{s:LB}
theorem tF {tt:Bool}{it a:Addr}{k:Nat}{xs:Array Ly}{x:Ly}{Q:Ly->LB->Prop}(hi:itAt tt s.heap it a k)(hs:sqAt tt s.heap a xs)(hx:xs[k]? =some x)
  (hQ:∀h',itAt tt h' it a (k+1)->OI it s.heap h'->Q x { s with heap:=h' }):wpAny (model prog w) A (Ma (.ref it)) Q E s:=by
 cases tt with
 | true=>exact Enu.tupNext hi hs hx hQ
 | false=>exact wpAny_nextOf_list_item hi hs hx hQ
theorem Bq {tt:Bool}{it a:Addr}{k:Nat}{xs:Array Ly}{Q:Ly->LB->Prop}(hh:A.handled=none)(hi:itAt tt s.heap it a k)(hs:sqAt tt s.heap a xs)(hx:xs[k]? =none)
  (hE:∀h' e,Th it s.heap h'->(∃o,h'.get? e=some o/\o.cls= .type "StopIteration")->E (.ref e) { s with heap:=h' }):wpAny (model prog w) A (Ma (.ref it)) Q E s:=by
 cases tt with
 | true=>exact Enu.tupStop hh hi hs hx hE
 | false=>exact wpAny_nextOf_list_end hh hi hs hx hE
structure Zw (h:Heap)(n a1 a2:Nat)(t1 t2:Bool)(k:Nat):Prop where
 pr:SO h (n+2) (.ref n) (.ref (n+1))
 ow:∃a b,SO h (n+3) a b
 i1:itAt t1 h n a1 k
 i2:itAt t2 h (n+1) a2 k
variable {n a1 a2 k:Nat}{t1 t2:Bool}{xs ys:Array Ly}{x y:Ly}
theorem Zw.keep {h h':Heap}(q:Zw h n a1 a2 t1 t2 k)(e:∀c o,n<=c->c<n+4->h.get? c=some o->h'.get? c=some o):Zw h' n a1 a2 t1 t2 k where
 pr:=e _ _ (by omega) (by omega) q.pr
 ow:=let ⟨a,b,z⟩:=q.ow;⟨a,b,e _ _ (by omega) (by omega) z⟩
 i1:=q.i1.keep λo=>e _ o (by omega) (by omega)
 i2:=q.i2.keep λo=>e _ o (by omega) (by omega)
theorem CU {Q:Ly->LB->Prop}(q:Zw s.heap n a1 a2 t1 t2 k)(kz:zO s.heap (n+4) (n+2) (n+3) .none (.bool false))(s1:sqAt t1 s.heap a1 xs)(s2:sqAt t2 s.heap a2 ys)(b1:a1<n\/n+4<a1)(b2:a2<n\/n+4<a2)(hx:xs[k]? =some x)(hy:ys[k]? =some y)
  (kq:∀h' p,s.heap.objs.size<=p->SO h' p x y->zO h' (n+4) (n+2) (n+3) (rawInt p) (.bool false)->Zw h' n a1 a2 t1 t2 (k+1)->(∀c o,c≠n->c≠n+1->c≠n+3->c≠n+4->s.heap.get? c=some o->h'.get? c=some o)->Q (.ref p) { s with heap:=h' }) :
  wpAny (model prog w) A (Builtin.«zip.__next__» ⟨[.ref (n+4)],[]⟩) (λfin s'=> ∃v,fin= .done (.ret v)/\Q v s') E s:=by
 obtain⟨oa,ob,ho⟩:=q.ow
 show wpAny _ _ (field (.ref (n+4)) 2 >>= _) _ _ _
 refine Lv (ME kz rfl (x:=.bool false) rfl ?_)
 show wpAny _ _ (field (.ref (n+4)) 3 >>= _) _ _ _
 refine Lv (ME kz rfl (x:=.ref (n+2)) rfl ?_)
 refine Lv (NB q.pr rfl ?_)
 show wpAny _ _ (Mi (.ref (n+4)) >>= _) _ _ _
 have fr:wpAny (model prog w) A (Mi (.ref (n+4))) (λv s'=>v=true/\s'=s) E s:=by
  unfold Mi;exact Lv (ME kz rfl (x:=.none) rfl (LI ⟨rfl,rfl⟩))
 refine Lv (Nh fr (λv s' hv=> ?_) λ_ _ z=>z)
 obtain⟨rfl,rfl⟩:=hv;simp only[if_true];refine Lv (OM (Lv (ME kz rfl (x:=.ref (n+3)) rfl (Lv (NR kz (by simp) λh₁ kz₁ e₁=> ?_)))))
 replace kz₁:zO h₁ (n+4) (n+2) (n+3) .ellipsis (.bool false):=kz₁
 have q₁:Zw h₁ n a1 a2 t1 t2 k:=q.keep λc o _ hc g=>e₁.extBut c o (fO (by omega)) g
 simp only[QC,PR,OU,Pk];refine Lv (Lv (Lv (Qy ?_)))
 show wpAny _ _ (Ma (.ref n) >>= _) _ _ _
 refine Lv (tF q₁.i1 (s1.keep λo g=>e₁.extBut _ _ (fO (by omega)) g) hx λh₂ g₂ e₂=>LI ?_)
 have o₂:SO h₂ (n+3) oa ob:=e₂.extBut _ _ (fO (by omega)) (e₁.extBut _ _ (fO (by omega)) ho)
 refine Lv (NB o₂ rfl (Lv (PH o₂ λh₃ o₃ e₃=>Lv (TM (LI ?_)))))
 replace o₃:SO h₃ (n+3) x ob:=o₃
 refine Lv (Lv (Qy ?_))
 show wpAny _ _ (Ma (.ref (n+1)) >>= _) _ _ _
 refine Lv (tF (q₁.i2.keep λo g=>e₃.extBut _ _ (fO (by omega)) (e₂.extBut _ _ (fO (by omega)) g)) (s2.keep λo g=>e₃.extBut _ _ (fO (by omega)) (e₂.extBut _ _ (fO (by omega)) (e₁.extBut _ _ (fO (by omega)) g))) hy λh₄ g₄ e₄=>LI ?_)
 have o₄:SO h₄ (n+3) x ob:=e₄.extBut _ _ (fO (by omega)) o₃
 refine Lv (NB o₄ rfl (Lv (PH o₄ λh₅ o₅ e₅=>Lv (TM (LI (LI ?_))))))
 replace o₅:SO h₅ (n+3) x y:=o₅
 refine Lv (NB o₅ rfl (Lv (wpAny_newTuple ?_)))
 have z₅:h₅.objs.size=s'.heap.objs.size:=by rw[e₅.1,e₄.1,e₃.1,e₂.1,e₁.1]
 have up:∀c o,c≠n->c≠n+1->c≠n+3->h₁.get? c=some o->h₅.get? c=some o:=λc o c1 c2 c3 g=>e₅.extBut _ _ c3 (e₄.extBut _ _ c2 (e₃.extBut _ _ c3 (e₂.extBut _ _ c1 g)))
 show wpAny _ _ (Ox (.ref (n+4)) (.ref h₅.objs.size) >>= _) _ _ _
 have z5:zO (h₅.push { cls:=.type "tuple",data:=.seq #[x,y] }) (n+4) (n+2) (n+3) .ellipsis (.bool false):=LD _ (up _ _ (fO (by omega)) (fO (by omega)) (fO (by omega)) kz₁)
 have hn:n+4<h₅.objs.size:=LO (up _ _ (fO (by omega)) (fO (by omega)) (fO (by omega)) kz₁)
 refine Lv ?_
 unfold Ox;refine Lv (NR z5 (by simp) λh₇ z₇ e₇=> ?_)
 replace z₇:zO h₇ (n+4) (n+2) (n+3) (rawInt h₅.objs.size) (.bool false):=z₇
 refine NR z₇ (by simp) λh₈ z₈ e₈=>LI ⟨_,rfl,?_⟩
 replace z₈:zO h₈ (n+4) (n+2) (n+3) (rawInt h₅.objs.size) (.bool false):=z₈
 have up8:∀c o,c≠n+4->h₅.get? c=some o->h₈.get? c=some o:=λc o c1 g=>e₈.extBut _ _ c1 (e₇.extBut _ _ c1 (LD _ g))
 refine kq h₈ h₅.objs.size (OK z₅.symm) (e₈.extBut _ _ (fO (by omega)) (e₇.extBut _ _ (fO (by omega)) (LR _ rfl))) z₈ ⟨up8 _ _ (fO (by omega)) (up _ _ (fO (by omega)) (fO (by omega)) (fO (by omega)) q₁.pr),⟨x,y,up8 _ _ (fO (by omega)) o₅⟩,?_,?_⟩ λc o c1 c2 c3 c4 g=>up8 c o c4 (up c o c1 c2 c3 (e₁.extBut _ _ c4 g))
 ·exact g₂.keep λo g=>up8 _ _ (fO (by omega)) (e₅.extBut _ _ (fO (by omega)) (e₄.extBut _ _ (fO (by omega)) (e₃.extBut _ _ (fO (by omega)) g)))
 ·exact g₄.keep λo g=>up8 _ _ (fO (by omega)) (e₅.extBut _ _ (fO (by omega)) g)
theorem FE {Q:Fin->LB->Prop}(hh:A.handled=none)(q:Zw s.heap n a1 a2 t1 t2 k)(kz:zO s.heap (n+4) (n+2) (n+3) .none (.bool false))(s1:sqAt t1 s.heap a1 xs)(s2:sqAt t2 s.heap a2 ys)(b1:a1<n\/n+4<a1)(b2:a2<n\/n+4<a2)(hend:xs[k]? =none\/ys[k]? =none)
  (ke:∀h' e,(∀c o,c≠n->c≠n+1->c≠n+3->c≠n+4->s.heap.get? c=some o->h'.get? c=some o)->(∃o,h'.get? e=some o/\o.cls= .type "StopIteration")->E (.ref e) { s with heap:=h' }) :
  wpAny (model prog w) A (Builtin.«zip.__next__» ⟨[.ref (n+4)],[]⟩) Q E s:=by
 show wpAny _ _ (field (.ref (n+4)) 2 >>= _) _ _ _
 refine Lv (ME kz rfl (x:=.bool false) rfl ?_)
 show wpAny _ _ (field (.ref (n+4)) 3 >>= _) _ _ _
 refine Lv (ME kz rfl (x:=.ref (n+2)) rfl ?_)
 refine Lv (NB q.pr rfl ?_)
 show wpAny _ _ (Mi (.ref (n+4)) >>= _) _ _ _
 have fr:wpAny (model prog w) A (Mi (.ref (n+4))) (λv s'=>v=true/\s'=s) E s:=by
  unfold Mi;exact Lv (ME kz rfl (x:=.none) rfl (LI ⟨rfl,rfl⟩))
 refine Lv (Nh fr (λv s' hv=> ?_) λ_ _ z=>z)
 obtain⟨rfl,rfl⟩:=hv;simp only[if_true];refine Lv (OM (Lv (ME kz rfl (x:=.ref (n+3)) rfl (Lv (NR kz (by simp) λh₁ kz₁ e₁=> ?_)))))
 replace kz₁:zO h₁ (n+4) (n+2) (n+3) .ellipsis (.bool false):=kz₁
 have q₁:Zw h₁ n a1 a2 t1 t2 k:=q.keep λc o _ hc g=>e₁.extBut c o (fO (by omega)) g
 simp only[QC,PR,OU,Pk];refine Lv (Lv (Lv (Qy ?_)))
 show wpAny _ _ (Ma (.ref n) >>= _) _ _ _
 cases hx:xs[k]? with
 | none=>
  refine Lv (Bq hh q₁.i1 (s1.keep λo g=>e₁.extBut _ _ (fO (by omega)) g) hx λh₂ e e₂ he=> ?_)
  obtain⟨oe,hoe,hce⟩:=he
  have hz₂:zO h₂ (n+4) (n+2) (n+3) .ellipsis (.bool false):=e₂ _ _ (fO (by omega)) kz₁
  have hez:e≠n+4:=λx=>by subst x;rw[hz₂]at hoe;cases hoe;simp at hce
  exact NR hz₂ (by simp) λh₃ _ hs₃=>ke h₃ e (λc o c1 c2 c3 c4 g=>hs₃.extBut _ _ c4 (e₂ _ _ c1 (e₁.extBut _ _ c4 g))) ⟨oe,hs₃.extBut _ _ hez hoe,hce⟩
 | some x=>
  have hy:ys[k]? =none:=by
   rcases hend with h | h
   ·rw[hx]at h;cases h
   ·exact h
  obtain⟨oa,ob,ho⟩:=q.ow;refine Lv (tF q₁.i1 (s1.keep λo g=>e₁.extBut _ _ (fO (by omega)) g) hx λh₂ g₂ e₂=>LI ?_)
  have o₂:SO h₂ (n+3) oa ob:=e₂.extBut _ _ (fO (by omega)) (e₁.extBut _ _ (fO (by omega)) ho)
  refine Lv (NB o₂ rfl (Lv (PH o₂ λh₃ o₃ e₃=>Lv (TM (LI ?_)))))
  refine Lv (Lv (Qy ?_))
  show wpAny _ _ (Ma (.ref (n+1)) >>= _) _ _ _
  refine Lv (Bq hh (q₁.i2.keep λo g=>e₃.extBut _ _ (fO (by omega)) (e₂.extBut _ _ (fO (by omega)) g)) (s2.keep λo g=>e₃.extBut _ _ (fO (by omega)) (e₂.extBut _ _ (fO (by omega)) (e₁.extBut _ _ (fO (by omega)) g))) hy λh₄ e e₄ he=> ?_)
  obtain⟨oe,hoe,hce⟩:=he
  have hz₄:zO h₄ (n+4) (n+2) (n+3) .ellipsis (.bool false):=e₄ _ _ (fO (by omega)) (e₃.extBut _ _ (fO (by omega)) (e₂.extBut _ _ (fO (by omega)) kz₁))
  have hez:e≠n+4:=λx=>by subst x;rw[hz₄]at hoe;cases hoe;simp at hce
  exact NR hz₄ (by simp) λh₅ _ hs₅=>ke h₅ e (λc o c1 c2 c3 c4 g=>hs₅.extBut _ _ c4 (e₄ _ _ c2 (e₃.extBut _ _ c3 (e₂.extBut _ _ c1 (e₁.extBut _ _ c4 g))))) ⟨oe,hs₅.extBut _ _ hez hoe,hce⟩
abbrev FF (h:Heap)(t1:Bool)(a1:Addr):Heap:=h.push { cls:=.type (if t1 then "tuple_iterator" else "list_iterator"),data:=.fields #[.ref a1,.int 0 0] }
end
section
variable {prog:L1}{w:MG}{A:Mh}{E:Ly->LB->Prop}{s:LB}
theorem BW {tt:Bool}{a:Addr}{xs:Array Ly}{Q:Ly->LB->Prop}(q:sqAt tt s.heap a xs)(h:Q (.ref s.heap.objs.size) { s with heap:=FF s.heap tt a }):wpAny (model prog w) A (pyIter (.ref a)) Q E s:=by
 cases tt with
 | true=>exact Oa (show s.heap.IsTuple a xs from q) h
 | false=>exact Pg (show s.heap.IsList a xs from q) h
end
abbrev Kc (h:Heap)(t1 t2:Bool)(l t:Addr):Heap:=FF (FF h t1 l) t2 t
abbrev Kb (h:Heap)(t1 t2:Bool)(l t:Addr):Heap:=(Kc h t1 t2 l t).push { cls:=.type "tuple",data:=.seq #[.ref h.objs.size,.ref (FF h t1 l).objs.size] }
abbrev Ka (h:Heap)(t1 t2:Bool)(l t:Addr):Heap:=(Kb h t1 t2 l t).push { cls:=.type "tuple",data:=.seq #[.none,.none] }
abbrev EV (h:Heap)(t1 t2:Bool)(l t:Addr):Heap:=(Ka h t1 t2 l t).push { cls:=.type "zip",data:=.fields #[.none,.bool false,.bool false,.ref (Kc h t1 t2 l t).objs.size,.ref (Kb h t1 t2 l t).objs.size] }
theorem BB (t1 t2:Bool)(l t:Addr)(xs ys:Array Ly):Meets (Builtin.«zip.__new__» ⟨[.type "zip",.ref l,.ref t],[]⟩) (λ_ R s=>sqAt t1 s.heap l xs/\sqAt t2 s.heap t ys/\R (.ok (.ret (.ref (Ka s.heap t1 t2 l t).objs.size))) { s with heap:=EV s.heap t1 t2 l t }):=
 .of_wp λprog w A R s q=>by
  obtain⟨hp,g,d,tk,os⟩:=s;obtain⟨a1,a2,q⟩:=q
  have k0:=sub_zip
  have k1:sqAt t1 (Ti ⟨hp,g,d,tk,os⟩) l xs:=a1
  have k2:sqAt t2 (Ti ⟨FF hp t1 l,g,d,tk,os⟩) t ys:=sqAt.keep a2 λo e=>LD _ e
  wp_walk using BW k1,BW k2
  exact⟨_,rfl,q⟩
section
variable {prog:L1}{w:MG}{A:Mh}{E:Ly->LB->Prop}{s:LB}
theorem CV {t1 t2:Bool}{l t:Addr}{xs ys:Array Ly}{Q:Ly->LB->Prop}(a1:sqAt t1 s.heap l xs)(a2:sqAt t2 s.heap t ys)
  (q:∀h',Zw h' s.heap.objs.size l t t1 t2 0->zO h' (s.heap.objs.size+4) (s.heap.objs.size+2) (s.heap.objs.size+3) .none (.bool false)->h'.objs.size=s.heap.objs.size+5 →
   (∀c o,s.heap.get? c=some o->h'.get? c=some o)->Q (.ref (s.heap.objs.size+4)) { s with heap:=h' }) :
  wpAny (model prog w) A (call (.type "zip") [.ref l,.ref t]) Q E s:=by
 refine callType_new F.called_zip (by decide) (F.typeCall_zip_2 _ _) (F.newCall_zip_2 _ _) (λobj=>F.args_object_init_3 obj _ _) F.entry_zip_new (BB t1 t2 l t xs ys) ⟨a1,a2,?_⟩
 have z1:(FF s.heap t1 l).objs.size=s.heap.objs.size+1:=M0 ..
 have z2:(Kc s.heap t1 t2 l t).objs.size=s.heap.objs.size+2:=by rw[M0,z1]
 have z3:(Kb s.heap t1 t2 l t).objs.size=s.heap.objs.size+3:=by rw[M0,z2]
 have z4:(Ka s.heap t1 t2 l t).objs.size=s.heap.objs.size+4:=by rw[M0,z3]
 have z5:(EV s.heap t1 t2 l t).objs.size=s.heap.objs.size+5:=by rw[M0,z4]
 have g5:(EV s.heap t1 t2 l t).get? (Ka s.heap t1 t2 l t).objs.size=some _:=LR _ rfl
 have g4:(EV s.heap t1 t2 l t).get? (Kb s.heap t1 t2 l t).objs.size=some _:=LD _ (LR _ rfl)
 have g3:(EV s.heap t1 t2 l t).get? (Kc s.heap t1 t2 l t).objs.size=some _:=LD _ (LD _ (LR _ rfl))
 have g2:(EV s.heap t1 t2 l t).get? (FF s.heap t1 l).objs.size=some _:=LD _ (LD _ (LD _ (LR _ rfl)))
 have g1:(EV s.heap t1 t2 l t).get? s.heap.objs.size=some _:=LD _ (LD _ (LD _ (LD _ (LR _ rfl))))
 have up:∀c o,s.heap.get? c=some o->(EV s.heap t1 t2 l t).get? c=some o:=λc o e=>LD _ (LD _ (LD _ (LD _ (LD _ e))))
 show _/\_
 rw[z2,z3,z4]at g5;rw[z1,z2]at g3;rw[z3]at g4;rw[z1]at g2;rw[z4];refine⟨⟨_,g5,rfl⟩,q _ ⟨g3,⟨_,_,g4⟩,?_,?_⟩ g5 z5 up⟩
 ·cases t1 with
  | true=>exact⟨_,g1,rfl,rfl⟩
  | false=>exact⟨_,g1,rfl,rfl⟩
 ·cases t2 with
  | true=>exact⟨_,g2,rfl,rfl⟩
  | false=>exact⟨_,g2,rfl,rfl⟩
end
end PySem
namespace L2
open PySem PySem.Spec PyProof.Rows
def Itz (K:Lu)(a1 a2:Addr)(t1 t2:Bool):It:=
 ⟨λi H=> ∃xs x ys y,(qg K H a1 t1 xs/\xs[i]? =some x)/\qg K H a2 t2 ys/\ys[i]? =some y,λi H x H'=> ∃p v u,x= .ref p/\H p=none/\H'=upd H p (.tup [v,u])/\(∀xs,qg K H a1 t1 xs->xs[i]? =some v)/\∀ys,qg K H a2 t2 ys->ys[i]? =some u,
  λi H=> ∃xs ys,qg K H a1 t1 xs/\qg K H a2 t2 ys/\(xs.length<=i\/ys.length<=i)⟩
section
variable {X:Cx}{pins:List (Addr×Obj)}{σ:L2.St}{H:Hp}{s:LB}
theorem iH {tt:Bool}{a:Addr}{xs:List V}(I:Inv X pins σ H s)(q:qg X.K H a tt xs):∃its:List Ly,Vals xs its/\sqAt tt s.heap a its.toArray/\∀ys,qg X.K H a tt ys->ys=xs:=by
 cases tt with
 | true=>
  have q':SqT X.K H a xs:=q;obtain⟨its,rv,p,hz⟩:=I.tuple q'
  exact⟨its,rv,p,λys hy=>I.Kw hy q'⟩
 | false=>
  have q':SqL X.K H a xs:=q;obtain⟨its,rv,p,hz⟩:=I.list q';exact⟨its,rv,p.isList,λys hy=>I.KA hy q'⟩
theorem uP {tt:Bool}{a b:Addr}{xs:List V}(I:Inv X pins σ H s)(q:qg X.K H a tt xs)(hb:nU X pins H b):a≠b:=λz=>by
 have hb':=hb.1;rw[<-z]at hb'
 cases tt with
 | true=>
  have hq':SqT X.K H a xs:=q;rcases hq' with(q | ⟨o,q⟩) | ⟨o,its,n,q,_⟩
  ·rw[hb']at q;cases q
  ·rw[hb']at q;cases q
  ·rcases hb.2.2.2.1 with z1 | z1
   ·exact I.ok.noex a o (I.ok.mod.kin a o q) (z▸z1)
   ·exact absurd (LJ (LO (I.ok.bs a o (I.ok.mod.kin a o q)).1) (z▸z1)) (L6 _)
 | false=>
  have hq':SqL X.K H a xs:=q;rcases hq' with(q | ⟨o,q⟩) | ⟨o,its,n,q,_⟩
  ·rw[hb']at q;cases q
  ·rw[hb']at q;cases q
  ·rcases hb.2.2.2.1 with z1 | z1
   ·exact I.ok.noex a o (I.ok.mod.kin a o q) (z▸z1)
   ·exact absurd (LJ (LO (I.ok.bs a o (I.ok.mod.kin a o q)).1) (z▸z1)) (L6 _)
end
theorem five {n b:Nat}:b∈ [n+4,n,n+1,n+2,n+3] ↔n<=b/\b<n+5:=by
 simp only[LH,MC,or_false];omega
theorem As {P:L1}{w:MG}{K:Lu}{elts:List Expr}{kk:Nat}{pos:Pos}(t1 t2:Bool)(a1 a2 n:Nat) :
  Aa P w K (.Tuple elts kk pos) (Itz K a1 a2 t1 t2) [n+4,n,n+1,n+2,n+3] (n+4) (λi h=>zO h (n+4) (n+2) (n+3) .none (.bool false)/\Zw h n a1 a2 t1 t2 i) where
 mem:=by simp
 obj:=λi h st b hb=>by
  obtain⟨kz,q⟩:=st;simp only[LH,MC,or_false]at hb;rcases hb with rfl | rfl | rfl | rfl | rfl
  ·exact⟨_,kz,λv z=>by have z':Tb _=RK v:=z;cases z'⟩
  ·exact q.i1.obj
  ·exact q.i2.obj
  ·exact⟨_,q.pr,λv z=>by have z':Data.seq _ _=RK v:=z;cases z'⟩
  ·obtain⟨a,b,e⟩:=q.ow
   exact⟨_,e,λv z=>by have z':Data.seq _ _=RK v:=z;cases z'⟩
 keep:=λi h h' st k=>by
  obtain⟨kz,q⟩:=st;exact⟨k _ (by simp) _ kz,q.keep λc o c1 c2 g=>k c (five.mpr ⟨c1,by omega⟩) o g⟩
 item:=by
  intro X hP hw hK hc i pins s σ H E I hf st hg;subst hP hw hK;obtain⟨xs,x,ys,y,⟨hq1,hx⟩,hq2,hy⟩:=hg;obtain⟨kz,q⟩:=st;obtain⟨its1,r1,p1,u1⟩:=iH I hq1;obtain⟨its2,r2,p2,u2⟩:=iH I hq2;obtain⟨v1,e1,rv1⟩:=r1.get hx;obtain⟨v2,e2,rv2⟩:=r2.get hy
  have ap:∀{tt:Bool} {a:Nat} {zs:List V},qg X.K H a tt zs->a<n\/n+4<a:=λ{tt a zs} hq=>by
   refine Qd λhh=> ?_
   exact uP I hq (hf a (five.mpr ⟨by omega,by omega⟩)) rfl
  have hT:s.TypeIs (.ref (n+4)) "zip":=⟨_,kz,rfl⟩
  have lt:n+4<s.heap.objs.size:=LO kz;unfold pyNext;refine Lv (Qx (MQ (name:=LU "__next__") hT PU (Ny PU hT SY (CU q kz p1 p2 (ap hq1) (ap hq2) (by simpa using e1) (by simpa using e2) λh1 Tp hsz hTp hz1 q1 hk=>LI ⟨.ref Tp,rfl,?_⟩) (Sn _))))
  refine wpAny_letOwnedTupleGo_zip (s:={ s with heap:=h1 }) hz1 λh2 hz2 hs2=> ?_
  have kAll:∀b o,b∉ [n+4,n,n+1,n+2,n+3]->s.heap.get? b=some o->h2.get? b=some o:=λb o hb g=>by
   have hb':¬ (n<=b/\b<n+5):=λz=>hb (five.mpr z)
   exact hs2.extBut _ _ (fO (by omega)) (hk b o (fO (by omega)) (fO (by omega)) (fO (by omega)) (fO (by omega)) g)
  have q2:Zw h2 n a1 a2 t1 t2 (i+1):=q1.keep λc o c1 c2 g=>hs2.extBut _ _ (fO (by omega)) g
  have hTp2:SO h2 Tp v1 v2:=hs2.extBut _ _ (fO (by omega)) hTp
  have there:∀b∈ [n+4,n,n+1,n+2,n+3],∃o,h2.get? b=some o:=λb hb=>by
   simp only[LH,MC,or_false]at hb;rcases hb with rfl | rfl | rfl | rfl | rfl
   ·exact⟨_,hz2⟩
   ·obtain⟨o,e,_⟩:=q2.i1.obj;exact⟨o,e⟩
   ·obtain⟨o,e,_⟩:=q2.i2.obj;exact⟨o,e⟩
   ·exact⟨_,q2.pr⟩
   ·obtain⟨a,b,e⟩:=q2.ow;exact⟨_,e⟩
  have hn:H Tp=none:=I.hok.fresh hsz
  have new:ObjOk X.prog X.w (upd H Tp (.tup [x,y])) h2 Tp (.tup [x,y]):=⟨by show 2<=sizeLine;decide,[v1,v2],.cons rv1 (.cons rv2 .nil),⟨_,hTp2,rfl,_,rfl⟩⟩
  have I2:=I.KM (t':=s.toks) hf kAll there hsz new;refine⟨.ref Tp,_,I2,rfl,⟨Tp,x,y,rfl,hn,rfl,λzs hz=>by rw[u1 zs hz];exact hx,λzs hz=>by rw[u2 zs hz];exact hy⟩,⟨hz2,q2⟩,λb hb=> ?_⟩
  have hb':=five.mp hb
  have hbT:b≠Tp:=fO (by omega)
  rw[aI hbT];exact(hf b hb).1
 done:=by
  intro X hP hw hK hc i pins s σ H E I hf st hg;subst hP hw hK;obtain⟨xs,ys,hq1,hq2,hx⟩:=hg;obtain⟨kz,q⟩:=st;obtain⟨its1,r1,p1,u1⟩:=iH I hq1;obtain⟨its2,r2,p2,u2⟩:=iH I hq2
  have l1:=r1.length
  have l2:=r2.length
  have ap:∀{tt:Bool} {a:Nat} {zs:List V},qg X.K H a tt zs->a<n\/n+4<a:=λ{tt a zs} hq=>by
   refine Qd λhh=> ?_
   exact uP I hq (hf a (five.mpr ⟨by omega,by omega⟩)) rfl
  have hT:s.TypeIs (.ref (n+4)) "zip":=⟨_,kz,rfl⟩
  have hend:its1.toArray[i]? =none\/its2.toArray[i]? =none:=by
   rcases hx with h | h
   ·left;simp;omega
   ·right;simp;omega
  unfold pyNext;refine Lv (Qx (MQ (name:=LU "__next__") hT PU (Ny PU hT SY (FE (I.ok.hd hc) q kz p1 p2 (ap hq1) (ap hq2) hend λh' e kp he=> ?_) (Sn _))))
  obtain⟨o,ho,hcl⟩:=he;refine Lv (S3 (T:="StopIteration") (b:=true) ⟨o,ho,hcl⟩ isSubtype_stop (LI ⟨rfl,I.Ky (t':=s.toks) hf λ(b:Nat) o hb g=> ?_⟩))
  have hb':¬ (n<=b/\b<n+5):=λz=>hb (five.mpr z)
  exact kp b o (fO (by omega)) (fO (by omega)) (fO (by omega)) (fO (by omega)) g
 self:=λ_ _ _ _ _ st h=>S6 st.1 h
end L2
namespace L2
open PySem PySem.Spec PyProof.Rows
open Tr (bD ba fZ)
section
variable {X:Cx}{elts:List Expr}{kk:Nat}{tpos:Pos}
def iZip (K:Lu)(tl:TA):TI:=λσ H R=>tl σ H λvs H1=> ∃a1 a2 t1 t2,vs= [.ref a1,.ref a2]/\(∃xs,qg K H1 a1 t1 xs)/\(∃ys,qg K H1 a2 t2 ys)/\R (Itz K a1 a2 t1 t2) H1
theorem GJ {l m:Expr}{tl:TA}{p pos:Pos}(hg:Gl X "zip")(hm:X.mg "zip" =none)(hl:PA X [l,m] tl)(hst:bD [l,m] =true:=by rfl):PI X (.Tuple elts kk tpos) (.Call (.Name "zip" p) [l,m] [] pos) (iZip X.K tl):=by
 intro pins s σ H R I h;unfold bD at hst;rw[LC]at hst;refine Call_ (gm I hg hm (show Mg "zip" =some (.type "zip")by decide+kernel) (Mx (cE (hl pos pins s σ H _ I h) λus s1 ⟨vs,H1,I1,r1,q1⟩=> ?_) (ba hst.1) (fZ hst.2)))
 obtain⟨a1,a2,t1,t2,e,⟨xs,hq1⟩,⟨ys,hq2⟩,q⟩:=q1;subst e
 cases r1 with
 | cons w1 w2=>
  obtain⟨u2,rfl,w3⟩:=Vals.one w2;cases w1;obtain rfl:u2=LV a2:=w3;obtain⟨its1,_,p1,_⟩:=iH I1 hq1;obtain⟨its2,_,p2,_⟩:=iH I1 hq2;refine CV p1 p2 λh' g1 g2 g3 g4=> ?_
  refine S6 (s:={ s1 with heap:=h' }) g2 ?_
  have I2:Inv X pins σ H1 { s1 with heap:=h' }:=I1.kept (t':=s1.toks) g4
  refine⟨s1.heap.objs.size+4,[s1.heap.objs.size+4,s1.heap.objs.size,s1.heap.objs.size+1,s1.heap.objs.size+2,s1.heap.objs.size+3],_,_,H1,rfl,I2,As t1 t2 a1 a2 s1.heap.objs.size,⟨g2,g1⟩,λb hb=> ?_,q⟩
  have hb':=five.mp hb;exact I1.KI hb'.1 (I1.hok.fresh hb'.1)
end
end L2
namespace Tr
open PySem PySem.Spec PyProof.Rows L2
theorem C3 (l m:List T)(i:Nat):((l.zip m).map λp=>T.tup [p.1,p.2])[i]? =match l[i]?,m[i]? with
  | some a,some b=>some (T.tup [a,b])
  | _,_=>none:=by
 rw[LY]
 unfold List.zip;rw[List.getElem?_zipWith]
 cases l[i]? <;> cases m[i]? <;> rfl
def Wk (K:Lu)(O:Ow)(H1:Hp)(l:List T)(v:V):Prop:=∃(aa:Addr) (tt:Bool) (ws:List V),v= .ref aa/\¬ O aa/\Reps K O H1 l ws/\qg K H1 aa tt ws/\(∀P Hc,SameO P H1 Hc->¬ P aa->qg K Hc aa tt ws)/\¬ Nw K H1 aa
theorem EW {K:Lu}{O:Ow}{H1:Hp}{x:T}{l:List T}{v:V}(hl:x.items=some l)(rv:Rep K O H1 x v):Wk K O H1 l v:=by
 cases x with
 | tup m=>
  cases hl;obtain⟨aa,ws,e,n,qq,z⟩:=Rep.Do.mp rv
  exact⟨aa,true,ws,e,n,z,(show SqT K H1 aa ws from SqT.of qq),(λP Hc hsm hn=>show SqT K Hc aa ws from SqT.of (hsm _ _ qq hn)),λw=>by rw[w.1]at qq;cases qq⟩
 | lst m=>
  cases hl;obtain⟨aa,ws,e,n,qq,z⟩:=Rep.Fk.mp rv
  exact⟨aa,false,ws,e,n,z,(show SqL K H1 aa ws from SqL.of qq),(λP Hc hsm hn=>show SqL K Hc aa ws from SqL.of (hsm _ _ qq hn)),λw=>by rw[w.1]at qq;cases qq⟩
 | scr m=>
  cases hl;unfold Rep at rv;obtain⟨aa,e,n,qq⟩:=rv
  exact⟨aa,false,_,e,n,Reps.ints,(show SqL K H1 aa _ from qq),(λP Hc hsm hn=>show SqL K Hc aa _ from Tr.SqL.keep hsm hn qq),(Tr.SqL.nn qq)⟩
 | _=>cases hl
section
variable {X:Cx}{a b:Expr}{fs:En->Rs (List T)}{p pos:Pos}
theorem Gy {elts:List Expr}{kk:Nat}{tpos:Pos}(hm:X.mg "zip" =none)(ha:qV X [a,b] fs)(hg:Gl X "zip":=by rfl)(hst:bD [a,b] =true:=by rfl) :
  Ab X (.Tuple elts kk tpos) (.Call (.Name "zip" p) [a,b] [] pos) (iZ fs):=PI.imp (GJ hg hm ha hst) λσ H R hh_=>by
 obtain⟨Z,O,E,h⟩:=hh_;obtain⟨Z1,O1,E1,h1⟩:=fY E h;refine⟨Z1,O1,E1,Post.mono h1 λts H1 s1 q vs r=> ?_⟩
 obtain⟨t',r',s',E',q'⟩:=q vs r
 split at q'
 ·rename_i x0 y0
  obtain⟨v,vs1,rfl,rv,rb⟩:=Reps.me.mp r';obtain⟨v2,rfl,rv2⟩:=rb.one
  split at q'
  ·rename_i l m hl hm
   obtain⟨a1,t1,w1,e1,n1,z1,sq1,mv1,nn1⟩:=EW hl rv;obtain⟨a2,t2,w2,e2,n2,z2,sq2,mv2,nn2⟩:=EW hm rv2;refine⟨a1,a2,t1,t2,by rw[e1,e2],⟨w1,sq1⟩,⟨w2,sq2⟩,q' H1 (Same.refl H1) _ λP O' hP hO i Hc hsm htr=> ?_⟩
   have sc1:=mv1 P Hc hsm λy=>(hP a1 y).elim n1 nn1
   have sc2:=mv2 P Hc hsm λy=>(hP a2 y).elim n2 nn2
   refine⟨λhi=>⟨w1,w2,sc1,sc2,?_⟩,λt ht=> ?_⟩
   ·rw[LA,Tt]at hi
    rw[<-z1.length,<-z2.length];omega
   ·rw[C3]at ht
    split at ht
    ·rename_i t1' t2' f1 f2
     cases ht;obtain⟨v0,g1,g2⟩:=z1.get f1;obtain⟨v3,g3,g4⟩:=z2.get f2;refine⟨⟨w1,v0,w2,v3,⟨sc1,g1⟩,sc2,g3⟩,λx Hc' y=> ?_⟩
     obtain⟨pp,vv,uu,e2,hpn,e3,hy,hy2⟩:=y
     have k1:=hy w1 sc1
     have k2:=hy2 w2 sc2;rw[g1]at k1;cases k1;rw[g3]at k2;cases k2;subst e2 e3;refine⟨a9 hpn _,gQ hpn (λzz=> ?_) (Reps.FS (g2.move hP hO hsm) (Reps.FS (g4.move hP hO hsm) Reps.GE))⟩
     obtain⟨o,w⟩:=htr pp zz;rw[hpn]at w;cases w
    ·cases ht
  ·exact q'.elim
 ·exact q'.elim
end
end Tr
namespace Tr
open PySem
def B0 (i:Nat)(l:List T)(Z:En):List T->Rs Fl
 | [.int n,t] =>if 0<=n/\n<2 ^ 62/\l.length<sizeLine then .ok (.nx (Z.set i (.ow (.lst (l.take n.toNat++t::l.drop n.toNat)))))else .bad
 | _=> .bad
def wV (i:Nat)(f:En->Rs (List T))(Z:En):Rs Fl:=match Z[i]? with
 | some (.ow (.lst l))=>f Z >>= B0 i l Z
 | _=> .bad
def c0 (g:List T->Rs T)(_:En):Rs T:=match g []with
 | .ok t=> .ok t
 | _=> .bad
end Tr
namespace L2
open PySem PySem.Spec PyProof.Rows
section
variable {X:Cx}
def rIns:V->List V->Hp->VK->Prop:=λx vs H Q=> ∃l xs i y,x= .ref l/\vs= [.int i,y]/\H l=some (.lst xs)/\0<=i/\i<2 ^ 63/\xs.length<sizeLine/\Q .non (upd H l (.lst (xs.take i.toNat++y::xs.drop i.toNat)))
theorem zw:MtM X "list.insert" rIns:=by
 intro pins s σ H x vs v us Q I rx rv h;obtain⟨l,xs,i,y,rfl,rfl,hH,h1,h2,hz,q⟩:=h;cases rx;obtain⟨u,w,rfl,ru,rw'⟩:=rv.two;obtain⟨t,rfl⟩:=ru;obtain⟨z,its,n,r,hl,e⟩:=I.Ku hH
 have hf:Builtin.List.listFitsIndex i=true:=fitsIndex_both (Int.le_trans (by decide) h1) h2
 refine Oo F.slot_list_insert ⟨_,e,rfl⟩ F.entry_list_insert (F.args_list_insert_3 _ _ _) (QM l its.toArray n i t w (by simp[hf]) (by rw[LQ];omega)) ⟨e,?_⟩
 refine⟨.non,_,I.K8 (its':=its.take i.toNat++w::its.drop i.toNat) hH e ?_ ((r.take _).append (.cons rw' (r.drop _))) ?_,rfl,q⟩
 ·have hk:(if i<0 then(i+((its.toArray.size:Nat):Int)).toNat else min i.toNat its.toArray.size)=min i.toNat its.length:=by rw[if_neg (by omega),LQ]
  show(have k:=if i<0 then(i+((its.toArray.size:Nat):Int)).toNat else min i.toNat its.toArray.size;(its.toArray.extract 0 k).push w++its.toArray.extract k)=_
  rw[hk]
  apply Array.ext'
  simp
  by_cases hi:i.toNat<=its.length
  ·rw[Tu hi]
   rw[Nb (l:=its.drop i.toNat) (by simp)]
  ·rw[SZ (by omega),Nb (l:=its) (i:=i.toNat) (by omega),Nb (l:=its) (LL _)]
   simp;omega
 ·simp only[LF,LG,MX,Nx]
  omega
end
end L2
namespace Tr
open PySem PySem.Spec PyProof.Rows L2
section
variable {X:Cx}{a b:Expr}{pos p2 p3:Pos}{x:Str}
theorem Gq (i:Nat){apos cpos:Pos}{fa:En->Rs (List T)}(ha:qV X [a,b] fa)(hN:X.N[i]? =some x:=by rfl)(hv:sd X.env.scope x:=by first | exact MR rfl | exact MF (MR rfl) | exact MF (MF rfl))(hn:bz a=true:=by rfl)(hn2:bz b=true:=by rfl)
  (hbase:MY (.Name x p2) "insert" X.env (eval (.Name x p2) X.env)=eval (.Name x p2) X.env:=by rfl) (hline:(apos.endLine == cpos.line)=true:=by rfl)
  (hd:gE x:=by decide) (hcd:(x == ("__classdict__" : Str))=false:=by decide)
  (hsw:MK (.Call (.Attribute (.Name x p2) "insert" apos) [a,b] [] cpos) none pos.line X.env=pure false:=by rfl):qh X (.Expr (.Call (.Attribute (.Name x p2) "insert" apos) [a,b] [] cpos) pos) (wV i fa):=by
 have h1:LP [a,b] X.env=(false,eval a X.env)::LP [b] X.env:=ba hn
 have h2:LP [b] X.env=(false,eval b X.env)::LP [] X.env:=ba hn2;refine PS.imp (nX (vj M4 PySem.F.slot_list_insert PySem.F.type_list_insert zw (iu hN hv hd hcd) ha hbase ?_ hline h1 ?_) hsw) λD σ H ⟨Z,B,M,E,h⟩=> ?_
 ·rw[h1,h2];rfl
 ·rw[h2];rfl
 unfold wV at h
 split at h
 ·rename_i l hl
  obtain⟨v0,e1,b,vs,rfl,hM,e3,e4⟩:=E.env.own i _ hl;refine⟨.ref b,e1,.inl ⟨rfl,vs,SqL.of e3⟩,Z,OO B M,E.o,?_⟩
  cases q:fa Z with
  | bad=>rw[q]at h;exact h.elim
  | err c=>rw[q]at h;exact PostF.xa h
  | ok ts=>
   rw[q,aH]at h;unfold B0 at h
   split at h
   ·rename_i n t
    split at h
    ·rename_i hz
     intro H1 s1 ws r;obtain⟨w1,ws1,rfl,r1,r2⟩:=Reps.me.mp r;obtain⟨w2,ws2,rfl,r3,r4⟩:=Reps.me.mp r2;obtain rfl:=Reps.AC.mp r4
     have e3':=s1 _ _ e3
     have r1':w1= .int n:=by unfold Rep at r1;exact r1
     refine⟨b,vs,n,w2,rfl,by rw[r1'],e3',hz.1,Int.lt_trans hz.2.1 (by decide),by rw[<-e4.length];exact hz.2.2,?_⟩
     obtain⟨g1,g2⟩:=(E.same s1).putL (l':=l.take n.toNat++t::l.drop n.toNat) (vs':=vs.take n.toNat++w2::vs.drop n.toNat) hl e1 hM (((e4.same s1).take _).append (Reps.FS r3 ((e4.same s1).drop _)));exact h σ _ M (λc o e nb=>g2 c o (s1 _ _ e) nb) g1 λc z=> .inl z
    ·exact h.elim
   ·exact h.elim
 ·exact h.elim
theorem q_c0 {k:Nat}{f:Addr}{fd:MP}{ps:List Str}{g:List T->Rs T}{p:Pos}(F:Ak X.prog X.w X.K X.mg X.base k f fd ps 0 g)(hr:Room k X.A)(hm:X.mg x=some (.ref f))(hk:Nk X.K (.ref f)=true)(hb:Binds X.K fd ps [])
  (hg:Gl X x:=by rfl) (hdb:gE x:=by decide):cY X (.Call (.Name x p) [] [] pos) (c0 g):=by
 intro pins s σ H Q I ⟨Z,O,E,hq⟩;unfold c0 at hq
 cases q2:g []with
 | bad=>rw[q2]at hq;exact hq.elim
 | err c=>rw[q2]at hq;exact hq.elim
 | ok t=>
  rw[q2]at hq;refine Bf (E:=E0) F.h hr hg hm hk hb .nil ye hdb pins s σ H Q I ?_
  refine⟨[],O,Reps.GE,E.mtb,rfl,?_⟩
  rw[q2];exact λv H' s2 r=>hq H' s2 v r
end
structure QE (X:Cx)(e:Expr)(f:En->Rs T):Prop where
 h:cY X e f
structure QA (X:Cx)(e:List Expr)(f:En->Rs (List T)):Prop where
 h:qV X e f
structure QT (X:Cx)(e:Expr)(f:En->Rs Bool):Prop where
 h:wy X e f
structure QW (X:Cx)(e:Expr)(f:En->Rs Bool):Prop where
 h:FD X e f
structure QS (X:Cx)(e:Stmt)(f:En->Rs Fl):Prop where
 h:qh X e f
structure CL (X:Cx)(e:List Stmt)(f:En->Rs Fl):Prop where
 h:mZ X e f
structure QG (X:Cx)(e:Expr)(f:T->En->Rs En):Prop where
 h:CS X e f
structure Kn (X:Cx)(e:List Expr)(f:List T->En->Rs En):Prop where
 h:CN X e f
structure QI (X:Cx)(t e:Expr)(f:En->Rs (List T)):Prop where
 h:Ab X t e f
structure QO (X:Cx)(e:Option Expr)(f:En->Rs (Option Int)):Prop where
 h:J6 X e f
structure Km (X:Cx)(e:List Expr)(f:En->Rs Bool):Prop where
 h:Aj X e (Aw X f)
theorem af {X:Cx}(i:Nat){x:Str}{pos:Pos}(hN:(Cx.N X)[i]? =some x:=by rfl)(hv:sd (N8 (Cx.env X)) x:=by first | exact MR rfl | exact MF (MR rfl) | exact MF (MF rfl))(hd:gE x:=by decide)(hcd:(x == LU "__classdict__")=false:=by decide):QE X (Mf x pos) (vr i):=
 ⟨IP (i:=i) (hN:=hN) (hv:=hv) (hd:=hd) (hcd:=hcd)⟩
theorem aj {X:Cx}{i:Int}{j:Nat}{pos:Pos}:QE X (Qt (Const.int i) j pos) (cn (T.int i)):=
 ⟨Ja ⟩
theorem fg {X:Cx}{i:Bool}{j:Nat}{pos:Pos}:QE X (Qt (Const.bool i) j pos) (cn (T.bl i)):=
 ⟨q_bl ⟩
theorem bc {X:Cx}{j:Nat}{pos:Pos}:QE X (Qt Const.none j pos) (cn T.non):=
 ⟨IW ⟩
theorem ff {X:Cx}{i:Str}{j:Nat}{pos:Pos}:QE X (Qt (Const.str i) j pos) (cn (T.str i)):=
 ⟨IS ⟩
theorem C2 {X:Cx}{x:Str}{i:Int}{u:Ly}{pos:Pos}(hm:Cx.mg X x=some u)(r:L2.RelV (V.int i) u)(hg:Gl X x:=by rfl)(hd:gE x:=by decide):QE X (Mf x pos) (cn (T.int i)):=
 ⟨GD (hm:=hm) (r:=r) (hg:=hg) (hd:=hd)⟩
theorem ah {X:Cx}:QA X [] ai:=
 ⟨GC ⟩
theorem ag {X:Cx}{e:Expr}{es:List Expr}{f:En->Rs T}{g:En->Rs (List T)}(he:QE X e f)(hr:QA X es g)(hn:bz e=true:=by rfl):QA X (e::es) (ae f g):=
 ⟨qa_c (he:=he.h) (hr:=hr.h) (hn:=hn)⟩
theorem aR {X:Cx}{es:List Expr}{x1:Nat}{pos:Pos}{f:En->Rs (List T)}(h:QA X es f):QE X (Expr.Tuple es x1 pos) (aO f):=
 ⟨IQ (h:=h.h)⟩
theorem dI {X:Cx}{es:List Expr}{pos:Pos}{f:En->Rs (List T)}(h:QA X es f):QE X (Tv es pos) (dD f):=
 ⟨IY (h:=h.h)⟩
theorem ay {X:Cx}{a b:Expr}{fa fb:En->Rs T}{pos:Pos}{op:Operator}{g:T->T->Rs T}(ho:OpT X (Nn op) g)(ha:QE X a fa)(hb:QE X b fb):QE X (Expr.BinOp a op b pos) (o2 g fa fb):=
 ⟨Jd (ho:=ho) (ha:=ha.h) (hb:=hb.h)⟩
theorem cj {X:Cx}{a b:Expr}{fa fb:En->Rs T}{pos:Pos}{op:TX}{g:T->T->Rs T}(ho:OpT X (Mz op) g)(ha:QE X a fa)(hb:QE X b fb)(hm:On op b=false:=by rfl):QE X (SH a [op] [b] pos) (o2 g fa fb):=
 ⟨Jc (ho:=ho) (ha:=ha.h) (hb:=hb.h) (hm:=hm)⟩
theorem ox {X:Cx}{a:Expr}{fa:En->Rs T}{pos:Pos}(ha:QE X a fa):QE X (SI UnaryOp.USub a pos) (o1 pE fa):=
 ⟨IX (ha:=ha.h)⟩
theorem uH {X:Cx}{a b c:Expr}{fa fb fc:En->Rs T}{pos:Pos}{op op':TX}{g g':T->T->Rs T}(ho:OpT X (Mz op) g)(ho':OpT X (Mz op') g')(ha:QE X a fa)(hb:QE X b fb)(hc:QE X c fc)(hm:lastMarks [op,op'] [b,c] =false:=by with_unfolding_all rfl):QE X (SH a [op,op'] [b,c] pos) (ch g g' fa fb fc):=
 ⟨DF (ho:=ho) (ho':=ho') (ha:=ha.h) (hb:=hb.h) (hc:=hc.h) (hm:=hm)⟩
theorem cO {X:Cx}{e:Expr}{f:En->Rs T}(h:QE X e f)(he:∀(whole:Sem Ly),PySem.isTrue e (Cx.env X) whole=(do let v <-whole;standAt (Expr.pos e);holding [v] (truthy v)):=by intro _;rfl):QT X e (tb f):=
 ⟨Gg (h:=h.h) (he:=he)⟩
theorem bh {X:Cx}{a b:Expr}{fa fb:En->Rs T}{pos:Pos}{op:TX}{g:T->T->Rs T}(ho:OpT X (Mz op) g)(ha:QE X a fa)(hb:QE X b fb)(hm:On op b=false:=by rfl):QT X (SH a [op] [b] pos) (tb (o2 g fa fb)):=
 ⟨Gi (ho:=ho) (ha:=ha.h) (hb:=hb.h) (hm:=hm)⟩
theorem uE {X:Cx}{a:Expr}{pos:Pos}{f:En->Rs Bool}(ha:QT X a f):QW X (NV Rg [a] pos) f:=
 ⟨Dp (ha:=ha.h)⟩
theorem iP {X:Cx}{a:Expr}{pos:Pos}{f:En->Rs Bool}(ha:QT X a f):QW X (NV RT [a] pos) f:=
 ⟨Ge (ha:=ha.h)⟩
theorem xM {X:Cx}{a b:Expr}{pos:Pos}{f g:En->Rs Bool}{dk:List Expr}(ha:QT X a f)(hb:QW X (NV Rg (b::dk) pos) g):QW X (NV Rg (a::b::dk) pos) (qT f g):=
 ⟨Gf (ha:=ha.h) (hb:=hb.h)⟩
theorem kZ {X:Cx}{a b:Expr}{pos:Pos}{f g:En->Rs Bool}{dk:List Expr}(ha:QT X a f)(hb:QW X (NV RT (b::dk) pos) g):QW X (NV RT (a::b::dk) pos) (mB f g):=
 ⟨II (ha:=ha.h) (hb:=hb.h)⟩
theorem lz {X:Cx}{f:En->Rs Bool}{e:Expr}(h:QW X e f):QT X e f:=
 ⟨qt_w (h:=h.h)⟩
theorem gA {X:Cx}{a:Expr}{pos:Pos}{f:En->Rs Bool}(ha:QT X a f):QT X (SI UnaryOp.Not a pos) (eE f):=
 ⟨Gh (ha:=ha.h)⟩
theorem cP {X:Cx}{a:Expr}{fa:En->Rs T}{pos:Pos}{op:BoolOp}(h:QE X a fa):QE X (NV op [a] pos) fa:=
 ⟨IU (h:=h.h)⟩
theorem da {X:Cx}{a b:Expr}{fa fb:En->Rs T}{pos:Pos}{dk:List Expr}(ha:QE X a fa)(hb:QE X (NV Rg (b::dk) pos) fb):QE X (NV Rg (a::b::dk) pos) (cb fa fb):=
 ⟨Je (ha:=ha.h) (hb:=hb.h)⟩
theorem oq {X:Cx}{a b:Expr}{fa fb:En->Rs T}{pos:Pos}{dk:List Expr}(ha:QE X a fa)(hb:QE X (NV RT (b::dk) pos) fb):QE X (NV RT (a::b::dk) pos) (rA fa fb):=
 ⟨q_or (ha:=ha.h) (hb:=hb.h)⟩
theorem ou {X:Cx}{a:Expr}{fa:En->Rs T}{pos:Pos}(ha:QE X a fa):QE X (SI UnaryOp.Not a pos) (o1 tH fa):=
 ⟨IV (ha:=ha.h)⟩
theorem m6 {X:Cx}{a b c:Expr}{fa fb:En->Rs T}{pos:Pos}{f:En->Rs Bool}(hc:QT X c f)(ha:QE X a fa)(hb:QE X b fb):QE X (Expr.IfExp c a b pos) (t9 f fa fb):=
 ⟨q_if (hc:=hc.h) (ha:=ha.h) (hb:=hb.h)⟩
theorem aK {X:Cx}{a b:Expr}{fa fb:En->Rs T}{pos:Pos}(ha:QE X a fa)(hb:QE X b fb)(hs:kA b:=by intro _ _;rfl):QE X (Nl a b pos) (o2 aZ fa fb):=
 ⟨q_ix (ha:=ha.h) (hb:=hb.h) (hs:=hs)⟩
theorem jy {X:Cx}:QO X none pN:=
 ⟨Dw ⟩
theorem jx {X:Cx}{a:Expr}{fa:En->Rs T}(ha:QE X a fa):QO X (some a) (pS fa):=
 ⟨Dv (ha:=ha.h)⟩
theorem jz {X:Cx}{a:Expr}{fa:En->Rs T}{pos:Pos}{lo hi:Option Expr}{p2:Pos}{fl fu:En->Rs (Option Int)}(ha:QE X a fa)(hl:QO X lo fl)(hu:QO X hi fu):QE X (Nl a (Expr.Slice lo hi none p2) pos) (sl fa fl fu):=
 ⟨DE (ha:=ha.h) (hl:=hl.h) (hu:=hu.h)⟩
theorem dM {X:Cx}{e:Expr}{es:List Expr}{fs:En->Rs (List T)}{pos p:Pos}{x:Str}{id:String}{g:List T->Rs T}(hc:CallT X (Oi id) g)(hm:Cx.mg X x=none)(hv:Mg x=some (Oi id))(ha:QA X (e::es) fs)(hn:bD (e::es)=true:=by rfl)(hg:Gl X x:=by rfl)(h1:x≠LU "__name__":=by decide)(h2:gE x:=by decide):QE X (NF (Mf x p) (e::es) [] pos) (cl g fs):=
 ⟨q_cB (hc:=hc) (hm:=hm) (hv:=hv) (ha:=ha.h) (hn:=hn) (hg:=hg) (h1:=h1) (h2:=h2)⟩
theorem qX {X:Cx}{e:Expr}{es:List Expr}{fs:En->Rs (List T)}{pos p:Pos}{x:Str}{Ty:String}{g:List T->Rs T}(hc:CallT X (NM Ty) g)(hm:Cx.mg X x=none)(hv:Mg x=some (NM Ty))(ha:QA X (e::es) fs)(hn:bD (e::es)=true:=by rfl)(hg:Gl X x:=by rfl)(h1:x≠LU "__name__":=by decide)(h2:gE x:=by decide):QE X (NF (Mf x p) (e::es) [] pos) (cl g fs):=
 ⟨q_cT (hc:=hc) (hm:=hm) (hv:=hv) (ha:=ha.h) (hn:=hn) (hg:=hg) (h1:=h1) (h2:=h2)⟩
theorem zq_c {X:Cx}{e:Expr}{es:List Expr}{fs:En->Rs (List T)}{pos p:Pos}{x:Str}{n k:Nat}{f:Addr}{fd:MP}{ps:List Str}{g:List T->Rs T}(F:Ak (Cx.prog X) (Cx.w X) (Cx.K X) (Cx.mg X) (Cx.base X) k f fd ps n g)(hr:Room k (Cx.A X))(hm:Cx.mg X x=some (LV f))(hk:W.keepIn (Cx.K X) (LV f)=true)(hb:L2.Binds (Cx.K X) fd ps [])(hl:∀(Z:En) (ts:List T),fs Z=Rs.ok ts->MD ts=n)(ha:QA X (e::es) fs)(hps:MD ps=n:=by rfl)(hn:bD (e::es)=true:=by rfl)(hg:Gl X x:=by rfl)(h2:gE x:=by decide):QE X (NF (Mf x p) (e::es) [] pos) (cl g fs):=
 ⟨q_c (F:=F) (hr:=hr) (hm:=hm) (hk:=hk) (hb:=hb) (hl:=hl) (ha:=ha.h) (hps:=hps) (hn:=hn) (hg:=hg) (h2:=h2)⟩
theorem Am {X:Cx}{a:Expr}{fa:En->Rs T}{pos p p2:Pos}{tn:Str}{Ty:String}(hm:Cx.mg X (LU "isinstance")=none)(hmt:Cx.mg X tn=none)(hv:Mg tn=some (NM Ty))(ha:QE X a fa)(hn:bz a=true:=by rfl)(hg:Gl X (LU "isinstance"):=by rfl)(hgt:Gl X tn:=by rfl)(h1:tn≠LU "__name__":=by decide)(h2:gE tn:=by decide):QE X (NF (Mf (LU "isinstance") p) [a,Mf tn p2] [] pos) (o1 (Ei Ty) fa):=
 ⟨q_is (hm:=hm) (hmt:=hmt) (hv:=hv) (ha:=ha.h) (hn:=hn) (hg:=hg) (hgt:=hgt) (h1:=h1) (h2:=h2)⟩
theorem ak {X:Cx}{pos:Pos}{x:Str}(i:Nat)(hN:Mo (Cx.N X))(hi:(Cx.N X)[i]? =some x:=by rfl)(hx:L2.Loc (N8 (Cx.env X)) x:=by first | exact MR rfl | exact MF rfl)(hf:Cx.fn X x=true\/Pc x (Ry (N8 (Cx.env X)))=some NameKind.local:=by first | exact .inl rfl | exact .inr rfl | assumption):QG X (Mf x pos) (gN i):=
 ⟨DB (i:=i) (hN:=hN) (hi:=hi) (hx:=hx) (hf:=hf)⟩
theorem dz {X:Cx}:Kn X [] ly:=
 ⟨DA ⟩
theorem aQ {X:Cx}{e:Expr}{es:List Expr}{g:T->En->Rs En}{gs:List T->En->Rs En}(h1:QG X e g)(h2:Kn X es gs)(hs:S8 (λx=>Prod.snd x) (Ni (e::es) (Cx.env X))=assign e (Cx.env X)::S8 (λx=>Prod.snd x) (Ni es (Cx.env X)):=by rfl):Kn X (e::es) (eF g gs):=
 ⟨AW (h1:=h1.h) (h2:=h2.h) (hs:=hs)⟩
theorem eK {X:Cx}{es:List Expr}{pos:Pos}{k n:Nat}{gs:List T->En->Rs En}(hc:Cx.calm X=true)(h:Kn X es gs)(hn:MD (Ni es (Cx.env X))=n:=by rfl)(hst:List.findIdx? (λx=>Prod.fst x) (Ni es (Cx.env X))=none:=by rfl):QG X (Expr.Tuple es k pos) (gT n gs):=
 ⟨GB (hc:=hc) (h:=h.h) (hn:=hn) (hst:=hst)⟩
theorem bP {X:Cx}{a:Expr}{fs:En->Rs (List T)}{pos p:Pos}{tg:Expr}(hm:Cx.mg X (LU "range")=none)(ha:QA X [a] fs)(hg:Gl X (LU "range"):=by rfl)(hs:LP [a] (Cx.env X)= [(false,eval a (Cx.env X))]:=by rfl):QI X tg (NF (Mf (LU "range") p) [a] [] pos) (iR fs):=
 ⟨zj (hm:=hm) (ha:=ha.h) (hg:=hg) (hs:=hs)⟩
theorem wA {X:Cx}{a b:Expr}{fs:En->Rs (List T)}{pos p:Pos}{tg:Expr}(hm:Cx.mg X (LU "range")=none)(ha:QA X [a,b] fs)(hg:Gl X (LU "range"):=by rfl)(hs:LP [a,b] (Cx.env X)= [(false,eval a (Cx.env X)),(false,eval b (Cx.env X))]:=by rfl)(hs2:LP [b] (Cx.env X)= [(false,eval b (Cx.env X))]:=by rfl):QI X tg (NF (Mf (LU "range") p) [a,b] [] pos) (iR fs):=
 ⟨zi (hm:=hm) (ha:=ha.h) (hg:=hg) (hs:=hs) (hs2:=hs2)⟩
theorem cg {X:Cx}:Km X [] bT:=
 ⟨Dy ⟩
theorem uF {X:Cx}{c:Expr}{f:En->Rs Bool}(h:QT X c f):Km X [c] f:=
 ⟨Dx (h:=h.h)⟩
theorem gu {X:Cx}{pos:Pos}{elt tg iter:Expr}{ifs:List Expr}{scope:OY}{N':List Str}{src:List (Option Nat)}{fi:En->Rs (List T)}{tgt:T->En->Rs En}{fc:En->Rs Bool}{fe:En->Rs T}(hc:Cx.calm X=true)(S:LcScope X scope N' src)(hi:QI X tg iter fi)(block:∀(cl:List (Str×Addr)) (C:Addr) (s₀:LB) (H₀:Hp) (fp:List Addr),QG (cx X scope cl N' C s₀ H₀ fp) tg tgt/\Km (cx X scope cl N' C s₀ H₀ fp) ifs fc/\QE (cx X scope cl N' C s₀ H₀ fp) elt fe)(hs:∀(x:Ly),Mp iter (Cx.env X) x=pure x:=by intro _;rfl):QE X (RU elt [{ target:=tg,iter:=iter,ifs:=ifs,is_async:=0 }] scope pos) (eY fi src tgt fc fe):=
 ⟨q_lc (hc:=hc) (S:=S) (hi:=hi.h) (block:=λa1 a2 a3 a4 a5=>⟨(block a1 a2 a3 a4 a5).1.h,(block a1 a2 a3 a4 a5).2.1.h,(block a1 a2 a3 a4 a5).2.2.h⟩) (hs:=hs)⟩
theorem bq {X:Cx}:CL X [] sN:=
 ⟨Gp ⟩
theorem ao {X:Cx}{st:Stmt}{dk:List Stmt}{F G:En->Rs Fl}(h1:QS X st F)(h2:CL X dk G):CL X (st::dk) (az F G):=
 ⟨Du (h1:=h1.h) (h2:=h2.h)⟩
theorem au {X:Cx}{st:Stmt}{F:En->Rs Fl}(h:QS X st F):CL X [st] F:=
 ⟨Gn (h:=h.h)⟩
theorem aB {X:Cx}{a:Expr}{fa:En->Rs T}{pos:Pos}(ha:QE X a fa):QS X (Stmt.Return (some a) pos) (aL fa):=
 ⟨Gk (ha:=ha.h)⟩
theorem bO {X:Cx}{c:Expr}{pos:Pos}{f:En->Rs Bool}{A B:List Stmt}{F G:En->Rs Fl}(hc:QT X c f)(ha:CL X A F)(hb:CL X B G):QS X (Stmt.If c A B pos) (eM f F G):=
 ⟨IL (hc:=hc.h) (ha:=ha.h) (hb:=hb.h)⟩
theorem wz {X:Cx}{pos:Pos}{elt tg iter:Expr}{ifs:List Expr}{scope:OY}{spos py:Pos}{N':List Str}{src:List (Option Nat)}{fi:En->Rs (List T)}{tgt:T->En->Rs En}{fc:En->Rs Bool}{fe:En->Rs T}(i:Nat){y:Str}(hc:Cx.calm X=true)(S:LcScope X scope N' src)(hi:QI X tg iter fi)(block:∀(cl:List (Str×Addr)) (C:Addr) (s₀:LB) (H₀:Hp) (fp:List Addr),QG (cx X scope cl N' C s₀ H₀ fp) tg tgt/\Km (cx X scope cl N' C s₀ H₀ fp) ifs fc/\QE (cx X scope cl N' C s₀ H₀ fp) elt fe)(hN:Mo (Cx.N X))(hiy:(Cx.N X)[i]? =some y:=by rfl)(hy:L2.Loc (N8 (Cx.env X)) y:=by first | exact MR rfl | exact MF rfl)(hsw:MK (RU elt [{ target:=tg,iter:=iter,ifs:=ifs,is_async:=0 }] scope pos) (some (Mf y py)) (OG spos) (Cx.env X)=pure true:=by rfl)(hf:Cx.fn X y=true\/Pc y (Ry (N8 (Cx.env X)))=some NameKind.local:=by first | exact .inl rfl | exact .inr rfl | assumption)(hs:∀(x:Ly),Mp iter (Cx.env X) x=pure x:=by intro _;rfl):QS X (PV [Mf y py] (RU elt [{ target:=tg,iter:=iter,ifs:=ifs,is_async:=0 }] scope pos) spos) (cC (eY fi src tgt fc fe) (gN i)):=
 ⟨IK (i:=i) (hc:=hc) (S:=S) (hi:=hi.h) (block:=λa1 a2 a3 a4 a5=>⟨(block a1 a2 a3 a4 a5).1.h,(block a1 a2 a3 a4 a5).2.1.h,(block a1 a2 a3 a4 a5).2.2.h⟩) (hN:=hN) (hiy:=hiy) (hy:=hy) (hsw:=hsw) (hf:=hf) (hs:=hs)⟩
theorem aG {X:Cx}{a:Expr}{fa:En->Rs T}{pos:Pos}{tg:Expr}{g:T->En->Rs En}(ha:QE X a fa)(hg:QG X tg g)(hs:RY [tg] a (OG pos) (Cx.env X)=pure false:=by rfl)(hw:RZ [tg] a (Cx.env X)=pure none:=by rfl)(h1:S8 (λx=>Prod.snd x) (Ni [tg] (Cx.env X))= [assign tg (Cx.env X)]:=by rfl):QS X (PV [tg] a pos) (cC fa g):=
 ⟨Gw (ha:=ha.h) (hg:=hg.h) (hs:=hs) (hw:=hw) (h1:=h1)⟩
theorem eC {X:Cx}{a:Expr}{fa:En->Rs T}{pos:Pos}(ha:QE X a fa)(hs:MK a none (OG pos) (Cx.env X)=pure false:=by rfl):QS X (Stmt.Expr a pos) (uD fa):=
 ⟨Dt (ha:=ha.h) (hs:=hs)⟩
theorem bN {X:Cx}{pos:Pos}{tg iter:Expr}{body:List Stmt}{fi:En->Rs (List T)}{g:T->En->Rs En}{F:En->Rs Fl}(hc:Cx.calm X=true)(hi:QI X tg iter fi)(hg:QG (Cx.nox X) tg g)(hb:CL (Cx.nox X) body F)(hs:∀(x:Ly),Mp iter (Cx.env X) x=pure x:=by intro _;rfl):QS X (Stmt.For tg iter body [] pos) (dP fi g F):=
 ⟨Gs (hc:=hc) (hi:=hi.h) (hg:=hg.h) (hb:=hb.h) (hs:=hs)⟩
theorem yX {X:Cx}{pos:Pos}{c:Expr}{body:List Stmt}{fc:En->Rs Bool}{F:En->Rs Fl}(n:Nat)(hc:QT (Cx.nox X) c fc)(hb:CL (Cx.nox X) body F):QS X (Stmt.While c body [] pos) (ck fc F n):=
 ⟨AS (n:=n) (hc:=hc.h) (hb:=hb.h)⟩
theorem bZ {X:Cx}{a:Expr}{fa:En->Rs T}{tg:Expr}(ha:QE X a fa):QI X tg a (iS fa):=
 ⟨GA (ha:=ha.h)⟩
theorem fX {X:Cx}{a:Expr}{fs:En->Rs (List T)}{p pos:Pos}{elts:List Expr}{kk:Nat}{tpos:Pos}(hm:Cx.mg X (LU "enumerate")=none)(ha:QA X [a] fs)(hg:Gl X (LU "enumerate"):=by rfl)(hs:LP [a] (Cx.env X)= [(false,eval a (Cx.env X))]:=by rfl):QI X (Expr.Tuple elts kk tpos) (NF (Mf (LU "enumerate") p) [a] [] pos) (iE fs):=
 ⟨Dz (hm:=hm) (ha:=ha.h) (hg:=hg) (hs:=hs)⟩
theorem fW {X:Cx}{es:List Expr}{pos p2 p3:Pos}{x:Str}(i:Nat){f:En->Rs (List T)}(hN:Mo (Cx.N X))(ha:QA X es f)(hi:(Cx.N X)[i]? =some x:=by rfl)(hx:L2.Loc (N8 (Cx.env X)) x:=by first | exact MR rfl | exact MF rfl)(hs:MK (Tv es p2) (some (Mf x p3)) (OG pos) (Cx.env X)=pure false:=by rfl)(hf:Cx.fn X x=true\/Pc x (Ry (N8 (Cx.env X)))=some NameKind.local:=by first | exact .inl rfl | exact .inr rfl | assumption):QS X (PV [Mf x p3] (Tv es p2) pos) (hW i f):=
 ⟨Dr (i:=i) (hN:=hN) (ha:=ha.h) (hi:=hi) (hx:=hx) (hs:=hs) (hf:=hf)⟩
theorem gC {X:Cx}{a:Expr}{fa:En->Rs T}{pos p2:Pos}{x:Str}(i:Nat){apos cpos:Pos}(ha:QE X a fa)(hN:(Cx.N X)[i]? =some x:=by rfl)(hv:sd (N8 (Cx.env X)) x:=by first | exact MR rfl | exact MF (MR rfl) | exact MF (MF rfl))(hn:bz a=true:=by rfl)(hbase:MY (Mf x p2) (LU "append") (Cx.env X) (eval (Mf x p2) (Cx.env X))=eval (Mf x p2) (Cx.env X):=by rfl)(hline:(RA apos == OG cpos)=true:=by rfl)(hd:gE x:=by decide)(hcd:(x == LU "__classdict__")=false:=by decide)(hsw:MK (NF (Oz (Mf x p2) (LU "append") apos) [a] [] cpos) none (OG pos) (Cx.env X)=pure false:=by rfl):QS X (Stmt.Expr (NF (Oz (Mf x p2) (LU "append") apos) [a] [] cpos) pos) (g9 i fa):=
 ⟨Gx (i:=i) (ha:=ha.h) (hN:=hN) (hv:=hv) (hn:=hn) (hbase:=hbase) (hline:=hline) (hd:=hd) (hcd:=hcd) (hsw:=hsw)⟩
theorem sg {X:Cx}{a:Expr}{fa:En->Rs T}{pos p2:Pos}{x:Str}(i:Nat){apos cpos:Pos}(ha:QE X a fa)(hN:(Cx.N X)[i]? =some x:=by rfl)(hv:sd (N8 (Cx.env X)) x:=by first | exact MR rfl | exact MF (MR rfl) | exact MF (MF rfl))(hn:bz a=true:=by rfl)(hbase:MY (Mf x p2) (LU "extend") (Cx.env X) (eval (Mf x p2) (Cx.env X))=eval (Mf x p2) (Cx.env X):=by rfl)(hline:(RA apos == OG cpos)=true:=by rfl)(hd:gE x:=by decide)(hcd:(x == LU "__classdict__")=false:=by decide)(hsw:MK (NF (Oz (Mf x p2) (LU "extend") apos) [a] [] cpos) none (OG pos) (Cx.env X)=pure false:=by rfl):QS X (Stmt.Expr (NF (Oz (Mf x p2) (LU "extend") apos) [a] [] cpos) pos) (oS i fa):=
 ⟨Gu (i:=i) (ha:=ha.h) (hN:=hN) (hv:=hv) (hn:=hn) (hbase:=hbase) (hline:=hline) (hd:=hd) (hcd:=hcd) (hsw:=hsw)⟩
theorem gB {X:Cx}(i:Nat){st:Stmt}{F:En->Rs Fl}(h:QS X st F):QS X st (lK i F):=
 ⟨Gv (i:=i) (h:=h.h)⟩
theorem jk {X:Cx}(i:Nat){e:Expr}{f:En->Rs T}(h:QE X e f):QE X e (ln i f):=
 ⟨q_ln (i:=i) (h:=h.h)⟩
theorem FG {X:Cx}(i:Nat){e:Expr}{f:En->Rs Bool}(h:QT X e f):QT X e (Hg i f):=
 ⟨IJ (i:=i) (h:=h.h)⟩
theorem FI {X:Cx}{n:Nat}{es args:List Expr}{a0 i0:Expr}{p1 p2 pos:Pos}{as:List Addr}{gs:List (List T->Rs T)}{f0:En->Rs T}{fs:En->Rs (List T)}(S:Sels X n es as gs)(h0:QE X i0 f0)(hl:∀(Z:En) (ts:List T),fs Z=Rs.ok ts->MD ts=n)(ha:QA X (a0::args) fs)(hn:bD (a0::args)=true:=by rfl)(hs:kA i0:=by intro _ _;rfl)(hz:MD es<=100:=by decide):QE X (NF (Nl (Tv es p1) i0 p2) (a0::args) [] pos) (wN gs f0 fs):=
 ⟨IT (S:=S) (h0:=h0.h) (hl:=hl) (ha:=ha.h) (hn:=hn) (hs:=hs) (hz:=hz)⟩
theorem FH {X:Cx}{pos:Pos}:QS X (Stmt.Continue pos) Fg:=
 ⟨IM ⟩
theorem mq {X:Cx}{c:Str}{msg:Str}{C:Addr}{bm:List Ly}{np p1 cpos pos:Pos}{j:Nat}(O:OX X.K C bm)(hm:X.mg c=some (.ref C))(hc:X.calm=true:=by rfl)(hg:Gl X c:=by rfl)(hd:gE c:=by decide) :
  QS X (.Raise (some (.Call (.Name c np) [.Constant (.str msg) j p1] [] cpos)) none pos) (AI c):=⟨AU O.own hc hm hg hd⟩
theorem CW {X:Cx}{body suite:List Stmt}{b0:Stmt}{F:En->Rs Fl}{h:Str->Rs T}{ce n:Str}{CE:Addr}{bmE:List Ly}(i:Nat){np hpos pos:Pos}(hN:X.N.Nodup)(hm:X.mg ce=some (.ref CE))(OE:OX X.K CE bmE)
  (hb:∀pn xe,CL { X with pn:=pn,xe:=xe } body F) (hs:uw X i (b0::suite) CE h) (hst:X.stack=X.env::X.outer:=by rfl) (hfe:X.env.frame=some X.env.locals:=by rfl) (hcl:∀x c,X.env.cells.lookup x≠some c) (hex:X.ex= []:=by rfl)
  (hi:X.N[i]? =some n:=by rfl) (hloc:X.env.scope.names.lookup n=some .local:=by rfl) (hg:Gl X ce:=by rfl) (hd:gE ce:=by decide) :
  QS X (.Try body [.ExceptHandler (some (.Name ce np)) (some n) (b0::suite) hpos] [] [] pos) (uZ F h):=⟨Gj hst hfe hcl hex hN hi hloc hm OE (λpn xe=>(hb pn xe).h) hs hg hd⟩
theorem xO {P:L1}{w:MG}{K:Lu}{mg:Str->Option Ly}{base:Heap}{x qual:Str}{st:Stmt}{f:Addr}{fd:MP}{N ps:List Str}{k n:Nat}{F:En->Rs Fl}(Fn:L2.Fun K x qual st f fd)(S:aE N ps (aq st))(hn:ps.length=n)
  (hbody:∀(cdv:Ly) (A:Mh) (outer:List Env) (s:LB) (H:Hp) (E:XK),Room k (A.deeper (envOfC qual (aq st) s.heap.objs.size f cdv)) →
   ∀xe,CL ((ml CX0 P w K mg base N qual (aq st) f cdv A outer s H E).FB xe) (du st) F):Ak P w K mg base (k+1) f fd ps n (val n N.length F):=HF Fn S hn λcdv A outer s H E hr xe=>(hbody cdv A outer s H E hr xe).h
theorem cv {X:Cx}{a b:Expr}{fa fb:En->Rs T}{pos:Pos}(hu:Pq (Cx.A X)+1<cLine)(ha:QE X a fa)(hb:QE X b fb)(hs:Ac b:=by intro _ _;rfl):QE X (Nl a b pos) (o2 bB fa fb):=
 ⟨Jb (hu:=hu) (ha:=ha.h) (hb:=hb.h) (hs:=hs)⟩
theorem xN {X:Cx}{a b:Expr}{fa fb:En->Rs T}{apos cpos:Pos}(hu:Pq (Cx.A X)+1<cLine)(ha:QE X a fa)(hb:QE X b fb)(hn:bz b=true:=by rfl)(hbase:MY a (LU "get") (Cx.env X) (eval a (Cx.env X))=eval a (Cx.env X):=by rfl)(hline:(RA apos == OG cpos)=true:=by rfl):QE X (NF (Oz a (LU "get") apos) [b] [] cpos) (oD jv fa fb):=
 ⟨GF (hu:=hu) (ha:=ha.h) (hb:=hb.h) (hn:=hn) (hbase:=hbase) (hline:=hline)⟩
theorem yZ {X:Cx}{a b:Expr}{fa fb:En->Rs T}{apos cpos:Pos}(hu:Pq (Cx.A X)+61<cLine)(ha:QE X a fa)(hb:QE X b fb)(hn:bz b=true:=by rfl)(hbase:MY a (LU "index") (Cx.env X) (eval a (Cx.env X))=eval a (Cx.env X):=by rfl)(hline:(RA apos == OG cpos)=true:=by rfl):QE X (NF (Oz a (LU "index") apos) [b] [] cpos) (oL ig fa fb):=
 ⟨AX (hu:=hu) (ha:=ha.h) (hb:=hb.h) (hn:=hn) (hbase:=hbase) (hline:=hline)⟩
theorem Al {X:Cx}{e:Expr}{f:En->Rs T}{x:Str}{p pos p2 p3:Pos}(i:Nat)(hu:Pq (Cx.A X)+8<cLine)(hc:Cx.calm X=true)(hm:Cx.mg X (LU "dict")=none)(hN:Mo (Cx.N X))(ha:QE X e f)(hst:bz e=true:=by rfl)(hg:Gl X (LU "dict"):=by rfl)(hi:(Cx.N X)[i]? =some x:=by rfl)(hx:L2.Loc (N8 (Cx.env X)) x:=by first | exact MR rfl | exact MF rfl)(hs:MK (NF (Mf (LU "dict") p) [e] [] p2) (some (Mf x p3)) (OG pos) (Cx.env X)=pure false:=by rfl)(hf:Cx.fn X x=true\/Pc x (Ry (N8 (Cx.env X)))=some NameKind.local:=by first | exact .inl rfl | exact .inr rfl | assumption):QS X (PV [Mf x p3] (NF (Mf (LU "dict") p) [e] [] p2) pos) (rn i f):=
 ⟨Ds (i:=i) (hu:=hu) (hc:=hc) (hm:=hm) (hN:=hN) (ha:=ha.h) (hst:=hst) (hg:=hg) (hi:=hi) (hx:=hx) (hs:=hs) (hf:=hf)⟩
theorem CY {X:Cx}{b c:Expr}{fb fc:En->Rs T}{pos p2 p3:Pos}{x:Str}(i:Nat)(hu:Pq (Cx.A X)+1<cLine)(hb:QE X b fb)(hc:QE X c fc)(hN:(Cx.N X)[i]? =some x:=by rfl)(hv:sd (N8 (Cx.env X)) x:=by first | exact MR rfl | exact MF (MR rfl) | exact MF (MF rfl))(hd:gE x:=by decide)(hcd:(x == LU "__classdict__")=false:=by decide)(hs:MK c (some (Nl (Mf x p2) b p3)) (OG pos) (Cx.env X)=pure false:=by rfl):QS X (PV [Nl (Mf x p2) b p3] c pos) (zh i fb fc):=
 ⟨Gm (i:=i) (hu:=hu) (hb:=hb.h) (hc:=hc.h) (hN:=hN) (hv:=hv) (hd:=hd) (hcd:=hcd) (hs:=hs)⟩
theorem oo {X:Cx}{a b c:Expr}{fa fb fc:En->Rs T}{pos p2 p3 p4:Pos}{x:Str}(i:Nat)(hu:Pq (Cx.A X)+1<cLine)(ha:QE X a fa)(hb:QE X b fb)(hc:QE X c fc)(hsl:Ac a:=by intro _ _;rfl)(hN:(Cx.N X)[i]? =some x:=by rfl)(hv:sd (N8 (Cx.env X)) x:=by first | exact MR rfl | exact MF (MR rfl) | exact MF (MF rfl))(hd:gE x:=by decide)(hcd:(x == LU "__classdict__")=false:=by decide)(hs:MK c (some (Nl (Nl (Mf x p2) a p3) b p4)) (OG pos) (Cx.env X)=pure false:=by rfl):QS X (PV [Nl (Nl (Mf x p2) a p3) b p4] c pos) (jo i fa fb fc):=
 ⟨Dq (i:=i) (hu:=hu) (ha:=ha.h) (hb:=hb.h) (hc:=hc.h) (hsl:=hsl) (hN:=hN) (hv:=hv) (hd:=hd) (hcd:=hcd) (hs:=hs)⟩
end Tr
namespace Tr
open PySem PySem.Spec L2
theorem LcScope.byN {X:Cx}{scope:OY}{N N':List Str}{src:List (Option Nat)}(hN:X.N=N)(hk:scope.kind= .function)(h:Hj scope.names N scope.names N' src=true)
  (hf:(scope.names.all λy=>y.2 != .free||(X.env.scope.names.lookup y.1 == some .cell||X.env.scope.names.lookup y.1 == some .free))=true):LcScope X scope N' src:=by
 have z:=LcScope.by (X:={ X with env:={ X.env with scope:=scope } }) hN rfl hk h
 refine⟨hk,z.cel,z.loc,z.len,z.from_,λx hx=> ?_⟩
 have:=L5.mp hf _ hx;simp only[bne_self_eq_false,Qs,Tj]at this
 show X.env.scope.names.lookup x=_\/X.env.scope.names.lookup x=_
 rcases this with z | z
 ·exact .inl (by simpa using z)
 ·exact .inr (by simpa using z)
end Tr
namespace Tr
open PySem PySem.Spec PyProof.Rows L2 PySem.W
def B9 (h:Heap):Frag:=(MA h.objs.size).filterMap λa=>(h.get? a).map λo=>(a,o)
theorem B8 (h:Heap):(B9 h).In h:=by
 have key:∀(l:List Nat) (a:Addr) (o:Obj),(l.filterMap λa=>(h.get? a).map λo=>(a,o)).lookup a=some o->h.get? a=some o:=by
  intro l
  induction l with
  | nil=>intro a o e;cases e
  | cons b r ih=>
   intro a o e
   cases hb:h.get? b with
   | none=>rw[List.filterMap_cons_none (by rw[hb];rfl)]at e;exact ih a o e
   | some ob=>
    rw[List.filterMap_cons_some (b:=(b,ob)) (by rw[hb];rfl),ML]at e
    cases q:a == b with
    | true=>rw[q]at e;cases e;rw[eq_of_beq q];exact hb
    | false=>rw[q]at e;exact ih a o e
 exact λa o e=>key _ a o e
def obF (K:Frag)(n:Str):Option (Str×Str×TC×FuncBody×OY×Addr×List (Str×Addr)×Ly×Addr×Bool×Bool):=match nsIn K Mu n with
 | some (some (.ref f))=>match K.lookup f with
  | some ⟨_,_,.func d,_⟩=>some (d.name,d.qualname,d.params,d.body,d.scope,d.globals,d.closure,d.defaults,d.builtins,codeIn K d.code n,keepIn K (.ref f))
  | _=>none
 | _=>none
def exF (n:Str)(st:Stmt):Option (Str×Str×TC×FuncBody×OY×Addr×List (Str×Addr)×Ly×Addr×Bool×Bool):=
 some (n,n,i9 st,.stmts (du st),aq st,Mu,[],.none,Rh,true,true)
theorem Fv {K:Frag}{n:Str}{st:Stmt}(e:obF K n=exF n st):∃f fd,nsIn K Mu n=some (some (.ref f))/\L2.Fun K n n st f fd:=by
 unfold obF at e
 split at e
 ·rename_i f hf
  split at e
  ·rename_i oc od d sl hl
   cases d;unfold exF at e;simp only[MI.injEq,RI]at e;obtain⟨h1,h2,h3,h4,h5,h6,h7,h8,h9,h10,h11⟩:=e;subst h1 h2 h3 h4 h5 h6 h7 h8 h9;exact⟨f,_,hf,HC hl h10 h11⟩
  ·cases e
 ·cases e
def Jr (K:Frag)(N:Addr)(n:Str):Bool:=match nsIn K N n with | some none=>true | _=>false
theorem pf {K:Frag}{N:Addr}{n:Str}(e:Jr K N n=true):nsIn K N n=some none:=by
 unfold Jr at e
 split at e
 ·assumption
 ·cases e
def Ki (K:Frag)(n:Str):Option Int:=match nsIn K Mu n with | some (some (.int i _))=>some i | _=>none
theorem G6 {K:Frag}{n:Str}{i:Int}(e:Ki K n=some i):∃t,nsIn K Mu n=some (some (.int i t)):=by
 unfold Ki at e
 split at e
 ·rename_i i' t h;cases e;exact⟨t,h⟩
 ·cases e
def xP:List Ly->Bool
 | [.type a,.type b,.type c,.type d] =>a == "ValueError" &&b == "Exception" &&c == "BaseException" &&d == "object"
 | _=>false
theorem oA:∀{l:List Ly},xP l=true->l=nT:=by
 intro l e;unfold xP at e
 split at e
 ·simp only[LC,beq_iff_eq]at e
  obtain⟨⟨⟨h1,h2⟩,h3⟩,h4⟩:=e;subst h1 h2 h3 h4;rfl
 ·cases e
def Ap (D:Option Addr)(m:List Ly):Bool:=match D with
 | none=>xP m
 | some D=>match m with
  | .ref E::m=>E == D&&xP m
  | _=>false
def DZ (K:Frag)(D:Option Addr)(n:Str):Option Addr:=match nsIn K Mu n with
 | some (some (.ref C))=>match K.lookup C with
  | some ⟨.type t,_,.cls c,⟨[_,_,_,_,some (.builtin b),_]⟩⟩=>match c.mro,K.lookup c.ns with
   | .ref E::m,some ⟨_,_,.dict es _,_⟩=>
    if (t == "type" &&b == "ValueError.__new__" && !c.hasDel&&(es.toList.all λe=>AA e.key)&&calmNames.all (Jr K c.ns)&&E == C&&Ap D m)=true then some C else none
   | _,_=>none
  | _=>none
 | _=>none
theorem iw {K:Frag}{D:Option Addr}{n:Str}{C:Addr}(e:DZ K D n=some C):nsIn K Mu n=some (some (.ref C)) ∧
  ∃nm q N bs bm hd sn su ab co dd k0 k1 k2 k3 k5,Ap D bm=true/\K.lookup C=some (MU nm q C N bs bm hd sn su ab co dd k0 k1 k2 k3 k5 "ValueError.__new__")/\∀h:Heap,K.In h->∃mN,h.Ns N mN/\∀n∈calmNames,mN n=none:=by
 unfold DZ at e
 split at e
 ·rename_i C' hC
  split at e
  ·rename_i t dd c k0 k1 k2 k3 b k5 hl
   split at e
   ·rename_i E m ob oe es ep oz hm hN
    split at e
    ·rename_i hq
     cases e;simp only[LC,beq_iff_eq,So]at hq;obtain⟨⟨⟨⟨⟨⟨h1,h2⟩,h3⟩,h4⟩,h5⟩,h6⟩,h7⟩:=hq
     have z:=L5.mp h5;refine⟨hC,c.name,c.qualname,c.ns,c.bases,m,c.hasDict,c.slotNames,c.subclasses,c.abstract,c.collection,dd,k0,k1,k2,k3,k5,h7,?_,Js hN h4 (pf (z _ (.head _))) (pf (z _ (.tail _ (.head _)))) (pf (z _ (.tail _ (.tail _ (.head _))))) (pf (z _ (.tail _ (.tail _ (.tail _ (.head _))))))⟩
     rw[hl];cases c;simp only at hm h3;subst h1 h2 hm h3 h6
     rfl
    ·cases e
   ·cases e
  ·cases e
 ·cases e
theorem ox0 {K:Frag}{C:Addr}{n:Str}(e:DZ K none n=some C):OX K C nT:=by
 obtain⟨_,_,_,_,_,_,_,_,_,_,_,_,_,_,_,_,_,hu,hl,hn⟩:=iw e;cases oA hu;exact DU hl hn
theorem Ib {K:Frag}{C D:Addr}{n m:Str}(e:DZ K (some D) n=some C)(d:DZ K none m=some D):OX K C (.ref D::nT):=by
 obtain⟨_,_,_,_,_,bm,_,_,_,_,_,_,_,_,_,_,_,hu,hl,hn⟩:=iw e;obtain⟨_,_,_,_,_,_,_,_,_,_,_,_,_,_,_,_,_,hu',hl',hn'⟩:=iw d;cases oA hu';unfold Ap at hu;simp only at hu
 split at hu
 ·rw[LC]at hu
  cases eq_of_beq hu.1;cases oA hu.2;exact Bi hl hn hl' hn'
 ·cases hu
def xI {α:Type}:List (Option α)->Option (List α)
 | [] =>some []
 | none::_=>none
 | some a::r=>match xI r with | some l=>some (a::l) | none=>none
theorem gI {α:Type}{o:Option α}{r:List (Option α)}{l:List α}(e:xI (o::r)=some l):∃a l',o=some a/\l=a::l'/\xI r=some l':=by
 cases o with
 | none=>cases e
 | some a=>
  unfold xI at e
  split at e
  ·rename_i l' h;cases e;exact⟨a,l',rfl,rfl,h⟩
  ·cases e
theorem CI {α:Type}{l:List α}(e:xI ([]:List (Option α))=some l):l= []:=by cases e;rfl
def tI:List Addr->Bool
 | [] =>true
 | a::r=>(r.all λb=> !(a == b))&&tI r
theorem rB:∀{l:List Addr},tI l=true->l.Nodup
 | [],_=> .nil
 | a::r,h=>by
  unfold tI at h;rw[LC]at h;refine L7.mpr ⟨λhm=> ?_,rB h.2⟩
  have:=L5.mp h.1 a hm
  simp at this
def Kh (K:Frag):List Str->Bool
 | [] =>true
 | m::es=>match DZ K none m with
  | some D=>match xI (es.map (DZ K (some D)))with | some l=>tI (l++ [D]) | none=>false
  | none=>false
theorem G3 {K:Frag}{m:Str}{es:List Str}(e:Kh K (m::es)=true):∃D l,DZ K none m=some D/\xI (es.map (DZ K (some D)))=some l/\(l++ [D]).Nodup:=by
 rw[Kh]at e
 split at e
 ·rename_i D hD
  split at e
  ·rename_i l hl;exact⟨D,l,hD,hl,rB e⟩
  ·cases e
 ·cases e
structure Af where
 tab:List (Str×Nat)
 zs:List Str
 cs:List (Str×Int)
 es:List Str
def qJ (S:Af)(K:Frag):=(S.tab.map (λp=>obF K p.1),S.zs.all (Jr K Mu),S.cs.map (λc=>Ki K c.1),Kh K S.es)
def qo (S:Af)(top:Nat->Stmt):=(S.tab.map (λp=>exF p.1 (top p.2)),true,S.cs.map (λc=>some c.2),true)
def hookK (S:Af)(top:Nat->Stmt):Hook:=
 ⟨_,λs=>qJ S (B9 s.heap),λ_=>qo S top,λ_ h=> ∃K:Frag,K.In h/\qJ S K=qo S top,λ_ s e=>⟨_,B8 s.heap,e⟩,λ_ _ _ ⟨K,a,b⟩ k=>⟨K,a.keeps k,b⟩⟩
section
variable {S:Af}{top:Nat->Stmt}{K:Frag}{h:Heap}{mg:Str->Option Ly}
theorem tS {α β:Type}{f g:α->β}:∀{l:List α} (j:Nat) {a:α},l.map f=l.map g->l[j]? =some a->f a=g a
 | [],_,_,_,q=>by cases q
 | b::l,0,a,e,q=>by cases q;exact(List.cons.inj e).1
 | b::l,j+1,a,e,q=>tS (l:=l) j (List.cons.inj e).2 q
theorem cu (j:Nat){n:Str}{i:Nat}{ps:List Str}(X:K.In h)(G:h.Ns Mu mg)(e:qJ S K=qo S top)(q:S.tab[j]? =some (n,i))
  (hb:∀(kV doc pm:Ly) (an:Option Addr) (cdv ct:Ly) (us:List Ly),us.length=ps.length->bindArgs (fnOf n n (i9 (top i)) (du (top i)) (aq (top i)) .none kV doc pm an cdv ct) ⟨us,[]⟩=pure (ps.zip us)) :
  ∃f fd,Fn K mg n (top i) ps f fd:=by
 obtain⟨f,fd,h1,h2⟩:=Fv (tS j (congrArg (·.1) e) q)
 exact⟨f,fd,h2,h2.binds hb,mg_of X G h1⟩
theorem JM (j:Nat){n:Str}{i:Nat}{x:Str}{fa:Addr}(X:K.In h)(G:h.Ns Mu mg)(e:qJ S K=qo S top)(q:S.tab[j]? =some (n,i))(hfa:mg n=some (.ref fa))
  (hb:∀(kV doc pm:Ly) (an:Option Addr) (cdv ct u:Ly),bindArgs (fnOf n n (i9 (top i)) (du (top i)) (aq (top i)) .none kV doc pm an cdv ct) ⟨[u],[]⟩=pure [(x,u)]) :
  ∃fd,Fn K mg n (top i) [x] fa fd/\∀(s:LB) (u:Ly),RD s fd ⟨[u],[]⟩ [(x,u)]:=by
 obtain⟨f,fd,h1,h2⟩:=Fv (tS j (congrArg (·.1) e) q)
 have z:=hfa.symm.trans (mg_of X G h1);cases z
 have hh:=h2;obtain⟨oc,od,kV,doc,pm,an,cdv,ct,osl,rfl,lk,hcd⟩:=hh.ex;exact⟨_,⟨h2,.all λus hl=>match us,hl with | [u],_=>hb kV doc pm an cdv ct u,mg_of X G h1⟩,λs u=> .of_eq (hb kV doc pm an cdv ct u)⟩
theorem gp (j:Nat){n:Str}(X:K.In h)(G:h.Ns Mu mg)(e:qJ S K=qo S top)(q:S.zs[j]? =some n):mg n=none:=
 mg_none_of X G (pf (L5.mp (congrArg (·.2.1) e:S.zs.all (Jr K Mu)=true) n (Nz q)))
theorem rK (j:Nat){n:Str}{i:Int}(X:K.In h)(G:h.Ns Mu mg)(e:qJ S K=qo S top)(q:S.cs[j]? =some (n,i)):∃t,mg n=some (.int i t):=by
 obtain⟨t,ht⟩:=G6 (tS (f:=λc=>Ki K c.1) (g:=λc=>some c.2) j (congrArg (·.2.2.1) e) q)
 exact⟨t,mg_of X G ht⟩
theorem JO (e:qJ S K=qo S top):Kh K S.es=true:=congrArg (·.2.2.2) e
end
theorem left_of {p q:L1}{loose:List Str}{Xt:LB->Bool}{α:Type}{Yf:LB->α}{Ya:MG->α}{N:Nat}{g0:Bool}
  (e:opening p=plainProg p.main.scope.names) (hN:Nat.ble 600 N=true) (f:∀s,fenceModules? p s=some s)
  (h:∀(w:MG) (os:Sx),(topFrom treeTable p w N ⟨boot_heap w.params,⟨[]⟩,boot_drawn,boot_toks,os⟩).map (λs=>(openSeen q loose (TN p.main.body) Xt g0 s,Yf s))=some (openGood q loose,Ya w)) :
  LeftO p q loose Xt Yf Ya N g0:=λw=>by
 obtain⟨⟨h0,gs,d,k,os⟩,e1,e2⟩:=NJ.mp (boot_open e hN f w);simp only[RI]at e2;obtain⟨rfl,rfl,rfl,rfl⟩:=e2;unfold openEnds;rw[e1];exact h w os
theorem walk_k {l:OpenLaw}{n k:Nat}{q:L1}{loose:List Str}{XP:(Str->Option Ly)->Heap->Prop}{d:DefRec}{S:Af}{top:Nat->Stmt}{CX:CT}{sp:Frag->Sp}{x:Str}
  (hn:l.most=some n) (hn2:n<=sizeLine) (hdf:d.params.defaults= []) (hr:Room k callerA)
  (F:∀(w:MG) (K:Frag) (mg:Str->Option Ly) (fa:Addr) (h:Heap),K.In h->qJ S K=qo S top->h.Ns Mu mg->mg d.name=some (.ref fa) →
   ∃fd:MP,(∀(s:LB) (u:Ly),RD s fd ⟨[u],[]⟩ [(x,u)])/\∀base:Heap,K.In base->base.Ns Mu mg->qW l.prog w K mg base CX k fa fd [x] (sp K))
  (hsp:∀(K:Frag) (H:Hp) (a:Addr) (ns:List Int),ns.length<=n->H0 H->SqL K H a (ns.map V.int)->sp K [.ref a] H (λv _=>v= .bl true) λ_ _ _=>False)
  (hCX:∀(H:Hp) (s:LB) (e:Ly) (s':LB),CX [] H s (λ_ _ _=>False) e s'->False) :
  WalkO q loose XP (hookK S top).says l.row.toRowW d [] (λf vs=>PySem.call f vs):=by
 refine Att.attach_call hn hdf λw s₀ s₁ mg mb fa o pm cd doc a vs ns G Y ho hd hcd hmg hobj hints hlen hg=> ?_
 obtain⟨K,KX,e⟩:=Y;obtain⟨fd,hb,hF⟩:=F w K mg fa _ KX e G.T.g hmg;exact BK KX G.T.g G.T.b G.T.builtins G.T.nolimit hg hobj hints (Md hlen hn2) hr hF hb (λH hO hS=>hsp K H a ns hlen hO hS) λH e s'=>hCX H s₁ e s'
structure Cl (P:L1)(w:MG)(K:Frag)(mg:Str->Option Ly)(base:Heap)(k:Nat)(x:Str)(n:Nat)(m:List T->Rs T):Prop where
 ex:∃f fd ps,mg x=some (.ref f)/\keepIn K (.ref f)=true/\Binds K fd ps []/\ps.length=n/\Ak P w K mg base k f fd ps n m
abbrev gz (K:Frag)(mg:Str->Option Ly)(x:Str)(st:Stmt)(ps:List Str):Prop:=∃f fd,Fn K mg x st ps f fd
section
variable {P:L1}{w:MG}{K:Frag}{mg:Str->Option Ly}{base:Heap}{x:Str}{st:Stmt}{N ps:List Str}{k n:Nat}{F:En->Rs Fl}
theorem br (H:gz K mg x st ps)(S:aE N ps (aq st))(hn:ps.length=n)
  (hbody:∀(f:Addr) (cdv:Ly) (A:Mh) (outer:List Env) (s:LB) (H:Hp) (E:XK),Room k (A.deeper (envOfC x (aq st) s.heap.objs.size f cdv)) →
   ∀xe,CL ((ml CX0 P w K mg base N x (aq st) f cdv A outer s H E).FB xe) (du st) F):Cl P w K mg base (k+1) x n (val n N.length F):=by
 obtain⟨f,fd,h⟩:=H;exact⟨f,fd,ps,h.mg,h.fn.kp,h.bd,hn,xO h.fn S hn (hbody f)⟩
end
section
variable {X:Cx}{e:Expr}{es:List Expr}{fs:En->Rs (List T)}{pos p:Pos}{x:Str}{n k k':Nat}{g:List T->Rs T}
theorem aN (c:Cl X.prog X.w X.K X.mg X.base k x n g)(hr:Room k' X.A)(ha:QA X (e::es) fs)(hk:k<=k':=by decide)(hl:∀(Z:En) (ts:List T),fs Z= .ok ts->ts.length=n:=by repeat first | exact FA | refine Fz ?_)
  (hn:bD (e::es)=true:=by rfl) (hg:Gl X x:=by rfl) (h2:gE x:=by decide):QE X (.Call (.Name x p) (e::es) [] pos) (cl g fs):=by
 obtain⟨f,fd,ps,h1,h3,h4,h5,h6⟩:=c.ex;exact zq_c h6 (hr.mono hk) h1 h3 h4 hl ha h5 hn hg h2
theorem uG {i:Int}(h:∃t,X.mg x=some (.int i t))(hg:Gl X x:=by rfl)(hd:gE x:=by decide):QE X (.Name x pos) (cn (.int i)):=by
 obtain⟨t,h⟩:=h;exact C2 h ⟨_,rfl⟩ hg hd
abbrev EN (X:Cx)(n:Nat)(es:List Expr)(gs:List (List T->Rs T)):Prop:=∃as,Sels X n es as gs
theorem selN:EN X n [] []:=⟨_,seln⟩
theorem Dg {gs:List (List T->Rs T)}(c:Cl X.prog X.w X.K X.mg X.base k x n g)(hr:Room k' X.A)(h:EN X n es gs)(hk:k<=k':=by decide)(hg:Gl X x:=by rfl)(hd:gE x:=by decide):EN X n (.Name x p::es) (g::gs):=by
 obtain⟨f,fd,ps,h1,h3,h4,h5,h6⟩:=c.ex;obtain⟨as,h⟩:=h;exact⟨_,selc h6 (hr.mono hk) h1 h3 h4 h h5 hg hd⟩
theorem C1 {args:List Expr}{a0 i0:Expr}{p1 p2:Pos}{gs:List (List T->Rs T)}{f0:En->Rs T}(S:EN X n es gs)(h0:QE X i0 f0)(ha:QA X (a0::args) fs)(hl:∀(Z:En) (ts:List T),fs Z= .ok ts->ts.length=n:=by repeat first | exact FA | refine Fz ?_)
  (hn:bD (a0::args)=true:=by rfl) (hs:kA i0:=by intro _ _;rfl) (hz:MD es<=100:=by decide):QE X (.Call (.Subscript (.List es p1) i0 p2) (a0::args) [] pos) (wN gs f0 fs):=by
 obtain⟨as,S⟩:=S;exact FI S h0 hl ha hn hs hz
end
end Tr
namespace Tr
open PySem PySem.Spec PyProof.Rows L2
theorem PairsAt.snoc {H:Hp}{b kb:Addr}{p:List Key×V}(h1:H b=some (.tup [.ref kb,p.2]))(h2:H kb=some (.tup (p.1.map kV))):∀{xs:List V} {ps:List (List Key×V)},PairsAt H xs ps->PairsAt H (xs++ [.ref b]) (ps++ [p])
 | [],_,h=>by
  unfold PairsAt at h;subst h
  exact⟨b,kb,p,[],rfl,rfl,h1,h2,rfl⟩
 | x::xs,_,⟨b',kb',p',r,e1,e2,e3,e4,e5⟩=>by
  subst e1;exact⟨b',kb',p',r++ [p],rfl,e2,e3,e4,e5.snoc h1 h2⟩
theorem PairsAt.move {H H':Hp}{D:Addr}{zs:List V}(hD:H D=some (.lst zs))(s:SameO (λa=>a=D) H H'):∀{xs:List V} {ps:List (List Key×V)},PairsAt H xs ps->PairsAt H' xs ps
 | [],_,h=>h
 | x::xs,_,⟨b,kb,p,r,e1,e2,e3,e4,e5⟩=>⟨b,kb,p,r,e1,e2,s _ _ e3 (lT e3 hD (λz=>nomatch z)),s _ _ e4 (lT e4 hD (λz=>nomatch z)),e5.move hD s⟩
theorem PairsAt.len {H:Hp}:∀{xs:List V} {ps:List (List Key×V)},PairsAt H xs ps->xs.length=ps.length
 | [],_,h=>by unfold PairsAt at h;subst h;rfl
 | x::xs,_,⟨b,kb,p,r,e1,e2,e3,e4,e5⟩=>by subst e1;rw[LG,LG,e5.len]
section
variable {X:Cx}
theorem vP {src:List (Option Nat)}{wi:TI}{te:TE}{σ:L2.St}{H:Hp}{Q:VK}{Z:En}{O:Ow}{l:List T}{kk:List (List Key)}(E:EnvO X.K O H Z σ)(hwi:∀R,(∀H1,Same H H1->∀J,Kq X.K O H1 l J->R J H1)->wi σ H R)(hz:l.length<=1000)(hk:l.map keyOf=kk.map some)(hs:0<src.length)
  (Acc:Hp->Addr->List V->Prop) (a0:∀H1 D,Same H H1->Nw X.K H1 D->Acc (upd H1 D (.lst [])) D [])
  (am:∀H1 H2 D vs ys,Acc H1 D vs->H1 D=some (.lst ys)->SameO (λa=>a=D) H1 H2->Acc H2 D vs)
  (hte:∀t∈l,∀σ' H' O' D vs ys (Q':VK),EnvM X.K O' noM H' ((bR src Z).set 0 (.va t)) σ'->Acc H' D vs->H' D=some (.lst ys)->(∀v H'',Same H' H''->Acc H'' D (vs++ [v])->Q' v H'')->te σ' H' Q')
  (hq:∀H1 D ys ps H',Same H H1->Nw X.K H1 D->Same H1 H'->H' D=some (.lst ys)->PairsAt H' ys ps->ps.map (·.1)=kk->Acc H' D (ps.map (·.2))->Q (.ref D) H') :
  FR X.K wi src (Ax X (gN 0)) uM (C8 (hV (oC 0) (hV te sk))) σ H Q:=by
 refine hwi _ λH1 s1 J hJ D hD hK=> ?_
 have nD:Nw X.K H1 D:=⟨hD,hK⟩
 have E1:=E.same s1
 have lk:l.length=kk.length:=by have:=congrArg MD hk;rwa [LA,LA]at this
 have hlen:0<(bR src Z).length:=by unfold bR;rw[LA];exact hs
 let O':Ow:=λa=>O a\/a=D
 have subO:∀a,O' a->O a\/Nw X.K H1 a:=λa z=>z.elim .inl λw=> .inr (w▸nD)
 refine⟨λi m σ' ys H'=>m=l.length - i/\i<=l.length/\ys.length=i/\H' D=some (.lst ys)/\SameO (λa=>a=D) (upd H1 D (.lst [])) H' ∧
  ∃s0 ps,EnvM X.K O' noM H' ((bR src Z).set 0 s0) σ'/\PairsAt H' ys ps/\ps.map (·.1)=kk.take i/\Acc H' D (ps.map (·.2)),⟨l.length,?_⟩,?_⟩
 ·have sN:Same H1 (upd H1 D (.lst [])):=a9 hD _
  refine⟨by omega,MT _,rfl,aJ,λb o e _=>e,(bR src Z)[0],[],?_,rfl,rfl,a0 H1 D s1 nD⟩
  rw[Q3]
  exact(vQ E1 src).move (P:=λa=>a=D) (λa z=> .inr (z▸nD)) subO (λb o e _=>sN b o e) λa z=>by
   rcases z with z | z
   ·exact(E1.mtb a z).same sN
   ·rw[z];exact .inl ⟨_,aJ⟩
 ·rintro i m σ' ys H' ⟨rfl,hi',hyl,hDl,hsm,s0,ps,E',hp,hkk,hacc⟩
  refine⟨hDl,?_⟩
  have sm1:SameO (λa=>a=D) H1 H':=λb o e nb=>hsm b o (by rw[aI nb];exact e) nb
  have it:=hJ (λa=>a=D) O' (λa z=> .inr (z▸nD)) subO i H' sm1 (λa z=>(E'.trk a z).some)
  by_cases hlt:i<l.length
  ·refine .inr ?_
   obtain⟨go,yl⟩:=it.2 l[i] (by simp)
   refine⟨go,by rw[hyl,NG];omega,λxx Hc y=> ?_⟩
   obtain⟨sc,rx⟩:=yl xx Hc y
   have Ec:=E'.same sc
   have eg:gN 0 l[i] ((bR src Z).set 0 s0)= .ok ((bR src Z).set 0 (.va l[i])):=by unfold gN;rw[if_pos (by rw[MW];exact hlen),SJ]
   refine⟨(bR src Z).set 0 s0,O',noM,l[i],Ec,rx,?_⟩
   rw[eg];intro σ1 Eg;unfold uM
   dsimp only
   rw[if_pos rfl];obtain⟨kv,ekv,rkv⟩:=Eg.val 0 l[i] (by rw[L4 hlen])
   refine⟨kv,ekv,?_⟩
   have aC:Acc Hc D (ps.map (·.2)):=am H' Hc D _ ys hacc hDl λb o e _=>sc b o e
   have DC:Hc D=some (.lst ys):=sc _ _ hDl;refine hte l[i] (M9 hlt) σ1 Hc O' D _ ys _ Eg aC DC λv H4 s4 acc4=>⟨by show 2<=sizeLine;rw[NG];omega,λp hpn=> ?_⟩
   have D4:H4 D=some (.lst ys):=s4 _ _ DC
   have pD:p≠D:=λz=>by rw[z,D4]at hpn;cases hpn
   have E4:=Eg.same s4
   have ki:kk[i]'(by omega)=kk[i]'(by omega):=rfl
   have hki:keyOf l[i] =some (kk[i]'(by omega)):=by
    have:=congrArg (λz=>z[i]?) hk
    simp only[LY,LN hlt,LN (show i<kk.length by omega),Tw]at this
    exact Me this
   obtain⟨kb,rfl,hkb⟩:=il hki (rkv.same s4)
   have s46:SameO (λa=>a=D) H4 (upd (upd H4 p (.tup [.ref kb,v])) D (.lst (ys++ [.ref p]))):=λb o e nb=>by
    rw[aI nb,aI (λz=>by rw[z,hpn]at e;cases e)];exact e
   refine⟨by rw[aI (MS pD)];exact D4,l.length - (i+1),by omega,rfl,hlt,?_,aJ,λb o e nb=>s46 b o (s4 _ _ (sc _ _ (hsm b o e nb))) nb,.va l[i],ps++ [(kk[i]'(by omega),v)],?_,?_,?_,?_⟩
   ·rw[LF,hyl];rfl
   ·exact E4.move (λa z=> .inl (.inr z)) (λa z=> .inl z) s46 λaa z=>by
     by_cases hz:aa=D
     ·rw[hz];exact .inl ⟨_,aJ⟩
     ·exact(E4.trk aa z).elim (λ⟨vs,e⟩=> .inl ⟨vs,s46 _ _ e hz⟩) λ⟨vs,e⟩=> .inr ⟨vs,s46 _ _ e hz⟩
   ·refine((hp.same (sc.trans s4)).move D4 s46).snoc (kb:=kb) (p:=(kk[i]'(by omega),v)) ?_ ?_
    ·rw[aI pD,aJ]
    ·exact s46 _ _ hkb (lT hkb D4 (λz=>nomatch z))
   ·rw[Mc,hkk]
    show kk.take i++ [kk[i]'(by omega)] =kk.take (i+1)
    rw[List.take_append_getElem]
   ·rw[Mc]
    exact am H4 _ D _ ys acc4 D4 s46
  ·refine .inl ⟨it.1 (by omega),?_⟩
   have sF:Same H1 H':=λb o e=>sm1 b o e λz=>by rw[z,hD]at e;cases e
   exact hq H1 D ys ps H' s1 nD sF hDl hp (by rw[hkk,Nb (by omega)]) hacc
def sr (K:Lu)(t:TE):TE:=λσ H Q=>t σ H λv H'=> ∃a xs ps,v= .ref a/\H' a=some (.lst xs)/\xs.length<=1000/\PairsAt H' xs ps/\∀q,Nw K H' q->Q (.ref q) (upd H' q (.dT (fJ [] ps)))
theorem vi {e:Expr}{t:TE}{p pos:Pos}(hu:X.A.units+8<cLine)(hc:X.calm=true)(hm:X.mg "dict" =none)(ha:PE X e t)(hg:Gl X "dict")(hs:bz e=true):PE X (.Call (.Name "dict" p) [e] [] pos) (sr X.K t):=by
 have h1:LP [e] X.env=(false,eval e X.env)::LP [] X.env:=ba hs;intro pins s σ H Q I hq;refine My (gm I hg hm (show Mg "dict" =some (.type "dict")by decide+kernel) ?_ (by decide) (by decide))
 refine Mx (cE (bx (te:=t) ha dR h1 pos pins s σ H (λzs H'=>match zs with | [v] => ∃a xs ps,v= .ref a/\H' a=some (.lst xs)/\xs.length<=1000/\PairsAt H' xs ps/\∀q,Nw X.K H' q->Q (.ref q) (upd H' q (.dT (fJ [] ps))) | _=>False) I ?_) λus s1 hh=> ?_) h1 rfl
 ·exact hq
 ·obtain⟨vs,H1,I1,r1,hv⟩:=hh
  match vs,hv,r1 with
  | [v],hv,r1=>
  obtain⟨a,xs,ps,ev,e1,e2,e3,e4⟩:=hv;subst ev;obtain⟨u,rfl,ru⟩:=r1.one;obtain rfl:u=LV a:=ru;exact wc (I1.ok.hd hc) hu I1 e1 e2 e3 λq s' nw I'=>⟨.ref q,_,I',rfl,e4 q nw⟩
end
theorem mx:∀(ps kvs:List (List Key×V)),((kvs++ps).map (·.1)).Nodup->fJ kvs ps=kvs++ps
 | [],kvs,_=>by rw[fJ,Mj]
 | p::ps,kvs,h=>by
  have e:dQ kvs p.1 p.2=kvs++ [p]:=by
   unfold dQ;rw[if_neg];intro z;obtain⟨q,hq,e⟩:=Px.mp z
   have e:=of_decide_eq_true e;rw[Mc,MN]at h;exact h.2.2 q.1 (LW.mpr ⟨q,hq,rfl⟩) p.1 (by simp) e
  rw[fJ,e,mx ps (kvs++ [p]) (by rw[L0];exact h),L0]
  rfl
def gR (kk:List (List Key)):List (List Key×V):=kk.map λk=>(k,V.non)
theorem F7 {kk:List (List Key)}:∀{ps:List (List Key×V)},ps.map (·.1)=kk->(∀v∈ps.map (·.2),v=V.non)->ps=gR kk:=by
 intro ps h1 h2;subst h1;unfold gR;rw[Ms]
 conv=>lhs;rw[<-To ps]
 exact L9 λp hp=>Prod.ext rfl (h2 p.2 (LW.mpr ⟨p,hp,rfl⟩))
section
variable {X:Cx}
def tPI0 (K:Lu)(f:En->Rs (List T)):TI:=λσ H R=> ∃Z O,EnvO K O H Z σ/\match f Z with
 | .ok ts=> ∀H',Same H H'->∀J,Kq K O H' ts J->R J H'
 | _=>False
theorem tPI0.up {f:En->Rs (List T)}{σ:L2.St}{H:Hp}{R:It->Hp->Prop}(h:tPI0 X.K f σ H R):Ke X f σ H R:=by
 obtain⟨Z,O,E,h⟩:=h;refine⟨Z,O,E,?_⟩
 cases q:f Z with
 | ok t=>rw[q]at h;exact h
 | err c=>rw[q]at h;exact h.elim
 | bad=>rw[q]at h;exact h.elim
def wJ (X:Cx)(src:List (Option Nat)):TE:=sr X.K (FR X.K (tPI0 X.K (iS (vr 1))) src (Ax X (gN 0)) uM (C8 (hV (oC 0) (hV (tC .non) sk))))
theorem GN {eb tb ib:Expr}{p q1 pc lp pos:Pos}{jj:Nat}{sc:OY}{N':List Str}{src:List (Option Nat)}{x1}(hu:X.A.units+8<cLine)(hc:X.calm=true)(hm:X.mg "dict" =none)(hg:Gl X "dict")(S:LcScope X sc N' src)(hi:Ab X tb ib (iS (vr 1)))
  (blk:∀cl C s₀ H₀ fp,CS (cx X sc cl N' C s₀ H₀ fp) tb (gN 0)/\PE (cx X sc cl N' C s₀ H₀ fp) eb (oC 0)/\bz eb=true) (hs:∀x,Mp ib X.env x=pure x) :
  PE X (.Call (.Name "dict" p) [.ListComp (.Tuple [eb,.Constant .none jj pc] x1 q1) [⟨tb,ib,[],0⟩] sc lp] [] pos) (wJ X src):=
 PE.imp (vi hu hc hm (vh hc S hi (λcl C s₀ H₀ fp=>⟨(blk cl C s₀ H₀ fp).1,sS,sU (bx (blk cl C s₀ H₀ fp).2.1 (bx Ba dR (ba rfl)) (ba (blk cl C s₀ H₀ fp).2.2))⟩) hs) hg rfl) λσ H Q h=>tPI0.up h
theorem AL {src:List (Option Nat)}{σ:L2.St}{H:Hp}{Q:VK}{Z:En}{O:Ow}{l:List T}{kk:List (List Key)}(E:EnvO X.K O H Z σ)(hf:iS (vr 1) Z= .ok l)(hz:l.length<=1000)(hk:l.map keyOf=kk.map some)(hn:kk.Nodup)(hs:0<src.length)
  (hq:∀d H',Same H H'->Nw X.K H d->H' d=some (.dT (gR kk))->Q (.ref d) H'):wJ X src σ H Q:=by
 have lk:l.length=kk.length:=by have:=congrArg MD hk;rwa [LA,LA]at this
 unfold wJ sr;refine vP (X:=X) (te:=tC .non) E (λR h=>⟨Z,O,E,by rw[hf];exact h⟩) hz hk hs (λ_ _ vs=> ∀v∈vs,v=V.non) (λ_ _ _ _ v h=>nomatch h) (λ_ _ _ _ _ h _ _=>h) (λt ht σ' H' O' D vs ys Q' _ acc _ k=>k _ H' (Same.refl H') λv hv=> ?_) λH1 D ys ps H' s1 nD s2 hD hp h1 h2=> ?_
 ·rcases Mb.mp hv with z | z
  ·exact acc v z
  ·exact LZ.mp z
 ·have e:ps=gR kk:=F7 h1 h2
  refine⟨D,ys,ps,rfl,hD,by rw[hp.len,e];unfold gR;rw[LA];omega,hp,λq nq=> ?_⟩
  have e2:fJ [] ps=gR kk:=by rw[mx ps [] (by rw[MJ,h1];exact hn),MJ,e]
  rw[e2];exact hq q _ ((s1.trans s2).trans (a9 nq.1 _)) (lR (s1.trans s2) nq) aJ
theorem vf {K:Lu}{O:Ow}{H:Hp}:∀(l:List T) (kk:List (List Key)),l.length=kk.length->Reps K O H (l.map λ_=>T.non) ((gR kk).map (·.2))
 | [],[],_=>Reps.GE
 | _::l,_::kk,h=>Reps.FS Rep.KW (vf l kk (by simpa using h))
 | [],_::_,h=>by simp at h
 | _::_,[],h=>by simp at h
theorem u6 {K:Lu}{O:Ow}{H:Hp}{l:List T}{kk:List (List Key)}(hk:l.map keyOf=kk.map some):∀{m:List T} {ds:List Addr},m.length=ds.length->(∀d∈ds,H d=some (.dT (gR kk)))->RowsR K O H (m.map λ_=>(l,l.map λ_=>T.non)) ds
 | [],[],_,_=>rfl
 | _::m,d::ds,h,hd=>⟨d,ds,gR kk,rfl,hd d Lz,by unfold gR;rw[Ms];exact hk,vf l kk (by have:=congrArg MD hk;rwa [LA,LA]at this),u6 hk (by simpa using h) λe he=>hd e (Lw _ he)⟩
 | [],_::_,h,_=>by simp at h
 | _::_,[],h,_=>by simp at h
theorem yA:∀{l:List T},ny l=true->∃kk:List (List Key),l.map keyOf=kk.map some
 | [],_=>⟨[],rfl⟩
 | t::l,h=>by
  unfold ny at h;rw[LC]at h;obtain⟨kk,e⟩:=yA h.2;obtain⟨k,ek⟩:=OJ.mp h.1;exact⟨k::kk,by rw[Lx,Lx,ek,e]⟩
theorem AV (i j:Nat){x:Str}{ea r ta ia:Expr}{p q1 lp p2 p3 pos:Pos}{x1}{sc:OY}{N':List Str}{src:List (Option Nat)}(hu:X.A.units+8<cLine)(hc:X.calm=true)(hm:X.mg "dict" =none)(hN:X.N.Nodup)
  (S:LcScope X sc N' [none,some j]) (hi:Ab X ta ia (iS (vr j))) (hsr:0<src.length)
  (blk:∀cl C s₀ H₀ fp,CS (cx X sc cl N' C s₀ H₀ fp) ta (gN 0)/\PE (cx X sc cl N' C s₀ H₀ fp) ea (oC 0)/\PE (cx X sc cl N' C s₀ H₀ fp) r (wJ X src)) (h1:bz ea=true:=by rfl) (h2:bz r=true:=by rfl)
  (hs:∀x,Mp ia X.env x=pure x:=by intro _;rfl) (hg:Gl X "dict":=by rfl) (hix:X.N[i]? =some x:=by rfl) (hx:Loc X.env.scope x:=by first | exact MR rfl | exact MF rfl)
  (hsw:MK (.Call (.Name "dict" p) [.ListComp (.Tuple [ea,r] x1 q1) [⟨ta,ia,[],0⟩] sc lp] [] p2) (some (.Name x p3)) pos.line X.env=pure false:=by rfl)
  (hf:X.fn x=true\/X.env.scope.names.lookup x=some .local:=by first | exact .inl rfl | exact .inr rfl | assumption) :
  qh X (.Assign [.Name x p3] (.Call (.Name "dict" p) [.ListComp (.Tuple [ea,r] x1 q1) [⟨ta,ia,[],0⟩] sc lp] [] p2) pos) (oR i j):=
 PS.imp (oU hN hix hx (vi hu hc hm (vh (g:=Ax X (gN 0)) (tc:=uM) (te:=C8 (hV (oC 0) (hV (wJ X src) sk))) hc S hi (λcl C s₀ H₀ fp=>⟨(blk cl C s₀ H₀ fp).1,sS,sU (bx (blk cl C s₀ H₀ fp).2.1 (bx (blk cl C s₀ H₀ fp).2.2 dR (ba h2)) (ba h1))⟩) hs) hg rfl) hsw hf) λD σ H hh_=>by
  obtain⟨Z,B,M,E,h⟩:=hh_;unfold oR at h
  cases qj:Z[j]? with
  | none=>rw[qj]at h;exact h.elim
  | some z=>
   rw[qj]at h
   match z,h,qj with
   | .va (.lst l),h,qj=>
    dsimp only at h
    by_cases hh:i<Z.length/\ny l=true/\(l.map keyOf).Nodup/\l.length<=1000
    ·rw[if_pos hh]at h
     obtain⟨hl,hky,hnd,hz⟩:=hh;obtain⟨kk,hk⟩:=yA hky
     have lk:l.length=kk.length:=by have:=congrArg MD hk;rwa [LA,LA]at this
     have hn:kk.Nodup:=by
      rw[hk]at hnd;exact(Oj.mp hnd).imp λh z=>h (by rw[z])
     have fj:iS (vr j) Z= .ok l:=by unfold iS vr;rw[qj];rfl
     have hlc:bR [none,some j] Z= [.em,.va (.lst l)]:=by unfold bR;simp[qj]
     unfold Ay sr
     refine vP (X:=X) (te:=wJ X src) E.o (λR h=>⟨Z,OO B M,E.o,by rw[fj];exact h⟩) hz hk (by simp)
      (λH' D vs=>H D=none/\Same H H'/\∃ds:List Addr,vs=ds.map V.ref/\ds.Nodup/\∀d∈ds,Nw X.K H d/\H' d=some (.dT (gR kk)))
      (λH1 D s1 nD=>⟨(lR s1 nD).1,s1.trans (a9 nD.1 _),[],rfl,NU,λd h=>nomatch h⟩)
      (λH1 H2 D vs ys ⟨c1,c2,ds,c3,c4,c5⟩ hD s=>⟨c1,(λb o e=>s b o (c2 b o e) (λz=>by rw[z,c1]at e;cases e)),ds,c3,c4,λd hd=>⟨(c5 d hd).1,s _ _ (c5 d hd).2 (lT (c5 d hd).2 hD (λz=>nomatch z))⟩⟩)
      (λt ht σ' H' O' D vs ys Q' E' ⟨c1,c2,ds,c3,c4,c5⟩ hD k=>AL (l:=l) (kk:=kk) ⟨noM,E'⟩ (by rw[hlc];rfl) hz hk hn hsr λd H'' s' nd hd=> ?_) λH1 D ys ps H' s1 nD s2 hD hp e1 ⟨c1,c2,ds,c3,c4,c5⟩=> ?_
     ·refine k _ H'' s' ⟨c1,c2.trans s',ds++ [d],by rw[c3,Mc];rfl,?_,λe he=> ?_⟩
      ·refine MN.mpr ⟨c4,by simp,λu hu w hw=> ?_⟩
       rw[LZ.mp hw];intro z
       have:=(c5 u hu).2;rw[z,nd.1]at this;cases this
      ·rcases Mb.mp he with z | z
       ·exact⟨(c5 e z).1,s' _ _ (c5 e z).2⟩
       ·rw[LZ.mp z]
        exact⟨lR c2 nd,hd⟩
     ·have hpl:ps.length=kk.length:=by rw[<-e1,LA]
      refine⟨D,ys,ps,rfl,hD,by rw[hp.len];omega,hp,λq nq=> ?_⟩
      have e2:fJ [] ps=ps:=by rw[mx ps [] (by rw[MJ,e1];exact hn),MJ]
      rw[e2]
      have qd:q∉ds:=λz=>by have:=(c5 q z).2;rw[nq.1]at this;cases this
      have dl:ds.length=ps.length:=by have:=congrArg MD c3;rw[LA,LA]at this;exact this.symm
      have hm':∀b,b=q\/b∈ds->Nw X.K H b:=λb z=>z.elim (λw=>w▸lR c2 nq) λw=>(c5 b w).1
      have sF:Same H (upd H' q (.dT ps)):=c2.trans (a9 nq.1 _);obtain⟨E2,sub⟩:=E.new (m:=λb=>b=q\/b∈ds) (o:=.dd l (l.map λ_=>(l,l.map λ_=> .non))) (v:=.ref q) (H':=upd H' q (.dT ps)) hl hm' sF ⟨q,ps,ds,rfl,λb=>PN,qd,c4,aJ,by rw[hk,<-e1,Ms];rfl,c3,u6 hk (by omega) λd hd=>by rw[aI (show d≠q from λz=>qd (z▸hd))];exact(c5 d hd).2⟩
      exact h _ _ _ (SameO.of sF) E2 sub
    ·rw[if_neg hh]at h;exact h.elim
   | .em,h,_=>exact h.elim
   | .ow _,h,_=>exact h.elim
   | .va .non,h,_=>exact h.elim
   | .va (.bl _),h,_=>exact h.elim
   | .va (.int _),h,_=>exact h.elim
   | .va (.str _),h,_=>exact h.elim
   | .va (.tup _),h,_=>exact h.elim
   | .va (.scr _),h,_=>exact h.elim
   | .va (.dct _ _),h,_=>exact h.elim
end
theorem yY {X:Cx}(i j:Nat){x:Str}{ea r ta ia:Expr}{p q1 lp p2 p3 pos:Pos}{x1}{sc:OY}{N':List Str}{src:List (Option Nat)}(hu:X.A.units+8<cLine)(hc:X.calm=true)(hm:X.mg "dict" =none)(hN:X.N.Nodup)
  (S:LcScope X sc N' [none,some j]) (hi:QI X ta ia (iS (vr j))) (hsr:0<src.length)
  (blk:∀cl C s₀ H₀ fp,QG (cx X sc cl N' C s₀ H₀ fp) ta (gN 0)/\PE (cx X sc cl N' C s₀ H₀ fp) ea (oC 0)/\PE (cx X sc cl N' C s₀ H₀ fp) r (wJ X src)) (h1:bz ea=true:=by rfl) (h2:bz r=true:=by rfl)
  (hs:∀x,Mp ia X.env x=pure x:=by intro _;rfl) (hg:Gl X "dict":=by rfl) (hix:X.N[i]? =some x:=by rfl) (hx:Loc X.env.scope x:=by first | exact MR rfl | exact MF rfl)
  (hsw:MK (.Call (.Name "dict" p) [.ListComp (.Tuple [ea,r] x1 q1) [⟨ta,ia,[],0⟩] sc lp] [] p2) (some (.Name x p3)) pos.line X.env=pure false:=by rfl)
  (hf:X.fn x=true\/X.env.scope.names.lookup x=some .local:=by first | exact .inl rfl | exact .inr rfl | assumption) :
  QS X (.Assign [.Name x p3] (.Call (.Name "dict" p) [.ListComp (.Tuple [ea,r] x1 q1) [⟨ta,ia,[],0⟩] sc lp] [] p2) pos) (oR i j):=
 ⟨AV i j hu hc hm hN S hi.h hsr (λcl C s₀ H₀ fp=>⟨(blk cl C s₀ H₀ fp).1.h,(blk cl C s₀ H₀ fp).2⟩) h1 h2 hs hg hix hx hsw hf⟩
theorem C0 {X:Cx}{a b:Expr}{fs:En->Rs (List T)}{p pos:Pos}{elts:List Expr}{kk:Nat}{tpos:Pos}(hm:X.mg "zip" =none)(ha:QA X [a,b] fs)(hg:Gl X "zip":=by rfl)(hst:bD [a,b] =true:=by rfl) :
  QI X (.Tuple elts kk tpos) (.Call (.Name "zip" p) [a,b] [] pos) (iZ fs):=⟨Gy hm ha.h hg hst⟩
theorem CZ {X:Cx}{a b:Expr}{pos p2:Pos}{x:Str}(i:Nat){apos cpos:Pos}{fa:En->Rs (List T)}(ha:QA X [a,b] fa)(hN:X.N[i]? =some x:=by rfl)(hv:sd X.env.scope x:=by first | exact MR rfl | exact MF (MR rfl) | exact MF (MF rfl))(hn:bz a=true:=by rfl)(hn2:bz b=true:=by rfl)
  (hbase:MY (.Name x p2) "insert" X.env (eval (.Name x p2) X.env)=eval (.Name x p2) X.env:=by rfl) (hline:(apos.endLine == cpos.line)=true:=by rfl)
  (hd:gE x:=by decide) (hcd:(x == ("__classdict__" : Str))=false:=by decide)
  (hsw:MK (.Call (.Attribute (.Name x p2) "insert" apos) [a,b] [] cpos) none pos.line X.env=pure false:=by rfl):QS X (.Expr (.Call (.Attribute (.Name x p2) "insert" apos) [a,b] [] cpos) pos) (wV i fa):=⟨Gq i ha.h hN hv hn hn2 hbase hline hd hcd hsw⟩
theorem Ii {X:Cx}{k k':Nat}{x:Str}{g:List T->Rs T}{p pos:Pos}(c:Cl X.prog X.w X.K X.mg X.base k x 0 g)(hr:Room k' X.A)(hk:k<=k':=by decide)(hg:Gl X x:=by rfl)(h2:gE x:=by decide):QE X (.Call (.Name x p) [] [] pos) (c0 g):=by
 obtain⟨f,fd,ps,h1,h3,h4,h5,h6⟩:=c.ex;exact⟨q_c0 h6 (hr.mono hk) h1 h3 h4 hg h2⟩
theorem gx {N P:List Str}{sc:OY}(h1:sc.kind= .function:=by rfl)(h2:sc.isCoroutine=false:=by rfl)(h3:sc.isGenerator=false:=by rfl)(h4:N.Nodup:=by decide+kernel)(h5:N.take P.length=P:=by rfl)
  (h6:∀x∈P,sc.names.lookup x=some .local\/sc.names.lookup x=some .cell:=by decide+kernel) (h7:∀y∈sc.names,y.2≠ .free:=by decide+kernel):aE N P sc:=⟨h1,h2,h3,h4,h5,h6,h7⟩
end Tr
namespace G
open PySem PySem.Spec PyProof.Rows L2 Tr
def top (i:Nat):Stmt:=MH.main.body.getD i (.Pass ⟨0,0,0,0⟩)
structure Bl (mg:Str->Option Ly):Prop where
 b_ValueError:mg "ValueError" =none
 b_all:mg "all" =none
 b_bool:mg "bool" =none
 b_dict:mg "dict" =none
 b_enumerate:mg "enumerate" =none
 b_int:mg "int" =none
 b_isinstance:mg "isinstance" =none
 b_len:mg "len" =none
 b_range:mg "range" =none
 b_sorted:mg "sorted" =none
 b_tuple:mg "tuple" =none
 b_zip:mg "zip" =none
structure Cs (mg:Str->Option Ly):Prop where
 MOST_CLOCKS:∃t,mg "MOST_CLOCKS" =some (.int 4 t)
 MOST_LETTERS:∃t,mg "MOST_LETTERS" =some (.int 8 t)
 MOST_READINGS:∃t,mg "MOST_READINGS" =some (.int 4 t)
 LAST_READING:∃t,mg "LAST_READING" =some (.int 99 t)
 SLOWEST:∃t,mg "SLOWEST" =some (.int 9 t)
 LONGEST:∃t,mg "LONGEST" =some (.int 999 t)
theorem uo:Mg "bool" =some (.type "bool"):=by decide+kernel
theorem nE:Mg "int" =some (.type "int"):=by decide+kernel
theorem dH:Mg "tuple" =some (.type "tuple"):=by decide+kernel
structure Xs (K:Lu)(mg:Str->Option Ly)(C_NoRecord C_NoEvent C_NoNumber C_NoWorld C_Barred C_Nothing C_ClockError:Addr):Prop where
 m_NoRecord:mg "NoRecord" =some (.ref C_NoRecord)
 m_NoEvent:mg "NoEvent" =some (.ref C_NoEvent)
 m_NoNumber:mg "NoNumber" =some (.ref C_NoNumber)
 m_NoWorld:mg "NoWorld" =some (.ref C_NoWorld)
 m_Barred:mg "Barred" =some (.ref C_Barred)
 m_Nothing:mg "Nothing" =some (.ref C_Nothing)
 m_ClockError:mg "ClockError" =some (.ref C_ClockError)
 o_NoRecord:OX K C_NoRecord (.ref C_ClockError::nT)
 o_NoEvent:OX K C_NoEvent (.ref C_ClockError::nT)
 o_NoNumber:OX K C_NoNumber (.ref C_ClockError::nT)
 o_NoWorld:OX K C_NoWorld (.ref C_ClockError::nT)
 o_Barred:OX K C_Barred (.ref C_ClockError::nT)
 o_Nothing:OX K C_Nothing (.ref C_ClockError::nT)
 o_ClockError:OX K C_ClockError nT
 d:[C_NoRecord,C_NoEvent,C_NoNumber,C_NoWorld,C_Barred,C_Nothing,C_ClockError].Nodup
abbrev cq:Stmt:=top 66
theorem aaU:aE ["_law_e","_law_flags"] ["_law_e"] (aq cq):=⟨rfl,rfl,rfl,by decide+kernel,rfl,by decide+kernel,by decide+kernel⟩
def dO (j:Nat):T:=.tup [.str "refused",.int (j:Nat)]
def nQ (c:Str):Rs T:=if c= "NoRecord" then .ok (dO 0)else if c= "NoEvent" then .ok (dO 1)else if c= "NoNumber" then .ok (dO 2)else if c= "NoWorld" then .ok (dO 3)else if c= "Barred" then .ok (dO 4)else if c= "Nothing" then .ok (dO 5)else .bad
section
variable {P:L1}{w:MG}{K:Lu}{mg:Str->Option Ly}{base:Heap}{C_NoRecord C_NoEvent C_NoNumber C_NoWorld C_Barred C_Nothing C_ClockError:Addr}
theorem Xs.ne {C D:Addr}(h:C≠D):(LV C::nT).contains (.ref D)=false:=by
 rw[M7]
 have:(LV D == LV C)=false:=by rw[beq_eq_false_iff_ne];exact λz=>h (RH z).symm
 rw[this];rfl
theorem AR {C e f:Addr}{oe:Obj}{ev:Array Ly}{A:Mh}{outer:List Env}{s:LB}{H:Hp}{Q:VK}{j:Nat}(S:Xs K mg C_NoRecord C_NoEvent C_NoNumber C_NoWorld C_Barred C_Nothing C_ClockError)(OC:OX K C (.ref C_ClockError::nT))
  (hc:oe.cls= .ref C) (hd:oe.data= .fields ev) (hi:mg "isinstance" =none) (hv:mg "ValueError" =none) (n_NoRecord:C_ClockError≠C_NoRecord) (n_NoEvent:C_ClockError≠C_NoEvent) (n_NoNumber:C_ClockError≠C_NoNumber) (n_NoWorld:C_ClockError≠C_NoWorld) (n_Barred:C_ClockError≠C_Barred) (n_Nothing:C_ClockError≠C_Nothing)
  {b0 b1 b2 b3 b4 b5:Bool} (h0:decide (C=C_NoRecord)=b0) (h1:decide (C=C_NoEvent)=b1) (h2:decide (C=C_NoNumber)=b2) (h3:decide (C=C_NoWorld)=b3) (h4:decide (C=C_Barred)=b4) (h5:decide (C=C_Nothing)=b5)
  (cnt:[b0,b1,b2,b3,b4,b5].countP id=1) (hj:[b0,b1,b2,b3,b4,b5][j]? =some true) (hno:∀m,m<j->[b0,b1,b2,b3,b4,b5][m]? =some false)
  (q:∀p H',Same H H'->H p=none->H' p=some (.tup [.str "refused",.int (j:Nat)])->Q (.ref p) H') (cdv:Ly) :
  ∃t,PSs (Kl P w K mg base ["_law_e","_law_flags"] "_law_refused" (aq cq) f cdv A outer s H e oe) (du cq) t/\t { nx:=λ_ _=>False,rt:=Q } (start ["_law_e","_law_flags"] [.ref e]) H:=by
 have nd:=aaU.nd
 have hp:(e,oe)∈(Kl P w K mg base ["_law_e","_law_flags"] "_law_refused" (aq cq) f cdv A outer s H e oe).pn:=Lz
 refine⟨_,lM (oU (i:=1) nd rfl (MR rfl) (sV (bx (my rfl (MR rfl) hp hc hd OC S.o_NoRecord b0 h0 (λ_=>Xs.ne n_NoRecord) hi S.m_NoRecord) (bx (my rfl (MR rfl) hp hc hd OC S.o_NoEvent b1 h1 (λ_=>Xs.ne n_NoEvent) hi S.m_NoEvent) (bx (my rfl (MR rfl) hp hc hd OC S.o_NoNumber b2 h2 (λ_=>Xs.ne n_NoNumber) hi S.m_NoNumber) dR)))))
  (lM (oU (i:=1) nd rfl (MR rfl) (Jj Bk (pv 1) (sV (bx (my rfl (MR rfl) hp hc hd OC S.o_NoWorld b3 h3 (λ_=>Xs.ne n_NoWorld) hi S.m_NoWorld) (bx (my rfl (MR rfl) hp hc hd OC S.o_Barred b4 h4 (λ_=>Xs.ne n_Barred) hi S.m_Barred) (bx (my rfl (MR rfl) hp hc hd OC S.o_Nothing b5 h5 (λ_=>Xs.ne n_Nothing) hi S.m_Nothing) dR))))))
  (lM (Fo (PW.pt (Fm (DI Jm (vj M4 PySem.F.slot_list_count PySem.F.type_list_count zA (pv 1) (bx Bg dR)) Bb (G7 _)) (AZ (A2 (A1 (GQ rfl (MR rfl) hp hc OC hi hv)))))) (gD A4) x5)
  (gD (jI (sU (bx A8 (bx (vj M4 Qo Qp zx (pv 1) (bx Bg dR)) dR))))))),?_⟩
 refine⟨rfl,rfl,rfl,(by show 3<=sizeLine;decide),λl1 n1=> ?_⟩
 refine⟨.ref l1,rfl,rfl,rfl,rfl,(by show 3<=sizeLine;decide),λl2 n2=> ?_⟩
 have ne21:l1≠l2:=λz=>by subst z;rw[aJ]at n2;cases n2
 refine⟨l1,l2,[.bl b0,.bl b1,.bl b2],[.bl b3,.bl b4,.bl b5],rfl,rfl,by rw[aI ne21,aJ],aJ,(by show 3+3<=sizeLine;decide),λl3 n3=> ?_⟩
 refine⟨.ref l3,rfl,.inl ⟨rfl,_,SqL.of aJ⟩,⟨l3,[b0,b1,b2,b3,b4,b5],rfl,rfl,aJ,?_⟩⟩
 have hz:(!decide (V.int (([b0,b1,b2,b3,b4,b5].countP id:Nat):Int)=V.int 1))=false:=by rw[cnt];simp
 refine⟨rfl,false,congrArg V.bl hz,iteF ⟨rfl,true,rfl,iteF ?_⟩⟩
 have hj6:j<6:=by have:=(LM.mp hj).1;simpa using this
 refine⟨.ref l3,rfl,.inl ⟨rfl,_,SqL.of aJ⟩,⟨l3,[b0,b1,b2,b3,b4,b5],j,rfl,rfl,aJ,hj,hno,by omega,(by show 2<=sizeLine;decide),λp np=>q p _ ?_ ?_ aJ⟩⟩
 rotate_left
 ·have m3:p≠l3:=λz=>by subst z;rw[aJ]at np;cases np
  have m2:p≠l2:=λz=>by subst z;rw[aI m3,aJ]at np;cases np
  have m1:p≠l1:=λz=>by subst z;rw[aI m3,aI m2,aJ]at np;cases np
  rw[aI m3,aI m2,aI m1]at np;exact np
 intro b o hb
 have m1:b≠l1:=λz=>by subst z;rw[n1]at hb;cases hb
 have m2:b≠l2:=λz=>by subst z;rw[aI m1,hb]at n2;cases n2
 have m3:b≠l3:=λz=>by subst z;rw[aI m2,aI m1,hb]at n3;cases n3
 have m4:b≠p:=λz=>by subst z;rw[aI m3,aI m2,aI m1,hb]at np;cases np
 rw[aI m4,aI m3,aI m2,aI m1];exact hb
end
section
variable {X:Cx}{C_NoRecord C_NoEvent C_NoNumber C_NoWorld C_Barred C_Nothing C_ClockError:Addr}
def tRC (X:Cx)(i:Nat)(e:Addr)(j:Nat):TE:=λσ H Q=>σ[i]? =some (some (.ref e))/\H e=none/\e∉pO X.stack/\∀p H',Same H H'->H p=none->H' p=some (.tup [.str "refused",.int (j:Nat)])->Q (.ref p) H'
theorem fM {en:Str}{p p1 pos:Pos}{i j:Nat}{C e f:Addr}{fd:MP}{oe:Obj}{ev:Array Ly}(hN:X.N[i]? =some en)(hv:sd X.env.scope en)
  (Fn_:Fn X.K X.mg "_law_refused" cq ["_law_e"] f fd) (S:Xs X.K X.mg C_NoRecord C_NoEvent C_NoNumber C_NoWorld C_Barred C_Nothing C_ClockError) (OC:OX X.K C (.ref C_ClockError::nT))
  (hc:oe.cls= .ref C) (hd:oe.data= .fields ev) (hi:X.mg "isinstance" =none) (hvv:X.mg "ValueError" =none) (n_NoRecord:C_ClockError≠C_NoRecord) (n_NoEvent:C_ClockError≠C_NoEvent) (n_NoNumber:C_ClockError≠C_NoNumber) (n_NoWorld:C_ClockError≠C_NoWorld) (n_Barred:C_ClockError≠C_Barred) (n_Nothing:C_ClockError≠C_Nothing)
  {b0 b1 b2 b3 b4 b5:Bool} (h0:decide (C=C_NoRecord)=b0) (h1:decide (C=C_NoEvent)=b1) (h2:decide (C=C_NoNumber)=b2) (h3:decide (C=C_NoWorld)=b3) (h4:decide (C=C_Barred)=b4) (h5:decide (C=C_Nothing)=b5)
  (cnt:[b0,b1,b2,b3,b4,b5].countP id=1) (hj:[b0,b1,b2,b3,b4,b5][j]? =some true) (hno:∀m,m<j->[b0,b1,b2,b3,b4,b5][m]? =some false) (hr:X.A.depth+3<OA)
  (hg:Gl (xF X e oe) "_law_refused":=by rfl) (hde:gE en:=by decide) (hce:(en == ("__classdict__" : Str))=false:=by decide)
  (he:LP [.Name en p1] X.env=(false,eval (.Name en p1) X.env)::LP [] X.env:=by rfl) (hpl:(backTo pos (LP [] X.env)).any (·.1)=false:=by rfl) :
  PE (xF X e oe) (.Call (.Name "_law_refused" p) [.Name en p1] [] pos) (tRC X i e j):=by
 intro pins s σ H Q I ⟨hσ,hH,hf,q⟩;refine My (i7 (X:=xF X e oe) I hg Fn_.mg ?_ (by decide))
 have hA:PA (xF X e oe) [.Name en p1] (hV (oC i) sk):=bx (iu (X:=xF X e oe) hN hv hde hce) dR he;refine ON (h₀:=X.base) I.ok.mod.kin Fn_.fn.kp (cE (hA pos pins s σ H (λvs H'=>vs= [.ref e]/\H'=H) I ⟨.ref e,hσ,rfl,rfl⟩) λus s1 ⟨vs,H1,I1,r,e1,e2⟩=>⟨I1.kIn,?_⟩) he hpl
 subst e1;subst e2;obtain⟨u,rfl,ru⟩:=lA r;cases ru
 have hoe:s1.heap.get? e=some oe:=(I1.pin (e,oe) (Mm _ Lz)).1
 have hb:=Fn_.bd s1 [.ref e] I1.kIn rfl;refine Sr (Pt (HE (Q:=Q) Fn_.fn aaU (vs:=[.ref e]) rfl hr I1.KU hb r hoe hH hf (λv z=>by rw[hd]at z;cases z) λcdv=>AR S OC hc hd hi hvv n_NoRecord n_NoEvent n_NoNumber n_NoWorld n_Barred n_Nothing h0 h1 h2 h3 h4 h5 cnt hj hno q cdv) λr s' hq=> ?_)
 cases r with
 | error ev=>exact hq.elim
 | ok fl=>
  cases fl with
  | ret u=>exact I1.after hq
  | next=>exact hq.elim
  | brk=>exact hq.elim
  | cont=>exact hq.elim
theorem kc {K:Lu}{O:Ow}{H H':Hp}{p:Addr}{j:Nat}(hO:∀p,H p=none->¬ O p)(hp:H p=none)(h:H' p=some (.tup [.str "refused",.int (j:Nat)])):Rep K O H' (dO j) (.ref p):=
 Rep.Do.mpr ⟨p,_,rfl,hO p hp,h,Reps.FS (Rep.La _) (Reps.FS (Rep.IR _) Reps.GE)⟩
theorem Az {en:Str}{p p1 pos rp:Pos}{i:Nat}{f:Addr}{fd:MP}(hN:X.N[i]? =some en)(hv:sd X.env.scope en)
  (Fn_:Fn X.K X.mg "_law_refused" cq ["_law_e"] f fd) (S:Xs X.K X.mg C_NoRecord C_NoEvent C_NoNumber C_NoWorld C_Barred C_Nothing C_ClockError) (hi:X.mg "isinstance" =none) (hvv:X.mg "ValueError" =none) (hr:X.A.depth+3<OA)
  (hg:∀e oe,Gl (xF X e oe) "_law_refused":=by intro _ _;rfl) (hde:gE en:=by decide) (hce:(en == ("__classdict__" : Str))=false:=by decide)
  (he:LP [.Name en p1] X.env=(false,eval (.Name en p1) X.env)::LP [] X.env:=by rfl) (hpl:(backTo pos (LP [] X.env)).any (·.1)=false:=by rfl) :
  uw X i [.Return (some (.Call (.Name "_law_refused" p) [.Name en p1] [] pos)) rp] C_ClockError nQ:=by
 have dd:=S.d
 have ap:∀{a b:Addr} (i j:Nat),i<j->[C_NoRecord,C_NoEvent,C_NoNumber,C_NoWorld,C_Barred,C_Nothing,C_ClockError][i]? =some a->[C_NoRecord,C_NoEvent,C_NoNumber,C_NoWorld,C_Barred,C_Nothing,C_ClockError][j]? =some b->a≠b:=λ{a b} i j hij ha hb z=>by
  have:=(List.getElem?_inj (LM.mp ha).1 dd).mp (ha.trans (z▸hb.symm))
  omega
 have hin:∀C:Addr,(LV C:: .ref C_ClockError::nT).contains (.ref C_ClockError)=true:=λC=>by rw[M7,M7,beq_self_eq_true,SF,SE]
 have n_NoRecord:C_ClockError≠C_NoRecord:=(MS (ap 0 6 (by decide) rfl rfl))
 have n_NoEvent:C_ClockError≠C_NoEvent:=(MS (ap 1 6 (by decide) rfl rfl))
 have n_NoNumber:C_ClockError≠C_NoNumber:=(MS (ap 2 6 (by decide) rfl rfl))
 have n_NoWorld:C_ClockError≠C_NoWorld:=(MS (ap 3 6 (by decide) rfl rfl))
 have n_Barred:C_ClockError≠C_Barred:=(MS (ap 4 6 (by decide) rfl rfl))
 have n_Nothing:C_ClockError≠C_Nothing:=(MS (ap 5 6 (by decide) rfl rfl))
 intro c C t hm ht;unfold nQ at ht
 by_cases z0:c= "NoRecord"
 ·rw[if_pos z0]at ht
  cases ht;rw[z0,S.m_NoRecord]at hm;cases hm;refine⟨_,S.o_NoRecord,hin _,λe oe ev hc hd pins s σ H O Q I hH hf hσ hO q=> ?_⟩
  exact gD (jI (fM hN hv Fn_ S S.o_NoRecord hc hd hi hvv n_NoRecord n_NoEvent n_NoNumber n_NoWorld n_Barred n_Nothing (b0:=true) (b1:=false) (b2:=false) (b3:=false) (b4:=false) (b5:=false) (by simp) (by rw[decide_eq_false (ap 0 1 (by decide) rfl rfl)]) (by rw[decide_eq_false (ap 0 2 (by decide) rfl rfl)]) (by rw[decide_eq_false (ap 0 3 (by decide) rfl rfl)]) (by rw[decide_eq_false (ap 0 4 (by decide) rfl rfl)]) (by rw[decide_eq_false (ap 0 5 (by decide) rfl rfl)]) (by decide) (j:=0) rfl (λm hm=>by omega) hr (hg e oe) hde hce he hpl)) pins s σ H _ I ⟨hσ,hH,hf,λp H' sm hp h=>q _ _ sm (kc hO hp h)⟩
 rw[if_neg z0]at ht
 by_cases z1:c= "NoEvent"
 ·rw[if_pos z1]at ht
  cases ht;rw[z1,S.m_NoEvent]at hm;cases hm;refine⟨_,S.o_NoEvent,hin _,λe oe ev hc hd pins s σ H O Q I hH hf hσ hO q=> ?_⟩
  exact gD (jI (fM hN hv Fn_ S S.o_NoEvent hc hd hi hvv n_NoRecord n_NoEvent n_NoNumber n_NoWorld n_Barred n_Nothing (b0:=false) (b1:=true) (b2:=false) (b3:=false) (b4:=false) (b5:=false) (by rw[decide_eq_false (MS (ap 0 1 (by decide) rfl rfl))]) (by simp) (by rw[decide_eq_false (ap 1 2 (by decide) rfl rfl)]) (by rw[decide_eq_false (ap 1 3 (by decide) rfl rfl)]) (by rw[decide_eq_false (ap 1 4 (by decide) rfl rfl)]) (by rw[decide_eq_false (ap 1 5 (by decide) rfl rfl)]) (by decide) (j:=1) rfl (λm hm=>by match m,hm with | 0,_=>rfl) hr (hg e oe) hde hce he hpl)) pins s σ H _ I ⟨hσ,hH,hf,λp H' sm hp h=>q _ _ sm (kc hO hp h)⟩
 rw[if_neg z1]at ht
 by_cases z2:c= "NoNumber"
 ·rw[if_pos z2]at ht
  cases ht;rw[z2,S.m_NoNumber]at hm;cases hm;refine⟨_,S.o_NoNumber,hin _,λe oe ev hc hd pins s σ H O Q I hH hf hσ hO q=> ?_⟩
  exact gD (jI (fM hN hv Fn_ S S.o_NoNumber hc hd hi hvv n_NoRecord n_NoEvent n_NoNumber n_NoWorld n_Barred n_Nothing (b0:=false) (b1:=false) (b2:=true) (b3:=false) (b4:=false) (b5:=false) (by rw[decide_eq_false (MS (ap 0 2 (by decide) rfl rfl))]) (by rw[decide_eq_false (MS (ap 1 2 (by decide) rfl rfl))]) (by simp) (by rw[decide_eq_false (ap 2 3 (by decide) rfl rfl)]) (by rw[decide_eq_false (ap 2 4 (by decide) rfl rfl)]) (by rw[decide_eq_false (ap 2 5 (by decide) rfl rfl)]) (by decide) (j:=2) rfl (λm hm=>by match m,hm with | 0,_=>rfl | 1,_=>rfl) hr (hg e oe) hde hce he hpl)) pins s σ H _ I ⟨hσ,hH,hf,λp H' sm hp h=>q _ _ sm (kc hO hp h)⟩
 rw[if_neg z2]at ht
 by_cases z3:c= "NoWorld"
 ·rw[if_pos z3]at ht
  cases ht;rw[z3,S.m_NoWorld]at hm;cases hm;refine⟨_,S.o_NoWorld,hin _,λe oe ev hc hd pins s σ H O Q I hH hf hσ hO q=> ?_⟩
  exact gD (jI (fM hN hv Fn_ S S.o_NoWorld hc hd hi hvv n_NoRecord n_NoEvent n_NoNumber n_NoWorld n_Barred n_Nothing (b0:=false) (b1:=false) (b2:=false) (b3:=true) (b4:=false) (b5:=false) (by rw[decide_eq_false (MS (ap 0 3 (by decide) rfl rfl))]) (by rw[decide_eq_false (MS (ap 1 3 (by decide) rfl rfl))]) (by rw[decide_eq_false (MS (ap 2 3 (by decide) rfl rfl))]) (by simp) (by rw[decide_eq_false (ap 3 4 (by decide) rfl rfl)]) (by rw[decide_eq_false (ap 3 5 (by decide) rfl rfl)]) (by decide) (j:=3) rfl (λm hm=>by match m,hm with | 0,_=>rfl | 1,_=>rfl | 2,_=>rfl) hr (hg e oe) hde hce he hpl)) pins s σ H _ I ⟨hσ,hH,hf,λp H' sm hp h=>q _ _ sm (kc hO hp h)⟩
 rw[if_neg z3]at ht
 by_cases z4:c= "Barred"
 ·rw[if_pos z4]at ht
  cases ht;rw[z4,S.m_Barred]at hm;cases hm;refine⟨_,S.o_Barred,hin _,λe oe ev hc hd pins s σ H O Q I hH hf hσ hO q=> ?_⟩
  exact gD (jI (fM hN hv Fn_ S S.o_Barred hc hd hi hvv n_NoRecord n_NoEvent n_NoNumber n_NoWorld n_Barred n_Nothing (b0:=false) (b1:=false) (b2:=false) (b3:=false) (b4:=true) (b5:=false) (by rw[decide_eq_false (MS (ap 0 4 (by decide) rfl rfl))]) (by rw[decide_eq_false (MS (ap 1 4 (by decide) rfl rfl))]) (by rw[decide_eq_false (MS (ap 2 4 (by decide) rfl rfl))]) (by rw[decide_eq_false (MS (ap 3 4 (by decide) rfl rfl))]) (by simp) (by rw[decide_eq_false (ap 4 5 (by decide) rfl rfl)]) (by decide) (j:=4) rfl (λm hm=>by match m,hm with | 0,_=>rfl | 1,_=>rfl | 2,_=>rfl | 3,_=>rfl) hr (hg e oe) hde hce he hpl)) pins s σ H _ I ⟨hσ,hH,hf,λp H' sm hp h=>q _ _ sm (kc hO hp h)⟩
 rw[if_neg z4]at ht
 by_cases z5:c= "Nothing"
 ·rw[if_pos z5]at ht
  cases ht;rw[z5,S.m_Nothing]at hm;cases hm;refine⟨_,S.o_Nothing,hin _,λe oe ev hc hd pins s σ H O Q I hH hf hσ hO q=> ?_⟩
  exact gD (jI (fM hN hv Fn_ S S.o_Nothing hc hd hi hvv n_NoRecord n_NoEvent n_NoNumber n_NoWorld n_Barred n_Nothing (b0:=false) (b1:=false) (b2:=false) (b3:=false) (b4:=false) (b5:=true) (by rw[decide_eq_false (MS (ap 0 5 (by decide) rfl rfl))]) (by rw[decide_eq_false (MS (ap 1 5 (by decide) rfl rfl))]) (by rw[decide_eq_false (MS (ap 2 5 (by decide) rfl rfl))]) (by rw[decide_eq_false (MS (ap 3 5 (by decide) rfl rfl))]) (by rw[decide_eq_false (MS (ap 4 5 (by decide) rfl rfl))]) (by simp) (by decide) (j:=5) rfl (λm hm=>by match m,hm with | 0,_=>rfl | 1,_=>rfl | 2,_=>rfl | 3,_=>rfl | 4,_=>rfl) hr (hg e oe) hde hce he hpl)) pins s σ H _ I ⟨hσ,hH,hf,λp H' sm hp h=>q _ _ sm (kc hO hp h)⟩
 rw[if_neg z5]at ht;cases ht
end
end G
namespace G
open PySem Tr
def se:En->Rs Fl:=
 (aL (cb (o1 (Ei "tuple") (vr 0)) (ch JA JA (vr 1) (cl cI (ae (vr 0) ai)) (vr 2))))
def aS:List T->Rs T:=val 3 3 se
def xK:En->Rs Fl:=
 (aL (cb (o1 (Ei "int") (vr 0)) (o1 tH (o1 (Ei "bool") (vr 0)))))
def i6:List T->Rs T:=val 1 1 xK
def jW:En->Rs Fl:=
 (aL (cb (cl i6 (ae (vr 0) ai)) (ch JA JA (vr 1) (vr 0) (vr 2))))
def bp:List T->Rs T:=val 3 3 jW
def m5:En->Rs Fl:=
 (aL (cb (cl bp (ae (vr 0) (ae (cn (.int 1)) (ae (cn (.int 9)) ai)))) (cl bp (ae (vr 1) (ae (vr 0) (ae (cn (.int 9)) ai))))))
def gG:List T->Rs T:=val 2 2 m5
def yV:En->Rs Fl:=
 (aL (cl qU (ae (eY (iR (ae (o2 fh (cl cI (ae (vr 0) ai)) (cn (.int 1))) ai)) [none,some 0] (gN 0) bT (o2 nu (o2 aZ (vr 1) (vr 0)) (o2 aZ (vr 1) (o2 aY (vr 0) (cn (.int 1)))))) ai)))
def kl:List T->Rs T:=val 1 1 yV
def fG:En->Rs Fl:=
 (az (eM (eE (tb (cl aS (ae (vr 0) (ae (cn (.int 1)) (ae (cn (.int 4)) ai)))))) (aL (cn (.bl false))) sN) (aL (cb (cl qU (ae (eY (iS (vr 0)) [none] (gN 0) bT (cl bp (ae (vr 0) (ae (cn (.int 0)) (ae (cn (.int 99)) ai))))) ai)) (cl kl (ae (vr 0) ai)))))
def cm:List T->Rs T:=val 1 1 fG
def je:En->Rs Fl:=
 (aL (cb (cl aS (ae (vr 0) (ae (cn (.int 3)) (ae (cn (.int 3)) ai)))) (cb (cl gG (ae (o2 aZ (vr 0) (cn (.int 0))) (ae (o2 aZ (vr 0) (cn (.int 1))) ai))) (cl cm (ae (o2 aZ (vr 0) (cn (.int 2))) ai)))))
def dW:List T->Rs T:=val 1 1 je
def jf:En->Rs Fl:=
 (aL (cb (cl aS (ae (vr 0) (ae (cn (.int 1)) (ae (cn (.int 4)) ai)))) (cl qU (ae (eY (iS (vr 0)) [none] (gN 0) bT (cl dW (ae (vr 0) ai))) ai))))
def eh:List T->Rs T:=val 1 1 jf
def jc:En->Rs Fl:=
 (az (eM (mB (eE (tb (cl aS (ae (vr 1) (ae (cn (.int 2)) (ae (cn (.int 2)) ai)))))) (eE (tb (cl bp (ae (o2 aZ (vr 1) (cn (.int 0))) (ae (cn (.int 0)) (ae (o2 fh (cl cI (ae (vr 0) ai)) (cn (.int 1))) ai))))))) (aL (cn (.bl false))) sN) (aL (cl bp (ae (o2 aZ (vr 1) (cn (.int 1))) (ae (cn (.int 0)) (ae (o2 fh (cl cI (ae (o2 aZ (o2 aZ (vr 0) (o2 aZ (vr 1) (cn (.int 0)))) (cn (.int 2))) ai)) (cn (.int 1))) ai))))))
def cW:List T->Rs T:=val 2 2 jc
def jd:En->Rs Fl:=
 (aL (cb (cl bp (ae (vr 0) (ae (cn (.int 0)) (ae (cn (.int 999)) ai)))) (rA (o2 fP (vr 1) (cn .non)) (cl bp (ae (vr 1) (ae (vr 0) (ae (cn (.int 999)) ai)))))))
def eR:List T->Rs T:=val 2 2 jd
def e9:En->Rs Fl:=
 (az (eM (mB (eE (tb (cl aS (ae (vr 1) (ae (cn (.int 4)) (ae (cn (.int 4)) ai)))))) (eE (tb (cl eR (ae (o2 aZ (vr 1) (cn (.int 2))) (ae (o2 aZ (vr 1) (cn (.int 3))) ai)))))) (aL (cn (.bl false))) sN) (aL (cb (cl cW (ae (vr 0) (ae (o2 aZ (vr 1) (cn (.int 0))) ai))) (cb (cl cW (ae (vr 0) (ae (o2 aZ (vr 1) (cn (.int 1))) ai))) (o2 nM (o2 aZ (vr 1) (cn (.int 0))) (o2 aZ (vr 1) (cn (.int 1))))))))
def cy:List T->Rs T:=val 2 2 e9
def iz:En->Rs Fl:=
 (aL (cb (cl aS (ae (vr 1) (ae (cn (.int 0)) (ae (cn (.int 8)) ai)))) (cl qU (ae (eY (iS (vr 1)) [none,some 0] (gN 0) bT (cl cy (ae (vr 1) (ae (vr 0) ai)))) ai))))
def dF:List T->Rs T:=val 2 2 iz
def ip:En->Rs Fl:=
 (aL (cb (cl aS (ae (vr 0) (ae (cn (.int 2)) (ae (cn (.int 2)) ai)))) (cb (cl eh (ae (o2 aZ (vr 0) (cn (.int 0))) ai)) (cl dF (ae (o2 aZ (vr 0) (cn (.int 0))) (ae (o2 aZ (vr 0) (cn (.int 1))) ai))))))
def dU:List T->Rs T:=val 1 1 ip
def eG:En->Rs Fl:=
 (eM (eE (tb (cl dU (ae (vr 0) ai)))) (AI "NoRecord") sN)
def bH:List T->Rs T:=val 1 1 eG
def qk:En->Rs Fl:=
 (az (uD (cl bH (ae (vr 0) ai))) (az (hW 1 ai) (az (dP (iE (ae (o2 aZ (vr 0) (cn (.int 0))) ai)) (gT 2 (eF (gN 2) (eF (gN 3) ly))) (oS 1 (eY (iR (ae (cl cI (ae (o2 aZ (vr 3) (cn (.int 2))) ai)) ai)) [none,some 2] (gN 0) bT (aO (ae (vr 1) (ae (vr 0) ai)))))) (lK 1 (aL (vr 1))))))
def dY:List T->Rs T:=val 1 4 qk
def jX:En->Rs Fl:=
 (az (cC (oD jv (vr 0) (o2 aZ (vr 1) (cn (.int 1)))) (gN 3)) (aL (rA (o2 fP (vr 3) (cn .non)) (o2 nu (o2 aY (o2 aZ (vr 2) (cn (.int 0))) (o2 aZ (vr 1) (cn (.int 2)))) (o2 aZ (vr 3) (cn (.int 0)))))))
def dX:List T->Rs T:=val 3 4 jX
def jV:En->Rs Fl:=
 (az (rn 2 (eY (iS (vr 1)) [none] (gN 0) bT (aO (ae (vr 0) (ae (aO (ae (cn (.int 0)) (ae (dD ai) ai))) ai))))) (az (cC (cn (.bl true)) (gN 3)) (az (ck (tb (vr 3)) (az (cC (cn (.bl false)) (gN 3)) (dP (iE (ae (vr 0) ai)) (gT 2 (eF (gN 4) (eF (gN 5) ly))) (az (cC (ln 2 (oD jv (vr 2) (o2 aZ (vr 5) (cn (.int 0))))) (gN 6)) (az (eM (mB (tb (o2 fP (vr 6) (cn .non))) (eE (Hg 2 (tb (cl dX (ae (vr 2) (ae (vr 5) (ae (vr 6) ai)))))))) Fg sN) (az (cC (o2 aY (o2 aZ (vr 6) (cn (.int 1))) (dD (ae (vr 4) ai))) (gN 7)) (az (cC (eY (iS (vr 7)) [none,some 0] (gN 0) bT (o2 aZ (o2 aZ (vr 1) (vr 0)) (cn (.int 0)))) (gN 8)) (az (eM (tb (o2 Ig (o2 aZ (vr 5) (cn (.int 1))) (vr 8))) (aL (aO (ae (cn .non) (ae (sl (vr 7) (pS (oL ig (vr 8) (o2 aZ (vr 5) (cn (.int 1))))) pN) ai)))) sN) (az (zh 2 (o2 aZ (vr 5) (cn (.int 1))) (aO (ae (o2 aY (o2 aZ (vr 6) (cn (.int 0))) (o2 aZ (vr 5) (cn (.int 2)))) (ae (vr 7) ai)))) (cC (cn (.bl true)) (gN 3)))))))))) FU) (lK 2 (aL (aO (ae (vr 2) (ae (cn .non) ai))))))))
def f9:List T->Rs T:=val 2 9 jV
def dj:En->Rs Fl:=
 (az (cC (cl dY (ae (vr 0) ai)) (gN 2)) (az (cC (o2 aZ (cl f9 (ae (vr 1) (ae (vr 2) ai))) (cn (.int 0))) (gN 3)) (az (eM (tb (o2 fP (vr 3) (cn .non))) (aL (cn .non)) sN) (aL (cl gh (ae (eY (iS (vr 2)) [none,some 3] (gN 0) bT (o2 aZ (o2 bB (vr 1) (vr 0)) (cn (.int 0)))) ai))))))
def bA:List T->Rs T:=val 2 4 dj
def fF:En->Rs Fl:=
 (az (cC (o2 aZ (vr 1) (cn (.int 2))) (gN 2)) (az (hW 3 ai) (az (dP (iR (ae (o2 fh (cl cI (ae (vr 2) ai)) (cn (.int 1))) ai)) (gN 4) (az (cC (aO (ae (vr 0) (ae (vr 4) ai))) (gN 5)) (az (cC (aO (ae (vr 0) (ae (o2 aY (vr 4) (cn (.int 1))) ai))) (gN 6)) (az (cC (o2 fh (o2 aZ (vr 2) (o2 aY (vr 4) (cn (.int 1)))) (o2 aZ (vr 2) (vr 4))) (gN 7)) (az (g9 3 (aO (ae (vr 5) (ae (vr 6) (ae (o2 bW (vr 7) (o2 aZ (vr 1) (cn (.int 1)))) ai))))) (g9 3 (aO (ae (vr 6) (ae (vr 5) (ae (o2 bW (o1 pE (vr 7)) (o2 aZ (vr 1) (cn (.int 0)))) ai)))))))))) (lK 3 (aL (vr 3))))))
def cT:List T->Rs T:=val 2 8 fF
def eU:En->Rs Fl:=
 (az (hW 1 (ae (aO (ae (o2 aZ (vr 0) (cn (.int 1))) (ae (o2 aZ (vr 0) (cn (.int 0))) (ae (o1 pE (o2 aZ (vr 0) (cn (.int 2)))) ai)))) ai)) (az (eM (tb (o2 cZ (o2 aZ (vr 0) (cn (.int 3))) (cn .non))) (g9 1 (aO (ae (o2 aZ (vr 0) (cn (.int 0))) (ae (o2 aZ (vr 0) (cn (.int 1))) (ae (o2 aZ (vr 0) (cn (.int 3))) ai))))) sN) (lK 1 (aL (vr 1)))))
def cH:List T->Rs T:=val 1 2 eU
def jY:En->Rs Fl:=
 (az (uD (cl bH (ae (vr 0) ai))) (az (hW 1 ai) (az (dP (iE (ae (o2 aZ (vr 0) (cn (.int 0))) ai)) (gT 2 (eF (gN 2) (eF (gN 3) ly))) (oS 1 (cl cT (ae (vr 2) (ae (vr 3) ai))))) (az (dP (iS (o2 aZ (vr 0) (cn (.int 1)))) (gN 4) (oS 1 (cl cH (ae (vr 4) ai)))) (lK 1 (aL (vr 1)))))))
def dZ:List T->Rs T:=val 1 5 jY
def ET:En->Rs Fl:=
 (aL (cl bA (ae (vr 0) (ae (cl dZ (ae (vr 0) ai)) ai))))
def i5:List T->Rs T:=val 1 1 ET
def wq:En->Rs Fl:=
 (aL (o2 cZ (cl i5 (ae (vr 0) ai)) (cn .non)))
def gc:List T->Rs T:=val 1 1 wq
def dw:En->Rs Fl:=
 (eM (eE (tb (cl gc (ae (vr 0) ai)))) (AI "NoWorld") sN)
def b8:List T->Rs T:=val 1 1 dw
def uB:En->Rs Fl:=
 (aL (o2 aZ (cl f9 (ae (cl dZ (ae (vr 0) ai)) (ae (dD (ae (vr 1) ai)) ai))) (cn (.int 0))))
def dm:List T->Rs T:=val 2 2 uB
def Ae:En->Rs Fl:=
 (aL (t9 (tb (o2 Cz (vr 1) (vr 0))) (o2 aZ (o2 bB (vr 0) (vr 1)) (cn (.int 0))) (cn .non)))
def eX:List T->Rs T:=val 2 2 Ae
def g8:En->Rs Fl:=
 (az (uD (cl b8 (ae (vr 0) ai))) (az (cC (cl dY (ae (vr 0) ai)) (gN 1)) (az (hW 2 ai) (az (dP (iS (vr 1)) (gN 3) (az (cC (cl dm (ae (vr 0) (ae (vr 3) ai))) (gN 4)) (g9 2 (cl gh (ae (eY (iS (vr 1)) [none,some 4] (gN 0) bT (cl eX (ae (vr 1) (ae (vr 0) ai)))) ai))))) (aL (ln 2 (cl gh (ae (vr 2) ai))))))))
def gU:List T->Rs T:=val 1 5 g8
def fD:En->Rs Fl:=
 (az (cC (cl gU (ae (vr 0) ai)) (gN 1)) (az (cC (cl dY (ae (vr 0) ai)) (gN 2)) (az (hW 3 ai) (az (dP (iE (ae (vr 2) ai)) (gT 2 (eF (gN 4) (eF (gN 5) ly))) (dP (iE (ae (vr 2) ai)) (gT 2 (eF (gN 6) (eF (gN 7) ly))) (eM (qT (tb (o2 cZ (o2 aZ (o2 aZ (vr 1) (vr 6)) (vr 4)) (cn .non))) (tb (o2 nu (o2 aZ (o2 aZ (vr 1) (vr 6)) (vr 4)) (cn (.int 0))))) (g9 3 (aO (ae (vr 5) (ae (vr 7) ai)))) sN))) (lK 3 (aL (vr 3)))))))
def cS:List T->Rs T:=val 1 8 fD
def fE:En->Rs Fl:=
 (eM (eE (tb (cl cW (ae (o2 aZ (vr 0) (cn (.int 0))) (ae (vr 1) ai))))) (AI "NoEvent") sN)
def cw:List T->Rs T:=val 2 2 fE
def dy:En->Rs Fl:=
 (az (uD (cl bH (ae (vr 0) ai))) (az (dP (iS (vr 1)) (gN 2) (uD (cl cw (ae (vr 0) (ae (vr 2) ai))))) (az (eM (tb (o2 nM (cl oM (ae (vr 1) ai)) (cl dY (ae (vr 0) ai)))) (aL (cn (.bl false))) sN) (az (cC (eY (iR (ae (o2 fh (cl cI (ae (vr 1) ai)) (cn (.int 1))) ai)) [none,some 1] (gN 0) bT (aO (ae (o2 aZ (vr 1) (o2 aY (vr 0) (cn (.int 1)))) (ae (o2 aZ (vr 1) (vr 0)) (ae (cn (.int 0)) ai))))) (gN 3)) (aL (o2 cZ (cl bA (ae (vr 0) (ae (o2 aY (cl dZ (ae (vr 0) ai)) (vr 3)) ai))) (cn .non)))))))
def bQ:List T->Rs T:=val 2 4 dy
def cf:En->Rs Fl:=
 (az (uD (cl bH (ae (vr 0) ai))) (az (uD (cl cw (ae (vr 0) (ae (vr 1) ai)))) (uD (cl cw (ae (vr 0) (ae (vr 2) ai))))))
def b9:List T->Rs T:=val 3 3 cf
def cN:En->Rs Fl:=
 (az (uD (cl b9 (ae (vr 0) (ae (vr 1) (ae (vr 2) ai))))) (az (uD (cl b8 (ae (vr 0) ai))) (aL (cl eX (ae (cl dm (ae (vr 0) (ae (vr 1) ai))) (ae (vr 2) ai))))))
def aP:List T->Rs T:=val 3 3 cN
def dE:En->Rs Fl:=
 (az (cC (cl aP (ae (vr 0) (ae (vr 2) (ae (vr 1) ai)))) (gN 3)) (aL (t9 (tb (o2 fP (vr 3) (cn .non))) (cn .non) (o1 pE (vr 3)))))
def dB:List T->Rs T:=val 3 4 dE
def d9:En->Rs Fl:=
 (az (cC (cl dB (ae (vr 0) (ae (vr 1) (ae (vr 2) ai)))) (gN 3)) (aL (cb (o2 cZ (vr 3) (cn .non)) (o2 CQ (vr 3) (cn (.int 0))))))
def aX:List T->Rs T:=val 3 4 d9
def eI:En->Rs Fl:=
 (az (cC (cl aP (ae (vr 0) (ae (vr 1) (ae (vr 2) ai)))) (gN 3)) (aL (rA (o2 fP (vr 3) (cn .non)) (o2 CQ (vr 3) (cn (.int 0))))))
def bw:List T->Rs T:=val 3 4 eI
def nV:En->Rs Fl:=
 (aL (cb (o1 tH (cl aX (ae (vr 0) (ae (vr 1) (ae (vr 2) ai))))) (o1 tH (cl aX (ae (vr 0) (ae (vr 2) (ae (vr 1) ai)))))))
def bK:List T->Rs T:=val 3 3 nV
def iO:En->Rs Fl:=
 (az (eM (tb (cl aX (ae (vr 0) (ae (vr 1) (ae (vr 2) ai))))) (aL (cn (.str "ahead"))) sN) (az (eM (tb (cl aX (ae (vr 0) (ae (vr 2) (ae (vr 1) ai))))) (aL (cn (.str "behind"))) sN) (az (eM (mB (tb (cl bw (ae (vr 0) (ae (vr 1) (ae (vr 2) ai))))) (tb (cl bw (ae (vr 0) (ae (vr 2) (ae (vr 1) ai)))))) (aL (cn (.str "open"))) sN) (aL (cn (.str "at once"))))))
def ee:List T->Rs T:=val 3 3 iO
def wt:En->Rs Fl:=
 (uZ (az (eM (tb (o2 nu (vr 0) (cn (.int 4)))) (aL (wN [aX,bw,bK,ee] (vr 0) (ae (vr 1) (ae (vr 2) (ae (vr 3) ai))))) sN) (aL (t9 (tb (o2 qQ (vr 0) (cn (.int 4)))) (cl cS (ae (vr 1) ai)) (cl bQ (ae (vr 1) (ae (vr 2) ai)))))) nQ)
def aF:List T->Rs T:=val 4 5 wt
def fQ:En->Rs Fl:=
 (az (cC (aO (ae (aO (ae (aO (ae (cn (.int 1)) (ae (cn (.int 1)) (ae (aO (ae (cn (.int 0)) (ae (cn (.int 1)) ai))) ai)))) ai)) (ae (aO ai) ai))) (gN 0)) (az (cC (o2 aY (eY (iR (ae (cn (.int 4)) ai)) [none,some 0] (gN 0) bT (cl aF (ae (vr 0) (ae (vr 1) (ae (aO (ae (cn (.int 0)) (ae (cn (.int 0)) ai))) (ae (aO (ae (cn (.int 0)) (ae (cn (.int 1)) ai))) ai)))))) (dD (ae (cl aF (ae (cn (.int 4)) (ae (vr 0) (ae (cn .non) (ae (cn .non) ai))))) ai))) (gN 1)) (aL (o2 qQ (vr 1) (dD (ae (cn (.bl true)) (ae (cn (.bl true)) (ae (cn (.bl false)) (ae (cn (.str "ahead")) (ae (dD (ae (aO (ae (aO (ae (cn (.int 0)) (ae (cn (.int 0)) ai))) (ae (aO (ae (cn (.int 0)) (ae (cn (.int 1)) ai))) ai))) ai)) ai))))))))))
def df:List T->Rs T:=val 0 2 fQ
def jZ:En->Rs Fl:=
 (az (eM (tb (o2 qQ (vr 0) (dD ai))) (aL (o2 bW (cn (.int 7)) (vr 1))) sN) (aL (o2 aY (o2 aZ (vr 0) (o2 lU (vr 1) (cl cI (ae (vr 0) ai)))) (o2 bW (cn (.int 6553)) (o2 mf (vr 1) (cl cI (ae (vr 0) ai)))))))
def gd:List T->Rs T:=val 2 2 jZ
def jh:En->Rs Fl:=
 (az (cC (o2 lU (o2 aY (o2 bW (o2 lU (cl gd (ae (vr 0) (ae (vr 1) ai))) (cn (.int 2147483563))) (cn (.int 69069))) (o2 bW (cn (.int 104723)) (o2 aY (vr 1) (cn (.int 1))))) (cn (.int 2147483563))) (gN 3)) (az (cC (o2 lU (o2 aY (o2 bW (vr 3) (vr 3)) (o2 mf (vr 3) (cn (.int 3)))) (cn (.int 2147483399))) (gN 3)) (aL (o2 lU (o2 mf (o2 lU (o2 aY (o2 bW (vr 3) (vr 3)) (o2 mf (vr 3) (cn (.int 7)))) (cn (.int 2147483647))) (cn (.int 11))) (vr 2)))))
def aA:List T->Rs T:=val 3 4 jh
def kY:En->Rs Fl:=
 (az (cC (dD ai) (gN 1)) (az (dP (iE (ae (vr 0) ai)) (gT 2 (eF (gN 2) (eF (gN 3) ly))) (cC (o2 aY (vr 1) (eY (iR (ae (cl cI (ae (o2 aZ (vr 3) (cn (.int 2))) ai)) ai)) [none,some 2] (gN 0) bT (aO (ae (vr 1) (ae (vr 0) ai))))) (gN 1))) (aL (vr 1))))
def cX:List T->Rs T:=val 1 4 kY
def eJ:En->Rs Fl:=
 (az (cC (cl cX (ae (vr 2) ai)) (gN 3)) (az (eM (tb (o2 nu (cl cI (ae (vr 3) ai)) (cn (.int 2)))) (aL (cn .non)) sN) (az (cC (cl aA (ae (vr 0) (ae (vr 1) (ae (cl cI (ae (vr 3) ai)) ai)))) (gN 4)) (az (cC (o2 lU (o2 aY (o2 aY (vr 4) (cn (.int 1))) (cl aA (ae (vr 0) (ae (o2 aY (vr 1) (cn (.int 1))) (ae (o2 fh (cl cI (ae (vr 3) ai)) (cn (.int 1))) ai))))) (cl cI (ae (vr 3) ai))) (gN 5)) (az (cC (cl aA (ae (vr 0) (ae (o2 aY (vr 1) (cn (.int 2))) (ae (cn (.int 8)) ai)))) (gN 6)) (az (cC (t9 (tb (o2 qQ (cl aA (ae (vr 0) (ae (o2 aY (vr 1) (cn (.int 3))) (ae (cn (.int 3)) ai)))) (cn (.int 0)))) (cn .non) (o2 aY (vr 6) (cl aA (ae (vr 0) (ae (o2 aY (vr 1) (cn (.int 4))) (ae (cn (.int 9)) ai)))))) (gN 7)) (aL (aO (ae (o2 aZ (vr 3) (vr 4)) (ae (o2 aZ (vr 3) (vr 5)) (ae (vr 6) (ae (vr 7) ai))))))))))))
def dG:List T->Rs T:=val 3 8 eJ
def ji:En->Rs Fl:=
 (az (cC (o2 aY (cn (.int 1)) (cl aA (ae (vr 0) (ae (vr 1) (ae (cn (.int 3)) ai))))) (gN 2)) (az (cC (aO (ae (cl aA (ae (vr 0) (ae (o2 aY (vr 1) (cn (.int 2))) (ae (cn (.int 6)) ai)))) ai)) (gN 3)) (az (dP (iR (ae (cl aA (ae (vr 0) (ae (o2 aY (vr 1) (cn (.int 1))) (ae (cn (.int 3)) ai)))) ai)) (gN 4) (cC (o2 aY (vr 3) (aO (ae (o2 aY (o2 aY (o2 aZ (vr 3) (o1 pE (cn (.int 1)))) (cn (.int 1))) (cl aA (ae (vr 0) (ae (o2 aY (o2 aY (vr 1) (cn (.int 3))) (vr 4)) (ae (cn (.int 5)) ai))))) ai))) (gN 3))) (aL (aO (ae (vr 2) (ae (o2 aY (vr 2) (cl aA (ae (vr 0) (ae (o2 aY (vr 1) (cn (.int 6))) (ae (cn (.int 3)) ai))))) (ae (vr 3) ai))))))))
def cU:List T->Rs T:=val 2 5 ji
def iB:En->Rs Fl:=
 (az (cC (cl gh (ae (eY (iR (ae (o2 aY (cn (.int 1)) (cl aA (ae (vr 0) (ae (vr 1) (ae (cn (.int 3)) ai))))) ai)) [none,some 0,some 1] (gN 0) bT (cl cU (ae (vr 1) (ae (o2 aY (o2 aY (vr 2) (cn (.int 1))) (o2 bW (cn (.int 8)) (vr 0))) ai)))) ai)) (gN 3)) (az (cC (dD ai) (gN 4)) (az (dP (iR (ae (cl aA (ae (vr 0) (ae (o2 aY (vr 1) (cn (.int 30))) (ae (o2 aY (vr 2) (cn (.int 1))) ai)))) ai)) (gN 5) (az (cC (cl dG (ae (vr 0) (ae (o2 aY (o2 aY (vr 1) (cn (.int 31))) (o2 bW (cn (.int 6)) (vr 5))) (ae (vr 3) ai)))) (gN 6)) (cC (o2 aY (vr 4) (o2 bW (dD (ae (vr 6) ai)) (cl BZ (ae (o2 cZ (vr 6) (cn .non)) ai)))) (gN 4)))) (aL (aO (ae (vr 3) (ae (cl gh (ae (vr 4) ai)) ai)))))))
def fT:List T->Rs T:=val 3 7 iB
def iC:En->Rs Fl:=
 (az (hW 1 ai) (az (dP (iE (ae (o2 aZ (vr 0) (cn (.int 0))) ai)) (gT 2 (eF (gN 2) (eF (gT 3 (eF (gN 3) (eF (gN 4) (eF (gN 5) ly)))) ly))) (dP (iR (ae (cn (.int 1)) (ae (cl cI (ae (vr 5) ai)) ai))) (gN 6) (az (cC (o2 fh (o2 aZ (vr 5) (vr 6)) (o2 aZ (vr 5) (o2 fh (vr 6) (cn (.int 1))))) (gN 7)) (az (g9 1 (aO (ae (aO (ae (vr 2) (ae (o2 fh (vr 6) (cn (.int 1))) ai))) (ae (aO (ae (vr 2) (ae (vr 6) ai))) (ae (o2 bW (vr 4) (vr 7)) ai))))) (g9 1 (aO (ae (aO (ae (vr 2) (ae (vr 6) ai))) (ae (aO (ae (vr 2) (ae (o2 fh (vr 6) (cn (.int 1))) ai))) (ae (o2 fh (cn (.int 0)) (o2 bW (vr 3) (vr 7))) ai))))))))) (az (dP (iS (o2 aZ (vr 0) (cn (.int 1)))) (gT 4 (eF (gN 8) (eF (gN 9) (eF (gN 10) (eF (gN 11) ly))))) (az (g9 1 (aO (ae (vr 9) (ae (vr 8) (ae (o2 fh (cn (.int 0)) (vr 10)) ai))))) (eM (tb (o2 cZ (vr 11) (cn .non))) (g9 1 (aO (ae (vr 8) (ae (vr 9) (ae (vr 11) ai))))) sN))) (lK 1 (aL (vr 1))))))
def fU:List T->Rs T:=val 1 12 iC
def jg:En->Rs Fl:=
 (az (oR 2 0) (az (dP (iS (vr 0)) (gN 3) (jo 2 (vr 3) (vr 3) (cn (.int 0)))) (az (dP (iS (vr 1)) (gT 3 (eF (gN 3) (eF (gN 4) (eF (gN 5) ly)))) (eM (mB (tb (o2 fP (ln 2 (o2 bB (o2 bB (vr 2) (vr 3)) (vr 4))) (cn .non))) (tb (o2 nu (vr 5) (ln 2 (o2 bB (o2 bB (vr 2) (vr 3)) (vr 4)))))) (jo 2 (vr 3) (vr 4) (vr 5)) sN)) (az (dP (iS (vr 0)) (gN 6) (dP (iS (vr 0)) (gN 3) (dP (iS (vr 0)) (gN 4) (eM (qT (tb (o2 cZ (ln 2 (o2 bB (o2 bB (vr 2) (vr 3)) (vr 6))) (cn .non))) (tb (o2 cZ (ln 2 (o2 bB (o2 bB (vr 2) (vr 6)) (vr 4))) (cn .non)))) (az (cC (o2 aY (ln 2 (o2 bB (o2 bB (vr 2) (vr 3)) (vr 6))) (ln 2 (o2 bB (o2 bB (vr 2) (vr 6)) (vr 4)))) (gN 7)) (eM (mB (tb (o2 fP (ln 2 (o2 bB (o2 bB (vr 2) (vr 3)) (vr 4))) (cn .non))) (tb (o2 nu (vr 7) (ln 2 (o2 bB (o2 bB (vr 2) (vr 3)) (vr 4)))))) (jo 2 (vr 3) (vr 4) (vr 7)) sN)) sN)))) (lK 2 (aL (t9 (tb (o2 qQ (eY (iS (vr 0)) [none,some 2] (gN 0) (tb (o2 nu (o2 bB (o2 bB (vr 1) (vr 0)) (vr 0)) (cn (.int 0)))) (vr 0)) (dD ai))) (vr 2) (cn .non))))))))
def fy:List T->Rs T:=val 2 8 jg
def lx:En->Rs Fl:=
 (az (cC (o2 bB (o2 bB (vr 0) (vr 1)) (vr 2)) (gN 3)) (az (cC (o2 bB (o2 bB (vr 0) (vr 2)) (vr 1)) (gN 4)) (az (cC (cb (o2 cZ (vr 4) (cn .non)) (o2 nu (vr 4) (cn (.int 0)))) (gN 5)) (az (cC (cb (o2 cZ (vr 3) (cn .non)) (o2 nu (vr 3) (cn (.int 0)))) (gN 6)) (az (cC (rA (o2 fP (vr 3) (cn .non)) (rA (o2 CQ (vr 3) (cn (.int 0))) (rA (o2 fP (vr 4) (cn .non)) (o2 CQ (vr 4) (cn (.int 0)))))) (gN 7)) (az (cC (t9 (tb (vr 5)) (cn (.str "ahead")) (t9 (tb (vr 6)) (cn (.str "behind")) (t9 (tb (vr 7)) (cn (.str "open")) (cn (.str "at once"))))) (gN 8)) (aL (dD (ae (vr 5) (ae (rA (o2 fP (vr 3) (cn .non)) (o2 CQ (vr 3) (cn (.int 0)))) (ae (cb (o1 tH (vr 5)) (o1 tH (vr 6))) (ae (vr 8) ai))))))))))))
def d6:List T->Rs T:=val 3 9 lx
def iA:En->Rs Fl:=
 (az (cC (cl fT (ae (vr 0) (ae (cn (.int 0)) (ae (cn (.int 5)) ai)))) (gN 1)) (az (cC (cl cX (ae (o2 aZ (vr 1) (cn (.int 0))) ai)) (gN 2)) (az (cC (cl fU (ae (vr 1) ai)) (gN 3)) (az (cC (cl fy (ae (vr 2) (ae (vr 3) ai))) (gN 4)) (az (hW 5 ai) (az (dP (iE (ae (vr 2) ai)) (gT 2 (eF (gN 6) (eF (gN 7) ly))) (az (cC (o2 aZ (dD (ae (ln 5 (cl cI (ae (vr 5) ai))) (ae (ln 5 (cl cI (ae (vr 5) ai))) (ae (cn (.int 0)) ai)))) (cl aA (ae (vr 0) (ae (o2 aY (cn (.int 80)) (vr 6)) (ae (cn (.int 3)) ai))))) (gN 8)) (wV 5 (ae (vr 8) (ae (vr 7) ai))))) (az (lK 5 (cC (eY (iZ (ae (vr 5) (ae (sl (vr 5) (pS (cn (.int 1))) pN) ai))) [none,none] (gT 2 (eF (gN 0) (eF (gN 1) ly))) bT (aO (ae (vr 1) (ae (vr 0) (ae (cn (.int 0)) ai))))) (gN 9))) (az (eM (tb (o2 nM (cl aF (ae (cn (.int 5)) (ae (vr 1) (ae (vr 5) (ae (cn .non) ai))))) (o2 cZ (cl fy (ae (vr 2) (ae (o2 aY (vr 3) (vr 9)) ai))) (cn .non)))) (aL (cn (.bl false))) sN) (az (eM (mB (tb (o2 nM (cl aF (ae (cn (.int 5)) (ae (vr 1) (ae (sl (vr 5) (pS (cn (.int 1))) pN) (ae (cn .non) ai))))) (cn (.bl false)))) (tb (o2 nM (cl aF (ae (cn (.int 5)) (ae (vr 1) (ae (o2 aY (vr 5) (sl (vr 5) pN (pS (cn (.int 1))))) (ae (cn .non) ai))))) (cn (.bl false))))) (aL (cn (.bl false))) sN) (az (cC (o2 aZ (dD (ae (cn .non) (ae (aO (ae (cn (.int 0)) ai)) (ae (aO (ae (cn (.int 9)) (ae (cn (.int 0)) ai))) (ae (aO (ae (cn (.int 0)) (ae (cn (.int 9)) ai))) (ae (dD (ae (cn (.int 0)) (ae (cn (.int 0)) ai))) (ae (aO (ae (cn (.bl true)) (ae (cn (.int 0)) ai))) (ae (cn (.str "0.0")) ai)))))))) (cl aA (ae (vr 0) (ae (cn (.int 120)) (ae (cn (.int 7)) ai))))) (gN 10)) (az (dP (iR (ae (cn (.int 4)) ai)) (gN 11) (az (eM (tb (o2 nM (cl aF (ae (vr 11) (ae (vr 1) (ae (vr 10) (ae (o2 aZ (vr 2) (cn (.int 0))) ai))))) (aO (ae (cn (.str "refused")) (ae (cn (.int 1)) ai))))) (aL (cn (.bl false))) sN) (eM (tb (o2 nM (cl aF (ae (vr 11) (ae (vr 1) (ae (o2 aZ (vr 2) (cn (.int 0))) (ae (vr 10) ai))))) (aO (ae (cn (.str "refused")) (ae (cn (.int 1)) ai))))) (aL (cn (.bl false))) sN))) (az (eM (tb (o2 nM (eY (iR (ae (cn (.int 6)) ai)) [none,some 1,some 10] (gN 0) bT (cl aF (ae (vr 0) (ae (sl (vr 1) pN (pS (cn (.int 1)))) (ae (vr 2) (ae (vr 2) ai)))))) (o2 bW (dD (ae (aO (ae (cn (.str "refused")) (ae (cn (.int 0)) ai))) ai)) (cn (.int 6))))) (aL (cn (.bl false))) sN) (az (eM (tb (o2 fP (vr 4) (cn .non))) (aL (o2 qQ (eY (iR (ae (cn (.int 5)) ai)) [none,some 1,some 2] (gN 0) bT (cl aF (ae (vr 0) (ae (vr 1) (ae (o2 aZ (vr 2) (cn (.int 0))) (ae (o2 aZ (vr 2) (o1 pE (cn (.int 1)))) ai)))))) (o2 bW (dD (ae (aO (ae (cn (.str "refused")) (ae (cn (.int 3)) ai))) ai)) (cn (.int 5))))) sN) (az (cC (dD ai) (gN 12)) (az (dP (iS (vr 2)) (gN 13) (cC (o2 aY (vr 12) (eY (iS (vr 2)) [none,some 13,some 4] (gN 0) (tb (o2 aZ (cl d6 (ae (vr 2) (ae (vr 1) (ae (vr 0) ai)))) (cn (.int 0)))) (aO (ae (vr 1) (ae (vr 0) ai))))) (gN 12))) (az (dP (iR (ae (cn (.int 3)) ai)) (gN 6) (az (cC (o2 aZ (vr 2) (cl aA (ae (vr 0) (ae (o2 aY (cn (.int 130)) (o2 bW (cn (.int 2)) (vr 6))) (ae (cl cI (ae (vr 2) ai)) ai))))) (gN 13)) (az (cC (o2 aZ (vr 2) (cl aA (ae (vr 0) (ae (o2 aY (cn (.int 131)) (o2 bW (cn (.int 2)) (vr 6))) (ae (cl cI (ae (vr 2) ai)) ai))))) (gN 14)) (eM (tb (o2 nM (eY (iR (ae (cn (.int 4)) ai)) [none,some 1,some 13,some 14] (gN 0) bT (cl aF (ae (vr 0) (ae (vr 1) (ae (vr 2) (ae (vr 3) ai)))))) (cl d6 (ae (vr 4) (ae (vr 13) (ae (vr 14) ai)))))) (aL (cn (.bl false))) sN)))) (aL (o2 qQ (cl aF (ae (cn (.int 4)) (ae (vr 1) (ae (cn .non) (ae (cn .non) ai))))) (vr 12)))))))))))))))))))
def fS:List T->Rs T:=val 1 15 iA
def J9:En->Rs Fl:=
 (aL (cb (c0 df) (cl fS (ae (vr 0) ai))))
def m_law:List T->Rs T:=val 1 1 J9
end G
namespace G
open PySem PySem.Spec PyProof.Rows L2 Tr
section
variable (P:L1)(w:MG){K:Lu}{mg:Str->Option Ly}(base:Heap)
abbrev oK:Stmt:=top 17
abbrev xi:List Str:=["thing","least","most"]
theorem wU:aE xi ["thing","least","most"] (aq oK):=gx
theorem xb (F:gz K mg "is_long" oK ["thing","least","most"])(B:Bl mg):Cl P w K mg base 1 "is_long" 3 aS:=
 br F wU rfl λf c A o s H E hr x=>(au (aB (da (Am B.b_isinstance B.b_tuple dH (af 0)) (cP (uH yg yg (af 1) (dM dv B.b_len NK (ag (af 0) ah)) (af 2))))))
abbrev ng:Stmt:=top 15
abbrev vC:List Str:=["thing"]
theorem uV:aE vC ["thing"] (aq ng):=gx
theorem vm (F:gz K mg "is_whole" ng ["thing"])(B:Bl mg):Cl P w K mg base 1 "is_whole" 1 i6:=
 br F uV rfl λf c A o s H E hr x=>(au (aB (da (Am B.b_isinstance B.b_int nE (af 0)) (cP (ou (Am B.b_isinstance B.b_bool uo (af 0)))))))
abbrev lD:Stmt:=top 16
abbrev tJ:List Str:=["thing","least","most"]
theorem sG:aE tJ ["thing","least","most"] (aq lD):=gx
theorem tj (F:gz K mg "is_within" lD ["thing","least","most"])(ab3:Cl P w K mg base 1 "is_whole" 1 i6):Cl P w K mg base 2 "is_within" 3 bp:=
 br F sG rfl λf c A o s H E hr x=>(au (aB (da (aN ab3 hr (ag (af 0) ah)) (cP (uH yg yg (af 1) (af 0) (af 2))))))
abbrev oJ:Stmt:=top 20
abbrev xh:List Str:=["slow","fast"]
theorem wR:aE xh ["slow","fast"] (aq oJ):=gx
theorem w9 (F:gz K mg "is_pace" oJ ["slow","fast"])(aa4:Cl P w K mg base 2 "is_within" 3 bp)(C:Cs mg):Cl P w K mg base 3 "is_pace" 2 gG:=
 br F wR rfl λf c A o s H E hr x=>(au (aB (da (aN aa4 hr (ag (af 0) (ag aj (ag (uG C.SLOWEST) ah)))) (cP (aN aa4 hr (ag (af 1) (ag (af 0) (ag (uG C.SLOWEST) ah))))))))
abbrev oG:Stmt:=top 18
abbrev vB:List Str:=["numbers"]
theorem AH:aE vB ["numbers"] (aq oG):=gx
theorem Bp (F:gz K mg "rises" oG ["numbers"])(B:Bl mg):Cl P w K mg base 1 "rises" 1 kl:=
 br F AH rfl λf c A o s H E hr x=>(au (aB (dM (ui rfl) B.b_all boot_all (ag (gu (N':=["k","numbers"]) (src:=[none,some 0]) rfl (LcScope.by (N:=vB) (names:=(aq oG).names) rfl rfl rfl (by decide+kernel)) (bP B.b_range (ag (ay fN (dM dv B.b_len NK (ag (af 0) ah)) aj) ah)) (λ_ _ _ _ _=>⟨(ak 0 (show Mo (["k","numbers"]:List Str)by decide+kernel)),cg,(cj kO (aK (af 1) (af 0)) (aK (af 1) (ay aW (af 0) aj)))⟩)) ah))))
abbrev gj:Stmt:=top 19
abbrev jr:List Str:=["thing"]
theorem nG:aE jr ["thing"] (aq gj):=gx
theorem nJ (F:gz K mg "are_readings" gj ["thing"])(aa2:Cl P w K mg base 1 "is_long" 3 aS)(abb:Cl P w K mg base 1 "rises" 1 kl)(aa4:Cl P w K mg base 2 "is_within" 3 bp)(B:Bl mg)(C:Cs mg):Cl P w K mg base 3 "are_readings" 1 cm:=
 br F nG rfl λf c A o s H E hr x=>(ao (bO (gA (cO (aN aa2 hr (ag (af 0) (ag aj (ag (uG C.MOST_READINGS) ah)))))) (au (aB fg)) bq) (au (aB (da (dM (ui rfl) B.b_all boot_all (ag (gu (N':=["part"]) (src:=[none]) rfl (LcScope.by (N:=jr) (names:=(aq gj).names) rfl rfl rfl (by decide+kernel)) (bZ (af 0)) (λ_ _ _ _ _=>⟨(ak 0 (show Mo (["part"]:List Str)by decide+kernel)),cg,(aN aa4 hr (ag (af 0) (ag aj (ag (uG C.LAST_READING) ah))))⟩)) ah)) (cP (aN abb hr (ag (af 0) ah)))))))
abbrev nj:Stmt:=top 21
abbrev vF:List Str:=["thing"]
theorem uY:aE vF ["thing"] (aq nj):=gx
theorem vp (F:gz K mg "is_clock" nj ["thing"])(aa2:Cl P w K mg base 1 "is_long" 3 aS)(ab7:Cl P w K mg base 3 "is_pace" 2 gG)(aaD:Cl P w K mg base 3 "are_readings" 1 cm):Cl P w K mg base 4 "is_clock" 1 dW:=
 br F uY rfl λf c A o s H E hr x=>(au (aB (da (aN aa2 hr (ag (af 0) (ag aj (ag aj ah)))) (da (aN ab7 hr (ag (aK (af 0) aj) (ag (aK (af 0) aj) ah))) (cP (aN aaD hr (ag (aK (af 0) aj) ah)))))))
abbrev ir:Stmt:=top 22
abbrev kQ:List Str:=["thing"]
theorem qw:aE kQ ["thing"] (aq ir):=gx
theorem qF (F:gz K mg "are_clocks" ir ["thing"])(aa2:Cl P w K mg base 1 "is_long" 3 aS)(ab4:Cl P w K mg base 4 "is_clock" 1 dW)(B:Bl mg)(C:Cs mg):Cl P w K mg base 5 "are_clocks" 1 eh:=
 br F qw rfl λf c A o s H E hr x=>(au (aB (da (aN aa2 hr (ag (af 0) (ag aj (ag (uG C.MOST_CLOCKS) ah)))) (cP (dM (ui rfl) B.b_all boot_all (ag (gu (N':=["part"]) (src:=[none]) rfl (LcScope.by (N:=kQ) (names:=(aq ir).names) rfl rfl rfl (by decide+kernel)) (bZ (af 0)) (λ_ _ _ _ _=>⟨(ak 0 (show Mo (["part"]:List Str)by decide+kernel)),cg,(aN ab4 hr (ag (af 0) ah))⟩)) ah))))))
abbrev nh:Stmt:=top 23
abbrev vD:List Str:=["clocks","thing"]
theorem uW:aE vD ["clocks","thing"] (aq nh):=gx
theorem vn (F:gz K mg "is_event" nh ["clocks","thing"])(aa4:Cl P w K mg base 2 "is_within" 3 bp)(aa2:Cl P w K mg base 1 "is_long" 3 aS)(B:Bl mg):Cl P w K mg base 3 "is_event" 2 cW:=
 br F uW rfl λf c A o s H E hr x=>(ao (bO (lz (kZ (gA (cO (aN aa2 hr (ag (af 1) (ag aj (ag aj ah)))))) (iP (gA (cO (aN aa4 hr (ag (aK (af 1) aj) (ag aj (ag (ay fN (dM dv B.b_len NK (ag (af 0) ah)) aj) ah))))))))) (au (aB fg)) bq) (au (aB (aN aa4 hr (ag (aK (af 1) aj) (ag aj (ag (ay fN (dM dv B.b_len NK (ag (aK (aK (af 0) (aK (af 1) aj)) aj) ah)) aj) ah)))))))
abbrev ni:Stmt:=top 24
abbrev vE:List Str:=["least","most"]
theorem uX:aE vE ["least","most"] (aq ni):=gx
theorem vo (F:gz K mg "is_delay" ni ["least","most"])(aa4:Cl P w K mg base 2 "is_within" 3 bp)(C:Cs mg):Cl P w K mg base 3 "is_delay" 2 eR:=
 br F uX rfl λf c A o s H E hr x=>(au (aB (da (aN aa4 hr (ag (af 0) (ag aj (ag (uG C.LONGEST) ah)))) (cP (oq (cj jq (af 1) bc) (cP (aN aa4 hr (ag (af 1) (ag (af 0) (ag (uG C.LONGEST) ah))))))))))
abbrev lF:Stmt:=top 25
abbrev tL:List Str:=["clocks","thing"]
theorem sI:aE tL ["clocks","thing"] (aq lF):=gx
theorem tq (F:gz K mg "is_letter" lF ["clocks","thing"])(aao:Cl P w K mg base 3 "is_event" 2 cW)(aa2:Cl P w K mg base 1 "is_long" 3 aS)(ab5:Cl P w K mg base 3 "is_delay" 2 eR):Cl P w K mg base 4 "is_letter" 2 cy:=
 br F sI rfl λf c A o s H E hr x=>(ao (bO (lz (kZ (gA (cO (aN aa2 hr (ag (af 1) (ag aj (ag aj ah)))))) (iP (gA (cO (aN ab5 hr (ag (aK (af 1) aj) (ag (aK (af 1) aj) ah)))))))) (au (aB fg)) bq) (au (aB (da (aN aao hr (ag (af 0) (ag (aK (af 1) aj) ah))) (da (aN aao hr (ag (af 0) (ag (aK (af 1) aj) ah))) (cP (cj (lO (kD hr)) (aK (af 1) aj) (aK (af 1) aj))))))))
abbrev gM:Stmt:=top 26
abbrev jJ:List Str:=["clocks","thing"]
theorem oQ:aE jJ ["clocks","thing"] (aq gM):=gx
theorem o6 (F:gz K mg "are_letters" gM ["clocks","thing"])(aa2:Cl P w K mg base 1 "is_long" 3 aS)(aaX:Cl P w K mg base 4 "is_letter" 2 cy)(B:Bl mg)(C:Cs mg):Cl P w K mg base 5 "are_letters" 2 dF:=
 br F oQ rfl λf c A o s H E hr x=>(au (aB (da (aN aa2 hr (ag (af 1) (ag aj (ag (uG C.MOST_LETTERS) ah)))) (cP (dM (ui rfl) B.b_all boot_all (ag (gu (N':=["part","clocks"]) (src:=[none,some 0]) rfl (LcScope.by (N:=jJ) (names:=(aq gM).names) rfl rfl rfl (by decide+kernel)) (bZ (af 1)) (λ_ _ _ _ _=>⟨(ak 0 (show Mo (["part","clocks"]:List Str)by decide+kernel)),cg,(aN aaX hr (ag (af 1) (ag (af 0) ah)))⟩)) ah))))))
abbrev lE:Stmt:=top 27
abbrev tK:List Str:=["thing"]
theorem sH:aE tK ["thing"] (aq lE):=gx
theorem tp (F:gz K mg "is_record" lE ["thing"])(aa2:Cl P w K mg base 1 "is_long" 3 aS)(aaP:Cl P w K mg base 5 "are_clocks" 1 eh)(aaG:Cl P w K mg base 5 "are_letters" 2 dF):Cl P w K mg base 6 "is_record" 1 dU:=
 br F sH rfl λf c A o s H E hr x=>(au (aB (da (aN aa2 hr (ag (af 0) (ag aj (ag aj ah)))) (da (aN aaP hr (ag (aK (af 0) aj) ah)) (cP (aN aaG hr (ag (aK (af 0) aj) (ag (aK (af 0) aj) ah))))))))
abbrev jB:Stmt:=top 28
abbrev pw:List Str:=["thing"]
theorem oO:aE pw ["thing"] (aq jB):=gx
theorem oZ (F:gz K mg "need_record" jB ["thing"])(aaY:Cl P w K mg base 6 "is_record" 1 dU){C_NoRecord C_NoEvent C_NoNumber C_NoWorld C_Barred C_Nothing C_ClockError:Addr}(S:Xs K mg C_NoRecord C_NoEvent C_NoNumber C_NoWorld C_Barred C_Nothing C_ClockError):Cl P w K mg base 7 "need_record" 1 bH:=
 br F oO rfl λf c A o s H E hr x=>(au (bO (gA (cO (aN aaY hr (ag (af 0) ah)))) (au (mq S.o_NoRecord S.m_NoRecord)) bq))
abbrev mr:Stmt:=top 30
abbrev rC:List Str:=["record","told","number","clock"]
theorem aaV:aE rC ["record"] (aq mr):=gx
theorem zm (F:gz K mg "events" mr ["record"])(aa6:Cl P w K mg base 7 "need_record" 1 bH)(B:Bl mg):Cl P w K mg base 8 "events" 1 dY:=
 br F aaV rfl λf c A o s H E hr x=>(by(apply ao;exact(eC (aN aa6 hr (ag (af 0) ah)));apply ao;exact(fW 1 aaV.nd ah);apply ao;exact(bN rfl (fX B.b_enumerate (ag (aK (af 0) aj) ah)) (eK rfl (aQ (ak 2 aaV.nd) (aQ (ak 3 aaV.nd) dz))) (au (sg 1 (gu (N':=["k","number"]) (src:=[none,some 2]) rfl (LcScope.by (N:=rC) (names:=(aq mr).names) rfl rfl rfl (by decide+kernel)) (bP B.b_range (ag (dM dv B.b_len NK (ag (aK (af 3) aj) ah)) ah)) (λ_ _ _ _ _=>⟨(ak 0 (show Mo (["k","number"]:List Str)by decide+kernel)),cg,(aR (ag (af 1) (ag (af 0) ah)))⟩)))));exact au (gB 1 (aB (af 1)))))
abbrev lG:Stmt:=top 37
abbrev tM:List Str:=["best","bound","ahead","known"]
theorem ab8:aE tM ["best","bound","ahead"] (aq lG):=gx
theorem tu (F:gz K mg "is_better" lG ["best","bound","ahead"]):Cl P w K mg base 1 "is_better" 3 dX:=
 br F ab8 rfl λf c A o s H E hr x=>(ao (aG (xN (lh hr) (af 0) (aK (af 1) aj)) (ak 3 ab8.nd)) (au (aB (oq (cj jq (af 3) bc) (cP (cj kO (ay aW (aK (af 2) aj) (aK (af 1) aj)) (aK (af 3) aj)))))))
abbrev j0:Stmt:=top 36
abbrev mI:List Str:=["limits","starts","best","moved","number","bound","ahead","walk","passed"]
theorem aae:aE mI ["limits","starts"] (aq j0):=gx
theorem zl (F:gz K mg "settle" j0 ["limits","starts"])(aaZ:Cl P w K mg base 1 "is_better" 3 dX)(B:Bl mg):Cl P w K mg base 2 "settle" 2 f9:=
 br F aae rfl λf c A o s H E hr x=>(by(apply ao;exact(Al 2 (hu8 hr) rfl B.b_dict aae.nd (gu (N':=["event"]) (src:=[none]) rfl (LcScope.by (N:=mI) (names:=(aq j0).names) rfl rfl rfl (by decide+kernel)) (bZ (af 1)) (λ_ _ _ _ _=>⟨(ak 0 (show Mo (["event"]:List Str)by decide+kernel)),cg,(aR (ag (af 0) (ag (aR (ag aj (ag (dI ah) ah))) ah)))⟩)));apply ao;exact(aG fg (ak 3 aae.nd));apply ao;exact(yX FU (cO (af 3)) (ao (aG fg (ak 3 aae.nd)) (au (bN rfl (fX B.b_enumerate (ag (af 0) ah)) (eK rfl (aQ (ak 4 aae.nd) (aQ (ak 5 aae.nd) dz))) (by(apply ao;exact(aG (jk 2 (xN (lh hr) (af 2) (aK (af 5) aj))) (ak 6 aae.nd));apply ao;exact(bO (lz (kZ (bh jq (af 6) bc) (iP (gA (FG 2 (cO (aN aaZ hr (ag (af 2) (ag (af 5) (ag (af 6) ah)))))))))) (au FH) bq);apply ao;exact(aG (ay aW (aK (af 6) aj) (dI (ag (af 4) ah))) (ak 7 aae.nd));apply ao;exact(wz 8 (N':=["step","limits"]) (src:=[none,some 0]) rfl (LcScope.by (N:=mI) (names:=(aq j0).names) rfl rfl rfl (by decide+kernel)) (bZ (af 7)) (λ_ _ _ _ _=>⟨(ak 0 (show Mo (["step","limits"]:List Str)by decide+kernel)),cg,(aK (aK (af 1) (af 0)) aj)⟩) aae.nd);apply ao;exact(bO (bh (Jl (JS hr)) (aK (af 5) aj) (af 8)) (au (aB (aR (ag bc (ag (jz (af 7) (jx (yZ (JS hr) (af 8) (aK (af 5) aj))) jy) ah))))) bq);apply ao;exact(CY 2 (lh hr) (aK (af 5) aj) (aR (ag (ay aW (aK (af 6) aj) (aK (af 5) aj)) (ag (af 7) ah))));exact au (aG fg (ak 3 aae.nd))))))));exact au (gB 2 (aB (aR (ag (af 2) (ag bc ah)))))))
abbrev fo:Stmt:=top 39
abbrev hZ:List Str:=["record","limits","places","best"]
theorem aas:aE hZ ["record","limits"] (aq fo):=gx
theorem lP (F:gz K mg "greatest_world" fo ["record","limits"])(aac:Cl P w K mg base 8 "events" 1 dY)(aaE:Cl P w K mg base 2 "settle" 2 f9)(B:Bl mg):Cl P w K mg base 9 "greatest_world" 2 bA:=
 br F aas rfl λf c A o s H E hr x=>(by(apply ao;exact(aG (aN aac hr (ag (af 0) ah)) (ak 2 aas.nd));apply ao;exact(aG (aK (aN aaE hr (ag (af 1) (ag (af 2) ah))) aj) (ak 3 aas.nd));apply ao;exact(bO (bh jq (af 3) bc) (au (aB bc)) bq);exact au (aB (qX jT B.b_tuple dH (ag (gu (N':=["event","best"]) (src:=[none,some 3]) rfl (LcScope.by (N:=hZ) (names:=(aq fo).names) rfl rfl rfl (by decide+kernel)) (bZ (af 2)) (λ_ _ _ _ _=>⟨(ak 0 (show Mo (["event","best"]:List Str)by decide+kernel)),cg,(aK (cv (lh hr) (af 1) (af 0)) aj)⟩)) ah)))))
abbrev gL:Stmt:=top 32
abbrev k9:List Str:=["number","clock","readings","told","k","first","second","steps"]
theorem aa8:aE k9 ["number","clock"] (aq gL):=gx
theorem k7 (F:gz K mg "bounds_of_clock" gL ["number","clock"])(B:Bl mg):Cl P w K mg base 1 "bounds_of_clock" 2 cT:=
 br F aa8 rfl λf c A o s H E hr x=>(by(apply ao;exact(aG (aK (af 1) aj) (ak 2 aa8.nd));apply ao;exact(fW 3 aa8.nd ah);apply ao;exact(bN rfl (bP B.b_range (ag (ay fN (dM dv B.b_len NK (ag (af 2) ah)) aj) ah)) (ak 4 aa8.nd) (by(apply ao;exact(aG (aR (ag (af 0) (ag (af 4) ah))) (ak 5 aa8.nd));apply ao;exact(aG (aR (ag (af 0) (ag (ay aW (af 4) aj) ah))) (ak 6 aa8.nd));apply ao;exact(aG (ay fN (aK (af 2) (ay aW (af 4) aj)) (aK (af 2) (af 4))) (ak 7 aa8.nd));apply ao;exact(gC 3 (aR (ag (af 5) (ag (af 6) (ag (ay cR (af 7) (aK (af 1) aj)) ah)))));exact au (gC 3 (aR (ag (af 6) (ag (af 5) (ag (ay cR (ox (af 7)) (aK (af 1) aj)) ah))))))));exact au (gB 3 (aB (af 3)))))
abbrev gv:Stmt:=top 33
abbrev kC:List Str:=["letter","told"]
theorem aaC:aE kC ["letter"] (aq gv):=gx
theorem kB (F:gz K mg "bounds_of_letter" gv ["letter"]):Cl P w K mg base 1 "bounds_of_letter" 1 cH:=
 br F aaC rfl λf c A o s H E hr x=>(by(apply ao;exact(fW 1 aaC.nd (ag (aR (ag (aK (af 0) aj) (ag (aK (af 0) aj) (ag (ox (aK (af 0) aj)) ah)))) ah));apply ao;exact(bO (bh dA (aK (af 0) aj) bc) (au (gC 1 (aR (ag (aK (af 0) aj) (ag (aK (af 0) aj) (ag (aK (af 0) aj) ah)))))) bq);exact au (gB 1 (aB (af 1)))))
abbrev rj:Stmt:=top 34
abbrev zr:List Str:=["record","told","number","clock","letter"]
theorem aaF:aE zr ["record"] (aq rj):=gx
theorem zo (F:gz K mg "bounds" rj ["record"])(aa6:Cl P w K mg base 7 "need_record" 1 bH)(aat:Cl P w K mg base 1 "bounds_of_clock" 2 cT)(aar:Cl P w K mg base 1 "bounds_of_letter" 1 cH)(B:Bl mg):Cl P w K mg base 8 "bounds" 1 dZ:=
 br F aaF rfl λf c A o s H E hr x=>(by(apply ao;exact(eC (aN aa6 hr (ag (af 0) ah)));apply ao;exact(fW 1 aaF.nd ah);apply ao;exact(bN rfl (fX B.b_enumerate (ag (aK (af 0) aj) ah)) (eK rfl (aQ (ak 2 aaF.nd) (aQ (ak 3 aaF.nd) dz))) (au (sg 1 (aN aat hr (ag (af 2) (ag (af 3) ah))))));apply ao;exact(bN rfl (bZ (aK (af 0) aj)) (ak 4 aaF.nd) (au (sg 1 (aN aar hr (ag (af 4) ah)))));exact au (gB 1 (aB (af 1)))))
abbrev uO:Stmt:=top 40
abbrev Bt:List Str:=["record"]
theorem AG:aE Bt ["record"] (aq uO):=gx
theorem Bm (F:gz K mg "world" uO ["record"])(aab:Cl P w K mg base 9 "greatest_world" 2 bA)(aap:Cl P w K mg base 8 "bounds" 1 dZ):Cl P w K mg base 10 "world" 1 i5:=
 br F AG rfl λf c A o s H E hr x=>(au (aB (aN aab hr (ag (af 0) (ag (aN aap hr (ag (af 0) ah)) ah)))))
abbrev lH:Stmt:=top 41
abbrev tN:List Str:=["record"]
theorem sJ:aE tN ["record"] (aq lH):=gx
theorem tw (F:gz K mg "has_world" lH ["record"])(abc:Cl P w K mg base 10 "world" 1 i5):Cl P w K mg base 11 "has_world" 1 gc:=
 br F sJ rfl λf c A o s H E hr x=>(au (aB (cj dA (aN abc hr (ag (af 0) ah)) bc)))
abbrev kK:Stmt:=top 42
abbrev qM:List Str:=["record"]
theorem qu:aE qM ["record"] (aq kK):=gx
theorem qC (F:gz K mg "need_world" kK ["record"])(ab0:Cl P w K mg base 11 "has_world" 1 gc){C_NoRecord C_NoEvent C_NoNumber C_NoWorld C_Barred C_Nothing C_ClockError:Addr}(S:Xs K mg C_NoRecord C_NoEvent C_NoNumber C_NoWorld C_Barred C_Nothing C_ClockError):Cl P w K mg base 12 "need_world" 1 b8:=
 br F qu rfl λf c A o s H E hr x=>(au (bO (gA (cO (aN ab0 hr (ag (af 0) ah)))) (au (mq S.o_NoWorld S.m_NoWorld)) bq))
abbrev kI:Stmt:=top 45
abbrev qK:List Str:=["record","one"]
theorem qt:aE qK ["record","one"] (aq kI):=gx
theorem qA (F:gz K mg "walks_from" kI ["record","one"])(aaE:Cl P w K mg base 2 "settle" 2 f9)(aap:Cl P w K mg base 8 "bounds" 1 dZ):Cl P w K mg base 9 "walks_from" 2 dm:=
 br F qt rfl λf c A o s H E hr x=>(au (aB (aK (aN aaE hr (ag (aN aap hr (ag (af 0) ah)) (ag (dI (ag (af 1) ah)) ah))) aj)))
abbrev oH:Stmt:=top 46
abbrev xg:List Str:=["walks","other"]
theorem wQ:aE xg ["walks","other"] (aq oH):=gx
theorem w8 (F:gz K mg "most_of" oH ["walks","other"]):Cl P w K mg base 1 "most_of" 2 eX:=
 br F wQ rfl λf c A o s H E hr x=>(au (aB (m6 (bh (GU (lh hr)) (af 1) (af 0)) (aK (cv (lh hr) (af 0) (af 1)) aj) bc)))
abbrev jE:Stmt:=top 49
abbrev nt:List Str:=["record","places","told","one","walks"]
theorem aav:aE nt ["record"] (aq jE):=gx
theorem vq (F:gz K mg "all_most" jE ["record"])(aal:Cl P w K mg base 12 "need_world" 1 b8)(aac:Cl P w K mg base 8 "events" 1 dY)(aam:Cl P w K mg base 9 "walks_from" 2 dm)(aax:Cl P w K mg base 1 "most_of" 2 eX)(B:Bl mg):Cl P w K mg base 13 "all_most" 1 gU:=
 br F aav rfl λf c A o s H E hr x=>(by(apply ao;exact(eC (aN aal hr (ag (af 0) ah)));apply ao;exact(aG (aN aac hr (ag (af 0) ah)) (ak 1 aav.nd));apply ao;exact(fW 2 aav.nd ah);apply ao;exact(bN rfl (bZ (af 1)) (ak 3 aav.nd) (ao (aG (aN aam hr (ag (af 0) (ag (af 3) ah))) (ak 4 aav.nd)) (au (gC 2 (qX jT B.b_tuple dH (ag (gu (N':=["other","walks"]) (src:=[none,some 4]) rfl (LcScope.by (N:=nt) (names:=(aq jE).names) rfl rfl rfl (by decide+kernel)) (bZ (af 1)) (λ_ _ _ _ _=>⟨(ak 0 (show Mo (["other","walks"]:List Str)by decide+kernel)),cg,(aN aax hr (ag (af 1) (ag (af 0) ah)))⟩)) ah))))));exact au (aB (jk 2 (qX jT B.b_tuple dH (ag (af 2) ah))))))
abbrev kJ:Stmt:=top 55
abbrev qL:List Str:=["record","most","places","told","k","one","j","other"]
theorem aaa:aE qL ["record"] (aq kJ):=gx
theorem qB (F:gz K mg "sure_pairs" kJ ["record"])(ab6:Cl P w K mg base 13 "all_most" 1 gU)(aac:Cl P w K mg base 8 "events" 1 dY)(B:Bl mg):Cl P w K mg base 14 "sure_pairs" 1 cS:=
 br F aaa rfl λf c A o s H E hr x=>(by(apply ao;exact(aG (aN ab6 hr (ag (af 0) ah)) (ak 1 aaa.nd));apply ao;exact(aG (aN aac hr (ag (af 0) ah)) (ak 2 aaa.nd));apply ao;exact(fW 3 aaa.nd ah);apply ao;exact(bN rfl (fX B.b_enumerate (ag (af 2) ah)) (eK rfl (aQ (ak 4 aaa.nd) (aQ (ak 5 aaa.nd) dz))) (au (bN rfl (fX B.b_enumerate (ag (af 2) ah)) (eK rfl (aQ (ak 6 aaa.nd) (aQ (ak 7 aaa.nd) dz))) (au (bO (lz (xM (bh dA (aK (aK (af 1) (af 6)) (af 4)) bc) (uE (bh kO (aK (aK (af 1) (af 6)) (af 4)) aj)))) (au (gC 3 (aR (ag (af 5) (ag (af 7) ah))))) bq)))));exact au (gB 3 (aB (af 3)))))
abbrev kL:Stmt:=top 29
abbrev qN:List Str:=["record","thing"]
theorem qv:aE qN ["record","thing"] (aq kL):=gx
theorem qD (F:gz K mg "need_event" kL ["record","thing"])(aao:Cl P w K mg base 3 "is_event" 2 cW){C_NoRecord C_NoEvent C_NoNumber C_NoWorld C_Barred C_Nothing C_ClockError:Addr}(S:Xs K mg C_NoRecord C_NoEvent C_NoNumber C_NoWorld C_Barred C_Nothing C_ClockError):Cl P w K mg base 4 "need_event" 2 cw:=
 br F qv rfl λf c A o s H E hr x=>(au (bO (gA (cO (aN aao hr (ag (aK (af 0) aj) (ag (af 1) ah))))) (au (mq S.o_NoEvent S.m_NoEvent)) bq))
abbrev iq:Stmt:=top 56
abbrev kP:List Str:=["record","order","event","rising"]
theorem aaH:aE kP ["record","order"] (aq iq):=gx
theorem qE (F:gz K mg "fits_order" iq ["record","order"])(aa6:Cl P w K mg base 7 "need_record" 1 bH)(aai:Cl P w K mg base 4 "need_event" 2 cw)(aac:Cl P w K mg base 8 "events" 1 dY)(aab:Cl P w K mg base 9 "greatest_world" 2 bA)(aap:Cl P w K mg base 8 "bounds" 1 dZ)(B:Bl mg):Cl P w K mg base 10 "fits_order" 2 bQ:=
 br F aaH rfl λf c A o s H E hr x=>(by(apply ao;exact(eC (aN aa6 hr (ag (af 0) ah)));apply ao;exact(bN rfl (bZ (af 1)) (ak 2 aaH.nd) (au (eC (aN aai hr (ag (af 0) (ag (af 2) ah))))));apply ao;exact(bO (bh (lO (kD hr)) (dM zY B.b_sorted boot_sorted (ag (af 1) ah)) (aN aac hr (ag (af 0) ah))) (au (aB fg)) bq);apply ao;exact(wz 3 (N':=["k","order"]) (src:=[none,some 1]) rfl (LcScope.by (N:=kP) (names:=(aq iq).names) rfl rfl rfl (by decide+kernel)) (bP B.b_range (ag (ay fN (dM dv B.b_len NK (ag (af 1) ah)) aj) ah)) (λ_ _ _ _ _=>⟨(ak 0 (show Mo (["k","order"]:List Str)by decide+kernel)),cg,(aR (ag (aK (af 1) (ay aW (af 0) aj)) (ag (aK (af 1) (af 0)) (ag aj ah))))⟩) aaH.nd);exact au (aB (cj dA (aN aab hr (ag (af 0) (ag (ay aW (aN aap hr (ag (af 0) ah)) (af 3)) ah))) bc))))
abbrev jC:Stmt:=top 44
abbrev pz:List Str:=["record","one","other"]
theorem oP:aE pz ["record","one","other"] (aq jC):=gx
theorem o4 (F:gz K mg "need_events" jC ["record","one","other"])(aa6:Cl P w K mg base 7 "need_record" 1 bH)(aai:Cl P w K mg base 4 "need_event" 2 cw):Cl P w K mg base 8 "need_events" 3 b9:=
 br F oP rfl λf c A o s H E hr x=>(by(apply ao;exact(eC (aN aa6 hr (ag (af 0) ah)));apply ao;exact(eC (aN aai hr (ag (af 0) (ag (af 1) ah))));exact au (eC (aN aai hr (ag (af 0) (ag (af 2) ah))))))
abbrev jn:Stmt:=top 47
abbrev nL:List Str:=["record","one","other"]
theorem nF:aE nL ["record","one","other"] (aq jn):=gx
theorem nI (F:gz K mg "most_between" jn ["record","one","other"])(aaI:Cl P w K mg base 8 "need_events" 3 b9)(aal:Cl P w K mg base 12 "need_world" 1 b8)(aax:Cl P w K mg base 1 "most_of" 2 eX)(aam:Cl P w K mg base 9 "walks_from" 2 dm):Cl P w K mg base 13 "most_between" 3 aP:=
 br F nF rfl λf c A o s H E hr x=>(by(apply ao;exact(eC (aN aaI hr (ag (af 0) (ag (af 1) (ag (af 2) ah)))));apply ao;exact(eC (aN aal hr (ag (af 0) ah)));exact au (aB (aN aax hr (ag (aN aam hr (ag (af 0) (ag (af 1) ah))) (ag (af 2) ah))))))
abbrev iG:Stmt:=top 48
abbrev mK:List Str:=["record","one","other","most"]
theorem aaQ:aE mK ["record","one","other"] (aq iG):=gx
theorem mE (F:gz K mg "least_between" iG ["record","one","other"])(aaf:Cl P w K mg base 13 "most_between" 3 aP):Cl P w K mg base 14 "least_between" 3 dB:=
 br F aaQ rfl λf c A o s H E hr x=>(ao (aG (aN aaf hr (ag (af 0) (ag (af 2) (ag (af 1) ah)))) (ak 3 aaQ.nd)) (au (aB (m6 (bh jq (af 3) bc) bc (ox (af 3))))))
abbrev jm:Stmt:=top 51
abbrev nK:List Str:=["record","one","other","least"]
theorem aaW:aE nK ["record","one","other"] (aq jm):=gx
theorem nH (F:gz K mg "surely_ahead" jm ["record","one","other"])(aay:Cl P w K mg base 14 "least_between" 3 dB):Cl P w K mg base 15 "surely_ahead" 3 aX:=
 br F aaW rfl λf c A o s H E hr x=>(ao (aG (aN aay hr (ag (af 0) (ag (af 1) (ag (af 2) ah)))) (ak 3 aaW.nd)) (au (aB (da (cj dA (af 3) bc) (cP (cj vk (af 3) aj))))))
abbrev jD:Stmt:=top 52
abbrev pA:List Str:=["record","one","other","most"]
theorem ab2:aE pA ["record","one","other"] (aq jD):=gx
theorem o5 (F:gz K mg "maybe_ahead" jD ["record","one","other"])(aaf:Cl P w K mg base 13 "most_between" 3 aP):Cl P w K mg base 14 "maybe_ahead" 3 bw:=
 br F ab2 rfl λf c A o s H E hr x=>(ao (aG (aN aaf hr (ag (af 0) (ag (af 1) (ag (af 2) ah)))) (ak 3 ab2.nd)) (au (aB (oq (cj jq (af 3) bc) (cP (cj vk (af 3) aj))))))
abbrev iF:Stmt:=top 53
abbrev mJ:List Str:=["record","one","other"]
theorem mw:aE mJ ["record","one","other"] (aq iF):=gx
theorem mC (F:gz K mg "maybe_at_once" iF ["record","one","other"])(aa7:Cl P w K mg base 15 "surely_ahead" 3 aX):Cl P w K mg base 16 "maybe_at_once" 3 bK:=
 br F mw rfl λf c A o s H E hr x=>(au (aB (da (ou (aN aa7 hr (ag (af 0) (ag (af 1) (ag (af 2) ah))))) (cP (ou (aN aa7 hr (ag (af 0) (ag (af 2) (ag (af 1) ah)))))))))
abbrev oF:Stmt:=top 54
abbrev xf:List Str:=["record","one","other"]
theorem wO:aE xf ["record","one","other"] (aq oF):=gx
theorem w6 (F:gz K mg "verdict" oF ["record","one","other"])(aa7:Cl P w K mg base 15 "surely_ahead" 3 aX)(aad:Cl P w K mg base 14 "maybe_ahead" 3 bw):Cl P w K mg base 16 "verdict" 3 ee:=
 br F wO rfl λf c A o s H E hr x=>(by(apply ao;exact(bO (cO (aN aa7 hr (ag (af 0) (ag (af 1) (ag (af 2) ah))))) (au (aB ff)) bq);apply ao;exact(bO (cO (aN aa7 hr (ag (af 0) (ag (af 2) (ag (af 1) ah))))) (au (aB ff)) bq);apply ao;exact(bO (lz (kZ (cO (aN aad hr (ag (af 0) (ag (af 1) (ag (af 2) ah))))) (iP (cO (aN aad hr (ag (af 0) (ag (af 2) (ag (af 1) ah)))))))) (au (aB ff)) bq);exact au (aB ff)))
abbrev lI:Stmt:=top 67
abbrev tO:List Str:=["_law_what","_law_record_here","_law_one","_law_other","_law_e"]
theorem ab9:aE tO ["_law_what","_law_record_here","_law_one","_law_other"] (aq lI):=gx
theorem tD (F:gz K mg "_law_told" lI ["_law_what","_law_record_here","_law_one","_law_other"])(aaR:Cl P w K mg base 14 "sure_pairs" 1 cS)(aaS:Cl P w K mg base 10 "fits_order" 2 bQ)(aa7:Cl P w K mg base 15 "surely_ahead" 3 aX)(aad:Cl P w K mg base 14 "maybe_ahead" 3 bw)(aaz:Cl P w K mg base 16 "maybe_at_once" 3 bK)(aba:Cl P w K mg base 16 "verdict" 3 ee)(B:Bl mg){C_NoRecord C_NoEvent C_NoNumber C_NoWorld C_Barred C_Nothing C_ClockError:Addr}(S:Xs K mg C_NoRecord C_NoEvent C_NoNumber C_NoWorld C_Barred C_Nothing C_ClockError){f_r:Addr}{fd_r:MP}(aaA:Fn K mg "_law_refused" cq ["_law_e"] f_r fd_r):Cl P w K mg base 17 "_law_told" 4 aF:=
 br F ab9 rfl λf c A o s H E hr x=>(au (CW 4 ab9.nd S.m_ClockError S.o_ClockError (λ_ _=>(ao (bO (bh kO (af 0) aj) (au (aB (C1 (Dg aa7 hr (Dg aad hr (Dg aaz hr (Dg aba hr selN)))) (af 0) (ag (af 1) (ag (af 2) (ag (af 3) ah)))))) bq) (au (aB (m6 (bh (oY (kD hr)) (af 0) aj) (aN aaR hr (ag (af 1) ah)) (aN aaS hr (ag (af 1) (ag (af 2) ah)))))))) (Az rfl (MR rfl) aaA S B.b_isinstance B.b_ValueError (IC hr)) (hcl:=λ_ _ z=>by cases z)))
theorem kF {X:Cx}{j1 j2 j3 j4 j5 j6 j7 j8 j9:Nat}{p1 p2 p3 p4 p5 p6 p7 p8 p9:Pos}:QE X (.Tuple [(.Tuple [(.Tuple [(.Constant (.int 1) j1 p1),(.Constant (.int 1) j2 p2),(.Tuple [(.Constant (.int 0) j3 p3),(.Constant (.int 1) j4 p4)] j5 p5)] j6 p6)] j7 p7),(.Tuple [] j8 p8)] j9 p9) (aO (ae (aO (ae (aO (ae (cn (.int 1)) (ae (cn (.int 1)) (ae (aO (ae (cn (.int 0)) (ae (cn (.int 1)) ai))) ai)))) ai)) (ae (aO ai) ai))):=by
 refine @aR X _ _ _ _ ?_
 refine @ag X _ _ _ _ ?_ ?_ rfl
 ·refine @aR X _ _ _ _ ?_
  refine @ag X _ _ _ _ ?_ ?_ rfl
  ·refine @aR X _ _ _ _ ?_
   refine @ag X _ _ _ _ ?_ ?_ rfl
   ·exact aj
   refine @ag X _ _ _ _ ?_ ?_ rfl
   ·exact aj
   refine @ag X _ _ _ _ ?_ ?_ rfl
   ·refine @aR X _ _ _ _ ?_
    refine @ag X _ _ _ _ ?_ ?_ rfl
    ·exact aj
    refine @ag X _ _ _ _ ?_ ?_ rfl
    ·exact aj
    exact ah
   exact ah
  exact ah
 refine @ag X _ _ _ _ ?_ ?_ rfl
 ·refine @aR X _ _ _ _ ?_
  exact ah
 exact ah
theorem kE {X:Cx}{j1 j2 j3 j4 j5 j6 j7 j8 j9 j10 j11:Nat}{p1 p2 p3 p4 p5 p6 p7 p8 p9 p10 p11 p12 p13:Pos}:QE X (.List [(.Constant (.bool true) j1 p1),(.Constant (.bool true) j2 p2),(.Constant (.bool false) j3 p3),(.Constant (.str "ahead") j4 p4),(.List [(.Tuple [(.Tuple [(.Constant (.int 0) j5 p5),(.Constant (.int 0) j6 p6)] j7 p7),(.Tuple [(.Constant (.int 0) j8 p8),(.Constant (.int 1) j9 p9)] j10 p10)] j11 p11)] p12)] p13) (dD (ae (cn (.bl true)) (ae (cn (.bl true)) (ae (cn (.bl false)) (ae (cn (.str "ahead")) (ae (dD (ae (aO (ae (aO (ae (cn (.int 0)) (ae (cn (.int 0)) ai))) (ae (aO (ae (cn (.int 0)) (ae (cn (.int 1)) ai))) ai))) ai)) ai)))))):=by
 refine @dI X _ _ _ ?_
 refine @ag X _ _ _ _ ?_ ?_ rfl
 ·exact fg
 refine @ag X _ _ _ _ ?_ ?_ rfl
 ·exact fg
 refine @ag X _ _ _ _ ?_ ?_ rfl
 ·exact fg
 refine @ag X _ _ _ _ ?_ ?_ rfl
 ·exact ff
 refine @ag X _ _ _ _ ?_ ?_ rfl
 ·refine @dI X _ _ _ ?_
  refine @ag X _ _ _ _ ?_ ?_ rfl
  ·refine @aR X _ _ _ _ ?_
   refine @ag X _ _ _ _ ?_ ?_ rfl
   ·refine @aR X _ _ _ _ ?_
    refine @ag X _ _ _ _ ?_ ?_ rfl
    ·exact aj
    refine @ag X _ _ _ _ ?_ ?_ rfl
    ·exact aj
    exact ah
   refine @ag X _ _ _ _ ?_ ?_ rfl
   ·refine @aR X _ _ _ _ ?_
    refine @ag X _ _ _ _ ?_ ?_ rfl
    ·exact aj
    refine @ag X _ _ _ _ ?_ ?_ rfl
    ·exact aj
    exact ah
   exact ah
  exact ah
 exact ah
abbrev ft:Stmt:=top 69
abbrev ie:List Str:=["_law_known","_law_told_here"]
theorem aau:aE ie [] (aq ft):=gx
theorem lQ (F:gz K mg "_law_known_one" ft [])(aa5:Cl P w K mg base 17 "_law_told" 4 aF)(B:Bl mg):Cl P w K mg base 18 "_law_known_one" 0 df:=
 br F aau rfl λf c A o s H E hr x=>(by(apply ao;exact(aG kF (ak 0 aau.nd));apply ao;exact(aG (ay aW (gu (N':=["_law_what","_law_known"]) (src:=[none,some 0]) rfl (LcScope.by (N:=ie) (names:=(aq ft).names) rfl rfl rfl (by decide+kernel)) (bP B.b_range (ag aj ah)) (λ_ _ _ _ _=>⟨(ak 0 (show Mo (["_law_what","_law_known"]:List Str)by decide+kernel)),cg,(aN aa5 hr (ag (af 0) (ag (af 1) (ag (aR (ag aj (ag aj ah))) (ag (aR (ag aj (ag aj ah))) ah)))))⟩)) (dI (ag (aN aa5 hr (ag aj (ag (af 0) (ag bc (ag bc ah))))) ah))) (ak 1 aau.nd));exact au (aB (cj (oY (kD hr)) (af 1) kE))))
abbrev lJ:Stmt:=top 58
abbrev tQ:List Str:=["_law_script","_law_k"]
theorem sL:aE tQ ["_law_script","_law_k"] (aq lJ):=gx
theorem tE (F:gz K mg "_law_cell" lJ ["_law_script","_law_k"])(B:Bl mg):Cl P w K mg base 1 "_law_cell" 2 gd:=
 br F sL rfl λf c A o s H E hr x=>(ao (bO (bh (oY (kD hr)) (af 0) (dI ah)) (au (aB (ay cR aj (af 1)))) bq) (au (aB (ay aW (aK (af 0) (ay k6 (af 1) (dM dv B.b_len NK (ag (af 0) ah)))) (ay cR aj (ay nY (af 1) (dM dv B.b_len NK (ag (af 0) ah))))))))
abbrev kM:Stmt:=top 59
abbrev qO:List Str:=["_law_script","_law_k","_law_many","_law_cell_here"]
theorem aaJ:aE qO ["_law_script","_law_k","_law_many"] (aq kM):=gx
theorem qH (F:gz K mg "_law_drawn" kM ["_law_script","_law_k","_law_many"])(ab1:Cl P w K mg base 1 "_law_cell" 2 gd):Cl P w K mg base 2 "_law_drawn" 3 aA:=
 br F aaJ rfl λf c A o s H E hr x=>(by(apply ao;exact(aG (ay k6 (ay aW (ay cR (ay k6 (aN ab1 hr (ag (af 0) (ag (af 1) ah))) aj) aj) (ay cR aj (ay aW (af 1) aj))) aj) (ak 3 aaJ.nd));apply ao;exact(aG (ay k6 (ay aW (ay cR (af 3) (af 3)) (ay nY (af 3) aj)) aj) (ak 3 aaJ.nd));exact au (aB (ay k6 (ay nY (ay k6 (ay aW (ay cR (af 3) (af 3)) (ay nY (af 3) aj)) aj) aj) (af 2)))))
abbrev gP:Stmt:=top 62
abbrev jL:List Str:=["_law_clocks","_law_found","_law_number","_law_clock_here"]
theorem aan:aE jL ["_law_clocks"] (aq gP):=gx
theorem pd (F:gz K mg "_law_events" gP ["_law_clocks"])(B:Bl mg):Cl P w K mg base 1 "_law_events" 1 cX:=
 br F aan rfl λf c A o s H E hr x=>(by(apply ao;exact(aG (dI ah) (ak 1 aan.nd));apply ao;exact(bN rfl (fX B.b_enumerate (ag (af 0) ah)) (eK rfl (aQ (ak 2 aan.nd) (aQ (ak 3 aan.nd) dz))) (au (aG (ay aW (af 1) (gu (N':=["_law_place","_law_number"]) (src:=[none,some 2]) rfl (LcScope.by (N:=jL) (names:=(aq gP).names) rfl rfl rfl (by decide+kernel)) (bP B.b_range (ag (dM dv B.b_len NK (ag (aK (af 3) aj) ah)) ah)) (λ_ _ _ _ _=>⟨(ak 0 (show Mo (["_law_place","_law_number"]:List Str)by decide+kernel)),cg,(aR (ag (af 1) (ag (af 0) ah)))⟩))) (ak 1 aan.nd))));exact au (aB (af 1))))
abbrev jF:Stmt:=top 61
abbrev pB:List Str:=["_law_script","_law_at","_law_clocks","_law_row","_law_place","_law_other","_law_least","_law_most"]
theorem aag:aE pB ["_law_script","_law_at","_law_clocks"] (aq jF):=gx
theorem o9 (F:gz K mg "_law_letter" jF ["_law_script","_law_at","_law_clocks"])(aaj:Cl P w K mg base 1 "_law_events" 1 cX)(aa0:Cl P w K mg base 2 "_law_drawn" 3 aA)(B:Bl mg):Cl P w K mg base 3 "_law_letter" 3 dG:=
 br F aag rfl λf c A o s H E hr x=>(by(apply ao;exact(aG (aN aaj hr (ag (af 2) ah)) (ak 3 aag.nd));apply ao;exact(bO (bh kO (dM dv B.b_len NK (ag (af 3) ah)) aj) (au (aB bc)) bq);apply ao;exact(aG (aN aa0 hr (ag (af 0) (ag (af 1) (ag (dM dv B.b_len NK (ag (af 3) ah)) ah)))) (ak 4 aag.nd));apply ao;exact(aG (ay k6 (ay aW (ay aW (af 4) aj) (aN aa0 hr (ag (af 0) (ag (ay aW (af 1) aj) (ag (ay fN (dM dv B.b_len NK (ag (af 3) ah)) aj) ah))))) (dM dv B.b_len NK (ag (af 3) ah))) (ak 5 aag.nd));apply ao;exact(aG (aN aa0 hr (ag (af 0) (ag (ay aW (af 1) aj) (ag aj ah)))) (ak 6 aag.nd));apply ao;exact(aG (m6 (bh (oY (kD hr)) (aN aa0 hr (ag (af 0) (ag (ay aW (af 1) aj) (ag aj ah)))) aj) bc (ay aW (af 6) (aN aa0 hr (ag (af 0) (ag (ay aW (af 1) aj) (ag aj ah)))))) (ak 7 aag.nd));exact au (aB (aR (ag (aK (af 3) (af 4)) (ag (aK (af 3) (af 5)) (ag (af 6) (ag (af 7) ah))))))))
abbrev kN:Stmt:=top 60
abbrev qP:List Str:=["_law_script","_law_at","_law_slow","_law_readings","_law_k"]
theorem aaq:aE qP ["_law_script","_law_at"] (aq kN):=gx
theorem qI (F:gz K mg "_law_clock" kN ["_law_script","_law_at"])(aa0:Cl P w K mg base 2 "_law_drawn" 3 aA)(B:Bl mg):Cl P w K mg base 3 "_law_clock" 2 cU:=
 br F aaq rfl λf c A o s H E hr x=>(by(apply ao;exact(aG (ay aW aj (aN aa0 hr (ag (af 0) (ag (af 1) (ag aj ah))))) (ak 2 aaq.nd));apply ao;exact(aG (aR (ag (aN aa0 hr (ag (af 0) (ag (ay aW (af 1) aj) (ag aj ah)))) ah)) (ak 3 aaq.nd));apply ao;exact(bN rfl (bP B.b_range (ag (aN aa0 hr (ag (af 0) (ag (ay aW (af 1) aj) (ag aj ah)))) ah)) (ak 4 aaq.nd) (au (aG (ay aW (af 3) (aR (ag (ay aW (ay aW (aK (af 3) (ox aj)) aj) (aN aa0 hr (ag (af 0) (ag (ay aW (ay aW (af 1) aj) (af 4)) (ag aj ah))))) ah))) (ak 3 aaq.nd))));exact au (aB (aR (ag (af 2) (ag (ay aW (af 2) (aN aa0 hr (ag (af 0) (ag (ay aW (af 1) aj) (ag aj ah))))) (ag (af 3) ah)))))))
abbrev gO:Stmt:=top 63
abbrev jK:List Str:=["_law_script","_law_at","_law_most","_law_clocks","_law_letters","_law_k","_law_letter_here"]
theorem aah:aE jK ["_law_script","_law_at","_law_most"] (aq gO):=gx
theorem o8 (F:gz K mg "_law_record" gO ["_law_script","_law_at","_law_most"])(aa0:Cl P w K mg base 2 "_law_drawn" 3 aA)(aaK:Cl P w K mg base 3 "_law_letter" 3 dG)(aaT:Cl P w K mg base 3 "_law_clock" 2 cU)(B:Bl mg):Cl P w K mg base 4 "_law_record" 3 fT:=
 br F aah rfl λf c A o s H E hr x=>(by(apply ao;exact(aG (qX jT B.b_tuple dH (ag (gu (N':=["_law_k","_law_script","_law_at"]) (src:=[none,some 0,some 1]) rfl (LcScope.by (N:=jK) (names:=(aq gO).names) rfl rfl rfl (by decide+kernel)) (bP B.b_range (ag (ay aW aj (aN aa0 hr (ag (af 0) (ag (af 1) (ag aj ah))))) ah)) (λ_ _ _ _ _=>⟨(ak 0 (show Mo (["_law_k","_law_script","_law_at"]:List Str)by decide+kernel)),cg,(aN aaT hr (ag (af 1) (ag (ay aW (ay aW (af 2) aj) (ay cR aj (af 0))) ah)))⟩)) ah)) (ak 3 aah.nd));apply ao;exact(aG (dI ah) (ak 4 aah.nd));apply ao;exact(bN rfl (bP B.b_range (ag (aN aa0 hr (ag (af 0) (ag (ay aW (af 1) aj) (ag (ay aW (af 2) aj) ah)))) ah)) (ak 5 aah.nd) (ao (aG (aN aaK hr (ag (af 0) (ag (ay aW (ay aW (af 1) aj) (ay cR aj (af 5))) (ag (af 3) ah)))) (ak 6 aah.nd)) (au (aG (ay aW (af 4) (ay cR (dI (ag (af 6) ah)) (qX HS B.b_int nE (ag (cj dA (af 6) bc) ah)))) (ak 4 aah.nd)))));exact au (aB (aR (ag (af 3) (ag (qX jT B.b_tuple dH (ag (af 4) ah)) ah))))))
abbrev jG:Stmt:=top 64
abbrev pC:List Str:=["_law_record_here","_law_found","_law_number","_law_slow","_law_fast","_law_readings","_law_k","_law_steps","_law_one","_law_other","_law_least","_law_most"]
theorem aa3:aE pC ["_law_record_here"] (aq jG):=gx
theorem pe (F:gz K mg "_law_bounds" jG ["_law_record_here"])(B:Bl mg):Cl P w K mg base 1 "_law_bounds" 1 fU:=
 br F aa3 rfl λf c A o s H E hr x=>(by(apply ao;exact(fW 1 aa3.nd ah);apply ao;exact(bN rfl (fX B.b_enumerate (ag (aK (af 0) aj) ah)) (eK rfl (aQ (ak 2 aa3.nd) (aQ (eK rfl (aQ (ak 3 aa3.nd) (aQ (ak 4 aa3.nd) (aQ (ak 5 aa3.nd) dz)))) dz))) (au (bN rfl (wA B.b_range (ag aj (ag (dM dv B.b_len NK (ag (af 5) ah)) ah))) (ak 6 aa3.nd) (by(apply ao;exact(aG (ay fN (aK (af 5) (af 6)) (aK (af 5) (ay fN (af 6) aj))) (ak 7 aa3.nd));apply ao;exact(gC 1 (aR (ag (aR (ag (af 2) (ag (ay fN (af 6) aj) ah))) (ag (aR (ag (af 2) (ag (af 6) ah))) (ag (ay cR (af 4) (af 7)) ah)))));exact au (gC 1 (aR (ag (aR (ag (af 2) (ag (af 6) ah))) (ag (aR (ag (af 2) (ag (ay fN (af 6) aj) ah))) (ag (ay fN aj (ay cR (af 3) (af 7))) ah))))))))));apply ao;exact(bN rfl (bZ (aK (af 0) aj)) (eK rfl (aQ (ak 8 aa3.nd) (aQ (ak 9 aa3.nd) (aQ (ak 10 aa3.nd) (aQ (ak 11 aa3.nd) dz))))) (ao (gC 1 (aR (ag (af 9) (ag (af 8) (ag (ay fN aj (af 10)) ah))))) (au (bO (bh dA (af 11) bc) (au (gC 1 (aR (ag (af 8) (ag (af 9) (ag (af 11) ah)))))) bq))));exact au (gB 1 (aB (af 1)))))
abbrev fR:Stmt:=top 65
abbrev ix:List Str:=["_law_places","_law_row","_law_far","_law_one","_law_other","_law_most","_law_middle","_law_whole"]
theorem aa9:aE ix ["_law_places","_law_row"] (aq fR):=gx
theorem qG (F:gz K mg "_law_table" fR ["_law_places","_law_row"])(B:Bl mg):Cl P w K mg base 1 "_law_table" 2 fy:=
 br F aa9 rfl λf c A o s H E hr x=>(by(apply ao;exact(yY 2 0 (N':=["_law_one","_law_places"]) (src:=[none]) (hu8 hr) rfl B.b_dict aa9.nd (LcScope.by (N:=ix) (names:=(aq fR).names) rfl rfl rfl (by decide+kernel)) (bZ (af 0)) (by decide) (λ_ _ _ _ _=>⟨(ak 0 (show Mo (["_law_one","_law_places"]:List Str)by decide+kernel)),pv 0,GN (hu8 hr) rfl B.b_dict rfl (LcScope.byN (N:=["_law_one","_law_places"]) (N':=["_law_other"]) rfl rfl (by decide+kernel) rfl) (bZ (af 1)).h (λ_ _ _ _ _=>⟨(ak 0 (show Mo (["_law_other"]:List Str)by decide+kernel)).h,pv 0,rfl⟩) (λ_=>rfl)⟩));apply ao;exact(bN rfl (bZ (af 0)) (ak 3 aa9.nd) (au (oo 2 (lh hr) (af 3) (af 3) aj)));apply ao;exact(bN rfl (bZ (af 1)) (eK rfl (aQ (ak 3 aa9.nd) (aQ (ak 4 aa9.nd) (aQ (ak 5 aa9.nd) dz)))) (au (bO (lz (kZ (bh jq (jk 2 (cv (lh hr) (cv (lh hr) (af 2) (af 3)) (af 4))) bc) (iP (bh kO (af 5) (jk 2 (cv (lh hr) (cv (lh hr) (af 2) (af 3)) (af 4))))))) (au (oo 2 (lh hr) (af 3) (af 4) (af 5))) bq)));apply ao;exact(bN rfl (bZ (af 0)) (ak 6 aa9.nd) (au (bN rfl (bZ (af 0)) (ak 3 aa9.nd) (au (bN rfl (bZ (af 0)) (ak 4 aa9.nd) (au (bO (lz (xM (bh dA (jk 2 (cv (lh hr) (cv (lh hr) (af 2) (af 3)) (af 6))) bc) (uE (bh dA (jk 2 (cv (lh hr) (cv (lh hr) (af 2) (af 6)) (af 4))) bc)))) (ao (aG (ay aW (jk 2 (cv (lh hr) (cv (lh hr) (af 2) (af 3)) (af 6))) (jk 2 (cv (lh hr) (cv (lh hr) (af 2) (af 6)) (af 4)))) (ak 7 aa9.nd)) (au (bO (lz (kZ (bh jq (jk 2 (cv (lh hr) (cv (lh hr) (af 2) (af 3)) (af 4))) bc) (iP (bh kO (af 7) (jk 2 (cv (lh hr) (cv (lh hr) (af 2) (af 3)) (af 4))))))) (au (oo 2 (lh hr) (af 3) (af 4) (af 7))) bq))) bq)))))));exact au (gB 2 (aB (m6 (bh (oY (kD hr)) (gu (N':=["_law_one","_law_far"]) (src:=[none,some 2]) rfl (LcScope.by (N:=ix) (names:=(aq fR).names) rfl rfl rfl (by decide+kernel)) (bZ (af 0)) (λ_ _ _ _ _=>⟨(ak 0 (show Mo (["_law_one","_law_far"]:List Str)by decide+kernel)),(uF (bh kO (cv (lh hr) (cv (lh hr) (af 1) (af 0)) (af 0)) aj)),(af 0)⟩)) (dI ah)) (af 2) bc)))))
abbrev nr:Stmt:=top 68
abbrev vG:List Str:=["_law_table_here","_law_one","_law_other","_law_there","_law_back","_law_sure","_law_late","_law_apart","_law_word"]
theorem aak:aE vG ["_law_table_here","_law_one","_law_other"] (aq nr):=gx
theorem vt (F:gz K mg "_law_due" nr ["_law_table_here","_law_one","_law_other"]):Cl P w K mg base 1 "_law_due" 3 d6:=
 br F aak rfl λf c A o s H E hr x=>(by(apply ao;exact(aG (cv (lh hr) (cv (lh hr) (af 0) (af 1)) (af 2)) (ak 3 aak.nd));apply ao;exact(aG (cv (lh hr) (cv (lh hr) (af 0) (af 2)) (af 1)) (ak 4 aak.nd));apply ao;exact(aG (da (cj dA (af 4) bc) (cP (cj kO (af 4) aj))) (ak 5 aak.nd));apply ao;exact(aG (da (cj dA (af 3) bc) (cP (cj kO (af 3) aj))) (ak 6 aak.nd));apply ao;exact(aG (oq (cj jq (af 3) bc) (oq (cj vk (af 3) aj) (oq (cj jq (af 4) bc) (cP (cj vk (af 4) aj))))) (ak 7 aak.nd));apply ao;exact(aG (m6 (cO (af 5)) ff (m6 (cO (af 6)) ff (m6 (cO (af 7)) ff ff))) (ak 8 aak.nd));exact au (aB (dI (ag (af 5) (ag (oq (cj jq (af 3) bc) (cP (cj vk (af 3) aj))) (ag (da (ou (af 5)) (cP (ou (af 6)))) (ag (af 8) ah))))))))
theorem mU {X:Cx}{j1 j2 j3 j4 j5 j6 j7 j8 j9 j10 j11 j12 j13 j14 j15:Nat}{p1 p2 p3 p4 p5 p6 p7 p8 p9 p10 p11 p12 p13 p14 p15 p16 p17:Pos}:QE X (.List [(.Constant .none j1 p1),(.Tuple [(.Constant (.int 0) j2 p2)] j3 p3),(.Tuple [(.Constant (.int 9) j4 p4),(.Constant (.int 0) j5 p5)] j6 p6),(.Tuple [(.Constant (.int 0) j7 p7),(.Constant (.int 9) j8 p8)] j9 p9),(.List [(.Constant (.int 0) j10 p10),(.Constant (.int 0) j11 p11)] p12),(.Tuple [(.Constant (.bool true) j12 p13),(.Constant (.int 0) j13 p14)] j14 p15),(.Constant (.str "0.0") j15 p16)] p17) (dD (ae (cn .non) (ae (aO (ae (cn (.int 0)) ai)) (ae (aO (ae (cn (.int 9)) (ae (cn (.int 0)) ai))) (ae (aO (ae (cn (.int 0)) (ae (cn (.int 9)) ai))) (ae (dD (ae (cn (.int 0)) (ae (cn (.int 0)) ai))) (ae (aO (ae (cn (.bl true)) (ae (cn (.int 0)) ai))) (ae (cn (.str "0.0")) ai)))))))):=by
 refine @dI X _ _ _ ?_
 refine @ag X _ _ _ _ ?_ ?_ rfl
 ·exact bc
 refine @ag X _ _ _ _ ?_ ?_ rfl
 ·refine @aR X _ _ _ _ ?_
  refine @ag X _ _ _ _ ?_ ?_ rfl
  ·exact aj
  exact ah
 refine @ag X _ _ _ _ ?_ ?_ rfl
 ·refine @aR X _ _ _ _ ?_
  refine @ag X _ _ _ _ ?_ ?_ rfl
  ·exact aj
  refine @ag X _ _ _ _ ?_ ?_ rfl
  ·exact aj
  exact ah
 refine @ag X _ _ _ _ ?_ ?_ rfl
 ·refine @aR X _ _ _ _ ?_
  refine @ag X _ _ _ _ ?_ ?_ rfl
  ·exact aj
  refine @ag X _ _ _ _ ?_ ?_ rfl
  ·exact aj
  exact ah
 refine @ag X _ _ _ _ ?_ ?_ rfl
 ·refine @dI X _ _ _ ?_
  refine @ag X _ _ _ _ ?_ ?_ rfl
  ·exact aj
  refine @ag X _ _ _ _ ?_ ?_ rfl
  ·exact aj
  exact ah
 refine @ag X _ _ _ _ ?_ ?_ rfl
 ·refine @aR X _ _ _ _ ?_
  refine @ag X _ _ _ _ ?_ ?_ rfl
  ·exact fg
  refine @ag X _ _ _ _ ?_ ?_ rfl
  ·exact aj
  exact ah
 refine @ag X _ _ _ _ ?_ ?_ rfl
 ·exact ff
 exact ah
abbrev cF:Stmt:=top 70
abbrev de:List Str:=["_law_script","_law_record_here","_law_places","_law_row","_law_table_here","_law_order","_law_k","_law_event","_law_at","_law_more","_law_odd","_law_what","_law_pairs","_law_one","_law_other"]
theorem aa1:aE de ["_law_script"] (aq cF):=gx
theorem o7 (F:gz K mg "_law_stands" cF ["_law_script"])(aaL:Cl P w K mg base 4 "_law_record" 3 fT)(aaj:Cl P w K mg base 1 "_law_events" 1 cX)(aaM:Cl P w K mg base 1 "_law_bounds" 1 fU)(aaB:Cl P w K mg base 1 "_law_table" 2 fy)(aa5:Cl P w K mg base 17 "_law_told" 4 aF)(aa0:Cl P w K mg base 2 "_law_drawn" 3 aA)(aaO:Cl P w K mg base 1 "_law_due" 3 d6)(B:Bl mg):Cl P w K mg base 18 "_law_stands" 1 fS:=
 br F aa1 rfl λf c A o s H E hr x=>(by(apply ao;exact(aG (aN aaL hr (ag (af 0) (ag aj (ag aj ah)))) (ak 1 aa1.nd));apply ao;exact(aG (aN aaj hr (ag (aK (af 1) aj) ah)) (ak 2 aa1.nd));apply ao;exact(aG (aN aaM hr (ag (af 1) ah)) (ak 3 aa1.nd));apply ao;exact(aG (aN aaB hr (ag (af 2) (ag (af 3) ah))) (ak 4 aa1.nd));apply ao;exact(fW 5 aa1.nd ah);apply ao;exact(bN rfl (fX B.b_enumerate (ag (af 2) ah)) (eK rfl (aQ (ak 6 aa1.nd) (aQ (ak 7 aa1.nd) dz))) (ao (aG (aK (dI (ag (jk 5 (dM dv B.b_len NK (ag (af 5) ah))) (ag (jk 5 (dM dv B.b_len NK (ag (af 5) ah))) (ag aj ah)))) (aN aa0 hr (ag (af 0) (ag (ay aW aj (af 6)) (ag aj ah))))) (ak 8 aa1.nd)) (au (CZ 5 (ag (af 8) (ag (af 7) ah))))));apply ao;exact(gB 5 (wz 9 (N':=["_law_one","_law_other"]) (src:=[none,none]) rfl (LcScope.by (N:=de) (names:=(aq cF).names) rfl rfl rfl (by decide+kernel)) (C0 B.b_zip (ag (af 5) (ag (jz (af 5) (jx aj) jy) ah))) (λ_ _ _ _ _=>⟨(eK rfl (aQ (ak 0 (show Mo (["_law_one","_law_other"]:List Str)by decide+kernel)) (aQ (ak 1 (show Mo (["_law_one","_law_other"]:List Str)by decide+kernel)) dz))),cg,(aR (ag (af 1) (ag (af 0) (ag aj ah))))⟩) aa1.nd));apply ao;exact(bO (bh (lO (kD hr)) (aN aa5 hr (ag aj (ag (af 1) (ag (af 5) (ag bc ah))))) (cj dA (aN aaB hr (ag (af 2) (ag (ay aW (af 3) (af 9)) ah))) bc)) (au (aB fg)) bq);apply ao;exact(bO (lz (kZ (bh (lO (kD hr)) (aN aa5 hr (ag aj (ag (af 1) (ag (jz (af 5) (jx aj) jy) (ag bc ah))))) fg) (iP (bh (lO (kD hr)) (aN aa5 hr (ag aj (ag (af 1) (ag (ay aW (af 5) (jz (af 5) jy (jx aj))) (ag bc ah))))) fg)))) (au (aB fg)) bq);apply ao;exact(aG (aK mU (aN aa0 hr (ag (af 0) (ag aj (ag aj ah))))) (ak 10 aa1.nd));apply ao;exact(bN rfl (bP B.b_range (ag aj ah)) (ak 11 aa1.nd) (ao (bO (bh (lO (kD hr)) (aN aa5 hr (ag (af 11) (ag (af 1) (ag (af 10) (ag (aK (af 2) aj) ah))))) (aR (ag ff (ag aj ah)))) (au (aB fg)) bq) (au (bO (bh (lO (kD hr)) (aN aa5 hr (ag (af 11) (ag (af 1) (ag (aK (af 2) aj) (ag (af 10) ah))))) (aR (ag ff (ag aj ah)))) (au (aB fg)) bq))));apply ao;exact(bO (bh (lO (kD hr)) (gu (N':=["_law_what","_law_record_here","_law_odd"]) (src:=[none,some 1,some 10]) rfl (LcScope.by (N:=de) (names:=(aq cF).names) rfl rfl rfl (by decide+kernel)) (bP B.b_range (ag aj ah)) (λ_ _ _ _ _=>⟨(ak 0 (show Mo (["_law_what","_law_record_here","_law_odd"]:List Str)by decide+kernel)),cg,(aN aa5 hr (ag (af 0) (ag (jz (af 1) jy (jx aj)) (ag (af 2) (ag (af 2) ah)))))⟩)) (ay cR (dI (ag (aR (ag ff (ag aj ah))) ah)) aj)) (au (aB fg)) bq);apply ao;exact(bO (bh jq (af 4) bc) (au (aB (cj (oY (kD hr)) (gu (N':=["_law_what","_law_record_here","_law_places"]) (src:=[none,some 1,some 2]) rfl (LcScope.by (N:=de) (names:=(aq cF).names) rfl rfl rfl (by decide+kernel)) (bP B.b_range (ag aj ah)) (λ_ _ _ _ _=>⟨(ak 0 (show Mo (["_law_what","_law_record_here","_law_places"]:List Str)by decide+kernel)),cg,(aN aa5 hr (ag (af 0) (ag (af 1) (ag (aK (af 2) aj) (ag (aK (af 2) (ox aj)) ah)))))⟩)) (ay cR (dI (ag (aR (ag ff (ag aj ah))) ah)) aj)))) bq);apply ao;exact(aG (dI ah) (ak 12 aa1.nd));apply ao;exact(bN rfl (bZ (af 2)) (ak 13 aa1.nd) (au (aG (ay aW (af 12) (gu (N':=["_law_other","_law_one","_law_table_here"]) (src:=[none,some 13,some 4]) rfl (LcScope.by (N:=de) (names:=(aq cF).names) rfl rfl rfl (by decide+kernel)) (bZ (af 2)) (λ_ _ _ _ _=>⟨(ak 0 (show Mo (["_law_other","_law_one","_law_table_here"]:List Str)by decide+kernel)),(uF (cO (aK (aN aaO hr (ag (af 2) (ag (af 1) (ag (af 0) ah)))) aj))),(aR (ag (af 1) (ag (af 0) ah)))⟩))) (ak 12 aa1.nd))));apply ao;exact(bN rfl (bP B.b_range (ag aj ah)) (ak 6 aa1.nd) (by(apply ao;exact(aG (aK (af 2) (aN aa0 hr (ag (af 0) (ag (ay aW aj (ay cR aj (af 6))) (ag (dM dv B.b_len NK (ag (af 2) ah)) ah))))) (ak 13 aa1.nd));apply ao;exact(aG (aK (af 2) (aN aa0 hr (ag (af 0) (ag (ay aW aj (ay cR aj (af 6))) (ag (dM dv B.b_len NK (ag (af 2) ah)) ah))))) (ak 14 aa1.nd));exact au (bO (bh (lO (kD hr)) (gu (N':=["_law_what","_law_record_here","_law_one","_law_other"]) (src:=[none,some 1,some 13,some 14]) rfl (LcScope.by (N:=de) (names:=(aq cF).names) rfl rfl rfl (by decide+kernel)) (bP B.b_range (ag aj ah)) (λ_ _ _ _ _=>⟨(ak 0 (show Mo (["_law_what","_law_record_here","_law_one","_law_other"]:List Str)by decide+kernel)),cg,(aN aa5 hr (ag (af 0) (ag (af 1) (ag (af 2) (ag (af 3) ah)))))⟩)) (aN aaO hr (ag (af 4) (ag (af 13) (ag (af 14) ah))))) (au (aB fg)) bq))));exact au (aB (cj (oY (kD hr)) (aN aa5 hr (ag aj (ag (af 1) (ag bc (ag bc ah))))) (af 12)))))
abbrev AD:Stmt:=top 71
abbrev G8:List Str:=["_law_script"]
theorem F3:aE G8 ["_law_script"] (aq AD):=gx
theorem G2 {f:Addr}{fd:MP}(abd:Fn K mg "law" AD ["_law_script"] f fd)(aaw:Cl P w K mg base 18 "_law_known_one" 0 df)(aaN:Cl P w K mg base 18 "_law_stands" 1 fS):Ak P w K mg base 19 f fd ["_law_script"] 1 m_law:=
 xO abd.fn F3 rfl λc A o s H E hr x=>(au (aB (da (Ii aaw hr) (cP (aN aaN hr (ag (af 0) ah))))))
end
@[elab_as_elim] theorem Jz {α:Type} {p:List α->Prop} (h:p []):∀us:List α,us.length=0->p us
 | [],_=>h
@[elab_as_elim] theorem fA {α:Type} {p:List α->Prop} (h:∀a0,p [a0]):∀us:List α,us.length=1->p us
 | [a0],_=>h a0
@[elab_as_elim] theorem gV {α:Type} {p:List α->Prop} (h:∀a0 a1,p [a0,a1]):∀us:List α,us.length=2->p us
 | [a0,a1],_=>h a0 a1
@[elab_as_elim] theorem ik {α:Type} {p:List α->Prop} (h:∀a0 a1 a2,p [a0,a1,a2]):∀us:List α,us.length=3->p us
 | [a0,a1,a2],_=>h a0 a1 a2
@[elab_as_elim] theorem Jy {α:Type} {p:List α->Prop} (h:∀a0 a1 a2 a3,p [a0,a1,a2,a3]):∀us:List α,us.length=4->p us
 | [a0,a1,a2,a3],_=>h a0 a1 a2 a3
def asks:Af:=⟨([("is_long",17),("is_whole",15),("is_within",16),("is_pace",20),("rises",18),("are_readings",19),("is_clock",21),("are_clocks",22),("is_event",23),("is_delay",24),("is_letter",25),("are_letters",26),("is_record",27),("need_record",28),("events",30)]:List (Str×Nat))++([("is_better",37),("settle",36),("greatest_world",39),("bounds_of_clock",32),("bounds_of_letter",33),("bounds",34),("world",40),("has_world",41),("need_world",42),("walks_from",45),("most_of",46),("all_most",49),("sure_pairs",55),("need_event",29),("fits_order",56)]:List (Str×Nat))++([("need_events",44),("most_between",47),("least_between",48),("surely_ahead",51),("maybe_ahead",52),("maybe_at_once",53),("verdict",54),("_law_told",67),("_law_known_one",69),("_law_cell",58),("_law_drawn",59),("_law_events",62),("_law_letter",61),("_law_clock",60),("_law_record",63)]:List (Str×Nat))++([("_law_bounds",64),("_law_table",65),("_law_due",68),("_law_stands",70),("law",71),("_law_refused",66)]:List (Str×Nat)),(["ValueError","all","bool","dict","enumerate","int","isinstance","len","range","sorted","tuple","zip"]:List Str),[("MOST_CLOCKS",4),("MOST_LETTERS",8),("MOST_READINGS",4),("LAST_READING",99),("SLOWEST",9),("LONGEST",999)],["ClockError","NoRecord","NoEvent","NoNumber","NoWorld","Barred","Nothing"]⟩
theorem all_ok {l:PySem.W.OpenLaw}{w:MG}{K:Lu}{h:Heap}{mg:Str->Option Ly}{fa:Addr}(X:K.In h)(e:qJ asks K=qo asks top)(G:h.Ns Mu mg)(hfa:mg "law" =some (.ref fa)) :
  ∃fd:MP,(∀(s:LB) (v:Ly),RD s fd ⟨[v],[]⟩ [("_law_script",v)])/\∀base:Heap,K.In base->base.Ns Mu mg->qW l.prog w K mg base CX0 19 fa fd ["_law_script"] (spP K 1 m_law):=by
 have B:Bl mg:=⟨gp 0 X G e rfl,gp 1 X G e rfl,gp 2 X G e rfl,gp 3 X G e rfl,gp 4 X G e rfl,gp 5 X G e rfl,gp 6 X G e rfl,gp 7 X G e rfl,gp 8 X G e rfl,gp 9 X G e rfl,gp 10 X G e rfl,gp 11 X G e rfl⟩
 have C:Cs mg:=⟨rK 0 X G e rfl,rK 1 X G e rfl,rK 2 X G e rfl,rK 3 X G e rfl,rK 4 X G e rfl,rK 5 X G e rfl⟩;obtain⟨C_ClockError,ls,xD,xl,nd⟩:=G3 (JO e);obtain⟨C_NoRecord,ls0,x_NoRecord,rfl,xl0⟩:=gI xl;obtain⟨C_NoEvent,ls1,x_NoEvent,rfl,xl1⟩:=gI xl0;obtain⟨C_NoNumber,ls2,x_NoNumber,rfl,xl2⟩:=gI xl1;obtain⟨C_NoWorld,ls3,x_NoWorld,rfl,xl3⟩:=gI xl2;obtain⟨C_Barred,ls4,x_Barred,rfl,xl4⟩:=gI xl3;obtain⟨C_Nothing,ls5,x_Nothing,rfl,xl5⟩:=gI xl4
 cases CI xl5
 have S:Xs K mg C_NoRecord C_NoEvent C_NoNumber C_NoWorld C_Barred C_Nothing C_ClockError:=⟨Of X G (iw x_NoRecord).1,Of X G (iw x_NoEvent).1,Of X G (iw x_NoNumber).1,Of X G (iw x_NoWorld).1,Of X G (iw x_Barred).1,Of X G (iw x_Nothing).1,Of X G (iw xD).1,Ib x_NoRecord xD,Ib x_NoEvent xD,Ib x_NoNumber xD,Ib x_NoWorld xD,Ib x_Barred xD,Ib x_Nothing xD,ox0 xD,nd⟩
 obtain⟨fd49,abd,bnd⟩:=JM (n:="law") (i:=71) (x:="_law_script") 49 X G e rfl hfa λ_ _ _ _ _ _ _=>rfl
 obtain⟨f50,fd50,aaA⟩:=cu (n:="_law_refused") (i:=66) (ps:=["_law_e"]) 50 X G e rfl λ_ _ _ _ _ _ us hl=>fA (λ_=>rfl) us hl
 refine⟨fd49,bnd,λbase _ _=> ?_⟩
 have aa2:=xb l.prog w base (cu 0 X G e rfl λ_ _ _ _ _ _ us hl=>ik (λ_ _ _=>rfl) us hl) B
 have ab3:=vm l.prog w base (cu 1 X G e rfl λ_ _ _ _ _ _ us hl=>fA (λ_=>rfl) us hl) B
 have aa4:=tj l.prog w base (cu 2 X G e rfl λ_ _ _ _ _ _ us hl=>ik (λ_ _ _=>rfl) us hl) ab3
 have ab7:=w9 l.prog w base (cu 3 X G e rfl λ_ _ _ _ _ _ us hl=>gV (λ_ _=>rfl) us hl) aa4 C
 have abb:=Bp l.prog w base (cu 4 X G e rfl λ_ _ _ _ _ _ us hl=>fA (λ_=>rfl) us hl) B
 have aaD:=nJ l.prog w base (cu 5 X G e rfl λ_ _ _ _ _ _ us hl=>fA (λ_=>rfl) us hl) aa2 abb aa4 B C
 have ab4:=vp l.prog w base (cu 6 X G e rfl λ_ _ _ _ _ _ us hl=>fA (λ_=>rfl) us hl) aa2 ab7 aaD
 have aaP:=qF l.prog w base (cu 7 X G e rfl λ_ _ _ _ _ _ us hl=>fA (λ_=>rfl) us hl) aa2 ab4 B C
 have aao:=vn l.prog w base (cu 8 X G e rfl λ_ _ _ _ _ _ us hl=>gV (λ_ _=>rfl) us hl) aa4 aa2 B
 have ab5:=vo l.prog w base (cu 9 X G e rfl λ_ _ _ _ _ _ us hl=>gV (λ_ _=>rfl) us hl) aa4 C
 have aaX:=tq l.prog w base (cu 10 X G e rfl λ_ _ _ _ _ _ us hl=>gV (λ_ _=>rfl) us hl) aao aa2 ab5
 have aaG:=o6 l.prog w base (cu 11 X G e rfl λ_ _ _ _ _ _ us hl=>gV (λ_ _=>rfl) us hl) aa2 aaX B C
 have aaY:=tp l.prog w base (cu 12 X G e rfl λ_ _ _ _ _ _ us hl=>fA (λ_=>rfl) us hl) aa2 aaP aaG
 have aa6:=oZ l.prog w base (cu 13 X G e rfl λ_ _ _ _ _ _ us hl=>fA (λ_=>rfl) us hl) aaY S
 have aac:=zm l.prog w base (cu 14 X G e rfl λ_ _ _ _ _ _ us hl=>fA (λ_=>rfl) us hl) aa6 B
 have aaZ:=tu l.prog w base (cu 15 X G e rfl λ_ _ _ _ _ _ us hl=>ik (λ_ _ _=>rfl) us hl)
 have aaE:=zl l.prog w base (cu 16 X G e rfl λ_ _ _ _ _ _ us hl=>gV (λ_ _=>rfl) us hl) aaZ B
 have aab:=lP l.prog w base (cu 17 X G e rfl λ_ _ _ _ _ _ us hl=>gV (λ_ _=>rfl) us hl) aac aaE B
 have aat:=k7 l.prog w base (cu 18 X G e rfl λ_ _ _ _ _ _ us hl=>gV (λ_ _=>rfl) us hl) B
 have aar:=kB l.prog w base (cu 19 X G e rfl λ_ _ _ _ _ _ us hl=>fA (λ_=>rfl) us hl)
 have aap:=zo l.prog w base (cu 20 X G e rfl λ_ _ _ _ _ _ us hl=>fA (λ_=>rfl) us hl) aa6 aat aar B
 have abc:=Bm l.prog w base (cu 21 X G e rfl λ_ _ _ _ _ _ us hl=>fA (λ_=>rfl) us hl) aab aap
 have ab0:=tw l.prog w base (cu 22 X G e rfl λ_ _ _ _ _ _ us hl=>fA (λ_=>rfl) us hl) abc
 have aal:=qC l.prog w base (cu 23 X G e rfl λ_ _ _ _ _ _ us hl=>fA (λ_=>rfl) us hl) ab0 S
 have aam:=qA l.prog w base (cu 24 X G e rfl λ_ _ _ _ _ _ us hl=>gV (λ_ _=>rfl) us hl) aaE aap
 have aax:=w8 l.prog w base (cu 25 X G e rfl λ_ _ _ _ _ _ us hl=>gV (λ_ _=>rfl) us hl)
 have ab6:=vq l.prog w base (cu 26 X G e rfl λ_ _ _ _ _ _ us hl=>fA (λ_=>rfl) us hl) aal aac aam aax B
 have aaR:=qB l.prog w base (cu 27 X G e rfl λ_ _ _ _ _ _ us hl=>fA (λ_=>rfl) us hl) ab6 aac B
 have aai:=qD l.prog w base (cu 28 X G e rfl λ_ _ _ _ _ _ us hl=>gV (λ_ _=>rfl) us hl) aao S
 have aaS:=qE l.prog w base (cu 29 X G e rfl λ_ _ _ _ _ _ us hl=>gV (λ_ _=>rfl) us hl) aa6 aai aac aab aap B
 have aaI:=o4 l.prog w base (cu 30 X G e rfl λ_ _ _ _ _ _ us hl=>ik (λ_ _ _=>rfl) us hl) aa6 aai
 have aaf:=nI l.prog w base (cu 31 X G e rfl λ_ _ _ _ _ _ us hl=>ik (λ_ _ _=>rfl) us hl) aaI aal aax aam
 have aay:=mE l.prog w base (cu 32 X G e rfl λ_ _ _ _ _ _ us hl=>ik (λ_ _ _=>rfl) us hl) aaf
 have aa7:=nH l.prog w base (cu 33 X G e rfl λ_ _ _ _ _ _ us hl=>ik (λ_ _ _=>rfl) us hl) aay
 have aad:=o5 l.prog w base (cu 34 X G e rfl λ_ _ _ _ _ _ us hl=>ik (λ_ _ _=>rfl) us hl) aaf
 have aaz:=mC l.prog w base (cu 35 X G e rfl λ_ _ _ _ _ _ us hl=>ik (λ_ _ _=>rfl) us hl) aa7
 have aba:=w6 l.prog w base (cu 36 X G e rfl λ_ _ _ _ _ _ us hl=>ik (λ_ _ _=>rfl) us hl) aa7 aad
 have aa5:=tD l.prog w base (cu 37 X G e rfl λ_ _ _ _ _ _ us hl=>Jy (λ_ _ _ _=>rfl) us hl) aaR aaS aa7 aad aaz aba B S aaA
 have aaw:=lQ l.prog w base (cu 38 X G e rfl λ_ _ _ _ _ _ us hl=>Jz rfl us hl) aa5 B
 have ab1:=tE l.prog w base (cu 39 X G e rfl λ_ _ _ _ _ _ us hl=>gV (λ_ _=>rfl) us hl) B
 have aa0:=qH l.prog w base (cu 40 X G e rfl λ_ _ _ _ _ _ us hl=>ik (λ_ _ _=>rfl) us hl) ab1
 have aaj:=pd l.prog w base (cu 41 X G e rfl λ_ _ _ _ _ _ us hl=>fA (λ_=>rfl) us hl) B
 have aaK:=o9 l.prog w base (cu 42 X G e rfl λ_ _ _ _ _ _ us hl=>ik (λ_ _ _=>rfl) us hl) aaj aa0 B
 have aaT:=qI l.prog w base (cu 43 X G e rfl λ_ _ _ _ _ _ us hl=>gV (λ_ _=>rfl) us hl) aa0 B
 have aaL:=o8 l.prog w base (cu 44 X G e rfl λ_ _ _ _ _ _ us hl=>ik (λ_ _ _=>rfl) us hl) aa0 aaK aaT B
 have aaM:=pe l.prog w base (cu 45 X G e rfl λ_ _ _ _ _ _ us hl=>fA (λ_=>rfl) us hl) B
 have aaB:=qG l.prog w base (cu 46 X G e rfl λ_ _ _ _ _ _ us hl=>gV (λ_ _=>rfl) us hl) B
 have aaO:=vt l.prog w base (cu 47 X G e rfl λ_ _ _ _ _ _ us hl=>ik (λ_ _ _=>rfl) us hl)
 have aaN:=o7 l.prog w base (cu 48 X G e rfl λ_ _ _ _ _ _ us hl=>fA (λ_=>rfl) us hl) aaL aaj aaM aaB aa5 aa0 aaO B
 exact(G2 l.prog w base abd aaw aaN).h
def vw:L1:=PySem.W.view MH [71]
def lse:List Str:=(["ClockError","NoRecord","NoEvent","NoNumber","NoWorld","Barred","Nothing","MOST_CLOCKS","MOST_LETTERS","MOST_READINGS","LAST_READING","SLOWEST","LONGEST","is_whole","is_within","is_long","rises","are_readings","is_pace","is_clock"]:List Str)++(["are_clocks","is_event","is_delay","is_letter","are_letters","is_record","need_record","need_event","events","bounds_of_clock","bounds_of_letter","bounds","settle","is_better","greatest_world","world","has_world","need_world","need_events","walks_from"]:List Str)++(["most_of","most_between","least_between","all_most","surely_ahead","maybe_ahead","maybe_at_once","verdict","sure_pairs","fits_order","_law_cell","_law_drawn","_law_clock","_law_letter","_law_events","_law_record","_law_bounds","_law_table","_law_refused","_law_told"]:List Str)++(["_law_due","_law_known_one","_law_stands"]:List Str)
def lhs (w:MG)(h:Heap)(d:Drawn)(t:Nat)(os:Sx):=(PySem.W.topFrom treeTable MH w 9000 ⟨h,⟨[]⟩,d,t,os⟩).map (λs=>(PySem.W.openSeen vw lse (TN MH.main.body) (λ_=>true) true s,qJ asks (B9 s.heap)))
def rhs (w:MG):=some (PySem.W.openGood vw lse,qo asks top)
theorem lhs_r:lhs=lhs:=rfl
theorem rhs_r:rhs=rhs:=rfl
end G
namespace Tr
open PySem
abbrev RR (cs ls:List T):T:=.tup [.tup cs,.tup ls]
mutual
def T.pl:T->Bool
 | .scr _=>false
 | .dct _ _=>false
 | .tup l=>plS l
 | .lst l=>plS l
 | _=>true
def plS:List T->Bool
 | [] =>true
 | t::l=>t.pl&&plS l
end
theorem lN:∀{l:List T} {t:T},plS l=true->t∈l->t.pl=true
 | [],_,_,h=>by cases h
 | u::l,t,h,m=>by
  unfold plS at h;rw[LC]at h;rcases LH.mp m with rfl | m
  ·exact h.1
  ·exact lN h.2 m
mutual
theorem T.Kx:∀(t:T),t.pl=true->t.nd=true
 | .non,_=>rfl
 | .bl _,_=>rfl
 | .int _,_=>rfl
 | .str _,_=>rfl
 | .scr _,h=>by cases h
 | .dct _ _,h=>by cases h
 | .tup l,h=>by unfold T.pl at h;unfold T.nd;exact plS_nds l h
 | .lst l,h=>by unfold T.pl at h;unfold T.nd;exact plS_nds l h
theorem plS_nds:∀(l:List T),plS l=true->nds l=true
 | [],_=>rfl
 | t::l,h=>by
  unfold plS at h;rw[LC]at h;unfold nds;rw[T.Kx t h.1,plS_nds l h.2];rfl
end
theorem xp {fe:En->Rs T}{h:T->T}:∀(ts:List T) (Z:En),0<Z.length->(∀t∈ts,fe (Z.set 0 (.va t))= .ok (h t))->dJ (gN 0) bT fe ts Z= .ok (ts.map h)
 | [],_,_,_=>rfl
 | t::r,Z,hl,hf=>by
  unfold dJ
  have e1:gN 0 t Z= .ok (Z.set 0 (.va t)):=by unfold gN;rw[if_pos hl]
  have ih:=xp r (Z.set 0 (.va t)) (by rw[MW];exact hl) (λu hu=>by rw[SJ];exact hf u (Lw _ hu))
  simp only[e1,aH,bT,if_true,hf t Lz,ih,Lx]
theorem rH {fc:En->Rs Bool}{fe:En->Rs T}{p:T->Bool}{h:T->T}:∀(ts:List T) (Z:En),0<Z.length->(∀t∈ts,fc (Z.set 0 (.va t))= .ok (p t)/\(p t=true->fe (Z.set 0 (.va t))= .ok (h t)))->dJ (gN 0) fc fe ts Z= .ok ((ts.filter p).map h)
 | [],_,_,_=>rfl
 | t::r,Z,hl,hf=>by
  unfold dJ
  have e1:gN 0 t Z= .ok (Z.set 0 (.va t)):=by unfold gN;rw[if_pos hl]
  have ih:=rH r (Z.set 0 (.va t)) (by rw[MW];exact hl) (λu hu=>by rw[SJ];exact hf u (Lw _ hu))
  obtain⟨h1,h2⟩:=hf t Lz;simp only[e1,aH,h1]
  cases q:p t with
  | true=>simp only[if_true,h2 q,aH,ih,QF,q,Lx]
  | false=>simp only[NN,if_false,ih,QF,q]
theorem rX (p:T->Bool):∀l:List T,pZ (l.map λt=>T.bl (p t))=some (l.map p)
 | [] =>rfl
 | t::l=>by rw[Lx,pZ,rX p l];rfl
theorem all_map (p:T->Bool)(l:List T):qU [.lst (l.map λt=>T.bl (p t))] = .ok (.bl (l.all p)):=by
 simp only[qU,rX,SD]
 rfl
theorem jU {α:Type}{l:List α}{k:Nat}{t:α}(h:l[k]? =some t):L2.atI l (k:Int)=some t:=by
 have hk:k<l.length:=(LM.mp h).1
 unfold L2.atI L2.ixN;rw[if_pos (by omega),if_pos (by omega),MM]
 exact h
theorem aw {n k:Nat}(h:n<=k)(hk:k<=1000:=by decide):n<=sizeLine:=by unfold sizeLine;omega
section
variable {f fa fb fc:En->Rs T}{fs:En->Rs (List T)}{b c:En->Rs Bool}{F G:En->Rs Fl}{Z Z' Z1 Z2:En}{t u r:T}{ts l m:List T}
theorem aD {g:T->T->Rs T}{x:Rs T}(ha:fa Z= .ok t)(hb:fb Z= .ok u)(hg:g t u=x):o2 g fa fb Z=x:=by unfold o2;rw[ha,hb];exact hg
theorem JI {g:T->T->Rs T}{c:Str}(ha:fa Z= .err c):o2 g fa fb Z= .err c:=by unfold o2;rw[ha];rfl
theorem JK {g:T->Rs T}{x:Rs T}(ha:fa Z= .ok t)(hg:g t=x):o1 g fa Z=x:=by unfold o1;rw[ha];exact hg
theorem JH {g:T->T->Rs T}{x:Rs T}{ks vs:List T}(ha:fa Z= .ok (.dct ks vs))(hb:fb Z= .ok u)(hg:g (.dct ks vs) u=x):oD g fa fb Z=x:=by unfold oD;rw[ha];show(fb Z >>= g (.dct ks vs))=_;rw[hb];exact hg
theorem k_oL {g:T->T->Rs T}{x:Rs T}{ks:List T}(ha:fa Z= .ok (.lst ks))(hb:fb Z= .ok u)(hg:g (.lst ks) u=x):oL g fa fb Z=x:=by unfold oL;rw[ha];show(fb Z >>= g (.lst ks))=_;rw[hb];exact hg
theorem ar (h:f Z= .ok t)(hs:fs Z= .ok ts):ae f fs Z= .ok (t::ts):=by unfold ae;rw[h,hs];rfl
theorem Ed {c:Str}(h:f Z= .err c):ae f fs Z= .err c:=by unfold ae;rw[h];rfl
theorem aM {g:List T->Rs T}{x:Rs T}(h:fs Z= .ok ts)(hg:g ts=x):cl g fs Z=x:=by unfold cl;rw[h];exact hg
theorem JP {g:List T->Rs T}{c:Str}(h:fs Z= .err c):cl g fs Z= .err c:=by unfold cl;rw[h];rfl
theorem bL {k:Bool}(h:f Z= .ok (.bl k)):tb f Z= .ok k:=by unfold tb;rw[h];rfl
theorem Fs {c:Str}(h:f Z= .err c):tb f Z= .err c:=by unfold tb;rw[h];rfl
theorem pM {k:Bool}(h:b Z= .ok k):eE b Z= .ok (!k):=by unfold eE;rw[h];rfl
theorem Ht {c:Str}(h:b Z= .err c):eE b Z= .err c:=by unfold eE;rw[h];rfl
theorem BO (h:b Z= .ok true):mB b c Z= .ok true:=by unfold mB;rw[h];rfl
theorem vU {x:Rs Bool}(h:b Z= .ok false)(h2:c Z=x):mB b c Z=x:=by unfold mB;rw[h];exact h2
theorem BV (h:b Z= .ok false):qT b c Z= .ok false:=by unfold qT;rw[h];rfl
theorem xu {x:Rs Bool}(h:b Z= .ok true)(h2:c Z=x):qT b c Z=x:=by unfold qT;rw[h];exact h2
theorem k_or {p q:Bool}(h:b Z= .ok p)(h2:p=false->c Z= .ok q):mB b c Z= .ok (p||q):=by
 cases p with
 | true=>exact BO h
 | false=>exact vU h (h2 rfl)
theorem tY (h:fa Z= .ok (.bl true)):cb fa fb Z=fb Z:=by unfold cb;rw[h];rfl
theorem tX (h:fa Z= .ok (.bl false)):cb fa fb Z= .ok (.bl false):=by unfold cb;rw[h];rfl
theorem Ee {c:Str}(h:fa Z= .err c):cb fa fb Z= .err c:=by unfold cb;rw[h];rfl
theorem yH {p q:Bool}(h:fa Z= .ok (.bl p))(h2:p=true->fb Z= .ok (.bl q)):cb fa fb Z= .ok (.bl (p&&q)):=by
 cases p with
 | true=>rw[tY h,h2 rfl];rfl
 | false=>rw[tX h];rfl
theorem tU (h:fa Z= .ok (.bl true)):rA fa fb Z= .ok (.bl true):=by unfold rA;rw[h];rfl
theorem tV (h:fa Z= .ok (.bl false)):rA fa fb Z=fb Z:=by unfold rA;rw[h];rfl
theorem Hs {p q:Bool}(h:fa Z= .ok (.bl p))(h2:p=false->fb Z= .ok (.bl q)):rA fa fb Z= .ok (.bl (p||q)):=by
 cases p with
 | true=>rw[tU h];rfl
 | false=>rw[tV h,h2 rfl];rfl
theorem tW {k:Bool}(h:fa Z= .ok (.bl k)):o1 tH fa Z= .ok (.bl (!k)):=JK h rfl
theorem ju {p:Bool}(h:b Z= .ok p):t9 b fa fb Z=if p then fa Z else fb Z:=by unfold t9;rw[h];rfl
theorem bS {g:T->En->Rs En}(h:f Z= .ok t)(hg:g t Z= .ok Z'):cC f g Z= .ok (.nx Z'):=by unfold cC;rw[h];show(match g t Z with | .ok Z'=>Rs.ok (Fl.nx Z') | _=> .bad)=_;rw[hg]
theorem yG {g:T->En->Rs En}{c:Str}(h:f Z= .err c):cC f g Z= .err c:=by unfold cC;rw[h];rfl
theorem ax (h:F Z= .ok (.nx Z')):az F G Z=G Z':=by unfold az;rw[h];rfl
theorem gW (h:F Z= .ok (.rt t)):az F G Z= .ok (.rt t):=by unfold az;rw[h];rfl
theorem BN (h:F Z= .ok (.ct Z')):az F G Z= .ok (.ct Z'):=by unfold az;rw[h];rfl
theorem gn {c:Str}(h:F Z= .err c):az F G Z= .err c:=by unfold az;rw[h];rfl
theorem ez (h:b Z= .ok true):eM b F G Z=F Z:=by unfold eM;rw[h];rfl
theorem c8 (h:b Z= .ok false):eM b F G Z=G Z:=by unfold eM;rw[h];rfl
theorem BS {c:Str}(h:b Z= .err c):eM b F G Z= .err c:=by unfold eM;rw[h];rfl
theorem cz (h:f Z= .ok t):aL f Z= .ok (.rt t):=by unfold aL;rw[h];rfl
theorem xt {c:Str}(h:f Z= .err c):aL f Z= .err c:=by unfold aL;rw[h];rfl
theorem lg (h:f Z= .ok t):uD f Z= .ok (.nx Z):=by unfold uD;rw[h];rfl
theorem nA {c:Str}(h:f Z= .err c):uD f Z= .err c:=by unfold uD;rw[h];rfl
theorem dC {fi:En->Rs (List T)}{g:T->En->Rs En}{x:Fl}(h:fi Z= .ok ts)(h2:bf g F ts Z= .ok x):dP fi g F Z= .ok x:=by unfold dP;rw[h];show(match bf g F ts Z with | .ok f=>Rs.ok f | _=> .bad)=_;rw[h2]
theorem cK {g:T->En->Rs En}(h:g t Z= .ok Z1)(h2:F Z1= .ok (.nx Z2)):bf g F (t::ts) Z=bf g F ts Z2:=by rw[bf,h];show(F Z1 >>= _)=_;rw[h2];rfl
theorem Ea {g:T->En->Rs En}(h:g t Z= .ok Z1)(h2:F Z1= .ok (.ct Z2)):bf g F (t::ts) Z=bf g F ts Z2:=by rw[bf,h];show(F Z1 >>= _)=_;rw[h2];rfl
theorem yD {g:T->En->Rs En}(h:g t Z= .ok Z1)(h2:F Z1= .ok (.rt r)):bf g F (t::ts) Z= .ok (.rt r):=by rw[bf,h];show(F Z1 >>= _)=_;rw[h2];rfl
theorem BM {n:Nat}(h:c Z= .ok false):ck c F (n+1) Z= .ok (.nx Z):=by unfold ck;rw[h]
theorem vS {n:Nat}(h:c Z= .ok true)(h2:F Z= .ok (.nx Z')):ck c F (n+1) Z=ck c F n Z':=by rw[ck,h];simp only[h2]
theorem BL {n:Nat}(h:c Z= .ok true)(h2:F Z= .ok (.rt t)):ck c F (n+1) Z= .ok (.rt t):=by rw[ck,h];simp only[h2]
theorem bJ {n m:Nat}(hl:ts.length=n)(h:F (aV m ts)= .ok (.rt t)):val n m F ts= .ok t:=by unfold val;rw[if_pos hl];unfold bU;rw[h];rfl
theorem dh {n m:Nat}{c:Str}(hl:ts.length=n)(h:F (aV m ts)= .err c):val n m F ts= .err c:=by unfold val;rw[if_pos hl];unfold bU;rw[h];rfl
theorem tT {n m:Nat}(hl:ts.length=n)(h:F (aV m ts)= .ok (.nx Z)):val n m F ts= .ok .non:=by unfold val;rw[if_pos hl];unfold bU;rw[h];rfl
theorem JG {h:Str->Rs T}{k:Fl}(e:F Z= .ok k):uZ F h Z= .ok k:=by unfold uZ;rw[e]
theorem Hq {h:Str->Rs T}{c:Str}(e:F Z= .err c)(e2:h c= .ok t):uZ F h Z= .ok (.rt t):=by unfold uZ;rw[e];simp only[e2]
theorem mQ {fi:En->Rs (List T)}{src:List (Option Nat)}{fe:En->Rs T}{h:T->T}(hi:fi Z= .ok ts)(hs:ts.length<=sizeLine)(hn:0<src.length)(hf:∀t∈ts,fe ((bR src Z).set 0 (.va t))= .ok (h t)) :
  eY fi src (gN 0) bT fe Z= .ok (.lst (ts.map h)):=by
 have e:=xp (fe:=fe) (h:=h) ts (bR src Z) (by unfold bR;rw[LA];exact hn) hf
 unfold eY;rw[hi,aH,if_pos hs,e]
theorem Ft {fi:En->Rs (List T)}{src:List (Option Nat)}{fc:En->Rs Bool}{fe:En->Rs T}{p:T->Bool}{h:T->T}(hi:fi Z= .ok ts)(hs:ts.length<=sizeLine)(hn:0<src.length)
  (hf:∀t∈ts,fc ((bR src Z).set 0 (.va t))= .ok (p t)/\(p t=true->fe ((bR src Z).set 0 (.va t))= .ok (h t))):eY fi src (gN 0) fc fe Z= .ok (.lst ((ts.filter p).map h)):=by
 have e:=rH (fc:=fc) (fe:=fe) (p:=p) (h:=h) ts (bR src Z) (by unfold bR;rw[LA];exact hn) hf
 unfold eY;rw[hi,aH,if_pos hs,e]
theorem cJ (h:fs Z= .ok ts)(hl:ts.length<=sizeLine):aO fs Z= .ok (.tup ts):=by unfold aO;rw[h];show kS ts=_;unfold kS;rw[if_pos hl]
theorem gf (h:fs Z= .ok ts)(hl:ts.length<=sizeLine):dD fs Z= .ok (.lst ts):=by unfold dD;rw[h];show kU ts=_;unfold kU;rw[if_pos hl]
theorem BP {f:En->Rs (List T)}{i:Nat}(h:f Z= .ok l)(hi:i<Z.length)(hl:l.length<=1000):hW i f Z= .ok (.nx (Z.set i (.ow (.lst l)))):=by
 unfold hW;rw[h,aH,if_pos ⟨hi,aw hl (by omega)⟩]
theorem mP {i:Nat}(hi:i<Z.length):hW i ai Z= .ok (.nx (Z.set i (.ow (.lst [])))):=BP rfl hi (MT _)
theorem l7 {i:Nat}(h:f Z= .ok t)(hi:Z[i]? =some (.ow (.lst l)))(hl:l.length<=1000):g9 i f Z= .ok (.nx (Z.set i (.ow (.lst (l++ [t]))))):=by
 unfold g9;rw[hi];simp only[h,aH];rw[if_pos (by unfold sizeLine;omega)]
theorem BU {i:Nat}(h:f Z= .ok (.lst m))(hi:Z[i]? =some (.ow (.lst l)))(hl:l.length+m.length<=1000):oS i f Z= .ok (.nx (Z.set i (.ow (.lst (l++m))))):=by
 unfold oS;rw[hi];simp only[h,aH,HG];rw[if_pos (by unfold sizeLine;omega)]
theorem kW (h:f Z= .ok (.lst l)):iS f Z= .ok l:=by unfold iS;rw[h];rfl
theorem yE (h:fs Z= .ok [.lst l]):iE fs Z= .ok (cp 0 l):=by unfold iE;rw[h];rfl
theorem Fu {n:Nat}(e:l[n]? =some t):aZ (.tup l) (.int (n:Int))= .ok t:=by show(match L2.atI l _ with | some t=>Rs.ok t | none=> .bad)=_;rw[jU e]
theorem BQ {n:Nat}(e:l[n]? =some t):aZ (.lst l) (.int (n:Int))= .ok t:=by show(match L2.atI l _ with | some t=>Rs.ok t | none=> .bad)=_;rw[jU e]
theorem zI {n:Nat}(h:fa Z= .ok (.tup l))(h2:fb Z= .ok (.int (n:Int)))(e:l[n]? =some t):o2 aZ fa fb Z= .ok t:=aD h h2 (Fu e)
theorem BR {n:Nat}(h:fa Z= .ok (.lst l))(h2:fb Z= .ok (.int (n:Int)))(e:l[n]? =some t):o2 aZ fa fb Z= .ok t:=aD h h2 (BQ e)
theorem k_sl {fe:En->Rs T}{fl fu:En->Rs (Option Int)}{lo hi:Option Int}(h:fe Z= .ok (.tup l))(h1:fl Z= .ok lo)(h2:fu Z= .ok hi):sl fe fl fu Z= .ok (.tup (nS l lo hi)):=by
 unfold sl;rw[h,h1,h2];rfl
theorem yC {fe:En->Rs T}{fl fu:En->Rs (Option Int)}{lo hi:Option Int}(h:fe Z= .ok (.lst l))(h1:fl Z= .ok lo)(h2:fu Z= .ok hi):sl fe fl fu Z= .ok (.lst (nS l lo hi)):=by
 unfold sl;rw[h,h1,h2];rfl
theorem D9 {i:Int}(h:f Z= .ok (.int i)):pS f Z= .ok (some i):=by unfold pS;rw[h];rfl
theorem wg (l:List T)(n:Nat):nS l none (some (n:Int))=l.take n:=by
 unfold nS;rw[HT.sIx_none,HT.sIx_nat,List.drop_zero,P9,List.take_eq_take_iff];omega
theorem pW (l:List T)(n:Nat):nS l (some (n:Int)) none=l.drop n:=by
 unfold nS;rw[HT.sIx_none,HT.sIx_nat]
 by_cases h:n<=l.length
 ·rw[Tu h]
  exact Nb (by rw[Nx];omega)
 ·rw[SZ (by omega),Pa (LL _),Pa (by omega),List.take_nil]
theorem Hr {ms:List (List T->Rs T)}{i:Nat}{g:List T->Rs T}{x:Rs T}(h0:f Z= .ok (.int (i:Nat)))(hm:ms[i]? =some g)(hf:fs Z= .ok ts)(hx:g ts=x):wN ms f fs Z=x:=by
 unfold wN;rw[h0,aH];simp only[jU hm];rw[hf];exact hx
theorem Eb {i:Nat}{o:OT}(hi:Z[i]? =some (.ow o))(h:f (disown i Z)= .ok t)(hk:t.nk o.isD=true):ln i f Z= .ok t:=by
 unfold ln;rw[hi];simp only[h,aH,hk,if_true]
theorem JL {i:Nat}{k:Bool}(h:b (disown i Z)= .ok k):Hg i b Z= .ok k:=h
theorem yF {i:Nat}{x:Rs Fl}(h:F (disown i Z)=x):lK i F Z=x:=h
end
theorem mk2 (a b:T):kS [a,b] = .ok (.tup [a,b]):=by unfold kS;rw[if_pos (aw (k:=1000) (by simp only[LG,PQ];omega))]
theorem hY (n:Nat):(rng 0 n).length=n:=by unfold rng;rw[LA,Nf];omega
end Tr
namespace Gr
variable {ν:Type}[DecidableEq ν]
abbrev bY (ν:Type):=List (ν×ν×Int)
inductive Wk (L:bY ν):ν->ν->Int->Prop
 | nil (a:ν):Wk L a a 0
 | step {a b c:ν} {m s:Int}:(a,b,m)∈L->Wk L b c s->Wk L a c (m+s)
theorem Wk.one {L:bY ν}{a b:ν}{m:Int}(h:(a,b,m)∈L):Wk L a b m:=by
 have:=Wk.step h (Wk.nil (L:=L) b)
 rwa [Int.add_zero]at this
theorem Wk.app {L:bY ν}{a b c:ν}{s t:Int}(h:Wk L a b s)(k:Wk L b c t):Wk L a c (s+t):=by
 induction h with
 | nil a=>rwa [Int.zero_add]
 | step e _ ih=>rw[Int.add_assoc];exact .step e (ih k)
def Holds (L:bY ν)(t:ν->Int):Prop:=∀a b m,(a,b,m)∈L->t b - t a<=m
theorem Holds.walk {L:bY ν}{t:ν->Int}(h:Holds L t){a b:ν}{s:Int}(w:Wk L a b s):t b - t a<=s:=by
 induction w with
 | nil a=>omega
 | step e _ ih=>have:=h _ _ _ e;omega
def cM (L:bY ν):Prop:=∀a s,Wk L a a s->0<=s
theorem Holds.KP {L:bY ν}{t:ν->Int}(h:Holds L t):cM L:=λa s w=>by have:=h.walk w;omega
def Ch (L:bY ν):ν->List Nat->ν->Prop
 | a,[],b=>a=b
 | a,k::r,b=> ∃c m,L[k]? =some (a,c,m)/\Ch L c r b
def most (L:bY ν)(k:Nat):Int:=match L[k]? with
 | some x=>x.2.2
 | none=>0
def fI (L:bY ν):List Nat->Int
 | [] =>0
 | k::r=>most L k+fI L r
theorem mm (L:bY ν):∀(p q:List Nat),fI L (p++q)=fI L p+fI L q
 | [],q=>by simp[fI]
 | k::p,q=>by rw[List.cons_append,fI,fI,mm L p q];omega
theorem Ch.wk {L:bY ν}:∀{ks:List Nat} {a b:ν},Ch L a ks b->Wk L a b (fI L ks)
 | [],a,b,h=>by cases h;exact .nil a
 | k::r,a,b,⟨c,m,e,h⟩=>by
  have:fI L (k::r)=m+fI L r:=by rw[fI,most,e]
  rw[this];exact .step (Nz e) h.wk
theorem Ch.app {L:bY ν}:∀{p q:List Nat} {a b c:ν},Ch L a p b->Ch L b q c->Ch L a (p++q) c
 | [],q,a,b,c,h,k=>by cases h;exact k
 | x::p,q,a,b,c,⟨d,m,e,h⟩,k=>⟨d,m,e,Ch.app h k⟩
theorem Ch.lt {L:bY ν}:∀{ks:List Nat} {a b:ν},Ch L a ks b->∀k∈ks,k<L.length
 | [],_,_,_,k,hk=>by simp at hk
 | x::r,a,b,⟨c,m,e,h⟩,k,hk=>by
  rcases LH.mp hk with rfl | hk
  ·exact(LM.mp e).1
  ·exact h.lt k hk
theorem Ch.snoc {L:bY ν}{p:List Nat}{k:Nat}{a b c:ν}{m:Int}(h:Ch L a p b)(e:L[k]? =some (b,c,m)):Ch L a (p++ [k]) c:=h.app ⟨c,m,e,rfl⟩
def src (L:bY ν)(k:Nat):Option ν:=(L[k]?).map (·.1)
abbrev cA (ν:Type):=ν->Option (Int×List Nat)
def put (b:cA ν)(v:ν)(x:Int×List Nat):cA ν:=λu=>if u=v then some x else b u
theorem fx {b:cA ν}{v:ν}{x:Int×List Nat}:put b v x v=some x:=by unfold put;rw[if_pos rfl]
theorem k4 {b:cA ν}{u v:ν}{x:Int×List Nat}(h:u≠v):put b v x u=b u:=by unfold put;rw[if_neg h]
def fH (L:bY ν)(ks:List Nat):List ν:=ks.filterMap (src L)
def fB (b:cA ν)(v:ν)(d:Int):Bool:=match b v with
 | none=>true
 | some x=>decide (d<x.1)
def iK (L:bY ν)(b:cA ν)(k:Nat)(x:ν×ν×Int):Sum (Option (cA ν)) (List Nat):=match b x.1 with
 | none=> .inl none
 | some (d,w)=>if fB b x.2.1 (d+x.2.2)=true then
   if x.2.1∈fH L (w++ [k])then .inr ((w++ [k]).drop ((fH L (w++ [k])).idxOf x.2.1))else .inl (some (put b x.2.1 (d+x.2.2,w++ [k])))
  else .inl none
def jl (L:bY ν):Nat->bY ν->cA ν->Bool->Sum (cA ν×Bool) (List Nat)
 | _,[],b,mv=> .inl (b,mv)
 | k,x::r,b,mv=>match iK L b k x with
  | .inr q=> .inr q
  | .inl none=>jl L (k+1) r b mv
  | .inl (some b')=>jl L (k+1) r b' true
def settle (L:bY ν):Nat->cA ν->Option (Sum (cA ν) (List Nat))
 | 0,_=>none
 | n+1,b=>match jl L 0 L b false with
  | .inr q=>some (.inr q)
  | .inl (b',true)=>settle L n b'
  | .inl (b',false)=>some (.inl b')
theorem sY (L:bY ν)(p q:List Nat):fH L (p++q)=fH L p++fH L q:=by unfold fH;rw[List.filterMap_append]
theorem sX {L:bY ν}{k:Nat}{x:ν×ν×Int}(e:L[k]? =some x):fH L [k] = [x.1]:=by unfold fH src;simp[e]
theorem Ch.Ks {L:bY ν}{k:Nat}{r:List Nat}{a b:ν}(h:Ch L a (k::r) b):fH L (k::r)=a::fH L r:=by
 obtain⟨c,m,e,_⟩:=h;rw[show k::r= [k] ++r from rfl,sY,sX e];rfl
theorem Ch.cut {L:bY ν}{v:ν}:∀{ks:List Nat} {a b:ν},Ch L a ks b->v∈fH L ks->Ch L a (ks.take ((fH L ks).idxOf v)) v/\Ch L v (ks.drop ((fH L ks).idxOf v)) b/\(fH L ks).idxOf v<ks.length
 | [],a,b,_,hv=>by simp[fH]at hv
 | k::r,a,b,h,hv=>by
  rw[h.Ks]at hv ⊢
  have h0:=h;obtain⟨c,m,e,h⟩:=h
  by_cases z:a=v
  ·subst z
   rw[List.idxOf_cons_self];exact⟨rfl,h0,by simp⟩
  ·have hv':v∈fH L r:=by
    rcases LH.mp hv with q | q
    ·exact absurd q.symm z
    ·exact q
   obtain⟨h1,h2,h3⟩:=h.cut hv'
   have ei:(a::fH L r).idxOf v=(fH L r).idxOf v+1:=by
    rw[Tx]
    have:(a == v)=false:=by rw[beq_eq_false_iff_ne];exact z
    rw[this];rfl
   rw[ei];exact⟨⟨c,m,e,h1⟩,h2,by simpa using h3⟩
structure Kept (L:bY ν)(S:List ν)(b:cA ν):Prop where
 walk:∀v d w,b v=some (d,w)->∃s∈S,Ch L s w v/\fI L w=d/\v∉fH L w/\(fH L w).Nodup/\∀p q u,w=p++q->Ch L s p u->∃d' w',b u=some (d',w')/\d'<=fI L p
 start:∀s∈S,∃d w,b s=some (d,w)/\d<=0
theorem Kept.put {L:bY ν}{S:List ν}{b:cA ν}(K:Kept L S b){k:Nat}{a c:ν}{m d:Int}{w:List Nat}(e:L[k]? =some (a,c,m))(ha:b a=some (d,w))(hb:fB b c (d+m)=true)(hn:c∉fH L (w++ [k])) :
  Kept L S (put b c (d+m,w++ [k])):=by
 have low:∀u d' w',b u=some (d',w')->∃d'' w'',Gr.put b c (d+m,w++ [k]) u=some (d'',w'')/\d''<=d':=λu d' w' h=>by
  by_cases z:u=c
  ·subst z
   refine⟨_,_,fx,?_⟩
   unfold fB at hb;rw[h]at hb
   have:=of_decide_eq_true hb;omega
  ·exact⟨d',w',by rw[k4 z];exact h,NW _⟩
 obtain⟨s,hs,h1,h2,h3,h4,h5⟩:=K.walk a d w ha
 have hch:Ch L s (w++ [k]) c:=h1.snoc e
 have hcost:fI L (w++ [k])=d+m:=by rw[mm,h2,fI,fI,most,e];simp
 refine⟨λv d' w' h=> ?_,λs' hs'=> ?_⟩
 ·by_cases z:v=c
  ·subst z
   rw[fx]at h;cases h;refine⟨s,hs,hch,hcost,hn,?_,λp q u hpq hp=> ?_⟩
   ·rw[sY,sX e]
    exact MN.mpr ⟨h4,by simp,λx hx y hy=>by simp at hy;subst hy;exact λz=>h3 (z▸hx)⟩
   ·by_cases hq:q= []
    ·subst hq
     rw[Mj]at hpq;subst hpq
     have:u=v:=by
      clear low hb hn h5
      have aux:∀{ks:List Nat} {x y z:ν},Ch L x ks y->Ch L x ks z->y=z:=by
       intro ks
       induction ks with
       | nil=>intro x y z h1 h2;cases h1;cases h2;rfl
       | cons k r ih=>
        rintro x y z ⟨c1,m1,e1,r1⟩ ⟨c2,m2,e2,r2⟩
        rw[e1]at e2;cases e2;exact ih r1 r2
      exact aux hp hch
     subst this;exact⟨_,_,fx,by rw[hcost];exact NW _⟩
    ·have hw:∃q',w=p++q':=by
      refine⟨q.dropLast,?_⟩
      have:=congrArg List.dropLast hpq;rw[List.dropLast_concat,List.dropLast_append_of_ne_nil hq]at this;exact this
     obtain⟨q',hw⟩:=hw;obtain⟨d1,w1,e1,l1⟩:=h5 p q' u hw hp;obtain⟨d2,w2,e2,l2⟩:=low u d1 w1 e1;exact⟨d2,w2,e2,by omega⟩
  ·rw[k4 z]at h
   obtain⟨s',hs',g1,g2,g3,g4,g5⟩:=K.walk v d' w' h;refine⟨s',hs',g1,g2,g3,g4,λp q u hpq hp=> ?_⟩
   obtain⟨d1,w1,e1,l1⟩:=g5 p q u hpq hp;obtain⟨d2,w2,e2,l2⟩:=low u d1 w1 e1;exact⟨d2,w2,e2,by omega⟩
 ·obtain⟨d1,w1,e1,l1⟩:=K.start s' hs'
  obtain⟨d2,w2,e2,l2⟩:=low s' d1 w1 e1;exact⟨d2,w2,e2,by omega⟩
def Bar (L:bY ν)(q:List Nat):Prop:=q≠ []/\(∃a,Ch L a q a)/\fI L q<0/\(fH L q).Nodup
theorem Ch.KF {L:bY ν}:∀{ks:List Nat} {a b:ν} (i:Nat),Ch L a ks b->fH L (ks.drop i)=(fH L ks).drop i
 | [],_,_,i,_=>by simp[fH]
 | k::r,a,b,0,_=>rfl
 | k::r,a,b,i+1,h=>by
  have:=h;obtain⟨c,m,e,h'⟩:=this;rw[h.Ks,RB,RB,h'.KF i]
theorem Kept.round {L:bY ν}{S:List ν}{b:cA ν}(K:Kept L S b){k:Nat}{a c:ν}{m d:Int}{w:List Nat}(e:L[k]? =some (a,c,m))(ha:b a=some (d,w))(hb:fB b c (d+m)=true)(hn:c∈fH L (w++ [k])) :
  Bar L ((w++ [k]).drop ((fH L (w++ [k])).idxOf c)):=by
 obtain⟨s,hs,h1,h2,h3,h4,h5⟩:=K.walk a d w ha
 have hch:Ch L s (w++ [k]) c:=h1.snoc e
 have hcost:fI L (w++ [k])=d+m:=by rw[mm,h2,fI,fI,most,e];simp
 obtain⟨c1,c2,c3⟩:=hch.cut hn
 generalize hi:(fH L (w++ [k])).idxOf c=i at c1 c2 c3
 refine⟨λz=> ?_,⟨c,c2⟩,?_,?_⟩
 ·have:=congrArg MD z
  rw[Nx]at this
  simp at this c3
  omega
 ·have hsum:fI L ((w++ [k]).take i)+fI L ((w++ [k]).drop i)=d+m:=by rw[<-mm,Pr,hcost]
  have hiw:i<=w.length:=by simp at c3;omega
  have ht:(w++ [k]).take i=w.take i:=by rw[List.take_append_of_le_length hiw]
  rw[ht]at c1 hsum;obtain⟨d1,w1,e1,l1⟩:=h5 (w.take i) (w.drop i) c (Pr i w).symm c1;unfold fB at hb;rw[e1]at hb
  have:=of_decide_eq_true hb;simp only at this;omega
 ·rw[hch.KF,sY,sX e]
  refine(List.drop_sublist _ _).nodup (MN.mpr ⟨h4,by simp,λx hx y hy=> ?_⟩)
  rw[LZ.mp hy];exact λz=>h3 (by have z:x=a:=z;rw[<-z];exact hx)
def size (L:bY ν):Nat:=(L.map λx=>x.2.2.natAbs).sum
theorem kH {f:Nat->Nat}:∀{ks rs:List Nat},ks.Nodup->(∀k∈ks,k∈rs)->(ks.map f).sum<=(rs.map f).sum
 | [],rs,_,_=>by simp
 | k::ks,rs,hn,hs=>by
  have hk:k∈rs:=hs k Lz;rw[L7]at hn
  have hp:=List.perm_cons_erase hk
  have e:(rs.map f).sum=f k+((rs.erase k).map f).sum:=by
   have:=(hp.map f).sum_nat
   rwa [Lx,Nm]at this
  rw[e,Lx,Nm]
  have:=kH (f:=f) hn.2 (rs:=rs.erase k) λj hj=>by
   have h1:=hs j (Lw _ hj);exact(Rm (λ(z:j=k)=>hn.1 (z▸hj))).mpr h1
  omega
theorem wK (L:bY ν):size L=((MA L.length).map λk=>(most L k).natAbs).sum:=by
 unfold size
 congr 1
 apply List.ext_getElem
 ·simp
 ·intro i h1 h2
  simp only[OF,RV];unfold most;rw[LN (by simpa using h1)]
theorem yP (L:bY ν):∀(ks:List Nat),(fI L ks).natAbs<=(ks.map λk=>(most L k).natAbs).sum
 | [] =>by simp[fI]
 | k::r=>by
  have:=yP L r;rw[fI,Lx,Nm];omega
theorem Ch.nodup {L:bY ν}:∀{ks:List Nat} {a b:ν},Ch L a ks b->(fH L ks).Nodup->ks.Nodup
 | [],_,_,_,_=>NU
 | k::r,a,b,h,hn=>by
  have h0:=h;rw[h.Ks,L7]at hn;obtain⟨c,m,e,h⟩:=h;rw[L7];refine⟨λhk=>hn.1 ?_,h.nodup hn.2⟩
  unfold fH src;exact P8.mpr ⟨k,hk,by rw[e];rfl⟩
theorem Ch.small {L:bY ν}{ks:List Nat}{a b:ν}(h:Ch L a ks b)(hn:(fH L ks).Nodup):(fI L ks).natAbs<=size L:=by
 rw[wK];exact Md (yP L ks) (kH (h.nodup hn) λk hk=>MZ.mpr (h.lt k hk))
def val (M:Nat)(b:cA ν)(v:ν):Nat:=match b v with
 | none=>2*M+1
 | some x=>(x.1+M).toNat
def left (M:Nat)(b:cA ν)(L:bY ν):Nat:=(L.map λx=>val M b x.2.1).sum
theorem yr {M:Nat}{b b':cA ν}:∀{L:bY ν},(∀x∈L,val M b' x.2.1<=val M b x.2.1)->left M b' L<=left M b L
 | [],_=>by simp[left]
 | x::L,h=>by
  have h1:=h x Lz
  have h2:=yr (L:=L) λy hy=>h y (Lw _ hy)
  unfold left at h2 ⊢;rw[Lx,Nm,Lx,Nm];omega
theorem yq {M:Nat}{b b':cA ν}{x:ν×ν×Int}:∀{L:bY ν},x∈L->(∀x∈L,val M b' x.2.1<=val M b x.2.1)->val M b' x.2.1<val M b x.2.1->left M b' L<left M b L
 | [],hx,_,_=>by simp at hx
 | y::L,hx,h,hl=>by
  have h1:=h y Lz
  have h2:=yr (L:=L) λy hy=>h y (Lw _ hy)
  unfold left at h2 ⊢;rw[Lx,Nm,Lx,Nm];rcases LH.mp hx with rfl | hx
  ·omega
  ·have h3:=yq (L:=L) hx (λy hy=>h y (Lw _ hy)) hl
   unfold left at h3;omega
theorem BF {L:bY ν}{S:List ν}{b:cA ν}(K:Kept L S b){k:Nat}{a c:ν}{m d:Int}{w:List Nat}(e:L[k]? =some (a,c,m))(ha:b a=some (d,w))(hb:fB b c (d+m)=true)(hn:c∉fH L (w++ [k])) :
  left (size L) (put b c (d+m,w++ [k])) L<left (size L) b L:=by
 have K':=K.put e ha hb hn;obtain⟨s,hs,h1,h2,h3,h4,h5⟩:=K'.walk c (d+m) (w++ [k]) fx
 have sm:=h1.small h4;rw[h2]at sm
 have lt:val (size L) (put b c (d+m,w++ [k])) c<val (size L) b c:=by
  unfold val fB at*;rw[fx]
  cases z:b c with
  | none=>simp only;omega
  | some y=>
   rw[z]at hb
   have hb:=of_decide_eq_true hb;simp only;omega
 refine yq (x:=(a,c,m)) (Nz e) (λy _=> ?_) lt
 by_cases z:y.2.1=c
 ·rw[z];exact Nt lt
 ·unfold val;rw[k4 z];exact LL _
def CK (b:cA ν)(x:ν×ν×Int):Prop:=∀d w,b x.1=some (d,w)->∃d' w',b x.2.1=some (d',w')/\d'<=d+x.2.2
theorem AB {b:cA ν}{x:ν×ν×Int}(h:∀d w,b x.1=some (d,w)->fB b x.2.1 (d+x.2.2)=false):CK b x:=λd w e=>by
 have:=h d w e;unfold fB at this
 cases z:b x.2.1 with
 | none=>rw[z]at this;cases this
 | some y=>
  rw[z]at this
  have:=of_decide_eq_false this;exact⟨y.1,y.2,rfl,by omega⟩
theorem jA {L:bY ν}{S:List ν}:∀(r:bY ν) (k:Nat) (b:cA ν) (mv:Bool),L.drop k=r->Kept L S b->match jl L k r b mv with
  | .inr q=>Bar L q
  | .inl (b',mv')=>Kept L S b'/\(mv'=false->mv=false/\b'=b/\∀x∈r,CK b x)/\left (size L) b' L<=left (size L) b L/\(mv'=true->mv=true\/left (size L) b' L<left (size L) b L)
 | [],k,b,mv,_,K=>⟨K,λh=>⟨h,rfl,λx hx=>by simp at hx⟩,LL _,λh=> .inl h⟩
 | x::r,k,b,mv,hr,K=>by
  have e:L[k]? =some x:=by
   have:=congrArg (·[0]?) hr
   simpa using this
  have hr':L.drop (k+1)=r:=by
   have:=congrArg (List.drop 1) hr
   simpa [List.drop_drop,SA]using this
  rw[jl];obtain⟨a,c,m⟩:=x;unfold iK
  cases z:b a with
  | none=>
   simp only[z]
   have ih:=jA r (k+1) b mv hr' K
   revert ih
   generalize jl L (k+1) r b mv=R
   cases R with
   | inr q=>exact id
   | inl p=>
    obtain⟨b',mv'⟩:=p
    rintro ⟨i1,i2,i3,i4⟩
    refine⟨i1,λh=> ?_,i3,i4⟩
    obtain⟨j1,j2,j3⟩:=i2 h;refine⟨j1,j2,λx hx=> ?_⟩
    rcases LH.mp hx with rfl | hx
    ·intro d w q;rw[z]at q;cases q
    ·exact j3 x hx
  | some y=>
   obtain⟨d,w⟩:=y;simp only[z]
   by_cases hb:fB b c (d+m)=true
   ·rw[if_pos hb]
    by_cases hn:c∈fH L (w++ [k])
    ·rw[if_pos hn]
     exact K.round e z hb hn
    ·rw[if_neg hn]
     have K':=K.put e z hb hn
     have lt:=BF K e z hb hn
     have ih:=jA r (k+1) (put b c (d+m,w++ [k])) true hr' K'
     revert ih
     simp only
     generalize jl L (k+1) r (put b c (d+m,w++ [k])) true=R
     cases R with
     | inr q=>exact id
     | inl p=>
      obtain⟨b',mv'⟩:=p
      rintro ⟨i1,i2,i3,i4⟩
      refine⟨i1,λh=> ?_,by omega,λ_=> .inr (by omega)⟩
      obtain⟨j1,_⟩:=i2 h;cases j1
   ·rw[if_neg hb]
    have ih:=jA r (k+1) b mv hr' K
    revert ih
    simp only
    generalize jl L (k+1) r b mv=R
    cases R with
    | inr q=>exact id
    | inl p=>
     obtain⟨b',mv'⟩:=p
     rintro ⟨i1,i2,i3,i4⟩
     refine⟨i1,λh=> ?_,i3,i4⟩
     obtain⟨j1,j2,j3⟩:=i2 h;refine⟨j1,j2,λx hx=> ?_⟩
     rcases LH.mp hx with rfl | hx
     ·refine AB λd' w' q=> ?_
      simp only at q;rw[z]at q;cases q
      simpa using hb
     ·exact j3 x hx
structure Settled (L:bY ν)(S:List ν)(b:cA ν):Prop where
 walk:∀v d w,b v=some (d,w)->∃s∈S,Ch L s w v/\fI L w=d/\v∉fH L w/\(fH L w).Nodup
 least:∀s∈S,∀v t,Wk L s v t->∃d w,b v=some (d,w)/\d<=t
theorem wL {L:bY ν}{S:List ν}{b:cA ν}(K:Kept L S b)(h:∀x∈L,CK b x):Settled L S b where
 walk:=λv d w e=>by
  obtain⟨s,h1,h2,h3,h4,h5,_⟩:=K.walk v d w e;exact⟨s,h1,h2,h3,h4,h5⟩
 least:=by
  have go:∀{u v:ν} {t:Int},Wk L u v t->∀d w,b u=some (d,w)->∃d' w',b v=some (d',w')/\d'<=d+t:=by
   intro u v t hw
   induction hw with
   | nil a=>exact λd w e=>⟨d,w,e,by omega⟩
   | step e _ ih=>
    intro d w q;obtain⟨d1,w1,e1,l1⟩:=h _ e d w q;obtain⟨d2,w2,e2,l2⟩:=ih d1 w1 e1;exact⟨d2,w2,e2,by simp only at l1;omega⟩
  intro s hs v t hw;obtain⟨d,w,e,l⟩:=K.start s hs;obtain⟨d2,w2,e2,l2⟩:=go hw d w e;exact⟨d2,w2,e2,by omega⟩
theorem rl {L:bY ν}{S:List ν}:∀(n:Nat) (b:cA ν),Kept L S b->left (size L) b L<n->∃r,settle L n b=some r/\match r with
  | .inr q=>Bar L q
  | .inl b'=>Settled L S b'
 | 0,b,K,h=>by omega
 | n+1,b,K,h=>by
  have s:=jA (S:=S) L 0 b false rfl K;rw[settle]
  revert s
  generalize jl L 0 L b false=R
  cases R with
  | inr q=>exact λs=>⟨_,rfl,s⟩
  | inl p=>
   obtain⟨b',mv'⟩:=p
   rintro ⟨i1,i2,i3,i4⟩
   cases mv' with
   | false=>
    obtain⟨_,j2,j3⟩:=i2 rfl;subst j2
    exact⟨_,rfl,wL i1 j3⟩
   | true=>
    rcases i4 rfl with z | z
    ·cases z
    ·exact rl n b' i1 (by omega)
def start (S:List ν):cA ν:=λv=>if v∈S then some (0,[])else none
theorem pL (L:bY ν)(S:List ν):Kept L S (start S) where
 walk:=λv d w e=>by
  unfold start at e
  split at e
  ·rename_i h
   cases e;refine⟨v,h,rfl,rfl,by simp[fH],by simp[fH],λp q u hpq hp=> ?_⟩
   obtain⟨rfl,rfl⟩:=List.append_eq_nil_iff.mp hpq.symm;cases hp;exact⟨0,[],by unfold start;rw[if_pos h],by simp[fI]⟩
  ·cases e
 start:=λs hs=>⟨0,[],by unfold start;rw[if_pos hs],NW _⟩
theorem BG (L:bY ν)(S:List ν):left (size L) (start S) L<=L.length*(2*size L+1):=by
 unfold left
 have:∀M:bY ν,(M.map λx=>val (size L) (start S) x.2.1).sum<=M.length*(2*size L+1):=by
  intro M
  induction M with
  | nil=>simp
  | cons x M ih=>
   rw[Lx,Nm,LG,Nat.succ_mul]
   have:val (size L) (start S) x.2.1<=2*size L+1:=by
    unfold val start;split
    ·exact LL _
    ·rename_i h
     split at h
     ·cases h;simp;omega
     ·cases h
   omega
 exact this L
theorem wM (L:bY ν)(S:List ν){n:Nat}(h:L.length*(2*size L+1)<n):∃r,settle L n (start S)=some r/\match r with
  | .inr q=>Bar L q
  | .inl b'=>Settled L S b':=rl n (start S) (pL L S) (OW (BG L S) h)
theorem Bar.neg {L:bY ν}{q:List Nat}(h:Bar L q):¬ cM L:=λn=>by
 obtain⟨_,⟨a,ha⟩,hc,_⟩:=h
 have:=n a _ ha.wk;omega
theorem Settled.holds {L:bY ν}{S:List ν}{b:cA ν}(h:Settled L S b)(hS:∀x∈L,x.1∈S/\x.2.1∈S){t:ν->Int}(ht:∀v∈S,∃w,b v=some (t v,w)):Holds L t:=λa c m hx=>by
 obtain⟨ha,hc⟩:=hS _ hx;obtain⟨w,e⟩:=ht a ha;obtain⟨s,hs,h1,h2,_⟩:=h.walk a _ _ e;obtain⟨d,w',e',l⟩:=h.least s hs c _ (h1.wk.app (.one hx));obtain⟨w2,e2⟩:=ht c hc;rw[e2]at e';cases e';omega
inductive Pth (L:bY ν):ν->List ν->ν->Int->Prop
 | one {a b:ν} {m:Int}:(a,b,m)∈L->Pth L a [] b m
 | cons {a x b:ν} {ms:List ν} {m s:Int}:(a,x,m)∈L->Pth L x ms b s->Pth L a (x::ms) b (m+s)
theorem Pth.cut {L:bY ν}{x:ν}{q:List ν}:∀{p:List ν} {a b:ν} {s:Int},Pth L a (p++x::q) b s->∃s1 s2,Pth L a p x s1/\Pth L x q b s2/\s=s1+s2
 | [],a,b,s,h=>by
  cases h with
  | cons e h=>exact⟨_,_,.one e,h,rfl⟩
 | y::p,a,b,s,h=>by
  cases h with
  | cons e h=>
   obtain⟨s1,s2,h1,h2,h3⟩:=Pth.cut h;exact⟨_,s2,.cons e h1,h2,by omega⟩
def HZ (L:bY ν)(u v:ν)(s:Int):Prop:=(u=v/\s=0)\/(u≠v/\∃ms,Pth L u ms v s/\ms.Nodup/\u∉ms/\v∉ms)
def CO (L:bY ν):Prop:=∃x ms s,Pth L x ms x s/\ms.Nodup/\x∉ms/\s<0
theorem Wk.simple {L:bY ν}{u v:ν}{s:Int}(w:Wk L u v s):CO L\/∃s',s'<=s/\HZ L u v s':=by
 induction w with
 | nil a=>exact .inr ⟨0,NW _,.inl ⟨rfl,rfl⟩⟩
 | @step a b c m s e w ih=>
  rcases ih with ih | ⟨s',hs,ih⟩
  ·exact .inl ih
  by_cases hab:a=b
  ·subst hab
   by_cases hm:m<0
   ·exact .inl ⟨a,[],m,.one e,NU,by simp,hm⟩
   ·exact .inr ⟨s',by omega,ih⟩
  rcases ih with⟨rfl,rfl⟩ | ⟨hbc,ms,hp,hn,hb,hc⟩
  ·exact .inr ⟨m,by omega,.inr ⟨hab,[],.one e,NU,by simp,by simp⟩⟩
  by_cases hac:a=c
  ·subst hac
   by_cases hm:m+s'<0
   ·exact .inl ⟨a,b::ms,m+s',.cons e hp,L7.mpr ⟨hb,hn⟩,by simp[hab,hc],hm⟩
   ·exact .inr ⟨0,by omega,.inl ⟨rfl,rfl⟩⟩
  by_cases ham:a∈ms
  ·obtain⟨p,q,rfl⟩:=RW ham
   obtain⟨s1,s2,h1,h2,h3⟩:=hp.cut;rw[MN]at hn;obtain⟨n1,n2,n3⟩:=hn;rw[L7]at n2
   have hap:a∉p:=λz=>n3 a z a Lz rfl
   by_cases hm:m+s1<0
   ·refine .inl ⟨a,b::p,m+s1,.cons e h1,L7.mpr ⟨λz=>hb (Mm _ z),n1⟩,by simp[hab,hap],hm⟩
   ·exact .inr ⟨s2,by omega,.inr ⟨hac,q,h2,n2.2,n2.1,λz=>hc (L3 _ (Lw _ z))⟩⟩
  ·refine .inr ⟨m+s',by omega,.inr ⟨hac,b::ms,.cons e hp,L7.mpr ⟨hb,hn⟩,by simp[hab,ham],?_⟩⟩
   simp only[LH,not_or];exact⟨λz=>hbc z.symm,hc⟩
abbrev di (ν:Type):=ν->ν->Option Int
def jP (f:di ν)(a b:ν)(x:Int):di ν:=λu v=>if u=a/\v=b then some x else f u v
def nR (f:di ν)(a b:ν)(x:Int):di ν:=match f a b with
 | none=>jP f a b x
 | some y=>if x<y then jP f a b x else f
def l9 (mid one other:ν)(f:di ν):di ν:=match f one mid,f mid other with
 | some x,some y=>nR f one other (x+y)
 | _,_=>f
def uL (P:List ν):di ν:=λu v=>if u∈P/\u=v then some 0 else none
def Av (P:List ν)(L:bY ν):di ν:=L.foldl (λf x=>nR f x.1 x.2.1 x.2.2) (uL P)
def md (mid one:ν)(P:List ν)(f:di ν):di ν:=P.foldl (λf other=>l9 mid one other f) f
def pQ (mid:ν)(Q P:List ν)(f:di ν):di ν:=Q.foldl (λf one=>md mid one P f) f
def vY (M P:List ν)(f:di ν):di ν:=M.foldl (λf mid=>pQ mid P P f) f
def table (P:List ν)(L:bY ν):di ν:=vY P P (Av P L)
def Le (f g:di ν):Prop:=∀u v x,g u v=some x->∃y,f u v=some y/\y<=x
theorem Le.refl (f:di ν):Le f f:=λu v x h=>⟨x,h,NW _⟩
theorem Le.trans {f g h:di ν}(a:Le f g)(b:Le g h):Le f h:=λu v x e=>by
 obtain⟨y,e1,l1⟩:=b u v x e;obtain⟨z,e2,l2⟩:=a u v y e1;exact⟨z,e2,by omega⟩
theorem mT {f:di ν}{a b:ν}{x:Int}:jP f a b x a b=some x:=by unfold jP;rw[if_pos ⟨rfl,rfl⟩]
theorem uc (f:di ν)(a b:ν)(x:Int):Le (nR f a b x) f:=λu v y e=>by
 unfold nR
 cases q:f a b with
 | none=>
  by_cases z:u=a/\v=b
  ·obtain⟨rfl,rfl⟩:=z;rw[q]at e;cases e
  ·exact⟨y,by simp only;unfold jP;rw[if_neg z];exact e,NW _⟩
 | some y0=>
  simp only;split
  ·by_cases z:u=a/\v=b
   ·obtain⟨rfl,rfl⟩:=z;rw[q]at e;cases e
    exact⟨x,mT,by omega⟩
   ·exact⟨y,by unfold jP;rw[if_neg z];exact e,NW _⟩
  ·exact⟨y,e,NW _⟩
theorem yL (f:di ν)(a b:ν)(x:Int):∃y,nR f a b x a b=some y/\y<=x:=by
 unfold nR
 cases q:f a b with
 | none=>exact⟨x,mT,NW _⟩
 | some y0=>
  simp only;split
  ·exact⟨x,mT,NW _⟩
  ·exact⟨y0,q,by omega⟩
theorem pT {L:bY ν}{f:di ν}{a b:ν}{x:Int}(h:∀u v y,f u v=some y->Wk L u v y)(hx:Wk L a b x):∀u v y,nR f a b x u v=some y->Wk L u v y:=λu v y e=>by
 have key:jP f a b x u v=some y->Wk L u v y:=λe'=>by
  unfold jP at e'
  by_cases z:u=a/\v=b
  ·rw[if_pos z]at e';injection e' with e';rw[z.1,z.2,<-e'];exact hx
  ·rw[if_neg z]at e';exact h u v y e'
 unfold nR at e
 cases q:f a b with
 | none=>rw[q]at e;exact key e
 | some y0=>
  rw[q]at e;simp only at e
  split at e
  ·exact key e
  ·exact h u v y e
theorem vW (mid one other:ν)(f:di ν):Le (l9 mid one other f) f:=by
 unfold l9;split
 ·exact uc _ _ _ _
 ·exact Le.refl f
theorem B7 {mid one other:ν}{f:di ν}{x y:Int}(h1:f one mid=some x)(h2:f mid other=some y):∃z,l9 mid one other f one other=some z/\z<=x+y:=by
 unfold l9;rw[h1,h2];exact yL _ _ _ _
theorem ko {α:Type}(step:di ν->α->di ν)(hs:∀f a,Le (step f a) f):∀(l:List α) (f:di ν),Le (l.foldl step f) f
 | [],f=>Le.refl f
 | a::l,f=>(ko step hs l (step f a)).trans (hs f a)
theorem pP (mid one:ν)(P:List ν)(f:di ν):Le (md mid one P f) f:=ko _ (λf o=>vW mid one o f) P f
theorem vX (mid:ν)(Q P:List ν)(f:di ν):Le (pQ mid Q P f) f:=ko _ (λf o=>pP mid o P f) Q f
theorem Cc (M P:List ν)(f:di ν):Le (vY M P f) f:=ko _ (λf o=>vX o P P f) M f
theorem n8 {α:Type}(step:di ν->α->di ν)(hs:∀f a,Le (step f a) f):∀(l:List α) (f:di ν) (a:α),a∈l->∃g,Le g f/\Le (l.foldl step f) (step g a)
 | [],f,a,h=>by simp at h
 | b::l,f,a,h=>by
  rcases LH.mp h with rfl | h
  ·exact⟨f,Le.refl f,ko step hs l (step f a)⟩
  ·obtain⟨g,h1,h2⟩:=n8 step hs l (step f b) a h
   exact⟨g,h1.trans (hs f b),h2⟩
theorem Cb {mid u v:ν}{P:List ν}{f:di ν}{x y:Int}(hu:u∈P)(hv:v∈P)(h1:f u mid=some x)(h2:f mid v=some y):∃z,pQ mid P P f u v=some z/\z<=x+y:=by
 obtain⟨g,g1,g2⟩:=n8 (λf one=>md mid one P f) (λf o=>pP mid o P f) P f u hu
 obtain⟨g',g3,g4⟩:=n8 (λf other=>l9 mid u other f) (λf o=>vW mid u o f) P g v hv
 have l:Le g' f:=g3.trans g1;obtain⟨x',e1,l1⟩:=l _ _ _ h1;obtain⟨y',e2,l2⟩:=l _ _ _ h2;obtain⟨z,e3,l3⟩:=B7 e1 e2;obtain⟨z',e4,l4⟩:=(g2.trans g4) _ _ _ e3;exact⟨z',e4,by omega⟩
def Up (L:bY ν)(M:List ν)(f:di ν):Prop:=∀u v ms s,Pth L u ms v s->ms.Nodup->(∀x∈ms,x∈M)->∃y,f u v=some y/\y<=s
theorem Pth.ends {L:bY ν}{P:List ν}(hL:∀x∈L,x.1∈P/\x.2.1∈P){u v:ν}{ms:List ν}{s:Int}(h:Pth L u ms v s):u∈P/\v∈P/\∀x∈ms,x∈P:=by
 induction h with
 | one e=>exact⟨(hL _ e).1,(hL _ e).2,by simp⟩
 | cons e _ ih=>exact⟨(hL _ e).1,ih.2.1,λx hx=>by
   rcases LH.mp hx with rfl | hx
   ·exact ih.1
   ·exact ih.2.2 x hx⟩
theorem Up.mid {L:bY ν}{P M:List ν}{f:di ν}(hL:∀x∈L,x.1∈P/\x.2.1∈P)(h:Up L M f)(k:ν):Up L (k::M) (pQ k P P f):=λu v ms s hp hn hm=>by
 by_cases hk:k∈ms
 ·obtain⟨p,q,rfl⟩:=RW hk
  obtain⟨s1,s2,h1,h2,h3⟩:=hp.cut;rw[MN]at hn;obtain⟨n1,n2,n3⟩:=hn;rw[L7]at n2
  have hp':∀x∈p,x∈M:=λx hx=>by
   rcases LH.mp (hm x (Mm _ hx))with rfl | z
   ·exact absurd rfl (n3 x hx x Lz)
   ·exact z
  have hq':∀x∈q,x∈M:=λx hx=>by
   rcases LH.mp (hm x (L3 _ (Lw _ hx)))with rfl | z
   ·exact absurd hx n2.1
   ·exact z
  obtain⟨y1,e1,l1⟩:=h u k p s1 h1 n1 hp';obtain⟨y2,e2,l2⟩:=h k v q s2 h2 n2.2 hq';obtain⟨z,e3,l3⟩:=Cb (P:=P) (h1.ends hL).1 (h2.ends hL).2.1 e1 e2;exact⟨z,e3,by omega⟩
 ·obtain⟨y,e,l⟩:=h u v ms s hp hn λx hx=>by
   rcases LH.mp (hm x hx)with rfl | z
   ·exact absurd hx hk
   ·exact z
  obtain⟨z,e2,l2⟩:=vX k P P f u v y e;exact⟨z,e2,by omega⟩
theorem Up.Li {L:bY ν}{P:List ν}(hL:∀x∈L,x.1∈P/\x.2.1∈P):∀(Q M:List ν) (f:di ν),Up L M f->∃M',(∀x,x∈Q\/x∈M->x∈M')/\Up L M' (vY Q P f)
 | [],M,f,h=>⟨M,λx hx=>hx.elim (λz=>by simp at z) id,h⟩
 | k::Q,M,f,h=>by
  obtain⟨M',h1,h2⟩:=Up.Li hL Q (k::M) (pQ k P P f) (h.mid hL k);refine⟨M',λx hx=>h1 x ?_,h2⟩
  rcases hx with hx | hx
  ·rcases LH.mp hx with rfl | hx
   ·exact .inr Lz
   ·exact .inl hx
  ·exact .inr (Lw _ hx)
theorem C7 {P:List ν}{L:bY ν}:Up L [] (Av P L):=λu v ms s hp hn hm=>by
 have:ms= []:=by
  cases ms with
  | nil=>rfl
  | cons x r=>exact absurd (hm x Lz) (by simp)
 subst this
 cases hp with
 | one e=>
  obtain⟨g,h1,h2⟩:=n8 (λ(f:di ν) (x:ν×ν×Int)=>nR f x.1 x.2.1 x.2.2) (λf x=>uc f _ _ _) L (uL P) _ e
  obtain⟨y,e1,l1⟩:=yL g u v s;obtain⟨z,e2,l2⟩:=h2 u v y e1;exact⟨z,e2,by omega⟩
theorem gX {α:Type}{L:bY ν}(step:di ν->α->di ν):∀(l:List α) (f:di ν),(∀f,∀a∈l,(∀u v y,f u v=some y->Wk L u v y)->∀u v y,step f a u v=some y->Wk L u v y)->(∀u v y,f u v=some y->Wk L u v y)->∀u v y,l.foldl step f u v=some y->Wk L u v y
 | [],f,_,h=>h
 | a::l,f,hs,h=>gX step l (step f a) (λf b hb=>hs f b (Lw _ hb)) (hs f a Lz h)
theorem m7 (P:List ν)(L:bY ν):∀u v y,table P L u v=some y->Wk L u v y:=by
 unfold table vY;refine gX _ P _ (λf m _ h=> ?_) ?_
 ·unfold pQ
  refine gX _ P _ (λf o _ h=> ?_) h
  unfold md;refine gX _ P _ (λf v _ h=> ?_) h
  unfold l9
  cases e1:f o m with
  | none=>exact h
  | some x=>
   cases e2:f m v with
   | none=>exact h
   | some y=>exact pT h ((h _ _ _ e1).app (h _ _ _ e2))
 ·unfold Av
  refine gX _ L _ (λf x hx h=>pT h (.one hx)) λu v y e=> ?_
  unfold uL at e
  split at e
  ·rename_i z;obtain⟨_,rfl⟩:=z;cases e;exact .nil u
  ·cases e
theorem uK {P:List ν}{L:bY ν}(hL:∀x∈L,x.1∈P/\x.2.1∈P):∀u v ms s,Pth L u ms v s->ms.Nodup->∃y,table P L u v=some y/\y<=s:=λu v ms s hp hn=>by
 obtain⟨M',h1,h2⟩:=Up.Li hL P [] (Av P L) C7;exact h2 u v ms s hp hn λx hx=>h1 x (.inl ((hp.ends hL).2.2 x hx))
theorem oB {P:List ν}{L:bY ν}{u:ν}(hu:u∈P):∃y,table P L u u=some y/\y<=0:=by
 have h0:uL P u u=some 0:=by unfold uL;rw[if_pos ⟨hu,rfl⟩]
 have h1:Le (table P L) (uL P):=(Cc P P _).trans (ko _ (λf x=>uc f _ _ _) L _)
 exact h1 u u 0 h0
structure gy (L:bY ν)(P:List ν)(f:di ν):Prop where
 is:∀u v d,f u v=some d->Wk L u v d
 le:∀u∈P,∀v t,Wk L u v t->∃d,f u v=some d/\d<=t
theorem rg {P:List ν}{L:bY ν}{u:ν}{y:Int}(h:table P L u u=some y)(hy:y<0):¬ cM L:=λn=>by
 have:=n u y (m7 P L u u y h);omega
theorem m9 {P:List ν}{L:bY ν}(hL:∀x∈L,x.1∈P/\x.2.1∈P)(h:∀u∈P,∀y,table P L u u=some y->0<=y):cM L/\gy L P (table P L):=by
 have nc:¬ CO L:=λ⟨x,ms,s,hp,hn,_,hs⟩=>by
  obtain⟨y,e,l⟩:=uK hL x x ms s hp hn
  have:=h x (hp.ends hL).1 y e;omega
 have le:∀u∈P,∀v t,Wk L u v t->∃d,table P L u v=some d/\d<=t:=λu hu v t w=>by
  rcases w.simple with z | ⟨s',hs,z⟩
  ·exact absurd z nc
  ·rcases z with⟨rfl,rfl⟩ | ⟨_,ms,hp,hn,_⟩
   ·obtain⟨y,e,l⟩:=oB (L:=L) hu
    exact⟨y,e,by omega⟩
   ·obtain⟨y,e,l⟩:=uK hL u v ms s' hp hn
    exact⟨y,e,by omega⟩
 refine⟨λa s w=> ?_,λu v d e=>m7 P L u v d e,le⟩
 by_cases ha:a∈P
 ·obtain⟨d,e,l⟩:=le a ha a s w
  have:=h a ha d e;omega
 ·cases w with
  | nil=>exact NW _
  | step e _=>exact absurd (hL _ e).1 ha
end Gr
namespace G
open PySem Tr
def isI:T->Bool
 | .int _=>true
 | _=>false
theorem Eo (t:T)(h:t.pl=true):i6 [t] = .ok (.bl (isI t)):=by
 cases t <;> first | rfl | (simp[T.pl]at h;done)
def bM (t:T)(a b:Int):Bool:=match t with
 | .int i=>decide (a<=i)&&decide (i<=b)
 | _=>false
theorem gZ (t:T)(a b:Int)(h:t.pl=true):bp [t,.int a,.int b] = .ok (.bl (bM t a b)):=by
 have w:=Eo t h
 cases t with
 | int i=>
  simp[bp,val,bU,jW,aV,aL,cb,vr,ch,cl,ae,ai,wm,bM,w,isI]
  cases decide (a<=i) <;> rfl
 | scr _=>simp[T.pl]at h
 | dct _ _=>simp[T.pl]at h
 | _=>simp[bp,val,bU,jW,aV,aL,cb,vr,ch,cl,ae,ai,bM,w,isI]
def fz (t:T)(a b:Nat):Bool:=match t with
 | .tup l=>decide (a<=l.length)&&decide (l.length<=b)
 | _=>false
theorem lj (t:T)(a b:Nat)(h:t.pl=true):aS [t,.int a,.int b] = .ok (.bl (fz t a b)):=by
 cases t with
 | tup l=>
  simp[aS,val,bU,se,aV,aL,cb,o1,vr,Ei,T.ty,yI,ch,cl,ae,ai,cI,T.items,wm,fz]
  cases decide (a<=l.length) <;> rfl
 | scr _=>simp[T.pl]at h
 | dct _ _=>simp[T.pl]at h
 | _=>rfl
def qz (x y:T):Bool:=bM x 1 9&&(match x with
 | .int i=>bM y i 9
 | _=>false)
theorem HJ (x y:T)(hx:x.pl=true)(hy:y.pl=true):gG [x,y] = .ok (.bl (qz x y)):=by
 have w:=gZ x 1 9 hx;unfold qz
 cases q:bM x 1 9 with
 | false=>rw[q]at w;simp[gG,val,bU,m5,aV,aL,cb,vr,cn,cl,ae,ai,w]
 | true=>
  rw[q]at w
  cases x with
  | int i=>simp[gG,val,bU,m5,aV,aL,cb,vr,cn,cl,ae,ai,w,gZ y i 9 hy]
  | _=>cases q
def ql:List Int->Bool
 | a::b::r=>decide (a<b)&&ql (b::r)
 | _=>true
theorem ID (a b:Int)(r:List Int):ql (a::b::r)=(decide (a<b)&&ql (b::r)):=rfl
theorem uv {fe:En->Rs T}{p:T->Bool}{l:List T}{fi:En->Rs (List T)}{src:List (Option Nat)}{Z:En}(hi:fi Z= .ok l)(hs:l.length<=sizeLine)(hn:0<src.length)(hf:∀t∈l,fe ((bR src Z).set 0 (.va t))= .ok (.bl (p t))) :
  cl qU (ae (eY fi src (gN 0) bT fe) ai) Z= .ok (.bl (l.all p)):=by
 have e:=xp (fe:=fe) (h:=λt=>T.bl (p t)) l (bR src Z) (by unfold bR;rw[LA];exact hn) hf
 simp only[cl,ae,ai,eY,hi,aH,if_pos hs,e,all_map]
def mM (l:List T):T->Bool
 | .int k=>match L2.atI l k,L2.atI l (k+1)with
  | some (.int a),some (.int b)=>decide (a<b)
  | _,_=>false
 | _=>false
theorem fw {t:T}{j:Int}(h:t∈rng 0 j):∃k:Nat,t= .int k/\(k:Int)<j:=by
 unfold rng at h;obtain⟨k,hk,e⟩:=LW.mp h;rw[MZ]at hk;exact⟨k,by rw[<-e];simp,by omega⟩
theorem F9:(l:List Int)->l.length<=4->(rng 0 ((l.length:Int) - 1)).all (mM (l.map .int))=ql l
 | [],_=>rfl
 | [a],_=>rfl
 | [a,b],_=>by simp[rng,Q5,mM,L2.atI,L2.ixN,ql]
 | [a,b,c],_=>by simp[rng,Q5,mM,L2.atI,L2.ixN,ql]
 | [a,b,c,d],_=>by simp[rng,Q5,mM,L2.atI,L2.ixN,ql,Bool.and_assoc]
 | a::b::c::d::e::r,h=>absurd h (by simp only[LG];omega)
theorem Ep (l:List Int)(h:l.length<=4):kl [.tup (l.map .int)] = .ok (.bl (ql l)):=by
 have hr:iR (ae (o2 fh (cl cI (ae (vr 0) ai)) (cn (.int 1))) ai) [.va (.tup (l.map .int))] = .ok (rng 0 ((l.length:Int) - 1)):=by
  have:xA ((l.length:Int) - 1)=true:=by unfold xA;rw[LC];exact⟨decide_eq_true (by omega),decide_eq_true (by omega)⟩
  simp[iR,ae,ai,o2,cl,vr,cn,cI,T.items,fh,this]
 have hs:(rng 0 ((l.length:Int) - 1)).length<=sizeLine:=by
  unfold rng sizeLine;rw[LA,Nf];omega
 have e:=uv (fe:=o2 nu (o2 aZ (vr 1) (vr 0)) (o2 aZ (vr 1) (o2 aY (vr 0) (cn (.int 1))))) (p:=mM (l.map .int)) (src:=[none,some 0]) hr hs (by decide) (λt ht=>by
  obtain⟨k,rfl,hk⟩:=fw ht
  have h1:(l.map T.int)[k]? =some (.int (l[k]'(by omega))):=by simp
  have h2:(l.map T.int)[k+1]? =some (.int (l[k+1]'(by omega))):=by rw[LY,LN (by omega)];rfl
  have g1:=jU h1
  have g2:L2.atI (l.map T.int) ((k:Int)+1)=some (.int (l[k+1]'(by omega))):=jU h2
  simp[o2,vr,bR,cn,aY,aZ,T.items,g1,g2,wm,mM])
 rw[F9 l h]at e;simp only[kl,val,Nu,if_true,yV,bU,aL,aV]
 show(do let f <-(do let t <-cl qU _ [.va (.tup (l.map .int))];Rs.ok (Fl.rt t));_)=_
 rw[e]
 rfl
def nums:List T->Option (List Int)
 | [] =>some []
 | .int i::l=>match nums l with
  | some m=>some (i::m)
  | none=>none
 | _::_=>none
def dN (t:T):Bool:=fz t 1 4&&(match t with
 | .tup l=>l.all (λu=>bM u 0 99)&&(match nums l with | some m=>ql m | none=>false)
 | _=>false)
theorem ph:∀{l:List T} {m:List Int},nums l=some m->l=m.map .int
 | [],m,h=>by cases h;rfl
 | t::l,m,h=>by
  cases t with
  | int i=>
   unfold nums at h
   cases q:nums l with
   | none=>rw[q]at h;cases h
   | some m'=>rw[q]at h;cases h;rw[Lx,<-ph q]
  | _=>cases h
theorem tG:∀{l:List T} {a b:Int},(l.all λu=>bM u a b)=true->∃m,nums l=some m
 | [],_,_,_=>⟨[],rfl⟩
 | t::l,a,b,h=>by
  rw[RO,LC]at h
  cases t with
  | int i=>
   obtain⟨m,e⟩:=tG h.2
   exact⟨i::m,by unfold nums;rw[e]⟩
  | _=>exact absurd h.1 (by simp[bM])
theorem d7 {t:T}{a b:Nat}(h:fz t a b=true):∃l,t= .tup l/\a<=l.length/\l.length<=b:=by
 cases t with
 | tup l=>unfold fz at h;rw[LC]at h;exact⟨l,rfl,of_decide_eq_true h.1,of_decide_eq_true h.2⟩
 | _=>cases h
theorem small {n k:Nat}(h:n<=k)(hk:k<=1000:=by decide):n<=sizeLine:=by unfold sizeLine;omega
theorem xC (t:T)(h:t.pl=true):cm [t] = .ok (.bl (dN t)):=by
 have w:aS [t,.int 1,.int 4] = .ok (.bl (fz t 1 4)):=lj t 1 4 h;unfold dN
 cases q:fz t 1 4 with
 | false=>rw[q]at w;simp[cm,val,bU,fG,aV,az,eM,eE,tb,sN,aL,cl,vr,cn,ae,ai,w]
 | true=>
  rw[q]at w;obtain⟨l,rfl,h1,h2⟩:=d7 q
  have hp:∀u∈l,u.pl=true:=λu hu=>lN (by unfold T.pl at h;exact h) hu
  have e:=uv (fe:=cl bp (ae (vr 0) (ae (cn (.int 0)) (ae (cn (.int 99)) ai)))) (p:=λu=>bM u 0 99) (src:=[none]) (fi:=iS (vr 0)) (Z:=[.va (.tup l)]) rfl (small h2) (by decide) (λu hu=>by
   simp[cl,ae,ai,vr,cn,bR,gZ u 0 99 (hp u hu)])
  have w':cl aS (ae (vr 0) (ae (cn (.int 1)) (ae (cn (.int 4)) ai))) [.va (.tup l)] = .ok (.bl true):=w
  show cm _= .ok (.bl (true&&(l.all (λu=>bM u 0 99)&&(match nums l with | some m=>ql m | none=>false))))
  cases qa:l.all λu=>bM u 0 99 with
  | false=>
   rw[qa]at e
   simp[cm,val,bU,fG,aV,az,eM,eE,tb,sN,aL,cb,e,w']
  | true=>
   rw[qa]at e;obtain⟨m,em⟩:=tG qa
   have el:=ph em
   have er:=Ep m (by rw[el,LA]at h2;exact h2)
   rw[<-el]at er
   have er':cl kl (ae (vr 0) ai) [.va (.tup l)] = .ok (.bl (ql m)):=er;simp[cm,val,bU,fG,aV,az,eM,eE,tb,sN,aL,cb,e,w',er',em]
def at_ (t:T)(k:Nat):T:=match t.items with
 | some l=>l.getD k .non
 | none=> .non
def bV (t:T):Bool:=fz t 3 3&&(match t with
 | .tup [x,y,r] =>qz x y&&dN r
 | _=>false)
theorem Et (t:T)(h:t.pl=true):dW [t] = .ok (.bl (bV t)):=by
 have w:aS [t,.int 3,.int 3] = .ok (.bl (fz t 3 3)):=lj t 3 3 h;unfold bV
 cases q:fz t 3 3 with
 | false=>rw[q]at w;simp[dW,val,bU,je,aV,aL,cb,cl,vr,cn,ae,ai,w]
 | true=>
  rw[q]at w;obtain⟨l,rfl,h1,h2⟩:=d7 q
  match l,h1,h2 with
  | [x,y,r],_,_=>
   simp[T.pl,plS]at h;obtain⟨px,py,pr⟩:=h
   have g0:aZ (.tup [x,y,r]) (.int 0)= .ok x:=rfl
   have g1:aZ (.tup [x,y,r]) (.int 1)= .ok y:=rfl
   have g2:aZ (.tup [x,y,r]) (.int 2)= .ok r:=rfl
   have ep:=HJ x y px py
   have er:=xC r pr
   cases qp:qz x y with
   | false=>rw[qp]at ep;simp[dW,val,bU,je,aV,aL,cb,cl,vr,cn,ae,ai,o2,w,g0,g1,ep,qp]
   | true=>rw[qp]at ep;simp[dW,val,bU,je,aV,aL,cb,cl,vr,cn,ae,ai,o2,w,g0,g1,g2,ep,er,qp]
def bj (t:T):Bool:=fz t 1 4&&(match t with
 | .tup l=>l.all bV
 | _=>false)
theorem Co (t:T)(h:t.pl=true):eh [t] = .ok (.bl (bj t)):=by
 have w:aS [t,.int 1,.int 4] = .ok (.bl (fz t 1 4)):=lj t 1 4 h;unfold bj
 cases q:fz t 1 4 with
 | false=>rw[q]at w;simp[eh,val,bU,jf,aV,aL,cb,cl,vr,cn,ae,ai,w]
 | true=>
  rw[q]at w;obtain⟨l,rfl,h1,h2⟩:=d7 q
  have hp:∀u∈l,u.pl=true:=λu hu=>lN (by unfold T.pl at h;exact h) hu
  have e:=uv (fe:=cl dW (ae (vr 0) ai)) (p:=bV) (src:=[none]) (fi:=iS (vr 0)) (Z:=[.va (.tup l)]) rfl (small h2) (by decide) (λu hu=>by
   simp[cl,ae,ai,vr,cn,bR,Et u (hp u hu)])
  have w':cl aS (ae (vr 0) (ae (cn (.int 1)) (ae (cn (.int 4)) ai))) [.va (.tup l)] = .ok (.bl true):=w;simp[eh,val,bU,jf,aV,aL,cb,e,w']
def fV (x y:T):Bool:=bM x 0 999&&(match x,y with
 | _,.non=>true
 | .int i,_=>bM y i 999
 | _,_=>false)
theorem Es (x y:T)(hx:x.pl=true)(hy:y.pl=true):eR [x,y] = .ok (.bl (fV x y)):=by
 have w:=gZ x 0 999 hx;unfold fV
 cases q:bM x 0 999 with
 | false=>rw[q]at w;simp[eR,val,bU,jd,aV,aL,cb,vr,cn,cl,ae,ai,w]
 | true=>
  rw[q]at w
  cases x with
  | int i=>
   have e:=gZ y i 999 hy
   cases y with
   | non=>simp[eR,val,bU,jd,aV,aL,cb,rA,vr,cn,cl,ae,ai,o2,fP,T.isN,w]
   | _=>simp[eR,val,bU,jd,aV,aL,cb,rA,vr,cn,cl,ae,ai,o2,fP,T.isN,w,e]
  | _=>cases q
def reads (cs:List T)(c:Int):Nat:=if 0<=c then(match cs[c.toNat]? with
 | some (.tup [_,_,.tup r])=>r.length
 | _=>0)else 0
def aU (cs:List T)(t:T):Bool:=match t with
 | .tup [.int c,.int k] =>decide (0<=c)&&decide (c<cs.length)&&(decide (0<=k)&&decide (k<reads cs c))
 | _=>false
theorem nC {t:T}(h:bV t=true):∃x y r,t= .tup [x,y,.tup r]:=by
 unfold bV at h;rw[LC]at h;obtain⟨h1,h2⟩:=h;obtain⟨l,rfl,h3,h4⟩:=d7 h1
 match l,h3,h4,h2 with
 | [x,y,r],_,_,h2=>
  simp only[LC]at h2;obtain⟨_,h5⟩:=h2;unfold dN at h5;rw[LC]at h5;obtain⟨m,rfl,_⟩:=d7 h5.1;exact⟨x,y,m,rfl⟩
theorem eQ {t:T}{a b:Int}(h:bM t a b=true):∃i,t= .int i/\a<=i/\i<=b:=by
 cases t with
 | int i=>unfold bM at h;rw[LC]at h;exact⟨i,rfl,of_decide_eq_true h.1,of_decide_eq_true h.2⟩
 | _=>cases h
theorem oh (cs:List T)(t:T)(hc:bj (.tup cs)=true)(h:t.pl=true):cW [.tup cs,t] = .ok (.bl (aU cs t)):=by
 have w:aS [t,.int 2,.int 2] = .ok (.bl (fz t 2 2)):=lj t 2 2 h
 cases q:fz t 2 2 with
 | false=>
  rw[q]at w
  have:aU cs t=false:=by
   unfold aU;split
   ·cases q
   ·rfl
  simp[cW,val,bU,jc,aV,az,eM,mB,eE,tb,sN,aL,cl,vr,cn,ae,ai,w,this]
 | true=>
  rw[q]at w;obtain⟨l,rfl,h1,h2⟩:=d7 q
  match l,h1,h2 with
  | [x,y],_,_=>
   simp[T.pl,plS]at h;obtain⟨px,py⟩:=h
   have g0:aZ (.tup [x,y]) (.int 0)= .ok x:=rfl
   have g1:aZ (.tup [x,y]) (.int 1)= .ok y:=rfl
   have gl:cI [.tup cs] = .ok (.int cs.length):=rfl
   have e1:=gZ x 0 ((cs.length:Int) - 1) px
   cases q1:bM x 0 ((cs.length:Int) - 1)with
   | false=>
    rw[q1]at e1
    have:aU cs (.tup [x,y])=false:=by
     cases x with
     | int c=>
      cases y with
      | int k=>
       simp only[bM,Q6,decide_eq_false_iff_not]at q1;simp only[aU,Q6,decide_eq_false_iff_not]
       omega
      | _=>rfl
     | _=>rfl
    simp[cW,val,bU,jc,aV,az,eM,mB,eE,tb,sN,aL,cl,vr,cn,ae,ai,o2,fh,w,g0,gl,e1,this]
   | true=>
    rw[q1]at e1;obtain⟨c,rfl,c1,c2⟩:=eQ q1;obtain⟨n,rfl⟩:=Mt c1
    have hn:n<cs.length:=by omega
    have hcl:bV cs[n] =true:=by
     unfold bj at hc;rw[LC]at hc;exact L5.mp hc.2 _ (M9 hn)
    obtain⟨a,b,r,er⟩:=nC hcl
    have g2:aZ (.tup cs) (.int (n:Int))= .ok (.tup [a,b,.tup r]):=by
     simp only[aZ,T.items];rw[jU (LN hn),er]
    have g3:aZ (.tup [a,b,.tup r]) (.int 2)= .ok (.tup r):=rfl
    have gr:cI [.tup r] = .ok (.int r.length):=rfl
    have e2:=gZ y 0 ((r.length:Int) - 1) py
    have:aU cs (.tup [.int n,y])=bM y 0 ((r.length:Int) - 1):=by
     have er2:reads cs (n:Int)=r.length:=by
      unfold reads;rw[if_pos c1,MM,LN hn,er]
     cases y with
     | int k=>
      simp only[aU,bM,er2];rw[decide_eq_true c1,decide_eq_true (show(n:Int)<cs.length by omega)]
      simp only[PL]
      congr 1
      exact decide_eq_decide.mpr (by omega)
     | _=>rfl
    simp[cW,val,bU,jc,aV,az,eM,mB,eE,tb,sN,aL,cl,vr,cn,ae,ai,o2,fh,w,g0,g1,g2,g3,gl,gr,e1,e2,this]
def bX (cs:List T)(t:T):Bool:=match t with
 | .tup [a,b,x,y] =>fV x y&&(aU cs a&&(aU cs b&& !bo a b))
 | _=>false
theorem gg {cs:List T}{t:T}(h:aU cs t=true):∃c k:Int,t= .tup [.int c,.int k]:=by
 unfold aU at h
 split at h
 ·exact⟨_,_,rfl⟩
 ·cases h
theorem Cm (cs:List T)(t:T)(hc:bj (.tup cs)=true)(h:t.pl=true):cy [.tup cs,t] = .ok (.bl (bX cs t)):=by
 have w:aS [t,.int 4,.int 4] = .ok (.bl (fz t 4 4)):=lj t 4 4 h
 cases q:fz t 4 4 with
 | false=>
  rw[q]at w
  have:bX cs t=false:=by
   unfold bX;split
   ·cases q
   ·rfl
  simp[cy,val,bU,e9,aV,az,eM,mB,eE,tb,sN,aL,cl,vr,cn,ae,ai,w,this]
 | true=>
  rw[q]at w;obtain⟨l,rfl,h1,h2⟩:=d7 q
  match l,h1,h2 with
  | [a,b,x,y],_,_=>
   simp[T.pl,plS]at h;obtain⟨pa,pb,px,py⟩:=h
   have g0:aZ (.tup [a,b,x,y]) (.int 0)= .ok a:=rfl
   have g1:aZ (.tup [a,b,x,y]) (.int 1)= .ok b:=rfl
   have g2:aZ (.tup [a,b,x,y]) (.int 2)= .ok x:=rfl
   have g3:aZ (.tup [a,b,x,y]) (.int 3)= .ok y:=rfl
   have e1:=Es x y px py
   have e2:=oh cs a hc pa
   have e3:=oh cs b hc pb
   show _=Rs.ok (T.bl (fV x y&&(aU cs a&&(aU cs b&& !bo a b))))
   cases q1:fV x y with
   | false=>
    rw[q1]at e1
    simp[cy,val,bU,e9,aV,az,eM,mB,eE,tb,sN,aL,cl,vr,cn,ae,ai,o2,w,g2,g3,e1]
   | true=>
    rw[q1]at e1
    cases q2:aU cs a with
    | false=>
     rw[q2]at e2
     simp[cy,val,bU,e9,aV,az,eM,mB,eE,tb,sN,aL,cb,cl,vr,cn,ae,ai,o2,w,g0,g2,g3,e1,e2]
    | true=>
     rw[q2]at e2
     cases q3:aU cs b with
     | false=>
      rw[q3]at e3
      simp[cy,val,bU,e9,aV,az,eM,mB,eE,tb,sN,aL,cb,cl,vr,cn,ae,ai,o2,w,g0,g1,g2,g3,e1,e2,e3]
     | true=>
      rw[q3]at e3;obtain⟨c,k,rfl⟩:=gg q2
      have f:gY (.tup [.int c,.int k]) b=true:=jQ (by simp[T.dep,deps]) rfl (T.Kx _ pb)
      have g4:nM (.tup [.int c,.int k]) b= .ok (.bl (!bo (.tup [.int c,.int k]) b)):=by unfold nM;rw[if_pos f]
      simp[cy,val,bU,e9,aV,az,eM,mB,eE,tb,sN,aL,cb,cl,vr,cn,ae,ai,o2,w,g0,g1,g2,g3,g4,e1,e2,e3]
def km (cs:List T)(t:T):Bool:=fz t 0 8&&(match t with
 | .tup l=>l.all (bX cs)
 | _=>false)
theorem zQ (cs:List T)(t:T)(hc:bj (.tup cs)=true)(h:t.pl=true):dF [.tup cs,t] = .ok (.bl (km cs t)):=by
 have w:aS [t,.int 0,.int 8] = .ok (.bl (fz t 0 8)):=lj t 0 8 h;unfold km
 cases q:fz t 0 8 with
 | false=>rw[q]at w;simp[dF,val,bU,iz,aV,aL,cb,cl,vr,cn,ae,ai,w]
 | true=>
  rw[q]at w;obtain⟨l,rfl,h1,h2⟩:=d7 q
  have hp:∀u∈l,u.pl=true:=λu hu=>lN (by unfold T.pl at h;exact h) hu
  have e:=uv (fe:=cl cy (ae (vr 1) (ae (vr 0) ai))) (p:=bX cs) (src:=[none,some 0]) (fi:=iS (vr 1)) (Z:=[.va (.tup cs),.va (.tup l)]) rfl (small h2) (by decide) (λu hu=>by
   simp[cl,ae,ai,vr,cn,bR,Cm cs u hc (hp u hu)])
  have w':cl aS (ae (vr 1) (ae (cn (.int 0)) (ae (cn (.int 8)) ai))) [.va (.tup cs),.va (.tup l)] = .ok (.bl true):=w;simp[dF,val,bU,iz,aV,aL,cb,e,w']
def iM (t:T):Bool:=match t with
 | .tup [.tup cs,ls] =>bj (.tup cs)&&km cs ls
 | _=>false
theorem v8 (t:T)(h:t.pl=true):dU [t] = .ok (.bl (iM t)):=by
 have w:aS [t,.int 2,.int 2] = .ok (.bl (fz t 2 2)):=lj t 2 2 h
 cases q:fz t 2 2 with
 | false=>
  rw[q]at w
  have:iM t=false:=by
   unfold iM;split
   ·cases q
   ·rfl
  simp[dU,val,bU,ip,aV,aL,cb,cl,vr,cn,ae,ai,w,this]
 | true=>
  rw[q]at w;obtain⟨l,rfl,h1,h2⟩:=d7 q
  match l,h1,h2 with
  | [x,y],_,_=>
   simp[T.pl,plS]at h;obtain⟨px,py⟩:=h
   have g0:aZ (.tup [x,y]) (.int 0)= .ok x:=rfl
   have g1:aZ (.tup [x,y]) (.int 1)= .ok y:=rfl
   have e1:=Co x px
   cases q1:bj x with
   | false=>
    rw[q1]at e1
    have:iM (.tup [x,y])=false:=by
     cases x with
     | tup cs=>show(bj (.tup cs)&&_)=false;rw[q1];rfl
     | _=>rfl
    simp[dU,val,bU,ip,aV,aL,cb,cl,vr,cn,ae,ai,o2,w,g0,e1,this]
   | true=>
    rw[q1]at e1
    cases x with
    | tup cs=>
     have e2:=zQ cs y q1 py
     have:iM (.tup [.tup cs,y])=km cs y:=by show(bj (.tup cs)&&_)=_;rw[q1];rfl
     simp[dU,val,bU,ip,aV,aL,cb,cl,vr,cn,ae,ai,o2,w,g0,g1,e1,e2,this]
    | _=>cases q1
theorem gH:∀m:List Int,deps (m.map .int)=0
 | [] =>rfl
 | a::m=>by rw[Lx,deps,gH m];rfl
def mh (i n:Nat):List T:=(rng 0 n).map λt=>T.tup [.int i,t]
def Gd:T->Nat
 | .tup [_,_,.tup r] =>r.length
 | _=>0
def fK:Nat->List T->List T
 | _,[] => []
 | i,c::r=>mh i (Gd c)++fK (i+1) r
theorem eZ {t:T}(h:bV t=true):∃x y r,t= .tup [x,y,.tup r]/\1<=r.length/\r.length<=4:=by
 obtain⟨x,y,r,rfl⟩:=nC h
 have:dN (.tup r)=true:=by
  have h':(qz x y&&dN (.tup r))=true:=h;rw[LC]at h';exact h'.2
 unfold dN at this;rw[LC]at this;obtain⟨l,e,h1,h2⟩:=d7 this.1;cases e;exact⟨x,y,r,rfl,h1,h2⟩
theorem iN (i n:Nat):(mh i n).length=n:=by unfold mh;rw[LA,hY]
abbrev evF:En->Rs Fl:=cC (o2 aY (vr 1) (eY (iR (ae (cl cI (ae (o2 aZ (vr 3) (cn (.int 2))) ai)) ai)) [none,some 2] (gN 0) bT (aO (ae (vr 1) (ae (vr 0) ai))))) (gN 1)
abbrev evG:T->En->Rs En:=gT 2 (eF (gN 2) (eF (gN 3) ly))
theorem zM {f:En->Rs (List T)}{Z:En}{j:Int}(h:f Z= .ok [.int j])(h0:0<=j)(h1:j<=100000):iR f Z= .ok (rng 0 j):=by
 have e:xA j=true:=by unfold xA;rw[LC];exact⟨decide_eq_true (by omega),decide_eq_true (by omega)⟩
 unfold iR;rw[h]
 show(if xA j=true then _ else _)=_
 rw[e];rfl
theorem jb (l m:List T)(h:(l++m).length<=1000):aY (.lst l) (.lst m)= .ok (.lst (l++m)):=by
 show kU (l++m)=_
 unfold kU;rw[if_pos (aw h)]
theorem EK (l m:List T)(h:(l++m).length<=1000):aY (.tup l) (.tup m)= .ok (.tup (l++m)):=by
 show kS (l++m)=_
 unfold kS;rw[if_pos (aw h)]
theorem JX (c0 acc x y:T)(r:List T)(i:Nat)(h:r.length<=4) :
  eY (iR (ae (cl cI (ae (o2 aZ (vr 3) (cn (.int 2))) ai)) ai)) [none,some 2] (gN 0) bT (aO (ae (vr 1) (ae (vr 0) ai))) [.va c0,.va acc,.va (.int i),.va (.tup [x,y,.tup r])] = .ok (.lst (mh i r.length)):=
 mQ (zM (j:=(r.length:Int)) rfl (by omega) (by omega)) (aw (k:=4) (by rw[hY];exact h)) (by simp) λt _=>mk2 _ _
theorem El (c0 x y:T)(acc r:List T)(i:Nat)(h:r.length<=4)(ha:acc.length<=100):evF [.va c0,.va (.lst acc),.va (.int i),.va (.tup [x,y,.tup r])] = .ok (.nx [.va c0,.va (.lst (acc++mh i r.length)),.va (.int i),.va (.tup [x,y,.tup r])]):=
 bS (aD (t:=.lst acc) rfl (JX c0 (.lst acc) x y r i h) (jb _ _ (by rw[LF,iN];omega))) rfl
theorem yM:∀(cs:List T) (c0:T) (acc:List T) (i:Nat) (s2 s3:Sl),(∀c∈cs,bV c=true)->acc.length+4*cs.length<=100 →
  ∃y2 y3,bf evG evF (cp i cs) [.va c0,.va (.lst acc),s2,s3] = .ok (.nx [.va c0,.va (.lst (acc++fK i cs)),y2,y3])
 | [],c0,acc,i,s2,s3,_,_=>⟨s2,s3,by simp[cp,bf,fK]⟩
 | c::cs,c0,acc,i,s2,s3,hc,hl=>by
  obtain⟨x,y,r,rfl,r1,r2⟩:=eZ (hc c Lz);rw[LG]at hl;obtain⟨z2,z3,ih⟩:=yM cs c0 (acc++mh i r.length) (i+1) (.va (.int i)) (.va (.tup [x,y,.tup r])) (λc h=>hc c (Lw _ h)) (by rw[LF,iN];omega)
  refine⟨z2,z3,?_⟩
  rw[cp,cK (Z1:=[.va c0,.va (.lst acc),.va (.int i),.va (.tup [x,y,.tup r])]) rfl (El c0 x y acc r i r2 (by omega)),ih,fK,L0]
  rfl
theorem cL {cs:List T}(hc:bj (.tup cs)=true):(∀c∈cs,bV c=true)/\1<=cs.length/\cs.length<=4:=by
 unfold bj at hc;rw[LC]at hc;obtain⟨l,e,h1,h2⟩:=d7 hc.1;cases e;exact⟨λc h=>L5.mp hc.2 c h,h1,h2⟩
theorem v9 (cs:List T)(hc:bj (.tup cs)=true):cX [.tup cs] = .ok (.lst (fK 0 cs)):=by
 obtain⟨ha,h1,h2⟩:=cL hc;obtain⟨y2,y3,e⟩:=yM cs (.tup cs) [] 0 .em .em ha (by simp;omega)
 rw[MJ]at e;refine bJ rfl ?_
 unfold kY;rw[ax (Z':=[.va (.tup cs),.va (.lst []),.em,.em]) rfl,ax ((dC (ts:=cp 0 cs) rfl e))]
 rfl
theorem D1 {n k:Nat}(h:k<n):T.int (k:Int)∈rng 0 (n:Int):=by
 unfold rng;exact LW.mpr ⟨k,MZ.mpr (by omega),by simp⟩
theorem rq (cs:List T)(c:Nat):reads cs (c:Int)=Gd (cs.getD c .non):=by
 unfold reads;rw[if_pos (by omega),MM,List.getD_eq_getElem?_getD]
 cases cs[c]? with
 | none=>rfl
 | some t=>
  cases t with
  | tup l=>
   match l with
   | [] =>rfl
   | [_] =>rfl
   | [_,_] =>rfl
   | [_,_,z] =>cases z <;> rfl
   | _::_::z::_::_=>cases z <;> rfl
  | _=>rfl
theorem vM {g:T->En->Rs En}{F:En->Rs Fl}{p:T->Bool}(J:En->Prop):∀(ts:List T),(∀t∈ts,∀Z,J Z->∃Z1,g t Z= .ok Z1/\(p t=true->∃Z2,F Z1= .ok (.nx Z2)/\J Z2)/\(p t=false->F Z1= .ok (.rt (.bl false)))) →
  ∀Z,J Z->(ts.all p=true->∃Z',bf g F ts Z= .ok (.nx Z')/\J Z')/\(ts.all p=false->bf g F ts Z= .ok (.rt (.bl false)))
 | [],_,Z,hj=>⟨λ_=>⟨Z,rfl,hj⟩,λh=>(by cases h)⟩
 | t::ts,hs,Z,hj=>by
  obtain⟨Z1,h1,h2,h3⟩:=hs t Lz Z hj;rw[RO]
  cases q:p t with
  | false=>exact⟨λh=>(by cases h),λ_=>yD h1 (h3 q)⟩
  | true=>
   obtain⟨Z2,e2,j2⟩:=h2 q;rw[cK h1 e2,PL];exact vM J ts (λt ht=>hs t (Lw _ ht)) Z2 j2
mutual
def sm (n:Nat):T->Bool
 | .dct _ _=>false
 | .scr _=>false
 | .tup l=>decide (l.length<=n)&&sms n l
 | .lst l=>decide (l.length<=n)&&sms n l
 | _=>true
def sms (n:Nat):List T->Bool
 | [] =>true
 | t::l=>sm n t&&sms n l
end
mutual
theorem Ff {n:Nat}:∀(t:T),sm n t=true->t.pl=true
 | .scr _,h=>by simp[sm]at h
 | .dct _ _,h=>by simp[sm]at h
 | .tup l,h=>by rw[sm,LC]at h;rw[T.pl];exact sms_pl l h.2
 | .lst l,h=>by rw[sm,LC]at h;rw[T.pl];exact sms_pl l h.2
 | .non,_=>by simp[T.pl]
 | .bl _,_=>by simp[T.pl]
 | .int _,_=>by simp[T.pl]
 | .str _,_=>by simp[T.pl]
theorem sms_pl {n:Nat}:∀(l:List T),sms n l=true->plS l=true
 | [],_=>by simp[plS]
 | t::l,h=>by rw[sms,LC]at h;rw[plS,Ff t h.1,sms_pl l h.2];rfl
end
theorem xT {n:Nat}:∀{l:List T},sms n l=true↔ ∀t∈l,sm n t=true
 | [] =>by simp[sms]
 | t::l=>by rw[sms,LC,xT (l:=l)];simp
theorem sm_tup {n:Nat}{l:List T}:sm n (.tup l)=true↔l.length<=n/\∀t∈l,sm n t=true:=by rw[sm,LC,xT,decide_eq_true_iff]
theorem lb {i j:Int}(h:0<j):lU (.int i) (.int j)= .ok (.int (i % j)):=by show(if _ then _ else _)=_;rw[if_pos h]
theorem n9 {i j:Int}(h:0<j)(h2:j<1073741824):mf (.int i) (.int j)= .ok (.int (i / j)):=by show(if _ then _ else _)=_;rw[if_pos ⟨h,h2⟩]
theorem kR {i j:Int}(h : -18446744073709551616<i)(h2:i<18446744073709551616):bW (.int i) (.int j)= .ok (.int (i*j)):=by
 show xk (.int i) (.int j)=_
 show(if _ then _ else _)=_
 rw[if_pos (.inl ⟨by omega,by omega⟩)]
theorem Bx {i j:Int}(h : -18446744073709551616<j)(h2:j<18446744073709551616):bW (.int i) (.int j)= .ok (.int (i*j)):=by
 show xk (.int i) (.int j)=_
 show(if _ then _ else _)=_
 rw[if_pos (.inr ⟨by omega,by omega⟩)]
theorem HL (ns:List Int)(k:Nat)(hn:ns.length<=63):∃c,gd [.scr ns,.int k] = .ok (.int c):=by
 have e0:o2 qQ (vr 0) (dD ai) [.va (.scr ns),.va (.int k)] = .ok (.bl (kX ns [])):=by
  refine aD (t:=.scr ns) (u:=.lst []) rfl (gf (ts:=[]) rfl (aw (k:=0) (LL _))) ?_
  unfold qQ;rw[if_pos (jQ (by simp[T.dep]) rfl rfl)]
  rfl
 cases ns with
 | nil=>
  refine⟨7*k,bJ rfl ?_⟩
  unfold jZ
  refine gW ((ez (bL e0)).trans (cz (aD (t:=.int 7) (u:=.int k) rfl rfl (kR (by omega) (by omega)))))
 | cons a r=>
  have hl:(0:Int)<((a::r).length:Nat):=by simp only[LG];omega
  have hl2:(((a::r).length:Nat):Int)<1073741824:=by simp only[LG]at hn ⊢;omega
  have hi:k % (a::r).length<(a::r).length:=Nat.mod_lt _ (by simp)
  have g0:o2 lU (vr 1) (cl cI (ae (vr 0) ai)) [.va (.scr (a::r)),.va (.int k)] = .ok (.int ((k % (a::r).length:Nat):Int)):=by
   refine aD (t:=.int k) (u:=.int ((a::r).length:Nat)) rfl ?_ (by rw[lb hl];rfl)
   refine aM (ts:=[.scr (a::r)]) rfl ?_
   show Rs.ok (T.int (((a::r).map T.int).length:Nat))=_
   rw[LA]
  have g1:aZ (.scr (a::r)) (.int ((k % (a::r).length:Nat):Int))= .ok (.int (a::r)[k % (a::r).length]):=by
   have e:((a::r).map T.int)[k % (a::r).length]? =some (.int (a::r)[k % (a::r).length]):=by rw[LY,LN hi];rfl
   show(match L2.atI ((a::r).map T.int) ((k % (a::r).length:Nat):Int)with | some t=>Rs.ok t | none=> .bad)=_
   rw[jU e]
  have g2:o2 mf (vr 1) (cl cI (ae (vr 0) ai)) [.va (.scr (a::r)),.va (.int k)] = .ok (.int ((k:Int) / ((a::r).length:Nat))):=by
   refine aD (t:=.int k) (u:=.int ((a::r).length:Nat)) rfl ?_ (n9 hl hl2)
   refine aM (ts:=[.scr (a::r)]) rfl ?_
   show Rs.ok (T.int (((a::r).map T.int).length:Nat))=_
   rw[LA]
  refine⟨(a::r)[k % (a::r).length] +6553*((k:Int) / ((a::r).length:Nat)),bJ rfl ?_⟩
  unfold jZ
  show az _ _ [.va (.scr (a::r)),.va (.int k)] =_
  refine(ax (Z':=[.va (.scr (a::r)),.va (.int k)]) ((c8 (bL e0)).trans rfl)).trans ?_
  exact cz (aD (aD (t:=.scr (a::r)) rfl g0 g1) (aD (t:=.int 6553) rfl g2 (kR (by omega) (by omega))) rfl)
theorem dt (ns:List Int)(k:Nat)(m:Int)(hn:ns.length<=63)(hm:0<m):∃r,aA [.scr ns,.int k,.int m] = .ok (.int r)/\0<=r/\r<m:=by
 obtain⟨c,hc⟩:=HL ns k hn
 have b1:∀x:Int,0<=x % 2147483563/\x % 2147483563<2147483563:=λx=>⟨Q7 _ (by omega),Qa _ (by omega)⟩
 have b2:∀x:Int,0<=x % 2147483399/\x % 2147483399<2147483399:=λx=>⟨Q7 _ (by omega),Qa _ (by omega)⟩
 generalize hx:(c % 2147483563*69069+104723*((k:Int)+1)) % 2147483563=x
 have hx':=b1 (c % 2147483563*69069+104723*((k:Int)+1));rw[hx]at hx'
 generalize hy:(x*x+x / 3) % 2147483399=y
 have hy':=b2 (x*x+x / 3);rw[hy]at hy';refine⟨(y*y+y / 7) % 2147483647 / 11 % m,bJ rfl ?_,Q7 _ (by omega),Qa _ hm⟩
 show jh [.va (.scr ns),.va (.int k),.va (.int m),.em] =_
 unfold jh
 have s1:cC (o2 lU (o2 aY (o2 bW (o2 lU (cl gd (ae (vr 0) (ae (vr 1) ai))) (cn (.int 2147483563))) (cn (.int 69069))) (o2 bW (cn (.int 104723)) (o2 aY (vr 1) (cn (.int 1))))) (cn (.int 2147483563))) (gN 3) [.va (.scr ns),.va (.int k),.va (.int m),.em] = .ok (.nx [.va (.scr ns),.va (.int k),.va (.int m),.va (.int x)]):=by
  refine bS (t:=.int x) (aD (u:=.int 2147483563) (aD (aD (u:=.int 69069) (aD (u:=.int 2147483563) (aM (ts:=[.scr ns,.int k]) rfl hc) rfl (lb (by omega))) rfl (Bx (by omega) (by omega))) (aD (t:=.int 104723) (u:=.int ((k:Int)+1)) rfl rfl (kR (by omega) (by omega))) rfl) rfl ?_) rfl
  rw[lb (by omega),hx]
 have s2:cC (o2 lU (o2 aY (o2 bW (vr 3) (vr 3)) (o2 mf (vr 3) (cn (.int 3)))) (cn (.int 2147483399))) (gN 3) [.va (.scr ns),.va (.int k),.va (.int m),.va (.int x)] = .ok (.nx [.va (.scr ns),.va (.int k),.va (.int m),.va (.int y)]):=by
  refine bS (t:=.int y) (aD (u:=.int 2147483399) (aD (aD (t:=.int x) (u:=.int x) rfl rfl (kR (by omega) (by omega))) (aD (t:=.int x) (u:=.int 3) rfl rfl (n9 (by omega) (by omega))) rfl) rfl ?_) rfl
  rw[lb (by omega),hy]
 rw[ax s1,ax s2];exact cz (aD (u:=.int m) (aD (u:=.int 11) (aD (u:=.int 2147483647) (aD (aD (t:=.int y) (u:=.int y) rfl rfl (kR (by omega) (by omega))) (aD (t:=.int y) (u:=.int 7) rfl rfl (n9 (by omega) (by omega))) rfl) rfl (lb (by omega))) rfl (n9 (by omega) (by omega))) rfl (lb hm))
theorem eO {ns:List Int}{k:Nat}{m r:Int}{f g h:En->Rs T}{Z:En}(e:aA [.scr ns,.int k,.int m] = .ok (.int r))(h1:f Z= .ok (.scr ns))(h2:g Z= .ok (.int k))(h3:h Z= .ok (.int m)) :
  cl aA (ae f (ae g (ae h ai))) Z= .ok (.int r):=aM (ar h1 (ar h2 (ar h3 rfl))) e
theorem vd:∀(l:List Int) (z y:Int),ql (l++ [z])=true->z<y->ql (l++ [z] ++ [y])=true
 | [],z,y,_,h=>by simp[ql,h]
 | [a],z,y,h,hy=>by
  simp[ql]at h ⊢
  omega
 | a::b::l,z,y,h,hy=>by
  have h':ql (a::b::(l++ [z]))=true:=h;rw[ID,LC]at h'
  have ih:=vd (b::l) z y h'.2 hy
  show ql (a::b::(l++ [z] ++ [y]))=true
  rw[ID,h'.1];exact ih
theorem pj:∀l:List Int,nums (l.map .int)=some l
 | [] =>rfl
 | a::l=>by rw[Lx,nums,pj l]
def RdOk (l:List Int):Prop:=∃(l':List Int) (z:Int),l=l'++ [z]/\ql l=true/\(∀x∈l,0<=x/\x<=5*l.length)/\z<=5*l.length
abbrev clF:En->Rs Fl:=cC (o2 aY (vr 3) (aO (ae (o2 aY (o2 aY (o2 aZ (vr 3) (o1 pE (cn (.int 1)))) (cn (.int 1))) (cl aA (ae (vr 0) (ae (o2 aY (o2 aY (vr 1) (cn (.int 3))) (vr 4)) (ae (cn (.int 5)) ai))))) ai))) (gN 3)
theorem Ef (l:List T)(z:T):aZ (.tup (l++ [z])) (.int (-1))= .ok z:=by
 have e:L2.atI (l++ [z]) (-1)=some z:=by
  unfold L2.atI L2.ixN;simp;rw[if_pos (by omega)]
  have q:(-1+((l.length:Int)+1)).toNat=l.length:=by omega
  show(l++ [z])[(-1+((l.length:Int)+1)).toNat]? =some z
  rw[q];simp
 show(match L2.atI (l++ [z]) (-1)with | some t=>Rs.ok t | none=> .bad)=_
 rw[e]
theorem EC (ns:List Int)(hn:ns.length<=63)(a j:Nat)(s:T)(l:List Int)(h:RdOk l)(hl:l.length<=3):∃l2,clF [.va (.scr ns),.va (.int a),.va s,.va (.tup (l.map .int)),.va (.int j)] = .ok (.nx [.va (.scr ns),.va (.int a),.va s,.va (.tup (l2.map .int)),.va (.int j)])/\RdOk l2/\l2.length=l.length+1:=by
 obtain⟨l',z,rfl,h1,h2,h3⟩:=h;obtain⟨d,ed,d0,d1⟩:=dt ns (a+3+j) 5 hn (by omega)
 refine⟨l'++ [z] ++ [z+1+d],?_,⟨l'++ [z],z+1+d,rfl,vd l' z _ h1 (by omega),?_,?_⟩,by simp⟩
 ·refine bS (t:=.tup ((l'++ [z] ++ [z+1+d]).map .int)) (aD (t:=.tup ((l'++ [z]).map .int)) (u:=.tup [.int (z+1+d)]) rfl (cJ (ts:=[.int (z+1+d)]) (ar (aD (t:=.int (z+1)) (u:=.int d) (aD (t:=.int z) (u:=.int 1) (aD (t:=.tup ((l'++ [z]).map .int)) (u:=.int (-1)) rfl rfl ?_) rfl rfl) (eO (k:=a+3+j) ed rfl ?_ rfl) rfl) rfl) (aw (k:=1) (by simp))) ?_) rfl
  ·rw[Mc];exact Ef _ _
  ·refine aD (t:=.int ((a:Int)+3)) (u:=.int j) (aD (t:=.int a) (u:=.int 3) rfl rfl rfl) rfl ?_
   show Rs.ok (T.int ((a:Int)+3+j))=_
   congr 2
  ·rw[Mc (l₁:=l'++ [z])]
   exact EK _ _ (by rw[LF,LA];simp at hl ⊢;omega)
 ·intro x hx
  rcases Mb.mp hx with hx | hx
  ·have:=h2 x hx
   simp only[LF,Nu]at this ⊢;omega
  ·rw[LZ]at hx
   subst hx
   have hz:=h2 z (by simp)
   simp only[LF,Nu]at h3 ⊢;omega
 ·simp only[LF,Nu]at h3 ⊢
  omega
theorem yR (ns:List Int)(hn:ns.length<=63)(a:Nat)(s:T):∀(js:List Nat) (l:List Int) (s4:Sl),RdOk l->l.length+js.length<=4->∃l2 s5,bf (gN 4) clF (js.map λ(j:Nat)=>T.int j) [.va (.scr ns),.va (.int a),.va s,.va (.tup (l.map .int)),s4] = .ok (.nx [.va (.scr ns),.va (.int a),.va s,.va (.tup (l2.map .int)),s5])/\RdOk l2/\l2.length=l.length+js.length
 | [],l,s4,h,_=>⟨l,s4,rfl,h,rfl⟩
 | j::js,l,s4,h,hl=>by
  rw[LG]at hl;obtain⟨l2,e2,h2,n2⟩:=EC ns hn a j s l h (by omega)
  obtain⟨l3,s5,e3,h3,n3⟩:=yR ns hn a s js l2 (.va (.int j)) h2 (by omega)
  refine⟨l3,s5,?_,h3,by rw[n3,n2,LG];omega⟩
  rw[Lx,cK (Z1:=[.va (.scr ns),.va (.int a),.va s,.va (.tup (l.map .int)),.va (.int j)]) rfl e2];exact e3
theorem sM (n:Nat):rng 0 (n:Int)=(MA n).map λ(j:Nat)=>T.int j:=by
 unfold rng;simp
theorem RdOk.reads {l:List Int}(h:RdOk l)(hl:l.length<=4):dN (.tup (l.map .int))=true:=by
 obtain⟨l',z,rfl,h1,h2,h3⟩:=h;unfold dN;rw[LC];refine⟨?_,?_⟩
 ·simp[fz];simp at hl;omega
 ·show(((l'++ [z]).map T.int).all (λu=>bM u 0 99)&&(match nums ((l'++ [z]).map T.int)with | some m=>ql m | none=>false))=true
  rw[pj]
  show(_&&ql (l'++ [z]))=true
  rw[h1,Bool.and_true,L5];intro t ht;obtain⟨x,hx,rfl⟩:=LW.mp ht
  have:=h2 x hx;simp only[bM,LC,decide_eq_true_eq];omega
theorem De (n:Nat)(l:List Int)(h:l.length<=n):sm n (.tup (l.map .int))=true:=sm_tup.mpr ⟨by rw[LA];exact h,λt ht=>by obtain⟨x,_,rfl⟩:=LW.mp ht;simp[sm]⟩
theorem Cn (ns:List Int)(hn:ns.length<=63)(a:Nat):∃c,cU [.scr ns,.int a] = .ok c/\bV c=true/\sm 8 c=true:=by
 obtain⟨d1,e1,p1,q1⟩:=dt ns a 3 hn (by omega)
 obtain⟨d2,e2,p2,q2⟩:=dt ns (a+2) 6 hn (by omega)
 obtain⟨d3,e3,p3,q3⟩:=dt ns (a+1) 3 hn (by omega)
 obtain⟨d4,e4,p4,q4⟩:=dt ns (a+6) 3 hn (by omega)
 obtain⟨n3,rfl⟩:=Mt p3;obtain⟨l,s5,el,hl,nl⟩:=yR ns hn a (.int (1+d1)) (MA n3) [d2] .em ⟨[],d2,rfl,rfl,λx hx=>by rw[LZ]at hx;subst hx;simp;omega,by simp;omega⟩ (by simp;omega)
 have nl':l.length<=4:=by rw[nl];simp;omega
 have hr:=hl.reads nl';refine⟨.tup [.int (1+d1),.int (1+d1+d4),.tup (l.map .int)],bJ rfl ?_,?_,?_⟩
 ·show ji [.va (.scr ns),.va (.int a),.em,.em,.em] =_
  unfold ji;rw[ax (Z':=[.va (.scr ns),.va (.int a),.va (.int (1+d1)),.em,.em]) (bS (t:=.int (1+d1)) (aD (t:=.int 1) rfl (eO e1 rfl rfl rfl) rfl) rfl)];rw[ax (Z':=[.va (.scr ns),.va (.int a),.va (.int (1+d1)),.va (.tup ([d2].map .int)),.em]) (bS (t:=.tup [.int d2]) (cJ (ts:=[.int d2]) (ar (eO (k:=a+2) e2 rfl rfl rfl) rfl) (aw (k:=1) (by simp))) rfl)]
  rw[ax ((dC (zM (ar (eO (k:=a+1) e3 rfl rfl rfl) rfl) (by omega) (by omega)) (by rw[sM];exact el)))]
  exact cz (cJ (ar (t:=.int (1+d1)) rfl (ar (aD (t:=.int (1+d1)) rfl (eO (k:=a+6) e4 rfl rfl rfl) rfl) (ar (t:=.tup (l.map .int)) rfl rfl))) (aw (k:=3) (by simp)))
 ·show(true&&(qz (.int (1+d1)) (.int (1+d1+d4))&&dN _))=true
  rw[hr];simp only[qz,bM,PL,Bool.and_true,LC,decide_eq_true_eq];omega
 ·refine sm_tup.mpr ⟨by simp,λt ht=> ?_⟩
  rcases LH.mp ht with rfl | ht
  ·simp[sm]
  ·rcases LH.mp ht with rfl | ht
   ·simp[sm]
   ·rw[LZ]at ht;subst ht;exact De 8 l (by omega)
theorem lV {y:T}:∀(cs:List T) (i:Nat),y∈fK i cs->∃c k:Nat,y= .tup [.int c,.int k]/\i<=c/\c<i+cs.length/\k<Gd (cs.getD (c - i) .non)
 | [],i,h=>by cases h
 | x::cs,i,h=>by
  rw[fK]at h;rcases Mb.mp h with h | h
  ·unfold mh at h
   obtain⟨t,ht,rfl⟩:=LW.mp h;obtain⟨j,rfl,hj⟩:=fw ht;refine⟨i,j,rfl,LL _,by rw[LG];omega,?_⟩
   rw[Q4]
   show j<Gd x
   omega
  ·obtain⟨c,k,e,h1,h2,h3⟩:=lV cs (i+1) h
   refine⟨c,k,e,by omega,by rw[LG];omega,?_⟩
   have:c - i=(c - (i+1))+1:=by omega
   rw[this];exact h3
theorem Cg {cs:List T}{y:T}(h:y∈fK 0 cs):aU cs y=true:=by
 obtain⟨c,k,rfl,_,h2,h3⟩:=lV cs 0 h
 show(decide ((0:Int)<=(c:Int))&&decide ((c:Int)<(cs.length:Int))&&(decide ((0:Int)<=(k:Int))&&decide ((k:Int)<(reads cs (c:Int):Int))))=true
 rw[P9]at h3;rw[rq];simp only[LC,decide_eq_true_eq];omega
theorem mG:∀(cs:List T) (i:Nat),(fK i cs).Nodup
 | [],i=>NU
 | x::cs,i=>by
  rw[fK,MN];refine⟨?_,mG cs (i+1),?_⟩
  ·unfold mh rng
   rw[Ms];rw[P5,Oj];refine List.nodup_range.imp ?_
   intro a b hab e
   simp at e
   exact hab (by omega)
  ·intro a ha b hb e
   subst e;unfold mh at ha;obtain⟨t,ht,rfl⟩:=LW.mp ha;obtain⟨c,k,e,h1,_,_⟩:=lV cs (i+1) hb
   simp at e
   omega
theorem Bs {l:List T}(h:l.Nodup){i j:Nat}(hi:i<l.length)(hj:j<l.length)(hij:i≠j):l[i] ≠l[j]:=by
 rw[P5,Qc]at h;rcases OL i j with q | q
 ·exact h i j hi hj q
 ·exact λe=>h j i hj hi (by omega) e.symm
theorem ud:∀(cs:List T) (i:Nat),(∀c∈cs,bV c=true)->(fK i cs).length<=4*cs.length
 | [],i,_=>LL _
 | x::cs,i,h=>by
  obtain⟨a,b,r,rfl,_,h2⟩:=eZ (h x Lz)
  have:=ud cs (i+1) λc hc=>h c (Lw _ hc)
  rw[fK,LF,iN,LG]
  show r.length+_<=_
  omega
theorem Cf {cs:List T}{a b:T}(ha:aU cs a=true)(hb:aU cs b=true)(h:a≠b):bo a b=false:=by
 obtain⟨c,k,rfl⟩:=gg ha;obtain⟨c',k',rfl⟩:=gg hb;rw[Bool.eq_false_iff];intro e;simp[bo,beqTs]at e;exact h (by rw[e.1,e.2])
theorem uS {cs:List T}{a:T}(ha:aU cs a=true):sm 8 a=true:=by
 obtain⟨c,k,rfl⟩:=gg ha;simp[sm,sms]
theorem xv {l:List T}{i:Nat}(h:i<l.length):aZ (.lst l) (.int (i:Int))= .ok l[i]:=by
 show(match L2.atI l (i:Int)with | some t=>Rs.ok t | none=> .bad)=_
 rw[jU (LN h)]
theorem HH (a b:Int):qQ (.int a) (.int b)= .ok (.bl (a == b)):=by
 unfold qQ;rw[if_pos (jQ (by simp[T.dep]) rfl rfl)]
 rfl
theorem zS (ns:List Int)(hn:ns.length<=63)(a:Nat)(cs:List T)(hc:bj (.tup cs)=true):∃r,dG [.scr ns,.int a,.tup cs] = .ok r/\(r= .non\/(bX cs r=true/\sm 8 r=true)):=by
 obtain⟨ha,h1,h4⟩:=cL hc
 have hlen:=ud cs 0 ha
 have er:=v9 cs hc
 have gl:∀s4 s5 s6 s7:Sl,cl cI (ae (vr 3) ai) [.va (.scr ns),.va (.int a),.va (.tup cs),.va (.lst (fK 0 cs)),s4,s5,s6,s7] = .ok (.int ((fK 0 cs).length:Nat)):=λ_ _ _ _=>rfl
 have s1:cC (cl cX (ae (vr 2) ai)) (gN 3) [.va (.scr ns),.va (.int a),.va (.tup cs),.em,.em,.em,.em,.em] = .ok (.nx [.va (.scr ns),.va (.int a),.va (.tup cs),.va (.lst (fK 0 cs)),.em,.em,.em,.em]):=bS (aM (ts:=[.tup cs]) rfl er) rfl
 have lt:o2 nu (cl cI (ae (vr 3) ai)) (cn (.int 2)) [.va (.scr ns),.va (.int a),.va (.tup cs),.va (.lst (fK 0 cs)),.em,.em,.em,.em] = .ok (.bl (decide (((fK 0 cs).length:Int)<2))):=aD (t:=.int ((fK 0 cs).length:Nat)) (u:=.int 2) (gl _ _ _ _) rfl rfl
 by_cases hs:(fK 0 cs).length<2
 ·refine⟨.non,bJ rfl ?_,.inl rfl⟩
  show eJ [.va (.scr ns),.va (.int a),.va (.tup cs),.em,.em,.em,.em,.em] =_
  unfold eJ;rw[ax s1];rw[decide_eq_true (by omega)]at lt
  exact gW ((ez (bL lt)).trans rfl)
 ·rw[decide_eq_false (by omega)]at lt
  generalize hN:(fK 0 cs).length=n at*
  obtain⟨d1,e1,p1,q1⟩:=dt ns a (n:Int) hn (by omega)
  obtain⟨d2,e2,p2,q2⟩:=dt ns (a+1) ((n:Int) - 1) hn (by omega)
  obtain⟨d3,e3,p3,q3⟩:=dt ns (a+2) 8 hn (by omega)
  obtain⟨d4,e4,p4,q4⟩:=dt ns (a+3) 3 hn (by omega)
  obtain⟨d5,e5,p5,q5⟩:=dt ns (a+4) 9 hn (by omega)
  obtain⟨i,rfl⟩:=Mt p1;obtain⟨d2,rfl⟩:=Mt p2
  have hi:i<(fK 0 cs).length:=by omega
  have hj:(i+1+d2) % n<(fK 0 cs).length:=by rw[hN];exact Nat.mod_lt _ (by omega)
  have hij:i≠(i+1+d2) % n:=by
   rcases OL (i+1+d2) n with q | q
   ·rw[S0 q];omega
   ·have:(i+1+d2) % n=i+1+d2 - n:=by
     rw[Nat.mod_eq_sub_mod q,S0 (by omega)]
    rw[this];omega
  have eA:=Cg (M9 hi)
  have eB:=Cg (M9 hj)
  have eN:(fK 0 cs)[i] ≠(fK 0 cs)[(i+1+d2) % n]:=Bs (mG cs 0) hi hj hij
  generalize hA:(fK 0 cs)[i] =A at*
  generalize hB:(fK 0 cs)[(i+1+d2) % n] =B at*
  let y:T:=if d4 == 0 then .non else .int (d3+d5)
  refine⟨.tup [A,B,.int d3,y],bJ rfl ?_,.inr ⟨?_,?_⟩⟩
  ·show eJ [.va (.scr ns),.va (.int a),.va (.tup cs),.em,.em,.em,.em,.em] =_
   unfold eJ;rw[ax s1];rw[ax (Z':=[.va (.scr ns),.va (.int a),.va (.tup cs),.va (.lst (fK 0 cs)),.em,.em,.em,.em]) ((c8 (bL lt)).trans rfl)];rw[ax (Z':=[.va (.scr ns),.va (.int a),.va (.tup cs),.va (.lst (fK 0 cs)),.va (.int (i:Nat)),.em,.em,.em]) (bS (eO e1 rfl rfl (gl _ _ _ _)) rfl)];rw[ax (Z':=[.va (.scr ns),.va (.int a),.va (.tup cs),.va (.lst (fK 0 cs)),.va (.int (i:Nat)),.va (.int ((i+1+d2) % n:Nat)),.em,.em]) (bS (t:=.int ((i+1+d2) % n:Nat)) (aD (t:=.int ((i:Int)+1+d2)) (u:=.int n) (aD (t:=.int ((i:Int)+1)) (u:=.int d2) rfl (eO (k:=a+1) e2 rfl rfl (aD (t:=.int n) (u:=.int 1) (gl _ _ _ _) rfl rfl)) rfl) (gl _ _ _ _) (lb (by omega))) rfl)]
   rw[ax (Z':=[.va (.scr ns),.va (.int a),.va (.tup cs),.va (.lst (fK 0 cs)),.va (.int (i:Nat)),.va (.int ((i+1+d2) % n:Nat)),.va (.int d3),.em]) (bS (eO (k:=a+2) e3 rfl rfl rfl) rfl)]
   have ey:t9 (tb (o2 qQ (cl aA (ae (vr 0) (ae (o2 aY (vr 1) (cn (.int 3))) (ae (cn (.int 3)) ai)))) (cn (.int 0)))) (cn .non) (o2 aY (vr 6) (cl aA (ae (vr 0) (ae (o2 aY (vr 1) (cn (.int 4))) (ae (cn (.int 9)) ai))))) [.va (.scr ns),.va (.int a),.va (.tup cs),.va (.lst (fK 0 cs)),.va (.int (i:Nat)),.va (.int ((i+1+d2) % n:Nat)),.va (.int d3),.em] = .ok y:=by
    rw[ju (bL (aD (u:=.int 0) (eO (k:=a+3) e4 rfl rfl rfl) rfl (HH _ _)))]
    show _=Rs.ok (if d4 == 0 then T.non else .int (d3+d5))
    cases d4 == 0 with
    | true=>rfl
    | false=>exact aD (t:=.int d3) rfl (eO (k:=a+4) e5 rfl rfl rfl) rfl
   rw[ax (Z':=[.va (.scr ns),.va (.int a),.va (.tup cs),.va (.lst (fK 0 cs)),.va (.int (i:Nat)),.va (.int ((i+1+d2) % n:Nat)),.va (.int d3),.va y]) (bS ey rfl)];refine cz (cJ (ar (t:=A) (aD (t:=.lst (fK 0 cs)) (u:=.int (i:Nat)) rfl rfl ?_) (ar (t:=B) (aD (t:=.lst (fK 0 cs)) (u:=.int ((i+1+d2) % n:Nat)) rfl rfl ?_) (ar (t:=.int d3) rfl (ar (t:=y) rfl rfl)))) (aw (k:=4) (by simp)))
   ·rw[<-hA];exact xv hi
   ·rw[<-hB];exact xv hj
  ·show(fV (.int d3) y&&(aU cs A&&(aU cs B&& !bo A B)))=true
   rw[eA,eB,Cf eA eB eN]
   have:fV (.int d3) y=true:=by
    show(bM (.int d3) 0 999&&(match(T.int d3),(if d4 == 0 then T.non else .int (d3+d5))with | _,.non=>true | .int i,_=>bM (if d4 == 0 then T.non else .int (d3+d5)) i 999 | _,_=>false))=true
    cases d4 == 0 with
    | true=>simp[bM];omega
    | false=>simp[bM];omega
   rw[this];rfl
  ·refine sm_tup.mpr ⟨by simp,λt ht=> ?_⟩
   have hy:sm 8 y=true:=by show sm 8 (if d4 == 0 then T.non else .int (d3+d5))=true;cases d4 == 0 <;> simp[sm]
   simp only[LH,MC,or_false]at ht;rcases ht with rfl | rfl | rfl | rfl
   ·exact uS eA
   ·exact uS eB
   ·simp[sm]
   ·exact hy
def okv:Rs T->T
 | .ok t=>t
 | _=> .non
theorem n4 (l:List T)(k:Int)(h : -(2 ^ 63)<=k/\k<2 ^ 63/\l.length*k.toNat<=sizeLine):bW (.lst l) (.int k)= .ok (.lst (LS k.toNat l).flatten):=by
 show xk (.lst l) (.int k)=_
 unfold xk;exact if_pos h
theorem mul_one (x:T)(b:Bool):bW (.lst [x]) (.int (if b then 1 else 0))= .ok (.lst (if b then [x]else [])):=by
 cases b with
 | true=>exact n4 [x] 1 ⟨by decide,by decide,aw (k:=1) (by simp)⟩
 | false=>exact n4 [x] 0 ⟨by decide,by decide,aw (k:=1) (by simp)⟩
abbrev leF:En->Rs Fl:=az (cC (cl dG (ae (vr 0) (ae (o2 aY (o2 aY (vr 1) (cn (.int 31))) (o2 bW (cn (.int 6)) (vr 5))) (ae (vr 3) ai)))) (gN 6)) (cC (o2 aY (vr 4) (o2 bW (dD (ae (vr 6) ai)) (cl BZ (ae (o2 cZ (vr 6) (cn .non)) ai)))) (gN 4))
def Ad (cs ls:List T):Prop:=∀t∈ls,bX cs t=true/\sm 8 t=true
theorem D6 (ns:List Int)(hn:ns.length<=63)(a j:Nat)(m:T)(cs ls:List T)(hc:bj (.tup cs)=true)(h:Ad cs ls)(hl:ls.length<=100)(s6:Sl) :
  ∃ls2 s7,leF [.va (.scr ns),.va (.int a),.va m,.va (.tup cs),.va (.lst ls),.va (.int j),s6] = .ok (.nx [.va (.scr ns),.va (.int a),.va m,.va (.tup cs),.va (.lst ls2),.va (.int j),s7])/\Ad cs ls2/\ls2.length<=ls.length+1:=by
 obtain⟨r,er,hr⟩:=zS ns hn (a+31+6*j) cs hc
 have e1:∀G,az (cC (cl dG (ae (vr 0) (ae (o2 aY (o2 aY (vr 1) (cn (.int 31))) (o2 bW (cn (.int 6)) (vr 5))) (ae (vr 3) ai)))) (gN 6)) G [.va (.scr ns),.va (.int a),.va m,.va (.tup cs),.va (.lst ls),.va (.int j),s6] =G [.va (.scr ns),.va (.int a),.va m,.va (.tup cs),.va (.lst ls),.va (.int j),.va r]:=λG=>by
  refine ax (bS (t:=r) (aM (ts:=[.scr ns,.int (a+31+6*j:Nat),.tup cs]) (ar (t:=.scr ns) rfl (ar (t:=.int (a+31+6*j:Nat)) (aD (t:=.int ((a:Int)+31)) (u:=.int (6*(j:Int))) rfl (aD (t:=.int 6) (u:=.int j) rfl rfl (kR (by omega) (by omega))) rfl) (ar (t:=.tup cs) rfl rfl))) er) rfl)
 have e2:cl BZ (ae (o2 cZ (vr 6) (cn .non)) ai) [.va (.scr ns),.va (.int a),.va m,.va (.tup cs),.va (.lst ls),.va (.int j),.va r] = .ok (.int (if !r.isN then 1 else 0)):=aM (ts:=[.bl (!r.isN)]) rfl rfl
 refine⟨ls++(if !r.isN then [r]else []),.va r,?_,?_,?_⟩
 ·refine(e1 _).trans (bS (aD (t:=.lst ls) (u:=.lst (if !r.isN then [r]else [])) rfl (aD (t:=.lst [r]) (gf (ts:=[r]) rfl (aw (k:=1) (by simp))) e2 (mul_one _ _)) (jb _ _ ?_)) rfl)
  rw[LF];cases r.isN <;> simp <;> omega
 ·intro t ht
  rcases Mb.mp ht with ht | ht
  ·exact h t ht
  ·rcases hr with rfl | hr
   ·cases ht
   ·cases q:r.isN with
    | true=>rw[q]at ht;cases ht
    | false=>
     rw[q]at ht;rw[show t=r by simpa using ht]
     exact hr
 ·rw[LF]
  cases r.isN <;> simp
theorem yu (ns:List Int)(hn:ns.length<=63)(a:Nat)(m:T)(cs:List T)(hc:bj (.tup cs)=true):∀(js:List Nat) (ls:List T) (s5 s6:Sl),Ad cs ls->ls.length+js.length<=100 →
  ∃ls2 t5 t6,bf (gN 5) leF (js.map λ(j:Nat)=>T.int j) [.va (.scr ns),.va (.int a),.va m,.va (.tup cs),.va (.lst ls),s5,s6] = .ok (.nx [.va (.scr ns),.va (.int a),.va m,.va (.tup cs),.va (.lst ls2),t5,t6])/\Ad cs ls2/\ls2.length<=ls.length+js.length
 | [],ls,s5,s6,h,_=>⟨ls,s5,s6,rfl,h,LL _⟩
 | j::js,ls,s5,s6,h,hl=>by
  rw[LG]at hl;obtain⟨l2,s7,e2,h2,n2⟩:=D6 ns hn a j m cs ls hc h (by omega) s6
  obtain⟨l3,t5,t6,e3,h3,n3⟩:=yu ns hn a m cs hc js l2 (.va (.int j)) s7 h2 (by omega)
  refine⟨l3,t5,t6,?_,h3,by rw[LG];omega⟩
  rw[Lx,cK (Z1:=[.va (.scr ns),.va (.int a),.va m,.va (.tup cs),.va (.lst ls),.va (.int j),s6]) rfl e2];exact e3
theorem HK (ns:List Int)(hn:ns.length<=63)(a m:Nat)(hm:m<=8):∃cs ls,fT [.scr ns,.int a,.int m] = .ok (RR cs ls)/\bj (.tup cs)=true/\cs.length<=3/\(∀c∈cs,sm 8 c=true)/\Ad cs ls/\ls.length<=m:=by
 obtain⟨d1,e1,p1,q1⟩:=dt ns a 3 hn (by omega)
 obtain⟨d2,e2,p2,q2⟩:=dt ns (a+30) ((m:Int)+1) hn (by omega)
 obtain⟨d1,rfl⟩:=Mt p1;obtain⟨d2,rfl⟩:=Mt p2
 let hcl:T->T:=λt=>match t with
  | .int k=>okv (cU [.scr ns,.int ((a:Int)+1+8*k)])
  | _=> .non
 have hh:∀t∈rng 0 ((1+d1:Nat):Int),∃k:Nat,t= .int k/\cU [.scr ns,.int ((a+1+8*k:Nat):Int)] = .ok (hcl t)/\bV (hcl t)=true/\sm 8 (hcl t)=true:=λt ht=>by
  obtain⟨k,rfl,_⟩:=fw ht;obtain⟨c,ec,h1,h2⟩:=Cn ns hn (a+1+8*k)
  have e:hcl (.int k)=c:=by
   show okv (cU [.scr ns,.int ((a+1+8*k:Nat):Int)])=c
   rw[ec];rfl
  exact⟨k,rfl,by rw[e];exact ec,by rw[e];exact h1,by rw[e];exact h2⟩
 generalize hcs:(rng 0 ((1+d1:Nat):Int)).map hcl=cs
 have lc:cs.length=1+d1:=by rw[<-hcs,LA,hY]
 have hc:bj (.tup cs)=true:=by
  show(fz (.tup cs) 1 4&&cs.all bV)=true
  rw[LC,L5];refine⟨by simp[fz];omega,λc h=> ?_⟩
  rw[<-hcs]at h;obtain⟨t,ht,rfl⟩:=LW.mp h;obtain⟨_,_,_,h1,_⟩:=hh t ht;exact h1
 have hsm:∀c∈cs,sm 8 c=true:=λc h=>by
  rw[<-hcs]at h;obtain⟨t,ht,rfl⟩:=LW.mp h;obtain⟨_,_,_,_,h1⟩:=hh t ht;exact h1
 obtain⟨ls,t5,t6,el,hl,nl⟩:=yu ns hn a (.int m) cs hc (MA d2) [] .em .em (λt h=>by cases h) (by simp;omega)
 refine⟨cs,ls,bJ rfl ?_,hc,by omega,hsm,hl,by simp at nl;omega⟩
 show iB [.va (.scr ns),.va (.int a),.va (.int m),.em,.em,.em,.em] =_
 unfold iB
 have s1:cC (cl gh (ae (eY (iR (ae (o2 aY (cn (.int 1)) (cl aA (ae (vr 0) (ae (vr 1) (ae (cn (.int 3)) ai))))) ai)) [none,some 0,some 1] (gN 0) bT (cl cU (ae (vr 1) (ae (o2 aY (o2 aY (vr 2) (cn (.int 1))) (o2 bW (cn (.int 8)) (vr 0))) ai)))) ai)) (gN 3) [.va (.scr ns),.va (.int a),.va (.int m),.em,.em,.em,.em] = .ok (.nx [.va (.scr ns),.va (.int a),.va (.int m),.va (.tup cs),.em,.em,.em]):=by
  refine bS (t:=.tup cs) (aM (ts:=[.lst cs]) (ar (t:=.lst cs) ?_ rfl) rfl) rfl
  rw[<-hcs];refine mQ (ts:=rng 0 ((1+d1:Nat):Int)) (h:=hcl) (zM (ar (t:=.int ((1+d1:Nat):Int)) (aD (t:=.int 1) (u:=.int d1) rfl (eO e1 rfl rfl rfl) rfl) rfl) (by omega) (by omega)) (aw (k:=3) (by rw[hY];omega)) (by simp) λt ht=> ?_
  obtain⟨k,rfl,ek,_,_⟩:=hh t ht;refine aM (ts:=[.scr ns,.int ((a+1+8*k:Nat):Int)]) (ar (t:=.scr ns) rfl (ar (aD (t:=.int ((a:Int)+1)) (u:=.int (8*(k:Int))) rfl (aD (t:=.int 8) (u:=.int k) rfl rfl (kR (by omega) (by omega))) rfl) rfl)) ek
 rw[ax s1];rw[ax (Z':=[.va (.scr ns),.va (.int a),.va (.int m),.va (.tup cs),.va (.lst []),.em,.em]) (bS (gf (ts:=[]) rfl (aw (k:=0) (by simp))) rfl)]
 rw[ax ((dC (zM (ar (eO (k:=a+30) e2 rfl rfl (aD (t:=.int m) (u:=.int 1) rfl rfl rfl)) rfl) (by omega) (by omega)) (by rw[sM];exact el)))]
 exact cz (cJ (ar (t:=.tup cs) rfl (ar (t:=.tup ls) rfl rfl)) (aw (k:=2) (by simp)))
theorem lZ {cs:List T}{t:T}(h:bX cs t=true):∃a b x y,t= .tup [a,b,x,y]/\fV x y=true/\aU cs a=true/\aU cs b=true/\bo a b=false:=by
 unfold bX at h
 split at h
 ·simp only[LC,So]at h
  exact⟨_,_,_,_,rfl,h.1,h.2.1,h.2.2.1,h.2.2.2⟩
 ·cases h
theorem Gb {cs ls:List T}(hc:bj (.tup cs)=true)(hs:∀c∈cs,sm 8 c=true)(hl:Ad cs ls)(hn:ls.length<=8):iM (RR cs ls)=true/\sm 8 (RR cs ls)=true:=by
 refine⟨?_,?_⟩
 ·show(bj (.tup cs)&&(fz (.tup ls) 0 8&&ls.all (bX cs)))=true
  rw[hc,PL,LC,L5];exact⟨by simp[fz];exact hn,λt ht=>(hl t ht).1⟩
 ·refine sm_tup.mpr ⟨by simp,λt ht=> ?_⟩
  simp only[LH,MC,or_false]at ht;rcases ht with rfl | rfl
  ·exact sm_tup.mpr ⟨by have:=(cL hc).2.2;omega,hs⟩
  ·exact sm_tup.mpr ⟨hn,λt ht=>(hl t ht).2⟩
end G
namespace Tr
open PySem
section
variable {f fa fb:En->Rs T}{fs:En->Rs (List T)}{b c:En->Rs Bool}{F G:En->Rs Fl}{Z Z' Z1 Z2:En}{t u r:T}{ts l m:List T}
mutual
theorem mX:∀(t:T),t.pl=true->bo t t=true
 | .non,_=>rfl
 | .bl a,_=>by simp[bo]
 | .int a,_=>by simp[bo]
 | .str a,_=>by simp[bo]
 | .tup l,h=>by rw[bo];exact beqTs_refl l (by unfold T.pl at h;exact h)
 | .lst l,h=>by rw[bo];exact beqTs_refl l (by unfold T.pl at h;exact h)
 | .scr _,h=>by simp[T.pl]at h
theorem beqTs_refl:∀(l:List T),plS l=true->beqTs l l=true
 | [],_=>rfl
 | t::l,h=>by
  unfold plS at h;rw[LC]at h;rw[beqTs,mX t h.1,beqTs_refl l h.2];rfl
end
theorem iX (hp:t.pl=true)(hd:t.dep<=60):nM t t= .ok (.bl false):=by
 unfold nM;rw[if_pos (jQ hd (T.Kx _ hp) (T.Kx _ hp)),mX t hp];rfl
theorem og (hp:t.pl=true)(hd:t.dep<=60):qQ t t= .ok (.bl true):=by
 unfold qQ;rw[if_pos (jQ hd (T.Kx _ hp) (T.Kx _ hp)),mX t hp]
theorem oV:∀{l:List T},(∀t∈l,t.pl=true)->plS l=true
 | [],_=>rfl
 | t::l,h=>by unfold plS;rw[h t Lz,oV λu hu=>h u (Lw _ hu)];rfl
end
end Tr
namespace G
open PySem Tr
def dr (r:List Int)(k:Nat):Int:=r.getD (k+1) 0 - r.getD k 0
def pr (n:Nat)(x y:Int)(r:List Int)(k:Nat):List T:=
 [.tup [.tup [.int n,.int k],.tup [.int n,.int ((k+1:Nat):Int)],.int (dr r k*y)],.tup [.tup [.int n,.int ((k+1:Nat):Int)],.tup [.int n,.int k],.int (-dr r k*x)]]
def cB (n:Nat)(x y:Int)(r:List Int):List T:=(MA (r.length - 1)).flatMap (pr n x y r)
abbrev CF (n:Nat)(x y:Int)(r:List Int)(acc:List T)(s4 s5 s6 s7:Sl):En:=[.va (.int n),.va (.tup [.int x,.int y,.tup (r.map .int)]),.va (.tup (r.map .int)),.ow (.lst acc),s4,s5,s6,s7]
abbrev bcF:En->Rs Fl:=(az (cC (aO (ae (vr 0) (ae (vr 4) ai))) (gN 5)) (az (cC (aO (ae (vr 0) (ae (o2 aY (vr 4) (cn (.int 1))) ai))) (gN 6)) (az (cC (o2 fh (o2 aZ (vr 2) (o2 aY (vr 4) (cn (.int 1)))) (o2 aZ (vr 2) (vr 4))) (gN 7)) (az (g9 3 (aO (ae (vr 5) (ae (vr 6) (ae (o2 bW (vr 7) (o2 aZ (vr 1) (cn (.int 1)))) ai))))) (g9 3 (aO (ae (vr 6) (ae (vr 5) (ae (o2 bW (o1 pE (vr 7)) (o2 aZ (vr 1) (cn (.int 0)))) ai)))))))))
theorem n6 {r:List Int}{k:Nat}(h:k<r.length):(r.map T.int)[k]? =some (.int (r.getD k 0)):=by
 rw[LY,LN h]
 simp[h]
theorem EG (n:Nat)(x y:Int)(r:List Int)(acc:List T)(k:Nat)(s5 s6 s7:Sl)(hk:k+1<r.length)(hx:0<=x/\x<=9)(hy:0<=y/\y<=9)(ha:acc.length<=100) :
  bcF (CF n x y r acc (.va (.int k)) s5 s6 s7)= .ok (.nx (CF n x y r (acc++pr n x y r k) (.va (.int k)) (.va (.tup [.int n,.int k])) (.va (.tup [.int n,.int ((k+1:Nat):Int)])) (.va (.int (dr r k))))):=by
 have h2:([T.int n,T.int k]:List T).length<=sizeLine:=aw (k:=2) (by simp)
 have ek:((k:Int)+1)=((k+1:Nat):Int):=by omega
 refine(ax (Z':=CF n x y r acc (.va (.int k)) (.va (.tup [.int n,.int k])) s6 s7) (bS (cJ rfl (aw (k:=2) (by simp))) rfl)).trans ?_
 refine(ax (Z':=CF n x y r acc (.va (.int k)) (.va (.tup [.int n,.int k])) (.va (.tup [.int n,.int ((k+1:Nat):Int)])) s7) (bS (cJ (ar rfl (ar (t:=.int ((k+1:Nat):Int)) (aD (t:=.int k) (u:=.int 1) rfl rfl (congrArg (λz=>Rs.ok (T.int z)) ek)) rfl)) (aw (k:=2) (by simp))) rfl)).trans ?_
 refine(ax (Z':=CF n x y r acc (.va (.int k)) (.va (.tup [.int n,.int k])) (.va (.tup [.int n,.int ((k+1:Nat):Int)])) (.va (.int (dr r k)))) (bS (t:=.int (dr r k)) (aD (t:=.int (r.getD (k+1) 0)) (u:=.int (r.getD k 0)) (zI (n:=k+1) rfl (aD (t:=.int k) (u:=.int 1) rfl rfl (congrArg (λz=>Rs.ok (T.int z)) ek)) (n6 hk)) (zI (n:=k) rfl rfl (n6 (by omega))) rfl) rfl)).trans ?_
 refine(ax (Z':=CF n x y r (acc++ [.tup [.tup [.int n,.int k],.tup [.int n,.int ((k+1:Nat):Int)],.int (dr r k*y)]]) (.va (.int k)) (.va (.tup [.int n,.int k])) (.va (.tup [.int n,.int ((k+1:Nat):Int)])) (.va (.int (dr r k)))) (l7 (l:=acc) (cJ (ar rfl (ar rfl (ar (aD (t:=.int (dr r k)) (u:=.int y) rfl rfl (Bx (by omega) (by omega))) rfl))) (aw (k:=3) (by simp))) rfl (by omega))).trans ?_
 refine(l7 (l:=acc++ [.tup [.tup [.int n,.int k],.tup [.int n,.int ((k+1:Nat):Int)],.int (dr r k*y)]]) (cJ (ar rfl (ar rfl (ar (aD (t:=.int (-dr r k)) (u:=.int x) rfl rfl (Bx (by omega) (by omega))) rfl))) (aw (k:=3) (by simp))) rfl (by rw[LF];simp;omega)).trans ?_
 rw[L0]
 rfl
theorem yU (n:Nat)(x y:Int)(r:List Int)(hx:0<=x/\x<=9)(hy:0<=y/\y<=9):∀(js:List Nat) (acc:List T) (s4 s5 s6 s7:Sl),(∀k∈js,k+1<r.length)->acc.length+2*js.length<=100 →
  ∃t4 t5 t6 t7,bf (gN 4) bcF (js.map λ(k:Nat)=>T.int k) (CF n x y r acc s4 s5 s6 s7)= .ok (.nx (CF n x y r (acc++js.flatMap (pr n x y r)) t4 t5 t6 t7))
 | [],acc,s4,s5,s6,s7,_,_=>⟨s4,s5,s6,s7,by simp[bf]⟩
 | k::js,acc,s4,s5,s6,s7,hk,hl=>by
  rw[LG]at hl
  have e:=EG n x y r acc k s5 s6 s7 (hk k Lz) hx hy (by omega)
  obtain⟨t4,t5,t6,t7,ih⟩:=yU n x y r hx hy js (acc++pr n x y r k) (.va (.int k)) (.va (.tup [.int n,.int k])) (.va (.tup [.int n,.int ((k+1:Nat):Int)])) (.va (.int (dr r k))) (λj hj=>hk j (Lw _ hj)) (by rw[LF];simp[pr];omega)
  refine⟨t4,t5,t6,t7,?_⟩
  rw[Lx,cK (Z1:=CF n x y r acc (.va (.int k)) s5 s6 s7) rfl e,ih,Ng,L0]
theorem Cr (n:Nat)(x y:Int)(r:List Int)(hx:0<=x/\x<=9)(hy:0<=y/\y<=9)(h1:1<=r.length)(h4:r.length<=4):cT [.int n,.tup [.int x,.int y,.tup (r.map .int)]] = .ok (.lst (cB n x y r)):=by
 refine bJ rfl ?_
 show fF [.va (.int n),.va (.tup [.int x,.int y,.tup (r.map .int)]),.em,.em,.em,.em,.em,.em] =_
 unfold fF;rw[ax (Z':=[.va (.int n),.va (.tup [.int x,.int y,.tup (r.map .int)]),.va (.tup (r.map .int)),.em,.em,.em,.em,.em]) (bS (t:=.tup (r.map .int)) rfl rfl)];rw[ax (Z':=CF n x y r [] .em .em .em .em) rfl];obtain⟨t4,t5,t6,t7,e⟩:=yU n x y r hx hy (MA (r.length - 1)) [] .em .em .em .em (λk hk=>by have:=MZ.mp hk;omega) (by simp;omega)
 have e1:iR (ae (o2 fh (cl cI (ae (vr 2) ai)) (cn (.int 1))) ai) (CF n x y r [] .em .em .em .em)= .ok (rng 0 ((r.length - 1:Nat):Int)):=by
  refine zM (j:=((r.length - 1:Nat):Int)) (ar (aD (t:=.int (r.length:Nat)) (u:=.int 1) (aM (ts:=[.tup (r.map .int)]) rfl (by show Rs.ok (T.int ((r.map T.int).length:Nat))=_;rw[LA])) rfl (congrArg (λz=>Rs.ok (T.int z)) (by omega))) rfl) (by omega) (by omega)
 rw[ax ((dC (ts:=(MA (r.length - 1)).map λ(k:Nat)=>T.int k) (by rw[e1,sM]) e))]
 rfl
theorem ja {t:T}(h:bV t=true):∃(x y:Int) (r:List Int),t= .tup [.int x,.int y,.tup (r.map .int)]/\(0<=x/\x<=9)/\(0<=y/\y<=9)/\1<=r.length/\r.length<=4:=by
 obtain⟨x,y,r,rfl,h1,h4⟩:=eZ h
 have h':(qz x y&&dN (.tup r))=true:=h;rw[LC]at h';obtain⟨hp,hr⟩:=h';unfold qz at hp;rw[LC]at hp;obtain⟨i,rfl,i1,i2⟩:=eQ hp.1;obtain⟨j,rfl,j1,j2⟩:=eQ (t:=y) (a:=i) (b:=9) hp.2;unfold dN at hr;rw[LC]at hr
 have hr2:((r.all λu=>bM u 0 99)&&(match nums r with | some m=>ql m | none=>false))=true:=hr.2
 rw[LC]at hr2;obtain⟨m,em⟩:=tG hr2.1
 have e:=ph em;subst e;rw[LA]at h1 h4;exact⟨i,j,m,rfl,⟨by omega,by omega⟩,⟨by omega,by omega⟩,h1,h4⟩
def xB (n:Nat)(t:T):List T:=match t with
 | .tup [.int x,.int y,.tup r] =>match nums r with
  | some m=>cB n x y m
  | none=> []
 | _=> []
def bC:Nat->List T->List T
 | _,[] => []
 | i,c::r=>xB i c++bC (i+1) r
def lB (t:T):List T:=match t with
 | .tup [a,b,.int le,mo] => .tup [b,a,.int (-le)] ::(if mo.isN then []else [.tup [a,b,mo]])
 | _=> []
def HX (cs ls:List T):List T:=bC 0 cs++ls.flatMap lB
theorem qY (n:Nat)(x y:Int)(r:List Int):xB n (.tup [.int x,.int y,.tup (r.map .int)])=cB n x y r:=by
 unfold xB;simp only[pj]
theorem HV (n:Nat)(x y:Int)(r:List Int):(cB n x y r).length=2*(r.length - 1):=by
 unfold cB;rw[List.length_flatMap]
 have:∀l:List Nat,(l.map λk=>(pr n x y r k).length).sum=2*l.length:=by
  intro l
  induction l with
  | nil=>rfl
  | cons a l ih=>rw[Lx,Nm,ih,LG];simp[pr];omega
 rw[this,Nf]
theorem wB {n:Nat}{t:T}(h:bV t=true):(xB n t).length<=6:=by
 obtain⟨x,y,r,rfl,_,_,h1,h4⟩:=ja h;rw[qY,HV];omega
theorem uq:∀{cs:List T} {i:Nat},(∀c∈cs,bV c=true)->(bC i cs).length<=6*cs.length
 | [],i,_=>by simp[bC]
 | c::cs,i,h=>by
  rw[bC,LF,LG]
  have:=wB (n:=i) (h c Lz)
  have:=uq (cs:=cs) (i:=i+1) λc hc=>h c (Lw _ hc)
  omega
theorem xq (t:T):(lB t).length<=2:=by
 unfold lB;split
 ·rename_i a b le mo
  cases mo.isN <;> simp
 ·simp
theorem yz:∀(ls:List T),(ls.flatMap lB).length<=2*ls.length
 | [] =>by simp
 | t::ls=>by
  rw[Ng,LF,LG]
  have:=xq t
  have:=yz ls;omega
theorem nv {cs:List T}{t:T}(h:bX cs t=true):∃(a b mo:T) (le:Int),t= .tup [a,b,.int le,mo]/\aU cs a=true/\aU cs b=true:=by
 obtain⟨a,b,x,y,rfl,hd,ha,hb,_⟩:=lZ h;unfold fV at hd;rw[LC]at hd;obtain⟨i,rfl,_⟩:=eQ hd.1;exact⟨a,b,y,i,rfl,ha,hb⟩
theorem zT {cs:List T}{t:T}(h:bX cs t=true):cH [t] = .ok (.lst (lB t)):=by
 obtain⟨a,b,mo,le,rfl,_,_⟩:=nv h;refine bJ rfl ?_
 show eU [.va (.tup [a,b,.int le,mo]),.em] =_
 unfold eU;rw[ax (Z':=[.va (.tup [a,b,.int le,mo]),.ow (.lst [.tup [b,a,.int (-le)]])]) (BP (l:=[.tup [b,a,.int (-le)]]) (ar (cJ (ar rfl (ar rfl (ar rfl rfl))) (aw (k:=3) (by simp))) rfl) (by simp) (by simp))]
 have e:∀(Z:En) l,Z= [.va (.tup [a,b,.int le,mo]),.ow (.lst l)]->o2 cZ (o2 aZ (vr 0) (cn (.int 3))) (cn .non) Z= .ok (.bl (!mo.isN)):=λZ l z=>by subst z;rfl
 have e2:lB (.tup [a,b,.int le,mo])= .tup [b,a,.int (-le)] ::(if mo.isN then []else [.tup [a,b,mo]]):=rfl
 rw[e2]
 cases q:mo.isN with
 | true=>
  rw[ax (Z':=[.va (.tup [a,b,.int le,mo]),.ow (.lst [.tup [b,a,.int (-le)]])]) ((c8 (bL (by rw[e _ _ rfl,q];rfl))).trans rfl)]
  rfl
 | false=>
  rw[ax (Z':=[.va (.tup [a,b,.int le,mo]),.ow (.lst ([.tup [b,a,.int (-le)]] ++ [.tup [a,b,mo]]))]) ((ez (bL (by rw[e _ _ rfl,q];rfl))).trans (l7 (l:=[.tup [b,a,.int (-le)]]) (cJ (ar rfl (ar rfl (ar rfl rfl))) (aw (k:=3) (by simp))) rfl (by simp)))]
  rfl
abbrev bdF:En->Rs Fl:=oS 1 (cl cT (ae (vr 2) (ae (vr 3) ai)))
abbrev bdG:T->En->Rs En:=gT 2 (eF (gN 2) (eF (gN 3) ly))
theorem yT (R:T)(s4:Sl):∀(cs:List T) (acc:List T) (i:Nat) (s2 s3:Sl),(∀c∈cs,bV c=true)->acc.length+6*cs.length<=100 →
  ∃y2 y3,bf bdG bdF (cp i cs) [.va R,.ow (.lst acc),s2,s3,s4] = .ok (.nx [.va R,.ow (.lst (acc++bC i cs)),y2,y3,s4])
 | [],acc,i,s2,s3,_,_=>⟨s2,s3,by simp[cp,bf,bC]⟩
 | c::cs,acc,i,s2,s3,hc,hl=>by
  have h0:=hc c Lz
  have hx:=wB (n:=i) h0;obtain⟨x,y,r,rfl,a1,a2,a3,a4⟩:=ja h0;rw[LG]at hl;rw[qY]at hx
  have st:bdF [.va R,.ow (.lst acc),.va (.int i),.va (.tup [.int x,.int y,.tup (r.map .int)]),s4] = .ok (.nx [.va R,.ow (.lst (acc++cB i x y r)),.va (.int i),.va (.tup [.int x,.int y,.tup (r.map .int)]),s4]):=
   BU (l:=acc) (aM (ts:=[.int i,.tup [.int x,.int y,.tup (r.map .int)]]) rfl (Cr i x y r a1 a2 a3 a4)) rfl (by omega)
  obtain⟨z2,z3,ih⟩:=yT R s4 cs (acc++cB i x y r) (i+1) (.va (.int i)) (.va (.tup [.int x,.int y,.tup (r.map .int)])) (λc h=>hc c (Lw _ h)) (by rw[LF];omega)
  refine⟨z2,z3,?_⟩
  rw[cp,cK (Z1:=[.va R,.ow (.lst acc),.va (.int i),.va (.tup [.int x,.int y,.tup (r.map .int)]),s4]) rfl st,ih,bC,qY,L0]
abbrev blF:En->Rs Fl:=oS 1 (cl cH (ae (vr 4) ai))
theorem yS (R:T)(cs:List T)(s2 s3:Sl):∀(ls:List T) (acc:List T) (s4:Sl),(∀t∈ls,bX cs t=true)->acc.length+2*ls.length<=100 →
  ∃y4,bf (gN 4) blF ls [.va R,.ow (.lst acc),s2,s3,s4] = .ok (.nx [.va R,.ow (.lst (acc++ls.flatMap lB)),s2,s3,y4])
 | [],acc,s4,_,_=>⟨s4,by simp[bf]⟩
 | t::ls,acc,s4,hl,hn=>by
  rw[LG]at hn
  have:=xq t
  have st:blF [.va R,.ow (.lst acc),s2,s3,.va t] = .ok (.nx [.va R,.ow (.lst (acc++lB t)),s2,s3,.va t]):=BU (l:=acc) (aM (ts:=[t]) rfl (zT (hl t Lz))) rfl (by omega)
  obtain⟨y4,ih⟩:=yS R cs s2 s3 ls (acc++lB t) (.va t) (λu h=>hl u (Lw _ h)) (by rw[LF];omega)
  refine⟨y4,?_⟩
  rw[cK (Z1:=[.va R,.ow (.lst acc),s2,s3,.va t]) rfl st,ih,Ng,L0]
theorem gS {R:T}(hp:R.pl=true)(h:iM R=true):bH [R] = .ok .non:=by
 refine tT (Z:=[.va R]) rfl ?_
 show eG [.va R] =_
 unfold eG;exact(c8 ((pM (k:=true) (bL (aM (ts:=[R]) rfl (by rw[v8 R hp,h])))))).trans rfl
theorem mL {R:T}(hp:R.pl=true)(h:iM R=false):bH [R] = .err "NoRecord":=by
 refine dh rfl ?_
 show eG [.va R] =_
 unfold eG;exact(ez ((pM (k:=false) (bL (aM (ts:=[R]) rfl (by rw[v8 R hp,h])))))).trans rfl
structure Good (cs ls:List T):Prop where
 c:bj (.tup cs)=true
 l:∀t∈ls,bX cs t=true
 n:ls.length<=8
 p:(RR cs ls).pl=true
theorem Good.ok {cs ls:List T}(g:Good cs ls):iM (RR cs ls)=true:=by
 show(bj (.tup cs)&&(fz (.tup ls) 0 8&&ls.all (bX cs)))=true
 rw[g.c,PL,LC,L5];exact⟨by simp[fz];exact g.n,g.l⟩
theorem Cp {cs ls:List T}(g:Good cs ls):dZ [RR cs ls] = .ok (.lst (HX cs ls)):=by
 obtain⟨hc,c1,c4⟩:=cL g.c
 have hn:=g.n;refine bJ rfl ?_
 show jY [.va (RR cs ls),.em,.em,.em,.em] =_
 unfold jY;rw[ax (lg (t:=.non) (aM (ts:=[RR cs ls]) rfl (gS g.p g.ok)))];rw[ax (Z':=[.va (RR cs ls),.ow (.lst []),.em,.em,.em]) (mP (by simp))]
 obtain⟨y2,y3,e⟩:=yT (RR cs ls) .em cs [] 0 .em .em hc (by simp;omega)
 rw[ax ((dC (ts:=cp 0 cs) rfl e))]
 have:=uq (i:=0) hc;obtain⟨y4,e2⟩:=yS (RR cs ls) cs y2 y3 ls ([] ++bC 0 cs) .em g.l (by rw[MJ];omega)
 rw[ax ((dC (ts:=ls) rfl e2))]
 rfl
abbrev Ai (R:T)(acc:List T)(n:Nat)(x y:Int)(r:List Int)(s6 s7 s8 s9 s10 s11:Sl):En:=[.va R,.ow (.lst acc),.va (.int n),.va (.int x),.va (.int y),.va (.tup (r.map .int)),s6,s7,s8,s9,s10,s11]
abbrev lkF:En->Rs Fl:=(az (cC (o2 fh (o2 aZ (vr 5) (vr 6)) (o2 aZ (vr 5) (o2 fh (vr 6) (cn (.int 1))))) (gN 7)) (az (g9 1 (aO (ae (aO (ae (vr 2) (ae (o2 fh (vr 6) (cn (.int 1))) ai))) (ae (aO (ae (vr 2) (ae (vr 6) ai))) (ae (o2 bW (vr 4) (vr 7)) ai))))) (g9 1 (aO (ae (aO (ae (vr 2) (ae (vr 6) ai))) (ae (aO (ae (vr 2) (ae (o2 fh (vr 6) (cn (.int 1))) ai))) (ae (o2 fh (cn (.int 0)) (o2 bW (vr 3) (vr 7))) ai)))))))
theorem D5 (R:T)(n:Nat)(x y:Int)(r:List Int)(acc:List T)(k:Nat)(s7 s8 s9 s10 s11:Sl)(hk:k+1<r.length)(hx:0<=x/\x<=9)(hy:0<=y/\y<=9)(ha:acc.length<=100) :
  lkF (Ai R acc n x y r (.va (.int ((k+1:Nat):Int))) s7 s8 s9 s10 s11)= .ok (.nx (Ai R (acc++pr n x y r k) n x y r (.va (.int ((k+1:Nat):Int))) (.va (.int (dr r k))) s8 s9 s10 s11)):=by
 have sb:∀acc s7,o2 fh (vr 6) (cn (.int 1)) (Ai R acc n x y r (.va (.int ((k+1:Nat):Int))) s7 s8 s9 s10 s11)= .ok (.int k):=λacc s7=>aD (t:=.int ((k+1:Nat):Int)) (u:=.int 1) rfl rfl (congrArg (λz=>Rs.ok (T.int z)) (by omega))
 refine(ax (Z':=Ai R acc n x y r (.va (.int ((k+1:Nat):Int))) (.va (.int (dr r k))) s8 s9 s10 s11) (bS (t:=.int (dr r k)) (aD (t:=.int (r.getD (k+1) 0)) (u:=.int (r.getD k 0)) (zI (n:=k+1) rfl rfl (n6 hk)) (zI (n:=k) rfl (sb acc s7) (n6 (by omega))) rfl) rfl)).trans ?_
 refine(ax (Z':=Ai R (acc++ [.tup [.tup [.int n,.int k],.tup [.int n,.int ((k+1:Nat):Int)],.int (dr r k*y)]]) n x y r (.va (.int ((k+1:Nat):Int))) (.va (.int (dr r k))) s8 s9 s10 s11) (l7 (l:=acc) (cJ (ar (cJ (ar rfl (ar (sb _ _) rfl)) (aw (k:=2) (by simp))) (ar (cJ rfl (aw (k:=2) (by simp))) (ar (aD (t:=.int y) (u:=.int (dr r k)) rfl rfl ((kR (by omega) (by omega)).trans (by rw[Int.mul_comm]))) rfl))) (aw (k:=3) (by simp))) rfl (by omega))).trans ?_
 refine(l7 (l:=acc++ [.tup [.tup [.int n,.int k],.tup [.int n,.int ((k+1:Nat):Int)],.int (dr r k*y)]]) (t:=.tup [.tup [.int n,.int ((k+1:Nat):Int)],.tup [.int n,.int k],.int (-dr r k*x)]) (cJ (ar (cJ rfl (aw (k:=2) (by simp))) (ar (cJ (ar rfl (ar (sb _ _) rfl)) (aw (k:=2) (by simp))) (ar (aD (t:=.int 0) (u:=.int (x*dr r k)) rfl (aD (t:=.int x) (u:=.int (dr r k)) rfl rfl (kR (by omega) (by omega))) (congrArg (λz=>Rs.ok (T.int z)) (by rw[Int.neg_mul,Int.mul_comm x,SK]))) rfl))) (aw (k:=3) (by simp))) rfl (by rw[LF];simp;omega)).trans ?_
 rw[L0]
 rfl
theorem yn (R:T)(n:Nat)(x y:Int)(r:List Int)(s8 s9 s10 s11:Sl)(hx:0<=x/\x<=9)(hy:0<=y/\y<=9):∀(js:List Nat) (acc:List T) (s6 s7:Sl),(∀k∈js,k+1<r.length)->acc.length+2*js.length<=100 →
  ∃t6 t7,bf (gN 6) lkF (js.map λ(k:Nat)=>T.int ((k+1:Nat):Int)) (Ai R acc n x y r s6 s7 s8 s9 s10 s11)= .ok (.nx (Ai R (acc++js.flatMap (pr n x y r)) n x y r t6 t7 s8 s9 s10 s11))
 | [],acc,s6,s7,_,_=>⟨s6,s7,by simp[bf]⟩
 | k::js,acc,s6,s7,hk,hl=>by
  rw[LG]at hl
  have e:=D5 R n x y r acc k s7 s8 s9 s10 s11 (hk k Lz) hx hy (by omega)
  obtain⟨t6,t7,ih⟩:=yn R n x y r s8 s9 s10 s11 hx hy js (acc++pr n x y r k) (.va (.int ((k+1:Nat):Int))) (.va (.int (dr r k))) (λj hj=>hk j (Lw _ hj)) (by rw[LF];simp[pr];omega)
  refine⟨t6,t7,?_⟩
  rw[Lx,cK (Z1:=Ai R acc n x y r (.va (.int ((k+1:Nat):Int))) s7 s8 s9 s10 s11) rfl e,ih,Ng,L0]
theorem Di (n:Nat)(h:1<=n):rng 1 (n:Int)=(MA (n - 1)).map λ(k:Nat)=>T.int ((k+1:Nat):Int):=by
 unfold rng
 have:((n:Int) - 1).toNat=n - 1:=by omega
 rw[this];exact L9 λk _=>congrArg T.int (by omega)
theorem iR2 {f:En->Rs (List T)}{Z:En}{i j:Int}(h:f Z= .ok [.int i,.int j])(h0:0<=i)(h1:i<=100000)(h2:0<=j)(h3:j<=100000):iR f Z= .ok (rng i j):=by
 unfold iR;rw[h]
 have e:(xA i&&xA j)=true:=by unfold xA;simp;omega
 show(if (xA i&&xA j)=true then _ else _)=_
 rw[e];rfl
abbrev JB:En->Rs Fl:=(dP (iR (ae (cn (.int 1)) (ae (cl cI (ae (vr 5) ai)) ai))) (gN 6) lkF)
abbrev lcG:T->En->Rs En:=gT 2 (eF (gN 2) (eF (gT 3 (eF (gN 3) (eF (gN 4) (eF (gN 5) ly)))) ly))
theorem yx (R:T)(s8 s9 s10 s11:Sl):∀(cs:List T) (acc:List T) (i:Nat) (s2 s3 s4 s5 s6 s7:Sl),(∀c∈cs,bV c=true)->acc.length+6*cs.length<=90 →
  ∃y2 y3 y4 y5 y6 y7,bf lcG JB (cp i cs) [.va R,.ow (.lst acc),s2,s3,s4,s5,s6,s7,s8,s9,s10,s11] = .ok (.nx [.va R,.ow (.lst (acc++bC i cs)),y2,y3,y4,y5,y6,y7,s8,s9,s10,s11])
 | [],acc,i,s2,s3,s4,s5,s6,s7,_,_=>⟨s2,s3,s4,s5,s6,s7,by simp[cp,bf,bC]⟩
 | c::cs,acc,i,s2,s3,s4,s5,s6,s7,hc,hl=>by
  have h0:=hc c Lz
  have hx:=wB (n:=i) h0;obtain⟨x,y,r,rfl,a1,a2,a3,a4⟩:=ja h0;rw[LG]at hl;rw[qY]at hx;obtain⟨t6,t7,e⟩:=yn R i x y r s8 s9 s10 s11 a1 a2 (MA (r.length - 1)) acc s6 s7 (λk hk=>by have:=MZ.mp hk;omega) (by rw[Nf];omega)
  have e1:iR (ae (cn (.int 1)) (ae (cl cI (ae (vr 5) ai)) ai)) (Ai R acc i x y r s6 s7 s8 s9 s10 s11)= .ok (rng 1 (r.length:Nat)):=
   iR2 (i:=1) (j:=(r.length:Nat)) (ar rfl (ar (aM (ts:=[.tup (r.map .int)]) rfl (by show Rs.ok (T.int ((r.map T.int).length:Nat))=_;rw[LA])) rfl)) (by omega) (by omega) (by omega) (by omega)
  have st:JB (Ai R acc i x y r s6 s7 s8 s9 s10 s11)= .ok (.nx (Ai R (acc++cB i x y r) i x y r t6 t7 s8 s9 s10 s11)):=(dC (ts:=(MA (r.length - 1)).map λ(k:Nat)=>T.int ((k+1:Nat):Int)) (by rw[e1,Di _ a3]) e)
  obtain⟨z2,z3,z4,z5,z6,z7,ih⟩:=yx R s8 s9 s10 s11 cs (acc++cB i x y r) (i+1) (.va (.int i)) (.va (.int x)) (.va (.int y)) (.va (.tup (r.map .int))) t6 t7 (λc h=>hc c (Lw _ h)) (by rw[LF];omega)
  refine⟨z2,z3,z4,z5,z6,z7,?_⟩
  rw[cp,cK (Z1:=Ai R acc i x y r s6 s7 s8 s9 s10 s11) rfl st,ih,bC,qY,L0]
abbrev llF:En->Rs Fl:=(az (g9 1 (aO (ae (vr 9) (ae (vr 8) (ae (o2 fh (cn (.int 0)) (vr 10)) ai))))) (eM (tb (o2 cZ (vr 11) (cn .non))) (g9 1 (aO (ae (vr 8) (ae (vr 9) (ae (vr 11) ai))))) sN))
abbrev llG:T->En->Rs En:=gT 4 (eF (gN 8) (eF (gN 9) (eF (gN 10) (eF (gN 11) ly))))
theorem ym (R:T)(cs:List T)(s2 s3 s4 s5 s6 s7:Sl):∀(ls:List T) (acc:List T) (s8 s9 s10 s11:Sl),(∀t∈ls,bX cs t=true)->acc.length+2*ls.length<=100 →
  ∃y8 y9 y10 y11,bf llG llF ls [.va R,.ow (.lst acc),s2,s3,s4,s5,s6,s7,s8,s9,s10,s11] = .ok (.nx [.va R,.ow (.lst (acc++ls.flatMap lB)),s2,s3,s4,s5,s6,s7,y8,y9,y10,y11])
 | [],acc,s8,s9,s10,s11,_,_=>⟨s8,s9,s10,s11,by simp[bf]⟩
 | t::ls,acc,s8,s9,s10,s11,hl,hn=>by
  rw[LG]at hn
  have hlb:=xq t;obtain⟨a,b,mo,le,rfl,_,_⟩:=nv (hl t Lz)
  have e2:lB (.tup [a,b,.int le,mo])= .tup [b,a,.int (-le)] ::(if mo.isN then []else [.tup [a,b,mo]]):=rfl
  have e:∀l,o2 cZ (vr 11) (cn .non) [.va R,.ow (.lst l),s2,s3,s4,s5,s6,s7,.va a,.va b,.va (.int le),.va mo] = .ok (.bl (!mo.isN)):=λl=>rfl
  have st:llF [.va R,.ow (.lst acc),s2,s3,s4,s5,s6,s7,.va a,.va b,.va (.int le),.va mo] = .ok (.nx [.va R,.ow (.lst (acc++lB (.tup [a,b,.int le,mo]))),s2,s3,s4,s5,s6,s7,.va a,.va b,.va (.int le),.va mo]):=by
   refine(ax (Z':=[.va R,.ow (.lst (acc++ [.tup [b,a,.int (-le)]])),s2,s3,s4,s5,s6,s7,.va a,.va b,.va (.int le),.va mo]) (l7 (l:=acc) (t:=.tup [b,a,.int (-le)]) (cJ (ar rfl (ar rfl (ar (aD (t:=.int 0) (u:=.int le) rfl rfl (congrArg (λz=>Rs.ok (T.int z)) (SK le))) rfl))) (aw (k:=3) (by simp))) rfl (by omega))).trans ?_
   rw[e2]
   cases q:mo.isN with
   | true=>exact(c8 (bL (by rw[e,q];rfl))).trans rfl
   | false=>
    refine(ez (bL (by rw[e,q];rfl))).trans ((l7 (l:=acc++ [.tup [b,a,.int (-le)]]) (t:=.tup [a,b,mo]) (cJ (ar rfl (ar rfl (ar rfl rfl))) (aw (k:=3) (by simp))) rfl (by rw[LF];simp;omega)).trans ?_)
    rw[L0]
    rfl
  obtain⟨y8,y9,y10,y11,ih⟩:=ym R cs s2 s3 s4 s5 s6 s7 ls (acc++lB (.tup [a,b,.int le,mo])) (.va a) (.va b) (.va (.int le)) (.va mo) (λu h=>hl u (Lw _ h)) (by rw[LF];omega)
  refine⟨y8,y9,y10,y11,?_⟩
  rw[cK (Z1:=[.va R,.ow (.lst acc),s2,s3,s4,s5,s6,s7,.va a,.va b,.va (.int le),.va mo]) rfl st,ih,Ng,L0]
theorem zR {cs ls:List T}(hcs:bj (.tup cs)=true)(hls:∀t∈ls,bX cs t=true)(hn:ls.length<=8):fU [RR cs ls] = .ok (.lst (HX cs ls)):=by
 obtain⟨hc,c1,c4⟩:=cL hcs;refine bJ rfl ?_
 show iC [.va (RR cs ls),.em,.em,.em,.em,.em,.em,.em,.em,.em,.em,.em] =_
 unfold iC;rw[ax (Z':=[.va (RR cs ls),.ow (.lst []),.em,.em,.em,.em,.em,.em,.em,.em,.em,.em]) (mP (by simp))]
 obtain⟨y2,y3,y4,y5,y6,y7,e⟩:=yx (RR cs ls) .em .em .em .em cs [] 0 .em .em .em .em .em .em hc (by simp;omega)
 rw[ax ((dC (ts:=cp 0 cs) rfl e))]
 have:=uq (i:=0) hc;obtain⟨y8,y9,y10,y11,e2⟩:=ym (RR cs ls) cs y2 y3 y4 y5 y6 y7 ls ([] ++bC 0 cs) .em .em .em .em hls (by rw[MJ];omega)
 rw[ax ((dC (ts:=ls) rfl e2))]
 rfl
theorem sR {l:List T}:(T.tup l).pl=plS l:=by unfold T.pl;rfl
theorem Good.parts {cs ls:List T}(g:Good cs ls):(T.tup cs).pl=true/\∀t∈ls,t.pl=true:=by
 have:=g.p;rw[sR]at this;unfold plS at this;rw[LC]at this
 have h2:=this.2;unfold plS at h2;rw[LC,sR]at h2;exact⟨this.1,λt ht=>lN h2.1 ht⟩
theorem r0:nQ "NoRecord" = .ok (dO 0):=by unfold nQ;rw[if_pos rfl]
theorem r1:nQ "NoEvent" = .ok (dO 1):=by unfold nQ;rw[if_neg (by decide),if_pos rfl]
theorem r2:nQ "NoNumber" = .ok (dO 2):=by unfold nQ;rw[if_neg (by decide),if_neg (by decide),if_pos rfl]
def fl2 (t:T):Prop:=t.pl=true/\t.dep<=5
theorem AQ (j:Nat):fl2 (dO j):=⟨rfl,by simp[dO,T.dep,deps]⟩
theorem sT {l:List T}{r:Int}(h0:0<=r)(h1:r<l.length):∃t∈l,aZ (.lst l) (.int r)= .ok t:=by
 obtain⟨n,rfl⟩:=Mt h0
 have hn:n<l.length:=by omega
 exact⟨l[n],M9 hn,xv hn⟩
theorem yh (j:Nat):nM (dO j) (dO j)= .ok (.bl false):=iX (AQ j).1 (by have:=(AQ j).2;omega)
theorem F1 {t:T}(h:sm 8 t=true):t.pl=true:=Ff t h
abbrev peF:En->Rs Fl:=oS 1 (eY (iR (ae (cl cI (ae (o2 aZ (vr 3) (cn (.int 2))) ai)) ai)) [none,some 2] (gN 0) bT (aO (ae (vr 1) (ae (vr 0) ai))))
theorem vh (c0 s1:Sl)(x y:T)(r:List T)(i:Nat)(h:r.length<=4) :
  eY (iR (ae (cl cI (ae (o2 aZ (vr 3) (cn (.int 2))) ai)) ai)) [none,some 2] (gN 0) bT (aO (ae (vr 1) (ae (vr 0) ai))) [c0,s1,.va (.int i),.va (.tup [x,y,.tup r])] = .ok (.lst (mh i r.length)):=
 mQ (zM (j:=(r.length:Int)) rfl (by omega) (by omega)) (aw (k:=4) (by rw[hY];exact h)) (by simp) λt _=>mk2 _ _
theorem x9:∀(cs:List T) (c0:T) (acc:List T) (i:Nat) (s2 s3:Sl),(∀c∈cs,bV c=true)->acc.length+4*cs.length<=100 →
  ∃y2 y3,bf evG peF (cp i cs) [.va c0,.ow (.lst acc),s2,s3] = .ok (.nx [.va c0,.ow (.lst (acc++fK i cs)),y2,y3])
 | [],c0,acc,i,s2,s3,_,_=>⟨s2,s3,by simp[cp,bf,fK]⟩
 | c::cs,c0,acc,i,s2,s3,hc,hl=>by
  obtain⟨x,y,r,rfl,r1,r2⟩:=eZ (hc c Lz);rw[LG]at hl
  have st:peF [.va c0,.ow (.lst acc),.va (.int i),.va (.tup [x,y,.tup r])] = .ok (.nx [.va c0,.ow (.lst (acc++mh i r.length)),.va (.int i),.va (.tup [x,y,.tup r])]):=BU (l:=acc) (vh _ _ x y r i r2) rfl (by rw[iN];omega)
  obtain⟨z2,z3,ih⟩:=x9 cs c0 (acc++mh i r.length) (i+1) (.va (.int i)) (.va (.tup [x,y,.tup r])) (λc h=>hc c (Lw _ h)) (by rw[LF,iN];omega)
  refine⟨z2,z3,?_⟩
  rw[cp,cK (Z1:=[.va c0,.ow (.lst acc),.va (.int i),.va (.tup [x,y,.tup r])]) rfl st,ih,fK,L0]
  rfl
theorem Bh {cs ls:List T}(g:Good cs ls):dY [RR cs ls] = .ok (.lst (fK 0 cs)):=by
 obtain⟨hc,c1,c4⟩:=cL g.c;refine bJ rfl ?_
 show qk [.va (RR cs ls),.em,.em,.em] =_
 unfold qk;rw[ax (lg (t:=.non) (aM (ts:=[RR cs ls]) rfl (gS g.p g.ok)))];rw[ax (Z':=[.va (RR cs ls),.ow (.lst []),.em,.em]) (mP (by simp))]
 obtain⟨y2,y3,e⟩:=x9 cs (RR cs ls) [] 0 .em .em hc (by simp;omega)
 rw[ax ((dC (ts:=cp 0 cs) rfl e))]
 rfl
theorem nZ {cs ls:List T}{t:T}(g:Good cs ls)(ht:t.pl=true)(h:aU cs t=true):cw [RR cs ls,t] = .ok .non:=by
 refine tT (Z:=[.va (RR cs ls),.va t]) rfl ?_
 show fE [.va (RR cs ls),.va t] =_
 unfold fE;exact(c8 ((pM (k:=true) (bL (aM (ts:=[.tup cs,t]) rfl (by rw[oh cs t g.c ht,h])))))).trans rfl
theorem vI {cs ls:List T}{t:T}(g:Good cs ls)(ht:t.pl=true)(h:aU cs t=false):cw [RR cs ls,t] = .err "NoEvent":=by
 refine dh rfl ?_
 show fE [.va (RR cs ls),.va t] =_
 unfold fE;exact(ez ((pM (k:=false) (bL (aM (ts:=[.tup cs,t]) rfl (by rw[oh cs t g.c ht,h])))))).trans rfl
theorem rG {g:T->En->Rs En}{F:En->Rs Fl}(J:En->Prop){ts:List T}(h:∀t∈ts,∀Z,J Z->∃Z1 Z2,g t Z= .ok Z1/\F Z1= .ok (.nx Z2)/\J Z2){Z:En}(hj:J Z):∃Z',bf g F ts Z= .ok (.nx Z')/\J Z':=
 (vM (p:=λ_=>true) J ts (λt ht Z hj=>by
  obtain⟨Z1,Z2,a,b,c⟩:=h t ht Z hj;exact⟨Z1,a,λ_=>⟨Z2,b,c⟩,λh=>by cases h⟩) Z hj).1 (by simp)
theorem p2 {a b:En->Rs T}{t u:T}{Z:En}(ha:a Z= .ok t)(hb:b Z= .ok u):aO (ae a (ae b ai)) Z= .ok (.tup [t,u]):=cJ (ar ha (ar hb rfl)) (aw (k:=2) (by simp))
theorem rf {l:List T}:gh [.lst l] = .ok (.tup l):=rfl
theorem EF {cs ls:List T}(g:Good cs ls):(HX cs ls).length<=60:=by
 unfold HX;rw[LF];obtain⟨hc,c1,c4⟩:=cL g.c
 have:=uq (i:=0) hc
 have:=yz ls
 have:=g.n;omega
end G
namespace G
open PySem Tr Gr
structure N2 where
 c:Int
 k:Int
deriving DecidableEq
theorem N2.ext':∀{u v:N2},u.c=v.c->u.k=v.k->u=v
 | ⟨_,_⟩,⟨_,_⟩,rfl,rfl=>rfl
def en (v:N2):T:=.tup [.int v.c,.int v.k]
def eB (x:N2×N2×Int):T:=.tup [en x.1,en x.2.1,.int x.2.2]
def eN (ks:List Nat):List T:=ks.map λk=> .int (k:Nat)
def eW (x:Int×List Nat):T:=.tup [.int x.1,.lst (eN x.2)]
def ky (v:N2):List L2.Key:=[.inl v.c,.inl v.k]
theorem bF (v:N2):keyOf (en v)=some (ky v):=rfl
theorem i8 {u v:N2}(h:some (ky u)=some (ky v)):u=v:=by
 injection h with h
 injection h with h1 h2
 injection h2 with h2 _
 injection h1 with h1
 injection h2 with h2
 exact N2.ext' h1 h2
theorem HI {u v:N2}(h:en u=en v):u=v:=i8 (by rw[<-bF u,<-bF v,h])
theorem CD (u v:N2):bo (en u) (en v)=decide (u=v):=by
 unfold en bo beqTs bo beqTs beqTs
 by_cases h:u=v
 ·subst h;simp[bo]
 ·have:¬ (u.c=v.c/\u.k=v.k):=λz=>h (N2.ext' z.1 z.2)
  simp[h,bo];exact λz=>λy=>this ⟨z,y⟩
theorem om (g:N2->T)(v:N2):∀(ns:List N2),lq (ns.map en) (ns.map g) (ky v)=if v∈ns then some (g v)else none
 | [] =>rfl
 | u::ns=>by
  rw[Lx,Lx,lq,bF]
  by_cases h:u=v
  ·subst h;rw[if_pos rfl,if_pos Lz]
  ·rw[if_neg (λz=>h (i8 z)),om g v ns]
   have:(v∈u::ns)↔v∈ns:=by rw[LH];exact⟨λz=>z.elim (λy=>absurd y.symm h) id,.inr⟩
   simp only[this]
theorem pV (x:T)(v:N2)(g:N2->T):∀(ns:List N2),v∉ns->hG (en v) x (ns.map en) (ns.map g)=(ns.map en++ [en v],ns.map g++ [x])
 | [],_=>rfl
 | u::ns,h=>by
  rw[LH,not_or]at h;rw[Lx,Lx,hG,bF,bF,if_neg (λz=>h.1 (i8 z).symm),pV x v g ns h.2]
  rfl
theorem ue (x:T)(v:N2)(g:N2->T):∀(ns:List N2),ns.Nodup->v∈ns->hG (en v) x (ns.map en) (ns.map g)=(ns.map en,ns.map λu=>if u=v then x else g u)
 | [],_,h=>by simp at h
 | u::ns,hn,h=>by
  rw[L7]at hn;rw[Lx,Lx,Lx,hG,bF,bF]
  by_cases z:u=v
  ·subst z
   rw[if_pos rfl,if_pos rfl]
   congr 2
   exact L9 λw hw=>by rw[if_neg (λ(y:w=u)=>hn.1 (y▸hw))]
  ·rw[if_neg (λy=>z (i8 y)),if_neg z]
   have h':v∈ns:=(LH.mp h).elim (λy=>absurd y.symm z) id
   rw[ue x v g ns hn.2 h']
theorem kh {α:Type}[DecidableEq α]:∀{l m:List α},l.Nodup->(∀x∈l,x∈m)->l.length<=m.length
 | [],_,_,_=>MT _
 | x::l,m,hn,h=>by
  rw[L7]at hn
  have hx:=h x Lz
  have:=kh (m:=m.erase x) hn.2 λy hy=>(Rm (λ(z:y=x)=>hn.1 (z▸hy))).mpr (h y (Lw _ hy))
  rw[List.length_erase_of_mem hx]at this
  have:0<m.length:=List.length_pos_of_mem hx;rw[LG];omega
def oW (o:Option (Int×List Nat)):T:=match o with
 | some x=>eW x
 | none=> .non
structure DR (P ns:List N2)(b:cA N2):Prop where
 nd:ns.Nodup
 mem:∀v,v∈ns↔(b v).isSome=true
 sub:∀v∈ns,v∈P
def dV (ns:List N2)(b:cA N2):List T:=ns.map λv=>oW (b v)
theorem DR.get {P ns:List N2}{b:cA N2}(D:DR P ns b)(v:N2):lq (ns.map en) (dV ns b) (ky v)=(b v).map eW:=by
 unfold dV;rw[om (λv=>oW (b v))]
 have:=D.mem v
 cases q:b v with
 | none=>rw[q]at this;rw[if_neg (λz=>by simpa using this.mp z)];rfl
 | some x=>rw[q]at this;rw[if_pos (this.mpr rfl)];rfl
theorem DR.put {P ns:List N2}{b:cA N2}(D:DR P ns b){v:N2}(hv:v∈P)(y:Int×List Nat):∃ns',DR P ns' (Gr.put b v y)/\hG (en v) (eW y) (ns.map en) (dV ns b)=(ns'.map en,dV ns' (Gr.put b v y)):=by
 by_cases h:v∈ns
 ·refine⟨ns,⟨D.nd,λu=> ?_,D.sub⟩,?_⟩
  ·by_cases z:u=v
   ·subst z;rw[fx];exact⟨λ_=>rfl,λ_=>h⟩
   ·rw[k4 z];exact D.mem u
  ·unfold dV
   rw[ue _ _ _ _ D.nd h]
   congr 1
   refine L9 λu _=> ?_
   by_cases z:u=v
   ·subst z;rw[if_pos rfl,fx];rfl
   ·rw[if_neg z,k4 z]
 ·refine⟨ns++ [v],⟨?_,λu=> ?_,λu hu=> ?_⟩,?_⟩
  ·exact MN.mpr ⟨D.nd,by simp,λx hx y hy=>by simp at hy;subst hy;exact λz=>h (z▸hx)⟩
  ·rw[Mb,LZ]
   by_cases z:u=v
   ·subst z;rw[fx];exact⟨λ_=>rfl,λ_=> .inr rfl⟩
   ·rw[k4 z,<-D.mem u];exact⟨λw=>w.elim id λy=>absurd y z,.inl⟩
  ·rcases Mb.mp hu with w | w
   ·exact D.sub u w
   ·rw[LZ.mp w];exact hv
  ·unfold dV
   rw[pV _ _ _ _ h,Mc,Mc]
   congr 1
   congr 1
   ·refine L9 λu hu=> ?_
    rw[k4 (λ(z:u=v)=>h (z▸hu))]
   ·simp[fx,oW]
theorem Cq {P ns:List N2}{b:cA N2}(D:DR P ns b)(x:N2×N2×Int)(d:Int)(w:List Nat) :
  dX [.dct (ns.map en) (dV ns b),eB x,eW (d,w)] = .ok (.bl (fB b x.2.1 (d+x.2.2))):=by
 refine bJ rfl ?_
 show jX [.va (.dct (ns.map en) (dV ns b)),.va (eB x),.va (eW (d,w)),.em] =_
 unfold jX
 have g:oD jv (vr 0) (o2 aZ (vr 1) (cn (.int 1))) [.va (.dct (ns.map en) (dV ns b)),.va (eB x),.va (eW (d,w)),.em] = .ok (oW (b x.2.1)):=by
  refine JH (ks:=ns.map en) (vs:=dV ns b) (u:=en x.2.1) rfl rfl ?_
  unfold jv;rw[bF];simp only[D.get];cases b x.2.1 <;> rfl
 rw[ax (bS (t:=oW (b x.2.1)) (Z':=[.va (.dct (ns.map en) (dV ns b)),.va (eB x),.va (eW (d,w)),.va (oW (b x.2.1))]) g rfl)];refine cz ?_
 unfold fB
 cases q:b x.2.1 with
 | none=>exact tU (aD (t:=.non) (u:=.non) rfl rfl rfl)
 | some y=>exact(tV (aD (t:=eW y) (u:=.non) rfl rfl rfl)).trans (aD (t:=.int (d+x.2.2)) (u:=.int y.1) rfl rfl rfl)
abbrev CP:En->Rs Fl:=(az (cC (ln 2 (oD jv (vr 2) (o2 aZ (vr 5) (cn (.int 0))))) (gN 6)) (az (eM (mB (tb (o2 fP (vr 6) (cn .non))) (eE (Hg 2 (tb (cl dX (ae (vr 2) (ae (vr 5) (ae (vr 6) ai)))))))) Fg sN) (az (cC (o2 aY (o2 aZ (vr 6) (cn (.int 1))) (dD (ae (vr 4) ai))) (gN 7)) (az (cC (eY (iS (vr 7)) [none,some 0] (gN 0) bT (o2 aZ (o2 aZ (vr 1) (vr 0)) (cn (.int 0)))) (gN 8)) (az (eM (tb (o2 Ig (o2 aZ (vr 5) (cn (.int 1))) (vr 8))) (aL (aO (ae (cn .non) (ae (sl (vr 7) (pS (oL ig (vr 8) (o2 aZ (vr 5) (cn (.int 1))))) pN) ai)))) sN) (az (zh 2 (o2 aZ (vr 5) (cn (.int 1))) (aO (ae (o2 aY (o2 aZ (vr 6) (cn (.int 0))) (o2 aZ (vr 5) (cn (.int 2)))) (ae (vr 7) ai)))) (cC (cn (.bl true)) (gN 3))))))))
abbrev Kf:T->En->Rs En:=gT 2 (eF (gN 4) (eF (gN 5) ly))
def eL (L:bY N2):T:=.lst (L.map eB)
def AE (L:bY N2)(t:T):T:=match t with
 | .int j=>match L[j.toNat]? with
  | some x=>en x.1
  | none=> .non
 | _=> .non
theorem yf {L:bY N2}:∀{ks:List Nat} {a b:N2},Ch L a ks b->(eN ks).map (AE L)=(fH L ks).map en
 | [],_,_,_=>rfl
 | k::r,a,b,h=>by
  rw[h.Ks];obtain⟨c,m,e,h⟩:=h
  show AE L (.int k)::(eN r).map (AE L)=en a::(fH L r).map en
  rw[yf h]
  congr 1
  unfold AE;simp only[MM,e]
theorem CH (v:N2):∀(l:List N2),r9 (en v) (l.map en)=decide (v∈l)
 | [] =>rfl
 | u::l=>by
  have ih:=CH v l;unfold r9 at ih ⊢;rw[Lx,N6,ih,CD]
  by_cases h:u=v
  ·subst h;simp
  ·have h':¬ v=u:=λz=>h z.symm
   simp[h,h']
theorem v5 (v:N2):∀(l:List N2) (n:Nat),v∈l->ku (en v) (l.map en) n=some (n+l.idxOf v)
 | [],n,h=>by simp at h
 | u::l,n,h=>by
  rw[Lx,ku,CD,Tx]
  by_cases z:u=v
  ·subst z;simp
  ·have h':v∈l:=(LH.mp h).elim (λy=>absurd y.symm z) id
   have zb:(u == v)=false:=by rw[beq_eq_false_iff_ne];exact z
   rw[zb,decide_eq_false z,if_neg LX,v5 v l (n+1) h'];simp only[cond_false]
   congr 1
   omega
theorem Fp (v:N2):(en v).nd=true:=rfl
theorem tR {α:Type}(f:α->T)(h:∀a,(f a).nd=true):∀l:List α,nds (l.map f)=true
 | [] =>rfl
 | a::l=>by rw[Lx,nds,h a,tR f h l];rfl
theorem CA (v:N2):(en v).dep<=60:=by show(T.tup [.int v.c,.int v.k]).dep<=60;simp[T.dep,deps]
theorem JQ (v:N2)(l:List N2):Ig (en v) (.lst (l.map en))= .ok (.bl (decide (v∈l))):=by
 show(if (_\/_)/\_/\(T.lst (l.map en)).nd=true then _ else _)=_
 rw[if_pos ⟨.inl (CA v),rfl,tR en Fp l⟩,CH]
theorem B1 (v:N2)(l:List N2)(h:v∈l):ig (.lst (l.map en)) (en v)= .ok (.int ((l.idxOf v:Nat):Int)):=by
 unfold ig;simp only;rw[if_pos ⟨.inl (CA v),rfl,tR en Fp l⟩,v5 v l 0 h,SG]
theorem HM (p q:List Nat):eN (p++q)=eN p++eN q:=by unfold eN;rw[Mc]
theorem Bu (D:Bool):∀ks:List Nat,nks D (eN ks)=true
 | [] =>rfl
 | k::r=>by show nks D (.int k::eN r)=true;unfold nks;rw[Bu D r];rfl
theorem Ch.len {L:bY N2}{ks:List Nat}{a b:N2}(h:Ch L a ks b)(hn:(fH L ks).Nodup):ks.length<=L.length:=by
 have:=kh (h.nodup hn) (m:=MA L.length) λk hk=>MZ.mpr (h.lt k hk)
 rwa [Nf]at this
abbrev sE (L:bY N2)(st:T)(o:OT)(b:Bool)(k:Nat)(x:N2×N2×Int)(s6 s7 s8:Sl):En:=[.va (eL L),.va st,.ow o,.va (.bl b),.va (.int k),.va (eB x),s6,s7,s8]
def FC (L:bY N2)(P ns:List N2)(b:cA N2)(k:Nat)(x:N2×N2×Int)(st:T)(mv:Bool)(s6 s7 s8:Sl):Sum (Option (cA N2)) (List Nat)->Prop
 | .inl none=> ∃s6' s7' s8',CP (sE L st (.dct (ns.map en) (dV ns b)) mv k x s6 s7 s8)= .ok (.ct (sE L st (.dct (ns.map en) (dV ns b)) mv k x s6' s7' s8'))
 | .inl (some b')=> ∃ns' s6' s7' s8',DR P ns' b'/\CP (sE L st (.dct (ns.map en) (dV ns b)) mv k x s6 s7 s8)= .ok (.nx (sE L st (.dct (ns'.map en) (dV ns' b')) true k x s6' s7' s8'))
 | .inr q=>CP (sE L st (.dct (ns.map en) (dV ns b)) mv k x s6 s7 s8)= .ok (.rt (.tup [.non,.lst (eN q)]))
theorem Dh {L:bY N2}{S P ns:List N2}{b:cA N2}{k:Nat}{x:N2×N2×Int}(K:Kept L S b)(D:DR P ns b)(hL:L.length<=500)(hP:P.length<1000)(e:L[k]? =some x)(hx:x.2.1∈P)(st:T)(mv:Bool)(s6 s7 s8:Sl) :
  FC L P ns b k x st mv s6 s7 s8 (iK L b k x):=by
 obtain⟨a,c,m⟩:=x;unfold FC
 generalize hks:ns.map en=ks
 generalize hvs:dV ns b=vs
 have get:∀s7 s8,ln 2 (oD jv (vr 2) (o2 aZ (vr 5) (cn (.int 0)))) (sE L st (.dct ks vs) mv k (a,c,m) s6 s7 s8)= .ok (oW (b a)):=λs7 s8=>by
  refine Eb (o:=.dct ks vs) rfl (JH (ks:=ks) (vs:=vs) (u:=en a) rfl rfl ?_) ?_
  ·unfold jv
   rw[bF,<-hks,<-hvs];simp only[D.get];cases b a <;> rfl
  ·cases b a with
   | none=>rfl
   | some y=>show nks true [.int y.1,.lst (eN y.2)] =true;simp[nks,T.nk,Bu]
 have s1:∀G,az (cC (ln 2 (oD jv (vr 2) (o2 aZ (vr 5) (cn (.int 0))))) (gN 6)) G (sE L st (.dct ks vs) mv k (a,c,m) s6 s7 s8)=G (sE L st (.dct ks vs) mv k (a,c,m) (.va (oW (b a))) s7 s8):=λG=>
  ax (bS (t:=oW (b a)) (get s7 s8) rfl)
 cases qa:b a with
 | none=>
  rw[show iK L b k (a,c,m)= .inl none from by unfold iK;simp only[qa]]
  simp only;refine⟨.va .non,s7,s8,?_⟩
  unfold CP;rw[s1,qa]
  exact BN (ez (F:=Fg) (BO (bL (aD (t:=.non) (u:=.non) rfl rfl rfl))))
 | some y=>
  obtain⟨d,w⟩:=y
  have bt:∀s7 s8,Hg 2 (tb (cl dX (ae (vr 2) (ae (vr 5) (ae (vr 6) ai))))) (sE L st (.dct ks vs) mv k (a,c,m) (.va (eW (d,w))) s7 s8)= .ok (fB b c (d+m)):=λs7 s8=>by
   refine JL (bL (aM (ts:=[.dct ks vs,eB (a,c,m),eW (d,w)]) rfl ?_))
   rw[<-hks,<-hvs];exact Cq D (a,c,m) d w
  have nn:tb (o2 fP (vr 6) (cn .non)) (sE L st (.dct ks vs) mv k (a,c,m) (.va (eW (d,w))) s7 s8)= .ok false:=bL (aD (t:=eW (d,w)) (u:=.non) rfl rfl rfl)
  have cond:=vU nn (pM (bt s7 s8))
  have s1':∀G,az (cC (ln 2 (oD jv (vr 2) (o2 aZ (vr 5) (cn (.int 0))))) (gN 6)) G (sE L st (.dct ks vs) mv k (a,c,m) s6 s7 s8)=G (sE L st (.dct ks vs) mv k (a,c,m) (.va (eW (d,w))) s7 s8):=λG=>by rw[s1 G,qa];rfl
  cases hb:fB b c (d+m)with
  | false=>
   rw[show iK L b k (a,c,m)= .inl none from by unfold iK;simp only[qa,hb];rfl]
   simp only;rw[hb]at cond;refine⟨.va (eW (d,w)),s7,s8,?_⟩
   unfold CP;rw[s1']
   exact BN (ez (F:=Fg) cond)
  | true=>
   rw[hb]at cond;obtain⟨s,hs,h1,h2,h3,h4,h5⟩:=K.walk a d w qa
   have hch:Ch L s (w++ [k]) c:=h1.snoc e
   have hwl:w.length<=500:=Md (Ch.len h1 h4) hL
   have s2:∀G,az (eM (mB (tb (o2 fP (vr 6) (cn .non))) (eE (Hg 2 (tb (cl dX (ae (vr 2) (ae (vr 5) (ae (vr 6) ai)))))))) Fg sN) G (sE L st (.dct ks vs) mv k (a,c,m) (.va (eW (d,w))) s7 s8)=G (sE L st (.dct ks vs) mv k (a,c,m) (.va (eW (d,w))) s7 s8):=λG=>
    ax (Z':=(sE L st (.dct ks vs) mv k (a,c,m) (.va (eW (d,w))) s7 s8)) ((c8 (F:=Fg) (G:=sN) cond).trans rfl)
   have wk:o2 aY (o2 aZ (vr 6) (cn (.int 1))) (dD (ae (vr 4) ai)) (sE L st (.dct ks vs) mv k (a,c,m) (.va (eW (d,w))) s7 s8)= .ok (.lst (eN (w++ [k]))):=by
    refine aD (t:=.lst (eN w)) (u:=.lst (eN [k])) rfl (gf (ts:=[.int k]) rfl (aw (k:=1) (by simp))) ?_
    show kU (eN w++eN [k])=_
    rw[<-HM];unfold kU;rw[if_pos (aw (k:=1000) (by unfold eN;rw[LA,LF];simp;omega))]
   have s3:∀G,az (cC (o2 aY (o2 aZ (vr 6) (cn (.int 1))) (dD (ae (vr 4) ai))) (gN 7)) G (sE L st (.dct ks vs) mv k (a,c,m) (.va (eW (d,w))) s7 s8)=G (sE L st (.dct ks vs) mv k (a,c,m) (.va (eW (d,w))) (.va (.lst (eN (w++ [k])))) s8):=λG=>ax (bS wk rfl)
   have ps:eY (iS (vr 7)) [none,some 0] (gN 0) bT (o2 aZ (o2 aZ (vr 1) (vr 0)) (cn (.int 0))) (sE L st (.dct ks vs) mv k (a,c,m) (.va (eW (d,w))) (.va (.lst (eN (w++ [k])))) s8)= .ok (.lst ((fH L (w++ [k])).map en)):=by
    rw[<-yf hch];refine mQ (ts:=eN (w++ [k])) (kW rfl) (aw (k:=1000) (by unfold eN;rw[LA,LF];simp;omega)) (by simp) λt ht=> ?_
    unfold eN at ht;obtain⟨j,hj,rfl⟩:=LW.mp ht
    have hjl:=hch.lt j hj;refine aD (t:=eB L[j]) (u:=.int 0) (BR (l:=L.map eB) (n:=j) rfl rfl (by rw[LY,LN hjl];rfl)) rfl ?_
    unfold AE;simp only[MM,LN hjl]
    rfl
   have s4:∀G,az (cC (eY (iS (vr 7)) [none,some 0] (gN 0) bT (o2 aZ (o2 aZ (vr 1) (vr 0)) (cn (.int 0)))) (gN 8)) G (sE L st (.dct ks vs) mv k (a,c,m) (.va (eW (d,w))) (.va (.lst (eN (w++ [k])))) s8)=G (sE L st (.dct ks vs) mv k (a,c,m) (.va (eW (d,w))) (.va (.lst (eN (w++ [k])))) (.va (.lst ((fH L (w++ [k])).map en)))):=λG=>ax (bS ps rfl)
   have inn:tb (o2 Ig (o2 aZ (vr 5) (cn (.int 1))) (vr 8)) (sE L st (.dct ks vs) mv k (a,c,m) (.va (eW (d,w))) (.va (.lst (eN (w++ [k])))) (.va (.lst ((fH L (w++ [k])).map en))))= .ok (decide (c∈fH L (w++ [k]))):=
    bL (aD (t:=en c) (u:=.lst ((fH L (w++ [k])).map en)) rfl rfl (JQ c _))
   by_cases hn:c∈fH L (w++ [k])
   ·rw[show iK L b k (a,c,m)= .inr ((w++ [k]).drop ((fH L (w++ [k])).idxOf c))from by unfold iK;simp only[qa,hb,if_pos hn,if_true]]
    simp only;unfold CP;rw[s1',s2,s3,s4];rw[decide_eq_true hn]at inn;refine gW ((ez inn).trans (cz ?_))
    have sle:sl (vr 7) (pS (oL ig (vr 8) (o2 aZ (vr 5) (cn (.int 1))))) pN (sE L st (.dct ks vs) mv k (a,c,m) (.va (eW (d,w))) (.va (.lst (eN (w++ [k])))) (.va (.lst ((fH L (w++ [k])).map en))))= .ok (.lst (eN ((w++ [k]).drop ((fH L (w++ [k])).idxOf c)))):=by
     rw[yC (l:=eN (w++ [k])) (lo:=some (((fH L (w++ [k])).idxOf c:Nat):Int)) (hi:=none) rfl (D9 (k_oL (ks:=(fH L (w++ [k])).map en) (u:=en c) rfl rfl (B1 c _ hn))) rfl,pW];unfold eN;rw[Qu]
    exact(cJ (ts:=[.non,.lst (eN ((w++ [k]).drop ((fH L (w++ [k])).idxOf c)))]) (ar rfl (ar sle rfl)) (aw (k:=2) (by simp)))
   ·rw[show iK L b k (a,c,m)= .inl (some (Gr.put b c (d+m,w++ [k])))from by unfold iK;simp only[qa,hb,if_neg hn,if_true]]
    simp only;rw[decide_eq_false hn]at inn;obtain⟨ns',D',hd⟩:=D.put hx (d+m,w++ [k]);refine⟨ns',.va (eW (d,w)),.va (.lst (eN (w++ [k]))),.va (.lst ((fH L (w++ [k])).map en)),D',?_⟩
    unfold CP;rw[s1',s2,s3,s4];rw[ax (Z':=(sE L st (.dct ks vs) mv k (a,c,m) (.va (eW (d,w))) (.va (.lst (eN (w++ [k])))) (.va (.lst ((fH L (w++ [k])).map en))))) ((c8 (G:=sN) inn).trans rfl)]
    have pt:zh 2 (o2 aZ (vr 5) (cn (.int 1))) (aO (ae (o2 aY (o2 aZ (vr 6) (cn (.int 0))) (o2 aZ (vr 5) (cn (.int 2)))) (ae (vr 7) ai))) (sE L st (.dct ks vs) mv k (a,c,m) (.va (eW (d,w))) (.va (.lst (eN (w++ [k])))) (.va (.lst ((fH L (w++ [k])).map en))))
      = .ok (.nx (sE L st (.dct (ns'.map en) (dV ns' (Gr.put b c (d+m,w++ [k])))) mv k (a,c,m) (.va (eW (d,w))) (.va (.lst (eN (w++ [k])))) (.va (.lst ((fH L (w++ [k])).map en))))):=by
     have ev:aO (ae (o2 aY (o2 aZ (vr 6) (cn (.int 0))) (o2 aZ (vr 5) (cn (.int 2)))) (ae (vr 7) ai)) (sE L st (.dct ks vs) mv k (a,c,m) (.va (eW (d,w))) (.va (.lst (eN (w++ [k])))) (.va (.lst ((fH L (w++ [k])).map en))))= .ok (eW (d+m,w++ [k])):=
      cJ (ts:=[.int (d+m),.lst (eN (w++ [k]))]) rfl (aw (k:=2) (by simp))
     have ek:o2 aZ (vr 5) (cn (.int 1)) (sE L st (.dct ks vs) mv k (a,c,m) (.va (eW (d,w))) (.va (.lst (eN (w++ [k])))) (.va (.lst ((fH L (w++ [k])).map en))))= .ok (en c):=rfl
     show(aO _ _ >>= λv=>o2 aZ (vr 5) (cn (.int 1)) _ >>= λkk=>match keyOf kk with | some _=>if ks.length<1000 then Rs.ok (Fl.nx _)else .bad | none=> .bad)=_
     rw[ev,aH,ek,aH,bF]
     have hlen:ks.length<1000:=by rw[<-hks,LA];exact OW (kh D.nd D.sub) hP
     simp only[if_pos hlen]
     have hd1:hG (en c) (eW (d+m,w++ [k])) ks vs=(ns'.map en,dV ns' (Gr.put b c (d+m,w++ [k]))):=by rw[<-hks,<-hvs];exact hd
     rw[hd1]
     rfl
    rw[ax pt];exact bS (t:=.bl true) rfl rfl
def Ah (L:bY N2)(st:T)(ns:List N2)(b:cA N2)(mv:Bool)(s4 s5 s6 s7 s8:Sl):En:=[.va (eL L),.va st,.ow (.dct (ns.map en) (dV ns b)),.va (.bl mv),s4,s5,s6,s7,s8]
def CJ (L:bY N2)(P:List N2)(st:T)(X:Rs Fl):Sum (cA N2×Bool) (List Nat)->Prop
 | .inr q=>X= .ok (.rt (.tup [.non,.lst (eN q)]))
 | .inl (b',mv')=> ∃ns' s4 s5 s6 s7 s8,DR P ns' b'/\X= .ok (.nx (Ah L st ns' b' mv' s4 s5 s6 s7 s8))
theorem sA {L:bY N2}{S P:List N2}(hL:L.length<=500)(hP:P.length<1000)(hx:∀x∈L,x.2.1∈P)(st:T):∀(r:bY N2) (k:Nat) (b:cA N2) (mv:Bool) (ns:List N2) (s4 s5 s6 s7 s8:Sl),L.drop k=r->Kept L S b->DR P ns b →
  CJ L P st (bf Kf CP (cp k (r.map eB)) (Ah L st ns b mv s4 s5 s6 s7 s8)) (jl L k r b mv)
 | [],k,b,mv,ns,s4,s5,s6,s7,s8,_,K,D=>⟨ns,s4,s5,s6,s7,s8,D,rfl⟩
 | x::r,k,b,mv,ns,s4,s5,s6,s7,s8,hr,K,D=>by
  have e:L[k]? =some x:=by
   have:=congrArg (·[0]?) hr
   simpa using this
  have hr':L.drop (k+1)=r:=by
   have:=congrArg (List.drop 1) hr
   simpa [List.drop_drop,SA]using this
  have tg:Kf (.tup [.int k,eB x]) (Ah L st ns b mv s4 s5 s6 s7 s8)= .ok [.va (eL L),.va st,.ow (.dct (ns.map en) (dV ns b)),.va (.bl mv),.va (.int k),.va (eB x),s6,s7,s8]:=rfl
  have tn:=Dh K D hL hP e (hx x (Nz e)) st mv s6 s7 s8;rw[jl,Lx,cp]
  cases q:iK L b k x with
  | inr w=>
   rw[q]at tn;simp only;unfold CJ
   exact yD tg tn
  | inl o=>
   rw[q]at tn
   cases o with
   | none=>
    obtain⟨s6',s7',s8',tn⟩:=tn;simp only;rw[Ea tg tn]
    exact sA hL hP hx st r (k+1) b mv ns _ _ _ _ _ hr' K D
   | some b'=>
    obtain⟨ns',s6',s7',s8',D',tn⟩:=tn;simp only;rw[cK tg tn];refine sA (S:=S) hL hP hx st r (k+1) b' true ns' _ _ _ _ _ hr' ?_ D'
    -- what is kept stays so
    obtain⟨a,c,m⟩:=x;unfold iK at q
    cases qa:b a with
    | none=>simp only[qa]at q;cases q
    | some y=>
     obtain⟨d,w⟩:=y;simp only[qa]at q
     split at q
     ·rename_i hb
      split at q
      ·cases q
      ·rename_i hn
       cases q;exact K.put e qa hb hn
     ·cases q
abbrev wF:En->Rs Fl:=az (cC (cn (.bl false)) (gN 3)) (dP (iE (ae (vr 0) ai)) Kf CP)
def SetP (L:bY N2)(P:List N2)(st:T)(X:Rs Fl):Sum (cA N2) (List Nat)->Prop
 | .inr q=>X= .ok (.rt (.tup [.non,.lst (eN q)]))
 | .inl b'=> ∃ns' s4 s5 s6 s7 s8,DR P ns' b'/\X= .ok (.nx (Ah L st ns' b' false s4 s5 s6 s7 s8))
theorem uU {L:bY N2}{S P:List N2}(hL:L.length<=500)(hP:P.length<1000)(hx:∀x∈L,x.2.1∈P)(st:T):∀(n:Nat) (b:cA N2) (ns:List N2) (s4 s5 s6 s7 s8:Sl) (r:Sum (cA N2) (List Nat)),Kept L S b->DR P ns b->Gr.settle L n b=some r →
  SetP L P st (ck (tb (vr 3)) wF (n+1) (Ah L st ns b true s4 s5 s6 s7 s8)) r
 | 0,_,_,_,_,_,_,_,_,_,_,h=>by cases h
 | n+1,b,ns,s4,s5,s6,s7,s8,r,K,D,h=>by
  have sw:=sA hL hP hx st L 0 b false ns s4 s5 s6 s7 s8 rfl K D
  have ok:=jA (S:=S) L 0 b false rfl K
  have body:∀X,bf Kf CP (cp 0 (L.map eB)) (Ah L st ns b false s4 s5 s6 s7 s8)= .ok X->wF (Ah L st ns b true s4 s5 s6 s7 s8)= .ok X:=λX hX=>by
   show az _ _ _=_
   rw[ax (Z':=Ah L st ns b false s4 s5 s6 s7 s8) (bS (t:=.bl false) rfl rfl)];exact dC (ts:=cp 0 (L.map eB)) (yE rfl) hX
  have tt:tb (vr 3) (Ah L st ns b true s4 s5 s6 s7 s8)= .ok true:=rfl;rw[Gr.settle]at h
  revert sw ok h
  generalize jl L 0 L b false=R
  intro h sw ok
  cases R with
  | inr q=>
   simp only at h;cases h
   exact BL tt (body _ sw)
  | inl p=>
   obtain⟨b',mv'⟩:=p;obtain⟨ns',t4,t5,t6,t7,t8,D',sw⟩:=sw;obtain⟨K',_⟩:=ok
   cases mv' with
   | true=>
    simp only at h
    have ih:=uU hL hP hx st n b' ns' t4 t5 t6 t7 t8 r K' D' h;rw[vS tt (body _ sw)]
    exact ih
   | false=>
    simp only at h;cases h;refine⟨ns',t4,t5,t6,t7,t8,D',?_⟩
    rw[vS tt (body _ sw)];exact BM rfl
theorem iQ {c:En->Rs Bool}{F:En->Rs Fl}{x:Fl}:∀{n m:Nat} {Z:En},n<=m->ck c F n Z= .ok x->ck c F m Z= .ok x
 | 0,_,_,_,h=>by cases h
 | n+1,0,_,hl,_=>absurd hl (by omega)
 | n+1,m+1,Z,hl,h=>by
  unfold ck at h ⊢
  cases q:c Z with
  | bad=>rw[q]at h;cases h
  | err _=>rw[q]at h;cases h
  | ok k=>
   rw[q]at h
   cases k with
   | false=>exact h
   | true=>
    simp only at h ⊢
    cases q2:F Z with
    | bad=>rw[q2]at h;cases h
    | err _=>rw[q2]at h;cases h
    | ok f=>
     rw[q2]at h
     cases f with
     | nx Z'=>exact iQ (by omega) h
     | ct Z'=>exact iQ (by omega) h
     | bk Z'=>exact h
     | rt t=>exact h
theorem A5 (w:T):∀S:List N2,Ia (S.map λv=> .tup [en v,w])=some (S.map λv=>(en v,w))
 | [] =>rfl
 | v::S=>by rw[Lx,Ia,bF,A5 w S];rfl
theorem wa (w:T):∀(S ns:List N2) (g:N2->T),(ns++S).Nodup->(∀v∈S,g v=w)->jR (S.map λv=>(en v,w)) (ns.map en,ns.map g)=((ns++S).map en,(ns++S).map g)
 | [],ns,g,_,_=>by rw[Mj];rfl
 | v::S,ns,g,hn,hg=>by
  have hv:v∉ns:=λz=>by
   rw[MN]at hn;exact hn.2.2 v z v Lz rfl
  rw[Lx,jR,pV _ _ _ _ hv]
  have e1:ns.map en++ [en v] =(ns++ [v]).map en:=by rw[Mc];rfl
  have e2:ns.map g++ [w] =(ns++ [v]).map g:=by rw[Mc,<-hg v Lz];rfl
  rw[e1,e2,wa w S (ns++ [v]) g (by rw[L0];exact hn) λu hu=>hg u (Lw _ hu),L0]
  rfl
theorem Eu (w:T)(S:List N2)(hn:S.Nodup)(hl:S.length<=1000):yO [.lst (S.map λv=> .tup [en v,w])] = .ok (.dct (S.map en) (S.map λ_=>w)):=by
 unfold yO;simp only[A5];rw[if_pos (by rw[LA];exact hl)]
 have:=wa w S [] (λ_=>w) (by simpa using hn) (λ_ _=>rfl)
 rw[MJ]at this;rw[show(([]:List T),([]:List T))=(([]:List N2).map en,([]:List N2).map λ_=>w)from rfl,this]
def eS (S:List N2):T:=.lst (S.map en)
def EM (L:bY N2)(P:List N2)(X:Rs T):Sum (cA N2) (List Nat)->Prop
 | .inr q=>X= .ok (.tup [.non,.lst (eN q)])
 | .inl b'=> ∃ns',DR P ns' b'/\X= .ok (.tup [.dct (ns'.map en) (dV ns' b'),.non])
structure ES (L:bY N2)(P:List N2):Prop where
 len:L.length<=500
 size:size L<=100000000
 ends:∀x∈L,x.1∈P/\x.2.1∈P
 pl:P.length<1000
def SOk (L:bY N2)(S:List N2):Sum (cA N2) (List Nat)->Prop
 | .inr q=>Bar L q
 | .inl b'=>Settled L S b'
theorem pU {L:bY N2}{S P:List N2}(F:ES L P)(hS:S.Nodup)(hSP:∀v∈S,v∈P):∃r,EM L P (f9 [eL L,eS S]) r/\SOk L S r:=by
 have bound:L.length*(2*size L+1)<1000000000000 - 1:=by
  have h1:=F.len
  have h2:=F.size
  have:L.length*(2*size L+1)<=500*(2*100000000+1):=Nat.mul_le_mul h1 (by omega)
  omega
 obtain⟨r,hr,ok⟩:=wM L S bound
 have ok':SOk L S r:=by cases r <;> exact ok
 refine⟨r,?_,ok'⟩
 have hSl:S.length<=1000:=Md (kh hS hSP) (by have:=F.pl;omega)
 have D0:DR P S (Gr.start S):=⟨hS,λv=>by unfold Gr.start;by_cases h:v∈S <;> simp[h],hSP⟩
 have dv0:dV S (Gr.start S)=S.map λ_=>eW (0,[]):=L9 λv hv=>by unfold Gr.start;rw[if_pos hv];rfl
 have w:=uU F.len F.pl (λx hx=>(F.ends x hx).2) (eS S) _ (Gr.start S) S .em .em .em .em .em r (pL L S) D0 hr
 have lc:eY (iS (vr 1)) [none] (gN 0) bT (aO (ae (vr 0) (ae (aO (ae (cn (.int 0)) (ae (dD ai) ai))) ai))) [.va (eL L),.va (eS S),.em,.em,.em,.em,.em,.em,.em] = .ok (.lst (S.map λv=> .tup [en v,eW (0,[])])):=by
  have:=mQ (fi:=iS (vr 1)) (src:=[none]) (fe:=aO (ae (vr 0) (ae (aO (ae (cn (.int 0)) (ae (dD ai) ai))) ai))) (h:=λt=> .tup [t,eW (0,[])]) (Z:=[.va (eL L),.va (eS S),.em,.em,.em,.em,.em,.em,.em]) (ts:=S.map en) (kW rfl) (aw (k:=1000) (by rw[LA];exact hSl)) (by simp) λt _=>
   cJ (ts:=[t,eW (0,[])]) (ar rfl (ar (cJ (ts:=[.int 0,.lst []]) (ar rfl (ar (gf (ts:=[]) rfl (MT _)) rfl)) (aw (k:=2) (by simp))) rfl)) (aw (k:=2) (by simp))
  rw[this,Ms];rfl
 have n0:rn 2 (eY (iS (vr 1)) [none] (gN 0) bT (aO (ae (vr 0) (ae (aO (ae (cn (.int 0)) (ae (dD ai) ai))) ai)))) [.va (eL L),.va (eS S),.em,.em,.em,.em,.em,.em,.em] = .ok (.nx [.va (eL L),.va (eS S),.ow (.dct (S.map en) (dV S (Gr.start S))),.em,.em,.em,.em,.em,.em]):=by
  unfold rn;rw[lc,aH,Eu _ S hS hSl,aH,dv0]
  rfl
 have main:∀G X,ck (tb (vr 3)) wF FU (Ah L (eS S) S (Gr.start S) true .em .em .em .em .em)= .ok X->jV [.va (eL L),.va (eS S),.em,.em,.em,.em,.em,.em,.em] =G->(az (ck (tb (vr 3)) wF FU) (lK 2 (aL (aO (ae (vr 2) (ae (cn .non) ai)))))) (Ah L (eS S) S (Gr.start S) true .em .em .em .em .em)=G:=λG X _ h=>by
  rw[<-h];unfold jV;rw[ax n0,ax (Z':=Ah L (eS S) S (Gr.start S) true .em .em .em .em .em) (bS (t:=.bl true) rfl rfl)]
 cases r with
 | inr q=>
  have w':=iQ (m:=FU) (by unfold FU;omega) w
  refine bJ rfl ?_
  show jV [.va (eL L),.va (eS S),.em,.em,.em,.em,.em,.em,.em] =_
  rw[<-main _ _ w' rfl]
  exact gW w'
 | inl b'=>
  obtain⟨ns',s4,s5,s6,s7,s8,D',w⟩:=w
  have w':=iQ (m:=FU) (by unfold FU;omega) w
  refine⟨ns',D',bJ rfl ?_⟩
  show jV [.va (eL L),.va (eS S),.em,.em,.em,.em,.em,.em,.em] =_
  rw[<-main _ _ w' rfl,ax w'];exact yF (cz (cJ (ts:=[.dct (ns'.map en) (dV ns' b'),.non]) rfl (aw (k:=2) (by simp))))
theorem pG {α:Type}{f:α->T}{p:α->Prop}:∀{l:List T},(∀t∈l,∃x,t=f x/\p x)->∃L:List α,l=L.map f/\∀x∈L,p x
 | [],_=>⟨[],rfl,λ_ h=>nomatch h⟩
 | t::l,h=>by
  obtain⟨x,e,hx⟩:=h t Lz;obtain⟨L,e2,h2⟩:=pG (l:=l) λu hu=>h u (Lw _ hu)
  exact⟨x::L,by rw[e,e2];rfl,λy hy=>(LH.mp hy).elim (λz=>z▸hx) (h2 y)⟩
theorem xH {t:T}(h:bV t=true):∃(x y:Int) (r:List Int),t= .tup [.int x,.int y,.tup (r.map .int)]/\(0<=x/\x<=9)/\(0<=y/\y<=9)/\∀k,0<=r.getD k 0/\r.getD k 0<=99:=by
 obtain⟨x,y,r,rfl,h1,h2,h3,h4⟩:=ja h;refine⟨x,y,r,rfl,h1,h2,λk=> ?_⟩
 have h':(qz (.int x) (.int y)&&dN (.tup (r.map .int)))=true:=h;rw[LC]at h'
 have hr:=h'.2;unfold dN at hr;rw[LC]at hr
 have hr2:(((r.map T.int).all λu=>bM u 0 99)&&(match nums (r.map .int)with | some m=>ql m | none=>false))=true:=hr.2
 rw[LC]at hr2
 by_cases hk:k<r.length
 ·have:=L5.mp hr2.1 (.int r[k]) (LW.mpr ⟨_,M9 hk,rfl⟩)
  obtain⟨i,e,a,b⟩:=eQ this;cases e;simp[hk];exact⟨a,b⟩
 ·simp[hk]
theorem yj {cs:List T}{i:Nat}:∀{cs0:List T} {c k:Nat},i<=c->c<i+cs0.length->k<Gd (cs0.getD (c - i) .non)->T.tup [.int c,.int k] ∈fK i cs0:=by
 intro cs0
 induction cs0 generalizing i with
 | nil=>intro c k h1 h2;simp at h2;omega
 | cons a r ih=>
  intro c k h1 h2 h3;rw[fK,Mb]
  by_cases e:c=i
  ·subst e
   rw[Q4]at h3
   have h3':k<Gd a:=h3;exact .inl (LW.mpr ⟨.int k,D1 h3',rfl⟩)
  ·refine .inr (ih (by omega) (by rw[LG]at h2;omega) ?_)
   rw[show c - i=(c - (i+1))+1 by omega]at h3
   exact h3
theorem rP {cs:List T}{t:T}(h:aU cs t=true):t∈fK 0 cs:=by
 obtain⟨c,k,rfl⟩:=gg h;unfold aU at h;simp only[LC,decide_eq_true_eq]at h;obtain⟨⟨h1,h2⟩,h3,h4⟩:=h;obtain⟨c,rfl⟩:=Mt h1;obtain⟨k,rfl⟩:=Mt h3;rw[rq]at h4;exact yj (cs:=cs) (MT _) (by omega) (by rw[P9];omega)
theorem Ci {cs:List T}{t:T}(h:t∈fK 0 cs):∃v:N2,t=en v/\True:=by
 obtain⟨c,k,rfl,_⟩:=lV cs 0 h;exact⟨⟨c,k⟩,rfl,trivial⟩
def big (x:N2×N2×Int):Prop:=x.2.2.natAbs<=999
theorem rE {a b:Int}(ha : -99<=a/\a<=99)(hb:0<=b/\b<=9):(a*b).natAbs<=999:=by
 rw[Int.natAbs_mul]
 have h1:a.natAbs<=99:=by omega
 have h2:b.natAbs<=9:=by omega
 exact Md (Nat.mul_le_mul h1 h2) (by decide)
theorem Fy {cs0:List T}:∀{cs:List T} {i:Nat},(∀c∈cs,bV c=true)->(∀c k:Nat,i<=c->c<i+cs.length->k<Gd (cs.getD (c - i) .non)->T.tup [.int c,.int k] ∈fK 0 cs0) →
  ∀t∈bC i cs,∃x,t=eB x/\(en x.1∈fK 0 cs0/\en x.2.1∈fK 0 cs0/\big x)
 | [],_,_,_,t,h=>by simp[bC]at h
 | c::cs,i,hc,hm,t,h=>by
  rw[bC,Mb]at h;rcases h with h | h
  ·obtain⟨x,y,r,rfl,hx,hy,hr⟩:=xH (hc c Lz)
   have hm0:∀k,k<r.length->T.tup [.int i,.int k] ∈fK 0 cs0:=λk hk=>hm i k (LL _) (by simp) (by rw[Q4];show k<(r.map T.int).length;rw[LA];exact hk)
   rw[qY]at h;unfold cB at h;obtain⟨k,hk,hp⟩:=QH.mp h
   have hk:=MZ.mp hk
   have d : -99<=dr r k/\dr r k<=99:=by have:=hr k;have:=hr (k+1);unfold dr;omega
   unfold pr at hp;simp only[LH,MC,or_false]at hp;rcases hp with rfl | rfl
   ·exact⟨(⟨i,k⟩,⟨i,((k+1:Nat):Int)⟩,dr r k*y),rfl,hm0 k (by omega),hm0 (k+1) (by omega),rE d hy⟩
   ·exact⟨(⟨i,((k+1:Nat):Int)⟩,⟨i,k⟩,-dr r k*x),rfl,hm0 (k+1) (by omega),hm0 k (by omega),rE (by omega) hx⟩
  ·exact Fy (cs:=cs) (i:=i+1) (λc h=>hc c (Lw _ h)) (λc k h1 h2 h3=>hm c k (by omega) (by rw[LG];omega) (by rw[show c - i=(c - (i+1))+1 by omega];exact h3)) t h
theorem JC {cs:List T}{u:T}(hu:bX cs u=true):∀t∈lB u,∃x,t=eB x/\(en x.1∈fK 0 cs/\en x.2.1∈fK 0 cs/\big x):=by
 intro t ht;obtain⟨a,b,x,y,rfl,hd,ha,hb,_⟩:=lZ hu
 have ma:=rP ha
 have mb:=rP hb;obtain⟨va,rfl,_⟩:=Ci ma;obtain⟨vb,rfl,_⟩:=Ci mb;unfold fV at hd;rw[LC]at hd;obtain⟨i,rfl,i1,i2⟩:=eQ hd.1
 have e2:lB (.tup [en va,en vb,.int i,y])= .tup [en vb,en va,.int (-i)] ::(if y.isN then []else [.tup [en va,en vb,y]]):=rfl
 rw[e2]at ht;rcases LH.mp ht with rfl | ht
 ·exact⟨(vb,va,-i),rfl,mb,ma,by unfold big;simp only;omega⟩
 ·cases q:y.isN with
  | true=>rw[q]at ht;simp at ht
  | false=>
   rw[q]at ht
   have ht:t= .tup [en va,en vb,y]:=by simpa using ht
   have hw:bM y i 999=true:=by
    cases y with
    | non=>cases q
    | _=>exact hd.2
   obtain⟨j,rfl,j1,j2⟩:=eQ hw;exact⟨(va,vb,j),ht,ma,mb,by unfold big;simp only;omega⟩
structure Rd (cs ls:List T)(L:bY N2)(P:List N2):Prop where
 g:Good cs ls
 b:HX cs ls=L.map eB
 e:fK 0 cs=P.map en
 f:ES L P
 nd:P.Nodup
 pl:P.length<=16
 ll:L.length<=60
 bg:∀x∈L,big x
theorem xU {L:bY N2}(h:∀x∈L,big x):size L<=999*L.length:=by
 unfold size
 induction L with
 | nil=>simp
 | cons x L ih=>
  rw[Lx,Nm,LG]
  have:=ih λy hy=>h y (Lw _ hy)
  have:=h x Lz;unfold big at this;omega
theorem Br {P:List N2}(h:(P.map en).Nodup):P.Nodup:=by
 induction P with
 | nil=>exact NU
 | cons a r ih=>
  rw[Lx,L7]at h;exact L7.mpr ⟨λz=>h.1 (LW.mpr ⟨a,z,rfl⟩),ih h.2⟩
theorem xY {cs ls:List T}(g:Good cs ls):∃L P,Rd cs ls L P:=by
 obtain⟨hc,c1,c4⟩:=cL g.c;obtain⟨P,eP,_⟩:=pG (f:=en) (p:=λ_=>True) (l:=fK 0 cs) λt ht=>Ci ht
 have key:∀t∈HX cs ls,∃x,t=eB x/\(en x.1∈fK 0 cs/\en x.2.1∈fK 0 cs/\big x):=λt ht=>by
  unfold HX at ht;rw[Mb]at ht;rcases ht with h | h
  ·exact Fy hc (λc k h1 h2 h3=>yj (cs:=cs) h1 h2 h3) t h
  ·obtain⟨u,hu,h⟩:=QH.mp h
   exact JC (g.l u hu) t h
 obtain⟨L,eL,hL⟩:=pG key
 have mem:∀v:N2,en v∈fK 0 cs->v∈P:=λv hv=>by
  rw[eP]at hv;obtain⟨u,hu,e⟩:=LW.mp hv;rw[<-HI e];exact hu
 have hl:=EF g;rw[eL,LA]at hl
 have hp:=ud cs 0 hc;rw[eP,LA]at hp
 have hs:=xU λx hx=>(hL x hx).2.2
 exact⟨L,P,g,eL,eP,⟨by omega,by omega,λx hx=>⟨mem _ (hL x hx).1,mem _ (hL x hx).2.1⟩,by omega⟩,Br (eP▸mG cs 0),by omega,hl,λx hx=>(hL x hx).2.2⟩
theorem wZ {l:List T}:(T.lst l).pl=plS l:=by unfold T.pl;rfl
def run (L:bY N2):N2->List Nat->Option N2
 | a,[] =>some a
 | a,k::r=>match L[k]? with
  | some x=>if x.1=a then run L x.2.1 r else none
  | none=>none
theorem kf (f:Nat->Int):∀ks:List Nat,lS (ks.map λk=>T.int (f k))=some (ks.map f)
 | [] =>rfl
 | k::ks=>by rw[Lx,lS,kf f ks];rfl
section
variable {cs ls:List T}{L:bY N2}{P:List N2}
theorem Rd.ev (R:Rd cs ls L P){v:N2}(h:v∈P):aU cs (en v)=true:=Cg (by rw[R.e];exact LW.mpr ⟨v,h,rfl⟩)
theorem Rd.bounds (R:Rd cs ls L P):dZ [RR cs ls] = .ok (eL L):=by rw[Cp R.g,R.b];rfl
theorem Rd.KO (R:Rd cs ls L P){a b:N2}(ha:a∈P)(hb:b∈P):b9 [RR cs ls,en a,en b] = .ok .non:=by
 refine tT (Z:=[.va (RR cs ls),.va (en a),.va (en b)]) rfl ?_
 show cf [.va (RR cs ls),.va (en a),.va (en b)] =_
 unfold cf;rw[ax (lg (t:=.non) (aM (ts:=[RR cs ls]) rfl (gS R.g.p R.g.ok)))];rw[ax (lg (t:=.non) (aM (ts:=[RR cs ls,en a]) rfl (nZ R.g rfl (R.ev ha))))];exact lg (t:=.non) (aM (ts:=[RR cs ls,en b]) rfl (nZ R.g rfl (R.ev hb)))
end
section
variable {cs ls:List T}{L:bY N2}{P:List N2}
theorem Rd.events (R:Rd cs ls L P):dY [RR cs ls] = .ok (eS P):=by rw[Bh R.g,R.e];rfl
theorem uf {ns:List N2}{b:cA N2}(D:DR P ns b){v:N2}{x:Int×List Nat}(e:b v=some x):bB (.dct (ns.map en) (dV ns b)) (en v)= .ok (eW x):=by
 unfold bB;simp only[bF];rw[D.get,e];rfl
theorem Cy {ns:List N2}{b:cA N2}(D:DR P ns b)(v:N2):Cz (en v) (.dct (ns.map en) (dV ns b))= .ok (.bl (b v).isSome):=by
 unfold Cz;simp only[bF];rw[D.get];cases b v <;> rfl
def tmT (P:List N2)(t:N2->Int):T:=.tup (P.map λv=> .int (t v))
def EX (b:cA N2)(v:N2):Int:=match b v with
 | some x=>x.1
 | none=>0
def atT (t:N2->Int)(u:T):T:=match u with
 | .tup [.int c,.int k] => .int (t ⟨c,k⟩)
 | _=> .non
theorem Rd.Lh (R:Rd cs ls L P):(¬cM L/\i5 [(RR cs ls)] = .ok .non)\/(cM L/\∃t b,Settled L P b/\(∀v∈P,∃w,b v=some (t v,w))/\i5 [(RR cs ls)] = .ok (tmT P t)):=by
 obtain⟨r,hr,ok⟩:=pU R.f R.nd (λv h=>h)
 have wrap:∀{w:T},bA [(RR cs ls),eL L] = .ok w->i5 [(RR cs ls)] = .ok w:=λ{w} e=>bJ rfl (cz (aM (ts:=[(RR cs ls),eL L]) (ar rfl (ar (aM (ts:=[(RR cs ls)]) rfl R.bounds) rfl)) e))
 have begin_:∀{x z:T} {y:Rs Fl},f9 [eL L,eS P] = .ok (.tup [x,z])->((az (eM (tb (o2 fP (vr 3) (cn .non))) (aL (cn .non)) sN) (aL (cl gh (ae (eY (iS (vr 2)) [none,some 3] (gN 0) bT (o2 aZ (o2 bB (vr 1) (vr 0)) (cn (.int 0)))) ai)))) [.va (RR cs ls),.va (eL L),.va (eS P),.va x] =y)->dj [.va (RR cs ls),.va (eL L),.em,.em] =y:=λ{x z y} hs hy=>by
  unfold dj;rw[ax (Z':=[.va (RR cs ls),.va (eL L),.va (eS P),.em]) (bS (aM (ts:=[(RR cs ls)]) rfl R.events) rfl)];rw[ax (Z':=[.va (RR cs ls),.va (eL L),.va (eS P),.va x]) (bS (aD (u:=.int 0) (aM (ts:=[eL L,eS P]) rfl hs) rfl rfl) rfl)];exact hy
 cases r with
 | inr q=>exact .inl ⟨λn=>absurd n (Bar.neg ok),wrap (bJ rfl (begin_ hr (gW ((ez (bL (aD (t:=.non) (u:=.non) rfl rfl rfl))).trans rfl))))⟩
 | inl b=>
  obtain⟨ns,D,hr⟩:=hr
  have ok:Settled L P b:=ok
  have htm:∀v∈P,∃w,b v=some (EX b v,w):=λv hv=>by
   obtain⟨d,w,e,_⟩:=ok.least v hv v 0 (.nil v);exact⟨w,by unfold EX;rw[e]⟩
  refine .inr ⟨(ok.holds R.f.ends htm).KP,EX b,b,ok,htm,wrap (bJ rfl (begin_ hr ?_))⟩
  generalize EX b=tm at htm
  have lc:eY (iS (vr 2)) [none,some 3] (gN 0) bT (o2 aZ (o2 bB (vr 1) (vr 0)) (cn (.int 0))) [.va (RR cs ls),.va (eL L),.va (eS P),.va (.dct (ns.map en) (dV ns b))] = .ok (.lst ((P.map en).map (atT tm))):=
   mQ (ts:=P.map en) (kW rfl) (aw (k:=16) (by rw[LA];exact R.pl)) (by simp) λt ht=>by
    obtain⟨v,hv,rfl⟩:=LW.mp ht;obtain⟨w,e⟩:=htm v hv;exact aD (t:=eW (tm v,w)) (u:=.int 0) (aD (t:=.dct (ns.map en) (dV ns b)) (u:=en v) rfl rfl (uf D e)) rfl rfl
  rw[Ms]at lc;rw[ax (Z':=[.va (RR cs ls),.va (eL L),.va (eS P),.va (.dct (ns.map en) (dV ns b))]) ((c8 (bL (aD (t:=.dct (ns.map en) (dV ns b)) (u:=.non) rfl rfl rfl))).trans rfl)];exact cz (aM (ar lc rfl) rfl)
theorem Rd.Lk (R:Rd cs ls L P):∃hw:Bool,gc [(RR cs ls)] = .ok (.bl hw)/\(hw=true↔cM L):=by
 rcases R.Lh with⟨n,e⟩ | ⟨n,t,b,_,_,e⟩
 ·exact⟨false,bJ rfl (cz (aD (t:=.non) (u:=.non) (aM (ts:=[(RR cs ls)]) rfl e) rfl rfl)),λz=>(by cases z),λz=>absurd z n⟩
 ·exact⟨true,bJ rfl (cz (aD (t:=tmT P t) (u:=.non) (aM (ts:=[(RR cs ls)]) rfl e) rfl rfl)),λ_=>n,λ_=>rfl⟩
theorem Rd.K4 (R:Rd cs ls L P)(n:cM L):b8 [RR cs ls] = .ok .non:=by
 obtain⟨hw,e,i⟩:=R.Lk;rw[i.mpr n]at e;refine tT (Z:=[.va (RR cs ls)]) rfl ?_
 show dw [.va (RR cs ls)] =_
 unfold dw;exact(c8 (pM (k:=true) (bL (aM (ts:=[RR cs ls]) rfl e)))).trans rfl
theorem Rd.from_ (R:Rd cs ls L P)(n:cM L){a:N2}(ha:a∈P):∃b ns,Settled L [a] b/\DR P ns b/\dm [RR cs ls,en a] = .ok (.dct (ns.map en) (dV ns b)):=by
 obtain⟨r,hr,ok⟩:=pU (S:=[a]) R.f (by simp) (λv h=>by rw[LZ.mp h];exact ha)
 cases r with
 | inr q=>exact absurd n (Bar.neg ok)
 | inl b=>
  obtain⟨ns,D,hr⟩:=hr;refine⟨b,ns,ok,D,bJ rfl (cz (aD (u:=.int 0) (aM (ts:=[eL L,eS [a]]) (ar (aM (ts:=[RR cs ls]) rfl R.bounds) (ar (gf (ts:=[en a]) rfl (aw (k:=1) (by simp))) rfl)) hr) rfl rfl))⟩
def Bz (o:Option (Int×List Nat)):T:=match o with
 | some x=> .int x.1
 | none=> .non
theorem Rd.Lp (R:Rd cs ls L P)(n:cM L){a c:N2}(ha:a∈P)(hc:c∈P):∃b,Settled L [a] b/\aP [RR cs ls,en a,en c] = .ok (Bz (b c)):=by
 obtain⟨b,ns,S,D,e⟩:=R.from_ n ha;refine⟨b,S,bJ rfl ?_⟩
 show cN [.va (RR cs ls),.va (en a),.va (en c)] =_
 unfold cN;rw[ax (lg (t:=.non) (aM (ts:=[RR cs ls,en a,en c]) rfl (R.KO ha hc)))];rw[ax (lg (t:=.non) (aM (ts:=[RR cs ls]) rfl (R.K4 n)))];refine cz (aM (ts:=[.dct (ns.map en) (dV ns b),en c]) (ar (aM (ts:=[RR cs ls,en a]) rfl e) rfl) (bJ rfl ?_))
 refine cz ((ju (p:=(b c).isSome) (bL (aD (t:=en c) (u:=.dct (ns.map en) (dV ns b)) rfl rfl (Cy D c)))).trans ?_)
 cases q:b c with
 | none=>rfl
 | some x=>exact aD (t:=eW x) (u:=.int 0) (aD (t:=.dct (ns.map en) (dV ns b)) (u:=en c) rfl rfl (uf D q)) rfl rfl
end
def oI (o:Option Int):T:=match o with
 | some x=> .int x
 | none=> .non
def rowsT (P:List N2)(f:di N2):List (List T×List T):=P.map λu=>(P.map en,P.map λv=>oI (f u v))
def fL (P:List N2)(f:di N2):T:=.dct (P.map en) (P.map λu=> .dct (P.map en) (P.map λv=>oI (f u v)))
abbrev iV (P:List N2)(L:bY N2)(f:di N2)(s3 s4 s5 s6 s7:Sl):En:=[.va (eS P),.va (eL L),.ow (.dd (P.map en) (rowsT P f)),s3,s4,s5,s6,s7]
abbrev FP (P:List N2)(L:bY N2)(f:di N2)(s3 s4 s5 s6 s7:Sl):En:=[.va (eS P),.va (eL L),.va (fL P f),s3,s4,s5,s6,s7]
section
variable {P:List N2}{L:bY N2}{f:di N2}
theorem xE (s3 s4 s5 s6 s7:Sl):disown 2 (iV P L f s3 s4 s5 s6 s7)=FP P L f s3 s4 s5 s6 s7:=by
 show [Sl.va (eS P),.va (eL L),.va (OT.view (.dd (P.map en) (rowsT P f))),s3,s4,s5,s6,s7] =_
 have e:OT.view (.dd (P.map en) (rowsT P f))=fL P f:=by
  show T.dct (P.map en) ((rowsT P f).map λr=>T.dct r.1 r.2)=_
  unfold rowsT fL;rw[Ms]
  rfl
 rw[e]
theorem sj {u v:N2}{a b c:En->Rs T}{Z:En}(hc:c Z= .ok (fL P f))(ha:a Z= .ok (en u))(hb:b Z= .ok (en v))(hu:u∈P)(hv:v∈P):o2 bB (o2 bB c a) b Z= .ok (oI (f u v)):=by
 refine aD (t:=.dct (P.map en) (P.map λw=>oI (f u w))) (u:=en v) (aD (t:=fL P f) (u:=en u) hc ha ?_) hb ?_
 ·show(match lq (P.map en) (P.map λu=>T.dct (P.map en) (P.map λv=>oI (f u v))) (ky u)with | some t=>Rs.ok t | none=> .bad)=_
  rw[om (λu=>T.dct (P.map en) (P.map λv=>oI (f u v))),if_pos hu]
 ·show(match lq (P.map en) (P.map λw=>oI (f u w)) (ky v)with | some t=>Rs.ok t | none=> .bad)=_
  rw[om (λw=>oI (f u w)),if_pos hv]
theorem BC {u v:N2}{a b:En->Rs T}{s3 s4 s5 s6 s7:Sl}(ha:a (FP P L f s3 s4 s5 s6 s7)= .ok (en u))(hb:b (FP P L f s3 s4 s5 s6 s7)= .ok (en v))(hu:u∈P)(hv:v∈P):ln 2 (o2 bB (o2 bB (vr 2) a) b) (iV P L f s3 s4 s5 s6 s7)= .ok (oI (f u v)):=
 Eb (o:=.dd (P.map en) (rowsT P f)) rfl (by rw[xE];exact sj rfl ha hb hu hv) (by cases f u v <;> rfl)
theorem AN (g:N2->List T×List T)(u:N2):∀(Q:List N2),u∈Q->qy (Q.map en) (Q.map g) (ky u)=some (g u)
 | w::Q,h=>by
  rw[Lx,Lx,qy,bF]
  by_cases e:w=u
  ·subst e;rw[if_pos rfl]
  ·rw[if_neg (λz=>e (i8 z)),AN g u Q ((LH.mp h).elim (λz=>absurd z.symm e) id)]
theorem AK (g:N2->List T×List T)(u:N2)(x:List T×List T):∀(Q:List N2),Q.Nodup->qx (ky u) x (Q.map en) (Q.map g)=Q.map λw=>if w=u then x else g w
 | [],_=>rfl
 | w::Q,h=>by
  rw[L7]at h;rw[Lx,Lx,qx,bF,Lx]
  by_cases e:w=u
  ·subst e
   rw[if_pos rfl,if_pos rfl]
   congr 1
   exact L9 λz hz=>by rw[if_neg (λ(y:z=w)=>h.1 (y▸hz))]
  ·rw[if_neg (λz=>e (i8 z)),if_neg e,AK g u x Q h.2]
theorem A0 (nd:P.Nodup)(pl:P.length<1000){u v:N2}{x:Int}{a b c:En->Rs T}{s3 s4 s5 s6 s7:Sl}(ha:a (iV P L f s3 s4 s5 s6 s7)= .ok (en u))(hb:b (iV P L f s3 s4 s5 s6 s7)= .ok (en v))(hc:c (iV P L f s3 s4 s5 s6 s7)= .ok (.int x))(hu:u∈P)(hv:v∈P) :
  jo 2 a b c (iV P L f s3 s4 s5 s6 s7)= .ok (.nx (iV P L (jP f u v x) s3 s4 s5 s6 s7)):=by
 unfold jo
 show(c (iV P L f s3 s4 s5 s6 s7) >>= λw=>a (iV P L f s3 s4 s5 s6 s7) >>= λz=>match(keyOf z).bind λka=>(qy (P.map en) (rowsT P f) ka).map λr=>(ka,r)with
  | some (ka,r)=>b (iV P L f s3 s4 s5 s6 s7) >>= λy=>if (keyOf y).isSome=true/\r.1.length<1000 then Rs.ok (Fl.nx ((iV P L f s3 s4 s5 s6 s7).set 2 (.ow (.dd (P.map en) (qx ka (hG y w r.1 r.2) (P.map en) (rowsT P f))))))else .bad
  | none=> .bad)=_
 rw[hc,aH,ha,aH,bF]
 have e1:qy (P.map en) (rowsT P f) (ky u)=some (P.map en,P.map λv=>oI (f u v)):=AN (λu=>(P.map en,P.map λv=>oI (f u v))) u P hu
 simp only[Option.bind_some,e1,Tw];rw[hb,aH,bF,if_pos ⟨rfl,by rw[LA];exact pl⟩,ue (.int x) v (λv=>oI (f u v)) P nd hv]
 have e2:=AK (λu=>(P.map en,P.map λv=>oI (f u v))) u (P.map en,P.map λw=>if w=v then T.int x else oI (f u w)) P nd
 have e3:(P.map λw=>if w=u then(P.map en,P.map λw=>if w=v then T.int x else oI (f u w))else(P.map en,P.map λv=>oI (f w v)))=rowsT P (jP f u v x):=by
  unfold rowsT jP;refine L9 λw _=> ?_
  by_cases e:w=u
  ·subst e
   rw[if_pos rfl]
   congr 1
   refine L9 λz _=> ?_
   by_cases h:z=v
   ·rw[if_pos h,if_pos ⟨rfl,h⟩];rfl
   ·rw[if_neg h,if_neg (λq=>h q.2)]
  ·rw[if_neg e]
   congr 1
   exact L9 λz _=>by rw[if_neg (λq=>e q.1)]
 show Rs.ok (Fl.nx [.va (eS P),.va (eL L),.ow (.dd (P.map en) (qx (ky u) (P.map en,P.map λw=>if w=v then T.int x else oI (f u w)) (P.map en) (rowsT P f))),s3,s4,s5,s6,s7])=_
 rw[show qx (ky u) (P.map en,P.map λw=>if w=v then T.int x else oI (f u w)) (P.map en) (rowsT P f)=rowsT P (jP f u v x)from e2.trans e3]
theorem B2 (nd:P.Nodup)(pl:P.length<1000){u v:N2}{x:Int}{a b c:En->Rs T}{s3 s4 s5 s6 s7:Sl}(ha:a (iV P L f s3 s4 s5 s6 s7)= .ok (en u))(hb:b (iV P L f s3 s4 s5 s6 s7)= .ok (en v))(ha':a (FP P L f s3 s4 s5 s6 s7)= .ok (en u))(hb':b (FP P L f s3 s4 s5 s6 s7)= .ok (en v))(hc:c (iV P L f s3 s4 s5 s6 s7)= .ok (.int x))(hu:u∈P)(hv:v∈P) :
  eM (mB (tb (o2 fP (ln 2 (o2 bB (o2 bB (vr 2) a) b)) (cn .non))) (tb (o2 nu c (ln 2 (o2 bB (o2 bB (vr 2) a) b))))) (jo 2 a b c) sN (iV P L f s3 s4 s5 s6 s7)= .ok (.nx (iV P L (nR f u v x) s3 s4 s5 s6 s7)):=by
 have g:=BC (P:=P) (L:=L) (f:=f) ha' hb' hu hv
 have p:=A0 (P:=P) (L:=L) (f:=f) nd pl ha hb hc hu hv;unfold nR
 cases q:f u v with
 | none=>
  rw[q]at g
  exact(ez (BO (bL (aD (t:=.non) (u:=.non) g rfl rfl)))).trans p
 | some y=>
  rw[q]at g
  have c2:tb (o2 nu c (ln 2 (o2 bB (o2 bB (vr 2) a) b))) (iV P L f s3 s4 s5 s6 s7)= .ok (decide (x<y)):=bL (aD (t:=.int x) (u:=.int y) hc g rfl)
  by_cases h:x<y
  ·rw[decide_eq_true h]at c2
   simp only[if_pos h];exact(ez (vU (bL (aD (t:=.int y) (u:=.non) g rfl rfl)) c2)).trans p
  ·rw[decide_eq_false h]at c2
   simp only[if_neg h];exact(c8 (vU (bL (aD (t:=.int y) (u:=.non) g rfl rfl)) c2)).trans rfl
end
section
variable {P:List N2}{L:bY N2}
theorem vR:∀(P:List N2),ny (P.map en)=true
 | [] =>rfl
 | u::P=>by
  have:=vR P;simp[ny,bF,this]
theorem Hm (nd:P.Nodup):((P.map en).map keyOf).Nodup:=by
 rw[Ms];exact nd.map _ λa b h e=>h (i8 e)
theorem FN (nd:P.Nodup)(pl:P.length<=1000):oR 2 0 [.va (eS P),.va (eL L),.em,.em,.em,.em,.em,.em] = .ok (.nx (iV P L (λ_ _=>none) .em .em .em .em .em)):=by
 show(if (2:Nat)<8/\ny (P.map en)=true/\((P.map en).map keyOf).Nodup/\(P.map en).length<=1000 then Rs.ok (Fl.nx [.va (eS P),.va (eL L),.ow (.dd (P.map en) ((P.map en).map λ_=>(P.map en,(P.map en).map λ_=>T.non))),.em,.em,.em,.em,.em])else .bad)=_
 rw[if_pos ⟨by omega,vR P,Hm nd,by rw[LA];exact pl⟩,Ms,Ms]
 rfl
theorem E8 (nd:P.Nodup)(pl:P.length<1000):∀(Q:List N2) (f:di N2) (s3 s4 s5 s6 s7:Sl),(∀u∈Q,u∈P)->∃s3',
  bf (gN 3) (jo 2 (vr 3) (vr 3) (cn (.int 0))) (Q.map en) (iV P L f s3 s4 s5 s6 s7)= .ok (.nx (iV P L (Q.foldl (λf u=>jP f u u 0) f) s3' s4 s5 s6 s7))
 | [],f,s3,s4,s5,s6,s7,_=>⟨s3,rfl⟩
 | u::Q,f,s3,s4,s5,s6,s7,h=>by
  have hu:=h u Lz;rw[Lx,cK (Z1:=iV P L f (.va (en u)) s4 s5 s6 s7) rfl (A0 nd pl (u:=u) (v:=u) (x:=0) rfl rfl rfl hu hu)];exact E8 nd pl Q _ _ _ _ _ _ λw hw=>h w (Lw _ hw)
theorem rM:∀(Q:List N2) (f:di N2) (u v:N2),Q.foldl (λf u=>jP f u u 0) f u v=if u∈Q/\u=v then some 0 else f u v
 | [],f,u,v=>by rw[if_neg (λh=>nomatch h.1)];rfl
 | w::Q,f,u,v=>by
  rw[Td,rM Q]
  by_cases e:u=v
  ·subst e
   by_cases m:u∈Q
   ·rw[if_pos ⟨m,rfl⟩,if_pos ⟨Lw _ m,rfl⟩]
   ·rw[if_neg (λz=>m z.1)]
    unfold jP
    by_cases q:u=w
    ·subst q;rw[if_pos ⟨rfl,rfl⟩,if_pos ⟨Lz,rfl⟩]
    ·rw[if_neg (λz=>q z.1),if_neg (λz=>(LH.mp z.1).elim q m)]
  ·rw[if_neg (λz=>e z.2),if_neg (λz=>e z.2)]
   unfold jP;rw[if_neg (λz=>e (z.1.trans z.2.symm))]
theorem zP (P:List N2):P.foldl (λf u=>jP f u u 0) (λ_ _=>none)=uL P:=by
 funext u v
 rw[rM]
 rfl
theorem E7 (nd:P.Nodup)(pl:P.length<1000):∀(M:bY N2) (f:di N2) (s3 s4 s5 s6 s7:Sl),(∀x∈M,x.1∈P/\x.2.1∈P)->∃s3' s4' s5',
  bf (gT 3 (eF (gN 3) (eF (gN 4) (eF (gN 5) ly)))) (eM (mB (tb (o2 fP (ln 2 (o2 bB (o2 bB (vr 2) (vr 3)) (vr 4))) (cn .non))) (tb (o2 nu (vr 5) (ln 2 (o2 bB (o2 bB (vr 2) (vr 3)) (vr 4)))))) (jo 2 (vr 3) (vr 4) (vr 5)) sN) (M.map eB) (iV P L f s3 s4 s5 s6 s7)= .ok (.nx (iV P L (M.foldl (λf x=>nR f x.1 x.2.1 x.2.2) f) s3' s4' s5' s6 s7))
 | [],f,s3,s4,s5,s6,s7,_=>⟨s3,s4,s5,rfl⟩
 | x::M,f,s3,s4,s5,s6,s7,h=>by
  have hx:=h x Lz;rw[Lx,cK (Z1:=iV P L f (.va (en x.1)) (.va (en x.2.1)) (.va (.int x.2.2)) s6 s7) rfl (B2 nd pl (u:=x.1) (v:=x.2.1) (x:=x.2.2) rfl rfl rfl rfl rfl hx.1 hx.2)];exact E7 nd pl M _ _ _ _ _ _ λw hw=>h w (Lw _ hw)
abbrev Ik:En->Rs Fl:=(eM (qT (tb (o2 cZ (ln 2 (o2 bB (o2 bB (vr 2) (vr 3)) (vr 6))) (cn .non))) (tb (o2 cZ (ln 2 (o2 bB (o2 bB (vr 2) (vr 6)) (vr 4))) (cn .non)))) (az (cC (o2 aY (ln 2 (o2 bB (o2 bB (vr 2) (vr 3)) (vr 6))) (ln 2 (o2 bB (o2 bB (vr 2) (vr 6)) (vr 4)))) (gN 7)) (eM (mB (tb (o2 fP (ln 2 (o2 bB (o2 bB (vr 2) (vr 3)) (vr 4))) (cn .non))) (tb (o2 nu (vr 7) (ln 2 (o2 bB (o2 bB (vr 2) (vr 3)) (vr 4)))))) (jo 2 (vr 3) (vr 4) (vr 7)) sN)) sN)
theorem C6 (nd:P.Nodup)(pl:P.length<1000){mid one other:N2}(hm:mid∈P)(h1:one∈P)(h2:other∈P)(f:di N2)(s5 s7:Sl):∃s7',
  Ik (iV P L f (.va (en one)) (.va (en other)) s5 (.va (en mid)) s7)= .ok (.nx (iV P L (l9 mid one other f) (.va (en one)) (.va (en other)) s5 (.va (en mid)) s7')):=by
 have ga:∀s7,ln 2 (o2 bB (o2 bB (vr 2) (vr 3)) (vr 6)) (iV P L f (.va (en one)) (.va (en other)) s5 (.va (en mid)) s7)= .ok (oI (f one mid)):=λs7=>BC rfl rfl h1 hm
 have gb:∀s7,ln 2 (o2 bB (o2 bB (vr 2) (vr 6)) (vr 4)) (iV P L f (.va (en one)) (.va (en other)) s5 (.va (en mid)) s7)= .ok (oI (f mid other)):=λs7=>BC rfl rfl hm h2
 unfold l9 Ik
 cases qa:f one mid with
 | none=>
  have ga:=ga s7;rw[qa]at ga
  exact⟨s7,(c8 (BV (bL (aD (t:=.non) (u:=.non) ga rfl rfl)))).trans rfl⟩
 | some x=>
  have ga:=ga s7;rw[qa]at ga
  have c1:=bL (aD (g:=cZ) (t:=.int x) (u:=.non) (fb:=cn .non) ga rfl rfl)
  cases qb:f mid other with
  | none=>
   have gb:=gb s7;rw[qb]at gb
   exact⟨s7,(c8 (xu c1 (bL (aD (t:=.non) (u:=.non) gb rfl rfl)))).trans rfl⟩
  | some y=>
   have gb:=gb s7;rw[qb]at gb;refine⟨.va (.int (x+y)),(ez (xu c1 (bL (aD (t:=.int y) (u:=.non) gb rfl rfl)))).trans ?_⟩
   rw[ax (bS (Z':=iV P L f (.va (en one)) (.va (en other)) s5 (.va (en mid)) (.va (.int (x+y)))) (aD (t:=.int x) (u:=.int y) ga gb rfl) rfl)];exact B2 nd pl (u:=one) (v:=other) (x:=x+y) rfl rfl rfl rfl rfl h1 h2
theorem E6 (nd:P.Nodup)(pl:P.length<1000){mid one:N2}(hm:mid∈P)(h1:one∈P):∀(Q:List N2) (f:di N2) (s4 s5 s7:Sl),(∀u∈Q,u∈P)->∃s4' s7',
  bf (gN 4) Ik (Q.map en) (iV P L f (.va (en one)) s4 s5 (.va (en mid)) s7)= .ok (.nx (iV P L (md mid one Q f) (.va (en one)) s4' s5 (.va (en mid)) s7'))
 | [],f,s4,s5,s7,_=>⟨s4,s7,rfl⟩
 | u::Q,f,s4,s5,s7,h=>by
  have hu:=h u Lz;obtain⟨s7',e⟩:=C6 (L:=L) nd pl hm h1 hu f s5 s7;rw[Lx,cK (Z1:=iV P L f (.va (en one)) (.va (en u)) s5 (.va (en mid)) s7) rfl e];exact E6 nd pl hm h1 Q _ _ _ _ λw hw=>h w (Lw _ hw)
theorem EZ (nd:P.Nodup)(pl:P.length<1000){mid:N2}(hm:mid∈P):∀(Q:List N2) (f:di N2) (s3 s4 s5 s7:Sl),(∀u∈Q,u∈P)->∃s3' s4' s7',
  bf (gN 3) (dP (iS (vr 0)) (gN 4) Ik) (Q.map en) (iV P L f s3 s4 s5 (.va (en mid)) s7)= .ok (.nx (iV P L (pQ mid Q P f) s3' s4' s5 (.va (en mid)) s7'))
 | [],f,s3,s4,s5,s7,_=>⟨s3,s4,s7,rfl⟩
 | u::Q,f,s3,s4,s5,s7,h=>by
  have hu:=h u Lz;obtain⟨s4',s7',e⟩:=E6 (L:=L) nd pl hm hu P f s4 s5 s7 λ_ z=>z
  rw[Lx,cK (Z1:=iV P L f (.va (en u)) s4 s5 (.va (en mid)) s7) rfl (dC (ts:=P.map en) rfl e)];exact EZ nd pl hm Q _ _ _ _ _ λw hw=>h w (Lw _ hw)
theorem EY (nd:P.Nodup)(pl:P.length<1000):∀(Q:List N2) (f:di N2) (s3 s4 s5 s6 s7:Sl),(∀u∈Q,u∈P)->∃s3' s4' s6' s7',
  bf (gN 6) (dP (iS (vr 0)) (gN 3) (dP (iS (vr 0)) (gN 4) Ik)) (Q.map en) (iV P L f s3 s4 s5 s6 s7)= .ok (.nx (iV P L (vY Q P f) s3' s4' s5 s6' s7'))
 | [],f,s3,s4,s5,s6,s7,_=>⟨s3,s4,s6,s7,rfl⟩
 | u::Q,f,s3,s4,s5,s6,s7,h=>by
  have hu:=h u Lz;obtain⟨s3',s4',s7',e⟩:=EZ (L:=L) nd pl hu P f s3 s4 s5 s7 λ_ z=>z
  rw[Lx,cK (Z1:=iV P L f s3 s4 s5 (.va (en u)) s7) rfl (dC (ts:=P.map en) rfl e)];exact EY nd pl Q _ _ _ _ _ _ λw hw=>h w (Lw _ hw)
def EU (P:List N2)(f:di N2):Prop:=∀u∈P,∀y,f u u=some y->0<=y
theorem FO (hd:∀u∈P,∃y,table P L u u=some y)(pl:P.length<1000)(s3 s4 s5 s6 s7:Sl) :
  ∃t,((EU P (table P L)/\t=fL P (table P L))\/(¬EU P (table P L)/\t= .non))/\lK 2 (aL (t9 (tb (o2 qQ (eY (iS (vr 0)) [none,some 2] (gN 0) (tb (o2 nu (o2 bB (o2 bB (vr 1) (vr 0)) (vr 0)) (cn (.int 0)))) (vr 0)) (dD ai))) (vr 2) (cn .non))) (iV P L (table P L) s3 s4 s5 s6 s7)= .ok (.rt t):=by
 generalize hf:table P L=f
 rw[hf]at hd
 have lc:eY (iS (vr 0)) [none,some 2] (gN 0) (tb (o2 nu (o2 bB (o2 bB (vr 1) (vr 0)) (vr 0)) (cn (.int 0)))) (vr 0) (FP P L f s3 s4 s5 s6 s7)= .ok (.lst (((P.map en).filter λt=>P.any λu=>decide (keyOf t=some (ky u))&&(match f u u with | some y=>decide (y<0) | none=>false)).map id)):=by
  refine Ft (ts:=P.map en) rfl (aw (k:=1000) (by rw[LA];omega)) (by simp) λt ht=> ?_
  obtain⟨u,hu,rfl⟩:=LW.mp ht;obtain⟨y,hy⟩:=hd u hu;refine⟨?_,λ_=>rfl⟩
  have e:(P.any λw=>decide (keyOf (en u)=some (ky w))&&(match f w w with | some y=>decide (y<0) | none=>false))=decide (y<0):=by
   by_cases h:y<0
   ·rw[decide_eq_true h]
    exact Px.mpr ⟨u,hu,by rw[hy];simp[h,bF]⟩
   ·rw[decide_eq_false h,Qh]
    intro w hw
    by_cases q:w=u
    ·subst q;rw[hy];simp[h]
    ·rw[decide_eq_false (λz=>q (i8 ((bF u).symm.trans z)).symm)];simp
  rw[e]
  have g:=sj (P:=P) (f:=f) (u:=u) (v:=u) (Z:=[.va (en u),.va (fL P f)]) (c:=vr 1) (a:=vr 0) (b:=vr 0) rfl rfl rfl hu hu;rw[hy]at g;exact bL (aD (t:=.int y) (u:=.int 0) g rfl rfl)
 rw[To]at lc
 generalize hp:(λt=>P.any λu=>decide (keyOf t=some (ky u))&&(match f u u with | some y=>decide (y<0) | none=>false))=p at lc
 have pu:∀u∈P,∀y,f u u=some y->p (en u)=decide (y<0):=by
  intro u hu y hy;rw[<-hp]
  show(P.any λw=>decide (keyOf (en u)=some (ky w))&&(match f w w with | some y=>decide (y<0) | none=>false))=decide (y<0)
  by_cases h:y<0
  ·rw[decide_eq_true h]
   exact Px.mpr ⟨u,hu,by rw[hy];simp[h,bF]⟩
  ·rw[decide_eq_false h,Qh]
   intro w hw
   by_cases q:w=u
   ·subst q;rw[hy];simp[h]
   ·rw[decide_eq_false (λz=>q (i8 ((bF u).symm.trans z)).symm)];simp
 have iff:(P.map en).filter p= [] ↔EU P f:=by
  rw[List.filter_eq_nil_iff]
  constructor
  ·intro h u hu y hy
   have:=h (en u) (LW.mpr ⟨u,hu,rfl⟩);rw[pu u hu y hy]at this
   simpa using this
  ·intro h t ht
   obtain⟨u,hu,rfl⟩:=LW.mp ht;obtain⟨y,hy⟩:=hd u hu;rw[pu u hu y hy]
   have:=h u hu y hy
   simpa using this
 have nd:nds ((P.map en).filter p)=true:=Bw λt ht=>by
  obtain⟨u,_,rfl⟩:=LW.mp (QX.mp ht).1
  rfl
 have eq:o2 qQ (eY (iS (vr 0)) [none,some 2] (gN 0) (tb (o2 nu (o2 bB (o2 bB (vr 1) (vr 0)) (vr 0)) (cn (.int 0)))) (vr 0)) (dD ai) (FP P L f s3 s4 s5 s6 s7)= .ok (.bl (bo (.lst ((P.map en).filter p)) (.lst []))):=
  aD (u:=.lst []) lc (gf rfl (aw (k:=1) (by simp))) (by unfold qQ;rw[if_pos (vZ (by simp[T.dep,deps]) (by simpa [T.nd]using nd) rfl)])
 by_cases D:EU P f
 ·refine⟨fL P f,.inl ⟨D,rfl⟩,?_⟩
  rw[iff.mpr D]at eq;refine yF ?_
  rw[xE];exact cz ((ju (p:=true) (bL eq)).trans rfl)
 ·refine⟨.non,.inr ⟨D,rfl⟩,?_⟩
  have:(P.map en).filter p≠ []:=λz=>D (iff.mp z)
  cases q:(P.map en).filter p with
  | nil=>exact absurd q this
  | cons a l=>
   rw[q]at eq;refine yF ?_
   rw[xE];exact cz ((ju (p:=false) (bL (eq.trans (by simp[bo,beqTs])))).trans rfl)
theorem yN (nd:P.Nodup)(pl:P.length<1000)(hL:∀x∈L,x.1∈P/\x.2.1∈P) :
  ∃t,((cM L/\gy L P (table P L)/\t=fL P (table P L))\/(¬cM L/\t= .non))/\fy [eS P,eL L] = .ok t:=by
 obtain⟨a3,e1⟩:=E8 (L:=L) nd pl P (λ_ _=>none) .em .em .em .em .em λ_ z=>z
 rw[zP]at e1;obtain⟨b3,b4,b5,e2⟩:=E7 (L:=L) nd pl L (uL P) a3 .em .em .em .em hL;obtain⟨c3,c4,c6,c7,e3⟩:=EY (L:=L) nd pl P (Av P L) b3 b4 b5 .em .em λ_ z=>z
 obtain⟨t,ht,e4⟩:=FO (P:=P) (L:=L) (λu hu=>let ⟨y,h,_⟩:=oB (L:=L) hu;⟨y,h⟩) pl c3 c4 b5 c6 c7
 refine⟨t,ht.elim (λh=> .inl ?_) (λh=> .inr ⟨λn=>h.1 λu hu y hy=> ?_,h.2⟩),bJ rfl ?_⟩
 ·have:=m9 hL h.1
  exact⟨this.1,this.2,h.2⟩
 ·exact Int.not_lt.mp λz=>rg hy z n
 ·show jg [.va (eS P),.va (eL L),.em,.em,.em,.em,.em,.em] =_
  unfold jg;rw[ax (FN nd (by omega)),ax (dC (ts:=P.map en) rfl e1),ax (dC (ts:=L.map eB) rfl e2)]
  exact(ax (dC (ts:=P.map en) rfl e3)).trans e4
end
theorem Ju (b:Bool):nM (.bl b) (.bl b)= .ok (.bl false):=iX rfl (by simp[T.dep])
theorem Hw (l:List T)(h:l≠ []):aZ (.lst l) (.int (-1))= .ok (l.getLast h):=by
 show(match L2.atI l (-1)with | some t=>Rs.ok t | none=> .bad)=_
 have hp:0<l.length:=RC.mpr h
 have e:L2.atI l (-1)=some (l.getLast h):=by
  unfold L2.atI L2.ixN;rw[if_neg (by omega),if_pos (by omega)]
  show l[((-1:Int)+l.length).toNat]? =_
  rw[Qv,show((-1:Int)+l.length).toNat=l.length - 1 by omega,LN]
 rw[e]
theorem zB {R t u:T}{e:Str}(h:b9 [R,t,u] = .err e):aP [R,t,u] = .err e:=by
 refine dh rfl ?_
 show cN [.va R,.va t,.va u] =_
 unfold cN;exact gn (nA (aM (ts:=[R,t,u]) rfl h))
theorem Jw {R t u:T}{e:Str}(h:b9 [R,t,u] = .ok .non)(h2:b8 [R] = .err e):aP [R,t,u] = .err e:=by
 refine dh rfl ?_
 show cN [.va R,.va t,.va u] =_
 unfold cN;rw[ax (lg (t:=.non) (aM (ts:=[R,t,u]) rfl h))];exact gn (nA (aM (ts:=[R]) rfl h2))
theorem lb_e {R t u:T}{e:Str}(h:aP [R,u,t] = .err e):dB [R,t,u] = .err e:=by
 refine dh rfl ?_
 show dE [.va R,.va t,.va u,.em] =_
 unfold dE;exact gn (yG (aM (ts:=[R,u,t]) rfl h))
theorem ED {R:T}(hp:R.pl=true)(h:iM R=false):dZ [R] = .err "NoRecord":=by
 refine dh rfl ?_
 show jY [.va R,.em,.em,.em,.em] =_
 unfold jY;exact gn (nA (aM (ts:=[R]) rfl (mL hp h)))
theorem Hb {R:T}(hp:R.pl=true)(h:iM R=false):b8 [R] = .err "NoRecord":=by
 have e1:i5 [R] = .err "NoRecord":=dh rfl (xt (JP (by unfold ae;show(Rs.ok R >>= λv=>(ae (cl dZ (ae (vr 0) ai)) ai) [.va R] >>= λvs=>Rs.ok (v::vs))=_;rw[aH,Ed (aM (ts:=[R]) rfl (ED hp h))];rfl)))
 have e2:gc [R] = .err "NoRecord":=dh rfl (xt (JI (aM (ts:=[R]) rfl e1)));refine dh rfl ?_
 show dw [.va R] =_
 unfold dw;exact BS (Ht (Fs (aM (ts:=[R]) rfl e2)))
theorem J3 {R t u:T}(hp:R.pl=true)(h:iM R=false):b9 [R,t,u] = .err "NoRecord":=by
 refine dh rfl ?_
 show cf [.va R,.va t,.va u] =_
 unfold cf;exact gn (nA (aM (ts:=[R]) rfl (mL hp h)))
section
variable {cs ls:List T}{L:bY N2}{P:List N2}{ns:List Int}
theorem Rd.Ll (R:Rd cs ls L P){a:N2}(ha:a∈P){t:T}(hp:t.pl=true)(h:aU cs t=false):b9 [(RR cs ls),en a,t] = .err "NoEvent":=by
 refine dh rfl ?_
 show cf [.va (RR cs ls),.va (en a),.va t] =_
 unfold cf;rw[ax (lg (t:=.non) (aM (ts:=[(RR cs ls)]) rfl (gS R.g.p R.g.ok)))];rw[ax (lg (t:=.non) (aM (ts:=[(RR cs ls),en a]) rfl (nZ R.g rfl (R.ev ha))))];exact nA (aM (ts:=[(RR cs ls),t]) rfl (vI R.g hp h))
theorem Rd.Lm (R:Rd cs ls L P){t u:T}(hp:t.pl=true)(h:aU cs t=false):b9 [(RR cs ls),t,u] = .err "NoEvent":=by
 refine dh rfl ?_
 show cf [.va (RR cs ls),.va t,.va u] =_
 unfold cf;rw[ax (lg (t:=.non) (aM (ts:=[(RR cs ls)]) rfl (gS R.g.p R.g.ok)))];exact gn (nA (aM (ts:=[(RR cs ls),t]) rfl (vI R.g hp h)))
theorem Rd.now (R:Rd cs ls L P)(n:¬ cM L):b8 [(RR cs ls)] = .err "NoWorld":=by
 obtain⟨hw,e,i⟩:=R.Lk
 cases hw with
 | true=>exact absurd (i.mp rfl) n
 | false=>
  refine dh rfl ?_
  show dw [.va (RR cs ls)] =_
  unfold dw;exact(ez (pM (k:=false) (bL (aM (ts:=[(RR cs ls)]) rfl e)))).trans rfl
theorem Dj (hc:bj (.tup cs)=true)(c:Int):reads cs c<=4:=by
 unfold reads;split
 ·split
  ·rename_i e
   obtain⟨x,y,r,q,_,h⟩:=eZ ((cL hc).1 _ (Nz e));cases q;exact h
  ·omega
 ·omega
theorem yi {a:N2}{b:cA N2}{f:di N2}(S:Settled L [a] b)(F:gy L P f)(ha:a∈P)(c:N2):Bz (b c)=oI (f a c):=by
 cases q:b c with
 | none=>
  cases e:f a c with
  | none=>rfl
  | some y=>
   obtain⟨d,w,z,_⟩:=S.least a (by simp) c y (F.is a c y e)
   rw[q]at z;cases z
 | some x=>
  obtain⟨d,w⟩:=x;obtain⟨s,hs,h1,h2,_⟩:=S.walk c d w q;rw[LZ.mp hs]at h1
  have wk:Wk L a c d:=h2▸h1.wk;obtain⟨y,e,hy⟩:=F.le a ha c d wk;obtain⟨d',w',z,hd⟩:=S.least a (by simp) c y (F.is a c y e)
  rw[q]at z;cases z;rw[e]
  show T.int d= .int y
  congr 1
  omega
theorem Rd.K0 (R:Rd cs ls L P)(n:cM L){f:di N2}(F:gy L P f){a c:N2}(ha:a∈P)(hc:c∈P):aP [(RR cs ls),en a,en c] = .ok (oI (f a c)):=by
 obtain⟨b,S,e⟩:=R.Lp n ha hc;rw[e,yi S F ha]
def ngI (o:Option Int):T:=match o with
 | some x=> .int (0 - x)
 | none=> .non
theorem Rd.K9 (R:Rd cs ls L P)(n:cM L){f:di N2}(F:gy L P f){a c:N2}(ha:a∈P)(hc:c∈P):dB [(RR cs ls),en a,en c] = .ok (ngI (f c a)):=by
 refine bJ rfl ?_
 show dE [.va (RR cs ls),.va (en a),.va (en c),.em] =_
 unfold dE;rw[ax (Z':=[.va (RR cs ls),.va (en a),.va (en c),.va (oI (f c a))]) (bS (aM (ts:=[(RR cs ls),en c,en a]) rfl (R.K0 n F hc ha)) rfl)]
 cases f c a with
 | none=>exact cz ((ju (p:=true) (bL (aD (t:=.non) (u:=.non) rfl rfl rfl))).trans rfl)
 | some x=>
  refine cz ((ju (p:=false) (bL (aD (t:=.int x) (u:=.non) rfl rfl rfl))).trans ((JK (t:=.int x) rfl rfl).trans ?_))
  show Rs.ok (T.int (-x))= .ok (.int (0 - x))
  rw[SK]
theorem xj {D:Bool}:∀{l:List T},(∀t∈l,t.nk D=true)->nks D l=true
 | [],_=>rfl
 | t::l,h=>by unfold nks;rw[h t Lz,xj λu hu=>h u (Lw _ hu)];rfl
theorem ug {k:Nat}:∀{l:List T},(∀t∈l,t.dep<=k)->deps l<=k
 | [],_=>by unfold deps;omega
 | t::l,h=>by
  unfold deps;exact Nat.max_le.mpr ⟨h t Lz,ug λu hu=>h u (Lw _ hu)⟩
end
section
variable {cs ls:List T}{L:bY N2}{P:List N2}{ns:List Int}
def u7 (P:List N2)(f:di N2)(u:N2):T:=.tup (P.map λv=>oI (f u v))
def zd (P:List N2)(f:di N2):T:=.tup (P.map (u7 P f))
theorem G9 (D:Bool)(P:List N2)(f:di N2):(zd P f).nk D=true:=by
 show nks D (P.map (u7 P f))=true
 refine xj λt ht=> ?_
 obtain⟨u,_,rfl⟩:=LW.mp ht
 show nks D (P.map λv=>oI (f u v))=true
 refine xj λt ht=> ?_
 obtain⟨v,_,rfl⟩:=LW.mp ht;cases f u v <;> rfl
theorem Ck {b:cA N2}{ms:List N2}(D:DR P ms b)(c:N2):eX [.dct (ms.map en) (dV ms b),en c] = .ok (Bz (b c)):=by
 refine bJ rfl ?_
 refine cz ((ju (p:=(b c).isSome) (bL (aD (t:=en c) (u:=.dct (ms.map en) (dV ms b)) rfl rfl (Cy D c)))).trans ?_)
 cases q:b c with
 | none=>rfl
 | some x=>exact aD (t:=eW x) (u:=.int 0) (aD (t:=.dct (ms.map en) (dV ms b)) (u:=en c) rfl rfl (uf D q)) rfl rfl
def deO (f:di N2)(u:N2)(t:T):T:=match t with
 | .tup [.int c,.int k] =>oI (f u ⟨c,k⟩)
 | _=> .non
theorem Ez (P:List N2)(f:di N2)(u:N2):(P.map en).map (deO f u)=P.map λv=>oI (f u v):=by rw[Ms];rfl
abbrev amF:En->Rs Fl:=(az (cC (cl dm (ae (vr 0) (ae (vr 3) ai))) (gN 4)) (g9 2 (cl gh (ae (eY (iS (vr 1)) [none,some 4] (gN 0) bT (cl eX (ae (vr 1) (ae (vr 0) ai)))) ai))))
theorem Rd.KJ (R:Rd cs ls L P)(n:cM L){f:di N2}(F:gy L P f):∀(Q:List N2) (acc:List T) (s3 s4:Sl),(∀u∈Q,u∈P)->acc.length+Q.length<=1000->∃s3' s4',
  bf (gN 3) amF (Q.map en) [.va (RR cs ls),.va (eS P),.ow (.lst acc),s3,s4] = .ok (.nx [.va (RR cs ls),.va (eS P),.ow (.lst (acc++Q.map (u7 P f))),s3',s4'])
 | [],acc,s3,s4,_,_=>⟨s3,s4,by simp only[Po,Mj];rfl⟩
 | u::Q,acc,s3,s4,h,hl=>by
  have hu:=h u Lz;rw[LG]at hl;obtain⟨b,ms,S,D,e⟩:=R.from_ n hu
  have lc:eY (iS (vr 1)) [none,some 4] (gN 0) bT (cl eX (ae (vr 1) (ae (vr 0) ai))) [.va (RR cs ls),.va (eS P),.ow (.lst acc),.va (en u),.va (.dct (ms.map en) (dV ms b))] = .ok (.lst ((P.map en).map (deO f u))):=
   mQ (ts:=P.map en) (kW rfl) (aw (k:=16) (by rw[LA];exact R.pl)) (by simp) λt ht=>by
    obtain⟨v,hv,rfl⟩:=LW.mp ht;refine(aM (ts:=[.dct (ms.map en) (dV ms b),en v]) rfl (Ck D v)).trans ?_
    rw[yi S F hu];rfl
  rw[Ez]at lc
  have st:amF [.va (RR cs ls),.va (eS P),.ow (.lst acc),.va (en u),s4] = .ok (.nx [.va (RR cs ls),.va (eS P),.ow (.lst (acc++ [u7 P f u])),.va (en u),.va (.dct (ms.map en) (dV ms b))]):=by
   refine(ax (Z':=[.va (RR cs ls),.va (eS P),.ow (.lst acc),.va (en u),.va (.dct (ms.map en) (dV ms b))]) (bS (aM (ts:=[(RR cs ls),en u]) rfl e) rfl)).trans ?_
   exact l7 (l:=acc) (aM (ar lc rfl) rf) rfl (by omega)
  obtain⟨a,c,ih⟩:=R.KJ n F Q (acc++ [u7 P f u]) (.va (en u)) (.va (.dct (ms.map en) (dV ms b))) (λw hw=>h w (Lw _ hw)) (by rw[LF];simp only[LG,PQ];omega)
  refine⟨a,c,?_⟩
  rw[Lx,cK (Z1:=[.va (RR cs ls),.va (eS P),.ow (.lst acc),.va (en u),s4]) rfl st,ih,L0]
  rfl
theorem Rd.Lo (R:Rd cs ls L P)(n:cM L){f:di N2}(F:gy L P f):gU [(RR cs ls)] = .ok (zd P f):=by
 refine bJ rfl ?_
 show g8 [.va (RR cs ls),.em,.em,.em,.em] =_
 unfold g8;rw[ax (lg (t:=.non) (aM (ts:=[(RR cs ls)]) rfl (R.K4 n)))];rw[ax (Z':=[.va (RR cs ls),.va (eS P),.em,.em,.em]) (bS (aM (ts:=[(RR cs ls)]) rfl R.events) rfl)];rw[ax (Z':=[.va (RR cs ls),.va (eS P),.ow (.lst []),.em,.em]) (mP (by simp))]
 obtain⟨a,c,e⟩:=R.KJ n F P [] .em .em (λ_ z=>z) (by have:=R.pl;simp;omega)
 rw[ax (dC (ts:=P.map en) (kW rfl) e),MJ];exact cz (Eb (o:=.lst (P.map (u7 P f))) rfl (aM (ts:=[.lst (P.map (u7 P f))]) rfl rf) (G9 _ P f))
end
def hB (t:N2->Int)(x:N2×N2×Int):Bool:=decide (t x.2.1 - t x.1<=x.2.2)
section
variable {cs ls:List T}{L:bY N2}{P:List N2}
theorem Rd.pos (R:Rd cs ls L P):0<P.length:=by
 obtain⟨hcl,c1,_⟩:=cL R.g.c
 have e:=congrArg MD R.e;rw[LA]at e;rw[<-e]
 cases cs with
 | nil=>simp at c1
 | cons c cs=>
  obtain⟨x,y,r,rfl,r1,_⟩:=eZ (hcl c Lz);rw[fK,LF,iN]
  show 0<r.length+_
  omega
end
theorem r3:nQ "NoWorld" = .ok (dO 3):=by unfold nQ;rw[if_neg (by decide),if_neg (by decide),if_neg (by decide),if_pos rfl]
section
variable {cs ls:List T}{L:bY N2}{P:List N2}{ns:List Int}{f:di N2}
def G4:List T:=[.non,.tup [.int 0],.tup [.int 9,.int 0],.tup [.int 0,.int 9],.lst [.int 0,.int 0],.tup [.bl true,.int 0],.str "0.0"]
theorem G5 (hc:bj (.tup cs)=true):∀t∈G4,t.pl=true/\aU cs t=false:=λt ht=>by
 unfold G4 at ht;simp only[LH,MC,or_false]at ht;rcases ht with rfl | rfl | rfl | rfl | rfl | rfl | rfl
 ·exact⟨rfl,rfl⟩
 ·exact⟨rfl,rfl⟩
 ·refine⟨rfl,?_⟩
  rw[show aU cs (.tup [.int 9,.int 0])=(decide ((0:Int)<=9)&&decide ((9:Int)<cs.length)&&(decide ((0:Int)<=0)&&decide ((0:Int)<reads cs 9)))from rfl,decide_eq_false (show ¬((9:Int)<cs.length)by have:=(cL hc).2.2;omega)]
  simp
 ·refine⟨rfl,?_⟩
  rw[show aU cs (.tup [.int 0,.int 9])=(decide ((0:Int)<=0)&&decide ((0:Int)<cs.length)&&(decide ((0:Int)<=9)&&decide ((9:Int)<reads cs 0)))from rfl,decide_eq_false (show ¬((9:Int)<reads cs 0)by have:=Dj hc 0;omega)]
  simp
 ·exact⟨rfl,rfl⟩
 ·exact⟨rfl,rfl⟩
 ·exact⟨rfl,rfl⟩
theorem Rd.gw (R:Rd cs ls L P){M:bY N2}(fm:ES M P):(¬cM M/\bA [(RR cs ls),eL M] = .ok .non)\/(cM M/\∃t,Holds M t/\bA [(RR cs ls),eL M] = .ok (tmT P t)):=by
 obtain⟨r,hr,ok⟩:=pU fm R.nd (λv h=>h)
 have begin_:∀{x z:T} {y:Rs Fl},f9 [eL M,eS P] = .ok (.tup [x,z])->((az (eM (tb (o2 fP (vr 3) (cn .non))) (aL (cn .non)) sN) (aL (cl gh (ae (eY (iS (vr 2)) [none,some 3] (gN 0) bT (o2 aZ (o2 bB (vr 1) (vr 0)) (cn (.int 0)))) ai)))) [.va (RR cs ls),.va (eL M),.va (eS P),.va x] =y)->dj [.va (RR cs ls),.va (eL M),.em,.em] =y:=λ{x z y} hs hy=>by
  unfold dj;rw[ax (Z':=[.va (RR cs ls),.va (eL M),.va (eS P),.em]) (bS (aM (ts:=[(RR cs ls)]) rfl R.events) rfl)];rw[ax (Z':=[.va (RR cs ls),.va (eL M),.va (eS P),.va x]) (bS (aD (u:=.int 0) (aM (ts:=[eL M,eS P]) rfl hs) rfl rfl) rfl)];exact hy
 cases r with
 | inr q=>exact .inl ⟨λn=>absurd n (Bar.neg ok),bJ rfl (begin_ hr (gW ((ez (bL (aD (t:=.non) (u:=.non) rfl rfl rfl))).trans rfl)))⟩
 | inl b=>
  obtain⟨ms,D,hr⟩:=hr
  have ok:Settled M P b:=ok
  have htm:∀v∈P,∃w,b v=some (EX b v,w):=λv hv=>by
   obtain⟨d,w,e,_⟩:=ok.least v hv v 0 (.nil v);exact⟨w,by unfold EX;rw[e]⟩
  have hol:=ok.holds fm.ends htm;refine .inr ⟨hol.KP,EX b,hol,bJ rfl (begin_ hr ?_)⟩
  generalize EX b=tm at htm
  have lc:eY (iS (vr 2)) [none,some 3] (gN 0) bT (o2 aZ (o2 bB (vr 1) (vr 0)) (cn (.int 0))) [.va (RR cs ls),.va (eL M),.va (eS P),.va (.dct (ms.map en) (dV ms b))] = .ok (.lst ((P.map en).map (atT tm))):=
   mQ (ts:=P.map en) (kW rfl) (aw (k:=16) (by rw[LA];exact R.pl)) (by simp) λt ht=>by
    obtain⟨v,hv,rfl⟩:=LW.mp ht;obtain⟨w,e⟩:=htm v hv;exact aD (t:=eW (tm v,w)) (u:=.int 0) (aD (t:=.dct (ms.map en) (dV ms b)) (u:=en v) rfl rfl (uf D e)) rfl rfl
  rw[Ms]at lc;rw[ax (Z':=[.va (RR cs ls),.va (eL M),.va (eS P),.va (.dct (ms.map en) (dV ms b))]) ((c8 (bL (aD (t:=.dct (ms.map en) (dV ms b)) (u:=.non) rfl rfl rfl))).trans rfl)];exact cz (aM (ar lc rfl) rfl)
theorem Rd.pick (R:Rd cs ls L P)(hn:ns.length<=63)(k:Nat):∃r v,v∈P/\aA [.scr ns,.int k,.int (P.length:Nat)] = .ok (.int r)/\aZ (eS P) (.int r)= .ok (en v):=by
 have:=R.pos;obtain⟨r,e,r0,r1⟩:=dt ns k (P.length:Nat) hn (by omega)
 obtain⟨t,ht,e2⟩:=sT (l:=P.map en) r0 (by rw[LA];exact r1)
 obtain⟨v,hv,rfl⟩:=LW.mp ht;exact⟨r,v,hv,e,e2⟩
theorem BE {P:List N2}{f:En->Rs T}{Z:En}(h:f Z= .ok (eS P)):cl cI (ae f ai) Z= .ok (.int (P.length:Nat)):=aM (ts:=[eS P]) (ar h rfl) (by show Rs.ok (T.int ((P.map en).length:Nat))=_;rw[LA])
theorem Rd.first (R:Rd cs ls L P):∃a∈P,aZ (eS P) (.int 0)= .ok (en a):=by
 have:=R.pos
 match P,this with
 | a::P',_=>exact⟨a,Lz,BQ (n:=0) (l:=(a::P').map en) rfl⟩
theorem Rd.last (R:Rd cs ls L P):∃a∈P,aZ (eS P) (.int (-1))= .ok (en a):=by
 have hp:=R.pos
 have hne:P≠ []:=RC.mp hp
 have hne2:P.map en≠ []:=λz=>hne (List.map_eq_nil_iff.mp z)
 refine⟨P.getLast hne,List.getLast_mem hne,(Hw (P.map en) hne2).trans ?_⟩
 simp only[Qv,OF,LA]
theorem F8 {i j:Nat}(hi:i<P.length)(hj:j<P.length){a b c:En->Rs T}{Z:En}(ha:a Z= .ok (zd P f))(hb:b Z= .ok (.int (i:Nat)))(hc:c Z= .ok (.int (j:Nat))):o2 aZ (o2 aZ a b) c Z= .ok (oI (f P[i] P[j])):=by
 refine zI (n:=j) (l:=P.map λv=>oI (f P[i] v)) (zI (n:=i) (l:=P.map (u7 P f)) ha hb ?_) hc ?_
 ·rw[LY,LN hi];rfl
 ·rw[LY,LN hj];rfl
end
def Fh (v:N2):List Int:=[v.c,v.k]
theorem xV:∀Q:List N2,Tr.rowsT (Q.map en)=some (Q.map Fh)
 | [] =>rfl
 | v::Q=>by
  show(match lS [.int v.c,.int v.k],Tr.rowsT (Q.map en)with | some ns,some k=>if ns= []then none else some (ns::k) | _,_=>none)=_
  rw[xV Q]
  rfl
theorem xQ {Q:List N2}(h:Q.length<64):oM [.lst (Q.map en)] = .ok (.lst (((Q.map Fh).mergeSort qm).map λns=> .tup (ns.map .int))):=by
 unfold oM;simp only[xV Q];rw[LA,if_pos h]
theorem yk (c k c' k':Int):dg [c,k] [c',k'] =(if c=c' then decide (k<k')else decide (c<c')):=by
 unfold dg dg dg
 by_cases h:c=c'
 ·rw[if_pos h,if_pos h]
  by_cases h2:k=k'
  ·rw[if_pos h2,h2];simp
  ·rw[if_neg h2]
 ·rw[if_neg h,if_neg h]
def Fi (t:T):List Int:=match t with
 | .tup [.int c,.int k] => [c,k]
 | _=> []
theorem Ce:∀(cs:List T) (i:Nat),(fK i cs).Pairwise λa b=>dg (Fi a) (Fi b)=true
 | [],i=>Se
 | x::cs,i=>by
  rw[fK,List.pairwise_append];refine⟨?_,Ce cs (i+1),λa ha b hb=> ?_⟩
  ·unfold mh rng
   rw[Ms,Oj];refine List.pairwise_lt_range.imp ?_
   intro a b hab
   show dg [(i:Int),0+(a:Int)] [(i:Int),0+(b:Int)] =true
   rw[yk,if_pos rfl];exact decide_eq_true (by omega)
  ·unfold mh at ha
   obtain⟨t,ht,rfl⟩:=LW.mp ha;obtain⟨j,rfl,hj⟩:=fw ht;obtain⟨c,k,rfl,h1,_,_⟩:=lV cs (i+1) hb
   show dg [(i:Int),(j:Int)] [(c:Int),(k:Int)] =true
   rw[yk,if_neg (by omega)]
   exact decide_eq_true (by omega)
section
variable {cs ls:List T}{L:bY N2}{P:List N2}{ns:List Int}{f:di N2}
theorem Rd.up (R:Rd cs ls L P):(P.map Fh).Pairwise λa b=>qm a b=true:=by
 have h:=Ce cs 0;rw[R.e,Oj]at h;rw[Oj];refine h.imp λ{a b} hab=> ?_
 have hab:dg (Fh a) (Fh b)=true:=hab;unfold qm
 cases z:dg (Fh b) (Fh a)with
 | false=>rfl
 | true=>have:=lW _ _ _ hab z;rw[lY]at this;cases this
theorem Rd.sorted (R:Rd cs ls L P){Q:List N2}(p:Q.Perm P):oM [.lst (Q.map en)] = .ok (eS P):=by
 rw[xQ (by rw[p.length_eq];have:=R.pl;omega),<-uQ ((p.symm.map Fh)) R.up,Ms]
 rfl
theorem Cd (Q:List N2):(T.lst (Q.map en)).pl=true/\(T.lst (Q.map en)).dep<=60:=by
 refine⟨?_,?_⟩
 ·rw[wZ];exact oV λt ht=>by obtain⟨v,_,rfl⟩:=LW.mp ht;rfl
 ·unfold T.dep
  have:deps (Q.map en)<=5:=ug λt ht=>by obtain⟨v,_,rfl⟩:=LW.mp ht;simp[en,T.dep,deps]
  omega
theorem Hd {l m:List T}(hl:(T.lst l).pl=true)(hm:(T.lst m).pl=true/\(T.lst m).dep<=60)(h:l.length≠m.length):nM (.lst l) (.lst m)= .ok (.bl true):=by
 unfold nM;rw[if_pos (vZ hm.2 (T.Kx _ hl) (T.Kx _ hm.1))]
 show Rs.ok (T.bl (!beqTs l m))=_
 have kx:∀{l m:List T},l.length≠m.length->beqTs l m=false:=by
  intro l
  induction l with
  | nil=>intro m h;cases m with | nil=>exact absurd rfl h | cons _ _=>simp[beqTs]
  | cons t l ih=>intro m h;cases m with | nil=>simp[beqTs] | cons u m=>rw[beqTs,ih (m:=m) (λz=>h (by simp[z]))];simp
 rw[kx h];rfl
theorem Rd.KR (R:Rd cs ls L P){Q:List N2}(h:Q.length<64)(hne:Q.length≠P.length):∃l,oM [.lst (Q.map en)] = .ok (.lst l)/\nM (.lst l) (eS P)= .ok (.bl true):=by
 refine⟨_,xQ h,Hd ?_ (Cd P) ?_⟩
 ·rw[wZ]
  refine oV λt ht=> ?_
  obtain⟨ns,_,rfl⟩:=LW.mp ht;rw[sR];exact oV λt ht=>by obtain⟨i,_,rfl⟩:=LW.mp ht;rfl
 ·rw[LA,List.length_mergeSort,LA,LA];exact hne
def cQ:List N2->bY N2
 | a::b::r=>(b,a,0)::cQ (b::r)
 | _=> []
theorem xX:∀(Q:List N2) (k:Nat) {a b:N2},Q[k]? =some a->Q[k+1]? =some b->(cQ Q)[k]? =some (b,a,0)
 | [],_,_,_,h,_=>by cases h
 | [x],0,_,_,_,h=>by cases h
 | [x],k+1,_,_,h,_=>by cases h
 | x::y::r,0,a,b,h,g=>by cases h;cases g;rfl
 | x::y::r,k+1,a,b,h,g=>by
  show(cQ (y::r))[k]? =_
  exact xX (y::r) k (by simpa using h) (by simpa using g)
theorem iJ:∀Q:List N2,(cQ Q).length=Q.length - 1
 | [] =>rfl
 | [x] =>rfl
 | x::y::r=>by rw[cQ,LG,iJ (y::r)];simp
theorem u9:∀Q:List N2,(Q.zip (Q.drop 1)).map (λp=>((p.2,p.1,0):N2×N2×Int))=cQ Q
 | [] =>rfl
 | [x] =>rfl
 | x::y::r=>by
  have:=u9 (y::r);rw[cQ,<-this]
  rfl
theorem vc {Q:List N2}:∀x∈cQ Q,x.1∈Q/\x.2.1∈Q/\x.2.2=0:=by
 induction Q with
 | nil=>intro x hx;cases hx
 | cons a Q ih=>
  cases Q with
  | nil=>intro x hx;cases hx
  | cons b r=>
   intro x hx;rcases LH.mp hx with rfl | hx
   ·exact⟨by simp,by simp,rfl⟩
   ·obtain⟨h1,h2,h3⟩:=ih x hx
    exact⟨Lw _ h1,Lw _ h2,h3⟩
def riT (Q:List N2)(t:T):T:=match t with
 | .int k=>match(cQ Q)[k.toNat]? with
  | some x=>eB x
  | none=> .non
 | _=> .non
theorem Ga (Q:List N2):(rng 0 ((Q.length - 1:Nat):Int)).map (riT Q)=(cQ Q).map eB:=by
 apply List.ext_getElem?
 intro k;unfold rng;rw[LY,LY,LY]
 by_cases h:k<Q.length - 1
 ·have hk:k<(cQ Q).length:=by rw[iJ];exact h
  have e:(cQ Q)[k]? =some (cQ Q)[k]:=LN hk
  rw[LN (by rw[Nf];omega),RV,e]
  show some (match(cQ Q)[(0+(k:Int)).toNat]? with | some x=>eB x | none=>T.non)=_
  rw[show(0+(k:Int)).toNat=k by omega,e]
  rfl
 ·rw[NO (by rw[Nf];omega),NO (by rw[iJ];omega)]
  rfl
theorem Rd.KZ (R:Rd cs ls L P){Q:List N2}(p:Q.Perm P):ES (L++cQ Q) P:=by
 have hs:=xU R.bg
 have ll:=R.ll
 have pl:=R.pl
 have hq:Q.length=P.length:=p.length_eq;refine⟨?_,?_,λx hx=> ?_,by omega⟩
 ·rw[LF,iJ];omega
 ·have:((cQ Q).map λx:N2×N2×Int=>x.2.2.natAbs).sum=0:=by
   have:∀l:bY N2,(∀x∈l,x.2.2=0)->(l.map λx:N2×N2×Int=>x.2.2.natAbs).sum=0:=λl=>by
    induction l with
    | nil=>intro _;rfl
    | cons a l ih=>intro h;rw[Lx,Nm,ih λx hx=>h x (Lw _ hx),h a Lz];rfl
   exact this _ λx hx=>(vc x hx).2.2
  unfold size at hs ⊢;rw[Mc,List.sum_append];omega
 ·rcases Mb.mp hx with hx | hx
  ·exact R.f.ends x hx
  ·obtain⟨h1,h2,_⟩:=vc x hx
   exact⟨p.mem_iff.mp h1,p.mem_iff.mp h2⟩
end
def dS (o:Option Int):Bool:=match o with
 | some y=>decide (y<0)
 | none=>false
def jw (o:Option Int):Bool:=match o with
 | some y=>decide (y > 0)
 | none=>true
theorem JJ {g:T->Rs T}{fa:En->Rs T}{Z:En}{c:Str}(ha:fa Z= .err c):o1 g fa Z= .err c:=by unfold o1;rw[ha];rfl
theorem Fw {i:Nat}{o:Option Int}{Z:En}(h:vr i Z= .ok (oI o)):cb (o2 cZ (vr i) (cn .non)) (o2 nu (vr i) (cn (.int 0))) Z= .ok (.bl (dS o)):=by
 cases o with
 | none=>exact tX (aD (t:=.non) (u:=.non) h rfl rfl)
 | some y=>exact(tY (aD (t:=.int y) (u:=.non) h rfl rfl)).trans (aD (t:=.int y) (u:=.int 0) h rfl rfl)
theorem Cj {i:Nat}{o:Option Int}{Z:En}(h:vr i Z= .ok (oI o)):rA (o2 fP (vr i) (cn .non)) (o2 CQ (vr i) (cn (.int 0))) Z= .ok (.bl (jw o)):=by
 cases o with
 | none=>exact tU (aD (t:=.non) (u:=.non) h rfl rfl)
 | some y=>exact(tV (aD (t:=.int y) (u:=.non) h rfl rfl)).trans (aD (t:=.int y) (u:=.int 0) h rfl rfl)
theorem JZ {i:Nat}{o:Option Int}{Z:En}(h:vr i Z= .ok (ngI o)):cb (o2 cZ (vr i) (cn .non)) (o2 CQ (vr i) (cn (.int 0))) Z= .ok (.bl (dS o)):=by
 cases o with
 | none=>exact tX (aD (t:=.non) (u:=.non) h rfl rfl)
 | some y=>
  refine(tY (aD (t:=.int (0 - y)) (u:=.non) h rfl rfl)).trans (aD (t:=.int (0 - y)) (u:=.int 0) h rfl ?_)
  show Rs.ok (T.bl (decide (0 - y > 0)))= .ok (.bl (decide (y<0)))
  congr 2
  exact decide_eq_decide.mpr (by omega)
def word (f:di N2)(a c:N2):Str:=if dS (f c a)then "ahead" else if dS (f a c)then "behind" else if jw (f a c)||jw (f c a)then "open" else "at once"
def qR (f:di N2)(a c:N2):T:=.lst [.bl (dS (f c a)),.bl (jw (f a c)),.bl (!dS (f c a)&& !dS (f a c)),.str (word f a c)]
section
variable {cs ls:List T}{L:bY N2}{P:List N2}{ns:List Int}{f:di N2}
theorem Rd.KB (R:Rd cs ls L P)(n:cM L)(F:gy L P f){a c:N2}(ha:a∈P)(hc:c∈P):aX [RR cs ls,en a,en c] = .ok (.bl (dS (f c a))):=by
 refine bJ rfl ?_
 show d9 [.va (RR cs ls),.va (en a),.va (en c),.em] =_
 unfold d9;rw[ax (Z':=[.va (RR cs ls),.va (en a),.va (en c),.va (ngI (f c a))]) (bS (aM (ts:=[RR cs ls,en a,en c]) rfl (R.K9 n F ha hc)) rfl)];exact cz (JZ rfl)
theorem Rd.KS (R:Rd cs ls L P)(n:cM L)(F:gy L P f){a c:N2}(ha:a∈P)(hc:c∈P):bw [RR cs ls,en a,en c] = .ok (.bl (jw (f a c))):=by
 refine bJ rfl ?_
 show eI [.va (RR cs ls),.va (en a),.va (en c),.em] =_
 unfold eI;rw[ax (Z':=[.va (RR cs ls),.va (en a),.va (en c),.va (oI (f a c))]) (bS (aM (ts:=[RR cs ls,en a,en c]) rfl (R.K0 n F ha hc)) rfl)];exact cz (Cj rfl)
theorem Rd.once (R:Rd cs ls L P)(n:cM L)(F:gy L P f){a c:N2}(ha:a∈P)(hc:c∈P):bK [RR cs ls,en a,en c] = .ok (.bl (!dS (f c a)&& !dS (f a c))):=by
 refine bJ rfl ?_
 exact cz (yH (tW (aM (ts:=[RR cs ls,en a,en c]) rfl (R.KB n F ha hc))) λ_=>tW (aM (ts:=[RR cs ls,en c,en a]) rfl (R.KB n F hc ha)))
theorem Rd.Lr (R:Rd cs ls L P)(n:cM L)(F:gy L P f){a c:N2}(ha:a∈P)(hc:c∈P):ee [RR cs ls,en a,en c] = .ok (.str (word f a c)):=by
 refine bJ rfl ?_
 show iO [.va (RR cs ls),.va (en a),.va (en c)] =_
 unfold iO word
 have s1:=bL (Z:=[.va (RR cs ls),.va (en a),.va (en c)]) (aM (fs:=ae (vr 0) (ae (vr 1) (ae (vr 2) ai))) (ts:=[RR cs ls,en a,en c]) rfl (R.KB n F ha hc))
 have s2:=bL (Z:=[.va (RR cs ls),.va (en a),.va (en c)]) (aM (fs:=ae (vr 0) (ae (vr 2) (ae (vr 1) ai))) (ts:=[RR cs ls,en c,en a]) rfl (R.KB n F hc ha))
 have s3:=k_or (Z:=[.va (RR cs ls),.va (en a),.va (en c)]) (bL (aM (fs:=ae (vr 0) (ae (vr 1) (ae (vr 2) ai))) (ts:=[RR cs ls,en a,en c]) rfl (R.KS n F ha hc))) λ_=>(bL (aM (fs:=ae (vr 0) (ae (vr 2) (ae (vr 1) ai))) (ts:=[RR cs ls,en c,en a]) rfl (R.KS n F hc ha)))
 cases q1:dS (f c a)with
 | true=>rw[q1]at s1;exact gW ((ez s1).trans rfl)
 | false=>
  rw[q1]at s1;rw[ax ((c8 s1).trans rfl)]
  cases q2:dS (f a c)with
  | true=>rw[q2]at s2;exact gW ((ez s2).trans rfl)
  | false=>
   rw[q2]at s2;rw[ax ((c8 s2).trans rfl)]
   cases q3:(jw (f a c)||jw (f c a))with
   | true=>rw[q3]at s3;exact gW ((ez s3).trans rfl)
   | false=>
    rw[q3]at s3;rw[ax ((c8 s3).trans rfl)]
    rfl
theorem Fx {a c:N2}(ha:a∈P)(hc:c∈P):d6 [fL P f,en a,en c] = .ok (qR f a c):=by
 refine bJ rfl ?_
 show lx [.va (fL P f),.va (en a),.va (en c),.em,.em,.em,.em,.em,.em] =_
 unfold lx;rw[ax (Z':=[.va (fL P f),.va (en a),.va (en c),.va (oI (f a c)),.em,.em,.em,.em,.em]) (bS (sj (P:=P) (f:=f) (u:=a) (v:=c) rfl rfl rfl ha hc) rfl)];rw[ax (Z':=[.va (fL P f),.va (en a),.va (en c),.va (oI (f a c)),.va (oI (f c a)),.em,.em,.em,.em]) (bS (sj (P:=P) (f:=f) (u:=c) (v:=a) rfl rfl rfl hc ha) rfl)];rw[ax (Z':=[.va (fL P f),.va (en a),.va (en c),.va (oI (f a c)),.va (oI (f c a)),.va (.bl (dS (f c a))),.em,.em,.em]) (bS (Fw rfl) rfl)]
 rw[ax (Z':=[.va (fL P f),.va (en a),.va (en c),.va (oI (f a c)),.va (oI (f c a)),.va (.bl (dS (f c a))),.va (.bl (dS (f a c))),.em,.em]) (bS (Fw rfl) rfl)]
 have ap:rA (o2 fP (vr 3) (cn .non)) (rA (o2 CQ (vr 3) (cn (.int 0))) (rA (o2 fP (vr 4) (cn .non)) (o2 CQ (vr 4) (cn (.int 0))))) [.va (fL P f),.va (en a),.va (en c),.va (oI (f a c)),.va (oI (f c a)),.va (.bl (dS (f c a))),.va (.bl (dS (f a c))),.em,.em] = .ok (.bl (jw (f a c)||jw (f c a))):=by
  have e4:=Cj (i:=4) (o:=f c a) (Z:=[.va (fL P f),.va (en a),.va (en c),.va (oI (f a c)),.va (oI (f c a)),.va (.bl (dS (f c a))),.va (.bl (dS (f a c))),.em,.em]) rfl
  cases f a c with
  | none=>exact tU (aD (t:=.non) (u:=.non) rfl rfl rfl)
  | some y=>exact(tV (aD (t:=.int y) (u:=.non) rfl rfl rfl)).trans (Hs (aD (t:=.int y) (u:=.int 0) rfl rfl rfl) λ_=>e4)
 rw[ax (Z':=[.va (fL P f),.va (en a),.va (en c),.va (oI (f a c)),.va (oI (f c a)),.va (.bl (dS (f c a))),.va (.bl (dS (f a c))),.va (.bl (jw (f a c)||jw (f c a))),.em]) (bS ap rfl)]
 have wd:t9 (tb (vr 5)) (cn (.str "ahead")) (t9 (tb (vr 6)) (cn (.str "behind")) (t9 (tb (vr 7)) (cn (.str "open")) (cn (.str "at once")))) [.va (fL P f),.va (en a),.va (en c),.va (oI (f a c)),.va (oI (f c a)),.va (.bl (dS (f c a))),.va (.bl (dS (f a c))),.va (.bl (jw (f a c)||jw (f c a))),.em] = .ok (.str (word f a c)):=by
  unfold word;refine(ju (bL rfl)).trans ?_
  cases dS (f c a)with
  | true=>rfl
  | false=>
   refine(ju (bL rfl)).trans ?_
   cases dS (f a c)with
   | true=>rfl
   | false=>
    refine(ju (bL rfl)).trans ?_
    cases jw (f a c)||jw (f c a) <;> rfl
 rw[ax (Z':=[.va (fL P f),.va (en a),.va (en c),.va (oI (f a c)),.va (oI (f c a)),.va (.bl (dS (f c a))),.va (.bl (dS (f a c))),.va (.bl (jw (f a c)||jw (f c a))),.va (.str (word f a c))]) (bS wd rfl)]
 exact cz (gf (ar rfl (ar (Cj rfl) (ar (yH (tW rfl) λ_=>tW rfl) rfl))) (aw (k:=4) (by simp)))
def Ag (cs ls:List T)(P:List N2)(f:di N2)(acc:List T)(s4 s5 s6 s7:Sl):En:=[.va (RR cs ls),.va (zd P f),.va (eS P),.ow (.lst acc),s4,s5,s6,s7]
abbrev spI:En->Rs Fl:=(eM (qT (tb (o2 cZ (o2 aZ (o2 aZ (vr 1) (vr 6)) (vr 4)) (cn .non))) (tb (o2 nu (o2 aZ (o2 aZ (vr 1) (vr 6)) (vr 4)) (cn (.int 0))))) (g9 3 (aO (ae (vr 5) (ae (vr 7) ai)))) sN)
def pairsOf (f:di N2)(a:N2)(Q:List N2):List T:=(Q.filter λc=>dS (f c a)).map λc=> .tup [en a,en c]
theorem Fb {i:Nat}(hi:i<P.length)(pl:P.length<=16):∀(Q:List N2) (j:Nat) (acc:List T) (s6 s7:Sl),P.drop j=Q->acc.length+Q.length<=1000->∃s6' s7',
  bf (gT 2 (eF (gN 6) (eF (gN 7) ly))) spI (cp j (Q.map en)) (Ag cs ls P f acc (.va (.int (i:Nat))) (.va (en P[i])) s6 s7)= .ok (.nx (Ag cs ls P f (acc++pairsOf f P[i] Q) (.va (.int (i:Nat))) (.va (en P[i])) s6' s7'))
 | [],j,acc,s6,s7,_,_=>⟨s6,s7,by unfold pairsOf;simp only[Po,Tz,Mj];rfl⟩
 | c::Q,j,acc,s6,s7,hd,hl=>by
  have hj:P[j]? =some c:=by rw[<-Q8,hd];rfl
  obtain⟨hj',ej⟩:=LM.mp hj
  rw[LG]at hl
  have st:∃acc',acc'=(acc++pairsOf f P[i] [c])/\acc'.length<=acc.length+1/\spI (Ag cs ls P f acc (.va (.int (i:Nat))) (.va (en P[i])) (.va (.int (j:Nat))) (.va (en c)))= .ok (.nx (Ag cs ls P f acc' (.va (.int (i:Nat))) (.va (en P[i])) (.va (.int (j:Nat))) (.va (en c)))):=by
   have ev:o2 aZ (o2 aZ (vr 1) (vr 6)) (vr 4) (Ag cs ls P f acc (.va (.int (i:Nat))) (.va (en P[i])) (.va (.int (j:Nat))) (.va (en c)))= .ok (oI (f c P[i])):=by
    rw[<-ej];exact F8 hj' hi rfl rfl rfl
   unfold pairsOf
   cases q:f c P[i]with
   | none=>
    rw[q]at ev
    refine⟨acc,by simp[q,dS],by omega,(c8 (BV (bL (aD (t:=.non) (u:=.non) ev rfl rfl)))).trans rfl⟩
   | some y=>
    rw[q]at ev
    have t1:=xu (bL (aD (g:=cZ) (fb:=cn .non) (t:=.int y) (u:=.non) ev rfl rfl)) (bL (aD (g:=nu) (fb:=cn (.int 0)) (t:=.int y) (u:=.int 0) ev rfl rfl))
    replace t1:_=Rs.ok (decide (y<0)):=t1
    by_cases hy:y<0
    ·rw[decide_eq_true hy]at t1
     refine⟨acc++ [.tup [en P[i],en c]],by simp[q,dS,hy],by simp,(ez t1).trans (l7 (l:=acc) (p2 rfl rfl) rfl (by omega))⟩
    ·rw[decide_eq_false hy]at t1
     exact⟨acc,by simp[q,dS,hy],by omega,(c8 t1).trans rfl⟩
  obtain⟨acc',ea,la,st⟩:=st;obtain⟨a,b,ih⟩:=Fb hi pl Q (j+1) acc' (.va (.int (j:Nat))) (.va (en c)) (by rw[<-Rp,hd];rfl) (by omega)
  refine⟨a,b,?_⟩
  have g:gT 2 (eF (gN 6) (eF (gN 7) ly)) (.tup [.int (j:Nat),en c]) (Ag cs ls P f acc (.va (.int (i:Nat))) (.va (en P[i])) s6 s7)= .ok (Ag cs ls P f acc (.va (.int (i:Nat))) (.va (en P[i])) (.va (.int (j:Nat))) (.va (en c))):=rfl;rw[Lx,cp,cK g st,ih,ea,L0]
  have:pairsOf f P[i] [c] ++pairsOf f P[i] Q=pairsOf f P[i] (c::Q):=by unfold pairsOf;rw[<-Mc,<-List.filter_append];rfl
  rw[this]
abbrev spO:En->Rs Fl:=(dP (iE (ae (vr 2) ai)) (gT 2 (eF (gN 6) (eF (gN 7) ly))) spI)
theorem rz (f:di N2)(a:N2)(Q:List N2):(pairsOf f a Q).length<=Q.length:=by unfold pairsOf;rw[LA];exact List.length_filter_le _ _
theorem AF (pl:P.length<=16):∀(Q:List N2) (i:Nat) (acc:List T) (s4 s5 s6 s7:Sl),P.drop i=Q->acc.length+16*Q.length<=900->∃s4' s5' s6' s7',
  bf (gT 2 (eF (gN 4) (eF (gN 5) ly))) spO (cp i (Q.map en)) (Ag cs ls P f acc s4 s5 s6 s7)= .ok (.nx (Ag cs ls P f (acc++Q.flatMap λa=>pairsOf f a P) s4' s5' s6' s7'))
 | [],i,acc,s4,s5,s6,s7,_,_=>⟨s4,s5,s6,s7,by simp only[QJ,Mj];rfl⟩
 | c::Q,i,acc,s4,s5,s6,s7,hd,hl=>by
  have hi:P[i]? =some c:=by rw[<-Q8,hd];rfl
  obtain⟨hi',ei⟩:=LM.mp hi
  rw[LG]at hl;obtain⟨a6,a7,st⟩:=Fb (cs:=cs) (ls:=ls) (f:=f) hi' pl P 0 acc s6 s7 rfl (by omega)
  rw[ei]at st
  have hlen:=rz f c P;obtain⟨b4,b5,b6,b7,ih⟩:=AF pl Q (i+1) (acc++pairsOf f c P) (.va (.int (i:Nat))) (.va (en c)) a6 a7 (by rw[<-Rp,hd];rfl) (by rw[LF];omega)
  refine⟨b4,b5,b6,b7,?_⟩
  have g:gT 2 (eF (gN 4) (eF (gN 5) ly)) (.tup [.int (i:Nat),en c]) (Ag cs ls P f acc s4 s5 s6 s7)= .ok (Ag cs ls P f acc (.va (.int (i:Nat))) (.va (en c)) s6 s7):=rfl;rw[Lx,cp,cK g (dC (yE (l:=P.map en) rfl) st),ih,L0,Ng]
def gi (P:List N2)(f:di N2):List T:=P.flatMap λa=>pairsOf f a P
theorem Rd.K5 (R:Rd cs ls L P)(n:cM L)(F:gy L P f):cS [RR cs ls] = .ok (.lst (gi P f)):=by
 refine bJ rfl ?_
 show fD [.va (RR cs ls),.em,.em,.em,.em,.em,.em,.em] =_
 unfold fD;rw[ax (Z':=[.va (RR cs ls),.va (zd P f),.em,.em,.em,.em,.em,.em]) (bS (aM (ts:=[RR cs ls]) rfl (R.Lo n F)) rfl)];rw[ax (Z':=[.va (RR cs ls),.va (zd P f),.va (eS P),.em,.em,.em,.em,.em]) (bS (aM (ts:=[RR cs ls]) rfl R.events) rfl)];rw[ax (Z':=Ag cs ls P f [] .em .em .em .em) (mP (by simp))]
 obtain⟨b4,b5,b6,b7,e⟩:=AF (cs:=cs) (ls:=ls) (f:=f) R.pl P 0 [] .em .em .em .em rfl (by have:=R.pl;simp;omega)
 rw[MJ]at e;rw[ax (dC (yE (l:=P.map en) rfl) e)]
 rfl
theorem Rd.KQ (R:Rd cs ls L P)(l:List T)(s3:Sl):∀(Q:List N2) (s2:Sl),(∀v∈Q,v∈P)->∃s2',bf (gN 2) (uD (cl cw (ae (vr 0) (ae (vr 2) ai)))) (Q.map en) [.va (RR cs ls),.va (.lst l),s2,s3] = .ok (.nx [.va (RR cs ls),.va (.lst l),s2',s3])
 | [],s2,_=>⟨s2,rfl⟩
 | v::Q,s2,h=>by
  obtain⟨a,ih⟩:=R.KQ l s3 Q (.va (en v)) λw hw=>h w (Lw _ hw)
  refine⟨a,?_⟩
  have g:gN 2 (en v) [.va (RR cs ls),.va (.lst l),s2,s3] = .ok [.va (RR cs ls),.va (.lst l),.va (en v),s3]:=rfl;rw[Lx,cK g (lg (t:=.non) (aM (ts:=[RR cs ls,en v]) rfl (nZ R.g rfl (R.ev (h v Lz))))),ih]
theorem Rd.K2 (R:Rd cs ls L P){Q:List N2}(hq:∀v∈Q,v∈P)(h:Q.length<64)(hne:Q.length≠P.length):bQ [RR cs ls,.lst (Q.map en)] = .ok (.bl false):=by
 refine bJ rfl ?_
 show dy [.va (RR cs ls),.va (.lst (Q.map en)),.em,.em] =_
 unfold dy;rw[ax (lg (t:=.non) (aM (ts:=[RR cs ls]) rfl (gS R.g.p R.g.ok)))];obtain⟨s2,e⟩:=R.KQ (Q.map en) .em Q .em hq;rw[ax (dC (kW rfl) e)];obtain⟨l,e1,e2⟩:=R.KR h hne;exact gW ((ez (bL (aD (t:=.lst l) (u:=eS P) (aM (ts:=[.lst (Q.map en)]) rfl e1) (aM (ts:=[RR cs ls]) rfl R.events) e2))).trans rfl)
theorem Rd.fits (R:Rd cs ls L P){Q:List N2}(p:Q.Perm P):(¬cM (L++cQ Q)/\bQ [RR cs ls,.lst (Q.map en)] = .ok (.bl false))\/(cM (L++cQ Q)/\bQ [RR cs ls,.lst (Q.map en)] = .ok (.bl true)):=by
 have hql:Q.length<=16:=by rw[p.length_eq];exact R.pl
 have hpos:0<Q.length:=by rw[p.length_eq];exact R.pos
 have wrap:∀{w:T} {b:Bool},bA [RR cs ls,eL (L++cQ Q)] = .ok w->cZ w .non= .ok (.bl b)->bQ [RR cs ls,.lst (Q.map en)] = .ok (.bl b):=λ{w b} hw hb=>by
  refine bJ rfl ?_
  show dy [.va (RR cs ls),.va (.lst (Q.map en)),.em,.em] =_
  unfold dy;rw[ax (lg (t:=.non) (aM (ts:=[RR cs ls]) rfl (gS R.g.p R.g.ok)))];obtain⟨s2,e⟩:=R.KQ (Q.map en) .em Q .em λv hv=>p.mem_iff.mp hv
  rw[ax (dC (kW rfl) e)];rw[ax (Z':=[.va (RR cs ls),.va (.lst (Q.map en)),s2,.em]) ((c8 (bL (aD (t:=eS P) (u:=eS P) (aM (ts:=[.lst (Q.map en)]) rfl (R.sorted p)) (aM (ts:=[RR cs ls]) rfl R.events) (iX (Cd P).1 (Cd P).2)))).trans rfl)]
  have ln:cl cI (ae (vr 1) ai) [.va (RR cs ls),.va (.lst (Q.map en)),s2,.em] = .ok (.int (Q.length:Nat)):=aM (ts:=[.lst (Q.map en)]) rfl (by show Rs.ok (T.int ((Q.map en).length:Nat))=_;rw[LA])
  have lc:eY (iR (ae (o2 fh (cl cI (ae (vr 1) ai)) (cn (.int 1))) ai)) [none,some 1] (gN 0) bT (aO (ae (o2 aZ (vr 1) (o2 aY (vr 0) (cn (.int 1)))) (ae (o2 aZ (vr 1) (vr 0)) (ae (cn (.int 0)) ai)))) [.va (RR cs ls),.va (.lst (Q.map en)),s2,.em] = .ok (.lst ((rng 0 ((Q.length - 1:Nat):Int)).map (riT Q))):=
   mQ (ts:=rng 0 ((Q.length - 1:Nat):Int)) (zM (j:=((Q.length - 1:Nat):Int)) (ar (aD (t:=.int (Q.length:Nat)) (u:=.int 1) ln rfl (by show Rs.ok (T.int ((Q.length:Int) - 1))=_;congr 2;omega)) rfl) (by omega) (by omega)) (aw (k:=16) (by rw[hY];omega)) (by simp) λt ht=>by
    obtain⟨k,rfl,hk⟩:=fw ht
    have hk':k+1<Q.length:=by omega
    have e1:Q[k]? =some Q[k]:=LN (by omega)
    have e2:Q[k+1]? =some Q[k+1]:=LN hk'
    have er:=xX Q k e1 e2
    have:riT Q (.int (k:Nat))=eB (Q[k+1],Q[k],0):=by
     show(match(cQ Q)[((k:Nat):Int).toNat]? with | some x=>eB x | none=>T.non)=_
     rw[MM,er]
    rw[this];exact cJ (ar (BR (n:=k+1) (l:=Q.map en) rfl (aD (t:=.int (k:Nat)) (u:=.int 1) rfl rfl rfl) (by rw[LY,e2];rfl)) (ar (BR (n:=k) (l:=Q.map en) rfl rfl (by rw[LY,e1];rfl)) rfl)) (aw (k:=3) (by simp))
  rw[Ga]at lc;rw[ax (Z':=[.va (RR cs ls),.va (.lst (Q.map en)),s2,.va (eL (cQ Q))]) (bS lc rfl)];refine cz (aD (t:=w) (u:=.non) (aM (ts:=[RR cs ls,eL (L++cQ Q)]) (ar rfl (ar (aD (t:=eL L) (u:=eL (cQ Q)) (aM (ts:=[RR cs ls]) rfl R.bounds) rfl ?_) rfl)) hw) rfl hb)
  unfold eL;rw[jb _ _ (by rw[LF,LA,LA,iJ];have:=R.ll;omega),Mc]
 rcases R.gw (R.KZ p)with⟨n2,e⟩ | ⟨n2,t,h,e⟩
 ·exact .inl ⟨n2,wrap e rfl⟩
 ·exact .inr ⟨n2,wrap e rfl⟩
end
def Kj (k:Nat)(R t u:T):Rs T:=match k with
 | 0=>aX [R,t,u]
 | 1=>bw [R,t,u]
 | 2=>bK [R,t,u]
 | 3=>ee [R,t,u]
 | 4=>cS [R]
 | _=>bQ [R,t]
abbrev Ij:En->Rs Fl:=(az (eM (tb (o2 nu (vr 0) (cn (.int 4)))) (aL (wN [aX,bw,bK,ee] (vr 0) (ae (vr 1) (ae (vr 2) (ae (vr 3) ai))))) sN) (aL (t9 (tb (o2 qQ (vr 0) (cn (.int 4)))) (cl cS (ae (vr 1) ai)) (cl bQ (ae (vr 1) (ae (vr 2) ai))))))
def F6 (x:Rs T):Rs Fl:=match x with
 | .ok r=> .ok (.rt r)
 | .err e=> .err e
 | .bad=> .bad
theorem AO {fa:En->Rs T}{Z:En}{x:Rs T}(h:fa Z=x):aL fa Z=F6 x:=by
 unfold aL F6;rw[h];cases x <;> rfl
theorem F2 {F H:En->Rs Fl}{Z:En}{x:Rs T}(h:F Z=F6 x):az F H Z=F6 x:=by
 unfold az;rw[h];cases x <;> rfl
theorem Au {k:Nat}(hk:k<6)(R t u:T):Ij [.va (.int (k:Nat)),.va R,.va t,.va u,.em] =F6 (Kj k R t u):=by
 have lo:∀{g:List T->Rs T},k<4->[aX,bw,bK,ee][k]? =some g->Ij [.va (.int (k:Nat)),.va R,.va t,.va u,.em] =F6 (g [R,t,u]):=λ{g} h3 hg=>by
  have c:tb (o2 nu (vr 0) (cn (.int 4))) [.va (.int (k:Nat)),.va R,.va t,.va u,.em] = .ok true:=bL (aD (t:=.int (k:Nat)) (u:=.int 4) rfl rfl (by show Rs.ok (T.bl (decide ((k:Int)<4)))=_;rw[decide_eq_true (by omega)]))
  exact F2 ((ez c).trans (AO (Hr (i:=k) rfl hg rfl rfl)))
 have hi:∀{x:Rs T},¬k<4->t9 (tb (o2 qQ (vr 0) (cn (.int 4)))) (cl cS (ae (vr 1) ai)) (cl bQ (ae (vr 1) (ae (vr 2) ai))) [.va (.int (k:Nat)),.va R,.va t,.va u,.em] =x->Ij [.va (.int (k:Nat)),.va R,.va t,.va u,.em] =F6 x:=λ{x} h3 hx=>by
  have c:tb (o2 nu (vr 0) (cn (.int 4))) [.va (.int (k:Nat)),.va R,.va t,.va u,.em] = .ok false:=bL (aD (t:=.int (k:Nat)) (u:=.int 4) rfl rfl (by show Rs.ok (T.bl (decide ((k:Int)<4)))=_;rw[decide_eq_false (by omega)]))
  exact(ax ((c8 c).trans rfl)).trans (AO hx)
 match k,hk with
 | 0,_=>exact lo (g:=aX) (by omega) rfl
 | 1,_=>exact lo (g:=bw) (by omega) rfl
 | 2,_=>exact lo (g:=bK) (by omega) rfl
 | 3,_=>exact lo (g:=ee) (by omega) rfl
 | 4,_=>exact hi (by omega) ((ju (p:=true) (bL (aD (t:=.int 4) (u:=.int 4) rfl rfl (og rfl (by simp[T.dep]))))).trans rfl)
 | 5,_=>exact hi (by omega) ((ju (p:=false) (bL (aD (t:=.int 5) (u:=.int 4) rfl rfl rfl))).trans rfl)
theorem iU {k:Nat}(hk:k<6){R t u r:T}(h:Kj k R t u= .ok r):aF [.int (k:Nat),R,t,u] = .ok r:=by
 have e:=Au hk R t u;rw[h]at e;exact bJ rfl (JG (F:=Ij) (k:=.rt r) e)
theorem nW {k:Nat}(hk:k<6){R t u r:T}{e:Str}(h:Kj k R t u= .err e)(hr:nQ e= .ok r):aF [.int (k:Nat),R,t,u] = .ok r:=by
 have e:=Au hk R t u;rw[h]at e;exact bJ rfl (Hq (F:=Ij) e hr)
theorem F4 {R t u:T}{e:Str}(h:aP [R,u,t] = .err e):aX [R,t,u] = .err e:=by
 refine dh rfl ?_
 show d9 [.va R,.va t,.va u,.em] =_
 unfold d9;exact gn (yG (aM (ts:=[R,t,u]) rfl (lb_e h)))
theorem ma_e {R t u:T}{e:Str}(h:aP [R,t,u] = .err e):bw [R,t,u] = .err e:=by
 refine dh rfl ?_
 show eI [.va R,.va t,.va u,.em] =_
 unfold eI;exact gn (yG (aM (ts:=[R,t,u]) rfl h))
theorem mo_e {R t u:T}{e:Str}(h:aP [R,u,t] = .err e):bK [R,t,u] = .err e:=dh rfl (xt (Ee (JJ (aM (ts:=[R,t,u]) rfl (F4 h)))))
theorem ve_e {R t u:T}{e:Str}(h:aP [R,u,t] = .err e):ee [R,t,u] = .err e:=by
 refine dh rfl ?_
 show iO [.va R,.va t,.va u] =_
 unfold iO;exact gn (BS (Fs (aM (ts:=[R,t,u]) rfl (F4 h))))
theorem Iy {R:T}{e:Str}(h:b8 [R] = .err e):cS [R] = .err e:=by
 have h2:gU [R] = .err e:=by
  refine dh rfl ?_
  show g8 [.va R,.em,.em,.em,.em] =_
  unfold g8;exact gn (nA (aM (ts:=[R]) rfl h))
 refine dh rfl ?_
 show fD [.va R,.em,.em,.em,.em,.em,.em,.em] =_
 unfold fD;exact gn (yG (aM (ts:=[R]) rfl h2))
theorem ub {R t u:T}{e:Str}(h:aP [R,t,u] = .err e)(h2:aP [R,u,t] = .err e){k:Nat}(hk:k<4):Kj k R t u= .err e:=by
 match k,hk with
 | 0,_=>exact F4 h2
 | 1,_=>exact ma_e h
 | 2,_=>exact mo_e h2
 | 3,_=>exact ve_e h2
theorem EI {R t u:T}(hp:R.pl=true)(h:iM R=false){k:Nat}(hk:k<6):aF [.int (k:Nat),R,t,u] = .ok (dO 0):=by
 refine nW hk (e:="NoRecord") ?_ r0
 by_cases h4:k<4
 ·exact ub (zB (J3 hp h)) (zB (J3 hp h)) h4
 ·by_cases h5:k=4
  ·subst h5;exact Iy (Hb hp h)
  ·have:k=5:=by omega
   subst this
   show bQ [R,t] =_
   refine dh rfl ?_
   show dy [.va R,.va t,.em,.em] =_
   unfold dy;exact gn (nA (aM (ts:=[R]) rfl (mL hp h)))
section
variable {cs ls:List T}{L:bY N2}{P:List N2}{ns:List Int}{f:di N2}
theorem Rd.no1 (R:Rd cs ls L P){a:N2}(ha:a∈P){t:T}(hp:t.pl=true)(h:aU cs t=false){k:Nat}(hk:k<4):aF [.int (k:Nat),RR cs ls,t,en a] = .ok (dO 1):=
 nW (by omega) (e:="NoEvent") (ub (zB (R.Lm hp h)) (zB (R.Ll ha hp h)) hk) r1
theorem Rd.no2 (R:Rd cs ls L P){a:N2}(ha:a∈P){t:T}(hp:t.pl=true)(h:aU cs t=false){k:Nat}(hk:k<4):aF [.int (k:Nat),RR cs ls,en a,t] = .ok (dO 1):=
 nW (by omega) (e:="NoEvent") (ub (zB (R.Ll ha hp h)) (zB (R.Lm hp h)) hk) r1
theorem Rd.KY (R:Rd cs ls L P)(n:¬ cM L){a c:N2}(ha:a∈P)(hc:c∈P){k:Nat}(hk:k<5):aF [.int (k:Nat),RR cs ls,en a,en c] = .ok (dO 3):=by
 refine nW (by omega) (e:="NoWorld") ?_ r3
 have w:=R.now n
 by_cases h4:k<4
 ·exact ub (Jw (R.KO ha hc) w) (Jw (R.KO hc ha) w) h4
 ·have:k=4:=by omega
  subst this;exact Iy w
def Kk (f:di N2)(a c:N2)(t:T):T:=match t with
 | .int k=>(match k.toNat with
  | 0=> .bl (dS (f c a))
  | 1=> .bl (jw (f a c))
  | 2=> .bl (!dS (f c a)&& !dS (f a c))
  | _=> .str (word f a c))
 | _=> .non
theorem Cu (f:di N2)(a c:N2):T.lst ((rng 0 4).map (Kk f a c))=qR f a c:=rfl
theorem Rd.K3 (R:Rd cs ls L P)(n:cM L)(F:gy L P f){a c:N2}(ha:a∈P)(hc:c∈P){k:Nat}(hk:k<4):aF [.int (k:Nat),RR cs ls,en a,en c] = .ok (Kk f a c (.int (k:Nat))):=by
 refine iU (by omega) ?_
 match k,hk with
 | 0,_=>exact R.KB n F ha hc
 | 1,_=>exact R.KS n F ha hc
 | 2,_=>exact R.once n F ha hc
 | 3,_=>exact R.Lr n F ha hc
theorem Ct (f:di N2)(a c:N2):(qR f a c).pl=true/\(qR f a c).dep<=60:=⟨rfl,by simp[qR,T.dep,deps]⟩
theorem Jg (a:N2)(Q:List N2):∀t∈pairsOf f a Q,t.pl=true/\t.dep<=5:=λt ht=>by
 unfold pairsOf at ht;obtain⟨c,_,rfl⟩:=LW.mp ht;exact⟨rfl,by simp[en,T.dep,deps]⟩
theorem Fc (P:List N2)(f:di N2):(T.lst (gi P f)).pl=true/\(T.lst (gi P f)).dep<=60:=by
 have h:∀t∈gi P f,t.pl=true/\t.dep<=5:=λt ht=>by
  unfold gi at ht;obtain⟨a,_,ht⟩:=QH.mp ht;exact Jg a P t ht
 refine⟨by rw[wZ];exact oV λt ht=>(h t ht).1,?_⟩
 unfold T.dep
 have:=ug (k:=5) λt ht=>(h t ht).2
 omega
def Ih:List T:=[.tup [.int 1,.int 1,.tup [.int 0,.int 1]]]
def LK:bY N2:=[(⟨0,0⟩,⟨0,1⟩,1),(⟨0,1⟩,⟨0,0⟩,-1)]
def PK:List N2:=[⟨0,0⟩,⟨0,1⟩]
theorem rdK:Rd Ih [] LK PK:=⟨⟨rfl,(λt ht=>by cases ht),by decide,rfl⟩,rfl,rfl,⟨by decide,by decide,by decide,by decide⟩,by decide,by decide,by decide,by unfold big;decide⟩
theorem hoK:Holds LK (λv=>v.k):=λa b k h=>by
 unfold LK at h;simp only[LH,MC,or_false,RI]at h;rcases h with⟨rfl,rfl,rfl⟩ | ⟨rfl,rfl,rfl⟩ <;> simp
theorem noK:cM LK:=hoK.KP
theorem Ic:gy LK PK (table PK LK):=(m9 rdK.f.ends λu _ y h=>Int.not_lt.mp λz=>rg h z noK).2
theorem l0 {a b:N2}{t:N2->Int}{s:Int}(F:gy L P f)(ha:a∈P)(h:Holds L t)(w:Wk L a b s)(e:t b - t a=s):f a b=some s:=by
 obtain⟨y,q,hy⟩:=F.le a ha b s w
 have:=h.walk (F.is a b y q);rw[q];congr 1;omega
theorem fK1:table PK LK ⟨0,0⟩ ⟨0,1⟩=some 1:=l0 Ic (by decide) hoK (Wk.one (by decide)) (by decide)
theorem fK2:table PK LK ⟨0,1⟩ ⟨0,0⟩=some (-1):=l0 Ic (by decide) hoK (Wk.one (by decide)) (by decide)
theorem fK3:table PK LK ⟨0,0⟩ ⟨0,0⟩=some 0:=l0 Ic (by decide) hoK (.nil _) (by decide)
theorem fK4:table PK LK ⟨0,1⟩ ⟨0,1⟩=some 0:=l0 Ic (by decide) hoK (.nil _) (by decide)
theorem spK:gi PK (table PK LK)= [.tup [en ⟨0,0⟩,en ⟨0,1⟩]]:=by
 unfold gi PK pairsOf;simp only[Ng,QJ,QF,Tz];rw[show table [⟨0,0⟩,⟨0,1⟩] LK=table PK LK from rfl]
 simp only[fK1,fK2,fK3,fK4]
 rfl
theorem duK:qR (table PK LK) ⟨0,0⟩ ⟨0,1⟩= .lst [.bl true,.bl true,.bl false,.str "ahead"]:=by
 unfold qR word;rw[fK1,fK2]
 rfl
theorem Er:df [] = .ok (.bl true):=by
 refine bJ rfl ?_
 show fQ [.em,.em] =_
 unfold fQ
 have one:∀{x y:Int},aO (ae (cn (.int x)) (ae (cn (.int y)) ai))=λ_=> .ok (.tup [.int x,.int y]):=λ{x y}=>funext λZ=>p2 rfl rfl
 rw[ax (Z':=[.va (RR Ih []),.em]) (bS (p2 (cJ (ar (cJ (ar rfl (ar rfl (ar (p2 rfl rfl) rfl))) (aw (k:=3) (by simp))) rfl) (aw (k:=1) (by simp))) (cJ rfl (aw (k:=0) (by simp)))) rfl)]
 have lc:eY (iR (ae (cn (.int 4)) ai)) [none,some 0] (gN 0) bT (cl aF (ae (vr 0) (ae (vr 1) (ae (aO (ae (cn (.int 0)) (ae (cn (.int 0)) ai))) (ae (aO (ae (cn (.int 0)) (ae (cn (.int 1)) ai))) ai))))) [.va (RR Ih []),.em] = .ok (.lst ((rng 0 4).map (Kk (table PK LK) ⟨0,0⟩ ⟨0,1⟩))):=
  mQ (ts:=rng 0 4) (zM (j:=4) rfl (by omega) (by omega)) (aw (k:=4) (by rw[show(4:Int)=((4:Nat):Int)from rfl,hY];omega)) (by simp) λt ht=>by
   obtain⟨k,rfl,hk⟩:=fw ht;exact aM (ts:=[.int (k:Nat),RR Ih [],en ⟨0,0⟩,en ⟨0,1⟩]) (ar rfl (ar rfl (ar (p2 rfl rfl) (ar (p2 rfl rfl) rfl)))) (rdK.K3 noK Ic (by decide) (by decide) (by omega))
 rw[Cu,duK]at lc
 have sp:=rdK.K5 noK Ic;rw[spK]at sp;rw[ax (Z':=[.va (RR Ih []),.va (.lst [.bl true,.bl true,.bl false,.str "ahead",.lst [.tup [en ⟨0,0⟩,en ⟨0,1⟩]]])]) (bS (aD (t:=.lst [.bl true,.bl true,.bl false,.str "ahead"]) (u:=.lst [.lst [.tup [en ⟨0,0⟩,en ⟨0,1⟩]]]) lc (gf (ar (aM (ts:=[.int ((4:Nat):Int),RR Ih [],.non,.non]) rfl (iU (k:=4) (by omega) sp)) rfl) (aw (k:=1) (by simp))) (jb _ _ (by simp))) rfl)]
 exact cz (aD (u:=.lst [.bl true,.bl true,.bl false,.str "ahead",.lst [.tup [en ⟨0,0⟩,en ⟨0,1⟩]]]) rfl (gf (ar rfl (ar rfl (ar rfl (ar rfl (ar (gf (ar (p2 (p2 rfl rfl) (p2 rfl rfl)) rfl) (aw (k:=1) (by simp))) rfl))))) (aw (k:=5) (by simp))) (og rfl (by simp[T.dep,deps,en])))
end
theorem HB {i n:Nat}{l:List T}{t:T}{Z:En}(h2:(n:Int)<2 ^ 62)(h3:l.length<sizeLine):B0 i l Z [.int (n:Nat),t] = .ok (.nx (Z.set i (.ow (.lst (l.take n++t::l.drop n))))):=by
 have h1:(0:Int)<=(n:Int):=by omega
 unfold B0;simp only[if_pos (Tf h1 (Tf h2 h3)),MM]
theorem JN {fs:En->Rs (List T)}{Z:En}{i n:Nat}{l:List T}{t:T}(h:fs Z= .ok [.int (n:Nat),t])(hi:Z[i]? =some (.ow (.lst l)))(hn:n<=1000)(hl:l.length<=1000):wV i fs Z= .ok (.nx (Z.set i (.ow (.lst (l.take n++t::l.drop n))))):=by
 unfold wV;rw[hi]
 show(fs Z >>= B0 i l Z)=_
 rw[h,aH];exact HB (Int.lt_of_le_of_lt (b:=1000) (by omega) (by decide)) (by unfold sizeLine;omega)
theorem HY {L M:bY N2}(h:L.length+M.length<=1000):aY (eL L) (eL M)= .ok (eL (L++M)):=by
 unfold eL;rw[jb _ _ (by rw[LF,LA,LA];exact h),Mc]
theorem J5 {Q:List N2}(h:Q.length<=16):aY (.lst (Q.map en)) (.lst ((Q.take 1).map en))= .ok (.lst ((Q++Q.take 1).map en)):=by
 rw[jb _ _ (by rw[LF,LA,LA,MX];omega),Mc]
theorem yv {g:T->En->Rs En}{fe:En->Rs T}{h:T->T}(I:En->Prop):∀(ts:List T) (Z:En),I Z->(∀t∈ts,∀Z,I Z->∃Z1,g t Z= .ok Z1/\I Z1/\fe Z1= .ok (h t))->dJ g bT fe ts Z= .ok (ts.map h)
 | [],_,_,_=>rfl
 | t::r,Z,hI,hf=>by
  obtain⟨Z1,e1,i1,e2⟩:=hf t Lz Z hI
  have ih:=yv I r Z1 i1 λu hu=>hf u (Lw _ hu)
  unfold dJ;simp only[e1,aH,bT,if_true,e2,ih,Lx]
def moT (t:T):T:=match t with
 | .tup [a,b] => .tup [b,a,.int 0]
 | _=> .non
theorem D8 {Q:List N2}{Z:En}(h:vr 5 Z= .ok (.lst (Q.map en)))(hl:Q.length<=16):(eY (iZ (ae (vr 5) (ae (sl (vr 5) (pS (cn (.int 1))) pN) ai))) [none,none] (gT 2 (eF (gN 0) (eF (gN 1) ly))) bT (aO (ae (vr 1) (ae (vr 0) (ae (cn (.int 0)) ai))))) Z= .ok (eL (cQ Q)):=by
 have hd:sl (vr 5) (pS (cn (.int 1))) pN Z= .ok (.lst ((Q.map en).drop 1)):=by rw[yC (lo:=some ((1:Nat):Int)) (hi:=none) h (D9 rfl) rfl,pW]
 have hz:iZ (ae (vr 5) (ae (sl (vr 5) (pS (cn (.int 1))) pN) ai)) Z= .ok (((Q.map en).zip ((Q.map en).drop 1)).map λp=> .tup [p.1,p.2]):=by
  unfold iZ;rw[ar h (ar hd rfl),aH]
  rfl
 unfold eY
 rw[hz,aH,if_pos (aw (k:=16) (by rw[LA,Tt,LA];omega)),show bR [none,none] Z= [.em,.em]from rfl,yv (h:=moT) (λZ=> ∃a b,Z= [a,b]) _ _ ⟨.em,.em,rfl⟩ λt ht Z hh=>by
  obtain⟨a,b,rfl⟩:=hh;obtain⟨p,_,rfl⟩:=LW.mp ht;exact⟨[.va p.1,.va p.2],rfl,⟨_,_,rfl⟩,cJ rfl (aw (k:=3) (by simp))⟩]
 show Rs.ok (T.lst _)=Rs.ok (T.lst _)
 congr 2
 rw[<-u9 Q,Ms,Ms,<-Qu,List.zip_map,Ms]
 rfl
abbrev EA (ns:List Int)(cs ls:List T)(P:List N2)(L:bY N2)(tb:T)(s5 s6 s7 s8 s9 s10 s11 s12 s13 s14:Sl):En:=[.va (.scr ns),.va (RR cs ls),.va (eS P),.va (eL L),.va tb,s5,s6,s7,s8,s9,s10,s11,s12,s13,s14]
section
variable {cs ls:List T}{L:bY N2}{P:List N2}{ns:List Int}{f:di N2}
abbrev W5:En->Rs Fl:=(az (cC (o2 aZ (dD (ae (ln 5 (cl cI (ae (vr 5) ai))) (ae (ln 5 (cl cI (ae (vr 5) ai))) (ae (cn (.int 0)) ai)))) (cl aA (ae (vr 0) (ae (o2 aY (cn (.int 80)) (vr 6)) (ae (cn (.int 3)) ai))))) (gN 8)) (wV 5 (ae (vr 8) (ae (vr 7) ai))))
abbrev E5 (ns:List Int)(s1 s2 s3 s4:Sl)(Q:List N2)(s6 s7 s8:Sl):En:=[.va (.scr ns),s1,s2,s3,s4,.ow (.lst (Q.map en)),s6,s7,s8,.em,.em,.em,.em,.em,.em]
theorem J4 (Q:List N2)(hn:ns.length<=63)(hq:Q.length<=16)(k:Nat)(s1 s2 s3 s4 s7 s8:Sl):∃m:Nat,m<=16/\(o2 aZ (dD (ae (ln 5 (cl cI (ae (vr 5) ai))) (ae (ln 5 (cl cI (ae (vr 5) ai))) (ae (cn (.int 0)) ai)))) (cl aA (ae (vr 0) (ae (o2 aY (cn (.int 80)) (vr 6)) (ae (cn (.int 3)) ai))))) (E5 ns s1 s2 s3 s4 Q (.va (.int (k:Nat))) s7 s8)= .ok (.int (m:Nat)):=by
 obtain⟨d,ed,d0,d1⟩:=dt ns (80+k) 3 hn (by omega)
 have ln:ln 5 (cl cI (ae (vr 5) ai)) (E5 ns s1 s2 s3 s4 Q (.va (.int (k:Nat))) s7 s8)= .ok (.int (Q.length:Nat)):=Eb (o:=.lst (Q.map en)) rfl (aM (ts:=[.lst (Q.map en)]) rfl (by show Rs.ok (T.int ((Q.map en).length:Nat))=_;rw[LA])) rfl
 obtain⟨t,ht,et⟩:=sT (l:=[.int (Q.length:Nat),.int (Q.length:Nat),.int ((0:Nat):Int)]) d0 d1
 have e:=aD (g:=aZ) (gf (ar ln (ar ln (ar (f:=cn (.int 0)) (fs:=ai) rfl rfl))) (aw (k:=3) (by simp))) (aM (fs:=ae (vr 0) (ae (o2 aY (cn (.int 80)) (vr 6)) (ae (cn (.int 3)) ai))) (ts:=[.scr ns,.int ((80+k:Nat):Int),.int 3]) (ar rfl (ar (aD (t:=.int 80) (u:=.int (k:Nat)) rfl rfl rfl) rfl)) ed) et
 simp only[LH,MC,or_false]at ht;rcases ht with rfl | rfl | rfl
 ·exact⟨_,hq,e⟩
 ·exact⟨_,hq,e⟩
 ·exact⟨0,by omega,e⟩
theorem l5 (hn:ns.length<=63)(pl:P.length<=16)(s1 s2 s3 s4:Sl):∀(r:List N2) (k:Nat) (Q:List N2) (s6 s7 s8:Sl),P.drop k=r->Q.Perm (P.take k)->k<=P.length->∃Q' a6 a7 a8,Q'.Perm P ∧
  bf (gT 2 (eF (gN 6) (eF (gN 7) ly))) W5 (cp k (r.map en)) (E5 ns s1 s2 s3 s4 Q s6 s7 s8)= .ok (.nx (E5 ns s1 s2 s3 s4 Q' a6 a7 a8))
 | [],k,Q,s6,s7,s8,hd,hp,hk=>⟨Q,s6,s7,s8,by
  have:P.take k=P:=Nb (by have:=congrArg MD hd;rw[Nx,PQ]at this;omega)
  rw[this]at hp;exact hp,rfl⟩
 | v::r,k,Q,s6,s7,s8,hd,hp,hk=>by
  have hv:P[k]? =some v:=by rw[<-Q8,hd];rfl
  obtain⟨hk',ev⟩:=LM.mp hv
  have hq:Q.length=k:=by rw[hp.length_eq,MX];omega
  obtain⟨m,hm,em⟩:=J4 (ns:=ns) Q hn (by omega) k s1 s2 s3 s4 (.va (en v)) s8
  have st:W5 (E5 ns s1 s2 s3 s4 Q (.va (.int (k:Nat))) (.va (en v)) s8)= .ok (.nx (E5 ns s1 s2 s3 s4 (Q.take m++v::Q.drop m) (.va (.int (k:Nat))) (.va (en v)) (.va (.int (m:Nat))))):=by
   refine(ax (Z':=E5 ns s1 s2 s3 s4 Q (.va (.int (k:Nat))) (.va (en v)) (.va (.int (m:Nat)))) (bS em rfl)).trans ?_
   refine(JN (l:=Q.map en) (n:=m) (t:=en v) rfl rfl (by omega) (by rw[LA];omega)).trans ?_
   rw[<-List.map_take,<-Qu,<-Lx,<-Mc]
   rfl
  obtain⟨Q',a6,a7,a8,p',ih⟩:=l5 hn pl s1 s2 s3 s4 r (k+1) (Q.take m++v::Q.drop m) (.va (.int (k:Nat))) (.va (en v)) (.va (.int (m:Nat))) (by rw[<-Rp,hd];rfl) (by
   rw[List.take_succ_eq_append_getElem hk',ev];refine List.perm_middle.trans ((List.Perm.cons v ?_).trans (List.perm_append_singleton v _).symm)
   rw[Pr];exact hp) (by omega)
  refine⟨Q',a6,a7,a8,p',?_⟩
  have g:gT 2 (eF (gN 6) (eF (gN 7) ly)) (.tup [.int (k:Nat),en v]) (E5 ns s1 s2 s3 s4 Q s6 s7 s8)= .ok (E5 ns s1 s2 s3 s4 Q (.va (.int (k:Nat))) (.va (en v)) s8):=rfl;rw[Lx,cp,cK g st,ih]
abbrev W10:En->Rs Fl:=(az (eM (tb (o2 nM (cl aF (ae (vr 11) (ae (vr 1) (ae (vr 10) (ae (o2 aZ (vr 2) (cn (.int 0))) ai))))) (aO (ae (cn (.str "refused")) (ae (cn (.int 1)) ai))))) (aL (cn (.bl false))) sN) (eM (tb (o2 nM (cl aF (ae (vr 11) (ae (vr 1) (ae (o2 aZ (vr 2) (cn (.int 0))) (ae (vr 10) ai))))) (aO (ae (cn (.str "refused")) (ae (cn (.int 1)) ai))))) (aL (cn (.bl false))) sN))
theorem Rd.w10 (R:Rd cs ls L P){x:T}(hx:x.pl=true)(hv:aU cs x=false){k:Nat}(hk:k<4){Z:En}(h1:vr 1 Z= .ok (RR cs ls))(h2:vr 2 Z= .ok (eS P))(h10:vr 10 Z= .ok x)(h11:vr 11 Z= .ok (.int (k:Nat))):W10 Z= .ok (.nx Z):=by
 obtain⟨a,ha,e⟩:=R.first
 have i0:o2 aZ (vr 2) (cn (.int 0)) Z= .ok (en a):=aD (t:=eS P) (u:=.int 0) h2 rfl e;refine(ax (Z':=Z) ((c8 (bL (aD (t:=dO 1) (u:=dO 1) (aM (ts:=[.int (k:Nat),RR cs ls,x,en a]) (ar h11 (ar h1 (ar h10 (ar i0 rfl)))) (R.no1 ha hx hv hk)) (p2 rfl rfl) (yh 1)))).trans rfl)).trans ?_
 exact(c8 (bL (aD (t:=dO 1) (u:=dO 1) (aM (ts:=[.int (k:Nat),RR cs ls,en a,x]) (ar h11 (ar h1 (ar i0 (ar h10 rfl)))) (R.no2 ha hx hv hk)) (p2 rfl rfl) (yh 1)))).trans rfl
theorem AM {n:Nat}:(rng 0 (n:Int)).length<=n:=by rw[hY];omega
theorem Rd.lc6 (R:Rd cs ls L P){x:T}{Z:En}(h:bR [none,some 1,some 10] Z= [.em,.va (RR cs ls),.va x]):(eY (iR (ae (cn (.int 6)) ai)) [none,some 1,some 10] (gN 0) bT (cl aF (ae (vr 0) (ae (sl (vr 1) pN (pS (cn (.int 1)))) (ae (vr 2) (ae (vr 2) ai)))))) Z= .ok (.lst (LS 6 (dO 0))):=by
 have hp1:(T.tup [.tup cs]).pl=true:=by rw[sR];simp[plS,R.g.parts.1]
 exact mQ (h:=λ_=>dO 0) (ts:=rng 0 6) (zM (j:=6) rfl (by omega) (by omega)) (aw (AM (n:=6)) (by omega)) (by simp) λt ht=>by
  obtain⟨k,rfl,hk⟩:=fw ht;rw[h];exact aM (ts:=[.int (k:Nat),.tup [.tup cs],x,x]) (ar rfl (ar (by rw[k_sl (l:=[.tup cs,.tup ls]) (lo:=none) (hi:=some ((1:Nat):Int)) rfl rfl rfl,wg];rfl) rfl)) (EI hp1 rfl (by omega))
theorem Rd.lc5 (R:Rd cs ls L P)(n:¬ cM L){Z:En}(h:bR [none,some 1,some 2] Z= [.em,.va (RR cs ls),.va (eS P)]):(eY (iR (ae (cn (.int 5)) ai)) [none,some 1,some 2] (gN 0) bT (cl aF (ae (vr 0) (ae (vr 1) (ae (o2 aZ (vr 2) (cn (.int 0))) (ae (o2 aZ (vr 2) (o1 pE (cn (.int 1)))) ai)))))) Z= .ok (.lst (LS 5 (dO 3))):=by
 obtain⟨a,ha,ea⟩:=R.first;obtain⟨b,hb,eb⟩:=R.last
 exact mQ (h:=λ_=>dO 3) (ts:=rng 0 5) (zM (j:=5) rfl (by omega) (by omega)) (aw (AM (n:=5)) (by omega)) (by simp) λt ht=>by
  obtain⟨k,rfl,hk⟩:=fw ht;rw[h];exact aM (ts:=[.int (k:Nat),RR cs ls,en a,en b]) (ar rfl (ar rfl (ar (aD (t:=eS P) (u:=.int 0) rfl rfl ea) (ar (aD (t:=eS P) (u:=.int (-1)) rfl rfl eb) rfl)))) (R.KY n ha hb (by omega))
abbrev W14:En->Rs Fl:=(cC (o2 aY (vr 12) (eY (iS (vr 2)) [none,some 13,some 4] (gN 0) (tb (o2 aZ (cl d6 (ae (vr 2) (ae (vr 1) (ae (vr 0) ai)))) (cn (.int 0)))) (aO (ae (vr 1) (ae (vr 0) ai))))) (gN 12))
abbrev W15:En->Rs Fl:=(az (cC (o2 aZ (vr 2) (cl aA (ae (vr 0) (ae (o2 aY (cn (.int 130)) (o2 bW (cn (.int 2)) (vr 6))) (ae (cl cI (ae (vr 2) ai)) ai))))) (gN 13)) (az (cC (o2 aZ (vr 2) (cl aA (ae (vr 0) (ae (o2 aY (cn (.int 131)) (o2 bW (cn (.int 2)) (vr 6))) (ae (cl cI (ae (vr 2) ai)) ai))))) (gN 14)) (eM (tb (o2 nM (eY (iR (ae (cn (.int 4)) ai)) [none,some 1,some 13,some 14] (gN 0) bT (cl aF (ae (vr 0) (ae (vr 1) (ae (vr 2) (ae (vr 3) ai)))))) (cl d6 (ae (vr 4) (ae (vr 13) (ae (vr 14) ai)))))) (aL (cn (.bl false))) sN)))
def ofP (f:di N2)(a:N2)(t:T):Bool:=match t with
 | .tup [.int c,.int k] =>dS (f ⟨c,k⟩ a)
 | _=>false
def prT (a:N2)(t:T):T:=.tup [en a,t]
theorem DK (f:di N2)(a:N2)(Q:List N2):((Q.map en).filter (ofP f a)).map (prT a)=pairsOf f a Q:=by
 rw[List.filter_map,Ms]
 rfl
theorem lc14 (pl:P.length<=16){a:N2}(ha:a∈P){Z:En}(h2:vr 2 Z= .ok (eS P))(h:bR [none,some 13,some 4] Z= [.em,.va (en a),.va (fL P f)]):(eY (iS (vr 2)) [none,some 13,some 4] (gN 0) (tb (o2 aZ (cl d6 (ae (vr 2) (ae (vr 1) (ae (vr 0) ai)))) (cn (.int 0)))) (aO (ae (vr 1) (ae (vr 0) ai)))) Z= .ok (.lst (pairsOf f a P)):=by
 rw[<-DK]
 exact Ft (ts:=P.map en) (kW h2) (aw (k:=16) (by rw[LA];exact pl)) (by simp) λt ht=>by
  obtain⟨c,hc,rfl⟩:=LW.mp ht;rw[h];exact⟨bL (aD (t:=qR f a c) (u:=.int 0) (aM (ts:=[fL P f,en a,en c]) rfl (Fx ha hc)) rfl rfl),λ_=>p2 rfl rfl⟩
abbrev yW (ns:List Int)(cs ls:List T)(P:List N2)(f:di N2)(s3 s5 s6 s7 s8 s9 s10 s11 s12 s13 s14:Sl):En:=[.va (.scr ns),.va (RR cs ls),.va (eS P),s3,.va (fL P f),s5,s6,s7,s8,s9,s10,s11,s12,s13,s14]
theorem l14 (pl:P.length<=16)(s3 s5 s6 s7 s8 s9 s10 s11 s14:Sl):∀(Q:List N2) (acc:List T) (s13:Sl),(∀v∈Q,v∈P)->acc.length+16*Q.length<=900->∃s13',
  bf (gN 13) W14 (Q.map en) (yW ns cs ls P f s3 s5 s6 s7 s8 s9 s10 s11 (.va (.lst acc)) s13 s14)= .ok (.nx (yW ns cs ls P f s3 s5 s6 s7 s8 s9 s10 s11 (.va (.lst (acc++Q.flatMap λa=>pairsOf f a P))) s13' s14))
 | [],acc,s13,_,_=>⟨s13,by simp only[QJ,Mj];rfl⟩
 | v::Q,acc,s13,h,hl=>by
  rw[LG]at hl
  have hlen:=rz f v P;obtain⟨a,ih⟩:=l14 pl s3 s5 s6 s7 s8 s9 s10 s11 s14 Q (acc++pairsOf f v P) (.va (en v)) (λw hw=>h w (Lw _ hw)) (by rw[LF];omega)
  refine⟨a,?_⟩
  have g:gN 13 (en v) (yW ns cs ls P f s3 s5 s6 s7 s8 s9 s10 s11 (.va (.lst acc)) s13 s14)= .ok (yW ns cs ls P f s3 s5 s6 s7 s8 s9 s10 s11 (.va (.lst acc)) (.va (en v)) s14):=rfl
  have st:W14 (yW ns cs ls P f s3 s5 s6 s7 s8 s9 s10 s11 (.va (.lst acc)) (.va (en v)) s14)= .ok (.nx (yW ns cs ls P f s3 s5 s6 s7 s8 s9 s10 s11 (.va (.lst (acc++pairsOf f v P))) (.va (en v)) s14)):=
   bS (aD (t:=.lst acc) (u:=.lst (pairsOf f v P)) rfl (lc14 pl (h v Lz) rfl rfl) (jb _ _ (by rw[LF];omega))) rfl
  rw[Lx,cK g st,ih,L0,Ng]
theorem Rd.w15 (R:Rd cs ls L P)(hn:ns.length<=63)(n:cM L)(F:gy L P f)(k:Nat)(s3 s5 s7 s8 s9 s10 s11 s12 s13 s14:Sl):∃a13 a14,W15 (yW ns cs ls P f s3 s5 (.va (.int (k:Nat))) s7 s8 s9 s10 s11 s12 s13 s14)= .ok (.nx (yW ns cs ls P f s3 s5 (.va (.int (k:Nat))) s7 s8 s9 s10 s11 s12 a13 a14)):=by
 obtain⟨r1,a,ha,d1,i1⟩:=R.pick hn (130+2*k);obtain⟨r2,c,hc,d2,i2⟩:=R.pick hn (131+2*k);refine⟨.va (en a),.va (en c),?_⟩
 have num:∀(j:Nat) s13 s14,o2 aY (cn (.int (j:Nat))) (o2 bW (cn (.int 2)) (vr 6)) (yW ns cs ls P f s3 s5 (.va (.int (k:Nat))) s7 s8 s9 s10 s11 s12 s13 s14)= .ok (.int ((j+2*k:Nat):Int)):=λj s13 s14=>
  aD (t:=.int (j:Nat)) (u:=.int (2*(k:Int))) rfl (aD (t:=.int 2) (u:=.int (k:Nat)) rfl rfl (kR (by omega) (by omega))) rfl
 refine(ax (Z':=yW ns cs ls P f s3 s5 (.va (.int (k:Nat))) s7 s8 s9 s10 s11 s12 (.va (en a)) s14) (bS (aD (t:=eS P) (u:=.int r1) rfl (aM (ts:=[.scr ns,.int ((130+2*k:Nat):Int),.int (P.length:Nat)]) (ar rfl (ar (num 130 _ _) (ar (BE rfl) rfl))) d1) i1) rfl)).trans ?_
 refine(ax (Z':=yW ns cs ls P f s3 s5 (.va (.int (k:Nat))) s7 s8 s9 s10 s11 s12 (.va (en a)) (.va (en c))) (bS (aD (t:=eS P) (u:=.int r2) rfl (aM (ts:=[.scr ns,.int ((131+2*k:Nat):Int),.int (P.length:Nat)]) (ar rfl (ar (num 131 _ _) (ar (BE rfl) rfl))) d2) i2) rfl)).trans ?_
 have lc:(eY (iR (ae (cn (.int 4)) ai)) [none,some 1,some 13,some 14] (gN 0) bT (cl aF (ae (vr 0) (ae (vr 1) (ae (vr 2) (ae (vr 3) ai)))))) (yW ns cs ls P f s3 s5 (.va (.int (k:Nat))) s7 s8 s9 s10 s11 s12 (.va (en a)) (.va (en c)))= .ok (.lst ((rng 0 4).map (Kk f a c))):=
  mQ (ts:=rng 0 4) (zM (j:=4) rfl (by omega) (by omega)) (aw (AM (n:=4)) (by omega)) (by simp) λt ht=>by
   obtain⟨j,rfl,hj⟩:=fw ht;exact aM (ts:=[.int (j:Nat),RR cs ls,en a,en c]) rfl (R.K3 n F ha hc (by omega))
 rw[Cu]at lc;exact(c8 (bL (aD (t:=qR f a c) (u:=qR f a c) lc (aM (ts:=[fL P f,en a,en c]) rfl (Fx ha hc)) (iX (Ct f a c).1 (Ct f a c).2)))).trans rfl
theorem FW (hn:ns.length<=63):fS [.scr ns] = .ok (.bl true):=by
 obtain⟨cs,ls,er,hc,c3,hs,hl,l6⟩:=HK ns hn 0 5 (by omega)
 obtain⟨hR,mR⟩:=Gb hc hs hl (by omega)
 have g:Good cs ls:=⟨hc,λt ht=>(hl t ht).1,by omega,F1 mR⟩
 obtain⟨L,P,R⟩:=xY g;obtain⟨tb,ht,et⟩:=yN (L:=L) R.nd (by have:=R.pl;omega) R.f.ends
 obtain⟨d,ed,d0,d1⟩:=dt ns 120 7 hn (by omega)
 obtain⟨x,hx,ex⟩:=sT (l:=G4) d0 d1;obtain⟨px,vx⟩:=G5 hc x hx;obtain⟨Q,a6,a7,a8,p,e5⟩:=l5 (ns:=ns) hn R.pl (.va (RR cs ls)) (.va (eS P)) (.va (eL L)) (.va tb) P 0 [] .em .em .em rfl (by simp) (by omega)
 have hq:Q.length=P.length:=p.length_eq
 have hq16:Q.length<=16:=by rw[hq];exact R.pl
 have hqp:=R.pos
 have hl2:L.length+(cQ Q).length<=1000:=by rw[iJ];have:=R.ll;omega
 obtain⟨tb2,ht2,et2⟩:=yN (L:=L++cQ Q) R.nd (by have:=R.pl;omega) (R.KZ p).ends
 have f1:aF [.int 5,RR cs ls,.lst ((Q.drop 1).map en),.non] = .ok (.bl false):=iU (k:=5) (by omega) (R.K2 (λv hv=>p.mem_iff.mp (List.mem_of_mem_drop hv)) (by rw[Nx];omega) (by rw[Nx];omega))
 have f2:aF [.int 5,RR cs ls,.lst ((Q++Q.take 1).map en),.non] = .ok (.bl false):=iU (k:=5) (by omega) (R.K2 (λv hv=>p.mem_iff.mp ((Mb.mp hv).elim id List.mem_of_mem_take)) (by rw[LF,MX];omega) (by rw[LF,MX];omega))
 obtain⟨b,fq,hb2⟩:∃b,aF [.int 5,RR cs ls,.lst (Q.map en),.non] = .ok (.bl b)/\cZ tb2 .non= .ok (.bl b):=by
  rcases R.fits p with⟨n1,e⟩ | ⟨n1,e⟩
  ·rcases ht2 with⟨n2,_⟩ | ⟨_,rfl⟩
   ·exact absurd n2 n1
   ·exact⟨false,iU (k:=5) (by omega) e,rfl⟩
  ·rcases ht2 with⟨_,_,rfl⟩ | ⟨n2,_⟩
   ·exact⟨true,iU (k:=5) (by omega) e,rfl⟩
   ·exact absurd n1 n2
 refine bJ rfl ?_
 show iA [.va (.scr ns),.em,.em,.em,.em,.em,.em,.em,.em,.em,.em,.em,.em,.em,.em] =_
 unfold iA;refine(ax (Z':=[.va (.scr ns),.va (RR cs ls),.em,.em,.em,.em,.em,.em,.em,.em,.em,.em,.em,.em,.em]) (bS (aM (ts:=[.scr ns,.int 0,.int 5]) rfl er) rfl)).trans ?_
 refine(ax (Z':=[.va (.scr ns),.va (RR cs ls),.va (eS P),.em,.em,.em,.em,.em,.em,.em,.em,.em,.em,.em,.em]) (bS (aM (ts:=[.tup cs]) (ar (aD (t:=RR cs ls) (u:=.int 0) rfl rfl (Fu (n:=0) rfl)) rfl) (by rw[v9 cs hc,R.e];rfl)) rfl)).trans ?_
 refine(ax (Z':=[.va (.scr ns),.va (RR cs ls),.va (eS P),.va (eL L),.em,.em,.em,.em,.em,.em,.em,.em,.em,.em,.em]) (bS (aM (ts:=[RR cs ls]) rfl (by rw[zR hc g.l g.n,R.b];rfl)) rfl)).trans ?_
 refine(ax (Z':=(EA ns cs ls P L tb .em .em .em .em .em .em .em .em .em .em)) (bS (aM (ts:=[eS P,eL L]) rfl et) rfl)).trans ?_
 refine(ax (Z':=(EA ns cs ls P L tb (.ow (.lst [])) .em .em .em .em .em .em .em .em .em)) (mP (by simp))).trans ?_
 refine(ax (Z':=(EA ns cs ls P L tb (.ow (.lst (Q.map en))) a6 a7 a8 .em .em .em .em .em .em)) (dC (yE (l:=P.map en) rfl) e5)).trans ?_
 refine(ax (Z':=(EA ns cs ls P L tb (.va (.lst (Q.map en))) a6 a7 a8 (.va (eL (cQ Q))) .em .em .em .em .em)) (yF (bS (D8 (Q:=Q) rfl hq16) rfl))).trans ?_
 refine(ax (Z':=(EA ns cs ls P L tb (.va (.lst (Q.map en))) a6 a7 a8 (.va (eL (cQ Q))) .em .em .em .em .em)) ((c8 (bL (aD (t:=.bl b) (u:=.bl b) (aM (ts:=[.int 5,RR cs ls,.lst (Q.map en),.non]) rfl fq) (aD (t:=tb2) (u:=.non) (aM (ts:=[eS P,eL (L++cQ Q)]) (ar rfl (ar (aD (t:=eL L) (u:=eL (cQ Q)) rfl rfl (HY hl2)) rfl)) et2) rfl hb2) (Ju b)))).trans rfl)).trans ?_
 refine(ax (Z':=(EA ns cs ls P L tb (.va (.lst (Q.map en))) a6 a7 a8 (.va (eL (cQ Q))) .em .em .em .em .em)) ((c8 (vU (bL (aD (t:=.bl false) (u:=.bl false) (aM (ts:=[.int 5,RR cs ls,.lst ((Q.drop 1).map en),.non]) (ar rfl (ar rfl (ar ((yC (lo:=(some 1)) (hi:=none) rfl (D9 rfl) rfl).trans (by rw[show(1:Int)=((1:Nat):Int)from rfl,pW,Qu])) rfl))) f1) rfl (iX rfl (by simp[T.dep])))) (bL (aD (t:=.bl false) (u:=.bl false) (aM (ts:=[.int 5,RR cs ls,.lst ((Q++Q.take 1).map en),.non]) (ar rfl (ar rfl (ar (aD (t:=.lst (Q.map en)) (u:=.lst ((Q.take 1).map en)) rfl ((yC (lo:=none) (hi:=(some 1)) rfl rfl (D9 rfl)).trans (by rw[show(1:Int)=((1:Nat):Int)from rfl,wg,List.map_take])) (J5 hq16)) rfl))) f2) rfl (iX rfl (by simp[T.dep])))))).trans rfl)).trans ?_
 refine(ax (Z':=(EA ns cs ls P L tb (.va (.lst (Q.map en))) a6 a7 a8 (.va (eL (cQ Q))) (.va x) .em .em .em .em)) (bS (aD (t:=.lst [.non,.tup [.int 0],.tup [.int 9,.int 0],.tup [.int 0,.int 9],.lst [.int 0,.int 0],.tup [.bl true,.int 0],.str "0.0"]) (u:=.int d) (gf (ar rfl (ar (cJ rfl (aw (k:=1) (by simp))) (ar (p2 rfl rfl) (ar (p2 rfl rfl) (ar (gf rfl (aw (k:=2) (by simp))) (ar (p2 rfl rfl) rfl)))))) (aw (k:=7) (by simp))) (aM (ts:=[.scr ns,.int 120,.int 7]) rfl ed) ex) rfl)).trans ?_
 obtain⟨Z',lo,a11,rfl⟩:=rG (g:=gN 11) (F:=W10) (λZ=> ∃a11,Z=(EA ns cs ls P L tb (.va (.lst (Q.map en))) a6 a7 a8 (.va (eL (cQ Q))) (.va x) a11 .em .em .em)) (ts:=rng 0 4)
  (λt ht Z hh=>by
   obtain⟨a11,rfl⟩:=hh;obtain⟨k,rfl,hk⟩:=fw ht;exact⟨(EA ns cs ls P L tb (.va (.lst (Q.map en))) a6 a7 a8 (.va (eL (cQ Q))) (.va x) (.va (.int (k:Nat))) .em .em .em),(EA ns cs ls P L tb (.va (.lst (Q.map en))) a6 a7 a8 (.va (eL (cQ Q))) (.va x) (.va (.int (k:Nat))) .em .em .em),rfl,R.w10 px vx (by omega) rfl rfl rfl rfl,_,rfl⟩) (Z:=(EA ns cs ls P L tb (.va (.lst (Q.map en))) a6 a7 a8 (.va (eL (cQ Q))) (.va x) .em .em .em .em)) ⟨_,rfl⟩
 refine(ax (Z':=(EA ns cs ls P L tb (.va (.lst (Q.map en))) a6 a7 a8 (.va (eL (cQ Q))) (.va x) a11 .em .em .em)) (dC (zM (j:=4) rfl (by omega) (by omega)) lo)).trans ?_
 refine(ax (Z':=(EA ns cs ls P L tb (.va (.lst (Q.map en))) a6 a7 a8 (.va (eL (cQ Q))) (.va x) a11 .em .em .em)) ((c8 (bL (aD (t:=.lst (LS 6 (dO 0))) (u:=.lst (LS 6 (dO 0))) (R.lc6 rfl) (aD (t:=.lst [.tup [.str "refused",.int 0]]) (u:=.int 6) (gf (ar (p2 rfl rfl) rfl) (aw (k:=1) (by simp))) rfl (n4 [dO 0] 6 ⟨by omega,by omega,aw (k:=6) (by simp)⟩)) (iX rfl (by simp[T.dep,deps,dO,LS]))))).trans rfl)).trans ?_
 rcases ht with⟨n,F,rfl⟩ | ⟨n,rfl⟩
 ·refine(ax (Z':=(EA ns cs ls P L (fL P (table P L)) (.va (.lst (Q.map en))) a6 a7 a8 (.va (eL (cQ Q))) (.va x) a11 .em .em .em)) ((c8 (bL (aD (t:=fL P (table P L)) (u:=.non) rfl rfl rfl))).trans rfl)).trans ?_
  refine(ax (Z':=(EA ns cs ls P L (fL P (table P L)) (.va (.lst (Q.map en))) a6 a7 a8 (.va (eL (cQ Q))) (.va x) a11 (.va (.lst [])) .em .em)) (bS (gf rfl (aw (k:=0) (by simp))) rfl)).trans ?_
  obtain⟨b13,e14⟩:=l14 (ns:=ns) (cs:=cs) (ls:=ls) (f:=table P L) R.pl (.va (eL L)) (.va (.lst (Q.map en))) a6 a7 a8 (.va (eL (cQ Q))) (.va x) a11 .em P [] .em (λ_ z=>z) (by have:=R.pl;simp;omega)
  rw[MJ]at e14;refine(ax (dC (ts:=P.map en) (kW rfl) e14)).trans ?_
  obtain⟨Z',lo,c6,c13,c14,rfl⟩:=rG (g:=gN 6) (F:=W15) (λZ=> ∃s6 s13 s14,Z=yW ns cs ls P (table P L) (.va (eL L)) (.va (.lst (Q.map en))) s6 a7 a8 (.va (eL (cQ Q))) (.va x) a11 (.va (.lst (gi P (table P L)))) s13 s14) (ts:=rng 0 3)
   (λt ht Z hh=>by
    obtain⟨s6,s13,s14,rfl⟩:=hh;obtain⟨k,rfl,hk⟩:=fw ht;obtain⟨a13,a14,e⟩:=R.w15 (ns:=ns) hn n F k (.va (eL L)) (.va (.lst (Q.map en))) a7 a8 (.va (eL (cQ Q))) (.va x) a11 (.va (.lst (gi P (table P L)))) s13 s14;exact⟨_,_,rfl,e,_,_,_,rfl⟩) (Z:=yW ns cs ls P (table P L) (.va (eL L)) (.va (.lst (Q.map en))) a6 a7 a8 (.va (eL (cQ Q))) (.va x) a11 (.va (.lst (gi P (table P L)))) b13 .em) ⟨_,_,_,rfl⟩
  refine(ax (dC (ts:=rng 0 3) (zM (j:=3) rfl (by omega) (by omega)) lo)).trans ?_
  exact cz (aD (t:=.lst (gi P (table P L))) (u:=.lst (gi P (table P L))) (aM (ts:=[.int ((4:Nat):Int),RR cs ls,.non,.non]) rfl (iU (k:=4) (by omega) (R.K5 n F))) rfl (og (Fc _ _).1 (Fc _ _).2))
 ·refine gW ((ez (bL (aD (t:=.non) (u:=.non) rfl rfl rfl))).trans (cz (aD (t:=.lst (LS 5 (dO 3))) (u:=.lst (LS 5 (dO 3))) (R.lc5 n rfl) (aD (t:=.lst [dO 3]) (u:=.int 5) (gf (ar (p2 rfl rfl) rfl) (aw (k:=1) (by simp))) rfl (n4 [dO 3] 5 ⟨by omega,by omega,aw (k:=5) (by simp)⟩)) (og rfl (by simp[T.dep,deps,dO,LS])))))
theorem pure_law (ns:List Int)(hn:ns.length<=63):m_law [.scr ns] = .ok (.bl true):=bJ rfl (cz ((tY (by show(match df []with | .ok t=>Rs.ok t | _=> .bad)=_;rw[Er])).trans (aM (ts:=[.scr ns]) rfl (FW hn))))
end
end G
end
lay_quick G.lhs G.rhs
name_quick lhsz for G.lhs by G.lhs_r
name_quick rhsz for G.rhs by G.rhs_r
open PySem PySem.W PyProof.Rows
set_option maxRecDepth 100000 in
set_option maxHeartbeats 0 in
theorem G.Lf (w : MG) (os : Sx) : PySem.W.Fast.lhsz w (boot_heap w.params) boot_drawn boot_toks os = PySem.W.Fast.rhsz w := by kernel_rfl
set_option maxRecDepth 100000 in
set_option maxHeartbeats 0 in
theorem PySem.Challenge.cw_farclocks_k40_orders_holds : PySem.Challenge.rw_farclocks_k40_orders.Holds := by
  w_on; o_law
  refine holds_open (q := G.vw) (loose := G.lse) (Xt := λ_ => true) (XP := λ_ _ => True) (Yf := (Tr.hookK G.asks G.top).obs) (Ya := (Tr.hookK G.asks G.top).val) (YP := (Tr.hookK G.asks G.top).says) (N := 9000) (Tr.left_of (by rfl) (by rfl) (λ_ => rfl) λw os => ?hl) (Tr.hookK G.asks G.top).of (Tr.hookK G.asks G.top).keeps (λ_ _ => trivial) (λ_ _ _ _ _ => trivial) (by rfl) (by rfl) (by rfl) (λs _ => recFacts_of (s := s) rfl) (by rfl) (by assumption) (by decide +kernel) ⟨rfl, rfl, rfl, rfl, rfl, by decide +kernel⟩ ?hw ?hc
  case hl => exact ((congrFun (congrFun (congrFun (congrFun (congrFun PySem.W.Fast.lhsz_eq w) _) _) _) os).trans (G.Lf w os)).trans (congrFun PySem.W.Fast.rhsz_eq w).symm
  case hw => w_witness2
  case hc => exact Tr.walk_k (n := 63) (k := 19) (x := "_law_script") (CX := L2.CX0) (sp := λK => Tr.spP K 1 G.m_law) rfl (by decide) rfl ⟨rfl, by decide, by decide⟩ (λw K mg fa h X e g hf => G.all_ok X e g hf) (λK H a ns hl _ hS => Tr.sp_script hS (G.pure_law ns hl)) λ_ _ _ _ z => z
