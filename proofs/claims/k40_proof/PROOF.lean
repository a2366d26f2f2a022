import PyProof.Rows.All
import Wide.All
import OpenK.AllK
import Wide.FinOn
import Lean
import PyProof.EqAt
import PyProof.EqKinds
import PyProof.TupleCall
import PyProof.ExcClass3
import PyProof.StationsW
import PyProof.ExcBaseAll.ValueError
import PyProof.ExcArgsOwn
import PyProof.IsiBase
import PyProof.IsiH_tuple
import PyProof.ExcAttrAll.ValueError
import PyProof.Rows.RuleN_isinstance
import PyProof.MeetsSeq
import PyProof.RulesAs
import PyProof.IsiH_list
import PyProof.AttrMiss
import KE.KDictOf
import PyProof.Rows.SumAny
import PyProof.Rows.MinMaxN
import PyProof.Rows.SortShellK
import PyProof.Rows.SortWalk
import PyProof.ZipIter
import PyProof.WalksMore
import PyProof.DictWalks
import PyProof.AutoSeq1
import PySem.Challenge.RW_farclocks_k40_orders
open PySem.AutoSeq1 renaming list_insert_list_int_val_1→Pw
open PySem.Challenge renaming pw_farclocks_k40_orders→LB,rw_farclocks_k40_orders→PD
open PySem.Builtin.SmallTypes renaming ownedTupleHandOut→Nn,ownedTupleIsFree→Lb,nextOf→K3
open PySem.AutoListH renaming list___mul___list_int_3→QB
open PyProof.Rows renaming slot_tuple_getitem→Lp,callWith_builtin1→Mj,callWith_type1→Lq,subscriptTail_builtinR→Py,entry_tuple_getitem→Qs,args_tuple_getitem→QZ,call_isinstance_of→Q2,KK_mirror_equal→Mz,tupleItemsOf_→Q0,subscriptTail→Q1,listUpdate_at→Q4,wpS_forRange→Og,listItems_at→P4,pairsOf_size→RG,seqEpoch_at→Sw,Subscript_→Rm,wpS_modify→Rp,setPending→Rq,SortedToK→L3,pendingOf→Nt,wpS_bind→Lv,wpS_pure→Mi,SortKind→P8,failedOf→Q3,IntsAre→Nl,AllBare→Pj,NonIncK→Qu,wpS_get→Sv,SortSt→OU,Keyed→Su,IsTup→SC
open PySem.F renaming args_tuple_iterator_next_1→Os,entry_tuple_iterator_next→Ox,slot_tuple_iterator_next→MC,excBase_ValueError→OJ,slot_list_getattribute→MQ,args_tuple_add_2→Nx,plainAttrs_list→LY,entry_tuple_add→NF,args_dict_get_2→O9,slot_list_index→Pa,type_list_index→Pb,slot_tuple_add→NR,entry_dict_get→Pv,slot_dict_get→N8,typeOf_object_class→Oa,slot_enumerate_next→PN,args_list_index_2→Qk,entry_list_index→QH,args_int_rmul_2→Q8,slot_tuple_rmul→Q9,slot_list_index→Ra,args_zip_next_1→Rg,slot_tuple_mul→Pm,slot_int_index→RK,entry_int_rmul→RL,entry_zip_next→RP,slot_int_rmul→Ou,slot_zip_next→OA,fills_int_mul→R7,slot_gs_get→QF
open PySem.Builtin.Slice renaming slicePartIndex→RZ,sliceApplied→OG,slicePlaces→MJ,sliceAdjust→Nm
open Array renaming getElem?_eq_some_iff→L5,perm_iff_toList_perm→OL,length_toList→Mu,find?_toList→Qz,toList→PH
open List renaming getElem?_append_right→Ni,nodup_iff_pairwise_ne→OM,getElem?_eq_some_iff→KC,getElem?_append_left→MK,drop_eq_getElem_cons→Np,pairwise_iff_getElem→OV,getElem?_eq_getElem→KD,getElem?_replicate→MU,getElem?_cons_succ→MX,getLast_eq_getElem→Ph,getElem?_set_self→KW,take_of_length_le→L6,drop_eq_nil_of_le→NV,mem_append_right→KU,length_singleton→Mm,getElem?_eq_none→MF,take_append_drop→Oc,set_getElem_self→PP,mem_cons_of_mem→Ko,getElem?_set_ne→K1,mem_append_left→Lg,mem_of_getElem?→Mr,mem_erase_of_ne→Qb,map_congr_left→K2,filterMap_cons→L7,replicate_succ→L8,getElem_of_mem→MV,drop_succ_cons→Qp,length_pos_iff→Qq,mem_cons_self→Kr,length_append→Kw,mem_singleton→KQ,contains_cons→L1,mem_filterMap→OQ,getElem_range→QM,append_of_mem→QN,size_toArray→KH,getElem?_map→KP,append_assoc→KR,nodup_append→LI,length_range→L9,flatMap_cons→Ma,flatten_cons→MP,pairwise_map→Nc,any_eq_false→O0,mapM_toArray→Rf,length_cons→Kx,all_eq_true→KY,not_mem_nil→Lw,lookup_cons→LG,length_take→LU,getElem_mem→L4,length_drop→Mp,getElem_map→Nu,any_eq_true→Oh,zipIdx_cons→Po,filter_cons→Pq,mem_flatMap→Pr,flatMap_nil→Pt,drop_length→RN,length_map→Ks,nodup_cons→K0,mem_append→K4,map_append→K5,append_nil→Lc,nil_append→LD,length_set→LS,find?_cons→M6,of_mem_zip→NI,forIn_cons→NJ,length_nil→Oy,zipIdx_nil→Oz,mem_filter→PF,range_succ→PR,head?_drop→PX,foldl_cons→R6,length_zip→Sh,idxOf_cons→Sm,filter_nil→Sn,replicate→KJ,mem_range→LW,nodup_nil→ML,forIn_nil→N5,tail_drop→Qe,map_cons→Kp,mem_cons→Ky,sum_cons→Mg,any_cons→MW,map_drop→Pg,all_cons→QD,mem_map→KN,map_map→Ll,map_nil→N9,toArray→Ru,all_map→Rv,set_set→RC,length→Lx,lookup→NX,map_id→Se,Nodup→Lh,range→Lu,foldl→O4,map→R0
open PySem renaming wpAny_newFunctionEnv_cells→Nj,wpAny_binaryOp_repeat_ref→OY,wpAny_callSpecial?_slot→LM,wpAny_pyNext_list_item→Px,wpAny_Call_method_late→Pz,builtinLookup_eq_fast→MH,codeAny_call_function→Oe,wpAny_pyNext_list_end→PY,wpAny_isTrue_Compare1→PZ,codeAny_call_builtin→Oo,wpAny_updateSeq_pair→Oq,mem_of_lookup→Mv,wpAny_isSubtype_exc→My,wpAny_Call_Name_kw→Lr,wpAny_setField_rec→MI,wpAny_pyIter_tuple→M0,tupleKind_room_in1→M4,wpAny_List_spliced→QU,foldedSetIterable→Li,wpAny_loadPart_at→Lj,wpAny_truthy_bool→LJ,wpAny_newObj_type→Md,wpAny_pyIter_list→N1,wpAny_assign_Name→Ri,wpAny_sequenceKey→Rl,wpAny_pyIter_enum→Rn,wpAny_call_entry→Mq,noFill_tuple_add→Pu,seqSlot_of→RO,wpAny_eqBool_int→RT,wpAny_execs_cons→RU,wpAny_isInstance→RV,lookupAlong_cons→RW,checkBuiltinCall→RX,wpAny_pyIter_zip→RY,wpAny_loadPart'→MR,wpAny_execs_nil→NN,letOwnedTupleGo→NO,typeLookup_type→NQ,pushCells_keeps→P2,codeAny_builtin→P3,wpAny_passesOwn→So,importedModules→Sy,wpAny_seqItems→Mt,recursionLimit→Nr,wpAny_setField→Qg,attributeBase→LV,behindInMarks→Ng,wpAny_holding→NP,wpAny_attempt→Pk,wpAny_onRaise→Pl,swapsWithSole→QQ,swappedStores→QR,seq_tuple_add→QX,bootBuiltins→K9,codeAny_mono→Od,wpAny_typeOf→Of,codeAny_func→RE,concat_meets→RF,mainGlobals→Ln,wpAny_field→Ly,excClassObj→LQ,sizeLine_eq→Mx,sliceBounds→N4,keywordEach→OF,subscripted→Qt,lookupAlong→Ss,wpAny_letGo→Sx,wpAny_bind→Kn,wpAny_pure→Kz,wpAny_mono→Mb,assignEach→Mc,sysModules→Nf,call_meets→Nh,wpAny_rule→NC,typeLookup→N3,builtinsNs→P6,typeIs_int→P7,wpAny_call→Rj,compareOp→Ls,swapsWith→LF,cellsFrom→MG,tupleKind→O8,pushCells→P0,Arguments→Sq,noteFrame→Sr,starEach→KG,FuncData→LL,binaryOp→Mh,boot_len→MB,NameKind→Nd,GenState→QP,backToKw→QV,Program→KS,BindsTo→Qr,Keyword→Rk,OsState→Ro,Shared→Kt,Around→La,IsPart→QY,IsPair→RH,Result→SA,Paired→SB,Value→Kq,World→LA,Scope→NM,Model→Sz,CmpOp→SD
open PySem.Builtin.Tuple renaming tupleItemsOf→OH,tupleIsExact→OI,tupleExact→Mo
open PySem.Calls renaming Name_function_global→OK,callWith_builtin→NT,evalArgs_plain→Nk,spliced_cons→NH,Constant_str→Qx,spliced_nil→NW
open Classical renaming byContradiction→OW
open PySem.Builtin.List renaming listTooLong→MO,listItems→NS
open Option renaming isSome_iff_exists→Nz,map_eq_some_iff→MA,isSome_some→QC,isSome_map→Rb,getD_none→RJ,map_some→Sk,some→LC
open Int renaming eq_ofNat_of_zero_le→Lm,emod_lt_of_pos→OS,toNat_natCast→LH,emod_nonneg→PV,zero_sub→RD,le_refl→MN
open PySem.Builtin.Dict renaming updateFrom→Pc
open PySem.Heap renaming get?_push_of_some→Kv,get?_update_other→NU,get?_update_self→PL,get?_push_size→KI,get?_update_ne→Qm,get?_push_ne→N0,size_update→Pp,NewAttrErr→Sf,size_push→LX,lt_size→KF,SameBut→Ny,ExtBut→Sa
open PySem.W renaming cellsFrom_some→MZ,hideAll_none→Ol,hideAll_get→MT,callWith_K→ND,of_hideAll→ON,codeRec_of→OP,methodObj→OZ,kitx_list→Q5,kitx_dict→Q6,plainGet→RI,kia_one→LR,instObj→PB,hideAll→PC,keepIn→Me,lookIn→Qc,codeIn→Qd,mg_of→M8,Frag→Km,fnOf→N6,nsIn→N7
open PySem.Obj renaming isFreed_of_fields→PM,data_mapFields→NK,mapFields→QJ,mapSeq→O5
open Bool renaming and_eq_false_iff→PU,and_eq_true_iff→Ms,false_ne_true→KO,false_eq_true→ME,not_eq_true'→Rh,and_eq_true→Ku,eq_iff_iff→NG,or_eq_true→Sd,true_and→Ot,false_or→Pe,or_true→Rw,true_or→Rx
open Nat renaming le_sub_one_of_lt→Om,sub_one_lt_of_lt→On,lt_of_lt_of_le→KA,lt_of_le_of_lt→NL,lt_succ_of_lt→NY,le_of_succ_le→NZ,le_of_lt_succ→O7,lt_trichotomy→Re,max_eq_right→Oj,succ_le_succ→Pn,lt_succ_self→RM,min_eq_right→RQ,mod_eq_of_lt→RS,le_antisymm→Sg,min_eq_left→Si,lt_irrefl→KZ,le_trans→K6,ne_of_lt→Lk,le_of_lt→Ml,ne_of_gt→MS,le_of_eq→NA,lt_or_ge→NB,sub_zero→OR,lt_trans→PJ,sub_self→PQ,add_comm→Rr,mul_comm→Rt,zero_add→Ry,le_refl→KB,zero_le→LP,sub_le→Rc
open PySem.Around renaming frames_deeper→P9,under_plainId→Qa,units→Ob
open PySem.Heap.SameBut renaming update→Qh
open PyProof.Rows.KeyOrd renaming kle_antisymm→Ql,kle_of_klt→O6,kle_trans→Oi,kle_refl→M7
open List.Pairwise renaming nil→Q7
open Option.some renaming inj→K7
open ForInStep renaming yield→M5
open Array.Perm renaming refl→R3
open PySem.Expr renaming Subscript→Mf,Attribute→Nq,Constant→Pf,ListComp→QL,Compare→RA,UnaryOp→RB,BoolOp→MM,Name→K8,Call→Mw,List→Sj
open PySem.NameKind renaming free→Ld,cell→L0
open PySem.Value renaming builtin→Nb,none→Lf,bool→Lo,type→MD,ref→KM,int→LZ,str→Mk
open PySem.Paired renaming length→Pd
open PySem.Value.ref renaming inj→Qv
open Prod.mk renaming injEq→Qw,inj→R1
open PySem.Str renaming ofString→KL
open PySem.Stmt renaming Assign→OB
open PySem.Scope renaming names→Qn
open PySem.Pos renaming endLine→Qo,line→Nv
open PySem.Data renaming fields→R4,cell→Qy
open PySem.Shared renaming heap→Sb
open False renaming elim→M9
open True renaming intro→Na
open PySem.BoolOp renaming And→P5,Or→QK
open PySem.Env renaming scope→MY
open PyProof.Rows.IsTup renaming new→R5
open And renaming intro→R8
open Ne renaming symm→LO
open Iff renaming rfl→Ov
open Sum renaming inl→Qi,inr→Qj
open Prod renaming mk→R9
open Or renaming inr→Lz,inl→LN
set_option Elab.async false
set_option linter.all false
set_option maxRecDepth 100000
set_option maxHeartbeats 8000000
noncomputable section
abbrev gm (x:PySem.Str):Prop:=(x == PySem.Str.ofString "__debug__")=false
namespace L2
open PySem PySem.Spec PyProof.Rows
abbrev Key:=Sum Int Str
def qP:Key->Kq->Bool
 | .inl k,v=>Value.isInt k v
 | .inr x,v=>Value.isStrOf x v
def keyH (w:LA):Key->Int
 | .inl k=>hashInt k
 | .inr x=>hashStr w x
theorem cM:∀{k:Key} {v:Kq},qP k v=true->(∃i t,k=Qi i/\v=LZ i t)\/(∃x t,k=Qj x/\v=Mk x t)
 | .inl i,v,h=>by
  obtain⟨t,e⟩:=Value.isInt_shape (k:=i) (v:=v) h
  exact .inl ⟨i,t,rfl,e⟩
 | .inr x,v,h=>by
  obtain⟨t,e⟩:=Value.isStrOf_shape (x:=x) (v:=v) h;exact .inr ⟨x,t,rfl,e⟩
theorem yD (i:Int)(t:Tok):qP (.inl i) (.int i t)=true:=by simp[qP,Value.isInt]
theorem yC (x:Str)(t:Tok):qP (.inr x) (.str x t)=true:=by simp[qP,Value.isStrOf]
theorem Gb (a b:Int):decide ((Qi a:Key)=Qi b)=(a == b):=by
 by_cases e:a=b
 ·subst e;simp
 ·have h:¬ (Qi a:Key)=Qi b:=λq=>e (Qi.inj q)
  rw[decide_eq_false h];exact(beq_eq_false_iff_ne.mpr e).symm
theorem F7 (a b:Str):decide ((Qj a:Key)=Qj b)=decide (a=b):=by
 by_cases e:a=b
 ·subst e;simp
 ·have h:¬ (Qj a:Key)=Qj b:=λq=>e (Qj.inj q)
  rw[decide_eq_false h,decide_eq_false e]
theorem Ga (a:Int)(b:Str):decide ((Qi a:Key)=Qj b)=false:=decide_eq_false (λq=>nomatch q)
theorem F8 (a:Str)(b:Int):decide ((Qj a:Key)=Qi b)=false:=decide_eq_false (λq=>nomatch q)
def cS (prog:KS)(w:LA):PySem.KeyKind prog w Key where
 is:=qP
 hash:=keyH w
 inj:=λv a b ha hb=>by
  rcases cM ha with⟨i,t,rfl,rfl⟩ | ⟨x,t,rfl,rfl⟩
  ·rcases cM hb with⟨j,u,rfl,e⟩ | ⟨y,u,rfl,e⟩
   ·injection e with e1 _;rw[e1]
   ·exact nomatch e
  ·rcases cM hb with⟨j,u,rfl,e⟩ | ⟨y,u,rfl,e⟩
   ·exact nomatch e
   ·injection e with e1 _;rw[e1]
 byValue:=λk v h=>by
  rcases cM h with⟨i,t,rfl,rfl⟩ | ⟨x,t,rfl,rfl⟩ <;> rfl
 pyHash:=λhv h=>by
  rcases cM hv with⟨i,t,rfl,rfl⟩ | ⟨x,t,rfl,rfl⟩
  ·exact wpAny_pyHash_int h
  ·exact wpAny_pyHash_str h
 eqBool:=λhu hv h=>by
  rcases cM hu with⟨i,t,rfl,rfl⟩ | ⟨x,t,rfl,rfl⟩
  ·rcases cM hv with⟨j,u,rfl,rfl⟩ | ⟨y,u,rfl,rfl⟩
   ·rw[Gb]at h;exact RT h
   ·rw[Ga]at h;exact SeqAt.EqAt.int_str i t y u _ _ _ _ h
  ·rcases cM hv with⟨j,u,rfl,rfl⟩ | ⟨y,u,rfl,rfl⟩
   ·rw[F8]at h;exact SeqAt.EqAt.str_int x t j u _ _ _ _ h
   ·rw[F7]at h;exact wpAny_eqBool_str h
 «strs»:=λk x t v h=>by
  rcases cM h with⟨i,u,rfl,e⟩ | ⟨y,u,rfl,e⟩
  ·exact nomatch e
  ·injection e with e1 _
   subst e1;cases v <;> rfl
theorem uW (prog:KS)(w:LA)(i:Int)(t:Tok):(cS prog w).is (.inl i) (.int i t)=true:=yD i t
theorem uV (prog:KS)(w:LA)(x:Str)(t:Tok):(cS prog w).is (.inr x) (.str x t)=true:=yC x t
inductive V where
 | non | bl (b:Bool) | int (i:Int) | str (x:Str) | byt (b:Array UInt8) | flt (b:UInt64) | ref (a:Addr) | ty (n:String)
 deriving DecidableEq
def RelV:V->Kq->Prop
 | .non,u=>u=Lf
 | .bl b,u=>u=Lo b
 | .int i,u=> ∃t,u=LZ i t
 | .str x,u=> ∃t,u=Mk x t
 | .byt b,u=> ∃t,u=Value.bytes b t
 | .flt b,u=> ∃t,u=Value.float b t
 | .ref a,u=>u=KM a
 | .ty n,u=>u=MD n
abbrev Vals:List V->List Kq->Prop:=SB RelV
theorem Vals.length {xs:List V}{us:List Kq}(r:Vals xs us):xs.length=us.length:=Pd r
theorem Vals.get:∀{xs:List V} {us:List Kq} {i:Nat} {x:V},Vals xs us->xs[i]? =some x->∃u,us[i]? =some u/\RelV x u
 | _,_,_,_,.nil,e=>by simp at e
 | _,_,0,_,.cons r _,e=>by simp at e;subst e;exact⟨_,rfl,r⟩
 | _,_,i+1,x,.cons _ t,e=>by
  obtain⟨u,h1,h2⟩:=Vals.get (i:=i) (x:=x) t (by simpa using e)
  exact⟨u,by simpa using h1,h2⟩
theorem Vals.append:∀{xs ys:List V} {us ws:List Kq},Vals xs us->Vals ys ws->Vals (xs++ys) (us++ws)
 | _,_,_,_,.nil,s=>s
 | _,_,_,_,.cons r t,s=> .cons r (Vals.append t s)
theorem Vals.take:∀{xs:List V} {us:List Kq} (n:Nat),Vals xs us->Vals (xs.take n) (us.take n)
 | _,_,0,_=> .nil
 | _,_,_+1,.nil=> .nil
 | _,_,n+1,.cons r t=> .cons r (Vals.take n t)
theorem Vals.drop:∀{xs:List V} {us:List Kq} (n:Nat),Vals xs us->Vals (xs.drop n) (us.drop n)
 | _,_,0,r=>r
 | _,_,_+1,.nil=> .nil
 | _,_,n+1,.cons _ t=>Vals.drop n t
def RelO:Option V->Option Kq->Prop
 | some v,some u=>RelV v u
 | none,none=>True
 | _,_=>False
def KV {κ:Type}:List (κ×V)->List (κ×Kq)->Prop:=SB λ(p:κ×V) (q:κ×Kq)=>p.1=q.1/\RelV p.2 q.2
def kV:Key->V
 | .inl i=> .int i
 | .inr x=> .str x
inductive HO where
 /-- a list -/
 | lst (xs:List V)
 /-- a tuple (never changes) -/
 | tup (xs:List V)
 /-- a dict whose keys are ints and texts;one whose keys are tuples of ints and texts (the empty one is both) -/
 | dK (kvs:List (Key×V)) | dT (kvs:List (List Key×V))
 /-- a set of ints: its members,its size -/
 | set (S:Int->Bool) (n:Nat)
 /-- an instance of the class at C,its dict at dx,its attributes -/
 | ins (C dx:Addr) (fs:List (Str×V))
 /-- the dict of the instance at x -/
 | own (x:Addr)
 /-- the dict of an exception -/
 | xd (fs:List (Str×V))
 /-- a bound method,f of x -/
 | met (f x:Addr)
 /-- a range object lo,lo+1,.. below hi -/
 | rng (lo hi:Int)
 /-- a thing that is known to the object (the script;a dict while a loop walks it): read,never written while it is so -/
 | frz (o:Obj) (u:HO)
 /-- a code object's table -/
 | tbl (ps:Array Kq)
 /-- any other thing,by what is true of its one object (a def of one's own: SetO a S n:=HO.ext λh=> ..) -/
 | ext (φ:Heap->Prop)
abbrev Hp:=Addr->Option HO
def upd (H:Hp)(a:Addr)(o:HO):Hp:=λb=>if b=a then some o else H b
theorem aG {H:Hp}{a:Addr}{o:HO}:upd H a o a=some o:=by unfold upd;rw[if_pos rfl]
theorem aF {H:Hp}{a b:Addr}{o:HO}(h:b≠a):upd H a o b=H b:=by unfold upd;rw[if_neg h]
theorem rz {H:Hp}{a:Addr}{o u:HO}:upd (upd H a o) a u=upd H a u:=by
 funext b;unfold upd;split <;> rfl
theorem lm {H:Hp}{a b:Addr}{o u:HO}(h:H a=some o)(h':H b=some u)(d:o≠u):a≠b:=by
 intro e;subst e;rw[h]at h';exact d (K7 h')
theorem cv {H:Hp}{a b:Addr}{o:HO}(h:H a=some o)(h':H b=none):a≠b:=by
 intro e;subst e;rw[h]at h';cases h'
section
variable (P:KS)(w:LA)
def ObjOk (H:Hp)(h:Heap)(a:Addr):HO->Prop
 | .lst xs=>xs.length<=sizeLine/\∃(its:List Kq) (n:Nat),Vals xs its/\h.get? a=some { cls:=.type "list",data:=.seq its.toArray n }
 | .tup xs=>xs.length<=sizeLine/\∃its:List Kq,Vals xs its/\SC h a its.toArray
 | .dK kvs=>kvs.length<=sizeLine/\(a == Nf)=false/\∃vs,KV kvs vs/\h.DictOf (cS P w) a vs
 | .dT kvs=>kvs.length<=sizeLine/\(a == Nf)=false/\∃xs:List (List Key×Addr×Kq),
   SB (λ(p:List Key×V) (q:List Key×Addr×Kq)=>p.1=q.1/\H q.2.1=some (.tup (p.1.map kV))/\RelV p.2 q.2.2) kvs xs ∧
   ∃o es ep,h.get? a=some o/\o.ExactDict/\o.data= .dict es ep/\es.toList=xs.map (entryOfKey (O8 (cS P w)))/\(xs.map (·.1)).Nodup
 | .set S n=>h.SetOf (intKind P w) a S n
 | .ins C dx fs=>H dx=some (.own a)/\fs.length<=1000/\dx≠a/\h.get? a=some (PB C dx) ∧
   ∃mA,h.Ns1 dx mA/\(∀f,RelO (fs.lookup f) (mA f))/\PySem.Within mA (fs.map (·.1))
 | .own _=> ∃o,h.get? a=some o
 | .xd fs=> ∃mA,h.Ns1 a mA/\∀f,RelO (fs.lookup f) (mA f)
 | .rng lo hi=> ∃t u v,h.get? a=some { cls:=.type "range",data:=.fields #[.int lo t,.int hi u,.int 1 v] }
 | .frz o u=>h.get? a=some o/\ObjOk H h a u
 | .tbl ps=>h.get? a=some { cls:=.none,data:=.fields ps }
 | .met f x=>h.get? a=some (OZ (.ref f) (.ref x))
 | .ext φ=>φ h/\(∃o,h.get? a=some o)/\∀h1 h2:Heap,φ h1->(∀o,h1.get? a=some o->h2.get? a=some o)->φ h2
def HOk (H:Hp)(h:Heap):Prop:=∀a o,H a=some o->ObjOk P w H h a o
end
section
variable {P:KS}{w:LA}{H H':Hp}{h h':Heap}{a:Addr}{o:HO}
theorem ObjOk.lt (x:ObjOk P w H h a o):a<h.objs.size:=by
 cases o with
 | lst xs=>obtain⟨_,_,_,_,e⟩:=x;exact KF e
 | tup xs=>obtain⟨_,_,_,p⟩:=x;exact p.lt
 | dK kvs=>obtain⟨_,_,_,_,o,_,_,e,_⟩:=x;exact KF e
 | dT kvs=>obtain⟨_,_,_,_,o,_,_,e,_⟩:=x;exact KF e
 | set S n=>obtain⟨o,_,_,_,e,_⟩:=x;exact KF e
 | ins C dx fs=>obtain⟨_,_,_,e,_⟩:=x;exact KF e
 | own y=>obtain⟨_,e⟩:=x;exact KF e
 | xd fs=>obtain⟨_,⟨_,_,_,e,_⟩,_⟩:=x;exact KF e
 | rng lo hi=>obtain⟨_,_,_,e⟩:=x;exact KF e
 | frz ob u=>obtain⟨e,_⟩:=x;exact KF e
 | tbl ps=>exact KF (show h.get? a=some _ from x)
 | met f y=>exact KF (show h.get? a=some _ from x)
 | ext φ=>obtain⟨_,⟨_,e⟩,_⟩:=x;exact KF e
theorem Paired.J4 {α β:Type}{F G:α->β->Prop}:∀{l₁:List α} {l₂:List β},SB F l₁ l₂->(∀a b,F a b->G a b)->SB G l₁ l₂
 | _,_,.nil,_=> .nil
 | _,_,.cons r t,f=> .cons (f _ _ r) (Paired.J4 t f)
theorem ObjOk.JA (x:ObjOk P w H h a o)(k:∀b u,(b=a\/H b=some (.own a))->h.get? b=some u->h'.get? b=some u)
  (ho:∀b,H b=some (.own a)->H' b=some (.own a)) (ht:∀b xs,H b=some (.tup xs)->H' b=some (.tup xs)):ObjOk P w H' h' a o:=by
 induction o with
 | lst xs=>obtain⟨z,its,n,r,e⟩:=x;exact⟨z,its,n,r,k _ _ (.inl rfl) e⟩
 | tup xs=>obtain⟨z,its,r,ob,e,c⟩:=x;exact⟨z,its,r,ob,k _ _ (.inl rfl) e,c⟩
 | dK kvs=>obtain⟨z,y,vs,r,ob,es,ep,e,c⟩:=x;exact⟨z,y,vs,r,ob,es,ep,k _ _ (.inl rfl) e,c⟩
 | dT kvs=>
  obtain⟨z,y,xs,r,ob,es,ep,e,c⟩:=x
  exact⟨z,y,xs,Paired.J4 r λp q z=>⟨z.1,ht _ _ z.2.1,z.2.2⟩,ob,es,ep,k _ _ (.inl rfl) e,c⟩
 | set S n=>obtain⟨ob,es,ep,t,e,c⟩:=x;exact⟨ob,es,ep,t,k _ _ (.inl rfl) e,c⟩
 | ins C dx fs=>
  obtain⟨d,z,ne,e,mA,⟨od,es,ep,e2,c⟩,r⟩:=x
  exact⟨ho _ d,z,ne,k _ _ (.inl rfl) e,mA,⟨od,es,ep,k _ _ (.inr d) e2,c⟩,r⟩
 | own y=>obtain⟨ob,e⟩:=x;exact⟨ob,k _ _ (.inl rfl) e⟩
 | xd fs=>obtain⟨mA,⟨od,es,ep,e,c⟩,r⟩:=x;exact⟨mA,⟨od,es,ep,k _ _ (.inl rfl) e,c⟩,r⟩
 | rng lo hi=>obtain⟨t,u,v,e⟩:=x;exact⟨t,u,v,k _ _ (.inl rfl) e⟩
 | frz ob u ih=>obtain⟨e,q⟩:=x;exact⟨k _ _ (.inl rfl) e,ih q⟩
 | tbl ps=>
  have e:h.get? a=some { cls:=.none,data:=.fields ps }:=x
  show h'.get? a=some { cls:=.none,data:=.fields ps }
  exact k a _ (.inl rfl) e
 | met f y=>
  have e:h.get? a=some (OZ (.ref f) (.ref y)):=x
  show h'.get? a=some (OZ (.ref f) (.ref y))
  exact k a _ (.inl rfl) e
 | ext φ=>obtain⟨p,⟨o,e⟩,st⟩:=x;exact⟨st _ _ p λo q=>k _ _ (.inl rfl) q,⟨o,k _ _ (.inl rfl) e⟩,st⟩
theorem HOk.lt (x:HOk P w H h)(e:H a=some o):a<h.objs.size:=(x a o e).lt
theorem HOk.fresh (x:HOk P w H h)(e:h.objs.size<=a):H a=none:=by
 cases q:H a with
 | none=>rfl
 | some u=>exact absurd (KA (x.lt q) e) (KZ _)
theorem HOk.kept (x:HOk P w H h)(k:∀b u,h.get? b=some u->h'.get? b=some u):HOk P w H h':=λa o e=>
 (x a o e).JA (λb u _ q=>k b u q) (λ_ q=>q) λ_ _ q=>q
theorem HOk.laid (x:HOk P w H h)(k:∀b u,h.get? b=some u->h'.get? b=some u)(hp:h.objs.size<=a)(new:ObjOk P w (upd H a o) h' a o):HOk P w (upd H a o) h':=λb u e=>by
 have hn:=x.fresh hp
 by_cases hb:b=a
 ·subst hb;rw[aG]at e;cases e;exact new
 ·rw[aF hb]at e
  exact(x b u e).JA (λc v _ q=>k c v q) (λc q=>by rw[aF (cv q hn)];exact q) λc xs q=>by rw[aF (cv q hn)];exact q
end
def Rd (H:Hp)(a:Addr)(u:HO):Prop:=H a=some u\/∃o,H a=some (.frz o u)
theorem Rd.ok {P:KS}{w:LA}{H:Hp}{h:Heap}{a:Addr}{u:HO}(r:Rd H a u)(x:HOk P w H h):ObjOk P w H h a u:=by
 rcases r with r | ⟨o,r⟩
 ·exact x a u r
 ·obtain⟨_,q⟩:=x a _ r
  exact q
def IK:Option HO->Prop
 | some (.lst _)=>True
 | some (.dK _)=>True
 | some (.dT _)=>True
 | some (.set _ _)=>True
 | some (.ins _ _ _)=>True
 | some (.ext _)=>True
 | _=>False
section
variable {P:KS}{w:LA}{H:Hp}{h h':Heap}{x e:Addr}{o':HO}
theorem HOk.write (ok:HOk P w H h)(mu:IK (H x))(he:e=x\/H e=some (.own x))(k:∀b u,b≠e->h.get? b=some u->h'.get? b=some u)(heo:∃u,h'.get? e=some u)
  (new:ObjOk P w (upd H x o') h' x o'):HOk P w (upd H x o') h':=λb u q=>by
 have nown:∀c y,H c=some (.own y)->c≠x:=λc y r z=>by subst z;rw[r]at mu;exact mu
 have ntup:∀c xs,H c=some (.tup xs)->c≠x:=λc xs r z=>by subst z;rw[r]at mu;exact mu
 by_cases hb:b=x
 ·subst hb;rw[aG]at q;cases q;exact new
 ·rw[aF hb]at q
  by_cases hbe:b=e
  ·have q':H b=some (.own x):=by
    rcases he with z | z
    ·exact absurd (hbe.trans z) hb
    ·rw[hbe];exact z
   rw[q]at q';cases q';obtain⟨v,hv⟩:=heo;exact⟨v,by rw[hbe];exact hv⟩
  ·refine(ok b u q).JA (λc v hc r=>k c v ?_ r) (λc r=>by rw[aF (nown c b r)];exact r) λc xs r=>by rw[aF (ntup c xs r)];exact r
   rcases hc with rfl | hc
   ·exact hbe
   ·rintro rfl
    rcases he with z | z
    ·exact nown c b hc z
    ·rw[hc]at z;cases z;exact hb rfl
end
structure Un (fs ex:List Addr)(H H':Hp)(h h':Heap):Prop where
 keep:∀b o,h.get? b=some o->H b=none->b∉fs->b∉ex->h'.get? b=some o
 slot:∀b o,h.get? b=some o->H b=none->b∈fs->b∉ex->∃sl,h'.get? b=some { o with slots:=sl }
 free:∀b o,h.get? b=some o->H b=none->b∉ex->H' b=none
 there:∀b o,h.get? b=some o->b∉ex->∃o',h'.get? b=some o'
 tups:∀b xs,H b=some (.tup xs)->H' b=some (.tup xs)
 frzs:∀b o u,H b=some (.frz o u)->H' b=some (.frz o u)
 tbls:∀b ps,H b=some (.tbl ps)->∃more,H' b=some (.tbl (ps++more))
section
variable {fs fs' ex ex':List Addr}{H H1 H2:Hp}{h h1 h2 h':Heap}{a x e:Addr}{o:HO}
theorem Un.any (u:Un fs ex H H1 h h1){b:Addr}{ob:Obj}(q:h.get? b=some ob)(n:H b=none)(hx:b∉ex):∃sl,h1.get? b=some { ob with slots:=sl }:=by
 by_cases hb:b∈fs
 ·exact u.slot b ob q n hb hx
 ·exact⟨ob.slots,u.keep b ob q n hb hx⟩
theorem Un.kept (k:∀b u,h.get? b=some u->h'.get? b=some u):Un fs ex H H h h':=
 ⟨λb ob q _ _ _=>k b ob q,λb ob q _ _ _=>⟨ob.slots,k b ob q⟩,λ_ _ _ n _=>n,λb ob q _=>⟨ob,k b ob q⟩,λ_ _ q=>q,λ_ _ _ q=>q,λ_ ps q=>⟨#[],by rw[q];simp⟩⟩
theorem Un.refl:Un fs ex H H h h:=Un.kept λ_ _ q=>q
theorem Un.laid (k:∀b u,h.get? b=some u->h'.get? b=some u)(hp:h.objs.size<=a)(hn:H a=none):Un fs ex H (upd H a o) h h' where
 keep:=λb u q _ _ _=>k b u q
 slot:=λb u q _ _ _=>⟨u.slots,k b u q⟩
 free:=λb u q n _=>by rw[aF (Lk (KA (KF q) hp))];exact n
 there:=λb u q _=>⟨u,k b u q⟩
 tups:=λb xs q=>by rw[aF (cv q hn)];exact q
 frzs:=λb u xs q=>by rw[aF (cv q hn)];exact q
 tbls:=λb ps q=>⟨#[],by rw[aF (cv q hn),q];simp⟩
theorem Un.write (mu:IK (H x))(he:e=x\/H e=some (.own x))(k:∀b u,b≠e->h.get? b=some u->h'.get? b=some u)(heo:∃u,h'.get? e=some u):Un fs ex H (upd H x o) h h':=by
 have hx:∀b,H b=none->b≠x:=λb n z=>by subst z;rw[n]at mu;exact mu
 have hb:∀b,H b=none->b≠e:=λb n z=>by
  subst z;rcases he with r | r
  ·exact hx b n r
  ·rw[n]at r;cases r
 have hm:∀b u,H b=some u->¬ IK (some u)->b≠x:=λb u q nm z=>by subst z;rw[q]at mu;exact nm mu
 refine⟨λb u q n _ _=>k b u (hb b n) q,λb u q n _ _=>⟨u.slots,k b u (hb b n) q⟩,λb u q n _=>by rw[aF (hx b n)];exact n,λb u q _=> ?_,
  λb xs q=>by rw[aF (hm b _ q λz=>z)];exact q,λb u xs q=>by rw[aF (hm b _ q λz=>z)];exact q,λb ps q=>⟨#[],by rw[aF (hm b _ q λz=>z),q];simp⟩⟩
 by_cases hbe:b=e
 ·subst hbe;exact heo
 ·exact⟨u,k b u hbe q⟩
end
def trk (h:Heap)(H:Hp):List Addr:=(Lu h.objs.size).filter λa=>(H a).isSome
def sW (h:Heap)(H:Hp):Heap:=PC h (trk h H)
theorem yJ (h:Heap)(H:Hp):(sW h H).objs.size=h.objs.size:=PySem.W.hideAll_size _ _
theorem A7 {h:Heap}{H:Hp}{b:Addr}{o:Obj}(e:h.get? b=some o)(n:H b=none):(sW h H).get? b=some o:=
 MT _ e λhm=>by
  have q:(H b).isSome=true:=(PF.mp hm).2;rw[n]at q;simp at q
theorem CZ {h:Heap}{H:Hp}{b:Addr}{o:Obj}(e:(sW h H).get? b=some o):h.get? b=some o/\H b=none:=by
 have e':h.get? b=some o:=ON (trk h H) e;refine⟨e',?_⟩
 cases q:H b with
 | none=>rfl
 | some x=>
  have hm:b∈trk h H:=PF.mpr ⟨LW.mpr (KF e'),by simp[q]⟩
  have z:(sW h H).get? b=none:=Ol (trk h H) hm;rw[z]at e;cases e
def DB (g h:Heap)(L:Addr):List (Addr×Obj):=(Lu h.objs.size).filterMap λa=>if a=L\/(g.get? a).isSome=true then none else(h.get? a).map λo=>(a,o)
def c8 (g h:Heap)(L d:Addr):List (Addr×Obj):=(DB g h L).filter λp=>decide (p.1≠d)
structure Mod (K:Km)(mg:Str->Option Kq)(base:Heap):Prop where
 kin:K.In base
 glob:base.Ns Ln mg
 blt:∃mb,base.Ns P6 mb/\∀x:Str,x≠ "__name__"->mb x=K9 x
 nolimit:base.NoLimit
structure Cx where
 prog:KS
 w:LA
 K:Km
 mg:Str->Option Kq
 base:Heap
 A:La
 N:List Str
 s₀:Kt
 H₀:Hp
 env:Env
 outer:List Env
 stack:List Env
 ex:List Addr
 fn:Str->Bool
 calm:Bool
 pn:List (Addr×Obj)
 xe:Kq->Kt->Prop
def o0 (l:List Env):List Addr:=l.filterMap (·.frame)
abbrev Cx.fs (X:Cx):List Addr:=o0 X.outer
def rj (sc:NM)(x:Str):Prop:=sc.names.lookup x=some .local\/sc.names.lookup x=some .cell\/sc.names.lookup x=some .free
def Loc (sc:NM)(x:Str):Prop:=sc.names.lookup x=some .local\/sc.names.lookup x=some .cell
def Look (env:Env)(h:Heap)(m:Str->Option Kq)(x:Str)(u:Kq):Prop:=
 (env.kindOf x=some .local/\m x=some u)\/((env.kindOf x=some .cell\/env.kindOf x=some .free)/\∃c,env.cells.lookup x=some c/\h.IsCell c (some u))
structure Cx.Ok (X:Cx):Prop where
 mod:Mod X.K X.mg X.base
 kind:X.env.scope.kind= .function
 glob:X.env.globals=Ln
 blt:X.env.builtins=P6
 above:X.s₀.heap.objs.size<=X.env.locals
 inj:∀x y c,X.env.cells.lookup x=some c->X.env.cells.lookup y=some c->x=y
 has:∀x,(X.env.kindOf x=some .cell\/X.env.kindOf x=some .free)->∃c,X.env.cells.lookup x=some c
 cab:∀x c,X.fn x=true->X.env.cells.lookup x=some c->X.s₀.heap.objs.size<=c
 hd:X.calm=true->X.A.handled=none
 frames:X.A.frames=some X.stack
 stk:X.stack=X.outer\/(X.stack=X.env::X.outer/\X.env.frame=some X.env.locals)
 exf:∀b∈X.ex,b≠X.env.locals/\∀x c,X.env.cells.lookup x=some c->c≠b
 bs:∀b o,X.base.get? b=some o->X.s₀.heap.get? b=some o/\X.H₀ b=none
 bsz:X.base.objs.size<=X.s₀.heap.objs.size
 noex:∀b o,X.base.get? b=some o->b∉X.ex
 exfs:∀b∈X.ex,b∉X.fs
 funs:X.s₀.heap.FunFrames X.base X.outer
 frf:∀b∈X.fs,X.H₀ b=none
structure Inv (X:Cx)(pins:List (Addr×Obj))(σ:List (Option V))(H:Hp)(s:Kt):Prop where
 ok:X.Ok
 os:s.os=X.s₀.os
 bare:Pj s.gens
 base:Un X.fs X.ex X.H₀ H X.s₀.heap s.heap
 loc:∃m,s.heap.Ns X.env.locals m/\∀(i:Nat) (x:Str) (v:V),X.N[i]? =some x->σ[i]? =some (some v)->rj X.env.scope x->∃u,RelV v u/\Look X.env s.heap m x u
 cell:∀x c,X.env.cells.lookup x=some c->∃v,s.heap.IsCell c v
 free:H X.env.locals=none
 freeC:∀x c,X.env.cells.lookup x=some c->H c=none
 pin:∀p∈X.pn++pins,s.heap.get? p.1=some p.2/\H p.1=none/\p.1≠X.env.locals/\p.1∉X.fs/\∀v,p.2.data≠ .cell v
 hok:HOk X.prog X.w H s.heap
 len:σ.length=X.N.length
section
variable {X:Cx}{pins:List (Addr×Obj)}{σ:List (Option V)}{H H':Hp}{s:Kt}{h':Heap}
theorem Cx.Ok.Kk (ok:X.Ok){b:Addr}{o:Obj}(e:X.base.get? b=some o):b∉X.fs:=λhb=>by
 have:=(ok.funs.mem hb).1;rw[e]at this;cases this
theorem Inv.bs (I:Inv X pins σ H s):∀b o,X.base.get? b=some o->s.heap.get? b=some o/\H b=none:=λb o e=>
 ⟨I.base.keep b o (I.ok.bs b o e).1 (I.ok.bs b o e).2 (I.ok.Kk e) (I.ok.noex b o e),I.base.free b o (I.ok.bs b o e).1 (I.ok.bs b o e).2 (I.ok.noex b o e)⟩
theorem Inv.bk (I:Inv X pins σ H s):∀b o,X.base.get? b=some o->s.heap.get? b=some o:=λb o e=>(I.bs b o e).1
theorem Inv.mod (I:Inv X pins σ H s):Mod X.K X.mg X.base:=I.ok.mod
theorem Inv.kIn (I:Inv X pins σ H s):X.K.In s.heap:=I.ok.mod.kin.keeps I.bk
theorem Inv.lt (I:Inv X pins σ H s):X.env.locals<s.heap.objs.size:=let ⟨_,hn,_⟩:=I.loc;hn.lt
theorem Inv.sz (I:Inv X pins σ H s):X.s₀.heap.objs.size<=s.heap.objs.size:=K6 I.ok.above (Ml I.lt)
theorem Inv.Ki (I:Inv X pins σ H s){a:Addr}(h:s.heap.objs.size<=a):a∉X.fs:=λhb=>by
 obtain⟨_,o,ho,_⟩:=I.ok.funs.mem hb;exact absurd (KA (KF ho) (K6 I.sz h)) (KZ _)
theorem Inv.cne (I:Inv X pins σ H s):∀x c,X.env.cells.lookup x=some c->c≠X.env.locals:=λx c e z=>by
 obtain⟨v,o,ho,hd⟩:=I.cell x c e;obtain⟨m,⟨o',es,ep,ho',hd',_⟩,_⟩:=I.loc;rw[z,ho']at ho;cases ho;rw[hd']at hd;cases hd
theorem Inv.funs (I:Inv X pins σ H s):s.heap.FunFrames X.base X.outer:=by
 have all:∀(l:List Env),(∀b∈o0 l,b∈X.fs)->X.s₀.heap.FunFrames X.base l->s.heap.FunFrames X.base l:=by
  intro l
  induction l with
  | nil=>intro _ _;trivial
  | cons env r ih=>
   intro hs hl;obtain⟨hk,⟨L,o,hf,hn,ho,hd⟩,hr⟩:=hl
   have hL:L∈X.fs:=hs L (by unfold o0;rw[L7,hf];exact Kr)
   obtain⟨sl,e⟩:=I.base.slot L o ho (I.ok.frf L hL) hL λz=>I.ok.exfs L z hL
   exact⟨hk,⟨L,_,hf,hn,e,hd⟩,ih (λb hb=>hs b (by unfold o0;rw[L7,hf];exact Ko _ hb)) hr⟩
 exact all X.outer (λ_ hb=>hb) I.ok.funs
theorem Inv.stack (I:Inv X pins σ H s):s.heap.FunFrames X.base X.stack:=by
 rcases I.ok.stk with e | ⟨e,hf⟩
 ·rw[e];exact I.funs
 ·rw[e]
  obtain⟨m,hn,_⟩:=I.loc;refine .cons (by rw[I.ok.kind];decide) hf hn ?_ I.funs
  exact Heap.get?_none_of_le (K6 I.ok.bsz I.ok.above)
theorem Inv.JE (I:Inv X pins σ H s):∀b∈o0 X.stack,b∈X.env.locals::X.fs:=λb hb=>by
 rcases I.ok.stk with e | ⟨e,hf⟩
 ·rw[e]at hb;exact Ko _ hb
 ·rw[e]at hb
  unfold o0 at hb;rw[L7,hf]at hb;exact hb
theorem Inv.Jy (I:Inv X pins σ H s):∀b∈o0 X.stack,H b=none:=λb hb=>by
 rcases Ky.mp (I.JE b hb)with e | hb
 ·rw[e];exact I.free
 ·obtain⟨_,o,ho,_⟩:=I.ok.funs.mem hb
  exact I.base.free b o ho (I.ok.frf b hb) λz=>I.ok.exfs b z hb
theorem Inv.step {g':Array QP}{t':Nat}{d':Drawn}{ch:List Addr}(I:Inv X pins σ H s)
  (hch:∀b∈ch,(b∈X.ex\/X.s₀.heap.objs.size<=b)/\b≠X.env.locals/\(∀x c,X.env.cells.lookup x=some c->c≠b)/\∀p∈X.pn++pins,p.1≠b)
  (keep:∀b o,b≠X.env.locals->b∉X.fs->b∉ch->s.heap.get? b=some o->H b=none->h'.get? b=some o)
  (slot:∀b o,b≠X.env.locals->b∈X.fs->b∉ch->s.heap.get? b=some o->H b=none->∃sl,h'.get? b=some { o with slots:=sl }) (free:∀b o,b∉ch->s.heap.get? b=some o->H b=none->H' b=none)
  (there:∀b o,b∉ch->s.heap.get? b=some o->∃o',h'.get? b=some o')
  (tups:∀b xs,H b=some (.tup xs)->H' b=some (.tup xs)) (frzs:∀b o u,H b=some (.frz o u)->H' b=some (.frz o u)) (tbls:∀b ps,H b=some (.tbl ps)->∃more,H' b=some (.tbl (ps++more)))
  (ns:∀m,s.heap.Ns X.env.locals m->h'.Ns X.env.locals m) (hok:HOk X.prog X.w H' h') (hg:Pj g') :
  Inv X pins σ H' { s with heap:=h',gens:=g',drawn:=d',toks:=t' }:=by
 have neL:∀b o,X.s₀.heap.get? b=some o->b≠X.env.locals:=λb o e=>Lk (KA (KF e) I.ok.above)
 have neC:∀b o,X.s₀.heap.get? b=some o->b∉X.ex->b∉ch:=λb o e hx hb=>by
  rcases(hch b hb).1 with z | z
  ·exact hx z
  ·exact absurd (KA (KF e) z) (KZ _)
 have cellK:∀x c,X.env.cells.lookup x=some c->∀v,s.heap.IsCell c v->h'.IsCell c v:=λx c e v hh_=>by
  obtain⟨o,ho,hd⟩:=hh_
  have nch:c∉ch:=λz=>(hch c z).2.2.1 x c e rfl
  by_cases hc:c∈X.fs
  ·obtain⟨sl,q⟩:=slot c o (I.cne x c e) hc nch ho (I.freeC x c e)
   exact⟨_,q,hd⟩
  ·exact⟨o,keep c o (I.cne x c e) hc nch ho (I.freeC x c e),hd⟩
 refine⟨I.ok,I.os,hg,⟨λb o e n hb hx=> ?_,λb o e n hb hx=> ?_,λb o e n hx=> ?_,λb o e hx=> ?_,λb xs e=>tups b xs (I.base.tups b xs e),λb o xs e=>frzs b o xs (I.base.frzs b o xs e),λb ps e=> ?_⟩,?_,λx c e=> ?_,?_,λx c e=> ?_,λp hp=> ?_,hok,I.len⟩
 ·exact keep b o (neL b o e) hb (neC b o e hx) (I.base.keep b o e n hb hx) (I.base.free b o e n hx)
 ·obtain⟨sl,e1⟩:=I.base.slot b o e n hb hx
  obtain⟨sl',e2⟩:=slot b _ (neL b o e) hb (neC b o e hx) e1 (I.base.free b o e n hx);exact⟨sl',e2⟩
 ·obtain⟨o',e1⟩:=I.base.there b o e hx
  exact free b o' (neC b o e hx) e1 (I.base.free b o e n hx)
 ·obtain⟨o',e1⟩:=I.base.there b o e hx
  exact there b o' (neC b o e hx) e1
 ·obtain⟨m1,e1⟩:=I.base.tbls b ps e
  obtain⟨m2,e2⟩:=tbls b _ e1;exact⟨m1++m2,by rw[e2,Array.append_assoc]⟩
 ·obtain⟨m,hn,hl⟩:=I.loc
  refine⟨m,ns m hn,λi x v e1 e2 e3=> ?_⟩
  obtain⟨u,r,l⟩:=hl i x v e1 e2 e3;refine⟨u,r,?_⟩
  rcases l with l | ⟨k,c,e,z⟩
  ·exact .inl l
  ·exact .inr ⟨k,c,e,cellK x c e _ z⟩
 ·obtain⟨v,z⟩:=I.cell x c e
  exact⟨v,cellK x c e v z⟩
 ·obtain⟨m,⟨o,_,_,ho,_⟩,_⟩:=I.loc
  exact free _ o (λz=>(hch _ z).2.1 rfl) ho I.free
 ·obtain⟨v,o,ho,hd⟩:=I.cell x c e
  exact free c o (λz=>(hch c z).2.2.1 x c e rfl) ho (I.freeC x c e)
 ·obtain⟨e,n,ne,nf,d⟩:=I.pin p hp
  have nch:p.1∉ch:=λz=>(hch p.1 z).2.2.2 p hp rfl
  exact⟨keep p.1 p.2 ne nf nch e n,free p.1 p.2 nch e n,ne,nf,d⟩
theorem Inv.un {t':Nat}(I:Inv X pins σ H s)(u:Un X.fs [] H H' s.heap h')(hok:HOk X.prog X.w H' h'):Inv X pins σ H' { s with heap:=h',toks:=t' }:=by
 obtain⟨m,⟨o,es,ep,ho,r⟩,_⟩:=id I.loc;obtain⟨sl,hL⟩:=u.any ho I.free (by simp)
 exact I.step (g':=s.gens) (d':=s.drawn) (ch:=[]) (λ_ z=>nomatch z) (λb o _ hb _ e n=>u.keep b o e n hb (by simp)) (λb o _ hb _ e n=>u.slot b o e n hb (by simp)) (λb o _ e n=>u.free b o e n (by simp)) (λb o _ e=>u.there b o e (by simp)) u.tups u.frzs u.tbls (λm' hm=>by
  obtain⟨o',es',ep',ho',r'⟩:=hm;rw[ho]at ho';cases ho';exact⟨_,es',ep',hL,r'⟩) hok I.bare
theorem Inv.call {g':Array QP}{t':Nat}{d':Drawn}{ch:List Addr}(I:Inv X pins σ H s)(u:Un (o0 X.stack) ch H H' s.heap h')(hok:HOk X.prog X.w H' h')(hg:Pj g')
  (hch:∀b∈ch,(b∈X.ex\/X.s₀.heap.objs.size<=b)/\b≠X.env.locals/\(∀x c,X.env.cells.lookup x=some c->c≠b)/\∀p∈X.pn++pins,p.1≠b) :
  Inv X pins σ H' { s with heap:=h',gens:=g',drawn:=d',toks:=t' }:=by
 obtain⟨m,⟨o,es,ep,ho,r⟩,_⟩:=id I.loc;obtain⟨sl,hL⟩:=u.any ho I.free λz=>(hch _ z).2.1 rfl
 exact I.step (ch:=ch) hch (λb o hL hb hc e n=>u.keep b o e n (λz=>(Ky.mp (I.JE b z)).elim hL hb) hc) (λb o _ _ hc e n=>u.any e n hc) (λb o hc e n=>u.free b o e n hc) (λb o hc e=>u.there b o e hc) u.tups u.frzs u.tbls (λm' hm=>by
  obtain⟨o',es',ep',ho',r'⟩:=hm;rw[ho]at ho';cases ho';exact⟨_,es',ep',hL,r'⟩) hok hg
theorem Inv.turned {t':Nat}{it:Addr}(I:Inv X pins σ H s)(k:∀b o,b≠it->s.heap.get? b=some o->h'.get? b=some o)(hn:H it=none)(hL:it≠X.env.locals)
  (h1:it∈X.ex\/X.s₀.heap.objs.size<=it) (h2:∀x c,X.env.cells.lookup x=some c->c≠it) (h3:∀p∈X.pn++pins,p.1≠it):Inv X pins σ H { s with heap:=h',toks:=t' }:=by
 have nit:∀b u,H b=some u->b≠it:=λb u e z=>by rw[z,hn]at e;cases e
 refine I.step (g':=s.gens) (d':=s.drawn) (ch:=[it]) (λb hb=> ?_) (λb o _ _ hc e _=>k b o (λz=>hc (by simp[z])) e) (λb o _ _ hc e _=>⟨o.slots,k b o (λz=>hc (by simp[z])) e⟩) (λ_ _ _ _ n=>n)
  (λb o hc e=>⟨o,k b o (λz=>hc (by simp[z])) e⟩) (λ_ _ e=>e) (λ_ _ _ e=>e) (λb ps e=>⟨#[],by rw[e];simp⟩) (λm hm=> ?_) (λb u e=> ?_) I.bare
 ·have e:b=it:=by simpa using hb
  subst e;exact⟨h1,hL,h2,h3⟩
 ·obtain⟨o,es,ep,ho,r⟩:=hm
  exact⟨o,es,ep,k _ o (LO hL) ho,r⟩
 ·refine(I.hok b u e).JA (λc v hc q=>k c v ?_ q) (λ_ q=>q) λ_ _ q=>q
  rcases hc with z | z
  ·rw[z];exact nit b u e
  ·exact nit c _ z
theorem Inv.tok (I:Inv X pins σ H s)(t:Nat):Inv X pins σ H { s with toks:=t }:=I.un (h':=s.heap) (t':=t) Un.refl I.hok
theorem Inv.kept {t':Nat}(I:Inv X pins σ H s)(k:∀b u,s.heap.get? b=some u->h'.get? b=some u):Inv X pins σ H { s with heap:=h',toks:=t' }:=I.un (Un.kept k) (I.hok.kept k)
theorem Inv.laid {a:Addr}{o:HO}{t':Nat}(I:Inv X pins σ H s)(k:∀b u,s.heap.get? b=some u->h'.get? b=some u)(hp:s.heap.objs.size<=a)(new:ObjOk X.prog X.w (upd H a o) h' a o) :
  Inv X pins σ (upd H a o) { s with heap:=h',toks:=t' }:=I.un (Un.laid k hp (I.hok.fresh hp)) (I.hok.laid k hp new)
theorem Inv.write {x e:Addr}{o:HO}{t':Nat}(I:Inv X pins σ H s)(mu:IK (H x))(he:e=x\/H e=some (.own x))(k:∀b u,b≠e->s.heap.get? b=some u->h'.get? b=some u)(heo:∃u,h'.get? e=some u)
  (new:ObjOk X.prog X.w (upd H x o) h' x o):Inv X pins σ (upd H x o) { s with heap:=h',toks:=t' }:=I.un (Un.write mu he k heo) (I.hok.write mu he k heo new)
theorem Inv.JJ {pins':List (Addr×Obj)}(I:Inv X pins σ H s)(h:∀p∈pins',s.heap.get? p.1=some p.2/\H p.1=none/\p.1≠X.env.locals/\p.1∉X.fs/\∀v,p.2.data≠ .cell v):Inv X pins' σ H s:=
 ⟨I.ok,I.os,I.bare,I.base,I.loc,I.cell,I.free,I.freeC,λp hp=>(K4.mp hp).elim (λz=>I.pin p (Lg _ z)) (h p),I.hok,I.len⟩
theorem uL {N:List Str}(hN:N.Nodup){i j:Nat}{x:Str}(a:N[i]? =some x)(b:N[j]? =some x):i=j:=by
 obtain⟨h1,e1⟩:=KC.mp a
 obtain⟨h2,e2⟩:=KC.mp b
 exact(List.getElem_inj hN).mp (e1.trans e2.symm)
theorem qA {M:Sz}{A:La}{E:Kq->Kt->Prop}{i:Nat}{x:Str}{v:V}{u:Kq}{Q:Unit->Kt->Prop}(I:Inv X pins σ H s)(hN:X.N.Nodup)(hi:X.N[i]? =some x)(hx:Loc X.env.scope x)(r:RelV v u)
  (h:∀s',Inv X pins (σ.set i (some v)) H s'->(∃a,Ny a s.heap s'.heap/\(a=X.env.locals\/X.env.cells.lookup x=some a))->Q () s') (hf:X.fn x=true\/X.env.scope.names.lookup x=some .local:=by first | exact .inl rfl | exact .inr rfl | assumption):wpAny M A (storeName X.env x u) Q E s:=by
 obtain⟨m,hn,hl⟩:=id I.loc
 have hcls:(X.env.scope.kind == .class||(X.env.scope.kind == .module&&X.env.locals != X.env.globals))=false:=by rw[I.ok.kind];rfl
 have hiσ:i<σ.length:=by rw[I.len];exact(KC.mp hi).1
 have cne:=I.cne
 have tracked:∀{a:Addr} {h':Heap},(∃o,s.heap.get? a=some o/\H a=none)->Ny a s.heap h'->HOk X.prog X.w H h':=λ{a h'} ha hs b ob e=>by
  obtain⟨_,_,hfree⟩:=ha;refine(I.hok b ob e).JA (λc w' hc q=>(hs.2 c ?_).trans q) (λ_ q=>q) λ_ _ q=>q
  rintro rfl
  rcases hc with rfl | hc
  ·rw[hfree]at e;cases e
  ·rw[hfree]at hc;cases hc
 rcases hx with hk | hk
 ·refine wpAny_storeName_local hk hn (λh' hn' hs=> ?_) hcls
  obtain⟨oL,_,_,hoL,_⟩:=id hn;refine h _ ⟨I.ok,I.os,I.bare,⟨λb o e n hb hx=> ?_,λb o e n hb hx=> ?_,I.base.free,λb o e hx=> ?_,I.base.tups,I.base.frzs,I.base.tbls⟩,⟨_,hn',λj y v' e1 e2 e3=> ?_⟩,λy c e=> ?_,I.free,I.freeC,λp hp=> ?_,tracked ⟨oL,hoL,I.free⟩ hs,by simpa using I.len⟩ ⟨_,hs,.inl rfl⟩
  ·exact(hs.2 b (Lk (KA (KF e) I.ok.above))).trans (I.base.keep b o e n hb hx)
  ·obtain⟨sl,e1⟩:=I.base.slot b o e n hb hx
   exact⟨sl,(hs.2 b (Lk (KA (KF e) I.ok.above))).trans e1⟩
  ·obtain⟨o',e1⟩:=I.base.there b o e hx
   exact⟨o',(hs.2 b (Lk (KA (KF e) I.ok.above))).trans e1⟩
  ·by_cases hj:j=i
   ·subst hj
    rw[hi]at e1;cases e1;rw[KW hiσ]at e2
    cases e2;exact⟨u,r,.inl ⟨hk,by simp⟩⟩
   ·rw[K1 (LO hj)]at e2
    obtain⟨u',r',q⟩:=hl j y v' e1 e2 e3;refine⟨u',r',?_⟩
    rcases q with⟨k,e⟩ | ⟨k,c,e,z⟩
    ·refine .inl ⟨k,?_⟩
     have:y≠x:=λe=>hj (uL hN e1 (e▸hi))
     simp[this,e]
    ·exact .inr ⟨k,c,e,z.sameBut hs (cne y c e)⟩
  ·obtain⟨w',z⟩:=I.cell y c e
   exact⟨w',z.sameBut hs (cne y c e)⟩
  ·obtain⟨e,n,ne,nf,d⟩:=I.pin p hp
   exact⟨(hs.2 p.1 ne).trans e,n,ne,nf,d⟩
 ·have hfn:X.fn x=true:=by
   rcases hf with z | z
   ·exact z
   ·rw[z]at hk;cases hk
  obtain⟨c,hc⟩:=I.ok.has x (.inl hk);obtain⟨w',z⟩:=I.cell x c hc;refine wpAny_storeName_cell I.ok.kind hk hc z (λh' hc' hs=> ?_)
  obtain⟨oc,hoc,hocd⟩:=id z;refine h { s with heap:=h' } ⟨I.ok,I.os,I.bare,⟨λb o e n hb hx=> ?_,λb o e n hb hx=> ?_,I.base.free,λb o e hx=> ?_,I.base.tups,I.base.frzs,I.base.tbls⟩,⟨m,hn.sameBut hs (LO (cne x c hc)),λj y v' e1 e2 e3=> ?_⟩,λy c' e=> ?_,I.free,I.freeC,λp hp=> ?_,tracked ⟨oc,hoc,I.freeC x c hc⟩ hs,by simpa using I.len⟩ ⟨c,hs,.inr hc⟩
  ·exact(hs.2 b (Lk (KA (KF e) (I.ok.cab x c hfn hc)))).trans (I.base.keep b o e n hb hx)
  ·obtain⟨sl,e1⟩:=I.base.slot b o e n hb hx
   exact⟨sl,(hs.2 b (Lk (KA (KF e) (I.ok.cab x c hfn hc)))).trans e1⟩
  ·obtain⟨o',e1⟩:=I.base.there b o e hx
   exact⟨o',(hs.2 b (Lk (KA (KF e) (I.ok.cab x c hfn hc)))).trans e1⟩
  ·by_cases hj:j=i
   ·subst hj
    rw[hi]at e1;cases e1;rw[KW hiσ]at e2
    cases e2;exact⟨u,r,.inr ⟨.inl hk,c,hc,hc'⟩⟩
   ·rw[K1 (LO hj)]at e2
    obtain⟨u',r',q⟩:=hl j y v' e1 e2 e3;refine⟨u',r',?_⟩
    rcases q with q | ⟨k,c',e,z'⟩
    ·exact .inl q
    ·refine .inr ⟨k,c',e,z'.sameBut hs ?_⟩
     rintro rfl
     exact hj (uL hN e1 (I.ok.inj _ _ _ e hc▸hi))
  ·by_cases hcc:c'=c
   ·subst hcc;exact⟨_,hc'⟩
   ·obtain⟨w2,z2⟩:=I.cell y c' e
    exact⟨w2,z2.sameBut hs hcc⟩
  ·obtain⟨e,n,ne,nf,d⟩:=I.pin p hp
   refine⟨(hs.2 p.1 ?_).trans e,n,ne,nf,d⟩
   intro q;rw[q,hoc]at e
   have q':oc=p.2:=K7 e;exact d w' (by rw[<-q'];exact hocd)
theorem nR {M:Sz}{A:La}{E:Kq->Kt->Prop}{i:Nat}{x:Str}{v:V}{u:Kq}{Q:Unit->Kt->Prop}(I:Inv X pins σ H s)(hN:X.N.Nodup)(hi:X.N[i]? =some x)(hx:Loc X.env.scope x)(r:RelV v u)
  (h:∀s',Inv X pins (σ.set i (some v)) H s'->Q () s') (hf:X.fn x=true\/X.env.scope.names.lookup x=some .local:=by first | exact .inl rfl | exact .inr rfl | assumption):wpAny M A (storeName X.env x u) Q E s:=
 qA I hN hi hx r (λs' I' _=>h s' I') hf
theorem Inv.JN {s':Kt}{ch:List Addr}(I:Inv X pins σ H s)(ho:s'.os=s.os)(u:Un (o0 X.stack) ch H H' s.heap s'.heap)(hok:HOk X.prog X.w H' s'.heap)(hg:Pj s'.gens)
  (hch:∀b∈ch,(b∈X.ex\/X.s₀.heap.objs.size<=b)/\b≠X.env.locals/\(∀x c,X.env.cells.lookup x=some c->c≠b)/\∀p∈X.pn++pins,p.1≠b):Inv X pins σ H' s':=by
 obtain⟨h',g',d',t',o'⟩:=s'
 have e:o'=s.os:=ho;subst e;exact I.call (g':=g') (t':=t') (d':=d') u hok hg hch
end
abbrev XK:=Kq->Option Addr->Hp->Prop
abbrev St:=List (Option V)
abbrev VK:=V->Hp->Prop
abbrev TE:=St->Hp->VK->Prop
abbrev TT:=St->Hp->(Bool->Hp->Prop)->Prop
abbrev TA:=St->Hp->(List V->Hp->Prop)->Prop
structure tL where
 nx:St->Hp->Prop
 rt:VK
 bk:St->Hp->Prop:=λ_ _=>False
 ct:St->Hp->Prop:=λ_ _=>False
abbrev TS:=tL->St->Hp->Prop
def EP (X:Cx)(pins:List (Addr×Obj))(σ:St)(Q:VK)(u:Kq)(s':Kt):Prop:=∃v H',Inv X pins σ H' s'/\RelV v u/\Q v H'
def TP (X:Cx)(pins:List (Addr×Obj))(σ:St)(Q:Bool->Hp->Prop)(b:Bool)(s':Kt):Prop:=∃H',Inv X pins σ H' s'/\Q b H'
def AP (X:Cx)(pins:List (Addr×Obj))(σ:St)(Q:List V->Hp->Prop)(us:List Kq)(s':Kt):Prop:=∃vs H',Inv X pins σ H' s'/\Vals vs us/\Q vs H'
def SP (X:Cx)(pins:List (Addr×Obj))(D:tL)(f:Flow)(s':Kt):Prop:=
 match f with
 | .next=> ∃σ' H',Inv X pins σ' H' s'/\D.nx σ' H'
 | .brk=> ∃σ' H',Inv X pins σ' H' s'/\D.bk σ' H'
 | .cont=> ∃σ' H',Inv X pins σ' H' s'/\D.ct σ' H'
 | .ret u=> ∃v σ' H',Inv X pins σ' H' s'/\RelV v u/\D.rt v H'
def PE (X:Cx)(e:Expr)(t:TE):Prop:=
 ∀(pins:List (Addr×Obj)) (s:Kt) (σ:St) (H:Hp) (Q:VK),Inv X pins σ H s->t σ H Q->wpAny (model X.prog X.w) X.A (eval e X.env) (EP X pins σ Q) X.xe s
def PT (X:Cx)(e:Expr)(t:TT):Prop:=
 ∀(pins:List (Addr×Obj)) (s:Kt) (σ:St) (H:Hp) (Q:Bool->Hp->Prop),Inv X pins σ H s->t σ H Q->wpAny (model X.prog X.w) X.A (isTrue e X.env (eval e X.env)) (TP X pins σ Q) X.xe s
def PW (X:Cx)(e:Expr)(t:TT):Prop:=
 ∀(whole:Sem Kq) (pins:List (Addr×Obj)) (s:Kt) (σ:St) (H:Hp) (Q:Bool->Hp->Prop),Inv X pins σ H s->t σ H Q->wpAny (model X.prog X.w) X.A (isTrue e X.env whole) (TP X pins σ Q) X.xe s
theorem PW.pt {X:Cx}{e:Expr}{t:TT}(h:PW X e t):PT X e t:=h _
def PA (X:Cx)(es:List Expr)(t:TA):Prop:=
 ∀(pos:Pos) (pins:List (Addr×Obj)) (s:Kt) (σ:St) (H:Hp) (Q:List V->Hp->Prop),Inv X pins σ H s->t σ H Q->wpAny (model X.prog X.w) X.A (spliced (backTo pos (KG es X.env))) (AP X pins σ Q) X.xe s
def PS (X:Cx)(st:Stmt)(t:TS):Prop:=
 ∀(pins:List (Addr×Obj)) (s:Kt) (σ:St) (H:Hp) (D:tL),Inv X pins σ H s->t D σ H->wpAny (model X.prog X.w) X.A (exec st X.env) (SP X pins D) X.xe s
def PSs (X:Cx)(st:List Stmt)(t:TS):Prop:=
 ∀(pins:List (Addr×Obj)) (s:Kt) (σ:St) (H:Hp) (D:tL),Inv X pins σ H s->t D σ H->wpAny (model X.prog X.w) X.A (execs st X.env) (SP X pins D) X.xe s
theorem cr {α:Type}{t:Sem α}{Q Q':α->Kt->Prop}{M:Sz}{A:La}{E:Kq->Kt->Prop}{s:Kt}(h:wpAny M A t Q E s)(hQ:∀a s,Q a s->Q' a s):wpAny M A t Q' E s:=Mb h hQ λ_ _ x=>x
section
variable {X:Cx}
def nQ (i:Nat):TE:=λσ H Q=> ∃v,σ[i]? =some (some v)/\Q v H
def tC (v:V):TE:=λ_ H Q=>Q v H
theorem g9 {i:Nat}{x:Str}{pos:Pos}(hN:X.N[i]? =some x)(hv:rj X.env.scope x)(hd:gm x:=by decide)(hcd:(x == ("__classdict__" : Str))=false:=by decide):PE X (.Name x pos) (nQ i):=by
 intro pins s σ H Q I h;obtain⟨v,e,h⟩:=h;obtain⟨m,hn,hl⟩:=I.loc;obtain⟨u,r,l⟩:=hl i x v hN e hv
 have fin:EP X pins σ Q u s:=⟨v,H,I,r,h⟩;rcases l with⟨hk,hm⟩ | ⟨hk,c,hc,hcell⟩
 ·exact wpAny_Name (wpAny_loadName_local I.ok.kind hk hn hm fin) hd
 ·rcases hk with hk | hk
  ·exact wpAny_Name (wpAny_loadName_cell I.ok.kind hk hc hcell fin) hd
  ·exact wpAny_Name (wpAny_loadName_free I.ok.kind hk hc hcell fin hcd) hd
theorem Ag {i j pos}:PE X (.Constant (.int i) j pos) (tC (.int i)):=λ_ _ _ H _ I h=>wpAny_Constant_int ⟨.int i,H,I.tok _,⟨_,rfl⟩,h⟩
theorem Al {b j pos}:PE X (.Constant (.bool b) j pos) (tC (.bl b)):=λ_ _ _ H _ I h=>Constant_bool ⟨.bl b,H,I,rfl,h⟩
theorem Af {j pos}:PE X (.Constant .none j pos) (tC .non):=λ_ _ _ H _ I h=>Constant_none ⟨.non,H,I,rfl,h⟩
theorem Ad {x j pos}:PE X (.Constant (.str x) j pos) (tC (.str x)):=λ_ _ _ H _ I h=>Qx ⟨.str x,H,I.tok _,⟨_,rfl⟩,h⟩
def Gl (X:Cx)(x:Str):Prop:=X.env.kindOf x=some .globalImplicit
theorem iG {E:Kq->Kt->Prop}{pins:List (Addr×Obj)}{s:Kt}{σ:St}{H:Hp}{x:Str}{u:Kq}{pos:Pos}{Q:Kq->Kt->Prop}(I:Inv X pins σ H s)(hg:Gl X x)(hm:X.mg x=some u)(h:Q u s)
  (hd:gm x:=by decide):wpAny (model X.prog X.w) X.A (eval (.Name x pos) X.env) Q E s:=
 OK I.ok.kind hg (Calls.loadGlobal_global (by rw[I.ok.glob];exact I.mod.glob.keeps I.bk) hm h) hd
theorem fX {E:Kq->Kt->Prop}{pins:List (Addr×Obj)}{s:Kt}{σ:St}{H:Hp}{x:Str}{u:Kq}{pos:Pos}{Q:Kq->Kt->Prop}(I:Inv X pins σ H s)(hg:Gl X x)(hm:X.mg x=none)(hv:K9 x=some u)(h:Q u s)
  (hn:x≠ "__name__":=by decide) (hd:gm x:=by decide):wpAny (model X.prog X.w) X.A (eval (.Name x pos) X.env) Q E s:=by
 obtain⟨mb,h1,h2⟩:=I.mod.blt;exact OK I.ok.kind hg (Calls.loadGlobal_builtin (by rw[I.ok.glob];exact I.mod.glob.keeps I.bk) hm (by rw[I.ok.blt];exact h1.keeps I.bk) ((h2 x hn).trans hv) h) hd
theorem rZ {x:Str}{v:V}{u:Kq}{pos:Pos}(hg:Gl X x)(hm:X.mg x=some u)(r:RelV v u)(hd:gm x:=by decide):PE X (.Name x pos) (tC v):=
 λ_ _ _ H _ I h=>iG I hg hm ⟨v,H,I,r,h⟩ hd
theorem w6 {x:Str}{v:V}{u:Kq}{pos:Pos}(hg:Gl X x)(hm:X.mg x=none)(hv:K9 x=some u)(r:RelV v u)(hn:x≠ "__name__":=by decide)(hd:gm x:=by decide):PE X (.Name x pos) (tC v):=
 λ_ _ _ H _ I h=>fX I hg hm hv ⟨v,H,I,r,h⟩ hn hd
variable {a b:Expr}{ta tb:TE}{pos:Pos}
def tB (t:TE):TT:=λσ H Q=>t σ H λx H1=> ∃c,x= .bl c/\Q c H1
theorem zY {e:Expr}{t:TE}(h:PE X e t)(he:∀whole,isTrue e X.env whole=(do let v <-whole;standAt e.pos;holding [v] (truthy v)):=by intro _;rfl):PT X e (tB t):=by
 intro pins s σ H Q I hw;refine isTrue_plain (cr (h pins s σ H _ I hw) λv s1 ⟨x,H1,I1,r1,q1⟩=> ?_) (he _)
 obtain⟨d,rfl,q⟩:=q1;cases r1;exact LJ ⟨H1,I1,q⟩
variable {tA tB':TT}{c8:List Expr}
def tAnd (t u:TT):TT:=λσ H Q=>t σ H λc H1=>if c=true then u σ H1 Q else Q false H1
def tOr (t u:TT):TT:=λσ H Q=>t σ H λc H1=>if c=true then Q true H1 else u σ H1 Q
def tNot (t:TT):TT:=λσ H Q=>t σ H λc H1=>Q (!c) H1
theorem CH (ha:PT X a tA):PW X (.BoolOp .And [a] pos) tA:=by
 intro wh pins s σ H Q I h;refine isTrue_and (cr (ha pins s σ H Q I h) λc s1 e=> ?_)
 cases c with
 | true=>exact isTrue_and_nil e
 | false=>exact e
theorem zW (ha:PT X a tA):PW X (.BoolOp .Or [a] pos) tA:=by
 intro wh pins s σ H Q I h;refine isTrue_or (cr (ha pins s σ H Q I h) λc s1 e=> ?_)
 cases c with
 | false=>exact isTrue_or_nil e
 | true=>exact e
theorem Fw (ha:PT X a tA)(hb:PW X (.BoolOp .And (b::c8) pos) tB'):PW X (.BoolOp .And (a::b::c8) pos) (tAnd tA tB'):=by
 intro wh pins s σ H Q I h;refine isTrue_and (cr (ha pins s σ H _ I h) λc s1 hh_=> ?_)
 obtain⟨H1,I1,q1⟩:=hh_
 cases c with
 | true=>exact hb wh pins s1 σ H1 Q I1 q1
 | false=>exact⟨H1,I1,q1⟩
theorem D8 (ha:PT X a tA)(hb:PW X (.BoolOp .Or (b::c8) pos) tB'):PW X (.BoolOp .Or (a::b::c8) pos) (tOr tA tB'):=by
 intro wh pins s σ H Q I h;refine isTrue_or (cr (ha pins s σ H _ I h) λc s1 hh_=> ?_)
 obtain⟨H1,I1,q1⟩:=hh_
 cases c with
 | true=>exact⟨H1,I1,q1⟩
 | false=>exact hb wh pins s1 σ H1 Q I1 q1
theorem zZ (ha:PT X a tA):PT X (.UnaryOp .Not a pos) (tNot tA):=by
 intro pins s σ H Q I h;exact isTrue_not (ha pins s σ H (λc H1=>Q (!c) H1) I h)
def G4 (ta tb:TE):TE:=λσ H Q=>ta σ H λx H1=> ∃c,x= .bl c/\if c=true then tb σ H1 Q else Q (.bl false) H1
def tOrV (ta tb:TE):TE:=λσ H Q=>ta σ H λx H1=> ∃c,x= .bl c/\if c=true then Q (.bl true) H1 else tb σ H1 Q
def GY (ta:TE):TE:=λσ H Q=>ta σ H λx H1=> ∃c,x= .bl c/\Q (.bl (!c)) H1
theorem FC {op}{t:TE}(h:PE X a t):PE X (.BoolOp op [a] pos) t:=λpins s σ H Q I hw=>BoolOp_one (h pins s σ H Q I hw)
theorem FF (ha:PE X a ta)(hb:PE X (.BoolOp .And (b::c8) pos) tb):PE X (.BoolOp .And (a::b::c8) pos) (G4 ta tb):=by
 intro pins s σ H Q I h;refine BoolOp_and (cr (ha pins s σ H _ I h) λv s1 hh_=> ?_)
 obtain⟨x,H1,I1,r1,q1⟩:=hh_;obtain⟨c,rfl,q1⟩:=q1;cases r1;refine LJ ?_
 cases c with
 | true=>exact hb pins s1 σ H1 Q I1 q1
 | false=>exact⟨.bl false,H1,I1,rfl,q1⟩
theorem HF (ha:PE X a ta)(hb:PE X (.BoolOp .Or (b::c8) pos) tb):PE X (.BoolOp .Or (a::b::c8) pos) (tOrV ta tb):=by
 intro pins s σ H Q I h;refine BoolOp_or (cr (ha pins s σ H _ I h) λv s1 hh_=> ?_)
 obtain⟨x,H1,I1,r1,q1⟩:=hh_;obtain⟨c,rfl,q1⟩:=q1;cases r1;refine LJ ?_
 cases c with
 | false=>exact hb pins s1 σ H1 Q I1 q1
 | true=>exact⟨.bl true,H1,I1,rfl,q1⟩
theorem FD (ha:PE X a ta):PE X (.UnaryOp .Not a pos) (GY ta):=by
 intro pins s σ H Q I h;refine UnaryOp_ (cr (ha pins s σ H _ I h) λv s1 hh_=> ?_)
 obtain⟨x,H1,I1,r1,q1⟩:=hh_;obtain⟨c,rfl,q1⟩:=q1;cases r1;exact not_of (LJ ⟨.bl (!c),H1,I1,rfl,q1⟩)
def tIf (t:TT)(ta tb:TE):TE:=λσ H Q=>t σ H λc H1=>if c=true then ta σ H1 Q else tb σ H1 Q
theorem Ah {c:Expr}(hc:PT X c tA)(ha:PE X a ta)(hb:PE X b tb):PE X (.IfExp c a b pos) (tIf tA ta tb):=by
 intro pins s σ H Q I h;refine wpAny_IfExp (cr (hc pins s σ H _ I h) λd s1 hh_=> ?_)
 obtain⟨H1,I1,q1⟩:=hh_
 cases d with
 | true=>exact ha pins s1 σ H1 Q I1 q1
 | false=>exact hb pins s1 σ H1 Q I1 q1
end
def SqL (K:Km)(H:Hp)(a:Addr)(xs:List V):Prop:=
 Rd H a (.lst xs) ∨
  ∃(o:Obj) (its:Array Kq) (n:Nat),K.lookup a=some o/\o.cls= .type "list"/\o.dict=none/\o.data= .seq its n/\its.size<=sizeLine/\Vals xs its.toList
def SqT (K:Km)(H:Hp)(a:Addr)(xs:List V):Prop:=
 Rd H a (.tup xs) ∨
  ∃(o:Obj) (its:Array Kq) (n:Nat),K.lookup a=some o/\o.cls= .type "tuple"/\o.data= .seq its n/\its.size<=sizeLine/\Vals xs its.toList
def absV:Kq->Option V
 | .none=>some .non
 | .bool b=>some (.bl b)
 | .int i _=>some (.int i)
 | .str x _=>some (.str x)
 | .bytes b _=>some (.byt b)
 | .float b _=>some (.flt b)
 | .ref a=>some (.ref a)
 | .type n=>some (.ty n)
 | _=>none
theorem RelV.abs {x:V}{u:Kq}(r:RelV x u):absV u=some x:=by
 cases x with
 | non=>cases r;rfl
 | bl _=>cases r;rfl
 | int _=>obtain⟨t,rfl⟩:=r;rfl
 | str _=>obtain⟨t,rfl⟩:=r;rfl
 | byt _=>obtain⟨t,rfl⟩:=r;rfl
 | flt _=>obtain⟨t,rfl⟩:=r;rfl
 | ref _=>cases r;rfl
 | ty _=>cases r;rfl
theorem RelV.inj {x y:V}{u:Kq}(r:RelV x u)(q:RelV y u):x=y:=K7 (r.abs.symm.trans q.abs)
theorem Vals.inj:∀{xs ys:List V} {us:List Kq},Vals xs us->Vals ys us->xs=ys
 | _,_,_,.nil,.nil=>rfl
 | _,_,_,.cons r t,.cons r' t'=>by rw[r.inj r',Vals.inj t t']
section
variable {X:Cx}{pins:List (Addr×Obj)}{σ:St}{H:Hp}{s:Kt}{a:Addr}{xs ys:List V}
theorem SqL.of {K:Km}(h:H a=some (.lst xs)):SqL K H a xs:=.inl (.inl h)
theorem SqT.of {K:Km}(h:H a=some (.tup xs)):SqT K H a xs:=.inl (.inl h)
theorem Inv.list (I:Inv X pins σ H s)(h:SqL X.K H a xs):∃its:List Kq,Vals xs its/\PlainL s.heap a its.toArray/\xs.length<=sizeLine:=by
 rcases h with h | ⟨o,its,n,hk,hc,hd,hs,hz,r⟩
 ·obtain⟨z,its,n,r,e⟩:=h.ok I.hok
  exact⟨its,r,⟨_,n,e,rfl,rfl,rfl⟩,z⟩
 ·refine⟨its.toList,r,⟨o,n,I.kIn a o hk,hc,hd,by simpa using hs⟩,?_⟩
  have e:=r.length;simp only[Mu]at e;omega
theorem Inv.tuple (I:Inv X pins σ H s)(h:SqT X.K H a xs):∃its:List Kq,Vals xs its/\SC s.heap a its.toArray/\xs.length<=sizeLine:=by
 rcases h with h | ⟨o,its,n,hk,hc,hs,hz,r⟩
 ·obtain⟨z,its,r,p⟩:=h.ok I.hok
  exact⟨its,r,p,z⟩
 ·refine⟨its.toList,r,⟨o,I.kIn a o hk,hc,n,by simpa using hs⟩,?_⟩
  have e:=r.length;simp only[Mu]at e;omega
theorem Inv.JB (I:Inv X pins σ H s)(h:SqL X.K H a xs)(h':SqL X.K H a ys):xs=ys:=by
 obtain⟨its,r,⟨o,n,e,_,_,d⟩,_⟩:=I.list h;obtain⟨its',r',⟨o',n',e',_,_,d'⟩,_⟩:=I.list h';rw[e]at e';cases e';rw[d]at d';injection d' with d1 _
 have:its=its':=by simpa using congrArg PH d1
 subst this;exact r.inj r'
theorem Inv.Ju (I:Inv X pins σ H s)(h:SqT X.K H a xs)(h':SqT X.K H a ys):xs=ys:=by
 obtain⟨its,r,⟨o,e,_,n,d⟩,_⟩:=I.tuple h;obtain⟨its',r',⟨o',e',_,n',d'⟩,_⟩:=I.tuple h';rw[e]at e';cases e';rw[d]at d';injection d' with d1 _
 have:its=its':=by simpa using congrArg PH d1
 subst this;exact r.inj r'
end
abbrev Cx.Ji (X:Cx)(E:Kq->Kt->Prop):Cx:={ X with xe:=E }
abbrev Cx.nox (X:Cx):Cx:=X.Ji λ_ _=>False
theorem Cx.Ok.Ji {X:Cx}(ok:X.Ok)(E:Kq->Kt->Prop):(X.Ji E).Ok:=
 ⟨ok.mod,ok.kind,ok.glob,ok.blt,ok.above,ok.inj,ok.has,ok.cab,ok.hd,ok.frames,ok.stk,ok.exf,ok.bs,ok.bsz,ok.noex,ok.exfs,ok.funs,ok.frf⟩
theorem Cx.Ok.Jp {X:Cx}{E:Kq->Kt->Prop}(ok:(X.Ji E).Ok):X.Ok:=
 ⟨ok.mod,ok.kind,ok.glob,ok.blt,ok.above,ok.inj,ok.has,ok.cab,ok.hd,ok.frames,ok.stk,ok.exf,ok.bs,ok.bsz,ok.noex,ok.exfs,ok.funs,ok.frf⟩
section
variable {X:Cx}{pins:List (Addr×Obj)}{σ:St}{H:Hp}{s:Kt}{E:Kq->Kt->Prop}
theorem Inv.Ji (I:Inv X pins σ H s)(E:Kq->Kt->Prop):Inv (X.Ji E) pins σ H s:=⟨I.ok.Ji E,I.os,I.bare,I.base,I.loc,I.cell,I.free,I.freeC,I.pin,I.hok,I.len⟩
theorem Inv.Jp (I:Inv (X.Ji E) pins σ H s):Inv X pins σ H s:=⟨I.ok.Jp,I.os,I.bare,I.base,I.loc,I.cell,I.free,I.freeC,I.pin,I.hok,I.len⟩
theorem SP.Jp {D:tL}{f:Flow}{s':Kt}(h:SP (X.Ji E) pins D f s'):SP X pins D f s':=by
 cases f with
 | next=>obtain⟨σ',H',I,q⟩:=h;exact⟨σ',H',I.Jp,q⟩
 | brk=>obtain⟨σ',H',I,q⟩:=h;exact⟨σ',H',I.Jp,q⟩
 | cont=>obtain⟨σ',H',I,q⟩:=h;exact⟨σ',H',I.Jp,q⟩
 | ret u=>obtain⟨v,σ',H',I,r,q⟩:=h;exact⟨v,σ',H',I.Jp,r,q⟩
theorem PSs.nox {st:List Stmt}{t:TS}(h:PSs X.nox st t):PSs X st t:=λpins s σ H D I hw=>
 Mb (h pins s σ H D (I.Ji _) hw) (λ_ _ q=>q.Jp) λ_ _ z=>M9 z
end
section
variable {X:Cx}{st:Stmt}{c8:List Stmt}{t u:TS}{e:Expr}{te:TE}{pos:Pos}
def GZ:TS:=λD σ H=>D.nx σ H
def tSeq (t u:TS):TS:=λD σ H=>t { D with nx:=u D } σ H
theorem wV:PSs X [] GZ:=λ_ _ σ H _ I h=>NN ⟨σ,H,I,h⟩
theorem lb (h1:PS X st t)(h2:PSs X c8 u):PSs X (st::c8) (tSeq t u):=by
 intro pins s σ H D I h;refine RU (cr (h1 pins s σ H { D with nx:=u D } I h) λf s1 q=> ?_)
 cases f with
 | next=>
  obtain⟨σ',H',I',q⟩:=q
  exact h2 pins s1 σ' H' D I' q
 | ret v=>exact q
 | brk=>exact q
 | cont=>exact q
theorem gj (h1:PS X st t):PSs X [st] t:=by
 intro pins s σ H D I h;refine RU (cr (h1 pins s σ H D I h) λf s1 q=> ?_)
 cases f with
 | next=>exact NN q
 | ret v=>exact q
 | brk=>exact q
 | cont=>exact q
def G3:TS:=λD σ H=>D.ct σ H
theorem uz:PS X (.Continue pos) G3:=λ_ _ σ H _ I h=>wpAny_Continue ⟨σ,H,I,h⟩
theorem Inv.quiet {pins:List (Addr×Obj)}{σ:St}{H:Hp}{s:Kt}(I:Inv X pins σ H s):interactive X.env=false:=by simp[interactive,I.ok.kind]
def G1 (te:TE):TS:=λD σ H=>te σ H λ_ H1=>D.nx σ H1
theorem nr (he:PE X e te)(hs:LF e none pos.line X.env=pure false:=by rfl):PS X (.Expr e pos) (G1 te):=by
 intro pins s σ H D I h;exact wpAny_Expr_any (cr (he pins s σ H _ I h) λv s1 ⟨x,H1,I1,r1,q1⟩=>⟨σ,H1,I1,q1⟩) I.quiet hs
def tRet (te:TE):TS:=λD σ H=>te σ H D.rt
theorem jp (he:PE X e te):PS X (.Return (some e) pos) (tRet te):=by
 intro pins s σ H D I h;exact wpAny_Return_some (cr (he pins s σ H _ I h) λv s1 ⟨x,H1,I1,r1,q1⟩=>⟨x,σ,H1,I1,r1,q1⟩)
def tIfS (c:TT)(t u:TS):TS:=λD σ H=>c σ H λb H1=>if b=true then t D σ H1 else u D σ H1
theorem D9 {c:Expr}{a b:List Stmt}{tc:TT}(hc:PT X c tc)(ha:PSs X a t)(hb:PSs X b u):PS X (.If c a b pos) (tIfS tc t u):=by
 intro pins s σ H D I h;refine wpAny_If (cr (hc pins s σ H _ I h) λd s1 hh_=> ?_)
 obtain⟨H1,I1,q1⟩:=hh_
 cases d with
 | true=>exact ha pins s1 σ H1 D I1 q1
 | false=>exact hb pins s1 σ H1 D I1 q1
def EE:TS:=λ_ _ _=>False
theorem z9:PS X st EE:=λ_ _ _ _ _ _ h=>h.elim
end
abbrev TG:=V->St->Hp->(St->Hp->Prop)->Prop
abbrev DE:=List V->St->Hp->(St->Hp->Prop)->Prop
def PG (X:Cx)(target:Expr)(t:TG):Prop:=
 ∀(pins:List (Addr×Obj)) (s:Kt) (σ:St) (H:Hp) (v:V) (u:Kq) (Q:St->Hp->Prop),Inv X pins σ H s->RelV v u->t v σ H Q →
  wpAny (model X.prog X.w) X.A (assign target X.env u) (λ_ s'=> ∃σ' H',Inv X pins σ' H' s'/\Q σ' H') X.xe s
def PGs (X:Cx)(ts:List Expr)(t:DE):Prop:=
 ∀(pins:List (Addr×Obj)) (s:Kt) (σ:St) (H:Hp) (vs:List V) (us:List Kq) (Q:St->Hp->Prop),Inv X pins σ H s->Vals vs us->t vs σ H Q →
  wpAny (model X.prog X.w) X.A (assignInOrder ((Mc ts X.env).map (·.2)) us) (λ_ s'=> ∃σ' H',Inv X pins σ' H' s'/\Q σ' H') X.xe s
section
variable {X:Cx}{pos:Pos}
def Ba (i:Nat):TG:=λv σ H Q=>Q (σ.set i (some v)) H
theorem CS {i:Nat}{x:Str}(hN:X.N.Nodup)(hi:X.N[i]? =some x)(hx:Loc X.env.scope x)(hf:X.fn x=true\/X.env.scope.names.lookup x=some .local:=by first | exact .inl rfl | exact .inr rfl | assumption):PG X (.Name x pos) (Ba i):=by
 intro pins s σ H v u Q I r h;exact Ri (nR I hN hi hx r (λs' I'=>⟨_,H,I',h⟩) hf)
def gNil:DE:=λvs σ H Q=>vs= []/\Q σ H
def Iv (t:TG)(u:DE):DE:=λvs σ H Q=> ∃v r,vs=v::r/\t v σ H λσ' H'=>u r σ' H' Q
theorem CQ:PGs X [] gNil:=by
 intro pins s σ H vs us Q I r h;obtain⟨e,h⟩:=h;subst e;cases r;exact assignInOrder_nil ⟨σ,H,I,h⟩
theorem Ac {e:Expr}{es:List Expr}{t:TG}{u:DE}(h1:PG X e t)(h2:PGs X es u)
  (hs:(Mc (e::es) X.env).map (·.2)=assign e X.env::(Mc es X.env).map (·.2):=by rfl):PGs X (e::es) (Iv t u):=by
 intro pins s σ H vs us Q I r h;obtain⟨v,vr,e1,h⟩:=h;subst e1
 cases r with
 | cons r rr=>
  rw[hs];refine assignInOrder_cons (cr (h1 pins s σ H _ _ _ I r h) λ_ s1 hh_=> ?_)
  obtain⟨σ1,H1,I1,q1⟩:=hh_;exact h2 pins s1 σ1 H1 _ _ Q I1 rr q1
def gTup (K:Km)(n:Nat)(t:DE):TG:=λv σ H Q=> ∃a xs,v= .ref a/\SqT K H a xs/\xs.length=n/\t xs σ H Q
theorem FA {es:List Expr}{k:Nat}{t:DE}{n:Nat}(hc:X.calm=true)(h:PGs X es t)
  (hn:(Mc es X.env).length=n:=by rfl) (hst:(Mc es X.env).findIdx? (·.1)=none:=by rfl):PG X (.Tuple es k pos) (gTup X.K n t):=by
 intro pins s σ H v u Q I r hw;obtain⟨a,xs,e1,hq,hl,hw⟩:=hw;subst e1;cases r;obtain⟨its,rv,ht,hz⟩:=I.tuple hq;refine assign_Tuple_tuple (I.ok.hd hc) ht (by simp[hn,<-hl,rv.length]) hst λh' hx=> ?_
 have I1:Inv X pins σ H { s with heap:=h' }:=I.kept (t':=s.toks) λb o e=>hx b o (Lk (KF e)) e
 exact h pins _ σ H xs _ Q I1 (by simpa using rv) hw
def zw (te:TE)(g:TG):TS:=λD σ H=>te σ H λx H1=>g x σ H1 D.nx
theorem Fx {tg e:Expr}{te:TE}{g:TG}(he:PE X e te)(hg:PG X tg g)(hs:QQ [tg] e pos.line X.env=pure false:=by rfl)(hw:QR [tg] e X.env=pure none:=by rfl)
  (h1:(Mc [tg] X.env).map (·.2)= [assign tg X.env]:=by rfl):PS X (.Assign [tg] e pos) (zw te g):=by
 intro pins s σ H D I h;refine wpAny_Assign_stores (cr (he pins s σ H _ I h) λv s1 ⟨x,H1,I1,r1,q1⟩=> ?_) hs hw
 rw[h1];exact cr (hg pins s1 σ H1 x v _ I1 r1 q1) λ_ s2 q=>q
theorem n9 {i:Nat}{x:Str}{e:Expr}{te:TE}{pos':Pos}(hN:X.N.Nodup)(hi:X.N[i]? =some x)(hx:Loc X.env.scope x)(he:PE X e te)(hs:LF e (some (.Name x pos')) pos.line X.env=pure false:=by rfl)(hf:X.fn x=true\/X.env.scope.names.lookup x=some .local:=by first | exact .inl rfl | exact .inr rfl | assumption) :
  PS X (.Assign [.Name x pos'] e pos) (zw te (Ba i)):=by
 intro pins s σ H D I h;refine wpAny_Assign_Name (cr (he pins s σ H _ I h) λv s1 ⟨y,H1,I1,r1,q1⟩=> ?_) hs
 exact nR I1 hN hi hx r1 (λs2 I2=>⟨_,H1,I2,q1⟩) hf
end
section
variable {X:Cx}{pos:Pos}
def vK (c:TT)(tb:TS):TS:=λD σ H=> ∃W:Nat->St->Hp->Prop,(∃m,W m σ H)/\∀m σ H,W m σ H →
 c σ H λb H1=>if b=true then ∃N:St->Hp->Prop,(∀σ' H',N σ' H'->∃m',m'<m/\W m' σ' H')/\tb { D with nx:=N,ct:=N,bk:=D.nx } σ H1 else D.nx σ H1
theorem z8 {c:Expr}{body:List Stmt}{tc:TT}{tb:TS}(hp:PassesOwn (model X.prog X.w) X.A X.env X.xe)(hc:PT X c tc)(hb:PSs X body tb):PS X (.While c body [] pos) (vK tc tb):=by
 intro pins s σ H D I h;obtain⟨W,⟨m0,w0⟩,turn⟩:=h;refine wpAny_While (codeAny_whileLoop (λn s'=> ∃σ' H',Inv X pins σ' H' s'/\W n σ' H') ?_ m0 ⟨σ,H,I,w0⟩)
 rintro n s1 ⟨σ1,H1,I1,w1⟩
 refine So hp (cr (hc pins s1 σ1 H1 _ I1 (turn n σ1 H1 w1)) λb s2 hh_=> ?_)
 obtain⟨H2,I2,q2⟩:=hh_
 cases b with
 | true=>
  obtain⟨N,hN,q2⟩:=q2;rw[if_pos rfl];refine So hp (cr (hb pins s2 σ1 H2 _ I2 q2) λf s3 q3=> ?_)
  cases f with
  | next=>
   obtain⟨σ3,H3,I3,n3⟩:=q3;obtain⟨m',hm,w3⟩:=hN σ3 H3 n3
   exact⟨m',hm,σ3,H3,I3,w3⟩
  | cont=>
   obtain⟨σ3,H3,I3,n3⟩:=q3;obtain⟨m',hm,w3⟩:=hN σ3 H3 n3
   exact⟨m',hm,σ3,H3,I3,w3⟩
  | brk=>exact q3
  | ret v=>exact q3
 | false=>
  rw[if_neg KO];exact NN ⟨σ1,H2,I2,q2⟩
end
structure It where
 go:Nat->Hp->Prop
 yld:Nat->Hp->V->Hp->Prop
 stop:Nat->Hp->Prop
def nh (X:Cx)(pins:List (Addr×Obj))(H:Hp)(b:Addr):Prop:=
 H b=none/\b≠X.env.locals/\b∉X.fs/\(b∈X.ex\/X.s₀.heap.objs.size<=b)/\(∀x c,X.env.cells.lookup x=some c->c≠b)/\∀p∈X.pn++pins,p.1≠b
theorem Inv.JG {X:Cx}{pins:List (Addr×Obj)}{σ:St}{H H':Hp}{s:Kt}{b:Addr}(I:Inv X pins σ H s)(hb:s.heap.objs.size<=b)(hn:H' b=none):nh X pins H' b:=by
 refine⟨hn,MS (KA I.lt hb),I.Ki hb,.inr (K6 I.sz hb),λx c e z=> ?_,λp hp z=> ?_⟩
 ·obtain⟨v,q⟩:=I.cell x c e
  exact absurd (KA q.lt (by rw[z];exact hb)) (KZ _)
 ·exact absurd (KA (KF (I.pin p hp).1) (by rw[z];exact hb)) (KZ _)
structure yX (P:KS)(w:LA)(K:Km)(tg:Expr)(J:It)(fp:List Addr)(it:Addr)(tn:Nat->Heap->Prop):Prop where
 mem:it∈fp
 obj:∀i h,tn i h->∀b∈fp,∃o,h.get? b=some o/\∀v,o.data≠ .cell v
 keep:∀i h h',tn i h->(∀b∈fp,∀o,h.get? b=some o->h'.get? b=some o)->tn i h'
 item:∀(X:Cx),X.prog=P->X.w=w->X.K=K->X.calm=true->∀(i:Nat) (pins:List (Addr×Obj)) (s:Kt) (σ:St) (H:Hp) (E:Kq->Kt->Prop),Inv X pins σ H s->(∀b∈fp,nh X pins H b)->tn i s.heap->J.go i H →
  wpAny (model P w) X.A (pyNext (.ref it)) (λr s1=> ∃u,r=some u ∧
   wpAny (model P w) X.A (NO tg (.ref it) u) (λ_ s2=> ∃x H',Inv X pins σ H' s2/\RelV x u/\J.yld i H x H'/\tn (i+1) s2.heap/\∀b∈fp,H' b=none) E s1) E s
 done:∀(X:Cx),X.prog=P->X.w=w->X.K=K->X.calm=true->∀(i:Nat) (pins:List (Addr×Obj)) (s:Kt) (σ:St) (H:Hp) (E:Kq->Kt->Prop),Inv X pins σ H s->(∀b∈fp,nh X pins H b)->tn i s.heap->J.stop i H →
  wpAny (model P w) X.A (pyNext (.ref it)) (λr s1=>r=none/\Inv X pins σ H s1) E s
 self:∀(A:La) (i:Nat) (s:Kt) (Q:Kq->Kt->Prop) (E:Kq->Kt->Prop),tn i s.heap->Q (.ref it) s->wpAny (model P w) A (pyIter (.ref it)) Q E s
abbrev TI:=St->Hp->(It->Hp->Prop)->Prop
def PIE (X:Cx)(pins:List (Addr×Obj))(σ:St)(tg:Expr)(R:It->Hp->Prop)(itv:Kq)(s2:Kt):Prop:=
 ∃(it:Addr) (fp:List Addr) (tn:Nat->Heap->Prop) (J:It) (H':Hp),itv= .ref it/\Inv X pins σ H' s2/\yX X.prog X.w X.K tg J fp it tn/\tn 0 s2.heap/\(∀b∈fp,nh X pins H' b)/\R J H'
def PI (X:Cx)(tg iter:Expr)(wi:TI):Prop:=
 ∀(pins:List (Addr×Obj)) (s:Kt) (σ:St) (H:Hp) (R:It->Hp->Prop),Inv X pins σ H s->wi σ H R →
  wpAny (model X.prog X.w) X.A (eval iter X.env) (λv s1=>wpAny (model X.prog X.w) X.A (pyIter v) (PIE X pins σ tg R) X.xe s1) X.xe s
theorem A8 {M:Sz}{A:La}{E:Kq->Kt->Prop}{s:Kt}{tg:Expr}{it:Addr}{u:Kq}{o:Obj}{n:String}{vs:Array Kq}{Q:Unit->Kt->Prop}(ho:s.heap.get? it=some o)(hc:o.cls= .type n)(hd:o.data= .fields vs)
  (hn:["enumerate","zip","dict_itemiterator","dict_reverseitemiterator","odict_iterator","itertools.zip_longest","itertools.pairwise"].contains n=false) (hQ:Q () s):wpAny M A (NO tg (.ref it) u) Q E s:=by
 unfold NO
 cases tg <;> first
  | exact Kz hQ
  | (cases u <;> first
    | exact Kz hQ
    | (refine Kn (wpAny_load ho ?_)
       rw[hc,hd]
       show wpAny M A (if (["enumerate","zip","dict_itemiterator","dict_reverseitemiterator","odict_iterator","itertools.zip_longest","itertools.pairwise"].contains n&&vs[0]? == some (rawInt _))=true then _ else _) Q E s
       rw[if_neg (by intro h;rw[hn,Bool.false_and]at h;cases h)]
       exact Kz hQ))
def Itl (K:Km)(a:Addr):It:=
 ⟨λi H=> ∃xs x,SqL K H a xs/\xs[i]? =some x,λi H x H'=>H'=H/\∀xs,SqL K H a xs->xs[i]? =some x,λi H=> ∃xs,SqL K H a xs/\xs.length<=i⟩
def Itt (K:Km)(a:Addr):It:=
 ⟨λi H=> ∃xs x,SqT K H a xs/\xs[i]? =some x,λi H x H'=>H'=H/\∀xs,SqT K H a xs->xs[i]? =some x,λi H=> ∃xs,SqT K H a xs/\xs.length<=i⟩
def Itr (lo:Int)(n:Nat):It:=⟨λi _=>i<n,λi H x H'=>H'=H/\x= .int (lo+i),λi _=>n<=i⟩
theorem x5 {P:KS}{w:LA}{K:Km}{tg:Expr}(a it:Addr):yX P w K tg (Itl K a) [it] it (λi h=>h.IsListIter it a i) where
 mem:=by simp
 obj:=λi h st b hb=>by
  have e:b=it:=by simpa using hb
  subst e;obtain⟨o,e,c,d⟩:=st;exact⟨o,e,λv z=>by rw[d]at z;cases z⟩
 keep:=λi h h' st k=>st.at λo e=>k it (by simp) o e
 item:=by
  intro X hP hw hK hc i pins s σ H E I hf st hg;subst hP hw hK;obtain⟨xs,x,hq,hx⟩:=hg;obtain⟨its,rv,p,hz⟩:=I.list hq;obtain⟨u,hu,ru⟩:=rv.get hx;obtain⟨f0,f1,f2,f3,f4,f5⟩:=hf it (by simp)
  refine Px st p.isList (x:=u) (by simpa using hu) λh' st' sb=> ?_
  have I1:Inv X pins σ H { s with heap:=h' }:=I.turned (t':=s.toks) (λb o hb e=>(sb.2 b hb).trans e) f0 f1 f3 f4 f5
  obtain⟨o,e,c,d⟩:=id st';exact⟨u,rfl,A8 (s:={ s with heap:=h' }) e c d (by decide) ⟨x,H,I1,ru,⟨rfl,λys hy=>by rw[I.JB hy hq];exact hx⟩,st',λb hb=>(hf b hb).1⟩⟩
 done:=by
  intro X hP hw hK hc i pins s σ H E I hf st hg;subst hP hw hK;obtain⟨xs,hq,hx⟩:=hg;obtain⟨its,rv,p,hz⟩:=I.list hq;obtain⟨f0,f1,f2,f3,f4,f5⟩:=hf it (by simp)
  have hl:=rv.length;exact PY (I.ok.hd hc) st p.isList (by simp;omega) λh' eb=>⟨rfl,I.turned (t':=s.toks) (λb o hb e=>eb b o hb e) f0 f1 f3 f4 f5⟩
 self:=λ_ _ _ _ _ st h=>wpAny_pyIter_listiter st h
theorem vI {P:KS}{w:LA}{K:Km}{tg:Expr}(a it:Addr):yX P w K tg (Itt K a) [it] it (λi h=>h.IsTupleIter it a i) where
 mem:=by simp
 obj:=λi h st b hb=>by
  have e:b=it:=by simpa using hb
  subst e;obtain⟨o,e,c,d⟩:=st;exact⟨o,e,λv z=>by rw[d]at z;cases z⟩
 keep:=λi h h' st k=>st.at λo e=>k it (by simp) o e
 item:=by
  intro X hP hw hK hc i pins s σ H E I hf st hg;subst hP hw hK;obtain⟨xs,x,hq,hx⟩:=hg;obtain⟨its,rv,p,hz⟩:=I.tuple hq;obtain⟨u,hu,ru⟩:=rv.get hx;obtain⟨f0,f1,f2,f3,f4,f5⟩:=hf it (by simp)
  refine wpAny_pyNext_tuple_item st (show s.heap.IsTuple a its.toArray from p) (x:=u) (by simpa using hu) λh' st' sb=> ?_
  have I1:Inv X pins σ H { s with heap:=h' }:=I.turned (t':=s.toks) (λb o hb e=>(sb.2 b hb).trans e) f0 f1 f3 f4 f5
  obtain⟨o,e,c,d⟩:=id st';exact⟨u,rfl,A8 (s:={ s with heap:=h' }) e c d (by decide) ⟨x,H,I1,ru,⟨rfl,λys hy=>by rw[I.Ju hy hq];exact hx⟩,st',λb hb=>(hf b hb).1⟩⟩
 done:=by
  intro X hP hw hK hc i pins s σ H E I hf st hg;subst hP hw hK;obtain⟨xs,hq,hx⟩:=hg;obtain⟨its,rv,p,hz⟩:=I.tuple hq;obtain⟨f0,f1,f2,f3,f4,f5⟩:=hf it (by simp)
  have hl:=rv.length;exact wpAny_pyNext_tuple_end (I.ok.hd hc) st (show s.heap.IsTuple a its.toArray from p) (by simp;omega) λh' eb=>⟨rfl,I.turned (t':=s.toks) (λb o hb e=>eb b o hb e) f0 f1 f3 f4 f5⟩
 self:=λ_ _ _ _ _ st h=>wpAny_pyIter_tupleiter st h
theorem vJ {P:KS}{w:LA}{K:Km}{tg:Expr}(it:Addr)(lo:Int)(n:Nat):yX P w K tg (Itr lo n) [it] it (λi h=>IsRangeIter h it (lo+(i:Nat)*1) ((n:Int) - (i:Nat)) 1) where
 mem:=by simp
 obj:=λi h st b hb=>by
  have e:b=it:=by simpa using hb
  subst e
  exact⟨_,st,λv z=>by
   have z':R4 _=Qy v:=z;cases z'⟩
 keep:=λi h h' st k=>k it (by simp) _ st
 item:=by
  intro X hP hw hK hc i pins s σ H E I hf st hg;subst hP hw hK;obtain⟨f0,f1,f2,f3,f4,f5⟩:=hf it (by simp)
  have W:=Walks.range (prog:=X.prog) (w:=X.w) (I.ok.hd hc) it lo 1 n;refine W.item i s _ _ hg st λv h' tk hv st' kk=> ?_
  obtain⟨t,rfl⟩:=hv
  have I1:Inv X pins σ H { s with heap:=h',toks:=tk }:=I.turned (λb o hb e=>kk b o (by simpa using hb) e) f0 f1 f3 f4 f5
  refine⟨_,rfl,A8 (s:={ s with heap:=h',toks:=tk }) (n:="range_iterator") st' rfl rfl (by decide) ⟨.int (lo+i),H,I1,⟨t,?_⟩,⟨rfl,rfl⟩,st',λb hb=>(hf b hb).1⟩⟩
  rw[Int.mul_one]
 done:=by
  intro X hP hw hK hc i pins s σ H E I hf st hg;subst hP hw hK;obtain⟨f0,f1,f2,f3,f4,f5⟩:=hf it (by simp)
  exact wpAny_pyNext_range_end (I.ok.hd hc) st (by have:n<=i:=hg;omega) λh' eb=>⟨rfl,I.turned (t':=s.toks) (λb o hb e=>eb b o hb e) f0 f1 f3 f4 f5⟩
 self:=λ_ _ _ _ _ st h=>wpAny_pyIter_rangeiter st h
section
variable {X:Cx}{tg:Expr}
def Ir (K:Km)(tl:TE):TI:=λσ H R=>tl σ H λx H1=> ∃a,x= .ref a/\(∃xs,SqL K H1 a xs)/\R (Itl K a) H1
def iTup (K:Km)(tl:TE):TI:=λσ H R=>tl σ H λx H1=> ∃a,x= .ref a/\(∃xs,SqT K H1 a xs)/\R (Itt K a) H1
theorem CO {l:Expr}{tl:TE}(hl:PE X l tl):PI X tg l (Ir X.K tl):=by
 intro pins s σ H R I h;refine cr (hl pins s σ H _ I h) λv s1 hh_=> ?_
 obtain⟨x,H1,I1,r1,q1⟩:=hh_;obtain⟨a,e,⟨xs,hq⟩,q⟩:=q1;subst e;cases r1;obtain⟨its,rv,p,hz⟩:=I1.list hq;refine N1 p.isList ?_
 refine⟨s1.heap.objs.size,[s1.heap.objs.size],_,_,H1,rfl,I1.kept (t':=s1.toks) λb o e=>Kv _ e,x5 a _,⟨_,KI _ rfl,rfl,rfl⟩,λb hb=> ?_,q⟩
 have e:b=s1.heap.objs.size:=by simpa using hb
 subst e;exact I1.JG (KB _) (I1.hok.fresh (KB _))
theorem Fz {l:Expr}{tl:TE}(hl:PE X l tl):PI X tg l (iTup X.K tl):=by
 intro pins s σ H R I h;refine cr (hl pins s σ H _ I h) λv s1 hh_=> ?_
 obtain⟨x,H1,I1,r1,q1⟩:=hh_;obtain⟨a,e,⟨xs,hq⟩,q⟩:=q1;subst e;cases r1;obtain⟨its,rv,p,hz⟩:=I1.tuple hq;refine M0 (show s1.heap.IsTuple a its.toArray from p) ?_
 refine⟨s1.heap.objs.size,[s1.heap.objs.size],_,_,H1,rfl,I1.kept (t':=s1.toks) λb o e=>Kv _ e,vI a _,⟨_,KI _ rfl,rfl,rfl⟩,λb hb=> ?_,q⟩
 have e:b=s1.heap.objs.size:=by simpa using hb
 subst e;exact I1.JG (KB _) (I1.hok.fresh (KB _))
theorem k9 {pins:List (Addr×Obj)}{σ:St}{H:Hp}{s:Kt}{R:It->Hp->Prop}{E:Kq->Kt->Prop}{lo hi:Int}{t u v:Tok}{tk:Nat}(I:Inv X pins σ H s)(h1 : -(2 ^ 62)<=lo)(h2:lo<2 ^ 62)(h3 : -(2 ^ 62)<=hi)(h4:hi<2 ^ 62)
  (q:R (Itr lo (hi - lo).toNat) H):wpAny (model X.prog X.w) X.A (pyIter (.ref s.heap.objs.size)) (PIE X pins σ tg R) E { s with heap:=s.heap.push { cls:=.type "range",data:=.fields #[.int lo t,.int hi u,.int 1 v] },toks:=tk }:=by
 refine wpAny_pyIter_range (IsRange.new ..) (small_one h1 h2 h3 h4) ?_
 have I1:Inv X pins σ H { s with heap:=s.heap.push { cls:=.type "range",data:=.fields #[.int lo t,.int hi u,.int 1 v] },toks:=tk }:=I.kept λb o e=>Kv _ e
 refine⟨(s.heap.push { cls:=.type "range",data:=.fields #[.int lo t,.int hi u,.int 1 v] }).objs.size,[(s.heap.push { cls:=.type "range",data:=.fields #[.int lo t,.int hi u,.int 1 v] }).objs.size],_,_,H,rfl,
  I1.kept (t':=tk) λb o e=>Kv _ e,vJ _ lo (hi - lo).toNat,?_,λb hb=> ?_,q⟩
 ·have e1:lo+((0:Nat):Int)*1=lo:=by simp
  have e2:(((hi - lo).toNat:Nat):Int) - ((0:Nat):Int)=Builtin.Range.rangeSize lo hi 1:=by rw[rangeSize_one];split <;> omega
  show IsRangeIter _ _ (lo+((0:Nat):Int)*1) ((((hi - lo).toNat:Nat):Int) - ((0:Nat):Int)) 1
  rw[e1,e2];exact KI _ rfl
 ·have e:b=(s.heap.push { cls:=.type "range",data:=.fields #[.int lo t,.int hi u,.int 1 v] }).objs.size:=by simpa using hb
  subst e;exact I1.JG (KB _) (I1.hok.fresh (KB _))
def tFor (wi:TI)(g:TG)(tb:TS):TS:=λD σ H=>wi σ H λJ H1=> ∃W:Nat->Nat->St->Hp->Prop,(∃m,W 0 m σ H1)/\∀i m σ H,W i m σ H →
 (J.stop i H/\D.nx σ H)\/(J.go i H/\∃N:St->Hp->Prop,(∀σ' H',N σ' H'->∃m',m'<m/\W (i+1) m' σ' H')/\∀x H',J.yld i H x H'->g x σ H' λσ2 H2=>tb { D with nx:=N,ct:=N,bk:=D.nx } σ2 H2)
def oh (fp:List Addr)(h:Heap):List (Addr×Obj):=fp.filterMap λb=>(h.get? b).map λo=>(b,o)
theorem iC {fp:List Addr}{h:Heap}{b:Addr}{o:Obj}(hb:b∈fp)(e:h.get? b=some o):(b,o)∈oh fp h:=OQ.mpr ⟨b,hb,by rw[e];rfl⟩
theorem yk {fp:List Addr}{h:Heap}{p:Addr×Obj}(hp:p∈oh fp h):p.1∈fp/\h.get? p.1=some p.2:=by
 obtain⟨b,hb,e⟩:=OQ.mp hp
 cases q:h.get? b with
 | none=>rw[q]at e;cases e
 | some o=>
  rw[q]at e
  have e':(b,o)=p:=K7 e;subst e';exact⟨hb,q⟩
theorem Inv.pinned {pins:List (Addr×Obj)}{σ:St}{H:Hp}{s:Kt}{fp:List Addr}(I:Inv X pins σ H s)(hf:∀b∈fp,nh X pins H b)(ho:∀b∈fp,∃o,s.heap.get? b=some o/\∀v,o.data≠ .cell v):Inv X (pins++oh fp s.heap) σ H s:=
 I.JJ λp hp=>(K4.mp hp).elim (λz=>I.pin p (KU _ z)) λz=>by
  obtain⟨hb,e⟩:=yk z;obtain⟨f0,f1,f2,_⟩:=hf p.1 hb;obtain⟨o,e',d⟩:=ho p.1 hb;rw[e]at e';cases e';exact⟨e,f0,f1,f2,d⟩
theorem Inv.Jr {pins pl:List (Addr×Obj)}{σ:St}{H:Hp}{s:Kt}(I:Inv X (pins++pl) σ H s):Inv X pins σ H s:=I.JJ λp hp=>I.pin p (KU _ (Lg _ hp))
end
abbrev R2:=V->V->Hp->VK->Prop
def pA (X:Cx)(f:Kq->Kq->Sem Kq)(r:R2):Prop:=
 ∀(pins:List (Addr×Obj)) (s:Kt) (σ:St) (H:Hp) (x y:V) (v u:Kq) (Q:VK),Inv X pins σ H s->RelV x v->RelV y u->r x y H Q →
  wpAny (model X.prog X.w) X.A (f v u) (EP X pins σ Q) X.xe s
def UnR (X:Cx)(f:Kq->Sem Kq)(r:V->Hp->VK->Prop):Prop:=
 ∀(pins:List (Addr×Obj)) (s:Kt) (σ:St) (H:Hp) (x:V) (v:Kq) (Q:VK),Inv X pins σ H s->RelV x v->r x H Q →
  wpAny (model X.prog X.w) X.A (f v) (EP X pins σ Q) X.xe s
def CallR (X:Cx)(f:Kq)(r:List V->Hp->VK->Prop):Prop:=
 ∀(pins:List (Addr×Obj)) (s:Kt) (σ:St) (H:Hp) (xs:List V) (us:List Kq) (Q:VK),Inv X pins σ H s->Vals xs us->r xs H Q →
  wpAny (model X.prog X.w) X.A (call f us) (EP X pins σ Q) X.xe s
def tOp (r:R2)(ta tb:TE):TE:=λσ H Q=>ta σ H λx H1=>tb σ H1 λy H2=>r x y H2 Q
def tUn (r:V->Hp->VK->Prop)(ta:TE):TE:=λσ H Q=>ta σ H λx H1=>r x H1 Q
def rI (C:Int->Int->Prop)(g:Int->Int->V):R2:=λx y H Q=> ∃i j,x= .int i/\y= .int j/\C i j/\Q (g i j) H
def D7 (g:Int->Int->V):R2:=λx y H Q=> ∃i j,x= .int i/\y= .int j/\Q (g i j) H
def rU (g:Int->V):V->Hp->VK->Prop:=λx H Q=> ∃i,x= .int i/\Q (g i) H
section
variable {X:Cx}{a b c:Expr}{ta tb tc:TE}{pos:Pos}
theorem IE (ha:PE X a ta)(hb:PE X b tb){pins:List (Addr×Obj)}{s:Kt}{σ:St}{H:Hp}{R:V->V->Hp->Prop}(I:Inv X pins σ H s)
  (h:ta σ H λx H1=>tb σ H1 λy H2=>R x y H2) {Q:Kq->Kt->Prop} {f:Kq->Kq->Sem Kq}
  (hf:∀v u s2 x y H2,Inv X pins σ H2 s2->RelV x v->RelV y u->R x y H2->wpAny (model X.prog X.w) X.A (f v u) Q X.xe s2) :
  wpAny (model X.prog X.w) X.A (eval a X.env) (λv s₁=>wpAny (model X.prog X.w) X.A (eval b X.env) (λu s₂=>wpAny (model X.prog X.w) X.A (f v u) Q X.xe s₂) X.xe s₁) X.xe s:=by
 refine cr (ha pins s σ H _ I h) λv s1 hh_=> ?_
 obtain⟨x,H1,I1,r1,q1⟩:=hh_;refine cr (hb pins s1 σ H1 _ I1 q1) λu s2 hh_=> ?_
 obtain⟨y,H2,I2,r2,q2⟩:=hh_;exact hf v u s2 x y H2 I2 r1 r2 q2
theorem HG {op:Operator}{r:R2}(ho:pA X (Mh op) r)(ha:PE X a ta)(hb:PE X b tb):PE X (.BinOp a op b pos) (tOp r ta tb):=by
 intro pins s σ H Q I h;exact wpAny_BinOp (IE ha hb I h λv u s2 x y H2 I2 rx ry q=>ho pins s2 σ H2 x y v u Q I2 rx ry q)
theorem HE {op:UnaryOp}{r:V->Hp->VK->Prop}(ho:UnR X (unaryOp op) r)(ha:PE X a ta):PE X (.UnaryOp op a pos) (tUn r ta):=by
 intro pins s σ H Q I h;exact UnaryOp_ (cr (ha pins s σ H _ I h) λv s1 ⟨x,H1,I1,r1,q1⟩=>ho pins s1 σ H1 x v Q I1 r1 q1)
theorem opI {f:Kq->Kq->Sem Kq}{C:Int->Int->Prop}{g:Int->Int->Int}
  (rule:∀(i j:Int) (t u:Tok) (s:Kt) (Q:Kq->Kt->Prop) (E:Kq->Kt->Prop),C i j->Q (.int (g i j) s.toks) { s with toks:=s.toks+1 }->wpAny (model X.prog X.w) X.A (f (.int i t) (.int j u)) Q E s) :
  pA X f (rI C λi j=> .int (g i j)):=by
 intro pins s σ H x y v u Q I rx ry h;obtain⟨i,j,rfl,rfl,hc,q⟩:=h;obtain⟨t,rfl⟩:=rx;obtain⟨t',rfl⟩:=ry;exact rule i j t t' s _ _ hc ⟨.int (g i j),H,I.tok _,⟨_,rfl⟩,q⟩
theorem HN {f:Kq->Kq->Sem Kq}{g:Int->Int->Int}
  (rule:∀(i j:Int) (t u:Tok) (s:Kt) (Q:Kq->Kt->Prop) (E:Kq->Kt->Prop),Q (.int (g i j) s.toks) { s with toks:=s.toks+1 }->wpAny (model X.prog X.w) X.A (f (.int i t) (.int j u)) Q E s) :
  pA X f (D7 λi j=> .int (g i j)):=by
 intro pins s σ H x y v u Q I rx ry h;obtain⟨i,j,rfl,rfl,q⟩:=h;obtain⟨t,rfl⟩:=rx;obtain⟨t',rfl⟩:=ry;exact rule i j t t' s _ _ ⟨.int (g i j),H,I.tok _,⟨_,rfl⟩,q⟩
theorem FO {f:Kq->Kq->Sem Kq}{g:Int->Int->Bool}
  (rule:∀(i j:Int) (t u:Tok) (s:Kt) (Q:Kq->Kt->Prop) (E:Kq->Kt->Prop),Q (.bool (g i j)) s->wpAny (model X.prog X.w) X.A (f (.int i t) (.int j u)) Q E s) :
  pA X f (D7 λi j=> .bl (g i j)):=by
 intro pins s σ H x y v u Q I rx ry h;obtain⟨i,j,rfl,rfl,q⟩:=h;obtain⟨t,rfl⟩:=rx;obtain⟨t',rfl⟩:=ry;exact rule i j t t' s _ _ ⟨.bl (g i j),H,I,rfl,q⟩
def CDiv (i j:Int):Prop:=0<j/\j<1073741824
def CMul (i j:Int):Prop:=(-(2 ^ 64)<i/\i<2 ^ 64)\/(-(2 ^ 64)<j/\j<2 ^ 64)
theorem CMul.ok {i j:Int}(h:CMul i j):IntMulOk i j:=by
 rcases h with⟨h1,h2⟩ | ⟨h1,h2⟩
 ·exact .of_left (intBits_le_64 h1 h2)
 ·exact .of_right (intBits_le_64 h1 h2)
theorem FN:pA X (Mh .Add) (D7 λi j=> .int (i+j)):=HN λ_ _ _ _ _ _ _ q=>add_int q
theorem FI:pA X (Mh .Sub) (D7 λi j=> .int (i - j)):=HN λ_ _ _ _ _ _ _ q=>sub_int q
theorem FK:pA X (Mh .Mult) (rI CMul λi j=> .int (i*j)):=opI λ_ _ _ _ _ _ _ hc q=>mul_int q hc.ok
theorem CW:pA X (Mh .FloorDiv) (rI CDiv λi j=> .int (i / j)):=opI λi j _ _ _ _ _ hc q=>by
 have h1:(0:Int)<j:=hc.1
 have h2:j<1073741824:=hc.2;exact floordiv_int (by omega) (by rw[Int.fdiv_eq_ediv_of_nonneg i (by omega)];exact q) (.inl (PyProof.noPylong_small (by omega)))
theorem FL:pA X (Mh .Mod) (rI (λ_ j=>0<j) λi j=> .int (i % j)):=opI λi j _ _ _ _ _ hc q=>by
 have h1:(0:Int)<j:=hc;exact mod_int' (by omega) (by rw[Int.fmod_eq_emod_of_nonneg i (by omega)];exact q)
theorem unI {f:Kq->Sem Kq}{g:Int->Int}
  (rule:∀(i:Int) (t:Tok) (s:Kt) (Q:Kq->Kt->Prop) (E:Kq->Kt->Prop),Q (.int (g i) s.toks) { s with toks:=s.toks+1 }->wpAny (model X.prog X.w) X.A (f (.int i t)) Q E s) :
  UnR X f (rU λi=> .int (g i)):=by
 intro pins s σ H x v Q I rx h;obtain⟨i,rfl,q⟩:=h;obtain⟨t,rfl⟩:=rx;exact rule i t s _ _ ⟨.int (g i),H,I.tok _,⟨_,rfl⟩,q⟩
theorem Ey:UnR X (unaryOp .USub) (rU λi=> .int (-i)):=unI λ_ _ _ _ _ q=>neg_int q
end
def scal:V->V->Bool
 | .non,.non=>true | .non,.int _=>true | .int _,.non=>true | .non,.bl _=>true | .bl _,.non=>true | .non,.str _=>true | .str _,.non=>true
 | .int _,.int _=>true | .bl _,.bl _=>true | .str _,.str _=>true | .byt _,.byt _=>true
 | .int _,.str _=>true | .str _,.int _=>true | .bl _,.str _=>true | .str _,.bl _=>true
 | _,_=>false
def rNe:R2:=λx y H Q=>scal x y=true/\Q (.bl (!decide (x=y))) H
theorem Dq {i j:Int}:decide (V.int i=V.int j)=(i == j):=by
 rw[NG];simp
theorem GD {i j:Bool}:decide (V.bl i=V.bl j)=(i == j):=by
 rw[NG];simp
theorem Dp {i j:Str}:decide (V.str i=V.str j)=(i == j):=by
 rw[NG];simp
theorem Dr {i j:Array UInt8}:decide (V.byt i=V.byt j)=(i.toList == j.toList):=by
 rw[NG];cases i;cases j;simp
section
variable {X:Cx}{a b c:Expr}{ta tb tc:TE}{pos:Pos}
theorem dP {pins:List (Addr×Obj)}{σ:St}{H:Hp}{s:Kt}{Q:VK}{k k':Bool}(I:Inv X pins σ H s)(q:Q (.bl k) H)(e:k=k'):EP X pins σ Q (.bool k') s:=by
 subst e;exact⟨.bl k,H,I,rfl,q⟩
theorem HJ:pA X (Ls .NotEq) rNe:=by
 intro pins s σ H x y v u Q I rx ry h;obtain⟨hs,q⟩:=h
 cases x with
 | non=>
  cases rx
  cases y with
  | non=>cases ry;exact PySem.EqNone.ne_none_none (dP I q (by simp))
  | bl j=>cases ry;exact PySem.EqNone.ne_none_bool (dP I q (by simp))
  | int j=>obtain⟨t',rfl⟩:=ry;exact PySem.EqNone.ne_none_int (dP I q (by simp))
  | str j=>obtain⟨t',rfl⟩:=ry;exact PySem.EqNone.ne_none_str (dP I q (by simp))
  | _=>exact absurd (show false=true from hs) KO
 | bl i=>
  cases rx
  cases y with
  | non=>cases ry;exact PySem.EqNone.ne_bool_none (dP I q (by simp))
  | bl j=>cases ry;exact ne_bool (dP I q (congrArg not GD))
  | str j=>obtain⟨t',rfl⟩:=ry;exact PySem.EqMixed.ne_bool_str (dP I q (by simp))
  | _=>exact absurd (show false=true from hs) KO
 | int i=>
  obtain⟨t,rfl⟩:=rx
  cases y with
  | non=>cases ry;exact PySem.EqNone.ne_int_none (dP I q (by simp))
  | int j=>obtain⟨t',rfl⟩:=ry;exact ne_int (dP I q (congrArg not Dq))
  | str j=>obtain⟨t',rfl⟩:=ry;exact PySem.EqMixed.ne_int_str (dP I q (by simp))
  | _=>exact absurd (show false=true from hs) KO
 | str i=>
  obtain⟨t,rfl⟩:=rx
  cases y with
  | non=>cases ry;exact PySem.EqNone.ne_str_none (dP I q (by simp))
  | bl j=>cases ry;exact PySem.EqMixed.ne_str_bool (dP I q (by simp))
  | int j=>obtain⟨t',rfl⟩:=ry;exact PySem.EqMixed.ne_str_int (dP I q (by simp))
  | str j=>obtain⟨t',rfl⟩:=ry;exact ne_str (dP I q (congrArg not Dp))
  | _=>exact absurd (show false=true from hs) KO
 | byt i=>
  obtain⟨t,rfl⟩:=rx
  cases y with
  | byt j=>obtain⟨t',rfl⟩:=ry;exact PySem.W.ne_bytes (dP I q (congrArg not Dr))
  | _=>exact absurd (show false=true from hs) KO
 | _=>cases y <;> exact absurd (show false=true from hs) KO
theorem HK:pA X (Ls .Lt) (D7 λi j=> .bl (decide (i<j))):=FO λ_ _ _ _ _ _ _ q=>lt_int q
theorem HL:pA X (Ls .LtE) (D7 λi j=> .bl (decide (i<=j))):=FO λ_ _ _ _ _ _ _ q=>le_int q
theorem HM:pA X (Ls .Gt) (D7 λi j=> .bl (decide (j<i))):=FO λ_ _ _ _ _ _ _ q=>gt_int q
theorem FM:pA X (Ls .Is) (λx y H Q=>y= .non/\Q (.bl (decide (x= .non))) H):=by
 intro pins s σ H x y v u Q I rx ry h;obtain⟨rfl,q⟩:=h;cases ry;refine is_none_gen (dP I q ?_)
 cases x <;> first
  | (cases rx;rfl)
  | (obtain⟨t,rfl⟩:=rx;rfl)
theorem CV:pA X (Ls .IsNot) (λx y H Q=>y= .non/\Q (.bl (!decide (x= .non))) H):=by
 intro pins s σ H x y v u Q I rx ry h;obtain⟨rfl,q⟩:=h;cases ry;refine isnot_none_gen (dP I q ?_)
 cases x <;> first
  | (cases rx;rfl)
  | (obtain⟨t,rfl⟩:=rx;rfl)
theorem FV (b:Expr){op:SD}(h:op≠ .In:=by decide)(h2:op≠ .NotIn:=by decide):Ng op b=false:=by
 have e1:(op == CmpOp.In)=false:=by cases op <;> first | rfl | exact absurd rfl h
 have e2:(op == CmpOp.NotIn)=false:=by cases op <;> first | rfl | exact absurd rfl h2
 cases b <;> simp[Ng,e1,e2]
def GW (t:TE):TT:=λσ H Q=>t σ H λx H'=> ∃k,x= .bl k/\Q k H'
theorem CI {op:SD}{r:R2}(ho:pA X (Ls op) r)(ha:PE X a ta)(hb:PE X b tb)(hm:Ng op b=false):PT X (.Compare a [op] [b] pos) (GW (tOp r ta tb)):=by
 intro pins s σ H Q I h
 refine PZ (cr (ha pins s σ H _ I h) λv s1 ⟨x,H1,I1,r1,q1⟩=>cr (hb pins s1 σ H1 _ I1 q1) λu s2 ⟨y,H2,I2,r2,q2⟩=>
  cr (ho pins s2 σ H2 x y v u _ I2 r1 r2 q2) λc s3 ⟨z,H3,I3,r3,k,e,q3⟩=> ?_) hm
 subst e;cases r3;exact LJ ⟨H3,I3,q3⟩
theorem oQ:(sizeLine:Nat)<2 ^ 63:=by rw[Mx];decide
theorem v4:pA X (Mh .Add) (λx y H Q=> ∃i j,x= .str i/\y= .str j/\i.length+j.length<=sizeLine/\Q (.str (i++j)) H):=by
 intro pins s σ H x y v u Q I rx ry h;obtain⟨i,j,rfl,rfl,hz,q⟩:=h;obtain⟨t,rfl⟩:=rx;obtain⟨t',rfl⟩:=ry;exact add_str (λt' tk=>⟨.str (i++j),H,I.tok _,⟨_,rfl⟩,q⟩) hz
theorem kS {x:V}{us:List Kq}(r:Vals [x] us):∃u,us= [u]/\RelV x u:=by
 cases r with
 | cons r1 r2=>cases r2;exact⟨_,rfl,r1⟩
theorem zl {x y:V}{us:List Kq}(r:Vals [x,y] us):∃u w',us= [u,w']/\RelV x u/\RelV y w':=by
 cases r with
 | cons r1 r2=>
  cases r2 with
  | cons r3 r4=>cases r4;exact⟨_,_,rfl,r1,r3⟩
theorem yV:CallR X (.type "int") (λxs H Q=>(∃i,xs= [.int i]/\Q (.int i) H)\/∃k,xs= [.bl k]/\Q (.int (if k then 1 else 0)) H):=by
 intro pins s σ H xs us Q I r h;rcases h with⟨i,rfl,q⟩ | ⟨k,rfl,q⟩
 ·obtain⟨u,rfl,t,rfl⟩:=kS r
  exact call_int_int ⟨.int i,H,I,⟨_,rfl⟩,q⟩
 ·obtain⟨u,rfl,r1⟩:=kS r
  cases r1;exact call_int_bool ⟨.int (if k then 1 else 0),H,I.tok _,⟨_,rfl⟩,q⟩
end
structure ObjM (h:Heap)(x dx C:Addr)(mA:Str->Option Kq):Prop where
 obj:h.get? x=some (PB C dx)
 ns:h.Ns1 dx mA
 ne:dx≠x
theorem yz {h:Heap}{dx:Addr}{mA:Str->Option Kq}(n:h.Ns1 dx mA):∃od,h.get? dx=some od/\∀name,Qc name od=some (mA name):=by
 obtain⟨o,es,ep,ho,hd,hk,_,hm⟩:=n;refine⟨o,ho,λname=> ?_⟩
 have e:=hm name;unfold nsFind findBy at e;rw[<-Qz]at e
 unfold Qc;rw[hd]
 dsimp only
 split
 ·rename_i y q
  rw[q]at e;exact congrArg some e
 ·rename_i q
  rw[q]at e
  have a:es.toList.any (·.refKey)=false:=by
   rw[O0];intro y hy;obtain⟨z,t,hkey⟩:=hk y (Array.mem_toList_iff.mp hy);simp[DictEntry.refKey,hkey]
  have a':¬ es.toList.any (·.refKey)=true:=by rw[a];exact KO
  rw[if_neg a'];exact congrArg some e
theorem ObjM.look {h:Heap}{x dx C:Addr}{mA:Str->Option Kq}(I:ObjM h x dx C mA):∃od,PySem.W.InstAt h x (PB C dx) C (some od)/\∀name,Qc name od=some (mA name):=
 let ⟨od,ho,hl⟩:=yz I.ns
 ⟨od,⟨I.obj,rfl,rfl,ho⟩,hl⟩
theorem RelO.some_of {v:V}{o:Option Kq}(r:RelO (some v) o):∃u,o=some u/\RelV v u:=by
 cases o with
 | none=>exact(show False from r).elim
 | some u=>exact⟨u,rfl,r⟩
section
variable {P:KS}{w:LA}{H H':Hp}{h h':Heap}{a C dx:Addr}{fs fs':List (Str×V)}
theorem Dg (hok:HOk P w H h)(e:H a=some (.ins C dx fs)):∃mA,ObjM h a dx C mA/\(∀f,RelO (fs.lookup f) (mA f))/\PySem.Within mA (fs.map (·.1))/\fs.length<=1000/\H dx=some (.own a):=by
 obtain⟨d,z,ne,ob,mA,n,r,q⟩:=(show ObjOk P w H h a (.ins C dx fs)from hok a _ e)
 exact⟨mA,⟨ob,n,ne⟩,r,q,z,d⟩
end
structure Cls (K:Km)(C:Addr):Prop where
 pg:RI K C Str.empty=true
 hd:PySem.W.hasDictIn K C=true
 po:PySem.W.plainOver K C=true
 sa:PySem.W.findIn K (.ref C) "__setattr__" =some (some (.builtin "object.__setattr__"))
theorem Cls.get {K:Km}{C:Addr}(c:Cls K C)(f:Str):RI K C f=true:=c.pg
section
variable {X:Cx}{pins:List (Addr×Obj)}{σ:St}{H:Hp}{s:Kt}{A:La}{E:Kq->Kt->Prop}{Q:Kq->Kt->Prop}{c:Kq}{b:Bool}
inductive mn (K:Km) (H:Hp):V->Kq->Prop where
 | non:mn K H .non (.type "NoneType")
 | bl (x:Bool):mn K H (.bl x) (.type "bool")
 | int (i:Int):mn K H (.int i) (.type "int")
 | str (x:Str):mn K H (.str x) (.type "str")
 | flt (x:UInt64):mn K H (.flt x) (.type "float")
 | lst {a:Addr} {xs:List V} (e:H a=some (.lst xs)):mn K H (.ref a) (.type "list")
 | frz {a:Addr} {o:Obj} {xs:List V} (e:H a=some (.frz o (.lst xs))):mn K H (.ref a) (.type "list")
 | tup {a:Addr} {xs:List V} (e:H a=some (.tup xs)):mn K H (.ref a) (.type "tuple")
 | dK {a:Addr} {kvs:List (Key×V)} (e:H a=some (.dK kvs)):mn K H (.ref a) (.type "dict")
 | dT {a:Addr} {kvs:List (List Key×V)} (e:H a=some (.dT kvs)):mn K H (.ref a) (.type "dict")
 | ins {a C dx:Addr} {fs:List (Str×V)} (e:H a=some (.ins C dx fs)) (cl:Cls K C) (ha:PySem.W.findIn K (.ref C) "__class__" =some (some (.builtin "object.__class__")))
   (hn:PySem.W.specialIn K (.builtin "object.__class__") "__get__" =some (some (.builtin "getset_descriptor.__get__"))) (htk:PySem.W.takesIn K (.builtin "object.__class__")=some true)
   (hm:PySem.W.mroIn K C (.type "object")=some true):mn K H (.ref a) (.ref C)
theorem yG {x:V}{u t:Kq}(I:Inv X pins σ H s)(rx:RelV x u)(ty:mn X.K H x t)(e:PySem.W.kitOne X.K t c=some b)(h:∀tk,Q (.bool b) { s with toks:=tk }) :
  wpAny (model X.prog X.w) A (call (.builtin "isinstance") [u,c]) Q E s:=by
 cases ty with
 | non=>cases (show u=Lf from rx);exact LR PySem.W.kitx_none I.kIn Na e (λz=>nomatch z) h
 | bl y=>cases (show u=Lo y from rx);exact LR PySem.W.kitx_bool I.kIn Na e (λz=>nomatch z) h
 | int i=>obtain⟨t,q⟩:=(show ∃t,u=LZ i t from rx);cases q;exact LR PySem.W.kitx_int I.kIn Na e (λz=>nomatch z) h
 | str y=>obtain⟨t,q⟩:=(show ∃t,u=Mk y t from rx);cases q;exact LR PySem.W.kitx_str I.kIn Na e (λz=>nomatch z) h
 | flt y=>obtain⟨t,q⟩:=(show ∃t,u=Value.float y t from rx);cases q;exact LR PySem.W.kitx_float I.kIn Na e (λz=>nomatch z) h
 | @lst a xs ea=>
  cases (show u=KM a from rx)
  obtain⟨_,_,n,_,h1⟩:=(show ObjOk X.prog X.w H s.heap a (.lst xs)from I.hok a _ ea)
  exact LR Q5 I.kIn ⟨_,h1,rfl⟩ e (λz=>nomatch z) h
 | @frz a ob xs ea=>
  cases (show u=KM a from rx)
  obtain⟨_,_,_,n,_,h1⟩:=(show ObjOk X.prog X.w H s.heap a (.frz ob (.lst xs))from I.hok a _ ea)
  exact LR Q5 I.kIn ⟨_,h1,rfl⟩ e (λz=>nomatch z) h
 | @tup a xs ea=>
  cases (show u=KM a from rx)
  obtain⟨_,_,_,p⟩:=(show ObjOk X.prog X.w H s.heap a (.tup xs)from I.hok a _ ea)
  obtain⟨o,h1,h2,_⟩:=p
  exact LR PySem.W.kitx_tuple I.kIn ⟨o,h1,h2⟩ e (λz=>nomatch z) h
 | @dK a kvs ea=>
  cases (show u=KM a from rx)
  obtain⟨_,_,vs,_,p⟩:=(show ObjOk X.prog X.w H s.heap a (.dK kvs)from I.hok a _ ea)
  obtain⟨o,es,ep,h1,h2,_⟩:=p
  exact LR Q6 I.kIn ⟨o,h1,h2.1⟩ e (λz=>nomatch z) h
 | @dT a kvs ea=>
  cases (show u=KM a from rx)
  obtain⟨_,_,xs,_,o,es,ep,h1,h2,_⟩:=(show ObjOk X.prog X.w H s.heap a (.dT kvs)from I.hok a _ ea)
  exact LR Q6 I.kIn ⟨o,h1,h2.1⟩ e (λz=>nomatch z) h
 | @ins a C dx fs ea cl ha hn htk hm=>
  cases (show u=KM a from rx)
  obtain⟨mA,O,_⟩:=Dg I.hok ea;obtain⟨od,J,_⟩:=O.look;exact LR (PySem.W.kitx_own (cl.get _) cl.hd ha hn htk hm) I.kIn J e (λz=>nomatch z) h
end
structure Room (k:Nat)(A:La):Prop where
 hd:A.handled=none
 dp:A.depth+3*k+5<Nr
 un:A.units+16*k+200<cLine
theorem Room.mono {j k:Nat}{A:La}(r:Room k A)(h:j<=k):Room j A:=⟨r.hd,by have:=r.dp;omega,by have:=r.un;omega⟩
theorem Room.deeper {k:Nat}{A:La}(r:Room (k+1) A)(env:Env):Room k (A.deeper env):=
 ⟨r.hd,by have:=r.dp;show A.depth+1+3*k+5<_;omega,by have:=r.un;show A.units+3+16*k+200<_;omega⟩
theorem Room.depth {k:Nat}{A:La}(r:Room k A):A.depth<Nr:=by have:=r.dp;omega
def rB:TA:=λ_ H Q=>Q [] H
def gO (ta:TE)(tr:TA):TA:=λσ H Q=>ta σ H λx H1=>tr σ H1 λxs H2=>Q (x::xs) H2
section
variable {X:Cx}{e:Expr}{es:List Expr}{te:TE}{t:TA}{pos:Pos}
theorem dF:PA X [] rB:=λ_ _ _ _ H Q I h=>NW ⟨[],H,I,.nil,h⟩
theorem bp (ha:PE X e te)(hr:PA X es t)(hs:KG (e::es) X.env=(false,eval e X.env)::KG es X.env:=by rfl):PA X (e::es) (gO te t):=by
 intro pos pins s σ H Q I h;rw[hs]
 show wpAny _ _ (spliced ((false,eval e X.env)::backTo pos (KG es X.env))) _ _ s
 refine NH (cr (ha pins s σ H _ I h) λu s1 hh_=> ?_)
 obtain⟨x,H1,I1,r1,q1⟩:=hh_;exact cr (hr pos pins s1 σ H1 _ I1 q1) λus s2 ⟨xs,H2,I2,r2,q2⟩=>⟨x::xs,H2,I2,.cons r1 r2,q2⟩
def B7 (t:TA):TE:=λσ H Q=>t σ H λxs H1=>xs.length<=sizeLine/\∀p,H1 p=none->Q (.ref p) (upd H1 p (.tup xs))
def tLst (t:TA):TE:=λσ H Q=>t σ H λxs H1=>xs.length<=sizeLine/\∀p,H1 p=none->Q (.ref p) (upd H1 p (.lst xs))
theorem rX {x1}(h:PA X es t):PE X (.Tuple es x1 pos) (B7 t):=by
 intro pins s σ H Q I hq;refine wpAny_Tuple_spliced (cr (h pos pins s σ H _ I hq) λus s1 ⟨xs,H1,I1,r,z,q⟩=>⟨by rw[<-r.length];exact z,?_⟩)
 have hf:H1 s1.heap.objs.size=none:=I1.hok.fresh (KB _);refine⟨.ref s1.heap.objs.size,upd H1 s1.heap.objs.size (.tup xs),I1.laid (t':=s1.toks) (λb u e=>Kv _ e) (KB _) ?_,rfl,q _ hf⟩
 exact⟨z,us,r,⟨_,KI _ rfl,rfl,_,rfl⟩⟩
theorem rY (h:PA X es t):PE X (.List es pos) (tLst t):=by
 intro pins s σ H Q I hq;refine QU (cr (h pos pins s σ H _ I hq) λus s1 ⟨xs,H1,I1,r,z,q⟩=>⟨by rw[<-r.length];exact z,?_⟩)
 have hf:H1 s1.heap.objs.size=none:=I1.hok.fresh (KB _);refine⟨.ref s1.heap.objs.size,upd H1 s1.heap.objs.size (.lst xs),I1.laid (t':=s1.toks) (λb u e=>Kv _ e) (KB _) ?_,rfl,q _ hf⟩
 exact⟨z,us,0,r,KI _ rfl⟩
end
abbrev Sp:=List V->Hp->VK->XK->Prop
abbrev BT:=List Env->Hp->Kt->XK->Kq->Kt->Prop
structure vC (P:KS)(w:LA)(K:Km)(mg:Str->Option Kq)(base:Heap)(A:La)(outer:List Env)(s:Kt)(H:Hp):Prop where
 frames:A.frames=some outer
 mod:Mod K mg base
 bs:∀b o,base.get? b=some o->s.heap.get? b=some o/\H b=none
 bsz:base.objs.size<=s.heap.objs.size
 funs:s.heap.FunFrames base outer
 frf:∀b∈o0 outer,H b=none
 hok:HOk P w H s.heap
 bare:Pj s.gens
def CE (outer:List Env)(P:KS)(w:LA)(H:Hp)(s:Kt)(Q:VK)(u:Kq)(s':Kt):Prop:=
 ∃v H',s'.os=s.os/\Pj s'.gens/\Un (o0 outer) [] H H' s.heap s'.heap/\HOk P w H' s'.heap/\RelV v u/\Q v H'
def CR (CX:BT)(outer:List Env)(P:KS)(w:LA)(H:Hp)(s:Kt)(Q:VK)(E:XK)(r:SA)(s':Kt):Prop:=
 match r with
 | .ok (.ret u)=>CE outer P w H s Q u s'
 | .ok _=>False
 | .error e=>CX outer H s E e s'
structure qt (P:KS)(w:LA)(K:Km)(mg:Str->Option Kq)(base:Heap)(CX:BT)(k:Nat)(f:Addr)(fd:LL)(ps:List Str)(sp:Sp):Prop where
 len:∀vs H Q E,sp vs H Q E->vs.length=ps.length
 run:∀(A:La) (outer:List Env) (s:Kt) (H:Hp) (args:Args) (us:List Kq) (vs:List V) (Q:VK) (E:XK),Room k A->vC P w K mg base A outer s H->Qr s fd args (ps.zip us)->Vals vs us->sp vs H Q E →
  codeAny (model P w) A (.call (.ref f) args) (CR CX outer P w H s Q E) s
section
variable {X:Cx}{pins:List (Addr×Obj)}{σ:St}{H:Hp}{s s':Kt}
theorem Inv.JQ (I:Inv X pins σ H s):vC X.prog X.w X.K X.mg X.base X.A X.stack s H:=
 ⟨I.ok.frames,I.ok.mod,I.bs,K6 I.ok.bsz I.sz,I.stack,I.Jy,I.hok,I.bare⟩
theorem Inv.after {Q:VK}{u:Kq}(I:Inv X pins σ H s)(h:CE X.stack X.prog X.w H s Q u s'):EP X pins σ Q u s':=by
 obtain⟨v,H',os,bare,un,hok,r,q⟩:=h;obtain⟨hh,g,d,t,os'⟩:=s';obtain rfl:os'=s.os:=os;exact⟨v,H',I.call (h':=hh) (g':=g) (d':=d) (t':=t) (ch:=[]) un hok bare (λb z=>absurd z (by simp)),r,q⟩
end
def DV (sp:Sp)(dvs:List V)(E:XK)(t:TA):TE:=λσ H Q=>t σ H λvs H1=>sp (vs++dvs) H1 Q E
def Binds (K:Km)(fd:LL)(ps:List Str)(ds:List Kq):Prop:=
 ∀(s:Kt) (us:List Kq),K.In s.heap->(us++ds).length=ps.length->Qr s fd ⟨us,[]⟩ (ps.zip (us++ds))
theorem Binds.all {K:Km}{fd:LL}{ps:List Str}(h:∀us:List Kq,us.length=ps.length->bindArgs fd ⟨us,[]⟩=pure (ps.zip us)):Binds K fd ps []:=λs us _ hl=>by
 rw[Lc]at hl ⊢;exact .of_eq (h us hl)
def tI (CX:BT)(X:Cx)(E:XK):Prop:=∀(pins:List (Addr×Obj)) (σ:St) (H:Hp) (s:Kt) (e:Kq) (s':Kt),Inv X pins σ H s->CX X.stack H s E e s'->X.xe e s'
section
variable {X:Cx}{CX:BT}{k:Nat}{f C:Addr}{fd:LL}{ps:List Str}{sp:Sp}{dvs:List V}{ds:List Kq}{E:XK}{x m:Str}{p pos apos:Pos}{e o:Expr}{es:List Expr}{ta:TE}{t:TA}
theorem vW {pins:List (Addr×Obj)}{σ:St}{H:Hp}{s:Kt}{Q:VK}{us:List Kq}{vs:List V}(F:qt X.prog X.w X.K X.mg X.base CX k f fd ps sp)(hr:Room k X.A)(hb:Binds X.K fd ps ds)(hd:Vals dvs ds)(hx:tI CX X E)
  (I:Inv X pins σ H s) (r:Vals vs us) (h:sp (vs++dvs) H Q E):wpAny (model X.prog X.w) X.A (call (.ref f) us) (EP X pins σ Q) X.xe s:=by
 have r2:Vals (vs++dvs) (us++ds):=r.append hd
 have hl:(us++ds).length=ps.length:=by rw[<-r2.length];exact F.len _ _ _ _ h
 refine Rj (Od (F.run X.A X.stack s H ⟨us,[]⟩ (us++ds) (vs++dvs) Q E hr I.JQ (hb s us I.kIn hl) r2 h) λr s' hq=> ?_)
 cases r with
 | error e=>exact hx pins σ H s e s' I hq
 | ok fl=>
  cases fl with
  | ret u=>exact I.after hq
  | next=>exact M9 hq
  | brk=>exact M9 hq
  | cont=>exact M9 hq
theorem w4 (F:qt X.prog X.w X.K X.mg X.base CX k f fd ps sp)(hr:Room k X.A)(hg:Gl X x)(hm:X.mg x=some (.ref f))(hk:Me X.K (.ref f)=true)(hb:Binds X.K fd ps ds)(hd:Vals dvs ds)(hx:tI CX X E)
  (ha:PA X (e::es) t) (hdb:gm x:=by decide) (he:KG (e::es) X.env=(false,eval e X.env)::KG es X.env:=by rfl) (hpl:(backTo pos (KG es X.env)).any (·.1)=false:=by rfl) :
  PE X (.Call (.Name x p) (e::es) [] pos) (DV sp dvs E t):=by
 intro pins s σ H Q I h;refine Lr (iG I hg hm ?_ hdb)
 refine ND (h₀:=X.base) I.ok.mod.kin hk (cr (ha pos pins s σ H _ I h) λus s1 ⟨vs,H1,I1,r,q⟩=>⟨I1.kIn,?_⟩) he hpl
 exact vW F hr hb hd hx I1 r q
theorem Ak (F:qt X.prog X.w X.K X.mg X.base CX k f fd ps sp)(hr:Room k X.A)(hg:Gl X x)(hm:X.mg x=some (.ref f))(hk:Me X.K (.ref f)=true)(hb:Binds X.K fd ps ds)(hd:Vals dvs ds)(hx:tI CX X E)
  (hdb:gm x:=by decide):PE X (.Call (.Name x p) [] [] pos) (DV sp dvs E rB):=by
 intro pins s σ H Q I h;refine Lr (iG I hg hm ?_ hdb)
 exact PySem.W.callWith_K0 I.kIn hk (vW (us:=[]) F hr hb hd hx I .nil h)
end
def PK (X:Cx)(kws:List Rk)(t:TA):Prop:=
 ∀(pos:Pos) (pins:List (Addr×Obj)) (s:Kt) (σ:St) (H:Hp) (Q:List V->Hp->Prop),Inv X pins σ H s->t σ H Q->wpAny (model X.prog X.w) X.A (evalAll ((QV pos (OF kws X.env)).map (·.2))) (AP X pins σ Q) X.xe s
structure aA (N P:List Str)(sc:NM):Prop where
 kind:sc.kind= .function
 co:sc.isCoroutine=false
 gen:sc.isGenerator=false
 nd:N.Nodup
 pre:N.take P.length=P
 par:∀x∈P,sc.names.lookup x=some .local\/sc.names.lookup x=some .cell
 nofree:∀y∈sc.names,y.2≠ .free
theorem re {kindOf:Str->Option Nd}{x:Str}:∀{binds:List (Str×Kq)} {m:Str->Option Kq},(∀v,(x,v)∉binds)->bindL kindOf binds m x=m x
 | [],_,_=>rfl
 | (n,v)::r,m,h=>by
  unfold bindL;rw[re λw hw=>h w (Ko _ hw)]
  split
  ·have:x≠n:=by rintro rfl;exact h v Kr
   simp[this]
  ·rfl
theorem rg {kindOf:Str->Option Nd}{x:Str}:∀{binds:List (Str×Kq)} {m:Str->Option Kq},(∀v,(x,v)∉binds)->bindC kindOf binds m x=m x
 | [],_,_=>rfl
 | (n,v)::r,m,h=>by
  unfold bindC;rw[rg λw hw=>h w (Ko _ hw)]
  split
  ·rfl
  ·have:x≠n:=by rintro rfl;exact h v Kr
   simp[this]
theorem rf {kindOf:Str->Option Nd}{x:Str}{v:Kq}:∀{P:List Str} {vs:List Kq} {i:Nat} {m:Str->Option Kq},P.Nodup->P[i]? =some x->vs[i]? =some v->kindOf x=some .local →
  bindL kindOf (P.zip vs) m x=some v
 | [],_,_,_,_,h,_,_=>by simp at h
 | _::_,[],_,_,_,_,h,_=>by simp at h
 | p::P,w::vs,0,m,nd,h1,h2,hk=>by
  simp at h1 h2;subst h1;subst h2
  show bindL kindOf ((p,w)::P.zip vs) m p=_
  unfold bindL;rw[re λv hv=>(K0.mp nd).1 (NI hv).1,if_pos hk]
  simp
 | p::P,w::vs,i+1,m,nd,h1,h2,hk=>by
  show bindL kindOf ((p,w)::P.zip vs) m x=_
  unfold bindL;exact rf (i:=i) (K0.mp nd).2 (by simpa using h1) (by simpa using h2) hk
theorem rh {kindOf:Str->Option Nd}{x:Str}{v:Kq}:∀{P:List Str} {vs:List Kq} {i:Nat} {m:Str->Option Kq},P.Nodup->P[i]? =some x->vs[i]? =some v->kindOf x≠some .local →
  bindC kindOf (P.zip vs) m x=some v
 | [],_,_,_,_,h,_,_=>by simp at h
 | _::_,[],_,_,_,_,h,_=>by simp at h
 | p::P,w::vs,0,m,nd,h1,h2,hk=>by
  simp at h1 h2;subst h1;subst h2
  show bindC kindOf ((p,w)::P.zip vs) m p=_
  unfold bindC;rw[rg λv hv=>(K0.mp nd).1 (NI hv).1,if_neg hk]
  simp
 | p::P,w::vs,i+1,m,nd,h1,h2,hk=>by
  show bindC kindOf ((p,w)::P.zip vs) m x=_
  unfold bindC;exact rh (i:=i) (K0.mp nd).2 (by simpa using h1) (by simpa using h2) hk
def start (N:List Str)(vs:List V):St:=vs.map some++KJ (N.length - vs.length) none
def lJ (CX:BT)(P:KS)(w:LA)(K:Km)(mg:Str->Option Kq)(base:Heap)(N:List Str)(qual:Str)(scope:NM)(f:Addr)(cd:Kq)(A:La)(outer:List Env)(s:Kt)(H:Hp)(E:XK):Cx where
 prog:=P
 w:=w
 K:=K
 mg:=mg
 base:=base
 A:=A.deeper (envOfC qual scope s.heap.objs.size f cd)
 N:=N
 s₀:=s
 H₀:=H
 env:=envOfC qual scope s.heap.objs.size f cd
 outer:=outer
 stack:=envOfC qual scope s.heap.objs.size f cd::outer
 ex:=[]
 calm:=true
 fn:=λ_=>true
 pn:=[]
 xe:=λe s'=>wpAny (model P w) (A.deeper (envOfC qual scope s.heap.objs.size f cd)) (leaving (envOfC qual scope s.heap.objs.size f cd) e) (λ_ s''=>CX outer H s E e s'') (λe' s''=>CX outer H s E e' s'') s'
theorem vz {sc:NM}{n:Nat}{x:Str}(h:sc.names.lookup x=some .cell):∃c,(MG n sc.names []).lookup x=some c:=by
 have q:=MZ sc.names n [] (.inl h);exact Nz.mp q
theorem mf {CX:BT}{P:KS}{w:LA}{K:Km}{mg:Str->Option Kq}{base:Heap}{N ps:List Str}{qual:Str}{scope:NM}{f:Addr}{cd:Kq}{A:La}{outer:List Env}{s s1:Kt}{H:Hp}{E:XK}{us:List Kq}{vs:List V}
  (S:aA N ps scope) (hd:A.handled=none) (e0:vC P w K mg base A outer s H) (hl:vs.length=ps.length) (r:Vals vs us)
  (x:InCallC s s.heap.objs.size (bindL (envOfC qual scope s.heap.objs.size f cd).kindOf (ps.zip us) λ_=>none) (MG (s.heap.objs.size+1) scope.names []) (bindC (envOfC qual scope s.heap.objs.size f cd).kindOf (ps.zip us) λ_=>none) s1) :
  Inv (lJ CX P w K mg base N qual scope f cd A outer s H E) [] (start N vs) H s1:=by
 have hpl:ps.length<=N.length:=by have:=congrArg Lx S.pre;rw[LU]at this;omega
 obtain⟨h1,tk,rfl,hk⟩:=x.done
 have noA:∀b:Addr,b∉(lJ CX P w K mg base N qual scope f cd A outer s H E).ex:=λb z=>absurd (show b∈([]:List Addr)from z) (by simp)
 refine⟨⟨e0.mod,S.kind,rfl,rfl,KB _,λy z c h1 h2=> ?_,λy hy=> ?_,λy c _ h=> ?_,λ_=>hd,P9 e0.frames,.inr ⟨rfl,rfl⟩,λb z=>absurd z (noA b),e0.bs,e0.bsz,λb _ _=>noA b,λb z=>absurd z (noA b),e0.funs,e0.frf⟩,
  rfl,e0.bare,Un.kept hk,⟨_,x.toInCall.ns,λi y v h1 h2 h3=> ?_⟩,λy c h=>⟨_,x.cell y c h⟩,e0.hok.fresh (KB _),λy c h=> ?_,λp hp=>absurd (show p∈([]:List (Addr×Obj))from hp) (by simp),e0.hok.kept hk,?_⟩
 ·exact name_of_addr x.apart (Mv h1) (Mv h2)
 ·have hy:scope.names.lookup y=some .cell\/scope.names.lookup y=some .free:=hy
  rcases hy with hy | hy
  ·exact vz hy
  ·exact absurd rfl (S.nofree _ (Mv hy))
 ·exact Ml (x.above y c (Mv h))
 ·have hi:i<vs.length:=by
   unfold start at h2
   by_cases hi:i<vs.length
   ·exact hi
   ·rw[Ni (by simpa using hi)]at h2
    rw[MU]at h2
    split at h2 <;> cases h2
  have ha:vs[i]? =some v:=by
   unfold start at h2;rw[MK (by simpa using hi),KP]at h2
   cases e:vs[i]? with
   | none=>rw[e]at h2;cases h2
   | some a=>rw[e]at h2;cases h2;rfl
  obtain⟨u,hu,rv⟩:=r.get ha
  have hp:ps[i]? =some y:=by
   rw[<-S.pre,List.getElem?_take_of_lt (by omega)];exact h1
  have ndP:ps.Nodup:=by rw[<-S.pre];exact S.nd.sublist (List.take_sublist _ _)
  refine⟨u,rv,?_⟩
  rcases S.par y (Mr hp)with k | k
  ·exact .inl ⟨k,rf ndP hp hu k⟩
  ·obtain⟨c,e⟩:=vz (n:=s.heap.objs.size+1) k
   refine .inr ⟨.inl k,c,e,?_⟩
   have q:=x.cell y c e;rw[rh ndP hp hu (by show scope.names.lookup y≠_;rw[k];decide)]at q
   exact q
 ·exact e0.hok.fresh (Ml (x.above y c (Mv h)))
 ·unfold start
  show _=N.length
  rw[Kw,Ks,List.length_replicate];omega
theorem Iz {CX:BT}{P:KS}{w:LA}{K:Km}{mg:Str->Option Kq}{base:Heap}{k:Nat}{f:Addr}{name qual:Str}{params:Sq}{body:List Stmt}{scope:NM}{dV kV doc pm cdv ct oc:Kq}{an od:Option Addr}
  {osl:Array (Option Kq)} {N ps:List Str} {sp:Sp} (lk:K.lookup f=some ⟨oc,od,.func (N6 name qual params body scope dV kV doc pm an cdv ct),osl⟩) (hcd:Qd K cdv qual=true) (S:aA N ps scope)
  (len:∀vs H Q E,sp vs H Q E->vs.length=ps.length)
  (hbody:∀(A:La) (outer:List Env) (s:Kt) (H:Hp) (vs:List V) (Q:VK) (E:XK),Room k (A.deeper (envOfC qual scope s.heap.objs.size f cdv))->sp vs H Q E →
   ∃t,PSs (lJ CX P w K mg base N qual scope f cdv A outer s H E) body t/\t { nx:=λ_ H'=>Q .non H',rt:=Q } (start N vs) H) :
  qt P w K mg base CX (k+1) f (N6 name qual params body scope dV kV doc pm an cdv ct) ps sp:=by
 refine⟨len,λA outer s H args us vs Q E hr e0 hb r hsp=> ?_⟩
 have hl:=len _ _ _ _ hsp
 have KX:K.In s.heap:=e0.mod.kin.keeps λb o e=>(e0.bs b o e).1
 have lim:s.heap.NoLimit:=e0.mod.nolimit.keeps λb o e=>(e0.bs b o e).1
 have hkind:∀y∈ps.zip us,scope.names.lookup y.1=some .local\/(scope.names.lookup y.1=some .cell/\((MG (s.heap.objs.size+1) scope.names []).lookup y.1).isSome=true):=λ⟨n,v⟩ hy=>by
  rcases S.par n (NI hy).1 with q | q
  ·exact .inl q
  ·exact .inr ⟨q,MZ _ _ _ (.inl q)⟩
 refine Oe hr.depth (KX _ _ lk) rfl S.co S.gen rfl (OP KX hcd) (hb _ _ _ _ ?_)
 refine Nj S.kind hkind λenv he s1 x=> ?_
 subst he;refine⟨lim.keeps x.toInCall.keep,RE ?_⟩
 obtain⟨t,ht,hq⟩:=hbody A outer s H vs Q E (hr.deeper _) hsp
 have I:Inv (lJ CX P w K mg base N qual scope f cdv A outer s H E) [] (start N vs) H s1:=mf S hr.hd e0 hl r x;refine Mb (ht [] s1 (start N vs) H _ I hq) (λfl s' hs=> ?_) λe s' hs=>hs
 have fin:∀{σ':St} {H':Hp} {v:V} {u:Kq},Inv (lJ CX P w K mg base N qual scope f cdv A outer s H E) [] σ' H' s'->RelV v u->Q v H'->CE outer P w H s Q u s':=
  λ{σ' H' v u} J rv q=>⟨v,H',J.os,J.bare,J.base,J.hok,rv,q⟩
 cases fl with
 | ret u=>
  obtain⟨v,σ',H',J,rv,q⟩:=hs
  exact fin J rv q
 | next=>
  obtain⟨σ',H',J,q⟩:=hs
  exact fin (v:=V.non) (u:=Lf) J rfl q
 | brk=>
  obtain⟨_,_,_,q⟩:=hs
  exact M9 q
 | cont=>
  obtain⟨_,_,_,q⟩:=hs;exact M9 q
end L2
namespace HT
open PySem PyProof.Rows
section
variable {prog:KS}{w:LA}{A:La}{E:Kq->Kt->Prop}{s:Kt}
theorem cat_tup {t b:Addr}{vs ws:List Kq}{Q:Kq->Kt->Prop}(ht:SC s.heap t vs.toArray)(hb:SC s.heap b ws.toArray)(hv:vs≠ [])
  (h1:ws= []->Q (.ref t) s) (h2:ws≠ []->Q (.ref s.heap.objs.size) { s with heap:=s.heap.push { cls:=.type "tuple",data:=.seq (vs++ws).toArray } })
  (hsz:vs.length+ws.length<=sizeLine):wpAny (model prog w) A (Mh .Add (.ref t) (.ref b)) Q E s:=by
 obtain⟨⟨cls,dd,data,sl⟩,ho,hc,n,hd⟩:=id ht;obtain⟨⟨cls2,dd2,data2,sl2⟩,ho2,hc2,n2,hd2⟩:=id hb;simp only at hc hd hc2 hd2;subst hc hd hc2 hd2
 have e:vs.toArray++ws.toArray=(vs++ws).toArray:=by simp
 by_cases hw:ws= []
 ·exact RF ⟨_,ho,rfl⟩ ⟨_,ho2,rfl⟩ Pu QX NR NF (Nx _ _)
   (tuple_addW1 t b vs.toArray ws.toArray n n2 dd dd2 sl sl2 (by simpa using hv) (by simp[hw])) ⟨ho,ho2,h1 hw⟩
 ·refine RF ⟨_,ho,rfl⟩ ⟨_,ho2,rfl⟩ Pu QX NR NF (Nx _ _)
   (tuple_addW2 t b vs.toArray ws.toArray n n2 dd dd2 sl sl2 (by simpa using hv) (by simpa using hw) (by rw[KH,KH];exact hsz)) ⟨ho,ho2,?_⟩
  rw[e];exact h2 hw
def sIx (n d:Nat):Option Int->Nat
 | none=>d
 | some v=>if v<0 then(v+(n:Int)).toNat else min v.toNat n
theorem sIx_none (n d:Nat):sIx n d none=d:=rfl
theorem sIx_nat (n d k:Nat):sIx n d (some (k:Int))=min k n:=by
 show(if (k:Int)<0 then((k:Int)+(n:Int)).toNat else min (k:Int).toNat n)=min k n
 rw[if_neg (by omega),LH]
theorem ES (n d:Nat)(hd:d<=n)(o:Option Int):sIx n d o<=n:=by
 cases o with
 | none=>exact hd
 | some v=>
  show(if v<0 then(v+(n:Int)).toNat else min v.toNat n)<=n
  by_cases hv:v<0
  ·rw[if_pos hv];omega
  ·rw[if_neg hv];exact Nat.min_le_right _ _
theorem xQ (v:Int)(n d:Nat):(if v<0 then max (v+(n:Int)) 0 else min v (n:Int))=((sIx n d (some v):Nat):Int):=by
 show(if v<0 then max (v+(n:Int)) 0 else min v (n:Int))=(((if v<0 then(v+(n:Int)).toNat else min v.toNat n):Nat):Int)
 by_cases hv:v<0
 ·simp only[if_pos hv];omega
 ·simp only[if_neg hv];omega
theorem wE (lo hi:Option Int)(n:Nat):Nm lo hi 1 (n:Int)=(((sIx n 0 lo:Nat):Int),((sIx n n hi:Nat):Int)):=by
 have h1:¬ ((1:Int)<0):=by omega
 unfold Nm;simp only[h1,if_false];refine Prod.ext ?_ ?_
 ·cases lo with
  | none=>rfl
  | some v=>exact xQ v n 0
 ·cases hi with
  | none=>rfl
  | some v=>exact xQ v n n
theorem vY (i j:Nat):MJ (i:Int) (j:Int) 1=j - i:=by
 unfold MJ
 have h1:(1:Int) > 0:=by omega
 simp only[h1,if_true,Int.ediv_one]
 split <;> omega
theorem nY {v:Kq}{o:Option Int}{Q:Option Int->Kt->Prop}(p:QY v o)(h:Q o s):wpAny (model prog w) A (RZ v) Q E s:=by
 cases p with
 | none=>exact slicePart_none h
 | int i t=>exact slicePart_int h
theorem im {sl:Addr}{vl vu:Kq}{lo hi:Option Int}{n:Nat}{Q:Int×Int×Nat->Kt->Prop}(hs:s.heap.IsSliceOf sl vl vu .none)(pl:QY vl lo)(pu:QY vu hi)
  (h:Q (((sIx n 0 lo:Nat):Int),1,sIx n n hi - sIx n 0 lo) s):wpAny (model prog w) A (OG (.ref sl) (pure (n:Int))) Q E s:=by
 obtain⟨os,hos,hcs,hds⟩:=id hs;unfold OG Builtin.Slice.sliceFields;refine Kn (Kn (Ly hos hds (x:=vl) rfl (Kn (Ly hos hds (x:=vu) rfl (Kn (Ly hos hds (x:=.none) rfl (Kz ?_)))))))
 refine Kn (slicePart_none ?_)
 show wpAny _ _ (if ((1:Int) == 0)=true then _ else _) _ _ s
 rw[if_neg (by decide)]
 refine Kn (nY pl (Kn (nY pu (Kn (Kz ?_)))))
 show wpAny _ _ (match Nm lo hi 1 (n:Int)with | (lo,hi)=>pure (lo,(1:Int),MJ lo hi 1)) _ _ s
 rw[wE lo hi n]
 show wpAny _ _ (pure (((sIx n 0 lo:Nat):Int),(1:Int),MJ ((sIx n 0 lo:Nat):Int) ((sIx n n hi:Nat):Int) 1)) _ _ s
 rw[vY];exact Kz h
theorem Ab (xs:Array Kq)(i k:Nat):((Lu k).filterMap λ(m:Nat)=>xs[((i:Int)+(m:Int)*1).toNat]?).toArray=((xs.toList.drop i).take k).toArray:=by
 have e:(λ(m:Nat)=>xs[((i:Int)+(m:Int)*1).toNat]?)=λm=>xs[i+m]?:=by
  funext m
  have:((i:Int)+(m:Int)*1).toNat=i+m:=by omega
  rw[this]
 rw[e]
 have:=pick_run xs i k;rw[List.filterMap_map]at this
 have e2:((λx=>xs[x]?)∘λx=>i+x)=λm=>xs[i+m]?:=rfl
 rw[e2]at this;rw[this]
theorem getItem_tuple_cut {t sl:Addr}{items:Array Kq}{vl vu:Kq}{lo hi:Option Int}{Q:Kq->Kt->Prop}(ht:SC s.heap t items)(hs:s.heap.IsSliceOf sl vl vu .none)(pl:QY vl lo)(pu:QY vu hi)
  (hw:¬ (sIx items.size 0 lo=0/\sIx items.size items.size hi=items.size))
  (h:Q (.ref s.heap.objs.size) { s with heap:=s.heap.push { cls:=.type "tuple",data:=.seq ((items.toList.drop (sIx items.size 0 lo)).take (sIx items.size items.size hi - sIx items.size 0 lo)).toArray } })
  (hsz:items.size<=sizeLine):wpAny (model prog w) A (getItem (.ref t) (.ref sl)) Q E s:=by
 have htake:sizeOk (.seq ((items.toList.drop (sIx items.size 0 lo)).take (sIx items.size items.size hi - sIx items.size 0 lo)).toArray):=by
  show((items.toList.drop (sIx items.size 0 lo)).take (sIx items.size items.size hi - sIx items.size 0 lo)).toArray.size<=sizeLine
  rw[KH,LU,Mp,Mu];omega
 have hj:sIx items.size items.size hi<=items.size:=ES _ _ (KB _) hi;obtain⟨os,hos,hcs,hds⟩:=id hs
 have hTs:s.TypeIs (.ref sl) "slice":=⟨os,hos,hcs⟩;unfold getItem
 try with_reducible refine NP ?_
 first | refine Kn (Kz ?_) | skip
 refine Kn (Rl ht.typeIs (by decide) ?_)
 refine Kn (LM (name:=KL "__getitem__") ht.typeIs Lp
  (Mq Lp ht.typeIs Qs ?_ (QZ _ _)))
 show wpAny _ _ (OH (.ref t) >>= _) _ _ s
 refine Kn (Q0 ht ?_)
 refine Kn (Of hTs ?_)
 rw[if_pos (by decide)]
 refine Kn (im hs pl pu ?_)
 have hno:¬ ((((sIx items.size 0 lo:Nat):Int) == 0&&(1:Int) == 1&&(sIx items.size items.size hi - sIx items.size 0 lo) == items.size)=true):=by
  intro q;rw[Ku,Ku]at q
  have q1:((sIx items.size 0 lo:Nat):Int)=0:=eq_of_beq q.1.1
  have q2:sIx items.size items.size hi - sIx items.size 0 lo=items.size:=eq_of_beq q.2;exact hw ⟨by omega,by omega⟩
 show wpAny _ _ (if (((sIx items.size 0 lo:Nat):Int) == 0&&(1:Int) == 1&&(sIx items.size items.size hi - sIx items.size 0 lo) == items.size)=true then _ else _) _ _ s
 rw[if_neg hno,Ab]
 first
  | exact Kn (m:=Mo _) (Md (Kz ⟨_,rfl,Kz h⟩) htake)
  | exact Kn (m:=Mo _) (Md (Kn (Kz (Kz ⟨_,rfl,Kz h⟩))) htake)
  | exact Kn (Kn (m:=Mo _) (Md (Kz (Kz ⟨_,rfl,Kz h⟩)) htake))
  | exact Kn (Kn (m:=Mo _) (Md (Kz ⟨_,rfl,Kz h⟩) htake))
end
end HT
namespace L2
open PySem PySem.Spec PyProof.Rows
abbrev TO:=St->Hp->(Option Int->Hp->Prop)->Prop
def PO (X:Cx)(e:Option Expr)(t:TO):Prop:=
 ∀(pins:List (Addr×Obj)) (s:Kt) (σ:St) (H:Hp) (Q:Option Int->Hp->Prop),Inv X pins σ H s->t σ H Q →
  wpAny (model X.prog X.w) X.A (evalPart e X.env) (λu s'=> ∃o H',Inv X pins σ H' s'/\QY u o/\Q o H') X.xe s
def B9:TO:=λ_ H Q=>Q none H
def GX (t:TE):TO:=λσ H Q=>t σ H λx H1=> ∃i,x= .int i/\Q (some i) H1
theorem wu {ns:List Int}:∀{us:List Kq},Vals (ns.map V.int) us->Nl us ns:=by
 induction ns with
 | nil=>intro us r;rw[N9]at r;cases r;exact .nil
 | cons n ns ih=>
  intro us r;rw[Kp]at r
  cases r with
  | cons r1 r2=>
   obtain⟨t,e⟩:=r1;subst e;exact .cons n t (ih r2)
section
variable {X:Cx}{e:Expr}{te:TE}{lo hi:Option Expr}{tl th:TO}{pos p2:Pos}
theorem CM:PO X none B9:=by
 intro pins s σ H Q I h;rw[evalPart_none];exact Kz ⟨none,H,I,.none,h⟩
theorem CL (h:PE X e te):PO X (some e) (GX te):=by
 intro pins s σ H Q I hw;rw[evalPart_some];refine cr (h pins s σ H _ I hw) λu s1 hh_=> ?_
 obtain⟨x,H1,I1,r1,q1⟩:=hh_;obtain⟨i,rfl,q⟩:=q1;obtain⟨t,rfl⟩:=r1;exact⟨some i,H1,I1,.int i t,q⟩
def SlR (X:Cx)(r:V->Option Int->Option Int->Hp->VK->Prop):Prop:=
 ∀(pins:List (Addr×Obj)) (s:Kt) (σ:St) (H:Hp) (x:V) (v vl vu:Kq) (lo hi:Option Int) (sl:Addr) (Q:VK),Inv X pins σ H s->RelV x v->s.heap.IsSliceOf sl vl vu .none->QY vl lo->QY vu hi->r x lo hi H Q →
  ∃T id,N3 (.type T) "__getitem__" =pure (some (.builtin id))/\s.TypeIs v T/\wpAny (model X.prog X.w) X.A (getItem v (.ref sl)) (EP X pins σ Q) X.xe s
theorem SlR.or {r r':V->Option Int->Option Int->Hp->VK->Prop}(h:SlR X r)(h':SlR X r'):SlR X (λx lo hi H Q=>r x lo hi H Q\/r' x lo hi H Q):=by
 intro pins s σ H x v vl vu lo hi sl Q I rx hs pl pu q;rcases q with q | q
 ·exact h pins s σ H x v vl vu lo hi sl Q I rx hs pl pu q
 ·exact h' pins s σ H x v vl vu lo hi sl Q I rx hs pl pu q
def tSl (r:V->Option Int->Option Int->Hp->VK->Prop)(te:TE)(tl th:TO):TE:=λσ H Q=>te σ H λx H1=>tl σ H1 λl H2=>th σ H2 λu H3=>r x l u H3 Q
theorem Ae {r:V->Option Int->Option Int->Hp->VK->Prop}(hr:SlR X r)(he:PE X e te)(hl:PO X lo tl)(hu:PO X hi th):PE X (.Subscript e (.Slice lo hi none p2) pos) (tSl r te tl th):=by
 intro pins s σ H Q I h;refine Rm (cr (he pins s σ H _ I h) λv s1 hh_=> ?_)
 obtain⟨x,H1,I1,r1,q1⟩:=hh_;refine wpAny_Slice (cr (hl pins s1 σ H1 _ I1 q1) λvl s2 ⟨l,H2,I2,pl,q2⟩=>cr (hu pins s2 σ H2 _ I2 q2) λvu s3 hh_=> ?_)
 obtain⟨u,H3,I3,pu,q3⟩:=hh_;rw[evalPart_none];refine Kz ?_
 have I4:Inv X pins σ H3 { s3 with heap:=s3.heap.push { cls:=.type "slice",data:=.fields #[vl,vu,.none] } }:=I3.kept (t':=s3.toks) λb ob q=>Kv _ q
 obtain⟨T,id,hT,ht,hg⟩:=hr pins { s3 with heap:=s3.heap.push { cls:=.type "slice",data:=.fields #[vl,vu,.none] } } σ H3 x v vl vu l u s3.heap.objs.size Q I4 r1 (Heap.IsSliceOf.new ..) pl pu q3
 show wpAny (model X.prog X.w) X.A (Q1 e (.Slice lo hi none p2) v (.ref s3.heap.objs.size)) (EP X pins σ Q) X.xe { s3 with heap:=s3.heap.push { cls:=.type "slice",data:=.fields #[vl,vu,.none] } }
 exact tail_any (ops:=[.ref s3.heap.objs.size,v]) ht hT hg (by with_unfolding_all rfl)
def vq (xs:List V)(lo hi:Option Int):List V:=(xs.drop (HT.sIx xs.length 0 lo)).take (HT.sIx xs.length xs.length hi - HT.sIx xs.length 0 lo)
theorem mM (xs:List V)(lo hi:Option Int):(vq xs lo hi).length<=xs.length:=by
 unfold vq;rw[LU,Mp];omega
def rSlT (K:Km):V->Option Int->Option Int->Hp->VK->Prop:=λx lo hi H Q=> ∃a xs,x= .ref a/\SqT K H a xs ∧
 ¬(HT.sIx xs.length 0 lo=0/\HT.sIx xs.length xs.length hi=xs.length)/\∀p,H p=none->Q (.ref p) (upd H p (.tup (vq xs lo hi)))
theorem sl_tup:SlR X (rSlT X.K):=by
 intro pins s σ H x v vl vu lo hi sl Q I rx hs pl pu h;obtain⟨a,xs,rfl,hx,hw,q⟩:=h;cases rx;obtain⟨its,r,ht,hz⟩:=I.tuple hx
 have hlen:its.toArray.size=xs.length:=by rw[KH];exact r.length.symm
 refine⟨"tuple",_,Lp.lookup,ht.typeIs,?_⟩
 refine HT.getItem_tuple_cut ht hs pl pu (by rw[hlen];exact hw) ?_ (by rw[hlen];exact hz)
 rw[hlen];refine⟨.ref s.heap.objs.size,_,I.laid (t':=s.toks) (o:=.tup (vq xs lo hi)) (λb ob q=>Kv _ q) (KB _) ?_,rfl,q _ (I.hok.fresh (KB _))⟩
 exact⟨K6 (mM xs lo hi) hz,_,(r.drop (HT.sIx xs.length 0 lo)).take (HT.sIx xs.length xs.length hi - HT.sIx xs.length 0 lo),R5 _ _⟩
def Hf (K:Km):R2:=λx y H Q=> ∃a b xs ys,x= .ref a/\y= .ref b/\SqT K H a xs/\SqT K H b ys/\xs≠ []/\xs.length+ys.length<=sizeLine ∧
 (ys= []->Q (.ref a) H)/\(ys≠ []->∀p,H p=none->Q (.ref p) (upd H p (.tup (xs++ys))))
theorem Vals.Je {xs:List V}{us:List Kq}(r:Vals xs us):us= [] ↔xs= []:=by
 cases r with
 | nil=>simp
 | cons _ _=>simp
theorem CY:pA X (Mh .Add) (Hf X.K):=by
 intro pins s σ H x y v u Q I rx ry h;obtain⟨a,b,xs,ys,rfl,rfl,ha,hb,hx,hz,q1,q2⟩:=h;cases rx;cases ry;obtain⟨its,r1,p1,_⟩:=I.tuple ha;obtain⟨its2,r2,p2,_⟩:=I.tuple hb;refine HT.cat_tup p1 p2 (λz=>hx (r1.Je.mp z)) (λz=>⟨.ref a,H,I,rfl,q1 (r2.Je.mp z)⟩) (λz=> ?_) (by rw[<-r1.length,<-r2.length];exact hz)
 refine⟨.ref s.heap.objs.size,_,I.laid (t':=s.toks) (o:=.tup (xs++ys)) (λb ob q=>Kv _ q) (KB _) ?_,rfl,q2 (λw=>z (r2.Je.mpr w)) _ (I.hok.fresh (KB _))⟩
 exact⟨by rw[Kw];exact hz,_,r1.append r2,R5 _ _⟩
end
def ixN (n:Nat)(i:Int):Option Nat:=if 0<=i then(if i<n then some i.toNat else none)else if -(n:Int)<=i then some (i+n).toNat else none
def atI {α:Type}(xs:List α)(i:Int):Option α:=(ixN xs.length i).bind λj=>xs[j]?
theorem Dd {n:Nat}{i:Int}{j:Nat}(h:ixN n i=some j):seqIndex? i n=some j/\j<n/\-(n:Int)<=i/\i<n:=by
 unfold ixN at h
 by_cases h0:0<=i
 ·rw[if_pos h0]at h
  by_cases h1:i<n
  ·rw[if_pos h1]at h
   have e:i.toNat=j:=K7 h;exact⟨by rw[seqIndex_of h0 h1,e],by omega,by omega,h1⟩
  ·rw[if_neg h1]at h;cases h
 ·rw[if_neg h0]at h
  by_cases h1 : -(n:Int)<=i
  ·rw[if_pos h1]at h
   have e:(i+n).toNat=j:=K7 h;exact⟨by rw[seqIndex_neg (by omega) h1,e],by omega,h1,by omega⟩
  ·rw[if_neg h1]at h;cases h
theorem tF {α:Type}{xs:List α}{i:Int}{v:α}(h:atI xs i=some v):∃j,seqIndex? i xs.length=some j/\xs[j]? =some v/\j<xs.length/\-(xs.length:Int)<=i/\i<xs.length:=by
 unfold atI at h
 cases e:ixN xs.length i with
 | none=>rw[e]at h;cases h
 | some j=>
  rw[e]at h;obtain⟨h1,h2,h3,h4⟩:=Dd e;exact⟨j,h1,h,h2,h3,h4⟩
def jV (b:Expr):Prop:=∀o i,Qt b false o i=operate [o,i] (getItem o i)
def IxR (X:Cx)(r:R2):Prop:=
 ∀(value slice:Expr) (pins:List (Addr×Obj)) (s:Kt) (σ:St) (H:Hp) (x y:V) (v u:Kq) (Q:VK),Inv X pins σ H s->RelV x v->RelV y u->r x y H Q →
  Qt slice false v u=operate [v,u] (getItem v u)->wpAny (model X.prog X.w) X.A (Q1 value slice v u) (EP X pins σ Q) X.xe s
def MtR (X:Cx)(id:String)(r:V->List V->Hp->VK->Prop):Prop:=
 ∀(pins:List (Addr×Obj)) (s:Kt) (σ:St) (H:Hp) (x:V) (xs:List V) (v:Kq) (us:List Kq) (Q:VK),Inv X pins σ H s->RelV x v->Vals xs us->r x xs H Q →
  wpAny (model X.prog X.w) X.A (call (.builtin id) (v::us)) (EP X pins σ Q) X.xe s
section
variable {X:Cx}{a b:Expr}{ta tb:TE}{pos:Pos}
theorem IxR.or {r r':R2}(h:IxR X r)(h':IxR X r'):IxR X (λx y H Q=>r x y H Q\/r' x y H Q):=by
 intro value slice pins s σ H x y v u Q I rx ry q hs;rcases q with q | q
 ·exact h value slice pins s σ H x y v u Q I rx ry q hs
 ·exact h' value slice pins s σ H x y v u Q I rx ry q hs
theorem HH {r:R2}(hr:IxR X r)(ha:PE X a ta)(hb:PE X b tb)(hs:jV b):PE X (.Subscript a b pos) (tOp r ta tb):=by
 intro pins s σ H Q I h;exact Rm (IE ha hb I h λv u s2 x y H2 I2 rx ry q=>hr a b pins s2 σ H2 x y v u Q I2 rx ry q (hs _ _))
def He (K:Km):R2:=λx y H Q=> ∃p xs i v,x= .ref p/\y= .int i/\SqL K H p xs/\atI xs i=some v/\Q v H
def Hb (K:Km):R2:=λx y H Q=> ∃p xs i v,x= .ref p/\y= .int i/\SqT K H p xs/\atI xs i=some v/\Q v H
def Hd:R2:=λx y H Q=> ∃z i c,x= .str z/\y= .int i/\z.length<=sizeLine/\atI z.cps.toList i=some c/\Q (.str ⟨#[c]⟩) H
theorem ix_list:IxR X (He X.K):=by
 intro value slice pins s σ H x y v u Q I rx ry h hs;obtain⟨p,xs,i,z,rfl,rfl,hq,he,q⟩:=h;cases rx;obtain⟨t,rfl⟩:=ry;obtain⟨its,r,pl,hz⟩:=I.list hq;obtain⟨j,h1,h2,h3,h4,h5⟩:=tF he;obtain⟨w,ew,rw'⟩:=r.get h2
 have hl:=r.length
 have hn:=oQ
 have fin:EP X pins σ Q w s:=⟨z,H,I,rw',q⟩
 by_cases h0:0<=i
 ·have hj:i.toNat=j:=by
   rw[seqIndex_of h0 h5]at h1;exact K7 h1
  exact item_listR pl.isList h0 (by omega) (by rw[hj];simpa using ew) fin hs
 ·have hj:(i+(its.toArray.size:Int)).toNat=j:=by
   rw[seqIndex_neg (by omega) h4]at h1
   rw[KH,<-hl];exact K7 h1
  exact Py (x:=w) pl.isList.typeIs slot_list_getitem.lookup
   (wpAny_getItem_list_neg (Q:=λr s'=>r=w/\EP X pins σ Q r s') pl.isList (by omega) (by rw[KH] <;> omega) (by omega) (by rw[hj];simpa using ew) ⟨rfl,fin⟩) hs
theorem ix_tup:IxR X (Hb X.K):=by
 intro value slice pins s σ H x y v u Q I rx ry h hs;obtain⟨p,xs,i,z,rfl,rfl,hq,he,q⟩:=h;cases rx;obtain⟨t,rfl⟩:=ry;obtain⟨its,r,pl,hz⟩:=I.tuple hq;obtain⟨j,h1,h2,h3,h4,h5⟩:=tF he;obtain⟨w,ew,rw'⟩:=r.get h2
 have hl:=r.length
 have hn:=oQ
 have fin:EP X pins σ Q w s:=⟨z,H,I,rw',q⟩
 exact Py (x:=w) pl.typeIs slot_tuple_getitem.lookup
  (getItem_tuple (j:=j) (Q:=λr s'=>r=w/\EP X pins σ Q r s') pl (by omega) (by omega) (by rw[KH,<-hl];exact h1) (by simpa using ew) ⟨rfl,fin⟩) hs
theorem Gg:IxR X Hd:=by
 intro value slice pins s σ H x y v u Q I rx ry h hs;obtain⟨z,i,c,rfl,rfl,hz,he,q⟩:=h;obtain⟨t,rfl⟩:=rx;obtain⟨t',rfl⟩:=ry;obtain⟨j,h1,h2,h3,h4,h5⟩:=tF he
 have hl:z.cps.toList.length=z.length:=by simp[Str.length]
 rw[hl]at h1 h4 h5
 have hn:=oQ
 exact tail_any (typeIs_str s z t) slot_str_getitem.lookup (getItem_str (c:=c) (by
  have e1:decide (i< -(2 ^ 63:Int))=false:=decide_eq_false (by omega)
  have e2:decide (i ≥ 2 ^ 63)=false:=decide_eq_false (by omega)
  rw[e1,e2,Bool.or_false]) (by rw[h1];simpa using h2) ⟨.str ⟨#[c]⟩,H,I.tok _,⟨_,rfl⟩,q⟩) hs
def rIx (K:Km):R2:=λx y H Q=>He K x y H Q\/Hb K x y H Q\/Hd x y H Q
theorem Gh:IxR X (rIx X.K):=ix_list.or (ix_tup.or Gg)
theorem rF (lo hi:Option Int)(n:Nat):(N4 lo hi none n).1=((HT.sIx n 0 lo:Nat):Int)/\(N4 lo hi none n).2.1=((HT.sIx n n hi:Nat):Int)/\(N4 lo hi none n).2.2=1:=by
 refine⟨?_,?_,rfl⟩
 ·cases lo with
  | none=>simp[N4,HT.sIx]
  | some i=>
   simp only[N4,HT.sIx,RJ,show(1:Int) > 0 by decide,if_true]
   by_cases h:i<0
   ·simp only[h,if_true] <;> omega
   ·simp only[h,if_false] <;> omega
 ·cases hi with
  | none=>simp[N4,HT.sIx]
  | some i=>
   simp only[N4,HT.sIx,RJ,show(1:Int) > 0 by decide,if_true]
   by_cases h:i<0
   ·simp only[h,if_true] <;> omega
   ·simp only[h,if_false] <;> omega
theorem pG (its:List Kq)(lo hi:Option Int):slicePick its.toArray lo hi none=((its.drop (HT.sIx its.length 0 lo)).take (HT.sIx its.length its.length hi - HT.sIx its.length 0 lo)).toArray:=by
 obtain⟨h1,h2,h3⟩:=rF lo hi its.toArray.size;unfold slicePick;rw[h1,h2,h3];simp only[sliceRange_one,pick_run,KH] <;> rfl
def rSlL (K:Km):V->Option Int->Option Int->Hp->VK->Prop:=λx lo hi H Q=> ∃a xs,x= .ref a/\SqL K H a xs/\∀p,H p=none->Q (.ref p) (upd H p (.lst (vq xs lo hi)))
theorem Cc:SlR X (rSlL X.K):=by
 intro pins s σ H x v vl vu lo hi sl Q I rx hs pl pu h;obtain⟨a,xs,rfl,hx,q⟩:=h;cases rx;obtain⟨its,r,ht,hz⟩:=I.list hx
 have hlen:=r.length;refine⟨"list",_,slot_list_getitem.lookup,ht.isList.typeIs,?_⟩
 refine wpAny_getItem_list_slice ht.isList hs pl pu .none (by simp) ?_ (by rw[KH] <;> omega)
 rw[pG,<-hlen];refine⟨.ref s.heap.objs.size,_,I.laid (t':=s.toks) (o:=.lst (vq xs lo hi)) (λb ob q=>Kv _ q) (KB _) ?_,rfl,q _ (I.hok.fresh (KB _))⟩
 exact⟨K6 (mM xs lo hi) hz,_,0,(r.drop (HT.sIx xs.length 0 lo)).take (HT.sIx xs.length xs.length hi - HT.sIx xs.length 0 lo),KI _ rfl⟩
theorem call_len_seq:CallR X (.builtin "len") (λxs H Q=> ∃p ys,xs= [.ref p]/\(SqL X.K H p ys\/SqT X.K H p ys)/\Q (.int ys.length) H):=by
 intro pins s σ H xs us Q I r h;obtain⟨p,ys,rfl,hq,q⟩:=h;obtain⟨u,rfl,rx⟩:=kS r;cases rx
 have hn:=oQ;rcases hq with hq | hq
 ·obtain⟨its,r',pl,hz⟩:=I.list hq
  have hlen:=r'.length;exact Calls.call_len_list pl.isList (by simp only[KH] <;> omega) ⟨.int ys.length,H,I.tok _,⟨s.toks+1,by rw[KH,hlen]⟩,q⟩
 ·obtain⟨its,r',pl,hz⟩:=I.tuple hq
  have hlen:=r'.length;exact len_tuple pl (by simp only[KH] <;> omega) ⟨.int ys.length,H,I.tok _,⟨s.toks+1,by rw[KH,hlen]⟩,q⟩
theorem tz:CallR X (.builtin "len") (λxs H Q=> ∃z,xs= [.str z]/\z.length<=sizeLine/\Q (.int z.length) H):=by
 intro pins s σ H xs us Q I r h;obtain⟨z,rfl,hz,q⟩:=h;obtain⟨u,rfl,t,rfl⟩:=kS r
 have hn:=oQ;exact len_str (by omega) ⟨.int z.length,H,I.tok _,⟨_,rfl⟩,q⟩
theorem CallR.or {f:Kq}{r r':List V->Hp->VK->Prop}(h:CallR X f r)(h':CallR X f r'):CallR X f (λxs H Q=>r xs H Q\/r' xs H Q):=by
 intro pins s σ H xs us Q I rs q;rcases q with q | q
 ·exact h pins s σ H xs us Q I rs q
 ·exact h' pins s σ H xs us Q I rs q
theorem ql:CallR X (.type "tuple") (λxs H Q=> ∃p ys,xs= [.ref p]/\((SqL X.K H p ys/\∀l,H l=none->Q (.ref l) (upd H l (.tup ys)))\/(SqT X.K H p ys/\Q (.ref p) H))):=by
 intro pins s σ H xs us Q I r h;obtain⟨p,ys,rfl,h⟩:=h;obtain⟨u,rfl,rx⟩:=kS r;cases rx;rcases h with⟨hq,q⟩ | ⟨hq,q⟩
 ·obtain⟨its,r',pl,hz⟩:=I.list hq
  have hlen:=r'.length;refine call_tuple_list pl.isList (λh' kp=> ?_) (by simp only[KH] <;> omega)
  have I1:Inv X pins σ H { s with heap:=h' }:=I.kept (t':=s.toks) kp
  have I2:Inv X pins σ (upd H h'.objs.size (.tup ys)) { s with heap:=h'.push { cls:=.type "tuple",data:=.seq its.toArray } }:=
   I1.laid (t':=s.toks) (λb o e=>Kv _ e) (KB _) (show ObjOk X.prog X.w _ _ _ (.tup ys)from⟨hz,its,r',R5 _ _⟩)
  exact⟨.ref h'.objs.size,_,I2,rfl,q _ (I1.hok.fresh (KB _))⟩
 ·obtain⟨its,r',pl,hz⟩:=I.tuple hq
  exact call_tuple_same pl ⟨.ref p,H,I,rfl,q⟩
def tyV (K:Km)(T:String)(x:V)(H:Hp):Prop:=match x with
 | .str _=>T= "str"
 | .int _=>T= "int"
 | .ref p=>(T= "list"/\∃xs,SqL K H p xs)\/(T= "tuple"/\∃o,K.lookup p=some o/\o.cls= .type "tuple"/\o.dict=none) ∨
   (T= "dict"/\((∃kvs,H p=some (.dK kvs))\/∃kvs,H p=some (.dT kvs)))\/(T= "set"/\∃S n,H p=some (.set S n))
 | _=>False
theorem zo {pins:List (Addr×Obj)}{σ:St}{H:Hp}{s:Kt}{T:String}{x:V}{v:Kq}(I:Inv X pins σ H s)(r:RelV x v)(ty:tyV X.K T x H) :
  s.TypeIs v T/\∀a,v= .ref a->∃ob,s.heap.get? a=some ob/\ob.dict=none:=by
 cases x with
 | str z=>
  obtain⟨t,rfl⟩:=r;cases (show T= "str" from ty)
  exact⟨typeIs_str s z t,λ_ e=>nomatch e⟩
 | int i=>
  obtain⟨t,rfl⟩:=r;cases (show T= "int" from ty)
  exact⟨P7 s i t,λ_ e=>nomatch e⟩
 | ref p=>
  cases r;rcases ty with⟨rfl,xs,hq⟩ | ⟨rfl,o,hk,hc,hd⟩ | ⟨rfl,hk⟩ | ⟨rfl,S,n,hk⟩
  ·obtain⟨its,_,pl,_⟩:=I.list hq
   refine⟨pl.isList.typeIs,λa e=> ?_⟩
   cases e;obtain⟨o,n,e,c,hd,_⟩:=pl;exact⟨o,e,hd⟩
  ·refine⟨⟨o,I.kIn p o hk,hc⟩,λa e=> ?_⟩
   cases e;exact⟨o,I.kIn _ o hk,hd⟩
  ·have z:∃o,s.heap.get? p=some o/\o.ExactDict:=by
    rcases hk with⟨kvs,hk⟩ | ⟨kvs,hk⟩
    ·obtain⟨_,_,_,_,o,_,_,e,ex,_⟩:=I.hok p _ hk
     exact⟨o,e,ex⟩
    ·obtain⟨_,_,_,_,o,_,_,e,ex,_⟩:=I.hok p _ hk
     exact⟨o,e,ex⟩
   obtain⟨o,e,ex⟩:=z;refine⟨⟨o,e,ex.1⟩,λa e2=> ?_⟩
   cases e2;exact⟨o,e,ex.2.1⟩
  ·obtain⟨o,_,_,_,e,ex,_⟩:=I.hok p _ hk
   refine⟨⟨o,e,ex.1⟩,λa e2=> ?_⟩
   cases e2
   exact⟨o,e,ex.2.1⟩
 | _=>exact M9 ty
def tBM (K:Km)(T:String)(r:V->List V->Hp->VK->Prop)(to:TE)(t:TA):TE:=λσ H Q=>to σ H λx H1=>tyV K T x H1/\t σ H1 λxs H2=>r x xs H2 Q
variable {o e:Expr}{es:List Expr}{to:TE}{t:TA}{name:Str}{apos cpos:Pos}{T id:String}{r:V->List V->Hp->VK->Prop}
theorem uC (pa:PlainAttrs T)(slot:Slot T name id)(hty:typeOf (.builtin id)=pure (.type "method_descriptor"))(hm:MtR X id r)(ho:PE X o to)(ha:PA X (e::es) t)
  (hbase:LV o name X.env (eval o X.env)=eval o X.env:=by rfl)
  (hfew:((backTo cpos (KG (e::es) X.env)).all (λx=> !x.1)&&(QV cpos (OF [] X.env)).all (λx=>x.1.isSome)
   &&decide ((e::es).length+([]:List Rk).length+(if ([]:List Rk).isEmpty then 0 else 1)<30))=true:=by rfl)
  (hline:(apos.endLine == cpos.line)=true:=by rfl) (hs:KG (e::es) X.env=(false,eval e X.env)::KG es X.env:=by rfl) (hplain:(backTo cpos (KG es X.env)).any (·.1)=false:=by rfl) :
  PE X (.Call (.Attribute o name apos) (e::es) [] cpos) (tBM X.K T r to t):=by
 intro pins s σ H Q I h;refine Pz hbase hfew hline rfl (cr (ho pins s σ H _ I h) λv s1 hh_=> ?_)
 obtain⟨x,H1,I1,r1,ty,q1⟩:=hh_;obtain⟨h1,h2⟩:=zo I1 r1 ty;refine⟨T,id,pa,slot,hty,h1,h2,?_⟩
 have hA:=ha cpos pins s1 σ H1 _ I1 q1;rw[hs]at hA ⊢;refine NT (by show(false||(backTo cpos (KG es X.env)).any (·.1))=false;rw[hplain] <;> rfl) (Nk ?_)
 exact cr hA λus s2 ⟨vs,H2,I2,r2,q2⟩=>hm pins s2 σ H2 x vs v us Q I2 r1 r2 q2
end
def MtM (X:Cx)(id:String)(r:V->List V->Hp->VK->Prop):Prop:=
 ∀(pins:List (Addr×Obj)) (s:Kt) (σ:St) (H:Hp) (x:V) (xs:List V) (v:Kq) (us:List Kq) (Q:VK),Inv X pins σ H s->RelV x v->Vals xs us->r x xs H Q →
  wpAny (model X.prog X.w) X.A (call (.builtin id) (v::us)) (EP X pins σ Q) X.xe s
theorem Vals.one:∀{x:V} {us:List Kq},Vals [x] us->∃u,us= [u]/\RelV x u
 | _,_,.cons r .nil=>⟨_,rfl,r⟩
theorem Vals.two:∀{x y:V} {us:List Kq},Vals [x,y] us->∃u v,us= [u,v]/\RelV x u/\RelV y v
 | _,_,_,.cons r (.cons q .nil)=>⟨_,_,rfl,r,q⟩
theorem Vals.rep {xs:List V}{us:List Kq}(h:Vals xs us):∀k:Nat,Vals (KJ k xs).flatten (KJ k us).flatten
 | 0=> .nil
 | k+1=>by
  rw[L8,L8,MP,MP];exact Vals.append h (Vals.rep h k)
theorem foldl_rep (its:List Kq):∀(k:Nat) (acc:List Kq),
  O4 (λx1 x2=>x1++x2) acc.toArray (KJ k its.toArray)=(acc++(KJ k its).flatten).toArray
 | 0,acc=>by simp
 | k+1,acc=>by
  have e:acc.toArray++its.toArray=(acc++its).toArray:=by simp
  have e2:(acc++its)++(KJ k its).flatten=acc++(KJ (k+1) its).flatten:=by
   rw[L8,MP,KR]
  rw[<-e2,<-foldl_rep its k (acc++its),<-e,L8,R6]
section
variable {X:Cx}{pins:List (Addr×Obj)}{σ:St}{H:Hp}{s:Kt}{l b:Addr}{xs ys zs:List V}
theorem Inv.J0 {its its':List Kq}{n:Nat}{f:Array Kq->Array Kq}{t':Nat}(I:Inv X pins σ H s)(hH:H l=some (.lst xs))
  (e:s.heap.get? l=some { cls:=.type "list",data:=.seq its.toArray n }) (hf:f its.toArray=its'.toArray) (hv:Vals ys its') (hz:ys.length<=sizeLine) :
  Inv X pins σ (upd H l (.lst ys)) { s with heap:=s.heap.update l (O5 f),toks:=t' }:=by
 have q:=PySem.IsL.update e f;rw[hf]at q;refine I.write (x:=l) (e:=l) (by rw[hH];exact trivial) (.inl rfl) (λb' u hb hu=>(NU s.heap (O5 f) (LO hb)).trans hu) ⟨_,q⟩ ?_
 exact⟨hz,its',_,hv,q⟩
theorem Inv.J1 {its:List Kq}{t':Nat}(I:Inv X pins σ H s)(hv:Vals ys its)(hz:ys.length<=sizeLine) :
  Inv X pins σ (upd H s.heap.objs.size (.lst ys)) { s with heap:=s.heap.push { cls:=.type "list",data:=.seq its.toArray },toks:=t' }:=
 I.laid (λ_ _ q=>Kv _ q) (KB _) ⟨hz,its,0,hv,KI _ rfl⟩
theorem Inv.fresh (I:Inv X pins σ H s):H s.heap.objs.size=none:=I.hok.fresh (KB _)
theorem Inv.Jt (I:Inv X pins σ H s)(hH:H l=some (.lst xs)):xs.length<=sizeLine/\∃(its:List Kq) (n:Nat),Vals xs its/\xs.length=its.length/\s.heap.get? l=some { cls:=.type "list",data:=.seq its.toArray n }:=by
 obtain⟨z,its,n,r,e⟩:=I.hok l _ hH;exact⟨z,its,n,r,r.length,e⟩
theorem uK {n:Nat}(h:n<=sizeLine):MO n=false:=by
 unfold MO;exact decide_eq_false (by omega)
end
section
variable {X:Cx}
def Cm:V->List V->Hp->VK->Prop:=λx vs H Q=> ∃l xs y,x= .ref l/\vs= [y]/\H l=some (.lst xs)/\xs.length<sizeLine/\Q .non (upd H l (.lst (xs++ [y])))
theorem qM:MtM X "list.append" Cm:=by
 intro pins s σ H x vs v us Q I rx rv h;obtain⟨l,xs,y,rfl,rfl,hH,hz,q⟩:=h;cases rx;obtain⟨u,rfl,ru⟩:=rv.one;obtain⟨z,its,n,r,hl,e⟩:=I.Jt hH;refine Nh F.slot_list_append ⟨_,e,rfl⟩ F.entry_list_append (F.args_list_append_2 _ _) (PySem.list_append l its.toArray n u (by rw[KH];omega)) ⟨e,?_⟩
 refine⟨.non,_,I.J0 (its':=its++ [u]) hH e (by simp) (r.append (.cons ru .nil)) ?_,rfl,q⟩
 rw[Kw,Mm];omega
def Cj:V->List V->Hp->VK->Prop:=λx vs H Q=> ∃l b xs zs,x= .ref l/\vs= [.ref b]/\H l=some (.lst xs)/\H b=some (.lst zs)/\xs.length+zs.length<=sizeLine/\Q .non (upd H l (.lst (xs++zs)))
theorem yv:MtM X "list.extend" Cj:=by
 intro pins s σ H x vs v us Q I rx rv h;obtain⟨l,b,xs,zs,rfl,rfl,hH,hB,hz,q⟩:=h;cases rx;obtain⟨u,rfl,ru⟩:=rv.one;cases ru;obtain⟨z,its,n,r,hl,e⟩:=I.Jt hH;obtain⟨z2,its2,n2,r2,hl2,e2⟩:=I.Jt hB
 have hsz:its.toArray.size+its2.toArray.size<=sizeLine:=by rw[KH,KH];omega
 have hlong:¬ (!its.toArray.isEmpty&&MO (its.toArray.size+its2.toArray.size))=true:=by
  rw[uK hsz,Bool.and_false];exact KO
 refine Nh F.slot_list_extend ⟨_,e,rfl⟩ F.entry_list_extend (F.args_list_extend_2 _ _)
  (AutoSeq1.list_extend_list_list_0 l its.toArray n b its2.toArray n2 hlong (by rw[KH];omega) (by omega)) ⟨e,e2,?_⟩
 refine⟨.non,_,I.J0 (its':=its++its2) hH e (by simp) (r.append r2) ?_,rfl,q⟩
 rw[Kw];omega
def rCat:R2:=λx y H Q=> ∃l b xs zs,x= .ref l/\y= .ref b/\H l=some (.lst xs)/\H b=some (.lst zs)/\xs.length+zs.length<=sizeLine/\∀p,H p=none->Q (.ref p) (upd H p (.lst (xs++zs)))
theorem Ap:pA X (Mh .Add) rCat:=by
 intro pins s σ H x y v u Q I rx ry h;obtain⟨l,b,xs,zs,rfl,rfl,hH,hB,hz,q⟩:=h;cases rx;cases ry;obtain⟨z,its,n,r,hl,e⟩:=I.Jt hH;obtain⟨z2,its2,n2,r2,hl2,e2⟩:=I.Jt hB;refine PySem.P.add_list e e2 ?_ (by rw[KH,KH];omega)
 have ea:its.toArray++its2.toArray=(its++its2).toArray:=by simp
 rw[ea];exact⟨.ref _,_,I.J1 (t':=s.toks) (r.append r2) (by rw[Kw];omega),rfl,q _ I.fresh⟩
def rRep:R2:=λx y H Q=> ∃l k xs,x= .ref l/\y= .int k/\H l=some (.lst xs)/\-(2 ^ 63)<=k/\k<2 ^ 63/\xs.length*k.toNat<=sizeLine ∧
 ∀p,H p=none->Q (.ref p) (upd H p (.lst (KJ k.toNat xs).flatten))
theorem len_rep {α:Type}(xs:List α)(k:Nat):(KJ k xs).flatten.length=k*xs.length:=by
 induction k with
 | zero=>simp
 | succ k ih=>rw[L8,MP,Kw,ih,Nat.succ_mul,Rr]
theorem FJ:pA X (Mh .Mult) rRep:=by
 intro pins s σ H x y v u Q I rx ry h;obtain⟨l,k,xs,rfl,rfl,hH,h1,h2,hz,q⟩:=h;cases rx;obtain⟨t,rfl⟩:=ry;obtain⟨z,its,n,r,hl,e⟩:=I.Jt hH
 have hlen:its.toArray.size*k.toNat<=sizeLine:=by rw[KH,<-hl];exact hz
 have hcap:¬ its.toArray.size*k.toNat > (2 ^ 63 - 1) / 8:=by
  have:(sizeLine:Nat)<=(2 ^ 63 - 1) / 8:=by decide
  omega
 have hfit:¬ (!Builtin.List.listFitsIndex k)=true:=by
  rw[fitsIndex_both h1 h2];exact KO
 have hlong:¬ MO (its.toArray.size*k.toNat)=true:=by
  rw[uK hlen];exact KO
 have hnew:O4 (λx1 x2=>x1++x2) #[] (KJ (if its.toArray.isEmpty=true then 0 else k.toNat) its.toArray)=(KJ k.toNat its).flatten.toArray:=by
  have f0:∀m:Nat,O4 (λx1 x2=>x1++x2) #[] (KJ m its.toArray)=(KJ m its).flatten.toArray:=λm=>by
   have:=foldl_rep its m [];rw[LD]at this;exact this
  rw[f0]
  cases its with
  | nil=>simp
  | cons a r'=>rw[if_neg (by simp)]
 refine OY (T:="list") (U:="int") (by decide) ⟨_,e,rfl⟩ (λs'=>P7 s' k t) noFill_list_mul R7 Ou repeat_list RK.lookup
  (Nh Ou (P7 s k t) RL (Q8 _ _) (int___rmul___int_list k t l its.toArray n)
   ⟨e,rfl,⟨_,e,rfl⟩,Nh F.slot_list_mul ⟨_,e,rfl⟩ F.entry_list_mul (F.args_list_mul_2 _ _) (QB l its.toArray n k t hfit hcap hlong) ⟨e,?_⟩⟩)
 rw[hnew];exact⟨.ref _,_,I.J1 (t':=s.toks) (r.rep k.toNat) (by rw[len_rep,Rt];exact hz),rfl,q _ I.fresh⟩
end
end L2
namespace Att
open PySem PySem.W PySem.Calls PyProof.Rows
theorem m5 {P:Params}{h:Heap}:∀(ns:List Int) (vs:List Kq),WellAll P h vs (ns.map WData.int)->Nl vs ns:=by
 intro ns
 induction ns with
 | nil=>
  intro vs w;rw[N9]at w;cases w
  exact .nil
 | cons n ns ih=>
  intro vs w;rw[Kp]at w
  cases w with
  | cons a b=>
   cases a;exact .cons _ _ (ih _ b)
theorem yc {l:OpenLaw}{n:Nat}(hn:l.most=some n){P:Params}{h:Heap}{args:List WData}{vals:List Kq}
  (hpre:l.row.toRowW.claim.pre args=true) (hwl:WellAll P h vals args) :
  ∃a vs ns,vals= [KM a]/\args= [WData.list (ns.map WData.int)]/\h.get? a=some { cls:=.type "list",data:=.seq vs.toArray }/\Nl vs ns/\ns.length<=n:=by
 have hsh:WShape.hasAll [] args [.list .int] =true:=(pre_splitW hpre).1
 have hc:l.pre.holds [] { args:=args }=true:=(pre_splitW hpre).2;obtain⟨d,r,rfl,h1,h2⟩:=hasAllW_cons hsh;obtain rfl:=hasAllW_nil h2;obtain⟨xs,rfl,h3⟩:=hasW_list h1;obtain⟨ns,rfl⟩:=items_int h3
 have hlen:ns.length<=n:=by
  unfold OpenLaw.pre at hc
  have h4:(WTm.not (.lt (.lit (.int (n:Int))) (.len (.arg 0)))).holds [] { args:=[.list (ns.map .int)] }=true:=by
   have h4:=(holds_andW hc).1;rw[hn]at h4;exact h4
  have h5:=condW_of h4 (w_not (w_lt w_lit (w_len_list (w_arg rfl))));rw[Ks]at h5;refine Nat.le_of_not_lt λq=> ?_
  have q':(n:Int)<((ns.length:Nat):Int):=by omega
  first
   | (rw[decide_eq_true q']at h5;exact absurd h5 (by decide))
   | (simp at h5;omega)
 cases hwl with
 | cons w1 w2=>
  cases w2
  cases w1 with
  | list ho hall=>exact⟨_,_,ns,rfl,rfl,ho,m5 ns _ hall,hlen⟩
theorem yg (l:OpenLaw)(args:List WData):l.row.toRowW.claim.post args (.bool true) args=true:=
 postW_of (r:=l.row.toRowW) (X:=(true == true))
  (show WShape.has [] (.bool true) .bool=true by first | rfl | decide | simp[WShape.has,WShape.arms,WShape.armsAll])
  (show(WTm.eq .res (.lit (.bool true))).value [] { args:=args,res:=some (.bool true),after:=args }=some (.bool (true == true))from w_eq_bool (w_res rfl) w_lit) rfl
theorem attach_call {l:OpenLaw}{n:Nat}{q:KS}{loose:List Str}{XP:(Str->Option Kq)->Heap->Prop}{YP:LA->Heap->Prop}{d:DefRec}
  (hn:l.most=some n) (hdf:d.params.defaults= [])
  (call:∀(w:LA) (s₀ s₁:Kt) (mg mb:Str->Option Kq) (fa:Addr) (o:Obj) (pm cd doc:Kq) (a:Addr) (vs:List Kq) (ns:List Int),
   Ground q loose [] XP w s₀ mg mb s₁.heap->YP w s₁.heap →
   s₁.heap.get? fa=some o->o.data= .func (docDef d.name d.params d.body d.scope pm cd doc)->s₁.heap.CodeRec cd d.name->mg d.name=some (.ref fa) →
   s₁.heap.get? a=some { cls:=.type "list",data:=.seq vs.toArray }->Nl vs ns->ns.length<=n->s₁.gens= #[] →
   codeAny (model l.prog w) callerA (.call (.ref fa) ⟨[.ref a],[]⟩) (λr s'=>r= .ok (.ret (.bool true))/\OldK s₁.heap s'.heap/\s'.os=s₁.os/\Pj s'.gens) s₁) :
  WalkO q loose XP YP l.row.toRowW d [] (λf vs=>PySem.call f vs):=by
 intro w s₀ s₁ mg mb G Y fa o pm cd doc dV kV ho hd hcd hD hmg hg args vals as hpre hlay hrd hwl hlo;obtain rfl:dV= .none:=Dflts.none hD hdf;obtain rfl:kV= .none:=Dflts.noKw hD;obtain⟨a,vs,ns,rfl,rfl,hobj,hints,hlen⟩:=yc hn hpre hwl;refine enter_call (Od (call w s₀ s₁ mg mb fa o pm cd doc a vs ns G Y ho (fd_plain hd) hcd hmg hobj hints hlen hg) λr s' hq=> ?_)
 obtain⟨rfl,h2,h3,h4⟩:=hq;exact⟨.inl ⟨.bool true,.bool true,[],rfl,λ_=>rfl,.bool true,yg l _,λ_=>⟨Q7,λ_ hm=>(nomatch hm)⟩⟩,h2,h3,h4⟩
end Att
namespace L2
open PySem PySem.Spec PyProof.Rows
theorem qw:∀{vs:List Kq} {ns:List Int},Nl vs ns->Vals (ns.map V.int) vs
 | _,_,.nil=> .nil
 | _,_,.cons n t h=> .cons ⟨t,rfl⟩ (qw h)
def GM (H:Hp):Prop:=∀b,H b=none\/∃o xs,H b=some (.frz o (.lst xs))
theorem AO {P:KS}{w:LA}{K:Km}{mg mb:Str->Option Kq}{CX:BT}{k:Nat}{fa a:Addr}{fd:LL}{x:Str}{sp:Sp}{s₁:Kt}{vs:List Kq}{ns:List Int}
  (KX:K.In s₁.heap) (hns:s₁.heap.Ns Ln mg) (hb:s₁.heap.Ns P6 mb) (hbb:∀x:Str,x≠ "__name__"->mb x=K9 x) (hlim:s₁.heap.NoLimit) (hg:s₁.gens= #[])
  (ha:s₁.heap.get? a=some { cls:=.type "list",data:=.seq vs.toArray }) (hi:Nl vs ns) (hl:ns.length<=sizeLine) (hr:Room k callerA)
  (F:∀base:Heap,K.In base->base.Ns Ln mg->qt P w K mg base CX k fa fd [x] sp) (hbind:∀(s:Kt) (u:Kq),Qr s fd ⟨[u],[]⟩ [(x,u)])
  (hsp:∀H:Hp,GM H->SqL K H a (ns.map V.int)->sp [.ref a] H (λv _=>v= .bl true) λ_ _ _=>False)
  (hCX:∀H e s',CX [] H s₁ (λ_ _ _=>False) e s'->False) :
  codeAny (model P w) callerA (.call (.ref fa) ⟨[.ref a],[]⟩) (λr s'=>r= .ok (.ret (.bool true))/\OldK s₁.heap s'.heap/\s'.os=s₁.os/\Pj s'.gens) s₁:=by
 have rv:=qw hi
 have lenV:=hi.length
 -- from an abstract heap in which nothing but the script may be tracked
 have core:∀H:Hp,GM H->SqL K H a (ns.map V.int)->HOk P w H s₁.heap->(∀b,H b≠none->b=a)->(H a≠none->K.lookup a=none) →
   codeAny (model P w) callerA (.call (.ref fa) ⟨[.ref a],[]⟩) (λr s'=>r= .ok (.ret (.bool true))/\OldK s₁.heap s'.heap/\s'.os=s₁.os/\Pj s'.gens) s₁:=by
  intro H hO hS hok hA hK
  have base_of:∀{b:Addr} {o:Obj},s₁.heap.get? b=some o->H b=none->(sW s₁.heap H).get? b=some o:=λe n=>A7 e n
  have noA:∀{b:Addr} {o:Obj} {es:Array DictEntry} {ep:Nat},s₁.heap.get? b=some o->o.data= .dict es ep->H b=none:=λ{b o es ep} e d=>by
   cases q:H b with
   | none=>rfl
   | some u=>
    have e':b=a:=hA b (by rw[q];simp)
    subst e';rw[ha]at e;cases e
    have d':Data.seq vs.toArray _=Data.dict es ep:=d;cases d'
  have nsK:∀{b:Addr} {m:Str->Option Kq},s₁.heap.Ns b m->(sW s₁.heap H).Ns b m:=λ{b m} ⟨o,es,ep,e,d,r⟩=>⟨o,es,ep,base_of e (noA e d),d,r⟩
  have hKb:K.In (sW s₁.heap H):=λb o e=>base_of (KX b o e) (by
   cases q:H b with
   | none=>rfl
   | some u=>
    have e':b=a:=hA b (by rw[q];simp)
    subst e';rw[hK (by rw[q];simp)]at e;cases e)
  have hM:Mod K mg (sW s₁.heap H):=⟨hKb,nsK hns,⟨mb,nsK hb,hbb⟩,let ⟨mc,h1,h2⟩:=hlim;⟨mc,nsK h1,h2⟩⟩
  have e0:vC P w K mg (sW s₁.heap H) callerA [] s₁ H:=⟨rfl,hM,λb o e=>CZ e,NA (yJ _ _),trivial,λb hb=>absurd (show b∈([]:List Addr)from hb) (by simp),hok,.of_eq hg⟩
  refine Od ((F _ hKb (nsK hns)).run callerA [] s₁ H ⟨[.ref a],[]⟩ [.ref a] [.ref a] _ _ hr e0 (hbind s₁ (.ref a)) (.cons rfl .nil) (hsp H hO hS)) λr s' h=> ?_
  cases r with
  | error e=>exact(hCX H e s' h).elim
  | ok fl=>
   cases fl with
   | next=>exact M9 h
   | brk=>exact M9 h
   | cont=>exact M9 h
   | ret u=>
    obtain⟨v,H',os,bare,un,hok',r',q⟩:=h
    have q':v= .bl true:=q;subst q';obtain rfl:u=Lo true:=r';refine⟨rfl,OldK.of_keep λb o e=> ?_,os,bare⟩
    cases q:H b with
    | none=>exact un.keep b o e q (by intro z;exact absurd (show b∈([]:List Addr)from z) (by simp)) (by simp)
    | some u=>
     rcases hO b with z | ⟨ob,xs,z⟩
     ·rw[q]at z;cases z
     ·have z2:=un.frzs b ob _ z
      obtain⟨e1,_⟩:=hok b _ z;obtain⟨e2,_⟩:=hok' b _ z2;rw[e]at e1;cases e1;exact e2
 cases hk:K.lookup a with
 | some o=>
  -- the script is one of the module's own objects
  have e:=KX a o hk;rw[ha]at e;cases e
  refine core (λ_=>none) (λ_=> .inl rfl) (.inr ⟨_,vs.toArray,_,hk,rfl,rfl,rfl,by rw[KH,lenV];exact hl,by simpa using rv⟩) (λb u z=>by have z':(none:Option HO)=some u:=z;cases z') (λb z=>absurd rfl z) λz=>absurd rfl z
 | none=>
  refine core (λb=>if b=a then some (.frz { cls:=.type "list",data:=.seq vs.toArray } (.lst (ns.map V.int)))else none) (λb=> ?_) (.inl (.inr ⟨{ cls:=.type "list",data:=.seq vs.toArray },if_pos rfl⟩)) (λb u z=> ?_) (λb z=> ?_) λ_=>hk
  ·by_cases hb:b=a
   ·exact .inr ⟨_,_,if_pos hb⟩
   ·exact .inl (if_neg hb)
  ·by_cases hb:b=a
   ·have z':=(if_pos hb).symm.trans z
    cases z';subst hb;exact⟨ha,by rw[Ks];exact hl,vs,_,rv,ha⟩
   ·have z':=(if_neg hb).symm.trans z
    cases z'
  ·by_cases hb:b=a
   ·exact hb
   ·exact absurd (if_neg hb) z
def iI (s:Stmt):Sq:=match s with
 | .FunctionDef _ a _ _ _ _ _ _ _ _=>a
 | _=> { posonlyargs:=[],args:=[],vararg:=none,kwonlyargs:=[],kw_defaults:=[],kwarg:=none,defaults:=[] }
def de (s:Stmt):List Stmt:=match s with
 | .FunctionDef _ _ b _ _ _ _ _ _ _=>b
 | _=> []
def ak (s:Stmt):NM:=match s with
 | .FunctionDef _ _ _ _ _ _ sc _ _ _=>sc
 | _=> { kind:=.function,names:=[],isGenerator:=false,isCoroutine:=false }
abbrev CX0:BT:=λ_ _ _ _ _ _=>False
abbrev E0:XK:=λ_ _ _=>False
theorem w8 {X:Cx}:tI CX0 X E0:=λ_ _ _ _ _ _ _ h=>h.elim
structure Fun (K:Km)(x qual:Str)(st:Stmt)(f:Addr)(fd:LL):Prop where
 ex:∃(oc:Kq) (od:Option Addr) (kV doc pm:Kq) (an:Option Addr) (cdv ct:Kq) (osl:Array (Option Kq)),
  fd=N6 x qual (iI st) (de st) (ak st) .none kV doc pm an cdv ct/\K.lookup f=some ⟨oc,od,.func fd,osl⟩/\Qd K cdv qual=true
 kp:Me K (.ref f)=true
section
variable {P:KS}{w:LA}{K:Km}{mg:Str->Option Kq}{base:Heap}
theorem Fun.ok {x qual:Str}{st:Stmt}{f:Addr}{fd:LL}{N ps:List Str}{k:Nat}{sp:Sp}(F:Fun K x qual st f fd)(S:aA N ps (ak st))(len:∀vs H Q E,sp vs H Q E->vs.length=ps.length)
  (hbody:∀(cdv:Kq) (A:La) (outer:List Env) (s:Kt) (H:Hp) (vs:List V) (Q:VK) (E:XK),Room k (A.deeper (envOfC qual (ak st) s.heap.objs.size f cdv))->sp vs H Q E →
   ∃t,PSs (lJ CX0 P w K mg base N qual (ak st) f cdv A outer s H E).nox (de st) t/\t { nx:=λ_ H'=>Q .non H',rt:=Q } (start N vs) H):qt P w K mg base CX0 (k+1) f fd ps sp:=by
 obtain⟨oc,od,kV,doc,pm,an,cdv,ct,osl,rfl,lk,hcd⟩:=F.ex;refine Iz lk hcd S len λA outer s H vs Q E hr hsp=> ?_
 obtain⟨t,h,q⟩:=hbody cdv A outer s H vs Q E hr hsp;exact⟨t,h.nox,q⟩
theorem Fun.binds {x qual:Str}{st:Stmt}{f:Addr}{fd:LL}{ps:List Str}(F:Fun K x qual st f fd)
  (h:∀(kV doc pm:Kq) (an:Option Addr) (cdv ct:Kq) (us:List Kq),us.length=ps.length->bindArgs (N6 x qual (iI st) (de st) (ak st) .none kV doc pm an cdv ct) ⟨us,[]⟩=pure (ps.zip us)):Binds K fd ps []:=by
 obtain⟨oc,od,kV,doc,pm,an,cdv,ct,osl,rfl,lk,hcd⟩:=F.ex;exact .all (h kV doc pm an cdv ct)
theorem Go {x qual:Str}{st:Stmt}{f:Addr}{oc:Kq}{od an:Option Addr}{osl:Array (Option Kq)}{kV doc pm cdv ct:Kq}(l:K.lookup f=some ⟨oc,od,.func (N6 x qual (iI st) (de st) (ak st) .none kV doc pm an cdv ct),osl⟩)
  (c:Qd K cdv qual=true) (k:Me K (.ref f)=true):Fun K x qual st f (N6 x qual (iI st) (de st) (ak st) .none kV doc pm an cdv ct):=⟨⟨oc,od,kV,doc,pm,an,cdv,ct,osl,rfl,l,c⟩,k⟩
end
section
variable {X:Cx}
theorem pv (i:Nat){x:Str}{pos:Pos}(hN:X.N[i]? =some x:=by rfl)(hv:rj X.env.scope x:=by first | exact LN rfl | exact Lz (LN rfl) | exact Lz (Lz rfl))(hd:gm x:=by decide)
  (hcd:(x == ("__classdict__" : Str))=false:=by decide):PE X (.Name x pos) (nQ i):=g9 hN hv hd hcd
end
theorem iteF {A B:Prop}(h:B):if false=true then A else B:=by
 rw[if_neg KO];exact h
theorem iteT {A B:Prop}(h:A):if true=true then A else B:=by
 rw[if_pos rfl];exact h
def Same (H H':Hp):Prop:=∀b o,H b=some o->H' b=some o
theorem Same.refl (H:Hp):Same H H:=λ_ _ h=>h
theorem Same.trans {H H1 H2:Hp}(a:Same H H1)(b:Same H1 H2):Same H H2:=λc o h=>b c o (a c o h)
theorem kO {env:Env}:∀(names:List (Str×Nd)) (acc:List (Str×Addr)),
  (∀x,(x,Ld)∈names->∃c,env.cells.lookup x=some c) →
  (∀x c,acc.lookup x=some c->env.cells.lookup x=some c) →
  ∃cl,(forIn (m:=Sem) names acc (λx cs=>(if (x.2 == Ld)=true then do let a <-cellOf env x.1;pure (M5 ((x.1,a)::cs))else pure (M5 cs))))=pure cl ∧
   (∀x c,cl.lookup x=some c->env.cells.lookup x=some c) ∧
   (∀x,(x,Ld)∈names->∃c,cl.lookup x=some c)/\(∀x c,acc.lookup x=some c->∃c',cl.lookup x=some c')
 | [],acc,_,h=>⟨acc,rfl,h,λx hx=>by simp at hx,λx c e=>⟨c,e⟩⟩
 | (n,k)::r,acc,hf,h=>by
  by_cases hk:k=Ld
  ·subst hk
   obtain⟨c,hc⟩:=hf n (by simp)
   have h':∀x c',((n,c)::acc).lookup x=some c'->env.cells.lookup x=some c':=λx c' e=>by
    rw[LG]at e
    cases q:x == n with
    | true=>
     rw[q]at e
     have e2:c=c':=K7 e
     have e3:x=n:=by simpa using q
     rw[<-e2,e3];exact hc
    | false=>rw[q]at e;exact h x c' e
   obtain⟨cl,e1,e2,e3,e4⟩:=kO r ((n,c)::acc) (λx hx=>hf x (Ko _ hx)) h'
   refine⟨cl,?_,e2,λx hx=> ?_,λx c' e=> ?_⟩
   ·rw[NJ]
    simp only[beq_self_eq_true,if_true,cellOf,hc,pure_bind];exact e1
   ·rcases Ky.mp hx with z | z
    ·have z1:x=n:=by injection z
     subst z1;exact e4 x c (by simp[LG])
    ·exact e3 x z
   ·cases q:x == n with
    | true=>exact e4 x c (by simp[LG,q])
    | false=>exact e4 x c' (by simp[LG,q,e])
  ·have hb:(k == Ld)=false:=by simpa using hk
   obtain⟨cl,e1,e2,e3,e4⟩:=kO r acc (λx hx=>hf x (Ko _ hx)) h
   refine⟨cl,?_,e2,λx hx=> ?_,e4⟩
   ·rw[NJ]
    simp only[hb,ME,if_false,pure_bind];exact e1
   ·rcases Ky.mp hx with z | z
    ·have z1:Ld=k:=by injection z
     exact absurd z1.symm hk
    ·exact e3 x z
theorem wA {env:Env}{scope:NM}(hf:∀x,(x,Ld)∈scope.names->∃c,env.cells.lookup x=some c) :
  ∃cl,closureFor scope env=pure cl/\(∀x c,cl.lookup x=some c->env.cells.lookup x=some c)/\(∀x,(x,Ld)∈scope.names->∃c,cl.lookup x=some c):=by
 obtain⟨cl,e1,e2,e3,_⟩:=kO scope.names [] hf (λx c e=>by simp at e)
 refine⟨cl,?_,e2,e3⟩
 unfold closureFor;refine Eq.trans ?_ (congrArg (λz=>z >>= pure) e1|>.trans (by simp))
 rfl
theorem tw {pr:KS}{wd:LA}{Ar:La}{Rz:SA->Kt->Prop}{s0:Kt}{el tg it0:Expr}{cs:List Expr}{sc:NM}{ps:Pos}{itv av:Kq}{ev:Env}(W:Nat->Kt->Prop)
  (go:∀k st,W k st->wpAny (model pr wd) Ar (pyNext itv) (λr s1=>match r with
   | none=>Rz (.ok .next) s1
   | some v=>wpAny (model pr wd) Ar (NO tg itv v) (λ_ s2=>wpAny (model pr wd) Ar (assign tg ev v) (λ_ s3=>
     wpAny (model pr wd) Ar (forIn cs true λc b=>if b=true then do let z <-isTrue c ev (eval c ev);pure (M5 z)else pure (M5 b)) (λz s4=>
      if z=true then wpAny (model pr wd) Ar (eval el ev) (λy s5=>
       wpAny (model pr wd) Ar (call (.builtin "list.append") [av,y]) (λ_ s6=> ∃m,m<k/\W m s6) (λ_ _=>False) s5) (λ_ _=>False) s4
      else ∃m,m<k/\W m s4) (λ_ _=>False) s3) (λ_ _=>False) s2) (λ_ _=>False) s1) (λ_ _=>False) st)
  (k:Nat) (hk:W k s0):codeAny (model pr wd) Ar (.compLoop (.ListComp el [⟨tg,it0,cs,0⟩] sc ps) 0 itv av ev) Rz s0:=by
 refine codeAny_loop rfl W (λk st hw=> ?_) k hk
 show wpAny (model pr wd) Ar ((compTurn (.ListComp el [⟨tg,it0,cs,0⟩] sc ps) 0 itv av ev).onRaise (λz=>do Sr z ev;theTreesLotGoes z)) _ _ st
 refine wpAny_noted ?_
 rw[compTurn_list]
 have no:∀{α:Type} {t:Sem α} {Q Q':α->Kt->Prop} {E':Kq->Kt->Prop} {x:Kt},wpAny (model pr wd) Ar t Q (λ_ _=>False) x->(∀y z,Q y z->Q' y z)->wpAny (model pr wd) Ar t Q' E' x:=λh f=>Mb h f λ_ _ z=>z.elim
 refine Kn (wpAny_standAt (Kn (no (go k st hw) λr s1 g1=> ?_)))
 cases r with
 | none=>exact Kz g1
 | some v=>
  refine Kn (no g1 λ_ s2 g2=>Kn (no g2 λ_ s3 g3=>Kn (no g3 λz s4 g4=> ?_)))
  cases z with
  | false=>exact Kz (R8 rfl g4)
  | true=>exact Kn (Kn (no g4 λy s5 g5=>Kn (no g5 λ_ s6 g6=>Kz (Kz (R8 rfl g6)))))
def cj (X:Cx)(scope:NM)(cl:List (Str×Addr))(N':List Str)(C:Addr)(s₀:Kt)(H₀:Hp)(fp:List Addr):Cx:=
 { X with N:=N',s₀:=s₀,H₀:=H₀,env:=compEnvC scope cl C X.env,outer:=X.stack,stack:=X.stack,ex:=fp,fn:=λx=>scope.names.lookup x == some .cell,xe:=λ_ _=>False }
def gn (src:List (Option Nat))(σ:St):St:=src.map λo=>match o with
 | some i=>(σ[i]?).join
 | none=>none
theorem ju {env:Env}:∀{names:List (Str×Nd)} {x:Str} {k:Nd},
  (names.map λ(n,k)=>if (k == Ld&&env.scope.kind == .function&&env.kindOf n == some .cell)then(n,L0)else(n,k)).lookup x=some k →
  ∃k',names.lookup x=some k'/\(k=k'\/k'= .free)
 | [],_,_,h=>by simp at h
 | (n,k0)::r,x,k,h=>by
  have ih:=@ju env r x k
  have h':NX x ((if (k0 == Ld&&env.scope.kind == .function&&env.kindOf n == some .cell)=true then(n,L0)else(n,k0))::(r.map λ(n,k)=>if (k == Ld&&env.scope.kind == .function&&env.kindOf n == some .cell)then(n,L0)else(n,k)))=some k:=h
  by_cases hc:(k0 == Ld&&env.scope.kind == .function&&env.kindOf n == some .cell)=true
  ·rw[if_pos hc]at h'
   rw[LG]at h' ⊢
   cases hx:x == n with
   | true=>
    refine⟨k0,rfl,.inr ?_⟩
    have:=Ms.mp hc|>.1
    have:=Ms.mp this|>.1
    simpa using this
   | false=>rw[hx]at h';exact ih h'
  ·rw[if_neg hc]at h'
   rw[LG]at h' ⊢
   cases hx:x == n with
   | true=>rw[hx]at h';exact⟨k0,rfl,.inl (K7 h').symm⟩
   | false=>rw[hx]at h';exact ih h'
theorem jN {names:List (Str×Nd)}{x:Str}{k:Nd}(h:names.lookup x=some k):(x,k)∈names:=Mv h
theorem i9 {env:Env}:∀{names:List (Str×Nd)} {x:Str},names.lookup x=some .free →
  (names.map λ(n,k)=>if (k == Ld&&env.scope.kind == .function&&env.kindOf n == some .cell)then(n,L0)else(n,k)).lookup x=some .cell ∨
  (names.map λ(n,k)=>if (k == Ld&&env.scope.kind == .function&&env.kindOf n == some .cell)then(n,L0)else(n,k)).lookup x=some .free
 | [],_,h=>by simp at h
 | (n,k0)::r,x,h=>by
  have ih:=@i9 env r x
  show NX x ((if (k0 == Ld&&env.scope.kind == .function&&env.kindOf n == some .cell)=true then(n,L0)else(n,k0))::_)=_\/NX x ((if (k0 == Ld&&env.scope.kind == .function&&env.kindOf n == some .cell)=true then(n,L0)else(n,k0))::_)=_
  rw[LG]at h
  by_cases hc:(k0 == Ld&&env.scope.kind == .function&&env.kindOf n == some .cell)=true
  ·rw[if_pos hc]
   rw[LG]
   cases hx:x == n with
   | true=>exact .inl rfl
   | false=>rw[hx]at h;exact ih h
  ·rw[if_neg hc]
   rw[LG]
   cases hx:x == n with
   | true=>rw[hx]at h;exact .inr h
   | false=>rw[hx]at h;exact ih h
section
variable {X:Cx}
structure LcScope (X:Cx)(scope:NM)(N':List Str)(src:List (Option Nat)):Prop where
 kind:scope.kind= .function
 cel:∀y∈scope.names,y.2= .cell->scope.names.lookup y.1=some .cell
 loc:∀y∈scope.names,y.2= .local->scope.names.lookup y.1=some .local
 len:src.length=N'.length
 from_:∀(j i:Nat) (x:Str),src[j]? =some (some i)->N'[j]? =some x->X.N[i]? =some x/\scope.names.lookup x=some .free
 free:∀x,(x,Ld)∈scope.names->X.env.kindOf x=some .cell\/X.env.kindOf x=some .free
def EF (K:Km)(wi:TI)(src:List (Option Nat))(g:TG)(tc:TT)(te:TE):TE:=λσ H Q=>wi σ H λJ H1=> ∀D,H1 D=none->K.lookup D=none →
 ∃W:Nat->Nat->St->List V->Hp->Prop,(∃m,W 0 m (gn src σ) [] (upd H1 D (.lst [])))/\∀i m σ ys H,W i m σ ys H->H D=some (.lst ys) ∧
  ((J.stop i H/\Q (.ref D) H)\/(J.go i H/\ys.length<sizeLine/\∀x H',J.yld i H x H'->g x σ H' λσ2 H2=>tc σ2 H2 λb H3=>
   if b=true then te σ2 H3 λv H4=>H4 D=some (.lst ys)/\∃m',m'<m/\W (i+1) m' σ2 (ys++ [v]) (upd H4 D (.lst (ys++ [v])))else ∃m',m'<m/\W (i+1) m' σ2 ys H3))
def zh (X:Cx)(ifs:List Expr)(t:TT):Prop:=
 ∀(pins:List (Addr×Obj)) (s:Kt) (σ:St) (H:Hp) (Q:Bool->Hp->Prop),Inv X pins σ H s->t σ H Q →
  wpAny (model X.prog X.w) X.A (forIn ifs true λc r=>if r=true then do let ok <-isTrue c X.env (eval c X.env);pure (M5 ok)else pure (M5 r)) (TP X pins σ Q) X.xe s
def tW:TT:=λ_ H Q=>Q true H
theorem rV:zh X [] tW:=λ_ _ _ H _ I h=>wpAny_tests_nil ⟨H,I,h⟩
theorem CN {c:Expr}{t:TT}(h:PT X c t):zh X [c] t:=λpins s σ H Q I q=>wpAny_tests_one (h pins s σ H Q I q)
theorem mj:∀(names:List (Str×Nd)) (h:Heap) (acc:List (Str×Addr)),(∀x y c,acc.lookup x=some c->acc.lookup y=some c->x=y)->(∀x c,acc.lookup x=some c->c<h.objs.size) →
  (∀x c,(MG h.objs.size names acc).lookup x=some c->acc.lookup x=some c\/(h.objs.size<=c/\(P0 h names).IsCell c none)) ∧
  (∀x y c,(MG h.objs.size names acc).lookup x=some c->(MG h.objs.size names acc).lookup y=some c->x=y) ∧
  (∀x,(x,L0)∉names->(MG h.objs.size names acc).lookup x=acc.lookup x) ∧
  (∀x,((x,L0)∈names\/∃c,acc.lookup x=some c)->∃c,(MG h.objs.size names acc).lookup x=some c) ∧
  (∀x c,(x,L0)∈names->(MG h.objs.size names acc).lookup x=some c->h.objs.size<=c)
 | [],h,acc,hi,_=>⟨λ_ _ e=> .inl e,hi,λ_ _=>rfl,λx e=>e.elim (λz=>absurd z Lw) id,λ_ _ z=>absurd z Lw⟩
 | (n,k)::r,h,acc,hi,hl=>by
  unfold MG P0
  by_cases hk:k= .cell
  ·subst hk
   rw[if_pos (by rfl),if_pos (by rfl)]
   have hz:(h.push { cls:=.type "cell",data:=.cell none }).objs.size=h.objs.size+1:=LX ..
   have lk:∀x,((n,h.objs.size)::acc).lookup x=if x=n then some h.objs.size else acc.lookup x:=λx=>by
    rw[LG]
    by_cases e:x=n
    ·rw[if_pos e,beq_iff_eq.mpr e]
    ·rw[if_neg e,beq_eq_false_iff_ne.mpr e]
   obtain⟨c1,c2,c3,c4,c5⟩:=mj r (h.push { cls:=.type "cell",data:=.cell none }) ((n,h.objs.size)::acc) (λx y c e1 e2=>by
     rw[lk]at e1 e2
     by_cases q1:x=n
     ·by_cases q2:y=n
      ·rw[q1,q2]
      ·rw[if_pos q1]at e1;rw[if_neg q2]at e2
       cases e1;exact absurd (hl _ _ e2) (KZ _)
     ·rw[if_neg q1]at e1
      by_cases q2:y=n
      ·rw[if_pos q2]at e2
       cases e2;exact absurd (hl _ _ e1) (KZ _)
      ·rw[if_neg q2]at e2;exact hi x y c e1 e2) (λx c e=>by
     rw[lk]at e;rw[hz]
     by_cases q:x=n
     ·rw[if_pos q]at e;cases e;exact RM _
     ·rw[if_neg q]at e;exact NY (hl x c e))
   rw[hz]at c1 c2 c3 c4 c5;refine⟨λx c e=> ?_,c2,λx hx=> ?_,λx hx=> ?_,λx c hx e=> ?_⟩
   ·rcases c1 x c e with z | z
    ·rw[lk]at z
     by_cases q:x=n
     ·rw[if_pos q]at z;cases z
      exact .inr ⟨KB _,_,P2 r _ _ _ (KI _ rfl),rfl⟩
     ·rw[if_neg q]at z;exact .inl z
    ·exact .inr ⟨NZ z.1,z.2⟩
   ·rw[c3 x λz=>hx (Ko _ z),lk,if_neg λz=>hx (by rw[z];exact Kr)]
   ·refine c4 x ?_
    rcases hx with hx | hx
    ·rcases Ky.mp hx with z | z
     ·cases z
      exact .inr ⟨_,by rw[lk,if_pos rfl]⟩
     ·exact .inl z
    ·by_cases q:x=n
     ·exact .inr ⟨_,by rw[lk,if_pos q]⟩
     ·exact .inr (by rw[lk,if_neg q];exact hx)
   ·rcases Ky.mp hx with z | z
    ·have q:x=n:=(R1 z).1
     rcases c1 x c e with y | y
     ·rw[lk,if_pos q]at y;cases y;exact KB _
     ·exact NZ y.1
    ·exact NZ (c5 x c z e)
  ·have hb:¬ (k == L0)=true:=λz=>hk (by simpa using z)
   rw[if_neg hb,if_neg hb];obtain⟨c1,c2,c3,c4,c5⟩:=mj r h acc hi hl;exact⟨c1,c2,λx hx=>c3 x λz=>hx (Ko _ z),λx hx=>c4 x (hx.imp (λz=>(Ky.mp z).resolve_left λz=>hk (R1 z).2.symm) id),λx c hx=>c5 x c ((Ky.mp hx).resolve_left λz=>hk (R1 z).2.symm)⟩
theorem yp {M:Sz}{A:La}{E:Kq->Kt->Prop}{s:Kt}{scope:NM}{globals:Addr}{cl:List (Str×Addr)}{qual:Str}{env:Env}{Q:Env->Kt->Prop}
  (q:Q (newEnv scope s.heap.objs.size globals (MG (s.heap.objs.size+1) scope.names cl) qual none .none (some env) P6) { s with heap:=P0 (s.heap.push { cls:=.type "dict",data:=.dict #[] }) scope.names }) :
  wpAny M A (newFunctionEnv scope globals cl [] qual none .none (some env)) Q E s:=by
 simp only[newFunctionEnv,QC,if_true];refine Kn (wpAny_alloc (Kn (wpAny_layCells _ (λname kind cells=>by cases hkc:kind == L0 <;> simp[hkc]) _ _ _ _ ?_)))
 rw[show({ s with heap:=s.heap.push { cls:=.type "dict",data:=.dict #[] } }:Kt).heap.objs.size=s.heap.objs.size+1 from LX ..]
 rw[N5];exact Kn (Kz (Kz q))
theorem xv {elt tg iter:Expr}{ifs:List Expr}{scope:NM}{pos fpos:Pos}{N':List Str}{src:List (Option Nat)}{wi:TI}{g:TG}{tc:TT}{te:TE}{use:Option (Kq->Sem Unit)}{Qf:Kq->Kt->Prop}
  {pins:List (Addr×Obj)} {s:Kt} {σ:St} {H:Hp} {Q:VK}
  (hc:X.calm=true) (S:LcScope X scope N' src) (hi:PI X tg iter wi)
  (block:∀cl C s₀ H₀ fp,PG (cj X scope cl N' C s₀ H₀ fp) tg g/\zh (cj X scope cl N' C s₀ H₀ fp) ifs tc/\PE (cj X scope cl N' C s₀ H₀ fp) elt te)
  (hs:∀x,Li iter X.env x=pure x) (I:Inv X pins σ H s) (h:EF X.K wi src g tc te σ H Q)
  (hend:∀(D C:Addr) (H':Hp) (s':Kt),(∃m,s'.heap.Ns C m)->(∀h',Ny C s'.heap h'->Inv X pins σ H' { s' with heap:=h' })->(H' C=none/\C≠X.env.locals/\X.s₀.heap.objs.size<=C/\(∀x c,X.env.cells.lookup x=some c->c≠C)/\∀p∈X.pn++pins,p.1≠C)->Q (.ref D) H' →
   compPost (model X.prog X.w) X.A X.xe use Qf (.ref D) C (.ok .next) s') :
  wpAny (model X.prog X.w) X.A (comprehension (.ListComp elt [⟨tg,iter,ifs,0⟩] scope pos) scope X.env fpos (newList []) false (eval iter X.env) use) Qf X.xe s:=by
 have hcell:∀x,(x,Ld)∈scope.names->∃c,X.env.cells.lookup x=some c:=λx hx=>I.ok.has x (S.free x hx)
 obtain⟨cl0,hcl,cl01,cl02⟩:=wA (env:=X.env) (scope:=scope) hcell;refine wpAny_comprehension_free (use:=use) rfl hs hcl S.kind S.loc (cr (hi pins s σ H _ I h) λv s1 h1=>cr h1 λitv s2 h2=> ?_)
 obtain⟨it,fp,tn,J,H2,e,I2,T,st2,f2,hq⟩:=h2;subst e
 -- the new list
 refine Md ?_
 have hD:H2 s2.heap.objs.size=none:=I2.hok.fresh (KB _)
 have hDK:X.K.lookup s2.heap.objs.size=none:=by
  cases q:X.K.lookup s2.heap.objs.size with
  | none=>rfl
  | some o=>exact absurd (KF (I2.kIn _ o q)) (KZ _)
 obtain⟨W,⟨m0,w0⟩,turn⟩:=hq s2.heap.objs.size hD hDK
 have I3:=I2.J1 (its:=[]) (ys:=[]) (t':=s2.toks) .nil (LP _)
 generalize hs3:({ s2 with heap:=s2.heap.push { cls:=.type "list",data:=.seq ([]:List Kq).toArray },toks:=s2.toks }:Kt)=s3 at I3
 generalize hH3:upd H2 s2.heap.objs.size (.lst [])=H3 at I3 w0
 have hDsz:s2.heap.objs.size<s3.heap.objs.size:=by rw[<-hs3];simp[LX]
 have fr3:∀b∈fp,H3 b=none:=λb hb=>by
  obtain⟨o,eo,_⟩:=T.obj _ _ st2 b hb;rw[<-hH3,aF (Lk (KF eo))];exact(f2 b hb).1
 have st3:tn 0 s3.heap:=T.keep _ _ _ st2 λb hb o e=>by rw[<-hs3];exact Kv _ e
 have f3:∀b∈fp,nh X pins H3 b:=λb hb=>⟨fr3 b hb,(f2 b hb).2⟩
 have D3:H3 s2.heap.objs.size=some (.lst []):=by rw[<-hH3];exact aG
 generalize s2.heap.objs.size=D at*
 clear hs3 hH3 hD hDK
 -- the block's frame
 refine yp ?_
 have old:∀b o,s3.heap.get? b=some o->(P0 (s3.heap.push { cls:=.type "dict",data:=.dict #[] }) scope.names).get? b=some o:=λb o e=>P2 _ _ b o (Kv _ e)
 have hns₁:(P0 (s3.heap.push { cls:=.type "dict",data:=.dict #[] }) scope.names).Ns s3.heap.objs.size (λ_=>none):=(Heap.Ns.new s3.heap (.type "dict")).keeps (P2 _ _)
 have hz3:(s3.heap.push { cls:=.type "dict",data:=.dict #[] }).objs.size=s3.heap.objs.size+1:=LX ..
 have lt0:∀x c,cl0.lookup x=some c->c<s3.heap.objs.size:=λx c e=>let ⟨_,ic⟩:=I3.cell x c (cl01 x c e);ic.lt
 obtain⟨c1,c2,c3,c4,c5⟩:=mj scope.names (s3.heap.push { cls:=.type "dict",data:=.dict #[] }) cl0 (λx y c e1 e2=>I3.ok.inj x y c (cl01 x c e1) (cl01 y c e2)) λx c e=>by rw[hz3];exact NY (lt0 x c e)
 rw[hz3]at c1 c2 c3 c4 c5
 generalize hcl':MG (s3.heap.objs.size+1) scope.names cl0=cl at*
 generalize hh₁:P0 (s3.heap.push { cls:=.type "dict",data:=.dict #[] }) scope.names=h₁ at*
 have below:∀b o,s3.heap.get? b=some o->b≠s3.heap.objs.size:=λb o e=>Lk (KF e)
 -- a cell of the block's: one from around,or a new one
 have cl1:∀x c,cl.lookup x=some c->X.env.cells.lookup x=some c\/(s3.heap.objs.size<c/\h₁.IsCell c none):=λx c e=>(c1 x c e).imp (cl01 x c) id
 generalize hC:s3.heap.objs.size=C at*
 have stk:∀b,b≠X.env.locals->b∉X.fs->b∉o0 X.stack:=λb h1 h2 z=>(Ky.mp (I3.JE b z)).elim h1 h2
 have apart:∀b∈fp,∀x c,cl.lookup x=some c->c≠b:=λb hb x c e=>by
  rcases cl1 x c e with z | z
  ·exact(f3 b hb).2.2.2.2.1 x c z
  ·obtain⟨o,eo,_⟩:=T.obj _ _ st3 b hb
   have h1:=KF eo;rw[hC]at h1;exact MS (PJ h1 z.1)
 have I4:Inv (cj X scope cl N' C s3 H3 fp) pins (gn src σ) H3 { s3 with heap:=h₁ }:=by
  refine⟨⟨I3.ok.mod,S.kind,I3.ok.glob,I3.ok.blt,NA hC,c2,λx hx=> ?_,λx c hx e=>Ml (hC▸c5 x c (jN (beq_iff_eq.mp hx)) e),I3.ok.hd,I3.ok.frames,.inl rfl,
    λb hb=>⟨?_,λx c e=>apart b hb x c e⟩,I3.bs,K6 I3.ok.bsz I3.sz,λb o e z=> ?_,λb hb=>stk b (f3 b hb).2.1 (f3 b hb).2.2.1,I3.stack,I3.Jy⟩,
   rfl,I3.bare,Un.kept old,⟨_,hns₁,λj x v e1 e2 e3=> ?_⟩,λx c e=> ?_,I3.hok.fresh (NA hC),λx c e=>(cl1 x c e).elim (I3.freeC x c) λz=>I3.hok.fresh (by rw[hC];exact Ml z.1),λp hp=> ?_,I3.hok.kept old,?_⟩
  ·have key:∀k,(relabel scope X.env).names.lookup x=some k->(k= .cell\/k= .free)->∃c,cl.lookup x=some c:=λk e hk=>by
    obtain⟨k',e',z⟩:=ju e
    have hk':k'= .cell\/k'= .free:=z.elim (λz=>z▸hk) .inr
    rcases hk' with q | q
    ·exact c4 x (.inl (q▸jN e'))
    ·exact c4 x (.inr (cl02 x (q▸jN e')))
   rcases hx with hx | hx
   ·exact key _ hx (.inl rfl)
   ·exact key _ hx (.inr rfl)
  ·obtain⟨o,eo,_⟩:=T.obj _ _ st3 b hb
   show b≠C
   exact below b o eo
  ·have z':b∈fp:=z
   obtain⟨_,_,_,z1,_⟩:=f3 b z';rcases z1 with z1 | z1
   ·exact I3.ok.noex b o e z1
   ·exact absurd (KA (KF (I3.ok.bs b o e).1) z1) (KZ _)
  ·unfold gn at e2
   rw[KP]at e2
   cases q:src[j]? with
   | none=>rw[q]at e2;simp at e2
   | some o=>
    rw[q]at e2
    cases o with
    | none=>simp at e2
    | some i=>
     have e2':(σ[i]?).join=some v:=by simpa using e2
     have e2'':σ[i]? =some (some v):=by
      cases q2:σ[i]? with
      | none=>rw[q2]at e2';simp at e2'
      | some z=>rw[q2]at e2';simp at e2';rw[e2']
     obtain⟨hN,hfree⟩:=S.from_ j i x q e1
     have hm:=jN hfree
     have hk:=S.free x hm;obtain⟨m,hn,hl⟩:=I3.loc
     have hv:rj X.env.scope x:=by
      rcases hk with z | z
      ·exact .inr (.inl z)
      ·exact .inr (.inr z)
     obtain⟨u,r,l⟩:=hl i x v hN e2'' hv;refine⟨u,r,.inr ⟨?_,?_⟩⟩
     ·exact i9 hfree
     ·rcases l with⟨z,_⟩ | ⟨_,c,ec,ic⟩
      ·rcases hk with z' | z' <;> rw[z']at z <;> cases z
      ·obtain⟨c',ec0⟩:=cl02 x hm
       have ec':cl.lookup x=some c':=(c3 x λz=>by have:=S.cel _ z rfl;rw[hfree]at this;cases this).trans ec0
       have:=cl01 x c' ec0;rw[ec]at this;cases this;obtain⟨o,ho,hd⟩:=ic;exact⟨c,ec',o,old _ _ ho,hd⟩
  ·rcases cl1 x c e with z | z
   ·obtain⟨v,o,ho,hd⟩:=I3.cell x c z
    exact⟨v,o,old _ _ ho,hd⟩
   ·exact⟨none,z.2⟩
  ·obtain⟨e,n,ne,nf,d⟩:=I3.pin p hp
   exact⟨old _ _ e,n,below _ _ e,stk _ ne nf,d⟩
  ·show(gn src σ).length=N'.length
   unfold gn;rw[Ks];exact S.len
 obtain⟨bG,bI,bE⟩:=block cl C s3 H3 fp
 have stat:∀{H':Hp},(∀b∈fp,H' b=none)->∀b∈fp,nh (cj X scope cl N' C s3 H3 fp) pins H' b:=λhn b hb=>by
  obtain⟨o,eo,_⟩:=T.obj _ _ st3 b hb;exact⟨hn b hb,below b o eo,stk b (f3 b hb).2.1 (f3 b hb).2.2.1,.inl hb,apart b hb,(f3 b hb).2.2.2.2.2⟩
 have st4:tn 0 h₁:=T.keep _ _ _ st3 λb hb o e=>old b o e
 -- behind the block
 have after:∀(H':Hp) (s':Kt) (σ':St),Inv (cj X scope cl N' C s3 H3 fp) pins σ' H' s'->Q (.ref D) H' →
   compPost (model X.prog X.w) X.A X.xe use Qf (.ref D) C (.ok .next) s':=λH' s' σ' I' q=>by
  obtain⟨m,hn,_⟩:=id I'.loc
  have fC:X.s₀.heap.objs.size<=C:=by rw[<-hC];exact I3.sz
  have ltC:∀b o,s3.heap.get? b=some o->b<C:=λb o e=>by rw[<-hC];exact KF e
  refine hend D C H' s' ⟨m,hn⟩ (λh' hsb=> ?_) ⟨I'.free,?_,fC,λx c e z=> ?_,λp hp z=> ?_⟩ q
  rotate_left
  ·have:=I3.lt;rw[hC]at this;exact MS this
  ·obtain⟨v,ic⟩:=I3.cell x c e
   have:=ic.lt;rw[hC,z]at this;exact KZ _ this
  ·have:=ltC _ _ (I3.pin p hp).1;rw[z]at this;exact KZ _ this
  have u:Un (o0 X.stack) fp H3 H' s3.heap s'.heap:=I'.base
  have lift:∀b o,s3.heap.get? b=some o->∀o',s'.heap.get? b=some o'->h'.get? b=some o':=λb o e o' e'=>hsb.extBut b o' (below b o e) e'
  have u':Un (o0 X.stack) fp H3 H' s3.heap h':=
   ⟨λb o e n hb hx=>lift b o e o (u.keep b o e n hb hx),λb o e n hb hx=>by
     obtain⟨sl,z⟩:=u.slot b o e n hb hx;exact⟨sl,lift b o e _ z⟩,u.free,λb o e hx=>by
     obtain⟨o',z⟩:=u.there b o e hx;exact⟨o',lift b o e _ z⟩,u.tups,u.frzs,u.tbls⟩
  have hCn:H' C=none:=I'.free
  have hok':HOk X.prog X.w H' h':=λb ob e=>by
   refine(I'.hok b ob e).JA (λc w' hc' q'=>(hsb.2 c ?_).trans q') (λ_ q=>q) λ_ _ q=>q
   rintro rfl
   rcases hc' with rfl | hc'
   ·rw[hCn]at e;cases e
   ·rw[hCn]at hc';cases hc'
  have I5:Inv X pins σ H' { s' with heap:=h' }:=I3.JN (s':={ s' with heap:=h' }) (ch:=fp) I'.os u' hok' I'.bare λb hb=>⟨(f3 b hb).2.2.2.1,(f3 b hb).2.1,(f3 b hb).2.2.2.2.1,(f3 b hb).2.2.2.2.2⟩
  exact I5
 have loop:codeAny (model X.prog X.w) X.A (.compLoop (.ListComp elt [⟨tg,iter,ifs,0⟩] scope pos) 0 (.ref it) (.ref D) (compEnvC scope cl C X.env))
   (compPost (model X.prog X.w) X.A X.xe use Qf (.ref D) C) { s3 with heap:=h₁ }:=by
  refine tw (λn s'=> ∃i σ' ys H',Inv (cj X scope cl N' C s3 H3 fp) pins σ' H' s'/\tn i s'.heap/\(∀b∈fp,H' b=none)/\W i n σ' ys H') ?_ m0 ⟨0,_,[],H3,I4,st4,fr3,w0⟩
  rintro n s5 ⟨i,σ5,ys,H5,I5,st5,fr5,w5⟩
  obtain⟨hDl,alt⟩:=turn i n σ5 ys H5 w5;rcases alt with⟨stop,qn⟩ | ⟨go,hlen,step⟩
  ·refine cr (T.done (cj X scope cl N' C s3 H3 fp) rfl rfl rfl hc i pins s5 σ5 H5 _ I5 (stat fr5) st5 stop) λr s6 ⟨hr,I6⟩=> ?_
   subst hr;exact after H5 s6 σ5 I6 qn
  ·refine cr (T.item (cj X scope cl N' C s3 H3 fp) rfl rfl rfl hc i pins s5 σ5 H5 _ I5 (stat fr5) st5 go) λr s6 ⟨u,hr,h6⟩=> ?_
   subst hr;refine cr h6 λ_ s7 hh_=> ?_
   obtain⟨x,H7,I7,r7,y7,st7,fr7⟩:=hh_
   have I7':=I7.pinned (stat fr7) (T.obj _ _ st7);refine cr (bG _ s7 σ5 H7 x u _ I7' r7 (step x H7 y7)) λ_ s8 hh_=> ?_
   obtain⟨σ8,H8,I8,q8⟩:=hh_;refine cr (bI _ s8 σ8 H8 _ I8 q8) λok s9 hh_=> ?_
   obtain⟨H9,I9,q9⟩:=hh_
   have again:∀{σx:St} {Hx:Hp} {sx:Kt} {ys':List V},Inv (cj X scope cl N' C s3 H3 fp) (pins++oh fp s7.heap) σx Hx sx->(∃m',m'<n/\W (i+1) m' σx ys' Hx) →
     ∃m,m<n/\∃i σ' ys H',Inv (cj X scope cl N' C s3 H3 fp) pins σ' H' sx/\tn i sx.heap/\(∀b∈fp,H' b=none)/\W i m σ' ys H':=λ{σx Hx sx ys'} Ix nx=>by
    obtain⟨m',hm,wx⟩:=nx;refine⟨m',hm,i+1,σx,ys',Hx,Ix.Jr,T.keep _ _ _ st7 λb hb o e=>(Ix.pin (b,o) (KU _ (KU _ (iC hb e)))).1,λb hb=> ?_,wx⟩
    obtain⟨o,e,d⟩:=T.obj _ _ st7 b hb;exact(Ix.pin (b,o) (KU _ (KU _ (iC hb e)))).2.1
   cases ok with
   | false=>
    rw[if_neg KO]at q9 ⊢
    exact again I9 q9
   | true=>
    rw[if_pos rfl]at q9 ⊢;refine cr (bE _ s9 σ8 H9 _ I9 q9) λv s10 hh_=> ?_
    obtain⟨y,H10,I10,r10,hD10,q10⟩:=hh_;refine cr (qM _ s10 σ8 H10 (.ref D) [y] (.ref D) [v] (λ_ H'=>H'=upd H10 D (.lst (ys++ [y]))) I10 rfl (.cons r10 .nil) ⟨D,ys,y,rfl,rfl,hD10,hlen,rfl⟩) λ_ s11 hh_=> ?_
    obtain⟨_,H11,I11,_,e11⟩:=hh_;subst e11;exact again I11 q10
 exact codeAny_compStart_list loop (T.self _ 0 _ _ _ st4 loop)
theorem uA {elt tg iter:Expr}{ifs:List Expr}{scope:NM}{pos:Pos}{N':List Str}{src:List (Option Nat)}{wi:TI}{g:TG}{tc:TT}{te:TE}
  (hc:X.calm=true) (S:LcScope X scope N' src) (hi:PI X tg iter wi)
  (block:∀cl C s₀ H₀ fp,PG (cj X scope cl N' C s₀ H₀ fp) tg g/\zh (cj X scope cl N' C s₀ H₀ fp) ifs tc/\PE (cj X scope cl N' C s₀ H₀ fp) elt te)
  (hs:∀x,Li iter X.env x=pure x:=by intro _;rfl) :
  PE X (.ListComp elt [⟨tg,iter,ifs,0⟩] scope pos) (EF X.K wi src g tc te):=by
 intro pins s σ H Q I h;rw[eval_ListComp];exact xv (use:=none) hc S hi block hs I h λD C H' s' ⟨m,hn⟩ inv _ q=>⟨m,hn,λh' hsb=>⟨.ref D,H',inv h' hsb,rfl,q⟩⟩
theorem HC {elt tg iter:Expr}{ifs:List Expr}{scope:NM}{pos py spos:Pos}{N':List Str}{src:List (Option Nat)}{wi:TI}{g:TG}{tc:TT}{te:TE}{i:Nat}{y:Str}
  (hc:X.calm=true) (S:LcScope X scope N' src) (hi:PI X tg iter wi)
  (block:∀cl C s₀ H₀ fp,PG (cj X scope cl N' C s₀ H₀ fp) tg g/\zh (cj X scope cl N' C s₀ H₀ fp) ifs tc/\PE (cj X scope cl N' C s₀ H₀ fp) elt te)
  (hN:X.N.Nodup) (hiy:X.N[i]? =some y) (hy:Loc X.env.scope y) (hsw:LF (.ListComp elt [⟨tg,iter,ifs,0⟩] scope pos) (some (.Name y py)) spos.line X.env=pure true)
  (hf:X.fn y=true\/X.env.scope.names.lookup y=some .local) (hs:∀x,Li iter X.env x=pure x:=by intro _;rfl) :
  PS X (.Assign [.Name y py] (.ListComp elt [⟨tg,iter,ifs,0⟩] scope pos) spos) (zw (EF X.K wi src g tc te) (Ba i)):=by
 intro pins s σ H D I h;rw[exec_Assign_Name_used _ _ _ _ hsw];refine Kn (wpAny_standAt (Kn ?_))
 show wpAny (model X.prog X.w) X.A (do let _ <-comprehension (.ListComp elt [⟨tg,iter,ifs,0⟩] scope pos) scope X.env _ (newList []) false (eval iter X.env) (some (assign (.Name y py) X.env))) _ _ s
 refine Kn (cr (xv (use:=some (assign (.Name y py) X.env)) (Qf:=λ_ s'=>SP X pins D .next s') (Q:=λv H'=>D.nx (σ.set i (some v)) H') hc S hi block hs I h λL C H' s' ⟨m,hn⟩ inv ⟨c0,c1,c2,c3,c4⟩ q=> ?_) λ_ s' hq=>Kz (Kz hq))
 have I0:Inv X pins σ H' s':=inv s'.heap (Heap.SameBut.refl ..)
 show wpAny (model X.prog X.w) X.A (assign (.Name y py) X.env (.ref L)) _ _ s'
 refine Ri (qA I0 hN hiy hy (v:=.ref L) rfl (λs2 I2 ⟨b,sb,hb⟩=> ?_) hf)
 have hbC:C≠b:=by
  rcases hb with z | z
  ·rw[z];exact c1
  ·exact λw=>c3 y b z w.symm
 refine⟨m,hn.sameBut sb hbC,λh' hsb=> ?_⟩
 exact⟨_,H',I2.turned (t':=s2.toks) (λb' o hb' e=>(hsb.2 b' hb').trans e) c0 c1 (.inr c2) c3 c4,q⟩
end
end L2
namespace Tr
open PySem PySem.Spec PyProof.Rows L2
inductive T where
 | non | bl (b:Bool) | int (i:Int) | str (x:Str) | tup (l:List T) | lst (l:List T)
 /-- the law's script: a list of ints that is only read -/
 | scr (l:List Int)
 /-- a dict: its keys,its values -/
 | dct (ks vs:List T)
def Eb:T->Option Key
 | .int i=>some (.inl i)
 | .str x=>some (.inr x)
 | _=>none
def oX:List T->Option (List Key)
 | [] =>some []
 | t::l=>match Eb t,oX l with
  | some k,some r=>some (k::r)
  | _,_=>none
def keyOf:T->Option (List Key)
 | .tup l=>oX l
 | _=>none
inductive Rs (α:Type) where
 | ok (a:α) | err (c:Str) | bad
def Rs.bind {α β:Type}(x:Rs α)(f:α->Rs β):Rs β:=match x with
 | .ok a=>f a
 | .err c=> .err c
 | .bad=> .bad
instance:Monad Rs where
 pure:=Rs.ok
 bind:=Rs.bind
@[simp] theorem aE {α β:Type} (a:α) (f:α->Rs β):(Rs.ok a >>= f)=f a:=rfl
@[simp] theorem IT {α:Type} (a:α):(pure a:Rs α)=Rs.ok a:=rfl
@[simp] theorem IF {α β:Type} (f:α->Rs β):((Rs.bad:Rs α) >>= f)= .bad:=rfl
@[simp] theorem IB {α β:Type} (c:Str) (f:α->Rs β):((Rs.err c:Rs α) >>= f)= .err c:=rfl
abbrev Ow:=Addr->Prop
mutual
def Rep (K:Km)(O:Ow)(H:Hp):T->V->Prop
 | .non,v=>v= .non
 | .bl b,v=>v= .bl b
 | .int i,v=>v= .int i
 | .str x,v=>v= .str x
 | .tup l,v=> ∃a vs,v= .ref a/\¬ O a/\H a=some (.tup vs)/\Reps K O H l vs
 | .lst l,v=> ∃a vs,v= .ref a/\¬ O a/\H a=some (.lst vs)/\Reps K O H l vs
 | .scr l,v=> ∃a,v= .ref a/\¬ O a/\SqL K H a (l.map V.int)
 | .dct ks ts,v=> ∃a kvs,v= .ref a/\¬ O a/\Rd H a (.dT kvs)/\ks.map keyOf=kvs.map (λp=>some p.1)/\Reps K O H ts (kvs.map (·.2))
def Reps (K:Km)(O:Ow)(H:Hp):List T->List V->Prop
 | [],vs=>vs= []
 | t::r,vs=> ∃v ws,vs=v::ws/\Rep K O H t v/\Reps K O H r ws
end
def SameO (P:Ow)(H H':Hp):Prop:=∀b o,H b=some o->¬ P b->H' b=some o
theorem SameO.of {P:Ow}{H H':Hp}(h:Same H H'):SameO P H H':=λb o e _=>h b o e
theorem Rd.JZ {P:Ow}{H H':Hp}{a:Addr}{u:HO}(h:SameO P H H')(n:¬ P a)(q:Rd H a u):Rd H' a u:=q.elim (λe=> .inl (h _ _ e n)) λ⟨o,e⟩=> .inr ⟨o,h _ _ e n⟩
theorem SqL.keep {K:Km}{P:Ow}{H H':Hp}{a:Addr}{vs:List V}(h:SameO P H H')(n:¬ P a)(q:SqL K H a vs):SqL K H' a vs:=by
 rcases q with(q | ⟨o,q⟩) | q
 ·exact .inl (.inl (h _ _ q n))
 ·exact .inl (.inr ⟨o,h _ _ q n⟩)
 ·exact .inr q
mutual
theorem Rep.keep {K:Km}{O P:Ow}{H H':Hp}(h:SameO P H H')(sub:∀a,P a->O a):∀{t:T} {v:V},Rep K O H t v->Rep K O H' t v
 | .non,_,r=>by unfold Rep at r ⊢;exact r
 | .bl _,_,r=>by unfold Rep at r ⊢;exact r
 | .int _,_,r=>by unfold Rep at r ⊢;exact r
 | .str _,_,r=>by unfold Rep at r ⊢;exact r
 | .tup l,_,r=>by
  unfold Rep at r ⊢;obtain⟨a,vs,e,n,q,z⟩:=r
  exact⟨a,vs,e,n,h _ _ q (λp=>n (sub a p)),Reps.keep h sub z⟩
 | .lst l,_,r=>by
  unfold Rep at r ⊢;obtain⟨a,vs,e,n,q,z⟩:=r
  exact⟨a,vs,e,n,h _ _ q (λp=>n (sub a p)),Reps.keep h sub z⟩
 | .scr l,_,r=>by
  unfold Rep at r ⊢;obtain⟨a,e,n,q⟩:=r
  exact⟨a,e,n,SqL.keep h (λp=>n (sub a p)) q⟩
 | .dct ks ts,_,r=>by
  unfold Rep at r ⊢;obtain⟨a,kvs,e,n,q,k,z⟩:=r;exact⟨a,kvs,e,n,Rd.JZ h (λp=>n (sub a p)) q,k,Reps.keep h sub z⟩
theorem Reps.keep {K:Km}{O P:Ow}{H H':Hp}(h:SameO P H H')(sub:∀a,P a->O a):∀{l:List T} {vs:List V},Reps K O H l vs->Reps K O H' l vs
 | [],_,r=>by unfold Reps at r ⊢;exact r
 | t::l,_,r=>by
  unfold Reps at r ⊢;obtain⟨v,ws,e,p,q⟩:=r;exact⟨v,ws,e,Rep.keep h sub p,Reps.keep h sub q⟩
end
mutual
theorem Rep.less {K:Km}{O O':Ow}{H:Hp}(sub:∀a,O' a->O a):∀{t:T} {v:V},Rep K O H t v->Rep K O' H t v
 | .non,_,r=>by unfold Rep at r ⊢;exact r
 | .bl _,_,r=>by unfold Rep at r ⊢;exact r
 | .int _,_,r=>by unfold Rep at r ⊢;exact r
 | .str _,_,r=>by unfold Rep at r ⊢;exact r
 | .tup l,_,r=>by
  unfold Rep at r ⊢;obtain⟨a,vs,e,n,q,z⟩:=r
  exact⟨a,vs,e,λp=>n (sub a p),q,Reps.less sub z⟩
 | .lst l,_,r=>by
  unfold Rep at r ⊢;obtain⟨a,vs,e,n,q,z⟩:=r
  exact⟨a,vs,e,λp=>n (sub a p),q,Reps.less sub z⟩
 | .scr l,_,r=>by
  unfold Rep at r ⊢;obtain⟨a,e,n,z⟩:=r
  exact⟨a,e,λp=>n (sub a p),z⟩
 | .dct ks ts,_,r=>by
  unfold Rep at r ⊢;obtain⟨a,kvs,e,n,q,k,z⟩:=r;exact⟨a,kvs,e,λp=>n (sub a p),q,k,Reps.less sub z⟩
theorem Reps.less {K:Km}{O O':Ow}{H:Hp}(sub:∀a,O' a->O a):∀{l:List T} {vs:List V},Reps K O H l vs->Reps K O' H l vs
 | [],_,r=>by unfold Reps at r ⊢;exact r
 | t::l,_,r=>by
  unfold Reps at r ⊢;obtain⟨v,ws,e,p,q⟩:=r;exact⟨v,ws,e,Rep.less sub p,Reps.less sub q⟩
end
section
variable {K:Km}{O:Ow}{H H':Hp}{t:T}{v:V}{l:List T}{vs:List V}
theorem Rep.same (h:Same H H')(r:Rep K O H t v):Rep K O H' t v:=Rep.keep (P:=λ_=>False) (SameO.of h) (λ_ z=>z.elim) r
theorem Reps.same (h:Same H H')(r:Reps K O H l vs):Reps K O H' l vs:=Reps.keep (P:=λ_=>False) (SameO.of h) (λ_ z=>z.elim) r
theorem Rep.JS:Rep K O H .non .non:=by unfold Rep;rfl
theorem Rep.bl_ (b:Bool):Rep K O H (.bl b) (.bl b):=by unfold Rep;rfl
theorem Rep.Jo (i:Int):Rep K O H (.int i) (.int i):=by unfold Rep;rfl
theorem Rep.J2 (x:Str):Rep K O H (.str x) (.str x):=by unfold Rep;rfl
theorem Rep.Jg:Rep K O H (.tup l) v↔ ∃a vs,v= .ref a/\¬ O a/\H a=some (.tup vs)/\Reps K O H l vs:=by unfold Rep;exact Ov
theorem Rep.Jh:Rep K O H (.lst l) v↔ ∃a vs,v= .ref a/\¬ O a/\H a=some (.lst vs)/\Reps K O H l vs:=by unfold Rep;exact Ov
theorem Rep.Jm {ks ts:List T}:Rep K O H (.dct ks ts) v↔ ∃a kvs,v= .ref a/\¬ O a/\Rd H a (.dT kvs)/\ks.map keyOf=kvs.map (λp=>some p.1)/\Reps K O H ts (kvs.map (·.2)):=by unfold Rep;exact Ov
theorem Rep.Jf {i:Int}:Rep K O H (.int i) v↔v= .int i:=by unfold Rep;exact Ov
theorem Rep.Jj {b:Bool}:Rep K O H (.bl b) v↔v= .bl b:=by unfold Rep;exact Ov
theorem Rep.Jl {b:Str}:Rep K O H (.str b) v↔v= .str b:=by unfold Rep;exact Ov
theorem Rep.Jq:Rep K O H .non v↔v= .non:=by unfold Rep;exact Ov
theorem Reps.Jn:Reps K O H [] []:=by unfold Reps;rfl
theorem Reps.Jk (r:Rep K O H t v)(q:Reps K O H l vs):Reps K O H (t::l) (v::vs):=by unfold Reps;exact⟨v,vs,rfl,r,q⟩
theorem Reps.Je:Reps K O H [] vs↔vs= []:=by unfold Reps;exact Ov
theorem Reps.me:Reps K O H (t::l) vs↔ ∃v ws,vs=v::ws/\Rep K O H t v/\Reps K O H l ws:=by
 constructor
 ·intro h;unfold Reps at h;exact h
 ·intro h;unfold Reps;exact h
end
section
variable {K:Km}{O:Ow}{H H':Hp}
theorem Reps.length:∀{l:List T} {vs:List V},Reps K O H l vs->l.length=vs.length
 | [],vs,r=>by rw[Reps.Je.mp r];rfl
 | t::l,vs,r=>by
  obtain⟨v,ws,rfl,_,q⟩:=Reps.me.mp r;simp[q.length]
theorem Reps.get:∀{l:List T} {vs:List V} {i:Nat} {t:T},Reps K O H l vs->l[i]? =some t->∃v,vs[i]? =some v/\Rep K O H t v
 | [],_,_,_,_,e=>by simp at e
 | t::l,vs,i,u,r,e=>by
  obtain⟨v,ws,rfl,p,q⟩:=Reps.me.mp r
  cases i with
  | zero=>simp at e;subst e;exact⟨v,rfl,p⟩
  | succ i=>
   obtain⟨z,e1,e2⟩:=q.get (i:=i) (t:=u) (by simpa using e)
   exact⟨z,by simpa using e1,e2⟩
theorem Reps.append:∀{l m:List T} {vs ws:List V},Reps K O H l vs->Reps K O H m ws->Reps K O H (l++m) (vs++ws)
 | [],_,vs,_,r,s=>by rw[Reps.Je.mp r];exact s
 | t::l,m,vs,ws,r,s=>by
  obtain⟨v,us,rfl,p,q⟩:=Reps.me.mp r;exact Reps.Jk p (q.append s)
theorem Reps.take:∀{l:List T} {vs:List V} (n:Nat),Reps K O H l vs->Reps K O H (l.take n) (vs.take n)
 | _,_,0,_=>Reps.Jn
 | [],vs,n+1,r=>by rw[Reps.Je.mp r];exact Reps.Jn
 | t::l,vs,n+1,r=>by
  obtain⟨v,us,rfl,p,q⟩:=Reps.me.mp r;exact Reps.Jk p (q.take n)
theorem Reps.drop:∀{l:List T} {vs:List V} (n:Nat),Reps K O H l vs->Reps K O H (l.drop n) (vs.drop n)
 | _,_,0,r=>r
 | [],vs,n+1,r=>by rw[Reps.Je.mp r];exact Reps.Jn
 | t::l,vs,n+1,r=>by
  obtain⟨v,us,rfl,p,q⟩:=Reps.me.mp r;exact q.drop n
theorem Reps.ints:∀{ns:List Int},Reps K O H (ns.map T.int) (ns.map V.int)
 | [] =>Reps.Jn
 | n::r=>Reps.Jk (Rep.Jo n) Reps.ints
end
inductive OT where
 | lst (l:List T) | dct (ks ts:List T) | dd (ks:List T) (rows:List (List T×List T))
def OT.view:OT->T
 | .lst l=> .lst l
 | .dct ks ts=> .dct ks ts
 | .dd ks rows=> .dct ks (rows.map λr=> .dct r.1 r.2)
def RowsR (K:Km)(O:Ow)(H:Hp):List (List T×List T)->List Addr->Prop
 | [],as=>as= []
 | r::rs,as=> ∃b bs kvs,as=b::bs/\H b=some (.dT kvs)/\r.1.map keyOf=kvs.map (λp=>some p.1)/\Reps K O H r.2 (kvs.map (·.2))/\RowsR K O H rs bs
def ORep (K:Km)(O M:Ow)(H:Hp):OT->V->Prop
 | .lst l,v=> ∃a vs,v= .ref a/\(∀b,M b↔b=a)/\H a=some (.lst vs)/\Reps K O H l vs
 | .dct ks ts,v=> ∃a kvs,v= .ref a/\(∀b,M b↔b=a)/\H a=some (.dT kvs)/\ks.map keyOf=kvs.map (λp=>some p.1)/\Reps K O H ts (kvs.map (·.2))
 | .dd ks rows,v=> ∃a kvs as,v= .ref a/\(∀b,M b↔b=a\/b∈as)/\a∉as/\as.Nodup/\H a=some (.dT kvs)/\ks.map keyOf=kvs.map (λp=>some p.1)/\kvs.map (·.2)=as.map V.ref/\RowsR K O H rows as
inductive Sl where
 | em | va (t:T) | ow (o:OT)
abbrev En:=List Sl
abbrev Mn:=Nat->Ow
def Mn.u (M:Mn):Ow:=λa=> ∃i,M i a
def Mtb (H:Hp)(a:Addr):Prop:=(∃vs,H a=some (.lst vs))\/∃kvs,H a=some (.dT kvs)
theorem Mtb.some {H:Hp}{a:Addr}(h:Mtb H a):∃o,H a=some o:=h.elim (λ⟨_,e⟩=>⟨_,e⟩) λ⟨_,e⟩=>⟨_,e⟩
theorem Mtb.same {H H':Hp}(s:Same H H'){a:Addr}(h:Mtb H a):Mtb H' a:=h.elim (λ⟨vs,e⟩=> .inl ⟨vs,s _ _ e⟩) λ⟨k,e⟩=> .inr ⟨k,s _ _ e⟩
structure EnvM (K:Km)(O:Ow)(M:Mn)(H:Hp)(Z:En)(σ:L2.St):Prop where
 len:Z.length=σ.length
 val:∀(i:Nat) (t:T),Z[i]? =some (.va t)->∃v,σ[i]? =some (some v)/\Rep K O H t v
 own:∀(i:Nat) (o:OT),Z[i]? =some (.ow o)->∃v,σ[i]? =some (some v)/\ORep K O (M i) H o v
 sub:∀(i:Nat) (a:Addr),M i a->O a
 dis:∀(i j:Nat) (a:Addr),M i a->M j a->i=j
 trk:∀(a:Addr),O a->Mtb H a
theorem RowsR.same {K:Km}{O:Ow}{H H':Hp}(h:Same H H'):∀{rs:List (List T×List T)} {as:List Addr},RowsR K O H rs as->RowsR K O H' rs as
 | [],_,r=>r
 | _::_,_,⟨b,bs,kvs,e1,e2,e3,e4,e5⟩=>⟨b,bs,kvs,e1,h _ _ e2,e3,e4.same h,e5.same h⟩
theorem ORep.same {K:Km}{O M:Ow}{H H':Hp}(h:Same H H'){o:OT}{v:V}(r:ORep K O M H o v):ORep K O M H' o v:=by
 cases o with
 | lst l=>obtain⟨a,vs,e1,e2,e3,e4⟩:=r;exact⟨a,vs,e1,e2,h _ _ e3,e4.same h⟩
 | dct ks ts=>obtain⟨a,kvs,e1,e2,e3,e4,e5⟩:=r;exact⟨a,kvs,e1,e2,h _ _ e3,e4,e5.same h⟩
 | dd ks rows=>obtain⟨a,kvs,as,e1,e2,e3,e4,e5,e6,e7,e8⟩:=r;exact⟨a,kvs,as,e1,e2,e3,e4,h _ _ e5,e6,e7,e8.same h⟩
theorem EnvM.same {K:Km}{O:Ow}{M:Mn}{H H':Hp}{Z:En}{σ:L2.St}(h:Same H H')(e:EnvM K O M H Z σ):EnvM K O M H' Z σ where
 len:=e.len
 val:=λi t q=>let ⟨v,e1,e2⟩:=e.val i t q;⟨v,e1,e2.same h⟩
 own:=λi o q=>let ⟨v,e1,e2⟩:=e.own i o q;⟨v,e1,e2.same h⟩
 sub:=e.sub
 dis:=e.dis
 trk:=λa q=>(e.trk a q).same h
def EnvO (K:Km)(O:Ow)(H:Hp)(Z:En)(σ:L2.St):Prop:=∃M,EnvM K O M H Z σ
section
variable {K:Km}{O:Ow}{H H':Hp}{Z:En}{σ:L2.St}
theorem EnvO.val (e:EnvO K O H Z σ)(i:Nat)(t:T)(q:Z[i]? =some (.va t)):∃v,σ[i]? =some (some v)/\Rep K O H t v:=e.elim λ_ e=>e.val i t q
theorem EnvO.mtb (e:EnvO K O H Z σ):∀a,O a->Mtb H a:=e.elim λ_ e=>e.trk
theorem EnvO.trk (e:EnvO K O H Z σ)(a:Addr)(z:O a):∃o,H a=some o:=(e.mtb a z).some
theorem EnvO.same (h:Same H H')(e:EnvO K O H Z σ):EnvO K O H' Z σ:=e.elim λM e=>⟨M,e.same h⟩
theorem EnvO.fresh (e:EnvO K O H Z σ){p:Addr}(h:H p=none):¬ O p:=λz=>by
 obtain⟨o,q⟩:=e.trk p z;rw[h]at q;cases q
end
def IL (h:Heap)(C e:Addr):Option Addr->Prop
 | none=> ∃oe vs,h.get? e=some oe/\oe.cls= .ref C/\oe.data= .fields vs/\vs[1]? =some .none
 | some T=>T≠e/\∃oe vs,h.get? e=some oe/\oe.cls= .ref C/\oe.data= .fields vs/\vs[1]? =some (.ref T)/\∃oT ts,h.get? T=some oT/\oT.data= .fields ts/\ts[3]? =some .none
def RzP (X:Cx)(pins:List (Addr×Obj))(P:Ow)(H:Hp)(c:Str)(ev:Kq)(s':Kt):Prop:=
 ∃e T C σ' H',ev= .ref e/\X.mg c=some (.ref C)/\Inv X pins σ' H' s'/\SameO P H H'/\H' e=none/\(X.ex= []->X.s₀.heap.get? e=none)/\IL s'.heap C e T/\(∀t,T=some t->H' t=none/\(X.ex= []->X.s₀.heap.get? t=none))/\∀p∈X.pn++pins,p.1≠e/\T≠some p.1
def Nw (K:Km)(H:Hp):Ow:=λa=>H a=none/\K.lookup a=none
theorem iA {K:Km}{P:Ow}{H H1:Hp}(h:SameO P H H1){a:Addr}(n:Nw K H1 a):P a\/Nw K H a:=by
 by_cases hp:P a
 ·exact .inl hp
 ·refine .inr ⟨?_,n.2⟩
  cases q:H a with
  | none=>rfl
  | some o=>have:=h a o q hp;rw[n.1]at this;cases this
theorem SameO.trans {K:Km}{P P1:Ow}{H H1 H2:Hp}(h:SameO P H H1)(h1:SameO P1 H1 H2)(sub:∀a,P1 a->P a\/Nw K H a):SameO P H H2:=λb o e n=>
 h1 b o (h b o e n) λz=>(sub b z).elim n λw=>by rw[w.1]at e;cases e
def XA (X:Cx)(P:Ow)(H:Hp)(c:Str):Prop:=∀pins ev s',RzP X pins P H c ev s'->X.xe ev s'
theorem XA.later {X:Cx}{P P1:Ow}{H H1:Hp}{c:Str}(h:XA X P H c)(s:SameO P H H1)(sub:∀a,P1 a->P a\/Nw X.K H a):XA X P1 H1 c:=λpins ev s' ⟨e,T,C,σ',H',a1,a2,a3,a4,a5⟩=>
 h pins ev s' ⟨e,T,C,σ',H',a1,a2,a3,s.trans a4 sub,a5⟩
abbrev ym:Ow:=λ_=>False
def Post {α:Type}(X:Cx)(H:Hp)(r:Rs α)(k:α->Hp->Prop):Prop:=match r with
 | .ok t=> ∀H',Same H H'->k t H'
 | .err c=>XA X ym H c
 | .bad=>False
theorem Post.mono {α:Type}{X:Cx}{H:Hp}{r:Rs α}{k k':α->Hp->Prop}(h:Post X H r k)(f:∀t H',Same H H'->k t H'->k' t H'):Post X H r k':=by
 cases r with
 | ok t=>exact λH' s=>f t H' s (h H' s)
 | err c=>exact h
 | bad=>exact h
theorem Post.later {α:Type}{X:Cx}{H H1:Hp}{r:Rs α}{k:α->Hp->Prop}(h:Post X H r k)(s:Same H H1):Post X H1 r k:=by
 cases r with
 | ok t=>exact λH' s'=>h H' (s.trans s')
 | err c=>exact XA.later h (SameO.of s) λ_ z=>z.elim
 | bad=>exact h
theorem Post.bind {α β:Type}{X:Cx}{H:Hp}{r:Rs α}{f:α->Rs β}{k:β->Hp->Prop}(h:Post X H (r >>= f) k):Post X H r λt H'=>Post X H' (f t) k:=by
 cases r with
 | ok t=>exact λH' s=>Post.later h s
 | err c=>exact h
 | bad=>exact h
def tP (X:Cx)(f:En->Rs T):TE:=λσ H Q=> ∃Z O,EnvO X.K O H Z σ/\Post X H (f Z) λt H'=> ∀v,Rep X.K O H' t v->Q v H'
def tPA (X:Cx)(f:En->Rs (List T)):TA:=λσ H Q=> ∃Z O,EnvO X.K O H Z σ/\Post X H (f Z) λt H'=> ∀v,Reps X.K O H' t v->Q v H'
def zu (X:Cx)(f:En->Rs Bool):TT:=λσ H Q=> ∃Z O,EnvO X.K O H Z σ/\Post X H (f Z) λb H'=>Q b H'
abbrev cP (X:Cx)(e:Expr)(f:En->Rs T):Prop:=PE X e (tP X f)
abbrev qr (X:Cx)(e:List Expr)(f:En->Rs (List T)):Prop:=PA X e (tPA X f)
abbrev vD (X:Cx)(e:Expr)(f:En->Rs Bool):Prop:=PT X e (zu X f)
theorem PE.imp {X:Cx}{e:Expr}{t t':TE}(h:PE X e t)(w:∀σ H Q,t' σ H Q->t σ H Q):PE X e t':=λpins s σ H Q I q=>h pins s σ H Q I (w σ H Q q)
theorem PA.imp {X:Cx}{e:List Expr}{t t':TA}(h:PA X e t)(w:∀σ H Q,t' σ H Q->t σ H Q):PA X e t':=λpos pins s σ H Q I q=>h pos pins s σ H Q I (w σ H Q q)
theorem PT.imp {X:Cx}{e:Expr}{t t':TT}(h:PT X e t)(w:∀σ H Q,t' σ H Q->t σ H Q):PT X e t':=λpins s σ H Q I q=>h pins s σ H Q I (w σ H Q q)
theorem PS.imp {X:Cx}{e:Stmt}{t t':TS}(h:PS X e t)(w:∀D σ H,t' D σ H->t D σ H):PS X e t':=λpins s σ H D I q=>h pins s σ H D I (w D σ H q)
theorem PSs.imp {X:Cx}{e:List Stmt}{t t':TS}(h:PSs X e t)(w:∀D σ H,t' D σ H->t D σ H):PSs X e t':=λpins s σ H D I q=>h pins s σ H D I (w D σ H q)
section
variable {X:Cx}
theorem bn {σ:L2.St}{H:Hp}{Z:En}{O:Ow}{α:Type}{f:En->Rs T}{k:T->Rs α}{Q:α->Hp->Prop}(E:EnvO X.K O H Z σ)(h:Post X H (f Z >>= k) Q) :
  tP X f σ H λv H'=> ∃t,Rep X.K O H' t v/\Same H H'/\EnvO X.K O H' Z σ/\Post X H' (k t) Q:=
 ⟨Z,O,E,Post.mono h.bind λt H' s q v r=>⟨t,r,s,E.same s,q⟩⟩
theorem fN {σ:L2.St}{H:Hp}{Z:En}{O:Ow}{α:Type}{f:En->Rs (List T)}{k:List T->Rs α}{Q:α->Hp->Prop}(E:EnvO X.K O H Z σ)(h:Post X H (f Z >>= k) Q) :
  tPA X f σ H λv H'=> ∃t,Reps X.K O H' t v/\Same H H'/\EnvO X.K O H' Z σ/\Post X H' (k t) Q:=
 ⟨Z,O,E,Post.mono h.bind λt H' s q v r=>⟨t,r,s,E.same s,q⟩⟩
theorem kU {σ:L2.St}{H:Hp}{Z:En}{O:Ow}{α:Type}{f:En->Rs Bool}{k:Bool->Rs α}{Q:α->Hp->Prop}(E:EnvO X.K O H Z σ)(h:Post X H (f Z >>= k) Q) :
  zu X f σ H λb H'=>Same H H'/\EnvO X.K O H' Z σ/\Post X H' (k b) Q:=
 ⟨Z,O,E,Post.mono h.bind λt H' s q=>⟨s,E.same s,q⟩⟩
def vr (i:Nat)(Z:En):Rs T:=match Z[i]? with
 | some (.va t)=> .ok t
 | _=> .bad
def cn (t:T)(_:En):Rs T:=.ok t
theorem Hl (i:Nat){x:Str}{pos:Pos}(hN:X.N[i]? =some x:=by rfl)(hv:rj X.env.scope x:=by first | exact LN rfl | exact Lz (LN rfl) | exact Lz (Lz rfl))(hd:gm x:=by decide)
  (hcd:(x == ("__classdict__" : Str))=false:=by decide):cP X (.Name x pos) (vr i):=PE.imp (g9 hN hv hd hcd) λσ H Q hh_=>by
 obtain⟨Z,O,E,h⟩:=hh_;unfold vr at h
 split at h
 ·rename_i t e
  obtain⟨v,e1,e2⟩:=E.val i t e;exact⟨v,e1,h H (Same.refl H) v e2⟩
 ·exact h.elim
theorem Hw {i j pos}:cP X (.Constant (.int i) j pos) (cn (.int i)):=PE.imp Ag λσ H Q ⟨Z,O,E,h⟩=>h H (Same.refl H) _ (Rep.Jo i)
theorem q_bl {i j pos}:cP X (.Constant (.bool i) j pos) (cn (.bl i)):=PE.imp Al λσ H Q ⟨Z,O,E,h⟩=>h H (Same.refl H) _ (Rep.bl_ i)
theorem Hs {j pos}:cP X (.Constant .none j pos) (cn .non):=PE.imp Af λσ H Q ⟨Z,O,E,h⟩=>h H (Same.refl H) _ Rep.JS
theorem Hn {i j pos}:cP X (.Constant (.str i) j pos) (cn (.str i)):=PE.imp Ad λσ H Q ⟨Z,O,E,h⟩=>h H (Same.refl H) _ (Rep.J2 i)
theorem Ft {x:Str}{i:Int}{u:Kq}{pos:Pos}(hm:X.mg x=some u)(r:RelV (.int i) u)(hg:Gl X x:=by rfl)(hd:gm x:=by decide):cP X (.Name x pos) (cn (.int i)):=
 PE.imp (rZ hg hm r hd) λσ H Q ⟨Z,O,E,h⟩=>h H (Same.refl H) _ (Rep.Jo i)
def ag (_:En):Rs (List T):=.ok []
def ac (f:En->Rs T)(g:En->Rs (List T))(Z:En):Rs (List T):=do
 let t <-f Z
 let r <-g Z
 .ok (t::r)
theorem Fs:qr X [] ag:=PA.imp dF λσ H Q ⟨Z,O,E,h⟩=>h H (Same.refl H) _ Reps.Jn
theorem CC {e:Expr}{es:List Expr}{f:En->Rs T}{g:En->Rs (List T)}(he:cP X e f)(hr:qr X es g)(hs:KG (e::es) X.env=(false,eval e X.env)::KG es X.env:=by rfl):qr X (e::es) (ac f g):=by
 intro pos pins s σ H Q I h;obtain⟨Z,O,E,h⟩:=h;refine bp he hr hs pos pins s σ H Q I ?_
 obtain⟨Z1,O1,E1,h1⟩:=bn E h;refine⟨Z1,O1,E1,Post.mono h1 λt H' s q v r=> ?_⟩
 obtain⟨t',r',s',E',q'⟩:=q v r;refine⟨Z,O,E',Post.mono q'.bind λts H2 s2 q2 vs rs=> ?_⟩
 exact q2 H2 (Same.refl H2) _ (Reps.Jk (r'.same s2) rs)
end
section
variable {X:Cx}
def kw (l:List T):Rs T:=if l.length<=sizeLine then .ok (.tup l)else .bad
def kx (l:List T):Rs T:=if l.length<=sizeLine then .ok (.lst l)else .bad
def aL (f:En->Rs (List T))(Z:En):Rs T:=f Z >>= kw
def dq (f:En->Rs (List T))(Z:En):Rs T:=f Z >>= kx
theorem aX {H:Hp}{p:Addr}(h:H p=none)(o:HO):Same H (upd H p o):=λb u q=>by rw[aF (cv q h)];exact q
theorem gB {K:Km}{O:Ow}{H:Hp}{p:Addr}{l:List T}{vs:List V}(h:H p=none)(n:¬ O p)(r:Reps K O H l vs):Rep K O (upd H p (.tup vs)) (.tup l) (.ref p):=
 Rep.Jg.mpr ⟨p,vs,rfl,n,aG,r.same (aX h _)⟩
theorem jo {K:Km}{O:Ow}{H:Hp}{p:Addr}{l:List T}{vs:List V}(h:H p=none)(n:¬ O p)(r:Reps K O H l vs):Rep K O (upd H p (.lst vs)) (.lst l) (.ref p):=
 Rep.Jh.mpr ⟨p,vs,rfl,n,aG,r.same (aX h _)⟩
theorem Hm {es:List Expr}{x1:Nat}{pos:Pos}{f:En->Rs (List T)}(h:qr X es f):cP X (.Tuple es x1 pos) (aL f):=by
 intro pins s σ H Q I ⟨Z,O,E,hq⟩;refine rX h pins s σ H Q I ?_
 obtain⟨Z1,O1,E1,h1⟩:=fN E hq;refine⟨Z1,O1,E1,Post.mono h1 λts H1 s1 q vs r=> ?_⟩
 obtain⟨t',r',s',E',q'⟩:=q vs r;unfold kw at q'
 split at q'
 ·rename_i hz
  refine⟨by rw[<-r'.length];exact hz,λp hp=> ?_⟩
  exact q' _ (aX hp _) _ (gB hp (E'.fresh hp) r')
 ·exact q'.elim
theorem Hu {es:List Expr}{pos:Pos}{f:En->Rs (List T)}(h:qr X es f):cP X (.List es pos) (dq f):=by
 intro pins s σ H Q I ⟨Z,O,E,hq⟩;refine rY h pins s σ H Q I ?_
 obtain⟨Z1,O1,E1,h1⟩:=fN E hq;refine⟨Z1,O1,E1,Post.mono h1 λts H1 s1 q vs r=> ?_⟩
 obtain⟨t',r',s',E',q'⟩:=q vs r;unfold kx at q'
 split at q'
 ·rename_i hz
  refine⟨by rw[<-r'.length];exact hz,λp hp=> ?_⟩
  exact q' _ (aX hp _) _ (jo hp (E'.fresh hp) r')
 ·exact q'.elim
def OpT (X:Cx)(f:Kq->Kq->Sem Kq)(g:T->T->Rs T):Prop:=
 ∀(pins:List (Addr×Obj)) (s:Kt) (σ:L2.St) (H:Hp) (O:Ow) (x y:T) (vx vy:V) (ux uy:Kq) (Q:VK),Inv X pins σ H s->(∀p,H p=none->¬ O p)->Rep X.K O H x vx->Rep X.K O H y vy->RelV vx ux->RelV vy uy →
  Post X H (g x y) (λt H'=> ∀v,Rep X.K O H' t v->Q v H')->wpAny (model X.prog X.w) X.A (f ux uy) (EP X pins σ Q) X.xe s
def o2 (g:T->T->Rs T)(fa fb:En->Rs T)(Z:En):Rs T:=do
 let x <-fa Z
 let y <-fb Z
 g x y
variable {a b c:Expr}{fa fb fc:En->Rs T}{pos:Pos}
theorem HA {op:Operator}{g:T->T->Rs T}(ho:OpT X (Mh op) g)(ha:cP X a fa)(hb:cP X b fb):cP X (.BinOp a op b pos) (o2 g fa fb):=by
 intro pins s σ H Q I ⟨Z,O,E,hq⟩
 have h1:=bn E hq;refine wpAny_BinOp (cr (ha pins s σ H _ I h1) λv s1 hh_=> ?_)
 obtain⟨x,H1,I1,r1,t,rt,s',E',q1⟩:=hh_
 have h2:=bn (f:=fb) E' q1;refine cr (hb pins s1 σ H1 _ I1 h2) λu s2 hh_=> ?_
 obtain⟨y,H2,I2,r2,t2,rt2,s'',E'',q2⟩:=hh_;exact ho pins s2 σ H2 O t t2 x y v u Q I2 (λp=>E''.fresh) (rt.same s'') rt2 r1 r2 q2
theorem Hz {op:SD}{g:T->T->Rs T}(ho:OpT X (Ls op) g)(ha:cP X a fa)(hb:cP X b fb)(hm:Ng op b=false:=by rfl):cP X (.Compare a [op] [b] pos) (o2 g fa fb):=by
 intro pins s σ H Q I ⟨Z,O,E,hq⟩
 have h1:=bn E hq;refine wpAny_Compare1 (cr (ha pins s σ H _ I h1) λv s1 ⟨x,H1,I1,r1,t,rt,s',E',q1⟩=> ?_) hm
 have h2:=bn (f:=fb) E' q1;refine cr (hb pins s1 σ H1 _ I1 h2) λu s2 hh_=> ?_
 obtain⟨y,H2,I2,r2,t2,rt2,s'',E'',q2⟩:=hh_;exact ho pins s2 σ H2 O t t2 x y v u Q I2 (λp=>E''.fresh) (rt.same s'') rt2 r1 r2 q2
theorem OpT.of {f:Kq->Kq->Sem Kq}{r:R2}(h:pA X f r){g:T->T->Rs T}
  (w:∀(H:Hp) (O:Ow) (x y:T) (vx vy:V) (Q:VK),(∀p,H p=none->¬ O p)->Rep X.K O H x vx->Rep X.K O H y vy->Post X H (g x y) (λt H'=> ∀v,Rep X.K O H' t v->Q v H')->r vx vy H Q):OpT X f g:=
 λpins s σ H O x y vx vy ux uy Q I hf rx ry r1 r2 hp=>h pins s σ H vx vy ux uy Q I r1 r2 (w H O x y vx vy Q hf rx ry hp)
def eO:T->T->Rs T
 | .int i,.int j=> .ok (.int (i - j))
 | _,_=> .bad
theorem fB:OpT X (Mh .Sub) eO:=OpT.of FI λH O x y vx vy Q hf rx ry hp=>by
 unfold eO at hp
 split at hp
 ·exact⟨_,_,Rep.Jf.mp rx,Rep.Jf.mp ry,hp H (Same.refl H) _ (Rep.Jo _)⟩
 ·exact hp.elim
def lF:T->T->Rs T
 | .int i,.int j=>if 0<j/\j<1073741824 then .ok (.int (i / j))else .bad
 | _,_=> .bad
def lq:T->T->Rs T
 | .int i,.int j=>if 0<j then .ok (.int (i % j))else .bad
 | _,_=> .bad
theorem nt:OpT X (Mh .FloorDiv) lF:=OpT.of CW λH O x y vx vy Q hf rx ry hp=>by
 unfold lF at hp
 split at hp
 ·split at hp
  ·rename_i h
   exact⟨_,_,Rep.Jf.mp rx,Rep.Jf.mp ry,h,hp H (Same.refl H) _ (Rep.Jo _)⟩
  ·exact hp.elim
 ·exact hp.elim
theorem kF:OpT X (Mh .Mod) lq:=OpT.of FL λH O x y vx vy Q hf rx ry hp=>by
 unfold lq at hp
 split at hp
 ·split at hp
  ·rename_i h
   exact⟨_,_,Rep.Jf.mp rx,Rep.Jf.mp ry,h,hp H (Same.refl H) _ (Rep.Jo _)⟩
  ·exact hp.elim
 ·exact hp.elim
theorem Ao:pA X (Mh .Add) (λx y H Q=> ∃a b ys,x= .ref a/\y= .ref b/\SqT X.K H a []/\SqT X.K H b ys/\Q (.ref b) H):=by
 intro pins s σ H x y v u Q I rx ry h;obtain⟨a,b,ys,rfl,rfl,ha,hb,q⟩:=h;cases rx;cases ry;obtain⟨its,r1,p1,_⟩:=I.tuple ha;obtain⟨its2,r2,p2,_⟩:=I.tuple hb;obtain⟨⟨cls,dd,data,sl⟩,ho,hc,n,hd⟩:=id p1;obtain⟨⟨cls2,dd2,data2,sl2⟩,ho2,hc2,n2,hd2⟩:=id p2;simp only at hc hd hc2 hd2;subst hc hd hc2 hd2
 have e:its= []:=by cases r1;rfl
 subst e;exact HT_concat0 ho ho2 ⟨.ref b,H,I,rfl,q⟩
where
 HT_concat0 {prog:KS} {w:LA} {A:La} {E:Kq->Kt->Prop} {s:Kt} {t b:Addr} {ws:Array Kq} {n n2:Nat} {dd dd2:Option Addr} {sl sl2:Array (Option Kq)} {Q:Kq->Kt->Prop}
   (ho:s.heap.get? t=some { cls:=.type "tuple",dict:=dd,data:=.seq (([]:List Kq).toArray) n,slots:=sl }) (ho2:s.heap.get? b=some { cls:=.type "tuple",dict:=dd2,data:=.seq ws n2,slots:=sl2 }) (h:Q (.ref b) s) :
   wpAny (model prog w) A (Mh .Add (.ref t) (.ref b)) Q E s:=
  RF ⟨_,ho,rfl⟩ ⟨_,ho2,rfl⟩ Pu QX NR NF (Nx _ _)
   (tuple_addW0 t b _ _ n n2 dd dd2 sl sl2 (by simp)) ⟨ho,ho2,h⟩
def aV:T->T->Rs T
 | .int i,.int j=> .ok (.int (i+j))
 | .str i,.str j=>if i.length+j.length<=sizeLine then .ok (.str (i++j))else .bad
 | .tup l,.tup m=>kw (l++m)
 | .lst l,.lst m=>kx (l++m)
 | _,_=> .bad
theorem aS:OpT X (Mh .Add) aV:=by
 intro pins s σ H O x y vx vy ux uy Q I hf rx ry r1 r2 hp;unfold aV at hp
 split at hp
 ·exact FN pins s σ H vx vy ux uy Q I r1 r2 ⟨_,_,Rep.Jf.mp rx,Rep.Jf.mp ry,hp H (Same.refl H) _ (Rep.Jo _)⟩
 ·split at hp
  ·rename_i h
   exact v4 pins s σ H vx vy ux uy Q I r1 r2 ⟨_,_,Rep.Jl.mp rx,Rep.Jl.mp ry,h,hp H (Same.refl H) _ (Rep.J2 _)⟩
  ·exact hp.elim
 ·rename_i l m
  unfold kw at hp
  split at hp
  ·rename_i h
   obtain⟨a,vs,e1,n1,q1,z1⟩:=Rep.Jg.mp rx;obtain⟨b,ws,e2,n2,q2,z2⟩:=Rep.Jg.mp ry
   have hl1:=z1.length
   have hl2:=z2.length;rw[Kw]at h
   cases vs with
   | nil=>
    have e:l= []:=by cases l with
     | nil=>rfl
     | cons _ _=>simp at hl1
    subst e
    exact Ao pins s σ H vx vy ux uy Q I r1 r2 ⟨a,b,ws,e1,e2,SqT.of q1,SqT.of q2,hp H (Same.refl H) _ (Rep.Jg.mpr ⟨b,ws,rfl,n2,q2,z2⟩)⟩
   | cons v0 vr=>
    refine CY pins s σ H vx vy ux uy Q I r1 r2 ⟨a,b,v0::vr,ws,e1,e2,SqT.of q1,SqT.of q2,by simp,by omega,λhw=> ?_,λ_ p hpn=> ?_⟩
    ·subst hw
     have e:m= []:=by cases m with
      | nil=>rfl
      | cons _ _=>simp at hl2
     subst e;rw[Lc]at hp;exact hp H (Same.refl H) _ (Rep.Jg.mpr ⟨a,_,rfl,n1,q1,z1⟩)
    ·exact hp _ (aX hpn _) _ (gB hpn (hf p hpn) (z1.append z2))
  ·exact hp.elim
 ·rename_i l m
  unfold kx at hp
  split at hp
  ·rename_i h
   obtain⟨a,vs,e1,n1,q1,z1⟩:=Rep.Jh.mp rx;obtain⟨b,ws,e2,n2,q2,z2⟩:=Rep.Jh.mp ry
   have hl1:=z1.length
   have hl2:=z2.length;rw[Kw]at h;exact Ap pins s σ H vx vy ux uy Q I r1 r2 ⟨a,b,vs,ws,e1,e2,q1,q2,by omega,λp hpn=>hp _ (aX hpn _) _ (jo hpn (hf p hpn) (z1.append z2))⟩
  ·exact hp.elim
 ·exact hp.elim
def wg:T->T->Rs T
 | .int i,.int j=>if (-(2 ^ 64)<i/\i<2 ^ 64)\/(-(2 ^ 64)<j/\j<2 ^ 64)then .ok (.int (i*j))else .bad
 | .lst l,.int k=>if -(2 ^ 63)<=k/\k<2 ^ 63/\l.length*k.toNat<=sizeLine then .ok (.lst (KJ k.toNat l).flatten)else .bad
 | _,_=> .bad
theorem Reps.rep {K:Km}{O:Ow}{H:Hp}{l:List T}{vs:List V}(h:Reps K O H l vs):∀k:Nat,Reps K O H (KJ k l).flatten (KJ k vs).flatten
 | 0=>Reps.Jn
 | k+1=>by rw[L8,L8,MP,MP];exact h.append (h.rep k)
theorem FG:OpT X (Mh .Mult) wg:=by
 intro pins s σ H O x y vx vy ux uy Q I hf rx ry r1 r2 hp;unfold wg at hp
 split at hp
 ·split at hp
  ·rename_i h
   exact FK pins s σ H vx vy ux uy Q I r1 r2 ⟨_,_,Rep.Jf.mp rx,Rep.Jf.mp ry,h,hp H (Same.refl H) _ (Rep.Jo _)⟩
  ·exact hp.elim
 ·split at hp
  ·rename_i l k h
   obtain⟨a,vs,e1,n1,q1,z1⟩:=Rep.Jh.mp rx
   have hl1:=z1.length;exact FJ pins s σ H vx vy ux uy Q I r1 r2 ⟨a,k,vs,e1,Rep.Jf.mp ry,q1,h.1,h.2.1,by rw[<-hl1];exact h.2.2,λp hpn=>hp _ (aX hpn _) _ (jo hpn (hf p hpn) (z1.rep _))⟩
  ·exact hp.elim
 ·exact hp.elim
def oP:T->Rs T
 | .int i=> .ok (.int (-i))
 | _=> .bad
def o1 (g:T->Rs T)(fa:En->Rs T)(Z:En):Rs T:=fa Z >>= g
theorem Ht (ha:cP X a fa):cP X (.UnaryOp .USub a pos) (o1 oP fa):=by
 intro pins s σ H Q I ⟨Z,O,E,hq⟩;refine HE Ey ha pins s σ H Q I ?_
 obtain⟨Z1,O1,E1,h1⟩:=bn E hq;refine⟨Z1,O1,E1,Post.mono h1 λts H1 s1 q vs r=> ?_⟩
 obtain⟨t',r',s',E',q'⟩:=q vs r;unfold oP at q'
 split at q'
 ·exact⟨_,Rep.Jf.mp r',q' H1 (Same.refl H1) _ (Rep.Jo _)⟩
 ·exact q'.elim
def vt (p:Int->Int->Bool):T->T->Rs T
 | .int i,.int j=> .ok (.bl (p i j))
 | _,_=> .bad
theorem r9 {op:SD}{p:Int->Int->Bool}(h:pA X (Ls op) (D7 λi j=> .bl (p i j))):OpT X (Ls op) (vt p):=OpT.of h λH O x y vx vy Q hf rx ry hp=>by
 unfold vt at hp
 split at hp
 ·exact⟨_,_,Rep.Jf.mp rx,Rep.Jf.mp ry,hp H (Same.refl H) _ (Rep.bl_ _)⟩
 ·exact hp.elim
abbrev mI:=vt λi j=>decide (i<j)
abbrev HZ:=vt λi j=>decide (i<=j)
abbrev BR:=vt λi j=>decide (j<i)
theorem ko:OpT X (Ls .Lt) mI:=r9 HK
theorem xb:OpT X (Ls .LtE) HZ:=r9 HL
theorem uD:OpT X (Ls .Gt) BR:=r9 HM
def T.isN:T->Bool
 | .non=>true
 | _=>false
theorem Rep.isN {K:Km}{O:Ow}{H:Hp}{t:T}{v:V}(r:Rep K O H t v):decide (v= .non)=t.isN:=by
 cases t with
 | non=>rw[Rep.Jq.mp r];rfl
 | bl _=>rw[Rep.Jj.mp r];rfl
 | int _=>rw[Rep.Jf.mp r];rfl
 | str _=>rw[Rep.Jl.mp r];rfl
 | tup _=>obtain⟨a,vs,e,_⟩:=Rep.Jg.mp r;rw[e];rfl
 | lst _=>obtain⟨a,vs,e,_⟩:=Rep.Jh.mp r;rw[e];rfl
 | scr _=>unfold Rep at r;obtain⟨a,e,_⟩:=r;rw[e];rfl
 | dct _ _=>obtain⟨a,_,e,_⟩:=Rep.Jm.mp r;rw[e];rfl
def fE:T->T->Rs T
 | x,.non=> .ok (.bl x.isN)
 | _,_=> .bad
def cQ:T->T->Rs T
 | x,.non=> .ok (.bl (!x.isN))
 | _,_=> .bad
theorem i7:OpT X (Ls .Is) fE:=OpT.of FM λH O x y vx vy Q hf rx ry hp=>by
 unfold fE at hp
 split at hp
 ·exact⟨Rep.Jq.mp ry,hp H (Same.refl H) _ (by rw[rx.isN];exact Rep.bl_ _)⟩
 ·exact hp.elim
theorem dj:OpT X (Ls .IsNot) cQ:=OpT.of CV λH O x y vx vy Q hf rx ry hp=>by
 unfold cQ at hp
 split at hp
 ·exact⟨Rep.Jq.mp ry,hp H (Same.refl H) _ (by rw[rx.isN];exact Rep.bl_ _)⟩
 ·exact hp.elim
end
end Tr
namespace Tr
open PySem PySem.Spec PyProof.Rows L2
open PySem.SeqAt
mutual
def ReV (s:Kt):T->Kq->Prop
 | .non,u=>u= .none
 | .bl b,u=>u= .bool b
 | .int i,u=> ∃t,u= .int i t
 | .str x,u=> ∃t,u= .str x t
 | .tup l,u=> ∃a its,u= .ref a/\s.heap.IsTuple a (Ru its)/\ReVs s l its
 | .lst l,u=> ∃a its,u= .ref a/\s.heap.IsList a (Ru its)/\ReVs s l its
 | .scr l,u=> ∃a its,u= .ref a/\s.heap.IsList a (Ru its)/\Nl its l
 | .dct _ _,_=>False
def ReVs (s:Kt):List T->List Kq->Prop
 | [],us=>us= []
 | t::r,us=> ∃u ws,us=u::ws/\ReV s t u/\ReVs s r ws
end
theorem ReVs.Je {s:Kt}{us:List Kq}:ReVs s [] us↔us= []:=by unfold ReVs;exact Ov
theorem ReVs.me {s:Kt}{t:T}{l:List T}{us:List Kq}:ReVs s (t::l) us↔ ∃u ws,us=u::ws/\ReV s t u/\ReVs s l ws:=by
 constructor
 ·intro h;unfold ReVs at h;exact h
 ·intro h;unfold ReVs;exact h
theorem ReVs.length {s:Kt}:∀{l:List T} {us:List Kq},ReVs s l us->l.length=us.length
 | [],us,r=>by rw[ReVs.Je.mp r];rfl
 | t::l,us,r=>by
  obtain⟨v,ws,rfl,_,q⟩:=ReVs.me.mp r;simp[q.length]
theorem ReVs.get {s:Kt}:∀{l:List T} {us:List Kq} {i:Nat} {t:T},ReVs s l us->l[i]? =some t->∃v,us[i]? =some v/\ReV s t v
 | [],_,_,_,_,e=>by simp at e
 | t::l,vs,i,u,r,e=>by
  obtain⟨v,ws,rfl,p,q⟩:=ReVs.me.mp r
  cases i with
  | zero=>simp at e;subst e;exact⟨v,rfl,p⟩
  | succ i=>
   obtain⟨z,e1,e2⟩:=q.get (i:=i) (t:=u) (by simpa using e)
   exact⟨z,by simpa using e1,e2⟩
mutual
def T.nd:T->Bool
 | .dct _ _=>false
 | .tup l=>nds l
 | .lst l=>nds l
 | _=>true
def nds:List T->Bool
 | [] =>true
 | t::l=>t.nd&&nds l
end
theorem uU {t:T}{l:List T}(h:nds (t::l)=true):t.nd=true/\nds l=true:=by unfold nds at h;exact Ms.mp h
theorem AA:∀{l:List T},(∀t∈l,t.nd=true)->nds l=true
 | [],_=>rfl
 | t::l,h=>by unfold nds;rw[h t Kr,AA λu hu=>h u (Ko _ hu)];rfl
section
variable {X:Cx}{pins:List (Addr×Obj)}{σ:L2.St}{H:Hp}{s:Kt}{O:Ow}
mutual
theorem Rep.val (I:Inv X pins σ H s):∀{t:T} {v:V} {u:Kq},t.nd=true->Rep X.K O H t v->RelV v u->ReV s t u
 | .non,v,u,hn,r,q=>by cases Rep.Jq.mp r;unfold ReV;exact q
 | .bl b,v,u,hn,r,q=>by cases Rep.Jj.mp r;unfold ReV;exact q
 | .int b,v,u,hn,r,q=>by cases Rep.Jf.mp r;unfold ReV;exact q
 | .str b,v,u,hn,r,q=>by cases Rep.Jl.mp r;unfold ReV;exact q
 | .tup l,v,u,hn,r,q=>by
  obtain⟨a,vs,rfl,_,z,w⟩:=Rep.Jg.mp r;cases q;obtain⟨its,rv,p,_⟩:=I.tuple (SqT.of z);unfold ReV
  exact⟨a,its,rfl,p,Reps.val I (by unfold T.nd at hn;exact hn) w rv⟩
 | .lst l,v,u,hn,r,q=>by
  obtain⟨a,vs,rfl,_,z,w⟩:=Rep.Jh.mp r;cases q;obtain⟨its,rv,p,_⟩:=I.list (SqL.of z);unfold ReV
  exact⟨a,its,rfl,p.isList,Reps.val I (by unfold T.nd at hn;exact hn) w rv⟩
 | .scr l,v,u,hn,r,q=>by
  unfold Rep at r;obtain⟨a,rfl,_,z⟩:=r;cases q;obtain⟨its,rv,p,_⟩:=I.list z;unfold ReV
  exact⟨a,its,rfl,p.isList,wu rv⟩
 | .dct _ _,v,u,hn,r,q=>by cases hn
theorem Reps.val (I:Inv X pins σ H s):∀{l:List T} {vs:List V} {us:List Kq},nds l=true->Reps X.K O H l vs->Vals vs us->ReVs s l us
 | [],vs,us,hn,r,q=>by
  cases Reps.Je.mp r;cases q
  exact ReVs.Je.mpr rfl
 | t::l,vs,us,hn,r,q=>by
  obtain⟨v,ws,rfl,p,z⟩:=Reps.me.mp r
  cases q with
  | cons q1 q2=>exact ReVs.me.mpr ⟨_,_,rfl,Rep.val I (uU hn).1 p q1,Reps.val I (uU hn).2 z q2⟩
end
end
mutual
def T.dep:T->Nat
 | .tup l=>deps l+1
 | .lst l=>deps l+1
 | .scr _=>1
 | _=>0
def deps:List T->Nat
 | [] =>0
 | t::l=>max t.dep (deps l)
end
def Dw (i:Int):T->Bool
 | .int j=>i == j
 | .bl b=>i == (if b then 1 else 0)
 | _=>false
def kB:List Int->List T->Bool
 | [],[] =>true
 | i::r,t::l=>Dw i t&&kB r l
 | _,_=>false
mutual
def bf:T->T->Bool
 | .non,.non=>true
 | .bl a,.bl b=>a == b
 | .bl a,.int b=>(if a then 1 else 0) == b
 | .int a,.bl b=>a == (if b then 1 else 0)
 | .int a,.int b=>a == b
 | .str a,.str b=>a == b
 | .tup l,.tup m=>beqTs l m
 | .lst l,.lst m=>beqTs l m
 | .lst l,.scr m=>beqTs l (m.map .int)
 | .scr l,.lst m=>kB l m
 | .scr l,.scr m=>l == m
 | _,_=>false
def beqTs:List T->List T->Bool
 | [],[] =>true
 | t::l,u::m=>bf t u&&beqTs l m
 | _,_=>false
end
theorem pq (n:Nat)(e:Nat->Bool):(Lu (n+1)).all e=(e 0&&(Lu n).all λj=>e (j+1)):=by
 rw[List.range_succ_eq_map,QD,Rv];rfl
theorem ml:∀(l m:List T) (e:Nat->Bool),(∀(j:Nat) t u,l[j]? =some t->m[j]? =some u->e j=bf t u) →
  beqTs l m=((Lu (min l.length m.length)).all e&&l.length == m.length)
 | [],[],_,_=>by simp[beqTs]
 | [],_::_,_,_=>by simp[beqTs]
 | _::_,[],_,_=>by simp[beqTs]
 | t::l,u::m,e,h=>by
  have ih:=ml l m (λj=>e (j+1)) λj t' u' h1 h2=>h (j+1) t' u' (by simpa using h1) (by simpa using h2)
  rw[beqTs,ih]
  have h0:=h 0 t u rfl rfl;simp only[Kx];rw[Nat.succ_min_succ,pq,h0,Bool.and_assoc]
  congr 2
  simp
theorem jU:∀{l m:List T},l.length≠m.length->beqTs l m=false
 | [],[],h=>absurd rfl h
 | [],_::_,_=>by simp[beqTs]
 | _::_,[],_=>by simp[beqTs]
 | t::l,u::m,h=>by
  rw[beqTs,jU (l:=l) (m:=m) (by intro z;exact h (by simp[z]))]
  simp
theorem jA:∀{l:List T} {i:Nat} {t:T},l[i]? =some t->t.dep<=deps l
 | [],_,_,e=>by simp at e
 | t::l,0,u,e=>by simp at e;subst e;unfold deps;exact Nat.le_max_left _ _
 | t::l,i+1,u,e=>by
  have:=jA (l:=l) (i:=i) (t:=u) (by simpa using e)
  unfold deps;exact K6 this (Nat.le_max_right _ _)
theorem jv {s:Kt}{a:Addr}{x y:List Kq}(h:s.heap.IsTuple a x.toArray)(h':s.heap.IsTuple a y.toArray):x=y:=by
 obtain⟨o,e,_,n,d⟩:=h;obtain⟨o',e',_,n',d'⟩:=h';rw[e]at e';cases e';rw[d]at d';injection d' with d1 _
 simpa using congrArg PH d1
theorem da {s:Kt}{a:Addr}{x y:List Kq}(h:s.heap.IsList a x.toArray)(h':s.heap.IsList a y.toArray):x=y:=by
 obtain⟨o,e,_,n,d⟩:=h;obtain⟨o',e',_,n',d'⟩:=h';rw[e]at e';cases e';rw[d]at d';injection d' with d1 _
 simpa using congrArg PH d1
theorem yW {s:Kt}{i:Int}{t:T}{k:Tok}(r:ReV s t (.int i k)):Dw i t=true:=by
 cases t with
 | non=>unfold ReV at r;cases r
 | bl b=>unfold ReV at r;cases r
 | int j=>unfold ReV at r;obtain⟨t,e⟩:=r;injection e with e1 _;subst e1;simp[Dw]
 | str x=>unfold ReV at r;obtain⟨t,e⟩:=r;cases e
 | tup l=>unfold ReV at r;obtain⟨a,its,e,_⟩:=r;cases e
 | lst l=>unfold ReV at r;obtain⟨a,its,e,_⟩:=r;cases e
 | scr l=>unfold ReV at r;obtain⟨a,its,e,_⟩:=r;cases e
 | dct _ _=>unfold ReV at r;exact r.elim
theorem pj {s:Kt}:∀{ns:List Int} {us:List Kq} {l:List T},Nl us ns->ReVs s l us->kB ns l=true
 | [],us,l,h,r=>by
  cases h
  cases l with
  | nil=>rfl
  | cons t l=>obtain⟨_,_,e,_⟩:=ReVs.me.mp r;cases e
 | n::ns,us,l,h,r=>by
  cases h with
  | cons a b hh=>
   cases l with
   | nil=>have:=ReVs.Je.mp r;cases this
   | cons t l=>
    obtain⟨u,ws,e,p,q⟩:=ReVs.me.mp r;injection e with e1 e2
    subst e1 e2;rw[kB,yW p,pj hh q];rfl
theorem eE {s:Kt}:∀{us:List Kq} {ns:List Int},Nl us ns->ReVs s (ns.map T.int) us
 | _,_,.nil=>ReVs.Je.mpr rfl
 | _,_,.cons n t h=>ReVs.me.mpr ⟨_,_,rfl,by unfold ReV;exact⟨_,rfl⟩,eE h⟩
theorem jw:∀{us:List Kq} {ns ms:List Int},Nl us ns->Nl us ms->ns=ms
 | _,_,_,.nil,.nil=>rfl
 | _,_,_,.cons n t h,.cons _ _ h'=>by rw[jw h h']
mutual
theorem ReV.refl {s:Kt}:∀{t u:T} {v:Kq},ReV s t v->ReV s u v->bf t u=true
 | .non,u,v,r,q=>by
  unfold ReV at r;subst r
  cases u <;> (unfold ReV at q) <;> first | rfl | (cases q;done) | (obtain⟨_,e⟩:=q;cases e;done) | (obtain⟨_,_,e,_⟩:=q;cases e;done)
 | .bl b,u,v,r,q=>by
  unfold ReV at r;subst r
  cases u <;> (unfold ReV at q) <;> first | (cases q;done) | (cases q;simp[bf];done) | (obtain⟨_,e⟩:=q;cases e;done) | (obtain⟨_,_,e,_⟩:=q;cases e;done)
 | .int b,u,v,r,q=>by
  unfold ReV at r;obtain⟨k,rfl⟩:=r
  cases u <;> (unfold ReV at q) <;> first | (cases q;done) | (obtain⟨_,e⟩:=q;cases e;simp[bf];done) | (obtain⟨_,e⟩:=q;cases e;done) | (obtain⟨_,_,e,_⟩:=q;cases e;done)
 | .str b,u,v,r,q=>by
  unfold ReV at r;obtain⟨k,rfl⟩:=r
  cases u <;> (unfold ReV at q) <;> first | (cases q;done) | (obtain⟨_,e⟩:=q;cases e;simp[bf];done) | (obtain⟨_,e⟩:=q;cases e;done) | (obtain⟨_,_,e,_⟩:=q;cases e;done)
 | .tup l,u,v,r,q=>by
  unfold ReV at r;obtain⟨a,its,rfl,h1,h2⟩:=r
  cases u with
  | non=>unfold ReV at q;cases q
  | dct _ _=>unfold ReV at q;exact q.elim
  | bl _=>unfold ReV at q;cases q
  | int _=>unfold ReV at q;obtain⟨_,e⟩:=q;cases e
  | str _=>unfold ReV at q;obtain⟨_,e⟩:=q;cases e
  | tup m=>
   unfold ReV at q;obtain⟨a',its',e,h1',h2'⟩:=q;injection e with e;subst e
   have:=jv h1 h1';subst this;unfold bf
   exact ReVs.refl h2 h2'
  | lst m=>unfold ReV at q;obtain⟨a',its',e,h1',h2'⟩:=q;injection e with e;subst e;exact absurd rfl (ne_of_list_tuple h1' h1)
  | scr m=>unfold ReV at q;obtain⟨a',its',e,h1',h2'⟩:=q;injection e with e;subst e;exact absurd rfl (ne_of_list_tuple h1' h1)
 | .lst l,u,v,r,q=>by
  unfold ReV at r;obtain⟨a,its,rfl,h1,h2⟩:=r
  cases u with
  | non=>unfold ReV at q;cases q
  | dct _ _=>unfold ReV at q;exact q.elim
  | bl _=>unfold ReV at q;cases q
  | int _=>unfold ReV at q;obtain⟨_,e⟩:=q;cases e
  | str _=>unfold ReV at q;obtain⟨_,e⟩:=q;cases e
  | lst m=>
   unfold ReV at q;obtain⟨a',its',e,h1',h2'⟩:=q;injection e with e;subst e
   have:=da h1 h1';subst this;unfold bf
   exact ReVs.refl h2 h2'
  | tup m=>unfold ReV at q;obtain⟨a',its',e,h1',h2'⟩:=q;injection e with e;subst e;exact absurd rfl (ne_of_list_tuple h1 h1')
  | scr m=>
   unfold ReV at q;obtain⟨a',its',e,h1',h2'⟩:=q;injection e with e;subst e
   have:=da h1 h1';subst this;unfold bf
   exact ReVs.refl h2 (eE h2')
 | .scr l,u,v,r,q=>by
  unfold ReV at r;obtain⟨a,its,rfl,h1,h2⟩:=r
  cases u with
  | non=>unfold ReV at q;cases q
  | dct _ _=>unfold ReV at q;exact q.elim
  | bl _=>unfold ReV at q;cases q
  | int _=>unfold ReV at q;obtain⟨_,e⟩:=q;cases e
  | str _=>unfold ReV at q;obtain⟨_,e⟩:=q;cases e
  | lst m=>
   unfold ReV at q;obtain⟨a',its',e,h1',h2'⟩:=q;injection e with e;subst e
   have:=da h1 h1';subst this;unfold bf
   exact pj h2 h2'
  | tup m=>unfold ReV at q;obtain⟨a',its',e,h1',h2'⟩:=q;injection e with e;subst e;exact absurd rfl (ne_of_list_tuple h1 h1')
  | scr m=>
   unfold ReV at q;obtain⟨a',its',e,h1',h2'⟩:=q;injection e with e;subst e
   have:=da h1 h1';subst this;unfold bf
   have:=jw h2 h2'
   simp[this]
 | .dct _ _,u,v,r,q=>by unfold ReV at r;exact r.elim
theorem ReVs.refl {s:Kt}:∀{l m:List T} {us:List Kq},ReVs s l us->ReVs s m us->beqTs l m=true
 | [],m,us,r,q=>by
  cases ReVs.Je.mp r
  cases m with
  | nil=>simp[beqTs]
  | cons _ _=>obtain⟨_,_,e,_⟩:=ReVs.me.mp q;cases e
 | t::l,m,us,r,q=>by
  obtain⟨v,ws,rfl,p,z⟩:=ReVs.me.mp r
  cases m with
  | nil=>cases ReVs.Je.mp q
  | cons u m=>
   obtain⟨v',ws',e,p',z'⟩:=ReVs.me.mp q;injection e with e1 e2
   subst e1 e2;rw[beqTs,ReV.refl p p',ReVs.refl z z'];rfl
end
theorem pi:∀(l:List Int) (m:List T),kB l m=beqTs (l.map T.int) m
 | [],[] =>by simp[kB,beqTs]
 | [],_::_=>by simp[kB,beqTs]
 | _::_,[] =>by simp[kB,beqTs]
 | i::l,t::m=>by
  rw[kB,Kp,beqTs,pi l m]
  congr 1
  cases t <;> simp[Dw,bf]
theorem rH:∀(l m:List Int),(l == m)=beqTs (l.map T.int) (m.map T.int)
 | [],[] =>by simp[beqTs]
 | [],_::_=>by simp[beqTs]
 | _::_,[] =>by simp[beqTs]
 | i::l,t::m=>by
  rw[Kp,Kp,beqTs,<-rH l m];simp[bf]
theorem gq:∀(l:List Int),deps (l.map T.int)=0
 | [] =>rfl
 | i::l=>by rw[Kp,deps,gq l];simp[T.dep]
def jL:T->T->Prop
 | .tup _,.tup _=>False
 | .lst _,.lst _=>False
 | .lst _,.scr _=>False
 | .scr _,.lst _=>False
 | .scr _,.scr _=>False
 | _,_=>True
theorem vh (A:La)(s:Kt)(x y:T)(u v:Kq)(hn:jL x y)(hu:A.units<cLine)(rx:ReV s x u)(ry:ReV s y v):EqAt A s u v (bf x y)/\RcAt A s u v (bf x y)/\RcNeAt A s u v (!bf x y):=by
 match x,y,hn,rx,ry with
 | .dct _ _,_,_,rx,_=>exact(by unfold ReV at rx;exact rx:False).elim
 | _,.dct _ _,_,_,ry=>exact(by unfold ReV at ry;exact ry:False).elim
 | .non,.non,hn,rx,ry=>
  obtain rfl:u=Lf:=by unfold ReV at rx;exact rx
  obtain rfl:v=Lf:=by unfold ReV at ry;exact ry
  exact⟨EqAt.same _,RcAt.none_none ,RcNeAt.none_none ⟩
 | .non,.bl b2,hn,rx,ry=>
  obtain rfl:u=Lf:=by unfold ReV at rx;exact rx
  obtain rfl:v=Lo b2:=by unfold ReV at ry;exact ry
  exact⟨EqAt.none_bool b2,RcAt.none_bool b2,RcNeAt.none_bool b2⟩
 | .non,.int i2,hn,rx,ry=>
  obtain rfl:u=Lf:=by unfold ReV at rx;exact rx
  obtain⟨k2,rfl⟩:∃k,v=LZ i2 k:=by unfold ReV at ry;exact ry
  exact⟨EqAt.none_int i2 k2,RcAt.none_int i2 k2,RcNeAt.none_int i2 k2⟩
 | .non,.str x2,hn,rx,ry=>
  obtain rfl:u=Lf:=by unfold ReV at rx;exact rx
  obtain⟨k2,rfl⟩:∃k,v=Mk x2 k:=by unfold ReV at ry;exact ry
  exact⟨EqAt.none_str x2 k2,RcAt.none_str x2 k2,RcNeAt.none_str x2 k2⟩
 | .non,.tup l2,hn,rx,ry=>
  obtain rfl:u=Lf:=by unfold ReV at rx;exact rx
  unfold ReV at ry;obtain⟨a2,us2,rfl,h2,q2⟩:=ry
  exact⟨EqAt.none_tuple h2 hu,RcAt.none_tuple h2 hu,RcNeAt.none_tuple h2 hu⟩
 | .non,.lst l2,hn,rx,ry=>
  obtain rfl:u=Lf:=by unfold ReV at rx;exact rx
  unfold ReV at ry;obtain⟨a2,us2,rfl,h2,q2⟩:=ry
  exact⟨EqAt.none_list h2 hu,RcAt.none_list h2 hu,RcNeAt.none_list h2 hu⟩
 | .non,.scr l2,hn,rx,ry=>
  obtain rfl:u=Lf:=by unfold ReV at rx;exact rx
  unfold ReV at ry;obtain⟨a2,us2,rfl,h2,q2⟩:=ry
  exact⟨EqAt.none_list h2 hu,RcAt.none_list h2 hu,RcNeAt.none_list h2 hu⟩
 | .bl b1,.non,hn,rx,ry=>
  obtain rfl:u=Lo b1:=by unfold ReV at rx;exact rx
  obtain rfl:v=Lf:=by unfold ReV at ry;exact ry
  exact⟨EqAt.bool_none b1,RcAt.bool_none b1,RcNeAt.bool_none b1⟩
 | .bl b1,.bl b2,hn,rx,ry=>
  obtain rfl:u=Lo b1:=by unfold ReV at rx;exact rx
  obtain rfl:v=Lo b2:=by unfold ReV at ry;exact ry
  exact⟨EqAt.bool_bool b1 b2,RcAt.bool_bool b1 b2,RcNeAt.bool_bool b1 b2⟩
 | .bl b1,.int i2,hn,rx,ry=>
  obtain rfl:u=Lo b1:=by unfold ReV at rx;exact rx
  obtain⟨k2,rfl⟩:∃k,v=LZ i2 k:=by unfold ReV at ry;exact ry
  exact⟨EqAt.bool_int b1 i2 k2,RcAt.bool_int b1 i2 k2,RcNeAt.bool_int b1 i2 k2⟩
 | .bl b1,.str x2,hn,rx,ry=>
  obtain rfl:u=Lo b1:=by unfold ReV at rx;exact rx
  obtain⟨k2,rfl⟩:∃k,v=Mk x2 k:=by unfold ReV at ry;exact ry
  exact⟨EqAt.bool_str b1 x2 k2,RcAt.bool_str b1 x2 k2,RcNeAt.bool_str b1 x2 k2⟩
 | .bl b1,.tup l2,hn,rx,ry=>
  obtain rfl:u=Lo b1:=by unfold ReV at rx;exact rx
  unfold ReV at ry;obtain⟨a2,us2,rfl,h2,q2⟩:=ry
  exact⟨EqAt.bool_tuple b1 h2 hu,RcAt.bool_tuple b1 h2 hu,RcNeAt.bool_tuple b1 h2 hu⟩
 | .bl b1,.lst l2,hn,rx,ry=>
  obtain rfl:u=Lo b1:=by unfold ReV at rx;exact rx
  unfold ReV at ry;obtain⟨a2,us2,rfl,h2,q2⟩:=ry
  exact⟨EqAt.bool_list b1 h2 hu,RcAt.bool_list b1 h2 hu,RcNeAt.bool_list b1 h2 hu⟩
 | .bl b1,.scr l2,hn,rx,ry=>
  obtain rfl:u=Lo b1:=by unfold ReV at rx;exact rx
  unfold ReV at ry;obtain⟨a2,us2,rfl,h2,q2⟩:=ry
  exact⟨EqAt.bool_list b1 h2 hu,RcAt.bool_list b1 h2 hu,RcNeAt.bool_list b1 h2 hu⟩
 | .int i1,.non,hn,rx,ry=>
  obtain⟨k1,rfl⟩:∃k,u=LZ i1 k:=by unfold ReV at rx;exact rx
  obtain rfl:v=Lf:=by unfold ReV at ry;exact ry
  exact⟨EqAt.int_none i1 k1,RcAt.int_none i1 k1,RcNeAt.int_none i1 k1⟩
 | .int i1,.bl b2,hn,rx,ry=>
  obtain⟨k1,rfl⟩:∃k,u=LZ i1 k:=by unfold ReV at rx;exact rx
  obtain rfl:v=Lo b2:=by unfold ReV at ry;exact ry
  exact⟨EqAt.int_bool i1 k1 b2,RcAt.int_bool i1 k1 b2,RcNeAt.int_bool i1 k1 b2⟩
 | .int i1,.int i2,hn,rx,ry=>
  obtain⟨k1,rfl⟩:∃k,u=LZ i1 k:=by unfold ReV at rx;exact rx
  obtain⟨k2,rfl⟩:∃k,v=LZ i2 k:=by unfold ReV at ry;exact ry
  exact⟨EqAt.int_int i1 k1 i2 k2,RcAt.int_int i1 k1 i2 k2,RcNeAt.int_int i1 k1 i2 k2⟩
 | .int i1,.str x2,hn,rx,ry=>
  obtain⟨k1,rfl⟩:∃k,u=LZ i1 k:=by unfold ReV at rx;exact rx
  obtain⟨k2,rfl⟩:∃k,v=Mk x2 k:=by unfold ReV at ry;exact ry
  exact⟨EqAt.int_str i1 k1 x2 k2,RcAt.int_str i1 k1 x2 k2,RcNeAt.int_str i1 k1 x2 k2⟩
 | .int i1,.tup l2,hn,rx,ry=>
  obtain⟨k1,rfl⟩:∃k,u=LZ i1 k:=by unfold ReV at rx;exact rx
  unfold ReV at ry;obtain⟨a2,us2,rfl,h2,q2⟩:=ry
  exact⟨EqAt.int_tuple i1 k1 h2 hu,RcAt.int_tuple i1 k1 h2 hu,RcNeAt.int_tuple i1 k1 h2 hu⟩
 | .int i1,.lst l2,hn,rx,ry=>
  obtain⟨k1,rfl⟩:∃k,u=LZ i1 k:=by unfold ReV at rx;exact rx
  unfold ReV at ry;obtain⟨a2,us2,rfl,h2,q2⟩:=ry
  exact⟨EqAt.int_list i1 k1 h2 hu,RcAt.int_list i1 k1 h2 hu,RcNeAt.int_list i1 k1 h2 hu⟩
 | .int i1,.scr l2,hn,rx,ry=>
  obtain⟨k1,rfl⟩:∃k,u=LZ i1 k:=by unfold ReV at rx;exact rx
  unfold ReV at ry;obtain⟨a2,us2,rfl,h2,q2⟩:=ry
  exact⟨EqAt.int_list i1 k1 h2 hu,RcAt.int_list i1 k1 h2 hu,RcNeAt.int_list i1 k1 h2 hu⟩
 | .str x1,.non,hn,rx,ry=>
  obtain⟨k1,rfl⟩:∃k,u=Mk x1 k:=by unfold ReV at rx;exact rx
  obtain rfl:v=Lf:=by unfold ReV at ry;exact ry
  exact⟨EqAt.str_none x1 k1,RcAt.str_none x1 k1,RcNeAt.str_none x1 k1⟩
 | .str x1,.bl b2,hn,rx,ry=>
  obtain⟨k1,rfl⟩:∃k,u=Mk x1 k:=by unfold ReV at rx;exact rx
  obtain rfl:v=Lo b2:=by unfold ReV at ry;exact ry
  exact⟨EqAt.str_bool x1 k1 b2,RcAt.str_bool x1 k1 b2,RcNeAt.str_bool x1 k1 b2⟩
 | .str x1,.int i2,hn,rx,ry=>
  obtain⟨k1,rfl⟩:∃k,u=Mk x1 k:=by unfold ReV at rx;exact rx
  obtain⟨k2,rfl⟩:∃k,v=LZ i2 k:=by unfold ReV at ry;exact ry
  exact⟨EqAt.str_int x1 k1 i2 k2,RcAt.str_int x1 k1 i2 k2,RcNeAt.str_int x1 k1 i2 k2⟩
 | .str x1,.str x2,hn,rx,ry=>
  obtain⟨k1,rfl⟩:∃k,u=Mk x1 k:=by unfold ReV at rx;exact rx
  obtain⟨k2,rfl⟩:∃k,v=Mk x2 k:=by unfold ReV at ry;exact ry
  exact⟨EqAt.str_str x1 k1 x2 k2,RcAt.str_str x1 k1 x2 k2,RcNeAt.str_str x1 k1 x2 k2⟩
 | .str x1,.tup l2,hn,rx,ry=>
  obtain⟨k1,rfl⟩:∃k,u=Mk x1 k:=by unfold ReV at rx;exact rx
  unfold ReV at ry;obtain⟨a2,us2,rfl,h2,q2⟩:=ry
  exact⟨EqAt.str_tuple x1 k1 h2 hu,RcAt.str_tuple x1 k1 h2 hu,RcNeAt.str_tuple x1 k1 h2 hu⟩
 | .str x1,.lst l2,hn,rx,ry=>
  obtain⟨k1,rfl⟩:∃k,u=Mk x1 k:=by unfold ReV at rx;exact rx
  unfold ReV at ry;obtain⟨a2,us2,rfl,h2,q2⟩:=ry
  exact⟨EqAt.str_list x1 k1 h2 hu,RcAt.str_list x1 k1 h2 hu,RcNeAt.str_list x1 k1 h2 hu⟩
 | .str x1,.scr l2,hn,rx,ry=>
  obtain⟨k1,rfl⟩:∃k,u=Mk x1 k:=by unfold ReV at rx;exact rx
  unfold ReV at ry;obtain⟨a2,us2,rfl,h2,q2⟩:=ry
  exact⟨EqAt.str_list x1 k1 h2 hu,RcAt.str_list x1 k1 h2 hu,RcNeAt.str_list x1 k1 h2 hu⟩
 | .tup l1,.non,hn,rx,ry=>
  unfold ReV at rx;obtain⟨a1,us1,rfl,h1,q1⟩:=rx;obtain rfl:v=Lf:=by unfold ReV at ry;exact ry
  exact⟨EqAt.tuple_none h1 hu,RcAt.tuple_none h1 hu,RcNeAt.tuple_none h1 hu⟩
 | .tup l1,.bl b2,hn,rx,ry=>
  unfold ReV at rx;obtain⟨a1,us1,rfl,h1,q1⟩:=rx;obtain rfl:v=Lo b2:=by unfold ReV at ry;exact ry
  exact⟨EqAt.tuple_bool b2 h1 hu,RcAt.tuple_bool b2 h1 hu,RcNeAt.tuple_bool b2 h1 hu⟩
 | .tup l1,.int i2,hn,rx,ry=>
  unfold ReV at rx;obtain⟨a1,us1,rfl,h1,q1⟩:=rx;obtain⟨k2,rfl⟩:∃k,v=LZ i2 k:=by unfold ReV at ry;exact ry
  exact⟨EqAt.tuple_int i2 k2 h1 hu,RcAt.tuple_int i2 k2 h1 hu,RcNeAt.tuple_int i2 k2 h1 hu⟩
 | .tup l1,.str x2,hn,rx,ry=>
  unfold ReV at rx;obtain⟨a1,us1,rfl,h1,q1⟩:=rx;obtain⟨k2,rfl⟩:∃k,v=Mk x2 k:=by unfold ReV at ry;exact ry
  exact⟨EqAt.tuple_str x2 k2 h1 hu,RcAt.tuple_str x2 k2 h1 hu,RcNeAt.tuple_str x2 k2 h1 hu⟩
 | .tup _,.tup _,hn,_,_=>exact hn.elim
 | .tup l1,.lst l2,hn,rx,ry=>
  unfold ReV at rx;obtain⟨a1,us1,rfl,h1,q1⟩:=rx;unfold ReV at ry;obtain⟨a2,us2,rfl,h2,q2⟩:=ry
  exact⟨EqAt.tuple_list h1 h2 hu,RcAt.tuple_list h1 h2 hu,RcNeAt.tuple_list h1 h2 hu⟩
 | .tup l1,.scr l2,hn,rx,ry=>
  unfold ReV at rx;obtain⟨a1,us1,rfl,h1,q1⟩:=rx;unfold ReV at ry;obtain⟨a2,us2,rfl,h2,q2⟩:=ry
  exact⟨EqAt.tuple_list h1 h2 hu,RcAt.tuple_list h1 h2 hu,RcNeAt.tuple_list h1 h2 hu⟩
 | .lst l1,.non,hn,rx,ry=>
  unfold ReV at rx;obtain⟨a1,us1,rfl,h1,q1⟩:=rx;obtain rfl:v=Lf:=by unfold ReV at ry;exact ry
  exact⟨EqAt.list_none h1 hu,RcAt.list_none h1 hu,RcNeAt.list_none h1 hu⟩
 | .lst l1,.bl b2,hn,rx,ry=>
  unfold ReV at rx;obtain⟨a1,us1,rfl,h1,q1⟩:=rx;obtain rfl:v=Lo b2:=by unfold ReV at ry;exact ry
  exact⟨EqAt.list_bool b2 h1 hu,RcAt.list_bool b2 h1 hu,RcNeAt.list_bool b2 h1 hu⟩
 | .lst l1,.int i2,hn,rx,ry=>
  unfold ReV at rx;obtain⟨a1,us1,rfl,h1,q1⟩:=rx;obtain⟨k2,rfl⟩:∃k,v=LZ i2 k:=by unfold ReV at ry;exact ry
  exact⟨EqAt.list_int i2 k2 h1 hu,RcAt.list_int i2 k2 h1 hu,RcNeAt.list_int i2 k2 h1 hu⟩
 | .lst l1,.str x2,hn,rx,ry=>
  unfold ReV at rx;obtain⟨a1,us1,rfl,h1,q1⟩:=rx;obtain⟨k2,rfl⟩:∃k,v=Mk x2 k:=by unfold ReV at ry;exact ry
  exact⟨EqAt.list_str x2 k2 h1 hu,RcAt.list_str x2 k2 h1 hu,RcNeAt.list_str x2 k2 h1 hu⟩
 | .lst l1,.tup l2,hn,rx,ry=>
  unfold ReV at rx;obtain⟨a1,us1,rfl,h1,q1⟩:=rx;unfold ReV at ry;obtain⟨a2,us2,rfl,h2,q2⟩:=ry
  exact⟨EqAt.list_tuple h1 h2 hu,RcAt.list_tuple h1 h2 hu,RcNeAt.list_tuple h1 h2 hu⟩
 | .lst _,.lst _,hn,_,_=>exact hn.elim
 | .lst _,.scr _,hn,_,_=>exact hn.elim
 | .scr l1,.non,hn,rx,ry=>
  unfold ReV at rx;obtain⟨a1,us1,rfl,h1,q1⟩:=rx;obtain rfl:v=Lf:=by unfold ReV at ry;exact ry
  exact⟨EqAt.list_none h1 hu,RcAt.list_none h1 hu,RcNeAt.list_none h1 hu⟩
 | .scr l1,.bl b2,hn,rx,ry=>
  unfold ReV at rx;obtain⟨a1,us1,rfl,h1,q1⟩:=rx;obtain rfl:v=Lo b2:=by unfold ReV at ry;exact ry
  exact⟨EqAt.list_bool b2 h1 hu,RcAt.list_bool b2 h1 hu,RcNeAt.list_bool b2 h1 hu⟩
 | .scr l1,.int i2,hn,rx,ry=>
  unfold ReV at rx;obtain⟨a1,us1,rfl,h1,q1⟩:=rx;obtain⟨k2,rfl⟩:∃k,v=LZ i2 k:=by unfold ReV at ry;exact ry
  exact⟨EqAt.list_int i2 k2 h1 hu,RcAt.list_int i2 k2 h1 hu,RcNeAt.list_int i2 k2 h1 hu⟩
 | .scr l1,.str x2,hn,rx,ry=>
  unfold ReV at rx;obtain⟨a1,us1,rfl,h1,q1⟩:=rx;obtain⟨k2,rfl⟩:∃k,v=Mk x2 k:=by unfold ReV at ry;exact ry
  exact⟨EqAt.list_str x2 k2 h1 hu,RcAt.list_str x2 k2 h1 hu,RcNeAt.list_str x2 k2 h1 hu⟩
 | .scr l1,.tup l2,hn,rx,ry=>
  unfold ReV at rx;obtain⟨a1,us1,rfl,h1,q1⟩:=rx;unfold ReV at ry;obtain⟨a2,us2,rfl,h2,q2⟩:=ry
  exact⟨EqAt.list_tuple h1 h2 hu,RcAt.list_tuple h1 h2 hu,RcNeAt.list_tuple h1 h2 hu⟩
 | .scr _,.lst _,hn,_,_=>exact hn.elim
 | .scr _,.scr _,hn,_,_=>exact hn.elim
theorem Di:∀(n:Nat) (A:La) (s:Kt) (x y:T) (u v:Kq),(x.dep<=n\/y.dep<=n)->A.units+n<cLine->ReV s x u->ReV s y v->EqAt A s u v (bf x y)/\RcAt A s u v (bf x y)/\RcNeAt A s u v (!bf x y):=by
 intro n
 induction n with
 | zero=>
  intro A s x y u v hd hu rx ry
  exact vh A s x y u v (by cases x <;> cases y <;> simp_all [jL,T.dep]) (by omega) rx ry
 | succ n ih=>
  intro A s x y u v hd hu rx ry
  have hin:A.in1.units+n<cLine:=by show A.units+1+n<cLine;omega
  have items:∀(l m:List T) (us vs:List Kq),(deps l<=n\/deps m<=n)->ReVs s l us->ReVs s m vs->∃e:Nat->Bool,(∀j (h1:j<us.toArray.size) (h2:j<vs.toArray.size),EqAt A.in1 s us.toArray[j] vs.toArray[j] (e j)) ∧
    (∀(j:Nat) t u,l[j]? =some t->m[j]? =some u->e j=bf t u):=λl m us vs hd r1 r2=>by
   refine⟨λj=>bf (l.getD j .non) (m.getD j .non),λj h1 h2=> ?_,λj t u e1 e2=>by simp[List.getD,e1,e2]⟩
   have l1:=r1.length
   have l2:=r2.length
   have h1':j<l.length:=by rw[l1];simpa using h1
   have h2':j<m.length:=by rw[l2];simpa using h2
   have e1:l[j]? =some l[j]:=by simp
   have e2:m[j]? =some m[j]:=by simp
   obtain⟨u1,z1,w1⟩:=r1.get e1;obtain⟨u2,z2,w2⟩:=r2.get e2
   have q1:us.toArray[j] =u1:=by
    have:us[j]? =some us.toArray[j]:=by simp
    rw[z1]at this;exact(K7 this).symm
   have q2:vs.toArray[j] =u2:=by
    have:vs[j]? =some vs.toArray[j]:=by simp
    rw[z2]at this;exact(K7 this).symm
   rw[q1,q2]
   have g1:l.getD j .non=l[j]:=by simp[List.getD,e1]
   have g2:m.getD j .non=m[j]:=by simp[List.getD,e2]
   show EqAt A.in1 s u1 u2 (bf (l.getD j .non) (m.getD j .non))
   rw[g1,g2];refine(ih A.in1 s l[j] m[j] u1 u2 ?_ hin w1 w2).1
   rcases hd with hd | hd
   ·exact .inl (K6 (jA e1) hd)
   ·exact .inr (K6 (jA e2) hd)
  have lists:∀(l m:List T) (a b:Addr) (us vs:List Kq),(deps l<=n\/deps m<=n)->ReVs s l us->ReVs s m vs->s.heap.IsList a us.toArray->s.heap.IsList b vs.toArray →
    EqAt A s (.ref a) (.ref b) (beqTs l m)/\RcAt A s (.ref a) (.ref b) (beqTs l m)/\RcNeAt A s (.ref a) (.ref b) (!beqTs l m):=λl m a b us vs hd r1 r2 h1 h2=>by
   have l1:=r1.length
   have l2:=r2.length
   have key:RcAt A s (.ref a) (.ref b) (beqTs l m)/\RcNeAt A s (.ref a) (.ref b) (!beqTs l m):=by
    by_cases hl:l.length=m.length
    ·obtain⟨e,he,hb⟩:=items l m us vs hd r1 r2
     have q:=ml l m e hb
     have q2:beqTs l m=(Lu us.toArray.size).all e:=by
      rw[q,hl,Nat.min_self];simp[l2.symm,hl.symm,l1]
     rw[q2]
     have hsz:us.toArray.size=vs.toArray.size:=by simp;omega
     exact⟨RcAt.lists h1 h2 hsz (by omega) he,RcNeAt.lists h1 h2 hsz (by omega) he⟩
    ·rw[jU hl]
     have hsz:(us.toArray.size != vs.toArray.size)=true:=by simp;omega
     exact⟨RcAt.lists_lengths h1 h2 hsz (by omega),RcNeAt.lists_lengths h1 h2 hsz (by omega)⟩
   refine⟨?_,key⟩
   by_cases hab:a=b
   ·subst hab
    have:=da h1 h2;subst this;rw[ReVs.refl r1 r2];exact EqAt.same _
   ·exact EqAt.of_refs hab key.1
  cases x with
  | tup l=>
   cases y with
   | tup m=>
    unfold ReV at rx ry;obtain⟨a,us,rfl,h1,r1⟩:=rx;obtain⟨b,vs,rfl,h2,r2⟩:=ry
    have hd':deps l<=n\/deps m<=n:=by
     simp only[T.dep]at hd;omega
    have l1:=r1.length
    have l2:=r2.length;obtain⟨e,he,hb⟩:=items l m us vs hd' r1 r2
    have q:=ml l m e hb
    have q2:beqTs l m=((Lu (min us.toArray.size vs.toArray.size)).all e&&us.toArray.size == vs.toArray.size):=by
     rw[q];simp[l1,l2]
    have key:RcAt A s (.ref a) (.ref b) (beqTs l m)/\RcNeAt A s (.ref a) (.ref b) (!beqTs l m):=by
     rw[q2];exact⟨RcAt.tuples h1 h2 (by omega) he,RcNeAt.tuples h1 h2 (by omega) he⟩
    unfold bf;refine⟨?_,key⟩
    by_cases hab:a=b
    ·subst hab
     have:=jv h1 h2;subst this;rw[ReVs.refl r1 r2];exact EqAt.same _
    ·exact EqAt.of_refs hab key.1
   | _=>exact vh A s _ _ u v (by simp[jL]) (by omega) rx ry
  | lst l=>
   cases y with
   | lst m=>
    unfold ReV at rx ry;obtain⟨a,us,rfl,h1,r1⟩:=rx;obtain⟨b,vs,rfl,h2,r2⟩:=ry;unfold bf
    exact lists l m a b us vs (by simp only[T.dep]at hd;omega) r1 r2 h1 h2
   | scr m=>
    unfold ReV at rx ry;obtain⟨a,us,rfl,h1,r1⟩:=rx;obtain⟨b,vs,rfl,h2,r2⟩:=ry;unfold bf
    exact lists l (m.map T.int) a b us vs (by rw[gq];omega) r1 (eE r2) h1 h2
   | _=>exact vh A s _ _ u v (by simp[jL]) (by omega) rx ry
  | scr l=>
   cases y with
   | lst m=>
    unfold ReV at rx ry;obtain⟨a,us,rfl,h1,r1⟩:=rx;obtain⟨b,vs,rfl,h2,r2⟩:=ry;unfold bf;rw[pi]
    exact lists (l.map T.int) m a b us vs (by rw[gq];omega) (eE r1) r2 h1 h2
   | scr m=>
    unfold ReV at rx ry;obtain⟨a,us,rfl,h1,r1⟩:=rx;obtain⟨b,vs,rfl,h2,r2⟩:=ry;unfold bf;rw[rH]
    exact lists (l.map T.int) (m.map T.int) a b us vs (by rw[gq];omega) (eE r1) (eE r2) h1 h2
   | _=>exact vh A s _ _ u v (by simp[jL]) (by omega) rx ry
  | _=>exact vh A s _ _ u v (by simp[jL]) (by omega) rx ry
mutual
def T.nf:T->T
 | .tup l=> .tup (nfs l)
 | .lst l=> .lst (nfs l)
 | .scr l=> .lst (l.map .int)
 | .non=> .non
 | .bl b=> .bl b
 | .int b=> .int b
 | .str b=> .str b
 | .dct a b=> .dct a b
def nfs:List T->List T
 | [] => []
 | t::l=>t.nf::nfs l
end
theorem uS:∀(l:List Int),nfs (l.map T.int)=l.map T.int
 | [] =>rfl
 | i::l=>by rw[Kp,nfs,uS l];simp[T.nf]
mutual
theorem lL:∀(t x:T),bf t.nf x=bf t x
 | .non,x=>by simp[T.nf]
 | .bl _,x=>by simp[T.nf]
 | .int _,x=>by simp[T.nf]
 | .str _,x=>by simp[T.nf]
 | .tup l,x=>by cases x <;> simp[T.nf,bf,beqTs_nf l]
 | .lst l,x=>by cases x <;> simp[T.nf,bf,beqTs_nf l]
 | .scr l,x=>by cases x <;> simp[T.nf,bf,pi,rH]
 | .dct _ _,x=>by simp[T.nf]
theorem beqTs_nf:∀(l m:List T),beqTs (nfs l) m=beqTs l m
 | [],m=>by simp[nfs]
 | t::l,m=>by cases m <;> simp[nfs,beqTs,lL t,beqTs_nf l]
end
theorem Gk {s:Kt}{t:T}{i:Int}{k:Tok}(r:ReV s t (.int i k)):t.nf= .int i:=by
 cases t with
 | non=>unfold ReV at r;cases r
 | bl b=>unfold ReV at r;cases r
 | int j=>unfold ReV at r;obtain⟨t,e⟩:=r;injection e with e1 _;subst e1;rfl
 | str x=>unfold ReV at r;obtain⟨t,e⟩:=r;cases e
 | tup l=>unfold ReV at r;obtain⟨a,its,e,_⟩:=r;cases e
 | lst l=>unfold ReV at r;obtain⟨a,its,e,_⟩:=r;cases e
 | scr l=>unfold ReV at r;obtain⟨a,its,e,_⟩:=r;cases e
 | dct _ _=>unfold ReV at r;exact r.elim
theorem xK {s:Kt}:∀{l:List T} {us:List Kq} {ns:List Int},ReVs s l us->Nl us ns->nfs l=ns.map T.int
 | [],us,ns,r,h=>by cases ReVs.Je.mp r;cases h;rfl
 | t::l,us,ns,r,h=>by
  obtain⟨u,ws,rfl,p,q⟩:=ReVs.me.mp r
  cases h with
  | cons a b hh=>rw[nfs,Gk p,xK q hh];rfl
mutual
theorem ReV.nf {s:Kt}:∀{t u:T} {v:Kq},ReV s t v->ReV s u v->t.nf=u.nf
 | .non,u,v,r,q=>by
  unfold ReV at r;subst r
  cases u <;> (unfold ReV at q) <;> first | rfl | (cases q;done) | (obtain⟨_,e⟩:=q;cases e;done) | (obtain⟨_,_,e,_⟩:=q;cases e;done)
 | .bl b,u,v,r,q=>by
  unfold ReV at r;subst r
  cases u <;> (unfold ReV at q) <;> first | (cases q;done) | (cases q;rfl) | (obtain⟨_,e⟩:=q;cases e;done) | (obtain⟨_,_,e,_⟩:=q;cases e;done)
 | .int b,u,v,r,q=>by
  unfold ReV at r;obtain⟨k,rfl⟩:=r
  cases u <;> (unfold ReV at q) <;> first | (cases q;done) | (obtain⟨_,e⟩:=q;cases e;done) | (obtain⟨_,e⟩:=q;cases e;rfl) | (obtain⟨_,_,e,_⟩:=q;cases e;done)
 | .str b,u,v,r,q=>by
  unfold ReV at r;obtain⟨k,rfl⟩:=r
  cases u <;> (unfold ReV at q) <;> first | (cases q;done) | (obtain⟨_,e⟩:=q;cases e;done) | (obtain⟨_,e⟩:=q;cases e;rfl) | (obtain⟨_,_,e,_⟩:=q;cases e;done)
 | .tup l,u,v,r,q=>by
  unfold ReV at r;obtain⟨a,its,rfl,h1,h2⟩:=r
  cases u with
  | non=>unfold ReV at q;cases q
  | dct _ _=>unfold ReV at q;exact q.elim
  | bl _=>unfold ReV at q;cases q
  | int _=>unfold ReV at q;obtain⟨_,e⟩:=q;cases e
  | str _=>unfold ReV at q;obtain⟨_,e⟩:=q;cases e
  | tup m=>
   unfold ReV at q;obtain⟨a',its',e,h1',h2'⟩:=q;injection e with e;subst e
   have:=jv h1 h1';subst this;unfold T.nf
   rw[ReVs.nf h2 h2']
  | lst m=>unfold ReV at q;obtain⟨a',its',e,h1',h2'⟩:=q;injection e with e;subst e;exact absurd rfl (ne_of_list_tuple h1' h1)
  | scr m=>unfold ReV at q;obtain⟨a',its',e,h1',h2'⟩:=q;injection e with e;subst e;exact absurd rfl (ne_of_list_tuple h1' h1)
 | .lst l,u,v,r,q=>by
  unfold ReV at r;obtain⟨a,its,rfl,h1,h2⟩:=r
  cases u with
  | non=>unfold ReV at q;cases q
  | dct _ _=>unfold ReV at q;exact q.elim
  | bl _=>unfold ReV at q;cases q
  | int _=>unfold ReV at q;obtain⟨_,e⟩:=q;cases e
  | str _=>unfold ReV at q;obtain⟨_,e⟩:=q;cases e
  | lst m=>
   unfold ReV at q;obtain⟨a',its',e,h1',h2'⟩:=q;injection e with e;subst e
   have:=da h1 h1';subst this;unfold T.nf
   rw[ReVs.nf h2 h2']
  | tup m=>unfold ReV at q;obtain⟨a',its',e,h1',h2'⟩:=q;injection e with e;subst e;exact absurd rfl (ne_of_list_tuple h1 h1')
  | scr m=>
   unfold ReV at q;obtain⟨a',its',e,h1',h2'⟩:=q;injection e with e;subst e
   have:=da h1 h1';subst this;unfold T.nf
   rw[ReVs.nf h2 (eE h2'),uS]
 | .scr l,u,v,r,q=>by
  unfold ReV at r;obtain⟨a,its,rfl,h1,h2⟩:=r
  cases u with
  | non=>unfold ReV at q;cases q
  | dct _ _=>unfold ReV at q;exact q.elim
  | bl _=>unfold ReV at q;cases q
  | int _=>unfold ReV at q;obtain⟨_,e⟩:=q;cases e
  | str _=>unfold ReV at q;obtain⟨_,e⟩:=q;cases e
  | lst m=>
   unfold ReV at q;obtain⟨a',its',e,h1',h2'⟩:=q;injection e with e;subst e
   have:=da h1 h1';subst this
   have z:=xK h2' h2;unfold T.nf
   rw[z]
  | tup m=>unfold ReV at q;obtain⟨a',its',e,h1',h2'⟩:=q;injection e with e;subst e;exact absurd rfl (ne_of_list_tuple h1 h1')
  | scr m=>
   unfold ReV at q;obtain⟨a',its',e,h1',h2'⟩:=q;injection e with e;subst e
   have:=da h1 h1';subst this
   rw[jw h2 h2']
 | .dct _ _,u,v,r,q=>by unfold ReV at r;exact r.elim
theorem ReVs.nf {s:Kt}:∀{l m:List T} {us:List Kq},ReVs s l us->ReVs s m us->nfs l=nfs m
 | [],m,us,r,q=>by
  cases ReVs.Je.mp r
  cases m with
  | nil=>rfl
  | cons _ _=>obtain⟨_,_,e,_⟩:=ReVs.me.mp q;cases e
 | t::l,m,us,r,q=>by
  obtain⟨v,ws,rfl,p,z⟩:=ReVs.me.mp r
  cases m with
  | nil=>cases ReVs.Je.mp q
  | cons u m=>
   obtain⟨v',ws',e,p',z'⟩:=ReVs.me.mp q;injection e with e1 e2
   subst e1 e2;rw[nfs,nfs,ReV.nf p p',ReVs.nf z z']
end
section
variable {X:Cx}{a b c:Expr}{fa fb fc:En->Rs T}{pos:Pos}
def gI (x y:T):Bool:=(decide (x.dep<=60)||decide (y.dep<=60))&&(x.nd&&y.nd)
def qi (x y:T):Rs T:=if gI x y=true then .ok (.bl (bf x y))else .bad
def mY (x y:T):Rs T:=if gI x y=true then .ok (.bl (!bf x y))else .bad
theorem jy {x y:T}(h:x.dep<=60)(hx:x.nd=true)(hy:y.nd=true):gI x y=true:=by unfold gI;rw[decide_eq_true h,hx,hy];rfl
theorem vf {x y:T}(h:y.dep<=60)(hx:x.nd=true)(hy:y.nd=true):gI x y=true:=by unfold gI;rw[decide_eq_true h,hx,hy,Rw];rfl
theorem jS {x y:T}(h:gI x y=true):x.nd=true/\y.nd=true:=by
 unfold gI at h;exact Ms.mp (Ms.mp h).2
theorem qT {x y:T}(h:gI x y=true):x.dep<=60\/y.dep<=60:=by
 unfold gI at h
 replace h:=(Ms.mp h).1
 rcases Bool.or_eq_true_iff.mp h with h | h
 ·exact .inl (of_decide_eq_true h)
 ·exact .inr (of_decide_eq_true h)
theorem oj (hu:X.A.units+60<cLine):OpT X (Ls .Eq) qi:=by
 intro pins s σ H O x y vx vy ux uy Q I hf rx ry r1 r2 hp;unfold qi at hp
 split at hp
 ·rename_i h
  have z:=Di 60 X.A s x y ux uy (qT h) hu (Rep.val I (jS h).1 rx r1) (Rep.val I (jS h).2 ry r2);exact z.2.1 _ _ _ _ ⟨.bl _,H,I,rfl,hp H (Same.refl H) _ (Rep.bl_ _)⟩
 ·exact hp.elim
theorem lf (hu:X.A.units+60<cLine):OpT X (Ls .NotEq) mY:=by
 intro pins s σ H O x y vx vy ux uy Q I hf rx ry r1 r2 hp;unfold mY at hp
 split at hp
 ·rename_i h
  have z:=Di 60 X.A s x y ux uy (qT h) hu (Rep.val I (jS h).1 rx r1) (Rep.val I (jS h).2 ry r2);exact z.2.2 _ _ _ _ ⟨.bl _,H,I,rfl,hp H (Same.refl H) _ (Rep.bl_ _)⟩
 ·exact hp.elim
def T.items:T->Option (List T)
 | .tup l=>some l
 | .lst l=>some l
 | .scr l=>some (l.map T.int)
 | _=>none
def ri (x:T)(l:List T):Bool:=l.any λy=>bf y x
def GR (x y:T):Rs T:=match y.items with
 | some l=>if (x.dep<=60\/deps l<=60)/\x.nd=true/\y.nd=true then .ok (.bl (ri x l))else .bad
 | none=> .bad
theorem C2 {A:La}{s:Kt}{x:T}{ux:Kq}(rx:ReV s x ux)(hu:A.units+60<cLine){l:List T}{us:List Kq}(hd:x.dep<=60\/deps l<=60)(r:ReVs s l us) :
  ∃e:Kq->Bool,(∀y∈us,EqAt A s y ux (e y))/\us.any e=ri x l:=by
 classical
 have ex:∀y∈us,∃t∈l,ReV s t y:=λy hy=>by
  obtain⟨i,hi,rfl⟩:=MV hy
  have hl:=r.length
  have e1:l[i]? =some l[i]:=by simp
  obtain⟨u,q1,q2⟩:=r.get e1
  have:us[i]? =some us[i]:=by simp
  rw[this]at q1;cases q1;exact⟨l[i],L4 _,q2⟩
 let e:Kq->Bool:=λy=>decide (∃t∈l,ReV s t y/\bf t x=true)
 have dep:∀t∈l,t.dep<=60\/x.dep<=60:=λt ht=>by
  rcases hd with h | h
  ·exact .inr h
  ·obtain⟨i,hi,rfl⟩:=MV ht
   exact .inl (K6 (jA (i:=i) (by simp)) h)
 have uniq:∀y t t',ReV s t y->ReV s t' y->bf t x=bf t' x:=λy t t' z z'=>by
  rw[<-lL t,<-lL t',ReV.nf z z']
 have agree:∀y t,t∈l->ReV s t y->e y=bf t x:=λy t h z=>by
  show decide (∃t∈l,ReV s t y/\bf t x=true)=bf t x
  cases q:bf t x with
  | true=>exact decide_eq_true ⟨t,h,z,q⟩
  | false=>
   refine decide_eq_false ?_
   rintro ⟨t',h',z',q'⟩
   rw[<-uniq y t t' z z',q]at q';cases q'
 refine⟨e,λy hy=> ?_,?_⟩
 ·obtain⟨t,h,z⟩:=ex y hy
  rw[agree y t h z];exact(Di 60 A s t x y ux (dep t h) hu z rx).1
 ·have go:∀(l':List T) (us':List Kq),(∀t∈l',t∈l)->ReVs s l' us'->us'.any e=l'.any λy=>bf y x:=by
   intro l'
   induction l' with
   | nil=>intro us' _ r';rw[ReVs.Je.mp r'];rfl
   | cons t l' ih=>
    intro us' sub r';obtain⟨u,ws,rfl,p,q⟩:=ReVs.me.mp r';rw[MW,MW,ih ws (λt ht=>sub t (Ko _ ht)) q,agree u t (sub t Kr) p]
  exact go l us (λ_ h=>h) r
theorem yF {s:Kt}{y:T}{u:Kq}{l:List T}(r:ReV s y u)(h:y.items=some l):∃a us,u= .ref a/\ReVs s l us/\(s.heap.IsTuple a us.toArray\/s.heap.IsList a us.toArray):=by
 cases y with
 | tup m=>cases h;unfold ReV at r;obtain⟨a,us,e,h1,h2⟩:=r;exact⟨a,us,e,h2,.inl h1⟩
 | lst m=>cases h;unfold ReV at r;obtain⟨a,us,e,h1,h2⟩:=r;exact⟨a,us,e,h2,.inr h1⟩
 | scr m=>cases h;unfold ReV at r;obtain⟨a,us,e,h1,h2⟩:=r;exact⟨a,us,e,eE h2,.inr h1⟩
 | _=>cases h
theorem HI (hu:X.A.units+61<cLine):OpT X (Ls .In) GR:=by
 intro pins s σ H O x y vx vy ux uy Q I hf rx ry r1 r2 hp;unfold GR at hp
 split at hp
 ·rename_i l hl
  split at hp
  ·rename_i hd3
   obtain⟨hd,hnx,hny⟩:=hd3;obtain⟨a,us,rfl,rs,hh⟩:=yF (Rep.val I hny ry r2) hl;obtain⟨e,he,ha⟩:=C2 (A:=X.A.in1) (Rep.val I hnx rx r1) (by show X.A.units+1+60<cLine;omega) hd rs
   have q:=hp H (Same.refl H) _ (Rep.bl_ (ri x l))
   have he':∀y,y∈us.toArray->EqAt X.A.in1 s y ux (e y):=λy hy=>he y (by simpa using hy)
   have ha':us.toArray.any e=ri x l:=by simpa using ha
   rcases hh with hh | hh
   ·exact in_tupleAt e hh he' (by rw[ha'];exact⟨.bl _,H,I,rfl,q⟩)
   ·exact in_listAt e hh he' (by rw[ha'];exact⟨.bl _,H,I,rfl,q⟩)
  ·exact hp.elim
 ·exact hp.elim
def ch (g g':T->T->Rs T)(fa fb fc:En->Rs T)(Z:En):Rs T:=do
 let x <-fa Z
 let y <-fb Z
 let z <-g x y
 match z with
 | .bl true=>do
  let w <-fc Z
  g' y w
 | .bl false=> .ok (.bl false)
 | _=> .bad
theorem CF {op op':SD}{g g':T->T->Rs T}(ho:OpT X (Ls op) g)(ho':OpT X (Ls op') g')(ha:cP X a fa)(hb:cP X b fb)(hc:cP X c fc)
  (hm:lastMarks [op,op'] [b,c] =false:=by with_unfolding_all rfl):cP X (.Compare a [op,op'] [b,c] pos) (ch g g' fa fb fc):=by
 intro pins s σ H Q I ⟨Z,O,E,hq⟩
 have h1:=bn E hq;refine Compare_chain (cr (ha pins s σ H _ I h1) λv s1 ⟨x,H1,I1,r1,t,rt,s',E',q1⟩=>chain_link ?_) hm
 have h2:=bn (f:=fb) E' q1;refine cr (hb pins s1 σ H1 _ I1 h2) λu s2 hh_=> ?_
 obtain⟨y,H2,I2,r2,t2,rt2,s'',E'',q2⟩:=hh_
 refine cr (ho pins s2 σ H2 O t t2 x y v u (λv' H'=> ∃t',Rep X.K O H' t' v'/\Same H2 H'/\Post X H' (match t' with
  | .bl true=>fc Z >>= λw=>g' t2 w
  | .bl false=> .ok (.bl false)
  | _=> .bad) (λt H'=> ∀v,Rep X.K O H' t v->Q v H')) I2 (λp=>E''.fresh) (rt.same s'') rt2 r1 r2 (Post.mono q2.bind λt' H' s3 q v rv=>⟨t',rv,s3,q⟩)) λd s3 ⟨z,H3,I3,r3,t3,rt3,sm3,q3⟩=> ?_
 have E3:=E''.same sm3
 split at q3
 ·cases Rep.Jj.mp rt3
  cases r3;refine LJ (ite_tt (chain_last ?_))
  have h4:=bn (f:=fc) E3 q3;refine cr (hc pins s3 σ H3 _ I3 h4) λw' s4 ⟨z',H4,I4,r4,t4,rt4,s4',E4,q4⟩=> ?_
  exact ho' pins s4 σ H4 O t2 t4 y z' u w' Q I4 (λp=>E4.fresh) ((rt2.same sm3).same s4') rt4 r2 r4 q4
 ·cases Rep.Jj.mp rt3
  cases r3;refine LJ (ite_ff ⟨.bl false,H3,I3,rfl,q3 H3 (Same.refl H3) _ (Rep.bl_ false)⟩)
 ·exact q3.elim
def tb (f:En->Rs T)(Z:En):Rs Bool:=do
 let x <-f Z
 match x with
 | .bl k=> .ok k
 | _=> .bad
def bt (f:En->Rs Bool)(Z:En):Rs T:=do
 let k <-f Z
 .ok (.bl k)
theorem E8 {e:Expr}{f:En->Rs T}(h:cP X e f)(he:∀whole,isTrue e X.env whole=(do let v <-whole;standAt e.pos;holding [v] (truthy v)):=by intro _;rfl):vD X e (tb f):=by
 intro pins s σ H Q I ⟨Z,O,E,hq⟩;refine zY h he pins s σ H Q I ?_
 obtain⟨Z1,O1,E1,h1⟩:=bn E hq;refine⟨Z1,O1,E1,Post.mono h1 λts H1 s1 q vs r=> ?_⟩
 obtain⟨t',r',s',E',q'⟩:=q vs r
 split at q'
 ·exact⟨_,Rep.Jj.mp r',q' H1 (Same.refl H1)⟩
 ·exact q'.elim
theorem Fa {op:SD}{g:T->T->Rs T}(ho:OpT X (Ls op) g)(ha:cP X a fa)(hb:cP X b fb)(hm:Ng op b=false:=by rfl):vD X (.Compare a [op] [b] pos) (tb (o2 g fa fb)):=by
 intro pins s σ H Q I ⟨Z,O,E,hq⟩
 have hq':Post X H (o2 g fa fb Z) λt H'=> ∀v,Rep X.K O H' t v->∃k,v= .bl k/\Q k H':=Post.mono hq.bind λt H' s' q v r=>by
  split at q
  ·exact⟨_,Rep.Jj.mp r,q H' (Same.refl H')⟩
  ·exact q.elim
 have h1:=bn E hq';refine PZ (cr (ha pins s σ H _ I h1) λv s1 ⟨x,H1,I1,r1,t,rt,s',E',q1⟩=> ?_) hm
 have h2:=bn (f:=fb) E' q1;refine cr (hb pins s1 σ H1 _ I1 h2) λu s2 hh_=> ?_
 obtain⟨y,H2,I2,r2,t2,rt2,s'',E'',q2⟩:=hh_;refine cr (ho pins s2 σ H2 O t t2 x y v u _ I2 (λp=>E''.fresh) (rt.same s'') rt2 r1 r2 q2) λd s3 hh_=> ?_
 obtain⟨z,H3,I3,r3,k,e,q3⟩:=hh_;subst e;cases r3;exact LJ ⟨H3,I3,q3⟩
def qm (f g:En->Rs Bool)(Z:En):Rs Bool:=do
 let k <-f Z
 if k then g Z else .ok false
def lR (f g:En->Rs Bool)(Z:En):Rs Bool:=do
 let k <-f Z
 if k then .ok true else g Z
def dX (f:En->Rs Bool)(Z:En):Rs Bool:=do
 let k <-f Z
 .ok (!k)
variable {f g:En->Rs Bool}{c8:List Expr}
abbrev Ep (X:Cx)(e:Expr)(f:En->Rs Bool):Prop:=PW X e (zu X f)
theorem Cn (ha:vD X a f):Ep X (.BoolOp .And [a] pos) f:=CH ha
theorem E6 (ha:vD X a f):Ep X (.BoolOp .Or [a] pos) f:=zW ha
theorem E7 (ha:vD X a f)(hb:Ep X (.BoolOp .And (b::c8) pos) g):Ep X (.BoolOp .And (a::b::c8) pos) (qm f g):=by
 intro wh pins s σ H Q I ⟨Z,O,E,hq⟩;refine Fw ha hb wh pins s σ H Q I ?_
 obtain⟨Z1,O1,E1,h1⟩:=kU E hq;refine⟨Z1,O1,E1,Post.mono h1 λk H1 s1 q=> ?_⟩
 obtain⟨s',E',q'⟩:=q
 cases k with
 | true=>rw[if_pos rfl];exact⟨Z,O,E',by simpa using q'⟩
 | false=>rw[if_neg KO];exact q' H1 (Same.refl H1)
theorem Hg (ha:vD X a f)(hb:Ep X (.BoolOp .Or (b::c8) pos) g):Ep X (.BoolOp .Or (a::b::c8) pos) (lR f g):=by
 intro wh pins s σ H Q I ⟨Z,O,E,hq⟩;refine D8 ha hb wh pins s σ H Q I ?_
 obtain⟨Z1,O1,E1,h1⟩:=kU E hq;refine⟨Z1,O1,E1,Post.mono h1 λk H1 s1 q=> ?_⟩
 obtain⟨s',E',q'⟩:=q
 cases k with
 | true=>rw[if_pos rfl];exact q' H1 (Same.refl H1)
 | false=>rw[if_neg KO];exact⟨Z,O,E',by simpa using q'⟩
theorem qt_w {e:Expr}(h:Ep X e f):vD X e f:=h.pt
theorem E9 (ha:vD X a f):vD X (.UnaryOp .Not a pos) (dX f):=by
 intro pins s σ H Q I ⟨Z,O,E,hq⟩;refine zZ ha pins s σ H Q I ?_
 obtain⟨Z1,O1,E1,h1⟩:=kU E hq;exact⟨Z1,O1,E1,Post.mono h1 λk H1 s1 ⟨s',E',q'⟩=>q' H1 (Same.refl H1)⟩
def bW (f g:En->Rs T)(Z:En):Rs T:=do
 let x <-f Z
 match x with
 | .bl true=>g Z
 | .bl false=> .ok (.bl false)
 | _=> .bad
def qI (f g:En->Rs T)(Z:En):Rs T:=do
 let x <-f Z
 match x with
 | .bl true=> .ok (.bl true)
 | .bl false=>g Z
 | _=> .bad
def sy:T->Rs T
 | .bl k=> .ok (.bl (!k))
 | _=> .bad
theorem Hq {op}(h:cP X a fa):cP X (.BoolOp op [a] pos) fa:=FC h
theorem HB (ha:cP X a fa)(hb:cP X (.BoolOp .And (b::c8) pos) fb):cP X (.BoolOp .And (a::b::c8) pos) (bW fa fb):=by
 intro pins s σ H Q I ⟨Z,O,E,hq⟩;refine FF ha hb pins s σ H Q I ?_
 obtain⟨Z1,O1,E1,h1⟩:=bn E hq;refine⟨Z1,O1,E1,Post.mono h1 λts H1 s1 q vs r=> ?_⟩
 obtain⟨t',r',s',E',q'⟩:=q vs r
 split at q'
 ·exact⟨true,Rep.Jj.mp r',by rw[if_pos rfl];exact⟨Z,O,E',q'⟩⟩
 ·exact⟨false,Rep.Jj.mp r',by rw[if_neg KO];exact q' H1 (Same.refl H1) _ (Rep.bl_ false)⟩
 ·exact q'.elim
theorem q_or (ha:cP X a fa)(hb:cP X (.BoolOp .Or (b::c8) pos) fb):cP X (.BoolOp .Or (a::b::c8) pos) (qI fa fb):=by
 intro pins s σ H Q I ⟨Z,O,E,hq⟩;refine HF ha hb pins s σ H Q I ?_
 obtain⟨Z1,O1,E1,h1⟩:=bn E hq;refine⟨Z1,O1,E1,Post.mono h1 λts H1 s1 q vs r=> ?_⟩
 obtain⟨t',r',s',E',q'⟩:=q vs r
 split at q'
 ·exact⟨true,Rep.Jj.mp r',by rw[if_pos rfl];exact q' H1 (Same.refl H1) _ (Rep.bl_ true)⟩
 ·exact⟨false,Rep.Jj.mp r',by rw[if_neg KO];exact⟨Z,O,E',q'⟩⟩
 ·exact q'.elim
theorem Hr (ha:cP X a fa):cP X (.UnaryOp .Not a pos) (o1 sy fa):=by
 intro pins s σ H Q I ⟨Z,O,E,hq⟩;refine FD ha pins s σ H Q I ?_
 obtain⟨Z1,O1,E1,h1⟩:=bn E hq;refine⟨Z1,O1,E1,Post.mono h1 λts H1 s1 q vs r=> ?_⟩
 obtain⟨t',r',s',E',q'⟩:=q vs r;unfold sy at q'
 split at q'
 ·exact⟨_,Rep.Jj.mp r',q' H1 (Same.refl H1) _ (Rep.bl_ _)⟩
 ·exact q'.elim
def sV (f:En->Rs Bool)(fa fb:En->Rs T)(Z:En):Rs T:=do
 let k <-f Z
 if k then fa Z else fb Z
theorem q_if (hc:vD X c f)(ha:cP X a fa)(hb:cP X b fb):cP X (.IfExp c a b pos) (sV f fa fb):=by
 intro pins s σ H Q I ⟨Z,O,E,hq⟩;refine Ah hc ha hb pins s σ H Q I ?_
 obtain⟨Z1,O1,E1,h1⟩:=kU E hq;refine⟨Z1,O1,E1,Post.mono h1 λk H1 s1 q=> ?_⟩
 obtain⟨s',E',q'⟩:=q
 cases k with
 | true=>rw[if_pos rfl];exact⟨Z,O,E',by simpa using q'⟩
 | false=>rw[if_neg KO];exact⟨Z,O,E',by simpa using q'⟩
end
end Tr
namespace HT
open PySem PyProof.Rows
section
variable {prog:KS}{w:LA}{A:La}{E:Kq->Kt->Prop}{s:Kt}
theorem kc {t:Addr}{items:Array Kq}{Q:Bool->Kt->Prop}(ht:SC s.heap t items)(h:Q true s):wpAny (model prog w) A (OI (.ref t)) Q E s:=by
 unfold OI;refine Kn (Of ht.typeIs (Kz ?_))
 exact h
theorem getItem_tuple_whole {t sl:Addr}{items:Array Kq}{vl vu:Kq}{lo hi:Option Int}{Q:Kq->Kt->Prop}(ht:SC s.heap t items)(hs:s.heap.IsSliceOf sl vl vu .none)(pl:QY vl lo)(pu:QY vu hi)
  (hw:sIx items.size 0 lo=0/\sIx items.size items.size hi=items.size) (h:Q (.ref t) s):wpAny (model prog w) A (getItem (.ref t) (.ref sl)) Q E s:=by
 obtain⟨os,hos,hcs,hds⟩:=id hs
 have hTs:s.TypeIs (.ref sl) "slice":=⟨os,hos,hcs⟩;unfold getItem
 try with_reducible refine NP ?_
 first | refine Kn (Kz ?_) | skip
 refine Kn (Rl ht.typeIs (by decide) ?_)
 refine Kn (LM (name:=KL "__getitem__") ht.typeIs Lp
  (Mq Lp ht.typeIs Qs ?_ (QZ _ _)))
 show wpAny _ _ (OH (.ref t) >>= _) _ _ s
 refine Kn (Q0 ht ?_)
 refine Kn (Of hTs ?_)
 rw[if_pos (by decide)]
 refine Kn (im hs pl pu ?_)
 have hyes:(((sIx items.size 0 lo:Nat):Int) == 0&&(1:Int) == 1&&(sIx items.size items.size hi - sIx items.size 0 lo) == items.size)=true:=by
  rw[hw.1,hw.2];simp
 show wpAny _ _ (if (((sIx items.size 0 lo:Nat):Int) == 0&&(1:Int) == 1&&(sIx items.size items.size hi - sIx items.size 0 lo) == items.size)=true then _ else _) _ _ s
 rw[if_pos hyes]
 first
  | refine Kn (kc ht ?_)
  | refine kc ht ?_
 try rw[if_pos rfl]
 first
  | exact Kn (NC (Kz ⟨_,rfl,Kz h⟩))
  | exact Kn (NC (Kn (Kz (Kz ⟨_,rfl,Kz h⟩))))
end
end HT
namespace Tr
open PySem PySem.Spec PyProof.Rows L2
section
variable {X:Cx}{a b c:Expr}{fa fb fc:En->Rs T}{pos:Pos}
theorem Reps.atI {K:Km}{O:Ow}{H:Hp}{l:List T}{vs:List V}{i:Int}{t:T}(r:Reps K O H l vs)(e:L2.atI l i=some t):∃v,L2.atI vs i=some v/\Rep K O H t v:=by
 unfold L2.atI at e ⊢;rw[r.length]at e
 cases q:ixN vs.length i with
 | none=>rw[q]at e;cases e
 | some j=>
  rw[q]at e;obtain⟨v,e1,e2⟩:=r.get (i:=j) (t:=t) e;exact⟨v,e1,e2⟩
def aW (x y:T):Rs T:=match x.items,y with
 | some l,.int i=>match L2.atI l i with
  | some t=> .ok t
  | none=> .bad
 | _,_=> .bad
theorem q_ix (ha:cP X a fa)(hb:cP X b fb)(hs:jV b:=by intro _ _;rfl):cP X (.Subscript a b pos) (o2 aW fa fb):=by
 intro pins s σ H Q I ⟨Z,O,E,hq⟩
 have h1:=bn E hq;refine Rm (cr (ha pins s σ H _ I h1) λv s1 hh_=> ?_)
 obtain⟨x,H1,I1,r1,t,rt,s',E',q1⟩:=hh_
 have h2:=bn (f:=fb) E' q1;refine cr (hb pins s1 σ H1 _ I1 h2) λu s2 hh_=> ?_
 obtain⟨y,H2,I2,r2,t2,rt2,s'',E'',q2⟩:=hh_
 have rt':=rt.same s'';unfold aW at q2
 split at q2
 ·rename_i l i hl
  split at q2
  ·rename_i z hz
   have hy:=Rep.Jf.mp rt2;refine Gh a b pins s2 σ H2 x y v u Q I2 r1 r2 ?_ (hs _ _)
   cases t with
   | tup m=>
    cases hl;obtain⟨p,vs,e,n,q,rr⟩:=Rep.Jg.mp rt';obtain⟨w,ew,rw'⟩:=rr.atI hz
    exact .inr (.inl ⟨p,vs,i,w,e,hy,SqT.of q,ew,q2 H2 (Same.refl H2) _ rw'⟩)
   | lst m=>
    cases hl;obtain⟨p,vs,e,n,q,rr⟩:=Rep.Jh.mp rt';obtain⟨w,ew,rw'⟩:=rr.atI hz
    exact .inl ⟨p,vs,i,w,e,hy,SqL.of q,ew,q2 H2 (Same.refl H2) _ rw'⟩
   | scr m=>
    cases hl;unfold Rep at rt';obtain⟨p,e,n,q⟩:=rt';obtain⟨w,ew,rw'⟩:=(Reps.ints (K:=X.K) (O:=O) (H:=H2) (ns:=m)).atI hz
    exact .inl ⟨p,_,i,w,e,hy,q,ew,q2 H2 (Same.refl H2) _ rw'⟩
   | _=>cases hl
  ·exact q2.elim
 ·exact q2.elim
def m9 (l:List T)(lo hi:Option Int):List T:=(l.drop (HT.sIx l.length 0 lo)).take (HT.sIx l.length l.length hi - HT.sIx l.length 0 lo)
theorem Reps.cut {K:Km}{O:Ow}{H:Hp}{l:List T}{vs:List V}(r:Reps K O H l vs)(lo hi:Option Int):Reps K O H (m9 l lo hi) (vq vs lo hi):=by
 unfold m9 vq;rw[r.length];exact(r.drop _).take _
theorem yS {l:List T}{lo hi:Option Int}(h:HT.sIx l.length 0 lo=0/\HT.sIx l.length l.length hi=l.length):m9 l lo hi=l:=by
 unfold m9;rw[h.1,h.2];simp
theorem sl_tup_whole:SlR X (λx lo hi H Q=> ∃a xs,x= .ref a/\SqT X.K H a xs/\(HT.sIx xs.length 0 lo=0/\HT.sIx xs.length xs.length hi=xs.length)/\Q (.ref a) H):=by
 intro pins s σ H x v vl vu lo hi sl Q I rx hs pl pu h;obtain⟨a,xs,rfl,hx,hw,q⟩:=h;cases rx;obtain⟨its,r,ht,hz⟩:=I.tuple hx
 have hlen:its.toArray.size=xs.length:=by rw[KH];exact r.length.symm
 refine⟨"tuple",_,Lp.lookup,ht.typeIs,?_⟩
 exact HT.getItem_tuple_whole ht hs pl pu (by rw[hlen];exact hw) ⟨.ref a,H,I,rfl,q⟩
def pN (_:En):Rs (Option Int):=.ok none
def pS (f:En->Rs T)(Z:En):Rs (Option Int):=do
 let x <-f Z
 match x with
 | .int i=> .ok (some i)
 | _=> .bad
def tPO (X:Cx)(f:En->Rs (Option Int)):TO:=λσ H Q=> ∃Z O,EnvO X.K O H Z σ/\Post X H (f Z) λb H'=>Q b H'
abbrev IJ (X:Cx)(e:Option Expr)(f:En->Rs (Option Int)):Prop:=PO X e (tPO X f)
theorem Cv:IJ X none pN:=by
 intro pins s σ H Q I ⟨Z,O,E,hq⟩;exact CM pins s σ H Q I (hq H (Same.refl H))
theorem Cu (ha:cP X a fa):IJ X (some a) (pS fa):=by
 intro pins s σ H Q I ⟨Z,O,E,hq⟩;refine CL ha pins s σ H Q I ?_
 obtain⟨Z1,O1,E1,h1⟩:=bn E hq;refine⟨Z1,O1,E1,Post.mono h1 λts H1 s1 q vs r=> ?_⟩
 obtain⟨t',r',s',E',q'⟩:=q vs r
 split at q'
 ·exact⟨_,Rep.Jf.mp r',q' H1 (Same.refl H1)⟩
 ·exact q'.elim
def slT (x:T)(lo hi:Option Int):Rs T:=match x with
 | .tup l=> .ok (.tup (m9 l lo hi))
 | .lst l=> .ok (.lst (m9 l lo hi))
 | _=> .bad
def sl (fe:En->Rs T)(fl fu:En->Rs (Option Int))(Z:En):Rs T:=do
 let x <-fe Z
 let l <-fl Z
 let u <-fu Z
 slT x l u
theorem tX {σ:L2.St}{H:Hp}{Z:En}{O:Ow}{α:Type}{f:En->Rs (Option Int)}{k:Option Int->Rs α}{Q:α->Hp->Prop}(E:EnvO X.K O H Z σ)(h:Post X H (f Z >>= k) Q) :
  tPO X f σ H λb H'=>Same H H'/\EnvO X.K O H' Z σ/\Post X H' (k b) Q:=
 ⟨Z,O,E,Post.mono h.bind λt H' s q=>⟨s,E.same s,q⟩⟩
theorem CD {lo hi:Option Expr}{p2:Pos}{fl fu:En->Rs (Option Int)}(ha:cP X a fa)(hl:IJ X lo fl)(hu:IJ X hi fu):cP X (.Subscript a (.Slice lo hi none p2) pos) (sl fa fl fu):=by
 intro pins s σ H Q I ⟨Z,O,E,hq⟩;refine Ae (sl_tup.or (sl_tup_whole.or Cc)) ha hl hu pins s σ H Q I ?_
 obtain⟨Z1,O1,E1,h1⟩:=bn E hq;refine⟨Z1,O1,E1,Post.mono h1 λts H1 s1 q vs r=> ?_⟩
 obtain⟨t',r',s',E',q'⟩:=q vs r;obtain⟨Z2,O2,E2,h2⟩:=tX E' q';refine⟨Z2,O2,E2,Post.mono h2 λo1 H2 s2 q=> ?_⟩
 obtain⟨s2',E2',q2⟩:=q;obtain⟨Z3,O3,E3,h3⟩:=tX E2' q2;refine⟨Z3,O3,E3,Post.mono h3 λo2 H3 s3 q=> ?_⟩
 obtain⟨s3',E3',q3⟩:=q
 have rt:=(r'.same s2').same s3';unfold slT at q3
 split at q3
 ·rename_i l
  obtain⟨p,ws,e,n,q,rr⟩:=Rep.Jg.mp rt
  have hlen:=rr.length
  by_cases hw:HT.sIx ws.length 0 o1=0/\HT.sIx ws.length ws.length o2=ws.length
  ·refine .inr (.inl ⟨p,ws,e,SqT.of q,hw,?_⟩)
   rw[<-hlen]at hw;refine q3 H3 (Same.refl H3) _ ?_
   rw[yS hw];exact Rep.Jg.mpr ⟨p,ws,rfl,n,q,rr⟩
  ·exact .inl ⟨p,ws,e,SqT.of q,hw,λp' hp=>q3 _ (aX hp _) _ (gB hp (E3'.fresh hp) (rr.cut o1 o2))⟩
 ·rename_i l
  obtain⟨p,ws,e,n,q,rr⟩:=Rep.Jh.mp rt;exact .inr (.inr ⟨p,ws,e,SqL.of q,λp' hp=>q3 _ (aX hp _) _ (jo hp (E3'.fresh hp) (rr.cut o1 o2))⟩)
 ·exact q3.elim
def CallT (X:Cx)(f:Kq)(g:List T->Rs T):Prop:=
 ∀(pins:List (Addr×Obj)) (s:Kt) (σ:L2.St) (H:Hp) (O:Ow) (ts:List T) (vs:List V) (us:List Kq) (Q:VK),Inv X pins σ H s->(∀p,H p=none->¬ O p)->Reps X.K O H ts vs->Vals vs us →
  Post X H (g ts) (λt H'=> ∀v,Rep X.K O H' t v->Q v H')->wpAny (model X.prog X.w) X.A (call f us) (EP X pins σ Q) X.xe s
theorem CallT.of {f:Kq}{r:List V->Hp->VK->Prop}(h:CallR X f r){g:List T->Rs T}
  (w:∀(H:Hp) (O:Ow) (ts:List T) (vs:List V) (Q:VK),(∀p,H p=none->¬ O p)->Reps X.K O H ts vs->Post X H (g ts) (λt H'=> ∀v,Rep X.K O H' t v->Q v H')->r vs H Q):CallT X f g:=
 λpins s σ H O ts vs us Q I hf rs rv hp=>h pins s σ H vs us Q I rv (w H O ts vs Q hf rs hp)
def cl (g:List T->Rs T)(fs:En->Rs (List T))(Z:En):Rs T:=fs Z >>= g
variable {e:Expr}{es:List Expr}{fs:En->Rs (List T)}{x:Str}{p:Pos}{id:String}{g:List T->Rs T}
theorem CG (hc:CallT X (.builtin id) g)(hm:X.mg x=none)(hv:K9 x=some (.builtin id))(ha:qr X (e::es) fs)(hg:Gl X x:=by rfl)(hn:x≠ "__name__":=by decide)(hdb:gm x:=by decide)
  (he:KG (e::es) X.env=(false,eval e X.env)::KG es X.env:=by rfl) (hpl:(backTo pos (KG es X.env)).any (·.1)=false:=by rfl):cP X (.Call (.Name x p) (e::es) [] pos) (cl g fs):=by
 intro pins s σ H Q I ⟨Z,O,E,hq⟩;refine Lr (fX I hg hm hv ?_ hn hdb)
 have h1:=fN E hq;exact Mj (cr (ha pos pins s σ H _ I h1) λus s1 ⟨vs,H1,I1,r1,ts,rs,s',E',q1⟩=>hc pins s1 σ H1 O ts vs us Q I1 (λp=>E'.fresh) rs r1 q1) he hpl
theorem zV {Ty:String}(hc:CallT X (.type Ty) g)(hm:X.mg x=none)(hv:K9 x=some (.type Ty))(ha:qr X (e::es) fs)(hg:Gl X x:=by rfl)(hn:x≠ "__name__":=by decide)(hdb:gm x:=by decide)
  (he:KG (e::es) X.env=(false,eval e X.env)::KG es X.env:=by rfl) (hpl:(backTo pos (KG es X.env)).any (·.1)=false:=by rfl):cP X (.Call (.Name x p) (e::es) [] pos) (cl g fs):=by
 intro pins s σ H Q I ⟨Z,O,E,hq⟩;refine Lr (fX I hg hm hv ?_ hn hdb)
 have h1:=fN E hq;exact Lq (cr (ha pos pins s σ H _ I h1) λus s1 ⟨vs,H1,I1,r1,ts,rs,s',E',q1⟩=>hc pins s1 σ H1 O ts vs us Q I1 (λp=>E'.fresh) rs r1 q1) he hpl
theorem Reps.one {K:Km}{O:Ow}{H:Hp}{t:T}{vs:List V}(r:Reps K O H [t] vs):∃v,vs= [v]/\Rep K O H t v:=by
 obtain⟨v,ws,rfl,p,q⟩:=Reps.me.mp r;cases Reps.Je.mp q;exact⟨v,rfl,p⟩
theorem Rep.sq {K:Km}{O:Ow}{H:Hp}{t:T}{v:V}{l:List T}(r:Rep K O H t v)(h:t.items=some l):∃a vs,v= .ref a/\¬ O a/\Reps K O H l vs/\(SqL K H a vs\/SqT K H a vs):=by
 cases t with
 | tup m=>cases h;obtain⟨a,vs,e,n,q,z⟩:=Rep.Jg.mp r;exact⟨a,vs,e,n,z,.inr (SqT.of q)⟩
 | lst m=>cases h;obtain⟨a,vs,e,n,q,z⟩:=Rep.Jh.mp r;exact⟨a,vs,e,n,z,.inl (SqL.of q)⟩
 | scr m=>cases h;unfold Rep at r;obtain⟨a,e,n,q⟩:=r;exact⟨a,_,e,n,Reps.ints,.inl q⟩
 | _=>cases h
def cx:List T->Rs T
 | [.str x] =>if x.length<=sizeLine then .ok (.int x.length)else .bad
 | [x] =>match x.items with
  | some l=> .ok (.int l.length)
  | none=> .bad
 | _=> .bad
theorem df:CallT X (.builtin "len") cx:=CallT.of (call_len_seq.or tz) λH O ts vs Q hf rs hp=>by
 unfold cx at hp
 split at hp
 ·obtain⟨v,rfl,r⟩:=rs.one
  split at hp
  ·rename_i h
   exact .inr ⟨_,by rw[Rep.Jl.mp r],h,hp H (Same.refl H) _ (Rep.Jo _)⟩
  ·exact hp.elim
 ·obtain⟨v,rfl,r⟩:=rs.one
  split at hp
  ·rename_i l hl
   obtain⟨a,vs,rfl,n,z,q⟩:=r.sq hl;exact .inl ⟨a,vs,rfl,q,hp H (Same.refl H) _ (by rw[<-z.length];exact Rep.Jo _)⟩
  ·exact hp.elim
 ·exact hp.elim
def fU:List T->Rs T
 | [.tup l] => .ok (.tup l)
 | [.lst l] => .ok (.tup l)
 | _=> .bad
theorem jB:CallT X (.type "tuple") fU:=CallT.of ql λH O ts vs Q hf rs hp=>by
 unfold fU at hp
 split at hp
 ·obtain⟨v,rfl,r⟩:=rs.one
  obtain⟨a,ws,rfl,n,q,z⟩:=Rep.Jg.mp r;exact⟨a,ws,rfl,.inr ⟨SqT.of q,hp H (Same.refl H) _ (Rep.Jg.mpr ⟨a,ws,rfl,n,q,z⟩)⟩⟩
 ·obtain⟨v,rfl,r⟩:=rs.one
  obtain⟨a,ws,rfl,n,q,z⟩:=Rep.Jh.mp r;exact⟨a,ws,rfl,.inl ⟨SqL.of q,λl hl=>hp _ (aX hl _) _ (gB hl (hf l hl) z)⟩⟩
 ·exact hp.elim
def A3:List T->Rs T
 | [.int i] => .ok (.int i)
 | [.bl k] => .ok (.int (if k then 1 else 0))
 | _=> .bad
theorem GF:CallT X (.type "int") A3:=CallT.of yV λH O ts vs Q hf rs hp=>by
 unfold A3 at hp
 split at hp
 ·obtain⟨v,rfl,r⟩:=rs.one
  exact .inl ⟨_,by rw[Rep.Jf.mp r],hp H (Same.refl H) _ (Rep.Jo _)⟩
 ·obtain⟨v,rfl,r⟩:=rs.one
  exact .inr ⟨_,by rw[Rep.Jj.mp r],hp H (Same.refl H) _ (Rep.Jo _)⟩
 ·exact hp.elim
def ph:List T->Option (List Bool)
 | [] =>some []
 | .bl k::r=>(ph r).map (k:: ·)
 | _=>none
def qo:List T->Rs T
 | [.lst l] =>match ph l with
  | some ks=> .ok (.bl (ks.all λk=>k))
  | none=> .bad
 | _=> .bad
theorem pf {K:Km}{O:Ow}{H:Hp}:∀{l:List T} {ks:List Bool} {vs:List V} {us:List Kq},ph l=some ks->Reps K O H l vs->Vals vs us->us=ks.map Lo
 | [],ks,vs,us,e,r,v=>by cases e;cases Reps.Je.mp r;cases v;rfl
 | t::l,ks,vs,us,e,r,v=>by
  obtain⟨w,ws,rfl,p,q⟩:=Reps.me.mp r
  cases t with
  | bl k=>
   unfold ph at e
   cases z:ph l with
   | none=>rw[z]at e;cases e
   | some ks'=>
    rw[z]at e;cases e
    cases v with
    | cons v1 v2=>
     cases Rep.Jj.mp p;cases v1
     rw[pf z q v2];rfl
  | _=>cases e
theorem tu (hc:X.calm=true):CallT X (.builtin "all") qo:=by
 intro pins s σ H O ts vs us Q I hf rs rv hp;unfold qo at hp
 split at hp
 ·obtain⟨v,rfl,r⟩:=rs.one
  split at hp
  ·rename_i ks hk
   obtain⟨a,ws,rfl,n,q,z⟩:=Rep.Jh.mp r;obtain⟨u,rfl,ru⟩:=kS rv;cases ru;obtain⟨its,r',pl,hz⟩:=I.list (SqL.of q)
   have hits:=pf hk z r';refine call_all_walk (N1 pl.isList ?_)
   have hne:a≠s.heap.objs.size:=λe=>by
    obtain⟨o,ho,_⟩:=pl.isList;rw[e]at ho;exact absurd (KF ho) (KZ _)
   refine⟨s.heap.objs.size,_,_,_,_,_,λi=>(ks[i]?).getD true,rfl,Walks.list (A:=X.A.in1) (I.ok.hd hc) s.heap.objs.size a hne its.toArray,⟨⟨_,KI _ rfl,rfl,rfl⟩,?_⟩,?_,?_⟩
   ·obtain⟨o,ho,hh⟩:=pl.isList
    exact⟨o,Kv _ ho,hh⟩
   ·intro i v s' Q' E' hP hQ'
    subst hits
    dsimp only at hQ'
    have hP':(ks.map Lo)[i]? =some v:=by simpa using hP
    rw[KP]at hP'
    cases e:ks[i]? with
    | none=>rw[e]at hP';cases hP'
    | some k=>
     rw[e]at hP' hQ';cases hP';exact LJ hQ'
   ·intro h' tk hk'
    have hlen:its.toArray.size=ks.length:=by rw[hits];simp
    have e:((Lu its.toArray.size).all λi=>(ks[i]?).getD true)=(ks.all λk=>k):=by
     rw[hlen];rw[NG,KY,KY]
     constructor
     ·intro h x hx
      obtain⟨i,hi,rfl⟩:=MV hx
      have:=h i (LW.mpr hi)
      simpa [hi]using this
     ·intro h i hi
      have hi':=LW.mp hi
      have:=h ks[i] (L4 hi')
      simpa [hi']using this
    rw[e]
    have I1:Inv X pins σ H { s with heap:=s.heap.push { cls:=.type "list_iterator",data:=.fields #[.ref a,.int 0 0] } }:=I.kept (t':=s.toks) λb o e=>Kv _ e
    have I2:Inv X pins σ H { s with heap:=h',toks:=tk }:=by
     have:=I1.turned (h':=h') (t':=tk) (it:=s.heap.objs.size) (λb o hb e=>hk' b o (by simpa using hb) e) (I.hok.fresh (KB _))
      (MS I.lt) (.inr I.sz) (λx c e z=> ?_) (λp hp z=> ?_)
     ·exact this
     ·obtain⟨v,q⟩:=I.cell x c e
      exact absurd (KA q.lt (NA z.symm)) (KZ _)
     ·exact absurd (KA (KF (I.pin p hp).1) (NA z.symm)) (KZ _)
    exact⟨.bl _,H,I2,rfl,hp H (Same.refl H) _ (Rep.bl_ _)⟩
  ·exact hp.elim
 ·exact hp.elim
end
def T.ty:T->Option String
 | .non=>some "NoneType"
 | .bl _=>some "bool"
 | .int _=>some "int"
 | .str _=>some "str"
 | .tup _=>some "tuple"
 | .lst _=>some "list"
 | .scr _=>none
 | .dct _ _=>none
def five (i b t l s:Bool)(Ty:String):Option Bool:=match Ty with
 | "int" =>some i | "bool" =>some b | "tuple" =>some t | "list" =>some l | "str" =>some s
 | _=>none
def xI (n Ty:String):Option Bool:=match n with
 | "NoneType" =>five false false false false false Ty
 | "bool" =>five true true false false false Ty
 | "int" =>five true false false false false Ty
 | "str" =>five false false false false true Ty
 | "tuple" =>five false false true false false Ty
 | "list" =>five false false false true false Ty
 | _=>none
theorem yH (K:Km){n Ty:String}{b:Bool}(h:xI n Ty=some b):PySem.W.kitOne K (.type n) (.type Ty)=some b:=by
 unfold xI at h
 split at h <;> first | (cases h;done) | (unfold five at h;split at h <;> first | (cases h;done) | (cases h;kernel_rfl))
def De (Ty:String)(t:T):Rs T:=match t.ty with
 | some n=>match xI n Ty with
  | some b=> .ok (.bl b)
  | none=> .bad
 | none=> .bad
theorem Rep.Kl {K:Km}{O:Ow}{H:Hp}{t:T}{v:V}{n:String}(r:Rep K O H t v)(h:t.ty=some n):mn K H v (.type n):=by
 cases t with
 | non=>cases h;cases Rep.Jq.mp r;exact .non
 | bl b=>cases h;cases Rep.Jj.mp r;exact .bl b
 | int b=>cases h;cases Rep.Jf.mp r;exact .int b
 | str b=>cases h;cases Rep.Jl.mp r;exact .str b
 | tup l=>cases h;obtain⟨a,vs,rfl,_,q,_⟩:=Rep.Jg.mp r;exact .tup q
 | lst l=>cases h;obtain⟨a,vs,rfl,_,q,_⟩:=Rep.Jh.mp r;exact .lst q
 | scr l=>cases h
 | dct _ _=>cases h
section
variable {X:Cx}{a b c e:Expr}{es:List Expr}{fa fb fc:En->Rs T}{fs:En->Rs (List T)}{pos p p2:Pos}{x:Str}
theorem f8:K9 "isinstance" =some (.builtin "isinstance"):=by decide+kernel
theorem Hv {tn:Str}{Ty:String}(hm:X.mg "isinstance" =none)(hmt:X.mg tn=none)(hv:K9 tn=some (.type Ty))(ha:cP X a fa)(hg:Gl X "isinstance":=by rfl)(hgt:Gl X tn:=by rfl)
  (hn:tn≠ "__name__":=by decide) (hd:gm tn:=by decide)
  (he:KG [a,.Name tn p2] X.env=(false,eval a X.env)::KG [.Name tn p2] X.env:=by rfl) (hpl:(backTo pos (KG [.Name tn p2] X.env)).any (·.1)=false:=by rfl)
  (hs:KG [.Name tn p2] X.env=(false,eval (.Name tn p2) X.env)::KG [] X.env:=by rfl) :
  cP X (.Call (.Name "isinstance" p) [a,.Name tn p2] [] pos) (o1 (De Ty) fa):=by
 intro pins s σ H Q I ⟨Z,O,E,hq⟩;refine Lr (fX I hg hm f8 ?_ (by decide) (by decide))
 have hA:PA X [a,.Name tn p2] (gO (tP X fa) (gO (tC (.ty Ty)) rB)):=bp ha (bp (w6 (v:=.ty Ty) hgt hmt hv rfl hn hd) dF hs) he;obtain⟨Z1,O1,E1,h1⟩:=bn E hq;refine Mj (cr (hA pos pins s σ H (λvs H'=> ∃v t,vs= [v,.ty Ty]/\Rep X.K O H' t v/\Post X H' (De Ty t) (λt H'=> ∀v,Rep X.K O H' t v->Q v H')) I ?_) λus s1 ⟨vs,H1,I1,r1,v,t,e1,rt,q⟩=> ?_) he hpl
 ·refine⟨Z1,O1,E1,Post.mono h1 λts H1 s1 q vs r=> ?_⟩
  obtain⟨t',r',s',E',q'⟩:=q vs r;exact⟨vs,t',rfl,r',q'⟩
 ·subst e1
  obtain⟨u,w',rfl,ru,rw'⟩:=zl r1;cases rw';unfold De at q
  split at q
  ·rename_i n hn'
   split at q
   ·rename_i bb hb
    exact yG I1 ru (rt.Kl hn') (yH _ hb) λtk=>⟨.bl bb,H1,I1.tok _,rfl,q H1 (Same.refl H1) _ (Rep.bl_ _)⟩
   ·exact q.elim
  ·exact q.elim
def spP (K:Km)(n:Nat)(g:List T->Rs T):Sp:=λvs H Q _=> ∃ts O,Reps K O H ts vs/\(∀a,O a->Mtb H a)/\ts.length=n ∧
 match g ts with
 | .ok t=> ∀v H',Same H H'->Rep K O H' t v->Q v H'
 | _=>False
def RzC (P:KS)(w:LA)(mg:Str->Option Kq)(outer:List Env)(H:Hp)(s:Kt)(c:Str)(ev:Kq)(s':Kt):Prop:=
 ∃e T C H',ev= .ref e/\mg c=some (.ref C)/\s'.os=s.os/\Pj s'.gens/\Un (o0 outer) [] H H' s.heap s'.heap/\HOk P w H' s'.heap/\Same H H'/\H' e=none/\s.heap.get? e=none/\IL s'.heap C e (some T)/\H' T=none/\s.heap.get? T=none
def FnX (P:KS)(w:LA)(K:Km)(mg:Str->Option Kq)(base:Heap)(k:Nat)(f:Addr)(fd:LL)(ps:List Str)(n:Nat)(g:List T->Rs T):Prop:=
 ∀(A:La) (outer:List Env) (s:Kt) (H:Hp) (args:Args) (us:List Kq) (vs:List V) (O:Ow) (ts:List T) (c:Str) (R:SA->Kt->Prop),Room k A->vC P w K mg base A outer s H->Qr s fd args (ps.zip us)->Vals vs us →
  Reps K O H ts vs->(∀a,O a->Mtb H a)->ts.length=n->g ts= .err c->(∀ev s',RzC P w mg outer H s c ev s'->R (.error ev) s')->codeAny (model P w) A (.call (.ref f) args) R s
structure zi (P:KS)(w:LA)(K:Km)(mg:Str->Option Kq)(base:Heap)(k:Nat)(f:Addr)(fd:LL)(ps:List Str)(n:Nat)(g:List T->Rs T):Prop where
 h:qt P w K mg base CX0 k f fd ps (spP K n g)
 x:FnX P w K mg base k f fd ps n g
theorem As {P:KS}{w:LA}{H:Hp}{h:Heap}{a:Addr}{o:HO}(x:ObjOk P w H h a o):∃u,h.get? a=some u:=by
 cases o with
 | lst xs=>obtain⟨_,_,_,_,e⟩:=x;exact⟨_,e⟩
 | tup xs=>obtain⟨_,_,_,ob,e,_⟩:=x;exact⟨_,e⟩
 | dK kvs=>obtain⟨_,_,_,_,o,_,_,e,_⟩:=x;exact⟨_,e⟩
 | dT kvs=>obtain⟨_,_,_,_,o,_,_,e,_⟩:=x;exact⟨_,e⟩
 | set S n=>obtain⟨o,_,_,_,e,_⟩:=x;exact⟨_,e⟩
 | ins C dx fs=>obtain⟨_,_,_,e,_⟩:=x;exact⟨_,e⟩
 | own y=>obtain⟨_,e⟩:=x;exact⟨_,e⟩
 | xd fs=>obtain⟨_,⟨_,_,_,e,_⟩,_⟩:=x;exact⟨_,e⟩
 | rng lo hi=>obtain⟨_,_,_,e⟩:=x;exact⟨_,e⟩
 | frz ob u=>obtain⟨e,_⟩:=x;exact⟨_,e⟩
 | tbl ps=>exact⟨_,(show h.get? a=some _ from x)⟩
 | met f y=>exact⟨_,(show h.get? a=some _ from x)⟩
 | ext φ=>obtain⟨_,⟨_,e⟩,_⟩:=x;exact⟨_,e⟩
theorem oH {X:Cx}{pins:List (Addr×Obj)}{σ:L2.St}{H:Hp}{s:Kt}(I:Inv X pins σ H s){e:Addr}(n:s.heap.get? e=none):H e=none:=by
 cases z:H e with
 | none=>rfl
 | some o=>
  obtain⟨o',ho'⟩:=As (I.hok e o z);rw[n]at ho';cases ho'
theorem kH {X:Cx}{pins:List (Addr×Obj)}{σ:L2.St}{H:Hp}{s:Kt}(I:Inv X pins σ H s)(hex:X.ex= []){e:Addr}(n:s.heap.get? e=none):X.s₀.heap.get? e=none:=by
 cases z:X.s₀.heap.get? e with
 | none=>rfl
 | some o=>
  obtain⟨o',ho'⟩:=I.base.there e o z (by rw[hex];simp)
  rw[n]at ho';cases ho'
theorem Fv {n k:Nat}{f:Addr}{fd:LL}{ps:List Str}{g:List T->Rs T}(F:zi X.prog X.w X.K X.mg X.base k f fd ps n g)(hr:Room k X.A)(hm:X.mg x=some (.ref f))(hk:Me X.K (.ref f)=true)(hb:Binds X.K fd ps [])(hps:ps.length=n)
  (hl:∀Z ts,fs Z= .ok ts->ts.length=n) (ha:qr X (e::es) fs) (hg:Gl X x:=by rfl) (hdb:gm x:=by decide) (he:KG (e::es) X.env=(false,eval e X.env)::KG es X.env:=by rfl) (hpl:(backTo pos (KG es X.env)).any (·.1)=false:=by rfl) :
  cP X (.Call (.Name x p) (e::es) [] pos) (cl g fs):=by
 intro pins s σ H Q I ⟨Z,O,E,hq⟩
 have hq':Post X H (fs Z >>= g) λt H'=> ∀v,Rep X.K O H' t v->Q v H':=hq
 cases q:fs Z with
 | bad=>rw[q]at hq';exact hq'.elim
 | err c=>
  rw[q]at hq';refine w4 (E:=E0) F.h hr hg hm hk hb .nil w8 ha hdb he hpl pins s σ H Q I ⟨Z,O,E,?_⟩
  rw[q]
  exact hq'
 | ok ts=>
  rw[q]at hq'
  have hq2:Post X H (g ts) λt H'=> ∀v,Rep X.K O H' t v->Q v H':=hq'
  cases q2:g ts with
  | bad=>rw[q2]at hq2;exact hq2.elim
  | ok t=>
   rw[q2]at hq2;refine w4 (E:=E0) F.h hr hg hm hk hb .nil w8 ha hdb he hpl pins s σ H Q I ⟨Z,O,E,?_⟩
   rw[q];intro H1 s1 vs rs;rw[Lc];refine⟨ts,O,rs,(E.same s1).mtb,hl Z ts q,?_⟩
   rw[q2]
   exact λv H' s2 r=>hq2 H' (s1.trans s2) v r
  | err c=>
   rw[q2]at hq2;refine Lr (iG I hg hm ?_ hdb)
   refine ND (h₀:=X.base) I.ok.mod.kin hk (cr (ha pos pins s σ H (λvs H'=>Same H H'/\Reps X.K O H' ts vs) I ⟨Z,O,E,?_⟩) (λus s1 ⟨vs,H1,I1,r,sm,rs⟩=>⟨I1.kIn,?_⟩)) he hpl
   ·rw[q];exact λH' sm vs rs=>⟨sm,rs⟩
   ·have hlen:us.length=ps.length:=by rw[<-r.length,<-rs.length,hl Z ts q,hps]
    have hb':=hb s1 us I1.kIn (by rw[Lc];exact hlen)
    rw[Lc]at hb';refine Rj (Od (F.x X.A X.stack s1 H1 ⟨us,[]⟩ us vs O ts c (λr s'=>match r with | .error ev=>X.xe ev s' | _=>False) hr I1.JQ hb' r rs (E.same sm).mtb (hl Z ts q) q2 λev s' w=> ?_) λr s' hq=> ?_)
    ·obtain⟨ea,T,C,H',rfl,hmc,ho,hbare,hun,hok,sm2,hea,heo,fl,hT,hTo⟩:=w
     have I2:Inv X pins σ H' s':=I1.JN ho hun hok hbare (λb z=>absurd z (by simp))
     exact hq2 pins _ _ ⟨ea,some T,C,σ,H',rfl,hmc,I2,λb o q _=>sm2 b o (sm b o q),hea,λhex=>kH I1 hex heo,fl,(λt zt=>by cases zt;exact⟨hT,λhex=>kH I1 hex hTo⟩),λpp hpp=>⟨λzz=>(by have:=(I1.pin pp hpp).1;rw[zz,heo]at this;cases this),λzz=>(by cases zz;have:=(I1.pin pp hpp).1;rw[hTo]at this;cases this)⟩⟩
    ·cases r with
     | error ev=>exact hq
     | ok fl=>exact hq.elim
def zv (X:Cx)(g:T->En->Rs En):TG:=λv σ H Q=> ∃Z O M t,EnvM X.K O M H Z σ/\Rep X.K O H t v/\match g t Z with
 | .ok Z'=> ∀σ',EnvM X.K O M H Z' σ'->Q σ' H
 | _=>False
abbrev BS (X:Cx)(tg:Expr)(g:T->En->Rs En):Prop:=PG X tg (zv X g)
def tPGs (X:Cx)(g:List T->En->Rs En):DE:=λvs σ H Q=> ∃Z O M ts,EnvM X.K O M H Z σ/\Reps X.K O H ts vs/\match g ts Z with
 | .ok Z'=> ∀σ',EnvM X.K O M H Z' σ'->Q σ' H
 | _=>False
abbrev BO (X:Cx)(tg:List Expr)(g:List T->En->Rs En):Prop:=PGs X tg (tPGs X g)
theorem PG.imp {X:Cx}{e:Expr}{t t':TG}(h:PG X e t)(w:∀v σ H Q,t' v σ H Q->t v σ H Q):PG X e t':=λpins s σ H v u Q I r q=>h pins s σ H v u Q I r (w v σ H Q q)
theorem PGs.imp {X:Cx}{e:List Expr}{t t':DE}(h:PGs X e t)(w:∀v σ H Q,t' v σ H Q->t v σ H Q):PGs X e t':=λpins s σ H v u Q I r q=>h pins s σ H v u Q I r (w v σ H Q q)
def gN (i:Nat)(t:T)(Z:En):Rs En:=if i<Z.length then .ok (Z.set i (.va t))else .bad
theorem EnvM.set {K:Km}{O:Ow}{M:Mn}{H:Hp}{Z:En}{σ:L2.St}{i:Nat}{t:T}{v:V}(E:EnvM K O M H Z σ)(hi:i<Z.length)(r:Rep K O H t v):EnvM K O M H (Z.set i (.va t)) (σ.set i (some v)) where
 len:=by rw[LS,LS];exact E.len
 val:=λj u e=>by
  by_cases hj:i=j
  ·subst hj
   rw[KW hi]at e
   cases e;exact⟨v,KW (by rw[<-E.len];exact hi),r⟩
  ·rw[K1 hj]at e
   obtain⟨w,e1,e2⟩:=E.val j u e;exact⟨w,by rw[K1 hj];exact e1,e2⟩
 own:=λj o e=>by
  by_cases hj:i=j
  ·subst hj
   rw[KW hi]at e
   cases e
  ·rw[K1 hj]at e
   obtain⟨w,e1,e2⟩:=E.own j o e;exact⟨w,by rw[K1 hj];exact e1,e2⟩
 sub:=E.sub
 dis:=E.dis
 trk:=E.trk
theorem CB (i:Nat)(hN:X.N.Nodup)(hi:X.N[i]? =some x:=by rfl)(hx:Loc X.env.scope x:=by first | exact LN rfl | exact Lz rfl)(hf:X.fn x=true\/X.env.scope.names.lookup x=some .local:=by first | exact .inl rfl | exact .inr rfl | assumption):BS X (.Name x pos) (gN i):=
 PG.imp (CS hN hi hx hf) λv σ H Q hh_=>by
  obtain⟨Z,O,M,t,E,r,h⟩:=hh_;unfold gN at h
  split at h
  ·rename_i Z' e
   split at e
   ·rename_i hl
    cases e;exact h _ (E.set hl r)
   ·cases e
  ·exact h.elim
def kQ (ts:List T)(Z:En):Rs En:=match ts with
 | [] => .ok Z
 | _=> .bad
def dY (g:T->En->Rs En)(gs:List T->En->Rs En)(ts:List T)(Z:En):Rs En:=match ts with
 | t::r=>do
  let Z1 <-g t Z
  gs r Z1
 | [] => .bad
theorem CA:BO X [] kQ:=PGs.imp CQ λvs σ H Q hh_=>by
 obtain⟨Z,O,M,ts,E,r,h⟩:=hh_;unfold kQ at h
 cases ts with
 | nil=>exact⟨Reps.Je.mp r,h σ E⟩
 | cons _ _=>exact h.elim
theorem zT {g:T->En->Rs En}{gs:List T->En->Rs En}(h1:BS X e g)(h2:BO X es gs)
  (hs:(Mc (e::es) X.env).map (·.2)=assign e X.env::(Mc es X.env).map (·.2):=by rfl):BO X (e::es) (dY g gs):=
 PGs.imp (Ac h1 h2 hs) λvs σ H Q hh_=>by
  obtain⟨Z,O,M,ts,E,r,h⟩:=hh_
  cases ts with
  | nil=>exact h.elim
  | cons t ts=>
   obtain⟨v,ws,rfl,p,q⟩:=Reps.me.mp r;refine⟨v,ws,rfl,Z,O,M,t,E,p,?_⟩
   unfold dY at h
   cases e1:g t Z with
   | bad=>simp[e1]at h
   | err c=>simp[e1]at h
   | ok Z1=>
    intro σ1 E1;refine⟨Z1,O,M,ts,E1,q,?_⟩
    simp only[e1,aE]at h
    cases e2:gs ts Z1 with
    | bad=>simp[e2]at h
    | err c=>simp[e2]at h
    | ok Z2=>
     simp only[e2]at h;exact λσ2 E2=>h σ2 E2
def gT (n:Nat)(gs:List T->En->Rs En)(t:T)(Z:En):Rs En:=match t with
 | .tup l=>if l.length=n then gs l Z else .bad
 | _=> .bad
theorem Fr {k n:Nat}{gs:List T->En->Rs En}(hc:X.calm=true)(h:BO X es gs)(hn:(Mc es X.env).length=n:=by rfl)(hst:(Mc es X.env).findIdx? (·.1)=none:=by rfl):BS X (.Tuple es k pos) (gT n gs):=
 PG.imp (FA hc h hn hst) λv σ H Q hh_=>by
  obtain⟨Z,O,M,t,E,r,h⟩:=hh_;unfold gT at h
  cases t with
  | tup l=>
   obtain⟨a,vs,rfl,n',q,z⟩:=Rep.Jg.mp r
   by_cases hl:l.length=n
   ·simp only[if_pos hl]at h
    exact⟨a,vs,rfl,SqT.of q,by rw[<-z.length];exact hl,Z,O,M,l,E,z,h⟩
   ·simp only[if_neg hl]at h
  | _=>exact h.elim
theorem SqL.nn {K:Km}{H:Hp}{a:Addr}{vs:List V}(q:SqL K H a vs):¬ Nw K H a:=λ⟨h1,h2⟩=>by
 rcases q with(q | ⟨o,q⟩) | ⟨o,_,_,q,_⟩
 ·rw[h1]at q;cases q
 ·rw[h1]at q;cases q
 ·rw[h2]at q;cases q
mutual
theorem Rep.more {K:Km}{O O':Ow}{H:Hp}(sub:∀a,O' a->O a\/Nw K H a):∀{t:T} {v:V},Rep K O H t v->Rep K O' H t v
 | .non,_,r=>by unfold Rep at r ⊢;exact r
 | .bl _,_,r=>by unfold Rep at r ⊢;exact r
 | .int _,_,r=>by unfold Rep at r ⊢;exact r
 | .str _,_,r=>by unfold Rep at r ⊢;exact r
 | .tup l,_,r=>by
  unfold Rep at r ⊢;obtain⟨a,vs,e,n,q,z⟩:=r
  exact⟨a,vs,e,λp=>(sub a p).elim n λw=>(by rw[w.1]at q;cases q),q,Reps.more sub z⟩
 | .lst l,_,r=>by
  unfold Rep at r ⊢;obtain⟨a,vs,e,n,q,z⟩:=r
  exact⟨a,vs,e,λp=>(sub a p).elim n λw=>(by rw[w.1]at q;cases q),q,Reps.more sub z⟩
 | .scr l,_,r=>by
  unfold Rep at r ⊢;obtain⟨a,e,n,q⟩:=r
  exact⟨a,e,λp=>(sub a p).elim n λw=>Tr.SqL.nn q w,q⟩
 | .dct ks ts,_,r=>by
  unfold Rep at r ⊢;obtain⟨a,kvs,e,n,q,k,z⟩:=r;exact⟨a,kvs,e,λp=>(sub a p).elim n λw=>(by rcases q with q | ⟨_,q⟩ <;> rw[w.1]at q <;> cases q),q,k,Reps.more sub z⟩
theorem Reps.more {K:Km}{O O':Ow}{H:Hp}(sub:∀a,O' a->O a\/Nw K H a):∀{l:List T} {vs:List V},Reps K O H l vs->Reps K O' H l vs
 | [],_,r=>by unfold Reps at r ⊢;exact r
 | t::l,_,r=>by
  unfold Reps at r ⊢;obtain⟨v,ws,e,p,q⟩:=r;exact⟨v,ws,e,Rep.more sub p,Reps.more sub q⟩
end
theorem Rep.move {K:Km}{O O' P:Ow}{H H':Hp}{t:T}{v:V}(hP:∀a,P a->O a\/Nw K H a)(hO:∀a,O' a->O a\/Nw K H a)(h:SameO P H H')(r:Rep K O H t v):Rep K O' H' t v:=
 Rep.less (O:=λa=>O' a\/P a) (λ_ z=> .inl z) (Rep.keep h (λ_ z=> .inr z) (Rep.more (λa z=>z.elim (hO a) (hP a)) r))
theorem Reps.move {K:Km}{O O' P:Ow}{H H':Hp}{t:List T}{v:List V}(hP:∀a,P a->O a\/Nw K H a)(hO:∀a,O' a->O a\/Nw K H a)(h:SameO P H H')(r:Reps K O H t v):Reps K O' H' t v:=
 Reps.less (O:=λa=>O' a\/P a) (λ_ z=> .inl z) (Reps.keep h (λ_ z=> .inr z) (Reps.more (λa z=>z.elim (hO a) (hP a)) r))
def Jd (K:Km)(O:Ow)(H:Hp)(ts:List T)(J:It):Prop:=∀(P O':Ow),(∀a,P a->O a\/Nw K H a)->(∀a,O' a->O a\/Nw K H a)->∀(i:Nat) (Hc:Hp),SameO P H Hc->(∀a,O' a->∃o,Hc a=some o) →
 (ts.length<=i->J.stop i Hc)/\(∀t,ts[i]? =some t->J.go i Hc/\∀x Hc',J.yld i Hc x Hc'->Same Hc Hc'/\Rep K O' Hc' t x)
def IR (X:Cx)(f:En->Rs (List T)):TI:=λσ H R=> ∃Z O,EnvO X.K O H Z σ/\Post X H (f Z) λts H'=> ∀J,Jd X.K O H' ts J->R J H'
abbrev yY (X:Cx)(tg iter:Expr)(f:En->Rs (List T)):Prop:=PI X tg iter (IR X f)
theorem PI.imp {tg iter:Expr}{t t':TI}(h:PI X tg iter t)(w:∀σ H R,t' σ H R->t σ H R):PI X tg iter t':=λpins s σ H R I q=>h pins s σ H R I (w σ H R q)
def iL (f:En->Rs T)(Z:En):Rs (List T):=do
 let x <-f Z
 match x with
 | .lst l=> .ok l
 | _=> .bad
def iT (f:En->Rs T)(Z:En):Rs (List T):=do
 let x <-f Z
 match x with
 | .tup l=> .ok l
 | _=> .bad
theorem wU {tg:Expr}(ha:cP X a fa):yY X tg a (iL fa):=PI.imp (CO ha) λσ H R hh_=>by
 obtain⟨Z,O,E,h⟩:=hh_;obtain⟨Z1,O1,E1,h1⟩:=bn E h;refine⟨Z1,O1,E1,Post.mono h1 λts H1 s1 q vs r=> ?_⟩
 obtain⟨t',r',s',E',q'⟩:=q vs r
 split at q'
 ·rename_i l
  obtain⟨a,ws,rfl,n,q,z⟩:=Rep.Jh.mp r';refine⟨a,rfl,⟨ws,SqL.of q⟩,q' H1 (Same.refl H1) _ λP O' hP hO i Hc hs ht=> ?_⟩
  have hnP:¬ P a:=λz=>(hP a z).elim n λw=>by rw[w.1]at q;cases q
  refine⟨λhi=>⟨ws,SqL.of (hs _ _ q hnP),by rw[<-z.length];exact hi⟩,λt ht'=> ?_⟩
  obtain⟨v,e1,e2⟩:=z.get ht';refine⟨⟨ws,v,SqL.of (hs _ _ q hnP),e1⟩,λx Hc' y=> ?_⟩
  obtain⟨e,y⟩:=y;subst e
  have:=y ws (SqL.of (hs _ _ q hnP));rw[e1]at this;cases this;exact⟨Same.refl _,e2.move hP hO hs⟩
 ·exact q'.elim
theorem Fp {tg:Expr}(ha:cP X a fa):yY X tg a (iT fa):=PI.imp (Fz ha) λσ H R hh_=>by
 obtain⟨Z,O,E,h⟩:=hh_;obtain⟨Z1,O1,E1,h1⟩:=bn E h;refine⟨Z1,O1,E1,Post.mono h1 λts H1 s1 q vs r=> ?_⟩
 obtain⟨t',r',s',E',q'⟩:=q vs r
 split at q'
 ·rename_i l
  obtain⟨a,ws,rfl,n,q,z⟩:=Rep.Jg.mp r';refine⟨a,rfl,⟨ws,SqT.of q⟩,q' H1 (Same.refl H1) _ λP O' hP hO i Hc hs ht=> ?_⟩
  have hnP:¬ P a:=λz=>(hP a z).elim n λw=>by rw[w.1]at q;cases q
  refine⟨λhi=>⟨ws,SqT.of (hs _ _ q hnP),by rw[<-z.length];exact hi⟩,λt ht'=> ?_⟩
  obtain⟨v,e1,e2⟩:=z.get ht';refine⟨⟨ws,v,SqT.of (hs _ _ q hnP),e1⟩,λx Hc' y=> ?_⟩
  obtain⟨e,y⟩:=y;subst e
  have:=y ws (SqT.of (hs _ _ q hnP));rw[e1]at this;cases this;exact⟨Same.refl _,e2.move hP hO hs⟩
 ·exact q'.elim
def rng (lo hi:Int):List T:=(Lu (hi - lo).toNat).map λ(k:Nat)=>T.int (lo+(k:Int))
def wv (i:Int):Bool:=decide (-(2 ^ 62)<=i)&&decide (i<2 ^ 62)
def iR (f:En->Rs (List T))(Z:En):Rs (List T):=do
 let x <-f Z
 match x with
 | [.int j] =>if wv j then .ok (rng 0 j)else .bad
 | [.int i,.int j] =>if wv i&&wv j then .ok (rng i j)else .bad
 | _=> .bad
theorem jQ {i:Int}(h:wv i=true) : -(2 ^ 62)<=i/\i<2 ^ 62:=by
 unfold wv at h;rw[Ku]at h;exact⟨of_decide_eq_true h.1,of_decide_eq_true h.2⟩
theorem ny {K:Km}{O:Ow}{H:Hp}(lo hi:Int):Jd K O H (rng lo hi) (Itr lo (hi - lo).toNat):=λP O' hP hO i Hc hs ht=>by
 refine⟨λh=> ?_,λt h=> ?_⟩
 ·show(hi - lo).toNat<=i
  unfold rng at h;rw[Ks,L9]at h;exact h
 ·unfold rng at h
  rw[KP]at h
  by_cases hi':i<(hi - lo).toNat
  ·rw[List.getElem?_range hi']at h
   cases h;refine⟨hi',λx Hc' y=> ?_⟩
   obtain⟨e,y⟩:=y;subst e y;exact⟨Same.refl _,Rep.Jo _⟩
  ·rw[MF (by simpa using hi')]at h
   cases h
theorem yf {tg:Expr}(hm:X.mg "range" =none)(ha:qr X [a] fs)(hg:Gl X "range":=by rfl)(hs:KG [a] X.env= [(false,eval a X.env)]:=by rfl):yY X tg (.Call (.Name "range" p) [a] [] pos) (iR fs):=by
 intro pins s σ H R I ⟨Z,O,E,h⟩
 have h1:=fN E h;refine Call_ (fX I hg hm boot_range (Lq (cr (ha pos pins s σ H _ I h1) λus s1 ⟨vs,H1,I1,r1,ts,rs,s',E',q1⟩=> ?_) hs rfl))
 split at q1
 ·obtain⟨v,rfl,r⟩:=rs.one
  split at q1
  ·rename_i j hj
   obtain⟨b1,b2⟩:=jQ hj;cases Rep.Jf.mp r
   cases r1 with
   | cons r rr=>
    cases rr;obtain⟨t,rfl⟩:=r;exact call_range_1 (k9 I1 (by omega) (by omega) b1 b2 (q1 H1 (Same.refl H1) _ (ny 0 j)))
  ·exact q1.elim
 ·obtain⟨v,ws,rfl,p1,q⟩:=Reps.me.mp rs
  obtain⟨v2,rfl,r⟩:=q.one
  split at q1
  ·rename_i i j hj
   rw[Ku]at hj;obtain⟨b1,b2⟩:=jQ hj.1;obtain⟨b3,b4⟩:=jQ hj.2;cases Rep.Jf.mp p1;cases Rep.Jf.mp r
   cases r1 with
   | cons r rr=>
    cases rr with
    | cons r' rr=>
     cases rr;obtain⟨t,rfl⟩:=r;obtain⟨t',rfl⟩:=r';exact call_range_2 (k9 I1 b1 b2 b3 b4 (q1 H1 (Same.refl H1) _ (ny i j)))
  ·exact q1.elim
 ·exact q1.elim
theorem ye {tg:Expr}(hm:X.mg "range" =none)(ha:qr X [a,b] fs)(hg:Gl X "range":=by rfl)(hs:KG [a,b] X.env= [(false,eval a X.env),(false,eval b X.env)]:=by rfl)(hs2:KG [b] X.env= [(false,eval b X.env)]:=by rfl) :
  yY X tg (.Call (.Name "range" p) [a,b] [] pos) (iR fs):=by
 intro pins s σ H R I ⟨Z,O,E,h⟩
 have h1:=fN E h;refine Call_ (fX I hg hm boot_range (Lq (cr (ha pos pins s σ H _ I h1) λus s1 ⟨vs,H1,I1,r1,ts,rs,s',E',q1⟩=> ?_) (by rw[hs,hs2]) (by rw[hs2];rfl)))
 split at q1
 ·obtain⟨v,rfl,r⟩:=rs.one
  split at q1
  ·rename_i j hj
   obtain⟨b1,b2⟩:=jQ hj;cases Rep.Jf.mp r
   cases r1 with
   | cons r rr=>
    cases rr;obtain⟨t,rfl⟩:=r;exact call_range_1 (k9 I1 (by omega) (by omega) b1 b2 (q1 H1 (Same.refl H1) _ (ny 0 j)))
  ·exact q1.elim
 ·obtain⟨v,ws,rfl,p1,q⟩:=Reps.me.mp rs
  obtain⟨v2,rfl,r⟩:=q.one
  split at q1
  ·rename_i i j hj
   rw[Ku]at hj;obtain⟨b1,b2⟩:=jQ hj.1;obtain⟨b3,b4⟩:=jQ hj.2;cases Rep.Jf.mp p1;cases Rep.Jf.mp r
   cases r1 with
   | cons r rr=>
    cases rr with
    | cons r' rr=>
     cases rr;obtain⟨t,rfl⟩:=r;obtain⟨t',rfl⟩:=r';exact call_range_2 (k9 I1 b1 b2 b3 b4 (q1 H1 (Same.refl H1) _ (ny i j)))
  ·exact q1.elim
 ·exact q1.elim
end
section
variable {X:Cx}{a b c e:Expr}{es:List Expr}{fa fb fc:En->Rs T}{fs:En->Rs (List T)}{pos p p2:Pos}{x:Str}
def bL (src:List (Option Nat))(Z:En):En:=src.map λo=>match o with
 | some i=>match Z[i]? with
  | some (.va t)=> .va t
  | _=> .em
 | none=> .em
def dz (tgt:T->En->Rs En)(fc:En->Rs Bool)(fe:En->Rs T):List T->En->Rs (List T)
 | [],_=> .ok []
 | t::r,Z=>do
  let Z1 <-tgt t Z
  let k <-fc Z1
  if k then do
   let y <-fe Z1
   let ys <-dz tgt fc fe r Z1
   .ok (y::ys)
  else dz tgt fc fe r Z1
def eG (fi:En->Rs (List T))(src:List (Option Nat))(tgt:T->En->Rs En)(fc:En->Rs Bool)(fe:En->Rs T)(Z:En):Rs T:=do
 let ts <-fi Z
 if ts.length<=sizeLine then match dz tgt fc fe ts (bL src Z)with
  | .ok ys=> .ok (.lst ys)
  | _=> .bad
 else .bad
def bT (_:En):Rs Bool:=.ok true
def tP0 (K:Km)(f:En->Rs T):TE:=λσ H Q=> ∃Z O,EnvO K O H Z σ/\match f Z with
 | .ok t=> ∀H',Same H H'->∀v,Rep K O H' t v->Q v H'
 | _=>False
def tPT0 (K:Km)(f:En->Rs Bool):TT:=λσ H Q=> ∃Z O,EnvO K O H Z σ/\match f Z with
 | .ok t=> ∀H',Same H H'->Q t H'
 | _=>False
theorem tP0.up {f:En->Rs T}{σ:L2.St}{H:Hp}{Q:VK}(h:tP0 X.K f σ H Q):tP X f σ H Q:=by
 obtain⟨Z,O,E,h⟩:=h;refine⟨Z,O,E,?_⟩
 cases q:f Z with
 | ok t=>rw[q]at h;exact h
 | err c=>rw[q]at h;exact h.elim
 | bad=>rw[q]at h;exact h.elim
theorem tPT0.up {f:En->Rs Bool}{σ:L2.St}{H:Hp}{Q:Bool->Hp->Prop}(h:tPT0 X.K f σ H Q):zu X f σ H Q:=by
 obtain⟨Z,O,E,h⟩:=h;refine⟨Z,O,E,?_⟩
 cases q:f Z with
 | ok t=>rw[q]at h;exact h
 | err c=>rw[q]at h;exact h.elim
 | bad=>rw[q]at h;exact h.elim
theorem Cy:zh X [] (zu X bT):=λpins s σ H Q I ⟨Z,O,E,h⟩=>rV pins s σ H Q I (h H (Same.refl H))
theorem Cw {f:En->Rs Bool}(h:vD X c f):zh X [c] (zu X f):=CN h
abbrev noM:Mn:=λ_ _=>False
theorem yA {src:List (Option Nat)}{Z:En}{j:Nat}{o:OT}(e:(bL src Z)[j]? =some (.ow o)):False:=by
 unfold bL at e;rw[KP]at e
 cases q:src[j]? with
 | none=>rw[q]at e;cases e
 | some o'=>
  rw[q]at e
  cases o' with
  | none=>cases e
  | some i=>
   have e':(match Z[i]? with | some (Sl.va t)=>Sl.va t | _=>Sl.em)=Sl.ow o:=K7 e
   split at e' <;> cases e'
theorem u5 {K:Km}{O:Ow}{H:Hp}{Z:En}{σ:L2.St}(E:EnvO K O H Z σ)(src:List (Option Nat)):EnvM K O noM H (bL src Z) (gn src σ) where
 len:=by unfold bL gn;rw[Ks,Ks]
 val:=λj t e=>by
  unfold bL at e;unfold gn;rw[KP]at e ⊢
  cases q:src[j]? with
  | none=>rw[q]at e;cases e
  | some o=>
   rw[q]at e
   cases o with
   | none=>cases e
   | some i=>
    have e':(match Z[i]? with | some (Sl.va t)=>Sl.va t | _=>Sl.em)=Sl.va t:=K7 e
    cases q2:Z[i]? with
    | none=>rw[q2]at e';cases e'
    | some z=>
     rw[q2]at e'
     cases z with
     | em=>cases e'
     | ow l=>cases e'
     | va t'=>
      cases e';obtain⟨v,e1,e2⟩:=E.val i _ q2;exact⟨v,by simp[e1],e2⟩
 own:=λj o e=>(yA e).elim
 sub:=λ_ _ z=>z.elim
 dis:=λ_ _ _ z=>z.elim
 trk:=E.mtb
theorem ORep.no {K:Km}{O:Ow}{H:Hp}{o:OT}{v:V}(r:ORep K O ym H o v):False:=by
 cases o with
 | lst l=>obtain⟨a,_,_,e,_⟩:=r;exact(e a).mpr rfl
 | dct ks ts=>obtain⟨a,_,_,e,_⟩:=r;exact(e a).mpr rfl
 | dd ks rows=>obtain⟨a,_,_,_,e,_⟩:=r;exact(e a).mpr (.inl rfl)
theorem EnvM.move {K:Km}{O O' P:Ow}{H H':Hp}{Z:En}{σ:L2.St}(E:EnvM K O noM H Z σ)(hP:∀a,P a->O a\/Nw K H a)(hO:∀a,O' a->O a\/Nw K H a)(h:SameO P H H')(trk:∀a,O' a->Mtb H' a):EnvM K O' noM H' Z σ where
 len:=E.len
 val:=λi t e=>let ⟨v,e1,e2⟩:=E.val i t e;⟨v,e1,e2.move hP hO h⟩
 own:=λi o e=>let ⟨_,_,r⟩:=E.own i o e;r.no.elim
 sub:=λ_ _ z=>z.elim
 dis:=λ_ _ _ z=>z.elim
 trk:=trk
def GQ (fi:En->Rs (List T))(src:List (Option Nat))(tgt:T->En->Rs En)(fc:En->Rs Bool)(fe:En->Rs T)(Z:En):Rs (List T):=fi Z >>= λts=>if ts.length<=sizeLine then(match dz tgt fc fe ts (bL src Z)with | .ok ys=>Rs.ok ys | _=> .bad)else .bad
theorem AN {src:List (Option Nat)}{fi:En->Rs (List T)}{tgt:T->En->Rs En}{fc:En->Rs Bool}{fe:En->Rs T}{Z:En}:eG fi src tgt fc fe Z=GQ fi src tgt fc fe Z >>= λl=> .ok (.lst l):=by
 unfold eG GQ
 cases fi Z with
 | bad=>rfl
 | err c=>rfl
 | ok ts=>
  rw[aE,aE]
  by_cases hz:ts.length<=sizeLine
  ·rw[if_pos hz,if_pos hz]
   cases dz tgt fc fe ts (bL src Z) <;> rfl
  ·rw[if_neg hz,if_neg hz];rfl
theorem AM {src:List (Option Nat)}{fi:En->Rs (List T)}{tgt:T->En->Rs En}{fc:En->Rs Bool}{fe:En->Rs T}{σ:L2.St}{H:Hp}{Q:VK}{Z:En}{O:Ow}(E:EnvO X.K O H Z σ)
  (hq1:Post X H (GQ fi src tgt fc fe Z) λall H1=> ∀D ys H',Nw X.K H1 D->Same H1 H'->H' D=some (.lst ys)->Reps X.K (λa=>O a\/a=D) H' all ys->Q (.ref D) H'):EF X.K (IR X fi) src (zv X tgt) (tPT0 X.K fc) (tP0 X.K fe) σ H Q:=by
 unfold GQ at hq1;refine⟨Z,O,E,Post.mono hq1.bind λts H1 s1 q1 J hJ D hD hK=> ?_⟩
 have E1:=E.same s1
 by_cases hz:ts.length<=sizeLine
 ·rw[if_pos hz]at q1
  cases hall:dz tgt fc fe ts (bL src Z)with
  | bad=>rw[hall]at q1;exact q1.elim
  | err c=>rw[hall]at q1;exact q1.elim
  | ok all=>
   rw[hall]at q1
   have q2:∀D ys H',Nw X.K H1 D->Same H1 H'->H' D=some (.lst ys)->Reps X.K (λa=>O a\/a=D) H' all ys->Q (.ref D) H':=q1 H1 (Same.refl H1)
   have nD:Nw X.K H1 D:=⟨hD,hK⟩
   let O':Ow:=λa=>O a\/a=D
   have subO:∀a,O' a->O a\/Nw X.K H1 a:=λa z=>z.elim .inl λw=> .inr (w▸nD)
   -- the walk's word
   refine⟨λi m σ' ys H'=>m=ts.length - i/\i<=ts.length/\ys.length<=i/\H' D=some (.lst ys)/\SameO (λa=>a=D) (upd H1 D (.lst [])) H' ∧
    ∃Z' yts zs,EnvM X.K O' noM H' Z' σ'/\Reps X.K O' H' yts ys/\dz tgt fc fe (ts.drop i) Z'= .ok zs/\yts++zs=all,⟨ts.length,?_⟩,?_⟩
   ·have sN:Same H1 (upd H1 D (.lst [])):=aX hD _
    refine⟨by omega,LP _,KB _,aG,λb o e _=>e,bL src Z,[],all,?_,Reps.Jn,by simpa using hall,rfl⟩
    have E2:EnvM X.K O noM H1 (bL src Z) (gn src σ):=u5 E1 src
    exact E2.move (P:=λa=>a=D) (λa z=> .inr (z▸nD)) subO (λb o e _=>sN b o e) λa z=>by
     rcases z with z | z
     ·exact(E1.mtb a z).same sN
     ·rw[z];exact .inl ⟨_,aG⟩
   ·rintro i m σ' ys H' ⟨rfl,hi',hyl,hDl,hsm,Z',yts,zs,E',ry,hl,hyz⟩
    refine⟨hDl,?_⟩
    have sm1:SameO (λa=>a=D) H1 H':=λb o e nb=>hsm b o (by rw[aF nb];exact e) nb
    have it:=hJ (λa=>a=D) O' (λa z=> .inr (z▸nD)) subO i H' sm1 (λa z=>(E'.trk a z).some)
    by_cases hlt:i<ts.length
    ·refine .inr ?_
     have hti:ts[i]? =some ts[i]:=by simp
     obtain⟨go,yl⟩:=it.2 ts[i] hti;refine⟨go,by omega,λxx Hc y=> ?_⟩
     obtain⟨sc,rx⟩:=yl xx Hc y
     have Ec:=E'.same sc;rw[Np hlt]at hl;unfold dz at hl;refine⟨Z',O',noM,ts[i],Ec,rx,?_⟩
     cases e1:tgt ts[i] Z' with
     | bad=>rw[e1]at hl;cases hl
     | err cc=>rw[e1]at hl;cases hl
     | ok Z1=>
      rw[e1,aE]at hl;intro σ1 Eg;refine⟨Z1,O',⟨noM,Eg⟩,?_⟩
      cases e2:fc Z1 with
      | bad=>rw[e2]at hl;cases hl
      | err cc=>rw[e2]at hl;cases hl
      | ok k=>
       rw[e2,aE]at hl;intro H3 s3
       have E3:=Eg.same s3
       have tot:Same H' H3:=sc.trans s3
       have D3:H3 D=some (.lst ys):=tot _ _ hDl
       have sm3:SameO (λa=>a=D) (upd H1 D (.lst [])) H3:=λb o e nb=>tot _ _ (hsm b o e nb)
       cases k with
       | false=>
        refine L2.iteF ?_
        have hl':dz tgt fc fe (ts.drop (i+1)) Z1= .ok zs:=by simpa using hl
        exact⟨ts.length - (i+1),by omega,rfl,hlt,by omega,D3,sm3,Z1,yts,zs,E3,ry.same tot,hl',hyz⟩
       | true=>
        refine L2.iteT ?_
        have hl':(fe Z1 >>= λy=>dz tgt fc fe (ts.drop (i+1)) Z1 >>= λys=>Rs.ok (y::ys))= .ok zs:=by simpa using hl
        refine⟨Z1,O',⟨noM,E3⟩,?_⟩
        cases e3:fe Z1 with
        | bad=>rw[e3]at hl';cases hl'
        | err cc=>rw[e3]at hl';cases hl'
        | ok yt=>
         rw[e3,aE]at hl'
         cases e4:dz tgt fc fe (ts.drop (i+1)) Z1 with
         | bad=>rw[e4]at hl';cases hl'
         | err cc=>rw[e4]at hl';cases hl'
         | ok zs'=>
          rw[e4,aE]at hl'
          have hzs:yt::zs'=zs:=by injection hl'
          intro H4 s4 v rv
          have D4:H4 D=some (.lst ys):=s4 _ _ D3
          have E4:=E3.same s4
          have tot4:Same H' H4:=tot.trans s4
          have smD:SameO (λa=>a=D) H4 (upd H4 D (.lst (ys++ [v]))):=λb o e nb=>by rw[aF nb];exact e
          have inO:∀a,a=D->O' a\/Nw X.K H4 a:=λa z=> .inl (.inr z)
          refine⟨D4,ts.length - (i+1),by omega,rfl,hlt,?_,aG,λb o e nb=>smD b o (s4 _ _ (sm3 b o e nb)) nb,Z1,yts++ [yt],zs',?_,?_,e4,?_⟩
          ·rw[Kw,Mm];omega
          ·exact E4.move inO (λa z=> .inl z) smD λaa z=>by
            by_cases hz:aa=D
            ·rw[hz];exact .inl ⟨_,aG⟩
            ·unfold Mtb;rw[aF hz];exact E4.trk aa z
          ·have r1:Reps X.K O' H4 (yts++ [yt]) (ys++ [v]):=(ry.same tot4).append (Reps.Jk rv Reps.Jn)
           exact r1.move inO (λa z=> .inl z) smD
          ·rw[KR,List.singleton_append,hzs];exact hyz
    ·refine .inl ⟨it.1 (by omega),?_⟩
     have hi2:i=ts.length:=by omega
     subst hi2;rw[RN]at hl
     have hzs:zs= []:=by unfold dz at hl;injection hl with hl;exact hl.symm
     subst hzs;rw[Lc]at hyz;subst hyz
     have sF:Same H1 H':=λb o e=>sm1 b o e λz=>by rw[z,hD]at e;cases e
     exact q2 D ys H' nD sF hDl ry
 ·rw[if_neg hz]at q1
  exact q1.elim
theorem xt {src:List (Option Nat)}{fi:En->Rs (List T)}{tgt:T->En->Rs En}{fc:En->Rs Bool}{fe:En->Rs T}{σ:L2.St}{H:Hp}{Q:VK}(h0:tP X (eG fi src tgt fc fe) σ H Q):EF X.K (IR X fi) src (zv X tgt) (tPT0 X.K fc) (tP0 X.K fe) σ H Q:=by
 obtain⟨Z,O,E,hq⟩:=h0;refine AM E ?_
 have e:eG fi src tgt fc fe Z=GQ fi src tgt fc fe Z >>= λl=> .ok (.lst l):=AN
 rw[e]at hq
 cases q:GQ fi src tgt fc fe Z with
 | bad=>rw[q]at hq;exact hq.elim
 | err c=>rw[q]at hq;exact hq
 | ok l=>
  rw[q,aE]at hq;intro H1 s1 D ys H' nD sD eD rD;exact hq H' (s1.trans sD) _ (Rep.Jh.mpr ⟨D,ys,rfl,λz=>(E.same s1).fresh nD.1 z,eD,rD.less λa z=> .inl z⟩)
theorem q_lc {elt tg iter:Expr}{ifs:List Expr}{scope:NM}{N':List Str}{src:List (Option Nat)}{fi:En->Rs (List T)}{tgt:T->En->Rs En}{fc:En->Rs Bool}{fe:En->Rs T}
  (hc:X.calm=true) (S:LcScope X scope N' src) (hi:yY X tg iter fi)
  (block:∀cl C s₀ H₀ fp,BS (cj X scope cl N' C s₀ H₀ fp) tg tgt/\zh (cj X scope cl N' C s₀ H₀ fp) ifs (zu (cj X scope cl N' C s₀ H₀ fp) fc)/\cP (cj X scope cl N' C s₀ H₀ fp) elt fe)
  (hs:∀x,Li iter X.env x=pure x:=by intro _;rfl) :
  cP X (.ListComp elt [⟨tg,iter,ifs,0⟩] scope pos) (eG fi src tgt fc fe):=by
 have hPG:∀cl C s₀ H₀ fp,PG (cj X scope cl N' C s₀ H₀ fp) tg (zv X tgt):=λcl C s₀ H₀ fp=>(block cl C s₀ H₀ fp).1
 have hPI:∀cl C s₀ H₀ fp,zh (cj X scope cl N' C s₀ H₀ fp) ifs (tPT0 X.K fc):=λcl C s₀ H₀ fp pins s σ H Q I h=>(block cl C s₀ H₀ fp).2.1 pins s σ H Q I (tPT0.up (X:=cj X scope cl N' C s₀ H₀ fp) h)
 have hPE:∀cl C s₀ H₀ fp,PE (cj X scope cl N' C s₀ H₀ fp) elt (tP0 X.K fe):=λcl C s₀ H₀ fp pins s σ H Q I h=>(block cl C s₀ H₀ fp).2.2 pins s σ H Q I (tP0.up (X:=cj X scope cl N' C s₀ H₀ fp) h)
 exact PE.imp (uA (g:=zv X tgt) (tc:=tPT0 X.K fc) (te:=tP0 X.K fe) hc S hi (λcl C s₀ H₀ fp=>⟨hPG cl C s₀ H₀ fp,hPI cl C s₀ H₀ fp,hPE cl C s₀ H₀ fp⟩) hs) λσ H Q h=>xt h
inductive Fl where
 | nx (Z:En) | rt (t:T) | bk (Z:En) | ct (Z:En)
def OO (B:Ow)(M:Mn):Ow:=λa=>B a\/M.u a
structure Ev (K:Km)(B:Ow)(M:Mn)(H:Hp)(Z:En)(σ:L2.St):Prop where
 env:EnvM K (OO B M) M H Z σ
 mine:∀a,M.u a->¬ B a
theorem Ev.same {K:Km}{B:Ow}{M:Mn}{H H':Hp}{Z:En}{σ:L2.St}(h:Same H H')(e:Ev K B M H Z σ):Ev K B M H' Z σ:=⟨e.env.same h,e.mine⟩
theorem Ev.o {K:Km}{B:Ow}{M:Mn}{H:Hp}{Z:En}{σ:L2.St}(e:Ev K B M H Z σ):EnvO K (OO B M) H Z σ:=⟨M,e.env⟩
def PostF (X:Cx)(B P:Ow)(H:Hp)(r:Rs Fl)(D:tL):Prop:=match r with
 | .ok (.nx Z')=> ∀σ' H' M',SameO P H H'->Ev X.K B M' H' Z' σ'->(∀a,M'.u a->P a\/Nw X.K H a)->D.nx σ' H'
 | .ok (.rt t)=> ∀v H',SameO P H H'->Rep X.K B H' t v->D.rt v H'
 | .ok (.bk Z')=> ∀σ' H' M',SameO P H H'->Ev X.K B M' H' Z' σ'->(∀a,M'.u a->P a\/Nw X.K H a)->D.bk σ' H'
 | .ok (.ct Z')=> ∀σ' H' M',SameO P H H'->Ev X.K B M' H' Z' σ'->(∀a,M'.u a->P a\/Nw X.K H a)->D.ct σ' H'
 | .err c=>XA X P H c
 | .bad=>False
def IQ (X:Cx)(F:En->Rs Fl):TS:=λD σ H=> ∃Z B M,Ev X.K B M H Z σ/\PostF X B M.u H (F Z) D
abbrev pz (X:Cx)(s:Stmt)(F:En->Rs Fl):Prop:=PS X s (IQ X F)
abbrev mq (X:Cx)(s:List Stmt)(F:En->Rs Fl):Prop:=PSs X s (IQ X F)
theorem PostF.later {B P P1:Ow}{H H1:Hp}{r:Rs Fl}{D:tL}(h:PostF X B P H r D)(s:SameO P H H1)(sub:∀a,P1 a->P a\/Nw X.K H a):PostF X B P1 H1 r D:=by
 have back:∀a,P1 a\/Nw X.K H1 a->P a\/Nw X.K H a:=λa z=>z.elim (sub a) (iA s)
 cases r with
 | bad=>exact h
 | err c=>exact XA.later h s sub
 | ok f=>
  cases f with
  | nx Z'=>exact λσ' H' M' s' E' o'=>h σ' H' M' (s.trans s' sub) E' λa z=>back a (o' a z)
  | rt t=>exact λv H' s' r=>h v H' (s.trans s' sub) r
  | bk Z'=>exact λσ' H' M' s' E' o'=>h σ' H' M' (s.trans s' sub) E' λa z=>back a (o' a z)
  | ct Z'=>exact λσ' H' M' s' E' o'=>h σ' H' M' (s.trans s' sub) E' λa z=>back a (o' a z)
theorem PostF.xa {B P:Ow}{H:Hp}{c:Str}{D:tL}(h:PostF X B P H (.err c) D):XA X ym H c:=XA.later (P:=P) h (λ_ _ e _=>e) λ_ z=>z.elim
def sN (Z:En):Rs Fl:=.ok (.nx Z)
def aw (F G:En->Rs Fl)(Z:En):Rs Fl:=do
 let f <-F Z
 match f with
 | .nx Z'=>G Z'
 | f=> .ok f
theorem Ff:mq X [] sN:=PSs.imp wV λD σ H ⟨Z,B,M,E,h⟩=>h σ H M (λ_ _ e _=>e) E λa z=> .inl z
theorem Ct {st:Stmt}{c8:List Stmt}{F G:En->Rs Fl}(h1:pz X st F)(h2:mq X c8 G):mq X (st::c8) (aw F G):=PSs.imp (lb h1 h2) λD σ H hh_=>by
 obtain⟨Z,B,M,E,h⟩:=hh_;refine⟨Z,B,M,E,?_⟩
 unfold aw at h
 cases q:F Z with
 | bad=>rw[q]at h;exact h.elim
 | err c=>rw[q]at h;exact h
 | ok f=>
  rw[q,aE]at h
  cases f with
  | nx Z'=>exact λσ' H' M' s' E' o'=>⟨Z',B,M',E',h.later s' o'⟩
  | rt t=>exact h
  | bk Z'=>exact h
  | ct Z'=>exact h
theorem Fe {st:Stmt}{F:En->Rs Fl}(h:pz X st F):mq X [st] F:=gj h
def aI (f:En->Rs T)(Z:En):Rs Fl:=do
 let t <-f Z
 .ok (.rt t)
theorem Fc (ha:cP X a fa):pz X (.Return (some a) pos) (aI fa):=PS.imp (jp ha) λD σ H hh_=>by
 obtain⟨Z,B,M,E,h⟩:=hh_;refine⟨Z,OO B M,E.o,?_⟩
 unfold aI at h
 cases q:fa Z with
 | bad=>rw[q]at h;exact h.elim
 | err c=>rw[q]at h;exact PostF.xa h
 | ok t=>
  rw[q,aE]at h;exact λH' s v r=>h v H' (SameO.of s) (r.less λ_ z=> .inl z)
def d9 (f:En->Rs Bool)(F G:En->Rs Fl)(Z:En):Rs Fl:=do
 let k <-f Z
 if k then F Z else G Z
theorem Hj {f:En->Rs Bool}{A B:List Stmt}{F G:En->Rs Fl}(hc:vD X c f)(ha:mq X A F)(hb:mq X B G):pz X (.If c A B pos) (d9 f F G):=PS.imp (D9 hc ha hb) λD σ H hh_=>by
 obtain⟨Z,B,M,E,h⟩:=hh_;refine⟨Z,OO B M,E.o,?_⟩
 unfold d9 at h
 cases q:f Z with
 | bad=>rw[q]at h;exact h.elim
 | err c=>rw[q]at h;exact PostF.xa h
 | ok k=>
  rw[q,aE]at h;intro H' s
  have E':Ev X.K B M H' Z σ:=E.same s
  cases k with
  | true=>refine L2.iteT ?_;exact⟨Z,B,M,E',PostF.later (by simpa using h) (SameO.of s) λa z=> .inl z⟩
  | false=>refine L2.iteF ?_;exact⟨Z,B,M,E',PostF.later (by simpa using h) (SameO.of s) λa z=> .inl z⟩
def cq (f:En->Rs T)(g:T->En->Rs En)(Z:En):Rs Fl:=do
 let t <-f Z
 match g t Z with
 | .ok Z'=> .ok (.nx Z')
 | _=> .bad
theorem zH {B:Ow}{M:Mn}{Z:En}{σ:L2.St}{H:Hp}{D:tL}{g:T->En->Rs En}{f:En->Rs T}(E:Ev X.K B M H Z σ)(h:PostF X B M.u H (cq f g Z) D):zw (tP X f) (zv X g) D σ H:=by
 refine⟨Z,OO B M,E.o,?_⟩
 unfold cq at h
 cases q:f Z with
 | bad=>rw[q]at h;exact h.elim
 | err c=>rw[q]at h;exact PostF.xa h
 | ok t=>
  rw[q,aE]at h;intro H' s v r;refine⟨Z,OO B M,M,t,E.env.same s,r,?_⟩
  cases q2:g t Z with
  | bad=>rw[q2]at h;exact h.elim
  | err c=>rw[q2]at h;exact h.elim
  | ok Z'=>
   rw[q2]at h;exact λσ' E'=>h σ' H' M (SameO.of s) ⟨E',E.mine⟩ λa z=> .inl z
theorem B8 {f:En->Rs T}{σ:L2.St}{H:Hp}{Q Q':VK}(h:tP X f σ H Q)(w:∀v H',Q v H'->Q' v H'):tP X f σ H Q':=by
 obtain⟨Z,O,E,q⟩:=h;exact⟨Z,O,E,Post.mono q λt H' _ z v r=>w v H' (z v r)⟩
theorem Hi {elt tg iter:Expr}{ifs:List Expr}{scope:NM}{spos py:Pos}{N':List Str}{src:List (Option Nat)}{fi:En->Rs (List T)}{tgt:T->En->Rs En}{fc:En->Rs Bool}{fe:En->Rs T}(i:Nat){y:Str}
  (hc:X.calm=true) (S:LcScope X scope N' src) (hi:yY X tg iter fi)
  (block:∀cl C s₀ H₀ fp,BS (cj X scope cl N' C s₀ H₀ fp) tg tgt/\zh (cj X scope cl N' C s₀ H₀ fp) ifs (zu (cj X scope cl N' C s₀ H₀ fp) fc)/\cP (cj X scope cl N' C s₀ H₀ fp) elt fe)
  (hN:X.N.Nodup) (hiy:X.N[i]? =some y:=by rfl) (hy:Loc X.env.scope y:=by first | exact LN rfl | exact Lz rfl) (hsw:LF (.ListComp elt [⟨tg,iter,ifs,0⟩] scope pos) (some (.Name y py)) spos.line X.env=pure true:=by rfl)
  (hf:X.fn y=true\/X.env.scope.names.lookup y=some .local:=by first | exact .inl rfl | exact .inr rfl | assumption) (hs:∀x,Li iter X.env x=pure x:=by intro _;rfl) :
  pz X (.Assign [.Name y py] (.ListComp elt [⟨tg,iter,ifs,0⟩] scope pos) spos) (cq (eG fi src tgt fc fe) (gN i)):=by
 have hPG:∀cl C s₀ H₀ fp,PG (cj X scope cl N' C s₀ H₀ fp) tg (zv X tgt):=λcl C s₀ H₀ fp=>(block cl C s₀ H₀ fp).1
 have hPI:∀cl C s₀ H₀ fp,zh (cj X scope cl N' C s₀ H₀ fp) ifs (tPT0 X.K fc):=λcl C s₀ H₀ fp pins s σ H Q I h=>(block cl C s₀ H₀ fp).2.1 pins s σ H Q I (tPT0.up (X:=cj X scope cl N' C s₀ H₀ fp) h)
 have hPE:∀cl C s₀ H₀ fp,PE (cj X scope cl N' C s₀ H₀ fp) elt (tP0 X.K fe):=λcl C s₀ H₀ fp pins s σ H Q I h=>(block cl C s₀ H₀ fp).2.2 pins s σ H Q I (tP0.up (X:=cj X scope cl N' C s₀ H₀ fp) h)
 refine PS.imp (HC (g:=zv X tgt) (tc:=tPT0 X.K fc) (te:=tP0 X.K fe) (i:=i) hc S hi (λcl C s₀ H₀ fp=>⟨hPG cl C s₀ H₀ fp,hPI cl C s₀ H₀ fp,hPE cl C s₀ H₀ fp⟩) hN hiy hy hsw hf hs) λD σ H ⟨Z,B,M,E,h⟩=>xt (B8 (zH E h) λv H' z=> ?_)
 obtain⟨Z',O,M',t,E',r,q⟩:=z;unfold gN at q
 split at q
 ·rename_i Z2 e
  split at e
  ·rename_i hl
   cases e;exact q _ (E'.set hl r)
  ·cases e
 ·exact q.elim
theorem Fk {tg:Expr}{g:T->En->Rs En}(ha:cP X a fa)(hg:BS X tg g)(hs:QQ [tg] a pos.line X.env=pure false:=by rfl)(hw:QR [tg] a X.env=pure none:=by rfl)
  (h1:(Mc [tg] X.env).map (·.2)= [assign tg X.env]:=by rfl):pz X (.Assign [tg] a pos) (cq fa g):=PS.imp (Fx ha hg hs hw h1) λD σ H ⟨Z,B,M,E,h⟩=>zH E h
def tM (f:En->Rs T)(Z:En):Rs Fl:=do
 let _ <-f Z
 .ok (.nx Z)
theorem Cr (ha:cP X a fa)(hs:LF a none pos.line X.env=pure false:=by rfl):pz X (.Expr a pos) (tM fa):=PS.imp (nr ha hs) λD σ H hh_=>by
 obtain⟨Z,B,M,E,h⟩:=hh_;refine⟨Z,OO B M,E.o,?_⟩
 unfold tM at h
 cases q:fa Z with
 | bad=>rw[q]at h;exact h.elim
 | err c=>rw[q]at h;exact PostF.xa h
 | ok t=>
  rw[q,aE]at h;exact λH' s v r=>h σ H' M (SameO.of s) (E.same s) λa z=> .inl z
def a9 (g:T->En->Rs En)(F:En->Rs Fl):List T->En->Rs Fl
 | [],Z=> .ok (.nx Z)
 | t::r,Z=>do
  let Z1 <-g t Z
  let f <-F Z1
  match f with
  | .nx Z2=>a9 g F r Z2
  | .ct Z2=>a9 g F r Z2
  | .bk Z2=> .ok (.nx Z2)
  | .rt t=> .ok (.rt t)
def dD (fi:En->Rs (List T))(g:T->En->Rs En)(F:En->Rs Fl)(Z:En):Rs Fl:=do
 let ts <-fi Z
 match a9 g F ts Z with
 | .ok f=> .ok f
 | _=> .bad
theorem lU {α:Type}{t:Sem α}{Q:α->Kt->Prop}{s:Kt}{E:Kq->Kt->Prop}{P:KS}{w:LA}{A:La}(h:wpAny (model P w) A t Q (λ_ _=>False) s):wpAny (model P w) A t Q E s:=Mb h (λ_ _ q=>q) λ_ _ z=>z.elim
theorem CJ {tg iter:Expr}{body:List Stmt}{wi:TI}{g:TG}{tb:TS}{pos:Pos}(hc:X.calm=true)(hi:PI X tg iter wi)(hg:PG X.nox tg g)(hb:PSs X.nox body tb)
  (hs:∀x,Li iter X.env x=pure x:=by intro _;rfl):PS X (.For tg iter body [] pos) (tFor wi g tb):=by
 intro pins s σ H D I h;refine wpAny_For (cr (hi pins s σ H _ I h) λv s1 h1=>cr h1 λitv s2 h2=> ?_) hs
 obtain⟨it,fp,tn,J,H2,e,I2,T,st2,f2,W,⟨m0,w0⟩,turn⟩:=h2;subst e
 have stat:∀{H':Hp},(∀b∈fp,H' b=none)->∀b∈fp,nh X pins H' b:=λhn b hb=>⟨hn b hb,(f2 b hb).2⟩
 refine codeAny_forLoop_any (λn s'=> ∃i σ' H',Inv X pins σ' H' s'/\tn i s'.heap/\(∀b∈fp,H' b=none)/\W i n σ' H') ?_ m0 ⟨0,σ,H2,I2,st2,λb hb=>(f2 b hb).1,w0⟩
 rintro n s3 ⟨i,σ3,H3,I3,st3,fr3,w3⟩
 rcases turn i n σ3 H3 w3 with⟨stop,qn⟩ | ⟨go,N,hN,step⟩
 ·refine lU (cr (T.done X.nox rfl rfl rfl hc i pins s3 σ3 H3 _ (I3.Ji _) (stat fr3) st3 stop) λr s4 ⟨hr,I4⟩=> ?_)
  subst hr;exact NN ⟨σ3,H3,I4.Ji _,qn⟩
 ·refine lU (cr (T.item X.nox rfl rfl rfl hc i pins s3 σ3 H3 _ (I3.Ji _) (stat fr3) st3 go) λr s4 ⟨u,hr,h4⟩=> ?_)
  subst hr;refine lU (cr h4 λ_ s5 hh_=> ?_)
  obtain⟨x,H5,I5,r5,y5,st5,fr5⟩:=hh_
  have I5':=Inv.pinned (X:=X.nox) I5 (stat fr5) (T.obj _ _ st5);refine lU (cr (hg _ s5 σ3 H5 x u _ I5' r5 (step x H5 y5)) λ_ s6 hh_=> ?_)
  obtain⟨σ6,H6,I6,q6⟩:=hh_;refine lU (cr (hb _ s6 σ6 H6 _ I6 q6) λf s7 q7=> ?_)
  have again:∀{σ7:L2.St} {H7:Hp},Inv X.nox (pins++oh fp s5.heap) σ7 H7 s7->N σ7 H7->∃m,m<n/\∃i σ' H',Inv X pins σ' H' s7/\tn i s7.heap/\(∀b∈fp,H' b=none)/\W i m σ' H':=λ{σ7 H7} I7 n7=>by
   obtain⟨m',hm,w7⟩:=hN σ7 H7 n7;refine⟨m',hm,i+1,σ7,H7,(Inv.Jr (X:=X.nox) I7).Ji _,T.keep _ _ _ st5 λb hb o e=>(I7.pin (b,o) (KU _ (KU _ (iC hb e)))).1,λb hb=> ?_,w7⟩
   obtain⟨o,e,d⟩:=T.obj _ _ st5 b hb;exact(I7.pin (b,o) (KU _ (KU _ (iC hb e)))).2.1
  cases f with
  | next=>obtain⟨σ7,H7,I7,n7⟩:=q7;exact again I7 n7
  | cont=>obtain⟨σ7,H7,I7,n7⟩:=q7;exact again I7 n7
  | brk=>obtain⟨σ7,H7,I7,q7⟩:=q7;exact⟨σ7,H7,(Inv.Jr (X:=X.nox) I7).Ji _,q7⟩
  | ret v=>obtain⟨x7,σ7,H7,I7,r7,q7⟩:=q7;exact⟨x7,σ7,H7,(Inv.Jr (X:=X.nox) I7).Ji _,r7,q7⟩
theorem Fh {tg iter:Expr}{body:List Stmt}{fi:En->Rs (List T)}{g:T->En->Rs En}{F:En->Rs Fl}(hc:X.calm=true)(hi:yY X tg iter fi)(hg:BS X.nox tg g)(hb:mq X.nox body F)
  (hs:∀x,Li iter X.env x=pure x:=by intro _;rfl):pz X (.For tg iter body [] pos) (dD fi g F):=PS.imp (CJ hc hi hg hb hs) λD σ H hh_=>by
 obtain⟨Z,B,M,E,h⟩:=hh_;refine⟨Z,OO B M,E.o,?_⟩
 unfold dD at h
 cases q:fi Z with
 | bad=>rw[q]at h;exact h.elim
 | err c=>rw[q]at h;exact PostF.xa h
 | ok ts=>
  rw[q,aE]at h
  cases qq:a9 g F ts Z with
  | bad=>rw[qq]at h;exact h.elim
  | err c=>rw[qq]at h;exact h.elim
  | ok fin=>
  rw[qq]at h;intro H1 s1 J hJ
  have E1:Ev X.K B M H1 Z σ:=E.same s1
  have h1:PostF X B M.u H1 (.ok fin) D:=PostF.later h (SameO.of s1) λa z=> .inl z
  refine⟨λi m σ' H'=>m=ts.length - i/\i<=ts.length/\SameO M.u H1 H'/\∃Z' M',Ev X.K B M' H' Z' σ'/\(∀a,M'.u a->M.u a\/Nw X.K H1 a)/\a9 g F (ts.drop i) Z'= .ok fin,
   ⟨ts.length,by omega,LP _,λ_ _ e _=>e,Z,M,E1,λa z=> .inl z,by simpa using qq⟩,?_⟩
  rintro i m σ' H' ⟨rfl,hi',sm,Z',M',E',ow,hl⟩
  have it:=hJ M.u (OO B M') (λa z=> .inl (.inr z)) (λa z=>z.elim (λw=> .inl (.inl w)) λw=>(ow a w).elim (λy=> .inl (.inr y)) .inr) i H' sm (λa z=>(E'.env.trk a z).some)
  by_cases hlt:i<ts.length
  ·have hti:ts[i]? =some ts[i]:=by simp
   obtain⟨go,yl⟩:=it.2 ts[i] hti;rw[Np hlt]at hl;unfold a9 at hl;refine .inr ⟨go,λσ2 H2=> ∃m',m'<ts.length - i/\(m'=ts.length - (i+1)/\i+1<=ts.length/\SameO M.u H1 H2/\∃Z2 M2,Ev X.K B M2 H2 Z2 σ2/\(∀a,M2.u a->M.u a\/Nw X.K H1 a)/\a9 g F (ts.drop (i+1)) Z2= .ok fin),λσ2 H2 z=>z,λx Hc y=> ?_⟩
   obtain⟨sc,rx⟩:=yl x Hc y;refine⟨Z',OO B M',M',ts[i],E'.env.same sc,rx,?_⟩
   cases e1:g ts[i] Z' with
   | bad=>rw[e1]at hl;cases hl
   | err cc=>rw[e1]at hl;cases hl
   | ok Z1=>
    rw[e1,aE]at hl;intro σ1 Eg
    have E2:Ev X.K B M' Hc Z1 σ1:=⟨Eg,E'.mine⟩;refine⟨Z1,B,M',E2,?_⟩
    have smc:SameO M.u H1 Hc:=λb o e n=>sc _ _ (sm b o e n)
    have onward:∀{σ3:L2.St} {H3:Hp} {Z3:En} {M3:Mn},SameO M'.u Hc H3->Ev X.K B M3 H3 Z3 σ3->(∀a,M3.u a->M'.u a\/Nw X.K Hc a)->a9 g F (ts.drop (i+1)) Z3= .ok fin →
      ∃m',m'<ts.length - i/\(m'=ts.length - (i+1)/\i+1<=ts.length/\SameO M.u H1 H3/\∃Z2 M2,Ev X.K B M2 H3 Z2 σ3/\(∀a,M2.u a->M.u a\/Nw X.K H1 a)/\a9 g F (ts.drop (i+1)) Z2= .ok fin):=
     λ{σ3 H3 Z3 M3} s3 E3 o3 p3=>⟨_,by omega,rfl,hlt,smc.trans s3 ow,Z3,M3,E3,λa z=>(o3 a z).elim (ow a) (iA smc),p3⟩
    cases e2:F Z1 with
    | bad=>rw[e2]at hl;cases hl
    | err cc=>rw[e2]at hl;cases hl
    | ok f=>
     rw[e2,aE]at hl
     cases f with
     | nx Z2=>exact λσ3 H3 M3 s3 E3 o3=>onward s3 E3 o3 hl
     | ct Z2=>exact λσ3 H3 M3 s3 E3 o3=>onward s3 E3 o3 hl
     | bk Z2=>
      cases hl
      exact λσ3 H3 M3 s3 E3 o3=>h1 σ3 H3 M3 (smc.trans s3 ow) E3 λa z=>(o3 a z).elim (ow a) (iA smc)
     | rt t=>
      cases hl;exact λv H3 s3 r=>h1 v H3 (smc.trans s3 ow) r
  ·refine .inl ⟨it.1 (by omega),?_⟩
   have hi2:i=ts.length:=by omega
   subst hi2;rw[RN]at hl;cases hl;exact h1 σ' H' M' sm E' ow
def b8 (c:En->Rs Bool)(F:En->Rs Fl):Nat->En->Rs Fl
 | 0,_=> .bad
 | n+1,Z=>match c Z with
  | .ok false=> .ok (.nx Z)
  | .ok true=>match F Z with
   | .ok (.nx Z')=>b8 c F n Z'
   | .ok (.ct Z')=>b8 c F n Z'
   | .ok (.bk Z')=> .ok (.nx Z')
   | .ok (.rt t)=> .ok (.rt t)
   | _=> .bad
  | _=> .bad
theorem zQ {c:Expr}{body:List Stmt}{fc:En->Rs Bool}{F:En->Rs Fl}(n:Nat)(hc:vD X.nox c fc)(hb:mq X.nox body F):pz X (.While c body [] pos) (b8 fc F n):=by
 have base:PS X.nox (.While c body [] pos) (vK (zu X.nox fc) (IQ X.nox F)):=z8 PassesOwn.never hc hb;intro pins s σ H D I ⟨Z,B,M,E,h⟩
 cases qq:b8 fc F n Z with
 | bad=>rw[qq]at h;exact h.elim
 | err c=>
  exfalso
  have:∀n Z,b8 fc F n Z≠ .err c:=by
   intro n
   induction n with
   | zero=>intro Z z;cases z
   | succ n ih=>
    intro Z z;unfold b8 at z
    split at z
    ·cases z
    ·split at z <;> first | exact ih _ z | cases z
    ·cases z
  exact this n Z qq
 | ok fin=>
  rw[qq]at h
  have goal:vK (zu X.nox fc) (IQ X.nox F) D σ H:=by
   refine⟨λm σ' H'=>SameO M.u H H'/\∃Z' M',Ev X.K B M' H' Z' σ'/\(∀a,M'.u a->M.u a\/Nw X.K H a)/\b8 fc F m Z'= .ok fin,⟨n,λ_ _ e _=>e,Z,M,E,λa z=> .inl z,qq⟩,?_⟩
   rintro m σ' H' ⟨sm,Z',M',E',ow,hl⟩
   cases m with
   | zero=>cases hl
   | succ m=>
    refine⟨Z',OO B M',E'.o,?_⟩
    unfold b8 at hl
    cases e1:fc Z' with
    | bad=>rw[e1]at hl;cases hl
    | err cc=>rw[e1]at hl;cases hl
    | ok k=>
     rw[e1]at hl;intro H2 s2
     have E2:Ev X.K B M' H2 Z' σ':=E'.same s2
     have sm2:SameO M.u H H2:=λb o e n=>s2 _ _ (sm b o e n)
     cases k with
     | false=>
      cases hl;refine L2.iteF ?_
      exact h σ' H2 M' sm2 E2 ow
     | true=>
      refine L2.iteT ?_
      refine⟨λσ3 H3=>SameO M.u H H3/\∃Z3 M3,Ev X.K B M3 H3 Z3 σ3/\(∀a,M3.u a->M.u a\/Nw X.K H a)/\b8 fc F m Z3= .ok fin,λσ3 H3 z=>⟨m,RM m,z⟩,Z',B,M',E2,?_⟩
      have hl':(match F Z' with | .ok (.nx Z')=>b8 fc F m Z' | .ok (.ct Z')=>b8 fc F m Z' | .ok (.bk Z')=> .ok (.nx Z') | .ok (.rt t)=> .ok (.rt t) | _=> .bad)= .ok fin:=hl
      cases e2:F Z' with
      | bad=>rw[e2]at hl';cases hl'
      | err cc=>rw[e2]at hl';cases hl'
      | ok f=>
       rw[e2]at hl'
       cases f with
       | nx Z2=>exact λσ3 H3 M3 s3 E3 o3=>⟨sm2.trans s3 ow,Z2,M3,E3,λa z=>(o3 a z).elim (ow a) (iA sm2),hl'⟩
       | ct Z2=>exact λσ3 H3 M3 s3 E3 o3=>⟨sm2.trans s3 ow,Z2,M3,E3,λa z=>(o3 a z).elim (ow a) (iA sm2),hl'⟩
       | bk Z2=>
        cases hl'
        exact λσ3 H3 M3 s3 E3 o3=>h σ3 H3 M3 (sm2.trans s3 ow) E3 λa z=>(o3 a z).elim (ow a) (iA sm2)
       | rt t=>
        cases hl';exact λv H3 s3 r=>h v H3 (sm2.trans s3 ow) r
  refine lU (cr (base pins s σ H D (I.Ji _) goal) λf s' q=> ?_)
  cases f with
  | next=>obtain⟨σ7,H7,I7,n7⟩:=q;exact⟨σ7,H7,I7.Ji _,n7⟩
  | cont=>obtain⟨σ7,H7,I7,n7⟩:=q;exact⟨σ7,H7,I7.Ji _,n7⟩
  | brk=>obtain⟨σ7,H7,I7,n7⟩:=q;exact⟨σ7,H7,I7.Ji _,n7⟩
  | ret v=>obtain⟨x7,σ7,H7,I7,r7,q7⟩:=q;exact⟨x7,σ7,H7,I7.Ji _,r7,q7⟩
def D2 (Z:En):Rs Fl:=.ok (.ct Z)
end
def bN (F:En->Rs Fl)(Z:En):Rs T:=do
 let f <-F Z
 match f with
 | .nx _=> .ok .non
 | .rt t=> .ok t
 | _=> .bad
def aR (n:Nat)(ts:List T):En:=ts.map Sl.va++KJ (n - ts.length) Sl.em
theorem x9 {n:Nat}{ts:List T}{i:Nat}{o:OT}(e:(aR n ts)[i]? =some (.ow o)):False:=by
 unfold aR at e
 by_cases hi:i<ts.length
 ·rw[MK (by simpa using hi),KP,KD hi]at e
  cases e
 ·rw[Ni (by simpa using hi),MU]at e
  split at e <;> cases e
theorem qB {K:Km}{O:Ow}{H:Hp}{N:List Str}{ts:List T}{vs:List V}(r:Reps K O H ts vs)(hl:ts.length<=N.length)(trk:∀a,O a->Mtb H a):Ev K O noM H (aR N.length ts) (start N vs):=by
 have hlen:=r.length
 have sub:∀a,OO O noM a->O a:=λa z=>z.elim id λ⟨_,w⟩=>w.elim
 refine⟨⟨by unfold aR L2.start;simp;omega,λi t e=> ?_,λi o e=>(x9 e).elim,λ_ _ z=>z.elim,λ_ _ _ z=>z.elim,λa z=>trk a (sub a z)⟩,λa ⟨_,z⟩=>z.elim⟩
 unfold aR at e;unfold L2.start
 by_cases hi:i<ts.length
 ·rw[MK (by simpa using hi),KP,KD hi]at e
  have e':ts[i] =t:=by injection e with e;injection e
  obtain⟨v,e1,e2⟩:=r.get (i:=i) (t:=t) (by rw[<-e'];simp)
  refine⟨v,?_,e2.less sub⟩
  rw[MK (by simp;omega),KP,e1];rfl
 ·rw[Ni (by simpa using hi),MU]at e
  split at e <;> cases e
section
variable {P:KS}{w:LA}{K:Km}{mg:Str->Option Kq}{base:Heap}
theorem Iy {x qual:Str}{st:Stmt}{f:Addr}{fd:LL}{N ps:List Str}{k n:Nat}{g:List T->Rs T}(Fn:L2.Fun K x qual st f fd)(S:aA N ps (ak st))(hn:ps.length=n)
  (hbody:∀(cdv:Kq) (A:La) (outer:List Env) (s:Kt) (H:Hp) (E:XK),Room k (A.deeper (envOfC qual (ak st) s.heap.objs.size f cdv)) →
   ∃F,mq (lJ CX0 P w K mg base N qual (ak st) f cdv A outer s H E).nox (de st) F/\∀ts,ts.length=n->∀t,g ts= .ok t->bN F (aR N.length ts)= .ok t):qt P w K mg base CX0 (k+1) f fd ps (spP K n g):=by
 have hpl:ps.length<=N.length:=by have:=congrArg Lx S.pre;rw[LU]at this;omega
 refine Fn.ok S (λvs H Q E h=> ?_) (λcdv A outer s H vs Q E hr h=> ?_)
 ·obtain⟨ts,O,r,_,hl,_⟩:=h
  rw[<-r.length,hl,hn]
 ·obtain⟨ts,O,r,trk,hl,h⟩:=h
  obtain⟨F,hF,hv⟩:=hbody cdv A outer s H E hr;refine⟨_,hF,aR N.length ts,O,noM,qB r (by omega) trk,?_⟩
  have no:∀a,¬noM.u a:=λa ⟨_,z⟩=>z
  cases q:g ts with
  | bad=>rw[q]at h;exact h.elim
  | err c=>rw[q]at h;exact h.elim
  | ok t=>
   rw[q]at h
   have hb:=hv ts hl t q;unfold bN at hb
   cases q2:F (aR N.length ts)with
   | bad=>rw[q2]at hb;cases hb
   | err c=>rw[q2]at hb;cases hb
   | ok fl=>
    rw[q2,aE]at hb
    have sameOf:∀H',SameO noM.u H H'->Same H H':=λH' s b o e=>s b o e (no b)
    cases fl with
    | nx Z'=>cases hb;exact λσ' H' M' s' E' o'=>h .non H' (sameOf H' s') Rep.JS
    | rt t'=>cases hb;exact λv H' s' r'=>h v H' (sameOf H' s') r'
    | bk Z'=>cases hb
    | ct Z'=>cases hb
end
end Tr
namespace Enu
open PySem
open AutoSeq1 (wpAny_loadPart')
section
variable {prog:KS}{w:LA}{A:La}{E:Kq->Kt->Prop}{s:Kt}
theorem tupNext {it tt:Addr}{k:Nat}{its:Array Kq}{x:Kq}{Q:Kq->Kt->Prop}(hi:s.heap.IsTupleIter it tt k)(ht:s.heap.IsTuple tt its)(hx:its[k]? =some x)
  (hQ:∀h',h'.IsTupleIter it tt (k+1)->Ny it s.heap h'->Q x { s with heap:=h' }):wpAny (model prog w) A (K3 (.ref it)) Q E s:=by
 obtain⟨ob,g1,g2,g3⟩:=id hi;obtain⟨ot,k1,_,m,k3⟩:=ht;unfold K3;refine Kn (LM (name:=KL "__next__") hi.typeIs MC (Mq MC hi.typeIs Ox ?_ (Os _)))
 show wpAny (model prog w) _ (field (.ref it) 0 >>= _) _ _ s
 refine Kn (Ly g1 g3 (x:=.ref tt) rfl ?_)
 show wpAny (model prog w) _ (if (KM tt == Lf)=true then _ else _) _ _ s
 rw[if_neg (show ¬((KM tt == Lf)=true)by exact KO)]
 show wpAny (model prog w) _ (field (.ref it) 1 >>= _) _ _ s
 refine Kn (Ly g1 g3 (x:=.int k 0) rfl ?_)
 show wpAny (model prog w) _ (seqItems? (.ref tt) >>= _) _ _ s
 refine Kn (Mt k1 k3 ?_)
 simp only[hx,LH];refine Kn (Qg g1 g3 (by simp) (Kz ⟨x,rfl,Kz (hQ _ ?_ (Qh ..))⟩))
 refine⟨_,PL _ g1 (PM (NK g3 _)),(Obj.cls_mapFields ..).trans g2,?_⟩
 rw[NK g3];simp[rawInt]
theorem tupStop {it tt:Addr}{k:Nat}{its:Array Kq}{Q:Kq->Kt->Prop}(hh:A.handled=none)(hi:s.heap.IsTupleIter it tt k)(ht:s.heap.IsTuple tt its)(hx:its[k]? =none)
  (hE:∀h' e,Sa it s.heap h'->(∃o,h'.get? e=some o/\o.cls= .type "StopIteration")->E (.ref e) { s with heap:=h' }):wpAny (model prog w) A (K3 (.ref it)) Q E s:=by
 obtain⟨ob,g1,g2,g3⟩:=id hi;obtain⟨ot,k1,_,m,k3⟩:=ht;unfold K3;refine Kn (LM (name:=KL "__next__") hi.typeIs MC (Mq MC hi.typeIs Ox ?_ (Os _)))
 show wpAny (model prog w) _ (field (.ref it) 0 >>= _) _ _ s
 refine Kn (Ly g1 g3 (x:=.ref tt) rfl ?_)
 show wpAny (model prog w) _ (if (KM tt == Lf)=true then _ else _) _ _ s
 rw[if_neg (show ¬((KM tt == Lf)=true)by exact KO)]
 show wpAny (model prog w) _ (field (.ref it) 1 >>= _) _ _ s
 refine Kn (Ly g1 g3 (x:=.int k 0) rfl ?_)
 show wpAny (model prog w) _ (seqItems? (.ref tt) >>= _) _ _ s
 refine Kn (Mt k1 k3 ?_)
 simp only[hx,LH];refine Kn (NC (Kn (Qg g1 g3 (by simp) ?_)))
 show wpAny (model prog w) _ (newExc (.type "StopIteration") [] >>= _) _ _ _
 refine Kn ?_
 simp only[newTuple,newExc];refine Kn (Md ?_ (by size_fits))
 refine Kn (m:=firstArgMember _ _) (wpAny_of_eq (a:=Lf) (by first | (simp only[firstArgMember];rfl) | rfl) ?_)
 refine Md ?_ (by size_fits)
 simp only[raiseNew];refine Kn (wpAny_handled ?_)
 first | rw[hh] | rw[show A.in1.handled=none from hh]
 refine Kn (Kz (wpAny_throw ?_))
 refine hE _ _ (((Qh ..).extBut.push _).push _) ⟨_,KI _ rfl,rfl⟩
end
theorem tupDraws {prog:KS}{w:LA}{A:La}(hh:A.handled=none)(it tt:Addr)(hne:tt≠it)(its:Array Kq) :
  Draws prog w A it [it,tt] its.size (λi v=>its[i]? =some v) (λi h=>h.IsTupleIter it tt i/\h.IsTuple tt its) where
 live:=λ_ _ st=>by obtain⟨o,ho,_⟩:=st.1;exact⟨o,ho⟩
 frame:=λ_ _ _ st hk=>by
  obtain⟨⟨o,e,r⟩,⟨o',e',r'⟩⟩:=st;exact⟨⟨o,hk it (by simp) o e,r⟩,⟨o',hk tt (by simp) o' e',r'⟩⟩
 item:=λi s Q E hi st hQ=>by
  refine tupNext st.1 st.2 (x:=its[i]) (by simp[hi]) λh' hit' hs'=> ?_
  obtain⟨o',e',r'⟩:=st.2;exact hQ _ h' s.toks (by simp[hi]) ⟨hit',⟨o',(hs'.2 tt hne).trans e',r'⟩⟩ hs'
 done:=λs Q E st hE=>tupStop hh st.1 st.2 (by simp) hE
theorem newT (l:Addr)(items:Array Kq)(n:Nat)(dct:Option Addr)(sl:Array (Option Kq)) :
  Meets (Builtin.«enumerate.__new__» ⟨[.type "enumerate",.ref l],[]⟩) (λ_ R s=>s.heap.get? l=some { cls:=.type "tuple",dict:=dct,data:=.seq items n,slots:=sl } ∧
   R (.ok (.ret (.ref (s.heap.push { cls:=.type "tuple_iterator",data:=.fields #[.ref l,.int 0 0] }).objs.size)))
    { s with heap:=(s.heap.push { cls:=.type "tuple_iterator",data:=.fields #[.ref l,.int 0 0] }).push { cls:=.type "enumerate",data:=.fields #[.none,.bool false,.ref s.heap.objs.size,rawInt 0,.none,.none] } }):=
 .of_wp λprog w A R s h=>by
  obtain⟨hp,g,d,tk,os⟩:=s;obtain⟨hl,h⟩:=h
  have hsub:=sub_enumerate
  have hT:Heap.IsTuple (Sb ⟨hp,g,d,tk,os⟩) l items:=⟨_,hl,rfl,n,rfl⟩
  wp_walk using MR hl
  refine wpAny_stack_any λst=>Kz ?_
  split
  ·rename_i c _ _ _ _ _
   cases (c == MD "enumerate")
   ·wp_walk using MR hl,M0 hT
    exact⟨_,rfl,h⟩
   ·wp_walk using MR hl,M0 hT
    exact⟨_,rfl,h⟩
  ·wp_walk using MR hl,M0 hT
   exact⟨_,rfl,h⟩
theorem callT {prog:KS}{w:LA}{A:La}{E:Kq->Kt->Prop}{s:Kt}{l:Addr}{items:Array Kq}{Q:Kq->Kt->Prop}(hL:s.heap.IsTuple l items)
  (h:∀h',IsEnum h' (s.heap.objs.size+1) s.heap.objs.size 0 .none->h'.IsTupleIter s.heap.objs.size l 0->h'.objs.size=s.heap.objs.size+2 →
   (∀b o,s.heap.get? b=some o->h'.get? b=some o)->Q (.ref (s.heap.objs.size+1)) { s with heap:=h' }):wpAny (model prog w) A (call (.type "enumerate") [.ref l]) Q E s:=by
 obtain⟨⟨cc,dc,dd,ss⟩,hl,hc,n,hd⟩:=hL
 replace hc:cc= .type "tuple":=hc
 replace hd:dd= .seq items n:=hd
 subst hc hd;refine callType_new F.called_enumerate (by decide) (F.typeCall_enumerate_1 _) (F.newCall_enumerate_1 _) (λobj=>F.args_object_init_2 obj _) F.entry_enumerate_new (newT l items n dc ss) ⟨hl,?_⟩
 have hz:(s.heap.push { cls:=.type "tuple_iterator",data:=.fields #[.ref l,.int 0 0] }).objs.size=s.heap.objs.size+1:=LX ..
 show _/\_
 rw[hz]
 have he:IsEnum ((s.heap.push { cls:=.type "tuple_iterator",data:=.fields #[.ref l,.int 0 0] }).push
   { cls:=.type "enumerate",data:=.fields #[.none,.bool false,.ref s.heap.objs.size,rawInt 0,.none,.none] }) (s.heap.objs.size+1) s.heap.objs.size 0 .none:=by
  have q:=KI (s.heap.push { cls:=.type "tuple_iterator",data:=.fields #[.ref l,.int 0 0] })
   (o:={ cls:=.type "enumerate",data:=.fields #[.none,.bool false,.ref s.heap.objs.size,rawInt 0,.none,.none] }) rfl
  rw[hz]at q;exact q
 refine⟨⟨_,he,rfl⟩,h _ he ⟨_,Kv _ (KI _ rfl),rfl,rfl⟩ (by rw[LX,hz]) λb o x=>Kv _ (Kv _ x)⟩
end Enu
namespace L2
open PySem PySem.Spec PyProof.Rows
section
variable {X:Cx}{pins:List (Addr×Obj)}{σ:L2.St}{H:Hp}{s:Kt}{h':Heap}
theorem Inv.JH {t':Nat}{fp:List Addr}{Tp:Addr}{xs:List V}(I:Inv X pins σ H s)(hf:∀b∈fp,nh X pins H b)(k:∀b o,b∉fp->s.heap.get? b=some o->h'.get? b=some o)
  (ht:∀b∈fp,∃o,h'.get? b=some o) (hT:s.heap.objs.size<=Tp) (new:ObjOk X.prog X.w (upd H Tp (.tup xs)) h' Tp (.tup xs)):Inv X pins σ (upd H Tp (.tup xs)) { s with heap:=h',toks:=t' }:=by
 have hn:H Tp=none:=I.hok.fresh hT
 have mY:∀b o,s.heap.get? b=some o->b≠Tp:=λb o e=>Lk (KA (KF e) hT)
 have nf:∀b u,H b=some u->b∉fp:=λb u e z=>by rw[(hf b z).1]at e;cases e
 refine I.step (g':=s.gens) (d':=s.drawn) (ch:=fp) (λb hb=>⟨(hf b hb).2.2.2.1,(hf b hb).2.1,(hf b hb).2.2.2.2.1,(hf b hb).2.2.2.2.2⟩) (λb o _ _ hc e _=>k b o hc e) (λb o _ _ hc e _=>⟨o.slots,k b o hc e⟩)
  (λb o _ e n=>by rw[aF (mY b o e)];exact n) (λb o hc e=>⟨o,k b o hc e⟩) (λb ys e=>by rw[aF (cv e hn)];exact e) (λb o u e=>by rw[aF (cv e hn)];exact e)
  (λb ps e=>⟨#[],by rw[aF (cv e hn),e];simp⟩) (λm hm=> ?_) (λb u e=> ?_) I.bare
 ·obtain⟨o,es,ep,ho,r⟩:=hm
  exact⟨o,es,ep,k _ o (λz=>(hf _ z).2.1 rfl) ho,r⟩
 ·by_cases hb:b=Tp
  ·subst hb;rw[aG]at e;cases e;exact new
  ·rw[aF hb]at e
   refine(I.hok b u e).JA (λc v hc q=>k c v ?_ q) (λc q=>by rw[aF (cv q hn)];exact q) λc ys q=>by rw[aF (cv q hn)];exact q
   rcases hc with z | z
   ·rw[z];exact nf b u e
   ·exact nf c _ z
theorem Inv.Jx {t':Nat}{fp:List Addr}(I:Inv X pins σ H s)(hf:∀b∈fp,nh X pins H b)(k:∀b o,b∉fp->s.heap.get? b=some o->h'.get? b=some o):Inv X pins σ H { s with heap:=h',toks:=t' }:=by
 have nf:∀b u,H b=some u->b∉fp:=λb u e z=>by rw[(hf b z).1]at e;cases e
 refine I.step (g':=s.gens) (d':=s.drawn) (ch:=fp) (λb hb=>⟨(hf b hb).2.2.2.1,(hf b hb).2.1,(hf b hb).2.2.2.2.1,(hf b hb).2.2.2.2.2⟩) (λb o _ _ hc e _=>k b o hc e) (λb o _ _ hc e _=>⟨o.slots,k b o hc e⟩)
  (λb o _ e n=>n) (λb o hc e=>⟨o,k b o hc e⟩) (λb ys e=>e) (λb o u e=>e)
  (λb ps e=>⟨#[],by rw[e];simp⟩) (λm hm=> ?_) (λb u e=> ?_) I.bare
 ·obtain⟨o,es,ep,ho,r⟩:=hm
  exact⟨o,es,ep,k _ o (λz=>(hf _ z).2.1 rfl) ho,r⟩
 ·refine(I.hok b u e).JA (λc v hc q=>k c v ?_ q) (λc q=>q) λc ys q=>q
  rcases hc with z | z
  ·rw[z];exact nf b u e
  ·exact nf c _ z
end
def pw (K:Km)(H:Hp)(a:Addr)(tt:Bool)(xs:List V):Prop:=if tt then SqT K H a xs else SqL K H a xs
def Jc (K:Km)(a:Addr)(tt:Bool):It:=
 ⟨λi H=> ∃xs x,pw K H a tt xs/\xs[i]? =some x,λi H x H'=> ∃p v,x= .ref p/\H p=none/\H'=upd H p (.tup [.int (i:Nat),v])/\∀xs,pw K H a tt xs->xs[i]? =some v,λi H=> ∃xs,pw K H a tt xs/\xs.length<=i⟩
def itAt (tt:Bool)(h:Heap)(it a:Addr)(i:Nat):Prop:=if tt then h.IsTupleIter it a i else h.IsListIter it a i
theorem itAt.obj {tt:Bool}{h:Heap}{it a:Addr}{i:Nat}(st:itAt tt h it a i):∃o,h.get? it=some o/\∀v,o.data≠ .cell v:=by
 cases tt with
 | true=>obtain⟨o,e,c,d⟩:=(show h.IsTupleIter it a i from st);exact⟨o,e,λv z=>by rw[d]at z;cases z⟩
 | false=>obtain⟨o,e,c,d⟩:=(show h.IsListIter it a i from st);exact⟨o,e,λv z=>by rw[d]at z;cases z⟩
theorem itAt.keep {tt:Bool}{h h':Heap}{it a:Addr}{i:Nat}(st:itAt tt h it a i)(k:∀o,h.get? it=some o->h'.get? it=some o):itAt tt h' it a i:=by
 cases tt with
 | true=>obtain⟨o,e,r⟩:=(show h.IsTupleIter it a i from st);exact(show h'.IsTupleIter it a i from⟨o,k o e,r⟩)
 | false=>obtain⟨o,e,r⟩:=(show h.IsListIter it a i from st);exact(show h'.IsListIter it a i from⟨o,k o e,r⟩)
theorem x6 {P:KS}{w:LA}{K:Km}{elts:List Expr}{kk:Nat}{pos:Pos}(tt:Bool)(a e it:Addr)(hei:e≠it) :
  yX P w K (.Tuple elts kk pos) (Jc K a tt) [e,it] e (λi h=>(∃old,IsEnum h e it i old)/\itAt tt h it a i) where
 mem:=by simp
 obj:=λi h st b hb=>by
  obtain⟨⟨old,he⟩,hi⟩:=st;rcases Ky.mp hb with rfl | hb
  ·exact⟨_,he,λv z=>by have z':R4 _=Qy v:=z;cases z'⟩
  ·rw[KQ.mp hb];exact hi.obj
 keep:=λi h h' st k=>by
  obtain⟨⟨old,he⟩,hi⟩:=st;exact⟨⟨old,k e (by simp) _ he⟩,hi.keep λo q=>k it (by simp) o q⟩
 item:=by
  intro X hP hw hK hc i pins s σ H E I hf st hg;subst hP hw hK;obtain⟨xs,x,hq,hx⟩:=hg;obtain⟨⟨old,he⟩,hi⟩:=st
  -- by what is walked
  have key:∀(its:List Kq),Vals xs its->(∀ys,pw X.K H a tt ys->ys=xs)->∀(fp0:List Addr) (St:Nat->Heap->Prop),Draws X.prog X.w X.A.in1 it fp0 its.toArray.size (λi v=>its.toArray[i]? =some v) St->e∉fp0->it∈fp0->St i s.heap →
    (∀h',St (i+1) h'->itAt tt h' it a (i+1)) →
    wpAny (model X.prog X.w) X.A (pyNext (.ref e)) (λr s1=> ∃u,r=some u/\wpAny (model X.prog X.w) X.A (NO (.Tuple elts kk pos) (.ref e) u) (λ_ s2=> ∃x' H',Inv X pins σ H' s2/\RelV x' u/\(Jc X.K a tt).yld i H x' H' ∧
     ((∃old,IsEnum s2.heap e it (i+1:Nat) old)/\itAt tt s2.heap it a (i+1))/\∀b∈ [e,it],H' b=none) E s1) E s:=by
   intro its rv uniq fp0 St D hef hif hst hnext;obtain⟨u,hu,ru⟩:=rv.get hx
   have hlt:i<its.toArray.size:=by
    have:=(KC.mp hu).1
    simpa using this
   have W:=WalksT.enumerateD D e hei hef hif;refine W.item i s _ _ hlt ⟨⟨old,he⟩,hst⟩ λTp vals h1 tk hPt hTsz hTup hMid hk=>⟨.ref Tp,rfl,?_⟩
   refine W.go elts kk pos i Tp { s with heap:=h1,toks:=tk } _ _ hMid λh2 hst2 hk2=> ?_
   obtain⟨t,x',hPx,hvals⟩:=hPt;subst hvals
   have hxe:x'=u:=by
    have h1':its.toArray[i]? =some x':=hPx
    have h2':its.toArray[i]? =some u:=by simpa using hu
    rw[h1']at h2';exact K7 h2'
   subst hxe
   have hTw:=W.apart i Tp h1 hMid;obtain⟨oT,eT,rT⟩:=hTup
   have eT2:h2.get? Tp=some oT:=hk2 Tp oT hTw eT
   have kAll:∀b o,b∉ [e,it]->s.heap.get? b=some o->h2.get? b=some o:=λb o hb q=>hk2 b o hb (hk b o hb q)
   obtain⟨⟨old2,he2⟩,hs2⟩:=hst2
   have hit2:=hnext h2 hs2
   have there:∀b∈ [e,it],∃o,h2.get? b=some o:=λb hb=>by
    rcases Ky.mp hb with rfl | hb
    ·exact⟨_,he2⟩
    ·rw[KQ.mp hb];obtain⟨o,q,_⟩:=hit2.obj;exact⟨o,q⟩
   have hn:H Tp=none:=I.hok.fresh hTsz
   have new:ObjOk X.prog X.w (upd H Tp (.tup [.int (i:Nat),x])) h2 Tp (.tup [.int (i:Nat),x]):=
    ⟨by show 2<=sizeLine;decide,[.int (i:Nat) t,x'],.cons ⟨t,rfl⟩ (.cons ru .nil),⟨oT,eT2,rT⟩⟩
   have I2:=I.JH (t':=tk) hf kAll there hTsz new;refine⟨.ref Tp,_,I2,rfl,⟨Tp,x,rfl,hn,rfl,λys hy=>by rw[uniq ys hy];exact hx⟩,⟨⟨old2,he2⟩,hit2⟩,λb hb=> ?_⟩
   have hbT:b≠Tp:=λz=>by
    obtain⟨o,q⟩:∃o,s.heap.get? b=some o:=by
     rcases Ky.mp hb with rfl | hb
     ·exact⟨_,he⟩
     ·rw[KQ.mp hb];obtain⟨o,q,_⟩:=hi.obj;exact⟨o,q⟩
    exact absurd (KA (KF q) hTsz) (by rw[z];exact KZ _)
   rw[aF hbT];exact(hf b hb).1
  have hne:∀b∈ [e,it],a≠b:=λb hb z=>by
   have hb':=(hf b hb).1;rw[<-z]at hb'
   have hbs:=hf b hb
   cases tt with
   | true=>
    have hq':SqT X.K H a xs:=hq;rcases hq' with(q | ⟨o,q⟩) | ⟨o,its,n,q,_⟩
    ·rw[hb']at q;cases q
    ·rw[hb']at q;cases q
    ·rcases hbs.2.2.2.1 with z1 | z1
     ·exact I.ok.noex a o (I.ok.mod.kin a o q) (z▸z1)
     ·exact absurd (KA (KF (I.ok.bs a o (I.ok.mod.kin a o q)).1) (z▸z1)) (KZ _)
   | false=>
    have hq':SqL X.K H a xs:=hq;rcases hq' with(q | ⟨o,q⟩) | ⟨o,its,n,q,_⟩
    ·rw[hb']at q;cases q
    ·rw[hb']at q;cases q
    ·rcases hbs.2.2.2.1 with z1 | z1
     ·exact I.ok.noex a o (I.ok.mod.kin a o q) (z▸z1)
     ·exact absurd (KA (KF (I.ok.bs a o (I.ok.mod.kin a o q)).1) (z▸z1)) (KZ _)
  have hea:e≠a:=λz=>hne e (by simp) z.symm
  have hia:it≠a:=λz=>hne it (by simp) z.symm
  cases tt with
  | true=>
   have hq':SqT X.K H a xs:=hq;obtain⟨its,rv,p,hz⟩:=I.tuple hq'
   exact key its rv (λys hy=>I.Ju hy hq') _ _ (Enu.tupDraws (A:=X.A.in1) (I.ok.hd hc) it a (LO hia) its.toArray) (by simp[hei,hea]) (by simp) ⟨hi,p⟩ λh' z=>z.1
  | false=>
   have hq':SqL X.K H a xs:=hq;obtain⟨its,rv,p,hz⟩:=I.list hq';exact key its rv (λys hy=>I.JB hy hq') _ _ (Draws.list (A:=X.A.in1) (I.ok.hd hc) it a (LO hia) its.toArray) (by simp[hei,hea]) (by simp) ⟨hi,p.isList⟩ λh' z=>z.1
 done:=by
  intro X hP hw hK hc i pins s σ H E I hf st hg;subst hP hw hK;obtain⟨xs,hq,hx⟩:=hg;obtain⟨⟨old,he⟩,hi⟩:=st
  have fin:∀h',Sa it s.heap h'->(none:Option Kq)=none/\Inv X pins σ H { s with heap:=h' }:=λh' eb=>⟨rfl,I.Jx (t':=s.toks) hf λb o hb q=>eb b o (λz=>hb (by simp[z])) q⟩
  cases tt with
  | true=>
   have hq':SqT X.K H a xs:=hq;obtain⟨its,rv,p,hz⟩:=I.tuple hq'
   have hl:=rv.length
   have hnone:its.toArray[i]? =none:=by simp;omega
   have hT:s.TypeIs (.ref e) "enumerate":=⟨_,he,rfl⟩;unfold pyNext;refine Kn (Pk (LM (name:=KL "__next__") hT PN (Mq PN hT F.entry_enumerate_next ?_ (F.args_enumerate_next_1 _))))
   show wpAny (model X.prog X.w) _ (field (.ref e) 2 >>= _) _ _ _
   refine Kn (Ly he rfl (x:=.ref it) rfl ?_)
   refine Kn (Enu.tupStop (I.ok.hd hc) hi p hnone λh' x he' hx'=> ?_)
   obtain⟨o,ho,hcl⟩:=hx'
   exact Kn (RV (T:="StopIteration") (b:=true) ⟨o,ho,hcl⟩ isSubtype_stop (Kz (fin h' he')))
  | false=>
   have hq':SqL X.K H a xs:=hq;obtain⟨its,rv,p,hz⟩:=I.list hq'
   have hl:=rv.length
   have hnone:its.toArray[i]? =none:=by simp;omega
   exact wpAny_pyNext_enum_end (I.ok.hd hc) he hi p.isList hnone fin
 self:=λ_ _ _ _ _ st h=>by
  obtain⟨⟨old,he⟩,_⟩:=st;exact Rn he h
section
variable {X:Cx}{elts:List Expr}{kk:Nat}{tpos:Pos}
theorem pe:K9 "enumerate" =some (.type "enumerate"):=by decide+kernel
def iEnu (K:Km)(tl:TA):TI:=λσ H R=>tl σ H λvs H1=> ∃a tt,vs= [.ref a]/\(∃xs,pw K H1 a tt xs)/\R (Jc K a tt) H1
theorem CP {l:Expr}{tl:TA}{p pos:Pos}(hg:Gl X "enumerate")(hm:X.mg "enumerate" =none)(hl:PA X [l] tl)(hs:KG [l] X.env= [(false,eval l X.env)]:=by rfl):PI X (.Tuple elts kk tpos) (.Call (.Name "enumerate" p) [l] [] pos) (iEnu X.K tl):=by
 intro pins s σ H R I h;refine Call_ (fX I hg hm pe (Lq (cr (hl pos pins s σ H _ I h) λus s1 ⟨vs,H1,I1,r1,q1⟩=> ?_) hs rfl))
 obtain⟨a,tt,e,⟨xs,hq⟩,q⟩:=q1;subst e;obtain⟨u,rfl,ru⟩:=kS r1;cases ru
 have fin:∀h',IsEnum h' (s1.heap.objs.size+1) s1.heap.objs.size 0 .none->itAt tt h' s1.heap.objs.size a 0->h'.objs.size=s1.heap.objs.size+2->(∀b o,s1.heap.get? b=some o->h'.get? b=some o) →
   wpAny (model X.prog X.w) X.A (pyIter (.ref (s1.heap.objs.size+1))) (PIE X pins σ (.Tuple elts kk tpos) R) X.xe { s1 with heap:=h' }:=λh' he hi hsz hk=>by
  refine Rn he ?_
  have I2:Inv X pins σ H1 { s1 with heap:=h' }:=I1.kept (t':=s1.toks) hk
  refine⟨s1.heap.objs.size+1,[s1.heap.objs.size+1,s1.heap.objs.size],_,_,H1,rfl,I2,x6 tt a (s1.heap.objs.size+1) s1.heap.objs.size (Nat.succ_ne_self _),⟨⟨_,he⟩,hi⟩,λb hb=> ?_,q⟩
  rcases Ky.mp hb with rfl | hb
  ·exact I1.JG (by omega) (I1.hok.fresh (by omega))
  ·rw[KQ.mp hb];exact I1.JG (KB _) (I1.hok.fresh (KB _))
 cases tt with
 | true=>
  have hq':SqT X.K H1 a xs:=hq;obtain⟨its,rv,pl,hz⟩:=I1.tuple hq'
  exact Enu.callT pl λh' he hi hsz hk=>fin h' he hi hsz hk
 | false=>
  have hq':SqL X.K H1 a xs:=hq;obtain⟨its,rv,pl,hz⟩:=I1.list hq';exact call_enumerate_list pl.isList λh' he hi hsz hk=>fin h' he hi hsz hk
end
end L2
namespace Tr
open PySem PySem.Spec PyProof.Rows L2
section
variable {X:Cx}{a:Expr}{fa:En->Rs T}{fs:En->Rs (List T)}{p pos:Pos}
def iS (f:En->Rs T)(Z:En):Rs (List T):=do
 let x <-f Z
 match x with
 | .lst l=> .ok l
 | .tup l=> .ok l
 | _=> .bad
theorem Fq {tg:Expr}(ha:cP X a fa):yY X tg a (iS fa):=by
 intro pins s σ H R I ⟨Z,O,E,h⟩;unfold iS at h
 cases q:fa Z with
 | bad=>rw[q]at h;exact h.elim
 | err c=>exact wU ha pins s σ H R I ⟨Z,O,E,by unfold iL;rw[q]at h ⊢;exact h⟩
 | ok x=>
  rw[q,aE]at h
  cases x with
  | lst l=>exact wU ha pins s σ H R I ⟨Z,O,E,by unfold iL;rw[q];exact h⟩
  | tup l=>exact Fp ha pins s σ H R I ⟨Z,O,E,by unfold iT;rw[q];exact h⟩
  | _=>exact h.elim
def ca:Nat->List T->List T
 | _,[] => []
 | n,t::r=> .tup [.int n,t] ::ca (n+1) r
theorem qX:∀(l:List T) (n i:Nat),(ca n l)[i]? =(l[i]?).map λt=>T.tup [.int ((n+i:Nat):Int),t]
 | [],n,i=>by simp[ca]
 | t::l,n,0=>by simp[ca]
 | t::l,n,i+1=>by
  rw[ca,MX,qX l (n+1) i,MX]
  congr 2
  funext t
  congr 4
  omega
theorem qW:∀(l:List T) (n:Nat),(ca n l).length=l.length
 | [],n=>rfl
 | t::l,n=>by rw[ca,Kx,Kx,qW l]
def iE (f:En->Rs (List T))(Z:En):Rs (List T):=do
 let xs <-f Z
 match xs with
 | [x] =>match x.items with
  | some l=> .ok (ca 0 l)
  | none=> .bad
 | _=> .bad
theorem Cz {elts:List Expr}{kk:Nat}{tpos:Pos}(hm:X.mg "enumerate" =none)(ha:qr X [a] fs)(hg:Gl X "enumerate":=by rfl)(hs:KG [a] X.env= [(false,eval a X.env)]:=by rfl) :
  yY X (.Tuple elts kk tpos) (.Call (.Name "enumerate" p) [a] [] pos) (iE fs):=PI.imp (CP hg hm ha hs) λσ H R hh_=>by
 obtain⟨Z,O,E,h⟩:=hh_;obtain⟨Z1,O1,E1,h1⟩:=fN E h;refine⟨Z1,O1,E1,Post.mono h1 λts H1 s1 q vs r=> ?_⟩
 obtain⟨t',r',s',E',q'⟩:=q vs r
 split at q'
 ·rename_i x0
  obtain⟨v,rfl,rv⟩:=r'.one
  split at q'
  ·rename_i l hl
   have main:∀(aa:Addr) (tt:Bool) (ws:List V),v= .ref aa->¬ O aa->Reps X.K O H1 l ws->pw X.K H1 aa tt ws->(∀P Hc,SameO P H1 Hc->¬ P aa->pw X.K Hc aa tt ws)->¬ Nw X.K H1 aa →
     ∃a tt,[v] = [V.ref a]/\(∃xs,pw X.K H1 a tt xs)/\R (Jc X.K a tt) H1:=λaa tt ws e n z sq mv nn=>by
    refine⟨aa,tt,by rw[e],⟨ws,sq⟩,q' H1 (Same.refl H1) _ λP O' hP hO i Hc hsm htr=> ?_⟩
    have hnP:¬ P aa:=λy=>(hP aa y).elim n nn
    have sqc:=mv P Hc hsm hnP;refine⟨λhi=>⟨ws,sqc,by rw[<-z.length,<-qW l 0];exact hi⟩,λt ht=> ?_⟩
    rw[qX]at ht
    cases e1:l[i]? with
    | none=>rw[e1]at ht;cases ht
    | some t0=>
     rw[e1]at ht;cases ht;obtain⟨v0,f1,f2⟩:=z.get e1;refine⟨⟨ws,v0,sqc,f1⟩,λx Hc' y=> ?_⟩
     obtain⟨pp,vv,e2,hpn,e3,hy⟩:=y
     have:=hy ws sqc;rw[f1]at this;cases this;subst e2 e3;refine⟨aX hpn _,gB hpn (λzz=> ?_) (Reps.Jk (by simpa using Rep.Jo _) (Reps.Jk (f2.move hP hO hsm) Reps.Jn))⟩
     obtain⟨o,w⟩:=htr pp zz;rw[hpn]at w;cases w
   cases x0 with
   | tup m=>
    cases hl;obtain⟨aa,ws,e,n,qq,z⟩:=Rep.Jg.mp rv
    exact main aa true ws e n z (show SqT X.K H1 aa ws from SqT.of qq) (λP Hc hsm hn=>show SqT X.K Hc aa ws from SqT.of (hsm _ _ qq hn)) λw=>by rw[w.1]at qq;cases qq
   | lst m=>
    cases hl;obtain⟨aa,ws,e,n,qq,z⟩:=Rep.Jh.mp rv
    exact main aa false ws e n z (show SqL X.K H1 aa ws from SqL.of qq) (λP Hc hsm hn=>show SqL X.K Hc aa ws from SqL.of (hsm _ _ qq hn)) λw=>by rw[w.1]at qq;cases qq
   | scr m=>
    cases hl;unfold Rep at rv;obtain⟨aa,e,n,qq⟩:=rv
    exact main aa false _ e n Reps.ints (show SqL X.K H1 aa _ from qq) (λP Hc hsm hn=>show SqL X.K Hc aa _ from Tr.SqL.keep hsm hn qq) (Tr.SqL.nn qq)
   | _=>cases hl
  ·exact q'.elim
 ·exact q'.elim
end
end Tr
namespace Tm
open PySem PyProof.Rows
theorem lW:fillsNumberSlot (.type "tuple") "mul" =pure false:=
 PySem.fillsNumberSlot_seq (id:="tuple.__mul__") (r:=some (.builtin "tuple.__rmul__")) Pm.lookup (by decide+kernel) Q9.lookup (by decide+kernel)
theorem rP:seqRepeat? (.type "tuple")=pure (some (.builtin "tuple.__mul__")):=by
 unfold seqRepeat?;rw[RO (T:="tuple") (name:="__mul__") (id:="tuple.__mul__") Pm.lookup (by decide+kernel),RO (T:="tuple") (name:="__rmul__") (id:="tuple.__rmul__") Q9.lookup (by decide+kernel)]
 rfl
theorem vX (a:Int)(t:Tok)(l:Addr)(items:Array Kq)(n:Nat)(dd:Option Addr)(sl:Array (Option Kq)) :
  Meets (Builtin.«int.__rmul__» ⟨[.int a t,.ref l],[]⟩) (λ_ R s=>s.heap.get? l=some { cls:=.type "tuple",dict:=dd,data:=.seq items n,slots:=sl }/\R (.ok (.ret Value.notImplemented)) s):=
 .of_wp λprog w A R s h=>by obtain⟨hp,g,d,tk,os⟩:=s;obtain⟨hl,h⟩:=h;wp_walk;exact⟨_,rfl,h⟩
open AutoSeq1 (wpAny_loadPart')
theorem AC (l:Addr)(items:Array Kq)(n:Nat)(dd:Option Addr)(sl:Array (Option Kq))(x:Int)(u:Tok)(h1:1<x)(h2:x<2 ^ 31)(hne:items.isEmpty=false)(hz:items.size*x.toNat<=sizeLine)
  (hz2:(O4 (λa b=>a++b) #[] (KJ x.toNat items)).size<=sizeLine) :
  Meets (Builtin.«tuple.__mul__» ⟨[.ref l,.int x u],[]⟩) (λ_ R s=>s.heap.get? l=some { cls:=.type "tuple",dict:=dd,data:=.seq items n,slots:=sl } ∧
   R (.ok (.ret (KM s.heap.objs.size))) { s with heap:=s.heap.push { cls:=MD "tuple",data:=Data.seq (O4 (λa b=>a++b) #[] (KJ x.toNat items)) } }):=
 .of_wp λprog w A R s h=>by
  obtain⟨hp,g,d,tk,os⟩:=s;obtain⟨hl,h⟩:=h
  have hT:SC hp l items:=⟨_,hl,rfl,n,rfl⟩
  have hx:((items.size:Nat):Int)*x=((items.size*x.toNat:Nat):Int):=by
   have e:x=((x.toNat:Nat):Int):=by omega
   rw[Int.natCast_mul,<-e]
  wp_walk using MR hl
  rw[if_neg (by simp;omega)]
  refine Kn (Q0 (s:=⟨hp,g,d,tk,os⟩) hT ?_)
  dsimp only
  rw[if_neg (by rw[hne];simp;omega),if_neg (by rw[hne];simp;omega),hx,if_neg (by have:(sizeLine:Nat)<=1000000000:=(by decide);omega),if_neg (by unfold Builtin.Tuple.tupleTooMany;rw[decide_eq_true_iff];omega)]
  refine Kn (m:=Mo _) (Md ?_ hz2)
  exact Kz ⟨_,rfl,h⟩
section
variable {prog:KS}{w:LA}{A:La}{E:Kq->Kt->Prop}{s:Kt}
theorem mul_tuple {t:Addr}{vs:List Kq}{k:Int}{tk:Tok}{Q:Kq->Kt->Prop}(ht:SC s.heap t vs.toArray)(h1:1<k)(h2:k<2 ^ 31)(hv:vs≠ [])(hz:vs.length*k.toNat<=sizeLine)
  (h:Q (.ref s.heap.objs.size) { s with heap:=s.heap.push { cls:=.type "tuple",data:=.seq (KJ k.toNat vs).flatten.toArray } }) :
  wpAny (model prog w) A (Mh .Mult (.ref t) (.int k tk)) Q E s:=by
 obtain⟨⟨cls,dd,data,sl⟩,ho,hc,n,hd⟩:=id ht;simp only at hc hd;subst hc hd
 have e:O4 (λa b=>a++b) #[] (KJ k.toNat vs.toArray)=(KJ k.toNat vs).flatten.toArray:=by
  have q:=L2.foldl_rep vs k.toNat []
  simpa using q
 refine OY (T:="tuple") (U:="int") (by decide) ⟨_,ho,rfl⟩ (λs'=>P7 s' k tk) lW R7 Ou rP RK.lookup
  (Nh Ou (P7 s k tk) RL (Q8 _ _) (vX k tk t vs.toArray n dd sl)
   ⟨ho,rfl,⟨_,ho,rfl⟩,Nh Pm ⟨_,ho,rfl⟩ F.entry_tuple_mul (F.args_tuple_mul_2 _ _) (AC t vs.toArray n dd sl k tk h1 h2 (by simpa using hv) (by simpa using hz) (by rw[e,KH,L2.len_rep,Rt];exact hz)) ⟨ho,?_⟩⟩)
 rw[e];exact h
end
end Tm
namespace Tr
open PySem PySem.Spec PyProof.Rows L2
section
variable {X:Cx}
def bP (x y:T):Rs T:=match x,y with
 | .tup l,.int k=>if 1<k/\k<2 ^ 31/\l≠ []/\l.length*k.toNat<=sizeLine then .ok (.tup (KJ k.toNat l).flatten)else .bad
 | x,y=>wg x y
instance (l:List T):Decidable (l≠ []):=by cases l <;> simp <;> infer_instance
theorem cI:OpT X (Mh .Mult) bP:=by
 intro pins s σ H O x y vx vy ux uy Q I hf rx ry r1 r2 hp;unfold bP at hp
 split at hp
 ·rename_i l k
  split at hp
  ·rename_i h
   obtain⟨a,vs,e1,n1,q1,z1⟩:=Rep.Jg.mp rx;subst e1;cases Rep.Jf.mp ry;cases r1;obtain⟨tk,rfl⟩:=r2;obtain⟨its,rv,pl,hz⟩:=I.tuple (SqT.of q1)
   have hl1:=z1.length
   have hl2:=rv.length
   have hne:its≠ []:=λz=>h.2.2.1 (List.eq_nil_of_length_eq_zero (by rw[hl1,hl2,z];rfl))
   refine Tm.mul_tuple pl h.1 h.2.1 hne (by rw[<-hl2,<-hl1];exact h.2.2.2) ?_
   have hn:=I.hok.fresh (KB _);refine⟨.ref _,_,I.laid (t':=s.toks) (o:=.tup (KJ k.toNat vs).flatten) (λb ob q=>Kv _ q) (KB _) ?_,rfl,hp _ (aX hn _) _ (gB hn (hf _ hn) (z1.rep _))⟩
   refine⟨?_,_,rv.rep k.toNat,R5 _ _⟩
   rw[len_rep,Rt,<-hl1];exact h.2.2.2
  ·exact hp.elim
 ·exact FG pins s σ H O _ _ vx vy ux uy Q I hf rx ry r1 r2 hp
end
def F6 (outer:List (Str×Nd))(N:List Str)(names:List (Str×Nd))(N':List Str)(src:List (Option Nat)):Bool:=
 names.all (λy=>y.2 != .cell||names.lookup y.1 == some .cell)&&names.all (λy=>y.2 != .local||names.lookup y.1 == some .local)&&src.length == N'.length&&
 (Lu N'.length).all (λj=>match src[j]? with
  | some (some i)=>match N'[j]? with
   | some x=>N[i]? == some x&&names.lookup x == some .free
   | none=>true
  | _=>true)&&
 names.all (λy=>y.2 != .free||(outer.lookup y.1 == some .cell||outer.lookup y.1 == some .free))
theorem LcScope.by {X:Cx}{scope:NM}{N N':List Str}{src:List (Option Nat)}{names:List (Str×Nd)}(hN:X.N=N)(hs:X.env.scope.names=names)(hk:scope.kind= .function)(h:F6 names N scope.names N' src=true):LcScope X scope N' src:=by
 unfold F6 at h;simp only[Ku]at h;obtain⟨⟨⟨⟨h1,h2⟩,h3⟩,h4⟩,h5⟩:=h
 have a1:=KY.mp h1
 have a2:=KY.mp h2
 have a4:=KY.mp h4
 have a5:=KY.mp h5;refine⟨hk,λy hy hl=>by have:=a1 y hy;rw[hl]at this;simpa using this,λy hy hl=> ?_,by simpa using h3,λj i x e1 e2=> ?_,λx hx=> ?_⟩
 ·have:=a2 y hy
  rw[hl]at this
  simpa using this
 ·have hj:j<N'.length:=(KC.mp e2).1
  have:=a4 j (LW.mpr hj);rw[e1]at this;simp only[e2]at this;rw[Ku]at this;rw[hN];exact⟨by simpa using this.1,by simpa using this.2⟩
 ·have:=a5 _ hx
  simp only[bne_self_eq_false,Pe,Sd]at this
  show X.env.scope.names.lookup x=_\/X.env.scope.names.lookup x=_
  rw[hs];rcases this with z | z
  ·exact .inl (by simpa using z)
  ·exact .inr (by simpa using z)
def bq:Expr->Bool
 | .Starred .. =>false
 | _=>true
def bv:List Expr->Bool
 | [] =>true
 | e::r=>bq e&&bv r
theorem aY {e:Expr}{es:List Expr}{env:Env}(h:bq e=true):KG (e::es) env=(false,eval e env)::KG es env:=by
 cases e <;> first | rfl | cases h
theorem fO {pos:Pos}{env:Env}:∀{es:List Expr},bv es=true->(backTo pos (KG es env)).any (·.1)=false
 | [],_=>rfl
 | e::r,h=>by
  unfold bv at h;rw[Ku]at h;rw[aY h.1]
  have ih:=fO (pos:=pos) (env:=env) h.2
  show(false||(backTo pos (KG r env)).any (·.1))=false
  rw[ih];rfl
section
variable {X:Cx}{a b e:Expr}{es:List Expr}{fa:En->Rs T}{fs:En->Rs (List T)}{pos p p2:Pos}{x:Str}
theorem qa_c {f:En->Rs T}{g:En->Rs (List T)}(he:cP X e f)(hr:qr X es g)(hn:bq e=true:=by rfl):qr X (e::es) (ac f g):=CC he hr (aY hn)
theorem q_cB {id:String}{g:List T->Rs T}(hc:CallT X (.builtin id) g)(hm:X.mg x=none)(hv:K9 x=some (.builtin id))(ha:qr X (e::es) fs)(hn:bv (e::es)=true:=by rfl)(hg:Gl X x:=by rfl)(h1:x≠ "__name__":=by decide)(h2:gm x:=by decide) :
  cP X (.Call (.Name x p) (e::es) [] pos) (cl g fs):=by
 unfold bv at hn;rw[Ku]at hn;exact CG hc hm hv ha hg h1 h2 (aY hn.1) (fO hn.2)
theorem q_cT {Ty:String}{g:List T->Rs T}(hc:CallT X (.type Ty) g)(hm:X.mg x=none)(hv:K9 x=some (.type Ty))(ha:qr X (e::es) fs)(hn:bv (e::es)=true:=by rfl)(hg:Gl X x:=by rfl)(h1:x≠ "__name__":=by decide)(h2:gm x:=by decide) :
  cP X (.Call (.Name x p) (e::es) [] pos) (cl g fs):=by
 unfold bv at hn;rw[Ku]at hn;exact zV hc hm hv ha hg h1 h2 (aY hn.1) (fO hn.2)
theorem q_c {n k:Nat}{f:Addr}{fd:LL}{ps:List Str}{g:List T->Rs T}(F:zi X.prog X.w X.K X.mg X.base k f fd ps n g)(hr:Room k X.A)(hm:X.mg x=some (.ref f))(hk:Me X.K (.ref f)=true)(hb:Binds X.K fd ps [])
  (hl:∀Z ts,fs Z= .ok ts->ts.length=n) (ha:qr X (e::es) fs) (hps:ps.length=n:=by rfl) (hn:bv (e::es)=true:=by rfl) (hg:Gl X x:=by rfl) (h2:gm x:=by decide):cP X (.Call (.Name x p) (e::es) [] pos) (cl g fs):=by
 unfold bv at hn;rw[Ku]at hn;exact Fv F hr hm hk hb hps hl ha hg h2 (aY hn.1) (fO hn.2)
theorem q_is {tn:Str}{Ty:String}(hm:X.mg "isinstance" =none)(hmt:X.mg tn=none)(hv:K9 tn=some (.type Ty))(ha:cP X a fa)(hn:bq a=true:=by rfl)(hg:Gl X "isinstance":=by rfl)(hgt:Gl X tn:=by rfl)
  (h1:tn≠ "__name__":=by decide) (h2:gm tn:=by decide):cP X (.Call (.Name "isinstance" p) [a,.Name tn p2] [] pos) (o1 (De Ty) fa):=
 Hv hm hmt hv ha hg hgt h1 h2 (aY hn) (fO rfl) (aY rfl)
end
theorem Em (Z:En)(ts:List T)(h:ag Z= .ok ts):ts.length=0:=by cases h;rfl
theorem El {n:Nat}{f:En->Rs T}{g:En->Rs (List T)}(hg:∀Z ts,g Z= .ok ts->ts.length=n)(Z:En)(ts:List T)(h:ac f g Z= .ok ts):ts.length=n+1:=by
 unfold ac at h
 cases q:f Z with
 | bad=>rw[q]at h;cases h
 | err c=>rw[q]at h;cases h
 | ok t=>
  rw[q,aE]at h
  cases q2:g Z with
  | bad=>rw[q2]at h;cases h
  | err c=>rw[q2]at h;cases h
  | ok r=>
   rw[q2,aE]at h;cases h;rw[Kx,hg Z r q2]
theorem jY {k:Nat}{A:La}(h:Room k A):A.units+60<cLine:=by have:=h.un;omega
theorem Iu {k:Nat}{A:La}(h:Room k A):A.units+61<cLine:=by have:=h.un;omega
structure Fn (K:Km)(mg:Str->Option Kq)(x:Str)(st:Stmt)(ps:List Str)(f:Addr)(fd:LL):Prop where
 fn:L2.Fun K x x st f fd
 bd:Binds K fd ps []
 mg:mg x=some (.ref f)
def val (n m:Nat)(F:En->Rs Fl)(ts:List T):Rs T:=if ts.length=n then bN F (aR m ts)else .bad
theorem Ex {n m:Nat}{F:En->Rs Fl}{ts:List T}{t:T}(h:val n m F ts= .ok t):bN F (aR m ts)= .ok t:=by
 unfold val at h
 split at h
 ·exact h
 ·cases h
theorem sp_script {K:Km}{H:Hp}{a:Addr}{ns:List Int}{g:List T->Rs T}{E:XK}(hS:SqL K H a (ns.map V.int))(h:g [.scr ns] = .ok (.bl true)):spP K 1 g [.ref a] H (λv _=>v= .bl true) E:=by
 refine⟨[.scr ns],λ_=>False,Reps.Jk ?_ Reps.Jn,λ_ z=>z.elim,rfl,?_⟩
 ·unfold Rep;exact⟨a,rfl,λz=>z,hS⟩
 ·rw[h];exact λv H' _ r=>Rep.Jj.mp r
theorem uc {α:Type}{l:List α}{i:Nat}{z:α}(h:l[i]? =some z):l.set i z=l:=by
 obtain⟨hi,rfl⟩:=KC.mp h
 exact PP hi
def Mn.set (M:Mn)(i:Nat)(m:Ow):Mn:=λj=>if j=i then m else M j
theorem Mn.JC {M:Mn}{i:Nat}{m:Ow}{a:Addr}(h:(M.set i m).u a):m a\/M.u a:=by
 obtain⟨j,h⟩:=h;unfold Mn.set at h
 by_cases z:j=i
 ·rw[if_pos z]at h;exact .inl h
 ·rw[if_neg z]at h;exact .inr ⟨j,h⟩
theorem Mn.J5 {M:Mn}{i:Nat}{m:Ow}:M.set i m i=m:=by unfold Mn.set;rw[if_pos rfl]
theorem Mn.JF {M:Mn}{i j:Nat}{m:Ow}(h:j≠i):M.set i m j=M j:=by unfold Mn.set;rw[if_neg h]
theorem RowsR.move {K:Km}{O O' P:Ow}{H H':Hp}(hP:∀a,P a->O a\/Nw K H a)(hO:∀a,O' a->O a\/Nw K H a)(h:SameO P H H'):∀{rs:List (List T×List T)} {as:List Addr},(∀b∈as,¬P b)->RowsR K O H rs as->RowsR K O' H' rs as
 | [],_,_,r=>r
 | _::_,_,hb,⟨b,bs,kvs,e1,e2,e3,e4,e5⟩=>by
  subst e1;exact⟨b,bs,kvs,rfl,h _ _ e2 (hb b Kr),e3,e4.move hP hO h,e5.move hP hO h λc hc=>hb c (Ko _ hc)⟩
theorem ORep.move {K:Km}{O O' P M:Ow}{H H':Hp}{o:OT}{v:V}(hP:∀a,P a->O a\/Nw K H a)(hO:∀a,O' a->O a\/Nw K H a)(h:SameO P H H')(hM:∀a,M a->¬ P a)(r:ORep K O M H o v):ORep K O' M H' o v:=by
 cases o with
 | lst l=>obtain⟨a,vs,e1,e2,e3,e4⟩:=r;exact⟨a,vs,e1,e2,h _ _ e3 (hM a ((e2 a).mpr rfl)),e4.move hP hO h⟩
 | dct ks ts=>obtain⟨a,kvs,e1,e2,e3,e4,e5⟩:=r;exact⟨a,kvs,e1,e2,h _ _ e3 (hM a ((e2 a).mpr rfl)),e4,e5.move hP hO h⟩
 | dd ks rows=>
  obtain⟨a,kvs,as,e1,e2,e3,e4,e5,e6,e7,e8⟩:=r;exact⟨a,kvs,as,e1,e2,e3,e4,h _ _ e5 (hM a ((e2 a).mpr (.inl rfl))),e6,e7,e8.move hP hO h λb hb=>hM b ((e2 b).mpr (.inr hb))⟩
theorem RowsR.mtb {K:Km}{O:Ow}{H:Hp}:∀{rs:List (List T×List T)} {as:List Addr},RowsR K O H rs as->∀b∈as,∃kvs,H b=some (.dT kvs)
 | [],_,r,b,hb=>by unfold RowsR at r;subst r;simp at hb
 | _::_,_,⟨b0,bs,kvs,e1,e2,e3,e4,e5⟩,b,hb=>by
  subst e1;rcases Ky.mp hb with rfl | hb
  ·exact⟨kvs,e2⟩
  ·exact e5.mtb b hb
def OT.isD:OT->Bool
 | .lst _=>false
 | _=>true
theorem ORep.kind {K:Km}{O M:Ow}{H:Hp}{o:OT}{v:V}(r:ORep K O M H o v):∀a,M a->if o.isD then ∃kvs,H a=some (.dT kvs)else ∃vs,H a=some (.lst vs):=λa z=>by
 cases o with
 | lst l=>obtain⟨b,vs,e1,e2,e3,e4⟩:=r;cases (e2 a).mp z;exact⟨vs,e3⟩
 | dct ks ts=>obtain⟨b,kvs,e1,e2,e3,e4,e5⟩:=r;cases (e2 a).mp z;exact⟨kvs,e3⟩
 | dd ks rows=>
  obtain⟨b,kvs,as,e1,e2,e3,e4,e5,e6,e7,e8⟩:=r
  rcases(e2 a).mp z with z | z
  ·cases z;exact⟨kvs,e5⟩
  ·exact e8.mtb a z
theorem ORep.mtb {K:Km}{O M:Ow}{H:Hp}{o:OT}{v:V}(r:ORep K O M H o v)(a:Addr)(z:M a):Mtb H a:=by
 have:=r.kind a z
 split at this
 ·exact .inr this
 ·exact .inl this
theorem ul {K:Km}{O:Ow}{H:Hp}:∀{rs:List (List T×List T)} {as:List Addr},(∀b∈as,¬O b)->RowsR K O H rs as->Reps K O H (rs.map λr=>T.dct r.1 r.2) (as.map V.ref)
 | [],_,_,r=>by unfold RowsR at r;subst r;exact Reps.Jn
 | _::_,_,hn,⟨b,bs,kvs,e1,e2,e3,e4,e5⟩=>by
  subst e1;exact Reps.Jk (Rep.Jm.mpr ⟨b,kvs,rfl,hn b Kr,.inl e2,e3,e4⟩) (ul (λc hc=>hn c (Ko _ hc)) e5)
theorem RowsR.less {K:Km}{O O':Ow}{H:Hp}(sub:∀a,O' a->O a):∀{rs:List (List T×List T)} {as:List Addr},RowsR K O H rs as->RowsR K O' H rs as
 | [],_,r=>r
 | _::_,_,⟨b,bs,kvs,e1,e2,e3,e4,e5⟩=>⟨b,bs,kvs,e1,e2,e3,e4.less sub,e5.less sub⟩
theorem ORep.rep {K:Km}{O O' M:Ow}{H:Hp}{o:OT}{v:V}(sub:∀a,O' a->O a)(hn:∀a,M a->¬ O' a)(r:ORep K O M H o v):Rep K O' H o.view v:=by
 cases o with
 | lst l=>obtain⟨a,vs,e1,e2,e3,e4⟩:=r;exact Rep.Jh.mpr ⟨a,vs,e1,hn a ((e2 a).mpr rfl),e3,e4.less sub⟩
 | dct ks ts=>obtain⟨a,kvs,e1,e2,e3,e4,e5⟩:=r;exact Rep.Jm.mpr ⟨a,kvs,e1,hn a ((e2 a).mpr rfl),.inl e3,e4,e5.less sub⟩
 | dd ks rows=>
  obtain⟨a,kvs,as,e1,e2,e3,e4,e5,e6,e7,e8⟩:=r;refine Rep.Jm.mpr ⟨a,kvs,e1,hn a ((e2 a).mpr (.inl rfl)),.inl e5,e6,?_⟩
  rw[e7];exact ul (λb hb=>hn b ((e2 b).mpr (.inr hb))) (e8.less sub)
section
variable {K:Km}{B:Ow}{M:Mn}{H H':Hp}{Z:En}{σ:L2.St}{i:Nat}{o o':OT}{v:V}{m:Ow}
theorem Ev.new (E:Ev K B M H Z σ)(hl:i<Z.length)(hm:∀a,m a->Nw K H a)(s:Same H H')(r:ORep K (OO B (M.set i m)) m H' o v) :
  Ev K B (M.set i m) H' (Z.set i (.ow o)) (σ.set i (some v))/\∀a,(M.set i m).u a->M.u a\/Nw K H a:=by
 have hls:i<σ.length:=by rw[<-E.env.len];exact hl
 have sub:∀a,(M.set i m).u a->M.u a\/Nw K H a:=λa z=>(Mn.JC z).elim (λw=> .inr (hm a w)) .inl
 have subO:∀a,OO B (M.set i m) a->OO B M a\/Nw K H a:=λa z=>z.elim (λw=> .inl (.inl w)) λw=>(sub a w).elim (λy=> .inl (.inr y)) .inr
 have dX:∀a,Nw K H a->¬ OO B M a:=λa w z=>by
  obtain⟨o,e⟩:=(E.env.trk a z).some;rw[w.1]at e;cases e
 refine⟨⟨⟨by rw[LS,LS];exact E.env.len,λj t e=> ?_,λj o' e=> ?_,λj a z=> .inr ⟨j,z⟩,λj k a z1 z2=> ?_,λa z=> ?_⟩,λa z=> ?_⟩,sub⟩
 ·by_cases hj:i=j
  ·subst hj;rw[KW hl]at e;cases e
  ·rw[K1 hj]at e
   obtain⟨w,e1,e2⟩:=E.env.val j t e;exact⟨w,by rw[K1 hj];exact e1,(e2.more subO).same s⟩
 ·by_cases hj:i=j
  ·subst hj
   rw[KW hl]at e
   cases e;exact⟨v,KW hls,by rw[Mn.J5];exact r⟩
  ·rw[K1 hj]at e
   obtain⟨w,e1,e2⟩:=E.env.own j o' e;refine⟨w,by rw[K1 hj];exact e1,?_⟩
   rw[Mn.JF (λz=>hj z.symm)]
   exact(e2.move (P:=ym) (λ_ z=>z.elim) subO (λb u q _=>q) λ_ _ z=>z).same s
 ·unfold Mn.set at z1 z2
  by_cases hj:j=i
  ·by_cases hk:k=i
   ·exact hj.trans hk.symm
   ·rw[if_pos hj]at z1;rw[if_neg hk]at z2
    exact(dX a (hm a z1) (.inr ⟨k,z2⟩)).elim
  ·by_cases hk:k=i
   ·rw[if_neg hj]at z1;rw[if_pos hk]at z2
    exact(dX a (hm a z2) (.inr ⟨j,z1⟩)).elim
   ·rw[if_neg hj]at z1;rw[if_neg hk]at z2
    exact E.env.dis j k a z1 z2
 ·rcases z with z | z
  ·exact(E.env.trk a (.inl z)).same s
  ·rcases Mn.JC z with w | w
   ·exact r.mtb a w
   ·exact(E.env.trk a (.inr w)).same s
 ·intro hb
  rcases Mn.JC z with w | w
  ·exact dX a (hm a w) (.inl hb)
  ·exact E.mine a w hb
theorem Ev.put (E:Ev K B M H Z σ)(hi:Z[i]? =some (.ow o))(hs:σ[i]? =some (some v))(s:SameO (M i) H H')(r:ORep K (OO B M) (M i) H' o' v):Ev K B M H' (Z.set i (.ow o')) σ/\SameO M.u H H':=by
 have hl:i<Z.length:=(KC.mp hi).1
 have inO:∀a,M i a->OO B M a\/Nw K H a:=λa z=> .inl (.inr ⟨i,z⟩)
 have idO:∀a,OO B M a->OO B M a\/Nw K H a:=λa z=> .inl z
 refine⟨⟨⟨by rw[LS];exact E.env.len,λj t e=> ?_,λj o2 e=> ?_,E.env.sub,E.env.dis,λa z=> ?_⟩,E.mine⟩,λb u e n=>s b u e λz=>n ⟨i,z⟩⟩
 ·by_cases hj:i=j
  ·subst hj;rw[KW hl]at e;cases e
  ·rw[K1 hj]at e
   obtain⟨w,e1,e2⟩:=E.env.val j t e;exact⟨w,e1,e2.move inO idO s⟩
 ·by_cases hj:i=j
  ·subst hj
   rw[KW hl]at e
   cases e;exact⟨v,hs,r⟩
  ·rw[K1 hj]at e
   obtain⟨w,e1,e2⟩:=E.env.own j o2 e;exact⟨w,e1,e2.move inO idO s λa z y=>hj (E.env.dis i j a y z)⟩
 ·by_cases hz:M i a
  ·exact r.mtb a hz
  ·rcases E.env.trk a z with⟨vs,e⟩ | ⟨kvs,e⟩
   ·exact .inl ⟨vs,s _ _ e hz⟩
   ·exact .inr ⟨kvs,s _ _ e hz⟩
def disown (i:Nat)(Z:En):En:=match Z[i]? with
 | some (.ow o)=>Z.set i (.va o.view)
 | _=>Z
theorem EnvM.disown {O O':Ow}{Z:En}(E:EnvM K O M H Z σ)(i:Nat)(sub:∀a,O' a->O a)(hn:∀a,M i a->¬ O' a)(hin:∀j a,j≠i->M j a->O' a):EnvM K O' (M.set i ym) H (disown i Z) σ:=by
 have base:EnvM K O' (M.set i ym) H (Z.set i (match Z[i]? with | some (.ow o)=> .va o.view | some x=>x | none=> .em)) σ:=by
  refine⟨by rw[LS];exact E.len,λj t e=> ?_,λj o e=> ?_,λj a z=> ?_,λj k a z1 z2=> ?_,λa z=>E.trk a (sub a z)⟩
  ·by_cases hj:i=j
   ·subst hj
    by_cases hl:i<Z.length
    ·rw[KW hl]at e
     cases q:Z[i]? with
     | none=>rw[q]at e;cases e
     | some z=>
      rw[q]at e
      cases z with
      | em=>cases e
      | va t'=>cases e;obtain⟨w,e1,e2⟩:=E.val i _ q;exact⟨w,e1,e2.less sub⟩
      | ow o=>cases e;obtain⟨w,e1,e2⟩:=E.own i _ q;exact⟨w,e1,e2.rep sub hn⟩
    ·rw[MF (by rw[LS];omega)]at e;cases e
   ·rw[K1 hj]at e
    obtain⟨w,e1,e2⟩:=E.val j t e;exact⟨w,e1,e2.less sub⟩
  ·by_cases hj:i=j
   ·subst hj
    by_cases hl:i<Z.length
    ·rw[KW hl]at e
     cases q:Z[i]? with
     | none=>rw[q]at e;cases e
     | some z=>
      rw[q]at e
      cases z with
      | em=>cases e
      | va t'=>cases e
      | ow o=>cases e
    ·rw[MF (by rw[LS];omega)]at e;cases e
   ·rw[K1 hj]at e
    obtain⟨w,e1,e2⟩:=E.own j o e;refine⟨w,e1,?_⟩
    rw[Mn.JF (λz=>hj z.symm)]
    exact e2.move (P:=ym) (λ_ z=>z.elim) (λa z=> .inl (sub a z)) (λb u q _=>q) λ_ _ z=>z
  ·unfold Mn.set at z
   by_cases hj:j=i
   ·rw[if_pos hj]at z;exact z.elim
   ·rw[if_neg hj]at z;exact hin j a hj z
  ·unfold Mn.set at z1 z2
   by_cases hj:j=i
   ·rw[if_pos hj]at z1;exact z1.elim
   ·by_cases hk:k=i
    ·rw[if_pos hk]at z2;exact z2.elim
    ·rw[if_neg hj]at z1;rw[if_neg hk]at z2;exact E.dis j k a z1 z2
 unfold Tr.disown
 cases q:Z[i]? with
 | none=>rw[q,List.set_eq_of_length_le (List.getElem?_eq_none_iff.mp q)]at base;exact base
 | some z=>
  rw[q]at base
  cases z with
  | em=>rw[uc q]at base;exact base
  | va t=>rw[uc q]at base;exact base
  | ow o=>exact base
theorem Ev.disown (E:Ev K B M H Z σ)(i:Nat):Ev K B (M.set i ym) H (disown i Z) σ/\∀a,(M.set i ym).u a->M.u a:=by
 have sub:∀a,(M.set i ym).u a->M.u a:=λa z=>(Mn.JC z).elim (λw=>w.elim) id
 refine⟨⟨E.env.disown i (λa z=>z.elim .inl λw=> .inr (sub a w)) (λa z y=> ?_) λj a hj z=> .inr ⟨j,by rw[Mn.JF hj];exact z⟩,λa z=>E.mine a (sub a z)⟩,sub⟩
 rcases y with y | ⟨j,y⟩
 ·exact E.mine a ⟨i,z⟩ y
 ·unfold Mn.set at y
  by_cases hj:j=i
  ·rw[if_pos hj]at y;exact y
  ·rw[if_neg hj]at y;exact hj (E.env.dis j i a y z)
end
section
variable {X:Cx}{a:Expr}{es:List Expr}{fa:En->Rs T}{pos p2 p3:Pos}{x:Str}
theorem Ev.subO {K:Km}{B:Ow}{M:Mn}{H:Hp}{i:Nat}{m:Ow}(hm:∀a,m a->Nw K H a)(a:Addr)(z:OO B (M.set i m) a):OO B M a\/Nw K H a:=
 z.elim (λw=> .inl (.inl w)) λw=>(Mn.JC w).elim (λy=> .inr (hm a y)) λy=> .inl (.inr y)
theorem li {K:Km}{H H1:Hp}(s:Same H H1){a:Addr}(n:Nw K H1 a):Nw K H a:=(iA (SameO.of (P:=ym) s) n).elim (λz=>z.elim) id
def G0 (X:Cx)(t:TA):TE:=λσ H Q=>t σ H λxs H1=>xs.length<=sizeLine/\∀p,Nw X.K H1 p->Q (.ref p) (upd H1 p (.lst xs))
theorem CT {t:TA}(h:PA X es t):PE X (.List es pos) (G0 X t):=by
 intro pins s σ H Q I hq;refine QU (cr (h pos pins s σ H _ I hq) λus s1 ⟨xs,H1,I1,r,z,q⟩=>⟨by rw[<-r.length];exact z,?_⟩)
 have hf:H1 s1.heap.objs.size=none:=I1.hok.fresh (KB _)
 have hk:X.K.lookup s1.heap.objs.size=none:=by
  cases q:X.K.lookup s1.heap.objs.size with
  | none=>rfl
  | some o=>exact absurd (KF (I1.kIn _ o q)) (KZ _)
 refine⟨.ref s1.heap.objs.size,upd H1 s1.heap.objs.size (.lst xs),I1.laid (t':=s1.toks) (λb u e=>Kv _ e) (KB _) ?_,rfl,q _ ⟨hf,hk⟩⟩
 exact⟨z,us,0,r,KI _ rfl⟩
def gP (i:Nat)(f:En->Rs (List T))(Z:En):Rs Fl:=do
 let l <-f Z
 if i<Z.length/\l.length<=sizeLine then .ok (.nx (Z.set i (.ow (.lst l))))else .bad
theorem Cp (i:Nat){f:En->Rs (List T)}(hN:X.N.Nodup)(ha:qr X es f)(hi:X.N[i]? =some x:=by rfl)(hx:Loc X.env.scope x:=by first | exact LN rfl | exact Lz rfl)(hs:LF (.List es p2) (some (.Name x p3)) pos.line X.env=pure false:=by rfl)
  (hf:X.fn x=true\/X.env.scope.names.lookup x=some .local:=by first | exact .inl rfl | exact .inr rfl | assumption):pz X (.Assign [.Name x p3] (.List es p2) pos) (gP i f):=PS.imp (n9 hN hi hx (CT ha) hs hf) λD σ H hh_=>by
 obtain⟨Z,B,M,E,h⟩:=hh_;refine⟨Z,OO B M,E.o,?_⟩
 unfold gP at h
 cases q:f Z with
 | bad=>rw[q]at h;exact h.elim
 | err c=>rw[q]at h;exact PostF.xa h
 | ok l=>
  rw[q,aE]at h;intro H1 s1 vs rs
  by_cases hl:i<Z.length/\l.length<=sizeLine
  ·rw[if_pos hl]at h
   refine⟨by rw[<-rs.length];exact hl.2,λp hp=> ?_⟩
   have hm:∀a,a=p->Nw X.K H1 a:=λa z=>z▸hp
   obtain⟨E2,sub⟩:=(E.same s1).new (m:=λa=>a=p) (o:=.lst l) (v:=.ref p) (H':=upd H1 p (.lst vs)) hl.1 hm (aX hp.1 _) ⟨p,vs,rfl,λb=>Ov,aG,(rs.more (Ev.subO hm)).same (aX hp.1 _)⟩
   exact h _ _ _ (SameO.of (s1.trans (aX hp.1 _))) E2 λa z=>(sub a z).imp_right (li s1)
  ·rw[if_neg hl]at h
   exact h.elim
def gL (i:Nat)(f:En->Rs T)(Z:En):Rs Fl:=match Z[i]? with
 | some (.ow (.lst l))=>f Z >>= λt=>if l.length<sizeLine then .ok (.nx (Z.set i (.ow (.lst (l++ [t])))))else .bad
 | _=> .bad
theorem Ev.putL {K:Km}{B:Ow}{M:Mn}{H:Hp}{Z:En}{σ:L2.St}{i:Nat}{o:OT}{l':List T}{b:Addr}{vs':List V}(E:Ev K B M H Z σ)(hi:Z[i]? =some (.ow o))(hs:σ[i]? =some (some (.ref b)))(hM:∀c,M i c↔c=b)(r:Reps K (OO B M) H l' vs') :
  Ev K B M (upd H b (.lst vs')) (Z.set i (.ow (.lst l'))) σ/\SameO M.u H (upd H b (.lst vs')):=by
 have sm:SameO (M i) H (upd H b (.lst vs')):=λc u e nb=>by rw[aF (λz=>nb ((hM c).mpr z))];exact e
 exact E.put hi hs sm ⟨b,vs',rfl,hM,aG,r.move (P:=M i) (λa z=> .inl (.inr ⟨i,z⟩)) (λa z=> .inl z) sm⟩
theorem Fm (i:Nat){apos cpos:Pos}(ha:cP X a fa)(hN:X.N[i]? =some x:=by rfl)(hv:rj X.env.scope x:=by first | exact LN rfl | exact Lz (LN rfl) | exact Lz (Lz rfl))(hn:bq a=true:=by rfl)
  (hbase:LV (.Name x p2) "append" X.env (eval (.Name x p2) X.env)=eval (.Name x p2) X.env:=by rfl) (hline:(apos.endLine == cpos.line)=true:=by rfl)
  (hd:gm x:=by decide) (hcd:(x == ("__classdict__" : Str))=false:=by decide)
  (hsw:LF (.Call (.Attribute (.Name x p2) "append" apos) [a] [] cpos) none pos.line X.env=pure false:=by rfl):pz X (.Expr (.Call (.Attribute (.Name x p2) "append" apos) [a] [] cpos) pos) (gL i fa):=by
 have h1:KG [a] X.env=(false,eval a X.env)::KG [] X.env:=aY hn;refine PS.imp (nr (uC LY PySem.F.slot_list_append PySem.F.type_list_append qM (g9 hN hv hd hcd) (bp ha dF h1) hbase ?_ hline h1 rfl) hsw) λD σ H ⟨Z,B,M,E,h⟩=> ?_
 ·rw[h1];rfl
 unfold gL at h
 split at h
 ·rename_i l hl
  obtain⟨v0,e1,b,vs,rfl,hM,e3,e4⟩:=E.env.own i _ hl;refine⟨.ref b,e1,.inl ⟨rfl,vs,SqL.of e3⟩,Z,OO B M,E.o,?_⟩
  cases q:fa Z with
  | bad=>rw[q]at h;exact h.elim
  | err c=>rw[q]at h;exact PostF.xa h
  | ok t=>
   rw[q,aE]at h
   split at h
   ·rename_i hz
    intro H1 s1 v r
    have e3':=s1 _ _ e3;refine⟨b,vs,v,rfl,rfl,e3',by rw[<-e4.length];exact hz,?_⟩
    obtain⟨g1,g2⟩:=(E.same s1).putL (l':=l++ [t]) (vs':=vs++ [v]) hl e1 hM ((e4.same s1).append (Reps.Jk r Reps.Jn));exact h σ _ M (λc o e nb=>g2 c o (s1 _ _ e) nb) g1 λc z=> .inl z
   ·exact h.elim
 ·exact h.elim
def Gu (i:Nat)(l:List T)(Z:En):T->Rs Fl
 | .lst m=>if l.length+m.length<=sizeLine then .ok (.nx (Z.set i (.ow (.lst (l++m)))))else .bad
 | _=> .bad
def n8 (i:Nat)(f:En->Rs T)(Z:En):Rs Fl:=match Z[i]? with
 | some (.ow (.lst l))=>f Z >>= Gu i l Z
 | _=> .bad
theorem Fi (i:Nat){apos cpos:Pos}(ha:cP X a fa)(hN:X.N[i]? =some x:=by rfl)(hv:rj X.env.scope x:=by first | exact LN rfl | exact Lz (LN rfl) | exact Lz (Lz rfl))(hn:bq a=true:=by rfl)
  (hbase:LV (.Name x p2) "extend" X.env (eval (.Name x p2) X.env)=eval (.Name x p2) X.env:=by rfl) (hline:(apos.endLine == cpos.line)=true:=by rfl)
  (hd:gm x:=by decide) (hcd:(x == ("__classdict__" : Str))=false:=by decide)
  (hsw:LF (.Call (.Attribute (.Name x p2) "extend" apos) [a] [] cpos) none pos.line X.env=pure false:=by rfl):pz X (.Expr (.Call (.Attribute (.Name x p2) "extend" apos) [a] [] cpos) pos) (n8 i fa):=by
 have h1:KG [a] X.env=(false,eval a X.env)::KG [] X.env:=aY hn;refine PS.imp (nr (uC LY PySem.F.slot_list_extend PySem.F.type_list_extend yv (g9 hN hv hd hcd) (bp ha dF h1) hbase ?_ hline h1 rfl) hsw) λD σ H ⟨Z,B,M,E,h⟩=> ?_
 ·rw[h1];rfl
 unfold n8 at h
 split at h
 ·rename_i l hl
  obtain⟨v0,e1,b,vs,rfl,hM,e3,e4⟩:=E.env.own i _ hl;refine⟨.ref b,e1,.inl ⟨rfl,vs,SqL.of e3⟩,Z,OO B M,E.o,?_⟩
  cases q:fa Z with
  | bad=>rw[q]at h;exact h.elim
  | err c=>rw[q]at h;exact PostF.xa h
  | ok t=>
   rw[q,aE]at h;unfold Gu at h
   split at h
   ·rename_i m
    split at h
    ·rename_i hz
     intro H1 s1 v r;obtain⟨c,ws,rfl,nO,hc,rm⟩:=Rep.Jh.mp r
     have e3':=s1 _ _ e3;refine⟨b,c,vs,ws,rfl,rfl,e3',hc,by rw[<-e4.length,<-rm.length];exact hz,?_⟩
     obtain⟨g1,g2⟩:=(E.same s1).putL (l':=l++m) (vs':=vs++ws) hl e1 hM ((e4.same s1).append rm);exact h σ _ M (λc o e nb=>g2 c o (s1 _ _ e) nb) g1 λc z=> .inl z
    ·exact h.elim
   ·exact h.elim
 ·exact h.elim
def k8 (i:Nat)(F:En->Rs Fl)(Z:En):Rs Fl:=F (disown i Z)
theorem Fj (i:Nat){st:Stmt}{F:En->Rs Fl}(h:pz X st F):pz X st (k8 i F):=PS.imp h λD σ H hh_=>by
 obtain⟨Z,B,M,E,q⟩:=hh_;obtain⟨E',sub⟩:=E.disown i;exact⟨disown i Z,B,_,E',PostF.later q (λ_ _ e _=>e) λa z=> .inl (sub a z)⟩
mutual
def T.nk (D:Bool):T->Bool
 | .scr _=>false
 | .dct _ ts=> !D&&nks D ts
 | .lst l=>D&&nks D l
 | .tup l=>nks D l
 | _=>true
def nks (D:Bool):List T->Bool
 | [] =>true
 | t::l=>t.nk D&&nks D l
end
mutual
theorem Rep.lend {K:Km}{O O':Ow}{H:Hp}{D:Bool}(hk:∀a,O a->O' a\/if D then ∃kvs,Rd H a (.dT kvs)else ∃vs,H a=some (.lst vs)):∀{t:T} {v:V},t.nk D=true->Rep K O' H t v->Rep K O H t v
 | .non,_,_,r=>by unfold Rep at r ⊢;exact r
 | .bl _,_,_,r=>by unfold Rep at r ⊢;exact r
 | .int _,_,_,r=>by unfold Rep at r ⊢;exact r
 | .str _,_,_,r=>by unfold Rep at r ⊢;exact r
 | .tup l,_,h,r=>by
  unfold Rep at r ⊢;unfold T.nk at h;obtain⟨a,vs,e,n,q,z⟩:=r;refine⟨a,vs,e,λp=>(hk a p).elim n λw=> ?_,q,Reps.lend hk h z⟩
  split at w
  ·obtain⟨_,w | ⟨_,w⟩⟩:=w <;> rw[q]at w <;> cases w
  ·obtain⟨_,w⟩:=w;rw[q]at w;cases w
 | .lst l,_,h,r=>by
  unfold Rep at r ⊢;unfold T.nk at h;rw[Ku]at h;obtain⟨h1,h2⟩:=h;subst h1;obtain⟨a,vs,e,n,q,z⟩:=r;refine⟨a,vs,e,λp=>(hk a p).elim n λw=> ?_,q,Reps.lend hk h2 z⟩
  rw[if_pos rfl]at w;obtain⟨_,w | ⟨_,w⟩⟩:=w <;> rw[q]at w <;> cases w
 | .scr l,_,h,r=>by unfold T.nk at h;cases h
 | .dct ks ts,_,h,r=>by
  unfold Rep at r ⊢;unfold T.nk at h;rw[Ku]at h;obtain⟨h1,h2⟩:=h
  cases D with
  | true=>cases h1
  | false=>
   obtain⟨a,kvs,e,n,q,k,z⟩:=r;refine⟨a,kvs,e,λp=>(hk a p).elim n λw=> ?_,q,k,Reps.lend hk h2 z⟩
   rw[if_neg KO]at w;obtain⟨_,w⟩:=w;rcases q with q | ⟨_,q⟩ <;> rw[q]at w <;> cases w
theorem Reps.lend {K:Km}{O O':Ow}{H:Hp}{D:Bool}(hk:∀a,O a->O' a\/if D then ∃kvs,Rd H a (.dT kvs)else ∃vs,H a=some (.lst vs)):∀{l:List T} {vs:List V},nks D l=true->Reps K O' H l vs->Reps K O H l vs
 | [],_,_,r=>by unfold Reps at r ⊢;exact r
 | t::l,_,h,r=>by
  unfold Reps at r ⊢;unfold nks at h;rw[Ku]at h;obtain⟨v,ws,e,p,q⟩:=r;exact⟨v,ws,e,Rep.lend hk h.1 p,Reps.lend hk h.2 q⟩
end
def ln (i:Nat)(f:En->Rs T)(Z:En):Rs T:=match Z[i]? with
 | some (.ow o)=>f (disown i Z) >>= λt=>if t.nk o.isD=true then .ok t else .bad
 | _=>f Z
def F3 (i:Nat)(f:En->Rs Bool)(Z:En):Rs Bool:=f (disown i Z)
theorem rn {K:Km}{O:Ow}{M:Mn}{H:Hp}{Z:En}{σ:L2.St}(E:EnvM K O M H Z σ)(i:Nat):EnvM K (λa=>O a/\¬ M i a) (M.set i ym) H (disown i Z) σ:=
 E.disown i (λa z=>z.1) (λa z y=>y.2 z) λj a hj z=>⟨E.sub j a z,λy=>hj (E.dis j i a z y)⟩
theorem q_ln (i:Nat){e:Expr}{f:En->Rs T}(h:cP X e f):cP X e (ln i f):=PE.imp h λσ H Q ⟨Z,O,⟨M,E⟩,q⟩=>by
 unfold ln at q
 split at q
 ·rename_i o hi
  refine⟨disown i Z,_,⟨_,rn E i⟩,?_⟩
  obtain⟨w,e1,r⟩:=E.own i o hi;refine Post.mono (Post.bind q) λt H' s q2 v rv=> ?_
  split at q2
  ·rename_i hk
   have kd:=(r.same s).kind;refine q2 H' (Same.refl _) v (Rep.lend (λa z=> ?_) hk rv)
   by_cases hm:M i a
   ·refine .inr ?_
    have this:=kd a hm
    by_cases hD:o.isD=true
    ·rw[if_pos hD]at this ⊢;exact this.imp λ_ z=> .inl z
    ·rw[if_neg hD]at this ⊢;exact this
   ·exact .inl ⟨z,hm⟩
  ·exact q2.elim
 ·exact⟨Z,O,⟨M,E⟩,q⟩
theorem Hh (i:Nat){e:Expr}{f:En->Rs Bool}(h:vD X e f):vD X e (F3 i f):=PT.imp h λσ H Q ⟨Z,O,⟨M,E⟩,q⟩=>⟨disown i Z,_,⟨_,rn E i⟩,q⟩
end
end Tr
namespace Tr
open PySem L2
def kN:List T->List T->List Key->Option T
 | k'::ks,v::vs,k=>if keyOf k'=some k then some v else kN ks vs k
 | _,_,_=>none
def gM (k v:T):List T->List T->List T×List T
 | k'::ks,v'::vs=>if keyOf k'=keyOf k then(k'::ks,v::vs)else(k'::(gM k v ks vs).1,v'::(gM k v ks vs).2)
 | _,_=>([k],[v])
def bu (x y:T):Rs T:=match x,keyOf y with
 | .dct ks vs,some k=>match kN ks vs k with
  | some t=> .ok t
  | none=> .bad
 | _,_=> .bad
def jb (x y:T):Rs T:=match x,keyOf y with
 | .dct ks vs,some k=>match kN ks vs k with
  | some t=> .ok t
  | none=> .ok .non
 | _,_=> .bad
def BB (x y:T):Rs T:=match y,keyOf x with
 | .dct ks vs,some k=> .ok (.bl (kN ks vs k).isSome)
 | _,_=> .bad
def oD (g:T->T->Rs T)(fa fb:En->Rs T)(Z:En):Rs T:=fa Z >>= λx=>match x with
 | .dct ks vs=>fb Z >>= g (.dct ks vs)
 | _=> .bad
def oL (g:T->T->Rs T)(fa fb:En->Rs T)(Z:En):Rs T:=fa Z >>= λx=>match x with
 | .lst l=>fb Z >>= g (.lst l)
 | _=> .bad
def GN:List T->Option (List (T×T))
 | [] =>some []
 | .tup [k,v] ::l=>match keyOf k,GN l with
  | some _,some r=>some ((k,v)::r)
  | _,_=>none
 | _=>none
def jz:List (T×T)->List T×List T->List T×List T
 | [],d=>d
 | (k,v)::r,d=>jz r (gM k v d.1 d.2)
def xO:List T->Rs T
 | [.lst l] =>match GN l with
  | some ps=>if l.length<=1000 then .ok (.dct (jz ps ([],[])).1 (jz ps ([],[])).2)else .bad
  | none=> .bad
 | _=> .bad
def mK:List T->Bool
 | [] =>true
 | k::l=>(keyOf k).isSome&&mK l
def qE (i:Nat)(f:En->Rs T)(Z:En):Rs Fl:=f Z >>= λt=>xO [t] >>= λd=>match d with
 | .dct ks vs=>if i<Z.length then .ok (.nx (Z.set i (.ow (.dct ks vs))))else .bad
 | _=> .bad
def yd (i:Nat)(fk fv:En->Rs T)(Z:En):Rs Fl:=match Z[i]? with
 | some (.ow (.dct ks vs))=>fv Z >>= λv=>fk Z >>= λk=>match keyOf k with
  | some _=>if ks.length<1000 then .ok (.nx (Z.set i (.ow (.dct (gM k v ks vs).1 (gM k v ks vs).2))))else .bad
  | none=> .bad
 | _=> .bad
def n6 (i j:Nat)(Z:En):Rs Fl:=match Z[j]? with
 | some (.va (.lst l))=>if i<Z.length/\mK l=true/\(l.map keyOf).Nodup/\l.length<=1000 then .ok (.nx (Z.set i (.ow (.dd l (l.map λ_=>(l,l.map λ_=> .non))))))else .bad
 | _=> .bad
def pM:List T->List (List T×List T)->List Key->Option (List T×List T)
 | k'::ks,r::rs,k=>if keyOf k'=some k then some r else pM ks rs k
 | _,_,_=>none
def pL (k:List Key)(x:List T×List T):List T->List (List T×List T)->List (List T×List T)
 | k'::ks,r::rs=>if keyOf k'=some k then x::rs else r::pL k x ks rs
 | _,rs=>rs
def i6 (i:Nat)(fa fb fv:En->Rs T)(Z:En):Rs Fl:=match Z[i]? with
 | some (.ow (.dd ks rows))=>fv Z >>= λv=>fa Z >>= λa=>match(keyOf a).bind λka=>(pM ks rows ka).map λr=>(ka,r)with
  | some (ka,r)=>fb Z >>= λb=>if (keyOf b).isSome=true/\r.1.length<1000 then .ok (.nx (Z.set i (.ow (.dd ks (pL ka (gM b v r.1 r.2) ks rows)))))else .bad
  | none=> .bad
 | _=> .bad
def lj:List T->Option (List Int)
 | [] =>some []
 | .int i::l=>(lj l).map (i:: ·)
 | _=>none
def jT (x:T):List T->Nat->Option Nat
 | [],_=>none
 | t::l,n=>if bf t x then some n else jT x l (n+1)
def gU (y x:T):Rs T:=match y with
 | .lst l=>if (x.dep<=60\/deps l<=60)/\x.nd=true/\nds l=true then match jT x l 0 with
   | some n=> .ok (.int n)
   | none=> .bad
  else .bad
 | _=> .bad
def vP (ms:List (List T->Rs T))(f0:En->Rs T)(fs:En->Rs (List T))(Z:En):Rs T:=f0 Z >>= λk=>match k with
 | .int i=>match L2.atI ms i with
  | some m=>fs Z >>= m
  | none=> .bad
 | _=> .bad
def iZ (f:En->Rs (List T))(Z:En):Rs (List T):=f Z >>= λx=>match x with
 | [a,b] =>match a.items,b.items with
  | some l,some m=> .ok ((l.zip m).map λp=> .tup [p.1,p.2])
  | _,_=> .bad
 | _=> .bad
def FU:Nat:=1000000000000
end Tr
namespace Tr
open PySem PySem.Spec PyProof.Rows L2
theorem hW {h b b':Heap}:∀{l:List Env},h.FunFrames b l->(∀a∈l.filterMap (·.frame),b'.get? a=none)->h.FunFrames b' l
 | [],_,_=>trivial
 | env::c8,⟨hk,⟨L,o,hf,hn,ho,hd⟩,hr⟩,q=>by
  rw[L7,hf]at q;exact⟨hk,⟨L,o,hf,q L Kr,ho,hd⟩,hW hr λa ha=>q a (Ko _ ha)⟩
section
variable {M:Sz}{A:La}{E:Kq->Kt->Prop}{s:Kt}
structure DI (fs:List Addr)(C e:Addr)(T:Option Addr)(h h':Heap)(T':Addr):Prop where
 flt:IL h' C e (some T')
 new:T=some T'\/h.get? T'=none
 keep:∀b o,b∉fs->b≠e->T≠some b->h.get? b=some o->h'.get? b=some o
 slot:∀b o,b∈fs->h.get? b=some o->∃sl,h'.get? b=some { o with slots:=sl }
theorem F4 {base:Heap}{env:Env}{outer:List Env}{L C e:Addr}{T:Option Addr}{Q:Unit->Kt->Prop}(hfr:A.frames=some (env::outer))(hl:s.heap.FunFrames base (env::outer))(hf:env.frame=some L)
  (F:IL s.heap C e T) (h:∀h' T',DI ((env::outer).filterMap (·.frame)) C e T s.heap h' T'->Q () { s with heap:=h' }):wpAny M A (leaving env (.ref e)) Q E s:=by
 generalize hB:PC s.heap (e::(T.toList++(env::outer).filterMap (·.frame)))=B
 have bm:∀b,b∈e::(T.toList++(env::outer).filterMap (·.frame))->B.get? b=none:=λb m=>by rw[<-hB];exact Ol _ m
 have hl':s.heap.FunFrames B (env::outer):=hW hl λa ha=>bm a (Ko _ (KU _ ha))
 have hst:B.StaysIn s.heap:=λb o q=>by rw[<-hB]at q;exact ON _ q
 have hen:B.get? e=none:=bm e Kr
 have main:∀h',Heap.Left B (env::outer) e (.ref C) s.heap h'->Q () { s with heap:=h' }:=λh' ⟨x1,x2,⟨oe,vs,T',oT,ts,he,hc,hd,h1,hnT,hTe,hT,hdT,h3⟩,x4⟩=>by
  refine h h' T' ⟨⟨hTe,oe,vs,he,hc,hd,h1,oT,ts,hT,hdT,h3⟩,?_,λb o n1 n2 n3 q=> ?_,λb o m q=> ?_⟩
  ·cases q:s.heap.get? T' with
   | none=>exact .inr rfl
   | some o=>
    left
    by_cases z:T'∈e::(T.toList++(env::outer).filterMap (·.frame))
    ·rcases Ky.mp z with z | z
     ·exact absurd z hTe
     ·rcases K4.mp z with z | z
      ·cases T with
       | none=>simp at z
       | some t=>simp at z;rw[z]
      ·obtain⟨_,o',ho',hnf⟩:=x2.mem z
       rw[hT]at ho';cases ho';exact absurd hdT (hnf ts)
    ·rw[<-hB,MT _ q z]at hnT;cases hnT
  ·refine x1 b o ?_
   rw[<-hB];refine MT _ q λz=> ?_
   rcases Ky.mp z with z | z
   ·exact n2 z
   ·rcases K4.mp z with z | z
    ·cases T with
     | none=>simp at z
     | some t=>simp at z;exact n3 (by rw[z])
    ·exact n1 z
  ·obtain⟨_,o',ho',hnf⟩:=hl.mem m
   rw[q]at ho';cases ho';exact x4 b o q hnf
 cases T with
 | none=>
  obtain⟨oe,vs,he,hc,hd,h1⟩:=F;refine wpAny_leaving_first hfr hl' hf he hst hen hd h1 λh' x=>main h' ?_
  rw[hc]at x;exact x
 | some t=>
  obtain⟨hte,oe,vs,he,hc,hd,h1,oT,ts,hT,hdT,h3⟩:=F;exact wpAny_leaving_next hfr hl' hf ⟨oe,vs,t,oT,ts,he,hc,hd,h1,bm t (Ko _ (Lg _ (by simp))),hte,hT,hdT,h3⟩ hst hen main
end
abbrev ng:List Kq:=[.type "ValueError",.type "Exception",.type "BaseException",.type "object"]
structure OwnExc (K:Km)(C:Addr)(bm:List Kq):Prop where
 at_:∀h:Heap,K.In h->∃nm q N bs hdct sn sub ab col dd k0 k1 k2 k3 k5 mN,h.get? C=some (LQ nm q C N bs bm hdct sn sub ab col dd k0 k1 k2 k3 k5 "ValueError.__new__")/\h.Ns N mN/\mN "__init__" =none/\OwnTail h ng bm
theorem OwnExc.base {K:Km}{C:Addr}{bm:List Kq}(O:OwnExc K C bm){h:Heap}(k:K.In h):bm.contains (.type "BaseException")=true:=by
 obtain⟨_,_,_,_,_,_,_,_,_,_,_,_,_,_,_,_,_,_,_,T⟩:=O.at_ h k;exact T.hasType (by decide)
def zG (c:Str)(_:En):Rs Fl:=.err c
section
variable {X:Cx}
theorem zR {c:Str}{msg:Str}{C:Addr}{bm:List Kq}{np p1 cpos pos:Pos}{j:Nat}(O:OwnExc X.K C bm)(hc:X.calm=true)(hm:X.mg c=some (.ref C))(hg:Gl X c:=by rfl)(hd:gm c:=by decide) :
  pz X (.Raise (some (.Call (.Name c np) [.Constant (.str msg) j p1] [] cpos)) none pos) (zG c):=by
 intro pins s σ H D I ⟨Z,B,M,E,k⟩
 have k:XA X M.u H c:=k;obtain⟨nm,q,N,bs,hdct,sn,sub,ab,col,dd,k0,k1,k2,k3,k5,mN,hC,hN,hni,T⟩:=O.at_ s.heap I.kIn;refine wpAny_Raise_call_subU (C:=C) (mN:=mN) (nm:=nm) (q:=q) (N:=N) (bs:=bs) (hdct:=hdct) (sn:=sn) (sub:=sub) (ab:=ab) (col:=col) (dd:=dd) (k0:=k0) (k1:=k1) (k2:=k2) (k3:=k3) (k5:=k5) OJ (Bn:="ValueError") (by decide) OJ (O.base I.kIn) (I.ok.hd hc) (by rfl) hni (iG I hg hm ⟨rfl,?_⟩ hd)
 show wpAny _ _ (evalArgs (.ref C) true ((false,eval (.Constant (.str msg) j p1) X.env)::backTo cpos (KG [] X.env)) []) _ _ s
 refine Nk (NH (Qx (NW ?_)))
 refine⟨rfl,by show 1<=sizeLine;decide,hC,hN,T,λh' e hm'=>k pins _ _ ?_⟩
 obtain⟨t,ht,ht2,ht3⟩:=hm'.there
 have I':Inv X pins σ H { s with heap:=h',toks:=s.toks+1 }:=I.kept (t':=s.toks+1) λb o z=>hm'.keeps b o z
 refine⟨e,none,C,σ,H,rfl,hm,I',λb o z _=>z,?_,?_,⟨_,_,ht,rfl,rfl,rfl⟩,(λt z=>by cases z),λp hp=>⟨λz=> ?_,λz=>by cases z⟩⟩
 ·exact oH I hm'.new
 ·exact λhex=>kH I hex hm'.new
 ·have:=(I.pin p hp).1
  rw[z,show s.heap.get? e=none from hm'.new]at this
  cases this
end
section
variable {P:KS}{w:LA}{K:Km}{mg:Str->Option Kq}{base:Heap}
theorem Gp {x qual:Str}{st:Stmt}{f:Addr}{fd:LL}{N ps:List Str}{k n:Nat}{g:List T->Rs T}(Fn:L2.Fun K x qual st f fd)(S:aA N ps (ak st))(hn:ps.length=n)
  (hbody:∀(cdv:Kq) (A:La) (outer:List Env) (s:Kt) (H:Hp) (E:XK),Room k (A.deeper (envOfC qual (ak st) s.heap.objs.size f cdv)) →
   ∃F,(∀xe,mq ((lJ CX0 P w K mg base N qual (ak st) f cdv A outer s H E).Ji xe) (de st) F)/\∀ts,ts.length=n->∀c,g ts= .err c->F (aR N.length ts)= .err c):FnX P w K mg base (k+1) f fd ps n g:=by
 intro A outer s H args us vs O ts c R hr e0 hb r rs trk hl hg hR
 have hpl:ps.length<=N.length:=by have:=congrArg Lx S.pre;rw[LU]at this;omega
 obtain⟨oc,od,kV,doc,pm,an,cdv,ct,osl,rfl,lk,hcd⟩:=Fn.ex
 have hlen:vs.length=ps.length:=by rw[<-rs.length,hl,hn]
 have KX:K.In s.heap:=e0.mod.kin.keeps λb o e=>(e0.bs b o e).1
 have lim:s.heap.NoLimit:=e0.mod.nolimit.keeps λb o e=>(e0.bs b o e).1
 have hkind:∀y∈ps.zip us,(ak st).names.lookup y.1=some .local\/((ak st).names.lookup y.1=some .cell/\((MG (s.heap.objs.size+1) (ak st).names []).lookup y.1).isSome=true):=λ⟨n,v⟩ hy=>by
  rcases S.par n (NI hy).1 with q | q
  ·exact .inl q
  ·exact .inr ⟨q,MZ _ _ _ (.inl q)⟩
 refine Oe hr.depth (KX _ _ lk) rfl S.co S.gen rfl (OP KX hcd) (hb _ _ _ _ ?_)
 refine Nj S.kind hkind λenv he s1 x=> ?_
 subst he;refine⟨lim.keeps x.toInCall.keep,RE ?_⟩
 obtain⟨F,hF,hv⟩:=hbody cdv A outer s H E0 (hr.deeper _)
 let xe:Kq->Kt->Prop:=λev s'=>wpAny (model P w) (A.deeper (envOfC qual (ak st) s.heap.objs.size f cdv)) (leaving (envOfC qual (ak st) s.heap.objs.size f cdv) ev) (λ_ s''=>R (.error ev) s'') (λe' s''=>R (.error e') s'') s'
 have I:Inv ((lJ CX0 P w K mg base N qual (ak st) f cdv A outer s H E0).Ji xe) [] (start N vs) H s1:=(mf S hr.hd e0 hlen r x).Ji _
 have no:∀a,¬noM.u a:=λa ⟨_,z⟩=>z
 refine Mb (hF xe [] s1 (start N vs) H { nx:=λ_ _=>False,rt:=λ_ _=>False,bk:=λ_ _=>False,ct:=λ_ _=>False } I ⟨aR N.length ts,O,noM,qB rs (by omega) trk,?_⟩) (λfl s' z=> ?_) λe s' hs=>hs
 rotate_left
 ·cases fl with
  | next=>obtain⟨_,_,_,z⟩:=z;exact z.elim
  | cont=>obtain⟨_,_,_,z⟩:=z;exact z.elim
  | brk=>obtain⟨_,_,_,z⟩:=z;exact z.elim
  | ret v=>obtain⟨_,_,_,_,_,z⟩:=z;exact z.elim
 rw[hv ts hl c hg];intro pins ev s' w'
 show wpAny _ _ _ _ _ _
 obtain⟨e,T,C,σ',H',rfl,hm,I',sm,he,heo,fl,hT,_⟩:=w'
 have heo:=heo rfl
 have hT:∀t,T=some t->H' t=none/\s.heap.get? t=none:=λt z=>⟨(hT t z).1,(hT t z).2 rfl⟩
 refine F4 (base:=base) (outer:=outer) (L:=s.heap.objs.size) I'.ok.frames I'.stack rfl fl λh' T' g=>hR _ _ ?_
 have hex:((lJ CX0 P w K mg base N qual (ak st) f cdv A outer s H E0).Ji xe).ex= []:=rfl
 have Tn:H' T'=none/\s.heap.get? T'=none:=by
  rcases g.new with z | z
  ·exact hT T' z
  ·exact⟨oH I' z,kH I' hex z⟩
 have out:∀b o,s.heap.get? b=some o->b≠s.heap.objs.size:=λb o q z=>by
  have:=KF q;rw[z]at this;exact absurd this (KZ _)
 have mem:∀b,b∈o0 ((envOfC qual (ak st) s.heap.objs.size f cdv)::outer)->b=s.heap.objs.size\/b∈o0 outer:=λb z=>by
  have z':b∈s.heap.objs.size::o0 outer:=z;exact Ky.mp z'
 have ne:∀b o,s.heap.get? b=some o->b≠e/\T≠some b:=λb o q=>⟨λz=>(by subst z;rw[show s.heap.get? b=none from heo]at q;cases q),λz=>(by rw[show s.heap.get? b=none from(hT b z).2]at q;cases q)⟩
 have keepH:∀b u,H' b≠none->s'.heap.get? b=some u->h'.get? b=some u:=λb u hb q=>by
  refine g.keep b u (λz=>hb (I'.Jy b z)) (λz=>hb (by rw[z];exact he)) (λz=>hb (hT b z).1) q
 refine⟨e,T',C,H',rfl,hm,I'.os,I'.bare,⟨λb o q n hb hx=> ?_,λb o q n hb hx=> ?_,λb o q n hx=>I'.base.free b o q n hx,λb o q hx=> ?_,I'.base.tups,I'.base.frzs,I'.base.tbls⟩,λa o q=> ?_,λb o q=>sm b o q (no b),he,heo,g.flt,Tn.1,Tn.2⟩
 ·exact g.keep b o (λz=>(mem b z).elim (out b o q) hb) (ne b o q).1 (ne b o q).2 (I'.base.keep b o q n hb hx)
 ·obtain⟨sl,q1⟩:=I'.base.slot b o q n hb hx
  obtain⟨sl',q2⟩:=g.slot b _ (Ko _ hb) q1;exact⟨sl',q2⟩
 ·obtain⟨o',q1⟩:=I'.base.there b o q hx
  by_cases z:b∈o0 ((envOfC qual (ak st) s.heap.objs.size f cdv)::outer)
  ·obtain⟨sl,q2⟩:=g.slot b o' z q1
   exact⟨_,q2⟩
  ·exact⟨o',g.keep b o' z (ne b o q).1 (ne b o q).2 q1⟩
 ·refine(I'.hok a o q).JA (λb u hb z=>keepH b u ?_ z) (λ_ z=>z) λ_ _ z=>z
  rcases hb with rfl | hb
  ·rw[q];simp
  ·rw[hb];simp
end
theorem B3 {n m:Nat}{F:En->Rs Fl}{ts:List T}{c:Str}(h:val n m F ts= .err c):F (aR m ts)= .err c:=by
 unfold val at h
 split at h
 ·unfold bN at h
  cases z:F (aR m ts)with
  | bad=>rw[z]at h;cases h
  | err c'=>rw[z]at h;cases h;rfl
  | ok f=>
   rw[z,aE]at h;cases f <;> cases h
 ·cases h
section
variable {P:KS}{w:LA}{K:Km}{mg:Str->Option Kq}{base:Heap}
theorem Gs {x qual:Str}{st:Stmt}{f:Addr}{fd:LL}{N ps:List Str}{k n:Nat}{F:En->Rs Fl}(Fn:L2.Fun K x qual st f fd)(S:aA N ps (ak st))(hn:ps.length=n)
  (hbody:∀(cdv:Kq) (A:La) (outer:List Env) (s:Kt) (H:Hp) (E:XK),Room k (A.deeper (envOfC qual (ak st) s.heap.objs.size f cdv)) →
   ∀xe,mq ((lJ CX0 P w K mg base N qual (ak st) f cdv A outer s H E).Ji xe) (de st) F):zi P w K mg base (k+1) f fd ps n (val n N.length F):=
 ⟨Iy Fn S hn λcdv A outer s H E hr=>⟨F,hbody cdv A outer s H E hr _,λts _ _ h=>Ex h⟩,Gp Fn S hn λcdv A outer s H E hr=>⟨F,hbody cdv A outer s H E hr,λts _ c h=>B3 h⟩⟩
end
section
variable {X:Cx}{k n:Nat}{f:Addr}{fd:LL}{ps:List Str}{g:List T->Rs T}{pins:List (Addr×Obj)}{σ:L2.St}{H:Hp}{s:Kt}{us:List Kq}{vs:List V}{ts:List T}{O:Ow}{Q:VK}
theorem G8 (F:zi X.prog X.w X.K X.mg X.base k f fd ps n g)(hr:Room k X.A)(hb:Binds X.K fd ps [])(hps:ps.length=n)(I:Inv X pins σ H s)(r:Vals vs us)(rs:Reps X.K O H ts vs)(mt:∀a,O a->Mtb H a)(hl:ts.length=n)
  (hq:Post X H (g ts) λt H'=> ∀v,Rep X.K O H' t v->Q v H'):wpAny (model X.prog X.w) X.A (call (.ref f) us) (EP X pins σ Q) X.xe s:=by
 cases q2:g ts with
 | bad=>rw[q2]at hq;exact hq.elim
 | ok t=>
  rw[q2]at hq;refine vW (E:=E0) (dvs:=[]) (ds:=[]) F.h hr hb .nil w8 I r ⟨ts,O,by simpa using rs,mt,hl,?_⟩
  rw[q2]
  exact λv H' s2 rr=>hq H' s2 v rr
 | err c=>
  rw[q2]at hq
  have hlen:us.length=ps.length:=by rw[<-r.length,<-rs.length,hl,hps]
  have hb':=hb s us I.kIn (by rw[Lc];exact hlen)
  rw[Lc]at hb';refine Rj (Od (F.x X.A X.stack s H ⟨us,[]⟩ us vs O ts c (λr s'=>match r with | .error ev=>X.xe ev s' | _=>False) hr I.JQ hb' r rs mt hl q2 λev s' w=> ?_) λr s' hq=> ?_)
  ·obtain⟨ea,T,C,H',rfl,hmc,ho,hbare,hun,hok,sm2,hea,heo,fl,hT,hTo⟩:=w
   have I2:Inv X pins σ H' s':=I.JN ho hun hok hbare (λb z=>absurd z (by simp))
   exact hq pins _ _ ⟨ea,some T,C,σ,H',rfl,hmc,I2,λb o q _=>sm2 b o q,hea,λhex=>kH I hex heo,fl,(λt zt=>by cases zt;exact⟨hT,λhex=>kH I hex hTo⟩),λpp hpp=>⟨λzz=>(by have:=(I.pin pp hpp).1;rw[zz,heo]at this;cases this),λzz=>(by cases zz;have:=(I.pin pp hpp).1;rw[hTo]at this;cases this)⟩⟩
  ·cases r with
   | error ev=>exact hq
   | ok fl=>exact hq.elim
inductive Sels (X:Cx) (n:Nat):List Expr->List Addr->List (List T->Rs T)->Prop
 | nil:Sels X n [] [] []
 | cons {x:Str} {p:Pos} {es:List Expr} {as:List Addr} {gs:List (List T->Rs T)} {k:Nat} {f:Addr} {fd:LL} {ps:List Str} {g:List T->Rs T}:zi X.prog X.w X.K X.mg X.base k f fd ps n g->Room k X.A->X.mg x=some (.ref f)->Me X.K (.ref f)=true->Binds X.K fd ps []->ps.length=n->Gl X x->(x == ("__debug__" : Str))=false →
   Sels X n es as gs->Sels X n (.Name x p::es) (f::as) (g::gs)
theorem seln:Sels X n [] [] []:=.nil
theorem selc {x:Str}{p:Pos}{es:List Expr}{as:List Addr}{gs:List (List T->Rs T)}(F:zi X.prog X.w X.K X.mg X.base k f fd ps n g)(hr:Room k X.A)(hm:X.mg x=some (.ref f))(hk:Me X.K (.ref f)=true)(hb:Binds X.K fd ps [])(h:Sels X n es as gs)(hps:ps.length=n:=by rfl)(hg:Gl X x:=by rfl)(hd:gm x:=by decide) :
  Sels X n (.Name x p::es) (f::as) (g::gs):=.cons F hr hm hk hb hps hg hd h
theorem Sels.pa:∀{es:List Expr} {as:List Addr} {gs:List (List T->Rs T)},Sels X n es as gs->PA X es (λσ H Q=>Q (as.map V.ref) H)
 | _,_,_,.nil=>λpos pins s σ H Q I h=>dF pos pins s σ H Q I h
 | _,_,_,.cons F hr hm hk hb hps hg hd h=>λpos pins s σ H Q I q=>bp (rZ (v:=.ref _) hg hm rfl hd) h.pa (aY rfl) pos pins s σ H Q I q
theorem Sels.len:∀{es:List Expr} {as:List Addr} {gs:List (List T->Rs T)},Sels X n es as gs->as.length=gs.length
 | _,_,_,.nil=>rfl
 | _,_,_,.cons _ _ _ _ _ _ _ _ h=>by rw[Kx,Kx,h.len]
theorem Sels.at_:∀{es:List Expr} {as:List Addr} {gs:List (List T->Rs T)},Sels X n es as gs->∀{j:Nat} {g:List T->Rs T},gs[j]? =some g->∃f fd ps k,as[j]? =some f/\zi X.prog X.w X.K X.mg X.base k f fd ps n g/\Room k X.A/\Me X.K (.ref f)=true/\Binds X.K fd ps []/\ps.length=n
 | _,_,_,.nil,j,g,e=>by simp at e
 | _,_,_,.cons F hr hm hk hb hps hg hd h,0,g,e=>by simp at e;subst e;exact⟨_,_,_,_,rfl,F,hr,hk,hb,hps⟩
 | _,_,_,.cons F hr hm hk hb hps hg hd h,j+1,g,e=>by
  obtain⟨f,fd,ps,k,e1,r⟩:=h.at_ (j:=j) (by simpa using e)
  exact⟨f,fd,ps,k,by simpa using e1,r⟩
theorem nM {M:Sz}{A:La}{E:Kq->Kt->Prop}{s:Kt}{env:Env}{a b:Expr}{p pos:Pos}{args:List Expr}{Q:Kq->Kt->Prop}
  (h:wpAny M A (eval (.Subscript a b p) env) (λf s₁=>wpAny M A (callWith pos f [] (backTo pos (KG args env)) (QV pos (OF [] env))) Q E s₁) E s) :
  wpAny M A (eval (.Call (.Subscript a b p) args [] pos) env) Q E s:=by
 rw[show eval (.Call (.Subscript a b p) args [] pos) env=(do callWith pos (<-eval (.Subscript a b p) env) [] (backTo pos (KG args env)) (QV pos (OF [] env)))from rfl]
 exact Kn h
theorem BH {α β:Type}{xs:List α}{ys:List β}{i:Int}{y:β}(hl:xs.length=ys.length)(h:L2.atI ys i=some y):∃j:Nat,ys[j]? =some y/\∀x,xs[j]? =some x->L2.atI xs i=some x:=by
 unfold L2.atI at h ⊢;rw[hl]
 cases q:ixN ys.length i with
 | none=>rw[q]at h;cases h
 | some j=>rw[q]at h;exact⟨j,h,λx e=>e⟩
theorem Ho {es args:List Expr}{a0 i0:Expr}{p1 p2 pos:Pos}{as:List Addr}{gs:List (List T->Rs T)}{f0:En->Rs T}{fs:En->Rs (List T)}(S:Sels X n es as gs)(h0:cP X i0 f0)(hl:∀Z ts,fs Z= .ok ts->ts.length=n)(ha:qr X (a0::args) fs)
  (hn:bv (a0::args)=true:=by rfl) (hs:jV i0:=by intro _ _;rfl) (hz:es.length<=100:=by decide):cP X (.Call (.Subscript (.List es p1) i0 p2) (a0::args) [] pos) (vP gs f0 fs):=by
 intro pins s σ H Q I ⟨Z,O,E,hq⟩
 have hes:as.length<=sizeLine:=by
  have:∀{es:List Expr} {as:List Addr} {gs:List (List T->Rs T)},Sels X n es as gs->es.length=as.length:=by
   intro es as gs h
   induction h with
   | nil=>rfl
   | cons _ _ _ _ _ _ _ _ _ ih=>rw[Kx,Kx,ih]
  rw[<-this S,Mx];omega
 have hq':Post X H (f0 Z >>= λk=>match k with | .int i=>(match L2.atI gs i with | some m=>fs Z >>= m | none=> .bad) | _=> .bad) λt H'=> ∀v,Rep X.K O H' t v->Q v H':=hq
 refine nM (cr (HH ix_list (rY S.pa) h0 hs pins s σ H (λv H'=> ∃(i:Int) (m:List T->Rs T) (j:Nat),L2.atI gs i=some m/\gs[j]? =some m/\(∀x,as[j]? =some x->v= .ref x)/\Same H H'/\Post X H' (fs Z >>= m) λt H'=> ∀v,Rep X.K O H' t v->Q v H') I ?_) λf s1 r=> ?_)
 ·refine⟨by rw[Ks];exact hes,λl hl0=> ?_⟩
  have E1:=E.same (aX hl0 (.lst (as.map V.ref)))
  have s1:Same H (upd H l (.lst (as.map V.ref))):=aX hl0 _;refine⟨Z,O,E1,Post.mono (Post.bind (Post.later hq' s1)) λt H2 s2 q2 v rv=> ?_⟩
  cases t with
  | int i=>
   have hv:=Rep.Jf.mp rv;subst hv;simp only at q2
   cases z:L2.atI gs i with
   | none=>rw[z]at q2;exact q2.elim
   | some m=>
    rw[z]at q2;obtain⟨j,z1,z2⟩:=BH (xs:=as) S.len z;obtain⟨f,fd,ps,k,e1,_⟩:=S.at_ z1
    have z3:L2.atI (as.map V.ref) i=some (.ref f):=by
     have:=z2 f e1;unfold L2.atI at this ⊢;rw[Ks]
     cases y:ixN as.length i with
     | none=>rw[y]at this;cases this
     | some j'=>
      rw[y]at this
      show(as.map V.ref)[j']? =_
      rw[KP]
      have:as[j']? =some f:=this;rw[this];rfl
    refine⟨l,as.map V.ref,i,.ref f,rfl,rfl,SqL.of (s2 _ _ aG),z3,i,m,j,z,z1,λx ex=> ?_,s1.trans s2,q2⟩
    rw[e1]at ex;cases ex;rfl
  | _=>exact q2.elim
 ·obtain⟨v,H1,I1,rv,i,m,j,z,z1,hv,sm,q⟩:=r
  obtain⟨f',fd,ps,k,e1,F,hr,hk,hb,hps⟩:=S.at_ z1;cases hv f' e1;cases rv;unfold bv at hn;rw[Ku]at hn;refine ND (h₀:=X.base) I.ok.mod.kin hk (cr (ha pos pins s1 σ H1 (λvs H'=> ∃ts,fs Z= .ok ts/\Reps X.K O H' ts vs/\Same H1 H'/\Post X H' (m ts) λt H'=> ∀v,Rep X.K O H' t v->Q v H') I1 ⟨Z,O,E.same sm,?_⟩) (λus s2 ⟨vs,H2,I2,r,ts,et,rs,s2',q2⟩=>⟨I2.kIn,?_⟩)) (aY hn.1) (fO hn.2)
  ·cases y:fs Z with
   | bad=>rw[y]at q;exact q.elim
   | err c=>rw[y]at q;exact q
   | ok ts=>
    rw[y]at q;exact λH' s' vs rs=>⟨ts,rfl,rs,s',Post.later q s'⟩
  ·exact G8 F hr hb hps I2 r rs ((E.same sm).same s2').mtb (hl Z ts et) q2
end
section
variable {X:Cx}{a:Expr}{fa:En->Rs T}{pos p:Pos}{x:Str}
theorem Hk:pz X (.Continue pos) D2:=PS.imp uz λD σ H ⟨Z,B,M,E,h⟩=>h σ H M (λ_ _ e _=>e) E λa z=> .inl z
end
def calmNames:List Str:=["__init__","__getattribute__","__getattr__","__class__"]
inductive OTail (h:Heap):List Kq->Prop
 | base:OTail h ng
 | own {A:Addr} {c0:Kq} {dd:Option Addr} {cd:ClassData} {sl:Array (Option Kq)} {mA:Str->Option Kq} {tl:List Kq} :
   h.get? A=some { cls:=c0,dict:=dd,data:=.cls cd,slots:=sl }->h.Ns cd.ns mA->(∀n∈calmNames,mA n=none)->OTail h tl->OTail h (.ref A::tl)
theorem OTail.tail {h:Heap}{tl:List Kq}(T:OTail h tl):OwnTail h ng tl:=by
 induction T with
 | base=>exact .base
 | own hA hN hq _ ih=>exact .own hA hN (hq _ (.head _)) ih
section
variable {M:Sz}{prog:KS}{w:LA}{A:La}{E:Kq->Kt->Prop}{h:Heap}{g:Array QP}{d:Drawn}{t:Nat}{os:Ro}
theorem Dz {tl:List Kq}{n:Str}{y:Option Kq}{Q:Option Kq->Kt->Prop}(hn:n∈calmNames)(T:OTail h tl)(hrest:Ss ng n=pure y)(hq:Q y ⟨h,g,d,t,os⟩) :
  wpAny M A (Ss tl n) Q E ⟨h,g,d,t,os⟩:=by
 induction T with
 | base=>rw[hrest];exact Kz hq
 | own hA hN hni _ ih=>
  rw[RW];refine Kn (wpAny_classOwn_cls hA hN ?_)
  rw[hni n hn];exact ih
theorem HU:mroOf (.type "ValueError")=pure ng:=by rw[mroOf_type];kernel_rfl
variable {nm q:Str}{C N:Addr}{bs bm:List Kq}{hdct:Bool}{sn:List Str}{sub:List Kq}{ab:Bool}{col:Option Bool}{dd:Option Addr}{k0 k1 k2 k3 k5:Option Kq}{newId:String}{mN:Str->Option Kq}
theorem wj {n:Str}{y:Option Kq}{Q:Option Kq->Kt->Prop}(hn:n∈calmNames)(hC:h.get? C=some (LQ nm q C N bs bm hdct sn sub ab col dd k0 k1 k2 k3 k5 newId))(hN:h.Ns N mN)(hmN:∀n∈calmNames,mN n=none)(T:OTail h bm)
  (hB:N3 (.type "ValueError") n=pure y) (hq:Q y ⟨h,g,d,t,os⟩):wpAny M A (N3 (.ref C) n) Q E ⟨h,g,d,t,os⟩:=by
 have hrest:Ss ng n=pure y:=by rw[typeLookup_eq,HU]at hB;exact hB
 rw[typeLookup_eq];refine Kn (wpAny_mroOf_exc hC ?_)
 rw[RW];refine Kn (wpAny_classOwn_exc hC hN ?_)
 rw[hmN n hn];exact Dz hn T hrest hq
theorem AH:N3 (.type "ValueError") "__class__" =pure (some (.builtin "object.__class__")):=by rw[NQ,MH];kernel_rfl
theorem wl:N3 (.type "ValueError") "__getattr__" =pure none:=by rw[NQ,MH];kernel_rfl
theorem ga_V:Slot "ValueError" "__getattribute__" "BaseException.__getattribute__":=.of (owner:="BaseException") (n:="__getattribute__") (by rw[NQ,MH];kernel_rfl) (by decide+kernel) (by decide+kernel) (by decide+kernel) (by first | exact .inl (by decide+kernel) | exact .inr (by decide+kernel)) (by rw[isSubtype_type];kernel_rfl)
variable {a:Addr}{o:Obj}{vs:Array Kq}
theorem Dt {R:SA->Kt->Prop}(hC:h.get? C=some (LQ nm q C N bs bm hdct sn sub ab col dd k0 k1 k2 k3 k5 newId))(T:OTail h bm)
  (hx:h.get? a=some o) (hc:o.cls= .ref C) (hq:R (.ok (.ret (.ref C))) ⟨h,g,d,t,os⟩) :
  codeAny (model prog w) A (.call (.builtin "getset_descriptor.__get__") ⟨[.builtin "object.__class__",.ref a,.ref C],[]⟩) R ⟨h,g,d,t,os⟩:=by
 have hT5:(⟨h,g,d,t,os⟩:Kt).TypeIs (.builtin "object.__class__") "getset_descriptor":=Oa
 have hcB:(KM C::bm).contains (.type (".".intercalate ("object.__class__".cutAt '.').dropLast))=true:=by
  rw[F.owner_object_class,L1,T.tail.hasType (b:=true) (by decide)];rfl
 refine Oo QF.plain F.entry_gs_get (QF.check _ _ _ _ _ _ _ _ hT5 (F.args_gs_get _ _ _) ?_)
 repeat (any_goals (first | assumption | (with_reducible refine Lj hx ?_;rw[hc]) | (with_reducible refine My hC ?_;rw[hcB]) | wp_step))
 refine⟨Code.quiet_builtin _ (by decide+kernel),P3 F.entry_object_class ?_⟩
 repeat (any_goals (first | assumption | (with_reducible refine Lj hx ?_;rw[hc]) | wp_step))
theorem A9 {nameV:Kq}{Q:Unit->Kt->Prop}(hC:h.get? C=some (LQ nm q C N bs bm hdct sn sub ab col dd k0 k1 k2 k3 k5 newId))(T:OTail h bm)
  (hx:h.get? a=some o) (hc:o.cls= .ref C) (hq:Q () ⟨h,g,d,t,os⟩):wpAny M A (RX "BaseException.__getattribute__" ⟨[.ref a,nameV],[]⟩) Q E ⟨h,g,d,t,os⟩:=by
 have hk:builtinKind "BaseException.__getattribute__" =some .slot:=by decide+kernel
 have hsplit:splitId "BaseException.__getattribute__" =some ("BaseException","__getattribute__"):=by decide+kernel
 have hcB:(KM C::bm).contains (.type "BaseException")=true:=by rw[L1,T.tail.hasType (b:=true) (by decide)];rfl
 have ha:=F.args_bexc_ga (.ref a) nameV;simp only[RX,hk,hsplit];refine Kn ?_
 ·unfold isInstance
  repeat (first | (with_reducible refine Lj hx ?_;rw[hc]) | (with_reducible refine My hC ?_;rw[hcB]) | wp_step)
  exact hq
theorem yU {tk:Tok}{Q:Fin->Kt->Prop}(hC:h.get? C=some (LQ nm q C N bs bm hdct sn sub ab col dd k0 k1 k2 k3 k5 newId))(hN:h.Ns N mN)
  (hmN:∀n∈calmNames,mN n=none) (T:OTail h bm) (hx:h.get? a=some o) (hc:o.cls= .ref C) (hd:o.data= .fields vs) (hq:Q (.done (.ret (.ref C))) ⟨h,g,d,t,os⟩) :
  wpAny (model prog w) A (Builtin.«object.__getattribute__» ⟨[.ref a,.str "__class__" tk],[]⟩) Q E ⟨h,g,d,t,os⟩:=by
 have hT5:(⟨h,g,d,t,os⟩:Kt).TypeIs (.builtin "object.__class__") "getset_descriptor":=Oa
 have f5:=Oa
 have f6:=QF.lookup
 have f7:=F.slot_gs_set.lookup
 have hmA:("__class__" : Str)∈calmNames:=.tail _ (.tail _ (.tail _ (.head _)))
 repeat (any_goals (first | assumption | (with_reducible refine Lj hx ?_;rw[hc]) | with_reducible refine wj hmA hC hN hmN T AH ?_ | wp_step))
 refine Dt hC T hx hc ?_
 repeat (any_goals (first | assumption | wp_step))
theorem BD {tk:Tok}{R:SA->Kt->Prop}(hC:h.get? C=some (LQ nm q C N bs bm hdct sn sub ab col dd k0 k1 k2 k3 k5 newId))(hN:h.Ns N mN)
  (hmN:∀n∈calmNames,mN n=none) (T:OTail h bm) (hx:h.get? a=some o) (hc:o.cls= .ref C) (hd:o.data= .fields vs) (hq:R (.ok (.ret (.ref C))) ⟨h,g,d,t,os⟩) :
  codeAny (model prog w) A (.call (.builtin "BaseException.__getattribute__") ⟨[.ref a,.str "__class__" tk],[]⟩) R ⟨h,g,d,t,os⟩:=
 Oo ga_V.plain F.entry_bexc_ga (A9 hC T hx hc (yU hC hN hmN T hx hc hd hq))
theorem GG {tk:Tok}{fill expr:Bool}{Q:Kq->Kt->Prop}(hC:h.get? C=some (LQ nm q C N bs bm hdct sn sub ab col dd k0 k1 k2 k3 k5 newId))(hN:h.Ns N mN)
  (hmN:∀n∈calmNames,mN n=none) (T:OTail h bm) (hx:h.get? a=some o) (hc:o.cls= .ref C) (hd:o.data= .fields vs) (hq:Q (.ref C) ⟨h,g,d,t,os⟩) :
  wpAny (model prog w) A (getAttrBy (.ref a) (.str "__class__" tk) fill expr) Q E ⟨h,g,d,t,os⟩:=by
 have f3:=ga_V.bind (.ref a)
 have hx0:(expr&&onTheHeap (Nb "BaseException.__getattribute__"))=false:=by cases expr <;> rfl
 have hx2:(Nb "BaseException.__getattribute__" == Nb "object.__getattribute__")=false:=by decide+kernel
 have hx1:(onTheHeap (KM C)&&Nb "BaseException.__getattribute__" == Nb "object.__getattribute__")=false:=by rw[hx2];rfl
 have hm1:("__getattribute__" : Str)∈calmNames:=.tail _ (.head _)
 have hm2:("__getattr__" : Str)∈calmNames:=.tail _ (.tail _ (.head _))
 repeat (any_goals (first | assumption | (with_reducible refine Lj hx ?_;rw[hc]) | with_reducible refine wj hm1 hC hN hmN T ga_V.lookup ?_ | with_reducible refine wj hm2 hC hN hmN T wl ?_ | wp_step))
 refine BD hC hN hmN T hx hc hd ?_
 repeat (any_goals (first | assumption | wp_step))
theorem BE {Q:Option Kq->Kt->Prop}(hC:h.get? C=some (LQ nm q C N bs bm hdct sn sub ab col dd k0 k1 k2 k3 k5 newId))(hN:h.Ns N mN)
  (hmN:∀n∈calmNames,mN n=none) (T:OTail h bm) (hx:h.get? a=some o) (hc:o.cls= .ref C) (hd:o.data= .fields vs) (hq:Q (some (.ref C)) ⟨h,g,d,t+1,os⟩) :
  wpAny (model prog w) A (getAttr? (.ref a) "__class__") Q E ⟨h,g,d,t,os⟩:=by
 unfold getAttr? getAttrBy?
 repeat (any_goals (first | assumption | with_reducible apply GG hC hN hmN T hx hc hd | wp_step))
end
section
variable {M:Sz}{prog:KS}{w:LA}{A:La}{E:Kq->Kt->Prop}{h:Heap}{g:Array QP}{d:Drawn}{t:Nat}{os:Ro}
variable {nm q:Str}{C N:Addr}{bs bm:List Kq}{hdct:Bool}{sn:List Str}{sub:List Kq}{ab:Bool}{col:Option Bool}{dd:Option Addr}{k0 k1 k2 k3 k5:Option Kq}{newId:String}{mN:Str->Option Kq}
variable {a:Addr}{o:Obj}{vs:Array Kq}
theorem yq {dep:Int}{tk:Tok}{Q:Fin->Kt->Prop}(hx:h.get? a=some o)(hc:o.cls= .ref C)(hq:Q (.done (.ret (.bool true))) ⟨h,g,d,t,os⟩) :
  wpAny (model prog w) A (Builtin.«isinstance.nested» ⟨[.ref a,.ref C,.int dep tk],[]⟩) Q E ⟨h,g,d,t,os⟩:=by
 have e:(KM C == KM C)=true:=by simp
 repeat (any_goals (first | assumption | (with_reducible refine Lj hx ?_;rw[hc]) | wp_step))
theorem FY {dep:Int}{tk:Tok}{Q:Fin->Kt->Prop}(hC:h.get? C=some (LQ nm q C N bs bm hdct sn sub ab col dd k0 k1 k2 k3 k5 newId))(T:OTail h bm)(hx:h.get? a=some o)(hc:o.cls= .ref C)
  (hq:Q (.done (.ret (.bool true))) ⟨h,g,d,t,os⟩):wpAny (model prog w) A (Builtin.«isinstance.nested» ⟨[.ref a,.type "ValueError",.int dep tk],[]⟩) Q E ⟨h,g,d,t,os⟩:=by
 have e:(KM C == MD "ValueError")=false:=rfl
 have hty:typeOf (.type "ValueError")=pure (.type "type"):=by kernel_rfl
 have hcB:(KM C::bm).contains (.type "ValueError")=true:=by rw[L1,T.tail.hasType (b:=true) (by decide)];rfl
 repeat (any_goals (first | assumption | (with_reducible refine Lj hx ?_;rw[hc]) | (with_reducible refine My hC ?_;rw[hcB]) | wp_step))
theorem Az {D:Addr}{oD:Obj}{cD:ClassData}{dep:Int}{tk:Tok}{Q:Fin->Kt->Prop}(hC:h.get? C=some (LQ nm q C N bs bm hdct sn sub ab col dd k0 k1 k2 k3 k5 newId))(hN:h.Ns N mN)(hmN:∀n∈calmNames,mN n=none)(T:OTail h bm)
  (hx:h.get? a=some o) (hc:o.cls= .ref C) (hd:o.data= .fields vs) (hD:h.get? D=some oD) (hDt:oD.cls= .type "type") (hDd:oD.data= .cls cD) (hne:(KM C == KM D)=false) (hnb:(KM C::bm).contains (.ref D)=false)
  (hq:Q (.done (.ret (.bool false))) ⟨h,g,d,t+1,os⟩):wpAny (model prog w) A (Builtin.«isinstance.nested» ⟨[.ref a,.ref D,.int dep tk],[]⟩) Q E ⟨h,g,d,t,os⟩:=by
 repeat (any_goals (first | assumption | (with_reducible refine Lj hx ?_;rw[hc]) | (with_reducible refine Lj hD ?_;rw[hDt]) | (with_reducible refine Lj hD ?_;rw[hDd]) | (with_reducible refine Lj hC ?_) | (with_reducible refine My hC ?_;rw[hnb]) | with_reducible refine BE hC hN hmN T hx hc hd ?_ | wp_step))
end
structure OX (K:Km)(C:Addr)(bm:List Kq):Prop where
 at_:∀h:Heap,K.In h->∃nm q N bs hdct sn sub ab col dd k0 k1 k2 k3 k5 mN,h.get? C=some (LQ nm q C N bs bm hdct sn sub ab col dd k0 k1 k2 k3 k5 "ValueError.__new__")/\h.Ns N mN/\(∀n∈calmNames,mN n=none)/\OTail h bm
theorem OX.own {K:Km}{C:Addr}{bm:List Kq}(O:OX K C bm):OwnExc K C bm:=⟨λh k=>by
 obtain⟨nm,q,N,bs,hdct,sn,sub,ab,col,dd,k0,k1,k2,k3,k5,mN,h1,h2,h3,h4⟩:=O.at_ h k;exact⟨nm,q,N,bs,hdct,sn,sub,ab,col,dd,k0,k1,k2,k3,k5,mN,h1,h2,h3 _ (.head _),h4.tail⟩⟩
section
variable {X:Cx}{e C D:Addr}{oe:Obj}{ev:Array Kq}{bm bmD:List Kq}
def tIs (e:Addr)(b:Bool):TE:=λσ H Q=>σ[0]? =some (some (.ref e))/\Q (.bl b) H
theorem A1 {pins:List (Addr×Obj)}{σ:L2.St}{H:Hp}{s:Kt}{Q:VK}(hp:(e,oe)∈X.pn)(hc:oe.cls= .ref C)(hd:oe.data= .fields ev)(OC:OX X.K C bm)(OD:OX X.K D bmD)(b:Bool)(hb:(decide (C=D))=b)(hnb:C≠D->bm.contains (.ref D)=false)
  (I:Inv X pins σ H s) (q:Q (.bl b) H):wpAny (model X.prog X.w) X.A (call (.builtin "isinstance") [.ref e,.ref D]) (EP X pins σ Q) X.xe s:=by
 have hx:s.heap.get? e=some oe:=(I.pin (e,oe) (Lg _ hp)).1;obtain⟨nm,qq,N,bs,hdct,sn,sub,ab,col,dd,k0,k1,k2,k3,k5,mN,hC,hN,hmN,T⟩:=OC.at_ s.heap I.kIn;obtain⟨nm',qq',N',bs',hdct',sn',sub',ab',col',dd',k0',k1',k2',k3',k5',mN',hD,_⟩:=OD.at_ s.heap I.kIn;obtain⟨h,g,d,t,os⟩:=s;refine Q2 ?_ (by intro z;cases z)
 by_cases z:C=D
 ·subst z
  have:b=true:=by rw[<-hb];simp
  subst this;exact yq hx hc ⟨.bl true,H,I,rfl,q⟩
 ·have:b=false:=by rw[<-hb];simp[z]
  subst this;refine Az hC hN hmN T hx hc hd hD rfl rfl ?_ ?_ ⟨.bl false,H,I.tok _,rfl,q⟩
  ·rw[beq_eq_false_iff_ne];exact λy=>z (Qv y)
  ·rw[L1,hnb z,Bool.or_false,beq_eq_false_iff_ne]
   exact λy=>z (Qv y).symm
theorem A2 {pins:List (Addr×Obj)}{σ:L2.St}{H:Hp}{s:Kt}{Q:VK}(hp:(e,oe)∈X.pn)(hc:oe.cls= .ref C)(OC:OX X.K C bm)
  (I:Inv X pins σ H s) (q:Q (.bl true) H):wpAny (model X.prog X.w) X.A (call (.builtin "isinstance") [.ref e,.type "ValueError"]) (EP X pins σ Q) X.xe s:=by
 have hx:s.heap.get? e=some oe:=(I.pin (e,oe) (Lg _ hp)).1;obtain⟨nm,qq,N,bs,hdct,sn,sub,ab,col,dd,k0,k1,k2,k3,k5,mN,hC,hN,hmN,T⟩:=OC.at_ s.heap I.kIn;obtain⟨h,g,d,t,os⟩:=s;refine Q2 ?_ (by intro z;cases z)
 exact FY hC T hx hc ⟨.bl true,H,I,rfl,q⟩
theorem lQ {en dn:Str}{p p1 p2 pos:Pos}(hN:X.N[0]? =some en)(hv:rj X.env.scope en)(hp:(e,oe)∈X.pn)(hc:oe.cls= .ref C)(hd:oe.data= .fields ev)(OC:OX X.K C bm)(OD:OX X.K D bmD)(b:Bool)(hb:(decide (C=D))=b)(hnb:C≠D->bm.contains (.ref D)=false)
  (hm:X.mg "isinstance" =none) (hmD:X.mg dn=some (.ref D)) (hg:Gl X "isinstance":=by rfl) (hgD:Gl X dn:=by rfl) (hde:gm en:=by decide) (hce:(en == ("__classdict__" : Str))=false:=by decide) (hdd:gm dn:=by decide)
  (he:KG [.Name en p1,.Name dn p2] X.env=(false,eval (.Name en p1) X.env)::KG [.Name dn p2] X.env:=by rfl) (hpl:(backTo pos (KG [.Name dn p2] X.env)).any (·.1)=false:=by rfl)
  (hs:KG [.Name dn p2] X.env=(false,eval (.Name dn p2) X.env)::KG [] X.env:=by rfl) :
  PE X (.Call (.Name "isinstance" p) [.Name en p1,.Name dn p2] [] pos) (tIs e b):=by
 intro pins s σ H Q I ⟨hσ,q⟩;refine Lr (fX I hg hm f8 ?_ (by decide) (by decide))
 have hA:PA X [.Name en p1,.Name dn p2] (gO (nQ 0) (gO (tC (.ref D)) rB)):=bp (g9 hN hv hde hce) (bp (rZ hgD hmD rfl hdd) dF hs) he;refine Mj (cr (hA pos pins s σ H (λvs H'=>vs= [.ref e,.ref D]/\H'=H) I ⟨.ref e,hσ,rfl,rfl⟩) λus s1 ⟨vs,H1,I1,r1,e1,e2⟩=> ?_) he hpl
 subst e1;obtain⟨u,w',rfl,ru,rw'⟩:=zl r1;cases ru;cases rw';subst e2;exact A1 hp hc hd OC OD b hb hnb I1 q
end
theorem eqB (a b:Bool):MeetsSeq.EqGives (.bool a) (.bool b) (a == b):=λprog w A E s Q h=>(PySem.SeqAt.EqAt.bool_bool a b (A:=A) (s:=s)) prog w E Q h
section
variable {X:Cx}
theorem rq:∀{ks:List Bool} {us:List Kq},Vals (ks.map V.bl) us->us=ks.map Lo
 | [],us,r=>by cases r;rfl
 | k::ks,us,r=>by
  cases r with
  | cons r1 r2=>cases r1;rw[rq r2];rfl
def lC:Kq->Bool
 | .bool b=>b
 | _=>false
def Ck:V->List V->Hp->VK->Prop:=λx vs H Q=> ∃(l:Addr) (ks:List Bool),x= .ref l/\vs= [.bl true]/\H l=some (.lst (ks.map V.bl))/\Q (.int (ks.countP id:Nat)) H
theorem yw:MtR X "list.count" Ck:=by
 intro pins s σ H x vs v us Q I rx rv h;obtain⟨l,ks,rfl,rfl,hH,q⟩:=h;cases rx;obtain⟨u,rfl,ru⟩:=rv.one;cases ru;obtain⟨z,its,n,r,hl,e⟩:=I.Jt hH
 have hi:=rq r;subst hi;refine Nh F.slot_list_count ⟨_,e,rfl⟩ F.entry_list_count (F.args_list_count_2 _ _) (MeetsSeq.list_count l (ks.map Lo).toArray n (.bool true) lC λy hy=> ?_) ⟨e,?_⟩
 ·have hy':y∈ks.map Lo:=by simpa using hy
  obtain⟨k,_,rfl⟩:=KN.mp hy'
  have:=eqB k true;cases k <;> exact this
 ·have hc:(ks.map Lo).toArray.toList.countP lC=ks.countP id:=by
   simp only[List.countP_map];rfl
  rw[hc];exact⟨.int _,H,I.tok _,⟨_,rfl⟩,q⟩
def Ci:V->List V->Hp->VK->Prop:=λx vs H Q=> ∃(l:Addr) (ks:List Bool) (j:Nat),x= .ref l/\vs= [.bl true]/\H l=some (.lst (ks.map V.bl))/\ks[j]? =some true/\(∀m,m<j->ks[m]? =some false)/\j<=1000/\Q (.int (j:Nat)) H
theorem yu:MtR X "list.index" Ci:=by
 intro pins s σ H x vs v us Q I rx rv h;obtain⟨l,ks,j,rfl,rfl,hH,hj,hno,hs,q⟩:=h;cases rx;obtain⟨u,rfl,ru⟩:=rv.one;cases ru;obtain⟨z,its,n,r,hl,e⟩:=I.Jt hH
 have hi:=rq r;subst hi
 have hjl:j<ks.length:=(KC.mp hj).1
 refine Nh Ra ⟨_,e,rfl⟩ QH (Qk _ _) (MeetsSeq.list_index l (ks.map Lo).toArray n (.bool true) lC (λy hy=> ?_) j (by simpa using hjl) (by omega) ?_ ?_) ⟨e,?_⟩
 ·have hy':y∈ks.map Lo:=by simpa using hy
  obtain⟨k,_,rfl⟩:=KN.mp hy'
  have:=eqB k true;cases k <;> exact this
 ·have:ks[j] =true:=by have:=(KC.mp hj).2;exact this
  simp[this,lC]
 ·intro m hm hmj
  have hmk:m<ks.length:=by simpa using hm
  have:=(KC.mp (hno m hmj)).2
  simp[this,lC]
 ·exact⟨.int _,H,I.tok _,⟨_,rfl⟩,q⟩
end
abbrev IY (P:KS)(w:LA)(K:Km)(mg:Str->Option Kq)(base:Heap)(N:List Str)(qual:Str)(scope:NM)(f:Addr)(cd:Kq)(A:La)(outer:List Env)(s:Kt)(H:Hp)(e:Addr)(oe:Obj):Cx:=
 { lJ CX0 P w K mg base N qual scope f cd A outer s H E0 with calm:=false,pn:=[(e,oe)],xe:=λ_ _=>False }
section
variable {P:KS}{w:LA}{K:Km}{mg:Str->Option Kq}{base:Heap}
theorem wt {N ps:List Str}{qual:Str}{scope:NM}{f:Addr}{cd:Kq}{A:La}{outer:List Env}{s s1:Kt}{H:Hp}{us:List Kq}{vs:List V}{e:Addr}{oe:Obj}
  (S:aA N ps scope) (e0:vC P w K mg base A outer s H) (hl:vs.length=ps.length) (r:Vals vs us)
  (x:InCallC s s.heap.objs.size (bindL (envOfC qual scope s.heap.objs.size f cd).kindOf (ps.zip us) λ_=>none) (MG (s.heap.objs.size+1) scope.names []) (bindC (envOfC qual scope s.heap.objs.size f cd).kindOf (ps.zip us) λ_=>none) s1)
  (he:s.heap.get? e=some oe) (hH:H e=none) (hf:e∉o0 outer) (hc:∀v,oe.data≠ .cell v) :
  Inv (IY P w K mg base N qual scope f cd A outer s H e oe) [] (start N vs) H s1:=by
 have e0':vC P w K mg base { A with handled:=none } outer s H:=⟨e0.frames,e0.mod,e0.bs,e0.bsz,e0.funs,e0.frf,e0.hok,e0.bare⟩
 have I:=mf (CX:=CX0) (E:=E0) S (A:={ A with handled:=none }) rfl e0' hl r x
 obtain⟨h1,tk,hs1,hk⟩:=x.done
 have ok:=I.ok;refine⟨⟨ok.mod,ok.kind,ok.glob,ok.blt,ok.above,ok.inj,ok.has,ok.cab,(λz=>by cases z),P9 e0.frames,.inr ⟨rfl,rfl⟩,ok.exf,ok.bs,ok.bsz,ok.noex,ok.exfs,ok.funs,ok.frf⟩,I.os,I.bare,I.base,I.loc,I.cell,I.free,I.freeC,λp hp=> ?_,I.hok,I.len⟩
 have hp':p=(e,oe):=by simpa using hp
 subst hp';refine⟨?_,hH,?_,hf,hc⟩
 ·rw[hs1];exact hk e oe he
 ·exact Lk (KF he)
theorem Gq {x qual:Str}{st:Stmt}{f:Addr}{fd:LL}{N ps:List Str}{A:La}{outer:List Env}{s:Kt}{H:Hp}{args:Args}{us:List Kq}{vs:List V}{Q:VK}{e:Addr}{oe:Obj}(Fn:L2.Fun K x qual st f fd)(S:aA N ps (ak st))(hlen:vs.length=ps.length)
  (hr:A.depth+3<Nr) (e0:vC P w K mg base A outer s H) (hb:Qr s fd args (ps.zip us)) (r:Vals vs us) (he:s.heap.get? e=some oe) (hH:H e=none) (hf:e∉o0 outer) (hc:∀v,oe.data≠ .cell v)
  (hbody:∀(cdv:Kq),∃t,PSs (IY P w K mg base N qual (ak st) f cdv A outer s H e oe) (de st) t/\t { nx:=λ_ _=>False,rt:=Q } (start N vs) H) :
  codeAny (model P w) A (.call (.ref f) args) (CR CX0 outer P w H s Q E0) s:=by
 obtain⟨oc,od,kV,doc,pm,an,cdv,ct,osl,rfl,lk,hcd⟩:=Fn.ex
 have KX:K.In s.heap:=e0.mod.kin.keeps λb o e=>(e0.bs b o e).1
 have lim:s.heap.NoLimit:=e0.mod.nolimit.keeps λb o e=>(e0.bs b o e).1
 have hkind:∀y∈ps.zip us,(ak st).names.lookup y.1=some .local\/((ak st).names.lookup y.1=some .cell/\((MG (s.heap.objs.size+1) (ak st).names []).lookup y.1).isSome=true):=λ⟨n,v⟩ hy=>by
  rcases S.par n (NI hy).1 with q | q
  ·exact .inl q
  ·exact .inr ⟨q,MZ _ _ _ (.inl q)⟩
 refine Oe (by omega) (KX _ _ lk) rfl S.co S.gen rfl (OP KX hcd) (hb _ _ _ _ ?_)
 refine Nj S.kind hkind λenv hen s1 x=> ?_
 subst hen;refine⟨lim.keeps x.toInCall.keep,RE ?_⟩
 obtain⟨t,ht,hq⟩:=hbody cdv
 have I:=wt S e0 hlen r x he hH hf hc;refine Mb (ht [] s1 (start N vs) H _ I hq) (λfl s' hs=> ?_) λe s' hs=>hs.elim
 cases fl with
 | ret u=>
  obtain⟨v,σ',H',J,rv,q⟩:=hs
  exact⟨v,H',J.os,J.bare,J.base,J.hok,rv,q⟩
 | next=>obtain⟨_,_,_,q⟩:=hs;exact q.elim
 | brk=>obtain⟨_,_,_,q⟩:=hs;exact q.elim
 | cont=>obtain⟨_,_,_,q⟩:=hs;exact q.elim
end
section
variable {M:Sz}{A:La}{E:Kq->Kt->Prop}{s:Kt}
theorem HR {base:Heap}{env:Env}{outer:List Env}{L C e:Addr}{T:Option Addr}{Q:Unit->Kt->Prop}(hfr:A.frames=some (env::outer))(hl:s.heap.FunFrames base (env::outer))(hf:env.frame=some L)
  (F:IL s.heap C e T) (h:∀h' T',DI ((env::outer).filterMap (·.frame)) C e T s.heap h' T'->Q () { s with heap:=h' }) :
  wpAny M A (Sr (.ref e) env) (λ_ s'=>wpAny M A (setFlight (.ref e) none) Q E s') E s:=by
 generalize hB:PC s.heap (e::(T.toList++(env::outer).filterMap (·.frame)))=B
 have bm:∀b,b∈e::(T.toList++(env::outer).filterMap (·.frame))->B.get? b=none:=λb m=>by rw[<-hB];exact Ol _ m
 have hl':s.heap.FunFrames B (env::outer):=hW hl λa ha=>bm a (Ko _ (KU _ ha))
 have hst:B.StaysIn s.heap:=λb o q=>by rw[<-hB]at q;exact ON _ q
 have hen:B.get? e=none:=bm e Kr
 have main:∀h',Heap.Left B (env::outer) e (.ref C) s.heap h'->Q () { s with heap:=h' }:=λh' ⟨x1,x2,⟨oe,vs,T',oT,ts,he,hc,hd,h1,hnT,hTe,hT,hdT,h3⟩,x4⟩=>by
  refine h h' T' ⟨⟨hTe,oe,vs,he,hc,hd,h1,oT,ts,hT,hdT,h3⟩,?_,λb o n1 n2 n3 q=> ?_,λb o m q=> ?_⟩
  ·cases q:s.heap.get? T' with
   | none=>exact .inr rfl
   | some o=>
    left
    by_cases z:T'∈e::(T.toList++(env::outer).filterMap (·.frame))
    ·rcases Ky.mp z with z | z
     ·exact absurd z hTe
     ·rcases K4.mp z with z | z
      ·cases T with
       | none=>simp at z
       | some t=>simp at z;rw[z]
      ·obtain⟨_,o',ho',hnf⟩:=x2.mem z
       rw[hT]at ho';cases ho';exact absurd hdT (hnf ts)
    ·rw[<-hB,MT _ q z]at hnT;cases hnT
  ·refine x1 b o ?_
   rw[<-hB];refine MT _ q λz=> ?_
   rcases Ky.mp z with z | z
   ·exact n2 z
   ·rcases K4.mp z with z | z
    ·cases T with
     | none=>simp at z
     | some t=>simp at z;exact n3 (by rw[z])
    ·exact n1 z
  ·obtain⟨_,o',ho',hnf⟩:=hl.mem m
   rw[q]at ho';cases ho';exact x4 b o q hnf
 cases T with
 | none=>
  obtain⟨oe,vs,he,hc,hd,h1⟩:=F;unfold Sr;simp only[hf];refine Kn (Ly he hd h1 ?_)
  rw[if_neg (by decide)]
  refine wpAny_newEntry hfr hl' hf he hst hen hd (L5.mp h1).1 λh' x=>main h' ?_
  rw[hc]at x;exact x
 | some t=>
  obtain⟨hte,oe,vs,he,hc,hd,h1,oT,ts,hT,hdT,h3⟩:=F
  have hnT:B.get? t=none:=bm t (Ko _ (Lg _ (by simp)))
  unfold Sr;simp only[hf];refine Kn (Ly he hd h1 ?_)
  rw[if_pos (show(KM t != Lf)=true from by simp)]
  refine Kn (Ly hT hdT h3 ?_)
  rw[if_neg (show ¬((Lf == rawInt L)=true)from by simp[rawInt])]
  refine Kn (Qg hT hdT (L5.mp h3).1 ?_)
  have other:∀b,b≠t->(s.heap.update t (QJ (·.setIfInBounds 3 Lf))).get? b=s.heap.get? b:=λb hb=>NU _ _ (LO hb)
  have noRec:∀b o,s.heap.get? b=some o->(∀vs,o.data≠ .fields vs)->b≠t:=λb o hb hnf q=>by
   rw[q,hT]at hb;injection hb with hb;subst hb;exact hnf ts hdT
  refine wpAny_newEntry hfr (hl'.of_keeps λb o hb hnf=>⟨o,(other b (noRec b o hb hnf)).trans hb,rfl⟩) hf ((other e (LO hte)).trans he)
   (λb o hbo=>(other b λq=>by rw[q,hnT]at hbo;cases hbo).trans (hst b o hbo)) hen hd (L5.mp h1).1
   λh' x=>main h' ?_
  obtain⟨x1,x2,x3,x4⟩:=x;rw[hc]at x3;exact⟨x1,x2,x3,λb o hb hnf=>x4 b o ((other b (noRec b o hb hnf)).trans hb) hnf⟩
end
section
variable {X:Cx}{pins:List (Addr×Obj)}{σ:L2.St}{H:Hp}{s:Kt}{h':Heap}
theorem Inv.gone {C e T':Addr}{T:Option Addr}(I:Inv X pins σ H s)(hst:X.stack=X.env::X.outer)(hfe:X.env.frame=some X.env.locals)(hcl:∀x c,X.env.cells.lookup x≠some c)(hex:X.ex= [])
  (g:DI ((X.env::X.outer).filterMap (·.frame)) C e T s.heap h' T') (he:H e=none) (heo:X.s₀.heap.get? e=none) (hT:∀t,T=some t->H t=none/\X.s₀.heap.get? t=none) (hp:∀p∈X.pn++pins,p.1≠e/\T≠some p.1) :
  Inv X pins σ H { s with heap:=h' }:=by
 have mem:∀b,b∈(X.env::X.outer).filterMap (·.frame)↔b=X.env.locals\/b∈X.fs:=λb=>by
  rw[L7,hfe];exact Ky
 have out:∀b o,X.s₀.heap.get? b=some o->b≠X.env.locals:=λb o q z=>by
  have h1:=KF q
  have h2:=I.ok.above;rw[z]at h1;exact absurd (KA h1 h2) (KZ _)
 have ne:∀b o,X.s₀.heap.get? b=some o->b≠e/\T≠some b:=λb o q=>⟨λz=>(by subst z;rw[heo]at q;cases q),λz=>(by rw[(hT b z).2]at q;cases q)⟩
 have fr:∀b,b∈(X.env::X.outer).filterMap (·.frame)->H b=none:=λb z=>I.Jy b (by rw[hst];exact z)
 have keepH:∀b u,H b≠none->s.heap.get? b=some u->h'.get? b=some u:=λb u hb q=>by
  refine g.keep b u (λz=>hb (fr b z)) (λz=>hb (by rw[z];exact he)) (λz=>hb (hT b z).1) q
 refine⟨I.ok,I.os,I.bare,⟨λb o q n hb hx=> ?_,λb o q n hb hx=> ?_,I.base.free,λb o q hx=> ?_,I.base.tups,I.base.frzs,I.base.tbls⟩,?_,λx c z=>absurd z (hcl x c),I.free,I.freeC,λp hp'=> ?_,λa o q=> ?_,I.len⟩
 ·exact g.keep b o (λz=>((mem b).mp z).elim (out b o q) hb) (ne b o q).1 (ne b o q).2 (I.base.keep b o q n hb hx)
 ·obtain⟨sl,q1⟩:=I.base.slot b o q n hb hx
  obtain⟨sl',q2⟩:=g.slot b _ ((mem b).mpr (.inr hb)) q1;exact⟨sl',q2⟩
 ·obtain⟨o',q1⟩:=I.base.there b o q hx
  by_cases z:b∈(X.env::X.outer).filterMap (·.frame)
  ·obtain⟨sl,q2⟩:=g.slot b o' z q1
   exact⟨_,q2⟩
  ·exact⟨o',g.keep b o' z (ne b o q).1 (ne b o q).2 q1⟩
 ·obtain⟨m,⟨o,es,ep,ho,hd,r⟩,hl⟩:=I.loc
  obtain⟨sl,q2⟩:=g.slot X.env.locals o ((mem _).mpr (.inl rfl)) ho;refine⟨m,⟨_,es,ep,q2,hd,r⟩,λi x v a1 a2 a3=> ?_⟩
  obtain⟨u,ru,lk⟩:=hl i x v a1 a2 a3;refine⟨u,ru,?_⟩
  rcases lk with z | ⟨_,c,z,_⟩
  ·exact .inl z
  ·exact absurd z (hcl x c)
 ·obtain⟨b1,b2,b3,b4,b5⟩:=I.pin p hp'
  exact⟨g.keep p.1 p.2 (λz=>((mem _).mp z).elim b3 b4) (hp p hp').1 (hp p hp').2 b1,b2,b3,b4,b5⟩
 ·refine(I.hok a o q).JA (λb u hb z=>keepH b u ?_ z) (λ_ z=>z) λ_ _ z=>z
  rcases hb with rfl | hb
  ·rw[q];simp
  ·rw[hb];simp
end
section
variable {M:Sz}{A:La}{E:Kq->Kt->Prop}{h:Heap}{g:Array QP}{d:Drawn}{t:Nat}{os:Ro}
variable {nm q:Str}{C N:Addr}{bs bm:List Kq}{hdct:Bool}{sn:List Str}{sub:List Kq}{ab:Bool}{col:Option Bool}{dd:Option Addr}{k0 k1 k2 k3 k5:Option Kq}{newId:String}
variable {nm' q':Str}{D N':Addr}{bs' bm':List Kq}{hdct':Bool}{sn':List Str}{sub':List Kq}{ab':Bool}{col':Option Bool}{dd':Option Addr}{k0' k1' k2' k3' k5':Option Kq}{newId':String}
theorem yy {e:Addr}{oe:Obj}{Q:Bool->Kt->Prop}(hC:h.get? C=some (LQ nm q C N bs bm hdct sn sub ab col dd k0 k1 k2 k3 k5 newId))(hD:h.get? D=some (LQ nm' q' D N' bs' bm' hdct' sn' sub' ab' col' dd' k0' k1' k2' k3' k5' newId'))
  (he:h.get? e=some oe) (hcls:oe.cls= .ref C) (hb:bm'.contains (.type "BaseException")=true) (hin:(KM C::bm).contains (.ref D)=true) (hq:Q true ⟨h,g,d,t,os⟩):wpAny M A (excMatches (.ref e) (.ref D)) Q E ⟨h,g,d,t,os⟩:=by
 have hcB:(KM D::bm').contains (.type "BaseException")=true:=by rw[L1,hb,Rw]
 have f:=tc_notTuple;unfold excMatches
 repeat (first | (with_reducible refine Lj he ?_;rw[hcls]) | with_reducible refine Lj hD ?_ | (with_reducible refine My hD ?_;rw[hcB]) | (with_reducible refine My hC ?_;rw[hin]) | wp_step)
 exact hq
end
abbrev wz (X:Cx)(e:Addr)(oe:Obj):Cx:={ X with A:=X.A.mark (some (.ref e)),calm:=false,pn:=(e,oe)::X.pn,xe:=λ_ _=>False }
section
variable {X:Cx}{pins:List (Addr×Obj)}{σ:L2.St}{H:Hp}{s:Kt}{e:Addr}{oe:Obj}
theorem xJ (I:Inv X pins σ H s)(he:s.heap.get? e=some oe)(hH:H e=none)(hne:e≠X.env.locals)(hf:e∉X.fs)(hc:∀v,oe.data≠ .cell v):Inv (wz X e oe) pins σ H s:=by
 have ok:=I.ok;refine⟨⟨ok.mod,ok.kind,ok.glob,ok.blt,ok.above,ok.inj,ok.has,ok.cab,(λz=>by cases z),?_,ok.stk,ok.exf,ok.bs,ok.bsz,ok.noex,ok.exfs,ok.funs,ok.frf⟩,I.os,I.bare,I.base,I.loc,I.cell,I.free,I.freeC,λp hp=> ?_,I.hok,I.len⟩
 ·exact ok.frames
 ·rcases Ky.mp (show p∈(e,oe)::(X.pn++pins)from hp)with z | z
  ·subst z;exact⟨he,hH,hne,hf,hc⟩
  ·exact I.pin p z
theorem Df (ok:X.Ok)(I:Inv (wz X e oe) pins σ H s):Inv X pins σ H s:=
 ⟨ok,I.os,I.bare,I.base,I.loc,I.cell,I.free,I.freeC,λp hp=>I.pin p (Ko _ hp),I.hok,I.len⟩
theorem Inv.forget {h':Heap}{tk:Nat}{m:Str->Option Kq}(I:Inv X pins σ H s)(hcl:∀x c,X.env.cells.lookup x≠some c)(hn:h'.Ns X.env.locals m)(hs:Ny X.env.locals s.heap h'):Inv X pins (KJ X.N.length none) H { s with heap:=h',toks:=tk }:=by
 have out:∀b o,X.s₀.heap.get? b=some o->b≠X.env.locals:=λb o q z=>by
  have h1:=KF q
  have h2:=I.ok.above;rw[z]at h1;exact absurd (KA h1 h2) (KZ _)
 have kp:∀b o,b≠X.env.locals->s.heap.get? b=some o->h'.get? b=some o:=λb o n q=>hs.extBut b o n q
 refine⟨I.ok,I.os,I.bare,⟨λb o q n hb hx=>kp b o (out b o q) (I.base.keep b o q n hb hx),λb o q n hb hx=> ?_,I.base.free,λb o q hx=> ?_,I.base.tups,I.base.frzs,I.base.tbls⟩,⟨m,hn,λi x v a1 a2 a3=> ?_⟩,λx c z=>absurd z (hcl x c),I.free,I.freeC,λp hp=> ?_,λa o q=> ?_,by simp⟩
 ·obtain⟨sl,q1⟩:=I.base.slot b o q n hb hx
  exact⟨sl,kp b _ (out b o q) q1⟩
 ·obtain⟨o',q1⟩:=I.base.there b o q hx
  exact⟨o',kp b o' (out b o q) q1⟩
 ·rw[MU]at a2
  split at a2 <;> cases a2
 ·obtain⟨b1,b2,b3,b4,b5⟩:=I.pin p hp
  exact⟨kp p.1 p.2 b3 b1,b2,b3,b4,b5⟩
 ·have nl:∀b u,H b=some u->b≠X.env.locals:=λb u q z=>by rw[z,I.free]at q;cases q
  refine(I.hok a o q).JA (λb u hb z=>kp b u ?_ z) (λ_ z=>z) λ_ _ z=>z
  rcases hb with rfl | hb
  ·exact nl _ _ q
  ·exact nl _ _ hb
end
def ui (F:En->Rs Fl)(h:Str->Rs T)(Z:En):Rs Fl:=match F Z with
 | .err c=>match h c with
  | .ok t=> .ok (.rt t)
  | _=> .bad
 | r=>r
def tH (X:Cx)(i:Nat)(suite:List Stmt)(CE:Addr)(h:Str->Rs T):Prop:=
 ∀(c:Str) (C:Addr) (t:T),X.mg c=some (.ref C)->h c= .ok t->∃bm,OX X.K C bm/\(KM C::bm).contains (.ref CE)=true ∧
  ∀(e:Addr) (oe:Obj) (ev:Array Kq),oe.cls= .ref C->oe.data= .fields ev->∀(pins:List (Addr×Obj)) (s:Kt) (σ:L2.St) (H:Hp) (O:Ow) (Q:VK),Inv (wz X e oe) pins σ H s->H e=none->e∉o0 X.stack->σ[i]? =some (some (.ref e))->(∀p,H p=none->¬ O p) →
   (∀v H',Same H H'->Rep X.K O H' t v->Q v H')->wpAny (model X.prog X.w) (wz X e oe).A (execs suite X.env) (SP (wz X e oe) pins { nx:=λ_ _=>False,rt:=Q }) (λ_ _=>False) s
section
variable {X:Cx}
theorem Inv.Ka {σ:L2.St}{H:Hp}{s:Kt}(pins:List (Addr×Obj))(I:Inv X pins σ H s):Inv { X with pn:=X.pn++pins } [] σ H s:=
 ⟨⟨I.ok.mod,I.ok.kind,I.ok.glob,I.ok.blt,I.ok.above,I.ok.inj,I.ok.has,I.ok.cab,I.ok.hd,I.ok.frames,I.ok.stk,I.ok.exf,I.ok.bs,I.ok.bsz,I.ok.noex,I.ok.exfs,I.ok.funs,I.ok.frf⟩,I.os,I.bare,I.base,I.loc,I.cell,I.free,I.freeC,λp hp=>I.pin p (by rw[Lc]at hp;exact hp),I.hok,I.len⟩
theorem Inv.Kd {σ:L2.St}{H:Hp}{s:Kt}{pins pins1:List (Addr×Obj)}{xe:Kq->Kt->Prop}(I:Inv { X with pn:=X.pn++pins,xe:=xe } pins1 σ H s):Inv X pins σ H s:=
 ⟨⟨I.ok.mod,I.ok.kind,I.ok.glob,I.ok.blt,I.ok.above,I.ok.inj,I.ok.has,I.ok.cab,I.ok.hd,I.ok.frames,I.ok.stk,I.ok.exf,I.ok.bs,I.ok.bsz,I.ok.noex,I.ok.exfs,I.ok.funs,I.ok.frf⟩,I.os,I.bare,I.base,I.loc,I.cell,I.free,I.freeC,λp hp=>I.pin p (Lg _ hp),I.hok,I.len⟩
theorem Fb {body suite:List Stmt}{b0:Stmt}{F:En->Rs Fl}{h:Str->Rs T}{ce n:Str}{CE:Addr}{bmE:List Kq}{i:Nat}{np hpos pos:Pos}(hst:X.stack=X.env::X.outer)(hfe:X.env.frame=some X.env.locals)(hcl:∀x c,X.env.cells.lookup x≠some c)(hex:X.ex= [])
  (hN:X.N.Nodup) (hi:X.N[i]? =some n) (hloc:X.env.scope.names.lookup n=some .local) (hm:X.mg ce=some (.ref CE)) (OE:OX X.K CE bmE)
  (hb:∀pn xe,mq { X with pn:=pn,xe:=xe } body F) (hs:tH X i (b0::suite) CE h) (hg:Gl X ce:=by rfl) (hd:gm ce:=by decide) :
  pz X (.Try body [.ExceptHandler (some (.Name ce np)) (some n) (b0::suite) hpos] [] [] pos) (ui F h):=by
 intro pins s σ H D I ⟨Z,B,M,E,hq⟩;refine wpAny_Try_except ?_
 unfold ui at hq
 cases q:F Z with
 | bad=>rw[q]at hq;exact hq.elim
 | ok fl=>
  rw[q]at hq;refine Mb (hb X.pn (λ_ _=>False) pins s σ H D (I.Ji _) ⟨Z,B,M,E,by rw[q];cases fl <;> exact hq⟩) (λf s1 r=> ?_) (λe s1 z=>z.elim)
  cases f with
  | next=>obtain⟨σ7,H7,I7,q7⟩:=r;exact NN ⟨σ7,H7,I7.Ji _,q7⟩
  | ret u=>obtain⟨x7,σ7,H7,I7,r7,q7⟩:=r;exact⟨x7,σ7,H7,I7.Ji _,r7,q7⟩
  | brk=>obtain⟨σ7,H7,I7,q7⟩:=r;exact⟨σ7,H7,I7.Ji _,q7⟩
  | cont=>obtain⟨σ7,H7,I7,q7⟩:=r;exact⟨σ7,H7,I7.Ji _,q7⟩
 | err c=>
  rw[q]at hq
  cases q2:h c with
  | bad=>simp only[q2]at hq;exact hq.elim
  | err c'=>simp only[q2]at hq;exact hq.elim
  | ok t=>
   simp only[q2]at hq
   have hq':∀v H',SameO M.u H H'->Rep X.K B H' t v->D.rt v H':=hq;refine Mb (hb (X.pn++pins) _ [] s σ H { nx:=λ_ _=>False,rt:=λ_ _=>False,bk:=λ_ _=>False,ct:=λ_ _=>False } ((Tr.Inv.Ka pins I).Ji _) ⟨Z,B,M,E,?_⟩) (λfl s' z=> ?_) λ_ _ z=>z
   rotate_left
   ·cases fl with
    | next=>obtain⟨_,_,_,z⟩:=z;exact z.elim
    | cont=>obtain⟨_,_,_,z⟩:=z;exact z.elim
    | brk=>obtain⟨_,_,_,z⟩:=z;exact z.elim
    | ret v=>obtain⟨_,_,_,_,_,z⟩:=z;exact z.elim
   rw[q];intro pins1 ev s1 w;obtain⟨e,T,C,σ1,H1,rfl,hmc,I1,sm,he,heo,fl,hT,hpp⟩:=w
   have I1:Inv X pins σ1 H1 s1:=Tr.Inv.Kd (X:=X) I1
   have hpp:∀p∈X.pn++pins,p.1≠e/\T≠some p.1:=λp hp=>hpp p (Lg _ hp)
   have heo:=heo hex
   have hT:∀t,T=some t->H1 t=none/\X.s₀.heap.get? t=none:=λt z=>⟨(hT t z).1,(hT t z).2 hex⟩
   show wpAny _ _ _ _ _ _
   have hfr:X.A.frames=some (X.env::X.outer):=by rw[<-hst];exact I1.ok.frames
   have hstk:s1.heap.FunFrames X.base (X.env::X.outer):=by rw[<-hst];exact I1.stack
   refine HR hfr hstk hfe fl λh' T' g=> ?_
   have I2:=Inv.gone I1 hst hfe hcl hex g he heo hT hpp
   have Tn:H1 T'=none/\X.s₀.heap.get? T'=none/\∀p∈X.pn++pins,p.1≠T':=by
    rcases g.new with z | z
    ·exact⟨(hT T' z).1,(hT T' z).2,λp hp y=>(hpp p hp).2 (by rw[z,y])⟩
    ·exact⟨oH I1 z,kH I1 hex z,λp hp y=>by have:=(I1.pin p hp).1;rw[y,z]at this;cases this⟩
   obtain⟨bm,OC,hin,run⟩:=hs c C t hmc q2;obtain⟨hTe,oe,ev,hoe,hoc,hod,h1,oT,ts,hoT,hdT,h3⟩:=g.flt
   have nfr:∀b o vs,h'.get? b=some o->o.data= .fields vs->b∉(X.env::X.outer).filterMap (·.frame):=λb o vs hb hd z=>by
    have:=I2.stack;rw[hst]at this;obtain⟨_,o',ho',hnf⟩:=this.mem z;rw[show h'.get? b=some o' from ho']at hb
    cases hb;exact hnf vs hd
   have hel:e≠X.env.locals:=λz=>nfr e oe ev hoe hod (by rw[L7,hfe];exact z▸Kr)
   have hef:e∉X.fs:=λz=>nfr e oe ev hoe hod (by rw[L7,hfe];exact Ko _ z)
   have hcell:∀v,oe.data≠ .cell v:=λv z=>by rw[hod]at z;cases z
   have I3:Inv (wz X e oe) pins σ1 H1 { s1 with heap:=h' }:=xJ I2 hoe he hel hef hcell
   refine wpAny_handleBy_cons (codeAny_handlers_test (iG (X:=wz X e oe) I3 hg hm ?_ hd)) (by intro z;cases z)
   obtain⟨nm,qq,N,bs,hdct,sn,sub,ab,col,dd,k0,k1,k2,k3,k5,mN,hC,_⟩:=OC.at_ h' I3.kIn;obtain⟨nm',qq',N',bs',hdct',sn',sub',ab',col',dd',k0',k1',k2',k3',k5',mN',hD,_,_,TD⟩:=OE.at_ h' I3.kIn;refine yy hC hD hoe hoc (TD.tail.hasType (by decide)) hin (codeAny_handlers_suite_as ?_)
   refine wpAny_setFlight_none hoe hod h1 hoT hdT (L5.mp h3).1 ?_
   generalize hU:h'.update T' (QJ (·.setIfInBounds 3 Lf))=h2
   have kp:∀b,b≠T'->h2.get? b=h'.get? b:=λb hb=>by rw[<-hU];exact NU _ _ (LO hb)
   have hT2:h2.get? T'=some (QJ (·.setIfInBounds 3 Lf) oT):=by rw[<-hU];exact PL _ hoT (PM (NK hdT _))
   have hoe2:h2.get? e=some oe:=(kp e (LO hTe)).trans hoe
   have g2:DI ((X.env::X.outer).filterMap (·.frame)) C e (some T') h' h2 T':=⟨⟨hTe,oe,ev,hoe2,hoc,hod,h1,_,_,hT2,NK hdT _,by simp[(L5.mp h3).1]⟩,.inl rfl,λb o _ _ n3 q=>(kp b λz=>n3 (by rw[z])).trans q,λb o m q=>⟨o.slots,(kp b λz=>nfr T' oT ts hoT hdT (z▸m)).trans q⟩⟩
   have I4:Inv X pins σ1 H1 { s1 with heap:=h2 }:=Inv.gone (s:={ s1 with heap:=h' }) I2 hst hfe hcl hex g2 he heo (λt z=>by cases z;exact⟨Tn.1,Tn.2.1⟩) λp hp=>⟨(hpp p hp).1,λz=>Tn.2.2 p hp (K7 z).symm⟩
   have I5:Inv (wz X e oe) pins σ1 H1 { s1 with heap:=h2 }:=xJ I4 hoe2 he hel hef hcell
   refine nR (X:=wz X e oe) (v:=.ref e) I5 hN hi (.inl hloc) rfl (λs3 I6=> ?_) (.inr hloc)
   have hil:i<σ1.length:=by
    rw[I1.len];exact(KC.mp hi).1
   refine Mb (run e oe ev hoc hod pins s3 _ H1 B (λv H'=>Same H1 H'/\Rep X.K B H' t v) I6 he (λz=> ?_) (by simp[hil]) (λp hp z=> ?_) λv H' s' r=>⟨s',r⟩) (λf s4 r=> ?_) λ_ _ z=>z.elim
   ·rw[hst]at z
    exact nfr e oe ev hoe hod z
   ·obtain⟨o,ho⟩:=(E.env.trk p (.inl z)).some
    have:=sm p o ho (λw=>E.mine p w z)
    rw[hp]at this;cases this
   ·cases f with
    | next=>obtain⟨_,_,_,z⟩:=r;exact z.elim
    | brk=>obtain⟨_,_,_,z⟩:=r;exact z.elim
    | cont=>obtain⟨_,_,_,z⟩:=r;exact z.elim
    | ret u=>
     obtain⟨v,σ',H',I7,rv,s',rt⟩:=r;obtain⟨m,hn,_⟩:=I7.loc;refine wpAny_nameGoes (show X.env.kindOf n=some .local from hloc) hn (by rw[I.ok.kind];rfl) λh8 m8 hn8 hs8=> ?_
     exact⟨v,_,H',Inv.forget (Df I.ok I7) hcl hn8 hs8,rv,hq' v H' (λb o y nn=>s' b o (sm b o y nn)) rt⟩
end
section
variable {X:Cx}{e C:Addr}{oe:Obj}{bm:List Kq}
theorem GI:K9 "ValueError" =some (.type "ValueError"):=by decide+kernel
theorem FE {en:Str}{p p1 p2 pos:Pos}(hN:X.N[0]? =some en)(hv:rj X.env.scope en)(hp:(e,oe)∈X.pn)(hc:oe.cls= .ref C)(OC:OX X.K C bm)
  (hm:X.mg "isinstance" =none) (hmD:X.mg "ValueError" =none) (hg:Gl X "isinstance":=by rfl) (hgD:Gl X "ValueError":=by rfl) (hde:gm en:=by decide) (hce:(en == ("__classdict__" : Str))=false:=by decide)
  (he:KG [.Name en p1,.Name "ValueError" p2] X.env=(false,eval (.Name en p1) X.env)::KG [.Name "ValueError" p2] X.env:=by rfl) (hpl:(backTo pos (KG [.Name "ValueError" p2] X.env)).any (·.1)=false:=by rfl)
  (hs:KG [.Name "ValueError" p2] X.env=(false,eval (.Name "ValueError" p2) X.env)::KG [] X.env:=by rfl) :
  PE X (.Call (.Name "isinstance" p) [.Name en p1,.Name "ValueError" p2] [] pos) (tIs e true):=by
 intro pins s σ H Q I ⟨hσ,q⟩;refine Lr (fX I hg hm f8 ?_ (by decide) (by decide))
 have hA:PA X [.Name en p1,.Name "ValueError" p2] (gO (nQ 0) (gO (tC (.ty "ValueError")) rB)):=bp (g9 hN hv hde hce) (bp (w6 (v:=.ty "ValueError") hgD hmD GI rfl) dF hs) he;refine Mj (cr (hA pos pins s σ H (λvs H'=>vs= [.ref e,.ty "ValueError"]/\H'=H) I ⟨.ref e,hσ,rfl,rfl⟩) λus s1 ⟨vs,H1,I1,r1,e1,e2⟩=> ?_) he hpl
 subst e1;obtain⟨u,w',rfl,ru,rw'⟩:=zl r1;cases ru;cases rw';subst e2;exact A2 hp hc OC I1 q
end
def zy:Kq->Bool
 | .str _ _=>true
 | _=>false
theorem HQ {K:Km}{N:Addr}{ob:Kq}{oe:Option Addr}{es:Array DictEntry}{n:Nat}{oz:Array (Option Kq)}(r:K.lookup N=some ⟨ob,oe,.dict es n,oz⟩)(s:(es.toList.all λe=>zy e.key)=true)
  (u0:N7 K N "__init__" =some none) (u1:N7 K N "__getattribute__" =some none) (u2:N7 K N "__getattr__" =some none) (u3:N7 K N "__class__" =some none) :
  ∀h:Heap,K.In h->∃mN,h.Ns N mN/\∀n∈calmNames,mN n=none:=λh k=>by
 refine⟨nsFind es,⟨_,es,n,k _ _ r,rfl,λe he=> ?_,λ_=>rfl⟩,λx hx=> ?_⟩
 ·have:=KY.mp s e (by simpa using he)
  cases q:e.key <;> rw[q]at this <;> first | exact⟨_,_,rfl⟩ | cases this
 ·have key:∀x,N7 K N x=some none->nsFind es x=none:=λx u=>by
   unfold N7 at u;rw[r]at u;simp only at u
   split at u
   ·cases u
   ·rename_i he
    unfold nsFind findBy;rw[<-Qz,he];rfl
  unfold calmNames at hx;simp only[Ky,Lw,or_false]at hx;rcases hx with rfl | rfl | rfl | rfl
  ·exact key _ u0
  ·exact key _ u1
  ·exact key _ u2
  ·exact key _ u3
section
variable {K:Km}{nm q:Str}{C N:Addr}{bs:List Kq}{hdct:Bool}{sn:List Str}{sub:List Kq}{ab:Bool}{col:Option Bool}{dd:Option Addr}{k0 k1 k2 k3 k5:Option Kq}
variable {nm' q':Str}{D N':Addr}{bs':List Kq}{hdct':Bool}{sn':List Str}{sub':List Kq}{ab':Bool}{col':Option Bool}{dd':Option Addr}{k0' k1' k2' k3' k5':Option Kq}
theorem CU (w:K.lookup C=some (LQ nm q C N bs ng hdct sn sub ab col dd k0 k1 k2 k3 k5 "ValueError.__new__"))(ns:∀h:Heap,K.In h->∃mN,h.Ns N mN/\∀n∈calmNames,mN n=none):OX K C ng:=⟨λh k=>by
 obtain⟨mN,h1,h2⟩:=ns h k;exact⟨nm,q,N,bs,hdct,sn,sub,ab,col,dd,k0,k1,k2,k3,k5,mN,k _ _ w,h1,h2,.base⟩⟩
theorem An (w:K.lookup C=some (LQ nm q C N bs (.ref D::ng) hdct sn sub ab col dd k0 k1 k2 k3 k5 "ValueError.__new__"))(ns:∀h:Heap,K.In h->∃mN,h.Ns N mN/\∀n∈calmNames,mN n=none)
  (wD:K.lookup D=some (LQ nm' q' D N' bs' ng hdct' sn' sub' ab' col' dd' k0' k1' k2' k3' k5' "ValueError.__new__")) (nsD:∀h:Heap,K.In h->∃mN,h.Ns N' mN/\∀n∈calmNames,mN n=none):OX K C (.ref D::ng):=⟨λh k=>by
 obtain⟨mN,h1,h2⟩:=ns h k;obtain⟨mD,d1,d2⟩:=nsD h k;exact⟨nm,q,N,bs,hdct,sn,sub,ab,col,dd,k0,k1,k2,k3,k5,mN,k _ _ w,h1,h2,.own (k _ _ wD) d1 d2 .base⟩⟩
end
theorem G9 {k:Nat}{A:La}(h:Room k A):A.depth+3<Nr:=by have:=h.dp;omega
end Tr
namespace L2
open PySem PySem.Spec PyProof.Rows
section
variable {κ:Type}[DecidableEq κ]
def ii (kvs:List (κ×V))(k:κ):Option V:=(kvs.find? λkv=>decide (kv.1=k)).map (·.2)
def dE (kvs:List (κ×V))(k:κ)(v:V):List (κ×V):=
 if (kvs.any λkv=>decide (kv.1=k))=true then kvs.map (λkv=>if kv.1=k then(kv.1,v)else kv)else kvs++ [(k,v)]
theorem zm {k:κ}:ii ([]:List (κ×V)) k=none:=rfl
theorem gu {p:κ×V}{r:List (κ×V)}{k:κ}(e:p.1=k):ii (p::r) k=some p.2:=by simp[ii,M6,e]
theorem gv {p:κ×V}{r:List (κ×V)}{k:κ}(e:¬ p.1=k):ii (p::r) k=ii r k:=by simp[ii,M6,e]
theorem tT (k:κ):∀kvs:List (κ×V),(kvs.any λkv=>decide (kv.1=k))=(ii kvs k).isSome
 | [] =>rfl
 | p::r=>by
  rw[MW]
  by_cases e:p.1=k
  ·simp only[gu e,decide_eq_true e,Rx,QC]
  ·rw[gv e,decide_eq_false e,Pe];exact tT k r
theorem gV (kvs:List (κ×V))(k:κ)(v:V):(dE kvs k v).length<=kvs.length+1:=by
 unfold dE;split
 ·rw[Ks];omega
 ·rw[Kw,Kx,Oy];omega
theorem RelO.Jv {o:Option V}{u:Option Kq}(r:RelO o u):o.isSome=u.isSome:=by
 cases o with
 | none=>cases u with
  | none=>rfl
  | some _=>exact(show False from r).elim
 | some _=>cases u with
  | none=>exact(show False from r).elim
  | some _=>rfl
theorem RelO.getD {o:Option V}{u:Option Kq}{d:V}{d':Kq}(r:RelO o u)(rd:RelV d d'):RelV (o.getD d) (u.getD d'):=by
 cases o with
 | none=>cases u with
  | none=>exact rd
  | some _=>exact(show False from r).elim
 | some _=>cases u with
  | none=>exact(show False from r).elim
  | some _=>exact r
theorem KV.val {kvs:List (κ×V)}{vs:List (κ×Kq)}(r:KV kvs vs)(k:κ):RelO (ii kvs k) (valueAt vs k):=by
 unfold KV at r
 induction r with
 | nil=>exact Na
 | @cons p q ps qs h t ih=>
  obtain⟨h1,h2⟩:=h
  by_cases e:p.1=k
  ·have e':q.1=k:=h1.symm.trans e
   have b:valueAt (q::qs) k=some q.2:=by simp[valueAt,M6,e']
   rw[gu e,b];exact h2
  ·have e':¬ q.1=k:=λz=>e (h1.trans z)
   have b:valueAt (q::qs) k=valueAt qs k:=by simp[valueAt,M6,e']
   rw[gv e,b];exact ih
theorem KV.any {kvs:List (κ×V)}{vs:List (κ×Kq)}(r:KV kvs vs)(k:κ):(kvs.any λkv=>decide (kv.1=k))=vs.any λkv=>decide (kv.1=k):=by
 unfold KV at r
 induction r with
 | nil=>rfl
 | cons h t ih=>rw[MW,MW,ih,h.1]
theorem KV.J7 {kvs:List (κ×V)}{vs:List (κ×Kq)}(r:KV kvs vs)(k:κ){y:V}{u:Kq}(ry:RelV y u) :
  KV (kvs.map λkv=>if kv.1=k then(kv.1,y)else kv) (vs.map λkv=>if kv.1=k then(kv.1,u)else kv):=by
 unfold KV at r ⊢
 induction r with
 | nil=>exact .nil
 | @cons p q ps qs h t ih=>
  rw[Kp,Kp];refine .cons ?_ ih
  obtain⟨h1,h2⟩:=h
  by_cases e:p.1=k
  ·rw[if_pos e,if_pos (h1.symm.trans e)];exact⟨h1,ry⟩
  ·rw[if_neg e,if_neg (λz=>e (h1.trans z))];exact⟨h1,h2⟩
theorem KV.put {kvs:List (κ×V)}{vs:List (κ×Kq)}(r:KV kvs vs)(k:κ){y:V}{u:Kq}(ry:RelV y u):KV (dE kvs k y) (stored vs k u):=by
 unfold dE stored;rw[r.any k]
 by_cases e:(vs.any λkv=>decide (kv.1=k))=true
 ·rw[if_pos e,if_pos e];exact r.J7 k ry
 ·rw[if_neg e,if_neg e];exact Paired.snoc r ⟨rfl,ry⟩
theorem KV.length {kvs:List (κ×V)}{vs:List (κ×Kq)}(r:KV kvs vs):kvs.length=vs.length:=Pd r
end
theorem u9 {P:KS}{w:LA}{k:Key}{u:Kq}(r:RelV (kV k) u):(cS P w).is k u=true:=by
 cases k with
 | inl i=>obtain⟨t,e⟩:=(show ∃t,u=LZ i t from r);subst e;exact uW P w i t
 | inr x=>obtain⟨t,e⟩:=(show ∃t,u=Mk x t from r);subst e;exact uV P w x t
theorem qR {P:KS}{w:LA}:∀{ks:List Key} {us:List Kq},Vals (ks.map kV) us->ItemsAre (cS P w) ks us
 | [],_,r=>by rw[N9]at r;cases r;exact .nil
 | k::ks,_,r=>by
  rw[Kp]at r
  cases r with
  | cons h t=>exact .cons (u9 h) (qR t)
abbrev KT (H:Hp):List (List Key×V)->List (List Key×Addr×Kq)->Prop:=SB λp q=>p.1=q.1/\H q.2.1=some (.tup (p.1.map kV))/\RelV p.2 q.2.2
theorem KT.val {H:Hp}{kvs:List (List Key×V)}{xs:List (List Key×Addr×Kq)}(r:KT H kvs xs)(k:List Key):RelO (ii kvs k) ((atKey xs k).map (·.2)):=by
 induction r with
 | nil=>exact Na
 | @cons p q ps qs h t ih=>
  obtain⟨h1,_,h2⟩:=h
  by_cases e:p.1=k
  ·have e':q.1=k:=h1.symm.trans e
   have b:atKey (q::qs) k=some q.2:=by simp[atKey,M6,e']
   rw[gu e,b];exact h2
  ·have e':¬ q.1=k:=λz=>e (h1.trans z)
   have b:atKey (q::qs) k=atKey qs k:=by simp[atKey,M6,e']
   rw[gv e,b];exact ih
theorem KT.J7 {H:Hp}{kvs:List (List Key×V)}{xs:List (List Key×Addr×Kq)}(r:KT H kvs xs)(k:List Key){y:V}{u:Kq}(ry:RelV y u) :
  KT H (kvs.map λkv=>if kv.1=k then(kv.1,y)else kv) (xs.map (putAt k u)):=by
 induction r with
 | nil=>exact .nil
 | @cons p q ps qs h t ih=>
  rw[Kp,Kp];refine .cons ?_ ih
  obtain⟨h1,h2,h3⟩:=h;unfold putAt
  by_cases e:p.1=k
  ·rw[if_pos e,if_pos (h1.symm.trans e)];exact⟨h1,h2,ry⟩
  ·rw[if_neg e,if_neg (λz=>e (h1.trans z))];exact⟨h1,h2,h3⟩
theorem KT.put {H:Hp}{kvs:List (List Key×V)}{xs:List (List Key×Addr×Kq)}(r:KT H kvs xs)(k:List Key){b:Addr}{y:V}{u:Kq}(hb:H b=some (.tup (k.map kV)))(ry:RelV y u) :
  KT H (dE kvs k y) (storedH xs k b u):=by
 have e:(kvs.any λkv=>decide (kv.1=k))=(atKey xs k).isSome:=by
  rw[tT,(r.val k).Jv,Rb]
 unfold dE storedH;rw[e]
 by_cases q:(atKey xs k).isSome=true
 ·rw[if_pos q,if_pos q];exact r.J7 k ry
 ·rw[if_neg q,if_neg q];exact Paired.snoc r ⟨rfl,hb,ry⟩
theorem KT.keeps {H H':Hp}{kvs:List (List Key×V)}{xs:List (List Key×Addr×Kq)}(r:KT H kvs xs)(ht:∀b ys,H b=some (.tup ys)->H' b=some (.tup ys)):KT H' kvs xs:=
 Paired.J4 r λ_ _ z=>⟨z.1,ht _ _ z.2.1,z.2.2⟩
section
variable {P:KS}{w:LA}{H:Hp}{h:Heap}{a:Addr}
theorem wT {u:HO}(ok:HOk P w H h)(e:Rd H a u):ObjOk P w H h a u:=e.ok ok
theorem q0 {kvs:List (Key×V)}(ok:HOk P w H h)(e:Rd H a (.dK kvs)):kvs.length<=sizeLine/\(a == Nf)=false/\∃vs,KV kvs vs/\h.DictOf (cS P w) a vs:=
 show ObjOk P w H h a (.dK kvs)from wT ok e
theorem ID {kvs:List (Key×V)}(ok:HOk P w H h)(e:H a=some (.dK kvs)):kvs.length<=sizeLine/\(a == Nf)=false/\∃vs,KV kvs vs/\h.DictOf (cS P w) a vs:=q0 ok (.inl e)
theorem l8 {ks:List Key}(ok:HOk P w H h)(e:H a=some (.tup (ks.map kV))):(O8 (cS P w)).is h ks a:=by
 obtain⟨_,its,r,o,h1,h2,n,h3⟩:=(show ObjOk P w H h a (.tup (ks.map kV))from ok a _ e)
 exact⟨o,its.toArray,n,h1,h2,h3,by simpa using qR r⟩
theorem qY {kvs:List (List Key×V)}(ok:HOk P w H h)(e:Rd H a (.dT kvs)):kvs.length<=sizeLine/\(a == Nf)=false ∧
  ∃xs,KT H kvs xs/\h.DictOfH (O8 (cS P w)) a xs:=by
 obtain⟨z,y,xs,r,o,es,ep,h1,h2,h3,h4,h5⟩:=(show ObjOk P w H h a (.dT kvs)from wT ok e)
 refine⟨z,y,xs,r,o,es,ep,h1,h2,h3,h4,λx hx=> ?_,h5⟩
 have all:∀{l:List (List Key×V)} {m:List (List Key×Addr×Kq)},KT H l m->∀x∈m,(O8 (cS P w)).is h x.1 x.2.1:=by
  intro l m q
  induction q with
  | nil=>intro x hx;exact nomatch hx
  | @cons p q ps qs hq t ih=>
   intro x hx;rcases Ky.mp hx with e | hx
   ·subst e
    exact l8 ok (by rw[<-hq.1];exact hq.2.1)
   ·exact ih x hx
 exact all r x hx
theorem By {kvs:List (List Key×V)}(ok:HOk P w H h)(e:H a=some (.dT kvs)):kvs.length<=sizeLine/\(a == Nf)=false ∧
  ∃xs,KT H kvs xs/\h.DictOfH (O8 (cS P w)) a xs:=qY ok (.inl e)
end
def DGet (H:Hp)(a:Addr)(y:V)(r:Option V):Prop:=
 (∃kvs k,Rd H a (.dK kvs)/\y=kV k/\r=ii kvs k)\/∃kvs k b,Rd H a (.dT kvs)/\y= .ref b/\H b=some (.tup (k.map kV))/\r=ii kvs k
def DPut (H:Hp)(a:Addr)(y v:V)(H':Hp):Prop:=
 (∃kvs k,H a=some (.dK kvs)/\y=kV k/\kvs.length<sizeLine/\H'=upd H a (.dK (dE kvs k v))) ∨
 ∃kvs k b,H a=some (.dT kvs)/\y= .ref b/\H b=some (.tup (k.map kV))/\kvs.length<sizeLine/\H'=upd H a (.dT (dE kvs k v))
theorem DGet.t {H:Hp}{a b:Addr}{kvs:List (List Key×V)}{k:List Key}(e:H a=some (.dT kvs))(eb:H b=some (.tup (k.map kV))):DGet H a (.ref b) (ii kvs k):=.inr ⟨kvs,k,b,.inl e,rfl,eb,rfl⟩
theorem DPut.t {H:Hp}{a b:Addr}{kvs:List (List Key×V)}{k:List Key}{v:V}(e:H a=some (.dT kvs))(eb:H b=some (.tup (k.map kV)))(hl:kvs.length<sizeLine) :
  DPut H a (.ref b) v (upd H a (.dT (dE kvs k v))):=.inr ⟨kvs,k,b,e,rfl,eb,hl,rfl⟩
section
variable {X:Cx}{pins:List (Addr×Obj)}{σ:St}{H:Hp}{s:Kt}{a:Addr}{y v:V}{u r:Kq}{o:Option V}{A:La}{E:Kq->Kt->Prop}
theorem Inv.big (I:Inv X pins σ H s):Nf<s.heap.objs.size:=by
 have h:Ln<s.heap.objs.size:=(I.mod.glob.keeps I.bk).lt;exact PJ (by decide) h
theorem yR {Q:Kq->Kt->Prop}(hu:A.units+1<cLine)(I:Inv X pins σ H s)(g:DGet H a y (some v))(ry:RelV y u)(h:∀w' s',Inv X pins σ H s'->RelV v w'->Q w' s') :
  wpAny (model X.prog X.w) A (getItem (.ref a) u) Q E s:=by
 rcases g with⟨kvs,k,e,ey,l⟩ | ⟨kvs,k,b,e,ey,eb,l⟩
 ·subst ey
  obtain⟨z,hd,vs,rel,dd⟩:=q0 I.hok e;obtain⟨w',hw,rw'⟩:=RelO.some_of (v:=v) (o:=valueAt vs k) (by rw[l];exact rel.val k)
  exact wpAny_getItem_of (u9 ry) dd.mapOf hw (h w' _ (I.tok _) rw')
 ·subst ey
  cases (show u=KM b from ry)
  obtain⟨z,hd,xs,rel,dd⟩:=qY I.hok e;obtain⟨w',hw,rw'⟩:=RelO.some_of (v:=v) (o:=(atKey xs k).map (·.2)) (by rw[l];exact rel.val k)
  obtain⟨p,hp,hp2⟩:=MA.mp hw;refine wpAny_getItem_heap (M4 hu) (l8 I.hok eb) dd hp ?_
  rw[hp2];exact h w' _ (I.tok _) rw'
theorem d_in {Q:Kq->Kt->Prop}(hu:A.units+1<cLine)(I:Inv X pins σ H s)(g:DGet H a y o)(ry:RelV y u)(h:∀s',Inv X pins σ H s'->Q (.bool o.isSome) s') :
  wpAny (model X.prog X.w) A (Ls .In u (.ref a)) Q E s:=by
 rcases g with⟨kvs,k,e,ey,l⟩ | ⟨kvs,k,b,e,ey,eb,l⟩
 ·subst ey
  obtain⟨z,hd,vs,rel,dd⟩:=q0 I.hok e;refine wpAny_in_of (u9 ry) hd dd.mapOf ?_
  rw[<-(rel.val k).Jv,<-l];exact h _ (I.tok _)
 ·subst ey
  cases (show u=KM b from ry)
  obtain⟨z,hd,xs,rel,dd⟩:=qY I.hok e;refine wpAny_in_heap (M4 hu) (l8 I.hok eb) hd dd ?_
  have q:=(rel.val k).Jv;rw[Rb]at q;rw[<-q,<-l];exact h _ (I.tok _)
theorem tq {h':Heap}{t':Nat}{ob:HO}(I:Inv X pins σ H s)(mu:IK (H a))(hs:Ny a s.heap h')(he:∃q,h'.get? a=some q)(new:ObjOk X.prog X.w (upd H a ob) h' a ob) :
  Inv X pins σ (upd H a ob) { s with heap:=h',toks:=t' }:=
 I.write (x:=a) (e:=a) mu (.inl rfl) (λb q hb z=>(hs.2 b hb).trans z) he new
theorem GC {P:KS}{w:LA}{H':Hp}{h':Heap}{kvs:List (Key×V)}{vs:List (Key×Kq)}(z:kvs.length<=sizeLine)(hd:(a == Nf)=false)(rel:KV kvs vs)(dd:h'.DictOf (cS P w) a vs) :
  ObjOk P w H' h' a (.dK kvs):=⟨z,hd,vs,rel,dd⟩
theorem yQ {H':Hp}{Q:Unit->Kt->Prop}(hu:A.units+1<cLine)(I:Inv X pins σ H s)(g:DPut H a y v H')(ry:RelV y u)(rv:RelV v r)(h:∀s',Inv X pins σ H' s'->Q () s') :
  wpAny (model X.prog X.w) A (setItem (.ref a) u r) Q E s:=by
 rcases g with⟨kvs,k,e,ey,l,eH⟩ | ⟨kvs,k,b,e,ey,eb,l,eH⟩
 ·subst ey eH
  obtain⟨z,hd,vs,rel,dd⟩:=ID I.hok e
  have hz:vs.length<=sizeLine:=by rw[<-rel.length];exact z
  have hl:(dE kvs k v).length<=sizeLine:=by have:=gV kvs k v;omega
  refine wpAny_setItem_pairs (hsz:=hz) (u9 ry) dd λh' dd' hs=>h _ ?_
  have he:∃q,h'.get? a=some q:=let ⟨q,_,_,hq,_⟩:=dd';⟨q,hq⟩
  exact tq I (by rw[e];exact Na) hs he (GC hl hd (rel.put k rv) dd')
 ·subst ey eH
  cases (show u=KM b from ry)
  obtain⟨z,hd,xs,rel,dd⟩:=By I.hok e
  have hz:xs.length<=sizeLine:=by rw[<-Pd rel];exact z
  have hl:(dE kvs k v).length<=sizeLine:=by have:=gV kvs k v;omega
  refine wpAny_setItem_heap (hsz:=hz) (M4 hu) (l8 I.hok eb) dd λh' dd' hs=>h _ ?_
  obtain⟨q,es,ep,hq,h2,h3,h4,_,h5⟩:=dd';refine tq I (by rw[e];exact Na) hs ⟨q,hq⟩ ⟨hl,hd,_,(rel.put k eb rv).keeps λc ys ec=> ?_,q,es,ep,hq,h2,h3,h4,h5⟩
  rw[aF (lm ec e (λz=>nomatch z))]
  exact ec
end
def yZ (i:Expr):Prop:=∀ov iv,Qt i false ov iv=operate [ov,iv] (getItem ov iv)
theorem Ca {prog:KS}{w:LA}{A:La}{E:Kq->Kt->Prop}{s:Kt}{env:Env}{value slice:Expr}{pos:Pos}{T id:String}{Q:Kq->Kt->Prop}
  (hl:N3 (.type T) "__getitem__" =pure (some (.builtin id))) (hs:yZ slice)
  (h:wpAny (model prog w) A (eval value env) (λo s₁=>wpAny (model prog w) A (eval slice env) (λi s₂=>s₂.TypeIs o T/\wpAny (model prog w) A (getItem o i) Q E s₂) E s₁) E s) :
  wpAny (model prog w) A (eval (.Subscript value slice pos) env) Q E s:=by
 refine Rm (Mb h (λo s₁ h₁=>Mb h₁ (λi s₂ h₂=> ?_) λ_ _ x=>x) λ_ _ x=>x)
 obtain⟨hT,h₂⟩:=h₂;unfold Q1;refine Kn ?_
 rw[getitemInPython_of_ne hT.not_modules];refine Kn (wpAny_specialOf hT hl ?_)
 have fin:wpAny (model prog w) A (Qt slice false o i) (λr s₃=>wpAny (model prog w) A (letTemporaryGo value o r >>= λ_=>pure r) Q E s₃) E s₂:=by
  rw[hs o i];exact wpAny_operating (Mb h₂ (λr s₃ h₃=>Kn (wpAny_letTemporaryGo (Kz h₃))) λ_ _ x=>x)
 first
  | exact Kz (Kn fin)
  | exact Kn (Kz (Kn fin))
  | exact Kn fin
theorem vm {X:Cx}{pins:List (Addr×Obj)}{σ:St}{H:Hp}{s:Kt}{a:Addr}{y:V}{o:Option V}(I:Inv X pins σ H s)(g:DGet H a y o):s.TypeIs (.ref a) "dict":=by
 rcases g with⟨kvs,k,e,_,_⟩ | ⟨kvs,k,b,e,_,_,_⟩
 ·obtain⟨_,_,vs,_,dd⟩:=q0 I.hok e
  exact dd.typeIs
 ·obtain⟨_,_,xs,_,dd⟩:=qY I.hok e
  exact dd.typeIs
def G2 (td ty:TE):TE:=λσ H Q=>td σ H λx H1=>ty σ H1 λy H2=> ∃a v,x= .ref a/\DGet H2 a y (some v)/\Q v H2
def G7 (td ty tv:TE):TS:=λD σ H=>tv σ H λv H1=>td σ H1 λx H2=>ty σ H2 λy H3=> ∃a H4,x= .ref a/\DPut H3 a y v H4/\D.nx σ H4
section
variable {X:Cx}{o i e value:Expr}{pos pos' tpos:Pos}{td ty tv:TE}
theorem wZ (hu:X.A.units+1<cLine)(ho:PE X o td)(hi:PE X i ty)(hs:yZ i):PE X (.Subscript o i pos) (G2 td ty):=by
 intro pins s σ H Q I h;refine Ca PySem.F.slot_dict_getitem.lookup hs (cr (ho pins s σ H _ I h) λu s1 ⟨x,H1,I1,rx,q1⟩=>cr (hi pins s1 σ H1 _ I1 q1) λiv s2 hh_=> ?_)
 obtain⟨y,H2,I2,ry,a,v,ex,g,q2⟩:=hh_;subst ex;obtain rfl:u=KM a:=rx;exact⟨vm I2 g,yR hu I2 g ry λw' s3 I3 rw'=>⟨v,H2,I3,rw',q2⟩⟩
theorem wW (hu:X.A.units+1<cLine)(ho:PE X o td)(hi:PE X i ty)(hv:PE X value tv)(hs:LF value (some (.Subscript o i pos')) pos.line X.env=pure false) :
  PS X (.Assign [.Subscript o i pos'] value pos) (G7 td ty tv):=by
 intro pins s σ H D I h;refine wpAny_Assign_Subscript (cr (hv pins s σ H _ I h) λr s1 ⟨v,H1,I1,rv,q1⟩=>cr (ho pins s1 σ H1 _ I1 q1) λu s2 ⟨x,H2,I2,rx,q2⟩=>cr (hi pins s2 σ H2 _ I2 q2) λiv s3 ⟨y,H3,I3,ry,a,H4,ex,g,q3⟩=> ?_) hs
 subst ex;obtain rfl:u=KM a:=rx;exact yQ hu I3 g ry rv λs4 I4=>⟨σ,H4,I4,q3⟩
end
theorem Bz {P:KS}{w:LA}{H:Hp}(h:Heap)(hb:Nf<h.objs.size):ObjOk P w H (h.push { cls:=.type "dict",data:=.dict #[] }) h.objs.size (.dT []):=
 ⟨LP _,beq_eq_false_iff_ne.mpr (LO (Lk hb)),[],.nil,_,#[],0,KI _ rfl,⟨rfl,rfl,rfl⟩,rfl,rfl,ML⟩
structure M1 (X:Cx)(o:Expr)(m:Str)(apos:Pos)(e:Expr)(cpos:Pos):Prop where
 base:LV o m X.env (eval o X.env)=eval o X.env
 few:((backTo cpos (KG [e] X.env)).all (λx=> !x.1)&&(QV cpos (OF [] X.env)).all (λx=>x.1.isSome)
  &&decide (([e]:List Expr).length+([]:List Rk).length+(if ([]:List Rk).isEmpty then 0 else 1)<30))=true
 line:(apos.endLine == cpos.line)=true
 trees:backTo cpos (KG [e] X.env)= [(false,eval e X.env)]
structure M2 (X:Cx)(o:Expr)(m:Str)(apos:Pos)(e f:Expr)(cpos:Pos):Prop where
 base:LV o m X.env (eval o X.env)=eval o X.env
 few:((backTo cpos (KG [e,f] X.env)).all (λx=> !x.1)&&(QV cpos (OF [] X.env)).all (λx=>x.1.isSome)
  &&decide (([e,f]:List Expr).length+([]:List Rk).length+(if ([]:List Rk).isEmpty then 0 else 1)<30))=true
 line:(apos.endLine == cpos.line)=true
 trees:backTo cpos (KG [e,f] X.env)= [(false,eval e X.env),(false,eval f X.env)]
def IsD (H:Hp)(a:Addr):Prop:=(∃kvs,Rd H a (.dK kvs))\/∃kvs,Rd H a (.dT kvs)
theorem Gj {X:Cx}{pins:List (Addr×Obj)}{σ:St}{H:Hp}{s:Kt}{a:Addr}(I:Inv X pins σ H s)(d:IsD H a) :
  s.TypeIs (.ref a) "dict"/\(∀b,KM a= .ref b->∃ob,s.heap.get? b=some ob/\ob.dict=none)/\(a == Nf)=false:=by
 rcases d with⟨kvs,e⟩ | ⟨kvs,e⟩
 ·obtain⟨_,hd,vs,_,dd⟩:=q0 I.hok e
  refine⟨dd.typeIs,λb q=> ?_,hd⟩
  cases q;obtain⟨ob,_,_,h1,h2,_⟩:=dd;exact⟨ob,h1,h2.2.1⟩
 ·obtain⟨_,hd,xs,_,dd⟩:=qY I.hok e
  refine⟨dd.typeIs,λb q=> ?_,hd⟩
  cases q;obtain⟨ob,_,_,h1,h2,_⟩:=dd;exact⟨ob,h1,h2.2.1⟩
section
variable {X:Cx}{pins:List (Addr×Obj)}{σ:St}{H:Hp}{s:Kt}{a:Addr}{y d:V}{u r:Kq}{o:Option V}{A:La}{E:Kq->Kt->Prop}
theorem GE {Q:Kq->Kt->Prop}(hu:A.units+1<cLine)(I:Inv X pins σ H s)(g:DGet H a y o)(ry:RelV y u)(h:∀w' s',Inv X pins σ H s'->RelV (o.getD .non) w'->Q w' s') :
  wpAny (model X.prog X.w) A (call (.builtin "dict.get") [.ref a,u]) Q E s:=by
 rcases g with⟨kvs,k,e,ey,l⟩ | ⟨kvs,k,b,e,ey,eb,l⟩
 ·subst ey
  obtain⟨z,hd,vs,rel,dd⟩:=q0 I.hok e;refine call_meetsIn N8 dd.typeIs Pv (O9 _ _) (meets_dict_get (cS X.prog X.w) a (u9 ry) hd) ⟨_,dd.mapOf,h _ _ (I.tok _) ?_⟩
  rw[l];exact(rel.val k).getD rfl
 ·subst ey
  cases (show u=KM b from ry)
  obtain⟨z,hd,xs,rel,dd⟩:=qY I.hok e;refine call_meetsIn N8 dd.typeIs Pv (O9 _ _) (meetsH_dict_get (O8 (cS X.prog X.w)) a b hd) ⟨M4 hu,k,xs,l8 I.hok eb,dd,h _ _ (I.tok _) ?_⟩
  rw[l];exact(rel.val k).getD rfl
end
def EH (td ty:TE):TE:=λσ H Q=>td σ H λx H1=> ∃a,x= .ref a/\IsD H1 a/\ty σ H1 λy H2=> ∃o,DGet H2 a y o/\Q (o.getD .non) H2
section
variable {X:Cx}{o e f:Expr}{apos cpos:Pos}{td ty tx:TE}
theorem Aj (hu:X.A.units+1<cLine)(ho:PE X o td)(he:PE X e ty)(m:M1 X o "get" apos e cpos):PE X (.Call (.Attribute o "get" apos) [e] [] cpos) (EH td ty):=by
 intro pins s σ H Q I h;refine wpAny_Call_method m.base m.few m.line PySem.F.plainAttrs_dict N8 PySem.F.type_dict_get (cr (ho pins s σ H _ I h) λu s1 hh_=> ?_)
 obtain⟨x,H1,I1,rx,a,ex,d,q1⟩:=hh_;subst ex;obtain rfl:u=KM a:=rx;obtain⟨t1,t2,_⟩:=Gj I1 d;refine⟨t1,t2,?_⟩
 rw[m.trees];refine NT rfl (Nk (NH (cr (he pins s1 σ H1 _ I1 q1) λiv s2 ⟨y,H2,I2,ry,ov,g,q2⟩=>NW ?_)))
 exact GE hu I2 g ry λw' s3 I3 rw'=>⟨_,H2,I3,rw',q2⟩
end
end L2
namespace Tr
open PySem PySem.Spec PyProof.Rows L2
theorem DGet.J3 {H:Hp}{a b:Addr}{kvs:List (List Key×V)}{k:List Key}(e:Rd H a (.dT kvs))(eb:H b=some (.tup (k.map kV))):DGet H a (.ref b) (ii kvs k):=.inr ⟨kvs,k,b,e,rfl,eb,rfl⟩
theorem kL {k:Nat}{A:La}(h:Room k A):A.units+1<cLine:=by have:=h.un;omega
theorem oV {K:Km}{O:Ow}{H:Hp}:∀{l:List T} {vs:List V} {k:List Key},oX l=some k->Reps K O H l vs->vs=k.map kV
 | [],vs,k,h,r=>by cases Reps.Je.mp r;cases h;rfl
 | t::l,vs,k,h,r=>by
  obtain⟨v,ws,rfl,p,q⟩:=Reps.me.mp r;unfold oX at h
  cases e1:Eb t with
  | none=>rw[e1]at h;cases h
  | some a=>
   cases e2:oX l with
   | none=>rw[e1,e2]at h;cases h
   | some b=>
    rw[e1,e2]at h;cases h;rw[oV e2 q,Kp]
    congr 1
    cases t with
    | int i=>cases e1;exact Rep.Jf.mp p
    | str x=>cases e1;exact Rep.Jl.mp p
    | _=>cases e1
theorem gX {K:Km}{O:Ow}{H:Hp}{y:T}{v:V}{k:List Key}(h:keyOf y=some k)(r:Rep K O H y v):∃b,v= .ref b/\H b=some (.tup (k.map kV)):=by
 cases y with
 | tup l=>
  obtain⟨a,vs,e1,_,e3,e4⟩:=Rep.Jg.mp r;rw[oV h e4]at e3
  exact⟨a,e1,e3⟩
 | _=>cases h
theorem lI {K:Km}{O:Ow}{H:Hp}{k:List Key}:∀{ks ts:List T} {kvs:List (List Key×V)},ks.map keyOf=kvs.map (λp=>some p.1)->Reps K O H ts (kvs.map (·.2))->match kN ks ts k with
  | some t=> ∃v,ii kvs k=some v/\Rep K O H t v
  | none=>ii kvs k=none
 | [],ts,kvs,h,r=>by
  cases kvs with
  | nil=>unfold kN;exact zm
  | cons _ _=>cases h
 | k'::ks,ts,kvs,h,r=>by
  cases kvs with
  | nil=>cases h
  | cons p kvs=>
   rw[Kp,Kp]at h;injection h with h1 h2
   rw[Kp]at r
   cases ts with
   | nil=>have:=Reps.Je.mp r;cases this
   | cons t ts=>
    obtain⟨v,ws,e,q1,q2⟩:=Reps.me.mp r;injection e with e1 e2
    subst e1 e2;unfold kN
    by_cases hk:keyOf k'=some k
    ·rw[if_pos hk]
     rw[h1]at hk;injection hk with hk
     exact⟨_,gu hk,q1⟩
    ·rw[if_neg hk]
     have hk2:¬ p.1=k:=λz=>hk (by rw[h1,z])
     rw[gv hk2];exact lI h2 q2
theorem rQ {κ:Type}[DecidableEq κ]{k:κ}{p:κ×V}{r:List (κ×V)}{v:V}(h:¬ p.1=k):dE (p::r) k v=p::dE r k v:=by
 unfold dE;rw[MW,decide_eq_false h,Pe]
 by_cases q:(r.any λkv=>decide (kv.1=k))=true
 ·rw[if_pos q,if_pos q,Kp,if_neg h]
 ·rw[if_neg q,if_neg q];rfl
theorem rR {κ:Type}[DecidableEq κ]{k:κ}{p:κ×V}{r:List (κ×V)}{v:V}(h:p.1=k)(hn:∀q∈r,q.1≠k):dE (p::r) k v=(p.1,v)::r:=by
 unfold dE;rw[MW,decide_eq_true h,Rx,if_pos rfl,Kp,if_pos h]
 congr 1
 conv=>rhs;rw[<-Se r]
 exact K2 λq hq=>if_neg (hn q hq)
theorem lH {K:Km}{O:Ow}{H:Hp}{kT vT:T}{k:List Key}{v:V}(hk:keyOf kT=some k)(hv:Rep K O H vT v):∀{ks ts:List T} {kvs:List (List Key×V)},ks.map keyOf=kvs.map (λp=>some p.1)->Reps K O H ts (kvs.map (·.2))->(kvs.map (·.1)).Nodup →
  (gM kT vT ks ts).1.map keyOf=(dE kvs k v).map (λp=>some p.1)/\Reps K O H (gM kT vT ks ts).2 ((dE kvs k v).map (·.2))
 | [],ts,kvs,h,r,_=>by
  cases kvs with
  | nil=>
   unfold gM;refine⟨?_,Reps.Jk hv Reps.Jn⟩
   simp[dE,hk]
  | cons _ _=>cases h
 | k'::ks,ts,kvs,h,r,hn=>by
  cases kvs with
  | nil=>cases h
  | cons p kvs=>
   rw[Kp,Kp]at h;injection h with h1 h2
   rw[Kp]at r;rw[Kp]at hn;obtain⟨n1,n2⟩:=K0.mp hn
   cases ts with
   | nil=>have:=Reps.Je.mp r;cases this
   | cons t ts=>
    obtain⟨v',ws,e,q1,q2⟩:=Reps.me.mp r;injection e with e1 e2
    subst e1 e2;unfold gM
    by_cases hz:keyOf k'=keyOf kT
    ·rw[if_pos hz]
     have hp:p.1=k:=by rw[hz,hk]at h1;injection h1 with h1;exact h1.symm
     rw[rR hp λq hq z=>n1 (by rw[hp,<-z];exact List.mem_map_of_mem hq)]
     exact⟨by rw[Kp,Kp,h1,h2],Reps.Jk hv q2⟩
    ·rw[if_neg hz]
     have hp:¬ p.1=k:=λz=>hz (by rw[h1,z,hk])
     obtain⟨a1,a2⟩:=lH hk hv h2 q2 n2;rw[rQ hp];exact⟨by rw[Kp,Kp,h1,a1],Reps.Jk q1 a2⟩
theorem DH {H:Hp}{kvs:List (List Key×V)}{xs:List (List Key×Addr×Kq)}(rel:KT H kvs xs):kvs.map (·.1)=xs.map (·.1):=by
 induction rel with
 | nil=>rfl
 | cons h t ih=>rw[Kp,Kp,ih,h.1]
theorem vo {X:Cx}{pins:List (Addr×Obj)}{σ:L2.St}{H:Hp}{s:Kt}{a:Addr}{kvs:List (List Key×V)}(I:Inv X pins σ H s)(e:H a=some (.dT kvs)):(kvs.map (·.1)).Nodup/\kvs.length<=sizeLine:=by
 obtain⟨z,_,xs,rel,_,_,_,_,_,_,_,_,hn⟩:=By I.hok e;rw[DH rel];exact⟨hn,z⟩
section
variable {X:Cx}{a b:Expr}{fa fb:En->Rs T}{pos:Pos}
theorem Hy (hu:X.A.units+1<cLine)(ha:cP X a fa)(hb:cP X b fb)(hs:yZ b:=by intro _ _;rfl):cP X (.Subscript a b pos) (o2 bu fa fb):=by
 refine PE.imp (wZ hu ha hb hs) λσ H Q ⟨Z,O,E,hq⟩=> ?_
 obtain⟨Z1,O1,E1,h1⟩:=bn E hq;refine⟨Z1,O1,E1,Post.mono h1 λt H1 s1 q v r=> ?_⟩
 obtain⟨t',r',s',E',q'⟩:=q v r;obtain⟨Z2,O2,E2,h2⟩:=bn (f:=fb) E' q';refine⟨Z2,O2,E2,Post.mono h2 λt2 H2 s2 q2 v2 r2=> ?_⟩
 obtain⟨t2',r2',s2',E2',q2'⟩:=q2 v2 r2
 have r'':=r'.same s2';unfold bu at q2'
 split at q2'
 ·rename_i ks vs k hk
  split at q2'
  ·rename_i x hx
   obtain⟨a,kvs,e1,e2,e3,e4,e5⟩:=Rep.Jm.mp r'';obtain⟨b,f1,f2⟩:=gX hk r2'
   have g:=lI (k:=k) e4 e5;rw[hx]at g;obtain⟨w,g1,g2⟩:=g;exact⟨a,w,e1,by rw[f1,<-g1];exact DGet.J3 e3 f2,q2' H2 (Same.refl H2) w g2⟩
  ·exact q2'.elim
 ·exact q2'.elim
end
end Tr
namespace Tr
open PySem PySem.Spec PyProof.Rows L2
open PySem.SeqAt
theorem AE {A:La}{s:Kt}{x:T}{ux:Kq}(rx:ReV s x ux)(hu:A.units+60<cLine){l:List T}{us:List Kq}(hd:x.dep<=60\/deps l<=60)(r:ReVs s l us) :
  ∃e:Kq->Bool,(∀y∈us,EqAt A s y ux (e y))/\us.map e=l.map λt=>bf t x:=by
 classical
 have ex:∀y∈us,∃t∈l,ReV s t y:=λy hy=>by
  obtain⟨i,hi,rfl⟩:=MV hy
  have hl:=r.length
  have e1:l[i]? =some l[i]:=by simp
  obtain⟨u,q1,q2⟩:=r.get e1
  have:us[i]? =some us[i]:=by simp
  rw[this]at q1;cases q1;exact⟨l[i],L4 _,q2⟩
 let e:Kq->Bool:=λy=>decide (∃t∈l,ReV s t y/\bf t x=true)
 have dep:∀t∈l,t.dep<=60\/x.dep<=60:=λt ht=>by
  rcases hd with h | h
  ·exact .inr h
  ·obtain⟨i,hi,rfl⟩:=MV ht
   exact .inl (K6 (jA (i:=i) (by simp)) h)
 have uniq:∀y t t',ReV s t y->ReV s t' y->bf t x=bf t' x:=λy t t' z z'=>by
  rw[<-lL t,<-lL t',ReV.nf z z']
 have agree:∀y t,t∈l->ReV s t y->e y=bf t x:=λy t h z=>by
  show decide (∃t∈l,ReV s t y/\bf t x=true)=bf t x
  cases q:bf t x with
  | true=>exact decide_eq_true ⟨t,h,z,q⟩
  | false=>
   refine decide_eq_false ?_
   rintro ⟨t',h',z',q'⟩
   rw[<-uniq y t t' z z',q]at q';cases q'
 refine⟨e,λy hy=> ?_,?_⟩
 ·obtain⟨t,h,z⟩:=ex y hy
  rw[agree y t h z];exact(Di 60 A s t x y ux (dep t h) hu z rx).1
 ·have go:∀(l':List T) (us':List Kq),(∀t∈l',t∈l)->ReVs s l' us'->us'.map e=l'.map λy=>bf y x:=by
   intro l'
   induction l' with
   | nil=>intro us' _ r';rw[ReVs.Je.mp r'];rfl
   | cons t l' ih=>
    intro us' sub r';obtain⟨u,ws,rfl,p,q⟩:=ReVs.me.mp r';rw[Kp,Kp,ih ws (λt ht=>sub t (Ko _ ht)) q,agree u t (sub t Kr) p]
  exact go l us (λ_ h=>h) r
theorem o6 {x:T}:∀{l:List T} {n k:Nat},jT x l n=some k->n<=k/\(l.map λt=>bf t x)[k - n]? =some true/\∀m,m<k - n->(l.map λt=>bf t x)[m]? =some false
 | [],n,k,h=>by cases h
 | t::l,n,k,h=>by
  unfold jT at h
  cases q:bf t x with
  | true=>
   rw[q,if_pos rfl]at h;cases h;refine⟨KB _,?_,λm hm=>by omega⟩
   rw[PQ,Kp,q];rfl
  | false=>
   rw[q,if_neg (by decide)]at h
   obtain⟨h1,h2,h3⟩:=o6 h
   have e:k - n=(k - (n+1))+1:=by omega
   refine⟨by omega,?_,λm hm=> ?_⟩
   ·rw[e,Kp,MX];exact h2
   ·cases m with
    | zero=>rw[Kp,q];rfl
    | succ m=>rw[Kp,MX];exact h3 m (by omega)
section
variable {X:Cx}{a b:Expr}{fa fb:En->Rs T}{pos apos cpos:Pos}
theorem zU (hu:X.A.units+61<cLine)(ha:cP X a fa)(hb:cP X b fb)(hn:bq b=true:=by rfl)
  (hbase:LV a "index" X.env (eval a X.env)=eval a X.env:=by rfl) (hline:(apos.endLine == cpos.line)=true:=by rfl):cP X (.Call (.Attribute a "index" apos) [b] [] cpos) (oL gU fa fb):=by
 have hs:KG [b] X.env=(false,eval b X.env)::KG [] X.env:=aY hn;intro pins s σ H Q I ⟨Z,O,E,hq⟩;refine Pz hbase (by rw[hs];rfl) hline rfl (cr (ha pins s σ H _ I (bn E hq)) λv s1 hh_=> ?_)
 obtain⟨x,H1,I1,r1,t,rt,s',E',q1⟩:=hh_
 cases t with
 | lst l=>
  obtain⟨c,vs,e1,e2,e3,e4⟩:=Rep.Jh.mp rt;subst e1;obtain rfl:v=KM c:=r1;obtain⟨h1,h2⟩:=zo I1 (show RelV (.ref c) (.ref c)from rfl) (.inl ⟨rfl,vs,SqL.of e3⟩)
  refine⟨_,_,LY,Pa,Pb,h1,h2,?_⟩
  rw[hs];refine NT rfl (Nk (NH (cr (hb pins s1 σ H1 _ I1 (bn (f:=fb) E' q1)) λu s2 ⟨y,H2,I2,r2,t2,rt2,s'',E'',q2⟩=>NW ?_)))
  unfold gU at q2
  split at q2
  ·rename_i l' heq
   cases heq
   split at q2
   ·rename_i hd3
    obtain⟨hd,hnx,hny⟩:=hd3
    split at q2
    ·rename_i k hk
     have rv:=Rep.val I2 (show(T.lst l).nd=true by unfold T.nd;exact hny) (rt.same s'') (show RelV (.ref c) (.ref c)from rfl)
     unfold ReV at rv;obtain⟨c',us,ec,hl,rs⟩:=rv;cases ec;obtain⟨⟨cls,dd,data,sl⟩,ho,hc,n,hdd⟩:=id hl;simp only at hc hdd;subst hc hdd;obtain⟨e,he,ha⟩:=AE (A:=X.A.in1) (Rep.val I2 hnx rt2 r2) (by show X.A.units+1+60<cLine;omega) hd rs
     obtain⟨_,k1,k2⟩:=o6 hk;rw[OR]at k1 k2;rw[<-ha]at k1 k2
     have hkl:k<us.length:=by have:=(KC.mp k1).1;rwa [Ks]at this
     have hz:us.length<=sizeLine:=by
      have z:=(I2.Jt (s'' _ _ e3)).1
      have h3:=rs.length
      have h4:=e4.length;omega
     refine Nh Ra ⟨_,ho,rfl⟩ QH (Qk _ _) (list_indexAt c us.toArray n dd sl u e k (by simpa using hkl) (by rw[Mx]at hz;omega) ?_ ?_) ⟨ho,λy hy=>he y (by simpa using hy),?_⟩
     ·have:=(KC.mp k1).2
      rw[Nu]at this
      simpa using this
     ·intro m hm hmk
      have:=(KC.mp (k2 m hmk)).2
      rw[Nu]at this
      simpa using this
     ·exact⟨.int _,H2,I2.tok _,⟨_,rfl⟩,q2 H2 (Same.refl H2) _ (Rep.Jo _)⟩
    ·exact q2.elim
   ·exact q2.elim
  ·rename_i hno
   exact(hno l rfl).elim
 | _=>exact q1.elim
theorem Fu (hu:X.A.units+1<cLine)(ha:cP X a fa)(hb:cP X b fb)(hn:bq b=true:=by rfl)
  (hbase:LV a "get" X.env (eval a X.env)=eval a X.env:=by rfl) (hline:(apos.endLine == cpos.line)=true:=by rfl):cP X (.Call (.Attribute a "get" apos) [b] [] cpos) (oD jb fa fb):=by
 have hs:KG [b] X.env=(false,eval b X.env)::KG [] X.env:=aY hn;refine PE.imp (Aj hu ha hb ⟨hbase,by rw[hs];rfl,hline,by rw[hs];rfl⟩) λσ H Q ⟨Z,O,E,hq⟩=> ?_
 obtain⟨Z1,O1,E1,h1⟩:=bn E hq;refine⟨Z1,O1,E1,Post.mono h1 λt H1 s1 q v r=> ?_⟩
 obtain⟨t',r',s',E',q'⟩:=q v r
 cases t' with
 | dct ks vs=>
  obtain⟨c,kvs,e1,e2,e3,e4,e5⟩:=Rep.Jm.mp r';refine⟨c,e1,.inr ⟨kvs,e3⟩,?_⟩
  obtain⟨Z2,O2,E2,h2⟩:=bn (f:=fb) E' q';refine⟨Z2,O2,E2,Post.mono h2 λt2 H2 s2 q2 v2 r2=> ?_⟩
  obtain⟨t2',r2',s2',E2',q2'⟩:=q2 v2 r2;unfold jb at q2'
  split at q2'
  ·rename_i ks' vs' k heq hk
   cases heq;obtain⟨b,f1,f2⟩:=gX hk r2'
   have g:=lI (k:=k) e4 (e5.same s2');refine⟨ii kvs k,by rw[f1];exact DGet.J3 (Rd.JZ (P:=ym) (SameO.of s2') (λz=>z) e3) f2,?_⟩
   cases hx:kN ks vs k with
   | some z=>
    rw[hx]at g q2';obtain⟨w,g1,g2⟩:=g;rw[g1]
    exact q2' H2 (Same.refl H2) w g2
   | none=>
    rw[hx]at g q2';rw[g];exact q2' H2 (Same.refl H2) .non Rep.JS
  ·exact q2'.elim
 | _=>exact q'.elim
theorem FH (hu:X.A.units+1<cLine):OpT X (Ls .In) BB:=by
 intro pins s σ H O x y vx vy ux uy Q I hf rx ry r1 r2 hp;unfold BB at hp
 split at hp
 ·rename_i ks vs k hk
  obtain⟨c,kvs,e1,e2,e3,e4,e5⟩:=Rep.Jm.mp ry;obtain⟨b,f1,f2⟩:=gX hk rx;subst e1 f1;obtain rfl:uy=KM c:=r2
  have g:=lI (k:=k) e4 e5
  have hsome:(kN ks vs k).isSome=(ii kvs k).isSome:=by
   cases hx:kN ks vs k with
   | some z=>rw[hx]at g;obtain⟨w,g1,_⟩:=g;rw[g1];rfl
   | none=>rw[hx]at g;rw[g];rfl
  refine d_in hu I (DGet.J3 e3 f2) r1 λs' I'=>⟨.bl _,H,I',rfl,?_⟩
  rw[<-hsome];exact hp H (Same.refl H) _ (Rep.bl_ _)
 ·exact hp.elim
end
end Tr
namespace Tr
open PySem PySem.Spec PyProof.Rows L2
section
variable {X:Cx}{a b c:Expr}{fa fb fc:En->Rs T}{pos p2 p3 p4:Pos}{x:Str}
theorem Fd (i:Nat)(hu:X.A.units+1<cLine)(hb:cP X b fb)(hc:cP X c fc)(hN:X.N[i]? =some x:=by rfl)(hv:rj X.env.scope x:=by first | exact LN rfl | exact Lz (LN rfl) | exact Lz (Lz rfl))
  (hd:gm x:=by decide) (hcd:(x == ("__classdict__" : Str))=false:=by decide)
  (hs:LF c (some (.Subscript (.Name x p2) b p3)) pos.line X.env=pure false:=by rfl):pz X (.Assign [.Subscript (.Name x p2) b p3] c pos) (yd i fb fc):=by
 intro pins s σ H D I ⟨Z,B,M,E,h⟩;refine wW hu (g9 hN hv hd hcd) hb hc hs pins s σ H D I ?_
 unfold yd at h
 split at h
 ·rename_i ks vs hl
  obtain⟨v0,e1,d,kvs,rfl,hM,e3,e4,e5⟩:=E.env.own i _ hl;obtain⟨nd,nz⟩:=vo I e3;refine⟨Z,OO B M,E.o,?_⟩
  cases q:fc Z with
  | bad=>rw[q]at h;exact h.elim
  | err c=>rw[q]at h;exact PostF.xa h
  | ok vT=>
   rw[q,aE]at h;intro H1 s1 v r;refine⟨.ref d,e1,Z,OO B M,(E.same s1).o,?_⟩
   have h1:=h.later (SameO.of s1) (P1:=M.u) λa z=> .inl z
   cases q2:fb Z with
   | bad=>rw[q2]at h1;exact h1.elim
   | err c=>rw[q2]at h1;exact PostF.xa h1
   | ok kT=>
    rw[q2,aE]at h1;intro H2 s2 y ry
    cases q3:keyOf kT with
    | none=>rw[q3]at h1;exact h1.elim
    | some k=>
     rw[q3]at h1
     have h2:=h1.later (SameO.of s2) (P1:=M.u) λa z=> .inl z
     have hlen:ks.length=kvs.length:=by have:=congrArg Lx e4;simpa using this
     by_cases hz:ks.length<1000
     ·simp only[if_pos hz]at h2
      obtain⟨kb,f1,f2⟩:=gX q3 ry
      have e3':=s2 _ _ (s1 _ _ e3);obtain⟨g1,g2⟩:=lH q3 (r.same s2) e4 ((e5.same s1).same s2) nd;refine⟨d,upd H2 d (.dT (dE kvs k v)),rfl,by rw[f1];exact DPut.t e3' f2 (by rw[Mx];omega),?_⟩
      have sm:SameO (M i) H2 (upd H2 d (.dT (dE kvs k v))):=λc u e nb=>by rw[aF (λz=>nb ((hM c).mpr z))];exact e
      obtain⟨g3,g4⟩:=((E.same s1).same s2).put (o':=.dct (gM kT vT ks vs).1 (gM kT vT ks vs).2) hl e1 sm ⟨d,_,rfl,hM,aG,g1,g2.move (P:=M i) (λa z=> .inl (.inr ⟨i,z⟩)) (λa z=> .inl z) sm⟩
      exact h2 σ _ M g4 g3 λc z=> .inl z
     ·simp only[if_neg hz]at h2
      exact h2.elim
 ·exact h.elim
theorem tS {k:List Key}:∀{kvs:List (List Key×V)} {as:List Addr} {v:V},kvs.map (·.2)=as.map V.ref->ii kvs k=some v->∃b∈as,v= .ref b
 | [],as,v,_,h=>by cases h
 | p::kvs,as,v,e,h=>by
  cases as with
  | nil=>cases e
  | cons b0 bs=>
   rw[Kp,Kp]at e;injection e with e1 e2
   by_cases hk:p.1=k
   ·rw[gu hk]at h
    cases h;exact⟨b0,Kr,e1⟩
   ·rw[gv hk]at h
    obtain⟨b,hb,e⟩:=tS e2 h;exact⟨b,Ko _ hb,e⟩
theorem uv {K:Km}{O:Ow}{H:Hp}{k:List Key}{r:List T×List T}:∀{ks:List T} {rows:List (List T×List T)} {kvs:List (List Key×V)} {as:List Addr},ks.map keyOf=kvs.map (λp=>some p.1)->kvs.map (·.2)=as.map V.ref->RowsR K O H rows as->pM ks rows k=some r →
  ∃b kv,ii kvs k=some (.ref b)/\b∈as/\H b=some (.dT kv)/\r.1.map keyOf=kv.map (λp=>some p.1)/\Reps K O H r.2 (kv.map (·.2))
 | [],rows,kvs,as,h1,h2,h3,h=>by unfold pM at h;cases h
 | k'::ks,rows,kvs,as,h1,h2,h3,h=>by
  cases rows with
  | nil=>unfold pM at h;cases h
  | cons r0 rows=>
   cases kvs with
   | nil=>cases h1
   | cons p kvs=>
    rw[Kp,Kp]at h1;injection h1 with h1 h1'
    obtain⟨b0,bs,kv0,rfl,e2,e3,e4,e5⟩:=h3;rw[Kp,Kp]at h2;injection h2 with h2 h2'
    unfold pM at h
    by_cases hk:keyOf k'=some k
    ·rw[if_pos hk]at h
     cases h;rw[h1]at hk;injection hk with hk
     exact⟨b0,kv0,by rw[gu hk,h2],Kr,e2,e3,e4⟩
    ·rw[if_neg hk]at h
     have hk2:¬ p.1=k:=λz=>hk (by rw[h1,z])
     obtain⟨b,kv,g1,g2,g3⟩:=uv h1' h2' e5 h;exact⟨b,kv,by rw[gv hk2];exact g1,Ko _ g2,g3⟩
theorem uj {K:Km}{O:Ow}{H H':Hp}{k:List Key}{xr:List T×List T}{b:Addr}{kv':List (List Key×V)}(hO:O b)(hS:SameO (λc=>c=b) H H')(hb:H' b=some (.dT kv'))(hx1:xr.1.map keyOf=kv'.map (λp=>some p.1))(hx2:Reps K O H' xr.2 (kv'.map (·.2))) :
  ∀{ks:List T} {rows:List (List T×List T)} {kvs:List (List Key×V)} {as:List Addr},ks.map keyOf=kvs.map (λp=>some p.1)->kvs.map (·.2)=as.map V.ref->RowsR K O H rows as->as.Nodup->ii kvs k=some (.ref b)->RowsR K O H' (pL k xr ks rows) as
 | [],rows,kvs,as,h1,h2,h3,hn,h=>by
  cases kvs with
  | nil=>cases h
  | cons _ _=>cases h1
 | k'::ks,rows,kvs,as,h1,h2,h3,hn,h=>by
  have inO:∀a,a=b->O a\/Nw K H a:=λa z=> .inl (z▸hO)
  cases kvs with
  | nil=>cases h1
  | cons p kvs=>
   rw[Kp,Kp]at h1;injection h1 with h1 h1'
   cases rows with
   | nil=>unfold RowsR at h3;subst h3;cases h2
   | cons r0 rows=>
    obtain⟨b0,bs,kv0,rfl,e2,e3,e4,e5⟩:=h3;rw[Kp,Kp]at h2;injection h2 with h2 h2'
    obtain⟨n1,n2⟩:=K0.mp hn;unfold pL
    by_cases hk:keyOf k'=some k
    ·rw[if_pos hk]
     rw[h1]at hk;injection hk with hk
     rw[gu hk,h2]at h;cases h;exact⟨b,bs,kv',rfl,hb,hx1,hx2,e5.move (P:=λc=>c=b) inO (λa z=> .inl z) hS λc hc z=>n1 (z▸hc)⟩
    ·rw[if_neg hk]
     have hk2:¬ p.1=k:=λz=>hk (by rw[h1,z])
     rw[gv hk2]at h;obtain⟨b',hb',e'⟩:=tS h2' h;cases e'
     have hne:b0≠b:=λz=>n1 (z▸hb')
     exact⟨b0,bs,kv0,rfl,hS _ _ e2 hne,e3,e4.move (P:=λc=>c=b) inO (λa z=> .inl z) hS,uj hO hS hb hx1 hx2 h1' h2' e5 n2 h⟩
theorem Co (i:Nat)(hu:X.A.units+1<cLine)(ha:cP X a fa)(hb:cP X b fb)(hc:cP X c fc)(hsl:yZ a:=by intro _ _;rfl)(hN:X.N[i]? =some x:=by rfl)(hv:rj X.env.scope x:=by first | exact LN rfl | exact Lz (LN rfl) | exact Lz (Lz rfl))
  (hd:gm x:=by decide) (hcd:(x == ("__classdict__" : Str))=false:=by decide)
  (hs:LF c (some (.Subscript (.Subscript (.Name x p2) a p3) b p4)) pos.line X.env=pure false:=by rfl):pz X (.Assign [.Subscript (.Subscript (.Name x p2) a p3) b p4] c pos) (i6 i fa fb fc):=by
 intro pins s σ H D I ⟨Z,B,M,E,h⟩;refine wW hu (wZ hu (g9 hN hv hd hcd) ha hsl) hb hc hs pins s σ H D I ?_
 unfold i6 at h
 split at h
 ·rename_i ks rows hl
  obtain⟨v0,e1,d,kvs,as,rfl,hM,na,nas,e5,e6,e7,e8⟩:=E.env.own i _ hl;refine⟨Z,OO B M,E.o,?_⟩
  cases q:fc Z with
  | bad=>rw[q]at h;exact h.elim
  | err c=>rw[q]at h;exact PostF.xa h
  | ok vT=>
   rw[q,aE]at h;intro H1 s1 v r;refine⟨.ref d,e1,Z,OO B M,(E.same s1).o,?_⟩
   have h1:=h.later (SameO.of s1) (P1:=M.u) λa z=> .inl z
   cases q2:fa Z with
   | bad=>rw[q2]at h1;exact h1.elim
   | err c=>rw[q2]at h1;exact PostF.xa h1
   | ok aT=>
    rw[q2,aE]at h1;intro H2 s2 y ry
    have h2:=h1.later (SameO.of s2) (P1:=M.u) λa z=> .inl z
    have E2:=(E.same s1).same s2
    have s12:=s1.trans s2
    split at h2
    ·rename_i ka rr hk
     obtain⟨ka',q3,hk⟩:=Option.bind_eq_some_iff.mp hk;obtain⟨r',q4,hk⟩:=MA.mp hk;cases hk;obtain⟨rb,kv,g1,g2,g3,g4,g5⟩:=uv e6 e7 e8 q4;obtain⟨ndr,nzr⟩:=vo I g3;obtain⟨ab,f1,f2⟩:=gX q3 ry;refine⟨d,.ref rb,rfl,by rw[f1,<-g1];exact DGet.t (s12 _ _ e5) f2,Z,OO B M,E2.o,?_⟩
     cases q5:fb Z with
     | bad=>rw[q5]at h2;exact h2.elim
     | err c=>rw[q5]at h2;exact PostF.xa h2
     | ok bT=>
      rw[q5,aE]at h2;intro H3 s3 y2 ry2
      have h3:=h2.later (SameO.of s3) (P1:=M.u) λa z=> .inl z
      have s13:=s12.trans s3
      have E3:=E2.same s3
      have hlen:rr.1.length=kv.length:=by have:=congrArg Lx g4;simpa using this
      by_cases hz:(keyOf bT).isSome=true/\rr.1.length<1000
      ·rw[if_pos hz]at h3
       obtain⟨kb,q6⟩:=Nz.mp hz.1;obtain⟨bb,f3,f4⟩:=gX q6 ry2;obtain⟨u1,u2⟩:=lH q6 ((r.same s2).same s3) g4 (g5.same s13) ndr;refine⟨rb,upd H3 rb (.dT (dE kv kb v)),rfl,by rw[f3];exact DPut.t (s13 _ _ g3) f4 (by rw[Mx];omega),?_⟩
       have mrb:M i rb:=(hM rb).mpr (.inr g2)
       have hOb:OO B M rb:=.inr ⟨i,mrb⟩
       have sm1:SameO (λc=>c=rb) H3 (upd H3 rb (.dT (dE kv kb v))):=λc u e nb=>by rw[aF nb];exact e
       have sm:SameO (M i) H3 (upd H3 rb (.dT (dE kv kb v))):=λc u e nb=>sm1 c u e λz=>nb (z▸mrb)
       have inO:∀a,a=rb->OO B M a\/Nw X.K H3 a:=λa z=> .inl (z▸hOb)
       have dne:d≠rb:=λz=>na (z▸g2)
       obtain⟨g6,g7⟩:=E3.put (o':=.dd ks (pL ka (gM bT vT rr.1 rr.2) ks rows)) hl e1 sm ⟨d,kvs,as,rfl,hM,na,nas,sm1 _ _ (s13 _ _ e5) dne,e6,e7,uj hOb sm1 aG u1 (u2.move (P:=λc=>c=rb) inO (λa z=> .inl z) sm1) e6 e7 (e8.same s13) nas g1⟩
       exact h3 σ _ M g7 g6 λc z=> .inl z
      ·rw[if_neg hz]at h3
       exact h3.elim
    ·exact h2.elim
 ·exact h.elim
end
end Tr
namespace PySem
open Sem (wp)
namespace F
theorem lk_list_keys:N3 (.type "list") "keys" =pure none:=by rw[NQ,MH];kernel_rfl
theorem lk_list_getattr:N3 (.type "list") "__getattr__" =pure none:=by rw[NQ,MH];kernel_rfl
end F
section
variable {prog:KS}{w:LA}{A:La}{E:Kq->Kt->Prop}{h:Heap}{g:Array QP}{d:Drawn}{t:Nat}{os:Ro}{a:Addr}{its:Array Kq}{n:Nat}
theorem mZ {tk:Tok}{Q:Fin->Kt->Prop}(hx:h.get? a=some { cls:=.type "list",data:=.seq its n })(hh:A.handled=none)
  (hq:∀h' tk' e,Sf h h' e (.ref a) "keys"->E (.ref e) ⟨h',g,d,tk',os⟩) :
  wpAny (model prog w) A (Builtin.«object.__getattribute__» ⟨[.ref a,.str "keys" tk],[]⟩) Q E ⟨h,g,d,t,os⟩:=by
 have hT:(⟨h,g,d,t,os⟩:Kt).TypeIs (.ref a) "list":=⟨_,hx,rfl⟩
 have f4:=F.lk_list_keys
 repeat (any_goals (first | assumption | wp_step))
 exact wpAny_raiseAttrError hh (λh' tk e hx=>hq h' tk e hx) (attrMsg_fits (by decide+kernel) (by rw[Mx];decide))
theorem oS {tk:Tok}{R:SA->Kt->Prop}(hx:h.get? a=some { cls:=.type "list",data:=.seq its n })(hh:A.handled=none)
  (hq:∀h' tk' e,Sf h h' e (.ref a) "keys"->R (.error (.ref e)) ⟨h',g,d,tk',os⟩) :
  codeAny (model prog w) A (.call (.builtin "list.__getattribute__") ⟨[.ref a,.str "keys" tk],[]⟩) R ⟨h,g,d,t,os⟩:=
 Oo MQ.plain F.entry_list_ga (MQ.check _ _ _ _ _ _ _ _ (show(⟨h,g,d,t,os⟩:Kt).TypeIs (.ref a) "list" from⟨_,hx,rfl⟩) (F.args_list_getattribute_2 _ _) (mZ hx hh hq))
theorem oU {Q:Option Kq->Kt->Prop}(hx:h.get? a=some { cls:=.type "list",data:=.seq its n })(hh:A.handled=none)
  (hq:∀h' tk',(∀b o,h.get? b=some o->h'.get? b=some o)->Q none ⟨h',g,d,tk',os⟩):wpAny (model prog w) A (getAttr? (.ref a) "keys") Q E ⟨h,g,d,t,os⟩:=by
 have hT:∀tk,(⟨h,g,d,tk,os⟩:Kt).TypeIs (.ref a) "list":=λ_=>⟨_,hx,rfl⟩
 have f1:=sub_AttributeError
 have f2:=MQ.lookup
 have f3:=MQ.bind (.ref a)
 have f5:=F.lk_list_getattr;unfold getAttr? getAttrBy? getAttrBy
 repeat (any_goals (first | assumption | exact hT _ | wp_step))
 refine oS hx hh λh' tk' e hx'=> ?_
 obtain⟨t',u',he⟩:=hx'.there
 repeat (any_goals (first | assumption | exact hT _ | wp_step))
 exact hq _ _ hx'.keeps
end
end PySem
namespace PySem.F
theorem entry_dict_update_loop:entryFor table "dict.update.loop" =some Builtin.«dict.update.loop»:=entryFor_of_tree (by kernel_rfl)
theorem plain_dict_update_loop:plainId "dict.update.loop" =true:=by decide+kernel
end PySem.F
namespace Tr
open PySem PySem.Spec PyProof.Rows L2
def fx (kvs:List (List Key×V)):List (List Key×V)->List (List Key×V)
 | [] =>kvs
 | p::ps=>fx (dE kvs p.1 p.2) ps
def PairsAt (H:Hp):List V->List (List Key×V)->Prop
 | [],ps=>ps= []
 | x::xs,ps=> ∃b kb p r,ps=p::r/\x= .ref b/\H b=some (.tup [.ref kb,p.2])/\H kb=some (.tup (p.1.map kV))/\PairsAt H xs r
theorem PairsAt.upd {H:Hp}{d:Addr}{kvs:List (List Key×V)}{o:HO}(hd:H d=some (.dT kvs)):∀{xs:List V} {ps:List (List Key×V)},PairsAt H xs ps->PairsAt (L2.upd H d o) xs ps
 | [],_,h=>h
 | x::xs,_,⟨b,kb,p,r,e1,e2,e3,e4,e5⟩=>⟨b,kb,p,r,e1,e2,by rw[aF (lm e3 hd (λz=>nomatch z))];exact e3,by rw[aF (lm e4 hd (λz=>nomatch z))];exact e4,e5.upd hd⟩
theorem rz {H:Hp}{d:Addr}{a b:HO}:upd (upd H d a) d b=upd H d b:=by
 funext c
 by_cases h:c=d
 ·rw[h,aG,aG]
 ·rw[aF h,aF h,aF h]
section
variable {X:Cx}{pins:List (Addr×Obj)}{σ:L2.St}{A:La}{res:Kq}{R:SA->Kt->Prop}{d l it:Addr}{xs:List V}
theorem yP (hh:A.handled=none)(hu:A.units+3<cLine):∀(k i:Nat) (s:Kt) (H:Hp) (kvs ps:List (List Key×V)),xs.length - i=k->i<=xs.length->H l=some (.lst xs)->H d=some (.dT kvs)->kvs.length+(xs.length - i)<=1000->Inv X pins σ H s->s.heap.IsListIter it l i->nh X pins H it->PairsAt H (xs.drop i) ps →
  (∀s',Inv X pins σ (upd H d (.dT (fx kvs ps))) s'->R (.ok (.ret res)) s')->codeAny (model X.prog X.w) A (.builtin "dict.update.loop" ⟨[.ref d,.ref it,rawInt i,res],[]⟩) R s:=by
 intro k
 induction k with
 | zero=>
  intro i s H kvs ps hk hi hl hd hz I hit hf hp hR;refine P3 F.entry_dict_update_loop ?_
  rw[Qa F.plain_dict_update_loop _];obtain⟨z,its,n,r,hlen,e⟩:=I.Jt hl
  have hL:s.heap.IsList l its.toArray:=⟨_,e,rfl,n,rfl⟩
  show wpAny _ A.in1 (pyNext (.ref it) >>= _) _ _ s
  refine Kn (PY hh hit hL (by simp;omega) λh' hm=> ?_)
  show wpAny _ _ (Builtin.Dict.addKeywords d [] >>= _) _ _ _
  refine Kn (Kz (Kz ?_))
  have hnil:xs.drop i= []:=NV (by omega)
  rw[hnil]at hp;unfold PairsAt at hp;subst hp
  have e2:upd H d (.dT (fx kvs []))=H:=by
   funext b
   by_cases hb:b=d
   ·rw[hb,aG,hd];rfl
   ·rw[aF hb]
  rw[e2]at hR
  exact hR _ (I.Jx (fp:=[it]) (t':=s.toks) (λb hb=>by rw[KQ.mp hb];exact hf) λb o hb eb=>hm b o (λz=>hb (by rw[z];exact KQ.mpr rfl)) eb)
 | succ k ih=>
  intro i s H kvs ps hk hi hl hd hz I hit hf hp hR;refine P3 F.entry_dict_update_loop ?_
  rw[Qa F.plain_dict_update_loop _];obtain⟨z,its,n,r,hlen,e⟩:=I.Jt hl
  have hL:s.heap.IsList l its.toArray:=⟨_,e,rfl,n,rfl⟩
  have hlt:i<xs.length:=by omega
  have hlt':i<its.length:=by omega
  show wpAny _ A.in1 (pyNext (.ref it) >>= _) _ _ s
  refine Kn (Px hit hL (x:=its[i]) (by simp[hlt']) λh' hit' hm=> ?_)
  have I1:Inv X pins σ H { s with heap:=h' }:=I.Jx (fp:=[it]) (t':=s.toks) (λb hb=>by rw[KQ.mp hb];exact hf) λb o hb eb=>(hm.2 b (λz=>hb (by rw[z];exact KQ.mpr rfl))).trans eb
  have hdrop:xs.drop i=xs[i] ::xs.drop (i+1):=Np hlt;rw[hdrop]at hp;obtain⟨b,kb,p,r',rfl,ex,hb,hkb,hp'⟩:=hp
  have rx:RelV xs[i] its[i]:=by
   obtain⟨u,q1,q2⟩:=r.get (KD hlt)
   rw[KD hlt']at q1
   cases q1;exact q2
  rw[ex]at rx
  have eu:its[i] =KM b:=rx;rw[eu];obtain⟨z2,its2,r2,ob,hob1,hob2,nb,hob3⟩:=(show ObjOk X.prog X.w H h' b (.tup [.ref kb,p.2])from I1.hok b _ hb)
  obtain⟨u1,us1,q1,rfl⟩:∃u1 us1,RelV (V.ref kb) u1/\its2=u1::us1:=by cases r2 with | cons a b=>exact⟨_,_,a,rfl⟩
  cases r2 with
  | cons ra rb=>
   obtain⟨u2,q2,rfl⟩:∃u2,RelV p.2 u2/\us1= [u2]:=by cases rb with | cons a b=>cases b;exact⟨_,a,rfl⟩
   obtain rfl:u1=KM kb:=q1
   show wpAny _ A.in1 (holding [KM b] _ >>= _) _ _ _
   refine Kn (NP ?_)
   refine Kn (wpAny_tryCatch ?_)
   unfold Builtin.Dict.pairItems;refine Kn (Of (s:={ s with heap:=h' }) (T:="tuple") ⟨ob,hob1,hob2⟩ ?_)
   rw[if_pos (by decide)]
   refine Kn (Mt (s:={ s with heap:=h' }) hob1 hob3 (Kz ?_))
   show wpAny _ _ (holding [KM kb,u2] (dictSet d (.ref kb) u2)) _ _ _
   refine NP ?_
   obtain⟨zz,hds,xs2,rel,dd⟩:=By I1.hok hd
   have hzl:xs2.length<=sizeLine:=by rw[<-Pd rel];exact zz
   have hkl:kvs.length<sizeLine:=by rw[Mx];omega
   have hl2:(dE kvs p.1 p.2).length<=sizeLine:=by have:=gV kvs p.1 p.2;omega
   refine wpAny_dictSet_heap (hsz:=hzl) (M4 (by show A.units+1<cLine;omega)) (l8 I1.hok hkb) dd λh2 dd2 hs2=> ?_
   obtain⟨q,es,ep,hq,h22,h3,h4,_,h5⟩:=dd2
   have I2:Inv X pins σ (upd H d (.dT (dE kvs p.1 p.2))) { s with heap:=h2,toks:=s.toks+(O8 (cS X.prog X.w)).draws p.1 }:=
    tq (s:={ s with heap:=h' }) I1 (by rw[hd];exact Na) hs2 ⟨q,hq⟩ ⟨hl2,hds,_,(rel.put p.1 hkb q2).keeps λc ys ec=>by rw[aF (lm ec hd (λz=>nomatch z))];exact ec,q,es,ep,hq,h22,h3,h4,h5⟩
   have hld:l≠d:=lm hl hd (λz=>nomatch z)
   have hitd:it≠d:=λz=>by have:=hf.1;rw[z,hd]at this;cases this
   have hcast:(i:Int)+1=((i+1:Nat):Int):=by omega
   refine Kz ⟨plainId_quiet F.plain_dict_update_loop _,?_⟩
   rw[hcast];refine ih (i+1) _ (upd H d (.dT (dE kvs p.1 p.2))) (dE kvs p.1 p.2) r' (by omega) (by omega) (by rw[aF hld];exact hl) aG (by have:=gV kvs p.1 p.2;omega) I2 ?_ ⟨by rw[aF hitd];exact hf.1,hf.2⟩ (hp'.upd hd) λs' I'=> ?_
   ·obtain⟨oi,ho1,ho2,ho3⟩:=hit'
    exact⟨oi,(hs2.2 it hitd).trans ho1,ho2,ho3⟩
   ·rw[rz]at I'
    exact hR s' I'
end
theorem PairsAt.same {H H':Hp}(s:Same H H'):∀{xs:List V} {ps:List (List Key×V)},PairsAt H xs ps->PairsAt H' xs ps
 | [],_,h=>h
 | x::xs,_,⟨b,kb,p,r,e1,e2,e3,e4,e5⟩=>⟨b,kb,p,r,e1,e2,s _ _ e3,s _ _ e4,e5.same s⟩
section
variable {X:Cx}{pins:List (Addr×Obj)}{σ:L2.St}{A:La}{E:Kq->Kt->Prop}{H:Hp}{s:Kt}{l:Addr}{xs:List V}{ps:List (List Key×V)}
theorem vn {Q:Kq->Kt->Prop}(hh:A.handled=none)(hu:A.units+8<cLine)(I:Inv X pins σ H s)(hl:H l=some (.lst xs))(hz:xs.length<=1000)(hp:PairsAt H xs ps)
  (h:∀p s',Nw X.K H p->Inv X pins σ (upd H p (.dT (fx [] ps))) s'->Q (.ref p) s'):wpAny (model X.prog X.w) A (call (.type "dict") [.ref l]) Q E s:=by
 have hk:X.K.lookup s.heap.objs.size=none:=by
  cases q:X.K.lookup s.heap.objs.size with
  | none=>rfl
  | some o=>exact absurd (KF (I.kIn _ o q)) (KZ _)
 have hn:H s.heap.objs.size=none:=I.hok.fresh (KB _)
 have hlp:l≠s.heap.objs.size:=λz=>by rw[z,hn]at hl;cases hl
 refine callType_codes (Q₁:=λobj s₁=>obj= .ref s.heap.objs.size/\s₁= { s with heap:=s.heap.push { cls:=.type "dict",data:=.dict #[] } }) F.kt_called_dict (F.kt_typeCall_dict_1 _) F.entry_dict_init (kt_code_dict_new _ ⟨rfl,rfl⟩) ?_
 rintro obj s₁ ⟨rfl,rfl⟩
 have I1:Inv X pins σ (upd H s.heap.objs.size (.dT [])) { s with heap:=s.heap.push { cls:=.type "dict",data:=.dict #[] } }:=I.laid (a:=s.heap.objs.size) (o:=.dT []) (t':=s.toks) (λ_ _ q=>Kv _ q) (KB _) (Bz s.heap I.big)
 have hT:({ s with heap:=s.heap.push { cls:=.type "dict",data:=.dict #[] } }:Kt).TypeIs (.ref s.heap.objs.size) "dict":=⟨_,KI _ rfl,rfl⟩
 have hl1:upd H s.heap.objs.size (.dT []) l=some (.lst xs):=by rw[aF hlp];exact hl
 obtain⟨z,its,n,r,hlen,e⟩:=I1.Jt hl1;refine⟨hT,F.args_dict_init_2 _ _,?_⟩
 unfold Builtin.«dict.__init__»;refine Kn ?_
 unfold Builtin.Dict.selfAndRest;refine Kn (wpAny_notOrdered_dict hT ?_)
 show wpAny _ _ (pure (s.heap.objs.size,[KM l])) _ _ _
 refine Kz ?_
 show wpAny _ _ (Pc "dict.__init__" s.heap.objs.size (.ref l) [] .none) _ _ _
 unfold Pc;refine Kn (Of (T:="list") ⟨_,e,rfl⟩ ?_)
 rw[if_pos (by decide)]
 refine Kn (oU e hh λh' tk' kp=> ?_)
 have I2:Inv X pins σ (upd H s.heap.objs.size (.dT [])) { s with heap:=h',toks:=tk' }:=I1.kept (t':=tk') kp
 rw[if_pos (by rfl)]
 refine Kn (NC ?_)
 have eL:({ s with heap:=h',toks:=tk' }:Kt).heap.IsList l its.toArray:=⟨_,kp _ _ e,rfl,n,rfl⟩
 refine Kn (N1 eL ?_)
 have I3:Inv X pins σ (upd H s.heap.objs.size (.dT [])) { s with heap:=h'.push { cls:=.type "list_iterator",data:=.fields #[.ref l,.int 0 0] },toks:=tk' }:=I2.kept (t':=tk') λb u q=>Kv _ q
 have hpl:s.heap.objs.size<h'.objs.size:=KF (kp _ _ (KI _ rfl))
 have hni:upd H s.heap.objs.size (.dT []) h'.objs.size=none:=by
  rw[aF (MS hpl)];exact I.hok.fresh (Ml hpl)
 have hp1:PairsAt (upd H s.heap.objs.size (.dT [])) xs ps:=hp.same (aX hn _);refine Kz ⟨plainId_quiet F.plain_dict_update_loop _,?_⟩
 refine yP (A:=A.in1) (X:=X) (pins:=pins) (σ:=σ) (l:=l) (xs:=xs) (it:=h'.objs.size) hh (by show A.units+1+3<cLine;omega) xs.length 0 _ (upd H s.heap.objs.size (.dT [])) [] ps (by omega) (LP _) hl1 aG (by simp;omega) I3 ⟨_,KI _ rfl,rfl,rfl⟩ (I2.JG (KB _) hni) hp1 λs' I'=> ?_
 rw[rz]at I';exact⟨rfl,h _ _ ⟨hn,hk⟩ I'⟩
end
theorem hu8 {k:Nat}{A:La}(h:Room k A):A.units+8<cLine:=by have:=h.un;omega
theorem v9 {kvs:List (List Key×V)}{k:List Key}{v:V}(h:(kvs.map (·.1)).Nodup):((dE kvs k v).map (·.1)).Nodup:=by
 unfold dE
 by_cases a:(kvs.any λkv=>decide (kv.1=k))=true
 ·rw[if_pos a,Ll]
  have:((λx=>x.1)∘λkv:List Key×V=>if kv.1=k then(kv.1,v)else kv)=λx=>x.1:=by
   funext x
   show(if x.1=k then(x.1,v)else x).1=x.1
   by_cases e:x.1=k
   ·rw[if_pos e]
   ·rw[if_neg e]
  rw[this];exact h
 ·rw[if_neg a,K5,LI]
  refine⟨h,by simp,λx hx y hy=> ?_⟩
  simp only[Kp,N9,KQ]at hy;subst hy;intro z;subst z;obtain⟨p,hp,e⟩:=KN.mp hx;exact a (Oh.mpr ⟨p,hp,decide_eq_true e⟩)
def Jb (K:Km)(O:Ow)(H:Hp):List (T×T)->List (List Key×V)->Prop
 | [],ps=>ps= []
 | a::l,ps=> ∃p r,ps=p::r/\keyOf a.1=some p.1/\Rep K O H a.2 p.2/\Jb K O H l r
theorem qZ {K:Km}{O:Ow}{H:Hp}:∀{l:List (T×T)} {ps:List (List Key×V)} {ks ts:List T} {kvs:List (List Key×V)},Jb K O H l ps->ks.map keyOf=kvs.map (λp=>some p.1)->Reps K O H ts (kvs.map (·.2))->(kvs.map (·.1)).Nodup →
  (jz l (ks,ts)).1.map keyOf=(fx kvs ps).map (λp=>some p.1)/\Reps K O H (jz l (ks,ts)).2 ((fx kvs ps).map (·.2))
 | [],ps,ks,ts,kvs,h,h1,h2,hn=>by unfold Jb at h;subst h;exact⟨h1,h2⟩
 | (a,b)::l,ps,ks,ts,kvs,h,h1,h2,hn=>by
  obtain⟨p,r,rfl,e1,e2,e3⟩:=h;obtain⟨g1,g2⟩:=lH (vT:=b) e1 e2 h1 h2 hn
  show(jz l (gM a b ks ts)).1.map keyOf=(fx (dE kvs p.1 p.2) r).map (λp=>some p.1)/\Reps K O H (jz l (gM a b ks ts)).2 ((fx (dE kvs p.1 p.2) r).map (·.2))
  exact qZ (l:=l) e3 g1 g2 (v9 hn)
theorem wX {K:Km}{O:Ow}{H:Hp}:∀{l:List T} {tps:List (T×T)} {xs:List V},GN l=some tps->Reps K O H l xs->∃ps,PairsAt H xs ps/\Jb K O H tps ps
 | [],tps,xs,h,r=>by cases Reps.Je.mp r;cases h;exact⟨[],rfl,rfl⟩
 | t::l,tps,xs,h,r=>by
  obtain⟨v,ws,rfl,p,q⟩:=Reps.me.mp r;unfold GN at h
  split at h
  ·rename_i heq;cases heq
  ·rename_i k v' l' heq
   cases heq
   split at h
   ·rename_i kk rr hk hr
    cases h;obtain⟨ps,g1,g2⟩:=wX hr q;obtain⟨b,vs,e1,e2,e3,e4⟩:=Rep.Jg.mp p;obtain⟨u1,us1,rfl,f1,f2⟩:=Reps.me.mp e4;obtain⟨u2,us2,rfl,f3,f4⟩:=Reps.me.mp f2;cases Reps.Je.mp f4;obtain⟨kb,f5,f6⟩:=gX hk f1;subst f5;exact⟨(kk,u2)::ps,⟨b,kb,(kk,u2),ps,rfl,e1,e3,f6,g1⟩,⟨(kk,u2),ps,rfl,hk,f3,g2⟩⟩
   ·cases h
  ·cases h
section
variable {X:Cx}{e:Expr}{f:En->Rs T}{x y:Str}{p pos p2 p3:Pos}
def EG (X:Cx)(f:En->Rs T):TE:=λσ H Q=>tP X f σ H λv H'=> ∃a xs ps,v= .ref a/\H' a=some (.lst xs)/\xs.length<=1000/\PairsAt H' xs ps/\∀q,Nw X.K H' q->Q (.ref q) (upd H' q (.dT (fx [] ps)))
theorem Ai (hu:X.A.units+8<cLine)(hc:X.calm=true)(hm:X.mg "dict" =none)(ha:cP X e f)(hg:Gl X "dict")(hs:bq e=true):PE X (.Call (.Name "dict" p) [e] [] pos) (EG X f):=by
 have h1:KG [e] X.env=(false,eval e X.env)::KG [] X.env:=aY hs;intro pins s σ H Q I hq;refine Lr (fX I hg hm (show K9 "dict" =some (.type "dict")by decide+kernel) ?_ (by decide) (by decide))
 refine Lq (cr (bp (te:=tP X f) ha dF h1 pos pins s σ H (λxs H'=> ∃v,xs= [v]/\∃a xs ps,v= .ref a/\H' a=some (.lst xs)/\xs.length<=1000/\PairsAt H' xs ps/\∀q,Nw X.K H' q->Q (.ref q) (upd H' q (.dT (fx [] ps)))) I ?_) λus s1 hh=> ?_) h1 rfl
 ·obtain⟨Z,O,E,h⟩:=hq
  exact⟨Z,O,E,Post.mono h λt H' _ g v r=>⟨v,rfl,g v r⟩⟩
 ·obtain⟨vs,H1,I1,r1,v,rfl,a,xs,ps,ev,e1,e2,e3,e4⟩:=hh
  subst ev;obtain⟨u,rfl,ru⟩:=r1.one;obtain rfl:u=KM a:=ru;exact vn (I1.ok.hd hc) hu I1 e1 e2 e3 λq s' nw I'=>⟨.ref q,_,I',rfl,e4 q nw⟩
theorem Cq (i:Nat)(hu:X.A.units+8<cLine)(hc:X.calm=true)(hm:X.mg "dict" =none)(hN:X.N.Nodup)(ha:cP X e f)(hst:bq e=true:=by rfl)(hg:Gl X "dict":=by rfl)(hi:X.N[i]? =some x:=by rfl)(hx:Loc X.env.scope x:=by first | exact LN rfl | exact Lz rfl)(hs:LF (.Call (.Name "dict" p) [e] [] p2) (some (.Name x p3)) pos.line X.env=pure false:=by rfl)
  (hf:X.fn x=true\/X.env.scope.names.lookup x=some .local:=by first | exact .inl rfl | exact .inr rfl | assumption):pz X (.Assign [.Name x p3] (.Call (.Name "dict" p) [e] [] p2) pos) (qE i f):=PS.imp (n9 hN hi hx (Ai hu hc hm ha hg hst) hs hf) λD σ H hh_=>by
 obtain⟨Z,B,M,E,h⟩:=hh_;refine⟨Z,OO B M,E.o,?_⟩
 unfold qE at h
 cases q:f Z with
 | bad=>rw[q]at h;exact h.elim
 | err c=>rw[q]at h;exact PostF.xa h
 | ok t=>
  rw[q,aE]at h;intro H1 s1 v r
  have h1:=h.later (SameO.of s1) (P1:=M.u) λa z=> .inl z
  cases t with
  | lst l=>
   obtain⟨a,xs,rfl,e2,e3,e4⟩:=Rep.Jh.mp r;unfold xO at h1
   split at h1
   ·rename_i l' heq
    cases heq
    split at h1
    ·rename_i tps hps
     by_cases hz:l.length<=1000
     ·rw[if_pos hz,aE]at h1
      obtain⟨ps,g1,g2⟩:=wX hps e4;refine⟨a,xs,ps,rfl,e3,by rw[<-e4.length];exact hz,g1,λnd nw=> ?_⟩
      by_cases hl:i<Z.length
      ·simp only[if_pos hl]at h1
       have hm:∀a,a=nd->Nw X.K H1 a:=λa z=>z▸nw
       obtain⟨k1,k2⟩:=qZ (ks:=[]) (ts:=[]) (kvs:=[]) g2 rfl Reps.Jn ML;obtain⟨E2,sub⟩:=(E.same s1).new (m:=λa=>a=nd) (o:=.dct (jz tps ([],[])).1 (jz tps ([],[])).2) (v:=.ref nd) (H':=upd H1 nd (.dT (fx [] ps))) hl hm (aX nw.1 _) ⟨nd,_,rfl,λb=>Ov,aG,k1,(k2.more (Ev.subO hm)).same (aX nw.1 _)⟩
       exact h1 _ _ _ (SameO.of (aX nw.1 _)) E2 sub
      ·simp only[if_neg hl]at h1;exact h1.elim
     ·rw[if_neg hz]at h1;exact h1.elim
    ·exact h1.elim
   ·rename_i hno
    exact(hno l rfl).elim
  | _=>exact h1.elim
end
theorem oG {K:Km}{O:Ow}{H:Hp}:∀{l:List T} {ns:List Int} {xs:List V} {us:List Kq},lj l=some ns->Reps K O H l xs->Vals xs us->Nl us ns
 | [],ns,xs,us,h,r,v=>by cases Reps.Je.mp r;cases v;cases h;exact .nil
 | t::l,ns,xs,us,h,r,v=>by
  obtain⟨w,ws,rfl,p,q⟩:=Reps.me.mp r
  cases v with
  | cons v1 v2=>
   cases t with
   | int i=>
    unfold lj at h;obtain⟨m,h1,rfl⟩:=MA.mp h;cases Rep.Jf.mp p;obtain⟨k,rfl⟩:=v1
    exact .cons _ _ (oG h1 q v2)
   | _=>cases h
end Tr
namespace Tr
def cW:List Int->List Int->Bool
 | [],[] =>false
 | [],_::_=>true
 | _::_,[] =>false
 | a::l,b::m=>if a=b then cW l m else decide (a<b)
def rowsT:List T->Option (List (List Int))
 | [] =>some []
 | .tup l::r=>match lj l,rowsT r with
  | some ns,some k=>if ns= []then none else some (ns::k)
  | _,_=>none
 | _=>none
def pE (a b:List Int):Bool:=!cW b a
def nX:List T->Rs T
 | [.lst l] =>match rowsT l with
  | some k=>if k.length<64 then .ok (.lst ((k.mergeSort pE).map λns=> .tup (ns.map .int)))else .bad
  | none=> .bad
 | _=> .bad
theorem lx:∀l,cW l l=false
 | [] =>rfl
 | a::l=>by unfold cW;rw[if_pos rfl];exact lx l
theorem lv:∀a b c,cW a b=true->cW b c=true->cW a c=true
 | [],[],_,h,_=>absurd h (by simp[cW])
 | _::_,[],_,h,_=>absurd h (by simp[cW])
 | [],_::_,[],_,h=>absurd h (by simp[cW])
 | [],_::_,_::_,_,_=>rfl
 | _::_,_::_,[],_,h=>absurd h (by simp[cW])
 | x::a,y::b,z::c,h,g=>by
  unfold cW at h g ⊢
  by_cases e:x=y
  ·subst e
   rw[if_pos rfl]at h
   by_cases e2:x=z
   ·rw[if_pos e2]at g ⊢;exact lv a b c h g
   ·rw[if_neg e2]at g ⊢;exact g
  ·rw[if_neg e]at h
   by_cases e2:y=z
   ·subst e2;rw[if_neg e];exact h
   ·rw[if_neg e2]at g
    have h1:=of_decide_eq_true h
    have h2:=of_decide_eq_true g;rw[if_neg (by omega)]
    exact decide_eq_true (by omega)
theorem lw:∀a b,cW a b=false->cW b a=false->a=b
 | [],[],_,_=>rfl
 | [],_::_,h,_=>absurd h (by simp[cW])
 | _::_,[],_,h=>absurd h (by simp[cW])
 | x::a,y::b,h,g=>by
  unfold cW at h g
  by_cases e:x=y
  ·subst e
   rw[if_pos rfl]at h g;rw[lw a b h g]
  ·rw[if_neg e]at h
   rw[if_neg (λz=>e z.symm)]at g
   have h1:=of_decide_eq_false h
   have h2:=of_decide_eq_false g;omega
theorem uZ (a b c:List Int)(h:cW a c=true):cW a b=true\/cW b c=true:=by
 cases h1:cW a b with
 | true=>exact .inl rfl
 | false=>
  cases h2:cW b a with
  | true=>exact .inr (lv _ _ _ h2 h)
  | false=>rw[<-lw _ _ h1 h2];exact .inr h
theorem F5 (a b c:List Int)(h:pE a b=true)(g:pE b c=true):pE a c=true:=by
 unfold pE at*
 cases z:cW c a with
 | false=>rfl
 | true=>
  rcases uZ c b a z with y | y
  ·rw[y]at g;cases g
  ·rw[y]at h;cases h
theorem C5 (a b:List Int):(pE a b||pE b a)=true:=by
 unfold pE
 cases z:cW b a with
 | false=>rfl
 | true=>
  cases y:cW a b with
  | false=>rfl
  | true=>have:=lv _ _ _ z y;rw[lx]at this;cases this
theorem AL (a b:List Int)(h:pE a b=true)(g:pE b a=true):a=b:=by
 unfold pE at h g;refine lw a b ?_ ?_
 ·cases z:cW a b with
  | false=>rfl
  | true=>rw[z]at g;cases g
 ·cases z:cW b a with
  | false=>rfl
  | true=>rw[z]at h;cases h
theorem t9 {k m:List (List Int)}(p:m.Perm k)(s:m.Pairwise (λa b=>pE a b=true)):m=k.mergeSort pE:=
 List.Perm.eq_of_pairwise (le:=λa b=>pE a b=true) (λa b _ _ h g=>AL a b h g) s (List.pairwise_mergeSort F5 C5 k) (p.trans (List.mergeSort_perm k pE).symm)
end Tr
namespace Tr
open PySem PySem.Spec PyProof.Rows L2
structure SrtB (k0:P8)(o:Array Su)(st:OU):Prop where
 p:(arrOf st).Perm o
 k:kindOf st=k0
 f:Q3 st=none
 e:Nt st= #[]
theorem SrtB.len {k0:P8}{o:Array Su}{st:OU}(b:SrtB k0 o st):(arrOf st).size=o.size:=b.p.size_eq
theorem SrtB.arr {k0:P8}{o xs:Array Su}{st:OU}(b:SrtB k0 o st)(h:xs.Perm (arrOf st)):SrtB k0 o (setArr st xs):=⟨h.trans b.p,b.k,b.f,b.e⟩
def tJ (κ:KeyKind)(k0:P8)(prog:KS)(w:LA)(A:La)(s:Kt):Prop:=
 ∀(E:Kq->Kt->Prop) (x y:Kq) (a b:κ.α) (Q:Bool->Kt->Prop),κ.keyOf x=some a->κ.keyOf y=some b->Q (κ.blt a b) s->wpAny (model prog w) A (keyLt' k0 x y) Q E s
abbrev gk (κ:KeyKind)(st:OU)(i:Nat):κ.α:=KK κ (arrOf st) i
theorem B4 {κ:KeyKind}{xs:Array Su}{n:Nat}(h:L3 κ xs n)(hl:κ.kle (KK κ xs (n - 1)) (KK κ xs n)):L3 κ xs (n+1):=λi j le lt=>by
 rcases NB j n with z | z
 ·exact h i j le z
 ·obtain rfl:j=n:=by omega
  rcases NB i j with y | y
  ·exact Oi (h i (j - 1) (by omega) (by omega)) hl
  ·rw[show i=j by omega];exact M7 _
theorem nG {κ:KeyKind}{xs:Array Su}{n:Nat}(h:Qu κ xs n)(hl:κ.kle (KK κ xs n) (KK κ xs (n - 1))):Qu κ xs (n+1):=λi j le lt=>by
 rcases NB j n with z | z
 ·exact h i j le z
 ·obtain rfl:j=n:=by omega
  rcases NB i j with y | y
  ·exact Oi hl (h i (j - 1) (by omega) (by omega))
  ·rw[show i=j by omega];exact M7 _
theorem vH {κ:KeyKind}{xs:Array Su}{n:Nat}(h:n<=1):L3 κ xs n:=λi j le lt=>by rw[show i=j by omega];exact M7 _
theorem GB {κ:KeyKind}{xs:Array Su}{n:Nat}(h:n<=1):Qu κ xs n:=λi j le lt=>by rw[show i=j by omega];exact M7 _
section
variable {prog:KS}{w:LA}{A:La}{E:Kq->Kt->Prop}{s:Kt}{κ:KeyKind}{k0:P8}{o:Array Su}{st:OU}
theorem DZ (b:SrtB k0 o st)(ks:KeysOf κ o){i:Nat}(hi:i<o.size):∃z,(arrOf st)[i]? =some z/\κ.keyOf z.1=some (gk κ st i):=by
 have h1:i<(arrOf st).size:=b.len▸hi;obtain⟨a,ha⟩:=ks _ ((OL.mp b.p).mem_iff.mp (Array.getElem_mem_toList h1))
 have e:=getElem?_pos (arrOf st) i h1
 refine⟨_,e,?_⟩
 show _=some (KK κ (arrOf st) i)
 unfold KK;rw[e,ha];simp[ha]
theorem ua (c:tJ κ k0 prog w A s)(ks:KeysOf κ o)(b:SrtB k0 o st){i j:Nat}{Q:Option Bool->OU->Prop}(hi:i<o.size)(hj:j<o.size)(q:Q (some (κ.blt (gk κ st i) (gk κ st j))) st) :
  wpS (model prog w) A E s (ltAt' i j) Q st:=by
 obtain⟨⟨x,x2⟩,e1,k1⟩:=DZ b ks hi;obtain⟨⟨y,y2⟩,e2,k2⟩:=DZ b ks hj;rw[ltAt'_eq];refine Lv (Sv ?_)
 dsimp only
 rw[elem'_eq,elem'_eq,e1,e2];refine Lv (Mi (Lv (Mi ?_)))
 rw[lt'_eq];refine Lv (Sv ?_)
 rw[b.k];exact Lv (wpS_lift (Pk (c _ x y _ _ _ k1 k2 ⟨rfl,Mi q⟩)))
theorem DY {a m:Nat}{Q:AscSt->OU->Prop}(c:tJ κ k0 prog w A s)(ks:KeysOf κ o)(b:SrtB k0 o st)(hm:m<=o.size)(h1:1<=a)(h2:a<=m)(so:L3 κ (arrOf st) a)
  (q:∀n,a<=n->n<=m->L3 κ (arrOf st) n->(n≠m->κ.klt (gk κ st n) (gk κ st (n - 1)))->Q (none,n) st):wpS (model prog w) A E s (ascLoop a m) Q st:=by
 unfold ascLoop;refine Og (I:=λn r st'=>r=(none,n)/\st'=st/\L3 κ (arrOf st) n) (λn r st' l1 l2 hI=> ?_) (λr st' hI=> ?_) ⟨rfl,rfl,so⟩
 ·obtain⟨rfl,rfl,sn⟩:=hI
  refine Lv (ua c ks b (KA l2 hm) (NL (Rc _ _) (KA l2 hm)) ?_)
  cases z:κ.blt (gk κ st' n) (gk κ st' (n - 1))with
  | true=>exact Mi (q n l1 (Ml l2) sn λ_=>z)
  | false=>exact Mi ⟨rfl,rfl,B4 sn z⟩
 ·obtain⟨rfl,rfl,sn⟩:=hI
  have e:max a m=m:=Oj h2;rw[e]at sn ⊢;exact q m h2 (KB _) sn λh=>absurd rfl h
theorem rE {i j:Nat}{Q:Unit->OU->Prop}(b:SrtB k0 o st)(q:∀st',SrtB k0 o st'->arrOf st'=mirror (arrOf st) i j ((j - i) / 2)->Q () st'):wpS (model prog w) A E s (reverseSlice' i j) Q st:=by
 rw[reverseSlice'_eq];exact Rp (q _ (b.arr (mirror_perm _ _ _ _)) rfl)
abbrev BN (κ:KeyKind)(k0:P8)(o:Array Su)(m:Nat)(Q:Option Nat->OU->Prop):Prop:=∀n st',SrtB k0 o st'->1<=n->n<=m->L3 κ (arrOf st') n->Q (some n) st'
theorem wM {n m:Nat}{Q:Option Nat->OU->Prop}(c:tJ κ k0 prog w A s)(ks:KeysOf κ o)(b:SrtB k0 o st)(hm:m<=o.size)(h1:1<=n)(h2:n<=m)(dn:Qu κ (arrOf st) n)(q:BN κ k0 o m Q) :
  wpS (model prog w) A E s (tail3 n m) Q st:=by
 unfold tail3;refine Lv (rE b λst' b' e=>Lv (DY c ks b' hm h1 h2 (λi j le lt=> ?_) λk l1 l2 so _=>Mi (q k st' b' (by omega) l2 so)))
 have hz:n<=(arrOf st).size:=by rw[b.len];omega
 rw[e,KK_mirror hz,KK_mirror hz,if_pos ⟨LP _,by omega⟩,if_pos ⟨LP _,by omega⟩]
 exact dn _ _ (by omega) (by omega)
theorem sd {k i:Nat}(g1:k - 1<=i)(g2:i<k):i=k - 1:=Sg (Om g2) g1
theorem G6 {n m:Nat}{Q:DescSt->OU->Prop}(c:tJ κ k0 prog w A s)(ks:KeysOf κ o)(b:SrtB k0 o st)(hm:m<=o.size)(h1:1<=n)(h2:n<=m)(dn:Qu κ (arrOf st) n)
  (q:∀k r st',SrtB k0 o st'->n<=k->k<=m->Qu κ (arrOf st') k->r+1<=k->(∀i,k - (r+1)<=i->i<k->gk κ st' i=gk κ st' (k - 1))->Q (none,k,r) st'):wpS (model prog w) A E s (descLoop n m) Q st:=by
 unfold descLoop
 refine Og (I:=λk c st'=> ∃r,c=(none,k,r)/\SrtB k0 o st'/\Qu κ (arrOf st') k/\r+1<=k/\∀i,k - (r+1)<=i->i<k->gk κ st' i=gk κ st' (k - 1)) (λk r st' l1 l2 hI=> ?_) (λr st' hI=> ?_)
  ⟨0,rfl,b,dn,h1,λi g1 g2=>by rw[sd g1 g2]⟩
 ·obtain⟨r,rfl,b',d',hr,eq⟩:=hI
  dsimp only
  have kk:=KA l2 hm
  have kp:k - 1<o.size:=NL (Rc _ _) kk
  have hz:k<=(arrOf st').size:=by rw[b'.len];exact Ml kk
  refine Lv (ua c ks b' kk kp ?_)
  cases z:κ.blt (gk κ st' k) (gk κ st' (k - 1))with
  | true=>
   have d2:=nG d' (O6 z)
   show wpS _ _ _ _ (if r > 0 then _ else _) _ _
   by_cases hr0:r > 0
   ·rw[if_pos hr0]
    refine Lv (rE b' λst2 b2 e2=>Mi ⟨0,rfl,b2,λi j le lt=> ?_,Pn (LP _),λi g1 g2=>by rw[sd g1 g2]⟩)
    rw[e2,Mz hz eq,Mz hz eq];exact d2 i j le lt
   ·rw[if_neg hr0]
    exact Mi ⟨0,rfl,b',d2,Pn (LP _),λi g1 g2=>by rw[sd g1 g2]⟩
  | false=>
   refine Lv (ua c ks b' kp kk ?_)
   cases y:κ.blt (gk κ st' (k - 1)) (gk κ st' k)with
   | true=>exact Mi (q k r st' b' l1 (Ml l2) d' hr eq)
   | false=>
    refine Mi ⟨r+1,rfl,b',nG d' y,Pn hr,λi g1 g2=> ?_⟩
    have e:gk κ st' k=gk κ st' (k - 1):=Ql y z;rw[Nat.add_sub_cancel];rcases NB i k with g3 | g3
    ·rw[e];exact eq i (by rw[Nat.add_sub_add_right]at g1;exact g1) g3
    ·rw[Sg (O7 g2) g3]
 ·obtain⟨r,rfl,b',d',hr,eq⟩:=hI
  have e:max n m=m:=Oj h2;rw[e]at d' hr eq ⊢;exact q m r st' b' h2 (KB _) d' hr eq
theorem wN {n m:Nat}{Q:Option Nat->OU->Prop}(c:tJ κ k0 prog w A s)(ks:KeysOf κ o)(b:SrtB k0 o st)(hm:m<=o.size)(h2:n+1<=m)(dn:Qu κ (arrOf st) (n+1))(q:BN κ k0 o m Q) :
  wpS (model prog w) A E s (descPart n m) Q st:=by
 unfold descPart;refine Lv (wpS_lift (NC ⟨rfl,Lv (G6 c ks b hm (by omega) h2 dn λk r st' b' l1 l2 d' hr eq=> ?_)⟩))
 dsimp only
 have hz:k<=(arrOf st').size:=by rw[b'.len];omega
 by_cases hr0:r > 0
 ·rw[if_pos hr0]
  refine Lv (rE b' λst2 b2 e2=>wM c ks b2 hm (by omega) l2 (λi j le lt=> ?_) q)
  rw[e2,Mz hz eq,Mz hz eq];exact d' i j le lt
 ·rw[if_neg hr0]
  exact wM c ks b' hm (by omega) l2 d' q
theorem EJ {m:Nat}{Q:Option Nat->OU->Prop}(c:tJ κ k0 prog w A s)(ks:KeysOf κ o)(b:SrtB k0 o st)(hm:m<=o.size)(h1:1<=m)(q:BN κ k0 o m Q):wpS (model prog w) A E s (countRun' 0 m) Q st:=by
 rw[countRun0_eq];refine Lv (DY c ks b hm (KB 1) h1 (vH (KB 1)) λn l1 l2 so lt=> ?_)
 dsimp only
 by_cases e:n=m
 ·rw[if_pos (beq_iff_eq.mpr e)]
  exact Mi (q n st b l1 l2 so)
 rw[if_neg (λz=>e (beq_iff_eq.mp z))]
 have fall:=O6 (lt e)
 by_cases g:n > 1
 ·rw[if_pos g]
  refine Lv (ua c ks b (by omega) (by omega) ?_)
  cases z:κ.blt (gk κ st 0) (gk κ st (n - 1))with
  | true=>exact Mi (q n st b l1 l2 so)
  | false=>
   have all:∀k,0<=k->k<n->gk κ st k=gk κ st (n - 1):=λk _ hk=>
    Ql (so k (n - 1) (by omega) (by omega)) (Oi (show κ.kle (gk κ st (n - 1)) (gk κ st 0)from z) (so 0 k (by omega) hk))
   have hz:n<=(arrOf st).size:=by rw[b.len];omega
   refine Lv (rE b λst2 b2 e2=>wN c ks b2 hm (by omega) (nG (λi j le lt=> ?_) ?_) q)
   ·rw[e2,Mz hz all,Mz hz all]
    show κ.kle (gk κ st j) (gk κ st i)
    rw[all i (LP _) (by omega),all j (LP _) (by omega)]
    exact M7 _
   ·rw[e2,Mz hz all,Mz hz all]
    exact fall
 ·rw[if_neg g]
  exact wN c ks b hm (by omega) (nG (GB (by omega)) fall) q
theorem F1 {l u:Nat}(h:l<u):l<=(l+u) / 2/\(l+u) / 2<u:=⟨by omega,by omega⟩
theorem Gm {xs:Array Su}{k l:Nat}(hk:k<xs.size)(lk:l<=k)(so:L3 κ xs k)(lo:∀i,i<l->κ.kle (KK κ xs i) (KK κ xs k))(hi:∀i,l<=i->i<k->κ.klt (KK κ xs k) (KK κ xs i)):L3 κ (bubble xs k (k - l)) (k+1):=λi j le lt=>by
 rw[KK_bubble hk (Rc _ _),KK_bubble hk (Rc _ _),Nat.sub_sub_self lk]
 have lt:=O7 lt;rcases Re i l with i1 | i1 | i1
 ·rw[if_neg (Lk i1),if_neg λz=>Nat.lt_asymm z.1 i1]
  rcases Re j l with j1 | j1 | j1
  ·rw[if_neg (Lk j1),if_neg λz=>Nat.lt_asymm z.1 j1];exact so _ _ le (KA j1 lk)
  ·rw[if_pos j1];exact lo i i1
  ·rw[if_neg (MS j1),if_pos ⟨j1,lt⟩];exact so _ _ (Om (PJ i1 j1)) (KA (On j1) lt)
 ·rw[if_pos i1]
  rcases Nat.lt_or_eq_of_le (i1▸le:l<=j)with j1 | j1
  ·rw[if_neg (MS j1),if_pos ⟨j1,lt⟩];exact O6 (hi _ (Om j1) (KA (On j1) lt))
  ·rw[if_pos j1.symm];exact M7 _
 ·have j1:=KA i1 le
  rw[if_neg (MS i1),if_pos ⟨i1,K6 le lt⟩,if_neg (MS j1),if_pos ⟨j1,lt⟩];exact so _ _ (Nat.sub_le_sub_right le 1) (KA (On j1) lt)
theorem EL {n a:Nat}{Q:Bool->OU->Prop}(c:tJ κ k0 prog w A s)(ks:KeysOf κ o)(b:SrtB k0 o st)(h1:1<=n)(hn:n<=o.size)(ha:a<=n)(so:L3 κ (arrOf st) a)
  (q:∀st',SrtB k0 o st'->L3 κ (arrOf st') n->Q true st'):wpS (model prog w) A E s (binarySort' 0 n a) Q st:=by
 rw[binarySort'_eq];simp only[Ry];refine Lv (Og (I:=λk r st'=>r=(none,())/\SrtB k0 o st'/\L3 κ (arrOf st') k) (λk r st1 l1 l2 hI=> ?_) (λr st1 hI=> ?_) ⟨rfl,b,?_⟩)
 ·obtain⟨rfl,b1,so1⟩:=hI
  have hk:k<o.size:=KA l2 hn
  refine Lv (wpS_mono (Og (I:=λx r st2=>st2=st1/\∃l u,r=(none,l,u)/\l<=u/\u<=k/\u<=k+l - x/\(∀i,i<l->κ.kle (gk κ st1 i) (gk κ st1 k))/\∀i,u<=i->i<k->κ.klt (gk κ st1 k) (gk κ st1 i))
   (Q:=λr st2=>st2=st1/\∃l u,r=(none,l,u)/\l<=k/\(∀i,i<l->κ.kle (gk κ st1 i) (gk κ st1 k))/\∀i,l<=i->i<k->κ.klt (gk κ st1 k) (gk κ st1 i)) (λx r st2 y1 y2 hJ=> ?stp) (λr st2 hJ=> ?fin) ⟨rfl,0,k,rfl,LP _,KB _,KB _,λi hi=>absurd hi (Nat.not_lt_zero _),λi g1 g2=>absurd g2 (Nat.not_lt.mpr g1)⟩) λr st2 hJ=> ?pst)
  case stp=>
   obtain⟨rfl,l,u,rfl,lu,uk,mz,lo,hi⟩:=hJ
   dsimp only
   by_cases g:l ≥ u
   ·rw[if_pos g]
    exact Mi ⟨rfl,l,u,rfl,K6 lu uk,lo,λi g1 g2=>hi i (K6 g g1) g2⟩
   ·rw[if_neg g]
    have hm:=F1 (Nat.lt_of_not_le g)
    generalize (l+u) / 2=m at hm ⊢
    have mk:m<k:=KA hm.2 uk;refine Lv (ua c ks b1 hk (PJ mk hk) ?_)
    have am:u<=k+(m+1) - (x+1)/\m<=k+l - (x+1):=by
     clear lo hi so so1 q ks c b b1 hn ha h1
     omega
    cases z:κ.blt (gk κ st2 k) (gk κ st2 m)with
    | true=>exact Mi ⟨rfl,l,m,rfl,hm.1,Ml mk,am.2,lo,λi g1 g2=>KeyOrd.klt_of_klt_of_kle z (so1 _ i g1 g2)⟩
    | false=>exact Mi ⟨rfl,m+1,u,rfl,hm.2,uk,am.1,λi g1=>Oi (so1 i m (O7 g1) mk) z,hi⟩
  case fin=>
   obtain⟨rfl,l,u,rfl,lu,uk,mz,lo,hi⟩:=hJ
   have e:u<=l:=by
    clear lo hi so so1 q ks c b b1 hn ha h1
    omega
   exact⟨rfl,l,u,rfl,K6 lu uk,lo,λi g1 g2=>hi i (K6 e g1) g2⟩
  case pst=>
   obtain⟨rfl,l,u,rfl,lk,lo,hi⟩:=hJ
   dsimp only
   rw[moveDown'_eq];exact Lv (Rp (Mi ⟨rfl,b1.arr (bubble_perm _ _ _),Gm (by rw[b1.len];exact hk) lk so1 lo hi⟩))
 ·obtain⟨rfl,b1,so1⟩:=hI
  rw[Oj (Nat.max_le.mpr ⟨ha,h1⟩)]at so1;exact Mi (q st1 b1 so1)
 ·rcases Nat.le_total a 1 with g | g
  ·rw[Oj g];exact vH (KB 1)
  ·rw[Nat.max_eq_left g];exact so
theorem EM {Q:Unit->OU->Prop}(c:tJ κ k0 prog w A s)(ks:KeysOf κ o)(b:SrtB k0 o st)(h2:2<=o.size)(h64:o.size<64)
  (q:∀st',(arrOf st').Perm o->Q3 st'=none->L3 κ (arrOf st') o.size->Q () st'):wpS (model prog w) A E s sortRuns' Q st:=by
 rw[sortRuns'_eq];refine Lv (Sv ?_)
 dsimp only
 have hmr:minRun' o.size o.size 0=o.size:=by
  cases hz:o.size with
  | zero=>omega
  | succ f=>rw[minRun'_succ,if_pos (by omega)]
 simp only[b.len,hmr]
 refine Lv (wpS_mono (Og (I:=λx r st1=>(x=0/\r=(none,0)/\SrtB k0 o st1)\/(x≠0/\r=(none,o.size)/\(arrOf st1).Perm o/\Q3 st1=none/\(Nt st1).size=1/\L3 κ (arrOf st1) o.size))
  (Q:=λr st1=>r=(none,o.size)/\(arrOf st1).Perm o/\Q3 st1=none/\(Nt st1).size=1/\L3 κ (arrOf st1) o.size) (λx r st1 l1 l2 hI=> ?stp) (λr st1 hI=> ?fin) (.inl ⟨rfl,rfl,b⟩)) λr st1 hI=> ?pst)
 case stp=>
  rcases hI with⟨rfl,rfl,b1⟩ | ⟨_,rfl,hI⟩
  ·dsimp only
   rw[if_neg (by omega)]
   simp only[OR,Nat.min_self,Ry];refine Lv (EJ c ks b1 (KB _) (by omega) λn st2 b2 n1 n2 so2=> ?_)
   dsimp only
   have fin:∀st3,SrtB k0 o st3->L3 κ (arrOf st3) o.size->(arrOf (Rq st3 ((Nt st3).push (0,o.size,0)))).Perm o/\Q3 (Rq st3 ((Nt st3).push (0,o.size,0)))=none ∧
     (Nt (Rq st3 ((Nt st3).push (0,o.size,0)))).size=1/\L3 κ (arrOf (Rq st3 ((Nt st3).push (0,o.size,0)))) o.size:=λst3 b3 so3=>⟨b3.p,b3.f,by
    show((Nt st3).push _).size=1
    rw[b3.e];rfl,so3⟩
   by_cases g:n<o.size
   ·rw[if_pos g]
    refine Lv (wpS_lift (NC ⟨rfl,Lv (EL c ks b2 (NZ h2) (KB _) n2 so2 λst3 b3 so3=> ?_)⟩))
    simp only[Bool.not_true,ME,if_false];refine Lv (Sv ?_)
    rw[show(Nt st3).back?=none by rw[b3.e];rfl]
    exact Lv (Rp (Mi (.inr ⟨by omega,rfl,fin st3 b3 so3⟩)))
   ·rw[if_neg g]
    obtain rfl:n=o.size:=by omega
    refine Lv (Sv ?_)
    rw[show(Nt st2).back?=none by rw[b2.e];rfl]
    exact Lv (Rp (Mi (.inr ⟨by omega,rfl,fin st2 b2 so2⟩)))
  ·dsimp only
   rw[if_pos (KB _)];exact Mi ⟨rfl,hI⟩
 case fin=>
  rcases hI with⟨h,_,_⟩ | ⟨_,hI⟩
  ·omega
  ·exact hI
 case pst=>
  obtain⟨rfl,hp,hf,he,hs⟩:=hI
  dsimp only
  refine Lv (wpS_mono (Og (I:=λ_ r st2=>st2=st1/\r=(none,())) (Q:=λr st2=>st2=st1/\r=(none,())) (λx r st2 _ _ hJ=> ?stp) (λ_ _ h=>h) ⟨rfl,rfl⟩) λr st2 hJ=> ?pst)
  case stp=>
   obtain⟨rfl,rfl⟩:=hJ;refine Lv (Sv ?_)
   rw[if_pos (NA he)];exact Mi ⟨rfl,rfl⟩
  case pst=>
   obtain⟨rfl,rfl⟩:=hJ;exact Mi (q _ hp hf hs)
end
def RowV (h:Heap)(v:Kq)(ns:List Int):Prop:=∃a its,v= .ref a/\h.IsTuple a its/\Nl its.toList ns/\ns≠ []
theorem RowV.inj {h:Heap}{v:Kq}{ns ms:List Int}(r:RowV h v ns)(q:RowV h v ms):ns=ms:=by
 obtain⟨a,its,rfl,⟨o,e,_,n,d⟩,i,_⟩:=r;obtain⟨b,jts,eb,⟨o',e',_,n',d'⟩,j,_⟩:=q;cases eb;rw[e]at e';cases e';rw[d]at d';cases d';rw[<-i.nums,<-j.nums]
open Classical in
def yB (h:Heap)(v:Kq):Option (List Int):=if e:∃ns,RowV h v ns then some e.choose else none
theorem RowV.key {h:Heap}{v:Kq}{ns:List Int}(r:RowV h v ns):yB h v=some ns:=by
 unfold yB
 have e:∃ns,RowV h v ns:=⟨ns,r⟩;rw[dif_pos e,e.choose_spec.inj r]
theorem xz {h:Heap}{v:Kq}{ns:List Int}(e:yB h v=some ns):RowV h v ns:=by
 unfold yB at e
 split at e
 ·rename_i g
  cases e;exact g.choose_spec
 ·cases e
def sU (h:Heap):PyProof.Rows.KeyKind:={ α:=List Int,blt:=cW,irrefl:=lx,trans:=lv,negTrans:=uZ,total:=lw,keyOf:=yB h,dflt:=[] }
def uY:List Int->List Int->Option Bool
 | a::l,b::m=>if a=b then uY l m else some (decide (a<b))
 | _,_=>none
theorem xk:∀l m,cW l m=(uY l m).getD (decide (l.length<m.length))
 | [],[] =>rfl
 | [],_::_=>rfl
 | _::_,[] =>rfl
 | a::l,b::m=>by
  unfold cW uY
  by_cases e:a=b
  ·rw[if_pos e,if_pos e,xk l m]
   simp
  ·rw[if_neg e,if_neg e];rfl
section
variable {prog:KS}{w:LA}{A:La}{E:Kq->Kt->Prop}{s:Kt}
theorem F2 {a b:Int}{t u:Tok}{Q:Bool->Kt->Prop}(h:Q (decide (a<b)) s):∀k,wpAny (model prog w) A (oneLt' k (.int a t) (.int b u)) Q E s
 | true=>oneLt_int h
 | false=>by
  rw[oneLt'_eq];simp only[ME,if_false];exact Kn (wpAny_lt_int (show wpAny (model prog w) A (truthOfDropped (.bool (decide (a<b)))) Q E s from LJ h))
theorem Be {β:Type}(f:(Kq×Kq)×Nat->β->Sem (ForInStep β))(b0:β)(fin:Bool->β)
  (hf:∀(a b:Int) (t u:Tok) (i:Nat) (Q:ForInStep β->Kt->Prop),(a=b->Q (.yield b0) s)->(a≠b->Q (.done (fin (decide (a<b)))) s)->wpAny (model prog w) A (f ((.int a t,.int b u),i) b0) Q E s)
  {us:List Kq} {ns:List Int} (i:Nl us ns):∀{vs:List Kq} {ms:List Int} (k:Nat) {Q:β->Kt->Prop},Nl vs ms->(∀d,uY ns ms=some d->Q (fin d) s)->(uY ns ms=none->Q b0 s)->wpAny (model prog w) A (forIn ((us.zip vs).zipIdx k) b0 f) Q E s:=by
 induction i with
 | nil=>
  intro vs ms k Q _ _ h;rw[List.zip_nil_left,Oz,N5]
  exact Kz (h (by unfold uY;rfl))
 | cons a t i ih=>
  intro vs ms k Q j g h
  cases j with
  | nil=>
   rw[List.zip_nil_right,Oz,N5]
   exact Kz (h (by unfold uY;rfl))
  | cons b u j=>
   rw[List.zip_cons_cons,Po,NJ];unfold uY at g h;refine Kn (hf a b t u k _ (λe=> ?_) λe=> ?_)
   ·rw[if_pos e]at g h
    exact ih (k+1) j g h
   ·rw[if_neg e]at g
    exact Kz (g _ rfl)
theorem Ic (k:Bool)(x y:Kq):keyLt' (tuples' k) x y=(NS x >>= λxs=>NS y >>= λys=>(do
  for z in (xs.toList.zip ys.toList).zipIdx do
   if !(<-eqBool z.1.1 z.1.2)then return (<-oneLt' (k&&z.2 == 0) z.1.1 z.1.2)
  return decide (xs.size<ys.size))):=rfl
theorem Ib:tJ (sU s.heap) (tuples' true) prog w A s:=by
 intro E x y (a:List Int) (b:List Int) Q hx hy (q:Q (cW a b) s);obtain⟨xa,xs,rfl,⟨xo,e1,_,n1,d1⟩,i1,_⟩:=xz hx;obtain⟨ya,ys,rfl,⟨yo,e2,_,n2,d2⟩,i2,_⟩:=xz hy;rw[Ic];refine Kn (P4 e1 d1 (Kn (P4 e2 d2 ?_)))
 have q':=q;rw[xk]at q';refine Kn (Be _ _ (λd=>(some d,())) (λa b t u i Q h1 h2=> ?_) i1 0 i2 (λd e=> ?_) λe=> ?_)
 ·refine Kn (RT ?_)
  by_cases z:a=b
  ·rw[beq_iff_eq.mpr z]
   exact Kz (h1 z)
  ·rw[beq_eq_false_iff_ne.mpr z]
   exact Kn (F2 (Kz (h2 z)) _)
 ·rw[e]at q'
  exact Kz q'
 ·rw[e]at q'
  refine Kz ?_
  rw[<-i1.length,<-i2.length,Mu,Mu]at q';exact q'
theorem Iw (v:Kq):firstOfTuple' v=(typeOf v >>= λt=>if t != .type "tuple" then pure none else NS v >>= λxs=>pure xs[0]?):=rfl
theorem qU:∀{vs:List Kq} {Q:List (Option Kq)->Kt->Prop},(∀v∈vs,∃ns,RowV s.heap v ns)->(∀us ns,Nl us ns->us.length=vs.length->Q (us.map some) s)->wpAny (model prog w) A (vs.mapM firstOfTuple') Q E s
 | [],Q,_,q=>by
  rw[List.mapM_nil]
  exact Kz (q [] [] .nil rfl)
 | v::vs,Q,h,q=>by
  rw[List.mapM_cons,Iw];obtain⟨ns,a,its,rfl,⟨o,e,hc,n,d⟩,i,ne⟩:=h _ Kr;obtain⟨its⟩:=its;refine Kn (Kn (Of (T:="tuple") ⟨o,e,hc⟩ ?_))
  rw[if_neg (by decide+kernel)]
  refine Kn (P4 e d (Kz ?_))
  cases i with
  | nil=>exact absurd rfl ne
  | cons m t i'=>exact Kn (qU (λv hv=>h v (Ko _ hv)) λus ns j hl=>Kz (q (.int m t::us) (m::ns) (.cons m t j) (by rw[Kx,Kx,hl])))
theorem Id {vs:List Kq}{Q:P8->Kt->Prop}(hv:∀v∈vs,∃ns,RowV s.heap v ns)(ne:vs≠ [])(q:Q (tuples' true) s):wpAny (model prog w) A (keyKind' vs.toArray) Q E s:=by
 rw[keyKind'_eq,Rf];refine Kn ?_
 rw[map_eq_pure_bind];refine Kn (qU hv λus ns i hl=>Kz ?_)
 rw[if_pos (by simp)]
 refine Kn (NC ?_)
 have ef:(us.map some).toArray.filterMap id=us.toArray:=by simp
 rw[ef,oneTypeOnly'_eq,Rf,mapM_typeOf_ints i]
 cases i with
 | nil=>exact absurd (List.length_eq_zero_iff.mp hl.symm) ne
 | @cons m t us' ns' i'=>
  simp only[map_pure,pure_bind]
  have hall:((R0 (λ_=>MD "int") (LZ m t::us')).toArray.all λx=>x == MD "int")=true:=by
   simp only[List.all_toArray,Rv,KY];intro _ _;rfl
  rw[show(R0 (λ_=>MD "int") (LZ m t::us')).toArray[0]? =some (MD "int")by simp]
  simp only[hall,if_true,pure_bind];exact Kz q
theorem RowV.on {h h':Heap}{v:Kq}{ns:List Int}(r:RowV h v ns)(k:∀a o,h.get? a=some o->o.cls= .type "tuple"->h'.get? a=some o):RowV h' v ns:=by
 obtain⟨a,its,rfl,⟨o,e,hc,z⟩,i,ne⟩:=r;exact⟨a,its,rfl,⟨o,k a o e hc,hc,z⟩,i,ne⟩
def rk (h:Heap)(v:Kq):List Int:=(yB h v).getD []
theorem qF {h:Heap}{v:Kq}{ns:List Int}(r:RowV h v ns):rk h v=ns:=by unfold rk;rw[r.key];rfl
theorem EK {h:Heap}{vs:List Kq}{xs:Array Su}(hp:xs.Perm (pairsOf vs))(hs:L3 (sU h) xs (pairsOf vs).size) :
  (xs.map (·.2)).toList.Perm vs/\((xs.map (·.2)).toList.map (rk h)).Pairwise (λa b=>pE a b=true):=by
 have hl:xs.toList.Perm (vs.zip vs):=by rw[<-pairsOf_toList];exact OL.mp hp
 have e:(xs.map (·.2)).toList=xs.toList.map (·.1):=by
  rw[Array.toList_map];exact K2 λp hp'=>(mem_zip_self (hl.mem_iff.mp hp')).1.symm
 rw[e];refine⟨?_,?_⟩
 ·have:=hl.map (·.1)
  rwa [List.map_fst_zip (KB _)]at this
 ·rw[OV]
  intro i j hi hj hij
  have hi':i<xs.size:=by simpa using hi
  have hj':j<xs.size:=by simpa using hj
  have z:cW (KK (sU h) xs j) (KK (sU h) xs i)=false:=hs i j (Ml hij) (by rw[<-hp.size_eq];exact hj')
  have g:∀k (hk:k<xs.size),KK (sU h) xs k=rk h xs[k].1:=λk hk=>by unfold KK;rw[getElem?_pos xs k hk];rfl
  rw[g i hi',g j hj']at z;simp only[Nu,Array.getElem_toList];unfold pE;rw[z];rfl
theorem HW {a:Addr}{vs:List Kq}{n:Nat}{P:Fin->Kt->Prop}(ho:s.heap.get? a=some (seqObj "list" vs.toArray n))(hv:∀v∈vs,∃ns,RowV s.heap v ns)(h64:vs.length<64)
  (q:∀out:Array Kq,out.toList.Perm vs->(out.toList.map (rk s.heap)).Pairwise (λa b=>pE a b=true)->P (.done (.ret .none)) { s with heap:=sortedHeap s.heap a vs out }) :
  wpAny (model prog w) A (Builtin.«list.sort» ⟨[.ref a],[]⟩) P E s:=by
 rw[list_sort_plain]
 have ha:=KF ho;refine Kn (P4 ho rfl (Kn (Q4 ho rfl ?_)))
 have ho1:=get?_update_seq ho (λ_=> #[])
 generalize hm:(if (#[]:Array Kq).size == vs.toArray.size then n else n+1)=m at ho1
 refine Kn (Sw ho1 rfl (Kn (wpAny_newTuple (Kn (wpAny_newList (NP ?_))))))
 generalize hh:((s.heap.update a (O5 λ_=> #[])).push (seqObj "tuple" vs.toArray 0)).push (seqObj "list" #[] 0)=h6
 have old:∀b,b<s.heap.objs.size->h6.get? b=(s.heap.update a (O5 λ_=> #[])).get? b:=λb hb=>by
  rw[<-hh,N0 _ _ _ (by rw[size_push',Pp];exact Lk (NY hb)),N0 _ _ _ (by rw[Pp];exact Lk hb)]
 have ho6:h6.get? a=some (seqObj "list" #[] m):=(old a ha).trans ho1
 have hrow:∀v ns,RowV s.heap v ns->RowV h6 v ns:=λv ns r=>r.on λb o e hc=>by
  rw[old b (KF e),Qm _ _ _ _ λz=>by subst z;rw[ho]at e;cases e;exact absurd (show MD "list" =MD "tuple" from hc) (by decide+kernel)]
  exact e
 have hv6:∀v∈vs,∃ns,RowV h6 v ns:=λv hm=>let ⟨ns,r⟩:=hv v hm;⟨ns,hrow v ns r⟩
 have hrk:∀v∈vs,rk h6 v=rk s.heap v:=λv hm=>by
  obtain⟨ns,r⟩:=hv v hm;rw[qF r,qF (hrow v ns r)]
 have fin:∀xs:Array Su,xs.Perm (pairsOf vs)->L3 (sU h6) xs (pairsOf vs).size->(xs.map (·.2)).size<=sizeLine+1/\P (.done (.ret .none)) { s with heap:=h6.update a (O5 λ_=>xs.map (·.2)) }:=λxs hp hs=>by
  obtain⟨g1,g2⟩:=EK hp hs;refine⟨?_,?_⟩
  ·have:=g1.length_eq
   rw[Mu]at this;rw[this,Mx];omega
  ·rw[K2 λv hm=>hrk v (g1.mem_iff.mp hm)]at g2
   have:=q _ g1 g2;unfold sortedHeap at this;rw[hh]at this;exact this
 show wpAny (model prog w) A _ P E { s with heap:=h6 }
 dsimp only
 by_cases h2:vs.toArray.size<2
 ·rw[if_pos h2,if_pos h2]
  obtain⟨f1,f2⟩:=fin (pairsOf vs) (R3 _) (vH (by rw[RG];rw[KH]at h2;omega))
  refine Kn (Kz ?_)
  rw[StateT.run_pure];refine Kn (Kz ?_)
  dsimp only
  refine Kn (Sw ho6 rfl (Kn (Q4 ho6 rfl ?_ (hsz2:=f1))))
  simp only[bne_self_eq_false,ME,if_false];exact Kz f2
 ·rw[if_neg h2,if_neg h2]
  rw[KH]at h2;refine Kn (Id hv6 (λz=>by subst z;exact h2 (by decide)) ?_)
  have ks:PyProof.Rows.KeysOf (sU h6) (pairsOf vs):=λp hp=>by
   rw[pairsOf_toList]at hp;obtain⟨ns,r⟩:=hv6 p.1 (mem_zip_self hp).2;exact⟨ns,r.key⟩
  refine Kn (Mb (EM (κ:=sU h6) (k0:=tuples' true) (o:=pairsOf vs) (st:=SortSt.mk' (tuples' true) (vs.toArray.zip vs.toArray) #[] 7 none)
   (Q:=λ_ st'=>(arrOf st').Perm (pairsOf vs)/\Q3 st'=none/\L3 (sU h6) (arrOf st') (pairsOf vs).size) (Ib (s:={ s with heap:=h6 })) ks ⟨R3 _,rfl,rfl,rfl⟩
   (by rw[RG];omega) (by rw[RG];exact h64) λst' a1 a2 a3=>⟨a1,a2,a3⟩) ?_ λ_ _ e=>e)
  rintro ⟨⟨⟩,st'⟩ s' ⟨rfl,hp,hf,hs⟩
  obtain⟨f1,f2⟩:=fin _ hp hs
  dsimp only
  refine Kn (Sw ho6 rfl (Kn (Q4 ho6 rfl ?_ (hsz2:=f1))))
  rw[hf];simp only[bne_self_eq_false,ME,if_false];exact Kz f2
theorem yb {l:Addr}{vs:List Kq}{Q:Kq->Kt->Prop}(hl:s.heap.IsList l vs.toArray)(hv:∀v∈vs,∃ns,RowV s.heap v ns)(h64:vs.length<64)
  (q:∀out:Array Kq,out.toList.Perm vs->(out.toList.map (rk s.heap)).Pairwise (λa b=>pE a b=true)->Q (.ref (s.heap.objs.size+1)) { s with heap:=sortedAll s.heap vs out }) :
  wpAny (model prog w) A (call (.builtin "sorted") [.ref l]) Q E s:=by
 refine Calls.call_function_entry kind_sorted plain_sorted entry_sorted (args_sorted1 _) ?_
 unfold Builtin.«sorted»;refine Kn (m:=checkCount "sorted" 1 1 _) (Kz (Kn (collect_list hl (Kn (wpAny_newList ?_)) (by rw[Mx];omega))))
 generalize hh:(s.heap.push (seqObj "list" #[] 0)).update s.heap.objs.size (O5 (· ++vs.toArray))=h1
 have hz:h1.objs.size=s.heap.objs.size+1:=by rw[<-hh,Pp,size_push']
 have keep:∀b o,s.heap.get? b=some o->(h1.push (seqObj "list" vs.toArray 0)).get? b=some o:=λb o e=>by
  have hb:=KF e
  have nb:b≠s.heap.objs.size:=Lk hb;rw[N0 _ _ _ (by rw[hz];exact Lk (NY hb)),<-hh,Qm _ _ _ _ nb,N0 _ _ _ nb]
  exact e
 have hoL:(h1.push (seqObj "list" vs.toArray 0)).get? (s.heap.objs.size+1)=some (seqObj "list" vs.toArray 0):=by rw[<-hz];exact KI _ rfl
 have hrow:∀v ns,RowV s.heap v ns->RowV (h1.push (seqObj "list" vs.toArray 0)) v ns:=λv ns r=>r.on λb o e _=>keep b o e
 show wpAny (model prog w) _ _ _ _ { s with heap:=h1.push (seqObj "list" vs.toArray 0) }
 dsimp only
 rw[hz];refine Kn (NP (Mq slot_list_sort ⟨_,hoL,rfl⟩ entry_list_sort (HW (s:={ s with heap:=h1.push (seqObj "list" vs.toArray 0) }) hoL (λv hm=>let ⟨ns,r⟩:=hv v hm;⟨ns,hrow v ns r⟩) h64 λout g1 g2=>⟨_,rfl,?_⟩) (args_list_sort _)))
 refine Kz ⟨_,rfl,?_⟩
 rw[K2 λv hm=>show _=rk s.heap v by obtain⟨ns,r⟩:=hv v (g1.mem_iff.mp hm);rw[qF r,qF (hrow v ns r)]]at g2
 have:=q out g1 g2;unfold sortedAll at this;rw[hh]at this;exact this
end
def pk:Kq->V
 | .ref a=> .ref a
 | _=> .non
section
variable {X:Cx}
theorem jK:∀{m:List T} {ns:List Int},lj m=some ns->m=ns.map .int
 | [],ns,h=>by cases h;rfl
 | t::m,ns,h=>by
  cases t with
  | int i=>
   unfold lj at h;obtain⟨k,h1,rfl⟩:=MA.mp h
   rw[jK h1];rfl
  | _=>cases h
theorem wR {pins:List (Addr×Obj)}{σ:L2.St}{H:Hp}{s:Kt}{O:Ow}(I:Inv X pins σ H s):∀{l:List T} {k:List (List Int)} {vs:List V} {us:List Kq},rowsT l=some k->Reps X.K O H l vs->Vals vs us →
  us.map (rk s.heap)=k/\∀u∈us,RowV s.heap u (rk s.heap u)/\RelV (pk u) u/\Rep X.K O H (.tup ((rk s.heap u).map .int)) (pk u)
 | [],k,vs,us,h,r,v=>by
  cases Reps.Je.mp r;cases v;cases h
  exact⟨rfl,λu hu=>by cases hu⟩
 | t::l,k,vs,us,h,r,v=>by
  obtain⟨x,xs,rfl,p,q⟩:=Reps.me.mp r
  cases v with
  | @cons _ u _ us' v1 v2=>
   cases t with
   | tup m=>
    unfold rowsT at h
    split at h
    ·rename_i ns k' h1 h2
     by_cases ne:ns= []
     ·rw[if_pos ne]at h;cases h
     ·rw[if_neg ne]at h;cases h
      obtain⟨e1,e2⟩:=wR I h2 q v2;obtain⟨a,ws,rfl,_,g3,g4⟩:=Rep.Jg.mp p;obtain rfl:u=KM a:=v1;obtain⟨its,w1,t1,_⟩:=I.tuple (SqT.of g3)
      have hi:=oG h1 g4 w1;obtain⟨o,ho,hc,n,hd⟩:=t1
      have row:RowV s.heap (.ref a) ns:=⟨a,_,rfl,⟨o,ho,hc,n,hd⟩,by simpa using hi,ne⟩
      have em:m=ns.map .int:=jK h1;subst em;refine⟨by rw[Kp,e1,qF row],λu hu=> ?_⟩
      rcases Ky.mp hu with rfl | hu
      ·rw[qF row];exact⟨row,rfl,p⟩
      ·exact e2 u hu
    ·cases h
   | _=>cases h
theorem qx {K:Km}{O:Ow}{H:Hp}{h:Heap}:∀{us:List Kq},(∀u∈us,RelV (pk u) u/\Rep K O H (.tup ((rk h u).map .int)) (pk u))->Vals (us.map pk) us/\Reps K O H (us.map λu=> .tup ((rk h u).map .int)) (us.map pk)
 | [],_=>⟨.nil,Reps.Jn⟩
 | u::us,hu=>by
  obtain⟨h1,h2⟩:=hu u Kr;obtain⟨g1,g2⟩:=qx λv hv=>hu v (Ko _ hv)
  exact⟨.cons h1 g1,Reps.me.mpr ⟨_,_,rfl,h2,g2⟩⟩
theorem yT:CallT X (.builtin "sorted") nX:=by
 intro pins s σ H O ts vs us Q I hf rs rv hp;unfold nX at hp
 split at hp
 ·rename_i l
  obtain⟨v,rfl,r⟩:=rs.one
  split at hp
  ·rename_i k hk
   by_cases h64:k.length<64
   ·rw[if_pos h64]at hp
    obtain⟨a,ws,rfl,n,q,z⟩:=Rep.Jh.mp r;obtain⟨u,rfl,ru⟩:=kS rv;obtain rfl:u=KM a:=ru;obtain⟨its,r',pl,hz⟩:=I.list (SqL.of q);obtain⟨e1,e2⟩:=wR I hk z r';refine yb pl.isList (λv hv=>⟨_,(e2 v hv).1⟩) (by rw[<-Ks (rk s.heap),e1];exact h64) λout g1 g2=> ?_
    have g3:=t9 (e1▸g1.map (rk s.heap)) g2;obtain⟨k1,k2⟩:=qx (us:=out.toList) (K:=X.K) (O:=O) (H:=H) (h:=s.heap) λu hu=>(e2 u (g1.mem_iff.mp hu)).2
    obtain⟨e,he⟩:=sortedAll_at s.heap its out
    have hfr:H (s.heap.objs.size+1)=none:=I.hok.fresh (Nat.le_succ _);refine⟨.ref (s.heap.objs.size+1),_,I.laid (t':=s.toks) (λ_ _=>sortedAll_old) (Nat.le_succ _) (show ObjOk X.prog X.w _ _ _ (.lst (out.toList.map pk))from⟨?_,out.toList,e,k1,he⟩),rfl,hp _ (aX hfr _) _ ?_⟩
    ·rw[Ks,g1.length_eq,<-Ks (rk s.heap),e1,Mx];omega
    ·have:=jo (p:=s.heap.objs.size+1) hfr (hf _ hfr) k2
     rw[<-g3,Ll];exact this
   ·rw[if_neg h64]at hp;exact hp.elim
  ·exact hp.elim
 ·exact hp.elim
end
end Tr
namespace PySem
open Sem (wp)
abbrev zO (h:Heap)(z ti to:Addr)(f0 f1:Kq):Prop:=h.get? z=some { cls:=.type "zip",dict:=none,data:=.fields #[f0,f1,.bool false,.ref ti,.ref to],slots:=#[] }
theorem Ez {h h':Heap}{a:Addr}{xs:Array Kq}(x:h.IsTuple a xs)(e:∀o,h.get? a=some o->h'.get? a=some o):h'.IsTuple a xs:=let ⟨o,ho,r⟩:=x;⟨o,e _ ho,r⟩
section
variable {prog:KS}{w:LA}{A:La}{E:Kq->Kt->Prop}{s:Kt}{n l1 t2 k:Nat}{xs ys:Array Kq}{x y:Kq}
theorem fD {a b:Nat}(h:a<b\/b<a):a≠b:=by omega
end
end PySem
namespace PySem
open Sem (wp)
open L2 (itAt)
def sqAt (tt:Bool)(h:Heap)(a:Addr)(xs:Array Kq):Prop:=if tt then h.IsTuple a xs else h.IsList a xs
theorem sqAt.keep {tt:Bool}{h h':Heap}{a:Addr}{xs:Array Kq}(q:sqAt tt h a xs)(k:∀o,h.get? a=some o->h'.get? a=some o):sqAt tt h' a xs:=by
 cases tt with
 | true=>exact Ez (show h.IsTuple a xs from q) k
 | false=>exact Heap.IsList.at (show h.IsList a xs from q) k
section
variable {prog:KS}{w:LA}{A:La}{E:Kq->Kt->Prop}{s:Kt}
theorem sr {tt:Bool}{it a:Addr}{k:Nat}{xs:Array Kq}{x:Kq}{Q:Kq->Kt->Prop}(hi:itAt tt s.heap it a k)(hs:sqAt tt s.heap a xs)(hx:xs[k]? =some x)
  (hQ:∀h',itAt tt h' it a (k+1)->Ny it s.heap h'->Q x { s with heap:=h' }):wpAny (model prog w) A (K3 (.ref it)) Q E s:=by
 cases tt with
 | true=>exact Enu.tupNext hi hs hx hQ
 | false=>exact wpAny_nextOf_list_item hi hs hx hQ
theorem Au {tt:Bool}{it a:Addr}{k:Nat}{xs:Array Kq}{Q:Kq->Kt->Prop}(hh:A.handled=none)(hi:itAt tt s.heap it a k)(hs:sqAt tt s.heap a xs)(hx:xs[k]? =none)
  (hE:∀h' e,Sa it s.heap h'->(∃o,h'.get? e=some o/\o.cls= .type "StopIteration")->E (.ref e) { s with heap:=h' }):wpAny (model prog w) A (K3 (.ref it)) Q E s:=by
 cases tt with
 | true=>exact Enu.tupStop hh hi hs hx hE
 | false=>exact wpAny_nextOf_list_end hh hi hs hx hE
structure Zw (h:Heap)(n a1 a2:Nat)(t1 t2:Bool)(k:Nat):Prop where
 pr:RH h (n+2) (.ref n) (.ref (n+1))
 ow:∃a b,RH h (n+3) a b
 i1:itAt t1 h n a1 k
 i2:itAt t2 h (n+1) a2 k
variable {n a1 a2 k:Nat}{t1 t2:Bool}{xs ys:Array Kq}{x y:Kq}
theorem Zw.keep {h h':Heap}(q:Zw h n a1 a2 t1 t2 k)(e:∀c o,n<=c->c<n+4->h.get? c=some o->h'.get? c=some o):Zw h' n a1 a2 t1 t2 k where
 pr:=e _ _ (by omega) (by omega) q.pr
 ow:=let ⟨a,b,z⟩:=q.ow;⟨a,b,e _ _ (by omega) (by omega) z⟩
 i1:=q.i1.keep λo=>e _ o (by omega) (by omega)
 i2:=q.i2.keep λo=>e _ o (by omega) (by omega)
theorem BU {Q:Kq->Kt->Prop}(q:Zw s.heap n a1 a2 t1 t2 k)(kz:zO s.heap (n+4) (n+2) (n+3) .none (.bool false))(s1:sqAt t1 s.heap a1 xs)(s2:sqAt t2 s.heap a2 ys)(b1:a1<n\/n+4<a1)(b2:a2<n\/n+4<a2)(hx:xs[k]? =some x)(hy:ys[k]? =some y)
  (kq:∀h' p,s.heap.objs.size<=p->RH h' p x y->zO h' (n+4) (n+2) (n+3) (rawInt p) (.bool false)->Zw h' n a1 a2 t1 t2 (k+1)->(∀c o,c≠n->c≠n+1->c≠n+3->c≠n+4->s.heap.get? c=some o->h'.get? c=some o)->Q (.ref p) { s with heap:=h' }) :
  wpAny (model prog w) A (Builtin.«zip.__next__» ⟨[.ref (n+4)],[]⟩) (λfin s'=> ∃v,fin= .done (.ret v)/\Q v s') E s:=by
 obtain⟨oa,ob,ho⟩:=q.ow
 show wpAny _ _ (field (.ref (n+4)) 2 >>= _) _ _ _
 refine Kn (Ly kz rfl (x:=.bool false) rfl ?_)
 show wpAny _ _ (field (.ref (n+4)) 3 >>= _) _ _ _
 refine Kn (Ly kz rfl (x:=.ref (n+2)) rfl ?_)
 refine Kn (Mt q.pr rfl ?_)
 show wpAny _ _ (Lb (.ref (n+4)) >>= _) _ _ _
 have fr:wpAny (model prog w) A (Lb (.ref (n+4))) (λv s'=>v=true/\s'=s) E s:=by
  unfold Lb;exact Kn (Ly kz rfl (x:=.none) rfl (Kz ⟨rfl,rfl⟩))
 refine Kn (Mb fr (λv s' hv=> ?_) λ_ _ z=>z)
 obtain⟨rfl,rfl⟩:=hv;simp only[if_true];refine Kn (NC (Kn (Ly kz rfl (x:=.ref (n+3)) rfl (Kn (MI kz (by simp) λh₁ kz₁ e₁=> ?_)))))
 replace kz₁:zO h₁ (n+4) (n+2) (n+3) .ellipsis (.bool false):=kz₁
 have q₁:Zw h₁ n a1 a2 t1 t2 k:=q.keep λc o _ hc g=>e₁.extBut c o (fD (by omega)) g
 simp only[Po,Oz,NJ,N5];refine Kn (Kn (Kn (Pl ?_)))
 show wpAny _ _ (K3 (.ref n) >>= _) _ _ _
 refine Kn (sr q₁.i1 (s1.keep λo g=>e₁.extBut _ _ (fD (by omega)) g) hx λh₂ g₂ e₂=>Kz ?_)
 have o₂:RH h₂ (n+3) oa ob:=e₂.extBut _ _ (fD (by omega)) (e₁.extBut _ _ (fD (by omega)) ho)
 refine Kn (Mt o₂ rfl (Kn (Oq o₂ λh₃ o₃ e₃=>Kn (Sx (Kz ?_)))))
 replace o₃:RH h₃ (n+3) x ob:=o₃
 refine Kn (Kn (Pl ?_))
 show wpAny _ _ (K3 (.ref (n+1)) >>= _) _ _ _
 refine Kn (sr (q₁.i2.keep λo g=>e₃.extBut _ _ (fD (by omega)) (e₂.extBut _ _ (fD (by omega)) g)) (s2.keep λo g=>e₃.extBut _ _ (fD (by omega)) (e₂.extBut _ _ (fD (by omega)) (e₁.extBut _ _ (fD (by omega)) g))) hy λh₄ g₄ e₄=>Kz ?_)
 have o₄:RH h₄ (n+3) x ob:=e₄.extBut _ _ (fD (by omega)) o₃
 refine Kn (Mt o₄ rfl (Kn (Oq o₄ λh₅ o₅ e₅=>Kn (Sx (Kz (Kz ?_))))))
 replace o₅:RH h₅ (n+3) x y:=o₅
 refine Kn (Mt o₅ rfl (Kn (wpAny_newTuple ?_)))
 have z₅:h₅.objs.size=s'.heap.objs.size:=by rw[e₅.1,e₄.1,e₃.1,e₂.1,e₁.1]
 have up:∀c o,c≠n->c≠n+1->c≠n+3->h₁.get? c=some o->h₅.get? c=some o:=λc o c1 c2 c3 g=>e₅.extBut _ _ c3 (e₄.extBut _ _ c2 (e₃.extBut _ _ c3 (e₂.extBut _ _ c1 g)))
 show wpAny _ _ (Nn (.ref (n+4)) (.ref h₅.objs.size) >>= _) _ _ _
 have z5:zO (h₅.push { cls:=.type "tuple",data:=.seq #[x,y] }) (n+4) (n+2) (n+3) .ellipsis (.bool false):=Kv _ (up _ _ (fD (by omega)) (fD (by omega)) (fD (by omega)) kz₁)
 have hn:n+4<h₅.objs.size:=KF (up _ _ (fD (by omega)) (fD (by omega)) (fD (by omega)) kz₁)
 refine Kn ?_
 unfold Nn;refine Kn (MI z5 (by simp) λh₇ z₇ e₇=> ?_)
 replace z₇:zO h₇ (n+4) (n+2) (n+3) (rawInt h₅.objs.size) (.bool false):=z₇
 refine MI z₇ (by simp) λh₈ z₈ e₈=>Kz ⟨_,rfl,?_⟩
 replace z₈:zO h₈ (n+4) (n+2) (n+3) (rawInt h₅.objs.size) (.bool false):=z₈
 have up8:∀c o,c≠n+4->h₅.get? c=some o->h₈.get? c=some o:=λc o c1 g=>e₈.extBut _ _ c1 (e₇.extBut _ _ c1 (Kv _ g))
 refine kq h₈ h₅.objs.size (NA z₅.symm) (e₈.extBut _ _ (fD (by omega)) (e₇.extBut _ _ (fD (by omega)) (KI _ rfl))) z₈ ⟨up8 _ _ (fD (by omega)) (up _ _ (fD (by omega)) (fD (by omega)) (fD (by omega)) q₁.pr),⟨x,y,up8 _ _ (fD (by omega)) o₅⟩,?_,?_⟩ λc o c1 c2 c3 c4 g=>up8 c o c4 (up c o c1 c2 c3 (e₁.extBut _ _ c4 g))
 ·exact g₂.keep λo g=>up8 _ _ (fD (by omega)) (e₅.extBut _ _ (fD (by omega)) (e₄.extBut _ _ (fD (by omega)) (e₃.extBut _ _ (fD (by omega)) g)))
 ·exact g₄.keep λo g=>up8 _ _ (fD (by omega)) (e₅.extBut _ _ (fD (by omega)) g)
theorem Er {Q:Fin->Kt->Prop}(hh:A.handled=none)(q:Zw s.heap n a1 a2 t1 t2 k)(kz:zO s.heap (n+4) (n+2) (n+3) .none (.bool false))(s1:sqAt t1 s.heap a1 xs)(s2:sqAt t2 s.heap a2 ys)(b1:a1<n\/n+4<a1)(b2:a2<n\/n+4<a2)(hend:xs[k]? =none\/ys[k]? =none)
  (ke:∀h' e,(∀c o,c≠n->c≠n+1->c≠n+3->c≠n+4->s.heap.get? c=some o->h'.get? c=some o)->(∃o,h'.get? e=some o/\o.cls= .type "StopIteration")->E (.ref e) { s with heap:=h' }) :
  wpAny (model prog w) A (Builtin.«zip.__next__» ⟨[.ref (n+4)],[]⟩) Q E s:=by
 show wpAny _ _ (field (.ref (n+4)) 2 >>= _) _ _ _
 refine Kn (Ly kz rfl (x:=.bool false) rfl ?_)
 show wpAny _ _ (field (.ref (n+4)) 3 >>= _) _ _ _
 refine Kn (Ly kz rfl (x:=.ref (n+2)) rfl ?_)
 refine Kn (Mt q.pr rfl ?_)
 show wpAny _ _ (Lb (.ref (n+4)) >>= _) _ _ _
 have fr:wpAny (model prog w) A (Lb (.ref (n+4))) (λv s'=>v=true/\s'=s) E s:=by
  unfold Lb;exact Kn (Ly kz rfl (x:=.none) rfl (Kz ⟨rfl,rfl⟩))
 refine Kn (Mb fr (λv s' hv=> ?_) λ_ _ z=>z)
 obtain⟨rfl,rfl⟩:=hv;simp only[if_true];refine Kn (NC (Kn (Ly kz rfl (x:=.ref (n+3)) rfl (Kn (MI kz (by simp) λh₁ kz₁ e₁=> ?_)))))
 replace kz₁:zO h₁ (n+4) (n+2) (n+3) .ellipsis (.bool false):=kz₁
 have q₁:Zw h₁ n a1 a2 t1 t2 k:=q.keep λc o _ hc g=>e₁.extBut c o (fD (by omega)) g
 simp only[Po,Oz,NJ,N5];refine Kn (Kn (Kn (Pl ?_)))
 show wpAny _ _ (K3 (.ref n) >>= _) _ _ _
 cases hx:xs[k]? with
 | none=>
  refine Kn (Au hh q₁.i1 (s1.keep λo g=>e₁.extBut _ _ (fD (by omega)) g) hx λh₂ e e₂ he=> ?_)
  obtain⟨oe,hoe,hce⟩:=he
  have hz₂:zO h₂ (n+4) (n+2) (n+3) .ellipsis (.bool false):=e₂ _ _ (fD (by omega)) kz₁
  have hez:e≠n+4:=λx=>by subst x;rw[hz₂]at hoe;cases hoe;simp at hce
  exact MI hz₂ (by simp) λh₃ _ hs₃=>ke h₃ e (λc o c1 c2 c3 c4 g=>hs₃.extBut _ _ c4 (e₂ _ _ c1 (e₁.extBut _ _ c4 g))) ⟨oe,hs₃.extBut _ _ hez hoe,hce⟩
 | some x=>
  have hy:ys[k]? =none:=by
   rcases hend with h | h
   ·rw[hx]at h;cases h
   ·exact h
  obtain⟨oa,ob,ho⟩:=q.ow;refine Kn (sr q₁.i1 (s1.keep λo g=>e₁.extBut _ _ (fD (by omega)) g) hx λh₂ g₂ e₂=>Kz ?_)
  have o₂:RH h₂ (n+3) oa ob:=e₂.extBut _ _ (fD (by omega)) (e₁.extBut _ _ (fD (by omega)) ho)
  refine Kn (Mt o₂ rfl (Kn (Oq o₂ λh₃ o₃ e₃=>Kn (Sx (Kz ?_)))))
  refine Kn (Kn (Pl ?_))
  show wpAny _ _ (K3 (.ref (n+1)) >>= _) _ _ _
  refine Kn (Au hh (q₁.i2.keep λo g=>e₃.extBut _ _ (fD (by omega)) (e₂.extBut _ _ (fD (by omega)) g)) (s2.keep λo g=>e₃.extBut _ _ (fD (by omega)) (e₂.extBut _ _ (fD (by omega)) (e₁.extBut _ _ (fD (by omega)) g))) hy λh₄ e e₄ he=> ?_)
  obtain⟨oe,hoe,hce⟩:=he
  have hz₄:zO h₄ (n+4) (n+2) (n+3) .ellipsis (.bool false):=e₄ _ _ (fD (by omega)) (e₃.extBut _ _ (fD (by omega)) (e₂.extBut _ _ (fD (by omega)) kz₁))
  have hez:e≠n+4:=λx=>by subst x;rw[hz₄]at hoe;cases hoe;simp at hce
  exact MI hz₄ (by simp) λh₅ _ hs₅=>ke h₅ e (λc o c1 c2 c3 c4 g=>hs₅.extBut _ _ c4 (e₄ _ _ c2 (e₃.extBut _ _ c3 (e₂.extBut _ _ c1 (e₁.extBut _ _ c4 g))))) ⟨oe,hs₅.extBut _ _ hez hoe,hce⟩
abbrev Es (h:Heap)(t1:Bool)(a1:Addr):Heap:=h.push { cls:=.type (if t1 then "tuple_iterator" else "list_iterator"),data:=.fields #[.ref a1,.int 0 0] }
end
section
variable {prog:KS}{w:LA}{A:La}{E:Kq->Kt->Prop}{s:Kt}
theorem A0 {tt:Bool}{a:Addr}{xs:Array Kq}{Q:Kq->Kt->Prop}(q:sqAt tt s.heap a xs)(h:Q (.ref s.heap.objs.size) { s with heap:=Es s.heap tt a }):wpAny (model prog w) A (pyIter (.ref a)) Q E s:=by
 cases tt with
 | true=>exact M0 (show s.heap.IsTuple a xs from q) h
 | false=>exact N1 (show s.heap.IsList a xs from q) h
end
abbrev IP (h:Heap)(t1 t2:Bool)(l t:Addr):Heap:=Es (Es h t1 l) t2 t
abbrev IO (h:Heap)(t1 t2:Bool)(l t:Addr):Heap:=(IP h t1 t2 l t).push { cls:=.type "tuple",data:=.seq #[.ref h.objs.size,.ref (Es h t1 l).objs.size] }
abbrev IN (h:Heap)(t1 t2:Bool)(l t:Addr):Heap:=(IO h t1 t2 l t).push { cls:=.type "tuple",data:=.seq #[.none,.none] }
abbrev DM (h:Heap)(t1 t2:Bool)(l t:Addr):Heap:=(IN h t1 t2 l t).push { cls:=.type "zip",data:=.fields #[.none,.bool false,.bool false,.ref (IP h t1 t2 l t).objs.size,.ref (IO h t1 t2 l t).objs.size] }
theorem AF (t1 t2:Bool)(l t:Addr)(xs ys:Array Kq):Meets (Builtin.«zip.__new__» ⟨[.type "zip",.ref l,.ref t],[]⟩) (λ_ R s=>sqAt t1 s.heap l xs/\sqAt t2 s.heap t ys/\R (.ok (.ret (.ref (IN s.heap t1 t2 l t).objs.size))) { s with heap:=DM s.heap t1 t2 l t }):=
 .of_wp λprog w A R s q=>by
  obtain⟨hp,g,d,tk,os⟩:=s;obtain⟨a1,a2,q⟩:=q
  have k0:=sub_zip
  have k1:sqAt t1 (Sb ⟨hp,g,d,tk,os⟩) l xs:=a1
  have k2:sqAt t2 (Sb ⟨Es hp t1 l,g,d,tk,os⟩) t ys:=sqAt.keep a2 λo e=>Kv _ e
  wp_walk using A0 k1,A0 k2
  exact⟨_,rfl,q⟩
section
variable {prog:KS}{w:LA}{A:La}{E:Kq->Kt->Prop}{s:Kt}
theorem BV {t1 t2:Bool}{l t:Addr}{xs ys:Array Kq}{Q:Kq->Kt->Prop}(a1:sqAt t1 s.heap l xs)(a2:sqAt t2 s.heap t ys)
  (q:∀h',Zw h' s.heap.objs.size l t t1 t2 0->zO h' (s.heap.objs.size+4) (s.heap.objs.size+2) (s.heap.objs.size+3) .none (.bool false)->h'.objs.size=s.heap.objs.size+5 →
   (∀c o,s.heap.get? c=some o->h'.get? c=some o)->Q (.ref (s.heap.objs.size+4)) { s with heap:=h' }) :
  wpAny (model prog w) A (call (.type "zip") [.ref l,.ref t]) Q E s:=by
 refine callType_new F.called_zip (by decide) (F.typeCall_zip_2 _ _) (F.newCall_zip_2 _ _) (λobj=>F.args_object_init_3 obj _ _) F.entry_zip_new (AF t1 t2 l t xs ys) ⟨a1,a2,?_⟩
 have z1:(Es s.heap t1 l).objs.size=s.heap.objs.size+1:=LX ..
 have z2:(IP s.heap t1 t2 l t).objs.size=s.heap.objs.size+2:=by rw[LX,z1]
 have z3:(IO s.heap t1 t2 l t).objs.size=s.heap.objs.size+3:=by rw[LX,z2]
 have z4:(IN s.heap t1 t2 l t).objs.size=s.heap.objs.size+4:=by rw[LX,z3]
 have z5:(DM s.heap t1 t2 l t).objs.size=s.heap.objs.size+5:=by rw[LX,z4]
 have g5:(DM s.heap t1 t2 l t).get? (IN s.heap t1 t2 l t).objs.size=some _:=KI _ rfl
 have g4:(DM s.heap t1 t2 l t).get? (IO s.heap t1 t2 l t).objs.size=some _:=Kv _ (KI _ rfl)
 have g3:(DM s.heap t1 t2 l t).get? (IP s.heap t1 t2 l t).objs.size=some _:=Kv _ (Kv _ (KI _ rfl))
 have g2:(DM s.heap t1 t2 l t).get? (Es s.heap t1 l).objs.size=some _:=Kv _ (Kv _ (Kv _ (KI _ rfl)))
 have g1:(DM s.heap t1 t2 l t).get? s.heap.objs.size=some _:=Kv _ (Kv _ (Kv _ (Kv _ (KI _ rfl))))
 have up:∀c o,s.heap.get? c=some o->(DM s.heap t1 t2 l t).get? c=some o:=λc o e=>Kv _ (Kv _ (Kv _ (Kv _ (Kv _ e))))
 show _/\_
 rw[z2,z3,z4]at g5;rw[z1,z2]at g3;rw[z3]at g4;rw[z1]at g2;rw[z4];refine⟨⟨_,g5,rfl⟩,q _ ⟨g3,⟨_,_,g4⟩,?_,?_⟩ g5 z5 up⟩
 ·cases t1 with
  | true=>exact⟨_,g1,rfl,rfl⟩
  | false=>exact⟨_,g1,rfl,rfl⟩
 ·cases t2 with
  | true=>exact⟨_,g2,rfl,rfl⟩
  | false=>exact⟨_,g2,rfl,rfl⟩
end
end PySem
namespace L2
open PySem PySem.Spec PyProof.Rows
def Itz (K:Km)(a1 a2:Addr)(t1 t2:Bool):It:=
 ⟨λi H=> ∃xs x ys y,(pw K H a1 t1 xs/\xs[i]? =some x)/\pw K H a2 t2 ys/\ys[i]? =some y,λi H x H'=> ∃p v u,x= .ref p/\H p=none/\H'=upd H p (.tup [v,u])/\(∀xs,pw K H a1 t1 xs->xs[i]? =some v)/\∀ys,pw K H a2 t2 ys->ys[i]? =some u,
  λi H=> ∃xs ys,pw K H a1 t1 xs/\pw K H a2 t2 ys/\(xs.length<=i\/ys.length<=i)⟩
section
variable {X:Cx}{pins:List (Addr×Obj)}{σ:L2.St}{H:Hp}{s:Kt}
theorem il {tt:Bool}{a:Addr}{xs:List V}(I:Inv X pins σ H s)(q:pw X.K H a tt xs):∃its:List Kq,Vals xs its/\sqAt tt s.heap a its.toArray/\∀ys,pw X.K H a tt ys->ys=xs:=by
 cases tt with
 | true=>
  have q':SqT X.K H a xs:=q;obtain⟨its,rv,p,hz⟩:=I.tuple q'
  exact⟨its,rv,p,λys hy=>I.Ju hy q'⟩
 | false=>
  have q':SqL X.K H a xs:=q;obtain⟨its,rv,p,hz⟩:=I.list q';exact⟨its,rv,p.isList,λys hy=>I.JB hy q'⟩
theorem tZ {tt:Bool}{a b:Addr}{xs:List V}(I:Inv X pins σ H s)(q:pw X.K H a tt xs)(hb:nh X pins H b):a≠b:=λz=>by
 have hb':=hb.1;rw[<-z]at hb'
 cases tt with
 | true=>
  have hq':SqT X.K H a xs:=q;rcases hq' with(q | ⟨o,q⟩) | ⟨o,its,n,q,_⟩
  ·rw[hb']at q;cases q
  ·rw[hb']at q;cases q
  ·rcases hb.2.2.2.1 with z1 | z1
   ·exact I.ok.noex a o (I.ok.mod.kin a o q) (z▸z1)
   ·exact absurd (KA (KF (I.ok.bs a o (I.ok.mod.kin a o q)).1) (z▸z1)) (KZ _)
 | false=>
  have hq':SqL X.K H a xs:=q;rcases hq' with(q | ⟨o,q⟩) | ⟨o,its,n,q,_⟩
  ·rw[hb']at q;cases q
  ·rw[hb']at q;cases q
  ·rcases hb.2.2.2.1 with z1 | z1
   ·exact I.ok.noex a o (I.ok.mod.kin a o q) (z▸z1)
   ·exact absurd (KA (KF (I.ok.bs a o (I.ok.mod.kin a o q)).1) (z▸z1)) (KZ _)
end
theorem five {n b:Nat}:b∈ [n+4,n,n+1,n+2,n+3] ↔n<=b/\b<n+5:=by
 simp only[Ky,Lw,or_false];omega
theorem zp {P:KS}{w:LA}{K:Km}{elts:List Expr}{kk:Nat}{pos:Pos}(t1 t2:Bool)(a1 a2 n:Nat) :
  yX P w K (.Tuple elts kk pos) (Itz K a1 a2 t1 t2) [n+4,n,n+1,n+2,n+3] (n+4) (λi h=>zO h (n+4) (n+2) (n+3) .none (.bool false)/\Zw h n a1 a2 t1 t2 i) where
 mem:=by simp
 obj:=λi h st b hb=>by
  obtain⟨kz,q⟩:=st;simp only[Ky,Lw,or_false]at hb;rcases hb with rfl | rfl | rfl | rfl | rfl
  ·exact⟨_,kz,λv z=>by have z':R4 _=Qy v:=z;cases z'⟩
  ·exact q.i1.obj
  ·exact q.i2.obj
  ·exact⟨_,q.pr,λv z=>by have z':Data.seq _ _=Qy v:=z;cases z'⟩
  ·obtain⟨a,b,e⟩:=q.ow
   exact⟨_,e,λv z=>by have z':Data.seq _ _=Qy v:=z;cases z'⟩
 keep:=λi h h' st k=>by
  obtain⟨kz,q⟩:=st;exact⟨k _ (by simp) _ kz,q.keep λc o c1 c2 g=>k c (five.mpr ⟨c1,by omega⟩) o g⟩
 item:=by
  intro X hP hw hK hc i pins s σ H E I hf st hg;subst hP hw hK;obtain⟨xs,x,ys,y,⟨hq1,hx⟩,hq2,hy⟩:=hg;obtain⟨kz,q⟩:=st;obtain⟨its1,r1,p1,u1⟩:=il I hq1;obtain⟨its2,r2,p2,u2⟩:=il I hq2;obtain⟨v1,e1,rv1⟩:=r1.get hx;obtain⟨v2,e2,rv2⟩:=r2.get hy
  have ap:∀{tt:Bool} {a:Nat} {zs:List V},pw X.K H a tt zs->a<n\/n+4<a:=λ{tt a zs} hq=>by
   refine OW λhh=> ?_
   exact tZ I hq (hf a (five.mpr ⟨by omega,by omega⟩)) rfl
  have hT:s.TypeIs (.ref (n+4)) "zip":=⟨_,kz,rfl⟩
  have lt:n+4<s.heap.objs.size:=KF kz;unfold pyNext;refine Kn (Pk (LM (name:=KL "__next__") hT OA (Mq OA hT RP (BU q kz p1 p2 (ap hq1) (ap hq2) (by simpa using e1) (by simpa using e2) λh1 Tp hsz hTp hz1 q1 hk=>Kz ⟨.ref Tp,rfl,?_⟩) (Rg _))))
  refine wpAny_letOwnedTupleGo_zip (s:={ s with heap:=h1 }) hz1 λh2 hz2 hs2=> ?_
  have kAll:∀b o,b∉ [n+4,n,n+1,n+2,n+3]->s.heap.get? b=some o->h2.get? b=some o:=λb o hb g=>by
   have hb':¬ (n<=b/\b<n+5):=λz=>hb (five.mpr z)
   exact hs2.extBut _ _ (fD (by omega)) (hk b o (fD (by omega)) (fD (by omega)) (fD (by omega)) (fD (by omega)) g)
  have q2:Zw h2 n a1 a2 t1 t2 (i+1):=q1.keep λc o c1 c2 g=>hs2.extBut _ _ (fD (by omega)) g
  have hTp2:RH h2 Tp v1 v2:=hs2.extBut _ _ (fD (by omega)) hTp
  have there:∀b∈ [n+4,n,n+1,n+2,n+3],∃o,h2.get? b=some o:=λb hb=>by
   simp only[Ky,Lw,or_false]at hb;rcases hb with rfl | rfl | rfl | rfl | rfl
   ·exact⟨_,hz2⟩
   ·obtain⟨o,e,_⟩:=q2.i1.obj;exact⟨o,e⟩
   ·obtain⟨o,e,_⟩:=q2.i2.obj;exact⟨o,e⟩
   ·exact⟨_,q2.pr⟩
   ·obtain⟨a,b,e⟩:=q2.ow;exact⟨_,e⟩
  have hn:H Tp=none:=I.hok.fresh hsz
  have new:ObjOk X.prog X.w (upd H Tp (.tup [x,y])) h2 Tp (.tup [x,y]):=⟨by show 2<=sizeLine;decide,[v1,v2],.cons rv1 (.cons rv2 .nil),⟨_,hTp2,rfl,_,rfl⟩⟩
  have I2:=I.JH (t':=s.toks) hf kAll there hsz new;refine⟨.ref Tp,_,I2,rfl,⟨Tp,x,y,rfl,hn,rfl,λzs hz=>by rw[u1 zs hz];exact hx,λzs hz=>by rw[u2 zs hz];exact hy⟩,⟨hz2,q2⟩,λb hb=> ?_⟩
  have hb':=five.mp hb
  have hbT:b≠Tp:=fD (by omega)
  rw[aF hbT];exact(hf b hb).1
 done:=by
  intro X hP hw hK hc i pins s σ H E I hf st hg;subst hP hw hK;obtain⟨xs,ys,hq1,hq2,hx⟩:=hg;obtain⟨kz,q⟩:=st;obtain⟨its1,r1,p1,u1⟩:=il I hq1;obtain⟨its2,r2,p2,u2⟩:=il I hq2
  have l1:=r1.length
  have l2:=r2.length
  have ap:∀{tt:Bool} {a:Nat} {zs:List V},pw X.K H a tt zs->a<n\/n+4<a:=λ{tt a zs} hq=>by
   refine OW λhh=> ?_
   exact tZ I hq (hf a (five.mpr ⟨by omega,by omega⟩)) rfl
  have hT:s.TypeIs (.ref (n+4)) "zip":=⟨_,kz,rfl⟩
  have hend:its1.toArray[i]? =none\/its2.toArray[i]? =none:=by
   rcases hx with h | h
   ·left;simp;omega
   ·right;simp;omega
  unfold pyNext;refine Kn (Pk (LM (name:=KL "__next__") hT OA (Mq OA hT RP (Er (I.ok.hd hc) q kz p1 p2 (ap hq1) (ap hq2) hend λh' e kp he=> ?_) (Rg _))))
  obtain⟨o,ho,hcl⟩:=he;refine Kn (RV (T:="StopIteration") (b:=true) ⟨o,ho,hcl⟩ isSubtype_stop (Kz ⟨rfl,I.Jx (t':=s.toks) hf λ(b:Nat) o hb g=> ?_⟩))
  have hb':¬ (n<=b/\b<n+5):=λz=>hb (five.mpr z)
  exact kp b o (fD (by omega)) (fD (by omega)) (fD (by omega)) (fD (by omega)) g
 self:=λ_ _ _ _ _ st h=>RY st.1 h
end L2
namespace L2
open PySem PySem.Spec PyProof.Rows
open Tr (bv aY fO)
section
variable {X:Cx}{elts:List Expr}{kk:Nat}{tpos:Pos}
def iZip (K:Km)(tl:TA):TI:=λσ H R=>tl σ H λvs H1=> ∃a1 a2 t1 t2,vs= [.ref a1,.ref a2]/\(∃xs,pw K H1 a1 t1 xs)/\(∃ys,pw K H1 a2 t2 ys)/\R (Itz K a1 a2 t1 t2) H1
theorem Fy {l m:Expr}{tl:TA}{p pos:Pos}(hg:Gl X "zip")(hm:X.mg "zip" =none)(hl:PA X [l,m] tl)(hst:bv [l,m] =true:=by rfl):PI X (.Tuple elts kk tpos) (.Call (.Name "zip" p) [l,m] [] pos) (iZip X.K tl):=by
 intro pins s σ H R I h;unfold bv at hst;rw[Ku]at hst;refine Call_ (fX I hg hm (show K9 "zip" =some (.type "zip")by decide+kernel) (Lq (cr (hl pos pins s σ H _ I h) λus s1 ⟨vs,H1,I1,r1,q1⟩=> ?_) (aY hst.1) (fO hst.2)))
 obtain⟨a1,a2,t1,t2,e,⟨xs,hq1⟩,⟨ys,hq2⟩,q⟩:=q1;subst e
 cases r1 with
 | cons w1 w2=>
  obtain⟨u2,rfl,w3⟩:=Vals.one w2;cases w1;obtain rfl:u2=KM a2:=w3;obtain⟨its1,_,p1,_⟩:=il I1 hq1;obtain⟨its2,_,p2,_⟩:=il I1 hq2;refine BV p1 p2 λh' g1 g2 g3 g4=> ?_
  refine RY (s:={ s1 with heap:=h' }) g2 ?_
  have I2:Inv X pins σ H1 { s1 with heap:=h' }:=I1.kept (t':=s1.toks) g4
  refine⟨s1.heap.objs.size+4,[s1.heap.objs.size+4,s1.heap.objs.size,s1.heap.objs.size+1,s1.heap.objs.size+2,s1.heap.objs.size+3],_,_,H1,rfl,I2,zp t1 t2 a1 a2 s1.heap.objs.size,⟨g2,g1⟩,λb hb=> ?_,q⟩
  have hb':=five.mp hb;exact I1.JG hb'.1 (I1.hok.fresh hb'.1)
end
end L2
namespace Tr
open PySem PySem.Spec PyProof.Rows L2
theorem B2 (l m:List T)(i:Nat):((l.zip m).map λp=>T.tup [p.1,p.2])[i]? =match l[i]?,m[i]? with
  | some a,some b=>some (T.tup [a,b])
  | _,_=>none:=by
 rw[KP]
 unfold List.zip;rw[List.getElem?_zipWith]
 cases l[i]? <;> cases m[i]? <;> rfl
def Wk (K:Km)(O:Ow)(H1:Hp)(l:List T)(v:V):Prop:=∃(aa:Addr) (tt:Bool) (ws:List V),v= .ref aa/\¬ O aa/\Reps K O H1 l ws/\pw K H1 aa tt ws/\(∀P Hc,SameO P H1 Hc->¬ P aa->pw K Hc aa tt ws)/\¬ Nw K H1 aa
theorem DN {K:Km}{O:Ow}{H1:Hp}{x:T}{l:List T}{v:V}(hl:x.items=some l)(rv:Rep K O H1 x v):Wk K O H1 l v:=by
 cases x with
 | tup m=>
  cases hl;obtain⟨aa,ws,e,n,qq,z⟩:=Rep.Jg.mp rv
  exact⟨aa,true,ws,e,n,z,(show SqT K H1 aa ws from SqT.of qq),(λP Hc hsm hn=>show SqT K Hc aa ws from SqT.of (hsm _ _ qq hn)),λw=>by rw[w.1]at qq;cases qq⟩
 | lst m=>
  cases hl;obtain⟨aa,ws,e,n,qq,z⟩:=Rep.Jh.mp rv
  exact⟨aa,false,ws,e,n,z,(show SqL K H1 aa ws from SqL.of qq),(λP Hc hsm hn=>show SqL K Hc aa ws from SqL.of (hsm _ _ qq hn)),λw=>by rw[w.1]at qq;cases qq⟩
 | scr m=>
  cases hl;unfold Rep at rv;obtain⟨aa,e,n,qq⟩:=rv
  exact⟨aa,false,_,e,n,Reps.ints,(show SqL K H1 aa _ from qq),(λP Hc hsm hn=>show SqL K Hc aa _ from Tr.SqL.keep hsm hn qq),(Tr.SqL.nn qq)⟩
 | _=>cases hl
section
variable {X:Cx}{a b:Expr}{fs:En->Rs (List T)}{p pos:Pos}
theorem Fo {elts:List Expr}{kk:Nat}{tpos:Pos}(hm:X.mg "zip" =none)(ha:qr X [a,b] fs)(hg:Gl X "zip":=by rfl)(hst:bv [a,b] =true:=by rfl) :
  yY X (.Tuple elts kk tpos) (.Call (.Name "zip" p) [a,b] [] pos) (iZ fs):=PI.imp (Fy hg hm ha hst) λσ H R hh_=>by
 obtain⟨Z,O,E,h⟩:=hh_;obtain⟨Z1,O1,E1,h1⟩:=fN E h;refine⟨Z1,O1,E1,Post.mono h1 λts H1 s1 q vs r=> ?_⟩
 obtain⟨t',r',s',E',q'⟩:=q vs r
 split at q'
 ·rename_i x0 y0
  obtain⟨v,vs1,rfl,rv,rb⟩:=Reps.me.mp r';obtain⟨v2,rfl,rv2⟩:=rb.one
  split at q'
  ·rename_i l m hl hm
   obtain⟨a1,t1,w1,e1,n1,z1,sq1,mv1,nn1⟩:=DN hl rv;obtain⟨a2,t2,w2,e2,n2,z2,sq2,mv2,nn2⟩:=DN hm rv2;refine⟨a1,a2,t1,t2,by rw[e1,e2],⟨w1,sq1⟩,⟨w2,sq2⟩,q' H1 (Same.refl H1) _ λP O' hP hO i Hc hsm htr=> ?_⟩
   have sc1:=mv1 P Hc hsm λy=>(hP a1 y).elim n1 nn1
   have sc2:=mv2 P Hc hsm λy=>(hP a2 y).elim n2 nn2
   refine⟨λhi=>⟨w1,w2,sc1,sc2,?_⟩,λt ht=> ?_⟩
   ·rw[Ks,Sh]at hi
    rw[<-z1.length,<-z2.length];omega
   ·rw[B2]at ht
    split at ht
    ·rename_i t1' t2' f1 f2
     cases ht;obtain⟨v0,g1,g2⟩:=z1.get f1;obtain⟨v3,g3,g4⟩:=z2.get f2;refine⟨⟨w1,v0,w2,v3,⟨sc1,g1⟩,sc2,g3⟩,λx Hc' y=> ?_⟩
     obtain⟨pp,vv,uu,e2,hpn,e3,hy,hy2⟩:=y
     have k1:=hy w1 sc1
     have k2:=hy2 w2 sc2;rw[g1]at k1;cases k1;rw[g3]at k2;cases k2;subst e2 e3;refine⟨aX hpn _,gB hpn (λzz=> ?_) (Reps.Jk (g2.move hP hO hsm) (Reps.Jk (g4.move hP hO hsm) Reps.Jn))⟩
     obtain⟨o,w⟩:=htr pp zz;rw[hpn]at w;cases w
    ·cases ht
  ·exact q'.elim
 ·exact q'.elim
end
end Tr
namespace Tr
open PySem
def A4 (i:Nat)(l:List T)(Z:En):List T->Rs Fl
 | [.int n,t] =>if 0<=n/\n<2 ^ 62/\l.length<sizeLine then .ok (.nx (Z.set i (.ow (.lst (l.take n.toNat++t::l.drop n.toNat)))))else .bad
 | _=> .bad
def vV (i:Nat)(f:En->Rs (List T))(Z:En):Rs Fl:=match Z[i]? with
 | some (.ow (.lst l))=>f Z >>= A4 i l Z
 | _=> .bad
def c0 (g:List T->Rs T)(_:En):Rs T:=match g []with
 | .ok t=> .ok t
 | _=> .bad
end Tr
namespace L2
open PySem PySem.Spec PyProof.Rows
section
variable {X:Cx}
def rIns:V->List V->Hp->VK->Prop:=λx vs H Q=> ∃l xs i y,x= .ref l/\vs= [.int i,y]/\H l=some (.lst xs)/\0<=i/\i<2 ^ 63/\xs.length<sizeLine/\Q .non (upd H l (.lst (xs.take i.toNat++y::xs.drop i.toNat)))
theorem yr:MtM X "list.insert" rIns:=by
 intro pins s σ H x vs v us Q I rx rv h;obtain⟨l,xs,i,y,rfl,rfl,hH,h1,h2,hz,q⟩:=h;cases rx;obtain⟨u,w,rfl,ru,rw'⟩:=rv.two;obtain⟨t,rfl⟩:=ru;obtain⟨z,its,n,r,hl,e⟩:=I.Jt hH
 have hf:Builtin.List.listFitsIndex i=true:=fitsIndex_both (Int.le_trans (by decide) h1) h2
 refine Nh F.slot_list_insert ⟨_,e,rfl⟩ F.entry_list_insert (F.args_list_insert_3 _ _ _) (Pw l its.toArray n i t w (by simp[hf]) (by rw[KH];omega)) ⟨e,?_⟩
 refine⟨.non,_,I.J0 (its':=its.take i.toNat++w::its.drop i.toNat) hH e ?_ ((r.take _).append (.cons rw' (r.drop _))) ?_,rfl,q⟩
 ·have hk:(if i<0 then(i+((its.toArray.size:Nat):Int)).toNat else min i.toNat its.toArray.size)=min i.toNat its.length:=by rw[if_neg (by omega),KH]
  show(have k:=if i<0 then(i+((its.toArray.size:Nat):Int)).toNat else min i.toNat its.toArray.size;(its.toArray.extract 0 k).push w++its.toArray.extract k)=_
  rw[hk]
  apply Array.ext'
  simp
  by_cases hi:i.toNat<=its.length
  ·rw[Si hi]
   rw[L6 (l:=its.drop i.toNat) (by simp)]
  ·rw[RQ (by omega),L6 (l:=its) (i:=i.toNat) (by omega),L6 (l:=its) (KB _)]
   simp;omega
 ·simp only[Kw,Kx,LU,Mp]
  omega
end
end L2
namespace Tr
open PySem PySem.Spec PyProof.Rows L2
section
variable {X:Cx}{a b:Expr}{pos p2 p3:Pos}{x:Str}
theorem Fg (i:Nat){apos cpos:Pos}{fa:En->Rs (List T)}(ha:qr X [a,b] fa)(hN:X.N[i]? =some x:=by rfl)(hv:rj X.env.scope x:=by first | exact LN rfl | exact Lz (LN rfl) | exact Lz (Lz rfl))(hn:bq a=true:=by rfl)(hn2:bq b=true:=by rfl)
  (hbase:LV (.Name x p2) "insert" X.env (eval (.Name x p2) X.env)=eval (.Name x p2) X.env:=by rfl) (hline:(apos.endLine == cpos.line)=true:=by rfl)
  (hd:gm x:=by decide) (hcd:(x == ("__classdict__" : Str))=false:=by decide)
  (hsw:LF (.Call (.Attribute (.Name x p2) "insert" apos) [a,b] [] cpos) none pos.line X.env=pure false:=by rfl):pz X (.Expr (.Call (.Attribute (.Name x p2) "insert" apos) [a,b] [] cpos) pos) (vV i fa):=by
 have h1:KG [a,b] X.env=(false,eval a X.env)::KG [b] X.env:=aY hn
 have h2:KG [b] X.env=(false,eval b X.env)::KG [] X.env:=aY hn2;refine PS.imp (nr (uC LY PySem.F.slot_list_insert PySem.F.type_list_insert yr (g9 hN hv hd hcd) ha hbase ?_ hline h1 ?_) hsw) λD σ H ⟨Z,B,M,E,h⟩=> ?_
 ·rw[h1,h2];rfl
 ·rw[h2];rfl
 unfold vV at h
 split at h
 ·rename_i l hl
  obtain⟨v0,e1,b,vs,rfl,hM,e3,e4⟩:=E.env.own i _ hl;refine⟨.ref b,e1,.inl ⟨rfl,vs,SqL.of e3⟩,Z,OO B M,E.o,?_⟩
  cases q:fa Z with
  | bad=>rw[q]at h;exact h.elim
  | err c=>rw[q]at h;exact PostF.xa h
  | ok ts=>
   rw[q,aE]at h;unfold A4 at h
   split at h
   ·rename_i n t
    split at h
    ·rename_i hz
     intro H1 s1 ws r;obtain⟨w1,ws1,rfl,r1,r2⟩:=Reps.me.mp r;obtain⟨w2,ws2,rfl,r3,r4⟩:=Reps.me.mp r2;obtain rfl:=Reps.Je.mp r4
     have e3':=s1 _ _ e3
     have r1':w1= .int n:=by unfold Rep at r1;exact r1
     refine⟨b,vs,n,w2,rfl,by rw[r1'],e3',hz.1,Int.lt_trans hz.2.1 (by decide),by rw[<-e4.length];exact hz.2.2,?_⟩
     obtain⟨g1,g2⟩:=(E.same s1).putL (l':=l.take n.toNat++t::l.drop n.toNat) (vs':=vs.take n.toNat++w2::vs.drop n.toNat) hl e1 hM (((e4.same s1).take _).append (Reps.Jk r3 ((e4.same s1).drop _)));exact h σ _ M (λc o e nb=>g2 c o (s1 _ _ e) nb) g1 λc z=> .inl z
    ·exact h.elim
   ·exact h.elim
 ·exact h.elim
theorem q_c0 {k:Nat}{f:Addr}{fd:LL}{ps:List Str}{g:List T->Rs T}{p:Pos}(F:zi X.prog X.w X.K X.mg X.base k f fd ps 0 g)(hr:Room k X.A)(hm:X.mg x=some (.ref f))(hk:Me X.K (.ref f)=true)(hb:Binds X.K fd ps [])
  (hg:Gl X x:=by rfl) (hdb:gm x:=by decide):cP X (.Call (.Name x p) [] [] pos) (c0 g):=by
 intro pins s σ H Q I ⟨Z,O,E,hq⟩;unfold c0 at hq
 cases q2:g []with
 | bad=>rw[q2]at hq;exact hq.elim
 | err c=>rw[q2]at hq;exact hq.elim
 | ok t=>
  rw[q2]at hq;refine Ak (E:=E0) F.h hr hg hm hk hb .nil w8 hdb pins s σ H Q I ?_
  refine⟨[],O,Reps.Jn,E.mtb,rfl,?_⟩
  rw[q2];exact λv H' s2 r=>hq H' s2 v r
end
structure QE (X:Cx)(e:Expr)(f:En->Rs T):Prop where
 h:cP X e f
structure QA (X:Cx)(e:List Expr)(f:En->Rs (List T)):Prop where
 h:qr X e f
structure QT (X:Cx)(e:Expr)(f:En->Rs Bool):Prop where
 h:vD X e f
structure QW (X:Cx)(e:Expr)(f:En->Rs Bool):Prop where
 h:Ep X e f
structure QS (X:Cx)(e:Stmt)(f:En->Rs Fl):Prop where
 h:pz X e f
structure BM (X:Cx)(e:List Stmt)(f:En->Rs Fl):Prop where
 h:mq X e f
structure QG (X:Cx)(e:Expr)(f:T->En->Rs En):Prop where
 h:BS X e f
structure Ja (X:Cx)(e:List Expr)(f:List T->En->Rs En):Prop where
 h:BO X e f
structure QI (X:Cx)(t e:Expr)(f:En->Rs (List T)):Prop where
 h:yY X t e f
structure QO (X:Cx)(e:Option Expr)(f:En->Rs (Option Int)):Prop where
 h:IJ X e f
structure IZ (X:Cx)(e:List Expr)(f:En->Rs Bool):Prop where
 h:zh X e (zu X f)
theorem ad {X:Cx}(i:Nat){x:Str}{pos:Pos}(hN:(Cx.N X)[i]? =some x:=by rfl)(hv:rj (MY (Cx.env X)) x:=by first | exact LN rfl | exact Lz (LN rfl) | exact Lz (Lz rfl))(hd:gm x:=by decide)(hcd:(x == KL "__classdict__")=false:=by decide):QE X (K8 x pos) (vr i):=
 ⟨Hl (i:=i) (hN:=hN) (hv:=hv) (hd:=hd) (hcd:=hcd)⟩
theorem ah {X:Cx}{i:Int}{j:Nat}{pos:Pos}:QE X (Pf (Const.int i) j pos) (cn (T.int i)):=
 ⟨Hw ⟩
theorem eM {X:Cx}{i:Bool}{j:Nat}{pos:Pos}:QE X (Pf (Const.bool i) j pos) (cn (T.bl i)):=
 ⟨q_bl ⟩
theorem aZ {X:Cx}{j:Nat}{pos:Pos}:QE X (Pf Const.none j pos) (cn T.non):=
 ⟨Hs ⟩
theorem eK {X:Cx}{i:Str}{j:Nat}{pos:Pos}:QE X (Pf (Const.str i) j pos) (cn (T.str i)):=
 ⟨Hn ⟩
theorem B1 {X:Cx}{x:Str}{i:Int}{u:Kq}{pos:Pos}(hm:Cx.mg X x=some u)(r:L2.RelV (V.int i) u)(hg:Gl X x:=by rfl)(hd:gm x:=by decide):QE X (K8 x pos) (cn (T.int i)):=
 ⟨Ft (hm:=hm) (r:=r) (hg:=hg) (hd:=hd)⟩
theorem af {X:Cx}:QA X [] ag:=
 ⟨Fs ⟩
theorem ae {X:Cx}{e:Expr}{es:List Expr}{f:En->Rs T}{g:En->Rs (List T)}(he:QE X e f)(hr:QA X es g)(hn:bq e=true:=by rfl):QA X (e::es) (ac f g):=
 ⟨qa_c (he:=he.h) (hr:=hr.h) (hn:=hn)⟩
theorem aO {X:Cx}{es:List Expr}{x1:Nat}{pos:Pos}{f:En->Rs (List T)}(h:QA X es f):QE X (Expr.Tuple es x1 pos) (aL f):=
 ⟨Hm (h:=h.h)⟩
theorem dy {X:Cx}{es:List Expr}{pos:Pos}{f:En->Rs (List T)}(h:QA X es f):QE X (Sj es pos) (dq f):=
 ⟨Hu (h:=h.h)⟩
theorem au {X:Cx}{a b:Expr}{fa fb:En->Rs T}{pos:Pos}{op:Operator}{g:T->T->Rs T}(ho:OpT X (Mh op) g)(ha:QE X a fa)(hb:QE X b fb):QE X (Expr.BinOp a op b pos) (o2 g fa fb):=
 ⟨HA (ho:=ho) (ha:=ha.h) (hb:=hb.h)⟩
theorem bZ {X:Cx}{a b:Expr}{fa fb:En->Rs T}{pos:Pos}{op:SD}{g:T->T->Rs T}(ho:OpT X (Ls op) g)(ha:QE X a fa)(hb:QE X b fb)(hm:Ng op b=false:=by rfl):QE X (RA a [op] [b] pos) (o2 g fa fb):=
 ⟨Hz (ho:=ho) (ha:=ha.h) (hb:=hb.h) (hm:=hm)⟩
theorem nL {X:Cx}{a:Expr}{fa:En->Rs T}{pos:Pos}(ha:QE X a fa):QE X (RB UnaryOp.USub a pos) (o1 oP fa):=
 ⟨Ht (ha:=ha.h)⟩
theorem tR {X:Cx}{a b c:Expr}{fa fb fc:En->Rs T}{pos:Pos}{op op':SD}{g g':T->T->Rs T}(ho:OpT X (Ls op) g)(ho':OpT X (Ls op') g')(ha:QE X a fa)(hb:QE X b fb)(hc:QE X c fc)(hm:lastMarks [op,op'] [b,c] =false:=by with_unfolding_all rfl):QE X (RA a [op,op'] [b,c] pos) (ch g g' fa fb fc):=
 ⟨CF (ho:=ho) (ho':=ho') (ha:=ha.h) (hb:=hb.h) (hc:=hc.h) (hm:=hm)⟩
theorem cF {X:Cx}{e:Expr}{f:En->Rs T}(h:QE X e f)(he:∀(whole:Sem Kq),PySem.isTrue e (Cx.env X) whole=(do let v <-whole;standAt (Expr.pos e);holding [v] (truthy v)):=by intro _;rfl):QT X e (tb f):=
 ⟨E8 (h:=h.h) (he:=he)⟩
theorem ba {X:Cx}{a b:Expr}{fa fb:En->Rs T}{pos:Pos}{op:SD}{g:T->T->Rs T}(ho:OpT X (Ls op) g)(ha:QE X a fa)(hb:QE X b fb)(hm:Ng op b=false:=by rfl):QT X (RA a [op] [b] pos) (tb (o2 g fa fb)):=
 ⟨Fa (ho:=ho) (ha:=ha.h) (hb:=hb.h) (hm:=hm)⟩
theorem tN {X:Cx}{a:Expr}{pos:Pos}{f:En->Rs Bool}(ha:QT X a f):QW X (MM P5 [a] pos) f:=
 ⟨Cn (ha:=ha.h)⟩
theorem iw {X:Cx}{a:Expr}{pos:Pos}{f:En->Rs Bool}(ha:QT X a f):QW X (MM QK [a] pos) f:=
 ⟨E6 (ha:=ha.h)⟩
theorem wH {X:Cx}{a b:Expr}{pos:Pos}{f g:En->Rs Bool}{c8:List Expr}(ha:QT X a f)(hb:QW X (MM P5 (b::c8) pos) g):QW X (MM P5 (a::b::c8) pos) (qm f g):=
 ⟨E7 (ha:=ha.h) (hb:=hb.h)⟩
theorem kD {X:Cx}{a b:Expr}{pos:Pos}{f g:En->Rs Bool}{c8:List Expr}(ha:QT X a f)(hb:QW X (MM QK (b::c8) pos) g):QW X (MM QK (a::b::c8) pos) (lR f g):=
 ⟨Hg (ha:=ha.h) (hb:=hb.h)⟩
theorem kR {X:Cx}{f:En->Rs Bool}{e:Expr}(h:QW X e f):QT X e f:=
 ⟨qt_w (h:=h.h)⟩
theorem gg {X:Cx}{a:Expr}{pos:Pos}{f:En->Rs Bool}(ha:QT X a f):QT X (RB UnaryOp.Not a pos) (dX f):=
 ⟨E9 (ha:=ha.h)⟩
theorem cG {X:Cx}{a:Expr}{fa:En->Rs T}{pos:Pos}{op:BoolOp}(h:QE X a fa):QE X (MM op [a] pos) fa:=
 ⟨Hq (h:=h.h)⟩
theorem cT {X:Cx}{a b:Expr}{fa fb:En->Rs T}{pos:Pos}{c8:List Expr}(ha:QE X a fa)(hb:QE X (MM P5 (b::c8) pos) fb):QE X (MM P5 (a::b::c8) pos) (bW fa fb):=
 ⟨HB (ha:=ha.h) (hb:=hb.h)⟩
theorem nJ {X:Cx}{a b:Expr}{fa fb:En->Rs T}{pos:Pos}{c8:List Expr}(ha:QE X a fa)(hb:QE X (MM QK (b::c8) pos) fb):QE X (MM QK (a::b::c8) pos) (qI fa fb):=
 ⟨q_or (ha:=ha.h) (hb:=hb.h)⟩
theorem nK {X:Cx}{a:Expr}{fa:En->Rs T}{pos:Pos}(ha:QE X a fa):QE X (RB UnaryOp.Not a pos) (o1 sy fa):=
 ⟨Hr (ha:=ha.h)⟩
theorem mw {X:Cx}{a b c:Expr}{fa fb:En->Rs T}{pos:Pos}{f:En->Rs Bool}(hc:QT X c f)(ha:QE X a fa)(hb:QE X b fb):QE X (Expr.IfExp c a b pos) (sV f fa fb):=
 ⟨q_if (hc:=hc.h) (ha:=ha.h) (hb:=hb.h)⟩
theorem aH {X:Cx}{a b:Expr}{fa fb:En->Rs T}{pos:Pos}(ha:QE X a fa)(hb:QE X b fb)(hs:jV b:=by intro _ _;rfl):QE X (Mf a b pos) (o2 aW fa fb):=
 ⟨q_ix (ha:=ha.h) (hb:=hb.h) (hs:=hs)⟩
theorem je {X:Cx}:QO X none pN:=
 ⟨Cv ⟩
theorem jd {X:Cx}{a:Expr}{fa:En->Rs T}(ha:QE X a fa):QO X (some a) (pS fa):=
 ⟨Cu (ha:=ha.h)⟩
theorem jf {X:Cx}{a:Expr}{fa:En->Rs T}{pos:Pos}{lo hi:Option Expr}{p2:Pos}{fl fu:En->Rs (Option Int)}(ha:QE X a fa)(hl:QO X lo fl)(hu:QO X hi fu):QE X (Mf a (Expr.Slice lo hi none p2) pos) (sl fa fl fu):=
 ⟨CD (ha:=ha.h) (hl:=hl.h) (hu:=hu.h)⟩
theorem dA {X:Cx}{e:Expr}{es:List Expr}{fs:En->Rs (List T)}{pos p:Pos}{x:Str}{id:String}{g:List T->Rs T}(hc:CallT X (Nb id) g)(hm:Cx.mg X x=none)(hv:K9 x=some (Nb id))(ha:QA X (e::es) fs)(hn:bv (e::es)=true:=by rfl)(hg:Gl X x:=by rfl)(h1:x≠KL "__name__":=by decide)(h2:gm x:=by decide):QE X (Mw (K8 x p) (e::es) [] pos) (cl g fs):=
 ⟨q_cB (hc:=hc) (hm:=hm) (hv:=hv) (ha:=ha.h) (hn:=hn) (hg:=hg) (h1:=h1) (h2:=h2)⟩
theorem qu {X:Cx}{e:Expr}{es:List Expr}{fs:En->Rs (List T)}{pos p:Pos}{x:Str}{Ty:String}{g:List T->Rs T}(hc:CallT X (MD Ty) g)(hm:Cx.mg X x=none)(hv:K9 x=some (MD Ty))(ha:QA X (e::es) fs)(hn:bv (e::es)=true:=by rfl)(hg:Gl X x:=by rfl)(h1:x≠KL "__name__":=by decide)(h2:gm x:=by decide):QE X (Mw (K8 x p) (e::es) [] pos) (cl g fs):=
 ⟨q_cT (hc:=hc) (hm:=hm) (hv:=hv) (ha:=ha.h) (hn:=hn) (hg:=hg) (h1:=h1) (h2:=h2)⟩
theorem zq_c {X:Cx}{e:Expr}{es:List Expr}{fs:En->Rs (List T)}{pos p:Pos}{x:Str}{n k:Nat}{f:Addr}{fd:LL}{ps:List Str}{g:List T->Rs T}(F:zi (Cx.prog X) (Cx.w X) (Cx.K X) (Cx.mg X) (Cx.base X) k f fd ps n g)(hr:Room k (Cx.A X))(hm:Cx.mg X x=some (KM f))(hk:W.keepIn (Cx.K X) (KM f)=true)(hb:L2.Binds (Cx.K X) fd ps [])(hl:∀(Z:En) (ts:List T),fs Z=Rs.ok ts->Lx ts=n)(ha:QA X (e::es) fs)(hps:Lx ps=n:=by rfl)(hn:bv (e::es)=true:=by rfl)(hg:Gl X x:=by rfl)(h2:gm x:=by decide):QE X (Mw (K8 x p) (e::es) [] pos) (cl g fs):=
 ⟨q_c (F:=F) (hr:=hr) (hm:=hm) (hk:=hk) (hb:=hb) (hl:=hl) (ha:=ha.h) (hps:=hps) (hn:=hn) (hg:=hg) (h2:=h2)⟩
theorem zk {X:Cx}{a:Expr}{fa:En->Rs T}{pos p p2:Pos}{tn:Str}{Ty:String}(hm:Cx.mg X (KL "isinstance")=none)(hmt:Cx.mg X tn=none)(hv:K9 tn=some (MD Ty))(ha:QE X a fa)(hn:bq a=true:=by rfl)(hg:Gl X (KL "isinstance"):=by rfl)(hgt:Gl X tn:=by rfl)(h1:tn≠KL "__name__":=by decide)(h2:gm tn:=by decide):QE X (Mw (K8 (KL "isinstance") p) [a,K8 tn p2] [] pos) (o1 (De Ty) fa):=
 ⟨q_is (hm:=hm) (hmt:=hmt) (hv:=hv) (ha:=ha.h) (hn:=hn) (hg:=hg) (hgt:=hgt) (h1:=h1) (h2:=h2)⟩
theorem ai {X:Cx}{pos:Pos}{x:Str}(i:Nat)(hN:Lh (Cx.N X))(hi:(Cx.N X)[i]? =some x:=by rfl)(hx:L2.Loc (MY (Cx.env X)) x:=by first | exact LN rfl | exact Lz rfl)(hf:Cx.fn X x=true\/NX x (Qn (MY (Cx.env X)))=some NameKind.local:=by first | exact .inl rfl | exact .inr rfl | assumption):QG X (K8 x pos) (gN i):=
 ⟨CB (i:=i) (hN:=hN) (hi:=hi) (hx:=hx) (hf:=hf)⟩
theorem di {X:Cx}:Ja X [] kQ:=
 ⟨CA ⟩
theorem aN {X:Cx}{e:Expr}{es:List Expr}{g:T->En->Rs En}{gs:List T->En->Rs En}(h1:QG X e g)(h2:Ja X es gs)(hs:R0 (λx=>Prod.snd x) (Mc (e::es) (Cx.env X))=assign e (Cx.env X)::R0 (λx=>Prod.snd x) (Mc es (Cx.env X)):=by rfl):Ja X (e::es) (dY g gs):=
 ⟨zT (h1:=h1.h) (h2:=h2.h) (hs:=hs)⟩
theorem d8 {X:Cx}{es:List Expr}{pos:Pos}{k n:Nat}{gs:List T->En->Rs En}(hc:Cx.calm X=true)(h:Ja X es gs)(hn:Lx (Mc es (Cx.env X))=n:=by rfl)(hst:List.findIdx? (λx=>Prod.fst x) (Mc es (Cx.env X))=none:=by rfl):QG X (Expr.Tuple es k pos) (gT n gs):=
 ⟨Fr (hc:=hc) (h:=h.h) (hn:=hn) (hst:=hst)⟩
theorem bJ {X:Cx}{a:Expr}{fs:En->Rs (List T)}{pos p:Pos}{tg:Expr}(hm:Cx.mg X (KL "range")=none)(ha:QA X [a] fs)(hg:Gl X (KL "range"):=by rfl)(hs:KG [a] (Cx.env X)= [(false,eval a (Cx.env X))]:=by rfl):QI X tg (Mw (K8 (KL "range") p) [a] [] pos) (iR fs):=
 ⟨yf (hm:=hm) (ha:=ha.h) (hg:=hg) (hs:=hs)⟩
theorem vF {X:Cx}{a b:Expr}{fs:En->Rs (List T)}{pos p:Pos}{tg:Expr}(hm:Cx.mg X (KL "range")=none)(ha:QA X [a,b] fs)(hg:Gl X (KL "range"):=by rfl)(hs:KG [a,b] (Cx.env X)= [(false,eval a (Cx.env X)),(false,eval b (Cx.env X))]:=by rfl)(hs2:KG [b] (Cx.env X)= [(false,eval b (Cx.env X))]:=by rfl):QI X tg (Mw (K8 (KL "range") p) [a,b] [] pos) (iR fs):=
 ⟨ye (hm:=hm) (ha:=ha.h) (hg:=hg) (hs:=hs) (hs2:=hs2)⟩
theorem bY {X:Cx}:IZ X [] bT:=
 ⟨Cy ⟩
theorem tO {X:Cx}{c:Expr}{f:En->Rs Bool}(h:QT X c f):IZ X [c] f:=
 ⟨Cw (h:=h.h)⟩
theorem f9 {X:Cx}{pos:Pos}{elt tg iter:Expr}{ifs:List Expr}{scope:NM}{N':List Str}{src:List (Option Nat)}{fi:En->Rs (List T)}{tgt:T->En->Rs En}{fc:En->Rs Bool}{fe:En->Rs T}(hc:Cx.calm X=true)(S:LcScope X scope N' src)(hi:QI X tg iter fi)(block:∀(cl:List (Str×Addr)) (C:Addr) (s₀:Kt) (H₀:Hp) (fp:List Addr),QG (cj X scope cl N' C s₀ H₀ fp) tg tgt/\IZ (cj X scope cl N' C s₀ H₀ fp) ifs fc/\QE (cj X scope cl N' C s₀ H₀ fp) elt fe)(hs:∀(x:Kq),Li iter (Cx.env X) x=pure x:=by intro _;rfl):QE X (QL elt [{ target:=tg,iter:=iter,ifs:=ifs,is_async:=0 }] scope pos) (eG fi src tgt fc fe):=
 ⟨q_lc (hc:=hc) (S:=S) (hi:=hi.h) (block:=λa1 a2 a3 a4 a5=>⟨(block a1 a2 a3 a4 a5).1.h,(block a1 a2 a3 a4 a5).2.1.h,(block a1 a2 a3 a4 a5).2.2.h⟩) (hs:=hs)⟩
theorem bi {X:Cx}:BM X [] sN:=
 ⟨Ff ⟩
theorem aj {X:Cx}{st:Stmt}{c8:List Stmt}{F G:En->Rs Fl}(h1:QS X st F)(h2:BM X c8 G):BM X (st::c8) (aw F G):=
 ⟨Ct (h1:=h1.h) (h2:=h2.h)⟩
theorem ao {X:Cx}{st:Stmt}{F:En->Rs Fl}(h:QS X st F):BM X [st] F:=
 ⟨Fe (h:=h.h)⟩
theorem ay {X:Cx}{a:Expr}{fa:En->Rs T}{pos:Pos}(ha:QE X a fa):QS X (Stmt.Return (some a) pos) (aI fa):=
 ⟨Fc (ha:=ha.h)⟩
theorem bH {X:Cx}{c:Expr}{pos:Pos}{f:En->Rs Bool}{A B:List Stmt}{F G:En->Rs Fl}(hc:QT X c f)(ha:BM X A F)(hb:BM X B G):QS X (Stmt.If c A B pos) (d9 f F G):=
 ⟨Hj (hc:=hc.h) (ha:=ha.h) (hb:=hb.h)⟩
theorem vE {X:Cx}{pos:Pos}{elt tg iter:Expr}{ifs:List Expr}{scope:NM}{spos py:Pos}{N':List Str}{src:List (Option Nat)}{fi:En->Rs (List T)}{tgt:T->En->Rs En}{fc:En->Rs Bool}{fe:En->Rs T}(i:Nat){y:Str}(hc:Cx.calm X=true)(S:LcScope X scope N' src)(hi:QI X tg iter fi)(block:∀(cl:List (Str×Addr)) (C:Addr) (s₀:Kt) (H₀:Hp) (fp:List Addr),QG (cj X scope cl N' C s₀ H₀ fp) tg tgt/\IZ (cj X scope cl N' C s₀ H₀ fp) ifs fc/\QE (cj X scope cl N' C s₀ H₀ fp) elt fe)(hN:Lh (Cx.N X))(hiy:(Cx.N X)[i]? =some y:=by rfl)(hy:L2.Loc (MY (Cx.env X)) y:=by first | exact LN rfl | exact Lz rfl)(hsw:LF (QL elt [{ target:=tg,iter:=iter,ifs:=ifs,is_async:=0 }] scope pos) (some (K8 y py)) (Nv spos) (Cx.env X)=pure true:=by rfl)(hf:Cx.fn X y=true\/NX y (Qn (MY (Cx.env X)))=some NameKind.local:=by first | exact .inl rfl | exact .inr rfl | assumption)(hs:∀(x:Kq),Li iter (Cx.env X) x=pure x:=by intro _;rfl):QS X (OB [K8 y py] (QL elt [{ target:=tg,iter:=iter,ifs:=ifs,is_async:=0 }] scope pos) spos) (cq (eG fi src tgt fc fe) (gN i)):=
 ⟨Hi (i:=i) (hc:=hc) (S:=S) (hi:=hi.h) (block:=λa1 a2 a3 a4 a5=>⟨(block a1 a2 a3 a4 a5).1.h,(block a1 a2 a3 a4 a5).2.1.h,(block a1 a2 a3 a4 a5).2.2.h⟩) (hN:=hN) (hiy:=hiy) (hy:=hy) (hsw:=hsw) (hf:=hf) (hs:=hs)⟩
theorem aD {X:Cx}{a:Expr}{fa:En->Rs T}{pos:Pos}{tg:Expr}{g:T->En->Rs En}(ha:QE X a fa)(hg:QG X tg g)(hs:QQ [tg] a (Nv pos) (Cx.env X)=pure false:=by rfl)(hw:QR [tg] a (Cx.env X)=pure none:=by rfl)(h1:R0 (λx=>Prod.snd x) (Mc [tg] (Cx.env X))= [assign tg (Cx.env X)]:=by rfl):QS X (OB [tg] a pos) (cq fa g):=
 ⟨Fk (ha:=ha.h) (hg:=hg.h) (hs:=hs) (hw:=hw) (h1:=h1)⟩
theorem dW {X:Cx}{a:Expr}{fa:En->Rs T}{pos:Pos}(ha:QE X a fa)(hs:LF a none (Nv pos) (Cx.env X)=pure false:=by rfl):QS X (Stmt.Expr a pos) (tM fa):=
 ⟨Cr (ha:=ha.h) (hs:=hs)⟩
theorem bF {X:Cx}{pos:Pos}{tg iter:Expr}{body:List Stmt}{fi:En->Rs (List T)}{g:T->En->Rs En}{F:En->Rs Fl}(hc:Cx.calm X=true)(hi:QI X tg iter fi)(hg:QG (Cx.nox X) tg g)(hb:BM (Cx.nox X) body F)(hs:∀(x:Kq),Li iter (Cx.env X) x=pure x:=by intro _;rfl):QS X (Stmt.For tg iter body [] pos) (dD fi g F):=
 ⟨Fh (hc:=hc) (hi:=hi.h) (hg:=hg.h) (hb:=hb.h) (hs:=hs)⟩
theorem xX {X:Cx}{pos:Pos}{c:Expr}{body:List Stmt}{fc:En->Rs Bool}{F:En->Rs Fl}(n:Nat)(hc:QT (Cx.nox X) c fc)(hb:BM (Cx.nox X) body F):QS X (Stmt.While c body [] pos) (b8 fc F n):=
 ⟨zQ (n:=n) (hc:=hc.h) (hb:=hb.h)⟩
theorem bS {X:Cx}{a:Expr}{fa:En->Rs T}{tg:Expr}(ha:QE X a fa):QI X tg a (iS fa):=
 ⟨Fq (ha:=ha.h)⟩
theorem fM {X:Cx}{a:Expr}{fs:En->Rs (List T)}{p pos:Pos}{elts:List Expr}{kk:Nat}{tpos:Pos}(hm:Cx.mg X (KL "enumerate")=none)(ha:QA X [a] fs)(hg:Gl X (KL "enumerate"):=by rfl)(hs:KG [a] (Cx.env X)= [(false,eval a (Cx.env X))]:=by rfl):QI X (Expr.Tuple elts kk tpos) (Mw (K8 (KL "enumerate") p) [a] [] pos) (iE fs):=
 ⟨Cz (hm:=hm) (ha:=ha.h) (hg:=hg) (hs:=hs)⟩
theorem fL {X:Cx}{es:List Expr}{pos p2 p3:Pos}{x:Str}(i:Nat){f:En->Rs (List T)}(hN:Lh (Cx.N X))(ha:QA X es f)(hi:(Cx.N X)[i]? =some x:=by rfl)(hx:L2.Loc (MY (Cx.env X)) x:=by first | exact LN rfl | exact Lz rfl)(hs:LF (Sj es p2) (some (K8 x p3)) (Nv pos) (Cx.env X)=pure false:=by rfl)(hf:Cx.fn X x=true\/NX x (Qn (MY (Cx.env X)))=some NameKind.local:=by first | exact .inl rfl | exact .inr rfl | assumption):QS X (OB [K8 x p3] (Sj es p2) pos) (gP i f):=
 ⟨Cp (i:=i) (hN:=hN) (ha:=ha.h) (hi:=hi) (hx:=hx) (hs:=hs) (hf:=hf)⟩
theorem gi {X:Cx}{a:Expr}{fa:En->Rs T}{pos p2:Pos}{x:Str}(i:Nat){apos cpos:Pos}(ha:QE X a fa)(hN:(Cx.N X)[i]? =some x:=by rfl)(hv:rj (MY (Cx.env X)) x:=by first | exact LN rfl | exact Lz (LN rfl) | exact Lz (Lz rfl))(hn:bq a=true:=by rfl)(hbase:LV (K8 x p2) (KL "append") (Cx.env X) (eval (K8 x p2) (Cx.env X))=eval (K8 x p2) (Cx.env X):=by rfl)(hline:(Qo apos == Nv cpos)=true:=by rfl)(hd:gm x:=by decide)(hcd:(x == KL "__classdict__")=false:=by decide)(hsw:LF (Mw (Nq (K8 x p2) (KL "append") apos) [a] [] cpos) none (Nv pos) (Cx.env X)=pure false:=by rfl):QS X (Stmt.Expr (Mw (Nq (K8 x p2) (KL "append") apos) [a] [] cpos) pos) (gL i fa):=
 ⟨Fm (i:=i) (ha:=ha.h) (hN:=hN) (hv:=hv) (hn:=hn) (hbase:=hbase) (hline:=hline) (hd:=hd) (hcd:=hcd) (hsw:=hsw)⟩
theorem ro {X:Cx}{a:Expr}{fa:En->Rs T}{pos p2:Pos}{x:Str}(i:Nat){apos cpos:Pos}(ha:QE X a fa)(hN:(Cx.N X)[i]? =some x:=by rfl)(hv:rj (MY (Cx.env X)) x:=by first | exact LN rfl | exact Lz (LN rfl) | exact Lz (Lz rfl))(hn:bq a=true:=by rfl)(hbase:LV (K8 x p2) (KL "extend") (Cx.env X) (eval (K8 x p2) (Cx.env X))=eval (K8 x p2) (Cx.env X):=by rfl)(hline:(Qo apos == Nv cpos)=true:=by rfl)(hd:gm x:=by decide)(hcd:(x == KL "__classdict__")=false:=by decide)(hsw:LF (Mw (Nq (K8 x p2) (KL "extend") apos) [a] [] cpos) none (Nv pos) (Cx.env X)=pure false:=by rfl):QS X (Stmt.Expr (Mw (Nq (K8 x p2) (KL "extend") apos) [a] [] cpos) pos) (n8 i fa):=
 ⟨Fi (i:=i) (ha:=ha.h) (hN:=hN) (hv:=hv) (hn:=hn) (hbase:=hbase) (hline:=hline) (hd:=hd) (hcd:=hcd) (hsw:=hsw)⟩
theorem gh {X:Cx}(i:Nat){st:Stmt}{F:En->Rs Fl}(h:QS X st F):QS X st (k8 i F):=
 ⟨Fj (i:=i) (h:=h.h)⟩
theorem iW {X:Cx}(i:Nat){e:Expr}{f:En->Rs T}(h:QE X e f):QE X e (ln i f):=
 ⟨q_ln (i:=i) (h:=h.h)⟩
theorem Et {X:Cx}(i:Nat){e:Expr}{f:En->Rs Bool}(h:QT X e f):QT X e (F3 i f):=
 ⟨Hh (i:=i) (h:=h.h)⟩
theorem Ew {X:Cx}{n:Nat}{es args:List Expr}{a0 i0:Expr}{p1 p2 pos:Pos}{as:List Addr}{gs:List (List T->Rs T)}{f0:En->Rs T}{fs:En->Rs (List T)}(S:Sels X n es as gs)(h0:QE X i0 f0)(hl:∀(Z:En) (ts:List T),fs Z=Rs.ok ts->Lx ts=n)(ha:QA X (a0::args) fs)(hn:bv (a0::args)=true:=by rfl)(hs:jV i0:=by intro _ _;rfl)(hz:Lx es<=100:=by decide):QE X (Mw (Mf (Sj es p1) i0 p2) (a0::args) [] pos) (vP gs f0 fs):=
 ⟨Ho (S:=S) (h0:=h0.h) (hl:=hl) (ha:=ha.h) (hn:=hn) (hs:=hs) (hz:=hz)⟩
theorem Eu {X:Cx}{pos:Pos}:QS X (Stmt.Continue pos) D2:=
 ⟨Hk ⟩
theorem lM {X:Cx}{c:Str}{msg:Str}{C:Addr}{bm:List Kq}{np p1 cpos pos:Pos}{j:Nat}(O:OX X.K C bm)(hm:X.mg c=some (.ref C))(hc:X.calm=true:=by rfl)(hg:Gl X c:=by rfl)(hd:gm c:=by decide) :
  QS X (.Raise (some (.Call (.Name c np) [.Constant (.str msg) j p1] [] cpos)) none pos) (zG c):=⟨zR O.own hc hm hg hd⟩
theorem BW {X:Cx}{body suite:List Stmt}{b0:Stmt}{F:En->Rs Fl}{h:Str->Rs T}{ce n:Str}{CE:Addr}{bmE:List Kq}(i:Nat){np hpos pos:Pos}(hN:X.N.Nodup)(hm:X.mg ce=some (.ref CE))(OE:OX X.K CE bmE)
  (hb:∀pn xe,BM { X with pn:=pn,xe:=xe } body F) (hs:tH X i (b0::suite) CE h) (hst:X.stack=X.env::X.outer:=by rfl) (hfe:X.env.frame=some X.env.locals:=by rfl) (hcl:∀x c,X.env.cells.lookup x≠some c) (hex:X.ex= []:=by rfl)
  (hi:X.N[i]? =some n:=by rfl) (hloc:X.env.scope.names.lookup n=some .local:=by rfl) (hg:Gl X ce:=by rfl) (hd:gm ce:=by decide) :
  QS X (.Try body [.ExceptHandler (some (.Name ce np)) (some n) (b0::suite) hpos] [] [] pos) (ui F h):=⟨Fb hst hfe hcl hex hN hi hloc hm OE (λpn xe=>(hb pn xe).h) hs hg hd⟩
theorem wJ {P:KS}{w:LA}{K:Km}{mg:Str->Option Kq}{base:Heap}{x qual:Str}{st:Stmt}{f:Addr}{fd:LL}{N ps:List Str}{k n:Nat}{F:En->Rs Fl}(Fn:L2.Fun K x qual st f fd)(S:aA N ps (ak st))(hn:ps.length=n)
  (hbody:∀(cdv:Kq) (A:La) (outer:List Env) (s:Kt) (H:Hp) (E:XK),Room k (A.deeper (envOfC qual (ak st) s.heap.objs.size f cdv)) →
   ∀xe,BM ((lJ CX0 P w K mg base N qual (ak st) f cdv A outer s H E).Ji xe) (de st) F):zi P w K mg base (k+1) f fd ps n (val n N.length F):=Gs Fn S hn λcdv A outer s H E hr xe=>(hbody cdv A outer s H E hr xe).h
theorem cg {X:Cx}{a b:Expr}{fa fb:En->Rs T}{pos:Pos}(hu:Ob (Cx.A X)+1<cLine)(ha:QE X a fa)(hb:QE X b fb)(hs:yZ b:=by intro _ _;rfl):QE X (Mf a b pos) (o2 bu fa fb):=
 ⟨Hy (hu:=hu) (ha:=ha.h) (hb:=hb.h) (hs:=hs)⟩
theorem wI {X:Cx}{a b:Expr}{fa fb:En->Rs T}{apos cpos:Pos}(hu:Ob (Cx.A X)+1<cLine)(ha:QE X a fa)(hb:QE X b fb)(hn:bq b=true:=by rfl)(hbase:LV a (KL "get") (Cx.env X) (eval a (Cx.env X))=eval a (Cx.env X):=by rfl)(hline:(Qo apos == Nv cpos)=true:=by rfl):QE X (Mw (Nq a (KL "get") apos) [b] [] cpos) (oD jb fa fb):=
 ⟨Fu (hu:=hu) (ha:=ha.h) (hb:=hb.h) (hn:=hn) (hbase:=hbase) (hline:=hline)⟩
theorem xZ {X:Cx}{a b:Expr}{fa fb:En->Rs T}{apos cpos:Pos}(hu:Ob (Cx.A X)+61<cLine)(ha:QE X a fa)(hb:QE X b fb)(hn:bq b=true:=by rfl)(hbase:LV a (KL "index") (Cx.env X) (eval a (Cx.env X))=eval a (Cx.env X):=by rfl)(hline:(Qo apos == Nv cpos)=true:=by rfl):QE X (Mw (Nq a (KL "index") apos) [b] [] cpos) (oL gU fa fb):=
 ⟨zU (hu:=hu) (ha:=ha.h) (hb:=hb.h) (hn:=hn) (hbase:=hbase) (hline:=hline)⟩
theorem zj {X:Cx}{e:Expr}{f:En->Rs T}{x:Str}{p pos p2 p3:Pos}(i:Nat)(hu:Ob (Cx.A X)+8<cLine)(hc:Cx.calm X=true)(hm:Cx.mg X (KL "dict")=none)(hN:Lh (Cx.N X))(ha:QE X e f)(hst:bq e=true:=by rfl)(hg:Gl X (KL "dict"):=by rfl)(hi:(Cx.N X)[i]? =some x:=by rfl)(hx:L2.Loc (MY (Cx.env X)) x:=by first | exact LN rfl | exact Lz rfl)(hs:LF (Mw (K8 (KL "dict") p) [e] [] p2) (some (K8 x p3)) (Nv pos) (Cx.env X)=pure false:=by rfl)(hf:Cx.fn X x=true\/NX x (Qn (MY (Cx.env X)))=some NameKind.local:=by first | exact .inl rfl | exact .inr rfl | assumption):QS X (OB [K8 x p3] (Mw (K8 (KL "dict") p) [e] [] p2) pos) (qE i f):=
 ⟨Cq (i:=i) (hu:=hu) (hc:=hc) (hm:=hm) (hN:=hN) (ha:=ha.h) (hst:=hst) (hg:=hg) (hi:=hi) (hx:=hx) (hs:=hs) (hf:=hf)⟩
theorem BX {X:Cx}{b c:Expr}{fb fc:En->Rs T}{pos p2 p3:Pos}{x:Str}(i:Nat)(hu:Ob (Cx.A X)+1<cLine)(hb:QE X b fb)(hc:QE X c fc)(hN:(Cx.N X)[i]? =some x:=by rfl)(hv:rj (MY (Cx.env X)) x:=by first | exact LN rfl | exact Lz (LN rfl) | exact Lz (Lz rfl))(hd:gm x:=by decide)(hcd:(x == KL "__classdict__")=false:=by decide)(hs:LF c (some (Mf (K8 x p2) b p3)) (Nv pos) (Cx.env X)=pure false:=by rfl):QS X (OB [Mf (K8 x p2) b p3] c pos) (yd i fb fc):=
 ⟨Fd (i:=i) (hu:=hu) (hb:=hb.h) (hc:=hc.h) (hN:=hN) (hv:=hv) (hd:=hd) (hcd:=hcd) (hs:=hs)⟩
theorem nI {X:Cx}{a b c:Expr}{fa fb fc:En->Rs T}{pos p2 p3 p4:Pos}{x:Str}(i:Nat)(hu:Ob (Cx.A X)+1<cLine)(ha:QE X a fa)(hb:QE X b fb)(hc:QE X c fc)(hsl:yZ a:=by intro _ _;rfl)(hN:(Cx.N X)[i]? =some x:=by rfl)(hv:rj (MY (Cx.env X)) x:=by first | exact LN rfl | exact Lz (LN rfl) | exact Lz (Lz rfl))(hd:gm x:=by decide)(hcd:(x == KL "__classdict__")=false:=by decide)(hs:LF c (some (Mf (Mf (K8 x p2) a p3) b p4)) (Nv pos) (Cx.env X)=pure false:=by rfl):QS X (OB [Mf (Mf (K8 x p2) a p3) b p4] c pos) (i6 i fa fb fc):=
 ⟨Co (i:=i) (hu:=hu) (ha:=ha.h) (hb:=hb.h) (hc:=hc.h) (hsl:=hsl) (hN:=hN) (hv:=hv) (hd:=hd) (hcd:=hcd) (hs:=hs)⟩
end Tr
namespace Tr
open PySem PySem.Spec L2
theorem LcScope.byN {X:Cx}{scope:NM}{N N':List Str}{src:List (Option Nat)}(hN:X.N=N)(hk:scope.kind= .function)(h:F6 scope.names N scope.names N' src=true)
  (hf:(scope.names.all λy=>y.2 != .free||(X.env.scope.names.lookup y.1 == some .cell||X.env.scope.names.lookup y.1 == some .free))=true):LcScope X scope N' src:=by
 have z:=LcScope.by (X:={ X with env:={ X.env with scope:=scope } }) hN rfl hk h
 refine⟨hk,z.cel,z.loc,z.len,z.from_,λx hx=> ?_⟩
 have:=KY.mp hf _ hx;simp only[bne_self_eq_false,Pe,Sd]at this
 show X.env.scope.names.lookup x=_\/X.env.scope.names.lookup x=_
 rcases this with z | z
 ·exact .inl (by simpa using z)
 ·exact .inr (by simpa using z)
end Tr
namespace Tr
open PySem PySem.Spec PyProof.Rows L2 PySem.W
def Bd (h:Heap):Frag:=(Lu h.objs.size).filterMap λa=>(h.get? a).map λo=>(a,o)
theorem Bc (h:Heap):(Bd h).In h:=by
 have key:∀(l:List Nat) (a:Addr) (o:Obj),(l.filterMap λa=>(h.get? a).map λo=>(a,o)).lookup a=some o->h.get? a=some o:=by
  intro l
  induction l with
  | nil=>intro a o e;cases e
  | cons b r ih=>
   intro a o e
   cases hb:h.get? b with
   | none=>rw[List.filterMap_cons_none (by rw[hb];rfl)]at e;exact ih a o e
   | some ob=>
    rw[List.filterMap_cons_some (b:=(b,ob)) (by rw[hb];rfl),LG]at e
    cases q:a == b with
    | true=>rw[q]at e;cases e;rw[eq_of_beq q];exact hb
    | false=>rw[q]at e;exact ih a o e
 exact λa o e=>key _ a o e
def obF (K:Frag)(n:Str):Option (Str×Str×Sq×FuncBody×NM×Addr×List (Str×Addr)×Kq×Addr×Bool×Bool):=match nsIn K Ln n with
 | some (some (.ref f))=>match K.lookup f with
  | some ⟨_,_,.func d,_⟩=>some (d.name,d.qualname,d.params,d.body,d.scope,d.globals,d.closure,d.defaults,d.builtins,codeIn K d.code n,keepIn K (.ref f))
  | _=>none
 | _=>none
def exF (n:Str)(st:Stmt):Option (Str×Str×Sq×FuncBody×NM×Addr×List (Str×Addr)×Kq×Addr×Bool×Bool):=
 some (n,n,iI st,.stmts (de st),ak st,Ln,[],.none,P6,true,true)
theorem Eh {K:Frag}{n:Str}{st:Stmt}(e:obF K n=exF n st):∃f fd,nsIn K Ln n=some (some (.ref f))/\L2.Fun K n n st f fd:=by
 unfold obF at e
 split at e
 ·rename_i f hf
  split at e
  ·rename_i oc od d sl hl
   cases d;unfold exF at e;simp only[LC.injEq,Qw]at e;obtain⟨h1,h2,h3,h4,h5,h6,h7,h8,h9,h10,h11⟩:=e;subst h1 h2 h3 h4 h5 h6 h7 h8 h9;exact⟨f,_,hf,Go hl h10 h11⟩
  ·cases e
 ·cases e
def HP (K:Frag)(N:Addr)(n:Str):Bool:=match nsIn K N n with | some none=>true | _=>false
theorem oC {K:Frag}{N:Addr}{n:Str}(e:HP K N n=true):nsIn K N n=some none:=by
 unfold HP at e
 split at e
 ·assumption
 ·cases e
def IV (K:Frag)(n:Str):Option Int:=match nsIn K Ln n with | some (some (.int i _))=>some i | _=>none
theorem FT {K:Frag}{n:Str}{i:Int}(e:IV K n=some i):∃t,nsIn K Ln n=some (some (.int i t)):=by
 unfold IV at e
 split at e
 ·rename_i i' t h;cases e;exact⟨t,h⟩
 ·cases e
def wK:List Kq->Bool
 | [.type a,.type b,.type c,.type d] =>a == "ValueError" &&b == "Exception" &&c == "BaseException" &&d == "object"
 | _=>false
theorem nN:∀{l:List Kq},wK l=true->l=ng:=by
 intro l e;unfold wK at e
 split at e
 ·simp only[Ku,beq_iff_eq]at e
  obtain⟨⟨⟨h1,h2⟩,h3⟩,h4⟩:=e;subst h1 h2 h3 h4;rfl
 ·cases e
def zn (D:Option Addr)(m:List Kq):Bool:=match D with
 | none=>wK m
 | some D=>match m with
  | .ref E::m=>E == D&&wK m
  | _=>false
def C0 (K:Frag)(D:Option Addr)(n:Str):Option Addr:=match nsIn K Ln n with
 | some (some (.ref C))=>match K.lookup C with
  | some ⟨.type t,_,.cls c,⟨[_,_,_,_,some (.builtin b),_]⟩⟩=>match c.mro,K.lookup c.ns with
   | .ref E::m,some ⟨_,_,.dict es _,_⟩=>
    if (t == "type" &&b == "ValueError.__new__" && !c.hasDel&&(es.toList.all λe=>zy e.key)&&calmNames.all (HP K c.ns)&&E == C&&zn D m)=true then some C else none
   | _,_=>none
  | _=>none
 | _=>none
theorem hG {K:Frag}{D:Option Addr}{n:Str}{C:Addr}(e:C0 K D n=some C):nsIn K Ln n=some (some (.ref C)) ∧
  ∃nm q N bs bm hd sn su ab co dd k0 k1 k2 k3 k5,zn D bm=true/\K.lookup C=some (LQ nm q C N bs bm hd sn su ab co dd k0 k1 k2 k3 k5 "ValueError.__new__")/\∀h:Heap,K.In h->∃mN,h.Ns N mN/\∀n∈calmNames,mN n=none:=by
 unfold C0 at e
 split at e
 ·rename_i C' hC
  split at e
  ·rename_i t dd c k0 k1 k2 k3 b k5 hl
   split at e
   ·rename_i E m ob oe es ep oz hm hN
    split at e
    ·rename_i hq
     cases e;simp only[Ku,beq_iff_eq,Rh]at hq;obtain⟨⟨⟨⟨⟨⟨h1,h2⟩,h3⟩,h4⟩,h5⟩,h6⟩,h7⟩:=hq
     have z:=KY.mp h5;refine⟨hC,c.name,c.qualname,c.ns,c.bases,m,c.hasDict,c.slotNames,c.subclasses,c.abstract,c.collection,dd,k0,k1,k2,k3,k5,h7,?_,HQ hN h4 (oC (z _ (.head _))) (oC (z _ (.tail _ (.head _)))) (oC (z _ (.tail _ (.tail _ (.head _))))) (oC (z _ (.tail _ (.tail _ (.tail _ (.head _))))))⟩
     rw[hl];cases c;simp only at hm h3;subst h1 h2 hm h3 h6
     rfl
    ·cases e
   ·cases e
  ·cases e
 ·cases e
theorem ox0 {K:Frag}{C:Addr}{n:Str}(e:C0 K none n=some C):OX K C ng:=by
 obtain⟨_,_,_,_,_,_,_,_,_,_,_,_,_,_,_,_,_,hu,hl,hn⟩:=hG e;cases nN hu;exact CU hl hn
theorem GO {K:Frag}{C D:Addr}{n m:Str}(e:C0 K (some D) n=some C)(d:C0 K none m=some D):OX K C (.ref D::ng):=by
 obtain⟨_,_,_,_,_,bm,_,_,_,_,_,_,_,_,_,_,_,hu,hl,hn⟩:=hG e;obtain⟨_,_,_,_,_,_,_,_,_,_,_,_,_,_,_,_,_,hu',hl',hn'⟩:=hG d;cases nN hu';unfold zn at hu;simp only at hu
 split at hu
 ·rw[Ku]at hu
  cases eq_of_beq hu.1;cases nN hu.2;exact An hl hn hl' hn'
 ·cases hu
def wC {α:Type}:List (Option α)->Option (List α)
 | [] =>some []
 | none::_=>none
 | some a::r=>match wC r with | some l=>some (a::l) | none=>none
theorem gt {α:Type}{o:Option α}{r:List (Option α)}{l:List α}(e:wC (o::r)=some l):∃a l',o=some a/\l=a::l'/\wC r=some l':=by
 cases o with
 | none=>cases e
 | some a=>
  unfold wC at e
  split at e
  ·rename_i l' h;cases e;exact⟨a,l',rfl,rfl,h⟩
  ·cases e
theorem BJ {α:Type}{l:List α}(e:wC ([]:List (Option α))=some l):l= []:=by cases e;rfl
def sA:List Addr->Bool
 | [] =>true
 | a::r=>(r.all λb=> !(a == b))&&sA r
theorem qJ:∀{l:List Addr},sA l=true->l.Nodup
 | [],_=> .nil
 | a::r,h=>by
  unfold sA at h;rw[Ku]at h;refine K0.mpr ⟨λhm=> ?_,qJ h.2⟩
  have:=KY.mp h.1 a hm
  simp at this
def IU (K:Frag):List Str->Bool
 | [] =>true
 | m::es=>match C0 K none m with
  | some D=>match wC (es.map (C0 K (some D)))with | some l=>sA (l++ [D]) | none=>false
  | none=>false
theorem FQ {K:Frag}{m:Str}{es:List Str}(e:IU K (m::es)=true):∃D l,C0 K none m=some D/\wC (es.map (C0 K (some D)))=some l/\(l++ [D]).Nodup:=by
 rw[IU]at e
 split at e
 ·rename_i D hD
  split at e
  ·rename_i l hl;exact⟨D,l,hD,hl,qJ e⟩
  ·cases e
 ·cases e
structure zd where
 tab:List (Str×Nat)
 zs:List Str
 cs:List (Str×Int)
 es:List Str
def pZ (S:zd)(K:Frag):=(S.tab.map (λp=>obF K p.1),S.zs.all (HP K Ln),S.cs.map (λc=>IV K c.1),IU K S.es)
def pF (S:zd)(top:Nat->Stmt):=(S.tab.map (λp=>exF p.1 (top p.2)),true,S.cs.map (λc=>some c.2),true)
def hookK (S:zd)(top:Nat->Stmt):Hook:=
 ⟨_,λs=>pZ S (Bd s.heap),λ_=>pF S top,λ_ h=> ∃K:Frag,K.In h/\pZ S K=pF S top,λ_ s e=>⟨_,Bc s.heap,e⟩,λ_ _ _ ⟨K,a,b⟩ k=>⟨K,a.keeps k,b⟩⟩
section
variable {S:zd}{top:Nat->Stmt}{K:Frag}{h:Heap}{mg:Str->Option Kq}
theorem sM {α β:Type}{f g:α->β}:∀{l:List α} (j:Nat) {a:α},l.map f=l.map g->l[j]? =some a->f a=g a
 | [],_,_,_,q=>by cases q
 | b::l,0,a,e,q=>by cases q;exact(List.cons.inj e).1
 | b::l,j+1,a,e,q=>sM (l:=l) j (List.cons.inj e).2 q
theorem cf (j:Nat){n:Str}{i:Nat}{ps:List Str}(X:K.In h)(G:h.Ns Ln mg)(e:pZ S K=pF S top)(q:S.tab[j]? =some (n,i))
  (hb:∀(kV doc pm:Kq) (an:Option Addr) (cdv ct:Kq) (us:List Kq),us.length=ps.length->bindArgs (fnOf n n (iI (top i)) (de (top i)) (ak (top i)) .none kV doc pm an cdv ct) ⟨us,[]⟩=pure (ps.zip us)) :
  ∃f fd,Fn K mg n (top i) ps f fd:=by
 obtain⟨f,fd,h1,h2⟩:=Eh (sM j (congrArg (·.1) e) q)
 exact⟨f,fd,h2,h2.binds hb,mg_of X G h1⟩
theorem Il (j:Nat){n:Str}{i:Nat}{x:Str}{fa:Addr}(X:K.In h)(G:h.Ns Ln mg)(e:pZ S K=pF S top)(q:S.tab[j]? =some (n,i))(hfa:mg n=some (.ref fa))
  (hb:∀(kV doc pm:Kq) (an:Option Addr) (cdv ct u:Kq),bindArgs (fnOf n n (iI (top i)) (de (top i)) (ak (top i)) .none kV doc pm an cdv ct) ⟨[u],[]⟩=pure [(x,u)]) :
  ∃fd,Fn K mg n (top i) [x] fa fd/\∀(s:Kt) (u:Kq),Qr s fd ⟨[u],[]⟩ [(x,u)]:=by
 obtain⟨f,fd,h1,h2⟩:=Eh (sM j (congrArg (·.1) e) q)
 have z:=hfa.symm.trans (mg_of X G h1);cases z
 have hh:=h2;obtain⟨oc,od,kV,doc,pm,an,cdv,ct,osl,rfl,lk,hcd⟩:=hh.ex;exact⟨_,⟨h2,.all λus hl=>match us,hl with | [u],_=>hb kV doc pm an cdv ct u,mg_of X G h1⟩,λs u=> .of_eq (hb kV doc pm an cdv ct u)⟩
theorem fZ (j:Nat){n:Str}(X:K.In h)(G:h.Ns Ln mg)(e:pZ S K=pF S top)(q:S.zs[j]? =some n):mg n=none:=
 mg_none_of X G (oC (KY.mp (congrArg (·.2.1) e:S.zs.all (HP K Ln)=true) n (Mr q)))
theorem qQ (j:Nat){n:Str}{i:Int}(X:K.In h)(G:h.Ns Ln mg)(e:pZ S K=pF S top)(q:S.cs[j]? =some (n,i)):∃t,mg n=some (.int i t):=by
 obtain⟨t,ht⟩:=FT (sM (f:=λc=>IV K c.1) (g:=λc=>some c.2) j (congrArg (·.2.2.1) e) q)
 exact⟨t,mg_of X G ht⟩
theorem Io (e:pZ S K=pF S top):IU K S.es=true:=congrArg (·.2.2.2) e
end
theorem left_of {p q:KS}{loose:List Str}{Xt:Kt->Bool}{α:Type}{Yf:Kt->α}{Ya:LA->α}{N:Nat}{g0:Bool}
  (e:opening p=plainProg p.main.scope.names) (hN:Nat.ble 600 N=true) (f:∀s,fenceModules? p s=some s)
  (h:∀(w:LA) (os:Ro),(topFrom treeTable p w N ⟨boot_heap w.params,⟨[]⟩,boot_drawn,boot_toks,os⟩).map (λs=>(openSeen q loose (Sy p.main.body) Xt g0 s,Yf s))=some (openGood q loose,Ya w)) :
  LeftO p q loose Xt Yf Ya N g0:=λw=>by
 obtain⟨⟨h0,gs,d,k,os⟩,e1,e2⟩:=MA.mp (boot_open e hN f w);simp only[Qw]at e2;obtain⟨rfl,rfl,rfl,rfl⟩:=e2;unfold openEnds;rw[e1];exact h w os
theorem walk_k {l:OpenLaw}{n k:Nat}{q:KS}{loose:List Str}{XP:(Str->Option Kq)->Heap->Prop}{d:DefRec}{S:zd}{top:Nat->Stmt}{CX:BT}{sp:Frag->Sp}{x:Str}
  (hn:l.most=some n) (hn2:n<=sizeLine) (hdf:d.params.defaults= []) (hr:Room k callerA)
  (F:∀(w:LA) (K:Frag) (mg:Str->Option Kq) (fa:Addr) (h:Heap),K.In h->pZ S K=pF S top->h.Ns Ln mg->mg d.name=some (.ref fa) →
   ∃fd:LL,(∀(s:Kt) (u:Kq),Qr s fd ⟨[u],[]⟩ [(x,u)])/\∀base:Heap,K.In base->base.Ns Ln mg->qt l.prog w K mg base CX k fa fd [x] (sp K))
  (hsp:∀(K:Frag) (H:Hp) (a:Addr) (ns:List Int),ns.length<=n->GM H->SqL K H a (ns.map V.int)->sp K [.ref a] H (λv _=>v= .bl true) λ_ _ _=>False)
  (hCX:∀(H:Hp) (s:Kt) (e:Kq) (s':Kt),CX [] H s (λ_ _ _=>False) e s'->False) :
  WalkO q loose XP (hookK S top).says l.row.toRowW d [] (λf vs=>PySem.call f vs):=by
 refine Att.attach_call hn hdf λw s₀ s₁ mg mb fa o pm cd doc a vs ns G Y ho hd hcd hmg hobj hints hlen hg=> ?_
 obtain⟨K,KX,e⟩:=Y;obtain⟨fd,hb,hF⟩:=F w K mg fa _ KX e G.T.g hmg;exact AO KX G.T.g G.T.b G.T.builtins G.T.nolimit hg hobj hints (K6 hlen hn2) hr hF hb (λH hO hS=>hsp K H a ns hlen hO hS) λH e s'=>hCX H s₁ e s'
structure Cl (P:KS)(w:LA)(K:Frag)(mg:Str->Option Kq)(base:Heap)(k:Nat)(x:Str)(n:Nat)(m:List T->Rs T):Prop where
 ex:∃f fd ps,mg x=some (.ref f)/\keepIn K (.ref f)=true/\Binds K fd ps []/\ps.length=n/\zi P w K mg base k f fd ps n m
abbrev gf (K:Frag)(mg:Str->Option Kq)(x:Str)(st:Stmt)(ps:List Str):Prop:=∃f fd,Fn K mg x st ps f fd
section
variable {P:KS}{w:LA}{K:Frag}{mg:Str->Option Kq}{base:Heap}{x:Str}{st:Stmt}{N ps:List Str}{k n:Nat}{F:En->Rs Fl}
theorem bj (H:gf K mg x st ps)(S:aA N ps (ak st))(hn:ps.length=n)
  (hbody:∀(f:Addr) (cdv:Kq) (A:La) (outer:List Env) (s:Kt) (H:Hp) (E:XK),Room k (A.deeper (envOfC x (ak st) s.heap.objs.size f cdv)) →
   ∀xe,BM ((lJ CX0 P w K mg base N x (ak st) f cdv A outer s H E).Ji xe) (de st) F):Cl P w K mg base (k+1) x n (val n N.length F):=by
 obtain⟨f,fd,h⟩:=H;exact⟨f,fd,ps,h.mg,h.fn.kp,h.bd,hn,wJ h.fn S hn (hbody f)⟩
end
section
variable {X:Cx}{e:Expr}{es:List Expr}{fs:En->Rs (List T)}{pos p:Pos}{x:Str}{n k k':Nat}{g:List T->Rs T}
theorem aK (c:Cl X.prog X.w X.K X.mg X.base k x n g)(hr:Room k' X.A)(ha:QA X (e::es) fs)(hk:k<=k':=by decide)(hl:∀(Z:En) (ts:List T),fs Z= .ok ts->ts.length=n:=by repeat first | exact Em | refine El ?_)
  (hn:bv (e::es)=true:=by rfl) (hg:Gl X x:=by rfl) (h2:gm x:=by decide):QE X (.Call (.Name x p) (e::es) [] pos) (cl g fs):=by
 obtain⟨f,fd,ps,h1,h3,h4,h5,h6⟩:=c.ex;exact zq_c h6 (hr.mono hk) h1 h3 h4 hl ha h5 hn hg h2
theorem tQ {i:Int}(h:∃t,X.mg x=some (.int i t))(hg:Gl X x:=by rfl)(hd:gm x:=by decide):QE X (.Name x pos) (cn (.int i)):=by
 obtain⟨t,h⟩:=h;exact B1 h ⟨_,rfl⟩ hg hd
abbrev DG (X:Cx)(n:Nat)(es:List Expr)(gs:List (List T->Rs T)):Prop:=∃as,Sels X n es as gs
theorem selN:DG X n [] []:=⟨_,seln⟩
theorem Cd {gs:List (List T->Rs T)}(c:Cl X.prog X.w X.K X.mg X.base k x n g)(hr:Room k' X.A)(h:DG X n es gs)(hk:k<=k':=by decide)(hg:Gl X x:=by rfl)(hd:gm x:=by decide):DG X n (.Name x p::es) (g::gs):=by
 obtain⟨f,fd,ps,h1,h3,h4,h5,h6⟩:=c.ex;obtain⟨as,h⟩:=h;exact⟨_,selc h6 (hr.mono hk) h1 h3 h4 h h5 hg hd⟩
theorem B0 {args:List Expr}{a0 i0:Expr}{p1 p2:Pos}{gs:List (List T->Rs T)}{f0:En->Rs T}(S:DG X n es gs)(h0:QE X i0 f0)(ha:QA X (a0::args) fs)(hl:∀(Z:En) (ts:List T),fs Z= .ok ts->ts.length=n:=by repeat first | exact Em | refine El ?_)
  (hn:bv (a0::args)=true:=by rfl) (hs:jV i0:=by intro _ _;rfl) (hz:Lx es<=100:=by decide):QE X (.Call (.Subscript (.List es p1) i0 p2) (a0::args) [] pos) (vP gs f0 fs):=by
 obtain⟨as,S⟩:=S;exact Ew S h0 hl ha hn hs hz
end
end Tr
namespace Tr
open PySem PySem.Spec PyProof.Rows L2
theorem PairsAt.snoc {H:Hp}{b kb:Addr}{p:List Key×V}(h1:H b=some (.tup [.ref kb,p.2]))(h2:H kb=some (.tup (p.1.map kV))):∀{xs:List V} {ps:List (List Key×V)},PairsAt H xs ps->PairsAt H (xs++ [.ref b]) (ps++ [p])
 | [],_,h=>by
  unfold PairsAt at h;subst h
  exact⟨b,kb,p,[],rfl,rfl,h1,h2,rfl⟩
 | x::xs,_,⟨b',kb',p',r,e1,e2,e3,e4,e5⟩=>by
  subst e1;exact⟨b',kb',p',r++ [p],rfl,e2,e3,e4,e5.snoc h1 h2⟩
theorem PairsAt.move {H H':Hp}{D:Addr}{zs:List V}(hD:H D=some (.lst zs))(s:SameO (λa=>a=D) H H'):∀{xs:List V} {ps:List (List Key×V)},PairsAt H xs ps->PairsAt H' xs ps
 | [],_,h=>h
 | x::xs,_,⟨b,kb,p,r,e1,e2,e3,e4,e5⟩=>⟨b,kb,p,r,e1,e2,s _ _ e3 (lm e3 hD (λz=>nomatch z)),s _ _ e4 (lm e4 hD (λz=>nomatch z)),e5.move hD s⟩
theorem PairsAt.len {H:Hp}:∀{xs:List V} {ps:List (List Key×V)},PairsAt H xs ps->xs.length=ps.length
 | [],_,h=>by unfold PairsAt at h;subst h;rfl
 | x::xs,_,⟨b,kb,p,r,e1,e2,e3,e4,e5⟩=>by subst e1;rw[Kx,Kx,e5.len]
section
variable {X:Cx}
theorem u4 {src:List (Option Nat)}{wi:TI}{te:TE}{σ:L2.St}{H:Hp}{Q:VK}{Z:En}{O:Ow}{l:List T}{kk:List (List Key)}(E:EnvO X.K O H Z σ)(hwi:∀R,(∀H1,Same H H1->∀J,Jd X.K O H1 l J->R J H1)->wi σ H R)(hz:l.length<=1000)(hk:l.map keyOf=kk.map some)(hs:0<src.length)
  (Acc:Hp->Addr->List V->Prop) (a0:∀H1 D,Same H H1->Nw X.K H1 D->Acc (upd H1 D (.lst [])) D [])
  (am:∀H1 H2 D vs ys,Acc H1 D vs->H1 D=some (.lst ys)->SameO (λa=>a=D) H1 H2->Acc H2 D vs)
  (hte:∀t∈l,∀σ' H' O' D vs ys (Q':VK),EnvM X.K O' noM H' ((bL src Z).set 0 (.va t)) σ'->Acc H' D vs->H' D=some (.lst ys)->(∀v H'',Same H' H''->Acc H'' D (vs++ [v])->Q' v H'')->te σ' H' Q')
  (hq:∀H1 D ys ps H',Same H H1->Nw X.K H1 D->Same H1 H'->H' D=some (.lst ys)->PairsAt H' ys ps->ps.map (·.1)=kk->Acc H' D (ps.map (·.2))->Q (.ref D) H') :
  EF X.K wi src (zv X (gN 0)) tW (B7 (gO (nQ 0) (gO te rB))) σ H Q:=by
 refine hwi _ λH1 s1 J hJ D hD hK=> ?_
 have nD:Nw X.K H1 D:=⟨hD,hK⟩
 have E1:=E.same s1
 have lk:l.length=kk.length:=by have:=congrArg Lx hk;rwa [Ks,Ks]at this
 have hlen:0<(bL src Z).length:=by unfold bL;rw[Ks];exact hs
 let O':Ow:=λa=>O a\/a=D
 have subO:∀a,O' a->O a\/Nw X.K H1 a:=λa z=>z.elim .inl λw=> .inr (w▸nD)
 refine⟨λi m σ' ys H'=>m=l.length - i/\i<=l.length/\ys.length=i/\H' D=some (.lst ys)/\SameO (λa=>a=D) (upd H1 D (.lst [])) H' ∧
  ∃s0 ps,EnvM X.K O' noM H' ((bL src Z).set 0 s0) σ'/\PairsAt H' ys ps/\ps.map (·.1)=kk.take i/\Acc H' D (ps.map (·.2)),⟨l.length,?_⟩,?_⟩
 ·have sN:Same H1 (upd H1 D (.lst [])):=aX hD _
  refine⟨by omega,LP _,rfl,aG,λb o e _=>e,(bL src Z)[0],[],?_,rfl,rfl,a0 H1 D s1 nD⟩
  rw[PP]
  exact(u5 E1 src).move (P:=λa=>a=D) (λa z=> .inr (z▸nD)) subO (λb o e _=>sN b o e) λa z=>by
   rcases z with z | z
   ·exact(E1.mtb a z).same sN
   ·rw[z];exact .inl ⟨_,aG⟩
 ·rintro i m σ' ys H' ⟨rfl,hi',hyl,hDl,hsm,s0,ps,E',hp,hkk,hacc⟩
  refine⟨hDl,?_⟩
  have sm1:SameO (λa=>a=D) H1 H':=λb o e nb=>hsm b o (by rw[aF nb];exact e) nb
  have it:=hJ (λa=>a=D) O' (λa z=> .inr (z▸nD)) subO i H' sm1 (λa z=>(E'.trk a z).some)
  by_cases hlt:i<l.length
  ·refine .inr ?_
   obtain⟨go,yl⟩:=it.2 l[i] (by simp)
   refine⟨go,by rw[hyl,Mx];omega,λxx Hc y=> ?_⟩
   obtain⟨sc,rx⟩:=yl xx Hc y
   have Ec:=E'.same sc
   have eg:gN 0 l[i] ((bL src Z).set 0 s0)= .ok ((bL src Z).set 0 (.va l[i])):=by unfold gN;rw[if_pos (by rw[LS];exact hlen),RC]
   refine⟨(bL src Z).set 0 s0,O',noM,l[i],Ec,rx,?_⟩
   rw[eg];intro σ1 Eg;unfold tW
   dsimp only
   rw[if_pos rfl];obtain⟨kv,ekv,rkv⟩:=Eg.val 0 l[i] (by rw[KW hlen])
   refine⟨kv,ekv,?_⟩
   have aC:Acc Hc D (ps.map (·.2)):=am H' Hc D _ ys hacc hDl λb o e _=>sc b o e
   have DC:Hc D=some (.lst ys):=sc _ _ hDl;refine hte l[i] (L4 hlt) σ1 Hc O' D _ ys _ Eg aC DC λv H4 s4 acc4=>⟨by show 2<=sizeLine;rw[Mx];omega,λp hpn=> ?_⟩
   have D4:H4 D=some (.lst ys):=s4 _ _ DC
   have pD:p≠D:=λz=>by rw[z,D4]at hpn;cases hpn
   have E4:=Eg.same s4
   have ki:kk[i]'(by omega)=kk[i]'(by omega):=rfl
   have hki:keyOf l[i] =some (kk[i]'(by omega)):=by
    have:=congrArg (λz=>z[i]?) hk
    simp only[KP,KD hlt,KD (show i<kk.length by omega),Sk]at this
    exact K7 this
   obtain⟨kb,rfl,hkb⟩:=gX hki (rkv.same s4)
   have s46:SameO (λa=>a=D) H4 (upd (upd H4 p (.tup [.ref kb,v])) D (.lst (ys++ [.ref p]))):=λb o e nb=>by
    rw[aF nb,aF (λz=>by rw[z,hpn]at e;cases e)];exact e
   refine⟨by rw[aF (LO pD)];exact D4,l.length - (i+1),by omega,rfl,hlt,?_,aG,λb o e nb=>s46 b o (s4 _ _ (sc _ _ (hsm b o e nb))) nb,.va l[i],ps++ [(kk[i]'(by omega),v)],?_,?_,?_,?_⟩
   ·rw[Kw,hyl];rfl
   ·exact E4.move (λa z=> .inl (.inr z)) (λa z=> .inl z) s46 λaa z=>by
     by_cases hz:aa=D
     ·rw[hz];exact .inl ⟨_,aG⟩
     ·exact(E4.trk aa z).elim (λ⟨vs,e⟩=> .inl ⟨vs,s46 _ _ e hz⟩) λ⟨vs,e⟩=> .inr ⟨vs,s46 _ _ e hz⟩
   ·refine((hp.same (sc.trans s4)).move D4 s46).snoc (kb:=kb) (p:=(kk[i]'(by omega),v)) ?_ ?_
    ·rw[aF pD,aG]
    ·exact s46 _ _ hkb (lm hkb D4 (λz=>nomatch z))
   ·rw[K5,hkk]
    show kk.take i++ [kk[i]'(by omega)] =kk.take (i+1)
    rw[List.take_append_getElem]
   ·rw[K5]
    exact am H4 _ D _ ys acc4 D4 s46
  ·refine .inl ⟨it.1 (by omega),?_⟩
   have sF:Same H1 H':=λb o e=>sm1 b o e λz=>by rw[z,hD]at e;cases e
   exact hq H1 D ys ps H' s1 nD sF hDl hp (by rw[hkk,L6 (by omega)]) hacc
def rC (K:Km)(t:TE):TE:=λσ H Q=>t σ H λv H'=> ∃a xs ps,v= .ref a/\H' a=some (.lst xs)/\xs.length<=1000/\PairsAt H' xs ps/\∀q,Nw K H' q->Q (.ref q) (upd H' q (.dT (fx [] ps)))
theorem uB {e:Expr}{t:TE}{p pos:Pos}(hu:X.A.units+8<cLine)(hc:X.calm=true)(hm:X.mg "dict" =none)(ha:PE X e t)(hg:Gl X "dict")(hs:bq e=true):PE X (.Call (.Name "dict" p) [e] [] pos) (rC X.K t):=by
 have h1:KG [e] X.env=(false,eval e X.env)::KG [] X.env:=aY hs;intro pins s σ H Q I hq;refine Lr (fX I hg hm (show K9 "dict" =some (.type "dict")by decide+kernel) ?_ (by decide) (by decide))
 refine Lq (cr (bp (te:=t) ha dF h1 pos pins s σ H (λzs H'=>match zs with | [v] => ∃a xs ps,v= .ref a/\H' a=some (.lst xs)/\xs.length<=1000/\PairsAt H' xs ps/\∀q,Nw X.K H' q->Q (.ref q) (upd H' q (.dT (fx [] ps))) | _=>False) I ?_) λus s1 hh=> ?_) h1 rfl
 ·exact hq
 ·obtain⟨vs,H1,I1,r1,hv⟩:=hh
  match vs,hv,r1 with
  | [v],hv,r1=>
  obtain⟨a,xs,ps,ev,e1,e2,e3,e4⟩:=hv;subst ev;obtain⟨u,rfl,ru⟩:=r1.one;obtain rfl:u=KM a:=ru;exact vn (I1.ok.hd hc) hu I1 e1 e2 e3 λq s' nw I'=>⟨.ref q,_,I',rfl,e4 q nw⟩
end
theorem lP:∀(ps kvs:List (List Key×V)),((kvs++ps).map (·.1)).Nodup->fx kvs ps=kvs++ps
 | [],kvs,_=>by rw[fx,Lc]
 | p::ps,kvs,h=>by
  have e:dE kvs p.1 p.2=kvs++ [p]:=by
   unfold dE;rw[if_neg];intro z;obtain⟨q,hq,e⟩:=Oh.mp z
   have e:=of_decide_eq_true e;rw[K5,LI]at h;exact h.2.2 q.1 (KN.mpr ⟨q,hq,rfl⟩) p.1 (by simp) e
  rw[fx,e,lP ps (kvs++ [p]) (by rw[KR];exact h),KR]
  rfl
def gC (kk:List (List Key)):List (List Key×V):=kk.map λk=>(k,V.non)
theorem EU {kk:List (List Key)}:∀{ps:List (List Key×V)},ps.map (·.1)=kk->(∀v∈ps.map (·.2),v=V.non)->ps=gC kk:=by
 intro ps h1 h2;subst h1;unfold gC;rw[Ll]
 conv=>lhs;rw[<-Se ps]
 exact K2 λp hp=>Prod.ext rfl (h2 p.2 (KN.mpr ⟨p,hp,rfl⟩))
section
variable {X:Cx}
def tPI0 (K:Km)(f:En->Rs (List T)):TI:=λσ H R=> ∃Z O,EnvO K O H Z σ/\match f Z with
 | .ok ts=> ∀H',Same H H'->∀J,Jd K O H' ts J->R J H'
 | _=>False
theorem tPI0.up {f:En->Rs (List T)}{σ:L2.St}{H:Hp}{R:It->Hp->Prop}(h:tPI0 X.K f σ H R):IR X f σ H R:=by
 obtain⟨Z,O,E,h⟩:=h;refine⟨Z,O,E,?_⟩
 cases q:f Z with
 | ok t=>rw[q]at h;exact h
 | err c=>rw[q]at h;exact h.elim
 | bad=>rw[q]at h;exact h.elim
def vL (X:Cx)(src:List (Option Nat)):TE:=rC X.K (EF X.K (tPI0 X.K (iS (vr 1))) src (zv X (gN 0)) tW (B7 (gO (nQ 0) (gO (tC .non) rB))))
theorem FB {eb tb ib:Expr}{p q1 pc lp pos:Pos}{jj:Nat}{sc:NM}{N':List Str}{src:List (Option Nat)}{x1}(hu:X.A.units+8<cLine)(hc:X.calm=true)(hm:X.mg "dict" =none)(hg:Gl X "dict")(S:LcScope X sc N' src)(hi:yY X tb ib (iS (vr 1)))
  (blk:∀cl C s₀ H₀ fp,BS (cj X sc cl N' C s₀ H₀ fp) tb (gN 0)/\PE (cj X sc cl N' C s₀ H₀ fp) eb (nQ 0)/\bq eb=true) (hs:∀x,Li ib X.env x=pure x) :
  PE X (.Call (.Name "dict" p) [.ListComp (.Tuple [eb,.Constant .none jj pc] x1 q1) [⟨tb,ib,[],0⟩] sc lp] [] pos) (vL X src):=
 PE.imp (uB hu hc hm (uA hc S hi (λcl C s₀ H₀ fp=>⟨(blk cl C s₀ H₀ fp).1,rV,rX (bp (blk cl C s₀ H₀ fp).2.1 (bp Af dF (aY rfl)) (aY (blk cl C s₀ H₀ fp).2.2))⟩) hs) hg rfl) λσ H Q h=>tPI0.up h
theorem zJ {src:List (Option Nat)}{σ:L2.St}{H:Hp}{Q:VK}{Z:En}{O:Ow}{l:List T}{kk:List (List Key)}(E:EnvO X.K O H Z σ)(hf:iS (vr 1) Z= .ok l)(hz:l.length<=1000)(hk:l.map keyOf=kk.map some)(hn:kk.Nodup)(hs:0<src.length)
  (hq:∀d H',Same H H'->Nw X.K H d->H' d=some (.dT (gC kk))->Q (.ref d) H'):vL X src σ H Q:=by
 have lk:l.length=kk.length:=by have:=congrArg Lx hk;rwa [Ks,Ks]at this
 unfold vL rC;refine u4 (X:=X) (te:=tC .non) E (λR h=>⟨Z,O,E,by rw[hf];exact h⟩) hz hk hs (λ_ _ vs=> ∀v∈vs,v=V.non) (λ_ _ _ _ v h=>nomatch h) (λ_ _ _ _ _ h _ _=>h) (λt ht σ' H' O' D vs ys Q' _ acc _ k=>k _ H' (Same.refl H') λv hv=> ?_) λH1 D ys ps H' s1 nD s2 hD hp h1 h2=> ?_
 ·rcases K4.mp hv with z | z
  ·exact acc v z
  ·exact KQ.mp z
 ·have e:ps=gC kk:=EU h1 h2
  refine⟨D,ys,ps,rfl,hD,by rw[hp.len,e];unfold gC;rw[Ks];omega,hp,λq nq=> ?_⟩
  have e2:fx [] ps=gC kk:=by rw[lP ps [] (by rw[LD,h1];exact hn),LD,e]
  rw[e2];exact hq q _ ((s1.trans s2).trans (aX nq.1 _)) (li (s1.trans s2) nq) aG
theorem uw {K:Km}{O:Ow}{H:Hp}:∀(l:List T) (kk:List (List Key)),l.length=kk.length->Reps K O H (l.map λ_=>T.non) ((gC kk).map (·.2))
 | [],[],_=>Reps.Jn
 | _::l,_::kk,h=>Reps.Jk Rep.JS (uw l kk (by simpa using h))
 | [],_::_,h=>by simp at h
 | _::_,[],h=>by simp at h
theorem um {K:Km}{O:Ow}{H:Hp}{l:List T}{kk:List (List Key)}(hk:l.map keyOf=kk.map some):∀{m:List T} {ds:List Addr},m.length=ds.length->(∀d∈ds,H d=some (.dT (gC kk)))->RowsR K O H (m.map λ_=>(l,l.map λ_=>T.non)) ds
 | [],[],_,_=>rfl
 | _::m,d::ds,h,hd=>⟨d,ds,gC kk,rfl,hd d Kr,by unfold gC;rw[Ll];exact hk,uw l kk (by have:=congrArg Lx hk;rwa [Ks,Ks]at this),um hk (by simpa using h) λe he=>hd e (Ko _ he)⟩
 | [],_::_,h,_=>by simp at h
 | _::_,[],h,_=>by simp at h
theorem xy:∀{l:List T},mK l=true->∃kk:List (List Key),l.map keyOf=kk.map some
 | [],_=>⟨[],rfl⟩
 | t::l,h=>by
  unfold mK at h;rw[Ku]at h;obtain⟨kk,e⟩:=xy h.2;obtain⟨k,ek⟩:=Nz.mp h.1;exact⟨k::kk,by rw[Kp,Kp,ek,e]⟩
theorem zS (i j:Nat){x:Str}{ea r ta ia:Expr}{p q1 lp p2 p3 pos:Pos}{x1}{sc:NM}{N':List Str}{src:List (Option Nat)}(hu:X.A.units+8<cLine)(hc:X.calm=true)(hm:X.mg "dict" =none)(hN:X.N.Nodup)
  (S:LcScope X sc N' [none,some j]) (hi:yY X ta ia (iS (vr j))) (hsr:0<src.length)
  (blk:∀cl C s₀ H₀ fp,BS (cj X sc cl N' C s₀ H₀ fp) ta (gN 0)/\PE (cj X sc cl N' C s₀ H₀ fp) ea (nQ 0)/\PE (cj X sc cl N' C s₀ H₀ fp) r (vL X src)) (h1:bq ea=true:=by rfl) (h2:bq r=true:=by rfl)
  (hs:∀x,Li ia X.env x=pure x:=by intro _;rfl) (hg:Gl X "dict":=by rfl) (hix:X.N[i]? =some x:=by rfl) (hx:Loc X.env.scope x:=by first | exact LN rfl | exact Lz rfl)
  (hsw:LF (.Call (.Name "dict" p) [.ListComp (.Tuple [ea,r] x1 q1) [⟨ta,ia,[],0⟩] sc lp] [] p2) (some (.Name x p3)) pos.line X.env=pure false:=by rfl)
  (hf:X.fn x=true\/X.env.scope.names.lookup x=some .local:=by first | exact .inl rfl | exact .inr rfl | assumption) :
  pz X (.Assign [.Name x p3] (.Call (.Name "dict" p) [.ListComp (.Tuple [ea,r] x1 q1) [⟨ta,ia,[],0⟩] sc lp] [] p2) pos) (n6 i j):=
 PS.imp (n9 hN hix hx (uB hu hc hm (uA (g:=zv X (gN 0)) (tc:=tW) (te:=B7 (gO (nQ 0) (gO (vL X src) rB))) hc S hi (λcl C s₀ H₀ fp=>⟨(blk cl C s₀ H₀ fp).1,rV,rX (bp (blk cl C s₀ H₀ fp).2.1 (bp (blk cl C s₀ H₀ fp).2.2 dF (aY h2)) (aY h1))⟩) hs) hg rfl) hsw hf) λD σ H hh_=>by
  obtain⟨Z,B,M,E,h⟩:=hh_;unfold n6 at h
  cases qj:Z[j]? with
  | none=>rw[qj]at h;exact h.elim
  | some z=>
   rw[qj]at h
   match z,h,qj with
   | .va (.lst l),h,qj=>
    dsimp only at h
    by_cases hh:i<Z.length/\mK l=true/\(l.map keyOf).Nodup/\l.length<=1000
    ·rw[if_pos hh]at h
     obtain⟨hl,hky,hnd,hz⟩:=hh;obtain⟨kk,hk⟩:=xy hky
     have lk:l.length=kk.length:=by have:=congrArg Lx hk;rwa [Ks,Ks]at this
     have hn:kk.Nodup:=by
      rw[hk]at hnd;exact(Nc.mp hnd).imp λh z=>h (by rw[z])
     have fj:iS (vr j) Z= .ok l:=by unfold iS vr;rw[qj];rfl
     have hlc:bL [none,some j] Z= [.em,.va (.lst l)]:=by unfold bL;simp[qj]
     unfold zw rC
     refine u4 (X:=X) (te:=vL X src) E.o (λR h=>⟨Z,OO B M,E.o,by rw[fj];exact h⟩) hz hk (by simp)
      (λH' D vs=>H D=none/\Same H H'/\∃ds:List Addr,vs=ds.map V.ref/\ds.Nodup/\∀d∈ds,Nw X.K H d/\H' d=some (.dT (gC kk)))
      (λH1 D s1 nD=>⟨(li s1 nD).1,s1.trans (aX nD.1 _),[],rfl,ML,λd h=>nomatch h⟩)
      (λH1 H2 D vs ys ⟨c1,c2,ds,c3,c4,c5⟩ hD s=>⟨c1,(λb o e=>s b o (c2 b o e) (λz=>by rw[z,c1]at e;cases e)),ds,c3,c4,λd hd=>⟨(c5 d hd).1,s _ _ (c5 d hd).2 (lm (c5 d hd).2 hD (λz=>nomatch z))⟩⟩)
      (λt ht σ' H' O' D vs ys Q' E' ⟨c1,c2,ds,c3,c4,c5⟩ hD k=>zJ (l:=l) (kk:=kk) ⟨noM,E'⟩ (by rw[hlc];rfl) hz hk hn hsr λd H'' s' nd hd=> ?_) λH1 D ys ps H' s1 nD s2 hD hp e1 ⟨c1,c2,ds,c3,c4,c5⟩=> ?_
     ·refine k _ H'' s' ⟨c1,c2.trans s',ds++ [d],by rw[c3,K5];rfl,?_,λe he=> ?_⟩
      ·refine LI.mpr ⟨c4,by simp,λu hu w hw=> ?_⟩
       rw[KQ.mp hw];intro z
       have:=(c5 u hu).2;rw[z,nd.1]at this;cases this
      ·rcases K4.mp he with z | z
       ·exact⟨(c5 e z).1,s' _ _ (c5 e z).2⟩
       ·rw[KQ.mp z]
        exact⟨li c2 nd,hd⟩
     ·have hpl:ps.length=kk.length:=by rw[<-e1,Ks]
      refine⟨D,ys,ps,rfl,hD,by rw[hp.len];omega,hp,λq nq=> ?_⟩
      have e2:fx [] ps=ps:=by rw[lP ps [] (by rw[LD,e1];exact hn),LD]
      rw[e2]
      have qd:q∉ds:=λz=>by have:=(c5 q z).2;rw[nq.1]at this;cases this
      have dl:ds.length=ps.length:=by have:=congrArg Lx c3;rw[Ks,Ks]at this;exact this.symm
      have hm':∀b,b=q\/b∈ds->Nw X.K H b:=λb z=>z.elim (λw=>w▸li c2 nq) λw=>(c5 b w).1
      have sF:Same H (upd H' q (.dT ps)):=c2.trans (aX nq.1 _);obtain⟨E2,sub⟩:=E.new (m:=λb=>b=q\/b∈ds) (o:=.dd l (l.map λ_=>(l,l.map λ_=> .non))) (v:=.ref q) (H':=upd H' q (.dT ps)) hl hm' sF ⟨q,ps,ds,rfl,λb=>Ov,qd,c4,aG,by rw[hk,<-e1,Ll];rfl,c3,um hk (by omega) λd hd=>by rw[aF (show d≠q from λz=>qd (z▸hd))];exact(c5 d hd).2⟩
      exact h _ _ _ (SameO.of sF) E2 sub
    ·rw[if_neg hh]at h;exact h.elim
   | .em,h,_=>exact h.elim
   | .ow _,h,_=>exact h.elim
   | .va .non,h,_=>exact h.elim
   | .va (.bl _),h,_=>exact h.elim
   | .va (.int _),h,_=>exact h.elim
   | .va (.str _),h,_=>exact h.elim
   | .va (.tup _),h,_=>exact h.elim
   | .va (.scr _),h,_=>exact h.elim
   | .va (.dct _ _),h,_=>exact h.elim
end
theorem xY {X:Cx}(i j:Nat){x:Str}{ea r ta ia:Expr}{p q1 lp p2 p3 pos:Pos}{x1}{sc:NM}{N':List Str}{src:List (Option Nat)}(hu:X.A.units+8<cLine)(hc:X.calm=true)(hm:X.mg "dict" =none)(hN:X.N.Nodup)
  (S:LcScope X sc N' [none,some j]) (hi:QI X ta ia (iS (vr j))) (hsr:0<src.length)
  (blk:∀cl C s₀ H₀ fp,QG (cj X sc cl N' C s₀ H₀ fp) ta (gN 0)/\PE (cj X sc cl N' C s₀ H₀ fp) ea (nQ 0)/\PE (cj X sc cl N' C s₀ H₀ fp) r (vL X src)) (h1:bq ea=true:=by rfl) (h2:bq r=true:=by rfl)
  (hs:∀x,Li ia X.env x=pure x:=by intro _;rfl) (hg:Gl X "dict":=by rfl) (hix:X.N[i]? =some x:=by rfl) (hx:Loc X.env.scope x:=by first | exact LN rfl | exact Lz rfl)
  (hsw:LF (.Call (.Name "dict" p) [.ListComp (.Tuple [ea,r] x1 q1) [⟨ta,ia,[],0⟩] sc lp] [] p2) (some (.Name x p3)) pos.line X.env=pure false:=by rfl)
  (hf:X.fn x=true\/X.env.scope.names.lookup x=some .local:=by first | exact .inl rfl | exact .inr rfl | assumption) :
  QS X (.Assign [.Name x p3] (.Call (.Name "dict" p) [.ListComp (.Tuple [ea,r] x1 q1) [⟨ta,ia,[],0⟩] sc lp] [] p2) pos) (n6 i j):=
 ⟨zS i j hu hc hm hN S hi.h hsr (λcl C s₀ H₀ fp=>⟨(blk cl C s₀ H₀ fp).1.h,(blk cl C s₀ H₀ fp).2⟩) h1 h2 hs hg hix hx hsw hf⟩
theorem BZ {X:Cx}{a b:Expr}{fs:En->Rs (List T)}{p pos:Pos}{elts:List Expr}{kk:Nat}{tpos:Pos}(hm:X.mg "zip" =none)(ha:QA X [a,b] fs)(hg:Gl X "zip":=by rfl)(hst:bv [a,b] =true:=by rfl) :
  QI X (.Tuple elts kk tpos) (.Call (.Name "zip" p) [a,b] [] pos) (iZ fs):=⟨Fo hm ha.h hg hst⟩
theorem BY {X:Cx}{a b:Expr}{pos p2:Pos}{x:Str}(i:Nat){apos cpos:Pos}{fa:En->Rs (List T)}(ha:QA X [a,b] fa)(hN:X.N[i]? =some x:=by rfl)(hv:rj X.env.scope x:=by first | exact LN rfl | exact Lz (LN rfl) | exact Lz (Lz rfl))(hn:bq a=true:=by rfl)(hn2:bq b=true:=by rfl)
  (hbase:LV (.Name x p2) "insert" X.env (eval (.Name x p2) X.env)=eval (.Name x p2) X.env:=by rfl) (hline:(apos.endLine == cpos.line)=true:=by rfl)
  (hd:gm x:=by decide) (hcd:(x == ("__classdict__" : Str))=false:=by decide)
  (hsw:LF (.Call (.Attribute (.Name x p2) "insert" apos) [a,b] [] cpos) none pos.line X.env=pure false:=by rfl):QS X (.Expr (.Call (.Attribute (.Name x p2) "insert" apos) [a,b] [] cpos) pos) (vV i fa):=⟨Fg i ha.h hN hv hn hn2 hbase hline hd hcd hsw⟩
theorem GT {X:Cx}{k k':Nat}{x:Str}{g:List T->Rs T}{p pos:Pos}(c:Cl X.prog X.w X.K X.mg X.base k x 0 g)(hr:Room k' X.A)(hk:k<=k':=by decide)(hg:Gl X x:=by rfl)(h2:gm x:=by decide):QE X (.Call (.Name x p) [] [] pos) (c0 g):=by
 obtain⟨f,fd,ps,h1,h3,h4,h5,h6⟩:=c.ex;exact⟨q_c0 h6 (hr.mono hk) h1 h3 h4 hg h2⟩
theorem gd {N P:List Str}{sc:NM}(h1:sc.kind= .function:=by rfl)(h2:sc.isCoroutine=false:=by rfl)(h3:sc.isGenerator=false:=by rfl)(h4:N.Nodup:=by decide+kernel)(h5:N.take P.length=P:=by rfl)
  (h6:∀x∈P,sc.names.lookup x=some .local\/sc.names.lookup x=some .cell:=by decide+kernel) (h7:∀y∈sc.names,y.2≠ .free:=by decide+kernel):aA N P sc:=⟨h1,h2,h3,h4,h5,h6,h7⟩
end Tr
namespace G
open PySem PySem.Spec PyProof.Rows L2 Tr
def top (i:Nat):Stmt:=LB.main.body.getD i (.Pass ⟨0,0,0,0⟩)
structure Bl (mg:Str->Option Kq):Prop where
 b_ValueError:mg "ValueError" =none
 b_all:mg "all" =none
 b_bool:mg "bool" =none
 b_dict:mg "dict" =none
 b_enumerate:mg "enumerate" =none
 b_int:mg "int" =none
 b_isinstance:mg "isinstance" =none
 b_len:mg "len" =none
 b_range:mg "range" =none
 b_sorted:mg "sorted" =none
 b_tuple:mg "tuple" =none
 b_zip:mg "zip" =none
structure Cs (mg:Str->Option Kq):Prop where
 MOST_CLOCKS:∃t,mg "MOST_CLOCKS" =some (.int 4 t)
 MOST_LETTERS:∃t,mg "MOST_LETTERS" =some (.int 8 t)
 MOST_READINGS:∃t,mg "MOST_READINGS" =some (.int 4 t)
 LAST_READING:∃t,mg "LAST_READING" =some (.int 99 t)
 SLOWEST:∃t,mg "SLOWEST" =some (.int 9 t)
 LONGEST:∃t,mg "LONGEST" =some (.int 999 t)
theorem tD:K9 "bool" =some (.type "bool"):=by decide+kernel
theorem mP:K9 "int" =some (.type "int"):=by decide+kernel
theorem dw:K9 "tuple" =some (.type "tuple"):=by decide+kernel
structure Xs (K:Km)(mg:Str->Option Kq)(C_NoRecord C_NoEvent C_NoNumber C_NoWorld C_Barred C_Nothing C_ClockError:Addr):Prop where
 m_NoRecord:mg "NoRecord" =some (.ref C_NoRecord)
 m_NoEvent:mg "NoEvent" =some (.ref C_NoEvent)
 m_NoNumber:mg "NoNumber" =some (.ref C_NoNumber)
 m_NoWorld:mg "NoWorld" =some (.ref C_NoWorld)
 m_Barred:mg "Barred" =some (.ref C_Barred)
 m_Nothing:mg "Nothing" =some (.ref C_Nothing)
 m_ClockError:mg "ClockError" =some (.ref C_ClockError)
 o_NoRecord:OX K C_NoRecord (.ref C_ClockError::ng)
 o_NoEvent:OX K C_NoEvent (.ref C_ClockError::ng)
 o_NoNumber:OX K C_NoNumber (.ref C_ClockError::ng)
 o_NoWorld:OX K C_NoWorld (.ref C_ClockError::ng)
 o_Barred:OX K C_Barred (.ref C_ClockError::ng)
 o_Nothing:OX K C_Nothing (.ref C_ClockError::ng)
 o_ClockError:OX K C_ClockError ng
 d:[C_NoRecord,C_NoEvent,C_NoNumber,C_NoWorld,C_Barred,C_Nothing,C_ClockError].Nodup
abbrev cb:Stmt:=top 66
theorem aaU:aA ["_law_e","_law_flags"] ["_law_e"] (ak cb):=⟨rfl,rfl,rfl,by decide+kernel,rfl,by decide+kernel,by decide+kernel⟩
def dC (j:Nat):T:=.tup [.str "refused",.int (j:Nat)]
def m6 (c:Str):Rs T:=if c= "NoRecord" then .ok (dC 0)else if c= "NoEvent" then .ok (dC 1)else if c= "NoNumber" then .ok (dC 2)else if c= "NoWorld" then .ok (dC 3)else if c= "Barred" then .ok (dC 4)else if c= "Nothing" then .ok (dC 5)else .bad
section
variable {P:KS}{w:LA}{K:Km}{mg:Str->Option Kq}{base:Heap}{C_NoRecord C_NoEvent C_NoNumber C_NoWorld C_Barred C_Nothing C_ClockError:Addr}
theorem Xs.ne {C D:Addr}(h:C≠D):(KM C::ng).contains (.ref D)=false:=by
 rw[L1]
 have:(KM D == KM C)=false:=by rw[beq_eq_false_iff_ne];exact λz=>h (Qv z).symm
 rw[this];rfl
theorem zP {C e f:Addr}{oe:Obj}{ev:Array Kq}{A:La}{outer:List Env}{s:Kt}{H:Hp}{Q:VK}{j:Nat}(S:Xs K mg C_NoRecord C_NoEvent C_NoNumber C_NoWorld C_Barred C_Nothing C_ClockError)(OC:OX K C (.ref C_ClockError::ng))
  (hc:oe.cls= .ref C) (hd:oe.data= .fields ev) (hi:mg "isinstance" =none) (hv:mg "ValueError" =none) (n_NoRecord:C_ClockError≠C_NoRecord) (n_NoEvent:C_ClockError≠C_NoEvent) (n_NoNumber:C_ClockError≠C_NoNumber) (n_NoWorld:C_ClockError≠C_NoWorld) (n_Barred:C_ClockError≠C_Barred) (n_Nothing:C_ClockError≠C_Nothing)
  {b0 b1 b2 b3 b4 b5:Bool} (h0:decide (C=C_NoRecord)=b0) (h1:decide (C=C_NoEvent)=b1) (h2:decide (C=C_NoNumber)=b2) (h3:decide (C=C_NoWorld)=b3) (h4:decide (C=C_Barred)=b4) (h5:decide (C=C_Nothing)=b5)
  (cnt:[b0,b1,b2,b3,b4,b5].countP id=1) (hj:[b0,b1,b2,b3,b4,b5][j]? =some true) (hno:∀m,m<j->[b0,b1,b2,b3,b4,b5][m]? =some false)
  (q:∀p H',Same H H'->H p=none->H' p=some (.tup [.str "refused",.int (j:Nat)])->Q (.ref p) H') (cdv:Kq) :
  ∃t,PSs (IY P w K mg base ["_law_e","_law_flags"] "_law_refused" (ak cb) f cdv A outer s H e oe) (de cb) t/\t { nx:=λ_ _=>False,rt:=Q } (start ["_law_e","_law_flags"] [.ref e]) H:=by
 have nd:=aaU.nd
 have hp:(e,oe)∈(IY P w K mg base ["_law_e","_law_flags"] "_law_refused" (ak cb) f cdv A outer s H e oe).pn:=Kr
 refine⟨_,lb (n9 (i:=1) nd rfl (LN rfl) (rY (bp (lQ rfl (LN rfl) hp hc hd OC S.o_NoRecord b0 h0 (λ_=>Xs.ne n_NoRecord) hi S.m_NoRecord) (bp (lQ rfl (LN rfl) hp hc hd OC S.o_NoEvent b1 h1 (λ_=>Xs.ne n_NoEvent) hi S.m_NoEvent) (bp (lQ rfl (LN rfl) hp hc hd OC S.o_NoNumber b2 h2 (λ_=>Xs.ne n_NoNumber) hi S.m_NoNumber) dF)))))
  (lb (n9 (i:=1) nd rfl (LN rfl) (HG Ap (pv 1) (rY (bp (lQ rfl (LN rfl) hp hc hd OC S.o_NoWorld b3 h3 (λ_=>Xs.ne n_NoWorld) hi S.m_NoWorld) (bp (lQ rfl (LN rfl) hp hc hd OC S.o_Barred b4 h4 (λ_=>Xs.ne n_Barred) hi S.m_Barred) (bp (lQ rfl (LN rfl) hp hc hd OC S.o_Nothing b5 h5 (λ_=>Xs.ne n_Nothing) hi S.m_Nothing) dF))))))
  (lb (D9 (PW.pt (D8 (CI HJ (uC LY PySem.F.slot_list_count PySem.F.type_list_count yw (pv 1) (bp Al dF)) Ag (FV _)) (zW (zZ (zY (FE rfl (LN rfl) hp hc OC hi hv)))))) (gj z9) wV)
  (gj (jp (rX (bp Ad (bp (uC LY Pa Pb yu (pv 1) (bp Al dF)) dF))))))),?_⟩
 refine⟨rfl,rfl,rfl,(by show 3<=sizeLine;decide),λl1 n1=> ?_⟩
 refine⟨.ref l1,rfl,rfl,rfl,rfl,(by show 3<=sizeLine;decide),λl2 n2=> ?_⟩
 have ne21:l1≠l2:=λz=>by subst z;rw[aG]at n2;cases n2
 refine⟨l1,l2,[.bl b0,.bl b1,.bl b2],[.bl b3,.bl b4,.bl b5],rfl,rfl,by rw[aF ne21,aG],aG,(by show 3+3<=sizeLine;decide),λl3 n3=> ?_⟩
 refine⟨.ref l3,rfl,.inl ⟨rfl,_,SqL.of aG⟩,⟨l3,[b0,b1,b2,b3,b4,b5],rfl,rfl,aG,?_⟩⟩
 have hz:(!decide (V.int (([b0,b1,b2,b3,b4,b5].countP id:Nat):Int)=V.int 1))=false:=by rw[cnt];simp
 refine⟨rfl,false,congrArg V.bl hz,iteF ⟨rfl,true,rfl,iteF ?_⟩⟩
 have hj6:j<6:=by have:=(KC.mp hj).1;simpa using this
 refine⟨.ref l3,rfl,.inl ⟨rfl,_,SqL.of aG⟩,⟨l3,[b0,b1,b2,b3,b4,b5],j,rfl,rfl,aG,hj,hno,by omega,(by show 2<=sizeLine;decide),λp np=>q p _ ?_ ?_ aG⟩⟩
 rotate_left
 ·have m3:p≠l3:=λz=>by subst z;rw[aG]at np;cases np
  have m2:p≠l2:=λz=>by subst z;rw[aF m3,aG]at np;cases np
  have m1:p≠l1:=λz=>by subst z;rw[aF m3,aF m2,aG]at np;cases np
  rw[aF m3,aF m2,aF m1]at np;exact np
 intro b o hb
 have m1:b≠l1:=λz=>by subst z;rw[n1]at hb;cases hb
 have m2:b≠l2:=λz=>by subst z;rw[aF m1,hb]at n2;cases n2
 have m3:b≠l3:=λz=>by subst z;rw[aF m2,aF m1,hb]at n3;cases n3
 have m4:b≠p:=λz=>by subst z;rw[aF m3,aF m2,aF m1,hb]at np;cases np
 rw[aF m4,aF m3,aF m2,aF m1];exact hb
end
section
variable {X:Cx}{C_NoRecord C_NoEvent C_NoNumber C_NoWorld C_Barred C_Nothing C_ClockError:Addr}
def tRC (X:Cx)(i:Nat)(e:Addr)(j:Nat):TE:=λσ H Q=>σ[i]? =some (some (.ref e))/\H e=none/\e∉o0 X.stack/\∀p H',Same H H'->H p=none->H' p=some (.tup [.str "refused",.int (j:Nat)])->Q (.ref p) H'
theorem fA {en:Str}{p p1 pos:Pos}{i j:Nat}{C e f:Addr}{fd:LL}{oe:Obj}{ev:Array Kq}(hN:X.N[i]? =some en)(hv:rj X.env.scope en)
  (Fn_:Fn X.K X.mg "_law_refused" cb ["_law_e"] f fd) (S:Xs X.K X.mg C_NoRecord C_NoEvent C_NoNumber C_NoWorld C_Barred C_Nothing C_ClockError) (OC:OX X.K C (.ref C_ClockError::ng))
  (hc:oe.cls= .ref C) (hd:oe.data= .fields ev) (hi:X.mg "isinstance" =none) (hvv:X.mg "ValueError" =none) (n_NoRecord:C_ClockError≠C_NoRecord) (n_NoEvent:C_ClockError≠C_NoEvent) (n_NoNumber:C_ClockError≠C_NoNumber) (n_NoWorld:C_ClockError≠C_NoWorld) (n_Barred:C_ClockError≠C_Barred) (n_Nothing:C_ClockError≠C_Nothing)
  {b0 b1 b2 b3 b4 b5:Bool} (h0:decide (C=C_NoRecord)=b0) (h1:decide (C=C_NoEvent)=b1) (h2:decide (C=C_NoNumber)=b2) (h3:decide (C=C_NoWorld)=b3) (h4:decide (C=C_Barred)=b4) (h5:decide (C=C_Nothing)=b5)
  (cnt:[b0,b1,b2,b3,b4,b5].countP id=1) (hj:[b0,b1,b2,b3,b4,b5][j]? =some true) (hno:∀m,m<j->[b0,b1,b2,b3,b4,b5][m]? =some false) (hr:X.A.depth+3<Nr)
  (hg:Gl (wz X e oe) "_law_refused":=by rfl) (hde:gm en:=by decide) (hce:(en == ("__classdict__" : Str))=false:=by decide)
  (he:KG [.Name en p1] X.env=(false,eval (.Name en p1) X.env)::KG [] X.env:=by rfl) (hpl:(backTo pos (KG [] X.env)).any (·.1)=false:=by rfl) :
  PE (wz X e oe) (.Call (.Name "_law_refused" p) [.Name en p1] [] pos) (tRC X i e j):=by
 intro pins s σ H Q I ⟨hσ,hH,hf,q⟩;refine Lr (iG (X:=wz X e oe) I hg Fn_.mg ?_ (by decide))
 have hA:PA (wz X e oe) [.Name en p1] (gO (nQ i) rB):=bp (g9 (X:=wz X e oe) hN hv hde hce) dF he;refine ND (h₀:=X.base) I.ok.mod.kin Fn_.fn.kp (cr (hA pos pins s σ H (λvs H'=>vs= [.ref e]/\H'=H) I ⟨.ref e,hσ,rfl,rfl⟩) λus s1 ⟨vs,H1,I1,r,e1,e2⟩=>⟨I1.kIn,?_⟩) he hpl
 subst e1;subst e2;obtain⟨u,rfl,ru⟩:=kS r;cases ru
 have hoe:s1.heap.get? e=some oe:=(I1.pin (e,oe) (Lg _ Kr)).1
 have hb:=Fn_.bd s1 [.ref e] I1.kIn rfl;refine Rj (Od (Gq (Q:=Q) Fn_.fn aaU (vs:=[.ref e]) rfl hr I1.JQ hb r hoe hH hf (λv z=>by rw[hd]at z;cases z) λcdv=>zP S OC hc hd hi hvv n_NoRecord n_NoEvent n_NoNumber n_NoWorld n_Barred n_Nothing h0 h1 h2 h3 h4 h5 cnt hj hno q cdv) λr s' hq=> ?_)
 cases r with
 | error ev=>exact hq.elim
 | ok fl=>
  cases fl with
  | ret u=>exact I1.after hq
  | next=>exact hq.elim
  | brk=>exact hq.elim
  | cont=>exact hq.elim
theorem jJ {K:Km}{O:Ow}{H H':Hp}{p:Addr}{j:Nat}(hO:∀p,H p=none->¬ O p)(hp:H p=none)(h:H' p=some (.tup [.str "refused",.int (j:Nat)])):Rep K O H' (dC j) (.ref p):=
 Rep.Jg.mpr ⟨p,_,rfl,hO p hp,h,Reps.Jk (Rep.J2 _) (Reps.Jk (Rep.Jo _) Reps.Jn)⟩
theorem zx {en:Str}{p p1 pos rp:Pos}{i:Nat}{f:Addr}{fd:LL}(hN:X.N[i]? =some en)(hv:rj X.env.scope en)
  (Fn_:Fn X.K X.mg "_law_refused" cb ["_law_e"] f fd) (S:Xs X.K X.mg C_NoRecord C_NoEvent C_NoNumber C_NoWorld C_Barred C_Nothing C_ClockError) (hi:X.mg "isinstance" =none) (hvv:X.mg "ValueError" =none) (hr:X.A.depth+3<Nr)
  (hg:∀e oe,Gl (wz X e oe) "_law_refused":=by intro _ _;rfl) (hde:gm en:=by decide) (hce:(en == ("__classdict__" : Str))=false:=by decide)
  (he:KG [.Name en p1] X.env=(false,eval (.Name en p1) X.env)::KG [] X.env:=by rfl) (hpl:(backTo pos (KG [] X.env)).any (·.1)=false:=by rfl) :
  tH X i [.Return (some (.Call (.Name "_law_refused" p) [.Name en p1] [] pos)) rp] C_ClockError m6:=by
 have dd:=S.d
 have ap:∀{a b:Addr} (i j:Nat),i<j->[C_NoRecord,C_NoEvent,C_NoNumber,C_NoWorld,C_Barred,C_Nothing,C_ClockError][i]? =some a->[C_NoRecord,C_NoEvent,C_NoNumber,C_NoWorld,C_Barred,C_Nothing,C_ClockError][j]? =some b->a≠b:=λ{a b} i j hij ha hb z=>by
  have:=(List.getElem?_inj (KC.mp ha).1 dd).mp (ha.trans (z▸hb.symm))
  omega
 have hin:∀C:Addr,(KM C:: .ref C_ClockError::ng).contains (.ref C_ClockError)=true:=λC=>by rw[L1,L1,beq_self_eq_true,Rx,Rw]
 have n_NoRecord:C_ClockError≠C_NoRecord:=(LO (ap 0 6 (by decide) rfl rfl))
 have n_NoEvent:C_ClockError≠C_NoEvent:=(LO (ap 1 6 (by decide) rfl rfl))
 have n_NoNumber:C_ClockError≠C_NoNumber:=(LO (ap 2 6 (by decide) rfl rfl))
 have n_NoWorld:C_ClockError≠C_NoWorld:=(LO (ap 3 6 (by decide) rfl rfl))
 have n_Barred:C_ClockError≠C_Barred:=(LO (ap 4 6 (by decide) rfl rfl))
 have n_Nothing:C_ClockError≠C_Nothing:=(LO (ap 5 6 (by decide) rfl rfl))
 intro c C t hm ht;unfold m6 at ht
 by_cases z0:c= "NoRecord"
 ·rw[if_pos z0]at ht
  cases ht;rw[z0,S.m_NoRecord]at hm;cases hm;refine⟨_,S.o_NoRecord,hin _,λe oe ev hc hd pins s σ H O Q I hH hf hσ hO q=> ?_⟩
  exact gj (jp (fA hN hv Fn_ S S.o_NoRecord hc hd hi hvv n_NoRecord n_NoEvent n_NoNumber n_NoWorld n_Barred n_Nothing (b0:=true) (b1:=false) (b2:=false) (b3:=false) (b4:=false) (b5:=false) (by simp) (by rw[decide_eq_false (ap 0 1 (by decide) rfl rfl)]) (by rw[decide_eq_false (ap 0 2 (by decide) rfl rfl)]) (by rw[decide_eq_false (ap 0 3 (by decide) rfl rfl)]) (by rw[decide_eq_false (ap 0 4 (by decide) rfl rfl)]) (by rw[decide_eq_false (ap 0 5 (by decide) rfl rfl)]) (by decide) (j:=0) rfl (λm hm=>by omega) hr (hg e oe) hde hce he hpl)) pins s σ H _ I ⟨hσ,hH,hf,λp H' sm hp h=>q _ _ sm (jJ hO hp h)⟩
 rw[if_neg z0]at ht
 by_cases z1:c= "NoEvent"
 ·rw[if_pos z1]at ht
  cases ht;rw[z1,S.m_NoEvent]at hm;cases hm;refine⟨_,S.o_NoEvent,hin _,λe oe ev hc hd pins s σ H O Q I hH hf hσ hO q=> ?_⟩
  exact gj (jp (fA hN hv Fn_ S S.o_NoEvent hc hd hi hvv n_NoRecord n_NoEvent n_NoNumber n_NoWorld n_Barred n_Nothing (b0:=false) (b1:=true) (b2:=false) (b3:=false) (b4:=false) (b5:=false) (by rw[decide_eq_false (LO (ap 0 1 (by decide) rfl rfl))]) (by simp) (by rw[decide_eq_false (ap 1 2 (by decide) rfl rfl)]) (by rw[decide_eq_false (ap 1 3 (by decide) rfl rfl)]) (by rw[decide_eq_false (ap 1 4 (by decide) rfl rfl)]) (by rw[decide_eq_false (ap 1 5 (by decide) rfl rfl)]) (by decide) (j:=1) rfl (λm hm=>by match m,hm with | 0,_=>rfl) hr (hg e oe) hde hce he hpl)) pins s σ H _ I ⟨hσ,hH,hf,λp H' sm hp h=>q _ _ sm (jJ hO hp h)⟩
 rw[if_neg z1]at ht
 by_cases z2:c= "NoNumber"
 ·rw[if_pos z2]at ht
  cases ht;rw[z2,S.m_NoNumber]at hm;cases hm;refine⟨_,S.o_NoNumber,hin _,λe oe ev hc hd pins s σ H O Q I hH hf hσ hO q=> ?_⟩
  exact gj (jp (fA hN hv Fn_ S S.o_NoNumber hc hd hi hvv n_NoRecord n_NoEvent n_NoNumber n_NoWorld n_Barred n_Nothing (b0:=false) (b1:=false) (b2:=true) (b3:=false) (b4:=false) (b5:=false) (by rw[decide_eq_false (LO (ap 0 2 (by decide) rfl rfl))]) (by rw[decide_eq_false (LO (ap 1 2 (by decide) rfl rfl))]) (by simp) (by rw[decide_eq_false (ap 2 3 (by decide) rfl rfl)]) (by rw[decide_eq_false (ap 2 4 (by decide) rfl rfl)]) (by rw[decide_eq_false (ap 2 5 (by decide) rfl rfl)]) (by decide) (j:=2) rfl (λm hm=>by match m,hm with | 0,_=>rfl | 1,_=>rfl) hr (hg e oe) hde hce he hpl)) pins s σ H _ I ⟨hσ,hH,hf,λp H' sm hp h=>q _ _ sm (jJ hO hp h)⟩
 rw[if_neg z2]at ht
 by_cases z3:c= "NoWorld"
 ·rw[if_pos z3]at ht
  cases ht;rw[z3,S.m_NoWorld]at hm;cases hm;refine⟨_,S.o_NoWorld,hin _,λe oe ev hc hd pins s σ H O Q I hH hf hσ hO q=> ?_⟩
  exact gj (jp (fA hN hv Fn_ S S.o_NoWorld hc hd hi hvv n_NoRecord n_NoEvent n_NoNumber n_NoWorld n_Barred n_Nothing (b0:=false) (b1:=false) (b2:=false) (b3:=true) (b4:=false) (b5:=false) (by rw[decide_eq_false (LO (ap 0 3 (by decide) rfl rfl))]) (by rw[decide_eq_false (LO (ap 1 3 (by decide) rfl rfl))]) (by rw[decide_eq_false (LO (ap 2 3 (by decide) rfl rfl))]) (by simp) (by rw[decide_eq_false (ap 3 4 (by decide) rfl rfl)]) (by rw[decide_eq_false (ap 3 5 (by decide) rfl rfl)]) (by decide) (j:=3) rfl (λm hm=>by match m,hm with | 0,_=>rfl | 1,_=>rfl | 2,_=>rfl) hr (hg e oe) hde hce he hpl)) pins s σ H _ I ⟨hσ,hH,hf,λp H' sm hp h=>q _ _ sm (jJ hO hp h)⟩
 rw[if_neg z3]at ht
 by_cases z4:c= "Barred"
 ·rw[if_pos z4]at ht
  cases ht;rw[z4,S.m_Barred]at hm;cases hm;refine⟨_,S.o_Barred,hin _,λe oe ev hc hd pins s σ H O Q I hH hf hσ hO q=> ?_⟩
  exact gj (jp (fA hN hv Fn_ S S.o_Barred hc hd hi hvv n_NoRecord n_NoEvent n_NoNumber n_NoWorld n_Barred n_Nothing (b0:=false) (b1:=false) (b2:=false) (b3:=false) (b4:=true) (b5:=false) (by rw[decide_eq_false (LO (ap 0 4 (by decide) rfl rfl))]) (by rw[decide_eq_false (LO (ap 1 4 (by decide) rfl rfl))]) (by rw[decide_eq_false (LO (ap 2 4 (by decide) rfl rfl))]) (by rw[decide_eq_false (LO (ap 3 4 (by decide) rfl rfl))]) (by simp) (by rw[decide_eq_false (ap 4 5 (by decide) rfl rfl)]) (by decide) (j:=4) rfl (λm hm=>by match m,hm with | 0,_=>rfl | 1,_=>rfl | 2,_=>rfl | 3,_=>rfl) hr (hg e oe) hde hce he hpl)) pins s σ H _ I ⟨hσ,hH,hf,λp H' sm hp h=>q _ _ sm (jJ hO hp h)⟩
 rw[if_neg z4]at ht
 by_cases z5:c= "Nothing"
 ·rw[if_pos z5]at ht
  cases ht;rw[z5,S.m_Nothing]at hm;cases hm;refine⟨_,S.o_Nothing,hin _,λe oe ev hc hd pins s σ H O Q I hH hf hσ hO q=> ?_⟩
  exact gj (jp (fA hN hv Fn_ S S.o_Nothing hc hd hi hvv n_NoRecord n_NoEvent n_NoNumber n_NoWorld n_Barred n_Nothing (b0:=false) (b1:=false) (b2:=false) (b3:=false) (b4:=false) (b5:=true) (by rw[decide_eq_false (LO (ap 0 5 (by decide) rfl rfl))]) (by rw[decide_eq_false (LO (ap 1 5 (by decide) rfl rfl))]) (by rw[decide_eq_false (LO (ap 2 5 (by decide) rfl rfl))]) (by rw[decide_eq_false (LO (ap 3 5 (by decide) rfl rfl))]) (by rw[decide_eq_false (LO (ap 4 5 (by decide) rfl rfl))]) (by simp) (by decide) (j:=5) rfl (λm hm=>by match m,hm with | 0,_=>rfl | 1,_=>rfl | 2,_=>rfl | 3,_=>rfl | 4,_=>rfl) hr (hg e oe) hde hce he hpl)) pins s σ H _ I ⟨hσ,hH,hf,λp H' sm hp h=>q _ _ sm (jJ hO hp h)⟩
 rw[if_neg z5]at ht;cases ht
end
end G
namespace G
open PySem Tr
def rl:En->Rs Fl:=
 (aI (bW (o1 (De "tuple") (vr 0)) (ch HZ HZ (vr 1) (cl cx (ac (vr 0) ag)) (vr 2))))
def aP:List T->Rs T:=val 3 3 rl
def wG:En->Rs Fl:=
 (aI (bW (o1 (De "int") (vr 0)) (o1 sy (o1 (De "bool") (vr 0)))))
def iF:List T->Rs T:=val 1 1 wG
def jE:En->Rs Fl:=
 (aI (bW (cl iF (ac (vr 0) ag)) (ch HZ HZ (vr 1) (vr 0) (vr 2))))
def bh:List T->Rs T:=val 3 3 jE
def mr:En->Rs Fl:=
 (aI (bW (cl bh (ac (vr 0) (ac (cn (.int 1)) (ac (cn (.int 9)) ag)))) (cl bh (ac (vr 1) (ac (vr 0) (ac (cn (.int 9)) ag))))))
def gp:List T->Rs T:=val 2 2 mr
def xV:En->Rs Fl:=
 (aI (cl qo (ac (eG (iR (ac (o2 eO (cl cx (ac (vr 0) ag)) (cn (.int 1))) ag)) [none,some 0] (gN 0) bT (o2 mI (o2 aW (vr 1) (vr 0)) (o2 aW (vr 1) (o2 aV (vr 0) (cn (.int 1)))))) ag)))
def jO:List T->Rs T:=val 1 1 xV
def fo:En->Rs Fl:=
 (aw (d9 (dX (tb (cl aP (ac (vr 0) (ac (cn (.int 1)) (ac (cn (.int 4)) ag)))))) (aI (cn (.bl false))) sN) (aI (bW (cl qo (ac (eG (iS (vr 0)) [none] (gN 0) bT (cl bh (ac (vr 0) (ac (cn (.int 0)) (ac (cn (.int 99)) ag))))) ag)) (cl jO (ac (vr 0) ag)))))
def b9:List T->Rs T:=val 1 1 fo
def iO:En->Rs Fl:=
 (aI (bW (cl aP (ac (vr 0) (ac (cn (.int 3)) (ac (cn (.int 3)) ag)))) (bW (cl gp (ac (o2 aW (vr 0) (cn (.int 0))) (ac (o2 aW (vr 0) (cn (.int 1))) ag))) (cl b9 (ac (o2 aW (vr 0) (cn (.int 2))) ag)))))
def dI:List T->Rs T:=val 1 1 iO
def iP:En->Rs Fl:=
 (aI (bW (cl aP (ac (vr 0) (ac (cn (.int 1)) (ac (cn (.int 4)) ag)))) (cl qo (ac (eG (iS (vr 0)) [none] (gN 0) bT (cl dI (ac (vr 0) ag))) ag))))
def dS:List T->Rs T:=val 1 1 iP
def iM:En->Rs Fl:=
 (aw (d9 (lR (dX (tb (cl aP (ac (vr 1) (ac (cn (.int 2)) (ac (cn (.int 2)) ag)))))) (dX (tb (cl bh (ac (o2 aW (vr 1) (cn (.int 0))) (ac (cn (.int 0)) (ac (o2 eO (cl cx (ac (vr 0) ag)) (cn (.int 1))) ag))))))) (aI (cn (.bl false))) sN) (aI (cl bh (ac (o2 aW (vr 1) (cn (.int 1))) (ac (cn (.int 0)) (ac (o2 eO (cl cx (ac (o2 aW (o2 aW (vr 0) (o2 aW (vr 1) (cn (.int 0)))) (cn (.int 2))) ag)) (cn (.int 1))) ag))))))
def cN:List T->Rs T:=val 2 2 iM
def iN:En->Rs Fl:=
 (aI (bW (cl bh (ac (vr 0) (ac (cn (.int 0)) (ac (cn (.int 999)) ag)))) (qI (o2 fE (vr 1) (cn .non)) (cl bh (ac (vr 1) (ac (vr 0) (ac (cn (.int 999)) ag)))))))
def ez:List T->Rs T:=val 2 2 iN
def eJ:En->Rs Fl:=
 (aw (d9 (lR (dX (tb (cl aP (ac (vr 1) (ac (cn (.int 4)) (ac (cn (.int 4)) ag)))))) (dX (tb (cl ez (ac (o2 aW (vr 1) (cn (.int 2))) (ac (o2 aW (vr 1) (cn (.int 3))) ag)))))) (aI (cn (.bl false))) sN) (aI (bW (cl cN (ac (vr 0) (ac (o2 aW (vr 1) (cn (.int 0))) ag))) (bW (cl cN (ac (vr 0) (ac (o2 aW (vr 1) (cn (.int 1))) ag))) (o2 mY (o2 aW (vr 1) (cn (.int 0))) (o2 aW (vr 1) (cn (.int 1))))))))
def ck:List T->Rs T:=val 2 2 eJ
def hY:En->Rs Fl:=
 (aI (bW (cl aP (ac (vr 1) (ac (cn (.int 0)) (ac (cn (.int 8)) ag)))) (cl qo (ac (eG (iS (vr 1)) [none,some 0] (gN 0) bT (cl ck (ac (vr 1) (ac (vr 0) ag)))) ag))))
def du:List T->Rs T:=val 2 2 hY
def gY:En->Rs Fl:=
 (aI (bW (cl aP (ac (vr 0) (ac (cn (.int 2)) (ac (cn (.int 2)) ag)))) (bW (cl dS (ac (o2 aW (vr 0) (cn (.int 0))) ag)) (cl du (ac (o2 aW (vr 0) (cn (.int 0))) (ac (o2 aW (vr 0) (cn (.int 1))) ag))))))
def dH:List T->Rs T:=val 1 1 gY
def dZ:En->Rs Fl:=
 (d9 (dX (tb (cl dH (ac (vr 0) ag)))) (zG "NoRecord") sN)
def bx:List T->Rs T:=val 1 1 dZ
def pB:En->Rs Fl:=
 (aw (tM (cl bx (ac (vr 0) ag))) (aw (gP 1 ag) (aw (dD (iE (ac (o2 aW (vr 0) (cn (.int 0))) ag)) (gT 2 (dY (gN 2) (dY (gN 3) kQ))) (n8 1 (eG (iR (ac (cl cx (ac (o2 aW (vr 3) (cn (.int 2))) ag)) ag)) [none,some 2] (gN 0) bT (aL (ac (vr 1) (ac (vr 0) ag)))))) (k8 1 (aI (vr 1))))))
def dL:List T->Rs T:=val 1 4 pB
def jF:En->Rs Fl:=
 (aw (cq (oD jb (vr 0) (o2 aW (vr 1) (cn (.int 1)))) (gN 3)) (aI (qI (o2 fE (vr 3) (cn .non)) (o2 mI (o2 aV (o2 aW (vr 2) (cn (.int 0))) (o2 aW (vr 1) (cn (.int 2)))) (o2 aW (vr 3) (cn (.int 0)))))))
def dJ:List T->Rs T:=val 3 4 jF
def jD:En->Rs Fl:=
 (aw (qE 2 (eG (iS (vr 1)) [none] (gN 0) bT (aL (ac (vr 0) (ac (aL (ac (cn (.int 0)) (ac (dq ag) ag))) ag))))) (aw (cq (cn (.bl true)) (gN 3)) (aw (b8 (tb (vr 3)) (aw (cq (cn (.bl false)) (gN 3)) (dD (iE (ac (vr 0) ag)) (gT 2 (dY (gN 4) (dY (gN 5) kQ))) (aw (cq (ln 2 (oD jb (vr 2) (o2 aW (vr 5) (cn (.int 0))))) (gN 6)) (aw (d9 (lR (tb (o2 fE (vr 6) (cn .non))) (dX (F3 2 (tb (cl dJ (ac (vr 2) (ac (vr 5) (ac (vr 6) ag)))))))) D2 sN) (aw (cq (o2 aV (o2 aW (vr 6) (cn (.int 1))) (dq (ac (vr 4) ag))) (gN 7)) (aw (cq (eG (iS (vr 7)) [none,some 0] (gN 0) bT (o2 aW (o2 aW (vr 1) (vr 0)) (cn (.int 0)))) (gN 8)) (aw (d9 (tb (o2 GR (o2 aW (vr 5) (cn (.int 1))) (vr 8))) (aI (aL (ac (cn .non) (ac (sl (vr 7) (pS (oL gU (vr 8) (o2 aW (vr 5) (cn (.int 1))))) pN) ag)))) sN) (aw (yd 2 (o2 aW (vr 5) (cn (.int 1))) (aL (ac (o2 aV (o2 aW (vr 6) (cn (.int 0))) (o2 aW (vr 5) (cn (.int 2)))) (ac (vr 7) ag)))) (cq (cn (.bl true)) (gN 3)))))))))) FU) (k8 2 (aI (aL (ac (vr 2) (ac (cn .non) ag))))))))
def fP:List T->Rs T:=val 2 9 jD
def cZ:En->Rs Fl:=
 (aw (cq (cl dL (ac (vr 0) ag)) (gN 2)) (aw (cq (o2 aW (cl fP (ac (vr 1) (ac (vr 2) ag))) (cn (.int 0))) (gN 3)) (aw (d9 (tb (o2 fE (vr 3) (cn .non))) (aI (cn .non)) sN) (aI (cl fU (ac (eG (iS (vr 2)) [none,some 3] (gN 0) bT (o2 aW (o2 bu (vr 1) (vr 0)) (cn (.int 0)))) ag))))))
def br:List T->Rs T:=val 2 4 cZ
def fh:En->Rs Fl:=
 (aw (cq (o2 aW (vr 1) (cn (.int 2))) (gN 2)) (aw (gP 3 ag) (aw (dD (iR (ac (o2 eO (cl cx (ac (vr 2) ag)) (cn (.int 1))) ag)) (gN 4) (aw (cq (aL (ac (vr 0) (ac (vr 4) ag))) (gN 5)) (aw (cq (aL (ac (vr 0) (ac (o2 aV (vr 4) (cn (.int 1))) ag))) (gN 6)) (aw (cq (o2 eO (o2 aW (vr 2) (o2 aV (vr 4) (cn (.int 1)))) (o2 aW (vr 2) (vr 4))) (gN 7)) (aw (gL 3 (aL (ac (vr 5) (ac (vr 6) (ac (o2 bP (vr 7) (o2 aW (vr 1) (cn (.int 1)))) ag))))) (gL 3 (aL (ac (vr 6) (ac (vr 5) (ac (o2 bP (o1 oP (vr 7)) (o2 aW (vr 1) (cn (.int 0)))) ag)))))))))) (k8 3 (aI (vr 3))))))
def cK:List T->Rs T:=val 2 8 fh
def eC:En->Rs Fl:=
 (aw (gP 1 (ac (aL (ac (o2 aW (vr 0) (cn (.int 1))) (ac (o2 aW (vr 0) (cn (.int 0))) (ac (o1 oP (o2 aW (vr 0) (cn (.int 2)))) ag)))) ag)) (aw (d9 (tb (o2 cQ (o2 aW (vr 0) (cn (.int 3))) (cn .non))) (gL 1 (aL (ac (o2 aW (vr 0) (cn (.int 0))) (ac (o2 aW (vr 0) (cn (.int 1))) (ac (o2 aW (vr 0) (cn (.int 3))) ag))))) sN) (k8 1 (aI (vr 1)))))
def cw:List T->Rs T:=val 1 2 eC
def jG:En->Rs Fl:=
 (aw (tM (cl bx (ac (vr 0) ag))) (aw (gP 1 ag) (aw (dD (iE (ac (o2 aW (vr 0) (cn (.int 0))) ag)) (gT 2 (dY (gN 2) (dY (gN 3) kQ))) (n8 1 (cl cK (ac (vr 2) (ac (vr 3) ag))))) (aw (dD (iS (o2 aW (vr 0) (cn (.int 1)))) (gN 4) (n8 1 (cl cw (ac (vr 4) ag)))) (k8 1 (aI (vr 1)))))))
def dM:List T->Rs T:=val 1 5 jG
def DK:En->Rs Fl:=
 (aI (cl br (ac (vr 0) (ac (cl dM (ac (vr 0) ag)) ag))))
def iD:List T->Rs T:=val 1 1 DK
def vA:En->Rs Fl:=
 (aI (o2 cQ (cl iD (ac (vr 0) ag)) (cn .non)))
def fQ:List T->Rs T:=val 1 1 vA
def dg:En->Rs Fl:=
 (d9 (dX (tb (cl fQ (ac (vr 0) ag)))) (zG "NoWorld") sN)
def bU:List T->Rs T:=val 1 1 dg
def tK:En->Rs Fl:=
 (aI (o2 aW (cl fP (ac (cl dM (ac (vr 0) ag)) (ac (dq (ac (vr 1) ag)) ag))) (cn (.int 0))))
def c9:List T->Rs T:=val 2 2 tK
def zc:En->Rs Fl:=
 (aI (sV (tb (o2 BB (vr 1) (vr 0))) (o2 aW (o2 bu (vr 0) (vr 1)) (cn (.int 0))) (cn .non)))
def eF:List T->Rs T:=val 2 2 zc
def gK:En->Rs Fl:=
 (aw (tM (cl bU (ac (vr 0) ag))) (aw (cq (cl dL (ac (vr 0) ag)) (gN 1)) (aw (gP 2 ag) (aw (dD (iS (vr 1)) (gN 3) (aw (cq (cl c9 (ac (vr 0) (ac (vr 3) ag))) (gN 4)) (gL 2 (cl fU (ac (eG (iS (vr 1)) [none,some 4] (gN 0) bT (cl eF (ac (vr 1) (ac (vr 0) ag)))) ag))))) (aI (ln 2 (cl fU (ac (vr 2) ag))))))))
def gE:List T->Rs T:=val 1 5 gK
def ff:En->Rs Fl:=
 (aw (cq (cl gE (ac (vr 0) ag)) (gN 1)) (aw (cq (cl dL (ac (vr 0) ag)) (gN 2)) (aw (gP 3 ag) (aw (dD (iE (ac (vr 2) ag)) (gT 2 (dY (gN 4) (dY (gN 5) kQ))) (dD (iE (ac (vr 2) ag)) (gT 2 (dY (gN 6) (dY (gN 7) kQ))) (d9 (qm (tb (o2 cQ (o2 aW (o2 aW (vr 1) (vr 6)) (vr 4)) (cn .non))) (tb (o2 mI (o2 aW (o2 aW (vr 1) (vr 6)) (vr 4)) (cn (.int 0))))) (gL 3 (aL (ac (vr 5) (ac (vr 7) ag)))) sN))) (k8 3 (aI (vr 3)))))))
def cJ:List T->Rs T:=val 1 8 ff
def fg:En->Rs Fl:=
 (d9 (dX (tb (cl cN (ac (o2 aW (vr 0) (cn (.int 0))) (ac (vr 1) ag))))) (zG "NoEvent") sN)
def ci:List T->Rs T:=val 2 2 fg
def dh:En->Rs Fl:=
 (aw (tM (cl bx (ac (vr 0) ag))) (aw (dD (iS (vr 1)) (gN 2) (tM (cl ci (ac (vr 0) (ac (vr 2) ag))))) (aw (d9 (tb (o2 mY (cl nX (ac (vr 1) ag)) (cl dL (ac (vr 0) ag)))) (aI (cn (.bl false))) sN) (aw (cq (eG (iR (ac (o2 eO (cl cx (ac (vr 1) ag)) (cn (.int 1))) ag)) [none,some 1] (gN 0) bT (aL (ac (o2 aW (vr 1) (o2 aV (vr 0) (cn (.int 1)))) (ac (o2 aW (vr 1) (vr 0)) (ac (cn (.int 0)) ag))))) (gN 3)) (aI (o2 cQ (cl br (ac (vr 0) (ac (o2 aV (cl dM (ac (vr 0) ag)) (vr 3)) ag))) (cn .non)))))))
def bK:List T->Rs T:=val 2 4 dh
def bX:En->Rs Fl:=
 (aw (tM (cl bx (ac (vr 0) ag))) (aw (tM (cl ci (ac (vr 0) (ac (vr 1) ag)))) (tM (cl ci (ac (vr 0) (ac (vr 2) ag))))))
def bV:List T->Rs T:=val 3 3 bX
def cE:En->Rs Fl:=
 (aw (tM (cl bV (ac (vr 0) (ac (vr 1) (ac (vr 2) ag))))) (aw (tM (cl bU (ac (vr 0) ag))) (aI (cl eF (ac (cl c9 (ac (vr 0) (ac (vr 1) ag))) (ac (vr 2) ag))))))
def aM:List T->Rs T:=val 3 3 cE
def dt:En->Rs Fl:=
 (aw (cq (cl aM (ac (vr 0) (ac (vr 2) (ac (vr 1) ag)))) (gN 3)) (aI (sV (tb (o2 fE (vr 3) (cn .non))) (cn .non) (o1 oP (vr 3)))))
def dk:List T->Rs T:=val 3 4 dt
def dQ:En->Rs Fl:=
 (aw (cq (cl dk (ac (vr 0) (ac (vr 1) (ac (vr 2) ag)))) (gN 3)) (aI (bW (o2 cQ (vr 3) (cn .non)) (o2 BR (vr 3) (cn (.int 0))))))
def aU:List T->Rs T:=val 3 4 dQ
def d6:En->Rs Fl:=
 (aw (cq (cl aM (ac (vr 0) (ac (vr 1) (ac (vr 2) ag)))) (gN 3)) (aI (qI (o2 fE (vr 3) (cn .non)) (o2 BR (vr 3) (cn (.int 0))))))
def bo:List T->Rs T:=val 3 4 d6
def ni:En->Rs Fl:=
 (aI (bW (o1 sy (cl aU (ac (vr 0) (ac (vr 1) (ac (vr 2) ag))))) (o1 sy (cl aU (ac (vr 0) (ac (vr 2) (ac (vr 1) ag)))))))
def bA:List T->Rs T:=val 3 3 ni
def iu:En->Rs Fl:=
 (aw (d9 (tb (cl aU (ac (vr 0) (ac (vr 1) (ac (vr 2) ag))))) (aI (cn (.str "ahead"))) sN) (aw (d9 (tb (cl aU (ac (vr 0) (ac (vr 2) (ac (vr 1) ag))))) (aI (cn (.str "behind"))) sN) (aw (d9 (lR (tb (cl bo (ac (vr 0) (ac (vr 1) (ac (vr 2) ag))))) (tb (cl bo (ac (vr 0) (ac (vr 2) (ac (vr 1) ag)))))) (aI (cn (.str "open"))) sN) (aI (cn (.str "at once"))))))
def dR:List T->Rs T:=val 3 3 iu
def vB:En->Rs Fl:=
 (ui (aw (d9 (tb (o2 mI (vr 0) (cn (.int 4)))) (aI (vP [aU,bo,bA,dR] (vr 0) (ac (vr 1) (ac (vr 2) (ac (vr 3) ag))))) sN) (aI (sV (tb (o2 qi (vr 0) (cn (.int 4)))) (cl cJ (ac (vr 1) ag)) (cl bK (ac (vr 1) (ac (vr 2) ag)))))) m6)
def aB:List T->Rs T:=val 4 5 vB
def fF:En->Rs Fl:=
 (aw (cq (aL (ac (aL (ac (aL (ac (cn (.int 1)) (ac (cn (.int 1)) (ac (aL (ac (cn (.int 0)) (ac (cn (.int 1)) ag))) ag)))) ag)) (ac (aL ag) ag))) (gN 0)) (aw (cq (o2 aV (eG (iR (ac (cn (.int 4)) ag)) [none,some 0] (gN 0) bT (cl aB (ac (vr 0) (ac (vr 1) (ac (aL (ac (cn (.int 0)) (ac (cn (.int 0)) ag))) (ac (aL (ac (cn (.int 0)) (ac (cn (.int 1)) ag))) ag)))))) (dq (ac (cl aB (ac (cn (.int 4)) (ac (vr 0) (ac (cn .non) (ac (cn .non) ag))))) ag))) (gN 1)) (aI (o2 qi (vr 1) (dq (ac (cn (.bl true)) (ac (cn (.bl true)) (ac (cn (.bl false)) (ac (cn (.str "ahead")) (ac (dq (ac (aL (ac (aL (ac (cn (.int 0)) (ac (cn (.int 0)) ag))) (ac (aL (ac (cn (.int 0)) (ac (cn (.int 1)) ag))) ag))) ag)) ag))))))))))
def cV:List T->Rs T:=val 0 2 fF
def jH:En->Rs Fl:=
 (aw (d9 (tb (o2 qi (vr 0) (dq ag))) (aI (o2 bP (cn (.int 7)) (vr 1))) sN) (aI (o2 aV (o2 aW (vr 0) (o2 lq (vr 1) (cl cx (ac (vr 0) ag)))) (o2 bP (cn (.int 6553)) (o2 lF (vr 1) (cl cx (ac (vr 0) ag)))))))
def fR:List T->Rs T:=val 2 2 jH
def iU:En->Rs Fl:=
 (aw (cq (o2 lq (o2 aV (o2 bP (o2 lq (cl fR (ac (vr 0) (ac (vr 1) ag))) (cn (.int 2147483563))) (cn (.int 69069))) (o2 bP (cn (.int 104723)) (o2 aV (vr 1) (cn (.int 1))))) (cn (.int 2147483563))) (gN 3)) (aw (cq (o2 lq (o2 aV (o2 bP (vr 3) (vr 3)) (o2 lF (vr 3) (cn (.int 3)))) (cn (.int 2147483399))) (gN 3)) (aI (o2 lq (o2 lF (o2 lq (o2 aV (o2 bP (vr 3) (vr 3)) (o2 lF (vr 3) (cn (.int 7)))) (cn (.int 2147483647))) (cn (.int 11))) (vr 2)))))
def ax:List T->Rs T:=val 3 4 iU
def kC:En->Rs Fl:=
 (aw (cq (dq ag) (gN 1)) (aw (dD (iE (ac (vr 0) ag)) (gT 2 (dY (gN 2) (dY (gN 3) kQ))) (cq (o2 aV (vr 1) (eG (iR (ac (cl cx (ac (o2 aW (vr 3) (cn (.int 2))) ag)) ag)) [none,some 2] (gN 0) bT (aL (ac (vr 1) (ac (vr 0) ag))))) (gN 1))) (aI (vr 1))))
def cO:List T->Rs T:=val 1 4 kC
def d7:En->Rs Fl:=
 (aw (cq (cl cO (ac (vr 2) ag)) (gN 3)) (aw (d9 (tb (o2 mI (cl cx (ac (vr 3) ag)) (cn (.int 2)))) (aI (cn .non)) sN) (aw (cq (cl ax (ac (vr 0) (ac (vr 1) (ac (cl cx (ac (vr 3) ag)) ag)))) (gN 4)) (aw (cq (o2 lq (o2 aV (o2 aV (vr 4) (cn (.int 1))) (cl ax (ac (vr 0) (ac (o2 aV (vr 1) (cn (.int 1))) (ac (o2 eO (cl cx (ac (vr 3) ag)) (cn (.int 1))) ag))))) (cl cx (ac (vr 3) ag))) (gN 5)) (aw (cq (cl ax (ac (vr 0) (ac (o2 aV (vr 1) (cn (.int 2))) (ac (cn (.int 8)) ag)))) (gN 6)) (aw (cq (sV (tb (o2 qi (cl ax (ac (vr 0) (ac (o2 aV (vr 1) (cn (.int 3))) (ac (cn (.int 3)) ag)))) (cn (.int 0)))) (cn .non) (o2 aV (vr 6) (cl ax (ac (vr 0) (ac (o2 aV (vr 1) (cn (.int 4))) (ac (cn (.int 9)) ag)))))) (gN 7)) (aI (aL (ac (o2 aW (vr 3) (vr 4)) (ac (o2 aW (vr 3) (vr 5)) (ac (vr 6) (ac (vr 7) ag))))))))))))
def dv:List T->Rs T:=val 3 8 d7
def iV:En->Rs Fl:=
 (aw (cq (o2 aV (cn (.int 1)) (cl ax (ac (vr 0) (ac (vr 1) (ac (cn (.int 3)) ag))))) (gN 2)) (aw (cq (aL (ac (cl ax (ac (vr 0) (ac (o2 aV (vr 1) (cn (.int 2))) (ac (cn (.int 6)) ag)))) ag)) (gN 3)) (aw (dD (iR (ac (cl ax (ac (vr 0) (ac (o2 aV (vr 1) (cn (.int 1))) (ac (cn (.int 3)) ag)))) ag)) (gN 4) (cq (o2 aV (vr 3) (aL (ac (o2 aV (o2 aV (o2 aW (vr 3) (o1 oP (cn (.int 1)))) (cn (.int 1))) (cl ax (ac (vr 0) (ac (o2 aV (o2 aV (vr 1) (cn (.int 3))) (vr 4)) (ac (cn (.int 5)) ag))))) ag))) (gN 3))) (aI (aL (ac (vr 2) (ac (o2 aV (vr 2) (cl ax (ac (vr 0) (ac (o2 aV (vr 1) (cn (.int 6))) (ac (cn (.int 3)) ag))))) (ac (vr 3) ag))))))))
def cL:List T->Rs T:=val 2 5 iV
def ie:En->Rs Fl:=
 (aw (cq (cl fU (ac (eG (iR (ac (o2 aV (cn (.int 1)) (cl ax (ac (vr 0) (ac (vr 1) (ac (cn (.int 3)) ag))))) ag)) [none,some 0,some 1] (gN 0) bT (cl cL (ac (vr 1) (ac (o2 aV (o2 aV (vr 2) (cn (.int 1))) (o2 bP (cn (.int 8)) (vr 0))) ag)))) ag)) (gN 3)) (aw (cq (dq ag) (gN 4)) (aw (dD (iR (ac (cl ax (ac (vr 0) (ac (o2 aV (vr 1) (cn (.int 30))) (ac (o2 aV (vr 2) (cn (.int 1))) ag)))) ag)) (gN 5) (aw (cq (cl dv (ac (vr 0) (ac (o2 aV (o2 aV (vr 1) (cn (.int 31))) (o2 bP (cn (.int 6)) (vr 5))) (ac (vr 3) ag)))) (gN 6)) (cq (o2 aV (vr 4) (o2 bP (dq (ac (vr 6) ag)) (cl A3 (ac (o2 cQ (vr 6) (cn .non)) ag)))) (gN 4)))) (aI (aL (ac (vr 3) (ac (cl fU (ac (vr 4) ag)) ag)))))))
def fI:List T->Rs T:=val 3 7 ie
def ig:En->Rs Fl:=
 (aw (gP 1 ag) (aw (dD (iE (ac (o2 aW (vr 0) (cn (.int 0))) ag)) (gT 2 (dY (gN 2) (dY (gT 3 (dY (gN 3) (dY (gN 4) (dY (gN 5) kQ)))) kQ))) (dD (iR (ac (cn (.int 1)) (ac (cl cx (ac (vr 5) ag)) ag))) (gN 6) (aw (cq (o2 eO (o2 aW (vr 5) (vr 6)) (o2 aW (vr 5) (o2 eO (vr 6) (cn (.int 1))))) (gN 7)) (aw (gL 1 (aL (ac (aL (ac (vr 2) (ac (o2 eO (vr 6) (cn (.int 1))) ag))) (ac (aL (ac (vr 2) (ac (vr 6) ag))) (ac (o2 bP (vr 4) (vr 7)) ag))))) (gL 1 (aL (ac (aL (ac (vr 2) (ac (vr 6) ag))) (ac (aL (ac (vr 2) (ac (o2 eO (vr 6) (cn (.int 1))) ag))) (ac (o2 eO (cn (.int 0)) (o2 bP (vr 3) (vr 7))) ag))))))))) (aw (dD (iS (o2 aW (vr 0) (cn (.int 1)))) (gT 4 (dY (gN 8) (dY (gN 9) (dY (gN 10) (dY (gN 11) kQ))))) (aw (gL 1 (aL (ac (vr 9) (ac (vr 8) (ac (o2 eO (cn (.int 0)) (vr 10)) ag))))) (d9 (tb (o2 cQ (vr 11) (cn .non))) (gL 1 (aL (ac (vr 8) (ac (vr 9) (ac (vr 11) ag))))) sN))) (k8 1 (aI (vr 1))))))
def fJ:List T->Rs T:=val 1 12 ig
def iQ:En->Rs Fl:=
 (aw (n6 2 0) (aw (dD (iS (vr 0)) (gN 3) (i6 2 (vr 3) (vr 3) (cn (.int 0)))) (aw (dD (iS (vr 1)) (gT 3 (dY (gN 3) (dY (gN 4) (dY (gN 5) kQ)))) (d9 (lR (tb (o2 fE (ln 2 (o2 bu (o2 bu (vr 2) (vr 3)) (vr 4))) (cn .non))) (tb (o2 mI (vr 5) (ln 2 (o2 bu (o2 bu (vr 2) (vr 3)) (vr 4)))))) (i6 2 (vr 3) (vr 4) (vr 5)) sN)) (aw (dD (iS (vr 0)) (gN 6) (dD (iS (vr 0)) (gN 3) (dD (iS (vr 0)) (gN 4) (d9 (qm (tb (o2 cQ (ln 2 (o2 bu (o2 bu (vr 2) (vr 3)) (vr 6))) (cn .non))) (tb (o2 cQ (ln 2 (o2 bu (o2 bu (vr 2) (vr 6)) (vr 4))) (cn .non)))) (aw (cq (o2 aV (ln 2 (o2 bu (o2 bu (vr 2) (vr 3)) (vr 6))) (ln 2 (o2 bu (o2 bu (vr 2) (vr 6)) (vr 4)))) (gN 7)) (d9 (lR (tb (o2 fE (ln 2 (o2 bu (o2 bu (vr 2) (vr 3)) (vr 4))) (cn .non))) (tb (o2 mI (vr 7) (ln 2 (o2 bu (o2 bu (vr 2) (vr 3)) (vr 4)))))) (i6 2 (vr 3) (vr 4) (vr 7)) sN)) sN)))) (k8 2 (aI (sV (tb (o2 qi (eG (iS (vr 0)) [none,some 2] (gN 0) (tb (o2 mI (o2 bu (o2 bu (vr 1) (vr 0)) (vr 0)) (cn (.int 0)))) (vr 0)) (dq ag))) (vr 2) (cn .non))))))))
def eX:List T->Rs T:=val 2 8 iQ
def kP:En->Rs Fl:=
 (aw (cq (o2 bu (o2 bu (vr 0) (vr 1)) (vr 2)) (gN 3)) (aw (cq (o2 bu (o2 bu (vr 0) (vr 2)) (vr 1)) (gN 4)) (aw (cq (bW (o2 cQ (vr 4) (cn .non)) (o2 mI (vr 4) (cn (.int 0)))) (gN 5)) (aw (cq (bW (o2 cQ (vr 3) (cn .non)) (o2 mI (vr 3) (cn (.int 0)))) (gN 6)) (aw (cq (qI (o2 fE (vr 3) (cn .non)) (qI (o2 BR (vr 3) (cn (.int 0))) (qI (o2 fE (vr 4) (cn .non)) (o2 BR (vr 4) (cn (.int 0)))))) (gN 7)) (aw (cq (sV (tb (vr 5)) (cn (.str "ahead")) (sV (tb (vr 6)) (cn (.str "behind")) (sV (tb (vr 7)) (cn (.str "open")) (cn (.str "at once"))))) (gN 8)) (aI (dq (ac (vr 5) (ac (qI (o2 fE (vr 3) (cn .non)) (o2 BR (vr 3) (cn (.int 0)))) (ac (bW (o1 sy (vr 5)) (o1 sy (vr 6))) (ac (vr 8) ag))))))))))))
def dN:List T->Rs T:=val 3 9 kP
def hZ:En->Rs Fl:=
 (aw (cq (cl fI (ac (vr 0) (ac (cn (.int 0)) (ac (cn (.int 5)) ag)))) (gN 1)) (aw (cq (cl cO (ac (o2 aW (vr 1) (cn (.int 0))) ag)) (gN 2)) (aw (cq (cl fJ (ac (vr 1) ag)) (gN 3)) (aw (cq (cl eX (ac (vr 2) (ac (vr 3) ag))) (gN 4)) (aw (gP 5 ag) (aw (dD (iE (ac (vr 2) ag)) (gT 2 (dY (gN 6) (dY (gN 7) kQ))) (aw (cq (o2 aW (dq (ac (ln 5 (cl cx (ac (vr 5) ag))) (ac (ln 5 (cl cx (ac (vr 5) ag))) (ac (cn (.int 0)) ag)))) (cl ax (ac (vr 0) (ac (o2 aV (cn (.int 80)) (vr 6)) (ac (cn (.int 3)) ag))))) (gN 8)) (vV 5 (ac (vr 8) (ac (vr 7) ag))))) (aw (k8 5 (cq (eG (iZ (ac (vr 5) (ac (sl (vr 5) (pS (cn (.int 1))) pN) ag))) [none,none] (gT 2 (dY (gN 0) (dY (gN 1) kQ))) bT (aL (ac (vr 1) (ac (vr 0) (ac (cn (.int 0)) ag))))) (gN 9))) (aw (d9 (tb (o2 mY (cl aB (ac (cn (.int 5)) (ac (vr 1) (ac (vr 5) (ac (cn .non) ag))))) (o2 cQ (cl eX (ac (vr 2) (ac (o2 aV (vr 3) (vr 9)) ag))) (cn .non)))) (aI (cn (.bl false))) sN) (aw (d9 (lR (tb (o2 mY (cl aB (ac (cn (.int 5)) (ac (vr 1) (ac (sl (vr 5) (pS (cn (.int 1))) pN) (ac (cn .non) ag))))) (cn (.bl false)))) (tb (o2 mY (cl aB (ac (cn (.int 5)) (ac (vr 1) (ac (o2 aV (vr 5) (sl (vr 5) pN (pS (cn (.int 1))))) (ac (cn .non) ag))))) (cn (.bl false))))) (aI (cn (.bl false))) sN) (aw (cq (o2 aW (dq (ac (cn .non) (ac (aL (ac (cn (.int 0)) ag)) (ac (aL (ac (cn (.int 9)) (ac (cn (.int 0)) ag))) (ac (aL (ac (cn (.int 0)) (ac (cn (.int 9)) ag))) (ac (dq (ac (cn (.int 0)) (ac (cn (.int 0)) ag))) (ac (aL (ac (cn (.bl true)) (ac (cn (.int 0)) ag))) (ac (cn (.str "0.0")) ag)))))))) (cl ax (ac (vr 0) (ac (cn (.int 120)) (ac (cn (.int 7)) ag))))) (gN 10)) (aw (dD (iR (ac (cn (.int 4)) ag)) (gN 11) (aw (d9 (tb (o2 mY (cl aB (ac (vr 11) (ac (vr 1) (ac (vr 10) (ac (o2 aW (vr 2) (cn (.int 0))) ag))))) (aL (ac (cn (.str "refused")) (ac (cn (.int 1)) ag))))) (aI (cn (.bl false))) sN) (d9 (tb (o2 mY (cl aB (ac (vr 11) (ac (vr 1) (ac (o2 aW (vr 2) (cn (.int 0))) (ac (vr 10) ag))))) (aL (ac (cn (.str "refused")) (ac (cn (.int 1)) ag))))) (aI (cn (.bl false))) sN))) (aw (d9 (tb (o2 mY (eG (iR (ac (cn (.int 6)) ag)) [none,some 1,some 10] (gN 0) bT (cl aB (ac (vr 0) (ac (sl (vr 1) pN (pS (cn (.int 1)))) (ac (vr 2) (ac (vr 2) ag)))))) (o2 bP (dq (ac (aL (ac (cn (.str "refused")) (ac (cn (.int 0)) ag))) ag)) (cn (.int 6))))) (aI (cn (.bl false))) sN) (aw (d9 (tb (o2 fE (vr 4) (cn .non))) (aI (o2 qi (eG (iR (ac (cn (.int 5)) ag)) [none,some 1,some 2] (gN 0) bT (cl aB (ac (vr 0) (ac (vr 1) (ac (o2 aW (vr 2) (cn (.int 0))) (ac (o2 aW (vr 2) (o1 oP (cn (.int 1)))) ag)))))) (o2 bP (dq (ac (aL (ac (cn (.str "refused")) (ac (cn (.int 3)) ag))) ag)) (cn (.int 5))))) sN) (aw (cq (dq ag) (gN 12)) (aw (dD (iS (vr 2)) (gN 13) (cq (o2 aV (vr 12) (eG (iS (vr 2)) [none,some 13,some 4] (gN 0) (tb (o2 aW (cl dN (ac (vr 2) (ac (vr 1) (ac (vr 0) ag)))) (cn (.int 0)))) (aL (ac (vr 1) (ac (vr 0) ag))))) (gN 12))) (aw (dD (iR (ac (cn (.int 3)) ag)) (gN 6) (aw (cq (o2 aW (vr 2) (cl ax (ac (vr 0) (ac (o2 aV (cn (.int 130)) (o2 bP (cn (.int 2)) (vr 6))) (ac (cl cx (ac (vr 2) ag)) ag))))) (gN 13)) (aw (cq (o2 aW (vr 2) (cl ax (ac (vr 0) (ac (o2 aV (cn (.int 131)) (o2 bP (cn (.int 2)) (vr 6))) (ac (cl cx (ac (vr 2) ag)) ag))))) (gN 14)) (d9 (tb (o2 mY (eG (iR (ac (cn (.int 4)) ag)) [none,some 1,some 13,some 14] (gN 0) bT (cl aB (ac (vr 0) (ac (vr 1) (ac (vr 2) (ac (vr 3) ag)))))) (cl dN (ac (vr 4) (ac (vr 13) (ac (vr 14) ag)))))) (aI (cn (.bl false))) sN)))) (aI (o2 qi (cl aB (ac (cn (.int 4)) (ac (vr 1) (ac (cn .non) (ac (cn .non) ag))))) (vr 12)))))))))))))))))))
def fH:List T->Rs T:=val 1 15 hZ
def IM:En->Rs Fl:=
 (aI (bW (c0 cV) (cl fH (ac (vr 0) ag))))
def m_law:List T->Rs T:=val 1 1 IM
end G
namespace G
open PySem PySem.Spec PyProof.Rows L2 Tr
section
variable (P:KS)(w:LA){K:Km}{mg:Str->Option Kq}(base:Heap)
abbrev nW:Stmt:=top 17
abbrev we:List Str:=["thing","least","most"]
theorem vU:aA we ["thing","least","most"] (ak nW):=gd
theorem v8 (F:gf K mg "is_long" nW ["thing","least","most"])(B:Bl mg):Cl P w K mg base 1 "is_long" 3 aP:=
 bj F vU rfl λf c A o s H E hr x=>(ao (ay (cT (zk B.b_isinstance B.b_tuple dw (ad 0)) (cG (tR xb xb (ad 1) (dA df B.b_len MB (ae (ad 0) af)) (ad 2))))))
abbrev mB:Stmt:=top 15
abbrev uN:List Str:=["thing"]
theorem ue:aA uN ["thing"] (ak mB):=gd
theorem uE (F:gf K mg "is_whole" mB ["thing"])(B:Bl mg):Cl P w K mg base 1 "is_whole" 1 iF:=
 bj F ue rfl λf c A o s H E hr x=>(ao (ay (cT (zk B.b_isinstance B.b_int mP (ad 0)) (cG (nK (zk B.b_isinstance B.b_bool tD (ad 0)))))))
abbrev kW:Stmt:=top 16
abbrev sB:List Str:=["thing","least","most"]
theorem rJ:aA sB ["thing","least","most"] (ak kW):=gd
theorem se (F:gf K mg "is_within" kW ["thing","least","most"])(ab3:Cl P w K mg base 1 "is_whole" 1 iF):Cl P w K mg base 2 "is_within" 3 bh:=
 bj F rJ rfl λf c A o s H E hr x=>(ao (ay (cT (aK ab3 hr (ae (ad 0) af)) (cG (tR xb xb (ad 1) (ad 0) (ad 2))))))
abbrev nV:Stmt:=top 20
abbrev wc:List Str:=["slow","fast"]
theorem vS:aA wc ["slow","fast"] (ak nV):=gd
theorem v7 (F:gf K mg "is_pace" nV ["slow","fast"])(aa4:Cl P w K mg base 2 "is_within" 3 bh)(C:Cs mg):Cl P w K mg base 3 "is_pace" 2 gp:=
 bj F vS rfl λf c A o s H E hr x=>(ao (ay (cT (aK aa4 hr (ae (ad 0) (ae ah (ae (tQ C.SLOWEST) af)))) (cG (aK aa4 hr (ae (ad 1) (ae (ad 0) (ae (tQ C.SLOWEST) af))))))))
abbrev nT:Stmt:=top 18
abbrev uM:List Str:=["numbers"]
theorem zF:aA uM ["numbers"] (ak nT):=gd
theorem At (F:gf K mg "rises" nT ["numbers"])(B:Bl mg):Cl P w K mg base 1 "rises" 1 jO:=
 bj F zF rfl λf c A o s H E hr x=>(ao (ay (dA (tu rfl) B.b_all boot_all (ae (f9 (N':=["k","numbers"]) (src:=[none,some 0]) rfl (LcScope.by (N:=uM) (names:=(ak nT).names) rfl rfl rfl (by decide+kernel)) (bJ B.b_range (ae (au fB (dA df B.b_len MB (ae (ad 0) af)) ah) af)) (λ_ _ _ _ _=>⟨(ai 0 (show Lh (["k","numbers"]:List Str)by decide+kernel)),bY,(bZ ko (aH (ad 1) (ad 0)) (aH (ad 1) (au aS (ad 0) ah)))⟩)) af))))
abbrev fW:Stmt:=top 19
abbrev i8:List Str:=["thing"]
theorem mS:aA i8 ["thing"] (ak fW):=gd
theorem mV (F:gf K mg "are_readings" fW ["thing"])(aa2:Cl P w K mg base 1 "is_long" 3 aP)(abb:Cl P w K mg base 1 "rises" 1 jO)(aa4:Cl P w K mg base 2 "is_within" 3 bh)(B:Bl mg)(C:Cs mg):Cl P w K mg base 3 "are_readings" 1 b9:=
 bj F mS rfl λf c A o s H E hr x=>(aj (bH (gg (cF (aK aa2 hr (ae (ad 0) (ae ah (ae (tQ C.MOST_READINGS) af)))))) (ao (ay eM)) bi) (ao (ay (cT (dA (tu rfl) B.b_all boot_all (ae (f9 (N':=["part"]) (src:=[none]) rfl (LcScope.by (N:=i8) (names:=(ak fW).names) rfl rfl rfl (by decide+kernel)) (bS (ad 0)) (λ_ _ _ _ _=>⟨(ai 0 (show Lh (["part"]:List Str)by decide+kernel)),bY,(aK aa4 hr (ae (ad 0) (ae ah (ae (tQ C.LAST_READING) af))))⟩)) af)) (cG (aK abb hr (ae (ad 0) af)))))))
abbrev mF:Stmt:=top 21
abbrev uQ:List Str:=["thing"]
theorem uh:aA uQ ["thing"] (ak mF):=gd
theorem uH (F:gf K mg "is_clock" mF ["thing"])(aa2:Cl P w K mg base 1 "is_long" 3 aP)(ab7:Cl P w K mg base 3 "is_pace" 2 gp)(aaD:Cl P w K mg base 3 "are_readings" 1 b9):Cl P w K mg base 4 "is_clock" 1 dI:=
 bj F uh rfl λf c A o s H E hr x=>(ao (ay (cT (aK aa2 hr (ae (ad 0) (ae ah (ae ah af)))) (cT (aK ab7 hr (ae (aH (ad 0) ah) (ae (aH (ad 0) ah) af))) (cG (aK aaD hr (ae (aH (ad 0) ah) af)))))))
abbrev g8:Stmt:=top 22
abbrev kt:List Str:=["thing"]
theorem pK:aA kt ["thing"] (ak g8):=gd
theorem pV (F:gf K mg "are_clocks" g8 ["thing"])(aa2:Cl P w K mg base 1 "is_long" 3 aP)(ab4:Cl P w K mg base 4 "is_clock" 1 dI)(B:Bl mg)(C:Cs mg):Cl P w K mg base 5 "are_clocks" 1 dS:=
 bj F pK rfl λf c A o s H E hr x=>(ao (ay (cT (aK aa2 hr (ae (ad 0) (ae ah (ae (tQ C.MOST_CLOCKS) af)))) (cG (dA (tu rfl) B.b_all boot_all (ae (f9 (N':=["part"]) (src:=[none]) rfl (LcScope.by (N:=kt) (names:=(ak g8).names) rfl rfl rfl (by decide+kernel)) (bS (ad 0)) (λ_ _ _ _ _=>⟨(ai 0 (show Lh (["part"]:List Str)by decide+kernel)),bY,(aK ab4 hr (ae (ad 0) af))⟩)) af))))))
abbrev mC:Stmt:=top 23
abbrev uO:List Str:=["clocks","thing"]
theorem uf:aA uO ["clocks","thing"] (ak mC):=gd
theorem uF (F:gf K mg "is_event" mC ["clocks","thing"])(aa4:Cl P w K mg base 2 "is_within" 3 bh)(aa2:Cl P w K mg base 1 "is_long" 3 aP)(B:Bl mg):Cl P w K mg base 3 "is_event" 2 cN:=
 bj F uf rfl λf c A o s H E hr x=>(aj (bH (kR (kD (gg (cF (aK aa2 hr (ae (ad 1) (ae ah (ae ah af)))))) (iw (gg (cF (aK aa4 hr (ae (aH (ad 1) ah) (ae ah (ae (au fB (dA df B.b_len MB (ae (ad 0) af)) ah) af))))))))) (ao (ay eM)) bi) (ao (ay (aK aa4 hr (ae (aH (ad 1) ah) (ae ah (ae (au fB (dA df B.b_len MB (ae (aH (aH (ad 0) (aH (ad 1) ah)) ah) af)) ah) af)))))))
abbrev mE:Stmt:=top 24
abbrev uP:List Str:=["least","most"]
theorem ug:aA uP ["least","most"] (ak mE):=gd
theorem uG (F:gf K mg "is_delay" mE ["least","most"])(aa4:Cl P w K mg base 2 "is_within" 3 bh)(C:Cs mg):Cl P w K mg base 3 "is_delay" 2 ez:=
 bj F ug rfl λf c A o s H E hr x=>(ao (ay (cT (aK aa4 hr (ae (ad 0) (ae ah (ae (tQ C.LONGEST) af)))) (cG (nJ (bZ i7 (ad 1) aZ) (cG (aK aa4 hr (ae (ad 1) (ae (ad 0) (ae (tQ C.LONGEST) af))))))))))
abbrev kY:Stmt:=top 25
abbrev sG:List Str:=["clocks","thing"]
theorem rL:aA sG ["clocks","thing"] (ak kY):=gd
theorem sg (F:gf K mg "is_letter" kY ["clocks","thing"])(aao:Cl P w K mg base 3 "is_event" 2 cN)(aa2:Cl P w K mg base 1 "is_long" 3 aP)(ab5:Cl P w K mg base 3 "is_delay" 2 ez):Cl P w K mg base 4 "is_letter" 2 ck:=
 bj F rL rfl λf c A o s H E hr x=>(aj (bH (kR (kD (gg (cF (aK aa2 hr (ae (ad 1) (ae ah (ae ah af)))))) (iw (gg (cF (aK ab5 hr (ae (aH (ad 1) ah) (ae (aH (ad 1) ah) af)))))))) (ao (ay eM)) bi) (ao (ay (cT (aK aao hr (ae (ad 0) (ae (aH (ad 1) ah) af))) (cT (aK aao hr (ae (ad 0) (ae (aH (ad 1) ah) af))) (cG (bZ (lf (jY hr)) (aH (ad 1) ah) (aH (ad 1) ah))))))))
abbrev gy:Stmt:=top 26
abbrev jq:List Str:=["clocks","thing"]
theorem n5:aA jq ["clocks","thing"] (ak gy):=gd
theorem oq (F:gf K mg "are_letters" gy ["clocks","thing"])(aa2:Cl P w K mg base 1 "is_long" 3 aP)(aaX:Cl P w K mg base 4 "is_letter" 2 ck)(B:Bl mg)(C:Cs mg):Cl P w K mg base 5 "are_letters" 2 du:=
 bj F n5 rfl λf c A o s H E hr x=>(ao (ay (cT (aK aa2 hr (ae (ad 1) (ae ah (ae (tQ C.MOST_LETTERS) af)))) (cG (dA (tu rfl) B.b_all boot_all (ae (f9 (N':=["part","clocks"]) (src:=[none,some 0]) rfl (LcScope.by (N:=jq) (names:=(ak gy).names) rfl rfl rfl (by decide+kernel)) (bS (ad 1)) (λ_ _ _ _ _=>⟨(ai 0 (show Lh (["part","clocks"]:List Str)by decide+kernel)),bY,(aK aaX hr (ae (ad 1) (ae (ad 0) af)))⟩)) af))))))
abbrev kX:Stmt:=top 27
abbrev sC:List Str:=["thing"]
theorem rK:aA sC ["thing"] (ak kX):=gd
theorem sf (F:gf K mg "is_record" kX ["thing"])(aa2:Cl P w K mg base 1 "is_long" 3 aP)(aaP:Cl P w K mg base 5 "are_clocks" 1 dS)(aaG:Cl P w K mg base 5 "are_letters" 2 du):Cl P w K mg base 6 "is_record" 1 dH:=
 bj F rK rfl λf c A o s H E hr x=>(ao (ay (cT (aK aa2 hr (ae (ad 0) (ae ah (ae ah af)))) (cT (aK aaP hr (ae (aH (ad 0) ah) af)) (cG (aK aaG hr (ae (aH (ad 0) ah) (ae (aH (ad 0) ah) af))))))))
abbrev jh:Stmt:=top 28
abbrev oJ:List Str:=["thing"]
theorem nZ:aA oJ ["thing"] (ak jh):=gd
theorem ol (F:gf K mg "need_record" jh ["thing"])(aaY:Cl P w K mg base 6 "is_record" 1 dH){C_NoRecord C_NoEvent C_NoNumber C_NoWorld C_Barred C_Nothing C_ClockError:Addr}(S:Xs K mg C_NoRecord C_NoEvent C_NoNumber C_NoWorld C_Barred C_Nothing C_ClockError):Cl P w K mg base 7 "need_record" 1 bx:=
 bj F nZ rfl λf c A o s H E hr x=>(ao (bH (gg (cF (aK aaY hr (ae (ad 0) af)))) (ao (lM S.o_NoRecord S.m_NoRecord)) bi))
abbrev lN:Stmt:=top 30
abbrev qK:List Str:=["record","told","number","clock"]
theorem aaV:aA qK ["record"] (ak lN):=gd
theorem yi (F:gf K mg "events" lN ["record"])(aa6:Cl P w K mg base 7 "need_record" 1 bx)(B:Bl mg):Cl P w K mg base 8 "events" 1 dL:=
 bj F aaV rfl λf c A o s H E hr x=>(by(apply aj;exact(dW (aK aa6 hr (ae (ad 0) af)));apply aj;exact(fL 1 aaV.nd af);apply aj;exact(bF rfl (fM B.b_enumerate (ae (aH (ad 0) ah) af)) (d8 rfl (aN (ai 2 aaV.nd) (aN (ai 3 aaV.nd) di))) (ao (ro 1 (f9 (N':=["k","number"]) (src:=[none,some 2]) rfl (LcScope.by (N:=qK) (names:=(ak lN).names) rfl rfl rfl (by decide+kernel)) (bJ B.b_range (ae (dA df B.b_len MB (ae (aH (ad 3) ah) af)) af)) (λ_ _ _ _ _=>⟨(ai 0 (show Lh (["k","number"]:List Str)by decide+kernel)),bY,(aO (ae (ad 1) (ae (ad 0) af)))⟩)))));exact ao (gh 1 (ay (ad 1)))))
abbrev kZ:Stmt:=top 37
abbrev sH:List Str:=["best","bound","ahead","known"]
theorem ab8:aA sH ["best","bound","ahead"] (ak kZ):=gd
theorem sh (F:gf K mg "is_better" kZ ["best","bound","ahead"]):Cl P w K mg base 1 "is_better" 3 dJ:=
 bj F ab8 rfl λf c A o s H E hr x=>(aj (aD (wI (kL hr) (ad 0) (aH (ad 1) ah)) (ai 3 ab8.nd)) (ao (ay (nJ (bZ i7 (ad 3) aZ) (cG (bZ ko (au aS (aH (ad 2) ah) (aH (ad 1) ah)) (aH (ad 3) ah)))))))
abbrev jI:Stmt:=top 36
abbrev lX:List Str:=["limits","starts","best","moved","number","bound","ahead","walk","passed"]
theorem aae:aA lX ["limits","starts"] (ak jI):=gd
theorem yh (F:gf K mg "settle" jI ["limits","starts"])(aaZ:Cl P w K mg base 1 "is_better" 3 dJ)(B:Bl mg):Cl P w K mg base 2 "settle" 2 fP:=
 bj F aae rfl λf c A o s H E hr x=>(by(apply aj;exact(zj 2 (hu8 hr) rfl B.b_dict aae.nd (f9 (N':=["event"]) (src:=[none]) rfl (LcScope.by (N:=lX) (names:=(ak jI).names) rfl rfl rfl (by decide+kernel)) (bS (ad 1)) (λ_ _ _ _ _=>⟨(ai 0 (show Lh (["event"]:List Str)by decide+kernel)),bY,(aO (ae (ad 0) (ae (aO (ae ah (ae (dy af) af))) af)))⟩)));apply aj;exact(aD eM (ai 3 aae.nd));apply aj;exact(xX FU (cF (ad 3)) (aj (aD eM (ai 3 aae.nd)) (ao (bF rfl (fM B.b_enumerate (ae (ad 0) af)) (d8 rfl (aN (ai 4 aae.nd) (aN (ai 5 aae.nd) di))) (by(apply aj;exact(aD (iW 2 (wI (kL hr) (ad 2) (aH (ad 5) ah))) (ai 6 aae.nd));apply aj;exact(bH (kR (kD (ba i7 (ad 6) aZ) (iw (gg (Et 2 (cF (aK aaZ hr (ae (ad 2) (ae (ad 5) (ae (ad 6) af)))))))))) (ao Eu) bi);apply aj;exact(aD (au aS (aH (ad 6) ah) (dy (ae (ad 4) af))) (ai 7 aae.nd));apply aj;exact(vE 8 (N':=["step","limits"]) (src:=[none,some 0]) rfl (LcScope.by (N:=lX) (names:=(ak jI).names) rfl rfl rfl (by decide+kernel)) (bS (ad 7)) (λ_ _ _ _ _=>⟨(ai 0 (show Lh (["step","limits"]:List Str)by decide+kernel)),bY,(aH (aH (ad 1) (ad 0)) ah)⟩) aae.nd);apply aj;exact(bH (ba (HI (Iu hr)) (aH (ad 5) ah) (ad 8)) (ao (ay (aO (ae aZ (ae (jf (ad 7) (jd (xZ (Iu hr) (ad 8) (aH (ad 5) ah))) je) af))))) bi);apply aj;exact(BX 2 (kL hr) (aH (ad 5) ah) (aO (ae (au aS (aH (ad 6) ah) (aH (ad 5) ah)) (ae (ad 7) af))));exact ao (aD eM (ai 3 aae.nd))))))));exact ao (gh 2 (ay (aO (ae (ad 2) (ae aZ af)))))))
abbrev eQ:Stmt:=top 39
abbrev gR:List Str:=["record","limits","places","best"]
theorem aas:aA gR ["record","limits"] (ak eQ):=gd
theorem lg (F:gf K mg "greatest_world" eQ ["record","limits"])(aac:Cl P w K mg base 8 "events" 1 dL)(aaE:Cl P w K mg base 2 "settle" 2 fP)(B:Bl mg):Cl P w K mg base 9 "greatest_world" 2 br:=
 bj F aas rfl λf c A o s H E hr x=>(by(apply aj;exact(aD (aK aac hr (ae (ad 0) af)) (ai 2 aas.nd));apply aj;exact(aD (aH (aK aaE hr (ae (ad 1) (ae (ad 2) af))) ah) (ai 3 aas.nd));apply aj;exact(bH (ba i7 (ad 3) aZ) (ao (ay aZ)) bi);exact ao (ay (qu jB B.b_tuple dw (ae (f9 (N':=["event","best"]) (src:=[none,some 3]) rfl (LcScope.by (N:=gR) (names:=(ak eQ).names) rfl rfl rfl (by decide+kernel)) (bS (ad 2)) (λ_ _ _ _ _=>⟨(ai 0 (show Lh (["event","best"]:List Str)by decide+kernel)),bY,(aH (cg (kL hr) (ad 1) (ad 0)) ah)⟩)) af)))))
abbrev gx:Stmt:=top 32
abbrev kI:List Str:=["number","clock","readings","told","k","first","second","steps"]
theorem aa8:aA kI ["number","clock"] (ak gx):=gd
theorem kG (F:gf K mg "bounds_of_clock" gx ["number","clock"])(B:Bl mg):Cl P w K mg base 1 "bounds_of_clock" 2 cK:=
 bj F aa8 rfl λf c A o s H E hr x=>(by(apply aj;exact(aD (aH (ad 1) ah) (ai 2 aa8.nd));apply aj;exact(fL 3 aa8.nd af);apply aj;exact(bF rfl (bJ B.b_range (ae (au fB (dA df B.b_len MB (ae (ad 2) af)) ah) af)) (ai 4 aa8.nd) (by(apply aj;exact(aD (aO (ae (ad 0) (ae (ad 4) af))) (ai 5 aa8.nd));apply aj;exact(aD (aO (ae (ad 0) (ae (au aS (ad 4) ah) af))) (ai 6 aa8.nd));apply aj;exact(aD (au fB (aH (ad 2) (au aS (ad 4) ah)) (aH (ad 2) (ad 4))) (ai 7 aa8.nd));apply aj;exact(gi 3 (aO (ae (ad 5) (ae (ad 6) (ae (au cI (ad 7) (aH (ad 1) ah)) af)))));exact ao (gi 3 (aO (ae (ad 6) (ae (ad 5) (ae (au cI (nL (ad 7)) (aH (ad 1) ah)) af))))))));exact ao (gh 3 (ay (ad 3)))))
abbrev gc:Stmt:=top 33
abbrev jX:List Str:=["letter","told"]
theorem aaC:aA jX ["letter"] (ak gc):=gd
theorem jW (F:gf K mg "bounds_of_letter" gc ["letter"]):Cl P w K mg base 1 "bounds_of_letter" 1 cw:=
 bj F aaC rfl λf c A o s H E hr x=>(by(apply aj;exact(fL 1 aaC.nd (ae (aO (ae (aH (ad 0) ah) (ae (aH (ad 0) ah) (ae (nL (aH (ad 0) ah)) af)))) af));apply aj;exact(bH (ba dj (aH (ad 0) ah) aZ) (ao (gi 1 (aO (ae (aH (ad 0) ah) (ae (aH (ad 0) ah) (ae (aH (ad 0) ah) af)))))) bi);exact ao (gh 1 (ay (ad 1)))))
abbrev qC:Stmt:=top 34
abbrev yn:List Str:=["record","told","number","clock","letter"]
theorem aaF:aA yn ["record"] (ak qC):=gd
theorem yj (F:gf K mg "bounds" qC ["record"])(aa6:Cl P w K mg base 7 "need_record" 1 bx)(aat:Cl P w K mg base 1 "bounds_of_clock" 2 cK)(aar:Cl P w K mg base 1 "bounds_of_letter" 1 cw)(B:Bl mg):Cl P w K mg base 8 "bounds" 1 dM:=
 bj F aaF rfl λf c A o s H E hr x=>(by(apply aj;exact(dW (aK aa6 hr (ae (ad 0) af)));apply aj;exact(fL 1 aaF.nd af);apply aj;exact(bF rfl (fM B.b_enumerate (ae (aH (ad 0) ah) af)) (d8 rfl (aN (ai 2 aaF.nd) (aN (ai 3 aaF.nd) di))) (ao (ro 1 (aK aat hr (ae (ad 2) (ae (ad 3) af))))));apply aj;exact(bF rfl (bS (aH (ad 0) ah)) (ai 4 aaF.nd) (ao (ro 1 (aK aar hr (ae (ad 4) af)))));exact ao (gh 1 (ay (ad 1)))))
abbrev tY:Stmt:=top 40
abbrev Ax:List Str:=["record"]
theorem zE:aA Ax ["record"] (ak tY):=gd
theorem Aq (F:gf K mg "world" tY ["record"])(aab:Cl P w K mg base 9 "greatest_world" 2 br)(aap:Cl P w K mg base 8 "bounds" 1 dM):Cl P w K mg base 10 "world" 1 iD:=
 bj F zE rfl λf c A o s H E hr x=>(ao (ay (aK aab hr (ae (ad 0) (ae (aK aap hr (ae (ad 0) af)) af)))))
abbrev k4:Stmt:=top 41
abbrev sI:List Str:=["record"]
theorem rM:aA sI ["record"] (ak k4):=gd
theorem si (F:gf K mg "has_world" k4 ["record"])(abc:Cl P w K mg base 10 "world" 1 iD):Cl P w K mg base 11 "has_world" 1 fQ:=
 bj F rM rfl λf c A o s H E hr x=>(ao (ay (bZ dj (aK abc hr (ae (ad 0) af)) aZ)))
abbrev kj:Stmt:=top 42
abbrev qe:List Str:=["record"]
theorem pI:aA qe ["record"] (ak kj):=gd
theorem pR (F:gf K mg "need_world" kj ["record"])(ab0:Cl P w K mg base 11 "has_world" 1 fQ){C_NoRecord C_NoEvent C_NoNumber C_NoWorld C_Barred C_Nothing C_ClockError:Addr}(S:Xs K mg C_NoRecord C_NoEvent C_NoNumber C_NoWorld C_Barred C_Nothing C_ClockError):Cl P w K mg base 12 "need_world" 1 bU:=
 bj F pI rfl λf c A o s H E hr x=>(ao (bH (gg (cF (aK ab0 hr (ae (ad 0) af)))) (ao (lM S.o_NoWorld S.m_NoWorld)) bi))
abbrev kg:Stmt:=top 45
abbrev p0:List Str:=["record","one"]
theorem pH:aA p0 ["record","one"] (ak kg):=gd
theorem pP (F:gf K mg "walks_from" kg ["record","one"])(aaE:Cl P w K mg base 2 "settle" 2 fP)(aap:Cl P w K mg base 8 "bounds" 1 dM):Cl P w K mg base 9 "walks_from" 2 c9:=
 bj F pH rfl λf c A o s H E hr x=>(ao (ay (aH (aK aaE hr (ae (aK aap hr (ae (ad 0) af)) (ae (dy (ae (ad 1) af)) af))) ah)))
abbrev nU:Stmt:=top 46
abbrev wb:List Str:=["walks","other"]
theorem vR:aA wb ["walks","other"] (ak nU):=gd
theorem v6 (F:gf K mg "most_of" nU ["walks","other"]):Cl P w K mg base 1 "most_of" 2 eF:=
 bj F vR rfl λf c A o s H E hr x=>(ao (ay (mw (ba (FH (kL hr)) (ad 1) (ad 0)) (aH (cg (kL hr) (ad 0) (ad 1)) ah) aZ)))
abbrev jl:Stmt:=top 49
abbrev mH:List Str:=["record","places","told","one","walks"]
theorem aav:aA mH ["record"] (ak jl):=gd
theorem uI (F:gf K mg "all_most" jl ["record"])(aal:Cl P w K mg base 12 "need_world" 1 bU)(aac:Cl P w K mg base 8 "events" 1 dL)(aam:Cl P w K mg base 9 "walks_from" 2 c9)(aax:Cl P w K mg base 1 "most_of" 2 eF)(B:Bl mg):Cl P w K mg base 13 "all_most" 1 gE:=
 bj F aav rfl λf c A o s H E hr x=>(by(apply aj;exact(dW (aK aal hr (ae (ad 0) af)));apply aj;exact(aD (aK aac hr (ae (ad 0) af)) (ai 1 aav.nd));apply aj;exact(fL 2 aav.nd af);apply aj;exact(bF rfl (bS (ad 1)) (ai 3 aav.nd) (aj (aD (aK aam hr (ae (ad 0) (ae (ad 3) af))) (ai 4 aav.nd)) (ao (gi 2 (qu jB B.b_tuple dw (ae (f9 (N':=["other","walks"]) (src:=[none,some 4]) rfl (LcScope.by (N:=mH) (names:=(ak jl).names) rfl rfl rfl (by decide+kernel)) (bS (ad 1)) (λ_ _ _ _ _=>⟨(ai 0 (show Lh (["other","walks"]:List Str)by decide+kernel)),bY,(aK aax hr (ae (ad 1) (ae (ad 0) af)))⟩)) af))))));exact ao (ay (iW 2 (qu jB B.b_tuple dw (ae (ad 2) af))))))
abbrev kh:Stmt:=top 55
abbrev qc:List Str:=["record","most","places","told","k","one","j","other"]
theorem aaa:aA qc ["record"] (ak kh):=gd
theorem pQ (F:gf K mg "sure_pairs" kh ["record"])(ab6:Cl P w K mg base 13 "all_most" 1 gE)(aac:Cl P w K mg base 8 "events" 1 dL)(B:Bl mg):Cl P w K mg base 14 "sure_pairs" 1 cJ:=
 bj F aaa rfl λf c A o s H E hr x=>(by(apply aj;exact(aD (aK ab6 hr (ae (ad 0) af)) (ai 1 aaa.nd));apply aj;exact(aD (aK aac hr (ae (ad 0) af)) (ai 2 aaa.nd));apply aj;exact(fL 3 aaa.nd af);apply aj;exact(bF rfl (fM B.b_enumerate (ae (ad 2) af)) (d8 rfl (aN (ai 4 aaa.nd) (aN (ai 5 aaa.nd) di))) (ao (bF rfl (fM B.b_enumerate (ae (ad 2) af)) (d8 rfl (aN (ai 6 aaa.nd) (aN (ai 7 aaa.nd) di))) (ao (bH (kR (wH (ba dj (aH (aH (ad 1) (ad 6)) (ad 4)) aZ) (tN (ba ko (aH (aH (ad 1) (ad 6)) (ad 4)) ah)))) (ao (gi 3 (aO (ae (ad 5) (ae (ad 7) af))))) bi)))));exact ao (gh 3 (ay (ad 3)))))
abbrev kl:Stmt:=top 29
abbrev qf:List Str:=["record","thing"]
theorem pJ:aA qf ["record","thing"] (ak kl):=gd
theorem pT (F:gf K mg "need_event" kl ["record","thing"])(aao:Cl P w K mg base 3 "is_event" 2 cN){C_NoRecord C_NoEvent C_NoNumber C_NoWorld C_Barred C_Nothing C_ClockError:Addr}(S:Xs K mg C_NoRecord C_NoEvent C_NoNumber C_NoWorld C_Barred C_Nothing C_ClockError):Cl P w K mg base 4 "need_event" 2 ci:=
 bj F pJ rfl λf c A o s H E hr x=>(ao (bH (gg (cF (aK aao hr (ae (aH (ad 0) ah) (ae (ad 1) af))))) (ao (lM S.o_NoEvent S.m_NoEvent)) bi))
abbrev gZ:Stmt:=top 56
abbrev kr:List Str:=["record","order","event","rising"]
theorem aaH:aA kr ["record","order"] (ak gZ):=gd
theorem pU (F:gf K mg "fits_order" gZ ["record","order"])(aa6:Cl P w K mg base 7 "need_record" 1 bx)(aai:Cl P w K mg base 4 "need_event" 2 ci)(aac:Cl P w K mg base 8 "events" 1 dL)(aab:Cl P w K mg base 9 "greatest_world" 2 br)(aap:Cl P w K mg base 8 "bounds" 1 dM)(B:Bl mg):Cl P w K mg base 10 "fits_order" 2 bK:=
 bj F aaH rfl λf c A o s H E hr x=>(by(apply aj;exact(dW (aK aa6 hr (ae (ad 0) af)));apply aj;exact(bF rfl (bS (ad 1)) (ai 2 aaH.nd) (ao (dW (aK aai hr (ae (ad 0) (ae (ad 2) af))))));apply aj;exact(bH (ba (lf (jY hr)) (dA yT B.b_sorted boot_sorted (ae (ad 1) af)) (aK aac hr (ae (ad 0) af))) (ao (ay eM)) bi);apply aj;exact(vE 3 (N':=["k","order"]) (src:=[none,some 1]) rfl (LcScope.by (N:=kr) (names:=(ak gZ).names) rfl rfl rfl (by decide+kernel)) (bJ B.b_range (ae (au fB (dA df B.b_len MB (ae (ad 1) af)) ah) af)) (λ_ _ _ _ _=>⟨(ai 0 (show Lh (["k","order"]:List Str)by decide+kernel)),bY,(aO (ae (aH (ad 1) (au aS (ad 0) ah)) (ae (aH (ad 1) (ad 0)) (ae ah af))))⟩) aaH.nd);exact ao (ay (bZ dj (aK aab hr (ae (ad 0) (ae (au aS (aK aap hr (ae (ad 0) af)) (ad 3)) af))) aZ))))
abbrev ji:Stmt:=top 44
abbrev oK:List Str:=["record","one","other"]
theorem n4:aA oK ["record","one","other"] (ak ji):=gd
theorem om (F:gf K mg "need_events" ji ["record","one","other"])(aa6:Cl P w K mg base 7 "need_record" 1 bx)(aai:Cl P w K mg base 4 "need_event" 2 ci):Cl P w K mg base 8 "need_events" 3 bV:=
 bj F n4 rfl λf c A o s H E hr x=>(by(apply aj;exact(dW (aK aa6 hr (ae (ad 0) af)));apply aj;exact(dW (aK aai hr (ae (ad 0) (ae (ad 1) af))));exact ao (dW (aK aai hr (ae (ad 0) (ae (ad 2) af))))))
abbrev i5:Stmt:=top 47
abbrev mX:List Str:=["record","one","other"]
theorem mQ:aA mX ["record","one","other"] (ak i5):=gd
theorem mU (F:gf K mg "most_between" i5 ["record","one","other"])(aaI:Cl P w K mg base 8 "need_events" 3 bV)(aal:Cl P w K mg base 12 "need_world" 1 bU)(aax:Cl P w K mg base 1 "most_of" 2 eF)(aam:Cl P w K mg base 9 "walks_from" 2 c9):Cl P w K mg base 13 "most_between" 3 aM:=
 bj F mQ rfl λf c A o s H E hr x=>(by(apply aj;exact(dW (aK aaI hr (ae (ad 0) (ae (ad 1) (ae (ad 2) af)))));apply aj;exact(dW (aK aal hr (ae (ad 0) af)));exact ao (ay (aK aax hr (ae (aK aam hr (ae (ad 0) (ae (ad 1) af))) (ae (ad 2) af))))))
abbrev ik:Stmt:=top 48
abbrev lZ:List Str:=["record","one","other","most"]
theorem aaQ:aA lZ ["record","one","other"] (ak ik):=gd
theorem lT (F:gf K mg "least_between" ik ["record","one","other"])(aaf:Cl P w K mg base 13 "most_between" 3 aM):Cl P w K mg base 14 "least_between" 3 dk:=
 bj F aaQ rfl λf c A o s H E hr x=>(aj (aD (aK aaf hr (ae (ad 0) (ae (ad 2) (ae (ad 1) af)))) (ai 3 aaQ.nd)) (ao (ay (mw (ba i7 (ad 3) aZ) aZ (nL (ad 3))))))
abbrev iY:Stmt:=top 51
abbrev mW:List Str:=["record","one","other","least"]
theorem aaW:aA mW ["record","one","other"] (ak iY):=gd
theorem mT (F:gf K mg "surely_ahead" iY ["record","one","other"])(aay:Cl P w K mg base 14 "least_between" 3 dk):Cl P w K mg base 15 "surely_ahead" 3 aU:=
 bj F aaW rfl λf c A o s H E hr x=>(aj (aD (aK aay hr (ae (ad 0) (ae (ad 1) (ae (ad 2) af)))) (ai 3 aaW.nd)) (ao (ay (cT (bZ dj (ad 3) aZ) (cG (bZ uD (ad 3) ah))))))
abbrev jk:Stmt:=top 52
abbrev oM:List Str:=["record","one","other","most"]
theorem ab2:aA oM ["record","one","other"] (ak jk):=gd
theorem oo (F:gf K mg "maybe_ahead" jk ["record","one","other"])(aaf:Cl P w K mg base 13 "most_between" 3 aM):Cl P w K mg base 14 "maybe_ahead" 3 bo:=
 bj F ab2 rfl λf c A o s H E hr x=>(aj (aD (aK aaf hr (ae (ad 0) (ae (ad 1) (ae (ad 2) af)))) (ai 3 ab2.nd)) (ao (ay (nJ (bZ i7 (ad 3) aZ) (cG (bZ uD (ad 3) ah))))))
abbrev ij:Stmt:=top 53
abbrev lY:List Str:=["record","one","other"]
theorem lO:aA lY ["record","one","other"] (ak ij):=gd
theorem lS (F:gf K mg "maybe_at_once" ij ["record","one","other"])(aa7:Cl P w K mg base 15 "surely_ahead" 3 aU):Cl P w K mg base 16 "maybe_at_once" 3 bA:=
 bj F lO rfl λf c A o s H E hr x=>(ao (ay (cT (nK (aK aa7 hr (ae (ad 0) (ae (ad 1) (ae (ad 2) af))))) (cG (nK (aK aa7 hr (ae (ad 0) (ae (ad 2) (ae (ad 1) af)))))))))
abbrev nS:Stmt:=top 54
abbrev wa:List Str:=["record","one","other"]
theorem vQ:aA wa ["record","one","other"] (ak nS):=gd
theorem v5 (F:gf K mg "verdict" nS ["record","one","other"])(aa7:Cl P w K mg base 15 "surely_ahead" 3 aU)(aad:Cl P w K mg base 14 "maybe_ahead" 3 bo):Cl P w K mg base 16 "verdict" 3 dR:=
 bj F vQ rfl λf c A o s H E hr x=>(by(apply aj;exact(bH (cF (aK aa7 hr (ae (ad 0) (ae (ad 1) (ae (ad 2) af))))) (ao (ay eK)) bi);apply aj;exact(bH (cF (aK aa7 hr (ae (ad 0) (ae (ad 2) (ae (ad 1) af))))) (ao (ay eK)) bi);apply aj;exact(bH (kR (kD (cF (aK aad hr (ae (ad 0) (ae (ad 1) (ae (ad 2) af))))) (iw (cF (aK aad hr (ae (ad 0) (ae (ad 2) (ae (ad 1) af)))))))) (ao (ay eK)) bi);exact ao (ay eK)))
abbrev k6:Stmt:=top 67
abbrev sJ:List Str:=["_law_what","_law_record_here","_law_one","_law_other","_law_e"]
theorem ab9:aA sJ ["_law_what","_law_record_here","_law_one","_law_other"] (ak k6):=gd
theorem sj (F:gf K mg "_law_told" k6 ["_law_what","_law_record_here","_law_one","_law_other"])(aaR:Cl P w K mg base 14 "sure_pairs" 1 cJ)(aaS:Cl P w K mg base 10 "fits_order" 2 bK)(aa7:Cl P w K mg base 15 "surely_ahead" 3 aU)(aad:Cl P w K mg base 14 "maybe_ahead" 3 bo)(aaz:Cl P w K mg base 16 "maybe_at_once" 3 bA)(aba:Cl P w K mg base 16 "verdict" 3 dR)(B:Bl mg){C_NoRecord C_NoEvent C_NoNumber C_NoWorld C_Barred C_Nothing C_ClockError:Addr}(S:Xs K mg C_NoRecord C_NoEvent C_NoNumber C_NoWorld C_Barred C_Nothing C_ClockError){f_r:Addr}{fd_r:LL}(aaA:Fn K mg "_law_refused" cb ["_law_e"] f_r fd_r):Cl P w K mg base 17 "_law_told" 4 aB:=
 bj F ab9 rfl λf c A o s H E hr x=>(ao (BW 4 ab9.nd S.m_ClockError S.o_ClockError (λ_ _=>(aj (bH (ba ko (ad 0) ah) (ao (ay (B0 (Cd aa7 hr (Cd aad hr (Cd aaz hr (Cd aba hr selN)))) (ad 0) (ae (ad 1) (ae (ad 2) (ae (ad 3) af)))))) bi) (ao (ay (mw (ba (oj (jY hr)) (ad 0) ah) (aK aaR hr (ae (ad 1) af)) (aK aaS hr (ae (ad 1) (ae (ad 2) af)))))))) (zx rfl (LN rfl) aaA S B.b_isinstance B.b_ValueError (G9 hr)) (hcl:=λ_ _ z=>by cases z)))
theorem j0 {X:Cx}{j1 j2 j3 j4 j5 j6 j7 j8 j9:Nat}{p1 p2 p3 p4 p5 p6 p7 p8 p9:Pos}:QE X (.Tuple [(.Tuple [(.Tuple [(.Constant (.int 1) j1 p1),(.Constant (.int 1) j2 p2),(.Tuple [(.Constant (.int 0) j3 p3),(.Constant (.int 1) j4 p4)] j5 p5)] j6 p6)] j7 p7),(.Tuple [] j8 p8)] j9 p9) (aL (ac (aL (ac (aL (ac (cn (.int 1)) (ac (cn (.int 1)) (ac (aL (ac (cn (.int 0)) (ac (cn (.int 1)) ag))) ag)))) ag)) (ac (aL ag) ag))):=by
 refine @aO X _ _ _ _ ?_
 refine @ae X _ _ _ _ ?_ ?_ rfl
 ·refine @aO X _ _ _ _ ?_
  refine @ae X _ _ _ _ ?_ ?_ rfl
  ·refine @aO X _ _ _ _ ?_
   refine @ae X _ _ _ _ ?_ ?_ rfl
   ·exact ah
   refine @ae X _ _ _ _ ?_ ?_ rfl
   ·exact ah
   refine @ae X _ _ _ _ ?_ ?_ rfl
   ·refine @aO X _ _ _ _ ?_
    refine @ae X _ _ _ _ ?_ ?_ rfl
    ·exact ah
    refine @ae X _ _ _ _ ?_ ?_ rfl
    ·exact ah
    exact af
   exact af
  exact af
 refine @ae X _ _ _ _ ?_ ?_ rfl
 ·refine @aO X _ _ _ _ ?_
  exact af
 exact af
theorem jZ {X:Cx}{j1 j2 j3 j4 j5 j6 j7 j8 j9 j10 j11:Nat}{p1 p2 p3 p4 p5 p6 p7 p8 p9 p10 p11 p12 p13:Pos}:QE X (.List [(.Constant (.bool true) j1 p1),(.Constant (.bool true) j2 p2),(.Constant (.bool false) j3 p3),(.Constant (.str "ahead") j4 p4),(.List [(.Tuple [(.Tuple [(.Constant (.int 0) j5 p5),(.Constant (.int 0) j6 p6)] j7 p7),(.Tuple [(.Constant (.int 0) j8 p8),(.Constant (.int 1) j9 p9)] j10 p10)] j11 p11)] p12)] p13) (dq (ac (cn (.bl true)) (ac (cn (.bl true)) (ac (cn (.bl false)) (ac (cn (.str "ahead")) (ac (dq (ac (aL (ac (aL (ac (cn (.int 0)) (ac (cn (.int 0)) ag))) (ac (aL (ac (cn (.int 0)) (ac (cn (.int 1)) ag))) ag))) ag)) ag)))))):=by
 refine @dy X _ _ _ ?_
 refine @ae X _ _ _ _ ?_ ?_ rfl
 ·exact eM
 refine @ae X _ _ _ _ ?_ ?_ rfl
 ·exact eM
 refine @ae X _ _ _ _ ?_ ?_ rfl
 ·exact eM
 refine @ae X _ _ _ _ ?_ ?_ rfl
 ·exact eK
 refine @ae X _ _ _ _ ?_ ?_ rfl
 ·refine @dy X _ _ _ ?_
  refine @ae X _ _ _ _ ?_ ?_ rfl
  ·refine @aO X _ _ _ _ ?_
   refine @ae X _ _ _ _ ?_ ?_ rfl
   ·refine @aO X _ _ _ _ ?_
    refine @ae X _ _ _ _ ?_ ?_ rfl
    ·exact ah
    refine @ae X _ _ _ _ ?_ ?_ rfl
    ·exact ah
    exact af
   refine @ae X _ _ _ _ ?_ ?_ rfl
   ·refine @aO X _ _ _ _ ?_
    refine @ae X _ _ _ _ ?_ ?_ rfl
    ·exact ah
    refine @ae X _ _ _ _ ?_ ?_ rfl
    ·exact ah
    exact af
   exact af
  exact af
 exact af
abbrev eR:Stmt:=top 69
abbrev gS:List Str:=["_law_known","_law_told_here"]
theorem aau:aA gS [] (ak eR):=gd
theorem lh (F:gf K mg "_law_known_one" eR [])(aa5:Cl P w K mg base 17 "_law_told" 4 aB)(B:Bl mg):Cl P w K mg base 18 "_law_known_one" 0 cV:=
 bj F aau rfl λf c A o s H E hr x=>(by(apply aj;exact(aD j0 (ai 0 aau.nd));apply aj;exact(aD (au aS (f9 (N':=["_law_what","_law_known"]) (src:=[none,some 0]) rfl (LcScope.by (N:=gS) (names:=(ak eR).names) rfl rfl rfl (by decide+kernel)) (bJ B.b_range (ae ah af)) (λ_ _ _ _ _=>⟨(ai 0 (show Lh (["_law_what","_law_known"]:List Str)by decide+kernel)),bY,(aK aa5 hr (ae (ad 0) (ae (ad 1) (ae (aO (ae ah (ae ah af))) (ae (aO (ae ah (ae ah af))) af)))))⟩)) (dy (ae (aK aa5 hr (ae ah (ae (ad 0) (ae aZ (ae aZ af))))) af))) (ai 1 aau.nd));exact ao (ay (bZ (oj (jY hr)) (ad 1) jZ))))
abbrev k7:Stmt:=top 58
abbrev sK:List Str:=["_law_script","_law_k"]
theorem rN:aA sK ["_law_script","_law_k"] (ak k7):=gd
theorem sk (F:gf K mg "_law_cell" k7 ["_law_script","_law_k"])(B:Bl mg):Cl P w K mg base 1 "_law_cell" 2 fR:=
 bj F rN rfl λf c A o s H E hr x=>(aj (bH (ba (oj (jY hr)) (ad 0) (dy af)) (ao (ay (au cI ah (ad 1)))) bi) (ao (ay (au aS (aH (ad 0) (au kF (ad 1) (dA df B.b_len MB (ae (ad 0) af)))) (au cI ah (au nt (ad 1) (dA df B.b_len MB (ae (ad 0) af))))))))
abbrev km:Stmt:=top 59
abbrev qg:List Str:=["_law_script","_law_k","_law_many","_law_cell_here"]
theorem aaJ:aA qg ["_law_script","_law_k","_law_many"] (ak km):=gd
theorem pX (F:gf K mg "_law_drawn" km ["_law_script","_law_k","_law_many"])(ab1:Cl P w K mg base 1 "_law_cell" 2 fR):Cl P w K mg base 2 "_law_drawn" 3 ax:=
 bj F aaJ rfl λf c A o s H E hr x=>(by(apply aj;exact(aD (au kF (au aS (au cI (au kF (aK ab1 hr (ae (ad 0) (ae (ad 1) af))) ah) ah) (au cI ah (au aS (ad 1) ah))) ah) (ai 3 aaJ.nd));apply aj;exact(aD (au kF (au aS (au cI (ad 3) (ad 3)) (au nt (ad 3) ah)) ah) (ai 3 aaJ.nd));exact ao (ay (au kF (au nt (au kF (au aS (au cI (ad 3) (ad 3)) (au nt (ad 3) ah)) ah) ah) (ad 2)))))
abbrev gA:Stmt:=top 62
abbrev jt:List Str:=["_law_clocks","_law_found","_law_number","_law_clock_here"]
theorem aan:aA jt ["_law_clocks"] (ak gA):=gd
theorem oA (F:gf K mg "_law_events" gA ["_law_clocks"])(B:Bl mg):Cl P w K mg base 1 "_law_events" 1 cO:=
 bj F aan rfl λf c A o s H E hr x=>(by(apply aj;exact(aD (dy af) (ai 1 aan.nd));apply aj;exact(bF rfl (fM B.b_enumerate (ae (ad 0) af)) (d8 rfl (aN (ai 2 aan.nd) (aN (ai 3 aan.nd) di))) (ao (aD (au aS (ad 1) (f9 (N':=["_law_place","_law_number"]) (src:=[none,some 2]) rfl (LcScope.by (N:=jt) (names:=(ak gA).names) rfl rfl rfl (by decide+kernel)) (bJ B.b_range (ae (dA df B.b_len MB (ae (aH (ad 3) ah) af)) af)) (λ_ _ _ _ _=>⟨(ai 0 (show Lh (["_law_place","_law_number"]:List Str)by decide+kernel)),bY,(aO (ae (ad 1) (ae (ad 0) af)))⟩))) (ai 1 aan.nd))));exact ao (ay (ad 1))))
abbrev jm:Stmt:=top 61
abbrev oN:List Str:=["_law_script","_law_at","_law_clocks","_law_row","_law_place","_law_other","_law_least","_law_most"]
theorem aag:aA oN ["_law_script","_law_at","_law_clocks"] (ak jm):=gd
theorem oy (F:gf K mg "_law_letter" jm ["_law_script","_law_at","_law_clocks"])(aaj:Cl P w K mg base 1 "_law_events" 1 cO)(aa0:Cl P w K mg base 2 "_law_drawn" 3 ax)(B:Bl mg):Cl P w K mg base 3 "_law_letter" 3 dv:=
 bj F aag rfl λf c A o s H E hr x=>(by(apply aj;exact(aD (aK aaj hr (ae (ad 2) af)) (ai 3 aag.nd));apply aj;exact(bH (ba ko (dA df B.b_len MB (ae (ad 3) af)) ah) (ao (ay aZ)) bi);apply aj;exact(aD (aK aa0 hr (ae (ad 0) (ae (ad 1) (ae (dA df B.b_len MB (ae (ad 3) af)) af)))) (ai 4 aag.nd));apply aj;exact(aD (au kF (au aS (au aS (ad 4) ah) (aK aa0 hr (ae (ad 0) (ae (au aS (ad 1) ah) (ae (au fB (dA df B.b_len MB (ae (ad 3) af)) ah) af))))) (dA df B.b_len MB (ae (ad 3) af))) (ai 5 aag.nd));apply aj;exact(aD (aK aa0 hr (ae (ad 0) (ae (au aS (ad 1) ah) (ae ah af)))) (ai 6 aag.nd));apply aj;exact(aD (mw (ba (oj (jY hr)) (aK aa0 hr (ae (ad 0) (ae (au aS (ad 1) ah) (ae ah af)))) ah) aZ (au aS (ad 6) (aK aa0 hr (ae (ad 0) (ae (au aS (ad 1) ah) (ae ah af)))))) (ai 7 aag.nd));exact ao (ay (aO (ae (aH (ad 3) (ad 4)) (ae (aH (ad 3) (ad 5)) (ae (ad 6) (ae (ad 7) af))))))))
abbrev kn:Stmt:=top 60
abbrev qh:List Str:=["_law_script","_law_at","_law_slow","_law_readings","_law_k"]
theorem aaq:aA qh ["_law_script","_law_at"] (ak kn):=gd
theorem pY (F:gf K mg "_law_clock" kn ["_law_script","_law_at"])(aa0:Cl P w K mg base 2 "_law_drawn" 3 ax)(B:Bl mg):Cl P w K mg base 3 "_law_clock" 2 cL:=
 bj F aaq rfl λf c A o s H E hr x=>(by(apply aj;exact(aD (au aS ah (aK aa0 hr (ae (ad 0) (ae (ad 1) (ae ah af))))) (ai 2 aaq.nd));apply aj;exact(aD (aO (ae (aK aa0 hr (ae (ad 0) (ae (au aS (ad 1) ah) (ae ah af)))) af)) (ai 3 aaq.nd));apply aj;exact(bF rfl (bJ B.b_range (ae (aK aa0 hr (ae (ad 0) (ae (au aS (ad 1) ah) (ae ah af)))) af)) (ai 4 aaq.nd) (ao (aD (au aS (ad 3) (aO (ae (au aS (au aS (aH (ad 3) (nL ah)) ah) (aK aa0 hr (ae (ad 0) (ae (au aS (au aS (ad 1) ah) (ad 4)) (ae ah af))))) af))) (ai 3 aaq.nd))));exact ao (ay (aO (ae (ad 2) (ae (au aS (ad 2) (aK aa0 hr (ae (ad 0) (ae (au aS (ad 1) ah) (ae ah af))))) (ae (ad 3) af)))))))
abbrev gz:Stmt:=top 63
abbrev jr:List Str:=["_law_script","_law_at","_law_most","_law_clocks","_law_letters","_law_k","_law_letter_here"]
theorem aah:aA jr ["_law_script","_law_at","_law_most"] (ak gz):=gd
theorem ox (F:gf K mg "_law_record" gz ["_law_script","_law_at","_law_most"])(aa0:Cl P w K mg base 2 "_law_drawn" 3 ax)(aaK:Cl P w K mg base 3 "_law_letter" 3 dv)(aaT:Cl P w K mg base 3 "_law_clock" 2 cL)(B:Bl mg):Cl P w K mg base 4 "_law_record" 3 fI:=
 bj F aah rfl λf c A o s H E hr x=>(by(apply aj;exact(aD (qu jB B.b_tuple dw (ae (f9 (N':=["_law_k","_law_script","_law_at"]) (src:=[none,some 0,some 1]) rfl (LcScope.by (N:=jr) (names:=(ak gz).names) rfl rfl rfl (by decide+kernel)) (bJ B.b_range (ae (au aS ah (aK aa0 hr (ae (ad 0) (ae (ad 1) (ae ah af))))) af)) (λ_ _ _ _ _=>⟨(ai 0 (show Lh (["_law_k","_law_script","_law_at"]:List Str)by decide+kernel)),bY,(aK aaT hr (ae (ad 1) (ae (au aS (au aS (ad 2) ah) (au cI ah (ad 0))) af)))⟩)) af)) (ai 3 aah.nd));apply aj;exact(aD (dy af) (ai 4 aah.nd));apply aj;exact(bF rfl (bJ B.b_range (ae (aK aa0 hr (ae (ad 0) (ae (au aS (ad 1) ah) (ae (au aS (ad 2) ah) af)))) af)) (ai 5 aah.nd) (aj (aD (aK aaK hr (ae (ad 0) (ae (au aS (au aS (ad 1) ah) (au cI ah (ad 5))) (ae (ad 3) af)))) (ai 6 aah.nd)) (ao (aD (au aS (ad 4) (au cI (dy (ae (ad 6) af)) (qu GF B.b_int mP (ae (bZ dj (ad 6) aZ) af)))) (ai 4 aah.nd)))));exact ao (ay (aO (ae (ad 3) (ae (qu jB B.b_tuple dw (ae (ad 4) af)) af))))))
abbrev jn:Stmt:=top 64
abbrev oO:List Str:=["_law_record_here","_law_found","_law_number","_law_slow","_law_fast","_law_readings","_law_k","_law_steps","_law_one","_law_other","_law_least","_law_most"]
theorem aa3:aA oO ["_law_record_here"] (ak jn):=gd
theorem oB (F:gf K mg "_law_bounds" jn ["_law_record_here"])(B:Bl mg):Cl P w K mg base 1 "_law_bounds" 1 fJ:=
 bj F aa3 rfl λf c A o s H E hr x=>(by(apply aj;exact(fL 1 aa3.nd af);apply aj;exact(bF rfl (fM B.b_enumerate (ae (aH (ad 0) ah) af)) (d8 rfl (aN (ai 2 aa3.nd) (aN (d8 rfl (aN (ai 3 aa3.nd) (aN (ai 4 aa3.nd) (aN (ai 5 aa3.nd) di)))) di))) (ao (bF rfl (vF B.b_range (ae ah (ae (dA df B.b_len MB (ae (ad 5) af)) af))) (ai 6 aa3.nd) (by(apply aj;exact(aD (au fB (aH (ad 5) (ad 6)) (aH (ad 5) (au fB (ad 6) ah))) (ai 7 aa3.nd));apply aj;exact(gi 1 (aO (ae (aO (ae (ad 2) (ae (au fB (ad 6) ah) af))) (ae (aO (ae (ad 2) (ae (ad 6) af))) (ae (au cI (ad 4) (ad 7)) af)))));exact ao (gi 1 (aO (ae (aO (ae (ad 2) (ae (ad 6) af))) (ae (aO (ae (ad 2) (ae (au fB (ad 6) ah) af))) (ae (au fB ah (au cI (ad 3) (ad 7))) af))))))))));apply aj;exact(bF rfl (bS (aH (ad 0) ah)) (d8 rfl (aN (ai 8 aa3.nd) (aN (ai 9 aa3.nd) (aN (ai 10 aa3.nd) (aN (ai 11 aa3.nd) di))))) (aj (gi 1 (aO (ae (ad 9) (ae (ad 8) (ae (au fB ah (ad 10)) af))))) (ao (bH (ba dj (ad 11) aZ) (ao (gi 1 (aO (ae (ad 8) (ae (ad 9) (ae (ad 11) af)))))) bi))));exact ao (gh 1 (ay (ad 1)))))
abbrev fG:Stmt:=top 65
abbrev hV:List Str:=["_law_places","_law_row","_law_far","_law_one","_law_other","_law_most","_law_middle","_law_whole"]
theorem aa9:aA hV ["_law_places","_law_row"] (ak fG):=gd
theorem pW (F:gf K mg "_law_table" fG ["_law_places","_law_row"])(B:Bl mg):Cl P w K mg base 1 "_law_table" 2 eX:=
 bj F aa9 rfl λf c A o s H E hr x=>(by(apply aj;exact(xY 2 0 (N':=["_law_one","_law_places"]) (src:=[none]) (hu8 hr) rfl B.b_dict aa9.nd (LcScope.by (N:=hV) (names:=(ak fG).names) rfl rfl rfl (by decide+kernel)) (bS (ad 0)) (by decide) (λ_ _ _ _ _=>⟨(ai 0 (show Lh (["_law_one","_law_places"]:List Str)by decide+kernel)),pv 0,FB (hu8 hr) rfl B.b_dict rfl (LcScope.byN (N:=["_law_one","_law_places"]) (N':=["_law_other"]) rfl rfl (by decide+kernel) rfl) (bS (ad 1)).h (λ_ _ _ _ _=>⟨(ai 0 (show Lh (["_law_other"]:List Str)by decide+kernel)).h,pv 0,rfl⟩) (λ_=>rfl)⟩));apply aj;exact(bF rfl (bS (ad 0)) (ai 3 aa9.nd) (ao (nI 2 (kL hr) (ad 3) (ad 3) ah)));apply aj;exact(bF rfl (bS (ad 1)) (d8 rfl (aN (ai 3 aa9.nd) (aN (ai 4 aa9.nd) (aN (ai 5 aa9.nd) di)))) (ao (bH (kR (kD (ba i7 (iW 2 (cg (kL hr) (cg (kL hr) (ad 2) (ad 3)) (ad 4))) aZ) (iw (ba ko (ad 5) (iW 2 (cg (kL hr) (cg (kL hr) (ad 2) (ad 3)) (ad 4))))))) (ao (nI 2 (kL hr) (ad 3) (ad 4) (ad 5))) bi)));apply aj;exact(bF rfl (bS (ad 0)) (ai 6 aa9.nd) (ao (bF rfl (bS (ad 0)) (ai 3 aa9.nd) (ao (bF rfl (bS (ad 0)) (ai 4 aa9.nd) (ao (bH (kR (wH (ba dj (iW 2 (cg (kL hr) (cg (kL hr) (ad 2) (ad 3)) (ad 6))) aZ) (tN (ba dj (iW 2 (cg (kL hr) (cg (kL hr) (ad 2) (ad 6)) (ad 4))) aZ)))) (aj (aD (au aS (iW 2 (cg (kL hr) (cg (kL hr) (ad 2) (ad 3)) (ad 6))) (iW 2 (cg (kL hr) (cg (kL hr) (ad 2) (ad 6)) (ad 4)))) (ai 7 aa9.nd)) (ao (bH (kR (kD (ba i7 (iW 2 (cg (kL hr) (cg (kL hr) (ad 2) (ad 3)) (ad 4))) aZ) (iw (ba ko (ad 7) (iW 2 (cg (kL hr) (cg (kL hr) (ad 2) (ad 3)) (ad 4))))))) (ao (nI 2 (kL hr) (ad 3) (ad 4) (ad 7))) bi))) bi)))))));exact ao (gh 2 (ay (mw (ba (oj (jY hr)) (f9 (N':=["_law_one","_law_far"]) (src:=[none,some 2]) rfl (LcScope.by (N:=hV) (names:=(ak fG).names) rfl rfl rfl (by decide+kernel)) (bS (ad 0)) (λ_ _ _ _ _=>⟨(ai 0 (show Lh (["_law_one","_law_far"]:List Str)by decide+kernel)),(tO (ba ko (cg (kL hr) (cg (kL hr) (ad 1) (ad 0)) (ad 0)) ah)),(ad 0)⟩)) (dy af)) (ad 2) aZ)))))
abbrev mG:Stmt:=top 68
abbrev uR:List Str:=["_law_table_here","_law_one","_law_other","_law_there","_law_back","_law_sure","_law_late","_law_apart","_law_word"]
theorem aak:aA uR ["_law_table_here","_law_one","_law_other"] (ak mG):=gd
theorem uJ (F:gf K mg "_law_due" mG ["_law_table_here","_law_one","_law_other"]):Cl P w K mg base 1 "_law_due" 3 dN:=
 bj F aak rfl λf c A o s H E hr x=>(by(apply aj;exact(aD (cg (kL hr) (cg (kL hr) (ad 0) (ad 1)) (ad 2)) (ai 3 aak.nd));apply aj;exact(aD (cg (kL hr) (cg (kL hr) (ad 0) (ad 2)) (ad 1)) (ai 4 aak.nd));apply aj;exact(aD (cT (bZ dj (ad 4) aZ) (cG (bZ ko (ad 4) ah))) (ai 5 aak.nd));apply aj;exact(aD (cT (bZ dj (ad 3) aZ) (cG (bZ ko (ad 3) ah))) (ai 6 aak.nd));apply aj;exact(aD (nJ (bZ i7 (ad 3) aZ) (nJ (bZ uD (ad 3) ah) (nJ (bZ i7 (ad 4) aZ) (cG (bZ uD (ad 4) ah))))) (ai 7 aak.nd));apply aj;exact(aD (mw (cF (ad 5)) eK (mw (cF (ad 6)) eK (mw (cF (ad 7)) eK eK))) (ai 8 aak.nd));exact ao (ay (dy (ae (ad 5) (ae (nJ (bZ i7 (ad 3) aZ) (cG (bZ uD (ad 3) ah))) (ae (cT (nK (ad 5)) (cG (nK (ad 6)))) (ae (ad 8) af))))))))
theorem mi {X:Cx}{j1 j2 j3 j4 j5 j6 j7 j8 j9 j10 j11 j12 j13 j14 j15:Nat}{p1 p2 p3 p4 p5 p6 p7 p8 p9 p10 p11 p12 p13 p14 p15 p16 p17:Pos}:QE X (.List [(.Constant .none j1 p1),(.Tuple [(.Constant (.int 0) j2 p2)] j3 p3),(.Tuple [(.Constant (.int 9) j4 p4),(.Constant (.int 0) j5 p5)] j6 p6),(.Tuple [(.Constant (.int 0) j7 p7),(.Constant (.int 9) j8 p8)] j9 p9),(.List [(.Constant (.int 0) j10 p10),(.Constant (.int 0) j11 p11)] p12),(.Tuple [(.Constant (.bool true) j12 p13),(.Constant (.int 0) j13 p14)] j14 p15),(.Constant (.str "0.0") j15 p16)] p17) (dq (ac (cn .non) (ac (aL (ac (cn (.int 0)) ag)) (ac (aL (ac (cn (.int 9)) (ac (cn (.int 0)) ag))) (ac (aL (ac (cn (.int 0)) (ac (cn (.int 9)) ag))) (ac (dq (ac (cn (.int 0)) (ac (cn (.int 0)) ag))) (ac (aL (ac (cn (.bl true)) (ac (cn (.int 0)) ag))) (ac (cn (.str "0.0")) ag)))))))):=by
 refine @dy X _ _ _ ?_
 refine @ae X _ _ _ _ ?_ ?_ rfl
 ·exact aZ
 refine @ae X _ _ _ _ ?_ ?_ rfl
 ·refine @aO X _ _ _ _ ?_
  refine @ae X _ _ _ _ ?_ ?_ rfl
  ·exact ah
  exact af
 refine @ae X _ _ _ _ ?_ ?_ rfl
 ·refine @aO X _ _ _ _ ?_
  refine @ae X _ _ _ _ ?_ ?_ rfl
  ·exact ah
  refine @ae X _ _ _ _ ?_ ?_ rfl
  ·exact ah
  exact af
 refine @ae X _ _ _ _ ?_ ?_ rfl
 ·refine @aO X _ _ _ _ ?_
  refine @ae X _ _ _ _ ?_ ?_ rfl
  ·exact ah
  refine @ae X _ _ _ _ ?_ ?_ rfl
  ·exact ah
  exact af
 refine @ae X _ _ _ _ ?_ ?_ rfl
 ·refine @dy X _ _ _ ?_
  refine @ae X _ _ _ _ ?_ ?_ rfl
  ·exact ah
  refine @ae X _ _ _ _ ?_ ?_ rfl
  ·exact ah
  exact af
 refine @ae X _ _ _ _ ?_ ?_ rfl
 ·refine @aO X _ _ _ _ ?_
  refine @ae X _ _ _ _ ?_ ?_ rfl
  ·exact eM
  refine @ae X _ _ _ _ ?_ ?_ rfl
  ·exact ah
  exact af
 refine @ae X _ _ _ _ ?_ ?_ rfl
 ·exact eK
 exact af
abbrev cu:Stmt:=top 70
abbrev cU:List Str:=["_law_script","_law_record_here","_law_places","_law_row","_law_table_here","_law_order","_law_k","_law_event","_law_at","_law_more","_law_odd","_law_what","_law_pairs","_law_one","_law_other"]
theorem aa1:aA cU ["_law_script"] (ak cu):=gd
theorem ou (F:gf K mg "_law_stands" cu ["_law_script"])(aaL:Cl P w K mg base 4 "_law_record" 3 fI)(aaj:Cl P w K mg base 1 "_law_events" 1 cO)(aaM:Cl P w K mg base 1 "_law_bounds" 1 fJ)(aaB:Cl P w K mg base 1 "_law_table" 2 eX)(aa5:Cl P w K mg base 17 "_law_told" 4 aB)(aa0:Cl P w K mg base 2 "_law_drawn" 3 ax)(aaO:Cl P w K mg base 1 "_law_due" 3 dN)(B:Bl mg):Cl P w K mg base 18 "_law_stands" 1 fH:=
 bj F aa1 rfl λf c A o s H E hr x=>(by(apply aj;exact(aD (aK aaL hr (ae (ad 0) (ae ah (ae ah af)))) (ai 1 aa1.nd));apply aj;exact(aD (aK aaj hr (ae (aH (ad 1) ah) af)) (ai 2 aa1.nd));apply aj;exact(aD (aK aaM hr (ae (ad 1) af)) (ai 3 aa1.nd));apply aj;exact(aD (aK aaB hr (ae (ad 2) (ae (ad 3) af))) (ai 4 aa1.nd));apply aj;exact(fL 5 aa1.nd af);apply aj;exact(bF rfl (fM B.b_enumerate (ae (ad 2) af)) (d8 rfl (aN (ai 6 aa1.nd) (aN (ai 7 aa1.nd) di))) (aj (aD (aH (dy (ae (iW 5 (dA df B.b_len MB (ae (ad 5) af))) (ae (iW 5 (dA df B.b_len MB (ae (ad 5) af))) (ae ah af)))) (aK aa0 hr (ae (ad 0) (ae (au aS ah (ad 6)) (ae ah af))))) (ai 8 aa1.nd)) (ao (BY 5 (ae (ad 8) (ae (ad 7) af))))));apply aj;exact(gh 5 (vE 9 (N':=["_law_one","_law_other"]) (src:=[none,none]) rfl (LcScope.by (N:=cU) (names:=(ak cu).names) rfl rfl rfl (by decide+kernel)) (BZ B.b_zip (ae (ad 5) (ae (jf (ad 5) (jd ah) je) af))) (λ_ _ _ _ _=>⟨(d8 rfl (aN (ai 0 (show Lh (["_law_one","_law_other"]:List Str)by decide+kernel)) (aN (ai 1 (show Lh (["_law_one","_law_other"]:List Str)by decide+kernel)) di))),bY,(aO (ae (ad 1) (ae (ad 0) (ae ah af))))⟩) aa1.nd));apply aj;exact(bH (ba (lf (jY hr)) (aK aa5 hr (ae ah (ae (ad 1) (ae (ad 5) (ae aZ af))))) (bZ dj (aK aaB hr (ae (ad 2) (ae (au aS (ad 3) (ad 9)) af))) aZ)) (ao (ay eM)) bi);apply aj;exact(bH (kR (kD (ba (lf (jY hr)) (aK aa5 hr (ae ah (ae (ad 1) (ae (jf (ad 5) (jd ah) je) (ae aZ af))))) eM) (iw (ba (lf (jY hr)) (aK aa5 hr (ae ah (ae (ad 1) (ae (au aS (ad 5) (jf (ad 5) je (jd ah))) (ae aZ af))))) eM)))) (ao (ay eM)) bi);apply aj;exact(aD (aH mi (aK aa0 hr (ae (ad 0) (ae ah (ae ah af))))) (ai 10 aa1.nd));apply aj;exact(bF rfl (bJ B.b_range (ae ah af)) (ai 11 aa1.nd) (aj (bH (ba (lf (jY hr)) (aK aa5 hr (ae (ad 11) (ae (ad 1) (ae (ad 10) (ae (aH (ad 2) ah) af))))) (aO (ae eK (ae ah af)))) (ao (ay eM)) bi) (ao (bH (ba (lf (jY hr)) (aK aa5 hr (ae (ad 11) (ae (ad 1) (ae (aH (ad 2) ah) (ae (ad 10) af))))) (aO (ae eK (ae ah af)))) (ao (ay eM)) bi))));apply aj;exact(bH (ba (lf (jY hr)) (f9 (N':=["_law_what","_law_record_here","_law_odd"]) (src:=[none,some 1,some 10]) rfl (LcScope.by (N:=cU) (names:=(ak cu).names) rfl rfl rfl (by decide+kernel)) (bJ B.b_range (ae ah af)) (λ_ _ _ _ _=>⟨(ai 0 (show Lh (["_law_what","_law_record_here","_law_odd"]:List Str)by decide+kernel)),bY,(aK aa5 hr (ae (ad 0) (ae (jf (ad 1) je (jd ah)) (ae (ad 2) (ae (ad 2) af)))))⟩)) (au cI (dy (ae (aO (ae eK (ae ah af))) af)) ah)) (ao (ay eM)) bi);apply aj;exact(bH (ba i7 (ad 4) aZ) (ao (ay (bZ (oj (jY hr)) (f9 (N':=["_law_what","_law_record_here","_law_places"]) (src:=[none,some 1,some 2]) rfl (LcScope.by (N:=cU) (names:=(ak cu).names) rfl rfl rfl (by decide+kernel)) (bJ B.b_range (ae ah af)) (λ_ _ _ _ _=>⟨(ai 0 (show Lh (["_law_what","_law_record_here","_law_places"]:List Str)by decide+kernel)),bY,(aK aa5 hr (ae (ad 0) (ae (ad 1) (ae (aH (ad 2) ah) (ae (aH (ad 2) (nL ah)) af)))))⟩)) (au cI (dy (ae (aO (ae eK (ae ah af))) af)) ah)))) bi);apply aj;exact(aD (dy af) (ai 12 aa1.nd));apply aj;exact(bF rfl (bS (ad 2)) (ai 13 aa1.nd) (ao (aD (au aS (ad 12) (f9 (N':=["_law_other","_law_one","_law_table_here"]) (src:=[none,some 13,some 4]) rfl (LcScope.by (N:=cU) (names:=(ak cu).names) rfl rfl rfl (by decide+kernel)) (bS (ad 2)) (λ_ _ _ _ _=>⟨(ai 0 (show Lh (["_law_other","_law_one","_law_table_here"]:List Str)by decide+kernel)),(tO (cF (aH (aK aaO hr (ae (ad 2) (ae (ad 1) (ae (ad 0) af)))) ah))),(aO (ae (ad 1) (ae (ad 0) af)))⟩))) (ai 12 aa1.nd))));apply aj;exact(bF rfl (bJ B.b_range (ae ah af)) (ai 6 aa1.nd) (by(apply aj;exact(aD (aH (ad 2) (aK aa0 hr (ae (ad 0) (ae (au aS ah (au cI ah (ad 6))) (ae (dA df B.b_len MB (ae (ad 2) af)) af))))) (ai 13 aa1.nd));apply aj;exact(aD (aH (ad 2) (aK aa0 hr (ae (ad 0) (ae (au aS ah (au cI ah (ad 6))) (ae (dA df B.b_len MB (ae (ad 2) af)) af))))) (ai 14 aa1.nd));exact ao (bH (ba (lf (jY hr)) (f9 (N':=["_law_what","_law_record_here","_law_one","_law_other"]) (src:=[none,some 1,some 13,some 14]) rfl (LcScope.by (N:=cU) (names:=(ak cu).names) rfl rfl rfl (by decide+kernel)) (bJ B.b_range (ae ah af)) (λ_ _ _ _ _=>⟨(ai 0 (show Lh (["_law_what","_law_record_here","_law_one","_law_other"]:List Str)by decide+kernel)),bY,(aK aa5 hr (ae (ad 0) (ae (ad 1) (ae (ad 2) (ae (ad 3) af)))))⟩)) (aK aaO hr (ae (ad 4) (ae (ad 13) (ae (ad 14) af))))) (ao (ay eM)) bi))));exact ao (ay (bZ (oj (jY hr)) (aK aa5 hr (ae ah (ae (ad 1) (ae aZ (ae aZ af))))) (ad 12)))))
abbrev zB:Stmt:=top 71
abbrev FW:List Str:=["_law_script"]
theorem EQ:aA FW ["_law_script"] (ak zB):=gd
theorem FP {f:Addr}{fd:LL}(abd:Fn K mg "law" zB ["_law_script"] f fd)(aaw:Cl P w K mg base 18 "_law_known_one" 0 cV)(aaN:Cl P w K mg base 18 "_law_stands" 1 fH):zi P w K mg base 19 f fd ["_law_script"] 1 m_law:=
 wJ abd.fn EQ rfl λc A o s H E hr x=>(ao (ay (cT (GT aaw hr) (cG (aK aaN hr (ae (ad 0) af))))))
end
@[elab_as_elim] theorem HY {α:Type} {p:List α->Prop} (h:p []):∀us:List α,us.length=0->p us
 | [],_=>h
@[elab_as_elim] theorem eZ {α:Type} {p:List α->Prop} (h:∀a0,p [a0]):∀us:List α,us.length=1->p us
 | [a0],_=>h a0
@[elab_as_elim] theorem gF {α:Type} {p:List α->Prop} (h:∀a0 a1,p [a0,a1]):∀us:List α,us.length=2->p us
 | [a0,a1],_=>h a0 a1
@[elab_as_elim] theorem gW {α:Type} {p:List α->Prop} (h:∀a0 a1 a2,p [a0,a1,a2]):∀us:List α,us.length=3->p us
 | [a0,a1,a2],_=>h a0 a1 a2
@[elab_as_elim] theorem HX {α:Type} {p:List α->Prop} (h:∀a0 a1 a2 a3,p [a0,a1,a2,a3]):∀us:List α,us.length=4->p us
 | [a0,a1,a2,a3],_=>h a0 a1 a2 a3
def asks:zd:=⟨([("is_long",17),("is_whole",15),("is_within",16),("is_pace",20),("rises",18),("are_readings",19),("is_clock",21),("are_clocks",22),("is_event",23),("is_delay",24),("is_letter",25),("are_letters",26),("is_record",27),("need_record",28),("events",30)]:List (Str×Nat))++([("is_better",37),("settle",36),("greatest_world",39),("bounds_of_clock",32),("bounds_of_letter",33),("bounds",34),("world",40),("has_world",41),("need_world",42),("walks_from",45),("most_of",46),("all_most",49),("sure_pairs",55),("need_event",29),("fits_order",56)]:List (Str×Nat))++([("need_events",44),("most_between",47),("least_between",48),("surely_ahead",51),("maybe_ahead",52),("maybe_at_once",53),("verdict",54),("_law_told",67),("_law_known_one",69),("_law_cell",58),("_law_drawn",59),("_law_events",62),("_law_letter",61),("_law_clock",60),("_law_record",63)]:List (Str×Nat))++([("_law_bounds",64),("_law_table",65),("_law_due",68),("_law_stands",70),("law",71),("_law_refused",66)]:List (Str×Nat)),(["ValueError","all","bool","dict","enumerate","int","isinstance","len","range","sorted","tuple","zip"]:List Str),[("MOST_CLOCKS",4),("MOST_LETTERS",8),("MOST_READINGS",4),("LAST_READING",99),("SLOWEST",9),("LONGEST",999)],["ClockError","NoRecord","NoEvent","NoNumber","NoWorld","Barred","Nothing"]⟩
theorem all_ok {l:PySem.W.OpenLaw}{w:LA}{K:Km}{h:Heap}{mg:Str->Option Kq}{fa:Addr}(X:K.In h)(e:pZ asks K=pF asks top)(G:h.Ns Ln mg)(hfa:mg "law" =some (.ref fa)) :
  ∃fd:LL,(∀(s:Kt) (v:Kq),Qr s fd ⟨[v],[]⟩ [("_law_script",v)])/\∀base:Heap,K.In base->base.Ns Ln mg->qt l.prog w K mg base CX0 19 fa fd ["_law_script"] (spP K 1 m_law):=by
 have B:Bl mg:=⟨fZ 0 X G e rfl,fZ 1 X G e rfl,fZ 2 X G e rfl,fZ 3 X G e rfl,fZ 4 X G e rfl,fZ 5 X G e rfl,fZ 6 X G e rfl,fZ 7 X G e rfl,fZ 8 X G e rfl,fZ 9 X G e rfl,fZ 10 X G e rfl,fZ 11 X G e rfl⟩
 have C:Cs mg:=⟨qQ 0 X G e rfl,qQ 1 X G e rfl,qQ 2 X G e rfl,qQ 3 X G e rfl,qQ 4 X G e rfl,qQ 5 X G e rfl⟩;obtain⟨C_ClockError,ls,xD,xl,nd⟩:=FQ (Io e);obtain⟨C_NoRecord,ls0,x_NoRecord,rfl,xl0⟩:=gt xl;obtain⟨C_NoEvent,ls1,x_NoEvent,rfl,xl1⟩:=gt xl0;obtain⟨C_NoNumber,ls2,x_NoNumber,rfl,xl2⟩:=gt xl1;obtain⟨C_NoWorld,ls3,x_NoWorld,rfl,xl3⟩:=gt xl2;obtain⟨C_Barred,ls4,x_Barred,rfl,xl4⟩:=gt xl3;obtain⟨C_Nothing,ls5,x_Nothing,rfl,xl5⟩:=gt xl4
 cases BJ xl5
 have S:Xs K mg C_NoRecord C_NoEvent C_NoNumber C_NoWorld C_Barred C_Nothing C_ClockError:=⟨M8 X G (hG x_NoRecord).1,M8 X G (hG x_NoEvent).1,M8 X G (hG x_NoNumber).1,M8 X G (hG x_NoWorld).1,M8 X G (hG x_Barred).1,M8 X G (hG x_Nothing).1,M8 X G (hG xD).1,GO x_NoRecord xD,GO x_NoEvent xD,GO x_NoNumber xD,GO x_NoWorld xD,GO x_Barred xD,GO x_Nothing xD,ox0 xD,nd⟩
 obtain⟨fd49,abd,bnd⟩:=Il (n:="law") (i:=71) (x:="_law_script") 49 X G e rfl hfa λ_ _ _ _ _ _ _=>rfl
 obtain⟨f50,fd50,aaA⟩:=cf (n:="_law_refused") (i:=66) (ps:=["_law_e"]) 50 X G e rfl λ_ _ _ _ _ _ us hl=>eZ (λ_=>rfl) us hl
 refine⟨fd49,bnd,λbase _ _=> ?_⟩
 have aa2:=v8 l.prog w base (cf 0 X G e rfl λ_ _ _ _ _ _ us hl=>gW (λ_ _ _=>rfl) us hl) B
 have ab3:=uE l.prog w base (cf 1 X G e rfl λ_ _ _ _ _ _ us hl=>eZ (λ_=>rfl) us hl) B
 have aa4:=se l.prog w base (cf 2 X G e rfl λ_ _ _ _ _ _ us hl=>gW (λ_ _ _=>rfl) us hl) ab3
 have ab7:=v7 l.prog w base (cf 3 X G e rfl λ_ _ _ _ _ _ us hl=>gF (λ_ _=>rfl) us hl) aa4 C
 have abb:=At l.prog w base (cf 4 X G e rfl λ_ _ _ _ _ _ us hl=>eZ (λ_=>rfl) us hl) B
 have aaD:=mV l.prog w base (cf 5 X G e rfl λ_ _ _ _ _ _ us hl=>eZ (λ_=>rfl) us hl) aa2 abb aa4 B C
 have ab4:=uH l.prog w base (cf 6 X G e rfl λ_ _ _ _ _ _ us hl=>eZ (λ_=>rfl) us hl) aa2 ab7 aaD
 have aaP:=pV l.prog w base (cf 7 X G e rfl λ_ _ _ _ _ _ us hl=>eZ (λ_=>rfl) us hl) aa2 ab4 B C
 have aao:=uF l.prog w base (cf 8 X G e rfl λ_ _ _ _ _ _ us hl=>gF (λ_ _=>rfl) us hl) aa4 aa2 B
 have ab5:=uG l.prog w base (cf 9 X G e rfl λ_ _ _ _ _ _ us hl=>gF (λ_ _=>rfl) us hl) aa4 C
 have aaX:=sg l.prog w base (cf 10 X G e rfl λ_ _ _ _ _ _ us hl=>gF (λ_ _=>rfl) us hl) aao aa2 ab5
 have aaG:=oq l.prog w base (cf 11 X G e rfl λ_ _ _ _ _ _ us hl=>gF (λ_ _=>rfl) us hl) aa2 aaX B C
 have aaY:=sf l.prog w base (cf 12 X G e rfl λ_ _ _ _ _ _ us hl=>eZ (λ_=>rfl) us hl) aa2 aaP aaG
 have aa6:=ol l.prog w base (cf 13 X G e rfl λ_ _ _ _ _ _ us hl=>eZ (λ_=>rfl) us hl) aaY S
 have aac:=yi l.prog w base (cf 14 X G e rfl λ_ _ _ _ _ _ us hl=>eZ (λ_=>rfl) us hl) aa6 B
 have aaZ:=sh l.prog w base (cf 15 X G e rfl λ_ _ _ _ _ _ us hl=>gW (λ_ _ _=>rfl) us hl)
 have aaE:=yh l.prog w base (cf 16 X G e rfl λ_ _ _ _ _ _ us hl=>gF (λ_ _=>rfl) us hl) aaZ B
 have aab:=lg l.prog w base (cf 17 X G e rfl λ_ _ _ _ _ _ us hl=>gF (λ_ _=>rfl) us hl) aac aaE B
 have aat:=kG l.prog w base (cf 18 X G e rfl λ_ _ _ _ _ _ us hl=>gF (λ_ _=>rfl) us hl) B
 have aar:=jW l.prog w base (cf 19 X G e rfl λ_ _ _ _ _ _ us hl=>eZ (λ_=>rfl) us hl)
 have aap:=yj l.prog w base (cf 20 X G e rfl λ_ _ _ _ _ _ us hl=>eZ (λ_=>rfl) us hl) aa6 aat aar B
 have abc:=Aq l.prog w base (cf 21 X G e rfl λ_ _ _ _ _ _ us hl=>eZ (λ_=>rfl) us hl) aab aap
 have ab0:=si l.prog w base (cf 22 X G e rfl λ_ _ _ _ _ _ us hl=>eZ (λ_=>rfl) us hl) abc
 have aal:=pR l.prog w base (cf 23 X G e rfl λ_ _ _ _ _ _ us hl=>eZ (λ_=>rfl) us hl) ab0 S
 have aam:=pP l.prog w base (cf 24 X G e rfl λ_ _ _ _ _ _ us hl=>gF (λ_ _=>rfl) us hl) aaE aap
 have aax:=v6 l.prog w base (cf 25 X G e rfl λ_ _ _ _ _ _ us hl=>gF (λ_ _=>rfl) us hl)
 have ab6:=uI l.prog w base (cf 26 X G e rfl λ_ _ _ _ _ _ us hl=>eZ (λ_=>rfl) us hl) aal aac aam aax B
 have aaR:=pQ l.prog w base (cf 27 X G e rfl λ_ _ _ _ _ _ us hl=>eZ (λ_=>rfl) us hl) ab6 aac B
 have aai:=pT l.prog w base (cf 28 X G e rfl λ_ _ _ _ _ _ us hl=>gF (λ_ _=>rfl) us hl) aao S
 have aaS:=pU l.prog w base (cf 29 X G e rfl λ_ _ _ _ _ _ us hl=>gF (λ_ _=>rfl) us hl) aa6 aai aac aab aap B
 have aaI:=om l.prog w base (cf 30 X G e rfl λ_ _ _ _ _ _ us hl=>gW (λ_ _ _=>rfl) us hl) aa6 aai
 have aaf:=mU l.prog w base (cf 31 X G e rfl λ_ _ _ _ _ _ us hl=>gW (λ_ _ _=>rfl) us hl) aaI aal aax aam
 have aay:=lT l.prog w base (cf 32 X G e rfl λ_ _ _ _ _ _ us hl=>gW (λ_ _ _=>rfl) us hl) aaf
 have aa7:=mT l.prog w base (cf 33 X G e rfl λ_ _ _ _ _ _ us hl=>gW (λ_ _ _=>rfl) us hl) aay
 have aad:=oo l.prog w base (cf 34 X G e rfl λ_ _ _ _ _ _ us hl=>gW (λ_ _ _=>rfl) us hl) aaf
 have aaz:=lS l.prog w base (cf 35 X G e rfl λ_ _ _ _ _ _ us hl=>gW (λ_ _ _=>rfl) us hl) aa7
 have aba:=v5 l.prog w base (cf 36 X G e rfl λ_ _ _ _ _ _ us hl=>gW (λ_ _ _=>rfl) us hl) aa7 aad
 have aa5:=sj l.prog w base (cf 37 X G e rfl λ_ _ _ _ _ _ us hl=>HX (λ_ _ _ _=>rfl) us hl) aaR aaS aa7 aad aaz aba B S aaA
 have aaw:=lh l.prog w base (cf 38 X G e rfl λ_ _ _ _ _ _ us hl=>HY rfl us hl) aa5 B
 have ab1:=sk l.prog w base (cf 39 X G e rfl λ_ _ _ _ _ _ us hl=>gF (λ_ _=>rfl) us hl) B
 have aa0:=pX l.prog w base (cf 40 X G e rfl λ_ _ _ _ _ _ us hl=>gW (λ_ _ _=>rfl) us hl) ab1
 have aaj:=oA l.prog w base (cf 41 X G e rfl λ_ _ _ _ _ _ us hl=>eZ (λ_=>rfl) us hl) B
 have aaK:=oy l.prog w base (cf 42 X G e rfl λ_ _ _ _ _ _ us hl=>gW (λ_ _ _=>rfl) us hl) aaj aa0 B
 have aaT:=pY l.prog w base (cf 43 X G e rfl λ_ _ _ _ _ _ us hl=>gF (λ_ _=>rfl) us hl) aa0 B
 have aaL:=ox l.prog w base (cf 44 X G e rfl λ_ _ _ _ _ _ us hl=>gW (λ_ _ _=>rfl) us hl) aa0 aaK aaT B
 have aaM:=oB l.prog w base (cf 45 X G e rfl λ_ _ _ _ _ _ us hl=>eZ (λ_=>rfl) us hl) B
 have aaB:=pW l.prog w base (cf 46 X G e rfl λ_ _ _ _ _ _ us hl=>gF (λ_ _=>rfl) us hl) B
 have aaO:=uJ l.prog w base (cf 47 X G e rfl λ_ _ _ _ _ _ us hl=>gW (λ_ _ _=>rfl) us hl)
 have aaN:=ou l.prog w base (cf 48 X G e rfl λ_ _ _ _ _ _ us hl=>eZ (λ_=>rfl) us hl) aaL aaj aaM aaB aa5 aa0 aaO B
 exact(FP l.prog w base abd aaw aaN).h
def vw:KS:=PySem.W.view LB [71]
def lse:List Str:=(["ClockError","NoRecord","NoEvent","NoNumber","NoWorld","Barred","Nothing","MOST_CLOCKS","MOST_LETTERS","MOST_READINGS","LAST_READING","SLOWEST","LONGEST","is_whole","is_within","is_long","rises","are_readings","is_pace","is_clock"]:List Str)++(["are_clocks","is_event","is_delay","is_letter","are_letters","is_record","need_record","need_event","events","bounds_of_clock","bounds_of_letter","bounds","settle","is_better","greatest_world","world","has_world","need_world","need_events","walks_from"]:List Str)++(["most_of","most_between","least_between","all_most","surely_ahead","maybe_ahead","maybe_at_once","verdict","sure_pairs","fits_order","_law_cell","_law_drawn","_law_clock","_law_letter","_law_events","_law_record","_law_bounds","_law_table","_law_refused","_law_told"]:List Str)++(["_law_due","_law_known_one","_law_stands"]:List Str)
def lhs (w:LA)(h:Heap)(d:Drawn)(t:Nat)(os:Ro):=(PySem.W.topFrom treeTable LB w 9000 ⟨h,⟨[]⟩,d,t,os⟩).map (λs=>(PySem.W.openSeen vw lse (Sy LB.main.body) (λ_=>true) true s,pZ asks (Bd s.heap)))
def rhs (w:LA):=some (PySem.W.openGood vw lse,pF asks top)
theorem lhs_r:lhs=lhs:=rfl
theorem rhs_r:rhs=rhs:=rfl
end G
namespace Tr
open PySem
abbrev RR (cs ls:List T):T:=.tup [.tup cs,.tup ls]
mutual
def T.pl:T->Bool
 | .scr _=>false
 | .dct _ _=>false
 | .tup l=>plS l
 | .lst l=>plS l
 | _=>true
def plS:List T->Bool
 | [] =>true
 | t::l=>t.pl&&plS l
end
theorem ld:∀{l:List T} {t:T},plS l=true->t∈l->t.pl=true
 | [],_,_,h=>by cases h
 | u::l,t,h,m=>by
  unfold plS at h;rw[Ku]at h;rcases Ky.mp m with rfl | m
  ·exact h.1
  ·exact ld h.2 m
mutual
theorem T.Jw:∀(t:T),t.pl=true->t.nd=true
 | .non,_=>rfl
 | .bl _,_=>rfl
 | .int _,_=>rfl
 | .str _,_=>rfl
 | .scr _,h=>by cases h
 | .dct _ _,h=>by cases h
 | .tup l,h=>by unfold T.pl at h;unfold T.nd;exact plS_nds l h
 | .lst l,h=>by unfold T.pl at h;unfold T.nd;exact plS_nds l h
theorem plS_nds:∀(l:List T),plS l=true->nds l=true
 | [],_=>rfl
 | t::l,h=>by
  unfold plS at h;rw[Ku]at h;unfold nds;rw[T.Jw t h.1,plS_nds l h.2];rfl
end
theorem wm {fe:En->Rs T}{h:T->T}:∀(ts:List T) (Z:En),0<Z.length->(∀t∈ts,fe (Z.set 0 (.va t))= .ok (h t))->dz (gN 0) bT fe ts Z= .ok (ts.map h)
 | [],_,_,_=>rfl
 | t::r,Z,hl,hf=>by
  unfold dz
  have e1:gN 0 t Z= .ok (Z.set 0 (.va t)):=by unfold gN;rw[if_pos hl]
  have ih:=wm r (Z.set 0 (.va t)) (by rw[LS];exact hl) (λu hu=>by rw[RC];exact hf u (Ko _ hu))
  simp only[e1,aE,bT,if_true,hf t Kr,ih,Kp]
theorem qO {fc:En->Rs Bool}{fe:En->Rs T}{p:T->Bool}{h:T->T}:∀(ts:List T) (Z:En),0<Z.length->(∀t∈ts,fc (Z.set 0 (.va t))= .ok (p t)/\(p t=true->fe (Z.set 0 (.va t))= .ok (h t)))->dz (gN 0) fc fe ts Z= .ok ((ts.filter p).map h)
 | [],_,_,_=>rfl
 | t::r,Z,hl,hf=>by
  unfold dz
  have e1:gN 0 t Z= .ok (Z.set 0 (.va t)):=by unfold gN;rw[if_pos hl]
  have ih:=qO r (Z.set 0 (.va t)) (by rw[LS];exact hl) (λu hu=>by rw[RC];exact hf u (Ko _ hu))
  obtain⟨h1,h2⟩:=hf t Kr;simp only[e1,aE,h1]
  cases q:p t with
  | true=>simp only[if_true,h2 q,aE,ih,Pq,q,Kp]
  | false=>simp only[ME,if_false,ih,Pq,q]
theorem rc (p:T->Bool):∀l:List T,ph (l.map λt=>T.bl (p t))=some (l.map p)
 | [] =>rfl
 | t::l=>by rw[Kp,ph,rc p l];rfl
theorem all_map (p:T->Bool)(l:List T):qo [.lst (l.map λt=>T.bl (p t))] = .ok (.bl (l.all p)):=by
 simp only[qo,rc,Rv]
 rfl
theorem jC {α:Type}{l:List α}{k:Nat}{t:α}(h:l[k]? =some t):L2.atI l (k:Int)=some t:=by
 have hk:k<l.length:=(KC.mp h).1
 unfold L2.atI L2.ixN;rw[if_pos (by omega),if_pos (by omega),LH]
 exact h
theorem aq {n k:Nat}(h:n<=k)(hk:k<=1000:=by decide):n<=sizeLine:=by unfold sizeLine;omega
section
variable {f fa fb fc:En->Rs T}{fs:En->Rs (List T)}{b c:En->Rs Bool}{F G:En->Rs Fl}{Z Z' Z1 Z2:En}{t u r:T}{ts l m:List T}
theorem az {g:T->T->Rs T}{x:Rs T}(ha:fa Z= .ok t)(hb:fb Z= .ok u)(hg:g t u=x):o2 g fa fb Z=x:=by unfold o2;rw[ha,hb];exact hg
theorem Ih {g:T->T->Rs T}{c:Str}(ha:fa Z= .err c):o2 g fa fb Z= .err c:=by unfold o2;rw[ha];rfl
theorem Ij {g:T->Rs T}{x:Rs T}(ha:fa Z= .ok t)(hg:g t=x):o1 g fa Z=x:=by unfold o1;rw[ha];exact hg
theorem Ig {g:T->T->Rs T}{x:Rs T}{ks vs:List T}(ha:fa Z= .ok (.dct ks vs))(hb:fb Z= .ok u)(hg:g (.dct ks vs) u=x):oD g fa fb Z=x:=by unfold oD;rw[ha];show(fb Z >>= g (.dct ks vs))=_;rw[hb];exact hg
theorem k_oL {g:T->T->Rs T}{x:Rs T}{ks:List T}(ha:fa Z= .ok (.lst ks))(hb:fb Z= .ok u)(hg:g (.lst ks) u=x):oL g fa fb Z=x:=by unfold oL;rw[ha];show(fb Z >>= g (.lst ks))=_;rw[hb];exact hg
theorem al (h:f Z= .ok t)(hs:fs Z= .ok ts):ac f fs Z= .ok (t::ts):=by unfold ac;rw[h,hs];rfl
theorem Da {c:Str}(h:f Z= .err c):ac f fs Z= .err c:=by unfold ac;rw[h];rfl
theorem aJ {g:List T->Rs T}{x:Rs T}(h:fs Z= .ok ts)(hg:g ts=x):cl g fs Z=x:=by unfold cl;rw[h];exact hg
theorem Ip {g:List T->Rs T}{c:Str}(h:fs Z= .err c):cl g fs Z= .err c:=by unfold cl;rw[h];rfl
theorem bB {k:Bool}(h:f Z= .ok (.bl k)):tb f Z= .ok k:=by unfold tb;rw[h];rfl
theorem Ed {c:Str}(h:f Z= .err c):tb f Z= .err c:=by unfold tb;rw[h];rfl
theorem oZ {k:Bool}(h:b Z= .ok k):dX b Z= .ok (!k):=by unfold dX;rw[h];rfl
theorem Gf {c:Str}(h:b Z= .err c):dX b Z= .err c:=by unfold dX;rw[h];rfl
theorem AT (h:b Z= .ok true):lR b c Z= .ok true:=by unfold lR;rw[h];rfl
theorem u8 {x:Rs Bool}(h:b Z= .ok false)(h2:c Z=x):lR b c Z=x:=by unfold lR;rw[h];exact h2
theorem AZ (h:b Z= .ok false):qm b c Z= .ok false:=by unfold qm;rw[h];rfl
theorem wq {x:Rs Bool}(h:b Z= .ok true)(h2:c Z=x):qm b c Z=x:=by unfold qm;rw[h];exact h2
theorem k_or {p q:Bool}(h:b Z= .ok p)(h2:p=false->c Z= .ok q):lR b c Z= .ok (p||q):=by
 cases p with
 | true=>exact AT h
 | false=>exact u8 h (h2 rfl)
theorem sT (h:fa Z= .ok (.bl true)):bW fa fb Z=fb Z:=by unfold bW;rw[h];rfl
theorem sS (h:fa Z= .ok (.bl false)):bW fa fb Z= .ok (.bl false):=by unfold bW;rw[h];rfl
theorem Db {c:Str}(h:fa Z= .err c):bW fa fb Z= .err c:=by unfold bW;rw[h];rfl
theorem xH {p q:Bool}(h:fa Z= .ok (.bl p))(h2:p=true->fb Z= .ok (.bl q)):bW fa fb Z= .ok (.bl (p&&q)):=by
 cases p with
 | true=>rw[sT h,h2 rfl];rfl
 | false=>rw[sS h];rfl
theorem sP (h:fa Z= .ok (.bl true)):qI fa fb Z= .ok (.bl true):=by unfold qI;rw[h];rfl
theorem sQ (h:fa Z= .ok (.bl false)):qI fa fb Z=fb Z:=by unfold qI;rw[h];rfl
theorem Ge {p q:Bool}(h:fa Z= .ok (.bl p))(h2:p=false->fb Z= .ok (.bl q)):qI fa fb Z= .ok (.bl (p||q)):=by
 cases p with
 | true=>rw[sP h];rfl
 | false=>rw[sQ h,h2 rfl];rfl
theorem sR {k:Bool}(h:fa Z= .ok (.bl k)):o1 sy fa Z= .ok (.bl (!k)):=Ij h rfl
theorem ja {p:Bool}(h:b Z= .ok p):sV b fa fb Z=if p then fa Z else fb Z:=by unfold sV;rw[h];rfl
theorem bM {g:T->En->Rs En}(h:f Z= .ok t)(hg:g t Z= .ok Z'):cq f g Z= .ok (.nx Z'):=by unfold cq;rw[h];show(match g t Z with | .ok Z'=>Rs.ok (Fl.nx Z') | _=> .bad)=_;rw[hg]
theorem xG {g:T->En->Rs En}{c:Str}(h:f Z= .err c):cq f g Z= .err c:=by unfold cq;rw[h];rfl
theorem ar (h:F Z= .ok (.nx Z')):aw F G Z=G Z':=by unfold aw;rw[h];rfl
theorem gG (h:F Z= .ok (.rt t)):aw F G Z= .ok (.rt t):=by unfold aw;rw[h];rfl
theorem AS (h:F Z= .ok (.ct Z')):aw F G Z= .ok (.ct Z'):=by unfold aw;rw[h];rfl
theorem fY {c:Str}(h:F Z= .err c):aw F G Z= .err c:=by unfold aw;rw[h];rfl
theorem dU (h:b Z= .ok true):d9 b F G Z=F Z:=by unfold d9;rw[h];rfl
theorem cR (h:b Z= .ok false):d9 b F G Z=G Z:=by unfold d9;rw[h];rfl
theorem AX {c:Str}(h:b Z= .err c):d9 b F G Z= .err c:=by unfold d9;rw[h];rfl
theorem cm (h:f Z= .ok t):aI f Z= .ok (.rt t):=by unfold aI;rw[h];rfl
theorem wo {c:Str}(h:f Z= .err c):aI f Z= .err c:=by unfold aI;rw[h];rfl
theorem kK (h:f Z= .ok t):tM f Z= .ok (.nx Z):=by unfold tM;rw[h];rfl
theorem mL {c:Str}(h:f Z= .err c):tM f Z= .err c:=by unfold tM;rw[h];rfl
theorem dm {fi:En->Rs (List T)}{g:T->En->Rs En}{x:Fl}(h:fi Z= .ok ts)(h2:a9 g F ts Z= .ok x):dD fi g F Z= .ok x:=by unfold dD;rw[h];show(match a9 g F ts Z with | .ok f=>Rs.ok f | _=> .bad)=_;rw[h2]
theorem cz {g:T->En->Rs En}(h:g t Z= .ok Z1)(h2:F Z1= .ok (.nx Z2)):a9 g F (t::ts) Z=a9 g F ts Z2:=by rw[a9,h];show(F Z1 >>= _)=_;rw[h2];rfl
theorem C8 {g:T->En->Rs En}(h:g t Z= .ok Z1)(h2:F Z1= .ok (.ct Z2)):a9 g F (t::ts) Z=a9 g F ts Z2:=by rw[a9,h];show(F Z1 >>= _)=_;rw[h2];rfl
theorem xC {g:T->En->Rs En}(h:g t Z= .ok Z1)(h2:F Z1= .ok (.rt r)):a9 g F (t::ts) Z= .ok (.rt r):=by rw[a9,h];show(F Z1 >>= _)=_;rw[h2];rfl
theorem AR {n:Nat}(h:c Z= .ok false):b8 c F (n+1) Z= .ok (.nx Z):=by unfold b8;rw[h]
theorem u7 {n:Nat}(h:c Z= .ok true)(h2:F Z= .ok (.nx Z')):b8 c F (n+1) Z=b8 c F n Z':=by rw[b8,h];simp only[h2]
theorem AQ {n:Nat}(h:c Z= .ok true)(h2:F Z= .ok (.rt t)):b8 c F (n+1) Z= .ok (.rt t):=by rw[b8,h];simp only[h2]
theorem bz {n m:Nat}(hl:ts.length=n)(h:F (aR m ts)= .ok (.rt t)):val n m F ts= .ok t:=by unfold val;rw[if_pos hl];unfold bN;rw[h];rfl
theorem cX {n m:Nat}{c:Str}(hl:ts.length=n)(h:F (aR m ts)= .err c):val n m F ts= .err c:=by unfold val;rw[if_pos hl];unfold bN;rw[h];rfl
theorem sO {n m:Nat}(hl:ts.length=n)(h:F (aR m ts)= .ok (.nx Z)):val n m F ts= .ok .non:=by unfold val;rw[if_pos hl];unfold bN;rw[h];rfl
theorem Ie {h:Str->Rs T}{k:Fl}(e:F Z= .ok k):ui F h Z= .ok k:=by unfold ui;rw[e]
theorem Gc {h:Str->Rs T}{c:Str}(e:F Z= .err c)(e2:h c= .ok t):ui F h Z= .ok (.rt t):=by unfold ui;rw[e];simp only[e2]
theorem md {fi:En->Rs (List T)}{src:List (Option Nat)}{fe:En->Rs T}{h:T->T}(hi:fi Z= .ok ts)(hs:ts.length<=sizeLine)(hn:0<src.length)(hf:∀t∈ts,fe ((bL src Z).set 0 (.va t))= .ok (h t)) :
  eG fi src (gN 0) bT fe Z= .ok (.lst (ts.map h)):=by
 have e:=wm (fe:=fe) (h:=h) ts (bL src Z) (by unfold bL;rw[Ks];exact hn) hf
 unfold eG;rw[hi,aE,if_pos hs,e]
theorem Ee {fi:En->Rs (List T)}{src:List (Option Nat)}{fc:En->Rs Bool}{fe:En->Rs T}{p:T->Bool}{h:T->T}(hi:fi Z= .ok ts)(hs:ts.length<=sizeLine)(hn:0<src.length)
  (hf:∀t∈ts,fc ((bL src Z).set 0 (.va t))= .ok (p t)/\(p t=true->fe ((bL src Z).set 0 (.va t))= .ok (h t))):eG fi src (gN 0) fc fe Z= .ok (.lst ((ts.filter p).map h)):=by
 have e:=qO (fc:=fc) (fe:=fe) (p:=p) (h:=h) ts (bL src Z) (by unfold bL;rw[Ks];exact hn) hf
 unfold eG;rw[hi,aE,if_pos hs,e]
theorem cy (h:fs Z= .ok ts)(hl:ts.length<=sizeLine):aL fs Z= .ok (.tup ts):=by unfold aL;rw[h];show kw ts=_;unfold kw;rw[if_pos hl]
theorem fS (h:fs Z= .ok ts)(hl:ts.length<=sizeLine):dq fs Z= .ok (.lst ts):=by unfold dq;rw[h];show kx ts=_;unfold kx;rw[if_pos hl]
theorem AU {f:En->Rs (List T)}{i:Nat}(h:f Z= .ok l)(hi:i<Z.length)(hl:l.length<=1000):gP i f Z= .ok (.nx (Z.set i (.ow (.lst l)))):=by
 unfold gP;rw[h,aE,if_pos ⟨hi,aq hl (by omega)⟩]
theorem l9 {i:Nat}(hi:i<Z.length):gP i ag Z= .ok (.nx (Z.set i (.ow (.lst [])))):=AU rfl hi (LP _)
theorem lA {i:Nat}(h:f Z= .ok t)(hi:Z[i]? =some (.ow (.lst l)))(hl:l.length<=1000):gL i f Z= .ok (.nx (Z.set i (.ow (.lst (l++ [t]))))):=by
 unfold gL;rw[hi];simp only[h,aE];rw[if_pos (by unfold sizeLine;omega)]
theorem AY {i:Nat}(h:f Z= .ok (.lst m))(hi:Z[i]? =some (.ow (.lst l)))(hl:l.length+m.length<=1000):n8 i f Z= .ok (.nx (Z.set i (.ow (.lst (l++m))))):=by
 unfold n8;rw[hi];simp only[h,aE,Gu];rw[if_pos (by unfold sizeLine;omega)]
theorem kA (h:f Z= .ok (.lst l)):iS f Z= .ok l:=by unfold iS;rw[h];rfl
theorem xE (h:fs Z= .ok [.lst l]):iE fs Z= .ok (ca 0 l):=by unfold iE;rw[h];rfl
theorem Ef {n:Nat}(e:l[n]? =some t):aW (.tup l) (.int (n:Int))= .ok t:=by show(match L2.atI l _ with | some t=>Rs.ok t | none=> .bad)=_;rw[jC e]
theorem AV {n:Nat}(e:l[n]? =some t):aW (.lst l) (.int (n:Int))= .ok t:=by show(match L2.atI l _ with | some t=>Rs.ok t | none=> .bad)=_;rw[jC e]
theorem yE {n:Nat}(h:fa Z= .ok (.tup l))(h2:fb Z= .ok (.int (n:Int)))(e:l[n]? =some t):o2 aW fa fb Z= .ok t:=az h h2 (Ef e)
theorem AW {n:Nat}(h:fa Z= .ok (.lst l))(h2:fb Z= .ok (.int (n:Int)))(e:l[n]? =some t):o2 aW fa fb Z= .ok t:=az h h2 (AV e)
theorem k_sl {fe:En->Rs T}{fl fu:En->Rs (Option Int)}{lo hi:Option Int}(h:fe Z= .ok (.tup l))(h1:fl Z= .ok lo)(h2:fu Z= .ok hi):sl fe fl fu Z= .ok (.tup (m9 l lo hi)):=by
 unfold sl;rw[h,h1,h2];rfl
theorem xA {fe:En->Rs T}{fl fu:En->Rs (Option Int)}{lo hi:Option Int}(h:fe Z= .ok (.lst l))(h1:fl Z= .ok lo)(h2:fu Z= .ok hi):sl fe fl fu Z= .ok (.lst (m9 l lo hi)):=by
 unfold sl;rw[h,h1,h2];rfl
theorem C7 {i:Int}(h:f Z= .ok (.int i)):pS f Z= .ok (some i):=by unfold pS;rw[h];rfl
theorem vp (l:List T)(n:Nat):m9 l none (some (n:Int))=l.take n:=by
 unfold m9;rw[HT.sIx_none,HT.sIx_nat,List.drop_zero,OR,List.take_eq_take_iff];omega
theorem pd (l:List T)(n:Nat):m9 l (some (n:Int)) none=l.drop n:=by
 unfold m9;rw[HT.sIx_none,HT.sIx_nat]
 by_cases h:n<=l.length
 ·rw[Si h]
  exact L6 (by rw[Mp];omega)
 ·rw[RQ (by omega),NV (KB _),NV (by omega),List.take_nil]
theorem Gd {ms:List (List T->Rs T)}{i:Nat}{g:List T->Rs T}{x:Rs T}(h0:f Z= .ok (.int (i:Nat)))(hm:ms[i]? =some g)(hf:fs Z= .ok ts)(hx:g ts=x):vP ms f fs Z=x:=by
 unfold vP;rw[h0,aE];simp only[jC hm];rw[hf];exact hx
theorem C9 {i:Nat}{o:OT}(hi:Z[i]? =some (.ow o))(h:f (disown i Z)= .ok t)(hk:t.nk o.isD=true):ln i f Z= .ok t:=by
 unfold ln;rw[hi];simp only[h,aE,hk,if_true]
theorem Ik {i:Nat}{k:Bool}(h:b (disown i Z)= .ok k):F3 i b Z= .ok k:=h
theorem xF {i:Nat}{x:Rs Fl}(h:F (disown i Z)=x):k8 i F Z=x:=h
end
theorem mk2 (a b:T):kw [a,b] = .ok (.tup [a,b]):=by unfold kw;rw[if_pos (aq (k:=1000) (by simp only[Kx,Oy];omega))]
theorem gQ (n:Nat):(rng 0 n).length=n:=by unfold rng;rw[Ks,L9];omega
end Tr
namespace Gr
variable {ν:Type}[DecidableEq ν]
abbrev bR (ν:Type):=List (ν×ν×Int)
inductive Wk (L:bR ν):ν->ν->Int->Prop
 | nil (a:ν):Wk L a a 0
 | step {a b c:ν} {m s:Int}:(a,b,m)∈L->Wk L b c s->Wk L a c (m+s)
theorem Wk.one {L:bR ν}{a b:ν}{m:Int}(h:(a,b,m)∈L):Wk L a b m:=by
 have:=Wk.step h (Wk.nil (L:=L) b)
 rwa [Int.add_zero]at this
theorem Wk.app {L:bR ν}{a b c:ν}{s t:Int}(h:Wk L a b s)(k:Wk L b c t):Wk L a c (s+t):=by
 induction h with
 | nil a=>rwa [Int.zero_add]
 | step e _ ih=>rw[Int.add_assoc];exact .step e (ih k)
def Holds (L:bR ν)(t:ν->Int):Prop:=∀a b m,(a,b,m)∈L->t b - t a<=m
theorem Holds.walk {L:bR ν}{t:ν->Int}(h:Holds L t){a b:ν}{s:Int}(w:Wk L a b s):t b - t a<=s:=by
 induction w with
 | nil a=>omega
 | step e _ ih=>have:=h _ _ _ e;omega
def cC (L:bR ν):Prop:=∀a s,Wk L a a s->0<=s
theorem Holds.JL {L:bR ν}{t:ν->Int}(h:Holds L t):cC L:=λa s w=>by have:=h.walk w;omega
def Ch (L:bR ν):ν->List Nat->ν->Prop
 | a,[],b=>a=b
 | a,k::r,b=> ∃c m,L[k]? =some (a,c,m)/\Ch L c r b
def most (L:bR ν)(k:Nat):Int:=match L[k]? with
 | some x=>x.2.2
 | none=>0
def fw (L:bR ν):List Nat->Int
 | [] =>0
 | k::r=>most L k+fw L r
theorem lK (L:bR ν):∀(p q:List Nat),fw L (p++q)=fw L p+fw L q
 | [],q=>by simp[fw]
 | k::p,q=>by rw[List.cons_append,fw,fw,lK L p q];omega
theorem Ch.wk {L:bR ν}:∀{ks:List Nat} {a b:ν},Ch L a ks b->Wk L a b (fw L ks)
 | [],a,b,h=>by cases h;exact .nil a
 | k::r,a,b,⟨c,m,e,h⟩=>by
  have:fw L (k::r)=m+fw L r:=by rw[fw,most,e]
  rw[this];exact .step (Mr e) h.wk
theorem Ch.app {L:bR ν}:∀{p q:List Nat} {a b c:ν},Ch L a p b->Ch L b q c->Ch L a (p++q) c
 | [],q,a,b,c,h,k=>by cases h;exact k
 | x::p,q,a,b,c,⟨d,m,e,h⟩,k=>⟨d,m,e,Ch.app h k⟩
theorem Ch.lt {L:bR ν}:∀{ks:List Nat} {a b:ν},Ch L a ks b->∀k∈ks,k<L.length
 | [],_,_,_,k,hk=>by simp at hk
 | x::r,a,b,⟨c,m,e,h⟩,k,hk=>by
  rcases Ky.mp hk with rfl | hk
  ·exact(KC.mp e).1
  ·exact h.lt k hk
theorem Ch.snoc {L:bR ν}{p:List Nat}{k:Nat}{a b c:ν}{m:Int}(h:Ch L a p b)(e:L[k]? =some (b,c,m)):Ch L a (p++ [k]) c:=h.app ⟨c,m,e,rfl⟩
def src (L:bR ν)(k:Nat):Option ν:=(L[k]?).map (·.1)
abbrev cp (ν:Type):=ν->Option (Int×List Nat)
def put (b:cp ν)(v:ν)(x:Int×List Nat):cp ν:=λu=>if u=v then some x else b u
theorem eV {b:cp ν}{v:ν}{x:Int×List Nat}:put b v x v=some x:=by unfold put;rw[if_pos rfl]
theorem kE {b:cp ν}{u v:ν}{x:Int×List Nat}(h:u≠v):put b v x u=b u:=by unfold put;rw[if_neg h]
def ft (L:bR ν)(ks:List Nat):List ν:=ks.filterMap (src L)
def e9 (b:cp ν)(v:ν)(d:Int):Bool:=match b v with
 | none=>true
 | some x=>decide (d<x.1)
def ip (L:bR ν)(b:cp ν)(k:Nat)(x:ν×ν×Int):Sum (Option (cp ν)) (List Nat):=match b x.1 with
 | none=> .inl none
 | some (d,w)=>if e9 b x.2.1 (d+x.2.2)=true then
   if x.2.1∈ft L (w++ [k])then .inr ((w++ [k]).drop ((ft L (w++ [k])).idxOf x.2.1))else .inl (some (put b x.2.1 (d+x.2.2,w++ [k])))
  else .inl none
def iX (L:bR ν):Nat->bR ν->cp ν->Bool->Sum (cp ν×Bool) (List Nat)
 | _,[],b,mv=> .inl (b,mv)
 | k,x::r,b,mv=>match ip L b k x with
  | .inr q=> .inr q
  | .inl none=>iX L (k+1) r b mv
  | .inl (some b')=>iX L (k+1) r b' true
def settle (L:bR ν):Nat->cp ν->Option (Sum (cp ν) (List Nat))
 | 0,_=>none
 | n+1,b=>match iX L 0 L b false with
  | .inr q=>some (.inr q)
  | .inl (b',true)=>settle L n b'
  | .inl (b',false)=>some (.inl b')
theorem r8 (L:bR ν)(p q:List Nat):ft L (p++q)=ft L p++ft L q:=by unfold ft;rw[List.filterMap_append]
theorem r6 {L:bR ν}{k:Nat}{x:ν×ν×Int}(e:L[k]? =some x):ft L [k] = [x.1]:=by unfold ft src;simp[e]
theorem Ch.Js {L:bR ν}{k:Nat}{r:List Nat}{a b:ν}(h:Ch L a (k::r) b):ft L (k::r)=a::ft L r:=by
 obtain⟨c,m,e,_⟩:=h;rw[show k::r= [k] ++r from rfl,r8,r6 e];rfl
theorem Ch.cut {L:bR ν}{v:ν}:∀{ks:List Nat} {a b:ν},Ch L a ks b->v∈ft L ks->Ch L a (ks.take ((ft L ks).idxOf v)) v/\Ch L v (ks.drop ((ft L ks).idxOf v)) b/\(ft L ks).idxOf v<ks.length
 | [],a,b,_,hv=>by simp[ft]at hv
 | k::r,a,b,h,hv=>by
  rw[h.Js]at hv ⊢
  have h0:=h;obtain⟨c,m,e,h⟩:=h
  by_cases z:a=v
  ·subst z
   rw[List.idxOf_cons_self];exact⟨rfl,h0,by simp⟩
  ·have hv':v∈ft L r:=by
    rcases Ky.mp hv with q | q
    ·exact absurd q.symm z
    ·exact q
   obtain⟨h1,h2,h3⟩:=h.cut hv'
   have ei:(a::ft L r).idxOf v=(ft L r).idxOf v+1:=by
    rw[Sm]
    have:(a == v)=false:=by rw[beq_eq_false_iff_ne];exact z
    rw[this];rfl
   rw[ei];exact⟨⟨c,m,e,h1⟩,h2,by simpa using h3⟩
structure Kept (L:bR ν)(S:List ν)(b:cp ν):Prop where
 walk:∀v d w,b v=some (d,w)->∃s∈S,Ch L s w v/\fw L w=d/\v∉ft L w/\(ft L w).Nodup/\∀p q u,w=p++q->Ch L s p u->∃d' w',b u=some (d',w')/\d'<=fw L p
 start:∀s∈S,∃d w,b s=some (d,w)/\d<=0
theorem Kept.put {L:bR ν}{S:List ν}{b:cp ν}(K:Kept L S b){k:Nat}{a c:ν}{m d:Int}{w:List Nat}(e:L[k]? =some (a,c,m))(ha:b a=some (d,w))(hb:e9 b c (d+m)=true)(hn:c∉ft L (w++ [k])) :
  Kept L S (put b c (d+m,w++ [k])):=by
 have low:∀u d' w',b u=some (d',w')->∃d'' w'',Gr.put b c (d+m,w++ [k]) u=some (d'',w'')/\d''<=d':=λu d' w' h=>by
  by_cases z:u=c
  ·subst z
   refine⟨_,_,eV,?_⟩
   unfold e9 at hb;rw[h]at hb
   have:=of_decide_eq_true hb;omega
  ·exact⟨d',w',by rw[kE z];exact h,MN _⟩
 obtain⟨s,hs,h1,h2,h3,h4,h5⟩:=K.walk a d w ha
 have hch:Ch L s (w++ [k]) c:=h1.snoc e
 have hcost:fw L (w++ [k])=d+m:=by rw[lK,h2,fw,fw,most,e];simp
 refine⟨λv d' w' h=> ?_,λs' hs'=> ?_⟩
 ·by_cases z:v=c
  ·subst z
   rw[eV]at h;cases h;refine⟨s,hs,hch,hcost,hn,?_,λp q u hpq hp=> ?_⟩
   ·rw[r8,r6 e]
    exact LI.mpr ⟨h4,by simp,λx hx y hy=>by simp at hy;subst hy;exact λz=>h3 (z▸hx)⟩
   ·by_cases hq:q= []
    ·subst hq
     rw[Lc]at hpq;subst hpq
     have:u=v:=by
      clear low hb hn h5
      have aux:∀{ks:List Nat} {x y z:ν},Ch L x ks y->Ch L x ks z->y=z:=by
       intro ks
       induction ks with
       | nil=>intro x y z h1 h2;cases h1;cases h2;rfl
       | cons k r ih=>
        rintro x y z ⟨c1,m1,e1,r1⟩ ⟨c2,m2,e2,r2⟩
        rw[e1]at e2;cases e2;exact ih r1 r2
      exact aux hp hch
     subst this;exact⟨_,_,eV,by rw[hcost];exact MN _⟩
    ·have hw:∃q',w=p++q':=by
      refine⟨q.dropLast,?_⟩
      have:=congrArg List.dropLast hpq;rw[List.dropLast_concat,List.dropLast_append_of_ne_nil hq]at this;exact this
     obtain⟨q',hw⟩:=hw;obtain⟨d1,w1,e1,l1⟩:=h5 p q' u hw hp;obtain⟨d2,w2,e2,l2⟩:=low u d1 w1 e1;exact⟨d2,w2,e2,by omega⟩
  ·rw[kE z]at h
   obtain⟨s',hs',g1,g2,g3,g4,g5⟩:=K.walk v d' w' h;refine⟨s',hs',g1,g2,g3,g4,λp q u hpq hp=> ?_⟩
   obtain⟨d1,w1,e1,l1⟩:=g5 p q u hpq hp;obtain⟨d2,w2,e2,l2⟩:=low u d1 w1 e1;exact⟨d2,w2,e2,by omega⟩
 ·obtain⟨d1,w1,e1,l1⟩:=K.start s' hs'
  obtain⟨d2,w2,e2,l2⟩:=low s' d1 w1 e1;exact⟨d2,w2,e2,by omega⟩
def Bar (L:bR ν)(q:List Nat):Prop:=q≠ []/\(∃a,Ch L a q a)/\fw L q<0/\(ft L q).Nodup
theorem Ch.JD {L:bR ν}:∀{ks:List Nat} {a b:ν} (i:Nat),Ch L a ks b->ft L (ks.drop i)=(ft L ks).drop i
 | [],_,_,i,_=>by simp[ft]
 | k::r,a,b,0,_=>rfl
 | k::r,a,b,i+1,h=>by
  have:=h;obtain⟨c,m,e,h'⟩:=this;rw[h.Js,Qp,Qp,h'.JD i]
theorem Kept.round {L:bR ν}{S:List ν}{b:cp ν}(K:Kept L S b){k:Nat}{a c:ν}{m d:Int}{w:List Nat}(e:L[k]? =some (a,c,m))(ha:b a=some (d,w))(hb:e9 b c (d+m)=true)(hn:c∈ft L (w++ [k])) :
  Bar L ((w++ [k]).drop ((ft L (w++ [k])).idxOf c)):=by
 obtain⟨s,hs,h1,h2,h3,h4,h5⟩:=K.walk a d w ha
 have hch:Ch L s (w++ [k]) c:=h1.snoc e
 have hcost:fw L (w++ [k])=d+m:=by rw[lK,h2,fw,fw,most,e];simp
 obtain⟨c1,c2,c3⟩:=hch.cut hn
 generalize hi:(ft L (w++ [k])).idxOf c=i at c1 c2 c3
 refine⟨λz=> ?_,⟨c,c2⟩,?_,?_⟩
 ·have:=congrArg Lx z
  rw[Mp]at this
  simp at this c3
  omega
 ·have hsum:fw L ((w++ [k]).take i)+fw L ((w++ [k]).drop i)=d+m:=by rw[<-lK,Oc,hcost]
  have hiw:i<=w.length:=by simp at c3;omega
  have ht:(w++ [k]).take i=w.take i:=by rw[List.take_append_of_le_length hiw]
  rw[ht]at c1 hsum;obtain⟨d1,w1,e1,l1⟩:=h5 (w.take i) (w.drop i) c (Oc i w).symm c1;unfold e9 at hb;rw[e1]at hb
  have:=of_decide_eq_true hb;simp only at this;omega
 ·rw[hch.JD,r8,r6 e]
  refine(List.drop_sublist _ _).nodup (LI.mpr ⟨h4,by simp,λx hx y hy=> ?_⟩)
  rw[KQ.mp hy];exact λz=>h3 (by have z:x=a:=z;rw[<-z];exact hx)
def size (L:bR ν):Nat:=(L.map λx=>x.2.2.natAbs).sum
theorem kf {f:Nat->Nat}:∀{ks rs:List Nat},ks.Nodup->(∀k∈ks,k∈rs)->(ks.map f).sum<=(rs.map f).sum
 | [],rs,_,_=>by simp
 | k::ks,rs,hn,hs=>by
  have hk:k∈rs:=hs k Kr;rw[K0]at hn
  have hp:=List.perm_cons_erase hk
  have e:(rs.map f).sum=f k+((rs.erase k).map f).sum:=by
   have:=(hp.map f).sum_nat
   rwa [Kp,Mg]at this
  rw[e,Kp,Mg]
  have:=kf (f:=f) hn.2 (rs:=rs.erase k) λj hj=>by
   have h1:=hs j (Ko _ hj);exact(Qb (λ(z:j=k)=>hn.1 (z▸hj))).mpr h1
  omega
theorem vM (L:bR ν):size L=((Lu L.length).map λk=>(most L k).natAbs).sum:=by
 unfold size
 congr 1
 apply List.ext_getElem
 ·simp
 ·intro i h1 h2
  simp only[Nu,QM];unfold most;rw[KD (by simpa using h1)]
theorem xP (L:bR ν):∀(ks:List Nat),(fw L ks).natAbs<=(ks.map λk=>(most L k).natAbs).sum
 | [] =>by simp[fw]
 | k::r=>by
  have:=xP L r;rw[fw,Kp,Mg];omega
theorem Ch.nodup {L:bR ν}:∀{ks:List Nat} {a b:ν},Ch L a ks b->(ft L ks).Nodup->ks.Nodup
 | [],_,_,_,_=>ML
 | k::r,a,b,h,hn=>by
  have h0:=h;rw[h.Js,K0]at hn;obtain⟨c,m,e,h⟩:=h;rw[K0];refine⟨λhk=>hn.1 ?_,h.nodup hn.2⟩
  unfold ft src;exact OQ.mpr ⟨k,hk,by rw[e];rfl⟩
theorem Ch.small {L:bR ν}{ks:List Nat}{a b:ν}(h:Ch L a ks b)(hn:(ft L ks).Nodup):(fw L ks).natAbs<=size L:=by
 rw[vM];exact K6 (xP L ks) (kf (h.nodup hn) λk hk=>LW.mpr (h.lt k hk))
def val (M:Nat)(b:cp ν)(v:ν):Nat:=match b v with
 | none=>2*M+1
 | some x=>(x.1+M).toNat
def left (M:Nat)(b:cp ν)(L:bR ν):Nat:=(L.map λx=>val M b x.2.1).sum
theorem xn {M:Nat}{b b':cp ν}:∀{L:bR ν},(∀x∈L,val M b' x.2.1<=val M b x.2.1)->left M b' L<=left M b L
 | [],_=>by simp[left]
 | x::L,h=>by
  have h1:=h x Kr
  have h2:=xn (L:=L) λy hy=>h y (Ko _ hy)
  unfold left at h2 ⊢;rw[Kp,Mg,Kp,Mg];omega
theorem xm {M:Nat}{b b':cp ν}{x:ν×ν×Int}:∀{L:bR ν},x∈L->(∀x∈L,val M b' x.2.1<=val M b x.2.1)->val M b' x.2.1<val M b x.2.1->left M b' L<left M b L
 | [],hx,_,_=>by simp at hx
 | y::L,hx,h,hl=>by
  have h1:=h y Kr
  have h2:=xn (L:=L) λy hy=>h y (Ko _ hy)
  unfold left at h2 ⊢;rw[Kp,Mg,Kp,Mg];rcases Ky.mp hx with rfl | hx
  ·omega
  ·have h3:=xm (L:=L) hx (λy hy=>h y (Ko _ hy)) hl
   unfold left at h3;omega
theorem AJ {L:bR ν}{S:List ν}{b:cp ν}(K:Kept L S b){k:Nat}{a c:ν}{m d:Int}{w:List Nat}(e:L[k]? =some (a,c,m))(ha:b a=some (d,w))(hb:e9 b c (d+m)=true)(hn:c∉ft L (w++ [k])) :
  left (size L) (put b c (d+m,w++ [k])) L<left (size L) b L:=by
 have K':=K.put e ha hb hn;obtain⟨s,hs,h1,h2,h3,h4,h5⟩:=K'.walk c (d+m) (w++ [k]) eV
 have sm:=h1.small h4;rw[h2]at sm
 have lt:val (size L) (put b c (d+m,w++ [k])) c<val (size L) b c:=by
  unfold val e9 at*;rw[eV]
  cases z:b c with
  | none=>simp only;omega
  | some y=>
   rw[z]at hb
   have hb:=of_decide_eq_true hb;simp only;omega
 refine xm (x:=(a,c,m)) (Mr e) (λy _=> ?_) lt
 by_cases z:y.2.1=c
 ·rw[z];exact Ml lt
 ·unfold val;rw[kE z];exact KB _
def BL (b:cp ν)(x:ν×ν×Int):Prop:=∀d w,b x.1=some (d,w)->∃d' w',b x.2.1=some (d',w')/\d'<=d+x.2.2
theorem zA {b:cp ν}{x:ν×ν×Int}(h:∀d w,b x.1=some (d,w)->e9 b x.2.1 (d+x.2.2)=false):BL b x:=λd w e=>by
 have:=h d w e;unfold e9 at this
 cases z:b x.2.1 with
 | none=>rw[z]at this;cases this
 | some y=>
  rw[z]at this
  have:=of_decide_eq_false this;exact⟨y.1,y.2,rfl,by omega⟩
theorem jg {L:bR ν}{S:List ν}:∀(r:bR ν) (k:Nat) (b:cp ν) (mv:Bool),L.drop k=r->Kept L S b->match iX L k r b mv with
  | .inr q=>Bar L q
  | .inl (b',mv')=>Kept L S b'/\(mv'=false->mv=false/\b'=b/\∀x∈r,BL b x)/\left (size L) b' L<=left (size L) b L/\(mv'=true->mv=true\/left (size L) b' L<left (size L) b L)
 | [],k,b,mv,_,K=>⟨K,λh=>⟨h,rfl,λx hx=>by simp at hx⟩,KB _,λh=> .inl h⟩
 | x::r,k,b,mv,hr,K=>by
  have e:L[k]? =some x:=by
   have:=congrArg (·[0]?) hr
   simpa using this
  have hr':L.drop (k+1)=r:=by
   have:=congrArg (List.drop 1) hr
   simpa [List.drop_drop,Rr]using this
  rw[iX];obtain⟨a,c,m⟩:=x;unfold ip
  cases z:b a with
  | none=>
   simp only[z]
   have ih:=jg r (k+1) b mv hr' K
   revert ih
   generalize iX L (k+1) r b mv=R
   cases R with
   | inr q=>exact id
   | inl p=>
    obtain⟨b',mv'⟩:=p
    rintro ⟨i1,i2,i3,i4⟩
    refine⟨i1,λh=> ?_,i3,i4⟩
    obtain⟨j1,j2,j3⟩:=i2 h;refine⟨j1,j2,λx hx=> ?_⟩
    rcases Ky.mp hx with rfl | hx
    ·intro d w q;rw[z]at q;cases q
    ·exact j3 x hx
  | some y=>
   obtain⟨d,w⟩:=y;simp only[z]
   by_cases hb:e9 b c (d+m)=true
   ·rw[if_pos hb]
    by_cases hn:c∈ft L (w++ [k])
    ·rw[if_pos hn]
     exact K.round e z hb hn
    ·rw[if_neg hn]
     have K':=K.put e z hb hn
     have lt:=AJ K e z hb hn
     have ih:=jg r (k+1) (put b c (d+m,w++ [k])) true hr' K'
     revert ih
     simp only
     generalize iX L (k+1) r (put b c (d+m,w++ [k])) true=R
     cases R with
     | inr q=>exact id
     | inl p=>
      obtain⟨b',mv'⟩:=p
      rintro ⟨i1,i2,i3,i4⟩
      refine⟨i1,λh=> ?_,by omega,λ_=> .inr (by omega)⟩
      obtain⟨j1,_⟩:=i2 h;cases j1
   ·rw[if_neg hb]
    have ih:=jg r (k+1) b mv hr' K
    revert ih
    simp only
    generalize iX L (k+1) r b mv=R
    cases R with
    | inr q=>exact id
    | inl p=>
     obtain⟨b',mv'⟩:=p
     rintro ⟨i1,i2,i3,i4⟩
     refine⟨i1,λh=> ?_,i3,i4⟩
     obtain⟨j1,j2,j3⟩:=i2 h;refine⟨j1,j2,λx hx=> ?_⟩
     rcases Ky.mp hx with rfl | hx
     ·refine zA λd' w' q=> ?_
      simp only at q;rw[z]at q;cases q
      simpa using hb
     ·exact j3 x hx
structure Settled (L:bR ν)(S:List ν)(b:cp ν):Prop where
 walk:∀v d w,b v=some (d,w)->∃s∈S,Ch L s w v/\fw L w=d/\v∉ft L w/\(ft L w).Nodup
 least:∀s∈S,∀v t,Wk L s v t->∃d w,b v=some (d,w)/\d<=t
theorem vN {L:bR ν}{S:List ν}{b:cp ν}(K:Kept L S b)(h:∀x∈L,BL b x):Settled L S b where
 walk:=λv d w e=>by
  obtain⟨s,h1,h2,h3,h4,h5,_⟩:=K.walk v d w e;exact⟨s,h1,h2,h3,h4,h5⟩
 least:=by
  have go:∀{u v:ν} {t:Int},Wk L u v t->∀d w,b u=some (d,w)->∃d' w',b v=some (d',w')/\d'<=d+t:=by
   intro u v t hw
   induction hw with
   | nil a=>exact λd w e=>⟨d,w,e,by omega⟩
   | step e _ ih=>
    intro d w q;obtain⟨d1,w1,e1,l1⟩:=h _ e d w q;obtain⟨d2,w2,e2,l2⟩:=ih d1 w1 e1;exact⟨d2,w2,e2,by simp only at l1;omega⟩
  intro s hs v t hw;obtain⟨d,w,e,l⟩:=K.start s hs;obtain⟨d2,w2,e2,l2⟩:=go hw d w e;exact⟨d2,w2,e2,by omega⟩
theorem qD {L:bR ν}{S:List ν}:∀(n:Nat) (b:cp ν),Kept L S b->left (size L) b L<n->∃r,settle L n b=some r/\match r with
  | .inr q=>Bar L q
  | .inl b'=>Settled L S b'
 | 0,b,K,h=>by omega
 | n+1,b,K,h=>by
  have s:=jg (S:=S) L 0 b false rfl K;rw[settle]
  revert s
  generalize iX L 0 L b false=R
  cases R with
  | inr q=>exact λs=>⟨_,rfl,s⟩
  | inl p=>
   obtain⟨b',mv'⟩:=p
   rintro ⟨i1,i2,i3,i4⟩
   cases mv' with
   | false=>
    obtain⟨_,j2,j3⟩:=i2 rfl;subst j2
    exact⟨_,rfl,vN i1 j3⟩
   | true=>
    rcases i4 rfl with z | z
    ·cases z
    ·exact qD n b' i1 (by omega)
def start (S:List ν):cp ν:=λv=>if v∈S then some (0,[])else none
theorem oY (L:bR ν)(S:List ν):Kept L S (start S) where
 walk:=λv d w e=>by
  unfold start at e
  split at e
  ·rename_i h
   cases e;refine⟨v,h,rfl,rfl,by simp[ft],by simp[ft],λp q u hpq hp=> ?_⟩
   obtain⟨rfl,rfl⟩:=List.append_eq_nil_iff.mp hpq.symm;cases hp;exact⟨0,[],by unfold start;rw[if_pos h],by simp[fw]⟩
  ·cases e
 start:=λs hs=>⟨0,[],by unfold start;rw[if_pos hs],MN _⟩
theorem AK (L:bR ν)(S:List ν):left (size L) (start S) L<=L.length*(2*size L+1):=by
 unfold left
 have:∀M:bR ν,(M.map λx=>val (size L) (start S) x.2.1).sum<=M.length*(2*size L+1):=by
  intro M
  induction M with
  | nil=>simp
  | cons x M ih=>
   rw[Kp,Mg,Kx,Nat.succ_mul]
   have:val (size L) (start S) x.2.1<=2*size L+1:=by
    unfold val start;split
    ·exact KB _
    ·rename_i h
     split at h
     ·cases h;simp;omega
     ·cases h
   omega
 exact this L
theorem vO (L:bR ν)(S:List ν){n:Nat}(h:L.length*(2*size L+1)<n):∃r,settle L n (start S)=some r/\match r with
  | .inr q=>Bar L q
  | .inl b'=>Settled L S b':=qD n (start S) (oY L S) (NL (AK L S) h)
theorem Bar.neg {L:bR ν}{q:List Nat}(h:Bar L q):¬ cC L:=λn=>by
 obtain⟨_,⟨a,ha⟩,hc,_⟩:=h
 have:=n a _ ha.wk;omega
theorem Settled.holds {L:bR ν}{S:List ν}{b:cp ν}(h:Settled L S b)(hS:∀x∈L,x.1∈S/\x.2.1∈S){t:ν->Int}(ht:∀v∈S,∃w,b v=some (t v,w)):Holds L t:=λa c m hx=>by
 obtain⟨ha,hc⟩:=hS _ hx;obtain⟨w,e⟩:=ht a ha;obtain⟨s,hs,h1,h2,_⟩:=h.walk a _ _ e;obtain⟨d,w',e',l⟩:=h.least s hs c _ (h1.wk.app (.one hx));obtain⟨w2,e2⟩:=ht c hc;rw[e2]at e';cases e';omega
inductive Pth (L:bR ν):ν->List ν->ν->Int->Prop
 | one {a b:ν} {m:Int}:(a,b,m)∈L->Pth L a [] b m
 | cons {a x b:ν} {ms:List ν} {m s:Int}:(a,x,m)∈L->Pth L x ms b s->Pth L a (x::ms) b (m+s)
theorem Pth.cut {L:bR ν}{x:ν}{q:List ν}:∀{p:List ν} {a b:ν} {s:Int},Pth L a (p++x::q) b s->∃s1 s2,Pth L a p x s1/\Pth L x q b s2/\s=s1+s2
 | [],a,b,s,h=>by
  cases h with
  | cons e h=>exact⟨_,_,.one e,h,rfl⟩
 | y::p,a,b,s,h=>by
  cases h with
  | cons e h=>
   obtain⟨s1,s2,h1,h2,h3⟩:=Pth.cut h;exact⟨_,s2,.cons e h1,h2,by omega⟩
def GL (L:bR ν)(u v:ν)(s:Int):Prop:=(u=v/\s=0)\/(u≠v/\∃ms,Pth L u ms v s/\ms.Nodup/\u∉ms/\v∉ms)
def BP (L:bR ν):Prop:=∃x ms s,Pth L x ms x s/\ms.Nodup/\x∉ms/\s<0
theorem Wk.simple {L:bR ν}{u v:ν}{s:Int}(w:Wk L u v s):BP L\/∃s',s'<=s/\GL L u v s':=by
 induction w with
 | nil a=>exact .inr ⟨0,MN _,.inl ⟨rfl,rfl⟩⟩
 | @step a b c m s e w ih=>
  rcases ih with ih | ⟨s',hs,ih⟩
  ·exact .inl ih
  by_cases hab:a=b
  ·subst hab
   by_cases hm:m<0
   ·exact .inl ⟨a,[],m,.one e,ML,by simp,hm⟩
   ·exact .inr ⟨s',by omega,ih⟩
  rcases ih with⟨rfl,rfl⟩ | ⟨hbc,ms,hp,hn,hb,hc⟩
  ·exact .inr ⟨m,by omega,.inr ⟨hab,[],.one e,ML,by simp,by simp⟩⟩
  by_cases hac:a=c
  ·subst hac
   by_cases hm:m+s'<0
   ·exact .inl ⟨a,b::ms,m+s',.cons e hp,K0.mpr ⟨hb,hn⟩,by simp[hab,hc],hm⟩
   ·exact .inr ⟨0,by omega,.inl ⟨rfl,rfl⟩⟩
  by_cases ham:a∈ms
  ·obtain⟨p,q,rfl⟩:=QN ham
   obtain⟨s1,s2,h1,h2,h3⟩:=hp.cut;rw[LI]at hn;obtain⟨n1,n2,n3⟩:=hn;rw[K0]at n2
   have hap:a∉p:=λz=>n3 a z a Kr rfl
   by_cases hm:m+s1<0
   ·refine .inl ⟨a,b::p,m+s1,.cons e h1,K0.mpr ⟨λz=>hb (Lg _ z),n1⟩,by simp[hab,hap],hm⟩
   ·exact .inr ⟨s2,by omega,.inr ⟨hac,q,h2,n2.2,n2.1,λz=>hc (KU _ (Ko _ z))⟩⟩
  ·refine .inr ⟨m+s',by omega,.inr ⟨hac,b::ms,.cons e hp,K0.mpr ⟨hb,hn⟩,by simp[hab,ham],?_⟩⟩
   simp only[Ky,not_or];exact⟨λz=>hbc z.symm,hc⟩
abbrev cY (ν:Type):=ν->ν->Option Int
def jx (f:cY ν)(a b:ν)(x:Int):cY ν:=λu v=>if u=a/\v=b then some x else f u v
def m7 (f:cY ν)(a b:ν)(x:Int):cY ν:=match f a b with
 | none=>jx f a b x
 | some y=>if x<y then jx f a b x else f
def lD (mid one other:ν)(f:cY ν):cY ν:=match f one mid,f mid other with
 | some x,some y=>m7 f one other (x+y)
 | _,_=>f
def tV (P:List ν):cY ν:=λu v=>if u∈P/\u=v then some 0 else none
def zr (P:List ν)(L:bR ν):cY ν:=L.foldl (λf x=>m7 f x.1 x.2.1 x.2.2) (tV P)
def lE (mid one:ν)(P:List ν)(f:cY ν):cY ν:=P.foldl (λf other=>lD mid one other f) f
def o5 (mid:ν)(Q P:List ν)(f:cY ν):cY ν:=Q.foldl (λf one=>lE mid one P f) f
def ve (M P:List ν)(f:cY ν):cY ν:=M.foldl (λf mid=>o5 mid P P f) f
def table (P:List ν)(L:bR ν):cY ν:=ve P P (zr P L)
def Le (f g:cY ν):Prop:=∀u v x,g u v=some x->∃y,f u v=some y/\y<=x
theorem Le.refl (f:cY ν):Le f f:=λu v x h=>⟨x,h,MN _⟩
theorem Le.trans {f g h:cY ν}(a:Le f g)(b:Le g h):Le f h:=λu v x e=>by
 obtain⟨y,e1,l1⟩:=b u v x e;obtain⟨z,e2,l2⟩:=a u v y e1;exact⟨z,e2,by omega⟩
theorem mh {f:cY ν}{a b:ν}{x:Int}:jx f a b x a b=some x:=by unfold jx;rw[if_pos ⟨rfl,rfl⟩]
theorem sY (f:cY ν)(a b:ν)(x:Int):Le (m7 f a b x) f:=λu v y e=>by
 unfold m7
 cases q:f a b with
 | none=>
  by_cases z:u=a/\v=b
  ·obtain⟨rfl,rfl⟩:=z;rw[q]at e;cases e
  ·exact⟨y,by simp only;unfold jx;rw[if_neg z];exact e,MN _⟩
 | some y0=>
  simp only;split
  ·by_cases z:u=a/\v=b
   ·obtain⟨rfl,rfl⟩:=z;rw[q]at e;cases e
    exact⟨x,mh,by omega⟩
   ·exact⟨y,by unfold jx;rw[if_neg z];exact e,MN _⟩
  ·exact⟨y,e,MN _⟩
theorem xL (f:cY ν)(a b:ν)(x:Int):∃y,m7 f a b x a b=some y/\y<=x:=by
 unfold m7
 cases q:f a b with
 | none=>exact⟨x,mh,MN _⟩
 | some y0=>
  simp only;split
  ·exact⟨x,mh,MN _⟩
  ·exact⟨y0,q,by omega⟩
theorem o7 {L:bR ν}{f:cY ν}{a b:ν}{x:Int}(h:∀u v y,f u v=some y->Wk L u v y)(hx:Wk L a b x):∀u v y,m7 f a b x u v=some y->Wk L u v y:=λu v y e=>by
 have key:jx f a b x u v=some y->Wk L u v y:=λe'=>by
  unfold jx at e'
  by_cases z:u=a/\v=b
  ·rw[if_pos z]at e';injection e' with e';rw[z.1,z.2,<-e'];exact hx
  ·rw[if_neg z]at e';exact h u v y e'
 unfold m7 at e
 cases q:f a b with
 | none=>rw[q]at e;exact key e
 | some y0=>
  rw[q]at e;simp only at e
  split at e
  ·exact key e
  ·exact h u v y e
theorem vc (mid one other:ν)(f:cY ν):Le (lD mid one other f) f:=by
 unfold lD;split
 ·exact sY _ _ _ _
 ·exact Le.refl f
theorem Bb {mid one other:ν}{f:cY ν}{x y:Int}(h1:f one mid=some x)(h2:f mid other=some y):∃z,lD mid one other f one other=some z/\z<=x+y:=by
 unfold lD;rw[h1,h2];exact xL _ _ _ _
theorem jR {α:Type}(step:cY ν->α->cY ν)(hs:∀f a,Le (step f a) f):∀(l:List α) (f:cY ν),Le (l.foldl step f) f
 | [],f=>Le.refl f
 | a::l,f=>(jR step hs l (step f a)).trans (hs f a)
theorem o4 (mid one:ν)(P:List ν)(f:cY ν):Le (lE mid one P f) f:=jR _ (λf o=>vc mid one o f) P f
theorem vd (mid:ν)(Q P:List ν)(f:cY ν):Le (o5 mid Q P f) f:=jR _ (λf o=>o4 mid o P f) Q f
theorem Bg (M P:List ν)(f:cY ν):Le (ve M P f) f:=jR _ (λf o=>vd o P P f) M f
theorem nB {α:Type}(step:cY ν->α->cY ν)(hs:∀f a,Le (step f a) f):∀(l:List α) (f:cY ν) (a:α),a∈l->∃g,Le g f/\Le (l.foldl step f) (step g a)
 | [],f,a,h=>by simp at h
 | b::l,f,a,h=>by
  rcases Ky.mp h with rfl | h
  ·exact⟨f,Le.refl f,jR step hs l (step f a)⟩
  ·obtain⟨g,h1,h2⟩:=nB step hs l (step f b) a h
   exact⟨g,h1.trans (hs f b),h2⟩
theorem Bf {mid u v:ν}{P:List ν}{f:cY ν}{x y:Int}(hu:u∈P)(hv:v∈P)(h1:f u mid=some x)(h2:f mid v=some y):∃z,o5 mid P P f u v=some z/\z<=x+y:=by
 obtain⟨g,g1,g2⟩:=nB (λf one=>lE mid one P f) (λf o=>o4 mid o P f) P f u hu
 obtain⟨g',g3,g4⟩:=nB (λf other=>lD mid u other f) (λf o=>vc mid u o f) P g v hv
 have l:Le g' f:=g3.trans g1;obtain⟨x',e1,l1⟩:=l _ _ _ h1;obtain⟨y',e2,l2⟩:=l _ _ _ h2;obtain⟨z,e3,l3⟩:=Bb e1 e2;obtain⟨z',e4,l4⟩:=(g2.trans g4) _ _ _ e3;exact⟨z',e4,by omega⟩
def Up (L:bR ν)(M:List ν)(f:cY ν):Prop:=∀u v ms s,Pth L u ms v s->ms.Nodup->(∀x∈ms,x∈M)->∃y,f u v=some y/\y<=s
theorem Pth.ends {L:bR ν}{P:List ν}(hL:∀x∈L,x.1∈P/\x.2.1∈P){u v:ν}{ms:List ν}{s:Int}(h:Pth L u ms v s):u∈P/\v∈P/\∀x∈ms,x∈P:=by
 induction h with
 | one e=>exact⟨(hL _ e).1,(hL _ e).2,by simp⟩
 | cons e _ ih=>exact⟨(hL _ e).1,ih.2.1,λx hx=>by
   rcases Ky.mp hx with rfl | hx
   ·exact ih.1
   ·exact ih.2.2 x hx⟩
theorem Up.mid {L:bR ν}{P M:List ν}{f:cY ν}(hL:∀x∈L,x.1∈P/\x.2.1∈P)(h:Up L M f)(k:ν):Up L (k::M) (o5 k P P f):=λu v ms s hp hn hm=>by
 by_cases hk:k∈ms
 ·obtain⟨p,q,rfl⟩:=QN hk
  obtain⟨s1,s2,h1,h2,h3⟩:=hp.cut;rw[LI]at hn;obtain⟨n1,n2,n3⟩:=hn;rw[K0]at n2
  have hp':∀x∈p,x∈M:=λx hx=>by
   rcases Ky.mp (hm x (Lg _ hx))with rfl | z
   ·exact absurd rfl (n3 x hx x Kr)
   ·exact z
  have hq':∀x∈q,x∈M:=λx hx=>by
   rcases Ky.mp (hm x (KU _ (Ko _ hx)))with rfl | z
   ·exact absurd hx n2.1
   ·exact z
  obtain⟨y1,e1,l1⟩:=h u k p s1 h1 n1 hp';obtain⟨y2,e2,l2⟩:=h k v q s2 h2 n2.2 hq';obtain⟨z,e3,l3⟩:=Bf (P:=P) (h1.ends hL).1 (h2.ends hL).2.1 e1 e2;exact⟨z,e3,by omega⟩
 ·obtain⟨y,e,l⟩:=h u v ms s hp hn λx hx=>by
   rcases Ky.mp (hm x hx)with rfl | z
   ·exact absurd hx hk
   ·exact z
  obtain⟨z,e2,l2⟩:=vd k P P f u v y e;exact⟨z,e2,by omega⟩
theorem Up.Kb {L:bR ν}{P:List ν}(hL:∀x∈L,x.1∈P/\x.2.1∈P):∀(Q M:List ν) (f:cY ν),Up L M f->∃M',(∀x,x∈Q\/x∈M->x∈M')/\Up L M' (ve Q P f)
 | [],M,f,h=>⟨M,λx hx=>hx.elim (λz=>by simp at z) id,h⟩
 | k::Q,M,f,h=>by
  obtain⟨M',h1,h2⟩:=Up.Kb hL Q (k::M) (o5 k P P f) (h.mid hL k);refine⟨M',λx hx=>h1 x ?_,h2⟩
  rcases hx with hx | hx
  ·rcases Ky.mp hx with rfl | hx
   ·exact .inr Kr
   ·exact .inl hx
  ·exact .inr (Ko _ hx)
theorem B6 {P:List ν}{L:bR ν}:Up L [] (zr P L):=λu v ms s hp hn hm=>by
 have:ms= []:=by
  cases ms with
  | nil=>rfl
  | cons x r=>exact absurd (hm x Kr) (by simp)
 subst this
 cases hp with
 | one e=>
  obtain⟨g,h1,h2⟩:=nB (λ(f:cY ν) (x:ν×ν×Int)=>m7 f x.1 x.2.1 x.2.2) (λf x=>sY f _ _ _) L (tV P) _ e
  obtain⟨y,e1,l1⟩:=xL g u v s;obtain⟨z,e2,l2⟩:=h2 u v y e1;exact⟨z,e2,by omega⟩
theorem gH {α:Type}{L:bR ν}(step:cY ν->α->cY ν):∀(l:List α) (f:cY ν),(∀f,∀a∈l,(∀u v y,f u v=some y->Wk L u v y)->∀u v y,step f a u v=some y->Wk L u v y)->(∀u v y,f u v=some y->Wk L u v y)->∀u v y,l.foldl step f u v=some y->Wk L u v y
 | [],f,_,h=>h
 | a::l,f,hs,h=>gH step l (step f a) (λf b hb=>hs f b (Ko _ hb)) (hs f a Kr h)
theorem mx (P:List ν)(L:bR ν):∀u v y,table P L u v=some y->Wk L u v y:=by
 unfold table ve;refine gH _ P _ (λf m _ h=> ?_) ?_
 ·unfold o5
  refine gH _ P _ (λf o _ h=> ?_) h
  unfold lE;refine gH _ P _ (λf v _ h=> ?_) h
  unfold lD
  cases e1:f o m with
  | none=>exact h
  | some x=>
   cases e2:f m v with
   | none=>exact h
   | some y=>exact o7 h ((h _ _ _ e1).app (h _ _ _ e2))
 ·unfold zr
  refine gH _ L _ (λf x hx h=>o7 h (.one hx)) λu v y e=> ?_
  unfold tV at e
  split at e
  ·rename_i z;obtain⟨_,rfl⟩:=z;cases e;exact .nil u
  ·cases e
theorem tU {P:List ν}{L:bR ν}(hL:∀x∈L,x.1∈P/\x.2.1∈P):∀u v ms s,Pth L u ms v s->ms.Nodup->∃y,table P L u v=some y/\y<=s:=λu v ms s hp hn=>by
 obtain⟨M',h1,h2⟩:=Up.Kb hL P [] (zr P L) B6;exact h2 u v ms s hp hn λx hx=>h1 x (.inl ((hp.ends hL).2.2 x hx))
theorem nP {P:List ν}{L:bR ν}{u:ν}(hu:u∈P):∃y,table P L u u=some y/\y<=0:=by
 have h0:tV P u u=some 0:=by unfold tV;rw[if_pos ⟨hu,rfl⟩]
 have h1:Le (table P L) (tV P):=(Bg P P _).trans (jR _ (λf x=>sY f _ _ _) L _)
 exact h1 u u 0 h0
structure ge (L:bR ν)(P:List ν)(f:cY ν):Prop where
 is:∀u v d,f u v=some d->Wk L u v d
 le:∀u∈P,∀v t,Wk L u v t->∃d,f u v=some d/\d<=t
theorem qz {P:List ν}{L:bR ν}{u:ν}{y:Int}(h:table P L u u=some y)(hy:y<0):¬ cC L:=λn=>by
 have:=n u y (mx P L u u y h);omega
theorem my {P:List ν}{L:bR ν}(hL:∀x∈L,x.1∈P/\x.2.1∈P)(h:∀u∈P,∀y,table P L u u=some y->0<=y):cC L/\ge L P (table P L):=by
 have nc:¬ BP L:=λ⟨x,ms,s,hp,hn,_,hs⟩=>by
  obtain⟨y,e,l⟩:=tU hL x x ms s hp hn
  have:=h x (hp.ends hL).1 y e;omega
 have le:∀u∈P,∀v t,Wk L u v t->∃d,table P L u v=some d/\d<=t:=λu hu v t w=>by
  rcases w.simple with z | ⟨s',hs,z⟩
  ·exact absurd z nc
  ·rcases z with⟨rfl,rfl⟩ | ⟨_,ms,hp,hn,_⟩
   ·obtain⟨y,e,l⟩:=nP (L:=L) hu
    exact⟨y,e,by omega⟩
   ·obtain⟨y,e,l⟩:=tU hL u v ms s' hp hn
    exact⟨y,e,by omega⟩
 refine⟨λa s w=> ?_,λu v d e=>mx P L u v d e,le⟩
 by_cases ha:a∈P
 ·obtain⟨d,e,l⟩:=le a ha a s w
  have:=h a ha d e;omega
 ·cases w with
  | nil=>exact MN _
  | step e _=>exact absurd (hL _ e).1 ha
end Gr
namespace G
open PySem Tr
def isI:T->Bool
 | .int _=>true
 | _=>false
theorem Dj (t:T)(h:t.pl=true):iF [t] = .ok (.bl (isI t)):=by
 cases t <;> first | rfl | (simp[T.pl]at h;done)
def bD (t:T)(a b:Int):Bool:=match t with
 | .int i=>decide (a<=i)&&decide (i<=b)
 | _=>false
theorem gJ (t:T)(a b:Int)(h:t.pl=true):bh [t,.int a,.int b] = .ok (.bl (bD t a b)):=by
 have w:=Dj t h
 cases t with
 | int i=>
  simp[bh,val,bN,jE,aR,aI,bW,vr,ch,cl,ac,ag,vt,bD,w,isI]
  cases decide (a<=i) <;> rfl
 | scr _=>simp[T.pl]at h
 | dct _ _=>simp[T.pl]at h
 | _=>simp[bh,val,bN,jE,aR,aI,bW,vr,ch,cl,ac,ag,bD,w,isI]
def eY (t:T)(a b:Nat):Bool:=match t with
 | .tup l=>decide (a<=l.length)&&decide (l.length<=b)
 | _=>false
theorem kM (t:T)(a b:Nat)(h:t.pl=true):aP [t,.int a,.int b] = .ok (.bl (eY t a b)):=by
 cases t with
 | tup l=>
  simp[aP,val,bN,rl,aR,aI,bW,o1,vr,De,T.ty,xI,ch,cl,ac,ag,cx,T.items,vt,eY]
  cases decide (a<=l.length) <;> rfl
 | scr _=>simp[T.pl]at h
 | dct _ _=>simp[T.pl]at h
 | _=>rfl
def pO (x y:T):Bool:=bD x 1 9&&(match x with
 | .int i=>bD y i 9
 | _=>false)
theorem Gx (x y:T)(hx:x.pl=true)(hy:y.pl=true):gp [x,y] = .ok (.bl (pO x y)):=by
 have w:=gJ x 1 9 hx;unfold pO
 cases q:bD x 1 9 with
 | false=>rw[q]at w;simp[gp,val,bN,mr,aR,aI,bW,vr,cn,cl,ac,ag,w]
 | true=>
  rw[q]at w
  cases x with
  | int i=>simp[gp,val,bN,mr,aR,aI,bW,vr,cn,cl,ac,ag,w,gJ y i 9 hy]
  | _=>cases q
def pC:List Int->Bool
 | a::b::r=>decide (a<b)&&pC (b::r)
 | _=>true
theorem Ha (a b:Int)(r:List Int):pC (a::b::r)=(decide (a<b)&&pC (b::r)):=rfl
theorem tG {fe:En->Rs T}{p:T->Bool}{l:List T}{fi:En->Rs (List T)}{src:List (Option Nat)}{Z:En}(hi:fi Z= .ok l)(hs:l.length<=sizeLine)(hn:0<src.length)(hf:∀t∈l,fe ((bL src Z).set 0 (.va t))= .ok (.bl (p t))) :
  cl qo (ac (eG fi src (gN 0) bT fe) ag) Z= .ok (.bl (l.all p)):=by
 have e:=wm (fe:=fe) (h:=λt=>T.bl (p t)) l (bL src Z) (by unfold bL;rw[Ks];exact hn) hf
 simp only[cl,ac,ag,eG,hi,aE,if_pos hs,e,all_map]
def l7 (l:List T):T->Bool
 | .int k=>match L2.atI l k,L2.atI l (k+1)with
  | some (.int a),some (.int b)=>decide (a<b)
  | _,_=>false
 | _=>false
theorem eU {t:T}{j:Int}(h:t∈rng 0 j):∃k:Nat,t= .int k/\(k:Int)<j:=by
 unfold rng at h;obtain⟨k,hk,e⟩:=KN.mp h;rw[LW]at hk;exact⟨k,by rw[<-e];simp,by omega⟩
theorem EW:(l:List Int)->l.length<=4->(rng 0 ((l.length:Int) - 1)).all (l7 (l.map .int))=pC l
 | [],_=>rfl
 | [a],_=>rfl
 | [a,b],_=>by simp[rng,PR,l7,L2.atI,L2.ixN,pC]
 | [a,b,c],_=>by simp[rng,PR,l7,L2.atI,L2.ixN,pC]
 | [a,b,c,d],_=>by simp[rng,PR,l7,L2.atI,L2.ixN,pC,Bool.and_assoc]
 | a::b::c::d::e::r,h=>absurd h (by simp only[Kx];omega)
theorem Dk (l:List Int)(h:l.length<=4):jO [.tup (l.map .int)] = .ok (.bl (pC l)):=by
 have hr:iR (ac (o2 eO (cl cx (ac (vr 0) ag)) (cn (.int 1))) ag) [.va (.tup (l.map .int))] = .ok (rng 0 ((l.length:Int) - 1)):=by
  have:wv ((l.length:Int) - 1)=true:=by unfold wv;rw[Ku];exact⟨decide_eq_true (by omega),decide_eq_true (by omega)⟩
  simp[iR,ac,ag,o2,cl,vr,cn,cx,T.items,eO,this]
 have hs:(rng 0 ((l.length:Int) - 1)).length<=sizeLine:=by
  unfold rng sizeLine;rw[Ks,L9];omega
 have e:=tG (fe:=o2 mI (o2 aW (vr 1) (vr 0)) (o2 aW (vr 1) (o2 aV (vr 0) (cn (.int 1))))) (p:=l7 (l.map .int)) (src:=[none,some 0]) hr hs (by decide) (λt ht=>by
  obtain⟨k,rfl,hk⟩:=eU ht
  have h1:(l.map T.int)[k]? =some (.int (l[k]'(by omega))):=by simp
  have h2:(l.map T.int)[k+1]? =some (.int (l[k+1]'(by omega))):=by rw[KP,KD (by omega)];rfl
  have g1:=jC h1
  have g2:L2.atI (l.map T.int) ((k:Int)+1)=some (.int (l[k+1]'(by omega))):=jC h2
  simp[o2,vr,bL,cn,aV,aW,T.items,g1,g2,vt,l7])
 rw[EW l h]at e;simp only[jO,val,Mm,if_true,xV,bN,aI,aR]
 show(do let f <-(do let t <-cl qo _ [.va (.tup (l.map .int))];Rs.ok (Fl.rt t));_)=_
 rw[e]
 rfl
def nums:List T->Option (List Int)
 | [] =>some []
 | .int i::l=>match nums l with
  | some m=>some (i::m)
  | none=>none
 | _::_=>none
def dB (t:T):Bool:=eY t 1 4&&(match t with
 | .tup l=>l.all (λu=>bD u 0 99)&&(match nums l with | some m=>pC m | none=>false)
 | _=>false)
theorem oE:∀{l:List T} {m:List Int},nums l=some m->l=m.map .int
 | [],m,h=>by cases h;rfl
 | t::l,m,h=>by
  cases t with
  | int i=>
   unfold nums at h
   cases q:nums l with
   | none=>rw[q]at h;cases h
   | some m'=>rw[q]at h;cases h;rw[Kp,<-oE q]
  | _=>cases h
theorem sv:∀{l:List T} {a b:Int},(l.all λu=>bD u a b)=true->∃m,nums l=some m
 | [],_,_,_=>⟨[],rfl⟩
 | t::l,a,b,h=>by
  rw[QD,Ku]at h
  cases t with
  | int i=>
   obtain⟨m,e⟩:=sv h.2
   exact⟨i::m,by unfold nums;rw[e]⟩
  | _=>exact absurd h.1 (by simp[bD])
theorem dO {t:T}{a b:Nat}(h:eY t a b=true):∃l,t= .tup l/\a<=l.length/\l.length<=b:=by
 cases t with
 | tup l=>unfold eY at h;rw[Ku]at h;exact⟨l,rfl,of_decide_eq_true h.1,of_decide_eq_true h.2⟩
 | _=>cases h
theorem small {n k:Nat}(h:n<=k)(hk:k<=1000:=by decide):n<=sizeLine:=by unfold sizeLine;omega
theorem ww (t:T)(h:t.pl=true):b9 [t] = .ok (.bl (dB t)):=by
 have w:aP [t,.int 1,.int 4] = .ok (.bl (eY t 1 4)):=kM t 1 4 h;unfold dB
 cases q:eY t 1 4 with
 | false=>rw[q]at w;simp[b9,val,bN,fo,aR,aw,d9,dX,tb,sN,aI,cl,vr,cn,ac,ag,w]
 | true=>
  rw[q]at w;obtain⟨l,rfl,h1,h2⟩:=dO q
  have hp:∀u∈l,u.pl=true:=λu hu=>ld (by unfold T.pl at h;exact h) hu
  have e:=tG (fe:=cl bh (ac (vr 0) (ac (cn (.int 0)) (ac (cn (.int 99)) ag)))) (p:=λu=>bD u 0 99) (src:=[none]) (fi:=iS (vr 0)) (Z:=[.va (.tup l)]) rfl (small h2) (by decide) (λu hu=>by
   simp[cl,ac,ag,vr,cn,bL,gJ u 0 99 (hp u hu)])
  have w':cl aP (ac (vr 0) (ac (cn (.int 1)) (ac (cn (.int 4)) ag))) [.va (.tup l)] = .ok (.bl true):=w
  show b9 _= .ok (.bl (true&&(l.all (λu=>bD u 0 99)&&(match nums l with | some m=>pC m | none=>false))))
  cases qa:l.all λu=>bD u 0 99 with
  | false=>
   rw[qa]at e
   simp[b9,val,bN,fo,aR,aw,d9,dX,tb,sN,aI,bW,e,w']
  | true=>
   rw[qa]at e;obtain⟨m,em⟩:=sv qa
   have el:=oE em
   have er:=Dk m (by rw[el,Ks]at h2;exact h2)
   rw[<-el]at er
   have er':cl jO (ac (vr 0) ag) [.va (.tup l)] = .ok (.bl (pC m)):=er;simp[b9,val,bN,fo,aR,aw,d9,dX,tb,sN,aI,bW,e,w',er',em]
def at_ (t:T)(k:Nat):T:=match t.items with
 | some l=>l.getD k .non
 | none=> .non
def bO (t:T):Bool:=eY t 3 3&&(match t with
 | .tup [x,y,r] =>pO x y&&dB r
 | _=>false)
theorem Dn (t:T)(h:t.pl=true):dI [t] = .ok (.bl (bO t)):=by
 have w:aP [t,.int 3,.int 3] = .ok (.bl (eY t 3 3)):=kM t 3 3 h;unfold bO
 cases q:eY t 3 3 with
 | false=>rw[q]at w;simp[dI,val,bN,iO,aR,aI,bW,cl,vr,cn,ac,ag,w]
 | true=>
  rw[q]at w;obtain⟨l,rfl,h1,h2⟩:=dO q
  match l,h1,h2 with
  | [x,y,r],_,_=>
   simp[T.pl,plS]at h;obtain⟨px,py,pr⟩:=h
   have g0:aW (.tup [x,y,r]) (.int 0)= .ok x:=rfl
   have g1:aW (.tup [x,y,r]) (.int 1)= .ok y:=rfl
   have g2:aW (.tup [x,y,r]) (.int 2)= .ok r:=rfl
   have ep:=Gx x y px py
   have er:=ww r pr
   cases qp:pO x y with
   | false=>rw[qp]at ep;simp[dI,val,bN,iO,aR,aI,bW,cl,vr,cn,ac,ag,o2,w,g0,g1,ep,qp]
   | true=>rw[qp]at ep;simp[dI,val,bN,iO,aR,aI,bW,cl,vr,cn,ac,ag,o2,w,g0,g1,g2,ep,er,qp]
def bc (t:T):Bool:=eY t 1 4&&(match t with
 | .tup l=>l.all bO
 | _=>false)
theorem Bs (t:T)(h:t.pl=true):dS [t] = .ok (.bl (bc t)):=by
 have w:aP [t,.int 1,.int 4] = .ok (.bl (eY t 1 4)):=kM t 1 4 h;unfold bc
 cases q:eY t 1 4 with
 | false=>rw[q]at w;simp[dS,val,bN,iP,aR,aI,bW,cl,vr,cn,ac,ag,w]
 | true=>
  rw[q]at w;obtain⟨l,rfl,h1,h2⟩:=dO q
  have hp:∀u∈l,u.pl=true:=λu hu=>ld (by unfold T.pl at h;exact h) hu
  have e:=tG (fe:=cl dI (ac (vr 0) ag)) (p:=bO) (src:=[none]) (fi:=iS (vr 0)) (Z:=[.va (.tup l)]) rfl (small h2) (by decide) (λu hu=>by
   simp[cl,ac,ag,vr,cn,bL,Dn u (hp u hu)])
  have w':cl aP (ac (vr 0) (ac (cn (.int 1)) (ac (cn (.int 4)) ag))) [.va (.tup l)] = .ok (.bl true):=w;simp[dS,val,bN,iP,aR,aI,bW,e,w']
def fK (x y:T):Bool:=bD x 0 999&&(match x,y with
 | _,.non=>true
 | .int i,_=>bD y i 999
 | _,_=>false)
theorem Dm (x y:T)(hx:x.pl=true)(hy:y.pl=true):ez [x,y] = .ok (.bl (fK x y)):=by
 have w:=gJ x 0 999 hx;unfold fK
 cases q:bD x 0 999 with
 | false=>rw[q]at w;simp[ez,val,bN,iN,aR,aI,bW,vr,cn,cl,ac,ag,w]
 | true=>
  rw[q]at w
  cases x with
  | int i=>
   have e:=gJ y i 999 hy
   cases y with
   | non=>simp[ez,val,bN,iN,aR,aI,bW,qI,vr,cn,cl,ac,ag,o2,fE,T.isN,w]
   | _=>simp[ez,val,bN,iN,aR,aI,bW,qI,vr,cn,cl,ac,ag,o2,fE,T.isN,w,e]
  | _=>cases q
def reads (cs:List T)(c:Int):Nat:=if 0<=c then(match cs[c.toNat]? with
 | some (.tup [_,_,.tup r])=>r.length
 | _=>0)else 0
def aQ (cs:List T)(t:T):Bool:=match t with
 | .tup [.int c,.int k] =>decide (0<=c)&&decide (c<cs.length)&&(decide (0<=k)&&decide (k<reads cs c))
 | _=>false
theorem mO {t:T}(h:bO t=true):∃x y r,t= .tup [x,y,.tup r]:=by
 unfold bO at h;rw[Ku]at h;obtain⟨h1,h2⟩:=h;obtain⟨l,rfl,h3,h4⟩:=dO h1
 match l,h3,h4,h2 with
 | [x,y,r],_,_,h2=>
  simp only[Ku]at h2;obtain⟨_,h5⟩:=h2;unfold dB at h5;rw[Ku]at h5;obtain⟨m,rfl,_⟩:=dO h5.1;exact⟨x,y,m,rfl⟩
theorem eh {t:T}{a b:Int}(h:bD t a b=true):∃i,t= .int i/\a<=i/\i<=b:=by
 cases t with
 | int i=>unfold bD at h;rw[Ku]at h;exact⟨i,rfl,of_decide_eq_true h.1,of_decide_eq_true h.2⟩
 | _=>cases h
theorem nF (cs:List T)(t:T)(hc:bc (.tup cs)=true)(h:t.pl=true):cN [.tup cs,t] = .ok (.bl (aQ cs t)):=by
 have w:aP [t,.int 2,.int 2] = .ok (.bl (eY t 2 2)):=kM t 2 2 h
 cases q:eY t 2 2 with
 | false=>
  rw[q]at w
  have:aQ cs t=false:=by
   unfold aQ;split
   ·cases q
   ·rfl
  simp[cN,val,bN,iM,aR,aw,d9,lR,dX,tb,sN,aI,cl,vr,cn,ac,ag,w,this]
 | true=>
  rw[q]at w;obtain⟨l,rfl,h1,h2⟩:=dO q
  match l,h1,h2 with
  | [x,y],_,_=>
   simp[T.pl,plS]at h;obtain⟨px,py⟩:=h
   have g0:aW (.tup [x,y]) (.int 0)= .ok x:=rfl
   have g1:aW (.tup [x,y]) (.int 1)= .ok y:=rfl
   have gl:cx [.tup cs] = .ok (.int cs.length):=rfl
   have e1:=gJ x 0 ((cs.length:Int) - 1) px
   cases q1:bD x 0 ((cs.length:Int) - 1)with
   | false=>
    rw[q1]at e1
    have:aQ cs (.tup [x,y])=false:=by
     cases x with
     | int c=>
      cases y with
      | int k=>
       simp only[bD,PU,decide_eq_false_iff_not]at q1;simp only[aQ,PU,decide_eq_false_iff_not]
       omega
      | _=>rfl
     | _=>rfl
    simp[cN,val,bN,iM,aR,aw,d9,lR,dX,tb,sN,aI,cl,vr,cn,ac,ag,o2,eO,w,g0,gl,e1,this]
   | true=>
    rw[q1]at e1;obtain⟨c,rfl,c1,c2⟩:=eh q1;obtain⟨n,rfl⟩:=Lm c1
    have hn:n<cs.length:=by omega
    have hcl:bO cs[n] =true:=by
     unfold bc at hc;rw[Ku]at hc;exact KY.mp hc.2 _ (L4 hn)
    obtain⟨a,b,r,er⟩:=mO hcl
    have g2:aW (.tup cs) (.int (n:Int))= .ok (.tup [a,b,.tup r]):=by
     simp only[aW,T.items];rw[jC (KD hn),er]
    have g3:aW (.tup [a,b,.tup r]) (.int 2)= .ok (.tup r):=rfl
    have gr:cx [.tup r] = .ok (.int r.length):=rfl
    have e2:=gJ y 0 ((r.length:Int) - 1) py
    have:aQ cs (.tup [.int n,y])=bD y 0 ((r.length:Int) - 1):=by
     have er2:reads cs (n:Int)=r.length:=by
      unfold reads;rw[if_pos c1,LH,KD hn,er]
     cases y with
     | int k=>
      simp only[aQ,bD,er2];rw[decide_eq_true c1,decide_eq_true (show(n:Int)<cs.length by omega)]
      simp only[Ot]
      congr 1
      exact decide_eq_decide.mpr (by omega)
     | _=>rfl
    simp[cN,val,bN,iM,aR,aw,d9,lR,dX,tb,sN,aI,cl,vr,cn,ac,ag,o2,eO,w,g0,g1,g2,g3,gl,gr,e1,e2,this]
def bQ (cs:List T)(t:T):Bool:=match t with
 | .tup [a,b,x,y] =>fK x y&&(aQ cs a&&(aQ cs b&& !bf a b))
 | _=>false
theorem fT {cs:List T}{t:T}(h:aQ cs t=true):∃c k:Int,t= .tup [.int c,.int k]:=by
 unfold aQ at h
 split at h
 ·exact⟨_,_,rfl⟩
 ·cases h
theorem Bq (cs:List T)(t:T)(hc:bc (.tup cs)=true)(h:t.pl=true):ck [.tup cs,t] = .ok (.bl (bQ cs t)):=by
 have w:aP [t,.int 4,.int 4] = .ok (.bl (eY t 4 4)):=kM t 4 4 h
 cases q:eY t 4 4 with
 | false=>
  rw[q]at w
  have:bQ cs t=false:=by
   unfold bQ;split
   ·cases q
   ·rfl
  simp[ck,val,bN,eJ,aR,aw,d9,lR,dX,tb,sN,aI,cl,vr,cn,ac,ag,w,this]
 | true=>
  rw[q]at w;obtain⟨l,rfl,h1,h2⟩:=dO q
  match l,h1,h2 with
  | [a,b,x,y],_,_=>
   simp[T.pl,plS]at h;obtain⟨pa,pb,px,py⟩:=h
   have g0:aW (.tup [a,b,x,y]) (.int 0)= .ok a:=rfl
   have g1:aW (.tup [a,b,x,y]) (.int 1)= .ok b:=rfl
   have g2:aW (.tup [a,b,x,y]) (.int 2)= .ok x:=rfl
   have g3:aW (.tup [a,b,x,y]) (.int 3)= .ok y:=rfl
   have e1:=Dm x y px py
   have e2:=nF cs a hc pa
   have e3:=nF cs b hc pb
   show _=Rs.ok (T.bl (fK x y&&(aQ cs a&&(aQ cs b&& !bf a b))))
   cases q1:fK x y with
   | false=>
    rw[q1]at e1
    simp[ck,val,bN,eJ,aR,aw,d9,lR,dX,tb,sN,aI,cl,vr,cn,ac,ag,o2,w,g2,g3,e1]
   | true=>
    rw[q1]at e1
    cases q2:aQ cs a with
    | false=>
     rw[q2]at e2
     simp[ck,val,bN,eJ,aR,aw,d9,lR,dX,tb,sN,aI,bW,cl,vr,cn,ac,ag,o2,w,g0,g2,g3,e1,e2]
    | true=>
     rw[q2]at e2
     cases q3:aQ cs b with
     | false=>
      rw[q3]at e3
      simp[ck,val,bN,eJ,aR,aw,d9,lR,dX,tb,sN,aI,bW,cl,vr,cn,ac,ag,o2,w,g0,g1,g2,g3,e1,e2,e3]
     | true=>
      rw[q3]at e3;obtain⟨c,k,rfl⟩:=fT q2
      have f:gI (.tup [.int c,.int k]) b=true:=jy (by simp[T.dep,deps]) rfl (T.Jw _ pb)
      have g4:mY (.tup [.int c,.int k]) b= .ok (.bl (!bf (.tup [.int c,.int k]) b)):=by unfold mY;rw[if_pos f]
      simp[ck,val,bN,eJ,aR,aw,d9,lR,dX,tb,sN,aI,bW,cl,vr,cn,ac,ag,o2,w,g0,g1,g2,g3,g4,e1,e2,e3]
def jP (cs:List T)(t:T):Bool:=eY t 0 8&&(match t with
 | .tup l=>l.all (bQ cs)
 | _=>false)
theorem yL (cs:List T)(t:T)(hc:bc (.tup cs)=true)(h:t.pl=true):du [.tup cs,t] = .ok (.bl (jP cs t)):=by
 have w:aP [t,.int 0,.int 8] = .ok (.bl (eY t 0 8)):=kM t 0 8 h;unfold jP
 cases q:eY t 0 8 with
 | false=>rw[q]at w;simp[du,val,bN,hY,aR,aI,bW,cl,vr,cn,ac,ag,w]
 | true=>
  rw[q]at w;obtain⟨l,rfl,h1,h2⟩:=dO q
  have hp:∀u∈l,u.pl=true:=λu hu=>ld (by unfold T.pl at h;exact h) hu
  have e:=tG (fe:=cl ck (ac (vr 1) (ac (vr 0) ag))) (p:=bQ cs) (src:=[none,some 0]) (fi:=iS (vr 1)) (Z:=[.va (.tup cs),.va (.tup l)]) rfl (small h2) (by decide) (λu hu=>by
   simp[cl,ac,ag,vr,cn,bL,Bq cs u hc (hp u hu)])
  have w':cl aP (ac (vr 1) (ac (cn (.int 0)) (ac (cn (.int 8)) ag))) [.va (.tup cs),.va (.tup l)] = .ok (.bl true):=w;simp[du,val,bN,hY,aR,aI,bW,e,w']
def iq (t:T):Bool:=match t with
 | .tup [.tup cs,ls] =>bc (.tup cs)&&jP cs ls
 | _=>false
theorem vi (t:T)(h:t.pl=true):dH [t] = .ok (.bl (iq t)):=by
 have w:aP [t,.int 2,.int 2] = .ok (.bl (eY t 2 2)):=kM t 2 2 h
 cases q:eY t 2 2 with
 | false=>
  rw[q]at w
  have:iq t=false:=by
   unfold iq;split
   ·cases q
   ·rfl
  simp[dH,val,bN,gY,aR,aI,bW,cl,vr,cn,ac,ag,w,this]
 | true=>
  rw[q]at w;obtain⟨l,rfl,h1,h2⟩:=dO q
  match l,h1,h2 with
  | [x,y],_,_=>
   simp[T.pl,plS]at h;obtain⟨px,py⟩:=h
   have g0:aW (.tup [x,y]) (.int 0)= .ok x:=rfl
   have g1:aW (.tup [x,y]) (.int 1)= .ok y:=rfl
   have e1:=Bs x px
   cases q1:bc x with
   | false=>
    rw[q1]at e1
    have:iq (.tup [x,y])=false:=by
     cases x with
     | tup cs=>show(bc (.tup cs)&&_)=false;rw[q1];rfl
     | _=>rfl
    simp[dH,val,bN,gY,aR,aI,bW,cl,vr,cn,ac,ag,o2,w,g0,e1,this]
   | true=>
    rw[q1]at e1
    cases x with
    | tup cs=>
     have e2:=yL cs y q1 py
     have:iq (.tup [.tup cs,y])=jP cs y:=by show(bc (.tup cs)&&_)=_;rw[q1];rfl
     simp[dH,val,bN,gY,aR,aI,bW,cl,vr,cn,ac,ag,o2,w,g0,g1,e1,e2,this]
    | _=>cases q1
theorem gq:∀m:List Int,deps (m.map .int)=0
 | [] =>rfl
 | a::m=>by rw[Kp,deps,gq m];rfl
def lG (i n:Nat):List T:=(rng 0 n).map λt=>T.tup [.int i,t]
def EZ:T->Nat
 | .tup [_,_,.tup r] =>r.length
 | _=>0
def fy:Nat->List T->List T
 | _,[] => []
 | i,c::r=>lG i (EZ c)++fy (i+1) r
theorem eI {t:T}(h:bO t=true):∃x y r,t= .tup [x,y,.tup r]/\1<=r.length/\r.length<=4:=by
 obtain⟨x,y,r,rfl⟩:=mO h
 have:dB (.tup r)=true:=by
  have h':(pO x y&&dB (.tup r))=true:=h;rw[Ku]at h';exact h'.2
 unfold dB at this;rw[Ku]at this;obtain⟨l,e,h1,h2⟩:=dO this.1;cases e;exact⟨x,y,r,rfl,h1,h2⟩
theorem ir (i n:Nat):(lG i n).length=n:=by unfold lG;rw[Ks,gQ]
abbrev evF:En->Rs Fl:=cq (o2 aV (vr 1) (eG (iR (ac (cl cx (ac (o2 aW (vr 3) (cn (.int 2))) ag)) ag)) [none,some 2] (gN 0) bT (aL (ac (vr 1) (ac (vr 0) ag))))) (gN 1)
abbrev evG:T->En->Rs En:=gT 2 (dY (gN 2) (dY (gN 3) kQ))
theorem yI {f:En->Rs (List T)}{Z:En}{j:Int}(h:f Z= .ok [.int j])(h0:0<=j)(h1:j<=100000):iR f Z= .ok (rng 0 j):=by
 have e:wv j=true:=by unfold wv;rw[Ku];exact⟨decide_eq_true (by omega),decide_eq_true (by omega)⟩
 unfold iR;rw[h]
 show(if wv j=true then _ else _)=_
 rw[e];rfl
theorem iK (l m:List T)(h:(l++m).length<=1000):aV (.lst l) (.lst m)= .ok (.lst (l++m)):=by
 show kx (l++m)=_
 unfold kx;rw[if_pos (aq h)]
theorem DD (l m:List T)(h:(l++m).length<=1000):aV (.tup l) (.tup m)= .ok (.tup (l++m)):=by
 show kw (l++m)=_
 unfold kw;rw[if_pos (aq h)]
theorem IA (c0 acc x y:T)(r:List T)(i:Nat)(h:r.length<=4) :
  eG (iR (ac (cl cx (ac (o2 aW (vr 3) (cn (.int 2))) ag)) ag)) [none,some 2] (gN 0) bT (aL (ac (vr 1) (ac (vr 0) ag))) [.va c0,.va acc,.va (.int i),.va (.tup [x,y,.tup r])] = .ok (.lst (lG i r.length)):=
 md (yI (j:=(r.length:Int)) rfl (by omega) (by omega)) (aq (k:=4) (by rw[gQ];exact h)) (by simp) λt _=>mk2 _ _
theorem Dh (c0 x y:T)(acc r:List T)(i:Nat)(h:r.length<=4)(ha:acc.length<=100):evF [.va c0,.va (.lst acc),.va (.int i),.va (.tup [x,y,.tup r])] = .ok (.nx [.va c0,.va (.lst (acc++lG i r.length)),.va (.int i),.va (.tup [x,y,.tup r])]):=
 bM (az (t:=.lst acc) rfl (IA c0 (.lst acc) x y r i h) (iK _ _ (by rw[Kw,ir];omega))) rfl
theorem xM:∀(cs:List T) (c0:T) (acc:List T) (i:Nat) (s2 s3:Sl),(∀c∈cs,bO c=true)->acc.length+4*cs.length<=100 →
  ∃y2 y3,a9 evG evF (ca i cs) [.va c0,.va (.lst acc),s2,s3] = .ok (.nx [.va c0,.va (.lst (acc++fy i cs)),y2,y3])
 | [],c0,acc,i,s2,s3,_,_=>⟨s2,s3,by simp[ca,a9,fy]⟩
 | c::cs,c0,acc,i,s2,s3,hc,hl=>by
  obtain⟨x,y,r,rfl,r1,r2⟩:=eI (hc c Kr);rw[Kx]at hl;obtain⟨z2,z3,ih⟩:=xM cs c0 (acc++lG i r.length) (i+1) (.va (.int i)) (.va (.tup [x,y,.tup r])) (λc h=>hc c (Ko _ h)) (by rw[Kw,ir];omega)
  refine⟨z2,z3,?_⟩
  rw[ca,cz (Z1:=[.va c0,.va (.lst acc),.va (.int i),.va (.tup [x,y,.tup r])]) rfl (Dh c0 x y acc r i r2 (by omega)),ih,fy,KR]
  rfl
theorem cA {cs:List T}(hc:bc (.tup cs)=true):(∀c∈cs,bO c=true)/\1<=cs.length/\cs.length<=4:=by
 unfold bc at hc;rw[Ku]at hc;obtain⟨l,e,h1,h2⟩:=dO hc.1;cases e;exact⟨λc h=>KY.mp hc.2 c h,h1,h2⟩
theorem vj (cs:List T)(hc:bc (.tup cs)=true):cO [.tup cs] = .ok (.lst (fy 0 cs)):=by
 obtain⟨ha,h1,h2⟩:=cA hc;obtain⟨y2,y3,e⟩:=xM cs (.tup cs) [] 0 .em .em ha (by simp;omega)
 rw[LD]at e;refine bz rfl ?_
 unfold kC;rw[ar (Z':=[.va (.tup cs),.va (.lst []),.em,.em]) rfl,ar ((dm (ts:=ca 0 cs) rfl e))]
 rfl
theorem C1 {n k:Nat}(h:k<n):T.int (k:Int)∈rng 0 (n:Int):=by
 unfold rng;exact KN.mpr ⟨k,LW.mpr (by omega),by simp⟩
theorem qG (cs:List T)(c:Nat):reads cs (c:Int)=EZ (cs.getD c .non):=by
 unfold reads;rw[if_pos (by omega),LH,List.getD_eq_getElem?_getD]
 cases cs[c]? with
 | none=>rfl
 | some t=>
  cases t with
  | tup l=>
   match l with
   | [] =>rfl
   | [_] =>rfl
   | [_,_] =>rfl
   | [_,_,z] =>cases z <;> rfl
   | _::_::z::_::_=>cases z <;> rfl
  | _=>rfl
theorem uX {g:T->En->Rs En}{F:En->Rs Fl}{p:T->Bool}(J:En->Prop):∀(ts:List T),(∀t∈ts,∀Z,J Z->∃Z1,g t Z= .ok Z1/\(p t=true->∃Z2,F Z1= .ok (.nx Z2)/\J Z2)/\(p t=false->F Z1= .ok (.rt (.bl false)))) →
  ∀Z,J Z->(ts.all p=true->∃Z',a9 g F ts Z= .ok (.nx Z')/\J Z')/\(ts.all p=false->a9 g F ts Z= .ok (.rt (.bl false)))
 | [],_,Z,hj=>⟨λ_=>⟨Z,rfl,hj⟩,λh=>(by cases h)⟩
 | t::ts,hs,Z,hj=>by
  obtain⟨Z1,h1,h2,h3⟩:=hs t Kr Z hj;rw[QD]
  cases q:p t with
  | false=>exact⟨λh=>(by cases h),λ_=>xC h1 (h3 q)⟩
  | true=>
   obtain⟨Z2,e2,j2⟩:=h2 q;rw[cz h1 e2,Ot];exact uX J ts (λt ht=>hs t (Ko _ ht)) Z2 j2
mutual
def sm (n:Nat):T->Bool
 | .dct _ _=>false
 | .scr _=>false
 | .tup l=>decide (l.length<=n)&&sms n l
 | .lst l=>decide (l.length<=n)&&sms n l
 | _=>true
def sms (n:Nat):List T->Bool
 | [] =>true
 | t::l=>sm n t&&sms n l
end
mutual
theorem D1 {n:Nat}:∀(t:T),sm n t=true->t.pl=true
 | .scr _,h=>by simp[sm]at h
 | .dct _ _,h=>by simp[sm]at h
 | .tup l,h=>by rw[sm,Ku]at h;rw[T.pl];exact sms_pl l h.2
 | .lst l,h=>by rw[sm,Ku]at h;rw[T.pl];exact sms_pl l h.2
 | .non,_=>by simp[T.pl]
 | .bl _,_=>by simp[T.pl]
 | .int _,_=>by simp[T.pl]
 | .str _,_=>by simp[T.pl]
theorem sms_pl {n:Nat}:∀(l:List T),sms n l=true->plS l=true
 | [],_=>by simp[plS]
 | t::l,h=>by rw[sms,Ku]at h;rw[plS,D1 t h.1,sms_pl l h.2];rfl
end
theorem wO {n:Nat}:∀{l:List T},sms n l=true↔ ∀t∈l,sm n t=true
 | [] =>by simp[sms]
 | t::l=>by rw[sms,Ku,wO (l:=l)];simp
theorem sm_tup {n:Nat}{l:List T}:sm n (.tup l)=true↔l.length<=n/\∀t∈l,sm n t=true:=by rw[sm,Ku,wO,decide_eq_true_iff]
theorem kJ {i j:Int}(h:0<j):lq (.int i) (.int j)= .ok (.int (i % j)):=by show(if _ then _ else _)=_;rw[if_pos h]
theorem nC {i j:Int}(h:0<j)(h2:j<1073741824):lF (.int i) (.int j)= .ok (.int (i / j)):=by show(if _ then _ else _)=_;rw[if_pos ⟨h,h2⟩]
theorem ku {i j:Int}(h : -18446744073709551616<i)(h2:i<18446744073709551616):bP (.int i) (.int j)= .ok (.int (i*j)):=by
 show wg (.int i) (.int j)=_
 show(if _ then _ else _)=_
 rw[if_pos (.inl ⟨by omega,by omega⟩)]
theorem AB {i j:Int}(h : -18446744073709551616<j)(h2:j<18446744073709551616):bP (.int i) (.int j)= .ok (.int (i*j)):=by
 show wg (.int i) (.int j)=_
 show(if _ then _ else _)=_
 rw[if_pos (.inr ⟨by omega,by omega⟩)]
theorem Gz (ns:List Int)(k:Nat)(hn:ns.length<=63):∃c,fR [.scr ns,.int k] = .ok (.int c):=by
 have e0:o2 qi (vr 0) (dq ag) [.va (.scr ns),.va (.int k)] = .ok (.bl (kB ns [])):=by
  refine az (t:=.scr ns) (u:=.lst []) rfl (fS (ts:=[]) rfl (aq (k:=0) (KB _))) ?_
  unfold qi;rw[if_pos (jy (by simp[T.dep]) rfl rfl)]
  rfl
 cases ns with
 | nil=>
  refine⟨7*k,bz rfl ?_⟩
  unfold jH
  refine gG ((dU (bB e0)).trans (cm (az (t:=.int 7) (u:=.int k) rfl rfl (ku (by omega) (by omega)))))
 | cons a r=>
  have hl:(0:Int)<((a::r).length:Nat):=by simp only[Kx];omega
  have hl2:(((a::r).length:Nat):Int)<1073741824:=by simp only[Kx]at hn ⊢;omega
  have hi:k % (a::r).length<(a::r).length:=Nat.mod_lt _ (by simp)
  have g0:o2 lq (vr 1) (cl cx (ac (vr 0) ag)) [.va (.scr (a::r)),.va (.int k)] = .ok (.int ((k % (a::r).length:Nat):Int)):=by
   refine az (t:=.int k) (u:=.int ((a::r).length:Nat)) rfl ?_ (by rw[kJ hl];rfl)
   refine aJ (ts:=[.scr (a::r)]) rfl ?_
   show Rs.ok (T.int (((a::r).map T.int).length:Nat))=_
   rw[Ks]
  have g1:aW (.scr (a::r)) (.int ((k % (a::r).length:Nat):Int))= .ok (.int (a::r)[k % (a::r).length]):=by
   have e:((a::r).map T.int)[k % (a::r).length]? =some (.int (a::r)[k % (a::r).length]):=by rw[KP,KD hi];rfl
   show(match L2.atI ((a::r).map T.int) ((k % (a::r).length:Nat):Int)with | some t=>Rs.ok t | none=> .bad)=_
   rw[jC e]
  have g2:o2 lF (vr 1) (cl cx (ac (vr 0) ag)) [.va (.scr (a::r)),.va (.int k)] = .ok (.int ((k:Int) / ((a::r).length:Nat))):=by
   refine az (t:=.int k) (u:=.int ((a::r).length:Nat)) rfl ?_ (nC hl hl2)
   refine aJ (ts:=[.scr (a::r)]) rfl ?_
   show Rs.ok (T.int (((a::r).map T.int).length:Nat))=_
   rw[Ks]
  refine⟨(a::r)[k % (a::r).length] +6553*((k:Int) / ((a::r).length:Nat)),bz rfl ?_⟩
  unfold jH
  show aw _ _ [.va (.scr (a::r)),.va (.int k)] =_
  refine(ar (Z':=[.va (.scr (a::r)),.va (.int k)]) ((cR (bB e0)).trans rfl)).trans ?_
  exact cm (az (az (t:=.scr (a::r)) rfl g0 g1) (az (t:=.int 6553) rfl g2 (ku (by omega) (by omega))) rfl)
theorem db (ns:List Int)(k:Nat)(m:Int)(hn:ns.length<=63)(hm:0<m):∃r,ax [.scr ns,.int k,.int m] = .ok (.int r)/\0<=r/\r<m:=by
 obtain⟨c,hc⟩:=Gz ns k hn
 have b1:∀x:Int,0<=x % 2147483563/\x % 2147483563<2147483563:=λx=>⟨PV _ (by omega),OS _ (by omega)⟩
 have b2:∀x:Int,0<=x % 2147483399/\x % 2147483399<2147483399:=λx=>⟨PV _ (by omega),OS _ (by omega)⟩
 generalize hx:(c % 2147483563*69069+104723*((k:Int)+1)) % 2147483563=x
 have hx':=b1 (c % 2147483563*69069+104723*((k:Int)+1));rw[hx]at hx'
 generalize hy:(x*x+x / 3) % 2147483399=y
 have hy':=b2 (x*x+x / 3);rw[hy]at hy';refine⟨(y*y+y / 7) % 2147483647 / 11 % m,bz rfl ?_,PV _ (by omega),OS _ hm⟩
 show iU [.va (.scr ns),.va (.int k),.va (.int m),.em] =_
 unfold iU
 have s1:cq (o2 lq (o2 aV (o2 bP (o2 lq (cl fR (ac (vr 0) (ac (vr 1) ag))) (cn (.int 2147483563))) (cn (.int 69069))) (o2 bP (cn (.int 104723)) (o2 aV (vr 1) (cn (.int 1))))) (cn (.int 2147483563))) (gN 3) [.va (.scr ns),.va (.int k),.va (.int m),.em] = .ok (.nx [.va (.scr ns),.va (.int k),.va (.int m),.va (.int x)]):=by
  refine bM (t:=.int x) (az (u:=.int 2147483563) (az (az (u:=.int 69069) (az (u:=.int 2147483563) (aJ (ts:=[.scr ns,.int k]) rfl hc) rfl (kJ (by omega))) rfl (AB (by omega) (by omega))) (az (t:=.int 104723) (u:=.int ((k:Int)+1)) rfl rfl (ku (by omega) (by omega))) rfl) rfl ?_) rfl
  rw[kJ (by omega),hx]
 have s2:cq (o2 lq (o2 aV (o2 bP (vr 3) (vr 3)) (o2 lF (vr 3) (cn (.int 3)))) (cn (.int 2147483399))) (gN 3) [.va (.scr ns),.va (.int k),.va (.int m),.va (.int x)] = .ok (.nx [.va (.scr ns),.va (.int k),.va (.int m),.va (.int y)]):=by
  refine bM (t:=.int y) (az (u:=.int 2147483399) (az (az (t:=.int x) (u:=.int x) rfl rfl (ku (by omega) (by omega))) (az (t:=.int x) (u:=.int 3) rfl rfl (nC (by omega) (by omega))) rfl) rfl ?_) rfl
  rw[kJ (by omega),hy]
 rw[ar s1,ar s2];exact cm (az (u:=.int m) (az (u:=.int 11) (az (u:=.int 2147483647) (az (az (t:=.int y) (u:=.int y) rfl rfl (ku (by omega) (by omega))) (az (t:=.int y) (u:=.int 7) rfl rfl (nC (by omega) (by omega))) rfl) rfl (kJ (by omega))) rfl (nC (by omega) (by omega))) rfl (kJ hm))
theorem ee {ns:List Int}{k:Nat}{m r:Int}{f g h:En->Rs T}{Z:En}(e:ax [.scr ns,.int k,.int m] = .ok (.int r))(h1:f Z= .ok (.scr ns))(h2:g Z= .ok (.int k))(h3:h Z= .ok (.int m)) :
  cl ax (ac f (ac g (ac h ag))) Z= .ok (.int r):=aJ (al h1 (al h2 (al h3 rfl))) e
theorem ut:∀(l:List Int) (z y:Int),pC (l++ [z])=true->z<y->pC (l++ [z] ++ [y])=true
 | [],z,y,_,h=>by simp[pC,h]
 | [a],z,y,h,hy=>by
  simp[pC]at h ⊢
  omega
 | a::b::l,z,y,h,hy=>by
  have h':pC (a::b::(l++ [z]))=true:=h;rw[Ha,Ku]at h'
  have ih:=ut (b::l) z y h'.2 hy
  show pC (a::b::(l++ [z] ++ [y]))=true
  rw[Ha,h'.1];exact ih
theorem oF:∀l:List Int,nums (l.map .int)=some l
 | [] =>rfl
 | a::l=>by rw[Kp,nums,oF l]
def RdOk (l:List Int):Prop:=∃(l':List Int) (z:Int),l=l'++ [z]/\pC l=true/\(∀x∈l,0<=x/\x<=5*l.length)/\z<=5*l.length
abbrev clF:En->Rs Fl:=cq (o2 aV (vr 3) (aL (ac (o2 aV (o2 aV (o2 aW (vr 3) (o1 oP (cn (.int 1)))) (cn (.int 1))) (cl ax (ac (vr 0) (ac (o2 aV (o2 aV (vr 1) (cn (.int 3))) (vr 4)) (ac (cn (.int 5)) ag))))) ag))) (gN 3)
theorem Dc (l:List T)(z:T):aW (.tup (l++ [z])) (.int (-1))= .ok z:=by
 have e:L2.atI (l++ [z]) (-1)=some z:=by
  unfold L2.atI L2.ixN;simp;rw[if_pos (by omega)]
  have q:(-1+((l.length:Int)+1)).toNat=l.length:=by omega
  show(l++ [z])[(-1+((l.length:Int)+1)).toNat]? =some z
  rw[q];simp
 show(match L2.atI (l++ [z]) (-1)with | some t=>Rs.ok t | none=> .bad)=_
 rw[e]
theorem Du (ns:List Int)(hn:ns.length<=63)(a j:Nat)(s:T)(l:List Int)(h:RdOk l)(hl:l.length<=3):∃l2,clF [.va (.scr ns),.va (.int a),.va s,.va (.tup (l.map .int)),.va (.int j)] = .ok (.nx [.va (.scr ns),.va (.int a),.va s,.va (.tup (l2.map .int)),.va (.int j)])/\RdOk l2/\l2.length=l.length+1:=by
 obtain⟨l',z,rfl,h1,h2,h3⟩:=h;obtain⟨d,ed,d0,d1⟩:=db ns (a+3+j) 5 hn (by omega)
 refine⟨l'++ [z] ++ [z+1+d],?_,⟨l'++ [z],z+1+d,rfl,ut l' z _ h1 (by omega),?_,?_⟩,by simp⟩
 ·refine bM (t:=.tup ((l'++ [z] ++ [z+1+d]).map .int)) (az (t:=.tup ((l'++ [z]).map .int)) (u:=.tup [.int (z+1+d)]) rfl (cy (ts:=[.int (z+1+d)]) (al (az (t:=.int (z+1)) (u:=.int d) (az (t:=.int z) (u:=.int 1) (az (t:=.tup ((l'++ [z]).map .int)) (u:=.int (-1)) rfl rfl ?_) rfl rfl) (ee (k:=a+3+j) ed rfl ?_ rfl) rfl) rfl) (aq (k:=1) (by simp))) ?_) rfl
  ·rw[K5];exact Dc _ _
  ·refine az (t:=.int ((a:Int)+3)) (u:=.int j) (az (t:=.int a) (u:=.int 3) rfl rfl rfl) rfl ?_
   show Rs.ok (T.int ((a:Int)+3+j))=_
   congr 2
  ·rw[K5 (l₁:=l'++ [z])]
   exact DD _ _ (by rw[Kw,Ks];simp at hl ⊢;omega)
 ·intro x hx
  rcases K4.mp hx with hx | hx
  ·have:=h2 x hx
   simp only[Kw,Mm]at this ⊢;omega
  ·rw[KQ]at hx
   subst hx
   have hz:=h2 z (by simp)
   simp only[Kw,Mm]at h3 ⊢;omega
 ·simp only[Kw,Mm]at h3 ⊢
  omega
theorem xR (ns:List Int)(hn:ns.length<=63)(a:Nat)(s:T):∀(js:List Nat) (l:List Int) (s4:Sl),RdOk l->l.length+js.length<=4->∃l2 s5,a9 (gN 4) clF (js.map λ(j:Nat)=>T.int j) [.va (.scr ns),.va (.int a),.va s,.va (.tup (l.map .int)),s4] = .ok (.nx [.va (.scr ns),.va (.int a),.va s,.va (.tup (l2.map .int)),s5])/\RdOk l2/\l2.length=l.length+js.length
 | [],l,s4,h,_=>⟨l,s4,rfl,h,rfl⟩
 | j::js,l,s4,h,hl=>by
  rw[Kx]at hl;obtain⟨l2,e2,h2,n2⟩:=Du ns hn a j s l h (by omega)
  obtain⟨l3,s5,e3,h3,n3⟩:=xR ns hn a s js l2 (.va (.int j)) h2 (by omega)
  refine⟨l3,s5,?_,h3,by rw[n3,n2,Kx];omega⟩
  rw[Kp,cz (Z1:=[.va (.scr ns),.va (.int a),.va s,.va (.tup (l.map .int)),.va (.int j)]) rfl e2];exact e3
theorem rO (n:Nat):rng 0 (n:Int)=(Lu n).map λ(j:Nat)=>T.int j:=by
 unfold rng;simp
theorem RdOk.reads {l:List Int}(h:RdOk l)(hl:l.length<=4):dB (.tup (l.map .int))=true:=by
 obtain⟨l',z,rfl,h1,h2,h3⟩:=h;unfold dB;rw[Ku];refine⟨?_,?_⟩
 ·simp[eY];simp at hl;omega
 ·show(((l'++ [z]).map T.int).all (λu=>bD u 0 99)&&(match nums ((l'++ [z]).map T.int)with | some m=>pC m | none=>false))=true
  rw[oF]
  show(_&&pC (l'++ [z]))=true
  rw[h1,Bool.and_true,KY];intro t ht;obtain⟨x,hx,rfl⟩:=KN.mp ht
  have:=h2 x hx;simp only[bD,Ku,decide_eq_true_eq];omega
theorem Cb (n:Nat)(l:List Int)(h:l.length<=n):sm n (.tup (l.map .int))=true:=sm_tup.mpr ⟨by rw[Ks];exact h,λt ht=>by obtain⟨x,_,rfl⟩:=KN.mp ht;simp[sm]⟩
theorem Br (ns:List Int)(hn:ns.length<=63)(a:Nat):∃c,cL [.scr ns,.int a] = .ok c/\bO c=true/\sm 8 c=true:=by
 obtain⟨d1,e1,p1,q1⟩:=db ns a 3 hn (by omega)
 obtain⟨d2,e2,p2,q2⟩:=db ns (a+2) 6 hn (by omega)
 obtain⟨d3,e3,p3,q3⟩:=db ns (a+1) 3 hn (by omega)
 obtain⟨d4,e4,p4,q4⟩:=db ns (a+6) 3 hn (by omega)
 obtain⟨n3,rfl⟩:=Lm p3;obtain⟨l,s5,el,hl,nl⟩:=xR ns hn a (.int (1+d1)) (Lu n3) [d2] .em ⟨[],d2,rfl,rfl,λx hx=>by rw[KQ]at hx;subst hx;simp;omega,by simp;omega⟩ (by simp;omega)
 have nl':l.length<=4:=by rw[nl];simp;omega
 have hr:=hl.reads nl';refine⟨.tup [.int (1+d1),.int (1+d1+d4),.tup (l.map .int)],bz rfl ?_,?_,?_⟩
 ·show iV [.va (.scr ns),.va (.int a),.em,.em,.em] =_
  unfold iV;rw[ar (Z':=[.va (.scr ns),.va (.int a),.va (.int (1+d1)),.em,.em]) (bM (t:=.int (1+d1)) (az (t:=.int 1) rfl (ee e1 rfl rfl rfl) rfl) rfl)];rw[ar (Z':=[.va (.scr ns),.va (.int a),.va (.int (1+d1)),.va (.tup ([d2].map .int)),.em]) (bM (t:=.tup [.int d2]) (cy (ts:=[.int d2]) (al (ee (k:=a+2) e2 rfl rfl rfl) rfl) (aq (k:=1) (by simp))) rfl)]
  rw[ar ((dm (yI (al (ee (k:=a+1) e3 rfl rfl rfl) rfl) (by omega) (by omega)) (by rw[rO];exact el)))]
  exact cm (cy (al (t:=.int (1+d1)) rfl (al (az (t:=.int (1+d1)) rfl (ee (k:=a+6) e4 rfl rfl rfl) rfl) (al (t:=.tup (l.map .int)) rfl rfl))) (aq (k:=3) (by simp)))
 ·show(true&&(pO (.int (1+d1)) (.int (1+d1+d4))&&dB _))=true
  rw[hr];simp only[pO,bD,Ot,Bool.and_true,Ku,decide_eq_true_eq];omega
 ·refine sm_tup.mpr ⟨by simp,λt ht=> ?_⟩
  rcases Ky.mp ht with rfl | ht
  ·simp[sm]
  ·rcases Ky.mp ht with rfl | ht
   ·simp[sm]
   ·rw[KQ]at ht;subst ht;exact Cb 8 l (by omega)
theorem lr {y:T}:∀(cs:List T) (i:Nat),y∈fy i cs->∃c k:Nat,y= .tup [.int c,.int k]/\i<=c/\c<i+cs.length/\k<EZ (cs.getD (c - i) .non)
 | [],i,h=>by cases h
 | x::cs,i,h=>by
  rw[fy]at h;rcases K4.mp h with h | h
  ·unfold lG at h
   obtain⟨t,ht,rfl⟩:=KN.mp h;obtain⟨j,rfl,hj⟩:=eU ht;refine⟨i,j,rfl,KB _,by rw[Kx];omega,?_⟩
   rw[PQ]
   show j<EZ x
   omega
  ·obtain⟨c,k,e,h1,h2,h3⟩:=lr cs (i+1) h
   refine⟨c,k,e,by omega,by rw[Kx];omega,?_⟩
   have:c - i=(c - (i+1))+1:=by omega
   rw[this];exact h3
theorem Bk {cs:List T}{y:T}(h:y∈fy 0 cs):aQ cs y=true:=by
 obtain⟨c,k,rfl,_,h2,h3⟩:=lr cs 0 h
 show(decide ((0:Int)<=(c:Int))&&decide ((c:Int)<(cs.length:Int))&&(decide ((0:Int)<=(k:Int))&&decide ((k:Int)<(reads cs (c:Int):Int))))=true
 rw[OR]at h3;rw[qG];simp only[Ku,decide_eq_true_eq];omega
theorem lV:∀(cs:List T) (i:Nat),(fy i cs).Nodup
 | [],i=>ML
 | x::cs,i=>by
  rw[fy,LI];refine⟨?_,lV cs (i+1),?_⟩
  ·unfold lG rng
   rw[Ll];rw[OM,Nc];refine List.nodup_range.imp ?_
   intro a b hab e
   simp at e
   exact hab (by omega)
  ·intro a ha b hb e
   subst e;unfold lG at ha;obtain⟨t,ht,rfl⟩:=KN.mp ha;obtain⟨c,k,e,h1,_,_⟩:=lr cs (i+1) hb
   simp at e
   omega
theorem Aw {l:List T}(h:l.Nodup){i j:Nat}(hi:i<l.length)(hj:j<l.length)(hij:i≠j):l[i] ≠l[j]:=by
 rw[OM,OV]at h;rcases NB i j with q | q
 ·exact h i j hi hj q
 ·exact λe=>h j i hj hi (by omega) e.symm
theorem sZ:∀(cs:List T) (i:Nat),(∀c∈cs,bO c=true)->(fy i cs).length<=4*cs.length
 | [],i,_=>KB _
 | x::cs,i,h=>by
  obtain⟨a,b,r,rfl,_,h2⟩:=eI (h x Kr)
  have:=sZ cs (i+1) λc hc=>h c (Ko _ hc)
  rw[fy,Kw,ir,Kx]
  show r.length+_<=_
  omega
theorem Bj {cs:List T}{a b:T}(ha:aQ cs a=true)(hb:aQ cs b=true)(h:a≠b):bf a b=false:=by
 obtain⟨c,k,rfl⟩:=fT ha;obtain⟨c',k',rfl⟩:=fT hb;rw[Bool.eq_false_iff];intro e;simp[bf,beqTs]at e;exact h (by rw[e.1,e.2])
theorem ub {cs:List T}{a:T}(ha:aQ cs a=true):sm 8 a=true:=by
 obtain⟨c,k,rfl⟩:=fT ha;simp[sm,sms]
theorem wr {l:List T}{i:Nat}(h:i<l.length):aW (.lst l) (.int (i:Int))= .ok l[i]:=by
 show(match L2.atI l (i:Int)with | some t=>Rs.ok t | none=> .bad)=_
 rw[jC (KD h)]
theorem Gv (a b:Int):qi (.int a) (.int b)= .ok (.bl (a == b)):=by
 unfold qi;rw[if_pos (jy (by simp[T.dep]) rfl rfl)]
 rfl
theorem yN (ns:List Int)(hn:ns.length<=63)(a:Nat)(cs:List T)(hc:bc (.tup cs)=true):∃r,dv [.scr ns,.int a,.tup cs] = .ok r/\(r= .non\/(bQ cs r=true/\sm 8 r=true)):=by
 obtain⟨ha,h1,h4⟩:=cA hc
 have hlen:=sZ cs 0 ha
 have er:=vj cs hc
 have gl:∀s4 s5 s6 s7:Sl,cl cx (ac (vr 3) ag) [.va (.scr ns),.va (.int a),.va (.tup cs),.va (.lst (fy 0 cs)),s4,s5,s6,s7] = .ok (.int ((fy 0 cs).length:Nat)):=λ_ _ _ _=>rfl
 have s1:cq (cl cO (ac (vr 2) ag)) (gN 3) [.va (.scr ns),.va (.int a),.va (.tup cs),.em,.em,.em,.em,.em] = .ok (.nx [.va (.scr ns),.va (.int a),.va (.tup cs),.va (.lst (fy 0 cs)),.em,.em,.em,.em]):=bM (aJ (ts:=[.tup cs]) rfl er) rfl
 have lt:o2 mI (cl cx (ac (vr 3) ag)) (cn (.int 2)) [.va (.scr ns),.va (.int a),.va (.tup cs),.va (.lst (fy 0 cs)),.em,.em,.em,.em] = .ok (.bl (decide (((fy 0 cs).length:Int)<2))):=az (t:=.int ((fy 0 cs).length:Nat)) (u:=.int 2) (gl _ _ _ _) rfl rfl
 by_cases hs:(fy 0 cs).length<2
 ·refine⟨.non,bz rfl ?_,.inl rfl⟩
  show d7 [.va (.scr ns),.va (.int a),.va (.tup cs),.em,.em,.em,.em,.em] =_
  unfold d7;rw[ar s1];rw[decide_eq_true (by omega)]at lt
  exact gG ((dU (bB lt)).trans rfl)
 ·rw[decide_eq_false (by omega)]at lt
  generalize hN:(fy 0 cs).length=n at*
  obtain⟨d1,e1,p1,q1⟩:=db ns a (n:Int) hn (by omega)
  obtain⟨d2,e2,p2,q2⟩:=db ns (a+1) ((n:Int) - 1) hn (by omega)
  obtain⟨d3,e3,p3,q3⟩:=db ns (a+2) 8 hn (by omega)
  obtain⟨d4,e4,p4,q4⟩:=db ns (a+3) 3 hn (by omega)
  obtain⟨d5,e5,p5,q5⟩:=db ns (a+4) 9 hn (by omega)
  obtain⟨i,rfl⟩:=Lm p1;obtain⟨d2,rfl⟩:=Lm p2
  have hi:i<(fy 0 cs).length:=by omega
  have hj:(i+1+d2) % n<(fy 0 cs).length:=by rw[hN];exact Nat.mod_lt _ (by omega)
  have hij:i≠(i+1+d2) % n:=by
   rcases NB (i+1+d2) n with q | q
   ·rw[RS q];omega
   ·have:(i+1+d2) % n=i+1+d2 - n:=by
     rw[Nat.mod_eq_sub_mod q,RS (by omega)]
    rw[this];omega
  have eA:=Bk (L4 hi)
  have eB:=Bk (L4 hj)
  have eN:(fy 0 cs)[i] ≠(fy 0 cs)[(i+1+d2) % n]:=Aw (lV cs 0) hi hj hij
  generalize hA:(fy 0 cs)[i] =A at*
  generalize hB:(fy 0 cs)[(i+1+d2) % n] =B at*
  let y:T:=if d4 == 0 then .non else .int (d3+d5)
  refine⟨.tup [A,B,.int d3,y],bz rfl ?_,.inr ⟨?_,?_⟩⟩
  ·show d7 [.va (.scr ns),.va (.int a),.va (.tup cs),.em,.em,.em,.em,.em] =_
   unfold d7;rw[ar s1];rw[ar (Z':=[.va (.scr ns),.va (.int a),.va (.tup cs),.va (.lst (fy 0 cs)),.em,.em,.em,.em]) ((cR (bB lt)).trans rfl)];rw[ar (Z':=[.va (.scr ns),.va (.int a),.va (.tup cs),.va (.lst (fy 0 cs)),.va (.int (i:Nat)),.em,.em,.em]) (bM (ee e1 rfl rfl (gl _ _ _ _)) rfl)];rw[ar (Z':=[.va (.scr ns),.va (.int a),.va (.tup cs),.va (.lst (fy 0 cs)),.va (.int (i:Nat)),.va (.int ((i+1+d2) % n:Nat)),.em,.em]) (bM (t:=.int ((i+1+d2) % n:Nat)) (az (t:=.int ((i:Int)+1+d2)) (u:=.int n) (az (t:=.int ((i:Int)+1)) (u:=.int d2) rfl (ee (k:=a+1) e2 rfl rfl (az (t:=.int n) (u:=.int 1) (gl _ _ _ _) rfl rfl)) rfl) (gl _ _ _ _) (kJ (by omega))) rfl)]
   rw[ar (Z':=[.va (.scr ns),.va (.int a),.va (.tup cs),.va (.lst (fy 0 cs)),.va (.int (i:Nat)),.va (.int ((i+1+d2) % n:Nat)),.va (.int d3),.em]) (bM (ee (k:=a+2) e3 rfl rfl rfl) rfl)]
   have ey:sV (tb (o2 qi (cl ax (ac (vr 0) (ac (o2 aV (vr 1) (cn (.int 3))) (ac (cn (.int 3)) ag)))) (cn (.int 0)))) (cn .non) (o2 aV (vr 6) (cl ax (ac (vr 0) (ac (o2 aV (vr 1) (cn (.int 4))) (ac (cn (.int 9)) ag))))) [.va (.scr ns),.va (.int a),.va (.tup cs),.va (.lst (fy 0 cs)),.va (.int (i:Nat)),.va (.int ((i+1+d2) % n:Nat)),.va (.int d3),.em] = .ok y:=by
    rw[ja (bB (az (u:=.int 0) (ee (k:=a+3) e4 rfl rfl rfl) rfl (Gv _ _)))]
    show _=Rs.ok (if d4 == 0 then T.non else .int (d3+d5))
    cases d4 == 0 with
    | true=>rfl
    | false=>exact az (t:=.int d3) rfl (ee (k:=a+4) e5 rfl rfl rfl) rfl
   rw[ar (Z':=[.va (.scr ns),.va (.int a),.va (.tup cs),.va (.lst (fy 0 cs)),.va (.int (i:Nat)),.va (.int ((i+1+d2) % n:Nat)),.va (.int d3),.va y]) (bM ey rfl)];refine cm (cy (al (t:=A) (az (t:=.lst (fy 0 cs)) (u:=.int (i:Nat)) rfl rfl ?_) (al (t:=B) (az (t:=.lst (fy 0 cs)) (u:=.int ((i+1+d2) % n:Nat)) rfl rfl ?_) (al (t:=.int d3) rfl (al (t:=y) rfl rfl)))) (aq (k:=4) (by simp)))
   ·rw[<-hA];exact wr hi
   ·rw[<-hB];exact wr hj
  ·show(fK (.int d3) y&&(aQ cs A&&(aQ cs B&& !bf A B)))=true
   rw[eA,eB,Bj eA eB eN]
   have:fK (.int d3) y=true:=by
    show(bD (.int d3) 0 999&&(match(T.int d3),(if d4 == 0 then T.non else .int (d3+d5))with | _,.non=>true | .int i,_=>bD (if d4 == 0 then T.non else .int (d3+d5)) i 999 | _,_=>false))=true
    cases d4 == 0 with
    | true=>simp[bD];omega
    | false=>simp[bD];omega
   rw[this];rfl
  ·refine sm_tup.mpr ⟨by simp,λt ht=> ?_⟩
   have hy:sm 8 y=true:=by show sm 8 (if d4 == 0 then T.non else .int (d3+d5))=true;cases d4 == 0 <;> simp[sm]
   simp only[Ky,Lw,or_false]at ht;rcases ht with rfl | rfl | rfl | rfl
   ·exact ub eA
   ·exact ub eB
   ·simp[sm]
   ·exact hy
def okv:Rs T->T
 | .ok t=>t
 | _=> .non
theorem nv (l:List T)(k:Int)(h : -(2 ^ 63)<=k/\k<2 ^ 63/\l.length*k.toNat<=sizeLine):bP (.lst l) (.int k)= .ok (.lst (KJ k.toNat l).flatten):=by
 show wg (.lst l) (.int k)=_
 unfold wg;exact if_pos h
theorem mul_one (x:T)(b:Bool):bP (.lst [x]) (.int (if b then 1 else 0))= .ok (.lst (if b then [x]else [])):=by
 cases b with
 | true=>exact nv [x] 1 ⟨by decide,by decide,aq (k:=1) (by simp)⟩
 | false=>exact nv [x] 0 ⟨by decide,by decide,aq (k:=1) (by simp)⟩
abbrev leF:En->Rs Fl:=aw (cq (cl dv (ac (vr 0) (ac (o2 aV (o2 aV (vr 1) (cn (.int 31))) (o2 bP (cn (.int 6)) (vr 5))) (ac (vr 3) ag)))) (gN 6)) (cq (o2 aV (vr 4) (o2 bP (dq (ac (vr 6) ag)) (cl A3 (ac (o2 cQ (vr 6) (cn .non)) ag)))) (gN 4))
def za (cs ls:List T):Prop:=∀t∈ls,bQ cs t=true/\sm 8 t=true
theorem C4 (ns:List Int)(hn:ns.length<=63)(a j:Nat)(m:T)(cs ls:List T)(hc:bc (.tup cs)=true)(h:za cs ls)(hl:ls.length<=100)(s6:Sl) :
  ∃ls2 s7,leF [.va (.scr ns),.va (.int a),.va m,.va (.tup cs),.va (.lst ls),.va (.int j),s6] = .ok (.nx [.va (.scr ns),.va (.int a),.va m,.va (.tup cs),.va (.lst ls2),.va (.int j),s7])/\za cs ls2/\ls2.length<=ls.length+1:=by
 obtain⟨r,er,hr⟩:=yN ns hn (a+31+6*j) cs hc
 have e1:∀G,aw (cq (cl dv (ac (vr 0) (ac (o2 aV (o2 aV (vr 1) (cn (.int 31))) (o2 bP (cn (.int 6)) (vr 5))) (ac (vr 3) ag)))) (gN 6)) G [.va (.scr ns),.va (.int a),.va m,.va (.tup cs),.va (.lst ls),.va (.int j),s6] =G [.va (.scr ns),.va (.int a),.va m,.va (.tup cs),.va (.lst ls),.va (.int j),.va r]:=λG=>by
  refine ar (bM (t:=r) (aJ (ts:=[.scr ns,.int (a+31+6*j:Nat),.tup cs]) (al (t:=.scr ns) rfl (al (t:=.int (a+31+6*j:Nat)) (az (t:=.int ((a:Int)+31)) (u:=.int (6*(j:Int))) rfl (az (t:=.int 6) (u:=.int j) rfl rfl (ku (by omega) (by omega))) rfl) (al (t:=.tup cs) rfl rfl))) er) rfl)
 have e2:cl A3 (ac (o2 cQ (vr 6) (cn .non)) ag) [.va (.scr ns),.va (.int a),.va m,.va (.tup cs),.va (.lst ls),.va (.int j),.va r] = .ok (.int (if !r.isN then 1 else 0)):=aJ (ts:=[.bl (!r.isN)]) rfl rfl
 refine⟨ls++(if !r.isN then [r]else []),.va r,?_,?_,?_⟩
 ·refine(e1 _).trans (bM (az (t:=.lst ls) (u:=.lst (if !r.isN then [r]else [])) rfl (az (t:=.lst [r]) (fS (ts:=[r]) rfl (aq (k:=1) (by simp))) e2 (mul_one _ _)) (iK _ _ ?_)) rfl)
  rw[Kw];cases r.isN <;> simp <;> omega
 ·intro t ht
  rcases K4.mp ht with ht | ht
  ·exact h t ht
  ·rcases hr with rfl | hr
   ·cases ht
   ·cases q:r.isN with
    | true=>rw[q]at ht;cases ht
    | false=>
     rw[q]at ht;rw[show t=r by simpa using ht]
     exact hr
 ·rw[Kw]
  cases r.isN <;> simp
theorem xp (ns:List Int)(hn:ns.length<=63)(a:Nat)(m:T)(cs:List T)(hc:bc (.tup cs)=true):∀(js:List Nat) (ls:List T) (s5 s6:Sl),za cs ls->ls.length+js.length<=100 →
  ∃ls2 t5 t6,a9 (gN 5) leF (js.map λ(j:Nat)=>T.int j) [.va (.scr ns),.va (.int a),.va m,.va (.tup cs),.va (.lst ls),s5,s6] = .ok (.nx [.va (.scr ns),.va (.int a),.va m,.va (.tup cs),.va (.lst ls2),t5,t6])/\za cs ls2/\ls2.length<=ls.length+js.length
 | [],ls,s5,s6,h,_=>⟨ls,s5,s6,rfl,h,KB _⟩
 | j::js,ls,s5,s6,h,hl=>by
  rw[Kx]at hl;obtain⟨l2,s7,e2,h2,n2⟩:=C4 ns hn a j m cs ls hc h (by omega) s6
  obtain⟨l3,t5,t6,e3,h3,n3⟩:=xp ns hn a m cs hc js l2 (.va (.int j)) s7 h2 (by omega)
  refine⟨l3,t5,t6,?_,h3,by rw[Kx];omega⟩
  rw[Kp,cz (Z1:=[.va (.scr ns),.va (.int a),.va m,.va (.tup cs),.va (.lst ls),.va (.int j),s6]) rfl e2];exact e3
theorem Gy (ns:List Int)(hn:ns.length<=63)(a m:Nat)(hm:m<=8):∃cs ls,fI [.scr ns,.int a,.int m] = .ok (RR cs ls)/\bc (.tup cs)=true/\cs.length<=3/\(∀c∈cs,sm 8 c=true)/\za cs ls/\ls.length<=m:=by
 obtain⟨d1,e1,p1,q1⟩:=db ns a 3 hn (by omega)
 obtain⟨d2,e2,p2,q2⟩:=db ns (a+30) ((m:Int)+1) hn (by omega)
 obtain⟨d1,rfl⟩:=Lm p1;obtain⟨d2,rfl⟩:=Lm p2
 let hcl:T->T:=λt=>match t with
  | .int k=>okv (cL [.scr ns,.int ((a:Int)+1+8*k)])
  | _=> .non
 have hh:∀t∈rng 0 ((1+d1:Nat):Int),∃k:Nat,t= .int k/\cL [.scr ns,.int ((a+1+8*k:Nat):Int)] = .ok (hcl t)/\bO (hcl t)=true/\sm 8 (hcl t)=true:=λt ht=>by
  obtain⟨k,rfl,_⟩:=eU ht;obtain⟨c,ec,h1,h2⟩:=Br ns hn (a+1+8*k)
  have e:hcl (.int k)=c:=by
   show okv (cL [.scr ns,.int ((a+1+8*k:Nat):Int)])=c
   rw[ec];rfl
  exact⟨k,rfl,by rw[e];exact ec,by rw[e];exact h1,by rw[e];exact h2⟩
 generalize hcs:(rng 0 ((1+d1:Nat):Int)).map hcl=cs
 have lc:cs.length=1+d1:=by rw[<-hcs,Ks,gQ]
 have hc:bc (.tup cs)=true:=by
  show(eY (.tup cs) 1 4&&cs.all bO)=true
  rw[Ku,KY];refine⟨by simp[eY];omega,λc h=> ?_⟩
  rw[<-hcs]at h;obtain⟨t,ht,rfl⟩:=KN.mp h;obtain⟨_,_,_,h1,_⟩:=hh t ht;exact h1
 have hsm:∀c∈cs,sm 8 c=true:=λc h=>by
  rw[<-hcs]at h;obtain⟨t,ht,rfl⟩:=KN.mp h;obtain⟨_,_,_,_,h1⟩:=hh t ht;exact h1
 obtain⟨ls,t5,t6,el,hl,nl⟩:=xp ns hn a (.int m) cs hc (Lu d2) [] .em .em (λt h=>by cases h) (by simp;omega)
 refine⟨cs,ls,bz rfl ?_,hc,by omega,hsm,hl,by simp at nl;omega⟩
 show ie [.va (.scr ns),.va (.int a),.va (.int m),.em,.em,.em,.em] =_
 unfold ie
 have s1:cq (cl fU (ac (eG (iR (ac (o2 aV (cn (.int 1)) (cl ax (ac (vr 0) (ac (vr 1) (ac (cn (.int 3)) ag))))) ag)) [none,some 0,some 1] (gN 0) bT (cl cL (ac (vr 1) (ac (o2 aV (o2 aV (vr 2) (cn (.int 1))) (o2 bP (cn (.int 8)) (vr 0))) ag)))) ag)) (gN 3) [.va (.scr ns),.va (.int a),.va (.int m),.em,.em,.em,.em] = .ok (.nx [.va (.scr ns),.va (.int a),.va (.int m),.va (.tup cs),.em,.em,.em]):=by
  refine bM (t:=.tup cs) (aJ (ts:=[.lst cs]) (al (t:=.lst cs) ?_ rfl) rfl) rfl
  rw[<-hcs];refine md (ts:=rng 0 ((1+d1:Nat):Int)) (h:=hcl) (yI (al (t:=.int ((1+d1:Nat):Int)) (az (t:=.int 1) (u:=.int d1) rfl (ee e1 rfl rfl rfl) rfl) rfl) (by omega) (by omega)) (aq (k:=3) (by rw[gQ];omega)) (by simp) λt ht=> ?_
  obtain⟨k,rfl,ek,_,_⟩:=hh t ht;refine aJ (ts:=[.scr ns,.int ((a+1+8*k:Nat):Int)]) (al (t:=.scr ns) rfl (al (az (t:=.int ((a:Int)+1)) (u:=.int (8*(k:Int))) rfl (az (t:=.int 8) (u:=.int k) rfl rfl (ku (by omega) (by omega))) rfl) rfl)) ek
 rw[ar s1];rw[ar (Z':=[.va (.scr ns),.va (.int a),.va (.int m),.va (.tup cs),.va (.lst []),.em,.em]) (bM (fS (ts:=[]) rfl (aq (k:=0) (by simp))) rfl)]
 rw[ar ((dm (yI (al (ee (k:=a+30) e2 rfl rfl (az (t:=.int m) (u:=.int 1) rfl rfl rfl)) rfl) (by omega) (by omega)) (by rw[rO];exact el)))]
 exact cm (cy (al (t:=.tup cs) rfl (al (t:=.tup ls) rfl rfl)) (aq (k:=2) (by simp)))
theorem ly {cs:List T}{t:T}(h:bQ cs t=true):∃a b x y,t= .tup [a,b,x,y]/\fK x y=true/\aQ cs a=true/\aQ cs b=true/\bf a b=false:=by
 unfold bQ at h
 split at h
 ·simp only[Ku,Rh]at h
  exact⟨_,_,_,_,rfl,h.1,h.2.1,h.2.2.1,h.2.2.2⟩
 ·cases h
theorem EY {cs ls:List T}(hc:bc (.tup cs)=true)(hs:∀c∈cs,sm 8 c=true)(hl:za cs ls)(hn:ls.length<=8):iq (RR cs ls)=true/\sm 8 (RR cs ls)=true:=by
 refine⟨?_,?_⟩
 ·show(bc (.tup cs)&&(eY (.tup ls) 0 8&&ls.all (bQ cs)))=true
  rw[hc,Ot,Ku,KY];exact⟨by simp[eY];exact hn,λt ht=>(hl t ht).1⟩
 ·refine sm_tup.mpr ⟨by simp,λt ht=> ?_⟩
  simp only[Ky,Lw,or_false]at ht;rcases ht with rfl | rfl
  ·exact sm_tup.mpr ⟨by have:=(cA hc).2.2;omega,hs⟩
  ·exact sm_tup.mpr ⟨hn,λt ht=>(hl t ht).2⟩
end G
namespace Tr
open PySem
section
variable {f fa fb:En->Rs T}{fs:En->Rs (List T)}{b c:En->Rs Bool}{F G:En->Rs Fl}{Z Z' Z1 Z2:En}{t u r:T}{ts l m:List T}
mutual
theorem mm:∀(t:T),t.pl=true->bf t t=true
 | .non,_=>rfl
 | .bl a,_=>by simp[bf]
 | .int a,_=>by simp[bf]
 | .str a,_=>by simp[bf]
 | .tup l,h=>by rw[bf];exact beqTs_refl l (by unfold T.pl at h;exact h)
 | .lst l,h=>by rw[bf];exact beqTs_refl l (by unfold T.pl at h;exact h)
 | .scr _,h=>by simp[T.pl]at h
theorem beqTs_refl:∀(l:List T),plS l=true->beqTs l l=true
 | [],_=>rfl
 | t::l,h=>by
  unfold plS at h;rw[Ku]at h;rw[beqTs,mm t h.1,beqTs_refl l h.2];rfl
end
theorem iB (hp:t.pl=true)(hd:t.dep<=60):mY t t= .ok (.bl false):=by
 unfold mY;rw[if_pos (jy hd (T.Jw _ hp) (T.Jw _ hp)),mm t hp];rfl
theorem nE (hp:t.pl=true)(hd:t.dep<=60):qi t t= .ok (.bl true):=by
 unfold qi;rw[if_pos (jy hd (T.Jw _ hp) (T.Jw _ hp)),mm t hp]
theorem og:∀{l:List T},(∀t∈l,t.pl=true)->plS l=true
 | [],_=>rfl
 | t::l,h=>by unfold plS;rw[h t Kr,og λu hu=>h u (Ko _ hu)];rfl
end
end Tr
namespace G
open PySem Tr
def dr (r:List Int)(k:Nat):Int:=r.getD (k+1) 0 - r.getD k 0
def pr (n:Nat)(x y:Int)(r:List Int)(k:Nat):List T:=
 [.tup [.tup [.int n,.int k],.tup [.int n,.int ((k+1:Nat):Int)],.int (dr r k*y)],.tup [.tup [.int n,.int ((k+1:Nat):Int)],.tup [.int n,.int k],.int (-dr r k*x)]]
def cB (n:Nat)(x y:Int)(r:List Int):List T:=(Lu (r.length - 1)).flatMap (pr n x y r)
abbrev BG (n:Nat)(x y:Int)(r:List Int)(acc:List T)(s4 s5 s6 s7:Sl):En:=[.va (.int n),.va (.tup [.int x,.int y,.tup (r.map .int)]),.va (.tup (r.map .int)),.ow (.lst acc),s4,s5,s6,s7]
abbrev bcF:En->Rs Fl:=(aw (cq (aL (ac (vr 0) (ac (vr 4) ag))) (gN 5)) (aw (cq (aL (ac (vr 0) (ac (o2 aV (vr 4) (cn (.int 1))) ag))) (gN 6)) (aw (cq (o2 eO (o2 aW (vr 2) (o2 aV (vr 4) (cn (.int 1)))) (o2 aW (vr 2) (vr 4))) (gN 7)) (aw (gL 3 (aL (ac (vr 5) (ac (vr 6) (ac (o2 bP (vr 7) (o2 aW (vr 1) (cn (.int 1)))) ag))))) (gL 3 (aL (ac (vr 6) (ac (vr 5) (ac (o2 bP (o1 oP (vr 7)) (o2 aW (vr 1) (cn (.int 0)))) ag)))))))))
theorem nA {r:List Int}{k:Nat}(h:k<r.length):(r.map T.int)[k]? =some (.int (r.getD k 0)):=by
 rw[KP,KD h]
 simp[h]
theorem Dy (n:Nat)(x y:Int)(r:List Int)(acc:List T)(k:Nat)(s5 s6 s7:Sl)(hk:k+1<r.length)(hx:0<=x/\x<=9)(hy:0<=y/\y<=9)(ha:acc.length<=100) :
  bcF (BG n x y r acc (.va (.int k)) s5 s6 s7)= .ok (.nx (BG n x y r (acc++pr n x y r k) (.va (.int k)) (.va (.tup [.int n,.int k])) (.va (.tup [.int n,.int ((k+1:Nat):Int)])) (.va (.int (dr r k))))):=by
 have h2:([T.int n,T.int k]:List T).length<=sizeLine:=aq (k:=2) (by simp)
 have ek:((k:Int)+1)=((k+1:Nat):Int):=by omega
 refine(ar (Z':=BG n x y r acc (.va (.int k)) (.va (.tup [.int n,.int k])) s6 s7) (bM (cy rfl (aq (k:=2) (by simp))) rfl)).trans ?_
 refine(ar (Z':=BG n x y r acc (.va (.int k)) (.va (.tup [.int n,.int k])) (.va (.tup [.int n,.int ((k+1:Nat):Int)])) s7) (bM (cy (al rfl (al (t:=.int ((k+1:Nat):Int)) (az (t:=.int k) (u:=.int 1) rfl rfl (congrArg (λz=>Rs.ok (T.int z)) ek)) rfl)) (aq (k:=2) (by simp))) rfl)).trans ?_
 refine(ar (Z':=BG n x y r acc (.va (.int k)) (.va (.tup [.int n,.int k])) (.va (.tup [.int n,.int ((k+1:Nat):Int)])) (.va (.int (dr r k)))) (bM (t:=.int (dr r k)) (az (t:=.int (r.getD (k+1) 0)) (u:=.int (r.getD k 0)) (yE (n:=k+1) rfl (az (t:=.int k) (u:=.int 1) rfl rfl (congrArg (λz=>Rs.ok (T.int z)) ek)) (nA hk)) (yE (n:=k) rfl rfl (nA (by omega))) rfl) rfl)).trans ?_
 refine(ar (Z':=BG n x y r (acc++ [.tup [.tup [.int n,.int k],.tup [.int n,.int ((k+1:Nat):Int)],.int (dr r k*y)]]) (.va (.int k)) (.va (.tup [.int n,.int k])) (.va (.tup [.int n,.int ((k+1:Nat):Int)])) (.va (.int (dr r k)))) (lA (l:=acc) (cy (al rfl (al rfl (al (az (t:=.int (dr r k)) (u:=.int y) rfl rfl (AB (by omega) (by omega))) rfl))) (aq (k:=3) (by simp))) rfl (by omega))).trans ?_
 refine(lA (l:=acc++ [.tup [.tup [.int n,.int k],.tup [.int n,.int ((k+1:Nat):Int)],.int (dr r k*y)]]) (cy (al rfl (al rfl (al (az (t:=.int (-dr r k)) (u:=.int x) rfl rfl (AB (by omega) (by omega))) rfl))) (aq (k:=3) (by simp))) rfl (by rw[Kw];simp;omega)).trans ?_
 rw[KR]
 rfl
theorem xU (n:Nat)(x y:Int)(r:List Int)(hx:0<=x/\x<=9)(hy:0<=y/\y<=9):∀(js:List Nat) (acc:List T) (s4 s5 s6 s7:Sl),(∀k∈js,k+1<r.length)->acc.length+2*js.length<=100 →
  ∃t4 t5 t6 t7,a9 (gN 4) bcF (js.map λ(k:Nat)=>T.int k) (BG n x y r acc s4 s5 s6 s7)= .ok (.nx (BG n x y r (acc++js.flatMap (pr n x y r)) t4 t5 t6 t7))
 | [],acc,s4,s5,s6,s7,_,_=>⟨s4,s5,s6,s7,by simp[a9]⟩
 | k::js,acc,s4,s5,s6,s7,hk,hl=>by
  rw[Kx]at hl
  have e:=Dy n x y r acc k s5 s6 s7 (hk k Kr) hx hy (by omega)
  obtain⟨t4,t5,t6,t7,ih⟩:=xU n x y r hx hy js (acc++pr n x y r k) (.va (.int k)) (.va (.tup [.int n,.int k])) (.va (.tup [.int n,.int ((k+1:Nat):Int)])) (.va (.int (dr r k))) (λj hj=>hk j (Ko _ hj)) (by rw[Kw];simp[pr];omega)
  refine⟨t4,t5,t6,t7,?_⟩
  rw[Kp,cz (Z1:=BG n x y r acc (.va (.int k)) s5 s6 s7) rfl e,ih,Ma,KR]
theorem Bv (n:Nat)(x y:Int)(r:List Int)(hx:0<=x/\x<=9)(hy:0<=y/\y<=9)(h1:1<=r.length)(h4:r.length<=4):cK [.int n,.tup [.int x,.int y,.tup (r.map .int)]] = .ok (.lst (cB n x y r)):=by
 refine bz rfl ?_
 show fh [.va (.int n),.va (.tup [.int x,.int y,.tup (r.map .int)]),.em,.em,.em,.em,.em,.em] =_
 unfold fh;rw[ar (Z':=[.va (.int n),.va (.tup [.int x,.int y,.tup (r.map .int)]),.va (.tup (r.map .int)),.em,.em,.em,.em,.em]) (bM (t:=.tup (r.map .int)) rfl rfl)];rw[ar (Z':=BG n x y r [] .em .em .em .em) rfl];obtain⟨t4,t5,t6,t7,e⟩:=xU n x y r hx hy (Lu (r.length - 1)) [] .em .em .em .em (λk hk=>by have:=LW.mp hk;omega) (by simp;omega)
 have e1:iR (ac (o2 eO (cl cx (ac (vr 2) ag)) (cn (.int 1))) ag) (BG n x y r [] .em .em .em .em)= .ok (rng 0 ((r.length - 1:Nat):Int)):=by
  refine yI (j:=((r.length - 1:Nat):Int)) (al (az (t:=.int (r.length:Nat)) (u:=.int 1) (aJ (ts:=[.tup (r.map .int)]) rfl (by show Rs.ok (T.int ((r.map T.int).length:Nat))=_;rw[Ks])) rfl (congrArg (λz=>Rs.ok (T.int z)) (by omega))) rfl) (by omega) (by omega)
 rw[ar ((dm (ts:=(Lu (r.length - 1)).map λ(k:Nat)=>T.int k) (by rw[e1,rO]) e))]
 rfl
theorem iJ {t:T}(h:bO t=true):∃(x y:Int) (r:List Int),t= .tup [.int x,.int y,.tup (r.map .int)]/\(0<=x/\x<=9)/\(0<=y/\y<=9)/\1<=r.length/\r.length<=4:=by
 obtain⟨x,y,r,rfl,h1,h4⟩:=eI h
 have h':(pO x y&&dB (.tup r))=true:=h;rw[Ku]at h';obtain⟨hp,hr⟩:=h';unfold pO at hp;rw[Ku]at hp;obtain⟨i,rfl,i1,i2⟩:=eh hp.1;obtain⟨j,rfl,j1,j2⟩:=eh (t:=y) (a:=i) (b:=9) hp.2;unfold dB at hr;rw[Ku]at hr
 have hr2:((r.all λu=>bD u 0 99)&&(match nums r with | some m=>pC m | none=>false))=true:=hr.2
 rw[Ku]at hr2;obtain⟨m,em⟩:=sv hr2.1
 have e:=oE em;subst e;rw[Ks]at h1 h4;exact⟨i,j,m,rfl,⟨by omega,by omega⟩,⟨by omega,by omega⟩,h1,h4⟩
def xB (n:Nat)(t:T):List T:=match t with
 | .tup [.int x,.int y,.tup r] =>match nums r with
  | some m=>cB n x y m
  | none=> []
 | _=> []
def bC:Nat->List T->List T
 | _,[] => []
 | i,c::r=>xB i c++bC (i+1) r
def lB (t:T):List T:=match t with
 | .tup [a,b,.int le,mo] => .tup [b,a,.int (-le)] ::(if mo.isN then []else [.tup [a,b,mo]])
 | _=> []
def GJ (cs ls:List T):List T:=bC 0 cs++ls.flatMap lB
theorem qv (n:Nat)(x y:Int)(r:List Int):xB n (.tup [.int x,.int y,.tup (r.map .int)])=cB n x y r:=by
 unfold xB;simp only[oF]
theorem GH (n:Nat)(x y:Int)(r:List Int):(cB n x y r).length=2*(r.length - 1):=by
 unfold cB;rw[List.length_flatMap]
 have:∀l:List Nat,(l.map λk=>(pr n x y r k).length).sum=2*l.length:=by
  intro l
  induction l with
  | nil=>rfl
  | cons a l ih=>rw[Kp,Mg,ih,Kx];simp[pr];omega
 rw[this,L9]
theorem vG {n:Nat}{t:T}(h:bO t=true):(xB n t).length<=6:=by
 obtain⟨x,y,r,rfl,_,_,h1,h4⟩:=iJ h;rw[qv,GH];omega
theorem tE:∀{cs:List T} {i:Nat},(∀c∈cs,bO c=true)->(bC i cs).length<=6*cs.length
 | [],i,_=>by simp[bC]
 | c::cs,i,h=>by
  rw[bC,Kw,Kx]
  have:=vG (n:=i) (h c Kr)
  have:=tE (cs:=cs) (i:=i+1) λc hc=>h c (Ko _ hc)
  omega
theorem wn (t:T):(lB t).length<=2:=by
 unfold lB;split
 ·rename_i a b le mo
  cases mo.isN <;> simp
 ·simp
theorem xw:∀(ls:List T),(ls.flatMap lB).length<=2*ls.length
 | [] =>by simp
 | t::ls=>by
  rw[Ma,Kw,Kx]
  have:=wn t
  have:=xw ls;omega
theorem mJ {cs:List T}{t:T}(h:bQ cs t=true):∃(a b mo:T) (le:Int),t= .tup [a,b,.int le,mo]/\aQ cs a=true/\aQ cs b=true:=by
 obtain⟨a,b,x,y,rfl,hd,ha,hb,_⟩:=ly h;unfold fK at hd;rw[Ku]at hd;obtain⟨i,rfl,_⟩:=eh hd.1;exact⟨a,b,y,i,rfl,ha,hb⟩
theorem yO {cs:List T}{t:T}(h:bQ cs t=true):cw [t] = .ok (.lst (lB t)):=by
 obtain⟨a,b,mo,le,rfl,_,_⟩:=mJ h;refine bz rfl ?_
 show eC [.va (.tup [a,b,.int le,mo]),.em] =_
 unfold eC;rw[ar (Z':=[.va (.tup [a,b,.int le,mo]),.ow (.lst [.tup [b,a,.int (-le)]])]) (AU (l:=[.tup [b,a,.int (-le)]]) (al (cy (al rfl (al rfl (al rfl rfl))) (aq (k:=3) (by simp))) rfl) (by simp) (by simp))]
 have e:∀(Z:En) l,Z= [.va (.tup [a,b,.int le,mo]),.ow (.lst l)]->o2 cQ (o2 aW (vr 0) (cn (.int 3))) (cn .non) Z= .ok (.bl (!mo.isN)):=λZ l z=>by subst z;rfl
 have e2:lB (.tup [a,b,.int le,mo])= .tup [b,a,.int (-le)] ::(if mo.isN then []else [.tup [a,b,mo]]):=rfl
 rw[e2]
 cases q:mo.isN with
 | true=>
  rw[ar (Z':=[.va (.tup [a,b,.int le,mo]),.ow (.lst [.tup [b,a,.int (-le)]])]) ((cR (bB (by rw[e _ _ rfl,q];rfl))).trans rfl)]
  rfl
 | false=>
  rw[ar (Z':=[.va (.tup [a,b,.int le,mo]),.ow (.lst ([.tup [b,a,.int (-le)]] ++ [.tup [a,b,mo]]))]) ((dU (bB (by rw[e _ _ rfl,q];rfl))).trans (lA (l:=[.tup [b,a,.int (-le)]]) (cy (al rfl (al rfl (al rfl rfl))) (aq (k:=3) (by simp))) rfl (by simp)))]
  rfl
abbrev bdF:En->Rs Fl:=n8 1 (cl cK (ac (vr 2) (ac (vr 3) ag)))
abbrev bdG:T->En->Rs En:=gT 2 (dY (gN 2) (dY (gN 3) kQ))
theorem xT (R:T)(s4:Sl):∀(cs:List T) (acc:List T) (i:Nat) (s2 s3:Sl),(∀c∈cs,bO c=true)->acc.length+6*cs.length<=100 →
  ∃y2 y3,a9 bdG bdF (ca i cs) [.va R,.ow (.lst acc),s2,s3,s4] = .ok (.nx [.va R,.ow (.lst (acc++bC i cs)),y2,y3,s4])
 | [],acc,i,s2,s3,_,_=>⟨s2,s3,by simp[ca,a9,bC]⟩
 | c::cs,acc,i,s2,s3,hc,hl=>by
  have h0:=hc c Kr
  have hx:=vG (n:=i) h0;obtain⟨x,y,r,rfl,a1,a2,a3,a4⟩:=iJ h0;rw[Kx]at hl;rw[qv]at hx
  have st:bdF [.va R,.ow (.lst acc),.va (.int i),.va (.tup [.int x,.int y,.tup (r.map .int)]),s4] = .ok (.nx [.va R,.ow (.lst (acc++cB i x y r)),.va (.int i),.va (.tup [.int x,.int y,.tup (r.map .int)]),s4]):=
   AY (l:=acc) (aJ (ts:=[.int i,.tup [.int x,.int y,.tup (r.map .int)]]) rfl (Bv i x y r a1 a2 a3 a4)) rfl (by omega)
  obtain⟨z2,z3,ih⟩:=xT R s4 cs (acc++cB i x y r) (i+1) (.va (.int i)) (.va (.tup [.int x,.int y,.tup (r.map .int)])) (λc h=>hc c (Ko _ h)) (by rw[Kw];omega)
  refine⟨z2,z3,?_⟩
  rw[ca,cz (Z1:=[.va R,.ow (.lst acc),.va (.int i),.va (.tup [.int x,.int y,.tup (r.map .int)]),s4]) rfl st,ih,bC,qv,KR]
abbrev blF:En->Rs Fl:=n8 1 (cl cw (ac (vr 4) ag))
theorem xS (R:T)(cs:List T)(s2 s3:Sl):∀(ls:List T) (acc:List T) (s4:Sl),(∀t∈ls,bQ cs t=true)->acc.length+2*ls.length<=100 →
  ∃y4,a9 (gN 4) blF ls [.va R,.ow (.lst acc),s2,s3,s4] = .ok (.nx [.va R,.ow (.lst (acc++ls.flatMap lB)),s2,s3,y4])
 | [],acc,s4,_,_=>⟨s4,by simp[a9]⟩
 | t::ls,acc,s4,hl,hn=>by
  rw[Kx]at hn
  have:=wn t
  have st:blF [.va R,.ow (.lst acc),s2,s3,.va t] = .ok (.nx [.va R,.ow (.lst (acc++lB t)),s2,s3,.va t]):=AY (l:=acc) (aJ (ts:=[t]) rfl (yO (hl t Kr))) rfl (by omega)
  obtain⟨y4,ih⟩:=xS R cs s2 s3 ls (acc++lB t) (.va t) (λu h=>hl u (Ko _ h)) (by rw[Kw];omega)
  refine⟨y4,?_⟩
  rw[cz (Z1:=[.va R,.ow (.lst acc),s2,s3,.va t]) rfl st,ih,Ma,KR]
theorem gD {R:T}(hp:R.pl=true)(h:iq R=true):bx [R] = .ok .non:=by
 refine sO (Z:=[.va R]) rfl ?_
 show dZ [.va R] =_
 unfold dZ;exact(cR ((oZ (k:=true) (bB (aJ (ts:=[R]) rfl (by rw[vi R hp,h])))))).trans rfl
theorem l0 {R:T}(hp:R.pl=true)(h:iq R=false):bx [R] = .err "NoRecord":=by
 refine cX rfl ?_
 show dZ [.va R] =_
 unfold dZ;exact(dU ((oZ (k:=false) (bB (aJ (ts:=[R]) rfl (by rw[vi R hp,h])))))).trans rfl
structure Good (cs ls:List T):Prop where
 c:bc (.tup cs)=true
 l:∀t∈ls,bQ cs t=true
 n:ls.length<=8
 p:(RR cs ls).pl=true
theorem Good.ok {cs ls:List T}(g:Good cs ls):iq (RR cs ls)=true:=by
 show(bc (.tup cs)&&(eY (.tup ls) 0 8&&ls.all (bQ cs)))=true
 rw[g.c,Ot,Ku,KY];exact⟨by simp[eY];exact g.n,g.l⟩
theorem Bt {cs ls:List T}(g:Good cs ls):dM [RR cs ls] = .ok (.lst (GJ cs ls)):=by
 obtain⟨hc,c1,c4⟩:=cA g.c
 have hn:=g.n;refine bz rfl ?_
 show jG [.va (RR cs ls),.em,.em,.em,.em] =_
 unfold jG;rw[ar (kK (t:=.non) (aJ (ts:=[RR cs ls]) rfl (gD g.p g.ok)))];rw[ar (Z':=[.va (RR cs ls),.ow (.lst []),.em,.em,.em]) (l9 (by simp))]
 obtain⟨y2,y3,e⟩:=xT (RR cs ls) .em cs [] 0 .em .em hc (by simp;omega)
 rw[ar ((dm (ts:=ca 0 cs) rfl e))]
 have:=tE (i:=0) hc;obtain⟨y4,e2⟩:=xS (RR cs ls) cs y2 y3 ls ([] ++bC 0 cs) .em g.l (by rw[LD];omega)
 rw[ar ((dm (ts:=ls) rfl e2))]
 rfl
abbrev zg (R:T)(acc:List T)(n:Nat)(x y:Int)(r:List Int)(s6 s7 s8 s9 s10 s11:Sl):En:=[.va R,.ow (.lst acc),.va (.int n),.va (.int x),.va (.int y),.va (.tup (r.map .int)),s6,s7,s8,s9,s10,s11]
abbrev lkF:En->Rs Fl:=(aw (cq (o2 eO (o2 aW (vr 5) (vr 6)) (o2 aW (vr 5) (o2 eO (vr 6) (cn (.int 1))))) (gN 7)) (aw (gL 1 (aL (ac (aL (ac (vr 2) (ac (o2 eO (vr 6) (cn (.int 1))) ag))) (ac (aL (ac (vr 2) (ac (vr 6) ag))) (ac (o2 bP (vr 4) (vr 7)) ag))))) (gL 1 (aL (ac (aL (ac (vr 2) (ac (vr 6) ag))) (ac (aL (ac (vr 2) (ac (o2 eO (vr 6) (cn (.int 1))) ag))) (ac (o2 eO (cn (.int 0)) (o2 bP (vr 3) (vr 7))) ag)))))))
theorem C3 (R:T)(n:Nat)(x y:Int)(r:List Int)(acc:List T)(k:Nat)(s7 s8 s9 s10 s11:Sl)(hk:k+1<r.length)(hx:0<=x/\x<=9)(hy:0<=y/\y<=9)(ha:acc.length<=100) :
  lkF (zg R acc n x y r (.va (.int ((k+1:Nat):Int))) s7 s8 s9 s10 s11)= .ok (.nx (zg R (acc++pr n x y r k) n x y r (.va (.int ((k+1:Nat):Int))) (.va (.int (dr r k))) s8 s9 s10 s11)):=by
 have sb:∀acc s7,o2 eO (vr 6) (cn (.int 1)) (zg R acc n x y r (.va (.int ((k+1:Nat):Int))) s7 s8 s9 s10 s11)= .ok (.int k):=λacc s7=>az (t:=.int ((k+1:Nat):Int)) (u:=.int 1) rfl rfl (congrArg (λz=>Rs.ok (T.int z)) (by omega))
 refine(ar (Z':=zg R acc n x y r (.va (.int ((k+1:Nat):Int))) (.va (.int (dr r k))) s8 s9 s10 s11) (bM (t:=.int (dr r k)) (az (t:=.int (r.getD (k+1) 0)) (u:=.int (r.getD k 0)) (yE (n:=k+1) rfl rfl (nA hk)) (yE (n:=k) rfl (sb acc s7) (nA (by omega))) rfl) rfl)).trans ?_
 refine(ar (Z':=zg R (acc++ [.tup [.tup [.int n,.int k],.tup [.int n,.int ((k+1:Nat):Int)],.int (dr r k*y)]]) n x y r (.va (.int ((k+1:Nat):Int))) (.va (.int (dr r k))) s8 s9 s10 s11) (lA (l:=acc) (cy (al (cy (al rfl (al (sb _ _) rfl)) (aq (k:=2) (by simp))) (al (cy rfl (aq (k:=2) (by simp))) (al (az (t:=.int y) (u:=.int (dr r k)) rfl rfl ((ku (by omega) (by omega)).trans (by rw[Int.mul_comm]))) rfl))) (aq (k:=3) (by simp))) rfl (by omega))).trans ?_
 refine(lA (l:=acc++ [.tup [.tup [.int n,.int k],.tup [.int n,.int ((k+1:Nat):Int)],.int (dr r k*y)]]) (t:=.tup [.tup [.int n,.int ((k+1:Nat):Int)],.tup [.int n,.int k],.int (-dr r k*x)]) (cy (al (cy rfl (aq (k:=2) (by simp))) (al (cy (al rfl (al (sb _ _) rfl)) (aq (k:=2) (by simp))) (al (az (t:=.int 0) (u:=.int (x*dr r k)) rfl (az (t:=.int x) (u:=.int (dr r k)) rfl rfl (ku (by omega) (by omega))) (congrArg (λz=>Rs.ok (T.int z)) (by rw[Int.neg_mul,Int.mul_comm x,RD]))) rfl))) (aq (k:=3) (by simp))) rfl (by rw[Kw];simp;omega)).trans ?_
 rw[KR]
 rfl
theorem xj (R:T)(n:Nat)(x y:Int)(r:List Int)(s8 s9 s10 s11:Sl)(hx:0<=x/\x<=9)(hy:0<=y/\y<=9):∀(js:List Nat) (acc:List T) (s6 s7:Sl),(∀k∈js,k+1<r.length)->acc.length+2*js.length<=100 →
  ∃t6 t7,a9 (gN 6) lkF (js.map λ(k:Nat)=>T.int ((k+1:Nat):Int)) (zg R acc n x y r s6 s7 s8 s9 s10 s11)= .ok (.nx (zg R (acc++js.flatMap (pr n x y r)) n x y r t6 t7 s8 s9 s10 s11))
 | [],acc,s6,s7,_,_=>⟨s6,s7,by simp[a9]⟩
 | k::js,acc,s6,s7,hk,hl=>by
  rw[Kx]at hl
  have e:=C3 R n x y r acc k s7 s8 s9 s10 s11 (hk k Kr) hx hy (by omega)
  obtain⟨t6,t7,ih⟩:=xj R n x y r s8 s9 s10 s11 hx hy js (acc++pr n x y r k) (.va (.int ((k+1:Nat):Int))) (.va (.int (dr r k))) (λj hj=>hk j (Ko _ hj)) (by rw[Kw];simp[pr];omega)
  refine⟨t6,t7,?_⟩
  rw[Kp,cz (Z1:=zg R acc n x y r (.va (.int ((k+1:Nat):Int))) s7 s8 s9 s10 s11) rfl e,ih,Ma,KR]
theorem Cf (n:Nat)(h:1<=n):rng 1 (n:Int)=(Lu (n - 1)).map λ(k:Nat)=>T.int ((k+1:Nat):Int):=by
 unfold rng
 have:((n:Int) - 1).toNat=n - 1:=by omega
 rw[this];exact K2 λk _=>congrArg T.int (by omega)
theorem iR2 {f:En->Rs (List T)}{Z:En}{i j:Int}(h:f Z= .ok [.int i,.int j])(h0:0<=i)(h1:i<=100000)(h2:0<=j)(h3:j<=100000):iR f Z= .ok (rng i j):=by
 unfold iR;rw[h]
 have e:(wv i&&wv j)=true:=by unfold wv;simp;omega
 show(if (wv i&&wv j)=true then _ else _)=_
 rw[e];rfl
abbrev H0:En->Rs Fl:=(dD (iR (ac (cn (.int 1)) (ac (cl cx (ac (vr 5) ag)) ag))) (gN 6) lkF)
abbrev lcG:T->En->Rs En:=gT 2 (dY (gN 2) (dY (gT 3 (dY (gN 3) (dY (gN 4) (dY (gN 5) kQ)))) kQ))
theorem xu (R:T)(s8 s9 s10 s11:Sl):∀(cs:List T) (acc:List T) (i:Nat) (s2 s3 s4 s5 s6 s7:Sl),(∀c∈cs,bO c=true)->acc.length+6*cs.length<=90 →
  ∃y2 y3 y4 y5 y6 y7,a9 lcG H0 (ca i cs) [.va R,.ow (.lst acc),s2,s3,s4,s5,s6,s7,s8,s9,s10,s11] = .ok (.nx [.va R,.ow (.lst (acc++bC i cs)),y2,y3,y4,y5,y6,y7,s8,s9,s10,s11])
 | [],acc,i,s2,s3,s4,s5,s6,s7,_,_=>⟨s2,s3,s4,s5,s6,s7,by simp[ca,a9,bC]⟩
 | c::cs,acc,i,s2,s3,s4,s5,s6,s7,hc,hl=>by
  have h0:=hc c Kr
  have hx:=vG (n:=i) h0;obtain⟨x,y,r,rfl,a1,a2,a3,a4⟩:=iJ h0;rw[Kx]at hl;rw[qv]at hx;obtain⟨t6,t7,e⟩:=xj R i x y r s8 s9 s10 s11 a1 a2 (Lu (r.length - 1)) acc s6 s7 (λk hk=>by have:=LW.mp hk;omega) (by rw[L9];omega)
  have e1:iR (ac (cn (.int 1)) (ac (cl cx (ac (vr 5) ag)) ag)) (zg R acc i x y r s6 s7 s8 s9 s10 s11)= .ok (rng 1 (r.length:Nat)):=
   iR2 (i:=1) (j:=(r.length:Nat)) (al rfl (al (aJ (ts:=[.tup (r.map .int)]) rfl (by show Rs.ok (T.int ((r.map T.int).length:Nat))=_;rw[Ks])) rfl)) (by omega) (by omega) (by omega) (by omega)
  have st:H0 (zg R acc i x y r s6 s7 s8 s9 s10 s11)= .ok (.nx (zg R (acc++cB i x y r) i x y r t6 t7 s8 s9 s10 s11)):=(dm (ts:=(Lu (r.length - 1)).map λ(k:Nat)=>T.int ((k+1:Nat):Int)) (by rw[e1,Cf _ a3]) e)
  obtain⟨z2,z3,z4,z5,z6,z7,ih⟩:=xu R s8 s9 s10 s11 cs (acc++cB i x y r) (i+1) (.va (.int i)) (.va (.int x)) (.va (.int y)) (.va (.tup (r.map .int))) t6 t7 (λc h=>hc c (Ko _ h)) (by rw[Kw];omega)
  refine⟨z2,z3,z4,z5,z6,z7,?_⟩
  rw[ca,cz (Z1:=zg R acc i x y r s6 s7 s8 s9 s10 s11) rfl st,ih,bC,qv,KR]
abbrev llF:En->Rs Fl:=(aw (gL 1 (aL (ac (vr 9) (ac (vr 8) (ac (o2 eO (cn (.int 0)) (vr 10)) ag))))) (d9 (tb (o2 cQ (vr 11) (cn .non))) (gL 1 (aL (ac (vr 8) (ac (vr 9) (ac (vr 11) ag))))) sN))
abbrev llG:T->En->Rs En:=gT 4 (dY (gN 8) (dY (gN 9) (dY (gN 10) (dY (gN 11) kQ))))
theorem xi (R:T)(cs:List T)(s2 s3 s4 s5 s6 s7:Sl):∀(ls:List T) (acc:List T) (s8 s9 s10 s11:Sl),(∀t∈ls,bQ cs t=true)->acc.length+2*ls.length<=100 →
  ∃y8 y9 y10 y11,a9 llG llF ls [.va R,.ow (.lst acc),s2,s3,s4,s5,s6,s7,s8,s9,s10,s11] = .ok (.nx [.va R,.ow (.lst (acc++ls.flatMap lB)),s2,s3,s4,s5,s6,s7,y8,y9,y10,y11])
 | [],acc,s8,s9,s10,s11,_,_=>⟨s8,s9,s10,s11,by simp[a9]⟩
 | t::ls,acc,s8,s9,s10,s11,hl,hn=>by
  rw[Kx]at hn
  have hlb:=wn t;obtain⟨a,b,mo,le,rfl,_,_⟩:=mJ (hl t Kr)
  have e2:lB (.tup [a,b,.int le,mo])= .tup [b,a,.int (-le)] ::(if mo.isN then []else [.tup [a,b,mo]]):=rfl
  have e:∀l,o2 cQ (vr 11) (cn .non) [.va R,.ow (.lst l),s2,s3,s4,s5,s6,s7,.va a,.va b,.va (.int le),.va mo] = .ok (.bl (!mo.isN)):=λl=>rfl
  have st:llF [.va R,.ow (.lst acc),s2,s3,s4,s5,s6,s7,.va a,.va b,.va (.int le),.va mo] = .ok (.nx [.va R,.ow (.lst (acc++lB (.tup [a,b,.int le,mo]))),s2,s3,s4,s5,s6,s7,.va a,.va b,.va (.int le),.va mo]):=by
   refine(ar (Z':=[.va R,.ow (.lst (acc++ [.tup [b,a,.int (-le)]])),s2,s3,s4,s5,s6,s7,.va a,.va b,.va (.int le),.va mo]) (lA (l:=acc) (t:=.tup [b,a,.int (-le)]) (cy (al rfl (al rfl (al (az (t:=.int 0) (u:=.int le) rfl rfl (congrArg (λz=>Rs.ok (T.int z)) (RD le))) rfl))) (aq (k:=3) (by simp))) rfl (by omega))).trans ?_
   rw[e2]
   cases q:mo.isN with
   | true=>exact(cR (bB (by rw[e,q];rfl))).trans rfl
   | false=>
    refine(dU (bB (by rw[e,q];rfl))).trans ((lA (l:=acc++ [.tup [b,a,.int (-le)]]) (t:=.tup [a,b,mo]) (cy (al rfl (al rfl (al rfl rfl))) (aq (k:=3) (by simp))) rfl (by rw[Kw];simp;omega)).trans ?_)
    rw[KR]
    rfl
  obtain⟨y8,y9,y10,y11,ih⟩:=xi R cs s2 s3 s4 s5 s6 s7 ls (acc++lB (.tup [a,b,.int le,mo])) (.va a) (.va b) (.va (.int le)) (.va mo) (λu h=>hl u (Ko _ h)) (by rw[Kw];omega)
  refine⟨y8,y9,y10,y11,?_⟩
  rw[cz (Z1:=[.va R,.ow (.lst acc),s2,s3,s4,s5,s6,s7,.va a,.va b,.va (.int le),.va mo]) rfl st,ih,Ma,KR]
theorem yM {cs ls:List T}(hcs:bc (.tup cs)=true)(hls:∀t∈ls,bQ cs t=true)(hn:ls.length<=8):fJ [RR cs ls] = .ok (.lst (GJ cs ls)):=by
 obtain⟨hc,c1,c4⟩:=cA hcs;refine bz rfl ?_
 show ig [.va (RR cs ls),.em,.em,.em,.em,.em,.em,.em,.em,.em,.em,.em] =_
 unfold ig;rw[ar (Z':=[.va (RR cs ls),.ow (.lst []),.em,.em,.em,.em,.em,.em,.em,.em,.em,.em]) (l9 (by simp))]
 obtain⟨y2,y3,y4,y5,y6,y7,e⟩:=xu (RR cs ls) .em .em .em .em cs [] 0 .em .em .em .em .em .em hc (by simp;omega)
 rw[ar ((dm (ts:=ca 0 cs) rfl e))]
 have:=tE (i:=0) hc;obtain⟨y8,y9,y10,y11,e2⟩:=xi (RR cs ls) cs y2 y3 y4 y5 y6 y7 ls ([] ++bC 0 cs) .em .em .em .em hls (by rw[LD];omega)
 rw[ar ((dm (ts:=ls) rfl e2))]
 rfl
theorem rS {l:List T}:(T.tup l).pl=plS l:=by unfold T.pl;rfl
theorem Good.parts {cs ls:List T}(g:Good cs ls):(T.tup cs).pl=true/\∀t∈ls,t.pl=true:=by
 have:=g.p;rw[rS]at this;unfold plS at this;rw[Ku]at this
 have h2:=this.2;unfold plS at h2;rw[Ku,rS]at h2;exact⟨this.1,λt ht=>ld h2.1 ht⟩
theorem r0:m6 "NoRecord" = .ok (dC 0):=by unfold m6;rw[if_pos rfl]
theorem r1:m6 "NoEvent" = .ok (dC 1):=by unfold m6;rw[if_neg (by decide),if_pos rfl]
theorem r2:m6 "NoNumber" = .ok (dC 2):=by unfold m6;rw[if_neg (by decide),if_neg (by decide),if_pos rfl]
def fl2 (t:T):Prop:=t.pl=true/\t.dep<=5
theorem zN (j:Nat):fl2 (dC j):=⟨rfl,by simp[dC,T.dep,deps]⟩
theorem rW {l:List T}{r:Int}(h0:0<=r)(h1:r<l.length):∃t∈l,aW (.lst l) (.int r)= .ok t:=by
 obtain⟨n,rfl⟩:=Lm h0
 have hn:n<l.length:=by omega
 exact⟨l[n],L4 hn,wr hn⟩
theorem xc (j:Nat):mY (dC j) (dC j)= .ok (.bl false):=iB (zN j).1 (by have:=(zN j).2;omega)
theorem EN {t:T}(h:sm 8 t=true):t.pl=true:=D1 t h
abbrev peF:En->Rs Fl:=n8 1 (eG (iR (ac (cl cx (ac (o2 aW (vr 3) (cn (.int 2))) ag)) ag)) [none,some 2] (gN 0) bT (aL (ac (vr 1) (ac (vr 0) ag))))
theorem uA (c0 s1:Sl)(x y:T)(r:List T)(i:Nat)(h:r.length<=4) :
  eG (iR (ac (cl cx (ac (o2 aW (vr 3) (cn (.int 2))) ag)) ag)) [none,some 2] (gN 0) bT (aL (ac (vr 1) (ac (vr 0) ag))) [c0,s1,.va (.int i),.va (.tup [x,y,.tup r])] = .ok (.lst (lG i r.length)):=
 md (yI (j:=(r.length:Int)) rfl (by omega) (by omega)) (aq (k:=4) (by rw[gQ];exact h)) (by simp) λt _=>mk2 _ _
theorem wY:∀(cs:List T) (c0:T) (acc:List T) (i:Nat) (s2 s3:Sl),(∀c∈cs,bO c=true)->acc.length+4*cs.length<=100 →
  ∃y2 y3,a9 evG peF (ca i cs) [.va c0,.ow (.lst acc),s2,s3] = .ok (.nx [.va c0,.ow (.lst (acc++fy i cs)),y2,y3])
 | [],c0,acc,i,s2,s3,_,_=>⟨s2,s3,by simp[ca,a9,fy]⟩
 | c::cs,c0,acc,i,s2,s3,hc,hl=>by
  obtain⟨x,y,r,rfl,r1,r2⟩:=eI (hc c Kr);rw[Kx]at hl
  have st:peF [.va c0,.ow (.lst acc),.va (.int i),.va (.tup [x,y,.tup r])] = .ok (.nx [.va c0,.ow (.lst (acc++lG i r.length)),.va (.int i),.va (.tup [x,y,.tup r])]):=AY (l:=acc) (uA _ _ x y r i r2) rfl (by rw[ir];omega)
  obtain⟨z2,z3,ih⟩:=wY cs c0 (acc++lG i r.length) (i+1) (.va (.int i)) (.va (.tup [x,y,.tup r])) (λc h=>hc c (Ko _ h)) (by rw[Kw,ir];omega)
  refine⟨z2,z3,?_⟩
  rw[ca,cz (Z1:=[.va c0,.ow (.lst acc),.va (.int i),.va (.tup [x,y,.tup r])]) rfl st,ih,fy,KR]
  rfl
theorem Am {cs ls:List T}(g:Good cs ls):dL [RR cs ls] = .ok (.lst (fy 0 cs)):=by
 obtain⟨hc,c1,c4⟩:=cA g.c;refine bz rfl ?_
 show pB [.va (RR cs ls),.em,.em,.em] =_
 unfold pB;rw[ar (kK (t:=.non) (aJ (ts:=[RR cs ls]) rfl (gD g.p g.ok)))];rw[ar (Z':=[.va (RR cs ls),.ow (.lst []),.em,.em]) (l9 (by simp))]
 obtain⟨y2,y3,e⟩:=wY cs (RR cs ls) [] 0 .em .em hc (by simp;omega)
 rw[ar ((dm (ts:=ca 0 cs) rfl e))]
 rfl
theorem nu {cs ls:List T}{t:T}(g:Good cs ls)(ht:t.pl=true)(h:aQ cs t=true):ci [RR cs ls,t] = .ok .non:=by
 refine sO (Z:=[.va (RR cs ls),.va t]) rfl ?_
 show fg [.va (RR cs ls),.va t] =_
 unfold fg;exact(cR ((oZ (k:=true) (bB (aJ (ts:=[.tup cs,t]) rfl (by rw[nF cs t g.c ht,h])))))).trans rfl
theorem uT {cs ls:List T}{t:T}(g:Good cs ls)(ht:t.pl=true)(h:aQ cs t=false):ci [RR cs ls,t] = .err "NoEvent":=by
 refine cX rfl ?_
 show fg [.va (RR cs ls),.va t] =_
 unfold fg;exact(dU ((oZ (k:=false) (bB (aJ (ts:=[.tup cs,t]) rfl (by rw[nF cs t g.c ht,h])))))).trans rfl
theorem qN {g:T->En->Rs En}{F:En->Rs Fl}(J:En->Prop){ts:List T}(h:∀t∈ts,∀Z,J Z->∃Z1 Z2,g t Z= .ok Z1/\F Z1= .ok (.nx Z2)/\J Z2){Z:En}(hj:J Z):∃Z',a9 g F ts Z= .ok (.nx Z')/\J Z':=
 (uX (p:=λ_=>true) J ts (λt ht Z hj=>by
  obtain⟨Z1,Z2,a,b,c⟩:=h t ht Z hj;exact⟨Z1,a,λ_=>⟨Z2,b,c⟩,λh=>by cases h⟩) Z hj).1 (by simp)
theorem p2 {a b:En->Rs T}{t u:T}{Z:En}(ha:a Z= .ok t)(hb:b Z= .ok u):aL (ac a (ac b ag)) Z= .ok (.tup [t,u]):=cy (al ha (al hb rfl)) (aq (k:=2) (by simp))
theorem qy {l:List T}:fU [.lst l] = .ok (.tup l):=rfl
theorem Dx {cs ls:List T}(g:Good cs ls):(GJ cs ls).length<=60:=by
 unfold GJ;rw[Kw];obtain⟨hc,c1,c4⟩:=cA g.c
 have:=tE (i:=0) hc
 have:=xw ls
 have:=g.n;omega
end G
namespace G
open PySem Tr Gr
structure N2 where
 c:Int
 k:Int
deriving DecidableEq
theorem N2.ext':∀{u v:N2},u.c=v.c->u.k=v.k->u=v
 | ⟨_,_⟩,⟨_,_⟩,rfl,rfl=>rfl
def en (v:N2):T:=.tup [.int v.c,.int v.k]
def eB (x:N2×N2×Int):T:=.tup [en x.1,en x.2.1,.int x.2.2]
def eN (ks:List Nat):List T:=ks.map λk=> .int (k:Nat)
def eW (x:Int×List Nat):T:=.tup [.int x.1,.lst (eN x.2)]
def ky (v:N2):List L2.Key:=[.inl v.c,.inl v.k]
theorem bw (v:N2):keyOf (en v)=some (ky v):=rfl
theorem iH {u v:N2}(h:some (ky u)=some (ky v)):u=v:=by
 injection h with h
 injection h with h1 h2
 injection h2 with h2 _
 injection h1 with h1
 injection h2 with h2
 exact N2.ext' h1 h2
theorem Gw {u v:N2}(h:en u=en v):u=v:=iH (by rw[<-bw u,<-bw v,h])
theorem BF (u v:N2):bf (en u) (en v)=decide (u=v):=by
 unfold en bf beqTs bf beqTs beqTs
 by_cases h:u=v
 ·subst h;simp[bf]
 ·have:¬ (u.c=v.c/\u.k=v.k):=λz=>h (N2.ext' z.1 z.2)
  simp[h,bf];exact λz=>λy=>this ⟨z,y⟩
theorem nH (g:N2->T)(v:N2):∀(ns:List N2),kN (ns.map en) (ns.map g) (ky v)=if v∈ns then some (g v)else none
 | [] =>rfl
 | u::ns=>by
  rw[Kp,Kp,kN,bw]
  by_cases h:u=v
  ·subst h;rw[if_pos rfl,if_pos Kr]
  ·rw[if_neg (λz=>h (iH z)),nH g v ns]
   have:(v∈u::ns)↔v∈ns:=by rw[Ky];exact⟨λz=>z.elim (λy=>absurd y.symm h) id,.inr⟩
   simp only[this]
theorem o9 (x:T)(v:N2)(g:N2->T):∀(ns:List N2),v∉ns->gM (en v) x (ns.map en) (ns.map g)=(ns.map en++ [en v],ns.map g++ [x])
 | [],_=>rfl
 | u::ns,h=>by
  rw[Ky,not_or]at h;rw[Kp,Kp,gM,bw,bw,if_neg (λz=>h.1 (iH z).symm),o9 x v g ns h.2]
  rfl
theorem tf (x:T)(v:N2)(g:N2->T):∀(ns:List N2),ns.Nodup->v∈ns->gM (en v) x (ns.map en) (ns.map g)=(ns.map en,ns.map λu=>if u=v then x else g u)
 | [],_,h=>by simp at h
 | u::ns,hn,h=>by
  rw[K0]at hn;rw[Kp,Kp,Kp,gM,bw,bw]
  by_cases z:u=v
  ·subst z
   rw[if_pos rfl,if_pos rfl]
   congr 2
   exact K2 λw hw=>by rw[if_neg (λ(y:w=u)=>hn.1 (y▸hw))]
  ·rw[if_neg (λy=>z (iH y)),if_neg z]
   have h':v∈ns:=(Ky.mp h).elim (λy=>absurd y.symm z) id
   rw[tf x v g ns hn.2 h']
theorem jM {α:Type}[DecidableEq α]:∀{l m:List α},l.Nodup->(∀x∈l,x∈m)->l.length<=m.length
 | [],_,_,_=>LP _
 | x::l,m,hn,h=>by
  rw[K0]at hn
  have hx:=h x Kr
  have:=jM (m:=m.erase x) hn.2 λy hy=>(Qb (λ(z:y=x)=>hn.1 (z▸hy))).mpr (h y (Ko _ hy))
  rw[List.length_erase_of_mem hx]at this
  have:0<m.length:=List.length_pos_of_mem hx;rw[Kx];omega
def oW (o:Option (Int×List Nat)):T:=match o with
 | some x=>eW x
 | none=> .non
structure DR (P ns:List N2)(b:cp N2):Prop where
 nd:ns.Nodup
 mem:∀v,v∈ns↔(b v).isSome=true
 sub:∀v∈ns,v∈P
def dV (ns:List N2)(b:cp N2):List T:=ns.map λv=>oW (b v)
theorem DR.get {P ns:List N2}{b:cp N2}(D:DR P ns b)(v:N2):kN (ns.map en) (dV ns b) (ky v)=(b v).map eW:=by
 unfold dV;rw[nH (λv=>oW (b v))]
 have:=D.mem v
 cases q:b v with
 | none=>rw[q]at this;rw[if_neg (λz=>by simpa using this.mp z)];rfl
 | some x=>rw[q]at this;rw[if_pos (this.mpr rfl)];rfl
theorem DR.put {P ns:List N2}{b:cp N2}(D:DR P ns b){v:N2}(hv:v∈P)(y:Int×List Nat):∃ns',DR P ns' (Gr.put b v y)/\gM (en v) (eW y) (ns.map en) (dV ns b)=(ns'.map en,dV ns' (Gr.put b v y)):=by
 by_cases h:v∈ns
 ·refine⟨ns,⟨D.nd,λu=> ?_,D.sub⟩,?_⟩
  ·by_cases z:u=v
   ·subst z;rw[eV];exact⟨λ_=>rfl,λ_=>h⟩
   ·rw[kE z];exact D.mem u
  ·unfold dV
   rw[tf _ _ _ _ D.nd h]
   congr 1
   refine K2 λu _=> ?_
   by_cases z:u=v
   ·subst z;rw[if_pos rfl,eV];rfl
   ·rw[if_neg z,kE z]
 ·refine⟨ns++ [v],⟨?_,λu=> ?_,λu hu=> ?_⟩,?_⟩
  ·exact LI.mpr ⟨D.nd,by simp,λx hx y hy=>by simp at hy;subst hy;exact λz=>h (z▸hx)⟩
  ·rw[K4,KQ]
   by_cases z:u=v
   ·subst z;rw[eV];exact⟨λ_=>rfl,λ_=> .inr rfl⟩
   ·rw[kE z,<-D.mem u];exact⟨λw=>w.elim id λy=>absurd y z,.inl⟩
  ·rcases K4.mp hu with w | w
   ·exact D.sub u w
   ·rw[KQ.mp w];exact hv
  ·unfold dV
   rw[o9 _ _ _ _ h,K5,K5]
   congr 1
   congr 1
   ·refine K2 λu hu=> ?_
    rw[kE (λ(z:u=v)=>h (z▸hu))]
   ·simp[eV,oW]
theorem Bu {P ns:List N2}{b:cp N2}(D:DR P ns b)(x:N2×N2×Int)(d:Int)(w:List Nat) :
  dJ [.dct (ns.map en) (dV ns b),eB x,eW (d,w)] = .ok (.bl (e9 b x.2.1 (d+x.2.2))):=by
 refine bz rfl ?_
 show jF [.va (.dct (ns.map en) (dV ns b)),.va (eB x),.va (eW (d,w)),.em] =_
 unfold jF
 have g:oD jb (vr 0) (o2 aW (vr 1) (cn (.int 1))) [.va (.dct (ns.map en) (dV ns b)),.va (eB x),.va (eW (d,w)),.em] = .ok (oW (b x.2.1)):=by
  refine Ig (ks:=ns.map en) (vs:=dV ns b) (u:=en x.2.1) rfl rfl ?_
  unfold jb;rw[bw];simp only[D.get];cases b x.2.1 <;> rfl
 rw[ar (bM (t:=oW (b x.2.1)) (Z':=[.va (.dct (ns.map en) (dV ns b)),.va (eB x),.va (eW (d,w)),.va (oW (b x.2.1))]) g rfl)];refine cm ?_
 unfold e9
 cases q:b x.2.1 with
 | none=>exact sP (az (t:=.non) (u:=.non) rfl rfl rfl)
 | some y=>exact(sQ (az (t:=eW y) (u:=.non) rfl rfl rfl)).trans (az (t:=.int (d+x.2.2)) (u:=.int y.1) rfl rfl rfl)
abbrev BQ:En->Rs Fl:=(aw (cq (ln 2 (oD jb (vr 2) (o2 aW (vr 5) (cn (.int 0))))) (gN 6)) (aw (d9 (lR (tb (o2 fE (vr 6) (cn .non))) (dX (F3 2 (tb (cl dJ (ac (vr 2) (ac (vr 5) (ac (vr 6) ag)))))))) D2 sN) (aw (cq (o2 aV (o2 aW (vr 6) (cn (.int 1))) (dq (ac (vr 4) ag))) (gN 7)) (aw (cq (eG (iS (vr 7)) [none,some 0] (gN 0) bT (o2 aW (o2 aW (vr 1) (vr 0)) (cn (.int 0)))) (gN 8)) (aw (d9 (tb (o2 GR (o2 aW (vr 5) (cn (.int 1))) (vr 8))) (aI (aL (ac (cn .non) (ac (sl (vr 7) (pS (oL gU (vr 8) (o2 aW (vr 5) (cn (.int 1))))) pN) ag)))) sN) (aw (yd 2 (o2 aW (vr 5) (cn (.int 1))) (aL (ac (o2 aV (o2 aW (vr 6) (cn (.int 0))) (o2 aW (vr 5) (cn (.int 2)))) (ac (vr 7) ag)))) (cq (cn (.bl true)) (gN 3))))))))
abbrev IS:T->En->Rs En:=gT 2 (dY (gN 4) (dY (gN 5) kQ))
def eL (L:bR N2):T:=.lst (L.map eB)
def zC (L:bR N2)(t:T):T:=match t with
 | .int j=>match L[j.toNat]? with
  | some x=>en x.1
  | none=> .non
 | _=> .non
theorem w9 {L:bR N2}:∀{ks:List Nat} {a b:N2},Ch L a ks b->(eN ks).map (zC L)=(ft L ks).map en
 | [],_,_,_=>rfl
 | k::r,a,b,h=>by
  rw[h.Js];obtain⟨c,m,e,h⟩:=h
  show zC L (.int k)::(eN r).map (zC L)=en a::(ft L r).map en
  rw[w9 h]
  congr 1
  unfold zC;simp only[LH,e]
theorem BI (v:N2):∀(l:List N2),ri (en v) (l.map en)=decide (v∈l)
 | [] =>rfl
 | u::l=>by
  have ih:=BI v l;unfold ri at ih ⊢;rw[Kp,MW,ih,BF]
  by_cases h:u=v
  ·subst h;simp
  ·have h':¬ v=u:=λz=>h z.symm
   simp[h,h']
theorem vg (v:N2):∀(l:List N2) (n:Nat),v∈l->jT (en v) (l.map en) n=some (n+l.idxOf v)
 | [],n,h=>by simp at h
 | u::l,n,h=>by
  rw[Kp,jT,BF,Sm]
  by_cases z:u=v
  ·subst z;simp
  ·have h':v∈l:=(Ky.mp h).elim (λy=>absurd y.symm z) id
   have zb:(u == v)=false:=by rw[beq_eq_false_iff_ne];exact z
   rw[zb,decide_eq_false z,if_neg KO,vg v l (n+1) h'];simp only[cond_false]
   congr 1
   omega
theorem Ea (v:N2):(en v).nd=true:=rfl
theorem sL {α:Type}(f:α->T)(h:∀a,(f a).nd=true):∀l:List α,nds (l.map f)=true
 | [] =>rfl
 | a::l=>by rw[Kp,nds,h a,sL f h l];rfl
theorem BC (v:N2):(en v).dep<=60:=by show(T.tup [.int v.c,.int v.k]).dep<=60;simp[T.dep,deps]
theorem Iq (v:N2)(l:List N2):GR (en v) (.lst (l.map en))= .ok (.bl (decide (v∈l))):=by
 show(if (_\/_)/\_/\(T.lst (l.map en)).nd=true then _ else _)=_
 rw[if_pos ⟨.inl (BC v),rfl,sL en Ea l⟩,BI]
theorem A5 (v:N2)(l:List N2)(h:v∈l):gU (.lst (l.map en)) (en v)= .ok (.int ((l.idxOf v:Nat):Int)):=by
 unfold gU;simp only;rw[if_pos ⟨.inl (BC v),rfl,sL en Ea l⟩,vg v l 0 h,Ry]
theorem GA (p q:List Nat):eN (p++q)=eN p++eN q:=by unfold eN;rw[K5]
theorem Ay (D:Bool):∀ks:List Nat,nks D (eN ks)=true
 | [] =>rfl
 | k::r=>by show nks D (.int k::eN r)=true;unfold nks;rw[Ay D r];rfl
theorem Ch.len {L:bR N2}{ks:List Nat}{a b:N2}(h:Ch L a ks b)(hn:(ft L ks).Nodup):ks.length<=L.length:=by
 have:=jM (h.nodup hn) (m:=Lu L.length) λk hk=>LW.mpr (h.lt k hk)
 rwa [L9]at this
abbrev sE (L:bR N2)(st:T)(o:OT)(b:Bool)(k:Nat)(x:N2×N2×Int)(s6 s7 s8:Sl):En:=[.va (eL L),.va st,.ow o,.va (.bl b),.va (.int k),.va (eB x),s6,s7,s8]
def Eo (L:bR N2)(P ns:List N2)(b:cp N2)(k:Nat)(x:N2×N2×Int)(st:T)(mv:Bool)(s6 s7 s8:Sl):Sum (Option (cp N2)) (List Nat)->Prop
 | .inl none=> ∃s6' s7' s8',BQ (sE L st (.dct (ns.map en) (dV ns b)) mv k x s6 s7 s8)= .ok (.ct (sE L st (.dct (ns.map en) (dV ns b)) mv k x s6' s7' s8'))
 | .inl (some b')=> ∃ns' s6' s7' s8',DR P ns' b'/\BQ (sE L st (.dct (ns.map en) (dV ns b)) mv k x s6 s7 s8)= .ok (.nx (sE L st (.dct (ns'.map en) (dV ns' b')) true k x s6' s7' s8'))
 | .inr q=>BQ (sE L st (.dct (ns.map en) (dV ns b)) mv k x s6 s7 s8)= .ok (.rt (.tup [.non,.lst (eN q)]))
theorem Ce {L:bR N2}{S P ns:List N2}{b:cp N2}{k:Nat}{x:N2×N2×Int}(K:Kept L S b)(D:DR P ns b)(hL:L.length<=500)(hP:P.length<1000)(e:L[k]? =some x)(hx:x.2.1∈P)(st:T)(mv:Bool)(s6 s7 s8:Sl) :
  Eo L P ns b k x st mv s6 s7 s8 (ip L b k x):=by
 obtain⟨a,c,m⟩:=x;unfold Eo
 generalize hks:ns.map en=ks
 generalize hvs:dV ns b=vs
 have get:∀s7 s8,ln 2 (oD jb (vr 2) (o2 aW (vr 5) (cn (.int 0)))) (sE L st (.dct ks vs) mv k (a,c,m) s6 s7 s8)= .ok (oW (b a)):=λs7 s8=>by
  refine C9 (o:=.dct ks vs) rfl (Ig (ks:=ks) (vs:=vs) (u:=en a) rfl rfl ?_) ?_
  ·unfold jb
   rw[bw,<-hks,<-hvs];simp only[D.get];cases b a <;> rfl
  ·cases b a with
   | none=>rfl
   | some y=>show nks true [.int y.1,.lst (eN y.2)] =true;simp[nks,T.nk,Ay]
 have s1:∀G,aw (cq (ln 2 (oD jb (vr 2) (o2 aW (vr 5) (cn (.int 0))))) (gN 6)) G (sE L st (.dct ks vs) mv k (a,c,m) s6 s7 s8)=G (sE L st (.dct ks vs) mv k (a,c,m) (.va (oW (b a))) s7 s8):=λG=>
  ar (bM (t:=oW (b a)) (get s7 s8) rfl)
 cases qa:b a with
 | none=>
  rw[show ip L b k (a,c,m)= .inl none from by unfold ip;simp only[qa]]
  simp only;refine⟨.va .non,s7,s8,?_⟩
  unfold BQ;rw[s1,qa]
  exact AS (dU (F:=D2) (AT (bB (az (t:=.non) (u:=.non) rfl rfl rfl))))
 | some y=>
  obtain⟨d,w⟩:=y
  have bt:∀s7 s8,F3 2 (tb (cl dJ (ac (vr 2) (ac (vr 5) (ac (vr 6) ag))))) (sE L st (.dct ks vs) mv k (a,c,m) (.va (eW (d,w))) s7 s8)= .ok (e9 b c (d+m)):=λs7 s8=>by
   refine Ik (bB (aJ (ts:=[.dct ks vs,eB (a,c,m),eW (d,w)]) rfl ?_))
   rw[<-hks,<-hvs];exact Bu D (a,c,m) d w
  have nn:tb (o2 fE (vr 6) (cn .non)) (sE L st (.dct ks vs) mv k (a,c,m) (.va (eW (d,w))) s7 s8)= .ok false:=bB (az (t:=eW (d,w)) (u:=.non) rfl rfl rfl)
  have cond:=u8 nn (oZ (bt s7 s8))
  have s1':∀G,aw (cq (ln 2 (oD jb (vr 2) (o2 aW (vr 5) (cn (.int 0))))) (gN 6)) G (sE L st (.dct ks vs) mv k (a,c,m) s6 s7 s8)=G (sE L st (.dct ks vs) mv k (a,c,m) (.va (eW (d,w))) s7 s8):=λG=>by rw[s1 G,qa];rfl
  cases hb:e9 b c (d+m)with
  | false=>
   rw[show ip L b k (a,c,m)= .inl none from by unfold ip;simp only[qa,hb];rfl]
   simp only;rw[hb]at cond;refine⟨.va (eW (d,w)),s7,s8,?_⟩
   unfold BQ;rw[s1']
   exact AS (dU (F:=D2) cond)
  | true=>
   rw[hb]at cond;obtain⟨s,hs,h1,h2,h3,h4,h5⟩:=K.walk a d w qa
   have hch:Ch L s (w++ [k]) c:=h1.snoc e
   have hwl:w.length<=500:=K6 (Ch.len h1 h4) hL
   have s2:∀G,aw (d9 (lR (tb (o2 fE (vr 6) (cn .non))) (dX (F3 2 (tb (cl dJ (ac (vr 2) (ac (vr 5) (ac (vr 6) ag)))))))) D2 sN) G (sE L st (.dct ks vs) mv k (a,c,m) (.va (eW (d,w))) s7 s8)=G (sE L st (.dct ks vs) mv k (a,c,m) (.va (eW (d,w))) s7 s8):=λG=>
    ar (Z':=(sE L st (.dct ks vs) mv k (a,c,m) (.va (eW (d,w))) s7 s8)) ((cR (F:=D2) (G:=sN) cond).trans rfl)
   have wk:o2 aV (o2 aW (vr 6) (cn (.int 1))) (dq (ac (vr 4) ag)) (sE L st (.dct ks vs) mv k (a,c,m) (.va (eW (d,w))) s7 s8)= .ok (.lst (eN (w++ [k]))):=by
    refine az (t:=.lst (eN w)) (u:=.lst (eN [k])) rfl (fS (ts:=[.int k]) rfl (aq (k:=1) (by simp))) ?_
    show kx (eN w++eN [k])=_
    rw[<-GA];unfold kx;rw[if_pos (aq (k:=1000) (by unfold eN;rw[Ks,Kw];simp;omega))]
   have s3:∀G,aw (cq (o2 aV (o2 aW (vr 6) (cn (.int 1))) (dq (ac (vr 4) ag))) (gN 7)) G (sE L st (.dct ks vs) mv k (a,c,m) (.va (eW (d,w))) s7 s8)=G (sE L st (.dct ks vs) mv k (a,c,m) (.va (eW (d,w))) (.va (.lst (eN (w++ [k])))) s8):=λG=>ar (bM wk rfl)
   have ps:eG (iS (vr 7)) [none,some 0] (gN 0) bT (o2 aW (o2 aW (vr 1) (vr 0)) (cn (.int 0))) (sE L st (.dct ks vs) mv k (a,c,m) (.va (eW (d,w))) (.va (.lst (eN (w++ [k])))) s8)= .ok (.lst ((ft L (w++ [k])).map en)):=by
    rw[<-w9 hch];refine md (ts:=eN (w++ [k])) (kA rfl) (aq (k:=1000) (by unfold eN;rw[Ks,Kw];simp;omega)) (by simp) λt ht=> ?_
    unfold eN at ht;obtain⟨j,hj,rfl⟩:=KN.mp ht
    have hjl:=hch.lt j hj;refine az (t:=eB L[j]) (u:=.int 0) (AW (l:=L.map eB) (n:=j) rfl rfl (by rw[KP,KD hjl];rfl)) rfl ?_
    unfold zC;simp only[LH,KD hjl]
    rfl
   have s4:∀G,aw (cq (eG (iS (vr 7)) [none,some 0] (gN 0) bT (o2 aW (o2 aW (vr 1) (vr 0)) (cn (.int 0)))) (gN 8)) G (sE L st (.dct ks vs) mv k (a,c,m) (.va (eW (d,w))) (.va (.lst (eN (w++ [k])))) s8)=G (sE L st (.dct ks vs) mv k (a,c,m) (.va (eW (d,w))) (.va (.lst (eN (w++ [k])))) (.va (.lst ((ft L (w++ [k])).map en)))):=λG=>ar (bM ps rfl)
   have inn:tb (o2 GR (o2 aW (vr 5) (cn (.int 1))) (vr 8)) (sE L st (.dct ks vs) mv k (a,c,m) (.va (eW (d,w))) (.va (.lst (eN (w++ [k])))) (.va (.lst ((ft L (w++ [k])).map en))))= .ok (decide (c∈ft L (w++ [k]))):=
    bB (az (t:=en c) (u:=.lst ((ft L (w++ [k])).map en)) rfl rfl (Iq c _))
   by_cases hn:c∈ft L (w++ [k])
   ·rw[show ip L b k (a,c,m)= .inr ((w++ [k]).drop ((ft L (w++ [k])).idxOf c))from by unfold ip;simp only[qa,hb,if_pos hn,if_true]]
    simp only;unfold BQ;rw[s1',s2,s3,s4];rw[decide_eq_true hn]at inn;refine gG ((dU inn).trans (cm ?_))
    have sle:sl (vr 7) (pS (oL gU (vr 8) (o2 aW (vr 5) (cn (.int 1))))) pN (sE L st (.dct ks vs) mv k (a,c,m) (.va (eW (d,w))) (.va (.lst (eN (w++ [k])))) (.va (.lst ((ft L (w++ [k])).map en))))= .ok (.lst (eN ((w++ [k]).drop ((ft L (w++ [k])).idxOf c)))):=by
     rw[xA (l:=eN (w++ [k])) (lo:=some (((ft L (w++ [k])).idxOf c:Nat):Int)) (hi:=none) rfl (C7 (k_oL (ks:=(ft L (w++ [k])).map en) (u:=en c) rfl rfl (A5 c _ hn))) rfl,pd];unfold eN;rw[Pg]
    exact(cy (ts:=[.non,.lst (eN ((w++ [k]).drop ((ft L (w++ [k])).idxOf c)))]) (al rfl (al sle rfl)) (aq (k:=2) (by simp)))
   ·rw[show ip L b k (a,c,m)= .inl (some (Gr.put b c (d+m,w++ [k])))from by unfold ip;simp only[qa,hb,if_neg hn,if_true]]
    simp only;rw[decide_eq_false hn]at inn;obtain⟨ns',D',hd⟩:=D.put hx (d+m,w++ [k]);refine⟨ns',.va (eW (d,w)),.va (.lst (eN (w++ [k]))),.va (.lst ((ft L (w++ [k])).map en)),D',?_⟩
    unfold BQ;rw[s1',s2,s3,s4];rw[ar (Z':=(sE L st (.dct ks vs) mv k (a,c,m) (.va (eW (d,w))) (.va (.lst (eN (w++ [k])))) (.va (.lst ((ft L (w++ [k])).map en))))) ((cR (G:=sN) inn).trans rfl)]
    have pt:yd 2 (o2 aW (vr 5) (cn (.int 1))) (aL (ac (o2 aV (o2 aW (vr 6) (cn (.int 0))) (o2 aW (vr 5) (cn (.int 2)))) (ac (vr 7) ag))) (sE L st (.dct ks vs) mv k (a,c,m) (.va (eW (d,w))) (.va (.lst (eN (w++ [k])))) (.va (.lst ((ft L (w++ [k])).map en))))
      = .ok (.nx (sE L st (.dct (ns'.map en) (dV ns' (Gr.put b c (d+m,w++ [k])))) mv k (a,c,m) (.va (eW (d,w))) (.va (.lst (eN (w++ [k])))) (.va (.lst ((ft L (w++ [k])).map en))))):=by
     have ev:aL (ac (o2 aV (o2 aW (vr 6) (cn (.int 0))) (o2 aW (vr 5) (cn (.int 2)))) (ac (vr 7) ag)) (sE L st (.dct ks vs) mv k (a,c,m) (.va (eW (d,w))) (.va (.lst (eN (w++ [k])))) (.va (.lst ((ft L (w++ [k])).map en))))= .ok (eW (d+m,w++ [k])):=
      cy (ts:=[.int (d+m),.lst (eN (w++ [k]))]) rfl (aq (k:=2) (by simp))
     have ek:o2 aW (vr 5) (cn (.int 1)) (sE L st (.dct ks vs) mv k (a,c,m) (.va (eW (d,w))) (.va (.lst (eN (w++ [k])))) (.va (.lst ((ft L (w++ [k])).map en))))= .ok (en c):=rfl
     show(aL _ _ >>= λv=>o2 aW (vr 5) (cn (.int 1)) _ >>= λkk=>match keyOf kk with | some _=>if ks.length<1000 then Rs.ok (Fl.nx _)else .bad | none=> .bad)=_
     rw[ev,aE,ek,aE,bw]
     have hlen:ks.length<1000:=by rw[<-hks,Ks];exact NL (jM D.nd D.sub) hP
     simp only[if_pos hlen]
     have hd1:gM (en c) (eW (d+m,w++ [k])) ks vs=(ns'.map en,dV ns' (Gr.put b c (d+m,w++ [k]))):=by rw[<-hks,<-hvs];exact hd
     rw[hd1]
     rfl
    rw[ar pt];exact bM (t:=.bl true) rfl rfl
def zf (L:bR N2)(st:T)(ns:List N2)(b:cp N2)(mv:Bool)(s4 s5 s6 s7 s8:Sl):En:=[.va (eL L),.va st,.ow (.dct (ns.map en) (dV ns b)),.va (.bl mv),s4,s5,s6,s7,s8]
def BK (L:bR N2)(P:List N2)(st:T)(X:Rs Fl):Sum (cp N2×Bool) (List Nat)->Prop
 | .inr q=>X= .ok (.rt (.tup [.non,.lst (eN q)]))
 | .inl (b',mv')=> ∃ns' s4 s5 s6 s7 s8,DR P ns' b'/\X= .ok (.nx (zf L st ns' b' mv' s4 s5 s6 s7 s8))
theorem rG {L:bR N2}{S P:List N2}(hL:L.length<=500)(hP:P.length<1000)(hx:∀x∈L,x.2.1∈P)(st:T):∀(r:bR N2) (k:Nat) (b:cp N2) (mv:Bool) (ns:List N2) (s4 s5 s6 s7 s8:Sl),L.drop k=r->Kept L S b->DR P ns b →
  BK L P st (a9 IS BQ (ca k (r.map eB)) (zf L st ns b mv s4 s5 s6 s7 s8)) (iX L k r b mv)
 | [],k,b,mv,ns,s4,s5,s6,s7,s8,_,K,D=>⟨ns,s4,s5,s6,s7,s8,D,rfl⟩
 | x::r,k,b,mv,ns,s4,s5,s6,s7,s8,hr,K,D=>by
  have e:L[k]? =some x:=by
   have:=congrArg (·[0]?) hr
   simpa using this
  have hr':L.drop (k+1)=r:=by
   have:=congrArg (List.drop 1) hr
   simpa [List.drop_drop,Rr]using this
  have tg:IS (.tup [.int k,eB x]) (zf L st ns b mv s4 s5 s6 s7 s8)= .ok [.va (eL L),.va st,.ow (.dct (ns.map en) (dV ns b)),.va (.bl mv),.va (.int k),.va (eB x),s6,s7,s8]:=rfl
  have tn:=Ce K D hL hP e (hx x (Mr e)) st mv s6 s7 s8;rw[iX,Kp,ca]
  cases q:ip L b k x with
  | inr w=>
   rw[q]at tn;simp only;unfold BK
   exact xC tg tn
  | inl o=>
   rw[q]at tn
   cases o with
   | none=>
    obtain⟨s6',s7',s8',tn⟩:=tn;simp only;rw[C8 tg tn]
    exact rG hL hP hx st r (k+1) b mv ns _ _ _ _ _ hr' K D
   | some b'=>
    obtain⟨ns',s6',s7',s8',D',tn⟩:=tn;simp only;rw[cz tg tn];refine rG (S:=S) hL hP hx st r (k+1) b' true ns' _ _ _ _ _ hr' ?_ D'
    -- what is kept stays so
    obtain⟨a,c,m⟩:=x;unfold ip at q
    cases qa:b a with
    | none=>simp only[qa]at q;cases q
    | some y=>
     obtain⟨d,w⟩:=y;simp only[qa]at q
     split at q
     ·rename_i hb
      split at q
      ·cases q
      ·rename_i hn
       cases q;exact K.put e qa hb hn
     ·cases q
abbrev wF:En->Rs Fl:=aw (cq (cn (.bl false)) (gN 3)) (dD (iE (ac (vr 0) ag)) IS BQ)
def SetP (L:bR N2)(P:List N2)(st:T)(X:Rs Fl):Sum (cp N2) (List Nat)->Prop
 | .inr q=>X= .ok (.rt (.tup [.non,.lst (eN q)]))
 | .inl b'=> ∃ns' s4 s5 s6 s7 s8,DR P ns' b'/\X= .ok (.nx (zf L st ns' b' false s4 s5 s6 s7 s8))
theorem ud {L:bR N2}{S P:List N2}(hL:L.length<=500)(hP:P.length<1000)(hx:∀x∈L,x.2.1∈P)(st:T):∀(n:Nat) (b:cp N2) (ns:List N2) (s4 s5 s6 s7 s8:Sl) (r:Sum (cp N2) (List Nat)),Kept L S b->DR P ns b->Gr.settle L n b=some r →
  SetP L P st (b8 (tb (vr 3)) wF (n+1) (zf L st ns b true s4 s5 s6 s7 s8)) r
 | 0,_,_,_,_,_,_,_,_,_,_,h=>by cases h
 | n+1,b,ns,s4,s5,s6,s7,s8,r,K,D,h=>by
  have sw:=rG hL hP hx st L 0 b false ns s4 s5 s6 s7 s8 rfl K D
  have ok:=jg (S:=S) L 0 b false rfl K
  have body:∀X,a9 IS BQ (ca 0 (L.map eB)) (zf L st ns b false s4 s5 s6 s7 s8)= .ok X->wF (zf L st ns b true s4 s5 s6 s7 s8)= .ok X:=λX hX=>by
   show aw _ _ _=_
   rw[ar (Z':=zf L st ns b false s4 s5 s6 s7 s8) (bM (t:=.bl false) rfl rfl)];exact dm (ts:=ca 0 (L.map eB)) (xE rfl) hX
  have tt:tb (vr 3) (zf L st ns b true s4 s5 s6 s7 s8)= .ok true:=rfl;rw[Gr.settle]at h
  revert sw ok h
  generalize iX L 0 L b false=R
  intro h sw ok
  cases R with
  | inr q=>
   simp only at h;cases h
   exact AQ tt (body _ sw)
  | inl p=>
   obtain⟨b',mv'⟩:=p;obtain⟨ns',t4,t5,t6,t7,t8,D',sw⟩:=sw;obtain⟨K',_⟩:=ok
   cases mv' with
   | true=>
    simp only at h
    have ih:=ud hL hP hx st n b' ns' t4 t5 t6 t7 t8 r K' D' h;rw[u7 tt (body _ sw)]
    exact ih
   | false=>
    simp only at h;cases h;refine⟨ns',t4,t5,t6,t7,t8,D',?_⟩
    rw[u7 tt (body _ sw)];exact AR rfl
theorem ix {c:En->Rs Bool}{F:En->Rs Fl}{x:Fl}:∀{n m:Nat} {Z:En},n<=m->b8 c F n Z= .ok x->b8 c F m Z= .ok x
 | 0,_,_,_,h=>by cases h
 | n+1,0,_,hl,_=>absurd hl (by omega)
 | n+1,m+1,Z,hl,h=>by
  unfold b8 at h ⊢
  cases q:c Z with
  | bad=>rw[q]at h;cases h
  | err _=>rw[q]at h;cases h
  | ok k=>
   rw[q]at h
   cases k with
   | false=>exact h
   | true=>
    simp only at h ⊢
    cases q2:F Z with
    | bad=>rw[q2]at h;cases h
    | err _=>rw[q2]at h;cases h
    | ok f=>
     rw[q2]at h
     cases f with
     | nx Z'=>exact ix (by omega) h
     | ct Z'=>exact ix (by omega) h
     | bk Z'=>exact h
     | rt t=>exact h
theorem Aa (w:T):∀S:List N2,GN (S.map λv=> .tup [en v,w])=some (S.map λv=>(en v,w))
 | [] =>rfl
 | v::S=>by rw[Kp,GN,bw,Aa w S];rfl
theorem vk (w:T):∀(S ns:List N2) (g:N2->T),(ns++S).Nodup->(∀v∈S,g v=w)->jz (S.map λv=>(en v,w)) (ns.map en,ns.map g)=((ns++S).map en,(ns++S).map g)
 | [],ns,g,_,_=>by rw[Lc];rfl
 | v::S,ns,g,hn,hg=>by
  have hv:v∉ns:=λz=>by
   rw[LI]at hn;exact hn.2.2 v z v Kr rfl
  rw[Kp,jz,o9 _ _ _ _ hv]
  have e1:ns.map en++ [en v] =(ns++ [v]).map en:=by rw[K5];rfl
  have e2:ns.map g++ [w] =(ns++ [v]).map g:=by rw[K5,<-hg v Kr];rfl
  rw[e1,e2,vk w S (ns++ [v]) g (by rw[KR];exact hn) λu hu=>hg u (Ko _ hu),KR]
  rfl
theorem Do (w:T)(S:List N2)(hn:S.Nodup)(hl:S.length<=1000):xO [.lst (S.map λv=> .tup [en v,w])] = .ok (.dct (S.map en) (S.map λ_=>w)):=by
 unfold xO;simp only[Aa];rw[if_pos (by rw[Ks];exact hl)]
 have:=vk w S [] (λ_=>w) (by simpa using hn) (λ_ _=>rfl)
 rw[LD]at this;rw[show(([]:List T),([]:List T))=(([]:List N2).map en,([]:List N2).map λ_=>w)from rfl,this]
def eS (S:List N2):T:=.lst (S.map en)
def DF (L:bR N2)(P:List N2)(X:Rs T):Sum (cp N2) (List Nat)->Prop
 | .inr q=>X= .ok (.tup [.non,.lst (eN q)])
 | .inl b'=> ∃ns',DR P ns' b'/\X= .ok (.tup [.dct (ns'.map en) (dV ns' b'),.non])
structure DJ (L:bR N2)(P:List N2):Prop where
 len:L.length<=500
 size:size L<=100000000
 ends:∀x∈L,x.1∈P/\x.2.1∈P
 pl:P.length<1000
def SOk (L:bR N2)(S:List N2):Sum (cp N2) (List Nat)->Prop
 | .inr q=>Bar L q
 | .inl b'=>Settled L S b'
theorem o8 {L:bR N2}{S P:List N2}(F:DJ L P)(hS:S.Nodup)(hSP:∀v∈S,v∈P):∃r,DF L P (fP [eL L,eS S]) r/\SOk L S r:=by
 have bound:L.length*(2*size L+1)<1000000000000 - 1:=by
  have h1:=F.len
  have h2:=F.size
  have:L.length*(2*size L+1)<=500*(2*100000000+1):=Nat.mul_le_mul h1 (by omega)
  omega
 obtain⟨r,hr,ok⟩:=vO L S bound
 have ok':SOk L S r:=by cases r <;> exact ok
 refine⟨r,?_,ok'⟩
 have hSl:S.length<=1000:=K6 (jM hS hSP) (by have:=F.pl;omega)
 have D0:DR P S (Gr.start S):=⟨hS,λv=>by unfold Gr.start;by_cases h:v∈S <;> simp[h],hSP⟩
 have dv0:dV S (Gr.start S)=S.map λ_=>eW (0,[]):=K2 λv hv=>by unfold Gr.start;rw[if_pos hv];rfl
 have w:=ud F.len F.pl (λx hx=>(F.ends x hx).2) (eS S) _ (Gr.start S) S .em .em .em .em .em r (oY L S) D0 hr
 have lc:eG (iS (vr 1)) [none] (gN 0) bT (aL (ac (vr 0) (ac (aL (ac (cn (.int 0)) (ac (dq ag) ag))) ag))) [.va (eL L),.va (eS S),.em,.em,.em,.em,.em,.em,.em] = .ok (.lst (S.map λv=> .tup [en v,eW (0,[])])):=by
  have:=md (fi:=iS (vr 1)) (src:=[none]) (fe:=aL (ac (vr 0) (ac (aL (ac (cn (.int 0)) (ac (dq ag) ag))) ag))) (h:=λt=> .tup [t,eW (0,[])]) (Z:=[.va (eL L),.va (eS S),.em,.em,.em,.em,.em,.em,.em]) (ts:=S.map en) (kA rfl) (aq (k:=1000) (by rw[Ks];exact hSl)) (by simp) λt _=>
   cy (ts:=[t,eW (0,[])]) (al rfl (al (cy (ts:=[.int 0,.lst []]) (al rfl (al (fS (ts:=[]) rfl (LP _)) rfl)) (aq (k:=2) (by simp))) rfl)) (aq (k:=2) (by simp))
  rw[this,Ll];rfl
 have n0:qE 2 (eG (iS (vr 1)) [none] (gN 0) bT (aL (ac (vr 0) (ac (aL (ac (cn (.int 0)) (ac (dq ag) ag))) ag)))) [.va (eL L),.va (eS S),.em,.em,.em,.em,.em,.em,.em] = .ok (.nx [.va (eL L),.va (eS S),.ow (.dct (S.map en) (dV S (Gr.start S))),.em,.em,.em,.em,.em,.em]):=by
  unfold qE;rw[lc,aE,Do _ S hS hSl,aE,dv0]
  rfl
 have main:∀G X,b8 (tb (vr 3)) wF FU (zf L (eS S) S (Gr.start S) true .em .em .em .em .em)= .ok X->jD [.va (eL L),.va (eS S),.em,.em,.em,.em,.em,.em,.em] =G->(aw (b8 (tb (vr 3)) wF FU) (k8 2 (aI (aL (ac (vr 2) (ac (cn .non) ag)))))) (zf L (eS S) S (Gr.start S) true .em .em .em .em .em)=G:=λG X _ h=>by
  rw[<-h];unfold jD;rw[ar n0,ar (Z':=zf L (eS S) S (Gr.start S) true .em .em .em .em .em) (bM (t:=.bl true) rfl rfl)]
 cases r with
 | inr q=>
  have w':=ix (m:=FU) (by unfold FU;omega) w
  refine bz rfl ?_
  show jD [.va (eL L),.va (eS S),.em,.em,.em,.em,.em,.em,.em] =_
  rw[<-main _ _ w' rfl]
  exact gG w'
 | inl b'=>
  obtain⟨ns',s4,s5,s6,s7,s8,D',w⟩:=w
  have w':=ix (m:=FU) (by unfold FU;omega) w
  refine⟨ns',D',bz rfl ?_⟩
  show jD [.va (eL L),.va (eS S),.em,.em,.em,.em,.em,.em,.em] =_
  rw[<-main _ _ w' rfl,ar w'];exact xF (cm (cy (ts:=[.dct (ns'.map en) (dV ns' b'),.non]) rfl (aq (k:=2) (by simp))))
theorem oR {α:Type}{f:α->T}{p:α->Prop}:∀{l:List T},(∀t∈l,∃x,t=f x/\p x)->∃L:List α,l=L.map f/\∀x∈L,p x
 | [],_=>⟨[],rfl,λ_ h=>nomatch h⟩
 | t::l,h=>by
  obtain⟨x,e,hx⟩:=h t Kr;obtain⟨L,e2,h2⟩:=oR (l:=l) λu hu=>h u (Ko _ hu)
  exact⟨x::L,by rw[e,e2];rfl,λy hy=>(Ky.mp hy).elim (λz=>z▸hx) (h2 y)⟩
theorem wB {t:T}(h:bO t=true):∃(x y:Int) (r:List Int),t= .tup [.int x,.int y,.tup (r.map .int)]/\(0<=x/\x<=9)/\(0<=y/\y<=9)/\∀k,0<=r.getD k 0/\r.getD k 0<=99:=by
 obtain⟨x,y,r,rfl,h1,h2,h3,h4⟩:=iJ h;refine⟨x,y,r,rfl,h1,h2,λk=> ?_⟩
 have h':(pO (.int x) (.int y)&&dB (.tup (r.map .int)))=true:=h;rw[Ku]at h'
 have hr:=h'.2;unfold dB at hr;rw[Ku]at hr
 have hr2:(((r.map T.int).all λu=>bD u 0 99)&&(match nums (r.map .int)with | some m=>pC m | none=>false))=true:=hr.2
 rw[Ku]at hr2
 by_cases hk:k<r.length
 ·have:=KY.mp hr2.1 (.int r[k]) (KN.mpr ⟨_,L4 hk,rfl⟩)
  obtain⟨i,e,a,b⟩:=eh this;cases e;simp[hk];exact⟨a,b⟩
 ·simp[hk]
theorem xg {cs:List T}{i:Nat}:∀{cs0:List T} {c k:Nat},i<=c->c<i+cs0.length->k<EZ (cs0.getD (c - i) .non)->T.tup [.int c,.int k] ∈fy i cs0:=by
 intro cs0
 induction cs0 generalizing i with
 | nil=>intro c k h1 h2;simp at h2;omega
 | cons a r ih=>
  intro c k h1 h2 h3;rw[fy,K4]
  by_cases e:c=i
  ·subst e
   rw[PQ]at h3
   have h3':k<EZ a:=h3;exact .inl (KN.mpr ⟨.int k,C1 h3',rfl⟩)
  ·refine .inr (ih (by omega) (by rw[Kx]at h2;omega) ?_)
   rw[show c - i=(c - (i+1))+1 by omega]at h3
   exact h3
theorem qV {cs:List T}{t:T}(h:aQ cs t=true):t∈fy 0 cs:=by
 obtain⟨c,k,rfl⟩:=fT h;unfold aQ at h;simp only[Ku,decide_eq_true_eq]at h;obtain⟨⟨h1,h2⟩,h3,h4⟩:=h;obtain⟨c,rfl⟩:=Lm h1;obtain⟨k,rfl⟩:=Lm h3;rw[qG]at h4;exact xg (cs:=cs) (LP _) (by omega) (by rw[OR];omega)
theorem Bm {cs:List T}{t:T}(h:t∈fy 0 cs):∃v:N2,t=en v/\True:=by
 obtain⟨c,k,rfl,_⟩:=lr cs 0 h;exact⟨⟨c,k⟩,rfl,trivial⟩
def big (x:N2×N2×Int):Prop:=x.2.2.natAbs<=999
theorem qL {a b:Int}(ha : -99<=a/\a<=99)(hb:0<=b/\b<=9):(a*b).natAbs<=999:=by
 rw[Int.natAbs_mul]
 have h1:a.natAbs<=99:=by omega
 have h2:b.natAbs<=9:=by omega
 exact K6 (Nat.mul_le_mul h1 h2) (by decide)
theorem Ek {cs0:List T}:∀{cs:List T} {i:Nat},(∀c∈cs,bO c=true)->(∀c k:Nat,i<=c->c<i+cs.length->k<EZ (cs.getD (c - i) .non)->T.tup [.int c,.int k] ∈fy 0 cs0) →
  ∀t∈bC i cs,∃x,t=eB x/\(en x.1∈fy 0 cs0/\en x.2.1∈fy 0 cs0/\big x)
 | [],_,_,_,t,h=>by simp[bC]at h
 | c::cs,i,hc,hm,t,h=>by
  rw[bC,K4]at h;rcases h with h | h
  ·obtain⟨x,y,r,rfl,hx,hy,hr⟩:=wB (hc c Kr)
   have hm0:∀k,k<r.length->T.tup [.int i,.int k] ∈fy 0 cs0:=λk hk=>hm i k (KB _) (by simp) (by rw[PQ];show k<(r.map T.int).length;rw[Ks];exact hk)
   rw[qv]at h;unfold cB at h;obtain⟨k,hk,hp⟩:=Pr.mp h
   have hk:=LW.mp hk
   have d : -99<=dr r k/\dr r k<=99:=by have:=hr k;have:=hr (k+1);unfold dr;omega
   unfold pr at hp;simp only[Ky,Lw,or_false]at hp;rcases hp with rfl | rfl
   ·exact⟨(⟨i,k⟩,⟨i,((k+1:Nat):Int)⟩,dr r k*y),rfl,hm0 k (by omega),hm0 (k+1) (by omega),qL d hy⟩
   ·exact⟨(⟨i,((k+1:Nat):Int)⟩,⟨i,k⟩,-dr r k*x),rfl,hm0 (k+1) (by omega),hm0 k (by omega),qL (by omega) hx⟩
  ·exact Ek (cs:=cs) (i:=i+1) (λc h=>hc c (Ko _ h)) (λc k h1 h2 h3=>hm c k (by omega) (by rw[Kx];omega) (by rw[show c - i=(c - (i+1))+1 by omega];exact h3)) t h
theorem Ia {cs:List T}{u:T}(hu:bQ cs u=true):∀t∈lB u,∃x,t=eB x/\(en x.1∈fy 0 cs/\en x.2.1∈fy 0 cs/\big x):=by
 intro t ht;obtain⟨a,b,x,y,rfl,hd,ha,hb,_⟩:=ly hu
 have ma:=qV ha
 have mb:=qV hb;obtain⟨va,rfl,_⟩:=Bm ma;obtain⟨vb,rfl,_⟩:=Bm mb;unfold fK at hd;rw[Ku]at hd;obtain⟨i,rfl,i1,i2⟩:=eh hd.1
 have e2:lB (.tup [en va,en vb,.int i,y])= .tup [en vb,en va,.int (-i)] ::(if y.isN then []else [.tup [en va,en vb,y]]):=rfl
 rw[e2]at ht;rcases Ky.mp ht with rfl | ht
 ·exact⟨(vb,va,-i),rfl,mb,ma,by unfold big;simp only;omega⟩
 ·cases q:y.isN with
  | true=>rw[q]at ht;simp at ht
  | false=>
   rw[q]at ht
   have ht:t= .tup [en va,en vb,y]:=by simpa using ht
   have hw:bD y i 999=true:=by
    cases y with
    | non=>cases q
    | _=>exact hd.2
   obtain⟨j,rfl,j1,j2⟩:=eh hw;exact⟨(va,vb,j),ht,ma,mb,by unfold big;simp only;omega⟩
structure Rd (cs ls:List T)(L:bR N2)(P:List N2):Prop where
 g:Good cs ls
 b:GJ cs ls=L.map eB
 e:fy 0 cs=P.map en
 f:DJ L P
 nd:P.Nodup
 pl:P.length<=16
 ll:L.length<=60
 bg:∀x∈L,big x
theorem wP {L:bR N2}(h:∀x∈L,big x):size L<=999*L.length:=by
 unfold size
 induction L with
 | nil=>simp
 | cons x L ih=>
  rw[Kp,Mg,Kx]
  have:=ih λy hy=>h y (Ko _ hy)
  have:=h x Kr;unfold big at this;omega
theorem Av {P:List N2}(h:(P.map en).Nodup):P.Nodup:=by
 induction P with
 | nil=>exact ML
 | cons a r ih=>
  rw[Kp,K0]at h;exact K0.mpr ⟨λz=>h.1 (KN.mpr ⟨a,z,rfl⟩),ih h.2⟩
theorem wT {cs ls:List T}(g:Good cs ls):∃L P,Rd cs ls L P:=by
 obtain⟨hc,c1,c4⟩:=cA g.c;obtain⟨P,eP,_⟩:=oR (f:=en) (p:=λ_=>True) (l:=fy 0 cs) λt ht=>Bm ht
 have key:∀t∈GJ cs ls,∃x,t=eB x/\(en x.1∈fy 0 cs/\en x.2.1∈fy 0 cs/\big x):=λt ht=>by
  unfold GJ at ht;rw[K4]at ht;rcases ht with h | h
  ·exact Ek hc (λc k h1 h2 h3=>xg (cs:=cs) h1 h2 h3) t h
  ·obtain⟨u,hu,h⟩:=Pr.mp h
   exact Ia (g.l u hu) t h
 obtain⟨L,eL,hL⟩:=oR key
 have mem:∀v:N2,en v∈fy 0 cs->v∈P:=λv hv=>by
  rw[eP]at hv;obtain⟨u,hu,e⟩:=KN.mp hv;rw[<-Gw e];exact hu
 have hl:=Dx g;rw[eL,Ks]at hl
 have hp:=sZ cs 0 hc;rw[eP,Ks]at hp
 have hs:=wP λx hx=>(hL x hx).2.2
 exact⟨L,P,g,eL,eP,⟨by omega,by omega,λx hx=>⟨mem _ (hL x hx).1,mem _ (hL x hx).2.1⟩,by omega⟩,Av (eP▸lV cs 0),by omega,hl,λx hx=>(hL x hx).2.2⟩
theorem vZ {l:List T}:(T.lst l).pl=plS l:=by unfold T.pl;rfl
def run (L:bR N2):N2->List Nat->Option N2
 | a,[] =>some a
 | a,k::r=>match L[k]? with
  | some x=>if x.1=a then run L x.2.1 r else none
  | none=>none
theorem jK (f:Nat->Int):∀ks:List Nat,lj (ks.map λk=>T.int (f k))=some (ks.map f)
 | [] =>rfl
 | k::ks=>by rw[Kp,lj,jK f ks];rfl
section
variable {cs ls:List T}{L:bR N2}{P:List N2}
theorem Rd.ev (R:Rd cs ls L P){v:N2}(h:v∈P):aQ cs (en v)=true:=Bk (by rw[R.e];exact KN.mpr ⟨v,h,rfl⟩)
theorem Rd.bounds (R:Rd cs ls L P):dM [RR cs ls] = .ok (eL L):=by rw[Bt R.g,R.b];rfl
theorem Rd.JP (R:Rd cs ls L P){a b:N2}(ha:a∈P)(hb:b∈P):bV [RR cs ls,en a,en b] = .ok .non:=by
 refine sO (Z:=[.va (RR cs ls),.va (en a),.va (en b)]) rfl ?_
 show bX [.va (RR cs ls),.va (en a),.va (en b)] =_
 unfold bX;rw[ar (kK (t:=.non) (aJ (ts:=[RR cs ls]) rfl (gD R.g.p R.g.ok)))];rw[ar (kK (t:=.non) (aJ (ts:=[RR cs ls,en a]) rfl (nu R.g rfl (R.ev ha))))];exact kK (t:=.non) (aJ (ts:=[RR cs ls,en b]) rfl (nu R.g rfl (R.ev hb)))
end
section
variable {cs ls:List T}{L:bR N2}{P:List N2}
theorem Rd.events (R:Rd cs ls L P):dL [RR cs ls] = .ok (eS P):=by rw[Am R.g,R.e];rfl
theorem tj {ns:List N2}{b:cp N2}(D:DR P ns b){v:N2}{x:Int×List Nat}(e:b v=some x):bu (.dct (ns.map en) (dV ns b)) (en v)= .ok (eW x):=by
 unfold bu;simp only[bw];rw[D.get,e];rfl
theorem BA {ns:List N2}{b:cp N2}(D:DR P ns b)(v:N2):BB (en v) (.dct (ns.map en) (dV ns b))= .ok (.bl (b v).isSome):=by
 unfold BB;simp only[bw];rw[D.get];cases b v <;> rfl
def tmT (P:List N2)(t:N2->Int):T:=.tup (P.map λv=> .int (t v))
def DO (b:cp N2)(v:N2):Int:=match b v with
 | some x=>x.1
 | none=>0
def atT (t:N2->Int)(u:T):T:=match u with
 | .tup [.int c,.int k] => .int (t ⟨c,k⟩)
 | _=> .non
theorem Rd.Ke (R:Rd cs ls L P):(¬cC L/\iD [(RR cs ls)] = .ok .non)\/(cC L/\∃t b,Settled L P b/\(∀v∈P,∃w,b v=some (t v,w))/\iD [(RR cs ls)] = .ok (tmT P t)):=by
 obtain⟨r,hr,ok⟩:=o8 R.f R.nd (λv h=>h)
 have wrap:∀{w:T},br [(RR cs ls),eL L] = .ok w->iD [(RR cs ls)] = .ok w:=λ{w} e=>bz rfl (cm (aJ (ts:=[(RR cs ls),eL L]) (al rfl (al (aJ (ts:=[(RR cs ls)]) rfl R.bounds) rfl)) e))
 have begin_:∀{x z:T} {y:Rs Fl},fP [eL L,eS P] = .ok (.tup [x,z])->((aw (d9 (tb (o2 fE (vr 3) (cn .non))) (aI (cn .non)) sN) (aI (cl fU (ac (eG (iS (vr 2)) [none,some 3] (gN 0) bT (o2 aW (o2 bu (vr 1) (vr 0)) (cn (.int 0)))) ag)))) [.va (RR cs ls),.va (eL L),.va (eS P),.va x] =y)->cZ [.va (RR cs ls),.va (eL L),.em,.em] =y:=λ{x z y} hs hy=>by
  unfold cZ;rw[ar (Z':=[.va (RR cs ls),.va (eL L),.va (eS P),.em]) (bM (aJ (ts:=[(RR cs ls)]) rfl R.events) rfl)];rw[ar (Z':=[.va (RR cs ls),.va (eL L),.va (eS P),.va x]) (bM (az (u:=.int 0) (aJ (ts:=[eL L,eS P]) rfl hs) rfl rfl) rfl)];exact hy
 cases r with
 | inr q=>exact .inl ⟨λn=>absurd n (Bar.neg ok),wrap (bz rfl (begin_ hr (gG ((dU (bB (az (t:=.non) (u:=.non) rfl rfl rfl))).trans rfl))))⟩
 | inl b=>
  obtain⟨ns,D,hr⟩:=hr
  have ok:Settled L P b:=ok
  have htm:∀v∈P,∃w,b v=some (DO b v,w):=λv hv=>by
   obtain⟨d,w,e,_⟩:=ok.least v hv v 0 (.nil v);exact⟨w,by unfold DO;rw[e]⟩
  refine .inr ⟨(ok.holds R.f.ends htm).JL,DO b,b,ok,htm,wrap (bz rfl (begin_ hr ?_))⟩
  generalize DO b=tm at htm
  have lc:eG (iS (vr 2)) [none,some 3] (gN 0) bT (o2 aW (o2 bu (vr 1) (vr 0)) (cn (.int 0))) [.va (RR cs ls),.va (eL L),.va (eS P),.va (.dct (ns.map en) (dV ns b))] = .ok (.lst ((P.map en).map (atT tm))):=
   md (ts:=P.map en) (kA rfl) (aq (k:=16) (by rw[Ks];exact R.pl)) (by simp) λt ht=>by
    obtain⟨v,hv,rfl⟩:=KN.mp ht;obtain⟨w,e⟩:=htm v hv;exact az (t:=eW (tm v,w)) (u:=.int 0) (az (t:=.dct (ns.map en) (dV ns b)) (u:=en v) rfl rfl (tj D e)) rfl rfl
  rw[Ll]at lc;rw[ar (Z':=[.va (RR cs ls),.va (eL L),.va (eS P),.va (.dct (ns.map en) (dV ns b))]) ((cR (bB (az (t:=.dct (ns.map en) (dV ns b)) (u:=.non) rfl rfl rfl))).trans rfl)];exact cm (aJ (al lc rfl) rfl)
theorem Rd.J8 (R:Rd cs ls L P):∃hw:Bool,fQ [(RR cs ls)] = .ok (.bl hw)/\(hw=true↔cC L):=by
 rcases R.Ke with⟨n,e⟩ | ⟨n,t,b,_,_,e⟩
 ·exact⟨false,bz rfl (cm (az (t:=.non) (u:=.non) (aJ (ts:=[(RR cs ls)]) rfl e) rfl rfl)),λz=>(by cases z),λz=>absurd z n⟩
 ·exact⟨true,bz rfl (cm (az (t:=tmT P t) (u:=.non) (aJ (ts:=[(RR cs ls)]) rfl e) rfl rfl)),λ_=>n,λ_=>rfl⟩
theorem Rd.JW (R:Rd cs ls L P)(n:cC L):bU [RR cs ls] = .ok .non:=by
 obtain⟨hw,e,i⟩:=R.J8;rw[i.mpr n]at e;refine sO (Z:=[.va (RR cs ls)]) rfl ?_
 show dg [.va (RR cs ls)] =_
 unfold dg;exact(cR (oZ (k:=true) (bB (aJ (ts:=[RR cs ls]) rfl e)))).trans rfl
theorem Rd.from_ (R:Rd cs ls L P)(n:cC L){a:N2}(ha:a∈P):∃b ns,Settled L [a] b/\DR P ns b/\c9 [RR cs ls,en a] = .ok (.dct (ns.map en) (dV ns b)):=by
 obtain⟨r,hr,ok⟩:=o8 (S:=[a]) R.f (by simp) (λv h=>by rw[KQ.mp h];exact ha)
 cases r with
 | inr q=>exact absurd n (Bar.neg ok)
 | inl b=>
  obtain⟨ns,D,hr⟩:=hr;refine⟨b,ns,ok,D,bz rfl (cm (az (u:=.int 0) (aJ (ts:=[eL L,eS [a]]) (al (aJ (ts:=[RR cs ls]) rfl R.bounds) (al (fS (ts:=[en a]) rfl (aq (k:=1) (by simp))) rfl)) hr) rfl rfl))⟩
def AD (o:Option (Int×List Nat)):T:=match o with
 | some x=> .int x.1
 | none=> .non
theorem Rd.Kj (R:Rd cs ls L P)(n:cC L){a c:N2}(ha:a∈P)(hc:c∈P):∃b,Settled L [a] b/\aM [RR cs ls,en a,en c] = .ok (AD (b c)):=by
 obtain⟨b,ns,S,D,e⟩:=R.from_ n ha;refine⟨b,S,bz rfl ?_⟩
 show cE [.va (RR cs ls),.va (en a),.va (en c)] =_
 unfold cE;rw[ar (kK (t:=.non) (aJ (ts:=[RR cs ls,en a,en c]) rfl (R.JP ha hc)))];rw[ar (kK (t:=.non) (aJ (ts:=[RR cs ls]) rfl (R.JW n)))];refine cm (aJ (ts:=[.dct (ns.map en) (dV ns b),en c]) (al (aJ (ts:=[RR cs ls,en a]) rfl e) rfl) (bz rfl ?_))
 refine cm ((ja (p:=(b c).isSome) (bB (az (t:=en c) (u:=.dct (ns.map en) (dV ns b)) rfl rfl (BA D c)))).trans ?_)
 cases q:b c with
 | none=>rfl
 | some x=>exact az (t:=eW x) (u:=.int 0) (az (t:=.dct (ns.map en) (dV ns b)) (u:=en c) rfl rfl (tj D q)) rfl rfl
end
def oI (o:Option Int):T:=match o with
 | some x=> .int x
 | none=> .non
def rowsT (P:List N2)(f:cY N2):List (List T×List T):=P.map λu=>(P.map en,P.map λv=>oI (f u v))
def fz (P:List N2)(f:cY N2):T:=.dct (P.map en) (P.map λu=> .dct (P.map en) (P.map λv=>oI (f u v)))
abbrev iz (P:List N2)(L:bR N2)(f:cY N2)(s3 s4 s5 s6 s7:Sl):En:=[.va (eS P),.va (eL L),.ow (.dd (P.map en) (rowsT P f)),s3,s4,s5,s6,s7]
abbrev ED (P:List N2)(L:bR N2)(f:cY N2)(s3 s4 s5 s6 s7:Sl):En:=[.va (eS P),.va (eL L),.va (fz P f),s3,s4,s5,s6,s7]
section
variable {P:List N2}{L:bR N2}{f:cY N2}
theorem wy (s3 s4 s5 s6 s7:Sl):disown 2 (iz P L f s3 s4 s5 s6 s7)=ED P L f s3 s4 s5 s6 s7:=by
 show [Sl.va (eS P),.va (eL L),.va (OT.view (.dd (P.map en) (rowsT P f))),s3,s4,s5,s6,s7] =_
 have e:OT.view (.dd (P.map en) (rowsT P f))=fz P f:=by
  show T.dct (P.map en) ((rowsT P f).map λr=>T.dct r.1 r.2)=_
  unfold rowsT fz;rw[Ll]
  rfl
 rw[e]
theorem rA {u v:N2}{a b c:En->Rs T}{Z:En}(hc:c Z= .ok (fz P f))(ha:a Z= .ok (en u))(hb:b Z= .ok (en v))(hu:u∈P)(hv:v∈P):o2 bu (o2 bu c a) b Z= .ok (oI (f u v)):=by
 refine az (t:=.dct (P.map en) (P.map λw=>oI (f u w))) (u:=en v) (az (t:=fz P f) (u:=en u) hc ha ?_) hb ?_
 ·show(match kN (P.map en) (P.map λu=>T.dct (P.map en) (P.map λv=>oI (f u v))) (ky u)with | some t=>Rs.ok t | none=> .bad)=_
  rw[nH (λu=>T.dct (P.map en) (P.map λv=>oI (f u v))),if_pos hu]
 ·show(match kN (P.map en) (P.map λw=>oI (f u w)) (ky v)with | some t=>Rs.ok t | none=> .bad)=_
  rw[nH (λw=>oI (f u w)),if_pos hv]
theorem AG {u v:N2}{a b:En->Rs T}{s3 s4 s5 s6 s7:Sl}(ha:a (ED P L f s3 s4 s5 s6 s7)= .ok (en u))(hb:b (ED P L f s3 s4 s5 s6 s7)= .ok (en v))(hu:u∈P)(hv:v∈P):ln 2 (o2 bu (o2 bu (vr 2) a) b) (iz P L f s3 s4 s5 s6 s7)= .ok (oI (f u v)):=
 C9 (o:=.dd (P.map en) (rowsT P f)) rfl (by rw[wy];exact rA rfl ha hb hu hv) (by cases f u v <;> rfl)
theorem zL (g:N2->List T×List T)(u:N2):∀(Q:List N2),u∈Q->pM (Q.map en) (Q.map g) (ky u)=some (g u)
 | w::Q,h=>by
  rw[Kp,Kp,pM,bw]
  by_cases e:w=u
  ·subst e;rw[if_pos rfl]
  ·rw[if_neg (λz=>e (iH z)),zL g u Q ((Ky.mp h).elim (λz=>absurd z.symm e) id)]
theorem zI (g:N2->List T×List T)(u:N2)(x:List T×List T):∀(Q:List N2),Q.Nodup->pL (ky u) x (Q.map en) (Q.map g)=Q.map λw=>if w=u then x else g w
 | [],_=>rfl
 | w::Q,h=>by
  rw[K0]at h;rw[Kp,Kp,pL,bw,Kp]
  by_cases e:w=u
  ·subst e
   rw[if_pos rfl,if_pos rfl]
   congr 1
   exact K2 λz hz=>by rw[if_neg (λ(y:z=w)=>h.1 (y▸hz))]
  ·rw[if_neg (λz=>e (iH z)),if_neg e,zI g u x Q h.2]
theorem zX (nd:P.Nodup)(pl:P.length<1000){u v:N2}{x:Int}{a b c:En->Rs T}{s3 s4 s5 s6 s7:Sl}(ha:a (iz P L f s3 s4 s5 s6 s7)= .ok (en u))(hb:b (iz P L f s3 s4 s5 s6 s7)= .ok (en v))(hc:c (iz P L f s3 s4 s5 s6 s7)= .ok (.int x))(hu:u∈P)(hv:v∈P) :
  i6 2 a b c (iz P L f s3 s4 s5 s6 s7)= .ok (.nx (iz P L (jx f u v x) s3 s4 s5 s6 s7)):=by
 unfold i6
 show(c (iz P L f s3 s4 s5 s6 s7) >>= λw=>a (iz P L f s3 s4 s5 s6 s7) >>= λz=>match(keyOf z).bind λka=>(pM (P.map en) (rowsT P f) ka).map λr=>(ka,r)with
  | some (ka,r)=>b (iz P L f s3 s4 s5 s6 s7) >>= λy=>if (keyOf y).isSome=true/\r.1.length<1000 then Rs.ok (Fl.nx ((iz P L f s3 s4 s5 s6 s7).set 2 (.ow (.dd (P.map en) (pL ka (gM y w r.1 r.2) (P.map en) (rowsT P f))))))else .bad
  | none=> .bad)=_
 rw[hc,aE,ha,aE,bw]
 have e1:pM (P.map en) (rowsT P f) (ky u)=some (P.map en,P.map λv=>oI (f u v)):=zL (λu=>(P.map en,P.map λv=>oI (f u v))) u P hu
 simp only[Option.bind_some,e1,Sk];rw[hb,aE,bw,if_pos ⟨rfl,by rw[Ks];exact pl⟩,tf (.int x) v (λv=>oI (f u v)) P nd hv]
 have e2:=zI (λu=>(P.map en,P.map λv=>oI (f u v))) u (P.map en,P.map λw=>if w=v then T.int x else oI (f u w)) P nd
 have e3:(P.map λw=>if w=u then(P.map en,P.map λw=>if w=v then T.int x else oI (f u w))else(P.map en,P.map λv=>oI (f w v)))=rowsT P (jx f u v x):=by
  unfold rowsT jx;refine K2 λw _=> ?_
  by_cases e:w=u
  ·subst e
   rw[if_pos rfl]
   congr 1
   refine K2 λz _=> ?_
   by_cases h:z=v
   ·rw[if_pos h,if_pos ⟨rfl,h⟩];rfl
   ·rw[if_neg h,if_neg (λq=>h q.2)]
  ·rw[if_neg e]
   congr 1
   exact K2 λz _=>by rw[if_neg (λq=>e q.1)]
 show Rs.ok (Fl.nx [.va (eS P),.va (eL L),.ow (.dd (P.map en) (pL (ky u) (P.map en,P.map λw=>if w=v then T.int x else oI (f u w)) (P.map en) (rowsT P f))),s3,s4,s5,s6,s7])=_
 rw[show pL (ky u) (P.map en,P.map λw=>if w=v then T.int x else oI (f u w)) (P.map en) (rowsT P f)=rowsT P (jx f u v x)from e2.trans e3]
theorem A6 (nd:P.Nodup)(pl:P.length<1000){u v:N2}{x:Int}{a b c:En->Rs T}{s3 s4 s5 s6 s7:Sl}(ha:a (iz P L f s3 s4 s5 s6 s7)= .ok (en u))(hb:b (iz P L f s3 s4 s5 s6 s7)= .ok (en v))(ha':a (ED P L f s3 s4 s5 s6 s7)= .ok (en u))(hb':b (ED P L f s3 s4 s5 s6 s7)= .ok (en v))(hc:c (iz P L f s3 s4 s5 s6 s7)= .ok (.int x))(hu:u∈P)(hv:v∈P) :
  d9 (lR (tb (o2 fE (ln 2 (o2 bu (o2 bu (vr 2) a) b)) (cn .non))) (tb (o2 mI c (ln 2 (o2 bu (o2 bu (vr 2) a) b))))) (i6 2 a b c) sN (iz P L f s3 s4 s5 s6 s7)= .ok (.nx (iz P L (m7 f u v x) s3 s4 s5 s6 s7)):=by
 have g:=AG (P:=P) (L:=L) (f:=f) ha' hb' hu hv
 have p:=zX (P:=P) (L:=L) (f:=f) nd pl ha hb hc hu hv;unfold m7
 cases q:f u v with
 | none=>
  rw[q]at g
  exact(dU (AT (bB (az (t:=.non) (u:=.non) g rfl rfl)))).trans p
 | some y=>
  rw[q]at g
  have c2:tb (o2 mI c (ln 2 (o2 bu (o2 bu (vr 2) a) b))) (iz P L f s3 s4 s5 s6 s7)= .ok (decide (x<y)):=bB (az (t:=.int x) (u:=.int y) hc g rfl)
  by_cases h:x<y
  ·rw[decide_eq_true h]at c2
   simp only[if_pos h];exact(dU (u8 (bB (az (t:=.int y) (u:=.non) g rfl rfl)) c2)).trans p
  ·rw[decide_eq_false h]at c2
   simp only[if_neg h];exact(cR (u8 (bB (az (t:=.int y) (u:=.non) g rfl rfl)) c2)).trans rfl
end
section
variable {P:List N2}{L:bR N2}
theorem u6:∀(P:List N2),mK (P.map en)=true
 | [] =>rfl
 | u::P=>by
  have:=u6 P;simp[mK,bw,this]
theorem F9 (nd:P.Nodup):((P.map en).map keyOf).Nodup:=by
 rw[Ll];exact nd.map _ λa b h e=>h (iH e)
theorem EB (nd:P.Nodup)(pl:P.length<=1000):n6 2 0 [.va (eS P),.va (eL L),.em,.em,.em,.em,.em,.em] = .ok (.nx (iz P L (λ_ _=>none) .em .em .em .em .em)):=by
 show(if (2:Nat)<8/\mK (P.map en)=true/\((P.map en).map keyOf).Nodup/\(P.map en).length<=1000 then Rs.ok (Fl.nx [.va (eS P),.va (eL L),.ow (.dd (P.map en) ((P.map en).map λ_=>(P.map en,(P.map en).map λ_=>T.non))),.em,.em,.em,.em,.em])else .bad)=_
 rw[if_pos ⟨by omega,u6 P,F9 nd,by rw[Ks];exact pl⟩,Ll,Ll]
 rfl
theorem DU (nd:P.Nodup)(pl:P.length<1000):∀(Q:List N2) (f:cY N2) (s3 s4 s5 s6 s7:Sl),(∀u∈Q,u∈P)->∃s3',
  a9 (gN 3) (i6 2 (vr 3) (vr 3) (cn (.int 0))) (Q.map en) (iz P L f s3 s4 s5 s6 s7)= .ok (.nx (iz P L (Q.foldl (λf u=>jx f u u 0) f) s3' s4 s5 s6 s7))
 | [],f,s3,s4,s5,s6,s7,_=>⟨s3,rfl⟩
 | u::Q,f,s3,s4,s5,s6,s7,h=>by
  have hu:=h u Kr;rw[Kp,cz (Z1:=iz P L f (.va (en u)) s4 s5 s6 s7) rfl (zX nd pl (u:=u) (v:=u) (x:=0) rfl rfl rfl hu hu)];exact DU nd pl Q _ _ _ _ _ _ λw hw=>h w (Ko _ hw)
theorem qS:∀(Q:List N2) (f:cY N2) (u v:N2),Q.foldl (λf u=>jx f u u 0) f u v=if u∈Q/\u=v then some 0 else f u v
 | [],f,u,v=>by rw[if_neg (λh=>nomatch h.1)];rfl
 | w::Q,f,u,v=>by
  rw[R6,qS Q]
  by_cases e:u=v
  ·subst e
   by_cases m:u∈Q
   ·rw[if_pos ⟨m,rfl⟩,if_pos ⟨Ko _ m,rfl⟩]
   ·rw[if_neg (λz=>m z.1)]
    unfold jx
    by_cases q:u=w
    ·subst q;rw[if_pos ⟨rfl,rfl⟩,if_pos ⟨Kr,rfl⟩]
    ·rw[if_neg (λz=>q z.1),if_neg (λz=>(Ky.mp z.1).elim q m)]
  ·rw[if_neg (λz=>e z.2),if_neg (λz=>e z.2)]
   unfold jx;rw[if_neg (λz=>e (z.1.trans z.2.symm))]
theorem yK (P:List N2):P.foldl (λf u=>jx f u u 0) (λ_ _=>none)=tV P:=by
 funext u v
 rw[qS]
 rfl
theorem DT (nd:P.Nodup)(pl:P.length<1000):∀(M:bR N2) (f:cY N2) (s3 s4 s5 s6 s7:Sl),(∀x∈M,x.1∈P/\x.2.1∈P)->∃s3' s4' s5',
  a9 (gT 3 (dY (gN 3) (dY (gN 4) (dY (gN 5) kQ)))) (d9 (lR (tb (o2 fE (ln 2 (o2 bu (o2 bu (vr 2) (vr 3)) (vr 4))) (cn .non))) (tb (o2 mI (vr 5) (ln 2 (o2 bu (o2 bu (vr 2) (vr 3)) (vr 4)))))) (i6 2 (vr 3) (vr 4) (vr 5)) sN) (M.map eB) (iz P L f s3 s4 s5 s6 s7)= .ok (.nx (iz P L (M.foldl (λf x=>m7 f x.1 x.2.1 x.2.2) f) s3' s4' s5' s6 s7))
 | [],f,s3,s4,s5,s6,s7,_=>⟨s3,s4,s5,rfl⟩
 | x::M,f,s3,s4,s5,s6,s7,h=>by
  have hx:=h x Kr;rw[Kp,cz (Z1:=iz P L f (.va (en x.1)) (.va (en x.2.1)) (.va (.int x.2.2)) s6 s7) rfl (A6 nd pl (u:=x.1) (v:=x.2.1) (x:=x.2.2) rfl rfl rfl rfl rfl hx.1 hx.2)];exact DT nd pl M _ _ _ _ _ _ λw hw=>h w (Ko _ hw)
abbrev GV:En->Rs Fl:=(d9 (qm (tb (o2 cQ (ln 2 (o2 bu (o2 bu (vr 2) (vr 3)) (vr 6))) (cn .non))) (tb (o2 cQ (ln 2 (o2 bu (o2 bu (vr 2) (vr 6)) (vr 4))) (cn .non)))) (aw (cq (o2 aV (ln 2 (o2 bu (o2 bu (vr 2) (vr 3)) (vr 6))) (ln 2 (o2 bu (o2 bu (vr 2) (vr 6)) (vr 4)))) (gN 7)) (d9 (lR (tb (o2 fE (ln 2 (o2 bu (o2 bu (vr 2) (vr 3)) (vr 4))) (cn .non))) (tb (o2 mI (vr 7) (ln 2 (o2 bu (o2 bu (vr 2) (vr 3)) (vr 4)))))) (i6 2 (vr 3) (vr 4) (vr 7)) sN)) sN)
theorem B5 (nd:P.Nodup)(pl:P.length<1000){mid one other:N2}(hm:mid∈P)(h1:one∈P)(h2:other∈P)(f:cY N2)(s5 s7:Sl):∃s7',
  GV (iz P L f (.va (en one)) (.va (en other)) s5 (.va (en mid)) s7)= .ok (.nx (iz P L (lD mid one other f) (.va (en one)) (.va (en other)) s5 (.va (en mid)) s7')):=by
 have ga:∀s7,ln 2 (o2 bu (o2 bu (vr 2) (vr 3)) (vr 6)) (iz P L f (.va (en one)) (.va (en other)) s5 (.va (en mid)) s7)= .ok (oI (f one mid)):=λs7=>AG rfl rfl h1 hm
 have gb:∀s7,ln 2 (o2 bu (o2 bu (vr 2) (vr 6)) (vr 4)) (iz P L f (.va (en one)) (.va (en other)) s5 (.va (en mid)) s7)= .ok (oI (f mid other)):=λs7=>AG rfl rfl hm h2
 unfold lD GV
 cases qa:f one mid with
 | none=>
  have ga:=ga s7;rw[qa]at ga
  exact⟨s7,(cR (AZ (bB (az (t:=.non) (u:=.non) ga rfl rfl)))).trans rfl⟩
 | some x=>
  have ga:=ga s7;rw[qa]at ga
  have c1:=bB (az (g:=cQ) (t:=.int x) (u:=.non) (fb:=cn .non) ga rfl rfl)
  cases qb:f mid other with
  | none=>
   have gb:=gb s7;rw[qb]at gb
   exact⟨s7,(cR (wq c1 (bB (az (t:=.non) (u:=.non) gb rfl rfl)))).trans rfl⟩
  | some y=>
   have gb:=gb s7;rw[qb]at gb;refine⟨.va (.int (x+y)),(dU (wq c1 (bB (az (t:=.int y) (u:=.non) gb rfl rfl)))).trans ?_⟩
   rw[ar (bM (Z':=iz P L f (.va (en one)) (.va (en other)) s5 (.va (en mid)) (.va (.int (x+y)))) (az (t:=.int x) (u:=.int y) ga gb rfl) rfl)];exact A6 nd pl (u:=one) (v:=other) (x:=x+y) rfl rfl rfl rfl rfl h1 h2
theorem DS (nd:P.Nodup)(pl:P.length<1000){mid one:N2}(hm:mid∈P)(h1:one∈P):∀(Q:List N2) (f:cY N2) (s4 s5 s7:Sl),(∀u∈Q,u∈P)->∃s4' s7',
  a9 (gN 4) GV (Q.map en) (iz P L f (.va (en one)) s4 s5 (.va (en mid)) s7)= .ok (.nx (iz P L (lE mid one Q f) (.va (en one)) s4' s5 (.va (en mid)) s7'))
 | [],f,s4,s5,s7,_=>⟨s4,s7,rfl⟩
 | u::Q,f,s4,s5,s7,h=>by
  have hu:=h u Kr;obtain⟨s7',e⟩:=B5 (L:=L) nd pl hm h1 hu f s5 s7;rw[Kp,cz (Z1:=iz P L f (.va (en one)) (.va (en u)) s5 (.va (en mid)) s7) rfl e];exact DS nd pl hm h1 Q _ _ _ _ λw hw=>h w (Ko _ hw)
theorem DQ (nd:P.Nodup)(pl:P.length<1000){mid:N2}(hm:mid∈P):∀(Q:List N2) (f:cY N2) (s3 s4 s5 s7:Sl),(∀u∈Q,u∈P)->∃s3' s4' s7',
  a9 (gN 3) (dD (iS (vr 0)) (gN 4) GV) (Q.map en) (iz P L f s3 s4 s5 (.va (en mid)) s7)= .ok (.nx (iz P L (o5 mid Q P f) s3' s4' s5 (.va (en mid)) s7'))
 | [],f,s3,s4,s5,s7,_=>⟨s3,s4,s7,rfl⟩
 | u::Q,f,s3,s4,s5,s7,h=>by
  have hu:=h u Kr;obtain⟨s4',s7',e⟩:=DS (L:=L) nd pl hm hu P f s4 s5 s7 λ_ z=>z
  rw[Kp,cz (Z1:=iz P L f (.va (en u)) s4 s5 (.va (en mid)) s7) rfl (dm (ts:=P.map en) rfl e)];exact DQ nd pl hm Q _ _ _ _ _ λw hw=>h w (Ko _ hw)
theorem DP (nd:P.Nodup)(pl:P.length<1000):∀(Q:List N2) (f:cY N2) (s3 s4 s5 s6 s7:Sl),(∀u∈Q,u∈P)->∃s3' s4' s6' s7',
  a9 (gN 6) (dD (iS (vr 0)) (gN 3) (dD (iS (vr 0)) (gN 4) GV)) (Q.map en) (iz P L f s3 s4 s5 s6 s7)= .ok (.nx (iz P L (ve Q P f) s3' s4' s5 s6' s7'))
 | [],f,s3,s4,s5,s6,s7,_=>⟨s3,s4,s6,s7,rfl⟩
 | u::Q,f,s3,s4,s5,s6,s7,h=>by
  have hu:=h u Kr;obtain⟨s3',s4',s7',e⟩:=DQ (L:=L) nd pl hu P f s3 s4 s5 s7 λ_ z=>z
  rw[Kp,cz (Z1:=iz P L f s3 s4 s5 (.va (en u)) s7) rfl (dm (ts:=P.map en) rfl e)];exact DP nd pl Q _ _ _ _ _ _ λw hw=>h w (Ko _ hw)
def DL (P:List N2)(f:cY N2):Prop:=∀u∈P,∀y,f u u=some y->0<=y
theorem EC (hd:∀u∈P,∃y,table P L u u=some y)(pl:P.length<1000)(s3 s4 s5 s6 s7:Sl) :
  ∃t,((DL P (table P L)/\t=fz P (table P L))\/(¬DL P (table P L)/\t= .non))/\k8 2 (aI (sV (tb (o2 qi (eG (iS (vr 0)) [none,some 2] (gN 0) (tb (o2 mI (o2 bu (o2 bu (vr 1) (vr 0)) (vr 0)) (cn (.int 0)))) (vr 0)) (dq ag))) (vr 2) (cn .non))) (iz P L (table P L) s3 s4 s5 s6 s7)= .ok (.rt t):=by
 generalize hf:table P L=f
 rw[hf]at hd
 have lc:eG (iS (vr 0)) [none,some 2] (gN 0) (tb (o2 mI (o2 bu (o2 bu (vr 1) (vr 0)) (vr 0)) (cn (.int 0)))) (vr 0) (ED P L f s3 s4 s5 s6 s7)= .ok (.lst (((P.map en).filter λt=>P.any λu=>decide (keyOf t=some (ky u))&&(match f u u with | some y=>decide (y<0) | none=>false)).map id)):=by
  refine Ee (ts:=P.map en) rfl (aq (k:=1000) (by rw[Ks];omega)) (by simp) λt ht=> ?_
  obtain⟨u,hu,rfl⟩:=KN.mp ht;obtain⟨y,hy⟩:=hd u hu;refine⟨?_,λ_=>rfl⟩
  have e:(P.any λw=>decide (keyOf (en u)=some (ky w))&&(match f w w with | some y=>decide (y<0) | none=>false))=decide (y<0):=by
   by_cases h:y<0
   ·rw[decide_eq_true h]
    exact Oh.mpr ⟨u,hu,by rw[hy];simp[h,bw]⟩
   ·rw[decide_eq_false h,O0]
    intro w hw
    by_cases q:w=u
    ·subst q;rw[hy];simp[h]
    ·rw[decide_eq_false (λz=>q (iH ((bw u).symm.trans z)).symm)];simp
  rw[e]
  have g:=rA (P:=P) (f:=f) (u:=u) (v:=u) (Z:=[.va (en u),.va (fz P f)]) (c:=vr 1) (a:=vr 0) (b:=vr 0) rfl rfl rfl hu hu;rw[hy]at g;exact bB (az (t:=.int y) (u:=.int 0) g rfl rfl)
 rw[Se]at lc
 generalize hp:(λt=>P.any λu=>decide (keyOf t=some (ky u))&&(match f u u with | some y=>decide (y<0) | none=>false))=p at lc
 have pu:∀u∈P,∀y,f u u=some y->p (en u)=decide (y<0):=by
  intro u hu y hy;rw[<-hp]
  show(P.any λw=>decide (keyOf (en u)=some (ky w))&&(match f w w with | some y=>decide (y<0) | none=>false))=decide (y<0)
  by_cases h:y<0
  ·rw[decide_eq_true h]
   exact Oh.mpr ⟨u,hu,by rw[hy];simp[h,bw]⟩
  ·rw[decide_eq_false h,O0]
   intro w hw
   by_cases q:w=u
   ·subst q;rw[hy];simp[h]
   ·rw[decide_eq_false (λz=>q (iH ((bw u).symm.trans z)).symm)];simp
 have iff:(P.map en).filter p= [] ↔DL P f:=by
  rw[List.filter_eq_nil_iff]
  constructor
  ·intro h u hu y hy
   have:=h (en u) (KN.mpr ⟨u,hu,rfl⟩);rw[pu u hu y hy]at this
   simpa using this
  ·intro h t ht
   obtain⟨u,hu,rfl⟩:=KN.mp ht;obtain⟨y,hy⟩:=hd u hu;rw[pu u hu y hy]
   have:=h u hu y hy
   simpa using this
 have nd:nds ((P.map en).filter p)=true:=AA λt ht=>by
  obtain⟨u,_,rfl⟩:=KN.mp (PF.mp ht).1
  rfl
 have eq:o2 qi (eG (iS (vr 0)) [none,some 2] (gN 0) (tb (o2 mI (o2 bu (o2 bu (vr 1) (vr 0)) (vr 0)) (cn (.int 0)))) (vr 0)) (dq ag) (ED P L f s3 s4 s5 s6 s7)= .ok (.bl (bf (.lst ((P.map en).filter p)) (.lst []))):=
  az (u:=.lst []) lc (fS rfl (aq (k:=1) (by simp))) (by unfold qi;rw[if_pos (vf (by simp[T.dep,deps]) (by simpa [T.nd]using nd) rfl)])
 by_cases D:DL P f
 ·refine⟨fz P f,.inl ⟨D,rfl⟩,?_⟩
  rw[iff.mpr D]at eq;refine xF ?_
  rw[wy];exact cm ((ja (p:=true) (bB eq)).trans rfl)
 ·refine⟨.non,.inr ⟨D,rfl⟩,?_⟩
  have:(P.map en).filter p≠ []:=λz=>D (iff.mp z)
  cases q:(P.map en).filter p with
  | nil=>exact absurd q this
  | cons a l=>
   rw[q]at eq;refine xF ?_
   rw[wy];exact cm ((ja (p:=false) (bB (eq.trans (by simp[bf,beqTs])))).trans rfl)
theorem xN (nd:P.Nodup)(pl:P.length<1000)(hL:∀x∈L,x.1∈P/\x.2.1∈P) :
  ∃t,((cC L/\ge L P (table P L)/\t=fz P (table P L))\/(¬cC L/\t= .non))/\eX [eS P,eL L] = .ok t:=by
 obtain⟨a3,e1⟩:=DU (L:=L) nd pl P (λ_ _=>none) .em .em .em .em .em λ_ z=>z
 rw[yK]at e1;obtain⟨b3,b4,b5,e2⟩:=DT (L:=L) nd pl L (tV P) a3 .em .em .em .em hL;obtain⟨c3,c4,c6,c7,e3⟩:=DP (L:=L) nd pl P (zr P L) b3 b4 b5 .em .em λ_ z=>z
 obtain⟨t,ht,e4⟩:=EC (P:=P) (L:=L) (λu hu=>let ⟨y,h,_⟩:=nP (L:=L) hu;⟨y,h⟩) pl c3 c4 b5 c6 c7
 refine⟨t,ht.elim (λh=> .inl ?_) (λh=> .inr ⟨λn=>h.1 λu hu y hy=> ?_,h.2⟩),bz rfl ?_⟩
 ·have:=my hL h.1
  exact⟨this.1,this.2,h.2⟩
 ·exact Int.not_lt.mp λz=>qz hy z n
 ·show iQ [.va (eS P),.va (eL L),.em,.em,.em,.em,.em,.em] =_
  unfold iQ;rw[ar (EB nd (by omega)),ar (dm (ts:=P.map en) rfl e1),ar (dm (ts:=L.map eB) rfl e2)]
  exact(ar (dm (ts:=P.map en) rfl e3)).trans e4
end
theorem HS (b:Bool):mY (.bl b) (.bl b)= .ok (.bl false):=iB rfl (by simp[T.dep])
theorem Gi (l:List T)(h:l≠ []):aW (.lst l) (.int (-1))= .ok (l.getLast h):=by
 show(match L2.atI l (-1)with | some t=>Rs.ok t | none=> .bad)=_
 have hp:0<l.length:=Qq.mpr h
 have e:L2.atI l (-1)=some (l.getLast h):=by
  unfold L2.atI L2.ixN;rw[if_neg (by omega),if_pos (by omega)]
  show l[((-1:Int)+l.length).toNat]? =_
  rw[Ph,show((-1:Int)+l.length).toNat=l.length - 1 by omega,KD]
 rw[e]
theorem yx {R t u:T}{e:Str}(h:bV [R,t,u] = .err e):aM [R,t,u] = .err e:=by
 refine cX rfl ?_
 show cE [.va R,.va t,.va u] =_
 unfold cE;exact fY (mL (aJ (ts:=[R,t,u]) rfl h))
theorem HV {R t u:T}{e:Str}(h:bV [R,t,u] = .ok .non)(h2:bU [R] = .err e):aM [R,t,u] = .err e:=by
 refine cX rfl ?_
 show cE [.va R,.va t,.va u] =_
 unfold cE;rw[ar (kK (t:=.non) (aJ (ts:=[R,t,u]) rfl h))];exact fY (mL (aJ (ts:=[R]) rfl h2))
theorem lb_e {R t u:T}{e:Str}(h:aM [R,u,t] = .err e):dk [R,t,u] = .err e:=by
 refine cX rfl ?_
 show dt [.va R,.va t,.va u,.em] =_
 unfold dt;exact fY (xG (aJ (ts:=[R,u,t]) rfl h))
theorem Dv {R:T}(hp:R.pl=true)(h:iq R=false):dM [R] = .err "NoRecord":=by
 refine cX rfl ?_
 show jG [.va R,.em,.em,.em,.em] =_
 unfold jG;exact fY (mL (aJ (ts:=[R]) rfl (l0 hp h)))
theorem FZ {R:T}(hp:R.pl=true)(h:iq R=false):bU [R] = .err "NoRecord":=by
 have e1:iD [R] = .err "NoRecord":=cX rfl (wo (Ip (by unfold ac;show(Rs.ok R >>= λv=>(ac (cl dM (ac (vr 0) ag)) ag) [.va R] >>= λvs=>Rs.ok (v::vs))=_;rw[aE,Da (aJ (ts:=[R]) rfl (Dv hp h))];rfl)))
 have e2:fQ [R] = .err "NoRecord":=cX rfl (wo (Ih (aJ (ts:=[R]) rfl e1)));refine cX rfl ?_
 show dg [.va R] =_
 unfold dg;exact AX (Gf (Ed (aJ (ts:=[R]) rfl e2)))
theorem IG {R t u:T}(hp:R.pl=true)(h:iq R=false):bV [R,t,u] = .err "NoRecord":=by
 refine cX rfl ?_
 show bX [.va R,.va t,.va u] =_
 unfold bX;exact fY (mL (aJ (ts:=[R]) rfl (l0 hp h)))
section
variable {cs ls:List T}{L:bR N2}{P:List N2}{ns:List Int}
theorem Rd.Kf (R:Rd cs ls L P){a:N2}(ha:a∈P){t:T}(hp:t.pl=true)(h:aQ cs t=false):bV [(RR cs ls),en a,t] = .err "NoEvent":=by
 refine cX rfl ?_
 show bX [.va (RR cs ls),.va (en a),.va t] =_
 unfold bX;rw[ar (kK (t:=.non) (aJ (ts:=[(RR cs ls)]) rfl (gD R.g.p R.g.ok)))];rw[ar (kK (t:=.non) (aJ (ts:=[(RR cs ls),en a]) rfl (nu R.g rfl (R.ev ha))))];exact mL (aJ (ts:=[(RR cs ls),t]) rfl (uT R.g hp h))
theorem Rd.J9 (R:Rd cs ls L P){t u:T}(hp:t.pl=true)(h:aQ cs t=false):bV [(RR cs ls),t,u] = .err "NoEvent":=by
 refine cX rfl ?_
 show bX [.va (RR cs ls),.va t,.va u] =_
 unfold bX;rw[ar (kK (t:=.non) (aJ (ts:=[(RR cs ls)]) rfl (gD R.g.p R.g.ok)))];exact fY (mL (aJ (ts:=[(RR cs ls),t]) rfl (uT R.g hp h)))
theorem Rd.now (R:Rd cs ls L P)(n:¬ cC L):bU [(RR cs ls)] = .err "NoWorld":=by
 obtain⟨hw,e,i⟩:=R.J8
 cases hw with
 | true=>exact absurd (i.mp rfl) n
 | false=>
  refine cX rfl ?_
  show dg [.va (RR cs ls)] =_
  unfold dg;exact(dU (oZ (k:=false) (bB (aJ (ts:=[(RR cs ls)]) rfl e)))).trans rfl
theorem Cg (hc:bc (.tup cs)=true)(c:Int):reads cs c<=4:=by
 unfold reads;split
 ·split
  ·rename_i e
   obtain⟨x,y,r,q,_,h⟩:=eI ((cA hc).1 _ (Mr e));cases q;exact h
  ·omega
 ·omega
theorem xf {a:N2}{b:cp N2}{f:cY N2}(S:Settled L [a] b)(F:ge L P f)(ha:a∈P)(c:N2):AD (b c)=oI (f a c):=by
 cases q:b c with
 | none=>
  cases e:f a c with
  | none=>rfl
  | some y=>
   obtain⟨d,w,z,_⟩:=S.least a (by simp) c y (F.is a c y e)
   rw[q]at z;cases z
 | some x=>
  obtain⟨d,w⟩:=x;obtain⟨s,hs,h1,h2,_⟩:=S.walk c d w q;rw[KQ.mp hs]at h1
  have wk:Wk L a c d:=h2▸h1.wk;obtain⟨y,e,hy⟩:=F.le a ha c d wk;obtain⟨d',w',z,hd⟩:=S.least a (by simp) c y (F.is a c y e)
  rw[q]at z;cases z;rw[e]
  show T.int d= .int y
  congr 1
  omega
theorem Rd.JU (R:Rd cs ls L P)(n:cC L){f:cY N2}(F:ge L P f){a c:N2}(ha:a∈P)(hc:c∈P):aM [(RR cs ls),en a,en c] = .ok (oI (f a c)):=by
 obtain⟨b,S,e⟩:=R.Kj n ha hc;rw[e,xf S F ha]
def ngI (o:Option Int):T:=match o with
 | some x=> .int (0 - x)
 | none=> .non
theorem Rd.J6 (R:Rd cs ls L P)(n:cC L){f:cY N2}(F:ge L P f){a c:N2}(ha:a∈P)(hc:c∈P):dk [(RR cs ls),en a,en c] = .ok (ngI (f c a)):=by
 refine bz rfl ?_
 show dt [.va (RR cs ls),.va (en a),.va (en c),.em] =_
 unfold dt;rw[ar (Z':=[.va (RR cs ls),.va (en a),.va (en c),.va (oI (f c a))]) (bM (aJ (ts:=[(RR cs ls),en c,en a]) rfl (R.JU n F hc ha)) rfl)]
 cases f c a with
 | none=>exact cm ((ja (p:=true) (bB (az (t:=.non) (u:=.non) rfl rfl rfl))).trans rfl)
 | some x=>
  refine cm ((ja (p:=false) (bB (az (t:=.int x) (u:=.non) rfl rfl rfl))).trans ((Ij (t:=.int x) rfl rfl).trans ?_))
  show Rs.ok (T.int (-x))= .ok (.int (0 - x))
  rw[RD]
theorem wf {D:Bool}:∀{l:List T},(∀t∈l,t.nk D=true)->nks D l=true
 | [],_=>rfl
 | t::l,h=>by unfold nks;rw[h t Kr,wf λu hu=>h u (Ko _ hu)];rfl
theorem tp {k:Nat}:∀{l:List T},(∀t∈l,t.dep<=k)->deps l<=k
 | [],_=>by unfold deps;omega
 | t::l,h=>by
  unfold deps;exact Nat.max_le.mpr ⟨h t Kr,tp λu hu=>h u (Ko _ hu)⟩
end
section
variable {cs ls:List T}{L:bR N2}{P:List N2}{ns:List Int}
def uo (P:List N2)(f:cY N2)(u:N2):T:=.tup (P.map λv=>oI (f u v))
def x8 (P:List N2)(f:cY N2):T:=.tup (P.map (uo P f))
theorem FX (D:Bool)(P:List N2)(f:cY N2):(x8 P f).nk D=true:=by
 show nks D (P.map (uo P f))=true
 refine wf λt ht=> ?_
 obtain⟨u,_,rfl⟩:=KN.mp ht
 show nks D (P.map λv=>oI (f u v))=true
 refine wf λt ht=> ?_
 obtain⟨v,_,rfl⟩:=KN.mp ht;cases f u v <;> rfl
theorem Bp {b:cp N2}{ms:List N2}(D:DR P ms b)(c:N2):eF [.dct (ms.map en) (dV ms b),en c] = .ok (AD (b c)):=by
 refine bz rfl ?_
 refine cm ((ja (p:=(b c).isSome) (bB (az (t:=en c) (u:=.dct (ms.map en) (dV ms b)) rfl rfl (BA D c)))).trans ?_)
 cases q:b c with
 | none=>rfl
 | some x=>exact az (t:=eW x) (u:=.int 0) (az (t:=.dct (ms.map en) (dV ms b)) (u:=en c) rfl rfl (tj D q)) rfl rfl
def deO (f:cY N2)(u:N2)(t:T):T:=match t with
 | .tup [.int c,.int k] =>oI (f u ⟨c,k⟩)
 | _=> .non
theorem Ds (P:List N2)(f:cY N2)(u:N2):(P.map en).map (deO f u)=P.map λv=>oI (f u v):=by rw[Ll];rfl
abbrev amF:En->Rs Fl:=(aw (cq (cl c9 (ac (vr 0) (ac (vr 3) ag))) (gN 4)) (gL 2 (cl fU (ac (eG (iS (vr 1)) [none,some 4] (gN 0) bT (cl eF (ac (vr 1) (ac (vr 0) ag)))) ag))))
theorem Rd.JI (R:Rd cs ls L P)(n:cC L){f:cY N2}(F:ge L P f):∀(Q:List N2) (acc:List T) (s3 s4:Sl),(∀u∈Q,u∈P)->acc.length+Q.length<=1000->∃s3' s4',
  a9 (gN 3) amF (Q.map en) [.va (RR cs ls),.va (eS P),.ow (.lst acc),s3,s4] = .ok (.nx [.va (RR cs ls),.va (eS P),.ow (.lst (acc++Q.map (uo P f))),s3',s4'])
 | [],acc,s3,s4,_,_=>⟨s3,s4,by simp only[N9,Lc];rfl⟩
 | u::Q,acc,s3,s4,h,hl=>by
  have hu:=h u Kr;rw[Kx]at hl;obtain⟨b,ms,S,D,e⟩:=R.from_ n hu
  have lc:eG (iS (vr 1)) [none,some 4] (gN 0) bT (cl eF (ac (vr 1) (ac (vr 0) ag))) [.va (RR cs ls),.va (eS P),.ow (.lst acc),.va (en u),.va (.dct (ms.map en) (dV ms b))] = .ok (.lst ((P.map en).map (deO f u))):=
   md (ts:=P.map en) (kA rfl) (aq (k:=16) (by rw[Ks];exact R.pl)) (by simp) λt ht=>by
    obtain⟨v,hv,rfl⟩:=KN.mp ht;refine(aJ (ts:=[.dct (ms.map en) (dV ms b),en v]) rfl (Bp D v)).trans ?_
    rw[xf S F hu];rfl
  rw[Ds]at lc
  have st:amF [.va (RR cs ls),.va (eS P),.ow (.lst acc),.va (en u),s4] = .ok (.nx [.va (RR cs ls),.va (eS P),.ow (.lst (acc++ [uo P f u])),.va (en u),.va (.dct (ms.map en) (dV ms b))]):=by
   refine(ar (Z':=[.va (RR cs ls),.va (eS P),.ow (.lst acc),.va (en u),.va (.dct (ms.map en) (dV ms b))]) (bM (aJ (ts:=[(RR cs ls),en u]) rfl e) rfl)).trans ?_
   exact lA (l:=acc) (aJ (al lc rfl) qy) rfl (by omega)
  obtain⟨a,c,ih⟩:=R.JI n F Q (acc++ [uo P f u]) (.va (en u)) (.va (.dct (ms.map en) (dV ms b))) (λw hw=>h w (Ko _ hw)) (by rw[Kw];simp only[Kx,Oy];omega)
  refine⟨a,c,?_⟩
  rw[Kp,cz (Z1:=[.va (RR cs ls),.va (eS P),.ow (.lst acc),.va (en u),s4]) rfl st,ih,KR]
  rfl
theorem Rd.Kh (R:Rd cs ls L P)(n:cC L){f:cY N2}(F:ge L P f):gE [(RR cs ls)] = .ok (x8 P f):=by
 refine bz rfl ?_
 show gK [.va (RR cs ls),.em,.em,.em,.em] =_
 unfold gK;rw[ar (kK (t:=.non) (aJ (ts:=[(RR cs ls)]) rfl (R.JW n)))];rw[ar (Z':=[.va (RR cs ls),.va (eS P),.em,.em,.em]) (bM (aJ (ts:=[(RR cs ls)]) rfl R.events) rfl)];rw[ar (Z':=[.va (RR cs ls),.va (eS P),.ow (.lst []),.em,.em]) (l9 (by simp))]
 obtain⟨a,c,e⟩:=R.JI n F P [] .em .em (λ_ z=>z) (by have:=R.pl;simp;omega)
 rw[ar (dm (ts:=P.map en) (kA rfl) e),LD];exact cm (C9 (o:=.lst (P.map (uo P f))) rfl (aJ (ts:=[.lst (P.map (uo P f))]) rfl qy) (FX _ P f))
end
def hB (t:N2->Int)(x:N2×N2×Int):Bool:=decide (t x.2.1 - t x.1<=x.2.2)
section
variable {cs ls:List T}{L:bR N2}{P:List N2}
theorem Rd.pos (R:Rd cs ls L P):0<P.length:=by
 obtain⟨hcl,c1,_⟩:=cA R.g.c
 have e:=congrArg Lx R.e;rw[Ks]at e;rw[<-e]
 cases cs with
 | nil=>simp at c1
 | cons c cs=>
  obtain⟨x,y,r,rfl,r1,_⟩:=eI (hcl c Kr);rw[fy,Kw,ir]
  show 0<r.length+_
  omega
end
theorem r3:m6 "NoWorld" = .ok (dC 3):=by unfold m6;rw[if_neg (by decide),if_neg (by decide),if_neg (by decide),if_pos rfl]
section
variable {cs ls:List T}{L:bR N2}{P:List N2}{ns:List Int}{f:cY N2}
def FR:List T:=[.non,.tup [.int 0],.tup [.int 9,.int 0],.tup [.int 0,.int 9],.lst [.int 0,.int 0],.tup [.bl true,.int 0],.str "0.0"]
theorem FS (hc:bc (.tup cs)=true):∀t∈FR,t.pl=true/\aQ cs t=false:=λt ht=>by
 unfold FR at ht;simp only[Ky,Lw,or_false]at ht;rcases ht with rfl | rfl | rfl | rfl | rfl | rfl | rfl
 ·exact⟨rfl,rfl⟩
 ·exact⟨rfl,rfl⟩
 ·refine⟨rfl,?_⟩
  rw[show aQ cs (.tup [.int 9,.int 0])=(decide ((0:Int)<=9)&&decide ((9:Int)<cs.length)&&(decide ((0:Int)<=0)&&decide ((0:Int)<reads cs 9)))from rfl,decide_eq_false (show ¬((9:Int)<cs.length)by have:=(cA hc).2.2;omega)]
  simp
 ·refine⟨rfl,?_⟩
  rw[show aQ cs (.tup [.int 0,.int 9])=(decide ((0:Int)<=0)&&decide ((0:Int)<cs.length)&&(decide ((0:Int)<=9)&&decide ((9:Int)<reads cs 0)))from rfl,decide_eq_false (show ¬((9:Int)<reads cs 0)by have:=Cg hc 0;omega)]
  simp
 ·exact⟨rfl,rfl⟩
 ·exact⟨rfl,rfl⟩
 ·exact⟨rfl,rfl⟩
theorem Rd.gw (R:Rd cs ls L P){M:bR N2}(fm:DJ M P):(¬cC M/\br [(RR cs ls),eL M] = .ok .non)\/(cC M/\∃t,Holds M t/\br [(RR cs ls),eL M] = .ok (tmT P t)):=by
 obtain⟨r,hr,ok⟩:=o8 fm R.nd (λv h=>h)
 have begin_:∀{x z:T} {y:Rs Fl},fP [eL M,eS P] = .ok (.tup [x,z])->((aw (d9 (tb (o2 fE (vr 3) (cn .non))) (aI (cn .non)) sN) (aI (cl fU (ac (eG (iS (vr 2)) [none,some 3] (gN 0) bT (o2 aW (o2 bu (vr 1) (vr 0)) (cn (.int 0)))) ag)))) [.va (RR cs ls),.va (eL M),.va (eS P),.va x] =y)->cZ [.va (RR cs ls),.va (eL M),.em,.em] =y:=λ{x z y} hs hy=>by
  unfold cZ;rw[ar (Z':=[.va (RR cs ls),.va (eL M),.va (eS P),.em]) (bM (aJ (ts:=[(RR cs ls)]) rfl R.events) rfl)];rw[ar (Z':=[.va (RR cs ls),.va (eL M),.va (eS P),.va x]) (bM (az (u:=.int 0) (aJ (ts:=[eL M,eS P]) rfl hs) rfl rfl) rfl)];exact hy
 cases r with
 | inr q=>exact .inl ⟨λn=>absurd n (Bar.neg ok),bz rfl (begin_ hr (gG ((dU (bB (az (t:=.non) (u:=.non) rfl rfl rfl))).trans rfl)))⟩
 | inl b=>
  obtain⟨ms,D,hr⟩:=hr
  have ok:Settled M P b:=ok
  have htm:∀v∈P,∃w,b v=some (DO b v,w):=λv hv=>by
   obtain⟨d,w,e,_⟩:=ok.least v hv v 0 (.nil v);exact⟨w,by unfold DO;rw[e]⟩
  have hol:=ok.holds fm.ends htm;refine .inr ⟨hol.JL,DO b,hol,bz rfl (begin_ hr ?_)⟩
  generalize DO b=tm at htm
  have lc:eG (iS (vr 2)) [none,some 3] (gN 0) bT (o2 aW (o2 bu (vr 1) (vr 0)) (cn (.int 0))) [.va (RR cs ls),.va (eL M),.va (eS P),.va (.dct (ms.map en) (dV ms b))] = .ok (.lst ((P.map en).map (atT tm))):=
   md (ts:=P.map en) (kA rfl) (aq (k:=16) (by rw[Ks];exact R.pl)) (by simp) λt ht=>by
    obtain⟨v,hv,rfl⟩:=KN.mp ht;obtain⟨w,e⟩:=htm v hv;exact az (t:=eW (tm v,w)) (u:=.int 0) (az (t:=.dct (ms.map en) (dV ms b)) (u:=en v) rfl rfl (tj D e)) rfl rfl
  rw[Ll]at lc;rw[ar (Z':=[.va (RR cs ls),.va (eL M),.va (eS P),.va (.dct (ms.map en) (dV ms b))]) ((cR (bB (az (t:=.dct (ms.map en) (dV ms b)) (u:=.non) rfl rfl rfl))).trans rfl)];exact cm (aJ (al lc rfl) rfl)
theorem Rd.pick (R:Rd cs ls L P)(hn:ns.length<=63)(k:Nat):∃r v,v∈P/\ax [.scr ns,.int k,.int (P.length:Nat)] = .ok (.int r)/\aW (eS P) (.int r)= .ok (en v):=by
 have:=R.pos;obtain⟨r,e,r0,r1⟩:=db ns k (P.length:Nat) hn (by omega)
 obtain⟨t,ht,e2⟩:=rW (l:=P.map en) r0 (by rw[Ks];exact r1)
 obtain⟨v,hv,rfl⟩:=KN.mp ht;exact⟨r,v,hv,e,e2⟩
theorem AI {P:List N2}{f:En->Rs T}{Z:En}(h:f Z= .ok (eS P)):cl cx (ac f ag) Z= .ok (.int (P.length:Nat)):=aJ (ts:=[eS P]) (al h rfl) (by show Rs.ok (T.int ((P.map en).length:Nat))=_;rw[Ks])
theorem Rd.first (R:Rd cs ls L P):∃a∈P,aW (eS P) (.int 0)= .ok (en a):=by
 have:=R.pos
 match P,this with
 | a::P',_=>exact⟨a,Kr,AV (n:=0) (l:=(a::P').map en) rfl⟩
theorem Rd.last (R:Rd cs ls L P):∃a∈P,aW (eS P) (.int (-1))= .ok (en a):=by
 have hp:=R.pos
 have hne:P≠ []:=Qq.mp hp
 have hne2:P.map en≠ []:=λz=>hne (List.map_eq_nil_iff.mp z)
 refine⟨P.getLast hne,List.getLast_mem hne,(Gi (P.map en) hne2).trans ?_⟩
 simp only[Ph,Nu,Ks]
theorem EV {i j:Nat}(hi:i<P.length)(hj:j<P.length){a b c:En->Rs T}{Z:En}(ha:a Z= .ok (x8 P f))(hb:b Z= .ok (.int (i:Nat)))(hc:c Z= .ok (.int (j:Nat))):o2 aW (o2 aW a b) c Z= .ok (oI (f P[i] P[j])):=by
 refine yE (n:=j) (l:=P.map λv=>oI (f P[i] v)) (yE (n:=i) (l:=P.map (uo P f)) ha hb ?_) hc ?_
 ·rw[KP,KD hi];rfl
 ·rw[KP,KD hj];rfl
end
def D5 (v:N2):List Int:=[v.c,v.k]
theorem wQ:∀Q:List N2,Tr.rowsT (Q.map en)=some (Q.map D5)
 | [] =>rfl
 | v::Q=>by
  show(match lj [.int v.c,.int v.k],Tr.rowsT (Q.map en)with | some ns,some k=>if ns= []then none else some (ns::k) | _,_=>none)=_
  rw[wQ Q]
  rfl
theorem wL {Q:List N2}(h:Q.length<64):nX [.lst (Q.map en)] = .ok (.lst (((Q.map D5).mergeSort pE).map λns=> .tup (ns.map .int))):=by
 unfold nX;simp only[wQ Q];rw[Ks,if_pos h]
theorem xh (c k c' k':Int):cW [c,k] [c',k'] =(if c=c' then decide (k<k')else decide (c<c')):=by
 unfold cW cW cW
 by_cases h:c=c'
 ·rw[if_pos h,if_pos h]
  by_cases h2:k=k'
  ·rw[if_pos h2,h2];simp
  ·rw[if_neg h2]
 ·rw[if_neg h,if_neg h]
def D6 (t:T):List Int:=match t with
 | .tup [.int c,.int k] => [c,k]
 | _=> []
theorem Bi:∀(cs:List T) (i:Nat),(fy i cs).Pairwise λa b=>cW (D6 a) (D6 b)=true
 | [],i=>Q7
 | x::cs,i=>by
  rw[fy,List.pairwise_append];refine⟨?_,Bi cs (i+1),λa ha b hb=> ?_⟩
  ·unfold lG rng
   rw[Ll,Nc];refine List.pairwise_lt_range.imp ?_
   intro a b hab
   show cW [(i:Int),0+(a:Int)] [(i:Int),0+(b:Int)] =true
   rw[xh,if_pos rfl];exact decide_eq_true (by omega)
  ·unfold lG at ha
   obtain⟨t,ht,rfl⟩:=KN.mp ha;obtain⟨j,rfl,hj⟩:=eU ht;obtain⟨c,k,rfl,h1,_,_⟩:=lr cs (i+1) hb
   show cW [(i:Int),(j:Int)] [(c:Int),(k:Int)] =true
   rw[xh,if_neg (by omega)]
   exact decide_eq_true (by omega)
section
variable {cs ls:List T}{L:bR N2}{P:List N2}{ns:List Int}{f:cY N2}
theorem Rd.up (R:Rd cs ls L P):(P.map D5).Pairwise λa b=>pE a b=true:=by
 have h:=Bi cs 0;rw[R.e,Nc]at h;rw[Nc];refine h.imp λ{a b} hab=> ?_
 have hab:cW (D5 a) (D5 b)=true:=hab;unfold pE
 cases z:cW (D5 b) (D5 a)with
 | false=>rfl
 | true=>have:=lv _ _ _ hab z;rw[lx]at this;cases this
theorem Rd.sorted (R:Rd cs ls L P){Q:List N2}(p:Q.Perm P):nX [.lst (Q.map en)] = .ok (eS P):=by
 rw[wL (by rw[p.length_eq];have:=R.pl;omega),<-t9 ((p.symm.map D5)) R.up,Ll]
 rfl
theorem Bh (Q:List N2):(T.lst (Q.map en)).pl=true/\(T.lst (Q.map en)).dep<=60:=by
 refine⟨?_,?_⟩
 ·rw[vZ];exact og λt ht=>by obtain⟨v,_,rfl⟩:=KN.mp ht;rfl
 ·unfold T.dep
  have:deps (Q.map en)<=5:=tp λt ht=>by obtain⟨v,_,rfl⟩:=KN.mp ht;simp[en,T.dep,deps]
  omega
theorem F0 {l m:List T}(hl:(T.lst l).pl=true)(hm:(T.lst m).pl=true/\(T.lst m).dep<=60)(h:l.length≠m.length):mY (.lst l) (.lst m)= .ok (.bl true):=by
 unfold mY;rw[if_pos (vf hm.2 (T.Jw _ hl) (T.Jw _ hm.1))]
 show Rs.ok (T.bl (!beqTs l m))=_
 have jU:∀{l m:List T},l.length≠m.length->beqTs l m=false:=by
  intro l
  induction l with
  | nil=>intro m h;cases m with | nil=>exact absurd rfl h | cons _ _=>simp[beqTs]
  | cons t l ih=>intro m h;cases m with | nil=>simp[beqTs] | cons u m=>rw[beqTs,ih (m:=m) (λz=>h (by simp[z]))];simp
 rw[jU h];rfl
theorem Rd.JK (R:Rd cs ls L P){Q:List N2}(h:Q.length<64)(hne:Q.length≠P.length):∃l,nX [.lst (Q.map en)] = .ok (.lst l)/\mY (.lst l) (eS P)= .ok (.bl true):=by
 refine⟨_,wL h,F0 ?_ (Bh P) ?_⟩
 ·rw[vZ]
  refine og λt ht=> ?_
  obtain⟨ns,_,rfl⟩:=KN.mp ht;rw[rS];exact og λt ht=>by obtain⟨i,_,rfl⟩:=KN.mp ht;rfl
 ·rw[Ks,List.length_mergeSort,Ks,Ks];exact hne
def cH:List N2->bR N2
 | a::b::r=>(b,a,0)::cH (b::r)
 | _=> []
theorem wS:∀(Q:List N2) (k:Nat) {a b:N2},Q[k]? =some a->Q[k+1]? =some b->(cH Q)[k]? =some (b,a,0)
 | [],_,_,_,h,_=>by cases h
 | [x],0,_,_,_,h=>by cases h
 | [x],k+1,_,_,h,_=>by cases h
 | x::y::r,0,a,b,h,g=>by cases h;cases g;rfl
 | x::y::r,k+1,a,b,h,g=>by
  show(cH (y::r))[k]? =_
  exact wS (y::r) k (by simpa using h) (by simpa using g)
theorem io:∀Q:List N2,(cH Q).length=Q.length - 1
 | [] =>rfl
 | [x] =>rfl
 | x::y::r=>by rw[cH,Kx,io (y::r)];simp
theorem uq:∀Q:List N2,(Q.zip (Q.drop 1)).map (λp=>((p.2,p.1,0):N2×N2×Int))=cH Q
 | [] =>rfl
 | [x] =>rfl
 | x::y::r=>by
  have:=uq (y::r);rw[cH,<-this]
  rfl
theorem ur {Q:List N2}:∀x∈cH Q,x.1∈Q/\x.2.1∈Q/\x.2.2=0:=by
 induction Q with
 | nil=>intro x hx;cases hx
 | cons a Q ih=>
  cases Q with
  | nil=>intro x hx;cases hx
  | cons b r=>
   intro x hx;rcases Ky.mp hx with rfl | hx
   ·exact⟨by simp,by simp,rfl⟩
   ·obtain⟨h1,h2,h3⟩:=ih x hx
    exact⟨Ko _ h1,Ko _ h2,h3⟩
def riT (Q:List N2)(t:T):T:=match t with
 | .int k=>match(cH Q)[k.toNat]? with
  | some x=>eB x
  | none=> .non
 | _=> .non
theorem EX (Q:List N2):(rng 0 ((Q.length - 1:Nat):Int)).map (riT Q)=(cH Q).map eB:=by
 apply List.ext_getElem?
 intro k;unfold rng;rw[KP,KP,KP]
 by_cases h:k<Q.length - 1
 ·have hk:k<(cH Q).length:=by rw[io];exact h
  have e:(cH Q)[k]? =some (cH Q)[k]:=KD hk
  rw[KD (by rw[L9];omega),QM,e]
  show some (match(cH Q)[(0+(k:Int)).toNat]? with | some x=>eB x | none=>T.non)=_
  rw[show(0+(k:Int)).toNat=k by omega,e]
  rfl
 ·rw[MF (by rw[L9];omega),MF (by rw[io];omega)]
  rfl
theorem Rd.JV (R:Rd cs ls L P){Q:List N2}(p:Q.Perm P):DJ (L++cH Q) P:=by
 have hs:=wP R.bg
 have ll:=R.ll
 have pl:=R.pl
 have hq:Q.length=P.length:=p.length_eq;refine⟨?_,?_,λx hx=> ?_,by omega⟩
 ·rw[Kw,io];omega
 ·have:((cH Q).map λx:N2×N2×Int=>x.2.2.natAbs).sum=0:=by
   have:∀l:bR N2,(∀x∈l,x.2.2=0)->(l.map λx:N2×N2×Int=>x.2.2.natAbs).sum=0:=λl=>by
    induction l with
    | nil=>intro _;rfl
    | cons a l ih=>intro h;rw[Kp,Mg,ih λx hx=>h x (Ko _ hx),h a Kr];rfl
   exact this _ λx hx=>(ur x hx).2.2
  unfold size at hs ⊢;rw[K5,List.sum_append];omega
 ·rcases K4.mp hx with hx | hx
  ·exact R.f.ends x hx
  ·obtain⟨h1,h2,_⟩:=ur x hx
   exact⟨p.mem_iff.mp h1,p.mem_iff.mp h2⟩
end
def dG (o:Option Int):Bool:=match o with
 | some y=>decide (y<0)
 | none=>false
def jc (o:Option Int):Bool:=match o with
 | some y=>decide (y > 0)
 | none=>true
theorem Ii {g:T->Rs T}{fa:En->Rs T}{Z:En}{c:Str}(ha:fa Z= .err c):o1 g fa Z= .err c:=by unfold o1;rw[ha];rfl
theorem Ei {i:Nat}{o:Option Int}{Z:En}(h:vr i Z= .ok (oI o)):bW (o2 cQ (vr i) (cn .non)) (o2 mI (vr i) (cn (.int 0))) Z= .ok (.bl (dG o)):=by
 cases o with
 | none=>exact sS (az (t:=.non) (u:=.non) h rfl rfl)
 | some y=>exact(sT (az (t:=.int y) (u:=.non) h rfl rfl)).trans (az (t:=.int y) (u:=.int 0) h rfl rfl)
theorem Bo {i:Nat}{o:Option Int}{Z:En}(h:vr i Z= .ok (oI o)):qI (o2 fE (vr i) (cn .non)) (o2 BR (vr i) (cn (.int 0))) Z= .ok (.bl (jc o)):=by
 cases o with
 | none=>exact sP (az (t:=.non) (u:=.non) h rfl rfl)
 | some y=>exact(sQ (az (t:=.int y) (u:=.non) h rfl rfl)).trans (az (t:=.int y) (u:=.int 0) h rfl rfl)
theorem IC {i:Nat}{o:Option Int}{Z:En}(h:vr i Z= .ok (ngI o)):bW (o2 cQ (vr i) (cn .non)) (o2 BR (vr i) (cn (.int 0))) Z= .ok (.bl (dG o)):=by
 cases o with
 | none=>exact sS (az (t:=.non) (u:=.non) h rfl rfl)
 | some y=>
  refine(sT (az (t:=.int (0 - y)) (u:=.non) h rfl rfl)).trans (az (t:=.int (0 - y)) (u:=.int 0) h rfl ?_)
  show Rs.ok (T.bl (decide (0 - y > 0)))= .ok (.bl (decide (y<0)))
  congr 2
  exact decide_eq_decide.mpr (by omega)
def word (f:cY N2)(a c:N2):Str:=if dG (f c a)then "ahead" else if dG (f a c)then "behind" else if jc (f a c)||jc (f c a)then "open" else "at once"
def qk (f:cY N2)(a c:N2):T:=.lst [.bl (dG (f c a)),.bl (jc (f a c)),.bl (!dG (f c a)&& !dG (f a c)),.str (word f a c)]
section
variable {cs ls:List T}{L:bR N2}{P:List N2}{ns:List Int}{f:cY N2}
theorem Rd.Jz (R:Rd cs ls L P)(n:cC L)(F:ge L P f){a c:N2}(ha:a∈P)(hc:c∈P):aU [RR cs ls,en a,en c] = .ok (.bl (dG (f c a))):=by
 refine bz rfl ?_
 show dQ [.va (RR cs ls),.va (en a),.va (en c),.em] =_
 unfold dQ;rw[ar (Z':=[.va (RR cs ls),.va (en a),.va (en c),.va (ngI (f c a))]) (bM (aJ (ts:=[RR cs ls,en a,en c]) rfl (R.J6 n F ha hc)) rfl)];exact cm (IC rfl)
theorem Rd.JM (R:Rd cs ls L P)(n:cC L)(F:ge L P f){a c:N2}(ha:a∈P)(hc:c∈P):bo [RR cs ls,en a,en c] = .ok (.bl (jc (f a c))):=by
 refine bz rfl ?_
 show d6 [.va (RR cs ls),.va (en a),.va (en c),.em] =_
 unfold d6;rw[ar (Z':=[.va (RR cs ls),.va (en a),.va (en c),.va (oI (f a c))]) (bM (aJ (ts:=[RR cs ls,en a,en c]) rfl (R.JU n F ha hc)) rfl)];exact cm (Bo rfl)
theorem Rd.once (R:Rd cs ls L P)(n:cC L)(F:ge L P f){a c:N2}(ha:a∈P)(hc:c∈P):bA [RR cs ls,en a,en c] = .ok (.bl (!dG (f c a)&& !dG (f a c))):=by
 refine bz rfl ?_
 exact cm (xH (sR (aJ (ts:=[RR cs ls,en a,en c]) rfl (R.Jz n F ha hc))) λ_=>sR (aJ (ts:=[RR cs ls,en c,en a]) rfl (R.Jz n F hc ha)))
theorem Rd.Kg (R:Rd cs ls L P)(n:cC L)(F:ge L P f){a c:N2}(ha:a∈P)(hc:c∈P):dR [RR cs ls,en a,en c] = .ok (.str (word f a c)):=by
 refine bz rfl ?_
 show iu [.va (RR cs ls),.va (en a),.va (en c)] =_
 unfold iu word
 have s1:=bB (Z:=[.va (RR cs ls),.va (en a),.va (en c)]) (aJ (fs:=ac (vr 0) (ac (vr 1) (ac (vr 2) ag))) (ts:=[RR cs ls,en a,en c]) rfl (R.Jz n F ha hc))
 have s2:=bB (Z:=[.va (RR cs ls),.va (en a),.va (en c)]) (aJ (fs:=ac (vr 0) (ac (vr 2) (ac (vr 1) ag))) (ts:=[RR cs ls,en c,en a]) rfl (R.Jz n F hc ha))
 have s3:=k_or (Z:=[.va (RR cs ls),.va (en a),.va (en c)]) (bB (aJ (fs:=ac (vr 0) (ac (vr 1) (ac (vr 2) ag))) (ts:=[RR cs ls,en a,en c]) rfl (R.JM n F ha hc))) λ_=>(bB (aJ (fs:=ac (vr 0) (ac (vr 2) (ac (vr 1) ag))) (ts:=[RR cs ls,en c,en a]) rfl (R.JM n F hc ha)))
 cases q1:dG (f c a)with
 | true=>rw[q1]at s1;exact gG ((dU s1).trans rfl)
 | false=>
  rw[q1]at s1;rw[ar ((cR s1).trans rfl)]
  cases q2:dG (f a c)with
  | true=>rw[q2]at s2;exact gG ((dU s2).trans rfl)
  | false=>
   rw[q2]at s2;rw[ar ((cR s2).trans rfl)]
   cases q3:(jc (f a c)||jc (f c a))with
   | true=>rw[q3]at s3;exact gG ((dU s3).trans rfl)
   | false=>
    rw[q3]at s3;rw[ar ((cR s3).trans rfl)]
    rfl
theorem Ej {a c:N2}(ha:a∈P)(hc:c∈P):dN [fz P f,en a,en c] = .ok (qk f a c):=by
 refine bz rfl ?_
 show kP [.va (fz P f),.va (en a),.va (en c),.em,.em,.em,.em,.em,.em] =_
 unfold kP;rw[ar (Z':=[.va (fz P f),.va (en a),.va (en c),.va (oI (f a c)),.em,.em,.em,.em,.em]) (bM (rA (P:=P) (f:=f) (u:=a) (v:=c) rfl rfl rfl ha hc) rfl)];rw[ar (Z':=[.va (fz P f),.va (en a),.va (en c),.va (oI (f a c)),.va (oI (f c a)),.em,.em,.em,.em]) (bM (rA (P:=P) (f:=f) (u:=c) (v:=a) rfl rfl rfl hc ha) rfl)];rw[ar (Z':=[.va (fz P f),.va (en a),.va (en c),.va (oI (f a c)),.va (oI (f c a)),.va (.bl (dG (f c a))),.em,.em,.em]) (bM (Ei rfl) rfl)]
 rw[ar (Z':=[.va (fz P f),.va (en a),.va (en c),.va (oI (f a c)),.va (oI (f c a)),.va (.bl (dG (f c a))),.va (.bl (dG (f a c))),.em,.em]) (bM (Ei rfl) rfl)]
 have ap:qI (o2 fE (vr 3) (cn .non)) (qI (o2 BR (vr 3) (cn (.int 0))) (qI (o2 fE (vr 4) (cn .non)) (o2 BR (vr 4) (cn (.int 0))))) [.va (fz P f),.va (en a),.va (en c),.va (oI (f a c)),.va (oI (f c a)),.va (.bl (dG (f c a))),.va (.bl (dG (f a c))),.em,.em] = .ok (.bl (jc (f a c)||jc (f c a))):=by
  have e4:=Bo (i:=4) (o:=f c a) (Z:=[.va (fz P f),.va (en a),.va (en c),.va (oI (f a c)),.va (oI (f c a)),.va (.bl (dG (f c a))),.va (.bl (dG (f a c))),.em,.em]) rfl
  cases f a c with
  | none=>exact sP (az (t:=.non) (u:=.non) rfl rfl rfl)
  | some y=>exact(sQ (az (t:=.int y) (u:=.non) rfl rfl rfl)).trans (Ge (az (t:=.int y) (u:=.int 0) rfl rfl rfl) λ_=>e4)
 rw[ar (Z':=[.va (fz P f),.va (en a),.va (en c),.va (oI (f a c)),.va (oI (f c a)),.va (.bl (dG (f c a))),.va (.bl (dG (f a c))),.va (.bl (jc (f a c)||jc (f c a))),.em]) (bM ap rfl)]
 have wd:sV (tb (vr 5)) (cn (.str "ahead")) (sV (tb (vr 6)) (cn (.str "behind")) (sV (tb (vr 7)) (cn (.str "open")) (cn (.str "at once")))) [.va (fz P f),.va (en a),.va (en c),.va (oI (f a c)),.va (oI (f c a)),.va (.bl (dG (f c a))),.va (.bl (dG (f a c))),.va (.bl (jc (f a c)||jc (f c a))),.em] = .ok (.str (word f a c)):=by
  unfold word;refine(ja (bB rfl)).trans ?_
  cases dG (f c a)with
  | true=>rfl
  | false=>
   refine(ja (bB rfl)).trans ?_
   cases dG (f a c)with
   | true=>rfl
   | false=>
    refine(ja (bB rfl)).trans ?_
    cases jc (f a c)||jc (f c a) <;> rfl
 rw[ar (Z':=[.va (fz P f),.va (en a),.va (en c),.va (oI (f a c)),.va (oI (f c a)),.va (.bl (dG (f c a))),.va (.bl (dG (f a c))),.va (.bl (jc (f a c)||jc (f c a))),.va (.str (word f a c))]) (bM wd rfl)]
 exact cm (fS (al rfl (al (Bo rfl) (al (xH (sR rfl) λ_=>sR rfl) rfl))) (aq (k:=4) (by simp)))
def ze (cs ls:List T)(P:List N2)(f:cY N2)(acc:List T)(s4 s5 s6 s7:Sl):En:=[.va (RR cs ls),.va (x8 P f),.va (eS P),.ow (.lst acc),s4,s5,s6,s7]
abbrev spI:En->Rs Fl:=(d9 (qm (tb (o2 cQ (o2 aW (o2 aW (vr 1) (vr 6)) (vr 4)) (cn .non))) (tb (o2 mI (o2 aW (o2 aW (vr 1) (vr 6)) (vr 4)) (cn (.int 0))))) (gL 3 (aL (ac (vr 5) (ac (vr 7) ag)))) sN)
def pairsOf (f:cY N2)(a:N2)(Q:List N2):List T:=(Q.filter λc=>dG (f c a)).map λc=> .tup [en a,en c]
theorem DW {i:Nat}(hi:i<P.length)(pl:P.length<=16):∀(Q:List N2) (j:Nat) (acc:List T) (s6 s7:Sl),P.drop j=Q->acc.length+Q.length<=1000->∃s6' s7',
  a9 (gT 2 (dY (gN 6) (dY (gN 7) kQ))) spI (ca j (Q.map en)) (ze cs ls P f acc (.va (.int (i:Nat))) (.va (en P[i])) s6 s7)= .ok (.nx (ze cs ls P f (acc++pairsOf f P[i] Q) (.va (.int (i:Nat))) (.va (en P[i])) s6' s7'))
 | [],j,acc,s6,s7,_,_=>⟨s6,s7,by unfold pairsOf;simp only[N9,Sn,Lc];rfl⟩
 | c::Q,j,acc,s6,s7,hd,hl=>by
  have hj:P[j]? =some c:=by rw[<-PX,hd];rfl
  obtain⟨hj',ej⟩:=KC.mp hj
  rw[Kx]at hl
  have st:∃acc',acc'=(acc++pairsOf f P[i] [c])/\acc'.length<=acc.length+1/\spI (ze cs ls P f acc (.va (.int (i:Nat))) (.va (en P[i])) (.va (.int (j:Nat))) (.va (en c)))= .ok (.nx (ze cs ls P f acc' (.va (.int (i:Nat))) (.va (en P[i])) (.va (.int (j:Nat))) (.va (en c)))):=by
   have ev:o2 aW (o2 aW (vr 1) (vr 6)) (vr 4) (ze cs ls P f acc (.va (.int (i:Nat))) (.va (en P[i])) (.va (.int (j:Nat))) (.va (en c)))= .ok (oI (f c P[i])):=by
    rw[<-ej];exact EV hj' hi rfl rfl rfl
   unfold pairsOf
   cases q:f c P[i]with
   | none=>
    rw[q]at ev
    refine⟨acc,by simp[q,dG],by omega,(cR (AZ (bB (az (t:=.non) (u:=.non) ev rfl rfl)))).trans rfl⟩
   | some y=>
    rw[q]at ev
    have t1:=wq (bB (az (g:=cQ) (fb:=cn .non) (t:=.int y) (u:=.non) ev rfl rfl)) (bB (az (g:=mI) (fb:=cn (.int 0)) (t:=.int y) (u:=.int 0) ev rfl rfl))
    replace t1:_=Rs.ok (decide (y<0)):=t1
    by_cases hy:y<0
    ·rw[decide_eq_true hy]at t1
     refine⟨acc++ [.tup [en P[i],en c]],by simp[q,dG,hy],by simp,(dU t1).trans (lA (l:=acc) (p2 rfl rfl) rfl (by omega))⟩
    ·rw[decide_eq_false hy]at t1
     exact⟨acc,by simp[q,dG,hy],by omega,(cR t1).trans rfl⟩
  obtain⟨acc',ea,la,st⟩:=st;obtain⟨a,b,ih⟩:=DW hi pl Q (j+1) acc' (.va (.int (j:Nat))) (.va (en c)) (by rw[<-Qe,hd];rfl) (by omega)
  refine⟨a,b,?_⟩
  have g:gT 2 (dY (gN 6) (dY (gN 7) kQ)) (.tup [.int (j:Nat),en c]) (ze cs ls P f acc (.va (.int (i:Nat))) (.va (en P[i])) s6 s7)= .ok (ze cs ls P f acc (.va (.int (i:Nat))) (.va (en P[i])) (.va (.int (j:Nat))) (.va (en c))):=rfl;rw[Kp,ca,cz g st,ih,ea,KR]
  have:pairsOf f P[i] [c] ++pairsOf f P[i] Q=pairsOf f P[i] (c::Q):=by unfold pairsOf;rw[<-K5,<-List.filter_append];rfl
  rw[this]
abbrev spO:En->Rs Fl:=(dD (iE (ac (vr 2) ag)) (gT 2 (dY (gN 6) (dY (gN 7) kQ))) spI)
theorem qH (f:cY N2)(a:N2)(Q:List N2):(pairsOf f a Q).length<=Q.length:=by unfold pairsOf;rw[Ks];exact List.length_filter_le _ _
theorem zD (pl:P.length<=16):∀(Q:List N2) (i:Nat) (acc:List T) (s4 s5 s6 s7:Sl),P.drop i=Q->acc.length+16*Q.length<=900->∃s4' s5' s6' s7',
  a9 (gT 2 (dY (gN 4) (dY (gN 5) kQ))) spO (ca i (Q.map en)) (ze cs ls P f acc s4 s5 s6 s7)= .ok (.nx (ze cs ls P f (acc++Q.flatMap λa=>pairsOf f a P) s4' s5' s6' s7'))
 | [],i,acc,s4,s5,s6,s7,_,_=>⟨s4,s5,s6,s7,by simp only[Pt,Lc];rfl⟩
 | c::Q,i,acc,s4,s5,s6,s7,hd,hl=>by
  have hi:P[i]? =some c:=by rw[<-PX,hd];rfl
  obtain⟨hi',ei⟩:=KC.mp hi
  rw[Kx]at hl;obtain⟨a6,a7,st⟩:=DW (cs:=cs) (ls:=ls) (f:=f) hi' pl P 0 acc s6 s7 rfl (by omega)
  rw[ei]at st
  have hlen:=qH f c P;obtain⟨b4,b5,b6,b7,ih⟩:=zD pl Q (i+1) (acc++pairsOf f c P) (.va (.int (i:Nat))) (.va (en c)) a6 a7 (by rw[<-Qe,hd];rfl) (by rw[Kw];omega)
  refine⟨b4,b5,b6,b7,?_⟩
  have g:gT 2 (dY (gN 4) (dY (gN 5) kQ)) (.tup [.int (i:Nat),en c]) (ze cs ls P f acc s4 s5 s6 s7)= .ok (ze cs ls P f acc (.va (.int (i:Nat))) (.va (en c)) s6 s7):=rfl;rw[Kp,ca,cz g (dm (xE (l:=P.map en) rfl) st),ih,KR,Ma]
def fV (P:List N2)(f:cY N2):List T:=P.flatMap λa=>pairsOf f a P
theorem Rd.JX (R:Rd cs ls L P)(n:cC L)(F:ge L P f):cJ [RR cs ls] = .ok (.lst (fV P f)):=by
 refine bz rfl ?_
 show ff [.va (RR cs ls),.em,.em,.em,.em,.em,.em,.em] =_
 unfold ff;rw[ar (Z':=[.va (RR cs ls),.va (x8 P f),.em,.em,.em,.em,.em,.em]) (bM (aJ (ts:=[RR cs ls]) rfl (R.Kh n F)) rfl)];rw[ar (Z':=[.va (RR cs ls),.va (x8 P f),.va (eS P),.em,.em,.em,.em,.em]) (bM (aJ (ts:=[RR cs ls]) rfl R.events) rfl)];rw[ar (Z':=ze cs ls P f [] .em .em .em .em) (l9 (by simp))]
 obtain⟨b4,b5,b6,b7,e⟩:=zD (cs:=cs) (ls:=ls) (f:=f) R.pl P 0 [] .em .em .em .em rfl (by have:=R.pl;simp;omega)
 rw[LD]at e;rw[ar (dm (xE (l:=P.map en) rfl) e)]
 rfl
theorem Rd.JO (R:Rd cs ls L P)(l:List T)(s3:Sl):∀(Q:List N2) (s2:Sl),(∀v∈Q,v∈P)->∃s2',a9 (gN 2) (tM (cl ci (ac (vr 0) (ac (vr 2) ag)))) (Q.map en) [.va (RR cs ls),.va (.lst l),s2,s3] = .ok (.nx [.va (RR cs ls),.va (.lst l),s2',s3])
 | [],s2,_=>⟨s2,rfl⟩
 | v::Q,s2,h=>by
  obtain⟨a,ih⟩:=R.JO l s3 Q (.va (en v)) λw hw=>h w (Ko _ hw)
  refine⟨a,?_⟩
  have g:gN 2 (en v) [.va (RR cs ls),.va (.lst l),s2,s3] = .ok [.va (RR cs ls),.va (.lst l),.va (en v),s3]:=rfl;rw[Kp,cz g (kK (t:=.non) (aJ (ts:=[RR cs ls,en v]) rfl (nu R.g rfl (R.ev (h v Kr))))),ih]
theorem Rd.JY (R:Rd cs ls L P){Q:List N2}(hq:∀v∈Q,v∈P)(h:Q.length<64)(hne:Q.length≠P.length):bK [RR cs ls,.lst (Q.map en)] = .ok (.bl false):=by
 refine bz rfl ?_
 show dh [.va (RR cs ls),.va (.lst (Q.map en)),.em,.em] =_
 unfold dh;rw[ar (kK (t:=.non) (aJ (ts:=[RR cs ls]) rfl (gD R.g.p R.g.ok)))];obtain⟨s2,e⟩:=R.JO (Q.map en) .em Q .em hq;rw[ar (dm (kA rfl) e)];obtain⟨l,e1,e2⟩:=R.JK h hne;exact gG ((dU (bB (az (t:=.lst l) (u:=eS P) (aJ (ts:=[.lst (Q.map en)]) rfl e1) (aJ (ts:=[RR cs ls]) rfl R.events) e2))).trans rfl)
theorem Rd.fits (R:Rd cs ls L P){Q:List N2}(p:Q.Perm P):(¬cC (L++cH Q)/\bK [RR cs ls,.lst (Q.map en)] = .ok (.bl false))\/(cC (L++cH Q)/\bK [RR cs ls,.lst (Q.map en)] = .ok (.bl true)):=by
 have hql:Q.length<=16:=by rw[p.length_eq];exact R.pl
 have hpos:0<Q.length:=by rw[p.length_eq];exact R.pos
 have wrap:∀{w:T} {b:Bool},br [RR cs ls,eL (L++cH Q)] = .ok w->cQ w .non= .ok (.bl b)->bK [RR cs ls,.lst (Q.map en)] = .ok (.bl b):=λ{w b} hw hb=>by
  refine bz rfl ?_
  show dh [.va (RR cs ls),.va (.lst (Q.map en)),.em,.em] =_
  unfold dh;rw[ar (kK (t:=.non) (aJ (ts:=[RR cs ls]) rfl (gD R.g.p R.g.ok)))];obtain⟨s2,e⟩:=R.JO (Q.map en) .em Q .em λv hv=>p.mem_iff.mp hv
  rw[ar (dm (kA rfl) e)];rw[ar (Z':=[.va (RR cs ls),.va (.lst (Q.map en)),s2,.em]) ((cR (bB (az (t:=eS P) (u:=eS P) (aJ (ts:=[.lst (Q.map en)]) rfl (R.sorted p)) (aJ (ts:=[RR cs ls]) rfl R.events) (iB (Bh P).1 (Bh P).2)))).trans rfl)]
  have ln:cl cx (ac (vr 1) ag) [.va (RR cs ls),.va (.lst (Q.map en)),s2,.em] = .ok (.int (Q.length:Nat)):=aJ (ts:=[.lst (Q.map en)]) rfl (by show Rs.ok (T.int ((Q.map en).length:Nat))=_;rw[Ks])
  have lc:eG (iR (ac (o2 eO (cl cx (ac (vr 1) ag)) (cn (.int 1))) ag)) [none,some 1] (gN 0) bT (aL (ac (o2 aW (vr 1) (o2 aV (vr 0) (cn (.int 1)))) (ac (o2 aW (vr 1) (vr 0)) (ac (cn (.int 0)) ag)))) [.va (RR cs ls),.va (.lst (Q.map en)),s2,.em] = .ok (.lst ((rng 0 ((Q.length - 1:Nat):Int)).map (riT Q))):=
   md (ts:=rng 0 ((Q.length - 1:Nat):Int)) (yI (j:=((Q.length - 1:Nat):Int)) (al (az (t:=.int (Q.length:Nat)) (u:=.int 1) ln rfl (by show Rs.ok (T.int ((Q.length:Int) - 1))=_;congr 2;omega)) rfl) (by omega) (by omega)) (aq (k:=16) (by rw[gQ];omega)) (by simp) λt ht=>by
    obtain⟨k,rfl,hk⟩:=eU ht
    have hk':k+1<Q.length:=by omega
    have e1:Q[k]? =some Q[k]:=KD (by omega)
    have e2:Q[k+1]? =some Q[k+1]:=KD hk'
    have er:=wS Q k e1 e2
    have:riT Q (.int (k:Nat))=eB (Q[k+1],Q[k],0):=by
     show(match(cH Q)[((k:Nat):Int).toNat]? with | some x=>eB x | none=>T.non)=_
     rw[LH,er]
    rw[this];exact cy (al (AW (n:=k+1) (l:=Q.map en) rfl (az (t:=.int (k:Nat)) (u:=.int 1) rfl rfl rfl) (by rw[KP,e2];rfl)) (al (AW (n:=k) (l:=Q.map en) rfl rfl (by rw[KP,e1];rfl)) rfl)) (aq (k:=3) (by simp))
  rw[EX]at lc;rw[ar (Z':=[.va (RR cs ls),.va (.lst (Q.map en)),s2,.va (eL (cH Q))]) (bM lc rfl)];refine cm (az (t:=w) (u:=.non) (aJ (ts:=[RR cs ls,eL (L++cH Q)]) (al rfl (al (az (t:=eL L) (u:=eL (cH Q)) (aJ (ts:=[RR cs ls]) rfl R.bounds) rfl ?_) rfl)) hw) rfl hb)
  unfold eL;rw[iK _ _ (by rw[Kw,Ks,Ks,io];have:=R.ll;omega),K5]
 rcases R.gw (R.JV p)with⟨n2,e⟩ | ⟨n2,t,h,e⟩
 ·exact .inl ⟨n2,wrap e rfl⟩
 ·exact .inr ⟨n2,wrap e rfl⟩
end
def IW (k:Nat)(R t u:T):Rs T:=match k with
 | 0=>aU [R,t,u]
 | 1=>bo [R,t,u]
 | 2=>bA [R,t,u]
 | 3=>dR [R,t,u]
 | 4=>cJ [R]
 | _=>bK [R,t]
abbrev GU:En->Rs Fl:=(aw (d9 (tb (o2 mI (vr 0) (cn (.int 4)))) (aI (vP [aU,bo,bA,dR] (vr 0) (ac (vr 1) (ac (vr 2) (ac (vr 3) ag))))) sN) (aI (sV (tb (o2 qi (vr 0) (cn (.int 4)))) (cl cJ (ac (vr 1) ag)) (cl bK (ac (vr 1) (ac (vr 2) ag))))))
def ET (x:Rs T):Rs Fl:=match x with
 | .ok r=> .ok (.rt r)
 | .err e=> .err e
 | .bad=> .bad
theorem zM {fa:En->Rs T}{Z:En}{x:Rs T}(h:fa Z=x):aI fa Z=ET x:=by
 unfold aI ET;rw[h];cases x <;> rfl
theorem EO {F H:En->Rs Fl}{Z:En}{x:Rs T}(h:F Z=ET x):aw F H Z=ET x:=by
 unfold aw;rw[h];cases x <;> rfl
theorem zq {k:Nat}(hk:k<6)(R t u:T):GU [.va (.int (k:Nat)),.va R,.va t,.va u,.em] =ET (IW k R t u):=by
 have lo:∀{g:List T->Rs T},k<4->[aU,bo,bA,dR][k]? =some g->GU [.va (.int (k:Nat)),.va R,.va t,.va u,.em] =ET (g [R,t,u]):=λ{g} h3 hg=>by
  have c:tb (o2 mI (vr 0) (cn (.int 4))) [.va (.int (k:Nat)),.va R,.va t,.va u,.em] = .ok true:=bB (az (t:=.int (k:Nat)) (u:=.int 4) rfl rfl (by show Rs.ok (T.bl (decide ((k:Int)<4)))=_;rw[decide_eq_true (by omega)]))
  exact EO ((dU c).trans (zM (Gd (i:=k) rfl hg rfl rfl)))
 have hi:∀{x:Rs T},¬k<4->sV (tb (o2 qi (vr 0) (cn (.int 4)))) (cl cJ (ac (vr 1) ag)) (cl bK (ac (vr 1) (ac (vr 2) ag))) [.va (.int (k:Nat)),.va R,.va t,.va u,.em] =x->GU [.va (.int (k:Nat)),.va R,.va t,.va u,.em] =ET x:=λ{x} h3 hx=>by
  have c:tb (o2 mI (vr 0) (cn (.int 4))) [.va (.int (k:Nat)),.va R,.va t,.va u,.em] = .ok false:=bB (az (t:=.int (k:Nat)) (u:=.int 4) rfl rfl (by show Rs.ok (T.bl (decide ((k:Int)<4)))=_;rw[decide_eq_false (by omega)]))
  exact(ar ((cR c).trans rfl)).trans (zM hx)
 match k,hk with
 | 0,_=>exact lo (g:=aU) (by omega) rfl
 | 1,_=>exact lo (g:=bo) (by omega) rfl
 | 2,_=>exact lo (g:=bA) (by omega) rfl
 | 3,_=>exact lo (g:=dR) (by omega) rfl
 | 4,_=>exact hi (by omega) ((ja (p:=true) (bB (az (t:=.int 4) (u:=.int 4) rfl rfl (nE rfl (by simp[T.dep]))))).trans rfl)
 | 5,_=>exact hi (by omega) ((ja (p:=false) (bB (az (t:=.int 5) (u:=.int 4) rfl rfl rfl))).trans rfl)
theorem iy {k:Nat}(hk:k<6){R t u r:T}(h:IW k R t u= .ok r):aB [.int (k:Nat),R,t,u] = .ok r:=by
 have e:=zq hk R t u;rw[h]at e;exact bz rfl (Ie (F:=GU) (k:=.rt r) e)
theorem nj {k:Nat}(hk:k<6){R t u r:T}{e:Str}(h:IW k R t u= .err e)(hr:m6 e= .ok r):aB [.int (k:Nat),R,t,u] = .ok r:=by
 have e:=zq hk R t u;rw[h]at e;exact bz rfl (Gc (F:=GU) e hr)
theorem ER {R t u:T}{e:Str}(h:aM [R,u,t] = .err e):aU [R,t,u] = .err e:=by
 refine cX rfl ?_
 show dQ [.va R,.va t,.va u,.em] =_
 unfold dQ;exact fY (xG (aJ (ts:=[R,t,u]) rfl (lb_e h)))
theorem ma_e {R t u:T}{e:Str}(h:aM [R,t,u] = .err e):bo [R,t,u] = .err e:=by
 refine cX rfl ?_
 show d6 [.va R,.va t,.va u,.em] =_
 unfold d6;exact fY (xG (aJ (ts:=[R,t,u]) rfl h))
theorem mo_e {R t u:T}{e:Str}(h:aM [R,u,t] = .err e):bA [R,t,u] = .err e:=cX rfl (wo (Db (Ii (aJ (ts:=[R,t,u]) rfl (ER h)))))
theorem ve_e {R t u:T}{e:Str}(h:aM [R,u,t] = .err e):dR [R,t,u] = .err e:=by
 refine cX rfl ?_
 show iu [.va R,.va t,.va u] =_
 unfold iu;exact fY (AX (Ed (aJ (ts:=[R,t,u]) rfl (ER h))))
theorem G5 {R:T}{e:Str}(h:bU [R] = .err e):cJ [R] = .err e:=by
 have h2:gE [R] = .err e:=by
  refine cX rfl ?_
  show gK [.va R,.em,.em,.em,.em] =_
  unfold gK;exact fY (mL (aJ (ts:=[R]) rfl h))
 refine cX rfl ?_
 show ff [.va R,.em,.em,.em,.em,.em,.em,.em] =_
 unfold ff;exact fY (xG (aJ (ts:=[R]) rfl h2))
theorem sX {R t u:T}{e:Str}(h:aM [R,t,u] = .err e)(h2:aM [R,u,t] = .err e){k:Nat}(hk:k<4):IW k R t u= .err e:=by
 match k,hk with
 | 0,_=>exact ER h2
 | 1,_=>exact ma_e h
 | 2,_=>exact mo_e h2
 | 3,_=>exact ve_e h2
theorem DA {R t u:T}(hp:R.pl=true)(h:iq R=false){k:Nat}(hk:k<6):aB [.int (k:Nat),R,t,u] = .ok (dC 0):=by
 refine nj hk (e:="NoRecord") ?_ r0
 by_cases h4:k<4
 ·exact sX (yx (IG hp h)) (yx (IG hp h)) h4
 ·by_cases h5:k=4
  ·subst h5;exact G5 (FZ hp h)
  ·have:k=5:=by omega
   subst this
   show bK [R,t] =_
   refine cX rfl ?_
   show dh [.va R,.va t,.em,.em] =_
   unfold dh;exact fY (mL (aJ (ts:=[R]) rfl (l0 hp h)))
section
variable {cs ls:List T}{L:bR N2}{P:List N2}{ns:List Int}{f:cY N2}
theorem Rd.no1 (R:Rd cs ls L P){a:N2}(ha:a∈P){t:T}(hp:t.pl=true)(h:aQ cs t=false){k:Nat}(hk:k<4):aB [.int (k:Nat),RR cs ls,t,en a] = .ok (dC 1):=
 nj (by omega) (e:="NoEvent") (sX (yx (R.J9 hp h)) (yx (R.Kf ha hp h)) hk) r1
theorem Rd.no2 (R:Rd cs ls L P){a:N2}(ha:a∈P){t:T}(hp:t.pl=true)(h:aQ cs t=false){k:Nat}(hk:k<4):aB [.int (k:Nat),RR cs ls,en a,t] = .ok (dC 1):=
 nj (by omega) (e:="NoEvent") (sX (yx (R.Kf ha hp h)) (yx (R.J9 hp h)) hk) r1
theorem Rd.JR (R:Rd cs ls L P)(n:¬ cC L){a c:N2}(ha:a∈P)(hc:c∈P){k:Nat}(hk:k<5):aB [.int (k:Nat),RR cs ls,en a,en c] = .ok (dC 3):=by
 refine nj (by omega) (e:="NoWorld") ?_ r3
 have w:=R.now n
 by_cases h4:k<4
 ·exact sX (HV (R.JP ha hc) w) (HV (R.JP hc ha) w) h4
 ·have:k=4:=by omega
  subst this;exact G5 w
def IX (f:cY N2)(a c:N2)(t:T):T:=match t with
 | .int k=>(match k.toNat with
  | 0=> .bl (dG (f c a))
  | 1=> .bl (jc (f a c))
  | 2=> .bl (!dG (f c a)&& !dG (f a c))
  | _=> .str (word f a c))
 | _=> .non
theorem Bx (f:cY N2)(a c:N2):T.lst ((rng 0 4).map (IX f a c))=qk f a c:=rfl
theorem Rd.JT (R:Rd cs ls L P)(n:cC L)(F:ge L P f){a c:N2}(ha:a∈P)(hc:c∈P){k:Nat}(hk:k<4):aB [.int (k:Nat),RR cs ls,en a,en c] = .ok (IX f a c (.int (k:Nat))):=by
 refine iy (by omega) ?_
 match k,hk with
 | 0,_=>exact R.Jz n F ha hc
 | 1,_=>exact R.JM n F ha hc
 | 2,_=>exact R.once n F ha hc
 | 3,_=>exact R.Kg n F ha hc
theorem Bw (f:cY N2)(a c:N2):(qk f a c).pl=true/\(qk f a c).dep<=60:=⟨rfl,by simp[qk,T.dep,deps]⟩
theorem HD (a:N2)(Q:List N2):∀t∈pairsOf f a Q,t.pl=true/\t.dep<=5:=λt ht=>by
 unfold pairsOf at ht;obtain⟨c,_,rfl⟩:=KN.mp ht;exact⟨rfl,by simp[en,T.dep,deps]⟩
theorem DX (P:List N2)(f:cY N2):(T.lst (fV P f)).pl=true/\(T.lst (fV P f)).dep<=60:=by
 have h:∀t∈fV P f,t.pl=true/\t.dep<=5:=λt ht=>by
  unfold fV at ht;obtain⟨a,_,ht⟩:=Pr.mp ht;exact HD a P t ht
 refine⟨by rw[vZ];exact og λt ht=>(h t ht).1,?_⟩
 unfold T.dep
 have:=tp (k:=5) λt ht=>(h t ht).2
 omega
def GS:List T:=[.tup [.int 1,.int 1,.tup [.int 0,.int 1]]]
def LK:bR N2:=[(⟨0,0⟩,⟨0,1⟩,1),(⟨0,1⟩,⟨0,0⟩,-1)]
def PK:List N2:=[⟨0,0⟩,⟨0,1⟩]
theorem rdK:Rd GS [] LK PK:=⟨⟨rfl,(λt ht=>by cases ht),by decide,rfl⟩,rfl,rfl,⟨by decide,by decide,by decide,by decide⟩,by decide,by decide,by decide,by unfold big;decide⟩
theorem hoK:Holds LK (λv=>v.k):=λa b k h=>by
 unfold LK at h;simp only[Ky,Lw,or_false,Qw]at h;rcases h with⟨rfl,rfl,rfl⟩ | ⟨rfl,rfl,rfl⟩ <;> simp
theorem noK:cC LK:=hoK.JL
theorem GP:ge LK PK (table PK LK):=(my rdK.f.ends λu _ y h=>Int.not_lt.mp λz=>qz h z noK).2
theorem lz {a b:N2}{t:N2->Int}{s:Int}(F:ge L P f)(ha:a∈P)(h:Holds L t)(w:Wk L a b s)(e:t b - t a=s):f a b=some s:=by
 obtain⟨y,q,hy⟩:=F.le a ha b s w
 have:=h.walk (F.is a b y q);rw[q];congr 1;omega
theorem fK1:table PK LK ⟨0,0⟩ ⟨0,1⟩=some 1:=lz GP (by decide) hoK (Wk.one (by decide)) (by decide)
theorem fK2:table PK LK ⟨0,1⟩ ⟨0,0⟩=some (-1):=lz GP (by decide) hoK (Wk.one (by decide)) (by decide)
theorem fK3:table PK LK ⟨0,0⟩ ⟨0,0⟩=some 0:=lz GP (by decide) hoK (.nil _) (by decide)
theorem fK4:table PK LK ⟨0,1⟩ ⟨0,1⟩=some 0:=lz GP (by decide) hoK (.nil _) (by decide)
theorem spK:fV PK (table PK LK)= [.tup [en ⟨0,0⟩,en ⟨0,1⟩]]:=by
 unfold fV PK pairsOf;simp only[Ma,Pt,Pq,Sn];rw[show table [⟨0,0⟩,⟨0,1⟩] LK=table PK LK from rfl]
 simp only[fK1,fK2,fK3,fK4]
 rfl
theorem duK:qk (table PK LK) ⟨0,0⟩ ⟨0,1⟩= .lst [.bl true,.bl true,.bl false,.str "ahead"]:=by
 unfold qk word;rw[fK1,fK2]
 rfl
theorem Dl:cV [] = .ok (.bl true):=by
 refine bz rfl ?_
 show fF [.em,.em] =_
 unfold fF
 have one:∀{x y:Int},aL (ac (cn (.int x)) (ac (cn (.int y)) ag))=λ_=> .ok (.tup [.int x,.int y]):=λ{x y}=>funext λZ=>p2 rfl rfl
 rw[ar (Z':=[.va (RR GS []),.em]) (bM (p2 (cy (al (cy (al rfl (al rfl (al (p2 rfl rfl) rfl))) (aq (k:=3) (by simp))) rfl) (aq (k:=1) (by simp))) (cy rfl (aq (k:=0) (by simp)))) rfl)]
 have lc:eG (iR (ac (cn (.int 4)) ag)) [none,some 0] (gN 0) bT (cl aB (ac (vr 0) (ac (vr 1) (ac (aL (ac (cn (.int 0)) (ac (cn (.int 0)) ag))) (ac (aL (ac (cn (.int 0)) (ac (cn (.int 1)) ag))) ag))))) [.va (RR GS []),.em] = .ok (.lst ((rng 0 4).map (IX (table PK LK) ⟨0,0⟩ ⟨0,1⟩))):=
  md (ts:=rng 0 4) (yI (j:=4) rfl (by omega) (by omega)) (aq (k:=4) (by rw[show(4:Int)=((4:Nat):Int)from rfl,gQ];omega)) (by simp) λt ht=>by
   obtain⟨k,rfl,hk⟩:=eU ht;exact aJ (ts:=[.int (k:Nat),RR GS [],en ⟨0,0⟩,en ⟨0,1⟩]) (al rfl (al rfl (al (p2 rfl rfl) (al (p2 rfl rfl) rfl)))) (rdK.JT noK GP (by decide) (by decide) (by omega))
 rw[Bx,duK]at lc
 have sp:=rdK.JX noK GP;rw[spK]at sp;rw[ar (Z':=[.va (RR GS []),.va (.lst [.bl true,.bl true,.bl false,.str "ahead",.lst [.tup [en ⟨0,0⟩,en ⟨0,1⟩]]])]) (bM (az (t:=.lst [.bl true,.bl true,.bl false,.str "ahead"]) (u:=.lst [.lst [.tup [en ⟨0,0⟩,en ⟨0,1⟩]]]) lc (fS (al (aJ (ts:=[.int ((4:Nat):Int),RR GS [],.non,.non]) rfl (iy (k:=4) (by omega) sp)) rfl) (aq (k:=1) (by simp))) (iK _ _ (by simp))) rfl)]
 exact cm (az (u:=.lst [.bl true,.bl true,.bl false,.str "ahead",.lst [.tup [en ⟨0,0⟩,en ⟨0,1⟩]]]) rfl (fS (al rfl (al rfl (al rfl (al rfl (al (fS (al (p2 (p2 rfl rfl) (p2 rfl rfl)) rfl) (aq (k:=1) (by simp))) rfl))))) (aq (k:=5) (by simp))) (nE rfl (by simp[T.dep,deps,en])))
end
theorem Gn {i n:Nat}{l:List T}{t:T}{Z:En}(h2:(n:Int)<2 ^ 62)(h3:l.length<sizeLine):A4 i l Z [.int (n:Nat),t] = .ok (.nx (Z.set i (.ow (.lst (l.take n++t::l.drop n))))):=by
 have h1:(0:Int)<=(n:Int):=by omega
 unfold A4;simp only[if_pos (R8 h1 (R8 h2 h3)),LH]
theorem Im {fs:En->Rs (List T)}{Z:En}{i n:Nat}{l:List T}{t:T}(h:fs Z= .ok [.int (n:Nat),t])(hi:Z[i]? =some (.ow (.lst l)))(hn:n<=1000)(hl:l.length<=1000):vV i fs Z= .ok (.nx (Z.set i (.ow (.lst (l.take n++t::l.drop n))))):=by
 unfold vV;rw[hi]
 show(fs Z >>= A4 i l Z)=_
 rw[h,aE];exact Gn (Int.lt_of_le_of_lt (b:=1000) (by omega) (by decide)) (by unfold sizeLine;omega)
theorem GK {L M:bR N2}(h:L.length+M.length<=1000):aV (eL L) (eL M)= .ok (eL (L++M)):=by
 unfold eL;rw[iK _ _ (by rw[Kw,Ks,Ks];exact h),K5]
theorem II {Q:List N2}(h:Q.length<=16):aV (.lst (Q.map en)) (.lst ((Q.take 1).map en))= .ok (.lst ((Q++Q.take 1).map en)):=by
 rw[iK _ _ (by rw[Kw,Ks,Ks,LU];omega),K5]
theorem xq {g:T->En->Rs En}{fe:En->Rs T}{h:T->T}(I:En->Prop):∀(ts:List T) (Z:En),I Z->(∀t∈ts,∀Z,I Z->∃Z1,g t Z= .ok Z1/\I Z1/\fe Z1= .ok (h t))->dz g bT fe ts Z= .ok (ts.map h)
 | [],_,_,_=>rfl
 | t::r,Z,hI,hf=>by
  obtain⟨Z1,e1,i1,e2⟩:=hf t Kr Z hI
  have ih:=xq I r Z1 i1 λu hu=>hf u (Ko _ hu)
  unfold dz;simp only[e1,aE,bT,if_true,e2,ih,Kp]
def moT (t:T):T:=match t with
 | .tup [a,b] => .tup [b,a,.int 0]
 | _=> .non
theorem C6 {Q:List N2}{Z:En}(h:vr 5 Z= .ok (.lst (Q.map en)))(hl:Q.length<=16):(eG (iZ (ac (vr 5) (ac (sl (vr 5) (pS (cn (.int 1))) pN) ag))) [none,none] (gT 2 (dY (gN 0) (dY (gN 1) kQ))) bT (aL (ac (vr 1) (ac (vr 0) (ac (cn (.int 0)) ag))))) Z= .ok (eL (cH Q)):=by
 have hd:sl (vr 5) (pS (cn (.int 1))) pN Z= .ok (.lst ((Q.map en).drop 1)):=by rw[xA (lo:=some ((1:Nat):Int)) (hi:=none) h (C7 rfl) rfl,pd]
 have hz:iZ (ac (vr 5) (ac (sl (vr 5) (pS (cn (.int 1))) pN) ag)) Z= .ok (((Q.map en).zip ((Q.map en).drop 1)).map λp=> .tup [p.1,p.2]):=by
  unfold iZ;rw[al h (al hd rfl),aE]
  rfl
 unfold eG
 rw[hz,aE,if_pos (aq (k:=16) (by rw[Ks,Sh,Ks];omega)),show bL [none,none] Z= [.em,.em]from rfl,xq (h:=moT) (λZ=> ∃a b,Z= [a,b]) _ _ ⟨.em,.em,rfl⟩ λt ht Z hh=>by
  obtain⟨a,b,rfl⟩:=hh;obtain⟨p,_,rfl⟩:=KN.mp ht;exact⟨[.va p.1,.va p.2],rfl,⟨_,_,rfl⟩,cy rfl (aq (k:=3) (by simp))⟩]
 show Rs.ok (T.lst _)=Rs.ok (T.lst _)
 congr 2
 rw[<-uq Q,Ll,Ll,<-Pg,List.zip_map,Ll]
 rfl
abbrev EA (ns:List Int)(cs ls:List T)(P:List N2)(L:bR N2)(tb:T)(s5 s6 s7 s8 s9 s10 s11 s12 s13 s14:Sl):En:=[.va (.scr ns),.va (RR cs ls),.va (eS P),.va (eL L),.va tb,s5,s6,s7,s8,s9,s10,s11,s12,s13,s14]
section
variable {cs ls:List T}{L:bR N2}{P:List N2}{ns:List Int}{f:cY N2}
abbrev W5:En->Rs Fl:=(aw (cq (o2 aW (dq (ac (ln 5 (cl cx (ac (vr 5) ag))) (ac (ln 5 (cl cx (ac (vr 5) ag))) (ac (cn (.int 0)) ag)))) (cl ax (ac (vr 0) (ac (o2 aV (cn (.int 80)) (vr 6)) (ac (cn (.int 3)) ag))))) (gN 8)) (vV 5 (ac (vr 8) (ac (vr 7) ag))))
abbrev E5 (ns:List Int)(s1 s2 s3 s4:Sl)(Q:List N2)(s6 s7 s8:Sl):En:=[.va (.scr ns),s1,s2,s3,s4,.ow (.lst (Q.map en)),s6,s7,s8,.em,.em,.em,.em,.em,.em]
theorem IH (Q:List N2)(hn:ns.length<=63)(hq:Q.length<=16)(k:Nat)(s1 s2 s3 s4 s7 s8:Sl):∃m:Nat,m<=16/\(o2 aW (dq (ac (ln 5 (cl cx (ac (vr 5) ag))) (ac (ln 5 (cl cx (ac (vr 5) ag))) (ac (cn (.int 0)) ag)))) (cl ax (ac (vr 0) (ac (o2 aV (cn (.int 80)) (vr 6)) (ac (cn (.int 3)) ag))))) (E5 ns s1 s2 s3 s4 Q (.va (.int (k:Nat))) s7 s8)= .ok (.int (m:Nat)):=by
 obtain⟨d,ed,d0,d1⟩:=db ns (80+k) 3 hn (by omega)
 have ln:ln 5 (cl cx (ac (vr 5) ag)) (E5 ns s1 s2 s3 s4 Q (.va (.int (k:Nat))) s7 s8)= .ok (.int (Q.length:Nat)):=C9 (o:=.lst (Q.map en)) rfl (aJ (ts:=[.lst (Q.map en)]) rfl (by show Rs.ok (T.int ((Q.map en).length:Nat))=_;rw[Ks])) rfl
 obtain⟨t,ht,et⟩:=rW (l:=[.int (Q.length:Nat),.int (Q.length:Nat),.int ((0:Nat):Int)]) d0 d1
 have e:=az (g:=aW) (fS (al ln (al ln (al (f:=cn (.int 0)) (fs:=ag) rfl rfl))) (aq (k:=3) (by simp))) (aJ (fs:=ac (vr 0) (ac (o2 aV (cn (.int 80)) (vr 6)) (ac (cn (.int 3)) ag))) (ts:=[.scr ns,.int ((80+k:Nat):Int),.int 3]) (al rfl (al (az (t:=.int 80) (u:=.int (k:Nat)) rfl rfl rfl) rfl)) ed) et
 simp only[Ky,Lw,or_false]at ht;rcases ht with rfl | rfl | rfl
 ·exact⟨_,hq,e⟩
 ·exact⟨_,hq,e⟩
 ·exact⟨0,by omega,e⟩
theorem l5 (hn:ns.length<=63)(pl:P.length<=16)(s1 s2 s3 s4:Sl):∀(r:List N2) (k:Nat) (Q:List N2) (s6 s7 s8:Sl),P.drop k=r->Q.Perm (P.take k)->k<=P.length->∃Q' a6 a7 a8,Q'.Perm P ∧
  a9 (gT 2 (dY (gN 6) (dY (gN 7) kQ))) W5 (ca k (r.map en)) (E5 ns s1 s2 s3 s4 Q s6 s7 s8)= .ok (.nx (E5 ns s1 s2 s3 s4 Q' a6 a7 a8))
 | [],k,Q,s6,s7,s8,hd,hp,hk=>⟨Q,s6,s7,s8,by
  have:P.take k=P:=L6 (by have:=congrArg Lx hd;rw[Mp,Oy]at this;omega)
  rw[this]at hp;exact hp,rfl⟩
 | v::r,k,Q,s6,s7,s8,hd,hp,hk=>by
  have hv:P[k]? =some v:=by rw[<-PX,hd];rfl
  obtain⟨hk',ev⟩:=KC.mp hv
  have hq:Q.length=k:=by rw[hp.length_eq,LU];omega
  obtain⟨m,hm,em⟩:=IH (ns:=ns) Q hn (by omega) k s1 s2 s3 s4 (.va (en v)) s8
  have st:W5 (E5 ns s1 s2 s3 s4 Q (.va (.int (k:Nat))) (.va (en v)) s8)= .ok (.nx (E5 ns s1 s2 s3 s4 (Q.take m++v::Q.drop m) (.va (.int (k:Nat))) (.va (en v)) (.va (.int (m:Nat))))):=by
   refine(ar (Z':=E5 ns s1 s2 s3 s4 Q (.va (.int (k:Nat))) (.va (en v)) (.va (.int (m:Nat)))) (bM em rfl)).trans ?_
   refine(Im (l:=Q.map en) (n:=m) (t:=en v) rfl rfl (by omega) (by rw[Ks];omega)).trans ?_
   rw[<-List.map_take,<-Pg,<-Kp,<-K5]
   rfl
  obtain⟨Q',a6,a7,a8,p',ih⟩:=l5 hn pl s1 s2 s3 s4 r (k+1) (Q.take m++v::Q.drop m) (.va (.int (k:Nat))) (.va (en v)) (.va (.int (m:Nat))) (by rw[<-Qe,hd];rfl) (by
   rw[List.take_succ_eq_append_getElem hk',ev];refine List.perm_middle.trans ((List.Perm.cons v ?_).trans (List.perm_append_singleton v _).symm)
   rw[Oc];exact hp) (by omega)
  refine⟨Q',a6,a7,a8,p',?_⟩
  have g:gT 2 (dY (gN 6) (dY (gN 7) kQ)) (.tup [.int (k:Nat),en v]) (E5 ns s1 s2 s3 s4 Q s6 s7 s8)= .ok (E5 ns s1 s2 s3 s4 Q (.va (.int (k:Nat))) (.va (en v)) s8):=rfl;rw[Kp,ca,cz g st,ih]
abbrev W10:En->Rs Fl:=(aw (d9 (tb (o2 mY (cl aB (ac (vr 11) (ac (vr 1) (ac (vr 10) (ac (o2 aW (vr 2) (cn (.int 0))) ag))))) (aL (ac (cn (.str "refused")) (ac (cn (.int 1)) ag))))) (aI (cn (.bl false))) sN) (d9 (tb (o2 mY (cl aB (ac (vr 11) (ac (vr 1) (ac (o2 aW (vr 2) (cn (.int 0))) (ac (vr 10) ag))))) (aL (ac (cn (.str "refused")) (ac (cn (.int 1)) ag))))) (aI (cn (.bl false))) sN))
theorem Rd.w10 (R:Rd cs ls L P){x:T}(hx:x.pl=true)(hv:aQ cs x=false){k:Nat}(hk:k<4){Z:En}(h1:vr 1 Z= .ok (RR cs ls))(h2:vr 2 Z= .ok (eS P))(h10:vr 10 Z= .ok x)(h11:vr 11 Z= .ok (.int (k:Nat))):W10 Z= .ok (.nx Z):=by
 obtain⟨a,ha,e⟩:=R.first
 have i0:o2 aW (vr 2) (cn (.int 0)) Z= .ok (en a):=az (t:=eS P) (u:=.int 0) h2 rfl e;refine(ar (Z':=Z) ((cR (bB (az (t:=dC 1) (u:=dC 1) (aJ (ts:=[.int (k:Nat),RR cs ls,x,en a]) (al h11 (al h1 (al h10 (al i0 rfl)))) (R.no1 ha hx hv hk)) (p2 rfl rfl) (xc 1)))).trans rfl)).trans ?_
 exact(cR (bB (az (t:=dC 1) (u:=dC 1) (aJ (ts:=[.int (k:Nat),RR cs ls,en a,x]) (al h11 (al h1 (al i0 (al h10 rfl)))) (R.no2 ha hx hv hk)) (p2 rfl rfl) (xc 1)))).trans rfl
theorem zK {n:Nat}:(rng 0 (n:Int)).length<=n:=by rw[gQ];omega
theorem Rd.lc6 (R:Rd cs ls L P){x:T}{Z:En}(h:bL [none,some 1,some 10] Z= [.em,.va (RR cs ls),.va x]):(eG (iR (ac (cn (.int 6)) ag)) [none,some 1,some 10] (gN 0) bT (cl aB (ac (vr 0) (ac (sl (vr 1) pN (pS (cn (.int 1)))) (ac (vr 2) (ac (vr 2) ag)))))) Z= .ok (.lst (KJ 6 (dC 0))):=by
 have hp1:(T.tup [.tup cs]).pl=true:=by rw[rS];simp[plS,R.g.parts.1]
 exact md (h:=λ_=>dC 0) (ts:=rng 0 6) (yI (j:=6) rfl (by omega) (by omega)) (aq (zK (n:=6)) (by omega)) (by simp) λt ht=>by
  obtain⟨k,rfl,hk⟩:=eU ht;rw[h];exact aJ (ts:=[.int (k:Nat),.tup [.tup cs],x,x]) (al rfl (al (by rw[k_sl (l:=[.tup cs,.tup ls]) (lo:=none) (hi:=some ((1:Nat):Int)) rfl rfl rfl,vp];rfl) rfl)) (DA hp1 rfl (by omega))
theorem Rd.lc5 (R:Rd cs ls L P)(n:¬ cC L){Z:En}(h:bL [none,some 1,some 2] Z= [.em,.va (RR cs ls),.va (eS P)]):(eG (iR (ac (cn (.int 5)) ag)) [none,some 1,some 2] (gN 0) bT (cl aB (ac (vr 0) (ac (vr 1) (ac (o2 aW (vr 2) (cn (.int 0))) (ac (o2 aW (vr 2) (o1 oP (cn (.int 1)))) ag)))))) Z= .ok (.lst (KJ 5 (dC 3))):=by
 obtain⟨a,ha,ea⟩:=R.first;obtain⟨b,hb,eb⟩:=R.last
 exact md (h:=λ_=>dC 3) (ts:=rng 0 5) (yI (j:=5) rfl (by omega) (by omega)) (aq (zK (n:=5)) (by omega)) (by simp) λt ht=>by
  obtain⟨k,rfl,hk⟩:=eU ht;rw[h];exact aJ (ts:=[.int (k:Nat),RR cs ls,en a,en b]) (al rfl (al rfl (al (az (t:=eS P) (u:=.int 0) rfl rfl ea) (al (az (t:=eS P) (u:=.int (-1)) rfl rfl eb) rfl)))) (R.JR n ha hb (by omega))
abbrev W14:En->Rs Fl:=(cq (o2 aV (vr 12) (eG (iS (vr 2)) [none,some 13,some 4] (gN 0) (tb (o2 aW (cl dN (ac (vr 2) (ac (vr 1) (ac (vr 0) ag)))) (cn (.int 0)))) (aL (ac (vr 1) (ac (vr 0) ag))))) (gN 12))
abbrev W15:En->Rs Fl:=(aw (cq (o2 aW (vr 2) (cl ax (ac (vr 0) (ac (o2 aV (cn (.int 130)) (o2 bP (cn (.int 2)) (vr 6))) (ac (cl cx (ac (vr 2) ag)) ag))))) (gN 13)) (aw (cq (o2 aW (vr 2) (cl ax (ac (vr 0) (ac (o2 aV (cn (.int 131)) (o2 bP (cn (.int 2)) (vr 6))) (ac (cl cx (ac (vr 2) ag)) ag))))) (gN 14)) (d9 (tb (o2 mY (eG (iR (ac (cn (.int 4)) ag)) [none,some 1,some 13,some 14] (gN 0) bT (cl aB (ac (vr 0) (ac (vr 1) (ac (vr 2) (ac (vr 3) ag)))))) (cl dN (ac (vr 4) (ac (vr 13) (ac (vr 14) ag)))))) (aI (cn (.bl false))) sN)))
def ofP (f:cY N2)(a:N2)(t:T):Bool:=match t with
 | .tup [.int c,.int k] =>dG (f ⟨c,k⟩ a)
 | _=>false
def prT (a:N2)(t:T):T:=.tup [en a,t]
theorem CK (f:cY N2)(a:N2)(Q:List N2):((Q.map en).filter (ofP f a)).map (prT a)=pairsOf f a Q:=by
 rw[List.filter_map,Ll]
 rfl
theorem lc14 (pl:P.length<=16){a:N2}(ha:a∈P){Z:En}(h2:vr 2 Z= .ok (eS P))(h:bL [none,some 13,some 4] Z= [.em,.va (en a),.va (fz P f)]):(eG (iS (vr 2)) [none,some 13,some 4] (gN 0) (tb (o2 aW (cl dN (ac (vr 2) (ac (vr 1) (ac (vr 0) ag)))) (cn (.int 0)))) (aL (ac (vr 1) (ac (vr 0) ag)))) Z= .ok (.lst (pairsOf f a P)):=by
 rw[<-CK]
 exact Ee (ts:=P.map en) (kA h2) (aq (k:=16) (by rw[Ks];exact pl)) (by simp) λt ht=>by
  obtain⟨c,hc,rfl⟩:=KN.mp ht;rw[h];exact⟨bB (az (t:=qk f a c) (u:=.int 0) (aJ (ts:=[fz P f,en a,en c]) rfl (Ej ha hc)) rfl rfl),λ_=>p2 rfl rfl⟩
abbrev xW (ns:List Int)(cs ls:List T)(P:List N2)(f:cY N2)(s3 s5 s6 s7 s8 s9 s10 s11 s12 s13 s14:Sl):En:=[.va (.scr ns),.va (RR cs ls),.va (eS P),s3,.va (fz P f),s5,s6,s7,s8,s9,s10,s11,s12,s13,s14]
theorem l14 (pl:P.length<=16)(s3 s5 s6 s7 s8 s9 s10 s11 s14:Sl):∀(Q:List N2) (acc:List T) (s13:Sl),(∀v∈Q,v∈P)->acc.length+16*Q.length<=900->∃s13',
  a9 (gN 13) W14 (Q.map en) (xW ns cs ls P f s3 s5 s6 s7 s8 s9 s10 s11 (.va (.lst acc)) s13 s14)= .ok (.nx (xW ns cs ls P f s3 s5 s6 s7 s8 s9 s10 s11 (.va (.lst (acc++Q.flatMap λa=>pairsOf f a P))) s13' s14))
 | [],acc,s13,_,_=>⟨s13,by simp only[Pt,Lc];rfl⟩
 | v::Q,acc,s13,h,hl=>by
  rw[Kx]at hl
  have hlen:=qH f v P;obtain⟨a,ih⟩:=l14 pl s3 s5 s6 s7 s8 s9 s10 s11 s14 Q (acc++pairsOf f v P) (.va (en v)) (λw hw=>h w (Ko _ hw)) (by rw[Kw];omega)
  refine⟨a,?_⟩
  have g:gN 13 (en v) (xW ns cs ls P f s3 s5 s6 s7 s8 s9 s10 s11 (.va (.lst acc)) s13 s14)= .ok (xW ns cs ls P f s3 s5 s6 s7 s8 s9 s10 s11 (.va (.lst acc)) (.va (en v)) s14):=rfl
  have st:W14 (xW ns cs ls P f s3 s5 s6 s7 s8 s9 s10 s11 (.va (.lst acc)) (.va (en v)) s14)= .ok (.nx (xW ns cs ls P f s3 s5 s6 s7 s8 s9 s10 s11 (.va (.lst (acc++pairsOf f v P))) (.va (en v)) s14)):=
   bM (az (t:=.lst acc) (u:=.lst (pairsOf f v P)) rfl (lc14 pl (h v Kr) rfl rfl) (iK _ _ (by rw[Kw];omega))) rfl
  rw[Kp,cz g st,ih,KR,Ma]
theorem Rd.w15 (R:Rd cs ls L P)(hn:ns.length<=63)(n:cC L)(F:ge L P f)(k:Nat)(s3 s5 s7 s8 s9 s10 s11 s12 s13 s14:Sl):∃a13 a14,W15 (xW ns cs ls P f s3 s5 (.va (.int (k:Nat))) s7 s8 s9 s10 s11 s12 s13 s14)= .ok (.nx (xW ns cs ls P f s3 s5 (.va (.int (k:Nat))) s7 s8 s9 s10 s11 s12 a13 a14)):=by
 obtain⟨r1,a,ha,d1,i1⟩:=R.pick hn (130+2*k);obtain⟨r2,c,hc,d2,i2⟩:=R.pick hn (131+2*k);refine⟨.va (en a),.va (en c),?_⟩
 have num:∀(j:Nat) s13 s14,o2 aV (cn (.int (j:Nat))) (o2 bP (cn (.int 2)) (vr 6)) (xW ns cs ls P f s3 s5 (.va (.int (k:Nat))) s7 s8 s9 s10 s11 s12 s13 s14)= .ok (.int ((j+2*k:Nat):Int)):=λj s13 s14=>
  az (t:=.int (j:Nat)) (u:=.int (2*(k:Int))) rfl (az (t:=.int 2) (u:=.int (k:Nat)) rfl rfl (ku (by omega) (by omega))) rfl
 refine(ar (Z':=xW ns cs ls P f s3 s5 (.va (.int (k:Nat))) s7 s8 s9 s10 s11 s12 (.va (en a)) s14) (bM (az (t:=eS P) (u:=.int r1) rfl (aJ (ts:=[.scr ns,.int ((130+2*k:Nat):Int),.int (P.length:Nat)]) (al rfl (al (num 130 _ _) (al (AI rfl) rfl))) d1) i1) rfl)).trans ?_
 refine(ar (Z':=xW ns cs ls P f s3 s5 (.va (.int (k:Nat))) s7 s8 s9 s10 s11 s12 (.va (en a)) (.va (en c))) (bM (az (t:=eS P) (u:=.int r2) rfl (aJ (ts:=[.scr ns,.int ((131+2*k:Nat):Int),.int (P.length:Nat)]) (al rfl (al (num 131 _ _) (al (AI rfl) rfl))) d2) i2) rfl)).trans ?_
 have lc:(eG (iR (ac (cn (.int 4)) ag)) [none,some 1,some 13,some 14] (gN 0) bT (cl aB (ac (vr 0) (ac (vr 1) (ac (vr 2) (ac (vr 3) ag)))))) (xW ns cs ls P f s3 s5 (.va (.int (k:Nat))) s7 s8 s9 s10 s11 s12 (.va (en a)) (.va (en c)))= .ok (.lst ((rng 0 4).map (IX f a c))):=
  md (ts:=rng 0 4) (yI (j:=4) rfl (by omega) (by omega)) (aq (zK (n:=4)) (by omega)) (by simp) λt ht=>by
   obtain⟨j,rfl,hj⟩:=eU ht;exact aJ (ts:=[.int (j:Nat),RR cs ls,en a,en c]) rfl (R.JT n F ha hc (by omega))
 rw[Bx]at lc;exact(cR (bB (az (t:=qk f a c) (u:=qk f a c) lc (aJ (ts:=[fz P f,en a,en c]) rfl (Ej ha hc)) (iB (Bw f a c).1 (Bw f a c).2)))).trans rfl
theorem EI (hn:ns.length<=63):fH [.scr ns] = .ok (.bl true):=by
 obtain⟨cs,ls,er,hc,c3,hs,hl,l6⟩:=Gy ns hn 0 5 (by omega)
 obtain⟨hR,mR⟩:=EY hc hs hl (by omega)
 have g:Good cs ls:=⟨hc,λt ht=>(hl t ht).1,by omega,EN mR⟩
 obtain⟨L,P,R⟩:=wT g;obtain⟨tb,ht,et⟩:=xN (L:=L) R.nd (by have:=R.pl;omega) R.f.ends
 obtain⟨d,ed,d0,d1⟩:=db ns 120 7 hn (by omega)
 obtain⟨x,hx,ex⟩:=rW (l:=FR) d0 d1;obtain⟨px,vx⟩:=FS hc x hx;obtain⟨Q,a6,a7,a8,p,e5⟩:=l5 (ns:=ns) hn R.pl (.va (RR cs ls)) (.va (eS P)) (.va (eL L)) (.va tb) P 0 [] .em .em .em rfl (by simp) (by omega)
 have hq:Q.length=P.length:=p.length_eq
 have hq16:Q.length<=16:=by rw[hq];exact R.pl
 have hqp:=R.pos
 have hl2:L.length+(cH Q).length<=1000:=by rw[io];have:=R.ll;omega
 obtain⟨tb2,ht2,et2⟩:=xN (L:=L++cH Q) R.nd (by have:=R.pl;omega) (R.JV p).ends
 have f1:aB [.int 5,RR cs ls,.lst ((Q.drop 1).map en),.non] = .ok (.bl false):=iy (k:=5) (by omega) (R.JY (λv hv=>p.mem_iff.mp (List.mem_of_mem_drop hv)) (by rw[Mp];omega) (by rw[Mp];omega))
 have f2:aB [.int 5,RR cs ls,.lst ((Q++Q.take 1).map en),.non] = .ok (.bl false):=iy (k:=5) (by omega) (R.JY (λv hv=>p.mem_iff.mp ((K4.mp hv).elim id List.mem_of_mem_take)) (by rw[Kw,LU];omega) (by rw[Kw,LU];omega))
 obtain⟨b,fq,hb2⟩:∃b,aB [.int 5,RR cs ls,.lst (Q.map en),.non] = .ok (.bl b)/\cQ tb2 .non= .ok (.bl b):=by
  rcases R.fits p with⟨n1,e⟩ | ⟨n1,e⟩
  ·rcases ht2 with⟨n2,_⟩ | ⟨_,rfl⟩
   ·exact absurd n2 n1
   ·exact⟨false,iy (k:=5) (by omega) e,rfl⟩
  ·rcases ht2 with⟨_,_,rfl⟩ | ⟨n2,_⟩
   ·exact⟨true,iy (k:=5) (by omega) e,rfl⟩
   ·exact absurd n1 n2
 refine bz rfl ?_
 show hZ [.va (.scr ns),.em,.em,.em,.em,.em,.em,.em,.em,.em,.em,.em,.em,.em,.em] =_
 unfold hZ;refine(ar (Z':=[.va (.scr ns),.va (RR cs ls),.em,.em,.em,.em,.em,.em,.em,.em,.em,.em,.em,.em,.em]) (bM (aJ (ts:=[.scr ns,.int 0,.int 5]) rfl er) rfl)).trans ?_
 refine(ar (Z':=[.va (.scr ns),.va (RR cs ls),.va (eS P),.em,.em,.em,.em,.em,.em,.em,.em,.em,.em,.em,.em]) (bM (aJ (ts:=[.tup cs]) (al (az (t:=RR cs ls) (u:=.int 0) rfl rfl (Ef (n:=0) rfl)) rfl) (by rw[vj cs hc,R.e];rfl)) rfl)).trans ?_
 refine(ar (Z':=[.va (.scr ns),.va (RR cs ls),.va (eS P),.va (eL L),.em,.em,.em,.em,.em,.em,.em,.em,.em,.em,.em]) (bM (aJ (ts:=[RR cs ls]) rfl (by rw[yM hc g.l g.n,R.b];rfl)) rfl)).trans ?_
 refine(ar (Z':=(EA ns cs ls P L tb .em .em .em .em .em .em .em .em .em .em)) (bM (aJ (ts:=[eS P,eL L]) rfl et) rfl)).trans ?_
 refine(ar (Z':=(EA ns cs ls P L tb (.ow (.lst [])) .em .em .em .em .em .em .em .em .em)) (l9 (by simp))).trans ?_
 refine(ar (Z':=(EA ns cs ls P L tb (.ow (.lst (Q.map en))) a6 a7 a8 .em .em .em .em .em .em)) (dm (xE (l:=P.map en) rfl) e5)).trans ?_
 refine(ar (Z':=(EA ns cs ls P L tb (.va (.lst (Q.map en))) a6 a7 a8 (.va (eL (cH Q))) .em .em .em .em .em)) (xF (bM (C6 (Q:=Q) rfl hq16) rfl))).trans ?_
 refine(ar (Z':=(EA ns cs ls P L tb (.va (.lst (Q.map en))) a6 a7 a8 (.va (eL (cH Q))) .em .em .em .em .em)) ((cR (bB (az (t:=.bl b) (u:=.bl b) (aJ (ts:=[.int 5,RR cs ls,.lst (Q.map en),.non]) rfl fq) (az (t:=tb2) (u:=.non) (aJ (ts:=[eS P,eL (L++cH Q)]) (al rfl (al (az (t:=eL L) (u:=eL (cH Q)) rfl rfl (GK hl2)) rfl)) et2) rfl hb2) (HS b)))).trans rfl)).trans ?_
 refine(ar (Z':=(EA ns cs ls P L tb (.va (.lst (Q.map en))) a6 a7 a8 (.va (eL (cH Q))) .em .em .em .em .em)) ((cR (u8 (bB (az (t:=.bl false) (u:=.bl false) (aJ (ts:=[.int 5,RR cs ls,.lst ((Q.drop 1).map en),.non]) (al rfl (al rfl (al ((xA (lo:=(some 1)) (hi:=none) rfl (C7 rfl) rfl).trans (by rw[show(1:Int)=((1:Nat):Int)from rfl,pd,Pg])) rfl))) f1) rfl (iB rfl (by simp[T.dep])))) (bB (az (t:=.bl false) (u:=.bl false) (aJ (ts:=[.int 5,RR cs ls,.lst ((Q++Q.take 1).map en),.non]) (al rfl (al rfl (al (az (t:=.lst (Q.map en)) (u:=.lst ((Q.take 1).map en)) rfl ((xA (lo:=none) (hi:=(some 1)) rfl rfl (C7 rfl)).trans (by rw[show(1:Int)=((1:Nat):Int)from rfl,vp,List.map_take])) (II hq16)) rfl))) f2) rfl (iB rfl (by simp[T.dep])))))).trans rfl)).trans ?_
 refine(ar (Z':=(EA ns cs ls P L tb (.va (.lst (Q.map en))) a6 a7 a8 (.va (eL (cH Q))) (.va x) .em .em .em .em)) (bM (az (t:=.lst [.non,.tup [.int 0],.tup [.int 9,.int 0],.tup [.int 0,.int 9],.lst [.int 0,.int 0],.tup [.bl true,.int 0],.str "0.0"]) (u:=.int d) (fS (al rfl (al (cy rfl (aq (k:=1) (by simp))) (al (p2 rfl rfl) (al (p2 rfl rfl) (al (fS rfl (aq (k:=2) (by simp))) (al (p2 rfl rfl) rfl)))))) (aq (k:=7) (by simp))) (aJ (ts:=[.scr ns,.int 120,.int 7]) rfl ed) ex) rfl)).trans ?_
 obtain⟨Z',lo,a11,rfl⟩:=qN (g:=gN 11) (F:=W10) (λZ=> ∃a11,Z=(EA ns cs ls P L tb (.va (.lst (Q.map en))) a6 a7 a8 (.va (eL (cH Q))) (.va x) a11 .em .em .em)) (ts:=rng 0 4)
  (λt ht Z hh=>by
   obtain⟨a11,rfl⟩:=hh;obtain⟨k,rfl,hk⟩:=eU ht;exact⟨(EA ns cs ls P L tb (.va (.lst (Q.map en))) a6 a7 a8 (.va (eL (cH Q))) (.va x) (.va (.int (k:Nat))) .em .em .em),(EA ns cs ls P L tb (.va (.lst (Q.map en))) a6 a7 a8 (.va (eL (cH Q))) (.va x) (.va (.int (k:Nat))) .em .em .em),rfl,R.w10 px vx (by omega) rfl rfl rfl rfl,_,rfl⟩) (Z:=(EA ns cs ls P L tb (.va (.lst (Q.map en))) a6 a7 a8 (.va (eL (cH Q))) (.va x) .em .em .em .em)) ⟨_,rfl⟩
 refine(ar (Z':=(EA ns cs ls P L tb (.va (.lst (Q.map en))) a6 a7 a8 (.va (eL (cH Q))) (.va x) a11 .em .em .em)) (dm (yI (j:=4) rfl (by omega) (by omega)) lo)).trans ?_
 refine(ar (Z':=(EA ns cs ls P L tb (.va (.lst (Q.map en))) a6 a7 a8 (.va (eL (cH Q))) (.va x) a11 .em .em .em)) ((cR (bB (az (t:=.lst (KJ 6 (dC 0))) (u:=.lst (KJ 6 (dC 0))) (R.lc6 rfl) (az (t:=.lst [.tup [.str "refused",.int 0]]) (u:=.int 6) (fS (al (p2 rfl rfl) rfl) (aq (k:=1) (by simp))) rfl (nv [dC 0] 6 ⟨by omega,by omega,aq (k:=6) (by simp)⟩)) (iB rfl (by simp[T.dep,deps,dC,KJ]))))).trans rfl)).trans ?_
 rcases ht with⟨n,F,rfl⟩ | ⟨n,rfl⟩
 ·refine(ar (Z':=(EA ns cs ls P L (fz P (table P L)) (.va (.lst (Q.map en))) a6 a7 a8 (.va (eL (cH Q))) (.va x) a11 .em .em .em)) ((cR (bB (az (t:=fz P (table P L)) (u:=.non) rfl rfl rfl))).trans rfl)).trans ?_
  refine(ar (Z':=(EA ns cs ls P L (fz P (table P L)) (.va (.lst (Q.map en))) a6 a7 a8 (.va (eL (cH Q))) (.va x) a11 (.va (.lst [])) .em .em)) (bM (fS rfl (aq (k:=0) (by simp))) rfl)).trans ?_
  obtain⟨b13,e14⟩:=l14 (ns:=ns) (cs:=cs) (ls:=ls) (f:=table P L) R.pl (.va (eL L)) (.va (.lst (Q.map en))) a6 a7 a8 (.va (eL (cH Q))) (.va x) a11 .em P [] .em (λ_ z=>z) (by have:=R.pl;simp;omega)
  rw[LD]at e14;refine(ar (dm (ts:=P.map en) (kA rfl) e14)).trans ?_
  obtain⟨Z',lo,c6,c13,c14,rfl⟩:=qN (g:=gN 6) (F:=W15) (λZ=> ∃s6 s13 s14,Z=xW ns cs ls P (table P L) (.va (eL L)) (.va (.lst (Q.map en))) s6 a7 a8 (.va (eL (cH Q))) (.va x) a11 (.va (.lst (fV P (table P L)))) s13 s14) (ts:=rng 0 3)
   (λt ht Z hh=>by
    obtain⟨s6,s13,s14,rfl⟩:=hh;obtain⟨k,rfl,hk⟩:=eU ht;obtain⟨a13,a14,e⟩:=R.w15 (ns:=ns) hn n F k (.va (eL L)) (.va (.lst (Q.map en))) a7 a8 (.va (eL (cH Q))) (.va x) a11 (.va (.lst (fV P (table P L)))) s13 s14;exact⟨_,_,rfl,e,_,_,_,rfl⟩) (Z:=xW ns cs ls P (table P L) (.va (eL L)) (.va (.lst (Q.map en))) a6 a7 a8 (.va (eL (cH Q))) (.va x) a11 (.va (.lst (fV P (table P L)))) b13 .em) ⟨_,_,_,rfl⟩
  refine(ar (dm (ts:=rng 0 3) (yI (j:=3) rfl (by omega) (by omega)) lo)).trans ?_
  exact cm (az (t:=.lst (fV P (table P L))) (u:=.lst (fV P (table P L))) (aJ (ts:=[.int ((4:Nat):Int),RR cs ls,.non,.non]) rfl (iy (k:=4) (by omega) (R.JX n F))) rfl (nE (DX _ _).1 (DX _ _).2))
 ·refine gG ((dU (bB (az (t:=.non) (u:=.non) rfl rfl rfl))).trans (cm (az (t:=.lst (KJ 5 (dC 3))) (u:=.lst (KJ 5 (dC 3))) (R.lc5 n rfl) (az (t:=.lst [dC 3]) (u:=.int 5) (fS (al (p2 rfl rfl) rfl) (aq (k:=1) (by simp))) rfl (nv [dC 3] 5 ⟨by omega,by omega,aq (k:=5) (by simp)⟩)) (nE rfl (by simp[T.dep,deps,dC,KJ])))))
theorem pure_law (ns:List Int)(hn:ns.length<=63):m_law [.scr ns] = .ok (.bl true):=bz rfl (cm ((sT (by show(match cV []with | .ok t=>Rs.ok t | _=> .bad)=_;rw[Dl])).trans (aJ (ts:=[.scr ns]) rfl (EI hn))))
end
end G
end
lay_quick G.lhs G.rhs
name_quick lhsz for G.lhs by G.lhs_r
name_quick rhsz for G.rhs by G.rhs_r
open PySem PySem.W PyProof.Rows
set_option maxRecDepth 100000 in
set_option maxHeartbeats 0 in
theorem G.Kc (w : LA) (os : Ro) : PySem.W.Fast.lhsz w (boot_heap w.params) boot_drawn boot_toks os = PySem.W.Fast.rhsz w := by kernel_rfl
set_option maxRecDepth 100000 in
set_option maxHeartbeats 0 in
theorem PySem.Challenge.cw_farclocks_k40_orders_holds : PySem.Challenge.rw_farclocks_k40_orders.Holds := by
  w_on; o_law
  refine holds_open (q := G.vw) (loose := G.lse) (Xt := λ_ => true) (XP := λ_ _ => True) (Yf := (Tr.hookK G.asks G.top).obs) (Ya := (Tr.hookK G.asks G.top).val) (YP := (Tr.hookK G.asks G.top).says) (N := 9000) (Tr.left_of (by rfl) (by rfl) (λ_ => rfl) λw os => ?hl) (Tr.hookK G.asks G.top).of (Tr.hookK G.asks G.top).keeps (λ_ _ => trivial) (λ_ _ _ _ _ => trivial) (by rfl) (by rfl) (by rfl) (λs _ => recFacts_of (s := s) rfl) (by rfl) (by assumption) (by decide +kernel) ⟨rfl, rfl, rfl, rfl, rfl, by decide +kernel⟩ ?hw ?hc
  case hl => exact ((congrFun (congrFun (congrFun (congrFun (congrFun PySem.W.Fast.lhsz_eq w) _) _) _) os).trans (G.Kc w os)).trans (congrFun PySem.W.Fast.rhsz_eq w).symm
  case hw => w_witness2
  case hc => exact Tr.walk_k (n := 63) (k := 19) (x := "_law_script") (CX := L2.CX0) (sp := λK => Tr.spP K 1 G.m_law) rfl (by decide) rfl ⟨rfl, by decide, by decide⟩ (λw K mg fa h X e g hf => G.all_ok X e g hf) (λK H a ns hl _ hS => Tr.sp_script hS (G.pure_law ns hl)) λ_ _ _ _ z => z
