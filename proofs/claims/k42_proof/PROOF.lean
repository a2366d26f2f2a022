import PyProof.Rows.All
import Wide.All
import OpenK.AllK
import Wide.FinOn
import Lean
import PyProof.EqAt
import PyProof.EqKinds
import PyProof.TupleCall
import PyProof.ExcClass3
import PyProof.StationsW
import PyProof.ExcBaseAll.ValueError
import PyProof.ExcArgsOwn
import PyProof.IsiBase
import PyProof.IsiH_tuple
import PyProof.ExcAttrAll.ValueError
import PyProof.Rows.RuleN_isinstance
import PyProof.MeetsSeq
import PyProof.RulesAs
import PyProof.IsiH_list
import PyProof.AttrMiss
import KE.KDictOf
import PyProof.Rows.SumAny
import PyProof.Rows.MinMaxN
import PyProof.Rows.SortShellK
import PyProof.Rows.SortWalk
import PyProof.ZipIter
import PyProof.WalksMore
import PyProof.DictWalks
import PyProof.AutoSeq1
import PyProof.CollectWalk
import KE.KSortTup
import PySem.Challenge.RW_farclocks_k42_whole_some_order
open PySem.Challenge renaming pw_farclocks_k42_whole_some_order→J8,rw_farclocks_k42_whole_some_order→NI
open PySem.Builtin.SmallTypes renaming ownedTupleHandOut→KH,ownedTupleIsFree→JA,nextOf→JE
open PySem.AutoListH renaming list___mul___list_int_3→PQ
open PyProof.Rows renaming slot_tuple_getitem→Ke,callWith_builtin1→LV,get?_update_seq→Rc,callWith_type1→J5,subscriptTail_builtinR→OE,KeyKind→Pc,KeysOf→Pq,entry_tuple_getitem→PC,args_tuple_getitem→P8,mapM_typeOf_ints→Ra,KK_mirror_equal→Lr,oneTypeOnly'_eq→RC,list_sort_plain→RD,get?_update_seq→RE,entry_list_sort→RF,pairsOf_toList→NV,listUpdate_at→MQ,firstOfTuple'→Om,tupleItemsOf_→P9,subscriptTail→Qa,wpS_forRange→M9,listItems_at→Na,mem_zip_self→QP,pairsOf_size→QQ,seqEpoch_at→NC,sortedHeap→Mp,wpS_modify→Qw,setPending→Qx,SortedToK→KI,pendingOf→Mw,wpS_bind→Kl,wpS_pure→K2,failedOf→NQ,SortKind→Ol,boot_all→Re,IntsAre→K7,AllBare→Oi,NonIncK→PF,wpS_get→RB,SortSt→Nx,Keyed→Qv,IsTup→RH
open PySem.Builtin.Tuple renaming tupleCompareSizes→Qg,tupleItemsOf→NF,tupleIsExact→NG,tupleExact→K9
open PySem.F renaming args_tuple_iterator_next_1→Nh,entry_tuple_iterator_next→Nq,slot_tuple_iterator_next→Lu,excBase_ValueError→NH,slot_list_getattribute→LP,args_tuple_add_2→MC,slot_zip_getattribute→L0,entry_tuple_add→MG,plainAttrs_list→MH,args_dict_get_2→N9,slot_tuple_add→MS,entry_dict_get→OA,slot_dict_get→M8,slot_enumerate_next→OK,kt_typeCall_dict_1→Pe,args_object_init_3→Pg,plain_extend_loop→L1,entry_extend_loop→Px,args_dict_init_2→PX,args_zip_next_1→Mi,args_int_rmul_2→Qj,slot_tuple_rmul→Qk,entry_dict_init→Qm,args_zip_iter_1→Qo,plain_list_iadd→Qp,entry_zip_next→MA,slot_tuple_mul→Os,slot_int_index→QV,entry_int_rmul→QX,kt_called_dict→Q1,entry_zip_iter→Q5,typeCall_zip_2→Q6,slot_zip_next→Ks,slot_int_rmul→Nn,slot_zip_iter→Nv,fills_int_mul→Ri,newCall_zip_2→Ro,entry_zip_new→Rp
open PySem.Builtin.Slice renaming slicePartIndex→Rb,sliceApplied→ND,slicePlaces→LC,sliceAdjust→Mu
open PySem.Builtin.List renaming listExtendWith→L9,listTooLong→LK,listSameRef→NZ,listItems→L7
open List renaming getElem?_append_right→Mq,nodup_iff_pairwise_ne→NK,getElem?_eq_some_iff→Jy,drop_eq_getElem_cons→KZ,getElem?_append_left→LF,pairwise_iff_getElem→LG,getElem?_eq_none_iff→NR,getElem?_eq_getElem→Jx,idxOf_lt_length_iff→LR,getElem?_cons_succ→LZ,getElem?_replicate→MJ,length_eq_zero_iff→ML,pairwise_mergeSort→Od,pairwise_singleton→Oe,filter_cons_of_pos→Og,filter_cons_of_neg→Oh,getElem?_set_self→JM,drop_eq_nil_of_le→L8,mem_append_right→JD,length_singleton→K4,getElem?_eq_none→K6,take_append_drop→OP,mem_cons_of_mem→Jh,getElem?_set_ne→JO,mem_append_left→J2,mem_of_getElem?→LI,getElem?_of_mem→Ph,mem_erase_of_ne→Pj,map_congr_left→Kk,replicate_succ→KS,getElem_of_mem→LX,filterMap_cons→MB,mergeSort_perm→Pv,drop_succ_cons→PB,mem_cons_self→Jj,length_append→Ju,mem_singleton→JB,mem_filterMap→La,zip_cons_cons→MK,forIn_toArray→MM,pairwise_cons→MO,zip_nil_right→PP,getElem_range→P2,append_of_mem→P3,size_toArray→Jw,getElem?_map→JG,append_assoc→JV,nodup_append→Kp,length_range→Lm,flatten_cons→LN,pairwise_map→Mj,mapM_toArray→MY,flatMap_cons→MZ,zip_nil_left→Qi,ext_getElem?→Qq,length_cons→Jq,all_eq_true→JL,not_mem_nil→JN,lookup_cons→Kt,getElem_mem→Lg,length_drop→L4,length_take→My,getElem_map→Mz,zipIdx_cons→Ou,mem_flatMap→Ov,drop_length→QZ,all_toArray→Q2,map_fst_zip→Q4,length_map→Jm,mem_append→JS,nodup_cons→JX,map_append→J6,append_nil→Km,length_set→Kr,forIn_cons→K5,length_nil→Lo,mem_filter→LL,nil_append→LO,find?_cons→Mc,of_mem_zip→MI,zipIdx_nil→Nt,range_succ→OQ,idxOf_cons→Rq,sum_append→Rr,head?_drop→Rt,replicate→JK,mem_range→KY,forIn_nil→Lk,nodup_nil→Ll,map_cons→Jn,mem_cons→Jp,sum_cons→K0,any_cons→LY,all_cons→Ob,mem_map→JH,map_map→KJ,map_nil→ME,all_map→OJ,zipWith→ON,toArray→QC,length→LD,lookup→MX,range→Kv,Nodup→Kw,foldl→N3,cons→N7,map→O7
open Array renaming perm_iff_toList_perm→Mr,getElem?_eq_getElem→NT,getElem?_eq_none→OC,getElem?_toList→OM,getElem_toList→Pf,length_toList→JU,find?_toList→PN,toList_map→Q3,toList→NM
open PySem.Calls renaming Name_function_global→NJ,call_function_entry→NS,callWith_builtin→MT,evalArgs_plain→Ms,spliced_cons→Lw,spliced_nil→LM
open PySem renaming wpAny_newFunctionEnv_cells→NL,wpAny_binaryOp_repeat_ref→NU,wpAny_callSpecial?_slot→J4,wpAny_nextOf_list_item→MU,wpAny_pyNext_list_item→OD,wpAny_Call_method_late→OF,builtinLookup_eq_fast→K8,wpAny_pyNext_list_end→OU,codeAny_call_function→OW,wpAny_notOrdered_dict→O4,wpAny_nextOf_list_end→O5,wpAny_updateSeq_pair→Mt,wpAny_raiseAttrError→Pk,codeAny_call_builtin→Pl,mem_of_lookup→Ln,wpAny_Call_Name_kw→Kg,wpAny_setField_rec→Lf,wpAny_pyIter_tuple→Lz,tupleKind_room_in1→LB,wpAny_List_spliced→P5,sub_AttributeError→Qb,wpAny_dictSet_heap→Qc,wpAny_truthy_bool→Kx,foldedSetIterable→Ky,wpAny_newObj_type→KM,wpAny_pyIter_list→Mm,wpAny_assign_Name→Qr,wpAny_sequenceKey→Qt,wpAny_pyIter_enum→Qu,wpAny_pyIter_slot→Qy,wpAny_call_entry→J9,wpAny_eqBool_int→Ox,noFill_tuple_add→Oy,wpAny_isInstance→Oz,seqSlot_of→Q0,wpAny_execs_cons→Q8,kt_code_dict_new→Q9,wpAny_loadPart'→KQ,codeAny_builtin→Lq,typeLookup_type→Mf,letOwnedTupleGo→MP,wpAny_execs_nil→NA,pushCells_keeps→OZ,wpAny_specialOf→O0,wpAny_updateSeq→O6,wpAny_passesOwn→Ru,importedModules→RG,wpAny_seqItems→Kd,wpAny_newTuple→Mx,isSubtype_stop→Po,wpAny_holding→J3,attributeBase→K1,plainId_quiet→L3,wpAny_attempt→Mo,swapsWithSole→Nj,swappedStores→Nk,behindInMarks→Oj,wpAny_newList→On,wpAny_onRaise→Oo,wpAny_standAt→P4,seq_tuple_add→P6,bootBuiltins→JT,wpAny_typeOf→LA,codeAny_mono→OV,concat_meets→QL,seqIndex_neg→QM,callType_new→QN,wpAny_field→J1,mainGlobals→Kc,sizeLine_eq→KW,sliceBounds→M0,excClassObj→NB,subscripted→PD,wpAny_letGo→PH,seqIndex_of→Rx,keywordEach→Ry,wpAny_bind→Je,wpAny_pure→Jl,assignEach→KL,wpAny_mono→Lb,typeLookup→LS,wpAny_rule→LU,sysModules→Ml,call_meets→Nl,builtinsNs→O9,typeIs_int→Pa,compareOp→Kh,swapsWith→KP,cellsFrom→L5,tupleKind→Nz,pushCells→OY,Arguments→Rw,starEach→JF,binaryOp→Lc,FuncData→Ld,boot_len→LJ,NameKind→Mk,Program→JI,BindsTo→Qs,Keyword→RA,Shared→Jk,Around→JZ,IsPair→Ls,IsPart→P7,Result→Rv,Paired→RI,Value→Ji,World→Kn,Scope→Ny
open PySem.Builtin.Dict renaming addKeywords→NX,selfAndRest→NY,updateFrom→LW,pairItems→OB
open Option renaming isSome_iff_exists→N1,map_eq_some_iff→KF,isSome_some→PR,isSome_map→Ql,getD_none→QU,some→Kj
open Int renaming eq_ofNat_of_zero_le→Kb,emod_lt_of_pos→NP,toNat_natCast→Ko,emod_nonneg→OS,le_antisymm→Rl,le_trans→QK,le_refl→KC
open PySem.Heap renaming get?_push_of_some→Jf,get?_update_other→Kq,get?_update_self→Ma,get?_push_size→Js,get?_update_ne→Nu,get?_push_ne→LQ,size_update→Lh,NewAttrErr→Nr,size_push→J0,lt_size→Jr,SameBut→MD,ExtBut→Rk
open PySem.W renaming cellsFrom_some→MR,hideAll_none→Pb,hideAll_get→Nm,of_hideAll→PJ,callWith_K→PK,codeRec_of→PL,methodObj→NW,kitx_list→Qd,kitx_dict→Qe,plainGet→QR,kia_one→KG,instObj→OG,hideAll→Rf,keepIn→M4,lookIn→Pm,codeIn→Pn,mg_of→Oa,Frag→Jg,fnOf→M6,nsIn→M7
open Bool renaming and_eq_false_iff→OR,and_eq_true_iff→Li,false_ne_true→JP,false_eq_true→JY,not_eq_true'→N8,and_eq_true→Jo,true_and→Ni,false_or→PV
open PySem.Around renaming under_plainId→KB,units→NO
open Nat renaming le_sub_one_of_lt→Nd,sub_one_lt_of_lt→Nf,lt_of_lt_of_le→Jt,lt_of_le_of_lt→Ly,lt_succ_of_lt→KU,le_of_succ_le→Mh,le_of_lt_succ→N5,lt_trichotomy→N6,max_eq_right→Nc,le_of_not_lt→Oq,succ_le_succ→Ot,lt_succ_self→QY,mod_eq_of_lt→Q7,le_antisymm→Rm,lt_irrefl→JJ,le_trans→JQ,ne_of_lt→JR,le_of_lt→KD,le_of_eq→Lj,ne_of_gt→Lv,lt_or_ge→MF,sub_self→NN,lt_trans→OI,sub_zero→OL,add_comm→Qz,mul_comm→QB,min_self→QD,zero_add→QF,le_refl→Jv,zero_le→KA,sub_le→Qn
open PySem.Value renaming notImplemented→Pd,isInt→Pr,type→Kf,none→Ki,bool→Ku,ref→Jz,int→Kz,str→K3
open PySem.Heap.SameBut renaming update→Pp
open PyProof.Rows.KeyOrd renaming kle_antisymm→Pw,kle_of_klt→N4,kle_trans→Nb,kle_refl→Md
open PySem.Obj renaming data_mapFields→PU,mapSeq→KR
open List.Pairwise renaming nil→MV
open Option.some renaming injEq→Qh,inj→JW
open ForInStep renaming yield→Mb
open Array.Perm renaming refl→OH
open StateT renaming run_pure→Rn
open PySem.Expr renaming Attribute→Mv,Subscript→M5,Constant→PY,ListComp→P0,Compare→QH,UnaryOp→QJ,BoolOp→LH,Name→Ka,Call→Lp
open PySem.NameKind renaming free→J7,cell→KN
open PySem.Paired renaming length→Ng
open Prod.mk renaming injEq→PM,inj→Rg
open PySem.Str renaming ofString→JC
open PySem.Shared renaming heap→Oc
open PySem.Stmt renaming Assign→Of
open PySem.Scope renaming names→Py
open PySem.Pos renaming endLine→Pz,line→MN
open True renaming intro→L6
open False renaming elim→Mg
open PySem.BoolOp renaming And→O8,Or→PZ
open PySem.Env renaming scope→Me
open PyProof.Rows.IsTup renaming new→Rh
open Ne renaming symm→MW
open Iff renaming rfl→Np
open Sum renaming inl→Pt,inr→Pu
open Prod renaming mk→Rj
open Or renaming inr→KO,inl→Lx
set_option Elab.async false
set_option linter.all false
set_option maxRecDepth 100000
set_option maxHeartbeats 8000000
noncomputable section
abbrev ie (x:PySem.Str):Prop:=(x == PySem.Str.ofString "__debug__")=false
namespace L2
open PySem PySem.Spec PyProof.Rows
abbrev Key:=Sum Int Str
def oO:Key->Ji->Bool
 | .inl k,v=>Pr k v
 | .inr x,v=>Value.isStrOf x v
def keyH (w:Kn):Key->Int
 | .inl k=>hashInt k
 | .inr x=>hashStr w x
theorem cf:∀{k:Key} {v:Ji},oO k v=true->(∃i t,k=Pt i/\v=Kz i t)\/(∃x t,k=Pu x/\v=K3 x t)
 | .inl i,v,h=>by
  obtain⟨t,e⟩:=Value.isInt_shape (k:=i) (v:=v) h
  exact .inl ⟨i,t,rfl,e⟩
 | .inr x,v,h=>by
  obtain⟨t,e⟩:=Value.isStrOf_shape (x:=x) (v:=v) h;exact .inr ⟨x,t,rfl,e⟩
theorem w8 (i:Int)(t:Tok):oO (.inl i) (.int i t)=true:=by simp[oO,Pr]
theorem w6 (x:Str)(t:Tok):oO (.inr x) (.str x t)=true:=by simp[oO,Value.isStrOf]
theorem EQ (a b:Int):decide ((Pt a:Key)=Pt b)=(a == b):=by
 by_cases e:a=b
 ·subst e;simp
 ·have h:¬ (Pt a:Key)=Pt b:=λq=>e (Pt.inj q)
  rw[decide_eq_false h];exact(beq_eq_false_iff_ne.mpr e).symm
theorem EM (a b:Str):decide ((Pu a:Key)=Pu b)=decide (a=b):=by
 by_cases e:a=b
 ·subst e;simp
 ·have h:¬ (Pu a:Key)=Pu b:=λq=>e (Pu.inj q)
  rw[decide_eq_false h,decide_eq_false e]
theorem EO (a:Int)(b:Str):decide ((Pt a:Key)=Pu b)=false:=decide_eq_false (λq=>nomatch q)
theorem EN (a:Str)(b:Int):decide ((Pu a:Key)=Pt b)=false:=decide_eq_false (λq=>nomatch q)
def bZ (prog:JI)(w:Kn):PySem.KeyKind prog w Key where
 is:=oO
 hash:=keyH w
 inj:=λv a b ha hb=>by
  rcases cf ha with⟨i,t,rfl,rfl⟩ | ⟨x,t,rfl,rfl⟩
  ·rcases cf hb with⟨j,u,rfl,e⟩ | ⟨y,u,rfl,e⟩
   ·injection e with e1 _;rw[e1]
   ·exact nomatch e
  ·rcases cf hb with⟨j,u,rfl,e⟩ | ⟨y,u,rfl,e⟩
   ·exact nomatch e
   ·injection e with e1 _;rw[e1]
 byValue:=λk v h=>by
  rcases cf h with⟨i,t,rfl,rfl⟩ | ⟨x,t,rfl,rfl⟩ <;> rfl
 pyHash:=λhv h=>by
  rcases cf hv with⟨i,t,rfl,rfl⟩ | ⟨x,t,rfl,rfl⟩
  ·exact wpAny_pyHash_int h
  ·exact wpAny_pyHash_str h
 eqBool:=λhu hv h=>by
  rcases cf hu with⟨i,t,rfl,rfl⟩ | ⟨x,t,rfl,rfl⟩
  ·rcases cf hv with⟨j,u,rfl,rfl⟩ | ⟨y,u,rfl,rfl⟩
   ·rw[EQ]at h;exact Ox h
   ·rw[EO]at h;exact SeqAt.EqAt.int_str i t y u _ _ _ _ h
  ·rcases cf hv with⟨j,u,rfl,rfl⟩ | ⟨y,u,rfl,rfl⟩
   ·rw[EN]at h;exact SeqAt.EqAt.str_int x t j u _ _ _ _ h
   ·rw[EM]at h;exact wpAny_eqBool_str h
 «strs»:=λk x t v h=>by
  rcases cf h with⟨i,u,rfl,e⟩ | ⟨y,u,rfl,e⟩
  ·exact nomatch e
  ·injection e with e1 _
   subst e1;cases v <;> rfl
theorem sO (prog:JI)(w:Kn)(i:Int)(t:Tok):(bZ prog w).is (.inl i) (.int i t)=true:=w8 i t
theorem sM (prog:JI)(w:Kn)(x:Str)(t:Tok):(bZ prog w).is (.inr x) (.str x t)=true:=w6 x t
inductive V where
 | non | bl (b:Bool) | int (i:Int) | str (x:Str) | byt (b:Array UInt8) | flt (b:UInt64) | ref (a:Addr) | ty (n:String)
 deriving DecidableEq
def RelV:V->Ji->Prop
 | .non,u=>u=Ki
 | .bl b,u=>u=Ku b
 | .int i,u=> ∃t,u=Kz i t
 | .str x,u=> ∃t,u=K3 x t
 | .byt b,u=> ∃t,u=Value.bytes b t
 | .flt b,u=> ∃t,u=Value.float b t
 | .ref a,u=>u=Jz a
 | .ty n,u=>u=Kf n
abbrev Vals:List V->List Ji->Prop:=RI RelV
theorem Vals.length {xs:List V}{us:List Ji}(r:Vals xs us):xs.length=us.length:=Ng r
theorem Vals.get:∀{xs:List V} {us:List Ji} {i:Nat} {x:V},Vals xs us->xs[i]? =some x->∃u,us[i]? =some u/\RelV x u
 | _,_,_,_,.nil,e=>by simp at e
 | _,_,0,_,.cons r _,e=>by simp at e;subst e;exact⟨_,rfl,r⟩
 | _,_,i+1,x,.cons _ t,e=>by
  obtain⟨u,h1,h2⟩:=Vals.get (i:=i) (x:=x) t (by simpa using e)
  exact⟨u,by simpa using h1,h2⟩
theorem Vals.set {x:V}{u:Ji}(r:RelV x u):∀{xs:List V} {us:List Ji} (i:Nat),Vals xs us->Vals (xs.set i x) (us.set i u)
 | _,_,_,.nil=> .nil
 | _,_,0,.cons _ t=> .cons r t
 | _,_,i+1,.cons q t=> .cons q (Vals.set r i t)
theorem Vals.append:∀{xs ys:List V} {us ws:List Ji},Vals xs us->Vals ys ws->Vals (xs++ys) (us++ws)
 | _,_,_,_,.nil,s=>s
 | _,_,_,_,.cons r t,s=> .cons r (Vals.append t s)
theorem Vals.take:∀{xs:List V} {us:List Ji} (n:Nat),Vals xs us->Vals (xs.take n) (us.take n)
 | _,_,0,_=> .nil
 | _,_,_+1,.nil=> .nil
 | _,_,n+1,.cons r t=> .cons r (Vals.take n t)
theorem Vals.drop:∀{xs:List V} {us:List Ji} (n:Nat),Vals xs us->Vals (xs.drop n) (us.drop n)
 | _,_,0,r=>r
 | _,_,_+1,.nil=> .nil
 | _,_,n+1,.cons _ t=>Vals.drop n t
def RelO:Option V->Option Ji->Prop
 | some v,some u=>RelV v u
 | none,none=>True
 | _,_=>False
def KV {κ:Type}:List (κ×V)->List (κ×Ji)->Prop:=RI λ(p:κ×V) (q:κ×Ji)=>p.1=q.1/\RelV p.2 q.2
def kV:Key->V
 | .inl i=> .int i
 | .inr x=> .str x
inductive HO where
 /-- a list -/
 | lst (xs:List V)
 /-- a tuple (never changes) -/
 | tup (xs:List V)
 /-- a dict whose keys are ints and texts;one whose keys are tuples of ints and texts (the empty one is both) -/
 | dK (kvs:List (Key×V)) | dT (kvs:List (List Key×V))
 /-- a set of ints: its members,its size -/
 | set (S:Int->Bool) (n:Nat)
 /-- an instance of the class at C,its dict at dx,its attributes -/
 | ins (C dx:Addr) (fs:List (Str×V))
 /-- the dict of the instance at x -/
 | own (x:Addr)
 /-- the dict of an exception -/
 | xd (fs:List (Str×V))
 /-- a bound method,f of x -/
 | met (f x:Addr)
 /-- a range object lo,lo+1,.. below hi -/
 | rng (lo hi:Int)
 /-- a thing that is known to the object (the script;a dict while a loop walks it): read,never written while it is so -/
 | frz (o:Obj) (u:HO)
 /-- a code object's table -/
 | tbl (ps:Array Ji)
 /-- any other thing,by what is true of its one object (a def of one's own: SetO a S n:=HO.ext λh=> ..) -/
 | ext (φ:Heap->Prop)
abbrev Hp:=Addr->Option HO
def upd (H:Hp)(a:Addr)(o:HO):Hp:=λb=>if b=a then some o else H b
theorem aP {H:Hp}{a:Addr}{o:HO}:upd H a o a=some o:=by unfold upd;rw[if_pos rfl]
theorem aJ {H:Hp}{a b:Addr}{o:HO}(h:b≠a):upd H a o b=H b:=by unfold upd;rw[if_neg h]
theorem iC {H:Hp}{a:Addr}{o u:HO}:upd (upd H a o) a u=upd H a u:=by
 funext b;unfold upd;split <;> rfl
theorem mn {H:Hp}{a b:Addr}{o u:HO}(h:H a=some o)(h':H b=some u)(d:o≠u):a≠b:=by
 intro e;subst e;rw[h]at h';exact d (JW h')
theorem bU {H:Hp}{a b:Addr}{o:HO}(h:H a=some o)(h':H b=none):a≠b:=by
 intro e;subst e;rw[h]at h';cases h'
section
variable (P:JI)(w:Kn)
def ObjOk (H:Hp)(h:Heap)(a:Addr):HO->Prop
 | .lst xs=>xs.length<=sizeLine/\∃(its:List Ji) (n:Nat),Vals xs its/\h.get? a=some { cls:=.type "list",data:=.seq its.toArray n }
 | .tup xs=>xs.length<=sizeLine/\∃its:List Ji,Vals xs its/\RH h a its.toArray
 | .dK kvs=>kvs.length<=sizeLine/\(a == Ml)=false/\∃vs,KV kvs vs/\h.DictOf (bZ P w) a vs
 | .dT kvs=>kvs.length<=sizeLine/\(a == Ml)=false/\∃xs:List (List Key×Addr×Ji),
   RI (λ(p:List Key×V) (q:List Key×Addr×Ji)=>p.1=q.1/\H q.2.1=some (.tup (p.1.map kV))/\RelV p.2 q.2.2) kvs xs ∧
   ∃o es ep,h.get? a=some o/\o.ExactDict/\o.data= .dict es ep/\es.toList=xs.map (entryOfKey (Nz (bZ P w)))/\(xs.map (·.1)).Nodup
 | .set S n=>h.SetOf (intKind P w) a S n
 | .ins C dx fs=>H dx=some (.own a)/\fs.length<=1000/\dx≠a/\h.get? a=some (OG C dx) ∧
   ∃mA,h.Ns1 dx mA/\(∀f,RelO (fs.lookup f) (mA f))/\PySem.Within mA (fs.map (·.1))
 | .own _=> ∃o,h.get? a=some o
 | .xd fs=> ∃mA,h.Ns1 a mA/\∀f,RelO (fs.lookup f) (mA f)
 | .rng lo hi=> ∃t u v,h.get? a=some { cls:=.type "range",data:=.fields #[.int lo t,.int hi u,.int 1 v] }
 | .frz o u=>h.get? a=some o/\ObjOk H h a u
 | .tbl ps=>h.get? a=some { cls:=.none,data:=.fields ps }
 | .met f x=>h.get? a=some (NW (.ref f) (.ref x))
 | .ext φ=>φ h/\(∃o,h.get? a=some o)/\∀h1 h2:Heap,φ h1->(∀o,h1.get? a=some o->h2.get? a=some o)->φ h2
def HOk (H:Hp)(h:Heap):Prop:=∀a o,H a=some o->ObjOk P w H h a o
end
section
variable {P:JI}{w:Kn}{H H':Hp}{h h':Heap}{a:Addr}{o:HO}
theorem ObjOk.lt (x:ObjOk P w H h a o):a<h.objs.size:=by
 cases o with
 | lst xs=>obtain⟨_,_,_,_,e⟩:=x;exact Jr e
 | tup xs=>obtain⟨_,_,_,p⟩:=x;exact p.lt
 | dK kvs=>obtain⟨_,_,_,_,o,_,_,e,_⟩:=x;exact Jr e
 | dT kvs=>obtain⟨_,_,_,_,o,_,_,e,_⟩:=x;exact Jr e
 | set S n=>obtain⟨o,_,_,_,e,_⟩:=x;exact Jr e
 | ins C dx fs=>obtain⟨_,_,_,e,_⟩:=x;exact Jr e
 | own y=>obtain⟨_,e⟩:=x;exact Jr e
 | xd fs=>obtain⟨_,⟨_,_,_,e,_⟩,_⟩:=x;exact Jr e
 | rng lo hi=>obtain⟨_,_,_,e⟩:=x;exact Jr e
 | frz ob u=>obtain⟨e,_⟩:=x;exact Jr e
 | tbl ps=>exact Jr (show h.get? a=some _ from x)
 | met f y=>exact Jr (show h.get? a=some _ from x)
 | ext φ=>obtain⟨_,⟨_,e⟩,_⟩:=x;exact Jr e
theorem Paired.IF {α β:Type}{F G:α->β->Prop}:∀{l₁:List α} {l₂:List β},RI F l₁ l₂->(∀a b,F a b->G a b)->RI G l₁ l₂
 | _,_,.nil,_=> .nil
 | _,_,.cons r t,f=> .cons (f _ _ r) (Paired.IF t f)
theorem ObjOk.HW (x:ObjOk P w H h a o)(k:∀b u,(b=a\/H b=some (.own a))->h.get? b=some u->h'.get? b=some u)
  (ho:∀b,H b=some (.own a)->H' b=some (.own a)) (ht:∀b xs,H b=some (.tup xs)->H' b=some (.tup xs)):ObjOk P w H' h' a o:=by
 induction o with
 | lst xs=>obtain⟨z,its,n,r,e⟩:=x;exact⟨z,its,n,r,k _ _ (.inl rfl) e⟩
 | tup xs=>obtain⟨z,its,r,ob,e,c⟩:=x;exact⟨z,its,r,ob,k _ _ (.inl rfl) e,c⟩
 | dK kvs=>obtain⟨z,y,vs,r,ob,es,ep,e,c⟩:=x;exact⟨z,y,vs,r,ob,es,ep,k _ _ (.inl rfl) e,c⟩
 | dT kvs=>
  obtain⟨z,y,xs,r,ob,es,ep,e,c⟩:=x
  exact⟨z,y,xs,Paired.IF r λp q z=>⟨z.1,ht _ _ z.2.1,z.2.2⟩,ob,es,ep,k _ _ (.inl rfl) e,c⟩
 | set S n=>obtain⟨ob,es,ep,t,e,c⟩:=x;exact⟨ob,es,ep,t,k _ _ (.inl rfl) e,c⟩
 | ins C dx fs=>
  obtain⟨d,z,ne,e,mA,⟨od,es,ep,e2,c⟩,r⟩:=x
  exact⟨ho _ d,z,ne,k _ _ (.inl rfl) e,mA,⟨od,es,ep,k _ _ (.inr d) e2,c⟩,r⟩
 | own y=>obtain⟨ob,e⟩:=x;exact⟨ob,k _ _ (.inl rfl) e⟩
 | xd fs=>obtain⟨mA,⟨od,es,ep,e,c⟩,r⟩:=x;exact⟨mA,⟨od,es,ep,k _ _ (.inl rfl) e,c⟩,r⟩
 | rng lo hi=>obtain⟨t,u,v,e⟩:=x;exact⟨t,u,v,k _ _ (.inl rfl) e⟩
 | frz ob u ih=>obtain⟨e,q⟩:=x;exact⟨k _ _ (.inl rfl) e,ih q⟩
 | tbl ps=>
  have e:h.get? a=some { cls:=.none,data:=.fields ps }:=x
  show h'.get? a=some { cls:=.none,data:=.fields ps }
  exact k a _ (.inl rfl) e
 | met f y=>
  have e:h.get? a=some (NW (.ref f) (.ref y)):=x
  show h'.get? a=some (NW (.ref f) (.ref y))
  exact k a _ (.inl rfl) e
 | ext φ=>obtain⟨p,⟨o,e⟩,st⟩:=x;exact⟨st _ _ p λo q=>k _ _ (.inl rfl) q,⟨o,k _ _ (.inl rfl) e⟩,st⟩
theorem HOk.lt (x:HOk P w H h)(e:H a=some o):a<h.objs.size:=(x a o e).lt
theorem HOk.fresh (x:HOk P w H h)(e:h.objs.size<=a):H a=none:=by
 cases q:H a with
 | none=>rfl
 | some u=>exact absurd (Jt (x.lt q) e) (JJ _)
theorem HOk.kept (x:HOk P w H h)(k:∀b u,h.get? b=some u->h'.get? b=some u):HOk P w H h':=λa o e=>
 (x a o e).HW (λb u _ q=>k b u q) (λ_ q=>q) λ_ _ q=>q
theorem HOk.laid (x:HOk P w H h)(k:∀b u,h.get? b=some u->h'.get? b=some u)(hp:h.objs.size<=a)(new:ObjOk P w (upd H a o) h' a o):HOk P w (upd H a o) h':=λb u e=>by
 have hn:=x.fresh hp
 by_cases hb:b=a
 ·subst hb;rw[aP]at e;cases e;exact new
 ·rw[aJ hb]at e
  exact(x b u e).HW (λc v _ q=>k c v q) (λc q=>by rw[aJ (bU q hn)];exact q) λc xs q=>by rw[aJ (bU q hn)];exact q
end
def Rd (H:Hp)(a:Addr)(u:HO):Prop:=H a=some u\/∃o,H a=some (.frz o u)
theorem Rd.ok {P:JI}{w:Kn}{H:Hp}{h:Heap}{a:Addr}{u:HO}(r:Rd H a u)(x:HOk P w H h):ObjOk P w H h a u:=by
 rcases r with r | ⟨o,r⟩
 ·exact x a u r
 ·obtain⟨_,q⟩:=x a _ r
  exact q
def Hd:Option HO->Prop
 | some (.lst _)=>True
 | some (.dK _)=>True
 | some (.dT _)=>True
 | some (.set _ _)=>True
 | some (.ins _ _ _)=>True
 | some (.ext _)=>True
 | _=>False
section
variable {P:JI}{w:Kn}{H:Hp}{h h':Heap}{x e:Addr}{o':HO}
theorem HOk.write (ok:HOk P w H h)(mu:Hd (H x))(he:e=x\/H e=some (.own x))(k:∀b u,b≠e->h.get? b=some u->h'.get? b=some u)(heo:∃u,h'.get? e=some u)
  (new:ObjOk P w (upd H x o') h' x o'):HOk P w (upd H x o') h':=λb u q=>by
 have nown:∀c y,H c=some (.own y)->c≠x:=λc y r z=>by subst z;rw[r]at mu;exact mu
 have ntup:∀c xs,H c=some (.tup xs)->c≠x:=λc xs r z=>by subst z;rw[r]at mu;exact mu
 by_cases hb:b=x
 ·subst hb;rw[aP]at q;cases q;exact new
 ·rw[aJ hb]at q
  by_cases hbe:b=e
  ·have q':H b=some (.own x):=by
    rcases he with z | z
    ·exact absurd (hbe.trans z) hb
    ·rw[hbe];exact z
   rw[q]at q';cases q';obtain⟨v,hv⟩:=heo;exact⟨v,by rw[hbe];exact hv⟩
  ·refine(ok b u q).HW (λc v hc r=>k c v ?_ r) (λc r=>by rw[aJ (nown c b r)];exact r) λc xs r=>by rw[aJ (ntup c xs r)];exact r
   rcases hc with rfl | hc
   ·exact hbe
   ·rintro rfl
    rcases he with z | z
    ·exact nown c b hc z
    ·rw[hc]at z;cases z;exact hb rfl
end
structure Un (fs ex:List Addr)(H H':Hp)(h h':Heap):Prop where
 keep:∀b o,h.get? b=some o->H b=none->b∉fs->b∉ex->h'.get? b=some o
 slot:∀b o,h.get? b=some o->H b=none->b∈fs->b∉ex->∃sl,h'.get? b=some { o with slots:=sl }
 free:∀b o,h.get? b=some o->H b=none->b∉ex->H' b=none
 there:∀b o,h.get? b=some o->b∉ex->∃o',h'.get? b=some o'
 tups:∀b xs,H b=some (.tup xs)->H' b=some (.tup xs)
 frzs:∀b o u,H b=some (.frz o u)->H' b=some (.frz o u)
 tbls:∀b ps,H b=some (.tbl ps)->∃more,H' b=some (.tbl (ps++more))
section
variable {fs fs' ex ex':List Addr}{H H1 H2:Hp}{h h1 h2 h':Heap}{a x e:Addr}{o:HO}
theorem Un.any (u:Un fs ex H H1 h h1){b:Addr}{ob:Obj}(q:h.get? b=some ob)(n:H b=none)(hx:b∉ex):∃sl,h1.get? b=some { ob with slots:=sl }:=by
 by_cases hb:b∈fs
 ·exact u.slot b ob q n hb hx
 ·exact⟨ob.slots,u.keep b ob q n hb hx⟩
theorem Un.kept (k:∀b u,h.get? b=some u->h'.get? b=some u):Un fs ex H H h h':=
 ⟨λb ob q _ _ _=>k b ob q,λb ob q _ _ _=>⟨ob.slots,k b ob q⟩,λ_ _ _ n _=>n,λb ob q _=>⟨ob,k b ob q⟩,λ_ _ q=>q,λ_ _ _ q=>q,λ_ ps q=>⟨#[],by rw[q];simp⟩⟩
theorem Un.refl:Un fs ex H H h h:=Un.kept λ_ _ q=>q
theorem Un.laid (k:∀b u,h.get? b=some u->h'.get? b=some u)(hp:h.objs.size<=a)(hn:H a=none):Un fs ex H (upd H a o) h h' where
 keep:=λb u q _ _ _=>k b u q
 slot:=λb u q _ _ _=>⟨u.slots,k b u q⟩
 free:=λb u q n _=>by rw[aJ (JR (Jt (Jr q) hp))];exact n
 there:=λb u q _=>⟨u,k b u q⟩
 tups:=λb xs q=>by rw[aJ (bU q hn)];exact q
 frzs:=λb u xs q=>by rw[aJ (bU q hn)];exact q
 tbls:=λb ps q=>⟨#[],by rw[aJ (bU q hn),q];simp⟩
theorem Un.write (mu:Hd (H x))(he:e=x\/H e=some (.own x))(k:∀b u,b≠e->h.get? b=some u->h'.get? b=some u)(heo:∃u,h'.get? e=some u):Un fs ex H (upd H x o) h h':=by
 have hx:∀b,H b=none->b≠x:=λb n z=>by subst z;rw[n]at mu;exact mu
 have hb:∀b,H b=none->b≠e:=λb n z=>by
  subst z;rcases he with r | r
  ·exact hx b n r
  ·rw[n]at r;cases r
 have hm:∀b u,H b=some u->¬ Hd (some u)->b≠x:=λb u q nm z=>by subst z;rw[q]at mu;exact nm mu
 refine⟨λb u q n _ _=>k b u (hb b n) q,λb u q n _ _=>⟨u.slots,k b u (hb b n) q⟩,λb u q n _=>by rw[aJ (hx b n)];exact n,λb u q _=> ?_,
  λb xs q=>by rw[aJ (hm b _ q λz=>z)];exact q,λb u xs q=>by rw[aJ (hm b _ q λz=>z)];exact q,λb ps q=>⟨#[],by rw[aJ (hm b _ q λz=>z),q];simp⟩⟩
 by_cases hbe:b=e
 ·subst hbe;exact heo
 ·exact⟨u,k b u hbe q⟩
end
def trk (h:Heap)(H:Hp):List Addr:=(Kv h.objs.size).filter λa=>(H a).isSome
def qD (h:Heap)(H:Hp):Heap:=Rf h (trk h H)
theorem xh (h:Heap)(H:Hp):(qD h H).objs.size=h.objs.size:=PySem.W.hideAll_size _ _
theorem zR {h:Heap}{H:Hp}{b:Addr}{o:Obj}(e:h.get? b=some o)(n:H b=none):(qD h H).get? b=some o:=
 Nm _ e λhm=>by
  have q:(H b).isSome=true:=(LL.mp hm).2;rw[n]at q;simp at q
theorem BZ {h:Heap}{H:Hp}{b:Addr}{o:Obj}(e:(qD h H).get? b=some o):h.get? b=some o/\H b=none:=by
 have e':h.get? b=some o:=PJ (trk h H) e;refine⟨e',?_⟩
 cases q:H b with
 | none=>rfl
 | some x=>
  have hm:b∈trk h H:=LL.mpr ⟨KY.mpr (Jr e'),by simp[q]⟩
  have z:(qD h H).get? b=none:=Pb (trk h H) hm;rw[z]at e;cases e
def CB (g h:Heap)(L:Addr):List (Addr×Obj):=(Kv h.objs.size).filterMap λa=>if a=L\/(g.get? a).isSome=true then none else(h.get? a).map λo=>(a,o)
def bJ (g h:Heap)(L d:Addr):List (Addr×Obj):=(CB g h L).filter λp=>decide (p.1≠d)
structure Mod (K:Jg)(mg:Str->Option Ji)(base:Heap):Prop where
 kin:K.In base
 glob:base.Ns Kc mg
 blt:∃mb,base.Ns O9 mb/\∀x:Str,x≠ "__name__"->mb x=JT x
 nolimit:base.NoLimit
structure Cx where
 prog:JI
 w:Kn
 K:Jg
 mg:Str->Option Ji
 base:Heap
 A:JZ
 N:List Str
 s₀:Jk
 H₀:Hp
 env:Env
 outer:List Env
 stack:List Env
 ex:List Addr
 fn:Str->Bool
 calm:Bool
 pn:List (Addr×Obj)
 xe:Ji->Jk->Prop
def qE (l:List Env):List Addr:=l.filterMap (·.frame)
abbrev Cx.fs (X:Cx):List Addr:=qE X.outer
def xG (sc:Ny)(x:Str):Prop:=sc.names.lookup x=some .local\/sc.names.lookup x=some .cell\/sc.names.lookup x=some .free
def Loc (sc:Ny)(x:Str):Prop:=sc.names.lookup x=some .local\/sc.names.lookup x=some .cell
def Look (env:Env)(h:Heap)(m:Str->Option Ji)(x:Str)(u:Ji):Prop:=
 (env.kindOf x=some .local/\m x=some u)\/((env.kindOf x=some .cell\/env.kindOf x=some .free)/\∃c,env.cells.lookup x=some c/\h.IsCell c (some u))
structure Cx.Ok (X:Cx):Prop where
 mod:Mod X.K X.mg X.base
 kind:X.env.scope.kind= .function
 glob:X.env.globals=Kc
 blt:X.env.builtins=O9
 above:X.s₀.heap.objs.size<=X.env.locals
 inj:∀x y c,X.env.cells.lookup x=some c->X.env.cells.lookup y=some c->x=y
 has:∀x,(X.env.kindOf x=some .cell\/X.env.kindOf x=some .free)->∃c,X.env.cells.lookup x=some c
 cab:∀x c,X.fn x=true->X.env.cells.lookup x=some c->X.s₀.heap.objs.size<=c
 hd:X.calm=true->X.A.handled=none
 frames:X.A.frames=some X.stack
 stk:X.stack=X.outer\/(X.stack=X.env::X.outer/\X.env.frame=some X.env.locals)
 exf:∀b∈X.ex,b≠X.env.locals/\∀x c,X.env.cells.lookup x=some c->c≠b
 bs:∀b o,X.base.get? b=some o->X.s₀.heap.get? b=some o/\X.H₀ b=none
 bsz:X.base.objs.size<=X.s₀.heap.objs.size
 noex:∀b o,X.base.get? b=some o->b∉X.ex
 exfs:∀b∈X.ex,b∉X.fs
 funs:X.s₀.heap.FunFrames X.base X.outer
 frf:∀b∈X.fs,X.H₀ b=none
structure Inv (X:Cx)(pins:List (Addr×Obj))(σ:List (Option V))(H:Hp)(s:Jk):Prop where
 ok:X.Ok
 os:s.os=X.s₀.os
 bare:Oi s.gens
 base:Un X.fs X.ex X.H₀ H X.s₀.heap s.heap
 loc:∃m,s.heap.Ns X.env.locals m/\∀(i:Nat) (x:Str) (v:V),X.N[i]? =some x->σ[i]? =some (some v)->xG X.env.scope x->∃u,RelV v u/\Look X.env s.heap m x u
 cell:∀x c,X.env.cells.lookup x=some c->∃v,s.heap.IsCell c v
 free:H X.env.locals=none
 freeC:∀x c,X.env.cells.lookup x=some c->H c=none
 pin:∀p∈X.pn++pins,s.heap.get? p.1=some p.2/\H p.1=none/\p.1≠X.env.locals/\p.1∉X.fs/\∀v,p.2.data≠ .cell v
 hok:HOk X.prog X.w H s.heap
 len:σ.length=X.N.length
section
variable {X:Cx}{pins:List (Addr×Obj)}{σ:List (Option V)}{H H':Hp}{s:Jk}{h':Heap}
theorem Cx.Ok.IX (ok:X.Ok){b:Addr}{o:Obj}(e:X.base.get? b=some o):b∉X.fs:=λhb=>by
 have:=(ok.funs.mem hb).1;rw[e]at this;cases this
theorem Inv.bs (I:Inv X pins σ H s):∀b o,X.base.get? b=some o->s.heap.get? b=some o/\H b=none:=λb o e=>
 ⟨I.base.keep b o (I.ok.bs b o e).1 (I.ok.bs b o e).2 (I.ok.IX e) (I.ok.noex b o e),I.base.free b o (I.ok.bs b o e).1 (I.ok.bs b o e).2 (I.ok.noex b o e)⟩
theorem Inv.bk (I:Inv X pins σ H s):∀b o,X.base.get? b=some o->s.heap.get? b=some o:=λb o e=>(I.bs b o e).1
theorem Inv.mod (I:Inv X pins σ H s):Mod X.K X.mg X.base:=I.ok.mod
theorem Inv.kIn (I:Inv X pins σ H s):X.K.In s.heap:=I.ok.mod.kin.keeps I.bk
theorem Inv.lt (I:Inv X pins σ H s):X.env.locals<s.heap.objs.size:=let ⟨_,hn,_⟩:=I.loc;hn.lt
theorem Inv.sz (I:Inv X pins σ H s):X.s₀.heap.objs.size<=s.heap.objs.size:=JQ I.ok.above (KD I.lt)
theorem Inv.Jb (I:Inv X pins σ H s){a:Addr}(h:s.heap.objs.size<=a):a∉X.fs:=λhb=>by
 obtain⟨_,o,ho,_⟩:=I.ok.funs.mem hb;exact absurd (Jt (Jr ho) (JQ I.sz h)) (JJ _)
theorem Inv.cne (I:Inv X pins σ H s):∀x c,X.env.cells.lookup x=some c->c≠X.env.locals:=λx c e z=>by
 obtain⟨v,o,ho,hd⟩:=I.cell x c e;obtain⟨m,⟨o',es,ep,ho',hd',_⟩,_⟩:=I.loc;rw[z,ho']at ho;cases ho;rw[hd']at hd;cases hd
theorem Inv.funs (I:Inv X pins σ H s):s.heap.FunFrames X.base X.outer:=by
 have all:∀(l:List Env),(∀b∈qE l,b∈X.fs)->X.s₀.heap.FunFrames X.base l->s.heap.FunFrames X.base l:=by
  intro l
  induction l with
  | nil=>intro _ _;trivial
  | cons env r ih=>
   intro hs hl;obtain⟨hk,⟨L,o,hf,hn,ho,hd⟩,hr⟩:=hl
   have hL:L∈X.fs:=hs L (by unfold qE;rw[MB,hf];exact Jj)
   obtain⟨sl,e⟩:=I.base.slot L o ho (I.ok.frf L hL) hL λz=>I.ok.exfs L z hL
   exact⟨hk,⟨L,_,hf,hn,e,hd⟩,ih (λb hb=>hs b (by unfold qE;rw[MB,hf];exact Jh _ hb)) hr⟩
 exact all X.outer (λ_ hb=>hb) I.ok.funs
theorem Inv.stack (I:Inv X pins σ H s):s.heap.FunFrames X.base X.stack:=by
 rcases I.ok.stk with e | ⟨e,hf⟩
 ·rw[e];exact I.funs
 ·rw[e]
  obtain⟨m,hn,_⟩:=I.loc;refine .cons (by rw[I.ok.kind];decide) hf hn ?_ I.funs
  exact Heap.get?_none_of_le (JQ I.ok.bsz I.ok.above)
theorem Inv.Ie (I:Inv X pins σ H s):∀b∈qE X.stack,b∈X.env.locals::X.fs:=λb hb=>by
 rcases I.ok.stk with e | ⟨e,hf⟩
 ·rw[e]at hb;exact Jh _ hb
 ·rw[e]at hb
  unfold qE at hb;rw[MB,hf]at hb;exact hb
theorem Inv.HZ (I:Inv X pins σ H s):∀b∈qE X.stack,H b=none:=λb hb=>by
 rcases Jp.mp (I.Ie b hb)with e | hb
 ·rw[e];exact I.free
 ·obtain⟨_,o,ho,_⟩:=I.ok.funs.mem hb
  exact I.base.free b o ho (I.ok.frf b hb) λz=>I.ok.exfs b z hb
theorem Inv.step {g':Array GenState}{t':Nat}{d':Drawn}{ch:List Addr}(I:Inv X pins σ H s)
  (hch:∀b∈ch,(b∈X.ex\/X.s₀.heap.objs.size<=b)/\b≠X.env.locals/\(∀x c,X.env.cells.lookup x=some c->c≠b)/\∀p∈X.pn++pins,p.1≠b)
  (keep:∀b o,b≠X.env.locals->b∉X.fs->b∉ch->s.heap.get? b=some o->H b=none->h'.get? b=some o)
  (slot:∀b o,b≠X.env.locals->b∈X.fs->b∉ch->s.heap.get? b=some o->H b=none->∃sl,h'.get? b=some { o with slots:=sl }) (free:∀b o,b∉ch->s.heap.get? b=some o->H b=none->H' b=none)
  (there:∀b o,b∉ch->s.heap.get? b=some o->∃o',h'.get? b=some o')
  (tups:∀b xs,H b=some (.tup xs)->H' b=some (.tup xs)) (frzs:∀b o u,H b=some (.frz o u)->H' b=some (.frz o u)) (tbls:∀b ps,H b=some (.tbl ps)->∃more,H' b=some (.tbl (ps++more)))
  (ns:∀m,s.heap.Ns X.env.locals m->h'.Ns X.env.locals m) (hok:HOk X.prog X.w H' h') (hg:Oi g') :
  Inv X pins σ H' { s with heap:=h',gens:=g',drawn:=d',toks:=t' }:=by
 have neL:∀b o,X.s₀.heap.get? b=some o->b≠X.env.locals:=λb o e=>JR (Jt (Jr e) I.ok.above)
 have neC:∀b o,X.s₀.heap.get? b=some o->b∉X.ex->b∉ch:=λb o e hx hb=>by
  rcases(hch b hb).1 with z | z
  ·exact hx z
  ·exact absurd (Jt (Jr e) z) (JJ _)
 have cellK:∀x c,X.env.cells.lookup x=some c->∀v,s.heap.IsCell c v->h'.IsCell c v:=λx c e v hh_=>by
  obtain⟨o,ho,hd⟩:=hh_
  have nch:c∉ch:=λz=>(hch c z).2.2.1 x c e rfl
  by_cases hc:c∈X.fs
  ·obtain⟨sl,q⟩:=slot c o (I.cne x c e) hc nch ho (I.freeC x c e)
   exact⟨_,q,hd⟩
  ·exact⟨o,keep c o (I.cne x c e) hc nch ho (I.freeC x c e),hd⟩
 refine⟨I.ok,I.os,hg,⟨λb o e n hb hx=> ?_,λb o e n hb hx=> ?_,λb o e n hx=> ?_,λb o e hx=> ?_,λb xs e=>tups b xs (I.base.tups b xs e),λb o xs e=>frzs b o xs (I.base.frzs b o xs e),λb ps e=> ?_⟩,?_,λx c e=> ?_,?_,λx c e=> ?_,λp hp=> ?_,hok,I.len⟩
 ·exact keep b o (neL b o e) hb (neC b o e hx) (I.base.keep b o e n hb hx) (I.base.free b o e n hx)
 ·obtain⟨sl,e1⟩:=I.base.slot b o e n hb hx
  obtain⟨sl',e2⟩:=slot b _ (neL b o e) hb (neC b o e hx) e1 (I.base.free b o e n hx);exact⟨sl',e2⟩
 ·obtain⟨o',e1⟩:=I.base.there b o e hx
  exact free b o' (neC b o e hx) e1 (I.base.free b o e n hx)
 ·obtain⟨o',e1⟩:=I.base.there b o e hx
  exact there b o' (neC b o e hx) e1
 ·obtain⟨m1,e1⟩:=I.base.tbls b ps e
  obtain⟨m2,e2⟩:=tbls b _ e1;exact⟨m1++m2,by rw[e2,Array.append_assoc]⟩
 ·obtain⟨m,hn,hl⟩:=I.loc
  refine⟨m,ns m hn,λi x v e1 e2 e3=> ?_⟩
  obtain⟨u,r,l⟩:=hl i x v e1 e2 e3;refine⟨u,r,?_⟩
  rcases l with l | ⟨k,c,e,z⟩
  ·exact .inl l
  ·exact .inr ⟨k,c,e,cellK x c e _ z⟩
 ·obtain⟨v,z⟩:=I.cell x c e
  exact⟨v,cellK x c e v z⟩
 ·obtain⟨m,⟨o,_,_,ho,_⟩,_⟩:=I.loc
  exact free _ o (λz=>(hch _ z).2.1 rfl) ho I.free
 ·obtain⟨v,o,ho,hd⟩:=I.cell x c e
  exact free c o (λz=>(hch c z).2.2.1 x c e rfl) ho (I.freeC x c e)
 ·obtain⟨e,n,ne,nf,d⟩:=I.pin p hp
  have nch:p.1∉ch:=λz=>(hch p.1 z).2.2.2 p hp rfl
  exact⟨keep p.1 p.2 ne nf nch e n,free p.1 p.2 nch e n,ne,nf,d⟩
theorem Inv.un {t':Nat}(I:Inv X pins σ H s)(u:Un X.fs [] H H' s.heap h')(hok:HOk X.prog X.w H' h'):Inv X pins σ H' { s with heap:=h',toks:=t' }:=by
 obtain⟨m,⟨o,es,ep,ho,r⟩,_⟩:=id I.loc;obtain⟨sl,hL⟩:=u.any ho I.free (by simp)
 exact I.step (g':=s.gens) (d':=s.drawn) (ch:=[]) (λ_ z=>nomatch z) (λb o _ hb _ e n=>u.keep b o e n hb (by simp)) (λb o _ hb _ e n=>u.slot b o e n hb (by simp)) (λb o _ e n=>u.free b o e n (by simp)) (λb o _ e=>u.there b o e (by simp)) u.tups u.frzs u.tbls (λm' hm=>by
  obtain⟨o',es',ep',ho',r'⟩:=hm;rw[ho]at ho';cases ho';exact⟨_,es',ep',hL,r'⟩) hok I.bare
theorem Inv.call {g':Array GenState}{t':Nat}{d':Drawn}{ch:List Addr}(I:Inv X pins σ H s)(u:Un (qE X.stack) ch H H' s.heap h')(hok:HOk X.prog X.w H' h')(hg:Oi g')
  (hch:∀b∈ch,(b∈X.ex\/X.s₀.heap.objs.size<=b)/\b≠X.env.locals/\(∀x c,X.env.cells.lookup x=some c->c≠b)/\∀p∈X.pn++pins,p.1≠b) :
  Inv X pins σ H' { s with heap:=h',gens:=g',drawn:=d',toks:=t' }:=by
 obtain⟨m,⟨o,es,ep,ho,r⟩,_⟩:=id I.loc;obtain⟨sl,hL⟩:=u.any ho I.free λz=>(hch _ z).2.1 rfl
 exact I.step (ch:=ch) hch (λb o hL hb hc e n=>u.keep b o e n (λz=>(Jp.mp (I.Ie b z)).elim hL hb) hc) (λb o _ _ hc e n=>u.any e n hc) (λb o hc e n=>u.free b o e n hc) (λb o hc e=>u.there b o e hc) u.tups u.frzs u.tbls (λm' hm=>by
  obtain⟨o',es',ep',ho',r'⟩:=hm;rw[ho]at ho';cases ho';exact⟨_,es',ep',hL,r'⟩) hok hg
theorem Inv.turned {t':Nat}{it:Addr}(I:Inv X pins σ H s)(k:∀b o,b≠it->s.heap.get? b=some o->h'.get? b=some o)(hn:H it=none)(hL:it≠X.env.locals)
  (h1:it∈X.ex\/X.s₀.heap.objs.size<=it) (h2:∀x c,X.env.cells.lookup x=some c->c≠it) (h3:∀p∈X.pn++pins,p.1≠it):Inv X pins σ H { s with heap:=h',toks:=t' }:=by
 have nit:∀b u,H b=some u->b≠it:=λb u e z=>by rw[z,hn]at e;cases e
 refine I.step (g':=s.gens) (d':=s.drawn) (ch:=[it]) (λb hb=> ?_) (λb o _ _ hc e _=>k b o (λz=>hc (by simp[z])) e) (λb o _ _ hc e _=>⟨o.slots,k b o (λz=>hc (by simp[z])) e⟩) (λ_ _ _ _ n=>n)
  (λb o hc e=>⟨o,k b o (λz=>hc (by simp[z])) e⟩) (λ_ _ e=>e) (λ_ _ _ e=>e) (λb ps e=>⟨#[],by rw[e];simp⟩) (λm hm=> ?_) (λb u e=> ?_) I.bare
 ·have e:b=it:=by simpa using hb
  subst e;exact⟨h1,hL,h2,h3⟩
 ·obtain⟨o,es,ep,ho,r⟩:=hm
  exact⟨o,es,ep,k _ o (MW hL) ho,r⟩
 ·refine(I.hok b u e).HW (λc v hc q=>k c v ?_ q) (λ_ q=>q) λ_ _ q=>q
  rcases hc with z | z
  ·rw[z];exact nit b u e
  ·exact nit c _ z
theorem Inv.tok (I:Inv X pins σ H s)(t:Nat):Inv X pins σ H { s with toks:=t }:=I.un (h':=s.heap) (t':=t) Un.refl I.hok
theorem Inv.kept {t':Nat}(I:Inv X pins σ H s)(k:∀b u,s.heap.get? b=some u->h'.get? b=some u):Inv X pins σ H { s with heap:=h',toks:=t' }:=I.un (Un.kept k) (I.hok.kept k)
theorem Inv.laid {a:Addr}{o:HO}{t':Nat}(I:Inv X pins σ H s)(k:∀b u,s.heap.get? b=some u->h'.get? b=some u)(hp:s.heap.objs.size<=a)(new:ObjOk X.prog X.w (upd H a o) h' a o) :
  Inv X pins σ (upd H a o) { s with heap:=h',toks:=t' }:=I.un (Un.laid k hp (I.hok.fresh hp)) (I.hok.laid k hp new)
theorem Inv.write {x e:Addr}{o:HO}{t':Nat}(I:Inv X pins σ H s)(mu:Hd (H x))(he:e=x\/H e=some (.own x))(k:∀b u,b≠e->s.heap.get? b=some u->h'.get? b=some u)(heo:∃u,h'.get? e=some u)
  (new:ObjOk X.prog X.w (upd H x o) h' x o):Inv X pins σ (upd H x o) { s with heap:=h',toks:=t' }:=I.un (Un.write mu he k heo) (I.hok.write mu he k heo new)
theorem Inv.Ig {pins':List (Addr×Obj)}(I:Inv X pins σ H s)(h:∀p∈pins',s.heap.get? p.1=some p.2/\H p.1=none/\p.1≠X.env.locals/\p.1∉X.fs/\∀v,p.2.data≠ .cell v):Inv X pins' σ H s:=
 ⟨I.ok,I.os,I.bare,I.base,I.loc,I.cell,I.free,I.freeC,λp hp=>(JS.mp hp).elim (λz=>I.pin p (J2 _ z)) (h p),I.hok,I.len⟩
theorem sr {N:List Str}(hN:N.Nodup){i j:Nat}{x:Str}(a:N[i]? =some x)(b:N[j]? =some x):i=j:=by
 obtain⟨h1,e1⟩:=Jy.mp a
 obtain⟨h2,e2⟩:=Jy.mp b
 exact(List.getElem_inj hN).mp (e1.trans e2.symm)
theorem ol {M:Model}{A:JZ}{E:Ji->Jk->Prop}{i:Nat}{x:Str}{v:V}{u:Ji}{Q:Unit->Jk->Prop}(I:Inv X pins σ H s)(hN:X.N.Nodup)(hi:X.N[i]? =some x)(hx:Loc X.env.scope x)(r:RelV v u)
  (h:∀s',Inv X pins (σ.set i (some v)) H s'->(∃a,MD a s.heap s'.heap/\(a=X.env.locals\/X.env.cells.lookup x=some a))->Q () s') (hf:X.fn x=true\/X.env.scope.names.lookup x=some .local:=by first | exact .inl rfl | exact .inr rfl | assumption):wpAny M A (storeName X.env x u) Q E s:=by
 obtain⟨m,hn,hl⟩:=id I.loc
 have hcls:(X.env.scope.kind == .class||(X.env.scope.kind == .module&&X.env.locals != X.env.globals))=false:=by rw[I.ok.kind];rfl
 have hiσ:i<σ.length:=by rw[I.len];exact(Jy.mp hi).1
 have cne:=I.cne
 have tracked:∀{a:Addr} {h':Heap},(∃o,s.heap.get? a=some o/\H a=none)->MD a s.heap h'->HOk X.prog X.w H h':=λ{a h'} ha hs b ob e=>by
  obtain⟨_,_,hfree⟩:=ha;refine(I.hok b ob e).HW (λc w' hc q=>(hs.2 c ?_).trans q) (λ_ q=>q) λ_ _ q=>q
  rintro rfl
  rcases hc with rfl | hc
  ·rw[hfree]at e;cases e
  ·rw[hfree]at hc;cases hc
 rcases hx with hk | hk
 ·refine wpAny_storeName_local hk hn (λh' hn' hs=> ?_) hcls
  obtain⟨oL,_,_,hoL,_⟩:=id hn;refine h _ ⟨I.ok,I.os,I.bare,⟨λb o e n hb hx=> ?_,λb o e n hb hx=> ?_,I.base.free,λb o e hx=> ?_,I.base.tups,I.base.frzs,I.base.tbls⟩,⟨_,hn',λj y v' e1 e2 e3=> ?_⟩,λy c e=> ?_,I.free,I.freeC,λp hp=> ?_,tracked ⟨oL,hoL,I.free⟩ hs,by simpa using I.len⟩ ⟨_,hs,.inl rfl⟩
  ·exact(hs.2 b (JR (Jt (Jr e) I.ok.above))).trans (I.base.keep b o e n hb hx)
  ·obtain⟨sl,e1⟩:=I.base.slot b o e n hb hx
   exact⟨sl,(hs.2 b (JR (Jt (Jr e) I.ok.above))).trans e1⟩
  ·obtain⟨o',e1⟩:=I.base.there b o e hx
   exact⟨o',(hs.2 b (JR (Jt (Jr e) I.ok.above))).trans e1⟩
  ·by_cases hj:j=i
   ·subst hj
    rw[hi]at e1;cases e1;rw[JM hiσ]at e2
    cases e2;exact⟨u,r,.inl ⟨hk,by simp⟩⟩
   ·rw[JO (MW hj)]at e2
    obtain⟨u',r',q⟩:=hl j y v' e1 e2 e3;refine⟨u',r',?_⟩
    rcases q with⟨k,e⟩ | ⟨k,c,e,z⟩
    ·refine .inl ⟨k,?_⟩
     have:y≠x:=λe=>hj (sr hN e1 (e▸hi))
     simp[this,e]
    ·exact .inr ⟨k,c,e,z.sameBut hs (cne y c e)⟩
  ·obtain⟨w',z⟩:=I.cell y c e
   exact⟨w',z.sameBut hs (cne y c e)⟩
  ·obtain⟨e,n,ne,nf,d⟩:=I.pin p hp
   exact⟨(hs.2 p.1 ne).trans e,n,ne,nf,d⟩
 ·have hfn:X.fn x=true:=by
   rcases hf with z | z
   ·exact z
   ·rw[z]at hk;cases hk
  obtain⟨c,hc⟩:=I.ok.has x (.inl hk);obtain⟨w',z⟩:=I.cell x c hc;refine wpAny_storeName_cell I.ok.kind hk hc z (λh' hc' hs=> ?_)
  obtain⟨oc,hoc,hocd⟩:=id z;refine h { s with heap:=h' } ⟨I.ok,I.os,I.bare,⟨λb o e n hb hx=> ?_,λb o e n hb hx=> ?_,I.base.free,λb o e hx=> ?_,I.base.tups,I.base.frzs,I.base.tbls⟩,⟨m,hn.sameBut hs (MW (cne x c hc)),λj y v' e1 e2 e3=> ?_⟩,λy c' e=> ?_,I.free,I.freeC,λp hp=> ?_,tracked ⟨oc,hoc,I.freeC x c hc⟩ hs,by simpa using I.len⟩ ⟨c,hs,.inr hc⟩
  ·exact(hs.2 b (JR (Jt (Jr e) (I.ok.cab x c hfn hc)))).trans (I.base.keep b o e n hb hx)
  ·obtain⟨sl,e1⟩:=I.base.slot b o e n hb hx
   exact⟨sl,(hs.2 b (JR (Jt (Jr e) (I.ok.cab x c hfn hc)))).trans e1⟩
  ·obtain⟨o',e1⟩:=I.base.there b o e hx
   exact⟨o',(hs.2 b (JR (Jt (Jr e) (I.ok.cab x c hfn hc)))).trans e1⟩
  ·by_cases hj:j=i
   ·subst hj
    rw[hi]at e1;cases e1;rw[JM hiσ]at e2
    cases e2;exact⟨u,r,.inr ⟨.inl hk,c,hc,hc'⟩⟩
   ·rw[JO (MW hj)]at e2
    obtain⟨u',r',q⟩:=hl j y v' e1 e2 e3;refine⟨u',r',?_⟩
    rcases q with q | ⟨k,c',e,z'⟩
    ·exact .inl q
    ·refine .inr ⟨k,c',e,z'.sameBut hs ?_⟩
     rintro rfl
     exact hj (sr hN e1 (I.ok.inj _ _ _ e hc▸hi))
  ·by_cases hcc:c'=c
   ·subst hcc;exact⟨_,hc'⟩
   ·obtain⟨w2,z2⟩:=I.cell y c' e
    exact⟨w2,z2.sameBut hs hcc⟩
  ·obtain⟨e,n,ne,nf,d⟩:=I.pin p hp
   refine⟨(hs.2 p.1 ?_).trans e,n,ne,nf,d⟩
   intro q;rw[q,hoc]at e
   have q':oc=p.2:=JW e;exact d w' (by rw[<-q'];exact hocd)
theorem rA {M:Model}{A:JZ}{E:Ji->Jk->Prop}{i:Nat}{x:Str}{v:V}{u:Ji}{Q:Unit->Jk->Prop}(I:Inv X pins σ H s)(hN:X.N.Nodup)(hi:X.N[i]? =some x)(hx:Loc X.env.scope x)(r:RelV v u)
  (h:∀s',Inv X pins (σ.set i (some v)) H s'->Q () s') (hf:X.fn x=true\/X.env.scope.names.lookup x=some .local:=by first | exact .inl rfl | exact .inr rfl | assumption):wpAny M A (storeName X.env x u) Q E s:=
 ol I hN hi hx r (λs' I' _=>h s' I') hf
theorem Inv.Ir {s':Jk}{ch:List Addr}(I:Inv X pins σ H s)(ho:s'.os=s.os)(u:Un (qE X.stack) ch H H' s.heap s'.heap)(hok:HOk X.prog X.w H' s'.heap)(hg:Oi s'.gens)
  (hch:∀b∈ch,(b∈X.ex\/X.s₀.heap.objs.size<=b)/\b≠X.env.locals/\(∀x c,X.env.cells.lookup x=some c->c≠b)/\∀p∈X.pn++pins,p.1≠b):Inv X pins σ H' s':=by
 obtain⟨h',g',d',t',o'⟩:=s'
 have e:o'=s.os:=ho;subst e;exact I.call (g':=g') (t':=t') (d':=d') u hok hg hch
end
abbrev XK:=Ji->Option Addr->Hp->Prop
abbrev St:=List (Option V)
abbrev VK:=V->Hp->Prop
abbrev TE:=St->Hp->VK->Prop
abbrev TT:=St->Hp->(Bool->Hp->Prop)->Prop
abbrev TA:=St->Hp->(List V->Hp->Prop)->Prop
structure qW where
 nx:St->Hp->Prop
 rt:VK
 bk:St->Hp->Prop:=λ_ _=>False
 ct:St->Hp->Prop:=λ_ _=>False
abbrev TS:=qW->St->Hp->Prop
def EP (X:Cx)(pins:List (Addr×Obj))(σ:St)(Q:VK)(u:Ji)(s':Jk):Prop:=∃v H',Inv X pins σ H' s'/\RelV v u/\Q v H'
def TP (X:Cx)(pins:List (Addr×Obj))(σ:St)(Q:Bool->Hp->Prop)(b:Bool)(s':Jk):Prop:=∃H',Inv X pins σ H' s'/\Q b H'
def AP (X:Cx)(pins:List (Addr×Obj))(σ:St)(Q:List V->Hp->Prop)(us:List Ji)(s':Jk):Prop:=∃vs H',Inv X pins σ H' s'/\Vals vs us/\Q vs H'
def SP (X:Cx)(pins:List (Addr×Obj))(D:qW)(f:Flow)(s':Jk):Prop:=
 match f with
 | .next=> ∃σ' H',Inv X pins σ' H' s'/\D.nx σ' H'
 | .brk=> ∃σ' H',Inv X pins σ' H' s'/\D.bk σ' H'
 | .cont=> ∃σ' H',Inv X pins σ' H' s'/\D.ct σ' H'
 | .ret u=> ∃v σ' H',Inv X pins σ' H' s'/\RelV v u/\D.rt v H'
def PE (X:Cx)(e:Expr)(t:TE):Prop:=
 ∀(pins:List (Addr×Obj)) (s:Jk) (σ:St) (H:Hp) (Q:VK),Inv X pins σ H s->t σ H Q->wpAny (model X.prog X.w) X.A (eval e X.env) (EP X pins σ Q) X.xe s
def PT (X:Cx)(e:Expr)(t:TT):Prop:=
 ∀(pins:List (Addr×Obj)) (s:Jk) (σ:St) (H:Hp) (Q:Bool->Hp->Prop),Inv X pins σ H s->t σ H Q->wpAny (model X.prog X.w) X.A (isTrue e X.env (eval e X.env)) (TP X pins σ Q) X.xe s
def PW (X:Cx)(e:Expr)(t:TT):Prop:=
 ∀(whole:Sem Ji) (pins:List (Addr×Obj)) (s:Jk) (σ:St) (H:Hp) (Q:Bool->Hp->Prop),Inv X pins σ H s->t σ H Q->wpAny (model X.prog X.w) X.A (isTrue e X.env whole) (TP X pins σ Q) X.xe s
theorem PW.pt {X:Cx}{e:Expr}{t:TT}(h:PW X e t):PT X e t:=h _
def PA (X:Cx)(es:List Expr)(t:TA):Prop:=
 ∀(pos:Pos) (pins:List (Addr×Obj)) (s:Jk) (σ:St) (H:Hp) (Q:List V->Hp->Prop),Inv X pins σ H s->t σ H Q->wpAny (model X.prog X.w) X.A (spliced (backTo pos (JF es X.env))) (AP X pins σ Q) X.xe s
def PS (X:Cx)(st:Stmt)(t:TS):Prop:=
 ∀(pins:List (Addr×Obj)) (s:Jk) (σ:St) (H:Hp) (D:qW),Inv X pins σ H s->t D σ H->wpAny (model X.prog X.w) X.A (exec st X.env) (SP X pins D) X.xe s
def PSs (X:Cx)(st:List Stmt)(t:TS):Prop:=
 ∀(pins:List (Addr×Obj)) (s:Jk) (σ:St) (H:Hp) (D:qW),Inv X pins σ H s->t D σ H->wpAny (model X.prog X.w) X.A (execs st X.env) (SP X pins D) X.xe s
theorem cg {α:Type}{t:Sem α}{Q Q':α->Jk->Prop}{M:Model}{A:JZ}{E:Ji->Jk->Prop}{s:Jk}(h:wpAny M A t Q E s)(hQ:∀a s,Q a s->Q' a s):wpAny M A t Q' E s:=Lb h hQ λ_ _ x=>x
section
variable {X:Cx}
def tVar (i:Nat):TE:=λσ H Q=> ∃v,σ[i]? =some (some v)/\Q v H
def tC (v:V):TE:=λ_ H Q=>Q v H
theorem lX {i:Nat}{x:Str}{pos:Pos}(hN:X.N[i]? =some x)(hv:xG X.env.scope x)(hd:ie x:=by decide)(hcd:(x == ("__classdict__" : Str))=false:=by decide):PE X (.Name x pos) (tVar i):=by
 intro pins s σ H Q I h;obtain⟨v,e,h⟩:=h;obtain⟨m,hn,hl⟩:=I.loc;obtain⟨u,r,l⟩:=hl i x v hN e hv
 have fin:EP X pins σ Q u s:=⟨v,H,I,r,h⟩;rcases l with⟨hk,hm⟩ | ⟨hk,c,hc,hcell⟩
 ·exact wpAny_Name (wpAny_loadName_local I.ok.kind hk hn hm fin) hd
 ·rcases hk with hk | hk
  ·exact wpAny_Name (wpAny_loadName_cell I.ok.kind hk hc hcell fin) hd
  ·exact wpAny_Name (wpAny_loadName_free I.ok.kind hk hc hcell fin hcd) hd
theorem El {i j pos}:PE X (.Constant (.int i) j pos) (tC (.int i)):=λ_ _ _ H _ I h=>wpAny_Constant_int ⟨.int i,H,I.tok _,⟨_,rfl⟩,h⟩
theorem Gv {b j pos}:PE X (.Constant (.bool b) j pos) (tC (.bl b)):=λ_ _ _ H _ I h=>Constant_bool ⟨.bl b,H,I,rfl,h⟩
theorem Ej {j pos}:PE X (.Constant .none j pos) (tC .non):=λ_ _ _ H _ I h=>Constant_none ⟨.non,H,I,rfl,h⟩
def Gl (X:Cx)(x:Str):Prop:=X.env.kindOf x=some .globalImplicit
theorem ly {E:Ji->Jk->Prop}{pins:List (Addr×Obj)}{s:Jk}{σ:St}{H:Hp}{x:Str}{u:Ji}{pos:Pos}{Q:Ji->Jk->Prop}(I:Inv X pins σ H s)(hg:Gl X x)(hm:X.mg x=some u)(h:Q u s)
  (hd:ie x:=by decide):wpAny (model X.prog X.w) X.A (eval (.Name x pos) X.env) Q E s:=
 NJ I.ok.kind hg (Calls.loadGlobal_global (by rw[I.ok.glob];exact I.mod.glob.keeps I.bk) hm h) hd
theorem eE {E:Ji->Jk->Prop}{pins:List (Addr×Obj)}{s:Jk}{σ:St}{H:Hp}{x:Str}{u:Ji}{pos:Pos}{Q:Ji->Jk->Prop}(I:Inv X pins σ H s)(hg:Gl X x)(hm:X.mg x=none)(hv:JT x=some u)(h:Q u s)
  (hn:x≠ "__name__":=by decide) (hd:ie x:=by decide):wpAny (model X.prog X.w) X.A (eval (.Name x pos) X.env) Q E s:=by
 obtain⟨mb,h1,h2⟩:=I.mod.blt;exact NJ I.ok.kind hg (Calls.loadGlobal_builtin (by rw[I.ok.glob];exact I.mod.glob.keeps I.bk) hm (by rw[I.ok.blt];exact h1.keeps I.bk) ((h2 x hn).trans hv) h) hd
theorem BS {x:Str}{v:V}{u:Ji}{pos:Pos}(hg:Gl X x)(hm:X.mg x=some u)(r:RelV v u)(hd:ie x:=by decide):PE X (.Name x pos) (tC v):=
 λ_ _ _ H _ I h=>ly I hg hm ⟨v,H,I,r,h⟩ hd
theorem BU {x:Str}{v:V}{u:Ji}{pos:Pos}(hg:Gl X x)(hm:X.mg x=none)(hv:JT x=some u)(r:RelV v u)(hn:x≠ "__name__":=by decide)(hd:ie x:=by decide):PE X (.Name x pos) (tC v):=
 λ_ _ _ H _ I h=>eE I hg hm hv ⟨v,H,I,r,h⟩ hn hd
variable {a b:Expr}{ta tb:TE}{pos:Pos}
def tB (t:TE):TT:=λσ H Q=>t σ H λx H1=> ∃c,x= .bl c/\Q c H1
theorem D7 {e:Expr}{t:TE}(h:PE X e t)(he:∀whole,isTrue e X.env whole=(do let v <-whole;standAt e.pos;holding [v] (truthy v)):=by intro _;rfl):PT X e (tB t):=by
 intro pins s σ H Q I hw;refine isTrue_plain (cg (h pins s σ H _ I hw) λv s1 ⟨x,H1,I1,r1,q1⟩=> ?_) (he _)
 obtain⟨d,rfl,q⟩:=q1;cases r1;exact Kx ⟨H1,I1,q⟩
variable {tA tB':TT}{bJ:List Expr}
def tAnd (t u:TT):TT:=λσ H Q=>t σ H λc H1=>if c=true then u σ H1 Q else Q false H1
def tOr (t u:TT):TT:=λσ H Q=>t σ H λc H1=>if c=true then Q true H1 else u σ H1 Q
def tNot (t:TT):TT:=λσ H Q=>t σ H λc H1=>Q (!c) H1
theorem BC (ha:PT X a tA):PW X (.BoolOp .And [a] pos) tA:=by
 intro wh pins s σ H Q I h;refine isTrue_and (cg (ha pins s σ H Q I h) λc s1 e=> ?_)
 cases c with
 | true=>exact isTrue_and_nil e
 | false=>exact e
theorem D2 (ha:PT X a tA):PW X (.BoolOp .Or [a] pos) tA:=by
 intro wh pins s σ H Q I h;refine isTrue_or (cg (ha pins s σ H Q I h) λc s1 e=> ?_)
 cases c with
 | false=>exact isTrue_or_nil e
 | true=>exact e
theorem D5 (ha:PT X a tA)(hb:PW X (.BoolOp .And (b::bJ) pos) tB'):PW X (.BoolOp .And (a::b::bJ) pos) (tAnd tA tB'):=by
 intro wh pins s σ H Q I h;refine isTrue_and (cg (ha pins s σ H _ I h) λc s1 hh_=> ?_)
 obtain⟨H1,I1,q1⟩:=hh_
 cases c with
 | true=>exact hb wh pins s1 σ H1 Q I1 q1
 | false=>exact⟨H1,I1,q1⟩
theorem Go (ha:PT X a tA)(hb:PW X (.BoolOp .Or (b::bJ) pos) tB'):PW X (.BoolOp .Or (a::b::bJ) pos) (tOr tA tB'):=by
 intro wh pins s σ H Q I h;refine isTrue_or (cg (ha pins s σ H _ I h) λc s1 hh_=> ?_)
 obtain⟨H1,I1,q1⟩:=hh_
 cases c with
 | true=>exact⟨H1,I1,q1⟩
 | false=>exact hb wh pins s1 σ H1 Q I1 q1
theorem D8 (ha:PT X a tA):PT X (.UnaryOp .Not a pos) (tNot tA):=by
 intro pins s σ H Q I h;exact isTrue_not (ha pins s σ H (λc H1=>Q (!c) H1) I h)
def FV (ta tb:TE):TE:=λσ H Q=>ta σ H λx H1=> ∃c,x= .bl c/\if c=true then tb σ H1 Q else Q (.bl false) H1
def tOrV (ta tb:TE):TE:=λσ H Q=>ta σ H λx H1=> ∃c,x= .bl c/\if c=true then Q (.bl true) H1 else tb σ H1 Q
def FL (ta:TE):TE:=λσ H Q=>ta σ H λx H1=> ∃c,x= .bl c/\Q (.bl (!c)) H1
theorem Eh {op}{t:TE}(h:PE X a t):PE X (.BoolOp op [a] pos) t:=λpins s σ H Q I hw=>BoolOp_one (h pins s σ H Q I hw)
theorem Em (ha:PE X a ta)(hb:PE X (.BoolOp .And (b::bJ) pos) tb):PE X (.BoolOp .And (a::b::bJ) pos) (FV ta tb):=by
 intro pins s σ H Q I h;refine BoolOp_and (cg (ha pins s σ H _ I h) λv s1 hh_=> ?_)
 obtain⟨x,H1,I1,r1,q1⟩:=hh_;obtain⟨c,rfl,q1⟩:=q1;cases r1;refine Kx ?_
 cases c with
 | true=>exact hb pins s1 σ H1 Q I1 q1
 | false=>exact⟨.bl false,H1,I1,rfl,q1⟩
theorem Gu (ha:PE X a ta)(hb:PE X (.BoolOp .Or (b::bJ) pos) tb):PE X (.BoolOp .Or (a::b::bJ) pos) (tOrV ta tb):=by
 intro pins s σ H Q I h;refine BoolOp_or (cg (ha pins s σ H _ I h) λv s1 hh_=> ?_)
 obtain⟨x,H1,I1,r1,q1⟩:=hh_;obtain⟨c,rfl,q1⟩:=q1;cases r1;refine Kx ?_
 cases c with
 | false=>exact hb pins s1 σ H1 Q I1 q1
 | true=>exact⟨.bl true,H1,I1,rfl,q1⟩
theorem Ei (ha:PE X a ta):PE X (.UnaryOp .Not a pos) (FL ta):=by
 intro pins s σ H Q I h;refine UnaryOp_ (cg (ha pins s σ H _ I h) λv s1 hh_=> ?_)
 obtain⟨x,H1,I1,r1,q1⟩:=hh_;obtain⟨c,rfl,q1⟩:=q1;cases r1;exact not_of (Kx ⟨.bl (!c),H1,I1,rfl,q1⟩)
def tIf (t:TT)(ta tb:TE):TE:=λσ H Q=>t σ H λc H1=>if c=true then ta σ H1 Q else tb σ H1 Q
theorem yR {c:Expr}(hc:PT X c tA)(ha:PE X a ta)(hb:PE X b tb):PE X (.IfExp c a b pos) (tIf tA ta tb):=by
 intro pins s σ H Q I h;refine wpAny_IfExp (cg (hc pins s σ H _ I h) λd s1 hh_=> ?_)
 obtain⟨H1,I1,q1⟩:=hh_
 cases d with
 | true=>exact ha pins s1 σ H1 Q I1 q1
 | false=>exact hb pins s1 σ H1 Q I1 q1
end
def SqL (K:Jg)(H:Hp)(a:Addr)(xs:List V):Prop:=
 Rd H a (.lst xs) ∨
  ∃(o:Obj) (its:Array Ji) (n:Nat),K.lookup a=some o/\o.cls= .type "list"/\o.dict=none/\o.data= .seq its n/\its.size<=sizeLine/\Vals xs its.toList
def SqT (K:Jg)(H:Hp)(a:Addr)(xs:List V):Prop:=
 Rd H a (.tup xs) ∨
  ∃(o:Obj) (its:Array Ji) (n:Nat),K.lookup a=some o/\o.cls= .type "tuple"/\o.data= .seq its n/\its.size<=sizeLine/\Vals xs its.toList
def absV:Ji->Option V
 | .none=>some .non
 | .bool b=>some (.bl b)
 | .int i _=>some (.int i)
 | .str x _=>some (.str x)
 | .bytes b _=>some (.byt b)
 | .float b _=>some (.flt b)
 | .ref a=>some (.ref a)
 | .type n=>some (.ty n)
 | _=>none
theorem RelV.abs {x:V}{u:Ji}(r:RelV x u):absV u=some x:=by
 cases x with
 | non=>cases r;rfl
 | bl _=>cases r;rfl
 | int _=>obtain⟨t,rfl⟩:=r;rfl
 | str _=>obtain⟨t,rfl⟩:=r;rfl
 | byt _=>obtain⟨t,rfl⟩:=r;rfl
 | flt _=>obtain⟨t,rfl⟩:=r;rfl
 | ref _=>cases r;rfl
 | ty _=>cases r;rfl
theorem RelV.inj {x y:V}{u:Ji}(r:RelV x u)(q:RelV y u):x=y:=JW (r.abs.symm.trans q.abs)
theorem Vals.inj:∀{xs ys:List V} {us:List Ji},Vals xs us->Vals ys us->xs=ys
 | _,_,_,.nil,.nil=>rfl
 | _,_,_,.cons r t,.cons r' t'=>by rw[r.inj r',Vals.inj t t']
section
variable {X:Cx}{pins:List (Addr×Obj)}{σ:St}{H:Hp}{s:Jk}{a:Addr}{xs ys:List V}
theorem SqL.of {K:Jg}(h:H a=some (.lst xs)):SqL K H a xs:=.inl (.inl h)
theorem SqT.of {K:Jg}(h:H a=some (.tup xs)):SqT K H a xs:=.inl (.inl h)
theorem Inv.list (I:Inv X pins σ H s)(h:SqL X.K H a xs):∃its:List Ji,Vals xs its/\PlainL s.heap a its.toArray/\xs.length<=sizeLine:=by
 rcases h with h | ⟨o,its,n,hk,hc,hd,hs,hz,r⟩
 ·obtain⟨z,its,n,r,e⟩:=h.ok I.hok
  exact⟨its,r,⟨_,n,e,rfl,rfl,rfl⟩,z⟩
 ·refine⟨its.toList,r,⟨o,n,I.kIn a o hk,hc,hd,by simpa using hs⟩,?_⟩
  have e:=r.length;simp only[JU]at e;omega
theorem Inv.tuple (I:Inv X pins σ H s)(h:SqT X.K H a xs):∃its:List Ji,Vals xs its/\RH s.heap a its.toArray/\xs.length<=sizeLine:=by
 rcases h with h | ⟨o,its,n,hk,hc,hs,hz,r⟩
 ·obtain⟨z,its,r,p⟩:=h.ok I.hok
  exact⟨its,r,p,z⟩
 ·refine⟨its.toList,r,⟨o,I.kIn a o hk,hc,n,by simpa using hs⟩,?_⟩
  have e:=r.length;simp only[JU]at e;omega
theorem Inv.HV (I:Inv X pins σ H s)(h:SqL X.K H a xs)(h':SqL X.K H a ys):xs=ys:=by
 obtain⟨its,r,⟨o,n,e,_,_,d⟩,_⟩:=I.list h;obtain⟨its',r',⟨o',n',e',_,_,d'⟩,_⟩:=I.list h';rw[e]at e';cases e';rw[d]at d';injection d' with d1 _
 have:its=its':=by simpa using congrArg NM d1
 subst this;exact r.inj r'
theorem Inv.HR (I:Inv X pins σ H s)(h:SqT X.K H a xs)(h':SqT X.K H a ys):xs=ys:=by
 obtain⟨its,r,⟨o,e,_,n,d⟩,_⟩:=I.tuple h;obtain⟨its',r',⟨o',e',_,n',d'⟩,_⟩:=I.tuple h';rw[e]at e';cases e';rw[d]at d';injection d' with d1 _
 have:its=its':=by simpa using congrArg NM d1
 subst this;exact r.inj r'
end
abbrev Cx.HD (X:Cx)(E:Ji->Jk->Prop):Cx:={ X with xe:=E }
abbrev Cx.nox (X:Cx):Cx:=X.HD λ_ _=>False
theorem Cx.Ok.HD {X:Cx}(ok:X.Ok)(E:Ji->Jk->Prop):(X.HD E).Ok:=
 ⟨ok.mod,ok.kind,ok.glob,ok.blt,ok.above,ok.inj,ok.has,ok.cab,ok.hd,ok.frames,ok.stk,ok.exf,ok.bs,ok.bsz,ok.noex,ok.exfs,ok.funs,ok.frf⟩
theorem Cx.Ok.HK {X:Cx}{E:Ji->Jk->Prop}(ok:(X.HD E).Ok):X.Ok:=
 ⟨ok.mod,ok.kind,ok.glob,ok.blt,ok.above,ok.inj,ok.has,ok.cab,ok.hd,ok.frames,ok.stk,ok.exf,ok.bs,ok.bsz,ok.noex,ok.exfs,ok.funs,ok.frf⟩
section
variable {X:Cx}{pins:List (Addr×Obj)}{σ:St}{H:Hp}{s:Jk}{E:Ji->Jk->Prop}
theorem Inv.HD (I:Inv X pins σ H s)(E:Ji->Jk->Prop):Inv (X.HD E) pins σ H s:=⟨I.ok.HD E,I.os,I.bare,I.base,I.loc,I.cell,I.free,I.freeC,I.pin,I.hok,I.len⟩
theorem Inv.HK (I:Inv (X.HD E) pins σ H s):Inv X pins σ H s:=⟨I.ok.HK,I.os,I.bare,I.base,I.loc,I.cell,I.free,I.freeC,I.pin,I.hok,I.len⟩
theorem SP.HK {D:qW}{f:Flow}{s':Jk}(h:SP (X.HD E) pins D f s'):SP X pins D f s':=by
 cases f with
 | next=>obtain⟨σ',H',I,q⟩:=h;exact⟨σ',H',I.HK,q⟩
 | brk=>obtain⟨σ',H',I,q⟩:=h;exact⟨σ',H',I.HK,q⟩
 | cont=>obtain⟨σ',H',I,q⟩:=h;exact⟨σ',H',I.HK,q⟩
 | ret u=>obtain⟨v,σ',H',I,r,q⟩:=h;exact⟨v,σ',H',I.HK,r,q⟩
theorem PSs.nox {st:List Stmt}{t:TS}(h:PSs X.nox st t):PSs X st t:=λpins s σ H D I hw=>
 Lb (h pins s σ H D (I.HD _) hw) (λ_ _ q=>q.HK) λ_ _ z=>Mg z
end
section
variable {X:Cx}{st:Stmt}{bJ:List Stmt}{t u:TS}{e:Expr}{te:TE}{pos:Pos}
def FN:TS:=λD σ H=>D.nx σ H
def tSeq (t u:TS):TS:=λD σ H=>t { D with nx:=u D } σ H
theorem BF:PSs X [] FN:=λ_ _ σ H _ I h=>NA ⟨σ,H,I,h⟩
theorem yI (h1:PS X st t)(h2:PSs X bJ u):PSs X (st::bJ) (tSeq t u):=by
 intro pins s σ H D I h;refine Q8 (cg (h1 pins s σ H { D with nx:=u D } I h) λf s1 q=> ?_)
 cases f with
 | next=>
  obtain⟨σ',H',I',q⟩:=q
  exact h2 pins s1 σ' H' D I' q
 | ret v=>exact q
 | brk=>exact q
 | cont=>exact q
theorem BE (h1:PS X st t):PSs X [st] t:=by
 intro pins s σ H D I h;refine Q8 (cg (h1 pins s σ H D I h) λf s1 q=> ?_)
 cases f with
 | next=>exact NA q
 | ret v=>exact q
 | brk=>exact q
 | cont=>exact q
def FS:TS:=λD σ H=>D.ct σ H
theorem rZ:PS X (.Continue pos) FS:=λ_ _ σ H _ I h=>wpAny_Continue ⟨σ,H,I,h⟩
theorem Inv.quiet {pins:List (Addr×Obj)}{σ:St}{H:Hp}{s:Jk}(I:Inv X pins σ H s):interactive X.env=false:=by simp[interactive,I.ok.kind]
def FQ (te:TE):TS:=λD σ H=>te σ H λ_ H1=>D.nx σ H1
theorem pU (he:PE X e te)(hs:KP e none pos.line X.env=pure false:=by rfl):PS X (.Expr e pos) (FQ te):=by
 intro pins s σ H D I h;exact wpAny_Expr_any (cg (he pins s σ H _ I h) λv s1 ⟨x,H1,I1,r1,q1⟩=>⟨σ,H1,I1,q1⟩) I.quiet hs
def tRet (te:TE):TS:=λD σ H=>te σ H D.rt
theorem D9 (he:PE X e te):PS X (.Return (some e) pos) (tRet te):=by
 intro pins s σ H D I h;exact wpAny_Return_some (cg (he pins s σ H _ I h) λv s1 ⟨x,H1,I1,r1,q1⟩=>⟨x,σ,H1,I1,r1,q1⟩)
def tIfS (c:TT)(t u:TS):TS:=λD σ H=>c σ H λb H1=>if b=true then t D σ H1 else u D σ H1
theorem Gq {c:Expr}{a b:List Stmt}{tc:TT}(hc:PT X c tc)(ha:PSs X a t)(hb:PSs X b u):PS X (.If c a b pos) (tIfS tc t u):=by
 intro pins s σ H D I h;refine wpAny_If (cg (hc pins s σ H _ I h) λd s1 hh_=> ?_)
 obtain⟨H1,I1,q1⟩:=hh_
 cases d with
 | true=>exact ha pins s1 σ H1 D I1 q1
 | false=>exact hb pins s1 σ H1 D I1 q1
end
abbrev TG:=V->St->Hp->(St->Hp->Prop)->Prop
abbrev CD:=List V->St->Hp->(St->Hp->Prop)->Prop
def PG (X:Cx)(target:Expr)(t:TG):Prop:=
 ∀(pins:List (Addr×Obj)) (s:Jk) (σ:St) (H:Hp) (v:V) (u:Ji) (Q:St->Hp->Prop),Inv X pins σ H s->RelV v u->t v σ H Q →
  wpAny (model X.prog X.w) X.A (assign target X.env u) (λ_ s'=> ∃σ' H',Inv X pins σ' H' s'/\Q σ' H') X.xe s
def PGs (X:Cx)(ts:List Expr)(t:CD):Prop:=
 ∀(pins:List (Addr×Obj)) (s:Jk) (σ:St) (H:Hp) (vs:List V) (us:List Ji) (Q:St->Hp->Prop),Inv X pins σ H s->Vals vs us->t vs σ H Q →
  wpAny (model X.prog X.w) X.A (assignInOrder ((KL ts X.env).map (·.2)) us) (λ_ s'=> ∃σ' H',Inv X pins σ' H' s'/\Q σ' H') X.xe s
abbrev Fw:=V->V->V->Hp->(Hp->Prop)->Prop
def Ha (X:Cx)(t:Fw):Prop:=
 ∀(pins:List (Addr×Obj)) (s:Jk) (σ:St) (H:Hp) (o i v:V) (ov iv u:Ji) (Q:Hp->Prop),Inv X pins σ H s->RelV o ov->RelV i iv->RelV v u->t o i v H Q →
  wpAny (model X.prog X.w) X.A (setItem ov iv u) (λ_ s'=> ∃H',Inv X pins σ H' s'/\Q H') X.xe s
section
variable {X:Cx}{pos:Pos}
def zV (i:Nat):TG:=λv σ H Q=>Q (σ.set i (some v)) H
theorem BQ {i:Nat}{x:Str}(hN:X.N.Nodup)(hi:X.N[i]? =some x)(hx:Loc X.env.scope x)(hf:X.fn x=true\/X.env.scope.names.lookup x=some .local:=by first | exact .inl rfl | exact .inr rfl | assumption):PG X (.Name x pos) (zV i):=by
 intro pins s σ H v u Q I r h;exact Qr (rA I hN hi hx r (λs' I'=>⟨_,H,I',h⟩) hf)
def gNil:CD:=λvs σ H Q=>vs= []/\Q σ H
def GX (t:TG)(u:CD):CD:=λvs σ H Q=> ∃v r,vs=v::r/\t v σ H λσ' H'=>u r σ' H' Q
theorem BP:PGs X [] gNil:=by
 intro pins s σ H vs us Q I r h;obtain⟨e,h⟩:=h;subst e;cases r;exact assignInOrder_nil ⟨σ,H,I,h⟩
theorem yO {e:Expr}{es:List Expr}{t:TG}{u:CD}(h1:PG X e t)(h2:PGs X es u)
  (hs:(KL (e::es) X.env).map (·.2)=assign e X.env::(KL es X.env).map (·.2):=by rfl):PGs X (e::es) (GX t u):=by
 intro pins s σ H vs us Q I r h;obtain⟨v,vr,e1,h⟩:=h;subst e1
 cases r with
 | cons r rr=>
  rw[hs];refine assignInOrder_cons (cg (h1 pins s σ H _ _ _ I r h) λ_ s1 hh_=> ?_)
  obtain⟨σ1,H1,I1,q1⟩:=hh_;exact h2 pins s1 σ1 H1 _ _ Q I1 rr q1
def gTup (K:Jg)(n:Nat)(t:CD):TG:=λv σ H Q=> ∃a xs,v= .ref a/\SqT K H a xs/\xs.length=n/\t xs σ H Q
theorem Ed {es:List Expr}{k:Nat}{t:CD}{n:Nat}(hc:X.calm=true)(h:PGs X es t)
  (hn:(KL es X.env).length=n:=by rfl) (hst:(KL es X.env).findIdx? (·.1)=none:=by rfl):PG X (.Tuple es k pos) (gTup X.K n t):=by
 intro pins s σ H v u Q I r hw;obtain⟨a,xs,e1,hq,hl,hw⟩:=hw;subst e1;cases r;obtain⟨its,rv,ht,hz⟩:=I.tuple hq;refine assign_Tuple_tuple (I.ok.hd hc) ht (by simp[hn,<-hl,rv.length]) hst λh' hx=> ?_
 have I1:Inv X pins σ H { s with heap:=h' }:=I.kept (t':=s.toks) λb o e=>hx b o (JR (Jr e)) e
 exact h pins _ σ H xs _ Q I1 (by simpa using rv) hw
def gSub (to ti:TE)(t:Fw):TG:=λv σ H Q=>to σ H λo H1=>ti σ H1 λi H2=>t o i v H2 λH3=>Q σ H3
theorem Ee {o i:Expr}{to ti:TE}{t:Fw}(ho:PE X o to)(hi:PE X i ti)(hs:Ha X t)
  (ha:∀v,assign (.Subscript o i pos) X.env v=(do
   let ov <-holding [v] (eval o X.env)
   let iv <-holding [v,ov] (eval i X.env)
   standAt pos
   holding [v,ov,iv] (setItem ov iv v)
   release [v,ov,iv] []):=by intro _;rfl):PG X (.Subscript o i pos) (gSub to ti t):=by
 intro pins s σ H v u Q I r h;rw[ha];refine Je (J3 (cg (ho pins s σ H _ I h) λov s1 hh_=> ?_))
 obtain⟨x,H1,I1,r1,q1⟩:=hh_;refine Je (J3 (cg (hi pins s1 σ H1 _ I1 q1) λiv s2 hh_=> ?_))
 obtain⟨y,H2,I2,r2,q2⟩:=hh_;refine Je (P4 (Je (J3 (cg (hs pins s2 σ H2 x y v ov iv u _ I2 r1 r2 r q2) λ_ s3 hh_=> ?_))))
 obtain⟨H3,I3,q3⟩:=hh_;exact wpAny_release ⟨σ,H3,I3,q3⟩
def A7 (te:TE)(g:TG):TS:=λD σ H=>te σ H λx H1=>g x σ H1 D.nx
theorem yK {tg e:Expr}{te:TE}{g:TG}(he:PE X e te)(hg:PG X tg g)(hs:Nj [tg] e pos.line X.env=pure false:=by rfl)(hw:Nk [tg] e X.env=pure none:=by rfl)
  (h1:(KL [tg] X.env).map (·.2)= [assign tg X.env]:=by rfl):PS X (.Assign [tg] e pos) (A7 te g):=by
 intro pins s σ H D I h;refine wpAny_Assign_stores (cg (he pins s σ H _ I h) λv s1 ⟨x,H1,I1,r1,q1⟩=> ?_) hs hw
 rw[h1];exact cg (hg pins s1 σ H1 x v _ I1 r1 q1) λ_ s2 q=>q
theorem ua {i:Nat}{x:Str}{e:Expr}{te:TE}{pos':Pos}(hN:X.N.Nodup)(hi:X.N[i]? =some x)(hx:Loc X.env.scope x)(he:PE X e te)(hs:KP e (some (.Name x pos')) pos.line X.env=pure false:=by rfl)(hf:X.fn x=true\/X.env.scope.names.lookup x=some .local:=by first | exact .inl rfl | exact .inr rfl | assumption) :
  PS X (.Assign [.Name x pos'] e pos) (A7 te (zV i)):=by
 intro pins s σ H D I h;refine wpAny_Assign_Name (cg (he pins s σ H _ I h) λv s1 ⟨y,H1,I1,r1,q1⟩=> ?_) hs
 exact rA I1 hN hi hx r1 (λs2 I2=>⟨_,H1,I2,q1⟩) hf
end
section
variable {X:Cx}{pos:Pos}
def tS (c:TT)(tb:TS):TS:=λD σ H=> ∃W:Nat->St->Hp->Prop,(∃m,W m σ H)/\∀m σ H,W m σ H →
 c σ H λb H1=>if b=true then ∃N:St->Hp->Prop,(∀σ' H',N σ' H'->∃m',m'<m/\W m' σ' H')/\tb { D with nx:=N,ct:=N,bk:=D.nx } σ H1 else D.nx σ H1
theorem yJ {c:Expr}{body:List Stmt}{tc:TT}{tb:TS}(hp:PassesOwn (model X.prog X.w) X.A X.env X.xe)(hc:PT X c tc)(hb:PSs X body tb):PS X (.While c body [] pos) (tS tc tb):=by
 intro pins s σ H D I h;obtain⟨W,⟨m0,w0⟩,turn⟩:=h;refine wpAny_While (codeAny_whileLoop (λn s'=> ∃σ' H',Inv X pins σ' H' s'/\W n σ' H') ?_ m0 ⟨σ,H,I,w0⟩)
 rintro n s1 ⟨σ1,H1,I1,w1⟩
 refine Ru hp (cg (hc pins s1 σ1 H1 _ I1 (turn n σ1 H1 w1)) λb s2 hh_=> ?_)
 obtain⟨H2,I2,q2⟩:=hh_
 cases b with
 | true=>
  obtain⟨N,hN,q2⟩:=q2;rw[if_pos rfl];refine Ru hp (cg (hb pins s2 σ1 H2 _ I2 q2) λf s3 q3=> ?_)
  cases f with
  | next=>
   obtain⟨σ3,H3,I3,n3⟩:=q3;obtain⟨m',hm,w3⟩:=hN σ3 H3 n3
   exact⟨m',hm,σ3,H3,I3,w3⟩
  | cont=>
   obtain⟨σ3,H3,I3,n3⟩:=q3;obtain⟨m',hm,w3⟩:=hN σ3 H3 n3
   exact⟨m',hm,σ3,H3,I3,w3⟩
  | brk=>exact q3
  | ret v=>exact q3
 | false=>
  rw[if_neg JP];exact NA ⟨σ1,H2,I2,q2⟩
end
structure It where
 go:Nat->Hp->Prop
 yld:Nat->Hp->V->Hp->Prop
 stop:Nat->Hp->Prop
def j8 (X:Cx)(pins:List (Addr×Obj))(H:Hp)(b:Addr):Prop:=
 H b=none/\b≠X.env.locals/\b∉X.fs/\(b∈X.ex\/X.s₀.heap.objs.size<=b)/\(∀x c,X.env.cells.lookup x=some c->c≠b)/\∀p∈X.pn++pins,p.1≠b
theorem Inv.Ic {X:Cx}{pins:List (Addr×Obj)}{σ:St}{H H':Hp}{s:Jk}{b:Addr}(I:Inv X pins σ H s)(hb:s.heap.objs.size<=b)(hn:H' b=none):j8 X pins H' b:=by
 refine⟨hn,Lv (Jt I.lt hb),I.Jb hb,.inr (JQ I.sz hb),λx c e z=> ?_,λp hp z=> ?_⟩
 ·obtain⟨v,q⟩:=I.cell x c e
  exact absurd (Jt q.lt (by rw[z];exact hb)) (JJ _)
 ·exact absurd (Jt (Jr (I.pin p hp).1) (by rw[z];exact hb)) (JJ _)
structure AB (P:JI)(w:Kn)(K:Jg)(tg:Expr)(J:It)(fp:List Addr)(it:Addr)(tn:Nat->Heap->Prop):Prop where
 mem:it∈fp
 obj:∀i h,tn i h->∀b∈fp,∃o,h.get? b=some o/\∀v,o.data≠ .cell v
 keep:∀i h h',tn i h->(∀b∈fp,∀o,h.get? b=some o->h'.get? b=some o)->tn i h'
 item:∀(X:Cx),X.prog=P->X.w=w->X.K=K->X.calm=true->∀(i:Nat) (pins:List (Addr×Obj)) (s:Jk) (σ:St) (H:Hp) (E:Ji->Jk->Prop),Inv X pins σ H s->(∀b∈fp,j8 X pins H b)->tn i s.heap->J.go i H →
  wpAny (model P w) X.A (pyNext (.ref it)) (λr s1=> ∃u,r=some u ∧
   wpAny (model P w) X.A (MP tg (.ref it) u) (λ_ s2=> ∃x H',Inv X pins σ H' s2/\RelV x u/\J.yld i H x H'/\tn (i+1) s2.heap/\∀b∈fp,H' b=none) E s1) E s
 done:∀(X:Cx),X.prog=P->X.w=w->X.K=K->X.calm=true->∀(i:Nat) (pins:List (Addr×Obj)) (s:Jk) (σ:St) (H:Hp) (E:Ji->Jk->Prop),Inv X pins σ H s->(∀b∈fp,j8 X pins H b)->tn i s.heap->J.stop i H →
  wpAny (model P w) X.A (pyNext (.ref it)) (λr s1=>r=none/\Inv X pins σ H s1) E s
 self:∀(A:JZ) (i:Nat) (s:Jk) (Q:Ji->Jk->Prop) (E:Ji->Jk->Prop),tn i s.heap->Q (.ref it) s->wpAny (model P w) A (pyIter (.ref it)) Q E s
abbrev TI:=St->Hp->(It->Hp->Prop)->Prop
def PIE (X:Cx)(pins:List (Addr×Obj))(σ:St)(tg:Expr)(R:It->Hp->Prop)(itv:Ji)(s2:Jk):Prop:=
 ∃(it:Addr) (fp:List Addr) (tn:Nat->Heap->Prop) (J:It) (H':Hp),itv= .ref it/\Inv X pins σ H' s2/\AB X.prog X.w X.K tg J fp it tn/\tn 0 s2.heap/\(∀b∈fp,j8 X pins H' b)/\R J H'
def PI (X:Cx)(tg iter:Expr)(wi:TI):Prop:=
 ∀(pins:List (Addr×Obj)) (s:Jk) (σ:St) (H:Hp) (R:It->Hp->Prop),Inv X pins σ H s->wi σ H R →
  wpAny (model X.prog X.w) X.A (eval iter X.env) (λv s1=>wpAny (model X.prog X.w) X.A (pyIter v) (PIE X pins σ tg R) X.xe s1) X.xe s
theorem zU {M:Model}{A:JZ}{E:Ji->Jk->Prop}{s:Jk}{tg:Expr}{it:Addr}{u:Ji}{o:Obj}{n:String}{vs:Array Ji}{Q:Unit->Jk->Prop}(ho:s.heap.get? it=some o)(hc:o.cls= .type n)(hd:o.data= .fields vs)
  (hn:["enumerate","zip","dict_itemiterator","dict_reverseitemiterator","odict_iterator","itertools.zip_longest","itertools.pairwise"].contains n=false) (hQ:Q () s):wpAny M A (MP tg (.ref it) u) Q E s:=by
 unfold MP
 cases tg <;> first
  | exact Jl hQ
  | (cases u <;> first
    | exact Jl hQ
    | (refine Je (wpAny_load ho ?_)
       rw[hc,hd]
       show wpAny M A (if (["enumerate","zip","dict_itemiterator","dict_reverseitemiterator","odict_iterator","itertools.zip_longest","itertools.pairwise"].contains n&&vs[0]? == some (rawInt _))=true then _ else _) Q E s
       rw[if_neg (by intro h;rw[hn,Bool.false_and]at h;cases h)]
       exact Jl hQ))
def Itl (K:Jg)(a:Addr):It:=
 ⟨λi H=> ∃xs x,SqL K H a xs/\xs[i]? =some x,λi H x H'=>H'=H/\∀xs,SqL K H a xs->xs[i]? =some x,λi H=> ∃xs,SqL K H a xs/\xs.length<=i⟩
def Itt (K:Jg)(a:Addr):It:=
 ⟨λi H=> ∃xs x,SqT K H a xs/\xs[i]? =some x,λi H x H'=>H'=H/\∀xs,SqT K H a xs->xs[i]? =some x,λi H=> ∃xs,SqT K H a xs/\xs.length<=i⟩
def Itr (lo:Int)(n:Nat):It:=⟨λi _=>i<n,λi H x H'=>H'=H/\x= .int (lo+i),λi _=>n<=i⟩
theorem wm {P:JI}{w:Kn}{K:Jg}{tg:Expr}(a it:Addr):AB P w K tg (Itl K a) [it] it (λi h=>h.IsListIter it a i) where
 mem:=by simp
 obj:=λi h st b hb=>by
  have e:b=it:=by simpa using hb
  subst e;obtain⟨o,e,c,d⟩:=st;exact⟨o,e,λv z=>by rw[d]at z;cases z⟩
 keep:=λi h h' st k=>st.at λo e=>k it (by simp) o e
 item:=by
  intro X hP hw hK hc i pins s σ H E I hf st hg;subst hP hw hK;obtain⟨xs,x,hq,hx⟩:=hg;obtain⟨its,rv,p,hz⟩:=I.list hq;obtain⟨u,hu,ru⟩:=rv.get hx;obtain⟨f0,f1,f2,f3,f4,f5⟩:=hf it (by simp)
  refine OD st p.isList (x:=u) (by simpa using hu) λh' st' sb=> ?_
  have I1:Inv X pins σ H { s with heap:=h' }:=I.turned (t':=s.toks) (λb o hb e=>(sb.2 b hb).trans e) f0 f1 f3 f4 f5
  obtain⟨o,e,c,d⟩:=id st';exact⟨u,rfl,zU (s:={ s with heap:=h' }) e c d (by decide) ⟨x,H,I1,ru,⟨rfl,λys hy=>by rw[I.HV hy hq];exact hx⟩,st',λb hb=>(hf b hb).1⟩⟩
 done:=by
  intro X hP hw hK hc i pins s σ H E I hf st hg;subst hP hw hK;obtain⟨xs,hq,hx⟩:=hg;obtain⟨its,rv,p,hz⟩:=I.list hq;obtain⟨f0,f1,f2,f3,f4,f5⟩:=hf it (by simp)
  have hl:=rv.length;exact OU (I.ok.hd hc) st p.isList (by simp;omega) λh' eb=>⟨rfl,I.turned (t':=s.toks) (λb o hb e=>eb b o hb e) f0 f1 f3 f4 f5⟩
 self:=λ_ _ _ _ _ st h=>wpAny_pyIter_listiter st h
theorem tO {P:JI}{w:Kn}{K:Jg}{tg:Expr}(a it:Addr):AB P w K tg (Itt K a) [it] it (λi h=>h.IsTupleIter it a i) where
 mem:=by simp
 obj:=λi h st b hb=>by
  have e:b=it:=by simpa using hb
  subst e;obtain⟨o,e,c,d⟩:=st;exact⟨o,e,λv z=>by rw[d]at z;cases z⟩
 keep:=λi h h' st k=>st.at λo e=>k it (by simp) o e
 item:=by
  intro X hP hw hK hc i pins s σ H E I hf st hg;subst hP hw hK;obtain⟨xs,x,hq,hx⟩:=hg;obtain⟨its,rv,p,hz⟩:=I.tuple hq;obtain⟨u,hu,ru⟩:=rv.get hx;obtain⟨f0,f1,f2,f3,f4,f5⟩:=hf it (by simp)
  refine wpAny_pyNext_tuple_item st (show s.heap.IsTuple a its.toArray from p) (x:=u) (by simpa using hu) λh' st' sb=> ?_
  have I1:Inv X pins σ H { s with heap:=h' }:=I.turned (t':=s.toks) (λb o hb e=>(sb.2 b hb).trans e) f0 f1 f3 f4 f5
  obtain⟨o,e,c,d⟩:=id st';exact⟨u,rfl,zU (s:={ s with heap:=h' }) e c d (by decide) ⟨x,H,I1,ru,⟨rfl,λys hy=>by rw[I.HR hy hq];exact hx⟩,st',λb hb=>(hf b hb).1⟩⟩
 done:=by
  intro X hP hw hK hc i pins s σ H E I hf st hg;subst hP hw hK;obtain⟨xs,hq,hx⟩:=hg;obtain⟨its,rv,p,hz⟩:=I.tuple hq;obtain⟨f0,f1,f2,f3,f4,f5⟩:=hf it (by simp)
  have hl:=rv.length;exact wpAny_pyNext_tuple_end (I.ok.hd hc) st (show s.heap.IsTuple a its.toArray from p) (by simp;omega) λh' eb=>⟨rfl,I.turned (t':=s.toks) (λb o hb e=>eb b o hb e) f0 f1 f3 f4 f5⟩
 self:=λ_ _ _ _ _ st h=>wpAny_pyIter_tupleiter st h
theorem tQ {P:JI}{w:Kn}{K:Jg}{tg:Expr}(it:Addr)(lo:Int)(n:Nat):AB P w K tg (Itr lo n) [it] it (λi h=>IsRangeIter h it (lo+(i:Nat)*1) ((n:Int) - (i:Nat)) 1) where
 mem:=by simp
 obj:=λi h st b hb=>by
  have e:b=it:=by simpa using hb
  subst e
  exact⟨_,st,λv z=>by
   have z':Data.fields _=Data.cell v:=z;cases z'⟩
 keep:=λi h h' st k=>k it (by simp) _ st
 item:=by
  intro X hP hw hK hc i pins s σ H E I hf st hg;subst hP hw hK;obtain⟨f0,f1,f2,f3,f4,f5⟩:=hf it (by simp)
  have W:=Walks.range (prog:=X.prog) (w:=X.w) (I.ok.hd hc) it lo 1 n;refine W.item i s _ _ hg st λv h' tk hv st' kk=> ?_
  obtain⟨t,rfl⟩:=hv
  have I1:Inv X pins σ H { s with heap:=h',toks:=tk }:=I.turned (λb o hb e=>kk b o (by simpa using hb) e) f0 f1 f3 f4 f5
  refine⟨_,rfl,zU (s:={ s with heap:=h',toks:=tk }) (n:="range_iterator") st' rfl rfl (by decide) ⟨.int (lo+i),H,I1,⟨t,?_⟩,⟨rfl,rfl⟩,st',λb hb=>(hf b hb).1⟩⟩
  rw[Int.mul_one]
 done:=by
  intro X hP hw hK hc i pins s σ H E I hf st hg;subst hP hw hK;obtain⟨f0,f1,f2,f3,f4,f5⟩:=hf it (by simp)
  exact wpAny_pyNext_range_end (I.ok.hd hc) st (by have:n<=i:=hg;omega) λh' eb=>⟨rfl,I.turned (t':=s.toks) (λb o hb e=>eb b o hb e) f0 f1 f3 f4 f5⟩
 self:=λ_ _ _ _ _ st h=>wpAny_pyIter_rangeiter st h
section
variable {X:Cx}{tg:Expr}
def GU (K:Jg)(tl:TE):TI:=λσ H R=>tl σ H λx H1=> ∃a,x= .ref a/\(∃xs,SqL K H1 a xs)/\R (Itl K a) H1
def iTup (K:Jg)(tl:TE):TI:=λσ H R=>tl σ H λx H1=> ∃a,x= .ref a/\(∃xs,SqT K H1 a xs)/\R (Itt K a) H1
theorem BN {l:Expr}{tl:TE}(hl:PE X l tl):PI X tg l (GU X.K tl):=by
 intro pins s σ H R I h;refine cg (hl pins s σ H _ I h) λv s1 hh_=> ?_
 obtain⟨x,H1,I1,r1,q1⟩:=hh_;obtain⟨a,e,⟨xs,hq⟩,q⟩:=q1;subst e;cases r1;obtain⟨its,rv,p,hz⟩:=I1.list hq;refine Mm p.isList ?_
 refine⟨s1.heap.objs.size,[s1.heap.objs.size],_,_,H1,rfl,I1.kept (t':=s1.toks) λb o e=>Jf _ e,wm a _,⟨_,Js _ rfl,rfl,rfl⟩,λb hb=> ?_,q⟩
 have e:b=s1.heap.objs.size:=by simpa using hb
 subst e;exact I1.Ic (Jv _) (I1.hok.fresh (Jv _))
theorem Eb {l:Expr}{tl:TE}(hl:PE X l tl):PI X tg l (iTup X.K tl):=by
 intro pins s σ H R I h;refine cg (hl pins s σ H _ I h) λv s1 hh_=> ?_
 obtain⟨x,H1,I1,r1,q1⟩:=hh_;obtain⟨a,e,⟨xs,hq⟩,q⟩:=q1;subst e;cases r1;obtain⟨its,rv,p,hz⟩:=I1.tuple hq;refine Lz (show s1.heap.IsTuple a its.toArray from p) ?_
 refine⟨s1.heap.objs.size,[s1.heap.objs.size],_,_,H1,rfl,I1.kept (t':=s1.toks) λb o e=>Jf _ e,tO a _,⟨_,Js _ rfl,rfl,rfl⟩,λb hb=> ?_,q⟩
 have e:b=s1.heap.objs.size:=by simpa using hb
 subst e;exact I1.Ic (Jv _) (I1.hok.fresh (Jv _))
theorem rY {pins:List (Addr×Obj)}{σ:St}{H:Hp}{s:Jk}{R:It->Hp->Prop}{E:Ji->Jk->Prop}{lo hi:Int}{t u v:Tok}{tk:Nat}(I:Inv X pins σ H s)(h1 : -(2 ^ 62)<=lo)(h2:lo<2 ^ 62)(h3 : -(2 ^ 62)<=hi)(h4:hi<2 ^ 62)
  (q:R (Itr lo (hi - lo).toNat) H):wpAny (model X.prog X.w) X.A (pyIter (.ref s.heap.objs.size)) (PIE X pins σ tg R) E { s with heap:=s.heap.push { cls:=.type "range",data:=.fields #[.int lo t,.int hi u,.int 1 v] },toks:=tk }:=by
 refine wpAny_pyIter_range (IsRange.new ..) (small_one h1 h2 h3 h4) ?_
 have I1:Inv X pins σ H { s with heap:=s.heap.push { cls:=.type "range",data:=.fields #[.int lo t,.int hi u,.int 1 v] },toks:=tk }:=I.kept λb o e=>Jf _ e
 refine⟨(s.heap.push { cls:=.type "range",data:=.fields #[.int lo t,.int hi u,.int 1 v] }).objs.size,[(s.heap.push { cls:=.type "range",data:=.fields #[.int lo t,.int hi u,.int 1 v] }).objs.size],_,_,H,rfl,
  I1.kept (t':=tk) λb o e=>Jf _ e,tQ _ lo (hi - lo).toNat,?_,λb hb=> ?_,q⟩
 ·have e1:lo+((0:Nat):Int)*1=lo:=by simp
  have e2:(((hi - lo).toNat:Nat):Int) - ((0:Nat):Int)=Builtin.Range.rangeSize lo hi 1:=by rw[rangeSize_one];split <;> omega
  show IsRangeIter _ _ (lo+((0:Nat):Int)*1) ((((hi - lo).toNat:Nat):Int) - ((0:Nat):Int)) 1
  rw[e1,e2];exact Js _ rfl
 ·have e:b=(s.heap.push { cls:=.type "range",data:=.fields #[.int lo t,.int hi u,.int 1 v] }).objs.size:=by simpa using hb
  subst e;exact I1.Ic (Jv _) (I1.hok.fresh (Jv _))
def tFor (wi:TI)(g:TG)(tb:TS):TS:=λD σ H=>wi σ H λJ H1=> ∃W:Nat->Nat->St->Hp->Prop,(∃m,W 0 m σ H1)/\∀i m σ H,W i m σ H →
 (J.stop i H/\D.nx σ H)\/(J.go i H/\∃N:St->Hp->Prop,(∀σ' H',N σ' H'->∃m',m'<m/\W (i+1) m' σ' H')/\∀x H',J.yld i H x H'->g x σ H' λσ2 H2=>tb { D with nx:=N,ct:=N,bk:=D.nx } σ2 H2)
def lW (fp:List Addr)(h:Heap):List (Addr×Obj):=fp.filterMap λb=>(h.get? b).map λo=>(b,o)
theorem gt {fp:List Addr}{h:Heap}{b:Addr}{o:Obj}(hb:b∈fp)(e:h.get? b=some o):(b,o)∈lW fp h:=La.mpr ⟨b,hb,by rw[e];rfl⟩
theorem wO {fp:List Addr}{h:Heap}{p:Addr×Obj}(hp:p∈lW fp h):p.1∈fp/\h.get? p.1=some p.2:=by
 obtain⟨b,hb,e⟩:=La.mp hp
 cases q:h.get? b with
 | none=>rw[q]at e;cases e
 | some o=>
  rw[q]at e
  have e':(b,o)=p:=JW e;subst e';exact⟨hb,q⟩
theorem Inv.pinned {pins:List (Addr×Obj)}{σ:St}{H:Hp}{s:Jk}{fp:List Addr}(I:Inv X pins σ H s)(hf:∀b∈fp,j8 X pins H b)(ho:∀b∈fp,∃o,s.heap.get? b=some o/\∀v,o.data≠ .cell v):Inv X (pins++lW fp s.heap) σ H s:=
 I.Ig λp hp=>(JS.mp hp).elim (λz=>I.pin p (JD _ z)) λz=>by
  obtain⟨hb,e⟩:=wO z;obtain⟨f0,f1,f2,_⟩:=hf p.1 hb;obtain⟨o,e',d⟩:=ho p.1 hb;rw[e]at e';cases e';exact⟨e,f0,f1,f2,d⟩
theorem Inv.HN {pins pl:List (Addr×Obj)}{σ:St}{H:Hp}{s:Jk}(I:Inv X (pins++pl) σ H s):Inv X pins σ H s:=I.Ig λp hp=>I.pin p (JD _ (J2 _ hp))
end
abbrev R2:=V->V->Hp->VK->Prop
def pj (X:Cx)(f:Ji->Ji->Sem Ji)(r:R2):Prop:=
 ∀(pins:List (Addr×Obj)) (s:Jk) (σ:St) (H:Hp) (x y:V) (v u:Ji) (Q:VK),Inv X pins σ H s->RelV x v->RelV y u->r x y H Q →
  wpAny (model X.prog X.w) X.A (f v u) (EP X pins σ Q) X.xe s
def UnR (X:Cx)(f:Ji->Sem Ji)(r:V->Hp->VK->Prop):Prop:=
 ∀(pins:List (Addr×Obj)) (s:Jk) (σ:St) (H:Hp) (x:V) (v:Ji) (Q:VK),Inv X pins σ H s->RelV x v->r x H Q →
  wpAny (model X.prog X.w) X.A (f v) (EP X pins σ Q) X.xe s
def CallR (X:Cx)(f:Ji)(r:List V->Hp->VK->Prop):Prop:=
 ∀(pins:List (Addr×Obj)) (s:Jk) (σ:St) (H:Hp) (xs:List V) (us:List Ji) (Q:VK),Inv X pins σ H s->Vals xs us->r xs H Q →
  wpAny (model X.prog X.w) X.A (call f us) (EP X pins σ Q) X.xe s
def tUn (r:V->Hp->VK->Prop)(ta:TE):TE:=λσ H Q=>ta σ H λx H1=>r x H1 Q
def rI (C:Int->Int->Prop)(g:Int->Int->V):R2:=λx y H Q=> ∃i j,x= .int i/\y= .int j/\C i j/\Q (g i j) H
def C0 (g:Int->Int->V):R2:=λx y H Q=> ∃i j,x= .int i/\y= .int j/\Q (g i j) H
def rU (g:Int->V):V->Hp->VK->Prop:=λx H Q=> ∃i,x= .int i/\Q (g i) H
section
variable {X:Cx}{a b c:Expr}{ta tb tc:TE}{pos:Pos}
theorem Gs {op:UnaryOp}{r:V->Hp->VK->Prop}(ho:UnR X (unaryOp op) r)(ha:PE X a ta):PE X (.UnaryOp op a pos) (tUn r ta):=by
 intro pins s σ H Q I h;exact UnaryOp_ (cg (ha pins s σ H _ I h) λv s1 ⟨x,H1,I1,r1,q1⟩=>ho pins s1 σ H1 x v Q I1 r1 q1)
theorem opI {f:Ji->Ji->Sem Ji}{C:Int->Int->Prop}{g:Int->Int->Int}
  (rule:∀(i j:Int) (t u:Tok) (s:Jk) (Q:Ji->Jk->Prop) (E:Ji->Jk->Prop),C i j->Q (.int (g i j) s.toks) { s with toks:=s.toks+1 }->wpAny (model X.prog X.w) X.A (f (.int i t) (.int j u)) Q E s) :
  pj X f (rI C λi j=> .int (g i j)):=by
 intro pins s σ H x y v u Q I rx ry h;obtain⟨i,j,rfl,rfl,hc,q⟩:=h;obtain⟨t,rfl⟩:=rx;obtain⟨t',rfl⟩:=ry;exact rule i j t t' s _ _ hc ⟨.int (g i j),H,I.tok _,⟨_,rfl⟩,q⟩
theorem GA {f:Ji->Ji->Sem Ji}{g:Int->Int->Int}
  (rule:∀(i j:Int) (t u:Tok) (s:Jk) (Q:Ji->Jk->Prop) (E:Ji->Jk->Prop),Q (.int (g i j) s.toks) { s with toks:=s.toks+1 }->wpAny (model X.prog X.w) X.A (f (.int i t) (.int j u)) Q E s) :
  pj X f (C0 λi j=> .int (g i j)):=by
 intro pins s σ H x y v u Q I rx ry h;obtain⟨i,j,rfl,rfl,q⟩:=h;obtain⟨t,rfl⟩:=rx;obtain⟨t',rfl⟩:=ry;exact rule i j t t' s _ _ ⟨.int (g i j),H,I.tok _,⟨_,rfl⟩,q⟩
theorem EA {f:Ji->Ji->Sem Ji}{g:Int->Int->Bool}
  (rule:∀(i j:Int) (t u:Tok) (s:Jk) (Q:Ji->Jk->Prop) (E:Ji->Jk->Prop),Q (.bool (g i j)) s->wpAny (model X.prog X.w) X.A (f (.int i t) (.int j u)) Q E s) :
  pj X f (C0 λi j=> .bl (g i j)):=by
 intro pins s σ H x y v u Q I rx ry h;obtain⟨i,j,rfl,rfl,q⟩:=h;obtain⟨t,rfl⟩:=rx;obtain⟨t',rfl⟩:=ry;exact rule i j t t' s _ _ ⟨.bl (g i j),H,I,rfl,q⟩
def CDiv (i j:Int):Prop:=0<j/\j<1073741824
def CMul (i j:Int):Prop:=(-(2 ^ 64)<i/\i<2 ^ 64)\/(-(2 ^ 64)<j/\j<2 ^ 64)
theorem CMul.ok {i j:Int}(h:CMul i j):IntMulOk i j:=by
 rcases h with⟨h1,h2⟩ | ⟨h1,h2⟩
 ·exact .of_left (intBits_le_64 h1 h2)
 ·exact .of_right (intBits_le_64 h1 h2)
theorem Ez:pj X (Lc .Add) (C0 λi j=> .int (i+j)):=GA λ_ _ _ _ _ _ _ q=>add_int q
theorem Er:pj X (Lc .Sub) (C0 λi j=> .int (i - j)):=GA λ_ _ _ _ _ _ _ q=>sub_int q
theorem Et:pj X (Lc .Mult) (rI CMul λi j=> .int (i*j)):=opI λ_ _ _ _ _ _ _ hc q=>mul_int q hc.ok
theorem BX:pj X (Lc .FloorDiv) (rI CDiv λi j=> .int (i / j)):=opI λi j _ _ _ _ _ hc q=>by
 have h1:(0:Int)<j:=hc.1
 have h2:j<1073741824:=hc.2;exact floordiv_int (by omega) (by rw[Int.fdiv_eq_ediv_of_nonneg i (by omega)];exact q) (.inl (PyProof.noPylong_small (by omega)))
theorem Eu:pj X (Lc .Mod) (rI (λ_ j=>0<j) λi j=> .int (i % j)):=opI λi j _ _ _ _ _ hc q=>by
 have h1:(0:Int)<j:=hc;exact mod_int' (by omega) (by rw[Int.fmod_eq_emod_of_nonneg i (by omega)];exact q)
theorem unI {f:Ji->Sem Ji}{g:Int->Int}
  (rule:∀(i:Int) (t:Tok) (s:Jk) (Q:Ji->Jk->Prop) (E:Ji->Jk->Prop),Q (.int (g i) s.toks) { s with toks:=s.toks+1 }->wpAny (model X.prog X.w) X.A (f (.int i t)) Q E s) :
  UnR X f (rU λi=> .int (g i)):=by
 intro pins s σ H x v Q I rx h;obtain⟨i,rfl,q⟩:=h;obtain⟨t,rfl⟩:=rx;exact rule i t s _ _ ⟨.int (g i),H,I.tok _,⟨_,rfl⟩,q⟩
theorem Do:UnR X (unaryOp .USub) (rU λi=> .int (-i)):=unI λ_ _ _ _ _ q=>neg_int q
end
section
variable {X:Cx}{a b c:Expr}{ta tb tc:TE}{pos:Pos}
theorem z9 {pins:List (Addr×Obj)}{σ:St}{H:Hp}{s:Jk}{Q:VK}{k k':Bool}(I:Inv X pins σ H s)(q:Q (.bl k) H)(e:k=k'):EP X pins σ Q (.bool k') s:=by
 subst e;exact⟨.bl k,H,I,rfl,q⟩
theorem Gx:pj X (Kh .Lt) (C0 λi j=> .bl (decide (i<j))):=EA λ_ _ _ _ _ _ _ q=>lt_int q
theorem Gy:pj X (Kh .LtE) (C0 λi j=> .bl (decide (i<=j))):=EA λ_ _ _ _ _ _ _ q=>le_int q
theorem Gz:pj X (Kh .Gt) (C0 λi j=> .bl (decide (j<i))):=EA λ_ _ _ _ _ _ _ q=>gt_int q
theorem Ew:pj X (Kh .Is) (λx y H Q=>y= .non/\Q (.bl (decide (x= .non))) H):=by
 intro pins s σ H x y v u Q I rx ry h;obtain⟨rfl,q⟩:=h;cases ry;refine is_none_gen (z9 I q ?_)
 cases x <;> first
  | (cases rx;rfl)
  | (obtain⟨t,rfl⟩:=rx;rfl)
theorem BW:pj X (Kh .IsNot) (λx y H Q=>y= .non/\Q (.bl (!decide (x= .non))) H):=by
 intro pins s σ H x y v u Q I rx ry h;obtain⟨rfl,q⟩:=h;cases ry;refine isnot_none_gen (z9 I q ?_)
 cases x <;> first
  | (cases rx;rfl)
  | (obtain⟨t,rfl⟩:=rx;rfl)
theorem kx:(sizeLine:Nat)<2 ^ 63:=by rw[KW];decide
theorem uc:pj X (Lc .Add) (λx y H Q=> ∃i j,x= .str i/\y= .str j/\i.length+j.length<=sizeLine/\Q (.str (i++j)) H):=by
 intro pins s σ H x y v u Q I rx ry h;obtain⟨i,j,rfl,rfl,hz,q⟩:=h;obtain⟨t,rfl⟩:=rx;obtain⟨t',rfl⟩:=ry;exact add_str (λt' tk=>⟨.str (i++j),H,I.tok _,⟨_,rfl⟩,q⟩) hz
theorem gX {x:V}{us:List Ji}(r:Vals [x] us):∃u,us= [u]/\RelV x u:=by
 cases r with
 | cons r1 r2=>cases r2;exact⟨_,rfl,r1⟩
theorem x5 {x y:V}{us:List Ji}(r:Vals [x,y] us):∃u w',us= [u,w']/\RelV x u/\RelV y w':=by
 cases r with
 | cons r1 r2=>
  cases r2 with
  | cons r3 r4=>cases r4;exact⟨_,_,rfl,r1,r3⟩
theorem xC (hc:X.calm=true):CallR X (.builtin "max") (λxs H Q=> ∃i j,xs= [.int i,.int j]/\Q (.int (if j > i then j else i)) H):=by
 intro pins s σ H xs us Q I r h;obtain⟨i,j,rfl,q⟩:=h;obtain⟨u,w',rfl,⟨t,rfl⟩,⟨t',rfl⟩⟩:=x5 r;refine max_two_ints (I.ok.hd hc) λh' tk k=>⟨_,H,I.kept k,?_,q⟩
 by_cases hj:j > i
 ·rw[if_pos hj,if_pos hj];exact⟨_,rfl⟩
 ·rw[if_neg hj,if_neg hj];exact⟨_,rfl⟩
theorem xA (hc:X.calm=true):CallR X (.builtin "min") (λxs H Q=> ∃i j,xs= [.int i,.int j]/\Q (.int (if j<i then j else i)) H):=by
 intro pins s σ H xs us Q I r h;obtain⟨i,j,rfl,q⟩:=h;obtain⟨u,w',rfl,⟨t,rfl⟩,⟨t',rfl⟩⟩:=x5 r;refine min_two_ints (I.ok.hd hc) λh' tk k=>⟨_,H,I.kept k,?_,q⟩
 by_cases hj:j<i
 ·rw[if_pos hj,if_pos hj];exact⟨_,rfl⟩
 ·rw[if_neg hj,if_neg hj];exact⟨_,rfl⟩
theorem xE:CallR X (.type "int") (λxs H Q=>(∃i,xs= [.int i]/\Q (.int i) H)\/∃k,xs= [.bl k]/\Q (.int (if k then 1 else 0)) H):=by
 intro pins s σ H xs us Q I r h;rcases h with⟨i,rfl,q⟩ | ⟨k,rfl,q⟩
 ·obtain⟨u,rfl,t,rfl⟩:=gX r
  exact call_int_int ⟨.int i,H,I,⟨_,rfl⟩,q⟩
 ·obtain⟨u,rfl,r1⟩:=gX r
  cases r1;exact call_int_bool ⟨.int (if k then 1 else 0),H,I.tok _,⟨_,rfl⟩,q⟩
end
structure ObjM (h:Heap)(x dx C:Addr)(mA:Str->Option Ji):Prop where
 obj:h.get? x=some (OG C dx)
 ns:h.Ns1 dx mA
 ne:dx≠x
theorem wW {h:Heap}{dx:Addr}{mA:Str->Option Ji}(n:h.Ns1 dx mA):∃od,h.get? dx=some od/\∀name,Pm name od=some (mA name):=by
 obtain⟨o,es,ep,ho,hd,hk,_,hm⟩:=n;refine⟨o,ho,λname=> ?_⟩
 have e:=hm name;unfold nsFind findBy at e;rw[<-PN]at e
 unfold Pm;rw[hd]
 dsimp only
 split
 ·rename_i y q
  rw[q]at e;exact congrArg some e
 ·rename_i q
  rw[q]at e
  have a:es.toList.any (·.refKey)=false:=by
   rw[List.any_eq_false];intro y hy;obtain⟨z,t,hkey⟩:=hk y (Array.mem_toList_iff.mp hy);simp[DictEntry.refKey,hkey]
  have a':¬ es.toList.any (·.refKey)=true:=by rw[a];exact JP
  rw[if_neg a'];exact congrArg some e
theorem ObjM.look {h:Heap}{x dx C:Addr}{mA:Str->Option Ji}(I:ObjM h x dx C mA):∃od,PySem.W.InstAt h x (OG C dx) C (some od)/\∀name,Pm name od=some (mA name):=
 let ⟨od,ho,hl⟩:=wW I.ns
 ⟨od,⟨I.obj,rfl,rfl,ho⟩,hl⟩
theorem RelO.some_of {v:V}{o:Option Ji}(r:RelO (some v) o):∃u,o=some u/\RelV v u:=by
 cases o with
 | none=>exact(show False from r).elim
 | some u=>exact⟨u,rfl,r⟩
section
variable {P:JI}{w:Kn}{H H':Hp}{h h':Heap}{a C dx:Addr}{fs fs':List (Str×V)}
theorem Cg (hok:HOk P w H h)(e:H a=some (.ins C dx fs)):∃mA,ObjM h a dx C mA/\(∀f,RelO (fs.lookup f) (mA f))/\PySem.Within mA (fs.map (·.1))/\fs.length<=1000/\H dx=some (.own a):=by
 obtain⟨d,z,ne,ob,mA,n,r,q⟩:=(show ObjOk P w H h a (.ins C dx fs)from hok a _ e)
 exact⟨mA,⟨ob,n,ne⟩,r,q,z,d⟩
end
structure Cls (K:Jg)(C:Addr):Prop where
 pg:QR K C Str.empty=true
 hd:PySem.W.hasDictIn K C=true
 po:PySem.W.plainOver K C=true
 sa:PySem.W.findIn K (.ref C) "__setattr__" =some (some (.builtin "object.__setattr__"))
theorem Cls.get {K:Jg}{C:Addr}(c:Cls K C)(f:Str):QR K C f=true:=c.pg
section
variable {X:Cx}{pins:List (Addr×Obj)}{σ:St}{H:Hp}{s:Jk}{A:JZ}{E:Ji->Jk->Prop}{Q:Ji->Jk->Prop}{c:Ji}{b:Bool}
inductive kJ (K:Jg) (H:Hp):V->Ji->Prop where
 | non:kJ K H .non (.type "NoneType")
 | bl (x:Bool):kJ K H (.bl x) (.type "bool")
 | int (i:Int):kJ K H (.int i) (.type "int")
 | str (x:Str):kJ K H (.str x) (.type "str")
 | flt (x:UInt64):kJ K H (.flt x) (.type "float")
 | lst {a:Addr} {xs:List V} (e:H a=some (.lst xs)):kJ K H (.ref a) (.type "list")
 | frz {a:Addr} {o:Obj} {xs:List V} (e:H a=some (.frz o (.lst xs))):kJ K H (.ref a) (.type "list")
 | tup {a:Addr} {xs:List V} (e:H a=some (.tup xs)):kJ K H (.ref a) (.type "tuple")
 | dK {a:Addr} {kvs:List (Key×V)} (e:H a=some (.dK kvs)):kJ K H (.ref a) (.type "dict")
 | dT {a:Addr} {kvs:List (List Key×V)} (e:H a=some (.dT kvs)):kJ K H (.ref a) (.type "dict")
 | ins {a C dx:Addr} {fs:List (Str×V)} (e:H a=some (.ins C dx fs)) (cl:Cls K C) (ha:PySem.W.findIn K (.ref C) "__class__" =some (some (.builtin "object.__class__")))
   (hn:PySem.W.specialIn K (.builtin "object.__class__") "__get__" =some (some (.builtin "getset_descriptor.__get__"))) (htk:PySem.W.takesIn K (.builtin "object.__class__")=some true)
   (hm:PySem.W.mroIn K C (.type "object")=some true):kJ K H (.ref a) (.ref C)
theorem xc {x:V}{u t:Ji}(I:Inv X pins σ H s)(rx:RelV x u)(ty:kJ X.K H x t)(e:PySem.W.kitOne X.K t c=some b)(h:∀tk,Q (.bool b) { s with toks:=tk }) :
  wpAny (model X.prog X.w) A (call (.builtin "isinstance") [u,c]) Q E s:=by
 cases ty with
 | non=>cases (show u=Ki from rx);exact KG PySem.W.kitx_none I.kIn L6 e (λz=>nomatch z) h
 | bl y=>cases (show u=Ku y from rx);exact KG PySem.W.kitx_bool I.kIn L6 e (λz=>nomatch z) h
 | int i=>obtain⟨t,q⟩:=(show ∃t,u=Kz i t from rx);cases q;exact KG PySem.W.kitx_int I.kIn L6 e (λz=>nomatch z) h
 | str y=>obtain⟨t,q⟩:=(show ∃t,u=K3 y t from rx);cases q;exact KG PySem.W.kitx_str I.kIn L6 e (λz=>nomatch z) h
 | flt y=>obtain⟨t,q⟩:=(show ∃t,u=Value.float y t from rx);cases q;exact KG PySem.W.kitx_float I.kIn L6 e (λz=>nomatch z) h
 | @lst a xs ea=>
  cases (show u=Jz a from rx)
  obtain⟨_,_,n,_,h1⟩:=(show ObjOk X.prog X.w H s.heap a (.lst xs)from I.hok a _ ea)
  exact KG Qd I.kIn ⟨_,h1,rfl⟩ e (λz=>nomatch z) h
 | @frz a ob xs ea=>
  cases (show u=Jz a from rx)
  obtain⟨_,_,_,n,_,h1⟩:=(show ObjOk X.prog X.w H s.heap a (.frz ob (.lst xs))from I.hok a _ ea)
  exact KG Qd I.kIn ⟨_,h1,rfl⟩ e (λz=>nomatch z) h
 | @tup a xs ea=>
  cases (show u=Jz a from rx)
  obtain⟨_,_,_,p⟩:=(show ObjOk X.prog X.w H s.heap a (.tup xs)from I.hok a _ ea)
  obtain⟨o,h1,h2,_⟩:=p
  exact KG PySem.W.kitx_tuple I.kIn ⟨o,h1,h2⟩ e (λz=>nomatch z) h
 | @dK a kvs ea=>
  cases (show u=Jz a from rx)
  obtain⟨_,_,vs,_,p⟩:=(show ObjOk X.prog X.w H s.heap a (.dK kvs)from I.hok a _ ea)
  obtain⟨o,es,ep,h1,h2,_⟩:=p
  exact KG Qe I.kIn ⟨o,h1,h2.1⟩ e (λz=>nomatch z) h
 | @dT a kvs ea=>
  cases (show u=Jz a from rx)
  obtain⟨_,_,xs,_,o,es,ep,h1,h2,_⟩:=(show ObjOk X.prog X.w H s.heap a (.dT kvs)from I.hok a _ ea)
  exact KG Qe I.kIn ⟨o,h1,h2.1⟩ e (λz=>nomatch z) h
 | @ins a C dx fs ea cl ha hn htk hm=>
  cases (show u=Jz a from rx)
  obtain⟨mA,O,_⟩:=Cg I.hok ea;obtain⟨od,J,_⟩:=O.look;exact KG (PySem.W.kitx_own (cl.get _) cl.hd ha hn htk hm) I.kIn J e (λz=>nomatch z) h
end
structure Room (k:Nat)(A:JZ):Prop where
 hd:A.handled=none
 dp:A.depth+3*k+5<recursionLimit
 un:A.units+16*k+200<cLine
theorem Room.mono {j k:Nat}{A:JZ}(r:Room k A)(h:j<=k):Room j A:=⟨r.hd,by have:=r.dp;omega,by have:=r.un;omega⟩
theorem Room.deeper {k:Nat}{A:JZ}(r:Room (k+1) A)(env:Env):Room k (A.deeper env):=
 ⟨r.hd,by have:=r.dp;show A.depth+1+3*k+5<_;omega,by have:=r.un;show A.units+3+16*k+200<_;omega⟩
theorem Room.depth {k:Nat}{A:JZ}(r:Room k A):A.depth<recursionLimit:=by have:=r.dp;omega
def FM:TA:=λ_ H Q=>Q [] H
def yd (ta:TE)(tr:TA):TA:=λσ H Q=>ta σ H λx H1=>tr σ H1 λxs H2=>Q (x::xs) H2
section
variable {X:Cx}{e:Expr}{es:List Expr}{te:TE}{t:TA}{pos:Pos}
theorem kg:PA X [] FM:=λ_ _ _ _ H Q I h=>LM ⟨[],H,I,.nil,h⟩
theorem gp (ha:PE X e te)(hr:PA X es t)(hs:JF (e::es) X.env=(false,eval e X.env)::JF es X.env:=by rfl):PA X (e::es) (yd te t):=by
 intro pos pins s σ H Q I h;rw[hs]
 show wpAny _ _ (spliced ((false,eval e X.env)::backTo pos (JF es X.env))) _ _ s
 refine Lw (cg (ha pins s σ H _ I h) λu s1 hh_=> ?_)
 obtain⟨x,H1,I1,r1,q1⟩:=hh_;exact cg (hr pos pins s1 σ H1 _ I1 q1) λus s2 ⟨xs,H2,I2,r2,q2⟩=>⟨x::xs,H2,I2,.cons r1 r2,q2⟩
def tTup (t:TA):TE:=λσ H Q=>t σ H λxs H1=>xs.length<=sizeLine/\∀p,H1 p=none->Q (.ref p) (upd H1 p (.tup xs))
def tLst (t:TA):TE:=λσ H Q=>t σ H λxs H1=>xs.length<=sizeLine/\∀p,H1 p=none->Q (.ref p) (upd H1 p (.lst xs))
theorem Ef {x1}(h:PA X es t):PE X (.Tuple es x1 pos) (tTup t):=by
 intro pins s σ H Q I hq;refine wpAny_Tuple_spliced (cg (h pos pins s σ H _ I hq) λus s1 ⟨xs,H1,I1,r,z,q⟩=>⟨by rw[<-r.length];exact z,?_⟩)
 have hf:H1 s1.heap.objs.size=none:=I1.hok.fresh (Jv _);refine⟨.ref s1.heap.objs.size,upd H1 s1.heap.objs.size (.tup xs),I1.laid (t':=s1.toks) (λb u e=>Jf _ e) (Jv _) ?_,rfl,q _ hf⟩
 exact⟨z,us,r,⟨_,Js _ rfl,rfl,_,rfl⟩⟩
theorem Ek (h:PA X es t):PE X (.List es pos) (tLst t):=by
 intro pins s σ H Q I hq;refine P5 (cg (h pos pins s σ H _ I hq) λus s1 ⟨xs,H1,I1,r,z,q⟩=>⟨by rw[<-r.length];exact z,?_⟩)
 have hf:H1 s1.heap.objs.size=none:=I1.hok.fresh (Jv _);refine⟨.ref s1.heap.objs.size,upd H1 s1.heap.objs.size (.lst xs),I1.laid (t':=s1.toks) (λb u e=>Jf _ e) (Jv _) ?_,rfl,q _ hf⟩
 exact⟨z,us,0,r,Js _ rfl⟩
end
abbrev Sp:=List V->Hp->VK->XK->Prop
abbrev AM:=List Env->Hp->Jk->XK->Ji->Jk->Prop
structure AI (P:JI)(w:Kn)(K:Jg)(mg:Str->Option Ji)(base:Heap)(A:JZ)(outer:List Env)(s:Jk)(H:Hp):Prop where
 frames:A.frames=some outer
 mod:Mod K mg base
 bs:∀b o,base.get? b=some o->s.heap.get? b=some o/\H b=none
 bsz:base.objs.size<=s.heap.objs.size
 funs:s.heap.FunFrames base outer
 frf:∀b∈qE outer,H b=none
 hok:HOk P w H s.heap
 bare:Oi s.gens
def CE (outer:List Env)(P:JI)(w:Kn)(H:Hp)(s:Jk)(Q:VK)(u:Ji)(s':Jk):Prop:=
 ∃v H',s'.os=s.os/\Oi s'.gens/\Un (qE outer) [] H H' s.heap s'.heap/\HOk P w H' s'.heap/\RelV v u/\Q v H'
def CR (CX:AM)(outer:List Env)(P:JI)(w:Kn)(H:Hp)(s:Jk)(Q:VK)(E:XK)(r:Rv)(s':Jk):Prop:=
 match r with
 | .ok (.ret u)=>CE outer P w H s Q u s'
 | .ok _=>False
 | .error e=>CX outer H s E e s'
structure qT (P:JI)(w:Kn)(K:Jg)(mg:Str->Option Ji)(base:Heap)(CX:AM)(k:Nat)(f:Addr)(fd:Ld)(ps:List Str)(sp:Sp):Prop where
 len:∀vs H Q E,sp vs H Q E->vs.length=ps.length
 run:∀(A:JZ) (outer:List Env) (s:Jk) (H:Hp) (args:Args) (us:List Ji) (vs:List V) (Q:VK) (E:XK),Room k A->AI P w K mg base A outer s H->Qs s fd args (ps.zip us)->Vals vs us->sp vs H Q E →
  codeAny (model P w) A (.call (.ref f) args) (CR CX outer P w H s Q E) s
section
variable {X:Cx}{pins:List (Addr×Obj)}{σ:St}{H:Hp}{s s':Jk}
theorem Inv.IQ (I:Inv X pins σ H s):AI X.prog X.w X.K X.mg X.base X.A X.stack s H:=
 ⟨I.ok.frames,I.ok.mod,I.bs,JQ I.ok.bsz I.sz,I.stack,I.HZ,I.hok,I.bare⟩
theorem Inv.after {Q:VK}{u:Ji}(I:Inv X pins σ H s)(h:CE X.stack X.prog X.w H s Q u s'):EP X pins σ Q u s':=by
 obtain⟨v,H',os,bare,un,hok,r,q⟩:=h;obtain⟨hh,g,d,t,os'⟩:=s';obtain rfl:os'=s.os:=os;exact⟨v,H',I.call (h':=hh) (g':=g) (d':=d) (t':=t) (ch:=[]) un hok bare (λb z=>absurd z (by simp)),r,q⟩
end
def FT (sp:Sp)(dvs:List V)(E:XK)(t:TA):TE:=λσ H Q=>t σ H λvs H1=>sp (vs++dvs) H1 Q E
def Binds (K:Jg)(fd:Ld)(ps:List Str)(ds:List Ji):Prop:=
 ∀(s:Jk) (us:List Ji),K.In s.heap->(us++ds).length=ps.length->Qs s fd ⟨us,[]⟩ (ps.zip (us++ds))
theorem Binds.all {K:Jg}{fd:Ld}{ps:List Str}(h:∀us:List Ji,us.length=ps.length->bindArgs fd ⟨us,[]⟩=pure (ps.zip us)):Binds K fd ps []:=λs us _ hl=>by
 rw[Km]at hl ⊢;exact .of_eq (h us hl)
def uM (CX:AM)(X:Cx)(E:XK):Prop:=∀(pins:List (Addr×Obj)) (σ:St) (H:Hp) (s:Jk) (e:Ji) (s':Jk),Inv X pins σ H s->CX X.stack H s E e s'->X.xe e s'
section
variable {X:Cx}{CX:AM}{k:Nat}{f C:Addr}{fd:Ld}{ps:List Str}{sp:Sp}{dvs:List V}{ds:List Ji}{E:XK}{x m:Str}{p pos apos:Pos}{e o:Expr}{es:List Expr}{ta:TE}{t:TA}
theorem Dw {pins:List (Addr×Obj)}{σ:St}{H:Hp}{s:Jk}{Q:VK}{us:List Ji}{vs:List V}(F:qT X.prog X.w X.K X.mg X.base CX k f fd ps sp)(hr:Room k X.A)(hb:Binds X.K fd ps ds)(hd:Vals dvs ds)(hx:uM CX X E)
  (I:Inv X pins σ H s) (r:Vals vs us) (h:sp (vs++dvs) H Q E):wpAny (model X.prog X.w) X.A (call (.ref f) us) (EP X pins σ Q) X.xe s:=by
 have r2:Vals (vs++dvs) (us++ds):=r.append hd
 have hl:(us++ds).length=ps.length:=by rw[<-r2.length];exact F.len _ _ _ _ h
 refine wpAny_call (OV (F.run X.A X.stack s H ⟨us,[]⟩ (us++ds) (vs++dvs) Q E hr I.IQ (hb s us I.kIn hl) r2 h) λr s' hq=> ?_)
 cases r with
 | error e=>exact hx pins σ H s e s' I hq
 | ok fl=>
  cases fl with
  | ret u=>exact I.after hq
  | next=>exact Mg hq
  | brk=>exact Mg hq
  | cont=>exact Mg hq
theorem vd (F:qT X.prog X.w X.K X.mg X.base CX k f fd ps sp)(hr:Room k X.A)(hg:Gl X x)(hm:X.mg x=some (.ref f))(hk:M4 X.K (.ref f)=true)(hb:Binds X.K fd ps ds)(hd:Vals dvs ds)(hx:uM CX X E)
  (ha:PA X (e::es) t) (hdb:ie x:=by decide) (he:JF (e::es) X.env=(false,eval e X.env)::JF es X.env:=by rfl) (hpl:(backTo pos (JF es X.env)).any (·.1)=false:=by rfl) :
  PE X (.Call (.Name x p) (e::es) [] pos) (FT sp dvs E t):=by
 intro pins s σ H Q I h;refine Kg (ly I hg hm ?_ hdb)
 refine PK (h₀:=X.base) I.ok.mod.kin hk (cg (ha pos pins s σ H _ I h) λus s1 ⟨vs,H1,I1,r,q⟩=>⟨I1.kIn,?_⟩) he hpl
 exact Dw F hr hb hd hx I1 r q
end
structure ax (N P:List Str)(sc:Ny):Prop where
 kind:sc.kind= .function
 co:sc.isCoroutine=false
 gen:sc.isGenerator=false
 nd:N.Nodup
 pre:N.take P.length=P
 par:∀x∈P,sc.names.lookup x=some .local\/sc.names.lookup x=some .cell
 nofree:∀y∈sc.names,y.2≠ .free
theorem o9 {kindOf:Str->Option Mk}{x:Str}:∀{binds:List (Str×Ji)} {m:Str->Option Ji},(∀v,(x,v)∉binds)->bindL kindOf binds m x=m x
 | [],_,_=>rfl
 | (n,v)::r,m,h=>by
  unfold bindL;rw[o9 λw hw=>h w (Jh _ hw)]
  split
  ·have:x≠n:=by rintro rfl;exact h v Jj
   simp[this]
  ·rfl
theorem pe {kindOf:Str->Option Mk}{x:Str}:∀{binds:List (Str×Ji)} {m:Str->Option Ji},(∀v,(x,v)∉binds)->bindC kindOf binds m x=m x
 | [],_,_=>rfl
 | (n,v)::r,m,h=>by
  unfold bindC;rw[pe λw hw=>h w (Jh _ hw)]
  split
  ·rfl
  ·have:x≠n:=by rintro rfl;exact h v Jj
   simp[this]
theorem pc {kindOf:Str->Option Mk}{x:Str}{v:Ji}:∀{P:List Str} {vs:List Ji} {i:Nat} {m:Str->Option Ji},P.Nodup->P[i]? =some x->vs[i]? =some v->kindOf x=some .local →
  bindL kindOf (P.zip vs) m x=some v
 | [],_,_,_,_,h,_,_=>by simp at h
 | _::_,[],_,_,_,_,h,_=>by simp at h
 | p::P,w::vs,0,m,nd,h1,h2,hk=>by
  simp at h1 h2;subst h1;subst h2
  show bindL kindOf ((p,w)::P.zip vs) m p=_
  unfold bindL;rw[o9 λv hv=>(JX.mp nd).1 (MI hv).1,if_pos hk]
  simp
 | p::P,w::vs,i+1,m,nd,h1,h2,hk=>by
  show bindL kindOf ((p,w)::P.zip vs) m x=_
  unfold bindL;exact pc (i:=i) (JX.mp nd).2 (by simpa using h1) (by simpa using h2) hk
theorem pf {kindOf:Str->Option Mk}{x:Str}{v:Ji}:∀{P:List Str} {vs:List Ji} {i:Nat} {m:Str->Option Ji},P.Nodup->P[i]? =some x->vs[i]? =some v->kindOf x≠some .local →
  bindC kindOf (P.zip vs) m x=some v
 | [],_,_,_,_,h,_,_=>by simp at h
 | _::_,[],_,_,_,_,h,_=>by simp at h
 | p::P,w::vs,0,m,nd,h1,h2,hk=>by
  simp at h1 h2;subst h1;subst h2
  show bindC kindOf ((p,w)::P.zip vs) m p=_
  unfold bindC;rw[pe λv hv=>(JX.mp nd).1 (MI hv).1,if_neg hk]
  simp
 | p::P,w::vs,i+1,m,nd,h1,h2,hk=>by
  show bindC kindOf ((p,w)::P.zip vs) m x=_
  unfold bindC;exact pf (i:=i) (JX.mp nd).2 (by simpa using h1) (by simpa using h2) hk
def start (N:List Str)(vs:List V):St:=vs.map some++JK (N.length - vs.length) none
def kE (CX:AM)(P:JI)(w:Kn)(K:Jg)(mg:Str->Option Ji)(base:Heap)(N:List Str)(qual:Str)(scope:Ny)(f:Addr)(cd:Ji)(A:JZ)(outer:List Env)(s:Jk)(H:Hp)(E:XK):Cx where
 prog:=P
 w:=w
 K:=K
 mg:=mg
 base:=base
 A:=A.deeper (envOfC qual scope s.heap.objs.size f cd)
 N:=N
 s₀:=s
 H₀:=H
 env:=envOfC qual scope s.heap.objs.size f cd
 outer:=outer
 stack:=envOfC qual scope s.heap.objs.size f cd::outer
 ex:=[]
 calm:=true
 fn:=λ_=>true
 pn:=[]
 xe:=λe s'=>wpAny (model P w) (A.deeper (envOfC qual scope s.heap.objs.size f cd)) (leaving (envOfC qual scope s.heap.objs.size f cd) e) (λ_ s''=>CX outer H s E e s'') (λe' s''=>CX outer H s E e' s'') s'
theorem tI {sc:Ny}{n:Nat}{x:Str}(h:sc.names.lookup x=some .cell):∃c,(L5 n sc.names []).lookup x=some c:=by
 have q:=MR sc.names n [] (.inl h);exact N1.mp q
theorem oR {CX:AM}{P:JI}{w:Kn}{K:Jg}{mg:Str->Option Ji}{base:Heap}{N ps:List Str}{qual:Str}{scope:Ny}{f:Addr}{cd:Ji}{A:JZ}{outer:List Env}{s s1:Jk}{H:Hp}{E:XK}{us:List Ji}{vs:List V}
  (S:ax N ps scope) (hd:A.handled=none) (e0:AI P w K mg base A outer s H) (hl:vs.length=ps.length) (r:Vals vs us)
  (x:InCallC s s.heap.objs.size (bindL (envOfC qual scope s.heap.objs.size f cd).kindOf (ps.zip us) λ_=>none) (L5 (s.heap.objs.size+1) scope.names []) (bindC (envOfC qual scope s.heap.objs.size f cd).kindOf (ps.zip us) λ_=>none) s1) :
  Inv (kE CX P w K mg base N qual scope f cd A outer s H E) [] (start N vs) H s1:=by
 have hpl:ps.length<=N.length:=by have:=congrArg LD S.pre;rw[My]at this;omega
 obtain⟨h1,tk,rfl,hk⟩:=x.done
 have noA:∀b:Addr,b∉(kE CX P w K mg base N qual scope f cd A outer s H E).ex:=λb z=>absurd (show b∈([]:List Addr)from z) (by simp)
 refine⟨⟨e0.mod,S.kind,rfl,rfl,Jv _,λy z c h1 h2=> ?_,λy hy=> ?_,λy c _ h=> ?_,λ_=>hd,Around.frames_deeper e0.frames,.inr ⟨rfl,rfl⟩,λb z=>absurd z (noA b),e0.bs,e0.bsz,λb _ _=>noA b,λb z=>absurd z (noA b),e0.funs,e0.frf⟩,
  rfl,e0.bare,Un.kept hk,⟨_,x.toInCall.ns,λi y v h1 h2 h3=> ?_⟩,λy c h=>⟨_,x.cell y c h⟩,e0.hok.fresh (Jv _),λy c h=> ?_,λp hp=>absurd (show p∈([]:List (Addr×Obj))from hp) (by simp),e0.hok.kept hk,?_⟩
 ·exact name_of_addr x.apart (Ln h1) (Ln h2)
 ·have hy:scope.names.lookup y=some .cell\/scope.names.lookup y=some .free:=hy
  rcases hy with hy | hy
  ·exact tI hy
  ·exact absurd rfl (S.nofree _ (Ln hy))
 ·exact KD (x.above y c (Ln h))
 ·have hi:i<vs.length:=by
   unfold start at h2
   by_cases hi:i<vs.length
   ·exact hi
   ·rw[Mq (by simpa using hi)]at h2
    rw[MJ]at h2
    split at h2 <;> cases h2
  have ha:vs[i]? =some v:=by
   unfold start at h2;rw[LF (by simpa using hi),JG]at h2
   cases e:vs[i]? with
   | none=>rw[e]at h2;cases h2
   | some a=>rw[e]at h2;cases h2;rfl
  obtain⟨u,hu,rv⟩:=r.get ha
  have hp:ps[i]? =some y:=by
   rw[<-S.pre,List.getElem?_take_of_lt (by omega)];exact h1
  have ndP:ps.Nodup:=by rw[<-S.pre];exact S.nd.sublist (List.take_sublist _ _)
  refine⟨u,rv,?_⟩
  rcases S.par y (LI hp)with k | k
  ·exact .inl ⟨k,pc ndP hp hu k⟩
  ·obtain⟨c,e⟩:=tI (n:=s.heap.objs.size+1) k
   refine .inr ⟨.inl k,c,e,?_⟩
   have q:=x.cell y c e;rw[pf ndP hp hu (by show scope.names.lookup y≠_;rw[k];decide)]at q
   exact q
 ·exact e0.hok.fresh (KD (x.above y c (Ln h)))
 ·unfold start
  show _=N.length
  rw[Ju,Jm,List.length_replicate];omega
theorem G0 {CX:AM}{P:JI}{w:Kn}{K:Jg}{mg:Str->Option Ji}{base:Heap}{k:Nat}{f:Addr}{name qual:Str}{params:Rw}{body:List Stmt}{scope:Ny}{dV kV doc pm cdv ct oc:Ji}{an od:Option Addr}
  {osl:Array (Option Ji)} {N ps:List Str} {sp:Sp} (lk:K.lookup f=some ⟨oc,od,.func (M6 name qual params body scope dV kV doc pm an cdv ct),osl⟩) (hcd:Pn K cdv qual=true) (S:ax N ps scope)
  (len:∀vs H Q E,sp vs H Q E->vs.length=ps.length)
  (hbody:∀(A:JZ) (outer:List Env) (s:Jk) (H:Hp) (vs:List V) (Q:VK) (E:XK),Room k (A.deeper (envOfC qual scope s.heap.objs.size f cdv))->sp vs H Q E →
   ∃t,PSs (kE CX P w K mg base N qual scope f cdv A outer s H E) body t/\t { nx:=λ_ H'=>Q .non H',rt:=Q } (start N vs) H) :
  qT P w K mg base CX (k+1) f (M6 name qual params body scope dV kV doc pm an cdv ct) ps sp:=by
 refine⟨len,λA outer s H args us vs Q E hr e0 hb r hsp=> ?_⟩
 have hl:=len _ _ _ _ hsp
 have KX:K.In s.heap:=e0.mod.kin.keeps λb o e=>(e0.bs b o e).1
 have lim:s.heap.NoLimit:=e0.mod.nolimit.keeps λb o e=>(e0.bs b o e).1
 have hkind:∀y∈ps.zip us,scope.names.lookup y.1=some .local\/(scope.names.lookup y.1=some .cell/\((L5 (s.heap.objs.size+1) scope.names []).lookup y.1).isSome=true):=λ⟨n,v⟩ hy=>by
  rcases S.par n (MI hy).1 with q | q
  ·exact .inl q
  ·exact .inr ⟨q,MR _ _ _ (.inl q)⟩
 refine OW hr.depth (KX _ _ lk) rfl S.co S.gen rfl (PL KX hcd) (hb _ _ _ _ ?_)
 refine NL S.kind hkind λenv he s1 x=> ?_
 subst he;refine⟨lim.keeps x.toInCall.keep,codeAny_func ?_⟩
 obtain⟨t,ht,hq⟩:=hbody A outer s H vs Q E (hr.deeper _) hsp
 have I:Inv (kE CX P w K mg base N qual scope f cdv A outer s H E) [] (start N vs) H s1:=oR S hr.hd e0 hl r x;refine Lb (ht [] s1 (start N vs) H _ I hq) (λfl s' hs=> ?_) λe s' hs=>hs
 have fin:∀{σ':St} {H':Hp} {v:V} {u:Ji},Inv (kE CX P w K mg base N qual scope f cdv A outer s H E) [] σ' H' s'->RelV v u->Q v H'->CE outer P w H s Q u s':=
  λ{σ' H' v u} J rv q=>⟨v,H',J.os,J.bare,J.base,J.hok,rv,q⟩
 cases fl with
 | ret u=>
  obtain⟨v,σ',H',J,rv,q⟩:=hs
  exact fin J rv q
 | next=>
  obtain⟨σ',H',J,q⟩:=hs
  exact fin (v:=V.non) (u:=Ki) J rfl q
 | brk=>
  obtain⟨_,_,_,q⟩:=hs
  exact Mg q
 | cont=>
  obtain⟨_,_,_,q⟩:=hs;exact Mg q
section
variable {X:Cx}{x:Str}{p pos:Pos}{e:Expr}{es:List Expr}{t:TA}{id T:String}{r:List V->Hp->VK->Prop}
def tCB (r:List V->Hp->VK->Prop)(t:TA):TE:=λσ H Q=>t σ H λvs H1=>r vs H1 Q
theorem wH (hc:CallR X (.type T) r)(hg:Gl X x)(hm:X.mg x=none)(hv:JT x=some (.type T))(ha:PA X (e::es) t)(hn:x≠ "__name__":=by decide)(hdb:ie x:=by decide)
  (he:JF (e::es) X.env=(false,eval e X.env)::JF es X.env:=by rfl) (hpl:(backTo pos (JF es X.env)).any (·.1)=false:=by rfl):PE X (.Call (.Name x p) (e::es) [] pos) (tCB r t):=by
 intro pins s σ H Q I h;refine Kg (eE I hg hm hv ?_ hn hdb)
 exact J5 (cg (ha pos pins s σ H _ I h) λus s1 ⟨vs,H1,I1,r1,q1⟩=>hc pins s1 σ H1 vs us Q I1 r1 q1) he hpl
end
end L2
namespace HT
open PySem PyProof.Rows
def lexLt:List Int->List Int->Bool
 | [],[] =>false
 | [],_::_=>true
 | _::_,[] =>false
 | x::xs,y::ys=>if x=y then lexLt xs ys else decide (x<y)
theorem lexLt_cons (x y:Int)(xs ys:List Int):lexLt (x::xs) (y::ys)=if x=y then lexLt xs ys else decide (x<y):=rfl
theorem nZ:lexLt [] [] =false:=rfl
theorem mt (y:Int)(ys:List Int):lexLt [] (y::ys)=true:=rfl
theorem mw (x:Int)(xs:List Int):lexLt (x::xs) [] =false:=rfl
theorem Ae (A:JZ)(s:Jk)(a:Int)(t:Tok)(c:Int)(u:Tok):∃e,SeqAt.EqAt A s (.int a t) (.int c u) e/\(e=true↔a=c):=
 ⟨(a == c),SeqAt.EqAt.int_int a t c u,by simp⟩
theorem yB (A:JZ)(s:Jk)(a:Int)(t:Tok)(c:Int)(u:Tok)(prog:JI)(w:Kn)(E:Ji->Jk->Prop)(Q:Ji->Jk->Prop)(h:Q (.bool (decide (a<c))) s) :
  wpAny (model prog w) A (richCompare .Lt (.int a t) (.int c u)) Q E s:=
 (PyProof.Rows.lt_int h:wpAny (model prog w) A (Kh .Lt (.int a t) (.int c u)) Q E s)
section
open PySem.SeqAt
open PySem.AutoSeq1 (wpAny_loadPart')
open PySem.MeetsSeq PySem.MeetsSeq2 PySem.MeetsSeq3
theorem ng (l b:Addr)(items items2:Array Ji)(n n2:Nat)(dd dd2:Option Addr)(sl sl2:Array (Option Ji))(ns ms:List Int)(hi:K7 items.toList ns)(hj:K7 items2.toList ms) :
  Meets (Builtin.«tuple.__lt__» ⟨[.ref l,.ref b],[]⟩)
   (λ_ R s=>s.heap.get? l=some { cls:=.type "tuple",dict:=dd,data:=.seq items n,slots:=sl }/\s.heap.get? b=some { cls:=.type "tuple",dict:=dd2,data:=.seq items2 n2,slots:=sl2 } ∧
    R (.ok (.ret (.bool (lexLt ns ms)))) s):=
 .of_wp λprog w A R s h=>by
  obtain⟨hp,g,d,tk,os⟩:=s;obtain⟨hl,hb,h⟩:=h
  have f2:=AutoSeq1.sub_tuple_tuple
  have z1:items.size=ns.length:=by rw[<-hi.length];simp
  have z2:items2.size=ms.length:=by rw[<-hj.length];simp
  wp_walk using KQ hl,KQ hb,wpAny_forIn_list _ (λbJ b s'=>b.1=none/\s'=⟨hp,g,d,tk,os⟩/\∃(vs ws:List Ji) (ns' ms':List Int),bJ=vs.zip ws ∧
   K7 vs ns'/\K7 ws ms'/\ns'.length+items2.size=ms'.length+items.size/\R (.ok (.ret (.bool (lexLt ns' ms')))) ⟨hp,g,d,tk,os⟩) _
  case turn=>
   rintro ⟨y,x⟩ bJ b s' ⟨hb',rfl,vs,ws,ns',ms',hz,hvi,hwi,hlen,hR⟩
   cases hvi with
   | nil=>rw[Qi]at hz;cases hz
   | cons a t hvi'=>
    cases hwi with
    | nil=>rw[PP]at hz;cases hz
    | cons c u hwi'=>
     rw[MK]at hz;injection hz with hyx hrest
     injection hyx with hy hx
     subst hy hx;rw[lexLt_cons]at hR;simp only[Jq]at hlen;obtain⟨e,he,hiff⟩:=Ae A.in1 ⟨hp,g,d,tk,os⟩ a t c u;refine Je (he prog w _ _ ?_)
     cases e with
     | true=>
      rw[if_pos (hiff.mp rfl)]at hR
      wp_walk
      exact⟨rfl,rfl,_,_,_,_,hrest,hvi',hwi',by omega,hR⟩
     | false=>
      rw[if_neg (λq=>absurd (hiff.mpr q) JP)]at hR
      have hri:=yB A.in1 ⟨hp,g,d,tk,os⟩ a t c u prog w
      wp_walk using hri
      exact⟨_,rfl,by simpa using hR⟩
  case fin=>
   rintro ⟨b1,b2⟩ s' ⟨hb',rfl,vs,ws,ns',ms',hz,hvi,hwi,hlen,hR⟩
   simp only at hb';subst hb'
   have hv:lexLt ns' ms'=decide (items.size<items2.size):=by
    cases hvi with
    | nil=>
     cases hwi with
     | nil=>
      simp only[Lo]at hlen;rw[nZ]
      exact(decide_eq_false (by omega)).symm
     | cons c u hw=>
      simp only[Lo,Jq]at hlen;rw[mt]
      exact(decide_eq_true (by omega)).symm
    | cons a t hv=>
     cases hwi with
     | nil=>
      simp only[Lo,Jq]at hlen;rw[mw]
      exact(decide_eq_false (by omega)).symm
     | cons c u hw=>
      rw[MK]at hz;cases hz
   rw[hv]at hR
   wp_walk
   exact⟨_,rfl,by simpa [Qg]using hR⟩
  case h=>
   exact⟨rfl,rfl,items.toList,items2.toList,ns,ms,rfl,hi,hj,by omega,h⟩
end
section
variable {prog:JI}{w:Kn}{A:JZ}{E:Ji->Jk->Prop}{s:Jk}
theorem lt_tupInts {l b:Addr}{items items2:Array Ji}{ns ms:List Int}{Q:Ji->Jk->Prop}(hl:RH s.heap l items)(hb:RH s.heap b items2)(hi:K7 items.toList ns)(hj:K7 items2.toList ms)
  (hu:A.units<cLine) (h:Q (.bool (lexLt ns ms)) s):wpAny (model prog w) A (Kh .Lt (.ref l) (.ref b)) Q E s:=by
 obtain⟨⟨cls,dd,data,sl⟩,ho,hc,n,hd⟩:=id hl;obtain⟨⟨cls2,dd2,data2,sl2⟩,ho2,hc2,n2,hd2⟩:=id hb;simp only at hc hd hc2 hd2;subst hc hd hc2 hd2
 exact richCompare_meets_room (op:=.Lt) ⟨_,ho,rfl⟩ ⟨_,ho2,rfl⟩ PySem.F.slot_tuple_lt PySem.F.entry_tuple_lt (PySem.F.args_tuple_lt_2 _ _) (ng l b items items2 n n2 dd dd2 sl sl2 ns ms hi hj)
  ⟨ho,ho2,show Ku (lexLt ns ms)≠Pd/\Q (.bool (lexLt ns ms)) s from⟨(λx=>nomatch x),h⟩⟩ hu
theorem cat_tup {t b:Addr}{vs ws:List Ji}{Q:Ji->Jk->Prop}(ht:RH s.heap t vs.toArray)(hb:RH s.heap b ws.toArray)(hv:vs≠ [])
  (h1:ws= []->Q (.ref t) s) (h2:ws≠ []->Q (.ref s.heap.objs.size) { s with heap:=s.heap.push { cls:=.type "tuple",data:=.seq (vs++ws).toArray } })
  (hsz:vs.length+ws.length<=sizeLine):wpAny (model prog w) A (Lc .Add (.ref t) (.ref b)) Q E s:=by
 obtain⟨⟨cls,dd,data,sl⟩,ho,hc,n,hd⟩:=id ht;obtain⟨⟨cls2,dd2,data2,sl2⟩,ho2,hc2,n2,hd2⟩:=id hb;simp only at hc hd hc2 hd2;subst hc hd hc2 hd2
 have e:vs.toArray++ws.toArray=(vs++ws).toArray:=by simp
 by_cases hw:ws= []
 ·exact QL ⟨_,ho,rfl⟩ ⟨_,ho2,rfl⟩ Oy P6 MS MG (MC _ _)
   (tuple_addW1 t b vs.toArray ws.toArray n n2 dd dd2 sl sl2 (by simpa using hv) (by simp[hw])) ⟨ho,ho2,h1 hw⟩
 ·refine QL ⟨_,ho,rfl⟩ ⟨_,ho2,rfl⟩ Oy P6 MS MG (MC _ _)
   (tuple_addW2 t b vs.toArray ws.toArray n n2 dd dd2 sl sl2 (by simpa using hv) (by simpa using hw) (by rw[Jw,Jw];exact hsz)) ⟨ho,ho2,?_⟩
  rw[e];exact h2 hw
def sIx (n d:Nat):Option Int->Nat
 | none=>d
 | some v=>if v<0 then(v+(n:Int)).toNat else min v.toNat n
theorem sIx_none (n d:Nat):sIx n d none=d:=rfl
theorem sIx_nat (n d k:Nat):sIx n d (some (k:Int))=min k n:=by
 show(if (k:Int)<0 then((k:Int)+(n:Int)).toNat else min (k:Int).toNat n)=min k n
 rw[if_neg (by omega),Ko]
theorem Dv (n d:Nat)(hd:d<=n)(o:Option Int):sIx n d o<=n:=by
 cases o with
 | none=>exact hd
 | some v=>
  show(if v<0 then(v+(n:Int)).toNat else min v.toNat n)<=n
  by_cases hv:v<0
  ·rw[if_pos hv];omega
  ·rw[if_neg hv];exact Nat.min_le_right _ _
theorem v9 (v:Int)(n d:Nat):(if v<0 then max (v+(n:Int)) 0 else min v (n:Int))=((sIx n d (some v):Nat):Int):=by
 show(if v<0 then max (v+(n:Int)) 0 else min v (n:Int))=(((if v<0 then(v+(n:Int)).toNat else min v.toNat n):Nat):Int)
 by_cases hv:v<0
 ·simp only[if_pos hv];omega
 ·simp only[if_neg hv];omega
theorem uL (lo hi:Option Int)(n:Nat):Mu lo hi 1 (n:Int)=(((sIx n 0 lo:Nat):Int),((sIx n n hi:Nat):Int)):=by
 have h1:¬ ((1:Int)<0):=by omega
 unfold Mu;simp only[h1,if_false];refine Prod.ext ?_ ?_
 ·cases lo with
  | none=>rfl
  | some v=>exact v9 v n 0
 ·cases hi with
  | none=>rfl
  | some v=>exact v9 v n n
theorem ub (i j:Nat):LC (i:Int) (j:Int) 1=j - i:=by
 unfold LC
 have h1:(1:Int) > 0:=by omega
 simp only[h1,if_true,Int.ediv_one]
 split <;> omega
theorem lO {v:Ji}{o:Option Int}{Q:Option Int->Jk->Prop}(p:P7 v o)(h:Q o s):wpAny (model prog w) A (Rb v) Q E s:=by
 cases p with
 | none=>exact slicePart_none h
 | int i t=>exact slicePart_int h
theorem ga {sl:Addr}{vl vu:Ji}{lo hi:Option Int}{n:Nat}{Q:Int×Int×Nat->Jk->Prop}(hs:s.heap.IsSliceOf sl vl vu .none)(pl:P7 vl lo)(pu:P7 vu hi)
  (h:Q (((sIx n 0 lo:Nat):Int),1,sIx n n hi - sIx n 0 lo) s):wpAny (model prog w) A (ND (.ref sl) (pure (n:Int))) Q E s:=by
 obtain⟨os,hos,hcs,hds⟩:=id hs;unfold ND Builtin.Slice.sliceFields;refine Je (Je (J1 hos hds (x:=vl) rfl (Je (J1 hos hds (x:=vu) rfl (Je (J1 hos hds (x:=.none) rfl (Jl ?_)))))))
 refine Je (slicePart_none ?_)
 show wpAny _ _ (if ((1:Int) == 0)=true then _ else _) _ _ s
 rw[if_neg (by decide)]
 refine Je (lO pl (Je (lO pu (Je (Jl ?_)))))
 show wpAny _ _ (match Mu lo hi 1 (n:Int)with | (lo,hi)=>pure (lo,(1:Int),LC lo hi 1)) _ _ s
 rw[uL lo hi n]
 show wpAny _ _ (pure (((sIx n 0 lo:Nat):Int),(1:Int),LC ((sIx n 0 lo:Nat):Int) ((sIx n n hi:Nat):Int) 1)) _ _ s
 rw[ub];exact Jl h
theorem yN (xs:Array Ji)(i k:Nat):((Kv k).filterMap λ(m:Nat)=>xs[((i:Int)+(m:Int)*1).toNat]?).toArray=((xs.toList.drop i).take k).toArray:=by
 have e:(λ(m:Nat)=>xs[((i:Int)+(m:Int)*1).toNat]?)=λm=>xs[i+m]?:=by
  funext m
  have:((i:Int)+(m:Int)*1).toNat=i+m:=by omega
  rw[this]
 rw[e]
 have:=pick_run xs i k;rw[List.filterMap_map]at this
 have e2:((λx=>xs[x]?)∘λx=>i+x)=λm=>xs[i+m]?:=rfl
 rw[e2]at this;rw[this]
theorem getItem_tuple_cut {t sl:Addr}{items:Array Ji}{vl vu:Ji}{lo hi:Option Int}{Q:Ji->Jk->Prop}(ht:RH s.heap t items)(hs:s.heap.IsSliceOf sl vl vu .none)(pl:P7 vl lo)(pu:P7 vu hi)
  (hw:¬ (sIx items.size 0 lo=0/\sIx items.size items.size hi=items.size))
  (h:Q (.ref s.heap.objs.size) { s with heap:=s.heap.push { cls:=.type "tuple",data:=.seq ((items.toList.drop (sIx items.size 0 lo)).take (sIx items.size items.size hi - sIx items.size 0 lo)).toArray } })
  (hsz:items.size<=sizeLine):wpAny (model prog w) A (getItem (.ref t) (.ref sl)) Q E s:=by
 have htake:sizeOk (.seq ((items.toList.drop (sIx items.size 0 lo)).take (sIx items.size items.size hi - sIx items.size 0 lo)).toArray):=by
  show((items.toList.drop (sIx items.size 0 lo)).take (sIx items.size items.size hi - sIx items.size 0 lo)).toArray.size<=sizeLine
  rw[Jw,My,L4,JU];omega
 have hj:sIx items.size items.size hi<=items.size:=Dv _ _ (Jv _) hi;obtain⟨os,hos,hcs,hds⟩:=id hs
 have hTs:s.TypeIs (.ref sl) "slice":=⟨os,hos,hcs⟩;unfold getItem
 try with_reducible refine J3 ?_
 first | refine Je (Jl ?_) | skip
 refine Je (Qt ht.typeIs (by decide) ?_)
 refine Je (J4 (name:=JC "__getitem__") ht.typeIs Ke
  (J9 Ke ht.typeIs PC ?_ (P8 _ _)))
 show wpAny _ _ (NF (.ref t) >>= _) _ _ s
 refine Je (P9 ht ?_)
 refine Je (LA hTs ?_)
 rw[if_pos (by decide)]
 refine Je (ga hs pl pu ?_)
 have hno:¬ ((((sIx items.size 0 lo:Nat):Int) == 0&&(1:Int) == 1&&(sIx items.size items.size hi - sIx items.size 0 lo) == items.size)=true):=by
  intro q;rw[Jo,Jo]at q
  have q1:((sIx items.size 0 lo:Nat):Int)=0:=eq_of_beq q.1.1
  have q2:sIx items.size items.size hi - sIx items.size 0 lo=items.size:=eq_of_beq q.2;exact hw ⟨by omega,by omega⟩
 show wpAny _ _ (if (((sIx items.size 0 lo:Nat):Int) == 0&&(1:Int) == 1&&(sIx items.size items.size hi - sIx items.size 0 lo) == items.size)=true then _ else _) _ _ s
 rw[if_neg hno,yN]
 first
  | exact Je (m:=K9 _) (KM (Jl ⟨_,rfl,Jl h⟩) htake)
  | exact Je (m:=K9 _) (KM (Je (Jl (Jl ⟨_,rfl,Jl h⟩))) htake)
  | exact Je (Je (m:=K9 _) (KM (Jl (Jl ⟨_,rfl,Jl h⟩)) htake))
  | exact Je (Je (m:=K9 _) (KM (Jl ⟨_,rfl,Jl h⟩) htake))
end
end HT
namespace L2
open PySem PySem.Spec PyProof.Rows
abbrev TO:=St->Hp->(Option Int->Hp->Prop)->Prop
def PO (X:Cx)(e:Option Expr)(t:TO):Prop:=
 ∀(pins:List (Addr×Obj)) (s:Jk) (σ:St) (H:Hp) (Q:Option Int->Hp->Prop),Inv X pins σ H s->t σ H Q →
  wpAny (model X.prog X.w) X.A (evalPart e X.env) (λu s'=> ∃o H',Inv X pins σ H' s'/\P7 u o/\Q o H') X.xe s
def A6:TO:=λ_ H Q=>Q none H
def FK (t:TE):TO:=λσ H Q=>t σ H λx H1=> ∃i,x= .int i/\Q (some i) H1
theorem uB {ns:List Int}:∀{us:List Ji},Vals (ns.map V.int) us->K7 us ns:=by
 induction ns with
 | nil=>intro us r;rw[ME]at r;cases r;exact .nil
 | cons n ns ih=>
  intro us r;rw[Jn]at r
  cases r with
  | cons r1 r2=>
   obtain⟨t,e⟩:=r1;subst e;exact .cons n t (ih r2)
section
variable {X:Cx}{e:Expr}{te:TE}{lo hi:Option Expr}{tl th:TO}{pos p2:Pos}
theorem BJ:PO X none A6:=by
 intro pins s σ H Q I h;rw[evalPart_none];exact Jl ⟨none,H,I,.none,h⟩
theorem BI (h:PE X e te):PO X (some e) (FK te):=by
 intro pins s σ H Q I hw;rw[evalPart_some];refine cg (h pins s σ H _ I hw) λu s1 hh_=> ?_
 obtain⟨x,H1,I1,r1,q1⟩:=hh_;obtain⟨i,rfl,q⟩:=q1;obtain⟨t,rfl⟩:=r1;exact⟨some i,H1,I1,.int i t,q⟩
def SlR (X:Cx)(r:V->Option Int->Option Int->Hp->VK->Prop):Prop:=
 ∀(pins:List (Addr×Obj)) (s:Jk) (σ:St) (H:Hp) (x:V) (v vl vu:Ji) (lo hi:Option Int) (sl:Addr) (Q:VK),Inv X pins σ H s->RelV x v->s.heap.IsSliceOf sl vl vu .none->P7 vl lo->P7 vu hi->r x lo hi H Q →
  ∃T id,LS (.type T) "__getitem__" =pure (some (.builtin id))/\s.TypeIs v T/\wpAny (model X.prog X.w) X.A (getItem v (.ref sl)) (EP X pins σ Q) X.xe s
theorem SlR.or {r r':V->Option Int->Option Int->Hp->VK->Prop}(h:SlR X r)(h':SlR X r'):SlR X (λx lo hi H Q=>r x lo hi H Q\/r' x lo hi H Q):=by
 intro pins s σ H x v vl vu lo hi sl Q I rx hs pl pu q;rcases q with q | q
 ·exact h pins s σ H x v vl vu lo hi sl Q I rx hs pl pu q
 ·exact h' pins s σ H x v vl vu lo hi sl Q I rx hs pl pu q
def tSl (r:V->Option Int->Option Int->Hp->VK->Prop)(te:TE)(tl th:TO):TE:=λσ H Q=>te σ H λx H1=>tl σ H1 λl H2=>th σ H2 λu H3=>r x l u H3 Q
theorem yP {r:V->Option Int->Option Int->Hp->VK->Prop}(hr:SlR X r)(he:PE X e te)(hl:PO X lo tl)(hu:PO X hi th):PE X (.Subscript e (.Slice lo hi none p2) pos) (tSl r te tl th):=by
 intro pins s σ H Q I h;refine Subscript_ (cg (he pins s σ H _ I h) λv s1 hh_=> ?_)
 obtain⟨x,H1,I1,r1,q1⟩:=hh_;refine wpAny_Slice (cg (hl pins s1 σ H1 _ I1 q1) λvl s2 ⟨l,H2,I2,pl,q2⟩=>cg (hu pins s2 σ H2 _ I2 q2) λvu s3 hh_=> ?_)
 obtain⟨u,H3,I3,pu,q3⟩:=hh_;rw[evalPart_none];refine Jl ?_
 have I4:Inv X pins σ H3 { s3 with heap:=s3.heap.push { cls:=.type "slice",data:=.fields #[vl,vu,.none] } }:=I3.kept (t':=s3.toks) λb ob q=>Jf _ q
 obtain⟨T,id,hT,ht,hg⟩:=hr pins { s3 with heap:=s3.heap.push { cls:=.type "slice",data:=.fields #[vl,vu,.none] } } σ H3 x v vl vu l u s3.heap.objs.size Q I4 r1 (Heap.IsSliceOf.new ..) pl pu q3
 show wpAny (model X.prog X.w) X.A (Qa e (.Slice lo hi none p2) v (.ref s3.heap.objs.size)) (EP X pins σ Q) X.xe { s3 with heap:=s3.heap.push { cls:=.type "slice",data:=.fields #[vl,vu,.none] } }
 exact tail_any (ops:=[.ref s3.heap.objs.size,v]) ht hT hg (by with_unfolding_all rfl)
def tG (xs:List V)(lo hi:Option Int):List V:=(xs.drop (HT.sIx xs.length 0 lo)).take (HT.sIx xs.length xs.length hi - HT.sIx xs.length 0 lo)
theorem kX (xs:List V)(lo hi:Option Int):(tG xs lo hi).length<=xs.length:=by
 unfold tG;rw[My,L4];omega
def rSlT (K:Jg):V->Option Int->Option Int->Hp->VK->Prop:=λx lo hi H Q=> ∃a xs,x= .ref a/\SqT K H a xs ∧
 ¬(HT.sIx xs.length 0 lo=0/\HT.sIx xs.length xs.length hi=xs.length)/\∀p,H p=none->Q (.ref p) (upd H p (.tup (tG xs lo hi)))
theorem sl_tup:SlR X (rSlT X.K):=by
 intro pins s σ H x v vl vu lo hi sl Q I rx hs pl pu h;obtain⟨a,xs,rfl,hx,hw,q⟩:=h;cases rx;obtain⟨its,r,ht,hz⟩:=I.tuple hx
 have hlen:its.toArray.size=xs.length:=by rw[Jw];exact r.length.symm
 refine⟨"tuple",_,Ke.lookup,ht.typeIs,?_⟩
 refine HT.getItem_tuple_cut ht hs pl pu (by rw[hlen];exact hw) ?_ (by rw[hlen];exact hz)
 rw[hlen];refine⟨.ref s.heap.objs.size,_,I.laid (t':=s.toks) (o:=.tup (tG xs lo hi)) (λb ob q=>Jf _ q) (Jv _) ?_,rfl,q _ (I.hok.fresh (Jv _))⟩
 exact⟨JQ (kX xs lo hi) hz,_,(r.drop (HT.sIx xs.length 0 lo)).take (HT.sIx xs.length xs.length hi - HT.sIx xs.length 0 lo),Rh _ _⟩
def F4 (K:Jg):R2:=λx y H Q=> ∃a b xs ys,x= .ref a/\y= .ref b/\SqT K H a xs/\SqT K H b ys/\xs≠ []/\xs.length+ys.length<=sizeLine ∧
 (ys= []->Q (.ref a) H)/\(ys≠ []->∀p,H p=none->Q (.ref p) (upd H p (.tup (xs++ys))))
theorem Vals.Hy {xs:List V}{us:List Ji}(r:Vals xs us):us= [] ↔xs= []:=by
 cases r with
 | nil=>simp
 | cons _ _=>simp
theorem BY:pj X (Lc .Add) (F4 X.K):=by
 intro pins s σ H x y v u Q I rx ry h;obtain⟨a,b,xs,ys,rfl,rfl,ha,hb,hx,hz,q1,q2⟩:=h;cases rx;cases ry;obtain⟨its,r1,p1,_⟩:=I.tuple ha;obtain⟨its2,r2,p2,_⟩:=I.tuple hb;refine HT.cat_tup p1 p2 (λz=>hx (r1.Hy.mp z)) (λz=>⟨.ref a,H,I,rfl,q1 (r2.Hy.mp z)⟩) (λz=> ?_) (by rw[<-r1.length,<-r2.length];exact hz)
 refine⟨.ref s.heap.objs.size,_,I.laid (t':=s.toks) (o:=.tup (xs++ys)) (λb ob q=>Jf _ q) (Jv _) ?_,rfl,q2 (λw=>z (r2.Hy.mpr w)) _ (I.hok.fresh (Jv _))⟩
 exact⟨by rw[Ju];exact hz,_,r1.append r2,Rh _ _⟩
end
def ixN (n:Nat)(i:Int):Option Nat:=if 0<=i then(if i<n then some i.toNat else none)else if -(n:Int)<=i then some (i+n).toNat else none
def atI {α:Type}(xs:List α)(i:Int):Option α:=(ixN xs.length i).bind λj=>xs[j]?
theorem vL {n:Nat}{i:Int}{j:Nat}(h:ixN n i=some j):seqIndex? i n=some j/\j<n/\-(n:Int)<=i/\i<n:=by
 unfold ixN at h
 by_cases h0:0<=i
 ·rw[if_pos h0]at h
  by_cases h1:i<n
  ·rw[if_pos h1]at h
   have e:i.toNat=j:=JW h;exact⟨by rw[Rx h0 h1,e],by omega,by omega,h1⟩
  ·rw[if_neg h1]at h;cases h
 ·rw[if_neg h0]at h
  by_cases h1 : -(n:Int)<=i
  ·rw[if_pos h1]at h
   have e:(i+n).toNat=j:=JW h;exact⟨by rw[QM (by omega) h1,e],by omega,h1,by omega⟩
  ·rw[if_neg h1]at h;cases h
theorem qQ {α:Type}{xs:List α}{i:Int}{v:α}(h:atI xs i=some v):∃j,seqIndex? i xs.length=some j/\xs[j]? =some v/\j<xs.length/\-(xs.length:Int)<=i/\i<xs.length:=by
 unfold atI at h
 cases e:ixN xs.length i with
 | none=>rw[e]at h;cases h
 | some j=>
  rw[e]at h;obtain⟨h1,h2,h3,h4⟩:=vL e;exact⟨j,h1,h,h2,h3,h4⟩
def wf (b:Expr):Prop:=∀o i,PD b false o i=operate [o,i] (getItem o i)
def IxR (X:Cx)(r:R2):Prop:=
 ∀(value slice:Expr) (pins:List (Addr×Obj)) (s:Jk) (σ:St) (H:Hp) (x y:V) (v u:Ji) (Q:VK),Inv X pins σ H s->RelV x v->RelV y u->r x y H Q →
  PD slice false v u=operate [v,u] (getItem v u)->wpAny (model X.prog X.w) X.A (Qa value slice v u) (EP X pins σ Q) X.xe s
def MtR (X:Cx)(id:String)(r:V->List V->Hp->VK->Prop):Prop:=
 ∀(pins:List (Addr×Obj)) (s:Jk) (σ:St) (H:Hp) (x:V) (xs:List V) (v:Ji) (us:List Ji) (Q:VK),Inv X pins σ H s->RelV x v->Vals xs us->r x xs H Q →
  wpAny (model X.prog X.w) X.A (call (.builtin id) (v::us)) (EP X pins σ Q) X.xe s
section
variable {X:Cx}{a b:Expr}{ta tb:TE}{pos:Pos}
theorem IxR.or {r r':R2}(h:IxR X r)(h':IxR X r'):IxR X (λx y H Q=>r x y H Q\/r' x y H Q):=by
 intro value slice pins s σ H x y v u Q I rx ry q hs;rcases q with q | q
 ·exact h value slice pins s σ H x y v u Q I rx ry q hs
 ·exact h' value slice pins s σ H x y v u Q I rx ry q hs
def F3 (K:Jg):R2:=λx y H Q=> ∃p xs i v,x= .ref p/\y= .int i/\SqL K H p xs/\atI xs i=some v/\Q v H
def F1 (K:Jg):R2:=λx y H Q=> ∃p xs i v,x= .ref p/\y= .int i/\SqT K H p xs/\atI xs i=some v/\Q v H
def F2:R2:=λx y H Q=> ∃z i c,x= .str z/\y= .int i/\z.length<=sizeLine/\atI z.cps.toList i=some c/\Q (.str ⟨#[c]⟩) H
theorem ix_list:IxR X (F3 X.K):=by
 intro value slice pins s σ H x y v u Q I rx ry h hs;obtain⟨p,xs,i,z,rfl,rfl,hq,he,q⟩:=h;cases rx;obtain⟨t,rfl⟩:=ry;obtain⟨its,r,pl,hz⟩:=I.list hq;obtain⟨j,h1,h2,h3,h4,h5⟩:=qQ he;obtain⟨w,ew,rw'⟩:=r.get h2
 have hl:=r.length
 have hn:=kx
 have fin:EP X pins σ Q w s:=⟨z,H,I,rw',q⟩
 by_cases h0:0<=i
 ·have hj:i.toNat=j:=by
   rw[Rx h0 h5]at h1;exact JW h1
  exact item_listR pl.isList h0 (by omega) (by rw[hj];simpa using ew) fin hs
 ·have hj:(i+(its.toArray.size:Int)).toNat=j:=by
   rw[QM (by omega) h4]at h1
   rw[Jw,<-hl];exact JW h1
  exact OE (x:=w) pl.isList.typeIs slot_list_getitem.lookup
   (wpAny_getItem_list_neg (Q:=λr s'=>r=w/\EP X pins σ Q r s') pl.isList (by omega) (by rw[Jw] <;> omega) (by omega) (by rw[hj];simpa using ew) ⟨rfl,fin⟩) hs
theorem ix_tup:IxR X (F1 X.K):=by
 intro value slice pins s σ H x y v u Q I rx ry h hs;obtain⟨p,xs,i,z,rfl,rfl,hq,he,q⟩:=h;cases rx;obtain⟨t,rfl⟩:=ry;obtain⟨its,r,pl,hz⟩:=I.tuple hq;obtain⟨j,h1,h2,h3,h4,h5⟩:=qQ he;obtain⟨w,ew,rw'⟩:=r.get h2
 have hl:=r.length
 have hn:=kx
 have fin:EP X pins σ Q w s:=⟨z,H,I,rw',q⟩
 exact OE (x:=w) pl.typeIs slot_tuple_getitem.lookup
  (getItem_tuple (j:=j) (Q:=λr s'=>r=w/\EP X pins σ Q r s') pl (by omega) (by omega) (by rw[Jw,<-hl];exact h1) (by simpa using ew) ⟨rfl,fin⟩) hs
theorem EU:IxR X F2:=by
 intro value slice pins s σ H x y v u Q I rx ry h hs;obtain⟨z,i,c,rfl,rfl,hz,he,q⟩:=h;obtain⟨t,rfl⟩:=rx;obtain⟨t',rfl⟩:=ry;obtain⟨j,h1,h2,h3,h4,h5⟩:=qQ he
 have hl:z.cps.toList.length=z.length:=by simp[Str.length]
 rw[hl]at h1 h4 h5
 have hn:=kx
 exact tail_any (typeIs_str s z t) slot_str_getitem.lookup (getItem_str (c:=c) (by
  have e1:decide (i< -(2 ^ 63:Int))=false:=decide_eq_false (by omega)
  have e2:decide (i ≥ 2 ^ 63)=false:=decide_eq_false (by omega)
  rw[e1,e2,Bool.or_false]) (by rw[h1];simpa using h2) ⟨.str ⟨#[c]⟩,H,I.tok _,⟨_,rfl⟩,q⟩) hs
def rIx (K:Jg):R2:=λx y H Q=>F3 K x y H Q\/F1 K x y H Q\/F2 x y H Q
theorem EV:IxR X (rIx X.K):=ix_list.or (ix_tup.or EU)
theorem uo (its:List Ji)(n j:Nat)(u:Ji):KR (·.setIfInBounds j u) { cls:=.type "list",data:=.seq its.toArray n }= { cls:=.type "list",data:=.seq (its.set j u).toArray n }:=by
 simp[KR]
theorem Inv.lst {pins:List (Addr×Obj)}{σ:St}{H:Hp}{s:Jk}{p:Addr}{xs:List V}(I:Inv X pins σ H s)(h:H p=some (.lst xs)) :
  ∃(its:List Ji) (n:Nat),Vals xs its/\s.heap.get? p=some { cls:=.type "list",data:=.seq its.toArray n }/\xs.length<=sizeLine:=by
 obtain⟨z,its,n,r,e⟩:=I.hok p _ h;exact⟨its,n,r,e,z⟩
theorem Inv.IB {pins:List (Addr×Obj)}{σ:St}{H:Hp}{s:Jk}{p:Addr}{xs ys:List V}{its its':List Ji}{n n':Nat}{f:Obj->Obj}(I:Inv X pins σ H s)(h:H p=some (.lst xs))
  (ho:s.heap.get? p=some { cls:=.type "list",data:=.seq its.toArray n }) (hf:f { cls:=.type "list",data:=.seq its.toArray n }= { cls:=.type "list",data:=.seq its'.toArray n' }) (r:Vals ys its') (hz:ys.length<=sizeLine) (t:Nat) :
  Inv X pins σ (upd H p (.lst ys)) { s with heap:=s.heap.update p f,toks:=t }:=by
 have e:(s.heap.update p f).get? p=some { cls:=.type "list",data:=.seq its'.toArray n' }:=by
  rw[Ma f ho (by rw[hf] <;> rfl),hf]
 refine I.write (x:=p) (e:=p) (by rw[h];trivial) (.inl rfl) (λb u hb q=>(Kq _ _ (MW hb)).trans q) ⟨_,e⟩ ?_
 exact⟨hz,its',n',r,e⟩
def F0:V->V->V->Hp->(Hp->Prop)->Prop:=λo i v H Q=> ∃p xs k j,o= .ref p/\i= .int k/\H p=some (.lst xs)/\ixN xs.length k=some j/\Q (upd H p (.lst (xs.set j v)))
theorem yu:Ha X F0:=by
 intro pins s σ H o i v ov iv u Q I ro ri rv h;obtain⟨p,xs,k,j,rfl,rfl,hp,hj,q⟩:=h;cases ro;obtain⟨t,rfl⟩:=ri;obtain⟨its,n,r,ho,hz⟩:=I.lst hp;obtain⟨h1,h2,h3,h4⟩:=vL hj
 have hl:=r.length
 have hn:=kx
 have I':Inv X pins σ (upd H p (.lst (xs.set j v))) { s with heap:=s.heap.update p (KR (·.setIfInBounds j u)) }:=
  I.IB hp ho (uo its n j u) (r.set rv j) (by rw[Kr];exact hz) s.toks
 by_cases h0:0<=k
 ·have hk:k.toNat=j:=by
   rw[Rx h0 h4]at h1;exact JW h1
  exact PySem.W.ki_setAt ho h0 (by omega) (by rw[Jw,<-hl];exact h4) (by rw[hk];exact⟨_,I',q⟩)
 ·have hk:(k+(its.toArray.size:Int)).toNat=j:=by
   rw[QM (by omega) h3]at h1
   rw[Jw,<-hl];exact JW h1
  exact PySem.W.ki_setBack ho (by omega) (by rw[Jw,<-hl];exact h3) (by omega) (by rw[hk];exact⟨_,I',q⟩)
theorem pE (lo hi:Option Int)(n:Nat):(M0 lo hi none n).1=((HT.sIx n 0 lo:Nat):Int)/\(M0 lo hi none n).2.1=((HT.sIx n n hi:Nat):Int)/\(M0 lo hi none n).2.2=1:=by
 refine⟨?_,?_,rfl⟩
 ·cases lo with
  | none=>simp[M0,HT.sIx]
  | some i=>
   simp only[M0,HT.sIx,QU,show(1:Int) > 0 by decide,if_true]
   by_cases h:i<0
   ·simp only[h,if_true] <;> omega
   ·simp only[h,if_false] <;> omega
 ·cases hi with
  | none=>simp[M0,HT.sIx]
  | some i=>
   simp only[M0,HT.sIx,QU,show(1:Int) > 0 by decide,if_true]
   by_cases h:i<0
   ·simp only[h,if_true] <;> omega
   ·simp only[h,if_false] <;> omega
theorem ni (its:List Ji)(lo hi:Option Int):slicePick its.toArray lo hi none=((its.drop (HT.sIx its.length 0 lo)).take (HT.sIx its.length its.length hi - HT.sIx its.length 0 lo)).toArray:=by
 obtain⟨h1,h2,h3⟩:=pE lo hi its.toArray.size;unfold slicePick;rw[h1,h2,h3];simp only[sliceRange_one,pick_run,Jw] <;> rfl
def rSlL (K:Jg):V->Option Int->Option Int->Hp->VK->Prop:=λx lo hi H Q=> ∃a xs,x= .ref a/\SqL K H a xs/\∀p,H p=none->Q (.ref p) (upd H p (.lst (tG xs lo hi)))
theorem Bc:SlR X (rSlL X.K):=by
 intro pins s σ H x v vl vu lo hi sl Q I rx hs pl pu h;obtain⟨a,xs,rfl,hx,q⟩:=h;cases rx;obtain⟨its,r,ht,hz⟩:=I.list hx
 have hlen:=r.length;refine⟨"list",_,slot_list_getitem.lookup,ht.isList.typeIs,?_⟩
 refine wpAny_getItem_list_slice ht.isList hs pl pu .none (by simp) ?_ (by rw[Jw] <;> omega)
 rw[ni,<-hlen];refine⟨.ref s.heap.objs.size,_,I.laid (t':=s.toks) (o:=.lst (tG xs lo hi)) (λb ob q=>Jf _ q) (Jv _) ?_,rfl,q _ (I.hok.fresh (Jv _))⟩
 exact⟨JQ (kX xs lo hi) hz,_,0,(r.drop (HT.sIx xs.length 0 lo)).take (HT.sIx xs.length xs.length hi - HT.sIx xs.length 0 lo),Js _ rfl⟩
theorem call_len_seq:CallR X (.builtin "len") (λxs H Q=> ∃p ys,xs= [.ref p]/\(SqL X.K H p ys\/SqT X.K H p ys)/\Q (.int ys.length) H):=by
 intro pins s σ H xs us Q I r h;obtain⟨p,ys,rfl,hq,q⟩:=h;obtain⟨u,rfl,rx⟩:=gX r;cases rx
 have hn:=kx;rcases hq with hq | hq
 ·obtain⟨its,r',pl,hz⟩:=I.list hq
  have hlen:=r'.length;exact Calls.call_len_list pl.isList (by simp only[Jw] <;> omega) ⟨.int ys.length,H,I.tok _,⟨s.toks+1,by rw[Jw,hlen]⟩,q⟩
 ·obtain⟨its,r',pl,hz⟩:=I.tuple hq
  have hlen:=r'.length;exact len_tuple pl (by simp only[Jw] <;> omega) ⟨.int ys.length,H,I.tok _,⟨s.toks+1,by rw[Jw,hlen]⟩,q⟩
theorem qN:CallR X (.builtin "len") (λxs H Q=> ∃z,xs= [.str z]/\z.length<=sizeLine/\Q (.int z.length) H):=by
 intro pins s σ H xs us Q I r h;obtain⟨z,rfl,hz,q⟩:=h;obtain⟨u,rfl,t,rfl⟩:=gX r
 have hn:=kx;exact len_str (by omega) ⟨.int z.length,H,I.tok _,⟨_,rfl⟩,q⟩
theorem CallR.or {f:Ji}{r r':List V->Hp->VK->Prop}(h:CallR X f r)(h':CallR X f r'):CallR X f (λxs H Q=>r xs H Q\/r' xs H Q):=by
 intro pins s σ H xs us Q I rs q;rcases q with q | q
 ·exact h pins s σ H xs us Q I rs q
 ·exact h' pins s σ H xs us Q I rs q
theorem n6:CallR X (.type "tuple") (λxs H Q=> ∃p ys,xs= [.ref p]/\((SqL X.K H p ys/\∀l,H l=none->Q (.ref l) (upd H l (.tup ys)))\/(SqT X.K H p ys/\Q (.ref p) H))):=by
 intro pins s σ H xs us Q I r h;obtain⟨p,ys,rfl,h⟩:=h;obtain⟨u,rfl,rx⟩:=gX r;cases rx;rcases h with⟨hq,q⟩ | ⟨hq,q⟩
 ·obtain⟨its,r',pl,hz⟩:=I.list hq
  have hlen:=r'.length;refine call_tuple_list pl.isList (λh' kp=> ?_) (by simp only[Jw] <;> omega)
  have I1:Inv X pins σ H { s with heap:=h' }:=I.kept (t':=s.toks) kp
  have I2:Inv X pins σ (upd H h'.objs.size (.tup ys)) { s with heap:=h'.push { cls:=.type "tuple",data:=.seq its.toArray } }:=
   I1.laid (t':=s.toks) (λb o e=>Jf _ e) (Jv _) (show ObjOk X.prog X.w _ _ _ (.tup ys)from⟨hz,its,r',Rh _ _⟩)
  exact⟨.ref h'.objs.size,_,I2,rfl,q _ (I1.hok.fresh (Jv _))⟩
 ·obtain⟨its,r',pl,hz⟩:=I.tuple hq
  exact call_tuple_same pl ⟨.ref p,H,I,rfl,q⟩
def tyV (K:Jg)(T:String)(x:V)(H:Hp):Prop:=match x with
 | .str _=>T= "str"
 | .int _=>T= "int"
 | .ref p=>(T= "list"/\∃xs,SqL K H p xs)\/(T= "tuple"/\∃o,K.lookup p=some o/\o.cls= .type "tuple"/\o.dict=none) ∨
   (T= "dict"/\((∃kvs,H p=some (.dK kvs))\/∃kvs,H p=some (.dT kvs)))\/(T= "set"/\∃S n,H p=some (.set S n))
 | _=>False
theorem x9 {pins:List (Addr×Obj)}{σ:St}{H:Hp}{s:Jk}{T:String}{x:V}{v:Ji}(I:Inv X pins σ H s)(r:RelV x v)(ty:tyV X.K T x H) :
  s.TypeIs v T/\∀a,v= .ref a->∃ob,s.heap.get? a=some ob/\ob.dict=none:=by
 cases x with
 | str z=>
  obtain⟨t,rfl⟩:=r;cases (show T= "str" from ty)
  exact⟨typeIs_str s z t,λ_ e=>nomatch e⟩
 | int i=>
  obtain⟨t,rfl⟩:=r;cases (show T= "int" from ty)
  exact⟨Pa s i t,λ_ e=>nomatch e⟩
 | ref p=>
  cases r;rcases ty with⟨rfl,xs,hq⟩ | ⟨rfl,o,hk,hc,hd⟩ | ⟨rfl,hk⟩ | ⟨rfl,S,n,hk⟩
  ·obtain⟨its,_,pl,_⟩:=I.list hq
   refine⟨pl.isList.typeIs,λa e=> ?_⟩
   cases e;obtain⟨o,n,e,c,hd,_⟩:=pl;exact⟨o,e,hd⟩
  ·refine⟨⟨o,I.kIn p o hk,hc⟩,λa e=> ?_⟩
   cases e;exact⟨o,I.kIn _ o hk,hd⟩
  ·have z:∃o,s.heap.get? p=some o/\o.ExactDict:=by
    rcases hk with⟨kvs,hk⟩ | ⟨kvs,hk⟩
    ·obtain⟨_,_,_,_,o,_,_,e,ex,_⟩:=I.hok p _ hk
     exact⟨o,e,ex⟩
    ·obtain⟨_,_,_,_,o,_,_,e,ex,_⟩:=I.hok p _ hk
     exact⟨o,e,ex⟩
   obtain⟨o,e,ex⟩:=z;refine⟨⟨o,e,ex.1⟩,λa e2=> ?_⟩
   cases e2;exact⟨o,e,ex.2.1⟩
  ·obtain⟨o,_,_,_,e,ex,_⟩:=I.hok p _ hk
   refine⟨⟨o,e,ex.1⟩,λa e2=> ?_⟩
   cases e2
   exact⟨o,e,ex.2.1⟩
 | _=>exact Mg ty
def tBM (K:Jg)(T:String)(r:V->List V->Hp->VK->Prop)(to:TE)(t:TA):TE:=λσ H Q=>to σ H λx H1=>tyV K T x H1/\t σ H1 λxs H2=>r x xs H2 Q
variable {o e:Expr}{es:List Expr}{to:TE}{t:TA}{name:Str}{apos cpos:Pos}{T id:String}{r:V->List V->Hp->VK->Prop}
theorem C1 (pa:PlainAttrs T)(slot:Slot T name id)(hty:typeOf (.builtin id)=pure (.type "method_descriptor"))(hm:MtR X id r)(ho:PE X o to)(ha:PA X (e::es) t)
  (hbase:K1 o name X.env (eval o X.env)=eval o X.env:=by rfl)
  (hfew:((backTo cpos (JF (e::es) X.env)).all (λx=> !x.1)&&(backToKw cpos (Ry [] X.env)).all (λx=>x.1.isSome)
   &&decide ((e::es).length+([]:List RA).length+(if ([]:List RA).isEmpty then 0 else 1)<30))=true:=by rfl)
  (hline:(apos.endLine == cpos.line)=true:=by rfl) (hs:JF (e::es) X.env=(false,eval e X.env)::JF es X.env:=by rfl) (hplain:(backTo cpos (JF es X.env)).any (·.1)=false:=by rfl) :
  PE X (.Call (.Attribute o name apos) (e::es) [] cpos) (tBM X.K T r to t):=by
 intro pins s σ H Q I h;refine OF hbase hfew hline rfl (cg (ho pins s σ H _ I h) λv s1 hh_=> ?_)
 obtain⟨x,H1,I1,r1,ty,q1⟩:=hh_;obtain⟨h1,h2⟩:=x9 I1 r1 ty;refine⟨T,id,pa,slot,hty,h1,h2,?_⟩
 have hA:=ha cpos pins s1 σ H1 _ I1 q1;rw[hs]at hA ⊢;refine MT (by show(false||(backTo cpos (JF es X.env)).any (·.1))=false;rw[hplain] <;> rfl) (Ms ?_)
 exact cg hA λus s2 ⟨vs,H2,I2,r2,q2⟩=>hm pins s2 σ H2 x vs v us Q I2 r1 r2 q2
end
def MtM (X:Cx)(id:String)(r:V->List V->Hp->VK->Prop):Prop:=
 ∀(pins:List (Addr×Obj)) (s:Jk) (σ:St) (H:Hp) (x:V) (xs:List V) (v:Ji) (us:List Ji) (Q:VK),Inv X pins σ H s->RelV x v->Vals xs us->r x xs H Q →
  wpAny (model X.prog X.w) X.A (call (.builtin id) (v::us)) (EP X pins σ Q) X.xe s
theorem Vals.one:∀{x:V} {us:List Ji},Vals [x] us->∃u,us= [u]/\RelV x u
 | _,_,.cons r .nil=>⟨_,rfl,r⟩
theorem Vals.rep {xs:List V}{us:List Ji}(h:Vals xs us):∀k:Nat,Vals (JK k xs).flatten (JK k us).flatten
 | 0=> .nil
 | k+1=>by
  rw[KS,KS,LN,LN];exact Vals.append h (Vals.rep h k)
theorem foldl_rep (its:List Ji):∀(k:Nat) (acc:List Ji),
  N3 (λx1 x2=>x1++x2) acc.toArray (JK k its.toArray)=(acc++(JK k its).flatten).toArray
 | 0,acc=>by simp
 | k+1,acc=>by
  have e:acc.toArray++its.toArray=(acc++its).toArray:=by simp
  have e2:(acc++its)++(JK k its).flatten=acc++(JK (k+1) its).flatten:=by
   rw[KS,LN,JV]
  rw[<-e2,<-foldl_rep its k (acc++its),<-e,KS,List.foldl_cons]
section
variable {X:Cx}{pins:List (Addr×Obj)}{σ:St}{H:Hp}{s:Jk}{l b:Addr}{xs ys zs:List V}
theorem Inv.IJ {its its':List Ji}{n:Nat}{f:Array Ji->Array Ji}{t':Nat}(I:Inv X pins σ H s)(hH:H l=some (.lst xs))
  (e:s.heap.get? l=some { cls:=.type "list",data:=.seq its.toArray n }) (hf:f its.toArray=its'.toArray) (hv:Vals ys its') (hz:ys.length<=sizeLine) :
  Inv X pins σ (upd H l (.lst ys)) { s with heap:=s.heap.update l (KR f),toks:=t' }:=by
 have q:=PySem.IsL.update e f;rw[hf]at q;refine I.write (x:=l) (e:=l) (by rw[hH];exact trivial) (.inl rfl) (λb' u hb hu=>(Kq s.heap (KR f) (MW hb)).trans hu) ⟨_,q⟩ ?_
 exact⟨hz,its',_,hv,q⟩
theorem Inv.IC {its:List Ji}{t':Nat}(I:Inv X pins σ H s)(hv:Vals ys its)(hz:ys.length<=sizeLine) :
  Inv X pins σ (upd H s.heap.objs.size (.lst ys)) { s with heap:=s.heap.push { cls:=.type "list",data:=.seq its.toArray },toks:=t' }:=
 I.laid (λ_ _ q=>Jf _ q) (Jv _) ⟨hz,its,0,hv,Js _ rfl⟩
theorem Inv.fresh (I:Inv X pins σ H s):H s.heap.objs.size=none:=I.hok.fresh (Jv _)
theorem Inv.HU (I:Inv X pins σ H s)(hH:H l=some (.lst xs)):xs.length<=sizeLine/\∃(its:List Ji) (n:Nat),Vals xs its/\xs.length=its.length/\s.heap.get? l=some { cls:=.type "list",data:=.seq its.toArray n }:=by
 obtain⟨z,its,n,r,e⟩:=I.hok l _ hH;exact⟨z,its,n,r,r.length,e⟩
theorem sk {n:Nat}(h:n<=sizeLine):LK n=false:=by
 unfold LK;exact decide_eq_false (by omega)
end
section
variable {X:Cx}
def Bg:V->List V->Hp->VK->Prop:=λx vs H Q=> ∃l xs y,x= .ref l/\vs= [y]/\H l=some (.lst xs)/\xs.length<sizeLine/\Q .non (upd H l (.lst (xs++ [y])))
theorem oK:MtM X "list.append" Bg:=by
 intro pins s σ H x vs v us Q I rx rv h;obtain⟨l,xs,y,rfl,rfl,hH,hz,q⟩:=h;cases rx;obtain⟨u,rfl,ru⟩:=rv.one;obtain⟨z,its,n,r,hl,e⟩:=I.HU hH;refine Nl F.slot_list_append ⟨_,e,rfl⟩ F.entry_list_append (F.args_list_append_2 _ _) (PySem.list_append l its.toArray n u (by rw[Jw];omega)) ⟨e,?_⟩
 refine⟨.non,_,I.IJ (its':=its++ [u]) hH e (by simp) (r.append (.cons ru .nil)) ?_,rfl,q⟩
 rw[Ju,K4];omega
def Bf:V->List V->Hp->VK->Prop:=λx vs H Q=> ∃l b xs zs,x= .ref l/\vs= [.ref b]/\H l=some (.lst xs)/\H b=some (.lst zs)/\xs.length+zs.length<=sizeLine/\Q .non (upd H l (.lst (xs++zs)))
theorem wS:MtM X "list.extend" Bf:=by
 intro pins s σ H x vs v us Q I rx rv h;obtain⟨l,b,xs,zs,rfl,rfl,hH,hB,hz,q⟩:=h;cases rx;obtain⟨u,rfl,ru⟩:=rv.one;cases ru;obtain⟨z,its,n,r,hl,e⟩:=I.HU hH;obtain⟨z2,its2,n2,r2,hl2,e2⟩:=I.HU hB
 have hsz:its.toArray.size+its2.toArray.size<=sizeLine:=by rw[Jw,Jw];omega
 have hlong:¬ (!its.toArray.isEmpty&&LK (its.toArray.size+its2.toArray.size))=true:=by
  rw[sk hsz,Bool.and_false];exact JP
 refine Nl F.slot_list_extend ⟨_,e,rfl⟩ F.entry_list_extend (F.args_list_extend_2 _ _)
  (AutoSeq1.list_extend_list_list_0 l its.toArray n b its2.toArray n2 hlong (by rw[Jw];omega) (by omega)) ⟨e,e2,?_⟩
 refine⟨.non,_,I.IJ (its':=its++its2) hH e (by simp) (r.append r2) ?_,rfl,q⟩
 rw[Ju];omega
def rCat:R2:=λx y H Q=> ∃l b xs zs,x= .ref l/\y= .ref b/\H l=some (.lst xs)/\H b=some (.lst zs)/\xs.length+zs.length<=sizeLine/\∀p,H p=none->Q (.ref p) (upd H p (.lst (xs++zs)))
theorem Ey:pj X (Lc .Add) rCat:=by
 intro pins s σ H x y v u Q I rx ry h;obtain⟨l,b,xs,zs,rfl,rfl,hH,hB,hz,q⟩:=h;cases rx;cases ry;obtain⟨z,its,n,r,hl,e⟩:=I.HU hH;obtain⟨z2,its2,n2,r2,hl2,e2⟩:=I.HU hB;refine PySem.P.add_list e e2 ?_ (by rw[Jw,Jw];omega)
 have ea:its.toArray++its2.toArray=(its++its2).toArray:=by simp
 rw[ea];exact⟨.ref _,_,I.IC (t':=s.toks) (r.append r2) (by rw[Ju];omega),rfl,q _ I.fresh⟩
def rRep:R2:=λx y H Q=> ∃l k xs,x= .ref l/\y= .int k/\H l=some (.lst xs)/\-(2 ^ 63)<=k/\k<2 ^ 63/\xs.length*k.toNat<=sizeLine ∧
 ∀p,H p=none->Q (.ref p) (upd H p (.lst (JK k.toNat xs).flatten))
theorem len_rep {α:Type}(xs:List α)(k:Nat):(JK k xs).flatten.length=k*xs.length:=by
 induction k with
 | zero=>simp
 | succ k ih=>rw[KS,LN,Ju,ih,Nat.succ_mul,Qz]
theorem Es:pj X (Lc .Mult) rRep:=by
 intro pins s σ H x y v u Q I rx ry h;obtain⟨l,k,xs,rfl,rfl,hH,h1,h2,hz,q⟩:=h;cases rx;obtain⟨t,rfl⟩:=ry;obtain⟨z,its,n,r,hl,e⟩:=I.HU hH
 have hlen:its.toArray.size*k.toNat<=sizeLine:=by rw[Jw,<-hl];exact hz
 have hcap:¬ its.toArray.size*k.toNat > (2 ^ 63 - 1) / 8:=by
  have:(sizeLine:Nat)<=(2 ^ 63 - 1) / 8:=by decide
  omega
 have hfit:¬ (!Builtin.List.listFitsIndex k)=true:=by
  rw[fitsIndex_both h1 h2];exact JP
 have hlong:¬ LK (its.toArray.size*k.toNat)=true:=by
  rw[sk hlen];exact JP
 have hnew:N3 (λx1 x2=>x1++x2) #[] (JK (if its.toArray.isEmpty=true then 0 else k.toNat) its.toArray)=(JK k.toNat its).flatten.toArray:=by
  have f0:∀m:Nat,N3 (λx1 x2=>x1++x2) #[] (JK m its.toArray)=(JK m its).flatten.toArray:=λm=>by
   have:=foldl_rep its m [];rw[LO]at this;exact this
  rw[f0]
  cases its with
  | nil=>simp
  | cons a r'=>rw[if_neg (by simp)]
 refine NU (T:="list") (U:="int") (by decide) ⟨_,e,rfl⟩ (λs'=>Pa s' k t) noFill_list_mul Ri Nn repeat_list QV.lookup
  (Nl Nn (Pa s k t) QX (Qj _ _) (int___rmul___int_list k t l its.toArray n)
   ⟨e,rfl,⟨_,e,rfl⟩,Nl F.slot_list_mul ⟨_,e,rfl⟩ F.entry_list_mul (F.args_list_mul_2 _ _) (PQ l its.toArray n k t hfit hcap hlong) ⟨e,?_⟩⟩)
 rw[hnew];exact⟨.ref _,_,I.IC (t':=s.toks) (r.rep k.toNat) (by rw[len_rep,QB];exact hz),rfl,q _ I.fresh⟩
end
end L2
namespace Att
open PySem PySem.W PySem.Calls PyProof.Rows
theorem li {P:Params}{h:Heap}:∀(ns:List Int) (vs:List Ji),WellAll P h vs (ns.map WData.int)->K7 vs ns:=by
 intro ns
 induction ns with
 | nil=>
  intro vs w;rw[ME]at w;cases w
  exact .nil
 | cons n ns ih=>
  intro vs w;rw[Jn]at w
  cases w with
  | cons a b=>
   cases a;exact .cons _ _ (ih _ b)
theorem wz {l:OpenLaw}{n:Nat}(hn:l.most=some n){P:Params}{h:Heap}{args:List WData}{vals:List Ji}
  (hpre:l.row.toRowW.claim.pre args=true) (hwl:WellAll P h vals args) :
  ∃a vs ns,vals= [Jz a]/\args= [WData.list (ns.map WData.int)]/\h.get? a=some { cls:=.type "list",data:=.seq vs.toArray }/\K7 vs ns/\ns.length<=n:=by
 have hsh:WShape.hasAll [] args [.list .int] =true:=(pre_splitW hpre).1
 have hc:l.pre.holds [] { args:=args }=true:=(pre_splitW hpre).2;obtain⟨d,r,rfl,h1,h2⟩:=hasAllW_cons hsh;obtain rfl:=hasAllW_nil h2;obtain⟨xs,rfl,h3⟩:=hasW_list h1;obtain⟨ns,rfl⟩:=items_int h3
 have hlen:ns.length<=n:=by
  unfold OpenLaw.pre at hc
  have h4:(WTm.not (.lt (.lit (.int (n:Int))) (.len (.arg 0)))).holds [] { args:=[.list (ns.map .int)] }=true:=by
   have h4:=(holds_andW hc).1;rw[hn]at h4;exact h4
  have h5:=condW_of h4 (w_not (w_lt w_lit (w_len_list (w_arg rfl))));rw[Jm]at h5;refine Oq λq=> ?_
  have q':(n:Int)<((ns.length:Nat):Int):=by omega
  first
   | (rw[decide_eq_true q']at h5;exact absurd h5 (by decide))
   | (simp at h5;omega)
 cases hwl with
 | cons w1 w2=>
  cases w2
  cases w1 with
  | list ho hall=>exact⟨_,_,ns,rfl,rfl,ho,li ns _ hall,hlen⟩
theorem wE (l:OpenLaw)(args:List WData):l.row.toRowW.claim.post args (.bool true) args=true:=
 postW_of (r:=l.row.toRowW) (X:=(true == true))
  (show WShape.has [] (.bool true) .bool=true by first | rfl | decide | simp[WShape.has,WShape.arms,WShape.armsAll])
  (show(WTm.eq .res (.lit (.bool true))).value [] { args:=args,res:=some (.bool true),after:=args }=some (.bool (true == true))from w_eq_bool (w_res rfl) w_lit) rfl
theorem attach_call {l:OpenLaw}{n:Nat}{q:JI}{loose:List Str}{XP:(Str->Option Ji)->Heap->Prop}{YP:Kn->Heap->Prop}{d:DefRec}
  (hn:l.most=some n) (hdf:d.params.defaults= [])
  (call:∀(w:Kn) (s₀ s₁:Jk) (mg mb:Str->Option Ji) (fa:Addr) (o:Obj) (pm cd doc:Ji) (a:Addr) (vs:List Ji) (ns:List Int),
   Ground q loose [] XP w s₀ mg mb s₁.heap->YP w s₁.heap →
   s₁.heap.get? fa=some o->o.data= .func (docDef d.name d.params d.body d.scope pm cd doc)->s₁.heap.CodeRec cd d.name->mg d.name=some (.ref fa) →
   s₁.heap.get? a=some { cls:=.type "list",data:=.seq vs.toArray }->K7 vs ns->ns.length<=n->s₁.gens= #[] →
   codeAny (model l.prog w) callerA (.call (.ref fa) ⟨[.ref a],[]⟩) (λr s'=>r= .ok (.ret (.bool true))/\OldK s₁.heap s'.heap/\s'.os=s₁.os/\Oi s'.gens) s₁) :
  WalkO q loose XP YP l.row.toRowW d [] (λf vs=>PySem.call f vs):=by
 intro w s₀ s₁ mg mb G Y fa o pm cd doc dV kV ho hd hcd hD hmg hg args vals as hpre hlay hrd hwl hlo;obtain rfl:dV= .none:=Dflts.none hD hdf;obtain rfl:kV= .none:=Dflts.noKw hD;obtain⟨a,vs,ns,rfl,rfl,hobj,hints,hlen⟩:=wz hn hpre hwl;refine enter_call (OV (call w s₀ s₁ mg mb fa o pm cd doc a vs ns G Y ho (fd_plain hd) hcd hmg hobj hints hlen hg) λr s' hq=> ?_)
 obtain⟨rfl,h2,h3,h4⟩:=hq;exact⟨.inl ⟨.bool true,.bool true,[],rfl,λ_=>rfl,.bool true,wE l _,λ_=>⟨MV,λ_ hm=>(nomatch hm)⟩⟩,h2,h3,h4⟩
end Att
namespace L2
open PySem PySem.Spec PyProof.Rows
theorem og:∀{vs:List Ji} {ns:List Int},K7 vs ns->Vals (ns.map V.int) vs
 | _,_,.nil=> .nil
 | _,_,.cons n t h=> .cons ⟨t,rfl⟩ (og h)
def Fy (H:Hp):Prop:=∀b,H b=none\/∃o xs,H b=some (.frz o (.lst xs))
theorem zA {P:JI}{w:Kn}{K:Jg}{mg mb:Str->Option Ji}{CX:AM}{k:Nat}{fa a:Addr}{fd:Ld}{x:Str}{sp:Sp}{s₁:Jk}{vs:List Ji}{ns:List Int}
  (KX:K.In s₁.heap) (hns:s₁.heap.Ns Kc mg) (hb:s₁.heap.Ns O9 mb) (hbb:∀x:Str,x≠ "__name__"->mb x=JT x) (hlim:s₁.heap.NoLimit) (hg:s₁.gens= #[])
  (ha:s₁.heap.get? a=some { cls:=.type "list",data:=.seq vs.toArray }) (hi:K7 vs ns) (hl:ns.length<=sizeLine) (hr:Room k callerA)
  (F:∀base:Heap,K.In base->base.Ns Kc mg->qT P w K mg base CX k fa fd [x] sp) (hbind:∀(s:Jk) (u:Ji),Qs s fd ⟨[u],[]⟩ [(x,u)])
  (hsp:∀H:Hp,Fy H->SqL K H a (ns.map V.int)->sp [.ref a] H (λv _=>v= .bl true) λ_ _ _=>False)
  (hCX:∀H e s',CX [] H s₁ (λ_ _ _=>False) e s'->False) :
  codeAny (model P w) callerA (.call (.ref fa) ⟨[.ref a],[]⟩) (λr s'=>r= .ok (.ret (.bool true))/\OldK s₁.heap s'.heap/\s'.os=s₁.os/\Oi s'.gens) s₁:=by
 have rv:=og hi
 have lenV:=hi.length
 -- from an abstract heap in which nothing but the script may be tracked
 have core:∀H:Hp,Fy H->SqL K H a (ns.map V.int)->HOk P w H s₁.heap->(∀b,H b≠none->b=a)->(H a≠none->K.lookup a=none) →
   codeAny (model P w) callerA (.call (.ref fa) ⟨[.ref a],[]⟩) (λr s'=>r= .ok (.ret (.bool true))/\OldK s₁.heap s'.heap/\s'.os=s₁.os/\Oi s'.gens) s₁:=by
  intro H hO hS hok hA hK
  have base_of:∀{b:Addr} {o:Obj},s₁.heap.get? b=some o->H b=none->(qD s₁.heap H).get? b=some o:=λe n=>zR e n
  have noA:∀{b:Addr} {o:Obj} {es:Array DictEntry} {ep:Nat},s₁.heap.get? b=some o->o.data= .dict es ep->H b=none:=λ{b o es ep} e d=>by
   cases q:H b with
   | none=>rfl
   | some u=>
    have e':b=a:=hA b (by rw[q];simp)
    subst e';rw[ha]at e;cases e
    have d':Data.seq vs.toArray _=Data.dict es ep:=d;cases d'
  have nsK:∀{b:Addr} {m:Str->Option Ji},s₁.heap.Ns b m->(qD s₁.heap H).Ns b m:=λ{b m} ⟨o,es,ep,e,d,r⟩=>⟨o,es,ep,base_of e (noA e d),d,r⟩
  have hKb:K.In (qD s₁.heap H):=λb o e=>base_of (KX b o e) (by
   cases q:H b with
   | none=>rfl
   | some u=>
    have e':b=a:=hA b (by rw[q];simp)
    subst e';rw[hK (by rw[q];simp)]at e;cases e)
  have hM:Mod K mg (qD s₁.heap H):=⟨hKb,nsK hns,⟨mb,nsK hb,hbb⟩,let ⟨mc,h1,h2⟩:=hlim;⟨mc,nsK h1,h2⟩⟩
  have e0:AI P w K mg (qD s₁.heap H) callerA [] s₁ H:=⟨rfl,hM,λb o e=>BZ e,Lj (xh _ _),trivial,λb hb=>absurd (show b∈([]:List Addr)from hb) (by simp),hok,.of_eq hg⟩
  refine OV ((F _ hKb (nsK hns)).run callerA [] s₁ H ⟨[.ref a],[]⟩ [.ref a] [.ref a] _ _ hr e0 (hbind s₁ (.ref a)) (.cons rfl .nil) (hsp H hO hS)) λr s' h=> ?_
  cases r with
  | error e=>exact(hCX H e s' h).elim
  | ok fl=>
   cases fl with
   | next=>exact Mg h
   | brk=>exact Mg h
   | cont=>exact Mg h
   | ret u=>
    obtain⟨v,H',os,bare,un,hok',r',q⟩:=h
    have q':v= .bl true:=q;subst q';obtain rfl:u=Ku true:=r';refine⟨rfl,OldK.of_keep λb o e=> ?_,os,bare⟩
    cases q:H b with
    | none=>exact un.keep b o e q (by intro z;exact absurd (show b∈([]:List Addr)from z) (by simp)) (by simp)
    | some u=>
     rcases hO b with z | ⟨ob,xs,z⟩
     ·rw[q]at z;cases z
     ·have z2:=un.frzs b ob _ z
      obtain⟨e1,_⟩:=hok b _ z;obtain⟨e2,_⟩:=hok' b _ z2;rw[e]at e1;cases e1;exact e2
 cases hk:K.lookup a with
 | some o=>
  -- the script is one of the module's own objects
  have e:=KX a o hk;rw[ha]at e;cases e
  refine core (λ_=>none) (λ_=> .inl rfl) (.inr ⟨_,vs.toArray,_,hk,rfl,rfl,rfl,by rw[Jw,lenV];exact hl,by simpa using rv⟩) (λb u z=>by have z':(none:Option HO)=some u:=z;cases z') (λb z=>absurd rfl z) λz=>absurd rfl z
 | none=>
  refine core (λb=>if b=a then some (.frz { cls:=.type "list",data:=.seq vs.toArray } (.lst (ns.map V.int)))else none) (λb=> ?_) (.inl (.inr ⟨{ cls:=.type "list",data:=.seq vs.toArray },if_pos rfl⟩)) (λb u z=> ?_) (λb z=> ?_) λ_=>hk
  ·by_cases hb:b=a
   ·exact .inr ⟨_,_,if_pos hb⟩
   ·exact .inl (if_neg hb)
  ·by_cases hb:b=a
   ·have z':=(if_pos hb).symm.trans z
    cases z';subst hb;exact⟨ha,by rw[Jm];exact hl,vs,_,rv,ha⟩
   ·have z':=(if_neg hb).symm.trans z
    cases z'
  ·by_cases hb:b=a
   ·exact hb
   ·exact absurd (if_neg hb) z
def gz (s:Stmt):Rw:=match s with
 | .FunctionDef _ a _ _ _ _ _ _ _ _=>a
 | _=> { posonlyargs:=[],args:=[],vararg:=none,kwonlyargs:=[],kw_defaults:=[],kwarg:=none,defaults:=[] }
def db (s:Stmt):List Stmt:=match s with
 | .FunctionDef _ _ b _ _ _ _ _ _ _=>b
 | _=> []
def aj (s:Stmt):Ny:=match s with
 | .FunctionDef _ _ _ _ _ _ sc _ _ _=>sc
 | _=> { kind:=.function,names:=[],isGenerator:=false,isCoroutine:=false }
abbrev CX0:AM:=λ_ _ _ _ _ _=>False
abbrev E0:XK:=λ_ _ _=>False
theorem C2 {X:Cx}:uM CX0 X E0:=λ_ _ _ _ _ _ _ h=>h.elim
structure Fun (K:Jg)(x qual:Str)(st:Stmt)(f:Addr)(fd:Ld):Prop where
 ex:∃(oc:Ji) (od:Option Addr) (kV doc pm:Ji) (an:Option Addr) (cdv ct:Ji) (osl:Array (Option Ji)),
  fd=M6 x qual (gz st) (db st) (aj st) .none kV doc pm an cdv ct/\K.lookup f=some ⟨oc,od,.func fd,osl⟩/\Pn K cdv qual=true
 kp:M4 K (.ref f)=true
section
variable {P:JI}{w:Kn}{K:Jg}{mg:Str->Option Ji}{base:Heap}
theorem Fun.ok {x qual:Str}{st:Stmt}{f:Addr}{fd:Ld}{N ps:List Str}{k:Nat}{sp:Sp}(F:Fun K x qual st f fd)(S:ax N ps (aj st))(len:∀vs H Q E,sp vs H Q E->vs.length=ps.length)
  (hbody:∀(cdv:Ji) (A:JZ) (outer:List Env) (s:Jk) (H:Hp) (vs:List V) (Q:VK) (E:XK),Room k (A.deeper (envOfC qual (aj st) s.heap.objs.size f cdv))->sp vs H Q E →
   ∃t,PSs (kE CX0 P w K mg base N qual (aj st) f cdv A outer s H E).nox (db st) t/\t { nx:=λ_ H'=>Q .non H',rt:=Q } (start N vs) H):qT P w K mg base CX0 (k+1) f fd ps sp:=by
 obtain⟨oc,od,kV,doc,pm,an,cdv,ct,osl,rfl,lk,hcd⟩:=F.ex;refine G0 lk hcd S len λA outer s H vs Q E hr hsp=> ?_
 obtain⟨t,h,q⟩:=hbody cdv A outer s H vs Q E hr hsp;exact⟨t,h.nox,q⟩
theorem Fun.binds {x qual:Str}{st:Stmt}{f:Addr}{fd:Ld}{ps:List Str}(F:Fun K x qual st f fd)
  (h:∀(kV doc pm:Ji) (an:Option Addr) (cdv ct:Ji) (us:List Ji),us.length=ps.length->bindArgs (M6 x qual (gz st) (db st) (aj st) .none kV doc pm an cdv ct) ⟨us,[]⟩=pure (ps.zip us)):Binds K fd ps []:=by
 obtain⟨oc,od,kV,doc,pm,an,cdv,ct,osl,rfl,lk,hcd⟩:=F.ex;exact .all (h kV doc pm an cdv ct)
theorem E8 {x qual:Str}{st:Stmt}{f:Addr}{oc:Ji}{od an:Option Addr}{osl:Array (Option Ji)}{kV doc pm cdv ct:Ji}(l:K.lookup f=some ⟨oc,od,.func (M6 x qual (gz st) (db st) (aj st) .none kV doc pm an cdv ct),osl⟩)
  (c:Pn K cdv qual=true) (k:M4 K (.ref f)=true):Fun K x qual st f (M6 x qual (gz st) (db st) (aj st) .none kV doc pm an cdv ct):=⟨⟨oc,od,kV,doc,pm,an,cdv,ct,osl,rfl,l,c⟩,k⟩
end
theorem iteF {A B:Prop}(h:B):if false=true then A else B:=by
 rw[if_neg JP];exact h
theorem iteT {A B:Prop}(h:A):if true=true then A else B:=by
 rw[if_pos rfl];exact h
def Same (H H':Hp):Prop:=∀b o,H b=some o->H' b=some o
theorem Same.refl (H:Hp):Same H H:=λ_ _ h=>h
theorem Same.trans {H H1 H2:Hp}(a:Same H H1)(b:Same H1 H2):Same H H2:=λc o h=>b c o (a c o h)
theorem jt {env:Env}:∀(names:List (Str×Mk)) (acc:List (Str×Addr)),
  (∀x,(x,J7)∈names->∃c,env.cells.lookup x=some c) →
  (∀x c,acc.lookup x=some c->env.cells.lookup x=some c) →
  ∃cl,(forIn (m:=Sem) names acc (λx cs=>(if (x.2 == J7)=true then do let a <-cellOf env x.1;pure (Mb ((x.1,a)::cs))else pure (Mb cs))))=pure cl ∧
   (∀x c,cl.lookup x=some c->env.cells.lookup x=some c) ∧
   (∀x,(x,J7)∈names->∃c,cl.lookup x=some c)/\(∀x c,acc.lookup x=some c->∃c',cl.lookup x=some c')
 | [],acc,_,h=>⟨acc,rfl,h,λx hx=>by simp at hx,λx c e=>⟨c,e⟩⟩
 | (n,k)::r,acc,hf,h=>by
  by_cases hk:k=J7
  ·subst hk
   obtain⟨c,hc⟩:=hf n (by simp)
   have h':∀x c',((n,c)::acc).lookup x=some c'->env.cells.lookup x=some c':=λx c' e=>by
    rw[Kt]at e
    cases q:x == n with
    | true=>
     rw[q]at e
     have e2:c=c':=JW e
     have e3:x=n:=by simpa using q
     rw[<-e2,e3];exact hc
    | false=>rw[q]at e;exact h x c' e
   obtain⟨cl,e1,e2,e3,e4⟩:=jt r ((n,c)::acc) (λx hx=>hf x (Jh _ hx)) h'
   refine⟨cl,?_,e2,λx hx=> ?_,λx c' e=> ?_⟩
   ·rw[K5]
    simp only[beq_self_eq_true,if_true,cellOf,hc,pure_bind];exact e1
   ·rcases Jp.mp hx with z | z
    ·have z1:x=n:=by injection z
     subst z1;exact e4 x c (by simp[Kt])
    ·exact e3 x z
   ·cases q:x == n with
    | true=>exact e4 x c (by simp[Kt,q])
    | false=>exact e4 x c' (by simp[Kt,q,e])
  ·have hb:(k == J7)=false:=by simpa using hk
   obtain⟨cl,e1,e2,e3,e4⟩:=jt r acc (λx hx=>hf x (Jh _ hx)) h
   refine⟨cl,?_,e2,λx hx=> ?_,e4⟩
   ·rw[K5]
    simp only[hb,JY,if_false,pure_bind];exact e1
   ·rcases Jp.mp hx with z | z
    ·have z1:J7=k:=by injection z
     exact absurd z1.symm hk
    ·exact e3 x z
theorem uF {env:Env}{scope:Ny}(hf:∀x,(x,J7)∈scope.names->∃c,env.cells.lookup x=some c) :
  ∃cl,closureFor scope env=pure cl/\(∀x c,cl.lookup x=some c->env.cells.lookup x=some c)/\(∀x,(x,J7)∈scope.names->∃c,cl.lookup x=some c):=by
 obtain⟨cl,e1,e2,e3,_⟩:=jt scope.names [] hf (λx c e=>by simp at e)
 refine⟨cl,?_,e2,e3⟩
 unfold closureFor;refine Eq.trans ?_ (congrArg (λz=>z >>= pure) e1|>.trans (by simp))
 rfl
theorem qM {pr:JI}{wd:Kn}{Ar:JZ}{Rz:Rv->Jk->Prop}{s0:Jk}{el tg it0:Expr}{cs:List Expr}{sc:Ny}{ps:Pos}{itv av:Ji}{ev:Env}(W:Nat->Jk->Prop)
  (go:∀k st,W k st->wpAny (model pr wd) Ar (pyNext itv) (λr s1=>match r with
   | none=>Rz (.ok .next) s1
   | some v=>wpAny (model pr wd) Ar (MP tg itv v) (λ_ s2=>wpAny (model pr wd) Ar (assign tg ev v) (λ_ s3=>
     wpAny (model pr wd) Ar (forIn cs true λc b=>if b=true then do let z <-isTrue c ev (eval c ev);pure (Mb z)else pure (Mb b)) (λz s4=>
      if z=true then wpAny (model pr wd) Ar (eval el ev) (λy s5=>
       wpAny (model pr wd) Ar (call (.builtin "list.append") [av,y]) (λ_ s6=> ∃m,m<k/\W m s6) (λ_ _=>False) s5) (λ_ _=>False) s4
      else ∃m,m<k/\W m s4) (λ_ _=>False) s3) (λ_ _=>False) s2) (λ_ _=>False) s1) (λ_ _=>False) st)
  (k:Nat) (hk:W k s0):codeAny (model pr wd) Ar (.compLoop (.ListComp el [⟨tg,it0,cs,0⟩] sc ps) 0 itv av ev) Rz s0:=by
 refine codeAny_loop rfl W (λk st hw=> ?_) k hk
 show wpAny (model pr wd) Ar ((compTurn (.ListComp el [⟨tg,it0,cs,0⟩] sc ps) 0 itv av ev).onRaise (λz=>do noteFrame z ev;theTreesLotGoes z)) _ _ st
 refine wpAny_noted ?_
 rw[compTurn_list]
 have no:∀{α:Type} {t:Sem α} {Q Q':α->Jk->Prop} {E':Ji->Jk->Prop} {x:Jk},wpAny (model pr wd) Ar t Q (λ_ _=>False) x->(∀y z,Q y z->Q' y z)->wpAny (model pr wd) Ar t Q' E' x:=λh f=>Lb h f λ_ _ z=>z.elim
 refine Je (P4 (Je (no (go k st hw) λr s1 g1=> ?_)))
 cases r with
 | none=>exact Jl g1
 | some v=>
  refine Je (no g1 λ_ s2 g2=>Je (no g2 λ_ s3 g3=>Je (no g3 λz s4 g4=> ?_)))
  cases z with
  | false=>exact Jl (And.intro rfl g4)
  | true=>exact Je (Je (no g4 λy s5 g5=>Je (no g5 λ_ s6 g6=>Jl (Jl (And.intro rfl g6)))))
def cq (X:Cx)(scope:Ny)(cl:List (Str×Addr))(N':List Str)(C:Addr)(s₀:Jk)(H₀:Hp)(fp:List Addr):Cx:=
 { X with N:=N',s₀:=s₀,H₀:=H₀,env:=compEnvC scope cl C X.env,outer:=X.stack,stack:=X.stack,ex:=fp,fn:=λx=>scope.names.lookup x == some .cell,xe:=λ_ _=>False }
def eU (src:List (Option Nat))(σ:St):St:=src.map λo=>match o with
 | some i=>(σ[i]?).join
 | none=>none
theorem ig {env:Env}:∀{names:List (Str×Mk)} {x:Str} {k:Mk},
  (names.map λ(n,k)=>if (k == J7&&env.scope.kind == .function&&env.kindOf n == some .cell)then(n,KN)else(n,k)).lookup x=some k →
  ∃k',names.lookup x=some k'/\(k=k'\/k'= .free)
 | [],_,_,h=>by simp at h
 | (n,k0)::r,x,k,h=>by
  have ih:=@ig env r x k
  have h':MX x ((if (k0 == J7&&env.scope.kind == .function&&env.kindOf n == some .cell)=true then(n,KN)else(n,k0))::(r.map λ(n,k)=>if (k == J7&&env.scope.kind == .function&&env.kindOf n == some .cell)then(n,KN)else(n,k)))=some k:=h
  by_cases hc:(k0 == J7&&env.scope.kind == .function&&env.kindOf n == some .cell)=true
  ·rw[if_pos hc]at h'
   rw[Kt]at h' ⊢
   cases hx:x == n with
   | true=>
    refine⟨k0,rfl,.inr ?_⟩
    have:=Li.mp hc|>.1
    have:=Li.mp this|>.1
    simpa using this
   | false=>rw[hx]at h';exact ih h'
  ·rw[if_neg hc]at h'
   rw[Kt]at h' ⊢
   cases hx:x == n with
   | true=>rw[hx]at h';exact⟨k0,rfl,.inl (JW h').symm⟩
   | false=>rw[hx]at h';exact ih h'
theorem iI {names:List (Str×Mk)}{x:Str}{k:Mk}(h:names.lookup x=some k):(x,k)∈names:=Ln h
theorem gS {env:Env}:∀{names:List (Str×Mk)} {x:Str},names.lookup x=some .free →
  (names.map λ(n,k)=>if (k == J7&&env.scope.kind == .function&&env.kindOf n == some .cell)then(n,KN)else(n,k)).lookup x=some .cell ∨
  (names.map λ(n,k)=>if (k == J7&&env.scope.kind == .function&&env.kindOf n == some .cell)then(n,KN)else(n,k)).lookup x=some .free
 | [],_,h=>by simp at h
 | (n,k0)::r,x,h=>by
  have ih:=@gS env r x
  show MX x ((if (k0 == J7&&env.scope.kind == .function&&env.kindOf n == some .cell)=true then(n,KN)else(n,k0))::_)=_\/MX x ((if (k0 == J7&&env.scope.kind == .function&&env.kindOf n == some .cell)=true then(n,KN)else(n,k0))::_)=_
  rw[Kt]at h
  by_cases hc:(k0 == J7&&env.scope.kind == .function&&env.kindOf n == some .cell)=true
  ·rw[if_pos hc]
   rw[Kt]
   cases hx:x == n with
   | true=>exact .inl rfl
   | false=>rw[hx]at h;exact ih h
  ·rw[if_neg hc]
   rw[Kt]
   cases hx:x == n with
   | true=>rw[hx]at h;exact .inr h
   | false=>rw[hx]at h;exact ih h
section
variable {X:Cx}
structure LcScope (X:Cx)(scope:Ny)(N':List Str)(src:List (Option Nat)):Prop where
 kind:scope.kind= .function
 cel:∀y∈scope.names,y.2= .cell->scope.names.lookup y.1=some .cell
 loc:∀y∈scope.names,y.2= .local->scope.names.lookup y.1=some .local
 len:src.length=N'.length
 from_:∀(j i:Nat) (x:Str),src[j]? =some (some i)->N'[j]? =some x->X.N[i]? =some x/\scope.names.lookup x=some .free
 free:∀x,(x,J7)∈scope.names->X.env.kindOf x=some .cell\/X.env.kindOf x=some .free
def FP (K:Jg)(wi:TI)(src:List (Option Nat))(g:TG)(tc:TT)(te:TE):TE:=λσ H Q=>wi σ H λJ H1=> ∀D,H1 D=none->K.lookup D=none →
 ∃W:Nat->Nat->St->List V->Hp->Prop,(∃m,W 0 m (eU src σ) [] (upd H1 D (.lst [])))/\∀i m σ ys H,W i m σ ys H->H D=some (.lst ys) ∧
  ((J.stop i H/\Q (.ref D) H)\/(J.go i H/\ys.length<sizeLine/\∀x H',J.yld i H x H'->g x σ H' λσ2 H2=>tc σ2 H2 λb H3=>
   if b=true then te σ2 H3 λv H4=>H4 D=some (.lst ys)/\∃m',m'<m/\W (i+1) m' σ2 (ys++ [v]) (upd H4 D (.lst (ys++ [v])))else ∃m',m'<m/\W (i+1) m' σ2 ys H3))
def xN (X:Cx)(ifs:List Expr)(t:TT):Prop:=
 ∀(pins:List (Addr×Obj)) (s:Jk) (σ:St) (H:Hp) (Q:Bool->Hp->Prop),Inv X pins σ H s->t σ H Q →
  wpAny (model X.prog X.w) X.A (forIn ifs true λc r=>if r=true then do let ok <-isTrue c X.env (eval c X.env);pure (Mb ok)else pure (Mb r)) (TP X pins σ Q) X.xe s
def FJ:TT:=λ_ H Q=>Q true H
theorem BL:xN X [] FJ:=λ_ _ _ H _ I h=>wpAny_tests_nil ⟨H,I,h⟩
theorem BK {c:Expr}{t:TT}(h:PT X c t):xN X [c] t:=λpins s σ H Q I q=>wpAny_tests_one (h pins s σ H Q I q)
theorem kF:∀(names:List (Str×Mk)) (h:Heap) (acc:List (Str×Addr)),(∀x y c,acc.lookup x=some c->acc.lookup y=some c->x=y)->(∀x c,acc.lookup x=some c->c<h.objs.size) →
  (∀x c,(L5 h.objs.size names acc).lookup x=some c->acc.lookup x=some c\/(h.objs.size<=c/\(OY h names).IsCell c none)) ∧
  (∀x y c,(L5 h.objs.size names acc).lookup x=some c->(L5 h.objs.size names acc).lookup y=some c->x=y) ∧
  (∀x,(x,KN)∉names->(L5 h.objs.size names acc).lookup x=acc.lookup x) ∧
  (∀x,((x,KN)∈names\/∃c,acc.lookup x=some c)->∃c,(L5 h.objs.size names acc).lookup x=some c) ∧
  (∀x c,(x,KN)∈names->(L5 h.objs.size names acc).lookup x=some c->h.objs.size<=c)
 | [],h,acc,hi,_=>⟨λ_ _ e=> .inl e,hi,λ_ _=>rfl,λx e=>e.elim (λz=>absurd z JN) id,λ_ _ z=>absurd z JN⟩
 | (n,k)::r,h,acc,hi,hl=>by
  unfold L5 OY
  by_cases hk:k= .cell
  ·subst hk
   rw[if_pos (by rfl),if_pos (by rfl)]
   have hz:(h.push { cls:=.type "cell",data:=.cell none }).objs.size=h.objs.size+1:=J0 ..
   have lk:∀x,((n,h.objs.size)::acc).lookup x=if x=n then some h.objs.size else acc.lookup x:=λx=>by
    rw[Kt]
    by_cases e:x=n
    ·rw[if_pos e,beq_iff_eq.mpr e]
    ·rw[if_neg e,beq_eq_false_iff_ne.mpr e]
   obtain⟨c1,c2,c3,c4,c5⟩:=kF r (h.push { cls:=.type "cell",data:=.cell none }) ((n,h.objs.size)::acc) (λx y c e1 e2=>by
     rw[lk]at e1 e2
     by_cases q1:x=n
     ·by_cases q2:y=n
      ·rw[q1,q2]
      ·rw[if_pos q1]at e1;rw[if_neg q2]at e2
       cases e1;exact absurd (hl _ _ e2) (JJ _)
     ·rw[if_neg q1]at e1
      by_cases q2:y=n
      ·rw[if_pos q2]at e2
       cases e2;exact absurd (hl _ _ e1) (JJ _)
      ·rw[if_neg q2]at e2;exact hi x y c e1 e2) (λx c e=>by
     rw[lk]at e;rw[hz]
     by_cases q:x=n
     ·rw[if_pos q]at e;cases e;exact QY _
     ·rw[if_neg q]at e;exact KU (hl x c e))
   rw[hz]at c1 c2 c3 c4 c5;refine⟨λx c e=> ?_,c2,λx hx=> ?_,λx hx=> ?_,λx c hx e=> ?_⟩
   ·rcases c1 x c e with z | z
    ·rw[lk]at z
     by_cases q:x=n
     ·rw[if_pos q]at z;cases z
      exact .inr ⟨Jv _,_,OZ r _ _ _ (Js _ rfl),rfl⟩
     ·rw[if_neg q]at z;exact .inl z
    ·exact .inr ⟨Mh z.1,z.2⟩
   ·rw[c3 x λz=>hx (Jh _ z),lk,if_neg λz=>hx (by rw[z];exact Jj)]
   ·refine c4 x ?_
    rcases hx with hx | hx
    ·rcases Jp.mp hx with z | z
     ·cases z
      exact .inr ⟨_,by rw[lk,if_pos rfl]⟩
     ·exact .inl z
    ·by_cases q:x=n
     ·exact .inr ⟨_,by rw[lk,if_pos q]⟩
     ·exact .inr (by rw[lk,if_neg q];exact hx)
   ·rcases Jp.mp hx with z | z
    ·have q:x=n:=(Rg z).1
     rcases c1 x c e with y | y
     ·rw[lk,if_pos q]at y;cases y;exact Jv _
     ·exact Mh y.1
    ·exact Mh (c5 x c z e)
  ·have hb:¬ (k == KN)=true:=λz=>hk (by simpa using z)
   rw[if_neg hb,if_neg hb];obtain⟨c1,c2,c3,c4,c5⟩:=kF r h acc hi hl;exact⟨c1,c2,λx hx=>c3 x λz=>hx (Jh _ z),λx hx=>c4 x (hx.imp (λz=>(Jp.mp z).resolve_left λz=>hk (Rg z).2.symm) id),λx c hx=>c5 x c ((Jp.mp hx).resolve_left λz=>hk (Rg z).2.symm)⟩
theorem wR {M:Model}{A:JZ}{E:Ji->Jk->Prop}{s:Jk}{scope:Ny}{globals:Addr}{cl:List (Str×Addr)}{qual:Str}{env:Env}{Q:Env->Jk->Prop}
  (q:Q (newEnv scope s.heap.objs.size globals (L5 (s.heap.objs.size+1) scope.names cl) qual none .none (some env) O9) { s with heap:=OY (s.heap.push { cls:=.type "dict",data:=.dict #[] }) scope.names }) :
  wpAny M A (newFunctionEnv scope globals cl [] qual none .none (some env)) Q E s:=by
 simp only[newFunctionEnv,PR,if_true];refine Je (wpAny_alloc (Je (wpAny_layCells _ (λname kind cells=>by cases hkc:kind == KN <;> simp[hkc]) _ _ _ _ ?_)))
 rw[show({ s with heap:=s.heap.push { cls:=.type "dict",data:=.dict #[] } }:Jk).heap.objs.size=s.heap.objs.size+1 from J0 ..]
 rw[Lk];exact Je (Jl (Jl q))
theorem vE {elt tg iter:Expr}{ifs:List Expr}{scope:Ny}{pos fpos:Pos}{N':List Str}{src:List (Option Nat)}{wi:TI}{g:TG}{tc:TT}{te:TE}{use:Option (Ji->Sem Unit)}{Qf:Ji->Jk->Prop}
  {pins:List (Addr×Obj)} {s:Jk} {σ:St} {H:Hp} {Q:VK}
  (hc:X.calm=true) (S:LcScope X scope N' src) (hi:PI X tg iter wi)
  (block:∀cl C s₀ H₀ fp,PG (cq X scope cl N' C s₀ H₀ fp) tg g/\xN (cq X scope cl N' C s₀ H₀ fp) ifs tc/\PE (cq X scope cl N' C s₀ H₀ fp) elt te)
  (hs:∀x,Ky iter X.env x=pure x) (I:Inv X pins σ H s) (h:FP X.K wi src g tc te σ H Q)
  (hend:∀(D C:Addr) (H':Hp) (s':Jk),(∃m,s'.heap.Ns C m)->(∀h',MD C s'.heap h'->Inv X pins σ H' { s' with heap:=h' })->(H' C=none/\C≠X.env.locals/\X.s₀.heap.objs.size<=C/\(∀x c,X.env.cells.lookup x=some c->c≠C)/\∀p∈X.pn++pins,p.1≠C)->Q (.ref D) H' →
   compPost (model X.prog X.w) X.A X.xe use Qf (.ref D) C (.ok .next) s') :
  wpAny (model X.prog X.w) X.A (comprehension (.ListComp elt [⟨tg,iter,ifs,0⟩] scope pos) scope X.env fpos (newList []) false (eval iter X.env) use) Qf X.xe s:=by
 have hcell:∀x,(x,J7)∈scope.names->∃c,X.env.cells.lookup x=some c:=λx hx=>I.ok.has x (S.free x hx)
 obtain⟨cl0,hcl,cl01,cl02⟩:=uF (env:=X.env) (scope:=scope) hcell;refine wpAny_comprehension_free (use:=use) rfl hs hcl S.kind S.loc (cg (hi pins s σ H _ I h) λv s1 h1=>cg h1 λitv s2 h2=> ?_)
 obtain⟨it,fp,tn,J,H2,e,I2,T,st2,f2,hq⟩:=h2;subst e
 -- the new list
 refine KM ?_
 have hD:H2 s2.heap.objs.size=none:=I2.hok.fresh (Jv _)
 have hDK:X.K.lookup s2.heap.objs.size=none:=by
  cases q:X.K.lookup s2.heap.objs.size with
  | none=>rfl
  | some o=>exact absurd (Jr (I2.kIn _ o q)) (JJ _)
 obtain⟨W,⟨m0,w0⟩,turn⟩:=hq s2.heap.objs.size hD hDK
 have I3:=I2.IC (its:=[]) (ys:=[]) (t':=s2.toks) .nil (KA _)
 generalize hs3:({ s2 with heap:=s2.heap.push { cls:=.type "list",data:=.seq ([]:List Ji).toArray },toks:=s2.toks }:Jk)=s3 at I3
 generalize hH3:upd H2 s2.heap.objs.size (.lst [])=H3 at I3 w0
 have hDsz:s2.heap.objs.size<s3.heap.objs.size:=by rw[<-hs3];simp[J0]
 have fr3:∀b∈fp,H3 b=none:=λb hb=>by
  obtain⟨o,eo,_⟩:=T.obj _ _ st2 b hb;rw[<-hH3,aJ (JR (Jr eo))];exact(f2 b hb).1
 have st3:tn 0 s3.heap:=T.keep _ _ _ st2 λb hb o e=>by rw[<-hs3];exact Jf _ e
 have f3:∀b∈fp,j8 X pins H3 b:=λb hb=>⟨fr3 b hb,(f2 b hb).2⟩
 have D3:H3 s2.heap.objs.size=some (.lst []):=by rw[<-hH3];exact aP
 generalize s2.heap.objs.size=D at*
 clear hs3 hH3 hD hDK
 -- the block's frame
 refine wR ?_
 have old:∀b o,s3.heap.get? b=some o->(OY (s3.heap.push { cls:=.type "dict",data:=.dict #[] }) scope.names).get? b=some o:=λb o e=>OZ _ _ b o (Jf _ e)
 have hns₁:(OY (s3.heap.push { cls:=.type "dict",data:=.dict #[] }) scope.names).Ns s3.heap.objs.size (λ_=>none):=(Heap.Ns.new s3.heap (.type "dict")).keeps (OZ _ _)
 have hz3:(s3.heap.push { cls:=.type "dict",data:=.dict #[] }).objs.size=s3.heap.objs.size+1:=J0 ..
 have lt0:∀x c,cl0.lookup x=some c->c<s3.heap.objs.size:=λx c e=>let ⟨_,ic⟩:=I3.cell x c (cl01 x c e);ic.lt
 obtain⟨c1,c2,c3,c4,c5⟩:=kF scope.names (s3.heap.push { cls:=.type "dict",data:=.dict #[] }) cl0 (λx y c e1 e2=>I3.ok.inj x y c (cl01 x c e1) (cl01 y c e2)) λx c e=>by rw[hz3];exact KU (lt0 x c e)
 rw[hz3]at c1 c2 c3 c4 c5
 generalize hcl':L5 (s3.heap.objs.size+1) scope.names cl0=cl at*
 generalize hh₁:OY (s3.heap.push { cls:=.type "dict",data:=.dict #[] }) scope.names=h₁ at*
 have below:∀b o,s3.heap.get? b=some o->b≠s3.heap.objs.size:=λb o e=>JR (Jr e)
 -- a cell of the block's: one from around,or a new one
 have cl1:∀x c,cl.lookup x=some c->X.env.cells.lookup x=some c\/(s3.heap.objs.size<c/\h₁.IsCell c none):=λx c e=>(c1 x c e).imp (cl01 x c) id
 generalize hC:s3.heap.objs.size=C at*
 have stk:∀b,b≠X.env.locals->b∉X.fs->b∉qE X.stack:=λb h1 h2 z=>(Jp.mp (I3.Ie b z)).elim h1 h2
 have apart:∀b∈fp,∀x c,cl.lookup x=some c->c≠b:=λb hb x c e=>by
  rcases cl1 x c e with z | z
  ·exact(f3 b hb).2.2.2.2.1 x c z
  ·obtain⟨o,eo,_⟩:=T.obj _ _ st3 b hb
   have h1:=Jr eo;rw[hC]at h1;exact Lv (OI h1 z.1)
 have I4:Inv (cq X scope cl N' C s3 H3 fp) pins (eU src σ) H3 { s3 with heap:=h₁ }:=by
  refine⟨⟨I3.ok.mod,S.kind,I3.ok.glob,I3.ok.blt,Lj hC,c2,λx hx=> ?_,λx c hx e=>KD (hC▸c5 x c (iI (beq_iff_eq.mp hx)) e),I3.ok.hd,I3.ok.frames,.inl rfl,
    λb hb=>⟨?_,λx c e=>apart b hb x c e⟩,I3.bs,JQ I3.ok.bsz I3.sz,λb o e z=> ?_,λb hb=>stk b (f3 b hb).2.1 (f3 b hb).2.2.1,I3.stack,I3.HZ⟩,
   rfl,I3.bare,Un.kept old,⟨_,hns₁,λj x v e1 e2 e3=> ?_⟩,λx c e=> ?_,I3.hok.fresh (Lj hC),λx c e=>(cl1 x c e).elim (I3.freeC x c) λz=>I3.hok.fresh (by rw[hC];exact KD z.1),λp hp=> ?_,I3.hok.kept old,?_⟩
  ·have key:∀k,(relabel scope X.env).names.lookup x=some k->(k= .cell\/k= .free)->∃c,cl.lookup x=some c:=λk e hk=>by
    obtain⟨k',e',z⟩:=ig e
    have hk':k'= .cell\/k'= .free:=z.elim (λz=>z▸hk) .inr
    rcases hk' with q | q
    ·exact c4 x (.inl (q▸iI e'))
    ·exact c4 x (.inr (cl02 x (q▸iI e')))
   rcases hx with hx | hx
   ·exact key _ hx (.inl rfl)
   ·exact key _ hx (.inr rfl)
  ·obtain⟨o,eo,_⟩:=T.obj _ _ st3 b hb
   show b≠C
   exact below b o eo
  ·have z':b∈fp:=z
   obtain⟨_,_,_,z1,_⟩:=f3 b z';rcases z1 with z1 | z1
   ·exact I3.ok.noex b o e z1
   ·exact absurd (Jt (Jr (I3.ok.bs b o e).1) z1) (JJ _)
  ·unfold eU at e2
   rw[JG]at e2
   cases q:src[j]? with
   | none=>rw[q]at e2;simp at e2
   | some o=>
    rw[q]at e2
    cases o with
    | none=>simp at e2
    | some i=>
     have e2':(σ[i]?).join=some v:=by simpa using e2
     have e2'':σ[i]? =some (some v):=by
      cases q2:σ[i]? with
      | none=>rw[q2]at e2';simp at e2'
      | some z=>rw[q2]at e2';simp at e2';rw[e2']
     obtain⟨hN,hfree⟩:=S.from_ j i x q e1
     have hm:=iI hfree
     have hk:=S.free x hm;obtain⟨m,hn,hl⟩:=I3.loc
     have hv:xG X.env.scope x:=by
      rcases hk with z | z
      ·exact .inr (.inl z)
      ·exact .inr (.inr z)
     obtain⟨u,r,l⟩:=hl i x v hN e2'' hv;refine⟨u,r,.inr ⟨?_,?_⟩⟩
     ·exact gS hfree
     ·rcases l with⟨z,_⟩ | ⟨_,c,ec,ic⟩
      ·rcases hk with z' | z' <;> rw[z']at z <;> cases z
      ·obtain⟨c',ec0⟩:=cl02 x hm
       have ec':cl.lookup x=some c':=(c3 x λz=>by have:=S.cel _ z rfl;rw[hfree]at this;cases this).trans ec0
       have:=cl01 x c' ec0;rw[ec]at this;cases this;obtain⟨o,ho,hd⟩:=ic;exact⟨c,ec',o,old _ _ ho,hd⟩
  ·rcases cl1 x c e with z | z
   ·obtain⟨v,o,ho,hd⟩:=I3.cell x c z
    exact⟨v,o,old _ _ ho,hd⟩
   ·exact⟨none,z.2⟩
  ·obtain⟨e,n,ne,nf,d⟩:=I3.pin p hp
   exact⟨old _ _ e,n,below _ _ e,stk _ ne nf,d⟩
  ·show(eU src σ).length=N'.length
   unfold eU;rw[Jm];exact S.len
 obtain⟨bG,bI,bE⟩:=block cl C s3 H3 fp
 have stat:∀{H':Hp},(∀b∈fp,H' b=none)->∀b∈fp,j8 (cq X scope cl N' C s3 H3 fp) pins H' b:=λhn b hb=>by
  obtain⟨o,eo,_⟩:=T.obj _ _ st3 b hb;exact⟨hn b hb,below b o eo,stk b (f3 b hb).2.1 (f3 b hb).2.2.1,.inl hb,apart b hb,(f3 b hb).2.2.2.2.2⟩
 have st4:tn 0 h₁:=T.keep _ _ _ st3 λb hb o e=>old b o e
 -- behind the block
 have after:∀(H':Hp) (s':Jk) (σ':St),Inv (cq X scope cl N' C s3 H3 fp) pins σ' H' s'->Q (.ref D) H' →
   compPost (model X.prog X.w) X.A X.xe use Qf (.ref D) C (.ok .next) s':=λH' s' σ' I' q=>by
  obtain⟨m,hn,_⟩:=id I'.loc
  have fC:X.s₀.heap.objs.size<=C:=by rw[<-hC];exact I3.sz
  have ltC:∀b o,s3.heap.get? b=some o->b<C:=λb o e=>by rw[<-hC];exact Jr e
  refine hend D C H' s' ⟨m,hn⟩ (λh' hsb=> ?_) ⟨I'.free,?_,fC,λx c e z=> ?_,λp hp z=> ?_⟩ q
  rotate_left
  ·have:=I3.lt;rw[hC]at this;exact Lv this
  ·obtain⟨v,ic⟩:=I3.cell x c e
   have:=ic.lt;rw[hC,z]at this;exact JJ _ this
  ·have:=ltC _ _ (I3.pin p hp).1;rw[z]at this;exact JJ _ this
  have u:Un (qE X.stack) fp H3 H' s3.heap s'.heap:=I'.base
  have lift:∀b o,s3.heap.get? b=some o->∀o',s'.heap.get? b=some o'->h'.get? b=some o':=λb o e o' e'=>hsb.extBut b o' (below b o e) e'
  have u':Un (qE X.stack) fp H3 H' s3.heap h':=
   ⟨λb o e n hb hx=>lift b o e o (u.keep b o e n hb hx),λb o e n hb hx=>by
     obtain⟨sl,z⟩:=u.slot b o e n hb hx;exact⟨sl,lift b o e _ z⟩,u.free,λb o e hx=>by
     obtain⟨o',z⟩:=u.there b o e hx;exact⟨o',lift b o e _ z⟩,u.tups,u.frzs,u.tbls⟩
  have hCn:H' C=none:=I'.free
  have hok':HOk X.prog X.w H' h':=λb ob e=>by
   refine(I'.hok b ob e).HW (λc w' hc' q'=>(hsb.2 c ?_).trans q') (λ_ q=>q) λ_ _ q=>q
   rintro rfl
   rcases hc' with rfl | hc'
   ·rw[hCn]at e;cases e
   ·rw[hCn]at hc';cases hc'
  have I5:Inv X pins σ H' { s' with heap:=h' }:=I3.Ir (s':={ s' with heap:=h' }) (ch:=fp) I'.os u' hok' I'.bare λb hb=>⟨(f3 b hb).2.2.2.1,(f3 b hb).2.1,(f3 b hb).2.2.2.2.1,(f3 b hb).2.2.2.2.2⟩
  exact I5
 have loop:codeAny (model X.prog X.w) X.A (.compLoop (.ListComp elt [⟨tg,iter,ifs,0⟩] scope pos) 0 (.ref it) (.ref D) (compEnvC scope cl C X.env))
   (compPost (model X.prog X.w) X.A X.xe use Qf (.ref D) C) { s3 with heap:=h₁ }:=by
  refine qM (λn s'=> ∃i σ' ys H',Inv (cq X scope cl N' C s3 H3 fp) pins σ' H' s'/\tn i s'.heap/\(∀b∈fp,H' b=none)/\W i n σ' ys H') ?_ m0 ⟨0,_,[],H3,I4,st4,fr3,w0⟩
  rintro n s5 ⟨i,σ5,ys,H5,I5,st5,fr5,w5⟩
  obtain⟨hDl,alt⟩:=turn i n σ5 ys H5 w5;rcases alt with⟨stop,qn⟩ | ⟨go,hlen,step⟩
  ·refine cg (T.done (cq X scope cl N' C s3 H3 fp) rfl rfl rfl hc i pins s5 σ5 H5 _ I5 (stat fr5) st5 stop) λr s6 ⟨hr,I6⟩=> ?_
   subst hr;exact after H5 s6 σ5 I6 qn
  ·refine cg (T.item (cq X scope cl N' C s3 H3 fp) rfl rfl rfl hc i pins s5 σ5 H5 _ I5 (stat fr5) st5 go) λr s6 ⟨u,hr,h6⟩=> ?_
   subst hr;refine cg h6 λ_ s7 hh_=> ?_
   obtain⟨x,H7,I7,r7,y7,st7,fr7⟩:=hh_
   have I7':=I7.pinned (stat fr7) (T.obj _ _ st7);refine cg (bG _ s7 σ5 H7 x u _ I7' r7 (step x H7 y7)) λ_ s8 hh_=> ?_
   obtain⟨σ8,H8,I8,q8⟩:=hh_;refine cg (bI _ s8 σ8 H8 _ I8 q8) λok s9 hh_=> ?_
   obtain⟨H9,I9,q9⟩:=hh_
   have again:∀{σx:St} {Hx:Hp} {sx:Jk} {ys':List V},Inv (cq X scope cl N' C s3 H3 fp) (pins++lW fp s7.heap) σx Hx sx->(∃m',m'<n/\W (i+1) m' σx ys' Hx) →
     ∃m,m<n/\∃i σ' ys H',Inv (cq X scope cl N' C s3 H3 fp) pins σ' H' sx/\tn i sx.heap/\(∀b∈fp,H' b=none)/\W i m σ' ys H':=λ{σx Hx sx ys'} Ix nx=>by
    obtain⟨m',hm,wx⟩:=nx;refine⟨m',hm,i+1,σx,ys',Hx,Ix.HN,T.keep _ _ _ st7 λb hb o e=>(Ix.pin (b,o) (JD _ (JD _ (gt hb e)))).1,λb hb=> ?_,wx⟩
    obtain⟨o,e,d⟩:=T.obj _ _ st7 b hb;exact(Ix.pin (b,o) (JD _ (JD _ (gt hb e)))).2.1
   cases ok with
   | false=>
    rw[if_neg JP]at q9 ⊢
    exact again I9 q9
   | true=>
    rw[if_pos rfl]at q9 ⊢;refine cg (bE _ s9 σ8 H9 _ I9 q9) λv s10 hh_=> ?_
    obtain⟨y,H10,I10,r10,hD10,q10⟩:=hh_;refine cg (oK _ s10 σ8 H10 (.ref D) [y] (.ref D) [v] (λ_ H'=>H'=upd H10 D (.lst (ys++ [y]))) I10 rfl (.cons r10 .nil) ⟨D,ys,y,rfl,rfl,hD10,hlen,rfl⟩) λ_ s11 hh_=> ?_
    obtain⟨_,H11,I11,_,e11⟩:=hh_;subst e11;exact again I11 q10
 exact codeAny_compStart_list loop (T.self _ 0 _ _ _ st4 loop)
theorem yQ {elt tg iter:Expr}{ifs:List Expr}{scope:Ny}{pos:Pos}{N':List Str}{src:List (Option Nat)}{wi:TI}{g:TG}{tc:TT}{te:TE}
  (hc:X.calm=true) (S:LcScope X scope N' src) (hi:PI X tg iter wi)
  (block:∀cl C s₀ H₀ fp,PG (cq X scope cl N' C s₀ H₀ fp) tg g/\xN (cq X scope cl N' C s₀ H₀ fp) ifs tc/\PE (cq X scope cl N' C s₀ H₀ fp) elt te)
  (hs:∀x,Ky iter X.env x=pure x:=by intro _;rfl) :
  PE X (.ListComp elt [⟨tg,iter,ifs,0⟩] scope pos) (FP X.K wi src g tc te):=by
 intro pins s σ H Q I h;rw[eval_ListComp];exact vE (use:=none) hc S hi block hs I h λD C H' s' ⟨m,hn⟩ inv _ q=>⟨m,hn,λh' hsb=>⟨.ref D,H',inv h' hsb,rfl,q⟩⟩
theorem Gp {elt tg iter:Expr}{ifs:List Expr}{scope:Ny}{pos py spos:Pos}{N':List Str}{src:List (Option Nat)}{wi:TI}{g:TG}{tc:TT}{te:TE}{i:Nat}{y:Str}
  (hc:X.calm=true) (S:LcScope X scope N' src) (hi:PI X tg iter wi)
  (block:∀cl C s₀ H₀ fp,PG (cq X scope cl N' C s₀ H₀ fp) tg g/\xN (cq X scope cl N' C s₀ H₀ fp) ifs tc/\PE (cq X scope cl N' C s₀ H₀ fp) elt te)
  (hN:X.N.Nodup) (hiy:X.N[i]? =some y) (hy:Loc X.env.scope y) (hsw:KP (.ListComp elt [⟨tg,iter,ifs,0⟩] scope pos) (some (.Name y py)) spos.line X.env=pure true)
  (hf:X.fn y=true\/X.env.scope.names.lookup y=some .local) (hs:∀x,Ky iter X.env x=pure x:=by intro _;rfl) :
  PS X (.Assign [.Name y py] (.ListComp elt [⟨tg,iter,ifs,0⟩] scope pos) spos) (A7 (FP X.K wi src g tc te) (zV i)):=by
 intro pins s σ H D I h;rw[exec_Assign_Name_used _ _ _ _ hsw];refine Je (P4 (Je ?_))
 show wpAny (model X.prog X.w) X.A (do let _ <-comprehension (.ListComp elt [⟨tg,iter,ifs,0⟩] scope pos) scope X.env _ (newList []) false (eval iter X.env) (some (assign (.Name y py) X.env))) _ _ s
 refine Je (cg (vE (use:=some (assign (.Name y py) X.env)) (Qf:=λ_ s'=>SP X pins D .next s') (Q:=λv H'=>D.nx (σ.set i (some v)) H') hc S hi block hs I h λL C H' s' ⟨m,hn⟩ inv ⟨c0,c1,c2,c3,c4⟩ q=> ?_) λ_ s' hq=>Jl (Jl hq))
 have I0:Inv X pins σ H' s':=inv s'.heap (Heap.SameBut.refl ..)
 show wpAny (model X.prog X.w) X.A (assign (.Name y py) X.env (.ref L)) _ _ s'
 refine Qr (ol I0 hN hiy hy (v:=.ref L) rfl (λs2 I2 ⟨b,sb,hb⟩=> ?_) hf)
 have hbC:C≠b:=by
  rcases hb with z | z
  ·rw[z];exact c1
  ·exact λw=>c3 y b z w.symm
 refine⟨m,hn.sameBut sb hbC,λh' hsb=> ?_⟩
 exact⟨_,H',I2.turned (t':=s2.toks) (λb' o hb' e=>(hsb.2 b' hb').trans e) c0 c1 (.inr c2) c3 c4,q⟩
end
end L2
namespace Tr
open PySem PySem.Spec PyProof.Rows L2
inductive T where
 | non | bl (b:Bool) | int (i:Int) | str (x:Str) | tup (l:List T) | lst (l:List T)
 /-- the law's script: a list of ints that is only read -/
 | scr (l:List Int)
 /-- a dict: its keys,its values -/
 | dct (ks vs:List T)
def C5:T->Option Key
 | .int i=>some (.inl i)
 | .str x=>some (.inr x)
 | _=>none
def mG:List T->Option (List Key)
 | [] =>some []
 | t::l=>match C5 t,mG l with
  | some k,some r=>some (k::r)
  | _,_=>none
def keyOf:T->Option (List Key)
 | .tup l=>mG l
 | _=>none
inductive Rs (α:Type) where
 | ok (a:α) | err (c:Str) | bad
def Rs.bind {α β:Type}(x:Rs α)(f:α->Rs β):Rs β:=match x with
 | .ok a=>f a
 | .err c=> .err c
 | .bad=> .bad
instance:Monad Rs where
 pure:=Rs.ok
 bind:=Rs.bind
@[simp] theorem aE {α β:Type} (a:α) (f:α->Rs β):(Rs.ok a >>= f)=f a:=rfl
@[simp] theorem Hm {α:Type} (a:α):(pure a:Rs α)=Rs.ok a:=rfl
@[simp] theorem G6 {α β:Type} (f:α->Rs β):((Rs.bad:Rs α) >>= f)= .bad:=rfl
@[simp] theorem G2 {α β:Type} (c:Str) (f:α->Rs β):((Rs.err c:Rs α) >>= f)= .err c:=rfl
abbrev Ow:=Addr->Prop
mutual
def Rep (K:Jg)(O:Ow)(H:Hp):T->V->Prop
 | .non,v=>v= .non
 | .bl b,v=>v= .bl b
 | .int i,v=>v= .int i
 | .str x,v=>v= .str x
 | .tup l,v=> ∃a vs,v= .ref a/\¬ O a/\H a=some (.tup vs)/\Reps K O H l vs
 | .lst l,v=> ∃a vs,v= .ref a/\¬ O a/\H a=some (.lst vs)/\Reps K O H l vs
 | .scr l,v=> ∃a,v= .ref a/\¬ O a/\SqL K H a (l.map V.int)
 | .dct ks ts,v=> ∃a kvs,v= .ref a/\¬ O a/\Rd H a (.dT kvs)/\ks.map keyOf=kvs.map (λp=>some p.1)/\Reps K O H ts (kvs.map (·.2))
def Reps (K:Jg)(O:Ow)(H:Hp):List T->List V->Prop
 | [],vs=>vs= []
 | t::r,vs=> ∃v ws,vs=v::ws/\Rep K O H t v/\Reps K O H r ws
end
def SameO (P:Ow)(H H':Hp):Prop:=∀b o,H b=some o->¬ P b->H' b=some o
theorem SameO.of {P:Ow}{H H':Hp}(h:Same H H'):SameO P H H':=λb o e _=>h b o e
theorem Rd.Iw {P:Ow}{H H':Hp}{a:Addr}{u:HO}(h:SameO P H H')(n:¬ P a)(q:Rd H a u):Rd H' a u:=q.elim (λe=> .inl (h _ _ e n)) λ⟨o,e⟩=> .inr ⟨o,h _ _ e n⟩
theorem SqL.keep {K:Jg}{P:Ow}{H H':Hp}{a:Addr}{vs:List V}(h:SameO P H H')(n:¬ P a)(q:SqL K H a vs):SqL K H' a vs:=by
 rcases q with(q | ⟨o,q⟩) | q
 ·exact .inl (.inl (h _ _ q n))
 ·exact .inl (.inr ⟨o,h _ _ q n⟩)
 ·exact .inr q
mutual
theorem Rep.keep {K:Jg}{O P:Ow}{H H':Hp}(h:SameO P H H')(sub:∀a,P a->O a):∀{t:T} {v:V},Rep K O H t v->Rep K O H' t v
 | .non,_,r=>by unfold Rep at r ⊢;exact r
 | .bl _,_,r=>by unfold Rep at r ⊢;exact r
 | .int _,_,r=>by unfold Rep at r ⊢;exact r
 | .str _,_,r=>by unfold Rep at r ⊢;exact r
 | .tup l,_,r=>by
  unfold Rep at r ⊢;obtain⟨a,vs,e,n,q,z⟩:=r
  exact⟨a,vs,e,n,h _ _ q (λp=>n (sub a p)),Reps.keep h sub z⟩
 | .lst l,_,r=>by
  unfold Rep at r ⊢;obtain⟨a,vs,e,n,q,z⟩:=r
  exact⟨a,vs,e,n,h _ _ q (λp=>n (sub a p)),Reps.keep h sub z⟩
 | .scr l,_,r=>by
  unfold Rep at r ⊢;obtain⟨a,e,n,q⟩:=r
  exact⟨a,e,n,SqL.keep h (λp=>n (sub a p)) q⟩
 | .dct ks ts,_,r=>by
  unfold Rep at r ⊢;obtain⟨a,kvs,e,n,q,k,z⟩:=r;exact⟨a,kvs,e,n,Rd.Iw h (λp=>n (sub a p)) q,k,Reps.keep h sub z⟩
theorem Reps.keep {K:Jg}{O P:Ow}{H H':Hp}(h:SameO P H H')(sub:∀a,P a->O a):∀{l:List T} {vs:List V},Reps K O H l vs->Reps K O H' l vs
 | [],_,r=>by unfold Reps at r ⊢;exact r
 | t::l,_,r=>by
  unfold Reps at r ⊢;obtain⟨v,ws,e,p,q⟩:=r;exact⟨v,ws,e,Rep.keep h sub p,Reps.keep h sub q⟩
end
mutual
theorem Rep.less {K:Jg}{O O':Ow}{H:Hp}(sub:∀a,O' a->O a):∀{t:T} {v:V},Rep K O H t v->Rep K O' H t v
 | .non,_,r=>by unfold Rep at r ⊢;exact r
 | .bl _,_,r=>by unfold Rep at r ⊢;exact r
 | .int _,_,r=>by unfold Rep at r ⊢;exact r
 | .str _,_,r=>by unfold Rep at r ⊢;exact r
 | .tup l,_,r=>by
  unfold Rep at r ⊢;obtain⟨a,vs,e,n,q,z⟩:=r
  exact⟨a,vs,e,λp=>n (sub a p),q,Reps.less sub z⟩
 | .lst l,_,r=>by
  unfold Rep at r ⊢;obtain⟨a,vs,e,n,q,z⟩:=r
  exact⟨a,vs,e,λp=>n (sub a p),q,Reps.less sub z⟩
 | .scr l,_,r=>by
  unfold Rep at r ⊢;obtain⟨a,e,n,z⟩:=r
  exact⟨a,e,λp=>n (sub a p),z⟩
 | .dct ks ts,_,r=>by
  unfold Rep at r ⊢;obtain⟨a,kvs,e,n,q,k,z⟩:=r;exact⟨a,kvs,e,λp=>n (sub a p),q,k,Reps.less sub z⟩
theorem Reps.less {K:Jg}{O O':Ow}{H:Hp}(sub:∀a,O' a->O a):∀{l:List T} {vs:List V},Reps K O H l vs->Reps K O' H l vs
 | [],_,r=>by unfold Reps at r ⊢;exact r
 | t::l,_,r=>by
  unfold Reps at r ⊢;obtain⟨v,ws,e,p,q⟩:=r;exact⟨v,ws,e,Rep.less sub p,Reps.less sub q⟩
end
section
variable {K:Jg}{O:Ow}{H H':Hp}{t:T}{v:V}{l:List T}{vs:List V}
theorem Rep.same (h:Same H H')(r:Rep K O H t v):Rep K O H' t v:=Rep.keep (P:=λ_=>False) (SameO.of h) (λ_ z=>z.elim) r
theorem Reps.same (h:Same H H')(r:Reps K O H l vs):Reps K O H' l vs:=Reps.keep (P:=λ_=>False) (SameO.of h) (λ_ z=>z.elim) r
theorem Rep.II:Rep K O H .non .non:=by unfold Rep;rfl
theorem Rep.bl_ (b:Bool):Rep K O H (.bl b) (.bl b):=by unfold Rep;rfl
theorem Rep.HG (i:Int):Rep K O H (.int i) (.int i):=by unfold Rep;rfl
theorem Rep.Jc (x:Str):Rep K O H (.str x) (.str x):=by unfold Rep;rfl
theorem Rep.HB:Rep K O H (.tup l) v↔ ∃a vs,v= .ref a/\¬ O a/\H a=some (.tup vs)/\Reps K O H l vs:=by unfold Rep;exact Np
theorem Rep.HA:Rep K O H (.lst l) v↔ ∃a vs,v= .ref a/\¬ O a/\H a=some (.lst vs)/\Reps K O H l vs:=by unfold Rep;exact Np
theorem Rep.HF {ks ts:List T}:Rep K O H (.dct ks ts) v↔ ∃a kvs,v= .ref a/\¬ O a/\Rd H a (.dT kvs)/\ks.map keyOf=kvs.map (λp=>some p.1)/\Reps K O H ts (kvs.map (·.2)):=by unfold Rep;exact Np
theorem Rep.Hz {i:Int}:Rep K O H (.int i) v↔v= .int i:=by unfold Rep;exact Np
theorem Rep.HC {b:Bool}:Rep K O H (.bl b) v↔v= .bl b:=by unfold Rep;exact Np
theorem Rep.HJ {b:Str}:Rep K O H (.str b) v↔v= .str b:=by unfold Rep;exact Np
theorem Rep.HP:Rep K O H .non v↔v= .non:=by unfold Rep;exact Np
theorem Reps.HI:Reps K O H [] []:=by unfold Reps;rfl
theorem Reps.HE (r:Rep K O H t v)(q:Reps K O H l vs):Reps K O H (t::l) (v::vs):=by unfold Reps;exact⟨v,vs,rfl,r,q⟩
theorem Reps.Hy:Reps K O H [] vs↔vs= []:=by unfold Reps;exact Np
theorem Reps.me:Reps K O H (t::l) vs↔ ∃v ws,vs=v::ws/\Rep K O H t v/\Reps K O H l ws:=by
 constructor
 ·intro h;unfold Reps at h;exact h
 ·intro h;unfold Reps;exact h
end
section
variable {K:Jg}{O:Ow}{H H':Hp}
theorem Reps.length:∀{l:List T} {vs:List V},Reps K O H l vs->l.length=vs.length
 | [],vs,r=>by rw[Reps.Hy.mp r];rfl
 | t::l,vs,r=>by
  obtain⟨v,ws,rfl,_,q⟩:=Reps.me.mp r;simp[q.length]
theorem Reps.get:∀{l:List T} {vs:List V} {i:Nat} {t:T},Reps K O H l vs->l[i]? =some t->∃v,vs[i]? =some v/\Rep K O H t v
 | [],_,_,_,_,e=>by simp at e
 | t::l,vs,i,u,r,e=>by
  obtain⟨v,ws,rfl,p,q⟩:=Reps.me.mp r
  cases i with
  | zero=>simp at e;subst e;exact⟨v,rfl,p⟩
  | succ i=>
   obtain⟨z,e1,e2⟩:=q.get (i:=i) (t:=u) (by simpa using e)
   exact⟨z,by simpa using e1,e2⟩
theorem Reps.append:∀{l m:List T} {vs ws:List V},Reps K O H l vs->Reps K O H m ws->Reps K O H (l++m) (vs++ws)
 | [],_,vs,_,r,s=>by rw[Reps.Hy.mp r];exact s
 | t::l,m,vs,ws,r,s=>by
  obtain⟨v,us,rfl,p,q⟩:=Reps.me.mp r;exact Reps.HE p (q.append s)
theorem Reps.take:∀{l:List T} {vs:List V} (n:Nat),Reps K O H l vs->Reps K O H (l.take n) (vs.take n)
 | _,_,0,_=>Reps.HI
 | [],vs,n+1,r=>by rw[Reps.Hy.mp r];exact Reps.HI
 | t::l,vs,n+1,r=>by
  obtain⟨v,us,rfl,p,q⟩:=Reps.me.mp r;exact Reps.HE p (q.take n)
theorem Reps.drop:∀{l:List T} {vs:List V} (n:Nat),Reps K O H l vs->Reps K O H (l.drop n) (vs.drop n)
 | _,_,0,r=>r
 | [],vs,n+1,r=>by rw[Reps.Hy.mp r];exact Reps.HI
 | t::l,vs,n+1,r=>by
  obtain⟨v,us,rfl,p,q⟩:=Reps.me.mp r;exact q.drop n
theorem Reps.ints:∀{ns:List Int},Reps K O H (ns.map T.int) (ns.map V.int)
 | [] =>Reps.HI
 | n::r=>Reps.HE (Rep.HG n) Reps.ints
end
inductive OT where
 | lst (l:List T) | dct (ks ts:List T) | dd (ks:List T) (rows:List (List T×List T))
def OT.view:OT->T
 | .lst l=> .lst l
 | .dct ks ts=> .dct ks ts
 | .dd ks rows=> .dct ks (rows.map λr=> .dct r.1 r.2)
def RowsR (K:Jg)(O:Ow)(H:Hp):List (List T×List T)->List Addr->Prop
 | [],as=>as= []
 | r::rs,as=> ∃b bs kvs,as=b::bs/\H b=some (.dT kvs)/\r.1.map keyOf=kvs.map (λp=>some p.1)/\Reps K O H r.2 (kvs.map (·.2))/\RowsR K O H rs bs
def ORep (K:Jg)(O M:Ow)(H:Hp):OT->V->Prop
 | .lst l,v=> ∃a vs,v= .ref a/\(∀b,M b↔b=a)/\H a=some (.lst vs)/\Reps K O H l vs
 | .dct ks ts,v=> ∃a kvs,v= .ref a/\(∀b,M b↔b=a)/\H a=some (.dT kvs)/\ks.map keyOf=kvs.map (λp=>some p.1)/\Reps K O H ts (kvs.map (·.2))
 | .dd ks rows,v=> ∃a kvs as,v= .ref a/\(∀b,M b↔b=a\/b∈as)/\a∉as/\as.Nodup/\H a=some (.dT kvs)/\ks.map keyOf=kvs.map (λp=>some p.1)/\kvs.map (·.2)=as.map V.ref/\RowsR K O H rows as
inductive Sl where
 | em | va (t:T) | ow (o:OT)
abbrev En:=List Sl
abbrev Mn:=Nat->Ow
def Mn.u (M:Mn):Ow:=λa=> ∃i,M i a
def Mtb (H:Hp)(a:Addr):Prop:=(∃vs,H a=some (.lst vs))\/∃kvs,H a=some (.dT kvs)
theorem Mtb.some {H:Hp}{a:Addr}(h:Mtb H a):∃o,H a=some o:=h.elim (λ⟨_,e⟩=>⟨_,e⟩) λ⟨_,e⟩=>⟨_,e⟩
theorem Mtb.same {H H':Hp}(s:Same H H'){a:Addr}(h:Mtb H a):Mtb H' a:=h.elim (λ⟨vs,e⟩=> .inl ⟨vs,s _ _ e⟩) λ⟨k,e⟩=> .inr ⟨k,s _ _ e⟩
structure EnvM (K:Jg)(O:Ow)(M:Mn)(H:Hp)(Z:En)(σ:L2.St):Prop where
 len:Z.length=σ.length
 val:∀(i:Nat) (t:T),Z[i]? =some (.va t)->∃v,σ[i]? =some (some v)/\Rep K O H t v
 own:∀(i:Nat) (o:OT),Z[i]? =some (.ow o)->∃v,σ[i]? =some (some v)/\ORep K O (M i) H o v
 sub:∀(i:Nat) (a:Addr),M i a->O a
 dis:∀(i j:Nat) (a:Addr),M i a->M j a->i=j
 trk:∀(a:Addr),O a->Mtb H a
theorem RowsR.same {K:Jg}{O:Ow}{H H':Hp}(h:Same H H'):∀{rs:List (List T×List T)} {as:List Addr},RowsR K O H rs as->RowsR K O H' rs as
 | [],_,r=>r
 | _::_,_,⟨b,bs,kvs,e1,e2,e3,e4,e5⟩=>⟨b,bs,kvs,e1,h _ _ e2,e3,e4.same h,e5.same h⟩
theorem ORep.same {K:Jg}{O M:Ow}{H H':Hp}(h:Same H H'){o:OT}{v:V}(r:ORep K O M H o v):ORep K O M H' o v:=by
 cases o with
 | lst l=>obtain⟨a,vs,e1,e2,e3,e4⟩:=r;exact⟨a,vs,e1,e2,h _ _ e3,e4.same h⟩
 | dct ks ts=>obtain⟨a,kvs,e1,e2,e3,e4,e5⟩:=r;exact⟨a,kvs,e1,e2,h _ _ e3,e4,e5.same h⟩
 | dd ks rows=>obtain⟨a,kvs,as,e1,e2,e3,e4,e5,e6,e7,e8⟩:=r;exact⟨a,kvs,as,e1,e2,e3,e4,h _ _ e5,e6,e7,e8.same h⟩
theorem EnvM.same {K:Jg}{O:Ow}{M:Mn}{H H':Hp}{Z:En}{σ:L2.St}(h:Same H H')(e:EnvM K O M H Z σ):EnvM K O M H' Z σ where
 len:=e.len
 val:=λi t q=>let ⟨v,e1,e2⟩:=e.val i t q;⟨v,e1,e2.same h⟩
 own:=λi o q=>let ⟨v,e1,e2⟩:=e.own i o q;⟨v,e1,e2.same h⟩
 sub:=e.sub
 dis:=e.dis
 trk:=λa q=>(e.trk a q).same h
def EnvO (K:Jg)(O:Ow)(H:Hp)(Z:En)(σ:L2.St):Prop:=∃M,EnvM K O M H Z σ
section
variable {K:Jg}{O:Ow}{H H':Hp}{Z:En}{σ:L2.St}
theorem EnvO.val (e:EnvO K O H Z σ)(i:Nat)(t:T)(q:Z[i]? =some (.va t)):∃v,σ[i]? =some (some v)/\Rep K O H t v:=e.elim λ_ e=>e.val i t q
theorem EnvO.mtb (e:EnvO K O H Z σ):∀a,O a->Mtb H a:=e.elim λ_ e=>e.trk
theorem EnvO.trk (e:EnvO K O H Z σ)(a:Addr)(z:O a):∃o,H a=some o:=(e.mtb a z).some
theorem EnvO.same (h:Same H H')(e:EnvO K O H Z σ):EnvO K O H' Z σ:=e.elim λM e=>⟨M,e.same h⟩
theorem EnvO.fresh (e:EnvO K O H Z σ){p:Addr}(h:H p=none):¬ O p:=λz=>by
 obtain⟨o,q⟩:=e.trk p z;rw[h]at q;cases q
end
def Hw (h:Heap)(C e:Addr):Option Addr->Prop
 | none=> ∃oe vs,h.get? e=some oe/\oe.cls= .ref C/\oe.data= .fields vs/\vs[1]? =some .none
 | some T=>T≠e/\∃oe vs,h.get? e=some oe/\oe.cls= .ref C/\oe.data= .fields vs/\vs[1]? =some (.ref T)/\∃oT ts,h.get? T=some oT/\oT.data= .fields ts/\ts[3]? =some .none
def RzP (X:Cx)(pins:List (Addr×Obj))(P:Ow)(H:Hp)(c:Str)(ev:Ji)(s':Jk):Prop:=
 ∃e T C σ' H',ev= .ref e/\X.mg c=some (.ref C)/\Inv X pins σ' H' s'/\SameO P H H'/\H' e=none/\(X.ex= []->X.s₀.heap.get? e=none)/\Hw s'.heap C e T/\(∀t,T=some t->H' t=none/\(X.ex= []->X.s₀.heap.get? t=none))/\∀p∈X.pn++pins,p.1≠e/\T≠some p.1
def Nw (K:Jg)(H:Hp):Ow:=λa=>H a=none/\K.lookup a=none
theorem gq {K:Jg}{P:Ow}{H H1:Hp}(h:SameO P H H1){a:Addr}(n:Nw K H1 a):P a\/Nw K H a:=by
 by_cases hp:P a
 ·exact .inl hp
 ·refine .inr ⟨?_,n.2⟩
  cases q:H a with
  | none=>rfl
  | some o=>have:=h a o q hp;rw[n.1]at this;cases this
theorem SameO.trans {K:Jg}{P P1:Ow}{H H1 H2:Hp}(h:SameO P H H1)(h1:SameO P1 H1 H2)(sub:∀a,P1 a->P a\/Nw K H a):SameO P H H2:=λb o e n=>
 h1 b o (h b o e n) λz=>(sub b z).elim n λw=>by rw[w.1]at e;cases e
def XA (X:Cx)(P:Ow)(H:Hp)(c:Str):Prop:=∀pins ev s',RzP X pins P H c ev s'->X.xe ev s'
theorem XA.later {X:Cx}{P P1:Ow}{H H1:Hp}{c:Str}(h:XA X P H c)(s:SameO P H H1)(sub:∀a,P1 a->P a\/Nw X.K H a):XA X P1 H1 c:=λpins ev s' ⟨e,T,C,σ',H',a1,a2,a3,a4,a5⟩=>
 h pins ev s' ⟨e,T,C,σ',H',a1,a2,a3,s.trans a4 sub,a5⟩
abbrev wP:Ow:=λ_=>False
def Post {α:Type}(X:Cx)(H:Hp)(r:Rs α)(k:α->Hp->Prop):Prop:=match r with
 | .ok t=> ∀H',Same H H'->k t H'
 | .err c=>XA X wP H c
 | .bad=>False
theorem Post.mono {α:Type}{X:Cx}{H:Hp}{r:Rs α}{k k':α->Hp->Prop}(h:Post X H r k)(f:∀t H',Same H H'->k t H'->k' t H'):Post X H r k':=by
 cases r with
 | ok t=>exact λH' s=>f t H' s (h H' s)
 | err c=>exact h
 | bad=>exact h
theorem Post.later {α:Type}{X:Cx}{H H1:Hp}{r:Rs α}{k:α->Hp->Prop}(h:Post X H r k)(s:Same H H1):Post X H1 r k:=by
 cases r with
 | ok t=>exact λH' s'=>h H' (s.trans s')
 | err c=>exact XA.later h (SameO.of s) λ_ z=>z.elim
 | bad=>exact h
theorem Post.bind {α β:Type}{X:Cx}{H:Hp}{r:Rs α}{f:α->Rs β}{k:β->Hp->Prop}(h:Post X H (r >>= f) k):Post X H r λt H'=>Post X H' (f t) k:=by
 cases r with
 | ok t=>exact λH' s=>Post.later h s
 | err c=>exact h
 | bad=>exact h
def tP (X:Cx)(f:En->Rs T):TE:=λσ H Q=> ∃Z O,EnvO X.K O H Z σ/\Post X H (f Z) λt H'=> ∀v,Rep X.K O H' t v->Q v H'
def tPA (X:Cx)(f:En->Rs (List T)):TA:=λσ H Q=> ∃Z O,EnvO X.K O H Z σ/\Post X H (f Z) λt H'=> ∀v,Reps X.K O H' t v->Q v H'
def yc (X:Cx)(f:En->Rs Bool):TT:=λσ H Q=> ∃Z O,EnvO X.K O H Z σ/\Post X H (f Z) λb H'=>Q b H'
abbrev cj (X:Cx)(e:Expr)(f:En->Rs T):Prop:=PE X e (tP X f)
abbrev qR (X:Cx)(e:List Expr)(f:En->Rs (List T)):Prop:=PA X e (tPA X f)
abbrev tM (X:Cx)(e:Expr)(f:En->Rs Bool):Prop:=PT X e (yc X f)
theorem PE.imp {X:Cx}{e:Expr}{t t':TE}(h:PE X e t)(w:∀σ H Q,t' σ H Q->t σ H Q):PE X e t':=λpins s σ H Q I q=>h pins s σ H Q I (w σ H Q q)
theorem PA.imp {X:Cx}{e:List Expr}{t t':TA}(h:PA X e t)(w:∀σ H Q,t' σ H Q->t σ H Q):PA X e t':=λpos pins s σ H Q I q=>h pos pins s σ H Q I (w σ H Q q)
theorem PT.imp {X:Cx}{e:Expr}{t t':TT}(h:PT X e t)(w:∀σ H Q,t' σ H Q->t σ H Q):PT X e t':=λpins s σ H Q I q=>h pins s σ H Q I (w σ H Q q)
theorem PS.imp {X:Cx}{e:Stmt}{t t':TS}(h:PS X e t)(w:∀D σ H,t' D σ H->t D σ H):PS X e t':=λpins s σ H D I q=>h pins s σ H D I (w D σ H q)
theorem PSs.imp {X:Cx}{e:List Stmt}{t t':TS}(h:PSs X e t)(w:∀D σ H,t' D σ H->t D σ H):PSs X e t':=λpins s σ H D I q=>h pins s σ H D I (w D σ H q)
section
variable {X:Cx}
theorem aV {σ:L2.St}{H:Hp}{Z:En}{O:Ow}{α:Type}{f:En->Rs T}{k:T->Rs α}{Q:α->Hp->Prop}(E:EnvO X.K O H Z σ)(h:Post X H (f Z >>= k) Q) :
  tP X f σ H λv H'=> ∃t,Rep X.K O H' t v/\Same H H'/\EnvO X.K O H' Z σ/\Post X H' (k t) Q:=
 ⟨Z,O,E,Post.mono h.bind λt H' s q v r=>⟨t,r,s,E.same s,q⟩⟩
theorem d8 {σ:L2.St}{H:Hp}{Z:En}{O:Ow}{α:Type}{f:En->Rs (List T)}{k:List T->Rs α}{Q:α->Hp->Prop}(E:EnvO X.K O H Z σ)(h:Post X H (f Z >>= k) Q) :
  tPA X f σ H λv H'=> ∃t,Reps X.K O H' t v/\Same H H'/\EnvO X.K O H' Z σ/\Post X H' (k t) Q:=
 ⟨Z,O,E,Post.mono h.bind λt H' s q v r=>⟨t,r,s,E.same s,q⟩⟩
theorem jC {σ:L2.St}{H:Hp}{Z:En}{O:Ow}{α:Type}{f:En->Rs Bool}{k:Bool->Rs α}{Q:α->Hp->Prop}(E:EnvO X.K O H Z σ)(h:Post X H (f Z >>= k) Q) :
  yc X f σ H λb H'=>Same H H'/\EnvO X.K O H' Z σ/\Post X H' (k b) Q:=
 ⟨Z,O,E,Post.mono h.bind λt H' s q=>⟨s,E.same s,q⟩⟩
def vr (i:Nat)(Z:En):Rs T:=match Z[i]? with
 | some (.va t)=> .ok t
 | _=> .bad
def cn (t:T)(_:En):Rs T:=.ok t
theorem Ga (i:Nat){x:Str}{pos:Pos}(hN:X.N[i]? =some x:=by rfl)(hv:xG X.env.scope x:=by first | exact Lx rfl | exact KO (Lx rfl) | exact KO (KO rfl))(hd:ie x:=by decide)
  (hcd:(x == ("__classdict__" : Str))=false:=by decide):cj X (.Name x pos) (vr i):=PE.imp (lX hN hv hd hcd) λσ H Q hh_=>by
 obtain⟨Z,O,E,h⟩:=hh_;unfold vr at h
 split at h
 ·rename_i t e
  obtain⟨v,e1,e2⟩:=E.val i t e;exact⟨v,e1,h H (Same.refl H) v e2⟩
 ·exact h.elim
theorem Gi {i j pos}:cj X (.Constant (.int i) j pos) (cn (.int i)):=PE.imp El λσ H Q ⟨Z,O,E,h⟩=>h H (Same.refl H) _ (Rep.HG i)
theorem q_bl {i j pos}:cj X (.Constant (.bool i) j pos) (cn (.bl i)):=PE.imp Gv λσ H Q ⟨Z,O,E,h⟩=>h H (Same.refl H) _ (Rep.bl_ i)
theorem Ge {j pos}:cj X (.Constant .none j pos) (cn .non):=PE.imp Ej λσ H Q ⟨Z,O,E,h⟩=>h H (Same.refl H) _ Rep.II
theorem DW {x:Str}{i:Int}{u:Ji}{pos:Pos}(hm:X.mg x=some u)(r:RelV (.int i) u)(hg:Gl X x:=by rfl)(hd:ie x:=by decide):cj X (.Name x pos) (cn (.int i)):=
 PE.imp (BS hg hm r hd) λσ H Q ⟨Z,O,E,h⟩=>h H (Same.refl H) _ (Rep.HG i)
def ah (_:En):Rs (List T):=.ok []
def ae (f:En->Rs T)(g:En->Rs (List T))(Z:En):Rs (List T):=do
 let t <-f Z
 let r <-g Z
 .ok (t::r)
theorem DU:qR X [] ah:=PA.imp kg λσ H Q ⟨Z,O,E,h⟩=>h H (Same.refl H) _ Reps.HI
theorem Bx {e:Expr}{es:List Expr}{f:En->Rs T}{g:En->Rs (List T)}(he:cj X e f)(hr:qR X es g)(hs:JF (e::es) X.env=(false,eval e X.env)::JF es X.env:=by rfl):qR X (e::es) (ae f g):=by
 intro pos pins s σ H Q I h;obtain⟨Z,O,E,h⟩:=h;refine gp he hr hs pos pins s σ H Q I ?_
 obtain⟨Z1,O1,E1,h1⟩:=aV E h;refine⟨Z1,O1,E1,Post.mono h1 λt H' s q v r=> ?_⟩
 obtain⟨t',r',s',E',q'⟩:=q v r;refine⟨Z,O,E',Post.mono q'.bind λts H2 s2 q2 vs rs=> ?_⟩
 exact q2 H2 (Same.refl H2) _ (Reps.HE (r'.same s2) rs)
end
section
variable {X:Cx}
def je (l:List T):Rs T:=if l.length<=sizeLine then .ok (.tup l)else .bad
def jf (l:List T):Rs T:=if l.length<=sizeLine then .ok (.lst l)else .bad
def bK (f:En->Rs (List T))(Z:En):Rs T:=f Z >>= je
def fE (f:En->Rs (List T))(Z:En):Rs T:=f Z >>= jf
theorem aN {H:Hp}{p:Addr}(h:H p=none)(o:HO):Same H (upd H p o):=λb u q=>by rw[aJ (bU q h)];exact q
theorem gc {K:Jg}{O:Ow}{H:Hp}{p:Addr}{l:List T}{vs:List V}(h:H p=none)(n:¬ O p)(r:Reps K O H l vs):Rep K O (upd H p (.tup vs)) (.tup l) (.ref p):=
 Rep.HB.mpr ⟨p,vs,rfl,n,aP,r.same (aN h _)⟩
theorem hV {K:Jg}{O:Ow}{H:Hp}{p:Addr}{l:List T}{vs:List V}(h:H p=none)(n:¬ O p)(r:Reps K O H l vs):Rep K O (upd H p (.lst vs)) (.lst l) (.ref p):=
 Rep.HA.mpr ⟨p,vs,rfl,n,aP,r.same (aN h _)⟩
theorem Gb {es:List Expr}{x1:Nat}{pos:Pos}{f:En->Rs (List T)}(h:qR X es f):cj X (.Tuple es x1 pos) (bK f):=by
 intro pins s σ H Q I ⟨Z,O,E,hq⟩;refine Ef h pins s σ H Q I ?_
 obtain⟨Z1,O1,E1,h1⟩:=d8 E hq;refine⟨Z1,O1,E1,Post.mono h1 λts H1 s1 q vs r=> ?_⟩
 obtain⟨t',r',s',E',q'⟩:=q vs r;unfold je at q'
 split at q'
 ·rename_i hz
  refine⟨by rw[<-r'.length];exact hz,λp hp=> ?_⟩
  exact q' _ (aN hp _) _ (gc hp (E'.fresh hp) r')
 ·exact q'.elim
theorem Gg {es:List Expr}{pos:Pos}{f:En->Rs (List T)}(h:qR X es f):cj X (.List es pos) (fE f):=by
 intro pins s σ H Q I ⟨Z,O,E,hq⟩;refine Ek h pins s σ H Q I ?_
 obtain⟨Z1,O1,E1,h1⟩:=d8 E hq;refine⟨Z1,O1,E1,Post.mono h1 λts H1 s1 q vs r=> ?_⟩
 obtain⟨t',r',s',E',q'⟩:=q vs r;unfold jf at q'
 split at q'
 ·rename_i hz
  refine⟨by rw[<-r'.length];exact hz,λp hp=> ?_⟩
  exact q' _ (aN hp _) _ (hV hp (E'.fresh hp) r')
 ·exact q'.elim
def OpT (X:Cx)(f:Ji->Ji->Sem Ji)(g:T->T->Rs T):Prop:=
 ∀(pins:List (Addr×Obj)) (s:Jk) (σ:L2.St) (H:Hp) (O:Ow) (x y:T) (vx vy:V) (ux uy:Ji) (Q:VK),Inv X pins σ H s->(∀p,H p=none->¬ O p)->Rep X.K O H x vx->Rep X.K O H y vy->RelV vx ux->RelV vy uy →
  Post X H (g x y) (λt H'=> ∀v,Rep X.K O H' t v->Q v H')->wpAny (model X.prog X.w) X.A (f ux uy) (EP X pins σ Q) X.xe s
def o2 (g:T->T->Rs T)(fa fb:En->Rs T)(Z:En):Rs T:=do
 let x <-fa Z
 let y <-fb Z
 g x y
variable {a b c:Expr}{fa fb fc:En->Rs T}{pos:Pos}
theorem Gm {op:Operator}{g:T->T->Rs T}(ho:OpT X (Lc op) g)(ha:cj X a fa)(hb:cj X b fb):cj X (.BinOp a op b pos) (o2 g fa fb):=by
 intro pins s σ H Q I ⟨Z,O,E,hq⟩
 have h1:=aV E hq;refine wpAny_BinOp (cg (ha pins s σ H _ I h1) λv s1 hh_=> ?_)
 obtain⟨x,H1,I1,r1,t,rt,s',E',q1⟩:=hh_
 have h2:=aV (f:=fb) E' q1;refine cg (hb pins s1 σ H1 _ I1 h2) λu s2 hh_=> ?_
 obtain⟨y,H2,I2,r2,t2,rt2,s'',E'',q2⟩:=hh_;exact ho pins s2 σ H2 O t t2 x y v u Q I2 (λp=>E''.fresh) (rt.same s'') rt2 r1 r2 q2
theorem Gk {op:CmpOp}{g:T->T->Rs T}(ho:OpT X (Kh op) g)(ha:cj X a fa)(hb:cj X b fb)(hm:Oj op b=false:=by rfl):cj X (.Compare a [op] [b] pos) (o2 g fa fb):=by
 intro pins s σ H Q I ⟨Z,O,E,hq⟩
 have h1:=aV E hq;refine wpAny_Compare1 (cg (ha pins s σ H _ I h1) λv s1 ⟨x,H1,I1,r1,t,rt,s',E',q1⟩=> ?_) hm
 have h2:=aV (f:=fb) E' q1;refine cg (hb pins s1 σ H1 _ I1 h2) λu s2 hh_=> ?_
 obtain⟨y,H2,I2,r2,t2,rt2,s'',E'',q2⟩:=hh_;exact ho pins s2 σ H2 O t t2 x y v u Q I2 (λp=>E''.fresh) (rt.same s'') rt2 r1 r2 q2
theorem OpT.of {f:Ji->Ji->Sem Ji}{r:R2}(h:pj X f r){g:T->T->Rs T}
  (w:∀(H:Hp) (O:Ow) (x y:T) (vx vy:V) (Q:VK),(∀p,H p=none->¬ O p)->Rep X.K O H x vx->Rep X.K O H y vy->Post X H (g x y) (λt H'=> ∀v,Rep X.K O H' t v->Q v H')->r vx vy H Q):OpT X f g:=
 λpins s σ H O x y vx vy ux uy Q I hf rx ry r1 r2 hp=>h pins s σ H vx vy ux uy Q I r1 r2 (w H O x y vx vy Q hf rx ry hp)
def gV:T->T->Rs T
 | .int i,.int j=> .ok (.int (i - j))
 | _,_=> .bad
theorem hW:OpT X (Lc .Sub) gV:=OpT.of Er λH O x y vx vy Q hf rx ry hp=>by
 unfold gV at hp
 split at hp
 ·exact⟨_,_,Rep.Hz.mp rx,Rep.Hz.mp ry,hp H (Same.refl H) _ (Rep.HG _)⟩
 ·exact hp.elim
def jY:T->T->Rs T
 | .int i,.int j=>if 0<j/\j<1073741824 then .ok (.int (i / j))else .bad
 | _,_=> .bad
def jT:T->T->Rs T
 | .int i,.int j=>if 0<j then .ok (.int (i % j))else .bad
 | _,_=> .bad
theorem lv:OpT X (Lc .FloorDiv) jY:=OpT.of BX λH O x y vx vy Q hf rx ry hp=>by
 unfold jY at hp
 split at hp
 ·split at hp
  ·rename_i h
   exact⟨_,_,Rep.Hz.mp rx,Rep.Hz.mp ry,h,hp H (Same.refl H) _ (Rep.HG _)⟩
  ·exact hp.elim
 ·exact hp.elim
theorem jn:OpT X (Lc .Mod) jT:=OpT.of Eu λH O x y vx vy Q hf rx ry hp=>by
 unfold jT at hp
 split at hp
 ·split at hp
  ·rename_i h
   exact⟨_,_,Rep.Hz.mp rx,Rep.Hz.mp ry,h,hp H (Same.refl H) _ (Rep.HG _)⟩
  ·exact hp.elim
 ·exact hp.elim
theorem yX:pj X (Lc .Add) (λx y H Q=> ∃a b ys,x= .ref a/\y= .ref b/\SqT X.K H a []/\SqT X.K H b ys/\Q (.ref b) H):=by
 intro pins s σ H x y v u Q I rx ry h;obtain⟨a,b,ys,rfl,rfl,ha,hb,q⟩:=h;cases rx;cases ry;obtain⟨its,r1,p1,_⟩:=I.tuple ha;obtain⟨its2,r2,p2,_⟩:=I.tuple hb;obtain⟨⟨cls,dd,data,sl⟩,ho,hc,n,hd⟩:=id p1;obtain⟨⟨cls2,dd2,data2,sl2⟩,ho2,hc2,n2,hd2⟩:=id p2;simp only at hc hd hc2 hd2;subst hc hd hc2 hd2
 have e:its= []:=by cases r1;rfl
 subst e;exact HT_concat0 ho ho2 ⟨.ref b,H,I,rfl,q⟩
where
 HT_concat0 {prog:JI} {w:Kn} {A:JZ} {E:Ji->Jk->Prop} {s:Jk} {t b:Addr} {ws:Array Ji} {n n2:Nat} {dd dd2:Option Addr} {sl sl2:Array (Option Ji)} {Q:Ji->Jk->Prop}
   (ho:s.heap.get? t=some { cls:=.type "tuple",dict:=dd,data:=.seq (([]:List Ji).toArray) n,slots:=sl }) (ho2:s.heap.get? b=some { cls:=.type "tuple",dict:=dd2,data:=.seq ws n2,slots:=sl2 }) (h:Q (.ref b) s) :
   wpAny (model prog w) A (Lc .Add (.ref t) (.ref b)) Q E s:=
  QL ⟨_,ho,rfl⟩ ⟨_,ho2,rfl⟩ Oy P6 MS MG (MC _ _)
   (tuple_addW0 t b _ _ n n2 dd dd2 sl sl2 (by simp)) ⟨ho,ho2,h⟩
def aS:T->T->Rs T
 | .int i,.int j=> .ok (.int (i+j))
 | .str i,.str j=>if i.length+j.length<=sizeLine then .ok (.str (i++j))else .bad
 | .tup l,.tup m=>je (l++m)
 | .lst l,.lst m=>jf (l++m)
 | _,_=> .bad
theorem aM:OpT X (Lc .Add) aS:=by
 intro pins s σ H O x y vx vy ux uy Q I hf rx ry r1 r2 hp;unfold aS at hp
 split at hp
 ·exact Ez pins s σ H vx vy ux uy Q I r1 r2 ⟨_,_,Rep.Hz.mp rx,Rep.Hz.mp ry,hp H (Same.refl H) _ (Rep.HG _)⟩
 ·split at hp
  ·rename_i h
   exact uc pins s σ H vx vy ux uy Q I r1 r2 ⟨_,_,Rep.HJ.mp rx,Rep.HJ.mp ry,h,hp H (Same.refl H) _ (Rep.Jc _)⟩
  ·exact hp.elim
 ·rename_i l m
  unfold je at hp
  split at hp
  ·rename_i h
   obtain⟨a,vs,e1,n1,q1,z1⟩:=Rep.HB.mp rx;obtain⟨b,ws,e2,n2,q2,z2⟩:=Rep.HB.mp ry
   have hl1:=z1.length
   have hl2:=z2.length;rw[Ju]at h
   cases vs with
   | nil=>
    have e:l= []:=by cases l with
     | nil=>rfl
     | cons _ _=>simp at hl1
    subst e
    exact yX pins s σ H vx vy ux uy Q I r1 r2 ⟨a,b,ws,e1,e2,SqT.of q1,SqT.of q2,hp H (Same.refl H) _ (Rep.HB.mpr ⟨b,ws,rfl,n2,q2,z2⟩)⟩
   | cons v0 vr=>
    refine BY pins s σ H vx vy ux uy Q I r1 r2 ⟨a,b,v0::vr,ws,e1,e2,SqT.of q1,SqT.of q2,by simp,by omega,λhw=> ?_,λ_ p hpn=> ?_⟩
    ·subst hw
     have e:m= []:=by cases m with
      | nil=>rfl
      | cons _ _=>simp at hl2
     subst e;rw[Km]at hp;exact hp H (Same.refl H) _ (Rep.HB.mpr ⟨a,_,rfl,n1,q1,z1⟩)
    ·exact hp _ (aN hpn _) _ (gc hpn (hf p hpn) (z1.append z2))
  ·exact hp.elim
 ·rename_i l m
  unfold jf at hp
  split at hp
  ·rename_i h
   obtain⟨a,vs,e1,n1,q1,z1⟩:=Rep.HA.mp rx;obtain⟨b,ws,e2,n2,q2,z2⟩:=Rep.HA.mp ry
   have hl1:=z1.length
   have hl2:=z2.length;rw[Ju]at h;exact Ey pins s σ H vx vy ux uy Q I r1 r2 ⟨a,b,vs,ws,e1,e2,q1,q2,by omega,λp hpn=>hp _ (aN hpn _) _ (hV hpn (hf p hpn) (z1.append z2))⟩
  ·exact hp.elim
 ·exact hp.elim
def um:T->T->Rs T
 | .int i,.int j=>if (-(2 ^ 64)<i/\i<2 ^ 64)\/(-(2 ^ 64)<j/\j<2 ^ 64)then .ok (.int (i*j))else .bad
 | .lst l,.int k=>if -(2 ^ 63)<=k/\k<2 ^ 63/\l.length*k.toNat<=sizeLine then .ok (.lst (JK k.toNat l).flatten)else .bad
 | _,_=> .bad
theorem Reps.rep {K:Jg}{O:Ow}{H:Hp}{l:List T}{vs:List V}(h:Reps K O H l vs):∀k:Nat,Reps K O H (JK k l).flatten (JK k vs).flatten
 | 0=>Reps.HI
 | k+1=>by rw[KS,KS,LN,LN];exact h.append (h.rep k)
theorem Eo:OpT X (Lc .Mult) um:=by
 intro pins s σ H O x y vx vy ux uy Q I hf rx ry r1 r2 hp;unfold um at hp
 split at hp
 ·split at hp
  ·rename_i h
   exact Et pins s σ H vx vy ux uy Q I r1 r2 ⟨_,_,Rep.Hz.mp rx,Rep.Hz.mp ry,h,hp H (Same.refl H) _ (Rep.HG _)⟩
  ·exact hp.elim
 ·split at hp
  ·rename_i l k h
   obtain⟨a,vs,e1,n1,q1,z1⟩:=Rep.HA.mp rx
   have hl1:=z1.length;exact Es pins s σ H vx vy ux uy Q I r1 r2 ⟨a,k,vs,e1,Rep.Hz.mp ry,q1,h.1,h.2.1,by rw[<-hl1];exact h.2.2,λp hpn=>hp _ (aN hpn _) _ (hV hpn (hf p hpn) (z1.rep _))⟩
  ·exact hp.elim
 ·exact hp.elim
def kw:T->Rs T
 | .int i=> .ok (.int (-i))
 | _=> .bad
def o1 (g:T->Rs T)(fa:En->Rs T)(Z:En):Rs T:=fa Z >>= g
theorem Gf (ha:cj X a fa):cj X (.UnaryOp .USub a pos) (o1 kw fa):=by
 intro pins s σ H Q I ⟨Z,O,E,hq⟩;refine Gs Do ha pins s σ H Q I ?_
 obtain⟨Z1,O1,E1,h1⟩:=aV E hq;refine⟨Z1,O1,E1,Post.mono h1 λts H1 s1 q vs r=> ?_⟩
 obtain⟨t',r',s',E',q'⟩:=q vs r;unfold kw at q'
 split at q'
 ·exact⟨_,Rep.Hz.mp r',q' H1 (Same.refl H1) _ (Rep.HG _)⟩
 ·exact q'.elim
def tH (p:Int->Int->Bool):T->T->Rs T
 | .int i,.int j=> .ok (.bl (p i j))
 | _,_=> .bad
theorem pY {op:CmpOp}{p:Int->Int->Bool}(h:pj X (Kh op) (C0 λi j=> .bl (p i j))):OpT X (Kh op) (tH p):=OpT.of h λH O x y vx vy Q hf rx ry hp=>by
 unfold tH at hp
 split at hp
 ·exact⟨_,_,Rep.Hz.mp rx,Rep.Hz.mp ry,hp H (Same.refl H) _ (Rep.bl_ _)⟩
 ·exact hp.elim
abbrev wU:=tH λi j=>decide (i<j)
abbrev EK:=tH λi j=>decide (i<=j)
abbrev zT:=tH λi j=>decide (j<i)
theorem oB:OpT X (Kh .Lt) wU:=pY Gx
theorem r8:OpT X (Kh .LtE) EK:=pY Gy
theorem oC:OpT X (Kh .Gt) zT:=pY Gz
def T.isN:T->Bool
 | .non=>true
 | _=>false
theorem Rep.isN {K:Jg}{O:Ow}{H:Hp}{t:T}{v:V}(r:Rep K O H t v):decide (v= .non)=t.isN:=by
 cases t with
 | non=>rw[Rep.HP.mp r];rfl
 | bl _=>rw[Rep.HC.mp r];rfl
 | int _=>rw[Rep.Hz.mp r];rfl
 | str _=>rw[Rep.HJ.mp r];rfl
 | tup _=>obtain⟨a,vs,e,_⟩:=Rep.HB.mp r;rw[e];rfl
 | lst _=>obtain⟨a,vs,e,_⟩:=Rep.HA.mp r;rw[e];rfl
 | scr _=>unfold Rep at r;obtain⟨a,e,_⟩:=r;rw[e];rfl
 | dct _ _=>obtain⟨a,_,e,_⟩:=Rep.HF.mp r;rw[e];rfl
def fx:T->T->Rs T
 | x,.non=> .ok (.bl x.isN)
 | _,_=> .bad
def de:T->T->Rs T
 | x,.non=> .ok (.bl (!x.isN))
 | _,_=> .bad
theorem hY:OpT X (Kh .Is) fx:=OpT.of Ew λH O x y vx vy Q hf rx ry hp=>by
 unfold fx at hp
 split at hp
 ·exact⟨Rep.HP.mp ry,hp H (Same.refl H) _ (by rw[rx.isN];exact Rep.bl_ _)⟩
 ·exact hp.elim
theorem dh:OpT X (Kh .IsNot) de:=OpT.of BW λH O x y vx vy Q hf rx ry hp=>by
 unfold de at hp
 split at hp
 ·exact⟨Rep.HP.mp ry,hp H (Same.refl H) _ (by rw[rx.isN];exact Rep.bl_ _)⟩
 ·exact hp.elim
end
end Tr
namespace Tr
open PySem PySem.Spec PyProof.Rows L2
open PySem.SeqAt
mutual
def ReV (s:Jk):T->Ji->Prop
 | .non,u=>u= .none
 | .bl b,u=>u= .bool b
 | .int i,u=> ∃t,u= .int i t
 | .str x,u=> ∃t,u= .str x t
 | .tup l,u=> ∃a its,u= .ref a/\s.heap.IsTuple a (QC its)/\ReVs s l its
 | .lst l,u=> ∃a its,u= .ref a/\s.heap.IsList a (QC its)/\ReVs s l its
 | .scr l,u=> ∃a its,u= .ref a/\s.heap.IsList a (QC its)/\K7 its l
 | .dct _ _,_=>False
def ReVs (s:Jk):List T->List Ji->Prop
 | [],us=>us= []
 | t::r,us=> ∃u ws,us=u::ws/\ReV s t u/\ReVs s r ws
end
theorem ReVs.Hy {s:Jk}{us:List Ji}:ReVs s [] us↔us= []:=by unfold ReVs;exact Np
theorem ReVs.me {s:Jk}{t:T}{l:List T}{us:List Ji}:ReVs s (t::l) us↔ ∃u ws,us=u::ws/\ReV s t u/\ReVs s l ws:=by
 constructor
 ·intro h;unfold ReVs at h;exact h
 ·intro h;unfold ReVs;exact h
theorem ReVs.length {s:Jk}:∀{l:List T} {us:List Ji},ReVs s l us->l.length=us.length
 | [],us,r=>by rw[ReVs.Hy.mp r];rfl
 | t::l,us,r=>by
  obtain⟨v,ws,rfl,_,q⟩:=ReVs.me.mp r;simp[q.length]
theorem ReVs.get {s:Jk}:∀{l:List T} {us:List Ji} {i:Nat} {t:T},ReVs s l us->l[i]? =some t->∃v,us[i]? =some v/\ReV s t v
 | [],_,_,_,_,e=>by simp at e
 | t::l,vs,i,u,r,e=>by
  obtain⟨v,ws,rfl,p,q⟩:=ReVs.me.mp r
  cases i with
  | zero=>simp at e;subst e;exact⟨v,rfl,p⟩
  | succ i=>
   obtain⟨z,e1,e2⟩:=q.get (i:=i) (t:=u) (by simpa using e)
   exact⟨z,by simpa using e1,e2⟩
mutual
def T.nd:T->Bool
 | .dct _ _=>false
 | .tup l=>nds l
 | .lst l=>nds l
 | _=>true
def nds:List T->Bool
 | [] =>true
 | t::l=>t.nd&&nds l
end
theorem sL {t:T}{l:List T}(h:nds (t::l)=true):t.nd=true/\nds l=true:=by unfold nds at h;exact Li.mp h
section
variable {X:Cx}{pins:List (Addr×Obj)}{σ:L2.St}{H:Hp}{s:Jk}{O:Ow}
mutual
theorem Rep.val (I:Inv X pins σ H s):∀{t:T} {v:V} {u:Ji},t.nd=true->Rep X.K O H t v->RelV v u->ReV s t u
 | .non,v,u,hn,r,q=>by cases Rep.HP.mp r;unfold ReV;exact q
 | .bl b,v,u,hn,r,q=>by cases Rep.HC.mp r;unfold ReV;exact q
 | .int b,v,u,hn,r,q=>by cases Rep.Hz.mp r;unfold ReV;exact q
 | .str b,v,u,hn,r,q=>by cases Rep.HJ.mp r;unfold ReV;exact q
 | .tup l,v,u,hn,r,q=>by
  obtain⟨a,vs,rfl,_,z,w⟩:=Rep.HB.mp r;cases q;obtain⟨its,rv,p,_⟩:=I.tuple (SqT.of z);unfold ReV
  exact⟨a,its,rfl,p,Reps.val I (by unfold T.nd at hn;exact hn) w rv⟩
 | .lst l,v,u,hn,r,q=>by
  obtain⟨a,vs,rfl,_,z,w⟩:=Rep.HA.mp r;cases q;obtain⟨its,rv,p,_⟩:=I.list (SqL.of z);unfold ReV
  exact⟨a,its,rfl,p.isList,Reps.val I (by unfold T.nd at hn;exact hn) w rv⟩
 | .scr l,v,u,hn,r,q=>by
  unfold Rep at r;obtain⟨a,rfl,_,z⟩:=r;cases q;obtain⟨its,rv,p,_⟩:=I.list z;unfold ReV
  exact⟨a,its,rfl,p.isList,uB rv⟩
 | .dct _ _,v,u,hn,r,q=>by cases hn
theorem Reps.val (I:Inv X pins σ H s):∀{l:List T} {vs:List V} {us:List Ji},nds l=true->Reps X.K O H l vs->Vals vs us->ReVs s l us
 | [],vs,us,hn,r,q=>by
  cases Reps.Hy.mp r;cases q
  exact ReVs.Hy.mpr rfl
 | t::l,vs,us,hn,r,q=>by
  obtain⟨v,ws,rfl,p,z⟩:=Reps.me.mp r
  cases q with
  | cons q1 q2=>exact ReVs.me.mpr ⟨_,_,rfl,Rep.val I (sL hn).1 p q1,Reps.val I (sL hn).2 z q2⟩
end
end
mutual
def T.dep:T->Nat
 | .tup l=>deps l+1
 | .lst l=>deps l+1
 | .scr _=>1
 | _=>0
def deps:List T->Nat
 | [] =>0
 | t::l=>max t.dep (deps l)
end
def Cy (i:Int):T->Bool
 | .int j=>i == j
 | .bl b=>i == (if b then 1 else 0)
 | _=>false
def jj:List Int->List T->Bool
 | [],[] =>true
 | i::r,t::l=>Cy i t&&jj r l
 | _,_=>false
mutual
def aR:T->T->Bool
 | .non,.non=>true
 | .bl a,.bl b=>a == b
 | .bl a,.int b=>(if a then 1 else 0) == b
 | .int a,.bl b=>a == (if b then 1 else 0)
 | .int a,.int b=>a == b
 | .str a,.str b=>a == b
 | .tup l,.tup m=>beqTs l m
 | .lst l,.lst m=>beqTs l m
 | .lst l,.scr m=>beqTs l (m.map .int)
 | .scr l,.lst m=>jj l m
 | .scr l,.scr m=>l == m
 | _,_=>false
def beqTs:List T->List T->Bool
 | [],[] =>true
 | t::l,u::m=>aR t u&&beqTs l m
 | _,_=>false
end
theorem mY (n:Nat)(e:Nat->Bool):(Kv (n+1)).all e=(e 0&&(Kv n).all λj=>e (j+1)):=by
 rw[List.range_succ_eq_map,Ob,OJ];rfl
theorem kG:∀(l m:List T) (e:Nat->Bool),(∀(j:Nat) t u,l[j]? =some t->m[j]? =some u->e j=aR t u) →
  beqTs l m=((Kv (min l.length m.length)).all e&&l.length == m.length)
 | [],[],_,_=>by simp[beqTs]
 | [],_::_,_,_=>by simp[beqTs]
 | _::_,[],_,_=>by simp[beqTs]
 | t::l,u::m,e,h=>by
  have ih:=kG l m (λj=>e (j+1)) λj t' u' h1 h2=>h (j+1) t' u' (by simpa using h1) (by simpa using h2)
  rw[beqTs,ih]
  have h0:=h 0 t u rfl rfl;simp only[Jq];rw[Nat.succ_min_succ,mY,h0,Bool.and_assoc]
  congr 2
  simp
theorem ph:∀{l m:List T},l.length≠m.length->beqTs l m=false
 | [],[],h=>absurd rfl h
 | [],_::_,_=>by simp[beqTs]
 | _::_,[],_=>by simp[beqTs]
 | t::l,u::m,h=>by
  rw[beqTs,ph (l:=l) (m:=m) (by intro z;exact h (by simp[z]))]
  simp
theorem iq:∀{l:List T} {i:Nat} {t:T},l[i]? =some t->t.dep<=deps l
 | [],_,_,e=>by simp at e
 | t::l,0,u,e=>by simp at e;subst e;unfold deps;exact Nat.le_max_left _ _
 | t::l,i+1,u,e=>by
  have:=iq (l:=l) (i:=i) (t:=u) (by simpa using e)
  unfold deps;exact JQ this (Nat.le_max_right _ _)
theorem il {s:Jk}{a:Addr}{x y:List Ji}(h:s.heap.IsTuple a x.toArray)(h':s.heap.IsTuple a y.toArray):x=y:=by
 obtain⟨o,e,_,n,d⟩:=h;obtain⟨o',e',_,n',d'⟩:=h';rw[e]at e';cases e';rw[d]at d';injection d' with d1 _
 simpa using congrArg NM d1
theorem cA {s:Jk}{a:Addr}{x y:List Ji}(h:s.heap.IsList a x.toArray)(h':s.heap.IsList a y.toArray):x=y:=by
 obtain⟨o,e,_,n,d⟩:=h;obtain⟨o',e',_,n',d'⟩:=h';rw[e]at e';cases e';rw[d]at d';injection d' with d1 _
 simpa using congrArg NM d1
theorem xF {s:Jk}{i:Int}{t:T}{k:Tok}(r:ReV s t (.int i k)):Cy i t=true:=by
 cases t with
 | non=>unfold ReV at r;cases r
 | bl b=>unfold ReV at r;cases r
 | int j=>unfold ReV at r;obtain⟨t,e⟩:=r;injection e with e1 _;subst e1;simp[Cy]
 | str x=>unfold ReV at r;obtain⟨t,e⟩:=r;cases e
 | tup l=>unfold ReV at r;obtain⟨a,its,e,_⟩:=r;cases e
 | lst l=>unfold ReV at r;obtain⟨a,its,e,_⟩:=r;cases e
 | scr l=>unfold ReV at r;obtain⟨a,its,e,_⟩:=r;cases e
 | dct _ _=>unfold ReV at r;exact r.elim
theorem mW {s:Jk}:∀{ns:List Int} {us:List Ji} {l:List T},K7 us ns->ReVs s l us->jj ns l=true
 | [],us,l,h,r=>by
  cases h
  cases l with
  | nil=>rfl
  | cons t l=>obtain⟨_,_,e,_⟩:=ReVs.me.mp r;cases e
 | n::ns,us,l,h,r=>by
  cases h with
  | cons a b hh=>
   cases l with
   | nil=>have:=ReVs.Hy.mp r;cases this
   | cons t l=>
    obtain⟨u,ws,e,p,q⟩:=ReVs.me.mp r;injection e with e1 e2
    subst e1 e2;rw[jj,xF p,mW hh q];rfl
theorem dA {s:Jk}:∀{us:List Ji} {ns:List Int},K7 us ns->ReVs s (ns.map T.int) us
 | _,_,.nil=>ReVs.Hy.mpr rfl
 | _,_,.cons n t h=>ReVs.me.mpr ⟨_,_,rfl,by unfold ReV;exact⟨_,rfl⟩,dA h⟩
theorem im:∀{us:List Ji} {ns ms:List Int},K7 us ns->K7 us ms->ns=ms
 | _,_,_,.nil,.nil=>rfl
 | _,_,_,.cons n t h,.cons _ _ h'=>by rw[im h h']
mutual
theorem ReV.refl {s:Jk}:∀{t u:T} {v:Ji},ReV s t v->ReV s u v->aR t u=true
 | .non,u,v,r,q=>by
  unfold ReV at r;subst r
  cases u <;> (unfold ReV at q) <;> first | rfl | (cases q;done) | (obtain⟨_,e⟩:=q;cases e;done) | (obtain⟨_,_,e,_⟩:=q;cases e;done)
 | .bl b,u,v,r,q=>by
  unfold ReV at r;subst r
  cases u <;> (unfold ReV at q) <;> first | (cases q;done) | (cases q;simp[aR];done) | (obtain⟨_,e⟩:=q;cases e;done) | (obtain⟨_,_,e,_⟩:=q;cases e;done)
 | .int b,u,v,r,q=>by
  unfold ReV at r;obtain⟨k,rfl⟩:=r
  cases u <;> (unfold ReV at q) <;> first | (cases q;done) | (obtain⟨_,e⟩:=q;cases e;simp[aR];done) | (obtain⟨_,e⟩:=q;cases e;done) | (obtain⟨_,_,e,_⟩:=q;cases e;done)
 | .str b,u,v,r,q=>by
  unfold ReV at r;obtain⟨k,rfl⟩:=r
  cases u <;> (unfold ReV at q) <;> first | (cases q;done) | (obtain⟨_,e⟩:=q;cases e;simp[aR];done) | (obtain⟨_,e⟩:=q;cases e;done) | (obtain⟨_,_,e,_⟩:=q;cases e;done)
 | .tup l,u,v,r,q=>by
  unfold ReV at r;obtain⟨a,its,rfl,h1,h2⟩:=r
  cases u with
  | non=>unfold ReV at q;cases q
  | dct _ _=>unfold ReV at q;exact q.elim
  | bl _=>unfold ReV at q;cases q
  | int _=>unfold ReV at q;obtain⟨_,e⟩:=q;cases e
  | str _=>unfold ReV at q;obtain⟨_,e⟩:=q;cases e
  | tup m=>
   unfold ReV at q;obtain⟨a',its',e,h1',h2'⟩:=q;injection e with e;subst e
   have:=il h1 h1';subst this;unfold aR
   exact ReVs.refl h2 h2'
  | lst m=>unfold ReV at q;obtain⟨a',its',e,h1',h2'⟩:=q;injection e with e;subst e;exact absurd rfl (ne_of_list_tuple h1' h1)
  | scr m=>unfold ReV at q;obtain⟨a',its',e,h1',h2'⟩:=q;injection e with e;subst e;exact absurd rfl (ne_of_list_tuple h1' h1)
 | .lst l,u,v,r,q=>by
  unfold ReV at r;obtain⟨a,its,rfl,h1,h2⟩:=r
  cases u with
  | non=>unfold ReV at q;cases q
  | dct _ _=>unfold ReV at q;exact q.elim
  | bl _=>unfold ReV at q;cases q
  | int _=>unfold ReV at q;obtain⟨_,e⟩:=q;cases e
  | str _=>unfold ReV at q;obtain⟨_,e⟩:=q;cases e
  | lst m=>
   unfold ReV at q;obtain⟨a',its',e,h1',h2'⟩:=q;injection e with e;subst e
   have:=cA h1 h1';subst this;unfold aR
   exact ReVs.refl h2 h2'
  | tup m=>unfold ReV at q;obtain⟨a',its',e,h1',h2'⟩:=q;injection e with e;subst e;exact absurd rfl (ne_of_list_tuple h1 h1')
  | scr m=>
   unfold ReV at q;obtain⟨a',its',e,h1',h2'⟩:=q;injection e with e;subst e
   have:=cA h1 h1';subst this;unfold aR
   exact ReVs.refl h2 (dA h2')
 | .scr l,u,v,r,q=>by
  unfold ReV at r;obtain⟨a,its,rfl,h1,h2⟩:=r
  cases u with
  | non=>unfold ReV at q;cases q
  | dct _ _=>unfold ReV at q;exact q.elim
  | bl _=>unfold ReV at q;cases q
  | int _=>unfold ReV at q;obtain⟨_,e⟩:=q;cases e
  | str _=>unfold ReV at q;obtain⟨_,e⟩:=q;cases e
  | lst m=>
   unfold ReV at q;obtain⟨a',its',e,h1',h2'⟩:=q;injection e with e;subst e
   have:=cA h1 h1';subst this;unfold aR
   exact mW h2 h2'
  | tup m=>unfold ReV at q;obtain⟨a',its',e,h1',h2'⟩:=q;injection e with e;subst e;exact absurd rfl (ne_of_list_tuple h1 h1')
  | scr m=>
   unfold ReV at q;obtain⟨a',its',e,h1',h2'⟩:=q;injection e with e;subst e
   have:=cA h1 h1';subst this;unfold aR
   have:=im h2 h2'
   simp[this]
 | .dct _ _,u,v,r,q=>by unfold ReV at r;exact r.elim
theorem ReVs.refl {s:Jk}:∀{l m:List T} {us:List Ji},ReVs s l us->ReVs s m us->beqTs l m=true
 | [],m,us,r,q=>by
  cases ReVs.Hy.mp r
  cases m with
  | nil=>simp[beqTs]
  | cons _ _=>obtain⟨_,_,e,_⟩:=ReVs.me.mp q;cases e
 | t::l,m,us,r,q=>by
  obtain⟨v,ws,rfl,p,z⟩:=ReVs.me.mp r
  cases m with
  | nil=>cases ReVs.Hy.mp q
  | cons u m=>
   obtain⟨v',ws',e,p',z'⟩:=ReVs.me.mp q;injection e with e1 e2
   subst e1 e2;rw[beqTs,ReV.refl p p',ReVs.refl z z'];rfl
end
theorem mV:∀(l:List Int) (m:List T),jj l m=beqTs (l.map T.int) m
 | [],[] =>by simp[jj,beqTs]
 | [],_::_=>by simp[jj,beqTs]
 | _::_,[] =>by simp[jj,beqTs]
 | i::l,t::m=>by
  rw[jj,Jn,beqTs,mV l m]
  congr 1
  cases t <;> simp[Cy,aR]
theorem pH:∀(l m:List Int),(l == m)=beqTs (l.map T.int) (m.map T.int)
 | [],[] =>by simp[beqTs]
 | [],_::_=>by simp[beqTs]
 | _::_,[] =>by simp[beqTs]
 | i::l,t::m=>by
  rw[Jn,Jn,beqTs,<-pH l m];simp[aR]
theorem eX:∀(l:List Int),deps (l.map T.int)=0
 | [] =>rfl
 | i::l=>by rw[Jn,deps,eX l];simp[T.dep]
def iH:T->T->Prop
 | .tup _,.tup _=>False
 | .lst _,.lst _=>False
 | .lst _,.scr _=>False
 | .scr _,.lst _=>False
 | .scr _,.scr _=>False
 | _,_=>True
theorem tw (A:JZ)(s:Jk)(x y:T)(u v:Ji)(hn:iH x y)(hu:A.units<cLine)(rx:ReV s x u)(ry:ReV s y v):EqAt A s u v (aR x y)/\RcAt A s u v (aR x y)/\RcNeAt A s u v (!aR x y):=by
 match x,y,hn,rx,ry with
 | .dct _ _,_,_,rx,_=>exact(by unfold ReV at rx;exact rx:False).elim
 | _,.dct _ _,_,_,ry=>exact(by unfold ReV at ry;exact ry:False).elim
 | .non,.non,hn,rx,ry=>
  obtain rfl:u=Ki:=by unfold ReV at rx;exact rx
  obtain rfl:v=Ki:=by unfold ReV at ry;exact ry
  exact⟨EqAt.same _,RcAt.none_none ,RcNeAt.none_none ⟩
 | .non,.bl b2,hn,rx,ry=>
  obtain rfl:u=Ki:=by unfold ReV at rx;exact rx
  obtain rfl:v=Ku b2:=by unfold ReV at ry;exact ry
  exact⟨EqAt.none_bool b2,RcAt.none_bool b2,RcNeAt.none_bool b2⟩
 | .non,.int i2,hn,rx,ry=>
  obtain rfl:u=Ki:=by unfold ReV at rx;exact rx
  obtain⟨k2,rfl⟩:∃k,v=Kz i2 k:=by unfold ReV at ry;exact ry
  exact⟨EqAt.none_int i2 k2,RcAt.none_int i2 k2,RcNeAt.none_int i2 k2⟩
 | .non,.str x2,hn,rx,ry=>
  obtain rfl:u=Ki:=by unfold ReV at rx;exact rx
  obtain⟨k2,rfl⟩:∃k,v=K3 x2 k:=by unfold ReV at ry;exact ry
  exact⟨EqAt.none_str x2 k2,RcAt.none_str x2 k2,RcNeAt.none_str x2 k2⟩
 | .non,.tup l2,hn,rx,ry=>
  obtain rfl:u=Ki:=by unfold ReV at rx;exact rx
  unfold ReV at ry;obtain⟨a2,us2,rfl,h2,q2⟩:=ry
  exact⟨EqAt.none_tuple h2 hu,RcAt.none_tuple h2 hu,RcNeAt.none_tuple h2 hu⟩
 | .non,.lst l2,hn,rx,ry=>
  obtain rfl:u=Ki:=by unfold ReV at rx;exact rx
  unfold ReV at ry;obtain⟨a2,us2,rfl,h2,q2⟩:=ry
  exact⟨EqAt.none_list h2 hu,RcAt.none_list h2 hu,RcNeAt.none_list h2 hu⟩
 | .non,.scr l2,hn,rx,ry=>
  obtain rfl:u=Ki:=by unfold ReV at rx;exact rx
  unfold ReV at ry;obtain⟨a2,us2,rfl,h2,q2⟩:=ry
  exact⟨EqAt.none_list h2 hu,RcAt.none_list h2 hu,RcNeAt.none_list h2 hu⟩
 | .bl b1,.non,hn,rx,ry=>
  obtain rfl:u=Ku b1:=by unfold ReV at rx;exact rx
  obtain rfl:v=Ki:=by unfold ReV at ry;exact ry
  exact⟨EqAt.bool_none b1,RcAt.bool_none b1,RcNeAt.bool_none b1⟩
 | .bl b1,.bl b2,hn,rx,ry=>
  obtain rfl:u=Ku b1:=by unfold ReV at rx;exact rx
  obtain rfl:v=Ku b2:=by unfold ReV at ry;exact ry
  exact⟨EqAt.bool_bool b1 b2,RcAt.bool_bool b1 b2,RcNeAt.bool_bool b1 b2⟩
 | .bl b1,.int i2,hn,rx,ry=>
  obtain rfl:u=Ku b1:=by unfold ReV at rx;exact rx
  obtain⟨k2,rfl⟩:∃k,v=Kz i2 k:=by unfold ReV at ry;exact ry
  exact⟨EqAt.bool_int b1 i2 k2,RcAt.bool_int b1 i2 k2,RcNeAt.bool_int b1 i2 k2⟩
 | .bl b1,.str x2,hn,rx,ry=>
  obtain rfl:u=Ku b1:=by unfold ReV at rx;exact rx
  obtain⟨k2,rfl⟩:∃k,v=K3 x2 k:=by unfold ReV at ry;exact ry
  exact⟨EqAt.bool_str b1 x2 k2,RcAt.bool_str b1 x2 k2,RcNeAt.bool_str b1 x2 k2⟩
 | .bl b1,.tup l2,hn,rx,ry=>
  obtain rfl:u=Ku b1:=by unfold ReV at rx;exact rx
  unfold ReV at ry;obtain⟨a2,us2,rfl,h2,q2⟩:=ry
  exact⟨EqAt.bool_tuple b1 h2 hu,RcAt.bool_tuple b1 h2 hu,RcNeAt.bool_tuple b1 h2 hu⟩
 | .bl b1,.lst l2,hn,rx,ry=>
  obtain rfl:u=Ku b1:=by unfold ReV at rx;exact rx
  unfold ReV at ry;obtain⟨a2,us2,rfl,h2,q2⟩:=ry
  exact⟨EqAt.bool_list b1 h2 hu,RcAt.bool_list b1 h2 hu,RcNeAt.bool_list b1 h2 hu⟩
 | .bl b1,.scr l2,hn,rx,ry=>
  obtain rfl:u=Ku b1:=by unfold ReV at rx;exact rx
  unfold ReV at ry;obtain⟨a2,us2,rfl,h2,q2⟩:=ry
  exact⟨EqAt.bool_list b1 h2 hu,RcAt.bool_list b1 h2 hu,RcNeAt.bool_list b1 h2 hu⟩
 | .int i1,.non,hn,rx,ry=>
  obtain⟨k1,rfl⟩:∃k,u=Kz i1 k:=by unfold ReV at rx;exact rx
  obtain rfl:v=Ki:=by unfold ReV at ry;exact ry
  exact⟨EqAt.int_none i1 k1,RcAt.int_none i1 k1,RcNeAt.int_none i1 k1⟩
 | .int i1,.bl b2,hn,rx,ry=>
  obtain⟨k1,rfl⟩:∃k,u=Kz i1 k:=by unfold ReV at rx;exact rx
  obtain rfl:v=Ku b2:=by unfold ReV at ry;exact ry
  exact⟨EqAt.int_bool i1 k1 b2,RcAt.int_bool i1 k1 b2,RcNeAt.int_bool i1 k1 b2⟩
 | .int i1,.int i2,hn,rx,ry=>
  obtain⟨k1,rfl⟩:∃k,u=Kz i1 k:=by unfold ReV at rx;exact rx
  obtain⟨k2,rfl⟩:∃k,v=Kz i2 k:=by unfold ReV at ry;exact ry
  exact⟨EqAt.int_int i1 k1 i2 k2,RcAt.int_int i1 k1 i2 k2,RcNeAt.int_int i1 k1 i2 k2⟩
 | .int i1,.str x2,hn,rx,ry=>
  obtain⟨k1,rfl⟩:∃k,u=Kz i1 k:=by unfold ReV at rx;exact rx
  obtain⟨k2,rfl⟩:∃k,v=K3 x2 k:=by unfold ReV at ry;exact ry
  exact⟨EqAt.int_str i1 k1 x2 k2,RcAt.int_str i1 k1 x2 k2,RcNeAt.int_str i1 k1 x2 k2⟩
 | .int i1,.tup l2,hn,rx,ry=>
  obtain⟨k1,rfl⟩:∃k,u=Kz i1 k:=by unfold ReV at rx;exact rx
  unfold ReV at ry;obtain⟨a2,us2,rfl,h2,q2⟩:=ry
  exact⟨EqAt.int_tuple i1 k1 h2 hu,RcAt.int_tuple i1 k1 h2 hu,RcNeAt.int_tuple i1 k1 h2 hu⟩
 | .int i1,.lst l2,hn,rx,ry=>
  obtain⟨k1,rfl⟩:∃k,u=Kz i1 k:=by unfold ReV at rx;exact rx
  unfold ReV at ry;obtain⟨a2,us2,rfl,h2,q2⟩:=ry
  exact⟨EqAt.int_list i1 k1 h2 hu,RcAt.int_list i1 k1 h2 hu,RcNeAt.int_list i1 k1 h2 hu⟩
 | .int i1,.scr l2,hn,rx,ry=>
  obtain⟨k1,rfl⟩:∃k,u=Kz i1 k:=by unfold ReV at rx;exact rx
  unfold ReV at ry;obtain⟨a2,us2,rfl,h2,q2⟩:=ry
  exact⟨EqAt.int_list i1 k1 h2 hu,RcAt.int_list i1 k1 h2 hu,RcNeAt.int_list i1 k1 h2 hu⟩
 | .str x1,.non,hn,rx,ry=>
  obtain⟨k1,rfl⟩:∃k,u=K3 x1 k:=by unfold ReV at rx;exact rx
  obtain rfl:v=Ki:=by unfold ReV at ry;exact ry
  exact⟨EqAt.str_none x1 k1,RcAt.str_none x1 k1,RcNeAt.str_none x1 k1⟩
 | .str x1,.bl b2,hn,rx,ry=>
  obtain⟨k1,rfl⟩:∃k,u=K3 x1 k:=by unfold ReV at rx;exact rx
  obtain rfl:v=Ku b2:=by unfold ReV at ry;exact ry
  exact⟨EqAt.str_bool x1 k1 b2,RcAt.str_bool x1 k1 b2,RcNeAt.str_bool x1 k1 b2⟩
 | .str x1,.int i2,hn,rx,ry=>
  obtain⟨k1,rfl⟩:∃k,u=K3 x1 k:=by unfold ReV at rx;exact rx
  obtain⟨k2,rfl⟩:∃k,v=Kz i2 k:=by unfold ReV at ry;exact ry
  exact⟨EqAt.str_int x1 k1 i2 k2,RcAt.str_int x1 k1 i2 k2,RcNeAt.str_int x1 k1 i2 k2⟩
 | .str x1,.str x2,hn,rx,ry=>
  obtain⟨k1,rfl⟩:∃k,u=K3 x1 k:=by unfold ReV at rx;exact rx
  obtain⟨k2,rfl⟩:∃k,v=K3 x2 k:=by unfold ReV at ry;exact ry
  exact⟨EqAt.str_str x1 k1 x2 k2,RcAt.str_str x1 k1 x2 k2,RcNeAt.str_str x1 k1 x2 k2⟩
 | .str x1,.tup l2,hn,rx,ry=>
  obtain⟨k1,rfl⟩:∃k,u=K3 x1 k:=by unfold ReV at rx;exact rx
  unfold ReV at ry;obtain⟨a2,us2,rfl,h2,q2⟩:=ry
  exact⟨EqAt.str_tuple x1 k1 h2 hu,RcAt.str_tuple x1 k1 h2 hu,RcNeAt.str_tuple x1 k1 h2 hu⟩
 | .str x1,.lst l2,hn,rx,ry=>
  obtain⟨k1,rfl⟩:∃k,u=K3 x1 k:=by unfold ReV at rx;exact rx
  unfold ReV at ry;obtain⟨a2,us2,rfl,h2,q2⟩:=ry
  exact⟨EqAt.str_list x1 k1 h2 hu,RcAt.str_list x1 k1 h2 hu,RcNeAt.str_list x1 k1 h2 hu⟩
 | .str x1,.scr l2,hn,rx,ry=>
  obtain⟨k1,rfl⟩:∃k,u=K3 x1 k:=by unfold ReV at rx;exact rx
  unfold ReV at ry;obtain⟨a2,us2,rfl,h2,q2⟩:=ry
  exact⟨EqAt.str_list x1 k1 h2 hu,RcAt.str_list x1 k1 h2 hu,RcNeAt.str_list x1 k1 h2 hu⟩
 | .tup l1,.non,hn,rx,ry=>
  unfold ReV at rx;obtain⟨a1,us1,rfl,h1,q1⟩:=rx;obtain rfl:v=Ki:=by unfold ReV at ry;exact ry
  exact⟨EqAt.tuple_none h1 hu,RcAt.tuple_none h1 hu,RcNeAt.tuple_none h1 hu⟩
 | .tup l1,.bl b2,hn,rx,ry=>
  unfold ReV at rx;obtain⟨a1,us1,rfl,h1,q1⟩:=rx;obtain rfl:v=Ku b2:=by unfold ReV at ry;exact ry
  exact⟨EqAt.tuple_bool b2 h1 hu,RcAt.tuple_bool b2 h1 hu,RcNeAt.tuple_bool b2 h1 hu⟩
 | .tup l1,.int i2,hn,rx,ry=>
  unfold ReV at rx;obtain⟨a1,us1,rfl,h1,q1⟩:=rx;obtain⟨k2,rfl⟩:∃k,v=Kz i2 k:=by unfold ReV at ry;exact ry
  exact⟨EqAt.tuple_int i2 k2 h1 hu,RcAt.tuple_int i2 k2 h1 hu,RcNeAt.tuple_int i2 k2 h1 hu⟩
 | .tup l1,.str x2,hn,rx,ry=>
  unfold ReV at rx;obtain⟨a1,us1,rfl,h1,q1⟩:=rx;obtain⟨k2,rfl⟩:∃k,v=K3 x2 k:=by unfold ReV at ry;exact ry
  exact⟨EqAt.tuple_str x2 k2 h1 hu,RcAt.tuple_str x2 k2 h1 hu,RcNeAt.tuple_str x2 k2 h1 hu⟩
 | .tup _,.tup _,hn,_,_=>exact hn.elim
 | .tup l1,.lst l2,hn,rx,ry=>
  unfold ReV at rx;obtain⟨a1,us1,rfl,h1,q1⟩:=rx;unfold ReV at ry;obtain⟨a2,us2,rfl,h2,q2⟩:=ry
  exact⟨EqAt.tuple_list h1 h2 hu,RcAt.tuple_list h1 h2 hu,RcNeAt.tuple_list h1 h2 hu⟩
 | .tup l1,.scr l2,hn,rx,ry=>
  unfold ReV at rx;obtain⟨a1,us1,rfl,h1,q1⟩:=rx;unfold ReV at ry;obtain⟨a2,us2,rfl,h2,q2⟩:=ry
  exact⟨EqAt.tuple_list h1 h2 hu,RcAt.tuple_list h1 h2 hu,RcNeAt.tuple_list h1 h2 hu⟩
 | .lst l1,.non,hn,rx,ry=>
  unfold ReV at rx;obtain⟨a1,us1,rfl,h1,q1⟩:=rx;obtain rfl:v=Ki:=by unfold ReV at ry;exact ry
  exact⟨EqAt.list_none h1 hu,RcAt.list_none h1 hu,RcNeAt.list_none h1 hu⟩
 | .lst l1,.bl b2,hn,rx,ry=>
  unfold ReV at rx;obtain⟨a1,us1,rfl,h1,q1⟩:=rx;obtain rfl:v=Ku b2:=by unfold ReV at ry;exact ry
  exact⟨EqAt.list_bool b2 h1 hu,RcAt.list_bool b2 h1 hu,RcNeAt.list_bool b2 h1 hu⟩
 | .lst l1,.int i2,hn,rx,ry=>
  unfold ReV at rx;obtain⟨a1,us1,rfl,h1,q1⟩:=rx;obtain⟨k2,rfl⟩:∃k,v=Kz i2 k:=by unfold ReV at ry;exact ry
  exact⟨EqAt.list_int i2 k2 h1 hu,RcAt.list_int i2 k2 h1 hu,RcNeAt.list_int i2 k2 h1 hu⟩
 | .lst l1,.str x2,hn,rx,ry=>
  unfold ReV at rx;obtain⟨a1,us1,rfl,h1,q1⟩:=rx;obtain⟨k2,rfl⟩:∃k,v=K3 x2 k:=by unfold ReV at ry;exact ry
  exact⟨EqAt.list_str x2 k2 h1 hu,RcAt.list_str x2 k2 h1 hu,RcNeAt.list_str x2 k2 h1 hu⟩
 | .lst l1,.tup l2,hn,rx,ry=>
  unfold ReV at rx;obtain⟨a1,us1,rfl,h1,q1⟩:=rx;unfold ReV at ry;obtain⟨a2,us2,rfl,h2,q2⟩:=ry
  exact⟨EqAt.list_tuple h1 h2 hu,RcAt.list_tuple h1 h2 hu,RcNeAt.list_tuple h1 h2 hu⟩
 | .lst _,.lst _,hn,_,_=>exact hn.elim
 | .lst _,.scr _,hn,_,_=>exact hn.elim
 | .scr l1,.non,hn,rx,ry=>
  unfold ReV at rx;obtain⟨a1,us1,rfl,h1,q1⟩:=rx;obtain rfl:v=Ki:=by unfold ReV at ry;exact ry
  exact⟨EqAt.list_none h1 hu,RcAt.list_none h1 hu,RcNeAt.list_none h1 hu⟩
 | .scr l1,.bl b2,hn,rx,ry=>
  unfold ReV at rx;obtain⟨a1,us1,rfl,h1,q1⟩:=rx;obtain rfl:v=Ku b2:=by unfold ReV at ry;exact ry
  exact⟨EqAt.list_bool b2 h1 hu,RcAt.list_bool b2 h1 hu,RcNeAt.list_bool b2 h1 hu⟩
 | .scr l1,.int i2,hn,rx,ry=>
  unfold ReV at rx;obtain⟨a1,us1,rfl,h1,q1⟩:=rx;obtain⟨k2,rfl⟩:∃k,v=Kz i2 k:=by unfold ReV at ry;exact ry
  exact⟨EqAt.list_int i2 k2 h1 hu,RcAt.list_int i2 k2 h1 hu,RcNeAt.list_int i2 k2 h1 hu⟩
 | .scr l1,.str x2,hn,rx,ry=>
  unfold ReV at rx;obtain⟨a1,us1,rfl,h1,q1⟩:=rx;obtain⟨k2,rfl⟩:∃k,v=K3 x2 k:=by unfold ReV at ry;exact ry
  exact⟨EqAt.list_str x2 k2 h1 hu,RcAt.list_str x2 k2 h1 hu,RcNeAt.list_str x2 k2 h1 hu⟩
 | .scr l1,.tup l2,hn,rx,ry=>
  unfold ReV at rx;obtain⟨a1,us1,rfl,h1,q1⟩:=rx;unfold ReV at ry;obtain⟨a2,us2,rfl,h2,q2⟩:=ry
  exact⟨EqAt.list_tuple h1 h2 hu,RcAt.list_tuple h1 h2 hu,RcNeAt.list_tuple h1 h2 hu⟩
 | .scr _,.lst _,hn,_,_=>exact hn.elim
 | .scr _,.scr _,hn,_,_=>exact hn.elim
theorem Ck:∀(n:Nat) (A:JZ) (s:Jk) (x y:T) (u v:Ji),(x.dep<=n\/y.dep<=n)->A.units+n<cLine->ReV s x u->ReV s y v->EqAt A s u v (aR x y)/\RcAt A s u v (aR x y)/\RcNeAt A s u v (!aR x y):=by
 intro n
 induction n with
 | zero=>
  intro A s x y u v hd hu rx ry
  exact tw A s x y u v (by cases x <;> cases y <;> simp_all [iH,T.dep]) (by omega) rx ry
 | succ n ih=>
  intro A s x y u v hd hu rx ry
  have hin:A.in1.units+n<cLine:=by show A.units+1+n<cLine;omega
  have items:∀(l m:List T) (us vs:List Ji),(deps l<=n\/deps m<=n)->ReVs s l us->ReVs s m vs->∃e:Nat->Bool,(∀j (h1:j<us.toArray.size) (h2:j<vs.toArray.size),EqAt A.in1 s us.toArray[j] vs.toArray[j] (e j)) ∧
    (∀(j:Nat) t u,l[j]? =some t->m[j]? =some u->e j=aR t u):=λl m us vs hd r1 r2=>by
   refine⟨λj=>aR (l.getD j .non) (m.getD j .non),λj h1 h2=> ?_,λj t u e1 e2=>by simp[List.getD,e1,e2]⟩
   have l1:=r1.length
   have l2:=r2.length
   have h1':j<l.length:=by rw[l1];simpa using h1
   have h2':j<m.length:=by rw[l2];simpa using h2
   have e1:l[j]? =some l[j]:=by simp
   have e2:m[j]? =some m[j]:=by simp
   obtain⟨u1,z1,w1⟩:=r1.get e1;obtain⟨u2,z2,w2⟩:=r2.get e2
   have q1:us.toArray[j] =u1:=by
    have:us[j]? =some us.toArray[j]:=by simp
    rw[z1]at this;exact(JW this).symm
   have q2:vs.toArray[j] =u2:=by
    have:vs[j]? =some vs.toArray[j]:=by simp
    rw[z2]at this;exact(JW this).symm
   rw[q1,q2]
   have g1:l.getD j .non=l[j]:=by simp[List.getD,e1]
   have g2:m.getD j .non=m[j]:=by simp[List.getD,e2]
   show EqAt A.in1 s u1 u2 (aR (l.getD j .non) (m.getD j .non))
   rw[g1,g2];refine(ih A.in1 s l[j] m[j] u1 u2 ?_ hin w1 w2).1
   rcases hd with hd | hd
   ·exact .inl (JQ (iq e1) hd)
   ·exact .inr (JQ (iq e2) hd)
  have lists:∀(l m:List T) (a b:Addr) (us vs:List Ji),(deps l<=n\/deps m<=n)->ReVs s l us->ReVs s m vs->s.heap.IsList a us.toArray->s.heap.IsList b vs.toArray →
    EqAt A s (.ref a) (.ref b) (beqTs l m)/\RcAt A s (.ref a) (.ref b) (beqTs l m)/\RcNeAt A s (.ref a) (.ref b) (!beqTs l m):=λl m a b us vs hd r1 r2 h1 h2=>by
   have l1:=r1.length
   have l2:=r2.length
   have key:RcAt A s (.ref a) (.ref b) (beqTs l m)/\RcNeAt A s (.ref a) (.ref b) (!beqTs l m):=by
    by_cases hl:l.length=m.length
    ·obtain⟨e,he,hb⟩:=items l m us vs hd r1 r2
     have q:=kG l m e hb
     have q2:beqTs l m=(Kv us.toArray.size).all e:=by
      rw[q,hl,QD];simp[l2.symm,hl.symm,l1]
     rw[q2]
     have hsz:us.toArray.size=vs.toArray.size:=by simp;omega
     exact⟨RcAt.lists h1 h2 hsz (by omega) he,RcNeAt.lists h1 h2 hsz (by omega) he⟩
    ·rw[ph hl]
     have hsz:(us.toArray.size != vs.toArray.size)=true:=by simp;omega
     exact⟨RcAt.lists_lengths h1 h2 hsz (by omega),RcNeAt.lists_lengths h1 h2 hsz (by omega)⟩
   refine⟨?_,key⟩
   by_cases hab:a=b
   ·subst hab
    have:=cA h1 h2;subst this;rw[ReVs.refl r1 r2];exact EqAt.same _
   ·exact EqAt.of_refs hab key.1
  cases x with
  | tup l=>
   cases y with
   | tup m=>
    unfold ReV at rx ry;obtain⟨a,us,rfl,h1,r1⟩:=rx;obtain⟨b,vs,rfl,h2,r2⟩:=ry
    have hd':deps l<=n\/deps m<=n:=by
     simp only[T.dep]at hd;omega
    have l1:=r1.length
    have l2:=r2.length;obtain⟨e,he,hb⟩:=items l m us vs hd' r1 r2
    have q:=kG l m e hb
    have q2:beqTs l m=((Kv (min us.toArray.size vs.toArray.size)).all e&&us.toArray.size == vs.toArray.size):=by
     rw[q];simp[l1,l2]
    have key:RcAt A s (.ref a) (.ref b) (beqTs l m)/\RcNeAt A s (.ref a) (.ref b) (!beqTs l m):=by
     rw[q2];exact⟨RcAt.tuples h1 h2 (by omega) he,RcNeAt.tuples h1 h2 (by omega) he⟩
    unfold aR;refine⟨?_,key⟩
    by_cases hab:a=b
    ·subst hab
     have:=il h1 h2;subst this;rw[ReVs.refl r1 r2];exact EqAt.same _
    ·exact EqAt.of_refs hab key.1
   | _=>exact tw A s _ _ u v (by simp[iH]) (by omega) rx ry
  | lst l=>
   cases y with
   | lst m=>
    unfold ReV at rx ry;obtain⟨a,us,rfl,h1,r1⟩:=rx;obtain⟨b,vs,rfl,h2,r2⟩:=ry;unfold aR
    exact lists l m a b us vs (by simp only[T.dep]at hd;omega) r1 r2 h1 h2
   | scr m=>
    unfold ReV at rx ry;obtain⟨a,us,rfl,h1,r1⟩:=rx;obtain⟨b,vs,rfl,h2,r2⟩:=ry;unfold aR
    exact lists l (m.map T.int) a b us vs (by rw[eX];omega) r1 (dA r2) h1 h2
   | _=>exact tw A s _ _ u v (by simp[iH]) (by omega) rx ry
  | scr l=>
   cases y with
   | lst m=>
    unfold ReV at rx ry;obtain⟨a,us,rfl,h1,r1⟩:=rx;obtain⟨b,vs,rfl,h2,r2⟩:=ry;unfold aR;rw[mV]
    exact lists (l.map T.int) m a b us vs (by rw[eX];omega) (dA r1) r2 h1 h2
   | scr m=>
    unfold ReV at rx ry;obtain⟨a,us,rfl,h1,r1⟩:=rx;obtain⟨b,vs,rfl,h2,r2⟩:=ry;unfold aR;rw[pH]
    exact lists (l.map T.int) (m.map T.int) a b us vs (by rw[eX];omega) (dA r1) (dA r2) h1 h2
   | _=>exact tw A s _ _ u v (by simp[iH]) (by omega) rx ry
  | _=>exact tw A s _ _ u v (by simp[iH]) (by omega) rx ry
mutual
def T.nf:T->T
 | .tup l=> .tup (nfs l)
 | .lst l=> .lst (nfs l)
 | .scr l=> .lst (l.map .int)
 | .non=> .non
 | .bl b=> .bl b
 | .int b=> .int b
 | .str b=> .str b
 | .dct a b=> .dct a b
def nfs:List T->List T
 | [] => []
 | t::l=>t.nf::nfs l
end
theorem sJ:∀(l:List Int),nfs (l.map T.int)=l.map T.int
 | [] =>rfl
 | i::l=>by rw[Jn,nfs,sJ l];simp[T.nf]
mutual
theorem j7:∀(t x:T),aR t.nf x=aR t x
 | .non,x=>by simp[T.nf]
 | .bl _,x=>by simp[T.nf]
 | .int _,x=>by simp[T.nf]
 | .str _,x=>by simp[T.nf]
 | .tup l,x=>by cases x <;> simp[T.nf,aR,beqTs_nf l]
 | .lst l,x=>by cases x <;> simp[T.nf,aR,beqTs_nf l]
 | .scr l,x=>by cases x <;> simp[T.nf,aR,mV,pH]
 | .dct _ _,x=>by simp[T.nf]
theorem beqTs_nf:∀(l m:List T),beqTs (nfs l) m=beqTs l m
 | [],m=>by simp[nfs]
 | t::l,m=>by cases m <;> simp[nfs,beqTs,j7 t,beqTs_nf l]
end
theorem EY {s:Jk}{t:T}{i:Int}{k:Tok}(r:ReV s t (.int i k)):t.nf= .int i:=by
 cases t with
 | non=>unfold ReV at r;cases r
 | bl b=>unfold ReV at r;cases r
 | int j=>unfold ReV at r;obtain⟨t,e⟩:=r;injection e with e1 _;subst e1;rfl
 | str x=>unfold ReV at r;obtain⟨t,e⟩:=r;cases e
 | tup l=>unfold ReV at r;obtain⟨a,its,e,_⟩:=r;cases e
 | lst l=>unfold ReV at r;obtain⟨a,its,e,_⟩:=r;cases e
 | scr l=>unfold ReV at r;obtain⟨a,its,e,_⟩:=r;cases e
 | dct _ _=>unfold ReV at r;exact r.elim
theorem vP {s:Jk}:∀{l:List T} {us:List Ji} {ns:List Int},ReVs s l us->K7 us ns->nfs l=ns.map T.int
 | [],us,ns,r,h=>by cases ReVs.Hy.mp r;cases h;rfl
 | t::l,us,ns,r,h=>by
  obtain⟨u,ws,rfl,p,q⟩:=ReVs.me.mp r
  cases h with
  | cons a b hh=>rw[nfs,EY p,vP q hh];rfl
mutual
theorem ReV.nf {s:Jk}:∀{t u:T} {v:Ji},ReV s t v->ReV s u v->t.nf=u.nf
 | .non,u,v,r,q=>by
  unfold ReV at r;subst r
  cases u <;> (unfold ReV at q) <;> first | rfl | (cases q;done) | (obtain⟨_,e⟩:=q;cases e;done) | (obtain⟨_,_,e,_⟩:=q;cases e;done)
 | .bl b,u,v,r,q=>by
  unfold ReV at r;subst r
  cases u <;> (unfold ReV at q) <;> first | (cases q;done) | (cases q;rfl) | (obtain⟨_,e⟩:=q;cases e;done) | (obtain⟨_,_,e,_⟩:=q;cases e;done)
 | .int b,u,v,r,q=>by
  unfold ReV at r;obtain⟨k,rfl⟩:=r
  cases u <;> (unfold ReV at q) <;> first | (cases q;done) | (obtain⟨_,e⟩:=q;cases e;done) | (obtain⟨_,e⟩:=q;cases e;rfl) | (obtain⟨_,_,e,_⟩:=q;cases e;done)
 | .str b,u,v,r,q=>by
  unfold ReV at r;obtain⟨k,rfl⟩:=r
  cases u <;> (unfold ReV at q) <;> first | (cases q;done) | (obtain⟨_,e⟩:=q;cases e;done) | (obtain⟨_,e⟩:=q;cases e;rfl) | (obtain⟨_,_,e,_⟩:=q;cases e;done)
 | .tup l,u,v,r,q=>by
  unfold ReV at r;obtain⟨a,its,rfl,h1,h2⟩:=r
  cases u with
  | non=>unfold ReV at q;cases q
  | dct _ _=>unfold ReV at q;exact q.elim
  | bl _=>unfold ReV at q;cases q
  | int _=>unfold ReV at q;obtain⟨_,e⟩:=q;cases e
  | str _=>unfold ReV at q;obtain⟨_,e⟩:=q;cases e
  | tup m=>
   unfold ReV at q;obtain⟨a',its',e,h1',h2'⟩:=q;injection e with e;subst e
   have:=il h1 h1';subst this;unfold T.nf
   rw[ReVs.nf h2 h2']
  | lst m=>unfold ReV at q;obtain⟨a',its',e,h1',h2'⟩:=q;injection e with e;subst e;exact absurd rfl (ne_of_list_tuple h1' h1)
  | scr m=>unfold ReV at q;obtain⟨a',its',e,h1',h2'⟩:=q;injection e with e;subst e;exact absurd rfl (ne_of_list_tuple h1' h1)
 | .lst l,u,v,r,q=>by
  unfold ReV at r;obtain⟨a,its,rfl,h1,h2⟩:=r
  cases u with
  | non=>unfold ReV at q;cases q
  | dct _ _=>unfold ReV at q;exact q.elim
  | bl _=>unfold ReV at q;cases q
  | int _=>unfold ReV at q;obtain⟨_,e⟩:=q;cases e
  | str _=>unfold ReV at q;obtain⟨_,e⟩:=q;cases e
  | lst m=>
   unfold ReV at q;obtain⟨a',its',e,h1',h2'⟩:=q;injection e with e;subst e
   have:=cA h1 h1';subst this;unfold T.nf
   rw[ReVs.nf h2 h2']
  | tup m=>unfold ReV at q;obtain⟨a',its',e,h1',h2'⟩:=q;injection e with e;subst e;exact absurd rfl (ne_of_list_tuple h1 h1')
  | scr m=>
   unfold ReV at q;obtain⟨a',its',e,h1',h2'⟩:=q;injection e with e;subst e
   have:=cA h1 h1';subst this;unfold T.nf
   rw[ReVs.nf h2 (dA h2'),sJ]
 | .scr l,u,v,r,q=>by
  unfold ReV at r;obtain⟨a,its,rfl,h1,h2⟩:=r
  cases u with
  | non=>unfold ReV at q;cases q
  | dct _ _=>unfold ReV at q;exact q.elim
  | bl _=>unfold ReV at q;cases q
  | int _=>unfold ReV at q;obtain⟨_,e⟩:=q;cases e
  | str _=>unfold ReV at q;obtain⟨_,e⟩:=q;cases e
  | lst m=>
   unfold ReV at q;obtain⟨a',its',e,h1',h2'⟩:=q;injection e with e;subst e
   have:=cA h1 h1';subst this
   have z:=vP h2' h2;unfold T.nf
   rw[z]
  | tup m=>unfold ReV at q;obtain⟨a',its',e,h1',h2'⟩:=q;injection e with e;subst e;exact absurd rfl (ne_of_list_tuple h1 h1')
  | scr m=>
   unfold ReV at q;obtain⟨a',its',e,h1',h2'⟩:=q;injection e with e;subst e
   have:=cA h1 h1';subst this
   rw[im h2 h2']
 | .dct _ _,u,v,r,q=>by unfold ReV at r;exact r.elim
theorem ReVs.nf {s:Jk}:∀{l m:List T} {us:List Ji},ReVs s l us->ReVs s m us->nfs l=nfs m
 | [],m,us,r,q=>by
  cases ReVs.Hy.mp r
  cases m with
  | nil=>rfl
  | cons _ _=>obtain⟨_,_,e,_⟩:=ReVs.me.mp q;cases e
 | t::l,m,us,r,q=>by
  obtain⟨v,ws,rfl,p,z⟩:=ReVs.me.mp r
  cases m with
  | nil=>cases ReVs.Hy.mp q
  | cons u m=>
   obtain⟨v',ws',e,p',z'⟩:=ReVs.me.mp q;injection e with e1 e2
   subst e1 e2;rw[nfs,nfs,ReV.nf p p',ReVs.nf z z']
end
section
variable {X:Cx}{a b c:Expr}{fa fb fc:En->Rs T}{pos:Pos}
def fA (x y:T):Bool:=(decide (x.dep<=60)||decide (y.dep<=60))&&(x.nd&&y.nd)
def qI (x y:T):Rs T:=if fA x y=true then .ok (.bl (aR x y))else .bad
def vj (x y:T):Rs T:=if fA x y=true then .ok (.bl (!aR x y))else .bad
theorem gi {x y:T}(h:x.dep<=60)(hx:x.nd=true)(hy:y.nd=true):fA x y=true:=by unfold fA;rw[decide_eq_true h,hx,hy];rfl
theorem z7 {x y:T}(h:y.dep<=60)(hx:x.nd=true)(hy:y.nd=true):fA x y=true:=by unfold fA;rw[decide_eq_true h,hx,hy,Bool.or_true];rfl
theorem iP {x y:T}(h:fA x y=true):x.nd=true/\y.nd=true:=by
 unfold fA at h;exact Li.mp (Li.mp h).2
theorem oX {x y:T}(h:fA x y=true):x.dep<=60\/y.dep<=60:=by
 unfold fA at h
 replace h:=(Li.mp h).1
 rcases Bool.or_eq_true_iff.mp h with h | h
 ·exact .inl (of_decide_eq_true h)
 ·exact .inr (of_decide_eq_true h)
theorem r9 (hu:X.A.units+60<cLine):OpT X (Kh .Eq) qI:=by
 intro pins s σ H O x y vx vy ux uy Q I hf rx ry r1 r2 hp;unfold qI at hp
 split at hp
 ·rename_i h
  have z:=Ck 60 X.A s x y ux uy (oX h) hu (Rep.val I (iP h).1 rx r1) (Rep.val I (iP h).2 ry r2);exact z.2.1 _ _ _ _ ⟨.bl _,H,I,rfl,hp H (Same.refl H) _ (Rep.bl_ _)⟩
 ·exact hp.elim
theorem r6 (hu:X.A.units+60<cLine):OpT X (Kh .NotEq) vj:=by
 intro pins s σ H O x y vx vy ux uy Q I hf rx ry r1 r2 hp;unfold vj at hp
 split at hp
 ·rename_i h
  have z:=Ck 60 X.A s x y ux uy (oX h) hu (Rep.val I (iP h).1 rx r1) (Rep.val I (iP h).2 ry r2);exact z.2.2 _ _ _ _ ⟨.bl _,H,I,rfl,hp H (Same.refl H) _ (Rep.bl_ _)⟩
 ·exact hp.elim
def T.items:T->Option (List T)
 | .tup l=>some l
 | .lst l=>some l
 | .scr l=>some (l.map T.int)
 | _=>none
def pi (x:T)(l:List T):Bool:=l.any λy=>aR y x
def FE (x y:T):Rs T:=match y.items with
 | some l=>if (x.dep<=60\/deps l<=60)/\x.nd=true/\y.nd=true then .ok (.bl (pi x l))else .bad
 | none=> .bad
theorem B3 {A:JZ}{s:Jk}{x:T}{ux:Ji}(rx:ReV s x ux)(hu:A.units+60<cLine){l:List T}{us:List Ji}(hd:x.dep<=60\/deps l<=60)(r:ReVs s l us) :
  ∃e:Ji->Bool,(∀y∈us,EqAt A s y ux (e y))/\us.any e=pi x l:=by
 classical
 have ex:∀y∈us,∃t∈l,ReV s t y:=λy hy=>by
  obtain⟨i,hi,rfl⟩:=LX hy
  have hl:=r.length
  have e1:l[i]? =some l[i]:=by simp
  obtain⟨u,q1,q2⟩:=r.get e1
  have:us[i]? =some us[i]:=by simp
  rw[this]at q1;cases q1;exact⟨l[i],Lg _,q2⟩
 let e:Ji->Bool:=λy=>decide (∃t∈l,ReV s t y/\aR t x=true)
 have dep:∀t∈l,t.dep<=60\/x.dep<=60:=λt ht=>by
  rcases hd with h | h
  ·exact .inr h
  ·obtain⟨i,hi,rfl⟩:=LX ht
   exact .inl (JQ (iq (i:=i) (by simp)) h)
 have uniq:∀y t t',ReV s t y->ReV s t' y->aR t x=aR t' x:=λy t t' z z'=>by
  rw[<-j7 t,<-j7 t',ReV.nf z z']
 have agree:∀y t,t∈l->ReV s t y->e y=aR t x:=λy t h z=>by
  show decide (∃t∈l,ReV s t y/\aR t x=true)=aR t x
  cases q:aR t x with
  | true=>exact decide_eq_true ⟨t,h,z,q⟩
  | false=>
   refine decide_eq_false ?_
   rintro ⟨t',h',z',q'⟩
   rw[<-uniq y t t' z z',q]at q';cases q'
 refine⟨e,λy hy=> ?_,?_⟩
 ·obtain⟨t,h,z⟩:=ex y hy
  rw[agree y t h z];exact(Ck 60 A s t x y ux (dep t h) hu z rx).1
 ·have go:∀(l':List T) (us':List Ji),(∀t∈l',t∈l)->ReVs s l' us'->us'.any e=l'.any λy=>aR y x:=by
   intro l'
   induction l' with
   | nil=>intro us' _ r';rw[ReVs.Hy.mp r'];rfl
   | cons t l' ih=>
    intro us' sub r';obtain⟨u,ws,rfl,p,q⟩:=ReVs.me.mp r';rw[LY,LY,ih ws (λt ht=>sub t (Jh _ ht)) q,agree u t (sub t Jj) p]
  exact go l us (λ_ h=>h) r
theorem w9 {s:Jk}{y:T}{u:Ji}{l:List T}(r:ReV s y u)(h:y.items=some l):∃a us,u= .ref a/\ReVs s l us/\(s.heap.IsTuple a us.toArray\/s.heap.IsList a us.toArray):=by
 cases y with
 | tup m=>cases h;unfold ReV at r;obtain⟨a,us,e,h1,h2⟩:=r;exact⟨a,us,e,h2,.inl h1⟩
 | lst m=>cases h;unfold ReV at r;obtain⟨a,us,e,h1,h2⟩:=r;exact⟨a,us,e,h2,.inr h1⟩
 | scr m=>cases h;unfold ReV at r;obtain⟨a,us,e,h1,h2⟩:=r;exact⟨a,us,e,dA h2,.inr h1⟩
 | _=>cases h
theorem Gw (hu:X.A.units+61<cLine):OpT X (Kh .In) FE:=by
 intro pins s σ H O x y vx vy ux uy Q I hf rx ry r1 r2 hp;unfold FE at hp
 split at hp
 ·rename_i l hl
  split at hp
  ·rename_i hd3
   obtain⟨hd,hnx,hny⟩:=hd3;obtain⟨a,us,rfl,rs,hh⟩:=w9 (Rep.val I hny ry r2) hl;obtain⟨e,he,ha⟩:=B3 (A:=X.A.in1) (Rep.val I hnx rx r1) (by show X.A.units+1+60<cLine;omega) hd rs
   have q:=hp H (Same.refl H) _ (Rep.bl_ (pi x l))
   have he':∀y,y∈us.toArray->EqAt X.A.in1 s y ux (e y):=λy hy=>he y (by simpa using hy)
   have ha':us.toArray.any e=pi x l:=by simpa using ha
   rcases hh with hh | hh
   ·exact in_tupleAt e hh he' (by rw[ha'];exact⟨.bl _,H,I,rfl,q⟩)
   ·exact in_listAt e hh he' (by rw[ha'];exact⟨.bl _,H,I,rfl,q⟩)
  ·exact hp.elim
 ·exact hp.elim
def ch (g g':T->T->Rs T)(fa fb fc:En->Rs T)(Z:En):Rs T:=do
 let x <-fa Z
 let y <-fb Z
 let z <-g x y
 match z with
 | .bl true=>do
  let w <-fc Z
  g' y w
 | .bl false=> .ok (.bl false)
 | _=> .bad
theorem Bz {op op':CmpOp}{g g':T->T->Rs T}(ho:OpT X (Kh op) g)(ho':OpT X (Kh op') g')(ha:cj X a fa)(hb:cj X b fb)(hc:cj X c fc)
  (hm:lastMarks [op,op'] [b,c] =false:=by with_unfolding_all rfl):cj X (.Compare a [op,op'] [b,c] pos) (ch g g' fa fb fc):=by
 intro pins s σ H Q I ⟨Z,O,E,hq⟩
 have h1:=aV E hq;refine Compare_chain (cg (ha pins s σ H _ I h1) λv s1 ⟨x,H1,I1,r1,t,rt,s',E',q1⟩=>chain_link ?_) hm
 have h2:=aV (f:=fb) E' q1;refine cg (hb pins s1 σ H1 _ I1 h2) λu s2 hh_=> ?_
 obtain⟨y,H2,I2,r2,t2,rt2,s'',E'',q2⟩:=hh_
 refine cg (ho pins s2 σ H2 O t t2 x y v u (λv' H'=> ∃t',Rep X.K O H' t' v'/\Same H2 H'/\Post X H' (match t' with
  | .bl true=>fc Z >>= λw=>g' t2 w
  | .bl false=> .ok (.bl false)
  | _=> .bad) (λt H'=> ∀v,Rep X.K O H' t v->Q v H')) I2 (λp=>E''.fresh) (rt.same s'') rt2 r1 r2 (Post.mono q2.bind λt' H' s3 q v rv=>⟨t',rv,s3,q⟩)) λd s3 ⟨z,H3,I3,r3,t3,rt3,sm3,q3⟩=> ?_
 have E3:=E''.same sm3
 split at q3
 ·cases Rep.HC.mp rt3
  cases r3;refine Kx (ite_tt (chain_last ?_))
  have h4:=aV (f:=fc) E3 q3;refine cg (hc pins s3 σ H3 _ I3 h4) λw' s4 ⟨z',H4,I4,r4,t4,rt4,s4',E4,q4⟩=> ?_
  exact ho' pins s4 σ H4 O t2 t4 y z' u w' Q I4 (λp=>E4.fresh) ((rt2.same sm3).same s4') rt4 r2 r4 q4
 ·cases Rep.HC.mp rt3
  cases r3;refine Kx (ite_ff ⟨.bl false,H3,I3,rfl,q3 H3 (Same.refl H3) _ (Rep.bl_ false)⟩)
 ·exact q3.elim
def tb (f:En->Rs T)(Z:En):Rs Bool:=do
 let x <-f Z
 match x with
 | .bl k=> .ok k
 | _=> .bad
def bt (f:En->Rs Bool)(Z:En):Rs T:=do
 let k <-f Z
 .ok (.bl k)
theorem DE {e:Expr}{f:En->Rs T}(h:cj X e f)(he:∀whole,isTrue e X.env whole=(do let v <-whole;standAt e.pos;holding [v] (truthy v)):=by intro _;rfl):tM X e (tb f):=by
 intro pins s σ H Q I ⟨Z,O,E,hq⟩;refine D7 h he pins s σ H Q I ?_
 obtain⟨Z1,O1,E1,h1⟩:=aV E hq;refine⟨Z1,O1,E1,Post.mono h1 λts H1 s1 q vs r=> ?_⟩
 obtain⟨t',r',s',E',q'⟩:=q vs r
 split at q'
 ·exact⟨_,Rep.HC.mp r',q' H1 (Same.refl H1)⟩
 ·exact q'.elim
theorem DG {op:CmpOp}{g:T->T->Rs T}(ho:OpT X (Kh op) g)(ha:cj X a fa)(hb:cj X b fb)(hm:Oj op b=false:=by rfl):tM X (.Compare a [op] [b] pos) (tb (o2 g fa fb)):=by
 intro pins s σ H Q I ⟨Z,O,E,hq⟩
 have hq':Post X H (o2 g fa fb Z) λt H'=> ∀v,Rep X.K O H' t v->∃k,v= .bl k/\Q k H':=Post.mono hq.bind λt H' s' q v r=>by
  split at q
  ·exact⟨_,Rep.HC.mp r,q H' (Same.refl H')⟩
  ·exact q.elim
 have h1:=aV E hq';refine wpAny_isTrue_Compare1 (cg (ha pins s σ H _ I h1) λv s1 ⟨x,H1,I1,r1,t,rt,s',E',q1⟩=> ?_) hm
 have h2:=aV (f:=fb) E' q1;refine cg (hb pins s1 σ H1 _ I1 h2) λu s2 hh_=> ?_
 obtain⟨y,H2,I2,r2,t2,rt2,s'',E'',q2⟩:=hh_;refine cg (ho pins s2 σ H2 O t t2 x y v u _ I2 (λp=>E''.fresh) (rt.same s'') rt2 r1 r2 q2) λd s3 hh_=> ?_
 obtain⟨z,H3,I3,r3,k,e,q3⟩:=hh_;subst e;cases r3;exact Kx ⟨H3,I3,q3⟩
def lp (f g:En->Rs Bool)(Z:En):Rs Bool:=do
 let k <-f Z
 if k then g Z else .ok false
def nF (f g:En->Rs Bool)(Z:En):Rs Bool:=do
 let k <-f Z
 if k then .ok true else g Z
def c6 (f:En->Rs Bool)(Z:En):Rs Bool:=do
 let k <-f Z
 .ok (!k)
variable {f g:En->Rs Bool}{bJ:List Expr}
abbrev Dj (X:Cx)(e:Expr)(f:En->Rs Bool):Prop:=PW X e (yc X f)
theorem Bh (ha:tM X a f):Dj X (.BoolOp .And [a] pos) f:=BC ha
theorem DC (ha:tM X a f):Dj X (.BoolOp .Or [a] pos) f:=D2 ha
theorem DD (ha:tM X a f)(hb:Dj X (.BoolOp .And (b::bJ) pos) g):Dj X (.BoolOp .And (a::b::bJ) pos) (lp f g):=by
 intro wh pins s σ H Q I ⟨Z,O,E,hq⟩;refine D5 ha hb wh pins s σ H Q I ?_
 obtain⟨Z1,O1,E1,h1⟩:=jC E hq;refine⟨Z1,O1,E1,Post.mono h1 λk H1 s1 q=> ?_⟩
 obtain⟨s',E',q'⟩:=q
 cases k with
 | true=>rw[if_pos rfl];exact⟨Z,O,E',by simpa using q'⟩
 | false=>rw[if_neg JP];exact q' H1 (Same.refl H1)
theorem F5 (ha:tM X a f)(hb:Dj X (.BoolOp .Or (b::bJ) pos) g):Dj X (.BoolOp .Or (a::b::bJ) pos) (nF f g):=by
 intro wh pins s σ H Q I ⟨Z,O,E,hq⟩;refine Go ha hb wh pins s σ H Q I ?_
 obtain⟨Z1,O1,E1,h1⟩:=jC E hq;refine⟨Z1,O1,E1,Post.mono h1 λk H1 s1 q=> ?_⟩
 obtain⟨s',E',q'⟩:=q
 cases k with
 | true=>rw[if_pos rfl];exact q' H1 (Same.refl H1)
 | false=>rw[if_neg JP];exact⟨Z,O,E',by simpa using q'⟩
theorem qt_w {e:Expr}(h:Dj X e f):tM X e f:=h.pt
theorem DF (ha:tM X a f):tM X (.UnaryOp .Not a pos) (c6 f):=by
 intro pins s σ H Q I ⟨Z,O,E,hq⟩;refine D8 ha pins s σ H Q I ?_
 obtain⟨Z1,O1,E1,h1⟩:=jC E hq;exact⟨Z1,O1,E1,Post.mono h1 λk H1 s1 ⟨s',E',q'⟩=>q' H1 (Same.refl H1)⟩
def bM (f g:En->Rs T)(Z:En):Rs T:=do
 let x <-f Z
 match x with
 | .bl true=>g Z
 | .bl false=> .ok (.bl false)
 | _=> .bad
def wJ (f g:En->Rs T)(Z:En):Rs T:=do
 let x <-f Z
 match x with
 | .bl true=> .ok (.bl true)
 | .bl false=>g Z
 | _=> .bad
def sj:T->Rs T
 | .bl k=> .ok (.bl (!k))
 | _=> .bad
theorem Gc {op}(h:cj X a fa):cj X (.BoolOp op [a] pos) fa:=Eh h
theorem Gn (ha:cj X a fa)(hb:cj X (.BoolOp .And (b::bJ) pos) fb):cj X (.BoolOp .And (a::b::bJ) pos) (bM fa fb):=by
 intro pins s σ H Q I ⟨Z,O,E,hq⟩;refine Em ha hb pins s σ H Q I ?_
 obtain⟨Z1,O1,E1,h1⟩:=aV E hq;refine⟨Z1,O1,E1,Post.mono h1 λts H1 s1 q vs r=> ?_⟩
 obtain⟨t',r',s',E',q'⟩:=q vs r
 split at q'
 ·exact⟨true,Rep.HC.mp r',by rw[if_pos rfl];exact⟨Z,O,E',q'⟩⟩
 ·exact⟨false,Rep.HC.mp r',by rw[if_neg JP];exact q' H1 (Same.refl H1) _ (Rep.bl_ false)⟩
 ·exact q'.elim
theorem q_or (ha:cj X a fa)(hb:cj X (.BoolOp .Or (b::bJ) pos) fb):cj X (.BoolOp .Or (a::b::bJ) pos) (wJ fa fb):=by
 intro pins s σ H Q I ⟨Z,O,E,hq⟩;refine Gu ha hb pins s σ H Q I ?_
 obtain⟨Z1,O1,E1,h1⟩:=aV E hq;refine⟨Z1,O1,E1,Post.mono h1 λts H1 s1 q vs r=> ?_⟩
 obtain⟨t',r',s',E',q'⟩:=q vs r
 split at q'
 ·exact⟨true,Rep.HC.mp r',by rw[if_pos rfl];exact q' H1 (Same.refl H1) _ (Rep.bl_ true)⟩
 ·exact⟨false,Rep.HC.mp r',by rw[if_neg JP];exact⟨Z,O,E',q'⟩⟩
 ·exact q'.elim
theorem Gd (ha:cj X a fa):cj X (.UnaryOp .Not a pos) (o1 sj fa):=by
 intro pins s σ H Q I ⟨Z,O,E,hq⟩;refine Ei ha pins s σ H Q I ?_
 obtain⟨Z1,O1,E1,h1⟩:=aV E hq;refine⟨Z1,O1,E1,Post.mono h1 λts H1 s1 q vs r=> ?_⟩
 obtain⟨t',r',s',E',q'⟩:=q vs r;unfold sj at q'
 split at q'
 ·exact⟨_,Rep.HC.mp r',q' H1 (Same.refl H1) _ (Rep.bl_ _)⟩
 ·exact q'.elim
def tL (f:En->Rs Bool)(fa fb:En->Rs T)(Z:En):Rs T:=do
 let k <-f Z
 if k then fa Z else fb Z
theorem q_if (hc:tM X c f)(ha:cj X a fa)(hb:cj X b fb):cj X (.IfExp c a b pos) (tL f fa fb):=by
 intro pins s σ H Q I ⟨Z,O,E,hq⟩;refine yR hc ha hb pins s σ H Q I ?_
 obtain⟨Z1,O1,E1,h1⟩:=jC E hq;refine⟨Z1,O1,E1,Post.mono h1 λk H1 s1 q=> ?_⟩
 obtain⟨s',E',q'⟩:=q
 cases k with
 | true=>rw[if_pos rfl];exact⟨Z,O,E',by simpa using q'⟩
 | false=>rw[if_neg JP];exact⟨Z,O,E',by simpa using q'⟩
end
end Tr
namespace HT
open PySem PyProof.Rows
section
variable {prog:JI}{w:Kn}{A:JZ}{E:Ji->Jk->Prop}{s:Jk}
theorem iY {t:Addr}{items:Array Ji}{Q:Bool->Jk->Prop}(ht:RH s.heap t items)(h:Q true s):wpAny (model prog w) A (NG (.ref t)) Q E s:=by
 unfold NG;refine Je (LA ht.typeIs (Jl ?_))
 exact h
theorem getItem_tuple_whole {t sl:Addr}{items:Array Ji}{vl vu:Ji}{lo hi:Option Int}{Q:Ji->Jk->Prop}(ht:RH s.heap t items)(hs:s.heap.IsSliceOf sl vl vu .none)(pl:P7 vl lo)(pu:P7 vu hi)
  (hw:sIx items.size 0 lo=0/\sIx items.size items.size hi=items.size) (h:Q (.ref t) s):wpAny (model prog w) A (getItem (.ref t) (.ref sl)) Q E s:=by
 obtain⟨os,hos,hcs,hds⟩:=id hs
 have hTs:s.TypeIs (.ref sl) "slice":=⟨os,hos,hcs⟩;unfold getItem
 try with_reducible refine J3 ?_
 first | refine Je (Jl ?_) | skip
 refine Je (Qt ht.typeIs (by decide) ?_)
 refine Je (J4 (name:=JC "__getitem__") ht.typeIs Ke
  (J9 Ke ht.typeIs PC ?_ (P8 _ _)))
 show wpAny _ _ (NF (.ref t) >>= _) _ _ s
 refine Je (P9 ht ?_)
 refine Je (LA hTs ?_)
 rw[if_pos (by decide)]
 refine Je (ga hs pl pu ?_)
 have hyes:(((sIx items.size 0 lo:Nat):Int) == 0&&(1:Int) == 1&&(sIx items.size items.size hi - sIx items.size 0 lo) == items.size)=true:=by
  rw[hw.1,hw.2];simp
 show wpAny _ _ (if (((sIx items.size 0 lo:Nat):Int) == 0&&(1:Int) == 1&&(sIx items.size items.size hi - sIx items.size 0 lo) == items.size)=true then _ else _) _ _ s
 rw[if_pos hyes]
 first
  | refine Je (iY ht ?_)
  | refine iY ht ?_
 try rw[if_pos rfl]
 first
  | exact Je (LU (Jl ⟨_,rfl,Jl h⟩))
  | exact Je (LU (Je (Jl (Jl ⟨_,rfl,Jl h⟩))))
end
end HT
namespace Tr
open PySem PySem.Spec PyProof.Rows L2
section
variable {X:Cx}{a b c:Expr}{fa fb fc:En->Rs T}{pos:Pos}
theorem Reps.atI {K:Jg}{O:Ow}{H:Hp}{l:List T}{vs:List V}{i:Int}{t:T}(r:Reps K O H l vs)(e:L2.atI l i=some t):∃v,L2.atI vs i=some v/\Rep K O H t v:=by
 unfold L2.atI at e ⊢;rw[r.length]at e
 cases q:ixN vs.length i with
 | none=>rw[q]at e;cases e
 | some j=>
  rw[q]at e;obtain⟨v,e1,e2⟩:=r.get (i:=j) (t:=t) e;exact⟨v,e1,e2⟩
def aO (x y:T):Rs T:=match x.items,y with
 | some l,.int i=>match L2.atI l i with
  | some t=> .ok t
  | none=> .bad
 | _,_=> .bad
theorem q_ix (ha:cj X a fa)(hb:cj X b fb)(hs:wf b:=by intro _ _;rfl):cj X (.Subscript a b pos) (o2 aO fa fb):=by
 intro pins s σ H Q I ⟨Z,O,E,hq⟩
 have h1:=aV E hq;refine Subscript_ (cg (ha pins s σ H _ I h1) λv s1 hh_=> ?_)
 obtain⟨x,H1,I1,r1,t,rt,s',E',q1⟩:=hh_
 have h2:=aV (f:=fb) E' q1;refine cg (hb pins s1 σ H1 _ I1 h2) λu s2 hh_=> ?_
 obtain⟨y,H2,I2,r2,t2,rt2,s'',E'',q2⟩:=hh_
 have rt':=rt.same s'';unfold aO at q2
 split at q2
 ·rename_i l i hl
  split at q2
  ·rename_i z hz
   have hy:=Rep.Hz.mp rt2;refine EV a b pins s2 σ H2 x y v u Q I2 r1 r2 ?_ (hs _ _)
   cases t with
   | tup m=>
    cases hl;obtain⟨p,vs,e,n,q,rr⟩:=Rep.HB.mp rt';obtain⟨w,ew,rw'⟩:=rr.atI hz
    exact .inr (.inl ⟨p,vs,i,w,e,hy,SqT.of q,ew,q2 H2 (Same.refl H2) _ rw'⟩)
   | lst m=>
    cases hl;obtain⟨p,vs,e,n,q,rr⟩:=Rep.HA.mp rt';obtain⟨w,ew,rw'⟩:=rr.atI hz
    exact .inl ⟨p,vs,i,w,e,hy,SqL.of q,ew,q2 H2 (Same.refl H2) _ rw'⟩
   | scr m=>
    cases hl;unfold Rep at rt';obtain⟨p,e,n,q⟩:=rt';obtain⟨w,ew,rw'⟩:=(Reps.ints (K:=X.K) (O:=O) (H:=H2) (ns:=m)).atI hz
    exact .inl ⟨p,_,i,w,e,hy,q,ew,q2 H2 (Same.refl H2) _ rw'⟩
   | _=>cases hl
  ·exact q2.elim
 ·exact q2.elim
def lj (l:List T)(lo hi:Option Int):List T:=(l.drop (HT.sIx l.length 0 lo)).take (HT.sIx l.length l.length hi - HT.sIx l.length 0 lo)
theorem Reps.cut {K:Jg}{O:Ow}{H:Hp}{l:List T}{vs:List V}(r:Reps K O H l vs)(lo hi:Option Int):Reps K O H (lj l lo hi) (tG vs lo hi):=by
 unfold lj tG;rw[r.length];exact(r.drop _).take _
theorem xy {l:List T}{lo hi:Option Int}(h:HT.sIx l.length 0 lo=0/\HT.sIx l.length l.length hi=l.length):lj l lo hi=l:=by
 unfold lj;rw[h.1,h.2];simp
theorem sl_tup_whole:SlR X (λx lo hi H Q=> ∃a xs,x= .ref a/\SqT X.K H a xs/\(HT.sIx xs.length 0 lo=0/\HT.sIx xs.length xs.length hi=xs.length)/\Q (.ref a) H):=by
 intro pins s σ H x v vl vu lo hi sl Q I rx hs pl pu h;obtain⟨a,xs,rfl,hx,hw,q⟩:=h;cases rx;obtain⟨its,r,ht,hz⟩:=I.tuple hx
 have hlen:its.toArray.size=xs.length:=by rw[Jw];exact r.length.symm
 refine⟨"tuple",_,Ke.lookup,ht.typeIs,?_⟩
 exact HT.getItem_tuple_whole ht hs pl pu (by rw[hlen];exact hw) ⟨.ref a,H,I,rfl,q⟩
def pN (_:En):Rs (Option Int):=.ok none
def pS (f:En->Rs T)(Z:En):Rs (Option Int):=do
 let x <-f Z
 match x with
 | .int i=> .ok (some i)
 | _=> .bad
def tPO (X:Cx)(f:En->Rs (Option Int)):TO:=λσ H Q=> ∃Z O,EnvO X.K O H Z σ/\Post X H (f Z) λb H'=>Q b H'
abbrev Hb (X:Cx)(e:Option Expr)(f:En->Rs (Option Int)):Prop:=PO X e (tPO X f)
theorem Br:Hb X none pN:=by
 intro pins s σ H Q I ⟨Z,O,E,hq⟩;exact BJ pins s σ H Q I (hq H (Same.refl H))
theorem Bq (ha:cj X a fa):Hb X (some a) (pS fa):=by
 intro pins s σ H Q I ⟨Z,O,E,hq⟩;refine BI ha pins s σ H Q I ?_
 obtain⟨Z1,O1,E1,h1⟩:=aV E hq;refine⟨Z1,O1,E1,Post.mono h1 λts H1 s1 q vs r=> ?_⟩
 obtain⟨t',r',s',E',q'⟩:=q vs r
 split at q'
 ·exact⟨_,Rep.Hz.mp r',q' H1 (Same.refl H1)⟩
 ·exact q'.elim
def slT (x:T)(lo hi:Option Int):Rs T:=match x with
 | .tup l=> .ok (.tup (lj l lo hi))
 | .lst l=> .ok (.lst (lj l lo hi))
 | _=> .bad
def sl (fe:En->Rs T)(fl fu:En->Rs (Option Int))(Z:En):Rs T:=do
 let x <-fe Z
 let l <-fl Z
 let u <-fu Z
 slT x l u
theorem rz {σ:L2.St}{H:Hp}{Z:En}{O:Ow}{α:Type}{f:En->Rs (Option Int)}{k:Option Int->Rs α}{Q:α->Hp->Prop}(E:EnvO X.K O H Z σ)(h:Post X H (f Z >>= k) Q) :
  tPO X f σ H λb H'=>Same H H'/\EnvO X.K O H' Z σ/\Post X H' (k b) Q:=
 ⟨Z,O,E,Post.mono h.bind λt H' s q=>⟨s,E.same s,q⟩⟩
theorem By {lo hi:Option Expr}{p2:Pos}{fl fu:En->Rs (Option Int)}(ha:cj X a fa)(hl:Hb X lo fl)(hu:Hb X hi fu):cj X (.Subscript a (.Slice lo hi none p2) pos) (sl fa fl fu):=by
 intro pins s σ H Q I ⟨Z,O,E,hq⟩;refine yP (sl_tup.or (sl_tup_whole.or Bc)) ha hl hu pins s σ H Q I ?_
 obtain⟨Z1,O1,E1,h1⟩:=aV E hq;refine⟨Z1,O1,E1,Post.mono h1 λts H1 s1 q vs r=> ?_⟩
 obtain⟨t',r',s',E',q'⟩:=q vs r;obtain⟨Z2,O2,E2,h2⟩:=rz E' q';refine⟨Z2,O2,E2,Post.mono h2 λo1 H2 s2 q=> ?_⟩
 obtain⟨s2',E2',q2⟩:=q;obtain⟨Z3,O3,E3,h3⟩:=rz E2' q2;refine⟨Z3,O3,E3,Post.mono h3 λo2 H3 s3 q=> ?_⟩
 obtain⟨s3',E3',q3⟩:=q
 have rt:=(r'.same s2').same s3';unfold slT at q3
 split at q3
 ·rename_i l
  obtain⟨p,ws,e,n,q,rr⟩:=Rep.HB.mp rt
  have hlen:=rr.length
  by_cases hw:HT.sIx ws.length 0 o1=0/\HT.sIx ws.length ws.length o2=ws.length
  ·refine .inr (.inl ⟨p,ws,e,SqT.of q,hw,?_⟩)
   rw[<-hlen]at hw;refine q3 H3 (Same.refl H3) _ ?_
   rw[xy hw];exact Rep.HB.mpr ⟨p,ws,rfl,n,q,rr⟩
  ·exact .inl ⟨p,ws,e,SqT.of q,hw,λp' hp=>q3 _ (aN hp _) _ (gc hp (E3'.fresh hp) (rr.cut o1 o2))⟩
 ·rename_i l
  obtain⟨p,ws,e,n,q,rr⟩:=Rep.HA.mp rt;exact .inr (.inr ⟨p,ws,e,SqL.of q,λp' hp=>q3 _ (aN hp _) _ (hV hp (E3'.fresh hp) (rr.cut o1 o2))⟩)
 ·exact q3.elim
def CallT (X:Cx)(f:Ji)(g:List T->Rs T):Prop:=
 ∀(pins:List (Addr×Obj)) (s:Jk) (σ:L2.St) (H:Hp) (O:Ow) (ts:List T) (vs:List V) (us:List Ji) (Q:VK),Inv X pins σ H s->(∀p,H p=none->¬ O p)->Reps X.K O H ts vs->Vals vs us →
  Post X H (g ts) (λt H'=> ∀v,Rep X.K O H' t v->Q v H')->wpAny (model X.prog X.w) X.A (call f us) (EP X pins σ Q) X.xe s
theorem CallT.of {f:Ji}{r:List V->Hp->VK->Prop}(h:CallR X f r){g:List T->Rs T}
  (w:∀(H:Hp) (O:Ow) (ts:List T) (vs:List V) (Q:VK),(∀p,H p=none->¬ O p)->Reps X.K O H ts vs->Post X H (g ts) (λt H'=> ∀v,Rep X.K O H' t v->Q v H')->r vs H Q):CallT X f g:=
 λpins s σ H O ts vs us Q I hf rs rv hp=>h pins s σ H vs us Q I rv (w H O ts vs Q hf rs hp)
def cl (g:List T->Rs T)(fs:En->Rs (List T))(Z:En):Rs T:=fs Z >>= g
variable {e:Expr}{es:List Expr}{fs:En->Rs (List T)}{x:Str}{p:Pos}{id:String}{g:List T->Rs T}
theorem BA (hc:CallT X (.builtin id) g)(hm:X.mg x=none)(hv:JT x=some (.builtin id))(ha:qR X (e::es) fs)(hg:Gl X x:=by rfl)(hn:x≠ "__name__":=by decide)(hdb:ie x:=by decide)
  (he:JF (e::es) X.env=(false,eval e X.env)::JF es X.env:=by rfl) (hpl:(backTo pos (JF es X.env)).any (·.1)=false:=by rfl):cj X (.Call (.Name x p) (e::es) [] pos) (cl g fs):=by
 intro pins s σ H Q I ⟨Z,O,E,hq⟩;refine Kg (eE I hg hm hv ?_ hn hdb)
 have h1:=d8 E hq;exact LV (cg (ha pos pins s σ H _ I h1) λus s1 ⟨vs,H1,I1,r1,ts,rs,s',E',q1⟩=>hc pins s1 σ H1 O ts vs us Q I1 (λp=>E'.fresh) rs r1 q1) he hpl
theorem yG {Ty:String}(hc:CallT X (.type Ty) g)(hm:X.mg x=none)(hv:JT x=some (.type Ty))(ha:qR X (e::es) fs)(hg:Gl X x:=by rfl)(hn:x≠ "__name__":=by decide)(hdb:ie x:=by decide)
  (he:JF (e::es) X.env=(false,eval e X.env)::JF es X.env:=by rfl) (hpl:(backTo pos (JF es X.env)).any (·.1)=false:=by rfl):cj X (.Call (.Name x p) (e::es) [] pos) (cl g fs):=by
 intro pins s σ H Q I ⟨Z,O,E,hq⟩;refine Kg (eE I hg hm hv ?_ hn hdb)
 have h1:=d8 E hq;exact J5 (cg (ha pos pins s σ H _ I h1) λus s1 ⟨vs,H1,I1,r1,ts,rs,s',E',q1⟩=>hc pins s1 σ H1 O ts vs us Q I1 (λp=>E'.fresh) rs r1 q1) he hpl
theorem Reps.one {K:Jg}{O:Ow}{H:Hp}{t:T}{vs:List V}(r:Reps K O H [t] vs):∃v,vs= [v]/\Rep K O H t v:=by
 obtain⟨v,ws,rfl,p,q⟩:=Reps.me.mp r;cases Reps.Hy.mp q;exact⟨v,rfl,p⟩
theorem Rep.sq {K:Jg}{O:Ow}{H:Hp}{t:T}{v:V}{l:List T}(r:Rep K O H t v)(h:t.items=some l):∃a vs,v= .ref a/\¬ O a/\Reps K O H l vs/\(SqL K H a vs\/SqT K H a vs):=by
 cases t with
 | tup m=>cases h;obtain⟨a,vs,e,n,q,z⟩:=Rep.HB.mp r;exact⟨a,vs,e,n,z,.inr (SqT.of q)⟩
 | lst m=>cases h;obtain⟨a,vs,e,n,q,z⟩:=Rep.HA.mp r;exact⟨a,vs,e,n,z,.inl (SqL.of q)⟩
 | scr m=>cases h;unfold Rep at r;obtain⟨a,e,n,q⟩:=r;exact⟨a,_,e,n,Reps.ints,.inl q⟩
 | _=>cases h
def cU:List T->Rs T
 | [.str x] =>if x.length<=sizeLine then .ok (.int x.length)else .bad
 | [x] =>match x.items with
  | some l=> .ok (.int l.length)
  | none=> .bad
 | _=> .bad
theorem cV:CallT X (.builtin "len") cU:=CallT.of (call_len_seq.or qN) λH O ts vs Q hf rs hp=>by
 unfold cU at hp
 split at hp
 ·obtain⟨v,rfl,r⟩:=rs.one
  split at hp
  ·rename_i h
   exact .inr ⟨_,by rw[Rep.HJ.mp r],h,hp H (Same.refl H) _ (Rep.HG _)⟩
  ·exact hp.elim
 ·obtain⟨v,rfl,r⟩:=rs.one
  split at hp
  ·rename_i l hl
   obtain⟨a,vs,rfl,n,z,q⟩:=r.sq hl;exact .inl ⟨a,vs,rfl,q,hp H (Same.refl H) _ (by rw[<-z.length];exact Rep.HG _)⟩
  ·exact hp.elim
 ·exact hp.elim
def ez:List T->Rs T
 | [.tup l] => .ok (.tup l)
 | [.lst l] => .ok (.tup l)
 | _=> .bad
theorem ir:CallT X (.type "tuple") ez:=CallT.of n6 λH O ts vs Q hf rs hp=>by
 unfold ez at hp
 split at hp
 ·obtain⟨v,rfl,r⟩:=rs.one
  obtain⟨a,ws,rfl,n,q,z⟩:=Rep.HB.mp r;exact⟨a,ws,rfl,.inr ⟨SqT.of q,hp H (Same.refl H) _ (Rep.HB.mpr ⟨a,ws,rfl,n,q,z⟩)⟩⟩
 ·obtain⟨v,rfl,r⟩:=rs.one
  obtain⟨a,ws,rfl,n,q,z⟩:=Rep.HA.mp r;exact⟨a,ws,rfl,.inl ⟨SqL.of q,λl hl=>hp _ (aN hl _) _ (gc hl (hf l hl) z)⟩⟩
 ·exact hp.elim
def zP:List T->Rs T
 | [.int i] => .ok (.int i)
 | [.bl k] => .ok (.int (if k then 1 else 0))
 | _=> .bad
theorem Fs:CallT X (.type "int") zP:=CallT.of xE λH O ts vs Q hf rs hp=>by
 unfold zP at hp
 split at hp
 ·obtain⟨v,rfl,r⟩:=rs.one
  exact .inl ⟨_,by rw[Rep.Hz.mp r],hp H (Same.refl H) _ (Rep.HG _)⟩
 ·obtain⟨v,rfl,r⟩:=rs.one
  exact .inr ⟨_,by rw[Rep.HC.mp r],hp H (Same.refl H) _ (Rep.HG _)⟩
 ·exact hp.elim
def mU:List T->Option (List Bool)
 | [] =>some []
 | .bl k::r=>(mU r).map (k:: ·)
 | _=>none
def m5:List T->Rs T
 | [.lst l] =>match mU l with
  | some ks=> .ok (.bl (ks.all λk=>k))
  | none=> .bad
 | _=> .bad
theorem mT {K:Jg}{O:Ow}{H:Hp}:∀{l:List T} {ks:List Bool} {vs:List V} {us:List Ji},mU l=some ks->Reps K O H l vs->Vals vs us->us=ks.map Ku
 | [],ks,vs,us,e,r,v=>by cases e;cases Reps.Hy.mp r;cases v;rfl
 | t::l,ks,vs,us,e,r,v=>by
  obtain⟨w,ws,rfl,p,q⟩:=Reps.me.mp r
  cases t with
  | bl k=>
   unfold mU at e
   cases z:mU l with
   | none=>rw[z]at e;cases e
   | some ks'=>
    rw[z]at e;cases e
    cases v with
    | cons v1 v2=>
     cases Rep.HC.mp p;cases v1
     rw[mT z q v2];rfl
  | _=>cases e
theorem mQ (hc:X.calm=true):CallT X (.builtin "all") m5:=by
 intro pins s σ H O ts vs us Q I hf rs rv hp;unfold m5 at hp
 split at hp
 ·obtain⟨v,rfl,r⟩:=rs.one
  split at hp
  ·rename_i ks hk
   obtain⟨a,ws,rfl,n,q,z⟩:=Rep.HA.mp r;obtain⟨u,rfl,ru⟩:=gX rv;cases ru;obtain⟨its,r',pl,hz⟩:=I.list (SqL.of q)
   have hits:=mT hk z r';refine call_all_walk (Mm pl.isList ?_)
   have hne:a≠s.heap.objs.size:=λe=>by
    obtain⟨o,ho,_⟩:=pl.isList;rw[e]at ho;exact absurd (Jr ho) (JJ _)
   refine⟨s.heap.objs.size,_,_,_,_,_,λi=>(ks[i]?).getD true,rfl,Walks.list (A:=X.A.in1) (I.ok.hd hc) s.heap.objs.size a hne its.toArray,⟨⟨_,Js _ rfl,rfl,rfl⟩,?_⟩,?_,?_⟩
   ·obtain⟨o,ho,hh⟩:=pl.isList
    exact⟨o,Jf _ ho,hh⟩
   ·intro i v s' Q' E' hP hQ'
    subst hits
    dsimp only at hQ'
    have hP':(ks.map Ku)[i]? =some v:=by simpa using hP
    rw[JG]at hP'
    cases e:ks[i]? with
    | none=>rw[e]at hP';cases hP'
    | some k=>
     rw[e]at hP' hQ';cases hP';exact Kx hQ'
   ·intro h' tk hk'
    have hlen:its.toArray.size=ks.length:=by rw[hits];simp
    have e:((Kv its.toArray.size).all λi=>(ks[i]?).getD true)=(ks.all λk=>k):=by
     rw[hlen];rw[Bool.eq_iff_iff,JL,JL]
     constructor
     ·intro h x hx
      obtain⟨i,hi,rfl⟩:=LX hx
      have:=h i (KY.mpr hi)
      simpa [hi]using this
     ·intro h i hi
      have hi':=KY.mp hi
      have:=h ks[i] (Lg hi')
      simpa [hi']using this
    rw[e]
    have I1:Inv X pins σ H { s with heap:=s.heap.push { cls:=.type "list_iterator",data:=.fields #[.ref a,.int 0 0] } }:=I.kept (t':=s.toks) λb o e=>Jf _ e
    have I2:Inv X pins σ H { s with heap:=h',toks:=tk }:=by
     have:=I1.turned (h':=h') (t':=tk) (it:=s.heap.objs.size) (λb o hb e=>hk' b o (by simpa using hb) e) (I.hok.fresh (Jv _))
      (Lv I.lt) (.inr I.sz) (λx c e z=> ?_) (λp hp z=> ?_)
     ·exact this
     ·obtain⟨v,q⟩:=I.cell x c e
      exact absurd (Jt q.lt (Lj z.symm)) (JJ _)
     ·exact absurd (Jt (Jr (I.pin p hp).1) (Lj z.symm)) (JJ _)
    exact⟨.bl _,H,I2,rfl,hp H (Same.refl H) _ (Rep.bl_ _)⟩
  ·exact hp.elim
 ·exact hp.elim
end
def T.ty:T->Option String
 | .non=>some "NoneType"
 | .bl _=>some "bool"
 | .int _=>some "int"
 | .str _=>some "str"
 | .tup _=>some "tuple"
 | .lst _=>some "list"
 | .scr _=>none
 | .dct _ _=>none
def tq (i b t l s:Bool)(Ty:String):Option Bool:=match Ty with
 | "int" =>some i | "bool" =>some b | "tuple" =>some t | "list" =>some l | "str" =>some s
 | _=>none
def vO (n Ty:String):Option Bool:=match n with
 | "NoneType" =>tq false false false false false Ty
 | "bool" =>tq true true false false false Ty
 | "int" =>tq true false false false false Ty
 | "str" =>tq false false false false true Ty
 | "tuple" =>tq false false true false false Ty
 | "list" =>tq false false false true false Ty
 | _=>none
theorem xf (K:Jg){n Ty:String}{b:Bool}(h:vO n Ty=some b):PySem.W.kitOne K (.type n) (.type Ty)=some b:=by
 unfold vO at h
 split at h <;> first | (cases h;done) | (unfold tq at h;split at h <;> first | (cases h;done) | (cases h;kernel_rfl))
def Cf (Ty:String)(t:T):Rs T:=match t.ty with
 | some n=>match vO n Ty with
  | some b=> .ok (.bl b)
  | none=> .bad
 | none=> .bad
theorem Rep.Jd {K:Jg}{O:Ow}{H:Hp}{t:T}{v:V}{n:String}(r:Rep K O H t v)(h:t.ty=some n):kJ K H v (.type n):=by
 cases t with
 | non=>cases h;cases Rep.HP.mp r;exact .non
 | bl b=>cases h;cases Rep.HC.mp r;exact .bl b
 | int b=>cases h;cases Rep.Hz.mp r;exact .int b
 | str b=>cases h;cases Rep.HJ.mp r;exact .str b
 | tup l=>cases h;obtain⟨a,vs,rfl,_,q,_⟩:=Rep.HB.mp r;exact .tup q
 | lst l=>cases h;obtain⟨a,vs,rfl,_,q,_⟩:=Rep.HA.mp r;exact .lst q
 | scr l=>cases h
 | dct _ _=>cases h
section
variable {X:Cx}{a b c e:Expr}{es:List Expr}{fa fb fc:En->Rs T}{fs:En->Rs (List T)}{pos p p2:Pos}{x:Str}
theorem lm:JT "isinstance" =some (.builtin "isinstance"):=by decide+kernel
theorem Gh {tn:Str}{Ty:String}(hm:X.mg "isinstance" =none)(hmt:X.mg tn=none)(hv:JT tn=some (.type Ty))(ha:cj X a fa)(hg:Gl X "isinstance":=by rfl)(hgt:Gl X tn:=by rfl)
  (hn:tn≠ "__name__":=by decide) (hd:ie tn:=by decide)
  (he:JF [a,.Name tn p2] X.env=(false,eval a X.env)::JF [.Name tn p2] X.env:=by rfl) (hpl:(backTo pos (JF [.Name tn p2] X.env)).any (·.1)=false:=by rfl)
  (hs:JF [.Name tn p2] X.env=(false,eval (.Name tn p2) X.env)::JF [] X.env:=by rfl) :
  cj X (.Call (.Name "isinstance" p) [a,.Name tn p2] [] pos) (o1 (Cf Ty) fa):=by
 intro pins s σ H Q I ⟨Z,O,E,hq⟩;refine Kg (eE I hg hm lm ?_ (by decide) (by decide))
 have hA:PA X [a,.Name tn p2] (yd (tP X fa) (yd (tC (.ty Ty)) FM)):=gp ha (gp (BU (v:=.ty Ty) hgt hmt hv rfl hn hd) kg hs) he;obtain⟨Z1,O1,E1,h1⟩:=aV E hq;refine LV (cg (hA pos pins s σ H (λvs H'=> ∃v t,vs= [v,.ty Ty]/\Rep X.K O H' t v/\Post X H' (Cf Ty t) (λt H'=> ∀v,Rep X.K O H' t v->Q v H')) I ?_) λus s1 ⟨vs,H1,I1,r1,v,t,e1,rt,q⟩=> ?_) he hpl
 ·refine⟨Z1,O1,E1,Post.mono h1 λts H1 s1 q vs r=> ?_⟩
  obtain⟨t',r',s',E',q'⟩:=q vs r;exact⟨vs,t',rfl,r',q'⟩
 ·subst e1
  obtain⟨u,w',rfl,ru,rw'⟩:=x5 r1;cases rw';unfold Cf at q
  split at q
  ·rename_i n hn'
   split at q
   ·rename_i bb hb
    exact xc I1 ru (rt.Jd hn') (xf _ hb) λtk=>⟨.bl bb,H1,I1.tok _,rfl,q H1 (Same.refl H1) _ (Rep.bl_ _)⟩
   ·exact q.elim
  ·exact q.elim
def spP (K:Jg)(n:Nat)(g:List T->Rs T):Sp:=λvs H Q _=> ∃ts O,Reps K O H ts vs/\(∀a,O a->Mtb H a)/\ts.length=n ∧
 match g ts with
 | .ok t=> ∀v H',Same H H'->Rep K O H' t v->Q v H'
 | _=>False
def RzC (P:JI)(w:Kn)(mg:Str->Option Ji)(outer:List Env)(H:Hp)(s:Jk)(c:Str)(ev:Ji)(s':Jk):Prop:=
 ∃e T C H',ev= .ref e/\mg c=some (.ref C)/\s'.os=s.os/\Oi s'.gens/\Un (qE outer) [] H H' s.heap s'.heap/\HOk P w H' s'.heap/\Same H H'/\H' e=none/\s.heap.get? e=none/\Hw s'.heap C e (some T)/\H' T=none/\s.heap.get? T=none
def FnX (P:JI)(w:Kn)(K:Jg)(mg:Str->Option Ji)(base:Heap)(k:Nat)(f:Addr)(fd:Ld)(ps:List Str)(n:Nat)(g:List T->Rs T):Prop:=
 ∀(A:JZ) (outer:List Env) (s:Jk) (H:Hp) (args:Args) (us:List Ji) (vs:List V) (O:Ow) (ts:List T) (c:Str) (R:Rv->Jk->Prop),Room k A->AI P w K mg base A outer s H->Qs s fd args (ps.zip us)->Vals vs us →
  Reps K O H ts vs->(∀a,O a->Mtb H a)->ts.length=n->g ts= .err c->(∀ev s',RzC P w mg outer H s c ev s'->R (.error ev) s')->codeAny (model P w) A (.call (.ref f) args) R s
structure Fz (P:JI)(w:Kn)(K:Jg)(mg:Str->Option Ji)(base:Heap)(k:Nat)(f:Addr)(fd:Ld)(ps:List Str)(n:Nat)(g:List T->Rs T):Prop where
 h:qT P w K mg base CX0 k f fd ps (spP K n g)
 x:FnX P w K mg base k f fd ps n g
theorem yZ {P:JI}{w:Kn}{H:Hp}{h:Heap}{a:Addr}{o:HO}(x:ObjOk P w H h a o):∃u,h.get? a=some u:=by
 cases o with
 | lst xs=>obtain⟨_,_,_,_,e⟩:=x;exact⟨_,e⟩
 | tup xs=>obtain⟨_,_,_,ob,e,_⟩:=x;exact⟨_,e⟩
 | dK kvs=>obtain⟨_,_,_,_,o,_,_,e,_⟩:=x;exact⟨_,e⟩
 | dT kvs=>obtain⟨_,_,_,_,o,_,_,e,_⟩:=x;exact⟨_,e⟩
 | set S n=>obtain⟨o,_,_,_,e,_⟩:=x;exact⟨_,e⟩
 | ins C dx fs=>obtain⟨_,_,_,e,_⟩:=x;exact⟨_,e⟩
 | own y=>obtain⟨_,e⟩:=x;exact⟨_,e⟩
 | xd fs=>obtain⟨_,⟨_,_,_,e,_⟩,_⟩:=x;exact⟨_,e⟩
 | rng lo hi=>obtain⟨_,_,_,e⟩:=x;exact⟨_,e⟩
 | frz ob u=>obtain⟨e,_⟩:=x;exact⟨_,e⟩
 | tbl ps=>exact⟨_,(show h.get? a=some _ from x)⟩
 | met f y=>exact⟨_,(show h.get? a=some _ from x)⟩
 | ext φ=>obtain⟨_,⟨_,e⟩,_⟩:=x;exact⟨_,e⟩
theorem sv {X:Cx}{pins:List (Addr×Obj)}{σ:L2.St}{H:Hp}{s:Jk}(I:Inv X pins σ H s){e:Addr}(n:s.heap.get? e=none):H e=none:=by
 cases z:H e with
 | none=>rfl
 | some o=>
  obtain⟨o',ho'⟩:=yZ (I.hok e o z);rw[n]at ho';cases ho'
theorem qg {X:Cx}{pins:List (Addr×Obj)}{σ:L2.St}{H:Hp}{s:Jk}(I:Inv X pins σ H s)(hex:X.ex= []){e:Addr}(n:s.heap.get? e=none):X.s₀.heap.get? e=none:=by
 cases z:X.s₀.heap.get? e with
 | none=>rfl
 | some o=>
  obtain⟨o',ho'⟩:=I.base.there e o z (by rw[hex];simp)
  rw[n]at ho';cases ho'
theorem DZ {n k:Nat}{f:Addr}{fd:Ld}{ps:List Str}{g:List T->Rs T}(F:Fz X.prog X.w X.K X.mg X.base k f fd ps n g)(hr:Room k X.A)(hm:X.mg x=some (.ref f))(hk:M4 X.K (.ref f)=true)(hb:Binds X.K fd ps [])(hps:ps.length=n)
  (hl:∀Z ts,fs Z= .ok ts->ts.length=n) (ha:qR X (e::es) fs) (hg:Gl X x:=by rfl) (hdb:ie x:=by decide) (he:JF (e::es) X.env=(false,eval e X.env)::JF es X.env:=by rfl) (hpl:(backTo pos (JF es X.env)).any (·.1)=false:=by rfl) :
  cj X (.Call (.Name x p) (e::es) [] pos) (cl g fs):=by
 intro pins s σ H Q I ⟨Z,O,E,hq⟩
 have hq':Post X H (fs Z >>= g) λt H'=> ∀v,Rep X.K O H' t v->Q v H':=hq
 cases q:fs Z with
 | bad=>rw[q]at hq';exact hq'.elim
 | err c=>
  rw[q]at hq';refine vd (E:=E0) F.h hr hg hm hk hb .nil C2 ha hdb he hpl pins s σ H Q I ⟨Z,O,E,?_⟩
  rw[q]
  exact hq'
 | ok ts=>
  rw[q]at hq'
  have hq2:Post X H (g ts) λt H'=> ∀v,Rep X.K O H' t v->Q v H':=hq'
  cases q2:g ts with
  | bad=>rw[q2]at hq2;exact hq2.elim
  | ok t=>
   rw[q2]at hq2;refine vd (E:=E0) F.h hr hg hm hk hb .nil C2 ha hdb he hpl pins s σ H Q I ⟨Z,O,E,?_⟩
   rw[q];intro H1 s1 vs rs;rw[Km];refine⟨ts,O,rs,(E.same s1).mtb,hl Z ts q,?_⟩
   rw[q2]
   exact λv H' s2 r=>hq2 H' (s1.trans s2) v r
  | err c=>
   rw[q2]at hq2;refine Kg (ly I hg hm ?_ hdb)
   refine PK (h₀:=X.base) I.ok.mod.kin hk (cg (ha pos pins s σ H (λvs H'=>Same H H'/\Reps X.K O H' ts vs) I ⟨Z,O,E,?_⟩) (λus s1 ⟨vs,H1,I1,r,sm,rs⟩=>⟨I1.kIn,?_⟩)) he hpl
   ·rw[q];exact λH' sm vs rs=>⟨sm,rs⟩
   ·have hlen:us.length=ps.length:=by rw[<-r.length,<-rs.length,hl Z ts q,hps]
    have hb':=hb s1 us I1.kIn (by rw[Km];exact hlen)
    rw[Km]at hb';refine wpAny_call (OV (F.x X.A X.stack s1 H1 ⟨us,[]⟩ us vs O ts c (λr s'=>match r with | .error ev=>X.xe ev s' | _=>False) hr I1.IQ hb' r rs (E.same sm).mtb (hl Z ts q) q2 λev s' w=> ?_) λr s' hq=> ?_)
    ·obtain⟨ea,T,C,H',rfl,hmc,ho,hbare,hun,hok,sm2,hea,heo,fl,hT,hTo⟩:=w
     have I2:Inv X pins σ H' s':=I1.Ir ho hun hok hbare (λb z=>absurd z (by simp))
     exact hq2 pins _ _ ⟨ea,some T,C,σ,H',rfl,hmc,I2,λb o q _=>sm2 b o (sm b o q),hea,λhex=>qg I1 hex heo,fl,(λt zt=>by cases zt;exact⟨hT,λhex=>qg I1 hex hTo⟩),λpp hpp=>⟨λzz=>(by have:=(I1.pin pp hpp).1;rw[zz,heo]at this;cases this),λzz=>(by cases zz;have:=(I1.pin pp hpp).1;rw[hTo]at this;cases this)⟩⟩
    ·cases r with
     | error ev=>exact hq
     | ok fl=>exact hq.elim
def CS (X:Cx)(g:T->En->Rs En):TG:=λv σ H Q=> ∃Z O M t,EnvM X.K O M H Z σ/\Rep X.K O H t v/\match g t Z with
 | .ok Z'=> ∀σ',EnvM X.K O M H Z' σ'->Q σ' H
 | _=>False
abbrev Dk (X:Cx)(tg:Expr)(g:T->En->Rs En):Prop:=PG X tg (CS X g)
def tPGs (X:Cx)(g:List T->En->Rs En):CD:=λvs σ H Q=> ∃Z O M ts,EnvM X.K O M H Z σ/\Reps X.K O H ts vs/\match g ts Z with
 | .ok Z'=> ∀σ',EnvM X.K O M H Z' σ'->Q σ' H
 | _=>False
abbrev AF (X:Cx)(tg:List Expr)(g:List T->En->Rs En):Prop:=PGs X tg (tPGs X g)
theorem PG.imp {X:Cx}{e:Expr}{t t':TG}(h:PG X e t)(w:∀v σ H Q,t' v σ H Q->t v σ H Q):PG X e t':=λpins s σ H v u Q I r q=>h pins s σ H v u Q I r (w v σ H Q q)
theorem PGs.imp {X:Cx}{e:List Expr}{t t':CD}(h:PGs X e t)(w:∀v σ H Q,t' v σ H Q->t v σ H Q):PGs X e t':=λpins s σ H v u Q I r q=>h pins s σ H v u Q I r (w v σ H Q q)
def gN (i:Nat)(t:T)(Z:En):Rs En:=if i<Z.length then .ok (Z.set i (.va t))else .bad
theorem EnvM.set {K:Jg}{O:Ow}{M:Mn}{H:Hp}{Z:En}{σ:L2.St}{i:Nat}{t:T}{v:V}(E:EnvM K O M H Z σ)(hi:i<Z.length)(r:Rep K O H t v):EnvM K O M H (Z.set i (.va t)) (σ.set i (some v)) where
 len:=by rw[Kr,Kr];exact E.len
 val:=λj u e=>by
  by_cases hj:i=j
  ·subst hj
   rw[JM hi]at e
   cases e;exact⟨v,JM (by rw[<-E.len];exact hi),r⟩
  ·rw[JO hj]at e
   obtain⟨w,e1,e2⟩:=E.val j u e;exact⟨w,by rw[JO hj];exact e1,e2⟩
 own:=λj o e=>by
  by_cases hj:i=j
  ·subst hj
   rw[JM hi]at e
   cases e
  ·rw[JO hj]at e
   obtain⟨w,e1,e2⟩:=E.own j o e;exact⟨w,by rw[JO hj];exact e1,e2⟩
 sub:=E.sub
 dis:=E.dis
 trk:=E.trk
theorem Bw (i:Nat)(hN:X.N.Nodup)(hi:X.N[i]? =some x:=by rfl)(hx:Loc X.env.scope x:=by first | exact Lx rfl | exact KO rfl)(hf:X.fn x=true\/X.env.scope.names.lookup x=some .local:=by first | exact .inl rfl | exact .inr rfl | assumption):Dk X (.Name x pos) (gN i):=
 PG.imp (BQ hN hi hx hf) λv σ H Q hh_=>by
  obtain⟨Z,O,M,t,E,r,h⟩:=hh_;unfold gN at h
  split at h
  ·rename_i Z' e
   split at e
   ·rename_i hl
    cases e;exact h _ (E.set hl r)
   ·cases e
  ·exact h.elim
def oU (ts:List T)(Z:En):Rs En:=match ts with
 | [] => .ok Z
 | _=> .bad
def gW (g:T->En->Rs En)(gs:List T->En->Rs En)(ts:List T)(Z:En):Rs En:=match ts with
 | t::r=>do
  let Z1 <-g t Z
  gs r Z1
 | [] => .bad
theorem Bv:AF X [] oU:=PGs.imp BP λvs σ H Q hh_=>by
 obtain⟨Z,O,M,ts,E,r,h⟩:=hh_;unfold oU at h
 cases ts with
 | nil=>exact⟨Reps.Hy.mp r,h σ E⟩
 | cons _ _=>exact h.elim
theorem yE {g:T->En->Rs En}{gs:List T->En->Rs En}(h1:Dk X e g)(h2:AF X es gs)
  (hs:(KL (e::es) X.env).map (·.2)=assign e X.env::(KL es X.env).map (·.2):=by rfl):AF X (e::es) (gW g gs):=
 PGs.imp (yO h1 h2 hs) λvs σ H Q hh_=>by
  obtain⟨Z,O,M,ts,E,r,h⟩:=hh_
  cases ts with
  | nil=>exact h.elim
  | cons t ts=>
   obtain⟨v,ws,rfl,p,q⟩:=Reps.me.mp r;refine⟨v,ws,rfl,Z,O,M,t,E,p,?_⟩
   unfold gW at h
   cases e1:g t Z with
   | bad=>simp[e1]at h
   | err c=>simp[e1]at h
   | ok Z1=>
    intro σ1 E1;refine⟨Z1,O,M,ts,E1,q,?_⟩
    simp only[e1,aE]at h
    cases e2:gs ts Z1 with
    | bad=>simp[e2]at h
    | err c=>simp[e2]at h
    | ok Z2=>
     simp only[e2]at h;exact λσ2 E2=>h σ2 E2
def gT (n:Nat)(gs:List T->En->Rs En)(t:T)(Z:En):Rs En:=match t with
 | .tup l=>if l.length=n then gs l Z else .bad
 | _=> .bad
theorem DT {k n:Nat}{gs:List T->En->Rs En}(hc:X.calm=true)(h:AF X es gs)(hn:(KL es X.env).length=n:=by rfl)(hst:(KL es X.env).findIdx? (·.1)=none:=by rfl):Dk X (.Tuple es k pos) (gT n gs):=
 PG.imp (Ed hc h hn hst) λv σ H Q hh_=>by
  obtain⟨Z,O,M,t,E,r,h⟩:=hh_;unfold gT at h
  cases t with
  | tup l=>
   obtain⟨a,vs,rfl,n',q,z⟩:=Rep.HB.mp r
   by_cases hl:l.length=n
   ·simp only[if_pos hl]at h
    exact⟨a,vs,rfl,SqT.of q,by rw[<-z.length];exact hl,Z,O,M,l,E,z,h⟩
   ·simp only[if_neg hl]at h
  | _=>exact h.elim
theorem SqL.nn {K:Jg}{H:Hp}{a:Addr}{vs:List V}(q:SqL K H a vs):¬ Nw K H a:=λ⟨h1,h2⟩=>by
 rcases q with(q | ⟨o,q⟩) | ⟨o,_,_,q,_⟩
 ·rw[h1]at q;cases q
 ·rw[h1]at q;cases q
 ·rw[h2]at q;cases q
mutual
theorem Rep.more {K:Jg}{O O':Ow}{H:Hp}(sub:∀a,O' a->O a\/Nw K H a):∀{t:T} {v:V},Rep K O H t v->Rep K O' H t v
 | .non,_,r=>by unfold Rep at r ⊢;exact r
 | .bl _,_,r=>by unfold Rep at r ⊢;exact r
 | .int _,_,r=>by unfold Rep at r ⊢;exact r
 | .str _,_,r=>by unfold Rep at r ⊢;exact r
 | .tup l,_,r=>by
  unfold Rep at r ⊢;obtain⟨a,vs,e,n,q,z⟩:=r
  exact⟨a,vs,e,λp=>(sub a p).elim n λw=>(by rw[w.1]at q;cases q),q,Reps.more sub z⟩
 | .lst l,_,r=>by
  unfold Rep at r ⊢;obtain⟨a,vs,e,n,q,z⟩:=r
  exact⟨a,vs,e,λp=>(sub a p).elim n λw=>(by rw[w.1]at q;cases q),q,Reps.more sub z⟩
 | .scr l,_,r=>by
  unfold Rep at r ⊢;obtain⟨a,e,n,q⟩:=r
  exact⟨a,e,λp=>(sub a p).elim n λw=>Tr.SqL.nn q w,q⟩
 | .dct ks ts,_,r=>by
  unfold Rep at r ⊢;obtain⟨a,kvs,e,n,q,k,z⟩:=r;exact⟨a,kvs,e,λp=>(sub a p).elim n λw=>(by rcases q with q | ⟨_,q⟩ <;> rw[w.1]at q <;> cases q),q,k,Reps.more sub z⟩
theorem Reps.more {K:Jg}{O O':Ow}{H:Hp}(sub:∀a,O' a->O a\/Nw K H a):∀{l:List T} {vs:List V},Reps K O H l vs->Reps K O' H l vs
 | [],_,r=>by unfold Reps at r ⊢;exact r
 | t::l,_,r=>by
  unfold Reps at r ⊢;obtain⟨v,ws,e,p,q⟩:=r;exact⟨v,ws,e,Rep.more sub p,Reps.more sub q⟩
end
theorem Rep.move {K:Jg}{O O' P:Ow}{H H':Hp}{t:T}{v:V}(hP:∀a,P a->O a\/Nw K H a)(hO:∀a,O' a->O a\/Nw K H a)(h:SameO P H H')(r:Rep K O H t v):Rep K O' H' t v:=
 Rep.less (O:=λa=>O' a\/P a) (λ_ z=> .inl z) (Rep.keep h (λ_ z=> .inr z) (Rep.more (λa z=>z.elim (hO a) (hP a)) r))
theorem Reps.move {K:Jg}{O O' P:Ow}{H H':Hp}{t:List T}{v:List V}(hP:∀a,P a->O a\/Nw K H a)(hO:∀a,O' a->O a\/Nw K H a)(h:SameO P H H')(r:Reps K O H t v):Reps K O' H' t v:=
 Reps.less (O:=λa=>O' a\/P a) (λ_ z=> .inl z) (Reps.keep h (λ_ z=> .inr z) (Reps.more (λa z=>z.elim (hO a) (hP a)) r))
def ItT (K:Jg)(O:Ow)(H:Hp)(ts:List T)(J:It):Prop:=∀(P O':Ow),(∀a,P a->O a\/Nw K H a)->(∀a,O' a->O a\/Nw K H a)->∀(i:Nat) (Hc:Hp),SameO P H Hc->(∀a,O' a->∃o,Hc a=some o) →
 (ts.length<=i->J.stop i Hc)/\(∀t,ts[i]? =some t->J.go i Hc/\∀x Hc',J.yld i Hc x Hc'->Same Hc Hc'/\Rep K O' Hc' t x)
def tPI (X:Cx)(f:En->Rs (List T)):TI:=λσ H R=> ∃Z O,EnvO X.K O H Z σ/\Post X H (f Z) λts H'=> ∀J,ItT X.K O H' ts J->R J H'
abbrev CG (X:Cx)(tg iter:Expr)(f:En->Rs (List T)):Prop:=PI X tg iter (tPI X f)
theorem PI.imp {tg iter:Expr}{t t':TI}(h:PI X tg iter t)(w:∀σ H R,t' σ H R->t σ H R):PI X tg iter t':=λpins s σ H R I q=>h pins s σ H R I (w σ H R q)
def iL (f:En->Rs T)(Z:En):Rs (List T):=do
 let x <-f Z
 match x with
 | .lst l=> .ok l
 | _=> .bad
def iT (f:En->Rs T)(Z:En):Rs (List T):=do
 let x <-f Z
 match x with
 | .tup l=> .ok l
 | _=> .bad
theorem u8 {tg:Expr}(ha:cj X a fa):CG X tg a (iL fa):=PI.imp (BN ha) λσ H R hh_=>by
 obtain⟨Z,O,E,h⟩:=hh_;obtain⟨Z1,O1,E1,h1⟩:=aV E h;refine⟨Z1,O1,E1,Post.mono h1 λts H1 s1 q vs r=> ?_⟩
 obtain⟨t',r',s',E',q'⟩:=q vs r
 split at q'
 ·rename_i l
  obtain⟨a,ws,rfl,n,q,z⟩:=Rep.HA.mp r';refine⟨a,rfl,⟨ws,SqL.of q⟩,q' H1 (Same.refl H1) _ λP O' hP hO i Hc hs ht=> ?_⟩
  have hnP:¬ P a:=λz=>(hP a z).elim n λw=>by rw[w.1]at q;cases q
  refine⟨λhi=>⟨ws,SqL.of (hs _ _ q hnP),by rw[<-z.length];exact hi⟩,λt ht'=> ?_⟩
  obtain⟨v,e1,e2⟩:=z.get ht';refine⟨⟨ws,v,SqL.of (hs _ _ q hnP),e1⟩,λx Hc' y=> ?_⟩
  obtain⟨e,y⟩:=y;subst e
  have:=y ws (SqL.of (hs _ _ q hnP));rw[e1]at this;cases this;exact⟨Same.refl _,e2.move hP hO hs⟩
 ·exact q'.elim
theorem DQ {tg:Expr}(ha:cj X a fa):CG X tg a (iT fa):=PI.imp (Eb ha) λσ H R hh_=>by
 obtain⟨Z,O,E,h⟩:=hh_;obtain⟨Z1,O1,E1,h1⟩:=aV E h;refine⟨Z1,O1,E1,Post.mono h1 λts H1 s1 q vs r=> ?_⟩
 obtain⟨t',r',s',E',q'⟩:=q vs r
 split at q'
 ·rename_i l
  obtain⟨a,ws,rfl,n,q,z⟩:=Rep.HB.mp r';refine⟨a,rfl,⟨ws,SqT.of q⟩,q' H1 (Same.refl H1) _ λP O' hP hO i Hc hs ht=> ?_⟩
  have hnP:¬ P a:=λz=>(hP a z).elim n λw=>by rw[w.1]at q;cases q
  refine⟨λhi=>⟨ws,SqT.of (hs _ _ q hnP),by rw[<-z.length];exact hi⟩,λt ht'=> ?_⟩
  obtain⟨v,e1,e2⟩:=z.get ht';refine⟨⟨ws,v,SqT.of (hs _ _ q hnP),e1⟩,λx Hc' y=> ?_⟩
  obtain⟨e,y⟩:=y;subst e
  have:=y ws (SqT.of (hs _ _ q hnP));rw[e1]at this;cases this;exact⟨Same.refl _,e2.move hP hO hs⟩
 ·exact q'.elim
def rng (lo hi:Int):List T:=(Kv (hi - lo).toNat).map λ(k:Nat)=>T.int (lo+(k:Int))
def AK (i:Int):Bool:=decide (-(2 ^ 62)<=i)&&decide (i<2 ^ 62)
def iR (f:En->Rs (List T))(Z:En):Rs (List T):=do
 let x <-f Z
 match x with
 | [.int j] =>if AK j then .ok (rng 0 j)else .bad
 | [.int i,.int j] =>if AK i&&AK j then .ok (rng i j)else .bad
 | _=> .bad
theorem qC {i:Int}(h:AK i=true) : -(2 ^ 62)<=i/\i<2 ^ 62:=by
 unfold AK at h;rw[Jo]at h;exact⟨of_decide_eq_true h.1,of_decide_eq_true h.2⟩
theorem vN {K:Jg}{O:Ow}{H:Hp}(lo hi:Int):ItT K O H (rng lo hi) (Itr lo (hi - lo).toNat):=λP O' hP hO i Hc hs ht=>by
 refine⟨λh=> ?_,λt h=> ?_⟩
 ·show(hi - lo).toNat<=i
  unfold rng at h;rw[Jm,Lm]at h;exact h
 ·unfold rng at h
  rw[JG]at h
  by_cases hi':i<(hi - lo).toNat
  ·rw[List.getElem?_range hi']at h
   cases h;refine⟨hi',λx Hc' y=> ?_⟩
   obtain⟨e,y⟩:=y;subst e y;exact⟨Same.refl _,Rep.HG _⟩
  ·rw[K6 (by simpa using hi')]at h
   cases h
theorem wB {tg:Expr}(hm:X.mg "range" =none)(ha:qR X [a] fs)(hg:Gl X "range":=by rfl)(hs:JF [a] X.env= [(false,eval a X.env)]:=by rfl):CG X tg (.Call (.Name "range" p) [a] [] pos) (iR fs):=by
 intro pins s σ H R I ⟨Z,O,E,h⟩
 have h1:=d8 E h;refine Call_ (eE I hg hm boot_range (J5 (cg (ha pos pins s σ H _ I h1) λus s1 ⟨vs,H1,I1,r1,ts,rs,s',E',q1⟩=> ?_) hs rfl))
 split at q1
 ·obtain⟨v,rfl,r⟩:=rs.one
  split at q1
  ·rename_i j hj
   obtain⟨b1,b2⟩:=qC hj;cases Rep.Hz.mp r
   cases r1 with
   | cons r rr=>
    cases rr;obtain⟨t,rfl⟩:=r;exact call_range_1 (rY I1 (by omega) (by omega) b1 b2 (q1 H1 (Same.refl H1) _ (vN 0 j)))
  ·exact q1.elim
 ·obtain⟨v,ws,rfl,p1,q⟩:=Reps.me.mp rs
  obtain⟨v2,rfl,r⟩:=q.one
  split at q1
  ·rename_i i j hj
   rw[Jo]at hj;obtain⟨b1,b2⟩:=qC hj.1;obtain⟨b3,b4⟩:=qC hj.2;cases Rep.Hz.mp p1;cases Rep.Hz.mp r
   cases r1 with
   | cons r rr=>
    cases rr with
    | cons r' rr=>
     cases rr;obtain⟨t,rfl⟩:=r;obtain⟨t',rfl⟩:=r';exact call_range_2 (rY I1 b1 b2 b3 b4 (q1 H1 (Same.refl H1) _ (vN i j)))
  ·exact q1.elim
 ·exact q1.elim
end
section
variable {X:Cx}{a b c e:Expr}{es:List Expr}{fa fb fc:En->Rs T}{fs:En->Rs (List T)}{pos p p2:Pos}{x:Str}
def df (src:List (Option Nat))(Z:En):En:=src.map λo=>match o with
 | some i=>match Z[i]? with
  | some (.va t)=> .va t
  | _=> .em
 | none=> .em
def dg (tgt:T->En->Rs En)(fc:En->Rs Bool)(fe:En->Rs T):List T->En->Rs (List T)
 | [],_=> .ok []
 | t::r,Z=>do
  let Z1 <-tgt t Z
  let k <-fc Z1
  if k then do
   let y <-fe Z1
   let ys <-dg tgt fc fe r Z1
   .ok (y::ys)
  else dg tgt fc fe r Z1
def fH (fi:En->Rs (List T))(src:List (Option Nat))(tgt:T->En->Rs En)(fc:En->Rs Bool)(fe:En->Rs T)(Z:En):Rs T:=do
 let ts <-fi Z
 if ts.length<=sizeLine then match dg tgt fc fe ts (df src Z)with
  | .ok ys=> .ok (.lst ys)
  | _=> .bad
 else .bad
def bT (_:En):Rs Bool:=.ok true
def tP0 (K:Jg)(f:En->Rs T):TE:=λσ H Q=> ∃Z O,EnvO K O H Z σ/\match f Z with
 | .ok t=> ∀H',Same H H'->∀v,Rep K O H' t v->Q v H'
 | _=>False
def tPT0 (K:Jg)(f:En->Rs Bool):TT:=λσ H Q=> ∃Z O,EnvO K O H Z σ/\match f Z with
 | .ok t=> ∀H',Same H H'->Q t H'
 | _=>False
theorem tP0.up {f:En->Rs T}{σ:L2.St}{H:Hp}{Q:VK}(h:tP0 X.K f σ H Q):tP X f σ H Q:=by
 obtain⟨Z,O,E,h⟩:=h;refine⟨Z,O,E,?_⟩
 cases q:f Z with
 | ok t=>rw[q]at h;exact h
 | err c=>rw[q]at h;exact h.elim
 | bad=>rw[q]at h;exact h.elim
theorem tPT0.up {f:En->Rs Bool}{σ:L2.St}{H:Hp}{Q:Bool->Hp->Prop}(h:tPT0 X.K f σ H Q):yc X f σ H Q:=by
 obtain⟨Z,O,E,h⟩:=h;refine⟨Z,O,E,?_⟩
 cases q:f Z with
 | ok t=>rw[q]at h;exact h
 | err c=>rw[q]at h;exact h.elim
 | bad=>rw[q]at h;exact h.elim
theorem Bt:xN X [] (yc X bT):=λpins s σ H Q I ⟨Z,O,E,h⟩=>BL pins s σ H Q I (h H (Same.refl H))
theorem Bs {f:En->Rs Bool}(h:tM X c f):xN X [c] (yc X f):=BK h
abbrev noM:Mn:=λ_ _=>False
theorem wZ {src:List (Option Nat)}{Z:En}{j:Nat}{o:OT}(e:(df src Z)[j]? =some (.ow o)):False:=by
 unfold df at e;rw[JG]at e
 cases q:src[j]? with
 | none=>rw[q]at e;cases e
 | some o'=>
  rw[q]at e
  cases o' with
  | none=>cases e
  | some i=>
   have e':(match Z[i]? with | some (Sl.va t)=>Sl.va t | _=>Sl.em)=Sl.ow o:=JW e
   split at e' <;> cases e'
theorem zy {K:Jg}{O:Ow}{H:Hp}{Z:En}{σ:L2.St}(E:EnvO K O H Z σ)(src:List (Option Nat)):EnvM K O noM H (df src Z) (eU src σ) where
 len:=by unfold df eU;rw[Jm,Jm]
 val:=λj t e=>by
  unfold df at e;unfold eU;rw[JG]at e ⊢
  cases q:src[j]? with
  | none=>rw[q]at e;cases e
  | some o=>
   rw[q]at e
   cases o with
   | none=>cases e
   | some i=>
    have e':(match Z[i]? with | some (Sl.va t)=>Sl.va t | _=>Sl.em)=Sl.va t:=JW e
    cases q2:Z[i]? with
    | none=>rw[q2]at e';cases e'
    | some z=>
     rw[q2]at e'
     cases z with
     | em=>cases e'
     | ow l=>cases e'
     | va t'=>
      cases e';obtain⟨v,e1,e2⟩:=E.val i _ q2;exact⟨v,by simp[e1],e2⟩
 own:=λj o e=>(wZ e).elim
 sub:=λ_ _ z=>z.elim
 dis:=λ_ _ _ z=>z.elim
 trk:=E.mtb
theorem ORep.no {K:Jg}{O:Ow}{H:Hp}{o:OT}{v:V}(r:ORep K O wP H o v):False:=by
 cases o with
 | lst l=>obtain⟨a,_,_,e,_⟩:=r;exact(e a).mpr rfl
 | dct ks ts=>obtain⟨a,_,_,e,_⟩:=r;exact(e a).mpr rfl
 | dd ks rows=>obtain⟨a,_,_,_,e,_⟩:=r;exact(e a).mpr (.inl rfl)
theorem EnvM.move {K:Jg}{O O' P:Ow}{H H':Hp}{Z:En}{σ:L2.St}(E:EnvM K O noM H Z σ)(hP:∀a,P a->O a\/Nw K H a)(hO:∀a,O' a->O a\/Nw K H a)(h:SameO P H H')(trk:∀a,O' a->Mtb H' a):EnvM K O' noM H' Z σ where
 len:=E.len
 val:=λi t e=>let ⟨v,e1,e2⟩:=E.val i t e;⟨v,e1,e2.move hP hO h⟩
 own:=λi o e=>let ⟨_,_,r⟩:=E.own i o e;r.no.elim
 sub:=λ_ _ z=>z.elim
 dis:=λ_ _ _ z=>z.elim
 trk:=trk
def FD (fi:En->Rs (List T))(src:List (Option Nat))(tgt:T->En->Rs En)(fc:En->Rs Bool)(fe:En->Rs T)(Z:En):Rs (List T):=fi Z >>= λts=>if ts.length<=sizeLine then(match dg tgt fc fe ts (df src Z)with | .ok ys=>Rs.ok ys | _=> .bad)else .bad
theorem zx {src:List (Option Nat)}{fi:En->Rs (List T)}{tgt:T->En->Rs En}{fc:En->Rs Bool}{fe:En->Rs T}{Z:En}:fH fi src tgt fc fe Z=FD fi src tgt fc fe Z >>= λl=> .ok (.lst l):=by
 unfold fH FD
 cases fi Z with
 | bad=>rfl
 | err c=>rfl
 | ok ts=>
  rw[aE,aE]
  by_cases hz:ts.length<=sizeLine
  ·rw[if_pos hz,if_pos hz]
   cases dg tgt fc fe ts (df src Z) <;> rfl
  ·rw[if_neg hz,if_neg hz];rfl
theorem zv {src:List (Option Nat)}{fi:En->Rs (List T)}{tgt:T->En->Rs En}{fc:En->Rs Bool}{fe:En->Rs T}{σ:L2.St}{H:Hp}{Q:VK}{Z:En}{O:Ow}(E:EnvO X.K O H Z σ)
  (hq1:Post X H (FD fi src tgt fc fe Z) λall H1=> ∀D ys H',Nw X.K H1 D->Same H1 H'->H' D=some (.lst ys)->Reps X.K (λa=>O a\/a=D) H' all ys->Q (.ref D) H'):FP X.K (tPI X fi) src (CS X tgt) (tPT0 X.K fc) (tP0 X.K fe) σ H Q:=by
 unfold FD at hq1;refine⟨Z,O,E,Post.mono hq1.bind λts H1 s1 q1 J hJ D hD hK=> ?_⟩
 have E1:=E.same s1
 by_cases hz:ts.length<=sizeLine
 ·rw[if_pos hz]at q1
  cases hall:dg tgt fc fe ts (df src Z)with
  | bad=>rw[hall]at q1;exact q1.elim
  | err c=>rw[hall]at q1;exact q1.elim
  | ok all=>
   rw[hall]at q1
   have q2:∀D ys H',Nw X.K H1 D->Same H1 H'->H' D=some (.lst ys)->Reps X.K (λa=>O a\/a=D) H' all ys->Q (.ref D) H':=q1 H1 (Same.refl H1)
   have nD:Nw X.K H1 D:=⟨hD,hK⟩
   let O':Ow:=λa=>O a\/a=D
   have subO:∀a,O' a->O a\/Nw X.K H1 a:=λa z=>z.elim .inl λw=> .inr (w▸nD)
   -- the walk's word
   refine⟨λi m σ' ys H'=>m=ts.length - i/\i<=ts.length/\ys.length<=i/\H' D=some (.lst ys)/\SameO (λa=>a=D) (upd H1 D (.lst [])) H' ∧
    ∃Z' yts zs,EnvM X.K O' noM H' Z' σ'/\Reps X.K O' H' yts ys/\dg tgt fc fe (ts.drop i) Z'= .ok zs/\yts++zs=all,⟨ts.length,?_⟩,?_⟩
   ·have sN:Same H1 (upd H1 D (.lst [])):=aN hD _
    refine⟨by omega,KA _,Jv _,aP,λb o e _=>e,df src Z,[],all,?_,Reps.HI,by simpa using hall,rfl⟩
    have E2:EnvM X.K O noM H1 (df src Z) (eU src σ):=zy E1 src
    exact E2.move (P:=λa=>a=D) (λa z=> .inr (z▸nD)) subO (λb o e _=>sN b o e) λa z=>by
     rcases z with z | z
     ·exact(E1.mtb a z).same sN
     ·rw[z];exact .inl ⟨_,aP⟩
   ·rintro i m σ' ys H' ⟨rfl,hi',hyl,hDl,hsm,Z',yts,zs,E',ry,hl,hyz⟩
    refine⟨hDl,?_⟩
    have sm1:SameO (λa=>a=D) H1 H':=λb o e nb=>hsm b o (by rw[aJ nb];exact e) nb
    have it:=hJ (λa=>a=D) O' (λa z=> .inr (z▸nD)) subO i H' sm1 (λa z=>(E'.trk a z).some)
    by_cases hlt:i<ts.length
    ·refine .inr ?_
     have hti:ts[i]? =some ts[i]:=by simp
     obtain⟨go,yl⟩:=it.2 ts[i] hti;refine⟨go,by omega,λxx Hc y=> ?_⟩
     obtain⟨sc,rx⟩:=yl xx Hc y
     have Ec:=E'.same sc;rw[KZ hlt]at hl;unfold dg at hl;refine⟨Z',O',noM,ts[i],Ec,rx,?_⟩
     cases e1:tgt ts[i] Z' with
     | bad=>rw[e1]at hl;cases hl
     | err cc=>rw[e1]at hl;cases hl
     | ok Z1=>
      rw[e1,aE]at hl;intro σ1 Eg;refine⟨Z1,O',⟨noM,Eg⟩,?_⟩
      cases e2:fc Z1 with
      | bad=>rw[e2]at hl;cases hl
      | err cc=>rw[e2]at hl;cases hl
      | ok k=>
       rw[e2,aE]at hl;intro H3 s3
       have E3:=Eg.same s3
       have tot:Same H' H3:=sc.trans s3
       have D3:H3 D=some (.lst ys):=tot _ _ hDl
       have sm3:SameO (λa=>a=D) (upd H1 D (.lst [])) H3:=λb o e nb=>tot _ _ (hsm b o e nb)
       cases k with
       | false=>
        refine L2.iteF ?_
        have hl':dg tgt fc fe (ts.drop (i+1)) Z1= .ok zs:=by simpa using hl
        exact⟨ts.length - (i+1),by omega,rfl,hlt,by omega,D3,sm3,Z1,yts,zs,E3,ry.same tot,hl',hyz⟩
       | true=>
        refine L2.iteT ?_
        have hl':(fe Z1 >>= λy=>dg tgt fc fe (ts.drop (i+1)) Z1 >>= λys=>Rs.ok (y::ys))= .ok zs:=by simpa using hl
        refine⟨Z1,O',⟨noM,E3⟩,?_⟩
        cases e3:fe Z1 with
        | bad=>rw[e3]at hl';cases hl'
        | err cc=>rw[e3]at hl';cases hl'
        | ok yt=>
         rw[e3,aE]at hl'
         cases e4:dg tgt fc fe (ts.drop (i+1)) Z1 with
         | bad=>rw[e4]at hl';cases hl'
         | err cc=>rw[e4]at hl';cases hl'
         | ok zs'=>
          rw[e4,aE]at hl'
          have hzs:yt::zs'=zs:=by injection hl'
          intro H4 s4 v rv
          have D4:H4 D=some (.lst ys):=s4 _ _ D3
          have E4:=E3.same s4
          have tot4:Same H' H4:=tot.trans s4
          have smD:SameO (λa=>a=D) H4 (upd H4 D (.lst (ys++ [v]))):=λb o e nb=>by rw[aJ nb];exact e
          have inO:∀a,a=D->O' a\/Nw X.K H4 a:=λa z=> .inl (.inr z)
          refine⟨D4,ts.length - (i+1),by omega,rfl,hlt,?_,aP,λb o e nb=>smD b o (s4 _ _ (sm3 b o e nb)) nb,Z1,yts++ [yt],zs',?_,?_,e4,?_⟩
          ·rw[Ju,K4];omega
          ·exact E4.move inO (λa z=> .inl z) smD λaa z=>by
            by_cases hz:aa=D
            ·rw[hz];exact .inl ⟨_,aP⟩
            ·unfold Mtb;rw[aJ hz];exact E4.trk aa z
          ·have r1:Reps X.K O' H4 (yts++ [yt]) (ys++ [v]):=(ry.same tot4).append (Reps.HE rv Reps.HI)
           exact r1.move inO (λa z=> .inl z) smD
          ·rw[JV,List.singleton_append,hzs];exact hyz
    ·refine .inl ⟨it.1 (by omega),?_⟩
     have hi2:i=ts.length:=by omega
     subst hi2;rw[QZ]at hl
     have hzs:zs= []:=by unfold dg at hl;injection hl with hl;exact hl.symm
     subst hzs;rw[Km]at hyz;subst hyz
     have sF:Same H1 H':=λb o e=>sm1 b o e λz=>by rw[z,hD]at e;cases e
     exact q2 D ys H' nD sF hDl ry
 ·rw[if_neg hz]at q1
  exact q1.elim
theorem vD {src:List (Option Nat)}{fi:En->Rs (List T)}{tgt:T->En->Rs En}{fc:En->Rs Bool}{fe:En->Rs T}{σ:L2.St}{H:Hp}{Q:VK}(h0:tP X (fH fi src tgt fc fe) σ H Q):FP X.K (tPI X fi) src (CS X tgt) (tPT0 X.K fc) (tP0 X.K fe) σ H Q:=by
 obtain⟨Z,O,E,hq⟩:=h0;refine zv E ?_
 have e:fH fi src tgt fc fe Z=FD fi src tgt fc fe Z >>= λl=> .ok (.lst l):=zx
 rw[e]at hq
 cases q:FD fi src tgt fc fe Z with
 | bad=>rw[q]at hq;exact hq.elim
 | err c=>rw[q]at hq;exact hq
 | ok l=>
  rw[q,aE]at hq;intro H1 s1 D ys H' nD sD eD rD;exact hq H' (s1.trans sD) _ (Rep.HA.mpr ⟨D,ys,rfl,λz=>(E.same s1).fresh nD.1 z,eD,rD.less λa z=> .inl z⟩)
theorem q_lc {elt tg iter:Expr}{ifs:List Expr}{scope:Ny}{N':List Str}{src:List (Option Nat)}{fi:En->Rs (List T)}{tgt:T->En->Rs En}{fc:En->Rs Bool}{fe:En->Rs T}
  (hc:X.calm=true) (S:LcScope X scope N' src) (hi:CG X tg iter fi)
  (block:∀cl C s₀ H₀ fp,Dk (cq X scope cl N' C s₀ H₀ fp) tg tgt/\xN (cq X scope cl N' C s₀ H₀ fp) ifs (yc (cq X scope cl N' C s₀ H₀ fp) fc)/\cj (cq X scope cl N' C s₀ H₀ fp) elt fe)
  (hs:∀x,Ky iter X.env x=pure x:=by intro _;rfl) :
  cj X (.ListComp elt [⟨tg,iter,ifs,0⟩] scope pos) (fH fi src tgt fc fe):=by
 have hPG:∀cl C s₀ H₀ fp,PG (cq X scope cl N' C s₀ H₀ fp) tg (CS X tgt):=λcl C s₀ H₀ fp=>(block cl C s₀ H₀ fp).1
 have hPI:∀cl C s₀ H₀ fp,xN (cq X scope cl N' C s₀ H₀ fp) ifs (tPT0 X.K fc):=λcl C s₀ H₀ fp pins s σ H Q I h=>(block cl C s₀ H₀ fp).2.1 pins s σ H Q I (tPT0.up (X:=cq X scope cl N' C s₀ H₀ fp) h)
 have hPE:∀cl C s₀ H₀ fp,PE (cq X scope cl N' C s₀ H₀ fp) elt (tP0 X.K fe):=λcl C s₀ H₀ fp pins s σ H Q I h=>(block cl C s₀ H₀ fp).2.2 pins s σ H Q I (tP0.up (X:=cq X scope cl N' C s₀ H₀ fp) h)
 exact PE.imp (yQ (g:=CS X tgt) (tc:=tPT0 X.K fc) (te:=tP0 X.K fe) hc S hi (λcl C s₀ H₀ fp=>⟨hPG cl C s₀ H₀ fp,hPI cl C s₀ H₀ fp,hPE cl C s₀ H₀ fp⟩) hs) λσ H Q h=>vD h
inductive Fl where
 | nx (Z:En) | rt (t:T) | bk (Z:En) | ct (Z:En)
def OO (B:Ow)(M:Mn):Ow:=λa=>B a\/M.u a
structure Ev (K:Jg)(B:Ow)(M:Mn)(H:Hp)(Z:En)(σ:L2.St):Prop where
 env:EnvM K (OO B M) M H Z σ
 mine:∀a,M.u a->¬ B a
theorem Ev.same {K:Jg}{B:Ow}{M:Mn}{H H':Hp}{Z:En}{σ:L2.St}(h:Same H H')(e:Ev K B M H Z σ):Ev K B M H' Z σ:=⟨e.env.same h,e.mine⟩
theorem Ev.o {K:Jg}{B:Ow}{M:Mn}{H:Hp}{Z:En}{σ:L2.St}(e:Ev K B M H Z σ):EnvO K (OO B M) H Z σ:=⟨M,e.env⟩
def PostF (X:Cx)(B P:Ow)(H:Hp)(r:Rs Fl)(D:qW):Prop:=match r with
 | .ok (.nx Z')=> ∀σ' H' M',SameO P H H'->Ev X.K B M' H' Z' σ'->(∀a,M'.u a->P a\/Nw X.K H a)->D.nx σ' H'
 | .ok (.rt t)=> ∀v H',SameO P H H'->Rep X.K B H' t v->D.rt v H'
 | .ok (.bk Z')=> ∀σ' H' M',SameO P H H'->Ev X.K B M' H' Z' σ'->(∀a,M'.u a->P a\/Nw X.K H a)->D.bk σ' H'
 | .ok (.ct Z')=> ∀σ' H' M',SameO P H H'->Ev X.K B M' H' Z' σ'->(∀a,M'.u a->P a\/Nw X.K H a)->D.ct σ' H'
 | .err c=>XA X P H c
 | .bad=>False
def Hk (X:Cx)(F:En->Rs Fl):TS:=λD σ H=> ∃Z B M,Ev X.K B M H Z σ/\PostF X B M.u H (F Z) D
abbrev n8 (X:Cx)(s:Stmt)(F:En->Rs Fl):Prop:=PS X s (Hk X F)
abbrev lq (X:Cx)(s:List Stmt)(F:En->Rs Fl):Prop:=PSs X s (Hk X F)
theorem PostF.later {B P P1:Ow}{H H1:Hp}{r:Rs Fl}{D:qW}(h:PostF X B P H r D)(s:SameO P H H1)(sub:∀a,P1 a->P a\/Nw X.K H a):PostF X B P1 H1 r D:=by
 have back:∀a,P1 a\/Nw X.K H1 a->P a\/Nw X.K H a:=λa z=>z.elim (sub a) (gq s)
 cases r with
 | bad=>exact h
 | err c=>exact XA.later h s sub
 | ok f=>
  cases f with
  | nx Z'=>exact λσ' H' M' s' E' o'=>h σ' H' M' (s.trans s' sub) E' λa z=>back a (o' a z)
  | rt t=>exact λv H' s' r=>h v H' (s.trans s' sub) r
  | bk Z'=>exact λσ' H' M' s' E' o'=>h σ' H' M' (s.trans s' sub) E' λa z=>back a (o' a z)
  | ct Z'=>exact λσ' H' M' s' E' o'=>h σ' H' M' (s.trans s' sub) E' λa z=>back a (o' a z)
theorem PostF.xa {B P:Ow}{H:Hp}{c:Str}{D:qW}(h:PostF X B P H (.err c) D):XA X wP H c:=XA.later (P:=P) h (λ_ _ e _=>e) λ_ z=>z.elim
def sN (Z:En):Rs Fl:=.ok (.nx Z)
def ay (F G:En->Rs Fl)(Z:En):Rs Fl:=do
 let f <-F Z
 match f with
 | .nx Z'=>G Z'
 | f=> .ok f
theorem DK:lq X [] sN:=PSs.imp BF λD σ H ⟨Z,B,M,E,h⟩=>h σ H M (λ_ _ e _=>e) E λa z=> .inl z
theorem Bp {st:Stmt}{bJ:List Stmt}{F G:En->Rs Fl}(h1:n8 X st F)(h2:lq X bJ G):lq X (st::bJ) (ay F G):=PSs.imp (yI h1 h2) λD σ H hh_=>by
 obtain⟨Z,B,M,E,h⟩:=hh_;refine⟨Z,B,M,E,?_⟩
 unfold ay at h
 cases q:F Z with
 | bad=>rw[q]at h;exact h.elim
 | err c=>rw[q]at h;exact h
 | ok f=>
  rw[q,aE]at h
  cases f with
  | nx Z'=>exact λσ' H' M' s' E' o'=>⟨Z',B,M',E',h.later s' o'⟩
  | rt t=>exact h
  | bk Z'=>exact h
  | ct Z'=>exact h
theorem DJ {st:Stmt}{F:En->Rs Fl}(h:n8 X st F):lq X [st] F:=BE h
def aG (f:En->Rs T)(Z:En):Rs Fl:=do
 let t <-f Z
 .ok (.rt t)
theorem DH (ha:cj X a fa):n8 X (.Return (some a) pos) (aG fa):=PS.imp (D9 ha) λD σ H hh_=>by
 obtain⟨Z,B,M,E,h⟩:=hh_;refine⟨Z,OO B M,E.o,?_⟩
 unfold aG at h
 cases q:fa Z with
 | bad=>rw[q]at h;exact h.elim
 | err c=>rw[q]at h;exact PostF.xa h
 | ok t=>
  rw[q,aE]at h;exact λH' s v r=>h v H' (SameO.of s) (r.less λ_ z=> .inl z)
def eO (f:En->Rs Bool)(F G:En->Rs Fl)(Z:En):Rs Fl:=do
 let k <-f Z
 if k then F Z else G Z
theorem F8 {f:En->Rs Bool}{A B:List Stmt}{F G:En->Rs Fl}(hc:tM X c f)(ha:lq X A F)(hb:lq X B G):n8 X (.If c A B pos) (eO f F G):=PS.imp (Gq hc ha hb) λD σ H hh_=>by
 obtain⟨Z,B,M,E,h⟩:=hh_;refine⟨Z,OO B M,E.o,?_⟩
 unfold eO at h
 cases q:f Z with
 | bad=>rw[q]at h;exact h.elim
 | err c=>rw[q]at h;exact PostF.xa h
 | ok k=>
  rw[q,aE]at h;intro H' s
  have E':Ev X.K B M H' Z σ:=E.same s
  cases k with
  | true=>refine L2.iteT ?_;exact⟨Z,B,M,E',PostF.later (by simpa using h) (SameO.of s) λa z=> .inl z⟩
  | false=>refine L2.iteF ?_;exact⟨Z,B,M,E',PostF.later (by simpa using h) (SameO.of s) λa z=> .inl z⟩
def cv (f:En->Rs T)(g:T->En->Rs En)(Z:En):Rs Fl:=do
 let t <-f Z
 match g t Z with
 | .ok Z'=> .ok (.nx Z')
 | _=> .bad
theorem yA {B:Ow}{M:Mn}{Z:En}{σ:L2.St}{H:Hp}{D:qW}{g:T->En->Rs En}{f:En->Rs T}(E:Ev X.K B M H Z σ)(h:PostF X B M.u H (cv f g Z) D):A7 (tP X f) (CS X g) D σ H:=by
 refine⟨Z,OO B M,E.o,?_⟩
 unfold cv at h
 cases q:f Z with
 | bad=>rw[q]at h;exact h.elim
 | err c=>rw[q]at h;exact PostF.xa h
 | ok t=>
  rw[q,aE]at h;intro H' s v r;refine⟨Z,OO B M,M,t,E.env.same s,r,?_⟩
  cases q2:g t Z with
  | bad=>rw[q2]at h;exact h.elim
  | err c=>rw[q2]at h;exact h.elim
  | ok Z'=>
   rw[q2]at h;exact λσ' E'=>h σ' H' M (SameO.of s) ⟨E',E.mine⟩ λa z=> .inl z
theorem A5 {f:En->Rs T}{σ:L2.St}{H:Hp}{Q Q':VK}(h:tP X f σ H Q)(w:∀v H',Q v H'->Q' v H'):tP X f σ H Q':=by
 obtain⟨Z,O,E,q⟩:=h;exact⟨Z,O,E,Post.mono q λt H' _ z v r=>w v H' (z v r)⟩
theorem F7 {elt tg iter:Expr}{ifs:List Expr}{scope:Ny}{spos py:Pos}{N':List Str}{src:List (Option Nat)}{fi:En->Rs (List T)}{tgt:T->En->Rs En}{fc:En->Rs Bool}{fe:En->Rs T}(i:Nat){y:Str}
  (hc:X.calm=true) (S:LcScope X scope N' src) (hi:CG X tg iter fi)
  (block:∀cl C s₀ H₀ fp,Dk (cq X scope cl N' C s₀ H₀ fp) tg tgt/\xN (cq X scope cl N' C s₀ H₀ fp) ifs (yc (cq X scope cl N' C s₀ H₀ fp) fc)/\cj (cq X scope cl N' C s₀ H₀ fp) elt fe)
  (hN:X.N.Nodup) (hiy:X.N[i]? =some y:=by rfl) (hy:Loc X.env.scope y:=by first | exact Lx rfl | exact KO rfl) (hsw:KP (.ListComp elt [⟨tg,iter,ifs,0⟩] scope pos) (some (.Name y py)) spos.line X.env=pure true:=by rfl)
  (hf:X.fn y=true\/X.env.scope.names.lookup y=some .local:=by first | exact .inl rfl | exact .inr rfl | assumption) (hs:∀x,Ky iter X.env x=pure x:=by intro _;rfl) :
  n8 X (.Assign [.Name y py] (.ListComp elt [⟨tg,iter,ifs,0⟩] scope pos) spos) (cv (fH fi src tgt fc fe) (gN i)):=by
 have hPG:∀cl C s₀ H₀ fp,PG (cq X scope cl N' C s₀ H₀ fp) tg (CS X tgt):=λcl C s₀ H₀ fp=>(block cl C s₀ H₀ fp).1
 have hPI:∀cl C s₀ H₀ fp,xN (cq X scope cl N' C s₀ H₀ fp) ifs (tPT0 X.K fc):=λcl C s₀ H₀ fp pins s σ H Q I h=>(block cl C s₀ H₀ fp).2.1 pins s σ H Q I (tPT0.up (X:=cq X scope cl N' C s₀ H₀ fp) h)
 have hPE:∀cl C s₀ H₀ fp,PE (cq X scope cl N' C s₀ H₀ fp) elt (tP0 X.K fe):=λcl C s₀ H₀ fp pins s σ H Q I h=>(block cl C s₀ H₀ fp).2.2 pins s σ H Q I (tP0.up (X:=cq X scope cl N' C s₀ H₀ fp) h)
 refine PS.imp (Gp (g:=CS X tgt) (tc:=tPT0 X.K fc) (te:=tP0 X.K fe) (i:=i) hc S hi (λcl C s₀ H₀ fp=>⟨hPG cl C s₀ H₀ fp,hPI cl C s₀ H₀ fp,hPE cl C s₀ H₀ fp⟩) hN hiy hy hsw hf hs) λD σ H ⟨Z,B,M,E,h⟩=>vD (A5 (yA E h) λv H' z=> ?_)
 obtain⟨Z',O,M',t,E',r,q⟩:=z;unfold gN at q
 split at q
 ·rename_i Z2 e
  split at e
  ·rename_i hl
   cases e;exact q _ (E'.set hl r)
  ·cases e
 ·exact q.elim
theorem DO {tg:Expr}{g:T->En->Rs En}(ha:cj X a fa)(hg:Dk X tg g)(hs:Nj [tg] a pos.line X.env=pure false:=by rfl)(hw:Nk [tg] a X.env=pure none:=by rfl)
  (h1:(KL [tg] X.env).map (·.2)= [assign tg X.env]:=by rfl):n8 X (.Assign [tg] a pos) (cv fa g):=PS.imp (yK ha hg hs hw h1) λD σ H ⟨Z,B,M,E,h⟩=>yA E h
def qX (f:En->Rs T)(Z:En):Rs Fl:=do
 let _ <-f Z
 .ok (.nx Z)
theorem Bm (ha:cj X a fa)(hs:KP a none pos.line X.env=pure false:=by rfl):n8 X (.Expr a pos) (qX fa):=PS.imp (pU ha hs) λD σ H hh_=>by
 obtain⟨Z,B,M,E,h⟩:=hh_;refine⟨Z,OO B M,E.o,?_⟩
 unfold qX at h
 cases q:fa Z with
 | bad=>rw[q]at h;exact h.elim
 | err c=>rw[q]at h;exact PostF.xa h
 | ok t=>
  rw[q,aE]at h;exact λH' s v r=>h σ H' M (SameO.of s) (E.same s) λa z=> .inl z
def bh (g:T->En->Rs En)(F:En->Rs Fl):List T->En->Rs Fl
 | [],Z=> .ok (.nx Z)
 | t::r,Z=>do
  let Z1 <-g t Z
  let f <-F Z1
  match f with
  | .nx Z2=>bh g F r Z2
  | .ct Z2=>bh g F r Z2
  | .bk Z2=> .ok (.nx Z2)
  | .rt t=> .ok (.rt t)
def gb (fi:En->Rs (List T))(g:T->En->Rs En)(F:En->Rs Fl)(Z:En):Rs Fl:=do
 let ts <-fi Z
 match bh g F ts Z with
 | .ok f=> .ok f
 | _=> .bad
theorem kj {α:Type}{t:Sem α}{Q:α->Jk->Prop}{s:Jk}{E:Ji->Jk->Prop}{P:JI}{w:Kn}{A:JZ}(h:wpAny (model P w) A t Q (λ_ _=>False) s):wpAny (model P w) A t Q E s:=Lb h (λ_ _ q=>q) λ_ _ z=>z.elim
theorem BG {tg iter:Expr}{body:List Stmt}{wi:TI}{g:TG}{tb:TS}{pos:Pos}(hc:X.calm=true)(hi:PI X tg iter wi)(hg:PG X.nox tg g)(hb:PSs X.nox body tb)
  (hs:∀x,Ky iter X.env x=pure x:=by intro _;rfl):PS X (.For tg iter body [] pos) (tFor wi g tb):=by
 intro pins s σ H D I h;refine wpAny_For (cg (hi pins s σ H _ I h) λv s1 h1=>cg h1 λitv s2 h2=> ?_) hs
 obtain⟨it,fp,tn,J,H2,e,I2,T,st2,f2,W,⟨m0,w0⟩,turn⟩:=h2;subst e
 have stat:∀{H':Hp},(∀b∈fp,H' b=none)->∀b∈fp,j8 X pins H' b:=λhn b hb=>⟨hn b hb,(f2 b hb).2⟩
 refine codeAny_forLoop_any (λn s'=> ∃i σ' H',Inv X pins σ' H' s'/\tn i s'.heap/\(∀b∈fp,H' b=none)/\W i n σ' H') ?_ m0 ⟨0,σ,H2,I2,st2,λb hb=>(f2 b hb).1,w0⟩
 rintro n s3 ⟨i,σ3,H3,I3,st3,fr3,w3⟩
 rcases turn i n σ3 H3 w3 with⟨stop,qn⟩ | ⟨go,N,hN,step⟩
 ·refine kj (cg (T.done X.nox rfl rfl rfl hc i pins s3 σ3 H3 _ (I3.HD _) (stat fr3) st3 stop) λr s4 ⟨hr,I4⟩=> ?_)
  subst hr;exact NA ⟨σ3,H3,I4.HD _,qn⟩
 ·refine kj (cg (T.item X.nox rfl rfl rfl hc i pins s3 σ3 H3 _ (I3.HD _) (stat fr3) st3 go) λr s4 ⟨u,hr,h4⟩=> ?_)
  subst hr;refine kj (cg h4 λ_ s5 hh_=> ?_)
  obtain⟨x,H5,I5,r5,y5,st5,fr5⟩:=hh_
  have I5':=Inv.pinned (X:=X.nox) I5 (stat fr5) (T.obj _ _ st5);refine kj (cg (hg _ s5 σ3 H5 x u _ I5' r5 (step x H5 y5)) λ_ s6 hh_=> ?_)
  obtain⟨σ6,H6,I6,q6⟩:=hh_;refine kj (cg (hb _ s6 σ6 H6 _ I6 q6) λf s7 q7=> ?_)
  have again:∀{σ7:L2.St} {H7:Hp},Inv X.nox (pins++lW fp s5.heap) σ7 H7 s7->N σ7 H7->∃m,m<n/\∃i σ' H',Inv X pins σ' H' s7/\tn i s7.heap/\(∀b∈fp,H' b=none)/\W i m σ' H':=λ{σ7 H7} I7 n7=>by
   obtain⟨m',hm,w7⟩:=hN σ7 H7 n7;refine⟨m',hm,i+1,σ7,H7,(Inv.HN (X:=X.nox) I7).HD _,T.keep _ _ _ st5 λb hb o e=>(I7.pin (b,o) (JD _ (JD _ (gt hb e)))).1,λb hb=> ?_,w7⟩
   obtain⟨o,e,d⟩:=T.obj _ _ st5 b hb;exact(I7.pin (b,o) (JD _ (JD _ (gt hb e)))).2.1
  cases f with
  | next=>obtain⟨σ7,H7,I7,n7⟩:=q7;exact again I7 n7
  | cont=>obtain⟨σ7,H7,I7,n7⟩:=q7;exact again I7 n7
  | brk=>obtain⟨σ7,H7,I7,q7⟩:=q7;exact⟨σ7,H7,(Inv.HN (X:=X.nox) I7).HD _,q7⟩
  | ret v=>obtain⟨x7,σ7,H7,I7,r7,q7⟩:=q7;exact⟨x7,σ7,H7,(Inv.HN (X:=X.nox) I7).HD _,r7,q7⟩
theorem DL {tg iter:Expr}{body:List Stmt}{fi:En->Rs (List T)}{g:T->En->Rs En}{F:En->Rs Fl}(hc:X.calm=true)(hi:CG X tg iter fi)(hg:Dk X.nox tg g)(hb:lq X.nox body F)
  (hs:∀x,Ky iter X.env x=pure x:=by intro _;rfl):n8 X (.For tg iter body [] pos) (gb fi g F):=PS.imp (BG hc hi hg hb hs) λD σ H hh_=>by
 obtain⟨Z,B,M,E,h⟩:=hh_;refine⟨Z,OO B M,E.o,?_⟩
 unfold gb at h
 cases q:fi Z with
 | bad=>rw[q]at h;exact h.elim
 | err c=>rw[q]at h;exact PostF.xa h
 | ok ts=>
  rw[q,aE]at h
  cases qq:bh g F ts Z with
  | bad=>rw[qq]at h;exact h.elim
  | err c=>rw[qq]at h;exact h.elim
  | ok fin=>
  rw[qq]at h;intro H1 s1 J hJ
  have E1:Ev X.K B M H1 Z σ:=E.same s1
  have h1:PostF X B M.u H1 (.ok fin) D:=PostF.later h (SameO.of s1) λa z=> .inl z
  refine⟨λi m σ' H'=>m=ts.length - i/\i<=ts.length/\SameO M.u H1 H'/\∃Z' M',Ev X.K B M' H' Z' σ'/\(∀a,M'.u a->M.u a\/Nw X.K H1 a)/\bh g F (ts.drop i) Z'= .ok fin,
   ⟨ts.length,by omega,KA _,λ_ _ e _=>e,Z,M,E1,λa z=> .inl z,by simpa using qq⟩,?_⟩
  rintro i m σ' H' ⟨rfl,hi',sm,Z',M',E',ow,hl⟩
  have it:=hJ M.u (OO B M') (λa z=> .inl (.inr z)) (λa z=>z.elim (λw=> .inl (.inl w)) λw=>(ow a w).elim (λy=> .inl (.inr y)) .inr) i H' sm (λa z=>(E'.env.trk a z).some)
  by_cases hlt:i<ts.length
  ·have hti:ts[i]? =some ts[i]:=by simp
   obtain⟨go,yl⟩:=it.2 ts[i] hti;rw[KZ hlt]at hl;unfold bh at hl;refine .inr ⟨go,λσ2 H2=> ∃m',m'<ts.length - i/\(m'=ts.length - (i+1)/\i+1<=ts.length/\SameO M.u H1 H2/\∃Z2 M2,Ev X.K B M2 H2 Z2 σ2/\(∀a,M2.u a->M.u a\/Nw X.K H1 a)/\bh g F (ts.drop (i+1)) Z2= .ok fin),λσ2 H2 z=>z,λx Hc y=> ?_⟩
   obtain⟨sc,rx⟩:=yl x Hc y;refine⟨Z',OO B M',M',ts[i],E'.env.same sc,rx,?_⟩
   cases e1:g ts[i] Z' with
   | bad=>rw[e1]at hl;cases hl
   | err cc=>rw[e1]at hl;cases hl
   | ok Z1=>
    rw[e1,aE]at hl;intro σ1 Eg
    have E2:Ev X.K B M' Hc Z1 σ1:=⟨Eg,E'.mine⟩;refine⟨Z1,B,M',E2,?_⟩
    have smc:SameO M.u H1 Hc:=λb o e n=>sc _ _ (sm b o e n)
    have onward:∀{σ3:L2.St} {H3:Hp} {Z3:En} {M3:Mn},SameO M'.u Hc H3->Ev X.K B M3 H3 Z3 σ3->(∀a,M3.u a->M'.u a\/Nw X.K Hc a)->bh g F (ts.drop (i+1)) Z3= .ok fin →
      ∃m',m'<ts.length - i/\(m'=ts.length - (i+1)/\i+1<=ts.length/\SameO M.u H1 H3/\∃Z2 M2,Ev X.K B M2 H3 Z2 σ3/\(∀a,M2.u a->M.u a\/Nw X.K H1 a)/\bh g F (ts.drop (i+1)) Z2= .ok fin):=
     λ{σ3 H3 Z3 M3} s3 E3 o3 p3=>⟨_,by omega,rfl,hlt,smc.trans s3 ow,Z3,M3,E3,λa z=>(o3 a z).elim (ow a) (gq smc),p3⟩
    cases e2:F Z1 with
    | bad=>rw[e2]at hl;cases hl
    | err cc=>rw[e2]at hl;cases hl
    | ok f=>
     rw[e2,aE]at hl
     cases f with
     | nx Z2=>exact λσ3 H3 M3 s3 E3 o3=>onward s3 E3 o3 hl
     | ct Z2=>exact λσ3 H3 M3 s3 E3 o3=>onward s3 E3 o3 hl
     | bk Z2=>
      cases hl
      exact λσ3 H3 M3 s3 E3 o3=>h1 σ3 H3 M3 (smc.trans s3 ow) E3 λa z=>(o3 a z).elim (ow a) (gq smc)
     | rt t=>
      cases hl;exact λv H3 s3 r=>h1 v H3 (smc.trans s3 ow) r
  ·refine .inl ⟨it.1 (by omega),?_⟩
   have hi2:i=ts.length:=by omega
   subst hi2;rw[QZ]at hl;cases hl;exact h1 σ' H' M' sm E' ow
def bA (c:En->Rs Bool)(F:En->Rs Fl):Nat->En->Rs Fl
 | 0,_=> .bad
 | n+1,Z=>match c Z with
  | .ok false=> .ok (.nx Z)
  | .ok true=>match F Z with
   | .ok (.nx Z')=>bA c F n Z'
   | .ok (.ct Z')=>bA c F n Z'
   | .ok (.bk Z')=> .ok (.nx Z')
   | .ok (.rt t)=> .ok (.rt t)
   | _=> .bad
  | _=> .bad
theorem yC {c:Expr}{body:List Stmt}{fc:En->Rs Bool}{F:En->Rs Fl}(n:Nat)(hc:tM X.nox c fc)(hb:lq X.nox body F):n8 X (.While c body [] pos) (bA fc F n):=by
 have base:PS X.nox (.While c body [] pos) (tS (yc X.nox fc) (Hk X.nox F)):=yJ PassesOwn.never hc hb;intro pins s σ H D I ⟨Z,B,M,E,h⟩
 cases qq:bA fc F n Z with
 | bad=>rw[qq]at h;exact h.elim
 | err c=>
  exfalso
  have:∀n Z,bA fc F n Z≠ .err c:=by
   intro n
   induction n with
   | zero=>intro Z z;cases z
   | succ n ih=>
    intro Z z;unfold bA at z
    split at z
    ·cases z
    ·split at z <;> first | exact ih _ z | cases z
    ·cases z
  exact this n Z qq
 | ok fin=>
  rw[qq]at h
  have goal:tS (yc X.nox fc) (Hk X.nox F) D σ H:=by
   refine⟨λm σ' H'=>SameO M.u H H'/\∃Z' M',Ev X.K B M' H' Z' σ'/\(∀a,M'.u a->M.u a\/Nw X.K H a)/\bA fc F m Z'= .ok fin,⟨n,λ_ _ e _=>e,Z,M,E,λa z=> .inl z,qq⟩,?_⟩
   rintro m σ' H' ⟨sm,Z',M',E',ow,hl⟩
   cases m with
   | zero=>cases hl
   | succ m=>
    refine⟨Z',OO B M',E'.o,?_⟩
    unfold bA at hl
    cases e1:fc Z' with
    | bad=>rw[e1]at hl;cases hl
    | err cc=>rw[e1]at hl;cases hl
    | ok k=>
     rw[e1]at hl;intro H2 s2
     have E2:Ev X.K B M' H2 Z' σ':=E'.same s2
     have sm2:SameO M.u H H2:=λb o e n=>s2 _ _ (sm b o e n)
     cases k with
     | false=>
      cases hl;refine L2.iteF ?_
      exact h σ' H2 M' sm2 E2 ow
     | true=>
      refine L2.iteT ?_
      refine⟨λσ3 H3=>SameO M.u H H3/\∃Z3 M3,Ev X.K B M3 H3 Z3 σ3/\(∀a,M3.u a->M.u a\/Nw X.K H a)/\bA fc F m Z3= .ok fin,λσ3 H3 z=>⟨m,QY m,z⟩,Z',B,M',E2,?_⟩
      have hl':(match F Z' with | .ok (.nx Z')=>bA fc F m Z' | .ok (.ct Z')=>bA fc F m Z' | .ok (.bk Z')=> .ok (.nx Z') | .ok (.rt t)=> .ok (.rt t) | _=> .bad)= .ok fin:=hl
      cases e2:F Z' with
      | bad=>rw[e2]at hl';cases hl'
      | err cc=>rw[e2]at hl';cases hl'
      | ok f=>
       rw[e2]at hl'
       cases f with
       | nx Z2=>exact λσ3 H3 M3 s3 E3 o3=>⟨sm2.trans s3 ow,Z2,M3,E3,λa z=>(o3 a z).elim (ow a) (gq sm2),hl'⟩
       | ct Z2=>exact λσ3 H3 M3 s3 E3 o3=>⟨sm2.trans s3 ow,Z2,M3,E3,λa z=>(o3 a z).elim (ow a) (gq sm2),hl'⟩
       | bk Z2=>
        cases hl'
        exact λσ3 H3 M3 s3 E3 o3=>h σ3 H3 M3 (sm2.trans s3 ow) E3 λa z=>(o3 a z).elim (ow a) (gq sm2)
       | rt t=>
        cases hl';exact λv H3 s3 r=>h v H3 (sm2.trans s3 ow) r
  refine kj (cg (base pins s σ H D (I.HD _) goal) λf s' q=> ?_)
  cases f with
  | next=>obtain⟨σ7,H7,I7,n7⟩:=q;exact⟨σ7,H7,I7.HD _,n7⟩
  | cont=>obtain⟨σ7,H7,I7,n7⟩:=q;exact⟨σ7,H7,I7.HD _,n7⟩
  | brk=>obtain⟨σ7,H7,I7,n7⟩:=q;exact⟨σ7,H7,I7.HD _,n7⟩
  | ret v=>obtain⟨x7,σ7,H7,I7,r7,q7⟩:=q;exact⟨x7,σ7,H7,I7.HD _,r7,q7⟩
def CY (Z:En):Rs Fl:=.ok (.ct Z)
end
def bw (F:En->Rs Fl)(Z:En):Rs T:=do
 let f <-F Z
 match f with
 | .nx _=> .ok .non
 | .rt t=> .ok t
 | _=> .bad
def aK (n:Nat)(ts:List T):En:=ts.map Sl.va++JK (n - ts.length) Sl.em
theorem ww {n:Nat}{ts:List T}{i:Nat}{o:OT}(e:(aK n ts)[i]? =some (.ow o)):False:=by
 unfold aK at e
 by_cases hi:i<ts.length
 ·rw[LF (by simpa using hi),JG,Jx hi]at e
  cases e
 ·rw[Mq (by simpa using hi),MJ]at e
  split at e <;> cases e
theorem om {K:Jg}{O:Ow}{H:Hp}{N:List Str}{ts:List T}{vs:List V}(r:Reps K O H ts vs)(hl:ts.length<=N.length)(trk:∀a,O a->Mtb H a):Ev K O noM H (aK N.length ts) (start N vs):=by
 have hlen:=r.length
 have sub:∀a,OO O noM a->O a:=λa z=>z.elim id λ⟨_,w⟩=>w.elim
 refine⟨⟨by unfold aK L2.start;simp;omega,λi t e=> ?_,λi o e=>(ww e).elim,λ_ _ z=>z.elim,λ_ _ _ z=>z.elim,λa z=>trk a (sub a z)⟩,λa ⟨_,z⟩=>z.elim⟩
 unfold aK at e;unfold L2.start
 by_cases hi:i<ts.length
 ·rw[LF (by simpa using hi),JG,Jx hi]at e
  have e':ts[i] =t:=by injection e with e;injection e
  obtain⟨v,e1,e2⟩:=r.get (i:=i) (t:=t) (by rw[<-e'];simp)
  refine⟨v,?_,e2.less sub⟩
  rw[LF (by simp;omega),JG,e1];rfl
 ·rw[Mq (by simpa using hi),MJ]at e
  split at e <;> cases e
section
variable {P:JI}{w:Kn}{K:Jg}{mg:Str->Option Ji}{base:Heap}
theorem GZ {x qual:Str}{st:Stmt}{f:Addr}{fd:Ld}{N ps:List Str}{k n:Nat}{g:List T->Rs T}(Fn:L2.Fun K x qual st f fd)(S:ax N ps (aj st))(hn:ps.length=n)
  (hbody:∀(cdv:Ji) (A:JZ) (outer:List Env) (s:Jk) (H:Hp) (E:XK),Room k (A.deeper (envOfC qual (aj st) s.heap.objs.size f cdv)) →
   ∃F,lq (kE CX0 P w K mg base N qual (aj st) f cdv A outer s H E).nox (db st) F/\∀ts,ts.length=n->∀t,g ts= .ok t->bw F (aK N.length ts)= .ok t):qT P w K mg base CX0 (k+1) f fd ps (spP K n g):=by
 have hpl:ps.length<=N.length:=by have:=congrArg LD S.pre;rw[My]at this;omega
 refine Fn.ok S (λvs H Q E h=> ?_) (λcdv A outer s H vs Q E hr h=> ?_)
 ·obtain⟨ts,O,r,_,hl,_⟩:=h
  rw[<-r.length,hl,hn]
 ·obtain⟨ts,O,r,trk,hl,h⟩:=h
  obtain⟨F,hF,hv⟩:=hbody cdv A outer s H E hr;refine⟨_,hF,aK N.length ts,O,noM,om r (by omega) trk,?_⟩
  have no:∀a,¬noM.u a:=λa ⟨_,z⟩=>z
  cases q:g ts with
  | bad=>rw[q]at h;exact h.elim
  | err c=>rw[q]at h;exact h.elim
  | ok t=>
   rw[q]at h
   have hb:=hv ts hl t q;unfold bw at hb
   cases q2:F (aK N.length ts)with
   | bad=>rw[q2]at hb;cases hb
   | err c=>rw[q2]at hb;cases hb
   | ok fl=>
    rw[q2,aE]at hb
    have sameOf:∀H',SameO noM.u H H'->Same H H':=λH' s b o e=>s b o e (no b)
    cases fl with
    | nx Z'=>cases hb;exact λσ' H' M' s' E' o'=>h .non H' (sameOf H' s') Rep.II
    | rt t'=>cases hb;exact λv H' s' r'=>h v H' (sameOf H' s') r'
    | bk Z'=>cases hb
    | ct Z'=>cases hb
end
end Tr
namespace Enu
open PySem
open AutoSeq1 (wpAny_loadPart')
section
variable {prog:JI}{w:Kn}{A:JZ}{E:Ji->Jk->Prop}{s:Jk}
theorem tupNext {it tt:Addr}{k:Nat}{its:Array Ji}{x:Ji}{Q:Ji->Jk->Prop}(hi:s.heap.IsTupleIter it tt k)(ht:s.heap.IsTuple tt its)(hx:its[k]? =some x)
  (hQ:∀h',h'.IsTupleIter it tt (k+1)->MD it s.heap h'->Q x { s with heap:=h' }):wpAny (model prog w) A (JE (.ref it)) Q E s:=by
 obtain⟨ob,g1,g2,g3⟩:=id hi;obtain⟨ot,k1,_,m,k3⟩:=ht;unfold JE;refine Je (J4 (name:=JC "__next__") hi.typeIs Lu (J9 Lu hi.typeIs Nq ?_ (Nh _)))
 show wpAny (model prog w) _ (field (.ref it) 0 >>= _) _ _ s
 refine Je (J1 g1 g3 (x:=.ref tt) rfl ?_)
 show wpAny (model prog w) _ (if (Jz tt == Ki)=true then _ else _) _ _ s
 rw[if_neg (show ¬((Jz tt == Ki)=true)by exact JP)]
 show wpAny (model prog w) _ (field (.ref it) 1 >>= _) _ _ s
 refine Je (J1 g1 g3 (x:=.int k 0) rfl ?_)
 show wpAny (model prog w) _ (seqItems? (.ref tt) >>= _) _ _ s
 refine Je (Kd k1 k3 ?_)
 simp only[hx,Ko];refine Je (wpAny_setField g1 g3 (by simp) (Jl ⟨x,rfl,Jl (hQ _ ?_ (Pp ..))⟩))
 refine⟨_,Ma _ g1 (Obj.isFreed_of_fields (PU g3 _)),(Obj.cls_mapFields ..).trans g2,?_⟩
 rw[PU g3];simp[rawInt]
theorem tupStop {it tt:Addr}{k:Nat}{its:Array Ji}{Q:Ji->Jk->Prop}(hh:A.handled=none)(hi:s.heap.IsTupleIter it tt k)(ht:s.heap.IsTuple tt its)(hx:its[k]? =none)
  (hE:∀h' e,Rk it s.heap h'->(∃o,h'.get? e=some o/\o.cls= .type "StopIteration")->E (.ref e) { s with heap:=h' }):wpAny (model prog w) A (JE (.ref it)) Q E s:=by
 obtain⟨ob,g1,g2,g3⟩:=id hi;obtain⟨ot,k1,_,m,k3⟩:=ht;unfold JE;refine Je (J4 (name:=JC "__next__") hi.typeIs Lu (J9 Lu hi.typeIs Nq ?_ (Nh _)))
 show wpAny (model prog w) _ (field (.ref it) 0 >>= _) _ _ s
 refine Je (J1 g1 g3 (x:=.ref tt) rfl ?_)
 show wpAny (model prog w) _ (if (Jz tt == Ki)=true then _ else _) _ _ s
 rw[if_neg (show ¬((Jz tt == Ki)=true)by exact JP)]
 show wpAny (model prog w) _ (field (.ref it) 1 >>= _) _ _ s
 refine Je (J1 g1 g3 (x:=.int k 0) rfl ?_)
 show wpAny (model prog w) _ (seqItems? (.ref tt) >>= _) _ _ s
 refine Je (Kd k1 k3 ?_)
 simp only[hx,Ko];refine Je (LU (Je (wpAny_setField g1 g3 (by simp) ?_)))
 show wpAny (model prog w) _ (newExc (.type "StopIteration") [] >>= _) _ _ _
 refine Je ?_
 simp only[newTuple,newExc];refine Je (KM ?_ (by size_fits))
 refine Je (m:=firstArgMember _ _) (wpAny_of_eq (a:=Ki) (by first | (simp only[firstArgMember];rfl) | rfl) ?_)
 refine KM ?_ (by size_fits)
 simp only[raiseNew];refine Je (wpAny_handled ?_)
 first | rw[hh] | rw[show A.in1.handled=none from hh]
 refine Je (Jl (wpAny_throw ?_))
 refine hE _ _ (((Pp ..).extBut.push _).push _) ⟨_,Js _ rfl,rfl⟩
end
theorem tupDraws {prog:JI}{w:Kn}{A:JZ}(hh:A.handled=none)(it tt:Addr)(hne:tt≠it)(its:Array Ji) :
  Draws prog w A it [it,tt] its.size (λi v=>its[i]? =some v) (λi h=>h.IsTupleIter it tt i/\h.IsTuple tt its) where
 live:=λ_ _ st=>by obtain⟨o,ho,_⟩:=st.1;exact⟨o,ho⟩
 frame:=λ_ _ _ st hk=>by
  obtain⟨⟨o,e,r⟩,⟨o',e',r'⟩⟩:=st;exact⟨⟨o,hk it (by simp) o e,r⟩,⟨o',hk tt (by simp) o' e',r'⟩⟩
 item:=λi s Q E hi st hQ=>by
  refine tupNext st.1 st.2 (x:=its[i]) (by simp[hi]) λh' hit' hs'=> ?_
  obtain⟨o',e',r'⟩:=st.2;exact hQ _ h' s.toks (by simp[hi]) ⟨hit',⟨o',(hs'.2 tt hne).trans e',r'⟩⟩ hs'
 done:=λs Q E st hE=>tupStop hh st.1 st.2 (by simp) hE
theorem newT (l:Addr)(items:Array Ji)(n:Nat)(dct:Option Addr)(sl:Array (Option Ji)) :
  Meets (Builtin.«enumerate.__new__» ⟨[.type "enumerate",.ref l],[]⟩) (λ_ R s=>s.heap.get? l=some { cls:=.type "tuple",dict:=dct,data:=.seq items n,slots:=sl } ∧
   R (.ok (.ret (.ref (s.heap.push { cls:=.type "tuple_iterator",data:=.fields #[.ref l,.int 0 0] }).objs.size)))
    { s with heap:=(s.heap.push { cls:=.type "tuple_iterator",data:=.fields #[.ref l,.int 0 0] }).push { cls:=.type "enumerate",data:=.fields #[.none,.bool false,.ref s.heap.objs.size,rawInt 0,.none,.none] } }):=
 .of_wp λprog w A R s h=>by
  obtain⟨hp,g,d,tk,os⟩:=s;obtain⟨hl,h⟩:=h
  have hsub:=sub_enumerate
  have hT:Heap.IsTuple (Oc ⟨hp,g,d,tk,os⟩) l items:=⟨_,hl,rfl,n,rfl⟩
  wp_walk using KQ hl
  refine wpAny_stack_any λst=>Jl ?_
  split
  ·rename_i c _ _ _ _ _
   cases (c == Kf "enumerate")
   ·wp_walk using KQ hl,Lz hT
    exact⟨_,rfl,h⟩
   ·wp_walk using KQ hl,Lz hT
    exact⟨_,rfl,h⟩
  ·wp_walk using KQ hl,Lz hT
   exact⟨_,rfl,h⟩
theorem callT {prog:JI}{w:Kn}{A:JZ}{E:Ji->Jk->Prop}{s:Jk}{l:Addr}{items:Array Ji}{Q:Ji->Jk->Prop}(hL:s.heap.IsTuple l items)
  (h:∀h',IsEnum h' (s.heap.objs.size+1) s.heap.objs.size 0 .none->h'.IsTupleIter s.heap.objs.size l 0->h'.objs.size=s.heap.objs.size+2 →
   (∀b o,s.heap.get? b=some o->h'.get? b=some o)->Q (.ref (s.heap.objs.size+1)) { s with heap:=h' }):wpAny (model prog w) A (call (.type "enumerate") [.ref l]) Q E s:=by
 obtain⟨⟨cc,dc,dd,ss⟩,hl,hc,n,hd⟩:=hL
 replace hc:cc= .type "tuple":=hc
 replace hd:dd= .seq items n:=hd
 subst hc hd;refine QN F.called_enumerate (by decide) (F.typeCall_enumerate_1 _) (F.newCall_enumerate_1 _) (λobj=>F.args_object_init_2 obj _) F.entry_enumerate_new (newT l items n dc ss) ⟨hl,?_⟩
 have hz:(s.heap.push { cls:=.type "tuple_iterator",data:=.fields #[.ref l,.int 0 0] }).objs.size=s.heap.objs.size+1:=J0 ..
 show _/\_
 rw[hz]
 have he:IsEnum ((s.heap.push { cls:=.type "tuple_iterator",data:=.fields #[.ref l,.int 0 0] }).push
   { cls:=.type "enumerate",data:=.fields #[.none,.bool false,.ref s.heap.objs.size,rawInt 0,.none,.none] }) (s.heap.objs.size+1) s.heap.objs.size 0 .none:=by
  have q:=Js (s.heap.push { cls:=.type "tuple_iterator",data:=.fields #[.ref l,.int 0 0] })
   (o:={ cls:=.type "enumerate",data:=.fields #[.none,.bool false,.ref s.heap.objs.size,rawInt 0,.none,.none] }) rfl
  rw[hz]at q;exact q
 refine⟨⟨_,he,rfl⟩,h _ he ⟨_,Jf _ (Js _ rfl),rfl,rfl⟩ (by rw[J0,hz]) λb o x=>Jf _ (Jf _ x)⟩
end Enu
namespace L2
open PySem PySem.Spec PyProof.Rows
section
variable {X:Cx}{pins:List (Addr×Obj)}{σ:L2.St}{H:Hp}{s:Jk}{h':Heap}
theorem Inv.Ip {t':Nat}{fp:List Addr}{Tp:Addr}{xs:List V}(I:Inv X pins σ H s)(hf:∀b∈fp,j8 X pins H b)(k:∀b o,b∉fp->s.heap.get? b=some o->h'.get? b=some o)
  (ht:∀b∈fp,∃o,h'.get? b=some o) (hT:s.heap.objs.size<=Tp) (new:ObjOk X.prog X.w (upd H Tp (.tup xs)) h' Tp (.tup xs)):Inv X pins σ (upd H Tp (.tup xs)) { s with heap:=h',toks:=t' }:=by
 have hn:H Tp=none:=I.hok.fresh hT
 have vj:∀b o,s.heap.get? b=some o->b≠Tp:=λb o e=>JR (Jt (Jr e) hT)
 have nf:∀b u,H b=some u->b∉fp:=λb u e z=>by rw[(hf b z).1]at e;cases e
 refine I.step (g':=s.gens) (d':=s.drawn) (ch:=fp) (λb hb=>⟨(hf b hb).2.2.2.1,(hf b hb).2.1,(hf b hb).2.2.2.2.1,(hf b hb).2.2.2.2.2⟩) (λb o _ _ hc e _=>k b o hc e) (λb o _ _ hc e _=>⟨o.slots,k b o hc e⟩)
  (λb o _ e n=>by rw[aJ (vj b o e)];exact n) (λb o hc e=>⟨o,k b o hc e⟩) (λb ys e=>by rw[aJ (bU e hn)];exact e) (λb o u e=>by rw[aJ (bU e hn)];exact e)
  (λb ps e=>⟨#[],by rw[aJ (bU e hn),e];simp⟩) (λm hm=> ?_) (λb u e=> ?_) I.bare
 ·obtain⟨o,es,ep,ho,r⟩:=hm
  exact⟨o,es,ep,k _ o (λz=>(hf _ z).2.1 rfl) ho,r⟩
 ·by_cases hb:b=Tp
  ·subst hb;rw[aP]at e;cases e;exact new
  ·rw[aJ hb]at e
   refine(I.hok b u e).HW (λc v hc q=>k c v ?_ q) (λc q=>by rw[aJ (bU q hn)];exact q) λc ys q=>by rw[aJ (bU q hn)];exact q
   rcases hc with z | z
   ·rw[z];exact nf b u e
   ·exact nf c _ z
theorem Inv.HL {t':Nat}{fp:List Addr}(I:Inv X pins σ H s)(hf:∀b∈fp,j8 X pins H b)(k:∀b o,b∉fp->s.heap.get? b=some o->h'.get? b=some o):Inv X pins σ H { s with heap:=h',toks:=t' }:=by
 have nf:∀b u,H b=some u->b∉fp:=λb u e z=>by rw[(hf b z).1]at e;cases e
 refine I.step (g':=s.gens) (d':=s.drawn) (ch:=fp) (λb hb=>⟨(hf b hb).2.2.2.1,(hf b hb).2.1,(hf b hb).2.2.2.2.1,(hf b hb).2.2.2.2.2⟩) (λb o _ _ hc e _=>k b o hc e) (λb o _ _ hc e _=>⟨o.slots,k b o hc e⟩)
  (λb o _ e n=>n) (λb o hc e=>⟨o,k b o hc e⟩) (λb ys e=>e) (λb o u e=>e)
  (λb ps e=>⟨#[],by rw[e];simp⟩) (λm hm=> ?_) (λb u e=> ?_) I.bare
 ·obtain⟨o,es,ep,ho,r⟩:=hm
  exact⟨o,es,ep,k _ o (λz=>(hf _ z).2.1 rfl) ho,r⟩
 ·refine(I.hok b u e).HW (λc v hc q=>k c v ?_ q) (λc q=>q) λc ys q=>q
  rcases hc with z | z
  ·rw[z];exact nf b u e
  ·exact nf c _ z
end
def xM (K:Jg)(H:Hp)(a:Addr)(tt:Bool)(xs:List V):Prop:=if tt then SqT K H a xs else SqL K H a xs
def Hv (K:Jg)(a:Addr)(tt:Bool):It:=
 ⟨λi H=> ∃xs x,xM K H a tt xs/\xs[i]? =some x,λi H x H'=> ∃p v,x= .ref p/\H p=none/\H'=upd H p (.tup [.int (i:Nat),v])/\∀xs,xM K H a tt xs->xs[i]? =some v,λi H=> ∃xs,xM K H a tt xs/\xs.length<=i⟩
def itAt (tt:Bool)(h:Heap)(it a:Addr)(i:Nat):Prop:=if tt then h.IsTupleIter it a i else h.IsListIter it a i
theorem itAt.obj {tt:Bool}{h:Heap}{it a:Addr}{i:Nat}(st:itAt tt h it a i):∃o,h.get? it=some o/\∀v,o.data≠ .cell v:=by
 cases tt with
 | true=>obtain⟨o,e,c,d⟩:=(show h.IsTupleIter it a i from st);exact⟨o,e,λv z=>by rw[d]at z;cases z⟩
 | false=>obtain⟨o,e,c,d⟩:=(show h.IsListIter it a i from st);exact⟨o,e,λv z=>by rw[d]at z;cases z⟩
theorem itAt.keep {tt:Bool}{h h':Heap}{it a:Addr}{i:Nat}(st:itAt tt h it a i)(k:∀o,h.get? it=some o->h'.get? it=some o):itAt tt h' it a i:=by
 cases tt with
 | true=>obtain⟨o,e,r⟩:=(show h.IsTupleIter it a i from st);exact(show h'.IsTupleIter it a i from⟨o,k o e,r⟩)
 | false=>obtain⟨o,e,r⟩:=(show h.IsListIter it a i from st);exact(show h'.IsListIter it a i from⟨o,k o e,r⟩)
theorem wn {P:JI}{w:Kn}{K:Jg}{elts:List Expr}{kk:Nat}{pos:Pos}(tt:Bool)(a e it:Addr)(hei:e≠it) :
  AB P w K (.Tuple elts kk pos) (Hv K a tt) [e,it] e (λi h=>(∃old,IsEnum h e it i old)/\itAt tt h it a i) where
 mem:=by simp
 obj:=λi h st b hb=>by
  obtain⟨⟨old,he⟩,hi⟩:=st;rcases Jp.mp hb with rfl | hb
  ·exact⟨_,he,λv z=>by have z':Data.fields _=Data.cell v:=z;cases z'⟩
  ·rw[JB.mp hb];exact hi.obj
 keep:=λi h h' st k=>by
  obtain⟨⟨old,he⟩,hi⟩:=st;exact⟨⟨old,k e (by simp) _ he⟩,hi.keep λo q=>k it (by simp) o q⟩
 item:=by
  intro X hP hw hK hc i pins s σ H E I hf st hg;subst hP hw hK;obtain⟨xs,x,hq,hx⟩:=hg;obtain⟨⟨old,he⟩,hi⟩:=st
  -- by what is walked
  have key:∀(its:List Ji),Vals xs its->(∀ys,xM X.K H a tt ys->ys=xs)->∀(fp0:List Addr) (St:Nat->Heap->Prop),Draws X.prog X.w X.A.in1 it fp0 its.toArray.size (λi v=>its.toArray[i]? =some v) St->e∉fp0->it∈fp0->St i s.heap →
    (∀h',St (i+1) h'->itAt tt h' it a (i+1)) →
    wpAny (model X.prog X.w) X.A (pyNext (.ref e)) (λr s1=> ∃u,r=some u/\wpAny (model X.prog X.w) X.A (MP (.Tuple elts kk pos) (.ref e) u) (λ_ s2=> ∃x' H',Inv X pins σ H' s2/\RelV x' u/\(Hv X.K a tt).yld i H x' H' ∧
     ((∃old,IsEnum s2.heap e it (i+1:Nat) old)/\itAt tt s2.heap it a (i+1))/\∀b∈ [e,it],H' b=none) E s1) E s:=by
   intro its rv uniq fp0 St D hef hif hst hnext;obtain⟨u,hu,ru⟩:=rv.get hx
   have hlt:i<its.toArray.size:=by
    have:=(Jy.mp hu).1
    simpa using this
   have W:=WalksT.enumerateD D e hei hef hif;refine W.item i s _ _ hlt ⟨⟨old,he⟩,hst⟩ λTp vals h1 tk hPt hTsz hTup hMid hk=>⟨.ref Tp,rfl,?_⟩
   refine W.go elts kk pos i Tp { s with heap:=h1,toks:=tk } _ _ hMid λh2 hst2 hk2=> ?_
   obtain⟨t,x',hPx,hvals⟩:=hPt;subst hvals
   have hxe:x'=u:=by
    have h1':its.toArray[i]? =some x':=hPx
    have h2':its.toArray[i]? =some u:=by simpa using hu
    rw[h1']at h2';exact JW h2'
   subst hxe
   have hTw:=W.apart i Tp h1 hMid;obtain⟨oT,eT,rT⟩:=hTup
   have eT2:h2.get? Tp=some oT:=hk2 Tp oT hTw eT
   have kAll:∀b o,b∉ [e,it]->s.heap.get? b=some o->h2.get? b=some o:=λb o hb q=>hk2 b o hb (hk b o hb q)
   obtain⟨⟨old2,he2⟩,hs2⟩:=hst2
   have hit2:=hnext h2 hs2
   have there:∀b∈ [e,it],∃o,h2.get? b=some o:=λb hb=>by
    rcases Jp.mp hb with rfl | hb
    ·exact⟨_,he2⟩
    ·rw[JB.mp hb];obtain⟨o,q,_⟩:=hit2.obj;exact⟨o,q⟩
   have hn:H Tp=none:=I.hok.fresh hTsz
   have new:ObjOk X.prog X.w (upd H Tp (.tup [.int (i:Nat),x])) h2 Tp (.tup [.int (i:Nat),x]):=
    ⟨by show 2<=sizeLine;decide,[.int (i:Nat) t,x'],.cons ⟨t,rfl⟩ (.cons ru .nil),⟨oT,eT2,rT⟩⟩
   have I2:=I.Ip (t':=tk) hf kAll there hTsz new;refine⟨.ref Tp,_,I2,rfl,⟨Tp,x,rfl,hn,rfl,λys hy=>by rw[uniq ys hy];exact hx⟩,⟨⟨old2,he2⟩,hit2⟩,λb hb=> ?_⟩
   have hbT:b≠Tp:=λz=>by
    obtain⟨o,q⟩:∃o,s.heap.get? b=some o:=by
     rcases Jp.mp hb with rfl | hb
     ·exact⟨_,he⟩
     ·rw[JB.mp hb];obtain⟨o,q,_⟩:=hi.obj;exact⟨o,q⟩
    exact absurd (Jt (Jr q) hTsz) (by rw[z];exact JJ _)
   rw[aJ hbT];exact(hf b hb).1
  have hne:∀b∈ [e,it],a≠b:=λb hb z=>by
   have hb':=(hf b hb).1;rw[<-z]at hb'
   have hbs:=hf b hb
   cases tt with
   | true=>
    have hq':SqT X.K H a xs:=hq;rcases hq' with(q | ⟨o,q⟩) | ⟨o,its,n,q,_⟩
    ·rw[hb']at q;cases q
    ·rw[hb']at q;cases q
    ·rcases hbs.2.2.2.1 with z1 | z1
     ·exact I.ok.noex a o (I.ok.mod.kin a o q) (z▸z1)
     ·exact absurd (Jt (Jr (I.ok.bs a o (I.ok.mod.kin a o q)).1) (z▸z1)) (JJ _)
   | false=>
    have hq':SqL X.K H a xs:=hq;rcases hq' with(q | ⟨o,q⟩) | ⟨o,its,n,q,_⟩
    ·rw[hb']at q;cases q
    ·rw[hb']at q;cases q
    ·rcases hbs.2.2.2.1 with z1 | z1
     ·exact I.ok.noex a o (I.ok.mod.kin a o q) (z▸z1)
     ·exact absurd (Jt (Jr (I.ok.bs a o (I.ok.mod.kin a o q)).1) (z▸z1)) (JJ _)
  have hea:e≠a:=λz=>hne e (by simp) z.symm
  have hia:it≠a:=λz=>hne it (by simp) z.symm
  cases tt with
  | true=>
   have hq':SqT X.K H a xs:=hq;obtain⟨its,rv,p,hz⟩:=I.tuple hq'
   exact key its rv (λys hy=>I.HR hy hq') _ _ (Enu.tupDraws (A:=X.A.in1) (I.ok.hd hc) it a (MW hia) its.toArray) (by simp[hei,hea]) (by simp) ⟨hi,p⟩ λh' z=>z.1
  | false=>
   have hq':SqL X.K H a xs:=hq;obtain⟨its,rv,p,hz⟩:=I.list hq';exact key its rv (λys hy=>I.HV hy hq') _ _ (Draws.list (A:=X.A.in1) (I.ok.hd hc) it a (MW hia) its.toArray) (by simp[hei,hea]) (by simp) ⟨hi,p.isList⟩ λh' z=>z.1
 done:=by
  intro X hP hw hK hc i pins s σ H E I hf st hg;subst hP hw hK;obtain⟨xs,hq,hx⟩:=hg;obtain⟨⟨old,he⟩,hi⟩:=st
  have fin:∀h',Rk it s.heap h'->(none:Option Ji)=none/\Inv X pins σ H { s with heap:=h' }:=λh' eb=>⟨rfl,I.HL (t':=s.toks) hf λb o hb q=>eb b o (λz=>hb (by simp[z])) q⟩
  cases tt with
  | true=>
   have hq':SqT X.K H a xs:=hq;obtain⟨its,rv,p,hz⟩:=I.tuple hq'
   have hl:=rv.length
   have hnone:its.toArray[i]? =none:=by simp;omega
   have hT:s.TypeIs (.ref e) "enumerate":=⟨_,he,rfl⟩;unfold pyNext;refine Je (Mo (J4 (name:=JC "__next__") hT OK (J9 OK hT F.entry_enumerate_next ?_ (F.args_enumerate_next_1 _))))
   show wpAny (model X.prog X.w) _ (field (.ref e) 2 >>= _) _ _ _
   refine Je (J1 he rfl (x:=.ref it) rfl ?_)
   refine Je (Enu.tupStop (I.ok.hd hc) hi p hnone λh' x he' hx'=> ?_)
   obtain⟨o,ho,hcl⟩:=hx'
   exact Je (Oz (T:="StopIteration") (b:=true) ⟨o,ho,hcl⟩ Po (Jl (fin h' he')))
  | false=>
   have hq':SqL X.K H a xs:=hq;obtain⟨its,rv,p,hz⟩:=I.list hq'
   have hl:=rv.length
   have hnone:its.toArray[i]? =none:=by simp;omega
   exact wpAny_pyNext_enum_end (I.ok.hd hc) he hi p.isList hnone fin
 self:=λ_ _ _ _ _ st h=>by
  obtain⟨⟨old,he⟩,_⟩:=st;exact Qu he h
section
variable {X:Cx}{elts:List Expr}{kk:Nat}{tpos:Pos}
theorem mS:JT "enumerate" =some (.type "enumerate"):=by decide+kernel
def iEnu (K:Jg)(tl:TA):TI:=λσ H R=>tl σ H λvs H1=> ∃a tt,vs= [.ref a]/\(∃xs,xM K H1 a tt xs)/\R (Hv K a tt) H1
theorem BO {l:Expr}{tl:TA}{p pos:Pos}(hg:Gl X "enumerate")(hm:X.mg "enumerate" =none)(hl:PA X [l] tl)(hs:JF [l] X.env= [(false,eval l X.env)]:=by rfl):PI X (.Tuple elts kk tpos) (.Call (.Name "enumerate" p) [l] [] pos) (iEnu X.K tl):=by
 intro pins s σ H R I h;refine Call_ (eE I hg hm mS (J5 (cg (hl pos pins s σ H _ I h) λus s1 ⟨vs,H1,I1,r1,q1⟩=> ?_) hs rfl))
 obtain⟨a,tt,e,⟨xs,hq⟩,q⟩:=q1;subst e;obtain⟨u,rfl,ru⟩:=gX r1;cases ru
 have fin:∀h',IsEnum h' (s1.heap.objs.size+1) s1.heap.objs.size 0 .none->itAt tt h' s1.heap.objs.size a 0->h'.objs.size=s1.heap.objs.size+2->(∀b o,s1.heap.get? b=some o->h'.get? b=some o) →
   wpAny (model X.prog X.w) X.A (pyIter (.ref (s1.heap.objs.size+1))) (PIE X pins σ (.Tuple elts kk tpos) R) X.xe { s1 with heap:=h' }:=λh' he hi hsz hk=>by
  refine Qu he ?_
  have I2:Inv X pins σ H1 { s1 with heap:=h' }:=I1.kept (t':=s1.toks) hk
  refine⟨s1.heap.objs.size+1,[s1.heap.objs.size+1,s1.heap.objs.size],_,_,H1,rfl,I2,wn tt a (s1.heap.objs.size+1) s1.heap.objs.size (Nat.succ_ne_self _),⟨⟨_,he⟩,hi⟩,λb hb=> ?_,q⟩
  rcases Jp.mp hb with rfl | hb
  ·exact I1.Ic (by omega) (I1.hok.fresh (by omega))
  ·rw[JB.mp hb];exact I1.Ic (Jv _) (I1.hok.fresh (Jv _))
 cases tt with
 | true=>
  have hq':SqT X.K H1 a xs:=hq;obtain⟨its,rv,pl,hz⟩:=I1.tuple hq'
  exact Enu.callT pl λh' he hi hsz hk=>fin h' he hi hsz hk
 | false=>
  have hq':SqL X.K H1 a xs:=hq;obtain⟨its,rv,pl,hz⟩:=I1.list hq';exact call_enumerate_list pl.isList λh' he hi hsz hk=>fin h' he hi hsz hk
end
end L2
namespace Tr
open PySem PySem.Spec PyProof.Rows L2
section
variable {X:Cx}{a:Expr}{fa:En->Rs T}{fs:En->Rs (List T)}{p pos:Pos}
def iS (f:En->Rs T)(Z:En):Rs (List T):=do
 let x <-f Z
 match x with
 | .lst l=> .ok l
 | .tup l=> .ok l
 | _=> .bad
theorem DS {tg:Expr}(ha:cj X a fa):CG X tg a (iS fa):=by
 intro pins s σ H R I ⟨Z,O,E,h⟩;unfold iS at h
 cases q:fa Z with
 | bad=>rw[q]at h;exact h.elim
 | err c=>exact u8 ha pins s σ H R I ⟨Z,O,E,by unfold iL;rw[q]at h ⊢;exact h⟩
 | ok x=>
  rw[q,aE]at h
  cases x with
  | lst l=>exact u8 ha pins s σ H R I ⟨Z,O,E,by unfold iL;rw[q];exact h⟩
  | tup l=>exact DQ ha pins s σ H R I ⟨Z,O,E,by unfold iT;rw[q];exact h⟩
  | _=>exact h.elim
def br:Nat->List T->List T
 | _,[] => []
 | n,t::r=> .tup [.int n,t] ::br (n+1) r
theorem o4:∀(l:List T) (n i:Nat),(br n l)[i]? =(l[i]?).map λt=>T.tup [.int ((n+i:Nat):Int),t]
 | [],n,i=>by simp[br]
 | t::l,n,0=>by simp[br]
 | t::l,n,i+1=>by
  rw[br,LZ,o4 l (n+1) i,LZ]
  congr 2
  funext t
  congr 4
  omega
theorem o0:∀(l:List T) (n:Nat),(br n l).length=l.length
 | [],n=>rfl
 | t::l,n=>by rw[br,Jq,Jq,o0 l]
def iE (f:En->Rs (List T))(Z:En):Rs (List T):=do
 let xs <-f Z
 match xs with
 | [x] =>match x.items with
  | some l=> .ok (br 0 l)
  | none=> .bad
 | _=> .bad
theorem Bu {elts:List Expr}{kk:Nat}{tpos:Pos}(hm:X.mg "enumerate" =none)(ha:qR X [a] fs)(hg:Gl X "enumerate":=by rfl)(hs:JF [a] X.env= [(false,eval a X.env)]:=by rfl) :
  CG X (.Tuple elts kk tpos) (.Call (.Name "enumerate" p) [a] [] pos) (iE fs):=PI.imp (BO hg hm ha hs) λσ H R hh_=>by
 obtain⟨Z,O,E,h⟩:=hh_;obtain⟨Z1,O1,E1,h1⟩:=d8 E h;refine⟨Z1,O1,E1,Post.mono h1 λts H1 s1 q vs r=> ?_⟩
 obtain⟨t',r',s',E',q'⟩:=q vs r
 split at q'
 ·rename_i x0
  obtain⟨v,rfl,rv⟩:=r'.one
  split at q'
  ·rename_i l hl
   have main:∀(aa:Addr) (tt:Bool) (ws:List V),v= .ref aa->¬ O aa->Reps X.K O H1 l ws->xM X.K H1 aa tt ws->(∀P Hc,SameO P H1 Hc->¬ P aa->xM X.K Hc aa tt ws)->¬ Nw X.K H1 aa →
     ∃a tt,[v] = [V.ref a]/\(∃xs,xM X.K H1 a tt xs)/\R (Hv X.K a tt) H1:=λaa tt ws e n z sq mv nn=>by
    refine⟨aa,tt,by rw[e],⟨ws,sq⟩,q' H1 (Same.refl H1) _ λP O' hP hO i Hc hsm htr=> ?_⟩
    have hnP:¬ P aa:=λy=>(hP aa y).elim n nn
    have sqc:=mv P Hc hsm hnP;refine⟨λhi=>⟨ws,sqc,by rw[<-z.length,<-o0 l 0];exact hi⟩,λt ht=> ?_⟩
    rw[o4]at ht
    cases e1:l[i]? with
    | none=>rw[e1]at ht;cases ht
    | some t0=>
     rw[e1]at ht;cases ht;obtain⟨v0,f1,f2⟩:=z.get e1;refine⟨⟨ws,v0,sqc,f1⟩,λx Hc' y=> ?_⟩
     obtain⟨pp,vv,e2,hpn,e3,hy⟩:=y
     have:=hy ws sqc;rw[f1]at this;cases this;subst e2 e3;refine⟨aN hpn _,gc hpn (λzz=> ?_) (Reps.HE (by simpa using Rep.HG _) (Reps.HE (f2.move hP hO hsm) Reps.HI))⟩
     obtain⟨o,w⟩:=htr pp zz;rw[hpn]at w;cases w
   cases x0 with
   | tup m=>
    cases hl;obtain⟨aa,ws,e,n,qq,z⟩:=Rep.HB.mp rv
    exact main aa true ws e n z (show SqT X.K H1 aa ws from SqT.of qq) (λP Hc hsm hn=>show SqT X.K Hc aa ws from SqT.of (hsm _ _ qq hn)) λw=>by rw[w.1]at qq;cases qq
   | lst m=>
    cases hl;obtain⟨aa,ws,e,n,qq,z⟩:=Rep.HA.mp rv
    exact main aa false ws e n z (show SqL X.K H1 aa ws from SqL.of qq) (λP Hc hsm hn=>show SqL X.K Hc aa ws from SqL.of (hsm _ _ qq hn)) λw=>by rw[w.1]at qq;cases qq
   | scr m=>
    cases hl;unfold Rep at rv;obtain⟨aa,e,n,qq⟩:=rv
    exact main aa false _ e n Reps.ints (show SqL X.K H1 aa _ from qq) (λP Hc hsm hn=>show SqL X.K Hc aa _ from Tr.SqL.keep hsm hn qq) (Tr.SqL.nn qq)
   | _=>cases hl
  ·exact q'.elim
 ·exact q'.elim
end
end Tr
namespace Tm
open PySem PyProof.Rows
theorem kn:fillsNumberSlot (.type "tuple") "mul" =pure false:=
 PySem.fillsNumberSlot_seq (id:="tuple.__mul__") (r:=some (.builtin "tuple.__rmul__")) Os.lookup (by decide+kernel) Qk.lookup (by decide+kernel)
theorem pQ:seqRepeat? (.type "tuple")=pure (some (.builtin "tuple.__mul__")):=by
 unfold seqRepeat?;rw[Q0 (T:="tuple") (name:="__mul__") (id:="tuple.__mul__") Os.lookup (by decide+kernel),Q0 (T:="tuple") (name:="__rmul__") (id:="tuple.__rmul__") Qk.lookup (by decide+kernel)]
 rfl
theorem tZ (a:Int)(t:Tok)(l:Addr)(items:Array Ji)(n:Nat)(dd:Option Addr)(sl:Array (Option Ji)) :
  Meets (Builtin.«int.__rmul__» ⟨[.int a t,.ref l],[]⟩) (λ_ R s=>s.heap.get? l=some { cls:=.type "tuple",dict:=dd,data:=.seq items n,slots:=sl }/\R (.ok (.ret Pd)) s):=
 .of_wp λprog w A R s h=>by obtain⟨hp,g,d,tk,os⟩:=s;obtain⟨hl,h⟩:=h;wp_walk;exact⟨_,rfl,h⟩
open AutoSeq1 (wpAny_loadPart')
theorem zh (l:Addr)(items:Array Ji)(n:Nat)(dd:Option Addr)(sl:Array (Option Ji))(x:Int)(u:Tok)(h1:1<x)(h2:x<2 ^ 31)(hne:items.isEmpty=false)(hz:items.size*x.toNat<=sizeLine)
  (hz2:(N3 (λa b=>a++b) #[] (JK x.toNat items)).size<=sizeLine) :
  Meets (Builtin.«tuple.__mul__» ⟨[.ref l,.int x u],[]⟩) (λ_ R s=>s.heap.get? l=some { cls:=.type "tuple",dict:=dd,data:=.seq items n,slots:=sl } ∧
   R (.ok (.ret (Jz s.heap.objs.size))) { s with heap:=s.heap.push { cls:=Kf "tuple",data:=Data.seq (N3 (λa b=>a++b) #[] (JK x.toNat items)) } }):=
 .of_wp λprog w A R s h=>by
  obtain⟨hp,g,d,tk,os⟩:=s;obtain⟨hl,h⟩:=h
  have hT:RH hp l items:=⟨_,hl,rfl,n,rfl⟩
  have hx:((items.size:Nat):Int)*x=((items.size*x.toNat:Nat):Int):=by
   have e:x=((x.toNat:Nat):Int):=by omega
   rw[Int.natCast_mul,<-e]
  wp_walk using KQ hl
  rw[if_neg (by simp;omega)]
  refine Je (P9 (s:=⟨hp,g,d,tk,os⟩) hT ?_)
  dsimp only
  rw[if_neg (by rw[hne];simp;omega),if_neg (by rw[hne];simp;omega),hx,if_neg (by have:(sizeLine:Nat)<=1000000000:=(by decide);omega),if_neg (by unfold Builtin.Tuple.tupleTooMany;rw[decide_eq_true_iff];omega)]
  refine Je (m:=K9 _) (KM ?_ hz2)
  exact Jl ⟨_,rfl,h⟩
section
variable {prog:JI}{w:Kn}{A:JZ}{E:Ji->Jk->Prop}{s:Jk}
theorem mul_tuple {t:Addr}{vs:List Ji}{k:Int}{tk:Tok}{Q:Ji->Jk->Prop}(ht:RH s.heap t vs.toArray)(h1:1<k)(h2:k<2 ^ 31)(hv:vs≠ [])(hz:vs.length*k.toNat<=sizeLine)
  (h:Q (.ref s.heap.objs.size) { s with heap:=s.heap.push { cls:=.type "tuple",data:=.seq (JK k.toNat vs).flatten.toArray } }) :
  wpAny (model prog w) A (Lc .Mult (.ref t) (.int k tk)) Q E s:=by
 obtain⟨⟨cls,dd,data,sl⟩,ho,hc,n,hd⟩:=id ht;simp only at hc hd;subst hc hd
 have e:N3 (λa b=>a++b) #[] (JK k.toNat vs.toArray)=(JK k.toNat vs).flatten.toArray:=by
  have q:=L2.foldl_rep vs k.toNat []
  simpa using q
 refine NU (T:="tuple") (U:="int") (by decide) ⟨_,ho,rfl⟩ (λs'=>Pa s' k tk) kn Ri Nn pQ QV.lookup
  (Nl Nn (Pa s k tk) QX (Qj _ _) (tZ k tk t vs.toArray n dd sl)
   ⟨ho,rfl,⟨_,ho,rfl⟩,Nl Os ⟨_,ho,rfl⟩ F.entry_tuple_mul (F.args_tuple_mul_2 _ _) (zh t vs.toArray n dd sl k tk h1 h2 (by simpa using hv) (by simpa using hz) (by rw[e,Jw,L2.len_rep,QB];exact hz)) ⟨ho,?_⟩⟩)
 rw[e];exact h
end
end Tm
namespace Tr
open PySem PySem.Spec PyProof.Rows L2
section
variable {X:Cx}
def cw (x y:T):Rs T:=match x,y with
 | .tup l,.int k=>if 1<k/\k<2 ^ 31/\l≠ []/\l.length*k.toNat<=sizeLine then .ok (.tup (JK k.toNat l).flatten)else .bad
 | x,y=>um x y
instance (l:List T):Decidable (l≠ []):=by cases l <;> simp <;> infer_instance
theorem dI:OpT X (Lc .Mult) cw:=by
 intro pins s σ H O x y vx vy ux uy Q I hf rx ry r1 r2 hp;unfold cw at hp
 split at hp
 ·rename_i l k
  split at hp
  ·rename_i h
   obtain⟨a,vs,e1,n1,q1,z1⟩:=Rep.HB.mp rx;subst e1;cases Rep.Hz.mp ry;cases r1;obtain⟨tk,rfl⟩:=r2;obtain⟨its,rv,pl,hz⟩:=I.tuple (SqT.of q1)
   have hl1:=z1.length
   have hl2:=rv.length
   have hne:its≠ []:=λz=>h.2.2.1 (List.eq_nil_of_length_eq_zero (by rw[hl1,hl2,z];rfl))
   refine Tm.mul_tuple pl h.1 h.2.1 hne (by rw[<-hl2,<-hl1];exact h.2.2.2) ?_
   have hn:=I.hok.fresh (Jv _);refine⟨.ref _,_,I.laid (t':=s.toks) (o:=.tup (JK k.toNat vs).flatten) (λb ob q=>Jf _ q) (Jv _) ?_,rfl,hp _ (aN hn _) _ (gc hn (hf _ hn) (z1.rep _))⟩
   refine⟨?_,_,rv.rep k.toNat,Rh _ _⟩
   rw[len_rep,QB,<-hl1];exact h.2.2.2
  ·exact hp.elim
 ·exact Eo pins s σ H O _ _ vx vy ux uy Q I hf rx ry r1 r2 hp
end
def GH (outer:List (Str×Mk))(N:List Str)(names:List (Str×Mk))(N':List Str)(src:List (Option Nat)):Bool:=
 names.all (λy=>y.2 != .cell||names.lookup y.1 == some .cell)&&names.all (λy=>y.2 != .local||names.lookup y.1 == some .local)&&src.length == N'.length&&
 (Kv N'.length).all (λj=>match src[j]? with
  | some (some i)=>match N'[j]? with
   | some x=>N[i]? == some x&&names.lookup x == some .free
   | none=>true
  | _=>true)&&
 names.all (λy=>y.2 != .free||(outer.lookup y.1 == some .cell||outer.lookup y.1 == some .free))
theorem LcScope.by {X:Cx}{scope:Ny}{N N':List Str}{src:List (Option Nat)}{names:List (Str×Mk)}(hN:X.N=N)(hs:X.env.scope.names=names)(hk:scope.kind= .function)(h:GH names N scope.names N' src=true):LcScope X scope N' src:=by
 unfold GH at h;simp only[Jo]at h;obtain⟨⟨⟨⟨h1,h2⟩,h3⟩,h4⟩,h5⟩:=h
 have a1:=JL.mp h1
 have a2:=JL.mp h2
 have a4:=JL.mp h4
 have a5:=JL.mp h5;refine⟨hk,λy hy hl=>by have:=a1 y hy;rw[hl]at this;simpa using this,λy hy hl=> ?_,by simpa using h3,λj i x e1 e2=> ?_,λx hx=> ?_⟩
 ·have:=a2 y hy
  rw[hl]at this
  simpa using this
 ·have hj:j<N'.length:=(Jy.mp e2).1
  have:=a4 j (KY.mpr hj);rw[e1]at this;simp only[e2]at this;rw[Jo]at this;rw[hN];exact⟨by simpa using this.1,by simpa using this.2⟩
 ·have:=a5 _ hx
  simp only[bne_self_eq_false,PV,Bool.or_eq_true]at this
  show X.env.scope.names.lookup x=_\/X.env.scope.names.lookup x=_
  rw[hs];rcases this with z | z
  ·exact .inl (by simpa using z)
  ·exact .inr (by simpa using z)
def bO:Expr->Bool
 | .Starred .. =>false
 | _=>true
def bn:List Expr->Bool
 | [] =>true
 | e::r=>bO e&&bn r
theorem ba {e:Expr}{es:List Expr}{env:Env}(h:bO e=true):JF (e::es) env=(false,eval e env)::JF es env:=by
 cases e <;> first | rfl | cases h
theorem e9 {pos:Pos}{env:Env}:∀{es:List Expr},bn es=true->(backTo pos (JF es env)).any (·.1)=false
 | [],_=>rfl
 | e::r,h=>by
  unfold bn at h;rw[Jo]at h;rw[ba h.1]
  have ih:=e9 (pos:=pos) (env:=env) h.2
  show(false||(backTo pos (JF r env)).any (·.1))=false
  rw[ih];rfl
section
variable {X:Cx}{a b e:Expr}{es:List Expr}{fa:En->Rs T}{fs:En->Rs (List T)}{pos p p2:Pos}{x:Str}
theorem qa_c {f:En->Rs T}{g:En->Rs (List T)}(he:cj X e f)(hr:qR X es g)(hn:bO e=true:=by rfl):qR X (e::es) (ae f g):=Bx he hr (ba hn)
theorem q_cB {id:String}{g:List T->Rs T}(hc:CallT X (.builtin id) g)(hm:X.mg x=none)(hv:JT x=some (.builtin id))(ha:qR X (e::es) fs)(hn:bn (e::es)=true:=by rfl)(hg:Gl X x:=by rfl)(h1:x≠ "__name__":=by decide)(h2:ie x:=by decide) :
  cj X (.Call (.Name x p) (e::es) [] pos) (cl g fs):=by
 unfold bn at hn;rw[Jo]at hn;exact BA hc hm hv ha hg h1 h2 (ba hn.1) (e9 hn.2)
theorem q_cT {Ty:String}{g:List T->Rs T}(hc:CallT X (.type Ty) g)(hm:X.mg x=none)(hv:JT x=some (.type Ty))(ha:qR X (e::es) fs)(hn:bn (e::es)=true:=by rfl)(hg:Gl X x:=by rfl)(h1:x≠ "__name__":=by decide)(h2:ie x:=by decide) :
  cj X (.Call (.Name x p) (e::es) [] pos) (cl g fs):=by
 unfold bn at hn;rw[Jo]at hn;exact yG hc hm hv ha hg h1 h2 (ba hn.1) (e9 hn.2)
theorem q_c {n k:Nat}{f:Addr}{fd:Ld}{ps:List Str}{g:List T->Rs T}(F:Fz X.prog X.w X.K X.mg X.base k f fd ps n g)(hr:Room k X.A)(hm:X.mg x=some (.ref f))(hk:M4 X.K (.ref f)=true)(hb:Binds X.K fd ps [])
  (hl:∀Z ts,fs Z= .ok ts->ts.length=n) (ha:qR X (e::es) fs) (hps:ps.length=n:=by rfl) (hn:bn (e::es)=true:=by rfl) (hg:Gl X x:=by rfl) (h2:ie x:=by decide):cj X (.Call (.Name x p) (e::es) [] pos) (cl g fs):=by
 unfold bn at hn;rw[Jo]at hn;exact DZ F hr hm hk hb hps hl ha hg h2 (ba hn.1) (e9 hn.2)
theorem q_is {tn:Str}{Ty:String}(hm:X.mg "isinstance" =none)(hmt:X.mg tn=none)(hv:JT tn=some (.type Ty))(ha:cj X a fa)(hn:bO a=true:=by rfl)(hg:Gl X "isinstance":=by rfl)(hgt:Gl X tn:=by rfl)
  (h1:tn≠ "__name__":=by decide) (h2:ie tn:=by decide):cj X (.Call (.Name "isinstance" p) [a,.Name tn p2] [] pos) (o1 (Cf Ty) fa):=
 Gh hm hmt hv ha hg hgt h1 h2 (ba hn) (e9 rfl) (ba rfl)
end
theorem G8 (Z:En)(ts:List T)(h:ah Z= .ok ts):ts.length=0:=by cases h;rfl
theorem G7 {n:Nat}{f:En->Rs T}{g:En->Rs (List T)}(hg:∀Z ts,g Z= .ok ts->ts.length=n)(Z:En)(ts:List T)(h:ae f g Z= .ok ts):ts.length=n+1:=by
 unfold ae at h
 cases q:f Z with
 | bad=>rw[q]at h;cases h
 | err c=>rw[q]at h;cases h
 | ok t=>
  rw[q,aE]at h
  cases q2:g Z with
  | bad=>rw[q2]at h;cases h
  | err c=>rw[q2]at h;cases h
  | ok r=>
   rw[q2,aE]at h;cases h;rw[Jq,hg Z r q2]
theorem n5 {k:Nat}{A:JZ}(h:Room k A):A.units+60<cLine:=by have:=h.un;omega
theorem sY {k:Nat}{A:JZ}(h:Room k A):A.units+61<cLine:=by have:=h.un;omega
structure Fn (K:Jg)(mg:Str->Option Ji)(x:Str)(st:Stmt)(ps:List Str)(f:Addr)(fd:Ld):Prop where
 fn:L2.Fun K x x st f fd
 bd:Binds K fd ps []
 mg:mg x=some (.ref f)
def val (n m:Nat)(F:En->Rs Fl)(ts:List T):Rs T:=if ts.length=n then bw F (aK m ts)else .bad
theorem Dn {n m:Nat}{F:En->Rs Fl}{ts:List T}{t:T}(h:val n m F ts= .ok t):bw F (aK m ts)= .ok t:=by
 unfold val at h
 split at h
 ·exact h
 ·cases h
theorem sp_script {K:Jg}{H:Hp}{a:Addr}{ns:List Int}{g:List T->Rs T}{E:XK}(hS:SqL K H a (ns.map V.int))(h:g [.scr ns] = .ok (.bl true)):spP K 1 g [.ref a] H (λv _=>v= .bl true) E:=by
 refine⟨[.scr ns],λ_=>False,Reps.HE ?_ Reps.HI,λ_ z=>z.elim,rfl,?_⟩
 ·unfold Rep;exact⟨a,rfl,λz=>z,hS⟩
 ·rw[h];exact λv H' _ r=>Rep.HC.mp r
theorem rH {α:Type}{l:List α}{i:Nat}{z:α}(h:l[i]? =some z):l.set i z=l:=by
 obtain⟨hi,rfl⟩:=Jy.mp h
 exact List.set_getElem_self hi
def Mn.set (M:Mn)(i:Nat)(m:Ow):Mn:=λj=>if j=i then m else M j
theorem Mn.H0 {M:Mn}{i:Nat}{m:Ow}{a:Addr}(h:(M.set i m).u a):m a\/M.u a:=by
 obtain⟨j,h⟩:=h;unfold Mn.set at h
 by_cases z:j=i
 ·rw[if_pos z]at h;exact .inl h
 ·rw[if_neg z]at h;exact .inr ⟨j,h⟩
theorem Mn.ID {M:Mn}{i:Nat}{m:Ow}:M.set i m i=m:=by unfold Mn.set;rw[if_pos rfl]
theorem Mn.Ib {M:Mn}{i j:Nat}{m:Ow}(h:j≠i):M.set i m j=M j:=by unfold Mn.set;rw[if_neg h]
theorem RowsR.move {K:Jg}{O O' P:Ow}{H H':Hp}(hP:∀a,P a->O a\/Nw K H a)(hO:∀a,O' a->O a\/Nw K H a)(h:SameO P H H'):∀{rs:List (List T×List T)} {as:List Addr},(∀b∈as,¬P b)->RowsR K O H rs as->RowsR K O' H' rs as
 | [],_,_,r=>r
 | _::_,_,hb,⟨b,bs,kvs,e1,e2,e3,e4,e5⟩=>by
  subst e1;exact⟨b,bs,kvs,rfl,h _ _ e2 (hb b Jj),e3,e4.move hP hO h,e5.move hP hO h λc hc=>hb c (Jh _ hc)⟩
theorem ORep.move {K:Jg}{O O' P M:Ow}{H H':Hp}{o:OT}{v:V}(hP:∀a,P a->O a\/Nw K H a)(hO:∀a,O' a->O a\/Nw K H a)(h:SameO P H H')(hM:∀a,M a->¬ P a)(r:ORep K O M H o v):ORep K O' M H' o v:=by
 cases o with
 | lst l=>obtain⟨a,vs,e1,e2,e3,e4⟩:=r;exact⟨a,vs,e1,e2,h _ _ e3 (hM a ((e2 a).mpr rfl)),e4.move hP hO h⟩
 | dct ks ts=>obtain⟨a,kvs,e1,e2,e3,e4,e5⟩:=r;exact⟨a,kvs,e1,e2,h _ _ e3 (hM a ((e2 a).mpr rfl)),e4,e5.move hP hO h⟩
 | dd ks rows=>
  obtain⟨a,kvs,as,e1,e2,e3,e4,e5,e6,e7,e8⟩:=r;exact⟨a,kvs,as,e1,e2,e3,e4,h _ _ e5 (hM a ((e2 a).mpr (.inl rfl))),e6,e7,e8.move hP hO h λb hb=>hM b ((e2 b).mpr (.inr hb))⟩
theorem RowsR.mtb {K:Jg}{O:Ow}{H:Hp}:∀{rs:List (List T×List T)} {as:List Addr},RowsR K O H rs as->∀b∈as,∃kvs,H b=some (.dT kvs)
 | [],_,r,b,hb=>by unfold RowsR at r;subst r;simp at hb
 | _::_,_,⟨b0,bs,kvs,e1,e2,e3,e4,e5⟩,b,hb=>by
  subst e1;rcases Jp.mp hb with rfl | hb
  ·exact⟨kvs,e2⟩
  ·exact e5.mtb b hb
def OT.isD:OT->Bool
 | .lst _=>false
 | _=>true
theorem ORep.kind {K:Jg}{O M:Ow}{H:Hp}{o:OT}{v:V}(r:ORep K O M H o v):∀a,M a->if o.isD then ∃kvs,H a=some (.dT kvs)else ∃vs,H a=some (.lst vs):=λa z=>by
 cases o with
 | lst l=>obtain⟨b,vs,e1,e2,e3,e4⟩:=r;cases (e2 a).mp z;exact⟨vs,e3⟩
 | dct ks ts=>obtain⟨b,kvs,e1,e2,e3,e4,e5⟩:=r;cases (e2 a).mp z;exact⟨kvs,e3⟩
 | dd ks rows=>
  obtain⟨b,kvs,as,e1,e2,e3,e4,e5,e6,e7,e8⟩:=r
  rcases(e2 a).mp z with z | z
  ·cases z;exact⟨kvs,e5⟩
  ·exact e8.mtb a z
theorem ORep.mtb {K:Jg}{O M:Ow}{H:Hp}{o:OT}{v:V}(r:ORep K O M H o v)(a:Addr)(z:M a):Mtb H a:=by
 have:=r.kind a z
 split at this
 ·exact .inr this
 ·exact .inl this
theorem rQ {K:Jg}{O:Ow}{H:Hp}:∀{rs:List (List T×List T)} {as:List Addr},(∀b∈as,¬O b)->RowsR K O H rs as->Reps K O H (rs.map λr=>T.dct r.1 r.2) (as.map V.ref)
 | [],_,_,r=>by unfold RowsR at r;subst r;exact Reps.HI
 | _::_,_,hn,⟨b,bs,kvs,e1,e2,e3,e4,e5⟩=>by
  subst e1;exact Reps.HE (Rep.HF.mpr ⟨b,kvs,rfl,hn b Jj,.inl e2,e3,e4⟩) (rQ (λc hc=>hn c (Jh _ hc)) e5)
theorem RowsR.less {K:Jg}{O O':Ow}{H:Hp}(sub:∀a,O' a->O a):∀{rs:List (List T×List T)} {as:List Addr},RowsR K O H rs as->RowsR K O' H rs as
 | [],_,r=>r
 | _::_,_,⟨b,bs,kvs,e1,e2,e3,e4,e5⟩=>⟨b,bs,kvs,e1,e2,e3,e4.less sub,e5.less sub⟩
theorem ORep.rep {K:Jg}{O O' M:Ow}{H:Hp}{o:OT}{v:V}(sub:∀a,O' a->O a)(hn:∀a,M a->¬ O' a)(r:ORep K O M H o v):Rep K O' H o.view v:=by
 cases o with
 | lst l=>obtain⟨a,vs,e1,e2,e3,e4⟩:=r;exact Rep.HA.mpr ⟨a,vs,e1,hn a ((e2 a).mpr rfl),e3,e4.less sub⟩
 | dct ks ts=>obtain⟨a,kvs,e1,e2,e3,e4,e5⟩:=r;exact Rep.HF.mpr ⟨a,kvs,e1,hn a ((e2 a).mpr rfl),.inl e3,e4,e5.less sub⟩
 | dd ks rows=>
  obtain⟨a,kvs,as,e1,e2,e3,e4,e5,e6,e7,e8⟩:=r;refine Rep.HF.mpr ⟨a,kvs,e1,hn a ((e2 a).mpr (.inl rfl)),.inl e5,e6,?_⟩
  rw[e7];exact rQ (λb hb=>hn b ((e2 b).mpr (.inr hb))) (e8.less sub)
section
variable {K:Jg}{B:Ow}{M:Mn}{H H':Hp}{Z:En}{σ:L2.St}{i:Nat}{o o':OT}{v:V}{m:Ow}
theorem Ev.new (E:Ev K B M H Z σ)(hl:i<Z.length)(hm:∀a,m a->Nw K H a)(s:Same H H')(r:ORep K (OO B (M.set i m)) m H' o v) :
  Ev K B (M.set i m) H' (Z.set i (.ow o)) (σ.set i (some v))/\∀a,(M.set i m).u a->M.u a\/Nw K H a:=by
 have hls:i<σ.length:=by rw[<-E.env.len];exact hl
 have sub:∀a,(M.set i m).u a->M.u a\/Nw K H a:=λa z=>(Mn.H0 z).elim (λw=> .inr (hm a w)) .inl
 have subO:∀a,OO B (M.set i m) a->OO B M a\/Nw K H a:=λa z=>z.elim (λw=> .inl (.inl w)) λw=>(sub a w).elim (λy=> .inl (.inr y)) .inr
 have c6:∀a,Nw K H a->¬ OO B M a:=λa w z=>by
  obtain⟨o,e⟩:=(E.env.trk a z).some;rw[w.1]at e;cases e
 refine⟨⟨⟨by rw[Kr,Kr];exact E.env.len,λj t e=> ?_,λj o' e=> ?_,λj a z=> .inr ⟨j,z⟩,λj k a z1 z2=> ?_,λa z=> ?_⟩,λa z=> ?_⟩,sub⟩
 ·by_cases hj:i=j
  ·subst hj;rw[JM hl]at e;cases e
  ·rw[JO hj]at e
   obtain⟨w,e1,e2⟩:=E.env.val j t e;exact⟨w,by rw[JO hj];exact e1,(e2.more subO).same s⟩
 ·by_cases hj:i=j
  ·subst hj
   rw[JM hl]at e
   cases e;exact⟨v,JM hls,by rw[Mn.ID];exact r⟩
  ·rw[JO hj]at e
   obtain⟨w,e1,e2⟩:=E.env.own j o' e;refine⟨w,by rw[JO hj];exact e1,?_⟩
   rw[Mn.Ib (λz=>hj z.symm)]
   exact(e2.move (P:=wP) (λ_ z=>z.elim) subO (λb u q _=>q) λ_ _ z=>z).same s
 ·unfold Mn.set at z1 z2
  by_cases hj:j=i
  ·by_cases hk:k=i
   ·exact hj.trans hk.symm
   ·rw[if_pos hj]at z1;rw[if_neg hk]at z2
    exact(c6 a (hm a z1) (.inr ⟨k,z2⟩)).elim
  ·by_cases hk:k=i
   ·rw[if_neg hj]at z1;rw[if_pos hk]at z2
    exact(c6 a (hm a z2) (.inr ⟨j,z1⟩)).elim
   ·rw[if_neg hj]at z1;rw[if_neg hk]at z2
    exact E.env.dis j k a z1 z2
 ·rcases z with z | z
  ·exact(E.env.trk a (.inl z)).same s
  ·rcases Mn.H0 z with w | w
   ·exact r.mtb a w
   ·exact(E.env.trk a (.inr w)).same s
 ·intro hb
  rcases Mn.H0 z with w | w
  ·exact c6 a (hm a w) (.inl hb)
  ·exact E.mine a w hb
theorem Ev.put (E:Ev K B M H Z σ)(hi:Z[i]? =some (.ow o))(hs:σ[i]? =some (some v))(s:SameO (M i) H H')(r:ORep K (OO B M) (M i) H' o' v):Ev K B M H' (Z.set i (.ow o')) σ/\SameO M.u H H':=by
 have hl:i<Z.length:=(Jy.mp hi).1
 have inO:∀a,M i a->OO B M a\/Nw K H a:=λa z=> .inl (.inr ⟨i,z⟩)
 have idO:∀a,OO B M a->OO B M a\/Nw K H a:=λa z=> .inl z
 refine⟨⟨⟨by rw[Kr];exact E.env.len,λj t e=> ?_,λj o2 e=> ?_,E.env.sub,E.env.dis,λa z=> ?_⟩,E.mine⟩,λb u e n=>s b u e λz=>n ⟨i,z⟩⟩
 ·by_cases hj:i=j
  ·subst hj;rw[JM hl]at e;cases e
  ·rw[JO hj]at e
   obtain⟨w,e1,e2⟩:=E.env.val j t e;exact⟨w,e1,e2.move inO idO s⟩
 ·by_cases hj:i=j
  ·subst hj
   rw[JM hl]at e
   cases e;exact⟨v,hs,r⟩
  ·rw[JO hj]at e
   obtain⟨w,e1,e2⟩:=E.env.own j o2 e;exact⟨w,e1,e2.move inO idO s λa z y=>hj (E.env.dis i j a y z)⟩
 ·by_cases hz:M i a
  ·exact r.mtb a hz
  ·rcases E.env.trk a z with⟨vs,e⟩ | ⟨kvs,e⟩
   ·exact .inl ⟨vs,s _ _ e hz⟩
   ·exact .inr ⟨kvs,s _ _ e hz⟩
def disown (i:Nat)(Z:En):En:=match Z[i]? with
 | some (.ow o)=>Z.set i (.va o.view)
 | _=>Z
theorem EnvM.disown {O O':Ow}{Z:En}(E:EnvM K O M H Z σ)(i:Nat)(sub:∀a,O' a->O a)(hn:∀a,M i a->¬ O' a)(hin:∀j a,j≠i->M j a->O' a):EnvM K O' (M.set i wP) H (disown i Z) σ:=by
 have base:EnvM K O' (M.set i wP) H (Z.set i (match Z[i]? with | some (.ow o)=> .va o.view | some x=>x | none=> .em)) σ:=by
  refine⟨by rw[Kr];exact E.len,λj t e=> ?_,λj o e=> ?_,λj a z=> ?_,λj k a z1 z2=> ?_,λa z=>E.trk a (sub a z)⟩
  ·by_cases hj:i=j
   ·subst hj
    by_cases hl:i<Z.length
    ·rw[JM hl]at e
     cases q:Z[i]? with
     | none=>rw[q]at e;cases e
     | some z=>
      rw[q]at e
      cases z with
      | em=>cases e
      | va t'=>cases e;obtain⟨w,e1,e2⟩:=E.val i _ q;exact⟨w,e1,e2.less sub⟩
      | ow o=>cases e;obtain⟨w,e1,e2⟩:=E.own i _ q;exact⟨w,e1,e2.rep sub hn⟩
    ·rw[K6 (by rw[Kr];omega)]at e;cases e
   ·rw[JO hj]at e
    obtain⟨w,e1,e2⟩:=E.val j t e;exact⟨w,e1,e2.less sub⟩
  ·by_cases hj:i=j
   ·subst hj
    by_cases hl:i<Z.length
    ·rw[JM hl]at e
     cases q:Z[i]? with
     | none=>rw[q]at e;cases e
     | some z=>
      rw[q]at e
      cases z with
      | em=>cases e
      | va t'=>cases e
      | ow o=>cases e
    ·rw[K6 (by rw[Kr];omega)]at e;cases e
   ·rw[JO hj]at e
    obtain⟨w,e1,e2⟩:=E.own j o e;refine⟨w,e1,?_⟩
    rw[Mn.Ib (λz=>hj z.symm)]
    exact e2.move (P:=wP) (λ_ z=>z.elim) (λa z=> .inl (sub a z)) (λb u q _=>q) λ_ _ z=>z
  ·unfold Mn.set at z
   by_cases hj:j=i
   ·rw[if_pos hj]at z;exact z.elim
   ·rw[if_neg hj]at z;exact hin j a hj z
  ·unfold Mn.set at z1 z2
   by_cases hj:j=i
   ·rw[if_pos hj]at z1;exact z1.elim
   ·by_cases hk:k=i
    ·rw[if_pos hk]at z2;exact z2.elim
    ·rw[if_neg hj]at z1;rw[if_neg hk]at z2;exact E.dis j k a z1 z2
 unfold Tr.disown
 cases q:Z[i]? with
 | none=>rw[q,List.set_eq_of_length_le (NR.mp q)]at base;exact base
 | some z=>
  rw[q]at base
  cases z with
  | em=>rw[rH q]at base;exact base
  | va t=>rw[rH q]at base;exact base
  | ow o=>exact base
theorem Ev.disown (E:Ev K B M H Z σ)(i:Nat):Ev K B (M.set i wP) H (disown i Z) σ/\∀a,(M.set i wP).u a->M.u a:=by
 have sub:∀a,(M.set i wP).u a->M.u a:=λa z=>(Mn.H0 z).elim (λw=>w.elim) id
 refine⟨⟨E.env.disown i (λa z=>z.elim .inl λw=> .inr (sub a w)) (λa z y=> ?_) λj a hj z=> .inr ⟨j,by rw[Mn.Ib hj];exact z⟩,λa z=>E.mine a (sub a z)⟩,sub⟩
 rcases y with y | ⟨j,y⟩
 ·exact E.mine a ⟨i,z⟩ y
 ·unfold Mn.set at y
  by_cases hj:j=i
  ·rw[if_pos hj]at y;exact y
  ·rw[if_neg hj]at y;exact hj (E.env.dis j i a y z)
end
section
variable {X:Cx}{a:Expr}{es:List Expr}{fa:En->Rs T}{pos p2 p3:Pos}{x:Str}
theorem Ev.subO {K:Jg}{B:Ow}{M:Mn}{H:Hp}{i:Nat}{m:Ow}(hm:∀a,m a->Nw K H a)(a:Addr)(z:OO B (M.set i m) a):OO B M a\/Nw K H a:=
 z.elim (λw=> .inl (.inl w)) λw=>(Mn.H0 w).elim (λy=> .inr (hm a y)) λy=> .inl (.inr y)
theorem vf {K:Jg}{H H1:Hp}(s:Same H H1){a:Addr}(n:Nw K H1 a):Nw K H a:=(gq (SameO.of (P:=wP) s) n).elim (λz=>z.elim) id
def FO (X:Cx)(t:TA):TE:=λσ H Q=>t σ H λxs H1=>xs.length<=sizeLine/\∀p,Nw X.K H1 p->Q (.ref p) (upd H1 p (.lst xs))
theorem BR {t:TA}(h:PA X es t):PE X (.List es pos) (FO X t):=by
 intro pins s σ H Q I hq;refine P5 (cg (h pos pins s σ H _ I hq) λus s1 ⟨xs,H1,I1,r,z,q⟩=>⟨by rw[<-r.length];exact z,?_⟩)
 have hf:H1 s1.heap.objs.size=none:=I1.hok.fresh (Jv _)
 have hk:X.K.lookup s1.heap.objs.size=none:=by
  cases q:X.K.lookup s1.heap.objs.size with
  | none=>rfl
  | some o=>exact absurd (Jr (I1.kIn _ o q)) (JJ _)
 refine⟨.ref s1.heap.objs.size,upd H1 s1.heap.objs.size (.lst xs),I1.laid (t':=s1.toks) (λb u e=>Jf _ e) (Jv _) ?_,rfl,q _ ⟨hf,hk⟩⟩
 exact⟨z,us,0,r,Js _ rfl⟩
def gP (i:Nat)(f:En->Rs (List T))(Z:En):Rs Fl:=do
 let l <-f Z
 if i<Z.length/\l.length<=sizeLine then .ok (.nx (Z.set i (.ow (.lst l))))else .bad
theorem Bj (i:Nat){f:En->Rs (List T)}(hN:X.N.Nodup)(ha:qR X es f)(hi:X.N[i]? =some x:=by rfl)(hx:Loc X.env.scope x:=by first | exact Lx rfl | exact KO rfl)(hs:KP (.List es p2) (some (.Name x p3)) pos.line X.env=pure false:=by rfl)
  (hf:X.fn x=true\/X.env.scope.names.lookup x=some .local:=by first | exact .inl rfl | exact .inr rfl | assumption):n8 X (.Assign [.Name x p3] (.List es p2) pos) (gP i f):=PS.imp (ua hN hi hx (BR ha) hs hf) λD σ H hh_=>by
 obtain⟨Z,B,M,E,h⟩:=hh_;refine⟨Z,OO B M,E.o,?_⟩
 unfold gP at h
 cases q:f Z with
 | bad=>rw[q]at h;exact h.elim
 | err c=>rw[q]at h;exact PostF.xa h
 | ok l=>
  rw[q,aE]at h;intro H1 s1 vs rs
  by_cases hl:i<Z.length/\l.length<=sizeLine
  ·rw[if_pos hl]at h
   refine⟨by rw[<-rs.length];exact hl.2,λp hp=> ?_⟩
   have hm:∀a,a=p->Nw X.K H1 a:=λa z=>z▸hp
   obtain⟨E2,sub⟩:=(E.same s1).new (m:=λa=>a=p) (o:=.lst l) (v:=.ref p) (H':=upd H1 p (.lst vs)) hl.1 hm (aN hp.1 _) ⟨p,vs,rfl,λb=>Np,aP,(rs.more (Ev.subO hm)).same (aN hp.1 _)⟩
   exact h _ _ _ (SameO.of (s1.trans (aN hp.1 _))) E2 λa z=>(sub a z).imp_right (vf s1)
  ·rw[if_neg hl]at h
   exact h.elim
def jL (i:Nat)(f:En->Rs T)(Z:En):Rs Fl:=match Z[i]? with
 | some (.ow (.lst l))=>f Z >>= λt=>if l.length<sizeLine then .ok (.nx (Z.set i (.ow (.lst (l++ [t])))))else .bad
 | _=> .bad
theorem Ev.putL {K:Jg}{B:Ow}{M:Mn}{H:Hp}{Z:En}{σ:L2.St}{i:Nat}{o:OT}{l':List T}{b:Addr}{vs':List V}(E:Ev K B M H Z σ)(hi:Z[i]? =some (.ow o))(hs:σ[i]? =some (some (.ref b)))(hM:∀c,M i c↔c=b)(r:Reps K (OO B M) H l' vs') :
  Ev K B M (upd H b (.lst vs')) (Z.set i (.ow (.lst l'))) σ/\SameO M.u H (upd H b (.lst vs')):=by
 have sm:SameO (M i) H (upd H b (.lst vs')):=λc u e nb=>by rw[aJ (λz=>nb ((hM c).mpr z))];exact e
 exact E.put hi hs sm ⟨b,vs',rfl,hM,aP,r.move (P:=M i) (λa z=> .inl (.inr ⟨i,z⟩)) (λa z=> .inl z) sm⟩
theorem DP (i:Nat){apos cpos:Pos}(ha:cj X a fa)(hN:X.N[i]? =some x:=by rfl)(hv:xG X.env.scope x:=by first | exact Lx rfl | exact KO (Lx rfl) | exact KO (KO rfl))(hn:bO a=true:=by rfl)
  (hbase:K1 (.Name x p2) "append" X.env (eval (.Name x p2) X.env)=eval (.Name x p2) X.env:=by rfl) (hline:(apos.endLine == cpos.line)=true:=by rfl)
  (hd:ie x:=by decide) (hcd:(x == ("__classdict__" : Str))=false:=by decide)
  (hsw:KP (.Call (.Attribute (.Name x p2) "append" apos) [a] [] cpos) none pos.line X.env=pure false:=by rfl):n8 X (.Expr (.Call (.Attribute (.Name x p2) "append" apos) [a] [] cpos) pos) (jL i fa):=by
 have h1:JF [a] X.env=(false,eval a X.env)::JF [] X.env:=ba hn;refine PS.imp (pU (C1 MH PySem.F.slot_list_append PySem.F.type_list_append oK (lX hN hv hd hcd) (gp ha kg h1) hbase ?_ hline h1 rfl) hsw) λD σ H ⟨Z,B,M,E,h⟩=> ?_
 ·rw[h1];rfl
 unfold jL at h
 split at h
 ·rename_i l hl
  obtain⟨v0,e1,b,vs,rfl,hM,e3,e4⟩:=E.env.own i _ hl;refine⟨.ref b,e1,.inl ⟨rfl,vs,SqL.of e3⟩,Z,OO B M,E.o,?_⟩
  cases q:fa Z with
  | bad=>rw[q]at h;exact h.elim
  | err c=>rw[q]at h;exact PostF.xa h
  | ok t=>
   rw[q,aE]at h
   split at h
   ·rename_i hz
    intro H1 s1 v r
    have e3':=s1 _ _ e3;refine⟨b,vs,v,rfl,rfl,e3',by rw[<-e4.length];exact hz,?_⟩
    obtain⟨g1,g2⟩:=(E.same s1).putL (l':=l++ [t]) (vs':=vs++ [v]) hl e1 hM ((e4.same s1).append (Reps.HE r Reps.HI));exact h σ _ M (λc o e nb=>g2 c o (s1 _ _ e) nb) g1 λc z=> .inl z
   ·exact h.elim
 ·exact h.elim
def Fc (i:Nat)(l:List T)(Z:En):T->Rs Fl
 | .lst m=>if l.length+m.length<=sizeLine then .ok (.nx (Z.set i (.ow (.lst (l++m)))))else .bad
 | _=> .bad
def lS (i:Nat)(f:En->Rs T)(Z:En):Rs Fl:=match Z[i]? with
 | some (.ow (.lst l))=>f Z >>= Fc i l Z
 | _=> .bad
theorem DM (i:Nat){apos cpos:Pos}(ha:cj X a fa)(hN:X.N[i]? =some x:=by rfl)(hv:xG X.env.scope x:=by first | exact Lx rfl | exact KO (Lx rfl) | exact KO (KO rfl))(hn:bO a=true:=by rfl)
  (hbase:K1 (.Name x p2) "extend" X.env (eval (.Name x p2) X.env)=eval (.Name x p2) X.env:=by rfl) (hline:(apos.endLine == cpos.line)=true:=by rfl)
  (hd:ie x:=by decide) (hcd:(x == ("__classdict__" : Str))=false:=by decide)
  (hsw:KP (.Call (.Attribute (.Name x p2) "extend" apos) [a] [] cpos) none pos.line X.env=pure false:=by rfl):n8 X (.Expr (.Call (.Attribute (.Name x p2) "extend" apos) [a] [] cpos) pos) (lS i fa):=by
 have h1:JF [a] X.env=(false,eval a X.env)::JF [] X.env:=ba hn;refine PS.imp (pU (C1 MH PySem.F.slot_list_extend PySem.F.type_list_extend wS (lX hN hv hd hcd) (gp ha kg h1) hbase ?_ hline h1 rfl) hsw) λD σ H ⟨Z,B,M,E,h⟩=> ?_
 ·rw[h1];rfl
 unfold lS at h
 split at h
 ·rename_i l hl
  obtain⟨v0,e1,b,vs,rfl,hM,e3,e4⟩:=E.env.own i _ hl;refine⟨.ref b,e1,.inl ⟨rfl,vs,SqL.of e3⟩,Z,OO B M,E.o,?_⟩
  cases q:fa Z with
  | bad=>rw[q]at h;exact h.elim
  | err c=>rw[q]at h;exact PostF.xa h
  | ok t=>
   rw[q,aE]at h;unfold Fc at h
   split at h
   ·rename_i m
    split at h
    ·rename_i hz
     intro H1 s1 v r;obtain⟨c,ws,rfl,nO,hc,rm⟩:=Rep.HA.mp r
     have e3':=s1 _ _ e3;refine⟨b,c,vs,ws,rfl,rfl,e3',hc,by rw[<-e4.length,<-rm.length];exact hz,?_⟩
     obtain⟨g1,g2⟩:=(E.same s1).putL (l':=l++m) (vs':=vs++ws) hl e1 hM ((e4.same s1).append rm);exact h σ _ M (λc o e nb=>g2 c o (s1 _ _ e) nb) g1 λc z=> .inl z
    ·exact h.elim
   ·exact h.elim
 ·exact h.elim
def nC (i:Nat)(F:En->Rs Fl)(Z:En):Rs Fl:=F (disown i Z)
theorem DN (i:Nat){st:Stmt}{F:En->Rs Fl}(h:n8 X st F):n8 X st (nC i F):=PS.imp h λD σ H hh_=>by
 obtain⟨Z,B,M,E,q⟩:=hh_;obtain⟨E',sub⟩:=E.disown i;exact⟨disown i Z,B,_,E',PostF.later q (λ_ _ e _=>e) λa z=> .inl (sub a z)⟩
mutual
def T.nk (D:Bool):T->Bool
 | .scr _=>false
 | .dct _ ts=> !D&&nks D ts
 | .lst l=>D&&nks D l
 | .tup l=>nks D l
 | _=>true
def nks (D:Bool):List T->Bool
 | [] =>true
 | t::l=>t.nk D&&nks D l
end
mutual
theorem Rep.lend {K:Jg}{O O':Ow}{H:Hp}{D:Bool}(hk:∀a,O a->O' a\/if D then ∃kvs,Rd H a (.dT kvs)else ∃vs,H a=some (.lst vs)):∀{t:T} {v:V},t.nk D=true->Rep K O' H t v->Rep K O H t v
 | .non,_,_,r=>by unfold Rep at r ⊢;exact r
 | .bl _,_,_,r=>by unfold Rep at r ⊢;exact r
 | .int _,_,_,r=>by unfold Rep at r ⊢;exact r
 | .str _,_,_,r=>by unfold Rep at r ⊢;exact r
 | .tup l,_,h,r=>by
  unfold Rep at r ⊢;unfold T.nk at h;obtain⟨a,vs,e,n,q,z⟩:=r;refine⟨a,vs,e,λp=>(hk a p).elim n λw=> ?_,q,Reps.lend hk h z⟩
  split at w
  ·obtain⟨_,w | ⟨_,w⟩⟩:=w <;> rw[q]at w <;> cases w
  ·obtain⟨_,w⟩:=w;rw[q]at w;cases w
 | .lst l,_,h,r=>by
  unfold Rep at r ⊢;unfold T.nk at h;rw[Jo]at h;obtain⟨h1,h2⟩:=h;subst h1;obtain⟨a,vs,e,n,q,z⟩:=r;refine⟨a,vs,e,λp=>(hk a p).elim n λw=> ?_,q,Reps.lend hk h2 z⟩
  rw[if_pos rfl]at w;obtain⟨_,w | ⟨_,w⟩⟩:=w <;> rw[q]at w <;> cases w
 | .scr l,_,h,r=>by unfold T.nk at h;cases h
 | .dct ks ts,_,h,r=>by
  unfold Rep at r ⊢;unfold T.nk at h;rw[Jo]at h;obtain⟨h1,h2⟩:=h
  cases D with
  | true=>cases h1
  | false=>
   obtain⟨a,kvs,e,n,q,k,z⟩:=r;refine⟨a,kvs,e,λp=>(hk a p).elim n λw=> ?_,q,k,Reps.lend hk h2 z⟩
   rw[if_neg JP]at w;obtain⟨_,w⟩:=w;rcases q with q | ⟨_,q⟩ <;> rw[q]at w <;> cases w
theorem Reps.lend {K:Jg}{O O':Ow}{H:Hp}{D:Bool}(hk:∀a,O a->O' a\/if D then ∃kvs,Rd H a (.dT kvs)else ∃vs,H a=some (.lst vs)):∀{l:List T} {vs:List V},nks D l=true->Reps K O' H l vs->Reps K O H l vs
 | [],_,_,r=>by unfold Reps at r ⊢;exact r
 | t::l,_,h,r=>by
  unfold Reps at r ⊢;unfold nks at h;rw[Jo]at h;obtain⟨v,ws,e,p,q⟩:=r;exact⟨v,ws,e,Rep.lend hk h.1 p,Reps.lend hk h.2 q⟩
end
def ln (i:Nat)(f:En->Rs T)(Z:En):Rs T:=match Z[i]? with
 | some (.ow o)=>f (disown i Z) >>= λt=>if t.nk o.isD=true then .ok t else .bad
 | _=>f Z
def B6 (i:Nat)(f:En->Rs Bool)(Z:En):Rs Bool:=f (disown i Z)
theorem pv {K:Jg}{O:Ow}{M:Mn}{H:Hp}{Z:En}{σ:L2.St}(E:EnvM K O M H Z σ)(i:Nat):EnvM K (λa=>O a/\¬ M i a) (M.set i wP) H (disown i Z) σ:=
 E.disown i (λa z=>z.1) (λa z y=>y.2 z) λj a hj z=>⟨E.sub j a z,λy=>hj (E.dis j i a z y)⟩
theorem q_ln (i:Nat){e:Expr}{f:En->Rs T}(h:cj X e f):cj X e (ln i f):=PE.imp h λσ H Q ⟨Z,O,⟨M,E⟩,q⟩=>by
 unfold ln at q
 split at q
 ·rename_i o hi
  refine⟨disown i Z,_,⟨_,pv E i⟩,?_⟩
  obtain⟨w,e1,r⟩:=E.own i o hi;refine Post.mono (Post.bind q) λt H' s q2 v rv=> ?_
  split at q2
  ·rename_i hk
   have kd:=(r.same s).kind;refine q2 H' (Same.refl _) v (Rep.lend (λa z=> ?_) hk rv)
   by_cases hm:M i a
   ·refine .inr ?_
    have this:=kd a hm
    by_cases hD:o.isD=true
    ·rw[if_pos hD]at this ⊢;exact this.imp λ_ z=> .inl z
    ·rw[if_neg hD]at this ⊢;exact this
   ·exact .inl ⟨z,hm⟩
  ·exact q2.elim
 ·exact⟨Z,O,⟨M,E⟩,q⟩
theorem F6 (i:Nat){e:Expr}{f:En->Rs Bool}(h:tM X e f):tM X e (B6 i f):=PT.imp h λσ H Q ⟨Z,O,⟨M,E⟩,q⟩=>⟨disown i Z,_,⟨_,pv E i⟩,q⟩
end
end Tr
namespace Tr
open PySem L2
def j5:List T->List T->List Key->Option T
 | k'::ks,v::vs,k=>if keyOf k'=some k then some v else j5 ks vs k
 | _,_,_=>none
def gy (k v:T):List T->List T->List T×List T
 | k'::ks,v'::vs=>if keyOf k'=keyOf k then(k'::ks,v::vs)else(k'::(gy k v ks vs).1,v'::(gy k v ks vs).2)
 | _,_=>([k],[v])
def iX (x y:T):Rs T:=match x,keyOf y with
 | .dct ks vs,some k=>match j5 ks vs k with
  | some t=> .ok t
  | none=> .bad
 | _,_=> .bad
def gU (x y:T):Rs T:=match x,keyOf y with
 | .dct ks vs,some k=>match j5 ks vs k with
  | some t=> .ok t
  | none=> .ok .non
 | _,_=> .bad
def Aq (x y:T):Rs T:=match y,keyOf x with
 | .dct ks vs,some k=> .ok (.bl (j5 ks vs k).isSome)
 | _,_=> .bad
def oD (g:T->T->Rs T)(fa fb:En->Rs T)(Z:En):Rs T:=fa Z >>= λx=>match x with
 | .dct ks vs=>fb Z >>= g (.dct ks vs)
 | _=> .bad
def oL (g:T->T->Rs T)(fa fb:En->Rs T)(Z:En):Rs T:=fa Z >>= λx=>match x with
 | .lst l=>fb Z >>= g (.lst l)
 | _=> .bad
def FC:List T->Option (List (T×T))
 | [] =>some []
 | .tup [k,v] ::l=>match keyOf k,FC l with
  | some _,some r=>some ((k,v)::r)
  | _,_=>none
 | _=>none
def fD:List (T×T)->List T×List T->List T×List T
 | [],d=>d
 | (k,v)::r,d=>fD r (gy k v d.1 d.2)
def v6:List T->Rs T
 | [.lst l] =>match FC l with
  | some ps=>if l.length<=1000 then .ok (.dct (fD ps ([],[])).1 (fD ps ([],[])).2)else .bad
  | none=> .bad
 | _=> .bad
def kU:List T->Bool
 | [] =>true
 | k::l=>(keyOf k).isSome&&kU l
def ox (i:Nat)(f:En->Rs T)(Z:En):Rs Fl:=f Z >>= λt=>v6 [t] >>= λd=>match d with
 | .dct ks vs=>if i<Z.length then .ok (.nx (Z.set i (.ow (.dct ks vs))))else .bad
 | _=> .bad
def wA (i:Nat)(fk fv:En->Rs T)(Z:En):Rs Fl:=match Z[i]? with
 | some (.ow (.dct ks vs))=>fv Z >>= λv=>fk Z >>= λk=>match keyOf k with
  | some _=>if ks.length<1000 then .ok (.nx (Z.set i (.ow (.dct (gy k v ks vs).1 (gy k v ks vs).2))))else .bad
  | none=> .bad
 | _=> .bad
def dR:List T->Option (List Int)
 | [] =>some []
 | .int i::l=>(dR l).map (i:: ·)
 | _=>none
def fw (i:Int):List Int->Int
 | [] =>i
 | j::l=>fw (if j<i then j else i) l
def fS (i:Int):List Int->Int
 | [] =>i
 | j::l=>fS (if i<j then j else i) l
def B1:List T->Rs T
 | [.lst l] =>match dR l with
  | some (i::ns)=> .ok (.int (fw i ns))
  | _=> .bad
 | [.int i,.int j] => .ok (.int (fw i [j]))
 | _=> .bad
def B5:List T->Rs T
 | [.lst l] =>match dR l with
  | some (i::ns)=> .ok (.int (fS i ns))
  | _=> .bad
 | [.int i,.int j] => .ok (.int (fS i [j]))
 | _=> .bad
def iQ (x:T):List T->Nat->Option Nat
 | [],_=>none
 | t::l,n=>if aR t x then some n else iQ x l (n+1)
def bF (y x:T):Rs T:=match y with
 | .lst l=>if (x.dep<=60\/deps l<=60)/\x.nd=true/\nds l=true then match iQ x l 0 with
   | some n=> .ok (.int n)
   | none=> .bad
  else .bad
 | _=> .bad
def FU:Nat:=1000000000000
end Tr
namespace Tr
open PySem PySem.Spec PyProof.Rows L2
theorem ji {h b b':Heap}:∀{l:List Env},h.FunFrames b l->(∀a∈l.filterMap (·.frame),b'.get? a=none)->h.FunFrames b' l
 | [],_,_=>trivial
 | env::bJ,⟨hk,⟨L,o,hf,hn,ho,hd⟩,hr⟩,q=>by
  rw[MB,hf]at q;exact⟨hk,⟨L,o,hf,q L Jj,ho,hd⟩,ji hr λa ha=>q a (Jh _ ha)⟩
section
variable {M:Model}{A:JZ}{E:Ji->Jk->Prop}{s:Jk}
structure Gone (fs:List Addr)(C e:Addr)(T:Option Addr)(h h':Heap)(T':Addr):Prop where
 flt:Hw h' C e (some T')
 new:T=some T'\/h.get? T'=none
 keep:∀b o,b∉fs->b≠e->T≠some b->h.get? b=some o->h'.get? b=some o
 slot:∀b o,b∈fs->h.get? b=some o->∃sl,h'.get? b=some { o with slots:=sl }
theorem EJ {base:Heap}{env:Env}{outer:List Env}{L C e:Addr}{T:Option Addr}{Q:Unit->Jk->Prop}(hfr:A.frames=some (env::outer))(hl:s.heap.FunFrames base (env::outer))(hf:env.frame=some L)
  (F:Hw s.heap C e T) (h:∀h' T',Gone ((env::outer).filterMap (·.frame)) C e T s.heap h' T'->Q () { s with heap:=h' }):wpAny M A (leaving env (.ref e)) Q E s:=by
 generalize hB:Rf s.heap (e::(T.toList++(env::outer).filterMap (·.frame)))=B
 have bm:∀b,b∈e::(T.toList++(env::outer).filterMap (·.frame))->B.get? b=none:=λb m=>by rw[<-hB];exact Pb _ m
 have hl':s.heap.FunFrames B (env::outer):=ji hl λa ha=>bm a (Jh _ (JD _ ha))
 have hst:B.StaysIn s.heap:=λb o q=>by rw[<-hB]at q;exact PJ _ q
 have hen:B.get? e=none:=bm e Jj
 have main:∀h',Heap.Left B (env::outer) e (.ref C) s.heap h'->Q () { s with heap:=h' }:=λh' ⟨x1,x2,⟨oe,vs,T',oT,ts,he,hc,hd,h1,hnT,hTe,hT,hdT,h3⟩,x4⟩=>by
  refine h h' T' ⟨⟨hTe,oe,vs,he,hc,hd,h1,oT,ts,hT,hdT,h3⟩,?_,λb o n1 n2 n3 q=> ?_,λb o m q=> ?_⟩
  ·cases q:s.heap.get? T' with
   | none=>exact .inr rfl
   | some o=>
    left
    by_cases z:T'∈e::(T.toList++(env::outer).filterMap (·.frame))
    ·rcases Jp.mp z with z | z
     ·exact absurd z hTe
     ·rcases JS.mp z with z | z
      ·cases T with
       | none=>simp at z
       | some t=>simp at z;rw[z]
      ·obtain⟨_,o',ho',hnf⟩:=x2.mem z
       rw[hT]at ho';cases ho';exact absurd hdT (hnf ts)
    ·rw[<-hB,Nm _ q z]at hnT;cases hnT
  ·refine x1 b o ?_
   rw[<-hB];refine Nm _ q λz=> ?_
   rcases Jp.mp z with z | z
   ·exact n2 z
   ·rcases JS.mp z with z | z
    ·cases T with
     | none=>simp at z
     | some t=>simp at z;exact n3 (by rw[z])
    ·exact n1 z
  ·obtain⟨_,o',ho',hnf⟩:=hl.mem m
   rw[q]at ho';cases ho';exact x4 b o q hnf
 cases T with
 | none=>
  obtain⟨oe,vs,he,hc,hd,h1⟩:=F;refine wpAny_leaving_first hfr hl' hf he hst hen hd h1 λh' x=>main h' ?_
  rw[hc]at x;exact x
 | some t=>
  obtain⟨hte,oe,vs,he,hc,hd,h1,oT,ts,hT,hdT,h3⟩:=F;exact wpAny_leaving_next hfr hl' hf ⟨oe,vs,t,oT,ts,he,hc,hd,h1,bm t (Jh _ (J2 _ (by simp))),hte,hT,hdT,h3⟩ hst hen main
end
abbrev uH:List Ji:=[.type "ValueError",.type "Exception",.type "BaseException",.type "object"]
structure OwnExc (K:Jg)(C:Addr)(bm:List Ji):Prop where
 at_:∀h:Heap,K.In h->∃nm q N bs hdct sn sub ab col dd k0 k1 k2 k3 k5 mN,h.get? C=some (NB nm q C N bs bm hdct sn sub ab col dd k0 k1 k2 k3 k5 "ValueError.__new__")/\h.Ns N mN/\mN "__init__" =none/\OwnTail h uH bm
theorem OwnExc.base {K:Jg}{C:Addr}{bm:List Ji}(O:OwnExc K C bm){h:Heap}(k:K.In h):bm.contains (.type "BaseException")=true:=by
 obtain⟨_,_,_,_,_,_,_,_,_,_,_,_,_,_,_,_,_,_,_,T⟩:=O.at_ h k;exact T.hasType (by decide)
def yz (c:Str)(_:En):Rs Fl:=.err c
section
variable {X:Cx}
theorem yD {c:Str}{msg:Str}{C:Addr}{bm:List Ji}{np p1 cpos pos:Pos}{j:Nat}(O:OwnExc X.K C bm)(hc:X.calm=true)(hm:X.mg c=some (.ref C))(hg:Gl X c:=by rfl)(hd:ie c:=by decide) :
  n8 X (.Raise (some (.Call (.Name c np) [.Constant (.str msg) j p1] [] cpos)) none pos) (yz c):=by
 intro pins s σ H D I ⟨Z,B,M,E,k⟩
 have k:XA X M.u H c:=k;obtain⟨nm,q,N,bs,hdct,sn,sub,ab,col,dd,k0,k1,k2,k3,k5,mN,hC,hN,hni,T⟩:=O.at_ s.heap I.kIn;refine wpAny_Raise_call_subU (C:=C) (mN:=mN) (nm:=nm) (q:=q) (N:=N) (bs:=bs) (hdct:=hdct) (sn:=sn) (sub:=sub) (ab:=ab) (col:=col) (dd:=dd) (k0:=k0) (k1:=k1) (k2:=k2) (k3:=k3) (k5:=k5) NH (Bn:="ValueError") (by decide) NH (O.base I.kIn) (I.ok.hd hc) (by rfl) hni (ly I hg hm ⟨rfl,?_⟩ hd)
 show wpAny _ _ (evalArgs (.ref C) true ((false,eval (.Constant (.str msg) j p1) X.env)::backTo cpos (JF [] X.env)) []) _ _ s
 refine Ms (Lw (Calls.Constant_str (LM ?_)))
 refine⟨rfl,by show 1<=sizeLine;decide,hC,hN,T,λh' e hm'=>k pins _ _ ?_⟩
 obtain⟨t,ht,ht2,ht3⟩:=hm'.there
 have I':Inv X pins σ H { s with heap:=h',toks:=s.toks+1 }:=I.kept (t':=s.toks+1) λb o z=>hm'.keeps b o z
 refine⟨e,none,C,σ,H,rfl,hm,I',λb o z _=>z,?_,?_,⟨_,_,ht,rfl,rfl,rfl⟩,(λt z=>by cases z),λp hp=>⟨λz=> ?_,λz=>by cases z⟩⟩
 ·exact sv I hm'.new
 ·exact λhex=>qg I hex hm'.new
 ·have:=(I.pin p hp).1
  rw[z,show s.heap.get? e=none from hm'.new]at this
  cases this
end
section
variable {P:JI}{w:Kn}{K:Jg}{mg:Str->Option Ji}{base:Heap}
theorem Fa {x qual:Str}{st:Stmt}{f:Addr}{fd:Ld}{N ps:List Str}{k n:Nat}{g:List T->Rs T}(Fn:L2.Fun K x qual st f fd)(S:ax N ps (aj st))(hn:ps.length=n)
  (hbody:∀(cdv:Ji) (A:JZ) (outer:List Env) (s:Jk) (H:Hp) (E:XK),Room k (A.deeper (envOfC qual (aj st) s.heap.objs.size f cdv)) →
   ∃F,(∀xe,lq ((kE CX0 P w K mg base N qual (aj st) f cdv A outer s H E).HD xe) (db st) F)/\∀ts,ts.length=n->∀c,g ts= .err c->F (aK N.length ts)= .err c):FnX P w K mg base (k+1) f fd ps n g:=by
 intro A outer s H args us vs O ts c R hr e0 hb r rs trk hl hg hR
 have hpl:ps.length<=N.length:=by have:=congrArg LD S.pre;rw[My]at this;omega
 obtain⟨oc,od,kV,doc,pm,an,cdv,ct,osl,rfl,lk,hcd⟩:=Fn.ex
 have hlen:vs.length=ps.length:=by rw[<-rs.length,hl,hn]
 have KX:K.In s.heap:=e0.mod.kin.keeps λb o e=>(e0.bs b o e).1
 have lim:s.heap.NoLimit:=e0.mod.nolimit.keeps λb o e=>(e0.bs b o e).1
 have hkind:∀y∈ps.zip us,(aj st).names.lookup y.1=some .local\/((aj st).names.lookup y.1=some .cell/\((L5 (s.heap.objs.size+1) (aj st).names []).lookup y.1).isSome=true):=λ⟨n,v⟩ hy=>by
  rcases S.par n (MI hy).1 with q | q
  ·exact .inl q
  ·exact .inr ⟨q,MR _ _ _ (.inl q)⟩
 refine OW hr.depth (KX _ _ lk) rfl S.co S.gen rfl (PL KX hcd) (hb _ _ _ _ ?_)
 refine NL S.kind hkind λenv he s1 x=> ?_
 subst he;refine⟨lim.keeps x.toInCall.keep,codeAny_func ?_⟩
 obtain⟨F,hF,hv⟩:=hbody cdv A outer s H E0 (hr.deeper _)
 let xe:Ji->Jk->Prop:=λev s'=>wpAny (model P w) (A.deeper (envOfC qual (aj st) s.heap.objs.size f cdv)) (leaving (envOfC qual (aj st) s.heap.objs.size f cdv) ev) (λ_ s''=>R (.error ev) s'') (λe' s''=>R (.error e') s'') s'
 have I:Inv ((kE CX0 P w K mg base N qual (aj st) f cdv A outer s H E0).HD xe) [] (start N vs) H s1:=(oR S hr.hd e0 hlen r x).HD _
 have no:∀a,¬noM.u a:=λa ⟨_,z⟩=>z
 refine Lb (hF xe [] s1 (start N vs) H { nx:=λ_ _=>False,rt:=λ_ _=>False,bk:=λ_ _=>False,ct:=λ_ _=>False } I ⟨aK N.length ts,O,noM,om rs (by omega) trk,?_⟩) (λfl s' z=> ?_) λe s' hs=>hs
 rotate_left
 ·cases fl with
  | next=>obtain⟨_,_,_,z⟩:=z;exact z.elim
  | cont=>obtain⟨_,_,_,z⟩:=z;exact z.elim
  | brk=>obtain⟨_,_,_,z⟩:=z;exact z.elim
  | ret v=>obtain⟨_,_,_,_,_,z⟩:=z;exact z.elim
 rw[hv ts hl c hg];intro pins ev s' w'
 show wpAny _ _ _ _ _ _
 obtain⟨e,T,C,σ',H',rfl,hm,I',sm,he,heo,fl,hT,_⟩:=w'
 have heo:=heo rfl
 have hT:∀t,T=some t->H' t=none/\s.heap.get? t=none:=λt z=>⟨(hT t z).1,(hT t z).2 rfl⟩
 refine EJ (base:=base) (outer:=outer) (L:=s.heap.objs.size) I'.ok.frames I'.stack rfl fl λh' T' g=>hR _ _ ?_
 have hex:((kE CX0 P w K mg base N qual (aj st) f cdv A outer s H E0).HD xe).ex= []:=rfl
 have Tn:H' T'=none/\s.heap.get? T'=none:=by
  rcases g.new with z | z
  ·exact hT T' z
  ·exact⟨sv I' z,qg I' hex z⟩
 have out:∀b o,s.heap.get? b=some o->b≠s.heap.objs.size:=λb o q z=>by
  have:=Jr q;rw[z]at this;exact absurd this (JJ _)
 have mem:∀b,b∈qE ((envOfC qual (aj st) s.heap.objs.size f cdv)::outer)->b=s.heap.objs.size\/b∈qE outer:=λb z=>by
  have z':b∈s.heap.objs.size::qE outer:=z;exact Jp.mp z'
 have ne:∀b o,s.heap.get? b=some o->b≠e/\T≠some b:=λb o q=>⟨λz=>(by subst z;rw[show s.heap.get? b=none from heo]at q;cases q),λz=>(by rw[show s.heap.get? b=none from(hT b z).2]at q;cases q)⟩
 have keepH:∀b u,H' b≠none->s'.heap.get? b=some u->h'.get? b=some u:=λb u hb q=>by
  refine g.keep b u (λz=>hb (I'.HZ b z)) (λz=>hb (by rw[z];exact he)) (λz=>hb (hT b z).1) q
 refine⟨e,T',C,H',rfl,hm,I'.os,I'.bare,⟨λb o q n hb hx=> ?_,λb o q n hb hx=> ?_,λb o q n hx=>I'.base.free b o q n hx,λb o q hx=> ?_,I'.base.tups,I'.base.frzs,I'.base.tbls⟩,λa o q=> ?_,λb o q=>sm b o q (no b),he,heo,g.flt,Tn.1,Tn.2⟩
 ·exact g.keep b o (λz=>(mem b z).elim (out b o q) hb) (ne b o q).1 (ne b o q).2 (I'.base.keep b o q n hb hx)
 ·obtain⟨sl,q1⟩:=I'.base.slot b o q n hb hx
  obtain⟨sl',q2⟩:=g.slot b _ (Jh _ hb) q1;exact⟨sl',q2⟩
 ·obtain⟨o',q1⟩:=I'.base.there b o q hx
  by_cases z:b∈qE ((envOfC qual (aj st) s.heap.objs.size f cdv)::outer)
  ·obtain⟨sl,q2⟩:=g.slot b o' z q1
   exact⟨_,q2⟩
  ·exact⟨o',g.keep b o' z (ne b o q).1 (ne b o q).2 q1⟩
 ·refine(I'.hok a o q).HW (λb u hb z=>keepH b u ?_ z) (λ_ z=>z) λ_ _ z=>z
  rcases hb with rfl | hb
  ·rw[q];simp
  ·rw[hb];simp
end
theorem A1 {n m:Nat}{F:En->Rs Fl}{ts:List T}{c:Str}(h:val n m F ts= .err c):F (aK m ts)= .err c:=by
 unfold val at h
 split at h
 ·unfold bw at h
  cases z:F (aK m ts)with
  | bad=>rw[z]at h;cases h
  | err c'=>rw[z]at h;cases h;rfl
  | ok f=>
   rw[z,aE]at h;cases f <;> cases h
 ·cases h
section
variable {P:JI}{w:Kn}{K:Jg}{mg:Str->Option Ji}{base:Heap}
theorem Fb {x qual:Str}{st:Stmt}{f:Addr}{fd:Ld}{N ps:List Str}{k n:Nat}{F:En->Rs Fl}(Fn:L2.Fun K x qual st f fd)(S:ax N ps (aj st))(hn:ps.length=n)
  (hbody:∀(cdv:Ji) (A:JZ) (outer:List Env) (s:Jk) (H:Hp) (E:XK),Room k (A.deeper (envOfC qual (aj st) s.heap.objs.size f cdv)) →
   ∀xe,lq ((kE CX0 P w K mg base N qual (aj st) f cdv A outer s H E).HD xe) (db st) F):Fz P w K mg base (k+1) f fd ps n (val n N.length F):=
 ⟨GZ Fn S hn λcdv A outer s H E hr=>⟨F,hbody cdv A outer s H E hr _,λts _ _ h=>Dn h⟩,Fa Fn S hn λcdv A outer s H E hr=>⟨F,hbody cdv A outer s H E hr,λts _ c h=>A1 h⟩⟩
end
section
variable {X:Cx}{a:Expr}{fa:En->Rs T}{pos p:Pos}{x:Str}
theorem F9:n8 X (.Continue pos) CY:=PS.imp rZ λD σ H ⟨Z,B,M,E,h⟩=>h σ H M (λ_ _ e _=>e) E λa z=> .inl z
end
def calmNames:List Str:=["__init__","__getattribute__","__getattr__","__class__"]
inductive OTail (h:Heap):List Ji->Prop
 | base:OTail h uH
 | own {A:Addr} {c0:Ji} {dd:Option Addr} {cd:ClassData} {sl:Array (Option Ji)} {mA:Str->Option Ji} {tl:List Ji} :
   h.get? A=some { cls:=c0,dict:=dd,data:=.cls cd,slots:=sl }->h.Ns cd.ns mA->(∀n∈calmNames,mA n=none)->OTail h tl->OTail h (.ref A::tl)
theorem OTail.tail {h:Heap}{tl:List Ji}(T:OTail h tl):OwnTail h uH tl:=by
 induction T with
 | base=>exact .base
 | own hA hN hq _ ih=>exact .own hA hN (hq _ (.head _)) ih
structure OX (K:Jg)(C:Addr)(bm:List Ji):Prop where
 at_:∀h:Heap,K.In h->∃nm q N bs hdct sn sub ab col dd k0 k1 k2 k3 k5 mN,h.get? C=some (NB nm q C N bs bm hdct sn sub ab col dd k0 k1 k2 k3 k5 "ValueError.__new__")/\h.Ns N mN/\(∀n∈calmNames,mN n=none)/\OTail h bm
theorem OX.own {K:Jg}{C:Addr}{bm:List Ji}(O:OX K C bm):OwnExc K C bm:=⟨λh k=>by
 obtain⟨nm,q,N,bs,hdct,sn,sub,ab,col,dd,k0,k1,k2,k3,k5,mN,h1,h2,h3,h4⟩:=O.at_ h k;exact⟨nm,q,N,bs,hdct,sn,sub,ab,col,dd,k0,k1,k2,k3,k5,mN,h1,h2,h3 _ (.head _),h4.tail⟩⟩
def yf:Ji->Bool
 | .str _ _=>true
 | _=>false
theorem GC {K:Jg}{N:Addr}{ob:Ji}{oe:Option Addr}{es:Array DictEntry}{n:Nat}{oz:Array (Option Ji)}(r:K.lookup N=some ⟨ob,oe,.dict es n,oz⟩)(s:(es.toList.all λe=>yf e.key)=true)
  (u0:M7 K N "__init__" =some none) (u1:M7 K N "__getattribute__" =some none) (u2:M7 K N "__getattr__" =some none) (u3:M7 K N "__class__" =some none) :
  ∀h:Heap,K.In h->∃mN,h.Ns N mN/\∀n∈calmNames,mN n=none:=λh k=>by
 refine⟨nsFind es,⟨_,es,n,k _ _ r,rfl,λe he=> ?_,λ_=>rfl⟩,λx hx=> ?_⟩
 ·have:=JL.mp s e (by simpa using he)
  cases q:e.key <;> rw[q]at this <;> first | exact⟨_,_,rfl⟩ | cases this
 ·have key:∀x,M7 K N x=some none->nsFind es x=none:=λx u=>by
   unfold M7 at u;rw[r]at u;simp only at u
   split at u
   ·cases u
   ·rename_i he
    unfold nsFind findBy;rw[<-PN,he];rfl
  unfold calmNames at hx;simp only[Jp,JN,or_false]at hx;rcases hx with rfl | rfl | rfl | rfl
  ·exact key _ u0
  ·exact key _ u1
  ·exact key _ u2
  ·exact key _ u3
section
variable {K:Jg}{nm q:Str}{C N:Addr}{bs:List Ji}{hdct:Bool}{sn:List Str}{sub:List Ji}{ab:Bool}{col:Option Bool}{dd:Option Addr}{k0 k1 k2 k3 k5:Option Ji}
variable {nm' q':Str}{D N':Addr}{bs':List Ji}{hdct':Bool}{sn':List Str}{sub':List Ji}{ab':Bool}{col':Option Bool}{dd':Option Addr}{k0' k1' k2' k3' k5':Option Ji}
theorem BV (w:K.lookup C=some (NB nm q C N bs uH hdct sn sub ab col dd k0 k1 k2 k3 k5 "ValueError.__new__"))(ns:∀h:Heap,K.In h->∃mN,h.Ns N mN/\∀n∈calmNames,mN n=none):OX K C uH:=⟨λh k=>by
 obtain⟨mN,h1,h2⟩:=ns h k;exact⟨nm,q,N,bs,hdct,sn,sub,ab,col,dd,k0,k1,k2,k3,k5,mN,k _ _ w,h1,h2,.base⟩⟩
theorem yV (w:K.lookup C=some (NB nm q C N bs (.ref D::uH) hdct sn sub ab col dd k0 k1 k2 k3 k5 "ValueError.__new__"))(ns:∀h:Heap,K.In h->∃mN,h.Ns N mN/\∀n∈calmNames,mN n=none)
  (wD:K.lookup D=some (NB nm' q' D N' bs' uH hdct' sn' sub' ab' col' dd' k0' k1' k2' k3' k5' "ValueError.__new__")) (nsD:∀h:Heap,K.In h->∃mN,h.Ns N' mN/\∀n∈calmNames,mN n=none):OX K C (.ref D::uH):=⟨λh k=>by
 obtain⟨mN,h1,h2⟩:=ns h k;obtain⟨mD,d1,d2⟩:=nsD h k;exact⟨nm,q,N,bs,hdct,sn,sub,ab,col,dd,k0,k1,k2,k3,k5,mN,k _ _ w,h1,h2,.own (k _ _ wD) d1 d2 .base⟩⟩
end
end Tr
namespace L2
open PySem PySem.Spec PyProof.Rows
section
variable {κ:Type}[DecidableEq κ]
def iU (kvs:List (κ×V))(k:κ):Option V:=(kvs.find? λkv=>decide (kv.1=k)).map (·.2)
def cL (kvs:List (κ×V))(k:κ)(v:V):List (κ×V):=
 if (kvs.any λkv=>decide (kv.1=k))=true then kvs.map (λkv=>if kv.1=k then(kv.1,v)else kv)else kvs++ [(k,v)]
theorem x6 {k:κ}:iU ([]:List (κ×V)) k=none:=rfl
theorem jA {p:κ×V}{r:List (κ×V)}{k:κ}(e:p.1=k):iU (p::r) k=some p.2:=by simp[iU,Mc,e]
theorem jB {p:κ×V}{r:List (κ×V)}{k:κ}(e:¬ p.1=k):iU (p::r) k=iU r k:=by simp[iU,Mc,e]
theorem rn (k:κ):∀kvs:List (κ×V),(kvs.any λkv=>decide (kv.1=k))=(iU kvs k).isSome
 | [] =>rfl
 | p::r=>by
  rw[LY]
  by_cases e:p.1=k
  ·simp only[jA e,decide_eq_true e,Bool.true_or,PR]
  ·rw[jB e,decide_eq_false e,PV];exact rn k r
theorem dC (kvs:List (κ×V))(k:κ)(v:V):(cL kvs k v).length<=kvs.length+1:=by
 unfold cL;split
 ·rw[Jm];omega
 ·rw[Ju,Jq,Lo];omega
theorem RelO.HQ {o:Option V}{u:Option Ji}(r:RelO o u):o.isSome=u.isSome:=by
 cases o with
 | none=>cases u with
  | none=>rfl
  | some _=>exact(show False from r).elim
 | some _=>cases u with
  | none=>exact(show False from r).elim
  | some _=>rfl
theorem RelO.getD {o:Option V}{u:Option Ji}{d:V}{d':Ji}(r:RelO o u)(rd:RelV d d'):RelV (o.getD d) (u.getD d'):=by
 cases o with
 | none=>cases u with
  | none=>exact rd
  | some _=>exact(show False from r).elim
 | some _=>cases u with
  | none=>exact(show False from r).elim
  | some _=>exact r
theorem KV.val {kvs:List (κ×V)}{vs:List (κ×Ji)}(r:KV kvs vs)(k:κ):RelO (iU kvs k) (valueAt vs k):=by
 unfold KV at r
 induction r with
 | nil=>exact L6
 | @cons p q ps qs h t ih=>
  obtain⟨h1,h2⟩:=h
  by_cases e:p.1=k
  ·have e':q.1=k:=h1.symm.trans e
   have b:valueAt (q::qs) k=some q.2:=by simp[valueAt,Mc,e']
   rw[jA e,b];exact h2
  ·have e':¬ q.1=k:=λz=>e (h1.trans z)
   have b:valueAt (q::qs) k=valueAt qs k:=by simp[valueAt,Mc,e']
   rw[jB e,b];exact ih
theorem KV.any {kvs:List (κ×V)}{vs:List (κ×Ji)}(r:KV kvs vs)(k:κ):(kvs.any λkv=>decide (kv.1=k))=vs.any λkv=>decide (kv.1=k):=by
 unfold KV at r
 induction r with
 | nil=>rfl
 | cons h t ih=>rw[LY,LY,ih,h.1]
theorem KV.IG {kvs:List (κ×V)}{vs:List (κ×Ji)}(r:KV kvs vs)(k:κ){y:V}{u:Ji}(ry:RelV y u) :
  KV (kvs.map λkv=>if kv.1=k then(kv.1,y)else kv) (vs.map λkv=>if kv.1=k then(kv.1,u)else kv):=by
 unfold KV at r ⊢
 induction r with
 | nil=>exact .nil
 | @cons p q ps qs h t ih=>
  rw[Jn,Jn];refine .cons ?_ ih
  obtain⟨h1,h2⟩:=h
  by_cases e:p.1=k
  ·rw[if_pos e,if_pos (h1.symm.trans e)];exact⟨h1,ry⟩
  ·rw[if_neg e,if_neg (λz=>e (h1.trans z))];exact⟨h1,h2⟩
theorem KV.put {kvs:List (κ×V)}{vs:List (κ×Ji)}(r:KV kvs vs)(k:κ){y:V}{u:Ji}(ry:RelV y u):KV (cL kvs k y) (stored vs k u):=by
 unfold cL stored;rw[r.any k]
 by_cases e:(vs.any λkv=>decide (kv.1=k))=true
 ·rw[if_pos e,if_pos e];exact r.IG k ry
 ·rw[if_neg e,if_neg e];exact Paired.snoc r ⟨rfl,ry⟩
theorem KV.length {kvs:List (κ×V)}{vs:List (κ×Ji)}(r:KV kvs vs):kvs.length=vs.length:=Ng r
end
theorem sX {P:JI}{w:Kn}{k:Key}{u:Ji}(r:RelV (kV k) u):(bZ P w).is k u=true:=by
 cases k with
 | inl i=>obtain⟨t,e⟩:=(show ∃t,u=Kz i t from r);subst e;exact sO P w i t
 | inr x=>obtain⟨t,e⟩:=(show ∃t,u=K3 x t from r);subst e;exact sM P w x t
theorem oQ {P:JI}{w:Kn}:∀{ks:List Key} {us:List Ji},Vals (ks.map kV) us->ItemsAre (bZ P w) ks us
 | [],_,r=>by rw[ME]at r;cases r;exact .nil
 | k::ks,_,r=>by
  rw[Jn]at r
  cases r with
  | cons h t=>exact .cons (sX h) (oQ t)
abbrev KT (H:Hp):List (List Key×V)->List (List Key×Addr×Ji)->Prop:=RI λp q=>p.1=q.1/\H q.2.1=some (.tup (p.1.map kV))/\RelV p.2 q.2.2
theorem KT.val {H:Hp}{kvs:List (List Key×V)}{xs:List (List Key×Addr×Ji)}(r:KT H kvs xs)(k:List Key):RelO (iU kvs k) ((atKey xs k).map (·.2)):=by
 induction r with
 | nil=>exact L6
 | @cons p q ps qs h t ih=>
  obtain⟨h1,_,h2⟩:=h
  by_cases e:p.1=k
  ·have e':q.1=k:=h1.symm.trans e
   have b:atKey (q::qs) k=some q.2:=by simp[atKey,Mc,e']
   rw[jA e,b];exact h2
  ·have e':¬ q.1=k:=λz=>e (h1.trans z)
   have b:atKey (q::qs) k=atKey qs k:=by simp[atKey,Mc,e']
   rw[jB e,b];exact ih
theorem KT.IG {H:Hp}{kvs:List (List Key×V)}{xs:List (List Key×Addr×Ji)}(r:KT H kvs xs)(k:List Key){y:V}{u:Ji}(ry:RelV y u) :
  KT H (kvs.map λkv=>if kv.1=k then(kv.1,y)else kv) (xs.map (putAt k u)):=by
 induction r with
 | nil=>exact .nil
 | @cons p q ps qs h t ih=>
  rw[Jn,Jn];refine .cons ?_ ih
  obtain⟨h1,h2,h3⟩:=h;unfold putAt
  by_cases e:p.1=k
  ·rw[if_pos e,if_pos (h1.symm.trans e)];exact⟨h1,h2,ry⟩
  ·rw[if_neg e,if_neg (λz=>e (h1.trans z))];exact⟨h1,h2,h3⟩
theorem KT.put {H:Hp}{kvs:List (List Key×V)}{xs:List (List Key×Addr×Ji)}(r:KT H kvs xs)(k:List Key){b:Addr}{y:V}{u:Ji}(hb:H b=some (.tup (k.map kV)))(ry:RelV y u) :
  KT H (cL kvs k y) (storedH xs k b u):=by
 have e:(kvs.any λkv=>decide (kv.1=k))=(atKey xs k).isSome:=by
  rw[rn,(r.val k).HQ,Ql]
 unfold cL storedH;rw[e]
 by_cases q:(atKey xs k).isSome=true
 ·rw[if_pos q,if_pos q];exact r.IG k ry
 ·rw[if_neg q,if_neg q];exact Paired.snoc r ⟨rfl,hb,ry⟩
theorem KT.keeps {H H':Hp}{kvs:List (List Key×V)}{xs:List (List Key×Addr×Ji)}(r:KT H kvs xs)(ht:∀b ys,H b=some (.tup ys)->H' b=some (.tup ys)):KT H' kvs xs:=
 Paired.IF r λ_ _ z=>⟨z.1,ht _ _ z.2.1,z.2.2⟩
section
variable {P:JI}{w:Kn}{H:Hp}{h:Heap}{a:Addr}
theorem u7 {u:HO}(ok:HOk P w H h)(e:Rd H a u):ObjOk P w H h a u:=e.ok ok
theorem o7 {kvs:List (Key×V)}(ok:HOk P w H h)(e:Rd H a (.dK kvs)):kvs.length<=sizeLine/\(a == Ml)=false/\∃vs,KV kvs vs/\h.DictOf (bZ P w) a vs:=
 show ObjOk P w H h a (.dK kvs)from u7 ok e
theorem G5 {kvs:List (Key×V)}(ok:HOk P w H h)(e:H a=some (.dK kvs)):kvs.length<=sizeLine/\(a == Ml)=false/\∃vs,KV kvs vs/\h.DictOf (bZ P w) a vs:=o7 ok (.inl e)
theorem key_of {ks:List Key}(ok:HOk P w H h)(e:H a=some (.tup (ks.map kV))):(Nz (bZ P w)).is h ks a:=by
 obtain⟨_,its,r,o,h1,h2,n,h3⟩:=(show ObjOk P w H h a (.tup (ks.map kV))from ok a _ e)
 exact⟨o,its.toArray,n,h1,h2,h3,by simpa using oQ r⟩
theorem o5 {kvs:List (List Key×V)}(ok:HOk P w H h)(e:Rd H a (.dT kvs)):kvs.length<=sizeLine/\(a == Ml)=false ∧
  ∃xs,KT H kvs xs/\h.DictOfH (Nz (bZ P w)) a xs:=by
 obtain⟨z,y,xs,r,o,es,ep,h1,h2,h3,h4,h5⟩:=(show ObjOk P w H h a (.dT kvs)from u7 ok e)
 refine⟨z,y,xs,r,o,es,ep,h1,h2,h3,h4,λx hx=> ?_,h5⟩
 have all:∀{l:List (List Key×V)} {m:List (List Key×Addr×Ji)},KT H l m->∀x∈m,(Nz (bZ P w)).is h x.1 x.2.1:=by
  intro l m q
  induction q with
  | nil=>intro x hx;exact nomatch hx
  | @cons p q ps qs hq t ih=>
   intro x hx;rcases Jp.mp hx with e | hx
   ·subst e
    exact key_of ok (by rw[<-hq.1];exact hq.2.1)
   ·exact ih x hx
 exact all r x hx
theorem vY {kvs:List (List Key×V)}(ok:HOk P w H h)(e:H a=some (.dT kvs)):kvs.length<=sizeLine/\(a == Ml)=false ∧
  ∃xs,KT H kvs xs/\h.DictOfH (Nz (bZ P w)) a xs:=o5 ok (.inl e)
end
def DGet (H:Hp)(a:Addr)(y:V)(r:Option V):Prop:=
 (∃kvs k,Rd H a (.dK kvs)/\y=kV k/\r=iU kvs k)\/∃kvs k b,Rd H a (.dT kvs)/\y= .ref b/\H b=some (.tup (k.map kV))/\r=iU kvs k
def DPut (H:Hp)(a:Addr)(y v:V)(H':Hp):Prop:=
 (∃kvs k,H a=some (.dK kvs)/\y=kV k/\kvs.length<sizeLine/\H'=upd H a (.dK (cL kvs k v))) ∨
 ∃kvs k b,H a=some (.dT kvs)/\y= .ref b/\H b=some (.tup (k.map kV))/\kvs.length<sizeLine/\H'=upd H a (.dT (cL kvs k v))
theorem DPut.t {H:Hp}{a b:Addr}{kvs:List (List Key×V)}{k:List Key}{v:V}(e:H a=some (.dT kvs))(eb:H b=some (.tup (k.map kV)))(hl:kvs.length<sizeLine) :
  DPut H a (.ref b) v (upd H a (.dT (cL kvs k v))):=.inr ⟨kvs,k,b,e,rfl,eb,hl,rfl⟩
section
variable {X:Cx}{pins:List (Addr×Obj)}{σ:St}{H:Hp}{s:Jk}{a:Addr}{y v:V}{u r:Ji}{o:Option V}{A:JZ}{E:Ji->Jk->Prop}
theorem Inv.big (I:Inv X pins σ H s):Ml<s.heap.objs.size:=by
 have h:Kc<s.heap.objs.size:=(I.mod.glob.keeps I.bk).lt;exact OI (by decide) h
theorem xw {Q:Ji->Jk->Prop}(hu:A.units+1<cLine)(I:Inv X pins σ H s)(g:DGet H a y (some v))(ry:RelV y u)(h:∀w' s',Inv X pins σ H s'->RelV v w'->Q w' s') :
  wpAny (model X.prog X.w) A (getItem (.ref a) u) Q E s:=by
 rcases g with⟨kvs,k,e,ey,l⟩ | ⟨kvs,k,b,e,ey,eb,l⟩
 ·subst ey
  obtain⟨z,hd,vs,rel,dd⟩:=o7 I.hok e;obtain⟨w',hw,rw'⟩:=RelO.some_of (v:=v) (o:=valueAt vs k) (by rw[l];exact rel.val k)
  exact wpAny_getItem_of (sX ry) dd.mapOf hw (h w' _ (I.tok _) rw')
 ·subst ey
  cases (show u=Jz b from ry)
  obtain⟨z,hd,xs,rel,dd⟩:=o5 I.hok e;obtain⟨w',hw,rw'⟩:=RelO.some_of (v:=v) (o:=(atKey xs k).map (·.2)) (by rw[l];exact rel.val k)
  obtain⟨p,hp,hp2⟩:=KF.mp hw;refine wpAny_getItem_heap (LB hu) (key_of I.hok eb) dd hp ?_
  rw[hp2];exact h w' _ (I.tok _) rw'
theorem d_in {Q:Ji->Jk->Prop}(hu:A.units+1<cLine)(I:Inv X pins σ H s)(g:DGet H a y o)(ry:RelV y u)(h:∀s',Inv X pins σ H s'->Q (.bool o.isSome) s') :
  wpAny (model X.prog X.w) A (Kh .In u (.ref a)) Q E s:=by
 rcases g with⟨kvs,k,e,ey,l⟩ | ⟨kvs,k,b,e,ey,eb,l⟩
 ·subst ey
  obtain⟨z,hd,vs,rel,dd⟩:=o7 I.hok e;refine wpAny_in_of (sX ry) hd dd.mapOf ?_
  rw[<-(rel.val k).HQ,<-l];exact h _ (I.tok _)
 ·subst ey
  cases (show u=Jz b from ry)
  obtain⟨z,hd,xs,rel,dd⟩:=o5 I.hok e;refine wpAny_in_heap (LB hu) (key_of I.hok eb) hd dd ?_
  have q:=(rel.val k).HQ;rw[Ql]at q;rw[<-q,<-l];exact h _ (I.tok _)
theorem lE {h':Heap}{t':Nat}{ob:HO}(I:Inv X pins σ H s)(mu:Hd (H a))(hs:MD a s.heap h')(he:∃q,h'.get? a=some q)(new:ObjOk X.prog X.w (upd H a ob) h' a ob) :
  Inv X pins σ (upd H a ob) { s with heap:=h',toks:=t' }:=
 I.write (x:=a) (e:=a) mu (.inl rfl) (λb q hb z=>(hs.2 b hb).trans z) he new
theorem Fo {P:JI}{w:Kn}{H':Hp}{h':Heap}{kvs:List (Key×V)}{vs:List (Key×Ji)}(z:kvs.length<=sizeLine)(hd:(a == Ml)=false)(rel:KV kvs vs)(dd:h'.DictOf (bZ P w) a vs) :
  ObjOk P w H' h' a (.dK kvs):=⟨z,hd,vs,rel,dd⟩
theorem xv {H':Hp}{Q:Unit->Jk->Prop}(hu:A.units+1<cLine)(I:Inv X pins σ H s)(g:DPut H a y v H')(ry:RelV y u)(rv:RelV v r)(h:∀s',Inv X pins σ H' s'->Q () s') :
  wpAny (model X.prog X.w) A (setItem (.ref a) u r) Q E s:=by
 rcases g with⟨kvs,k,e,ey,l,eH⟩ | ⟨kvs,k,b,e,ey,eb,l,eH⟩
 ·subst ey eH
  obtain⟨z,hd,vs,rel,dd⟩:=G5 I.hok e
  have hz:vs.length<=sizeLine:=by rw[<-rel.length];exact z
  have hl:(cL kvs k v).length<=sizeLine:=by have:=dC kvs k v;omega
  refine wpAny_setItem_pairs (hsz:=hz) (sX ry) dd λh' dd' hs=>h _ ?_
  have he:∃q,h'.get? a=some q:=let ⟨q,_,_,hq,_⟩:=dd';⟨q,hq⟩
  exact lE I (by rw[e];exact L6) hs he (Fo hl hd (rel.put k rv) dd')
 ·subst ey eH
  cases (show u=Jz b from ry)
  obtain⟨z,hd,xs,rel,dd⟩:=vY I.hok e
  have hz:xs.length<=sizeLine:=by rw[<-Ng rel];exact z
  have hl:(cL kvs k v).length<=sizeLine:=by have:=dC kvs k v;omega
  refine wpAny_setItem_heap (hsz:=hz) (LB hu) (key_of I.hok eb) dd λh' dd' hs=>h _ ?_
  obtain⟨q,es,ep,hq,h2,h3,h4,_,h5⟩:=dd';refine lE I (by rw[e];exact L6) hs ⟨q,hq⟩ ⟨hl,hd,_,(rel.put k eb rv).keeps λc ys ec=> ?_,q,es,ep,hq,h2,h3,h4,h5⟩
  rw[aJ (mn ec e (λz=>nomatch z))]
  exact ec
end
def CH (i:Expr):Prop:=∀ov iv,PD i false ov iv=operate [ov,iv] (getItem ov iv)
theorem A8 {prog:JI}{w:Kn}{A:JZ}{E:Ji->Jk->Prop}{s:Jk}{env:Env}{value slice:Expr}{pos:Pos}{T id:String}{Q:Ji->Jk->Prop}
  (hl:LS (.type T) "__getitem__" =pure (some (.builtin id))) (hs:CH slice)
  (h:wpAny (model prog w) A (eval value env) (λo s₁=>wpAny (model prog w) A (eval slice env) (λi s₂=>s₂.TypeIs o T/\wpAny (model prog w) A (getItem o i) Q E s₂) E s₁) E s) :
  wpAny (model prog w) A (eval (.Subscript value slice pos) env) Q E s:=by
 refine Subscript_ (Lb h (λo s₁ h₁=>Lb h₁ (λi s₂ h₂=> ?_) λ_ _ x=>x) λ_ _ x=>x)
 obtain⟨hT,h₂⟩:=h₂;unfold Qa;refine Je ?_
 rw[getitemInPython_of_ne hT.not_modules];refine Je (O0 hT hl ?_)
 have fin:wpAny (model prog w) A (PD slice false o i) (λr s₃=>wpAny (model prog w) A (letTemporaryGo value o r >>= λ_=>pure r) Q E s₃) E s₂:=by
  rw[hs o i];exact wpAny_operating (Lb h₂ (λr s₃ h₃=>Je (wpAny_letTemporaryGo (Jl h₃))) λ_ _ x=>x)
 first
  | exact Jl (Je fin)
  | exact Je (Jl (Je fin))
  | exact Je fin
theorem tF {X:Cx}{pins:List (Addr×Obj)}{σ:St}{H:Hp}{s:Jk}{a:Addr}{y:V}{o:Option V}(I:Inv X pins σ H s)(g:DGet H a y o):s.TypeIs (.ref a) "dict":=by
 rcases g with⟨kvs,k,e,_,_⟩ | ⟨kvs,k,b,e,_,_,_⟩
 ·obtain⟨_,_,vs,_,dd⟩:=o7 I.hok e
  exact dd.typeIs
 ·obtain⟨_,_,xs,_,dd⟩:=o5 I.hok e
  exact dd.typeIs
def FR (td ty:TE):TE:=λσ H Q=>td σ H λx H1=>ty σ H1 λy H2=> ∃a v,x= .ref a/\DGet H2 a y (some v)/\Q v H2
def FY (td ty tv:TE):TS:=λD σ H=>tv σ H λv H1=>td σ H1 λx H2=>ty σ H2 λy H3=> ∃a H4,x= .ref a/\DPut H3 a y v H4/\D.nx σ H4
section
variable {X:Cx}{o i e value:Expr}{pos pos' tpos:Pos}{td ty tv:TE}
theorem BT (hu:X.A.units+1<cLine)(ho:PE X o td)(hi:PE X i ty)(hs:CH i):PE X (.Subscript o i pos) (FR td ty):=by
 intro pins s σ H Q I h;refine A8 PySem.F.slot_dict_getitem.lookup hs (cg (ho pins s σ H _ I h) λu s1 ⟨x,H1,I1,rx,q1⟩=>cg (hi pins s1 σ H1 _ I1 q1) λiv s2 hh_=> ?_)
 obtain⟨y,H2,I2,ry,a,v,ex,g,q2⟩:=hh_;subst ex;obtain rfl:u=Jz a:=rx;exact⟨tF I2 g,xw hu I2 g ry λw' s3 I3 rw'=>⟨v,H2,I3,rw',q2⟩⟩
theorem BH (hu:X.A.units+1<cLine)(ho:PE X o td)(hi:PE X i ty)(hv:PE X value tv)(hs:KP value (some (.Subscript o i pos')) pos.line X.env=pure false) :
  PS X (.Assign [.Subscript o i pos'] value pos) (FY td ty tv):=by
 intro pins s σ H D I h;refine wpAny_Assign_Subscript (cg (hv pins s σ H _ I h) λr s1 ⟨v,H1,I1,rv,q1⟩=>cg (ho pins s1 σ H1 _ I1 q1) λu s2 ⟨x,H2,I2,rx,q2⟩=>cg (hi pins s2 σ H2 _ I2 q2) λiv s3 ⟨y,H3,I3,ry,a,H4,ex,g,q3⟩=> ?_) hs
 subst ex;obtain rfl:u=Jz a:=rx;exact xv hu I3 g ry rv λs4 I4=>⟨σ,H4,I4,q3⟩
end
theorem tD {P:JI}{w:Kn}{H:Hp}(h:Heap)(hb:Ml<h.objs.size):ObjOk P w H (h.push { cls:=.type "dict",data:=.dict #[] }) h.objs.size (.dT []):=
 ⟨KA _,beq_eq_false_iff_ne.mpr (MW (JR hb)),[],.nil,_,#[],0,Js _ rfl,⟨rfl,rfl,rfl⟩,rfl,rfl,Ll⟩
structure M1 (X:Cx)(o:Expr)(m:Str)(apos:Pos)(e:Expr)(cpos:Pos):Prop where
 base:K1 o m X.env (eval o X.env)=eval o X.env
 few:((backTo cpos (JF [e] X.env)).all (λx=> !x.1)&&(backToKw cpos (Ry [] X.env)).all (λx=>x.1.isSome)
  &&decide (([e]:List Expr).length+([]:List RA).length+(if ([]:List RA).isEmpty then 0 else 1)<30))=true
 line:(apos.endLine == cpos.line)=true
 trees:backTo cpos (JF [e] X.env)= [(false,eval e X.env)]
structure M2 (X:Cx)(o:Expr)(m:Str)(apos:Pos)(e f:Expr)(cpos:Pos):Prop where
 base:K1 o m X.env (eval o X.env)=eval o X.env
 few:((backTo cpos (JF [e,f] X.env)).all (λx=> !x.1)&&(backToKw cpos (Ry [] X.env)).all (λx=>x.1.isSome)
  &&decide (([e,f]:List Expr).length+([]:List RA).length+(if ([]:List RA).isEmpty then 0 else 1)<30))=true
 line:(apos.endLine == cpos.line)=true
 trees:backTo cpos (JF [e,f] X.env)= [(false,eval e X.env),(false,eval f X.env)]
def IsD (H:Hp)(a:Addr):Prop:=(∃kvs,Rd H a (.dK kvs))\/∃kvs,Rd H a (.dT kvs)
theorem EX {X:Cx}{pins:List (Addr×Obj)}{σ:St}{H:Hp}{s:Jk}{a:Addr}(I:Inv X pins σ H s)(d:IsD H a) :
  s.TypeIs (.ref a) "dict"/\(∀b,Jz a= .ref b->∃ob,s.heap.get? b=some ob/\ob.dict=none)/\(a == Ml)=false:=by
 rcases d with⟨kvs,e⟩ | ⟨kvs,e⟩
 ·obtain⟨_,hd,vs,_,dd⟩:=o7 I.hok e
  refine⟨dd.typeIs,λb q=> ?_,hd⟩
  cases q;obtain⟨ob,_,_,h1,h2,_⟩:=dd;exact⟨ob,h1,h2.2.1⟩
 ·obtain⟨_,hd,xs,_,dd⟩:=o5 I.hok e
  refine⟨dd.typeIs,λb q=> ?_,hd⟩
  cases q;obtain⟨ob,_,_,h1,h2,_⟩:=dd;exact⟨ob,h1,h2.2.1⟩
section
variable {X:Cx}{pins:List (Addr×Obj)}{σ:St}{H:Hp}{s:Jk}{a:Addr}{y d:V}{u r:Ji}{o:Option V}{A:JZ}{E:Ji->Jk->Prop}
theorem Fp {Q:Ji->Jk->Prop}(hu:A.units+1<cLine)(I:Inv X pins σ H s)(g:DGet H a y o)(ry:RelV y u)(h:∀w' s',Inv X pins σ H s'->RelV (o.getD .non) w'->Q w' s') :
  wpAny (model X.prog X.w) A (call (.builtin "dict.get") [.ref a,u]) Q E s:=by
 rcases g with⟨kvs,k,e,ey,l⟩ | ⟨kvs,k,b,e,ey,eb,l⟩
 ·subst ey
  obtain⟨z,hd,vs,rel,dd⟩:=o7 I.hok e;refine call_meetsIn M8 dd.typeIs OA (N9 _ _) (meets_dict_get (bZ X.prog X.w) a (sX ry) hd) ⟨_,dd.mapOf,h _ _ (I.tok _) ?_⟩
  rw[l];exact(rel.val k).getD rfl
 ·subst ey
  cases (show u=Jz b from ry)
  obtain⟨z,hd,xs,rel,dd⟩:=o5 I.hok e;refine call_meetsIn M8 dd.typeIs OA (N9 _ _) (meetsH_dict_get (Nz (bZ X.prog X.w)) a b hd) ⟨LB hu,k,xs,key_of I.hok eb,dd,h _ _ (I.tok _) ?_⟩
  rw[l];exact(rel.val k).getD rfl
end
def Dq (td ty:TE):TE:=λσ H Q=>td σ H λx H1=> ∃a,x= .ref a/\IsD H1 a/\ty σ H1 λy H2=> ∃o,DGet H2 a y o/\Q (o.getD .non) H2
section
variable {X:Cx}{o e f:Expr}{apos cpos:Pos}{td ty tx:TE}
theorem yT (hu:X.A.units+1<cLine)(ho:PE X o td)(he:PE X e ty)(m:M1 X o "get" apos e cpos):PE X (.Call (.Attribute o "get" apos) [e] [] cpos) (Dq td ty):=by
 intro pins s σ H Q I h;refine wpAny_Call_method m.base m.few m.line PySem.F.plainAttrs_dict M8 PySem.F.type_dict_get (cg (ho pins s σ H _ I h) λu s1 hh_=> ?_)
 obtain⟨x,H1,I1,rx,a,ex,d,q1⟩:=hh_;subst ex;obtain rfl:u=Jz a:=rx;obtain⟨t1,t2,_⟩:=EX I1 d;refine⟨t1,t2,?_⟩
 rw[m.trees];refine MT rfl (Ms (Lw (cg (he pins s1 σ H1 _ I1 q1) λiv s2 ⟨y,H2,I2,ry,ov,g,q2⟩=>LM ?_)))
 exact Fp hu I2 g ry λw' s3 I3 rw'=>⟨_,H2,I3,rw',q2⟩
end
end L2
namespace Tr
open PySem PySem.Spec PyProof.Rows L2
theorem DGet.IH {H:Hp}{a b:Addr}{kvs:List (List Key×V)}{k:List Key}(e:Rd H a (.dT kvs))(eb:H b=some (.tup (k.map kV))):DGet H a (.ref b) (iU kvs k):=.inr ⟨kvs,k,b,e,rfl,eb,rfl⟩
theorem C9 {k:Nat}{A:JZ}(h:Room k A):A.units+1<cLine:=by have:=h.un;omega
theorem mF {K:Jg}{O:Ow}{H:Hp}:∀{l:List T} {vs:List V} {k:List Key},mG l=some k->Reps K O H l vs->vs=k.map kV
 | [],vs,k,h,r=>by cases Reps.Hy.mp r;cases h;rfl
 | t::l,vs,k,h,r=>by
  obtain⟨v,ws,rfl,p,q⟩:=Reps.me.mp r;unfold mG at h
  cases e1:C5 t with
  | none=>rw[e1]at h;cases h
  | some a=>
   cases e2:mG l with
   | none=>rw[e1,e2]at h;cases h
   | some b=>
    rw[e1,e2]at h;cases h;rw[mF e2 q,Jn]
    congr 1
    cases t with
    | int i=>cases e1;exact Rep.Hz.mp p
    | str x=>cases e1;exact Rep.HJ.mp p
    | _=>cases e1
theorem iM {K:Jg}{O:Ow}{H:Hp}{y:T}{v:V}{k:List Key}(h:keyOf y=some k)(r:Rep K O H y v):∃b,v= .ref b/\H b=some (.tup (k.map kV)):=by
 cases y with
 | tup l=>
  obtain⟨a,vs,e1,_,e3,e4⟩:=Rep.HB.mp r;rw[mF h e4]at e3
  exact⟨a,e1,e3⟩
 | _=>cases h
theorem j4 {K:Jg}{O:Ow}{H:Hp}{k:List Key}:∀{ks ts:List T} {kvs:List (List Key×V)},ks.map keyOf=kvs.map (λp=>some p.1)->Reps K O H ts (kvs.map (·.2))->match j5 ks ts k with
  | some t=> ∃v,iU kvs k=some v/\Rep K O H t v
  | none=>iU kvs k=none
 | [],ts,kvs,h,r=>by
  cases kvs with
  | nil=>unfold j5;exact x6
  | cons _ _=>cases h
 | k'::ks,ts,kvs,h,r=>by
  cases kvs with
  | nil=>cases h
  | cons p kvs=>
   rw[Jn,Jn]at h;injection h with h1 h2
   rw[Jn]at r
   cases ts with
   | nil=>have:=Reps.Hy.mp r;cases this
   | cons t ts=>
    obtain⟨v,ws,e,q1,q2⟩:=Reps.me.mp r;injection e with e1 e2
    subst e1 e2;unfold j5
    by_cases hk:keyOf k'=some k
    ·rw[if_pos hk]
     rw[h1]at hk;injection hk with hk
     exact⟨_,jA hk,q1⟩
    ·rw[if_neg hk]
     have hk2:¬ p.1=k:=λz=>hk (by rw[h1,z])
     rw[jB hk2];exact j4 h2 q2
theorem pR {κ:Type}[DecidableEq κ]{k:κ}{p:κ×V}{r:List (κ×V)}{v:V}(h:¬ p.1=k):cL (p::r) k v=p::cL r k v:=by
 unfold cL;rw[LY,decide_eq_false h,PV]
 by_cases q:(r.any λkv=>decide (kv.1=k))=true
 ·rw[if_pos q,if_pos q,Jn,if_neg h]
 ·rw[if_neg q,if_neg q];rfl
theorem pT {κ:Type}[DecidableEq κ]{k:κ}{p:κ×V}{r:List (κ×V)}{v:V}(h:p.1=k)(hn:∀q∈r,q.1≠k):cL (p::r) k v=(p.1,v)::r:=by
 unfold cL;rw[LY,decide_eq_true h,Bool.true_or,if_pos rfl,Jn,if_pos h]
 congr 1
 conv=>rhs;rw[<-List.map_id r]
 exact Kk λq hq=>if_neg (hn q hq)
theorem mP {K:Jg}{O:Ow}{H:Hp}{kT vT:T}{k:List Key}{v:V}(hk:keyOf kT=some k)(hv:Rep K O H vT v):∀{ks ts:List T} {kvs:List (List Key×V)},ks.map keyOf=kvs.map (λp=>some p.1)->Reps K O H ts (kvs.map (·.2))->(kvs.map (·.1)).Nodup →
  (gy kT vT ks ts).1.map keyOf=(cL kvs k v).map (λp=>some p.1)/\Reps K O H (gy kT vT ks ts).2 ((cL kvs k v).map (·.2))
 | [],ts,kvs,h,r,_=>by
  cases kvs with
  | nil=>
   unfold gy;refine⟨?_,Reps.HE hv Reps.HI⟩
   simp[cL,hk]
  | cons _ _=>cases h
 | k'::ks,ts,kvs,h,r,hn=>by
  cases kvs with
  | nil=>cases h
  | cons p kvs=>
   rw[Jn,Jn]at h;injection h with h1 h2
   rw[Jn]at r;rw[Jn]at hn;obtain⟨n1,n2⟩:=JX.mp hn
   cases ts with
   | nil=>have:=Reps.Hy.mp r;cases this
   | cons t ts=>
    obtain⟨v',ws,e,q1,q2⟩:=Reps.me.mp r;injection e with e1 e2
    subst e1 e2;unfold gy
    by_cases hz:keyOf k'=keyOf kT
    ·rw[if_pos hz]
     have hp:p.1=k:=by rw[hz,hk]at h1;injection h1 with h1;exact h1.symm
     rw[pT hp λq hq z=>n1 (by rw[hp,<-z];exact List.mem_map_of_mem hq)]
     exact⟨by rw[Jn,Jn,h1,h2],Reps.HE hv q2⟩
    ·rw[if_neg hz]
     have hp:¬ p.1=k:=λz=>hz (by rw[h1,z,hk])
     obtain⟨a1,a2⟩:=mP hk hv h2 q2 n2;rw[pR hp];exact⟨by rw[Jn,Jn,h1,a1],Reps.HE q1 a2⟩
theorem CI {H:Hp}{kvs:List (List Key×V)}{xs:List (List Key×Addr×Ji)}(rel:KT H kvs xs):kvs.map (·.1)=xs.map (·.1):=by
 induction rel with
 | nil=>rfl
 | cons h t ih=>rw[Jn,Jn,ih,h.1]
theorem Au {X:Cx}{pins:List (Addr×Obj)}{σ:L2.St}{H:Hp}{s:Jk}{a:Addr}{kvs:List (List Key×V)}(I:Inv X pins σ H s)(e:H a=some (.dT kvs)):(kvs.map (·.1)).Nodup/\kvs.length<=sizeLine:=by
 obtain⟨z,_,xs,rel,_,_,_,_,_,_,_,_,hn⟩:=vY I.hok e;rw[CI rel];exact⟨hn,z⟩
section
variable {X:Cx}{a b:Expr}{fa fb:En->Rs T}{pos:Pos}
theorem Gj (hu:X.A.units+1<cLine)(ha:cj X a fa)(hb:cj X b fb)(hs:CH b:=by intro _ _;rfl):cj X (.Subscript a b pos) (o2 iX fa fb):=by
 refine PE.imp (BT hu ha hb hs) λσ H Q ⟨Z,O,E,hq⟩=> ?_
 obtain⟨Z1,O1,E1,h1⟩:=aV E hq;refine⟨Z1,O1,E1,Post.mono h1 λt H1 s1 q v r=> ?_⟩
 obtain⟨t',r',s',E',q'⟩:=q v r;obtain⟨Z2,O2,E2,h2⟩:=aV (f:=fb) E' q';refine⟨Z2,O2,E2,Post.mono h2 λt2 H2 s2 q2 v2 r2=> ?_⟩
 obtain⟨t2',r2',s2',E2',q2'⟩:=q2 v2 r2
 have r'':=r'.same s2';unfold iX at q2'
 split at q2'
 ·rename_i ks vs k hk
  split at q2'
  ·rename_i x hx
   obtain⟨a,kvs,e1,e2,e3,e4,e5⟩:=Rep.HF.mp r'';obtain⟨b,f1,f2⟩:=iM hk r2'
   have g:=j4 (k:=k) e4 e5;rw[hx]at g;obtain⟨w,g1,g2⟩:=g;exact⟨a,w,e1,by rw[f1,<-g1];exact DGet.IH e3 f2,q2' H2 (Same.refl H2) w g2⟩
  ·exact q2'.elim
 ·exact q2'.elim
end
end Tr
namespace Tr
open PySem PySem.Spec PyProof.Rows L2
open PySem.SeqAt
theorem zj {A:JZ}{s:Jk}{x:T}{ux:Ji}(rx:ReV s x ux)(hu:A.units+60<cLine){l:List T}{us:List Ji}(hd:x.dep<=60\/deps l<=60)(r:ReVs s l us) :
  ∃e:Ji->Bool,(∀y∈us,EqAt A s y ux (e y))/\us.map e=l.map λt=>aR t x:=by
 classical
 have ex:∀y∈us,∃t∈l,ReV s t y:=λy hy=>by
  obtain⟨i,hi,rfl⟩:=LX hy
  have hl:=r.length
  have e1:l[i]? =some l[i]:=by simp
  obtain⟨u,q1,q2⟩:=r.get e1
  have:us[i]? =some us[i]:=by simp
  rw[this]at q1;cases q1;exact⟨l[i],Lg _,q2⟩
 let e:Ji->Bool:=λy=>decide (∃t∈l,ReV s t y/\aR t x=true)
 have dep:∀t∈l,t.dep<=60\/x.dep<=60:=λt ht=>by
  rcases hd with h | h
  ·exact .inr h
  ·obtain⟨i,hi,rfl⟩:=LX ht
   exact .inl (JQ (iq (i:=i) (by simp)) h)
 have uniq:∀y t t',ReV s t y->ReV s t' y->aR t x=aR t' x:=λy t t' z z'=>by
  rw[<-j7 t,<-j7 t',ReV.nf z z']
 have agree:∀y t,t∈l->ReV s t y->e y=aR t x:=λy t h z=>by
  show decide (∃t∈l,ReV s t y/\aR t x=true)=aR t x
  cases q:aR t x with
  | true=>exact decide_eq_true ⟨t,h,z,q⟩
  | false=>
   refine decide_eq_false ?_
   rintro ⟨t',h',z',q'⟩
   rw[<-uniq y t t' z z',q]at q';cases q'
 refine⟨e,λy hy=> ?_,?_⟩
 ·obtain⟨t,h,z⟩:=ex y hy
  rw[agree y t h z];exact(Ck 60 A s t x y ux (dep t h) hu z rx).1
 ·have go:∀(l':List T) (us':List Ji),(∀t∈l',t∈l)->ReVs s l' us'->us'.map e=l'.map λy=>aR y x:=by
   intro l'
   induction l' with
   | nil=>intro us' _ r';rw[ReVs.Hy.mp r'];rfl
   | cons t l' ih=>
    intro us' sub r';obtain⟨u,ws,rfl,p,q⟩:=ReVs.me.mp r';rw[Jn,Jn,ih ws (λt ht=>sub t (Jh _ ht)) q,agree u t (sub t Jj) p]
  exact go l us (λ_ h=>h) r
theorem mL {x:T}:∀{l:List T} {n k:Nat},iQ x l n=some k->n<=k/\(l.map λt=>aR t x)[k - n]? =some true/\∀m,m<k - n->(l.map λt=>aR t x)[m]? =some false
 | [],n,k,h=>by cases h
 | t::l,n,k,h=>by
  unfold iQ at h
  cases q:aR t x with
  | true=>
   rw[q,if_pos rfl]at h;cases h;refine⟨Jv _,?_,λm hm=>by omega⟩
   rw[NN,Jn,q];rfl
  | false=>
   rw[q,if_neg (by decide)]at h
   obtain⟨h1,h2,h3⟩:=mL h
   have e:k - n=(k - (n+1))+1:=by omega
   refine⟨by omega,?_,λm hm=> ?_⟩
   ·rw[e,Jn,LZ];exact h2
   ·cases m with
    | zero=>rw[Jn,q];rfl
    | succ m=>rw[Jn,LZ];exact h3 m (by omega)
section
variable {X:Cx}{a b:Expr}{fa fb:En->Rs T}{pos apos cpos:Pos}
theorem yF (hu:X.A.units+61<cLine)(ha:cj X a fa)(hb:cj X b fb)(hn:bO b=true:=by rfl)
  (hbase:K1 a "index" X.env (eval a X.env)=eval a X.env:=by rfl) (hline:(apos.endLine == cpos.line)=true:=by rfl):cj X (.Call (.Attribute a "index" apos) [b] [] cpos) (oL bF fa fb):=by
 have hs:JF [b] X.env=(false,eval b X.env)::JF [] X.env:=ba hn;intro pins s σ H Q I ⟨Z,O,E,hq⟩;refine OF hbase (by rw[hs];rfl) hline rfl (cg (ha pins s σ H _ I (aV E hq)) λv s1 hh_=> ?_)
 obtain⟨x,H1,I1,r1,t,rt,s',E',q1⟩:=hh_
 cases t with
 | lst l=>
  obtain⟨c,vs,e1,e2,e3,e4⟩:=Rep.HA.mp rt;subst e1;obtain rfl:v=Jz c:=r1;obtain⟨h1,h2⟩:=x9 I1 (show RelV (.ref c) (.ref c)from rfl) (.inl ⟨rfl,vs,SqL.of e3⟩)
  refine⟨_,_,MH,PySem.F.slot_list_index,PySem.F.type_list_index,h1,h2,?_⟩
  rw[hs];refine MT rfl (Ms (Lw (cg (hb pins s1 σ H1 _ I1 (aV (f:=fb) E' q1)) λu s2 ⟨y,H2,I2,r2,t2,rt2,s'',E'',q2⟩=>LM ?_)))
  unfold bF at q2
  split at q2
  ·rename_i l' heq
   cases heq
   split at q2
   ·rename_i hd3
    obtain⟨hd,hnx,hny⟩:=hd3
    split at q2
    ·rename_i k hk
     have rv:=Rep.val I2 (show(T.lst l).nd=true by unfold T.nd;exact hny) (rt.same s'') (show RelV (.ref c) (.ref c)from rfl)
     unfold ReV at rv;obtain⟨c',us,ec,hl,rs⟩:=rv;cases ec;obtain⟨⟨cls,dd,data,sl⟩,ho,hc,n,hdd⟩:=id hl;simp only at hc hdd;subst hc hdd;obtain⟨e,he,ha⟩:=zj (A:=X.A.in1) (Rep.val I2 hnx rt2 r2) (by show X.A.units+1+60<cLine;omega) hd rs
     obtain⟨_,k1,k2⟩:=mL hk;rw[OL]at k1 k2;rw[<-ha]at k1 k2
     have hkl:k<us.length:=by have:=(Jy.mp k1).1;rwa [Jm]at this
     have hz:us.length<=sizeLine:=by
      have z:=(I2.HU (s'' _ _ e3)).1
      have h3:=rs.length
      have h4:=e4.length;omega
     refine Nl F.slot_list_index ⟨_,ho,rfl⟩ F.entry_list_index (F.args_list_index_2 _ _) (list_indexAt c us.toArray n dd sl u e k (by simpa using hkl) (by rw[KW]at hz;omega) ?_ ?_) ⟨ho,λy hy=>he y (by simpa using hy),?_⟩
     ·have:=(Jy.mp k1).2
      rw[Mz]at this
      simpa using this
     ·intro m hm hmk
      have:=(Jy.mp (k2 m hmk)).2
      rw[Mz]at this
      simpa using this
     ·exact⟨.int _,H2,I2.tok _,⟨_,rfl⟩,q2 H2 (Same.refl H2) _ (Rep.HG _)⟩
    ·exact q2.elim
   ·exact q2.elim
  ·rename_i hno
   exact(hno l rfl).elim
 | _=>exact q1.elim
theorem DY (hu:X.A.units+1<cLine)(ha:cj X a fa)(hb:cj X b fb)(hn:bO b=true:=by rfl)
  (hbase:K1 a "get" X.env (eval a X.env)=eval a X.env:=by rfl) (hline:(apos.endLine == cpos.line)=true:=by rfl):cj X (.Call (.Attribute a "get" apos) [b] [] cpos) (oD gU fa fb):=by
 have hs:JF [b] X.env=(false,eval b X.env)::JF [] X.env:=ba hn;refine PE.imp (yT hu ha hb ⟨hbase,by rw[hs];rfl,hline,by rw[hs];rfl⟩) λσ H Q ⟨Z,O,E,hq⟩=> ?_
 obtain⟨Z1,O1,E1,h1⟩:=aV E hq;refine⟨Z1,O1,E1,Post.mono h1 λt H1 s1 q v r=> ?_⟩
 obtain⟨t',r',s',E',q'⟩:=q v r
 cases t' with
 | dct ks vs=>
  obtain⟨c,kvs,e1,e2,e3,e4,e5⟩:=Rep.HF.mp r';refine⟨c,e1,.inr ⟨kvs,e3⟩,?_⟩
  obtain⟨Z2,O2,E2,h2⟩:=aV (f:=fb) E' q';refine⟨Z2,O2,E2,Post.mono h2 λt2 H2 s2 q2 v2 r2=> ?_⟩
  obtain⟨t2',r2',s2',E2',q2'⟩:=q2 v2 r2;unfold gU at q2'
  split at q2'
  ·rename_i ks' vs' k heq hk
   cases heq;obtain⟨b,f1,f2⟩:=iM hk r2'
   have g:=j4 (k:=k) e4 (e5.same s2');refine⟨iU kvs k,by rw[f1];exact DGet.IH (Rd.Iw (P:=wP) (SameO.of s2') (λz=>z) e3) f2,?_⟩
   cases hx:j5 ks vs k with
   | some z=>
    rw[hx]at g q2';obtain⟨w,g1,g2⟩:=g;rw[g1]
    exact q2' H2 (Same.refl H2) w g2
   | none=>
    rw[hx]at g q2';rw[g];exact q2' H2 (Same.refl H2) .non Rep.II
  ·exact q2'.elim
 | _=>exact q'.elim
theorem Ep (hu:X.A.units+1<cLine):OpT X (Kh .In) Aq:=by
 intro pins s σ H O x y vx vy ux uy Q I hf rx ry r1 r2 hp;unfold Aq at hp
 split at hp
 ·rename_i ks vs k hk
  obtain⟨c,kvs,e1,e2,e3,e4,e5⟩:=Rep.HF.mp ry;obtain⟨b,f1,f2⟩:=iM hk rx;subst e1 f1;obtain rfl:uy=Jz c:=r2
  have g:=j4 (k:=k) e4 e5
  have hsome:(j5 ks vs k).isSome=(iU kvs k).isSome:=by
   cases hx:j5 ks vs k with
   | some z=>rw[hx]at g;obtain⟨w,g1,_⟩:=g;rw[g1];rfl
   | none=>rw[hx]at g;rw[g];rfl
  refine d_in hu I (DGet.IH e3 f2) r1 λs' I'=>⟨.bl _,H,I',rfl,?_⟩
  rw[<-hsome];exact hp H (Same.refl H) _ (Rep.bl_ _)
 ·exact hp.elim
end
end Tr
namespace Tr
open PySem PySem.Spec PyProof.Rows L2
section
variable {X:Cx}{a b c:Expr}{fa fb fc:En->Rs T}{pos p2 p3 p4:Pos}{x:Str}
theorem DI (i:Nat)(hu:X.A.units+1<cLine)(hb:cj X b fb)(hc:cj X c fc)(hN:X.N[i]? =some x:=by rfl)(hv:xG X.env.scope x:=by first | exact Lx rfl | exact KO (Lx rfl) | exact KO (KO rfl))
  (hd:ie x:=by decide) (hcd:(x == ("__classdict__" : Str))=false:=by decide)
  (hs:KP c (some (.Subscript (.Name x p2) b p3)) pos.line X.env=pure false:=by rfl):n8 X (.Assign [.Subscript (.Name x p2) b p3] c pos) (wA i fb fc):=by
 intro pins s σ H D I ⟨Z,B,M,E,h⟩;refine BH hu (lX hN hv hd hcd) hb hc hs pins s σ H D I ?_
 unfold wA at h
 split at h
 ·rename_i ks vs hl
  obtain⟨v0,e1,d,kvs,rfl,hM,e3,e4,e5⟩:=E.env.own i _ hl;obtain⟨nd,nz⟩:=Au I e3;refine⟨Z,OO B M,E.o,?_⟩
  cases q:fc Z with
  | bad=>rw[q]at h;exact h.elim
  | err c=>rw[q]at h;exact PostF.xa h
  | ok vT=>
   rw[q,aE]at h;intro H1 s1 v r;refine⟨.ref d,e1,Z,OO B M,(E.same s1).o,?_⟩
   have h1:=h.later (SameO.of s1) (P1:=M.u) λa z=> .inl z
   cases q2:fb Z with
   | bad=>rw[q2]at h1;exact h1.elim
   | err c=>rw[q2]at h1;exact PostF.xa h1
   | ok kT=>
    rw[q2,aE]at h1;intro H2 s2 y ry
    cases q3:keyOf kT with
    | none=>rw[q3]at h1;exact h1.elim
    | some k=>
     rw[q3]at h1
     have h2:=h1.later (SameO.of s2) (P1:=M.u) λa z=> .inl z
     have hlen:ks.length=kvs.length:=by have:=congrArg LD e4;simpa using this
     by_cases hz:ks.length<1000
     ·simp only[if_pos hz]at h2
      obtain⟨kb,f1,f2⟩:=iM q3 ry
      have e3':=s2 _ _ (s1 _ _ e3);obtain⟨g1,g2⟩:=mP q3 (r.same s2) e4 ((e5.same s1).same s2) nd;refine⟨d,upd H2 d (.dT (cL kvs k v)),rfl,by rw[f1];exact DPut.t e3' f2 (by rw[KW];omega),?_⟩
      have sm:SameO (M i) H2 (upd H2 d (.dT (cL kvs k v))):=λc u e nb=>by rw[aJ (λz=>nb ((hM c).mpr z))];exact e
      obtain⟨g3,g4⟩:=((E.same s1).same s2).put (o':=.dct (gy kT vT ks vs).1 (gy kT vT ks vs).2) hl e1 sm ⟨d,_,rfl,hM,aP,g1,g2.move (P:=M i) (λa z=> .inl (.inr ⟨i,z⟩)) (λa z=> .inl z) sm⟩
      exact h2 σ _ M g4 g3 λc z=> .inl z
     ·simp only[if_neg hz]at h2
      exact h2.elim
 ·exact h.elim
end
end Tr
namespace PySem
open Sem (wp)
namespace F
theorem lk_list_keys:LS (.type "list") "keys" =pure none:=by rw[Mf,K8];kernel_rfl
theorem lk_list_getattr:LS (.type "list") "__getattr__" =pure none:=by rw[Mf,K8];kernel_rfl
end F
section
variable {prog:JI}{w:Kn}{A:JZ}{E:Ji->Jk->Prop}{h:Heap}{g:Array GenState}{d:Drawn}{t:Nat}{os:OsState}{a:Addr}{its:Array Ji}{n:Nat}
theorem lf {tk:Tok}{Q:Fin->Jk->Prop}(hx:h.get? a=some { cls:=.type "list",data:=.seq its n })(hh:A.handled=none)
  (hq:∀h' tk' e,Nr h h' e (.ref a) "keys"->E (.ref e) ⟨h',g,d,tk',os⟩) :
  wpAny (model prog w) A (Builtin.«object.__getattribute__» ⟨[.ref a,.str "keys" tk],[]⟩) Q E ⟨h,g,d,t,os⟩:=by
 have hT:(⟨h,g,d,t,os⟩:Jk).TypeIs (.ref a) "list":=⟨_,hx,rfl⟩
 have f4:=F.lk_list_keys
 repeat (any_goals (first | assumption | wp_step))
 exact Pk hh (λh' tk e hx=>hq h' tk e hx) (attrMsg_fits (by decide+kernel) (by rw[KW];decide))
theorem mC {tk:Tok}{R:Rv->Jk->Prop}(hx:h.get? a=some { cls:=.type "list",data:=.seq its n })(hh:A.handled=none)
  (hq:∀h' tk' e,Nr h h' e (.ref a) "keys"->R (.error (.ref e)) ⟨h',g,d,tk',os⟩) :
  codeAny (model prog w) A (.call (.builtin "list.__getattribute__") ⟨[.ref a,.str "keys" tk],[]⟩) R ⟨h,g,d,t,os⟩:=
 Pl LP.plain F.entry_list_ga (LP.check _ _ _ _ _ _ _ _ (show(⟨h,g,d,t,os⟩:Jk).TypeIs (.ref a) "list" from⟨_,hx,rfl⟩) (F.args_list_getattribute_2 _ _) (lf hx hh hq))
theorem mE {Q:Option Ji->Jk->Prop}(hx:h.get? a=some { cls:=.type "list",data:=.seq its n })(hh:A.handled=none)
  (hq:∀h' tk',(∀b o,h.get? b=some o->h'.get? b=some o)->Q none ⟨h',g,d,tk',os⟩):wpAny (model prog w) A (getAttr? (.ref a) "keys") Q E ⟨h,g,d,t,os⟩:=by
 have hT:∀tk,(⟨h,g,d,tk,os⟩:Jk).TypeIs (.ref a) "list":=λ_=>⟨_,hx,rfl⟩
 have f1:=Qb
 have f2:=LP.lookup
 have f3:=LP.bind (.ref a)
 have f5:=F.lk_list_getattr;unfold getAttr? getAttrBy? getAttrBy
 repeat (any_goals (first | assumption | exact hT _ | wp_step))
 refine mC hx hh λh' tk' e hx'=> ?_
 obtain⟨t',u',he⟩:=hx'.there
 repeat (any_goals (first | assumption | exact hT _ | wp_step))
 exact hq _ _ hx'.keeps
end
end PySem
namespace PySem.F
theorem entry_dict_update_loop:entryFor table "dict.update.loop" =some Builtin.«dict.update.loop»:=entryFor_of_tree (by kernel_rfl)
theorem plain_dict_update_loop:plainId "dict.update.loop" =true:=by decide+kernel
end PySem.F
namespace Tr
open PySem PySem.Spec PyProof.Rows L2
def fK (kvs:List (List Key×V)):List (List Key×V)->List (List Key×V)
 | [] =>kvs
 | p::ps=>fK (cL kvs p.1 p.2) ps
def PairsAt (H:Hp):List V->List (List Key×V)->Prop
 | [],ps=>ps= []
 | x::xs,ps=> ∃b kb p r,ps=p::r/\x= .ref b/\H b=some (.tup [.ref kb,p.2])/\H kb=some (.tup (p.1.map kV))/\PairsAt H xs r
theorem PairsAt.upd {H:Hp}{d:Addr}{kvs:List (List Key×V)}{o:HO}(hd:H d=some (.dT kvs)):∀{xs:List V} {ps:List (List Key×V)},PairsAt H xs ps->PairsAt (L2.upd H d o) xs ps
 | [],_,h=>h
 | x::xs,_,⟨b,kb,p,r,e1,e2,e3,e4,e5⟩=>⟨b,kb,p,r,e1,e2,by rw[aJ (mn e3 hd (λz=>nomatch z))];exact e3,by rw[aJ (mn e4 hd (λz=>nomatch z))];exact e4,e5.upd hd⟩
theorem iC {H:Hp}{d:Addr}{a b:HO}:upd (upd H d a) d b=upd H d b:=by
 funext c
 by_cases h:c=d
 ·rw[h,aP,aP]
 ·rw[aJ h,aJ h,aJ h]
section
variable {X:Cx}{pins:List (Addr×Obj)}{σ:L2.St}{A:JZ}{res:Ji}{R:Rv->Jk->Prop}{d l it:Addr}{xs:List V}
theorem xu (hh:A.handled=none)(hu:A.units+3<cLine):∀(k i:Nat) (s:Jk) (H:Hp) (kvs ps:List (List Key×V)),xs.length - i=k->i<=xs.length->H l=some (.lst xs)->H d=some (.dT kvs)->kvs.length+(xs.length - i)<=1000->Inv X pins σ H s->s.heap.IsListIter it l i->j8 X pins H it->PairsAt H (xs.drop i) ps →
  (∀s',Inv X pins σ (upd H d (.dT (fK kvs ps))) s'->R (.ok (.ret res)) s')->codeAny (model X.prog X.w) A (.builtin "dict.update.loop" ⟨[.ref d,.ref it,rawInt i,res],[]⟩) R s:=by
 intro k
 induction k with
 | zero=>
  intro i s H kvs ps hk hi hl hd hz I hit hf hp hR;refine Lq F.entry_dict_update_loop ?_
  rw[KB F.plain_dict_update_loop _];obtain⟨z,its,n,r,hlen,e⟩:=I.HU hl
  have hL:s.heap.IsList l its.toArray:=⟨_,e,rfl,n,rfl⟩
  show wpAny _ A.in1 (pyNext (.ref it) >>= _) _ _ s
  refine Je (OU hh hit hL (by simp;omega) λh' hm=> ?_)
  show wpAny _ _ (NX d [] >>= _) _ _ _
  refine Je (Jl (Jl ?_))
  have hnil:xs.drop i= []:=L8 (by omega)
  rw[hnil]at hp;unfold PairsAt at hp;subst hp
  have e2:upd H d (.dT (fK kvs []))=H:=by
   funext b
   by_cases hb:b=d
   ·rw[hb,aP,hd];rfl
   ·rw[aJ hb]
  rw[e2]at hR
  exact hR _ (I.HL (fp:=[it]) (t':=s.toks) (λb hb=>by rw[JB.mp hb];exact hf) λb o hb eb=>hm b o (λz=>hb (by rw[z];exact JB.mpr rfl)) eb)
 | succ k ih=>
  intro i s H kvs ps hk hi hl hd hz I hit hf hp hR;refine Lq F.entry_dict_update_loop ?_
  rw[KB F.plain_dict_update_loop _];obtain⟨z,its,n,r,hlen,e⟩:=I.HU hl
  have hL:s.heap.IsList l its.toArray:=⟨_,e,rfl,n,rfl⟩
  have hlt:i<xs.length:=by omega
  have hlt':i<its.length:=by omega
  show wpAny _ A.in1 (pyNext (.ref it) >>= _) _ _ s
  refine Je (OD hit hL (x:=its[i]) (by simp[hlt']) λh' hit' hm=> ?_)
  have I1:Inv X pins σ H { s with heap:=h' }:=I.HL (fp:=[it]) (t':=s.toks) (λb hb=>by rw[JB.mp hb];exact hf) λb o hb eb=>(hm.2 b (λz=>hb (by rw[z];exact JB.mpr rfl))).trans eb
  have hdrop:xs.drop i=xs[i] ::xs.drop (i+1):=KZ hlt;rw[hdrop]at hp;obtain⟨b,kb,p,r',rfl,ex,hb,hkb,hp'⟩:=hp
  have rx:RelV xs[i] its[i]:=by
   obtain⟨u,q1,q2⟩:=r.get (Jx hlt)
   rw[Jx hlt']at q1
   cases q1;exact q2
  rw[ex]at rx
  have eu:its[i] =Jz b:=rx;rw[eu];obtain⟨z2,its2,r2,ob,hob1,hob2,nb,hob3⟩:=(show ObjOk X.prog X.w H h' b (.tup [.ref kb,p.2])from I1.hok b _ hb)
  obtain⟨u1,us1,q1,rfl⟩:∃u1 us1,RelV (V.ref kb) u1/\its2=u1::us1:=by cases r2 with | cons a b=>exact⟨_,_,a,rfl⟩
  cases r2 with
  | cons ra rb=>
   obtain⟨u2,q2,rfl⟩:∃u2,RelV p.2 u2/\us1= [u2]:=by cases rb with | cons a b=>cases b;exact⟨_,a,rfl⟩
   obtain rfl:u1=Jz kb:=q1
   show wpAny _ A.in1 (holding [Jz b] _ >>= _) _ _ _
   refine Je (J3 ?_)
   refine Je (wpAny_tryCatch ?_)
   unfold OB;refine Je (LA (s:={ s with heap:=h' }) (T:="tuple") ⟨ob,hob1,hob2⟩ ?_)
   rw[if_pos (by decide)]
   refine Je (Kd (s:={ s with heap:=h' }) hob1 hob3 (Jl ?_))
   show wpAny _ _ (holding [Jz kb,u2] (dictSet d (.ref kb) u2)) _ _ _
   refine J3 ?_
   obtain⟨zz,hds,xs2,rel,dd⟩:=vY I1.hok hd
   have hzl:xs2.length<=sizeLine:=by rw[<-Ng rel];exact zz
   have hkl:kvs.length<sizeLine:=by rw[KW];omega
   have hl2:(cL kvs p.1 p.2).length<=sizeLine:=by have:=dC kvs p.1 p.2;omega
   refine Qc (hsz:=hzl) (LB (by show A.units+1<cLine;omega)) (key_of I1.hok hkb) dd λh2 dd2 hs2=> ?_
   obtain⟨q,es,ep,hq,h22,h3,h4,_,h5⟩:=dd2
   have I2:Inv X pins σ (upd H d (.dT (cL kvs p.1 p.2))) { s with heap:=h2,toks:=s.toks+(Nz (bZ X.prog X.w)).draws p.1 }:=
    lE (s:={ s with heap:=h' }) I1 (by rw[hd];exact L6) hs2 ⟨q,hq⟩ ⟨hl2,hds,_,(rel.put p.1 hkb q2).keeps λc ys ec=>by rw[aJ (mn ec hd (λz=>nomatch z))];exact ec,q,es,ep,hq,h22,h3,h4,h5⟩
   have hld:l≠d:=mn hl hd (λz=>nomatch z)
   have hitd:it≠d:=λz=>by have:=hf.1;rw[z,hd]at this;cases this
   have hcast:(i:Int)+1=((i+1:Nat):Int):=by omega
   refine Jl ⟨L3 F.plain_dict_update_loop _,?_⟩
   rw[hcast];refine ih (i+1) _ (upd H d (.dT (cL kvs p.1 p.2))) (cL kvs p.1 p.2) r' (by omega) (by omega) (by rw[aJ hld];exact hl) aP (by have:=dC kvs p.1 p.2;omega) I2 ?_ ⟨by rw[aJ hitd];exact hf.1,hf.2⟩ (hp'.upd hd) λs' I'=> ?_
   ·obtain⟨oi,ho1,ho2,ho3⟩:=hit'
    exact⟨oi,(hs2.2 it hitd).trans ho1,ho2,ho3⟩
   ·rw[iC]at I'
    exact hR s' I'
end
theorem PairsAt.same {H H':Hp}(s:Same H H'):∀{xs:List V} {ps:List (List Key×V)},PairsAt H xs ps->PairsAt H' xs ps
 | [],_,h=>h
 | x::xs,_,⟨b,kb,p,r,e1,e2,e3,e4,e5⟩=>⟨b,kb,p,r,e1,e2,s _ _ e3,s _ _ e4,e5.same s⟩
section
variable {X:Cx}{pins:List (Addr×Obj)}{σ:L2.St}{A:JZ}{E:Ji->Jk->Prop}{H:Hp}{s:Jk}{l:Addr}{xs:List V}{ps:List (List Key×V)}
theorem At {Q:Ji->Jk->Prop}(hh:A.handled=none)(hu:A.units+8<cLine)(I:Inv X pins σ H s)(hl:H l=some (.lst xs))(hz:xs.length<=1000)(hp:PairsAt H xs ps)
  (h:∀p s',Nw X.K H p->Inv X pins σ (upd H p (.dT (fK [] ps))) s'->Q (.ref p) s'):wpAny (model X.prog X.w) A (call (.type "dict") [.ref l]) Q E s:=by
 have hk:X.K.lookup s.heap.objs.size=none:=by
  cases q:X.K.lookup s.heap.objs.size with
  | none=>rfl
  | some o=>exact absurd (Jr (I.kIn _ o q)) (JJ _)
 have hn:H s.heap.objs.size=none:=I.hok.fresh (Jv _)
 have hlp:l≠s.heap.objs.size:=λz=>by rw[z,hn]at hl;cases hl
 refine callType_codes (Q₁:=λobj s₁=>obj= .ref s.heap.objs.size/\s₁= { s with heap:=s.heap.push { cls:=.type "dict",data:=.dict #[] } }) Q1 (Pe _) Qm (Q9 _ ⟨rfl,rfl⟩) ?_
 rintro obj s₁ ⟨rfl,rfl⟩
 have I1:Inv X pins σ (upd H s.heap.objs.size (.dT [])) { s with heap:=s.heap.push { cls:=.type "dict",data:=.dict #[] } }:=I.laid (a:=s.heap.objs.size) (o:=.dT []) (t':=s.toks) (λ_ _ q=>Jf _ q) (Jv _) (tD s.heap I.big)
 have hT:({ s with heap:=s.heap.push { cls:=.type "dict",data:=.dict #[] } }:Jk).TypeIs (.ref s.heap.objs.size) "dict":=⟨_,Js _ rfl,rfl⟩
 have hl1:upd H s.heap.objs.size (.dT []) l=some (.lst xs):=by rw[aJ hlp];exact hl
 obtain⟨z,its,n,r,hlen,e⟩:=I1.HU hl1;refine⟨hT,PX _ _,?_⟩
 unfold Builtin.«dict.__init__»;refine Je ?_
 unfold NY;refine Je (O4 hT ?_)
 show wpAny _ _ (pure (s.heap.objs.size,[Jz l])) _ _ _
 refine Jl ?_
 show wpAny _ _ (LW "dict.__init__" s.heap.objs.size (.ref l) [] .none) _ _ _
 unfold LW;refine Je (LA (T:="list") ⟨_,e,rfl⟩ ?_)
 rw[if_pos (by decide)]
 refine Je (mE e hh λh' tk' kp=> ?_)
 have I2:Inv X pins σ (upd H s.heap.objs.size (.dT [])) { s with heap:=h',toks:=tk' }:=I1.kept (t':=tk') kp
 rw[if_pos (by rfl)]
 refine Je (LU ?_)
 have eL:({ s with heap:=h',toks:=tk' }:Jk).heap.IsList l its.toArray:=⟨_,kp _ _ e,rfl,n,rfl⟩
 refine Je (Mm eL ?_)
 have I3:Inv X pins σ (upd H s.heap.objs.size (.dT [])) { s with heap:=h'.push { cls:=.type "list_iterator",data:=.fields #[.ref l,.int 0 0] },toks:=tk' }:=I2.kept (t':=tk') λb u q=>Jf _ q
 have hpl:s.heap.objs.size<h'.objs.size:=Jr (kp _ _ (Js _ rfl))
 have hni:upd H s.heap.objs.size (.dT []) h'.objs.size=none:=by
  rw[aJ (Lv hpl)];exact I.hok.fresh (KD hpl)
 have hp1:PairsAt (upd H s.heap.objs.size (.dT [])) xs ps:=hp.same (aN hn _);refine Jl ⟨L3 F.plain_dict_update_loop _,?_⟩
 refine xu (A:=A.in1) (X:=X) (pins:=pins) (σ:=σ) (l:=l) (xs:=xs) (it:=h'.objs.size) hh (by show A.units+1+3<cLine;omega) xs.length 0 _ (upd H s.heap.objs.size (.dT [])) [] ps (by omega) (KA _) hl1 aP (by simp;omega) I3 ⟨_,Js _ rfl,rfl,rfl⟩ (I2.Ic (Jv _) hni) hp1 λs' I'=> ?_
 rw[iC]at I';exact⟨rfl,h _ _ ⟨hn,hk⟩ I'⟩
end
theorem hu8 {k:Nat}{A:JZ}(h:Room k A):A.units+8<cLine:=by have:=h.un;omega
theorem ug {kvs:List (List Key×V)}{k:List Key}{v:V}(h:(kvs.map (·.1)).Nodup):((cL kvs k v).map (·.1)).Nodup:=by
 unfold cL
 by_cases a:(kvs.any λkv=>decide (kv.1=k))=true
 ·rw[if_pos a,KJ]
  have:((λx=>x.1)∘λkv:List Key×V=>if kv.1=k then(kv.1,v)else kv)=λx=>x.1:=by
   funext x
   show(if x.1=k then(x.1,v)else x).1=x.1
   by_cases e:x.1=k
   ·rw[if_pos e]
   ·rw[if_neg e]
  rw[this];exact h
 ·rw[if_neg a,J6,Kp]
  refine⟨h,by simp,λx hx y hy=> ?_⟩
  simp only[Jn,ME,JB]at hy;subst hy;intro z;subst z;obtain⟨p,hp,e⟩:=JH.mp hx;exact a (List.any_eq_true.mpr ⟨p,hp,decide_eq_true e⟩)
def G9 (K:Jg)(O:Ow)(H:Hp):List (T×T)->List (List Key×V)->Prop
 | [],ps=>ps= []
 | a::l,ps=> ∃p r,ps=p::r/\keyOf a.1=some p.1/\Rep K O H a.2 p.2/\G9 K O H l r
theorem kD {K:Jg}{O:Ow}{H:Hp}:∀{l:List (T×T)} {ps:List (List Key×V)} {ks ts:List T} {kvs:List (List Key×V)},G9 K O H l ps->ks.map keyOf=kvs.map (λp=>some p.1)->Reps K O H ts (kvs.map (·.2))->(kvs.map (·.1)).Nodup →
  (fD l (ks,ts)).1.map keyOf=(fK kvs ps).map (λp=>some p.1)/\Reps K O H (fD l (ks,ts)).2 ((fK kvs ps).map (·.2))
 | [],ps,ks,ts,kvs,h,h1,h2,hn=>by unfold G9 at h;subst h;exact⟨h1,h2⟩
 | (a,b)::l,ps,ks,ts,kvs,h,h1,h2,hn=>by
  obtain⟨p,r,rfl,e1,e2,e3⟩:=h;obtain⟨g1,g2⟩:=mP (vT:=b) e1 e2 h1 h2 hn
  show(fD l (gy a b ks ts)).1.map keyOf=(fK (cL kvs p.1 p.2) r).map (λp=>some p.1)/\Reps K O H (fD l (gy a b ks ts)).2 ((fK (cL kvs p.1 p.2) r).map (·.2))
  exact kD (l:=l) e3 g1 g2 (ug hn)
theorem u9 {K:Jg}{O:Ow}{H:Hp}:∀{l:List T} {tps:List (T×T)} {xs:List V},FC l=some tps->Reps K O H l xs->∃ps,PairsAt H xs ps/\G9 K O H tps ps
 | [],tps,xs,h,r=>by cases Reps.Hy.mp r;cases h;exact⟨[],rfl,rfl⟩
 | t::l,tps,xs,h,r=>by
  obtain⟨v,ws,rfl,p,q⟩:=Reps.me.mp r;unfold FC at h
  split at h
  ·rename_i heq;cases heq
  ·rename_i k v' l' heq
   cases heq
   split at h
   ·rename_i kk rr hk hr
    cases h;obtain⟨ps,g1,g2⟩:=u9 hr q;obtain⟨b,vs,e1,e2,e3,e4⟩:=Rep.HB.mp p;obtain⟨u1,us1,rfl,f1,f2⟩:=Reps.me.mp e4;obtain⟨u2,us2,rfl,f3,f4⟩:=Reps.me.mp f2;cases Reps.Hy.mp f4;obtain⟨kb,f5,f6⟩:=iM hk f1;subst f5;exact⟨(kk,u2)::ps,⟨b,kb,(kk,u2),ps,rfl,e1,e3,f6,g1⟩,⟨(kk,u2),ps,rfl,hk,f3,g2⟩⟩
   ·cases h
  ·cases h
section
variable {X:Cx}{e:Expr}{f:En->Rs T}{x y:Str}{p pos p2 p3:Pos}
def Dp (X:Cx)(f:En->Rs T):TE:=λσ H Q=>tP X f σ H λv H'=> ∃a xs ps,v= .ref a/\H' a=some (.lst xs)/\xs.length<=1000/\PairsAt H' xs ps/\∀q,Nw X.K H' q->Q (.ref q) (upd H' q (.dT (fK [] ps)))
theorem yS (hu:X.A.units+8<cLine)(hc:X.calm=true)(hm:X.mg "dict" =none)(ha:cj X e f)(hg:Gl X "dict")(hs:bO e=true):PE X (.Call (.Name "dict" p) [e] [] pos) (Dp X f):=by
 have h1:JF [e] X.env=(false,eval e X.env)::JF [] X.env:=ba hs;intro pins s σ H Q I hq;refine Kg (eE I hg hm (show JT "dict" =some (.type "dict")by decide+kernel) ?_ (by decide) (by decide))
 refine J5 (cg (gp (te:=tP X f) ha kg h1 pos pins s σ H (λxs H'=> ∃v,xs= [v]/\∃a xs ps,v= .ref a/\H' a=some (.lst xs)/\xs.length<=1000/\PairsAt H' xs ps/\∀q,Nw X.K H' q->Q (.ref q) (upd H' q (.dT (fK [] ps)))) I ?_) λus s1 hh=> ?_) h1 rfl
 ·obtain⟨Z,O,E,h⟩:=hq
  exact⟨Z,O,E,Post.mono h λt H' _ g v r=>⟨v,rfl,g v r⟩⟩
 ·obtain⟨vs,H1,I1,r1,v,rfl,a,xs,ps,ev,e1,e2,e3,e4⟩:=hh
  subst ev;obtain⟨u,rfl,ru⟩:=r1.one;obtain rfl:u=Jz a:=ru;exact At (I1.ok.hd hc) hu I1 e1 e2 e3 λq s' nw I'=>⟨.ref q,_,I',rfl,e4 q nw⟩
theorem Bk (i:Nat)(hu:X.A.units+8<cLine)(hc:X.calm=true)(hm:X.mg "dict" =none)(hN:X.N.Nodup)(ha:cj X e f)(hst:bO e=true:=by rfl)(hg:Gl X "dict":=by rfl)(hi:X.N[i]? =some x:=by rfl)(hx:Loc X.env.scope x:=by first | exact Lx rfl | exact KO rfl)(hs:KP (.Call (.Name "dict" p) [e] [] p2) (some (.Name x p3)) pos.line X.env=pure false:=by rfl)
  (hf:X.fn x=true\/X.env.scope.names.lookup x=some .local:=by first | exact .inl rfl | exact .inr rfl | assumption):n8 X (.Assign [.Name x p3] (.Call (.Name "dict" p) [e] [] p2) pos) (ox i f):=PS.imp (ua hN hi hx (yS hu hc hm ha hg hst) hs hf) λD σ H hh_=>by
 obtain⟨Z,B,M,E,h⟩:=hh_;refine⟨Z,OO B M,E.o,?_⟩
 unfold ox at h
 cases q:f Z with
 | bad=>rw[q]at h;exact h.elim
 | err c=>rw[q]at h;exact PostF.xa h
 | ok t=>
  rw[q,aE]at h;intro H1 s1 v r
  have h1:=h.later (SameO.of s1) (P1:=M.u) λa z=> .inl z
  cases t with
  | lst l=>
   obtain⟨a,xs,rfl,e2,e3,e4⟩:=Rep.HA.mp r;unfold v6 at h1
   split at h1
   ·rename_i l' heq
    cases heq
    split at h1
    ·rename_i tps hps
     by_cases hz:l.length<=1000
     ·rw[if_pos hz,aE]at h1
      obtain⟨ps,g1,g2⟩:=u9 hps e4;refine⟨a,xs,ps,rfl,e3,by rw[<-e4.length];exact hz,g1,λnd nw=> ?_⟩
      by_cases hl:i<Z.length
      ·simp only[if_pos hl]at h1
       have hm:∀a,a=nd->Nw X.K H1 a:=λa z=>z▸nw
       obtain⟨k1,k2⟩:=kD (ks:=[]) (ts:=[]) (kvs:=[]) g2 rfl Reps.HI Ll;obtain⟨E2,sub⟩:=(E.same s1).new (m:=λa=>a=nd) (o:=.dct (fD tps ([],[])).1 (fD tps ([],[])).2) (v:=.ref nd) (H':=upd H1 nd (.dT (fK [] ps))) hl hm (aN nw.1 _) ⟨nd,_,rfl,λb=>Np,aP,k1,(k2.more (Ev.subO hm)).same (aN nw.1 _)⟩
       exact h1 _ _ _ (SameO.of (aN nw.1 _)) E2 sub
      ·simp only[if_neg hl]at h1;exact h1.elim
     ·rw[if_neg hz]at h1;exact h1.elim
    ·exact h1.elim
   ·rename_i hno
    exact(hno l rfl).elim
  | _=>exact h1.elim
end
theorem dW {K:Jg}{O:Ow}{H:Hp}:∀{l:List T} {ns:List Int} {xs:List V} {us:List Ji},dR l=some ns->Reps K O H l xs->Vals xs us->K7 us ns
 | [],ns,xs,us,h,r,v=>by cases Reps.Hy.mp r;cases v;cases h;exact .nil
 | t::l,ns,xs,us,h,r,v=>by
  obtain⟨w,ws,rfl,p,q⟩:=Reps.me.mp r
  cases v with
  | cons v1 v2=>
   cases t with
   | int i=>
    unfold dR at h;obtain⟨m,h1,rfl⟩:=KF.mp h;cases Rep.Hz.mp p;obtain⟨k,rfl⟩:=v1
    exact .cons _ _ (dW h1 q v2)
   | _=>cases h
theorem oM:∀(l:List Int) (i:Int),fw i l∈i::l/\∀a∈i::l,fw i l<=a
 | [],i=>⟨Jj,λa h=>by cases JB.mp h;exact KC _⟩
 | j::l,i=>by
  obtain⟨h1,h2⟩:=oM l (if j<i then j else i)
  unfold fw
  have h3:=h2 _ Jj;refine⟨?_,λa ha=> ?_⟩
  ·rcases Jp.mp h1 with e | e
   ·rw[e]
    by_cases h:j<i
    ·rw[if_pos h];simp
    ·rw[if_neg h];simp
   ·exact Jh _ (Jh _ e)
  ·rcases Jp.mp ha with rfl | ha
   ·by_cases h:j<a
    ·rw[if_pos h]at h3 ⊢;omega
    ·rw[if_neg h]at h3 ⊢;omega
   ·rcases Jp.mp ha with rfl | ha
    ·by_cases h:a<i
     ·rw[if_pos h]at h3 ⊢;omega
     ·rw[if_neg h]at h3 ⊢;omega
    ·exact h2 a (Jh _ ha)
theorem oN:∀(l:List Int) (i:Int),fS i l∈i::l/\∀a∈i::l,a<=fS i l
 | [],i=>⟨Jj,λa h=>by cases JB.mp h;exact KC _⟩
 | j::l,i=>by
  obtain⟨h1,h2⟩:=oN l (if i<j then j else i)
  unfold fS
  have h3:=h2 _ Jj;refine⟨?_,λa ha=> ?_⟩
  ·rcases Jp.mp h1 with e | e
   ·rw[e]
    by_cases h:i<j
    ·rw[if_pos h];simp
    ·rw[if_neg h];simp
   ·exact Jh _ (Jh _ e)
  ·rcases Jp.mp ha with rfl | ha
   ·by_cases h:a<j
    ·rw[if_pos h]at h3 ⊢;omega
    ·rw[if_neg h]at h3 ⊢;omega
   ·rcases Jp.mp ha with rfl | ha
    ·by_cases h:i<a
     ·rw[if_pos h]at h3 ⊢;omega
     ·rw[if_neg h]at h3 ⊢;omega
    ·exact h2 a (Jh _ ha)
section
variable {X:Cx}
theorem Fq (hc:X.calm=true):CallT X (.builtin "min") B1:=by
 intro pins s σ H O ts vs us Q I hf rs rv hp;unfold B1 at hp
 split at hp
 ·rename_i l
  obtain⟨v,rfl,r⟩:=rs.one
  split at hp
  ·rename_i i ns hk
   obtain⟨a,ws,rfl,n,q,z⟩:=Rep.HA.mp r;obtain⟨u,rfl,ru⟩:=gX rv;cases ru;obtain⟨its,r',pl,hz⟩:=I.list (SqL.of q)
   have hi:=dW hk z r';obtain⟨xs,e⟩:=hi.allInts.items
   have hns:i::ns=xs.toList.map (·.1):=by rw[<-hi.numsOf,<-nums_intItems,<-e]
   have hl:s.heap.IsList a (intItems xs):=by rw[<-e];exact pl.isList
   have hsz:0<xs.size:=by
    have h3:=congrArg LD hns;rw[Jq,Jm]at h3;rw[<-JU];omega
   refine min_intList (I.ok.hd hc) hl hsz λv h' tk hv hk'=> ?_
   obtain⟨t,rfl⟩:=intItems_at hv;obtain⟨h1,h2⟩:=argBest_lt (numAt xs) (xs.size - 1);refine⟨.int _,H,I.kept (t':=tk) hk',⟨_,rfl⟩,?_⟩
   have eM:numAt xs (argBest (λi j=>decide (numAt xs i<numAt xs j)) (xs.size - 1))=fw i ns:=by
    obtain⟨g1,g2⟩:=oM ns i
    have m1:numAt xs (argBest (λi j=>decide (numAt xs i<numAt xs j)) (xs.size - 1))∈i::ns:=by
     rw[hns,numAt_eq];exact PySem.getD_mem (by rw[Jm,JU];omega)
    have k1:=g2 _ m1;rw[hns]at g1;obtain⟨j,hj,ej⟩:=mem_getD g1;rw[Jm,JU]at hj;rw[<-numAt_eq]at ej
    have k2:=h2 j (by omega)
    rw[ej]at k2;exact Rl k2 k1
   rw[eM];exact hp H (Same.refl H) _ (Rep.HG _)
  ·exact hp.elim
 ·rename_i i j
  obtain⟨v,ws,rfl,p,q⟩:=Reps.me.mp rs;obtain⟨v2,rfl,p2⟩:=q.one;cases Rep.Hz.mp p;cases Rep.Hz.mp p2;refine xA hc pins s σ H _ us Q I rv ⟨i,j,rfl,?_⟩
  exact hp H (Same.refl H) _ (Rep.HG _)
 ·exact hp.elim
theorem Fr (hc:X.calm=true):CallT X (.builtin "max") B5:=by
 intro pins s σ H O ts vs us Q I hf rs rv hp;unfold B5 at hp
 split at hp
 ·rename_i l
  obtain⟨v,rfl,r⟩:=rs.one
  split at hp
  ·rename_i i ns hk
   obtain⟨a,ws,rfl,n,q,z⟩:=Rep.HA.mp r;obtain⟨u,rfl,ru⟩:=gX rv;cases ru;obtain⟨its,r',pl,hz⟩:=I.list (SqL.of q)
   have hi:=dW hk z r';obtain⟨xs,e⟩:=hi.allInts.items
   have hns:i::ns=xs.toList.map (·.1):=by rw[<-hi.numsOf,<-nums_intItems,<-e]
   have hl:s.heap.IsList a (intItems xs):=by rw[<-e];exact pl.isList
   have hsz:0<xs.size:=by
    have h3:=congrArg LD hns;rw[Jq,Jm]at h3;rw[<-JU];omega
   refine max_intList (I.ok.hd hc) hl hsz λv h' tk hv hk'=> ?_
   obtain⟨t,rfl⟩:=intItems_at hv;obtain⟨h1,h2⟩:=argBest_gt (numAt xs) (xs.size - 1);refine⟨.int _,H,I.kept (t':=tk) hk',⟨_,rfl⟩,?_⟩
   have eM:numAt xs (argBest (λi j=>decide (numAt xs i > numAt xs j)) (xs.size - 1))=fS i ns:=by
    obtain⟨g1,g2⟩:=oN ns i
    have m1:numAt xs (argBest (λi j=>decide (numAt xs i > numAt xs j)) (xs.size - 1))∈i::ns:=by
     rw[hns,numAt_eq];exact PySem.getD_mem (by rw[Jm,JU];omega)
    have k1:=g2 _ m1;rw[hns]at g1;obtain⟨j,hj,ej⟩:=mem_getD g1;rw[Jm,JU]at hj;rw[<-numAt_eq]at ej
    have k2:=h2 j (by omega)
    rw[ej]at k2;exact Rl k1 k2
   rw[eM];exact hp H (Same.refl H) _ (Rep.HG _)
  ·exact hp.elim
 ·rename_i i j
  obtain⟨v,ws,rfl,p,q⟩:=Reps.me.mp rs;obtain⟨v2,rfl,p2⟩:=q.one;cases Rep.Hz.mp p;cases Rep.Hz.mp p2;refine xC hc pins s σ H _ us Q I rv ⟨i,j,rfl,?_⟩
  exact hp H (Same.refl H) _ (Rep.HG _)
 ·exact hp.elim
end
end Tr
namespace Tr
def bR:List Int->List Int->Bool
 | [],[] =>false
 | [],_::_=>true
 | _::_,[] =>false
 | a::l,b::m=>if a=b then bR l m else decide (a<b)
def rowsT:List T->Option (List (List Int))
 | [] =>some []
 | .tup l::r=>match dR l,rowsT r with
  | some ns,some k=>if ns= []then none else some (ns::k)
  | _,_=>none
 | _=>none
def gx (a b:List Int):Bool:=!bR b a
def oq:List T->Rs T
 | [.lst l] =>match rowsT l with
  | some k=>if k.length<64 then .ok (.lst ((k.mergeSort gx).map λns=> .tup (ns.map .int)))else .bad
  | none=> .bad
 | _=> .bad
theorem gf:∀l,bR l l=false
 | [] =>rfl
 | a::l=>by unfold bR;rw[if_pos rfl];exact gf l
theorem iK:∀a b c,bR a b=true->bR b c=true->bR a c=true
 | [],[],_,h,_=>absurd h (by simp[bR])
 | _::_,[],_,h,_=>absurd h (by simp[bR])
 | [],_::_,[],_,h=>absurd h (by simp[bR])
 | [],_::_,_::_,_,_=>rfl
 | _::_,_::_,[],_,h=>absurd h (by simp[bR])
 | x::a,y::b,z::c,h,g=>by
  unfold bR at h g ⊢
  by_cases e:x=y
  ·subst e
   rw[if_pos rfl]at h
   by_cases e2:x=z
   ·rw[if_pos e2]at g ⊢;exact iK a b c h g
   ·rw[if_neg e2]at g ⊢;exact g
  ·rw[if_neg e]at h
   by_cases e2:y=z
   ·subst e2;rw[if_neg e];exact h
   ·rw[if_neg e2]at g
    have h1:=of_decide_eq_true h
    have h2:=of_decide_eq_true g;rw[if_neg (by omega)]
    exact decide_eq_true (by omega)
theorem ii:∀a b,bR a b=false->bR b a=false->a=b
 | [],[],_,_=>rfl
 | [],_::_,h,_=>absurd h (by simp[bR])
 | _::_,[],_,h=>absurd h (by simp[bR])
 | x::a,y::b,h,g=>by
  unfold bR at h g
  by_cases e:x=y
  ·subst e
   rw[if_pos rfl]at h g;rw[ii a b h g]
  ·rw[if_neg e]at h
   rw[if_neg (λz=>e z.symm)]at g
   have h1:=of_decide_eq_false h
   have h2:=of_decide_eq_false g;omega
theorem my (a b c:List Int)(h:bR a c=true):bR a b=true\/bR b c=true:=by
 cases h1:bR a b with
 | true=>exact .inl rfl
 | false=>
  cases h2:bR b a with
  | true=>exact .inr (iK _ _ _ h2 h)
  | false=>rw[<-ii _ _ h1 h2];exact .inr h
theorem zr (a b c:List Int)(h:gx a b=true)(g:gx b c=true):gx a c=true:=by
 unfold gx at*
 cases z:bR c a with
 | false=>rfl
 | true=>
  rcases my c b a z with y | y
  ·rw[y]at g;cases g
  ·rw[y]at h;cases h
theorem vC (a b:List Int):(gx a b||gx b a)=true:=by
 unfold gx
 cases z:bR b a with
 | false=>rfl
 | true=>
  cases y:bR a b with
  | false=>rfl
  | true=>have:=iK _ _ _ z y;rw[gf]at this;cases this
theorem zu (a b:List Int)(h:gx a b=true)(g:gx b a=true):a=b:=by
 unfold gx at h g;refine ii a b ?_ ?_
 ·cases z:bR a b with
  | false=>rfl
  | true=>rw[z]at g;cases g
 ·cases z:bR b a with
  | false=>rfl
  | true=>rw[z]at h;cases h
theorem jJ {k m:List (List Int)}(p:m.Perm k)(s:m.Pairwise (λa b=>gx a b=true)):m=k.mergeSort gx:=
 List.Perm.eq_of_pairwise (le:=λa b=>gx a b=true) (λa b _ _ h g=>zu a b h g) s (Od zr vC k) (p.trans (Pv k gx).symm)
end Tr
namespace Tr
open PySem PySem.Spec PyProof.Rows L2
structure SrtB (k0:Ol)(o:Array Qv)(st:Nx):Prop where
 p:(arrOf st).Perm o
 k:kindOf st=k0
 f:NQ st=none
 e:Mw st= #[]
theorem SrtB.len {k0:Ol}{o:Array Qv}{st:Nx}(b:SrtB k0 o st):(arrOf st).size=o.size:=b.p.size_eq
theorem SrtB.arr {k0:Ol}{o xs:Array Qv}{st:Nx}(b:SrtB k0 o st)(h:xs.Perm (arrOf st)):SrtB k0 o (setArr st xs):=⟨h.trans b.p,b.k,b.f,b.e⟩
def qS (κ:KeyKind)(k0:Ol)(prog:JI)(w:Kn)(A:JZ)(s:Jk):Prop:=
 ∀(E:Ji->Jk->Prop) (x y:Ji) (a b:κ.α) (Q:Bool->Jk->Prop),κ.keyOf x=some a->κ.keyOf y=some b->Q (κ.blt a b) s->wpAny (model prog w) A (keyLt' k0 x y) Q E s
abbrev gk (κ:KeyKind)(st:Nx)(i:Nat):κ.α:=KK κ (arrOf st) i
theorem A2 {κ:KeyKind}{xs:Array Qv}{n:Nat}(h:KI κ xs n)(hl:κ.kle (KK κ xs (n - 1)) (KK κ xs n)):KI κ xs (n+1):=λi j le lt=>by
 rcases MF j n with z | z
 ·exact h i j le z
 ·obtain rfl:j=n:=by omega
  rcases MF i j with y | y
  ·exact Nb (h i (j - 1) (by omega) (by omega)) hl
  ·rw[show i=j by omega];exact Md _
theorem lD {κ:KeyKind}{xs:Array Qv}{n:Nat}(h:PF κ xs n)(hl:κ.kle (KK κ xs n) (KK κ xs (n - 1))):PF κ xs (n+1):=λi j le lt=>by
 rcases MF j n with z | z
 ·exact h i j le z
 ·obtain rfl:j=n:=by omega
  rcases MF i j with y | y
  ·exact Nb hl (h i (j - 1) (by omega) (by omega))
  ·rw[show i=j by omega];exact Md _
theorem tN {κ:KeyKind}{xs:Array Qv}{n:Nat}(h:n<=1):KI κ xs n:=λi j le lt=>by rw[show i=j by omega];exact Md _
theorem Fk {κ:KeyKind}{xs:Array Qv}{n:Nat}(h:n<=1):PF κ xs n:=λi j le lt=>by rw[show i=j by omega];exact Md _
section
variable {prog:JI}{w:Kn}{A:JZ}{E:Ji->Jk->Prop}{s:Jk}{κ:KeyKind}{k0:Ol}{o:Array Qv}{st:Nx}
theorem CV (b:SrtB k0 o st)(ks:KeysOf κ o){i:Nat}(hi:i<o.size):∃z,(arrOf st)[i]? =some z/\κ.keyOf z.1=some (gk κ st i):=by
 have h1:i<(arrOf st).size:=b.len▸hi;obtain⟨a,ha⟩:=ks _ ((Mr.mp b.p).mem_iff.mp (Array.getElem_mem_toList h1))
 have e:=getElem?_pos (arrOf st) i h1
 refine⟨_,e,?_⟩
 show _=some (KK κ (arrOf st) i)
 unfold KK;rw[e,ha];simp[ha]
theorem rF (c:qS κ k0 prog w A s)(ks:KeysOf κ o)(b:SrtB k0 o st){i j:Nat}{Q:Option Bool->Nx->Prop}(hi:i<o.size)(hj:j<o.size)(q:Q (some (κ.blt (gk κ st i) (gk κ st j))) st) :
  wpS (model prog w) A E s (ltAt' i j) Q st:=by
 obtain⟨⟨x,x2⟩,e1,k1⟩:=CV b ks hi;obtain⟨⟨y,y2⟩,e2,k2⟩:=CV b ks hj;rw[ltAt'_eq];refine Kl (RB ?_)
 dsimp only
 rw[elem'_eq,elem'_eq,e1,e2];refine Kl (K2 (Kl (K2 ?_)))
 rw[lt'_eq];refine Kl (RB ?_)
 rw[b.k];exact Kl (wpS_lift (Mo (c _ x y _ _ _ k1 k2 ⟨rfl,K2 q⟩)))
theorem CU {a m:Nat}{Q:AscSt->Nx->Prop}(c:qS κ k0 prog w A s)(ks:KeysOf κ o)(b:SrtB k0 o st)(hm:m<=o.size)(h1:1<=a)(h2:a<=m)(so:KI κ (arrOf st) a)
  (q:∀n,a<=n->n<=m->KI κ (arrOf st) n->(n≠m->κ.klt (gk κ st n) (gk κ st (n - 1)))->Q (none,n) st):wpS (model prog w) A E s (ascLoop a m) Q st:=by
 unfold ascLoop;refine M9 (I:=λn r st'=>r=(none,n)/\st'=st/\KI κ (arrOf st) n) (λn r st' l1 l2 hI=> ?_) (λr st' hI=> ?_) ⟨rfl,rfl,so⟩
 ·obtain⟨rfl,rfl,sn⟩:=hI
  refine Kl (rF c ks b (Jt l2 hm) (Ly (Qn _ _) (Jt l2 hm)) ?_)
  cases z:κ.blt (gk κ st' n) (gk κ st' (n - 1))with
  | true=>exact K2 (q n l1 (KD l2) sn λ_=>z)
  | false=>exact K2 ⟨rfl,rfl,A2 sn z⟩
 ·obtain⟨rfl,rfl,sn⟩:=hI
  have e:max a m=m:=Nc h2;rw[e]at sn ⊢;exact q m h2 (Jv _) sn λh=>absurd rfl h
theorem pD {i j:Nat}{Q:Unit->Nx->Prop}(b:SrtB k0 o st)(q:∀st',SrtB k0 o st'->arrOf st'=mirror (arrOf st) i j ((j - i) / 2)->Q () st'):wpS (model prog w) A E s (reverseSlice' i j) Q st:=by
 rw[reverseSlice'_eq];exact Qw (q _ (b.arr (mirror_perm _ _ _ _)) rfl)
abbrev AE (κ:KeyKind)(k0:Ol)(o:Array Qv)(m:Nat)(Q:Option Nat->Nx->Prop):Prop:=∀n st',SrtB k0 o st'->1<=n->n<=m->KI κ (arrOf st') n->Q (some n) st'
theorem uW {n m:Nat}{Q:Option Nat->Nx->Prop}(c:qS κ k0 prog w A s)(ks:KeysOf κ o)(b:SrtB k0 o st)(hm:m<=o.size)(h1:1<=n)(h2:n<=m)(dn:PF κ (arrOf st) n)(q:AE κ k0 o m Q) :
  wpS (model prog w) A E s (tail3 n m) Q st:=by
 unfold tail3;refine Kl (pD b λst' b' e=>Kl (CU c ks b' hm h1 h2 (λi j le lt=> ?_) λk l1 l2 so _=>K2 (q k st' b' (by omega) l2 so)))
 have hz:n<=(arrOf st).size:=by rw[b.len];omega
 rw[e,KK_mirror hz,KK_mirror hz,if_pos ⟨KA _,by omega⟩,if_pos ⟨KA _,by omega⟩]
 exact dn _ _ (by omega) (by omega)
theorem p0 {k i:Nat}(g1:k - 1<=i)(g2:i<k):i=k - 1:=Rm (Nd g2) g1
theorem FX {n m:Nat}{Q:DescSt->Nx->Prop}(c:qS κ k0 prog w A s)(ks:KeysOf κ o)(b:SrtB k0 o st)(hm:m<=o.size)(h1:1<=n)(h2:n<=m)(dn:PF κ (arrOf st) n)
  (q:∀k r st',SrtB k0 o st'->n<=k->k<=m->PF κ (arrOf st') k->r+1<=k->(∀i,k - (r+1)<=i->i<k->gk κ st' i=gk κ st' (k - 1))->Q (none,k,r) st'):wpS (model prog w) A E s (descLoop n m) Q st:=by
 unfold descLoop
 refine M9 (I:=λk c st'=> ∃r,c=(none,k,r)/\SrtB k0 o st'/\PF κ (arrOf st') k/\r+1<=k/\∀i,k - (r+1)<=i->i<k->gk κ st' i=gk κ st' (k - 1)) (λk r st' l1 l2 hI=> ?_) (λr st' hI=> ?_)
  ⟨0,rfl,b,dn,h1,λi g1 g2=>by rw[p0 g1 g2]⟩
 ·obtain⟨r,rfl,b',d',hr,eq⟩:=hI
  dsimp only
  have kk:=Jt l2 hm
  have kp:k - 1<o.size:=Ly (Qn _ _) kk
  have hz:k<=(arrOf st').size:=by rw[b'.len];exact KD kk
  refine Kl (rF c ks b' kk kp ?_)
  cases z:κ.blt (gk κ st' k) (gk κ st' (k - 1))with
  | true=>
   have d2:=lD d' (N4 z)
   show wpS _ _ _ _ (if r > 0 then _ else _) _ _
   by_cases hr0:r > 0
   ·rw[if_pos hr0]
    refine Kl (pD b' λst2 b2 e2=>K2 ⟨0,rfl,b2,λi j le lt=> ?_,Ot (KA _),λi g1 g2=>by rw[p0 g1 g2]⟩)
    rw[e2,Lr hz eq,Lr hz eq];exact d2 i j le lt
   ·rw[if_neg hr0]
    exact K2 ⟨0,rfl,b',d2,Ot (KA _),λi g1 g2=>by rw[p0 g1 g2]⟩
  | false=>
   refine Kl (rF c ks b' kp kk ?_)
   cases y:κ.blt (gk κ st' (k - 1)) (gk κ st' k)with
   | true=>exact K2 (q k r st' b' l1 (KD l2) d' hr eq)
   | false=>
    refine K2 ⟨r+1,rfl,b',lD d' y,Ot hr,λi g1 g2=> ?_⟩
    have e:gk κ st' k=gk κ st' (k - 1):=Pw y z;rw[Nat.add_sub_cancel];rcases MF i k with g3 | g3
    ·rw[e];exact eq i (by rw[Nat.add_sub_add_right]at g1;exact g1) g3
    ·rw[Rm (N5 g2) g3]
 ·obtain⟨r,rfl,b',d',hr,eq⟩:=hI
  have e:max n m=m:=Nc h2;rw[e]at d' hr eq ⊢;exact q m r st' b' h2 (Jv _) d' hr eq
theorem uX {n m:Nat}{Q:Option Nat->Nx->Prop}(c:qS κ k0 prog w A s)(ks:KeysOf κ o)(b:SrtB k0 o st)(hm:m<=o.size)(h2:n+1<=m)(dn:PF κ (arrOf st) (n+1))(q:AE κ k0 o m Q) :
  wpS (model prog w) A E s (descPart n m) Q st:=by
 unfold descPart;refine Kl (wpS_lift (LU ⟨rfl,Kl (FX c ks b hm (by omega) h2 dn λk r st' b' l1 l2 d' hr eq=> ?_)⟩))
 dsimp only
 have hz:k<=(arrOf st').size:=by rw[b'.len];omega
 by_cases hr0:r > 0
 ·rw[if_pos hr0]
  refine Kl (pD b' λst2 b2 e2=>uW c ks b2 hm (by omega) l2 (λi j le lt=> ?_) q)
  rw[e2,Lr hz eq,Lr hz eq];exact d' i j le lt
 ·rw[if_neg hr0]
  exact uW c ks b' hm (by omega) l2 d' q
theorem Dr {m:Nat}{Q:Option Nat->Nx->Prop}(c:qS κ k0 prog w A s)(ks:KeysOf κ o)(b:SrtB k0 o st)(hm:m<=o.size)(h1:1<=m)(q:AE κ k0 o m Q):wpS (model prog w) A E s (countRun' 0 m) Q st:=by
 rw[countRun0_eq];refine Kl (CU c ks b hm (Jv 1) h1 (tN (Jv 1)) λn l1 l2 so lt=> ?_)
 dsimp only
 by_cases e:n=m
 ·rw[if_pos (beq_iff_eq.mpr e)]
  exact K2 (q n st b l1 l2 so)
 rw[if_neg (λz=>e (beq_iff_eq.mp z))]
 have fall:=N4 (lt e)
 by_cases g:n > 1
 ·rw[if_pos g]
  refine Kl (rF c ks b (by omega) (by omega) ?_)
  cases z:κ.blt (gk κ st 0) (gk κ st (n - 1))with
  | true=>exact K2 (q n st b l1 l2 so)
  | false=>
   have all:∀k,0<=k->k<n->gk κ st k=gk κ st (n - 1):=λk _ hk=>
    Pw (so k (n - 1) (by omega) (by omega)) (Nb (show κ.kle (gk κ st (n - 1)) (gk κ st 0)from z) (so 0 k (by omega) hk))
   have hz:n<=(arrOf st).size:=by rw[b.len];omega
   refine Kl (pD b λst2 b2 e2=>uX c ks b2 hm (by omega) (lD (λi j le lt=> ?_) ?_) q)
   ·rw[e2,Lr hz all,Lr hz all]
    show κ.kle (gk κ st j) (gk κ st i)
    rw[all i (KA _) (by omega),all j (KA _) (by omega)]
    exact Md _
   ·rw[e2,Lr hz all,Lr hz all]
    exact fall
 ·rw[if_neg g]
  exact uX c ks b hm (by omega) (lD (Fk (by omega)) fall) q
theorem EH {l u:Nat}(h:l<u):l<=(l+u) / 2/\(l+u) / 2<u:=⟨by omega,by omega⟩
theorem EZ {xs:Array Qv}{k l:Nat}(hk:k<xs.size)(lk:l<=k)(so:KI κ xs k)(lo:∀i,i<l->κ.kle (KK κ xs i) (KK κ xs k))(hi:∀i,l<=i->i<k->κ.klt (KK κ xs k) (KK κ xs i)):KI κ (bubble xs k (k - l)) (k+1):=λi j le lt=>by
 rw[KK_bubble hk (Qn _ _),KK_bubble hk (Qn _ _),Nat.sub_sub_self lk]
 have lt:=N5 lt;rcases N6 i l with i1 | i1 | i1
 ·rw[if_neg (JR i1),if_neg λz=>Nat.lt_asymm z.1 i1]
  rcases N6 j l with j1 | j1 | j1
  ·rw[if_neg (JR j1),if_neg λz=>Nat.lt_asymm z.1 j1];exact so _ _ le (Jt j1 lk)
  ·rw[if_pos j1];exact lo i i1
  ·rw[if_neg (Lv j1),if_pos ⟨j1,lt⟩];exact so _ _ (Nd (OI i1 j1)) (Jt (Nf j1) lt)
 ·rw[if_pos i1]
  rcases Nat.lt_or_eq_of_le (i1▸le:l<=j)with j1 | j1
  ·rw[if_neg (Lv j1),if_pos ⟨j1,lt⟩];exact N4 (hi _ (Nd j1) (Jt (Nf j1) lt))
  ·rw[if_pos j1.symm];exact Md _
 ·have j1:=Jt i1 le
  rw[if_neg (Lv i1),if_pos ⟨i1,JQ le lt⟩,if_neg (Lv j1),if_pos ⟨j1,lt⟩];exact so _ _ (Nat.sub_le_sub_right le 1) (Jt (Nf j1) lt)
theorem Dt {n a:Nat}{Q:Bool->Nx->Prop}(c:qS κ k0 prog w A s)(ks:KeysOf κ o)(b:SrtB k0 o st)(h1:1<=n)(hn:n<=o.size)(ha:a<=n)(so:KI κ (arrOf st) a)
  (q:∀st',SrtB k0 o st'->KI κ (arrOf st') n->Q true st'):wpS (model prog w) A E s (binarySort' 0 n a) Q st:=by
 rw[binarySort'_eq];simp only[QF];refine Kl (M9 (I:=λk r st'=>r=(none,())/\SrtB k0 o st'/\KI κ (arrOf st') k) (λk r st1 l1 l2 hI=> ?_) (λr st1 hI=> ?_) ⟨rfl,b,?_⟩)
 ·obtain⟨rfl,b1,so1⟩:=hI
  have hk:k<o.size:=Jt l2 hn
  refine Kl (wpS_mono (M9 (I:=λx r st2=>st2=st1/\∃l u,r=(none,l,u)/\l<=u/\u<=k/\u<=k+l - x/\(∀i,i<l->κ.kle (gk κ st1 i) (gk κ st1 k))/\∀i,u<=i->i<k->κ.klt (gk κ st1 k) (gk κ st1 i))
   (Q:=λr st2=>st2=st1/\∃l u,r=(none,l,u)/\l<=k/\(∀i,i<l->κ.kle (gk κ st1 i) (gk κ st1 k))/\∀i,l<=i->i<k->κ.klt (gk κ st1 k) (gk κ st1 i)) (λx r st2 y1 y2 hJ=> ?stp) (λr st2 hJ=> ?fin) ⟨rfl,0,k,rfl,KA _,Jv _,Jv _,λi hi=>absurd hi (Nat.not_lt_zero _),λi g1 g2=>absurd g2 (Nat.not_lt.mpr g1)⟩) λr st2 hJ=> ?pst)
  case stp=>
   obtain⟨rfl,l,u,rfl,lu,uk,mz,lo,hi⟩:=hJ
   dsimp only
   by_cases g:l ≥ u
   ·rw[if_pos g]
    exact K2 ⟨rfl,l,u,rfl,JQ lu uk,lo,λi g1 g2=>hi i (JQ g g1) g2⟩
   ·rw[if_neg g]
    have hm:=EH (Nat.lt_of_not_le g)
    generalize (l+u) / 2=m at hm ⊢
    have mk:m<k:=Jt hm.2 uk;refine Kl (rF c ks b1 hk (OI mk hk) ?_)
    have am:u<=k+(m+1) - (x+1)/\m<=k+l - (x+1):=by
     clear lo hi so so1 q ks c b b1 hn ha h1
     omega
    cases z:κ.blt (gk κ st2 k) (gk κ st2 m)with
    | true=>exact K2 ⟨rfl,l,m,rfl,hm.1,KD mk,am.2,lo,λi g1 g2=>KeyOrd.klt_of_klt_of_kle z (so1 _ i g1 g2)⟩
    | false=>exact K2 ⟨rfl,m+1,u,rfl,hm.2,uk,am.1,λi g1=>Nb (so1 i m (N5 g1) mk) z,hi⟩
  case fin=>
   obtain⟨rfl,l,u,rfl,lu,uk,mz,lo,hi⟩:=hJ
   have e:u<=l:=by
    clear lo hi so so1 q ks c b b1 hn ha h1
    omega
   exact⟨rfl,l,u,rfl,JQ lu uk,lo,λi g1 g2=>hi i (JQ e g1) g2⟩
  case pst=>
   obtain⟨rfl,l,u,rfl,lk,lo,hi⟩:=hJ
   dsimp only
   rw[moveDown'_eq];exact Kl (Qw (K2 ⟨rfl,b1.arr (bubble_perm _ _ _),EZ (by rw[b1.len];exact hk) lk so1 lo hi⟩))
 ·obtain⟨rfl,b1,so1⟩:=hI
  rw[Nc (Nat.max_le.mpr ⟨ha,h1⟩)]at so1;exact K2 (q st1 b1 so1)
 ·rcases Nat.le_total a 1 with g | g
  ·rw[Nc g];exact tN (Jv 1)
  ·rw[Nat.max_eq_left g];exact so
theorem yn {Q:Unit->Nx->Prop}(c:qS κ k0 prog w A s)(ks:KeysOf κ o)(b:SrtB k0 o st)(h2:2<=o.size)(h64:o.size<64)
  (q:∀st',(arrOf st').Perm o->NQ st'=none->KI κ (arrOf st') o.size->Q () st'):wpS (model prog w) A E s sortRuns' Q st:=by
 rw[sortRuns'_eq];refine Kl (RB ?_)
 dsimp only
 have hmr:minRun' o.size o.size 0=o.size:=by
  cases hz:o.size with
  | zero=>omega
  | succ f=>rw[minRun'_succ,if_pos (by omega)]
 simp only[b.len,hmr]
 refine Kl (wpS_mono (M9 (I:=λx r st1=>(x=0/\r=(none,0)/\SrtB k0 o st1)\/(x≠0/\r=(none,o.size)/\(arrOf st1).Perm o/\NQ st1=none/\(Mw st1).size=1/\KI κ (arrOf st1) o.size))
  (Q:=λr st1=>r=(none,o.size)/\(arrOf st1).Perm o/\NQ st1=none/\(Mw st1).size=1/\KI κ (arrOf st1) o.size) (λx r st1 l1 l2 hI=> ?stp) (λr st1 hI=> ?fin) (.inl ⟨rfl,rfl,b⟩)) λr st1 hI=> ?pst)
 case stp=>
  rcases hI with⟨rfl,rfl,b1⟩ | ⟨_,rfl,hI⟩
  ·dsimp only
   rw[if_neg (by omega)]
   simp only[OL,QD,QF];refine Kl (Dr c ks b1 (Jv _) (by omega) λn st2 b2 n1 n2 so2=> ?_)
   dsimp only
   have fin:∀st3,SrtB k0 o st3->KI κ (arrOf st3) o.size->(arrOf (Qx st3 ((Mw st3).push (0,o.size,0)))).Perm o/\NQ (Qx st3 ((Mw st3).push (0,o.size,0)))=none ∧
     (Mw (Qx st3 ((Mw st3).push (0,o.size,0)))).size=1/\KI κ (arrOf (Qx st3 ((Mw st3).push (0,o.size,0)))) o.size:=λst3 b3 so3=>⟨b3.p,b3.f,by
    show((Mw st3).push _).size=1
    rw[b3.e];rfl,so3⟩
   by_cases g:n<o.size
   ·rw[if_pos g]
    refine Kl (wpS_lift (LU ⟨rfl,Kl (Dt c ks b2 (Mh h2) (Jv _) n2 so2 λst3 b3 so3=> ?_)⟩))
    simp only[Bool.not_true,JY,if_false];refine Kl (RB ?_)
    rw[show(Mw st3).back?=none by rw[b3.e];rfl]
    exact Kl (Qw (K2 (.inr ⟨by omega,rfl,fin st3 b3 so3⟩)))
   ·rw[if_neg g]
    obtain rfl:n=o.size:=by omega
    refine Kl (RB ?_)
    rw[show(Mw st2).back?=none by rw[b2.e];rfl]
    exact Kl (Qw (K2 (.inr ⟨by omega,rfl,fin st2 b2 so2⟩)))
  ·dsimp only
   rw[if_pos (Jv _)];exact K2 ⟨rfl,hI⟩
 case fin=>
  rcases hI with⟨h,_,_⟩ | ⟨_,hI⟩
  ·omega
  ·exact hI
 case pst=>
  obtain⟨rfl,hp,hf,he,hs⟩:=hI
  dsimp only
  refine Kl (wpS_mono (M9 (I:=λ_ r st2=>st2=st1/\r=(none,())) (Q:=λr st2=>st2=st1/\r=(none,())) (λx r st2 _ _ hJ=> ?stp) (λ_ _ h=>h) ⟨rfl,rfl⟩) λr st2 hJ=> ?pst)
  case stp=>
   obtain⟨rfl,rfl⟩:=hJ;refine Kl (RB ?_)
   rw[if_pos (Lj he)];exact K2 ⟨rfl,rfl⟩
  case pst=>
   obtain⟨rfl,rfl⟩:=hJ;exact K2 (q _ hp hf hs)
end
def RowV (h:Heap)(v:Ji)(ns:List Int):Prop:=∃a its,v= .ref a/\h.IsTuple a its/\K7 its.toList ns/\ns≠ []
theorem RowV.inj {h:Heap}{v:Ji}{ns ms:List Int}(r:RowV h v ns)(q:RowV h v ms):ns=ms:=by
 obtain⟨a,its,rfl,⟨o,e,_,n,d⟩,i,_⟩:=r;obtain⟨b,jts,eb,⟨o',e',_,n',d'⟩,j,_⟩:=q;cases eb;rw[e]at e';cases e';rw[d]at d';cases d';rw[<-i.nums,<-j.nums]
open Classical in
def w4 (h:Heap)(v:Ji):Option (List Int):=if e:∃ns,RowV h v ns then some e.choose else none
theorem RowV.key {h:Heap}{v:Ji}{ns:List Int}(r:RowV h v ns):w4 h v=some ns:=by
 unfold w4
 have e:∃ns,RowV h v ns:=⟨ns,r⟩;rw[dif_pos e,e.choose_spec.inj r]
theorem vG {h:Heap}{v:Ji}{ns:List Int}(e:w4 h v=some ns):RowV h v ns:=by
 unfold w4 at e
 split at e
 ·rename_i g
  cases e;exact g.choose_spec
 ·cases e
def qB (h:Heap):Pc:={ α:=List Int,blt:=bR,irrefl:=gf,trans:=iK,negTrans:=my,total:=ii,keyOf:=w4 h,dflt:=[] }
def sS:List Int->List Int->Option Bool
 | a::l,b::m=>if a=b then sS l m else some (decide (a<b))
 | _,_=>none
theorem vt:∀l m,bR l m=(sS l m).getD (decide (l.length<m.length))
 | [],[] =>rfl
 | [],_::_=>rfl
 | _::_,[] =>rfl
 | a::l,b::m=>by
  unfold bR sS
  by_cases e:a=b
  ·rw[if_pos e,if_pos e,vt l m]
   simp
  ·rw[if_neg e,if_neg e];rfl
section
variable {prog:JI}{w:Kn}{A:JZ}{E:Ji->Jk->Prop}{s:Jk}
theorem EI {a b:Int}{t u:Tok}{Q:Bool->Jk->Prop}(h:Q (decide (a<b)) s):∀k,wpAny (model prog w) A (oneLt' k (.int a t) (.int b u)) Q E s
 | true=>oneLt_int h
 | false=>by
  rw[oneLt'_eq];simp only[JY,if_false];exact Je (wpAny_lt_int (show wpAny (model prog w) A (truthOfDropped (.bool (decide (a<b)))) Q E s from Kx h))
theorem zZ {β:Type}(f:(Ji×Ji)×Nat->β->Sem (ForInStep β))(b0:β)(fin:Bool->β)
  (hf:∀(a b:Int) (t u:Tok) (i:Nat) (Q:ForInStep β->Jk->Prop),(a=b->Q (.yield b0) s)->(a≠b->Q (.done (fin (decide (a<b)))) s)->wpAny (model prog w) A (f ((.int a t,.int b u),i) b0) Q E s)
  {us:List Ji} {ns:List Int} (i:K7 us ns):∀{vs:List Ji} {ms:List Int} (k:Nat) {Q:β->Jk->Prop},K7 vs ms->(∀d,sS ns ms=some d->Q (fin d) s)->(sS ns ms=none->Q b0 s)->wpAny (model prog w) A (forIn ((us.zip vs).zipIdx k) b0 f) Q E s:=by
 induction i with
 | nil=>
  intro vs ms k Q _ _ h;rw[Qi,Nt,Lk]
  exact Jl (h (by unfold sS;rfl))
 | cons a t i ih=>
  intro vs ms k Q j g h
  cases j with
  | nil=>
   rw[PP,Nt,Lk]
   exact Jl (h (by unfold sS;rfl))
  | cons b u j=>
   rw[MK,Ou,K5];unfold sS at g h;refine Je (hf a b t u k _ (λe=> ?_) λe=> ?_)
   ·rw[if_pos e]at g h
    exact ih (k+1) j g h
   ·rw[if_neg e]at g
    exact Jl (g _ rfl)
theorem GK (k:Bool)(x y:Ji):keyLt' (tuples' k) x y=(L7 x >>= λxs=>L7 y >>= λys=>(do
  for z in (xs.toList.zip ys.toList).zipIdx do
   if !(<-eqBool z.1.1 z.1.2)then return (<-oneLt' (k&&z.2 == 0) z.1.1 z.1.2)
  return decide (xs.size<ys.size))):=rfl
theorem GJ:qS (qB s.heap) (tuples' true) prog w A s:=by
 intro E x y (a:List Int) (b:List Int) Q hx hy (q:Q (bR a b) s);obtain⟨xa,xs,rfl,⟨xo,e1,_,n1,d1⟩,i1,_⟩:=vG hx;obtain⟨ya,ys,rfl,⟨yo,e2,_,n2,d2⟩,i2,_⟩:=vG hy;rw[GK];refine Je (Na e1 d1 (Je (Na e2 d2 ?_)))
 have q':=q;rw[vt]at q';refine Je (zZ _ _ (λd=>(some d,())) (λa b t u i Q h1 h2=> ?_) i1 0 i2 (λd e=> ?_) λe=> ?_)
 ·refine Je (Ox ?_)
  by_cases z:a=b
  ·rw[beq_iff_eq.mpr z]
   exact Jl (h1 z)
  ·rw[beq_eq_false_iff_ne.mpr z]
   exact Je (EI (Jl (h2 z)) _)
 ·rw[e]at q'
  exact Jl q'
 ·rw[e]at q'
  refine Jl ?_
  rw[<-i1.length,<-i2.length,JU,JU]at q';exact q'
theorem GY (v:Ji):Om v=(typeOf v >>= λt=>if t != .type "tuple" then pure none else L7 v >>= λxs=>pure xs[0]?):=rfl
theorem oY:∀{vs:List Ji} {Q:List (Option Ji)->Jk->Prop},(∀v∈vs,∃ns,RowV s.heap v ns)->(∀us ns,K7 us ns->us.length=vs.length->Q (us.map some) s)->wpAny (model prog w) A (vs.mapM Om) Q E s
 | [],Q,_,q=>by
  rw[List.mapM_nil]
  exact Jl (q [] [] .nil rfl)
 | v::vs,Q,h,q=>by
  rw[List.mapM_cons,GY];obtain⟨ns,a,its,rfl,⟨o,e,hc,n,d⟩,i,ne⟩:=h _ Jj;obtain⟨its⟩:=its;refine Je (Je (LA (T:="tuple") ⟨o,e,hc⟩ ?_))
  rw[if_neg (by decide+kernel)]
  refine Je (Na e d (Jl ?_))
  cases i with
  | nil=>exact absurd rfl ne
  | cons m t i'=>exact Je (oY (λv hv=>h v (Jh _ hv)) λus ns j hl=>Jl (q (.int m t::us) (m::ns) (.cons m t j) (by rw[Jq,Jq,hl])))
theorem GL {vs:List Ji}{Q:Ol->Jk->Prop}(hv:∀v∈vs,∃ns,RowV s.heap v ns)(ne:vs≠ [])(q:Q (tuples' true) s):wpAny (model prog w) A (keyKind' vs.toArray) Q E s:=by
 rw[keyKind'_eq,MY];refine Je ?_
 rw[map_eq_pure_bind];refine Je (oY hv λus ns i hl=>Jl ?_)
 rw[if_pos (by simp)]
 refine Je (LU ?_)
 have ef:(us.map some).toArray.filterMap id=us.toArray:=by simp
 rw[ef,RC,MY,Ra i]
 cases i with
 | nil=>exact absurd (ML.mp hl.symm) ne
 | @cons m t us' ns' i'=>
  simp only[map_pure,pure_bind]
  have hall:((O7 (λ_=>Kf "int") (Kz m t::us')).toArray.all λx=>x == Kf "int")=true:=by
   simp only[Q2,OJ,JL];intro _ _;rfl
  rw[show(O7 (λ_=>Kf "int") (Kz m t::us')).toArray[0]? =some (Kf "int")by simp]
  simp only[hall,if_true,pure_bind];exact Jl q
theorem RowV.on {h h':Heap}{v:Ji}{ns:List Int}(r:RowV h v ns)(k:∀a o,h.get? a=some o->o.cls= .type "tuple"->h'.get? a=some o):RowV h' v ns:=by
 obtain⟨a,its,rfl,⟨o,e,hc,z⟩,i,ne⟩:=r;exact⟨a,its,rfl,⟨o,k a o e hc,hc,z⟩,i,ne⟩
def rk (h:Heap)(v:Ji):List Int:=(w4 h v).getD []
theorem oy {h:Heap}{v:Ji}{ns:List Int}(r:RowV h v ns):rk h v=ns:=by unfold rk;rw[r.key];rfl
theorem Ds {h:Heap}{vs:List Ji}{xs:Array Qv}(hp:xs.Perm (pairsOf vs))(hs:KI (qB h) xs (pairsOf vs).size) :
  (xs.map (·.2)).toList.Perm vs/\((xs.map (·.2)).toList.map (rk h)).Pairwise (λa b=>gx a b=true):=by
 have hl:xs.toList.Perm (vs.zip vs):=by rw[<-NV];exact Mr.mp hp
 have e:(xs.map (·.2)).toList=xs.toList.map (·.1):=by
  rw[Q3];exact Kk λp hp'=>(QP (hl.mem_iff.mp hp')).1.symm
 rw[e];refine⟨?_,?_⟩
 ·have:=hl.map (·.1)
  rwa [Q4 (Jv _)]at this
 ·rw[LG]
  intro i j hi hj hij
  have hi':i<xs.size:=by simpa using hi
  have hj':j<xs.size:=by simpa using hj
  have z:bR (KK (qB h) xs j) (KK (qB h) xs i)=false:=hs i j (KD hij) (by rw[<-hp.size_eq];exact hj')
  have g:∀k (hk:k<xs.size),KK (qB h) xs k=rk h xs[k].1:=λk hk=>by unfold KK;rw[getElem?_pos xs k hk];rfl
  rw[g i hi',g j hj']at z;simp only[Mz,Pf];unfold gx;rw[z];rfl
theorem GF {a:Addr}{vs:List Ji}{n:Nat}{P:Fin->Jk->Prop}(ho:s.heap.get? a=some (seqObj "list" vs.toArray n))(hv:∀v∈vs,∃ns,RowV s.heap v ns)(h64:vs.length<64)
  (q:∀out:Array Ji,out.toList.Perm vs->(out.toList.map (rk s.heap)).Pairwise (λa b=>gx a b=true)->P (.done (.ret .none)) { s with heap:=Mp s.heap a vs out }) :
  wpAny (model prog w) A (Builtin.«list.sort» ⟨[.ref a],[]⟩) P E s:=by
 rw[RD]
 have ha:=Jr ho;refine Je (Na ho rfl (Je (MQ ho rfl ?_)))
 have ho1:=RE ho (λ_=> #[])
 generalize hm:(if (#[]:Array Ji).size == vs.toArray.size then n else n+1)=m at ho1
 refine Je (NC ho1 rfl (Je (Mx (Je (On (J3 ?_))))))
 generalize hh:((s.heap.update a (KR λ_=> #[])).push (seqObj "tuple" vs.toArray 0)).push (seqObj "list" #[] 0)=h6
 have old:∀b,b<s.heap.objs.size->h6.get? b=(s.heap.update a (KR λ_=> #[])).get? b:=λb hb=>by
  rw[<-hh,LQ _ _ _ (by rw[size_push',Lh];exact JR (KU hb)),LQ _ _ _ (by rw[Lh];exact JR hb)]
 have ho6:h6.get? a=some (seqObj "list" #[] m):=(old a ha).trans ho1
 have hrow:∀v ns,RowV s.heap v ns->RowV h6 v ns:=λv ns r=>r.on λb o e hc=>by
  rw[old b (Jr e),Nu _ _ _ _ λz=>by subst z;rw[ho]at e;cases e;exact absurd (show Kf "list" =Kf "tuple" from hc) (by decide+kernel)]
  exact e
 have hv6:∀v∈vs,∃ns,RowV h6 v ns:=λv hm=>let ⟨ns,r⟩:=hv v hm;⟨ns,hrow v ns r⟩
 have hrk:∀v∈vs,rk h6 v=rk s.heap v:=λv hm=>by
  obtain⟨ns,r⟩:=hv v hm;rw[oy r,oy (hrow v ns r)]
 have fin:∀xs:Array Qv,xs.Perm (pairsOf vs)->KI (qB h6) xs (pairsOf vs).size->(xs.map (·.2)).size<=sizeLine+1/\P (.done (.ret .none)) { s with heap:=h6.update a (KR λ_=>xs.map (·.2)) }:=λxs hp hs=>by
  obtain⟨g1,g2⟩:=Ds hp hs;refine⟨?_,?_⟩
  ·have:=g1.length_eq
   rw[JU]at this;rw[this,KW];omega
  ·rw[Kk λv hm=>hrk v (g1.mem_iff.mp hm)]at g2
   have:=q _ g1 g2;unfold Mp at this;rw[hh]at this;exact this
 show wpAny (model prog w) A _ P E { s with heap:=h6 }
 dsimp only
 by_cases h2:vs.toArray.size<2
 ·rw[if_pos h2,if_pos h2]
  obtain⟨f1,f2⟩:=fin (pairsOf vs) (OH _) (tN (by rw[QQ];rw[Jw]at h2;omega))
  refine Je (Jl ?_)
  rw[Rn];refine Je (Jl ?_)
  dsimp only
  refine Je (NC ho6 rfl (Je (MQ ho6 rfl ?_ (hsz2:=f1))))
  simp only[bne_self_eq_false,JY,if_false];exact Jl f2
 ·rw[if_neg h2,if_neg h2]
  rw[Jw]at h2;refine Je (GL hv6 (λz=>by subst z;exact h2 (by decide)) ?_)
  have ks:Pq (qB h6) (pairsOf vs):=λp hp=>by
   rw[NV]at hp;obtain⟨ns,r⟩:=hv6 p.1 (QP hp).2;exact⟨ns,r.key⟩
  refine Je (Lb (yn (κ:=qB h6) (k0:=tuples' true) (o:=pairsOf vs) (st:=SortSt.mk' (tuples' true) (vs.toArray.zip vs.toArray) #[] 7 none)
   (Q:=λ_ st'=>(arrOf st').Perm (pairsOf vs)/\NQ st'=none/\KI (qB h6) (arrOf st') (pairsOf vs).size) (GJ (s:={ s with heap:=h6 })) ks ⟨OH _,rfl,rfl,rfl⟩
   (by rw[QQ];omega) (by rw[QQ];exact h64) λst' a1 a2 a3=>⟨a1,a2,a3⟩) ?_ λ_ _ e=>e)
  rintro ⟨⟨⟩,st'⟩ s' ⟨rfl,hp,hf,hs⟩
  obtain⟨f1,f2⟩:=fin _ hp hs
  dsimp only
  refine Je (NC ho6 rfl (Je (MQ ho6 rfl ?_ (hsz2:=f1))))
  rw[hf];simp only[bne_self_eq_false,JY,if_false];exact Jl f2
theorem wy {l:Addr}{vs:List Ji}{Q:Ji->Jk->Prop}(hl:s.heap.IsList l vs.toArray)(hv:∀v∈vs,∃ns,RowV s.heap v ns)(h64:vs.length<64)
  (q:∀out:Array Ji,out.toList.Perm vs->(out.toList.map (rk s.heap)).Pairwise (λa b=>gx a b=true)->Q (.ref (s.heap.objs.size+1)) { s with heap:=sortedAll s.heap vs out }) :
  wpAny (model prog w) A (call (.builtin "sorted") [.ref l]) Q E s:=by
 refine NS kind_sorted plain_sorted entry_sorted (args_sorted1 _) ?_
 unfold Builtin.«sorted»;refine Je (m:=checkCount "sorted" 1 1 _) (Jl (Je (collect_list hl (Je (On ?_)) (by rw[KW];omega))))
 generalize hh:(s.heap.push (seqObj "list" #[] 0)).update s.heap.objs.size (KR (· ++vs.toArray))=h1
 have hz:h1.objs.size=s.heap.objs.size+1:=by rw[<-hh,Lh,size_push']
 have keep:∀b o,s.heap.get? b=some o->(h1.push (seqObj "list" vs.toArray 0)).get? b=some o:=λb o e=>by
  have hb:=Jr e
  have nb:b≠s.heap.objs.size:=JR hb;rw[LQ _ _ _ (by rw[hz];exact JR (KU hb)),<-hh,Nu _ _ _ _ nb,LQ _ _ _ nb]
  exact e
 have hoL:(h1.push (seqObj "list" vs.toArray 0)).get? (s.heap.objs.size+1)=some (seqObj "list" vs.toArray 0):=by rw[<-hz];exact Js _ rfl
 have hrow:∀v ns,RowV s.heap v ns->RowV (h1.push (seqObj "list" vs.toArray 0)) v ns:=λv ns r=>r.on λb o e _=>keep b o e
 show wpAny (model prog w) _ _ _ _ { s with heap:=h1.push (seqObj "list" vs.toArray 0) }
 dsimp only
 rw[hz];refine Je (J3 (J9 slot_list_sort ⟨_,hoL,rfl⟩ RF (GF (s:={ s with heap:=h1.push (seqObj "list" vs.toArray 0) }) hoL (λv hm=>let ⟨ns,r⟩:=hv v hm;⟨ns,hrow v ns r⟩) h64 λout g1 g2=>⟨_,rfl,?_⟩) (args_list_sort _)))
 refine Jl ⟨_,rfl,?_⟩
 rw[Kk λv hm=>show _=rk s.heap v by obtain⟨ns,r⟩:=hv v (g1.mem_iff.mp hm);rw[oy r,oy (hrow v ns r)]]at g2
 have:=q out g1 g2;unfold sortedAll at this;rw[hh]at this;exact this
end
def mX:Ji->V
 | .ref a=> .ref a
 | _=> .non
section
variable {X:Cx}
theorem iG:∀{m:List T} {ns:List Int},dR m=some ns->m=ns.map .int
 | [],ns,h=>by cases h;rfl
 | t::m,ns,h=>by
  cases t with
  | int i=>
   unfold dR at h;obtain⟨k,h1,rfl⟩:=KF.mp h
   rw[iG h1];rfl
  | _=>cases h
theorem uZ {pins:List (Addr×Obj)}{σ:L2.St}{H:Hp}{s:Jk}{O:Ow}(I:Inv X pins σ H s):∀{l:List T} {k:List (List Int)} {vs:List V} {us:List Ji},rowsT l=some k->Reps X.K O H l vs->Vals vs us →
  us.map (rk s.heap)=k/\∀u∈us,RowV s.heap u (rk s.heap u)/\RelV (mX u) u/\Rep X.K O H (.tup ((rk s.heap u).map .int)) (mX u)
 | [],k,vs,us,h,r,v=>by
  cases Reps.Hy.mp r;cases v;cases h
  exact⟨rfl,λu hu=>by cases hu⟩
 | t::l,k,vs,us,h,r,v=>by
  obtain⟨x,xs,rfl,p,q⟩:=Reps.me.mp r
  cases v with
  | @cons _ u _ us' v1 v2=>
   cases t with
   | tup m=>
    unfold rowsT at h
    split at h
    ·rename_i ns k' h1 h2
     by_cases ne:ns= []
     ·rw[if_pos ne]at h;cases h
     ·rw[if_neg ne]at h;cases h
      obtain⟨e1,e2⟩:=uZ I h2 q v2;obtain⟨a,ws,rfl,_,g3,g4⟩:=Rep.HB.mp p;obtain rfl:u=Jz a:=v1;obtain⟨its,w1,t1,_⟩:=I.tuple (SqT.of g3)
      have hi:=dW h1 g4 w1;obtain⟨o,ho,hc,n,hd⟩:=t1
      have row:RowV s.heap (.ref a) ns:=⟨a,_,rfl,⟨o,ho,hc,n,hd⟩,by simpa using hi,ne⟩
      have em:m=ns.map .int:=iG h1;subst em;refine⟨by rw[Jn,e1,oy row],λu hu=> ?_⟩
      rcases Jp.mp hu with rfl | hu
      ·rw[oy row];exact⟨row,rfl,p⟩
      ·exact e2 u hu
    ·cases h
   | _=>cases h
theorem oh {K:Jg}{O:Ow}{H:Hp}{h:Heap}:∀{us:List Ji},(∀u∈us,RelV (mX u) u/\Rep K O H (.tup ((rk h u).map .int)) (mX u))->Vals (us.map mX) us/\Reps K O H (us.map λu=> .tup ((rk h u).map .int)) (us.map mX)
 | [],_=>⟨.nil,Reps.HI⟩
 | u::us,hu=>by
  obtain⟨h1,h2⟩:=hu u Jj;obtain⟨g1,g2⟩:=oh λv hv=>hu v (Jh _ hv)
  exact⟨.cons h1 g1,Reps.me.mpr ⟨_,_,rfl,h2,g2⟩⟩
theorem xz:CallT X (.builtin "sorted") oq:=by
 intro pins s σ H O ts vs us Q I hf rs rv hp;unfold oq at hp
 split at hp
 ·rename_i l
  obtain⟨v,rfl,r⟩:=rs.one
  split at hp
  ·rename_i k hk
   by_cases h64:k.length<64
   ·rw[if_pos h64]at hp
    obtain⟨a,ws,rfl,n,q,z⟩:=Rep.HA.mp r;obtain⟨u,rfl,ru⟩:=gX rv;obtain rfl:u=Jz a:=ru;obtain⟨its,r',pl,hz⟩:=I.list (SqL.of q);obtain⟨e1,e2⟩:=uZ I hk z r';refine wy pl.isList (λv hv=>⟨_,(e2 v hv).1⟩) (by rw[<-Jm (rk s.heap),e1];exact h64) λout g1 g2=> ?_
    have g3:=jJ (e1▸g1.map (rk s.heap)) g2;obtain⟨k1,k2⟩:=oh (us:=out.toList) (K:=X.K) (O:=O) (H:=H) (h:=s.heap) λu hu=>(e2 u (g1.mem_iff.mp hu)).2
    obtain⟨e,he⟩:=sortedAll_at s.heap its out
    have hfr:H (s.heap.objs.size+1)=none:=I.hok.fresh (Nat.le_succ _);refine⟨.ref (s.heap.objs.size+1),_,I.laid (t':=s.toks) (λ_ _=>sortedAll_old) (Nat.le_succ _) (show ObjOk X.prog X.w _ _ _ (.lst (out.toList.map mX))from⟨?_,out.toList,e,k1,he⟩),rfl,hp _ (aN hfr _) _ ?_⟩
    ·rw[Jm,g1.length_eq,<-Jm (rk s.heap),e1,KW];omega
    ·have:=hV (p:=s.heap.objs.size+1) hfr (hf _ hfr) k2
     rw[<-g3,KJ];exact this
   ·rw[if_neg h64]at hp;exact hp.elim
  ·exact hp.elim
 ·exact hp.elim
end
structure RK where
 V:Heap->Ji->List Int->Prop
 inj:∀{h v a b},V h v a->V h v b->a=b
 on:∀{h h':Heap} {v a},V h v a->(∀b o,h.get? b=some o->h'.get? b=some o)->V h' v a
 fst:∀{h v a},V h v a->∃ad xs n o m t,v= .ref ad/\h.get? ad=some o/\o.cls= .type "tuple"/\o.data= .seq xs n/\xs[0]? =some (.int m t)
 lt:∀{prog w A s E x y a b} {Q:Bool->Jk->Prop},A.units+60<cLine->V s.heap x a->V s.heap y b->Q (bR a b) s->wpAny (model prog w) A (keyLt' (tuples' true) x y) Q E s
variable (R:RK)
open Classical in
def RK.key (h:Heap)(v:Ji):Option (List Int):=if e:∃ns,R.V h v ns then some e.choose else none
variable {R:RK}
theorem RK.key_of {h:Heap}{v:Ji}{ns:List Int}(r:R.V h v ns):R.key h v=some ns:=by
 unfold RK.key
 have e:∃ns,R.V h v ns:=⟨ns,r⟩;rw[dif_pos e,R.inj e.choose_spec r]
theorem RK.Im {h:Heap}{v:Ji}{ns:List Int}(e:R.key h v=some ns):R.V h v ns:=by
 unfold RK.key at e
 split at e
 ·rename_i g
  cases e;exact g.choose_spec
 ·cases e
def RK.kind (R:RK)(h:Heap):Pc:={ α:=List Int,blt:=bR,irrefl:=gf,trans:=iK,negTrans:=my,total:=ii,keyOf:=R.key h,dflt:=[] }
def RK.row (R:RK)(h:Heap)(v:Ji):List Int:=(R.key h v).getD []
theorem RK.HX {h:Heap}{v:Ji}{ns:List Int}(r:R.V h v ns):R.row h v=ns:=by unfold RK.row;rw[RK.key_of r];rfl
section
variable {prog:JI}{w:Kn}{A:JZ}{E:Ji->Jk->Prop}{s:Jk}
theorem E9 (v:Ji):Om v=(typeOf v >>= λt=>if t != .type "tuple" then pure none else L7 v >>= λxs=>pure xs[0]?):=rfl
theorem vU:∀{vs:List Ji} {Q:List (Option Ji)->Jk->Prop},(∀v∈vs,∃ns,R.V s.heap v ns)->(∀us ns,K7 us ns->us.length=vs.length->Q (us.map some) s)->wpAny (model prog w) A (vs.mapM Om) Q E s
 | [],Q,_,q=>by
  rw[List.mapM_nil]
  exact Jl (q [] [] .nil rfl)
 | v::vs,Q,h,q=>by
  rw[List.mapM_cons,E9];obtain⟨ns,r⟩:=h _ Jj;obtain⟨a,its,n,o,m,t,rfl,e,hc,d,e0⟩:=R.fst r;refine Je (Je (LA (T:="tuple") ⟨o,e,hc⟩ ?_))
  rw[if_neg (by decide+kernel)]
  refine Je (Na e d (Jl ?_))
  rw[e0];exact Je (vU (λv hv=>h v (Jh _ hv)) λus ns j hl=>Jl (q (.int m t::us) (m::ns) (.cons m t j) (by rw[Jq,Jq,hl])))
theorem kk3 {vs:List Ji}{Q:Ol->Jk->Prop}(hv:∀v∈vs,∃ns,R.V s.heap v ns)(ne:vs≠ [])(q:Q (tuples' true) s):wpAny (model prog w) A (keyKind' vs.toArray) Q E s:=by
 rw[keyKind'_eq,MY];refine Je ?_
 rw[map_eq_pure_bind];refine Je (vU hv λus ns i hl=>Jl ?_)
 rw[if_pos (by simp)]
 refine Je (LU ?_)
 have ef:(us.map some).toArray.filterMap id=us.toArray:=by simp
 rw[ef,RC,MY,Ra i]
 cases i with
 | nil=>exact absurd (ML.mp hl.symm) ne
 | @cons m t us' ns' i'=>
  simp only[map_pure,pure_bind]
  have hall:((O7 (λ_=>Kf "int") (Kz m t::us')).toArray.all λx=>x == Kf "int")=true:=by
   simp only[Q2,OJ,JL];intro _ _;rfl
  rw[show(O7 (λ_=>Kf "int") (Kz m t::us')).toArray[0]? =some (Kf "int")by simp]
  simp only[hall,if_true,pure_bind];exact Jl q
theorem out3 {h:Heap}{o xs:Array Qv}(hp:xs.Perm o)(hs:KI (R.kind h) xs o.size):xs.toList.Perm o.toList/\(xs.toList.map λp=>R.row h p.1).Pairwise (λa b=>gx a b=true):=by
 refine⟨Mr.mp hp,?_⟩
 rw[LG];intro i j hi hj hij
 have hi':i<xs.size:=by simpa using hi
 have hj':j<xs.size:=by simpa using hj
 have z:bR (KK (R.kind h) xs j) (KK (R.kind h) xs i)=false:=hs i j (KD hij) (by rw[<-hp.size_eq];exact hj')
 have g:∀k (hk:k<xs.size),KK (R.kind h) xs k=R.row h xs[k].1:=λk hk=>by unfold KK;rw[getElem?_pos xs k hk];rfl
 rw[g i hi',g j hj']at z;simp only[Mz,Pf];unfold gx;rw[z];rfl
theorem run3 {ks vs:List Ji}{Q:Nx->Jk->Prop}(hu:A.units+60<cLine)(hl:ks.length=vs.length)(hk:∀v∈ks,∃ns,R.V s.heap v ns)(h2:2<=vs.length)(h64:vs.length<64)
  (q:∀st',NQ st'=none->(arrOf st').toList.Perm (ks.zip vs)->((arrOf st').toList.map λp=>R.row s.heap p.1).Pairwise (λa b=>gx a b=true)->Q st' s) :
  wpAny (model prog w) A ((sortRuns').run (SortSt.mk' (tuples' true) (ks.toArray.zip vs.toArray) #[] 7 none)) (λr s'=>Q r.2 s') E s:=by
 have hz:(ks.toArray.zip vs.toArray).size=vs.length:=by simp[hl]
 have hz2:(ks.toArray.zip vs.toArray).toList=ks.zip vs:=by simp
 have kso:Pq (R.kind s.heap) (ks.toArray.zip vs.toArray):=λp hp=>by
  rw[hz2]at hp;obtain⟨ns,r⟩:=hk p.1 (MI hp).1;exact⟨ns,RK.key_of r⟩
 refine Lb (yn (κ:=R.kind s.heap) (k0:=tuples' true) (o:=ks.toArray.zip vs.toArray) (st:=SortSt.mk' (tuples' true) (ks.toArray.zip vs.toArray) #[] 7 none)
  (Q:=λ_ st'=>(arrOf st').Perm (ks.toArray.zip vs.toArray)/\NQ st'=none/\KI (R.kind s.heap) (arrOf st') (ks.toArray.zip vs.toArray).size) (λE x y a b Q hx hy q=>R.lt hu (RK.Im hx) (RK.Im hy) q) kso ⟨OH _,rfl,rfl,rfl⟩
  (by rw[hz];omega) (by rw[hz];exact h64) λst' a1 a2 a3=>⟨a1,a2,a3⟩) ?_ λ_ _ e=>e
 rintro ⟨⟨⟩,st'⟩ s' ⟨rfl,hp,hf,hs⟩
 obtain⟨g1,g2⟩:=out3 hp hs;exact q st' hf (by rw[<-hz2];exact g1) g2
theorem ls3 {a:Addr}{vs:List Ji}{n:Nat}{h0:Heap}{P:Fin->Jk->Prop}(hu:A.units+60<cLine)(ho:s.heap.get? a=some (seqObj "list" vs.toArray n))(ext:∀b o,h0.get? b=some o->b≠a/\s.heap.get? b=some o)(hv:∀v∈vs,∃ns,R.V h0 v ns)(h64:vs.length<64)
  (q:∀out:Array Ji,out.toList.Perm vs->(out.toList.map (R.row h0)).Pairwise (λa b=>gx a b=true)->P (.done (.ret .none)) { s with heap:=Mp s.heap a vs out }) :
  wpAny (model prog w) A (Builtin.«list.sort» ⟨[.ref a],[]⟩) P E s:=by
 rw[RD]
 have ha:=Jr ho;refine Je (Na ho rfl (Je (MQ ho rfl ?_)))
 have ho1:=RE ho (λ_=> #[])
 generalize hm:(if (#[]:Array Ji).size == vs.toArray.size then n else n+1)=m at ho1
 refine Je (NC ho1 rfl (Je (Mx (Je (On (J3 ?_))))))
 generalize hh:((s.heap.update a (KR λ_=> #[])).push (seqObj "tuple" vs.toArray 0)).push (seqObj "list" #[] 0)=h6
 have old:∀b,b<s.heap.objs.size->h6.get? b=(s.heap.update a (KR λ_=> #[])).get? b:=λb hb=>by
  rw[<-hh,LQ _ _ _ (by rw[size_push',Lh];exact JR (KU hb)),LQ _ _ _ (by rw[Lh];exact JR hb)]
 have ho6:h6.get? a=some (seqObj "list" #[] m):=(old a ha).trans ho1
 have hrow:∀v ns,R.V h0 v ns->R.V h6 v ns:=λv ns r=>R.on r λb o e=>by
  obtain⟨nb,e'⟩:=ext b o e;rw[old b (Jr e'),Nu _ _ _ _ nb]
  exact e'
 have hv6:∀v∈vs,∃ns,R.V h6 v ns:=λv hm=>let ⟨ns,r⟩:=hv v hm;⟨ns,hrow v ns r⟩
 have hrk:∀v∈vs,R.row h6 v=R.row h0 v:=λv hm=>by
  obtain⟨ns,r⟩:=hv v hm;rw[RK.HX r,RK.HX (hrow v ns r)]
 have fin:∀xs:Array Qv,xs.toList.Perm (vs.zip vs)->(xs.toList.map λp=>R.row h6 p.1).Pairwise (λa b=>gx a b=true)->(xs.map (·.2)).size<=sizeLine+1/\P (.done (.ret .none)) { s with heap:=h6.update a (KR λ_=>xs.map (·.2)) }:=λxs hp hs=>by
  have e:(xs.map (·.2)).toList=xs.toList.map (·.1):=by
   rw[Q3];exact Kk λp hp'=>(QP (hp.mem_iff.mp hp')).1.symm
  have g1:(xs.map (·.2)).toList.Perm vs:=by
   rw[e]
   have:=hp.map (·.1)
   rwa [Q4 (Jv _)]at this
  refine⟨?_,?_⟩
  ·have:=g1.length_eq
   rw[JU]at this;rw[this,KW];omega
  ·have g2:((xs.map (·.2)).toList.map (R.row h0)).Pairwise (λa b=>gx a b=true):=by
    rw[Kk λv hm=>(hrk v (g1.mem_iff.mp hm)).symm,e,KJ]
    exact hs
   have:=q _ g1 g2;unfold Mp at this;rw[hh]at this;exact this
 show wpAny (model prog w) A _ P E { s with heap:=h6 }
 dsimp only
 by_cases h2:vs.toArray.size<2
 ·rw[if_pos h2,if_pos h2]
  obtain⟨f1,f2⟩:=fin (pairsOf vs) (by rw[NV]) (by
   have:(pairsOf vs).toList.length<=1:=by rw[NV,List.length_zip,QD];rw[Jw]at h2;omega
   generalize (pairsOf vs).toList=l at this
   match l,this with
   | [],_=>exact MV
   | [x],_=>exact Oe _ _)
  refine Je (Jl ?_)
  rw[Rn];refine Je (Jl ?_)
  dsimp only
  refine Je (NC ho6 rfl (Je (MQ ho6 rfl ?_ (hsz2:=f1))))
  simp only[bne_self_eq_false,JY,if_false];exact Jl f2
 ·rw[if_neg h2,if_neg h2]
  rw[Jw]at h2;refine Je (kk3 (R:=R) hv6 (λz=>by subst z;exact h2 (by decide)) ?_)
  refine Je (Lb (run3 (R:=R) (s:={ s with heap:=h6 }) (Q:=λst' s'=>s'= { s with heap:=h6 }/\NQ st'=none/\(arrOf st').toList.Perm (vs.zip vs)/\((arrOf st').toList.map λp=>R.row h6 p.1).Pairwise (λa b=>gx a b=true)) hu rfl hv6 (by omega) h64 λst' hf hp hs=>⟨rfl,hf,hp,hs⟩) (λr s' ⟨es,hf,hp,hs⟩=> ?_) λ_ _ e=>e)
  subst es;obtain⟨f1,f2⟩:=fin _ hp hs;refine Je (NC ho6 rfl (Je (MQ ho6 rfl ?_ (hsz2:=f1))))
  rw[hf];simp only[bne_self_eq_false,JY,if_false];exact Jl f2
theorem A9 {I:Addr}{Q:Ji->Jk->Prop}(hu:A.units+65<cLine)(hc:∀A':JZ,A'.handled=A.handled->wpAny (model prog w) A' (collect (.ref I)) (λvs s1=>(∀v∈vs,∃ns,R.V s1.heap v ns)/\vs.length<64 ∧
   ∀out:Array Ji,out.toList.Perm vs->(out.toList.map (R.row s1.heap)).Pairwise (λa b=>gx a b=true)->Q (.ref s1.heap.objs.size) { s1 with heap:=Mp (s1.heap.push (seqObj "list" vs.toArray 0)) s1.heap.objs.size vs out }) E s) :
  wpAny (model prog w) A (call (.builtin "sorted") [.ref I]) Q E s:=by
 refine NS kind_sorted plain_sorted entry_sorted (args_sorted1 _) ?_
 unfold Builtin.«sorted»;refine Je (m:=checkCount "sorted" 1 1 _) (Jl (Je (Lb (hc _ ?_) (λvs s1 ⟨hv,h64,q⟩=>Je (On ?_)) λ_ _ e=>e)))
 ·rfl
 have hoL:(s1.heap.push (seqObj "list" vs.toArray 0)).get? s1.heap.objs.size=some (seqObj "list" vs.toArray 0):=Js _ rfl
 show wpAny (model prog w) _ _ _ _ { s1 with heap:=s1.heap.push (seqObj "list" vs.toArray 0) }
 refine Je (J3 (J9 slot_list_sort ⟨_,hoL,rfl⟩ RF (ls3 (R:=R) (h0:=s1.heap) (s:={ s1 with heap:=s1.heap.push (seqObj "list" vs.toArray 0) }) ?_ hoL (λb o e=>⟨JR (Jr e),Jf _ e⟩) hv h64 λout g1 g2=>⟨_,rfl,?_⟩) (args_list_sort _)))
 ·show A.units+1+1+60<cLine
  omega
 exact Jl ⟨_,rfl,q out g1 g2⟩
end
end Tr
namespace Tr
def G4:List T->Rs T
 | [.lst l,.tup m] =>if kU l=true/\l.length=m.length/\1<=l.length/\l.length<=1000 then .ok (.dct (fD (l.zip m) ([],[])).1 (fD (l.zip m) ([],[])).2)else .bad
 | _=> .bad
end Tr
namespace PySem
open Sem (wp)
namespace F
theorem zk_keys:LS (.type "zip") "keys" =pure none:=by rw[Mf,K8];kernel_rfl
theorem zk_ga:LS (.type "zip") "__getattr__" =pure none:=by rw[Mf,K8];kernel_rfl
theorem zk_entry:entryFor table "zip.__getattribute__" =some Builtin.«object.__getattribute__»:=
 entryFor_alias (id':="object.__getattribute__") (by kernel_rfl) (by first | rfl | decide+kernel | (unfold String.splitOn;simp+decide [String.splitOnAux])) (by decide+kernel) (by kernel_rfl)
end F
abbrev zO (h:Heap)(z ti to:Addr)(f0 f1:Ji):Prop:=h.get? z=some { cls:=.type "zip",dict:=none,data:=.fields #[f0,f1,.bool false,.ref ti,.ref to],slots:=#[] }
section
variable {prog:JI}{w:Kn}{A:JZ}{E:Ji->Jk->Prop}{h:Heap}{g:Array GenState}{d:Drawn}{t:Nat}{os:OsState}{z ti to:Addr}{f0 f1:Ji}
theorem zk1 {tk:Tok}{Q:Fin->Jk->Prop}(hx:zO h z ti to f0 f1)(hh:A.handled=none)(hq:∀h' tk' e,Nr h h' e (.ref z) "keys"->E (.ref e) ⟨h',g,d,tk',os⟩) :
  wpAny (model prog w) A (Builtin.«object.__getattribute__» ⟨[.ref z,.str "keys" tk],[]⟩) Q E ⟨h,g,d,t,os⟩:=by
 have hT:(⟨h,g,d,t,os⟩:Jk).TypeIs (.ref z) "zip":=⟨_,hx,rfl⟩
 have f4:=F.zk_keys
 repeat (any_goals (first | assumption | wp_step))
 exact Pk hh (λh' tk e hx=>hq h' tk e hx) (attrMsg_fits (by decide+kernel) (by rw[KW];decide))
theorem zk2 {tk:Tok}{R:Rv->Jk->Prop}(hx:zO h z ti to f0 f1)(hh:A.handled=none)(hq:∀h' tk' e,Nr h h' e (.ref z) "keys"->R (.error (.ref e)) ⟨h',g,d,tk',os⟩) :
  codeAny (model prog w) A (.call (.builtin "zip.__getattribute__") ⟨[.ref z,.str "keys" tk],[]⟩) R ⟨h,g,d,t,os⟩:=
 Pl L0.plain F.zk_entry (L0.check _ _ _ _ _ _ _ _ (show(⟨h,g,d,t,os⟩:Jk).TypeIs (.ref z) "zip" from⟨_,hx,rfl⟩) (F.args_zip_getattribute_2 _ _) (zk1 hx hh hq))
theorem zk3 {Q:Option Ji->Jk->Prop}(hx:zO h z ti to f0 f1)(hh:A.handled=none)(hq:∀h' tk',(∀b o,h.get? b=some o->h'.get? b=some o)->Q none ⟨h',g,d,tk',os⟩):wpAny (model prog w) A (getAttr? (.ref z) "keys") Q E ⟨h,g,d,t,os⟩:=by
 have hT:∀tk,(⟨h,g,d,tk,os⟩:Jk).TypeIs (.ref z) "zip":=λ_=>⟨_,hx,rfl⟩
 have f1:=Qb
 have f2:=L0.lookup
 have f3:=L0.bind (.ref z)
 have f5:=F.zk_ga;unfold getAttr? getAttrBy? getAttrBy
 repeat (any_goals (first | assumption | exact hT _ | wp_step))
 refine zk2 hx hh λh' tk' e hx'=> ?_
 obtain⟨t',u',he⟩:=hx'.there
 repeat (any_goals (first | assumption | exact hT _ | wp_step))
 exact hq _ _ hx'.keeps
end
structure Zp (h:Heap)(n l1 t2 k:Nat)(xs ys:Array Ji):Prop where
 b1:l1<n
 b2:t2<n
 pr:Ls h (n+2) (.ref n) (.ref (n+1))
 i1:h.IsListIter n l1 k
 i2:h.IsTupleIter (n+1) t2 k
 s1:h.IsList l1 xs
 s2:h.IsTuple t2 ys
theorem fO {h h':Heap}{a:Addr}{xs:Array Ji}(x:h.IsTuple a xs)(e:∀o,h.get? a=some o->h'.get? a=some o):h'.IsTuple a xs:=let ⟨o,ho,r⟩:=x;⟨o,e _ ho,r⟩
theorem Zp.keep {h h':Heap}{n l1 t2 k:Nat}{xs ys:Array Ji}(q:Zp h n l1 t2 k xs ys)(e:∀c o,c<n+3->h.get? c=some o->h'.get? c=some o):Zp h' n l1 t2 k xs ys where
 b1:=q.b1
 b2:=q.b2
 pr:=e _ _ (by omega) q.pr
 i1:=q.i1.at λo=>e _ o (by omega)
 i2:=q.i2.at λo=>e _ o (by omega)
 s1:=q.s1.at λo=>e _ o (by have:=q.b1;omega)
 s2:=fO q.s2 λo=>e _ o (by have:=q.b2;omega)
section
variable {prog:JI}{w:Kn}{A:JZ}{E:Ji->Jk->Prop}{s:Jk}{n l1 t2 k:Nat}{xs ys:Array Ji}{x y:Ji}
theorem rj {a:Addr}{Q:Option Obj->Jk->Prop}(q:Q (s.heap.get? a) s):wpAny (model prog w) A (loadIfAlive a) Q E s:=λΓ p _=>by
 show Sem.wp _ _ (Sem.loadIfAlive a pure) _ _ _ _
 rw[Sem.wp_loadIfAlive];exact q
end
section
variable {prog:JI}{w:Kn}{A:JZ}{E:Ji->Jk->Prop}{s:Jk}{n l1 t2 k:Nat}{xs ys:Array Ji}{x y:Ji}
theorem bv {a b:Nat}(h:a<b\/b<a):a≠b:=by omega
theorem Zp.one {h h':Heap}(q:Zp h n l1 t2 k xs ys)(i:h'.IsListIter n l1 (k+1))(e:MD n h h'):h'.IsTupleIter (n+1) t2 k/\h'.IsList l1 xs/\h'.IsTuple t2 ys/\Ls h' (n+2) (.ref n) (.ref (n+1)):=by
 have b1:=q.b1
 have b2:=q.b2;exact⟨q.i2.at λo g=>e.extBut _ _ (bv (by omega)) g,q.s1.at λo g=>e.extBut _ _ (bv (by omega)) g,fO q.s2 λo g=>e.extBut _ _ (bv (by omega)) g,e.extBut _ _ (bv (by omega)) q.pr⟩
theorem jz {T:Addr}{ob:Obj}{f:Bool}{Q:Bool->Jk->Prop}(kz:zO s.heap (n+4) (n+2) (n+3) (rawInt T) (.bool f))(kT:s.heap.get? T=some ob)
  (hk:∀h',zO h' (n+4) (n+2) (n+3) (rawInt T) (.bool true)->(∀c o,c≠n+4->s.heap.get? c=some o->h'.get? c=some o)->h'.objs.size=s.heap.objs.size->Q false { s with heap:=h' }):wpAny (model prog w) A (JA (.ref (n+4))) Q E s:=by
 unfold JA;refine Je (J1 kz rfl (x:=rawInt T) rfl ?_)
 show wpAny _ _ (loadIfAlive (Int.toNat (T:Int)) >>= _) _ _ _
 rw[Ko];refine Je (rj ?_)
 rw[kT]
 show wpAny _ _ (field (.ref (n+4)) 1 >>= _) _ _ _
 refine Je (J1 kz rfl (x:=.bool f) rfl ?_)
 cases f with
 | true=>
  rw[if_neg (by decide)]
  exact Jl (hk _ kz (λ_ _ _ e=>e) rfl)
 | false=>
  rw[if_pos (by decide)]
  refine Je (Lf kz (by simp) λh₁ kz₁ hs₁=>Jl (hk h₁ kz₁ (λc o c1 e=>hs₁.extBut _ _ c1 e) hs₁.1))
theorem xX {T:Addr}{ob:Obj}{f:Bool}{Q:Ji->Jk->Prop}(q:Zp s.heap n l1 t2 k xs ys)(kz:zO s.heap (n+4) (n+2) (n+3) (rawInt T) (.bool f))(kT:s.heap.get? T=some ob)(hx:xs[k]? =some x)(hy:ys[k]? =some y)
  (kq:∀h' p,s.heap.objs.size<=p->Ls h' p x y->zO h' (n+4) (n+2) (n+3) (rawInt T) (.bool true)->Zp h' n l1 t2 (k+1) xs ys->(∀c o,c≠n->c≠n+1->c≠n+4->s.heap.get? c=some o->h'.get? c=some o)->Q (.ref p) { s with heap:=h' }) :
  wpAny (model prog w) A (Builtin.«zip.__next__» ⟨[.ref (n+4)],[]⟩) (λfin s'=> ∃v,fin= .done (.ret v)/\Q v s') E s:=by
 have b1:=q.b1
 have b2:=q.b2
 show wpAny _ _ (field (.ref (n+4)) 2 >>= _) _ _ _
 refine Je (J1 kz rfl (x:=.bool false) rfl ?_)
 show wpAny _ _ (field (.ref (n+4)) 3 >>= _) _ _ _
 refine Je (J1 kz rfl (x:=.ref (n+2)) rfl ?_)
 refine Je (Kd q.pr rfl ?_)
 show wpAny _ _ (JA (.ref (n+4)) >>= _) _ _ _
 refine Je (jz kz kT λh₁ kz₁ e₁ z₁=> ?_)
 have q₁:Zp h₁ n l1 t2 k xs ys:=q.keep λc o hc g=>e₁ c o (by omega) g
 simp only[JY,if_false,MM,K5,Lk];refine Je (Je (Je (J3 ?_)))
 show wpAny _ _ (JE (.ref n) >>= _) _ _ _
 refine Je (MU q₁.i1 q₁.s1 hx λh₂ g₂ e₂=>Jl ?_)
 obtain⟨r1,r2,r3,r4⟩:=q₁.one g₂ e₂;refine Jl (Je (Je (J3 ?_)))
 show wpAny _ _ (JE (.ref (n+1)) >>= _) _ _ _
 refine Je (Enu.tupNext r1 r3 hy λh₃ g₃ e₃=>Jl (Jl (Jl ?_)))
 show wpAny _ _ (newTuple [x,y] >>= _) _ _ _
 refine Je (Mx (Jl ⟨_,rfl,?_⟩))
 have z₃:h₃.objs.size=s.heap.objs.size:=by rw[e₃.1,e₂.1,z₁]
 have up:∀c o,c≠n->c≠n+1->h₁.get? c=some o->(h₃.push { cls:=.type "tuple",data:=.seq #[x,y] }).get? c=some o:=λc o c1 c2 g=>Jf _ (e₃.extBut _ _ c2 (e₂.extBut _ _ c1 g))
 refine kq _ h₃.objs.size (Lj z₃.symm) (Js _ rfl) (up _ _ (bv (by omega)) (bv (by omega)) kz₁) ⟨b1,b2,up _ _ (bv (by omega)) (bv (by omega)) q₁.pr,?_,?_,?_,?_⟩ λc o c1 c2 c4 g=>up c o c1 c2 (e₁ c o c4 g)
 ·exact g₂.at λo g=>Jf _ (e₃.extBut _ _ (bv (by omega)) g)
 ·exact g₃.at λo g=>Jf _ g
 ·exact q₁.s1.at λo g=>up _ o (bv (by omega)) (bv (by omega)) g
 ·exact fO q₁.s2 λo g=>up _ o (bv (by omega)) (bv (by omega)) g
theorem wl {a b:Ji}{Q:Ji->Jk->Prop}(q:Zp s.heap n l1 t2 k xs ys)(kz:zO s.heap (n+4) (n+2) (n+3) .none (.bool false))(ho:Ls s.heap (n+3) a b)(hx:xs[k]? =some x)(hy:ys[k]? =some y)
  (kq:∀h' p,s.heap.objs.size<=p->Ls h' p x y->zO h' (n+4) (n+2) (n+3) (rawInt p) (.bool false)->Zp h' n l1 t2 (k+1) xs ys->(∀c o,c≠n->c≠n+1->c≠n+3->c≠n+4->s.heap.get? c=some o->h'.get? c=some o)->Q (.ref p) { s with heap:=h' }) :
  wpAny (model prog w) A (Builtin.«zip.__next__» ⟨[.ref (n+4)],[]⟩) (λfin s'=> ∃v,fin= .done (.ret v)/\Q v s') E s:=by
 have b1:=q.b1
 have b2:=q.b2
 show wpAny _ _ (field (.ref (n+4)) 2 >>= _) _ _ _
 refine Je (J1 kz rfl (x:=.bool false) rfl ?_)
 show wpAny _ _ (field (.ref (n+4)) 3 >>= _) _ _ _
 refine Je (J1 kz rfl (x:=.ref (n+2)) rfl ?_)
 refine Je (Kd q.pr rfl ?_)
 show wpAny _ _ (JA (.ref (n+4)) >>= _) _ _ _
 have fr:wpAny (model prog w) A (JA (.ref (n+4))) (λv s'=>v=true/\s'=s) E s:=by
  unfold JA;exact Je (J1 kz rfl (x:=.none) rfl (Jl ⟨rfl,rfl⟩))
 refine Je (Lb fr (λv s' hv=> ?_) λ_ _ z=>z)
 obtain⟨rfl,rfl⟩:=hv;simp only[if_true];refine Je (LU (Je (J1 kz rfl (x:=.ref (n+3)) rfl (Je (Lf kz (by simp) λh₁ kz₁ e₁=> ?_)))))
 replace kz₁:zO h₁ (n+4) (n+2) (n+3) .ellipsis (.bool false):=kz₁
 have q₁:Zp h₁ n l1 t2 k xs ys:=q.keep λc o hc g=>e₁.extBut c o (bv (by omega)) g
 simp only[Ou,Nt,K5,Lk];refine Je (Je (Je (Oo ?_)))
 show wpAny _ _ (JE (.ref n) >>= _) _ _ _
 refine Je (MU q₁.i1 q₁.s1 hx λh₂ g₂ e₂=>Jl ?_)
 obtain⟨r1,r2,r3,r4⟩:=q₁.one g₂ e₂
 have o₂:Ls h₂ (n+3) a b:=e₂.extBut _ _ (bv (by omega)) (e₁.extBut _ _ (bv (by omega)) ho)
 refine Je (Kd o₂ rfl (Je (Mt o₂ λh₃ o₃ e₃=>Je (PH (Jl ?_)))))
 replace o₃:Ls h₃ (n+3) x b:=o₃
 refine Je (Je (Oo ?_))
 show wpAny _ _ (JE (.ref (n+1)) >>= _) _ _ _
 refine Je (Enu.tupNext (r1.at λo g=>e₃.extBut _ _ (bv (by omega)) g) (fO r3 λo g=>e₃.extBut _ _ (bv (by omega)) g) hy λh₄ g₄ e₄=>Jl ?_)
 have o₄:Ls h₄ (n+3) x b:=e₄.extBut _ _ (bv (by omega)) o₃
 refine Je (Kd o₄ rfl (Je (Mt o₄ λh₅ o₅ e₅=>Je (PH (Jl (Jl ?_))))))
 replace o₅:Ls h₅ (n+3) x y:=o₅
 refine Je (Kd o₅ rfl (Je (Mx ?_)))
 have z₅:h₅.objs.size=s'.heap.objs.size:=by rw[e₅.1,e₄.1,e₃.1,e₂.1,e₁.1]
 have up:∀c o,c≠n->c≠n+1->c≠n+3->h₁.get? c=some o->h₅.get? c=some o:=λc o c1 c2 c3 g=>e₅.extBut _ _ c3 (e₄.extBut _ _ c2 (e₃.extBut _ _ c3 (e₂.extBut _ _ c1 g)))
 show wpAny _ _ (KH (.ref (n+4)) (.ref h₅.objs.size) >>= _) _ _ _
 have z5:zO (h₅.push { cls:=.type "tuple",data:=.seq #[x,y] }) (n+4) (n+2) (n+3) .ellipsis (.bool false):=Jf _ (up _ _ (bv (by omega)) (bv (by omega)) (bv (by omega)) kz₁)
 have hn:n+4<h₅.objs.size:=Jr (up _ _ (bv (by omega)) (bv (by omega)) (bv (by omega)) kz₁)
 refine Je ?_
 unfold KH;refine Je (Lf z5 (by simp) λh₇ z₇ e₇=> ?_)
 replace z₇:zO h₇ (n+4) (n+2) (n+3) (rawInt h₅.objs.size) (.bool false):=z₇
 refine Lf z₇ (by simp) λh₈ z₈ e₈=>Jl ⟨_,rfl,?_⟩
 replace z₈:zO h₈ (n+4) (n+2) (n+3) (rawInt h₅.objs.size) (.bool false):=z₈
 have up8:∀c o,c≠n+4->h₅.get? c=some o->h₈.get? c=some o:=λc o c1 g=>e₈.extBut _ _ c1 (e₇.extBut _ _ c1 (Jf _ g))
 refine kq h₈ h₅.objs.size (Lj z₅.symm) (e₈.extBut _ _ (bv (by omega)) (e₇.extBut _ _ (bv (by omega)) (Js _ rfl))) z₈ ⟨b1,b2,up8 _ _ (bv (by omega)) (up _ _ (bv (by omega)) (bv (by omega)) (bv (by omega)) q₁.pr),?_,?_,?_,?_⟩ λc o c1 c2 c3 c4 g=>up8 c o c4 (up c o c1 c2 c3 (e₁.extBut _ _ c4 g))
 ·exact g₂.at λo g=>up8 _ _ (bv (by omega)) (e₅.extBut _ _ (bv (by omega)) (e₄.extBut _ _ (bv (by omega)) (e₃.extBut _ _ (bv (by omega)) g)))
 ·exact g₄.at λo g=>up8 _ _ (bv (by omega)) (e₅.extBut _ _ (bv (by omega)) g)
 ·exact q₁.s1.at λo g=>up8 _ _ (bv (by omega)) (up _ o (bv (by omega)) (bv (by omega)) (bv (by omega)) g)
 ·exact fO q₁.s2 λo g=>up8 _ _ (bv (by omega)) (up _ o (bv (by omega)) (bv (by omega)) (bv (by omega)) g)
theorem xW {T:Addr}{ob:Obj}{f:Bool}{Q:Fin->Jk->Prop}(hh:A.handled=none)(q:Zp s.heap n l1 t2 k xs ys)(kz:zO s.heap (n+4) (n+2) (n+3) (rawInt T) (.bool f))(kT:s.heap.get? T=some ob)(hx:xs[k]? =none)
  (ke:∀h' e,(∀c o,c≠n->c≠n+4->s.heap.get? c=some o->h'.get? c=some o)->(∃o,h'.get? e=some o/\o.cls= .type "StopIteration")->E (.ref e) { s with heap:=h' }) :
  wpAny (model prog w) A (Builtin.«zip.__next__» ⟨[.ref (n+4)],[]⟩) Q E s:=by
 show wpAny _ _ (field (.ref (n+4)) 2 >>= _) _ _ _
 refine Je (J1 kz rfl (x:=.bool false) rfl ?_)
 show wpAny _ _ (field (.ref (n+4)) 3 >>= _) _ _ _
 refine Je (J1 kz rfl (x:=.ref (n+2)) rfl ?_)
 refine Je (Kd q.pr rfl ?_)
 show wpAny _ _ (JA (.ref (n+4)) >>= _) _ _ _
 refine Je (jz kz kT λh₁ kz₁ e₁ z₁=> ?_)
 have q₁:Zp h₁ n l1 t2 k xs ys:=q.keep λc o hc g=>e₁ c o (by omega) g
 simp only[JY,if_false,MM,K5,Lk];refine Je (Je (Je (J3 ?_)))
 show wpAny _ _ (JE (.ref n) >>= _) _ _ _
 exact Je (O5 hh q₁.i1 q₁.s1 hx λh₂ e e₂ he=>ke h₂ e (λc o c1 c4 g=>e₂ _ _ c1 (e₁ c o c4 g)) he)
theorem AX {T:Addr}{ob:Obj}{f:Bool}{Q:Option Ji->Jk->Prop}(q:Zp s.heap n l1 t2 k xs ys)(kz:zO s.heap (n+4) (n+2) (n+3) (rawInt T) (.bool f))(kT:s.heap.get? T=some ob)(hx:xs[k]? =some x)(hy:ys[k]? =some y)
  (kq:∀h' p,s.heap.objs.size<=p->Ls h' p x y->zO h' (n+4) (n+2) (n+3) (rawInt T) (.bool true)->Zp h' n l1 t2 (k+1) xs ys->(∀c o,c≠n->c≠n+1->c≠n+4->s.heap.get? c=some o->h'.get? c=some o)->Q (some (.ref p)) { s with heap:=h' }) :
  wpAny (model prog w) A (pyNext (.ref (n+4))) Q E s:=by
 have hy':s.TypeIs (.ref (n+4)) "zip":=⟨_,kz,rfl⟩;unfold pyNext;exact Je (Mo (J4 (name:=JC "__next__") hy' Ks (J9 Ks hy' MA (xX q kz kT hx hy λh' p a1 a2 a3 a4 a5=>Jl (kq h' p a1 a2 a3 a4 a5)) (Mi _))))
theorem xV {a b:Ji}{Q:Option Ji->Jk->Prop}(q:Zp s.heap n l1 t2 k xs ys)(kz:zO s.heap (n+4) (n+2) (n+3) .none (.bool false))(ho:Ls s.heap (n+3) a b)(hx:xs[k]? =some x)(hy:ys[k]? =some y)
  (kq:∀h' p,s.heap.objs.size<=p->Ls h' p x y->zO h' (n+4) (n+2) (n+3) (rawInt p) (.bool false)->Zp h' n l1 t2 (k+1) xs ys->(∀c o,c≠n->c≠n+1->c≠n+3->c≠n+4->s.heap.get? c=some o->h'.get? c=some o)->Q (some (.ref p)) { s with heap:=h' }) :
  wpAny (model prog w) A (pyNext (.ref (n+4))) Q E s:=by
 have hy':s.TypeIs (.ref (n+4)) "zip":=⟨_,kz,rfl⟩;unfold pyNext;exact Je (Mo (J4 (name:=JC "__next__") hy' Ks (J9 Ks hy' MA (wl q kz ho hx hy λh' p a1 a2 a3 a4 a5=>Jl (kq h' p a1 a2 a3 a4 a5)) (Mi _))))
theorem AW {T:Addr}{ob:Obj}{f:Bool}{Q:Option Ji->Jk->Prop}(hh:A.handled=none)(q:Zp s.heap n l1 t2 k xs ys)(kz:zO s.heap (n+4) (n+2) (n+3) (rawInt T) (.bool f))(kT:s.heap.get? T=some ob)(hx:xs[k]? =none)
  (kq:∀h',(∀c o,c≠n->c≠n+4->s.heap.get? c=some o->h'.get? c=some o)->Q none { s with heap:=h' }):wpAny (model prog w) A (pyNext (.ref (n+4))) Q E s:=by
 have hy':s.TypeIs (.ref (n+4)) "zip":=⟨_,kz,rfl⟩;unfold pyNext;refine Je (Mo (J4 (name:=JC "__next__") hy' Ks (J9 Ks hy' MA (xW hh q kz kT hx λh' e a1 he=> ?_) (Mi _))))
 obtain⟨o,ho,hc⟩:=he;exact Je (Oz (T:="StopIteration") (b:=true) ⟨o,ho,hc⟩ Po (Jl (kq _ a1)))
theorem AY {f0 f1:Ji}{Q:Ji->Jk->Prop}(kz:zO s.heap (n+4) (n+2) (n+3) f0 f1)(h:Q (.ref (n+4)) s):wpAny (model prog w) A (pyIter (.ref (n+4))) Q E s:=by
 have hy':s.TypeIs (.ref (n+4)) "zip":=⟨_,kz,rfl⟩;refine Qy hy' Nv (J9 Nv hy' Q5 ?_ (Qo _))
 show wpAny _ _ (ret (.ref (n+4))) _ _ s
 exact Jl ⟨_,rfl,"zip",_,hy',Ks.lookup,h⟩
end
abbrev FG (h:Heap)(l t:Addr):Heap:=h.push { cls:=.type "list_iterator",data:=.fields #[.ref l,.int 0 0] }
abbrev Hj (h:Heap)(l t:Addr):Heap:=(FG h l t).push { cls:=.type "tuple_iterator",data:=.fields #[.ref t,.int 0 0] }
abbrev Hi (h:Heap)(l t:Addr):Heap:=(Hj h l t).push { cls:=.type "tuple",data:=.seq #[.ref h.objs.size,.ref (FG h l t).objs.size] }
abbrev Hh (h:Heap)(l t:Addr):Heap:=(Hi h l t).push { cls:=.type "tuple",data:=.seq #[.none,.none] }
abbrev CN (h:Heap)(l t:Addr):Heap:=(Hh h l t).push { cls:=.type "zip",data:=.fields #[.none,.bool false,.bool false,.ref (Hj h l t).objs.size,.ref (Hi h l t).objs.size] }
theorem wT (l t:Addr)(xs ys:Array Ji):Meets (Builtin.«zip.__new__» ⟨[.type "zip",.ref l,.ref t],[]⟩) (λ_ R s=>s.heap.IsList l xs/\s.heap.IsTuple t ys/\R (.ok (.ret (.ref (Hh s.heap l t).objs.size))) { s with heap:=CN s.heap l t }):=
 .of_wp λprog w A R s q=>by
  obtain⟨hp,g,d,tk,os⟩:=s;obtain⟨a1,a2,q⟩:=q
  have k0:=sub_zip
  have k1:Heap.IsList (Oc ⟨hp,g,d,tk,os⟩) l xs:=a1
  have k2:Heap.IsTuple (Oc ⟨FG hp l t,g,d,tk,os⟩) t ys:=fO a2 λo e=>Jf _ e
  wp_walk using Mm k1,Lz k2
  exact⟨_,rfl,q⟩
section
variable {prog:JI}{w:Kn}{A:JZ}{E:Ji->Jk->Prop}{s:Jk}
theorem AZ {l t:Addr}{xs ys:Array Ji}{Q:Ji->Jk->Prop}(a1:s.heap.IsList l xs)(a2:s.heap.IsTuple t ys)
  (q:∀h',Zp h' s.heap.objs.size l t 0 xs ys->zO h' (s.heap.objs.size+4) (s.heap.objs.size+2) (s.heap.objs.size+3) .none (.bool false)->Ls h' (s.heap.objs.size+3) .none .none->h'.objs.size=s.heap.objs.size+5 →
   (∀c o,s.heap.get? c=some o->h'.get? c=some o)->Q (.ref (s.heap.objs.size+4)) { s with heap:=h' }) :
  wpAny (model prog w) A (call (.type "zip") [.ref l,.ref t]) Q E s:=by
 refine QN F.called_zip (by decide) (Q6 _ _) (Ro _ _) (λobj=>Pg obj _ _) Rp (wT l t xs ys) ⟨a1,a2,?_⟩
 have z1:(FG s.heap l t).objs.size=s.heap.objs.size+1:=J0 ..
 have z2:(Hj s.heap l t).objs.size=s.heap.objs.size+2:=by rw[J0,z1]
 have z3:(Hi s.heap l t).objs.size=s.heap.objs.size+3:=by rw[J0,z2]
 have z4:(Hh s.heap l t).objs.size=s.heap.objs.size+4:=by rw[J0,z3]
 have z5:(CN s.heap l t).objs.size=s.heap.objs.size+5:=by rw[J0,z4]
 have g5:(CN s.heap l t).get? (Hh s.heap l t).objs.size=some _:=Js _ rfl
 have g4:(CN s.heap l t).get? (Hi s.heap l t).objs.size=some _:=Jf _ (Js _ rfl)
 have g3:(CN s.heap l t).get? (Hj s.heap l t).objs.size=some _:=Jf _ (Jf _ (Js _ rfl))
 have g2:(CN s.heap l t).get? (FG s.heap l t).objs.size=some _:=Jf _ (Jf _ (Jf _ (Js _ rfl)))
 have g1:(CN s.heap l t).get? s.heap.objs.size=some _:=Jf _ (Jf _ (Jf _ (Jf _ (Js _ rfl))))
 have up:∀c o,s.heap.get? c=some o->(CN s.heap l t).get? c=some o:=λc o e=>Jf _ (Jf _ (Jf _ (Jf _ (Jf _ e))))
 show _/\_
 rw[z2,z3,z4]at g5;rw[z1,z2]at g3;rw[z3]at g4;rw[z1]at g2;rw[z4]
 have lt1:l<s.heap.objs.size:=by obtain⟨o,e,_⟩:=a1;exact Jr e
 have lt2:t<s.heap.objs.size:=by obtain⟨o,e,_⟩:=a2;exact Jr e
 exact⟨⟨_,g5,rfl⟩,q _ ⟨lt1,lt2,g3,⟨_,g1,rfl,rfl⟩,⟨_,g2,rfl,rfl⟩,a1.at λo e=>up _ o e,fO a2 λo e=>up _ o e⟩ g5 g4 z5 up⟩
end
end PySem
namespace Tr
open PySem PySem.Spec PyProof.Rows L2
def ZAt (H:Hp):List V->List V->List (List Key×V)->Prop
 | [],[],ps=>ps= []
 | x::xs,y::ys,ps=> ∃kb p r,ps=p::r/\x= .ref kb/\H kb=some (.tup (p.1.map kV))/\p.2=y/\ZAt H xs ys r
 | _,_,_=>False
theorem ZAt.mono {H H':Hp}(h:∀b vs,H b=some (.tup vs)->H' b=some (.tup vs)):∀{xs ys:List V} {ps:List (List Key×V)},ZAt H xs ys ps->ZAt H' xs ys ps
 | [],[],_,z=>z
 | [],_::_,_,z=>z
 | _::_,[],_,z=>z
 | x::xs,y::ys,_,⟨kb,p,r,e1,e2,e3,e4,e5⟩=>⟨kb,p,r,e1,e2,h _ _ e3,e4,e5.mono h⟩
theorem ZAt.len {H:Hp}:∀{xs ys:List V} {ps:List (List Key×V)},ZAt H xs ys ps->xs.length=ys.length
 | [],[],_,_=>rfl
 | [],_::_,_,z=>z.elim
 | _::_,[],_,z=>z.elim
 | x::xs,y::ys,_,⟨kb,p,r,e1,e2,e3,e4,e5⟩=>by rw[Jq,Jq,e5.len]
section
variable {X:Cx}{pins:List (Addr×Obj)}{σ:L2.St}{A:JZ}{res:Ji}{R:Rv->Jk->Prop}{d it:Addr}
theorem v5 {Ex:Heap->Prop}{i:Nat}{s:Jk}{H:Hp}{kvs:List (List Key×V)}{kb:Addr}{kk:List Key}{v:V}(hu:A.units+3<cLine)(hd:H d=some (.dT kvs))(hz:kvs.length<1000)(hk:H kb=some (.tup (kk.map kV)))
  (hn:∀{Q:Option Ji->Jk->Prop} {E:Ji->Jk->Prop},(∀h' p u2,Inv X pins σ H { s with heap:=h' }->Ls h' p (.ref kb) u2->RelV v u2->Ex h'->Q (some (.ref p)) { s with heap:=h' })->wpAny (model X.prog X.w) A.in1 (pyNext (.ref it)) Q E s)
  (nx:∀h' h2 tk,Ex h'->(∀c,c≠d->h2.get? c=h'.get? c)->Inv X pins σ (upd H d (.dT (cL kvs kk v))) { s with heap:=h2,toks:=tk }->codeAny (model X.prog X.w) A (.builtin "dict.update.loop" ⟨[.ref d,.ref it,rawInt ((i+1:Nat):Int),res],[]⟩) R { s with heap:=h2,toks:=tk }) :
  codeAny (model X.prog X.w) A (.builtin "dict.update.loop" ⟨[.ref d,.ref it,rawInt (i:Nat),res],[]⟩) R s:=by
 refine Lq F.entry_dict_update_loop ?_
 rw[KB F.plain_dict_update_loop _]
 show wpAny _ A.in1 (pyNext (.ref it) >>= _) _ _ s
 refine Je (hn λh' p u2 I1 hp q2 hx=> ?_)
 show wpAny _ A.in1 (holding [Jz p] _ >>= _) _ _ _
 refine Je (J3 (Je (wpAny_tryCatch ?_)))
 unfold OB;refine Je (LA (s:={ s with heap:=h' }) (T:="tuple") ⟨_,hp,rfl⟩ ?_)
 rw[if_pos (by decide)]
 refine Je (Kd (s:={ s with heap:=h' }) hp rfl (Jl ?_))
 show wpAny _ _ (holding [Jz kb,u2] (dictSet d (.ref kb) u2)) _ _ _
 refine J3 ?_
 obtain⟨zz,hds,xs2,rel,dd⟩:=vY I1.hok hd
 have hzl:xs2.length<=sizeLine:=by rw[<-Ng rel];exact zz
 have hkl:kvs.length<sizeLine:=by rw[KW];omega
 have hl2:(cL kvs kk v).length<=sizeLine:=by have:=dC kvs kk v;omega
 refine Qc (hsz:=hzl) (LB (by show A.units+1<cLine;omega)) (key_of I1.hok hk) dd λh2 dd2 hs2=> ?_
 obtain⟨q,es,ep,hq,h22,h3,h4,_,h5⟩:=dd2
 have I2:Inv X pins σ (upd H d (.dT (cL kvs kk v))) { s with heap:=h2,toks:=s.toks+(Nz (bZ X.prog X.w)).draws kk }:=
  lE (s:={ s with heap:=h' }) I1 (by rw[hd];exact L6) hs2 ⟨q,hq⟩ ⟨hl2,hds,_,(rel.put kk hk q2).keeps λc ys ec=>by rw[aJ (mn ec hd (λz=>nomatch z))];exact ec,q,es,ep,hq,h22,h3,h4,h5⟩
 have hcast:(i:Int)+1=((i+1:Nat):Int):=by omega
 refine Jl ⟨L3 F.plain_dict_update_loop _,?_⟩
 rw[hcast];exact nx h' h2 _ hx (λc hc=>hs2.2 c hc) I2
theorem Fm {s:Jk}{i:Nat}(hn:∀{Q:Option Ji->Jk->Prop} {E:Ji->Jk->Prop},(∀h',R (.ok (.ret res)) { s with heap:=h' }->Q none { s with heap:=h' })->wpAny (model X.prog X.w) A.in1 (pyNext (.ref it)) Q E s) :
  codeAny (model X.prog X.w) A (.builtin "dict.update.loop" ⟨[.ref d,.ref it,rawInt (i:Nat),res],[]⟩) R s:=by
 refine Lq F.entry_dict_update_loop ?_
 rw[KB F.plain_dict_update_loop _]
 show wpAny _ A.in1 (pyNext (.ref it) >>= _) _ _ s
 refine Je (hn λh' hr=> ?_)
 show wpAny _ _ (NX d [] >>= _) _ _ _
 exact Je (Jl (Jl hr))
theorem A0 {n l1 t2:Nat}{us ws:Array Ji}{xs ys:List V}{T:Addr}(hh:A.handled=none)(hu:A.units+3<cLine)(rx:Vals xs us.toList)(ry:Vals ys ws.toList)(hTn:n+4<T)(hTd:T≠d):∀(k i:Nat) (s:Jk) (H:Hp) (kvs ps:List (List Key×V)) (f:Bool) (ob:Obj),xs.length - i=k->i<=xs.length->H d=some (.dT kvs)->kvs.length+(xs.length - i)<=1000 →
  Inv X pins σ H s->Zp s.heap n l1 t2 i us ws->zO s.heap (n+4) (n+2) (n+3) (rawInt T) (.bool f)->s.heap.get? T=some ob->(∀j:Nat,j<5->j8 X pins H (n+j))->l1≠d->t2≠d->ZAt H (xs.drop i) (ys.drop i) ps →
  (∀s',Inv X pins σ (upd H d (.dT (fK kvs ps))) s'->R (.ok (.ret res)) s')->codeAny (model X.prog X.w) A (.builtin "dict.update.loop" ⟨[.ref d,.ref (n+4),rawInt i,res],[]⟩) R s:=by
 have lenx:=rx.length
 have leny:=ry.length;intro k
 induction k with
 | zero=>
  intro i s H kvs ps f ob hk hi hd hz I q kz kT hf hl1 ht2 hp hR
  have hnil:xs.drop i= []:=L8 (by omega)
  have hny:ys.drop i= []:=by
   have:=hp.len;rw[hnil]at this;exact ML.mp this.symm
  rw[hnil,hny]at hp;unfold ZAt at hp;subst hp
  have e2:upd H d (.dT (fK kvs []))=H:=by
   funext b
   by_cases hb:b=d
   ·rw[hb,aP,hd];rfl
   ·rw[aJ hb]
  rw[e2]at hR;refine Fm λ{Q E} hq=>AW hh q kz kT (by rw[OC];rw[<-JU];omega) λh' e=>hq h' (hR _ ?_)
  exact I.HL (fp:=[n,n+4]) (t':=s.toks) (λb hb=>by
   simp only[Jp,JN,or_false]at hb;rcases hb with rfl | rfl
   ·exact hf 0 (by omega)
   ·exact hf 4 (by omega)) λb o hb eb=>e b o (λz=>hb (by rw[z];simp)) (λz=>hb (by rw[z];simp)) eb
 | succ k ih=>
  intro i s H kvs ps f ob hk hi hd hz I q kz kT hf hl1 ht2 hp hR
  have hlt:i<xs.length:=by omega
  have hdx:xs.drop i=xs[i] ::xs.drop (i+1):=KZ hlt
  have hyl:i<ys.length:=by
   have:=hp.len;rw[L4,L4]at this;omega
  have hdy:ys.drop i=ys[i] ::ys.drop (i+1):=KZ hyl;rw[hdx,hdy]at hp;obtain⟨kb,p,r,rfl,ex,hkb,ep,hp'⟩:=hp;obtain⟨u1,q1,q2⟩:=rx.get (Jx hlt)
  obtain⟨u2,q3,q4⟩:=ry.get (Jx hyl)
  rw[OM]at q1 q3
  rw[ex]at q2;obtain rfl:u1=Jz kb:=q2;rw[<-ep]at q4
  have hd0:∀j:Nat,j<5->n+j≠d:=λj hj z=>by have:=(hf j hj).1;rw[z,hd]at this;cases this
  refine v5 (pins:=pins) (σ:=σ) (Ex:=λh'=>Zp h' n l1 t2 (i+1) us ws/\zO h' (n+4) (n+2) (n+3) (rawInt T) (.bool true)/\h'.get? T=some ob) hu hd (by omega) hkb (λ{Q E} hq=>AX q kz kT q1 q3 λh' b _ a2 a3 a4 a5=>hq h' b u2 ?_ a2 q4 ⟨a4,a3,a5 _ _ (bv (by omega)) (bv (by omega)) (bv (by omega)) kT⟩) λh1 h2 tk hx3 e2 I2=> ?_
  ·exact I.HL (fp:=[n,n+1,n+4]) (t':=s.toks) (λb hb=>by
    simp only[Jp,JN,or_false]at hb;rcases hb with rfl | rfl | rfl
    ·exact hf 0 (by omega)
    ·exact hf 1 (by omega)
    ·exact hf 4 (by omega)) λb o hb eb=>a5 b o (λz=>hb (by rw[z];simp)) (λz=>hb (by rw[z];simp)) (λz=>hb (by rw[z];simp)) eb
  ·obtain⟨x1,x2,x3⟩:=hx3
   have lt1:=x1.b1
   have lt2:=x1.b2
   have x1':Zp h2 n l1 t2 (i+1) us ws:=⟨x1.b1,x1.b2,(e2 _ (hd0 2 (by omega))).trans x1.pr,x1.i1.at λo g=>(e2 _ (hd0 0 (by omega))).trans g,x1.i2.at λo g=>(e2 _ (hd0 1 (by omega))).trans g,x1.s1.at λo g=>(e2 _ hl1).trans g,fO x1.s2 λo g=>(e2 _ ht2).trans g⟩
   refine ih (i+1) _ (upd H d (.dT (cL kvs p.1 p.2))) (cL kvs p.1 p.2) r true ob (by omega) (by omega) aP (by have:=dC kvs p.1 p.2;omega) I2 x1' ((e2 _ (hd0 4 (by omega))).trans x2) ((e2 _ hTd).trans x3) (λj hj=>⟨by rw[aJ (hd0 j hj)];exact(hf j hj).1,(hf j hj).2⟩) hl1 ht2 (hp'.mono λb vs e=>by rw[aJ (mn e hd (λz=>nomatch z))];exact e) λs' I'=> ?_
   rw[iC]at I';exact hR s' I'
end
section
variable {X:Cx}{pins:List (Addr×Obj)}{σ:L2.St}{A:JZ}{E:Ji->Jk->Prop}{H:Hp}{s:Jk}{n l1 t2:Nat}{us ws:Array Ji}{xs ys:List V}{ps:List (List Key×V)}
theorem Ct {Q:Ji->Jk->Prop}(hh:A.handled=none)(hu:A.units+8<cLine)(I:Inv X pins σ H s)(q:Zp s.heap n l1 t2 0 us ws)(kz:zO s.heap (n+4) (n+2) (n+3) .none (.bool false))(ko:Ls s.heap (n+3) .none .none)
  (hf:∀j:Nat,j<5->j8 X pins H (n+j)) (rx:Vals xs us.toList) (ry:Vals ys ws.toList) (h1:1<=xs.length) (hz:xs.length<=1000) (hp:ZAt H xs ys ps)
  (h:∀p s',Nw X.K H p->Inv X pins σ (upd H p (.dT (fK [] ps))) s'->Q (.ref p) s'):wpAny (model X.prog X.w) A (call (.type "dict") [.ref (n+4)]) Q E s:=by
 have hk:X.K.lookup s.heap.objs.size=none:=by
  cases q:X.K.lookup s.heap.objs.size with
  | none=>rfl
  | some o=>exact absurd (Jr (I.kIn _ o q)) (JJ _)
 have hn:H s.heap.objs.size=none:=I.hok.fresh (Jv _)
 have z4:n+4<s.heap.objs.size:=Jr kz
 have b1:=q.b1
 have b2:=q.b2;refine callType_codes (Q₁:=λobj s₁=>obj= .ref s.heap.objs.size/\s₁= { s with heap:=s.heap.push { cls:=.type "dict",data:=.dict #[] } }) Q1 (Pe _) Qm (Q9 _ ⟨rfl,rfl⟩) ?_
 rintro obj s₁ ⟨rfl,rfl⟩
 have I1:Inv X pins σ (upd H s.heap.objs.size (.dT [])) { s with heap:=s.heap.push { cls:=.type "dict",data:=.dict #[] } }:=I.laid (a:=s.heap.objs.size) (o:=.dT []) (t':=s.toks) (λ_ _ q=>Jf _ q) (Jv _) (tD s.heap I.big)
 have hT:({ s with heap:=s.heap.push { cls:=.type "dict",data:=.dict #[] } }:Jk).TypeIs (.ref s.heap.objs.size) "dict":=⟨_,Js _ rfl,rfl⟩
 have kz1:zO (s.heap.push { cls:=.type "dict",data:=.dict #[] }) (n+4) (n+2) (n+3) .none (.bool false):=Jf _ kz
 refine⟨hT,PX _ _,?_⟩
 unfold Builtin.«dict.__init__»;refine Je ?_
 unfold NY;refine Je (O4 hT ?_)
 show wpAny _ _ (pure (s.heap.objs.size,[Jz (n+4)])) _ _ _
 refine Jl ?_
 show wpAny _ _ (LW "dict.__init__" s.heap.objs.size (.ref (n+4)) [] .none) _ _ _
 unfold LW;refine Je (LA (T:="zip") ⟨_,kz1,rfl⟩ ?_)
 rw[if_pos (by decide)]
 refine Je (zk3 kz1 hh λh' tk' kp=> ?_)
 have I2:Inv X pins σ (upd H s.heap.objs.size (.dT [])) { s with heap:=h',toks:=tk' }:=I1.kept (t':=tk') kp
 have up:∀c o,s.heap.get? c=some o->h'.get? c=some o:=λc o e=>kp c o (Jf _ e)
 rw[if_pos (by rfl)]
 refine Je (LU ?_)
 have kz2:zO h' (n+4) (n+2) (n+3) .none (.bool false):=up _ _ kz;refine Je (AY (s:={ s with heap:=h',toks:=tk' }) kz2 ?_)
 refine Jl ⟨L3 F.plain_dict_update_loop _,?_⟩
 have q2:Zp h' n l1 t2 0 us ws:=q.keep λc o _ e=>up c o e
 have hsz:s.heap.objs.size<h'.objs.size:=Jr (kp _ _ (Js _ rfl))
 have hf2:∀j:Nat,j<5->j8 X pins (upd H s.heap.objs.size (.dT [])) (n+j):=λj hj=>⟨by rw[aJ (bv (by omega))];exact(hf j hj).1,(hf j hj).2⟩
 obtain⟨x,xs',rfl⟩:∃x xs',xs=x::xs':=by
  cases xs with
  | nil=>simp at h1
  | cons x xs'=>exact⟨x,xs',rfl⟩
 obtain⟨y,ys',rfl⟩:∃y ys',ys=y::ys':=by
  cases ys with
  | nil=>exact hp.elim
  | cons y ys'=>exact⟨y,ys',rfl⟩
 obtain⟨kb,p,r,rfl,ex,hkb,ep,hp'⟩:=hp;obtain⟨u1,v1,v2⟩:=rx.get (i:=0) rfl;obtain⟨u2,v3,v4⟩:=ry.get (i:=0) rfl;rw[OM]at v1 v3
 rw[ex]at v2;obtain rfl:u1=Jz kb:=v2;rw[<-ep]at v4;rw[Jq]at hz
 have tupk:∀(o:List (List Key×V)) b vs,H b=some (.tup vs)->upd H s.heap.objs.size (.dT o) b=some (.tup vs):=λo b vs e=>by rw[aJ (λz=>by rw[z,hn]at e;cases e)];exact e
 refine v5 (A:=A.in1) (X:=X) (pins:=pins) (σ:=σ) (i:=0) (kvs:=[]) (Ex:=λh1=>Zp h1 n l1 t2 1 us ws/\∃T ob,h'.objs.size<=T/\zO h1 (n+4) (n+2) (n+3) (rawInt T) (.bool false)/\h1.get? T=some ob) (by show A.units+1+3<cLine;omega) aP (by simp) (tupk _ _ _ hkb)
  (λ{Q E} hq=>xV q2 kz2 (up _ _ ko) v1 v3 λh1 b a1 a2 a3 a4 a5=>hq h1 b u2 ?_ a2 v4 ⟨a4,b,_,a1,a3,a2⟩) λh1 h2 tk hx3 e2 I3=> ?_
 ·exact I2.HL (fp:=[n,n+1,n+3,n+4]) (t':=tk') (λb hb=>by
   simp only[Jp,JN,or_false]at hb;rcases hb with rfl | rfl | rfl | rfl
   ·exact hf2 0 (by omega)
   ·exact hf2 1 (by omega)
   ·exact hf2 3 (by omega)
   ·exact hf2 4 (by omega)) λb o hb eb=>a5 b o (λz=>hb (by rw[z];simp)) (λz=>hb (by rw[z];simp)) (λz=>hb (by rw[z];simp)) (λz=>hb (by rw[z];simp)) eb
 ·obtain⟨x1,T,ob,hTs,x2,x3⟩:=hx3
  have hd0:∀j:Nat,j<5->n+j≠s.heap.objs.size:=λj hj=>bv (by omega)
  have x1':Zp h2 n l1 t2 1 us ws:=⟨x1.b1,x1.b2,(e2 _ (hd0 2 (by omega))).trans x1.pr,x1.i1.at λo g=>(e2 _ (hd0 0 (by omega))).trans g,x1.i2.at λo g=>(e2 _ (hd0 1 (by omega))).trans g,x1.s1.at λo g=>(e2 _ (bv (by omega))).trans g,fO x1.s2 λo g=>(e2 _ (bv (by omega))).trans g⟩
  rw[iC]at I3;refine A0 (A:=A.in1) (X:=X) (pins:=pins) (σ:=σ) (xs:=x::xs') (ys:=y::ys') (T:=T) hh (by show A.units+1+3<cLine;omega) rx ry (by omega) (bv (by omega)) xs'.length 1 _ (upd H s.heap.objs.size (.dT (cL [] p.1 p.2))) (cL [] p.1 p.2) r false ob (by rw[Jq];omega) (by rw[Jq];omega) aP (by rw[Jq];show 1+_<=1000;omega) I3 x1' ((e2 _ (hd0 4 (by omega))).trans x2) ((e2 _ (bv (by omega))).trans x3) (λj hj=>⟨by rw[aJ (hd0 j hj)];exact(hf j hj).1,(hf j hj).2⟩) (bv (by omega)) (bv (by omega)) (hp'.mono (tupk _)) λs' I'=> ?_
  rw[iC]at I';exact⟨rfl,h _ _ ⟨hn,hk⟩ I'⟩
theorem CO {K:Jg}{O:Ow}{H:Hp}:∀{l m:List T} {xs ys:List V},kU l=true->l.length=m.length->Reps K O H l xs->Reps K O H m ys->∃ps,ZAt H xs ys ps/\G9 K O H (l.zip m) ps
 | [],[],xs,ys,_,_,r1,r2=>by cases Reps.Hy.mp r1;cases Reps.Hy.mp r2;exact⟨[],rfl,rfl⟩
 | [],_::_,_,_,_,h,_,_=>by simp at h
 | _::_,[],_,_,_,h,_,_=>by simp at h
 | a::l,b::m,xs,ys,hk,h,r1,r2=>by
  obtain⟨v,vs,rfl,p1,q1⟩:=Reps.me.mp r1;obtain⟨w,ws,rfl,p2,q2⟩:=Reps.me.mp r2;unfold kU at hk;rw[Jo]at hk;obtain⟨kk,ek⟩:=N1.mp hk.1;obtain⟨ps,g1,g2⟩:=CO hk.2 (by simpa using h) q1 q2
  obtain⟨kb,f5,f6⟩:=iM ek p1;exact⟨(kk,w)::ps,⟨kb,(kk,w),ps,rfl,f5,f6,rfl,g1⟩,⟨(kk,w),ps,rfl,ek,p2,g2⟩⟩
end
section
variable {X:Cx}{a b:Expr}{fs:En->Rs (List T)}{p p1 p2 pos:Pos}
theorem DX (hu:X.A.units+8<cLine)(hc:X.calm=true)(hm:X.mg "dict" =none)(hmz:X.mg "zip" =none)(ha:qR X [a,b] fs)(hst:bn [a,b] =true:=by rfl)(hg:Gl X "dict":=by rfl)(hgz:Gl X "zip":=by rfl) :
  cj X (.Call (.Name "dict" p) [.Call (.Name "zip" p1) [a,b] [] p2] [] pos) (cl G4 fs):=by
 intro pins s σ H Q I ⟨Z,O,Ev,hq⟩
 have e1:JF [Lp (.Name "zip" p1) [a,b] [] p2] X.env=(false,eval (.Call (.Name "zip" p1) [a,b] [] p2) X.env)::JF [] X.env:=ba rfl;unfold bn at hst;rw[Jo]at hst
 have e2:JF [a,b] X.env=(false,eval a X.env)::JF [b] X.env:=ba hst.1;refine Kg (eE I hg hm (show JT "dict" =some (.type "dict")by decide+kernel) ?_ (by decide) (by decide))
 refine J5 ?_ e1 rfl
 rw[e1];refine Lw ?_
 refine Kg (eE I hgz hmz (show JT "zip" =some (.type "zip")by decide+kernel) ?_ (by decide) (by decide))
 refine J5 (cg (ha p2 pins s σ H _ I (d8 Ev hq)) λus s1 ⟨vs,H1,I1,r1,ts,rs,s',E',q1⟩=> ?_) e2 (e9 hst.2)
 unfold G4 at q1
 split at q1
 ·rename_i l m
  by_cases hz:kU l=true/\l.length=m.length/\1<=l.length/\l.length<=1000
  ·rw[if_pos hz]at q1
   obtain⟨v1,vs1,rfl,ra,rb⟩:=Reps.me.mp rs;obtain⟨v2,rfl,rc⟩:=rb.one;obtain⟨c1,xs,rfl,_,hx,rx⟩:=Rep.HA.mp ra;obtain⟨c2,ys,rfl,_,hy,ry⟩:=Rep.HB.mp rc
   cases r1 with
   | cons w1 w2=>
    obtain⟨u2,rfl,w3⟩:=Vals.one w2;cases w1;obtain rfl:u2=Jz c2:=w3;obtain⟨z,its,n,rv,hlen,e⟩:=I1.HU hx;obtain⟨z2,its2,r2,ob,hob1,hob2,nb,hob3⟩:=(show ObjOk X.prog X.w H1 s1.heap c2 (.tup ys)from I1.hok c2 _ hy)
    refine AZ (xs:=its.toArray) (ys:=its2.toArray) ⟨_,e,rfl,n,rfl⟩ ⟨ob,hob1,hob2,nb,hob3⟩ λh' g1 g2 g3 g4 g5=> ?_
    refine LM ?_
    have I2:Inv X pins σ H1 { s1 with heap:=h' }:=I1.kept (t':=s1.toks) g5
    obtain⟨ps,k1,k2⟩:=CO hz.1 hz.2.1 rx ry;refine Ct (I2.ok.hd hc) hu I2 g1 g2 g3 (λj hj=>I1.Ic (by omega) (I1.hok.fresh (by omega))) rv r2 (by rw[<-rx.length];exact hz.2.2.1) (by rw[<-rx.length];exact hz.2.2.2) k1 λq s' nw I'=>⟨.ref q,_,I',rfl,q1 _ (aN nw.1 _) _ ?_⟩
    obtain⟨d1,d2⟩:=kD (ks:=[]) (ts:=[]) (kvs:=[]) k2 rfl Reps.HI Ll;exact Rep.HF.mpr ⟨q,_,rfl,E'.fresh nw.1,.inl aP,d1,d2.same (aN nw.1 _)⟩
  ·rw[if_neg hz]at q1;exact q1.elim
 ·exact q1.elim
end
end Tr
namespace PySem
open Sem (wp)
open L2 (itAt)
def sqAt (tt:Bool)(h:Heap)(a:Addr)(xs:Array Ji):Prop:=if tt then h.IsTuple a xs else h.IsList a xs
theorem sqAt.keep {tt:Bool}{h h':Heap}{a:Addr}{xs:Array Ji}(q:sqAt tt h a xs)(k:∀o,h.get? a=some o->h'.get? a=some o):sqAt tt h' a xs:=by
 cases tt with
 | true=>exact fO (show h.IsTuple a xs from q) k
 | false=>exact Heap.IsList.at (show h.IsList a xs from q) k
theorem sqAt.lt {tt:Bool}{h:Heap}{a:Addr}{xs:Array Ji}(q:sqAt tt h a xs):a<h.objs.size:=by
 cases tt with
 | true=>obtain⟨o,e,_⟩:=(show h.IsTuple a xs from q);exact Jr e
 | false=>obtain⟨o,e,_⟩:=(show h.IsList a xs from q);exact Jr e
section
variable {prog:JI}{w:Kn}{A:JZ}{E:Ji->Jk->Prop}{s:Jk}
theorem lw {tt:Bool}{it a:Addr}{k:Nat}{xs:Array Ji}{x:Ji}{Q:Ji->Jk->Prop}(hi:itAt tt s.heap it a k)(hs:sqAt tt s.heap a xs)(hx:xs[k]? =some x)
  (hQ:∀h',itAt tt h' it a (k+1)->MD it s.heap h'->Q x { s with heap:=h' }):wpAny (model prog w) A (JE (.ref it)) Q E s:=by
 cases tt with
 | true=>exact Enu.tupNext hi hs hx hQ
 | false=>exact MU hi hs hx hQ
theorem EE {tt:Bool}{it a:Addr}{k:Nat}{xs:Array Ji}{Q:Ji->Jk->Prop}(hh:A.handled=none)(hi:itAt tt s.heap it a k)(hs:sqAt tt s.heap a xs)(hx:xs[k]? =none)
  (hE:∀h' e,Rk it s.heap h'->(∃o,h'.get? e=some o/\o.cls= .type "StopIteration")->E (.ref e) { s with heap:=h' }):wpAny (model prog w) A (JE (.ref it)) Q E s:=by
 cases tt with
 | true=>exact Enu.tupStop hh hi hs hx hE
 | false=>exact O5 hh hi hs hx hE
structure Zw (h:Heap)(n a1 a2:Nat)(t1 t2:Bool)(k:Nat):Prop where
 pr:Ls h (n+2) (.ref n) (.ref (n+1))
 ow:∃a b,Ls h (n+3) a b
 i1:itAt t1 h n a1 k
 i2:itAt t2 h (n+1) a2 k
variable {n a1 a2 k:Nat}{t1 t2:Bool}{xs ys:Array Ji}{x y:Ji}
theorem Zw.keep {h h':Heap}(q:Zw h n a1 a2 t1 t2 k)(e:∀c o,n<=c->c<n+4->h.get? c=some o->h'.get? c=some o):Zw h' n a1 a2 t1 t2 k where
 pr:=e _ _ (by omega) (by omega) q.pr
 ow:=let ⟨a,b,z⟩:=q.ow;⟨a,b,e _ _ (by omega) (by omega) z⟩
 i1:=q.i1.keep λo=>e _ o (by omega) (by omega)
 i2:=q.i2.keep λo=>e _ o (by omega) (by omega)
theorem AQ {Q:Ji->Jk->Prop}(q:Zw s.heap n a1 a2 t1 t2 k)(kz:zO s.heap (n+4) (n+2) (n+3) .none (.bool false))(s1:sqAt t1 s.heap a1 xs)(s2:sqAt t2 s.heap a2 ys)(b1:a1<n\/n+4<a1)(b2:a2<n\/n+4<a2)(hx:xs[k]? =some x)(hy:ys[k]? =some y)
  (kq:∀h' p,s.heap.objs.size<=p->Ls h' p x y->zO h' (n+4) (n+2) (n+3) (rawInt p) (.bool false)->Zw h' n a1 a2 t1 t2 (k+1)->(∀c o,c≠n->c≠n+1->c≠n+3->c≠n+4->s.heap.get? c=some o->h'.get? c=some o)->Q (.ref p) { s with heap:=h' }) :
  wpAny (model prog w) A (Builtin.«zip.__next__» ⟨[.ref (n+4)],[]⟩) (λfin s'=> ∃v,fin= .done (.ret v)/\Q v s') E s:=by
 obtain⟨oa,ob,ho⟩:=q.ow
 show wpAny _ _ (field (.ref (n+4)) 2 >>= _) _ _ _
 refine Je (J1 kz rfl (x:=.bool false) rfl ?_)
 show wpAny _ _ (field (.ref (n+4)) 3 >>= _) _ _ _
 refine Je (J1 kz rfl (x:=.ref (n+2)) rfl ?_)
 refine Je (Kd q.pr rfl ?_)
 show wpAny _ _ (JA (.ref (n+4)) >>= _) _ _ _
 have fr:wpAny (model prog w) A (JA (.ref (n+4))) (λv s'=>v=true/\s'=s) E s:=by
  unfold JA;exact Je (J1 kz rfl (x:=.none) rfl (Jl ⟨rfl,rfl⟩))
 refine Je (Lb fr (λv s' hv=> ?_) λ_ _ z=>z)
 obtain⟨rfl,rfl⟩:=hv;simp only[if_true];refine Je (LU (Je (J1 kz rfl (x:=.ref (n+3)) rfl (Je (Lf kz (by simp) λh₁ kz₁ e₁=> ?_)))))
 replace kz₁:zO h₁ (n+4) (n+2) (n+3) .ellipsis (.bool false):=kz₁
 have q₁:Zw h₁ n a1 a2 t1 t2 k:=q.keep λc o _ hc g=>e₁.extBut c o (bv (by omega)) g
 simp only[Ou,Nt,K5,Lk];refine Je (Je (Je (Oo ?_)))
 show wpAny _ _ (JE (.ref n) >>= _) _ _ _
 refine Je (lw q₁.i1 (s1.keep λo g=>e₁.extBut _ _ (bv (by omega)) g) hx λh₂ g₂ e₂=>Jl ?_)
 have o₂:Ls h₂ (n+3) oa ob:=e₂.extBut _ _ (bv (by omega)) (e₁.extBut _ _ (bv (by omega)) ho)
 refine Je (Kd o₂ rfl (Je (Mt o₂ λh₃ o₃ e₃=>Je (PH (Jl ?_)))))
 replace o₃:Ls h₃ (n+3) x ob:=o₃
 refine Je (Je (Oo ?_))
 show wpAny _ _ (JE (.ref (n+1)) >>= _) _ _ _
 refine Je (lw (q₁.i2.keep λo g=>e₃.extBut _ _ (bv (by omega)) (e₂.extBut _ _ (bv (by omega)) g)) (s2.keep λo g=>e₃.extBut _ _ (bv (by omega)) (e₂.extBut _ _ (bv (by omega)) (e₁.extBut _ _ (bv (by omega)) g))) hy λh₄ g₄ e₄=>Jl ?_)
 have o₄:Ls h₄ (n+3) x ob:=e₄.extBut _ _ (bv (by omega)) o₃
 refine Je (Kd o₄ rfl (Je (Mt o₄ λh₅ o₅ e₅=>Je (PH (Jl (Jl ?_))))))
 replace o₅:Ls h₅ (n+3) x y:=o₅
 refine Je (Kd o₅ rfl (Je (Mx ?_)))
 have z₅:h₅.objs.size=s'.heap.objs.size:=by rw[e₅.1,e₄.1,e₃.1,e₂.1,e₁.1]
 have up:∀c o,c≠n->c≠n+1->c≠n+3->h₁.get? c=some o->h₅.get? c=some o:=λc o c1 c2 c3 g=>e₅.extBut _ _ c3 (e₄.extBut _ _ c2 (e₃.extBut _ _ c3 (e₂.extBut _ _ c1 g)))
 show wpAny _ _ (KH (.ref (n+4)) (.ref h₅.objs.size) >>= _) _ _ _
 have z5:zO (h₅.push { cls:=.type "tuple",data:=.seq #[x,y] }) (n+4) (n+2) (n+3) .ellipsis (.bool false):=Jf _ (up _ _ (bv (by omega)) (bv (by omega)) (bv (by omega)) kz₁)
 have hn:n+4<h₅.objs.size:=Jr (up _ _ (bv (by omega)) (bv (by omega)) (bv (by omega)) kz₁)
 refine Je ?_
 unfold KH;refine Je (Lf z5 (by simp) λh₇ z₇ e₇=> ?_)
 replace z₇:zO h₇ (n+4) (n+2) (n+3) (rawInt h₅.objs.size) (.bool false):=z₇
 refine Lf z₇ (by simp) λh₈ z₈ e₈=>Jl ⟨_,rfl,?_⟩
 replace z₈:zO h₈ (n+4) (n+2) (n+3) (rawInt h₅.objs.size) (.bool false):=z₈
 have up8:∀c o,c≠n+4->h₅.get? c=some o->h₈.get? c=some o:=λc o c1 g=>e₈.extBut _ _ c1 (e₇.extBut _ _ c1 (Jf _ g))
 refine kq h₈ h₅.objs.size (Lj z₅.symm) (e₈.extBut _ _ (bv (by omega)) (e₇.extBut _ _ (bv (by omega)) (Js _ rfl))) z₈ ⟨up8 _ _ (bv (by omega)) (up _ _ (bv (by omega)) (bv (by omega)) (bv (by omega)) q₁.pr),⟨x,y,up8 _ _ (bv (by omega)) o₅⟩,?_,?_⟩ λc o c1 c2 c3 c4 g=>up8 c o c4 (up c o c1 c2 c3 (e₁.extBut _ _ c4 g))
 ·exact g₂.keep λo g=>up8 _ _ (bv (by omega)) (e₅.extBut _ _ (bv (by omega)) (e₄.extBut _ _ (bv (by omega)) (e₃.extBut _ _ (bv (by omega)) g)))
 ·exact g₄.keep λo g=>up8 _ _ (bv (by omega)) (e₅.extBut _ _ (bv (by omega)) g)
abbrev Dl (h:Heap)(t1:Bool)(a1:Addr):Heap:=h.push { cls:=.type (if t1 then "tuple_iterator" else "list_iterator"),data:=.fields #[.ref a1,.int 0 0] }
end
section
variable {prog:JI}{w:Kn}{A:JZ}{E:Ji->Jk->Prop}{s:Jk}
theorem zN {tt:Bool}{a:Addr}{xs:Array Ji}{Q:Ji->Jk->Prop}(q:sqAt tt s.heap a xs)(h:Q (.ref s.heap.objs.size) { s with heap:=Dl s.heap tt a }):wpAny (model prog w) A (pyIter (.ref a)) Q E s:=by
 cases tt with
 | true=>exact Lz (show s.heap.IsTuple a xs from q) h
 | false=>exact Mm (show s.heap.IsList a xs from q) h
end
abbrev Hg (h:Heap)(t1 t2:Bool)(l t:Addr):Heap:=Dl (Dl h t1 l) t2 t
abbrev Hf (h:Heap)(t1 t2:Bool)(l t:Addr):Heap:=(Hg h t1 t2 l t).push { cls:=.type "tuple",data:=.seq #[.ref h.objs.size,.ref (Dl h t1 l).objs.size] }
abbrev He (h:Heap)(t1 t2:Bool)(l t:Addr):Heap:=(Hf h t1 t2 l t).push { cls:=.type "tuple",data:=.seq #[.none,.none] }
abbrev CL (h:Heap)(t1 t2:Bool)(l t:Addr):Heap:=(He h t1 t2 l t).push { cls:=.type "zip",data:=.fields #[.none,.bool false,.bool false,.ref (Hg h t1 t2 l t).objs.size,.ref (Hf h t1 t2 l t).objs.size] }
theorem zk (t1 t2:Bool)(l t:Addr)(xs ys:Array Ji):Meets (Builtin.«zip.__new__» ⟨[.type "zip",.ref l,.ref t],[]⟩) (λ_ R s=>sqAt t1 s.heap l xs/\sqAt t2 s.heap t ys/\R (.ok (.ret (.ref (He s.heap t1 t2 l t).objs.size))) { s with heap:=CL s.heap t1 t2 l t }):=
 .of_wp λprog w A R s q=>by
  obtain⟨hp,g,d,tk,os⟩:=s;obtain⟨a1,a2,q⟩:=q
  have k0:=sub_zip
  have k1:sqAt t1 (Oc ⟨hp,g,d,tk,os⟩) l xs:=a1
  have k2:sqAt t2 (Oc ⟨Dl hp t1 l,g,d,tk,os⟩) t ys:=sqAt.keep a2 λo e=>Jf _ e
  wp_walk using zN k1,zN k2
  exact⟨_,rfl,q⟩
section
variable {prog:JI}{w:Kn}{A:JZ}{E:Ji->Jk->Prop}{s:Jk}
theorem AR {t1 t2:Bool}{l t:Addr}{xs ys:Array Ji}{Q:Ji->Jk->Prop}(a1:sqAt t1 s.heap l xs)(a2:sqAt t2 s.heap t ys)
  (q:∀h',Zw h' s.heap.objs.size l t t1 t2 0->zO h' (s.heap.objs.size+4) (s.heap.objs.size+2) (s.heap.objs.size+3) .none (.bool false)->h'.objs.size=s.heap.objs.size+5 →
   (∀c o,s.heap.get? c=some o->h'.get? c=some o)->Q (.ref (s.heap.objs.size+4)) { s with heap:=h' }) :
  wpAny (model prog w) A (call (.type "zip") [.ref l,.ref t]) Q E s:=by
 refine QN F.called_zip (by decide) (Q6 _ _) (Ro _ _) (λobj=>Pg obj _ _) Rp (zk t1 t2 l t xs ys) ⟨a1,a2,?_⟩
 have z1:(Dl s.heap t1 l).objs.size=s.heap.objs.size+1:=J0 ..
 have z2:(Hg s.heap t1 t2 l t).objs.size=s.heap.objs.size+2:=by rw[J0,z1]
 have z3:(Hf s.heap t1 t2 l t).objs.size=s.heap.objs.size+3:=by rw[J0,z2]
 have z4:(He s.heap t1 t2 l t).objs.size=s.heap.objs.size+4:=by rw[J0,z3]
 have z5:(CL s.heap t1 t2 l t).objs.size=s.heap.objs.size+5:=by rw[J0,z4]
 have g5:(CL s.heap t1 t2 l t).get? (He s.heap t1 t2 l t).objs.size=some _:=Js _ rfl
 have g4:(CL s.heap t1 t2 l t).get? (Hf s.heap t1 t2 l t).objs.size=some _:=Jf _ (Js _ rfl)
 have g3:(CL s.heap t1 t2 l t).get? (Hg s.heap t1 t2 l t).objs.size=some _:=Jf _ (Jf _ (Js _ rfl))
 have g2:(CL s.heap t1 t2 l t).get? (Dl s.heap t1 l).objs.size=some _:=Jf _ (Jf _ (Jf _ (Js _ rfl)))
 have g1:(CL s.heap t1 t2 l t).get? s.heap.objs.size=some _:=Jf _ (Jf _ (Jf _ (Jf _ (Js _ rfl))))
 have up:∀c o,s.heap.get? c=some o->(CL s.heap t1 t2 l t).get? c=some o:=λc o e=>Jf _ (Jf _ (Jf _ (Jf _ (Jf _ e))))
 show _/\_
 rw[z2,z3,z4]at g5;rw[z1,z2]at g3;rw[z3]at g4;rw[z1]at g2;rw[z4];refine⟨⟨_,g5,rfl⟩,q _ ⟨g3,⟨_,_,g4⟩,?_,?_⟩ g5 z5 up⟩
 ·cases t1 with
  | true=>exact⟨_,g1,rfl,rfl⟩
  | false=>exact⟨_,g1,rfl,rfl⟩
 ·cases t2 with
  | true=>exact⟨_,g2,rfl,rfl⟩
  | false=>exact⟨_,g2,rfl,rfl⟩
end
end PySem
namespace L2
open PySem PySem.Spec PyProof.Rows
section
variable {X:Cx}{pins:List (Addr×Obj)}{σ:L2.St}{H:Hp}{s:Jk}
theorem rE {tt:Bool}{a:Addr}{xs:List V}(I:Inv X pins σ H s)(q:xM X.K H a tt xs):∃its:List Ji,Vals xs its/\sqAt tt s.heap a its.toArray/\∀ys,xM X.K H a tt ys->ys=xs:=by
 cases tt with
 | true=>
  have q':SqT X.K H a xs:=q;obtain⟨its,rv,p,hz⟩:=I.tuple q'
  exact⟨its,rv,p,λys hy=>I.HR hy q'⟩
 | false=>
  have q':SqL X.K H a xs:=q;obtain⟨its,rv,p,hz⟩:=I.list q';exact⟨its,rv,p.isList,λys hy=>I.HV hy q'⟩
end
theorem tq {n b:Nat}:b∈ [n+4,n,n+1,n+2,n+3] ↔n<=b/\b<n+5:=by
 simp only[Jp,JN,or_false];omega
end L2
namespace Tr
open PySem PySem.Spec PyProof.Rows L2
def Wk (K:Jg)(O:Ow)(H1:Hp)(l:List T)(v:V):Prop:=∃(aa:Addr) (tt:Bool) (ws:List V),v= .ref aa/\¬ O aa/\Reps K O H1 l ws/\xM K H1 aa tt ws/\(∀P Hc,SameO P H1 Hc->¬ P aa->xM K Hc aa tt ws)/\¬ Nw K H1 aa
theorem CP {K:Jg}{O:Ow}{H1:Hp}{x:T}{l:List T}{v:V}(hl:x.items=some l)(rv:Rep K O H1 x v):Wk K O H1 l v:=by
 cases x with
 | tup m=>
  cases hl;obtain⟨aa,ws,e,n,qq,z⟩:=Rep.HB.mp rv
  exact⟨aa,true,ws,e,n,z,(show SqT K H1 aa ws from SqT.of qq),(λP Hc hsm hn=>show SqT K Hc aa ws from SqT.of (hsm _ _ qq hn)),λw=>by rw[w.1]at qq;cases qq⟩
 | lst m=>
  cases hl;obtain⟨aa,ws,e,n,qq,z⟩:=Rep.HA.mp rv
  exact⟨aa,false,ws,e,n,z,(show SqL K H1 aa ws from SqL.of qq),(λP Hc hsm hn=>show SqL K Hc aa ws from SqL.of (hsm _ _ qq hn)),λw=>by rw[w.1]at qq;cases qq⟩
 | scr m=>
  cases hl;unfold Rep at rv;obtain⟨aa,e,n,qq⟩:=rv
  exact⟨aa,false,_,e,n,Reps.ints,(show SqL K H1 aa _ from qq),(λP Hc hsm hn=>show SqL K Hc aa _ from Tr.SqL.keep hsm hn qq),(Tr.SqL.nn qq)⟩
 | _=>cases hl
end Tr
namespace Tr
open PySem
def c0 (g:List T->Rs T)(_:En):Rs T:=match g []with
 | .ok t=> .ok t
 | _=> .bad
end Tr
namespace Tr
def unN:List Int->T
 | t::ns=> .tup [.int t,.tup (ns.map .int)]
 | [] => .non
def FB:List T->Rs T
 | [a,b] =>match a.items,b.items with
  | some l,some m=>match dR l,rowsT m with
   | some ts,some ks=>if ts.length=ks.length/\0<ts.length/\ts.length<64 then .ok (.lst (((ON N7 ts ks).mergeSort gx).map unN))else .bad
   | _,_=> .bad
  | _,_=> .bad
 | _=> .bad
end Tr
namespace Tr
open PySem L2
def Aw (i:Nat)(Z:En):T->Rs Fl
 | .lst l=>if i<Z.length then .ok (.nx (Z.set i (.ow (.lst l))))else .bad
 | _=> .bad
def lT (i:Nat)(f:En->Rs T)(Z:En):Rs Fl:=f Z >>= Aw i Z
def yv (i:Nat)(Z:En)(l:List T)(v:T):T->Rs Fl
 | .int n=>match ixN l.length n with
  | some j=> .ok (.nx (Z.set i (.ow (.lst (l.set j v)))))
  | none=> .bad
 | _=> .bad
def jK (i:Nat)(fk fv:En->Rs T)(Z:En):Rs Fl:=match Z[i]? with
 | some (.ow (.lst l))=>fv Z >>= λv=>fk Z >>= yv i Z l v
 | _=> .bad
end Tr
namespace Tr
open PySem PySem.Spec PyProof.Rows L2
section
variable {X:Cx}{a b c:Expr}{fa fb fc:En->Rs T}{pos p2 p3:Pos}{x:Str}
theorem Reps.IW {K:Jg}{O:Ow}{H:Hp}:∀{l:List T} {vs:List V} (j:Nat) {t:T} {v:V},Reps K O H l vs->Rep K O H t v->Reps K O H (l.set j t) (vs.set j v)
 | [],_,j,_,_,r,_=>by rw[Reps.Hy.mp r];exact Reps.HI
 | _::_,_,0,_,_,r,z=>by obtain⟨v,ws,rfl,p,q⟩:=Reps.me.mp r;exact Reps.HE z q
 | _::_,_,j+1,_,_,r,z=>by obtain⟨v,ws,rfl,p,q⟩:=Reps.me.mp r;exact Reps.HE p (q.IW j z)
theorem Bi (i:Nat)(hb:cj X b fb)(hc:cj X c fc)(hN:X.N[i]? =some x:=by rfl)(hv:xG X.env.scope x:=by first | exact Lx rfl | exact KO (Lx rfl) | exact KO (KO rfl))
  (hd:ie x:=by decide) (hcd:(x == ("__classdict__" : Str))=false:=by decide)
  (hs:Nj [.Subscript (.Name x p2) b p3] c pos.line X.env=pure false:=by rfl) (hw:Nk [.Subscript (.Name x p2) b p3] c X.env=pure none:=by rfl)
  (h1:(KL [.Subscript (.Name x p2) b p3] X.env).map (·.2)= [assign (.Subscript (.Name x p2) b p3) X.env]:=by rfl)
  (ha:∀v,assign (.Subscript (.Name x p2) b p3) X.env v=(do
   let ov <-holding [v] (eval (.Name x p2) X.env)
   let iv <-holding [v,ov] (eval b X.env)
   standAt p3
   holding [v,ov,iv] (setItem ov iv v)
   release [v,ov,iv] []):=by intro _;rfl):n8 X (.Assign [.Subscript (.Name x p2) b p3] c pos) (jK i fb fc):=by
 refine PS.imp (yK hc (Ee (lX hN hv hd hcd) hb yu ha) hs hw h1) λD σ H ⟨Z,B,M,E,h⟩=> ?_
 unfold jK at h
 split at h
 ·rename_i l hl
  obtain⟨v0,e1,b,vs,rfl,hM,e3,e4⟩:=E.env.own i _ hl;refine⟨Z,OO B M,E.o,?_⟩
  cases q:fc Z with
  | bad=>rw[q]at h;exact h.elim
  | err c=>rw[q]at h;exact PostF.xa h
  | ok vT=>
   rw[q,aE]at h;intro H1 s1 v r;refine⟨.ref b,e1,Z,OO B M,(E.same s1).o,?_⟩
   have h1:=h.later (SameO.of s1) (P1:=M.u) λa z=> .inl z
   cases q2:fb Z with
   | bad=>rw[q2]at h1;exact h1.elim
   | err c=>rw[q2]at h1;exact PostF.xa h1
   | ok kT=>
    rw[q2,aE]at h1;intro H2 s2 y ry
    have h2:=h1.later (SameO.of s2) (P1:=M.u) λa z=> .inl z
    unfold yv at h2
    split at h2
    ·rename_i n
     split at h2
     ·rename_i j hj
      have e3':=s2 _ _ (s1 _ _ e3)
      have ry':y= .int n:=by unfold Rep at ry;exact ry
      refine⟨b,vs,n,j,rfl,ry',e3',by rw[<-e4.length];exact hj,?_⟩
      obtain⟨g1,g2⟩:=((E.same s1).same s2).putL (l':=l.set j vT) (vs':=vs.set j v) hl e1 hM (((e4.same s1).same s2).IW j (r.same s2));exact h2 σ _ M g2 g1 λc z=> .inl z
     ·exact h2.elim
    ·exact h2.elim
 ·exact h.elim
theorem tJ:CallR X (.type "list") (λxs H Q=> ∃p ys,xs= [.ref p]/\SqL X.K H p ys/\∀l,Nw X.K H l->Q (.ref l) (upd H l (.lst ys))):=by
 intro pins s σ H xs us Q I r h;obtain⟨p,ys,rfl,hq,q⟩:=h;obtain⟨u,rfl,rx⟩:=gX r;cases rx;obtain⟨its,r',pl,hz⟩:=I.list hq
 have hlen:=r'.length;obtain⟨o,ho,hc,n,hd⟩:=pl.isList
 have hk:X.K.lookup s.heap.objs.size=none:=by
  cases q:X.K.lookup s.heap.objs.size with
  | none=>rfl
  | some o=>exact absurd (Jr (I.kIn _ o q)) (JJ _)
 exact call_list_seq p (.inl rfl) ho hc hd (λh' c' kp e=>⟨.ref s.heap.objs.size,_,I.laid (t':=s.toks) kp (Jv _) (show ObjOk X.prog X.w _ h' _ (.lst ys)from⟨hz,its,c',r',e⟩),rfl,q _ ⟨I.hok.fresh (Jv _),hk⟩⟩) (by simp only[Jw] <;> omega)
theorem Bo (i:Nat){p:Pos}(hN:X.N.Nodup)(hm:X.mg "list" =none)(ha:cj X a fa)(hi:X.N[i]? =some x:=by rfl)(hx:Loc X.env.scope x:=by first | exact Lx rfl | exact KO rfl)(hg:Gl X "list":=by rfl)(hn:bO a=true:=by rfl)
  (hs:KP (.Call (.Name "list" p) [a] [] p2) (some (.Name x p3)) pos.line X.env=pure false:=by rfl)
  (hf:X.fn x=true\/X.env.scope.names.lookup x=some .local:=by first | exact .inl rfl | exact .inr rfl | assumption):n8 X (.Assign [.Name x p3] (.Call (.Name "list" p) [a] [] p2) pos) (lT i fa):=by
 have h1:JF [a] X.env=(false,eval a X.env)::JF [] X.env:=ba hn;refine PS.imp (ua hN hi hx (wH tJ hg hm (show JT "list" =some (.type "list")by decide+kernel) (gp ha kg h1) (by decide) (by decide) h1 rfl) hs hf) λD σ H ⟨Z,B,M,E,h⟩=> ?_
 refine⟨Z,OO B M,E.o,?_⟩
 unfold lT at h
 cases q:fa Z with
 | bad=>rw[q]at h;exact h.elim
 | err c=>rw[q]at h;exact PostF.xa h
 | ok t=>
  rw[q,aE]at h;unfold Aw at h
  split at h
  ·rename_i l
   by_cases hl:i<Z.length
   ·rw[if_pos hl]at h
    intro H1 s1 v r;obtain⟨c,ws,rfl,nO,hc,rm⟩:=Rep.HA.mp r;refine⟨c,ws,rfl,SqL.of hc,λp hp=> ?_⟩
    have hm:∀a,a=p->Nw X.K H1 a:=λa z=>z▸hp
    obtain⟨E2,sub⟩:=(E.same s1).new (m:=λa=>a=p) (o:=.lst l) (v:=.ref p) (H':=upd H1 p (.lst ws)) hl hm (aN hp.1 _) ⟨p,ws,rfl,λb=>Np,aP,(rm.more (Ev.subO hm)).same (aN hp.1 _)⟩
    exact h _ _ _ (SameO.of (s1.trans (aN hp.1 _))) E2 λa z=>(sub a z).imp_right (vf s1)
   ·rw[if_neg hl]at h;exact h.elim
  ·exact h.elim
end
end Tr
namespace PySem
open Sem (wp)
open L2 (itAt)
structure PW (prog:JI)(w:Kn)(A:JZ)(I:Addr)(T:String)(fp wr:List Addr)(n:Nat)(R:Nat->Ji->Ji->Prop)(St:Nat->Option Addr->Heap->Prop):Prop where
 sub:∀b∈wr,b∈fp
 ty:∀i o (s:Jk),St i o s.heap->s.TypeIs (.ref I) T
 frame:∀i o h h',St i o h->(∀b∈fp,∀ob,h.get? b=some ob->h'.get? b=some ob)->St i o h'
 item:∀i o (s:Jk) (Q:Option Ji->Jk->Prop) (E:Ji->Jk->Prop),i<n->St i o s.heap->(∀t,o=some t->∃ob,s.heap.get? t=some ob) →
  (∀p h' tk x y,R i x y->s.heap.objs.size<=p->Ls h' p x y->St (i+1) (some (o.getD p)) h'->(∀b ob,b∉wr->s.heap.get? b=some ob->h'.get? b=some ob)->Q (some (.ref p)) { s with heap:=h',toks:=tk })->wpAny (model prog w) A (pyNext (.ref I)) Q E s
 done:∀t (s:Jk) (Q:Option Ji->Jk->Prop) (E:Ji->Jk->Prop),St n (some t) s.heap->(∃ob,s.heap.get? t=some ob)->(∀h' tk,(∀b ob,b∉wr->s.heap.get? b=some ob->h'.get? b=some ob)->Q none { s with heap:=h',toks:=tk })->wpAny (model prog w) A (pyNext (.ref I)) Q E s
 self:∀i o (s:Jk) (Q:Ji->Jk->Prop) (E:Ji->Jk->Prop),St i o s.heap->Q (.ref I) s->wpAny (model prog w) A (pyIter (.ref I)) Q E s
abbrev gv (ps:List Addr)(c:Nat):Obj:={ cls:=.type "list",dict:=none,data:=.seq (ps.map Jz).toArray c,slots:=#[] }
section
variable {prog:JI}{w:Kn}{A:JZ}{RR:Rv->Jk->Prop}{I:Addr}{T:String}{fp wr:List Addr}{n:Nat}{R:Nat->Ji->Ji->Prop}{St:Nat->Option Addr->Heap->Prop}
theorem BB (W:PW prog w A.in1 I T fp wr n R St)(hn:n<=sizeLine)(h0:0<n)(S N0:Nat)(hSf:S∉fp)(hSN:S<N0)(hw:∀b:Nat,b∈wr->b<N0)(res:Ji) :
  ∀(k i:Nat) (s:Jk) (ps:List Addr) (c:Nat),n - i=k->i<=n->St i ps.head? s.heap->N0<=s.heap.objs.size->s.heap.get? S=some (gv ps c)->ps.length=i->(∀(j:Nat) (p:Nat),ps[j]? =some p->N0<=p/\∃x y,R j x y/\Ls s.heap p x y) →
  (∀h' tk ps' c',(∀b ob,b≠S->b∉wr->s.heap.get? b=some ob->h'.get? b=some ob)->h'.get? S=some (gv ps' c')->ps'.length=n->(∀(j:Nat) (p:Nat),ps'[j]? =some p->N0<=p/\∃x y,R j x y/\Ls h' p x y)->RR (.ok (.ret res)) { s with heap:=h',toks:=tk }) →
  codeAny (model prog w) A (.builtin "list.extend.loop" ⟨[.ref S,.ref I,res],[]⟩) RR s:=by
 have hSw:S∉wr:=λh=>hSf (W.sub _ h)
 intro k
 induction k with
 | zero=>
  intro i s ps c hk hi hst hN hS hl hp hR
  have hin:i=n:=by omega
  subst hin;refine Lq Px ?_
  rw[KB L1 _]
  show wpAny _ A.in1 (pyNext (.ref I) >>= _) _ _ s
  match ps,hl,hst,hp,hS with
  | [],hl,_,_,_=>simp at hl;omega
  | t::ps',hl,hst,hp,hS=>
   obtain⟨_,x,y,_,hx⟩:=hp 0 t rfl;refine Je (W.done t s _ _ hst ⟨_,hx⟩ λh' tk kp=> ?_)
   exact Jl (hR h' tk (t::ps') c (λb ob _ hb e=>kp b ob hb e) (kp S _ hSw hS) hl λj p hj=>by
    obtain⟨a,x,y,r,z⟩:=hp j p hj
    exact⟨a,x,y,r,kp p _ (λm=>JJ _ (Jt (hw p m) a)) z⟩)
 | succ k ih=>
  intro i s ps c hk hi hst hN hS hl hp hR
  have hlt:i<n:=by omega
  refine Lq Px ?_
  rw[KB L1 _]
  show wpAny _ A.in1 (pyNext (.ref I) >>= _) _ _ s
  have alive:∀t,ps.head?=some t->∃ob,s.heap.get? t=some ob:=λt ht=>by
   obtain⟨_,x,y,_,hx⟩:=hp 0 t (by rw[<-List.head?_eq_getElem?];exact ht)
   exact⟨_,hx⟩
  refine Je (W.item i ps.head? s _ _ hlt hst alive λp h' tk x y r hsz ip st' kp=> ?_)
  have hS':=kp S _ hSw hS
  have hSl:S<s.heap.objs.size:=Jr hS
  have hpS:p≠S:=λz=>by rw[z]at hsz;exact JJ _ (Jt hSl hsz)
  show wpAny _ A.in1 (updateSeq S (·.push (.ref p)) >>= _) _ _ _
  refine Je ?_
  have hd:(ps++ [p]).head?=some (ps.head?.getD p):=by cases ps <;> rfl
  have hlen:(ps.map Jz).toArray.size=i:=by rw[Jw,Jm,hl]
  obtain⟨c2,hS2⟩:∃c2,(h'.update S (KR (·.push (.ref p)))).get? S=some (gv (ps++ [p]) c2):=by
   have g:=Rc (show h'.get? S=some (PyProof.Rows.seqObj "list" (ps.map Jz).toArray c)from hS') (·.push (.ref p))
   have e:(ps.map Jz).toArray.push (Jz p)=((ps++ [p]).map Jz).toArray:=by rw[J6,Jn,ME,List.push_toArray]
   rw[e]at g;exact⟨_,g⟩
  refine O6 hS' rfl (Jl ⟨L3 L1 _,ih (i+1) { s with heap:=h'.update S (KR (·.push (.ref p))),toks:=tk } (ps++ [p]) c2 (by omega) hlt (by
   rw[hd];exact W.frame _ _ _ _ st' λb hb ob e=>(Kq _ _ (λh:S=b=>hSf (by rw[h];exact hb))).trans e) (by rw[Lh];exact JQ hN (KD (Ly hsz (Jr ip)))) hS2 (by rw[Ju];simp[hl]) (λj q hj=> ?_) λh'' tk'' ps' c' kp' hS'' hl' hp'=> ?_⟩)
   (by rw[hlen];omega) (by show((ps.map Jz).toArray.push (.ref p)).size<=sizeLine+1;rw[Array.size_push,hlen];omega)
  ·rw[List.getElem?_append]at hj
   split at hj
   ·rename_i hjl
    obtain⟨a,x',y',r',z⟩:=hp j q hj
    have hqS:q≠S:=λz=>by rw[z]at a;exact JJ _ (Jt hSN a)
    exact⟨a,x',y',r',(Kq _ _ (MW hqS)).trans (kp q _ (λm=>JJ _ (Jt (hw q m) a)) z)⟩
   ·rename_i hjl
    have hj0:j=i:=by
     have:=(Jy.mp hj).1
     simp at this;omega
    subst hj0;rw[hl,NN]at hj;cases hj;exact⟨JQ hN hsz,x,y,r,(Kq _ _ (MW hpS)).trans ip⟩
  ·exact hR h'' tk'' ps' c' (λb ob hb hbw e=>kp' b ob hb hbw ((Kq _ _ (MW hb)).trans (kp b ob hbw e))) hS'' hl' hp'
theorem wC (W:PW prog w A.in1 I T fp wr n R St)(hn:n<=sizeLine)(h0:0<n){s:Jk}{S c0:Nat}(hSf:S∉fp)(hIf:I∈fp)(hw:∀b:Nat,b∈wr->b<s.heap.objs.size)(res:Ji)(hst:St 0 none s.heap)(hS:s.heap.get? S=some (gv [] c0))
  (t1:(Kf T == Kf "list")=false) (t2:(Kf T == Kf "tuple")=false) (nl:LS (.type T) "__len__" =pure none) (nh:LS (.type T) "__length_hint__" =pure none)
  (hR:∀h' tk ps c',(∀b ob,b≠S->b∉wr->s.heap.get? b=some ob->h'.get? b=some ob)->h'.get? S=some (gv ps c')->ps.length=n->(∀(j:Nat) (p:Nat),ps[j]? =some p->s.heap.objs.size<=p/\∃x y,R j x y/\Ls h' p x y)->RR (.ok (.ret res)) { s with heap:=h',toks:=tk }) :
  wpAny (model prog w) A.in1 (L9 (.ref S) (.ref I) res)
   (λfin s'=>match fin with | .done f=>RR (.ok f) s' | .again c'=>c'.quiet=true/\codeAny (model prog w) A c' RR s') (λe s'=>RR (.error e) s') s:=by
 have hSI:S≠I:=λe=>hSf (e▸hIf)
 unfold L9;refine Je (LA (W.ty 0 none s hst) ?_)
 have h1:NZ (.ref S) (.ref I)=false:=by simp[NZ,hSI]
 simp only[h1,t1,t2,Bool.or_false,JY,if_false];refine Je (W.self 0 none _ _ _ hst ?_)
 refine Je (J3 ?_)
 unfold Builtin.List.listLengthHint;refine Je (O0 (W.ty 0 none s hst) nl ?_)
 show wpAny _ A.in1 (specialOf (Jz I) (JC "__length_hint__") >>= _) _ _ _
 refine Je (O0 (W.ty 0 none s hst) nh ?_)
 refine Jl ?_
 have hSl:S<s.heap.objs.size:=Jr hS
 have key:∀(h:Heap) (c₁:Nat),h.objs.size=s.heap.objs.size->(∀b o,b≠S->s.heap.get? b=some o->h.get? b=some o)->h.get? S=some (gv [] c₁)->codeAny (model prog w) A (.builtin "list.extend.loop" ⟨[.ref S,.ref I,res],[]⟩) RR { s with heap:=h }:=λh c₁ hz hk hS₁=>
  BB W hn h0 S s.heap.objs.size hSf hSl hw res n 0 { s with heap:=h } [] c₁ rfl (KA _) (W.frame _ _ _ _ hst λb hb ob e=>hk b ob (λz=>hSf (z▸hb)) e) (Lj hz.symm) hS₁ rfl (λj p hj=>by cases hj)
   λh' tk ps c' kp a b c=>hR h' tk ps c' (λb ob hb hbw e=>kp b ob hb hbw (hk b ob hb e)) a b c
 refine wpAny_ite_split (λ_=> ?_) (λ_=>Jl ⟨L3 L1 _,key s.heap c0 rfl (λb o _ e=>e) hS⟩)
 refine Je (LU ?_)
 refine Je ?_
 show wpAny _ A.in1 (updateSeq S (·.push .none) >>= λ_=>updateSeq S (·.pop)) _ _ _
 refine Je (O6 hS rfl ?_)
 have hS₂:=Ma (KR (·.push Ki)) hS rfl
 refine O6 hS₂ rfl ?_
 have hS₃:=Ma (KR (·.pop)) hS₂ rfl
 refine Jl ⟨L3 L1 _,key _ _ (by rw[Lh,Lh]) (λb o hb e=>(Kq _ _ (MW hb)).trans ((Kq _ _ (MW hb)).trans e)) hS₃⟩
end
namespace F
theorem zip_no_len:LS (.type "zip") "__len__" =pure none:=by rw[Mf,K8];kernel_rfl
theorem zip_no_hint:LS (.type "zip") "__length_hint__" =pure none:=by rw[Mf,K8];kernel_rfl
end F
section
variable {prog:JI}{w:Kn}{A:JZ}{E:Ji->Jk->Prop}{s:Jk}{n a1 a2 k:Nat}{t1 t2:Bool}{xs ys:Array Ji}{x y:Ji}
theorem AO {T:Addr}{ob:Obj}{f:Bool}{Q:Ji->Jk->Prop}(q:Zw s.heap n a1 a2 t1 t2 k)(kz:zO s.heap (n+4) (n+2) (n+3) (rawInt T) (.bool f))(kT:s.heap.get? T=some ob)(s1:sqAt t1 s.heap a1 xs)(s2:sqAt t2 s.heap a2 ys)(b1:a1<n)(b2:a2<n)(hx:xs[k]? =some x)(hy:ys[k]? =some y)
  (kq:∀h' p,s.heap.objs.size<=p->Ls h' p x y->zO h' (n+4) (n+2) (n+3) (rawInt T) (.bool true)->Zw h' n a1 a2 t1 t2 (k+1)->(∀c o,c≠n->c≠n+1->c≠n+4->s.heap.get? c=some o->h'.get? c=some o)->Q (.ref p) { s with heap:=h' }) :
  wpAny (model prog w) A (Builtin.«zip.__next__» ⟨[.ref (n+4)],[]⟩) (λfin s'=> ∃v,fin= .done (.ret v)/\Q v s') E s:=by
 show wpAny _ _ (field (.ref (n+4)) 2 >>= _) _ _ _
 refine Je (J1 kz rfl (x:=.bool false) rfl ?_)
 show wpAny _ _ (field (.ref (n+4)) 3 >>= _) _ _ _
 refine Je (J1 kz rfl (x:=.ref (n+2)) rfl ?_)
 refine Je (Kd q.pr rfl ?_)
 show wpAny _ _ (JA (.ref (n+4)) >>= _) _ _ _
 refine Je (jz kz kT λh₁ kz₁ e₁ z₁=> ?_)
 have q₁:Zw h₁ n a1 a2 t1 t2 k:=q.keep λc o _ hc g=>e₁ c o (bv (by omega)) g
 simp only[JY,if_false,MM,K5,Lk];refine Je (Je (Je (J3 ?_)))
 show wpAny _ _ (JE (.ref n) >>= _) _ _ _
 refine Je (lw q₁.i1 (s1.keep λo g=>e₁ _ _ (bv (by omega)) g) hx λh₂ g₂ e₂=>Jl ?_)
 refine Jl (Je (Je (J3 ?_)))
 show wpAny _ _ (JE (.ref (n+1)) >>= _) _ _ _
 refine Je (lw (q₁.i2.keep λo g=>e₂.extBut _ _ (bv (by omega)) g) (s2.keep λo g=>e₂.extBut _ _ (bv (by omega)) (e₁ _ _ (bv (by omega)) g)) hy λh₃ g₃ e₃=>Jl (Jl (Jl ?_)))
 show wpAny _ _ (newTuple [x,y] >>= _) _ _ _
 refine Je (Mx (Jl ⟨_,rfl,?_⟩))
 have z₃:h₃.objs.size=s.heap.objs.size:=by rw[e₃.1,e₂.1,z₁]
 have up:∀c o,c≠n->c≠n+1->h₁.get? c=some o->(h₃.push { cls:=.type "tuple",data:=.seq #[x,y] }).get? c=some o:=λc o c1 c2 g=>Jf _ (e₃.extBut _ _ c2 (e₂.extBut _ _ c1 g))
 obtain⟨oa,ob',ho⟩:=q₁.ow;refine kq _ h₃.objs.size (Lj z₃.symm) (Js _ rfl) (up _ _ (bv (by omega)) (bv (by omega)) kz₁) ⟨up _ _ (bv (by omega)) (bv (by omega)) q₁.pr,⟨oa,ob',up _ _ (bv (by omega)) (bv (by omega)) ho⟩,?_,?_⟩ λc o c1 c2 c4 g=>up c o c1 c2 (e₁ c o c4 g)
 ·exact g₂.keep λo g=>Jf _ (e₃.extBut _ _ (bv (by omega)) g)
 ·exact g₃.keep λo g=>Jf _ g
theorem AN {T:Addr}{ob:Obj}{f:Bool}{Q:Fin->Jk->Prop}(hh:A.handled=none)(q:Zw s.heap n a1 a2 t1 t2 k)(kz:zO s.heap (n+4) (n+2) (n+3) (rawInt T) (.bool f))(kT:s.heap.get? T=some ob)(s1:sqAt t1 s.heap a1 xs)(b1:a1<n)(hx:xs[k]? =none)
  (ke:∀h' e,(∀c o,c≠n->c≠n+4->s.heap.get? c=some o->h'.get? c=some o)->(∃o,h'.get? e=some o/\o.cls= .type "StopIteration")->E (.ref e) { s with heap:=h' }) :
  wpAny (model prog w) A (Builtin.«zip.__next__» ⟨[.ref (n+4)],[]⟩) Q E s:=by
 show wpAny _ _ (field (.ref (n+4)) 2 >>= _) _ _ _
 refine Je (J1 kz rfl (x:=.bool false) rfl ?_)
 show wpAny _ _ (field (.ref (n+4)) 3 >>= _) _ _ _
 refine Je (J1 kz rfl (x:=.ref (n+2)) rfl ?_)
 refine Je (Kd q.pr rfl ?_)
 show wpAny _ _ (JA (.ref (n+4)) >>= _) _ _ _
 refine Je (jz kz kT λh₁ kz₁ e₁ z₁=> ?_)
 have q₁:Zw h₁ n a1 a2 t1 t2 k:=q.keep λc o _ hc g=>e₁ c o (bv (by omega)) g
 simp only[JY,if_false,MM,K5,Lk];refine Je (Je (Je (J3 ?_)))
 show wpAny _ _ (JE (.ref n) >>= _) _ _ _
 exact Je (EE hh q₁.i1 (s1.keep λo g=>e₁ _ _ (bv (by omega)) g) hx λh₂ e e₂ he=>ke h₂ e (λc o c1 c4 g=>e₂ _ _ c1 (e₁ c o c4 g)) he)
def ZS (n a1 a2:Nat)(t1 t2:Bool)(xs ys:Array Ji)(k:Nat)(o:Option Addr)(h:Heap):Prop:=
 Zw h n a1 a2 t1 t2 k/\sqAt t1 h a1 xs/\sqAt t2 h a2 ys/\match o with
  | none=>zO h (n+4) (n+2) (n+3) .none (.bool false)
  | some T=> ∃f,zO h (n+4) (n+2) (n+3) (rawInt T) (.bool f)
theorem xO {o:Option Addr}(q:ZS n a1 a2 t1 t2 xs ys k o s.heap):s.TypeIs (.ref (n+4)) "zip":=by
 cases o with
 | none=>exact⟨_,q.2.2.2,rfl⟩
 | some T=>obtain⟨f,e⟩:=q.2.2.2;exact⟨_,e,rfl⟩
theorem D1 (hh:A.handled=none)(b1:a1<n)(b2:a2<n)(hl:xs.size=ys.size) :
  PW prog w A (n+4) "zip" [n+4,n,n+1,n+2,n+3,a1,a2] [n+4,n,n+1,n+3] xs.size (λi x y=>xs[i]? =some x/\ys[i]? =some y) (ZS n a1 a2 t1 t2 xs ys) where
 sub:=λb hb=>by simp only[Jp,JN,or_false]at hb ⊢;rcases hb with rfl | rfl | rfl | rfl <;> simp
 ty:=λi o s q=>xO q
 frame:=λi o h h' ⟨q,s1,s2,z⟩ e=>by
  have up:∀c:Nat,(n<=c/\c<n+5)\/c=a1\/c=a2->∀ob,h.get? c=some ob->h'.get? c=some ob:=λc hc ob g=>e c (by
   simp only[Jp,JN,or_false];rcases hc with hc | rfl | rfl
   ·have:c=n\/c=n+1\/c=n+2\/c=n+3\/c=n+4:=by omega
    rcases this with rfl | rfl | rfl | rfl | rfl <;> simp
   ·simp
   ·simp) ob g
  refine⟨q.keep λc o h1 h2 g=>up c (.inl ⟨h1,KU h2⟩) o g,s1.keep λo g=>up a1 (.inr (.inl rfl)) o g,s2.keep λo g=>up a2 (.inr (.inr rfl)) o g,?_⟩
  cases o with
  | none=>exact up (n+4) (.inl ⟨by omega,by omega⟩) _ z
  | some T=>obtain⟨f,z⟩:=z;exact⟨f,up (n+4) (.inl ⟨by omega,by omega⟩) _ z⟩
 item:=λi o s Q E hi ⟨q,s1,s2,z⟩ al kq=>by
  have hx:xs[i]? =some xs[i]:=NT hi
  have hy:ys[i]? =some ys[i]:=NT (hl▸hi)
  have hy':s.TypeIs (.ref (n+4)) "zip":=xO (o:=o) ⟨q,s1,s2,z⟩
  have nw:∀{b:Addr},b∉ [n+4,n,n+1,n+3]->b≠n/\b≠n+1/\b≠n+3/\b≠n+4:=λ{b} hb=>by
   simp only[Jp,JN,or_false,not_or]at hb;exact⟨hb.2.1,hb.2.2.1,hb.2.2.2,hb.1⟩
  unfold pyNext;refine Je (Mo (J4 (name:=JC "__next__") hy' Ks (J9 Ks hy' MA ?_ (Mi _))))
  cases o with
  | none=>
   refine AQ q z s1 s2 (.inl b1) (.inl b2) hx hy λh' p hs ip zo zw kp=>Jl (kq p h' s.toks _ _ ⟨hx,hy⟩ hs ip ⟨zw,s1.keep λo g=>kp _ _ (bv (by omega)) (bv (by omega)) (bv (by omega)) (bv (by omega)) g,s2.keep λo g=>kp _ _ (bv (by omega)) (bv (by omega)) (bv (by omega)) (bv (by omega)) g,false,zo⟩ λb ob hb g=> ?_)
   obtain⟨c1,c2,c3,c4⟩:=nw hb
   exact kp b ob c1 c2 c3 c4 g
  | some T=>
   obtain⟨f,z⟩:=z;obtain⟨ob,hT⟩:=al T rfl;refine AO q z hT s1 s2 b1 b2 hx hy λh' p hs ip zo zw kp=>Jl (kq p h' s.toks _ _ ⟨hx,hy⟩ hs ip ⟨zw,s1.keep λo g=>kp _ _ (bv (by omega)) (bv (by omega)) (bv (by omega)) g,s2.keep λo g=>kp _ _ (bv (by omega)) (bv (by omega)) (bv (by omega)) g,true,zo⟩ λb ob hb g=> ?_)
   obtain⟨c1,c2,c3,c4⟩:=nw hb;exact kp b ob c1 c2 c4 g
 done:=λT s Q E ⟨q,s1,s2,f,z⟩ ⟨ob,hT⟩ kq=>by
  have hy':s.TypeIs (.ref (n+4)) "zip":=⟨_,z,rfl⟩;unfold pyNext;refine Je (Mo (J4 (name:=JC "__next__") hy' Ks (J9 Ks hy' MA (AN hh q z hT s1 b1 (OC (Jv _)) λh' e kp he=> ?_) (Mi _))))
  obtain⟨o,ho,hc⟩:=he;refine Je (Oz (T:="StopIteration") (b:=true) ⟨o,ho,hc⟩ Po (Jl (kq h' s.toks λb ob hb g=> ?_)))
  simp only[Jp,JN,or_false,not_or]at hb;exact kp b ob hb.2.1 hb.1 g
 self:=λi o s Q E q h=>by
  have hy':s.TypeIs (.ref (n+4)) "zip":=xO q;refine Qy hy' Nv (J9 Nv hy' Q5 ?_ (Qo _))
  show wpAny _ _ (ret (.ref (n+4))) _ _ s
  exact Jl ⟨_,rfl,"zip",_,hy',Ks.lookup,h⟩
end
end PySem
namespace PySem
open Sem (wp)
section
variable {prog:JI}{w:Kn}{A:JZ}{I:Addr}{T:String}{fp wr:List Addr}{n:Nat}{R:Nat->Ji->Ji->Prop}{St:Nat->Option Addr->Heap->Prop}{E:Ji->Jk->Prop}{s:Jk}
theorem t9 {Q:List Ji->Jk->Prop}(W:PW prog w A.in1 I T fp wr n R St)(hn:n<=sizeLine)(h0:0<n)(hfp:∀b:Nat,b∈fp->b<s.heap.objs.size)(hI:I∈fp)(hst:St 0 none s.heap)
  (t1:(Kf T == Kf "list")=false) (t2:(Kf T == Kf "tuple")=false) (nl:LS (.type T) "__len__" =pure none) (nh:LS (.type T) "__length_hint__" =pure none)
  (hQ:∀h' tk (ps:List Addr),(∀b ob,b∉wr->s.heap.get? b=some ob->h'.get? b=some ob)->ps.length=n->(∀(j:Nat) (p:Nat),ps[j]? =some p->s.heap.objs.size<=p/\∃x y,R j x y/\Ls h' p x y)->Q (ps.map Jz) { s with heap:=h',toks:=tk }) :
  wpAny (model prog w) A (collect (.ref I)) Q E s:=by
 have hSf:s.heap.objs.size∉fp:=λhm=>JJ _ (hfp _ hm)
 unfold collect;refine Je (wpAny_runValue (Lq F.entry_proto_collect ?_))
 rw[KB F.plain_proto_collect _]
 show wpAny _ A.in1 (newList [] >>= λl=>again (.builtin "list.__iadd__" ⟨[l,.ref I],[]⟩)) _ _ s
 refine Je (KM ?_)
 refine Jl ⟨L3 Qp _,Lq F.entry_list_iadd ?_⟩
 rw[KB Qp _]
 have up:∀b ob,s.heap.get? b=some ob->(s.heap.push (gv [] 0)).get? b=some ob:=λb ob e=>Jf _ e
 show wpAny _ A.in1 (L9 (.ref s.heap.objs.size) (.ref I) (.ref s.heap.objs.size)) _ _ { s with heap:=s.heap.push (gv [] 0) }
 refine wC (RR:=λr s'=>match r with
  | .ok (.ret v)=>wpAny (model prog w) A (match v with
   | .ref a=>do
    let o <-load a
    match o.data with
    | .seq xs _=>pure xs.toList
    | _=>unsupported "internal:collect"
   | _=>unsupported "internal:collect") Q E s'
  | .ok _=>False
  | .error e=>E e s') (s:={ s with heap:=s.heap.push (gv [] 0) }) W hn h0 hSf hI (λb hb=> ?_) _ (W.frame _ _ _ _ hst λb _ ob e=>up b ob e) (Js _ rfl) t1 t2 nl nh λh' tk ps c' kp hS hl hp=> ?_
 ·rw[J0];exact KU (hfp b (W.sub b hb))
 show wpAny _ A (load s.heap.objs.size >>= _) _ _ _
 refine Je (wpAny_load hS ?_)
 show wpAny _ A (pure (ps.map Jz).toArray.toList) Q E _
 refine Jl (hQ h' tk ps (λb ob hb e=>kp b ob (JR (Jr e)) hb (up b ob e)) hl λj p hj=> ?_)
 obtain⟨a,r⟩:=hp j p hj;rw[J0]at a;exact⟨Mh a,r⟩
end
end PySem
namespace Tr
open PySem PySem.Spec PyProof.Rows L2 PySem.W
theorem mI {prog:JI}{w:Kn}:∀{vs:List Ji} {ns:List Int},K7 vs ns->PySem.ItemsAre (intKind prog w) ns vs
 | _,_,.nil=> .nil
 | _,_,.cons n t r=> .cons (by show Pr n (.int n t)=true;simp[Pr]) (mI r)
def VN (h:Heap)(v:Ji)(ns:List Int):Prop:=∃a t k b its ms,v= .ref a/\Ls h a (.int t k) (.ref b)/\h.IsTuple b its/\K7 its.toList ms/\ns=t::ms
theorem zn (t u:Int)(a b:List Int):bR (t::a) (u::b)=if t=u then bR a b else decide (t<u):=rfl
theorem Ca {prog:JI}{w:Kn}{A:JZ}{E:Ji->Jk->Prop}{s:Jk}{a b:Int}{t u:Tok}{Q:Bool->Jk->Prop}(h:Q (decide (a<b)) s):∀k,wpAny (model prog w) A (oneLt' k (.int a t) (.int b u)) Q E s
 | true=>oneLt_int h
 | false=>by
  rw[oneLt'_eq];simp only[JY,if_false];exact Je (wpAny_lt_int (show wpAny (model prog w) A (truthOfDropped (.bool (decide (a<b)))) Q E s from Kx h))
theorem zm:∀(l m:List Int),HT.lexLt l m=bR l m
 | [],[] =>rfl
 | [],_::_=>rfl
 | _::_,[] =>rfl
 | a::l,b::m=>by
  rw[HT.lexLt_cons,zm l m]
  rfl
def rkN:RK where
 V:=VN
 inj:=λ⟨a,t,k,b,its,ms,e,p,q,i,r⟩ ⟨a',t',k',b',its',ms',e',p',q',i',r'⟩=>by
  subst e;cases e'
  have pp:=JW (p.symm.trans p');injection pp with _ _ pd
  injection pd with px
  have px':=congrArg NM px;simp only[N7.injEq,Kz.injEq,Jz.injEq,and_true]at px';obtain⟨⟨rfl,rfl⟩,rfl⟩:=px';obtain⟨o,ho,_,n,hd⟩:=q;obtain⟨o',ho',_,n',hd'⟩:=q';rw[ho]at ho';cases ho';rw[hd]at hd';cases hd';rw[r,r',<-i.nums,<-i'.nums]
 on:=λ⟨a,t,k,b,its,ms,e,p,⟨o,ho,q⟩,i,r⟩ up=>⟨a,t,k,b,its,ms,e,up _ _ p,⟨o,up _ _ ho,q⟩,i,r⟩
 fst:=λ⟨a,t,k,b,its,ms,e,p,q,i,r⟩=>⟨a,_,_,_,t,k,e,p,rfl,rfl,rfl⟩
 lt:=λ{prog w A s E x y a b Q} hu ⟨xa,t,k,xb,xi,xm,ex,xp,xq,xi',xr⟩ ⟨ya,u,k',yb,yi,ym,ey,yp,yq,yi',yr⟩ q=>by
  subst ex ey xr yr;refine kat_lt xp rfl yp rfl ?_
  refine kat_cons (Ox ?_)
  rw[zn]at q
  by_cases z:t=u
  ·rw[beq_iff_eq.mpr z]
   rw[if_pos z]at q;refine kat_yes (kat_cons (wpAny_eqBool_tuple (knd:=intKind prog w) (by omega) ?_ ?_ (x:=xm) (y:=ym) ?_))
   ·obtain⟨o,ho,hc,n,hd⟩:=xq;exact⟨o,xi,n,ho,hc,hd,mI xi'⟩
   ·obtain⟨o,ho,hc,n,hd⟩:=yq;exact⟨o,yi,n,ho,hc,hd,mI yi'⟩
   ·by_cases z2:xm=ym
    ·rw[decide_eq_true z2]
     subst z2;rw[gf]at q;exact kat_yes (kat_nil q)
    ·rw[decide_eq_false z2]
     refine kat_no (kat_one _ _ (HT.lt_tupInts xq yq xi' yi' (by omega) ?_))
     rw[zm];exact q
  ·rw[beq_eq_false_iff_ne.mpr z]
   rw[if_neg z]at q;exact kat_no (Ca q _)
end Tr
namespace L2
open PySem PySem.Spec PyProof.Rows
def B9 (n:Nat)(H:Hp)(f:Addr->Option HO):Hp:=λa=>if (a:Nat)<n then H a else f a
section
variable {X:Cx}{pins:List (Addr×Obj)}{σ:List (Option V)}{H:Hp}{s:Jk}{h':Heap}{f:Addr->Option HO}
theorem qw {n:Nat}{a:Addr}(h:(a:Nat)<n):B9 n H f a=H a:=by unfold B9;rw[if_pos h]
theorem qx {n:Nat}{a:Addr}(h:n<=(a:Nat)):B9 n H f a=f a:=by unfold B9;rw[if_neg (Nat.not_lt.mpr h)]
theorem Inv.tlt (I:Inv X pins σ H s){b:Addr}{o:HO}(e:H b=some o):(b:Nat)<s.heap.objs.size:=(I.hok b o e).lt
theorem Inv.HH (I:Inv X pins σ H s){b:Addr}{o:HO}(e:H b=some o):B9 s.heap.objs.size H f b=some o:=by rw[qw (I.tlt e)];exact e
theorem Inv.IS {t':Nat}(I:Inv X pins σ H s)(k:∀b u,s.heap.get? b=some u->h'.get? b=some u)(hf:∀a o,s.heap.objs.size<=(a:Nat)->f a=some o->ObjOk X.prog X.w (B9 s.heap.objs.size H f) h' a o) :
  Inv X pins σ (B9 s.heap.objs.size H f) { s with heap:=h',toks:=t' }:=by
 refine I.un ⟨λb u q _ _ _=>k b u q,λb u q _ _ _=>⟨u.slots,k b u q⟩,λb u q n _=>by rw[qw (Jr q)];exact n,λb u q _=>⟨u,k b u q⟩,λb xs q=>I.HH q,λb o u q=>I.HH q,λb ps q=>⟨#[],by rw[I.HH q];simp⟩⟩ λb u e=> ?_
 by_cases hb:(b:Nat)<s.heap.objs.size
 ·rw[qw hb]at e
  exact(I.hok b u e).HW (λc v _ q=>k c v q) (λc q=>I.HH q) λc xs q=>I.HH q
 ·rw[qx (Oq hb)]at e
  exact hf b u (Oq hb) e
end
end L2
namespace Tr
open PySem PySem.Spec PyProof.Rows L2
def Fv:Ji->V
 | .int n _=> .int n
 | .ref a=> .ref a
 | _=> .non
def vM (h:Heap)(a:Addr):List Ji:=match h.get? a with
 | some o=>match o.data with
  | .seq xs _=>xs.toList
  | _=> []
 | none=> []
def sK (h:Heap)(r:Addr)(out:List Ji):Addr->Option HO:=λa=>by
 classical exact if a=r then some (.lst (out.map Fv))else if Jz a∈out then some (.tup ((vM h a).map Fv))else none
section
variable {X:Cx}{a b:Expr}{fs:En->Rs (List T)}{p p1 p2 pos:Pos}
theorem oE:∀{m:List T} {ns:List Int},dR m=some ns->m=ns.map .int
 | [],ns,h=>by cases h;rfl
 | t::m,ns,h=>by
  cases t with
  | int i=>
   unfold dR at h;obtain⟨k,h1,rfl⟩:=KF.mp h
   rw[oE h1];rfl
  | _=>cases h
theorem rR:∀{m:List T} {ks:List (List Int)},rowsT m=some ks->∀(j:Nat) (t:T),m[j]? =some t->∃ns,ks[j]? =some ns/\t= .tup (ns.map .int)
 | [],ks,h,j,t,e=>by cases e
 | u::m,ks,h,j,t,e=>by
  cases u with
  | tup l=>
   unfold rowsT at h
   split at h
   ·rename_i ns k' h1 h2
    by_cases ne:ns= []
    ·rw[if_pos ne]at h;cases h
    ·rw[if_neg ne]at h;cases h
     cases j with
     | zero=>cases e;exact⟨ns,rfl,by rw[oE h1]⟩
     | succ j=>obtain⟨ms,q1,q2⟩:=rR h2 j t (by simpa using e);exact⟨ms,by simpa using q1,q2⟩
   ·cases h
  | _=>cases h
theorem lU:∀{m:List T} {ks:List (List Int)},rowsT m=some ks->m.length=ks.length
 | [],ks,h=>by cases h;rfl
 | u::m,ks,h=>by
  cases u with
  | tup l=>
   unfold rowsT at h
   split at h
   ·rename_i ns k' h1 h2
    by_cases ne:ns= []
    ·rw[if_pos ne]at h;cases h
    ·rw[if_neg ne]at h;cases h
     rw[Jq,Jq,lU h2]
   ·cases h
  | _=>cases h
theorem u6 {K:Jg}{O:Ow}{H:Hp}:∀{l:List T} {vs:List V} {j:Nat} {t:T},Reps K O H l vs->l[j]? =some t->∃v,vs[j]? =some v/\Rep K O H t v
 | [],_,_,_,_,e=>by cases e
 | _::_,_,0,_,r,e=>by obtain⟨v,ws,rfl,p,q⟩:=Reps.me.mp r;cases e;exact⟨v,rfl,p⟩
 | _::_,_,j+1,_,r,e=>by obtain⟨v,ws,rfl,p,q⟩:=Reps.me.mp r;obtain⟨u,h1,h2⟩:=u6 q (by simpa using e);exact⟨u,by simpa using h1,h2⟩
theorem rX {K:Jg}{O:Ow}{H:Hp}{g:Ji->T}:∀{us:List Ji},(∀u∈us,Rep K O H (g u) (Fv u))->Reps K O H (us.map g) (us.map Fv)
 | [],_=>Reps.HI
 | u::us,h=>Reps.HE (h u Jj) (rX λv hv=>h v (Jh _ hv))
theorem rl:∀{us:List Ji},(∀u∈us,RelV (Fv u) u)->Vals (us.map Fv) us
 | [],_=> .nil
 | u::us,h=> .cons (h u Jj) (rl λv hv=>h v (Jh _ hv))
theorem DV (hu:X.A.units+70<cLine)(hc:X.calm=true)(hm:X.mg "sorted" =none)(hmz:X.mg "zip" =none)(ha:qR X [a,b] fs)(hst:bn [a,b] =true:=by rfl)(hg:Gl X "sorted":=by rfl)(hgz:Gl X "zip":=by rfl) :
  cj X (.Call (.Name "sorted" p) [.Call (.Name "zip" p1) [a,b] [] p2] [] pos) (cl FB fs):=by
 intro pins s σ H Q I ⟨Z,O,Ev,hq⟩
 have e1:JF [Lp (.Name "zip" p1) [a,b] [] p2] X.env=(false,eval (.Call (.Name "zip" p1) [a,b] [] p2) X.env)::JF [] X.env:=ba rfl;unfold bn at hst;rw[Jo]at hst
 have e2:JF [a,b] X.env=(false,eval a X.env)::JF [b] X.env:=ba hst.1;refine Kg (eE I hg hm (show JT "sorted" =some (.builtin "sorted")by decide+kernel) ?_ (by decide) (by decide))
 refine LV ?_ e1 rfl
 rw[e1];refine Lw ?_
 refine Kg (eE I hgz hmz (show JT "zip" =some (.type "zip")by decide+kernel) ?_ (by decide) (by decide))
 refine J5 (cg (ha p2 pins s σ H _ I (d8 Ev hq)) λus s1 ⟨vs,H1,I1,r1,ts,rs,s',E',q1⟩=> ?_) e2 (e9 hst.2)
 unfold FB at q1
 split at q1
 ·rename_i x y
  split at q1
  ·rename_i l m hl hm'
   split at q1
   ·rename_i tn km htn hkm
    by_cases hz:tn.length=km.length/\0<tn.length/\tn.length<64
    ·rw[if_pos hz]at q1
     obtain⟨v1,vs1,rfl,ra,rb⟩:=Reps.me.mp rs;obtain⟨v2,rfl,rc⟩:=rb.one;obtain⟨c1,k1,w1,rfl,n1,rx,sx,_,nx⟩:=CP hl ra;obtain⟨c2,k2,w2,rfl,n2,ry,sy,_,ny⟩:=CP hm' rc
     cases r1 with
     | cons z1 z2=>
      obtain⟨u2,rfl,z3⟩:=Vals.one z2;cases z1;obtain rfl:u2=Jz c2:=z3;obtain⟨i1,y1,a1,_⟩:=rE I1 sx;obtain⟨i2,y2,a2,_⟩:=rE I1 sy
      have hi:=dW htn rx y1
      have l1:i1.length=tn.length:=hi.length
      have l2:i2.length=tn.length:=by rw[<-y2.length,<-ry.length,lU hkm];exact hz.1.symm
      have lt1:=a1.lt
      have lt2:=a2.lt;refine AR a1 a2 λh' g1 g2 g3 g4=> ?_
      refine LM ?_
      have szn:i1.toArray.size=tn.length:=by rw[Jw];exact l1
      refine A9 (R:=rkN) (s:={ s1 with heap:=h' }) (by omega) λA' hA'=> ?_
      refine t9 (s:={ s1 with heap:=h' }) (D1 (t1:=k1) (t2:=k2) (xs:=i1.toArray) (ys:=i2.toArray) (show A'.in1.handled=none from hA'.trans (I1.ok.hd hc)) lt1 lt2 (by rw[Jw,Jw,l1,l2])) (by rw[szn,KW];omega) (by rw[szn];exact hz.2.1) ?_ (by simp) ⟨g1,a1.keep λo e=>g4 _ _ e,a2.keep λo e=>g4 _ _ e,g2⟩ (by decide) (by decide) F.zip_no_len F.zip_no_hint λh2 tk ps kp hl2 hps=> ?_
      ·intro b hb
       show b<h'.objs.size
       rw[g3];simp only[Jp,JN,or_false]at hb;rcases hb with rfl | rfl | rfl | rfl | rfl | rfl | rfl
       ·omega
       ·omega
       ·omega
       ·omega
       ·omega
       ·exact Jt lt1 (by omega)
       ·exact Jt lt2 (by omega)
      have keep1:∀b ob,s1.heap.get? b=some ob->h2.get? b=some ob:=λb ob e=>kp b ob (λhb=>by
       have:=Jr e;simp only[Jp,JN,or_false]at hb;rcases hb with rfl | rfl | rfl | rfl
       ·exact absurd this (by show ¬(s1.heap.objs.size+4<s1.heap.objs.size);omega)
       ·exact absurd this (JJ _)
       ·exact absurd this (by show ¬(s1.heap.objs.size+1<s1.heap.objs.size);omega)
       ·exact absurd this (by show ¬(s1.heap.objs.size+3<s1.heap.objs.size);omega)) (g4 b ob e)
      -- each pair: its row,its tree
      have pair:∀(j:Nat) (q:Nat),ps[j]? =some q->s1.heap.objs.size<=q/\∃t k b ms,tn[j]? =some t/\km[j]? =some ms/\Ls h2 q (.int t k) (.ref b)/\VN h2 (.ref q) (t::ms)/\Rep X.K O H1 (.tup (ms.map .int)) (.ref b):=λj q hj=>by
       obtain⟨hq,x,y,⟨hx,hy⟩,ip⟩:=hps j q hj
       have hq':s1.heap.objs.size<=q:=by have:h'.objs.size<=q:=hq;rw[g3]at this;omega
       rw[List.getElem?_toArray]at hx hy
       obtain⟨t,k,rfl,ht⟩:=hi.at j x hx
       have hj2:j<m.length:=by
        have:=(Jy.mp hy).1
        rw[lU hkm,<-hz.1,<-l2];exact this
       obtain⟨ms,hms,em⟩:=rR hkm j m[j] (Jx hj2)
       obtain⟨v,hv,rv⟩:=u6 ry (Jx hj2)
       obtain⟨u,hu',ru⟩:=y2.get hv;rw[hy]at hu';cases hu';rw[em]at rv;obtain⟨b,ws,rfl,nb,hb,rb'⟩:=Rep.HB.mp rv;obtain rfl:y=Jz b:=ru;obtain⟨its,wv,tp,_⟩:=I1.tuple (SqT.of hb)
       have hin:K7 its ms:=dW (l:=ms.map .int) (by
        clear hms em rv rb' hb
        induction ms with
        | nil=>rfl
        | cons i ms ih=>show(dR (ms.map .int)).map (i:: ·)=_;rw[ih];rfl) rb' wv
       refine⟨hq',t,k,b,ms,ht,hms,ip,⟨q,t,k,b,its.toArray,ms,rfl,ip,?_,by simpa using hin,rfl⟩,rv⟩
       obtain⟨o,ho,hr⟩:=tp;exact⟨o,keep1 _ _ ho,hr⟩
      have rowsE:(ps.map Jz).map (rkN.row h2)=ON N7 tn km:=by
       apply Qq
       intro j;rw[KJ,JG,List.getElem?_zipWith]
       cases hj:ps[j]? with
       | none=>
        have:tn[j]? =none:=K6 (by have:=NR.mp hj;rw[<-szn,<-hl2];exact this)
        rw[this];rfl
       | some q=>
        obtain⟨_,t,k,b,ms,ht,hk,_,vn,_⟩:=pair j q hj;rw[ht,hk]
        show some (rkN.row h2 (.ref q))=some (t::ms)
        rw[RK.HX (R:=rkN) vn]
      refine⟨λv hv=> ?_,by rw[Jm,hl2,szn];exact hz.2.2,λout g5 g6=> ?_⟩
      ·obtain⟨q,hq,rfl⟩:=JH.mp hv
       obtain⟨j,hj⟩:=Ph hq
       obtain⟨_,t,k,b,ms,_,_,_,vn,_⟩:=pair j q hj;exact⟨_,vn⟩
      have g6':(out.toList.map (rkN.row h2)).Pairwise (λa b=>gx a b=true):=g6
      have eo:=jJ ((g5.map (rkN.row h2)).trans (by rw[rowsE])) g6'
      have inout:∀u∈out.toList,∃q:Nat,u= .ref q/\s1.heap.objs.size<=q/\∃t k b ms,Ls h2 q (.int t k) (.ref b)/\rkN.row h2 u=t::ms/\Rep X.K O H1 (.tup (ms.map .int)) (.ref b):=λu hu'=>by
       obtain⟨q,hq,rfl⟩:=JH.mp (g5.mem_iff.mp hu');obtain⟨j,hj⟩:=Ph hq
       obtain⟨h1,t,k,b,ms,_,_,ip,vn,rv⟩:=pair j q hj;exact⟨q,rfl,h1,t,k,b,ms,ip,RK.HX (R:=rkN) vn,rv⟩
      have hoL:(h2.push (seqObj "list" (ps.map Jz).toArray 0)).get? h2.objs.size=some (seqObj "list" (ps.map Jz).toArray 0):=Js _ rfl
      obtain⟨ep,hat⟩:=sortedHeap_at (out:=out) hoL
      have keep2:∀b ob,h2.get? b=some ob->(Mp (h2.push (seqObj "list" (ps.map Jz).toArray 0)) h2.objs.size (ps.map Jz) out).get? b=some ob:=λb ob e=>by
       have hb:=Jr e;rw[sortedHeap_old (JR hb) (by rw[J0];exact KU hb)]
       exact Jf _ e
      have hz2:s1.heap.objs.size<=h2.objs.size:=by
       match ps,hl2,hps with
       | [],hl2,_=>rw[szn]at hl2;simp at hl2;omega
       | q::_,_,hps=>obtain⟨hq,x,y,_,ip⟩:=hps 0 q rfl;have h3:=Jr ip;have:h'.objs.size<=q:=hq;rw[g3]at this;exact KD (Ly (by omega) h3)
      have I3:Inv X pins σ (B9 s1.heap.objs.size H1 (sK (Mp (h2.push (seqObj "list" (ps.map Jz).toArray 0)) h2.objs.size (ps.map Jz) out) h2.objs.size out.toList)) { s1 with heap:=Mp (h2.push (seqObj "list" (ps.map Jz).toArray 0)) h2.objs.size (ps.map Jz) out,toks:=tk }:=by
       refine I1.IS (λb ob e=>keep2 _ _ (keep1 _ _ e)) λc o hc' e=> ?_
       unfold sK at e
       by_cases cr:c=h2.objs.size
       ·rw[if_pos cr]at e
        cases e;subst cr;refine⟨?_,out.toList,ep,rl λu hu'=> ?_,by simpa using hat⟩
        ·rw[Jm,g5.length_eq,Jm,hl2,szn,KW];omega
        ·obtain⟨q,rfl,_⟩:=inout u hu';rfl
       ·rw[if_neg cr]at e
        by_cases co:Jz c∈out.toList
        ·rw[if_pos co]at e
         cases e;obtain⟨q,eq,_,t,k,b,ms,ip,_,_⟩:=inout _ co;cases eq
         have ip2:=keep2 _ _ ip
         have ei:vM (Mp (h2.push (seqObj "list" (ps.map Jz).toArray 0)) h2.objs.size (ps.map Jz) out) c= [.int t k,.ref b]:=by unfold vM;rw[ip2]
         rw[ei];exact⟨by show 2<=sizeLine;rw[KW];omega,[.int t k,.ref b],.cons ⟨k,rfl⟩ (.cons rfl .nil),⟨_,ip2,rfl,0,rfl⟩⟩
        ·rw[if_neg co]at e;cases e
      have sm:Same H1 (B9 s1.heap.objs.size H1 (sK (Mp (h2.push (seqObj "list" (ps.map Jz).toArray 0)) h2.objs.size (ps.map Jz) out) h2.objs.size out.toList)):=λc o e=>I1.HH e
      have fr:∀c:Addr,s1.heap.objs.size<=(c:Nat)->¬ O c:=λc hc'=>E'.fresh (I1.hok.fresh hc')
      refine⟨.ref h2.objs.size,_,I3,rfl,q1 _ sm _ ?_⟩
      refine Rep.HA.mpr ⟨h2.objs.size,out.toList.map Fv,rfl,fr _ hz2,?_,?_⟩
      ·rw[qx hz2];unfold sK;rw[if_pos rfl]
      ·rw[<-eo,KJ]
       refine rX λu hu'=> ?_
       obtain⟨q,rfl,hq,t,k,b,ms,ip,er,rv⟩:=inout u hu'
       show Rep X.K O _ (unN (rkN.row h2 (.ref q))) (.ref q)
       rw[er];refine Rep.HB.mpr ⟨q,[.int t,.ref b],rfl,fr q hq,?_,Reps.HE (Rep.HG t) (Reps.HE (rv.same sm) Reps.HI)⟩
       rw[qx hq];unfold sK
       have ip2:=keep2 _ _ ip
       have nr:q≠h2.objs.size:=JR (Jr ip);rw[if_neg nr,if_pos hu'];unfold vM;rw[ip2]
       rfl
    ·rw[if_neg hz]at q1;exact q1.elim
   ·exact q1.elim
  ·exact q1.elim
 ·exact q1.elim
end
structure QE (X:Cx)(e:Expr)(f:En->Rs T):Prop where
 h:cj X e f
structure QA (X:Cx)(e:List Expr)(f:En->Rs (List T)):Prop where
 h:qR X e f
structure QT (X:Cx)(e:Expr)(f:En->Rs Bool):Prop where
 h:tM X e f
structure QW (X:Cx)(e:Expr)(f:En->Rs Bool):Prop where
 h:Dj X e f
structure QS (X:Cx)(e:Stmt)(f:En->Rs Fl):Prop where
 h:n8 X e f
structure AL (X:Cx)(e:List Stmt)(f:En->Rs Fl):Prop where
 h:lq X e f
structure QG (X:Cx)(e:Expr)(f:T->En->Rs En):Prop where
 h:Dk X e f
structure Hu (X:Cx)(e:List Expr)(f:List T->En->Rs En):Prop where
 h:AF X e f
structure QI (X:Cx)(t e:Expr)(f:En->Rs (List T)):Prop where
 h:CG X t e f
structure QO (X:Cx)(e:Option Expr)(f:En->Rs (Option Int)):Prop where
 h:Hb X e f
structure Ht (X:Cx)(e:List Expr)(f:En->Rs Bool):Prop where
 h:xN X e (yc X f)
theorem ac {X:Cx}(i:Nat){x:Str}{pos:Pos}(hN:(Cx.N X)[i]? =some x:=by rfl)(hv:xG (Me (Cx.env X)) x:=by first | exact Lx rfl | exact KO (Lx rfl) | exact KO (KO rfl))(hd:ie x:=by decide)(hcd:(x == JC "__classdict__")=false:=by decide):QE X (Ka x pos) (vr i):=
 ⟨Ga (i:=i) (hN:=hN) (hv:=hv) (hd:=hd) (hcd:=hcd)⟩
theorem ak {X:Cx}{i:Int}{j:Nat}{pos:Pos}:QE X (PY (Const.int i) j pos) (cn (T.int i)):=
 ⟨Gi ⟩
theorem dF {X:Cx}{i:Bool}{j:Nat}{pos:Pos}:QE X (PY (Const.bool i) j pos) (cn (T.bl i)):=
 ⟨q_bl ⟩
theorem bu {X:Cx}{j:Nat}{pos:Pos}:QE X (PY Const.none j pos) (cn T.non):=
 ⟨Ge ⟩
theorem AU {X:Cx}{x:Str}{i:Int}{u:Ji}{pos:Pos}(hm:Cx.mg X x=some u)(r:L2.RelV (V.int i) u)(hg:Gl X x:=by rfl)(hd:ie x:=by decide):QE X (Ka x pos) (cn (T.int i)):=
 ⟨DW (hm:=hm) (r:=r) (hg:=hg) (hd:=hd)⟩
theorem ag {X:Cx}:QA X [] ah:=
 ⟨DU ⟩
theorem af {X:Cx}{e:Expr}{es:List Expr}{f:En->Rs T}{g:En->Rs (List T)}(he:QE X e f)(hr:QA X es g)(hn:bO e=true:=by rfl):QA X (e::es) (ae f g):=
 ⟨qa_c (he:=he.h) (hr:=hr.h) (hn:=hn)⟩
theorem bW {X:Cx}{es:List Expr}{x1:Nat}{pos:Pos}{f:En->Rs (List T)}(h:QA X es f):QE X (Expr.Tuple es x1 pos) (bK f):=
 ⟨Gb (h:=h.h)⟩
theorem eZ {X:Cx}{es:List Expr}{pos:Pos}{f:En->Rs (List T)}(h:QA X es f):QE X (Expr.List es pos) (fE f):=
 ⟨Gg (h:=h.h)⟩
theorem az {X:Cx}{a b:Expr}{fa fb:En->Rs T}{pos:Pos}{op:Operator}{g:T->T->Rs T}(ho:OpT X (Lc op) g)(ha:QE X a fa)(hb:QE X b fb):QE X (Expr.BinOp a op b pos) (o2 g fa fb):=
 ⟨Gm (ho:=ho) (ha:=ha.h) (hb:=hb.h)⟩
theorem cm {X:Cx}{a b:Expr}{fa fb:En->Rs T}{pos:Pos}{op:CmpOp}{g:T->T->Rs T}(ho:OpT X (Kh op) g)(ha:QE X a fa)(hb:QE X b fb)(hm:Oj op b=false:=by rfl):QE X (QH a [op] [b] pos) (o2 g fa fb):=
 ⟨Gk (ho:=ho) (ha:=ha.h) (hb:=hb.h) (hm:=hm)⟩
theorem jl {X:Cx}{a:Expr}{fa:En->Rs T}{pos:Pos}(ha:QE X a fa):QE X (QJ UnaryOp.USub a pos) (o1 kw fa):=
 ⟨Gf (ha:=ha.h)⟩
theorem rg {X:Cx}{a b c:Expr}{fa fb fc:En->Rs T}{pos:Pos}{op op':CmpOp}{g g':T->T->Rs T}(ho:OpT X (Kh op) g)(ho':OpT X (Kh op') g')(ha:QE X a fa)(hb:QE X b fb)(hc:QE X c fc)(hm:lastMarks [op,op'] [b,c] =false:=by with_unfolding_all rfl):QE X (QH a [op,op'] [b,c] pos) (ch g g' fa fb fc):=
 ⟨Bz (ho:=ho) (ho':=ho') (ha:=ha.h) (hb:=hb.h) (hc:=hc.h) (hm:=hm)⟩
theorem cx {X:Cx}{e:Expr}{f:En->Rs T}(h:QE X e f)(he:∀(whole:Sem Ji),PySem.isTrue e (Cx.env X) whole=(do let v <-whole;standAt (Expr.pos e);holding [v] (truthy v)):=by intro _;rfl):QT X e (tb f):=
 ⟨DE (h:=h.h) (he:=he)⟩
theorem aY {X:Cx}{a b:Expr}{fa fb:En->Rs T}{pos:Pos}{op:CmpOp}{g:T->T->Rs T}(ho:OpT X (Kh op) g)(ha:QE X a fa)(hb:QE X b fb)(hm:Oj op b=false:=by rfl):QT X (QH a [op] [b] pos) (tb (o2 g fa fb)):=
 ⟨DG (ho:=ho) (ha:=ha.h) (hb:=hb.h) (hm:=hm)⟩
theorem lH {X:Cx}{a:Expr}{pos:Pos}{f:En->Rs Bool}(ha:QT X a f):QW X (LH O8 [a] pos) f:=
 ⟨Bh (ha:=ha.h)⟩
theorem jx {X:Cx}{a:Expr}{pos:Pos}{f:En->Rs Bool}(ha:QT X a f):QW X (LH PZ [a] pos) f:=
 ⟨DC (ha:=ha.h)⟩
theorem pw {X:Cx}{a b:Expr}{pos:Pos}{f g:En->Rs Bool}{bJ:List Expr}(ha:QT X a f)(hb:QW X (LH O8 (b::bJ) pos) g):QW X (LH O8 (a::b::bJ) pos) (lp f g):=
 ⟨DD (ha:=ha.h) (hb:=hb.h)⟩
theorem lG {X:Cx}{a b:Expr}{pos:Pos}{f g:En->Rs Bool}{bJ:List Expr}(ha:QT X a f)(hb:QW X (LH PZ (b::bJ) pos) g):QW X (LH PZ (a::b::bJ) pos) (nF f g):=
 ⟨F5 (ha:=ha.h) (hb:=hb.h)⟩
theorem kL {X:Cx}{f:En->Rs Bool}{e:Expr}(h:QW X e f):QT X e f:=
 ⟨qt_w (h:=h.h)⟩
theorem cX {X:Cx}{a:Expr}{pos:Pos}{f:En->Rs Bool}(ha:QT X a f):QT X (QJ UnaryOp.Not a pos) (c6 f):=
 ⟨DF (ha:=ha.h)⟩
theorem ck {X:Cx}{a:Expr}{fa:En->Rs T}{pos:Pos}{op:BoolOp}(h:QE X a fa):QE X (LH op [a] pos) fa:=
 ⟨Gc (h:=h.h)⟩
theorem cy {X:Cx}{a b:Expr}{fa fb:En->Rs T}{pos:Pos}{bJ:List Expr}(ha:QE X a fa)(hb:QE X (LH O8 (b::bJ) pos) fb):QE X (LH O8 (a::b::bJ) pos) (bM fa fb):=
 ⟨Gn (ha:=ha.h) (hb:=hb.h)⟩
theorem uP {X:Cx}{a b:Expr}{fa fb:En->Rs T}{pos:Pos}{bJ:List Expr}(ha:QE X a fa)(hb:QE X (LH PZ (b::bJ) pos) fb):QE X (LH PZ (a::b::bJ) pos) (wJ fa fb):=
 ⟨q_or (ha:=ha.h) (hb:=hb.h)⟩
theorem pA {X:Cx}{a:Expr}{fa:En->Rs T}{pos:Pos}(ha:QE X a fa):QE X (QJ UnaryOp.Not a pos) (o1 sj fa):=
 ⟨Gd (ha:=ha.h)⟩
theorem lI {X:Cx}{a b c:Expr}{fa fb:En->Rs T}{pos:Pos}{f:En->Rs Bool}(hc:QT X c f)(ha:QE X a fa)(hb:QE X b fb):QE X (Expr.IfExp c a b pos) (tL f fa fb):=
 ⟨q_if (hc:=hc.h) (ha:=ha.h) (hb:=hb.h)⟩
theorem aH {X:Cx}{a b:Expr}{fa fb:En->Rs T}{pos:Pos}(ha:QE X a fa)(hb:QE X b fb)(hs:wf b:=by intro _ _;rfl):QE X (M5 a b pos) (o2 aO fa fb):=
 ⟨q_ix (ha:=ha.h) (hb:=hb.h) (hs:=hs)⟩
theorem q0 {X:Cx}:QO X none pN:=
 ⟨Br ⟩
theorem qZ {X:Cx}{a:Expr}{fa:En->Rs T}(ha:QE X a fa):QO X (some a) (pS fa):=
 ⟨Bq (ha:=ha.h)⟩
theorem re {X:Cx}{a:Expr}{fa:En->Rs T}{pos:Pos}{lo hi:Option Expr}{p2:Pos}{fl fu:En->Rs (Option Int)}(ha:QE X a fa)(hl:QO X lo fl)(hu:QO X hi fu):QE X (M5 a (Expr.Slice lo hi none p2) pos) (sl fa fl fu):=
 ⟨By (ha:=ha.h) (hl:=hl.h) (hu:=hu.h)⟩
theorem cD {X:Cx}{e:Expr}{es:List Expr}{fs:En->Rs (List T)}{pos p:Pos}{x:Str}{id:String}{g:List T->Rs T}(hc:CallT X (Value.builtin id) g)(hm:Cx.mg X x=none)(hv:JT x=some (Value.builtin id))(ha:QA X (e::es) fs)(hn:bn (e::es)=true:=by rfl)(hg:Gl X x:=by rfl)(h1:x≠JC "__name__":=by decide)(h2:ie x:=by decide):QE X (Lp (Ka x p) (e::es) [] pos) (cl g fs):=
 ⟨q_cB (hc:=hc) (hm:=hm) (hv:=hv) (ha:=ha.h) (hn:=hn) (hg:=hg) (h1:=h1) (h2:=h2)⟩
theorem n9 {X:Cx}{e:Expr}{es:List Expr}{fs:En->Rs (List T)}{pos p:Pos}{x:Str}{Ty:String}{g:List T->Rs T}(hc:CallT X (Kf Ty) g)(hm:Cx.mg X x=none)(hv:JT x=some (Kf Ty))(ha:QA X (e::es) fs)(hn:bn (e::es)=true:=by rfl)(hg:Gl X x:=by rfl)(h1:x≠JC "__name__":=by decide)(h2:ie x:=by decide):QE X (Lp (Ka x p) (e::es) [] pos) (cl g fs):=
 ⟨q_cT (hc:=hc) (hm:=hm) (hv:=hv) (ha:=ha.h) (hn:=hn) (hg:=hg) (h1:=h1) (h2:=h2)⟩
theorem zq_c {X:Cx}{e:Expr}{es:List Expr}{fs:En->Rs (List T)}{pos p:Pos}{x:Str}{n k:Nat}{f:Addr}{fd:Ld}{ps:List Str}{g:List T->Rs T}(F:Fz (Cx.prog X) (Cx.w X) (Cx.K X) (Cx.mg X) (Cx.base X) k f fd ps n g)(hr:Room k (Cx.A X))(hm:Cx.mg X x=some (Jz f))(hk:W.keepIn (Cx.K X) (Jz f)=true)(hb:L2.Binds (Cx.K X) fd ps [])(hl:∀(Z:En) (ts:List T),fs Z=Rs.ok ts->LD ts=n)(ha:QA X (e::es) fs)(hps:LD ps=n:=by rfl)(hn:bn (e::es)=true:=by rfl)(hg:Gl X x:=by rfl)(h2:ie x:=by decide):QE X (Lp (Ka x p) (e::es) [] pos) (cl g fs):=
 ⟨q_c (F:=F) (hr:=hr) (hm:=hm) (hk:=hk) (hb:=hb) (hl:=hl) (ha:=ha.h) (hps:=hps) (hn:=hn) (hg:=hg) (h2:=h2)⟩
theorem xU {X:Cx}{a:Expr}{fa:En->Rs T}{pos p p2:Pos}{tn:Str}{Ty:String}(hm:Cx.mg X (JC "isinstance")=none)(hmt:Cx.mg X tn=none)(hv:JT tn=some (Kf Ty))(ha:QE X a fa)(hn:bO a=true:=by rfl)(hg:Gl X (JC "isinstance"):=by rfl)(hgt:Gl X tn:=by rfl)(h1:tn≠JC "__name__":=by decide)(h2:ie tn:=by decide):QE X (Lp (Ka (JC "isinstance") p) [a,Ka tn p2] [] pos) (o1 (Cf Ty) fa):=
 ⟨q_is (hm:=hm) (hmt:=hmt) (hv:=hv) (ha:=ha.h) (hn:=hn) (hg:=hg) (hgt:=hgt) (h1:=h1) (h2:=h2)⟩
theorem ao {X:Cx}{pos:Pos}{x:Str}(i:Nat)(hN:Kw (Cx.N X))(hi:(Cx.N X)[i]? =some x:=by rfl)(hx:L2.Loc (Me (Cx.env X)) x:=by first | exact Lx rfl | exact KO rfl)(hf:Cx.fn X x=true\/MX x (Py (Me (Cx.env X)))=some NameKind.local:=by first | exact .inl rfl | exact .inr rfl | assumption):QG X (Ka x pos) (gN i):=
 ⟨Bw (i:=i) (hN:=hN) (hi:=hi) (hx:=hx) (hf:=hf)⟩
theorem d7 {X:Cx}:Hu X [] oU:=
 ⟨Bv ⟩
theorem bp {X:Cx}{e:Expr}{es:List Expr}{g:T->En->Rs En}{gs:List T->En->Rs En}(h1:QG X e g)(h2:Hu X es gs)(hs:O7 (λx=>Prod.snd x) (KL (e::es) (Cx.env X))=assign e (Cx.env X)::O7 (λx=>Prod.snd x) (KL es (Cx.env X)):=by rfl):Hu X (e::es) (gW g gs):=
 ⟨yE (h1:=h1.h) (h2:=h2.h) (hs:=hs)⟩
theorem fI {X:Cx}{es:List Expr}{pos:Pos}{k n:Nat}{gs:List T->En->Rs En}(hc:Cx.calm X=true)(h:Hu X es gs)(hn:LD (KL es (Cx.env X))=n:=by rfl)(hst:List.findIdx? (λx=>Prod.fst x) (KL es (Cx.env X))=none:=by rfl):QG X (Expr.Tuple es k pos) (gT n gs):=
 ⟨DT (hc:=hc) (h:=h.h) (hn:=hn) (hst:=hst)⟩
theorem cP {X:Cx}{a:Expr}{fs:En->Rs (List T)}{pos p:Pos}{tg:Expr}(hm:Cx.mg X (JC "range")=none)(ha:QA X [a] fs)(hg:Gl X (JC "range"):=by rfl)(hs:JF [a] (Cx.env X)= [(false,eval a (Cx.env X))]:=by rfl):QI X tg (Lp (Ka (JC "range") p) [a] [] pos) (iR fs):=
 ⟨wB (hm:=hm) (ha:=ha.h) (hg:=hg) (hs:=hs)⟩
theorem bY {X:Cx}:Ht X [] bT:=
 ⟨Bt ⟩
theorem xT {X:Cx}{c:Expr}{f:En->Rs Bool}(h:QT X c f):Ht X [c] f:=
 ⟨Bs (h:=h.h)⟩
theorem f7 {X:Cx}{pos:Pos}{elt tg iter:Expr}{ifs:List Expr}{scope:Ny}{N':List Str}{src:List (Option Nat)}{fi:En->Rs (List T)}{tgt:T->En->Rs En}{fc:En->Rs Bool}{fe:En->Rs T}(hc:Cx.calm X=true)(S:LcScope X scope N' src)(hi:QI X tg iter fi)(block:∀(cl:List (Str×Addr)) (C:Addr) (s₀:Jk) (H₀:Hp) (fp:List Addr),QG (cq X scope cl N' C s₀ H₀ fp) tg tgt/\Ht (cq X scope cl N' C s₀ H₀ fp) ifs fc/\QE (cq X scope cl N' C s₀ H₀ fp) elt fe)(hs:∀(x:Ji),Ky iter (Cx.env X) x=pure x:=by intro _;rfl):QE X (P0 elt [{ target:=tg,iter:=iter,ifs:=ifs,is_async:=0 }] scope pos) (fH fi src tgt fc fe):=
 ⟨q_lc (hc:=hc) (S:=S) (hi:=hi.h) (block:=λa1 a2 a3 a4 a5=>⟨(block a1 a2 a3 a4 a5).1.h,(block a1 a2 a3 a4 a5).2.1.h,(block a1 a2 a3 a4 a5).2.2.h⟩) (hs:=hs)⟩
theorem bf {X:Cx}:AL X [] sN:=
 ⟨DK ⟩
theorem ai {X:Cx}{st:Stmt}{bJ:List Stmt}{F G:En->Rs Fl}(h1:QS X st F)(h2:AL X bJ G):AL X (st::bJ) (ay F G):=
 ⟨Bp (h1:=h1.h) (h2:=h2.h)⟩
theorem ap {X:Cx}{st:Stmt}{F:En->Rs Fl}(h:QS X st F):AL X [st] F:=
 ⟨DJ (h:=h.h)⟩
theorem au {X:Cx}{a:Expr}{fa:En->Rs T}{pos:Pos}(ha:QE X a fa):QS X (Stmt.Return (some a) pos) (aG fa):=
 ⟨DH (ha:=ha.h)⟩
theorem bN {X:Cx}{c:Expr}{pos:Pos}{f:En->Rs Bool}{A B:List Stmt}{F G:En->Rs Fl}(hc:QT X c f)(ha:AL X A F)(hb:AL X B G):QS X (Stmt.If c A B pos) (eO f F G):=
 ⟨F8 (hc:=hc.h) (ha:=ha.h) (hb:=hb.h)⟩
theorem xR {X:Cx}{pos:Pos}{elt tg iter:Expr}{ifs:List Expr}{scope:Ny}{spos py:Pos}{N':List Str}{src:List (Option Nat)}{fi:En->Rs (List T)}{tgt:T->En->Rs En}{fc:En->Rs Bool}{fe:En->Rs T}(i:Nat){y:Str}(hc:Cx.calm X=true)(S:LcScope X scope N' src)(hi:QI X tg iter fi)(block:∀(cl:List (Str×Addr)) (C:Addr) (s₀:Jk) (H₀:Hp) (fp:List Addr),QG (cq X scope cl N' C s₀ H₀ fp) tg tgt/\Ht (cq X scope cl N' C s₀ H₀ fp) ifs fc/\QE (cq X scope cl N' C s₀ H₀ fp) elt fe)(hN:Kw (Cx.N X))(hiy:(Cx.N X)[i]? =some y:=by rfl)(hy:L2.Loc (Me (Cx.env X)) y:=by first | exact Lx rfl | exact KO rfl)(hsw:KP (P0 elt [{ target:=tg,iter:=iter,ifs:=ifs,is_async:=0 }] scope pos) (some (Ka y py)) (MN spos) (Cx.env X)=pure true:=by rfl)(hf:Cx.fn X y=true\/MX y (Py (Me (Cx.env X)))=some NameKind.local:=by first | exact .inl rfl | exact .inr rfl | assumption)(hs:∀(x:Ji),Ky iter (Cx.env X) x=pure x:=by intro _;rfl):QS X (Of [Ka y py] (P0 elt [{ target:=tg,iter:=iter,ifs:=ifs,is_async:=0 }] scope pos) spos) (cv (fH fi src tgt fc fe) (gN i)):=
 ⟨F7 (i:=i) (hc:=hc) (S:=S) (hi:=hi.h) (block:=λa1 a2 a3 a4 a5=>⟨(block a1 a2 a3 a4 a5).1.h,(block a1 a2 a3 a4 a5).2.1.h,(block a1 a2 a3 a4 a5).2.2.h⟩) (hN:=hN) (hiy:=hiy) (hy:=hy) (hsw:=hsw) (hf:=hf) (hs:=hs)⟩
theorem aB {X:Cx}{a:Expr}{fa:En->Rs T}{pos:Pos}{tg:Expr}{g:T->En->Rs En}(ha:QE X a fa)(hg:QG X tg g)(hs:Nj [tg] a (MN pos) (Cx.env X)=pure false:=by rfl)(hw:Nk [tg] a (Cx.env X)=pure none:=by rfl)(h1:O7 (λx=>Prod.snd x) (KL [tg] (Cx.env X))= [assign tg (Cx.env X)]:=by rfl):QS X (Of [tg] a pos) (cv fa g):=
 ⟨DO (ha:=ha.h) (hg:=hg.h) (hs:=hs) (hw:=hw) (h1:=h1)⟩
theorem cC {X:Cx}{a:Expr}{fa:En->Rs T}{pos:Pos}(ha:QE X a fa)(hs:KP a none (MN pos) (Cx.env X)=pure false:=by rfl):QS X (Stmt.Expr a pos) (qX fa):=
 ⟨Bm (ha:=ha.h) (hs:=hs)⟩
theorem cY {X:Cx}{pos:Pos}{tg iter:Expr}{body:List Stmt}{fi:En->Rs (List T)}{g:T->En->Rs En}{F:En->Rs Fl}(hc:Cx.calm X=true)(hi:QI X tg iter fi)(hg:QG (Cx.nox X) tg g)(hb:AL (Cx.nox X) body F)(hs:∀(x:Ji),Ky iter (Cx.env X) x=pure x:=by intro _;rfl):QS X (Stmt.For tg iter body [] pos) (gb fi g F):=
 ⟨DL (hc:=hc) (hi:=hi.h) (hg:=hg.h) (hb:=hb.h) (hs:=hs)⟩
theorem wj {X:Cx}{pos:Pos}{c:Expr}{body:List Stmt}{fc:En->Rs Bool}{F:En->Rs Fl}(n:Nat)(hc:QT (Cx.nox X) c fc)(hb:AL (Cx.nox X) body F):QS X (Stmt.While c body [] pos) (bA fc F n):=
 ⟨yC (n:=n) (hc:=hc.h) (hb:=hb.h)⟩
theorem cZ {X:Cx}{a:Expr}{fa:En->Rs T}{tg:Expr}(ha:QE X a fa):QI X tg a (iS fa):=
 ⟨DS (ha:=ha.h)⟩
theorem eY {X:Cx}{a:Expr}{fs:En->Rs (List T)}{p pos:Pos}{elts:List Expr}{kk:Nat}{tpos:Pos}(hm:Cx.mg X (JC "enumerate")=none)(ha:QA X [a] fs)(hg:Gl X (JC "enumerate"):=by rfl)(hs:JF [a] (Cx.env X)= [(false,eval a (Cx.env X))]:=by rfl):QI X (Expr.Tuple elts kk tpos) (Lp (Ka (JC "enumerate") p) [a] [] pos) (iE fs):=
 ⟨Bu (hm:=hm) (ha:=ha.h) (hg:=hg) (hs:=hs)⟩
theorem fZ {X:Cx}{es:List Expr}{pos p2 p3:Pos}{x:Str}(i:Nat){f:En->Rs (List T)}(hN:Kw (Cx.N X))(ha:QA X es f)(hi:(Cx.N X)[i]? =some x:=by rfl)(hx:L2.Loc (Me (Cx.env X)) x:=by first | exact Lx rfl | exact KO rfl)(hs:KP (Expr.List es p2) (some (Ka x p3)) (MN pos) (Cx.env X)=pure false:=by rfl)(hf:Cx.fn X x=true\/MX x (Py (Me (Cx.env X)))=some NameKind.local:=by first | exact .inl rfl | exact .inr rfl | assumption):QS X (Of [Ka x p3] (Expr.List es p2) pos) (gP i f):=
 ⟨Bj (i:=i) (hN:=hN) (ha:=ha.h) (hi:=hi) (hx:=hx) (hs:=hs) (hf:=hf)⟩
theorem jy {X:Cx}{a:Expr}{fa:En->Rs T}{pos p2:Pos}{x:Str}(i:Nat){apos cpos:Pos}(ha:QE X a fa)(hN:(Cx.N X)[i]? =some x:=by rfl)(hv:xG (Me (Cx.env X)) x:=by first | exact Lx rfl | exact KO (Lx rfl) | exact KO (KO rfl))(hn:bO a=true:=by rfl)(hbase:K1 (Ka x p2) (JC "append") (Cx.env X) (eval (Ka x p2) (Cx.env X))=eval (Ka x p2) (Cx.env X):=by rfl)(hline:(Pz apos == MN cpos)=true:=by rfl)(hd:ie x:=by decide)(hcd:(x == JC "__classdict__")=false:=by decide)(hsw:KP (Lp (Mv (Ka x p2) (JC "append") apos) [a] [] cpos) none (MN pos) (Cx.env X)=pure false:=by rfl):QS X (Stmt.Expr (Lp (Mv (Ka x p2) (JC "append") apos) [a] [] cpos) pos) (jL i fa):=
 ⟨DP (i:=i) (ha:=ha.h) (hN:=hN) (hv:=hv) (hn:=hn) (hbase:=hbase) (hline:=hline) (hd:=hd) (hcd:=hcd) (hsw:=hsw)⟩
theorem pz {X:Cx}{a:Expr}{fa:En->Rs T}{pos p2:Pos}{x:Str}(i:Nat){apos cpos:Pos}(ha:QE X a fa)(hN:(Cx.N X)[i]? =some x:=by rfl)(hv:xG (Me (Cx.env X)) x:=by first | exact Lx rfl | exact KO (Lx rfl) | exact KO (KO rfl))(hn:bO a=true:=by rfl)(hbase:K1 (Ka x p2) (JC "extend") (Cx.env X) (eval (Ka x p2) (Cx.env X))=eval (Ka x p2) (Cx.env X):=by rfl)(hline:(Pz apos == MN cpos)=true:=by rfl)(hd:ie x:=by decide)(hcd:(x == JC "__classdict__")=false:=by decide)(hsw:KP (Lp (Mv (Ka x p2) (JC "extend") apos) [a] [] cpos) none (MN pos) (Cx.env X)=pure false:=by rfl):QS X (Stmt.Expr (Lp (Mv (Ka x p2) (JC "extend") apos) [a] [] cpos) pos) (lS i fa):=
 ⟨DM (i:=i) (ha:=ha.h) (hN:=hN) (hv:=hv) (hn:=hn) (hbase:=hbase) (hline:=hline) (hd:=hd) (hcd:=hcd) (hsw:=hsw)⟩
theorem iB {X:Cx}(i:Nat){st:Stmt}{F:En->Rs Fl}(h:QS X st F):QS X st (nC i F):=
 ⟨DN (i:=i) (h:=h.h)⟩
theorem CM {X:Cx}(i:Nat){e:Expr}{f:En->Rs T}(h:QE X e f):QE X e (ln i f):=
 ⟨q_ln (i:=i) (h:=h.h)⟩
theorem xP {X:Cx}(i:Nat){e:Expr}{f:En->Rs Bool}(h:QT X e f):QT X e (B6 i f):=
 ⟨F6 (i:=i) (h:=h.h)⟩
theorem Dm {X:Cx}{pos:Pos}:QS X (Stmt.Continue pos) CY:=
 ⟨F9 ⟩
theorem j9 {X:Cx}{c:Str}{msg:Str}{C:Addr}{bm:List Ji}{np p1 cpos pos:Pos}{j:Nat}(O:OX X.K C bm)(hm:X.mg c=some (.ref C))(hc:X.calm=true:=by rfl)(hg:Gl X c:=by rfl)(hd:ie c:=by decide) :
  QS X (.Raise (some (.Call (.Name c np) [.Constant (.str msg) j p1] [] cpos)) none pos) (yz c):=⟨yD O.own hc hm hg hd⟩
theorem uR {P:JI}{w:Kn}{K:Jg}{mg:Str->Option Ji}{base:Heap}{x qual:Str}{st:Stmt}{f:Addr}{fd:Ld}{N ps:List Str}{k n:Nat}{F:En->Rs Fl}(Fn:L2.Fun K x qual st f fd)(S:ax N ps (aj st))(hn:ps.length=n)
  (hbody:∀(cdv:Ji) (A:JZ) (outer:List Env) (s:Jk) (H:Hp) (E:XK),Room k (A.deeper (envOfC qual (aj st) s.heap.objs.size f cdv)) →
   ∀xe,AL ((kE CX0 P w K mg base N qual (aj st) f cdv A outer s H E).HD xe) (db st) F):Fz P w K mg base (k+1) f fd ps n (val n N.length F):=Fb Fn S hn λcdv A outer s H E hr xe=>(hbody cdv A outer s H E hr xe).h
theorem pB {X:Cx}{a b:Expr}{fa fb:En->Rs T}{pos:Pos}(hu:NO (Cx.A X)+1<cLine)(ha:QE X a fa)(hb:QE X b fb)(hs:CH b:=by intro _ _;rfl):QE X (M5 a b pos) (o2 iX fa fb):=
 ⟨Gj (hu:=hu) (ha:=ha.h) (hb:=hb.h) (hs:=hs)⟩
theorem uQ {X:Cx}{a b:Expr}{fa fb:En->Rs T}{apos cpos:Pos}(hu:NO (Cx.A X)+1<cLine)(ha:QE X a fa)(hb:QE X b fb)(hn:bO b=true:=by rfl)(hbase:K1 a (JC "get") (Cx.env X) (eval a (Cx.env X))=eval a (Cx.env X):=by rfl)(hline:(Pz apos == MN cpos)=true:=by rfl):QE X (Lp (Mv a (JC "get") apos) [b] [] cpos) (oD gU fa fb):=
 ⟨DY (hu:=hu) (ha:=ha.h) (hb:=hb.h) (hn:=hn) (hbase:=hbase) (hline:=hline)⟩
theorem dU {X:Cx}{a b:Expr}{fa fb:En->Rs T}{apos cpos:Pos}(hu:NO (Cx.A X)+61<cLine)(ha:QE X a fa)(hb:QE X b fb)(hn:bO b=true:=by rfl)(hbase:K1 a (JC "index") (Cx.env X) (eval a (Cx.env X))=eval a (Cx.env X):=by rfl)(hline:(Pz apos == MN cpos)=true:=by rfl):QE X (Lp (Mv a (JC "index") apos) [b] [] cpos) (oL bF fa fb):=
 ⟨yF (hu:=hu) (ha:=ha.h) (hb:=hb.h) (hn:=hn) (hbase:=hbase) (hline:=hline)⟩
theorem xQ {X:Cx}{e:Expr}{f:En->Rs T}{x:Str}{p pos p2 p3:Pos}(i:Nat)(hu:NO (Cx.A X)+8<cLine)(hc:Cx.calm X=true)(hm:Cx.mg X (JC "dict")=none)(hN:Kw (Cx.N X))(ha:QE X e f)(hst:bO e=true:=by rfl)(hg:Gl X (JC "dict"):=by rfl)(hi:(Cx.N X)[i]? =some x:=by rfl)(hx:L2.Loc (Me (Cx.env X)) x:=by first | exact Lx rfl | exact KO rfl)(hs:KP (Lp (Ka (JC "dict") p) [e] [] p2) (some (Ka x p3)) (MN pos) (Cx.env X)=pure false:=by rfl)(hf:Cx.fn X x=true\/MX x (Py (Me (Cx.env X)))=some NameKind.local:=by first | exact .inl rfl | exact .inr rfl | assumption):QS X (Of [Ka x p3] (Lp (Ka (JC "dict") p) [e] [] p2) pos) (ox i f):=
 ⟨Bk (i:=i) (hu:=hu) (hc:=hc) (hm:=hm) (hN:=hN) (ha:=ha.h) (hst:=hst) (hg:=hg) (hi:=hi) (hx:=hx) (hs:=hs) (hf:=hf)⟩
theorem AS {X:Cx}{b c:Expr}{fb fc:En->Rs T}{pos p2 p3:Pos}{x:Str}(i:Nat)(hu:NO (Cx.A X)+1<cLine)(hb:QE X b fb)(hc:QE X c fc)(hN:(Cx.N X)[i]? =some x:=by rfl)(hv:xG (Me (Cx.env X)) x:=by first | exact Lx rfl | exact KO (Lx rfl) | exact KO (KO rfl))(hd:ie x:=by decide)(hcd:(x == JC "__classdict__")=false:=by decide)(hs:KP c (some (M5 (Ka x p2) b p3)) (MN pos) (Cx.env X)=pure false:=by rfl):QS X (Of [M5 (Ka x p2) b p3] c pos) (wA i fb fc):=
 ⟨DI (i:=i) (hu:=hu) (hb:=hb.h) (hc:=hc.h) (hN:=hN) (hv:=hv) (hd:=hd) (hcd:=hcd) (hs:=hs)⟩
end Tr
namespace Tr
open PySem PySem.Spec PyProof.Rows L2 PySem.W
def zY (h:Heap):Frag:=(Kv h.objs.size).filterMap λa=>(h.get? a).map λo=>(a,o)
theorem zX (h:Heap):(zY h).In h:=by
 have key:∀(l:List Nat) (a:Addr) (o:Obj),(l.filterMap λa=>(h.get? a).map λo=>(a,o)).lookup a=some o->h.get? a=some o:=by
  intro l
  induction l with
  | nil=>intro a o e;cases e
  | cons b r ih=>
   intro a o e
   cases hb:h.get? b with
   | none=>rw[List.filterMap_cons_none (by rw[hb];rfl)]at e;exact ih a o e
   | some ob=>
    rw[List.filterMap_cons_some (b:=(b,ob)) (by rw[hb];rfl),Kt]at e
    cases q:a == b with
    | true=>rw[q]at e;cases e;rw[eq_of_beq q];exact hb
    | false=>rw[q]at e;exact ih a o e
 exact λa o e=>key _ a o e
def obF (K:Frag)(n:Str):Option (Str×Str×Rw×FuncBody×Ny×Addr×List (Str×Addr)×Ji×Addr×Bool×Bool):=match nsIn K Kc n with
 | some (some (.ref f))=>match K.lookup f with
  | some ⟨_,_,.func d,_⟩=>some (d.name,d.qualname,d.params,d.body,d.scope,d.globals,d.closure,d.defaults,d.builtins,codeIn K d.code n,keepIn K (.ref f))
  | _=>none
 | _=>none
def exF (n:Str)(st:Stmt):Option (Str×Str×Rw×FuncBody×Ny×Addr×List (Str×Addr)×Ji×Addr×Bool×Bool):=
 some (n,n,gz st,.stmts (db st),aj st,Kc,[],.none,O9,true,true)
theorem Da {K:Frag}{n:Str}{st:Stmt}(e:obF K n=exF n st):∃f fd,nsIn K Kc n=some (some (.ref f))/\L2.Fun K n n st f fd:=by
 unfold obF at e
 split at e
 ·rename_i f hf
  split at e
  ·rename_i oc od d sl hl
   cases d;unfold exF at e;simp only[Qh,PM]at e;obtain⟨h1,h2,h3,h4,h5,h6,h7,h8,h9,h10,h11⟩:=e;subst h1 h2 h3 h4 h5 h6 h7 h8 h9;exact⟨f,_,hf,E8 hl h10 h11⟩
  ·cases e
 ·cases e
def GB (K:Frag)(N:Addr)(n:Str):Bool:=match nsIn K N n with | some none=>true | _=>false
theorem md {K:Frag}{N:Addr}{n:Str}(e:GB K N n=true):nsIn K N n=some none:=by
 unfold GB at e
 split at e
 ·assumption
 ·cases e
def Ho (K:Frag)(n:Str):Option Int:=match nsIn K Kc n with | some (some (.int i _))=>some i | _=>none
theorem ED {K:Frag}{n:Str}{i:Int}(e:Ho K n=some i):∃t,nsIn K Kc n=some (some (.int i t)):=by
 unfold Ho at e
 split at e
 ·rename_i i' t h;cases e;exact⟨t,h⟩
 ·cases e
def uV:List Ji->Bool
 | [.type a,.type b,.type c,.type d] =>a == "ValueError" &&b == "Exception" &&c == "BaseException" &&d == "object"
 | _=>false
theorem lJ:∀{l:List Ji},uV l=true->l=uH:=by
 intro l e;unfold uV at e
 split at e
 ·simp only[Jo,beq_iff_eq]at e
  obtain⟨⟨⟨h1,h2⟩,h3⟩,h4⟩:=e;subst h1 h2 h3 h4;rfl
 ·cases e
def x8 (D:Option Addr)(m:List Ji):Bool:=match D with
 | none=>uV m
 | some D=>match m with
  | .ref E::m=>E == D&&uV m
  | _=>false
def B0 (K:Frag)(D:Option Addr)(n:Str):Option Addr:=match nsIn K Kc n with
 | some (some (.ref C))=>match K.lookup C with
  | some ⟨.type t,_,.cls c,⟨[_,_,_,_,some (.builtin b),_]⟩⟩=>match c.mro,K.lookup c.ns with
   | .ref E::m,some ⟨_,_,.dict es _,_⟩=>
    if (t == "type" &&b == "ValueError.__new__" && !c.hasDel&&(es.toList.all λe=>yf e.key)&&calmNames.all (GB K c.ns)&&E == C&&x8 D m)=true then some C else none
   | _,_=>none
  | _=>none
 | _=>none
theorem jp {K:Frag}{D:Option Addr}{n:Str}{C:Addr}(e:B0 K D n=some C):nsIn K Kc n=some (some (.ref C)) ∧
  ∃nm q N bs bm hd sn su ab co dd k0 k1 k2 k3 k5,x8 D bm=true/\K.lookup C=some (NB nm q C N bs bm hd sn su ab co dd k0 k1 k2 k3 k5 "ValueError.__new__")/\∀h:Heap,K.In h->∃mN,h.Ns N mN/\∀n∈calmNames,mN n=none:=by
 unfold B0 at e
 split at e
 ·rename_i C' hC
  split at e
  ·rename_i t dd c k0 k1 k2 k3 b k5 hl
   split at e
   ·rename_i E m ob oe es ep oz hm hN
    split at e
    ·rename_i hq
     cases e;simp only[Jo,beq_iff_eq,N8]at hq;obtain⟨⟨⟨⟨⟨⟨h1,h2⟩,h3⟩,h4⟩,h5⟩,h6⟩,h7⟩:=hq
     have z:=JL.mp h5;refine⟨hC,c.name,c.qualname,c.ns,c.bases,m,c.hasDict,c.slotNames,c.subclasses,c.abstract,c.collection,dd,k0,k1,k2,k3,k5,h7,?_,GC hN h4 (md (z _ (.head _))) (md (z _ (.tail _ (.head _)))) (md (z _ (.tail _ (.tail _ (.head _))))) (md (z _ (.tail _ (.tail _ (.tail _ (.head _))))))⟩
     rw[hl];cases c;simp only at hm h3;subst h1 h2 hm h3 h6
     rfl
    ·cases e
   ·cases e
  ·cases e
 ·cases e
theorem ox0 {K:Frag}{C:Addr}{n:Str}(e:B0 K none n=some C):OX K C uH:=by
 obtain⟨_,_,_,_,_,_,_,_,_,_,_,_,_,_,_,_,_,hu,hl,hn⟩:=jp e;cases lJ hu;exact BV hl hn
theorem ox1 {K:Frag}{C D:Addr}{n m:Str}(e:B0 K (some D) n=some C)(d:B0 K none m=some D):OX K C (.ref D::uH):=by
 obtain⟨_,_,_,_,_,bm,_,_,_,_,_,_,_,_,_,_,_,hu,hl,hn⟩:=jp e;obtain⟨_,_,_,_,_,_,_,_,_,_,_,_,_,_,_,_,_,hu',hl',hn'⟩:=jp d;cases lJ hu';unfold x8 at hu;simp only at hu
 split at hu
 ·rw[Jo]at hu
  cases eq_of_beq hu.1;cases lJ hu.2;exact yV hl hn hl' hn'
 ·cases hu
def uK {α:Type}:List (Option α)->Option (List α)
 | [] =>some []
 | none::_=>none
 | some a::r=>match uK r with | some l=>some (a::l) | none=>none
theorem kI {α:Type}{o:Option α}{r:List (Option α)}{l:List α}(e:uK (o::r)=some l):∃a l',o=some a/\l=a::l'/\uK r=some l':=by
 cases o with
 | none=>cases e
 | some a=>
  unfold uK at e
  split at e
  ·rename_i l' h;cases e;exact⟨a,l',rfl,rfl,h⟩
  ·cases e
theorem AA {α:Type}{l:List α}(e:uK ([]:List (Option α))=some l):l= []:=by cases e;rfl
def qf:List Addr->Bool
 | [] =>true
 | a::r=>(r.all λb=> !(a == b))&&qf r
theorem oF:∀{l:List Addr},qf l=true->l.Nodup
 | [],_=> .nil
 | a::r,h=>by
  unfold qf at h;rw[Jo]at h;refine JX.mpr ⟨λhm=> ?_,oF h.2⟩
  have:=JL.mp h.1 a hm
  simp at this
def Hn (K:Frag):List Str->Bool
 | [] =>true
 | m::es=>match B0 K none m with
  | some D=>match uK (es.map (B0 K (some D)))with | some l=>qf (l++ [D]) | none=>false
  | none=>false
theorem EC {K:Frag}{m:Str}{es:List Str}(e:Hn K (m::es)=true):∃D l,B0 K none m=some D/\uK (es.map (B0 K (some D)))=some l/\(l++ [D]).Nodup:=by
 rw[Hn]at e
 split at e
 ·rename_i D hD
  split at e
  ·rename_i l hl;exact⟨D,l,hD,hl,oF e⟩
  ·cases e
 ·cases e
structure xJ where
 tab:List (Str×Nat)
 zs:List Str
 cs:List (Str×Int)
 es:List Str
def nR (S:xJ)(K:Frag):=(S.tab.map (λp=>obF K p.1),S.zs.all (GB K Kc),S.cs.map (λc=>Ho K c.1),Hn K S.es)
def na (S:xJ)(top:Nat->Stmt):=(S.tab.map (λp=>exF p.1 (top p.2)),true,S.cs.map (λc=>some c.2),true)
def hookK (S:xJ)(top:Nat->Stmt):Hook:=
 ⟨_,λs=>nR S (zY s.heap),λ_=>na S top,λ_ h=> ∃K:Frag,K.In h/\nR S K=na S top,λ_ s e=>⟨_,zX s.heap,e⟩,λ_ _ _ ⟨K,a,b⟩ k=>⟨K,a.keeps k,b⟩⟩
section
variable {S:xJ}{top:Nat->Stmt}{K:Frag}{h:Heap}{mg:Str->Option Ji}
theorem qu {α β:Type}{f g:α->β}:∀{l:List α} (j:Nat) {a:α},l.map f=l.map g->l[j]? =some a->f a=g a
 | [],_,_,_,q=>by cases q
 | b::l,0,a,e,q=>by cases q;exact(N7.inj e).1
 | b::l,j+1,a,e,q=>qu (l:=l) j (N7.inj e).2 q
theorem bP (j:Nat){n:Str}{i:Nat}{ps:List Str}(X:K.In h)(G:h.Ns Kc mg)(e:nR S K=na S top)(q:S.tab[j]? =some (n,i))
  (hb:∀(kV doc pm:Ji) (an:Option Addr) (cdv ct:Ji) (us:List Ji),us.length=ps.length->bindArgs (fnOf n n (gz (top i)) (db (top i)) (aj (top i)) .none kV doc pm an cdv ct) ⟨us,[]⟩=pure (ps.zip us)) :
  ∃f fd,Fn K mg n (top i) ps f fd:=by
 obtain⟨f,fd,h1,h2⟩:=Da (qu j (congrArg (·.1) e) q)
 exact⟨f,fd,h2,h2.binds hb,mg_of X G h1⟩
theorem GQ (j:Nat){n:Str}{i:Nat}{x:Str}{fa:Addr}(X:K.In h)(G:h.Ns Kc mg)(e:nR S K=na S top)(q:S.tab[j]? =some (n,i))(hfa:mg n=some (.ref fa))
  (hb:∀(kV doc pm:Ji) (an:Option Addr) (cdv ct u:Ji),bindArgs (fnOf n n (gz (top i)) (db (top i)) (aj (top i)) .none kV doc pm an cdv ct) ⟨[u],[]⟩=pure [(x,u)]) :
  ∃fd,Fn K mg n (top i) [x] fa fd/\∀(s:Jk) (u:Ji),Qs s fd ⟨[u],[]⟩ [(x,u)]:=by
 obtain⟨f,fd,h1,h2⟩:=Da (qu j (congrArg (·.1) e) q)
 have z:=hfa.symm.trans (mg_of X G h1);cases z
 have hh:=h2;obtain⟨oc,od,kV,doc,pm,an,cdv,ct,osl,rfl,lk,hcd⟩:=hh.ex;exact⟨_,⟨h2,.all λus hl=>match us,hl with | [u],_=>hb kV doc pm an cdv ct u,mg_of X G h1⟩,λs u=> .of_eq (hb kV doc pm an cdv ct u)⟩
theorem dL (j:Nat){n:Str}(X:K.In h)(G:h.Ns Kc mg)(e:nR S K=na S top)(q:S.zs[j]? =some n):mg n=none:=
 mg_none_of X G (md (JL.mp (congrArg (·.2.1) e:S.zs.all (GB K Kc)=true) n (LI q)))
theorem oP (j:Nat){n:Str}{i:Int}(X:K.In h)(G:h.Ns Kc mg)(e:nR S K=na S top)(q:S.cs[j]? =some (n,i)):∃t,mg n=some (.int i t):=by
 obtain⟨t,ht⟩:=ED (qu (f:=λc=>Ho K c.1) (g:=λc=>some c.2) j (congrArg (·.2.2.1) e) q)
 exact⟨t,mg_of X G ht⟩
theorem GR (e:nR S K=na S top):Hn K S.es=true:=congrArg (·.2.2.2) e
end
theorem left_of {p q:JI}{loose:List Str}{Xt:Jk->Bool}{α:Type}{Yf:Jk->α}{Ya:Kn->α}{N:Nat}{g0:Bool}
  (e:opening p=plainProg p.main.scope.names) (hN:Nat.ble 600 N=true) (f:∀s,fenceModules? p s=some s)
  (h:∀(w:Kn) (os:OsState),(topFrom treeTable p w N ⟨boot_heap w.params,⟨[]⟩,boot_drawn,boot_toks,os⟩).map (λs=>(openSeen q loose (RG p.main.body) Xt g0 s,Yf s))=some (openGood q loose,Ya w)) :
  LeftO p q loose Xt Yf Ya N g0:=λw=>by
 obtain⟨⟨h0,gs,d,k,os⟩,e1,e2⟩:=KF.mp (boot_open e hN f w);simp only[PM]at e2;obtain⟨rfl,rfl,rfl,rfl⟩:=e2;unfold openEnds;rw[e1];exact h w os
theorem walk_k {l:OpenLaw}{n k:Nat}{q:JI}{loose:List Str}{XP:(Str->Option Ji)->Heap->Prop}{d:DefRec}{S:xJ}{top:Nat->Stmt}{CX:AM}{sp:Frag->Sp}{x:Str}
  (hn:l.most=some n) (hn2:n<=sizeLine) (hdf:d.params.defaults= []) (hr:Room k callerA)
  (F:∀(w:Kn) (K:Frag) (mg:Str->Option Ji) (fa:Addr) (h:Heap),K.In h->nR S K=na S top->h.Ns Kc mg->mg d.name=some (.ref fa) →
   ∃fd:Ld,(∀(s:Jk) (u:Ji),Qs s fd ⟨[u],[]⟩ [(x,u)])/\∀base:Heap,K.In base->base.Ns Kc mg->qT l.prog w K mg base CX k fa fd [x] (sp K))
  (hsp:∀(K:Frag) (H:Hp) (a:Addr) (ns:List Int),ns.length<=n->Fy H->SqL K H a (ns.map V.int)->sp K [.ref a] H (λv _=>v= .bl true) λ_ _ _=>False)
  (hCX:∀(H:Hp) (s:Jk) (e:Ji) (s':Jk),CX [] H s (λ_ _ _=>False) e s'->False) :
  WalkO q loose XP (hookK S top).says l.row.toRowW d [] (λf vs=>PySem.call f vs):=by
 refine Att.attach_call hn hdf λw s₀ s₁ mg mb fa o pm cd doc a vs ns G Y ho hd hcd hmg hobj hints hlen hg=> ?_
 obtain⟨K,KX,e⟩:=Y;obtain⟨fd,hb,hF⟩:=F w K mg fa _ KX e G.T.g hmg;exact zA KX G.T.g G.T.b G.T.builtins G.T.nolimit hg hobj hints (JQ hlen hn2) hr hF hb (λH hO hS=>hsp K H a ns hlen hO hS) λH e s'=>hCX H s₁ e s'
structure Cl (P:JI)(w:Kn)(K:Frag)(mg:Str->Option Ji)(base:Heap)(k:Nat)(x:Str)(n:Nat)(m:List T->Rs T):Prop where
 ex:∃f fd ps,mg x=some (.ref f)/\keepIn K (.ref f)=true/\Binds K fd ps []/\ps.length=n/\Fz P w K mg base k f fd ps n m
abbrev eK (K:Frag)(mg:Str->Option Ji)(x:Str)(st:Stmt)(ps:List Str):Prop:=∃f fd,Fn K mg x st ps f fd
section
variable {P:JI}{w:Kn}{K:Frag}{mg:Str->Option Ji}{base:Heap}{x:Str}{st:Stmt}{N ps:List Str}{k n:Nat}{F:En->Rs Fl}
theorem aU (H:eK K mg x st ps)(S:ax N ps (aj st))(hn:ps.length=n)
  (hbody:∀(f:Addr) (cdv:Ji) (A:JZ) (outer:List Env) (s:Jk) (H:Hp) (E:XK),Room k (A.deeper (envOfC x (aj st) s.heap.objs.size f cdv)) →
   ∀xe,AL ((kE CX0 P w K mg base N x (aj st) f cdv A outer s H E).HD xe) (db st) F):Cl P w K mg base (k+1) x n (val n N.length F):=by
 obtain⟨f,fd,h⟩:=H;exact⟨f,fd,ps,h.mg,h.fn.kp,h.bd,hn,uR h.fn S hn (hbody f)⟩
end
section
variable {X:Cx}{e:Expr}{es:List Expr}{fs:En->Rs (List T)}{pos p:Pos}{x:Str}{n k k':Nat}{g:List T->Rs T}
theorem aD (c:Cl X.prog X.w X.K X.mg X.base k x n g)(hr:Room k' X.A)(ha:QA X (e::es) fs)(hk:k<=k':=by decide)(hl:∀(Z:En) (ts:List T),fs Z= .ok ts->ts.length=n:=by repeat first | exact G8 | refine G7 ?_)
  (hn:bn (e::es)=true:=by rfl) (hg:Gl X x:=by rfl) (h2:ie x:=by decide):QE X (.Call (.Name x p) (e::es) [] pos) (cl g fs):=by
 obtain⟨f,fd,ps,h1,h3,h4,h5,h6⟩:=c.ex;exact zq_c h6 (hr.mono hk) h1 h3 h4 hl ha h5 hn hg h2
theorem rf {i:Int}(h:∃t,X.mg x=some (.int i t))(hg:Gl X x:=by rfl)(hd:ie x:=by decide):QE X (.Name x pos) (cn (.int i)):=by
 obtain⟨t,h⟩:=h;exact AU h ⟨_,rfl⟩ hg hd
end
end Tr
namespace Tr
open PySem PySem.Spec PyProof.Rows L2
theorem AV {X:Cx}{a b:Expr}{fs:En->Rs (List T)}{p p1 p2 pos:Pos}(hu:X.A.units+8<cLine)(hc:X.calm=true)(hm:X.mg "dict" =none)(hmz:X.mg "zip" =none)(ha:QA X [a,b] fs)(hst:bn [a,b] =true:=by rfl)(hg:Gl X "dict":=by rfl)(hgz:Gl X "zip":=by rfl) :
  QE X (.Call (.Name "dict" p) [.Call (.Name "zip" p1) [a,b] [] p2] [] pos) (cl G4 fs):=⟨DX hu hc hm hmz ha.h hst hg hgz⟩
theorem eJ {N P:List Str}{sc:Ny}(h1:sc.kind= .function:=by rfl)(h2:sc.isCoroutine=false:=by rfl)(h3:sc.isGenerator=false:=by rfl)(h4:N.Nodup:=by decide+kernel)(h5:N.take P.length=P:=by rfl)
  (h6:∀x∈P,sc.names.lookup x=some .local\/sc.names.lookup x=some .cell:=by decide+kernel) (h7:∀y∈sc.names,y.2≠ .free:=by decide+kernel):ax N P sc:=⟨h1,h2,h3,h4,h5,h6,h7⟩
theorem hu70 {k:Nat}{A:JZ}(h:Room k A):A.units+70<cLine:=by have:=h.un;omega
theorem AT {X:Cx}{a b:Expr}{fs:En->Rs (List T)}{p p1 p2 pos:Pos}(hu:X.A.units+70<cLine)(hc:X.calm=true)(hm:X.mg "sorted" =none)(hmz:X.mg "zip" =none)(ha:QA X [a,b] fs)(hst:bn [a,b] =true:=by rfl)(hg:Gl X "sorted":=by rfl)(hgz:Gl X "zip":=by rfl) :
  QE X (.Call (.Name "sorted" p) [.Call (.Name "zip" p1) [a,b] [] p2] [] pos) (cl FB fs):=⟨DV hu hc hm hmz ha.h hst hg hgz⟩
theorem xS {X:Cx}{a:Expr}{fa:En->Rs T}{pos p2 p3:Pos}{x:Str}(i:Nat){p:Pos}(hN:X.N.Nodup)(hm:X.mg "list" =none)(ha:QE X a fa)(hi:X.N[i]? =some x:=by rfl)(hx:Loc X.env.scope x:=by first | exact Lx rfl | exact KO rfl)(hg:Gl X "list":=by rfl)(hn:bO a=true:=by rfl)
  (hs:KP (.Call (.Name "list" p) [a] [] p2) (some (.Name x p3)) pos.line X.env=pure false:=by rfl)
  (hf:X.fn x=true\/X.env.scope.names.lookup x=some .local:=by first | exact .inl rfl | exact .inr rfl | assumption):QS X (.Assign [.Name x p3] (.Call (.Name "list" p) [a] [] p2) pos) (lT i fa):=⟨Bo i hN hm ha.h hi hx hg hn hs hf⟩
theorem qY {X:Cx}{b c:Expr}{fb fc:En->Rs T}{pos p2 p3:Pos}{x:Str}(i:Nat)(hb:QE X b fb)(hc:QE X c fc)(hN:X.N[i]? =some x:=by rfl)(hv:xG X.env.scope x:=by first | exact Lx rfl | exact KO (Lx rfl) | exact KO (KO rfl))
  (hd:ie x:=by decide) (hcd:(x == ("__classdict__" : Str))=false:=by decide)
  (hs:Nj [.Subscript (.Name x p2) b p3] c pos.line X.env=pure false:=by rfl) (hw:Nk [.Subscript (.Name x p2) b p3] c X.env=pure none:=by rfl)
  (h1:(KL [.Subscript (.Name x p2) b p3] X.env).map (·.2)= [assign (.Subscript (.Name x p2) b p3) X.env]:=by rfl)
  (ha:∀v,assign (.Subscript (.Name x p2) b p3) X.env v=(do
   let ov <-holding [v] (eval (.Name x p2) X.env)
   let iv <-holding [v,ov] (eval b X.env)
   standAt p3
   holding [v,ov,iv] (setItem ov iv v)
   release [v,ov,iv] []):=by intro _;rfl):QS X (.Assign [.Subscript (.Name x p2) b p3] c pos) (jK i fb fc):=⟨Bi i hb.h hc.h hN hv hd hcd hs hw h1 ha⟩
end Tr
namespace G
open PySem PySem.Spec PyProof.Rows L2 Tr
def top (i:Nat):Stmt:=J8.main.body.getD i (.Pass ⟨0,0,0,0⟩)
structure Bl (mg:Str->Option Ji):Prop where
 b_all:mg "all" =none
 b_bool:mg "bool" =none
 b_dict:mg "dict" =none
 b_enumerate:mg "enumerate" =none
 b_int:mg "int" =none
 b_isinstance:mg "isinstance" =none
 b_len:mg "len" =none
 b_list:mg "list" =none
 b_max:mg "max" =none
 b_min:mg "min" =none
 b_range:mg "range" =none
 b_sorted:mg "sorted" =none
 b_tuple:mg "tuple" =none
 b_zip:mg "zip" =none
structure Cs (mg:Str->Option Ji):Prop where
 MOST_CLOCKS:∃t,mg "MOST_CLOCKS" =some (.int 4 t)
 MOST_LETTERS:∃t,mg "MOST_LETTERS" =some (.int 8 t)
 MOST_READINGS:∃t,mg "MOST_READINGS" =some (.int 4 t)
 LAST_READING:∃t,mg "LAST_READING" =some (.int 99 t)
 SLOWEST:∃t,mg "SLOWEST" =some (.int 9 t)
 LONGEST:∃t,mg "LONGEST" =some (.int 999 t)
theorem qP:JT "bool" =some (.type "bool"):=by decide+kernel
theorem kZ:JT "int" =some (.type "int"):=by decide+kernel
theorem cK:JT "tuple" =some (.type "tuple"):=by decide+kernel
structure Xs (K:Jg)(mg:Str->Option Ji)(C_NoRecord C_NoEvent C_NoWorld C_ClockError:Addr):Prop where
 m_NoRecord:mg "NoRecord" =some (.ref C_NoRecord)
 m_NoEvent:mg "NoEvent" =some (.ref C_NoEvent)
 m_NoWorld:mg "NoWorld" =some (.ref C_NoWorld)
 m_ClockError:mg "ClockError" =some (.ref C_ClockError)
 o_NoRecord:OX K C_NoRecord (.ref C_ClockError::uH)
 o_NoEvent:OX K C_NoEvent (.ref C_ClockError::uH)
 o_NoWorld:OX K C_NoWorld (.ref C_ClockError::uH)
 o_ClockError:OX K C_ClockError uH
 d:[C_NoRecord,C_NoEvent,C_NoWorld,C_ClockError].Nodup
end G
namespace G
open PySem Tr
def iA:En->Rs Fl:=
 (ay (eO (tb (o2 qI (vr 0) (fE ah))) (aG (o2 cw (cn (.int 7)) (vr 1))) sN) (aG (o2 aS (o2 aO (vr 0) (o2 jT (vr 1) (cl cU (ae (vr 0) ah)))) (o2 cw (cn (.int 6553)) (o2 jY (vr 1) (cl cU (ae (vr 0) ah)))))))
def eg:List T->Rs T:=val 2 2 iA
def gJ:En->Rs Fl:=
 (ay (cv (o2 jT (o2 aS (o2 cw (o2 jT (cl eg (ae (vr 0) (ae (vr 1) ah))) (cn (.int 2147483563))) (cn (.int 69069))) (o2 cw (cn (.int 104723)) (o2 aS (vr 1) (cn (.int 1))))) (cn (.int 2147483563))) (gN 3)) (ay (cv (o2 jT (o2 aS (o2 cw (vr 3) (vr 3)) (o2 jY (vr 3) (cn (.int 3)))) (cn (.int 2147483399))) (gN 3)) (aG (o2 jT (o2 jY (o2 jT (o2 aS (o2 cw (vr 3) (vr 3)) (o2 jY (vr 3) (cn (.int 7)))) (cn (.int 2147483647))) (cn (.int 11))) (vr 2)))))
def aw:List T->Rs T:=val 3 4 gJ
def jk:En->Rs Fl:=
 (ay (cv (fE ah) (gN 1)) (ay (gb (iE (ae (vr 0) ah)) (gT 2 (gW (gN 2) (gW (gN 3) oU))) (cv (o2 aS (vr 1) (fH (iR (ae (cl cU (ae (o2 aO (vr 3) (cn (.int 2))) ah)) ah)) [none,some 2] (gN 0) bT (bK (ae (vr 1) (ae (vr 0) ah))))) (gN 1))) (aG (vr 1))))
def dm:List T->Rs T:=val 1 4 jk
def dq:En->Rs Fl:=
 (ay (cv (cl dm (ae (vr 2) ah)) (gN 3)) (ay (eO (tb (o2 wU (cl cU (ae (vr 3) ah)) (cn (.int 2)))) (aG (cn .non)) sN) (ay (cv (cl aw (ae (vr 0) (ae (vr 1) (ae (cl cU (ae (vr 3) ah)) ah)))) (gN 4)) (ay (cv (o2 jT (o2 aS (o2 aS (vr 4) (cn (.int 1))) (cl aw (ae (vr 0) (ae (o2 aS (vr 1) (cn (.int 1))) (ae (o2 gV (cl cU (ae (vr 3) ah)) (cn (.int 1))) ah))))) (cl cU (ae (vr 3) ah))) (gN 5)) (ay (cv (cl aw (ae (vr 0) (ae (o2 aS (vr 1) (cn (.int 2))) (ae (cn (.int 8)) ah)))) (gN 6)) (ay (cv (tL (tb (o2 qI (cl aw (ae (vr 0) (ae (o2 aS (vr 1) (cn (.int 3))) (ae (cn (.int 3)) ah)))) (cn (.int 0)))) (cn .non) (o2 aS (vr 6) (cl aw (ae (vr 0) (ae (o2 aS (vr 1) (cn (.int 4))) (ae (cn (.int 9)) ah)))))) (gN 7)) (aG (bK (ae (o2 aO (vr 3) (vr 4)) (ae (o2 aO (vr 3) (vr 5)) (ae (vr 6) (ae (vr 7) ah))))))))))))
def cJ:List T->Rs T:=val 3 8 dq
def gK:En->Rs Fl:=
 (ay (cv (o2 aS (cn (.int 1)) (cl aw (ae (vr 0) (ae (vr 1) (ae (cn (.int 3)) ah))))) (gN 2)) (ay (cv (bK (ae (cl aw (ae (vr 0) (ae (o2 aS (vr 1) (cn (.int 2))) (ae (cn (.int 6)) ah)))) ah)) (gN 3)) (ay (gb (iR (ae (cl aw (ae (vr 0) (ae (o2 aS (vr 1) (cn (.int 1))) (ae (cn (.int 3)) ah)))) ah)) (gN 4) (cv (o2 aS (vr 3) (bK (ae (o2 aS (o2 aS (o2 aO (vr 3) (o1 kw (cn (.int 1)))) (cn (.int 1))) (cl aw (ae (vr 0) (ae (o2 aS (o2 aS (vr 1) (cn (.int 3))) (vr 4)) (ae (cn (.int 5)) ah))))) ah))) (gN 3))) (aG (bK (ae (vr 2) (ae (o2 aS (vr 2) (cl aw (ae (vr 0) (ae (o2 aS (vr 1) (cn (.int 6))) (ae (cn (.int 3)) ah))))) (ae (vr 3) ah))))))))
def cb:List T->Rs T:=val 2 5 gK
def fX:En->Rs Fl:=
 (ay (cv (cl ez (ae (fH (iR (ae (o2 aS (cn (.int 1)) (cl aw (ae (vr 0) (ae (vr 1) (ae (cn (.int 3)) ah))))) ah)) [none,some 0,some 1] (gN 0) bT (cl cb (ae (vr 1) (ae (o2 aS (o2 aS (vr 2) (cn (.int 1))) (o2 cw (cn (.int 8)) (vr 0))) ah)))) ah)) (gN 3)) (ay (cv (fE ah) (gN 4)) (ay (gb (iR (ae (cl aw (ae (vr 0) (ae (o2 aS (vr 1) (cn (.int 30))) (ae (o2 aS (vr 2) (cn (.int 1))) ah)))) ah)) (gN 5) (ay (cv (cl cJ (ae (vr 0) (ae (o2 aS (o2 aS (vr 1) (cn (.int 31))) (o2 cw (cn (.int 6)) (vr 5))) (ae (vr 3) ah)))) (gN 6)) (cv (o2 aS (vr 4) (o2 cw (fE (ae (vr 6) ah)) (cl zP (ae (o2 de (vr 6) (cn .non)) ah)))) (gN 4)))) (aG (bK (ae (vr 3) (ae (cl ez (ae (vr 4) ah)) ah)))))))
def dl:List T->Rs T:=val 3 7 fX
def pq:En->Rs Fl:=
 (aG (bM (o1 (Cf "tuple") (vr 0)) (ch EK EK (vr 1) (cl cU (ae (vr 0) ah)) (vr 2))))
def aI:List T->Rs T:=val 3 3 pq
def uO:En->Rs Fl:=
 (aG (bM (o1 (Cf "int") (vr 0)) (o1 sj (o1 (Cf "bool") (vr 0)))))
def dX:List T->Rs T:=val 1 1 uO
def ix:En->Rs Fl:=
 (aG (bM (cl dX (ae (vr 0) ah)) (ch EK EK (vr 1) (vr 0) (vr 2))))
def aQ:List T->Rs T:=val 3 3 ix
def kK:En->Rs Fl:=
 (aG (bM (cl aQ (ae (vr 0) (ae (cn (.int 1)) (ae (cn (.int 9)) ah)))) (cl aQ (ae (vr 1) (ae (vr 0) (ae (cn (.int 9)) ah))))))
def eV:List T->Rs T:=val 2 2 kK
def wg:En->Rs Fl:=
 (aG (cl m5 (ae (fH (iR (ae (o2 gV (cl cU (ae (vr 0) ah)) (cn (.int 1))) ah)) [none,some 0] (gN 0) bT (o2 wU (o2 aO (vr 1) (vr 0)) (o2 aO (vr 1) (o2 aS (vr 0) (cn (.int 1)))))) ah)))
def iJ:List T->Rs T:=val 1 1 wg
def dO:En->Rs Fl:=
 (ay (eO (c6 (tb (cl aI (ae (vr 0) (ae (cn (.int 1)) (ae (cn (.int 4)) ah)))))) (aG (cn (.bl false))) sN) (aG (bM (cl m5 (ae (fH (iS (vr 0)) [none] (gN 0) bT (cl aQ (ae (vr 0) (ae (cn (.int 0)) (ae (cn (.int 99)) ah))))) ah)) (cl iJ (ae (vr 0) ah)))))
def bD:List T->Rs T:=val 1 1 dO
def gG:En->Rs Fl:=
 (aG (bM (cl aI (ae (vr 0) (ae (cn (.int 3)) (ae (cn (.int 3)) ah)))) (bM (cl eV (ae (o2 aO (vr 0) (cn (.int 0))) (ae (o2 aO (vr 0) (cn (.int 1))) ah))) (cl bD (ae (o2 aO (vr 0) (cn (.int 2))) ah)))))
def cR:List T->Rs T:=val 1 1 gG
def gI:En->Rs Fl:=
 (aG (bM (cl aI (ae (vr 0) (ae (cn (.int 1)) (ae (cn (.int 4)) ah)))) (cl m5 (ae (fH (iS (vr 0)) [none] (gN 0) bT (cl cR (ae (vr 0) ah))) ah))))
def c8:List T->Rs T:=val 1 1 gI
def gE:En->Rs Fl:=
 (ay (eO (nF (c6 (tb (cl aI (ae (vr 1) (ae (cn (.int 2)) (ae (cn (.int 2)) ah)))))) (c6 (tb (cl aQ (ae (o2 aO (vr 1) (cn (.int 0))) (ae (cn (.int 0)) (ae (o2 gV (cl cU (ae (vr 0) ah)) (cn (.int 1))) ah))))))) (aG (cn (.bl false))) sN) (aG (cl aQ (ae (o2 aO (vr 1) (cn (.int 1))) (ae (cn (.int 0)) (ae (o2 gV (cl cU (ae (o2 aO (o2 aO (vr 0) (o2 aO (vr 1) (cn (.int 0)))) (cn (.int 2))) ah)) (cn (.int 1))) ah))))))
def ci:List T->Rs T:=val 2 2 gE
def gF:En->Rs Fl:=
 (aG (bM (cl aQ (ae (vr 0) (ae (cn (.int 0)) (ae (cn (.int 999)) ah)))) (wJ (o2 fx (vr 1) (cn .non)) (cl aQ (ae (vr 1) (ae (vr 0) (ae (cn (.int 999)) ah)))))))
def dv:List T->Rs T:=val 2 2 gF
def dE:En->Rs Fl:=
 (ay (eO (nF (c6 (tb (cl aI (ae (vr 1) (ae (cn (.int 4)) (ae (cn (.int 4)) ah)))))) (c6 (tb (cl dv (ae (o2 aO (vr 1) (cn (.int 2))) (ae (o2 aO (vr 1) (cn (.int 3))) ah)))))) (aG (cn (.bl false))) sN) (aG (bM (cl ci (ae (vr 0) (ae (o2 aO (vr 1) (cn (.int 0))) ah))) (bM (cl ci (ae (vr 0) (ae (o2 aO (vr 1) (cn (.int 1))) ah))) (o2 vj (o2 aO (vr 1) (cn (.int 0))) (o2 aO (vr 1) (cn (.int 1))))))))
def bQ:List T->Rs T:=val 2 2 dE
def fW:En->Rs Fl:=
 (aG (bM (cl aI (ae (vr 1) (ae (cn (.int 0)) (ae (cn (.int 8)) ah)))) (cl m5 (ae (fH (iS (vr 1)) [none,some 0] (gN 0) bT (cl bQ (ae (vr 1) (ae (vr 0) ah)))) ah))))
def cI:List T->Rs T:=val 2 2 fW
def fN:En->Rs Fl:=
 (aG (bM (cl aI (ae (vr 0) (ae (cn (.int 2)) (ae (cn (.int 2)) ah)))) (bM (cl c8 (ae (o2 aO (vr 0) (cn (.int 0))) ah)) (cl cI (ae (o2 aO (vr 0) (cn (.int 0))) (ae (o2 aO (vr 0) (cn (.int 1))) ah))))))
def cQ:List T->Rs T:=val 1 1 fN
def fT:En->Rs Fl:=
 (eO (c6 (tb (cl cQ (ae (vr 0) ah)))) (yz "NoRecord") sN)
def bi:List T->Rs T:=val 1 1 fT
def m6:En->Rs Fl:=
 (ay (qX (cl bi (ae (vr 0) ah))) (ay (gP 1 ah) (ay (gb (iE (ae (o2 aO (vr 0) (cn (.int 0))) ah)) (gT 2 (gW (gN 2) (gW (gN 3) oU))) (lS 1 (fH (iR (ae (cl cU (ae (o2 aO (vr 3) (cn (.int 2))) ah)) ah)) [none,some 2] (gN 0) bT (bK (ae (vr 1) (ae (vr 0) ah)))))) (nC 1 (aG (vr 1))))))
def aZ:List T->Rs T:=val 1 4 m6
def gD:En->Rs Fl:=
 (eO (c6 (tb (cl ci (ae (o2 aO (vr 0) (cn (.int 0))) (ae (vr 1) ah))))) (yz "NoEvent") sN)
def b9:List T->Rs T:=val 2 2 gD
def fU:En->Rs Fl:=
 (ay (qX (cl bi (ae (vr 0) ah))) (ay (qX (cl b9 (ae (vr 0) (ae (vr 1) ah)))) (qX (cl b9 (ae (vr 0) (ae (vr 2) ah))))))
def cH:List T->Rs T:=val 3 3 fU
def iy:En->Rs Fl:=
 (ay (cv (oD gU (vr 0) (o2 aO (vr 1) (cn (.int 1)))) (gN 3)) (aG (wJ (o2 fx (vr 3) (cn .non)) (o2 wU (o2 aS (o2 aO (vr 2) (cn (.int 0))) (o2 aO (vr 1) (cn (.int 2)))) (o2 aO (vr 3) (cn (.int 0)))))))
def cS:List T->Rs T:=val 3 4 iy
def iu:En->Rs Fl:=
 (ay (ox 2 (fH (iS (vr 1)) [none] (gN 0) bT (bK (ae (vr 0) (ae (bK (ae (cn (.int 0)) (ae (fE ah) ah))) ah))))) (ay (cv (cn (.bl true)) (gN 3)) (ay (bA (tb (vr 3)) (ay (cv (cn (.bl false)) (gN 3)) (gb (iE (ae (vr 0) ah)) (gT 2 (gW (gN 4) (gW (gN 5) oU))) (ay (cv (ln 2 (oD gU (vr 2) (o2 aO (vr 5) (cn (.int 0))))) (gN 6)) (ay (eO (nF (tb (o2 fx (vr 6) (cn .non))) (c6 (B6 2 (tb (cl cS (ae (vr 2) (ae (vr 5) (ae (vr 6) ah)))))))) CY sN) (ay (cv (o2 aS (o2 aO (vr 6) (cn (.int 1))) (fE (ae (vr 4) ah))) (gN 7)) (ay (cv (fH (iS (vr 7)) [none,some 0] (gN 0) bT (o2 aO (o2 aO (vr 1) (vr 0)) (cn (.int 0)))) (gN 8)) (ay (eO (tb (o2 FE (o2 aO (vr 5) (cn (.int 1))) (vr 8))) (aG (bK (ae (cn .non) (ae (sl (vr 7) (pS (oL bF (vr 8) (o2 aO (vr 5) (cn (.int 1))))) pN) ah)))) sN) (ay (wA 2 (o2 aO (vr 5) (cn (.int 1))) (bK (ae (o2 aS (o2 aO (vr 6) (cn (.int 0))) (o2 aO (vr 5) (cn (.int 2)))) (ae (vr 7) ah)))) (cv (cn (.bl true)) (gN 3)))))))))) FU) (nC 2 (aG (bK (ae (vr 2) (ae (cn .non) ah))))))))
def ee:List T->Rs T:=val 2 9 iu
def cu:En->Rs Fl:=
 (ay (cv (cl aZ (ae (vr 0) ah)) (gN 2)) (ay (cv (o2 aO (cl ee (ae (vr 1) (ae (vr 2) ah))) (cn (.int 0))) (gN 3)) (ay (eO (tb (o2 fx (vr 3) (cn .non))) (aG (cn .non)) sN) (aG (cl ez (ae (fH (iS (vr 2)) [none,some 3] (gN 0) bT (o2 aO (o2 iX (vr 1) (vr 0)) (cn (.int 0)))) ah))))))
def aL:List T->Rs T:=val 2 4 cu
def dN:En->Rs Fl:=
 (ay (cv (o2 aO (vr 1) (cn (.int 2))) (gN 2)) (ay (gP 3 ah) (ay (gb (iR (ae (o2 gV (cl cU (ae (vr 2) ah)) (cn (.int 1))) ah)) (gN 4) (ay (cv (bK (ae (vr 0) (ae (vr 4) ah))) (gN 5)) (ay (cv (bK (ae (vr 0) (ae (o2 aS (vr 4) (cn (.int 1))) ah))) (gN 6)) (ay (cv (o2 gV (o2 aO (vr 2) (o2 aS (vr 4) (cn (.int 1)))) (o2 aO (vr 2) (vr 4))) (gN 7)) (ay (jL 3 (bK (ae (vr 5) (ae (vr 6) (ae (o2 cw (vr 7) (o2 aO (vr 1) (cn (.int 1)))) ah))))) (jL 3 (bK (ae (vr 6) (ae (vr 5) (ae (o2 cw (o1 kw (vr 7)) (o2 aO (vr 1) (cn (.int 0)))) ah)))))))))) (nC 3 (aG (vr 3))))))
def ca:List T->Rs T:=val 2 8 dN
def dy:En->Rs Fl:=
 (ay (gP 1 (ae (bK (ae (o2 aO (vr 0) (cn (.int 1))) (ae (o2 aO (vr 0) (cn (.int 0))) (ae (o1 kw (o2 aO (vr 0) (cn (.int 2)))) ah)))) ah)) (ay (eO (tb (o2 de (o2 aO (vr 0) (cn (.int 3))) (cn .non))) (jL 1 (bK (ae (o2 aO (vr 0) (cn (.int 0))) (ae (o2 aO (vr 0) (cn (.int 1))) (ae (o2 aO (vr 0) (cn (.int 3))) ah))))) sN) (nC 1 (aG (vr 1)))))
def bV:List T->Rs T:=val 1 2 dy
def m8:En->Rs Fl:=
 (ay (qX (cl bi (ae (vr 0) ah))) (ay (gP 1 ah) (ay (gb (iE (ae (o2 aO (vr 0) (cn (.int 0))) ah)) (gT 2 (gW (gN 2) (gW (gN 3) oU))) (lS 1 (cl ca (ae (vr 2) (ae (vr 3) ah))))) (ay (gb (iS (o2 aO (vr 0) (cn (.int 1)))) (gN 4) (lS 1 (cl bV (ae (vr 4) ah)))) (nC 1 (aG (vr 1)))))))
def cp:List T->Rs T:=val 1 5 m8
def CJ:En->Rs Fl:=
 (aG (cl aL (ae (vr 0) (ae (cl cp (ae (vr 0) ah)) ah))))
def eQ:List T->Rs T:=val 1 1 CJ
def tK:En->Rs Fl:=
 (aG (o2 de (cl eQ (ae (vr 0) ah)) (cn .non)))
def cT:List T->Rs T:=val 1 1 tK
def gC:En->Rs Fl:=
 (eO (c6 (tb (cl cT (ae (vr 0) ah)))) (yz "NoWorld") sN)
def b8:List T->Rs T:=val 1 1 gC
def xI:En->Rs Fl:=
 (aG (tL (tb (o2 Aq (vr 1) (vr 0))) (o2 aO (o2 iX (vr 0) (vr 1)) (cn (.int 0))) (cn .non)))
def dB:List T->Rs T:=val 2 2 xI
def qU:En->Rs Fl:=
 (aG (o2 aO (cl ee (ae (cl cp (ae (vr 0) ah)) (ae (fE (ae (vr 1) ah)) ah))) (cn (.int 0))))
def cz:List T->Rs T:=val 2 2 qU
def fG:En->Rs Fl:=
 (ay (qX (cl cH (ae (vr 0) (ae (vr 1) (ae (vr 2) ah))))) (ay (qX (cl b8 (ae (vr 0) ah))) (aG (cl dB (ae (cl cz (ae (vr 0) (ae (vr 1) ah))) (ae (vr 2) ah))))))
def bo:List T->Rs T:=val 3 3 fG
def eF:En->Rs Fl:=
 (ay (cv (cl bo (ae (vr 0) (ae (vr 2) (ae (vr 1) ah)))) (gN 3)) (aG (tL (tb (o2 fx (vr 3) (cn .non))) (cn .non) (o1 kw (vr 3)))))
def bX:List T->Rs T:=val 3 4 eF
def gA:En->Rs Fl:=
 (ay (qX (cl cH (ae (vr 0) (ae (vr 1) (ae (vr 2) ah))))) (ay (qX (cl b8 (ae (vr 0) ah))) (aG (cl aL (ae (vr 0) (ae (o2 aS (cl cp (ae (vr 0) ah)) (fE (ae (bK (ae (vr 1) (ae (vr 2) (ae (vr 3) ah)))) (ae (bK (ae (vr 2) (ae (vr 1) (ae (o1 kw (vr 3)) ah)))) ah)))) ah))))))
def a8:List T->Rs T:=val 4 4 gA
def qV:En->Rs Fl:=
 (aG (fH (iS (cl FB (ae (vr 1) (ae (cl aZ (ae (vr 0) ah)) ah)))) [none] (gN 0) bT (o2 aO (vr 0) (cn (.int 1)))))
def c7:List T->Rs T:=val 2 2 qV
def jw:En->Rs Fl:=
 (ay (qX (cl b8 (ae (vr 0) ah))) (ay (cv (cl aZ (ae (vr 0) ah)) (gN 1)) (ay (gP 2 ah) (ay (gb (iS (vr 1)) (gN 3) (ay (cv (cl cz (ae (vr 0) (ae (vr 3) ah))) (gN 4)) (jL 2 (cl ez (ae (fH (iS (vr 1)) [none,some 4] (gN 0) bT (cl dB (ae (vr 1) (ae (vr 0) ah)))) ah))))) (aG (ln 2 (cl ez (ae (vr 2) ah))))))))
def gu:List T->Rs T:=val 1 5 jw
def gB:En->Rs Fl:=
 (ay (cv (cl gu (ae (vr 0) ah)) (gN 1)) (ay (cv (cl aZ (ae (vr 0) ah)) (gN 2)) (ay (gP 3 ah) (ay (gb (iE (ae (vr 2) ah)) (gT 2 (gW (gN 4) (gW (gN 5) oU))) (gb (iE (ae (vr 2) ah)) (gT 2 (gW (gN 6) (gW (gN 7) oU))) (eO (lp (tb (o2 de (o2 aO (o2 aO (vr 1) (vr 6)) (vr 4)) (cn .non))) (tb (o2 wU (o2 aO (o2 aO (vr 1) (vr 6)) (vr 4)) (cn (.int 0))))) (jL 3 (bK (ae (vr 5) (ae (vr 7) ah)))) sN))) (nC 3 (aG (vr 3)))))))
def eR:List T->Rs T:=val 1 8 gB
def gH:En->Rs Fl:=
 (ay (qX (cl bi (ae (vr 0) ah))) (ay (gb (iS (vr 1)) (gN 2) (qX (cl b9 (ae (vr 0) (ae (vr 2) ah))))) (ay (eO (tb (o2 vj (cl oq (ae (vr 1) ah)) (cl aZ (ae (vr 0) ah)))) (aG (cn (.bl false))) sN) (ay (cv (fH (iR (ae (o2 gV (cl cU (ae (vr 1) ah)) (cn (.int 1))) ah)) [none,some 1] (gN 0) bT (bK (ae (o2 aO (vr 1) (o2 aS (vr 0) (cn (.int 1)))) (ae (o2 aO (vr 1) (vr 0)) (ae (cn (.int 0)) ah))))) (gN 3)) (aG (o2 de (cl aL (ae (vr 0) (ae (o2 aS (cl cp (ae (vr 0) ah)) (vr 3)) ah))) (cn .non)))))))
def aW:List T->Rs T:=val 2 4 gH
def dZ:En->Rs Fl:=
 (ay (gb (iS (sl (cl eR (ae (vr 0) ah)) (pS (o1 kw (cn (.int 5)))) pN)) (gT 2 (gW (gN 2) (gW (gN 3) oU))) (ay (lT 4 (vr 1)) (ay (jK 4 (oL bF (vr 1) (vr 2)) (vr 3)) (ay (jK 4 (oL bF (vr 1) (vr 3)) (vr 2)) (eO (B6 4 (tb (cl aW (ae (vr 0) (ae (vr 4) ah))))) (aG (cn (.bl false))) sN))))) (aG (cn (.bl true))))
def c9:List T->Rs T:=val 2 5 dZ
def fF:En->Rs Fl:=
 (ay (cv (cl bX (ae (vr 0) (ae (vr 1) (ae (vr 2) ah)))) (gN 3)) (aG (bM (o2 de (vr 3) (cn .non)) (o2 zT (vr 3) (cn (.int 0))))))
def bB:List T->Rs T:=val 3 4 fF
def fV:En->Rs Fl:=
 (ay (cv (cl bo (ae (vr 0) (ae (vr 1) (ae (vr 2) ah)))) (gN 3)) (aG (wJ (o2 fx (vr 3) (cn .non)) (o2 zT (vr 3) (cn (.int 0))))))
def dk:List T->Rs T:=val 3 4 fV
def lr:En->Rs Fl:=
 (aG (bM (o1 sj (cl bB (ae (vr 0) (ae (vr 1) (ae (vr 2) ah))))) (o1 sj (cl bB (ae (vr 0) (ae (vr 2) (ae (vr 1) ah)))))))
def cE:List T->Rs T:=val 3 3 lr
def iz:En->Rs Fl:=
 (ay (cv (cl cU (ae (cl aZ (ae (vr 0) ah)) ah)) (gN 2)) (aG (bM (cl aI (ae (vr 1) (ae (vr 2) (ae (vr 2) ah)))) (cl m5 (ae (fH (iS (vr 1)) [none] (gN 0) bT (cl dX (ae (vr 0) ah))) ah)))))
def fM:List T->Rs T:=val 2 3 iz
def CK:En->Rs Fl:=
 (aG (o2 EK (o2 gV (o2 iX (vr 1) (o2 aO (vr 0) (cn (.int 1)))) (o2 iX (vr 1) (o2 aO (vr 0) (cn (.int 0))))) (o2 aO (vr 0) (cn (.int 2)))))
def lx:List T->Rs T:=val 2 2 CK
def m7:En->Rs Fl:=
 (ay (cv (cl G4 (ae (cl aZ (ae (vr 0) ah)) (ae (vr 1) ah))) (gN 2)) (aG (fH (iE (ae (cl cp (ae (vr 0) ah)) ah)) [none,none,some 2] (gT 2 (gW (gN 0) (gW (gN 1) oU))) (c6 (tb (cl lx (ae (vr 1) (ae (vr 2) ah))))) (vr 0))))
def jV:List T->Rs T:=val 2 3 m7
def uN:En->Rs Fl:=
 (aG (bM (cl fM (ae (vr 0) (ae (vr 1) ah))) (o2 qI (cl jV (ae (vr 0) (ae (vr 1) ah))) (fE ah))))
def ft:List T->Rs T:=val 2 2 uN
def pk:En->Rs Fl:=
 (ay (cv (cl dl (ae (vr 0) (ae (cn (.int 0)) (ae (cn (.int 5)) ah)))) (gN 1)) (ay (eO (c6 (tb (cl cT (ae (vr 1) ah)))) (aG (o1 sj (cl aW (ae (vr 1) (ae (cl aZ (ae (vr 1) ah)) ah))))) sN) (ay (cv (cl aZ (ae (vr 1) ah)) (gN 2)) (ay (cv (o2 aO (vr 2) (cl aw (ae (vr 0) (ae (cn (.int 80)) (ae (cl cU (ae (vr 2) ah)) ah))))) (gN 3)) (ay (cv (o2 aO (vr 2) (cl aw (ae (vr 0) (ae (cn (.int 81)) (ae (cl cU (ae (vr 2) ah)) ah))))) (gN 4)) (ay (eO (tb (o2 qI (vr 3) (vr 4))) (ay (cv (fE (ae (cl cE (ae (vr 1) (ae (vr 3) (ae (vr 3) ah)))) (ae (cl dk (ae (vr 1) (ae (vr 3) (ae (vr 3) ah)))) (ae (cl bB (ae (vr 1) (ae (vr 3) (ae (vr 3) ah)))) ah)))) (gN 5)) (aG (o2 qI (vr 5) (fE (ae (cn (.bl true)) (ae (cn (.bl false)) (ae (cn (.bl false)) ah))))))) sN) (ay (cv (cl bo (ae (vr 1) (ae (vr 3) (ae (vr 4) ah)))) (gN 6)) (ay (cv (cl bX (ae (vr 1) (ae (vr 3) (ae (vr 4) ah)))) (gN 7)) (ay (eO (tb (o2 vj (cl bB (ae (vr 1) (ae (vr 3) (ae (vr 4) ah)))) (bM (o2 de (vr 7) (cn .non)) (o2 zT (vr 7) (cn (.int 0)))))) (aG (cn (.bl false))) sN) (ay (eO (tb (o2 vj (cl dk (ae (vr 1) (ae (vr 3) (ae (vr 4) ah)))) (wJ (o2 fx (vr 6) (cn .non)) (o2 zT (vr 6) (cn (.int 0)))))) (aG (cn (.bl false))) sN) (ay (cv (tL (tb (o2 de (vr 6) (cn .non))) (vr 6) (cl B5 (ae (cn (.int 1)) (ae (tL (tb (o2 fx (vr 7) (cn .non))) (cn (.int 0)) (vr 7)) ah)))) (gN 8)) (ay (cv (cl a8 (ae (vr 1) (ae (vr 3) (ae (vr 4) (ae (vr 8) ah))))) (gN 9)) (ay (eO (nF (tb (o2 fx (vr 9) (cn .non))) (c6 (tb (cl ft (ae (vr 1) (ae (vr 9) ah)))))) (aG (cn (.bl false))) sN) (ay (cv (cl c7 (ae (vr 1) (ae (vr 9) ah))) (gN 10)) (ay (eO (nF (c6 (tb (cl aW (ae (vr 1) (ae (vr 10) ah))))) (lp (tb (o2 zT (vr 8) (cn (.int 0)))) (tb (o2 zT (oL bF (vr 10) (vr 3)) (oL bF (vr 10) (vr 4)))))) (aG (cn (.bl false))) sN) (ay (cv (tL (tb (o2 de (vr 7) (cn .non))) (vr 7) (cl B1 (ae (o1 kw (cn (.int 1))) (ae (tL (tb (o2 fx (vr 6) (cn .non))) (cn (.int 0)) (vr 6)) ah)))) (gN 11)) (ay (cv (cl a8 (ae (vr 1) (ae (vr 3) (ae (vr 4) (ae (vr 11) ah))))) (gN 9)) (ay (eO (tb (o2 fx (vr 9) (cn .non))) (aG (cn (.bl false))) sN) (ay (cv (cl c7 (ae (vr 1) (ae (vr 9) ah))) (gN 10)) (ay (eO (lp (tb (o2 wU (vr 11) (cn (.int 0)))) (tb (o2 wU (oL bF (vr 10) (vr 3)) (oL bF (vr 10) (vr 4))))) (aG (cn (.bl false))) sN) (ay (eO (tb (o2 vj (cl cE (ae (vr 1) (ae (vr 3) (ae (vr 4) ah)))) (o2 de (cl a8 (ae (vr 1) (ae (vr 3) (ae (vr 4) (ae (cn (.int 0)) ah))))) (cn .non)))) (aG (cn (.bl false))) sN) (aG (cl c9 (ae (vr 1) (ae (cl c7 (ae (vr 1) (ae (cl eQ (ae (vr 1) ah)) ah))) ah)))))))))))))))))))))))))
def m_law:List T->Rs T:=val 1 12 pk
end G
namespace G
open PySem PySem.Spec PyProof.Rows L2 Tr
section
variable (P:JI)(w:Kn){K:Jg}{mg:Str->Option Ji}(base:Heap)
abbrev jI:Stmt:=top 60
abbrev qm:List Str:=["_law_script","_law_k"]
theorem pM:ax qm ["_law_script","_law_k"] (aj jI):=eJ
theorem qd (F:eK K mg "_law_cell" jI ["_law_script","_law_k"])(B:Bl mg):Cl P w K mg base 1 "_law_cell" 2 eg:=
 aU F pM rfl λf c A o s H E hr x=>(ai (bN (aY (r9 (n5 hr)) (ac 0) (eZ ag)) (ap (au (az dI ak (ac 1)))) bf) (ap (au (az aM (aH (ac 0) (az jn (ac 1) (cD cV B.b_len LJ (af (ac 0) ag)))) (az dI ak (az lv (ac 1) (cD cV B.b_len LJ (af (ac 0) ag))))))))
abbrev i9:Stmt:=top 61
abbrev nX:List Str:=["_law_script","_law_k","_law_many","_law_cell_here"]
theorem aaF:ax nX ["_law_script","_law_k","_law_many"] (aj i9):=eJ
theorem nP (F:eK K mg "_law_drawn" i9 ["_law_script","_law_k","_law_many"])(aaS:Cl P w K mg base 1 "_law_cell" 2 eg):Cl P w K mg base 2 "_law_drawn" 3 aw:=
 aU F aaF rfl λf c A o s H E hr x=>(by(apply ai;exact(aB (az jn (az aM (az dI (az jn (aD aaS hr (af (ac 0) (af (ac 1) ag))) ak) ak) (az dI ak (az aM (ac 1) ak))) ak) (ao 3 aaF.nd));apply ai;exact(aB (az jn (az aM (az dI (ac 3) (ac 3)) (az lv (ac 3) ak)) ak) (ao 3 aaF.nd));exact ap (au (az jn (az lv (az jn (az aM (az dI (ac 3) (ac 3)) (az lv (ac 3) ak)) ak) ak) (ac 2)))))
abbrev fj:Stmt:=top 64
abbrev ib:List Str:=["_law_clocks","_law_found","_law_number","_law_clock_here"]
theorem aal:ax ib ["_law_clocks"] (aj fj):=eJ
theorem l9 (F:eK K mg "_law_events" fj ["_law_clocks"])(B:Bl mg):Cl P w K mg base 1 "_law_events" 1 dm:=
 aU F aal rfl λf c A o s H E hr x=>(by(apply ai;exact(aB (eZ ag) (ao 1 aal.nd));apply ai;exact(cY rfl (eY B.b_enumerate (af (ac 0) ag)) (fI rfl (bp (ao 2 aal.nd) (bp (ao 3 aal.nd) d7))) (ap (aB (az aM (ac 1) (f7 (N':=["_law_place","_law_number"]) (src:=[none,some 2]) rfl (LcScope.by (N:=ib) (names:=(aj fj).names) rfl rfl rfl (by decide+kernel)) (cP B.b_range (af (cD cV B.b_len LJ (af (aH (ac 3) ak) ag)) ag)) (λ_ _ _ _ _=>⟨(ao 0 (show Kw (["_law_place","_law_number"]:List Str)by decide+kernel)),bY,(bW (af (ac 1) (af (ac 0) ag)))⟩))) (ao 1 aal.nd))));exact ap (au (ac 1))))
abbrev hG:Stmt:=top 63
abbrev mm:List Str:=["_law_script","_law_at","_law_clocks","_law_row","_law_place","_law_other","_law_least","_law_most"]
theorem aae:ax mm ["_law_script","_law_at","_law_clocks"] (aj hG):=eJ
theorem l8 (F:eK K mg "_law_letter" hG ["_law_script","_law_at","_law_clocks"])(aaG:Cl P w K mg base 1 "_law_events" 1 dm)(aa0:Cl P w K mg base 2 "_law_drawn" 3 aw)(B:Bl mg):Cl P w K mg base 3 "_law_letter" 3 cJ:=
 aU F aae rfl λf c A o s H E hr x=>(by(apply ai;exact(aB (aD aaG hr (af (ac 2) ag)) (ao 3 aae.nd));apply ai;exact(bN (aY oB (cD cV B.b_len LJ (af (ac 3) ag)) ak) (ap (au bu)) bf);apply ai;exact(aB (aD aa0 hr (af (ac 0) (af (ac 1) (af (cD cV B.b_len LJ (af (ac 3) ag)) ag)))) (ao 4 aae.nd));apply ai;exact(aB (az jn (az aM (az aM (ac 4) ak) (aD aa0 hr (af (ac 0) (af (az aM (ac 1) ak) (af (az hW (cD cV B.b_len LJ (af (ac 3) ag)) ak) ag))))) (cD cV B.b_len LJ (af (ac 3) ag))) (ao 5 aae.nd));apply ai;exact(aB (aD aa0 hr (af (ac 0) (af (az aM (ac 1) ak) (af ak ag)))) (ao 6 aae.nd));apply ai;exact(aB (lI (aY (r9 (n5 hr)) (aD aa0 hr (af (ac 0) (af (az aM (ac 1) ak) (af ak ag)))) ak) bu (az aM (ac 6) (aD aa0 hr (af (ac 0) (af (az aM (ac 1) ak) (af ak ag)))))) (ao 7 aae.nd));exact ap (au (bW (af (aH (ac 3) (ac 4)) (af (aH (ac 3) (ac 5)) (af (ac 6) (af (ac 7) ag))))))))
abbrev ja:Stmt:=top 62
abbrev nY:List Str:=["_law_script","_law_at","_law_slow","_law_readings","_law_k"]
theorem aao:ax nY ["_law_script","_law_at"] (aj ja):=eJ
theorem nQ (F:eK K mg "_law_clock" ja ["_law_script","_law_at"])(aa0:Cl P w K mg base 2 "_law_drawn" 3 aw)(B:Bl mg):Cl P w K mg base 3 "_law_clock" 2 cb:=
 aU F aao rfl λf c A o s H E hr x=>(by(apply ai;exact(aB (az aM ak (aD aa0 hr (af (ac 0) (af (ac 1) (af ak ag))))) (ao 2 aao.nd));apply ai;exact(aB (bW (af (aD aa0 hr (af (ac 0) (af (az aM (ac 1) ak) (af ak ag)))) ag)) (ao 3 aao.nd));apply ai;exact(cY rfl (cP B.b_range (af (aD aa0 hr (af (ac 0) (af (az aM (ac 1) ak) (af ak ag)))) ag)) (ao 4 aao.nd) (ap (aB (az aM (ac 3) (bW (af (az aM (az aM (aH (ac 3) (jl ak)) ak) (aD aa0 hr (af (ac 0) (af (az aM (az aM (ac 1) ak) (ac 4)) (af ak ag))))) ag))) (ao 3 aao.nd))));exact ap (au (bW (af (ac 2) (af (az aM (ac 2) (aD aa0 hr (af (ac 0) (af (az aM (ac 1) ak) (af ak ag))))) (af (ac 3) ag)))))))
abbrev fh:Stmt:=top 65
abbrev ia:List Str:=["_law_script","_law_at","_law_most","_law_clocks","_law_letters","_law_k","_law_letter_here"]
theorem aaf:ax ia ["_law_script","_law_at","_law_most"] (aj fh):=eJ
theorem l7 (F:eK K mg "_law_record" fh ["_law_script","_law_at","_law_most"])(aa0:Cl P w K mg base 2 "_law_drawn" 3 aw)(aaH:Cl P w K mg base 3 "_law_letter" 3 cJ)(aaM:Cl P w K mg base 3 "_law_clock" 2 cb)(B:Bl mg):Cl P w K mg base 4 "_law_record" 3 dl:=
 aU F aaf rfl λf c A o s H E hr x=>(by(apply ai;exact(aB (n9 ir B.b_tuple cK (af (f7 (N':=["_law_k","_law_script","_law_at"]) (src:=[none,some 0,some 1]) rfl (LcScope.by (N:=ia) (names:=(aj fh).names) rfl rfl rfl (by decide+kernel)) (cP B.b_range (af (az aM ak (aD aa0 hr (af (ac 0) (af (ac 1) (af ak ag))))) ag)) (λ_ _ _ _ _=>⟨(ao 0 (show Kw (["_law_k","_law_script","_law_at"]:List Str)by decide+kernel)),bY,(aD aaM hr (af (ac 1) (af (az aM (az aM (ac 2) ak) (az dI ak (ac 0))) ag)))⟩)) ag)) (ao 3 aaf.nd));apply ai;exact(aB (eZ ag) (ao 4 aaf.nd));apply ai;exact(cY rfl (cP B.b_range (af (aD aa0 hr (af (ac 0) (af (az aM (ac 1) ak) (af (az aM (ac 2) ak) ag)))) ag)) (ao 5 aaf.nd) (ai (aB (aD aaH hr (af (ac 0) (af (az aM (az aM (ac 1) ak) (az dI ak (ac 5))) (af (ac 3) ag)))) (ao 6 aaf.nd)) (ap (aB (az aM (ac 4) (az dI (eZ (af (ac 6) ag)) (n9 Fs B.b_int kZ (af (cm dh (ac 6) bu) ag)))) (ao 4 aaf.nd)))));exact ap (au (bW (af (ac 3) (af (n9 ir B.b_tuple cK (af (ac 4) ag)) ag))))))
abbrev lN:Stmt:=top 14
abbrev uj:List Str:=["thing","least","most"]
theorem tY:ax uj ["thing","least","most"] (aj lN):=eJ
theorem uf (F:eK K mg "is_long" lN ["thing","least","most"])(B:Bl mg):Cl P w K mg base 1 "is_long" 3 aI:=
 aU F tY rfl λf c A o s H E hr x=>(ap (au (cy (xU B.b_isinstance B.b_tuple cK (ac 0)) (ck (rg r8 r8 (ac 1) (cD cV B.b_len LJ (af (ac 0) ag)) (ac 2))))))
abbrev kO:Stmt:=top 12
abbrev sC:List Str:=["thing"]
theorem rL:ax sC ["thing"] (aj kO):=eJ
theorem se (F:eK K mg "is_whole" kO ["thing"])(B:Bl mg):Cl P w K mg base 1 "is_whole" 1 dX:=
 aU F rL rfl λf c A o s H E hr x=>(ap (au (cy (xU B.b_isinstance B.b_int kZ (ac 0)) (ck (pA (xU B.b_isinstance B.b_bool qP (ac 0)))))))
abbrev jD:Stmt:=top 13
abbrev qh:List Str:=["thing","least","most"]
theorem pI:ax qh ["thing","least","most"] (aj jD):=eJ
theorem p6 (F:eK K mg "is_within" jD ["thing","least","most"])(aau:Cl P w K mg base 1 "is_whole" 1 dX):Cl P w K mg base 2 "is_within" 3 aQ:=
 aU F pI rfl λf c A o s H E hr x=>(ap (au (cy (aD aau hr (af (ac 0) ag)) (ck (rg r8 r8 (ac 1) (ac 0) (ac 2))))))
abbrev lM:Stmt:=top 17
abbrev ui:List Str:=["slow","fast"]
theorem tX:ax ui ["slow","fast"] (aj lM):=eJ
theorem ue (F:eK K mg "is_pace" lM ["slow","fast"])(aa3:Cl P w K mg base 2 "is_within" 3 aQ)(C:Cs mg):Cl P w K mg base 3 "is_pace" 2 eV:=
 aU F tX rfl λf c A o s H E hr x=>(ap (au (cy (aD aa3 hr (af (ac 0) (af ak (af (rf C.SLOWEST) ag)))) (ck (aD aa3 hr (af (ac 1) (af (ac 0) (af (rf C.SLOWEST) ag))))))))
abbrev lK:Stmt:=top 15
abbrev sA:List Str:=["numbers"]
theorem yx:ax sA ["numbers"] (aj lK):=eJ
theorem y6 (F:eK K mg "rises" lK ["numbers"])(B:Bl mg):Cl P w K mg base 1 "rises" 1 iJ:=
 aU F yx rfl λf c A o s H E hr x=>(ap (au (cD (mQ rfl) B.b_all Re (af (f7 (N':=["k","numbers"]) (src:=[none,some 0]) rfl (LcScope.by (N:=sA) (names:=(aj lK).names) rfl rfl rfl (by decide+kernel)) (cP B.b_range (af (az hW (cD cV B.b_len LJ (af (ac 0) ag)) ak) ag)) (λ_ _ _ _ _=>⟨(ao 0 (show Kw (["k","numbers"]:List Str)by decide+kernel)),bY,(cm oB (aH (ac 1) (ac 0)) (aH (ac 1) (az aM (ac 0) ak)))⟩)) ag))))
abbrev eC:Stmt:=top 16
abbrev gQ:List Str:=["thing"]
theorem k6:ax gQ ["thing"] (aj eC):=eJ
theorem k9 (F:eK K mg "are_readings" eC ["thing"])(aa1:Cl P w K mg base 1 "is_long" 3 aI)(ab6:Cl P w K mg base 1 "rises" 1 iJ)(aa3:Cl P w K mg base 2 "is_within" 3 aQ)(B:Bl mg)(C:Cs mg):Cl P w K mg base 3 "are_readings" 1 bD:=
 aU F k6 rfl λf c A o s H E hr x=>(ai (bN (cX (cx (aD aa1 hr (af (ac 0) (af ak (af (rf C.MOST_READINGS) ag)))))) (ap (au dF)) bf) (ap (au (cy (cD (mQ rfl) B.b_all Re (af (f7 (N':=["part"]) (src:=[none]) rfl (LcScope.by (N:=gQ) (names:=(aj eC).names) rfl rfl rfl (by decide+kernel)) (cZ (ac 0)) (λ_ _ _ _ _=>⟨(ao 0 (show Kw (["part"]:List Str)by decide+kernel)),bY,(aD aa3 hr (af (ac 0) (af ak (af (rf C.LAST_READING) ag))))⟩)) ag)) (ck (aD ab6 hr (af (ac 0) ag)))))))
abbrev kR:Stmt:=top 18
abbrev sI:List Str:=["thing"]
theorem rO:ax sI ["thing"] (aj kR):=eJ
theorem sh (F:eK K mg "is_clock" kR ["thing"])(aa1:Cl P w K mg base 1 "is_long" 3 aI)(ab2:Cl P w K mg base 3 "is_pace" 2 eV)(aaC:Cl P w K mg base 3 "are_readings" 1 bD):Cl P w K mg base 4 "is_clock" 1 cR:=
 aU F rO rfl λf c A o s H E hr x=>(ap (au (cy (aD aa1 hr (af (ac 0) (af ak (af ak ag)))) (cy (aD ab2 hr (af (aH (ac 0) ak) (af (aH (ac 0) ak) ag))) (ck (aD aaC hr (af (aH (ac 0) ak) ag)))))))
abbrev fR:Stmt:=top 19
abbrev jd:List Str:=["thing"]
theorem nB:ax jd ["thing"] (aj fR):=eJ
theorem nN (F:eK K mg "are_clocks" fR ["thing"])(aa1:Cl P w K mg base 1 "is_long" 3 aI)(aaY:Cl P w K mg base 4 "is_clock" 1 cR)(B:Bl mg)(C:Cs mg):Cl P w K mg base 5 "are_clocks" 1 c8:=
 aU F nB rfl λf c A o s H E hr x=>(ap (au (cy (aD aa1 hr (af (ac 0) (af ak (af (rf C.MOST_CLOCKS) ag)))) (ck (cD (mQ rfl) B.b_all Re (af (f7 (N':=["part"]) (src:=[none]) rfl (LcScope.by (N:=jd) (names:=(aj fR).names) rfl rfl rfl (by decide+kernel)) (cZ (ac 0)) (λ_ _ _ _ _=>⟨(ao 0 (show Kw (["part"]:List Str)by decide+kernel)),bY,(aD aaY hr (af (ac 0) ag))⟩)) ag))))))
abbrev kP:Stmt:=top 20
abbrev sG:List Str:=["clocks","thing"]
theorem rM:ax sG ["clocks","thing"] (aj kP):=eJ
theorem sf (F:eK K mg "is_event" kP ["clocks","thing"])(aa3:Cl P w K mg base 2 "is_within" 3 aQ)(aa1:Cl P w K mg base 1 "is_long" 3 aI)(B:Bl mg):Cl P w K mg base 3 "is_event" 2 ci:=
 aU F rM rfl λf c A o s H E hr x=>(ai (bN (kL (lG (cX (cx (aD aa1 hr (af (ac 1) (af ak (af ak ag)))))) (jx (cX (cx (aD aa3 hr (af (aH (ac 1) ak) (af ak (af (az hW (cD cV B.b_len LJ (af (ac 0) ag)) ak) ag))))))))) (ap (au dF)) bf) (ap (au (aD aa3 hr (af (aH (ac 1) ak) (af ak (af (az hW (cD cV B.b_len LJ (af (aH (aH (ac 0) (aH (ac 1) ak)) ak) ag)) ak) ag)))))))
abbrev kQ:Stmt:=top 21
abbrev sH:List Str:=["least","most"]
theorem rN:ax sH ["least","most"] (aj kQ):=eJ
theorem sg (F:eK K mg "is_delay" kQ ["least","most"])(aa3:Cl P w K mg base 2 "is_within" 3 aQ)(C:Cs mg):Cl P w K mg base 3 "is_delay" 2 dv:=
 aU F rN rfl λf c A o s H E hr x=>(ap (au (cy (aD aa3 hr (af (ac 0) (af ak (af (rf C.LONGEST) ag)))) (ck (uP (cm hY (ac 1) bu) (ck (aD aa3 hr (af (ac 1) (af (ac 0) (af (rf C.LONGEST) ag))))))))))
abbrev jF:Stmt:=top 22
abbrev qj:List Str:=["clocks","thing"]
theorem pK:ax qj ["clocks","thing"] (aj jF):=eJ
theorem p8 (F:eK K mg "is_letter" jF ["clocks","thing"])(aan:Cl P w K mg base 3 "is_event" 2 ci)(aa1:Cl P w K mg base 1 "is_long" 3 aI)(aaZ:Cl P w K mg base 3 "is_delay" 2 dv):Cl P w K mg base 4 "is_letter" 2 bQ:=
 aU F pK rfl λf c A o s H E hr x=>(ai (bN (kL (lG (cX (cx (aD aa1 hr (af (ac 1) (af ak (af ak ag)))))) (jx (cX (cx (aD aaZ hr (af (aH (ac 1) ak) (af (aH (ac 1) ak) ag)))))))) (ap (au dF)) bf) (ap (au (cy (aD aan hr (af (ac 0) (af (aH (ac 1) ak) ag))) (cy (aD aan hr (af (ac 0) (af (aH (ac 1) ak) ag))) (ck (cm (r6 (n5 hr)) (aH (ac 1) ak) (aH (ac 1) ak))))))))
abbrev fg:Stmt:=top 23
abbrev hZ:List Str:=["clocks","thing"]
theorem lR:ax hZ ["clocks","thing"] (aj fg):=eJ
theorem l5 (F:eK K mg "are_letters" fg ["clocks","thing"])(aa1:Cl P w K mg base 1 "is_long" 3 aI)(aaT:Cl P w K mg base 4 "is_letter" 2 bQ)(B:Bl mg)(C:Cs mg):Cl P w K mg base 5 "are_letters" 2 cI:=
 aU F lR rfl λf c A o s H E hr x=>(ap (au (cy (aD aa1 hr (af (ac 1) (af ak (af (rf C.MOST_LETTERS) ag)))) (ck (cD (mQ rfl) B.b_all Re (af (f7 (N':=["part","clocks"]) (src:=[none,some 0]) rfl (LcScope.by (N:=hZ) (names:=(aj fg).names) rfl rfl rfl (by decide+kernel)) (cZ (ac 1)) (λ_ _ _ _ _=>⟨(ao 0 (show Kw (["part","clocks"]:List Str)by decide+kernel)),bY,(aD aaT hr (af (ac 1) (af (ac 0) ag)))⟩)) ag))))))
abbrev jE:Stmt:=top 24
abbrev qi:List Str:=["thing"]
theorem pJ:ax qi ["thing"] (aj jE):=eJ
theorem p7 (F:eK K mg "is_record" jE ["thing"])(aa1:Cl P w K mg base 1 "is_long" 3 aI)(aaN:Cl P w K mg base 5 "are_clocks" 1 c8)(aaI:Cl P w K mg base 5 "are_letters" 2 cI):Cl P w K mg base 6 "is_record" 1 cQ:=
 aU F pJ rfl λf c A o s H E hr x=>(ap (au (cy (aD aa1 hr (af (ac 0) (af ak (af ak ag)))) (cy (aD aaN hr (af (aH (ac 0) ak) ag)) (ck (aD aaI hr (af (aH (ac 0) ak) (af (aH (ac 0) ak) ag))))))))
abbrev gZ:Stmt:=top 25
abbrev mi:List Str:=["thing"]
theorem lP:ax mi ["thing"] (aj gZ):=eJ
theorem lY (F:eK K mg "need_record" gZ ["thing"])(aaU:Cl P w K mg base 6 "is_record" 1 cQ){C_NoRecord C_NoEvent C_NoWorld C_ClockError:Addr}(S:Xs K mg C_NoRecord C_NoEvent C_NoWorld C_ClockError):Cl P w K mg base 7 "need_record" 1 bi:=
 aU F lP rfl λf c A o s H E hr x=>(ap (bN (cX (cx (aD aaU hr (af (ac 0) ag)))) (ap (j9 S.o_NoRecord S.m_NoRecord)) bf))
abbrev ka:Stmt:=top 27
abbrev oG:List Str:=["record","told","number","clock"]
theorem aaQ:ax oG ["record"] (aj ka):=eJ
theorem wL (F:eK K mg "events" ka ["record"])(aa4:Cl P w K mg base 7 "need_record" 1 bi)(B:Bl mg):Cl P w K mg base 8 "events" 1 aZ:=
 aU F aaQ rfl λf c A o s H E hr x=>(by(apply ai;exact(cC (aD aa4 hr (af (ac 0) ag)));apply ai;exact(fZ 1 aaQ.nd ag);apply ai;exact(cY rfl (eY B.b_enumerate (af (aH (ac 0) ak) ag)) (fI rfl (bp (ao 2 aaQ.nd) (bp (ao 3 aaQ.nd) d7))) (ap (pz 1 (f7 (N':=["k","number"]) (src:=[none,some 2]) rfl (LcScope.by (N:=oG) (names:=(aj ka).names) rfl rfl rfl (by decide+kernel)) (cP B.b_range (af (cD cV B.b_len LJ (af (aH (ac 3) ak) ag)) ag)) (λ_ _ _ _ _=>⟨(ao 0 (show Kw (["k","number"]:List Str)by decide+kernel)),bY,(bW (af (ac 1) (af (ac 0) ag)))⟩)))));exact ap (iB 1 (au (ac 1)))))
abbrev i8:Stmt:=top 26
abbrev nW:List Str:=["record","thing"]
theorem nA:ax nW ["record","thing"] (aj i8):=eJ
theorem nL (F:eK K mg "need_event" i8 ["record","thing"])(aan:Cl P w K mg base 3 "is_event" 2 ci){C_NoRecord C_NoEvent C_NoWorld C_ClockError:Addr}(S:Xs K mg C_NoRecord C_NoEvent C_NoWorld C_ClockError):Cl P w K mg base 4 "need_event" 2 b9:=
 aU F nA rfl λf c A o s H E hr x=>(ap (bN (cX (cx (aD aan hr (af (aH (ac 0) ak) (af (ac 1) ag))))) (ap (j9 S.o_NoEvent S.m_NoEvent)) bf))
abbrev g7:Stmt:=top 45
abbrev mj:List Str:=["record","one","other"]
theorem lQ:ax mj ["record","one","other"] (aj g7):=eJ
theorem lZ (F:eK K mg "need_events" g7 ["record","one","other"])(aa4:Cl P w K mg base 7 "need_record" 1 bi)(aag:Cl P w K mg base 4 "need_event" 2 b9):Cl P w K mg base 8 "need_events" 3 cH:=
 aU F lQ rfl λf c A o s H E hr x=>(by(apply ai;exact(cC (aD aa4 hr (af (ac 0) ag)));apply ai;exact(cC (aD aag hr (af (ac 0) (af (ac 1) ag))));exact ap (cC (aD aag hr (af (ac 0) (af (ac 2) ag))))))
abbrev jG:Stmt:=top 38
abbrev qk:List Str:=["best","bound","ahead","known"]
theorem ab3:ax qk ["best","bound","ahead"] (aj jG):=eJ
theorem p9 (F:eK K mg "is_better" jG ["best","bound","ahead"]):Cl P w K mg base 1 "is_better" 3 cS:=
 aU F ab3 rfl λf c A o s H E hr x=>(ai (aB (uQ (C9 hr) (ac 0) (aH (ac 1) ak)) (ao 3 ab3.nd)) (ap (au (uP (cm hY (ac 3) bu) (ck (cm oB (az aM (aH (ac 2) ak) (aH (ac 1) ak)) (aH (ac 3) ak)))))))
abbrev iD:Stmt:=top 37
abbrev kr:List Str:=["limits","starts","best","moved","number","bound","ahead","walk","passed"]
theorem aad:ax kr ["limits","starts"] (aj iD):=eJ
theorem wK (F:eK K mg "settle" iD ["limits","starts"])(aaV:Cl P w K mg base 1 "is_better" 3 cS)(B:Bl mg):Cl P w K mg base 2 "settle" 2 ee:=
 aU F aad rfl λf c A o s H E hr x=>(by(apply ai;exact(xQ 2 (hu8 hr) rfl B.b_dict aad.nd (f7 (N':=["event"]) (src:=[none]) rfl (LcScope.by (N:=kr) (names:=(aj iD).names) rfl rfl rfl (by decide+kernel)) (cZ (ac 1)) (λ_ _ _ _ _=>⟨(ao 0 (show Kw (["event"]:List Str)by decide+kernel)),bY,(bW (af (ac 0) (af (bW (af ak (af (eZ ag) ag))) ag)))⟩)));apply ai;exact(aB dF (ao 3 aad.nd));apply ai;exact(wj FU (cx (ac 3)) (ai (aB dF (ao 3 aad.nd)) (ap (cY rfl (eY B.b_enumerate (af (ac 0) ag)) (fI rfl (bp (ao 4 aad.nd) (bp (ao 5 aad.nd) d7))) (by(apply ai;exact(aB (CM 2 (uQ (C9 hr) (ac 2) (aH (ac 5) ak))) (ao 6 aad.nd));apply ai;exact(bN (kL (lG (aY hY (ac 6) bu) (jx (cX (xP 2 (cx (aD aaV hr (af (ac 2) (af (ac 5) (af (ac 6) ag)))))))))) (ap Dm) bf);apply ai;exact(aB (az aM (aH (ac 6) ak) (eZ (af (ac 4) ag))) (ao 7 aad.nd));apply ai;exact(xR 8 (N':=["step","limits"]) (src:=[none,some 0]) rfl (LcScope.by (N:=kr) (names:=(aj iD).names) rfl rfl rfl (by decide+kernel)) (cZ (ac 7)) (λ_ _ _ _ _=>⟨(ao 0 (show Kw (["step","limits"]:List Str)by decide+kernel)),bY,(aH (aH (ac 1) (ac 0)) ak)⟩) aad.nd);apply ai;exact(bN (aY (Gw (sY hr)) (aH (ac 5) ak) (ac 8)) (ap (au (bW (af bu (af (re (ac 7) (qZ (dU (sY hr) (ac 8) (aH (ac 5) ak))) q0) ag))))) bf);apply ai;exact(AS 2 (C9 hr) (aH (ac 5) ak) (bW (af (az aM (aH (ac 6) ak) (aH (ac 5) ak)) (af (ac 7) ag))));exact ap (aB dF (ao 3 aad.nd))))))));exact ap (iB 2 (au (bW (af (ac 2) (af bu ag)))))))
abbrev dG:Stmt:=top 40
abbrev fL:List Str:=["record","limits","places","best"]
theorem aav:ax fL ["record","limits"] (aj dG):=eJ
theorem jO (F:eK K mg "greatest_world" dG ["record","limits"])(aa2:Cl P w K mg base 8 "events" 1 aZ)(aaD:Cl P w K mg base 2 "settle" 2 ee)(B:Bl mg):Cl P w K mg base 9 "greatest_world" 2 aL:=
 aU F aav rfl λf c A o s H E hr x=>(by(apply ai;exact(aB (aD aa2 hr (af (ac 0) ag)) (ao 2 aav.nd));apply ai;exact(aB (aH (aD aaD hr (af (ac 1) (af (ac 2) ag))) ak) (ao 3 aav.nd));apply ai;exact(bN (aY hY (ac 3) bu) (ap (au bu)) bf);exact ap (au (n9 ir B.b_tuple cK (af (f7 (N':=["event","best"]) (src:=[none,some 3]) rfl (LcScope.by (N:=fL) (names:=(aj dG).names) rfl rfl rfl (by decide+kernel)) (cZ (ac 2)) (λ_ _ _ _ _=>⟨(ao 0 (show Kw (["event","best"]:List Str)by decide+kernel)),bY,(aH (pB (C9 hr) (ac 1) (ac 0)) ak)⟩)) ag)))))
abbrev ff:Stmt:=top 29
abbrev jq:List Str:=["number","clock","readings","told","k","first","second","steps"]
theorem aa6:ax jq ["number","clock"] (aj ff):=eJ
theorem jo (F:eK K mg "bounds_of_clock" ff ["number","clock"])(B:Bl mg):Cl P w K mg base 1 "bounds_of_clock" 2 ca:=
 aU F aa6 rfl λf c A o s H E hr x=>(by(apply ai;exact(aB (aH (ac 1) ak) (ao 2 aa6.nd));apply ai;exact(fZ 3 aa6.nd ag);apply ai;exact(cY rfl (cP B.b_range (af (az hW (cD cV B.b_len LJ (af (ac 2) ag)) ak) ag)) (ao 4 aa6.nd) (by(apply ai;exact(aB (bW (af (ac 0) (af (ac 4) ag))) (ao 5 aa6.nd));apply ai;exact(aB (bW (af (ac 0) (af (az aM (ac 4) ak) ag))) (ao 6 aa6.nd));apply ai;exact(aB (az hW (aH (ac 2) (az aM (ac 4) ak)) (aH (ac 2) (ac 4))) (ao 7 aa6.nd));apply ai;exact(jy 3 (bW (af (ac 5) (af (ac 6) (af (az dI (ac 7) (aH (ac 1) ak)) ag)))));exact ap (jy 3 (bW (af (ac 6) (af (ac 5) (af (az dI (jl (ac 7)) (aH (ac 1) ak)) ag))))))));exact ap (iB 3 (au (ac 3)))))
abbrev eG:Stmt:=top 30
abbrev iW:List Str:=["letter","told"]
theorem aaB:ax iW ["letter"] (aj eG):=eJ
theorem iV (F:eK K mg "bounds_of_letter" eG ["letter"]):Cl P w K mg base 1 "bounds_of_letter" 1 bV:=
 aU F aaB rfl λf c A o s H E hr x=>(by(apply ai;exact(fZ 1 aaB.nd (af (bW (af (aH (ac 0) ak) (af (aH (ac 0) ak) (af (jl (aH (ac 0) ak)) ag)))) ag));apply ai;exact(bN (aY dh (aH (ac 0) ak) bu) (ap (jy 1 (bW (af (aH (ac 0) ak) (af (aH (ac 0) ak) (af (aH (ac 0) ak) ag)))))) bf);exact ap (iB 1 (au (ac 1)))))
abbrev oo:Stmt:=top 31
abbrev wQ:List Str:=["record","told","number","clock","letter"]
theorem aaE:ax wQ ["record"] (aj oo):=eJ
theorem wN (F:eK K mg "bounds" oo ["record"])(aa4:Cl P w K mg base 7 "need_record" 1 bi)(aaw:Cl P w K mg base 1 "bounds_of_clock" 2 ca)(aar:Cl P w K mg base 1 "bounds_of_letter" 1 bV)(B:Bl mg):Cl P w K mg base 8 "bounds" 1 cp:=
 aU F aaE rfl λf c A o s H E hr x=>(by(apply ai;exact(cC (aD aa4 hr (af (ac 0) ag)));apply ai;exact(fZ 1 aaE.nd ag);apply ai;exact(cY rfl (eY B.b_enumerate (af (aH (ac 0) ak) ag)) (fI rfl (bp (ao 2 aaE.nd) (bp (ao 3 aaE.nd) d7))) (ap (pz 1 (aD aaw hr (af (ac 2) (af (ac 3) ag))))));apply ai;exact(cY rfl (cZ (aH (ac 0) ak)) (ao 4 aaE.nd) (ap (pz 1 (aD aar hr (af (ac 4) ag)))));exact ap (iB 1 (au (ac 1)))))
abbrev rB:Stmt:=top 41
abbrev zc:List Str:=["record"]
theorem yw:ax zc ["record"] (aj rB):=eJ
theorem yY (F:eK K mg "world" rB ["record"])(aa5:Cl P w K mg base 9 "greatest_world" 2 aL)(aa8:Cl P w K mg base 8 "bounds" 1 cp):Cl P w K mg base 10 "world" 1 eQ:=
 aU F yw rfl λf c A o s H E hr x=>(ap (au (aD aa5 hr (af (ac 0) (af (aD aa8 hr (af (ac 0) ag)) ag)))))
abbrev jH:Stmt:=top 42
abbrev ql:List Str:=["record"]
theorem pL:ax ql ["record"] (aj jH):=eJ
theorem qb (F:eK K mg "has_world" jH ["record"])(aaL:Cl P w K mg base 10 "world" 1 eQ):Cl P w K mg base 11 "has_world" 1 cT:=
 aU F pL rfl λf c A o s H E hr x=>(ap (au (cm dh (aD aaL hr (af (ac 0) ag)) bu)))
abbrev i7:Stmt:=top 43
abbrev nV:List Str:=["record"]
theorem nu:ax nV ["record"] (aj i7):=eJ
theorem nK (F:eK K mg "need_world" i7 ["record"])(aap:Cl P w K mg base 11 "has_world" 1 cT){C_NoRecord C_NoEvent C_NoWorld C_ClockError:Addr}(S:Xs K mg C_NoRecord C_NoEvent C_NoWorld C_ClockError):Cl P w K mg base 12 "need_world" 1 b8:=
 aU F nu rfl λf c A o s H E hr x=>(ap (bN (cX (cx (aD aap hr (af (ac 0) ag)))) (ap (j9 S.o_NoWorld S.m_NoWorld)) bf))
abbrev lL:Stmt:=top 47
abbrev uh:List Str:=["walks","other"]
theorem tW:ax uh ["walks","other"] (aj lL):=eJ
theorem ud (F:eK K mg "most_of" lL ["walks","other"]):Cl P w K mg base 1 "most_of" 2 dB:=
 aU F tW rfl λf c A o s H E hr x=>(ap (au (lI (aY (Ep (C9 hr)) (ac 1) (ac 0)) (aH (pB (C9 hr) (ac 0) (ac 1)) ak) bu)))
abbrev i5:Stmt:=top 46
abbrev nT:List Str:=["record","one"]
theorem nq:ax nT ["record","one"] (aj i5):=eJ
theorem nH (F:eK K mg "walks_from" i5 ["record","one"])(aaD:Cl P w K mg base 2 "settle" 2 ee)(aa8:Cl P w K mg base 8 "bounds" 1 cp):Cl P w K mg base 9 "walks_from" 2 cz:=
 aU F nq rfl λf c A o s H E hr x=>(ap (au (aH (aD aaD hr (af (aD aa8 hr (af (ac 0) ag)) (af (eZ (af (ac 1) ag)) ag))) ak)))
abbrev gO:Stmt:=top 48
abbrev ld:List Str:=["record","one","other"]
theorem k4:ax ld ["record","one","other"] (aj gO):=eJ
theorem k8 (F:eK K mg "most_between" gO ["record","one","other"])(aai:Cl P w K mg base 8 "need_events" 3 cH)(aaa:Cl P w K mg base 12 "need_world" 1 b8)(aaA:Cl P w K mg base 1 "most_of" 2 dB)(aam:Cl P w K mg base 9 "walks_from" 2 cz):Cl P w K mg base 13 "most_between" 3 bo:=
 aU F k4 rfl λf c A o s H E hr x=>(by(apply ai;exact(cC (aD aai hr (af (ac 0) (af (ac 1) (af (ac 2) ag)))));apply ai;exact(cC (aD aaa hr (af (ac 0) ag)));exact ap (au (aD aaA hr (af (aD aam hr (af (ac 0) (af (ac 1) ag))) (af (ac 2) ag))))))
abbrev f9:Stmt:=top 49
abbrev ku:List Str:=["record","one","other","most"]
theorem aaO:ax ku ["record","one","other"] (aj f9):=eJ
theorem ki (F:eK K mg "least_between" f9 ["record","one","other"])(aa7:Cl P w K mg base 13 "most_between" 3 bo):Cl P w K mg base 14 "least_between" 3 bX:=
 aU F aaO rfl λf c A o s H E hr x=>(ai (aB (aD aa7 hr (af (ac 0) (af (ac 2) (af (ac 1) ag)))) (ao 3 aaO.nd)) (ap (au (lI (aY hY (ac 3) bu) bu (jl (ac 3))))))
abbrev i0:Stmt:=top 51
abbrev nS:List Str:=["record","one","other","many"]
theorem nj:ax nS ["record","one","other","many"] (aj i0):=eJ
theorem nG (F:eK K mg "world_with" i0 ["record","one","other","many"])(aai:Cl P w K mg base 8 "need_events" 3 cH)(aaa:Cl P w K mg base 12 "need_world" 1 b8)(aa5:Cl P w K mg base 9 "greatest_world" 2 aL)(aa8:Cl P w K mg base 8 "bounds" 1 cp):Cl P w K mg base 13 "world_with" 4 a8:=
 aU F nj rfl λf c A o s H E hr x=>(by(apply ai;exact(cC (aD aai hr (af (ac 0) (af (ac 1) (af (ac 2) ag)))));apply ai;exact(cC (aD aaa hr (af (ac 0) ag)));exact ap (au (aD aa5 hr (af (ac 0) (af (az aM (aD aa8 hr (af (ac 0) ag)) (eZ (af (bW (af (ac 1) (af (ac 2) (af (ac 3) ag)))) (af (bW (af (ac 2) (af (ac 1) (af (jl (ac 3)) ag)))) ag)))) ag))))))
abbrev fP:Stmt:=top 57
abbrev jb:List Str:=["record","times"]
theorem nt:ax jb ["record","times"] (aj fP):=eJ
theorem nI (F:eK K mg "told_order" fP ["record","times"])(aa2:Cl P w K mg base 8 "events" 1 aZ)(B:Bl mg):Cl P w K mg base 9 "told_order" 2 c7:=
 aU F nt rfl λf c A o s H E hr x=>(ap (au (f7 (N':=["pair"]) (src:=[none]) rfl (LcScope.by (N:=jb) (names:=(aj fP).names) rfl rfl rfl (by decide+kernel)) (cZ (AT (hu70 hr) rfl B.b_sorted B.b_zip (af (ac 1) (af (aD aa2 hr (af (ac 0) ag)) ag)))) (λ_ _ _ _ _=>⟨(ao 0 (show Kw (["pair"]:List Str)by decide+kernel)),bY,(aH (ac 0) ak)⟩))))
abbrev g9:Stmt:=top 50
abbrev kS:List Str:=["record","places","told","one","walks"]
theorem aax:ax kS ["record"] (aj g9):=eJ
theorem si (F:eK K mg "all_most" g9 ["record"])(aaa:Cl P w K mg base 12 "need_world" 1 b8)(aa2:Cl P w K mg base 8 "events" 1 aZ)(aam:Cl P w K mg base 9 "walks_from" 2 cz)(aaA:Cl P w K mg base 1 "most_of" 2 dB)(B:Bl mg):Cl P w K mg base 13 "all_most" 1 gu:=
 aU F aax rfl λf c A o s H E hr x=>(by(apply ai;exact(cC (aD aaa hr (af (ac 0) ag)));apply ai;exact(aB (aD aa2 hr (af (ac 0) ag)) (ao 1 aax.nd));apply ai;exact(fZ 2 aax.nd ag);apply ai;exact(cY rfl (cZ (ac 1)) (ao 3 aax.nd) (ai (aB (aD aam hr (af (ac 0) (af (ac 3) ag))) (ao 4 aax.nd)) (ap (jy 2 (n9 ir B.b_tuple cK (af (f7 (N':=["other","walks"]) (src:=[none,some 4]) rfl (LcScope.by (N:=kS) (names:=(aj g9).names) rfl rfl rfl (by decide+kernel)) (cZ (ac 1)) (λ_ _ _ _ _=>⟨(ao 0 (show Kw (["other","walks"]:List Str)by decide+kernel)),bY,(aD aaA hr (af (ac 1) (af (ac 0) ag)))⟩)) ag))))));exact ap (au (CM 2 (n9 ir B.b_tuple cK (af (ac 2) ag))))))
abbrev i6:Stmt:=top 56
abbrev nU:List Str:=["record","most","places","told","k","one","j","other"]
theorem aab:ax nU ["record"] (aj i6):=eJ
theorem nJ (F:eK K mg "sure_pairs" i6 ["record"])(ab0:Cl P w K mg base 13 "all_most" 1 gu)(aa2:Cl P w K mg base 8 "events" 1 aZ)(B:Bl mg):Cl P w K mg base 14 "sure_pairs" 1 eR:=
 aU F aab rfl λf c A o s H E hr x=>(by(apply ai;exact(aB (aD ab0 hr (af (ac 0) ag)) (ao 1 aab.nd));apply ai;exact(aB (aD aa2 hr (af (ac 0) ag)) (ao 2 aab.nd));apply ai;exact(fZ 3 aab.nd ag);apply ai;exact(cY rfl (eY B.b_enumerate (af (ac 2) ag)) (fI rfl (bp (ao 4 aab.nd) (bp (ao 5 aab.nd) d7))) (ap (cY rfl (eY B.b_enumerate (af (ac 2) ag)) (fI rfl (bp (ao 6 aab.nd) (bp (ao 7 aab.nd) d7))) (ap (bN (kL (pw (aY dh (aH (aH (ac 1) (ac 6)) (ac 4)) bu) (lH (aY oB (aH (aH (ac 1) (ac 6)) (ac 4)) ak)))) (ap (jy 3 (bW (af (ac 5) (af (ac 7) ag))))) bf)))));exact ap (iB 3 (au (ac 3)))))
abbrev fQ:Stmt:=top 58
abbrev jc:List Str:=["record","order","event","rising"]
theorem aaJ:ax jc ["record","order"] (aj fQ):=eJ
theorem nM (F:eK K mg "fits_order" fQ ["record","order"])(aa4:Cl P w K mg base 7 "need_record" 1 bi)(aag:Cl P w K mg base 4 "need_event" 2 b9)(aa2:Cl P w K mg base 8 "events" 1 aZ)(aa5:Cl P w K mg base 9 "greatest_world" 2 aL)(aa8:Cl P w K mg base 8 "bounds" 1 cp)(B:Bl mg):Cl P w K mg base 10 "fits_order" 2 aW:=
 aU F aaJ rfl λf c A o s H E hr x=>(by(apply ai;exact(cC (aD aa4 hr (af (ac 0) ag)));apply ai;exact(cY rfl (cZ (ac 1)) (ao 2 aaJ.nd) (ap (cC (aD aag hr (af (ac 0) (af (ac 2) ag))))));apply ai;exact(bN (aY (r6 (n5 hr)) (cD xz B.b_sorted boot_sorted (af (ac 1) ag)) (aD aa2 hr (af (ac 0) ag))) (ap (au dF)) bf);apply ai;exact(xR 3 (N':=["k","order"]) (src:=[none,some 1]) rfl (LcScope.by (N:=jc) (names:=(aj fQ).names) rfl rfl rfl (by decide+kernel)) (cP B.b_range (af (az hW (cD cV B.b_len LJ (af (ac 1) ag)) ak) ag)) (λ_ _ _ _ _=>⟨(ao 0 (show Kw (["k","order"]:List Str)by decide+kernel)),bY,(bW (af (aH (ac 1) (az aM (ac 0) ak)) (af (aH (ac 1) (ac 0)) (af ak ag))))⟩) aaJ.nd);exact ap (au (cm dh (aD aa5 hr (af (ac 0) (af (az aM (aD aa8 hr (af (ac 0) ag)) (ac 3)) ag))) bu))))
abbrev fJ:Stmt:=top 66
abbrev jR:List Str:=["_law_record_here","_law_order","_law_first","_law_last","_law_swapped"]
theorem aak:ax jR ["_law_record_here","_law_order"] (aj fJ):=eJ
theorem jP (F:eK K mg "_law_none_fits" fJ ["_law_record_here","_law_order"])(aaP:Cl P w K mg base 14 "sure_pairs" 1 eR)(aah:Cl P w K mg base 10 "fits_order" 2 aW)(B:Bl mg):Cl P w K mg base 15 "_law_none_fits" 2 c9:=
 aU F aak rfl λf c A o s H E hr x=>(ai (cY rfl (cZ (re (aD aaP hr (af (ac 0) ag)) (qZ (jl ak)) q0)) (fI rfl (bp (ao 2 aak.nd) (bp (ao 3 aak.nd) d7))) (by(apply ai;exact(xS 4 aak.nd B.b_list (ac 1));apply ai;exact(qY 4 (dU (sY hr) (ac 1) (ac 2)) (ac 3));apply ai;exact(qY 4 (dU (sY hr) (ac 1) (ac 3)) (ac 2));exact ap (bN (xP 4 (cx (aD aah hr (af (ac 0) (af (ac 4) ag))))) (ap (au dF)) bf)))) (ap (au dF)))
abbrev gM:Stmt:=top 53
abbrev lb:List Str:=["record","one","other","least"]
theorem aaR:ax lb ["record","one","other"] (aj gM):=eJ
theorem k7 (F:eK K mg "surely_ahead" gM ["record","one","other"])(aac:Cl P w K mg base 14 "least_between" 3 bX):Cl P w K mg base 15 "surely_ahead" 3 bB:=
 aU F aaR rfl λf c A o s H E hr x=>(ai (aB (aD aac hr (af (ac 0) (af (ac 1) (af (ac 2) ag)))) (ao 3 aaR.nd)) (ap (au (cy (cm dh (ac 3) bu) (ck (cm oC (ac 3) ak))))))
abbrev g8:Stmt:=top 54
abbrev ml:List Str:=["record","one","other","most"]
theorem aaX:ax ml ["record","one","other"] (aj g8):=eJ
theorem l0 (F:eK K mg "maybe_ahead" g8 ["record","one","other"])(aa7:Cl P w K mg base 13 "most_between" 3 bo):Cl P w K mg base 14 "maybe_ahead" 3 dk:=
 aU F aaX rfl λf c A o s H E hr x=>(ai (aB (aD aa7 hr (af (ac 0) (af (ac 1) (af (ac 2) ag)))) (ao 3 aaX.nd)) (ap (au (uP (cm hY (ac 3) bu) (ck (cm oC (ac 3) ak))))))
abbrev f8:Stmt:=top 55
abbrev kt:List Str:=["record","one","other"]
theorem kf:ax kt ["record","one","other"] (aj f8):=eJ
theorem kh (F:eK K mg "maybe_at_once" f8 ["record","one","other"])(aa9:Cl P w K mg base 15 "surely_ahead" 3 bB):Cl P w K mg base 16 "maybe_at_once" 3 cE:=
 aU F kf rfl λf c A o s H E hr x=>(ap (au (cy (pA (aD aa9 hr (af (ac 0) (af (ac 1) (af (ac 2) ag))))) (ck (pA (aD aa9 hr (af (ac 0) (af (ac 2) (af (ac 1) ag)))))))))
abbrev gn:Stmt:=top 32
abbrev jQ:List Str:=["record","thing","many"]
theorem ab4:ax jQ ["record","thing"] (aj gn):=eJ
theorem qc (F:eK K mg "are_times" gn ["record","thing"])(aa2:Cl P w K mg base 8 "events" 1 aZ)(aa1:Cl P w K mg base 1 "is_long" 3 aI)(aau:Cl P w K mg base 1 "is_whole" 1 dX)(B:Bl mg):Cl P w K mg base 9 "are_times" 2 fM:=
 aU F ab4 rfl λf c A o s H E hr x=>(ai (aB (cD cV B.b_len LJ (af (aD aa2 hr (af (ac 0) ag)) ag)) (ao 2 ab4.nd)) (ap (au (cy (aD aa1 hr (af (ac 1) (af (ac 2) (af (ac 2) ag)))) (ck (cD (mQ rfl) B.b_all Re (af (f7 (N':=["part"]) (src:=[none]) rfl (LcScope.by (N:=jQ) (names:=(aj gn).names) rfl rfl rfl (by decide+kernel)) (cZ (ac 1)) (λ_ _ _ _ _=>⟨(ao 0 (show Kw (["part"]:List Str)by decide+kernel)),bY,(aD aau hr (af (ac 0) ag))⟩)) ag)))))))
abbrev rC:Stmt:=top 33
abbrev zd:List Str:=["bound","time_of"]
theorem yy:ax zd ["bound","time_of"] (aj rC):=eJ
theorem y8 (F:eK K mg "holds" rC ["bound","time_of"]):Cl P w K mg base 1 "holds" 2 lx:=
 aU F yy rfl λf c A o s H E hr x=>(ap (au (cm r8 (az hW (pB (C9 hr) (ac 1) (aH (ac 0) ak)) (pB (C9 hr) (ac 1) (aH (ac 0) ak))) (aH (ac 0) ak))))
abbrev kc:Stmt:=top 34
abbrev oH:List Str:=["record","times","time_of"]
theorem ab8:ax oH ["record","times"] (aj kc):=eJ
theorem wM (F:eK K mg "broken" kc ["record","times"])(aa2:Cl P w K mg base 8 "events" 1 aZ)(aa8:Cl P w K mg base 8 "bounds" 1 cp)(ab7:Cl P w K mg base 1 "holds" 2 lx)(B:Bl mg):Cl P w K mg base 9 "broken" 2 jV:=
 aU F ab8 rfl λf c A o s H E hr x=>(ai (aB (AV (hu8 hr) rfl B.b_dict B.b_zip (af (aD aa2 hr (af (ac 0) ag)) (af (ac 1) ag))) (ao 2 ab8.nd)) (ap (au (f7 (N':=["number","bound","time_of"]) (src:=[none,none,some 2]) rfl (LcScope.by (N:=oH) (names:=(aj kc).names) rfl rfl rfl (by decide+kernel)) (eY B.b_enumerate (af (aD aa8 hr (af (ac 0) ag)) ag)) (λ_ _ _ _ _=>⟨(fI rfl (bp (ao 0 (show Kw (["number","bound","time_of"]:List Str)by decide+kernel)) (bp (ao 1 (show Kw (["number","bound","time_of"]:List Str)by decide+kernel)) d7))),(xT (cX (cx (aD ab7 hr (af (ac 1) (af (ac 2) ag)))))),(ac 0)⟩)))))
abbrev kN:Stmt:=top 35
abbrev sB:List Str:=["record","thing"]
theorem rK:ax sB ["record","thing"] (aj kN):=eJ
theorem sd (F:eK K mg "is_world" kN ["record","thing"])(aaW:Cl P w K mg base 9 "are_times" 2 fM)(ab5:Cl P w K mg base 9 "broken" 2 jV):Cl P w K mg base 10 "is_world" 2 ft:=
 aU F rK rfl λf c A o s H E hr x=>(ap (au (cy (aD aaW hr (af (ac 0) (af (ac 1) ag))) (ck (cm (r9 (n5 hr)) (aD ab5 hr (af (ac 0) (af (ac 1) ag))) (eZ ag))))))
abbrev yh:Stmt:=top 67
abbrev EF:List Str:=["_law_script","_law_record_here","_law_places","_law_one","_law_other","_law_told","_law_most","_law_least","_law_far","_law_times","_law_order","_law_near"]
theorem aaj:ax EF ["_law_script"] (aj yh):=eJ
theorem EB {f:Addr}{fd:Ld}(ab9:Fn K mg "law" yh ["_law_script"] f fd)(aaK:Cl P w K mg base 4 "_law_record" 3 dl)(aa2:Cl P w K mg base 8 "events" 1 aZ)(aa7:Cl P w K mg base 13 "most_between" 3 bo)(aac:Cl P w K mg base 14 "least_between" 3 bX)(aas:Cl P w K mg base 13 "world_with" 4 a8)(aat:Cl P w K mg base 9 "told_order" 2 c7)(aaz:Cl P w K mg base 15 "_law_none_fits" 2 c9)(aap:Cl P w K mg base 11 "has_world" 1 cT)(aa0:Cl P w K mg base 2 "_law_drawn" 3 aw)(aa9:Cl P w K mg base 15 "surely_ahead" 3 bB)(aay:Cl P w K mg base 14 "maybe_ahead" 3 dk)(aaq:Cl P w K mg base 16 "maybe_at_once" 3 cE)(aah:Cl P w K mg base 10 "fits_order" 2 aW)(ab1:Cl P w K mg base 10 "is_world" 2 ft)(aaL:Cl P w K mg base 10 "world" 1 eQ)(B:Bl mg):Fz P w K mg base 17 f fd ["_law_script"] 1 m_law:=
 uR ab9.fn aaj rfl λc A o s H E hr x=>(by(apply ai;exact(aB (aD aaK hr (af (ac 0) (af ak (af ak ag)))) (ao 1 aaj.nd));apply ai;exact(bN (cX (cx (aD aap hr (af (ac 1) ag)))) (ap (au (pA (aD aah hr (af (ac 1) (af (aD aa2 hr (af (ac 1) ag)) ag)))))) bf);apply ai;exact(aB (aD aa2 hr (af (ac 1) ag)) (ao 2 aaj.nd));apply ai;exact(aB (aH (ac 2) (aD aa0 hr (af (ac 0) (af ak (af (cD cV B.b_len LJ (af (ac 2) ag)) ag))))) (ao 3 aaj.nd));apply ai;exact(aB (aH (ac 2) (aD aa0 hr (af (ac 0) (af ak (af (cD cV B.b_len LJ (af (ac 2) ag)) ag))))) (ao 4 aaj.nd));apply ai;exact(bN (aY (r9 (n5 hr)) (ac 3) (ac 4)) (ai (aB (eZ (af (aD aaq hr (af (ac 1) (af (ac 3) (af (ac 3) ag)))) (af (aD aay hr (af (ac 1) (af (ac 3) (af (ac 3) ag)))) (af (aD aa9 hr (af (ac 1) (af (ac 3) (af (ac 3) ag)))) ag)))) (ao 5 aaj.nd)) (ap (au (cm (r9 (n5 hr)) (ac 5) (eZ (af dF (af dF (af dF ag)))))))) bf);apply ai;exact(aB (aD aa7 hr (af (ac 1) (af (ac 3) (af (ac 4) ag)))) (ao 6 aaj.nd));apply ai;exact(aB (aD aac hr (af (ac 1) (af (ac 3) (af (ac 4) ag)))) (ao 7 aaj.nd));apply ai;exact(bN (aY (r6 (n5 hr)) (aD aa9 hr (af (ac 1) (af (ac 3) (af (ac 4) ag)))) (cy (cm dh (ac 7) bu) (ck (cm oC (ac 7) ak)))) (ap (au dF)) bf);apply ai;exact(bN (aY (r6 (n5 hr)) (aD aay hr (af (ac 1) (af (ac 3) (af (ac 4) ag)))) (uP (cm hY (ac 6) bu) (ck (cm oC (ac 6) ak)))) (ap (au dF)) bf);apply ai;exact(aB (lI (aY dh (ac 6) bu) (ac 6) (cD (Fr rfl) B.b_max boot_max (af ak (af (lI (aY hY (ac 7) bu) ak (ac 7)) ag)))) (ao 8 aaj.nd));apply ai;exact(aB (aD aas hr (af (ac 1) (af (ac 3) (af (ac 4) (af (ac 8) ag))))) (ao 9 aaj.nd));apply ai;exact(bN (kL (lG (aY hY (ac 9) bu) (jx (cX (cx (aD ab1 hr (af (ac 1) (af (ac 9) ag)))))))) (ap (au dF)) bf);apply ai;exact(aB (aD aat hr (af (ac 1) (af (ac 9) ag))) (ao 10 aaj.nd));apply ai;exact(bN (kL (lG (cX (cx (aD aah hr (af (ac 1) (af (ac 10) ag))))) (jx (kL (pw (aY oC (ac 8) ak) (lH (aY oC (dU (sY hr) (ac 10) (ac 3)) (dU (sY hr) (ac 10) (ac 4))))))))) (ap (au dF)) bf);apply ai;exact(aB (lI (aY dh (ac 7) bu) (ac 7) (cD (Fq rfl) B.b_min boot_min (af (jl ak) (af (lI (aY hY (ac 6) bu) ak (ac 6)) ag)))) (ao 11 aaj.nd));apply ai;exact(aB (aD aas hr (af (ac 1) (af (ac 3) (af (ac 4) (af (ac 11) ag))))) (ao 9 aaj.nd));apply ai;exact(bN (aY hY (ac 9) bu) (ap (au dF)) bf);apply ai;exact(aB (aD aat hr (af (ac 1) (af (ac 9) ag))) (ao 10 aaj.nd));apply ai;exact(bN (kL (pw (aY oB (ac 11) ak) (lH (aY oB (dU (sY hr) (ac 10) (ac 3)) (dU (sY hr) (ac 10) (ac 4)))))) (ap (au dF)) bf);apply ai;exact(bN (aY (r6 (n5 hr)) (aD aaq hr (af (ac 1) (af (ac 3) (af (ac 4) ag)))) (cm dh (aD aas hr (af (ac 1) (af (ac 3) (af (ac 4) (af ak ag))))) bu)) (ap (au dF)) bf);exact ap (au (aD aaz hr (af (ac 1) (af (aD aat hr (af (ac 1) (af (aD aaL hr (af (ac 1) ag)) ag))) ag))))))
end
@[elab_as_elim] theorem eI {α:Type} {p:List α->Prop} (h:∀a0,p [a0]):∀us:List α,us.length=1->p us
 | [a0],_=>h a0
@[elab_as_elim] theorem dD {α:Type} {p:List α->Prop} (h:∀a0 a1,p [a0,a1]):∀us:List α,us.length=2->p us
 | [a0,a1],_=>h a0 a1
@[elab_as_elim] theorem gR {α:Type} {p:List α->Prop} (h:∀a0 a1 a2,p [a0,a1,a2]):∀us:List α,us.length=3->p us
 | [a0,a1,a2],_=>h a0 a1 a2
@[elab_as_elim] theorem GG {α:Type} {p:List α->Prop} (h:∀a0 a1 a2 a3,p [a0,a1,a2,a3]):∀us:List α,us.length=4->p us
 | [a0,a1,a2,a3],_=>h a0 a1 a2 a3
def asks:xJ:=⟨([("_law_cell",60),("_law_drawn",61),("_law_events",64),("_law_letter",63),("_law_clock",62),("_law_record",65),("is_long",14),("is_whole",12),("is_within",13),("is_pace",17),("rises",15),("are_readings",16),("is_clock",18),("are_clocks",19),("is_event",20)]:List (Str×Nat))++([("is_delay",21),("is_letter",22),("are_letters",23),("is_record",24),("need_record",25),("events",27),("need_event",26),("need_events",45),("is_better",38),("settle",37),("greatest_world",40),("bounds_of_clock",29),("bounds_of_letter",30),("bounds",31),("world",41)]:List (Str×Nat))++([("has_world",42),("need_world",43),("most_of",47),("walks_from",46),("most_between",48),("least_between",49),("world_with",51),("told_order",57),("all_most",50),("sure_pairs",56),("fits_order",58),("_law_none_fits",66),("surely_ahead",53),("maybe_ahead",54),("maybe_at_once",55)]:List (Str×Nat))++([("are_times",32),("holds",33),("broken",34),("is_world",35),("law",67)]:List (Str×Nat)),(["all","bool","dict","enumerate","int","isinstance","len","list","max","min","range","sorted","tuple","zip"]:List Str),[("MOST_CLOCKS",4),("MOST_LETTERS",8),("MOST_READINGS",4),("LAST_READING",99),("SLOWEST",9),("LONGEST",999)],["ClockError","NoRecord","NoEvent","NoWorld"]⟩
theorem all_ok {l:PySem.W.OpenLaw}{w:Kn}{K:Jg}{h:Heap}{mg:Str->Option Ji}{fa:Addr}(X:K.In h)(e:nR asks K=na asks top)(G:h.Ns Kc mg)(hfa:mg "law" =some (.ref fa)) :
  ∃fd:Ld,(∀(s:Jk) (v:Ji),Qs s fd ⟨[v],[]⟩ [("_law_script",v)])/\∀base:Heap,K.In base->base.Ns Kc mg->qT l.prog w K mg base CX0 17 fa fd ["_law_script"] (spP K 1 m_law):=by
 have B:Bl mg:=⟨dL 0 X G e rfl,dL 1 X G e rfl,dL 2 X G e rfl,dL 3 X G e rfl,dL 4 X G e rfl,dL 5 X G e rfl,dL 6 X G e rfl,dL 7 X G e rfl,dL 8 X G e rfl,dL 9 X G e rfl,dL 10 X G e rfl,dL 11 X G e rfl,dL 12 X G e rfl,dL 13 X G e rfl⟩
 have C:Cs mg:=⟨oP 0 X G e rfl,oP 1 X G e rfl,oP 2 X G e rfl,oP 3 X G e rfl,oP 4 X G e rfl,oP 5 X G e rfl⟩;obtain⟨C_ClockError,ls,xD,xl,nd⟩:=EC (GR e);obtain⟨C_NoRecord,ls0,x_NoRecord,rfl,xl0⟩:=kI xl;obtain⟨C_NoEvent,ls1,x_NoEvent,rfl,xl1⟩:=kI xl0;obtain⟨C_NoWorld,ls2,x_NoWorld,rfl,xl2⟩:=kI xl1;cases AA xl2
 have S:Xs K mg C_NoRecord C_NoEvent C_NoWorld C_ClockError:=⟨Oa X G (jp x_NoRecord).1,Oa X G (jp x_NoEvent).1,Oa X G (jp x_NoWorld).1,Oa X G (jp xD).1,ox1 x_NoRecord xD,ox1 x_NoEvent xD,ox1 x_NoWorld xD,ox0 xD,nd⟩;obtain⟨fd49,ab9,bnd⟩:=GQ (n:="law") (i:=67) (x:="_law_script") 49 X G e rfl hfa λ_ _ _ _ _ _ _=>rfl
 refine⟨fd49,bnd,λbase _ _=> ?_⟩
 have aaS:=qd l.prog w base (bP 0 X G e rfl λ_ _ _ _ _ _ us hl=>dD (λ_ _=>rfl) us hl) B
 have aa0:=nP l.prog w base (bP 1 X G e rfl λ_ _ _ _ _ _ us hl=>gR (λ_ _ _=>rfl) us hl) aaS
 have aaG:=l9 l.prog w base (bP 2 X G e rfl λ_ _ _ _ _ _ us hl=>eI (λ_=>rfl) us hl) B
 have aaH:=l8 l.prog w base (bP 3 X G e rfl λ_ _ _ _ _ _ us hl=>gR (λ_ _ _=>rfl) us hl) aaG aa0 B
 have aaM:=nQ l.prog w base (bP 4 X G e rfl λ_ _ _ _ _ _ us hl=>dD (λ_ _=>rfl) us hl) aa0 B
 have aaK:=l7 l.prog w base (bP 5 X G e rfl λ_ _ _ _ _ _ us hl=>gR (λ_ _ _=>rfl) us hl) aa0 aaH aaM B
 have aa1:=uf l.prog w base (bP 6 X G e rfl λ_ _ _ _ _ _ us hl=>gR (λ_ _ _=>rfl) us hl) B
 have aau:=se l.prog w base (bP 7 X G e rfl λ_ _ _ _ _ _ us hl=>eI (λ_=>rfl) us hl) B
 have aa3:=p6 l.prog w base (bP 8 X G e rfl λ_ _ _ _ _ _ us hl=>gR (λ_ _ _=>rfl) us hl) aau
 have ab2:=ue l.prog w base (bP 9 X G e rfl λ_ _ _ _ _ _ us hl=>dD (λ_ _=>rfl) us hl) aa3 C
 have ab6:=y6 l.prog w base (bP 10 X G e rfl λ_ _ _ _ _ _ us hl=>eI (λ_=>rfl) us hl) B
 have aaC:=k9 l.prog w base (bP 11 X G e rfl λ_ _ _ _ _ _ us hl=>eI (λ_=>rfl) us hl) aa1 ab6 aa3 B C
 have aaY:=sh l.prog w base (bP 12 X G e rfl λ_ _ _ _ _ _ us hl=>eI (λ_=>rfl) us hl) aa1 ab2 aaC
 have aaN:=nN l.prog w base (bP 13 X G e rfl λ_ _ _ _ _ _ us hl=>eI (λ_=>rfl) us hl) aa1 aaY B C
 have aan:=sf l.prog w base (bP 14 X G e rfl λ_ _ _ _ _ _ us hl=>dD (λ_ _=>rfl) us hl) aa3 aa1 B
 have aaZ:=sg l.prog w base (bP 15 X G e rfl λ_ _ _ _ _ _ us hl=>dD (λ_ _=>rfl) us hl) aa3 C
 have aaT:=p8 l.prog w base (bP 16 X G e rfl λ_ _ _ _ _ _ us hl=>dD (λ_ _=>rfl) us hl) aan aa1 aaZ
 have aaI:=l5 l.prog w base (bP 17 X G e rfl λ_ _ _ _ _ _ us hl=>dD (λ_ _=>rfl) us hl) aa1 aaT B C
 have aaU:=p7 l.prog w base (bP 18 X G e rfl λ_ _ _ _ _ _ us hl=>eI (λ_=>rfl) us hl) aa1 aaN aaI
 have aa4:=lY l.prog w base (bP 19 X G e rfl λ_ _ _ _ _ _ us hl=>eI (λ_=>rfl) us hl) aaU S
 have aa2:=wL l.prog w base (bP 20 X G e rfl λ_ _ _ _ _ _ us hl=>eI (λ_=>rfl) us hl) aa4 B
 have aag:=nL l.prog w base (bP 21 X G e rfl λ_ _ _ _ _ _ us hl=>dD (λ_ _=>rfl) us hl) aan S
 have aai:=lZ l.prog w base (bP 22 X G e rfl λ_ _ _ _ _ _ us hl=>gR (λ_ _ _=>rfl) us hl) aa4 aag
 have aaV:=p9 l.prog w base (bP 23 X G e rfl λ_ _ _ _ _ _ us hl=>gR (λ_ _ _=>rfl) us hl)
 have aaD:=wK l.prog w base (bP 24 X G e rfl λ_ _ _ _ _ _ us hl=>dD (λ_ _=>rfl) us hl) aaV B
 have aa5:=jO l.prog w base (bP 25 X G e rfl λ_ _ _ _ _ _ us hl=>dD (λ_ _=>rfl) us hl) aa2 aaD B
 have aaw:=jo l.prog w base (bP 26 X G e rfl λ_ _ _ _ _ _ us hl=>dD (λ_ _=>rfl) us hl) B
 have aar:=iV l.prog w base (bP 27 X G e rfl λ_ _ _ _ _ _ us hl=>eI (λ_=>rfl) us hl)
 have aa8:=wN l.prog w base (bP 28 X G e rfl λ_ _ _ _ _ _ us hl=>eI (λ_=>rfl) us hl) aa4 aaw aar B
 have aaL:=yY l.prog w base (bP 29 X G e rfl λ_ _ _ _ _ _ us hl=>eI (λ_=>rfl) us hl) aa5 aa8
 have aap:=qb l.prog w base (bP 30 X G e rfl λ_ _ _ _ _ _ us hl=>eI (λ_=>rfl) us hl) aaL
 have aaa:=nK l.prog w base (bP 31 X G e rfl λ_ _ _ _ _ _ us hl=>eI (λ_=>rfl) us hl) aap S
 have aaA:=ud l.prog w base (bP 32 X G e rfl λ_ _ _ _ _ _ us hl=>dD (λ_ _=>rfl) us hl)
 have aam:=nH l.prog w base (bP 33 X G e rfl λ_ _ _ _ _ _ us hl=>dD (λ_ _=>rfl) us hl) aaD aa8
 have aa7:=k8 l.prog w base (bP 34 X G e rfl λ_ _ _ _ _ _ us hl=>gR (λ_ _ _=>rfl) us hl) aai aaa aaA aam
 have aac:=ki l.prog w base (bP 35 X G e rfl λ_ _ _ _ _ _ us hl=>gR (λ_ _ _=>rfl) us hl) aa7
 have aas:=nG l.prog w base (bP 36 X G e rfl λ_ _ _ _ _ _ us hl=>GG (λ_ _ _ _=>rfl) us hl) aai aaa aa5 aa8
 have aat:=nI l.prog w base (bP 37 X G e rfl λ_ _ _ _ _ _ us hl=>dD (λ_ _=>rfl) us hl) aa2 B
 have ab0:=si l.prog w base (bP 38 X G e rfl λ_ _ _ _ _ _ us hl=>eI (λ_=>rfl) us hl) aaa aa2 aam aaA B
 have aaP:=nJ l.prog w base (bP 39 X G e rfl λ_ _ _ _ _ _ us hl=>eI (λ_=>rfl) us hl) ab0 aa2 B
 have aah:=nM l.prog w base (bP 40 X G e rfl λ_ _ _ _ _ _ us hl=>dD (λ_ _=>rfl) us hl) aa4 aag aa2 aa5 aa8 B
 have aaz:=jP l.prog w base (bP 41 X G e rfl λ_ _ _ _ _ _ us hl=>dD (λ_ _=>rfl) us hl) aaP aah B
 have aa9:=k7 l.prog w base (bP 42 X G e rfl λ_ _ _ _ _ _ us hl=>gR (λ_ _ _=>rfl) us hl) aac
 have aay:=l0 l.prog w base (bP 43 X G e rfl λ_ _ _ _ _ _ us hl=>gR (λ_ _ _=>rfl) us hl) aa7
 have aaq:=kh l.prog w base (bP 44 X G e rfl λ_ _ _ _ _ _ us hl=>gR (λ_ _ _=>rfl) us hl) aa9
 have aaW:=qc l.prog w base (bP 45 X G e rfl λ_ _ _ _ _ _ us hl=>dD (λ_ _=>rfl) us hl) aa2 aa1 aau B
 have ab7:=y8 l.prog w base (bP 46 X G e rfl λ_ _ _ _ _ _ us hl=>dD (λ_ _=>rfl) us hl)
 have ab5:=wM l.prog w base (bP 47 X G e rfl λ_ _ _ _ _ _ us hl=>dD (λ_ _=>rfl) us hl) aa2 aa8 ab7 B
 have ab1:=sd l.prog w base (bP 48 X G e rfl λ_ _ _ _ _ _ us hl=>dD (λ_ _=>rfl) us hl) aaW ab5
 exact(EB l.prog w base ab9 aaK aa2 aa7 aac aas aat aaz aap aa0 aa9 aay aaq aah ab1 aaL B).h
def vw:JI:=PySem.W.view J8 [67]
def lse:List Str:=(["ClockError","NoRecord","NoEvent","NoWorld","MOST_CLOCKS","MOST_LETTERS","MOST_READINGS","LAST_READING","SLOWEST","LONGEST","is_whole","is_within","is_long","rises","are_readings","is_pace","is_clock","are_clocks","is_event","is_delay"]:List Str)++(["is_letter","are_letters","is_record","need_record","need_event","events","bounds_of_clock","bounds_of_letter","bounds","are_times","holds","broken","is_world","settle","is_better","greatest_world","world","has_world","need_world","need_events"]:List Str)++(["walks_from","most_of","most_between","least_between","all_most","world_with","surely_ahead","maybe_ahead","maybe_at_once","sure_pairs","told_order","fits_order","_law_cell","_law_drawn","_law_clock","_law_letter","_law_events","_law_record","_law_none_fits"]:List Str)
def lhs (w:Kn)(h:Heap)(d:Drawn)(t:Nat)(os:OsState):=(PySem.W.topFrom treeTable J8 w 9000 ⟨h,⟨[]⟩,d,t,os⟩).map (λs=>(PySem.W.openSeen vw lse (RG J8.main.body) (λ_=>true) true s,nR asks (zY s.heap)))
def rhs (w:Kn):=some (PySem.W.openGood vw lse,na asks top)
theorem lhs_r:lhs=lhs:=rfl
theorem rhs_r:rhs=rhs:=rfl
end G
namespace Tr
open PySem
abbrev RR (cs ls:List T):T:=.tup [.tup cs,.tup ls]
mutual
def T.pl:T->Bool
 | .scr _=>false
 | .dct _ _=>false
 | .tup l=>plS l
 | .lst l=>plS l
 | _=>true
def plS:List T->Bool
 | [] =>true
 | t::l=>t.pl&&plS l
end
theorem jN:∀{l:List T} {t:T},plS l=true->t∈l->t.pl=true
 | [],_,_,h=>by cases h
 | u::l,t,h,m=>by
  unfold plS at h;rw[Jo]at h;rcases Jp.mp m with rfl | m
  ·exact h.1
  ·exact jN h.2 m
mutual
theorem T.HS:∀(t:T),t.pl=true->t.nd=true
 | .non,_=>rfl
 | .bl _,_=>rfl
 | .int _,_=>rfl
 | .str _,_=>rfl
 | .scr _,h=>by cases h
 | .dct _ _,h=>by cases h
 | .tup l,h=>by unfold T.pl at h;unfold T.nd;exact plS_nds l h
 | .lst l,h=>by unfold T.pl at h;unfold T.nd;exact plS_nds l h
theorem plS_nds:∀(l:List T),plS l=true->nds l=true
 | [],_=>rfl
 | t::l,h=>by
  unfold plS at h;rw[Jo]at h;unfold nds;rw[T.HS t h.1,plS_nds l h.2];rfl
end
theorem ur {fe:En->Rs T}{h:T->T}:∀(ts:List T) (Z:En),0<Z.length->(∀t∈ts,fe (Z.set 0 (.va t))= .ok (h t))->dg (gN 0) bT fe ts Z= .ok (ts.map h)
 | [],_,_,_=>rfl
 | t::r,Z,hl,hf=>by
  unfold dg
  have e1:gN 0 t Z= .ok (Z.set 0 (.va t)):=by unfold gN;rw[if_pos hl]
  have ih:=ur r (Z.set 0 (.va t)) (by rw[Kr];exact hl) (λu hu=>by rw[List.set_set];exact hf u (Jh _ hu))
  simp only[e1,aE,bT,if_true,hf t Jj,ih,Jn]
theorem o8 (p:T->Bool):∀l:List T,mU (l.map λt=>T.bl (p t))=some (l.map p)
 | [] =>rfl
 | t::l=>by rw[Jn,mU,o8 p l];rfl
theorem all_map (p:T->Bool)(l:List T):m5 [.lst (l.map λt=>T.bl (p t))] = .ok (.bl (l.all p)):=by
 simp only[m5,o8,OJ]
 rfl
theorem jv {α:Type}{l:List α}{k:Nat}{t:α}(h:l[k]? =some t):L2.atI l (k:Int)=some t:=by
 have hk:k<l.length:=(Jy.mp h).1
 unfold L2.atI L2.ixN;rw[if_pos (by omega),if_pos (by omega),Ko]
 exact h
theorem aC {n k:Nat}(h:n<=k)(hk:k<=1000:=by decide):n<=sizeLine:=by unfold sizeLine;omega
section
variable {f fa fb fc:En->Rs T}{fs:En->Rs (List T)}{b c:En->Rs Bool}{F G:En->Rs Fl}{Z Z' Z1 Z2:En}{t u r:T}{ts l m:List T}
theorem aA {g:T->T->Rs T}{x:Rs T}(ha:fa Z= .ok t)(hb:fb Z= .ok u)(hg:g t u=x):o2 g fa fb Z=x:=by unfold o2;rw[ha,hb];exact hg
theorem Cb {g:T->Rs T}{x:Rs T}(ha:fa Z= .ok t)(hg:g t=x):o1 g fa Z=x:=by unfold o1;rw[ha];exact hg
theorem GO {g:T->T->Rs T}{x:Rs T}{ks vs:List T}(ha:fa Z= .ok (.dct ks vs))(hb:fb Z= .ok u)(hg:g (.dct ks vs) u=x):oD g fa fb Z=x:=by unfold oD;rw[ha];show(fb Z >>= g (.dct ks vs))=_;rw[hb];exact hg
theorem ut {g:T->T->Rs T}{x:Rs T}{ks:List T}(ha:fa Z= .ok (.lst ks))(hb:fb Z= .ok u)(hg:g (.lst ks) u=x):oL g fa fb Z=x:=by unfold oL;rw[ha];show(fb Z >>= g (.lst ks))=_;rw[hb];exact hg
theorem aq (h:f Z= .ok t)(hs:fs Z= .ok ts):ae f fs Z= .ok (t::ts):=by unfold ae;rw[h,hs];rfl
theorem aF {g:List T->Rs T}{x:Rs T}(h:fs Z= .ok ts)(hg:g ts=x):cl g fs Z=x:=by unfold cl;rw[h];exact hg
theorem bx {k:Bool}(h:f Z= .ok (.bl k)):tb f Z= .ok k:=by unfold tb;rw[h];rfl
theorem jg {k:Bool}(h:b Z= .ok k):c6 b Z= .ok (!k):=by unfold c6;rw[h];rfl
theorem GN (h:b Z= .ok true):nF b c Z= .ok true:=by unfold nF;rw[h];rfl
theorem zI {x:Rs Bool}(h:b Z= .ok false)(h2:c Z=x):nF b c Z=x:=by unfold nF;rw[h];exact h2
theorem uz (h:b Z= .ok false):lp b c Z= .ok false:=by unfold lp;rw[h];rfl
theorem uw {x:Rs Bool}(h:b Z= .ok true)(h2:c Z=x):lp b c Z=x:=by unfold lp;rw[h];exact h2
theorem uv (h:fa Z= .ok (.bl true)):bM fa fb Z=fb Z:=by unfold bM;rw[h];rfl
theorem vK (h:fa Z= .ok (.bl false)):bM fa fb Z= .ok (.bl false):=by unfold bM;rw[h];rfl
theorem vJ {p q:Bool}(h:fa Z= .ok (.bl p))(h2:p=true->fb Z= .ok (.bl q)):bM fa fb Z= .ok (.bl (p&&q)):=by
 cases p with
 | true=>rw[uv h,h2 rfl];rfl
 | false=>rw[vK h];rfl
theorem zG (h:fa Z= .ok (.bl true)):wJ fa fb Z= .ok (.bl true):=by unfold wJ;rw[h];rfl
theorem zH (h:fa Z= .ok (.bl false)):wJ fa fb Z=fb Z:=by unfold wJ;rw[h];rfl
theorem uu {k:Bool}(h:fa Z= .ok (.bl k)):o1 sj fa Z= .ok (.bl (!k)):=Cb h rfl
theorem gg {p:Bool}(h:b Z= .ok p):tL b fa fb Z=if p then fa Z else fb Z:=by unfold tL;rw[h];rfl
theorem bq {g:T->En->Rs En}(h:f Z= .ok t)(hg:g t Z= .ok Z'):cv f g Z= .ok (.nx Z'):=by unfold cv;rw[h];show(match g t Z with | .ok Z'=>Rs.ok (Fl.nx Z') | _=> .bad)=_;rw[hg]
theorem ar (h:F Z= .ok (.nx Z')):ay F G Z=G Z':=by unfold ay;rw[h];rfl
theorem ij (h:F Z= .ok (.rt t)):ay F G Z= .ok (.rt t):=by unfold ay;rw[h];rfl
theorem zF (h:F Z= .ok (.ct Z')):ay F G Z= .ok (.ct Z'):=by unfold ay;rw[h];rfl
theorem ik (h:b Z= .ok true):eO b F G Z=F Z:=by unfold eO;rw[h];rfl
theorem cM (h:b Z= .ok false):eO b F G Z=G Z:=by unfold eO;rw[h];rfl
theorem bH (h:f Z= .ok t):aG f Z= .ok (.rt t):=by unfold aG;rw[h];rfl
theorem lg (h:f Z= .ok t):qX f Z= .ok (.nx Z):=by unfold qX;rw[h];rfl
theorem gh {fi:En->Rs (List T)}{g:T->En->Rs En}{x:Fl}(h:fi Z= .ok ts)(h2:bh g F ts Z= .ok x):gb fi g F Z= .ok x:=by unfold gb;rw[h];show(match bh g F ts Z with | .ok f=>Rs.ok f | _=> .bad)=_;rw[h2]
theorem dY {g:T->En->Rs En}(h:g t Z= .ok Z1)(h2:F Z1= .ok (.nx Z2)):bh g F (t::ts) Z=bh g F ts Z2:=by rw[bh,h];show(F Z1 >>= _)=_;rw[h2];rfl
theorem Cc {g:T->En->Rs En}(h:g t Z= .ok Z1)(h2:F Z1= .ok (.ct Z2)):bh g F (t::ts) Z=bh g F ts Z2:=by rw[bh,h];show(F Z1 >>= _)=_;rw[h2];rfl
theorem vH {g:T->En->Rs En}(h:g t Z= .ok Z1)(h2:F Z1= .ok (.rt r)):bh g F (t::ts) Z= .ok (.rt r):=by rw[bh,h];show(F Z1 >>= _)=_;rw[h2];rfl
theorem zD {n:Nat}(h:c Z= .ok false):bA c F (n+1) Z= .ok (.nx Z):=by unfold bA;rw[h]
theorem sV {n:Nat}(h:c Z= .ok true)(h2:F Z= .ok (.nx Z')):bA c F (n+1) Z=bA c F n Z':=by rw[bA,h];simp only[h2]
theorem zC {n:Nat}(h:c Z= .ok true)(h2:F Z= .ok (.rt t)):bA c F (n+1) Z= .ok (.rt t):=by rw[bA,h];simp only[h2]
theorem bc {n m:Nat}(hl:ts.length=n)(h:F (aK m ts)= .ok (.rt t)):val n m F ts= .ok t:=by unfold val;rw[if_pos hl];unfold bw;rw[h];rfl
theorem qz {n m:Nat}(hl:ts.length=n)(h:F (aK m ts)= .ok (.nx Z)):val n m F ts= .ok .non:=by unfold val;rw[if_pos hl];unfold bw;rw[h];rfl
theorem n4 {fi:En->Rs (List T)}{src:List (Option Nat)}{fe:En->Rs T}{h:T->T}(hi:fi Z= .ok ts)(hs:ts.length<=sizeLine)(hn:0<src.length)(hf:∀t∈ts,fe ((df src Z).set 0 (.va t))= .ok (h t)) :
  fH fi src (gN 0) bT fe Z= .ok (.lst (ts.map h)):=by
 have e:=ur (fe:=fe) (h:=h) ts (df src Z) (by unfold df;rw[Jm];exact hn) hf
 unfold fH;rw[hi,aE,if_pos hs,e]
theorem dJ (h:fs Z= .ok ts)(hl:ts.length<=sizeLine):bK fs Z= .ok (.tup ts):=by unfold bK;rw[h];show je ts=_;unfold je;rw[if_pos hl]
theorem jh (h:fs Z= .ok ts)(hl:ts.length<=sizeLine):fE fs Z= .ok (.lst ts):=by unfold fE;rw[h];show jf ts=_;unfold jf;rw[if_pos hl]
theorem zJ {f:En->Rs (List T)}{i:Nat}(h:f Z= .ok l)(hi:i<Z.length)(hl:l.length<=1000):gP i f Z= .ok (.nx (Z.set i (.ow (.lst l)))):=by
 unfold gP;rw[h,aE,if_pos ⟨hi,aC hl (by omega)⟩]
theorem qA {i:Nat}(hi:i<Z.length):gP i ah Z= .ok (.nx (Z.set i (.ow (.lst [])))):=zJ rfl hi (KA _)
theorem sW {i:Nat}(h:f Z= .ok t)(hi:Z[i]? =some (.ow (.lst l)))(hl:l.length<=1000):jL i f Z= .ok (.nx (Z.set i (.ow (.lst (l++ [t]))))):=by
 unfold jL;rw[hi];simp only[h,aE];rw[if_pos (by unfold sizeLine;omega)]
theorem zM {i:Nat}(h:f Z= .ok (.lst m))(hi:Z[i]? =some (.ow (.lst l)))(hl:l.length+m.length<=1000):lS i f Z= .ok (.nx (Z.set i (.ow (.lst (l++m))))):=by
 unfold lS;rw[hi];simp only[h,aE,Fc];rw[if_pos (by unfold sizeLine;omega)]
theorem k_iS (h:f Z= .ok (.tup l)):iS f Z= .ok l:=by unfold iS;rw[h];rfl
theorem jX (h:f Z= .ok (.lst l)):iS f Z= .ok l:=by unfold iS;rw[h];rfl
theorem vI (h:fs Z= .ok [.lst l]):iE fs Z= .ok (br 0 l):=by unfold iE;rw[h];rfl
theorem C8 {n:Nat}(e:l[n]? =some t):aO (.tup l) (.int (n:Int))= .ok t:=by show(match L2.atI l _ with | some t=>Rs.ok t | none=> .bad)=_;rw[jv e]
theorem ER {n:Nat}(e:l[n]? =some t):aO (.lst l) (.int (n:Int))= .ok t:=by show(match L2.atI l _ with | some t=>Rs.ok t | none=> .bad)=_;rw[jv e]
theorem zL {n:Nat}(h:fa Z= .ok (.tup l))(h2:fb Z= .ok (.int (n:Int)))(e:l[n]? =some t):o2 aO fa fb Z= .ok t:=aA h h2 (C8 e)
theorem zK {n:Nat}(h:fa Z= .ok (.lst l))(h2:fb Z= .ok (.int (n:Int)))(e:l[n]? =some t):o2 aO fa fb Z= .ok t:=aA h h2 (ER e)
theorem C6 {fe:En->Rs T}{fl fu:En->Rs (Option Int)}{lo hi:Option Int}(h:fe Z= .ok (.lst l))(h1:fl Z= .ok lo)(h2:fu Z= .ok hi):sl fe fl fu Z= .ok (.lst (lj l lo hi)):=by
 unfold sl;rw[h,h1,h2];rfl
theorem GM {i:Int}(h:f Z= .ok (.int i)):pS f Z= .ok (some i):=by unfold pS;rw[h];rfl
theorem Av (l:List T)(n:Nat):lj l (some (n:Int)) none=l.drop n:=by
 unfold lj;rw[HT.sIx_none,HT.sIx_nat]
 by_cases h:n<=l.length
 ·rw[Nat.min_eq_left h]
  exact List.take_of_length_le (by rw[L4];omega)
 ·rw[Nat.min_eq_right (by omega),L8 (Jv _),L8 (by omega),List.take_nil]
theorem GP {i:Nat}{o:OT}(hi:Z[i]? =some (.ow o))(h:f (disown i Z)= .ok t)(hk:t.nk o.isD=true):ln i f Z= .ok t:=by
 unfold ln;rw[hi];simp only[h,aE,hk,if_true]
theorem C7 {i:Nat}{k:Bool}(h:b (disown i Z)= .ok k):B6 i b Z= .ok k:=h
theorem GS {i:Nat}{x:Rs Fl}(h:F (disown i Z)=x):nC i F Z=x:=h
end
theorem mk2 (a b:T):je [a,b] = .ok (.tup [a,b]):=by unfold je;rw[if_pos (aC (k:=1000) (by simp only[Jq,Lo];omega))]
theorem iF (n:Nat):(rng 0 n).length=n:=by unfold rng;rw[Jm,Lm];omega
end Tr
namespace Gr
variable {ν:Type}[DecidableEq ν]
abbrev bj (ν:Type):=List (ν×ν×Int)
inductive Wk (L:bj ν):ν->ν->Int->Prop
 | nil (a:ν):Wk L a a 0
 | step {a b c:ν} {m s:Int}:(a,b,m)∈L->Wk L b c s->Wk L a c (m+s)
theorem Wk.one {L:bj ν}{a b:ν}{m:Int}(h:(a,b,m)∈L):Wk L a b m:=by
 have:=Wk.step h (Wk.nil (L:=L) b)
 rwa [Int.add_zero]at this
theorem Wk.app {L:bj ν}{a b c:ν}{s t:Int}(h:Wk L a b s)(k:Wk L b c t):Wk L a c (s+t):=by
 induction h with
 | nil a=>rwa [Int.zero_add]
 | step e _ ih=>rw[Int.add_assoc];exact .step e (ih k)
theorem Wk.mono {L M:bj ν}(h:∀x∈L,x∈M){a b:ν}{s:Int}(w:Wk L a b s):Wk M a b s:=by
 induction w with
 | nil a=>exact .nil a
 | step e _ ih=>exact .step (h _ e) ih
def Holds (L:bj ν)(t:ν->Int):Prop:=∀a b m,(a,b,m)∈L->t b - t a<=m
theorem Holds.walk {L:bj ν}{t:ν->Int}(h:Holds L t){a b:ν}{s:Int}(w:Wk L a b s):t b - t a<=s:=by
 induction w with
 | nil a=>omega
 | step e _ ih=>have:=h _ _ _ e;omega
def NoNeg (L:bj ν):Prop:=∀a s,Wk L a a s->0<=s
theorem Holds.Ii {L:bj ν}{t:ν->Int}(h:Holds L t):NoNeg L:=λa s w=>by have:=h.walk w;omega
theorem NoNeg.mono {L M:bj ν}(h:∀x∈L,x∈M)(n:NoNeg M):NoNeg L:=λa s w=>n a s (w.mono h)
def Ch (L:bj ν):ν->List Nat->ν->Prop
 | a,[],b=>a=b
 | a,k::r,b=> ∃c m,L[k]? =some (a,c,m)/\Ch L c r b
def most (L:bj ν)(k:Nat):Int:=match L[k]? with
 | some x=>x.2.2
 | none=>0
def dQ (L:bj ν):List Nat->Int
 | [] =>0
 | k::r=>most L k+dQ L r
theorem j6 (L:bj ν):∀(p q:List Nat),dQ L (p++q)=dQ L p+dQ L q
 | [],q=>by simp[dQ]
 | k::p,q=>by rw[List.cons_append,dQ,dQ,j6 L p q];omega
theorem Ch.wk {L:bj ν}:∀{ks:List Nat} {a b:ν},Ch L a ks b->Wk L a b (dQ L ks)
 | [],a,b,h=>by cases h;exact .nil a
 | k::r,a,b,⟨c,m,e,h⟩=>by
  have:dQ L (k::r)=m+dQ L r:=by rw[dQ,most,e]
  rw[this];exact .step (LI e) h.wk
theorem Ch.app {L:bj ν}:∀{p q:List Nat} {a b c:ν},Ch L a p b->Ch L b q c->Ch L a (p++q) c
 | [],q,a,b,c,h,k=>by cases h;exact k
 | x::p,q,a,b,c,⟨d,m,e,h⟩,k=>⟨d,m,e,Ch.app h k⟩
theorem Ch.lt {L:bj ν}:∀{ks:List Nat} {a b:ν},Ch L a ks b->∀k∈ks,k<L.length
 | [],_,_,_,k,hk=>by simp at hk
 | x::r,a,b,⟨c,m,e,h⟩,k,hk=>by
  rcases Jp.mp hk with rfl | hk
  ·exact(Jy.mp e).1
  ·exact h.lt k hk
theorem Ch.snoc {L:bj ν}{p:List Nat}{k:Nat}{a b c:ν}{m:Int}(h:Ch L a p b)(e:L[k]? =some (b,c,m)):Ch L a (p++ [k]) c:=h.app ⟨c,m,e,rfl⟩
def src (L:bj ν)(k:Nat):Option ν:=(L[k]?).map (·.1)
abbrev bS (ν:Type):=ν->Option (Int×List Nat)
def put (b:bS ν)(v:ν)(x:Int×List Nat):bS ν:=λu=>if u=v then some x else b u
theorem dH {b:bS ν}{v:ν}{x:Int×List Nat}:put b v x v=some x:=by unfold put;rw[if_pos rfl]
theorem jm {b:bS ν}{u v:ν}{x:Int×List Nat}(h:u≠v):put b v x u=b u:=by unfold put;rw[if_neg h]
def dP (L:bj ν)(ks:List Nat):List ν:=ks.filterMap (src L)
def dM (b:bS ν)(v:ν)(d:Int):Bool:=match b v with
 | none=>true
 | some x=>decide (d<x.1)
def gd (L:bj ν)(b:bS ν)(k:Nat)(x:ν×ν×Int):Sum (Option (bS ν)) (List Nat):=match b x.1 with
 | none=> .inl none
 | some (d,w)=>if dM b x.2.1 (d+x.2.2)=true then
   if x.2.1∈dP L (w++ [k])then .inr ((w++ [k]).drop ((dP L (w++ [k])).idxOf x.2.1))else .inl (some (put b x.2.1 (d+x.2.2,w++ [k])))
  else .inl none
def gL (L:bj ν):Nat->bj ν->bS ν->Bool->Sum (bS ν×Bool) (List Nat)
 | _,[],b,mv=> .inl (b,mv)
 | k,x::r,b,mv=>match gd L b k x with
  | .inr q=> .inr q
  | .inl none=>gL L (k+1) r b mv
  | .inl (some b')=>gL L (k+1) r b' true
def settle (L:bj ν):Nat->bS ν->Option (Sum (bS ν) (List Nat))
 | 0,_=>none
 | n+1,b=>match gL L 0 L b false with
  | .inr q=>some (.inr q)
  | .inl (b',true)=>settle L n b'
  | .inl (b',false)=>some (.inl b')
theorem pX (L:bj ν)(p q:List Nat):dP L (p++q)=dP L p++dP L q:=by unfold dP;rw[List.filterMap_append]
theorem pW {L:bj ν}{k:Nat}{x:ν×ν×Int}(e:L[k]? =some x):dP L [k] = [x.1]:=by unfold dP src;simp[e]
theorem Ch.HM {L:bj ν}{k:Nat}{r:List Nat}{a b:ν}(h:Ch L a (k::r) b):dP L (k::r)=a::dP L r:=by
 obtain⟨c,m,e,_⟩:=h;rw[show k::r= [k] ++r from rfl,pX,pW e];rfl
theorem Ch.cut {L:bj ν}{v:ν}:∀{ks:List Nat} {a b:ν},Ch L a ks b->v∈dP L ks->Ch L a (ks.take ((dP L ks).idxOf v)) v/\Ch L v (ks.drop ((dP L ks).idxOf v)) b/\(dP L ks).idxOf v<ks.length
 | [],a,b,_,hv=>by simp[dP]at hv
 | k::r,a,b,h,hv=>by
  rw[h.HM]at hv ⊢
  have h0:=h;obtain⟨c,m,e,h⟩:=h
  by_cases z:a=v
  ·subst z
   rw[List.idxOf_cons_self];exact⟨rfl,h0,by simp⟩
  ·have hv':v∈dP L r:=by
    rcases Jp.mp hv with q | q
    ·exact absurd q.symm z
    ·exact q
   obtain⟨h1,h2,h3⟩:=h.cut hv'
   have ei:(a::dP L r).idxOf v=(dP L r).idxOf v+1:=by
    rw[Rq]
    have:(a == v)=false:=by rw[beq_eq_false_iff_ne];exact z
    rw[this];rfl
   rw[ei];exact⟨⟨c,m,e,h1⟩,h2,by simpa using h3⟩
structure Kept (L:bj ν)(S:List ν)(b:bS ν):Prop where
 walk:∀v d w,b v=some (d,w)->∃s∈S,Ch L s w v/\dQ L w=d/\v∉dP L w/\(dP L w).Nodup/\∀p q u,w=p++q->Ch L s p u->∃d' w',b u=some (d',w')/\d'<=dQ L p
 start:∀s∈S,∃d w,b s=some (d,w)/\d<=0
theorem Kept.put {L:bj ν}{S:List ν}{b:bS ν}(K:Kept L S b){k:Nat}{a c:ν}{m d:Int}{w:List Nat}(e:L[k]? =some (a,c,m))(ha:b a=some (d,w))(hb:dM b c (d+m)=true)(hn:c∉dP L (w++ [k])) :
  Kept L S (put b c (d+m,w++ [k])):=by
 have low:∀u d' w',b u=some (d',w')->∃d'' w'',Gr.put b c (d+m,w++ [k]) u=some (d'',w'')/\d''<=d':=λu d' w' h=>by
  by_cases z:u=c
  ·subst z
   refine⟨_,_,dH,?_⟩
   unfold dM at hb;rw[h]at hb
   have:=of_decide_eq_true hb;omega
  ·exact⟨d',w',by rw[jm z];exact h,KC _⟩
 obtain⟨s,hs,h1,h2,h3,h4,h5⟩:=K.walk a d w ha
 have hch:Ch L s (w++ [k]) c:=h1.snoc e
 have hcost:dQ L (w++ [k])=d+m:=by rw[j6,h2,dQ,dQ,most,e];simp
 refine⟨λv d' w' h=> ?_,λs' hs'=> ?_⟩
 ·by_cases z:v=c
  ·subst z
   rw[dH]at h;cases h;refine⟨s,hs,hch,hcost,hn,?_,λp q u hpq hp=> ?_⟩
   ·rw[pX,pW e]
    exact Kp.mpr ⟨h4,by simp,λx hx y hy=>by simp at hy;subst hy;exact λz=>h3 (z▸hx)⟩
   ·by_cases hq:q= []
    ·subst hq
     rw[Km]at hpq;subst hpq
     have:u=v:=by
      clear low hb hn h5
      have aux:∀{ks:List Nat} {x y z:ν},Ch L x ks y->Ch L x ks z->y=z:=by
       intro ks
       induction ks with
       | nil=>intro x y z h1 h2;cases h1;cases h2;rfl
       | cons k r ih=>
        rintro x y z ⟨c1,m1,e1,r1⟩ ⟨c2,m2,e2,r2⟩
        rw[e1]at e2;cases e2;exact ih r1 r2
      exact aux hp hch
     subst this;exact⟨_,_,dH,by rw[hcost];exact KC _⟩
    ·have hw:∃q',w=p++q':=by
      refine⟨q.dropLast,?_⟩
      have:=congrArg List.dropLast hpq;rw[List.dropLast_concat,List.dropLast_append_of_ne_nil hq]at this;exact this
     obtain⟨q',hw⟩:=hw;obtain⟨d1,w1,e1,l1⟩:=h5 p q' u hw hp;obtain⟨d2,w2,e2,l2⟩:=low u d1 w1 e1;exact⟨d2,w2,e2,by omega⟩
  ·rw[jm z]at h
   obtain⟨s',hs',g1,g2,g3,g4,g5⟩:=K.walk v d' w' h;refine⟨s',hs',g1,g2,g3,g4,λp q u hpq hp=> ?_⟩
   obtain⟨d1,w1,e1,l1⟩:=g5 p q u hpq hp;obtain⟨d2,w2,e2,l2⟩:=low u d1 w1 e1;exact⟨d2,w2,e2,by omega⟩
 ·obtain⟨d1,w1,e1,l1⟩:=K.start s' hs'
  obtain⟨d2,w2,e2,l2⟩:=low s' d1 w1 e1;exact⟨d2,w2,e2,by omega⟩
def Bar (L:bj ν)(q:List Nat):Prop:=q≠ []/\(∃a,Ch L a q a)/\dQ L q<0/\(dP L q).Nodup
theorem Ch.Ia {L:bj ν}:∀{ks:List Nat} {a b:ν} (i:Nat),Ch L a ks b->dP L (ks.drop i)=(dP L ks).drop i
 | [],_,_,i,_=>by simp[dP]
 | k::r,a,b,0,_=>rfl
 | k::r,a,b,i+1,h=>by
  have:=h;obtain⟨c,m,e,h'⟩:=this;rw[h.HM,PB,PB,h'.Ia i]
theorem Kept.round {L:bj ν}{S:List ν}{b:bS ν}(K:Kept L S b){k:Nat}{a c:ν}{m d:Int}{w:List Nat}(e:L[k]? =some (a,c,m))(ha:b a=some (d,w))(hb:dM b c (d+m)=true)(hn:c∈dP L (w++ [k])) :
  Bar L ((w++ [k]).drop ((dP L (w++ [k])).idxOf c)):=by
 obtain⟨s,hs,h1,h2,h3,h4,h5⟩:=K.walk a d w ha
 have hch:Ch L s (w++ [k]) c:=h1.snoc e
 have hcost:dQ L (w++ [k])=d+m:=by rw[j6,h2,dQ,dQ,most,e];simp
 obtain⟨c1,c2,c3⟩:=hch.cut hn
 generalize hi:(dP L (w++ [k])).idxOf c=i at c1 c2 c3
 refine⟨λz=> ?_,⟨c,c2⟩,?_,?_⟩
 ·have:=congrArg LD z
  rw[L4]at this
  simp at this c3
  omega
 ·have hsum:dQ L ((w++ [k]).take i)+dQ L ((w++ [k]).drop i)=d+m:=by rw[<-j6,OP,hcost]
  have hiw:i<=w.length:=by simp at c3;omega
  have ht:(w++ [k]).take i=w.take i:=by rw[List.take_append_of_le_length hiw]
  rw[ht]at c1 hsum;obtain⟨d1,w1,e1,l1⟩:=h5 (w.take i) (w.drop i) c (OP i w).symm c1;unfold dM at hb;rw[e1]at hb
  have:=of_decide_eq_true hb;simp only at this;omega
 ·rw[hch.Ia,pX,pW e]
  refine(List.drop_sublist _ _).nodup (Kp.mpr ⟨h4,by simp,λx hx y hy=> ?_⟩)
  rw[JB.mp hy];exact λz=>h3 (by have z:x=a:=z;rw[<-z];exact hx)
def size (L:bj ν):Nat:=(L.map λx=>x.2.2.natAbs).sum
theorem iZ {f:Nat->Nat}:∀{ks rs:List Nat},ks.Nodup->(∀k∈ks,k∈rs)->(ks.map f).sum<=(rs.map f).sum
 | [],rs,_,_=>by simp
 | k::ks,rs,hn,hs=>by
  have hk:k∈rs:=hs k Jj;rw[JX]at hn
  have hp:=List.perm_cons_erase hk
  have e:(rs.map f).sum=f k+((rs.erase k).map f).sum:=by
   have:=(hp.map f).sum_nat
   rwa [Jn,K0]at this
  rw[e,Jn,K0]
  have:=iZ (f:=f) hn.2 (rs:=rs.erase k) λj hj=>by
   have h1:=hs j (Jh _ hj);exact(Pj (λ(z:j=k)=>hn.1 (z▸hj))).mpr h1
  omega
theorem tT (L:bj ν):size L=((Kv L.length).map λk=>(most L k).natAbs).sum:=by
 unfold size
 congr 1
 apply List.ext_getElem
 ·simp
 ·intro i h1 h2
  simp only[Mz,P2];unfold most;rw[Jx (by simpa using h1)]
theorem v8 (L:bj ν):∀(ks:List Nat),(dQ L ks).natAbs<=(ks.map λk=>(most L k).natAbs).sum
 | [] =>by simp[dQ]
 | k::r=>by
  have:=v8 L r;rw[dQ,Jn,K0];omega
theorem Ch.nodup {L:bj ν}:∀{ks:List Nat} {a b:ν},Ch L a ks b->(dP L ks).Nodup->ks.Nodup
 | [],_,_,_,_=>Ll
 | k::r,a,b,h,hn=>by
  have h0:=h;rw[h.HM,JX]at hn;obtain⟨c,m,e,h⟩:=h;rw[JX];refine⟨λhk=>hn.1 ?_,h.nodup hn.2⟩
  unfold dP src;exact La.mpr ⟨k,hk,by rw[e];rfl⟩
theorem Ch.small {L:bj ν}{ks:List Nat}{a b:ν}(h:Ch L a ks b)(hn:(dP L ks).Nodup):(dQ L ks).natAbs<=size L:=by
 rw[tT];exact JQ (v8 L ks) (iZ (h.nodup hn) λk hk=>KY.mpr (h.lt k hk))
def val (M:Nat)(b:bS ν)(v:ν):Nat:=match b v with
 | none=>2*M+1
 | some x=>(x.1+M).toNat
def left (M:Nat)(b:bS ν)(L:bj ν):Nat:=(L.map λx=>val M b x.2.1).sum
theorem vA {M:Nat}{b b':bS ν}:∀{L:bj ν},(∀x∈L,val M b' x.2.1<=val M b x.2.1)->left M b' L<=left M b L
 | [],_=>by simp[left]
 | x::L,h=>by
  have h1:=h x Jj
  have h2:=vA (L:=L) λy hy=>h y (Jh _ hy)
  unfold left at h2 ⊢;rw[Jn,K0,Jn,K0];omega
theorem vz {M:Nat}{b b':bS ν}{x:ν×ν×Int}:∀{L:bj ν},x∈L->(∀x∈L,val M b' x.2.1<=val M b x.2.1)->val M b' x.2.1<val M b x.2.1->left M b' L<left M b L
 | [],hx,_,_=>by simp at hx
 | y::L,hx,h,hl=>by
  have h1:=h y Jj
  have h2:=vA (L:=L) λy hy=>h y (Jh _ hy)
  unfold left at h2 ⊢;rw[Jn,K0,Jn,K0];rcases Jp.mp hx with rfl | hx
  ·omega
  ·have h3:=vz (L:=L) hx (λy hy=>h y (Jh _ hy)) hl
   unfold left at h3;omega
theorem zp {L:bj ν}{S:List ν}{b:bS ν}(K:Kept L S b){k:Nat}{a c:ν}{m d:Int}{w:List Nat}(e:L[k]? =some (a,c,m))(ha:b a=some (d,w))(hb:dM b c (d+m)=true)(hn:c∉dP L (w++ [k])) :
  left (size L) (put b c (d+m,w++ [k])) L<left (size L) b L:=by
 have K':=K.put e ha hb hn;obtain⟨s,hs,h1,h2,h3,h4,h5⟩:=K'.walk c (d+m) (w++ [k]) dH
 have sm:=h1.small h4;rw[h2]at sm
 have lt:val (size L) (put b c (d+m,w++ [k])) c<val (size L) b c:=by
  unfold val dM at*;rw[dH]
  cases z:b c with
  | none=>simp only;omega
  | some y=>
   rw[z]at hb
   have hb:=of_decide_eq_true hb;simp only;omega
 refine vz (x:=(a,c,m)) (LI e) (λy _=> ?_) lt
 by_cases z:y.2.1=c
 ·rw[z];exact KD lt
 ·unfold val;rw[jm z];exact Jv _
def AD (b:bS ν)(x:ν×ν×Int):Prop:=∀d w,b x.1=some (d,w)->∃d' w',b x.2.1=some (d',w')/\d'<=d+x.2.2
theorem yg {b:bS ν}{x:ν×ν×Int}(h:∀d w,b x.1=some (d,w)->dM b x.2.1 (d+x.2.2)=false):AD b x:=λd w e=>by
 have:=h d w e;unfold dM at this
 cases z:b x.2.1 with
 | none=>rw[z]at this;cases this
 | some y=>
  rw[z]at this
  have:=of_decide_eq_false this;exact⟨y.1,y.2,rfl,by omega⟩
theorem gY {L:bj ν}{S:List ν}:∀(r:bj ν) (k:Nat) (b:bS ν) (mv:Bool),L.drop k=r->Kept L S b->match gL L k r b mv with
  | .inr q=>Bar L q
  | .inl (b',mv')=>Kept L S b'/\(mv'=false->mv=false/\b'=b/\∀x∈r,AD b x)/\left (size L) b' L<=left (size L) b L/\(mv'=true->mv=true\/left (size L) b' L<left (size L) b L)
 | [],k,b,mv,_,K=>⟨K,λh=>⟨h,rfl,λx hx=>by simp at hx⟩,Jv _,λh=> .inl h⟩
 | x::r,k,b,mv,hr,K=>by
  have e:L[k]? =some x:=by
   have:=congrArg (·[0]?) hr
   simpa using this
  have hr':L.drop (k+1)=r:=by
   have:=congrArg (List.drop 1) hr
   simpa [List.drop_drop,Qz]using this
  rw[gL];obtain⟨a,c,m⟩:=x;unfold gd
  cases z:b a with
  | none=>
   simp only[z]
   have ih:=gY r (k+1) b mv hr' K
   revert ih
   generalize gL L (k+1) r b mv=R
   cases R with
   | inr q=>exact id
   | inl p=>
    obtain⟨b',mv'⟩:=p
    rintro ⟨i1,i2,i3,i4⟩
    refine⟨i1,λh=> ?_,i3,i4⟩
    obtain⟨j1,j2,j3⟩:=i2 h;refine⟨j1,j2,λx hx=> ?_⟩
    rcases Jp.mp hx with rfl | hx
    ·intro d w q;rw[z]at q;cases q
    ·exact j3 x hx
  | some y=>
   obtain⟨d,w⟩:=y;simp only[z]
   by_cases hb:dM b c (d+m)=true
   ·rw[if_pos hb]
    by_cases hn:c∈dP L (w++ [k])
    ·rw[if_pos hn]
     exact K.round e z hb hn
    ·rw[if_neg hn]
     have K':=K.put e z hb hn
     have lt:=zp K e z hb hn
     have ih:=gY r (k+1) (put b c (d+m,w++ [k])) true hr' K'
     revert ih
     simp only
     generalize gL L (k+1) r (put b c (d+m,w++ [k])) true=R
     cases R with
     | inr q=>exact id
     | inl p=>
      obtain⟨b',mv'⟩:=p
      rintro ⟨i1,i2,i3,i4⟩
      refine⟨i1,λh=> ?_,by omega,λ_=> .inr (by omega)⟩
      obtain⟨j1,_⟩:=i2 h;cases j1
   ·rw[if_neg hb]
    have ih:=gY r (k+1) b mv hr' K
    revert ih
    simp only
    generalize gL L (k+1) r b mv=R
    cases R with
    | inr q=>exact id
    | inl p=>
     obtain⟨b',mv'⟩:=p
     rintro ⟨i1,i2,i3,i4⟩
     refine⟨i1,λh=> ?_,i3,i4⟩
     obtain⟨j1,j2,j3⟩:=i2 h;refine⟨j1,j2,λx hx=> ?_⟩
     rcases Jp.mp hx with rfl | hx
     ·refine yg λd' w' q=> ?_
      simp only at q;rw[z]at q;cases q
      simpa using hb
     ·exact j3 x hx
structure Settled (L:bj ν)(S:List ν)(b:bS ν):Prop where
 walk:∀v d w,b v=some (d,w)->∃s∈S,Ch L s w v/\dQ L w=d/\v∉dP L w/\(dP L w).Nodup
 least:∀s∈S,∀v t,Wk L s v t->∃d w,b v=some (d,w)/\d<=t
theorem tU {L:bj ν}{S:List ν}{b:bS ν}(K:Kept L S b)(h:∀x∈L,AD b x):Settled L S b where
 walk:=λv d w e=>by
  obtain⟨s,h1,h2,h3,h4,h5,_⟩:=K.walk v d w e;exact⟨s,h1,h2,h3,h4,h5⟩
 least:=by
  have go:∀{u v:ν} {t:Int},Wk L u v t->∀d w,b u=some (d,w)->∃d' w',b v=some (d',w')/\d'<=d+t:=by
   intro u v t hw
   induction hw with
   | nil a=>exact λd w e=>⟨d,w,e,by omega⟩
   | step e _ ih=>
    intro d w q;obtain⟨d1,w1,e1,l1⟩:=h _ e d w q;obtain⟨d2,w2,e2,l2⟩:=ih d1 w1 e1;exact⟨d2,w2,e2,by simp only at l1;omega⟩
  intro s hs v t hw;obtain⟨d,w,e,l⟩:=K.start s hs;obtain⟨d2,w2,e2,l2⟩:=go hw d w e;exact⟨d2,w2,e2,by omega⟩
theorem ou {L:bj ν}{S:List ν}:∀(n:Nat) (b:bS ν),Kept L S b->left (size L) b L<n->∃r,settle L n b=some r/\match r with
  | .inr q=>Bar L q
  | .inl b'=>Settled L S b'
 | 0,b,K,h=>by omega
 | n+1,b,K,h=>by
  have s:=gY (S:=S) L 0 b false rfl K;rw[settle]
  revert s
  generalize gL L 0 L b false=R
  cases R with
  | inr q=>exact λs=>⟨_,rfl,s⟩
  | inl p=>
   obtain⟨b',mv'⟩:=p
   rintro ⟨i1,i2,i3,i4⟩
   cases mv' with
   | false=>
    obtain⟨_,j2,j3⟩:=i2 rfl;subst j2
    exact⟨_,rfl,tU i1 j3⟩
   | true=>
    rcases i4 rfl with z | z
    ·cases z
    ·exact ou n b' i1 (by omega)
def start (S:List ν):bS ν:=λv=>if v∈S then some (0,[])else none
theorem mH (L:bj ν)(S:List ν):Kept L S (start S) where
 walk:=λv d w e=>by
  unfold start at e
  split at e
  ·rename_i h
   cases e;refine⟨v,h,rfl,rfl,by simp[dP],by simp[dP],λp q u hpq hp=> ?_⟩
   obtain⟨rfl,rfl⟩:=List.append_eq_nil_iff.mp hpq.symm;cases hp;exact⟨0,[],by unfold start;rw[if_pos h],by simp[dQ]⟩
  ·cases e
 start:=λs hs=>⟨0,[],by unfold start;rw[if_pos hs],KC _⟩
theorem zq (L:bj ν)(S:List ν):left (size L) (start S) L<=L.length*(2*size L+1):=by
 unfold left
 have:∀M:bj ν,(M.map λx=>val (size L) (start S) x.2.1).sum<=M.length*(2*size L+1):=by
  intro M
  induction M with
  | nil=>simp
  | cons x M ih=>
   rw[Jn,K0,Jq,Nat.succ_mul]
   have:val (size L) (start S) x.2.1<=2*size L+1:=by
    unfold val start;split
    ·exact Jv _
    ·rename_i h
     split at h
     ·cases h;simp;omega
     ·cases h
   omega
 exact this L
theorem tV (L:bj ν)(S:List ν){n:Nat}(h:L.length*(2*size L+1)<n):∃r,settle L n (start S)=some r/\match r with
  | .inr q=>Bar L q
  | .inl b'=>Settled L S b':=ou n (start S) (mH L S) (Ly (zq L S) h)
theorem Bar.neg {L:bj ν}{q:List Nat}(h:Bar L q):¬ NoNeg L:=λn=>by
 obtain⟨_,⟨a,ha⟩,hc,_⟩:=h
 have:=n a _ ha.wk;omega
theorem Settled.holds {L:bj ν}{S:List ν}{b:bS ν}(h:Settled L S b)(hS:∀x∈L,x.1∈S/\x.2.1∈S){t:ν->Int}(ht:∀v∈S,∃w,b v=some (t v,w)):Holds L t:=λa c m hx=>by
 obtain⟨ha,hc⟩:=hS _ hx;obtain⟨w,e⟩:=ht a ha;obtain⟨s,hs,h1,h2,_⟩:=h.walk a _ _ e;obtain⟨d,w',e',l⟩:=h.least s hs c _ (h1.wk.app (.one hx));obtain⟨w2,e2⟩:=ht c hc;rw[e2]at e';cases e';omega
inductive Pth (L:bj ν):ν->List ν->ν->Int->Prop
 | one {a b:ν} {m:Int}:(a,b,m)∈L->Pth L a [] b m
 | cons {a x b:ν} {ms:List ν} {m s:Int}:(a,x,m)∈L->Pth L x ms b s->Pth L a (x::ms) b (m+s)
theorem Pth.wk {L:bj ν}{a b:ν}{ms:List ν}{s:Int}(h:Pth L a ms b s):Wk L a b s:=by
 induction h with
 | one e=>exact .one e
 | cons e _ ih=>exact .step e ih
theorem Pth.cut {L:bj ν}{x:ν}{q:List ν}:∀{p:List ν} {a b:ν} {s:Int},Pth L a (p++x::q) b s->∃s1 s2,Pth L a p x s1/\Pth L x q b s2/\s=s1+s2
 | [],a,b,s,h=>by
  cases h with
  | cons e h=>exact⟨_,_,.one e,h,rfl⟩
 | y::p,a,b,s,h=>by
  cases h with
  | cons e h=>
   obtain⟨s1,s2,h1,h2,h3⟩:=Pth.cut h;exact⟨_,s2,.cons e h1,h2,by omega⟩
def Fx (L:bj ν)(u v:ν)(s:Int):Prop:=(u=v/\s=0)\/(u≠v/\∃ms,Pth L u ms v s/\ms.Nodup/\u∉ms/\v∉ms)
def AG (L:bj ν):Prop:=∃x ms s,Pth L x ms x s/\ms.Nodup/\x∉ms/\s<0
theorem Wk.simple {L:bj ν}{u v:ν}{s:Int}(w:Wk L u v s):AG L\/∃s',s'<=s/\Fx L u v s':=by
 induction w with
 | nil a=>exact .inr ⟨0,KC _,.inl ⟨rfl,rfl⟩⟩
 | @step a b c m s e w ih=>
  rcases ih with ih | ⟨s',hs,ih⟩
  ·exact .inl ih
  by_cases hab:a=b
  ·subst hab
   by_cases hm:m<0
   ·exact .inl ⟨a,[],m,.one e,Ll,by simp,hm⟩
   ·exact .inr ⟨s',by omega,ih⟩
  rcases ih with⟨rfl,rfl⟩ | ⟨hbc,ms,hp,hn,hb,hc⟩
  ·exact .inr ⟨m,by omega,.inr ⟨hab,[],.one e,Ll,by simp,by simp⟩⟩
  by_cases hac:a=c
  ·subst hac
   by_cases hm:m+s'<0
   ·exact .inl ⟨a,b::ms,m+s',.cons e hp,JX.mpr ⟨hb,hn⟩,by simp[hab,hc],hm⟩
   ·exact .inr ⟨0,by omega,.inl ⟨rfl,rfl⟩⟩
  by_cases ham:a∈ms
  ·obtain⟨p,q,rfl⟩:=P3 ham
   obtain⟨s1,s2,h1,h2,h3⟩:=hp.cut;rw[Kp]at hn;obtain⟨n1,n2,n3⟩:=hn;rw[JX]at n2
   have hap:a∉p:=λz=>n3 a z a Jj rfl
   by_cases hm:m+s1<0
   ·refine .inl ⟨a,b::p,m+s1,.cons e h1,JX.mpr ⟨λz=>hb (J2 _ z),n1⟩,by simp[hab,hap],hm⟩
   ·exact .inr ⟨s2,by omega,.inr ⟨hac,q,h2,n2.2,n2.1,λz=>hc (JD _ (Jh _ z))⟩⟩
  ·refine .inr ⟨m+s',by omega,.inr ⟨hac,b::ms,.cons e hp,JX.mpr ⟨hb,hn⟩,by simp[hab,ham],?_⟩⟩
   simp only[Jp,not_or];exact⟨λz=>hbc z.symm,hc⟩
abbrev cO (ν:Type):=ν->ν->Option Int
def tf (f:cO ν)(a b:ν)(x:Int):cO ν:=λu v=>if u=a/\v=b then some x else f u v
def qG (f:cO ν)(a b:ν)(x:Int):cO ν:=match f a b with
 | none=>tf f a b x
 | some y=>if x<y then tf f a b x else f
def mJ (mid one other:ν)(f:cO ν):cO ν:=match f one mid,f mid other with
 | some x,some y=>qG f one other (x+y)
 | _,_=>f
def wt (P:List ν):cO ν:=λu v=>if u∈P/\u=v then some 0 else none
def A4 (P:List ν)(L:bj ν):cO ν:=L.foldl (λf x=>qG f x.1 x.2.1 x.2.2) (wt P)
def lz (mid one:ν)(P:List ν)(f:cO ν):cO ν:=P.foldl (λf other=>mJ mid one other f) f
def oV (mid:ν)(Q P:List ν)(f:cO ν):cO ν:=Q.foldl (λf one=>lz mid one P f) f
def vR (M P:List ν)(f:cO ν):cO ν:=M.foldl (λf mid=>oV mid P P f) f
def table (P:List ν)(L:bj ν):cO ν:=vR P P (A4 P L)
def Le (f g:cO ν):Prop:=∀u v x,g u v=some x->∃y,f u v=some y/\y<=x
theorem Le.refl (f:cO ν):Le f f:=λu v x h=>⟨x,h,KC _⟩
theorem Le.trans {f g h:cO ν}(a:Le f g)(b:Le g h):Le f h:=λu v x e=>by
 obtain⟨y,e1,l1⟩:=b u v x e;obtain⟨z,e2,l2⟩:=a u v y e1;exact⟨z,e2,by omega⟩
theorem kC {f:cO ν}{a b:ν}{x:Int}:tf f a b x a b=some x:=by unfold tf;rw[if_pos ⟨rfl,rfl⟩]
theorem qF (f:cO ν)(a b:ν)(x:Int):Le (qG f a b x) f:=λu v y e=>by
 unfold qG
 cases q:f a b with
 | none=>
  by_cases z:u=a/\v=b
  ·obtain⟨rfl,rfl⟩:=z;rw[q]at e;cases e
  ·exact⟨y,by simp only;unfold tf;rw[if_neg z];exact e,KC _⟩
 | some y0=>
  simp only;split
  ·by_cases z:u=a/\v=b
   ·obtain⟨rfl,rfl⟩:=z;rw[q]at e;cases e
    exact⟨x,kC,by omega⟩
   ·exact⟨y,by unfold tf;rw[if_neg z];exact e,KC _⟩
  ·exact⟨y,e,KC _⟩
theorem vV (f:cO ν)(a b:ν)(x:Int):∃y,qG f a b x a b=some y/\y<=x:=by
 unfold qG
 cases q:f a b with
 | none=>exact⟨x,kC,KC _⟩
 | some y0=>
  simp only;split
  ·exact⟨x,kC,KC _⟩
  ·exact⟨y0,q,by omega⟩
theorem mM {L:bj ν}{f:cO ν}{a b:ν}{x:Int}(h:∀u v y,f u v=some y->Wk L u v y)(hx:Wk L a b x):∀u v y,qG f a b x u v=some y->Wk L u v y:=λu v y e=>by
 have key:tf f a b x u v=some y->Wk L u v y:=λe'=>by
  unfold tf at e'
  by_cases z:u=a/\v=b
  ·rw[if_pos z]at e';injection e' with e';rw[z.1,z.2,<-e'];exact hx
  ·rw[if_neg z]at e';exact h u v y e'
 unfold qG at e
 cases q:f a b with
 | none=>rw[q]at e;exact key e
 | some y0=>
  rw[q]at e;simp only at e
  split at e
  ·exact key e
  ·exact h u v y e
theorem sZ (mid one other:ν)(f:cO ν):Le (mJ mid one other f) f:=by
 unfold mJ;split
 ·exact qF _ _ _ _
 ·exact Le.refl f
theorem zW {mid one other:ν}{f:cO ν}{x y:Int}(h1:f one mid=some x)(h2:f mid other=some y):∃z,mJ mid one other f one other=some z/\z<=x+y:=by
 unfold mJ;rw[h1,h2];exact vV _ _ _ _
theorem iO {α:Type}(step:cO ν->α->cO ν)(hs:∀f a,Le (step f a) f):∀(l:List α) (f:cO ν),Le (l.foldl step f) f
 | [],f=>Le.refl f
 | a::l,f=>(iO step hs l (step f a)).trans (hs f a)
theorem mK (mid one:ν)(P:List ν)(f:cO ν):Le (lz mid one P f) f:=iO _ (λf o=>sZ mid one o f) P f
theorem tj (mid:ν)(Q P:List ν)(f:cO ν):Le (oV mid Q P f) f:=iO _ (λf o=>mK mid o P f) Q f
theorem z6 (M P:List ν)(f:cO ν):Le (vR M P f) f:=iO _ (λf o=>tj o P P f) M f
theorem lA {α:Type}(step:cO ν->α->cO ν)(hs:∀f a,Le (step f a) f):∀(l:List α) (f:cO ν) (a:α),a∈l->∃g,Le g f/\Le (l.foldl step f) (step g a)
 | [],f,a,h=>by simp at h
 | b::l,f,a,h=>by
  rcases Jp.mp h with rfl | h
  ·exact⟨f,Le.refl f,iO step hs l (step f a)⟩
  ·obtain⟨g,h1,h2⟩:=lA step hs l (step f b) a h
   exact⟨g,h1.trans (hs f b),h2⟩
theorem z0 {mid u v:ν}{P:List ν}{f:cO ν}{x y:Int}(hu:u∈P)(hv:v∈P)(h1:f u mid=some x)(h2:f mid v=some y):∃z,oV mid P P f u v=some z/\z<=x+y:=by
 obtain⟨g,g1,g2⟩:=lA (λf one=>lz mid one P f) (λf o=>mK mid o P f) P f u hu
 obtain⟨g',g3,g4⟩:=lA (λf other=>mJ mid u other f) (λf o=>sZ mid u o f) P g v hv
 have l:Le g' f:=g3.trans g1;obtain⟨x',e1,l1⟩:=l _ _ _ h1;obtain⟨y',e2,l2⟩:=l _ _ _ h2;obtain⟨z,e3,l3⟩:=zW e1 e2;obtain⟨z',e4,l4⟩:=(g2.trans g4) _ _ _ e3;exact⟨z',e4,by omega⟩
def Up (L:bj ν)(M:List ν)(f:cO ν):Prop:=∀u v ms s,Pth L u ms v s->ms.Nodup->(∀x∈ms,x∈M)->∃y,f u v=some y/\y<=s
theorem Pth.ends {L:bj ν}{P:List ν}(hL:∀x∈L,x.1∈P/\x.2.1∈P){u v:ν}{ms:List ν}{s:Int}(h:Pth L u ms v s):u∈P/\v∈P/\∀x∈ms,x∈P:=by
 induction h with
 | one e=>exact⟨(hL _ e).1,(hL _ e).2,by simp⟩
 | cons e _ ih=>exact⟨(hL _ e).1,ih.2.1,λx hx=>by
   rcases Jp.mp hx with rfl | hx
   ·exact ih.1
   ·exact ih.2.2 x hx⟩
theorem Up.mid {L:bj ν}{P M:List ν}{f:cO ν}(hL:∀x∈L,x.1∈P/\x.2.1∈P)(h:Up L M f)(k:ν):Up L (k::M) (oV k P P f):=λu v ms s hp hn hm=>by
 by_cases hk:k∈ms
 ·obtain⟨p,q,rfl⟩:=P3 hk
  obtain⟨s1,s2,h1,h2,h3⟩:=hp.cut;rw[Kp]at hn;obtain⟨n1,n2,n3⟩:=hn;rw[JX]at n2
  have hp':∀x∈p,x∈M:=λx hx=>by
   rcases Jp.mp (hm x (J2 _ hx))with rfl | z
   ·exact absurd rfl (n3 x hx x Jj)
   ·exact z
  have hq':∀x∈q,x∈M:=λx hx=>by
   rcases Jp.mp (hm x (JD _ (Jh _ hx)))with rfl | z
   ·exact absurd hx n2.1
   ·exact z
  obtain⟨y1,e1,l1⟩:=h u k p s1 h1 n1 hp';obtain⟨y2,e2,l2⟩:=h k v q s2 h2 n2.2 hq';obtain⟨z,e3,l3⟩:=z0 (P:=P) (h1.ends hL).1 (h2.ends hL).2.1 e1 e2;exact⟨z,e3,by omega⟩
 ·obtain⟨y,e,l⟩:=h u v ms s hp hn λx hx=>by
   rcases Jp.mp (hm x hx)with rfl | z
   ·exact absurd hx hk
   ·exact z
  obtain⟨z,e2,l2⟩:=tj k P P f u v y e;exact⟨z,e2,by omega⟩
theorem Up.IV {L:bj ν}{P:List ν}(hL:∀x∈L,x.1∈P/\x.2.1∈P):∀(Q M:List ν) (f:cO ν),Up L M f->∃M',(∀x,x∈Q\/x∈M->x∈M')/\Up L M' (vR Q P f)
 | [],M,f,h=>⟨M,λx hx=>hx.elim (λz=>by simp at z) id,h⟩
 | k::Q,M,f,h=>by
  obtain⟨M',h1,h2⟩:=Up.IV hL Q (k::M) (oV k P P f) (h.mid hL k);refine⟨M',λx hx=>h1 x ?_,h2⟩
  rcases hx with hx | hx
  ·rcases Jp.mp hx with rfl | hx
   ·exact .inr Jj
   ·exact .inl hx
  ·exact .inr (Jh _ hx)
theorem A3 {P:List ν}{L:bj ν}:Up L [] (A4 P L):=λu v ms s hp hn hm=>by
 have:ms= []:=by
  cases ms with
  | nil=>rfl
  | cons x r=>exact absurd (hm x Jj) (by simp)
 subst this
 cases hp with
 | one e=>
  obtain⟨g,h1,h2⟩:=lA (λ(f:cO ν) (x:ν×ν×Int)=>qG f x.1 x.2.1 x.2.2) (λf x=>qF f _ _ _) L (wt P) _ e
  obtain⟨y,e1,l1⟩:=vV g u v s;obtain⟨z,e2,l2⟩:=h2 u v y e1;exact⟨z,e2,by omega⟩
theorem fz {α:Type}{L:bj ν}(step:cO ν->α->cO ν):∀(l:List α) (f:cO ν),(∀f,∀a∈l,(∀u v y,f u v=some y->Wk L u v y)->∀u v y,step f a u v=some y->Wk L u v y)->(∀u v y,f u v=some y->Wk L u v y)->∀u v y,l.foldl step f u v=some y->Wk L u v y
 | [],f,_,h=>h
 | a::l,f,hs,h=>fz step l (step f a) (λf b hb=>hs f b (Jh _ hb)) (hs f a Jj h)
theorem kM (P:List ν)(L:bj ν):∀u v y,table P L u v=some y->Wk L u v y:=by
 unfold table vR;refine fz _ P _ (λf m _ h=> ?_) ?_
 ·unfold oV
  refine fz _ P _ (λf o _ h=> ?_) h
  unfold lz;refine fz _ P _ (λf v _ h=> ?_) h
  unfold mJ
  cases e1:f o m with
  | none=>exact h
  | some x=>
   cases e2:f m v with
   | none=>exact h
   | some y=>exact mM h ((h _ _ _ e1).app (h _ _ _ e2))
 ·unfold A4
  refine fz _ L _ (λf x hx h=>mM h (.one hx)) λu v y e=> ?_
  unfold wt at e
  split at e
  ·rename_i z;obtain⟨_,rfl⟩:=z;cases e;exact .nil u
  ·cases e
theorem rp {P:List ν}{L:bj ν}(hL:∀x∈L,x.1∈P/\x.2.1∈P):∀u v ms s,Pth L u ms v s->ms.Nodup->∃y,table P L u v=some y/\y<=s:=λu v ms s hp hn=>by
 obtain⟨M',h1,h2⟩:=Up.IV hL P [] (A4 P L) A3;exact h2 u v ms s hp hn λx hx=>h1 x (.inl ((hp.ends hL).2.2 x hx))
theorem tR {P:List ν}{L:bj ν}{u:ν}(hu:u∈P):∃y,table P L u u=some y/\y<=0:=by
 have h0:wt P u u=some 0:=by unfold wt;rw[if_pos ⟨hu,rfl⟩]
 have h1:Le (table P L) (wt P):=(z6 P P _).trans (iO _ (λf x=>qF f _ _ _) L _)
 exact h1 u u 0 h0
structure cG (L:bj ν)(P:List ν)(f:cO ν):Prop where
 is:∀u v d,f u v=some d->Wk L u v d
 le:∀u∈P,∀v t,Wk L u v t->∃d,f u v=some d/\d<=t
theorem wq {P:List ν}{L:bj ν}{u:ν}{y:Int}(h:table P L u u=some y)(hy:y<0):¬ NoNeg L:=λn=>by
 have:=n u y (kM P L u u y h);omega
theorem rq {P:List ν}{L:bj ν}(hL:∀x∈L,x.1∈P/\x.2.1∈P)(h:∀u∈P,∀y,table P L u u=some y->0<=y):NoNeg L/\cG L P (table P L):=by
 have nc:¬ AG L:=λ⟨x,ms,s,hp,hn,_,hs⟩=>by
  obtain⟨y,e,l⟩:=rp hL x x ms s hp hn
  have:=h x (hp.ends hL).1 y e;omega
 have le:∀u∈P,∀v t,Wk L u v t->∃d,table P L u v=some d/\d<=t:=λu hu v t w=>by
  rcases w.simple with z | ⟨s',hs,z⟩
  ·exact absurd z nc
  ·rcases z with⟨rfl,rfl⟩ | ⟨_,ms,hp,hn,_⟩
   ·obtain⟨y,e,l⟩:=tR (L:=L) hu
    exact⟨y,e,by omega⟩
   ·obtain⟨y,e,l⟩:=rp hL u v ms s' hp hn
    exact⟨y,e,by omega⟩
 refine⟨λa s w=> ?_,λu v d e=>kM P L u v d e,le⟩
 by_cases ha:a∈P
 ·obtain⟨d,e,l⟩:=le a ha a s w
  have:=h a ha d e;omega
 ·cases w with
  | nil=>exact KC _
  | step e _=>exact absurd (hL _ e).1 ha
end Gr
namespace G
open PySem Tr
def Hr:T->Bool
 | .int _=>true
 | _=>false
theorem vX (t:T)(h:t.pl=true):dX [t] = .ok (.bl (Hr t)):=by
 cases t <;> first | rfl | (simp[T.pl]at h;done)
def a9 (t:T)(a b:Int):Bool:=match t with
 | .int i=>decide (a<=i)&&decide (i<=b)
 | _=>false
theorem fB (t:T)(a b:Int)(h:t.pl=true):aQ [t,.int a,.int b] = .ok (.bl (a9 t a b)):=by
 have w:=vX t h
 cases t with
 | int i=>
  simp[aQ,val,bw,ix,aK,aG,bM,vr,ch,cl,ae,ah,tH,a9,w,Hr]
  cases decide (a<=i) <;> rfl
 | scr _=>simp[T.pl]at h
 | dct _ _=>simp[T.pl]at h
 | _=>simp[aQ,val,bw,ix,aK,aG,bM,vr,ch,cl,ae,ah,a9,w,Hr]
def dw (t:T)(a b:Nat):Bool:=match t with
 | .tup l=>decide (a<=l.length)&&decide (l.length<=b)
 | _=>false
theorem io (t:T)(a b:Nat)(h:t.pl=true):aI [t,.int a,.int b] = .ok (.bl (dw t a b)):=by
 cases t with
 | tup l=>
  simp[aI,val,bw,pq,aK,aG,bM,o1,vr,Cf,T.ty,vO,ch,cl,ae,ah,cU,T.items,tH,dw]
  cases decide (a<=l.length) <;> rfl
 | scr _=>simp[T.pl]at h
 | dct _ _=>simp[T.pl]at h
 | _=>rfl
def nE (x y:T):Bool:=a9 x 1 9&&(match x with
 | .int i=>a9 y i 9
 | _=>false)
theorem Ff (x y:T)(hx:x.pl=true)(hy:y.pl=true):eV [x,y] = .ok (.bl (nE x y)):=by
 have w:=fB x 1 9 hx;unfold nE
 cases q:a9 x 1 9 with
 | false=>rw[q]at w;simp[eV,val,bw,kK,aK,aG,bM,vr,cn,cl,ae,ah,w]
 | true=>
  rw[q]at w
  cases x with
  | int i=>simp[eV,val,bw,kK,aK,aG,bM,vr,cn,cl,ae,ah,w,fB y i 9 hy]
  | _=>cases q
def m9:List Int->Bool
 | a::b::r=>decide (a<b)&&m9 (b::r)
 | _=>true
theorem FZ (a b:Int)(r:List Int):m9 (a::b::r)=(decide (a<b)&&m9 (b::r)):=rfl
theorem mZ {fe:En->Rs T}{p:T->Bool}{l:List T}{fi:En->Rs (List T)}{src:List (Option Nat)}{Z:En}(hi:fi Z= .ok l)(hs:l.length<=sizeLine)(hn:0<src.length)(hf:∀t∈l,fe ((df src Z).set 0 (.va t))= .ok (.bl (p t))) :
  cl m5 (ae (fH fi src (gN 0) bT fe) ah) Z= .ok (.bl (l.all p)):=by
 have e:=ur (fe:=fe) (h:=λt=>T.bl (p t)) l (df src Z) (by unfold df;rw[Jm];exact hn) hf
 simp only[cl,ae,ah,fH,hi,aE,if_pos hs,e,all_map]
def kA (l:List T):T->Bool
 | .int k=>match L2.atI l k,L2.atI l (k+1)with
  | some (.int a),some (.int b)=>decide (a<b)
  | _,_=>false
 | _=>false
theorem jM {t:T}{j:Int}(h:t∈rng 0 j):∃k:Nat,t= .int k/\(k:Int)<j:=by
 unfold rng at h;obtain⟨k,hk,e⟩:=JH.mp h;rw[KY]at hk;exact⟨k,by rw[<-e];simp,by omega⟩
theorem Dy:(l:List Int)->l.length<=4->(rng 0 ((l.length:Int) - 1)).all (kA (l.map .int))=m9 l
 | [],_=>rfl
 | [a],_=>rfl
 | [a,b],_=>by simp[rng,OQ,kA,L2.atI,L2.ixN,m9]
 | [a,b,c],_=>by simp[rng,OQ,kA,L2.atI,L2.ixN,m9]
 | [a,b,c,d],_=>by simp[rng,OQ,kA,L2.atI,L2.ixN,m9,Bool.and_assoc]
 | a::b::c::d::e::r,h=>absurd h (by simp only[Jq];omega)
theorem Cm (l:List Int)(h:l.length<=4):iJ [.tup (l.map .int)] = .ok (.bl (m9 l)):=by
 have hr:iR (ae (o2 gV (cl cU (ae (vr 0) ah)) (cn (.int 1))) ah) [.va (.tup (l.map .int))] = .ok (rng 0 ((l.length:Int) - 1)):=by
  have:AK ((l.length:Int) - 1)=true:=by unfold AK;rw[Jo];exact⟨decide_eq_true (by omega),decide_eq_true (by omega)⟩
  simp[iR,ae,ah,o2,cl,vr,cn,cU,T.items,gV,this]
 have hs:(rng 0 ((l.length:Int) - 1)).length<=sizeLine:=by
  unfold rng sizeLine;rw[Jm,Lm];omega
 have e:=mZ (fe:=o2 wU (o2 aO (vr 1) (vr 0)) (o2 aO (vr 1) (o2 aS (vr 0) (cn (.int 1))))) (p:=kA (l.map .int)) (src:=[none,some 0]) hr hs (by decide) (λt ht=>by
  obtain⟨k,rfl,hk⟩:=jM ht
  have h1:(l.map T.int)[k]? =some (.int (l[k]'(by omega))):=by simp
  have h2:(l.map T.int)[k+1]? =some (.int (l[k+1]'(by omega))):=by rw[JG,Jx (by omega)];rfl
  have g1:=jv h1
  have g2:L2.atI (l.map T.int) ((k:Int)+1)=some (.int (l[k+1]'(by omega))):=jv h2
  simp[o2,vr,df,cn,aS,aO,T.items,g1,g2,tH,kA])
 rw[Dy l h]at e;simp only[iJ,val,K4,if_true,wg,bw,aG,aK]
 show(do let f <-(do let t <-cl m5 _ [.va (.tup (l.map .int))];Rs.ok (Fl.rt t));_)=_
 rw[e]
 rfl
def nums:List T->Option (List Int)
 | [] =>some []
 | .int i::l=>match nums l with
  | some m=>some (i::m)
  | none=>none
 | _::_=>none
def cN (t:T):Bool:=dw t 1 4&&(match t with
 | .tup l=>l.all (λu=>a9 u 0 99)&&(match nums l with | some m=>m9 m | none=>false)
 | _=>false)
theorem mf:∀{l:List T} {m:List Int},nums l=some m->l=m.map .int
 | [],m,h=>by cases h;rfl
 | t::l,m,h=>by
  cases t with
  | int i=>
   unfold nums at h
   cases q:nums l with
   | none=>rw[q]at h;cases h
   | some m'=>rw[q]at h;cases h;rw[Jn,<-mf q]
  | _=>cases h
theorem qe:∀{l:List T} {a b:Int},(l.all λu=>a9 u a b)=true->∃m,nums l=some m
 | [],_,_,_=>⟨[],rfl⟩
 | t::l,a,b,h=>by
  rw[Ob,Jo]at h
  cases t with
  | int i=>
   obtain⟨m,e⟩:=qe h.2
   exact⟨i::m,by unfold nums;rw[e]⟩
  | _=>exact absurd h.1 (by simp[a9])
theorem cF {t:T}{a b:Nat}(h:dw t a b=true):∃l,t= .tup l/\a<=l.length/\l.length<=b:=by
 cases t with
 | tup l=>unfold dw at h;rw[Jo]at h;exact⟨l,rfl,of_decide_eq_true h.1,of_decide_eq_true h.2⟩
 | _=>cases h
theorem small {n k:Nat}(h:n<=k)(hk:k<=1000:=by decide):n<=sizeLine:=by unfold sizeLine;omega
theorem uD (t:T)(h:t.pl=true):bD [t] = .ok (.bl (cN t)):=by
 have w:aI [t,.int 1,.int 4] = .ok (.bl (dw t 1 4)):=io t 1 4 h;unfold cN
 cases q:dw t 1 4 with
 | false=>rw[q]at w;simp[bD,val,bw,dO,aK,ay,eO,c6,tb,sN,aG,cl,vr,cn,ae,ah,w]
 | true=>
  rw[q]at w;obtain⟨l,rfl,h1,h2⟩:=cF q
  have hp:∀u∈l,u.pl=true:=λu hu=>jN (by unfold T.pl at h;exact h) hu
  have e:=mZ (fe:=cl aQ (ae (vr 0) (ae (cn (.int 0)) (ae (cn (.int 99)) ah)))) (p:=λu=>a9 u 0 99) (src:=[none]) (fi:=iS (vr 0)) (Z:=[.va (.tup l)]) rfl (small h2) (by decide) (λu hu=>by
   simp[cl,ae,ah,vr,cn,df,fB u 0 99 (hp u hu)])
  have w':cl aI (ae (vr 0) (ae (cn (.int 1)) (ae (cn (.int 4)) ah))) [.va (.tup l)] = .ok (.bl true):=w
  show bD _= .ok (.bl (true&&(l.all (λu=>a9 u 0 99)&&(match nums l with | some m=>m9 m | none=>false))))
  cases qa:l.all λu=>a9 u 0 99 with
  | false=>
   rw[qa]at e
   simp[bD,val,bw,dO,aK,ay,eO,c6,tb,sN,aG,bM,e,w']
  | true=>
   rw[qa]at e;obtain⟨m,em⟩:=qe qa
   have el:=mf em
   have er:=Cm m (by rw[el,Jm]at h2;exact h2)
   rw[<-el]at er
   have er':cl iJ (ae (vr 0) ah) [.va (.tup l)] = .ok (.bl (m9 m)):=er;simp[bD,val,bw,dO,aK,ay,eO,c6,tb,sN,aG,bM,e,w',er',em]
def at_ (t:T)(k:Nat):T:=match t.items with
 | some l=>l.getD k .non
 | none=> .non
def bz (t:T):Bool:=dw t 3 3&&(match t with
 | .tup [x,y,r] =>nE x y&&cN r
 | _=>false)
theorem Cp (t:T)(h:t.pl=true):cR [t] = .ok (.bl (bz t)):=by
 have w:aI [t,.int 3,.int 3] = .ok (.bl (dw t 3 3)):=io t 3 3 h;unfold bz
 cases q:dw t 3 3 with
 | false=>rw[q]at w;simp[cR,val,bw,gG,aK,aG,bM,cl,vr,cn,ae,ah,w]
 | true=>
  rw[q]at w;obtain⟨l,rfl,h1,h2⟩:=cF q
  match l,h1,h2 with
  | [x,y,r],_,_=>
   simp[T.pl,plS]at h;obtain⟨px,py,pr⟩:=h
   have g0:aO (.tup [x,y,r]) (.int 0)= .ok x:=rfl
   have g1:aO (.tup [x,y,r]) (.int 1)= .ok y:=rfl
   have g2:aO (.tup [x,y,r]) (.int 2)= .ok r:=rfl
   have ep:=Ff x y px py
   have er:=uD r pr
   cases qp:nE x y with
   | false=>rw[qp]at ep;simp[cR,val,bw,gG,aK,aG,bM,cl,vr,cn,ae,ah,o2,w,g0,g1,ep,qp]
   | true=>rw[qp]at ep;simp[cR,val,bw,gG,aK,aG,bM,cl,vr,cn,ae,ah,o2,w,g0,g1,g2,ep,er,qp]
def aX (t:T):Bool:=dw t 1 4&&(match t with
 | .tup l=>l.all bz
 | _=>false)
theorem Al (t:T)(h:t.pl=true):c8 [t] = .ok (.bl (aX t)):=by
 have w:aI [t,.int 1,.int 4] = .ok (.bl (dw t 1 4)):=io t 1 4 h;unfold aX
 cases q:dw t 1 4 with
 | false=>rw[q]at w;simp[c8,val,bw,gI,aK,aG,bM,cl,vr,cn,ae,ah,w]
 | true=>
  rw[q]at w;obtain⟨l,rfl,h1,h2⟩:=cF q
  have hp:∀u∈l,u.pl=true:=λu hu=>jN (by unfold T.pl at h;exact h) hu
  have e:=mZ (fe:=cl cR (ae (vr 0) ah)) (p:=bz) (src:=[none]) (fi:=iS (vr 0)) (Z:=[.va (.tup l)]) rfl (small h2) (by decide) (λu hu=>by
   simp[cl,ae,ah,vr,cn,df,Cp u (hp u hu)])
  have w':cl aI (ae (vr 0) (ae (cn (.int 1)) (ae (cn (.int 4)) ah))) [.va (.tup l)] = .ok (.bl true):=w;simp[c8,val,bw,gI,aK,aG,bM,e,w']
def d6 (x y:T):Bool:=a9 x 0 999&&(match x,y with
 | _,.non=>true
 | .int i,_=>a9 y i 999
 | _,_=>false)
theorem Co (x y:T)(hx:x.pl=true)(hy:y.pl=true):dv [x,y] = .ok (.bl (d6 x y)):=by
 have w:=fB x 0 999 hx;unfold d6
 cases q:a9 x 0 999 with
 | false=>rw[q]at w;simp[dv,val,bw,gF,aK,aG,bM,vr,cn,cl,ae,ah,w]
 | true=>
  rw[q]at w
  cases x with
  | int i=>
   have e:=fB y i 999 hy
   cases y with
   | non=>simp[dv,val,bw,gF,aK,aG,bM,wJ,vr,cn,cl,ae,ah,o2,fx,T.isN,w]
   | _=>simp[dv,val,bw,gF,aK,aG,bM,wJ,vr,cn,cl,ae,ah,o2,fx,T.isN,w,e]
  | _=>cases q
def reads (cs:List T)(c:Int):Nat:=if 0<=c then(match cs[c.toNat]? with
 | some (.tup [_,_,.tup r])=>r.length
 | _=>0)else 0
def aT (cs:List T)(t:T):Bool:=match t with
 | .tup [.int c,.int k] =>decide (0<=c)&&decide (c<cs.length)&&(decide (0<=k)&&decide (k<reads cs c))
 | _=>false
theorem kY {t:T}(h:bz t=true):∃x y r,t= .tup [x,y,.tup r]:=by
 unfold bz at h;rw[Jo]at h;obtain⟨h1,h2⟩:=h;obtain⟨l,rfl,h3,h4⟩:=cF h1
 match l,h3,h4,h2 with
 | [x,y,r],_,_,h2=>
  simp only[Jo]at h2;obtain⟨_,h5⟩:=h2;unfold cN at h5;rw[Jo]at h5;obtain⟨m,rfl,_⟩:=cF h5.1;exact⟨x,y,m,rfl⟩
theorem du {t:T}{a b:Int}(h:a9 t a b=true):∃i,t= .int i/\a<=i/\i<=b:=by
 cases t with
 | int i=>unfold a9 at h;rw[Jo]at h;exact⟨i,rfl,of_decide_eq_true h.1,of_decide_eq_true h.2⟩
 | _=>cases h
theorem qJ (cs:List T)(t:T)(hc:aX (.tup cs)=true)(h:t.pl=true):ci [.tup cs,t] = .ok (.bl (aT cs t)):=by
 have w:aI [t,.int 2,.int 2] = .ok (.bl (dw t 2 2)):=io t 2 2 h
 cases q:dw t 2 2 with
 | false=>
  rw[q]at w
  have:aT cs t=false:=by
   unfold aT;split
   ·cases q
   ·rfl
  simp[ci,val,bw,gE,aK,ay,eO,nF,c6,tb,sN,aG,cl,vr,cn,ae,ah,w,this]
 | true=>
  rw[q]at w;obtain⟨l,rfl,h1,h2⟩:=cF q
  match l,h1,h2 with
  | [x,y],_,_=>
   simp[T.pl,plS]at h;obtain⟨px,py⟩:=h
   have g0:aO (.tup [x,y]) (.int 0)= .ok x:=rfl
   have g1:aO (.tup [x,y]) (.int 1)= .ok y:=rfl
   have gl:cU [.tup cs] = .ok (.int cs.length):=rfl
   have e1:=fB x 0 ((cs.length:Int) - 1) px
   cases q1:a9 x 0 ((cs.length:Int) - 1)with
   | false=>
    rw[q1]at e1
    have:aT cs (.tup [x,y])=false:=by
     cases x with
     | int c=>
      cases y with
      | int k=>
       simp only[a9,OR,decide_eq_false_iff_not]at q1;simp only[aT,OR,decide_eq_false_iff_not]
       omega
      | _=>rfl
     | _=>rfl
    simp[ci,val,bw,gE,aK,ay,eO,nF,c6,tb,sN,aG,cl,vr,cn,ae,ah,o2,gV,w,g0,gl,e1,this]
   | true=>
    rw[q1]at e1;obtain⟨c,rfl,c1,c2⟩:=du q1;obtain⟨n,rfl⟩:=Kb c1
    have hn:n<cs.length:=by omega
    have hcl:bz cs[n] =true:=by
     unfold aX at hc;rw[Jo]at hc;exact JL.mp hc.2 _ (Lg hn)
    obtain⟨a,b,r,er⟩:=kY hcl
    have g2:aO (.tup cs) (.int (n:Int))= .ok (.tup [a,b,.tup r]):=by
     simp only[aO,T.items];rw[jv (Jx hn),er]
    have g3:aO (.tup [a,b,.tup r]) (.int 2)= .ok (.tup r):=rfl
    have gr:cU [.tup r] = .ok (.int r.length):=rfl
    have e2:=fB y 0 ((r.length:Int) - 1) py
    have:aT cs (.tup [.int n,y])=a9 y 0 ((r.length:Int) - 1):=by
     have er2:reads cs (n:Int)=r.length:=by
      unfold reads;rw[if_pos c1,Ko,Jx hn,er]
     cases y with
     | int k=>
      simp only[aT,a9,er2];rw[decide_eq_true c1,decide_eq_true (show(n:Int)<cs.length by omega)]
      simp only[Ni]
      congr 1
      exact decide_eq_decide.mpr (by omega)
     | _=>rfl
    simp[ci,val,bw,gE,aK,ay,eO,nF,c6,tb,sN,aG,cl,vr,cn,ae,ah,o2,gV,w,g0,g1,g2,g3,gl,gr,e1,e2,this]
def bL (cs:List T)(t:T):Bool:=match t with
 | .tup [a,b,x,y] =>d6 x y&&(aT cs a&&(aT cs b&& !aR a b))
 | _=>false
theorem eh {cs:List T}{t:T}(h:aT cs t=true):∃c k:Int,t= .tup [.int c,.int k]:=by
 unfold aT at h
 split at h
 ·exact⟨_,_,rfl⟩
 ·cases h
theorem Ai (cs:List T)(t:T)(hc:aX (.tup cs)=true)(h:t.pl=true):bQ [.tup cs,t] = .ok (.bl (bL cs t)):=by
 have w:aI [t,.int 4,.int 4] = .ok (.bl (dw t 4 4)):=io t 4 4 h
 cases q:dw t 4 4 with
 | false=>
  rw[q]at w
  have:bL cs t=false:=by
   unfold bL;split
   ·cases q
   ·rfl
  simp[bQ,val,bw,dE,aK,ay,eO,nF,c6,tb,sN,aG,cl,vr,cn,ae,ah,w,this]
 | true=>
  rw[q]at w;obtain⟨l,rfl,h1,h2⟩:=cF q
  match l,h1,h2 with
  | [a,b,x,y],_,_=>
   simp[T.pl,plS]at h;obtain⟨pa,pb,px,py⟩:=h
   have g0:aO (.tup [a,b,x,y]) (.int 0)= .ok a:=rfl
   have g1:aO (.tup [a,b,x,y]) (.int 1)= .ok b:=rfl
   have g2:aO (.tup [a,b,x,y]) (.int 2)= .ok x:=rfl
   have g3:aO (.tup [a,b,x,y]) (.int 3)= .ok y:=rfl
   have e1:=Co x y px py
   have e2:=qJ cs a hc pa
   have e3:=qJ cs b hc pb
   show _=Rs.ok (T.bl (d6 x y&&(aT cs a&&(aT cs b&& !aR a b))))
   cases q1:d6 x y with
   | false=>
    rw[q1]at e1
    simp[bQ,val,bw,dE,aK,ay,eO,nF,c6,tb,sN,aG,cl,vr,cn,ae,ah,o2,w,g2,g3,e1]
   | true=>
    rw[q1]at e1
    cases q2:aT cs a with
    | false=>
     rw[q2]at e2
     simp[bQ,val,bw,dE,aK,ay,eO,nF,c6,tb,sN,aG,bM,cl,vr,cn,ae,ah,o2,w,g0,g2,g3,e1,e2]
    | true=>
     rw[q2]at e2
     cases q3:aT cs b with
     | false=>
      rw[q3]at e3
      simp[bQ,val,bw,dE,aK,ay,eO,nF,c6,tb,sN,aG,bM,cl,vr,cn,ae,ah,o2,w,g0,g1,g2,g3,e1,e2,e3]
     | true=>
      rw[q3]at e3;obtain⟨c,k,rfl⟩:=eh q2
      have f:fA (.tup [.int c,.int k]) b=true:=gi (by simp[T.dep,deps]) rfl (T.HS _ pb)
      have g4:vj (.tup [.int c,.int k]) b= .ok (.bl (!aR (.tup [.int c,.int k]) b)):=by unfold vj;rw[if_pos f]
      simp[bQ,val,bw,dE,aK,ay,eO,nF,c6,tb,sN,aG,bM,cl,vr,cn,ae,ah,o2,w,g0,g1,g2,g3,g4,e1,e2,e3]
def iN (cs:List T)(t:T):Bool:=dw t 0 8&&(match t with
 | .tup l=>l.all (bL cs)
 | _=>false)
theorem xk (cs:List T)(t:T)(hc:aX (.tup cs)=true)(h:t.pl=true):cI [.tup cs,t] = .ok (.bl (iN cs t)):=by
 have w:aI [t,.int 0,.int 8] = .ok (.bl (dw t 0 8)):=io t 0 8 h;unfold iN
 cases q:dw t 0 8 with
 | false=>rw[q]at w;simp[cI,val,bw,fW,aK,aG,bM,cl,vr,cn,ae,ah,w]
 | true=>
  rw[q]at w;obtain⟨l,rfl,h1,h2⟩:=cF q
  have hp:∀u∈l,u.pl=true:=λu hu=>jN (by unfold T.pl at h;exact h) hu
  have e:=mZ (fe:=cl bQ (ae (vr 1) (ae (vr 0) ah))) (p:=bL cs) (src:=[none,some 0]) (fi:=iS (vr 1)) (Z:=[.va (.tup cs),.va (.tup l)]) rfl (small h2) (by decide) (λu hu=>by
   simp[cl,ae,ah,vr,cn,df,Ai cs u hc (hp u hu)])
  have w':cl aI (ae (vr 1) (ae (cn (.int 0)) (ae (cn (.int 8)) ah))) [.va (.tup cs),.va (.tup l)] = .ok (.bl true):=w;simp[cI,val,bw,fW,aK,aG,bM,e,w']
def kW (t:T):Bool:=match t with
 | .tup [.tup cs,ls] =>aX (.tup cs)&&iN cs ls
 | _=>false
theorem Ag (t:T)(h:t.pl=true):cQ [t] = .ok (.bl (kW t)):=by
 have w:aI [t,.int 2,.int 2] = .ok (.bl (dw t 2 2)):=io t 2 2 h
 cases q:dw t 2 2 with
 | false=>
  rw[q]at w
  have:kW t=false:=by
   unfold kW;split
   ·cases q
   ·rfl
  simp[cQ,val,bw,fN,aK,aG,bM,cl,vr,cn,ae,ah,w,this]
 | true=>
  rw[q]at w;obtain⟨l,rfl,h1,h2⟩:=cF q
  match l,h1,h2 with
  | [x,y],_,_=>
   simp[T.pl,plS]at h;obtain⟨px,py⟩:=h
   have g0:aO (.tup [x,y]) (.int 0)= .ok x:=rfl
   have g1:aO (.tup [x,y]) (.int 1)= .ok y:=rfl
   have e1:=Al x px
   cases q1:aX x with
   | false=>
    rw[q1]at e1
    have:kW (.tup [x,y])=false:=by
     cases x with
     | tup cs=>show(aX (.tup cs)&&_)=false;rw[q1];rfl
     | _=>rfl
    simp[cQ,val,bw,fN,aK,aG,bM,cl,vr,cn,ae,ah,o2,w,g0,e1,this]
   | true=>
    rw[q1]at e1
    cases x with
    | tup cs=>
     have e2:=xk cs y q1 py
     have:kW (.tup [.tup cs,y])=iN cs y:=by show(aX (.tup cs)&&_)=_;rw[q1];rfl
     simp[cQ,val,bw,fN,aK,aG,bM,cl,vr,cn,ae,ah,o2,w,g0,g1,e1,e2,this]
    | _=>cases q1
theorem eX:∀m:List Int,deps (m.map .int)=0
 | [] =>rfl
 | a::m=>by rw[Jn,deps,eX m];rfl
def jZ (i n:Nat):List T:=(rng 0 n).map λt=>T.tup [.int i,t]
def DB:T->Nat
 | .tup [_,_,.tup r] =>r.length
 | _=>0
def dS:Nat->List T->List T
 | _,[] => []
 | i,c::r=>jZ i (DB c)++dS (i+1) r
theorem et {t:T}(h:bz t=true):∃x y r,t= .tup [x,y,.tup r]/\1<=r.length/\r.length<=4:=by
 obtain⟨x,y,r,rfl⟩:=kY h
 have:cN (.tup r)=true:=by
  have h':(nE x y&&cN (.tup r))=true:=h;rw[Jo]at h';exact h'.2
 unfold cN at this;rw[Jo]at this;obtain⟨l,e,h1,h2⟩:=cF this.1;cases e;exact⟨x,y,r,rfl,h1,h2⟩
theorem gj (i n:Nat):(jZ i n).length=n:=by unfold jZ;rw[Jm,iF]
abbrev evF:En->Rs Fl:=cv (o2 aS (vr 1) (fH (iR (ae (cl cU (ae (o2 aO (vr 3) (cn (.int 2))) ah)) ah)) [none,some 2] (gN 0) bT (bK (ae (vr 1) (ae (vr 0) ah))))) (gN 1)
abbrev evG:T->En->Rs En:=gT 2 (gW (gN 2) (gW (gN 3) oU))
theorem E7 {f:En->Rs (List T)}{Z:En}{j:Int}(h:f Z= .ok [.int j])(h0:0<=j)(h1:j<=100000):iR f Z= .ok (rng 0 j):=by
 have e:AK j=true:=by unfold AK;rw[Jo];exact⟨decide_eq_true (by omega),decide_eq_true (by omega)⟩
 unfold iR;rw[h]
 show(if AK j=true then _ else _)=_
 rw[e];rfl
theorem lF (l m:List T)(h:(l++m).length<=1000):aS (.lst l) (.lst m)= .ok (.lst (l++m)):=by
 show jf (l++m)=_
 unfold jf;rw[if_pos (aC h)]
theorem CC (l m:List T)(h:(l++m).length<=1000):aS (.tup l) (.tup m)= .ok (.tup (l++m)):=by
 show je (l++m)=_
 unfold je;rw[if_pos (aC h)]
theorem G1 (c0 acc x y:T)(r:List T)(i:Nat)(h:r.length<=4) :
  fH (iR (ae (cl cU (ae (o2 aO (vr 3) (cn (.int 2))) ah)) ah)) [none,some 2] (gN 0) bT (bK (ae (vr 1) (ae (vr 0) ah))) [.va c0,.va acc,.va (.int i),.va (.tup [x,y,.tup r])] = .ok (.lst (jZ i r.length)):=
 n4 (E7 (j:=(r.length:Int)) rfl (by omega) (by omega)) (aC (k:=4) (by rw[iF];exact h)) (by simp) λt _=>mk2 _ _
theorem Ci (c0 x y:T)(acc r:List T)(i:Nat)(h:r.length<=4)(ha:acc.length<=100):evF [.va c0,.va (.lst acc),.va (.int i),.va (.tup [x,y,.tup r])] = .ok (.nx [.va c0,.va (.lst (acc++jZ i r.length)),.va (.int i),.va (.tup [x,y,.tup r])]):=
 bq (aA (t:=.lst acc) rfl (G1 c0 (.lst acc) x y r i h) (lF _ _ (by rw[Ju,gj];omega))) rfl
theorem vW:∀(cs:List T) (c0:T) (acc:List T) (i:Nat) (s2 s3:Sl),(∀c∈cs,bz c=true)->acc.length+4*cs.length<=100 →
  ∃y2 y3,bh evG evF (br i cs) [.va c0,.va (.lst acc),s2,s3] = .ok (.nx [.va c0,.va (.lst (acc++dS i cs)),y2,y3])
 | [],c0,acc,i,s2,s3,_,_=>⟨s2,s3,by simp[br,bh,dS]⟩
 | c::cs,c0,acc,i,s2,s3,hc,hl=>by
  obtain⟨x,y,r,rfl,r1,r2⟩:=et (hc c Jj);rw[Jq]at hl;obtain⟨z2,z3,ih⟩:=vW cs c0 (acc++jZ i r.length) (i+1) (.va (.int i)) (.va (.tup [x,y,.tup r])) (λc h=>hc c (Jh _ h)) (by rw[Ju,gj];omega)
  refine⟨z2,z3,?_⟩
  rw[br,dY (Z1:=[.va c0,.va (.lst acc),.va (.int i),.va (.tup [x,y,.tup r])]) rfl (Ci c0 x y acc r i r2 (by omega)),ih,dS,JV]
  rfl
theorem cW {cs:List T}(hc:aX (.tup cs)=true):(∀c∈cs,bz c=true)/\1<=cs.length/\cs.length<=4:=by
 unfold aX at hc;rw[Jo]at hc;obtain⟨l,e,h1,h2⟩:=cF hc.1;cases e;exact⟨λc h=>JL.mp hc.2 c h,h1,h2⟩
theorem Aj (cs:List T)(hc:aX (.tup cs)=true):dm [.tup cs] = .ok (.lst (dS 0 cs)):=by
 obtain⟨ha,h1,h2⟩:=cW hc;obtain⟨y2,y3,e⟩:=vW cs (.tup cs) [] 0 .em .em ha (by simp;omega)
 rw[LO]at e;refine bc rfl ?_
 unfold jk;rw[ar (Z':=[.va (.tup cs),.va (.lst []),.em,.em]) rfl,ar ((gh (ts:=br 0 cs) rfl e))]
 rfl
theorem B2 {n k:Nat}(h:k<n):T.int (k:Int)∈rng 0 (n:Int):=by
 unfold rng;exact JH.mpr ⟨k,KY.mpr (by omega),by simp⟩
theorem oA (cs:List T)(c:Nat):reads cs (c:Int)=DB (cs.getD c .non):=by
 unfold reads;rw[if_pos (by omega),Ko,List.getD_eq_getElem?_getD]
 cases cs[c]? with
 | none=>rfl
 | some t=>
  cases t with
  | tup l=>
   match l with
   | [] =>rfl
   | [_] =>rfl
   | [_,_] =>rfl
   | [_,_,z] =>cases z <;> rfl
   | _::_::z::_::_=>cases z <;> rfl
  | _=>rfl
theorem sP {g:T->En->Rs En}{F:En->Rs Fl}{p:T->Bool}(J:En->Prop):∀(ts:List T),(∀t∈ts,∀Z,J Z->∃Z1,g t Z= .ok Z1/\(p t=true->∃Z2,F Z1= .ok (.nx Z2)/\J Z2)/\(p t=false->F Z1= .ok (.rt (.bl false)))) →
  ∀Z,J Z->(ts.all p=true->∃Z',bh g F ts Z= .ok (.nx Z')/\J Z')/\(ts.all p=false->bh g F ts Z= .ok (.rt (.bl false)))
 | [],_,Z,hj=>⟨λ_=>⟨Z,rfl,hj⟩,λh=>(by cases h)⟩
 | t::ts,hs,Z,hj=>by
  obtain⟨Z1,h1,h2,h3⟩:=hs t Jj Z hj;rw[Ob]
  cases q:p t with
  | false=>exact⟨λh=>(by cases h),λ_=>vH h1 (h3 q)⟩
  | true=>
   obtain⟨Z2,e2,j2⟩:=h2 q;rw[dY h1 e2,Ni];exact sP J ts (λt ht=>hs t (Jh _ ht)) Z2 j2
mutual
def sm (n:Nat):T->Bool
 | .dct _ _=>false
 | .scr _=>false
 | .tup l=>decide (l.length<=n)&&sms n l
 | .lst l=>decide (l.length<=n)&&sms n l
 | _=>true
def sms (n:Nat):List T->Bool
 | [] =>true
 | t::l=>sm n t&&sms n l
end
mutual
theorem CW {n:Nat}:∀(t:T),sm n t=true->t.pl=true
 | .scr _,h=>by simp[sm]at h
 | .dct _ _,h=>by simp[sm]at h
 | .tup l,h=>by rw[sm,Jo]at h;rw[T.pl];exact sms_pl l h.2
 | .lst l,h=>by rw[sm,Jo]at h;rw[T.pl];exact sms_pl l h.2
 | .non,_=>by simp[T.pl]
 | .bl _,_=>by simp[T.pl]
 | .int _,_=>by simp[T.pl]
 | .str _,_=>by simp[T.pl]
theorem sms_pl {n:Nat}:∀(l:List T),sms n l=true->plS l=true
 | [],_=>by simp[plS]
 | t::l,h=>by rw[sms,Jo]at h;rw[plS,CW t h.1,sms_pl l h.2];rfl
end
theorem uY {n:Nat}:∀{l:List T},sms n l=true↔ ∀t∈l,sm n t=true
 | [] =>by simp[sms]
 | t::l=>by rw[sms,Jo,uY (l:=l)];simp
theorem sm_tup {n:Nat}{l:List T}:sm n (.tup l)=true↔l.length<=n/\∀t∈l,sm n t=true:=by rw[sm,Jo,uY,decide_eq_true_iff]
theorem jr {i j:Int}(h:0<j):jT (.int i) (.int j)= .ok (.int (i % j)):=by show(if _ then _ else _)=_;rw[if_pos h]
theorem lC {i j:Int}(h:0<j)(h2:j<1073741824):jY (.int i) (.int j)= .ok (.int (i / j)):=by show(if _ then _ else _)=_;rw[if_pos ⟨h,h2⟩]
theorem mq {i j:Int}(h : -18446744073709551616<i)(h2:i<18446744073709551616):cw (.int i) (.int j)= .ok (.int (i*j)):=by
 show um (.int i) (.int j)=_
 show(if _ then _ else _)=_
 rw[if_pos (.inl ⟨by omega,by omega⟩)]
theorem zg {i j:Int}(h : -18446744073709551616<j)(h2:j<18446744073709551616):cw (.int i) (.int j)= .ok (.int (i*j)):=by
 show um (.int i) (.int j)=_
 show(if _ then _ else _)=_
 rw[if_pos (.inr ⟨by omega,by omega⟩)]
theorem Fi (ns:List Int)(k:Nat)(hn:ns.length<=63):∃c,eg [.scr ns,.int k] = .ok (.int c):=by
 have e0:o2 qI (vr 0) (fE ah) [.va (.scr ns),.va (.int k)] = .ok (.bl (jj ns [])):=by
  refine aA (t:=.scr ns) (u:=.lst []) rfl (jh (ts:=[]) rfl (aC (k:=0) (Jv _))) ?_
  unfold qI;rw[if_pos (gi (by simp[T.dep]) rfl rfl)]
  rfl
 cases ns with
 | nil=>
  refine⟨7*k,bc rfl ?_⟩
  unfold iA
  refine ij ((ik (bx e0)).trans (bH (aA (t:=.int 7) (u:=.int k) rfl rfl (mq (by omega) (by omega)))))
 | cons a r=>
  have hl:(0:Int)<((a::r).length:Nat):=by simp only[Jq];omega
  have hl2:(((a::r).length:Nat):Int)<1073741824:=by simp only[Jq]at hn ⊢;omega
  have hi:k % (a::r).length<(a::r).length:=Nat.mod_lt _ (by simp)
  have g0:o2 jT (vr 1) (cl cU (ae (vr 0) ah)) [.va (.scr (a::r)),.va (.int k)] = .ok (.int ((k % (a::r).length:Nat):Int)):=by
   refine aA (t:=.int k) (u:=.int ((a::r).length:Nat)) rfl ?_ (by rw[jr hl];rfl)
   refine aF (ts:=[.scr (a::r)]) rfl ?_
   show Rs.ok (T.int (((a::r).map T.int).length:Nat))=_
   rw[Jm]
  have g1:aO (.scr (a::r)) (.int ((k % (a::r).length:Nat):Int))= .ok (.int (a::r)[k % (a::r).length]):=by
   have e:((a::r).map T.int)[k % (a::r).length]? =some (.int (a::r)[k % (a::r).length]):=by rw[JG,Jx hi];rfl
   show(match L2.atI ((a::r).map T.int) ((k % (a::r).length:Nat):Int)with | some t=>Rs.ok t | none=> .bad)=_
   rw[jv e]
  have g2:o2 jY (vr 1) (cl cU (ae (vr 0) ah)) [.va (.scr (a::r)),.va (.int k)] = .ok (.int ((k:Int) / ((a::r).length:Nat))):=by
   refine aA (t:=.int k) (u:=.int ((a::r).length:Nat)) rfl ?_ (lC hl hl2)
   refine aF (ts:=[.scr (a::r)]) rfl ?_
   show Rs.ok (T.int (((a::r).map T.int).length:Nat))=_
   rw[Jm]
  refine⟨(a::r)[k % (a::r).length] +6553*((k:Int) / ((a::r).length:Nat)),bc rfl ?_⟩
  unfold iA
  show ay _ _ [.va (.scr (a::r)),.va (.int k)] =_
  refine(ar (Z':=[.va (.scr (a::r)),.va (.int k)]) ((cM (bx e0)).trans rfl)).trans ?_
  exact bH (aA (aA (t:=.scr (a::r)) rfl g0 g1) (aA (t:=.int 6553) rfl g2 (mq (by omega) (by omega))) rfl)
theorem da (ns:List Int)(k:Nat)(m:Int)(hn:ns.length<=63)(hm:0<m):∃r,aw [.scr ns,.int k,.int m] = .ok (.int r)/\0<=r/\r<m:=by
 obtain⟨c,hc⟩:=Fi ns k hn
 have b1:∀x:Int,0<=x % 2147483563/\x % 2147483563<2147483563:=λx=>⟨OS _ (by omega),NP _ (by omega)⟩
 have b2:∀x:Int,0<=x % 2147483399/\x % 2147483399<2147483399:=λx=>⟨OS _ (by omega),NP _ (by omega)⟩
 generalize hx:(c % 2147483563*69069+104723*((k:Int)+1)) % 2147483563=x
 have hx':=b1 (c % 2147483563*69069+104723*((k:Int)+1));rw[hx]at hx'
 generalize hy:(x*x+x / 3) % 2147483399=y
 have hy':=b2 (x*x+x / 3);rw[hy]at hy';refine⟨(y*y+y / 7) % 2147483647 / 11 % m,bc rfl ?_,OS _ (by omega),NP _ hm⟩
 show gJ [.va (.scr ns),.va (.int k),.va (.int m),.em] =_
 unfold gJ
 have s1:cv (o2 jT (o2 aS (o2 cw (o2 jT (cl eg (ae (vr 0) (ae (vr 1) ah))) (cn (.int 2147483563))) (cn (.int 69069))) (o2 cw (cn (.int 104723)) (o2 aS (vr 1) (cn (.int 1))))) (cn (.int 2147483563))) (gN 3) [.va (.scr ns),.va (.int k),.va (.int m),.em] = .ok (.nx [.va (.scr ns),.va (.int k),.va (.int m),.va (.int x)]):=by
  refine bq (t:=.int x) (aA (u:=.int 2147483563) (aA (aA (u:=.int 69069) (aA (u:=.int 2147483563) (aF (ts:=[.scr ns,.int k]) rfl hc) rfl (jr (by omega))) rfl (zg (by omega) (by omega))) (aA (t:=.int 104723) (u:=.int ((k:Int)+1)) rfl rfl (mq (by omega) (by omega))) rfl) rfl ?_) rfl
  rw[jr (by omega),hx]
 have s2:cv (o2 jT (o2 aS (o2 cw (vr 3) (vr 3)) (o2 jY (vr 3) (cn (.int 3)))) (cn (.int 2147483399))) (gN 3) [.va (.scr ns),.va (.int k),.va (.int m),.va (.int x)] = .ok (.nx [.va (.scr ns),.va (.int k),.va (.int m),.va (.int y)]):=by
  refine bq (t:=.int y) (aA (u:=.int 2147483399) (aA (aA (t:=.int x) (u:=.int x) rfl rfl (mq (by omega) (by omega))) (aA (t:=.int x) (u:=.int 3) rfl rfl (lC (by omega) (by omega))) rfl) rfl ?_) rfl
  rw[jr (by omega),hy]
 rw[ar s1,ar s2];exact bH (aA (u:=.int m) (aA (u:=.int 11) (aA (u:=.int 2147483647) (aA (aA (t:=.int y) (u:=.int y) rfl rfl (mq (by omega) (by omega))) (aA (t:=.int y) (u:=.int 7) rfl rfl (lC (by omega) (by omega))) rfl) rfl (jr (by omega))) rfl (lC (by omega) (by omega))) rfl (jr hm))
theorem dt {ns:List Int}{k:Nat}{m r:Int}{f g h:En->Rs T}{Z:En}(e:aw [.scr ns,.int k,.int m] = .ok (.int r))(h1:f Z= .ok (.scr ns))(h2:g Z= .ok (.int k))(h3:h Z= .ok (.int m)) :
  cl aw (ae f (ae g (ae h ah))) Z= .ok (.int r):=aF (aq h1 (aq h2 (aq h3 rfl))) e
theorem rW:∀(l:List Int) (z y:Int),m9 (l++ [z])=true->z<y->m9 (l++ [z] ++ [y])=true
 | [],z,y,_,h=>by simp[m9,h]
 | [a],z,y,h,hy=>by
  simp[m9]at h ⊢
  omega
 | a::b::l,z,y,h,hy=>by
  have h':m9 (a::b::(l++ [z]))=true:=h;rw[FZ,Jo]at h'
  have ih:=rW (b::l) z y h'.2 hy
  show m9 (a::b::(l++ [z] ++ [y]))=true
  rw[FZ,h'.1];exact ih
theorem mh:∀l:List Int,nums (l.map .int)=some l
 | [] =>rfl
 | a::l=>by rw[Jn,nums,mh l]
def RdOk (l:List Int):Prop:=∃(l':List Int) (z:Int),l=l'++ [z]/\m9 l=true/\(∀x∈l,0<=x/\x<=5*l.length)/\z<=5*l.length
abbrev clF:En->Rs Fl:=cv (o2 aS (vr 3) (bK (ae (o2 aS (o2 aS (o2 aO (vr 3) (o1 kw (cn (.int 1)))) (cn (.int 1))) (cl aw (ae (vr 0) (ae (o2 aS (o2 aS (vr 1) (cn (.int 3))) (vr 4)) (ae (cn (.int 5)) ah))))) ah))) (gN 3)
theorem Cd (l:List T)(z:T):aO (.tup (l++ [z])) (.int (-1))= .ok z:=by
 have e:L2.atI (l++ [z]) (-1)=some z:=by
  unfold L2.atI L2.ixN;simp;rw[if_pos (by omega)]
  have q:(-1+((l.length:Int)+1)).toNat=l.length:=by omega
  show(l++ [z])[(-1+((l.length:Int)+1)).toNat]? =some z
  rw[q];simp
 show(match L2.atI (l++ [z]) (-1)with | some t=>Rs.ok t | none=> .bad)=_
 rw[e]
theorem Cu (ns:List Int)(hn:ns.length<=63)(a j:Nat)(s:T)(l:List Int)(h:RdOk l)(hl:l.length<=3):∃l2,clF [.va (.scr ns),.va (.int a),.va s,.va (.tup (l.map .int)),.va (.int j)] = .ok (.nx [.va (.scr ns),.va (.int a),.va s,.va (.tup (l2.map .int)),.va (.int j)])/\RdOk l2/\l2.length=l.length+1:=by
 obtain⟨l',z,rfl,h1,h2,h3⟩:=h;obtain⟨d,ed,d0,d1⟩:=da ns (a+3+j) 5 hn (by omega)
 refine⟨l'++ [z] ++ [z+1+d],?_,⟨l'++ [z],z+1+d,rfl,rW l' z _ h1 (by omega),?_,?_⟩,by simp⟩
 ·refine bq (t:=.tup ((l'++ [z] ++ [z+1+d]).map .int)) (aA (t:=.tup ((l'++ [z]).map .int)) (u:=.tup [.int (z+1+d)]) rfl (dJ (ts:=[.int (z+1+d)]) (aq (aA (t:=.int (z+1)) (u:=.int d) (aA (t:=.int z) (u:=.int 1) (aA (t:=.tup ((l'++ [z]).map .int)) (u:=.int (-1)) rfl rfl ?_) rfl rfl) (dt (k:=a+3+j) ed rfl ?_ rfl) rfl) rfl) (aC (k:=1) (by simp))) ?_) rfl
  ·rw[J6];exact Cd _ _
  ·refine aA (t:=.int ((a:Int)+3)) (u:=.int j) (aA (t:=.int a) (u:=.int 3) rfl rfl rfl) rfl ?_
   show Rs.ok (T.int ((a:Int)+3+j))=_
   congr 2
  ·rw[J6 (l₁:=l'++ [z])]
   exact CC _ _ (by rw[Ju,Jm];simp at hl ⊢;omega)
 ·intro x hx
  rcases JS.mp hx with hx | hx
  ·have:=h2 x hx
   simp only[Ju,K4]at this ⊢;omega
  ·rw[JB]at hx
   subst hx
   have hz:=h2 z (by simp)
   simp only[Ju,K4]at h3 ⊢;omega
 ·simp only[Ju,K4]at h3 ⊢
  omega
theorem wa (ns:List Int)(hn:ns.length<=63)(a:Nat)(s:T):∀(js:List Nat) (l:List Int) (s4:Sl),RdOk l->l.length+js.length<=4->∃l2 s5,bh (gN 4) clF (js.map λ(j:Nat)=>T.int j) [.va (.scr ns),.va (.int a),.va s,.va (.tup (l.map .int)),s4] = .ok (.nx [.va (.scr ns),.va (.int a),.va s,.va (.tup (l2.map .int)),s5])/\RdOk l2/\l2.length=l.length+js.length
 | [],l,s4,h,_=>⟨l,s4,rfl,h,rfl⟩
 | j::js,l,s4,h,hl=>by
  rw[Jq]at hl;obtain⟨l2,e2,h2,n2⟩:=Cu ns hn a j s l h (by omega)
  obtain⟨l3,s5,e3,h3,n3⟩:=wa ns hn a s js l2 (.va (.int j)) h2 (by omega)
  refine⟨l3,s5,?_,h3,by rw[n3,n2,Jq];omega⟩
  rw[Jn,dY (Z1:=[.va (.scr ns),.va (.int a),.va s,.va (.tup (l.map .int)),.va (.int j)]) rfl e2];exact e3
theorem pP (n:Nat):rng 0 (n:Int)=(Kv n).map λ(j:Nat)=>T.int j:=by
 unfold rng;simp
theorem RdOk.reads {l:List Int}(h:RdOk l)(hl:l.length<=4):cN (.tup (l.map .int))=true:=by
 obtain⟨l',z,rfl,h1,h2,h3⟩:=h;unfold cN;rw[Jo];refine⟨?_,?_⟩
 ·simp[dw];simp at hl;omega
 ·show(((l'++ [z]).map T.int).all (λu=>a9 u 0 99)&&(match nums ((l'++ [z]).map T.int)with | some m=>m9 m | none=>false))=true
  rw[mh]
  show(_&&m9 (l'++ [z]))=true
  rw[h1,Bool.and_true,JL];intro t ht;obtain⟨x,hx,rfl⟩:=JH.mp ht
  have:=h2 x hx;simp only[a9,Jo,decide_eq_true_eq];omega
theorem Bb (n:Nat)(l:List Int)(h:l.length<=n):sm n (.tup (l.map .int))=true:=sm_tup.mpr ⟨by rw[Jm];exact h,λt ht=>by obtain⟨x,_,rfl⟩:=JH.mp ht;simp[sm]⟩
theorem Ak (ns:List Int)(hn:ns.length<=63)(a:Nat):∃c,cb [.scr ns,.int a] = .ok c/\bz c=true/\sm 8 c=true:=by
 obtain⟨d1,e1,p1,q1⟩:=da ns a 3 hn (by omega)
 obtain⟨d2,e2,p2,q2⟩:=da ns (a+2) 6 hn (by omega)
 obtain⟨d3,e3,p3,q3⟩:=da ns (a+1) 3 hn (by omega)
 obtain⟨d4,e4,p4,q4⟩:=da ns (a+6) 3 hn (by omega)
 obtain⟨n3,rfl⟩:=Kb p3;obtain⟨l,s5,el,hl,nl⟩:=wa ns hn a (.int (1+d1)) (Kv n3) [d2] .em ⟨[],d2,rfl,rfl,λx hx=>by rw[JB]at hx;subst hx;simp;omega,by simp;omega⟩ (by simp;omega)
 have nl':l.length<=4:=by rw[nl];simp;omega
 have hr:=hl.reads nl';refine⟨.tup [.int (1+d1),.int (1+d1+d4),.tup (l.map .int)],bc rfl ?_,?_,?_⟩
 ·show gK [.va (.scr ns),.va (.int a),.em,.em,.em] =_
  unfold gK;rw[ar (Z':=[.va (.scr ns),.va (.int a),.va (.int (1+d1)),.em,.em]) (bq (t:=.int (1+d1)) (aA (t:=.int 1) rfl (dt e1 rfl rfl rfl) rfl) rfl)];rw[ar (Z':=[.va (.scr ns),.va (.int a),.va (.int (1+d1)),.va (.tup ([d2].map .int)),.em]) (bq (t:=.tup [.int d2]) (dJ (ts:=[.int d2]) (aq (dt (k:=a+2) e2 rfl rfl rfl) rfl) (aC (k:=1) (by simp))) rfl)]
  rw[ar ((gh (E7 (aq (dt (k:=a+1) e3 rfl rfl rfl) rfl) (by omega) (by omega)) (by rw[pP];exact el)))]
  exact bH (dJ (aq (t:=.int (1+d1)) rfl (aq (aA (t:=.int (1+d1)) rfl (dt (k:=a+6) e4 rfl rfl rfl) rfl) (aq (t:=.tup (l.map .int)) rfl rfl))) (aC (k:=3) (by simp)))
 ·show(true&&(nE (.int (1+d1)) (.int (1+d1+d4))&&cN _))=true
  rw[hr];simp only[nE,a9,Ni,Bool.and_true,Jo,decide_eq_true_eq];omega
 ·refine sm_tup.mpr ⟨by simp,λt ht=> ?_⟩
  rcases Jp.mp ht with rfl | ht
  ·simp[sm]
  ·rcases Jp.mp ht with rfl | ht
   ·simp[sm]
   ·rw[JB]at ht;subst ht;exact Bb 8 l (by omega)
theorem jU {y:T}:∀(cs:List T) (i:Nat),y∈dS i cs->∃c k:Nat,y= .tup [.int c,.int k]/\i<=c/\c<i+cs.length/\k<DB (cs.getD (c - i) .non)
 | [],i,h=>by cases h
 | x::cs,i,h=>by
  rw[dS]at h;rcases JS.mp h with h | h
  ·unfold jZ at h
   obtain⟨t,ht,rfl⟩:=JH.mp h;obtain⟨j,rfl,hj⟩:=jM ht;refine⟨i,j,rfl,Jv _,by rw[Jq];omega,?_⟩
   rw[NN]
   show j<DB x
   omega
  ·obtain⟨c,k,e,h1,h2,h3⟩:=jU cs (i+1) h
   refine⟨c,k,e,by omega,by rw[Jq];omega,?_⟩
   have:c - i=(c - (i+1))+1:=by omega
   rw[this];exact h3
theorem Ac {cs:List T}{y:T}(h:y∈dS 0 cs):aT cs y=true:=by
 obtain⟨c,k,rfl,_,h2,h3⟩:=jU cs 0 h
 show(decide ((0:Int)<=(c:Int))&&decide ((c:Int)<(cs.length:Int))&&(decide ((0:Int)<=(k:Int))&&decide ((k:Int)<(reads cs (c:Int):Int))))=true
 rw[OL]at h3;rw[oA];simp only[Jo,decide_eq_true_eq];omega
theorem kl:∀(cs:List T) (i:Nat),(dS i cs).Nodup
 | [],i=>Ll
 | x::cs,i=>by
  rw[dS,Kp];refine⟨?_,kl cs (i+1),?_⟩
  ·unfold jZ rng
   rw[KJ];rw[NK,Mj];refine List.nodup_range.imp ?_
   intro a b hab e
   simp at e
   exact hab (by omega)
  ·intro a ha b hb e
   subst e;unfold jZ at ha;obtain⟨t,ht,rfl⟩:=JH.mp ha;obtain⟨c,k,e,h1,_,_⟩:=jU cs (i+1) hb
   simp at e
   omega
theorem za {l:List T}(h:l.Nodup){i j:Nat}(hi:i<l.length)(hj:j<l.length)(hij:i≠j):l[i] ≠l[j]:=by
 rw[NK,LG]at h;rcases MF i j with q | q
 ·exact h i j hi hj q
 ·exact λe=>h j i hj hi (by omega) e.symm
theorem qH:∀(cs:List T) (i:Nat),(∀c∈cs,bz c=true)->(dS i cs).length<=4*cs.length
 | [],i,_=>Jv _
 | x::cs,i,h=>by
  obtain⟨a,b,r,rfl,_,h2⟩:=et (h x Jj)
  have:=qH cs (i+1) λc hc=>h c (Jh _ hc)
  rw[dS,Ju,gj,Jq]
  show r.length+_<=_
  omega
theorem Ab {cs:List T}{a b:T}(ha:aT cs a=true)(hb:aT cs b=true)(h:a≠b):aR a b=false:=by
 obtain⟨c,k,rfl⟩:=eh ha;obtain⟨c',k',rfl⟩:=eh hb;rw[Bool.eq_false_iff];intro e;simp[aR,beqTs]at e;exact h (by rw[e.1,e.2])
theorem rG {cs:List T}{a:T}(ha:aT cs a=true):sm 8 a=true:=by
 obtain⟨c,k,rfl⟩:=eh ha;simp[sm,sms]
theorem uA {l:List T}{i:Nat}(h:i<l.length):aO (.lst l) (.int (i:Int))= .ok l[i]:=by
 show(match L2.atI l (i:Int)with | some t=>Rs.ok t | none=> .bad)=_
 rw[jv (Jx h)]
theorem Fd (a b:Int):qI (.int a) (.int b)= .ok (.bl (a == b)):=by
 unfold qI;rw[if_pos (gi (by simp[T.dep]) rfl rfl)]
 rfl
theorem xn (ns:List Int)(hn:ns.length<=63)(a:Nat)(cs:List T)(hc:aX (.tup cs)=true):∃r,cJ [.scr ns,.int a,.tup cs] = .ok r/\(r= .non\/(bL cs r=true/\sm 8 r=true)):=by
 obtain⟨ha,h1,h4⟩:=cW hc
 have hlen:=qH cs 0 ha
 have er:=Aj cs hc
 have gl:∀s4 s5 s6 s7:Sl,cl cU (ae (vr 3) ah) [.va (.scr ns),.va (.int a),.va (.tup cs),.va (.lst (dS 0 cs)),s4,s5,s6,s7] = .ok (.int ((dS 0 cs).length:Nat)):=λ_ _ _ _=>rfl
 have s1:cv (cl dm (ae (vr 2) ah)) (gN 3) [.va (.scr ns),.va (.int a),.va (.tup cs),.em,.em,.em,.em,.em] = .ok (.nx [.va (.scr ns),.va (.int a),.va (.tup cs),.va (.lst (dS 0 cs)),.em,.em,.em,.em]):=bq (aF (ts:=[.tup cs]) rfl er) rfl
 have lt:o2 wU (cl cU (ae (vr 3) ah)) (cn (.int 2)) [.va (.scr ns),.va (.int a),.va (.tup cs),.va (.lst (dS 0 cs)),.em,.em,.em,.em] = .ok (.bl (decide (((dS 0 cs).length:Int)<2))):=aA (t:=.int ((dS 0 cs).length:Nat)) (u:=.int 2) (gl _ _ _ _) rfl rfl
 by_cases hs:(dS 0 cs).length<2
 ·refine⟨.non,bc rfl ?_,.inl rfl⟩
  show dq [.va (.scr ns),.va (.int a),.va (.tup cs),.em,.em,.em,.em,.em] =_
  unfold dq;rw[ar s1];rw[decide_eq_true (by omega)]at lt
  exact ij ((ik (bx lt)).trans rfl)
 ·rw[decide_eq_false (by omega)]at lt
  generalize hN:(dS 0 cs).length=n at*
  obtain⟨d1,e1,p1,q1⟩:=da ns a (n:Int) hn (by omega)
  obtain⟨d2,e2,p2,q2⟩:=da ns (a+1) ((n:Int) - 1) hn (by omega)
  obtain⟨d3,e3,p3,q3⟩:=da ns (a+2) 8 hn (by omega)
  obtain⟨d4,e4,p4,q4⟩:=da ns (a+3) 3 hn (by omega)
  obtain⟨d5,e5,p5,q5⟩:=da ns (a+4) 9 hn (by omega)
  obtain⟨i,rfl⟩:=Kb p1;obtain⟨d2,rfl⟩:=Kb p2
  have hi:i<(dS 0 cs).length:=by omega
  have hj:(i+1+d2) % n<(dS 0 cs).length:=by rw[hN];exact Nat.mod_lt _ (by omega)
  have hij:i≠(i+1+d2) % n:=by
   rcases MF (i+1+d2) n with q | q
   ·rw[Q7 q];omega
   ·have:(i+1+d2) % n=i+1+d2 - n:=by
     rw[Nat.mod_eq_sub_mod q,Q7 (by omega)]
    rw[this];omega
  have eA:=Ac (Lg hi)
  have eB:=Ac (Lg hj)
  have eN:(dS 0 cs)[i] ≠(dS 0 cs)[(i+1+d2) % n]:=za (kl cs 0) hi hj hij
  generalize hA:(dS 0 cs)[i] =A at*
  generalize hB:(dS 0 cs)[(i+1+d2) % n] =B at*
  let y:T:=if d4 == 0 then .non else .int (d3+d5)
  refine⟨.tup [A,B,.int d3,y],bc rfl ?_,.inr ⟨?_,?_⟩⟩
  ·show dq [.va (.scr ns),.va (.int a),.va (.tup cs),.em,.em,.em,.em,.em] =_
   unfold dq;rw[ar s1];rw[ar (Z':=[.va (.scr ns),.va (.int a),.va (.tup cs),.va (.lst (dS 0 cs)),.em,.em,.em,.em]) ((cM (bx lt)).trans rfl)];rw[ar (Z':=[.va (.scr ns),.va (.int a),.va (.tup cs),.va (.lst (dS 0 cs)),.va (.int (i:Nat)),.em,.em,.em]) (bq (dt e1 rfl rfl (gl _ _ _ _)) rfl)];rw[ar (Z':=[.va (.scr ns),.va (.int a),.va (.tup cs),.va (.lst (dS 0 cs)),.va (.int (i:Nat)),.va (.int ((i+1+d2) % n:Nat)),.em,.em]) (bq (t:=.int ((i+1+d2) % n:Nat)) (aA (t:=.int ((i:Int)+1+d2)) (u:=.int n) (aA (t:=.int ((i:Int)+1)) (u:=.int d2) rfl (dt (k:=a+1) e2 rfl rfl (aA (t:=.int n) (u:=.int 1) (gl _ _ _ _) rfl rfl)) rfl) (gl _ _ _ _) (jr (by omega))) rfl)]
   rw[ar (Z':=[.va (.scr ns),.va (.int a),.va (.tup cs),.va (.lst (dS 0 cs)),.va (.int (i:Nat)),.va (.int ((i+1+d2) % n:Nat)),.va (.int d3),.em]) (bq (dt (k:=a+2) e3 rfl rfl rfl) rfl)]
   have ey:tL (tb (o2 qI (cl aw (ae (vr 0) (ae (o2 aS (vr 1) (cn (.int 3))) (ae (cn (.int 3)) ah)))) (cn (.int 0)))) (cn .non) (o2 aS (vr 6) (cl aw (ae (vr 0) (ae (o2 aS (vr 1) (cn (.int 4))) (ae (cn (.int 9)) ah))))) [.va (.scr ns),.va (.int a),.va (.tup cs),.va (.lst (dS 0 cs)),.va (.int (i:Nat)),.va (.int ((i+1+d2) % n:Nat)),.va (.int d3),.em] = .ok y:=by
    rw[gg (bx (aA (u:=.int 0) (dt (k:=a+3) e4 rfl rfl rfl) rfl (Fd _ _)))]
    show _=Rs.ok (if d4 == 0 then T.non else .int (d3+d5))
    cases d4 == 0 with
    | true=>rfl
    | false=>exact aA (t:=.int d3) rfl (dt (k:=a+4) e5 rfl rfl rfl) rfl
   rw[ar (Z':=[.va (.scr ns),.va (.int a),.va (.tup cs),.va (.lst (dS 0 cs)),.va (.int (i:Nat)),.va (.int ((i+1+d2) % n:Nat)),.va (.int d3),.va y]) (bq ey rfl)];refine bH (dJ (aq (t:=A) (aA (t:=.lst (dS 0 cs)) (u:=.int (i:Nat)) rfl rfl ?_) (aq (t:=B) (aA (t:=.lst (dS 0 cs)) (u:=.int ((i+1+d2) % n:Nat)) rfl rfl ?_) (aq (t:=.int d3) rfl (aq (t:=y) rfl rfl)))) (aC (k:=4) (by simp)))
   ·rw[<-hA];exact uA hi
   ·rw[<-hB];exact uA hj
  ·show(d6 (.int d3) y&&(aT cs A&&(aT cs B&& !aR A B)))=true
   rw[eA,eB,Ab eA eB eN]
   have:d6 (.int d3) y=true:=by
    show(a9 (.int d3) 0 999&&(match(T.int d3),(if d4 == 0 then T.non else .int (d3+d5))with | _,.non=>true | .int i,_=>a9 (if d4 == 0 then T.non else .int (d3+d5)) i 999 | _,_=>false))=true
    cases d4 == 0 with
    | true=>simp[a9];omega
    | false=>simp[a9];omega
   rw[this];rfl
  ·refine sm_tup.mpr ⟨by simp,λt ht=> ?_⟩
   have hy:sm 8 y=true:=by show sm 8 (if d4 == 0 then T.non else .int (d3+d5))=true;cases d4 == 0 <;> simp[sm]
   simp only[Jp,JN,or_false]at ht;rcases ht with rfl | rfl | rfl | rfl
   ·exact rG eA
   ·exact rG eB
   ·simp[sm]
   ·exact hy
def okv:Rs T->T
 | .ok t=>t
 | _=> .non
theorem vk (l:List T)(k:Int)(h : -(2 ^ 63)<=k/\k<2 ^ 63/\l.length*k.toNat<=sizeLine):cw (.lst l) (.int k)= .ok (.lst (JK k.toNat l).flatten):=by
 show um (.lst l) (.int k)=_
 unfold um;exact if_pos h
theorem mul_one (x:T)(b:Bool):cw (.lst [x]) (.int (if b then 1 else 0))= .ok (.lst (if b then [x]else [])):=by
 cases b with
 | true=>exact vk [x] 1 ⟨by decide,by decide,aC (k:=1) (by simp)⟩
 | false=>exact vk [x] 0 ⟨by decide,by decide,aC (k:=1) (by simp)⟩
abbrev leF:En->Rs Fl:=ay (cv (cl cJ (ae (vr 0) (ae (o2 aS (o2 aS (vr 1) (cn (.int 31))) (o2 cw (cn (.int 6)) (vr 5))) (ae (vr 3) ah)))) (gN 6)) (cv (o2 aS (vr 4) (o2 cw (fE (ae (vr 6) ah)) (cl zP (ae (o2 de (vr 6) (cn .non)) ah)))) (gN 4))
def xH (cs ls:List T):Prop:=∀t∈ls,bL cs t=true/\sm 8 t=true
theorem B7 (ns:List Int)(hn:ns.length<=63)(a j:Nat)(m:T)(cs ls:List T)(hc:aX (.tup cs)=true)(h:xH cs ls)(hl:ls.length<=100)(s6:Sl) :
  ∃ls2 s7,leF [.va (.scr ns),.va (.int a),.va m,.va (.tup cs),.va (.lst ls),.va (.int j),s6] = .ok (.nx [.va (.scr ns),.va (.int a),.va m,.va (.tup cs),.va (.lst ls2),.va (.int j),s7])/\xH cs ls2/\ls2.length<=ls.length+1:=by
 obtain⟨r,er,hr⟩:=xn ns hn (a+31+6*j) cs hc
 have e1:∀G,ay (cv (cl cJ (ae (vr 0) (ae (o2 aS (o2 aS (vr 1) (cn (.int 31))) (o2 cw (cn (.int 6)) (vr 5))) (ae (vr 3) ah)))) (gN 6)) G [.va (.scr ns),.va (.int a),.va m,.va (.tup cs),.va (.lst ls),.va (.int j),s6] =G [.va (.scr ns),.va (.int a),.va m,.va (.tup cs),.va (.lst ls),.va (.int j),.va r]:=λG=>by
  refine ar (bq (t:=r) (aF (ts:=[.scr ns,.int (a+31+6*j:Nat),.tup cs]) (aq (t:=.scr ns) rfl (aq (t:=.int (a+31+6*j:Nat)) (aA (t:=.int ((a:Int)+31)) (u:=.int (6*(j:Int))) rfl (aA (t:=.int 6) (u:=.int j) rfl rfl (mq (by omega) (by omega))) rfl) (aq (t:=.tup cs) rfl rfl))) er) rfl)
 have e2:cl zP (ae (o2 de (vr 6) (cn .non)) ah) [.va (.scr ns),.va (.int a),.va m,.va (.tup cs),.va (.lst ls),.va (.int j),.va r] = .ok (.int (if !r.isN then 1 else 0)):=aF (ts:=[.bl (!r.isN)]) rfl rfl
 refine⟨ls++(if !r.isN then [r]else []),.va r,?_,?_,?_⟩
 ·refine(e1 _).trans (bq (aA (t:=.lst ls) (u:=.lst (if !r.isN then [r]else [])) rfl (aA (t:=.lst [r]) (jh (ts:=[r]) rfl (aC (k:=1) (by simp))) e2 (mul_one _ _)) (lF _ _ ?_)) rfl)
  rw[Ju];cases r.isN <;> simp <;> omega
 ·intro t ht
  rcases JS.mp ht with ht | ht
  ·exact h t ht
  ·rcases hr with rfl | hr
   ·cases ht
   ·cases q:r.isN with
    | true=>rw[q]at ht;cases ht
    | false=>
     rw[q]at ht;rw[show t=r by simpa using ht]
     exact hr
 ·rw[Ju]
  cases r.isN <;> simp
theorem vB (ns:List Int)(hn:ns.length<=63)(a:Nat)(m:T)(cs:List T)(hc:aX (.tup cs)=true):∀(js:List Nat) (ls:List T) (s5 s6:Sl),xH cs ls->ls.length+js.length<=100 →
  ∃ls2 t5 t6,bh (gN 5) leF (js.map λ(j:Nat)=>T.int j) [.va (.scr ns),.va (.int a),.va m,.va (.tup cs),.va (.lst ls),s5,s6] = .ok (.nx [.va (.scr ns),.va (.int a),.va m,.va (.tup cs),.va (.lst ls2),t5,t6])/\xH cs ls2/\ls2.length<=ls.length+js.length
 | [],ls,s5,s6,h,_=>⟨ls,s5,s6,rfl,h,Jv _⟩
 | j::js,ls,s5,s6,h,hl=>by
  rw[Jq]at hl;obtain⟨l2,s7,e2,h2,n2⟩:=B7 ns hn a j m cs ls hc h (by omega) s6
  obtain⟨l3,t5,t6,e3,h3,n3⟩:=vB ns hn a m cs hc js l2 (.va (.int j)) s7 h2 (by omega)
  refine⟨l3,t5,t6,?_,h3,by rw[Jq];omega⟩
  rw[Jn,dY (Z1:=[.va (.scr ns),.va (.int a),.va m,.va (.tup cs),.va (.lst ls),.va (.int j),s6]) rfl e2];exact e3
theorem Fh (ns:List Int)(hn:ns.length<=63)(a m:Nat)(hm:m<=8):∃cs ls,dl [.scr ns,.int a,.int m] = .ok (RR cs ls)/\aX (.tup cs)=true/\cs.length<=3/\(∀c∈cs,sm 8 c=true)/\xH cs ls/\ls.length<=m:=by
 obtain⟨d1,e1,p1,q1⟩:=da ns a 3 hn (by omega)
 obtain⟨d2,e2,p2,q2⟩:=da ns (a+30) ((m:Int)+1) hn (by omega)
 obtain⟨d1,rfl⟩:=Kb p1;obtain⟨d2,rfl⟩:=Kb p2
 let hcl:T->T:=λt=>match t with
  | .int k=>okv (cb [.scr ns,.int ((a:Int)+1+8*k)])
  | _=> .non
 have hh:∀t∈rng 0 ((1+d1:Nat):Int),∃k:Nat,t= .int k/\cb [.scr ns,.int ((a+1+8*k:Nat):Int)] = .ok (hcl t)/\bz (hcl t)=true/\sm 8 (hcl t)=true:=λt ht=>by
  obtain⟨k,rfl,_⟩:=jM ht;obtain⟨c,ec,h1,h2⟩:=Ak ns hn (a+1+8*k)
  have e:hcl (.int k)=c:=by
   show okv (cb [.scr ns,.int ((a+1+8*k:Nat):Int)])=c
   rw[ec];rfl
  exact⟨k,rfl,by rw[e];exact ec,by rw[e];exact h1,by rw[e];exact h2⟩
 generalize hcs:(rng 0 ((1+d1:Nat):Int)).map hcl=cs
 have lc:cs.length=1+d1:=by rw[<-hcs,Jm,iF]
 have hc:aX (.tup cs)=true:=by
  show(dw (.tup cs) 1 4&&cs.all bz)=true
  rw[Jo,JL];refine⟨by simp[dw];omega,λc h=> ?_⟩
  rw[<-hcs]at h;obtain⟨t,ht,rfl⟩:=JH.mp h;obtain⟨_,_,_,h1,_⟩:=hh t ht;exact h1
 have hsm:∀c∈cs,sm 8 c=true:=λc h=>by
  rw[<-hcs]at h;obtain⟨t,ht,rfl⟩:=JH.mp h;obtain⟨_,_,_,_,h1⟩:=hh t ht;exact h1
 obtain⟨ls,t5,t6,el,hl,nl⟩:=vB ns hn a (.int m) cs hc (Kv d2) [] .em .em (λt h=>by cases h) (by simp;omega)
 refine⟨cs,ls,bc rfl ?_,hc,by omega,hsm,hl,by simp at nl;omega⟩
 show fX [.va (.scr ns),.va (.int a),.va (.int m),.em,.em,.em,.em] =_
 unfold fX
 have s1:cv (cl ez (ae (fH (iR (ae (o2 aS (cn (.int 1)) (cl aw (ae (vr 0) (ae (vr 1) (ae (cn (.int 3)) ah))))) ah)) [none,some 0,some 1] (gN 0) bT (cl cb (ae (vr 1) (ae (o2 aS (o2 aS (vr 2) (cn (.int 1))) (o2 cw (cn (.int 8)) (vr 0))) ah)))) ah)) (gN 3) [.va (.scr ns),.va (.int a),.va (.int m),.em,.em,.em,.em] = .ok (.nx [.va (.scr ns),.va (.int a),.va (.int m),.va (.tup cs),.em,.em,.em]):=by
  refine bq (t:=.tup cs) (aF (ts:=[.lst cs]) (aq (t:=.lst cs) ?_ rfl) rfl) rfl
  rw[<-hcs];refine n4 (ts:=rng 0 ((1+d1:Nat):Int)) (h:=hcl) (E7 (aq (t:=.int ((1+d1:Nat):Int)) (aA (t:=.int 1) (u:=.int d1) rfl (dt e1 rfl rfl rfl) rfl) rfl) (by omega) (by omega)) (aC (k:=3) (by rw[iF];omega)) (by simp) λt ht=> ?_
  obtain⟨k,rfl,ek,_,_⟩:=hh t ht;refine aF (ts:=[.scr ns,.int ((a+1+8*k:Nat):Int)]) (aq (t:=.scr ns) rfl (aq (aA (t:=.int ((a:Int)+1)) (u:=.int (8*(k:Int))) rfl (aA (t:=.int 8) (u:=.int k) rfl rfl (mq (by omega) (by omega))) rfl) rfl)) ek
 rw[ar s1];rw[ar (Z':=[.va (.scr ns),.va (.int a),.va (.int m),.va (.tup cs),.va (.lst []),.em,.em]) (bq (jh (ts:=[]) rfl (aC (k:=0) (by simp))) rfl)]
 rw[ar ((gh (E7 (aq (dt (k:=a+30) e2 rfl rfl (aA (t:=.int m) (u:=.int 1) rfl rfl rfl)) rfl) (by omega) (by omega)) (by rw[pP];exact el)))]
 exact bH (dJ (aq (t:=.tup cs) rfl (aq (t:=.tup ls) rfl rfl)) (aC (k:=2) (by simp)))
theorem jW {cs:List T}{t:T}(h:bL cs t=true):∃a b x y,t= .tup [a,b,x,y]/\d6 x y=true/\aT cs a=true/\aT cs b=true/\aR a b=false:=by
 unfold bL at h
 split at h
 ·simp only[Jo,N8]at h
  exact⟨_,_,_,_,rfl,h.1,h.2.1,h.2.2.1,h.2.2.2⟩
 ·cases h
theorem DA {cs ls:List T}(hc:aX (.tup cs)=true)(hs:∀c∈cs,sm 8 c=true)(hl:xH cs ls)(hn:ls.length<=8):kW (RR cs ls)=true/\sm 8 (RR cs ls)=true:=by
 refine⟨?_,?_⟩
 ·show(aX (.tup cs)&&(dw (.tup ls) 0 8&&ls.all (bL cs)))=true
  rw[hc,Ni,Jo,JL];exact⟨by simp[dw];exact hn,λt ht=>(hl t ht).1⟩
 ·refine sm_tup.mpr ⟨by simp,λt ht=> ?_⟩
  simp only[Jp,JN,or_false]at ht;rcases ht with rfl | rfl
  ·exact sm_tup.mpr ⟨by have:=(cW hc).2.2;omega,hs⟩
  ·exact sm_tup.mpr ⟨hn,λt ht=>(hl t ht).2⟩
end G
namespace Tr
open PySem
section
variable {f fa fb:En->Rs T}{fs:En->Rs (List T)}{b c:En->Rs Bool}{F G:En->Rs Fl}{Z Z' Z1 Z2:En}{t u r:T}{ts l m:List T}
mutual
theorem kH:∀(t:T),t.pl=true->aR t t=true
 | .non,_=>rfl
 | .bl a,_=>by simp[aR]
 | .int a,_=>by simp[aR]
 | .str a,_=>by simp[aR]
 | .tup l,h=>by rw[aR];exact beqTs_refl l (by unfold T.pl at h;exact h)
 | .lst l,h=>by rw[aR];exact beqTs_refl l (by unfold T.pl at h;exact h)
 | .scr _,h=>by simp[T.pl]at h
theorem beqTs_refl:∀(l:List T),plS l=true->beqTs l l=true
 | [],_=>rfl
 | t::l,h=>by
  unfold plS at h;rw[Jo]at h;rw[beqTs,kH t h.1,beqTs_refl l h.2];rfl
end
theorem vi (hp:t.pl=true)(hd:t.dep<=60):vj t t= .ok (.bl false):=by
 unfold vj;rw[if_pos (gi hd (T.HS _ hp) (T.HS _ hp)),kH t hp];rfl
theorem Cj (hp:t.pl=true)(hd:t.dep<=60):qI t t= .ok (.bl true):=by
 unfold qI;rw[if_pos (gi hd (T.HS _ hp) (T.HS _ hp)),kH t hp]
theorem pV:∀{l:List T},(∀t∈l,t.pl=true)->plS l=true
 | [],_=>rfl
 | t::l,h=>by unfold plS;rw[h t Jj,pV λu hu=>h u (Jh _ hu)];rfl
end
end Tr
namespace G
open PySem Tr
def dr (r:List Int)(k:Nat):Int:=r.getD (k+1) 0 - r.getD k 0
def pr (n:Nat)(x y:Int)(r:List Int)(k:Nat):List T:=
 [.tup [.tup [.int n,.int k],.tup [.int n,.int ((k+1:Nat):Int)],.int (dr r k*y)],.tup [.tup [.int n,.int ((k+1:Nat):Int)],.tup [.int n,.int k],.int (-dr r k*x)]]
def cB (n:Nat)(x y:Int)(r:List Int):List T:=(Kv (r.length - 1)).flatMap (pr n x y r)
abbrev Ay (n:Nat)(x y:Int)(r:List Int)(acc:List T)(s4 s5 s6 s7:Sl):En:=[.va (.int n),.va (.tup [.int x,.int y,.tup (r.map .int)]),.va (.tup (r.map .int)),.ow (.lst acc),s4,s5,s6,s7]
abbrev bcF:En->Rs Fl:=(ay (cv (bK (ae (vr 0) (ae (vr 4) ah))) (gN 5)) (ay (cv (bK (ae (vr 0) (ae (o2 aS (vr 4) (cn (.int 1))) ah))) (gN 6)) (ay (cv (o2 gV (o2 aO (vr 2) (o2 aS (vr 4) (cn (.int 1)))) (o2 aO (vr 2) (vr 4))) (gN 7)) (ay (jL 3 (bK (ae (vr 5) (ae (vr 6) (ae (o2 cw (vr 7) (o2 aO (vr 1) (cn (.int 1)))) ah))))) (jL 3 (bK (ae (vr 6) (ae (vr 5) (ae (o2 cw (o1 kw (vr 7)) (o2 aO (vr 1) (cn (.int 0)))) ah)))))))))
theorem vQ {r:List Int}{k:Nat}(h:k<r.length):(r.map T.int)[k]? =some (.int (r.getD k 0)):=by
 rw[JG,Jx h]
 simp[h]
theorem CA (n:Nat)(x y:Int)(r:List Int)(acc:List T)(k:Nat)(s5 s6 s7:Sl)(hk:k+1<r.length)(hx:0<=x/\x<=9)(hy:0<=y/\y<=9)(ha:acc.length<=100) :
  bcF (Ay n x y r acc (.va (.int k)) s5 s6 s7)= .ok (.nx (Ay n x y r (acc++pr n x y r k) (.va (.int k)) (.va (.tup [.int n,.int k])) (.va (.tup [.int n,.int ((k+1:Nat):Int)])) (.va (.int (dr r k))))):=by
 have h2:([T.int n,T.int k]:List T).length<=sizeLine:=aC (k:=2) (by simp)
 have ek:((k:Int)+1)=((k+1:Nat):Int):=by omega
 refine(ar (Z':=Ay n x y r acc (.va (.int k)) (.va (.tup [.int n,.int k])) s6 s7) (bq (dJ rfl (aC (k:=2) (by simp))) rfl)).trans ?_
 refine(ar (Z':=Ay n x y r acc (.va (.int k)) (.va (.tup [.int n,.int k])) (.va (.tup [.int n,.int ((k+1:Nat):Int)])) s7) (bq (dJ (aq rfl (aq (t:=.int ((k+1:Nat):Int)) (aA (t:=.int k) (u:=.int 1) rfl rfl (congrArg (λz=>Rs.ok (T.int z)) ek)) rfl)) (aC (k:=2) (by simp))) rfl)).trans ?_
 refine(ar (Z':=Ay n x y r acc (.va (.int k)) (.va (.tup [.int n,.int k])) (.va (.tup [.int n,.int ((k+1:Nat):Int)])) (.va (.int (dr r k)))) (bq (t:=.int (dr r k)) (aA (t:=.int (r.getD (k+1) 0)) (u:=.int (r.getD k 0)) (zL (n:=k+1) rfl (aA (t:=.int k) (u:=.int 1) rfl rfl (congrArg (λz=>Rs.ok (T.int z)) ek)) (vQ hk)) (zL (n:=k) rfl rfl (vQ (by omega))) rfl) rfl)).trans ?_
 refine(ar (Z':=Ay n x y r (acc++ [.tup [.tup [.int n,.int k],.tup [.int n,.int ((k+1:Nat):Int)],.int (dr r k*y)]]) (.va (.int k)) (.va (.tup [.int n,.int k])) (.va (.tup [.int n,.int ((k+1:Nat):Int)])) (.va (.int (dr r k)))) (sW (l:=acc) (dJ (aq rfl (aq rfl (aq (aA (t:=.int (dr r k)) (u:=.int y) rfl rfl (zg (by omega) (by omega))) rfl))) (aC (k:=3) (by simp))) rfl (by omega))).trans ?_
 refine(sW (l:=acc++ [.tup [.tup [.int n,.int k],.tup [.int n,.int ((k+1:Nat):Int)],.int (dr r k*y)]]) (dJ (aq rfl (aq rfl (aq (aA (t:=.int (-dr r k)) (u:=.int x) rfl rfl (zg (by omega) (by omega))) rfl))) (aC (k:=3) (by simp))) rfl (by rw[Ju];simp;omega)).trans ?_
 rw[JV]
 rfl
theorem we (n:Nat)(x y:Int)(r:List Int)(hx:0<=x/\x<=9)(hy:0<=y/\y<=9):∀(js:List Nat) (acc:List T) (s4 s5 s6 s7:Sl),(∀k∈js,k+1<r.length)->acc.length+2*js.length<=100 →
  ∃t4 t5 t6 t7,bh (gN 4) bcF (js.map λ(k:Nat)=>T.int k) (Ay n x y r acc s4 s5 s6 s7)= .ok (.nx (Ay n x y r (acc++js.flatMap (pr n x y r)) t4 t5 t6 t7))
 | [],acc,s4,s5,s6,s7,_,_=>⟨s4,s5,s6,s7,by simp[bh]⟩
 | k::js,acc,s4,s5,s6,s7,hk,hl=>by
  rw[Jq]at hl
  have e:=CA n x y r acc k s5 s6 s7 (hk k Jj) hx hy (by omega)
  obtain⟨t4,t5,t6,t7,ih⟩:=we n x y r hx hy js (acc++pr n x y r k) (.va (.int k)) (.va (.tup [.int n,.int k])) (.va (.tup [.int n,.int ((k+1:Nat):Int)])) (.va (.int (dr r k))) (λj hj=>hk j (Jh _ hj)) (by rw[Ju];simp[pr];omega)
  refine⟨t4,t5,t6,t7,?_⟩
  rw[Jn,dY (Z1:=Ay n x y r acc (.va (.int k)) s5 s6 s7) rfl e,ih,MZ,JV]
theorem Ao (n:Nat)(x y:Int)(r:List Int)(hx:0<=x/\x<=9)(hy:0<=y/\y<=9)(h1:1<=r.length)(h4:r.length<=4):ca [.int n,.tup [.int x,.int y,.tup (r.map .int)]] = .ok (.lst (cB n x y r)):=by
 refine bc rfl ?_
 show dN [.va (.int n),.va (.tup [.int x,.int y,.tup (r.map .int)]),.em,.em,.em,.em,.em,.em] =_
 unfold dN;rw[ar (Z':=[.va (.int n),.va (.tup [.int x,.int y,.tup (r.map .int)]),.va (.tup (r.map .int)),.em,.em,.em,.em,.em]) (bq (t:=.tup (r.map .int)) rfl rfl)];rw[ar (Z':=Ay n x y r [] .em .em .em .em) rfl];obtain⟨t4,t5,t6,t7,e⟩:=we n x y r hx hy (Kv (r.length - 1)) [] .em .em .em .em (λk hk=>by have:=KY.mp hk;omega) (by simp;omega)
 have e1:iR (ae (o2 gV (cl cU (ae (vr 2) ah)) (cn (.int 1))) ah) (Ay n x y r [] .em .em .em .em)= .ok (rng 0 ((r.length - 1:Nat):Int)):=by
  refine E7 (j:=((r.length - 1:Nat):Int)) (aq (aA (t:=.int (r.length:Nat)) (u:=.int 1) (aF (ts:=[.tup (r.map .int)]) rfl (by show Rs.ok (T.int ((r.map T.int).length:Nat))=_;rw[Jm])) rfl (congrArg (λz=>Rs.ok (T.int z)) (by omega))) rfl) (by omega) (by omega)
 rw[ar ((gh (ts:=(Kv (r.length - 1)).map λ(k:Nat)=>T.int k) (by rw[e1,pP]) e))]
 rfl
theorem ju {t:T}(h:bz t=true):∃(x y:Int) (r:List Int),t= .tup [.int x,.int y,.tup (r.map .int)]/\(0<=x/\x<=9)/\(0<=y/\y<=9)/\1<=r.length/\r.length<=4:=by
 obtain⟨x,y,r,rfl,h1,h4⟩:=et h
 have h':(nE x y&&cN (.tup r))=true:=h;rw[Jo]at h';obtain⟨hp,hr⟩:=h';unfold nE at hp;rw[Jo]at hp;obtain⟨i,rfl,i1,i2⟩:=du hp.1;obtain⟨j,rfl,j1,j2⟩:=du (t:=y) (a:=i) (b:=9) hp.2;unfold cN at hr;rw[Jo]at hr
 have hr2:((r.all λu=>a9 u 0 99)&&(match nums r with | some m=>m9 m | none=>false))=true:=hr.2
 rw[Jo]at hr2;obtain⟨m,em⟩:=qe hr2.1
 have e:=mf em;subst e;rw[Jm]at h1 h4;exact⟨i,j,m,rfl,⟨by omega,by omega⟩,⟨by omega,by omega⟩,h1,h4⟩
def xB (n:Nat)(t:T):List T:=match t with
 | .tup [.int x,.int y,.tup r] =>match nums r with
  | some m=>cB n x y m
  | none=> []
 | _=> []
def bC:Nat->List T->List T
 | _,[] => []
 | i,c::r=>xB i c++bC (i+1) r
def lB (t:T):List T:=match t with
 | .tup [a,b,.int le,mo] => .tup [b,a,.int (-le)] ::(if mo.isN then []else [.tup [a,b,mo]])
 | _=> []
def FF (cs ls:List T):List T:=bC 0 cs++ls.flatMap lB
theorem uS (n:Nat)(x y:Int)(r:List Int):xB n (.tup [.int x,.int y,.tup (r.map .int)])=cB n x y r:=by
 unfold xB;simp only[mh]
theorem Ft (n:Nat)(x y:Int)(r:List Int):(cB n x y r).length=2*(r.length - 1):=by
 unfold cB;rw[List.length_flatMap]
 have:∀l:List Nat,(l.map λk=>(pr n x y r k).length).sum=2*l.length:=by
  intro l
  induction l with
  | nil=>rfl
  | cons a l ih=>rw[Jn,K0,ih,Jq];simp[pr];omega
 rw[this,Lm]
theorem xY {n:Nat}{t:T}(h:bz t=true):(xB n t).length<=6:=by
 obtain⟨x,y,r,rfl,_,_,h1,h4⟩:=ju h;rw[uS,Ft];omega
theorem uJ:∀{cs:List T} {i:Nat},(∀c∈cs,bz c=true)->(bC i cs).length<=6*cs.length
 | [],i,_=>by simp[bC]
 | c::cs,i,h=>by
  rw[bC,Ju,Jq]
  have:=xY (n:=i) (h c Jj)
  have:=uJ (cs:=cs) (i:=i+1) λc hc=>h c (Jh _ hc)
  omega
theorem zB (t:T):(lB t).length<=2:=by
 unfold lB;split
 ·rename_i a b le mo
  cases mo.isN <;> simp
 ·simp
theorem vF:∀(ls:List T),(ls.flatMap lB).length<=2*ls.length
 | [] =>by simp
 | t::ls=>by
  rw[MZ,Ju,Jq]
  have:=zB t
  have:=vF ls;omega
theorem sT {cs:List T}{t:T}(h:bL cs t=true):∃(a b mo:T) (le:Int),t= .tup [a,b,.int le,mo]/\aT cs a=true/\aT cs b=true:=by
 obtain⟨a,b,x,y,rfl,hd,ha,hb,_⟩:=jW h;unfold d6 at hd;rw[Jo]at hd;obtain⟨i,rfl,_⟩:=du hd.1;exact⟨a,b,y,i,rfl,ha,hb⟩
theorem xt {cs:List T}{t:T}(h:bL cs t=true):bV [t] = .ok (.lst (lB t)):=by
 obtain⟨a,b,mo,le,rfl,_,_⟩:=sT h;refine bc rfl ?_
 show dy [.va (.tup [a,b,.int le,mo]),.em] =_
 unfold dy;rw[ar (Z':=[.va (.tup [a,b,.int le,mo]),.ow (.lst [.tup [b,a,.int (-le)]])]) (zJ (l:=[.tup [b,a,.int (-le)]]) (aq (dJ (aq rfl (aq rfl (aq rfl rfl))) (aC (k:=3) (by simp))) rfl) (by simp) (by simp))]
 have e:∀(Z:En) l,Z= [.va (.tup [a,b,.int le,mo]),.ow (.lst l)]->o2 de (o2 aO (vr 0) (cn (.int 3))) (cn .non) Z= .ok (.bl (!mo.isN)):=λZ l z=>by subst z;rfl
 have e2:lB (.tup [a,b,.int le,mo])= .tup [b,a,.int (-le)] ::(if mo.isN then []else [.tup [a,b,mo]]):=rfl
 rw[e2]
 cases q:mo.isN with
 | true=>
  rw[ar (Z':=[.va (.tup [a,b,.int le,mo]),.ow (.lst [.tup [b,a,.int (-le)]])]) ((cM (bx (by rw[e _ _ rfl,q];rfl))).trans rfl)]
  rfl
 | false=>
  rw[ar (Z':=[.va (.tup [a,b,.int le,mo]),.ow (.lst ([.tup [b,a,.int (-le)]] ++ [.tup [a,b,mo]]))]) ((ik (bx (by rw[e _ _ rfl,q];rfl))).trans (sW (l:=[.tup [b,a,.int (-le)]]) (dJ (aq rfl (aq rfl (aq rfl rfl))) (aC (k:=3) (by simp))) rfl (by simp)))]
  rfl
abbrev bdF:En->Rs Fl:=lS 1 (cl ca (ae (vr 2) (ae (vr 3) ah)))
abbrev bdG:T->En->Rs En:=gT 2 (gW (gN 2) (gW (gN 3) oU))
theorem wc (R:T)(s4:Sl):∀(cs:List T) (acc:List T) (i:Nat) (s2 s3:Sl),(∀c∈cs,bz c=true)->acc.length+6*cs.length<=100 →
  ∃y2 y3,bh bdG bdF (br i cs) [.va R,.ow (.lst acc),s2,s3,s4] = .ok (.nx [.va R,.ow (.lst (acc++bC i cs)),y2,y3,s4])
 | [],acc,i,s2,s3,_,_=>⟨s2,s3,by simp[br,bh,bC]⟩
 | c::cs,acc,i,s2,s3,hc,hl=>by
  have h0:=hc c Jj
  have hx:=xY (n:=i) h0;obtain⟨x,y,r,rfl,a1,a2,a3,a4⟩:=ju h0;rw[Jq]at hl;rw[uS]at hx
  have st:bdF [.va R,.ow (.lst acc),.va (.int i),.va (.tup [.int x,.int y,.tup (r.map .int)]),s4] = .ok (.nx [.va R,.ow (.lst (acc++cB i x y r)),.va (.int i),.va (.tup [.int x,.int y,.tup (r.map .int)]),s4]):=
   zM (l:=acc) (aF (ts:=[.int i,.tup [.int x,.int y,.tup (r.map .int)]]) rfl (Ao i x y r a1 a2 a3 a4)) rfl (by omega)
  obtain⟨z2,z3,ih⟩:=wc R s4 cs (acc++cB i x y r) (i+1) (.va (.int i)) (.va (.tup [.int x,.int y,.tup (r.map .int)])) (λc h=>hc c (Jh _ h)) (by rw[Ju];omega)
  refine⟨z2,z3,?_⟩
  rw[br,dY (Z1:=[.va R,.ow (.lst acc),.va (.int i),.va (.tup [.int x,.int y,.tup (r.map .int)]),s4]) rfl st,ih,bC,uS,JV]
abbrev blF:En->Rs Fl:=lS 1 (cl bV (ae (vr 4) ah))
theorem wb (R:T)(cs:List T)(s2 s3:Sl):∀(ls:List T) (acc:List T) (s4:Sl),(∀t∈ls,bL cs t=true)->acc.length+2*ls.length<=100 →
  ∃y4,bh (gN 4) blF ls [.va R,.ow (.lst acc),s2,s3,s4] = .ok (.nx [.va R,.ow (.lst (acc++ls.flatMap lB)),s2,s3,y4])
 | [],acc,s4,_,_=>⟨s4,by simp[bh]⟩
 | t::ls,acc,s4,hl,hn=>by
  rw[Jq]at hn
  have:=zB t
  have st:blF [.va R,.ow (.lst acc),s2,s3,.va t] = .ok (.nx [.va R,.ow (.lst (acc++lB t)),s2,s3,.va t]):=zM (l:=acc) (aF (ts:=[t]) rfl (xt (hl t Jj))) rfl (by omega)
  obtain⟨y4,ih⟩:=wb R cs s2 s3 ls (acc++lB t) (.va t) (λu h=>hl u (Jh _ h)) (by rw[Ju];omega)
  refine⟨y4,?_⟩
  rw[dY (Z1:=[.va R,.ow (.lst acc),s2,s3,.va t]) rfl st,ih,MZ,JV]
theorem jS {R:T}(hp:R.pl=true)(h:kW R=true):bi [R] = .ok .non:=by
 refine qz (Z:=[.va R]) rfl ?_
 show fT [.va R] =_
 unfold fT;exact(cM ((jg (k:=true) (bx (aF (ts:=[R]) rfl (by rw[Ag R hp,h])))))).trans rfl
structure Good (cs ls:List T):Prop where
 c:aX (.tup cs)=true
 l:∀t∈ls,bL cs t=true
 n:ls.length<=8
 p:(RR cs ls).pl=true
theorem Good.ok {cs ls:List T}(g:Good cs ls):kW (RR cs ls)=true:=by
 show(aX (.tup cs)&&(dw (.tup ls) 0 8&&ls.all (bL cs)))=true
 rw[g.c,Ni,Jo,JL];exact⟨by simp[dw];exact g.n,g.l⟩
theorem Am {cs ls:List T}(g:Good cs ls):cp [RR cs ls] = .ok (.lst (FF cs ls)):=by
 obtain⟨hc,c1,c4⟩:=cW g.c
 have hn:=g.n;refine bc rfl ?_
 show m8 [.va (RR cs ls),.em,.em,.em,.em] =_
 unfold m8;rw[ar (lg (t:=.non) (aF (ts:=[RR cs ls]) rfl (jS g.p g.ok)))];rw[ar (Z':=[.va (RR cs ls),.ow (.lst []),.em,.em,.em]) (qA (by simp))]
 obtain⟨y2,y3,e⟩:=wc (RR cs ls) .em cs [] 0 .em .em hc (by simp;omega)
 rw[ar ((gh (ts:=br 0 cs) rfl e))]
 have:=uJ (i:=0) hc;obtain⟨y4,e2⟩:=wb (RR cs ls) cs y2 y3 ls ([] ++bC 0 cs) .em g.l (by rw[LO];omega)
 rw[ar ((gh (ts:=ls) rfl e2))]
 rfl
theorem yM {l:List T}:(T.tup l).pl=plS l:=by unfold T.pl;rfl
theorem BM {l:List T}{r:Int}(h0:0<=r)(h1:r<l.length):∃t∈l,aO (.lst l) (.int r)= .ok t:=by
 obtain⟨n,rfl⟩:=Kb h0
 have hn:n<l.length:=by omega
 exact⟨l[n],Lg hn,uA hn⟩
theorem Du {t:T}(h:sm 8 t=true):t.pl=true:=CW t h
abbrev peF:En->Rs Fl:=lS 1 (fH (iR (ae (cl cU (ae (o2 aO (vr 3) (cn (.int 2))) ah)) ah)) [none,some 2] (gN 0) bT (bK (ae (vr 1) (ae (vr 0) ah))))
theorem yQ (c0 s1:Sl)(x y:T)(r:List T)(i:Nat)(h:r.length<=4) :
  fH (iR (ae (cl cU (ae (o2 aO (vr 3) (cn (.int 2))) ah)) ah)) [none,some 2] (gN 0) bT (bK (ae (vr 1) (ae (vr 0) ah))) [c0,s1,.va (.int i),.va (.tup [x,y,.tup r])] = .ok (.lst (jZ i r.length)):=
 n4 (E7 (j:=(r.length:Int)) rfl (by omega) (by omega)) (aC (k:=4) (by rw[iF];exact h)) (by simp) λt _=>mk2 _ _
theorem vc:∀(cs:List T) (c0:T) (acc:List T) (i:Nat) (s2 s3:Sl),(∀c∈cs,bz c=true)->acc.length+4*cs.length<=100 →
  ∃y2 y3,bh evG peF (br i cs) [.va c0,.ow (.lst acc),s2,s3] = .ok (.nx [.va c0,.ow (.lst (acc++dS i cs)),y2,y3])
 | [],c0,acc,i,s2,s3,_,_=>⟨s2,s3,by simp[br,bh,dS]⟩
 | c::cs,c0,acc,i,s2,s3,hc,hl=>by
  obtain⟨x,y,r,rfl,r1,r2⟩:=et (hc c Jj);rw[Jq]at hl
  have st:peF [.va c0,.ow (.lst acc),.va (.int i),.va (.tup [x,y,.tup r])] = .ok (.nx [.va c0,.ow (.lst (acc++jZ i r.length)),.va (.int i),.va (.tup [x,y,.tup r])]):=zM (l:=acc) (yQ _ _ x y r i r2) rfl (by rw[gj];omega)
  obtain⟨z2,z3,ih⟩:=vc cs c0 (acc++jZ i r.length) (i+1) (.va (.int i)) (.va (.tup [x,y,.tup r])) (λc h=>hc c (Jh _ h)) (by rw[Ju,gj];omega)
  refine⟨z2,z3,?_⟩
  rw[br,dY (Z1:=[.va c0,.ow (.lst acc),.va (.int i),.va (.tup [x,y,.tup r])]) rfl st,ih,dS,JV]
  rfl
theorem yU {cs ls:List T}(g:Good cs ls):aZ [RR cs ls] = .ok (.lst (dS 0 cs)):=by
 obtain⟨hc,c1,c4⟩:=cW g.c;refine bc rfl ?_
 show m6 [.va (RR cs ls),.em,.em,.em] =_
 unfold m6;rw[ar (lg (t:=.non) (aF (ts:=[RR cs ls]) rfl (jS g.p g.ok)))];rw[ar (Z':=[.va (RR cs ls),.ow (.lst []),.em,.em]) (qA (by simp))]
 obtain⟨y2,y3,e⟩:=vc cs (RR cs ls) [] 0 .em .em hc (by simp;omega)
 rw[ar ((gh (ts:=br 0 cs) rfl e))]
 rfl
theorem qr {cs ls:List T}{t:T}(g:Good cs ls)(ht:t.pl=true)(h:aT cs t=true):b9 [RR cs ls,t] = .ok .non:=by
 refine qz (Z:=[.va (RR cs ls),.va t]) rfl ?_
 show gD [.va (RR cs ls),.va t] =_
 unfold gD;exact(cM ((jg (k:=true) (bx (aF (ts:=[.tup cs,t]) rfl (by rw[qJ cs t g.c ht,h])))))).trans rfl
theorem wV {g:T->En->Rs En}{F:En->Rs Fl}(J:En->Prop){ts:List T}(h:∀t∈ts,∀Z,J Z->∃Z1 Z2,g t Z= .ok Z1/\F Z1= .ok (.nx Z2)/\J Z2){Z:En}(hj:J Z):∃Z',bh g F ts Z= .ok (.nx Z')/\J Z':=
 (sP (p:=λ_=>true) J ts (λt ht Z hj=>by
  obtain⟨Z1,Z2,a,b,c⟩:=h t ht Z hj;exact⟨Z1,a,λ_=>⟨Z2,b,c⟩,λh=>by cases h⟩) Z hj).1 (by simp)
theorem p2 {a b:En->Rs T}{t u:T}{Z:En}(ha:a Z= .ok t)(hb:b Z= .ok u):bK (ae a (ae b ah)) Z= .ok (.tup [t,u]):=dJ (aq ha (aq hb rfl)) (aC (k:=2) (by simp))
theorem oj {l:List T}:ez [.lst l] = .ok (.tup l):=rfl
theorem Cz {cs ls:List T}(g:Good cs ls):(FF cs ls).length<=60:=by
 unfold FF;rw[Ju];obtain⟨hc,c1,c4⟩:=cW g.c
 have:=uJ (i:=0) hc
 have:=vF ls
 have:=g.n;omega
end G
namespace G
open PySem Tr Gr
structure N2 where
 c:Int
 k:Int
deriving DecidableEq
theorem N2.ext':∀{u v:N2},u.c=v.c->u.k=v.k->u=v
 | ⟨_,_⟩,⟨_,_⟩,rfl,rfl=>rfl
def en (v:N2):T:=.tup [.int v.c,.int v.k]
def eB (x:N2×N2×Int):T:=.tup [en x.1,en x.2.1,.int x.2.2]
def eN (ks:List Nat):List T:=ks.map λk=> .int (k:Nat)
def eW (x:Int×List Nat):T:=.tup [.int x.1,.lst (eN x.2)]
def ky (v:N2):List L2.Key:=[.inl v.c,.inl v.k]
theorem ce (v:N2):keyOf (en v)=some (ky v):=rfl
theorem qy {u v:N2}(h:some (ky u)=some (ky v)):u=v:=by
 injection h with h
 injection h with h1 h2
 injection h2 with h2 _
 injection h1 with h1
 injection h2 with h2
 exact N2.ext' h1 h2
theorem Fe {u v:N2}(h:en u=en v):u=v:=qy (by rw[<-ce u,<-ce v,h])
theorem uI (u v:N2):aR (en u) (en v)=decide (u=v):=by
 unfold en aR beqTs aR beqTs beqTs
 by_cases h:u=v
 ·subst h;simp[aR]
 ·have:¬ (u.c=v.c/\u.k=v.k):=λz=>h (N2.ext' z.1 z.2)
  simp[h,aR];exact λz=>λy=>this ⟨z,y⟩
theorem qL (g:N2->T)(v:N2):∀(ns:List N2),j5 (ns.map en) (ns.map g) (ky v)=if v∈ns then some (g v)else none
 | [] =>rfl
 | u::ns=>by
  rw[Jn,Jn,j5,ce]
  by_cases h:u=v
  ·subst h;rw[if_pos rfl,if_pos Jj]
  ·rw[if_neg (λz=>h (qy z)),qL g v ns]
   have:(v∈u::ns)↔v∈ns:=by rw[Jp];exact⟨λz=>z.elim (λy=>absurd y.symm h) id,.inr⟩
   simp only[this]
theorem j0 (x:T)(v:N2)(g:N2->T):∀(ns:List N2),v∉ns->gy (en v) x (ns.map en) (ns.map g)=(ns.map en++ [en v],ns.map g++ [x])
 | [],_=>rfl
 | u::ns,h=>by
  rw[Jp,not_or]at h;rw[Jn,Jn,gy,ce,ce,if_neg (λz=>h.1 (qy z).symm),j0 x v g ns h.2]
  rfl
theorem vZ (x:T)(v:N2)(g:N2->T):∀(ns:List N2),ns.Nodup->v∈ns->gy (en v) x (ns.map en) (ns.map g)=(ns.map en,ns.map λu=>if u=v then x else g u)
 | [],_,h=>by simp at h
 | u::ns,hn,h=>by
  rw[JX]at hn;rw[Jn,Jn,Jn,gy,ce,ce]
  by_cases z:u=v
  ·subst z
   rw[if_pos rfl,if_pos rfl]
   congr 2
   exact Kk λw hw=>by rw[if_neg (λ(y:w=u)=>hn.1 (y▸hw))]
  ·rw[if_neg (λy=>z (qy y)),if_neg z]
   have h':v∈ns:=(Jp.mp h).elim (λy=>absurd y.symm z) id
   rw[vZ x v g ns hn.2 h']
theorem ge {α:Type}[DecidableEq α]:∀{l m:List α},l.Nodup->(∀x∈l,x∈m)->l.length<=m.length
 | [],_,_,_=>KA _
 | x::l,m,hn,h=>by
  rw[JX]at hn
  have hx:=h x Jj
  have:=ge (m:=m.erase x) hn.2 λy hy=>(Pj (λ(z:y=x)=>hn.1 (z▸hy))).mpr (h y (Jh _ hy))
  rw[List.length_erase_of_mem hx]at this
  have:0<m.length:=List.length_pos_of_mem hx;rw[Jq];omega
def oW (o:Option (Int×List Nat)):T:=match o with
 | some x=>eW x
 | none=> .non
structure DR (P ns:List N2)(b:bS N2):Prop where
 nd:ns.Nodup
 mem:∀v,v∈ns↔(b v).isSome=true
 sub:∀v∈ns,v∈P
def dV (ns:List N2)(b:bS N2):List T:=ns.map λv=>oW (b v)
theorem DR.get {P ns:List N2}{b:bS N2}(D:DR P ns b)(v:N2):j5 (ns.map en) (dV ns b) (ky v)=(b v).map eW:=by
 unfold dV;rw[qL (λv=>oW (b v))]
 have:=D.mem v
 cases q:b v with
 | none=>rw[q]at this;rw[if_neg (λz=>by simpa using this.mp z)];rfl
 | some x=>rw[q]at this;rw[if_pos (this.mpr rfl)];rfl
theorem DR.put {P ns:List N2}{b:bS N2}(D:DR P ns b){v:N2}(hv:v∈P)(y:Int×List Nat):∃ns',DR P ns' (Gr.put b v y)/\gy (en v) (eW y) (ns.map en) (dV ns b)=(ns'.map en,dV ns' (Gr.put b v y)):=by
 by_cases h:v∈ns
 ·refine⟨ns,⟨D.nd,λu=> ?_,D.sub⟩,?_⟩
  ·by_cases z:u=v
   ·subst z;rw[dH];exact⟨λ_=>rfl,λ_=>h⟩
   ·rw[jm z];exact D.mem u
  ·unfold dV
   rw[vZ _ _ _ _ D.nd h]
   congr 1
   refine Kk λu _=> ?_
   by_cases z:u=v
   ·subst z;rw[if_pos rfl,dH];rfl
   ·rw[if_neg z,jm z]
 ·refine⟨ns++ [v],⟨?_,λu=> ?_,λu hu=> ?_⟩,?_⟩
  ·exact Kp.mpr ⟨D.nd,by simp,λx hx y hy=>by simp at hy;subst hy;exact λz=>h (z▸hx)⟩
  ·rw[JS,JB]
   by_cases z:u=v
   ·subst z;rw[dH];exact⟨λ_=>rfl,λ_=> .inr rfl⟩
   ·rw[jm z,<-D.mem u];exact⟨λw=>w.elim id λy=>absurd y z,.inl⟩
  ·rcases JS.mp hu with w | w
   ·exact D.sub u w
   ·rw[JB.mp w];exact hv
  ·unfold dV
   rw[j0 _ _ _ _ h,J6,J6]
   congr 1
   congr 1
   ·refine Kk λu hu=> ?_
    rw[jm (λ(z:u=v)=>h (z▸hu))]
   ·simp[dH,oW]
theorem An {P ns:List N2}{b:bS N2}(D:DR P ns b)(x:N2×N2×Int)(d:Int)(w:List Nat) :
  cS [.dct (ns.map en) (dV ns b),eB x,eW (d,w)] = .ok (.bl (dM b x.2.1 (d+x.2.2))):=by
 refine bc rfl ?_
 show iy [.va (.dct (ns.map en) (dV ns b)),.va (eB x),.va (eW (d,w)),.em] =_
 unfold iy
 have g:oD gU (vr 0) (o2 aO (vr 1) (cn (.int 1))) [.va (.dct (ns.map en) (dV ns b)),.va (eB x),.va (eW (d,w)),.em] = .ok (oW (b x.2.1)):=by
  refine GO (ks:=ns.map en) (vs:=dV ns b) (u:=en x.2.1) rfl rfl ?_
  unfold gU;rw[ce];simp only[D.get];cases b x.2.1 <;> rfl
 rw[ar (bq (t:=oW (b x.2.1)) (Z':=[.va (.dct (ns.map en) (dV ns b)),.va (eB x),.va (eW (d,w)),.va (oW (b x.2.1))]) g rfl)];refine bH ?_
 unfold dM
 cases q:b x.2.1 with
 | none=>exact zG (aA (t:=.non) (u:=.non) rfl rfl rfl)
 | some y=>exact(zH (aA (t:=eW y) (u:=.non) rfl rfl rfl)).trans (aA (t:=.int (d+x.2.2)) (u:=.int y.1) rfl rfl rfl)
abbrev AJ:En->Rs Fl:=(ay (cv (ln 2 (oD gU (vr 2) (o2 aO (vr 5) (cn (.int 0))))) (gN 6)) (ay (eO (nF (tb (o2 fx (vr 6) (cn .non))) (c6 (B6 2 (tb (cl cS (ae (vr 2) (ae (vr 5) (ae (vr 6) ah)))))))) CY sN) (ay (cv (o2 aS (o2 aO (vr 6) (cn (.int 1))) (fE (ae (vr 4) ah))) (gN 7)) (ay (cv (fH (iS (vr 7)) [none,some 0] (gN 0) bT (o2 aO (o2 aO (vr 1) (vr 0)) (cn (.int 0)))) (gN 8)) (ay (eO (tb (o2 FE (o2 aO (vr 5) (cn (.int 1))) (vr 8))) (aG (bK (ae (cn .non) (ae (sl (vr 7) (pS (oL bF (vr 8) (o2 aO (vr 5) (cn (.int 1))))) pN) ah)))) sN) (ay (wA 2 (o2 aO (vr 5) (cn (.int 1))) (bK (ae (o2 aS (o2 aO (vr 6) (cn (.int 0))) (o2 aO (vr 5) (cn (.int 2)))) (ae (vr 7) ah)))) (cv (cn (.bl true)) (gN 3))))))))
abbrev Hl:T->En->Rs En:=gT 2 (gW (gN 4) (gW (gN 5) oU))
def eL (L:bj N2):T:=.lst (L.map eB)
def yj (L:bj N2)(t:T):T:=match t with
 | .int j=>match L[j.toNat]? with
  | some x=>en x.1
  | none=> .non
 | _=> .non
theorem ve {L:bj N2}:∀{ks:List Nat} {a b:N2},Ch L a ks b->(eN ks).map (yj L)=(dP L ks).map en
 | [],_,_,_=>rfl
 | k::r,a,b,h=>by
  rw[h.HM];obtain⟨c,m,e,h⟩:=h
  show yj L (.int k)::(eN r).map (yj L)=en a::(dP L r).map en
  rw[ve h]
  congr 1
  unfold yj;simp only[Ko,e]
theorem Az (v:N2):∀(l:List N2),pi (en v) (l.map en)=decide (v∈l)
 | [] =>rfl
 | u::l=>by
  have ih:=Az v l;unfold pi at ih ⊢;rw[Jn,LY,ih,uI]
  by_cases h:u=v
  ·subst h;simp
  ·have h':¬ v=u:=λz=>h z.symm
   simp[h,h']
theorem tu (v:N2):∀(l:List N2) (n:Nat),v∈l->iQ (en v) (l.map en) n=some (n+l.idxOf v)
 | [],n,h=>by simp at h
 | u::l,n,h=>by
  rw[Jn,iQ,uI,Rq]
  by_cases z:u=v
  ·subst z;simp
  ·have h':v∈l:=(Jp.mp h).elim (λy=>absurd y.symm z) id
   have zb:(u == v)=false:=by rw[beq_eq_false_iff_ne];exact z
   rw[zb,decide_eq_false z,if_neg JP,tu v l (n+1) h'];simp only[cond_false]
   congr 1
   omega
theorem C3 (v:N2):(en v).nd=true:=rfl
theorem qt {α:Type}(f:α->T)(h:∀a,(f a).nd=true):∀l:List α,nds (l.map f)=true
 | [] =>rfl
 | a::l=>by rw[Jn,nds,h a,qt f h l];rfl
theorem uE (v:N2):(en v).dep<=60:=by show(T.tup [.int v.c,.int v.k]).dep<=60;simp[T.dep,deps]
theorem GT (v:N2)(l:List N2):FE (en v) (.lst (l.map en))= .ok (.bl (decide (v∈l))):=by
 show(if (_\/_)/\_/\(T.lst (l.map en)).nd=true then _ else _)=_
 rw[if_pos ⟨.inl (uE v),rfl,qt en C3 l⟩,Az]
theorem fy (v:N2)(l:List N2)(h:v∈l):bF (.lst (l.map en)) (en v)= .ok (.int ((l.idxOf v:Nat):Int)):=by
 unfold bF;simp only;rw[if_pos ⟨.inl (uE v),rfl,qt en C3 l⟩,tu v l 0 h,QF]
theorem Fj (p q:List Nat):eN (p++q)=eN p++eN q:=by unfold eN;rw[J6]
theorem ze (D:Bool):∀ks:List Nat,nks D (eN ks)=true
 | [] =>rfl
 | k::r=>by show nks D (.int k::eN r)=true;unfold nks;rw[ze D r];rfl
theorem Ch.len {L:bj N2}{ks:List Nat}{a b:N2}(h:Ch L a ks b)(hn:(dP L ks).Nodup):ks.length<=L.length:=by
 have:=ge (h.nodup hn) (m:=Kv L.length) λk hk=>KY.mpr (h.lt k hk)
 rwa [Lm]at this
abbrev sE (L:bj N2)(st:T)(o:OT)(b:Bool)(k:Nat)(x:N2×N2×Int)(s6 s7 s8:Sl):En:=[.va (eL L),.va st,.ow o,.va (.bl b),.va (.int k),.va (eB x),s6,s7,s8]
def Di (L:bj N2)(P ns:List N2)(b:bS N2)(k:Nat)(x:N2×N2×Int)(st:T)(mv:Bool)(s6 s7 s8:Sl):Sum (Option (bS N2)) (List Nat)->Prop
 | .inl none=> ∃s6' s7' s8',AJ (sE L st (.dct (ns.map en) (dV ns b)) mv k x s6 s7 s8)= .ok (.ct (sE L st (.dct (ns.map en) (dV ns b)) mv k x s6' s7' s8'))
 | .inl (some b')=> ∃ns' s6' s7' s8',DR P ns' b'/\AJ (sE L st (.dct (ns.map en) (dV ns b)) mv k x s6 s7 s8)= .ok (.nx (sE L st (.dct (ns'.map en) (dV ns' b')) true k x s6' s7' s8'))
 | .inr q=>AJ (sE L st (.dct (ns.map en) (dV ns b)) mv k x s6 s7 s8)= .ok (.rt (.tup [.non,.lst (eN q)]))
theorem Bd {L:bj N2}{S P ns:List N2}{b:bS N2}{k:Nat}{x:N2×N2×Int}(K:Kept L S b)(D:DR P ns b)(hL:L.length<=500)(hP:P.length<1000)(e:L[k]? =some x)(hx:x.2.1∈P)(st:T)(mv:Bool)(s6 s7 s8:Sl) :
  Di L P ns b k x st mv s6 s7 s8 (gd L b k x):=by
 obtain⟨a,c,m⟩:=x;unfold Di
 generalize hks:ns.map en=ks
 generalize hvs:dV ns b=vs
 have get:∀s7 s8,ln 2 (oD gU (vr 2) (o2 aO (vr 5) (cn (.int 0)))) (sE L st (.dct ks vs) mv k (a,c,m) s6 s7 s8)= .ok (oW (b a)):=λs7 s8=>by
  refine GP (o:=.dct ks vs) rfl (GO (ks:=ks) (vs:=vs) (u:=en a) rfl rfl ?_) ?_
  ·unfold gU
   rw[ce,<-hks,<-hvs];simp only[D.get];cases b a <;> rfl
  ·cases b a with
   | none=>rfl
   | some y=>show nks true [.int y.1,.lst (eN y.2)] =true;simp[nks,T.nk,ze]
 have s1:∀G,ay (cv (ln 2 (oD gU (vr 2) (o2 aO (vr 5) (cn (.int 0))))) (gN 6)) G (sE L st (.dct ks vs) mv k (a,c,m) s6 s7 s8)=G (sE L st (.dct ks vs) mv k (a,c,m) (.va (oW (b a))) s7 s8):=λG=>
  ar (bq (t:=oW (b a)) (get s7 s8) rfl)
 cases qa:b a with
 | none=>
  rw[show gd L b k (a,c,m)= .inl none from by unfold gd;simp only[qa]]
  simp only;refine⟨.va .non,s7,s8,?_⟩
  unfold AJ;rw[s1,qa]
  exact zF (ik (F:=CY) (GN (bx (aA (t:=.non) (u:=.non) rfl rfl rfl))))
 | some y=>
  obtain⟨d,w⟩:=y
  have bt:∀s7 s8,B6 2 (tb (cl cS (ae (vr 2) (ae (vr 5) (ae (vr 6) ah))))) (sE L st (.dct ks vs) mv k (a,c,m) (.va (eW (d,w))) s7 s8)= .ok (dM b c (d+m)):=λs7 s8=>by
   refine C7 (bx (aF (ts:=[.dct ks vs,eB (a,c,m),eW (d,w)]) rfl ?_))
   rw[<-hks,<-hvs];exact An D (a,c,m) d w
  have nn:tb (o2 fx (vr 6) (cn .non)) (sE L st (.dct ks vs) mv k (a,c,m) (.va (eW (d,w))) s7 s8)= .ok false:=bx (aA (t:=eW (d,w)) (u:=.non) rfl rfl rfl)
  have cond:=zI nn (jg (bt s7 s8))
  have s1':∀G,ay (cv (ln 2 (oD gU (vr 2) (o2 aO (vr 5) (cn (.int 0))))) (gN 6)) G (sE L st (.dct ks vs) mv k (a,c,m) s6 s7 s8)=G (sE L st (.dct ks vs) mv k (a,c,m) (.va (eW (d,w))) s7 s8):=λG=>by rw[s1 G,qa];rfl
  cases hb:dM b c (d+m)with
  | false=>
   rw[show gd L b k (a,c,m)= .inl none from by unfold gd;simp only[qa,hb];rfl]
   simp only;rw[hb]at cond;refine⟨.va (eW (d,w)),s7,s8,?_⟩
   unfold AJ;rw[s1']
   exact zF (ik (F:=CY) cond)
  | true=>
   rw[hb]at cond;obtain⟨s,hs,h1,h2,h3,h4,h5⟩:=K.walk a d w qa
   have hch:Ch L s (w++ [k]) c:=h1.snoc e
   have hwl:w.length<=500:=JQ (Ch.len h1 h4) hL
   have s2:∀G,ay (eO (nF (tb (o2 fx (vr 6) (cn .non))) (c6 (B6 2 (tb (cl cS (ae (vr 2) (ae (vr 5) (ae (vr 6) ah)))))))) CY sN) G (sE L st (.dct ks vs) mv k (a,c,m) (.va (eW (d,w))) s7 s8)=G (sE L st (.dct ks vs) mv k (a,c,m) (.va (eW (d,w))) s7 s8):=λG=>
    ar (Z':=(sE L st (.dct ks vs) mv k (a,c,m) (.va (eW (d,w))) s7 s8)) ((cM (F:=CY) (G:=sN) cond).trans rfl)
   have wk:o2 aS (o2 aO (vr 6) (cn (.int 1))) (fE (ae (vr 4) ah)) (sE L st (.dct ks vs) mv k (a,c,m) (.va (eW (d,w))) s7 s8)= .ok (.lst (eN (w++ [k]))):=by
    refine aA (t:=.lst (eN w)) (u:=.lst (eN [k])) rfl (jh (ts:=[.int k]) rfl (aC (k:=1) (by simp))) ?_
    show jf (eN w++eN [k])=_
    rw[<-Fj];unfold jf;rw[if_pos (aC (k:=1000) (by unfold eN;rw[Jm,Ju];simp;omega))]
   have s3:∀G,ay (cv (o2 aS (o2 aO (vr 6) (cn (.int 1))) (fE (ae (vr 4) ah))) (gN 7)) G (sE L st (.dct ks vs) mv k (a,c,m) (.va (eW (d,w))) s7 s8)=G (sE L st (.dct ks vs) mv k (a,c,m) (.va (eW (d,w))) (.va (.lst (eN (w++ [k])))) s8):=λG=>ar (bq wk rfl)
   have ps:fH (iS (vr 7)) [none,some 0] (gN 0) bT (o2 aO (o2 aO (vr 1) (vr 0)) (cn (.int 0))) (sE L st (.dct ks vs) mv k (a,c,m) (.va (eW (d,w))) (.va (.lst (eN (w++ [k])))) s8)= .ok (.lst ((dP L (w++ [k])).map en)):=by
    rw[<-ve hch];refine n4 (ts:=eN (w++ [k])) (jX rfl) (aC (k:=1000) (by unfold eN;rw[Jm,Ju];simp;omega)) (by simp) λt ht=> ?_
    unfold eN at ht;obtain⟨j,hj,rfl⟩:=JH.mp ht
    have hjl:=hch.lt j hj;refine aA (t:=eB L[j]) (u:=.int 0) (zK (l:=L.map eB) (n:=j) rfl rfl (by rw[JG,Jx hjl];rfl)) rfl ?_
    unfold yj;simp only[Ko,Jx hjl]
    rfl
   have s4:∀G,ay (cv (fH (iS (vr 7)) [none,some 0] (gN 0) bT (o2 aO (o2 aO (vr 1) (vr 0)) (cn (.int 0)))) (gN 8)) G (sE L st (.dct ks vs) mv k (a,c,m) (.va (eW (d,w))) (.va (.lst (eN (w++ [k])))) s8)=G (sE L st (.dct ks vs) mv k (a,c,m) (.va (eW (d,w))) (.va (.lst (eN (w++ [k])))) (.va (.lst ((dP L (w++ [k])).map en)))):=λG=>ar (bq ps rfl)
   have inn:tb (o2 FE (o2 aO (vr 5) (cn (.int 1))) (vr 8)) (sE L st (.dct ks vs) mv k (a,c,m) (.va (eW (d,w))) (.va (.lst (eN (w++ [k])))) (.va (.lst ((dP L (w++ [k])).map en))))= .ok (decide (c∈dP L (w++ [k]))):=
    bx (aA (t:=en c) (u:=.lst ((dP L (w++ [k])).map en)) rfl rfl (GT c _))
   by_cases hn:c∈dP L (w++ [k])
   ·rw[show gd L b k (a,c,m)= .inr ((w++ [k]).drop ((dP L (w++ [k])).idxOf c))from by unfold gd;simp only[qa,hb,if_pos hn,if_true]]
    simp only;unfold AJ;rw[s1',s2,s3,s4];rw[decide_eq_true hn]at inn;refine ij ((ik inn).trans (bH ?_))
    have sle:sl (vr 7) (pS (oL bF (vr 8) (o2 aO (vr 5) (cn (.int 1))))) pN (sE L st (.dct ks vs) mv k (a,c,m) (.va (eW (d,w))) (.va (.lst (eN (w++ [k])))) (.va (.lst ((dP L (w++ [k])).map en))))= .ok (.lst (eN ((w++ [k]).drop ((dP L (w++ [k])).idxOf c)))):=by
     rw[C6 (l:=eN (w++ [k])) (lo:=some (((dP L (w++ [k])).idxOf c:Nat):Int)) (hi:=none) rfl (GM (ut (ks:=(dP L (w++ [k])).map en) (u:=en c) rfl rfl (fy c _ hn))) rfl,Av];unfold eN;rw[List.map_drop]
    exact(dJ (ts:=[.non,.lst (eN ((w++ [k]).drop ((dP L (w++ [k])).idxOf c)))]) (aq rfl (aq sle rfl)) (aC (k:=2) (by simp)))
   ·rw[show gd L b k (a,c,m)= .inl (some (Gr.put b c (d+m,w++ [k])))from by unfold gd;simp only[qa,hb,if_neg hn,if_true]]
    simp only;rw[decide_eq_false hn]at inn;obtain⟨ns',D',hd⟩:=D.put hx (d+m,w++ [k]);refine⟨ns',.va (eW (d,w)),.va (.lst (eN (w++ [k]))),.va (.lst ((dP L (w++ [k])).map en)),D',?_⟩
    unfold AJ;rw[s1',s2,s3,s4];rw[ar (Z':=(sE L st (.dct ks vs) mv k (a,c,m) (.va (eW (d,w))) (.va (.lst (eN (w++ [k])))) (.va (.lst ((dP L (w++ [k])).map en))))) ((cM (G:=sN) inn).trans rfl)]
    have pt:wA 2 (o2 aO (vr 5) (cn (.int 1))) (bK (ae (o2 aS (o2 aO (vr 6) (cn (.int 0))) (o2 aO (vr 5) (cn (.int 2)))) (ae (vr 7) ah))) (sE L st (.dct ks vs) mv k (a,c,m) (.va (eW (d,w))) (.va (.lst (eN (w++ [k])))) (.va (.lst ((dP L (w++ [k])).map en))))
      = .ok (.nx (sE L st (.dct (ns'.map en) (dV ns' (Gr.put b c (d+m,w++ [k])))) mv k (a,c,m) (.va (eW (d,w))) (.va (.lst (eN (w++ [k])))) (.va (.lst ((dP L (w++ [k])).map en))))):=by
     have ev:bK (ae (o2 aS (o2 aO (vr 6) (cn (.int 0))) (o2 aO (vr 5) (cn (.int 2)))) (ae (vr 7) ah)) (sE L st (.dct ks vs) mv k (a,c,m) (.va (eW (d,w))) (.va (.lst (eN (w++ [k])))) (.va (.lst ((dP L (w++ [k])).map en))))= .ok (eW (d+m,w++ [k])):=
      dJ (ts:=[.int (d+m),.lst (eN (w++ [k]))]) rfl (aC (k:=2) (by simp))
     have ek:o2 aO (vr 5) (cn (.int 1)) (sE L st (.dct ks vs) mv k (a,c,m) (.va (eW (d,w))) (.va (.lst (eN (w++ [k])))) (.va (.lst ((dP L (w++ [k])).map en))))= .ok (en c):=rfl
     show(bK _ _ >>= λv=>o2 aO (vr 5) (cn (.int 1)) _ >>= λkk=>match keyOf kk with | some _=>if ks.length<1000 then Rs.ok (Fl.nx _)else .bad | none=> .bad)=_
     rw[ev,aE,ek,aE,ce]
     have hlen:ks.length<1000:=by rw[<-hks,Jm];exact Ly (ge D.nd D.sub) hP
     simp only[if_pos hlen]
     have hd1:gy (en c) (eW (d+m,w++ [k])) ks vs=(ns'.map en,dV ns' (Gr.put b c (d+m,w++ [k]))):=by rw[<-hks,<-hvs];exact hd
     rw[hd1]
     rfl
    rw[ar pt];exact bq (t:=.bl true) rfl rfl
def xL (L:bj N2)(st:T)(ns:List N2)(b:bS N2)(mv:Bool)(s4 s5 s6 s7 s8:Sl):En:=[.va (eL L),.va st,.ow (.dct (ns.map en) (dV ns b)),.va (.bl mv),s4,s5,s6,s7,s8]
def AC (L:bj N2)(P:List N2)(st:T)(X:Rs Fl):Sum (bS N2×Bool) (List Nat)->Prop
 | .inr q=>X= .ok (.rt (.tup [.non,.lst (eN q)]))
 | .inl (b',mv')=> ∃ns' s4 s5 s6 s7 s8,DR P ns' b'/\X= .ok (.nx (xL L st ns' b' mv' s4 s5 s6 s7 s8))
theorem pG {L:bj N2}{S P:List N2}(hL:L.length<=500)(hP:P.length<1000)(hx:∀x∈L,x.2.1∈P)(st:T):∀(r:bj N2) (k:Nat) (b:bS N2) (mv:Bool) (ns:List N2) (s4 s5 s6 s7 s8:Sl),L.drop k=r->Kept L S b->DR P ns b →
  AC L P st (bh Hl AJ (br k (r.map eB)) (xL L st ns b mv s4 s5 s6 s7 s8)) (gL L k r b mv)
 | [],k,b,mv,ns,s4,s5,s6,s7,s8,_,K,D=>⟨ns,s4,s5,s6,s7,s8,D,rfl⟩
 | x::r,k,b,mv,ns,s4,s5,s6,s7,s8,hr,K,D=>by
  have e:L[k]? =some x:=by
   have:=congrArg (·[0]?) hr
   simpa using this
  have hr':L.drop (k+1)=r:=by
   have:=congrArg (List.drop 1) hr
   simpa [List.drop_drop,Qz]using this
  have tg:Hl (.tup [.int k,eB x]) (xL L st ns b mv s4 s5 s6 s7 s8)= .ok [.va (eL L),.va st,.ow (.dct (ns.map en) (dV ns b)),.va (.bl mv),.va (.int k),.va (eB x),s6,s7,s8]:=rfl
  have tn:=Bd K D hL hP e (hx x (LI e)) st mv s6 s7 s8;rw[gL,Jn,br]
  cases q:gd L b k x with
  | inr w=>
   rw[q]at tn;simp only;unfold AC
   exact vH tg tn
  | inl o=>
   rw[q]at tn
   cases o with
   | none=>
    obtain⟨s6',s7',s8',tn⟩:=tn;simp only;rw[Cc tg tn]
    exact pG hL hP hx st r (k+1) b mv ns _ _ _ _ _ hr' K D
   | some b'=>
    obtain⟨ns',s6',s7',s8',D',tn⟩:=tn;simp only;rw[dY tg tn];refine pG (S:=S) hL hP hx st r (k+1) b' true ns' _ _ _ _ _ hr' ?_ D'
    -- what is kept stays so
    obtain⟨a,c,m⟩:=x;unfold gd at q
    cases qa:b a with
    | none=>simp only[qa]at q;cases q
    | some y=>
     obtain⟨d,w⟩:=y;simp only[qa]at q
     split at q
     ·rename_i hb
      split at q
      ·cases q
      ·rename_i hn
       cases q;exact K.put e qa hb hn
     ·cases q
abbrev wF:En->Rs Fl:=ay (cv (cn (.bl false)) (gN 3)) (gb (iE (ae (vr 0) ah)) Hl AJ)
def SetP (L:bj N2)(P:List N2)(st:T)(X:Rs Fl):Sum (bS N2) (List Nat)->Prop
 | .inr q=>X= .ok (.rt (.tup [.non,.lst (eN q)]))
 | .inl b'=> ∃ns' s4 s5 s6 s7 s8,DR P ns' b'/\X= .ok (.nx (xL L st ns' b' false s4 s5 s6 s7 s8))
theorem rJ {L:bj N2}{S P:List N2}(hL:L.length<=500)(hP:P.length<1000)(hx:∀x∈L,x.2.1∈P)(st:T):∀(n:Nat) (b:bS N2) (ns:List N2) (s4 s5 s6 s7 s8:Sl) (r:Sum (bS N2) (List Nat)),Kept L S b->DR P ns b->Gr.settle L n b=some r →
  SetP L P st (bA (tb (vr 3)) wF (n+1) (xL L st ns b true s4 s5 s6 s7 s8)) r
 | 0,_,_,_,_,_,_,_,_,_,_,h=>by cases h
 | n+1,b,ns,s4,s5,s6,s7,s8,r,K,D,h=>by
  have sw:=pG hL hP hx st L 0 b false ns s4 s5 s6 s7 s8 rfl K D
  have ok:=gY (S:=S) L 0 b false rfl K
  have body:∀X,bh Hl AJ (br 0 (L.map eB)) (xL L st ns b false s4 s5 s6 s7 s8)= .ok X->wF (xL L st ns b true s4 s5 s6 s7 s8)= .ok X:=λX hX=>by
   show ay _ _ _=_
   rw[ar (Z':=xL L st ns b false s4 s5 s6 s7 s8) (bq (t:=.bl false) rfl rfl)];exact gh (ts:=br 0 (L.map eB)) (vI rfl) hX
  have tt:tb (vr 3) (xL L st ns b true s4 s5 s6 s7 s8)= .ok true:=rfl;rw[Gr.settle]at h
  revert sw ok h
  generalize gL L 0 L b false=R
  intro h sw ok
  cases R with
  | inr q=>
   simp only at h;cases h
   exact zC tt (body _ sw)
  | inl p=>
   obtain⟨b',mv'⟩:=p;obtain⟨ns',t4,t5,t6,t7,t8,D',sw⟩:=sw;obtain⟨K',_⟩:=ok
   cases mv' with
   | true=>
    simp only at h
    have ih:=rJ hL hP hx st n b' ns' t4 t5 t6 t7 t8 r K' D' h;rw[sV tt (body _ sw)]
    exact ih
   | false=>
    simp only at h;cases h;refine⟨ns',t4,t5,t6,t7,t8,D',?_⟩
    rw[sV tt (body _ sw)];exact zD rfl
theorem gm {c:En->Rs Bool}{F:En->Rs Fl}{x:Fl}:∀{n m:Nat} {Z:En},n<=m->bA c F n Z= .ok x->bA c F m Z= .ok x
 | 0,_,_,_,h=>by cases h
 | n+1,0,_,hl,_=>absurd hl (by omega)
 | n+1,m+1,Z,hl,h=>by
  unfold bA at h ⊢
  cases q:c Z with
  | bad=>rw[q]at h;cases h
  | err _=>rw[q]at h;cases h
  | ok k=>
   rw[q]at h
   cases k with
   | false=>exact h
   | true=>
    simp only at h ⊢
    cases q2:F Z with
    | bad=>rw[q2]at h;cases h
    | err _=>rw[q2]at h;cases h
    | ok f=>
     rw[q2]at h
     cases f with
     | nx Z'=>exact gm (by omega) h
     | ct Z'=>exact gm (by omega) h
     | bk Z'=>exact h
     | rt t=>exact h
theorem yL (w:T):∀S:List N2,FC (S.map λv=> .tup [en v,w])=some (S.map λv=>(en v,w))
 | [] =>rfl
 | v::S=>by rw[Jn,FC,ce,yL w S];rfl
theorem tE (w:T):∀(S ns:List N2) (g:N2->T),(ns++S).Nodup->(∀v∈S,g v=w)->fD (S.map λv=>(en v,w)) (ns.map en,ns.map g)=((ns++S).map en,(ns++S).map g)
 | [],ns,g,_,_=>by rw[Km];rfl
 | v::S,ns,g,hn,hg=>by
  have hv:v∉ns:=λz=>by
   rw[Kp]at hn;exact hn.2.2 v z v Jj rfl
  rw[Jn,fD,j0 _ _ _ _ hv]
  have e1:ns.map en++ [en v] =(ns++ [v]).map en:=by rw[J6];rfl
  have e2:ns.map g++ [w] =(ns++ [v]).map g:=by rw[J6,<-hg v Jj];rfl
  rw[e1,e2,tE w S (ns++ [v]) g (by rw[JV];exact hn) λu hu=>hg u (Jh _ hu),JV]
  rfl
theorem Cq (w:T)(S:List N2)(hn:S.Nodup)(hl:S.length<=1000):v6 [.lst (S.map λv=> .tup [en v,w])] = .ok (.dct (S.map en) (S.map λ_=>w)):=by
 unfold v6;simp only[yL];rw[if_pos (by rw[Jm];exact hl)]
 have:=tE w S [] (λ_=>w) (by simpa using hn) (λ_ _=>rfl)
 rw[LO]at this;rw[show(([]:List T),([]:List T))=(([]:List N2).map en,([]:List N2).map λ_=>w)from rfl,this]
def eS (S:List N2):T:=.lst (S.map en)
def CF (L:bj N2)(P:List N2)(X:Rs T):Sum (bS N2) (List Nat)->Prop
 | .inr q=>X= .ok (.tup [.non,.lst (eN q)])
 | .inl b'=> ∃ns',DR P ns' b'/\X= .ok (.tup [.dct (ns'.map en) (dV ns' b'),.non])
structure AH (L:bj N2)(P:List N2):Prop where
 len:L.length<=500
 size:size L<=100000000
 ends:∀x∈L,x.1∈P/\x.2.1∈P
 pl:P.length<1000
def SOk (L:bj N2)(S:List N2):Sum (bS N2) (List Nat)->Prop
 | .inr q=>Bar L q
 | .inl b'=>Settled L S b'
theorem mO {L:bj N2}{S P:List N2}(F:AH L P)(hS:S.Nodup)(hSP:∀v∈S,v∈P):∃r,CF L P (ee [eL L,eS S]) r/\SOk L S r:=by
 have bound:L.length*(2*size L+1)<1000000000000 - 1:=by
  have h1:=F.len
  have h2:=F.size
  have:L.length*(2*size L+1)<=500*(2*100000000+1):=Nat.mul_le_mul h1 (by omega)
  omega
 obtain⟨r,hr,ok⟩:=tV L S bound
 have ok':SOk L S r:=by cases r <;> exact ok
 refine⟨r,?_,ok'⟩
 have hSl:S.length<=1000:=JQ (ge hS hSP) (by have:=F.pl;omega)
 have D0:DR P S (Gr.start S):=⟨hS,λv=>by unfold Gr.start;by_cases h:v∈S <;> simp[h],hSP⟩
 have dv0:dV S (Gr.start S)=S.map λ_=>eW (0,[]):=Kk λv hv=>by unfold Gr.start;rw[if_pos hv];rfl
 have w:=rJ F.len F.pl (λx hx=>(F.ends x hx).2) (eS S) _ (Gr.start S) S .em .em .em .em .em r (mH L S) D0 hr
 have lc:fH (iS (vr 1)) [none] (gN 0) bT (bK (ae (vr 0) (ae (bK (ae (cn (.int 0)) (ae (fE ah) ah))) ah))) [.va (eL L),.va (eS S),.em,.em,.em,.em,.em,.em,.em] = .ok (.lst (S.map λv=> .tup [en v,eW (0,[])])):=by
  have:=n4 (fi:=iS (vr 1)) (src:=[none]) (fe:=bK (ae (vr 0) (ae (bK (ae (cn (.int 0)) (ae (fE ah) ah))) ah))) (h:=λt=> .tup [t,eW (0,[])]) (Z:=[.va (eL L),.va (eS S),.em,.em,.em,.em,.em,.em,.em]) (ts:=S.map en) (jX rfl) (aC (k:=1000) (by rw[Jm];exact hSl)) (by simp) λt _=>
   dJ (ts:=[t,eW (0,[])]) (aq rfl (aq (dJ (ts:=[.int 0,.lst []]) (aq rfl (aq (jh (ts:=[]) rfl (KA _)) rfl)) (aC (k:=2) (by simp))) rfl)) (aC (k:=2) (by simp))
  rw[this,KJ];rfl
 have n0:ox 2 (fH (iS (vr 1)) [none] (gN 0) bT (bK (ae (vr 0) (ae (bK (ae (cn (.int 0)) (ae (fE ah) ah))) ah)))) [.va (eL L),.va (eS S),.em,.em,.em,.em,.em,.em,.em] = .ok (.nx [.va (eL L),.va (eS S),.ow (.dct (S.map en) (dV S (Gr.start S))),.em,.em,.em,.em,.em,.em]):=by
  unfold ox;rw[lc,aE,Cq _ S hS hSl,aE,dv0]
  rfl
 have main:∀G X,bA (tb (vr 3)) wF FU (xL L (eS S) S (Gr.start S) true .em .em .em .em .em)= .ok X->iu [.va (eL L),.va (eS S),.em,.em,.em,.em,.em,.em,.em] =G->(ay (bA (tb (vr 3)) wF FU) (nC 2 (aG (bK (ae (vr 2) (ae (cn .non) ah)))))) (xL L (eS S) S (Gr.start S) true .em .em .em .em .em)=G:=λG X _ h=>by
  rw[<-h];unfold iu;rw[ar n0,ar (Z':=xL L (eS S) S (Gr.start S) true .em .em .em .em .em) (bq (t:=.bl true) rfl rfl)]
 cases r with
 | inr q=>
  have w':=gm (m:=FU) (by unfold FU;omega) w
  refine bc rfl ?_
  show iu [.va (eL L),.va (eS S),.em,.em,.em,.em,.em,.em,.em] =_
  rw[<-main _ _ w' rfl]
  exact ij w'
 | inl b'=>
  obtain⟨ns',s4,s5,s6,s7,s8,D',w⟩:=w
  have w':=gm (m:=FU) (by unfold FU;omega) w
  refine⟨ns',D',bc rfl ?_⟩
  show iu [.va (eL L),.va (eS S),.em,.em,.em,.em,.em,.em,.em] =_
  rw[<-main _ _ w' rfl,ar w'];exact GS (bH (dJ (ts:=[.dct (ns'.map en) (dV ns' b'),.non]) rfl (aC (k:=2) (by simp))))
theorem mr {α:Type}{f:α->T}{p:α->Prop}:∀{l:List T},(∀t∈l,∃x,t=f x/\p x)->∃L:List α,l=L.map f/\∀x∈L,p x
 | [],_=>⟨[],rfl,λ_ h=>nomatch h⟩
 | t::l,h=>by
  obtain⟨x,e,hx⟩:=h t Jj;obtain⟨L,e2,h2⟩:=mr (l:=l) λu hu=>h u (Jh _ hu)
  exact⟨x::L,by rw[e,e2];rfl,λy hy=>(Jp.mp hy).elim (λz=>z▸hx) (h2 y)⟩
theorem uG {t:T}(h:bz t=true):∃(x y:Int) (r:List Int),t= .tup [.int x,.int y,.tup (r.map .int)]/\(0<=x/\x<=9)/\(0<=y/\y<=9)/\∀k,0<=r.getD k 0/\r.getD k 0<=99:=by
 obtain⟨x,y,r,rfl,h1,h2,h3,h4⟩:=ju h;refine⟨x,y,r,rfl,h1,h2,λk=> ?_⟩
 have h':(nE (.int x) (.int y)&&cN (.tup (r.map .int)))=true:=h;rw[Jo]at h'
 have hr:=h'.2;unfold cN at hr;rw[Jo]at hr
 have hr2:(((r.map T.int).all λu=>a9 u 0 99)&&(match nums (r.map .int)with | some m=>m9 m | none=>false))=true:=hr.2
 rw[Jo]at hr2
 by_cases hk:k<r.length
 ·have:=JL.mp hr2.1 (.int r[k]) (JH.mpr ⟨_,Lg hk,rfl⟩)
  obtain⟨i,e,a,b⟩:=du this;cases e;simp[hk];exact⟨a,b⟩
 ·simp[hk]
theorem vo {cs:List T}{i:Nat}:∀{cs0:List T} {c k:Nat},i<=c->c<i+cs0.length->k<DB (cs0.getD (c - i) .non)->T.tup [.int c,.int k] ∈dS i cs0:=by
 intro cs0
 induction cs0 generalizing i with
 | nil=>intro c k h1 h2;simp at h2;omega
 | cons a r ih=>
  intro c k h1 h2 h3;rw[dS,JS]
  by_cases e:c=i
  ·subst e
   rw[NN]at h3
   have h3':k<DB a:=h3;exact .inl (JH.mpr ⟨.int k,B2 h3',rfl⟩)
  ·refine .inr (ih (by omega) (by rw[Jq]at h2;omega) ?_)
   rw[show c - i=(c - (i+1))+1 by omega]at h3
   exact h3
theorem oZ {cs:List T}{t:T}(h:aT cs t=true):t∈dS 0 cs:=by
 obtain⟨c,k,rfl⟩:=eh h;unfold aT at h;simp only[Jo,decide_eq_true_eq]at h;obtain⟨⟨h1,h2⟩,h3,h4⟩:=h;obtain⟨c,rfl⟩:=Kb h1;obtain⟨k,rfl⟩:=Kb h3;rw[oA]at h4;exact vo (cs:=cs) (KA _) (by omega) (by rw[OL];omega)
theorem Ad {cs:List T}{t:T}(h:t∈dS 0 cs):∃v:N2,t=en v/\True:=by
 obtain⟨c,k,rfl,_⟩:=jU cs 0 h;exact⟨⟨c,k⟩,rfl,trivial⟩
def big (x:N2×N2×Int):Prop:=x.2.2.natAbs<=999
theorem oJ {a b:Int}(ha : -99<=a/\a<=99)(hb:0<=b/\b<=9):(a*b).natAbs<=999:=by
 rw[Int.natAbs_mul]
 have h1:a.natAbs<=99:=by omega
 have h2:b.natAbs<=9:=by omega
 exact JQ (Nat.mul_le_mul h1 h2) (by decide)
theorem Dh {cs0:List T}:∀{cs:List T} {i:Nat},(∀c∈cs,bz c=true)->(∀c k:Nat,i<=c->c<i+cs.length->k<DB (cs.getD (c - i) .non)->T.tup [.int c,.int k] ∈dS 0 cs0) →
  ∀t∈bC i cs,∃x,t=eB x/\(en x.1∈dS 0 cs0/\en x.2.1∈dS 0 cs0/\big x)
 | [],_,_,_,t,h=>by simp[bC]at h
 | c::cs,i,hc,hm,t,h=>by
  rw[bC,JS]at h;rcases h with h | h
  ·obtain⟨x,y,r,rfl,hx,hy,hr⟩:=uG (hc c Jj)
   have hm0:∀k,k<r.length->T.tup [.int i,.int k] ∈dS 0 cs0:=λk hk=>hm i k (Jv _) (by simp) (by rw[NN];show k<(r.map T.int).length;rw[Jm];exact hk)
   rw[uS]at h;unfold cB at h;obtain⟨k,hk,hp⟩:=Ov.mp h
   have hk:=KY.mp hk
   have d : -99<=dr r k/\dr r k<=99:=by have:=hr k;have:=hr (k+1);unfold dr;omega
   unfold pr at hp;simp only[Jp,JN,or_false]at hp;rcases hp with rfl | rfl
   ·exact⟨(⟨i,k⟩,⟨i,((k+1:Nat):Int)⟩,dr r k*y),rfl,hm0 k (by omega),hm0 (k+1) (by omega),oJ d hy⟩
   ·exact⟨(⟨i,((k+1:Nat):Int)⟩,⟨i,k⟩,-dr r k*x),rfl,hm0 (k+1) (by omega),hm0 k (by omega),oJ (by omega) hx⟩
  ·exact Dh (cs:=cs) (i:=i+1) (λc h=>hc c (Jh _ h)) (λc k h1 h2 h3=>hm c k (by omega) (by rw[Jq];omega) (by rw[show c - i=(c - (i+1))+1 by omega];exact h3)) t h
theorem GI {cs:List T}{u:T}(hu:bL cs u=true):∀t∈lB u,∃x,t=eB x/\(en x.1∈dS 0 cs/\en x.2.1∈dS 0 cs/\big x):=by
 intro t ht;obtain⟨a,b,x,y,rfl,hd,ha,hb,_⟩:=jW hu
 have ma:=oZ ha
 have mb:=oZ hb;obtain⟨va,rfl,_⟩:=Ad ma;obtain⟨vb,rfl,_⟩:=Ad mb;unfold d6 at hd;rw[Jo]at hd;obtain⟨i,rfl,i1,i2⟩:=du hd.1
 have e2:lB (.tup [en va,en vb,.int i,y])= .tup [en vb,en va,.int (-i)] ::(if y.isN then []else [.tup [en va,en vb,y]]):=rfl
 rw[e2]at ht;rcases Jp.mp ht with rfl | ht
 ·exact⟨(vb,va,-i),rfl,mb,ma,by unfold big;simp only;omega⟩
 ·cases q:y.isN with
  | true=>rw[q]at ht;simp at ht
  | false=>
   rw[q]at ht
   have ht:t= .tup [en va,en vb,y]:=by simpa using ht
   have hw:a9 y i 999=true:=by
    cases y with
    | non=>cases q
    | _=>exact hd.2
   obtain⟨j,rfl,j1,j2⟩:=du hw;exact⟨(va,vb,j),ht,ma,mb,by unfold big;simp only;omega⟩
structure Rd (cs ls:List T)(L:bj N2)(P:List N2):Prop where
 g:Good cs ls
 b:FF cs ls=L.map eB
 e:dS 0 cs=P.map en
 f:AH L P
 nd:P.Nodup
 pl:P.length<=16
 ll:L.length<=60
 bg:∀x∈L,big x
theorem pF {L:bj N2}(h:∀x∈L,big x):size L<=999*L.length:=by
 unfold size
 induction L with
 | nil=>simp
 | cons x L ih=>
  rw[Jn,K0,Jq]
  have:=ih λy hy=>h y (Jh _ hy)
  have:=h x Jj;unfold big at this;omega
theorem y9 {P:List N2}(h:(P.map en).Nodup):P.Nodup:=by
 induction P with
 | nil=>exact Ll
 | cons a r ih=>
  rw[Jn,JX]at h;exact JX.mpr ⟨λz=>h.1 (JH.mpr ⟨a,z,rfl⟩),ih h.2⟩
theorem u7 {cs ls:List T}(g:Good cs ls):∃L P,Rd cs ls L P:=by
 obtain⟨hc,c1,c4⟩:=cW g.c;obtain⟨P,eP,_⟩:=mr (f:=en) (p:=λ_=>True) (l:=dS 0 cs) λt ht=>Ad ht
 have key:∀t∈FF cs ls,∃x,t=eB x/\(en x.1∈dS 0 cs/\en x.2.1∈dS 0 cs/\big x):=λt ht=>by
  unfold FF at ht;rw[JS]at ht;rcases ht with h | h
  ·exact Dh hc (λc k h1 h2 h3=>vo (cs:=cs) h1 h2 h3) t h
  ·obtain⟨u,hu,h⟩:=Ov.mp h
   exact GI (g.l u hu) t h
 obtain⟨L,eL,hL⟩:=mr key
 have mem:∀v:N2,en v∈dS 0 cs->v∈P:=λv hv=>by
  rw[eP]at hv;obtain⟨u,hu,e⟩:=JH.mp hv;rw[<-Fe e];exact hu
 have hl:=Cz g;rw[eL,Jm]at hl
 have hp:=qH cs 0 hc;rw[eP,Jm]at hp
 have hs:=pF λx hx=>(hL x hx).2.2
 exact⟨L,P,g,eL,eP,⟨by omega,by omega,λx hx=>⟨mem _ (hL x hx).1,mem _ (hL x hx).2.1⟩,by omega⟩,y9 (eP▸kl cs 0),by omega,hl,λx hx=>(hL x hx).2.2⟩
theorem Ea {l:List T}:(T.lst l).pl=plS l:=by unfold T.pl;rfl
def run (L:bj N2):N2->List Nat->Option N2
 | a,[] =>some a
 | a,k::r=>match L[k]? with
  | some x=>if x.1=a then run L x.2.1 r else none
  | none=>none
theorem Dc (u v:N2):qI (en u) (en v)= .ok (.bl (decide (u=v))):=by
 unfold qI;rw[if_pos (gi (uE u) rfl rfl),uI]
theorem iG (f:Nat->Int):∀ks:List Nat,dR (ks.map λk=>T.int (f k))=some (ks.map f)
 | [] =>rfl
 | k::ks=>by rw[Jn,dR,iG f ks];rfl
section
variable {cs ls:List T}{L:bj N2}{P:List N2}
theorem Rd.ev (R:Rd cs ls L P){v:N2}(h:v∈P):aT cs (en v)=true:=Ac (by rw[R.e];exact JH.mpr ⟨v,h,rfl⟩)
theorem Rd.bounds (R:Rd cs ls L P):cp [RR cs ls] = .ok (eL L):=by rw[Am R.g,R.b];rfl
theorem Rd.IA (R:Rd cs ls L P){a b:N2}(ha:a∈P)(hb:b∈P):cH [RR cs ls,en a,en b] = .ok .non:=by
 refine qz (Z:=[.va (RR cs ls),.va (en a),.va (en b)]) rfl ?_
 show fU [.va (RR cs ls),.va (en a),.va (en b)] =_
 unfold fU;rw[ar (lg (t:=.non) (aF (ts:=[RR cs ls]) rfl (jS R.g.p R.g.ok)))];rw[ar (lg (t:=.non) (aF (ts:=[RR cs ls,en a]) rfl (qr R.g rfl (R.ev ha))))];exact lg (t:=.non) (aF (ts:=[RR cs ls,en b]) rfl (qr R.g rfl (R.ev hb)))
end
section
variable {cs ls:List T}{L:bj N2}{P:List N2}
theorem Rd.events (R:Rd cs ls L P):aZ [RR cs ls] = .ok (eS P):=by rw[yU R.g,R.e];rfl
theorem qK {ns:List N2}{b:bS N2}(D:DR P ns b){v:N2}{x:Int×List Nat}(e:b v=some x):iX (.dct (ns.map en) (dV ns b)) (en v)= .ok (eW x):=by
 unfold iX;simp only[ce];rw[D.get,e];rfl
theorem Ap {ns:List N2}{b:bS N2}(D:DR P ns b)(v:N2):Aq (en v) (.dct (ns.map en) (dV ns b))= .ok (.bl (b v).isSome):=by
 unfold Aq;simp only[ce];rw[D.get];cases b v <;> rfl
def fY (P:List N2)(t:N2->Int):T:=.tup (P.map λv=> .int (t v))
def CQ (b:bS N2)(v:N2):Int:=match b v with
 | some x=>x.1
 | none=>0
def atT (t:N2->Int)(u:T):T:=match u with
 | .tup [.int c,.int k] => .int (t ⟨c,k⟩)
 | _=> .non
theorem Rd.Iv (R:Rd cs ls L P):(¬NoNeg L/\eQ [(RR cs ls)] = .ok .non)\/(NoNeg L/\∃t b,Settled L P b/\(∀v∈P,∃w,b v=some (t v,w))/\eQ [(RR cs ls)] = .ok (fY P t)):=by
 obtain⟨r,hr,ok⟩:=mO R.f R.nd (λv h=>h)
 have wrap:∀{w:T},aL [(RR cs ls),eL L] = .ok w->eQ [(RR cs ls)] = .ok w:=λ{w} e=>bc rfl (bH (aF (ts:=[(RR cs ls),eL L]) (aq rfl (aq (aF (ts:=[(RR cs ls)]) rfl R.bounds) rfl)) e))
 have begin_:∀{x z:T} {y:Rs Fl},ee [eL L,eS P] = .ok (.tup [x,z])->((ay (eO (tb (o2 fx (vr 3) (cn .non))) (aG (cn .non)) sN) (aG (cl ez (ae (fH (iS (vr 2)) [none,some 3] (gN 0) bT (o2 aO (o2 iX (vr 1) (vr 0)) (cn (.int 0)))) ah)))) [.va (RR cs ls),.va (eL L),.va (eS P),.va x] =y)->cu [.va (RR cs ls),.va (eL L),.em,.em] =y:=λ{x z y} hs hy=>by
  unfold cu;rw[ar (Z':=[.va (RR cs ls),.va (eL L),.va (eS P),.em]) (bq (aF (ts:=[(RR cs ls)]) rfl R.events) rfl)];rw[ar (Z':=[.va (RR cs ls),.va (eL L),.va (eS P),.va x]) (bq (aA (u:=.int 0) (aF (ts:=[eL L,eS P]) rfl hs) rfl rfl) rfl)];exact hy
 cases r with
 | inr q=>exact .inl ⟨λn=>absurd n (Bar.neg ok),wrap (bc rfl (begin_ hr (ij ((ik (bx (aA (t:=.non) (u:=.non) rfl rfl rfl))).trans rfl))))⟩
 | inl b=>
  obtain⟨ns,D,hr⟩:=hr
  have ok:Settled L P b:=ok
  have htm:∀v∈P,∃w,b v=some (CQ b v,w):=λv hv=>by
   obtain⟨d,w,e,_⟩:=ok.least v hv v 0 (.nil v);exact⟨w,by unfold CQ;rw[e]⟩
  refine .inr ⟨(ok.holds R.f.ends htm).Ii,CQ b,b,ok,htm,wrap (bc rfl (begin_ hr ?_))⟩
  generalize CQ b=tm at htm
  have lc:fH (iS (vr 2)) [none,some 3] (gN 0) bT (o2 aO (o2 iX (vr 1) (vr 0)) (cn (.int 0))) [.va (RR cs ls),.va (eL L),.va (eS P),.va (.dct (ns.map en) (dV ns b))] = .ok (.lst ((P.map en).map (atT tm))):=
   n4 (ts:=P.map en) (jX rfl) (aC (k:=16) (by rw[Jm];exact R.pl)) (by simp) λt ht=>by
    obtain⟨v,hv,rfl⟩:=JH.mp ht;obtain⟨w,e⟩:=htm v hv;exact aA (t:=eW (tm v,w)) (u:=.int 0) (aA (t:=.dct (ns.map en) (dV ns b)) (u:=en v) rfl rfl (qK D e)) rfl rfl
  rw[KJ]at lc;rw[ar (Z':=[.va (RR cs ls),.va (eL L),.va (eS P),.va (.dct (ns.map en) (dV ns b))]) ((cM (bx (aA (t:=.dct (ns.map en) (dV ns b)) (u:=.non) rfl rfl rfl))).trans rfl)];exact bH (aF (aq lc rfl) rfl)
theorem Rd.IL (R:Rd cs ls L P):∃hw:Bool,cT [(RR cs ls)] = .ok (.bl hw)/\(hw=true↔NoNeg L):=by
 rcases R.Iv with⟨n,e⟩ | ⟨n,t,b,_,_,e⟩
 ·exact⟨false,bc rfl (bH (aA (t:=.non) (u:=.non) (aF (ts:=[(RR cs ls)]) rfl e) rfl rfl)),λz=>(by cases z),λz=>absurd z n⟩
 ·exact⟨true,bc rfl (bH (aA (t:=fY P t) (u:=.non) (aF (ts:=[(RR cs ls)]) rfl e) rfl rfl)),λ_=>n,λ_=>rfl⟩
theorem Rd.Ij (R:Rd cs ls L P)(n:NoNeg L):b8 [RR cs ls] = .ok .non:=by
 obtain⟨hw,e,i⟩:=R.IL;rw[i.mpr n]at e;refine qz (Z:=[.va (RR cs ls)]) rfl ?_
 show gC [.va (RR cs ls)] =_
 unfold gC;exact(cM (jg (k:=true) (bx (aF (ts:=[RR cs ls]) rfl e)))).trans rfl
theorem Rd.from_ (R:Rd cs ls L P)(n:NoNeg L){a:N2}(ha:a∈P):∃b ns,Settled L [a] b/\DR P ns b/\cz [RR cs ls,en a] = .ok (.dct (ns.map en) (dV ns b)):=by
 obtain⟨r,hr,ok⟩:=mO (S:=[a]) R.f (by simp) (λv h=>by rw[JB.mp h];exact ha)
 cases r with
 | inr q=>exact absurd n (Bar.neg ok)
 | inl b=>
  obtain⟨ns,D,hr⟩:=hr;refine⟨b,ns,ok,D,bc rfl (bH (aA (u:=.int 0) (aF (ts:=[eL L,eS [a]]) (aq (aF (ts:=[RR cs ls]) rfl R.bounds) (aq (jh (ts:=[en a]) rfl (aC (k:=1) (by simp))) rfl)) hr) rfl rfl))⟩
def zi (o:Option (Int×List Nat)):T:=match o with
 | some x=> .int x.1
 | none=> .non
theorem Rd.IZ (R:Rd cs ls L P)(n:NoNeg L){a c:N2}(ha:a∈P)(hc:c∈P):∃b,Settled L [a] b/\bo [RR cs ls,en a,en c] = .ok (zi (b c)):=by
 obtain⟨b,ns,S,D,e⟩:=R.from_ n ha;refine⟨b,S,bc rfl ?_⟩
 show fG [.va (RR cs ls),.va (en a),.va (en c)] =_
 unfold fG;rw[ar (lg (t:=.non) (aF (ts:=[RR cs ls,en a,en c]) rfl (R.IA ha hc)))];rw[ar (lg (t:=.non) (aF (ts:=[RR cs ls]) rfl (R.Ij n)))];refine bH (aF (ts:=[.dct (ns.map en) (dV ns b),en c]) (aq (aF (ts:=[RR cs ls,en a]) rfl e) rfl) (bc rfl ?_))
 refine bH ((gg (p:=(b c).isSome) (bx (aA (t:=en c) (u:=.dct (ns.map en) (dV ns b)) rfl rfl (Ap D c)))).trans ?_)
 cases q:b c with
 | none=>rfl
 | some x=>exact aA (t:=eW x) (u:=.int 0) (aA (t:=.dct (ns.map en) (dV ns b)) (u:=en c) rfl rfl (qK D q)) rfl rfl
end
def oI (o:Option Int):T:=match o with
 | some x=> .int x
 | none=> .non
def rowsT (P:List N2)(f:cO N2):List (List T×List T):=P.map λu=>(P.map en,P.map λv=>oI (f u v))
section
variable {P:List N2}{L:bj N2}
theorem sU:∀(P:List N2),kU (P.map en)=true
 | [] =>rfl
 | u::P=>by
  have:=sU P;simp[kU,ce,this]
end
theorem zf (b:Bool):vj (.bl b) (.bl b)= .ok (.bl false):=vi rfl (by simp[T.dep])
section
variable {cs ls:List T}{L:bj N2}{P:List N2}{ns:List Int}
theorem vm {a:N2}{b:bS N2}{f:cO N2}(S:Settled L [a] b)(F:cG L P f)(ha:a∈P)(c:N2):zi (b c)=oI (f a c):=by
 cases q:b c with
 | none=>
  cases e:f a c with
  | none=>rfl
  | some y=>
   obtain⟨d,w,z,_⟩:=S.least a (by simp) c y (F.is a c y e)
   rw[q]at z;cases z
 | some x=>
  obtain⟨d,w⟩:=x;obtain⟨s,hs,h1,h2,_⟩:=S.walk c d w q;rw[JB.mp hs]at h1
  have wk:Wk L a c d:=h2▸h1.wk;obtain⟨y,e,hy⟩:=F.le a ha c d wk;obtain⟨d',w',z,hd⟩:=S.least a (by simp) c y (F.is a c y e)
  rw[q]at z;cases z;rw[e]
  show T.int d= .int y
  congr 1
  omega
theorem Rd.Ik (R:Rd cs ls L P)(n:NoNeg L){f:cO N2}(F:cG L P f){a c:N2}(ha:a∈P)(hc:c∈P):bo [(RR cs ls),en a,en c] = .ok (oI (f a c)):=by
 obtain⟨b,S,e⟩:=R.IZ n ha hc;rw[e,vm S F ha]
def qo (o:Option Int):T:=match o with
 | some x=> .int (0 - x)
 | none=> .non
theorem Rd.Il (R:Rd cs ls L P)(n:NoNeg L){f:cO N2}(F:cG L P f){a c:N2}(ha:a∈P)(hc:c∈P):bX [(RR cs ls),en a,en c] = .ok (qo (f c a)):=by
 refine bc rfl ?_
 show eF [.va (RR cs ls),.va (en a),.va (en c),.em] =_
 unfold eF;rw[ar (Z':=[.va (RR cs ls),.va (en a),.va (en c),.va (oI (f c a))]) (bq (aF (ts:=[(RR cs ls),en c,en a]) rfl (R.Ik n F hc ha)) rfl)]
 cases f c a with
 | none=>exact bH ((gg (p:=true) (bx (aA (t:=.non) (u:=.non) rfl rfl rfl))).trans rfl)
 | some x=>
  refine bH ((gg (p:=false) (bx (aA (t:=.int x) (u:=.non) rfl rfl rfl))).trans ((Cb (t:=.int x) rfl rfl).trans ?_))
  show Rs.ok (T.int (-x))= .ok (.int (0 - x))
  rw[Int.zero_sub]
theorem ul {D:Bool}:∀{l:List T},(∀t∈l,t.nk D=true)->nks D l=true
 | [],_=>rfl
 | t::l,h=>by unfold nks;rw[h t Jj,ul λu hu=>h u (Jh _ hu)];rfl
theorem v7 {k:Nat}:∀{l:List T},(∀t∈l,t.dep<=k)->deps l<=k
 | [],_=>by unfold deps;omega
 | t::l,h=>by
  unfold deps;exact Nat.max_le.mpr ⟨h t Jj,v7 λu hu=>h u (Jh _ hu)⟩
end
section
variable {cs ls:List T}{L:bj N2}{P:List N2}{ns:List Int}
def rS (P:List N2)(f:cO N2)(u:N2):T:=.tup (P.map λv=>oI (f u v))
def wo (P:List N2)(f:cO N2):T:=.tup (P.map (rS P f))
theorem EG (D:Bool)(P:List N2)(f:cO N2):(wo P f).nk D=true:=by
 show nks D (P.map (rS P f))=true
 refine ul λt ht=> ?_
 obtain⟨u,_,rfl⟩:=JH.mp ht
 show nks D (P.map λv=>oI (f u v))=true
 refine ul λt ht=> ?_
 obtain⟨v,_,rfl⟩:=JH.mp ht;cases f u v <;> rfl
theorem Ah {b:bS N2}{ms:List N2}(D:DR P ms b)(c:N2):dB [.dct (ms.map en) (dV ms b),en c] = .ok (zi (b c)):=by
 refine bc rfl ?_
 refine bH ((gg (p:=(b c).isSome) (bx (aA (t:=en c) (u:=.dct (ms.map en) (dV ms b)) rfl rfl (Ap D c)))).trans ?_)
 cases q:b c with
 | none=>rfl
 | some x=>exact aA (t:=eW x) (u:=.int 0) (aA (t:=.dct (ms.map en) (dV ms b)) (u:=en c) rfl rfl (qK D q)) rfl rfl
def deO (f:cO N2)(u:N2)(t:T):T:=match t with
 | .tup [.int c,.int k] =>oI (f u ⟨c,k⟩)
 | _=> .non
theorem Cr (P:List N2)(f:cO N2)(u:N2):(P.map en).map (deO f u)=P.map λv=>oI (f u v):=by rw[KJ];rfl
abbrev amF:En->Rs Fl:=(ay (cv (cl cz (ae (vr 0) (ae (vr 3) ah))) (gN 4)) (jL 2 (cl ez (ae (fH (iS (vr 1)) [none,some 4] (gN 0) bT (cl dB (ae (vr 1) (ae (vr 0) ah)))) ah))))
theorem Rd.Ih (R:Rd cs ls L P)(n:NoNeg L){f:cO N2}(F:cG L P f):∀(Q:List N2) (acc:List T) (s3 s4:Sl),(∀u∈Q,u∈P)->acc.length+Q.length<=1000->∃s3' s4',
  bh (gN 3) amF (Q.map en) [.va (RR cs ls),.va (eS P),.ow (.lst acc),s3,s4] = .ok (.nx [.va (RR cs ls),.va (eS P),.ow (.lst (acc++Q.map (rS P f))),s3',s4'])
 | [],acc,s3,s4,_,_=>⟨s3,s4,by simp only[ME,Km];rfl⟩
 | u::Q,acc,s3,s4,h,hl=>by
  have hu:=h u Jj;rw[Jq]at hl;obtain⟨b,ms,S,D,e⟩:=R.from_ n hu
  have lc:fH (iS (vr 1)) [none,some 4] (gN 0) bT (cl dB (ae (vr 1) (ae (vr 0) ah))) [.va (RR cs ls),.va (eS P),.ow (.lst acc),.va (en u),.va (.dct (ms.map en) (dV ms b))] = .ok (.lst ((P.map en).map (deO f u))):=
   n4 (ts:=P.map en) (jX rfl) (aC (k:=16) (by rw[Jm];exact R.pl)) (by simp) λt ht=>by
    obtain⟨v,hv,rfl⟩:=JH.mp ht;refine(aF (ts:=[.dct (ms.map en) (dV ms b),en v]) rfl (Ah D v)).trans ?_
    rw[vm S F hu];rfl
  rw[Cr]at lc
  have st:amF [.va (RR cs ls),.va (eS P),.ow (.lst acc),.va (en u),s4] = .ok (.nx [.va (RR cs ls),.va (eS P),.ow (.lst (acc++ [rS P f u])),.va (en u),.va (.dct (ms.map en) (dV ms b))]):=by
   refine(ar (Z':=[.va (RR cs ls),.va (eS P),.ow (.lst acc),.va (en u),.va (.dct (ms.map en) (dV ms b))]) (bq (aF (ts:=[(RR cs ls),en u]) rfl e) rfl)).trans ?_
   exact sW (l:=acc) (aF (aq lc rfl) oj) rfl (by omega)
  obtain⟨a,c,ih⟩:=R.Ih n F Q (acc++ [rS P f u]) (.va (en u)) (.va (.dct (ms.map en) (dV ms b))) (λw hw=>h w (Jh _ hw)) (by rw[Ju];simp only[Jq,Lo];omega)
  refine⟨a,c,?_⟩
  rw[Jn,dY (Z1:=[.va (RR cs ls),.va (eS P),.ow (.lst acc),.va (en u),s4]) rfl st,ih,JV]
  rfl
theorem Rd.Ja (R:Rd cs ls L P)(n:NoNeg L){f:cO N2}(F:cG L P f):gu [(RR cs ls)] = .ok (wo P f):=by
 refine bc rfl ?_
 show jw [.va (RR cs ls),.em,.em,.em,.em] =_
 unfold jw;rw[ar (lg (t:=.non) (aF (ts:=[(RR cs ls)]) rfl (R.Ij n)))];rw[ar (Z':=[.va (RR cs ls),.va (eS P),.em,.em,.em]) (bq (aF (ts:=[(RR cs ls)]) rfl R.events) rfl)];rw[ar (Z':=[.va (RR cs ls),.va (eS P),.ow (.lst []),.em,.em]) (qA (by simp))]
 obtain⟨a,c,e⟩:=R.Ih n F P [] .em .em (λ_ z=>z) (by have:=R.pl;simp;omega)
 rw[ar (gh (ts:=P.map en) (jX rfl) e),LO];exact bH (GP (o:=.lst (P.map (rS P f))) rfl (aF (ts:=[.lst (P.map (rS P f))]) rfl oj) (EG _ P f))
end
theorem ES {f:En->Rs T}{l:List T}{t:T}{Z:En}{i:Int}(n:Nat)(h:f Z= .ok (.tup l))(e:l[n]? =some t)(hi:i=(n:Nat):=by rfl):o2 aO f (cn (.int i)) Z= .ok t:=by subst hi;exact zL h rfl e
theorem mB {g:T->En->Rs En}{fc:En->Rs Bool}{fe:En->Rs T}{p:T->Bool}{h:T->T}(I:En->Prop):∀(ts:List T) (Z:En),I Z->(∀t∈ts,∀Z,I Z->∃Z1,g t Z= .ok Z1/\I Z1/\fc Z1= .ok (p t)/\fe Z1= .ok (h t))->dg g fc fe ts Z= .ok ((ts.filter p).map h)
 | [],_,_,_=>rfl
 | t::r,Z,hI,hf=>by
  obtain⟨Z1,e1,i1,e2,e3⟩:=hf t Jj Z hI
  have ih:=mB I r Z1 i1 λu hu=>hf u (Jh _ hu)
  unfold dg
  cases q:p t with
  | true=>simp only[e1,aE,e2,q,if_true,e3,ih,Og q,Jn]
  | false=>simp only[e1,aE,e2,q,JY,if_false,ih,Oh (show ¬p t=true by rw[q];decide)]
theorem o6 (g:N2->T):∀(S ns:List N2),(ns++S).Nodup->fD ((S.map en).zip (S.map g)) (ns.map en,ns.map g)=((ns++S).map en,(ns++S).map g)
 | [],ns,_=>by rw[Km];rfl
 | v::S,ns,hn=>by
  have hv:v∉ns:=λz=>by
   rw[Kp]at hn;exact hn.2.2 v z v Jj rfl
  rw[Jn,Jn,MK,fD,j0 _ _ _ _ hv]
  have e1:ns.map en++ [en v] =(ns++ [v]).map en:=by rw[J6];rfl
  have e2:ns.map g++ [g v] =(ns++ [v]).map g:=by rw[J6];rfl
  rw[e1,e2,o6 g S (ns++ [v]) (by rw[JV];exact hn),JV]
  rfl
def As (P:List N2)(t:N2->Int):T:=.dct (P.map en) (P.map λv=> .int (t v))
def hB (t:N2->Int)(x:N2×N2×Int):Bool:=decide (t x.2.1 - t x.1<=x.2.2)
def Hs (t:N2->Int)(u:T):Bool:=match u with
 | .tup [_,.tup [.tup [.int a,.int b],.tup [.int c,.int d],.int m]] => !hB t (⟨a,b⟩,⟨c,d⟩,m)
 | _=>false
def brH (u:T):T:=match u with
 | .tup [i,_] =>i
 | _=> .non
def Cw (t:N2->Int)(L:bj N2):List T:=((br 0 (L.map eB)).filter (Hs t)).map brH
theorem Ax (t:N2->Int)(i:T)(x:N2×N2×Int):Hs t (.tup [i,eB x])= !hB t x:=rfl
theorem Af {t:T}:∀{l:List T} {i:Nat},t∈br i l->∃k u,u∈l/\t= .tup [.int (k:Nat),u]
 | [],i,h=>by simp[br]at h
 | u::l,i,h=>by
  rw[br,Jp]at h;rcases h with rfl | h
  ·exact⟨i,u,Jj,rfl⟩
  ·obtain⟨k,w,hw,e⟩:=Af h
   exact⟨k,w,Jh _ hw,e⟩
theorem qO (t:N2->Int):∀(L:bj N2) (i:Nat),((br i (L.map eB)).filter (Hs t))= [] ↔L.all (hB t)=true
 | [],i=>by simp[br]
 | x::L,i=>by
  rw[Jn,br,Ob,Jo,<-qO t L (i+1)]
  cases q:hB t x with
  | true=>rw[Oh (by rw[Ax,q];decide)];simp
  | false=>rw[Og (by rw[Ax,q];rfl)];simp
theorem holds_all {L:bj N2}{t:N2->Int}:L.all (hB t)=true↔Holds L t:=by
 rw[JL];refine⟨λh a b m hm=>by have:=h _ hm;exact of_decide_eq_true this,λh x hx=>decide_eq_true (h _ _ _ hx)⟩
theorem tz:∀(l:List T) (i:Nat),(br i l).length=l.length
 | [],_=>rfl
 | t::l,i=>by rw[br,Jq,Jq,tz l (i+1)]
theorem Cv {t:N2->Int}{L:bj N2}{u:T}(h:u∈Cw t L):∃k:Nat,u= .int (k:Nat):=by
 obtain⟨w,hw,rfl⟩:=JH.mp h;obtain⟨k,y,_,rfl⟩:=Af (LL.mp hw).1;exact⟨k,rfl⟩
theorem Fu (t:N2->Int)(L:bj N2):qI (.lst (Cw t L)) (.lst [])= .ok (.bl (L.all (hB t))):=by
 have pl:(T.lst (Cw t L)).pl=true:=by
  unfold T.pl;exact pV λu hu=>by obtain⟨k,rfl⟩:=Cv hu;rfl
 unfold qI;rw[if_pos (z7 (by simp[T.dep,deps]) (T.HS _ pl) (T.HS _ (by rfl)))]
 cases q:L.all (hB t)with
 | true=>
  unfold Cw
  rw[(qO t L 0).mpr q];rfl
 | false=>
  have:Cw t L≠ []:=λz=>by
   unfold Cw at z;rw[(qO t L 0).mp (List.map_eq_nil_iff.mp z)]at q;cases q
  cases e:Cw t L with
  | nil=>exact absurd e this
  | cons a l=>simp[aR,beqTs]
def EW (n:Nat)(u:T):Bool:=dw u n n&&(match u with
 | .tup l=>l.all Hr
 | _=>false)
theorem FI (P:List N2)(t:N2->Int):EW P.length (fY P t)=true:=by
 unfold EW fY;simp only[Jo];refine⟨by simp[dw],JL.mpr λu hu=> ?_⟩
 obtain⟨v,_,rfl⟩:=JH.mp hu
 rfl
theorem FH (P:List N2)(t:N2->Int):(fY P t).pl=true:=by
 unfold fY;rw[yM];exact pV λu hu=>by obtain⟨v,_,rfl⟩:=JH.mp hu;rfl
section
variable {cs ls:List T}{L:bj N2}{P:List N2}
theorem Rd.pos (R:Rd cs ls L P):0<P.length:=by
 obtain⟨hcl,c1,_⟩:=cW R.g.c
 have e:=congrArg LD R.e;rw[Jm]at e;rw[<-e]
 cases cs with
 | nil=>simp at c1
 | cons c cs=>
  obtain⟨x,y,r,rfl,r1,_⟩:=et (hcl c Jj);rw[dS,Ju,gj]
  show 0<r.length+_
  omega
theorem Rd.dz (R:Rd cs ls L P)(t:N2->Int):G4 [eS P,fY P t] = .ok (As P t):=by
 have h0:=R.pos
 have h1:=R.pl
 show(if kU (P.map en)=true/\(P.map en).length=(P.map λv=>T.int (t v)).length/\1<=(P.map en).length/\(P.map en).length<=1000 then _ else _)=_
 rw[if_pos ⟨sU P,by rw[Jm,Jm],by rw[Jm];omega,by rw[Jm];omega⟩]
 have:=o6 (λv=> .int (t v)) P [] (by simpa using R.nd)
 rw[LO]at this;rw[show(([]:List T),([]:List T))=(([]:List N2).map en,([]:List N2).map λv=>T.int (t v))from rfl,this]
 rfl
theorem Dg {t:N2->Int}{v:N2}{a b:En->Rs T}{Z:En}(ha:a Z= .ok (As P t))(hb:b Z= .ok (en v))(hv:v∈P):o2 iX a b Z= .ok (.int (t v)):=by
 refine aA (t:=As P t) (u:=en v) ha hb ?_
 show(match j5 (P.map en) (P.map λv=>T.int (t v)) (ky v)with | some t=>Rs.ok t | none=> .bad)=_
 rw[qL (λv=>T.int (t v)),if_pos hv]
theorem Cn {t:N2->Int}{x:N2×N2×Int}(h1:x.1∈P)(h2:x.2.1∈P):lx [eB x,As P t] = .ok (.bl (hB t x)):=by
 refine bc rfl (bH ?_)
 show o2 EK (o2 gV (o2 iX (vr 1) (o2 aO (vr 0) (cn (.int 1)))) (o2 iX (vr 1) (o2 aO (vr 0) (cn (.int 0))))) (o2 aO (vr 0) (cn (.int 2))) [.va (eB x),.va (As P t)] =_
 exact aA (t:=.int (t x.2.1 - t x.1)) (u:=.int x.2.2) (aA (t:=.int (t x.2.1)) (u:=.int (t x.1)) (Dg (P:=P) rfl (ES 1 rfl rfl) h2) (Dg (P:=P) rfl (ES 0 rfl rfl) h1) rfl) (ES 2 rfl rfl) rfl
theorem Rd.IE (R:Rd cs ls L P)(t:N2->Int):jV [(RR cs ls),fY P t] = .ok (.lst (Cw t L)):=by
 refine bc rfl ?_
 show m7 [.va (RR cs ls),.va (fY P t),.em] =_
 unfold m7;rw[ar (Z':=[.va (RR cs ls),.va (fY P t),.va (As P t)]) (bq (aF (ts:=[eS P,fY P t]) (aq (aF (ts:=[(RR cs ls)]) rfl R.events) rfl) (R.dz t)) rfl)];refine bH ?_
 unfold fH;rw[vI (l:=L.map eB) (aq (aF (ts:=[(RR cs ls)]) rfl R.bounds) rfl),aE,if_pos (aC (k:=60) (by rw[tz,Jm];exact R.ll))]
 rw[show df [none,none,some 2] [.va (RR cs ls),.va (fY P t),.va (As P t)] = [.em,.em,.va (As P t)]from rfl,mB (p:=Hs t) (h:=brH) (λZ=> ∃a b,Z= [a,b,.va (As P t)]) _ _ ⟨_,_,rfl⟩ λu hu Z hh_=>by
  obtain⟨a,b,e⟩:=hh_;subst e;obtain⟨k,w,hw,rfl⟩:=Af hu;obtain⟨x,hx,rfl⟩:=JH.mp hw
  have hh:=R.f.ends x hx;exact⟨[.va (.int (k:Nat)),.va (eB x),.va (As P t)],rfl,⟨_,_,rfl⟩,(jg (bx (aF (ts:=[eB x,As P t]) rfl (Cn hh.1 hh.2)))),rfl⟩]
 rfl
theorem Rd.IY (R:Rd cs ls L P){u:T}(hu:u.pl=true):fM [(RR cs ls),u] = .ok (.bl (EW P.length u)):=by
 refine bc rfl ?_
 show iz [.va (RR cs ls),.va u,.em] =_
 unfold iz;rw[ar (Z':=[.va (RR cs ls),.va u,.va (.int (P.length:Nat))]) (bq (aF (ts:=[eS P]) (aq (aF (ts:=[(RR cs ls)]) rfl R.events) rfl) (by show Rs.ok (T.int ((P.map en).length:Nat))=_;rw[Jm])) rfl)]
 refine bH (vJ (aF (ts:=[u,.int (P.length:Nat),.int (P.length:Nat)]) rfl (io u P.length P.length hu)) λh=> ?_)
 obtain⟨l,rfl,_,hl⟩:=cF h;exact mZ (k_iS rfl) (aC (k:=16) (by have:=R.pl;omega)) (by simp) λv hv=>aF (ts:=[v]) rfl (vX v (by rw[yM]at hu;exact jN hu hv))
theorem Rd.isw (R:Rd cs ls L P)(t:N2->Int):ft [(RR cs ls),fY P t] = .ok (.bl (L.all (hB t))):=by
 refine bc rfl (bH ?_)
 refine(uv (aF (ts:=[(RR cs ls),fY P t]) rfl (by rw[R.IY (FH P t),FI]))).trans ?_
 exact aA (t:=.lst (Cw t L)) (u:=.lst []) (aF (ts:=[(RR cs ls),fY P t]) rfl (R.IE t)) (jh rfl (aC (k:=1) (by simp))) (Fu t L)
end
theorem qv:∀(ns:List Int) (i:Int),fw i ns<=i/\∀x∈ns,fw i ns<=x
 | [],i=>⟨KC _,λx h=>by cases h⟩
 | j::ns,i=>by
  have h:=qv ns (if j<i then j else i)
  rw[fw];refine⟨?_,λx hx=> ?_⟩
  ·have:=h.1;split at this <;> omega
  ·rcases Jp.mp hx with rfl | hx
   ·have:=h.1;split at this <;> omega
   ·exact h.2 x hx
theorem sQ:∀(ns:List Int) (i:Int),fw i ns=i\/fw i ns∈ns
 | [],i=> .inl rfl
 | j::ns,i=>by
  rw[fw];rcases sQ ns (if j<i then j else i)with h | h
  ·rw[h]
   split
   ·exact .inr Jj
   ·exact .inl rfl
  ·exact .inr (Jh _ h)
theorem vq:∀(ns:List Int) (i:Int),i<=fS i ns/\∀x∈ns,x<=fS i ns
 | [],i=>⟨KC _,λx h=>by cases h⟩
 | j::ns,i=>by
  have h:=vq ns (if i<j then j else i)
  rw[fS];refine⟨?_,λx hx=> ?_⟩
  ·refine QK ?_ h.1;split <;> omega
  ·rcases Jp.mp hx with rfl | hx
   ·refine QK ?_ h.1;split <;> omega
   ·exact h.2 x hx
theorem sR:∀(ns:List Int) (i:Int),fS i ns=i\/fS i ns∈ns
 | [],i=> .inl rfl
 | j::ns,i=>by
  rw[fS];rcases sR ns (if i<j then j else i)with h | h
  ·rw[h]
   split
   ·first | exact .inr Jj | exact .inl rfl
   ·first | exact .inl rfl | exact .inr Jj
  ·exact .inr (Jh _ h)
section
variable {L:bj N2}{P:List N2}{f:cO N2}
def zS (f:cO N2)(t:N2->Int)(v u:N2):Option Int:=(f u v).map λx=>t u+x
def zl (f:cO N2)(t:N2->Int)(v u:N2):Option Int:=(f v u).map λx=>t u - x
def FA (f:cO N2)(Q:List N2)(t:N2->Int):Prop:=∀u∈Q,∀w∈Q,∀d,f u w=some d->t w - t u<=d
def Hq (lo hi:List Int):Int:=match lo with
 | x::l=>fS x l
 | [] =>match hi with
  | x::l=>fw x l - 5
  | [] =>0
def hiV (lo hi:List Int):Int:=match hi with
 | x::l=>fw x l
 | [] =>Hq lo hi+5
theorem C4 {Q:List N2}{t:N2->Int}{v:N2}(F:cG L P f)(hv:v∈P)(hQ:∀u∈Q,u∈P)(h:FA f Q t) :
  Hq (Q.filterMap (zl f t v)) (Q.filterMap (zS f t v))<=hiV (Q.filterMap (zl f t v)) (Q.filterMap (zS f t v))/\(∀x∈Q.filterMap (zl f t v),x<=Hq (Q.filterMap (zl f t v)) (Q.filterMap (zS f t v)))/\∀x∈Q.filterMap (zS f t v),hiV (Q.filterMap (zl f t v)) (Q.filterMap (zS f t v))<=x:=by
 have key:∀x∈Q.filterMap (zl f t v),∀y∈Q.filterMap (zS f t v),x<=y:=λx hx y hy=>by
  obtain⟨u,hu,eu⟩:=La.mp hx;obtain⟨w,hw,ew⟩:=La.mp hy;unfold zl at eu;unfold zS at ew;obtain⟨p,hp,rfl⟩:=KF.mp eu;obtain⟨q,hq,rfl⟩:=KF.mp ew;obtain⟨d,hd,hle⟩:=F.le w (hQ w hw) u _ ((F.is w v q hq).app (F.is v u p hp))
  have:=h w hw u hu d hd;omega
 generalize Q.filterMap (zl f t v)=lo at key
 generalize Q.filterMap (zS f t v)=hi at key
 cases lo with
 | nil=>
  cases hi with
  | nil=>exact⟨by show(0:Int)<=0+5;omega,(λx h=>by cases h),λx h=>by cases h⟩
  | cons y hi=>
   have m:=qv hi y;refine⟨by show fw y hi - 5<=fw y hi;omega,(λx h=>by cases h),λx hx=> ?_⟩
   show fw y hi<=x
   rcases Jp.mp hx with rfl | hx
   ·exact m.1
   ·exact m.2 x hx
 | cons x lo=>
  have mx:=vq lo x
  have up:∀z∈x::lo,z<=fS x lo:=λz hz=>by
   rcases Jp.mp hz with rfl | hz
   ·exact mx.1
   ·exact mx.2 z hz
  cases hi with
  | nil=>exact⟨by show fS x lo<=fS x lo+5;omega,up,λx h=>by cases h⟩
  | cons y hi=>
   have m:=qv hi y;refine⟨?_,up,λz hz=> ?_⟩
   ·show fS x lo<=fw y hi
    have h1:fS x lo∈x::lo:=(sR lo x).elim (λe=>by rw[e];exact Jj) λe=>Jh _ e
    have h2:fw y hi∈y::hi:=(sQ hi y).elim (λe=>by rw[e];exact Jj) λe=>Jh _ e
    exact key _ h1 _ h2
   ·show fw y hi<=z
    rcases Jp.mp hz with rfl | hz
    ·exact m.1
    ·exact m.2 z hz
theorem z8 {Q:List N2}{t:N2->Int}{v:N2}(n:NoNeg L)(F:cG L P f)(hv:v∈P)(hq:v∉Q)(hQ:∀u∈Q,u∈P)(h:FA f Q t){x:Int}(h1:Hq (Q.filterMap (zl f t v)) (Q.filterMap (zS f t v))<=x)(h2:x<=hiV (Q.filterMap (zl f t v)) (Q.filterMap (zS f t v))) :
  FA f (Q++ [v]) (λu=>if u=v then x else t u):=by
 obtain⟨_,l1,l2⟩:=C4 F hv hQ h;intro u hu w hw d hd
 have nv:∀u∈Q,u≠v:=λu hu z=>hq (z▸hu)
 show(if w=v then x else t w) - (if u=v then x else t u)<=d
 rcases JS.mp hu with hu | hu <;> rcases JS.mp hw with hw | hw
 ·rw[if_neg (nv u hu),if_neg (nv w hw)];exact h u hu w hw d hd
 ·rw[JB.mp hw]at hd ⊢
  rw[if_neg (nv u hu),if_pos rfl]
  have:=l2 (t u+d) (La.mpr ⟨u,hu,by unfold zS;rw[hd];rfl⟩)
  omega
 ·rw[JB.mp hu]at hd ⊢
  rw[if_neg (nv w hw),if_pos rfl]
  have:=l1 (t w - d) (La.mpr ⟨w,hw,by unfold zl;rw[hd];rfl⟩)
  omega
 ·rw[JB.mp hu,JB.mp hw]at hd
  rw[JB.mp hu,JB.mp hw]
  have:=n v d (F.is v v d hd);omega
end
section
variable {ν:Type}[DecidableEq ν]{L:bj ν}{P:List ν}
theorem BD (hb:∀x∈L,x.2.2.natAbs<=999){a b:ν}{ms:List ν}{s:Int}(h:Pth L a ms b s):s.natAbs<=999*(ms.length+1):=by
 induction h with
 | one e=>have:=hb _ e;simpa using this
 | cons e _ ih=>
  have:=hb _ e;rw[Jq]
  dsimp only at this
  omega
theorem D6 (he:∀x∈L,x.1∈P/\x.2.1∈P){a b:ν}{ms:List ν}{s:Int}(h:Pth L a ms b s):∀v∈ms,v∈P:=by
 induction h with
 | one e=>exact λv hv=>by cases hv
 | cons e _ ih=>
  intro v hv;rcases Jp.mp hv with rfl | hv
  ·exact(he _ e).2
  ·exact ih v hv
theorem wX {f:cO ν}(hb:∀x∈L,x.2.2.natAbs<=999)(he:∀x∈L,x.1∈P/\x.2.1∈P)(n:NoNeg L)(F:cG L P f)(pl:∀ms:List ν,ms.Nodup->(∀v∈ms,v∈P)->ms.length<=16){u v:ν}(hu:u∈P){d:Int}(e:f u v=some d):d.natAbs<=17000:=by
 rcases(F.is u v d e).simple with⟨x,ms,s,hp,_,_,hs⟩ | ⟨s,hs,h⟩
 ·have:=n x s hp.wk;omega
 ·have wk:Wk L u v s:=by
   rcases h with⟨rfl,rfl⟩ | ⟨_,ms,hp,_⟩
   ·exact .nil u
   ·exact hp.wk
  obtain⟨y,ey,hy⟩:=F.le u hu v s wk;rw[e]at ey;cases ey
  have es:d=s:=by omega
  rcases h with⟨_,rfl⟩ | ⟨_,ms,hp,hn,_⟩
  ·rw[es];decide
  ·have h1:=BD hb hp
   have h2:=pl ms hn (D6 he hp);rw[es];omega
end
section
variable {L:bj N2}{P:List N2}{f:cO N2}
theorem vS (n:NoNeg L)(F:cG L P f):∀(bJ Q:List N2) (t:N2->Int),(Q++bJ).Nodup->(∀u∈Q++bJ,u∈P)->FA f Q t->∃t',FA f (Q++bJ) t'/\∀u∈Q,t' u=t u
 | [],Q,t,_,_,h=>⟨t,by rw[Km];exact h,λ_ _=>rfl⟩
 | v::bJ,Q,t,nd,hP,h=>by
  have hq:v∉Q:=λz=>by
   rw[Kp]at nd;exact nd.2.2 v z v Jj rfl
  have asc:Q++v::bJ=Q++ [v] ++bJ:=by rw[JV];rfl
  have hv:=hP v (JD _ Jj)
  have hQ:∀u∈Q,u∈P:=λu hu=>hP u (J2 _ hu)
  obtain⟨lh,_,_⟩:=C4 F hv hQ h
  have h1:=z8 n F hv hq hQ h (KC _) lh;rw[asc]at nd hP ⊢;obtain⟨t',h2,h3⟩:=vS n F bJ (Q++ [v]) _ nd hP h1;refine⟨t',h2,λu hu=> ?_⟩
  rw[h3 u (J2 _ hu),if_neg (show ¬u=v from λz=>hq (z▸hu))]
theorem xj (F:cG L P f)(he:∀x∈L,x.1∈P/\x.2.1∈P){Q:List N2}{t:N2->Int}(h:FA f Q t)(hQ:∀u∈P,u∈Q):Holds L t:=λu v m hm=>by
 have hp:=he _ hm;obtain⟨d,hd,hle⟩:=F.le u hp.1 v m (Wk.one hm)
 have:=h u (hQ u hp.1) v (hQ v hp.2) d hd;omega
theorem Df (n:NoNeg L)(F:cG L P f){u:N2}(hu:u∈P):f u u=some 0:=by
 obtain⟨d,e,h⟩:=F.le u hu u 0 (.nil u)
 have:=n u d (F.is u u d e);rw[e,show d=0 by omega]
theorem xZ (nd:P.Nodup)(n:NoNeg L)(F:cG L P f)(he:∀x∈L,x.1∈P/\x.2.1∈P){a b:N2}(ha:a∈P)(hb:b∈P){m:Int}(h1:∀d,f a b=some d->m<=d)(h2:∀d,f b a=some d->-m<=d):∃t,Holds L t/\t b - t a=m:=by
 have go:∀(Q:List N2) (t:N2->Int),Q.Nodup->(∀u∈Q,u∈P)->FA f Q t->∃t',Holds L t'/\∀u∈Q,t' u=t u:=λQ t hn hQ h=>by
  obtain⟨t',g1,g2⟩:=vS n F (P.filter λu=>decide (u∉Q)) Q t (by
   rw[Kp];refine⟨hn,nd.filter _,λx hx y hy z=> ?_⟩
   have:=(LL.mp hy).2;rw[<-z]at this;exact of_decide_eq_true this hx) (λu hu=>(JS.mp hu).elim (hQ u) λz=>(LL.mp z).1) h
  refine⟨t',xj F he g1 λu hu=> ?_,g2⟩
  by_cases hq:u∈Q
  ·exact J2 _ hq
  ·exact JD _ (LL.mpr ⟨hu,decide_eq_true hq⟩)
 by_cases hab:a=b
 ·subst hab
  have e:=Df n F ha
  have z1:=h1 0 e
  have z2:=h2 0 e;obtain⟨t,ht,_⟩:=go [] (λ_=>0) Ll (λu hu=>by cases hu) (λu hu=>by cases hu)
  exact⟨t,ht,by omega⟩
 ·obtain⟨t,ht,g⟩:=go [a,b] (λu=>if u=b then m else 0) (by simp[hab]) (λu hu=>by
   simp only[Jp,JN,or_false]at hu;rcases hu with rfl | rfl
   ·exact ha
   ·exact hb) (λu hu w hw d hd=>by
   simp only[Jp,JN,or_false]at hu hw
   show(if w=b then m else 0) - (if u=b then m else 0)<=d
   rcases hu with rfl | rfl <;> rcases hw with rfl | rfl
   ·rw[if_neg hab];have:=n _ _ (F.is _ _ _ hd);omega
   ·rw[if_neg hab,if_pos rfl];have:=h1 d hd;omega
   ·rw[if_neg hab,if_pos rfl];have:=h2 d hd;omega
   ·rw[if_pos rfl];have:=n _ _ (F.is _ _ _ hd);omega)
  refine⟨t,ht,?_⟩
  rw[g b (by simp),g a (by simp)]
  show(if b=b then m else 0) - (if a=b then m else 0)=m
  rw[if_pos rfl,if_neg hab];omega
def uU (L:bj N2)(a b:N2)(m:Int):bj N2:=L++ [(a,b,m),(b,a,-m)]
theorem two_holds {a b:N2}{m:Int}{t:N2->Int}:Holds (uU L a b m) t↔Holds L t/\t b - t a=m:=by
 constructor
 ·intro h
  have z1:=h a b m (JD _ Jj)
  have z2:=h b a (-m) (JD _ (Jh _ Jj));exact⟨λu v k hk=>h u v k (J2 _ hk),by omega⟩
 ·rintro ⟨h,e⟩ u v k hk
  rcases JS.mp hk with hk | hk
  ·exact h u v k hk
  ·simp only[Jp,JN,or_false,PM]at hk
   rcases hk with⟨rfl,rfl,rfl⟩ | ⟨rfl,rfl,rfl⟩ <;> omega
theorem uT (nd:P.Nodup)(n:NoNeg L)(F:cG L P f)(he:∀x∈L,x.1∈P/\x.2.1∈P){a b:N2}(ha:a∈P)(hb:b∈P){m:Int}:NoNeg (uU L a b m)↔(∀d,f a b=some d->m<=d)/\∀d,f b a=some d->-m<=d:=by
 constructor
 ·intro h
  have sub:∀x∈L,x∈uU L a b m:=λx hx=>J2 _ hx
  refine⟨λd hd=> ?_,λd hd=> ?_⟩
  ·have:=h a _ (((F.is a b d hd).mono sub).app (Wk.one (b:=a) (m:=-m) (JD _ (Jh _ Jj))))
   omega
  ·have:=h b _ (((F.is b a d hd).mono sub).app (Wk.one (b:=b) (m:=m) (JD _ Jj)))
   omega
 ·rintro ⟨h1,h2⟩
  obtain⟨t,ht,e⟩:=xZ nd n F he ha hb h1 h2;exact(two_holds.mpr ⟨ht,e⟩).Ii
end
section
variable {cs ls:List T}{L:bj N2}{P:List N2}{ns:List Int}{f:cO N2}
theorem Rd.gw (R:Rd cs ls L P){M:bj N2}(fm:AH M P):(¬NoNeg M/\aL [(RR cs ls),eL M] = .ok .non)\/(NoNeg M/\∃t,Holds M t/\aL [(RR cs ls),eL M] = .ok (fY P t)):=by
 obtain⟨r,hr,ok⟩:=mO fm R.nd (λv h=>h)
 have begin_:∀{x z:T} {y:Rs Fl},ee [eL M,eS P] = .ok (.tup [x,z])->((ay (eO (tb (o2 fx (vr 3) (cn .non))) (aG (cn .non)) sN) (aG (cl ez (ae (fH (iS (vr 2)) [none,some 3] (gN 0) bT (o2 aO (o2 iX (vr 1) (vr 0)) (cn (.int 0)))) ah)))) [.va (RR cs ls),.va (eL M),.va (eS P),.va x] =y)->cu [.va (RR cs ls),.va (eL M),.em,.em] =y:=λ{x z y} hs hy=>by
  unfold cu;rw[ar (Z':=[.va (RR cs ls),.va (eL M),.va (eS P),.em]) (bq (aF (ts:=[(RR cs ls)]) rfl R.events) rfl)];rw[ar (Z':=[.va (RR cs ls),.va (eL M),.va (eS P),.va x]) (bq (aA (u:=.int 0) (aF (ts:=[eL M,eS P]) rfl hs) rfl rfl) rfl)];exact hy
 cases r with
 | inr q=>exact .inl ⟨λn=>absurd n (Bar.neg ok),bc rfl (begin_ hr (ij ((ik (bx (aA (t:=.non) (u:=.non) rfl rfl rfl))).trans rfl)))⟩
 | inl b=>
  obtain⟨ms,D,hr⟩:=hr
  have ok:Settled M P b:=ok
  have htm:∀v∈P,∃w,b v=some (CQ b v,w):=λv hv=>by
   obtain⟨d,w,e,_⟩:=ok.least v hv v 0 (.nil v);exact⟨w,by unfold CQ;rw[e]⟩
  have hol:=ok.holds fm.ends htm;refine .inr ⟨hol.Ii,CQ b,hol,bc rfl (begin_ hr ?_)⟩
  generalize CQ b=tm at htm
  have lc:fH (iS (vr 2)) [none,some 3] (gN 0) bT (o2 aO (o2 iX (vr 1) (vr 0)) (cn (.int 0))) [.va (RR cs ls),.va (eL M),.va (eS P),.va (.dct (ms.map en) (dV ms b))] = .ok (.lst ((P.map en).map (atT tm))):=
   n4 (ts:=P.map en) (jX rfl) (aC (k:=16) (by rw[Jm];exact R.pl)) (by simp) λt ht=>by
    obtain⟨v,hv,rfl⟩:=JH.mp ht;obtain⟨w,e⟩:=htm v hv;exact aA (t:=eW (tm v,w)) (u:=.int 0) (aA (t:=.dct (ms.map en) (dV ms b)) (u:=en v) rfl rfl (qK D e)) rfl rfl
  rw[KJ]at lc;rw[ar (Z':=[.va (RR cs ls),.va (eL M),.va (eS P),.va (.dct (ms.map en) (dV ms b))]) ((cM (bx (aA (t:=.dct (ms.map en) (dV ms b)) (u:=.non) rfl rfl rfl))).trans rfl)];exact bH (aF (aq lc rfl) rfl)
theorem Rd.IR (R:Rd cs ls L P){a b:N2}(ha:a∈P)(hb:b∈P){m:Int}(hm:m.natAbs<=100000):AH (uU L a b m) P:=by
 have hs:=pF R.bg
 have ll:=R.ll;refine⟨?_,?_,λx hx=> ?_,by have:=R.pl;omega⟩
 ·unfold uU;rw[Ju];simp only[Jq,Lo];omega
 ·unfold size at hs ⊢
  unfold uU;rw[J6,Rr]
  have:([(a,b,m),(b,a,-m)].map λx:N2×N2×Int=>x.2.2.natAbs).sum<=200000:=by simp;omega
  omega
 ·unfold uU at hx
  rcases JS.mp hx with hx | hx
  ·exact R.f.ends x hx
  ·simp only[Jp,JN,or_false]at hx
   rcases hx with rfl | rfl
   ·exact⟨ha,hb⟩
   ·exact⟨hb,ha⟩
theorem Rd.Iq (R:Rd cs ls L P)(n:NoNeg L){a b:N2}(ha:a∈P)(hb:b∈P){m:Int}(hm:m.natAbs<=100000):(¬NoNeg (uU L a b m)/\a8 [(RR cs ls),en a,en b,.int m] = .ok .non)\/(NoNeg (uU L a b m)/\∃t,Holds (uU L a b m) t/\a8 [(RR cs ls),en a,en b,.int m] = .ok (fY P t)):=by
 have wrap:∀{w:T},aL [(RR cs ls),eL (uU L a b m)] = .ok w->a8 [(RR cs ls),en a,en b,.int m] = .ok w:=λ{w} e=>by
  refine bc rfl ?_
  show gA [.va (RR cs ls),.va (en a),.va (en b),.va (.int m)] =_
  unfold gA;rw[ar (lg (t:=.non) (aF (ts:=[(RR cs ls),en a,en b]) rfl (R.IA ha hb)))];rw[ar (lg (t:=.non) (aF (ts:=[(RR cs ls)]) rfl (R.Ij n)))]
  have q3:∀{x y z:En->Rs T} {t u v:T} {Z:En},x Z= .ok t->y Z= .ok u->z Z= .ok v->bK (ae x (ae y (ae z ah))) Z= .ok (.tup [t,u,v]):=λh1 h2 h3=>dJ (aq h1 (aq h2 (aq h3 rfl))) (aC (k:=3) (by simp))
  refine bH (aF (ts:=[(RR cs ls),eL (uU L a b m)]) (aq rfl (aq (aA (t:=eL L) (u:=.lst [eB (a,b,m),eB (b,a,-m)]) (aF (ts:=[(RR cs ls)]) rfl R.bounds) (jh (aq (q3 rfl rfl rfl) (aq (q3 rfl rfl (Cb (t:=.int m) rfl rfl)) rfl)) (aC (k:=2) (by simp))) ?_) rfl)) e)
  unfold eL uU;rw[lF _ _ (by rw[Ju,Jm];have:=R.ll;simp only[Jq,Lo];omega),J6]
  rfl
 rcases R.gw (R.IR ha hb hm)with⟨n2,e⟩ | ⟨n2,t,h,e⟩
 ·exact .inl ⟨n2,wrap e⟩
 ·exact .inr ⟨n2,t,h,wrap e⟩
theorem Dx {i j:Nat}(hi:i<P.length)(hj:j<P.length){a b c:En->Rs T}{Z:En}(ha:a Z= .ok (wo P f))(hb:b Z= .ok (.int (i:Nat)))(hc:c Z= .ok (.int (j:Nat))):o2 aO (o2 aO a b) c Z= .ok (oI (f P[i] P[j])):=by
 refine zL (n:=j) (l:=P.map λv=>oI (f P[i] v)) (zL (n:=i) (l:=P.map (rS P f)) ha hb ?_) hc ?_
 ·rw[JG,Jx hi];rfl
 ·rw[JG,Jx hj];rfl
theorem Rd.pick (R:Rd cs ls L P)(hn:ns.length<=63)(k:Nat):∃r v,v∈P/\aw [.scr ns,.int k,.int (P.length:Nat)] = .ok (.int r)/\aO (eS P) (.int r)= .ok (en v):=by
 have:=R.pos;obtain⟨r,e,r0,r1⟩:=da ns k (P.length:Nat) hn (by omega)
 obtain⟨t,ht,e2⟩:=BM (l:=P.map en) r0 (by rw[Jm];exact r1)
 obtain⟨v,hv,rfl⟩:=JH.mp ht;exact⟨r,v,hv,e,e2⟩
end
def Be (v:N2):List Int:=[v.c,v.k]
theorem pO:∀Q:List N2,Tr.rowsT (Q.map en)=some (Q.map Be)
 | [] =>rfl
 | v::Q=>by
  show(match dR [.int v.c,.int v.k],Tr.rowsT (Q.map en)with | some ns,some k=>if ns= []then none else some (ns::k) | _,_=>none)=_
  rw[pO Q]
  rfl
theorem Ba {Q:List N2}(h:Q.length<64):oq [.lst (Q.map en)] = .ok (.lst (((Q.map Be).mergeSort gx).map λns=> .tup (ns.map .int))):=by
 unfold oq;simp only[pO Q];rw[Jm,if_pos h]
theorem vp (c k c' k':Int):bR [c,k] [c',k'] =(if c=c' then decide (k<k')else decide (c<c')):=by
 unfold bR bR bR
 by_cases h:c=c'
 ·rw[if_pos h,if_pos h]
  by_cases h2:k=k'
  ·rw[if_pos h2,h2];simp
  ·rw[if_neg h2]
 ·rw[if_neg h,if_neg h]
def CZ (t:T):List Int:=match t with
 | .tup [.int c,.int k] => [c,k]
 | _=> []
theorem Aa:∀(cs:List T) (i:Nat),(dS i cs).Pairwise λa b=>bR (CZ a) (CZ b)=true
 | [],i=>MV
 | x::cs,i=>by
  rw[dS,List.pairwise_append];refine⟨?_,Aa cs (i+1),λa ha b hb=> ?_⟩
  ·unfold jZ rng
   rw[KJ,Mj];refine List.pairwise_lt_range.imp ?_
   intro a b hab
   show bR [(i:Int),0+(a:Int)] [(i:Int),0+(b:Int)] =true
   rw[vp,if_pos rfl];exact decide_eq_true (by omega)
  ·unfold jZ at ha
   obtain⟨t,ht,rfl⟩:=JH.mp ha;obtain⟨j,rfl,hj⟩:=jM ht;obtain⟨c,k,rfl,h1,_,_⟩:=jU cs (i+1) hb
   show bR [(i:Int),(j:Int)] [(c:Int),(k:Int)] =true
   rw[vp,if_neg (by omega)]
   exact decide_eq_true (by omega)
section
variable {cs ls:List T}{L:bj N2}{P:List N2}{ns:List Int}{f:cO N2}
theorem Rd.up (R:Rd cs ls L P):(P.map Be).Pairwise λa b=>gx a b=true:=by
 have h:=Aa cs 0;rw[R.e,Mj]at h;rw[Mj];refine h.imp λ{a b} hab=> ?_
 have hab:bR (Be a) (Be b)=true:=hab;unfold gx
 cases z:bR (Be b) (Be a)with
 | false=>rfl
 | true=>have:=iK _ _ _ hab z;rw[gf]at this;cases this
theorem Rd.sorted (R:Rd cs ls L P){Q:List N2}(p:Q.Perm P):oq [.lst (Q.map en)] = .ok (eS P):=by
 rw[Ba (by rw[p.length_eq];have:=R.pl;omega),<-jJ ((p.symm.map Be)) R.up,KJ]
 rfl
theorem Db (Q:List N2):(T.lst (Q.map en)).pl=true/\(T.lst (Q.map en)).dep<=60:=by
 refine⟨?_,?_⟩
 ·rw[Ea];exact pV λt ht=>by obtain⟨v,_,rfl⟩:=JH.mp ht;rfl
 ·unfold T.dep
  have:deps (Q.map en)<=5:=v7 λt ht=>by obtain⟨v,_,rfl⟩:=JH.mp ht;simp[en,T.dep,deps]
  omega
def fq:List N2->bj N2
 | a::b::r=>(b,a,0)::fq (b::r)
 | _=> []
theorem u5:∀(Q:List N2) (k:Nat) {a b:N2},Q[k]? =some a->Q[k+1]? =some b->(fq Q)[k]? =some (b,a,0)
 | [],_,_,_,h,_=>by cases h
 | [x],0,_,_,_,h=>by cases h
 | [x],k+1,_,_,h,_=>by cases h
 | x::y::r,0,a,b,h,g=>by cases h;cases g;rfl
 | x::y::r,k+1,a,b,h,g=>by
  show(fq (y::r))[k]? =_
  exact u5 (y::r) k (by simpa using h) (by simpa using g)
theorem hU:∀Q:List N2,(fq Q).length=Q.length - 1
 | [] =>rfl
 | [x] =>rfl
 | x::y::r=>by rw[fq,Jq,hU (y::r)];simp
theorem rV {Q:List N2}:∀x∈fq Q,x.1∈Q/\x.2.1∈Q/\x.2.2=0:=by
 induction Q with
 | nil=>intro x hx;cases hx
 | cons a Q ih=>
  cases Q with
  | nil=>intro x hx;cases hx
  | cons b r=>
   intro x hx;rcases Jp.mp hx with rfl | hx
   ·exact⟨by simp,by simp,rfl⟩
   ·obtain⟨h1,h2,h3⟩:=ih x hx
    exact⟨Jh _ h1,Jh _ h2,h3⟩
def riT (Q:List N2)(t:T):T:=match t with
 | .int k=>match(fq Q)[k.toNat]? with
  | some x=>eB x
  | none=> .non
 | _=> .non
theorem Dz (Q:List N2):(rng 0 ((Q.length - 1:Nat):Int)).map (riT Q)=(fq Q).map eB:=by
 apply Qq
 intro k;unfold rng;rw[JG,JG,JG]
 by_cases h:k<Q.length - 1
 ·have hk:k<(fq Q).length:=by rw[hU];exact h
  have e:(fq Q)[k]? =some (fq Q)[k]:=Jx hk
  rw[Jx (by rw[Lm];omega),P2,e]
  show some (match(fq Q)[(0+(k:Int)).toNat]? with | some x=>eB x | none=>T.non)=_
  rw[show(0+(k:Int)).toNat=k by omega,e]
  rfl
 ·rw[K6 (by rw[Lm];omega),K6 (by rw[hU];omega)]
  rfl
theorem Rd.Iz (R:Rd cs ls L P){Q:List N2}(p:Q.Perm P):AH (L++fq Q) P:=by
 have hs:=pF R.bg
 have ll:=R.ll
 have pl:=R.pl
 have hq:Q.length=P.length:=p.length_eq;refine⟨?_,?_,λx hx=> ?_,by omega⟩
 ·rw[Ju,hU];omega
 ·have:((fq Q).map λx:N2×N2×Int=>x.2.2.natAbs).sum=0:=by
   have:∀l:bj N2,(∀x∈l,x.2.2=0)->(l.map λx:N2×N2×Int=>x.2.2.natAbs).sum=0:=λl=>by
    induction l with
    | nil=>intro _;rfl
    | cons a l ih=>intro h;rw[Jn,K0,ih λx hx=>h x (Jh _ hx),h a Jj];rfl
   exact this _ λx hx=>(rV x hx).2.2
  unfold size at hs ⊢;rw[J6,Rr];omega
 ·rcases JS.mp hx with hx | hx
  ·exact R.f.ends x hx
  ·obtain⟨h1,h2,_⟩:=rV x hx
   exact⟨p.mem_iff.mp h1,p.mem_iff.mp h2⟩
end
def d9 (o:Option Int):Bool:=match o with
 | some y=>decide (y<0)
 | none=>false
def wG (o:Option Int):Bool:=match o with
 | some y=>decide (y > 0)
 | none=>true
theorem Dd {i:Nat}{o:Option Int}{Z:En}(h:vr i Z= .ok (oI o)):wJ (o2 fx (vr i) (cn .non)) (o2 zT (vr i) (cn (.int 0))) Z= .ok (.bl (wG o)):=by
 cases o with
 | none=>exact zG (aA (t:=.non) (u:=.non) h rfl rfl)
 | some y=>exact(zH (aA (t:=.int y) (u:=.non) h rfl rfl)).trans (aA (t:=.int y) (u:=.int 0) h rfl rfl)
theorem De {i:Nat}{o:Option Int}{Z:En}(h:vr i Z= .ok (qo o)):bM (o2 de (vr i) (cn .non)) (o2 zT (vr i) (cn (.int 0))) Z= .ok (.bl (d9 o)):=by
 cases o with
 | none=>exact vK (aA (t:=.non) (u:=.non) h rfl rfl)
 | some y=>
  refine(uv (aA (t:=.int (0 - y)) (u:=.non) h rfl rfl)).trans (aA (t:=.int (0 - y)) (u:=.int 0) h rfl ?_)
  show Rs.ok (T.bl (decide (0 - y > 0)))= .ok (.bl (decide (y<0)))
  congr 2
  exact decide_eq_decide.mpr (by omega)
def word (f:cO N2)(a c:N2):Str:=if d9 (f c a)then "ahead" else if d9 (f a c)then "behind" else if wG (f a c)||wG (f c a)then "open" else "at once"
section
variable {cs ls:List T}{L:bj N2}{P:List N2}{ns:List Int}{f:cO N2}
theorem Rd.HY (R:Rd cs ls L P)(n:NoNeg L)(F:cG L P f){a c:N2}(ha:a∈P)(hc:c∈P):bB [RR cs ls,en a,en c] = .ok (.bl (d9 (f c a))):=by
 refine bc rfl ?_
 show fF [.va (RR cs ls),.va (en a),.va (en c),.em] =_
 unfold fF;rw[ar (Z':=[.va (RR cs ls),.va (en a),.va (en c),.va (qo (f c a))]) (bq (aF (ts:=[RR cs ls,en a,en c]) rfl (R.Il n F ha hc)) rfl)];exact bH (De rfl)
theorem Rd.Iy (R:Rd cs ls L P)(n:NoNeg L)(F:cG L P f){a c:N2}(ha:a∈P)(hc:c∈P):dk [RR cs ls,en a,en c] = .ok (.bl (wG (f a c))):=by
 refine bc rfl ?_
 show fV [.va (RR cs ls),.va (en a),.va (en c),.em] =_
 unfold fV;rw[ar (Z':=[.va (RR cs ls),.va (en a),.va (en c),.va (oI (f a c))]) (bq (aF (ts:=[RR cs ls,en a,en c]) rfl (R.Ik n F ha hc)) rfl)];exact bH (Dd rfl)
theorem Rd.once (R:Rd cs ls L P)(n:NoNeg L)(F:cG L P f){a c:N2}(ha:a∈P)(hc:c∈P):cE [RR cs ls,en a,en c] = .ok (.bl (!d9 (f c a)&& !d9 (f a c))):=by
 refine bc rfl ?_
 exact bH (vJ (uu (aF (ts:=[RR cs ls,en a,en c]) rfl (R.HY n F ha hc))) λ_=>uu (aF (ts:=[RR cs ls,en c,en a]) rfl (R.HY n F hc ha)))
def xK (cs ls:List T)(P:List N2)(f:cO N2)(acc:List T)(s4 s5 s6 s7:Sl):En:=[.va (RR cs ls),.va (wo P f),.va (eS P),.ow (.lst acc),s4,s5,s6,s7]
abbrev spI:En->Rs Fl:=(eO (lp (tb (o2 de (o2 aO (o2 aO (vr 1) (vr 6)) (vr 4)) (cn .non))) (tb (o2 wU (o2 aO (o2 aO (vr 1) (vr 6)) (vr 4)) (cn (.int 0))))) (jL 3 (bK (ae (vr 5) (ae (vr 7) ah)))) sN)
def pairsOf (f:cO N2)(a:N2)(Q:List N2):List T:=(Q.filter λc=>d9 (f c a)).map λc=> .tup [en a,en c]
theorem CT {i:Nat}(hi:i<P.length)(pl:P.length<=16):∀(Q:List N2) (j:Nat) (acc:List T) (s6 s7:Sl),P.drop j=Q->acc.length+Q.length<=1000->∃s6' s7',
  bh (gT 2 (gW (gN 6) (gW (gN 7) oU))) spI (br j (Q.map en)) (xK cs ls P f acc (.va (.int (i:Nat))) (.va (en P[i])) s6 s7)= .ok (.nx (xK cs ls P f (acc++pairsOf f P[i] Q) (.va (.int (i:Nat))) (.va (en P[i])) s6' s7'))
 | [],j,acc,s6,s7,_,_=>⟨s6,s7,by unfold pairsOf;simp only[ME,List.filter_nil,Km];rfl⟩
 | c::Q,j,acc,s6,s7,hd,hl=>by
  have hj:P[j]? =some c:=by rw[<-Rt,hd];rfl
  obtain⟨hj',ej⟩:=Jy.mp hj
  rw[Jq]at hl
  have st:∃acc',acc'=(acc++pairsOf f P[i] [c])/\acc'.length<=acc.length+1/\spI (xK cs ls P f acc (.va (.int (i:Nat))) (.va (en P[i])) (.va (.int (j:Nat))) (.va (en c)))= .ok (.nx (xK cs ls P f acc' (.va (.int (i:Nat))) (.va (en P[i])) (.va (.int (j:Nat))) (.va (en c)))):=by
   have ev:o2 aO (o2 aO (vr 1) (vr 6)) (vr 4) (xK cs ls P f acc (.va (.int (i:Nat))) (.va (en P[i])) (.va (.int (j:Nat))) (.va (en c)))= .ok (oI (f c P[i])):=by
    rw[<-ej];exact Dx hj' hi rfl rfl rfl
   unfold pairsOf
   cases q:f c P[i]with
   | none=>
    rw[q]at ev
    refine⟨acc,by simp[q,d9],by omega,(cM (uz (bx (aA (t:=.non) (u:=.non) ev rfl rfl)))).trans rfl⟩
   | some y=>
    rw[q]at ev
    have t1:=uw (bx (aA (g:=de) (fb:=cn .non) (t:=.int y) (u:=.non) ev rfl rfl)) (bx (aA (g:=wU) (fb:=cn (.int 0)) (t:=.int y) (u:=.int 0) ev rfl rfl))
    replace t1:_=Rs.ok (decide (y<0)):=t1
    by_cases hy:y<0
    ·rw[decide_eq_true hy]at t1
     refine⟨acc++ [.tup [en P[i],en c]],by simp[q,d9,hy],by simp,(ik t1).trans (sW (l:=acc) (p2 rfl rfl) rfl (by omega))⟩
    ·rw[decide_eq_false hy]at t1
     exact⟨acc,by simp[q,d9,hy],by omega,(cM t1).trans rfl⟩
  obtain⟨acc',ea,la,st⟩:=st;obtain⟨a,b,ih⟩:=CT hi pl Q (j+1) acc' (.va (.int (j:Nat))) (.va (en c)) (by rw[<-List.tail_drop,hd];rfl) (by omega)
  refine⟨a,b,?_⟩
  have g:gT 2 (gW (gN 6) (gW (gN 7) oU)) (.tup [.int (j:Nat),en c]) (xK cs ls P f acc (.va (.int (i:Nat))) (.va (en P[i])) s6 s7)= .ok (xK cs ls P f acc (.va (.int (i:Nat))) (.va (en P[i])) (.va (.int (j:Nat))) (.va (en c))):=rfl;rw[Jn,br,dY g st,ih,ea,JV]
  have:pairsOf f P[i] [c] ++pairsOf f P[i] Q=pairsOf f P[i] (c::Q):=by unfold pairsOf;rw[<-J6,<-List.filter_append];rfl
  rw[this]
abbrev spO:En->Rs Fl:=(gb (iE (ae (vr 2) ah)) (gT 2 (gW (gN 6) (gW (gN 7) oU))) spI)
theorem wI (f:cO N2)(a:N2)(Q:List N2):(pairsOf f a Q).length<=Q.length:=by unfold pairsOf;rw[Jm];exact List.length_filter_le _ _
theorem yk (pl:P.length<=16):∀(Q:List N2) (i:Nat) (acc:List T) (s4 s5 s6 s7:Sl),P.drop i=Q->acc.length+16*Q.length<=900->∃s4' s5' s6' s7',
  bh (gT 2 (gW (gN 4) (gW (gN 5) oU))) spO (br i (Q.map en)) (xK cs ls P f acc s4 s5 s6 s7)= .ok (.nx (xK cs ls P f (acc++Q.flatMap λa=>pairsOf f a P) s4' s5' s6' s7'))
 | [],i,acc,s4,s5,s6,s7,_,_=>⟨s4,s5,s6,s7,by simp only[List.flatMap_nil,Km];rfl⟩
 | c::Q,i,acc,s4,s5,s6,s7,hd,hl=>by
  have hi:P[i]? =some c:=by rw[<-Rt,hd];rfl
  obtain⟨hi',ei⟩:=Jy.mp hi
  rw[Jq]at hl;obtain⟨a6,a7,st⟩:=CT (cs:=cs) (ls:=ls) (f:=f) hi' pl P 0 acc s6 s7 rfl (by omega)
  rw[ei]at st
  have hlen:=wI f c P;obtain⟨b4,b5,b6,b7,ih⟩:=yk pl Q (i+1) (acc++pairsOf f c P) (.va (.int (i:Nat))) (.va (en c)) a6 a7 (by rw[<-List.tail_drop,hd];rfl) (by rw[Ju];omega)
  refine⟨b4,b5,b6,b7,?_⟩
  have g:gT 2 (gW (gN 4) (gW (gN 5) oU)) (.tup [.int (i:Nat),en c]) (xK cs ls P f acc s4 s5 s6 s7)= .ok (xK cs ls P f acc (.va (.int (i:Nat))) (.va (en c)) s6 s7):=rfl;rw[Jn,br,dY g (gh (vI (l:=P.map en) rfl) st),ih,JV,MZ]
def pC (P:List N2)(f:cO N2):List T:=P.flatMap λa=>pairsOf f a P
theorem Rd.IK (R:Rd cs ls L P)(n:NoNeg L)(F:cG L P f):eR [RR cs ls] = .ok (.lst (pC P f)):=by
 refine bc rfl ?_
 show gB [.va (RR cs ls),.em,.em,.em,.em,.em,.em,.em] =_
 unfold gB;rw[ar (Z':=[.va (RR cs ls),.va (wo P f),.em,.em,.em,.em,.em,.em]) (bq (aF (ts:=[RR cs ls]) rfl (R.Ja n F)) rfl)];rw[ar (Z':=[.va (RR cs ls),.va (wo P f),.va (eS P),.em,.em,.em,.em,.em]) (bq (aF (ts:=[RR cs ls]) rfl R.events) rfl)];rw[ar (Z':=xK cs ls P f [] .em .em .em .em) (qA (by simp))]
 obtain⟨b4,b5,b6,b7,e⟩:=yk (cs:=cs) (ls:=ls) (f:=f) R.pl P 0 [] .em .em .em .em rfl (by have:=R.pl;simp;omega)
 rw[LO]at e;rw[ar (gh (vI (l:=P.map en) rfl) e)]
 rfl
theorem Rd.Iu (R:Rd cs ls L P)(l:List T)(s3:Sl):∀(Q:List N2) (s2:Sl),(∀v∈Q,v∈P)->∃s2',bh (gN 2) (qX (cl b9 (ae (vr 0) (ae (vr 2) ah)))) (Q.map en) [.va (RR cs ls),.va (.lst l),s2,s3] = .ok (.nx [.va (RR cs ls),.va (.lst l),s2',s3])
 | [],s2,_=>⟨s2,rfl⟩
 | v::Q,s2,h=>by
  obtain⟨a,ih⟩:=R.Iu l s3 Q (.va (en v)) λw hw=>h w (Jh _ hw)
  refine⟨a,?_⟩
  have g:gN 2 (en v) [.va (RR cs ls),.va (.lst l),s2,s3] = .ok [.va (RR cs ls),.va (.lst l),.va (en v),s3]:=rfl;rw[Jn,dY g (lg (t:=.non) (aF (ts:=[RR cs ls,en v]) rfl (qr R.g rfl (R.ev (h v Jj))))),ih]
theorem Rd.fits (R:Rd cs ls L P){Q:List N2}(p:Q.Perm P):(¬NoNeg (L++fq Q)/\aW [RR cs ls,.lst (Q.map en)] = .ok (.bl false))\/(NoNeg (L++fq Q)/\aW [RR cs ls,.lst (Q.map en)] = .ok (.bl true)):=by
 have hql:Q.length<=16:=by rw[p.length_eq];exact R.pl
 have hpos:0<Q.length:=by rw[p.length_eq];exact R.pos
 have wrap:∀{w:T} {b:Bool},aL [RR cs ls,eL (L++fq Q)] = .ok w->de w .non= .ok (.bl b)->aW [RR cs ls,.lst (Q.map en)] = .ok (.bl b):=λ{w b} hw hb=>by
  refine bc rfl ?_
  show gH [.va (RR cs ls),.va (.lst (Q.map en)),.em,.em] =_
  unfold gH;rw[ar (lg (t:=.non) (aF (ts:=[RR cs ls]) rfl (jS R.g.p R.g.ok)))];obtain⟨s2,e⟩:=R.Iu (Q.map en) .em Q .em λv hv=>p.mem_iff.mp hv
  rw[ar (gh (jX rfl) e)];rw[ar (Z':=[.va (RR cs ls),.va (.lst (Q.map en)),s2,.em]) ((cM (bx (aA (t:=eS P) (u:=eS P) (aF (ts:=[.lst (Q.map en)]) rfl (R.sorted p)) (aF (ts:=[RR cs ls]) rfl R.events) (vi (Db P).1 (Db P).2)))).trans rfl)]
  have ln:cl cU (ae (vr 1) ah) [.va (RR cs ls),.va (.lst (Q.map en)),s2,.em] = .ok (.int (Q.length:Nat)):=aF (ts:=[.lst (Q.map en)]) rfl (by show Rs.ok (T.int ((Q.map en).length:Nat))=_;rw[Jm])
  have lc:fH (iR (ae (o2 gV (cl cU (ae (vr 1) ah)) (cn (.int 1))) ah)) [none,some 1] (gN 0) bT (bK (ae (o2 aO (vr 1) (o2 aS (vr 0) (cn (.int 1)))) (ae (o2 aO (vr 1) (vr 0)) (ae (cn (.int 0)) ah)))) [.va (RR cs ls),.va (.lst (Q.map en)),s2,.em] = .ok (.lst ((rng 0 ((Q.length - 1:Nat):Int)).map (riT Q))):=
   n4 (ts:=rng 0 ((Q.length - 1:Nat):Int)) (E7 (j:=((Q.length - 1:Nat):Int)) (aq (aA (t:=.int (Q.length:Nat)) (u:=.int 1) ln rfl (by show Rs.ok (T.int ((Q.length:Int) - 1))=_;congr 2;omega)) rfl) (by omega) (by omega)) (aC (k:=16) (by rw[iF];omega)) (by simp) λt ht=>by
    obtain⟨k,rfl,hk⟩:=jM ht
    have hk':k+1<Q.length:=by omega
    have e1:Q[k]? =some Q[k]:=Jx (by omega)
    have e2:Q[k+1]? =some Q[k+1]:=Jx hk'
    have er:=u5 Q k e1 e2
    have:riT Q (.int (k:Nat))=eB (Q[k+1],Q[k],0):=by
     show(match(fq Q)[((k:Nat):Int).toNat]? with | some x=>eB x | none=>T.non)=_
     rw[Ko,er]
    rw[this];exact dJ (aq (zK (n:=k+1) (l:=Q.map en) rfl (aA (t:=.int (k:Nat)) (u:=.int 1) rfl rfl rfl) (by rw[JG,e2];rfl)) (aq (zK (n:=k) (l:=Q.map en) rfl rfl (by rw[JG,e1];rfl)) rfl)) (aC (k:=3) (by simp))
  rw[Dz]at lc;rw[ar (Z':=[.va (RR cs ls),.va (.lst (Q.map en)),s2,.va (eL (fq Q))]) (bq lc rfl)];refine bH (aA (t:=w) (u:=.non) (aF (ts:=[RR cs ls,eL (L++fq Q)]) (aq rfl (aq (aA (t:=eL L) (u:=eL (fq Q)) (aF (ts:=[RR cs ls]) rfl R.bounds) rfl ?_) rfl)) hw) rfl hb)
  unfold eL;rw[lF _ _ (by rw[Ju,Jm,Jm,hU];have:=R.ll;omega),J6]
 rcases R.gw (R.Iz p)with⟨n2,e⟩ | ⟨n2,t,h,e⟩
 ·exact .inl ⟨n2,wrap e rfl⟩
 ·exact .inr ⟨n2,wrap e rfl⟩
end
def rP (t:N2->Int)(v:N2):List Int:=[t v,v.c,v.k]
def dj (P:List N2)(t:N2->Int):List N2:=P.mergeSort λa b=>gx (rP t a) (rP t b)
theorem di (P:List N2)(t:N2->Int):(dj P t).Perm P:=Pv _ _
theorem yW (P:List N2)(t:N2->Int):(dj P t).Pairwise λa b=>gx (rP t a) (rP t b)=true:=
 Od (le:=λa b=>gx (rP t a) (rP t b)) (λa b c=>zr (rP t a) (rP t b) (rP t c)) (λa b=>vC (rP t a) (rP t b)) P
theorem wY {t:N2->Int}{a b:N2}(h:gx (rP t a) (rP t b)=true):t a<=t b:=by
 unfold gx rP bR at h
 by_cases e:t b=t a
 ·omega
 ·rw[if_neg e]at h
  have:¬ t b<t a:=λz=>by rw[decide_eq_true z]at h;cases h
  omega
theorem pZ (P:List N2)(t:N2->Int):(dj P t).Pairwise λa b=>t a<=t b:=(yW P t).imp wY
def sndT (u:T):T:=match u with
 | .tup [_,b] =>b
 | _=> .non
theorem vg (t:N2->Int):∀P:List N2,dR (P.map λv=>T.int (t v))=some (P.map t)
 | [] =>rfl
 | v::P=>by show(dR (P.map λv=>T.int (t v))).map (t v:: ·)=_;rw[vg t P];rfl
theorem rh (t:N2->Int):∀P:List N2,ON N7 (P.map t) (P.map Be)=P.map (rP t)
 | [] =>rfl
 | v::P=>by rw[Jn,Jn,List.zipWith_cons_cons,rh t P];rfl
theorem FW {P:List N2}(t:N2->Int)(h0:0<P.length)(h1:P.length<64):FB [fY P t,eS P] = .ok (.lst ((dj P t).map λv=> .tup [.int (t v),en v])):=by
 show(match dR (P.map λv=>T.int (t v)),Tr.rowsT (P.map en)with
   | some ts,some ks=>if ts.length=ks.length/\0<ts.length/\ts.length<64 then Rs.ok (T.lst (((ON N7 ts ks).mergeSort gx).map unN))else .bad
   | _,_=> .bad)=_
 rw[vg,pO]
 dsimp only
 rw[if_pos ⟨by rw[Jm,Jm],by rw[Jm];exact h0,by rw[Jm];exact h1⟩,rh]
 have e:(dj P t).map (rP t)=(P.map (rP t)).mergeSort gx:=jJ ((di P t).map _) (by rw[Mj];exact yW P t)
 rw[<-e,KJ]
 rfl
section
variable {cs ls:List T}{L:bj N2}{P:List N2}{ns:List Int}{f:cO N2}
theorem Rd.told (R:Rd cs ls L P)(t:N2->Int):c7 [RR cs ls,fY P t] = .ok (eS (dj P t)):=by
 have hl:(dj P t).length<=16:=by rw[(di P t).length_eq];exact R.pl
 have lc:fH (iS (cl FB (ae (vr 1) (ae (cl aZ (ae (vr 0) ah)) ah)))) [none] (gN 0) bT (o2 aO (vr 0) (cn (.int 1))) [.va (RR cs ls),.va (fY P t)] = .ok (.lst (((dj P t).map λv=>T.tup [.int (t v),en v]).map sndT)):=
  n4 (ts:=(dj P t).map λv=>T.tup [.int (t v),en v]) (jX (aF (ts:=[fY P t,eS P]) (aq rfl (aq (aF (ts:=[RR cs ls]) rfl R.events) rfl)) (FW t R.pos (by have:=R.pl;omega)))) (aC (k:=16) (by rw[Jm];exact hl)) (by simp) λu hu=>by
   obtain⟨v,_,rfl⟩:=JH.mp hu;exact aA (t:=.tup [.int (t v),en v]) (u:=.int 1) rfl rfl (C8 (n:=1) rfl)
 rw[KJ]at lc;exact bc rfl (bH lc)
theorem lV {t:N2->Int}:∀{Q:List N2},Q.Pairwise (λa b=>t a<=t b)->Holds (fq Q) t
 | [],_=>λ_ _ _ h=>by cases h
 | [_],_=>λ_ _ _ h=>by cases h
 | a::b::r,h=>λu v m hm=>by
  rcases Jp.mp hm with e | hm
  ·cases e
   have:=(MO.mp h).1 b Jj;omega
  ·exact lV (MO.mp h).2 u v m hm
theorem xg {M N:bj N2}{t:N2->Int}(h:Holds M t)(g:Holds N t):Holds (M++N) t:=λu v m hm=>(JS.mp hm).elim (h u v m) (g u v m)
theorem Rd.IM (R:Rd cs ls L P){Q:List N2}(p:Q.Perm P){t:N2->Int}(h:Holds L t)(g:Q.Pairwise λa b=>t a<=t b):aW [RR cs ls,.lst (Q.map en)] = .ok (.bl true):=by
 rcases R.fits p with⟨n,_⟩ | ⟨_,e⟩
 ·exact absurd (xg h (lV g)).Ii n
 ·exact e
theorem u4 {t:N2->Int}:∀{Q:List N2},Holds (fq Q) t->Q.Pairwise λa b=>t a<=t b
 | [],_=>MV
 | [_],_=>Oe _ _
 | a::b::r,h=>by
  have ih:(b::r).Pairwise λa b=>t a<=t b:=u4 λu v m hm=>h u v m (Jh _ hm)
  have hab:t a<=t b:=by have:=h b a 0 Jj;omega
  refine MO.mpr ⟨λc hc=> ?_,ih⟩
  rcases Jp.mp hc with rfl | hc
  ·exact hab
  ·exact QK hab ((MO.mp ih).1 c hc)
theorem yH {t:N2->Int}{Q:List N2}(h:Q.Pairwise λa b=>t a<=t b){i j:Nat}{a b:N2}(hi:Q[i]? =some a)(hj:Q[j]? =some b)(hij:i<j):t a<=t b:=by
 obtain⟨h1,rfl⟩:=Jy.mp hi
 obtain⟨h2,rfl⟩:=Jy.mp hj
 exact LG.mp h i j h1 h2 hij
theorem kB {Q:List N2}{a:N2}(h:a∈Q):Q[Q.idxOf a]? =some a:=by
 rw[Jx (LR.mpr h),List.getElem_idxOf]
theorem uC {t:N2->Int}{Q:List N2}(h:Q.Pairwise λa b=>t a<=t b){a b:N2}(ha:a∈Q)(hb:b∈Q)(lt:t a<t b):Q.idxOf a<Q.idxOf b:=by
 rcases N6 (Q.idxOf a) (Q.idxOf b)with z | z | z
 ·exact z
 ·have h1:=kB ha
  have h2:=kB hb;rw[z,h2]at h1;cases h1;omega
 ·have:=yH h (kB hb) (kB ha) z
  omega
theorem GW {M N:bj N2}{t:N2->Int}(h:Holds (M++N) t):Holds M t:=λu v m hm=>h u v m (J2 _ hm)
theorem GV {M N:bj N2}{t:N2->Int}(h:Holds (M++N) t):Holds N t:=λu v m hm=>h u v m (JD _ hm)
theorem Rd.IP (R:Rd cs ls L P){Q:List N2}(p:Q.Perm P){a b:N2}{d:Int}(w:Wk L b a d)(hd:d<0){i j:Nat}(hij:i<j)(hi:Q[i]? =some b)(hj:Q[j]? =some a):aW [RR cs ls,.lst (Q.map en)] = .ok (.bl false):=by
 rcases R.fits p with⟨_,e⟩ | ⟨n,_⟩
 ·exact e
 ·rcases R.gw (R.Iz p)with⟨n2,_⟩ | ⟨_,t,h,_⟩
  ·exact absurd n n2
  ·have h1:=(GW h).walk w
   have h2:=yH (u4 (GV h)) hi hj hij;omega
theorem wu {Q:List N2}{i j:Nat}{a b:N2}(hi:Q[i]? =some a)(hj:Q[j]? =some b)(hij:i≠j):((Q.set i b).set j a).Perm Q:=by
 obtain⟨h1,rfl⟩:=Jy.mp hi
 obtain⟨h2,rfl⟩:=Jy.mp hj
 exact List.set_set_perm h1 h2
end
theorem ET {i:Nat}{fa:En->Rs T}{Z:En}{l:List T}(h:fa Z= .ok (.lst l))(hi:i<Z.length):lT i fa Z= .ok (.nx (Z.set i (.ow (.lst l)))):=by
 unfold lT;rw[h,aE];unfold Aw;simp only[if_pos hi]
theorem Ce {n j:Nat}(h:j<n):L2.ixN n (j:Int)=some j:=by
 unfold L2.ixN;rw[if_pos (by omega),if_pos (by omega),Ko]
theorem zE {i j:Nat}{fk fv:En->Rs T}{Z:En}{l:List T}{v:T}(hi:Z[i]? =some (.ow (.lst l)))(hv:fv Z= .ok v)(hk:fk Z= .ok (.int (j:Nat)))(hj:j<l.length):jK i fk fv Z= .ok (.nx (Z.set i (.ow (.lst (l.set j v))))):=by
 unfold jK;rw[hi];simp only[hv,hk,aE];unfold yv;simp only[Ce hj]
theorem B4 {l:List T}{a b:Option Int}{u:T}(h:u∈lj l a b):u∈l:=by
 unfold lj at h;exact List.mem_of_mem_drop (List.mem_of_mem_take h)
abbrev EL (ns:List Int)(cs ls:List T)(P:List N2)(a c:N2)(s5 s6 s7 s8 s9 s10 s11:Sl):En:=[.va (.scr ns),.va (RR cs ls),.va (eS P),.va (en a),.va (en c),s5,s6,s7,s8,s9,s10,s11]
def oS (f:cO N2)(a c:N2):Int:=match f a c with
 | some y=>y
 | none=>fS 1 [match f c a with | some d=>0 - d | none=>0]
def uq (f:cO N2)(a c:N2):Int:=match f c a with
 | some d=>0 - d
 | none=>fw (-1) [match f a c with | some y=>y | none=>0]
theorem G3 {f:cO N2}{a c:N2}{Z:En}(h6:vr 6 Z= .ok (oI (f a c)))(h7:vr 7 Z= .ok (qo (f c a))):(tL (tb (o2 de (vr 6) (cn .non))) (vr 6) (cl B5 (ae (cn (.int 1)) (ae (tL (tb (o2 fx (vr 7) (cn .non))) (cn (.int 0)) (vr 7)) ah)))) Z= .ok (.int (oS f a c)):=by
 unfold oS
 cases q:f a c with
 | some y=>
  rw[q]at h6
  exact(gg (p:=true) (bx (aA (t:=.int y) (u:=.non) h6 rfl rfl))).trans h6
 | none=>
  rw[q]at h6;refine(gg (p:=false) (bx (aA (t:=.non) (u:=.non) h6 rfl rfl))).trans ?_
  cases q2:f c a with
  | some d=>
   rw[q2]at h7
   exact aF (ts:=[.int 1,.int (0 - d)]) (aq rfl (aq ((gg (p:=false) (bx (aA (t:=.int (0 - d)) (u:=.non) h7 rfl rfl))).trans h7) rfl)) rfl
  | none=>
   rw[q2]at h7;exact aF (ts:=[.int 1,.int 0]) (aq rfl (aq ((gg (p:=true) (bx (aA (t:=.non) (u:=.non) h7 rfl rfl))).trans rfl) rfl)) rfl
theorem Fg {f:cO N2}{a c:N2}{Z:En}(h6:vr 6 Z= .ok (oI (f a c)))(h7:vr 7 Z= .ok (qo (f c a))):(tL (tb (o2 de (vr 7) (cn .non))) (vr 7) (cl B1 (ae (o1 kw (cn (.int 1))) (ae (tL (tb (o2 fx (vr 6) (cn .non))) (cn (.int 0)) (vr 6)) ah)))) Z= .ok (.int (uq f a c)):=by
 unfold uq
 cases q:f c a with
 | some d=>
  rw[q]at h7
  exact(gg (p:=true) (bx (aA (t:=.int (0 - d)) (u:=.non) h7 rfl rfl))).trans h7
 | none=>
  rw[q]at h7;refine(gg (p:=false) (bx (aA (t:=.non) (u:=.non) h7 rfl rfl))).trans ?_
  cases q2:f a c with
  | some y=>
   rw[q2]at h6
   exact aF (ts:=[.int (-1),.int y]) (aq rfl (aq ((gg (p:=false) (bx (aA (t:=.int y) (u:=.non) h6 rfl rfl))).trans h6) rfl)) rfl
  | none=>
   rw[q2]at h6;exact aF (ts:=[.int (-1),.int 0]) (aq rfl (aq ((gg (p:=true) (bx (aA (t:=.non) (u:=.non) h6 rfl rfl))).trans rfl) rfl)) rfl
theorem E6 {Q:List N2}{a c:N2}{m:Int}{Z:En}(h8:vr 8 Z= .ok (.int m))(h10:vr 10 Z= .ok (eS Q))(h3:vr 3 Z= .ok (en a))(h4:vr 4 Z= .ok (en c))(g:m > 0->Q.idxOf a<Q.idxOf c)(ha:a∈Q)(hc:c∈Q):(lp (tb (o2 zT (vr 8) (cn (.int 0)))) (tb (o2 zT (oL bF (vr 10) (vr 3)) (oL bF (vr 10) (vr 4))))) Z= .ok false:=by
 by_cases h:m > 0
 ·refine uw (bx (aA (t:=.int m) (u:=.int 0) h8 rfl (by show Rs.ok (T.bl (decide (m > 0)))=_;rw[decide_eq_true h]))) (bx (aA (t:=.int ((Q.idxOf a:Nat):Int)) (u:=.int ((Q.idxOf c:Nat):Int)) (ut (ks:=Q.map en) (u:=en a) h10 h3 (fy a Q ha)) (ut (ks:=Q.map en) (u:=en c) h10 h4 (fy c Q hc)) ?_))
  have:=g h
  show Rs.ok (T.bl (decide (((Q.idxOf a:Nat):Int) > ((Q.idxOf c:Nat):Int))))=_
  rw[decide_eq_false (by omega)]
 ·exact uz (bx (aA (t:=.int m) (u:=.int 0) h8 rfl (by show Rs.ok (T.bl (decide (m > 0)))=_;rw[decide_eq_false h])))
theorem E5 {Q:List N2}{a c:N2}{m:Int}{Z:En}(h11:vr 11 Z= .ok (.int m))(h10:vr 10 Z= .ok (eS Q))(h3:vr 3 Z= .ok (en a))(h4:vr 4 Z= .ok (en c))(g:m<0->Q.idxOf c<Q.idxOf a)(ha:a∈Q)(hc:c∈Q):(lp (tb (o2 wU (vr 11) (cn (.int 0)))) (tb (o2 wU (oL bF (vr 10) (vr 3)) (oL bF (vr 10) (vr 4))))) Z= .ok false:=by
 by_cases h:m<0
 ·refine uw (bx (aA (t:=.int m) (u:=.int 0) h11 rfl (by show Rs.ok (T.bl (decide (m<0)))=_;rw[decide_eq_true h]))) (bx (aA (t:=.int ((Q.idxOf a:Nat):Int)) (u:=.int ((Q.idxOf c:Nat):Int)) (ut (ks:=Q.map en) (u:=en a) h10 h3 (fy a Q ha)) (ut (ks:=Q.map en) (u:=en c) h10 h4 (fy c Q hc)) ?_))
  have:=g h
  show Rs.ok (T.bl (decide (((Q.idxOf a:Nat):Int)<((Q.idxOf c:Nat):Int))))=_
  rw[decide_eq_false (by omega)]
 ·exact uz (bx (aA (t:=.int m) (u:=.int 0) h11 rfl (by show Rs.ok (T.bl (decide (m<0)))=_;rw[decide_eq_false h])))
section
variable {cs ls:List T}{L:bj N2}{P:List N2}{ns:List Int}{f:cO N2}
theorem GE (i j:Int):fS i [j] =if i<j then j else i:=rfl
theorem GD (i j:Int):fw i [j] =if j<i then j else i:=rfl
theorem Rd.abs (R:Rd cs ls L P)(n:NoNeg L)(F:cG L P f){u v:N2}(hu:u∈P){d:Int}(e:f u v=some d):d.natAbs<=99999:=
 JQ (wX R.bg R.f.ends n F (λms nd h=>JQ (ge nd h) R.pl) hu e) (by decide)
theorem Rd.far (R:Rd cs ls L P)(n:NoNeg L)(F:cG L P f){a c:N2}(ha:a∈P)(hc:c∈P):(∃t,Holds L t/\t c - t a=oS f a c/\a8 [RR cs ls,en a,en c,.int (oS f a c)] = .ok (fY P t))/\∃t,Holds L t/\t c - t a=uq f a c/\a8 [RR cs ls,en a,en c,.int (uq f a c)] = .ok (fY P t):=by
 have cyc:∀x y,f a c=some x->f c a=some y->0<=x+y:=λx y h g=>n a _ ((F.is _ _ _ h).app (F.is _ _ _ g))
 have mk:∀m:Int,(∀d,f a c=some d->m<=d)->(∀d,f c a=some d->-m<=d)->m.natAbs<=100000->∃t,Holds L t/\t c - t a=m/\a8 [RR cs ls,en a,en c,.int m] = .ok (fY P t):=λm h1 h2 hm=>by
  rcases R.Iq n ha hc hm with⟨n2,_⟩ | ⟨_,t,h,e⟩
  ·exact absurd ((uT R.nd n F R.f.ends ha hc).mpr ⟨h1,h2⟩) n2
  ·obtain⟨g1,g2⟩:=two_holds.mp h
   exact⟨t,g1,g2,e⟩
 constructor
 ·refine mk _ ?_ ?_ ?_
  ·intro d hd;unfold oS;rw[hd];exact KC _
  ·intro d hd
   unfold oS
   cases q:f a c with
   | some x=>have:=cyc x d q hd;dsimp only;omega
   | none=>simp only[hd,GE];split <;> omega
  ·unfold oS
   cases q:f a c with
   | some x=>have:=R.abs n F ha q;dsimp only;omega
   | none=>
    dsimp only
    rw[GE]
    cases q2:f c a with
    | some d=>have:=R.abs n F hc q2;dsimp only;split <;> omega
    | none=>dsimp only;split <;> omega
 ·refine mk _ ?_ ?_ ?_
  ·intro d hd
   unfold uq
   cases q:f c a with
   | some x=>have:=cyc d x hd q;dsimp only;omega
   | none=>simp only[hd,GD];split <;> omega
  ·intro d hd;unfold uq;rw[hd];dsimp only;omega
  ·unfold uq
   cases q:f c a with
   | some x=>have:=R.abs n F hc q;dsimp only;omega
   | none=>
    dsimp only
    rw[GD]
    cases q2:f a c with
    | some d=>have:=R.abs n F ha q2;dsimp only;split <;> omega
    | none=>dsimp only;split <;> omega
theorem vh {o:Option Int}:(!d9 o)=true↔ ∀d,o=some d->0<=d:=by
 cases o with
 | none=>simp[d9]
 | some y=>
  simp only[d9,N8,decide_eq_false_iff_not,Qh]
  constructor
  ·intro h d e;omega
  ·intro h;have:=h y rfl;omega
theorem Rd.zero (R:Rd cs ls L P)(n:NoNeg L)(F:cG L P f){a c:N2}(ha:a∈P)(hc:c∈P):∃w,a8 [RR cs ls,en a,en c,.int 0] = .ok w/\de w .non= .ok (.bl (!d9 (f c a)&& !d9 (f a c))):=by
 have key:NoNeg (uU L a c 0)↔(!d9 (f c a)&& !d9 (f a c))=true:=by
  rw[uT R.nd n F R.f.ends ha hc,Jo,vh,vh];exact⟨λh=>⟨λd hd=>by have:=h.2 d hd;omega,h.1⟩,λh=>⟨h.2,λd hd=>by have:=h.1 d hd;omega⟩⟩
 rcases R.Iq n ha hc (m:=0) (by decide)with⟨n2,e⟩ | ⟨n2,t,_,e⟩
 ·refine⟨_,e,?_⟩
  cases q:(!d9 (f c a)&& !d9 (f a c))with
  | true=>exact absurd (key.mpr q) n2
  | false=>rfl
 ·exact⟨_,e,by rw[key.mp n2];rfl⟩
theorem zQ {Q:List N2}{v:N2}(h:v∈Q):Q.idxOf v<(Q.map en).length:=by rw[Jm];exact LR.mpr h
theorem ye {u:T}(h:u∈pC P f):∃a c d,a∈P/\c∈P/\f c a=some d/\d<0/\u= .tup [en a,en c]:=by
 unfold pC at h;obtain⟨a,ha,h⟩:=Ov.mp h;unfold pairsOf at h;obtain⟨c,hc,rfl⟩:=JH.mp h;obtain⟨hc,hn⟩:=LL.mp hc;unfold d9 at hn
 split at hn
 ·rename_i d q;exact⟨a,c,d,ha,hc,q,of_decide_eq_true hn,rfl⟩
 ·cases hn
abbrev NFB:En->Rs Fl:=(ay (lT 4 (vr 1)) (ay (jK 4 (oL bF (vr 1) (vr 2)) (vr 3)) (ay (jK 4 (oL bF (vr 1) (vr 3)) (vr 2)) (eO (B6 4 (tb (cl aW (ae (vr 0) (ae (vr 4) ah))))) (aG (cn (.bl false))) sN))))
theorem Rd.Io (R:Rd cs ls L P)(F:cG L P f){t:N2->Int}(h:Holds L t){a c:N2}{d:Int}(ha:a∈P)(hc:c∈P)(e:f c a=some d)(hd:d<0)(s4:Sl):∃s4',NFB [.va (RR cs ls),.va (eS (dj P t)),.va (en a),.va (en c),s4] = .ok (.nx [.va (RR cs ls),.va (eS (dj P t)),.va (en a),.va (en c),s4']):=by
 have ha':a∈dj P t:=(di P t).mem_iff.mpr ha
 have hc':c∈dj P t:=(di P t).mem_iff.mpr hc
 have hw:=h.walk (F.is _ _ _ e)
 have hij:=uC (pZ P t) ha' hc' (by omega)
 have p:=wu (kB ha') (kB hc') (JR hij)
 have q1:(((dj P t).set ((dj P t).idxOf a) c).set ((dj P t).idxOf c) a)[(dj P t).idxOf a]? =some c:=by
  rw[JO (Lv hij),JM (LR.mpr ha')]
 have q2:(((dj P t).set ((dj P t).idxOf a) c).set ((dj P t).idxOf c) a)[(dj P t).idxOf c]? =some a:=JM (by rw[Kr];exact LR.mpr hc')
 have fo:=R.IP (p.trans (di P t)) (F.is _ _ _ e) hd hij q1 q2;rw[List.map_set,List.map_set]at fo;refine⟨.ow (.lst ((((dj P t).map en).set ((dj P t).idxOf a) (en c)).set ((dj P t).idxOf c) (en a))),?_⟩
 refine(ar (Z':=[.va (RR cs ls),.va (eS (dj P t)),.va (en a),.va (en c),.ow (.lst ((dj P t).map en))]) (ET (l:=(dj P t).map en) rfl (by simp))).trans ?_
 refine(ar (Z':=[.va (RR cs ls),.va (eS (dj P t)),.va (en a),.va (en c),.ow (.lst (((dj P t).map en).set ((dj P t).idxOf a) (en c)))]) (zE (l:=(dj P t).map en) rfl rfl (ut (ks:=(dj P t).map en) (u:=en a) rfl rfl (fy a _ ha')) (zQ ha'))).trans ?_
 refine(ar (Z':=[.va (RR cs ls),.va (eS (dj P t)),.va (en a),.va (en c),.ow (.lst ((((dj P t).map en).set ((dj P t).idxOf a) (en c)).set ((dj P t).idxOf c) (en a)))]) (zE (l:=((dj P t).map en).set ((dj P t).idxOf a) (en c)) rfl rfl (ut (ks:=(dj P t).map en) (u:=en c) rfl rfl (fy c _ hc')) (by rw[Kr];exact zQ hc'))).trans ?_
 exact(cM (C7 (bx (aF (ts:=[RR cs ls,.lst ((((dj P t).map en).set ((dj P t).idxOf a) (en c)).set ((dj P t).idxOf c) (en a))]) rfl fo)))).trans rfl
theorem Rd.IT (R:Rd cs ls L P)(n:NoNeg L)(F:cG L P f){t:N2->Int}(h:Holds L t):c9 [RR cs ls,eS (dj P t)] = .ok (.bl true):=by
 refine bc rfl ?_
 show dZ [.va (RR cs ls),.va (eS (dj P t)),.em,.em,.em] =_
 unfold dZ
 obtain⟨Z',lo,s2,s3,s4,rfl⟩:=wV (g:=gT 2 (gW (gN 2) (gW (gN 3) oU))) (F:=NFB) (λZ=> ∃s2 s3 s4,Z= [.va (RR cs ls),.va (eS (dj P t)),s2,s3,s4]) (ts:=lj (pC P f) (some (-5)) none)
  (λu hu Z hh=>by
   obtain⟨s2,s3,s4,rfl⟩:=hh;obtain⟨a,c,d,ha,hc,e,hd,rfl⟩:=ye (B4 hu);obtain⟨a4,st⟩:=R.Io F h ha hc e hd s4;exact⟨[.va (RR cs ls),.va (eS (dj P t)),.va (en a),.va (en c),s4],_,rfl,st,_,_,_,rfl⟩) (Z:=[.va (RR cs ls),.va (eS (dj P t)),.em,.em,.em]) ⟨_,_,_,rfl⟩
 refine(ar (gh (jX (C6 (lo:=some (-5)) (hi:=none) (aF (ts:=[RR cs ls]) rfl (R.IK n F)) (GM (Cb (t:=.int 5) rfl rfl)) rfl)) lo)).trans rfl
theorem B8 {r1 r2:Int}(R:Rd cs ls L P)(n:NoNeg L)(F:cG L P f){a c:N2}(ha:a∈P)(hc:c∈P)(hac:a≠c)(er:dl [.scr ns,.int 0,.int 5] = .ok (RR cs ls))(hw:cT [RR cs ls] = .ok (.bl true))
  (d1:aw [.scr ns,.int 80,.int (P.length:Nat)] = .ok (.int r1)) (d2:aw [.scr ns,.int 81,.int (P.length:Nat)] = .ok (.int r2)) (i1:aO (eS P) (.int r1)= .ok (en a)) (i2:aO (eS P) (.int r2)= .ok (en c)):pk [.va (.scr ns),.em,.em,.em,.em,.em,.em,.em,.em,.em,.em,.em] = .ok (.rt (.bl true)):=by
 have hne:qI (en a) (en c)= .ok (.bl false):=by rw[Dc,decide_eq_false hac]
 obtain⟨⟨t1,o1,x1,w1⟩,t2,o2,x2,w2⟩:=R.far n F ha hc
 have m1:a∈dj P t1:=(di P t1).mem_iff.mpr ha
 have m2:c∈dj P t1:=(di P t1).mem_iff.mpr hc
 have m3:a∈dj P t2:=(di P t2).mem_iff.mpr ha
 have m4:c∈dj P t2:=(di P t2).mem_iff.mpr hc
 have g1:oS f a c > 0->(dj P t1).idxOf a<(dj P t1).idxOf c:=λz=>uC (pZ P t1) m1 m2 (by omega)
 have g2:uq f a c<0->(dj P t2).idxOf c<(dj P t2).idxOf a:=λz=>uC (pZ P t2) m4 m3 (by omega)
 have iw:ft [RR cs ls,fY P t1] = .ok (.bl true):=by rw[R.isw t1,holds_all.mpr o1]
 obtain⟨w0,hw0,hn0⟩:=R.zero n F ha hc
 obtain⟨t0,h0,wd⟩:∃t0,Holds L t0/\eQ [RR cs ls] = .ok (fY P t0):=by
  rcases R.Iv with⟨n2,_⟩ | ⟨_,t,b,S,hb,e⟩
  ·exact absurd n n2
  ·exact⟨t,S.holds R.f.ends hb,e⟩
 unfold pk;refine(ar (Z':=[.va (.scr ns),.va (RR cs ls),.em,.em,.em,.em,.em,.em,.em,.em,.em,.em]) (bq (aF (ts:=[.scr ns,.int 0,.int 5]) rfl er) rfl)).trans ?_
 refine(ar (Z':=[.va (.scr ns),.va (RR cs ls),.em,.em,.em,.em,.em,.em,.em,.em,.em,.em]) ((cM (jg (k:=true) (bx (aF (ts:=[RR cs ls]) rfl hw)))).trans rfl)).trans ?_
 refine(ar (Z':=[.va (.scr ns),.va (RR cs ls),.va (eS P),.em,.em,.em,.em,.em,.em,.em,.em,.em]) (bq (aF (ts:=[RR cs ls]) rfl R.events) rfl)).trans ?_
 refine(ar (Z':=[.va (.scr ns),.va (RR cs ls),.va (eS P),.va (en a),.em,.em,.em,.em,.em,.em,.em,.em]) (bq (aA (t:=eS P) (u:=.int r1) rfl (aF (ts:=[.scr ns,.int 80,.int (P.length:Nat)]) (aq rfl (aq rfl (aq (aF (ts:=[eS P]) rfl (by show Rs.ok (T.int ((P.map en).length:Nat))=_;rw[Jm])) rfl))) d1) i1) rfl)).trans ?_
 refine(ar (Z':=(EL ns cs ls P a c .em .em .em .em .em .em .em)) (bq (aA (t:=eS P) (u:=.int r2) rfl (aF (ts:=[.scr ns,.int 81,.int (P.length:Nat)]) (aq rfl (aq rfl (aq (aF (ts:=[eS P]) rfl (by show Rs.ok (T.int ((P.map en).length:Nat))=_;rw[Jm])) rfl))) d2) i2) rfl)).trans ?_
 refine(ar (Z':=(EL ns cs ls P a c .em .em .em .em .em .em .em)) ((cM (bx (aA (t:=en a) (u:=en c) rfl rfl hne))).trans rfl)).trans ?_
 refine(ar (Z':=(EL ns cs ls P a c .em (.va (oI (f a c))) .em .em .em .em .em)) (bq (aF (ts:=[RR cs ls,en a,en c]) rfl (R.Ik n F ha hc)) rfl)).trans ?_
 refine(ar (Z':=(EL ns cs ls P a c .em (.va (oI (f a c))) (.va (qo (f c a))) .em .em .em .em)) (bq (aF (ts:=[RR cs ls,en a,en c]) rfl (R.Il n F ha hc)) rfl)).trans ?_
 refine(ar (Z':=(EL ns cs ls P a c .em (.va (oI (f a c))) (.va (qo (f c a))) .em .em .em .em)) ((cM (bx (aA (t:=.bl (d9 (f c a))) (u:=.bl (d9 (f c a))) (aF (ts:=[RR cs ls,en a,en c]) rfl (R.HY n F ha hc)) (De rfl) (zf _)))).trans rfl)).trans ?_
 refine(ar (Z':=(EL ns cs ls P a c .em (.va (oI (f a c))) (.va (qo (f c a))) .em .em .em .em)) ((cM (bx (aA (t:=.bl (wG (f a c))) (u:=.bl (wG (f a c))) (aF (ts:=[RR cs ls,en a,en c]) rfl (R.Iy n F ha hc)) (Dd rfl) (zf _)))).trans rfl)).trans ?_
 refine(ar (Z':=(EL ns cs ls P a c .em (.va (oI (f a c))) (.va (qo (f c a))) (.va (.int (oS f a c))) .em .em .em)) (bq (G3 rfl rfl) rfl)).trans ?_
 refine(ar (Z':=(EL ns cs ls P a c .em (.va (oI (f a c))) (.va (qo (f c a))) (.va (.int (oS f a c))) (.va (fY P t1)) .em .em)) (bq (aF (ts:=[RR cs ls,en a,en c,.int (oS f a c)]) rfl w1) rfl)).trans ?_
 refine(ar (Z':=(EL ns cs ls P a c .em (.va (oI (f a c))) (.va (qo (f c a))) (.va (.int (oS f a c))) (.va (fY P t1)) .em .em)) ((cM (zI (bx (aA (t:=fY P t1) (u:=.non) rfl rfl rfl)) (jg (k:=true) (bx (aF (ts:=[RR cs ls,fY P t1]) rfl iw))))).trans rfl)).trans ?_
 refine(ar (Z':=(EL ns cs ls P a c .em (.va (oI (f a c))) (.va (qo (f c a))) (.va (.int (oS f a c))) (.va (fY P t1)) (.va (eS (dj P t1))) .em)) (bq (aF (ts:=[RR cs ls,fY P t1]) rfl (R.told t1)) rfl)).trans ?_
 refine(ar (Z':=(EL ns cs ls P a c .em (.va (oI (f a c))) (.va (qo (f c a))) (.va (.int (oS f a c))) (.va (fY P t1)) (.va (eS (dj P t1))) .em)) ((cM (zI (jg (k:=true) (bx (aF (ts:=[RR cs ls,eS (dj P t1)]) rfl (R.IM (di P t1) o1 (pZ P t1))))) (E6 rfl rfl rfl rfl g1 m1 m2))).trans rfl)).trans ?_
 refine(ar (Z':=(EL ns cs ls P a c .em (.va (oI (f a c))) (.va (qo (f c a))) (.va (.int (oS f a c))) (.va (fY P t1)) (.va (eS (dj P t1))) (.va (.int (uq f a c))))) (bq (Fg rfl rfl) rfl)).trans ?_
 refine(ar (Z':=(EL ns cs ls P a c .em (.va (oI (f a c))) (.va (qo (f c a))) (.va (.int (oS f a c))) (.va (fY P t2)) (.va (eS (dj P t1))) (.va (.int (uq f a c))))) (bq (aF (ts:=[RR cs ls,en a,en c,.int (uq f a c)]) rfl w2) rfl)).trans ?_
 refine(ar (Z':=(EL ns cs ls P a c .em (.va (oI (f a c))) (.va (qo (f c a))) (.va (.int (oS f a c))) (.va (fY P t2)) (.va (eS (dj P t1))) (.va (.int (uq f a c))))) ((cM (bx (aA (t:=fY P t2) (u:=.non) rfl rfl rfl))).trans rfl)).trans ?_
 refine(ar (Z':=(EL ns cs ls P a c .em (.va (oI (f a c))) (.va (qo (f c a))) (.va (.int (oS f a c))) (.va (fY P t2)) (.va (eS (dj P t2))) (.va (.int (uq f a c))))) (bq (aF (ts:=[RR cs ls,fY P t2]) rfl (R.told t2)) rfl)).trans ?_
 refine(ar (Z':=(EL ns cs ls P a c .em (.va (oI (f a c))) (.va (qo (f c a))) (.va (.int (oS f a c))) (.va (fY P t2)) (.va (eS (dj P t2))) (.va (.int (uq f a c))))) ((cM (E5 rfl rfl rfl rfl g2 m3 m4)).trans rfl)).trans ?_
 refine(ar (Z':=(EL ns cs ls P a c .em (.va (oI (f a c))) (.va (qo (f c a))) (.va (.int (oS f a c))) (.va (fY P t2)) (.va (eS (dj P t2))) (.va (.int (uq f a c))))) ((cM (bx (aA (t:=.bl (!d9 (f c a)&& !d9 (f a c))) (u:=.bl (!d9 (f c a)&& !d9 (f a c))) (aF (ts:=[RR cs ls,en a,en c]) rfl (R.once n F ha hc)) (aA (t:=w0) (u:=.non) (aF (ts:=[RR cs ls,en a,en c,.int 0]) rfl hw0) rfl hn0) (zf _)))).trans rfl)).trans ?_
 exact(bH (aF (ts:=[RR cs ls,eS (dj P t0)]) (aq rfl (aq (aF (ts:=[RR cs ls,fY P t0]) (aq rfl (aq (aF (ts:=[RR cs ls]) rfl wd) rfl)) (R.told t0)) rfl)) (R.IT n F h0)))
theorem pure_law (ns:List Int)(hn:ns.length<=63):m_law [.scr ns] = .ok (.bl true):=by
 obtain⟨cs,ls,er,hc,c3,hs,hl,l6⟩:=Fh ns hn 0 5 (by omega)
 obtain⟨hR,mR⟩:=DA hc hs hl (by omega)
 have g:Good cs ls:=⟨hc,λt ht=>(hl t ht).1,by omega,Du mR⟩
 obtain⟨L,P,R⟩:=u7 g;refine bc rfl ?_
 show pk [.va (.scr ns),.em,.em,.em,.em,.em,.em,.em,.em,.em,.em,.em] =_
 obtain⟨hw,e,iff⟩:=R.IL
 cases hw with
 | false=>
  have nn:¬ NoNeg L:=λz=>by have:=iff.mpr z;cases this
  unfold pk;refine(ar (Z':=[.va (.scr ns),.va (RR cs ls),.em,.em,.em,.em,.em,.em,.em,.em,.em,.em]) (bq (aF (ts:=[.scr ns,.int 0,.int 5]) rfl er) rfl)).trans ?_
  have fo:aW [RR cs ls,eS P] = .ok (.bl false):=by
   rcases R.fits (List.Perm.refl P)with⟨_,e⟩ | ⟨z,_⟩
   ·exact e
   ·exact absurd (z.mono λx hx=>J2 _ hx) nn
  exact ij ((ik (jg (k:=false) (bx (aF (ts:=[RR cs ls]) rfl e)))).trans (bH (uu (aF (ts:=[RR cs ls,eS P]) (aq rfl (aq (aF (ts:=[RR cs ls]) rfl R.events) rfl)) fo))))
 | true=>
  have n:NoNeg L:=iff.mp rfl
  have F:cG L P (table P L):=(rq R.f.ends λu _ y h=>Int.not_lt.mp λz=>wq h z n).2
  obtain⟨r1,a,ha,d1,i1⟩:=R.pick hn 80;obtain⟨r2,c,hc2,d2,i2⟩:=R.pick hn 81
  by_cases hac:a=c
  ·subst hac
   unfold pk
   have d0:table P L a a=some 0:=Df n F ha
   have q1:=R.once n F ha ha
   have q2:=R.Iy n F ha ha
   have q3:=R.HY n F ha ha;rw[d0]at q1 q2 q3;refine(ar (Z':=[.va (.scr ns),.va (RR cs ls),.em,.em,.em,.em,.em,.em,.em,.em,.em,.em]) (bq (aF (ts:=[.scr ns,.int 0,.int 5]) rfl er) rfl)).trans ?_
   refine(ar (Z':=[.va (.scr ns),.va (RR cs ls),.em,.em,.em,.em,.em,.em,.em,.em,.em,.em]) ((cM (jg (k:=true) (bx (aF (ts:=[RR cs ls]) rfl e)))).trans rfl)).trans ?_
   refine(ar (Z':=[.va (.scr ns),.va (RR cs ls),.va (eS P),.em,.em,.em,.em,.em,.em,.em,.em,.em]) (bq (aF (ts:=[RR cs ls]) rfl R.events) rfl)).trans ?_
   refine(ar (Z':=[.va (.scr ns),.va (RR cs ls),.va (eS P),.va (en a),.em,.em,.em,.em,.em,.em,.em,.em]) (bq (aA (t:=eS P) (u:=.int r1) rfl (aF (ts:=[.scr ns,.int 80,.int (P.length:Nat)]) (aq rfl (aq rfl (aq (aF (ts:=[eS P]) rfl (by show Rs.ok (T.int ((P.map en).length:Nat))=_;rw[Jm])) rfl))) d1) i1) rfl)).trans ?_
   refine(ar (Z':=[.va (.scr ns),.va (RR cs ls),.va (eS P),.va (en a),.va (en a),.em,.em,.em,.em,.em,.em,.em]) (bq (aA (t:=eS P) (u:=.int r2) rfl (aF (ts:=[.scr ns,.int 81,.int (P.length:Nat)]) (aq rfl (aq rfl (aq (aF (ts:=[eS P]) rfl (by show Rs.ok (T.int ((P.map en).length:Nat))=_;rw[Jm])) rfl))) d2) i2) rfl)).trans ?_
   exact ij ((ik (bx (aA (t:=en a) (u:=en a) rfl rfl (by rw[Dc,decide_eq_true rfl])))).trans ((ar (Z':=[.va (.scr ns),.va (RR cs ls),.va (eS P),.va (en a),.va (en a),.va (.lst [.bl true,.bl false,.bl false]),.em,.em,.em,.em,.em,.em]) (bq (jh (aq (aF (ts:=[RR cs ls,en a,en a]) rfl q1) (aq (aF (ts:=[RR cs ls,en a,en a]) rfl q2) (aq (aF (ts:=[RR cs ls,en a,en a]) rfl q3) rfl))) (aC (k:=3) (by simp))) rfl)).trans (bH (aA (t:=.lst [.bl true,.bl false,.bl false]) (u:=.lst [.bl true,.bl false,.bl false]) rfl (jh rfl (aC (k:=3) (by simp))) (Cj rfl (by simp[T.dep,deps]))))))
  ·exact B8 R n F ha hc2 hac er e d1 d2 i1 i2
end
end G
end
lay_quick G.lhs G.rhs
name_quick lhsz for G.lhs by G.lhs_r
name_quick rhsz for G.rhs by G.rhs_r
open PySem PySem.W PyProof.Rows
set_option maxRecDepth 100000 in
set_option maxHeartbeats 0 in
theorem G.IU (w : Kn) (os : OsState) : PySem.W.Fast.lhsz w (boot_heap w.params) boot_drawn boot_toks os = PySem.W.Fast.rhsz w := by kernel_rfl
set_option maxRecDepth 100000 in
set_option maxHeartbeats 0 in
theorem PySem.Challenge.cw_farclocks_k42_whole_some_order_holds : PySem.Challenge.rw_farclocks_k42_whole_some_order.Holds := by
  w_on; o_law
  refine holds_open (q := G.vw) (loose := G.lse) (Xt := λ_ => true) (XP := λ_ _ => True) (Yf := (Tr.hookK G.asks G.top).obs) (Ya := (Tr.hookK G.asks G.top).val) (YP := (Tr.hookK G.asks G.top).says) (N := 9000) (Tr.left_of (by rfl) (by rfl) (λ_ => rfl) λw os => ?hl) (Tr.hookK G.asks G.top).of (Tr.hookK G.asks G.top).keeps (λ_ _ => trivial) (λ_ _ _ _ _ => trivial) (by rfl) (by rfl) (by rfl) (λs _ => recFacts_of (s := s) rfl) (by rfl) (by assumption) (by decide +kernel) ⟨rfl, rfl, rfl, rfl, rfl, by decide +kernel⟩ ?hw ?hc
  case hl => exact ((congrFun (congrFun (congrFun (congrFun (congrFun PySem.W.Fast.lhsz_eq w) _) _) _) os).trans (G.IU w os)).trans (congrFun PySem.W.Fast.rhsz_eq w).symm
  case hw => w_witness2
  case hc => exact Tr.walk_k (n := 63) (k := 17) (x := "_law_script") (CX := L2.CX0) (sp := λK => Tr.spP K 1 G.m_law) rfl (by decide) rfl ⟨rfl, by decide, by decide⟩ (λw K mg fa h X e g hf => G.all_ok X e g hf) (λK H a ns hl _ hS => Tr.sp_script hS (G.pure_law ns hl)) λ_ _ _ _ z => z
