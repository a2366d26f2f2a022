import PyProof.Rows.All
import Wide.All
import OpenK.AllK
import Wide.FinOn
import Lean
import PyProof.EqAt
import PyProof.EqKinds
import PyProof.TupleCall
import PyProof.ExcClass3
import PyProof.StationsW
import PyProof.ExcBaseAll.ValueError
import PyProof.ExcArgsOwn
import PyProof.IsiBase
import PyProof.IsiH_tuple
import PyProof.ExcAttrAll.ValueError
import PyProof.Rows.RuleN_isinstance
import PyProof.MeetsSeq
import PyProof.RulesAs
import PyProof.IsiH_list
import PyProof.AttrMiss
import KE.KDictOf
import PyProof.Rows.SumAny
import PyProof.Rows.MinMaxN
import PyProof.Rows.SortShellK
import PyProof.Rows.SortWalk
import PyProof.ZipIter
import PyProof.WalksMore
import PyProof.DictWalks
import PyProof.AutoSeq1
import PyProof.Rows.Range3
import PyProof.CollectWalk
import KE.KSortTup
import PyProof.EnumMake
import PyProof.ListRange
import PyProof.SetScanFacts
import PyProof.SetKind
import PyProof.DictKinds
import PyProof.FactsAll.set_0
import PyProof.FactsAll.set_1
import PyProof.FactsAll.set_2
import PyProof.FactsAll.set_3
import PyProof.FactsLen
import PyProof.TupleIter
import PyProof.Rows.SetFrom
import PyProof.Rows.SortShell
import KE.KLam
import PyProof.P3Eq
import PySem.Challenge.RW_farclocks_k62_whole_rings
noncomputable section
open PySem.Challenge renaming pw_farclocks_k62_whole_rings→Lf,rw_farclocks_k62_whole_rings→Pw
open PyProof.Rows.F renaming plain_set_update_loop→Mb,entry_set_update_loop→Nm
open PySem.AutoListH renaming list___mul___list_int_3→Rj
open PyProof.Rows renaming slot_tuple_getitem→KI,callWith_builtin1→ML,callWith_type1→K2,subscriptTail_builtinR→Qa,IntsAre→Te,entry_tuple_getitem→OI,args_tuple_getitem→O0,KK_mirror_equal→Mj,entry_list_sort→Qw,get?_update_seq→Qx,slicePart_none→Pa,slot_list_sort→QU,tupleItemsOf_→PP,listUpdate_at→PV,subscriptTail→RD,wpS_forRange→Og,listItems_at→Sh,plain_sorted→Si,entry_sorted→Sj,kind_sorted→S7,size_push'→QD,Subscript_→R3,wpS_modify→R5,setPending→R6,SortedToK→LS,pendingOf→Nr,wpS_bind→Li,wpS_pure→L1,failedOf→Ov,SortKind→QC,boot_all→SG,IntsAre→LI,AllBare→MJ,NonIncK→Q8,wpS_get→S3,SortSt→Oe,Keyed→S9,IsTup→Ta
open List renaming eraseIdx_eq_take_drop_succ→NW,eq_nil_of_length_eq_zero→MV,getD_eq_getElem?_getD→KH,getElem?_append_right→Nj,getElem?_eq_some_iff→Km,drop_eq_getElem_cons→LG,getElem?_append_left→My,getElem?_eq_none_iff→O6,pairwise_iff_getElem→O7,getElem?_eq_getElem→Kf,getElem?_cons_succ→MQ,getElem?_replicate→NH,pairwise_mergeSort→PF,getLast_eq_getElem→PL,getElem?_set_self→KP,range_succ_eq_map→Mk,drop_eq_nil_of_le→Ml,take_of_length_le→MX,mem_append_right→KZ,getElem?_eq_none→Lv,length_singleton→N9,take_append_drop→Oc,getElem?_toArray→Qi,singleton_append→Qj,length_filter_le→Qp,mem_cons_of_mem→Ka,getElem?_set_ne→KN,mem_of_getElem?→LA,mem_append_left→On,getElem?_of_mem→Os,mem_erase_of_ne→QK,map_congr_left→KA,getElem_of_mem→Lu,replicate_succ→LW,getElem?_range→Mh,filterMap_cons→MO,length_pos_iff→Nx,length_reverse→QY,mergeSort_perm→QZ,drop_succ_cons→Q2,length_flatMap→Q3,filter_eq_self→Q4,map_eq_nil_iff→Q5,mem_cons_self→Kg,length_append→Kw,mem_singleton→KG,mem_filterMap→OS,filterMap_map→Rh,size_toArray→Kp,getElem?_map→Kv,length_range→Ld,append_assoc→Lx,flatten_cons→ME,nodup_append→MG,reverse_cons→NT,flatMap_cons→NY,ext_getElem?→Pj,take_sublist→RL,mapM_toArray→RQ,drop_sublist→RT,getElem_drop→RU,length_cons→Kj,all_eq_true→Ks,lookup_cons→K8,not_mem_nil→Ll,filter_cons→L8,length_take→Mp,getElem_mem→Mq,length_drop→MS,mem_flatMap→Nt,getElem_map→Oh,ext_getElem→Ol,drop_length→Sq,any_eq_true→Su,cons_append→Sv,length_map→Kh,nodup_cons→Lk,mem_append→Ls,append_nil→LJ,length_set→LL,map_append→LM,mem_filter→MD,range_succ→MI,of_mem_zip→M4,nil_append→M5,find?_cons→M7,filter_map→OG,length_nil→Ql,forIn_cons→SK,length_zip→SU,idxOf_cons→SW,mem_range→Kq,replicate→KC,nodup_nil→N3,map_cons→Ke,mem_cons→Ko,sum_cons→LH,any_cons→MP,all_cons→Rl,mem_map→Ku,map_map→KB,toArray→Oa,map_nil→Qg,all_map→Sa,length→LV,lookup→Nv,map_id→PC,range→J7,Nodup→La,foldl→Ph,Perm→Nn,getD→Rm,cons→Rp,map→SB
open Array renaming eq_empty_of_size_eq_zero→Od,getD_eq_getD_getElem?→LP,perm_iff_toList_perm→OQ,getElem?_eq_getElem→MA,getElem?_eq_none→MY,getElem?_toList→Mv,length_toList→KJ,find?_toList→Rg,forIn_toList→Ru,toList_push→Pp,toList→Qe
open Int renaming mul_le_mul_of_nonneg_left→Om,mul_lt_mul_of_pos_right→OF,eq_ofNat_of_zero_le→LO,emod_lt_of_pos→OZ,toNat_natCast→K0,emod_eq_of_lt→RS,emod_nonneg→Qq,mul_assoc→NK,mul_comm→OV,ediv_one→R8,le_refl→PD
open PySem.F renaming args_tuple_iterator_next_1→Ot,entry_tuple_iterator_next→OD,slot_tuple_iterator_next→Mo,excBase_ValueError→ON,slot_list_getattribute→MF,args_tuple_add_2→Ny,entry_tuple_add→NF,plainAttrs_list→NG,args_dict_get_2→Py,slot_tuple_add→NO,entry_dict_get→P6,args_list_eq_2→P7,slot_dict_get→N8,entry_list_eq→Qd,slot_enumerate_next→Qk,slot_list_eq→QH,args_int_rmul_2→RM,slot_tuple_rmul→RO,plain_list_iadd→RW,slot_tuple_mul→PX,slot_int_index→Sn,entry_int_rmul→So,slot_int_rmul→OB,fills_int_mul→SJ,slot_set_iter→SR,plain_set_new→SS,called_set→M9
open PySem.Builtin.Slice renaming slicePartIndex→Sz,sliceApplied→Mm,slicePlaces→K9,sliceAdjust→LF,sliceFields→O4
open PySem.Builtin.Frozenset renaming updateFrom→SA
open PySem.Builtin.List renaming listLengthHint→Oz,listExtendWith→OA,listTooLong→MC,listSameRef→Pg
open PySem.Builtin.Tuple renaming tupleItemsOf→Ni,tupleIsExact→OM,tupleExact→K5
open PySem renaming wpAny_newFunctionEnv_cells→Nk,wpAny_binaryOp_repeat_ref→Pb,wpAny_getItem_list_slice→Pv,wpAny_callSpecial?_slot→Lh,richCompare_meets_room→NR,wpAny_pyNext_list_item→P9,wpAny_Call_method_late→Qb,builtinLookup_eq_fast→Na,wpAny_pyNext_list_end→Qs,codeAny_call_function→Qt,wpAny_loadName_local→QL,codeAny_call_builtin→QM,mem_of_lookup→Mg,wpAny_setEntries_of→OL,wpAny_loadName_cell→Q6,wpAny_Call_Name_kw→Le,wpAny_pyIter_tuple→M0,tupleKind_room_in1→NM,wpAny_List_spliced→Ry,wpAny_newObj_type→KR,wpAny_truthy_bool→Lo,foldedSetIterable→Lz,wpAny_setState_of→Ng,wpAny_pyIter_list→NZ,wpAny_sequenceKey→Pu,wpAny_assign_Name→RX,wpAny_pyIter_enum→R4,wpAny_pyIter_slot→R7,wpAny_call_entry→Ln,wpAny_askSetting→Nu,noFill_tuple_add→P4,wpAny_isInstance→P5,seqSlot_of→Ss,wpAny_eqBool_int→Sw,wpAny_execs_cons→Sx,entryFor_of_tree→Sy,wpAny_loadPart'→KM,codeAny_builtin→LQ,letOwnedTupleGo→NL,wpAny_execs_nil→OH,typeLookup_type→OK,pushCells_keeps→Qv,wpAny_passesOwn→SX,wpAny_specialOf→S2,importedModules→S4,wpAny_updateSeq→S5,codeAny_of_tree→S6,wpAny_setField→N4,isSubtype_type→N5,firstArgMember→Pc,wpAny_seqItems→QR,wpAny_holding→Ly,attributeBase→LZ,plainId_quiet→MR,wpAny_attempt→Ou,behindInMarks→PQ,wpAny_newList→PU,swapsWithSole→Rw,swappedStores→Rx,seq_tuple_add→RA,evalPart_none→RC,nums_intItems→RE,bootBuiltins→KQ,wpAny_typeOf→MN,codeAny_mono→ND,concat_meets→Se,call_range_1→Sf,call_range_2→Sg,mainGlobals→KF,sizeLine_eq→K7,wpAny_field→MB,sliceBounds→N0,excClassObj→OJ,subscripted→Q7,keywordEach→SZ,wpAny_of_eq→S1,wpAny_bind→J5,wpAny_pure→Kd,assignEach→LY,wpAny_mono→Mr,sysModules→Nd,wpAny_rule→Nf,builtinsNs→NC,call_meets→Ox,typeIs_int→Qz,closureFor→QB,wpAny_call→RZ,typeLookup→R1,compareOp→Lr,swapsWith→L5,cellsFrom→MK,Arguments→Of,tupleKind→Pr,codeAmong→Pt,pushCells→Qu,slicePick→SY,pickOrder→Td,starEach→Kx,binaryOp→L6,FuncData→L7,NameKind→Nc,boot_len→Nh,intItems→PR,GenState→SE,bindArgs→SF,Operator→Tc,Program→Kz,BindsTo→RY,Keyword→S0,Shared→Kb,Around→KU,Paired→P3,IsPart→RB,Value→J8,World→Lb,Scope→NN
open PySem.Calls renaming Name_function_global→OP,call_function_entry→O8,callWith_builtin→NP,evalArgs_plain→Nl,spliced_cons→Ms,spliced_nil→Me
open PySem.Builtin.SmallTypes renaming nextOf→Mx
open List.Perm renaming eq_of_pairwise→Pf
open PySem.Builtin.Dict renaming updateFrom→Pz
open Classical renaming propDecidable→PM,axiomOfChoice→PN
open PySem.Heap renaming get?_push_of_some→Kc,get?_update_other→NQ,get?_update_self→L4,get?_push_size→Kn,get?_update_ne→Mi,get?_push_ne→Pq,size_update→PZ,NewAttrErr→SO,size_push→Mc,IsSliceOf→S8,lt_size→Kk,SameBut→Nz,ExtBut→SL
open Option renaming map_eq_some_iff→LR,isSome_some→Rk,getD_none→Sm,some→Lg
open PySem.W renaming cellsFrom_some→MW,hideAll_none→QF,hideAll_get→Oy,of_hideAll→Q9,callWith_K→Ra,codeRec_of→Rb,methodObj→Pd,kitx_list→RF,kitx_dict→RG,plainGet→Sk,kia_one→LD,instObj→Qc,hideAll→SH,keepIn→N1,lookIn→QN,codeIn→QP,mg_of→Rf,Frag→J6,fnOf→N6,nsIn→N7
open PySem.SetTable renaming insertAt_perm→P8,insertAt→Po,runEnd→OE,below→Kt,probe→QQ,fill→Rt,has→Qo
open Bool renaming and_eq_false_iff→Mw,beq_eq_decide_eq→Qr,and_eq_true_iff→L9,false_ne_true→KL,false_eq_true→Lq,not_eq_true'→Pn,and_eq_true→J9,eq_iff_iff→NI,or_eq_true→SM,false_or→Mu,true_and→Rv
open PySem.Obj renaming isFreed_of_fields→Ob,data_mapFields→Mt,cls_mapFields→Pk,mapSeq→K1
open PySem.Around renaming under_plainId→Lp,units→OY
open Nat renaming le_sub_one_of_lt→Oo,sub_one_lt_of_lt→Oq,lt_of_lt_of_le→Kl,lt_of_le_of_lt→MZ,eq_or_lt_of_le→Rq,eq_zero_or_pos→Rr,lt_succ_of_lt→Lc,le_of_succ_le→NU,lt_trichotomy→NV,le_of_lt_succ→Pm,lt_succ_self→MT,max_eq_right→Oj,succ_le_succ→PY,mod_eq_of_lt→P2,le_antisymm→SQ,min_eq_left→SV,mul_le_mul→O9,lt_irrefl→KW,ne_of_lt→Ky,le_trans→KD,le_of_lt→LB,ne_of_gt→LC,lt_or_ge→MM,le_of_eq→NA,zero_add→NB,lt_trans→OU,sub_zero→OW,add_comm→Qh,sub_self→Qm,mul_comm→R9,le_refl→Ki,zero_le→K3,le_succ→NX,sub_le→RP,mod_lt→RV
open PySem.Value renaming notImplemented→QJ,isInt→NS,none→K6,bool→Lw,type→LU,ref→KY,int→Lj,str→L3
open PySem.Heap.SameBut renaming update→Mf,refl→RH
open PyProof.Rows.KeyOrd renaming kle_antisymm→Q0,kle_of_klt→Pl,kle_trans→Oi,kle_refl→M8
open PySem.Heap.IsSliceOf renaming new→OR
open PySem.SeqAt.EqAt renaming int_int→Rc
open List.Pairwise renaming nil→Pe
open PySem.SetTable.below renaming go→RI
open PySem.SetTable.probe renaming go→RJ
open Option.some renaming inj→KO
open ForInStep renaming yield→M6
open List.cons renaming injEq→SI,inj→Re
open PySem.Expr renaming Subscript→Np,Attribute→Nq,Constant→PH,ListComp→Ro,UnaryOp→Qn,Compare→Sb,BoolOp→Mz,Name→KS,Call→LN
open PySem.NameKind renaming free→K4,cell→LK
open PySem.Paired renaming length→PB
open PySem.Str renaming ofString→Kr
open PySem.pickOrder renaming go→Sd
open Prod.mk renaming inj→Px
open PySem.Scope renaming names→PJ
open PySem.Stmt renaming Assign→PK
open PySem.Pos renaming endLine→Q1,line→NJ
open False renaming elim→Md
open True renaming intro→Nb
open PySem.BoolOp renaming And→Qy,Or→Rn
open PySem.Env renaming scope→MH
open PyProof.Rows.IsTup renaming new→Ri
open Prod renaming snd→SC,fst→SD,mk→RN
open Iff renaming rfl→OC
open Ne renaming symm→O5
open Sum renaming inl→QV,inr→QX
open Or renaming inr→Ma,inl→MU
set_option Elab.async false
set_option linter.all false
set_option maxRecDepth 100000
set_option maxHeartbeats 8000000
noncomputable section
abbrev jj (x:PySem.Str):Prop:=(x == PySem.Str.ofString "__debug__")=false
namespace L2
open PySem PySem.Spec PyProof.Rows
abbrev Key:=Sum Int Str
def pe:Key->J8->Bool
 | .inl k,v=>NS k v
 | .inr x,v=>Value.isStrOf x v
def keyH (w:Lb):Key->Int
 | .inl k=>hashInt k
 | .inr x=>hashStr w x
theorem b8:∀{k:Key} {v:J8},pe k v=true->(∃i t,k=QV i/\v=Lj i t)\/(∃x t,k=QX x/\v=L3 x t)
 | .inl i,v,h=>by
  obtain⟨t,e⟩:=Value.isInt_shape (k:=i) (v:=v) h
  exact .inl ⟨i,t,rfl,e⟩
 | .inr x,v,h=>by
  obtain⟨t,e⟩:=Value.isStrOf_shape (x:=x) (v:=v) h;exact .inr ⟨x,t,rfl,e⟩
theorem xV (i:Int)(t:Tok):pe (.inl i) (.int i t)=true:=by simp[pe,NS]
theorem xU (x:Str)(t:Tok):pe (.inr x) (.str x t)=true:=by simp[pe,Value.isStrOf]
theorem FY (a b:Int):decide ((QV a:Key)=QV b)=(a == b):=by
 by_cases e:a=b
 ·subst e;simp
 ·have h:¬ (QV a:Key)=QV b:=λq=>e (QV.inj q)
  rw[decide_eq_false h];exact(beq_eq_false_iff_ne.mpr e).symm
theorem FV (a b:Str):decide ((QX a:Key)=QX b)=decide (a=b):=by
 by_cases e:a=b
 ·subst e;simp
 ·have h:¬ (QX a:Key)=QX b:=λq=>e (QX.inj q)
  rw[decide_eq_false h,decide_eq_false e]
theorem FX (a:Int)(b:Str):decide ((QV a:Key)=QX b)=false:=decide_eq_false (λq=>nomatch q)
theorem FW (a:Str)(b:Int):decide ((QX a:Key)=QV b)=false:=decide_eq_false (λq=>nomatch q)
def cg (prog:Kz)(w:Lb):PySem.KeyKind prog w Key where
 is:=pe
 hash:=keyH w
 inj:=λv a b ha hb=>by
  rcases b8 ha with⟨i,t,rfl,rfl⟩ | ⟨x,t,rfl,rfl⟩
  ·rcases b8 hb with⟨j,u,rfl,e⟩ | ⟨y,u,rfl,e⟩
   ·injection e with e1 _;rw[e1]
   ·exact nomatch e
  ·rcases b8 hb with⟨j,u,rfl,e⟩ | ⟨y,u,rfl,e⟩
   ·exact nomatch e
   ·injection e with e1 _;rw[e1]
 byValue:=λk v h=>by
  rcases b8 h with⟨i,t,rfl,rfl⟩ | ⟨x,t,rfl,rfl⟩ <;> rfl
 pyHash:=λhv h=>by
  rcases b8 hv with⟨i,t,rfl,rfl⟩ | ⟨x,t,rfl,rfl⟩
  ·exact wpAny_pyHash_int h
  ·exact wpAny_pyHash_str h
 eqBool:=λhu hv h=>by
  rcases b8 hu with⟨i,t,rfl,rfl⟩ | ⟨x,t,rfl,rfl⟩
  ·rcases b8 hv with⟨j,u,rfl,rfl⟩ | ⟨y,u,rfl,rfl⟩
   ·rw[FY]at h;exact Sw h
   ·rw[FX]at h;exact SeqAt.EqAt.int_str i t y u _ _ _ _ h
  ·rcases b8 hv with⟨j,u,rfl,rfl⟩ | ⟨y,u,rfl,rfl⟩
   ·rw[FW]at h;exact SeqAt.EqAt.str_int x t j u _ _ _ _ h
   ·rw[FV]at h;exact wpAny_eqBool_str h
 «strs»:=λk x t v h=>by
  rcases b8 h with⟨i,u,rfl,e⟩ | ⟨y,u,rfl,e⟩
  ·exact nomatch e
  ·injection e with e1 _
   subst e1;cases v <;> rfl
theorem tD (prog:Kz)(w:Lb)(i:Int)(t:Tok):(cg prog w).is (.inl i) (.int i t)=true:=xV i t
theorem tw (prog:Kz)(w:Lb)(x:Str)(t:Tok):(cg prog w).is (.inr x) (.str x t)=true:=xU x t
inductive V where
 | non | bl (b:Bool) | int (i:Int) | str (x:Str) | byt (b:Array UInt8) | flt (b:UInt64) | ref (a:Addr) | ty (n:String)
 deriving DecidableEq
def RelV:V->J8->Prop
 | .non,u=>u=K6
 | .bl b,u=>u=Lw b
 | .int i,u=> ∃t,u=Lj i t
 | .str x,u=> ∃t,u=L3 x t
 | .byt b,u=> ∃t,u=Value.bytes b t
 | .flt b,u=> ∃t,u=Value.float b t
 | .ref a,u=>u=KY a
 | .ty n,u=>u=LU n
abbrev Vals:List V->List J8->Prop:=P3 RelV
theorem Vals.length {xs:List V}{us:List J8}(r:Vals xs us):xs.length=us.length:=PB r
theorem Vals.get:∀{xs:List V} {us:List J8} {i:Nat} {x:V},Vals xs us->xs[i]? =some x->∃u,us[i]? =some u/\RelV x u
 | _,_,_,_,.nil,e=>by simp at e
 | _,_,0,_,.cons r _,e=>by simp at e;subst e;exact⟨_,rfl,r⟩
 | _,_,i+1,x,.cons _ t,e=>by
  obtain⟨u,h1,h2⟩:=Vals.get (i:=i) (x:=x) t (by simpa using e)
  exact⟨u,by simpa using h1,h2⟩
theorem Vals.append:∀{xs ys:List V} {us ws:List J8},Vals xs us->Vals ys ws->Vals (xs++ys) (us++ws)
 | _,_,_,_,.nil,s=>s
 | _,_,_,_,.cons r t,s=> .cons r (Vals.append t s)
theorem Vals.take:∀{xs:List V} {us:List J8} (n:Nat),Vals xs us->Vals (xs.take n) (us.take n)
 | _,_,0,_=> .nil
 | _,_,_+1,.nil=> .nil
 | _,_,n+1,.cons r t=> .cons r (Vals.take n t)
theorem Vals.drop:∀{xs:List V} {us:List J8} (n:Nat),Vals xs us->Vals (xs.drop n) (us.drop n)
 | _,_,0,r=>r
 | _,_,_+1,.nil=> .nil
 | _,_,n+1,.cons _ t=>Vals.drop n t
def RelO:Option V->Option J8->Prop
 | some v,some u=>RelV v u
 | none,none=>True
 | _,_=>False
def KV {κ:Type}:List (κ×V)->List (κ×J8)->Prop:=P3 λ(p:κ×V) (q:κ×J8)=>p.1=q.1/\RelV p.2 q.2
def kV:Key->V
 | .inl i=> .int i
 | .inr x=> .str x
inductive HO where
 /-- a list -/
 | lst (xs:List V)
 /-- a tuple (never changes) -/
 | tup (xs:List V)
 /-- a dict whose keys are ints and texts;one whose keys are tuples of ints and texts (the empty one is both) -/
 | dK (kvs:List (Key×V)) | dT (kvs:List (List Key×V))
 /-- a set of ints: its members,its size -/
 | set (S:Int->Bool) (n:Nat)
 /-- an instance of the class at C,its dict at dx,its attributes -/
 | ins (C dx:Addr) (fs:List (Str×V))
 /-- the dict of the instance at x -/
 | own (x:Addr)
 /-- the dict of an exception -/
 | xd (fs:List (Str×V))
 /-- a bound method,f of x -/
 | met (f x:Addr)
 /-- a range object lo,lo+1,.. below hi -/
 | rng (lo hi:Int)
 /-- a thing that is known to the object (the script;a dict while a loop walks it): read,never written while it is so -/
 | frz (o:Obj) (u:HO)
 /-- a code object's table -/
 | tbl (q:Str)
 /-- any other thing,by what is true of its one object (a def of one's own: SetO a S n:=HO.ext λh=> ..) -/
 | ext (φ:Heap->Prop)
abbrev Hp:=Addr->Option HO
def upd (H:Hp)(a:Addr)(o:HO):Hp:=λb=>if b=a then some o else H b
theorem aT {H:Hp}{a:Addr}{o:HO}:upd H a o a=some o:=by unfold upd;rw[if_pos rfl]
theorem aJ {H:Hp}{a b:Addr}{o:HO}(h:b≠a):upd H a o b=H b:=by unfold upd;rw[if_neg h]
theorem pY {H:Hp}{a:Addr}{o u:HO}:upd (upd H a o) a u=upd H a u:=by
 funext b;unfold upd;split <;> rfl
theorem tj {H:Hp}{a b:Addr}{o u:HO}(h:H a=some o)(h':H b=some u)(d:o≠u):a≠b:=by
 intro e;subst e;rw[h]at h';exact d (KO h')
theorem bK {H:Hp}{a b:Addr}{o:HO}(h:H a=some o)(h':H b=none):a≠b:=by
 intro e;subst e;rw[h]at h';cases h'
section
variable (P:Kz)(w:Lb)
def ObjOk (H:Hp)(h:Heap)(a:Addr):HO->Prop
 | .lst xs=>xs.length<=sizeLine/\∃(its:List J8) (n:Nat),Vals xs its/\h.get? a=some { cls:=.type "list",data:=.seq its.toArray n }
 | .tup xs=>xs.length<=sizeLine/\∃its:List J8,Vals xs its/\Ta h a its.toArray
 | .dK kvs=>kvs.length<=sizeLine/\(a == Nd)=false/\∃vs,KV kvs vs/\h.DictOf (cg P w) a vs
 | .dT kvs=>kvs.length<=sizeLine/\(a == Nd)=false/\∃xs:List (List Key×Addr×J8),
   P3 (λ(p:List Key×V) (q:List Key×Addr×J8)=>p.1=q.1/\H q.2.1=some (.tup (p.1.map kV))/\RelV p.2 q.2.2) kvs xs ∧
   ∃o es ep,h.get? a=some o/\o.ExactDict/\o.data= .dict es ep/\es.toList=xs.map (entryOfKey (Pr (cg P w)))/\(xs.map (·.1)).Nodup
 | .set S n=>h.SetOf (intKind P w) a S n
 | .ins C dx fs=>H dx=some (.own a)/\fs.length<=1000/\dx≠a/\h.get? a=some (Qc C dx) ∧
   ∃mA,h.Ns1 dx mA/\(∀f,RelO (fs.lookup f) (mA f))/\PySem.Within mA (fs.map (·.1))
 | .own _=> ∃o,h.get? a=some o
 | .xd fs=> ∃mA,h.Ns1 a mA/\∀f,RelO (fs.lookup f) (mA f)
 | .rng lo hi=> ∃t u v,h.get? a=some { cls:=.type "range",data:=.fields #[.int lo t,.int hi u,.int 1 v] }
 | .frz o u=>h.get? a=some o/\ObjOk H h a u
 | .tbl q=> ∃ps:Array J8,h.get? a=some { cls:=.none,data:=.fields ps }/\TriplesOk ps.toList/\∀pos v,Pt pos ps.toList=some v->∃c oc vs t,v= .ref c/\H c=some (.own a)/\h.get? c=some oc/\oc.data= .fields vs/\vs[1]? =some (.str q t)
 | .met f x=>h.get? a=some (Pd (.ref f) (.ref x))
 | .ext φ=>φ h/\(∃o,h.get? a=some o)/\∀h1 h2:Heap,φ h1->(∀o,h1.get? a=some o->h2.get? a=some o)->φ h2
def HOk (H:Hp)(h:Heap):Prop:=∀a o,H a=some o->ObjOk P w H h a o
end
section
variable {P:Kz}{w:Lb}{H H':Hp}{h h':Heap}{a:Addr}{o:HO}
theorem ObjOk.lt (x:ObjOk P w H h a o):a<h.objs.size:=by
 cases o with
 | lst xs=>obtain⟨_,_,_,_,e⟩:=x;exact Kk e
 | tup xs=>obtain⟨_,_,_,p⟩:=x;exact p.lt
 | dK kvs=>obtain⟨_,_,_,_,o,_,_,e,_⟩:=x;exact Kk e
 | dT kvs=>obtain⟨_,_,_,_,o,_,_,e,_⟩:=x;exact Kk e
 | set S n=>obtain⟨o,_,_,_,e,_⟩:=x;exact Kk e
 | ins C dx fs=>obtain⟨_,_,_,e,_⟩:=x;exact Kk e
 | own y=>obtain⟨_,e⟩:=x;exact Kk e
 | xd fs=>obtain⟨_,⟨_,_,_,e,_⟩,_⟩:=x;exact Kk e
 | rng lo hi=>obtain⟨_,_,_,e⟩:=x;exact Kk e
 | frz ob u=>obtain⟨e,_⟩:=x;exact Kk e
 | tbl q=>obtain⟨_,e,_⟩:=x;exact Kk e
 | met f y=>exact Kk (show h.get? a=some _ from x)
 | ext φ=>obtain⟨_,⟨_,e⟩,_⟩:=x;exact Kk e
theorem Paired.JI {α β:Type}{F G:α->β->Prop}:∀{l₁:List α} {l₂:List β},P3 F l₁ l₂->(∀a b,F a b->G a b)->P3 G l₁ l₂
 | _,_,.nil,_=> .nil
 | _,_,.cons r t,f=> .cons (f _ _ r) (Paired.JI t f)
theorem ObjOk.Jr (x:ObjOk P w H h a o)(k:∀b u,(b=a\/H b=some (.own a))->h.get? b=some u->h'.get? b=some u)
  (ho:∀b,H b=some (.own a)->H' b=some (.own a)) (ht:∀b xs,H b=some (.tup xs)->H' b=some (.tup xs)):ObjOk P w H' h' a o:=by
 induction o with
 | lst xs=>obtain⟨z,its,n,r,e⟩:=x;exact⟨z,its,n,r,k _ _ (.inl rfl) e⟩
 | tup xs=>obtain⟨z,its,r,ob,e,c⟩:=x;exact⟨z,its,r,ob,k _ _ (.inl rfl) e,c⟩
 | dK kvs=>obtain⟨z,y,vs,r,ob,es,ep,e,c⟩:=x;exact⟨z,y,vs,r,ob,es,ep,k _ _ (.inl rfl) e,c⟩
 | dT kvs=>
  obtain⟨z,y,xs,r,ob,es,ep,e,c⟩:=x
  exact⟨z,y,xs,Paired.JI r λp q z=>⟨z.1,ht _ _ z.2.1,z.2.2⟩,ob,es,ep,k _ _ (.inl rfl) e,c⟩
 | set S n=>obtain⟨ob,es,ep,t,e,c⟩:=x;exact⟨ob,es,ep,t,k _ _ (.inl rfl) e,c⟩
 | ins C dx fs=>
  obtain⟨d,z,ne,e,mA,⟨od,es,ep,e2,c⟩,r⟩:=x
  exact⟨ho _ d,z,ne,k _ _ (.inl rfl) e,mA,⟨od,es,ep,k _ _ (.inr d) e2,c⟩,r⟩
 | own y=>obtain⟨ob,e⟩:=x;exact⟨ob,k _ _ (.inl rfl) e⟩
 | xd fs=>obtain⟨mA,⟨od,es,ep,e,c⟩,r⟩:=x;exact⟨mA,⟨od,es,ep,k _ _ (.inl rfl) e,c⟩,r⟩
 | rng lo hi=>obtain⟨t,u,v,e⟩:=x;exact⟨t,u,v,k _ _ (.inl rfl) e⟩
 | frz ob u ih=>obtain⟨e,q⟩:=x;exact⟨k _ _ (.inl rfl) e,ih q⟩
 | tbl q=>
  obtain⟨ps,e,z,r⟩:=x
  exact⟨ps,k _ _ (.inl rfl) e,z,λpos v ev=>let ⟨c,oc,vs,t,a1,a2,a3,a4⟩:=r pos v ev;⟨c,oc,vs,t,a1,ho _ a2,k _ _ (.inr a2) a3,a4⟩⟩
 | met f y=>
  have e:h.get? a=some (Pd (.ref f) (.ref y)):=x
  show h'.get? a=some (Pd (.ref f) (.ref y))
  exact k a _ (.inl rfl) e
 | ext φ=>obtain⟨p,⟨o,e⟩,st⟩:=x;exact⟨st _ _ p λo q=>k _ _ (.inl rfl) q,⟨o,k _ _ (.inl rfl) e⟩,st⟩
theorem HOk.lt (x:HOk P w H h)(e:H a=some o):a<h.objs.size:=(x a o e).lt
theorem HOk.fresh (x:HOk P w H h)(e:h.objs.size<=a):H a=none:=by
 cases q:H a with
 | none=>rfl
 | some u=>exact absurd (Kl (x.lt q) e) (KW _)
theorem HOk.kept (x:HOk P w H h)(k:∀b u,h.get? b=some u->h'.get? b=some u):HOk P w H h':=λa o e=>
 (x a o e).Jr (λb u _ q=>k b u q) (λ_ q=>q) λ_ _ q=>q
theorem HOk.laid (x:HOk P w H h)(k:∀b u,h.get? b=some u->h'.get? b=some u)(hp:h.objs.size<=a)(new:ObjOk P w (upd H a o) h' a o):HOk P w (upd H a o) h':=λb u e=>by
 have hn:=x.fresh hp
 by_cases hb:b=a
 ·subst hb;rw[aT]at e;cases e;exact new
 ·rw[aJ hb]at e
  exact(x b u e).Jr (λc v _ q=>k c v q) (λc q=>by rw[aJ (bK q hn)];exact q) λc xs q=>by rw[aJ (bK q hn)];exact q
end
def Rd (H:Hp)(a:Addr)(u:HO):Prop:=H a=some u\/∃o,H a=some (.frz o u)
theorem Rd.ok {P:Kz}{w:Lb}{H:Hp}{h:Heap}{a:Addr}{u:HO}(r:Rd H a u)(x:HOk P w H h):ObjOk P w H h a u:=by
 rcases r with r | ⟨o,r⟩
 ·exact x a u r
 ·obtain⟨_,q⟩:=x a _ r
  exact q
def IQ:Option HO->Prop
 | some (.lst _)=>True
 | some (.dK _)=>True
 | some (.dT _)=>True
 | some (.set _ _)=>True
 | some (.ins _ _ _)=>True
 | some (.ext _)=>True
 | _=>False
section
variable {P:Kz}{w:Lb}{H:Hp}{h h':Heap}{x e:Addr}{o':HO}
theorem HOk.write (ok:HOk P w H h)(mu:IQ (H x))(he:e=x\/H e=some (.own x))(k:∀b u,b≠e->h.get? b=some u->h'.get? b=some u)(heo:∃u,h'.get? e=some u)
  (new:ObjOk P w (upd H x o') h' x o'):HOk P w (upd H x o') h':=λb u q=>by
 have nown:∀c y,H c=some (.own y)->c≠x:=λc y r z=>by subst z;rw[r]at mu;exact mu
 have ntup:∀c xs,H c=some (.tup xs)->c≠x:=λc xs r z=>by subst z;rw[r]at mu;exact mu
 by_cases hb:b=x
 ·subst hb;rw[aT]at q;cases q;exact new
 ·rw[aJ hb]at q
  by_cases hbe:b=e
  ·have q':H b=some (.own x):=by
    rcases he with z | z
    ·exact absurd (hbe.trans z) hb
    ·rw[hbe];exact z
   rw[q]at q';cases q';obtain⟨v,hv⟩:=heo;exact⟨v,by rw[hbe];exact hv⟩
  ·refine(ok b u q).Jr (λc v hc r=>k c v ?_ r) (λc r=>by rw[aJ (nown c b r)];exact r) λc xs r=>by rw[aJ (ntup c xs r)];exact r
   rcases hc with rfl | hc
   ·exact hbe
   ·rintro rfl
    rcases he with z | z
    ·exact nown c b hc z
    ·rw[hc]at z;cases z;exact hb rfl
end
structure Un (fs ex:List Addr)(H H':Hp)(h h':Heap):Prop where
 keep:∀b o,h.get? b=some o->H b=none->b∉fs->b∉ex->h'.get? b=some o
 slot:∀b o,h.get? b=some o->H b=none->b∈fs->b∉ex->∃sl,h'.get? b=some { o with slots:=sl }
 free:∀b o,h.get? b=some o->H b=none->b∉ex->H' b=none
 there:∀b o,h.get? b=some o->b∉ex->∃o',h'.get? b=some o'
 tups:∀b xs,H b=some (.tup xs)->H' b=some (.tup xs)
 frzs:∀b o u,H b=some (.frz o u)->H' b=some (.frz o u)
 tbls:∀b ps,H b=some (.tbl ps)->H' b=some (.tbl ps)
section
variable {fs fs' ex ex':List Addr}{H H1 H2:Hp}{h h1 h2 h':Heap}{a x e:Addr}{o:HO}
theorem Un.any (u:Un fs ex H H1 h h1){b:Addr}{ob:Obj}(q:h.get? b=some ob)(n:H b=none)(hx:b∉ex):∃sl,h1.get? b=some { ob with slots:=sl }:=by
 by_cases hb:b∈fs
 ·exact u.slot b ob q n hb hx
 ·exact⟨ob.slots,u.keep b ob q n hb hx⟩
theorem Un.kept (k:∀b u,h.get? b=some u->h'.get? b=some u):Un fs ex H H h h':=
 ⟨λb ob q _ _ _=>k b ob q,λb ob q _ _ _=>⟨ob.slots,k b ob q⟩,λ_ _ _ n _=>n,λb ob q _=>⟨ob,k b ob q⟩,λ_ _ q=>q,λ_ _ _ q=>q,λ_ ps q=>(by rw[q])⟩
theorem Un.refl:Un fs ex H H h h:=Un.kept λ_ _ q=>q
theorem Un.laid (k:∀b u,h.get? b=some u->h'.get? b=some u)(hp:h.objs.size<=a)(hn:H a=none):Un fs ex H (upd H a o) h h' where
 keep:=λb u q _ _ _=>k b u q
 slot:=λb u q _ _ _=>⟨u.slots,k b u q⟩
 free:=λb u q n _=>by rw[aJ (Ky (Kl (Kk q) hp))];exact n
 there:=λb u q _=>⟨u,k b u q⟩
 tups:=λb xs q=>by rw[aJ (bK q hn)];exact q
 frzs:=λb u xs q=>by rw[aJ (bK q hn)];exact q
 tbls:=λb ps q=>(by rw[aJ (bK q hn),q])
theorem Un.write (mu:IQ (H x))(he:e=x\/H e=some (.own x))(k:∀b u,b≠e->h.get? b=some u->h'.get? b=some u)(heo:∃u,h'.get? e=some u):Un fs ex H (upd H x o) h h':=by
 have hx:∀b,H b=none->b≠x:=λb n z=>by subst z;rw[n]at mu;exact mu
 have hb:∀b,H b=none->b≠e:=λb n z=>by
  subst z;rcases he with r | r
  ·exact hx b n r
  ·rw[n]at r;cases r
 have hm:∀b u,H b=some u->¬ IQ (some u)->b≠x:=λb u q nm z=>by subst z;rw[q]at mu;exact nm mu
 refine⟨λb u q n _ _=>k b u (hb b n) q,λb u q n _ _=>⟨u.slots,k b u (hb b n) q⟩,λb u q n _=>by rw[aJ (hx b n)];exact n,λb u q _=> ?_,
  λb xs q=>by rw[aJ (hm b _ q λz=>z)];exact q,λb u xs q=>by rw[aJ (hm b _ q λz=>z)];exact q,λb ps q=>(by rw[aJ (hm b _ q λz=>z),q])⟩
 by_cases hbe:b=e
 ·subst hbe;exact heo
 ·exact⟨u,k b u hbe q⟩
end
def trk (h:Heap)(H:Hp):List Addr:=(J7 h.objs.size).filter λa=>(H a).isSome
def ri (h:Heap)(H:Hp):Heap:=SH h (trk h H)
theorem x5 (h:Heap)(H:Hp):(ri h H).objs.size=h.objs.size:=PySem.W.hideAll_size _ _
theorem AE {h:Heap}{H:Hp}{b:Addr}{o:Obj}(e:h.get? b=some o)(n:H b=none):(ri h H).get? b=some o:=
 Oy _ e λhm=>by
  have q:(H b).isSome=true:=(MD.mp hm).2;rw[n]at q;simp at q
theorem CN {h:Heap}{H:Hp}{b:Addr}{o:Obj}(e:(ri h H).get? b=some o):h.get? b=some o/\H b=none:=by
 have e':h.get? b=some o:=Q9 (trk h H) e;refine⟨e',?_⟩
 cases q:H b with
 | none=>rfl
 | some x=>
  have hm:b∈trk h H:=MD.mpr ⟨Kq.mpr (Kk e'),by simp[q]⟩
  have z:(ri h H).get? b=none:=QF (trk h H) hm;rw[z]at e;cases e
def Dv (g h:Heap)(L:Addr):List (Addr×Obj):=(J7 h.objs.size).filterMap λa=>if a=L\/(g.get? a).isSome=true then none else(h.get? a).map λo=>(a,o)
def ck (g h:Heap)(L d:Addr):List (Addr×Obj):=(Dv g h L).filter λp=>decide (p.1≠d)
structure Mod (K:J6)(mg:Str->Option J8)(base:Heap):Prop where
 kin:K.In base
 glob:base.Ns KF mg
 blt:∃mb,base.Ns NC mb/\∀x:Str,x≠ "__name__"->mb x=KQ x
 nolimit:base.NoLimit
structure Cx where
 prog:Kz
 w:Lb
 K:J6
 mg:Str->Option J8
 base:Heap
 A:KU
 N:List Str
 s₀:Kb
 H₀:Hp
 env:Env
 outer:List Env
 stack:List Env
 ex:List Addr
 fn:Str->Bool
 calm:Bool
 pn:List (Addr×Obj)
 xe:J8->Kb->Prop
def jE (l:List Env):List Addr:=l.filterMap (·.frame)
abbrev Cx.fs (X:Cx):List Addr:=jE X.outer
def yC (sc:NN)(x:Str):Prop:=sc.names.lookup x=some .local\/sc.names.lookup x=some .cell\/sc.names.lookup x=some .free
def Loc (sc:NN)(x:Str):Prop:=sc.names.lookup x=some .local\/sc.names.lookup x=some .cell
def Look (env:Env)(h:Heap)(m:Str->Option J8)(x:Str)(u:J8):Prop:=
 (env.kindOf x=some .local/\m x=some u)\/((env.kindOf x=some .cell\/env.kindOf x=some .free)/\∃c,env.cells.lookup x=some c/\h.IsCell c (some u))
def lr:Str:="most_kept" ++ ".<locals>." ++ "<lambda>"
def Tb (K:J6)(mg:Str->Option J8)(H:Hp):Prop:=∀f o fd c oc vs P,mg "most_kept" =some (.ref f)->K.lookup f=some o->o.data= .func fd->fd.code= .ref c->K.lookup c=some oc->oc.data= .fields vs->vs[11]? =some (.ref P)->H P=some (.tbl lr)
structure Cx.Ok (X:Cx):Prop where
 mod:Mod X.K X.mg X.base
 kind:X.env.scope.kind= .function
 glob:X.env.globals=KF
 blt:X.env.builtins=NC
 above:X.s₀.heap.objs.size<=X.env.locals
 inj:∀x y c,X.env.cells.lookup x=some c->X.env.cells.lookup y=some c->x=y
 has:∀x,(X.env.kindOf x=some .cell\/X.env.kindOf x=some .free)->∃c,X.env.cells.lookup x=some c
 cab:∀x c,X.fn x=true->X.env.cells.lookup x=some c->X.s₀.heap.objs.size<=c
 hd:X.calm=true->X.A.handled=none
 frames:X.A.frames=some X.stack
 stk:X.stack=X.outer\/(X.stack=X.env::X.outer/\X.env.frame=some X.env.locals)
 exf:∀b∈X.ex,b≠X.env.locals/\∀x c,X.env.cells.lookup x=some c->c≠b
 bs:∀b o,X.base.get? b=some o->X.s₀.heap.get? b=some o/\X.H₀ b=none
 bsz:X.base.objs.size<=X.s₀.heap.objs.size
 noex:∀b o,X.base.get? b=some o->b∉X.ex
 exfs:∀b∈X.ex,b∉X.fs
 funs:X.s₀.heap.FunFrames X.base X.outer
 frf:∀b∈X.fs,X.H₀ b=none
 tb:Tb X.K X.mg X.H₀
structure Inv (X:Cx)(pins:List (Addr×Obj))(σ:List (Option V))(H:Hp)(s:Kb):Prop where
 ok:X.Ok
 os:s.os=X.s₀.os
 bare:MJ s.gens
 base:Un X.fs X.ex X.H₀ H X.s₀.heap s.heap
 loc:∃m,s.heap.Ns X.env.locals m/\∀(i:Nat) (x:Str) (v:V),X.N[i]? =some x->σ[i]? =some (some v)->yC X.env.scope x->∃u,RelV v u/\Look X.env s.heap m x u
 cell:∀x c,X.env.cells.lookup x=some c->∃v,s.heap.IsCell c v
 free:H X.env.locals=none
 freeC:∀x c,X.env.cells.lookup x=some c->H c=none
 pin:∀p∈X.pn++pins,s.heap.get? p.1=some p.2/\H p.1=none/\p.1≠X.env.locals/\p.1∉X.fs/\∀v,p.2.data≠ .cell v
 hok:HOk X.prog X.w H s.heap
 len:σ.length=X.N.length
section
variable {X:Cx}{pins:List (Addr×Obj)}{σ:List (Option V)}{H H':Hp}{s:Kb}{h':Heap}
theorem Cx.Ok.J3 (ok:X.Ok){b:Addr}{o:Obj}(e:X.base.get? b=some o):b∉X.fs:=λhb=>by
 have:=(ok.funs.mem hb).1;rw[e]at this;cases this
theorem Inv.bs (I:Inv X pins σ H s):∀b o,X.base.get? b=some o->s.heap.get? b=some o/\H b=none:=λb o e=>
 ⟨I.base.keep b o (I.ok.bs b o e).1 (I.ok.bs b o e).2 (I.ok.J3 e) (I.ok.noex b o e),I.base.free b o (I.ok.bs b o e).1 (I.ok.bs b o e).2 (I.ok.noex b o e)⟩
theorem Inv.bk (I:Inv X pins σ H s):∀b o,X.base.get? b=some o->s.heap.get? b=some o:=λb o e=>(I.bs b o e).1
theorem Inv.mod (I:Inv X pins σ H s):Mod X.K X.mg X.base:=I.ok.mod
theorem Inv.tb (I:Inv X pins σ H s):Tb X.K X.mg H:=λf o fd c oc vs P a1 a2 a3 a4 a5 a6 a7=>I.base.tbls P _ (I.ok.tb f o fd c oc vs P a1 a2 a3 a4 a5 a6 a7)
theorem Inv.kIn (I:Inv X pins σ H s):X.K.In s.heap:=I.ok.mod.kin.keeps I.bk
theorem Inv.lt (I:Inv X pins σ H s):X.env.locals<s.heap.objs.size:=let ⟨_,hn,_⟩:=I.loc;hn.lt
theorem Inv.sz (I:Inv X pins σ H s):X.s₀.heap.objs.size<=s.heap.objs.size:=KD I.ok.above (LB I.lt)
theorem Inv.JZ (I:Inv X pins σ H s){a:Addr}(h:s.heap.objs.size<=a):a∉X.fs:=λhb=>by
 obtain⟨_,o,ho,_⟩:=I.ok.funs.mem hb;exact absurd (Kl (Kk ho) (KD I.sz h)) (KW _)
theorem Inv.cne (I:Inv X pins σ H s):∀x c,X.env.cells.lookup x=some c->c≠X.env.locals:=λx c e z=>by
 obtain⟨v,o,ho,hd⟩:=I.cell x c e;obtain⟨m,⟨o',es,ep,ho',hd',_⟩,_⟩:=I.loc;rw[z,ho']at ho;cases ho;rw[hd']at hd;cases hd
theorem Inv.funs (I:Inv X pins σ H s):s.heap.FunFrames X.base X.outer:=by
 have all:∀(l:List Env),(∀b∈jE l,b∈X.fs)->X.s₀.heap.FunFrames X.base l->s.heap.FunFrames X.base l:=by
  intro l
  induction l with
  | nil=>intro _ _;trivial
  | cons env r ih=>
   intro hs hl;obtain⟨hk,⟨L,o,hf,hn,ho,hd⟩,hr⟩:=hl
   have hL:L∈X.fs:=hs L (by unfold jE;rw[MO,hf];exact Kg)
   obtain⟨sl,e⟩:=I.base.slot L o ho (I.ok.frf L hL) hL λz=>I.ok.exfs L z hL
   exact⟨hk,⟨L,_,hf,hn,e,hd⟩,ih (λb hb=>hs b (by unfold jE;rw[MO,hf];exact Ka _ hb)) hr⟩
 exact all X.outer (λ_ hb=>hb) I.ok.funs
theorem Inv.stack (I:Inv X pins σ H s):s.heap.FunFrames X.base X.stack:=by
 rcases I.ok.stk with e | ⟨e,hf⟩
 ·rw[e];exact I.funs
 ·rw[e]
  obtain⟨m,hn,_⟩:=I.loc;refine .cons (by rw[I.ok.kind];decide) hf hn ?_ I.funs
  exact Heap.get?_none_of_le (KD I.ok.bsz I.ok.above)
theorem Inv.JA (I:Inv X pins σ H s):∀b∈jE X.stack,b∈X.env.locals::X.fs:=λb hb=>by
 rcases I.ok.stk with e | ⟨e,hf⟩
 ·rw[e]at hb;exact Ka _ hb
 ·rw[e]at hb
  unfold jE at hb;rw[MO,hf]at hb;exact hb
theorem Inv.IR (I:Inv X pins σ H s):∀b∈jE X.stack,H b=none:=λb hb=>by
 rcases Ko.mp (I.JA b hb)with e | hb
 ·rw[e];exact I.free
 ·obtain⟨_,o,ho,_⟩:=I.ok.funs.mem hb
  exact I.base.free b o ho (I.ok.frf b hb) λz=>I.ok.exfs b z hb
theorem Inv.step {g':Array SE}{t':Nat}{d':Drawn}{ch:List Addr}(I:Inv X pins σ H s)
  (hch:∀b∈ch,(b∈X.ex\/X.s₀.heap.objs.size<=b)/\b≠X.env.locals/\(∀x c,X.env.cells.lookup x=some c->c≠b)/\∀p∈X.pn++pins,p.1≠b)
  (keep:∀b o,b≠X.env.locals->b∉X.fs->b∉ch->s.heap.get? b=some o->H b=none->h'.get? b=some o)
  (slot:∀b o,b≠X.env.locals->b∈X.fs->b∉ch->s.heap.get? b=some o->H b=none->∃sl,h'.get? b=some { o with slots:=sl }) (free:∀b o,b∉ch->s.heap.get? b=some o->H b=none->H' b=none)
  (there:∀b o,b∉ch->s.heap.get? b=some o->∃o',h'.get? b=some o')
  (tups:∀b xs,H b=some (.tup xs)->H' b=some (.tup xs)) (frzs:∀b o u,H b=some (.frz o u)->H' b=some (.frz o u)) (tbls:∀b ps,H b=some (.tbl ps)->H' b=some (.tbl ps))
  (ns:∀m,s.heap.Ns X.env.locals m->h'.Ns X.env.locals m) (hok:HOk X.prog X.w H' h') (hg:MJ g') :
  Inv X pins σ H' { s with heap:=h',gens:=g',drawn:=d',toks:=t' }:=by
 have neL:∀b o,X.s₀.heap.get? b=some o->b≠X.env.locals:=λb o e=>Ky (Kl (Kk e) I.ok.above)
 have neC:∀b o,X.s₀.heap.get? b=some o->b∉X.ex->b∉ch:=λb o e hx hb=>by
  rcases(hch b hb).1 with z | z
  ·exact hx z
  ·exact absurd (Kl (Kk e) z) (KW _)
 have cellK:∀x c,X.env.cells.lookup x=some c->∀v,s.heap.IsCell c v->h'.IsCell c v:=λx c e v hh_=>by
  obtain⟨o,ho,hd⟩:=hh_
  have nch:c∉ch:=λz=>(hch c z).2.2.1 x c e rfl
  by_cases hc:c∈X.fs
  ·obtain⟨sl,q⟩:=slot c o (I.cne x c e) hc nch ho (I.freeC x c e)
   exact⟨_,q,hd⟩
  ·exact⟨o,keep c o (I.cne x c e) hc nch ho (I.freeC x c e),hd⟩
 refine⟨I.ok,I.os,hg,⟨λb o e n hb hx=> ?_,λb o e n hb hx=> ?_,λb o e n hx=> ?_,λb o e hx=> ?_,λb xs e=>tups b xs (I.base.tups b xs e),λb o xs e=>frzs b o xs (I.base.frzs b o xs e),λb ps e=> ?_⟩,?_,λx c e=> ?_,?_,λx c e=> ?_,λp hp=> ?_,hok,I.len⟩
 ·exact keep b o (neL b o e) hb (neC b o e hx) (I.base.keep b o e n hb hx) (I.base.free b o e n hx)
 ·obtain⟨sl,e1⟩:=I.base.slot b o e n hb hx
  obtain⟨sl',e2⟩:=slot b _ (neL b o e) hb (neC b o e hx) e1 (I.base.free b o e n hx);exact⟨sl',e2⟩
 ·obtain⟨o',e1⟩:=I.base.there b o e hx
  exact free b o' (neC b o e hx) e1 (I.base.free b o e n hx)
 ·obtain⟨o',e1⟩:=I.base.there b o e hx
  exact there b o' (neC b o e hx) e1
 ·exact tbls b _ (I.base.tbls b ps e)
 ·obtain⟨m,hn,hl⟩:=I.loc
  refine⟨m,ns m hn,λi x v e1 e2 e3=> ?_⟩
  obtain⟨u,r,l⟩:=hl i x v e1 e2 e3;refine⟨u,r,?_⟩
  rcases l with l | ⟨k,c,e,z⟩
  ·exact .inl l
  ·exact .inr ⟨k,c,e,cellK x c e _ z⟩
 ·obtain⟨v,z⟩:=I.cell x c e
  exact⟨v,cellK x c e v z⟩
 ·obtain⟨m,⟨o,_,_,ho,_⟩,_⟩:=I.loc
  exact free _ o (λz=>(hch _ z).2.1 rfl) ho I.free
 ·obtain⟨v,o,ho,hd⟩:=I.cell x c e
  exact free c o (λz=>(hch c z).2.2.1 x c e rfl) ho (I.freeC x c e)
 ·obtain⟨e,n,ne,nf,d⟩:=I.pin p hp
  have nch:p.1∉ch:=λz=>(hch p.1 z).2.2.2 p hp rfl
  exact⟨keep p.1 p.2 ne nf nch e n,free p.1 p.2 nch e n,ne,nf,d⟩
theorem Inv.un {t':Nat}(I:Inv X pins σ H s)(u:Un X.fs [] H H' s.heap h')(hok:HOk X.prog X.w H' h'):Inv X pins σ H' { s with heap:=h',toks:=t' }:=by
 obtain⟨m,⟨o,es,ep,ho,r⟩,_⟩:=id I.loc;obtain⟨sl,hL⟩:=u.any ho I.free (by simp)
 exact I.step (g':=s.gens) (d':=s.drawn) (ch:=[]) (λ_ z=>nomatch z) (λb o _ hb _ e n=>u.keep b o e n hb (by simp)) (λb o _ hb _ e n=>u.slot b o e n hb (by simp)) (λb o _ e n=>u.free b o e n (by simp)) (λb o _ e=>u.there b o e (by simp)) u.tups u.frzs u.tbls (λm' hm=>by
  obtain⟨o',es',ep',ho',r'⟩:=hm;rw[ho]at ho';cases ho';exact⟨_,es',ep',hL,r'⟩) hok I.bare
theorem Inv.call {g':Array SE}{t':Nat}{d':Drawn}{ch:List Addr}(I:Inv X pins σ H s)(u:Un (jE X.stack) ch H H' s.heap h')(hok:HOk X.prog X.w H' h')(hg:MJ g')
  (hch:∀b∈ch,(b∈X.ex\/X.s₀.heap.objs.size<=b)/\b≠X.env.locals/\(∀x c,X.env.cells.lookup x=some c->c≠b)/\∀p∈X.pn++pins,p.1≠b) :
  Inv X pins σ H' { s with heap:=h',gens:=g',drawn:=d',toks:=t' }:=by
 obtain⟨m,⟨o,es,ep,ho,r⟩,_⟩:=id I.loc;obtain⟨sl,hL⟩:=u.any ho I.free λz=>(hch _ z).2.1 rfl
 exact I.step (ch:=ch) hch (λb o hL hb hc e n=>u.keep b o e n (λz=>(Ko.mp (I.JA b z)).elim hL hb) hc) (λb o _ _ hc e n=>u.any e n hc) (λb o hc e n=>u.free b o e n hc) (λb o hc e=>u.there b o e hc) u.tups u.frzs u.tbls (λm' hm=>by
  obtain⟨o',es',ep',ho',r'⟩:=hm;rw[ho]at ho';cases ho';exact⟨_,es',ep',hL,r'⟩) hok hg
theorem Inv.turned {t':Nat}{it:Addr}(I:Inv X pins σ H s)(k:∀b o,b≠it->s.heap.get? b=some o->h'.get? b=some o)(hn:H it=none)(hL:it≠X.env.locals)
  (h1:it∈X.ex\/X.s₀.heap.objs.size<=it) (h2:∀x c,X.env.cells.lookup x=some c->c≠it) (h3:∀p∈X.pn++pins,p.1≠it):Inv X pins σ H { s with heap:=h',toks:=t' }:=by
 have nit:∀b u,H b=some u->b≠it:=λb u e z=>by rw[z,hn]at e;cases e
 refine I.step (g':=s.gens) (d':=s.drawn) (ch:=[it]) (λb hb=> ?_) (λb o _ _ hc e _=>k b o (λz=>hc (by simp[z])) e) (λb o _ _ hc e _=>⟨o.slots,k b o (λz=>hc (by simp[z])) e⟩) (λ_ _ _ _ n=>n)
  (λb o hc e=>⟨o,k b o (λz=>hc (by simp[z])) e⟩) (λ_ _ e=>e) (λ_ _ _ e=>e) (λb ps e=>(by rw[e])) (λm hm=> ?_) (λb u e=> ?_) I.bare
 ·have e:b=it:=by simpa using hb
  subst e;exact⟨h1,hL,h2,h3⟩
 ·obtain⟨o,es,ep,ho,r⟩:=hm
  exact⟨o,es,ep,k _ o (O5 hL) ho,r⟩
 ·refine(I.hok b u e).Jr (λc v hc q=>k c v ?_ q) (λ_ q=>q) λ_ _ q=>q
  rcases hc with z | z
  ·rw[z];exact nit b u e
  ·exact nit c _ z
theorem Inv.tok (I:Inv X pins σ H s)(t:Nat):Inv X pins σ H { s with toks:=t }:=I.un (h':=s.heap) (t':=t) Un.refl I.hok
theorem Inv.kept {t':Nat}(I:Inv X pins σ H s)(k:∀b u,s.heap.get? b=some u->h'.get? b=some u):Inv X pins σ H { s with heap:=h',toks:=t' }:=I.un (Un.kept k) (I.hok.kept k)
theorem Inv.laid {a:Addr}{o:HO}{t':Nat}(I:Inv X pins σ H s)(k:∀b u,s.heap.get? b=some u->h'.get? b=some u)(hp:s.heap.objs.size<=a)(new:ObjOk X.prog X.w (upd H a o) h' a o) :
  Inv X pins σ (upd H a o) { s with heap:=h',toks:=t' }:=I.un (Un.laid k hp (I.hok.fresh hp)) (I.hok.laid k hp new)
theorem Inv.write {x e:Addr}{o:HO}{t':Nat}(I:Inv X pins σ H s)(mu:IQ (H x))(he:e=x\/H e=some (.own x))(k:∀b u,b≠e->s.heap.get? b=some u->h'.get? b=some u)(heo:∃u,h'.get? e=some u)
  (new:ObjOk X.prog X.w (upd H x o) h' x o):Inv X pins σ (upd H x o) { s with heap:=h',toks:=t' }:=I.un (Un.write mu he k heo) (I.hok.write mu he k heo new)
theorem Inv.JB {pins':List (Addr×Obj)}(I:Inv X pins σ H s)(h:∀p∈pins',s.heap.get? p.1=some p.2/\H p.1=none/\p.1≠X.env.locals/\p.1∉X.fs/\∀v,p.2.data≠ .cell v):Inv X pins' σ H s:=
 ⟨I.ok,I.os,I.bare,I.base,I.loc,I.cell,I.free,I.freeC,λp hp=>(Ls.mp hp).elim (λz=>I.pin p (On _ z)) (h p),I.hok,I.len⟩
theorem sS {N:List Str}(hN:N.Nodup){i j:Nat}{x:Str}(a:N[i]? =some x)(b:N[j]? =some x):i=j:=by
 obtain⟨h1,e1⟩:=Km.mp a
 obtain⟨h2,e2⟩:=Km.mp b
 exact(List.getElem_inj hN).mp (e1.trans e2.symm)
theorem oE {M:Model}{A:KU}{E:J8->Kb->Prop}{i:Nat}{x:Str}{v:V}{u:J8}{Q:Unit->Kb->Prop}(I:Inv X pins σ H s)(hN:X.N.Nodup)(hi:X.N[i]? =some x)(hx:Loc X.env.scope x)(r:RelV v u)
  (h:∀s',Inv X pins (σ.set i (some v)) H s'->(∃a,Nz a s.heap s'.heap/\(a=X.env.locals\/X.env.cells.lookup x=some a))->Q () s') (hf:X.fn x=true\/X.env.scope.names.lookup x=some .local:=by first | exact .inl rfl | exact .inr rfl | assumption):wpAny M A (storeName X.env x u) Q E s:=by
 obtain⟨m,hn,hl⟩:=id I.loc
 have hcls:(X.env.scope.kind == .class||(X.env.scope.kind == .module&&X.env.locals != X.env.globals))=false:=by rw[I.ok.kind];rfl
 have hiσ:i<σ.length:=by rw[I.len];exact(Km.mp hi).1
 have cne:=I.cne
 have tracked:∀{a:Addr} {h':Heap},(∃o,s.heap.get? a=some o/\H a=none)->Nz a s.heap h'->HOk X.prog X.w H h':=λ{a h'} ha hs b ob e=>by
  obtain⟨_,_,hfree⟩:=ha;refine(I.hok b ob e).Jr (λc w' hc q=>(hs.2 c ?_).trans q) (λ_ q=>q) λ_ _ q=>q
  rintro rfl
  rcases hc with rfl | hc
  ·rw[hfree]at e;cases e
  ·rw[hfree]at hc;cases hc
 rcases hx with hk | hk
 ·refine wpAny_storeName_local hk hn (λh' hn' hs=> ?_) hcls
  obtain⟨oL,_,_,hoL,_⟩:=id hn;refine h _ ⟨I.ok,I.os,I.bare,⟨λb o e n hb hx=> ?_,λb o e n hb hx=> ?_,I.base.free,λb o e hx=> ?_,I.base.tups,I.base.frzs,I.base.tbls⟩,⟨_,hn',λj y v' e1 e2 e3=> ?_⟩,λy c e=> ?_,I.free,I.freeC,λp hp=> ?_,tracked ⟨oL,hoL,I.free⟩ hs,by simpa using I.len⟩ ⟨_,hs,.inl rfl⟩
  ·exact(hs.2 b (Ky (Kl (Kk e) I.ok.above))).trans (I.base.keep b o e n hb hx)
  ·obtain⟨sl,e1⟩:=I.base.slot b o e n hb hx
   exact⟨sl,(hs.2 b (Ky (Kl (Kk e) I.ok.above))).trans e1⟩
  ·obtain⟨o',e1⟩:=I.base.there b o e hx
   exact⟨o',(hs.2 b (Ky (Kl (Kk e) I.ok.above))).trans e1⟩
  ·by_cases hj:j=i
   ·subst hj
    rw[hi]at e1;cases e1;rw[KP hiσ]at e2
    cases e2;exact⟨u,r,.inl ⟨hk,by simp⟩⟩
   ·rw[KN (O5 hj)]at e2
    obtain⟨u',r',q⟩:=hl j y v' e1 e2 e3;refine⟨u',r',?_⟩
    rcases q with⟨k,e⟩ | ⟨k,c,e,z⟩
    ·refine .inl ⟨k,?_⟩
     have:y≠x:=λe=>hj (sS hN e1 (e▸hi))
     simp[this,e]
    ·exact .inr ⟨k,c,e,z.sameBut hs (cne y c e)⟩
  ·obtain⟨w',z⟩:=I.cell y c e
   exact⟨w',z.sameBut hs (cne y c e)⟩
  ·obtain⟨e,n,ne,nf,d⟩:=I.pin p hp
   exact⟨(hs.2 p.1 ne).trans e,n,ne,nf,d⟩
 ·have hfn:X.fn x=true:=by
   rcases hf with z | z
   ·exact z
   ·rw[z]at hk;cases hk
  obtain⟨c,hc⟩:=I.ok.has x (.inl hk);obtain⟨w',z⟩:=I.cell x c hc;refine wpAny_storeName_cell I.ok.kind hk hc z (λh' hc' hs=> ?_)
  obtain⟨oc,hoc,hocd⟩:=id z;refine h { s with heap:=h' } ⟨I.ok,I.os,I.bare,⟨λb o e n hb hx=> ?_,λb o e n hb hx=> ?_,I.base.free,λb o e hx=> ?_,I.base.tups,I.base.frzs,I.base.tbls⟩,⟨m,hn.sameBut hs (O5 (cne x c hc)),λj y v' e1 e2 e3=> ?_⟩,λy c' e=> ?_,I.free,I.freeC,λp hp=> ?_,tracked ⟨oc,hoc,I.freeC x c hc⟩ hs,by simpa using I.len⟩ ⟨c,hs,.inr hc⟩
  ·exact(hs.2 b (Ky (Kl (Kk e) (I.ok.cab x c hfn hc)))).trans (I.base.keep b o e n hb hx)
  ·obtain⟨sl,e1⟩:=I.base.slot b o e n hb hx
   exact⟨sl,(hs.2 b (Ky (Kl (Kk e) (I.ok.cab x c hfn hc)))).trans e1⟩
  ·obtain⟨o',e1⟩:=I.base.there b o e hx
   exact⟨o',(hs.2 b (Ky (Kl (Kk e) (I.ok.cab x c hfn hc)))).trans e1⟩
  ·by_cases hj:j=i
   ·subst hj
    rw[hi]at e1;cases e1;rw[KP hiσ]at e2
    cases e2;exact⟨u,r,.inr ⟨.inl hk,c,hc,hc'⟩⟩
   ·rw[KN (O5 hj)]at e2
    obtain⟨u',r',q⟩:=hl j y v' e1 e2 e3;refine⟨u',r',?_⟩
    rcases q with q | ⟨k,c',e,z'⟩
    ·exact .inl q
    ·refine .inr ⟨k,c',e,z'.sameBut hs ?_⟩
     rintro rfl
     exact hj (sS hN e1 (I.ok.inj _ _ _ e hc▸hi))
  ·by_cases hcc:c'=c
   ·subst hcc;exact⟨_,hc'⟩
   ·obtain⟨w2,z2⟩:=I.cell y c' e
    exact⟨w2,z2.sameBut hs hcc⟩
  ·obtain⟨e,n,ne,nf,d⟩:=I.pin p hp
   refine⟨(hs.2 p.1 ?_).trans e,n,ne,nf,d⟩
   intro q;rw[q,hoc]at e
   have q':oc=p.2:=KO e;exact d w' (by rw[<-q'];exact hocd)
theorem lZ {M:Model}{A:KU}{E:J8->Kb->Prop}{i:Nat}{x:Str}{v:V}{u:J8}{Q:Unit->Kb->Prop}(I:Inv X pins σ H s)(hN:X.N.Nodup)(hi:X.N[i]? =some x)(hx:Loc X.env.scope x)(r:RelV v u)
  (h:∀s',Inv X pins (σ.set i (some v)) H s'->Q () s') (hf:X.fn x=true\/X.env.scope.names.lookup x=some .local:=by first | exact .inl rfl | exact .inr rfl | assumption):wpAny M A (storeName X.env x u) Q E s:=
 oE I hN hi hx r (λs' I' _=>h s' I') hf
theorem Inv.JL {s':Kb}{ch:List Addr}(I:Inv X pins σ H s)(ho:s'.os=s.os)(u:Un (jE X.stack) ch H H' s.heap s'.heap)(hok:HOk X.prog X.w H' s'.heap)(hg:MJ s'.gens)
  (hch:∀b∈ch,(b∈X.ex\/X.s₀.heap.objs.size<=b)/\b≠X.env.locals/\(∀x c,X.env.cells.lookup x=some c->c≠b)/\∀p∈X.pn++pins,p.1≠b):Inv X pins σ H' s':=by
 obtain⟨h',g',d',t',o'⟩:=s'
 have e:o'=s.os:=ho;subst e;exact I.call (g':=g') (t':=t') (d':=d') u hok hg hch
end
abbrev XK:=J8->Option Addr->Hp->Prop
abbrev St:=List (Option V)
abbrev VK:=V->Hp->Prop
abbrev TE:=St->Hp->VK->Prop
abbrev TT:=St->Hp->(Bool->Hp->Prop)->Prop
abbrev TA:=St->Hp->(List V->Hp->Prop)->Prop
structure rH where
 nx:St->Hp->Prop
 rt:VK
 bk:St->Hp->Prop:=λ_ _=>False
 ct:St->Hp->Prop:=λ_ _=>False
abbrev TS:=rH->St->Hp->Prop
def EP (X:Cx)(pins:List (Addr×Obj))(σ:St)(Q:VK)(u:J8)(s':Kb):Prop:=∃v H',Inv X pins σ H' s'/\RelV v u/\Q v H'
def TP (X:Cx)(pins:List (Addr×Obj))(σ:St)(Q:Bool->Hp->Prop)(b:Bool)(s':Kb):Prop:=∃H',Inv X pins σ H' s'/\Q b H'
def AP (X:Cx)(pins:List (Addr×Obj))(σ:St)(Q:List V->Hp->Prop)(us:List J8)(s':Kb):Prop:=∃vs H',Inv X pins σ H' s'/\Vals vs us/\Q vs H'
def SP (X:Cx)(pins:List (Addr×Obj))(D:rH)(f:Flow)(s':Kb):Prop:=
 match f with
 | .next=> ∃σ' H',Inv X pins σ' H' s'/\D.nx σ' H'
 | .brk=> ∃σ' H',Inv X pins σ' H' s'/\D.bk σ' H'
 | .cont=> ∃σ' H',Inv X pins σ' H' s'/\D.ct σ' H'
 | .ret u=> ∃v σ' H',Inv X pins σ' H' s'/\RelV v u/\D.rt v H'
def PE (X:Cx)(e:Expr)(t:TE):Prop:=
 ∀(pins:List (Addr×Obj)) (s:Kb) (σ:St) (H:Hp) (Q:VK),Inv X pins σ H s->t σ H Q->wpAny (model X.prog X.w) X.A (eval e X.env) (EP X pins σ Q) X.xe s
def PT (X:Cx)(e:Expr)(t:TT):Prop:=
 ∀(pins:List (Addr×Obj)) (s:Kb) (σ:St) (H:Hp) (Q:Bool->Hp->Prop),Inv X pins σ H s->t σ H Q->wpAny (model X.prog X.w) X.A (isTrue e X.env (eval e X.env)) (TP X pins σ Q) X.xe s
def PW (X:Cx)(e:Expr)(t:TT):Prop:=
 ∀(whole:Sem J8) (pins:List (Addr×Obj)) (s:Kb) (σ:St) (H:Hp) (Q:Bool->Hp->Prop),Inv X pins σ H s->t σ H Q->wpAny (model X.prog X.w) X.A (isTrue e X.env whole) (TP X pins σ Q) X.xe s
theorem PW.pt {X:Cx}{e:Expr}{t:TT}(h:PW X e t):PT X e t:=h _
def PA (X:Cx)(es:List Expr)(t:TA):Prop:=
 ∀(pos:Pos) (pins:List (Addr×Obj)) (s:Kb) (σ:St) (H:Hp) (Q:List V->Hp->Prop),Inv X pins σ H s->t σ H Q->wpAny (model X.prog X.w) X.A (spliced (backTo pos (Kx es X.env))) (AP X pins σ Q) X.xe s
def PS (X:Cx)(st:Stmt)(t:TS):Prop:=
 ∀(pins:List (Addr×Obj)) (s:Kb) (σ:St) (H:Hp) (D:rH),Inv X pins σ H s->t D σ H->wpAny (model X.prog X.w) X.A (exec st X.env) (SP X pins D) X.xe s
def PSs (X:Cx)(st:List Stmt)(t:TS):Prop:=
 ∀(pins:List (Addr×Obj)) (s:Kb) (σ:St) (H:Hp) (D:rH),Inv X pins σ H s->t D σ H->wpAny (model X.prog X.w) X.A (execs st X.env) (SP X pins D) X.xe s
theorem bX {α:Type}{t:Sem α}{Q Q':α->Kb->Prop}{M:Model}{A:KU}{E:J8->Kb->Prop}{s:Kb}(h:wpAny M A t Q E s)(hQ:∀a s,Q a s->Q' a s):wpAny M A t Q' E s:=Mr h hQ λ_ _ x=>x
section
variable {X:Cx}
def tVar (i:Nat):TE:=λσ H Q=> ∃v,σ[i]? =some (some v)/\Q v H
def tC (v:V):TE:=λ_ H Q=>Q v H
theorem qw {i:Nat}{x:Str}{pos:Pos}(hN:X.N[i]? =some x)(hv:yC X.env.scope x)(hd:jj x:=by decide)(hcd:(x == ("__classdict__" : Str))=false:=by decide):PE X (.Name x pos) (tVar i):=by
 intro pins s σ H Q I h;obtain⟨v,e,h⟩:=h;obtain⟨m,hn,hl⟩:=I.loc;obtain⟨u,r,l⟩:=hl i x v hN e hv
 have fin:EP X pins σ Q u s:=⟨v,H,I,r,h⟩;rcases l with⟨hk,hm⟩ | ⟨hk,c,hc,hcell⟩
 ·exact wpAny_Name (QL I.ok.kind hk hn hm fin) hd
 ·rcases hk with hk | hk
  ·exact wpAny_Name (Q6 I.ok.kind hk hc hcell fin) hd
  ·exact wpAny_Name (wpAny_loadName_free I.ok.kind hk hc hcell fin hcd) hd
theorem zE {i j pos}:PE X (.Constant (.int i) j pos) (tC (.int i)):=λ_ _ _ H _ I h=>wpAny_Constant_int ⟨.int i,H,I.tok _,⟨_,rfl⟩,h⟩
theorem HF {b j pos}:PE X (.Constant (.bool b) j pos) (tC (.bl b)):=λ_ _ _ H _ I h=>Constant_bool ⟨.bl b,H,I,rfl,h⟩
theorem Fq {j pos}:PE X (.Constant .none j pos) (tC .non):=λ_ _ _ H _ I h=>Constant_none ⟨.non,H,I,rfl,h⟩
def Gl (X:Cx)(x:Str):Prop:=X.env.kindOf x=some .globalImplicit
theorem lL {E:J8->Kb->Prop}{pins:List (Addr×Obj)}{s:Kb}{σ:St}{H:Hp}{x:Str}{u:J8}{pos:Pos}{Q:J8->Kb->Prop}(I:Inv X pins σ H s)(hg:Gl X x)(hm:X.mg x=some u)(h:Q u s)
  (hd:jj x:=by decide):wpAny (model X.prog X.w) X.A (eval (.Name x pos) X.env) Q E s:=
 OP I.ok.kind hg (Calls.loadGlobal_global (by rw[I.ok.glob];exact I.mod.glob.keeps I.bk) hm h) hd
theorem d4 {E:J8->Kb->Prop}{pins:List (Addr×Obj)}{s:Kb}{σ:St}{H:Hp}{x:Str}{u:J8}{pos:Pos}{Q:J8->Kb->Prop}(I:Inv X pins σ H s)(hg:Gl X x)(hm:X.mg x=none)(hv:KQ x=some u)(h:Q u s)
  (hn:x≠ "__name__":=by decide) (hd:jj x:=by decide):wpAny (model X.prog X.w) X.A (eval (.Name x pos) X.env) Q E s:=by
 obtain⟨mb,h1,h2⟩:=I.mod.blt;exact OP I.ok.kind hg (Calls.loadGlobal_builtin (by rw[I.ok.glob];exact I.mod.glob.keeps I.bk) hm (by rw[I.ok.blt];exact h1.keeps I.bk) ((h2 x hn).trans hv) h) hd
theorem CC {x:Str}{v:V}{u:J8}{pos:Pos}(hg:Gl X x)(hm:X.mg x=some u)(r:RelV v u)(hd:jj x:=by decide):PE X (.Name x pos) (tC v):=
 λ_ _ _ H _ I h=>lL I hg hm ⟨v,H,I,r,h⟩ hd
theorem CF {x:Str}{v:V}{u:J8}{pos:Pos}(hg:Gl X x)(hm:X.mg x=none)(hv:KQ x=some u)(r:RelV v u)(hn:x≠ "__name__":=by decide)(hd:jj x:=by decide):PE X (.Name x pos) (tC v):=
 λ_ _ _ H _ I h=>d4 I hg hm hv ⟨v,H,I,r,h⟩ hn hd
variable {a b:Expr}{ta tb:TE}{pos:Pos}
def tB (t:TE):TT:=λσ H Q=>t σ H λx H1=> ∃c,x= .bl c/\Q c H1
theorem Fc {e:Expr}{t:TE}(h:PE X e t)(he:∀whole,isTrue e X.env whole=(do let v <-whole;standAt e.pos;holding [v] (truthy v)):=by intro _;rfl):PT X e (tB t):=by
 intro pins s σ H Q I hw;refine isTrue_plain (bX (h pins s σ H _ I hw) λv s1 ⟨x,H1,I1,r1,q1⟩=> ?_) (he _)
 obtain⟨d,rfl,q⟩:=q1;cases r1;exact Lo ⟨H1,I1,q⟩
variable {tA tB':TT}{ck:List Expr}
def tAnd (t u:TT):TT:=λσ H Q=>t σ H λc H1=>if c=true then u σ H1 Q else Q false H1
def tOr (t u:TT):TT:=λσ H Q=>t σ H λc H1=>if c=true then Q true H1 else u σ H1 Q
def tNot (t:TT):TT:=λσ H Q=>t σ H λc H1=>Q (!c) H1
theorem Cm (ha:PT X a tA):PW X (.BoolOp .And [a] pos) tA:=by
 intro wh pins s σ H Q I h;refine isTrue_and (bX (ha pins s σ H Q I h) λc s1 e=> ?_)
 cases c with
 | true=>exact isTrue_and_nil e
 | false=>exact e
theorem E9 (ha:PT X a tA):PW X (.BoolOp .Or [a] pos) tA:=by
 intro wh pins s σ H Q I h;refine isTrue_or (bX (ha pins s σ H Q I h) λc s1 e=> ?_)
 cases c with
 | false=>exact isTrue_or_nil e
 | true=>exact e
theorem Fb (ha:PT X a tA)(hb:PW X (.BoolOp .And (b::ck) pos) tB'):PW X (.BoolOp .And (a::b::ck) pos) (tAnd tA tB'):=by
 intro wh pins s σ H Q I h;refine isTrue_and (bX (ha pins s σ H _ I h) λc s1 hh_=> ?_)
 obtain⟨H1,I1,q1⟩:=hh_
 cases c with
 | true=>exact hb wh pins s1 σ H1 Q I1 q1
 | false=>exact⟨H1,I1,q1⟩
theorem Hz (ha:PT X a tA)(hb:PW X (.BoolOp .Or (b::ck) pos) tB'):PW X (.BoolOp .Or (a::b::ck) pos) (tOr tA tB'):=by
 intro wh pins s σ H Q I h;refine isTrue_or (bX (ha pins s σ H _ I h) λc s1 hh_=> ?_)
 obtain⟨H1,I1,q1⟩:=hh_
 cases c with
 | true=>exact⟨H1,I1,q1⟩
 | false=>exact hb wh pins s1 σ H1 Q I1 q1
theorem Fd (ha:PT X a tA):PT X (.UnaryOp .Not a pos) (tNot tA):=by
 intro pins s σ H Q I h;exact isTrue_not (ha pins s σ H (λc H1=>Q (!c) H1) I h)
def G6 (ta tb:TE):TE:=λσ H Q=>ta σ H λx H1=> ∃c,x= .bl c/\if c=true then tb σ H1 Q else Q (.bl false) H1
def tOrV (ta tb:TE):TE:=λσ H Q=>ta σ H λx H1=> ∃c,x= .bl c/\if c=true then Q (.bl true) H1 else tb σ H1 Q
def GX (ta:TE):TE:=λσ H Q=>ta σ H λx H1=> ∃c,x= .bl c/\Q (.bl (!c)) H1
theorem Fo {op}{t:TE}(h:PE X a t):PE X (.BoolOp op [a] pos) t:=λpins s σ H Q I hw=>BoolOp_one (h pins s σ H Q I hw)
theorem Ft (ha:PE X a ta)(hb:PE X (.BoolOp .And (b::ck) pos) tb):PE X (.BoolOp .And (a::b::ck) pos) (G6 ta tb):=by
 intro pins s σ H Q I h;refine BoolOp_and (bX (ha pins s σ H _ I h) λv s1 hh_=> ?_)
 obtain⟨x,H1,I1,r1,q1⟩:=hh_;obtain⟨c,rfl,q1⟩:=q1;cases r1;refine Lo ?_
 cases c with
 | true=>exact hb pins s1 σ H1 Q I1 q1
 | false=>exact⟨.bl false,H1,I1,rfl,q1⟩
theorem HE (ha:PE X a ta)(hb:PE X (.BoolOp .Or (b::ck) pos) tb):PE X (.BoolOp .Or (a::b::ck) pos) (tOrV ta tb):=by
 intro pins s σ H Q I h;refine BoolOp_or (bX (ha pins s σ H _ I h) λv s1 hh_=> ?_)
 obtain⟨x,H1,I1,r1,q1⟩:=hh_;obtain⟨c,rfl,q1⟩:=q1;cases r1;refine Lo ?_
 cases c with
 | false=>exact hb pins s1 σ H1 Q I1 q1
 | true=>exact⟨.bl true,H1,I1,rfl,q1⟩
theorem Fp (ha:PE X a ta):PE X (.UnaryOp .Not a pos) (GX ta):=by
 intro pins s σ H Q I h;refine UnaryOp_ (bX (ha pins s σ H _ I h) λv s1 hh_=> ?_)
 obtain⟨x,H1,I1,r1,q1⟩:=hh_;obtain⟨c,rfl,q1⟩:=q1;cases r1;exact not_of (Lo ⟨.bl (!c),H1,I1,rfl,q1⟩)
end
def SqL (K:J6)(H:Hp)(a:Addr)(xs:List V):Prop:=
 Rd H a (.lst xs) ∨
  ∃(o:Obj) (its:Array J8) (n:Nat),K.lookup a=some o/\o.cls= .type "list"/\o.dict=none/\o.data= .seq its n/\its.size<=sizeLine/\Vals xs its.toList
def SqT (K:J6)(H:Hp)(a:Addr)(xs:List V):Prop:=
 Rd H a (.tup xs) ∨
  ∃(o:Obj) (its:Array J8) (n:Nat),K.lookup a=some o/\o.cls= .type "tuple"/\o.data= .seq its n/\its.size<=sizeLine/\Vals xs its.toList
def absV:J8->Option V
 | .none=>some .non
 | .bool b=>some (.bl b)
 | .int i _=>some (.int i)
 | .str x _=>some (.str x)
 | .bytes b _=>some (.byt b)
 | .float b _=>some (.flt b)
 | .ref a=>some (.ref a)
 | .type n=>some (.ty n)
 | _=>none
theorem RelV.abs {x:V}{u:J8}(r:RelV x u):absV u=some x:=by
 cases x with
 | non=>cases r;rfl
 | bl _=>cases r;rfl
 | int _=>obtain⟨t,rfl⟩:=r;rfl
 | str _=>obtain⟨t,rfl⟩:=r;rfl
 | byt _=>obtain⟨t,rfl⟩:=r;rfl
 | flt _=>obtain⟨t,rfl⟩:=r;rfl
 | ref _=>cases r;rfl
 | ty _=>cases r;rfl
theorem RelV.inj {x y:V}{u:J8}(r:RelV x u)(q:RelV y u):x=y:=KO (r.abs.symm.trans q.abs)
theorem Vals.inj:∀{xs ys:List V} {us:List J8},Vals xs us->Vals ys us->xs=ys
 | _,_,_,.nil,.nil=>rfl
 | _,_,_,.cons r t,.cons r' t'=>by rw[r.inj r',Vals.inj t t']
section
variable {X:Cx}{pins:List (Addr×Obj)}{σ:St}{H:Hp}{s:Kb}{a:Addr}{xs ys:List V}
theorem SqL.of {K:J6}(h:H a=some (.lst xs)):SqL K H a xs:=.inl (.inl h)
theorem SqT.of {K:J6}(h:H a=some (.tup xs)):SqT K H a xs:=.inl (.inl h)
theorem Inv.list (I:Inv X pins σ H s)(h:SqL X.K H a xs):∃its:List J8,Vals xs its/\PlainL s.heap a its.toArray/\xs.length<=sizeLine:=by
 rcases h with h | ⟨o,its,n,hk,hc,hd,hs,hz,r⟩
 ·obtain⟨z,its,n,r,e⟩:=h.ok I.hok
  exact⟨its,r,⟨_,n,e,rfl,rfl,rfl⟩,z⟩
 ·refine⟨its.toList,r,⟨o,n,I.kIn a o hk,hc,hd,by simpa using hs⟩,?_⟩
  have e:=r.length;simp only[KJ]at e;omega
theorem Inv.tuple (I:Inv X pins σ H s)(h:SqT X.K H a xs):∃its:List J8,Vals xs its/\Ta s.heap a its.toArray/\xs.length<=sizeLine:=by
 rcases h with h | ⟨o,its,n,hk,hc,hs,hz,r⟩
 ·obtain⟨z,its,r,p⟩:=h.ok I.hok
  exact⟨its,r,p,z⟩
 ·refine⟨its.toList,r,⟨o,I.kIn a o hk,hc,n,by simpa using hs⟩,?_⟩
  have e:=r.length;simp only[KJ]at e;omega
theorem Inv.Ju (I:Inv X pins σ H s)(h:SqL X.K H a xs)(h':SqL X.K H a ys):xs=ys:=by
 obtain⟨its,r,⟨o,n,e,_,_,d⟩,_⟩:=I.list h;obtain⟨its',r',⟨o',n',e',_,_,d'⟩,_⟩:=I.list h';rw[e]at e';cases e';rw[d]at d';injection d' with d1 _
 have:its=its':=by simpa using congrArg Qe d1
 subst this;exact r.inj r'
theorem Inv.Js (I:Inv X pins σ H s)(h:SqT X.K H a xs)(h':SqT X.K H a ys):xs=ys:=by
 obtain⟨its,r,⟨o,e,_,n,d⟩,_⟩:=I.tuple h;obtain⟨its',r',⟨o',e',_,n',d'⟩,_⟩:=I.tuple h';rw[e]at e';cases e';rw[d]at d';injection d' with d1 _
 have:its=its':=by simpa using congrArg Qe d1
 subst this;exact r.inj r'
end
abbrev Cx.FM (X:Cx)(E:J8->Kb->Prop):Cx:={ X with xe:=E }
abbrev Cx.nox (X:Cx):Cx:=X.FM λ_ _=>False
theorem Cx.Ok.FM {X:Cx}(ok:X.Ok)(E:J8->Kb->Prop):(X.FM E).Ok:=
 ⟨ok.mod,ok.kind,ok.glob,ok.blt,ok.above,ok.inj,ok.has,ok.cab,ok.hd,ok.frames,ok.stk,ok.exf,ok.bs,ok.bsz,ok.noex,ok.exfs,ok.funs,ok.frf,ok.tb⟩
theorem Cx.Ok.GM {X:Cx}{E:J8->Kb->Prop}(ok:(X.FM E).Ok):X.Ok:=
 ⟨ok.mod,ok.kind,ok.glob,ok.blt,ok.above,ok.inj,ok.has,ok.cab,ok.hd,ok.frames,ok.stk,ok.exf,ok.bs,ok.bsz,ok.noex,ok.exfs,ok.funs,ok.frf,ok.tb⟩
section
variable {X:Cx}{pins:List (Addr×Obj)}{σ:St}{H:Hp}{s:Kb}{E:J8->Kb->Prop}
theorem Inv.FM (I:Inv X pins σ H s)(E:J8->Kb->Prop):Inv (X.FM E) pins σ H s:=⟨I.ok.FM E,I.os,I.bare,I.base,I.loc,I.cell,I.free,I.freeC,I.pin,I.hok,I.len⟩
theorem Inv.GM (I:Inv (X.FM E) pins σ H s):Inv X pins σ H s:=⟨I.ok.GM,I.os,I.bare,I.base,I.loc,I.cell,I.free,I.freeC,I.pin,I.hok,I.len⟩
theorem SP.GM {D:rH}{f:Flow}{s':Kb}(h:SP (X.FM E) pins D f s'):SP X pins D f s':=by
 cases f with
 | next=>obtain⟨σ',H',I,q⟩:=h;exact⟨σ',H',I.GM,q⟩
 | brk=>obtain⟨σ',H',I,q⟩:=h;exact⟨σ',H',I.GM,q⟩
 | cont=>obtain⟨σ',H',I,q⟩:=h;exact⟨σ',H',I.GM,q⟩
 | ret u=>obtain⟨v,σ',H',I,r,q⟩:=h;exact⟨v,σ',H',I.GM,r,q⟩
theorem PSs.nox {st:List Stmt}{t:TS}(h:PSs X.nox st t):PSs X st t:=λpins s σ H D I hw=>
 Mr (h pins s σ H D (I.FM _) hw) (λ_ _ q=>q.GM) λ_ _ z=>Md z
end
section
variable {X:Cx}{st:Stmt}{ck:List Stmt}{t u:TS}{e:Expr}{te:TE}{pos:Pos}
def GZ:TS:=λD σ H=>D.nx σ H
def tSeq (t u:TS):TS:=λD σ H=>t { D with nx:=u D } σ H
theorem Co:PSs X [] GZ:=λ_ _ σ H _ I h=>OH ⟨σ,H,I,h⟩
theorem zr (h1:PS X st t)(h2:PSs X ck u):PSs X (st::ck) (tSeq t u):=by
 intro pins s σ H D I h;refine Sx (bX (h1 pins s σ H { D with nx:=u D } I h) λf s1 q=> ?_)
 cases f with
 | next=>
  obtain⟨σ',H',I',q⟩:=q
  exact h2 pins s1 σ' H' D I' q
 | ret v=>exact q
 | brk=>exact q
 | cont=>exact q
theorem Cn (h1:PS X st t):PSs X [st] t:=by
 intro pins s σ H D I h;refine Sx (bX (h1 pins s σ H D I h) λf s1 q=> ?_)
 cases f with
 | next=>exact OH q
 | ret v=>exact q
 | brk=>exact q
 | cont=>exact q
def G4:TS:=λD σ H=>D.ct σ H
theorem sy:PS X (.Continue pos) G4:=λ_ _ σ H _ I h=>wpAny_Continue ⟨σ,H,I,h⟩
theorem Inv.quiet {pins:List (Addr×Obj)}{σ:St}{H:Hp}{s:Kb}(I:Inv X pins σ H s):interactive X.env=false:=by simp[interactive,I.ok.kind]
def G2 (te:TE):TS:=λD σ H=>te σ H λ_ H1=>D.nx σ H1
theorem qt (he:PE X e te)(hs:L5 e none pos.line X.env=pure false:=by rfl):PS X (.Expr e pos) (G2 te):=by
 intro pins s σ H D I h;exact wpAny_Expr_any (bX (he pins s σ H _ I h) λv s1 ⟨x,H1,I1,r1,q1⟩=>⟨σ,H1,I1,q1⟩) I.quiet hs
def tRet (te:TE):TS:=λD σ H=>te σ H D.rt
theorem Fe (he:PE X e te):PS X (.Return (some e) pos) (tRet te):=by
 intro pins s σ H D I h;exact wpAny_Return_some (bX (he pins s σ H _ I h) λv s1 ⟨x,H1,I1,r1,q1⟩=>⟨x,σ,H1,I1,r1,q1⟩)
def tIfS (c:TT)(t u:TS):TS:=λD σ H=>c σ H λb H1=>if b=true then t D σ H1 else u D σ H1
theorem HB {c:Expr}{a b:List Stmt}{tc:TT}(hc:PT X c tc)(ha:PSs X a t)(hb:PSs X b u):PS X (.If c a b pos) (tIfS tc t u):=by
 intro pins s σ H D I h;refine wpAny_If (bX (hc pins s σ H _ I h) λd s1 hh_=> ?_)
 obtain⟨H1,I1,q1⟩:=hh_
 cases d with
 | true=>exact ha pins s1 σ H1 D I1 q1
 | false=>exact hb pins s1 σ H1 D I1 q1
end
abbrev TG:=V->St->Hp->(St->Hp->Prop)->Prop
abbrev Dx:=List V->St->Hp->(St->Hp->Prop)->Prop
def PG (X:Cx)(target:Expr)(t:TG):Prop:=
 ∀(pins:List (Addr×Obj)) (s:Kb) (σ:St) (H:Hp) (v:V) (u:J8) (Q:St->Hp->Prop),Inv X pins σ H s->RelV v u->t v σ H Q →
  wpAny (model X.prog X.w) X.A (assign target X.env u) (λ_ s'=> ∃σ' H',Inv X pins σ' H' s'/\Q σ' H') X.xe s
def PGs (X:Cx)(ts:List Expr)(t:Dx):Prop:=
 ∀(pins:List (Addr×Obj)) (s:Kb) (σ:St) (H:Hp) (vs:List V) (us:List J8) (Q:St->Hp->Prop),Inv X pins σ H s->Vals vs us->t vs σ H Q →
  wpAny (model X.prog X.w) X.A (assignInOrder ((LY ts X.env).map (·.2)) us) (λ_ s'=> ∃σ' H',Inv X pins σ' H' s'/\Q σ' H') X.xe s
abbrev Je:=V->V->Hp->VK->Prop
def PIp (X:Cx)(op:Tc)(t:Je):Prop:=
 ∀(pins:List (Addr×Obj)) (s:Kb) (σ:St) (H:Hp) (x y:V) (v u:J8) (Q:VK),Inv X pins σ H s->RelV x v->RelV y u->t x y H Q →
  wpAny (model X.prog X.w) X.A (inplaceOp op v u) (EP X pins σ Q) X.xe s
section
variable {X:Cx}{pos:Pos}
def AG (i:Nat):TG:=λv σ H Q=>Q (σ.set i (some v)) H
theorem CA {i:Nat}{x:Str}(hN:X.N.Nodup)(hi:X.N[i]? =some x)(hx:Loc X.env.scope x)(hf:X.fn x=true\/X.env.scope.names.lookup x=some .local:=by first | exact .inl rfl | exact .inr rfl | assumption):PG X (.Name x pos) (AG i):=by
 intro pins s σ H v u Q I r h;exact RX (lZ I hN hi hx r (λs' I'=>⟨_,H,I',h⟩) hf)
def gNil:Dx:=λvs σ H Q=>vs= []/\Q σ H
def Ir (t:TG)(u:Dx):Dx:=λvs σ H Q=> ∃v r,vs=v::r/\t v σ H λσ' H'=>u r σ' H' Q
theorem Cz:PGs X [] gNil:=by
 intro pins s σ H vs us Q I r h;obtain⟨e,h⟩:=h;subst e;cases r;exact assignInOrder_nil ⟨σ,H,I,h⟩
theorem zB {e:Expr}{es:List Expr}{t:TG}{u:Dx}(h1:PG X e t)(h2:PGs X es u)
  (hs:(LY (e::es) X.env).map (·.2)=assign e X.env::(LY es X.env).map (·.2):=by rfl):PGs X (e::es) (Ir t u):=by
 intro pins s σ H vs us Q I r h;obtain⟨v,vr,e1,h⟩:=h;subst e1
 cases r with
 | cons r rr=>
  rw[hs];refine assignInOrder_cons (bX (h1 pins s σ H _ _ _ I r h) λ_ s1 hh_=> ?_)
  obtain⟨σ1,H1,I1,q1⟩:=hh_;exact h2 pins s1 σ1 H1 _ _ Q I1 rr q1
def gTup (K:J6)(n:Nat)(t:Dx):TG:=λv σ H Q=> ∃a xs,v= .ref a/\SqT K H a xs/\xs.length=n/\t xs σ H Q
theorem Fj {es:List Expr}{k:Nat}{t:Dx}{n:Nat}(hc:X.calm=true)(h:PGs X es t)
  (hn:(LY es X.env).length=n:=by rfl) (hst:(LY es X.env).findIdx? (·.1)=none:=by rfl):PG X (.Tuple es k pos) (gTup X.K n t):=by
 intro pins s σ H v u Q I r hw;obtain⟨a,xs,e1,hq,hl,hw⟩:=hw;subst e1;cases r;obtain⟨its,rv,ht,hz⟩:=I.tuple hq;refine assign_Tuple_tuple (I.ok.hd hc) ht (by simp[hn,<-hl,rv.length]) hst λh' hx=> ?_
 have I1:Inv X pins σ H { s with heap:=h' }:=I.kept (t':=s.toks) λb o e=>hx b o (Ky (Kk e)) e
 exact h pins _ σ H xs _ Q I1 (by simpa using rv) hw
def BM (te:TE)(g:TG):TS:=λD σ H=>te σ H λx H1=>g x σ H1 D.nx
theorem Fg {tg e:Expr}{te:TE}{g:TG}(he:PE X e te)(hg:PG X tg g)(hs:Rw [tg] e pos.line X.env=pure false:=by rfl)(hw:Rx [tg] e X.env=pure none:=by rfl)
  (h1:(LY [tg] X.env).map (·.2)= [assign tg X.env]:=by rfl):PS X (.Assign [tg] e pos) (BM te g):=by
 intro pins s σ H D I h;refine wpAny_Assign_stores (bX (he pins s σ H _ I h) λv s1 ⟨x,H1,I1,r1,q1⟩=> ?_) hs hw
 rw[h1];exact bX (hg pins s1 σ H1 x v _ I1 r1 q1) λ_ s2 q=>q
theorem zw {i:Nat}{x:Str}{e:Expr}{te:TE}{pos':Pos}(hN:X.N.Nodup)(hi:X.N[i]? =some x)(hx:Loc X.env.scope x)(he:PE X e te)(hs:L5 e (some (.Name x pos')) pos.line X.env=pure false:=by rfl)(hf:X.fn x=true\/X.env.scope.names.lookup x=some .local:=by first | exact .inl rfl | exact .inr rfl | assumption) :
  PS X (.Assign [.Name x pos'] e pos) (BM te (AG i)):=by
 intro pins s σ H D I h;refine wpAny_Assign_Name (bX (he pins s σ H _ I h) λv s1 ⟨y,H1,I1,r1,q1⟩=> ?_) hs
 exact lZ I1 hN hi hx r1 (λs2 I2=>⟨_,H1,I2,q1⟩) hf
def tAug (i:Nat)(te:TE)(ti:Je):TS:=λD σ H=> ∃x,σ[i]? =some (some x)/\te σ H λy H1=>ti x y H1 λz H2=>D.nx (σ.set i (some z)) H2
theorem Ff {i:Nat}{x:Str}{e:Expr}{te:TE}{op:Tc}{ti:Je}{pos':Pos}(hN:X.N.Nodup)(hi:X.N[i]? =some x)(hx:Loc X.env.scope x)(he:PE X e te)(ho:PIp X op ti)(hf:X.fn x=true\/X.env.scope.names.lookup x=some .local:=by first | exact .inl rfl | exact .inr rfl | assumption) :
  PS X (.AugAssign (.Name x pos') op e pos) (tAug i te ti):=by
 intro pins s σ H D I h;obtain⟨v,e1,h⟩:=h;obtain⟨m,hn,hl⟩:=I.loc
 have vis:yC X.env.scope x:=by rcases hx with k | k;exact .inl k;exact .inr (.inl k)
 obtain⟨u,r,l⟩:=hl i x v hi e1 vis;refine wpAny_AugAssign_Name ?_
 have go:wpAny (model X.prog X.w) X.A (eval e X.env) (λw s₂=>wpAny (model X.prog X.w) X.A (inplaceOp op u w) (λr s₃=>wpAny (model X.prog X.w) X.A (storeName X.env x r) (λ_=>SP X pins D .next) X.xe s₃) X.xe s₂) X.xe s:=by
  refine bX (he pins s σ H _ I h) λw s1 hh_=> ?_
  obtain⟨y,H1,I1,r1,q1⟩:=hh_;refine bX (ho pins s1 σ H1 v y u w _ I1 r r1 q1) λz s2 hh_=> ?_
  obtain⟨zv,H2,I2,r2,q2⟩:=hh_;exact lZ I2 hN hi hx r2 (λs3 I3=>⟨_,H2,I3,q2⟩) hf
 rcases l with⟨hk,hm⟩ | ⟨hk,c,hc,hcell⟩
 ·exact QL I.ok.kind hk hn hm go
 ·rcases hk with hk | hk
  ·exact Q6 I.ok.kind hk hc hcell go
  ·rcases hx with k | k
   ·have:X.env.scope.names.lookup x=some .free:=hk
    rw[k]at this;cases this
   ·have:X.env.scope.names.lookup x=some .free:=hk
    rw[k]at this;cases this
def ipI (f:Int->Int->Int):Je:=λx y H Q=> ∃i j,x= .int i/\y= .int j/\Q (.int (f i j)) H
theorem F8:PIp X .Add (ipI λi j=>i+j):=by
 intro pins s σ H x y v u Q I r1 r2 h;obtain⟨i,j,e1,e2,q⟩:=h;subst e1;subst e2;obtain⟨t,rfl⟩:=r1;obtain⟨t',rfl⟩:=r2;exact iadd_int ⟨.int _,H,I.tok _,⟨_,rfl⟩,q⟩
end
section
variable {X:Cx}{pos:Pos}
def ur (c:TT)(tb:TS):TS:=λD σ H=> ∃W:Nat->St->Hp->Prop,(∃m,W m σ H)/\∀m σ H,W m σ H →
 c σ H λb H1=>if b=true then ∃N:St->Hp->Prop,(∀σ' H',N σ' H'->∃m',m'<m/\W m' σ' H')/\tb { D with nx:=N,ct:=N,bk:=D.nx } σ H1 else D.nx σ H1
theorem zu {c:Expr}{body:List Stmt}{tc:TT}{tb:TS}(hp:PassesOwn (model X.prog X.w) X.A X.env X.xe)(hc:PT X c tc)(hb:PSs X body tb):PS X (.While c body [] pos) (ur tc tb):=by
 intro pins s σ H D I h;obtain⟨W,⟨m0,w0⟩,turn⟩:=h;refine wpAny_While (codeAny_whileLoop (λn s'=> ∃σ' H',Inv X pins σ' H' s'/\W n σ' H') ?_ m0 ⟨σ,H,I,w0⟩)
 rintro n s1 ⟨σ1,H1,I1,w1⟩
 refine SX hp (bX (hc pins s1 σ1 H1 _ I1 (turn n σ1 H1 w1)) λb s2 hh_=> ?_)
 obtain⟨H2,I2,q2⟩:=hh_
 cases b with
 | true=>
  obtain⟨N,hN,q2⟩:=q2;rw[if_pos rfl];refine SX hp (bX (hb pins s2 σ1 H2 _ I2 q2) λf s3 q3=> ?_)
  cases f with
  | next=>
   obtain⟨σ3,H3,I3,n3⟩:=q3;obtain⟨m',hm,w3⟩:=hN σ3 H3 n3
   exact⟨m',hm,σ3,H3,I3,w3⟩
  | cont=>
   obtain⟨σ3,H3,I3,n3⟩:=q3;obtain⟨m',hm,w3⟩:=hN σ3 H3 n3
   exact⟨m',hm,σ3,H3,I3,w3⟩
  | brk=>exact q3
  | ret v=>exact q3
 | false=>
  rw[if_neg KL];exact OH ⟨σ1,H2,I2,q2⟩
end
structure It where
 go:Nat->Hp->Prop
 yld:Nat->Hp->V->Hp->Prop
 stop:Nat->Hp->Prop
def nX (X:Cx)(pins:List (Addr×Obj))(H:Hp)(b:Addr):Prop:=
 H b=none/\b≠X.env.locals/\b∉X.fs/\(b∈X.ex\/X.s₀.heap.objs.size<=b)/\(∀x c,X.env.cells.lookup x=some c->c≠b)/\∀p∈X.pn++pins,p.1≠b
theorem Inv.JE {X:Cx}{pins:List (Addr×Obj)}{σ:St}{H H':Hp}{s:Kb}{b:Addr}(I:Inv X pins σ H s)(hb:s.heap.objs.size<=b)(hn:H' b=none):nX X pins H' b:=by
 refine⟨hn,LC (Kl I.lt hb),I.JZ hb,.inr (KD I.sz hb),λx c e z=> ?_,λp hp z=> ?_⟩
 ·obtain⟨v,q⟩:=I.cell x c e
  exact absurd (Kl q.lt (by rw[z];exact hb)) (KW _)
 ·exact absurd (Kl (Kk (I.pin p hp).1) (by rw[z];exact hb)) (KW _)
structure Bg (P:Kz)(w:Lb)(K:J6)(tg:Expr)(J:It)(fp:List Addr)(it:Addr)(tn:Nat->Heap->Prop):Prop where
 mem:it∈fp
 obj:∀i h,tn i h->∀b∈fp,∃o,h.get? b=some o/\∀v,o.data≠ .cell v
 keep:∀i h h',tn i h->(∀b∈fp,∀o,h.get? b=some o->h'.get? b=some o)->tn i h'
 item:∀(X:Cx),X.prog=P->X.w=w->X.K=K->X.calm=true->∀(i:Nat) (pins:List (Addr×Obj)) (s:Kb) (σ:St) (H:Hp) (E:J8->Kb->Prop),Inv X pins σ H s->(∀b∈fp,nX X pins H b)->tn i s.heap->J.go i H →
  wpAny (model P w) X.A (pyNext (.ref it)) (λr s1=> ∃u,r=some u ∧
   wpAny (model P w) X.A (NL tg (.ref it) u) (λ_ s2=> ∃x H',Inv X pins σ H' s2/\RelV x u/\J.yld i H x H'/\tn (i+1) s2.heap/\∀b∈fp,H' b=none) E s1) E s
 done:∀(X:Cx),X.prog=P->X.w=w->X.K=K->X.calm=true->∀(i:Nat) (pins:List (Addr×Obj)) (s:Kb) (σ:St) (H:Hp) (E:J8->Kb->Prop),Inv X pins σ H s->(∀b∈fp,nX X pins H b)->tn i s.heap->J.stop i H →
  wpAny (model P w) X.A (pyNext (.ref it)) (λr s1=>r=none/\Inv X pins σ H s1) E s
 self:∀(A:KU) (i:Nat) (s:Kb) (Q:J8->Kb->Prop) (E:J8->Kb->Prop),tn i s.heap->Q (.ref it) s->wpAny (model P w) A (pyIter (.ref it)) Q E s
abbrev TI:=St->Hp->(It->Hp->Prop)->Prop
def PIE (X:Cx)(pins:List (Addr×Obj))(σ:St)(tg:Expr)(R:It->Hp->Prop)(itv:J8)(s2:Kb):Prop:=
 ∃(it:Addr) (fp:List Addr) (tn:Nat->Heap->Prop) (J:It) (H':Hp),itv= .ref it/\Inv X pins σ H' s2/\Bg X.prog X.w X.K tg J fp it tn/\tn 0 s2.heap/\(∀b∈fp,nX X pins H' b)/\R J H'
def PI (X:Cx)(tg iter:Expr)(wi:TI):Prop:=
 ∀(pins:List (Addr×Obj)) (s:Kb) (σ:St) (H:Hp) (R:It->Hp->Prop),Inv X pins σ H s->wi σ H R →
  wpAny (model X.prog X.w) X.A (eval iter X.env) (λv s1=>wpAny (model X.prog X.w) X.A (pyIter v) (PIE X pins σ tg R) X.xe s1) X.xe s
theorem AF {M:Model}{A:KU}{E:J8->Kb->Prop}{s:Kb}{tg:Expr}{it:Addr}{u:J8}{o:Obj}{n:String}{vs:Array J8}{Q:Unit->Kb->Prop}(ho:s.heap.get? it=some o)(hc:o.cls= .type n)(hd:o.data= .fields vs)
  (hn:["enumerate","zip","dict_itemiterator","dict_reverseitemiterator","odict_iterator","itertools.zip_longest","itertools.pairwise"].contains n=false) (hQ:Q () s):wpAny M A (NL tg (.ref it) u) Q E s:=by
 unfold NL
 cases tg <;> first
  | exact Kd hQ
  | (cases u <;> first
    | exact Kd hQ
    | (refine J5 (wpAny_load ho ?_)
       rw[hc,hd]
       show wpAny M A (if (["enumerate","zip","dict_itemiterator","dict_reverseitemiterator","odict_iterator","itertools.zip_longest","itertools.pairwise"].contains n&&vs[0]? == some (rawInt _))=true then _ else _) Q E s
       rw[if_neg (by intro h;rw[hn,Bool.false_and]at h;cases h)]
       exact Kd hQ))
def Itl (K:J6)(a:Addr):It:=
 ⟨λi H=> ∃xs x,SqL K H a xs/\xs[i]? =some x,λi H x H'=>H'=H/\∀xs,SqL K H a xs->xs[i]? =some x,λi H=> ∃xs,SqL K H a xs/\xs.length<=i⟩
def Itt (K:J6)(a:Addr):It:=
 ⟨λi H=> ∃xs x,SqT K H a xs/\xs[i]? =some x,λi H x H'=>H'=H/\∀xs,SqT K H a xs->xs[i]? =some x,λi H=> ∃xs,SqT K H a xs/\xs.length<=i⟩
def Itr (lo:Int)(n:Nat):It:=⟨λi _=>i<n,λi H x H'=>H'=H/\x= .int (lo+i),λi _=>n<=i⟩
theorem w9 {P:Kz}{w:Lb}{K:J6}{tg:Expr}(a it:Addr):Bg P w K tg (Itl K a) [it] it (λi h=>h.IsListIter it a i) where
 mem:=by simp
 obj:=λi h st b hb=>by
  have e:b=it:=by simpa using hb
  subst e;obtain⟨o,e,c,d⟩:=st;exact⟨o,e,λv z=>by rw[d]at z;cases z⟩
 keep:=λi h h' st k=>st.at λo e=>k it (by simp) o e
 item:=by
  intro X hP hw hK hc i pins s σ H E I hf st hg;subst hP hw hK;obtain⟨xs,x,hq,hx⟩:=hg;obtain⟨its,rv,p,hz⟩:=I.list hq;obtain⟨u,hu,ru⟩:=rv.get hx;obtain⟨f0,f1,f2,f3,f4,f5⟩:=hf it (by simp)
  refine P9 st p.isList (x:=u) (by simpa using hu) λh' st' sb=> ?_
  have I1:Inv X pins σ H { s with heap:=h' }:=I.turned (t':=s.toks) (λb o hb e=>(sb.2 b hb).trans e) f0 f1 f3 f4 f5
  obtain⟨o,e,c,d⟩:=id st';exact⟨u,rfl,AF (s:={ s with heap:=h' }) e c d (by decide) ⟨x,H,I1,ru,⟨rfl,λys hy=>by rw[I.Ju hy hq];exact hx⟩,st',λb hb=>(hf b hb).1⟩⟩
 done:=by
  intro X hP hw hK hc i pins s σ H E I hf st hg;subst hP hw hK;obtain⟨xs,hq,hx⟩:=hg;obtain⟨its,rv,p,hz⟩:=I.list hq;obtain⟨f0,f1,f2,f3,f4,f5⟩:=hf it (by simp)
  have hl:=rv.length;exact Qs (I.ok.hd hc) st p.isList (by simp;omega) λh' eb=>⟨rfl,I.turned (t':=s.toks) (λb o hb e=>eb b o hb e) f0 f1 f3 f4 f5⟩
 self:=λ_ _ _ _ _ st h=>wpAny_pyIter_listiter st h
theorem uo {P:Kz}{w:Lb}{K:J6}{tg:Expr}(a it:Addr):Bg P w K tg (Itt K a) [it] it (λi h=>h.IsTupleIter it a i) where
 mem:=by simp
 obj:=λi h st b hb=>by
  have e:b=it:=by simpa using hb
  subst e;obtain⟨o,e,c,d⟩:=st;exact⟨o,e,λv z=>by rw[d]at z;cases z⟩
 keep:=λi h h' st k=>st.at λo e=>k it (by simp) o e
 item:=by
  intro X hP hw hK hc i pins s σ H E I hf st hg;subst hP hw hK;obtain⟨xs,x,hq,hx⟩:=hg;obtain⟨its,rv,p,hz⟩:=I.tuple hq;obtain⟨u,hu,ru⟩:=rv.get hx;obtain⟨f0,f1,f2,f3,f4,f5⟩:=hf it (by simp)
  refine wpAny_pyNext_tuple_item st (show s.heap.IsTuple a its.toArray from p) (x:=u) (by simpa using hu) λh' st' sb=> ?_
  have I1:Inv X pins σ H { s with heap:=h' }:=I.turned (t':=s.toks) (λb o hb e=>(sb.2 b hb).trans e) f0 f1 f3 f4 f5
  obtain⟨o,e,c,d⟩:=id st';exact⟨u,rfl,AF (s:={ s with heap:=h' }) e c d (by decide) ⟨x,H,I1,ru,⟨rfl,λys hy=>by rw[I.Js hy hq];exact hx⟩,st',λb hb=>(hf b hb).1⟩⟩
 done:=by
  intro X hP hw hK hc i pins s σ H E I hf st hg;subst hP hw hK;obtain⟨xs,hq,hx⟩:=hg;obtain⟨its,rv,p,hz⟩:=I.tuple hq;obtain⟨f0,f1,f2,f3,f4,f5⟩:=hf it (by simp)
  have hl:=rv.length;exact wpAny_pyNext_tuple_end (I.ok.hd hc) st (show s.heap.IsTuple a its.toArray from p) (by simp;omega) λh' eb=>⟨rfl,I.turned (t':=s.toks) (λb o hb e=>eb b o hb e) f0 f1 f3 f4 f5⟩
 self:=λ_ _ _ _ _ st h=>wpAny_pyIter_tupleiter st h
theorem uq {P:Kz}{w:Lb}{K:J6}{tg:Expr}(it:Addr)(lo:Int)(n:Nat):Bg P w K tg (Itr lo n) [it] it (λi h=>IsRangeIter h it (lo+(i:Nat)*1) ((n:Int) - (i:Nat)) 1) where
 mem:=by simp
 obj:=λi h st b hb=>by
  have e:b=it:=by simpa using hb
  subst e
  exact⟨_,st,λv z=>by
   have z':Data.fields _=Data.cell v:=z;cases z'⟩
 keep:=λi h h' st k=>k it (by simp) _ st
 item:=by
  intro X hP hw hK hc i pins s σ H E I hf st hg;subst hP hw hK;obtain⟨f0,f1,f2,f3,f4,f5⟩:=hf it (by simp)
  have W:=Walks.range (prog:=X.prog) (w:=X.w) (I.ok.hd hc) it lo 1 n;refine W.item i s _ _ hg st λv h' tk hv st' kk=> ?_
  obtain⟨t,rfl⟩:=hv
  have I1:Inv X pins σ H { s with heap:=h',toks:=tk }:=I.turned (λb o hb e=>kk b o (by simpa using hb) e) f0 f1 f3 f4 f5
  refine⟨_,rfl,AF (s:={ s with heap:=h',toks:=tk }) (n:="range_iterator") st' rfl rfl (by decide) ⟨.int (lo+i),H,I1,⟨t,?_⟩,⟨rfl,rfl⟩,st',λb hb=>(hf b hb).1⟩⟩
  rw[Int.mul_one]
 done:=by
  intro X hP hw hK hc i pins s σ H E I hf st hg;subst hP hw hK;obtain⟨f0,f1,f2,f3,f4,f5⟩:=hf it (by simp)
  exact wpAny_pyNext_range_end (I.ok.hd hc) st (by have:n<=i:=hg;omega) λh' eb=>⟨rfl,I.turned (t':=s.toks) (λb o hb e=>eb b o hb e) f0 f1 f3 f4 f5⟩
 self:=λ_ _ _ _ _ st h=>wpAny_pyIter_rangeiter st h
section
variable {X:Cx}{tg:Expr}
def Io (K:J6)(tl:TE):TI:=λσ H R=>tl σ H λx H1=> ∃a,x= .ref a/\(∃xs,SqL K H1 a xs)/\R (Itl K a) H1
def iTup (K:J6)(tl:TE):TI:=λσ H R=>tl σ H λx H1=> ∃a,x= .ref a/\(∃xs,SqT K H1 a xs)/\R (Itt K a) H1
theorem Cw {l:Expr}{tl:TE}(hl:PE X l tl):PI X tg l (Io X.K tl):=by
 intro pins s σ H R I h;refine bX (hl pins s σ H _ I h) λv s1 hh_=> ?_
 obtain⟨x,H1,I1,r1,q1⟩:=hh_;obtain⟨a,e,⟨xs,hq⟩,q⟩:=q1;subst e;cases r1;obtain⟨its,rv,p,hz⟩:=I1.list hq;refine NZ p.isList ?_
 refine⟨s1.heap.objs.size,[s1.heap.objs.size],_,_,H1,rfl,I1.kept (t':=s1.toks) λb o e=>Kc _ e,w9 a _,⟨_,Kn _ rfl,rfl,rfl⟩,λb hb=> ?_,q⟩
 have e:b=s1.heap.objs.size:=by simpa using hb
 subst e;exact I1.JE (Ki _) (I1.hok.fresh (Ki _))
theorem Fi {l:Expr}{tl:TE}(hl:PE X l tl):PI X tg l (iTup X.K tl):=by
 intro pins s σ H R I h;refine bX (hl pins s σ H _ I h) λv s1 hh_=> ?_
 obtain⟨x,H1,I1,r1,q1⟩:=hh_;obtain⟨a,e,⟨xs,hq⟩,q⟩:=q1;subst e;cases r1;obtain⟨its,rv,p,hz⟩:=I1.tuple hq;refine M0 (show s1.heap.IsTuple a its.toArray from p) ?_
 refine⟨s1.heap.objs.size,[s1.heap.objs.size],_,_,H1,rfl,I1.kept (t':=s1.toks) λb o e=>Kc _ e,uo a _,⟨_,Kn _ rfl,rfl,rfl⟩,λb hb=> ?_,q⟩
 have e:b=s1.heap.objs.size:=by simpa using hb
 subst e;exact I1.JE (Ki _) (I1.hok.fresh (Ki _))
theorem jV {pins:List (Addr×Obj)}{σ:St}{H:Hp}{s:Kb}{R:It->Hp->Prop}{E:J8->Kb->Prop}{lo hi:Int}{t u v:Tok}{tk:Nat}(I:Inv X pins σ H s)(h1 : -(2 ^ 62)<=lo)(h2:lo<2 ^ 62)(h3 : -(2 ^ 62)<=hi)(h4:hi<2 ^ 62)
  (q:R (Itr lo (hi - lo).toNat) H):wpAny (model X.prog X.w) X.A (pyIter (.ref s.heap.objs.size)) (PIE X pins σ tg R) E { s with heap:=s.heap.push { cls:=.type "range",data:=.fields #[.int lo t,.int hi u,.int 1 v] },toks:=tk }:=by
 refine wpAny_pyIter_range (IsRange.new ..) (small_one h1 h2 h3 h4) ?_
 have I1:Inv X pins σ H { s with heap:=s.heap.push { cls:=.type "range",data:=.fields #[.int lo t,.int hi u,.int 1 v] },toks:=tk }:=I.kept λb o e=>Kc _ e
 refine⟨(s.heap.push { cls:=.type "range",data:=.fields #[.int lo t,.int hi u,.int 1 v] }).objs.size,[(s.heap.push { cls:=.type "range",data:=.fields #[.int lo t,.int hi u,.int 1 v] }).objs.size],_,_,H,rfl,
  I1.kept (t':=tk) λb o e=>Kc _ e,uq _ lo (hi - lo).toNat,?_,λb hb=> ?_,q⟩
 ·have e1:lo+((0:Nat):Int)*1=lo:=by simp
  have e2:(((hi - lo).toNat:Nat):Int) - ((0:Nat):Int)=Builtin.Range.rangeSize lo hi 1:=by rw[rangeSize_one];split <;> omega
  show IsRangeIter _ _ (lo+((0:Nat):Int)*1) ((((hi - lo).toNat:Nat):Int) - ((0:Nat):Int)) 1
  rw[e1,e2];exact Kn _ rfl
 ·have e:b=(s.heap.push { cls:=.type "range",data:=.fields #[.int lo t,.int hi u,.int 1 v] }).objs.size:=by simpa using hb
  subst e;exact I1.JE (Ki _) (I1.hok.fresh (Ki _))
def tFor (wi:TI)(g:TG)(tb:TS):TS:=λD σ H=>wi σ H λJ H1=> ∃W:Nat->Nat->St->Hp->Prop,(∃m,W 0 m σ H1)/\∀i m σ H,W i m σ H →
 (J.stop i H/\D.nx σ H)\/(J.go i H/\∃N:St->Hp->Prop,(∀σ' H',N σ' H'->∃m',m'<m/\W (i+1) m' σ' H')/\∀x H',J.yld i H x H'->g x σ H' λσ2 H2=>tb { D with nx:=N,ct:=N,bk:=D.nx } σ2 H2)
def mn (fp:List Addr)(h:Heap):List (Addr×Obj):=fp.filterMap λb=>(h.get? b).map λo=>(b,o)
theorem gz {fp:List Addr}{h:Heap}{b:Addr}{o:Obj}(hb:b∈fp)(e:h.get? b=some o):(b,o)∈mn fp h:=OS.mpr ⟨b,hb,by rw[e];rfl⟩
theorem xK {fp:List Addr}{h:Heap}{p:Addr×Obj}(hp:p∈mn fp h):p.1∈fp/\h.get? p.1=some p.2:=by
 obtain⟨b,hb,e⟩:=OS.mp hp
 cases q:h.get? b with
 | none=>rw[q]at e;cases e
 | some o=>
  rw[q]at e
  have e':(b,o)=p:=KO e;subst e';exact⟨hb,q⟩
theorem Inv.pinned {pins:List (Addr×Obj)}{σ:St}{H:Hp}{s:Kb}{fp:List Addr}(I:Inv X pins σ H s)(hf:∀b∈fp,nX X pins H b)(ho:∀b∈fp,∃o,s.heap.get? b=some o/\∀v,o.data≠ .cell v):Inv X (pins++mn fp s.heap) σ H s:=
 I.JB λp hp=>(Ls.mp hp).elim (λz=>I.pin p (KZ _ z)) λz=>by
  obtain⟨hb,e⟩:=xK z;obtain⟨f0,f1,f2,_⟩:=hf p.1 hb;obtain⟨o,e',d⟩:=ho p.1 hb;rw[e]at e';cases e';exact⟨e,f0,f1,f2,d⟩
theorem Inv.Jq {pins pl:List (Addr×Obj)}{σ:St}{H:Hp}{s:Kb}(I:Inv X (pins++pl) σ H s):Inv X pins σ H s:=I.JB λp hp=>I.pin p (KZ _ (On _ hp))
end
abbrev R2:=V->V->Hp->VK->Prop
def pQ (X:Cx)(f:J8->J8->Sem J8)(r:R2):Prop:=
 ∀(pins:List (Addr×Obj)) (s:Kb) (σ:St) (H:Hp) (x y:V) (v u:J8) (Q:VK),Inv X pins σ H s->RelV x v->RelV y u->r x y H Q →
  wpAny (model X.prog X.w) X.A (f v u) (EP X pins σ Q) X.xe s
def UnR (X:Cx)(f:J8->Sem J8)(r:V->Hp->VK->Prop):Prop:=
 ∀(pins:List (Addr×Obj)) (s:Kb) (σ:St) (H:Hp) (x:V) (v:J8) (Q:VK),Inv X pins σ H s->RelV x v->r x H Q →
  wpAny (model X.prog X.w) X.A (f v) (EP X pins σ Q) X.xe s
def CallR (X:Cx)(f:J8)(r:List V->Hp->VK->Prop):Prop:=
 ∀(pins:List (Addr×Obj)) (s:Kb) (σ:St) (H:Hp) (xs:List V) (us:List J8) (Q:VK),Inv X pins σ H s->Vals xs us->r xs H Q →
  wpAny (model X.prog X.w) X.A (call f us) (EP X pins σ Q) X.xe s
def tUn (r:V->Hp->VK->Prop)(ta:TE):TE:=λσ H Q=>ta σ H λx H1=>r x H1 Q
def rI (C:Int->Int->Prop)(g:Int->Int->V):R2:=λx y H Q=> ∃i j,x= .int i/\y= .int j/\C i j/\Q (g i j) H
def DJ (g:Int->Int->V):R2:=λx y H Q=> ∃i j,x= .int i/\y= .int j/\Q (g i j) H
def rU (g:Int->V):V->Hp->VK->Prop:=λx H Q=> ∃i,x= .int i/\Q (g i) H
section
variable {X:Cx}{a b c:Expr}{ta tb tc:TE}{pos:Pos}
theorem DO {op:UnaryOp}{r:V->Hp->VK->Prop}(ho:UnR X (unaryOp op) r)(ha:PE X a ta):PE X (.UnaryOp op a pos) (tUn r ta):=by
 intro pins s σ H Q I h;exact UnaryOp_ (bX (ha pins s σ H _ I h) λv s1 ⟨x,H1,I1,r1,q1⟩=>ho pins s1 σ H1 x v Q I1 r1 q1)
theorem opI {f:J8->J8->Sem J8}{C:Int->Int->Prop}{g:Int->Int->Int}
  (rule:∀(i j:Int) (t u:Tok) (s:Kb) (Q:J8->Kb->Prop) (E:J8->Kb->Prop),C i j->Q (.int (g i j) s.toks) { s with toks:=s.toks+1 }->wpAny (model X.prog X.w) X.A (f (.int i t) (.int j u)) Q E s) :
  pQ X f (rI C λi j=> .int (g i j)):=by
 intro pins s σ H x y v u Q I rx ry h;obtain⟨i,j,rfl,rfl,hc,q⟩:=h;obtain⟨t,rfl⟩:=rx;obtain⟨t',rfl⟩:=ry;exact rule i j t t' s _ _ hc ⟨.int (g i j),H,I.tok _,⟨_,rfl⟩,q⟩
theorem HK {f:J8->J8->Sem J8}{g:Int->Int->Int}
  (rule:∀(i j:Int) (t u:Tok) (s:Kb) (Q:J8->Kb->Prop) (E:J8->Kb->Prop),Q (.int (g i j) s.toks) { s with toks:=s.toks+1 }->wpAny (model X.prog X.w) X.A (f (.int i t) (.int j u)) Q E s) :
  pQ X f (DJ λi j=> .int (g i j)):=by
 intro pins s σ H x y v u Q I rx ry h;obtain⟨i,j,rfl,rfl,q⟩:=h;obtain⟨t,rfl⟩:=rx;obtain⟨t',rfl⟩:=ry;exact rule i j t t' s _ _ ⟨.int (g i j),H,I.tok _,⟨_,rfl⟩,q⟩
theorem FD {f:J8->J8->Sem J8}{g:Int->Int->Bool}
  (rule:∀(i j:Int) (t u:Tok) (s:Kb) (Q:J8->Kb->Prop) (E:J8->Kb->Prop),Q (.bool (g i j)) s->wpAny (model X.prog X.w) X.A (f (.int i t) (.int j u)) Q E s) :
  pQ X f (DJ λi j=> .bl (g i j)):=by
 intro pins s σ H x y v u Q I rx ry h;obtain⟨i,j,rfl,rfl,q⟩:=h;obtain⟨t,rfl⟩:=rx;obtain⟨t',rfl⟩:=ry;exact rule i j t t' s _ _ ⟨.bl (g i j),H,I,rfl,q⟩
def CDiv (i j:Int):Prop:=0<j/\j<1073741824
def CMul (i j:Int):Prop:=(-(2 ^ 64)<i/\i<2 ^ 64)\/(-(2 ^ 64)<j/\j<2 ^ 64)
theorem CMul.ok {i j:Int}(h:CMul i j):IntMulOk i j:=by
 rcases h with⟨h1,h2⟩ | ⟨h1,h2⟩
 ·exact .of_left (intBits_le_64 h1 h2)
 ·exact .of_right (intBits_le_64 h1 h2)
theorem FC:pQ X (L6 .Add) (DJ λi j=> .int (i+j)):=HK λ_ _ _ _ _ _ _ q=>add_int q
theorem Fv:pQ X (L6 .Sub) (DJ λi j=> .int (i - j)):=HK λ_ _ _ _ _ _ _ q=>sub_int q
theorem Fx:pQ X (L6 .Mult) (rI CMul λi j=> .int (i*j)):=opI λ_ _ _ _ _ _ _ hc q=>mul_int q hc.ok
theorem CJ:pQ X (L6 .FloorDiv) (rI CDiv λi j=> .int (i / j)):=opI λi j _ _ _ _ _ hc q=>by
 have h1:(0:Int)<j:=hc.1
 have h2:j<1073741824:=hc.2;exact floordiv_int (by omega) (by rw[Int.fdiv_eq_ediv_of_nonneg i (by omega)];exact q) (.inl (PyProof.noPylong_small (by omega)))
theorem Fy:pQ X (L6 .Mod) (rI (λ_ j=>0<j) λi j=> .int (i % j)):=opI λi j _ _ _ _ _ hc q=>by
 have h1:(0:Int)<j:=hc;exact mod_int' (by omega) (by rw[Int.fmod_eq_emod_of_nonneg i (by omega)];exact q)
theorem unI {f:J8->Sem J8}{g:Int->Int}
  (rule:∀(i:Int) (t:Tok) (s:Kb) (Q:J8->Kb->Prop) (E:J8->Kb->Prop),Q (.int (g i) s.toks) { s with toks:=s.toks+1 }->wpAny (model X.prog X.w) X.A (f (.int i t)) Q E s) :
  UnR X f (rU λi=> .int (g i)):=by
 intro pins s σ H x v Q I rx h;obtain⟨i,rfl,q⟩:=h;obtain⟨t,rfl⟩:=rx;exact rule i t s _ _ ⟨.int (g i),H,I.tok _,⟨_,rfl⟩,q⟩
theorem yO:UnR X (unaryOp .USub) (rU λi=> .int (-i)):=unI λ_ _ _ _ _ q=>neg_int q
end
section
variable {X:Cx}{a b c:Expr}{ta tb tc:TE}{pos:Pos}
theorem AN {pins:List (Addr×Obj)}{σ:St}{H:Hp}{s:Kb}{Q:VK}{k k':Bool}(I:Inv X pins σ H s)(q:Q (.bl k) H)(e:k=k'):EP X pins σ Q (.bool k') s:=by
 subst e;exact⟨.bl k,H,I,rfl,q⟩
theorem HH:pQ X (Lr .Lt) (DJ λi j=> .bl (decide (i<j))):=FD λ_ _ _ _ _ _ _ q=>lt_int q
theorem HI:pQ X (Lr .LtE) (DJ λi j=> .bl (decide (i<=j))):=FD λ_ _ _ _ _ _ _ q=>le_int q
theorem HJ:pQ X (Lr .Gt) (DJ λi j=> .bl (decide (j<i))):=FD λ_ _ _ _ _ _ _ q=>gt_int q
theorem Fz:pQ X (Lr .Is) (λx y H Q=>y= .non/\Q (.bl (decide (x= .non))) H):=by
 intro pins s σ H x y v u Q I rx ry h;obtain⟨rfl,q⟩:=h;cases ry;refine is_none_gen (AN I q ?_)
 cases x <;> first
  | (cases rx;rfl)
  | (obtain⟨t,rfl⟩:=rx;rfl)
theorem CI:pQ X (Lr .IsNot) (λx y H Q=>y= .non/\Q (.bl (!decide (x= .non))) H):=by
 intro pins s σ H x y v u Q I rx ry h;obtain⟨rfl,q⟩:=h;cases ry;refine isnot_none_gen (AN I q ?_)
 cases x <;> first
  | (cases rx;rfl)
  | (obtain⟨t,rfl⟩:=rx;rfl)
theorem m6:(sizeLine:Nat)<2 ^ 63:=by rw[K7];decide
theorem uN:pQ X (L6 .Add) (λx y H Q=> ∃i j,x= .str i/\y= .str j/\i.length+j.length<=sizeLine/\Q (.str (i++j)) H):=by
 intro pins s σ H x y v u Q I rx ry h;obtain⟨i,j,rfl,rfl,hz,q⟩:=h;obtain⟨t,rfl⟩:=rx;obtain⟨t',rfl⟩:=ry;exact add_str (λt' tk=>⟨.str (i++j),H,I.tok _,⟨_,rfl⟩,q⟩) hz
theorem kQ {x:V}{us:List J8}(r:Vals [x] us):∃u,us= [u]/\RelV x u:=by
 cases r with
 | cons r1 r2=>cases r2;exact⟨_,rfl,r1⟩
theorem DD {x y:V}{us:List J8}(r:Vals [x,y] us):∃u w',us= [u,w']/\RelV x u/\RelV y w':=by
 cases r with
 | cons r1 r2=>
  cases r2 with
  | cons r3 r4=>cases r4;exact⟨_,_,rfl,r1,r3⟩
theorem yu (hc:X.calm=true):CallR X (.builtin "max") (λxs H Q=> ∃i j,xs= [.int i,.int j]/\Q (.int (if j > i then j else i)) H):=by
 intro pins s σ H xs us Q I r h;obtain⟨i,j,rfl,q⟩:=h;obtain⟨u,w',rfl,⟨t,rfl⟩,⟨t',rfl⟩⟩:=DD r;refine max_two_ints (I.ok.hd hc) λh' tk k=>⟨_,H,I.kept k,?_,q⟩
 by_cases hj:j > i
 ·rw[if_pos hj,if_pos hj];exact⟨_,rfl⟩
 ·rw[if_neg hj,if_neg hj];exact⟨_,rfl⟩
end
structure ObjM (h:Heap)(x dx C:Addr)(mA:Str->Option J8):Prop where
 obj:h.get? x=some (Qc C dx)
 ns:h.Ns1 dx mA
 ne:dx≠x
theorem xR {h:Heap}{dx:Addr}{mA:Str->Option J8}(n:h.Ns1 dx mA):∃od,h.get? dx=some od/\∀name,QN name od=some (mA name):=by
 obtain⟨o,es,ep,ho,hd,hk,_,hm⟩:=n;refine⟨o,ho,λname=> ?_⟩
 have e:=hm name;unfold nsFind findBy at e;rw[<-Rg]at e
 unfold QN;rw[hd]
 dsimp only
 split
 ·rename_i y q
  rw[q]at e;exact congrArg some e
 ·rename_i q
  rw[q]at e
  have a:es.toList.any (·.refKey)=false:=by
   rw[List.any_eq_false];intro y hy;obtain⟨z,t,hkey⟩:=hk y (Array.mem_toList_iff.mp hy);simp[DictEntry.refKey,hkey]
  have a':¬ es.toList.any (·.refKey)=true:=by rw[a];exact KL
  rw[if_neg a'];exact congrArg some e
theorem ObjM.look {h:Heap}{x dx C:Addr}{mA:Str->Option J8}(I:ObjM h x dx C mA):∃od,PySem.W.InstAt h x (Qc C dx) C (some od)/\∀name,QN name od=some (mA name):=
 let ⟨od,ho,hl⟩:=xR I.ns
 ⟨od,⟨I.obj,rfl,rfl,ho⟩,hl⟩
theorem RelO.some_of {v:V}{o:Option J8}(r:RelO (some v) o):∃u,o=some u/\RelV v u:=by
 cases o with
 | none=>exact(show False from r).elim
 | some u=>exact⟨u,rfl,r⟩
section
variable {P:Kz}{w:Lb}{H H':Hp}{h h':Heap}{a C dx:Addr}{fs fs':List (Str×V)}
theorem C8 (hok:HOk P w H h)(e:H a=some (.ins C dx fs)):∃mA,ObjM h a dx C mA/\(∀f,RelO (fs.lookup f) (mA f))/\PySem.Within mA (fs.map (·.1))/\fs.length<=1000/\H dx=some (.own a):=by
 obtain⟨d,z,ne,ob,mA,n,r,q⟩:=(show ObjOk P w H h a (.ins C dx fs)from hok a _ e)
 exact⟨mA,⟨ob,n,ne⟩,r,q,z,d⟩
end
structure Cls (K:J6)(C:Addr):Prop where
 pg:Sk K C Str.empty=true
 hd:PySem.W.hasDictIn K C=true
 po:PySem.W.plainOver K C=true
 sa:PySem.W.findIn K (.ref C) "__setattr__" =some (some (.builtin "object.__setattr__"))
theorem Cls.get {K:J6}{C:Addr}(c:Cls K C)(f:Str):Sk K C f=true:=c.pg
section
variable {X:Cx}{pins:List (Addr×Obj)}{σ:St}{H:Hp}{s:Kb}{A:KU}{E:J8->Kb->Prop}{Q:J8->Kb->Prop}{c:J8}{b:Bool}
inductive kO (K:J6) (H:Hp):V->J8->Prop where
 | non:kO K H .non (.type "NoneType")
 | bl (x:Bool):kO K H (.bl x) (.type "bool")
 | int (i:Int):kO K H (.int i) (.type "int")
 | str (x:Str):kO K H (.str x) (.type "str")
 | flt (x:UInt64):kO K H (.flt x) (.type "float")
 | lst {a:Addr} {xs:List V} (e:H a=some (.lst xs)):kO K H (.ref a) (.type "list")
 | frz {a:Addr} {o:Obj} {xs:List V} (e:H a=some (.frz o (.lst xs))):kO K H (.ref a) (.type "list")
 | tup {a:Addr} {xs:List V} (e:H a=some (.tup xs)):kO K H (.ref a) (.type "tuple")
 | dK {a:Addr} {kvs:List (Key×V)} (e:H a=some (.dK kvs)):kO K H (.ref a) (.type "dict")
 | dT {a:Addr} {kvs:List (List Key×V)} (e:H a=some (.dT kvs)):kO K H (.ref a) (.type "dict")
 | ins {a C dx:Addr} {fs:List (Str×V)} (e:H a=some (.ins C dx fs)) (cl:Cls K C) (ha:PySem.W.findIn K (.ref C) "__class__" =some (some (.builtin "object.__class__")))
   (hn:PySem.W.specialIn K (.builtin "object.__class__") "__get__" =some (some (.builtin "getset_descriptor.__get__"))) (htk:PySem.W.takesIn K (.builtin "object.__class__")=some true)
   (hm:PySem.W.mroIn K C (.type "object")=some true):kO K H (.ref a) (.ref C)
theorem xY {x:V}{u t:J8}(I:Inv X pins σ H s)(rx:RelV x u)(ty:kO X.K H x t)(e:PySem.W.kitOne X.K t c=some b)(h:∀tk,Q (.bool b) { s with toks:=tk }) :
  wpAny (model X.prog X.w) A (call (.builtin "isinstance") [u,c]) Q E s:=by
 cases ty with
 | non=>cases (show u=K6 from rx);exact LD PySem.W.kitx_none I.kIn Nb e (λz=>nomatch z) h
 | bl y=>cases (show u=Lw y from rx);exact LD PySem.W.kitx_bool I.kIn Nb e (λz=>nomatch z) h
 | int i=>obtain⟨t,q⟩:=(show ∃t,u=Lj i t from rx);cases q;exact LD PySem.W.kitx_int I.kIn Nb e (λz=>nomatch z) h
 | str y=>obtain⟨t,q⟩:=(show ∃t,u=L3 y t from rx);cases q;exact LD PySem.W.kitx_str I.kIn Nb e (λz=>nomatch z) h
 | flt y=>obtain⟨t,q⟩:=(show ∃t,u=Value.float y t from rx);cases q;exact LD PySem.W.kitx_float I.kIn Nb e (λz=>nomatch z) h
 | @lst a xs ea=>
  cases (show u=KY a from rx)
  obtain⟨_,_,n,_,h1⟩:=(show ObjOk X.prog X.w H s.heap a (.lst xs)from I.hok a _ ea)
  exact LD RF I.kIn ⟨_,h1,rfl⟩ e (λz=>nomatch z) h
 | @frz a ob xs ea=>
  cases (show u=KY a from rx)
  obtain⟨_,_,_,n,_,h1⟩:=(show ObjOk X.prog X.w H s.heap a (.frz ob (.lst xs))from I.hok a _ ea)
  exact LD RF I.kIn ⟨_,h1,rfl⟩ e (λz=>nomatch z) h
 | @tup a xs ea=>
  cases (show u=KY a from rx)
  obtain⟨_,_,_,p⟩:=(show ObjOk X.prog X.w H s.heap a (.tup xs)from I.hok a _ ea)
  obtain⟨o,h1,h2,_⟩:=p
  exact LD PySem.W.kitx_tuple I.kIn ⟨o,h1,h2⟩ e (λz=>nomatch z) h
 | @dK a kvs ea=>
  cases (show u=KY a from rx)
  obtain⟨_,_,vs,_,p⟩:=(show ObjOk X.prog X.w H s.heap a (.dK kvs)from I.hok a _ ea)
  obtain⟨o,es,ep,h1,h2,_⟩:=p
  exact LD RG I.kIn ⟨o,h1,h2.1⟩ e (λz=>nomatch z) h
 | @dT a kvs ea=>
  cases (show u=KY a from rx)
  obtain⟨_,_,xs,_,o,es,ep,h1,h2,_⟩:=(show ObjOk X.prog X.w H s.heap a (.dT kvs)from I.hok a _ ea)
  exact LD RG I.kIn ⟨o,h1,h2.1⟩ e (λz=>nomatch z) h
 | @ins a C dx fs ea cl ha hn htk hm=>
  cases (show u=KY a from rx)
  obtain⟨mA,O,_⟩:=C8 I.hok ea;obtain⟨od,J,_⟩:=O.look;exact LD (PySem.W.kitx_own (cl.get _) cl.hd ha hn htk hm) I.kIn J e (λz=>nomatch z) h
end
structure Room (k:Nat)(A:KU):Prop where
 hd:A.handled=none
 dp:A.depth+3*k+5<recursionLimit
 un:A.units+16*k+200<cLine
theorem Room.mono {j k:Nat}{A:KU}(r:Room k A)(h:j<=k):Room j A:=⟨r.hd,by have:=r.dp;omega,by have:=r.un;omega⟩
theorem Room.deeper {k:Nat}{A:KU}(r:Room (k+1) A)(env:Env):Room k (A.deeper env):=
 ⟨r.hd,by have:=r.dp;show A.depth+1+3*k+5<_;omega,by have:=r.un;show A.units+3+16*k+200<_;omega⟩
theorem Room.in1 {k:Nat}{A:KU}(r:Room (k+1) A):Room k A.in1:=
 ⟨r.hd,by have:=r.dp;show A.depth+3*k+5<_;omega,by have:=r.un;show A.units+1+16*k+200<_;omega⟩
theorem Room.depth {k:Nat}{A:KU}(r:Room k A):A.depth<recursionLimit:=by have:=r.dp;omega
def GY:TA:=λ_ H Q=>Q [] H
def yV (ta:TE)(tr:TA):TA:=λσ H Q=>ta σ H λx H1=>tr σ H1 λxs H2=>Q (x::xs) H2
section
variable {X:Cx}{e:Expr}{es:List Expr}{te:TE}{t:TA}{pos:Pos}
theorem mx:PA X [] GY:=λ_ _ _ _ H Q I h=>Me ⟨[],H,I,.nil,h⟩
theorem iO (ha:PE X e te)(hr:PA X es t)(hs:Kx (e::es) X.env=(false,eval e X.env)::Kx es X.env:=by rfl):PA X (e::es) (yV te t):=by
 intro pos pins s σ H Q I h;rw[hs]
 show wpAny _ _ (spliced ((false,eval e X.env)::backTo pos (Kx es X.env))) _ _ s
 refine Ms (bX (ha pins s σ H _ I h) λu s1 hh_=> ?_)
 obtain⟨x,H1,I1,r1,q1⟩:=hh_;exact bX (hr pos pins s1 σ H1 _ I1 q1) λus s2 ⟨xs,H2,I2,r2,q2⟩=>⟨x::xs,H2,I2,.cons r1 r2,q2⟩
def tTup (t:TA):TE:=λσ H Q=>t σ H λxs H1=>xs.length<=sizeLine/\∀p,H1 p=none->Q (.ref p) (upd H1 p (.tup xs))
def tLst (t:TA):TE:=λσ H Q=>t σ H λxs H1=>xs.length<=sizeLine/\∀p,H1 p=none->Q (.ref p) (upd H1 p (.lst xs))
theorem Fm {x1}(h:PA X es t):PE X (.Tuple es x1 pos) (tTup t):=by
 intro pins s σ H Q I hq;refine wpAny_Tuple_spliced (bX (h pos pins s σ H _ I hq) λus s1 ⟨xs,H1,I1,r,z,q⟩=>⟨by rw[<-r.length];exact z,?_⟩)
 have hf:H1 s1.heap.objs.size=none:=I1.hok.fresh (Ki _);refine⟨.ref s1.heap.objs.size,upd H1 s1.heap.objs.size (.tup xs),I1.laid (t':=s1.toks) (λb u e=>Kc _ e) (Ki _) ?_,rfl,q _ hf⟩
 exact⟨z,us,r,⟨_,Kn _ rfl,rfl,_,rfl⟩⟩
theorem Fs (h:PA X es t):PE X (.List es pos) (tLst t):=by
 intro pins s σ H Q I hq;refine Ry (bX (h pos pins s σ H _ I hq) λus s1 ⟨xs,H1,I1,r,z,q⟩=>⟨by rw[<-r.length];exact z,?_⟩)
 have hf:H1 s1.heap.objs.size=none:=I1.hok.fresh (Ki _);refine⟨.ref s1.heap.objs.size,upd H1 s1.heap.objs.size (.lst xs),I1.laid (t':=s1.toks) (λb u e=>Kc _ e) (Ki _) ?_,rfl,q _ hf⟩
 exact⟨z,us,0,r,Kn _ rfl⟩
end
abbrev Sp:=List V->Hp->VK->XK->Prop
abbrev yE:=List Env->Hp->Kb->XK->J8->Kb->Prop
structure Env0 (P:Kz)(w:Lb)(K:J6)(mg:Str->Option J8)(base:Heap)(A:KU)(outer:List Env)(s:Kb)(H:Hp):Prop where
 frames:A.frames=some outer
 mod:Mod K mg base
 bs:∀b o,base.get? b=some o->s.heap.get? b=some o/\H b=none
 bsz:base.objs.size<=s.heap.objs.size
 funs:s.heap.FunFrames base outer
 frf:∀b∈jE outer,H b=none
 hok:HOk P w H s.heap
 bare:MJ s.gens
 tb:Tb K mg H
def CE (outer:List Env)(P:Kz)(w:Lb)(H:Hp)(s:Kb)(Q:VK)(u:J8)(s':Kb):Prop:=
 ∃v H',s'.os=s.os/\MJ s'.gens/\Un (jE outer) [] H H' s.heap s'.heap/\HOk P w H' s'.heap/\RelV v u/\Q v H'
def CR (CX:yE)(outer:List Env)(P:Kz)(w:Lb)(H:Hp)(s:Kb)(Q:VK)(E:XK)(r:Result)(s':Kb):Prop:=
 match r with
 | .ok (.ret u)=>CE outer P w H s Q u s'
 | .ok _=>False
 | .error e=>CX outer H s E e s'
structure rG (P:Kz)(w:Lb)(K:J6)(mg:Str->Option J8)(base:Heap)(CX:yE)(k:Nat)(f:Addr)(fd:L7)(ps:List Str)(sp:Sp):Prop where
 len:∀vs H Q E,sp vs H Q E->vs.length=ps.length
 run:∀(A:KU) (outer:List Env) (s:Kb) (H:Hp) (args:Args) (us:List J8) (vs:List V) (Q:VK) (E:XK),Room k A->Env0 P w K mg base A outer s H->RY s fd args (ps.zip us)->Vals vs us->sp vs H Q E →
  codeAny (model P w) A (.call (.ref f) args) (CR CX outer P w H s Q E) s
theorem Env0.in1 {P:Kz}{w:Lb}{K:J6}{mg:Str->Option J8}{base:Heap}{A:KU}{outer:List Env}{s:Kb}{H:Hp}(e:Env0 P w K mg base A outer s H) :
  Env0 P w K mg base A.in1 outer s H:=⟨e.frames,e.mod,e.bs,e.bsz,e.funs,e.frf,e.hok,e.bare,e.tb⟩
section
variable {X:Cx}{pins:List (Addr×Obj)}{σ:St}{H:Hp}{s s':Kb}
theorem Inv.JP (I:Inv X pins σ H s):Env0 X.prog X.w X.K X.mg X.base X.A X.stack s H:=
 ⟨I.ok.frames,I.ok.mod,I.bs,KD I.ok.bsz I.sz,I.stack,I.IR,I.hok,I.bare,I.tb⟩
theorem Inv.after {Q:VK}{u:J8}(I:Inv X pins σ H s)(h:CE X.stack X.prog X.w H s Q u s'):EP X pins σ Q u s':=by
 obtain⟨v,H',os,bare,un,hok,r,q⟩:=h;obtain⟨hh,g,d,t,os'⟩:=s';obtain rfl:os'=s.os:=os;exact⟨v,H',I.call (h':=hh) (g':=g) (d':=d) (t':=t) (ch:=[]) un hok bare (λb z=>absurd z (by simp)),r,q⟩
end
def G5 (sp:Sp)(dvs:List V)(E:XK)(t:TA):TE:=λσ H Q=>t σ H λvs H1=>sp (vs++dvs) H1 Q E
def Binds (K:J6)(fd:L7)(ps:List Str)(ds:List J8):Prop:=
 ∀(s:Kb) (us:List J8),K.In s.heap->(us++ds).length=ps.length->RY s fd ⟨us,[]⟩ (ps.zip (us++ds))
theorem Binds.all {K:J6}{fd:L7}{ps:List Str}(h:∀us:List J8,us.length=ps.length->SF fd ⟨us,[]⟩=pure (ps.zip us)):Binds K fd ps []:=λs us _ hl=>by
 rw[LJ]at hl ⊢;exact .of_eq (h us hl)
def vj (CX:yE)(X:Cx)(E:XK):Prop:=∀(pins:List (Addr×Obj)) (σ:St) (H:Hp) (s:Kb) (e:J8) (s':Kb),Inv X pins σ H s->CX X.stack H s E e s'->X.xe e s'
section
variable {X:Cx}{CX:yE}{k:Nat}{f C:Addr}{fd:L7}{ps:List Str}{sp:Sp}{dvs:List V}{ds:List J8}{E:XK}{x m:Str}{p pos apos:Pos}{e o:Expr}{es:List Expr}{ta:TE}{t:TA}
theorem EB {pins:List (Addr×Obj)}{σ:St}{H:Hp}{s:Kb}{Q:VK}{us:List J8}{vs:List V}(F:rG X.prog X.w X.K X.mg X.base CX k f fd ps sp)(hr:Room k X.A)(hb:Binds X.K fd ps ds)(hd:Vals dvs ds)(hx:vj CX X E)
  (I:Inv X pins σ H s) (r:Vals vs us) (h:sp (vs++dvs) H Q E):wpAny (model X.prog X.w) X.A (call (.ref f) us) (EP X pins σ Q) X.xe s:=by
 have r2:Vals (vs++dvs) (us++ds):=r.append hd
 have hl:(us++ds).length=ps.length:=by rw[<-r2.length];exact F.len _ _ _ _ h
 refine RZ (ND (F.run X.A X.stack s H ⟨us,[]⟩ (us++ds) (vs++dvs) Q E hr I.JP (hb s us I.kIn hl) r2 h) λr s' hq=> ?_)
 cases r with
 | error e=>exact hx pins σ H s e s' I hq
 | ok fl=>
  cases fl with
  | ret u=>exact I.after hq
  | next=>exact Md hq
  | brk=>exact Md hq
  | cont=>exact Md hq
theorem vU (F:rG X.prog X.w X.K X.mg X.base CX k f fd ps sp)(hr:Room k X.A)(hg:Gl X x)(hm:X.mg x=some (.ref f))(hk:N1 X.K (.ref f)=true)(hb:Binds X.K fd ps ds)(hd:Vals dvs ds)(hx:vj CX X E)
  (ha:PA X (e::es) t) (hdb:jj x:=by decide) (he:Kx (e::es) X.env=(false,eval e X.env)::Kx es X.env:=by rfl) (hpl:(backTo pos (Kx es X.env)).any (·.1)=false:=by rfl) :
  PE X (.Call (.Name x p) (e::es) [] pos) (G5 sp dvs E t):=by
 intro pins s σ H Q I h;refine Le (lL I hg hm ?_ hdb)
 refine Ra (h₀:=X.base) I.ok.mod.kin hk (bX (ha pos pins s σ H _ I h) λus s1 ⟨vs,H1,I1,r,q⟩=>⟨I1.kIn,?_⟩) he hpl
 exact EB F hr hb hd hx I1 r q
end
structure ax (N P:List Str)(sc:NN):Prop where
 kind:sc.kind= .function
 co:sc.isCoroutine=false
 gen:sc.isGenerator=false
 nd:N.Nodup
 pre:N.take P.length=P
 par:∀x∈P,sc.names.lookup x=some .local\/sc.names.lookup x=some .cell
 nofree:∀y∈sc.names,y.2≠ .free
theorem pH {kindOf:Str->Option Nc}{x:Str}:∀{binds:List (Str×J8)} {m:Str->Option J8},(∀v,(x,v)∉binds)->bindL kindOf binds m x=m x
 | [],_,_=>rfl
 | (n,v)::r,m,h=>by
  unfold bindL;rw[pH λw hw=>h w (Ka _ hw)]
  split
  ·have:x≠n:=by rintro rfl;exact h v Kg
   simp[this]
  ·rfl
theorem pJ {kindOf:Str->Option Nc}{x:Str}:∀{binds:List (Str×J8)} {m:Str->Option J8},(∀v,(x,v)∉binds)->bindC kindOf binds m x=m x
 | [],_,_=>rfl
 | (n,v)::r,m,h=>by
  unfold bindC;rw[pJ λw hw=>h w (Ka _ hw)]
  split
  ·rfl
  ·have:x≠n:=by rintro rfl;exact h v Kg
   simp[this]
theorem pI {kindOf:Str->Option Nc}{x:Str}{v:J8}:∀{P:List Str} {vs:List J8} {i:Nat} {m:Str->Option J8},P.Nodup->P[i]? =some x->vs[i]? =some v->kindOf x=some .local →
  bindL kindOf (P.zip vs) m x=some v
 | [],_,_,_,_,h,_,_=>by simp at h
 | _::_,[],_,_,_,_,h,_=>by simp at h
 | p::P,w::vs,0,m,nd,h1,h2,hk=>by
  simp at h1 h2;subst h1;subst h2
  show bindL kindOf ((p,w)::P.zip vs) m p=_
  unfold bindL;rw[pH λv hv=>(Lk.mp nd).1 (M4 hv).1,if_pos hk]
  simp
 | p::P,w::vs,i+1,m,nd,h1,h2,hk=>by
  show bindL kindOf ((p,w)::P.zip vs) m x=_
  unfold bindL;exact pI (i:=i) (Lk.mp nd).2 (by simpa using h1) (by simpa using h2) hk
theorem pK {kindOf:Str->Option Nc}{x:Str}{v:J8}:∀{P:List Str} {vs:List J8} {i:Nat} {m:Str->Option J8},P.Nodup->P[i]? =some x->vs[i]? =some v->kindOf x≠some .local →
  bindC kindOf (P.zip vs) m x=some v
 | [],_,_,_,_,h,_,_=>by simp at h
 | _::_,[],_,_,_,_,h,_=>by simp at h
 | p::P,w::vs,0,m,nd,h1,h2,hk=>by
  simp at h1 h2;subst h1;subst h2
  show bindC kindOf ((p,w)::P.zip vs) m p=_
  unfold bindC;rw[pJ λv hv=>(Lk.mp nd).1 (M4 hv).1,if_neg hk]
  simp
 | p::P,w::vs,i+1,m,nd,h1,h2,hk=>by
  show bindC kindOf ((p,w)::P.zip vs) m x=_
  unfold bindC;exact pK (i:=i) (Lk.mp nd).2 (by simpa using h1) (by simpa using h2) hk
def start (N:List Str)(vs:List V):St:=vs.map some++KC (N.length - vs.length) none
def iy (CX:yE)(P:Kz)(w:Lb)(K:J6)(mg:Str->Option J8)(base:Heap)(N:List Str)(qual:Str)(scope:NN)(f:Addr)(cd:J8)(A:KU)(outer:List Env)(s:Kb)(H:Hp)(E:XK):Cx where
 prog:=P
 w:=w
 K:=K
 mg:=mg
 base:=base
 A:=A.deeper (envOfC qual scope s.heap.objs.size f cd)
 N:=N
 s₀:=s
 H₀:=H
 env:=envOfC qual scope s.heap.objs.size f cd
 outer:=outer
 stack:=envOfC qual scope s.heap.objs.size f cd::outer
 ex:=[]
 calm:=true
 fn:=λ_=>true
 pn:=[]
 xe:=λe s'=>wpAny (model P w) (A.deeper (envOfC qual scope s.heap.objs.size f cd)) (leaving (envOfC qual scope s.heap.objs.size f cd) e) (λ_ s''=>CX outer H s E e s'') (λe' s''=>CX outer H s E e' s'') s'
theorem ud {sc:NN}{n:Nat}{x:Str}(h:sc.names.lookup x=some .cell):∃c,(MK n sc.names []).lookup x=some c:=by
 have q:=MW sc.names n [] (.inl h);exact Option.isSome_iff_exists.mp q
theorem kH {CX:yE}{P:Kz}{w:Lb}{K:J6}{mg:Str->Option J8}{base:Heap}{N ps:List Str}{qual:Str}{scope:NN}{f:Addr}{cd:J8}{A:KU}{outer:List Env}{s s1:Kb}{H:Hp}{E:XK}{us:List J8}{vs:List V}
  (S:ax N ps scope) (hd:A.handled=none) (e0:Env0 P w K mg base A outer s H) (hl:vs.length=ps.length) (r:Vals vs us)
  (x:InCallC s s.heap.objs.size (bindL (envOfC qual scope s.heap.objs.size f cd).kindOf (ps.zip us) λ_=>none) (MK (s.heap.objs.size+1) scope.names []) (bindC (envOfC qual scope s.heap.objs.size f cd).kindOf (ps.zip us) λ_=>none) s1) :
  Inv (iy CX P w K mg base N qual scope f cd A outer s H E) [] (start N vs) H s1:=by
 have hpl:ps.length<=N.length:=by have:=congrArg LV S.pre;rw[Mp]at this;omega
 obtain⟨h1,tk,rfl,hk⟩:=x.done
 have noA:∀b:Addr,b∉(iy CX P w K mg base N qual scope f cd A outer s H E).ex:=λb z=>absurd (show b∈([]:List Addr)from z) (by simp)
 refine⟨⟨e0.mod,S.kind,rfl,rfl,Ki _,λy z c h1 h2=> ?_,λy hy=> ?_,λy c _ h=> ?_,λ_=>hd,Around.frames_deeper e0.frames,.inr ⟨rfl,rfl⟩,λb z=>absurd z (noA b),e0.bs,e0.bsz,λb _ _=>noA b,λb z=>absurd z (noA b),e0.funs,e0.frf,e0.tb⟩,
  rfl,e0.bare,Un.kept hk,⟨_,x.toInCall.ns,λi y v h1 h2 h3=> ?_⟩,λy c h=>⟨_,x.cell y c h⟩,e0.hok.fresh (Ki _),λy c h=> ?_,λp hp=>absurd (show p∈([]:List (Addr×Obj))from hp) (by simp),e0.hok.kept hk,?_⟩
 ·exact name_of_addr x.apart (Mg h1) (Mg h2)
 ·have hy:scope.names.lookup y=some .cell\/scope.names.lookup y=some .free:=hy
  rcases hy with hy | hy
  ·exact ud hy
  ·exact absurd rfl (S.nofree _ (Mg hy))
 ·exact LB (x.above y c (Mg h))
 ·have hi:i<vs.length:=by
   unfold start at h2
   by_cases hi:i<vs.length
   ·exact hi
   ·rw[Nj (by simpa using hi)]at h2
    rw[NH]at h2
    split at h2 <;> cases h2
  have ha:vs[i]? =some v:=by
   unfold start at h2;rw[My (by simpa using hi),Kv]at h2
   cases e:vs[i]? with
   | none=>rw[e]at h2;cases h2
   | some a=>rw[e]at h2;cases h2;rfl
  obtain⟨u,hu,rv⟩:=r.get ha
  have hp:ps[i]? =some y:=by
   rw[<-S.pre,List.getElem?_take_of_lt (by omega)];exact h1
  have ndP:ps.Nodup:=by rw[<-S.pre];exact S.nd.sublist (RL _ _)
  refine⟨u,rv,?_⟩
  rcases S.par y (LA hp)with k | k
  ·exact .inl ⟨k,pI ndP hp hu k⟩
  ·obtain⟨c,e⟩:=ud (n:=s.heap.objs.size+1) k
   refine .inr ⟨.inl k,c,e,?_⟩
   have q:=x.cell y c e;rw[pK ndP hp hu (by show scope.names.lookup y≠_;rw[k];decide)]at q
   exact q
 ·exact e0.hok.fresh (LB (x.above y c (Mg h)))
 ·unfold start
  show _=N.length
  rw[Kw,Kh,List.length_replicate];omega
theorem IA {CX:yE}{P:Kz}{w:Lb}{K:J6}{mg:Str->Option J8}{base:Heap}{k:Nat}{f:Addr}{name qual:Str}{params:Of}{body:List Stmt}{scope:NN}{dV kV doc pm cdv ct oc:J8}{an od:Option Addr}
  {osl:Array (Option J8)} {N ps:List Str} {sp:Sp} (lk:K.lookup f=some ⟨oc,od,.func (N6 name qual params body scope dV kV doc pm an cdv ct),osl⟩) (hcd:QP K cdv qual=true) (S:ax N ps scope)
  (len:∀vs H Q E,sp vs H Q E->vs.length=ps.length)
  (hbody:∀(A:KU) (outer:List Env) (s:Kb) (H:Hp) (vs:List V) (Q:VK) (E:XK),Room k (A.deeper (envOfC qual scope s.heap.objs.size f cdv))->sp vs H Q E →
   ∃t,PSs (iy CX P w K mg base N qual scope f cdv A outer s H E) body t/\t { nx:=λ_ H'=>Q .non H',rt:=Q } (start N vs) H) :
  rG P w K mg base CX (k+1) f (N6 name qual params body scope dV kV doc pm an cdv ct) ps sp:=by
 refine⟨len,λA outer s H args us vs Q E hr e0 hb r hsp=> ?_⟩
 have hl:=len _ _ _ _ hsp
 have KX:K.In s.heap:=e0.mod.kin.keeps λb o e=>(e0.bs b o e).1
 have lim:s.heap.NoLimit:=e0.mod.nolimit.keeps λb o e=>(e0.bs b o e).1
 have hkind:∀y∈ps.zip us,scope.names.lookup y.1=some .local\/(scope.names.lookup y.1=some .cell/\((MK (s.heap.objs.size+1) scope.names []).lookup y.1).isSome=true):=λ⟨n,v⟩ hy=>by
  rcases S.par n (M4 hy).1 with q | q
  ·exact .inl q
  ·exact .inr ⟨q,MW _ _ _ (.inl q)⟩
 refine Qt hr.depth (KX _ _ lk) rfl S.co S.gen rfl (Rb KX hcd) (hb _ _ _ _ ?_)
 refine Nk S.kind hkind λenv he s1 x=> ?_
 subst he;refine⟨lim.keeps x.toInCall.keep,codeAny_func ?_⟩
 obtain⟨t,ht,hq⟩:=hbody A outer s H vs Q E (hr.deeper _) hsp
 have I:Inv (iy CX P w K mg base N qual scope f cdv A outer s H E) [] (start N vs) H s1:=kH S hr.hd e0 hl r x;refine Mr (ht [] s1 (start N vs) H _ I hq) (λfl s' hs=> ?_) λe s' hs=>hs
 have fin:∀{σ':St} {H':Hp} {v:V} {u:J8},Inv (iy CX P w K mg base N qual scope f cdv A outer s H E) [] σ' H' s'->RelV v u->Q v H'->CE outer P w H s Q u s':=
  λ{σ' H' v u} J rv q=>⟨v,H',J.os,J.bare,J.base,J.hok,rv,q⟩
 cases fl with
 | ret u=>
  obtain⟨v,σ',H',J,rv,q⟩:=hs
  exact fin J rv q
 | next=>
  obtain⟨σ',H',J,q⟩:=hs
  exact fin (v:=V.non) (u:=K6) J rfl q
 | brk=>
  obtain⟨_,_,_,q⟩:=hs
  exact Md q
 | cont=>
  obtain⟨_,_,_,q⟩:=hs;exact Md q
end L2
namespace HT
open PySem PyProof.Rows
def lexLt:List Int->List Int->Bool
 | [],[] =>false
 | [],_::_=>true
 | _::_,[] =>false
 | x::xs,y::ys=>if x=y then lexLt xs ys else decide (x<y)
theorem lexLt_cons (x y:Int)(xs ys:List Int):lexLt (x::xs) (y::ys)=if x=y then lexLt xs ys else decide (x<y):=rfl
theorem oo:lexLt [] [] =false:=rfl
theorem m7 (y:Int)(ys:List Int):lexLt [] (y::ys)=true:=rfl
theorem m8 (x:Int)(xs:List Int):lexLt (x::xs) [] =false:=rfl
theorem AS (A:KU)(s:Kb)(a:Int)(t:Tok)(c:Int)(u:Tok):∃e,SeqAt.EqAt A s (.int a t) (.int c u) e/\(e=true↔a=c):=
 ⟨(a == c),Rc a t c u,by simp⟩
theorem zh (A:KU)(s:Kb)(a:Int)(t:Tok)(c:Int)(u:Tok)(prog:Kz)(w:Lb)(E:J8->Kb->Prop)(Q:J8->Kb->Prop)(h:Q (.bool (decide (a<c))) s) :
  wpAny (model prog w) A (richCompare .Lt (.int a t) (.int c u)) Q E s:=
 (PyProof.Rows.lt_int h:wpAny (model prog w) A (Lr .Lt (.int a t) (.int c u)) Q E s)
section
variable {prog:Kz}{w:Lb}{A:KU}{E:J8->Kb->Prop}{s:Kb}
theorem cat_tup {t b:Addr}{vs ws:List J8}{Q:J8->Kb->Prop}(ht:Ta s.heap t vs.toArray)(hb:Ta s.heap b ws.toArray)(hv:vs≠ [])
  (h1:ws= []->Q (.ref t) s) (h2:ws≠ []->Q (.ref s.heap.objs.size) { s with heap:=s.heap.push { cls:=.type "tuple",data:=.seq (vs++ws).toArray } })
  (hsz:vs.length+ws.length<=sizeLine):wpAny (model prog w) A (L6 .Add (.ref t) (.ref b)) Q E s:=by
 obtain⟨⟨cls,dd,data,sl⟩,ho,hc,n,hd⟩:=id ht;obtain⟨⟨cls2,dd2,data2,sl2⟩,ho2,hc2,n2,hd2⟩:=id hb;simp only at hc hd hc2 hd2;subst hc hd hc2 hd2
 have e:vs.toArray++ws.toArray=(vs++ws).toArray:=by simp
 by_cases hw:ws= []
 ·exact Se ⟨_,ho,rfl⟩ ⟨_,ho2,rfl⟩ P4 RA NO NF (Ny _ _)
   (tuple_addW1 t b vs.toArray ws.toArray n n2 dd dd2 sl sl2 (by simpa using hv) (by simp[hw])) ⟨ho,ho2,h1 hw⟩
 ·refine Se ⟨_,ho,rfl⟩ ⟨_,ho2,rfl⟩ P4 RA NO NF (Ny _ _)
   (tuple_addW2 t b vs.toArray ws.toArray n n2 dd dd2 sl sl2 (by simpa using hv) (by simpa using hw) (by rw[Kp,Kp];exact hsz)) ⟨ho,ho2,?_⟩
  rw[e];exact h2 hw
def sIx (n d:Nat):Option Int->Nat
 | none=>d
 | some v=>if v<0 then(v+(n:Int)).toNat else min v.toNat n
theorem sIx_none (n d:Nat):sIx n d none=d:=rfl
theorem sIx_nat (n d k:Nat):sIx n d (some (k:Int))=min k n:=by
 show(if (k:Int)<0 then((k:Int)+(n:Int)).toNat else min (k:Int).toNat n)=min k n
 rw[if_neg (by omega),K0]
theorem EA (n d:Nat)(hd:d<=n)(o:Option Int):sIx n d o<=n:=by
 cases o with
 | none=>exact hd
 | some v=>
  show(if v<0 then(v+(n:Int)).toNat else min v.toNat n)<=n
  by_cases hv:v<0
  ·rw[if_pos hv];omega
  ·rw[if_neg hv];exact Nat.min_le_right _ _
theorem wQ (v:Int)(n d:Nat):(if v<0 then max (v+(n:Int)) 0 else min v (n:Int))=((sIx n d (some v):Nat):Int):=by
 show(if v<0 then max (v+(n:Int)) 0 else min v (n:Int))=(((if v<0 then(v+(n:Int)).toNat else min v.toNat n):Nat):Int)
 by_cases hv:v<0
 ·simp only[if_pos hv];omega
 ·simp only[if_neg hv];omega
theorem vi (lo hi:Option Int)(n:Nat):LF lo hi 1 (n:Int)=(((sIx n 0 lo:Nat):Int),((sIx n n hi:Nat):Int)):=by
 have h1:¬ ((1:Int)<0):=by omega
 unfold LF;simp only[h1,if_false];refine Prod.ext ?_ ?_
 ·cases lo with
  | none=>rfl
  | some v=>exact wQ v n 0
 ·cases hi with
  | none=>rfl
  | some v=>exact wQ v n n
theorem uK (i j:Nat):K9 (i:Int) (j:Int) 1=j - i:=by
 unfold K9
 have h1:(1:Int) > 0:=by omega
 simp only[h1,if_true,R8]
 split <;> omega
theorem l6 {v:J8}{o:Option Int}{Q:Option Int->Kb->Prop}(p:RB v o)(h:Q o s):wpAny (model prog w) A (Sz v) Q E s:=by
 cases p with
 | none=>exact Pa h
 | int i t=>exact slicePart_int h
theorem gd {sl:Addr}{vl vu:J8}{lo hi:Option Int}{n:Nat}{Q:Int×Int×Nat->Kb->Prop}(hs:s.heap.IsSliceOf sl vl vu .none)(pl:RB vl lo)(pu:RB vu hi)
  (h:Q (((sIx n 0 lo:Nat):Int),1,sIx n n hi - sIx n 0 lo) s):wpAny (model prog w) A (Mm (.ref sl) (pure (n:Int))) Q E s:=by
 obtain⟨os,hos,hcs,hds⟩:=id hs;unfold Mm O4;refine J5 (J5 (MB hos hds (x:=vl) rfl (J5 (MB hos hds (x:=vu) rfl (J5 (MB hos hds (x:=.none) rfl (Kd ?_)))))))
 refine J5 (Pa ?_)
 show wpAny _ _ (if ((1:Int) == 0)=true then _ else _) _ _ s
 rw[if_neg (by decide)]
 refine J5 (l6 pl (J5 (l6 pu (J5 (Kd ?_)))))
 show wpAny _ _ (match LF lo hi 1 (n:Int)with | (lo,hi)=>pure (lo,(1:Int),K9 lo hi 1)) _ _ s
 rw[vi lo hi n]
 show wpAny _ _ (pure (((sIx n 0 lo:Nat):Int),(1:Int),K9 ((sIx n 0 lo:Nat):Int) ((sIx n n hi:Nat):Int) 1)) _ _ s
 rw[uK];exact Kd h
theorem zA (xs:Array J8)(i k:Nat):((J7 k).filterMap λ(m:Nat)=>xs[((i:Int)+(m:Int)*1).toNat]?).toArray=((xs.toList.drop i).take k).toArray:=by
 have e:(λ(m:Nat)=>xs[((i:Int)+(m:Int)*1).toNat]?)=λm=>xs[i+m]?:=by
  funext m
  have:((i:Int)+(m:Int)*1).toNat=i+m:=by omega
  rw[this]
 rw[e]
 have:=pick_run xs i k;rw[Rh]at this
 have e2:((λx=>xs[x]?)∘λx=>i+x)=λm=>xs[i+m]?:=rfl
 rw[e2]at this;rw[this]
theorem getItem_tuple_cut {t sl:Addr}{items:Array J8}{vl vu:J8}{lo hi:Option Int}{Q:J8->Kb->Prop}(ht:Ta s.heap t items)(hs:s.heap.IsSliceOf sl vl vu .none)(pl:RB vl lo)(pu:RB vu hi)
  (hw:¬ (sIx items.size 0 lo=0/\sIx items.size items.size hi=items.size))
  (h:Q (.ref s.heap.objs.size) { s with heap:=s.heap.push { cls:=.type "tuple",data:=.seq ((items.toList.drop (sIx items.size 0 lo)).take (sIx items.size items.size hi - sIx items.size 0 lo)).toArray } })
  (hsz:items.size<=sizeLine):wpAny (model prog w) A (getItem (.ref t) (.ref sl)) Q E s:=by
 have htake:sizeOk (.seq ((items.toList.drop (sIx items.size 0 lo)).take (sIx items.size items.size hi - sIx items.size 0 lo)).toArray):=by
  show((items.toList.drop (sIx items.size 0 lo)).take (sIx items.size items.size hi - sIx items.size 0 lo)).toArray.size<=sizeLine
  rw[Kp,Mp,MS,KJ];omega
 have hj:sIx items.size items.size hi<=items.size:=EA _ _ (Ki _) hi;obtain⟨os,hos,hcs,hds⟩:=id hs
 have hTs:s.TypeIs (.ref sl) "slice":=⟨os,hos,hcs⟩;unfold getItem
 try with_reducible refine Ly ?_
 first | refine J5 (Kd ?_) | skip
 refine J5 (Pu ht.typeIs (by decide) ?_)
 refine J5 (Lh (name:=Kr "__getitem__") ht.typeIs KI
  (Ln KI ht.typeIs OI ?_ (O0 _ _)))
 show wpAny _ _ (Ni (.ref t) >>= _) _ _ s
 refine J5 (PP ht ?_)
 refine J5 (MN hTs ?_)
 rw[if_pos (by decide)]
 refine J5 (gd hs pl pu ?_)
 have hno:¬ ((((sIx items.size 0 lo:Nat):Int) == 0&&(1:Int) == 1&&(sIx items.size items.size hi - sIx items.size 0 lo) == items.size)=true):=by
  intro q;rw[J9,J9]at q
  have q1:((sIx items.size 0 lo:Nat):Int)=0:=eq_of_beq q.1.1
  have q2:sIx items.size items.size hi - sIx items.size 0 lo=items.size:=eq_of_beq q.2;exact hw ⟨by omega,by omega⟩
 show wpAny _ _ (if (((sIx items.size 0 lo:Nat):Int) == 0&&(1:Int) == 1&&(sIx items.size items.size hi - sIx items.size 0 lo) == items.size)=true then _ else _) _ _ s
 rw[if_neg hno,zA]
 first
  | exact J5 (m:=K5 _) (KR (Kd ⟨_,rfl,Kd h⟩) htake)
  | exact J5 (m:=K5 _) (KR (J5 (Kd (Kd ⟨_,rfl,Kd h⟩))) htake)
  | exact J5 (J5 (m:=K5 _) (KR (Kd (Kd ⟨_,rfl,Kd h⟩)) htake))
  | exact J5 (J5 (m:=K5 _) (KR (Kd ⟨_,rfl,Kd h⟩) htake))
end
end HT
namespace L2
open PySem PySem.Spec PyProof.Rows
abbrev TO:=St->Hp->(Option Int->Hp->Prop)->Prop
def PO (X:Cx)(e:Option Expr)(t:TO):Prop:=
 ∀(pins:List (Addr×Obj)) (s:Kb) (σ:St) (H:Hp) (Q:Option Int->Hp->Prop),Inv X pins σ H s->t σ H Q →
  wpAny (model X.prog X.w) X.A (evalPart e X.env) (λu s'=> ∃o H',Inv X pins σ H' s'/\RB u o/\Q o H') X.xe s
def BL:TO:=λ_ H Q=>Q none H
def GW (t:TE):TO:=λσ H Q=>t σ H λx H1=> ∃i,x= .int i/\Q (some i) H1
theorem u6 {ns:List Int}:∀{us:List J8},Vals (ns.map V.int) us->LI us ns:=by
 induction ns with
 | nil=>intro us r;rw[Qg]at r;cases r;exact .nil
 | cons n ns ih=>
  intro us r;rw[Ke]at r
  cases r with
  | cons r1 r2=>
   obtain⟨t,e⟩:=r1;subst e;exact .cons n t (ih r2)
section
variable {X:Cx}{e:Expr}{te:TE}{lo hi:Option Expr}{tl th:TO}{pos p2:Pos}
theorem Ct:PO X none BL:=by
 intro pins s σ H Q I h;rw[RC];exact Kd ⟨none,H,I,.none,h⟩
theorem Cr (h:PE X e te):PO X (some e) (GW te):=by
 intro pins s σ H Q I hw;rw[evalPart_some];refine bX (h pins s σ H _ I hw) λu s1 hh_=> ?_
 obtain⟨x,H1,I1,r1,q1⟩:=hh_;obtain⟨i,rfl,q⟩:=q1;obtain⟨t,rfl⟩:=r1;exact⟨some i,H1,I1,.int i t,q⟩
def SlR (X:Cx)(r:V->Option Int->Option Int->Hp->VK->Prop):Prop:=
 ∀(pins:List (Addr×Obj)) (s:Kb) (σ:St) (H:Hp) (x:V) (v vl vu:J8) (lo hi:Option Int) (sl:Addr) (Q:VK),Inv X pins σ H s->RelV x v->s.heap.IsSliceOf sl vl vu .none->RB vl lo->RB vu hi->r x lo hi H Q →
  ∃T id,R1 (.type T) "__getitem__" =pure (some (.builtin id))/\s.TypeIs v T/\wpAny (model X.prog X.w) X.A (getItem v (.ref sl)) (EP X pins σ Q) X.xe s
theorem SlR.or {r r':V->Option Int->Option Int->Hp->VK->Prop}(h:SlR X r)(h':SlR X r'):SlR X (λx lo hi H Q=>r x lo hi H Q\/r' x lo hi H Q):=by
 intro pins s σ H x v vl vu lo hi sl Q I rx hs pl pu q;rcases q with q | q
 ·exact h pins s σ H x v vl vu lo hi sl Q I rx hs pl pu q
 ·exact h' pins s σ H x v vl vu lo hi sl Q I rx hs pl pu q
def tSl (r:V->Option Int->Option Int->Hp->VK->Prop)(te:TE)(tl th:TO):TE:=λσ H Q=>te σ H λx H1=>tl σ H1 λl H2=>th σ H2 λu H3=>r x l u H3 Q
theorem zC {r:V->Option Int->Option Int->Hp->VK->Prop}(hr:SlR X r)(he:PE X e te)(hl:PO X lo tl)(hu:PO X hi th):PE X (.Subscript e (.Slice lo hi none p2) pos) (tSl r te tl th):=by
 intro pins s σ H Q I h;refine R3 (bX (he pins s σ H _ I h) λv s1 hh_=> ?_)
 obtain⟨x,H1,I1,r1,q1⟩:=hh_;refine wpAny_Slice (bX (hl pins s1 σ H1 _ I1 q1) λvl s2 ⟨l,H2,I2,pl,q2⟩=>bX (hu pins s2 σ H2 _ I2 q2) λvu s3 hh_=> ?_)
 obtain⟨u,H3,I3,pu,q3⟩:=hh_;rw[RC];refine Kd ?_
 have I4:Inv X pins σ H3 { s3 with heap:=s3.heap.push { cls:=.type "slice",data:=.fields #[vl,vu,.none] } }:=I3.kept (t':=s3.toks) λb ob q=>Kc _ q
 obtain⟨T,id,hT,ht,hg⟩:=hr pins { s3 with heap:=s3.heap.push { cls:=.type "slice",data:=.fields #[vl,vu,.none] } } σ H3 x v vl vu l u s3.heap.objs.size Q I4 r1 (OR ..) pl pu q3
 show wpAny (model X.prog X.w) X.A (RD e (.Slice lo hi none p2) v (.ref s3.heap.objs.size)) (EP X pins σ Q) X.xe { s3 with heap:=s3.heap.push { cls:=.type "slice",data:=.fields #[vl,vu,.none] } }
 exact tail_any (ops:=[.ref s3.heap.objs.size,v]) ht hT hg (by with_unfolding_all rfl)
def tZ (xs:List V)(lo hi:Option Int):List V:=(xs.drop (HT.sIx xs.length 0 lo)).take (HT.sIx xs.length xs.length hi - HT.sIx xs.length 0 lo)
theorem lb (xs:List V)(lo hi:Option Int):(tZ xs lo hi).length<=xs.length:=by
 unfold tZ;rw[Mp,MS];omega
def rSlT (K:J6):V->Option Int->Option Int->Hp->VK->Prop:=λx lo hi H Q=> ∃a xs,x= .ref a/\SqT K H a xs ∧
 ¬(HT.sIx xs.length 0 lo=0/\HT.sIx xs.length xs.length hi=xs.length)/\∀p,H p=none->Q (.ref p) (upd H p (.tup (tZ xs lo hi)))
theorem sl_tup:SlR X (rSlT X.K):=by
 intro pins s σ H x v vl vu lo hi sl Q I rx hs pl pu h;obtain⟨a,xs,rfl,hx,hw,q⟩:=h;cases rx;obtain⟨its,r,ht,hz⟩:=I.tuple hx
 have hlen:its.toArray.size=xs.length:=by rw[Kp];exact r.length.symm
 refine⟨"tuple",_,KI.lookup,ht.typeIs,?_⟩
 refine HT.getItem_tuple_cut ht hs pl pu (by rw[hlen];exact hw) ?_ (by rw[hlen];exact hz)
 rw[hlen];refine⟨.ref s.heap.objs.size,_,I.laid (t':=s.toks) (o:=.tup (tZ xs lo hi)) (λb ob q=>Kc _ q) (Ki _) ?_,rfl,q _ (I.hok.fresh (Ki _))⟩
 exact⟨KD (lb xs lo hi) hz,_,(r.drop (HT.sIx xs.length 0 lo)).take (HT.sIx xs.length xs.length hi - HT.sIx xs.length 0 lo),Ri _ _⟩
def Hg (K:J6):R2:=λx y H Q=> ∃a b xs ys,x= .ref a/\y= .ref b/\SqT K H a xs/\SqT K H b ys/\xs≠ []/\xs.length+ys.length<=sizeLine ∧
 (ys= []->Q (.ref a) H)/\(ys≠ []->∀p,H p=none->Q (.ref p) (upd H p (.tup (xs++ys))))
theorem Vals.Da {xs:List V}{us:List J8}(r:Vals xs us):us= [] ↔xs= []:=by
 cases r with
 | nil=>simp
 | cons _ _=>simp
theorem CK:pQ X (L6 .Add) (Hg X.K):=by
 intro pins s σ H x y v u Q I rx ry h;obtain⟨a,b,xs,ys,rfl,rfl,ha,hb,hx,hz,q1,q2⟩:=h;cases rx;cases ry;obtain⟨its,r1,p1,_⟩:=I.tuple ha;obtain⟨its2,r2,p2,_⟩:=I.tuple hb;refine HT.cat_tup p1 p2 (λz=>hx (r1.Da.mp z)) (λz=>⟨.ref a,H,I,rfl,q1 (r2.Da.mp z)⟩) (λz=> ?_) (by rw[<-r1.length,<-r2.length];exact hz)
 refine⟨.ref s.heap.objs.size,_,I.laid (t':=s.toks) (o:=.tup (xs++ys)) (λb ob q=>Kc _ q) (Ki _) ?_,rfl,q2 (λw=>z (r2.Da.mpr w)) _ (I.hok.fresh (Ki _))⟩
 exact⟨by rw[Kw];exact hz,_,r1.append r2,Ri _ _⟩
end
def ixN (n:Nat)(i:Int):Option Nat:=if 0<=i then(if i<n then some i.toNat else none)else if -(n:Int)<=i then some (i+n).toNat else none
def atI {α:Type}(xs:List α)(i:Int):Option α:=(ixN xs.length i).bind λj=>xs[j]?
theorem C7 {n:Nat}{i:Int}{j:Nat}(h:ixN n i=some j):seqIndex? i n=some j/\j<n/\-(n:Int)<=i/\i<n:=by
 unfold ixN at h
 by_cases h0:0<=i
 ·rw[if_pos h0]at h
  by_cases h1:i<n
  ·rw[if_pos h1]at h
   have e:i.toNat=j:=KO h;exact⟨by rw[seqIndex_of h0 h1,e],by omega,by omega,h1⟩
  ·rw[if_neg h1]at h;cases h
 ·rw[if_neg h0]at h
  by_cases h1 : -(n:Int)<=i
  ·rw[if_pos h1]at h
   have e:(i+n).toNat=j:=KO h;exact⟨by rw[seqIndex_neg (by omega) h1,e],by omega,h1,by omega⟩
  ·rw[if_neg h1]at h;cases h
theorem rE {α:Type}{xs:List α}{i:Int}{v:α}(h:atI xs i=some v):∃j,seqIndex? i xs.length=some j/\xs[j]? =some v/\j<xs.length/\-(xs.length:Int)<=i/\i<xs.length:=by
 unfold atI at h
 cases e:ixN xs.length i with
 | none=>rw[e]at h;cases h
 | some j=>
  rw[e]at h;obtain⟨h1,h2,h3,h4⟩:=C7 e;exact⟨j,h1,h,h2,h3,h4⟩
def w4 (b:Expr):Prop:=∀o i,Q7 b false o i=operate [o,i] (getItem o i)
def IxR (X:Cx)(r:R2):Prop:=
 ∀(value slice:Expr) (pins:List (Addr×Obj)) (s:Kb) (σ:St) (H:Hp) (x y:V) (v u:J8) (Q:VK),Inv X pins σ H s->RelV x v->RelV y u->r x y H Q →
  Q7 slice false v u=operate [v,u] (getItem v u)->wpAny (model X.prog X.w) X.A (RD value slice v u) (EP X pins σ Q) X.xe s
def MtR (X:Cx)(id:String)(r:V->List V->Hp->VK->Prop):Prop:=
 ∀(pins:List (Addr×Obj)) (s:Kb) (σ:St) (H:Hp) (x:V) (xs:List V) (v:J8) (us:List J8) (Q:VK),Inv X pins σ H s->RelV x v->Vals xs us->r x xs H Q →
  wpAny (model X.prog X.w) X.A (call (.builtin id) (v::us)) (EP X pins σ Q) X.xe s
section
variable {X:Cx}{a b:Expr}{ta tb:TE}{pos:Pos}
theorem IxR.or {r r':R2}(h:IxR X r)(h':IxR X r'):IxR X (λx y H Q=>r x y H Q\/r' x y H Q):=by
 intro value slice pins s σ H x y v u Q I rx ry q hs;rcases q with q | q
 ·exact h value slice pins s σ H x y v u Q I rx ry q hs
 ·exact h' value slice pins s σ H x y v u Q I rx ry q hs
def Hf (K:J6):R2:=λx y H Q=> ∃p xs i v,x= .ref p/\y= .int i/\SqL K H p xs/\atI xs i=some v/\Q v H
def Hd (K:J6):R2:=λx y H Q=> ∃p xs i v,x= .ref p/\y= .int i/\SqT K H p xs/\atI xs i=some v/\Q v H
def He:R2:=λx y H Q=> ∃z i c,x= .str z/\y= .int i/\z.length<=sizeLine/\atI z.cps.toList i=some c/\Q (.str ⟨#[c]⟩) H
theorem ix_list:IxR X (Hf X.K):=by
 intro value slice pins s σ H x y v u Q I rx ry h hs;obtain⟨p,xs,i,z,rfl,rfl,hq,he,q⟩:=h;cases rx;obtain⟨t,rfl⟩:=ry;obtain⟨its,r,pl,hz⟩:=I.list hq;obtain⟨j,h1,h2,h3,h4,h5⟩:=rE he;obtain⟨w,ew,rw'⟩:=r.get h2
 have hl:=r.length
 have hn:=m6
 have fin:EP X pins σ Q w s:=⟨z,H,I,rw',q⟩
 by_cases h0:0<=i
 ·have hj:i.toNat=j:=by
   rw[seqIndex_of h0 h5]at h1;exact KO h1
  exact item_listR pl.isList h0 (by omega) (by rw[hj];simpa using ew) fin hs
 ·have hj:(i+(its.toArray.size:Int)).toNat=j:=by
   rw[seqIndex_neg (by omega) h4]at h1
   rw[Kp,<-hl];exact KO h1
  exact Qa (x:=w) pl.isList.typeIs slot_list_getitem.lookup
   (wpAny_getItem_list_neg (Q:=λr s'=>r=w/\EP X pins σ Q r s') pl.isList (by omega) (by rw[Kp] <;> omega) (by omega) (by rw[hj];simpa using ew) ⟨rfl,fin⟩) hs
theorem ix_tup:IxR X (Hd X.K):=by
 intro value slice pins s σ H x y v u Q I rx ry h hs;obtain⟨p,xs,i,z,rfl,rfl,hq,he,q⟩:=h;cases rx;obtain⟨t,rfl⟩:=ry;obtain⟨its,r,pl,hz⟩:=I.tuple hq;obtain⟨j,h1,h2,h3,h4,h5⟩:=rE he;obtain⟨w,ew,rw'⟩:=r.get h2
 have hl:=r.length
 have hn:=m6
 have fin:EP X pins σ Q w s:=⟨z,H,I,rw',q⟩
 exact Qa (x:=w) pl.typeIs slot_tuple_getitem.lookup
  (getItem_tuple (j:=j) (Q:=λr s'=>r=w/\EP X pins σ Q r s') pl (by omega) (by omega) (by rw[Kp,<-hl];exact h1) (by simpa using ew) ⟨rfl,fin⟩) hs
theorem F5:IxR X He:=by
 intro value slice pins s σ H x y v u Q I rx ry h hs;obtain⟨z,i,c,rfl,rfl,hz,he,q⟩:=h;obtain⟨t,rfl⟩:=rx;obtain⟨t',rfl⟩:=ry;obtain⟨j,h1,h2,h3,h4,h5⟩:=rE he
 have hl:z.cps.toList.length=z.length:=by simp[Str.length]
 rw[hl]at h1 h4 h5
 have hn:=m6
 exact tail_any (typeIs_str s z t) slot_str_getitem.lookup (getItem_str (c:=c) (by
  have e1:decide (i< -(2 ^ 63:Int))=false:=decide_eq_false (by omega)
  have e2:decide (i ≥ 2 ^ 63)=false:=decide_eq_false (by omega)
  rw[e1,e2,Bool.or_false]) (by rw[h1];simpa using h2) ⟨.str ⟨#[c]⟩,H,I.tok _,⟨_,rfl⟩,q⟩) hs
def rIx (K:J6):R2:=λx y H Q=>Hf K x y H Q\/Hd K x y H Q\/He x y H Q
theorem F6:IxR X (rIx X.K):=ix_list.or (ix_tup.or F5)
theorem p0 (lo hi:Option Int)(n:Nat):(N0 lo hi none n).1=((HT.sIx n 0 lo:Nat):Int)/\(N0 lo hi none n).2.1=((HT.sIx n n hi:Nat):Int)/\(N0 lo hi none n).2.2=1:=by
 refine⟨?_,?_,rfl⟩
 ·cases lo with
  | none=>simp[N0,HT.sIx]
  | some i=>
   simp only[N0,HT.sIx,Sm,show(1:Int) > 0 by decide,if_true]
   by_cases h:i<0
   ·simp only[h,if_true] <;> omega
   ·simp only[h,if_false] <;> omega
 ·cases hi with
  | none=>simp[N0,HT.sIx]
  | some i=>
   simp only[N0,HT.sIx,Sm,show(1:Int) > 0 by decide,if_true]
   by_cases h:i<0
   ·simp only[h,if_true] <;> omega
   ·simp only[h,if_false] <;> omega
theorem n5 (its:List J8)(lo hi:Option Int):SY its.toArray lo hi none=((its.drop (HT.sIx its.length 0 lo)).take (HT.sIx its.length its.length hi - HT.sIx its.length 0 lo)).toArray:=by
 obtain⟨h1,h2,h3⟩:=p0 lo hi its.toArray.size;unfold SY;rw[h1,h2,h3];simp only[sliceRange_one,pick_run,Kp] <;> rfl
def rSlL (K:J6):V->Option Int->Option Int->Hp->VK->Prop:=λx lo hi H Q=> ∃a xs,x= .ref a/\SqL K H a xs/\∀p,H p=none->Q (.ref p) (upd H p (.lst (tZ xs lo hi)))
theorem BX:SlR X (rSlL X.K):=by
 intro pins s σ H x v vl vu lo hi sl Q I rx hs pl pu h;obtain⟨a,xs,rfl,hx,q⟩:=h;cases rx;obtain⟨its,r,ht,hz⟩:=I.list hx
 have hlen:=r.length;refine⟨"list",_,slot_list_getitem.lookup,ht.isList.typeIs,?_⟩
 refine Pv ht.isList hs pl pu .none (by simp) ?_ (by rw[Kp] <;> omega)
 rw[n5,<-hlen];refine⟨.ref s.heap.objs.size,_,I.laid (t':=s.toks) (o:=.lst (tZ xs lo hi)) (λb ob q=>Kc _ q) (Ki _) ?_,rfl,q _ (I.hok.fresh (Ki _))⟩
 exact⟨KD (lb xs lo hi) hz,_,0,(r.drop (HT.sIx xs.length 0 lo)).take (HT.sIx xs.length xs.length hi - HT.sIx xs.length 0 lo),Kn _ rfl⟩
theorem call_len_seq:CallR X (.builtin "len") (λxs H Q=> ∃p ys,xs= [.ref p]/\(SqL X.K H p ys\/SqT X.K H p ys)/\Q (.int ys.length) H):=by
 intro pins s σ H xs us Q I r h;obtain⟨p,ys,rfl,hq,q⟩:=h;obtain⟨u,rfl,rx⟩:=kQ r;cases rx
 have hn:=m6;rcases hq with hq | hq
 ·obtain⟨its,r',pl,hz⟩:=I.list hq
  have hlen:=r'.length;exact Calls.call_len_list pl.isList (by simp only[Kp] <;> omega) ⟨.int ys.length,H,I.tok _,⟨s.toks+1,by rw[Kp,hlen]⟩,q⟩
 ·obtain⟨its,r',pl,hz⟩:=I.tuple hq
  have hlen:=r'.length;exact len_tuple pl (by simp only[Kp] <;> omega) ⟨.int ys.length,H,I.tok _,⟨s.toks+1,by rw[Kp,hlen]⟩,q⟩
theorem rz:CallR X (.builtin "len") (λxs H Q=> ∃z,xs= [.str z]/\z.length<=sizeLine/\Q (.int z.length) H):=by
 intro pins s σ H xs us Q I r h;obtain⟨z,rfl,hz,q⟩:=h;obtain⟨u,rfl,t,rfl⟩:=kQ r
 have hn:=m6;exact len_str (by omega) ⟨.int z.length,H,I.tok _,⟨_,rfl⟩,q⟩
theorem CallR.or {f:J8}{r r':List V->Hp->VK->Prop}(h:CallR X f r)(h':CallR X f r'):CallR X f (λxs H Q=>r xs H Q\/r' xs H Q):=by
 intro pins s σ H xs us Q I rs q;rcases q with q | q
 ·exact h pins s σ H xs us Q I rs q
 ·exact h' pins s σ H xs us Q I rs q
theorem ox:CallR X (.type "tuple") (λxs H Q=> ∃p ys,xs= [.ref p]/\((SqL X.K H p ys/\∀l,H l=none->Q (.ref l) (upd H l (.tup ys)))\/(SqT X.K H p ys/\Q (.ref p) H))):=by
 intro pins s σ H xs us Q I r h;obtain⟨p,ys,rfl,h⟩:=h;obtain⟨u,rfl,rx⟩:=kQ r;cases rx;rcases h with⟨hq,q⟩ | ⟨hq,q⟩
 ·obtain⟨its,r',pl,hz⟩:=I.list hq
  have hlen:=r'.length;refine call_tuple_list pl.isList (λh' kp=> ?_) (by simp only[Kp] <;> omega)
  have I1:Inv X pins σ H { s with heap:=h' }:=I.kept (t':=s.toks) kp
  have I2:Inv X pins σ (upd H h'.objs.size (.tup ys)) { s with heap:=h'.push { cls:=.type "tuple",data:=.seq its.toArray } }:=
   I1.laid (t':=s.toks) (λb o e=>Kc _ e) (Ki _) (show ObjOk X.prog X.w _ _ _ (.tup ys)from⟨hz,its,r',Ri _ _⟩)
  exact⟨.ref h'.objs.size,_,I2,rfl,q _ (I1.hok.fresh (Ki _))⟩
 ·obtain⟨its,r',pl,hz⟩:=I.tuple hq
  exact call_tuple_same pl ⟨.ref p,H,I,rfl,q⟩
def tyV (K:J6)(T:String)(x:V)(H:Hp):Prop:=match x with
 | .str _=>T= "str"
 | .int _=>T= "int"
 | .ref p=>(T= "list"/\∃xs,SqL K H p xs)\/(T= "tuple"/\∃o,K.lookup p=some o/\o.cls= .type "tuple"/\o.dict=none) ∨
   (T= "dict"/\((∃kvs,H p=some (.dK kvs))\/∃kvs,H p=some (.dT kvs)))\/(T= "set"/\∃S n,H p=some (.set S n))
 | _=>False
theorem yP {pins:List (Addr×Obj)}{σ:St}{H:Hp}{s:Kb}{T:String}{x:V}{v:J8}(I:Inv X pins σ H s)(r:RelV x v)(ty:tyV X.K T x H) :
  s.TypeIs v T/\∀a,v= .ref a->∃ob,s.heap.get? a=some ob/\ob.dict=none:=by
 cases x with
 | str z=>
  obtain⟨t,rfl⟩:=r;cases (show T= "str" from ty)
  exact⟨typeIs_str s z t,λ_ e=>nomatch e⟩
 | int i=>
  obtain⟨t,rfl⟩:=r;cases (show T= "int" from ty)
  exact⟨Qz s i t,λ_ e=>nomatch e⟩
 | ref p=>
  cases r;rcases ty with⟨rfl,xs,hq⟩ | ⟨rfl,o,hk,hc,hd⟩ | ⟨rfl,hk⟩ | ⟨rfl,S,n,hk⟩
  ·obtain⟨its,_,pl,_⟩:=I.list hq
   refine⟨pl.isList.typeIs,λa e=> ?_⟩
   cases e;obtain⟨o,n,e,c,hd,_⟩:=pl;exact⟨o,e,hd⟩
  ·refine⟨⟨o,I.kIn p o hk,hc⟩,λa e=> ?_⟩
   cases e;exact⟨o,I.kIn _ o hk,hd⟩
  ·have z:∃o,s.heap.get? p=some o/\o.ExactDict:=by
    rcases hk with⟨kvs,hk⟩ | ⟨kvs,hk⟩
    ·obtain⟨_,_,_,_,o,_,_,e,ex,_⟩:=I.hok p _ hk
     exact⟨o,e,ex⟩
    ·obtain⟨_,_,_,_,o,_,_,e,ex,_⟩:=I.hok p _ hk
     exact⟨o,e,ex⟩
   obtain⟨o,e,ex⟩:=z;refine⟨⟨o,e,ex.1⟩,λa e2=> ?_⟩
   cases e2;exact⟨o,e,ex.2.1⟩
  ·obtain⟨o,_,_,_,e,ex,_⟩:=I.hok p _ hk
   refine⟨⟨o,e,ex.1⟩,λa e2=> ?_⟩
   cases e2
   exact⟨o,e,ex.2.1⟩
 | _=>exact Md ty
def tBM (K:J6)(T:String)(r:V->List V->Hp->VK->Prop)(to:TE)(t:TA):TE:=λσ H Q=>to σ H λx H1=>tyV K T x H1/\t σ H1 λxs H2=>r x xs H2 Q
variable {o e:Expr}{es:List Expr}{to:TE}{t:TA}{name:Str}{apos cpos:Pos}{T id:String}{r:V->List V->Hp->VK->Prop}
theorem DP (pa:PlainAttrs T)(slot:Slot T name id)(hty:typeOf (.builtin id)=pure (.type "method_descriptor"))(hm:MtR X id r)(ho:PE X o to)(ha:PA X (e::es) t)
  (hbase:LZ o name X.env (eval o X.env)=eval o X.env:=by rfl)
  (hfew:((backTo cpos (Kx (e::es) X.env)).all (λx=> !x.1)&&(backToKw cpos (SZ [] X.env)).all (λx=>x.1.isSome)
   &&decide ((e::es).length+([]:List S0).length+(if ([]:List S0).isEmpty then 0 else 1)<30))=true:=by rfl)
  (hline:(apos.endLine == cpos.line)=true:=by rfl) (hs:Kx (e::es) X.env=(false,eval e X.env)::Kx es X.env:=by rfl) (hplain:(backTo cpos (Kx es X.env)).any (·.1)=false:=by rfl) :
  PE X (.Call (.Attribute o name apos) (e::es) [] cpos) (tBM X.K T r to t):=by
 intro pins s σ H Q I h;refine Qb hbase hfew hline rfl (bX (ho pins s σ H _ I h) λv s1 hh_=> ?_)
 obtain⟨x,H1,I1,r1,ty,q1⟩:=hh_;obtain⟨h1,h2⟩:=yP I1 r1 ty;refine⟨T,id,pa,slot,hty,h1,h2,?_⟩
 have hA:=ha cpos pins s1 σ H1 _ I1 q1;rw[hs]at hA ⊢;refine NP (by show(false||(backTo cpos (Kx es X.env)).any (·.1))=false;rw[hplain] <;> rfl) (Nl ?_)
 exact bX hA λus s2 ⟨vs,H2,I2,r2,q2⟩=>hm pins s2 σ H2 x vs v us Q I2 r1 r2 q2
end
def MtM (X:Cx)(id:String)(r:V->List V->Hp->VK->Prop):Prop:=
 ∀(pins:List (Addr×Obj)) (s:Kb) (σ:St) (H:Hp) (x:V) (xs:List V) (v:J8) (us:List J8) (Q:VK),Inv X pins σ H s->RelV x v->Vals xs us->r x xs H Q →
  wpAny (model X.prog X.w) X.A (call (.builtin id) (v::us)) (EP X pins σ Q) X.xe s
theorem Vals.one:∀{x:V} {us:List J8},Vals [x] us->∃u,us= [u]/\RelV x u
 | _,_,.cons r .nil=>⟨_,rfl,r⟩
theorem Vals.reverse {xs:List V}{us:List J8}(h:Vals xs us):Vals xs.reverse us.reverse:=by
 induction h with
 | nil=>exact .nil
 | cons r t ih=>rw[NT,NT];exact Vals.append ih (.cons r .nil)
theorem Vals.rep {xs:List V}{us:List J8}(h:Vals xs us):∀k:Nat,Vals (KC k xs).flatten (KC k us).flatten
 | 0=> .nil
 | k+1=>by
  rw[LW,LW,ME,ME];exact Vals.append h (Vals.rep h k)
theorem foldl_rep (its:List J8):∀(k:Nat) (acc:List J8),
  Ph (λx1 x2=>x1++x2) acc.toArray (KC k its.toArray)=(acc++(KC k its).flatten).toArray
 | 0,acc=>by simp
 | k+1,acc=>by
  have e:acc.toArray++its.toArray=(acc++its).toArray:=by simp
  have e2:(acc++its)++(KC k its).flatten=acc++(KC (k+1) its).flatten:=by
   rw[LW,ME,Lx]
  rw[<-e2,<-foldl_rep its k (acc++its),<-e,LW,List.foldl_cons]
section
variable {X:Cx}{pins:List (Addr×Obj)}{σ:St}{H:Hp}{s:Kb}{l b:Addr}{xs ys zs:List V}
theorem Inv.JW {its its':List J8}{n:Nat}{f:Array J8->Array J8}{t':Nat}(I:Inv X pins σ H s)(hH:H l=some (.lst xs))
  (e:s.heap.get? l=some { cls:=.type "list",data:=.seq its.toArray n }) (hf:f its.toArray=its'.toArray) (hv:Vals ys its') (hz:ys.length<=sizeLine) :
  Inv X pins σ (upd H l (.lst ys)) { s with heap:=s.heap.update l (K1 f),toks:=t' }:=by
 have q:=PySem.IsL.update e f;rw[hf]at q;refine I.write (x:=l) (e:=l) (by rw[hH];exact trivial) (.inl rfl) (λb' u hb hu=>(NQ s.heap (K1 f) (O5 hb)).trans hu) ⟨_,q⟩ ?_
 exact⟨hz,its',_,hv,q⟩
theorem Inv.JS {its:List J8}{t':Nat}(I:Inv X pins σ H s)(hv:Vals ys its)(hz:ys.length<=sizeLine) :
  Inv X pins σ (upd H s.heap.objs.size (.lst ys)) { s with heap:=s.heap.push { cls:=.type "list",data:=.seq its.toArray },toks:=t' }:=
 I.laid (λ_ _ q=>Kc _ q) (Ki _) ⟨hz,its,0,hv,Kn _ rfl⟩
theorem Inv.fresh (I:Inv X pins σ H s):H s.heap.objs.size=none:=I.hok.fresh (Ki _)
theorem Inv.Jo (I:Inv X pins σ H s)(hH:H l=some (.lst xs)):xs.length<=sizeLine/\∃(its:List J8) (n:Nat),Vals xs its/\xs.length=its.length/\s.heap.get? l=some { cls:=.type "list",data:=.seq its.toArray n }:=by
 obtain⟨z,its,n,r,e⟩:=I.hok l _ hH;exact⟨z,its,n,r,r.length,e⟩
theorem sR {n:Nat}(h:n<=sizeLine):MC n=false:=by
 unfold MC;exact decide_eq_false (by omega)
end
section
variable {X:Cx}
def B5:V->List V->Hp->VK->Prop:=λx vs H Q=> ∃l xs y,x= .ref l/\vs= [y]/\H l=some (.lst xs)/\xs.length<sizeLine/\Q .non (upd H l (.lst (xs++ [y])))
theorem oZ:MtM X "list.append" B5:=by
 intro pins s σ H x vs v us Q I rx rv h;obtain⟨l,xs,y,rfl,rfl,hH,hz,q⟩:=h;cases rx;obtain⟨u,rfl,ru⟩:=rv.one;obtain⟨z,its,n,r,hl,e⟩:=I.Jo hH;refine Ox F.slot_list_append ⟨_,e,rfl⟩ F.entry_list_append (F.args_list_append_2 _ _) (PySem.list_append l its.toArray n u (by rw[Kp];omega)) ⟨e,?_⟩
 refine⟨.non,_,I.JW (its':=its++ [u]) hH e (by simp) (r.append (.cons ru .nil)) ?_,rfl,q⟩
 rw[Kw,N9];omega
def B4:V->List V->Hp->VK->Prop:=λx vs H Q=> ∃l b xs zs,x= .ref l/\vs= [.ref b]/\H l=some (.lst xs)/\H b=some (.lst zs)/\xs.length+zs.length<=sizeLine/\Q .non (upd H l (.lst (xs++zs)))
theorem xP:MtM X "list.extend" B4:=by
 intro pins s σ H x vs v us Q I rx rv h;obtain⟨l,b,xs,zs,rfl,rfl,hH,hB,hz,q⟩:=h;cases rx;obtain⟨u,rfl,ru⟩:=rv.one;cases ru;obtain⟨z,its,n,r,hl,e⟩:=I.Jo hH;obtain⟨z2,its2,n2,r2,hl2,e2⟩:=I.Jo hB
 have hsz:its.toArray.size+its2.toArray.size<=sizeLine:=by rw[Kp,Kp];omega
 have hlong:¬ (!its.toArray.isEmpty&&MC (its.toArray.size+its2.toArray.size))=true:=by
  rw[sR hsz,Bool.and_false];exact KL
 refine Ox F.slot_list_extend ⟨_,e,rfl⟩ F.entry_list_extend (F.args_list_extend_2 _ _)
  (AutoSeq1.list_extend_list_list_0 l its.toArray n b its2.toArray n2 hlong (by rw[Kp];omega) (by omega)) ⟨e,e2,?_⟩
 refine⟨.non,_,I.JW (its':=its++its2) hH e (by simp) (r.append r2) ?_,rfl,q⟩
 rw[Kw];omega
def rCat:R2:=λx y H Q=> ∃l b xs zs,x= .ref l/\y= .ref b/\H l=some (.lst xs)/\H b=some (.lst zs)/\xs.length+zs.length<=sizeLine/\∀p,H p=none->Q (.ref p) (upd H p (.lst (xs++zs)))
theorem FA:pQ X (L6 .Add) rCat:=by
 intro pins s σ H x y v u Q I rx ry h;obtain⟨l,b,xs,zs,rfl,rfl,hH,hB,hz,q⟩:=h;cases rx;cases ry;obtain⟨z,its,n,r,hl,e⟩:=I.Jo hH;obtain⟨z2,its2,n2,r2,hl2,e2⟩:=I.Jo hB;refine PySem.P.add_list e e2 ?_ (by rw[Kp,Kp];omega)
 have ea:its.toArray++its2.toArray=(its++its2).toArray:=by simp
 rw[ea];exact⟨.ref _,_,I.JS (t':=s.toks) (r.append r2) (by rw[Kw];omega),rfl,q _ I.fresh⟩
def rRep:R2:=λx y H Q=> ∃l k xs,x= .ref l/\y= .int k/\H l=some (.lst xs)/\-(2 ^ 63)<=k/\k<2 ^ 63/\xs.length*k.toNat<=sizeLine ∧
 ∀p,H p=none->Q (.ref p) (upd H p (.lst (KC k.toNat xs).flatten))
theorem len_rep {α:Type}(xs:List α)(k:Nat):(KC k xs).flatten.length=k*xs.length:=by
 induction k with
 | zero=>simp
 | succ k ih=>rw[LW,ME,Kw,ih,Nat.succ_mul,Qh]
theorem Fw:pQ X (L6 .Mult) rRep:=by
 intro pins s σ H x y v u Q I rx ry h;obtain⟨l,k,xs,rfl,rfl,hH,h1,h2,hz,q⟩:=h;cases rx;obtain⟨t,rfl⟩:=ry;obtain⟨z,its,n,r,hl,e⟩:=I.Jo hH
 have hlen:its.toArray.size*k.toNat<=sizeLine:=by rw[Kp,<-hl];exact hz
 have hcap:¬ its.toArray.size*k.toNat > (2 ^ 63 - 1) / 8:=by
  have:(sizeLine:Nat)<=(2 ^ 63 - 1) / 8:=by decide
  omega
 have hfit:¬ (!Builtin.List.listFitsIndex k)=true:=by
  rw[fitsIndex_both h1 h2];exact KL
 have hlong:¬ MC (its.toArray.size*k.toNat)=true:=by
  rw[sR hlen];exact KL
 have hnew:Ph (λx1 x2=>x1++x2) #[] (KC (if its.toArray.isEmpty=true then 0 else k.toNat) its.toArray)=(KC k.toNat its).flatten.toArray:=by
  have f0:∀m:Nat,Ph (λx1 x2=>x1++x2) #[] (KC m its.toArray)=(KC m its).flatten.toArray:=λm=>by
   have:=foldl_rep its m [];rw[M5]at this;exact this
  rw[f0]
  cases its with
  | nil=>simp
  | cons a r'=>rw[if_neg (by simp)]
 refine Pb (T:="list") (U:="int") (by decide) ⟨_,e,rfl⟩ (λs'=>Qz s' k t) noFill_list_mul SJ OB repeat_list Sn.lookup
  (Ox OB (Qz s k t) So (RM _ _) (int___rmul___int_list k t l its.toArray n)
   ⟨e,rfl,⟨_,e,rfl⟩,Ox F.slot_list_mul ⟨_,e,rfl⟩ F.entry_list_mul (F.args_list_mul_2 _ _) (Rj l its.toArray n k t hfit hcap hlong) ⟨e,?_⟩⟩)
 rw[hnew];exact⟨.ref _,_,I.JS (t':=s.toks) (r.rep k.toNat) (by rw[len_rep,R9];exact hz),rfl,q _ I.fresh⟩
end
end L2
namespace Att
open PySem PySem.W PySem.Calls PyProof.Rows
theorem lz {P:Params}{h:Heap}:∀(ns:List Int) (vs:List J8),WellAll P h vs (ns.map WData.int)->LI vs ns:=by
 intro ns
 induction ns with
 | nil=>
  intro vs w;rw[Qg]at w;cases w
  exact .nil
 | cons n ns ih=>
  intro vs w;rw[Ke]at w
  cases w with
  | cons a b=>
   cases a;exact .cons _ _ (ih _ b)
theorem xt {l:OpenLaw}{n:Nat}(hn:l.most=some n){P:Params}{h:Heap}{args:List WData}{vals:List J8}
  (hpre:l.row.toRowW.claim.pre args=true) (hwl:WellAll P h vals args) :
  ∃a vs ns,vals= [KY a]/\args= [WData.list (ns.map WData.int)]/\h.get? a=some { cls:=.type "list",data:=.seq vs.toArray }/\LI vs ns/\ns.length<=n:=by
 have hsh:WShape.hasAll [] args [.list .int] =true:=(pre_splitW hpre).1
 have hc:l.pre.holds [] { args:=args }=true:=(pre_splitW hpre).2;obtain⟨d,r,rfl,h1,h2⟩:=hasAllW_cons hsh;obtain rfl:=hasAllW_nil h2;obtain⟨xs,rfl,h3⟩:=hasW_list h1;obtain⟨ns,rfl⟩:=items_int h3
 have hlen:ns.length<=n:=by
  unfold OpenLaw.pre at hc
  have h4:(WTm.not (.lt (.lit (.int (n:Int))) (.len (.arg 0)))).holds [] { args:=[.list (ns.map .int)] }=true:=by
   have h4:=(holds_andW hc).1;rw[hn]at h4;exact h4
  have h5:=condW_of h4 (w_not (w_lt w_lit (w_len_list (w_arg rfl))));rw[Kh]at h5;refine Nat.le_of_not_lt λq=> ?_
  have q':(n:Int)<((ns.length:Nat):Int):=by omega
  first
   | (rw[decide_eq_true q']at h5;exact absurd h5 (by decide))
   | (simp at h5;omega)
 cases hwl with
 | cons w1 w2=>
  cases w2
  cases w1 with
  | list ho hall=>exact⟨_,_,ns,rfl,rfl,ho,lz ns _ hall,hlen⟩
theorem xE (l:OpenLaw)(args:List WData):l.row.toRowW.claim.post args (.bool true) args=true:=
 postW_of (r:=l.row.toRowW) (X:=(true == true))
  (show WShape.has [] (.bool true) .bool=true by first | rfl | decide | simp[WShape.has,WShape.arms,WShape.armsAll])
  (show(WTm.eq .res (.lit (.bool true))).value [] { args:=args,res:=some (.bool true),after:=args }=some (.bool (true == true))from w_eq_bool (w_res rfl) w_lit) rfl
theorem attach_call {l:OpenLaw}{n:Nat}{q:Kz}{loose:List Str}{XP:(Str->Option J8)->Heap->Prop}{YP:Lb->Heap->Prop}{d:DefRec}
  (hn:l.most=some n) (hdf:d.params.defaults= [])
  (call:∀(w:Lb) (s₀ s₁:Kb) (mg mb:Str->Option J8) (fa:Addr) (o:Obj) (pm cd doc:J8) (a:Addr) (vs:List J8) (ns:List Int),
   Ground q loose [] XP w s₀ mg mb s₁.heap->YP w s₁.heap →
   s₁.heap.get? fa=some o->o.data= .func (docDef d.name d.params d.body d.scope pm cd doc)->s₁.heap.CodeRec cd d.name->mg d.name=some (.ref fa) →
   s₁.heap.get? a=some { cls:=.type "list",data:=.seq vs.toArray }->LI vs ns->ns.length<=n->s₁.gens= #[] →
   codeAny (model l.prog w) callerA (.call (.ref fa) ⟨[.ref a],[]⟩) (λr s'=>r= .ok (.ret (.bool true))/\OldK s₁.heap s'.heap/\s'.os=s₁.os/\MJ s'.gens) s₁) :
  WalkO q loose XP YP l.row.toRowW d [] (λf vs=>PySem.call f vs):=by
 intro w s₀ s₁ mg mb G Y fa o pm cd doc dV kV ho hd hcd hD hmg hg args vals as hpre hlay hrd hwl hlo;obtain rfl:dV= .none:=Dflts.none hD hdf;obtain rfl:kV= .none:=Dflts.noKw hD;obtain⟨a,vs,ns,rfl,rfl,hobj,hints,hlen⟩:=xt hn hpre hwl;refine enter_call (ND (call w s₀ s₁ mg mb fa o pm cd doc a vs ns G Y ho (fd_plain hd) hcd hmg hobj hints hlen hg) λr s' hq=> ?_)
 obtain⟨rfl,h2,h3,h4⟩:=hq;exact⟨.inl ⟨.bool true,.bool true,[],rfl,λ_=>rfl,.bool true,xE l _,λ_=>⟨Pe,λ_ hm=>(nomatch hm)⟩⟩,h2,h3,h4⟩
end Att
namespace L2
open PySem PySem.Spec PyProof.Rows
theorem fZ:∀{vs:List J8} {ns:List Int},LI vs ns->Vals (ns.map V.int) vs
 | _,_,.nil=> .nil
 | _,_,.cons n t h=> .cons ⟨t,rfl⟩ (fZ h)
def GJ (H:Hp):Prop:=∀b,H b=none\/(∃o xs,H b=some (.frz o (.lst xs)))\/H b=some (.tbl lr)
theorem Af {P:Kz}{w:Lb}{K:J6}{mg mb:Str->Option J8}{CX:yE}{k:Nat}{fa a:Addr}{fd:L7}{x:Str}{sp:Sp}{s₁:Kb}{vs:List J8}{ns:List Int}
  (KX:K.In s₁.heap) (hns:s₁.heap.Ns KF mg) (hb:s₁.heap.Ns NC mb) (hbb:∀x:Str,x≠ "__name__"->mb x=KQ x) (hlim:s₁.heap.NoLimit) (hg:s₁.gens= #[])
  (ha:s₁.heap.get? a=some { cls:=.type "list",data:=.seq vs.toArray }) (hi:LI vs ns) (hl:ns.length<=sizeLine) (hr:Room k callerA) {P0 c0:Addr} (hP:s₁.heap.TableAt c0 P0 #[]) (hPK:K.lookup P0=none) (hTb:∀H:Hp,H P0=some (.tbl lr)->Tb K mg H)
  (F:∀base:Heap,K.In base->base.Ns KF mg->rG P w K mg base CX k fa fd [x] sp) (hbind:∀(s:Kb) (u:J8),RY s fd ⟨[u],[]⟩ [(x,u)])
  (hsp:∀H:Hp,GJ H->SqL K H a (ns.map V.int)->sp [.ref a] H (λv _=>v= .bl true) λ_ _ _=>False)
  (hCX:∀H e s',CX [] H s₁ (λ_ _ _=>False) e s'->False) :
  codeAny (model P w) callerA (.call (.ref fa) ⟨[.ref a],[]⟩) (λr s'=>r= .ok (.ret (.bool true))/\OldK s₁.heap s'.heap/\s'.os=s₁.os/\MJ s'.gens) s₁:=by
 have rv:=fZ hi
 have lenV:=hi.length
 have hPe:=hP.2
 have hPa:P0≠a:=λz=>by subst z;rw[ha]at hPe;cases hPe
 have hPo:∀H:Hp,ObjOk P w H s₁.heap P0 (.tbl lr):=λH=>⟨#[],hPe,trivial,λpos v e=>by cases e⟩
 -- from an abstract heap in which nothing but the script may be tracked
 have core:∀H:Hp,GJ H->SqL K H a (ns.map V.int)->HOk P w H s₁.heap->(∀b,H b≠none->b=a\/b=P0)->(H a≠none->K.lookup a=none)->H P0=some (.tbl lr) →
   codeAny (model P w) callerA (.call (.ref fa) ⟨[.ref a],[]⟩) (λr s'=>r= .ok (.ret (.bool true))/\OldK s₁.heap s'.heap/\s'.os=s₁.os/\MJ s'.gens) s₁:=by
  intro H hO hS hok hA hK hHP
  have base_of:∀{b:Addr} {o:Obj},s₁.heap.get? b=some o->H b=none->(ri s₁.heap H).get? b=some o:=λe n=>AE e n
  have noA:∀{b:Addr} {o:Obj} {es:Array DictEntry} {ep:Nat},s₁.heap.get? b=some o->o.data= .dict es ep->H b=none:=λ{b o es ep} e d=>by
   cases q:H b with
   | none=>rfl
   | some u=>
    have e':b=a:=(hA b (by rw[q];simp)).resolve_right λz=>by subst z;rw[hPe]at e;cases e;cases d
    subst e';rw[ha]at e;cases e
    have d':Data.seq vs.toArray _=Data.dict es ep:=d;cases d'
  have nsK:∀{b:Addr} {m:Str->Option J8},s₁.heap.Ns b m->(ri s₁.heap H).Ns b m:=λ{b m} ⟨o,es,ep,e,d,r⟩=>⟨o,es,ep,base_of e (noA e d),d,r⟩
  have hKb:K.In (ri s₁.heap H):=λb o e=>base_of (KX b o e) (by
   cases q:H b with
   | none=>rfl
   | some u=>
    have e':b=a:=(hA b (by rw[q];simp)).resolve_right λz=>by subst z;rw[hPK]at e;cases e
    subst e';rw[hK (by rw[q];simp)]at e;cases e)
  have hM:Mod K mg (ri s₁.heap H):=⟨hKb,nsK hns,⟨mb,nsK hb,hbb⟩,let ⟨mc,h1,h2⟩:=hlim;⟨mc,nsK h1,h2⟩⟩
  have e0:Env0 P w K mg (ri s₁.heap H) callerA [] s₁ H:=⟨rfl,hM,λb o e=>CN e,NA (x5 _ _),trivial,λb hb=>absurd (show b∈([]:List Addr)from hb) (by simp),hok,.of_eq hg,hTb H hHP⟩
  refine ND ((F _ hKb (nsK hns)).run callerA [] s₁ H ⟨[.ref a],[]⟩ [.ref a] [.ref a] _ _ hr e0 (hbind s₁ (.ref a)) (.cons rfl .nil) (hsp H hO hS)) λr s' h=> ?_
  cases r with
  | error e=>exact(hCX H e s' h).elim
  | ok fl=>
   cases fl with
   | next=>exact Md h
   | brk=>exact Md h
   | cont=>exact Md h
   | ret u=>
    obtain⟨v,H',os,bare,un,hok',r',q⟩:=h
    have q':v= .bl true:=q;subst q';obtain rfl:u=Lw true:=r'
    have hP':=un.tbls P0 _ hHP;obtain⟨ps,eP,_⟩:=hok' P0 _ hP'
    have key:∀b o,b≠P0->s₁.heap.get? b=some o->s'.heap.get? b=some o:=?key
    ·refine⟨rfl,⟨λb o e=> ?_,λb o e=> ?_⟩,os,bare⟩
     ·by_cases hb:b=P0
      ·subst hb
       rw[hPe]at e;cases e;exact .inr (.inl ⟨hP.isCodeTable,rfl,#[],ps,rfl,by simpa using eP⟩)
      ·exact .inl (key b o hb e)
     ·by_cases hb:b=P0
      ·subst hb;exact⟨_,eP⟩
      ·exact⟨o,key b o hb e⟩
    intro b o hbP e
    cases q:H b with
    | none=>exact un.keep b o e q (by intro z;exact absurd (show b∈([]:List Addr)from z) (by simp)) (by simp)
    | some u=>
     rcases hO b with z | ⟨ob,xs,z⟩ | z
     ·rw[q]at z;cases z
     ·have z2:=un.frzs b ob _ z
      obtain⟨e1,_⟩:=hok b _ z;obtain⟨e2,_⟩:=hok' b _ z2;rw[e]at e1;cases e1;exact e2
     ·rcases hA b (by rw[z];simp)with y | y
      ·subst y;have:=hok b _ z;obtain⟨_,e3,_⟩:=this;rw[ha]at e3;cases e3
      ·exact absurd y hbP
 cases hk:K.lookup a with
 | some o=>
  -- the script is one of the module's own objects
  have e:=KX a o hk;rw[ha]at e;cases e;refine core (λb=>if b=P0 then some (.tbl lr)else none) (λb=> ?_) (.inr ⟨_,vs.toArray,_,hk,rfl,rfl,rfl,by rw[Kp,lenV];exact hl,by simpa using rv⟩) (λb u z=> ?_) (λb z=> ?_) (λz=>absurd (if_neg hPa.symm) z) (if_pos rfl)
  ·by_cases hb:b=P0
   ·exact .inr (.inr (if_pos hb))
   ·exact .inl (if_neg hb)
  ·by_cases hb:b=P0
   ·have z':=(if_pos hb).symm.trans z
    cases z';subst hb;exact hPo _
   ·have z':=(if_neg hb).symm.trans z
    cases z'
  ·by_cases hb:b=P0
   ·exact .inr hb
   ·exact absurd (if_neg hb) z
 | none=>
  have hF:∀b,b≠a->b≠P0->(if b=a then some (HO.frz { cls:=.type "list",data:=.seq vs.toArray } (.lst (ns.map V.int)))else if b=P0 then some (.tbl lr)else none)=none:=λb h1 h2=>by rw[if_neg h1,if_neg h2]
  have hG:∀b,b≠a->b=P0->(if b=a then some (HO.frz { cls:=.type "list",data:=.seq vs.toArray } (.lst (ns.map V.int)))else if b=P0 then some (.tbl lr)else none)=some (.tbl lr):=λb h1 h2=>by rw[if_neg h1,if_pos h2]
  refine core (λb=>if b=a then some (.frz { cls:=.type "list",data:=.seq vs.toArray } (.lst (ns.map V.int)))else if b=P0 then some (.tbl lr)else none) (λb=> ?_) (.inl (.inr ⟨{ cls:=.type "list",data:=.seq vs.toArray },if_pos rfl⟩)) (λb u z=> ?_) (λb z=> ?_) (λ_=>hk) (hG P0 hPa rfl)
  ·by_cases hb:b=a
   ·exact .inr (.inl ⟨_,_,if_pos hb⟩)
   ·by_cases hb2:b=P0
    ·exact .inr (.inr (hG b hb hb2))
    ·exact .inl (hF b hb hb2)
  ·by_cases hb:b=a
   ·have z':=(if_pos hb).symm.trans z
    cases z';subst hb;exact⟨ha,by rw[Kh];exact hl,vs,_,rv,ha⟩
   ·by_cases hb2:b=P0
    ·have z':=(hG b hb hb2).symm.trans z
     cases z';subst hb2;exact hPo _
    ·have z':=(hF b hb hb2).symm.trans z
     cases z'
  ·by_cases hb:b=a
   ·exact .inl hb
   ·by_cases hb2:b=P0
    ·exact .inr hb2
    ·exact absurd (hF b hb hb2) z
def gD (s:Stmt):Of:=match s with
 | .FunctionDef _ a _ _ _ _ _ _ _ _=>a
 | _=> { posonlyargs:=[],args:=[],vararg:=none,kwonlyargs:=[],kw_defaults:=[],kwarg:=none,defaults:=[] }
def cO (s:Stmt):List Stmt:=match s with
 | .FunctionDef _ _ b _ _ _ _ _ _ _=>b
 | _=> []
def aj (s:Stmt):NN:=match s with
 | .FunctionDef _ _ _ _ _ _ sc _ _ _=>sc
 | _=> { kind:=.function,names:=[],isGenerator:=false,isCoroutine:=false }
abbrev CX0:yE:=λ_ _ _ _ _ _=>False
abbrev E0:XK:=λ_ _ _=>False
theorem DQ {X:Cx}:vj CX0 X E0:=λ_ _ _ _ _ _ _ h=>h.elim
structure Fun (K:J6)(x qual:Str)(st:Stmt)(f:Addr)(fd:L7):Prop where
 ex:∃(oc:J8) (od:Option Addr) (kV doc pm:J8) (an:Option Addr) (cdv ct:J8) (osl:Array (Option J8)),
  fd=N6 x qual (gD st) (cO st) (aj st) .none kV doc pm an cdv ct/\K.lookup f=some ⟨oc,od,.func fd,osl⟩/\QP K cdv qual=true
 kp:N1 K (.ref f)=true
section
variable {P:Kz}{w:Lb}{K:J6}{mg:Str->Option J8}{base:Heap}
theorem Fun.ok {x qual:Str}{st:Stmt}{f:Addr}{fd:L7}{N ps:List Str}{k:Nat}{sp:Sp}(F:Fun K x qual st f fd)(S:ax N ps (aj st))(len:∀vs H Q E,sp vs H Q E->vs.length=ps.length)
  (hbody:∀(cdv:J8),fd.code=cdv->∀(A:KU) (outer:List Env) (s:Kb) (H:Hp) (vs:List V) (Q:VK) (E:XK),Room k (A.deeper (envOfC qual (aj st) s.heap.objs.size f cdv))->sp vs H Q E →
   ∃t,PSs (iy CX0 P w K mg base N qual (aj st) f cdv A outer s H E).nox (cO st) t/\t { nx:=λ_ H'=>Q .non H',rt:=Q } (start N vs) H):rG P w K mg base CX0 (k+1) f fd ps sp:=by
 obtain⟨oc,od,kV,doc,pm,an,cdv,ct,osl,rfl,lk,hcd⟩:=F.ex;refine IA lk hcd S len λA outer s H vs Q E hr hsp=> ?_
 obtain⟨t,h,q⟩:=hbody cdv rfl A outer s H vs Q E hr hsp;exact⟨t,h.nox,q⟩
theorem Fun.binds {x qual:Str}{st:Stmt}{f:Addr}{fd:L7}{ps:List Str}(F:Fun K x qual st f fd)
  (h:∀(kV doc pm:J8) (an:Option Addr) (cdv ct:J8) (us:List J8),us.length=ps.length->SF (N6 x qual (gD st) (cO st) (aj st) .none kV doc pm an cdv ct) ⟨us,[]⟩=pure (ps.zip us)):Binds K fd ps []:=by
 obtain⟨oc,od,kV,doc,pm,an,cdv,ct,osl,rfl,lk,hcd⟩:=F.ex;exact .all (h kV doc pm an cdv ct)
theorem Gb {x qual:Str}{st:Stmt}{f:Addr}{oc:J8}{od an:Option Addr}{osl:Array (Option J8)}{kV doc pm cdv ct:J8}(l:K.lookup f=some ⟨oc,od,.func (N6 x qual (gD st) (cO st) (aj st) .none kV doc pm an cdv ct),osl⟩)
  (c:QP K cdv qual=true) (k:N1 K (.ref f)=true):Fun K x qual st f (N6 x qual (gD st) (cO st) (aj st) .none kV doc pm an cdv ct):=⟨⟨oc,od,kV,doc,pm,an,cdv,ct,osl,rfl,l,c⟩,k⟩
end
theorem iteF {A B:Prop}(h:B):if false=true then A else B:=by
 rw[if_neg KL];exact h
theorem iteT {A B:Prop}(h:A):if true=true then A else B:=by
 rw[if_pos rfl];exact h
def Same (H H':Hp):Prop:=∀b o,H b=some o->H' b=some o
theorem Same.refl (H:Hp):Same H H:=λ_ _ h=>h
theorem Same.trans {H H1 H2:Hp}(a:Same H H1)(b:Same H1 H2):Same H H2:=λc o h=>b c o (a c o h)
theorem jA {env:Env}:∀(names:List (Str×Nc)) (acc:List (Str×Addr)),
  (∀x,(x,K4)∈names->∃c,env.cells.lookup x=some c) →
  (∀x c,acc.lookup x=some c->env.cells.lookup x=some c) →
  ∃cl,(forIn (m:=Sem) names acc (λx cs=>(if (x.2 == K4)=true then do let a <-cellOf env x.1;pure (M6 ((x.1,a)::cs))else pure (M6 cs))))=pure cl ∧
   (∀x c,cl.lookup x=some c->env.cells.lookup x=some c) ∧
   (∀x,(x,K4)∈names->∃c,cl.lookup x=some c)/\(∀x c,acc.lookup x=some c->∃c',cl.lookup x=some c')
 | [],acc,_,h=>⟨acc,rfl,h,λx hx=>by simp at hx,λx c e=>⟨c,e⟩⟩
 | (n,k)::r,acc,hf,h=>by
  by_cases hk:k=K4
  ·subst hk
   obtain⟨c,hc⟩:=hf n (by simp)
   have h':∀x c',((n,c)::acc).lookup x=some c'->env.cells.lookup x=some c':=λx c' e=>by
    rw[K8]at e
    cases q:x == n with
    | true=>
     rw[q]at e
     have e2:c=c':=KO e
     have e3:x=n:=by simpa using q
     rw[<-e2,e3];exact hc
    | false=>rw[q]at e;exact h x c' e
   obtain⟨cl,e1,e2,e3,e4⟩:=jA r ((n,c)::acc) (λx hx=>hf x (Ka _ hx)) h'
   refine⟨cl,?_,e2,λx hx=> ?_,λx c' e=> ?_⟩
   ·rw[SK]
    simp only[beq_self_eq_true,if_true,cellOf,hc,pure_bind];exact e1
   ·rcases Ko.mp hx with z | z
    ·have z1:x=n:=by injection z
     subst z1;exact e4 x c (by simp[K8])
    ·exact e3 x z
   ·cases q:x == n with
    | true=>exact e4 x c (by simp[K8,q])
    | false=>exact e4 x c' (by simp[K8,q,e])
  ·have hb:(k == K4)=false:=by simpa using hk
   obtain⟨cl,e1,e2,e3,e4⟩:=jA r acc (λx hx=>hf x (Ka _ hx)) h
   refine⟨cl,?_,e2,λx hx=> ?_,e4⟩
   ·rw[SK]
    simp only[hb,Lq,if_false,pure_bind];exact e1
   ·rcases Ko.mp hx with z | z
    ·have z1:K4=k:=by injection z
     exact absurd z1.symm hk
    ·exact e3 x z
theorem vc {env:Env}{scope:NN}(hf:∀x,(x,K4)∈scope.names->∃c,env.cells.lookup x=some c) :
  ∃cl,QB scope env=pure cl/\(∀x c,cl.lookup x=some c->env.cells.lookup x=some c)/\(∀x,(x,K4)∈scope.names->∃c,cl.lookup x=some c):=by
 obtain⟨cl,e1,e2,e3,_⟩:=jA scope.names [] hf (λx c e=>by simp at e)
 refine⟨cl,?_,e2,e3⟩
 unfold QB;refine Eq.trans ?_ (congrArg (λz=>z >>= pure) e1|>.trans (by simp))
 rfl
theorem rq {pr:Kz}{wd:Lb}{Ar:KU}{Rz:Result->Kb->Prop}{s0:Kb}{el tg it0:Expr}{cs:List Expr}{sc:NN}{ps:Pos}{itv av:J8}{ev:Env}(W:Nat->Kb->Prop)
  (go:∀k st,W k st->wpAny (model pr wd) Ar (pyNext itv) (λr s1=>match r with
   | none=>Rz (.ok .next) s1
   | some v=>wpAny (model pr wd) Ar (NL tg itv v) (λ_ s2=>wpAny (model pr wd) Ar (assign tg ev v) (λ_ s3=>
     wpAny (model pr wd) Ar (forIn cs true λc b=>if b=true then do let z <-isTrue c ev (eval c ev);pure (M6 z)else pure (M6 b)) (λz s4=>
      if z=true then wpAny (model pr wd) Ar (eval el ev) (λy s5=>
       wpAny (model pr wd) Ar (call (.builtin "list.append") [av,y]) (λ_ s6=> ∃m,m<k/\W m s6) (λ_ _=>False) s5) (λ_ _=>False) s4
      else ∃m,m<k/\W m s4) (λ_ _=>False) s3) (λ_ _=>False) s2) (λ_ _=>False) s1) (λ_ _=>False) st)
  (k:Nat) (hk:W k s0):codeAny (model pr wd) Ar (.compLoop (.ListComp el [⟨tg,it0,cs,0⟩] sc ps) 0 itv av ev) Rz s0:=by
 refine codeAny_loop rfl W (λk st hw=> ?_) k hk
 show wpAny (model pr wd) Ar ((compTurn (.ListComp el [⟨tg,it0,cs,0⟩] sc ps) 0 itv av ev).onRaise (λz=>do noteFrame z ev;theTreesLotGoes z)) _ _ st
 refine wpAny_noted ?_
 rw[compTurn_list]
 have no:∀{α:Type} {t:Sem α} {Q Q':α->Kb->Prop} {E':J8->Kb->Prop} {x:Kb},wpAny (model pr wd) Ar t Q (λ_ _=>False) x->(∀y z,Q y z->Q' y z)->wpAny (model pr wd) Ar t Q' E' x:=λh f=>Mr h f λ_ _ z=>z.elim
 refine J5 (wpAny_standAt (J5 (no (go k st hw) λr s1 g1=> ?_)))
 cases r with
 | none=>exact Kd g1
 | some v=>
  refine J5 (no g1 λ_ s2 g2=>J5 (no g2 λ_ s3 g3=>J5 (no g3 λz s4 g4=> ?_)))
  cases z with
  | false=>exact Kd (And.intro rfl g4)
  | true=>exact J5 (J5 (no g4 λy s5 g5=>J5 (no g5 λ_ s6 g6=>Kd (Kd (And.intro rfl g6)))))
def cm (X:Cx)(scope:NN)(cl:List (Str×Addr))(N':List Str)(C:Addr)(s₀:Kb)(H₀:Hp)(fp:List Addr):Cx:=
 { X with N:=N',s₀:=s₀,H₀:=H₀,env:=compEnvC scope cl C X.env,outer:=X.stack,stack:=X.stack,ex:=fp,fn:=λx=>scope.names.lookup x == some .cell,xe:=λ_ _=>False }
def eV (src:List (Option Nat))(σ:St):St:=src.map λo=>match o with
 | some i=>(σ[i]?).join
 | none=>none
theorem ik {env:Env}:∀{names:List (Str×Nc)} {x:Str} {k:Nc},
  (names.map λ(n,k)=>if (k == K4&&env.scope.kind == .function&&env.kindOf n == some .cell)then(n,LK)else(n,k)).lookup x=some k →
  ∃k',names.lookup x=some k'/\(k=k'\/k'= .free)
 | [],_,_,h=>by simp at h
 | (n,k0)::r,x,k,h=>by
  have ih:=@ik env r x k
  have h':Nv x ((if (k0 == K4&&env.scope.kind == .function&&env.kindOf n == some .cell)=true then(n,LK)else(n,k0))::(r.map λ(n,k)=>if (k == K4&&env.scope.kind == .function&&env.kindOf n == some .cell)then(n,LK)else(n,k)))=some k:=h
  by_cases hc:(k0 == K4&&env.scope.kind == .function&&env.kindOf n == some .cell)=true
  ·rw[if_pos hc]at h'
   rw[K8]at h' ⊢
   cases hx:x == n with
   | true=>
    refine⟨k0,rfl,.inr ?_⟩
    have:=L9.mp hc|>.1
    have:=L9.mp this|>.1
    simpa using this
   | false=>rw[hx]at h';exact ih h'
  ·rw[if_neg hc]at h'
   rw[K8]at h' ⊢
   cases hx:x == n with
   | true=>rw[hx]at h';exact⟨k0,rfl,.inl (KO h').symm⟩
   | false=>rw[hx]at h';exact ih h'
theorem iV {names:List (Str×Nc)}{x:Str}{k:Nc}(h:names.lookup x=some k):(x,k)∈names:=Mg h
theorem gO {env:Env}:∀{names:List (Str×Nc)} {x:Str},names.lookup x=some .free →
  (names.map λ(n,k)=>if (k == K4&&env.scope.kind == .function&&env.kindOf n == some .cell)then(n,LK)else(n,k)).lookup x=some .cell ∨
  (names.map λ(n,k)=>if (k == K4&&env.scope.kind == .function&&env.kindOf n == some .cell)then(n,LK)else(n,k)).lookup x=some .free
 | [],_,h=>by simp at h
 | (n,k0)::r,x,h=>by
  have ih:=@gO env r x
  show Nv x ((if (k0 == K4&&env.scope.kind == .function&&env.kindOf n == some .cell)=true then(n,LK)else(n,k0))::_)=_\/Nv x ((if (k0 == K4&&env.scope.kind == .function&&env.kindOf n == some .cell)=true then(n,LK)else(n,k0))::_)=_
  rw[K8]at h
  by_cases hc:(k0 == K4&&env.scope.kind == .function&&env.kindOf n == some .cell)=true
  ·rw[if_pos hc]
   rw[K8]
   cases hx:x == n with
   | true=>exact .inl rfl
   | false=>rw[hx]at h;exact ih h
  ·rw[if_neg hc]
   rw[K8]
   cases hx:x == n with
   | true=>rw[hx]at h;exact .inr h
   | false=>rw[hx]at h;exact ih h
section
variable {X:Cx}
structure LcScope (X:Cx)(scope:NN)(N':List Str)(src:List (Option Nat)):Prop where
 kind:scope.kind= .function
 cel:∀y∈scope.names,y.2= .cell->scope.names.lookup y.1=some .cell
 loc:∀y∈scope.names,y.2= .local->scope.names.lookup y.1=some .local
 len:src.length=N'.length
 from_:∀(j i:Nat) (x:Str),src[j]? =some (some i)->N'[j]? =some x->X.N[i]? =some x/\scope.names.lookup x=some .free
 free:∀x,(x,K4)∈scope.names->X.env.kindOf x=some .cell\/X.env.kindOf x=some .free
def G1 (K:J6)(wi:TI)(src:List (Option Nat))(g:TG)(tc:TT)(te:TE):TE:=λσ H Q=>wi σ H λJ H1=> ∀D,H1 D=none->K.lookup D=none →
 ∃W:Nat->Nat->St->List V->Hp->Prop,(∃m,W 0 m (eV src σ) [] (upd H1 D (.lst [])))/\∀i m σ ys H,W i m σ ys H->H D=some (.lst ys) ∧
  ((J.stop i H/\Q (.ref D) H)\/(J.go i H/\ys.length<sizeLine/\∀x H',J.yld i H x H'->g x σ H' λσ2 H2=>tc σ2 H2 λb H3=>
   if b=true then te σ2 H3 λv H4=>H4 D=some (.lst ys)/\∃m',m'<m/\W (i+1) m' σ2 (ys++ [v]) (upd H4 D (.lst (ys++ [v])))else ∃m',m'<m/\W (i+1) m' σ2 ys H3))
def yD (X:Cx)(ifs:List Expr)(t:TT):Prop:=
 ∀(pins:List (Addr×Obj)) (s:Kb) (σ:St) (H:Hp) (Q:Bool->Hp->Prop),Inv X pins σ H s->t σ H Q →
  wpAny (model X.prog X.w) X.A (forIn ifs true λc r=>if r=true then do let ok <-isTrue c X.env (eval c X.env);pure (M6 ok)else pure (M6 r)) (TP X pins σ Q) X.xe s
def GV:TT:=λ_ H Q=>Q true H
theorem Cv:yD X [] GV:=λ_ _ _ H _ I h=>wpAny_tests_nil ⟨H,I,h⟩
theorem Cu {c:Expr}{t:TT}(h:PT X c t):yD X [c] t:=λpins s σ H Q I q=>wpAny_tests_one (h pins s σ H Q I q)
theorem kJ:∀(names:List (Str×Nc)) (h:Heap) (acc:List (Str×Addr)),(∀x y c,acc.lookup x=some c->acc.lookup y=some c->x=y)->(∀x c,acc.lookup x=some c->c<h.objs.size) →
  (∀x c,(MK h.objs.size names acc).lookup x=some c->acc.lookup x=some c\/(h.objs.size<=c/\(Qu h names).IsCell c none)) ∧
  (∀x y c,(MK h.objs.size names acc).lookup x=some c->(MK h.objs.size names acc).lookup y=some c->x=y) ∧
  (∀x,(x,LK)∉names->(MK h.objs.size names acc).lookup x=acc.lookup x) ∧
  (∀x,((x,LK)∈names\/∃c,acc.lookup x=some c)->∃c,(MK h.objs.size names acc).lookup x=some c) ∧
  (∀x c,(x,LK)∈names->(MK h.objs.size names acc).lookup x=some c->h.objs.size<=c)
 | [],h,acc,hi,_=>⟨λ_ _ e=> .inl e,hi,λ_ _=>rfl,λx e=>e.elim (λz=>absurd z Ll) id,λ_ _ z=>absurd z Ll⟩
 | (n,k)::r,h,acc,hi,hl=>by
  unfold MK Qu
  by_cases hk:k= .cell
  ·subst hk
   rw[if_pos (by rfl),if_pos (by rfl)]
   have hz:(h.push { cls:=.type "cell",data:=.cell none }).objs.size=h.objs.size+1:=Mc ..
   have lk:∀x,((n,h.objs.size)::acc).lookup x=if x=n then some h.objs.size else acc.lookup x:=λx=>by
    rw[K8]
    by_cases e:x=n
    ·rw[if_pos e,beq_iff_eq.mpr e]
    ·rw[if_neg e,beq_eq_false_iff_ne.mpr e]
   obtain⟨c1,c2,c3,c4,c5⟩:=kJ r (h.push { cls:=.type "cell",data:=.cell none }) ((n,h.objs.size)::acc) (λx y c e1 e2=>by
     rw[lk]at e1 e2
     by_cases q1:x=n
     ·by_cases q2:y=n
      ·rw[q1,q2]
      ·rw[if_pos q1]at e1;rw[if_neg q2]at e2
       cases e1;exact absurd (hl _ _ e2) (KW _)
     ·rw[if_neg q1]at e1
      by_cases q2:y=n
      ·rw[if_pos q2]at e2
       cases e2;exact absurd (hl _ _ e1) (KW _)
      ·rw[if_neg q2]at e2;exact hi x y c e1 e2) (λx c e=>by
     rw[lk]at e;rw[hz]
     by_cases q:x=n
     ·rw[if_pos q]at e;cases e;exact MT _
     ·rw[if_neg q]at e;exact Lc (hl x c e))
   rw[hz]at c1 c2 c3 c4 c5;refine⟨λx c e=> ?_,c2,λx hx=> ?_,λx hx=> ?_,λx c hx e=> ?_⟩
   ·rcases c1 x c e with z | z
    ·rw[lk]at z
     by_cases q:x=n
     ·rw[if_pos q]at z;cases z
      exact .inr ⟨Ki _,_,Qv r _ _ _ (Kn _ rfl),rfl⟩
     ·rw[if_neg q]at z;exact .inl z
    ·exact .inr ⟨NU z.1,z.2⟩
   ·rw[c3 x λz=>hx (Ka _ z),lk,if_neg λz=>hx (by rw[z];exact Kg)]
   ·refine c4 x ?_
    rcases hx with hx | hx
    ·rcases Ko.mp hx with z | z
     ·cases z
      exact .inr ⟨_,by rw[lk,if_pos rfl]⟩
     ·exact .inl z
    ·by_cases q:x=n
     ·exact .inr ⟨_,by rw[lk,if_pos q]⟩
     ·exact .inr (by rw[lk,if_neg q];exact hx)
   ·rcases Ko.mp hx with z | z
    ·have q:x=n:=(Px z).1
     rcases c1 x c e with y | y
     ·rw[lk,if_pos q]at y;cases y;exact Ki _
     ·exact NU y.1
    ·exact NU (c5 x c z e)
  ·have hb:¬ (k == LK)=true:=λz=>hk (by simpa using z)
   rw[if_neg hb,if_neg hb];obtain⟨c1,c2,c3,c4,c5⟩:=kJ r h acc hi hl;exact⟨c1,c2,λx hx=>c3 x λz=>hx (Ka _ z),λx hx=>c4 x (hx.imp (λz=>(Ko.mp z).resolve_left λz=>hk (Px z).2.symm) id),λx c hx=>c5 x c ((Ko.mp hx).resolve_left λz=>hk (Px z).2.symm)⟩
theorem xN {M:Model}{A:KU}{E:J8->Kb->Prop}{s:Kb}{scope:NN}{globals:Addr}{cl:List (Str×Addr)}{qual:Str}{env:Env}{Q:Env->Kb->Prop}
  (q:Q (newEnv scope s.heap.objs.size globals (MK (s.heap.objs.size+1) scope.names cl) qual none .none (some env) NC) { s with heap:=Qu (s.heap.push { cls:=.type "dict",data:=.dict #[] }) scope.names }) :
  wpAny M A (newFunctionEnv scope globals cl [] qual none .none (some env)) Q E s:=by
 simp only[newFunctionEnv,Rk,if_true];refine J5 (wpAny_alloc (J5 (wpAny_layCells _ (λname kind cells=>by cases hkc:kind == LK <;> simp[hkc]) _ _ _ _ ?_)))
 rw[show({ s with heap:=s.heap.push { cls:=.type "dict",data:=.dict #[] } }:Kb).heap.objs.size=s.heap.objs.size+1 from Mc ..]
 rw[List.forIn_nil];exact J5 (Kd (Kd q))
theorem wg {elt tg iter:Expr}{ifs:List Expr}{scope:NN}{pos fpos:Pos}{N':List Str}{src:List (Option Nat)}{wi:TI}{g:TG}{tc:TT}{te:TE}{use:Option (J8->Sem Unit)}{Qf:J8->Kb->Prop}
  {pins:List (Addr×Obj)} {s:Kb} {σ:St} {H:Hp} {Q:VK}
  (hc:X.calm=true) (S:LcScope X scope N' src) (hi:PI X tg iter wi)
  (block:∀cl C s₀ H₀ fp,PG (cm X scope cl N' C s₀ H₀ fp) tg g/\yD (cm X scope cl N' C s₀ H₀ fp) ifs tc/\PE (cm X scope cl N' C s₀ H₀ fp) elt te)
  (hs:∀x,Lz iter X.env x=pure x) (I:Inv X pins σ H s) (h:G1 X.K wi src g tc te σ H Q)
  (hend:∀(D C:Addr) (H':Hp) (s':Kb),(∃m,s'.heap.Ns C m)->(∀h',Nz C s'.heap h'->Inv X pins σ H' { s' with heap:=h' })->(H' C=none/\C≠X.env.locals/\X.s₀.heap.objs.size<=C/\(∀x c,X.env.cells.lookup x=some c->c≠C)/\∀p∈X.pn++pins,p.1≠C)->Q (.ref D) H' →
   compPost (model X.prog X.w) X.A X.xe use Qf (.ref D) C (.ok .next) s') :
  wpAny (model X.prog X.w) X.A (comprehension (.ListComp elt [⟨tg,iter,ifs,0⟩] scope pos) scope X.env fpos (newList []) false (eval iter X.env) use) Qf X.xe s:=by
 have hcell:∀x,(x,K4)∈scope.names->∃c,X.env.cells.lookup x=some c:=λx hx=>I.ok.has x (S.free x hx)
 obtain⟨cl0,hcl,cl01,cl02⟩:=vc (env:=X.env) (scope:=scope) hcell;refine wpAny_comprehension_free (use:=use) rfl hs hcl S.kind S.loc (bX (hi pins s σ H _ I h) λv s1 h1=>bX h1 λitv s2 h2=> ?_)
 obtain⟨it,fp,tn,J,H2,e,I2,T,st2,f2,hq⟩:=h2;subst e
 -- the new list
 refine KR ?_
 have hD:H2 s2.heap.objs.size=none:=I2.hok.fresh (Ki _)
 have hDK:X.K.lookup s2.heap.objs.size=none:=by
  cases q:X.K.lookup s2.heap.objs.size with
  | none=>rfl
  | some o=>exact absurd (Kk (I2.kIn _ o q)) (KW _)
 obtain⟨W,⟨m0,w0⟩,turn⟩:=hq s2.heap.objs.size hD hDK
 have I3:=I2.JS (its:=[]) (ys:=[]) (t':=s2.toks) .nil (K3 _)
 generalize hs3:({ s2 with heap:=s2.heap.push { cls:=.type "list",data:=.seq ([]:List J8).toArray },toks:=s2.toks }:Kb)=s3 at I3
 generalize hH3:upd H2 s2.heap.objs.size (.lst [])=H3 at I3 w0
 have hDsz:s2.heap.objs.size<s3.heap.objs.size:=by rw[<-hs3];simp[Mc]
 have fr3:∀b∈fp,H3 b=none:=λb hb=>by
  obtain⟨o,eo,_⟩:=T.obj _ _ st2 b hb;rw[<-hH3,aJ (Ky (Kk eo))];exact(f2 b hb).1
 have st3:tn 0 s3.heap:=T.keep _ _ _ st2 λb hb o e=>by rw[<-hs3];exact Kc _ e
 have f3:∀b∈fp,nX X pins H3 b:=λb hb=>⟨fr3 b hb,(f2 b hb).2⟩
 have D3:H3 s2.heap.objs.size=some (.lst []):=by rw[<-hH3];exact aT
 generalize s2.heap.objs.size=D at*
 clear hs3 hH3 hD hDK
 -- the block's frame
 refine xN ?_
 have old:∀b o,s3.heap.get? b=some o->(Qu (s3.heap.push { cls:=.type "dict",data:=.dict #[] }) scope.names).get? b=some o:=λb o e=>Qv _ _ b o (Kc _ e)
 have hns₁:(Qu (s3.heap.push { cls:=.type "dict",data:=.dict #[] }) scope.names).Ns s3.heap.objs.size (λ_=>none):=(Heap.Ns.new s3.heap (.type "dict")).keeps (Qv _ _)
 have hz3:(s3.heap.push { cls:=.type "dict",data:=.dict #[] }).objs.size=s3.heap.objs.size+1:=Mc ..
 have lt0:∀x c,cl0.lookup x=some c->c<s3.heap.objs.size:=λx c e=>let ⟨_,ic⟩:=I3.cell x c (cl01 x c e);ic.lt
 obtain⟨c1,c2,c3,c4,c5⟩:=kJ scope.names (s3.heap.push { cls:=.type "dict",data:=.dict #[] }) cl0 (λx y c e1 e2=>I3.ok.inj x y c (cl01 x c e1) (cl01 y c e2)) λx c e=>by rw[hz3];exact Lc (lt0 x c e)
 rw[hz3]at c1 c2 c3 c4 c5
 generalize hcl':MK (s3.heap.objs.size+1) scope.names cl0=cl at*
 generalize hh₁:Qu (s3.heap.push { cls:=.type "dict",data:=.dict #[] }) scope.names=h₁ at*
 have below:∀b o,s3.heap.get? b=some o->b≠s3.heap.objs.size:=λb o e=>Ky (Kk e)
 -- a cell of the block's: one from around,or a new one
 have cl1:∀x c,cl.lookup x=some c->X.env.cells.lookup x=some c\/(s3.heap.objs.size<c/\h₁.IsCell c none):=λx c e=>(c1 x c e).imp (cl01 x c) id
 generalize hC:s3.heap.objs.size=C at*
 have stk:∀b,b≠X.env.locals->b∉X.fs->b∉jE X.stack:=λb h1 h2 z=>(Ko.mp (I3.JA b z)).elim h1 h2
 have apart:∀b∈fp,∀x c,cl.lookup x=some c->c≠b:=λb hb x c e=>by
  rcases cl1 x c e with z | z
  ·exact(f3 b hb).2.2.2.2.1 x c z
  ·obtain⟨o,eo,_⟩:=T.obj _ _ st3 b hb
   have h1:=Kk eo;rw[hC]at h1;exact LC (OU h1 z.1)
 have I4:Inv (cm X scope cl N' C s3 H3 fp) pins (eV src σ) H3 { s3 with heap:=h₁ }:=by
  refine⟨⟨I3.ok.mod,S.kind,I3.ok.glob,I3.ok.blt,NA hC,c2,λx hx=> ?_,λx c hx e=>LB (hC▸c5 x c (iV (beq_iff_eq.mp hx)) e),I3.ok.hd,I3.ok.frames,.inl rfl,
    λb hb=>⟨?_,λx c e=>apart b hb x c e⟩,I3.bs,KD I3.ok.bsz I3.sz,λb o e z=> ?_,λb hb=>stk b (f3 b hb).2.1 (f3 b hb).2.2.1,I3.stack,I3.IR,I3.tb⟩,
   rfl,I3.bare,Un.kept old,⟨_,hns₁,λj x v e1 e2 e3=> ?_⟩,λx c e=> ?_,I3.hok.fresh (NA hC),λx c e=>(cl1 x c e).elim (I3.freeC x c) λz=>I3.hok.fresh (by rw[hC];exact LB z.1),λp hp=> ?_,I3.hok.kept old,?_⟩
  ·have key:∀k,(relabel scope X.env).names.lookup x=some k->(k= .cell\/k= .free)->∃c,cl.lookup x=some c:=λk e hk=>by
    obtain⟨k',e',z⟩:=ik e
    have hk':k'= .cell\/k'= .free:=z.elim (λz=>z▸hk) .inr
    rcases hk' with q | q
    ·exact c4 x (.inl (q▸iV e'))
    ·exact c4 x (.inr (cl02 x (q▸iV e')))
   rcases hx with hx | hx
   ·exact key _ hx (.inl rfl)
   ·exact key _ hx (.inr rfl)
  ·obtain⟨o,eo,_⟩:=T.obj _ _ st3 b hb
   show b≠C
   exact below b o eo
  ·have z':b∈fp:=z
   obtain⟨_,_,_,z1,_⟩:=f3 b z';rcases z1 with z1 | z1
   ·exact I3.ok.noex b o e z1
   ·exact absurd (Kl (Kk (I3.ok.bs b o e).1) z1) (KW _)
  ·unfold eV at e2
   rw[Kv]at e2
   cases q:src[j]? with
   | none=>rw[q]at e2;simp at e2
   | some o=>
    rw[q]at e2
    cases o with
    | none=>simp at e2
    | some i=>
     have e2':(σ[i]?).join=some v:=by simpa using e2
     have e2'':σ[i]? =some (some v):=by
      cases q2:σ[i]? with
      | none=>rw[q2]at e2';simp at e2'
      | some z=>rw[q2]at e2';simp at e2';rw[e2']
     obtain⟨hN,hfree⟩:=S.from_ j i x q e1
     have hm:=iV hfree
     have hk:=S.free x hm;obtain⟨m,hn,hl⟩:=I3.loc
     have hv:yC X.env.scope x:=by
      rcases hk with z | z
      ·exact .inr (.inl z)
      ·exact .inr (.inr z)
     obtain⟨u,r,l⟩:=hl i x v hN e2'' hv;refine⟨u,r,.inr ⟨?_,?_⟩⟩
     ·exact gO hfree
     ·rcases l with⟨z,_⟩ | ⟨_,c,ec,ic⟩
      ·rcases hk with z' | z' <;> rw[z']at z <;> cases z
      ·obtain⟨c',ec0⟩:=cl02 x hm
       have ec':cl.lookup x=some c':=(c3 x λz=>by have:=S.cel _ z rfl;rw[hfree]at this;cases this).trans ec0
       have:=cl01 x c' ec0;rw[ec]at this;cases this;obtain⟨o,ho,hd⟩:=ic;exact⟨c,ec',o,old _ _ ho,hd⟩
  ·rcases cl1 x c e with z | z
   ·obtain⟨v,o,ho,hd⟩:=I3.cell x c z
    exact⟨v,o,old _ _ ho,hd⟩
   ·exact⟨none,z.2⟩
  ·obtain⟨e,n,ne,nf,d⟩:=I3.pin p hp
   exact⟨old _ _ e,n,below _ _ e,stk _ ne nf,d⟩
  ·show(eV src σ).length=N'.length
   unfold eV;rw[Kh];exact S.len
 obtain⟨bG,bI,bE⟩:=block cl C s3 H3 fp
 have stat:∀{H':Hp},(∀b∈fp,H' b=none)->∀b∈fp,nX (cm X scope cl N' C s3 H3 fp) pins H' b:=λhn b hb=>by
  obtain⟨o,eo,_⟩:=T.obj _ _ st3 b hb;exact⟨hn b hb,below b o eo,stk b (f3 b hb).2.1 (f3 b hb).2.2.1,.inl hb,apart b hb,(f3 b hb).2.2.2.2.2⟩
 have st4:tn 0 h₁:=T.keep _ _ _ st3 λb hb o e=>old b o e
 -- behind the block
 have after:∀(H':Hp) (s':Kb) (σ':St),Inv (cm X scope cl N' C s3 H3 fp) pins σ' H' s'->Q (.ref D) H' →
   compPost (model X.prog X.w) X.A X.xe use Qf (.ref D) C (.ok .next) s':=λH' s' σ' I' q=>by
  obtain⟨m,hn,_⟩:=id I'.loc
  have fC:X.s₀.heap.objs.size<=C:=by rw[<-hC];exact I3.sz
  have ltC:∀b o,s3.heap.get? b=some o->b<C:=λb o e=>by rw[<-hC];exact Kk e
  refine hend D C H' s' ⟨m,hn⟩ (λh' hsb=> ?_) ⟨I'.free,?_,fC,λx c e z=> ?_,λp hp z=> ?_⟩ q
  rotate_left
  ·have:=I3.lt;rw[hC]at this;exact LC this
  ·obtain⟨v,ic⟩:=I3.cell x c e
   have:=ic.lt;rw[hC,z]at this;exact KW _ this
  ·have:=ltC _ _ (I3.pin p hp).1;rw[z]at this;exact KW _ this
  have u:Un (jE X.stack) fp H3 H' s3.heap s'.heap:=I'.base
  have lift:∀b o,s3.heap.get? b=some o->∀o',s'.heap.get? b=some o'->h'.get? b=some o':=λb o e o' e'=>hsb.extBut b o' (below b o e) e'
  have u':Un (jE X.stack) fp H3 H' s3.heap h':=
   ⟨λb o e n hb hx=>lift b o e o (u.keep b o e n hb hx),λb o e n hb hx=>by
     obtain⟨sl,z⟩:=u.slot b o e n hb hx;exact⟨sl,lift b o e _ z⟩,u.free,λb o e hx=>by
     obtain⟨o',z⟩:=u.there b o e hx;exact⟨o',lift b o e _ z⟩,u.tups,u.frzs,u.tbls⟩
  have hCn:H' C=none:=I'.free
  have hok':HOk X.prog X.w H' h':=λb ob e=>by
   refine(I'.hok b ob e).Jr (λc w' hc' q'=>(hsb.2 c ?_).trans q') (λ_ q=>q) λ_ _ q=>q
   rintro rfl
   rcases hc' with rfl | hc'
   ·rw[hCn]at e;cases e
   ·rw[hCn]at hc';cases hc'
  have I5:Inv X pins σ H' { s' with heap:=h' }:=I3.JL (s':={ s' with heap:=h' }) (ch:=fp) I'.os u' hok' I'.bare λb hb=>⟨(f3 b hb).2.2.2.1,(f3 b hb).2.1,(f3 b hb).2.2.2.2.1,(f3 b hb).2.2.2.2.2⟩
  exact I5
 have loop:codeAny (model X.prog X.w) X.A (.compLoop (.ListComp elt [⟨tg,iter,ifs,0⟩] scope pos) 0 (.ref it) (.ref D) (compEnvC scope cl C X.env))
   (compPost (model X.prog X.w) X.A X.xe use Qf (.ref D) C) { s3 with heap:=h₁ }:=by
  refine rq (λn s'=> ∃i σ' ys H',Inv (cm X scope cl N' C s3 H3 fp) pins σ' H' s'/\tn i s'.heap/\(∀b∈fp,H' b=none)/\W i n σ' ys H') ?_ m0 ⟨0,_,[],H3,I4,st4,fr3,w0⟩
  rintro n s5 ⟨i,σ5,ys,H5,I5,st5,fr5,w5⟩
  obtain⟨hDl,alt⟩:=turn i n σ5 ys H5 w5;rcases alt with⟨stop,qn⟩ | ⟨go,hlen,step⟩
  ·refine bX (T.done (cm X scope cl N' C s3 H3 fp) rfl rfl rfl hc i pins s5 σ5 H5 _ I5 (stat fr5) st5 stop) λr s6 ⟨hr,I6⟩=> ?_
   subst hr;exact after H5 s6 σ5 I6 qn
  ·refine bX (T.item (cm X scope cl N' C s3 H3 fp) rfl rfl rfl hc i pins s5 σ5 H5 _ I5 (stat fr5) st5 go) λr s6 ⟨u,hr,h6⟩=> ?_
   subst hr;refine bX h6 λ_ s7 hh_=> ?_
   obtain⟨x,H7,I7,r7,y7,st7,fr7⟩:=hh_
   have I7':=I7.pinned (stat fr7) (T.obj _ _ st7);refine bX (bG _ s7 σ5 H7 x u _ I7' r7 (step x H7 y7)) λ_ s8 hh_=> ?_
   obtain⟨σ8,H8,I8,q8⟩:=hh_;refine bX (bI _ s8 σ8 H8 _ I8 q8) λok s9 hh_=> ?_
   obtain⟨H9,I9,q9⟩:=hh_
   have again:∀{σx:St} {Hx:Hp} {sx:Kb} {ys':List V},Inv (cm X scope cl N' C s3 H3 fp) (pins++mn fp s7.heap) σx Hx sx->(∃m',m'<n/\W (i+1) m' σx ys' Hx) →
     ∃m,m<n/\∃i σ' ys H',Inv (cm X scope cl N' C s3 H3 fp) pins σ' H' sx/\tn i sx.heap/\(∀b∈fp,H' b=none)/\W i m σ' ys H':=λ{σx Hx sx ys'} Ix nx=>by
    obtain⟨m',hm,wx⟩:=nx;refine⟨m',hm,i+1,σx,ys',Hx,Ix.Jq,T.keep _ _ _ st7 λb hb o e=>(Ix.pin (b,o) (KZ _ (KZ _ (gz hb e)))).1,λb hb=> ?_,wx⟩
    obtain⟨o,e,d⟩:=T.obj _ _ st7 b hb;exact(Ix.pin (b,o) (KZ _ (KZ _ (gz hb e)))).2.1
   cases ok with
   | false=>
    rw[if_neg KL]at q9 ⊢
    exact again I9 q9
   | true=>
    rw[if_pos rfl]at q9 ⊢;refine bX (bE _ s9 σ8 H9 _ I9 q9) λv s10 hh_=> ?_
    obtain⟨y,H10,I10,r10,hD10,q10⟩:=hh_;refine bX (oZ _ s10 σ8 H10 (.ref D) [y] (.ref D) [v] (λ_ H'=>H'=upd H10 D (.lst (ys++ [y]))) I10 rfl (.cons r10 .nil) ⟨D,ys,y,rfl,rfl,hD10,hlen,rfl⟩) λ_ s11 hh_=> ?_
    obtain⟨_,H11,I11,_,e11⟩:=hh_;subst e11;exact again I11 q10
 exact codeAny_compStart_list loop (T.self _ 0 _ _ _ st4 loop)
theorem zD {elt tg iter:Expr}{ifs:List Expr}{scope:NN}{pos:Pos}{N':List Str}{src:List (Option Nat)}{wi:TI}{g:TG}{tc:TT}{te:TE}
  (hc:X.calm=true) (S:LcScope X scope N' src) (hi:PI X tg iter wi)
  (block:∀cl C s₀ H₀ fp,PG (cm X scope cl N' C s₀ H₀ fp) tg g/\yD (cm X scope cl N' C s₀ H₀ fp) ifs tc/\PE (cm X scope cl N' C s₀ H₀ fp) elt te)
  (hs:∀x,Lz iter X.env x=pure x:=by intro _;rfl) :
  PE X (.ListComp elt [⟨tg,iter,ifs,0⟩] scope pos) (G1 X.K wi src g tc te):=by
 intro pins s σ H Q I h;rw[eval_ListComp];exact wg (use:=none) hc S hi block hs I h λD C H' s' ⟨m,hn⟩ inv _ q=>⟨m,hn,λh' hsb=>⟨.ref D,H',inv h' hsb,rfl,q⟩⟩
theorem HA {elt tg iter:Expr}{ifs:List Expr}{scope:NN}{pos py spos:Pos}{N':List Str}{src:List (Option Nat)}{wi:TI}{g:TG}{tc:TT}{te:TE}{i:Nat}{y:Str}
  (hc:X.calm=true) (S:LcScope X scope N' src) (hi:PI X tg iter wi)
  (block:∀cl C s₀ H₀ fp,PG (cm X scope cl N' C s₀ H₀ fp) tg g/\yD (cm X scope cl N' C s₀ H₀ fp) ifs tc/\PE (cm X scope cl N' C s₀ H₀ fp) elt te)
  (hN:X.N.Nodup) (hiy:X.N[i]? =some y) (hy:Loc X.env.scope y) (hsw:L5 (.ListComp elt [⟨tg,iter,ifs,0⟩] scope pos) (some (.Name y py)) spos.line X.env=pure true)
  (hf:X.fn y=true\/X.env.scope.names.lookup y=some .local) (hs:∀x,Lz iter X.env x=pure x:=by intro _;rfl) :
  PS X (.Assign [.Name y py] (.ListComp elt [⟨tg,iter,ifs,0⟩] scope pos) spos) (BM (G1 X.K wi src g tc te) (AG i)):=by
 intro pins s σ H D I h;rw[exec_Assign_Name_used _ _ _ _ hsw];refine J5 (wpAny_standAt (J5 ?_))
 show wpAny (model X.prog X.w) X.A (do let _ <-comprehension (.ListComp elt [⟨tg,iter,ifs,0⟩] scope pos) scope X.env _ (newList []) false (eval iter X.env) (some (assign (.Name y py) X.env))) _ _ s
 refine J5 (bX (wg (use:=some (assign (.Name y py) X.env)) (Qf:=λ_ s'=>SP X pins D .next s') (Q:=λv H'=>D.nx (σ.set i (some v)) H') hc S hi block hs I h λL C H' s' ⟨m,hn⟩ inv ⟨c0,c1,c2,c3,c4⟩ q=> ?_) λ_ s' hq=>Kd (Kd hq))
 have I0:Inv X pins σ H' s':=inv s'.heap (RH ..)
 show wpAny (model X.prog X.w) X.A (assign (.Name y py) X.env (.ref L)) _ _ s'
 refine RX (oE I0 hN hiy hy (v:=.ref L) rfl (λs2 I2 ⟨b,sb,hb⟩=> ?_) hf)
 have hbC:C≠b:=by
  rcases hb with z | z
  ·rw[z];exact c1
  ·exact λw=>c3 y b z w.symm
 refine⟨m,hn.sameBut sb hbC,λh' hsb=> ?_⟩
 exact⟨_,H',I2.turned (t':=s2.toks) (λb' o hb' e=>(hsb.2 b' hb').trans e) c0 c1 (.inr c2) c3 c4,q⟩
end
end L2
namespace Tr
open PySem PySem.Spec PyProof.Rows L2
inductive T where
 | non | bl (b:Bool) | int (i:Int) | str (x:Str) | tup (l:List T) | lst (l:List T)
 /-- the law's script: a list of ints that is only read -/
 | scr (l:List Int)
 /-- a dict: its keys,its values -/
 | dct (ks vs:List T)
def DV:T->Option Key
 | .int i=>some (.inl i)
 | .str x=>some (.inr x)
 | _=>none
def ni:List T->Option (List Key)
 | [] =>some []
 | t::l=>match DV t,ni l with
  | some k,some r=>some (k::r)
  | _,_=>none
def keyOf:T->Option (List Key)
 | .tup l=>ni l
 | _=>none
inductive Rs (α:Type) where
 | ok (a:α) | err (c:Str) | bad
def Rs.bind {α β:Type}(x:Rs α)(f:α->Rs β):Rs β:=match x with
 | .ok a=>f a
 | .err c=> .err c
 | .bad=> .bad
instance:Monad Rs where
 pure:=Rs.ok
 bind:=Rs.bind
@[simp] theorem aF {α β:Type} (a:α) (f:α->Rs β):(Rs.ok a >>= f)=f a:=rfl
@[simp] theorem IY {α:Type} (a:α):(pure a:Rs α)=Rs.ok a:=rfl
@[simp] theorem IJ {α β:Type} (f:α->Rs β):((Rs.bad:Rs α) >>= f)= .bad:=rfl
@[simp] theorem IE {α β:Type} (c:Str) (f:α->Rs β):((Rs.err c:Rs α) >>= f)= .err c:=rfl
abbrev Ow:=Addr->Prop
mutual
def Rep (K:J6)(O:Ow)(H:Hp):T->V->Prop
 | .non,v=>v= .non
 | .bl b,v=>v= .bl b
 | .int i,v=>v= .int i
 | .str x,v=>v= .str x
 | .tup l,v=> ∃a vs,v= .ref a/\¬ O a/\H a=some (.tup vs)/\Reps K O H l vs
 | .lst l,v=> ∃a vs,v= .ref a/\¬ O a/\H a=some (.lst vs)/\Reps K O H l vs
 | .scr l,v=> ∃a,v= .ref a/\¬ O a/\SqL K H a (l.map V.int)
 | .dct ks ts,v=> ∃a kvs,v= .ref a/\¬ O a/\Rd H a (.dT kvs)/\ks.map keyOf=kvs.map (λp=>some p.1)/\Reps K O H ts (kvs.map (·.2))
def Reps (K:J6)(O:Ow)(H:Hp):List T->List V->Prop
 | [],vs=>vs= []
 | t::r,vs=> ∃v ws,vs=v::ws/\Rep K O H t v/\Reps K O H r ws
end
def SameO (P:Ow)(H H':Hp):Prop:=∀b o,H b=some o->¬ P b->H' b=some o
theorem SameO.of {P:Ow}{H H':Hp}(h:Same H H'):SameO P H H':=λb o e _=>h b o e
theorem Rd.JM {P:Ow}{H H':Hp}{a:Addr}{u:HO}(h:SameO P H H')(n:¬ P a)(q:Rd H a u):Rd H' a u:=q.elim (λe=> .inl (h _ _ e n)) λ⟨o,e⟩=> .inr ⟨o,h _ _ e n⟩
theorem SqL.keep {K:J6}{P:Ow}{H H':Hp}{a:Addr}{vs:List V}(h:SameO P H H')(n:¬ P a)(q:SqL K H a vs):SqL K H' a vs:=by
 rcases q with(q | ⟨o,q⟩) | q
 ·exact .inl (.inl (h _ _ q n))
 ·exact .inl (.inr ⟨o,h _ _ q n⟩)
 ·exact .inr q
mutual
theorem Rep.keep {K:J6}{O P:Ow}{H H':Hp}(h:SameO P H H')(sub:∀a,P a->O a):∀{t:T} {v:V},Rep K O H t v->Rep K O H' t v
 | .non,_,r=>by unfold Rep at r ⊢;exact r
 | .bl _,_,r=>by unfold Rep at r ⊢;exact r
 | .int _,_,r=>by unfold Rep at r ⊢;exact r
 | .str _,_,r=>by unfold Rep at r ⊢;exact r
 | .tup l,_,r=>by
  unfold Rep at r ⊢;obtain⟨a,vs,e,n,q,z⟩:=r
  exact⟨a,vs,e,n,h _ _ q (λp=>n (sub a p)),Reps.keep h sub z⟩
 | .lst l,_,r=>by
  unfold Rep at r ⊢;obtain⟨a,vs,e,n,q,z⟩:=r
  exact⟨a,vs,e,n,h _ _ q (λp=>n (sub a p)),Reps.keep h sub z⟩
 | .scr l,_,r=>by
  unfold Rep at r ⊢;obtain⟨a,e,n,q⟩:=r
  exact⟨a,e,n,SqL.keep h (λp=>n (sub a p)) q⟩
 | .dct ks ts,_,r=>by
  unfold Rep at r ⊢;obtain⟨a,kvs,e,n,q,k,z⟩:=r;exact⟨a,kvs,e,n,Rd.JM h (λp=>n (sub a p)) q,k,Reps.keep h sub z⟩
theorem Reps.keep {K:J6}{O P:Ow}{H H':Hp}(h:SameO P H H')(sub:∀a,P a->O a):∀{l:List T} {vs:List V},Reps K O H l vs->Reps K O H' l vs
 | [],_,r=>by unfold Reps at r ⊢;exact r
 | t::l,_,r=>by
  unfold Reps at r ⊢;obtain⟨v,ws,e,p,q⟩:=r;exact⟨v,ws,e,Rep.keep h sub p,Reps.keep h sub q⟩
end
mutual
theorem Rep.less {K:J6}{O O':Ow}{H:Hp}(sub:∀a,O' a->O a):∀{t:T} {v:V},Rep K O H t v->Rep K O' H t v
 | .non,_,r=>by unfold Rep at r ⊢;exact r
 | .bl _,_,r=>by unfold Rep at r ⊢;exact r
 | .int _,_,r=>by unfold Rep at r ⊢;exact r
 | .str _,_,r=>by unfold Rep at r ⊢;exact r
 | .tup l,_,r=>by
  unfold Rep at r ⊢;obtain⟨a,vs,e,n,q,z⟩:=r
  exact⟨a,vs,e,λp=>n (sub a p),q,Reps.less sub z⟩
 | .lst l,_,r=>by
  unfold Rep at r ⊢;obtain⟨a,vs,e,n,q,z⟩:=r
  exact⟨a,vs,e,λp=>n (sub a p),q,Reps.less sub z⟩
 | .scr l,_,r=>by
  unfold Rep at r ⊢;obtain⟨a,e,n,z⟩:=r
  exact⟨a,e,λp=>n (sub a p),z⟩
 | .dct ks ts,_,r=>by
  unfold Rep at r ⊢;obtain⟨a,kvs,e,n,q,k,z⟩:=r;exact⟨a,kvs,e,λp=>n (sub a p),q,k,Reps.less sub z⟩
theorem Reps.less {K:J6}{O O':Ow}{H:Hp}(sub:∀a,O' a->O a):∀{l:List T} {vs:List V},Reps K O H l vs->Reps K O' H l vs
 | [],_,r=>by unfold Reps at r ⊢;exact r
 | t::l,_,r=>by
  unfold Reps at r ⊢;obtain⟨v,ws,e,p,q⟩:=r;exact⟨v,ws,e,Rep.less sub p,Reps.less sub q⟩
end
section
variable {K:J6}{O:Ow}{H H':Hp}{t:T}{v:V}{l:List T}{vs:List V}
theorem Rep.same (h:Same H H')(r:Rep K O H t v):Rep K O H' t v:=Rep.keep (P:=λ_=>False) (SameO.of h) (λ_ z=>z.elim) r
theorem Reps.same (h:Same H H')(r:Reps K O H l vs):Reps K O H' l vs:=Reps.keep (P:=λ_=>False) (SameO.of h) (λ_ z=>z.elim) r
theorem Rep.JN:Rep K O H .non .non:=by unfold Rep;rfl
theorem Rep.bl_ (b:Bool):Rep K O H (.bl b) (.bl b):=by unfold Rep;rfl
theorem Rep.GE (i:Int):Rep K O H (.int i) (.int i):=by unfold Rep;rfl
theorem Rep.J2 (x:Str):Rep K O H (.str x) (.str x):=by unfold Rep;rfl
theorem Rep.Fk:Rep K O H (.tup l) v↔ ∃a vs,v= .ref a/\¬ O a/\H a=some (.tup vs)/\Reps K O H l vs:=by unfold Rep;exact OC
theorem Rep.Do:Rep K O H (.lst l) v↔ ∃a vs,v= .ref a/\¬ O a/\H a=some (.lst vs)/\Reps K O H l vs:=by unfold Rep;exact OC
theorem Rep.Jl {ks ts:List T}:Rep K O H (.dct ks ts) v↔ ∃a kvs,v= .ref a/\¬ O a/\Rd H a (.dT kvs)/\ks.map keyOf=kvs.map (λp=>some p.1)/\Reps K O H ts (kvs.map (·.2)):=by unfold Rep;exact OC
theorem Rep.AC {i:Int}:Rep K O H (.int i) v↔v= .int i:=by unfold Rep;exact OC
theorem Rep.FB {b:Bool}:Rep K O H (.bl b) v↔v= .bl b:=by unfold Rep;exact OC
theorem Rep.Gc {b:Str}:Rep K O H (.str b) v↔v= .str b:=by unfold Rep;exact OC
theorem Rep.Jp:Rep K O H .non v↔v= .non:=by unfold Rep;exact OC
theorem Reps.GT:Reps K O H [] []:=by unfold Reps;rfl
theorem Reps.FS (r:Rep K O H t v)(q:Reps K O H l vs):Reps K O H (t::l) (v::vs):=by unfold Reps;exact⟨v,vs,rfl,r,q⟩
theorem Reps.Da:Reps K O H [] vs↔vs= []:=by unfold Reps;exact OC
theorem Reps.me:Reps K O H (t::l) vs↔ ∃v ws,vs=v::ws/\Rep K O H t v/\Reps K O H l ws:=by
 constructor
 ·intro h;unfold Reps at h;exact h
 ·intro h;unfold Reps;exact h
end
section
variable {K:J6}{O:Ow}{H H':Hp}
theorem Reps.length:∀{l:List T} {vs:List V},Reps K O H l vs->l.length=vs.length
 | [],vs,r=>by rw[Reps.Da.mp r];rfl
 | t::l,vs,r=>by
  obtain⟨v,ws,rfl,_,q⟩:=Reps.me.mp r;simp[q.length]
theorem Reps.get:∀{l:List T} {vs:List V} {i:Nat} {t:T},Reps K O H l vs->l[i]? =some t->∃v,vs[i]? =some v/\Rep K O H t v
 | [],_,_,_,_,e=>by simp at e
 | t::l,vs,i,u,r,e=>by
  obtain⟨v,ws,rfl,p,q⟩:=Reps.me.mp r
  cases i with
  | zero=>simp at e;subst e;exact⟨v,rfl,p⟩
  | succ i=>
   obtain⟨z,e1,e2⟩:=q.get (i:=i) (t:=u) (by simpa using e)
   exact⟨z,by simpa using e1,e2⟩
theorem Reps.append:∀{l m:List T} {vs ws:List V},Reps K O H l vs->Reps K O H m ws->Reps K O H (l++m) (vs++ws)
 | [],_,vs,_,r,s=>by rw[Reps.Da.mp r];exact s
 | t::l,m,vs,ws,r,s=>by
  obtain⟨v,us,rfl,p,q⟩:=Reps.me.mp r;exact Reps.FS p (q.append s)
theorem Reps.take:∀{l:List T} {vs:List V} (n:Nat),Reps K O H l vs->Reps K O H (l.take n) (vs.take n)
 | _,_,0,_=>Reps.GT
 | [],vs,n+1,r=>by rw[Reps.Da.mp r];exact Reps.GT
 | t::l,vs,n+1,r=>by
  obtain⟨v,us,rfl,p,q⟩:=Reps.me.mp r;exact Reps.FS p (q.take n)
theorem Reps.drop:∀{l:List T} {vs:List V} (n:Nat),Reps K O H l vs->Reps K O H (l.drop n) (vs.drop n)
 | _,_,0,r=>r
 | [],vs,n+1,r=>by rw[Reps.Da.mp r];exact Reps.GT
 | t::l,vs,n+1,r=>by
  obtain⟨v,us,rfl,p,q⟩:=Reps.me.mp r;exact q.drop n
theorem Reps.ints:∀{ns:List Int},Reps K O H (ns.map T.int) (ns.map V.int)
 | [] =>Reps.GT
 | n::r=>Reps.FS (Rep.GE n) Reps.ints
theorem Reps.JD:∀{ns:List Int} {vs:List V},Reps K O H (ns.map T.int) vs->vs=ns.map V.int
 | [],vs,r=>Reps.Da.mp r
 | n::r,vs,q=>by
  obtain⟨v,us,rfl,p,q⟩:=Reps.me.mp q;rw[Rep.AC.mp p,Reps.JD q];rfl
end
inductive OT where
 | lst (l:List T) | dct (ks ts:List T) | dd (ks:List T) (rows:List (List T×List T))
def OT.view:OT->T
 | .lst l=> .lst l
 | .dct ks ts=> .dct ks ts
 | .dd ks rows=> .dct ks (rows.map λr=> .dct r.1 r.2)
def RowsR (K:J6)(O:Ow)(H:Hp):List (List T×List T)->List Addr->Prop
 | [],as=>as= []
 | r::rs,as=> ∃b bs kvs,as=b::bs/\H b=some (.dT kvs)/\r.1.map keyOf=kvs.map (λp=>some p.1)/\Reps K O H r.2 (kvs.map (·.2))/\RowsR K O H rs bs
def ORep (K:J6)(O M:Ow)(H:Hp):OT->V->Prop
 | .lst l,v=> ∃a vs,v= .ref a/\(∀b,M b↔b=a)/\H a=some (.lst vs)/\Reps K O H l vs
 | .dct ks ts,v=> ∃a kvs,v= .ref a/\(∀b,M b↔b=a)/\H a=some (.dT kvs)/\ks.map keyOf=kvs.map (λp=>some p.1)/\Reps K O H ts (kvs.map (·.2))
 | .dd ks rows,v=> ∃a kvs as,v= .ref a/\(∀b,M b↔b=a\/b∈as)/\a∉as/\as.Nodup/\H a=some (.dT kvs)/\ks.map keyOf=kvs.map (λp=>some p.1)/\kvs.map (·.2)=as.map V.ref/\RowsR K O H rows as
inductive Sl where
 | em | va (t:T) | ow (o:OT)
abbrev En:=List Sl
abbrev Mn:=Nat->Ow
def Mn.u (M:Mn):Ow:=λa=> ∃i,M i a
def Mtb (H:Hp)(a:Addr):Prop:=(∃vs,H a=some (.lst vs))\/∃kvs,H a=some (.dT kvs)
theorem Mtb.some {H:Hp}{a:Addr}(h:Mtb H a):∃o,H a=some o:=h.elim (λ⟨_,e⟩=>⟨_,e⟩) λ⟨_,e⟩=>⟨_,e⟩
theorem Mtb.same {H H':Hp}(s:Same H H'){a:Addr}(h:Mtb H a):Mtb H' a:=h.elim (λ⟨vs,e⟩=> .inl ⟨vs,s _ _ e⟩) λ⟨k,e⟩=> .inr ⟨k,s _ _ e⟩
structure EnvM (K:J6)(O:Ow)(M:Mn)(H:Hp)(Z:En)(σ:L2.St):Prop where
 len:Z.length=σ.length
 val:∀(i:Nat) (t:T),Z[i]? =some (.va t)->∃v,σ[i]? =some (some v)/\Rep K O H t v
 own:∀(i:Nat) (o:OT),Z[i]? =some (.ow o)->∃v,σ[i]? =some (some v)/\ORep K O (M i) H o v
 sub:∀(i:Nat) (a:Addr),M i a->O a
 dis:∀(i j:Nat) (a:Addr),M i a->M j a->i=j
 trk:∀(a:Addr),O a->Mtb H a
theorem RowsR.same {K:J6}{O:Ow}{H H':Hp}(h:Same H H'):∀{rs:List (List T×List T)} {as:List Addr},RowsR K O H rs as->RowsR K O H' rs as
 | [],_,r=>r
 | _::_,_,⟨b,bs,kvs,e1,e2,e3,e4,e5⟩=>⟨b,bs,kvs,e1,h _ _ e2,e3,e4.same h,e5.same h⟩
theorem ORep.same {K:J6}{O M:Ow}{H H':Hp}(h:Same H H'){o:OT}{v:V}(r:ORep K O M H o v):ORep K O M H' o v:=by
 cases o with
 | lst l=>obtain⟨a,vs,e1,e2,e3,e4⟩:=r;exact⟨a,vs,e1,e2,h _ _ e3,e4.same h⟩
 | dct ks ts=>obtain⟨a,kvs,e1,e2,e3,e4,e5⟩:=r;exact⟨a,kvs,e1,e2,h _ _ e3,e4,e5.same h⟩
 | dd ks rows=>obtain⟨a,kvs,as,e1,e2,e3,e4,e5,e6,e7,e8⟩:=r;exact⟨a,kvs,as,e1,e2,e3,e4,h _ _ e5,e6,e7,e8.same h⟩
theorem EnvM.same {K:J6}{O:Ow}{M:Mn}{H H':Hp}{Z:En}{σ:L2.St}(h:Same H H')(e:EnvM K O M H Z σ):EnvM K O M H' Z σ where
 len:=e.len
 val:=λi t q=>let ⟨v,e1,e2⟩:=e.val i t q;⟨v,e1,e2.same h⟩
 own:=λi o q=>let ⟨v,e1,e2⟩:=e.own i o q;⟨v,e1,e2.same h⟩
 sub:=e.sub
 dis:=e.dis
 trk:=λa q=>(e.trk a q).same h
def EnvO (K:J6)(O:Ow)(H:Hp)(Z:En)(σ:L2.St):Prop:=∃M,EnvM K O M H Z σ
section
variable {K:J6}{O:Ow}{H H':Hp}{Z:En}{σ:L2.St}
theorem EnvO.val (e:EnvO K O H Z σ)(i:Nat)(t:T)(q:Z[i]? =some (.va t)):∃v,σ[i]? =some (some v)/\Rep K O H t v:=e.elim λ_ e=>e.val i t q
theorem EnvO.mtb (e:EnvO K O H Z σ):∀a,O a->Mtb H a:=e.elim λ_ e=>e.trk
theorem EnvO.trk (e:EnvO K O H Z σ)(a:Addr)(z:O a):∃o,H a=some o:=(e.mtb a z).some
theorem EnvO.same (h:Same H H')(e:EnvO K O H Z σ):EnvO K O H' Z σ:=e.elim λM e=>⟨M,e.same h⟩
theorem EnvO.fresh (e:EnvO K O H Z σ){p:Addr}(h:H p=none):¬ O p:=λz=>by
 obtain⟨o,q⟩:=e.trk p z;rw[h]at q;cases q
end
def Jj (h:Heap)(C e:Addr):Option Addr->Prop
 | none=> ∃oe vs,h.get? e=some oe/\oe.cls= .ref C/\oe.data= .fields vs/\vs[1]? =some .none
 | some T=>T≠e/\∃oe vs,h.get? e=some oe/\oe.cls= .ref C/\oe.data= .fields vs/\vs[1]? =some (.ref T)/\∃oT ts,h.get? T=some oT/\oT.data= .fields ts/\ts[3]? =some .none
def RzP (X:Cx)(pins:List (Addr×Obj))(P:Ow)(H:Hp)(c:Str)(ev:J8)(s':Kb):Prop:=
 ∃e T C σ' H',ev= .ref e/\X.mg c=some (.ref C)/\Inv X pins σ' H' s'/\SameO P H H'/\H' e=none/\(X.ex= []->X.s₀.heap.get? e=none)/\Jj s'.heap C e T/\(∀t,T=some t->H' t=none/\(X.ex= []->X.s₀.heap.get? t=none))/\∀p∈X.pn++pins,p.1≠e/\T≠some p.1
def Nw (K:J6)(H:Hp):Ow:=λa=>H a=none/\K.lookup a=none
theorem gx {K:J6}{P:Ow}{H H1:Hp}(h:SameO P H H1){a:Addr}(n:Nw K H1 a):P a\/Nw K H a:=by
 by_cases hp:P a
 ·exact .inl hp
 ·refine .inr ⟨?_,n.2⟩
  cases q:H a with
  | none=>rfl
  | some o=>have:=h a o q hp;rw[n.1]at this;cases this
theorem SameO.trans {K:J6}{P P1:Ow}{H H1 H2:Hp}(h:SameO P H H1)(h1:SameO P1 H1 H2)(sub:∀a,P1 a->P a\/Nw K H a):SameO P H H2:=λb o e n=>
 h1 b o (h b o e n) λz=>(sub b z).elim n λw=>by rw[w.1]at e;cases e
def XA (X:Cx)(P:Ow)(H:Hp)(c:Str):Prop:=∀pins ev s',RzP X pins P H c ev s'->X.xe ev s'
theorem XA.later {X:Cx}{P P1:Ow}{H H1:Hp}{c:Str}(h:XA X P H c)(s:SameO P H H1)(sub:∀a,P1 a->P a\/Nw X.K H a):XA X P1 H1 c:=λpins ev s' ⟨e,T,C,σ',H',a1,a2,a3,a4,a5⟩=>
 h pins ev s' ⟨e,T,C,σ',H',a1,a2,a3,s.trans a4 sub,a5⟩
abbrev vW:Ow:=λ_=>False
def Post {α:Type}(X:Cx)(H:Hp)(r:Rs α)(k:α->Hp->Prop):Prop:=match r with
 | .ok t=> ∀H',Same H H'->k t H'
 | .err c=>XA X vW H c
 | .bad=>False
theorem Post.mono {α:Type}{X:Cx}{H:Hp}{r:Rs α}{k k':α->Hp->Prop}(h:Post X H r k)(f:∀t H',Same H H'->k t H'->k' t H'):Post X H r k':=by
 cases r with
 | ok t=>exact λH' s=>f t H' s (h H' s)
 | err c=>exact h
 | bad=>exact h
theorem Post.later {α:Type}{X:Cx}{H H1:Hp}{r:Rs α}{k:α->Hp->Prop}(h:Post X H r k)(s:Same H H1):Post X H1 r k:=by
 cases r with
 | ok t=>exact λH' s'=>h H' (s.trans s')
 | err c=>exact XA.later h (SameO.of s) λ_ z=>z.elim
 | bad=>exact h
theorem Post.bind {α β:Type}{X:Cx}{H:Hp}{r:Rs α}{f:α->Rs β}{k:β->Hp->Prop}(h:Post X H (r >>= f) k):Post X H r λt H'=>Post X H' (f t) k:=by
 cases r with
 | ok t=>exact λH' s=>Post.later h s
 | err c=>exact h
 | bad=>exact h
def tP (X:Cx)(f:En->Rs T):TE:=λσ H Q=> ∃Z O,EnvO X.K O H Z σ/\Post X H (f Z) λt H'=> ∀v,Rep X.K O H' t v->Q v H'
def tPA (X:Cx)(f:En->Rs (List T)):TA:=λσ H Q=> ∃Z O,EnvO X.K O H Z σ/\Post X H (f Z) λt H'=> ∀v,Reps X.K O H' t v->Q v H'
def yU (X:Cx)(f:En->Rs Bool):TT:=λσ H Q=> ∃Z O,EnvO X.K O H Z σ/\Post X H (f Z) λb H'=>Q b H'
abbrev cj (X:Cx)(e:Expr)(f:En->Rs T):Prop:=PE X e (tP X f)
abbrev oy (X:Cx)(e:List Expr)(f:En->Rs (List T)):Prop:=PA X e (tPA X f)
abbrev vm (X:Cx)(e:Expr)(f:En->Rs Bool):Prop:=PT X e (yU X f)
theorem PE.imp {X:Cx}{e:Expr}{t t':TE}(h:PE X e t)(w:∀σ H Q,t' σ H Q->t σ H Q):PE X e t':=λpins s σ H Q I q=>h pins s σ H Q I (w σ H Q q)
theorem PA.imp {X:Cx}{e:List Expr}{t t':TA}(h:PA X e t)(w:∀σ H Q,t' σ H Q->t σ H Q):PA X e t':=λpos pins s σ H Q I q=>h pos pins s σ H Q I (w σ H Q q)
theorem PT.imp {X:Cx}{e:Expr}{t t':TT}(h:PT X e t)(w:∀σ H Q,t' σ H Q->t σ H Q):PT X e t':=λpins s σ H Q I q=>h pins s σ H Q I (w σ H Q q)
theorem PS.imp {X:Cx}{e:Stmt}{t t':TS}(h:PS X e t)(w:∀D σ H,t' D σ H->t D σ H):PS X e t':=λpins s σ H D I q=>h pins s σ H D I (w D σ H q)
theorem PSs.imp {X:Cx}{e:List Stmt}{t t':TS}(h:PSs X e t)(w:∀D σ H,t' D σ H->t D σ H):PSs X e t':=λpins s σ H D I q=>h pins s σ H D I (w D σ H q)
section
variable {X:Cx}
theorem aS {σ:L2.St}{H:Hp}{Z:En}{O:Ow}{α:Type}{f:En->Rs T}{k:T->Rs α}{Q:α->Hp->Prop}(E:EnvO X.K O H Z σ)(h:Post X H (f Z >>= k) Q) :
  tP X f σ H λv H'=> ∃t,Rep X.K O H' t v/\Same H H'/\EnvO X.K O H' Z σ/\Post X H' (k t) Q:=
 ⟨Z,O,E,Post.mono h.bind λt H' s q v r=>⟨t,r,s,E.same s,q⟩⟩
theorem da {σ:L2.St}{H:Hp}{Z:En}{O:Ow}{α:Type}{f:En->Rs (List T)}{k:List T->Rs α}{Q:α->Hp->Prop}(E:EnvO X.K O H Z σ)(h:Post X H (f Z >>= k) Q) :
  tPA X f σ H λv H'=> ∃t,Reps X.K O H' t v/\Same H H'/\EnvO X.K O H' Z σ/\Post X H' (k t) Q:=
 ⟨Z,O,E,Post.mono h.bind λt H' s q v r=>⟨t,r,s,E.same s,q⟩⟩
theorem lY {σ:L2.St}{H:Hp}{Z:En}{O:Ow}{α:Type}{f:En->Rs Bool}{k:Bool->Rs α}{Q:α->Hp->Prop}(E:EnvO X.K O H Z σ)(h:Post X H (f Z >>= k) Q) :
  yU X f σ H λb H'=>Same H H'/\EnvO X.K O H' Z σ/\Post X H' (k b) Q:=
 ⟨Z,O,E,Post.mono h.bind λt H' s q=>⟨s,E.same s,q⟩⟩
noncomputable def vr (i:Nat)(Z:En):Rs T:=match Z[i]? with
 | some (.va t)=> .ok t
 | _=> .bad
def cn (t:T)(_:En):Rs T:=.ok t
theorem zl (i:Nat){x:Str}{pos:Pos}(hN:X.N[i]? =some x:=by rfl)(hv:yC X.env.scope x:=by first | exact MU rfl | exact Ma (MU rfl) | exact Ma (Ma rfl))(hd:jj x:=by decide)
  (hcd:(x == ("__classdict__" : Str))=false:=by decide):cj X (.Name x pos) (vr i):=PE.imp (qw hN hv hd hcd) λσ H Q hh_=>by
 obtain⟨Z,O,E,h⟩:=hh_;unfold vr at h
 split at h
 ·rename_i t e
  obtain⟨v,e1,e2⟩:=E.val i t e;exact⟨v,e1,h H (Same.refl H) v e2⟩
 ·exact h.elim
theorem Ht {i j pos}:cj X (.Constant (.int i) j pos) (cn (.int i)):=PE.imp zE λσ H Q ⟨Z,O,E,h⟩=>h H (Same.refl H) _ (Rep.GE i)
theorem q_bl {i j pos}:cj X (.Constant (.bool i) j pos) (cn (.bl i)):=PE.imp HF λσ H Q ⟨Z,O,E,h⟩=>h H (Same.refl H) _ (Rep.bl_ i)
theorem Hq {j pos}:cj X (.Constant .none j pos) (cn .non):=PE.imp Fq λσ H Q ⟨Z,O,E,h⟩=>h H (Same.refl H) _ Rep.JN
theorem E6 {x:Str}{i:Int}{u:J8}{pos:Pos}(hm:X.mg x=some u)(r:RelV (.int i) u)(hg:Gl X x:=by rfl)(hd:jj x:=by decide):cj X (.Name x pos) (cn (.int i)):=
 PE.imp (CC hg hm r hd) λσ H Q ⟨Z,O,E,h⟩=>h H (Same.refl H) _ (Rep.GE i)
def ai (_:En):Rs (List T):=.ok []
def ae (f:En->Rs T)(g:En->Rs (List T))(Z:En):Rs (List T):=do
 let t <-f Z
 let r <-g Z
 .ok (t::r)
theorem uI:oy X [] ai:=PA.imp mx λσ H Q ⟨Z,O,E,h⟩=>h H (Same.refl H) _ Reps.GT
theorem lH {e:Expr}{es:List Expr}{f:En->Rs T}{g:En->Rs (List T)}(he:cj X e f)(hr:oy X es g)(hs:Kx (e::es) X.env=(false,eval e X.env)::Kx es X.env:=by rfl):oy X (e::es) (ae f g):=by
 intro pos pins s σ H Q I h;obtain⟨Z,O,E,h⟩:=h;refine iO he hr hs pos pins s σ H Q I ?_
 obtain⟨Z1,O1,E1,h1⟩:=aS E h;refine⟨Z1,O1,E1,Post.mono h1 λt H' s q v r=> ?_⟩
 obtain⟨t',r',s',E',q'⟩:=q v r;refine⟨Z,O,E',Post.mono q'.bind λts H2 s2 q2 vs rs=> ?_⟩
 exact q2 H2 (Same.refl H2) _ (Reps.FS (r'.same s2) rs)
end
section
variable {X:Cx}
def jk (l:List T):Rs T:=if l.length<=sizeLine then .ok (.tup l)else .bad
def k7 (l:List T):Rs T:=if l.length<=sizeLine then .ok (.lst l)else .bad
def a9 (f:En->Rs (List T))(Z:En):Rs T:=f Z >>= jk
def gE (f:En->Rs (List T))(Z:En):Rs T:=f Z >>= k7
theorem aN {H:Hp}{p:Addr}(h:H p=none)(o:HO):Same H (upd H p o):=λb u q=>by rw[aJ (bK q h)];exact q
theorem ft {K:J6}{O:Ow}{H:Hp}{p:Addr}{l:List T}{vs:List V}(h:H p=none)(n:¬ O p)(r:Reps K O H l vs):Rep K O (upd H p (.tup vs)) (.tup l) (.ref p):=
 Rep.Fk.mpr ⟨p,vs,rfl,n,aT,r.same (aN h _)⟩
theorem dF {K:J6}{O:Ow}{H:Hp}{p:Addr}{l:List T}{vs:List V}(h:H p=none)(n:¬ O p)(r:Reps K O H l vs):Rep K O (upd H p (.lst vs)) (.lst l) (.ref p):=
 Rep.Do.mpr ⟨p,vs,rfl,n,aT,r.same (aN h _)⟩
theorem DK {es:List Expr}{x1:Nat}{pos:Pos}{f:En->Rs (List T)}(h:oy X es f):cj X (.Tuple es x1 pos) (a9 f):=by
 intro pins s σ H Q I ⟨Z,O,E,hq⟩;refine Fm h pins s σ H Q I ?_
 obtain⟨Z1,O1,E1,h1⟩:=da E hq;refine⟨Z1,O1,E1,Post.mono h1 λts H1 s1 q vs r=> ?_⟩
 obtain⟨t',r',s',E',q'⟩:=q vs r;unfold jk at q'
 split at q'
 ·rename_i hz
  refine⟨by rw[<-r'.length];exact hz,λp hp=> ?_⟩
  exact q' _ (aN hp _) _ (ft hp (E'.fresh hp) r')
 ·exact q'.elim
theorem Hr {es:List Expr}{pos:Pos}{f:En->Rs (List T)}(h:oy X es f):cj X (.List es pos) (gE f):=by
 intro pins s σ H Q I ⟨Z,O,E,hq⟩;refine Fs h pins s σ H Q I ?_
 obtain⟨Z1,O1,E1,h1⟩:=da E hq;refine⟨Z1,O1,E1,Post.mono h1 λts H1 s1 q vs r=> ?_⟩
 obtain⟨t',r',s',E',q'⟩:=q vs r;unfold k7 at q'
 split at q'
 ·rename_i hz
  refine⟨by rw[<-r'.length];exact hz,λp hp=> ?_⟩
  exact q' _ (aN hp _) _ (dF hp (E'.fresh hp) r')
 ·exact q'.elim
def OpT (X:Cx)(f:J8->J8->Sem J8)(g:T->T->Rs T):Prop:=
 ∀(pins:List (Addr×Obj)) (s:Kb) (σ:L2.St) (H:Hp) (O:Ow) (x y:T) (vx vy:V) (ux uy:J8) (Q:VK),Inv X pins σ H s->(∀p,H p=none->¬ O p)->Rep X.K O H x vx->Rep X.K O H y vy->RelV vx ux->RelV vy uy →
  Post X H (g x y) (λt H'=> ∀v,Rep X.K O H' t v->Q v H')->wpAny (model X.prog X.w) X.A (f ux uy) (EP X pins σ Q) X.xe s
def o2 (g:T->T->Rs T)(fa fb:En->Rs T)(Z:En):Rs T:=do
 let x <-fa Z
 let y <-fb Z
 g x y
variable {a b c:Expr}{fa fb fc:En->Rs T}{pos:Pos}
theorem Hw {op:Tc}{g:T->T->Rs T}(ho:OpT X (L6 op) g)(ha:cj X a fa)(hb:cj X b fb):cj X (.BinOp a op b pos) (o2 g fa fb):=by
 intro pins s σ H Q I ⟨Z,O,E,hq⟩
 have h1:=aS E hq;refine wpAny_BinOp (bX (ha pins s σ H _ I h1) λv s1 hh_=> ?_)
 obtain⟨x,H1,I1,r1,t,rt,s',E',q1⟩:=hh_
 have h2:=aS (f:=fb) E' q1;refine bX (hb pins s1 σ H1 _ I1 h2) λu s2 hh_=> ?_
 obtain⟨y,H2,I2,r2,t2,rt2,s'',E'',q2⟩:=hh_;exact ho pins s2 σ H2 O t t2 x y v u Q I2 (λp=>E''.fresh) (rt.same s'') rt2 r1 r2 q2
theorem Hv {op:CmpOp}{g:T->T->Rs T}(ho:OpT X (Lr op) g)(ha:cj X a fa)(hb:cj X b fb)(hm:PQ op b=false:=by rfl):cj X (.Compare a [op] [b] pos) (o2 g fa fb):=by
 intro pins s σ H Q I ⟨Z,O,E,hq⟩
 have h1:=aS E hq;refine wpAny_Compare1 (bX (ha pins s σ H _ I h1) λv s1 ⟨x,H1,I1,r1,t,rt,s',E',q1⟩=> ?_) hm
 have h2:=aS (f:=fb) E' q1;refine bX (hb pins s1 σ H1 _ I1 h2) λu s2 hh_=> ?_
 obtain⟨y,H2,I2,r2,t2,rt2,s'',E'',q2⟩:=hh_;exact ho pins s2 σ H2 O t t2 x y v u Q I2 (λp=>E''.fresh) (rt.same s'') rt2 r1 r2 q2
theorem OpT.of {f:J8->J8->Sem J8}{r:R2}(h:pQ X f r){g:T->T->Rs T}
  (w:∀(H:Hp) (O:Ow) (x y:T) (vx vy:V) (Q:VK),(∀p,H p=none->¬ O p)->Rep X.K O H x vx->Rep X.K O H y vy->Post X H (g x y) (λt H'=> ∀v,Rep X.K O H' t v->Q v H')->r vx vy H Q):OpT X f g:=
 λpins s σ H O x y vx vy ux uy Q I hf rx ry r1 r2 hp=>h pins s σ H vx vy ux uy Q I r1 r2 (w H O x y vx vy Q hf rx ry hp)
def dX:T->T->Rs T
 | .int i,.int j=> .ok (.int (i - j))
 | _,_=> .bad
theorem dY:OpT X (L6 .Sub) dX:=OpT.of Fv λH O x y vx vy Q hf rx ry hp=>by
 unfold dX at hp
 split at hp
 ·exact⟨_,_,Rep.AC.mp rx,Rep.AC.mp ry,hp H (Same.refl H) _ (Rep.GE _)⟩
 ·exact hp.elim
def eC:T->T->Rs T
 | .int i,.int j=>if 0<j/\j<1073741824 then .ok (.int (i / j))else .bad
 | _,_=> .bad
def dU:T->T->Rs T
 | .int i,.int j=>if 0<j then .ok (.int (i % j))else .bad
 | _,_=> .bad
theorem fL:OpT X (L6 .FloorDiv) eC:=OpT.of CJ λH O x y vx vy Q hf rx ry hp=>by
 unfold eC at hp
 split at hp
 ·split at hp
  ·rename_i h
   exact⟨_,_,Rep.AC.mp rx,Rep.AC.mp ry,h,hp H (Same.refl H) _ (Rep.GE _)⟩
  ·exact hp.elim
 ·exact hp.elim
theorem fw:OpT X (L6 .Mod) dU:=OpT.of Fy λH O x y vx vy Q hf rx ry hp=>by
 unfold dU at hp
 split at hp
 ·split at hp
  ·rename_i h
   exact⟨_,_,Rep.AC.mp rx,Rep.AC.mp ry,h,hp H (Same.refl H) _ (Rep.GE _)⟩
  ·exact hp.elim
 ·exact hp.elim
theorem zK:pQ X (L6 .Add) (λx y H Q=> ∃a b ys,x= .ref a/\y= .ref b/\SqT X.K H a []/\SqT X.K H b ys/\Q (.ref b) H):=by
 intro pins s σ H x y v u Q I rx ry h;obtain⟨a,b,ys,rfl,rfl,ha,hb,q⟩:=h;cases rx;cases ry;obtain⟨its,r1,p1,_⟩:=I.tuple ha;obtain⟨its2,r2,p2,_⟩:=I.tuple hb;obtain⟨⟨cls,dd,data,sl⟩,ho,hc,n,hd⟩:=id p1;obtain⟨⟨cls2,dd2,data2,sl2⟩,ho2,hc2,n2,hd2⟩:=id p2;simp only at hc hd hc2 hd2;subst hc hd hc2 hd2
 have e:its= []:=by cases r1;rfl
 subst e;exact HT_concat0 ho ho2 ⟨.ref b,H,I,rfl,q⟩
where
 HT_concat0 {prog:Kz} {w:Lb} {A:KU} {E:J8->Kb->Prop} {s:Kb} {t b:Addr} {ws:Array J8} {n n2:Nat} {dd dd2:Option Addr} {sl sl2:Array (Option J8)} {Q:J8->Kb->Prop}
   (ho:s.heap.get? t=some { cls:=.type "tuple",dict:=dd,data:=.seq (([]:List J8).toArray) n,slots:=sl }) (ho2:s.heap.get? b=some { cls:=.type "tuple",dict:=dd2,data:=.seq ws n2,slots:=sl2 }) (h:Q (.ref b) s) :
   wpAny (model prog w) A (L6 .Add (.ref t) (.ref b)) Q E s:=
  Se ⟨_,ho,rfl⟩ ⟨_,ho2,rfl⟩ P4 RA NO NF (Ny _ _)
   (tuple_addW0 t b _ _ n n2 dd dd2 sl sl2 (by simp)) ⟨ho,ho2,h⟩
def bD:T->T->Rs T
 | .int i,.int j=> .ok (.int (i+j))
 | .str i,.str j=>if i.length+j.length<=sizeLine then .ok (.str (i++j))else .bad
 | .tup l,.tup m=>jk (l++m)
 | .lst l,.lst m=>k7 (l++m)
 | _,_=> .bad
theorem b9:OpT X (L6 .Add) bD:=by
 intro pins s σ H O x y vx vy ux uy Q I hf rx ry r1 r2 hp;unfold bD at hp
 split at hp
 ·exact FC pins s σ H vx vy ux uy Q I r1 r2 ⟨_,_,Rep.AC.mp rx,Rep.AC.mp ry,hp H (Same.refl H) _ (Rep.GE _)⟩
 ·split at hp
  ·rename_i h
   exact uN pins s σ H vx vy ux uy Q I r1 r2 ⟨_,_,Rep.Gc.mp rx,Rep.Gc.mp ry,h,hp H (Same.refl H) _ (Rep.J2 _)⟩
  ·exact hp.elim
 ·rename_i l m
  unfold jk at hp
  split at hp
  ·rename_i h
   obtain⟨a,vs,e1,n1,q1,z1⟩:=Rep.Fk.mp rx;obtain⟨b,ws,e2,n2,q2,z2⟩:=Rep.Fk.mp ry
   have hl1:=z1.length
   have hl2:=z2.length;rw[Kw]at h
   cases vs with
   | nil=>
    have e:l= []:=by cases l with
     | nil=>rfl
     | cons _ _=>simp at hl1
    subst e
    exact zK pins s σ H vx vy ux uy Q I r1 r2 ⟨a,b,ws,e1,e2,SqT.of q1,SqT.of q2,hp H (Same.refl H) _ (Rep.Fk.mpr ⟨b,ws,rfl,n2,q2,z2⟩)⟩
   | cons v0 vr=>
    refine CK pins s σ H vx vy ux uy Q I r1 r2 ⟨a,b,v0::vr,ws,e1,e2,SqT.of q1,SqT.of q2,by simp,by omega,λhw=> ?_,λ_ p hpn=> ?_⟩
    ·subst hw
     have e:m= []:=by cases m with
      | nil=>rfl
      | cons _ _=>simp at hl2
     subst e;rw[LJ]at hp;exact hp H (Same.refl H) _ (Rep.Fk.mpr ⟨a,_,rfl,n1,q1,z1⟩)
    ·exact hp _ (aN hpn _) _ (ft hpn (hf p hpn) (z1.append z2))
  ·exact hp.elim
 ·rename_i l m
  unfold k7 at hp
  split at hp
  ·rename_i h
   obtain⟨a,vs,e1,n1,q1,z1⟩:=Rep.Do.mp rx;obtain⟨b,ws,e2,n2,q2,z2⟩:=Rep.Do.mp ry
   have hl1:=z1.length
   have hl2:=z2.length;rw[Kw]at h;exact FA pins s σ H vx vy ux uy Q I r1 r2 ⟨a,b,vs,ws,e1,e2,q1,q2,by omega,λp hpn=>hp _ (aN hpn _) _ (dF hpn (hf p hpn) (z1.append z2))⟩
  ·exact hp.elim
 ·exact hp.elim
def zX:T->T->Rs T
 | .int i,.int j=>if (-(2 ^ 64)<i/\i<2 ^ 64)\/(-(2 ^ 64)<j/\j<2 ^ 64)then .ok (.int (i*j))else .bad
 | .lst l,.int k=>if -(2 ^ 63)<=k/\k<2 ^ 63/\l.length*k.toNat<=sizeLine then .ok (.lst (KC k.toNat l).flatten)else .bad
 | _,_=> .bad
theorem Reps.rep {K:J6}{O:Ow}{H:Hp}{l:List T}{vs:List V}(h:Reps K O H l vs):∀k:Nat,Reps K O H (KC k l).flatten (KC k vs).flatten
 | 0=>Reps.GT
 | k+1=>by rw[LW,LW,ME,ME];exact h.append (h.rep k)
theorem Fu:OpT X (L6 .Mult) zX:=by
 intro pins s σ H O x y vx vy ux uy Q I hf rx ry r1 r2 hp;unfold zX at hp
 split at hp
 ·split at hp
  ·rename_i h
   exact Fx pins s σ H vx vy ux uy Q I r1 r2 ⟨_,_,Rep.AC.mp rx,Rep.AC.mp ry,h,hp H (Same.refl H) _ (Rep.GE _)⟩
  ·exact hp.elim
 ·split at hp
  ·rename_i l k h
   obtain⟨a,vs,e1,n1,q1,z1⟩:=Rep.Do.mp rx
   have hl1:=z1.length;exact Fw pins s σ H vx vy ux uy Q I r1 r2 ⟨a,k,vs,e1,Rep.AC.mp ry,q1,h.1,h.2.1,by rw[<-hl1];exact h.2.2,λp hpn=>hp _ (aN hpn _) _ (dF hpn (hf p hpn) (z1.rep _))⟩
  ·exact hp.elim
 ·exact hp.elim
def jb:T->Rs T
 | .int i=> .ok (.int (-i))
 | _=> .bad
def o1 (g:T->Rs T)(fa:En->Rs T)(Z:En):Rs T:=fa Z >>= g
theorem DL (ha:cj X a fa):cj X (.UnaryOp .USub a pos) (o1 jb fa):=by
 intro pins s σ H Q I ⟨Z,O,E,hq⟩;refine DO yO ha pins s σ H Q I ?_
 obtain⟨Z1,O1,E1,h1⟩:=aS E hq;refine⟨Z1,O1,E1,Post.mono h1 λts H1 s1 q vs r=> ?_⟩
 obtain⟨t',r',s',E',q'⟩:=q vs r;unfold jb at q'
 split at q'
 ·exact⟨_,Rep.AC.mp r',q' H1 (Same.refl H1) _ (Rep.GE _)⟩
 ·exact q'.elim
def ub (p:Int->Int->Bool):T->T->Rs T
 | .int i,.int j=> .ok (.bl (p i j))
 | _,_=> .bad
theorem qz {op:CmpOp}{p:Int->Int->Bool}(h:pQ X (Lr op) (DJ λi j=> .bl (p i j))):OpT X (Lr op) (ub p):=OpT.of h λH O x y vx vy Q hf rx ry hp=>by
 unfold ub at hp
 split at hp
 ·exact⟨_,_,Rep.AC.mp rx,Rep.AC.mp ry,hp H (Same.refl H) _ (Rep.bl_ _)⟩
 ·exact hp.elim
abbrev HW:=ub λi j=>decide (i<j)
abbrev GQ:=ub λi j=>decide (i<=j)
abbrev Jd:=ub λi j=>decide (j<i)
theorem zJ:OpT X (Lr .Lt) HW:=qz HH
theorem sH:OpT X (Lr .LtE) GQ:=qz HI
theorem DS:OpT X (Lr .Gt) Jd:=qz HJ
def T.isN:T->Bool
 | .non=>true
 | _=>false
theorem Rep.isN {K:J6}{O:Ow}{H:Hp}{t:T}{v:V}(r:Rep K O H t v):decide (v= .non)=t.isN:=by
 cases t with
 | non=>rw[Rep.Jp.mp r];rfl
 | bl _=>rw[Rep.FB.mp r];rfl
 | int _=>rw[Rep.AC.mp r];rfl
 | str _=>rw[Rep.Gc.mp r];rfl
 | tup _=>obtain⟨a,vs,e,_⟩:=Rep.Fk.mp r;rw[e];rfl
 | lst _=>obtain⟨a,vs,e,_⟩:=Rep.Do.mp r;rw[e];rfl
 | scr _=>unfold Rep at r;obtain⟨a,e,_⟩:=r;rw[e];rfl
 | dct _ _=>obtain⟨a,_,e,_⟩:=Rep.Jl.mp r;rw[e];rfl
def kG:T->T->Rs T
 | x,.non=> .ok (.bl x.isN)
 | _,_=> .bad
def jh:T->T->Rs T
 | x,.non=> .ok (.bl (!x.isN))
 | _,_=> .bad
theorem sI:OpT X (Lr .Is) kG:=OpT.of Fz λH O x y vx vy Q hf rx ry hp=>by
 unfold kG at hp
 split at hp
 ·exact⟨Rep.Jp.mp ry,hp H (Same.refl H) _ (by rw[rx.isN];exact Rep.bl_ _)⟩
 ·exact hp.elim
theorem jX:OpT X (Lr .IsNot) jh:=OpT.of CI λH O x y vx vy Q hf rx ry hp=>by
 unfold jh at hp
 split at hp
 ·exact⟨Rep.Jp.mp ry,hp H (Same.refl H) _ (by rw[rx.isN];exact Rep.bl_ _)⟩
 ·exact hp.elim
end
end Tr
namespace Tr
open PySem PySem.Spec PyProof.Rows L2
open PySem.SeqAt
mutual
def ReV (s:Kb):T->J8->Prop
 | .non,u=>u= .none
 | .bl b,u=>u= .bool b
 | .int i,u=> ∃t,u= .int i t
 | .str x,u=> ∃t,u= .str x t
 | .tup l,u=> ∃a its,u= .ref a/\s.heap.IsTuple a (Oa its)/\ReVs s l its
 | .lst l,u=> ∃a its,u= .ref a/\s.heap.IsList a (Oa its)/\ReVs s l its
 | .scr l,u=> ∃a its,u= .ref a/\s.heap.IsList a (Oa its)/\LI its l
 | .dct _ _,_=>False
def ReVs (s:Kb):List T->List J8->Prop
 | [],us=>us= []
 | t::r,us=> ∃u ws,us=u::ws/\ReV s t u/\ReVs s r ws
end
theorem ReVs.Da {s:Kb}{us:List J8}:ReVs s [] us↔us= []:=by unfold ReVs;exact OC
theorem ReVs.me {s:Kb}{t:T}{l:List T}{us:List J8}:ReVs s (t::l) us↔ ∃u ws,us=u::ws/\ReV s t u/\ReVs s l ws:=by
 constructor
 ·intro h;unfold ReVs at h;exact h
 ·intro h;unfold ReVs;exact h
theorem ReVs.length {s:Kb}:∀{l:List T} {us:List J8},ReVs s l us->l.length=us.length
 | [],us,r=>by rw[ReVs.Da.mp r];rfl
 | t::l,us,r=>by
  obtain⟨v,ws,rfl,_,q⟩:=ReVs.me.mp r;simp[q.length]
theorem ReVs.get {s:Kb}:∀{l:List T} {us:List J8} {i:Nat} {t:T},ReVs s l us->l[i]? =some t->∃v,us[i]? =some v/\ReV s t v
 | [],_,_,_,_,e=>by simp at e
 | t::l,vs,i,u,r,e=>by
  obtain⟨v,ws,rfl,p,q⟩:=ReVs.me.mp r
  cases i with
  | zero=>simp at e;subst e;exact⟨v,rfl,p⟩
  | succ i=>
   obtain⟨z,e1,e2⟩:=q.get (i:=i) (t:=u) (by simpa using e)
   exact⟨z,by simpa using e1,e2⟩
mutual
def T.nd:T->Bool
 | .dct _ _=>false
 | .tup l=>nds l
 | .lst l=>nds l
 | _=>true
def nds:List T->Bool
 | [] =>true
 | t::l=>t.nd&&nds l
end
theorem tq {t:T}{l:List T}(h:nds (t::l)=true):t.nd=true/\nds l=true:=by unfold nds at h;exact L9.mp h
section
variable {X:Cx}{pins:List (Addr×Obj)}{σ:L2.St}{H:Hp}{s:Kb}{O:Ow}
mutual
theorem Rep.val (I:Inv X pins σ H s):∀{t:T} {v:V} {u:J8},t.nd=true->Rep X.K O H t v->RelV v u->ReV s t u
 | .non,v,u,hn,r,q=>by cases Rep.Jp.mp r;unfold ReV;exact q
 | .bl b,v,u,hn,r,q=>by cases Rep.FB.mp r;unfold ReV;exact q
 | .int b,v,u,hn,r,q=>by cases Rep.AC.mp r;unfold ReV;exact q
 | .str b,v,u,hn,r,q=>by cases Rep.Gc.mp r;unfold ReV;exact q
 | .tup l,v,u,hn,r,q=>by
  obtain⟨a,vs,rfl,_,z,w⟩:=Rep.Fk.mp r;cases q;obtain⟨its,rv,p,_⟩:=I.tuple (SqT.of z);unfold ReV
  exact⟨a,its,rfl,p,Reps.val I (by unfold T.nd at hn;exact hn) w rv⟩
 | .lst l,v,u,hn,r,q=>by
  obtain⟨a,vs,rfl,_,z,w⟩:=Rep.Do.mp r;cases q;obtain⟨its,rv,p,_⟩:=I.list (SqL.of z);unfold ReV
  exact⟨a,its,rfl,p.isList,Reps.val I (by unfold T.nd at hn;exact hn) w rv⟩
 | .scr l,v,u,hn,r,q=>by
  unfold Rep at r;obtain⟨a,rfl,_,z⟩:=r;cases q;obtain⟨its,rv,p,_⟩:=I.list z;unfold ReV
  exact⟨a,its,rfl,p.isList,u6 rv⟩
 | .dct _ _,v,u,hn,r,q=>by cases hn
theorem Reps.val (I:Inv X pins σ H s):∀{l:List T} {vs:List V} {us:List J8},nds l=true->Reps X.K O H l vs->Vals vs us->ReVs s l us
 | [],vs,us,hn,r,q=>by
  cases Reps.Da.mp r;cases q
  exact ReVs.Da.mpr rfl
 | t::l,vs,us,hn,r,q=>by
  obtain⟨v,ws,rfl,p,z⟩:=Reps.me.mp r
  cases q with
  | cons q1 q2=>exact ReVs.me.mpr ⟨_,_,rfl,Rep.val I (tq hn).1 p q1,Reps.val I (tq hn).2 z q2⟩
end
end
mutual
def T.dep:T->Nat
 | .tup l=>deps l+1
 | .lst l=>deps l+1
 | .scr _=>1
 | _=>0
def deps:List T->Nat
 | [] =>0
 | t::l=>max t.dep (deps l)
end
def Ds (i:Int):T->Bool
 | .int j=>i == j
 | .bl b=>i == (if b then 1 else 0)
 | _=>false
def jo:List Int->List T->Bool
 | [],[] =>true
 | i::r,t::l=>Ds i t&&jo r l
 | _,_=>false
mutual
def aQ:T->T->Bool
 | .non,.non=>true
 | .bl a,.bl b=>a == b
 | .bl a,.int b=>(if a then 1 else 0) == b
 | .int a,.bl b=>a == (if b then 1 else 0)
 | .int a,.int b=>a == b
 | .str a,.str b=>a == b
 | .tup l,.tup m=>beqTs l m
 | .lst l,.lst m=>beqTs l m
 | .lst l,.scr m=>beqTs l (m.map .int)
 | .scr l,.lst m=>jo l m
 | .scr l,.scr m=>l == m
 | _,_=>false
def beqTs:List T->List T->Bool
 | [],[] =>true
 | t::l,u::m=>aQ t u&&beqTs l m
 | _,_=>false
end
theorem nV (n:Nat)(e:Nat->Bool):(J7 (n+1)).all e=(e 0&&(J7 n).all λj=>e (j+1)):=by
 rw[Mk,Rl,Sa];rfl
theorem kK:∀(l m:List T) (e:Nat->Bool),(∀(j:Nat) t u,l[j]? =some t->m[j]? =some u->e j=aQ t u) →
  beqTs l m=((J7 (min l.length m.length)).all e&&l.length == m.length)
 | [],[],_,_=>by simp[beqTs]
 | [],_::_,_,_=>by simp[beqTs]
 | _::_,[],_,_=>by simp[beqTs]
 | t::l,u::m,e,h=>by
  have ih:=kK l m (λj=>e (j+1)) λj t' u' h1 h2=>h (j+1) t' u' (by simpa using h1) (by simpa using h2)
  rw[beqTs,ih]
  have h0:=h 0 t u rfl rfl;simp only[Kj];rw[Nat.succ_min_succ,nV,h0,Bool.and_assoc]
  congr 2
  simp
theorem pL:∀{l m:List T},l.length≠m.length->beqTs l m=false
 | [],[],h=>absurd rfl h
 | [],_::_,_=>by simp[beqTs]
 | _::_,[],_=>by simp[beqTs]
 | t::l,u::m,h=>by
  rw[beqTs,pL (l:=l) (m:=m) (by intro z;exact h (by simp[z]))]
  simp
theorem ix:∀{l:List T} {i:Nat} {t:T},l[i]? =some t->t.dep<=deps l
 | [],_,_,e=>by simp at e
 | t::l,0,u,e=>by simp at e;subst e;unfold deps;exact Nat.le_max_left _ _
 | t::l,i+1,u,e=>by
  have:=ix (l:=l) (i:=i) (t:=u) (by simpa using e)
  unfold deps;exact KD this (Nat.le_max_right _ _)
theorem iq {s:Kb}{a:Addr}{x y:List J8}(h:s.heap.IsTuple a x.toArray)(h':s.heap.IsTuple a y.toArray):x=y:=by
 obtain⟨o,e,_,n,d⟩:=h;obtain⟨o',e',_,n',d'⟩:=h';rw[e]at e';cases e';rw[d]at d';injection d' with d1 _
 simpa using congrArg Qe d1
theorem cC {s:Kb}{a:Addr}{x y:List J8}(h:s.heap.IsList a x.toArray)(h':s.heap.IsList a y.toArray):x=y:=by
 obtain⟨o,e,_,n,d⟩:=h;obtain⟨o',e',_,n',d'⟩:=h';rw[e]at e';cases e';rw[d]at d';injection d' with d1 _
 simpa using congrArg Qe d1
theorem yv {s:Kb}{i:Int}{t:T}{k:Tok}(r:ReV s t (.int i k)):Ds i t=true:=by
 cases t with
 | non=>unfold ReV at r;cases r
 | bl b=>unfold ReV at r;cases r
 | int j=>unfold ReV at r;obtain⟨t,e⟩:=r;injection e with e1 _;subst e1;simp[Ds]
 | str x=>unfold ReV at r;obtain⟨t,e⟩:=r;cases e
 | tup l=>unfold ReV at r;obtain⟨a,its,e,_⟩:=r;cases e
 | lst l=>unfold ReV at r;obtain⟨a,its,e,_⟩:=r;cases e
 | scr l=>unfold ReV at r;obtain⟨a,its,e,_⟩:=r;cases e
 | dct _ _=>unfold ReV at r;exact r.elim
theorem nT {s:Kb}:∀{ns:List Int} {us:List J8} {l:List T},LI us ns->ReVs s l us->jo ns l=true
 | [],us,l,h,r=>by
  cases h
  cases l with
  | nil=>rfl
  | cons t l=>obtain⟨_,_,e,_⟩:=ReVs.me.mp r;cases e
 | n::ns,us,l,h,r=>by
  cases h with
  | cons a b hh=>
   cases l with
   | nil=>have:=ReVs.Da.mp r;cases this
   | cons t l=>
    obtain⟨u,ws,e,p,q⟩:=ReVs.me.mp r;injection e with e1 e2
    subst e1 e2;rw[jo,yv p,nT hh q];rfl
theorem dw {s:Kb}:∀{us:List J8} {ns:List Int},LI us ns->ReVs s (ns.map T.int) us
 | _,_,.nil=>ReVs.Da.mpr rfl
 | _,_,.cons n t h=>ReVs.me.mpr ⟨_,_,rfl,by unfold ReV;exact⟨_,rfl⟩,dw h⟩
theorem ir:∀{us:List J8} {ns ms:List Int},LI us ns->LI us ms->ns=ms
 | _,_,_,.nil,.nil=>rfl
 | _,_,_,.cons n t h,.cons _ _ h'=>by rw[ir h h']
mutual
theorem ReV.refl {s:Kb}:∀{t u:T} {v:J8},ReV s t v->ReV s u v->aQ t u=true
 | .non,u,v,r,q=>by
  unfold ReV at r;subst r
  cases u <;> (unfold ReV at q) <;> first | rfl | (cases q;done) | (obtain⟨_,e⟩:=q;cases e;done) | (obtain⟨_,_,e,_⟩:=q;cases e;done)
 | .bl b,u,v,r,q=>by
  unfold ReV at r;subst r
  cases u <;> (unfold ReV at q) <;> first | (cases q;done) | (cases q;simp[aQ];done) | (obtain⟨_,e⟩:=q;cases e;done) | (obtain⟨_,_,e,_⟩:=q;cases e;done)
 | .int b,u,v,r,q=>by
  unfold ReV at r;obtain⟨k,rfl⟩:=r
  cases u <;> (unfold ReV at q) <;> first | (cases q;done) | (obtain⟨_,e⟩:=q;cases e;simp[aQ];done) | (obtain⟨_,e⟩:=q;cases e;done) | (obtain⟨_,_,e,_⟩:=q;cases e;done)
 | .str b,u,v,r,q=>by
  unfold ReV at r;obtain⟨k,rfl⟩:=r
  cases u <;> (unfold ReV at q) <;> first | (cases q;done) | (obtain⟨_,e⟩:=q;cases e;simp[aQ];done) | (obtain⟨_,e⟩:=q;cases e;done) | (obtain⟨_,_,e,_⟩:=q;cases e;done)
 | .tup l,u,v,r,q=>by
  unfold ReV at r;obtain⟨a,its,rfl,h1,h2⟩:=r
  cases u with
  | non=>unfold ReV at q;cases q
  | dct _ _=>unfold ReV at q;exact q.elim
  | bl _=>unfold ReV at q;cases q
  | int _=>unfold ReV at q;obtain⟨_,e⟩:=q;cases e
  | str _=>unfold ReV at q;obtain⟨_,e⟩:=q;cases e
  | tup m=>
   unfold ReV at q;obtain⟨a',its',e,h1',h2'⟩:=q;injection e with e;subst e
   have:=iq h1 h1';subst this;unfold aQ
   exact ReVs.refl h2 h2'
  | lst m=>unfold ReV at q;obtain⟨a',its',e,h1',h2'⟩:=q;injection e with e;subst e;exact absurd rfl (ne_of_list_tuple h1' h1)
  | scr m=>unfold ReV at q;obtain⟨a',its',e,h1',h2'⟩:=q;injection e with e;subst e;exact absurd rfl (ne_of_list_tuple h1' h1)
 | .lst l,u,v,r,q=>by
  unfold ReV at r;obtain⟨a,its,rfl,h1,h2⟩:=r
  cases u with
  | non=>unfold ReV at q;cases q
  | dct _ _=>unfold ReV at q;exact q.elim
  | bl _=>unfold ReV at q;cases q
  | int _=>unfold ReV at q;obtain⟨_,e⟩:=q;cases e
  | str _=>unfold ReV at q;obtain⟨_,e⟩:=q;cases e
  | lst m=>
   unfold ReV at q;obtain⟨a',its',e,h1',h2'⟩:=q;injection e with e;subst e
   have:=cC h1 h1';subst this;unfold aQ
   exact ReVs.refl h2 h2'
  | tup m=>unfold ReV at q;obtain⟨a',its',e,h1',h2'⟩:=q;injection e with e;subst e;exact absurd rfl (ne_of_list_tuple h1 h1')
  | scr m=>
   unfold ReV at q;obtain⟨a',its',e,h1',h2'⟩:=q;injection e with e;subst e
   have:=cC h1 h1';subst this;unfold aQ
   exact ReVs.refl h2 (dw h2')
 | .scr l,u,v,r,q=>by
  unfold ReV at r;obtain⟨a,its,rfl,h1,h2⟩:=r
  cases u with
  | non=>unfold ReV at q;cases q
  | dct _ _=>unfold ReV at q;exact q.elim
  | bl _=>unfold ReV at q;cases q
  | int _=>unfold ReV at q;obtain⟨_,e⟩:=q;cases e
  | str _=>unfold ReV at q;obtain⟨_,e⟩:=q;cases e
  | lst m=>
   unfold ReV at q;obtain⟨a',its',e,h1',h2'⟩:=q;injection e with e;subst e
   have:=cC h1 h1';subst this;unfold aQ
   exact nT h2 h2'
  | tup m=>unfold ReV at q;obtain⟨a',its',e,h1',h2'⟩:=q;injection e with e;subst e;exact absurd rfl (ne_of_list_tuple h1 h1')
  | scr m=>
   unfold ReV at q;obtain⟨a',its',e,h1',h2'⟩:=q;injection e with e;subst e
   have:=cC h1 h1';subst this;unfold aQ
   have:=ir h2 h2'
   simp[this]
 | .dct _ _,u,v,r,q=>by unfold ReV at r;exact r.elim
theorem ReVs.refl {s:Kb}:∀{l m:List T} {us:List J8},ReVs s l us->ReVs s m us->beqTs l m=true
 | [],m,us,r,q=>by
  cases ReVs.Da.mp r
  cases m with
  | nil=>simp[beqTs]
  | cons _ _=>obtain⟨_,_,e,_⟩:=ReVs.me.mp q;cases e
 | t::l,m,us,r,q=>by
  obtain⟨v,ws,rfl,p,z⟩:=ReVs.me.mp r
  cases m with
  | nil=>cases ReVs.Da.mp q
  | cons u m=>
   obtain⟨v',ws',e,p',z'⟩:=ReVs.me.mp q;injection e with e1 e2
   subst e1 e2;rw[beqTs,ReV.refl p p',ReVs.refl z z'];rfl
end
theorem nS:∀(l:List Int) (m:List T),jo l m=beqTs (l.map T.int) m
 | [],[] =>by simp[jo,beqTs]
 | [],_::_=>by simp[jo,beqTs]
 | _::_,[] =>by simp[jo,beqTs]
 | i::l,t::m=>by
  rw[jo,Ke,beqTs,nS l m]
  congr 1
  cases t <;> simp[Ds,aQ]
theorem qc:∀(l m:List Int),(l == m)=beqTs (l.map T.int) (m.map T.int)
 | [],[] =>by simp[beqTs]
 | [],_::_=>by simp[beqTs]
 | _::_,[] =>by simp[beqTs]
 | i::l,t::m=>by
  rw[Ke,Ke,beqTs,<-qc l m];simp[aQ]
theorem fh:∀(l:List Int),deps (l.map T.int)=0
 | [] =>rfl
 | i::l=>by rw[Ke,deps,fh l];simp[T.dep]
def iQ:T->T->Prop
 | .tup _,.tup _=>False
 | .lst _,.lst _=>False
 | .lst _,.scr _=>False
 | .scr _,.lst _=>False
 | .scr _,.scr _=>False
 | _,_=>True
theorem tO (A:KU)(s:Kb)(x y:T)(u v:J8)(hn:iQ x y)(hu:A.units<cLine)(rx:ReV s x u)(ry:ReV s y v):EqAt A s u v (aQ x y)/\RcAt A s u v (aQ x y)/\RcNeAt A s u v (!aQ x y):=by
 match x,y,hn,rx,ry with
 | .dct _ _,_,_,rx,_=>exact(by unfold ReV at rx;exact rx:False).elim
 | _,.dct _ _,_,_,ry=>exact(by unfold ReV at ry;exact ry:False).elim
 | .non,.non,hn,rx,ry=>
  obtain rfl:u=K6:=by unfold ReV at rx;exact rx
  obtain rfl:v=K6:=by unfold ReV at ry;exact ry
  exact⟨EqAt.same _,RcAt.none_none ,RcNeAt.none_none ⟩
 | .non,.bl b2,hn,rx,ry=>
  obtain rfl:u=K6:=by unfold ReV at rx;exact rx
  obtain rfl:v=Lw b2:=by unfold ReV at ry;exact ry
  exact⟨EqAt.none_bool b2,RcAt.none_bool b2,RcNeAt.none_bool b2⟩
 | .non,.int i2,hn,rx,ry=>
  obtain rfl:u=K6:=by unfold ReV at rx;exact rx
  obtain⟨k2,rfl⟩:∃k,v=Lj i2 k:=by unfold ReV at ry;exact ry
  exact⟨EqAt.none_int i2 k2,RcAt.none_int i2 k2,RcNeAt.none_int i2 k2⟩
 | .non,.str x2,hn,rx,ry=>
  obtain rfl:u=K6:=by unfold ReV at rx;exact rx
  obtain⟨k2,rfl⟩:∃k,v=L3 x2 k:=by unfold ReV at ry;exact ry
  exact⟨EqAt.none_str x2 k2,RcAt.none_str x2 k2,RcNeAt.none_str x2 k2⟩
 | .non,.tup l2,hn,rx,ry=>
  obtain rfl:u=K6:=by unfold ReV at rx;exact rx
  unfold ReV at ry;obtain⟨a2,us2,rfl,h2,q2⟩:=ry
  exact⟨EqAt.none_tuple h2 hu,RcAt.none_tuple h2 hu,RcNeAt.none_tuple h2 hu⟩
 | .non,.lst l2,hn,rx,ry=>
  obtain rfl:u=K6:=by unfold ReV at rx;exact rx
  unfold ReV at ry;obtain⟨a2,us2,rfl,h2,q2⟩:=ry
  exact⟨EqAt.none_list h2 hu,RcAt.none_list h2 hu,RcNeAt.none_list h2 hu⟩
 | .non,.scr l2,hn,rx,ry=>
  obtain rfl:u=K6:=by unfold ReV at rx;exact rx
  unfold ReV at ry;obtain⟨a2,us2,rfl,h2,q2⟩:=ry
  exact⟨EqAt.none_list h2 hu,RcAt.none_list h2 hu,RcNeAt.none_list h2 hu⟩
 | .bl b1,.non,hn,rx,ry=>
  obtain rfl:u=Lw b1:=by unfold ReV at rx;exact rx
  obtain rfl:v=K6:=by unfold ReV at ry;exact ry
  exact⟨EqAt.bool_none b1,RcAt.bool_none b1,RcNeAt.bool_none b1⟩
 | .bl b1,.bl b2,hn,rx,ry=>
  obtain rfl:u=Lw b1:=by unfold ReV at rx;exact rx
  obtain rfl:v=Lw b2:=by unfold ReV at ry;exact ry
  exact⟨EqAt.bool_bool b1 b2,RcAt.bool_bool b1 b2,RcNeAt.bool_bool b1 b2⟩
 | .bl b1,.int i2,hn,rx,ry=>
  obtain rfl:u=Lw b1:=by unfold ReV at rx;exact rx
  obtain⟨k2,rfl⟩:∃k,v=Lj i2 k:=by unfold ReV at ry;exact ry
  exact⟨EqAt.bool_int b1 i2 k2,RcAt.bool_int b1 i2 k2,RcNeAt.bool_int b1 i2 k2⟩
 | .bl b1,.str x2,hn,rx,ry=>
  obtain rfl:u=Lw b1:=by unfold ReV at rx;exact rx
  obtain⟨k2,rfl⟩:∃k,v=L3 x2 k:=by unfold ReV at ry;exact ry
  exact⟨EqAt.bool_str b1 x2 k2,RcAt.bool_str b1 x2 k2,RcNeAt.bool_str b1 x2 k2⟩
 | .bl b1,.tup l2,hn,rx,ry=>
  obtain rfl:u=Lw b1:=by unfold ReV at rx;exact rx
  unfold ReV at ry;obtain⟨a2,us2,rfl,h2,q2⟩:=ry
  exact⟨EqAt.bool_tuple b1 h2 hu,RcAt.bool_tuple b1 h2 hu,RcNeAt.bool_tuple b1 h2 hu⟩
 | .bl b1,.lst l2,hn,rx,ry=>
  obtain rfl:u=Lw b1:=by unfold ReV at rx;exact rx
  unfold ReV at ry;obtain⟨a2,us2,rfl,h2,q2⟩:=ry
  exact⟨EqAt.bool_list b1 h2 hu,RcAt.bool_list b1 h2 hu,RcNeAt.bool_list b1 h2 hu⟩
 | .bl b1,.scr l2,hn,rx,ry=>
  obtain rfl:u=Lw b1:=by unfold ReV at rx;exact rx
  unfold ReV at ry;obtain⟨a2,us2,rfl,h2,q2⟩:=ry
  exact⟨EqAt.bool_list b1 h2 hu,RcAt.bool_list b1 h2 hu,RcNeAt.bool_list b1 h2 hu⟩
 | .int i1,.non,hn,rx,ry=>
  obtain⟨k1,rfl⟩:∃k,u=Lj i1 k:=by unfold ReV at rx;exact rx
  obtain rfl:v=K6:=by unfold ReV at ry;exact ry
  exact⟨EqAt.int_none i1 k1,RcAt.int_none i1 k1,RcNeAt.int_none i1 k1⟩
 | .int i1,.bl b2,hn,rx,ry=>
  obtain⟨k1,rfl⟩:∃k,u=Lj i1 k:=by unfold ReV at rx;exact rx
  obtain rfl:v=Lw b2:=by unfold ReV at ry;exact ry
  exact⟨EqAt.int_bool i1 k1 b2,RcAt.int_bool i1 k1 b2,RcNeAt.int_bool i1 k1 b2⟩
 | .int i1,.int i2,hn,rx,ry=>
  obtain⟨k1,rfl⟩:∃k,u=Lj i1 k:=by unfold ReV at rx;exact rx
  obtain⟨k2,rfl⟩:∃k,v=Lj i2 k:=by unfold ReV at ry;exact ry
  exact⟨EqAt.int_int i1 k1 i2 k2,RcAt.int_int i1 k1 i2 k2,RcNeAt.int_int i1 k1 i2 k2⟩
 | .int i1,.str x2,hn,rx,ry=>
  obtain⟨k1,rfl⟩:∃k,u=Lj i1 k:=by unfold ReV at rx;exact rx
  obtain⟨k2,rfl⟩:∃k,v=L3 x2 k:=by unfold ReV at ry;exact ry
  exact⟨EqAt.int_str i1 k1 x2 k2,RcAt.int_str i1 k1 x2 k2,RcNeAt.int_str i1 k1 x2 k2⟩
 | .int i1,.tup l2,hn,rx,ry=>
  obtain⟨k1,rfl⟩:∃k,u=Lj i1 k:=by unfold ReV at rx;exact rx
  unfold ReV at ry;obtain⟨a2,us2,rfl,h2,q2⟩:=ry
  exact⟨EqAt.int_tuple i1 k1 h2 hu,RcAt.int_tuple i1 k1 h2 hu,RcNeAt.int_tuple i1 k1 h2 hu⟩
 | .int i1,.lst l2,hn,rx,ry=>
  obtain⟨k1,rfl⟩:∃k,u=Lj i1 k:=by unfold ReV at rx;exact rx
  unfold ReV at ry;obtain⟨a2,us2,rfl,h2,q2⟩:=ry
  exact⟨EqAt.int_list i1 k1 h2 hu,RcAt.int_list i1 k1 h2 hu,RcNeAt.int_list i1 k1 h2 hu⟩
 | .int i1,.scr l2,hn,rx,ry=>
  obtain⟨k1,rfl⟩:∃k,u=Lj i1 k:=by unfold ReV at rx;exact rx
  unfold ReV at ry;obtain⟨a2,us2,rfl,h2,q2⟩:=ry
  exact⟨EqAt.int_list i1 k1 h2 hu,RcAt.int_list i1 k1 h2 hu,RcNeAt.int_list i1 k1 h2 hu⟩
 | .str x1,.non,hn,rx,ry=>
  obtain⟨k1,rfl⟩:∃k,u=L3 x1 k:=by unfold ReV at rx;exact rx
  obtain rfl:v=K6:=by unfold ReV at ry;exact ry
  exact⟨EqAt.str_none x1 k1,RcAt.str_none x1 k1,RcNeAt.str_none x1 k1⟩
 | .str x1,.bl b2,hn,rx,ry=>
  obtain⟨k1,rfl⟩:∃k,u=L3 x1 k:=by unfold ReV at rx;exact rx
  obtain rfl:v=Lw b2:=by unfold ReV at ry;exact ry
  exact⟨EqAt.str_bool x1 k1 b2,RcAt.str_bool x1 k1 b2,RcNeAt.str_bool x1 k1 b2⟩
 | .str x1,.int i2,hn,rx,ry=>
  obtain⟨k1,rfl⟩:∃k,u=L3 x1 k:=by unfold ReV at rx;exact rx
  obtain⟨k2,rfl⟩:∃k,v=Lj i2 k:=by unfold ReV at ry;exact ry
  exact⟨EqAt.str_int x1 k1 i2 k2,RcAt.str_int x1 k1 i2 k2,RcNeAt.str_int x1 k1 i2 k2⟩
 | .str x1,.str x2,hn,rx,ry=>
  obtain⟨k1,rfl⟩:∃k,u=L3 x1 k:=by unfold ReV at rx;exact rx
  obtain⟨k2,rfl⟩:∃k,v=L3 x2 k:=by unfold ReV at ry;exact ry
  exact⟨EqAt.str_str x1 k1 x2 k2,RcAt.str_str x1 k1 x2 k2,RcNeAt.str_str x1 k1 x2 k2⟩
 | .str x1,.tup l2,hn,rx,ry=>
  obtain⟨k1,rfl⟩:∃k,u=L3 x1 k:=by unfold ReV at rx;exact rx
  unfold ReV at ry;obtain⟨a2,us2,rfl,h2,q2⟩:=ry
  exact⟨EqAt.str_tuple x1 k1 h2 hu,RcAt.str_tuple x1 k1 h2 hu,RcNeAt.str_tuple x1 k1 h2 hu⟩
 | .str x1,.lst l2,hn,rx,ry=>
  obtain⟨k1,rfl⟩:∃k,u=L3 x1 k:=by unfold ReV at rx;exact rx
  unfold ReV at ry;obtain⟨a2,us2,rfl,h2,q2⟩:=ry
  exact⟨EqAt.str_list x1 k1 h2 hu,RcAt.str_list x1 k1 h2 hu,RcNeAt.str_list x1 k1 h2 hu⟩
 | .str x1,.scr l2,hn,rx,ry=>
  obtain⟨k1,rfl⟩:∃k,u=L3 x1 k:=by unfold ReV at rx;exact rx
  unfold ReV at ry;obtain⟨a2,us2,rfl,h2,q2⟩:=ry
  exact⟨EqAt.str_list x1 k1 h2 hu,RcAt.str_list x1 k1 h2 hu,RcNeAt.str_list x1 k1 h2 hu⟩
 | .tup l1,.non,hn,rx,ry=>
  unfold ReV at rx;obtain⟨a1,us1,rfl,h1,q1⟩:=rx;obtain rfl:v=K6:=by unfold ReV at ry;exact ry
  exact⟨EqAt.tuple_none h1 hu,RcAt.tuple_none h1 hu,RcNeAt.tuple_none h1 hu⟩
 | .tup l1,.bl b2,hn,rx,ry=>
  unfold ReV at rx;obtain⟨a1,us1,rfl,h1,q1⟩:=rx;obtain rfl:v=Lw b2:=by unfold ReV at ry;exact ry
  exact⟨EqAt.tuple_bool b2 h1 hu,RcAt.tuple_bool b2 h1 hu,RcNeAt.tuple_bool b2 h1 hu⟩
 | .tup l1,.int i2,hn,rx,ry=>
  unfold ReV at rx;obtain⟨a1,us1,rfl,h1,q1⟩:=rx;obtain⟨k2,rfl⟩:∃k,v=Lj i2 k:=by unfold ReV at ry;exact ry
  exact⟨EqAt.tuple_int i2 k2 h1 hu,RcAt.tuple_int i2 k2 h1 hu,RcNeAt.tuple_int i2 k2 h1 hu⟩
 | .tup l1,.str x2,hn,rx,ry=>
  unfold ReV at rx;obtain⟨a1,us1,rfl,h1,q1⟩:=rx;obtain⟨k2,rfl⟩:∃k,v=L3 x2 k:=by unfold ReV at ry;exact ry
  exact⟨EqAt.tuple_str x2 k2 h1 hu,RcAt.tuple_str x2 k2 h1 hu,RcNeAt.tuple_str x2 k2 h1 hu⟩
 | .tup _,.tup _,hn,_,_=>exact hn.elim
 | .tup l1,.lst l2,hn,rx,ry=>
  unfold ReV at rx;obtain⟨a1,us1,rfl,h1,q1⟩:=rx;unfold ReV at ry;obtain⟨a2,us2,rfl,h2,q2⟩:=ry
  exact⟨EqAt.tuple_list h1 h2 hu,RcAt.tuple_list h1 h2 hu,RcNeAt.tuple_list h1 h2 hu⟩
 | .tup l1,.scr l2,hn,rx,ry=>
  unfold ReV at rx;obtain⟨a1,us1,rfl,h1,q1⟩:=rx;unfold ReV at ry;obtain⟨a2,us2,rfl,h2,q2⟩:=ry
  exact⟨EqAt.tuple_list h1 h2 hu,RcAt.tuple_list h1 h2 hu,RcNeAt.tuple_list h1 h2 hu⟩
 | .lst l1,.non,hn,rx,ry=>
  unfold ReV at rx;obtain⟨a1,us1,rfl,h1,q1⟩:=rx;obtain rfl:v=K6:=by unfold ReV at ry;exact ry
  exact⟨EqAt.list_none h1 hu,RcAt.list_none h1 hu,RcNeAt.list_none h1 hu⟩
 | .lst l1,.bl b2,hn,rx,ry=>
  unfold ReV at rx;obtain⟨a1,us1,rfl,h1,q1⟩:=rx;obtain rfl:v=Lw b2:=by unfold ReV at ry;exact ry
  exact⟨EqAt.list_bool b2 h1 hu,RcAt.list_bool b2 h1 hu,RcNeAt.list_bool b2 h1 hu⟩
 | .lst l1,.int i2,hn,rx,ry=>
  unfold ReV at rx;obtain⟨a1,us1,rfl,h1,q1⟩:=rx;obtain⟨k2,rfl⟩:∃k,v=Lj i2 k:=by unfold ReV at ry;exact ry
  exact⟨EqAt.list_int i2 k2 h1 hu,RcAt.list_int i2 k2 h1 hu,RcNeAt.list_int i2 k2 h1 hu⟩
 | .lst l1,.str x2,hn,rx,ry=>
  unfold ReV at rx;obtain⟨a1,us1,rfl,h1,q1⟩:=rx;obtain⟨k2,rfl⟩:∃k,v=L3 x2 k:=by unfold ReV at ry;exact ry
  exact⟨EqAt.list_str x2 k2 h1 hu,RcAt.list_str x2 k2 h1 hu,RcNeAt.list_str x2 k2 h1 hu⟩
 | .lst l1,.tup l2,hn,rx,ry=>
  unfold ReV at rx;obtain⟨a1,us1,rfl,h1,q1⟩:=rx;unfold ReV at ry;obtain⟨a2,us2,rfl,h2,q2⟩:=ry
  exact⟨EqAt.list_tuple h1 h2 hu,RcAt.list_tuple h1 h2 hu,RcNeAt.list_tuple h1 h2 hu⟩
 | .lst _,.lst _,hn,_,_=>exact hn.elim
 | .lst _,.scr _,hn,_,_=>exact hn.elim
 | .scr l1,.non,hn,rx,ry=>
  unfold ReV at rx;obtain⟨a1,us1,rfl,h1,q1⟩:=rx;obtain rfl:v=K6:=by unfold ReV at ry;exact ry
  exact⟨EqAt.list_none h1 hu,RcAt.list_none h1 hu,RcNeAt.list_none h1 hu⟩
 | .scr l1,.bl b2,hn,rx,ry=>
  unfold ReV at rx;obtain⟨a1,us1,rfl,h1,q1⟩:=rx;obtain rfl:v=Lw b2:=by unfold ReV at ry;exact ry
  exact⟨EqAt.list_bool b2 h1 hu,RcAt.list_bool b2 h1 hu,RcNeAt.list_bool b2 h1 hu⟩
 | .scr l1,.int i2,hn,rx,ry=>
  unfold ReV at rx;obtain⟨a1,us1,rfl,h1,q1⟩:=rx;obtain⟨k2,rfl⟩:∃k,v=Lj i2 k:=by unfold ReV at ry;exact ry
  exact⟨EqAt.list_int i2 k2 h1 hu,RcAt.list_int i2 k2 h1 hu,RcNeAt.list_int i2 k2 h1 hu⟩
 | .scr l1,.str x2,hn,rx,ry=>
  unfold ReV at rx;obtain⟨a1,us1,rfl,h1,q1⟩:=rx;obtain⟨k2,rfl⟩:∃k,v=L3 x2 k:=by unfold ReV at ry;exact ry
  exact⟨EqAt.list_str x2 k2 h1 hu,RcAt.list_str x2 k2 h1 hu,RcNeAt.list_str x2 k2 h1 hu⟩
 | .scr l1,.tup l2,hn,rx,ry=>
  unfold ReV at rx;obtain⟨a1,us1,rfl,h1,q1⟩:=rx;unfold ReV at ry;obtain⟨a2,us2,rfl,h2,q2⟩:=ry
  exact⟨EqAt.list_tuple h1 h2 hu,RcAt.list_tuple h1 h2 hu,RcNeAt.list_tuple h1 h2 hu⟩
 | .scr _,.lst _,hn,_,_=>exact hn.elim
 | .scr _,.scr _,hn,_,_=>exact hn.elim
theorem Df:∀(n:Nat) (A:KU) (s:Kb) (x y:T) (u v:J8),(x.dep<=n\/y.dep<=n)->A.units+n<cLine->ReV s x u->ReV s y v->EqAt A s u v (aQ x y)/\RcAt A s u v (aQ x y)/\RcNeAt A s u v (!aQ x y):=by
 intro n
 induction n with
 | zero=>
  intro A s x y u v hd hu rx ry
  exact tO A s x y u v (by cases x <;> cases y <;> simp_all [iQ,T.dep]) (by omega) rx ry
 | succ n ih=>
  intro A s x y u v hd hu rx ry
  have hin:A.in1.units+n<cLine:=by show A.units+1+n<cLine;omega
  have items:∀(l m:List T) (us vs:List J8),(deps l<=n\/deps m<=n)->ReVs s l us->ReVs s m vs->∃e:Nat->Bool,(∀j (h1:j<us.toArray.size) (h2:j<vs.toArray.size),EqAt A.in1 s us.toArray[j] vs.toArray[j] (e j)) ∧
    (∀(j:Nat) t u,l[j]? =some t->m[j]? =some u->e j=aQ t u):=λl m us vs hd r1 r2=>by
   refine⟨λj=>aQ (l.getD j .non) (m.getD j .non),λj h1 h2=> ?_,λj t u e1 e2=>by simp[Rm,e1,e2]⟩
   have l1:=r1.length
   have l2:=r2.length
   have h1':j<l.length:=by rw[l1];simpa using h1
   have h2':j<m.length:=by rw[l2];simpa using h2
   have e1:l[j]? =some l[j]:=by simp
   have e2:m[j]? =some m[j]:=by simp
   obtain⟨u1,z1,w1⟩:=r1.get e1;obtain⟨u2,z2,w2⟩:=r2.get e2
   have q1:us.toArray[j] =u1:=by
    have:us[j]? =some us.toArray[j]:=by simp
    rw[z1]at this;exact(KO this).symm
   have q2:vs.toArray[j] =u2:=by
    have:vs[j]? =some vs.toArray[j]:=by simp
    rw[z2]at this;exact(KO this).symm
   rw[q1,q2]
   have g1:l.getD j .non=l[j]:=by simp[Rm,e1]
   have g2:m.getD j .non=m[j]:=by simp[Rm,e2]
   show EqAt A.in1 s u1 u2 (aQ (l.getD j .non) (m.getD j .non))
   rw[g1,g2];refine(ih A.in1 s l[j] m[j] u1 u2 ?_ hin w1 w2).1
   rcases hd with hd | hd
   ·exact .inl (KD (ix e1) hd)
   ·exact .inr (KD (ix e2) hd)
  have lists:∀(l m:List T) (a b:Addr) (us vs:List J8),(deps l<=n\/deps m<=n)->ReVs s l us->ReVs s m vs->s.heap.IsList a us.toArray->s.heap.IsList b vs.toArray →
    EqAt A s (.ref a) (.ref b) (beqTs l m)/\RcAt A s (.ref a) (.ref b) (beqTs l m)/\RcNeAt A s (.ref a) (.ref b) (!beqTs l m):=λl m a b us vs hd r1 r2 h1 h2=>by
   have l1:=r1.length
   have l2:=r2.length
   have key:RcAt A s (.ref a) (.ref b) (beqTs l m)/\RcNeAt A s (.ref a) (.ref b) (!beqTs l m):=by
    by_cases hl:l.length=m.length
    ·obtain⟨e,he,hb⟩:=items l m us vs hd r1 r2
     have q:=kK l m e hb
     have q2:beqTs l m=(J7 us.toArray.size).all e:=by
      rw[q,hl,Nat.min_self];simp[l2.symm,hl.symm,l1]
     rw[q2]
     have hsz:us.toArray.size=vs.toArray.size:=by simp;omega
     exact⟨RcAt.lists h1 h2 hsz (by omega) he,RcNeAt.lists h1 h2 hsz (by omega) he⟩
    ·rw[pL hl]
     have hsz:(us.toArray.size != vs.toArray.size)=true:=by simp;omega
     exact⟨RcAt.lists_lengths h1 h2 hsz (by omega),RcNeAt.lists_lengths h1 h2 hsz (by omega)⟩
   refine⟨?_,key⟩
   by_cases hab:a=b
   ·subst hab
    have:=cC h1 h2;subst this;rw[ReVs.refl r1 r2];exact EqAt.same _
   ·exact EqAt.of_refs hab key.1
  cases x with
  | tup l=>
   cases y with
   | tup m=>
    unfold ReV at rx ry;obtain⟨a,us,rfl,h1,r1⟩:=rx;obtain⟨b,vs,rfl,h2,r2⟩:=ry
    have hd':deps l<=n\/deps m<=n:=by
     simp only[T.dep]at hd;omega
    have l1:=r1.length
    have l2:=r2.length;obtain⟨e,he,hb⟩:=items l m us vs hd' r1 r2
    have q:=kK l m e hb
    have q2:beqTs l m=((J7 (min us.toArray.size vs.toArray.size)).all e&&us.toArray.size == vs.toArray.size):=by
     rw[q];simp[l1,l2]
    have key:RcAt A s (.ref a) (.ref b) (beqTs l m)/\RcNeAt A s (.ref a) (.ref b) (!beqTs l m):=by
     rw[q2];exact⟨RcAt.tuples h1 h2 (by omega) he,RcNeAt.tuples h1 h2 (by omega) he⟩
    unfold aQ;refine⟨?_,key⟩
    by_cases hab:a=b
    ·subst hab
     have:=iq h1 h2;subst this;rw[ReVs.refl r1 r2];exact EqAt.same _
    ·exact EqAt.of_refs hab key.1
   | _=>exact tO A s _ _ u v (by simp[iQ]) (by omega) rx ry
  | lst l=>
   cases y with
   | lst m=>
    unfold ReV at rx ry;obtain⟨a,us,rfl,h1,r1⟩:=rx;obtain⟨b,vs,rfl,h2,r2⟩:=ry;unfold aQ
    exact lists l m a b us vs (by simp only[T.dep]at hd;omega) r1 r2 h1 h2
   | scr m=>
    unfold ReV at rx ry;obtain⟨a,us,rfl,h1,r1⟩:=rx;obtain⟨b,vs,rfl,h2,r2⟩:=ry;unfold aQ
    exact lists l (m.map T.int) a b us vs (by rw[fh];omega) r1 (dw r2) h1 h2
   | _=>exact tO A s _ _ u v (by simp[iQ]) (by omega) rx ry
  | scr l=>
   cases y with
   | lst m=>
    unfold ReV at rx ry;obtain⟨a,us,rfl,h1,r1⟩:=rx;obtain⟨b,vs,rfl,h2,r2⟩:=ry;unfold aQ;rw[nS]
    exact lists (l.map T.int) m a b us vs (by rw[fh];omega) (dw r1) r2 h1 h2
   | scr m=>
    unfold ReV at rx ry;obtain⟨a,us,rfl,h1,r1⟩:=rx;obtain⟨b,vs,rfl,h2,r2⟩:=ry;unfold aQ;rw[qc]
    exact lists (l.map T.int) (m.map T.int) a b us vs (by rw[fh];omega) (dw r1) (dw r2) h1 h2
   | _=>exact tO A s _ _ u v (by simp[iQ]) (by omega) rx ry
  | _=>exact tO A s _ _ u v (by simp[iQ]) (by omega) rx ry
mutual
def T.nf:T->T
 | .tup l=> .tup (nfs l)
 | .lst l=> .lst (nfs l)
 | .scr l=> .lst (l.map .int)
 | .non=> .non
 | .bl b=> .bl b
 | .int b=> .int b
 | .str b=> .str b
 | .dct a b=> .dct a b
def nfs:List T->List T
 | [] => []
 | t::l=>t.nf::nfs l
end
theorem sZ:∀(l:List Int),nfs (l.map T.int)=l.map T.int
 | [] =>rfl
 | i::l=>by rw[Ke,nfs,sZ l];simp[T.nf]
mutual
theorem kg:∀(t x:T),aQ t.nf x=aQ t x
 | .non,x=>by simp[T.nf]
 | .bl _,x=>by simp[T.nf]
 | .int _,x=>by simp[T.nf]
 | .str _,x=>by simp[T.nf]
 | .tup l,x=>by cases x <;> simp[T.nf,aQ,beqTs_nf l]
 | .lst l,x=>by cases x <;> simp[T.nf,aQ,beqTs_nf l]
 | .scr l,x=>by cases x <;> simp[T.nf,aQ,nS,qc]
 | .dct _ _,x=>by simp[T.nf]
theorem beqTs_nf:∀(l m:List T),beqTs (nfs l) m=beqTs l m
 | [],m=>by simp[nfs]
 | t::l,m=>by cases m <;> simp[nfs,beqTs,kg t,beqTs_nf l]
end
theorem F9 {s:Kb}{t:T}{i:Int}{k:Tok}(r:ReV s t (.int i k)):t.nf= .int i:=by
 cases t with
 | non=>unfold ReV at r;cases r
 | bl b=>unfold ReV at r;cases r
 | int j=>unfold ReV at r;obtain⟨t,e⟩:=r;injection e with e1 _;subst e1;rfl
 | str x=>unfold ReV at r;obtain⟨t,e⟩:=r;cases e
 | tup l=>unfold ReV at r;obtain⟨a,its,e,_⟩:=r;cases e
 | lst l=>unfold ReV at r;obtain⟨a,its,e,_⟩:=r;cases e
 | scr l=>unfold ReV at r;obtain⟨a,its,e,_⟩:=r;cases e
 | dct _ _=>unfold ReV at r;exact r.elim
theorem wA {s:Kb}:∀{l:List T} {us:List J8} {ns:List Int},ReVs s l us->LI us ns->nfs l=ns.map T.int
 | [],us,ns,r,h=>by cases ReVs.Da.mp r;cases h;rfl
 | t::l,us,ns,r,h=>by
  obtain⟨u,ws,rfl,p,q⟩:=ReVs.me.mp r
  cases h with
  | cons a b hh=>rw[nfs,F9 p,wA q hh];rfl
mutual
theorem ReV.nf {s:Kb}:∀{t u:T} {v:J8},ReV s t v->ReV s u v->t.nf=u.nf
 | .non,u,v,r,q=>by
  unfold ReV at r;subst r
  cases u <;> (unfold ReV at q) <;> first | rfl | (cases q;done) | (obtain⟨_,e⟩:=q;cases e;done) | (obtain⟨_,_,e,_⟩:=q;cases e;done)
 | .bl b,u,v,r,q=>by
  unfold ReV at r;subst r
  cases u <;> (unfold ReV at q) <;> first | (cases q;done) | (cases q;rfl) | (obtain⟨_,e⟩:=q;cases e;done) | (obtain⟨_,_,e,_⟩:=q;cases e;done)
 | .int b,u,v,r,q=>by
  unfold ReV at r;obtain⟨k,rfl⟩:=r
  cases u <;> (unfold ReV at q) <;> first | (cases q;done) | (obtain⟨_,e⟩:=q;cases e;done) | (obtain⟨_,e⟩:=q;cases e;rfl) | (obtain⟨_,_,e,_⟩:=q;cases e;done)
 | .str b,u,v,r,q=>by
  unfold ReV at r;obtain⟨k,rfl⟩:=r
  cases u <;> (unfold ReV at q) <;> first | (cases q;done) | (obtain⟨_,e⟩:=q;cases e;done) | (obtain⟨_,e⟩:=q;cases e;rfl) | (obtain⟨_,_,e,_⟩:=q;cases e;done)
 | .tup l,u,v,r,q=>by
  unfold ReV at r;obtain⟨a,its,rfl,h1,h2⟩:=r
  cases u with
  | non=>unfold ReV at q;cases q
  | dct _ _=>unfold ReV at q;exact q.elim
  | bl _=>unfold ReV at q;cases q
  | int _=>unfold ReV at q;obtain⟨_,e⟩:=q;cases e
  | str _=>unfold ReV at q;obtain⟨_,e⟩:=q;cases e
  | tup m=>
   unfold ReV at q;obtain⟨a',its',e,h1',h2'⟩:=q;injection e with e;subst e
   have:=iq h1 h1';subst this;unfold T.nf
   rw[ReVs.nf h2 h2']
  | lst m=>unfold ReV at q;obtain⟨a',its',e,h1',h2'⟩:=q;injection e with e;subst e;exact absurd rfl (ne_of_list_tuple h1' h1)
  | scr m=>unfold ReV at q;obtain⟨a',its',e,h1',h2'⟩:=q;injection e with e;subst e;exact absurd rfl (ne_of_list_tuple h1' h1)
 | .lst l,u,v,r,q=>by
  unfold ReV at r;obtain⟨a,its,rfl,h1,h2⟩:=r
  cases u with
  | non=>unfold ReV at q;cases q
  | dct _ _=>unfold ReV at q;exact q.elim
  | bl _=>unfold ReV at q;cases q
  | int _=>unfold ReV at q;obtain⟨_,e⟩:=q;cases e
  | str _=>unfold ReV at q;obtain⟨_,e⟩:=q;cases e
  | lst m=>
   unfold ReV at q;obtain⟨a',its',e,h1',h2'⟩:=q;injection e with e;subst e
   have:=cC h1 h1';subst this;unfold T.nf
   rw[ReVs.nf h2 h2']
  | tup m=>unfold ReV at q;obtain⟨a',its',e,h1',h2'⟩:=q;injection e with e;subst e;exact absurd rfl (ne_of_list_tuple h1 h1')
  | scr m=>
   unfold ReV at q;obtain⟨a',its',e,h1',h2'⟩:=q;injection e with e;subst e
   have:=cC h1 h1';subst this;unfold T.nf
   rw[ReVs.nf h2 (dw h2'),sZ]
 | .scr l,u,v,r,q=>by
  unfold ReV at r;obtain⟨a,its,rfl,h1,h2⟩:=r
  cases u with
  | non=>unfold ReV at q;cases q
  | dct _ _=>unfold ReV at q;exact q.elim
  | bl _=>unfold ReV at q;cases q
  | int _=>unfold ReV at q;obtain⟨_,e⟩:=q;cases e
  | str _=>unfold ReV at q;obtain⟨_,e⟩:=q;cases e
  | lst m=>
   unfold ReV at q;obtain⟨a',its',e,h1',h2'⟩:=q;injection e with e;subst e
   have:=cC h1 h1';subst this
   have z:=wA h2' h2;unfold T.nf
   rw[z]
  | tup m=>unfold ReV at q;obtain⟨a',its',e,h1',h2'⟩:=q;injection e with e;subst e;exact absurd rfl (ne_of_list_tuple h1 h1')
  | scr m=>
   unfold ReV at q;obtain⟨a',its',e,h1',h2'⟩:=q;injection e with e;subst e
   have:=cC h1 h1';subst this
   rw[ir h2 h2']
 | .dct _ _,u,v,r,q=>by unfold ReV at r;exact r.elim
theorem ReVs.nf {s:Kb}:∀{l m:List T} {us:List J8},ReVs s l us->ReVs s m us->nfs l=nfs m
 | [],m,us,r,q=>by
  cases ReVs.Da.mp r
  cases m with
  | nil=>rfl
  | cons _ _=>obtain⟨_,_,e,_⟩:=ReVs.me.mp q;cases e
 | t::l,m,us,r,q=>by
  obtain⟨v,ws,rfl,p,z⟩:=ReVs.me.mp r
  cases m with
  | nil=>cases ReVs.Da.mp q
  | cons u m=>
   obtain⟨v',ws',e,p',z'⟩:=ReVs.me.mp q;injection e with e1 e2
   subst e1 e2;rw[nfs,nfs,ReV.nf p p',ReVs.nf z z']
end
section
variable {X:Cx}{a b c:Expr}{fa fb fc:En->Rs T}{pos:Pos}
def fE (x y:T):Bool:=(decide (x.dep<=60)||decide (y.dep<=60))&&(x.nd&&y.nd)
def jn (x y:T):Rs T:=if fE x y=true then .ok (.bl (aQ x y))else .bad
def j7 (x y:T):Rs T:=if fE x y=true then .ok (.bl (!aQ x y))else .bad
theorem dg {x y:T}(h:x.dep<=60)(hx:x.nd=true)(hy:y.nd=true):fE x y=true:=by unfold fE;rw[decide_eq_true h,hx,hy];rfl
theorem AL {x y:T}(h:y.dep<=60)(hx:x.nd=true)(hy:y.nd=true):fE x y=true:=by unfold fE;rw[decide_eq_true h,hx,hy,Bool.or_true];rfl
theorem i6 {x y:T}(h:fE x y=true):x.nd=true/\y.nd=true:=by
 unfold fE at h;exact L9.mp (L9.mp h).2
theorem pj {x y:T}(h:fE x y=true):x.dep<=60\/y.dep<=60:=by
 unfold fE at h
 replace h:=(L9.mp h).1
 rcases Bool.or_eq_true_iff.mp h with h | h
 ·exact .inl (of_decide_eq_true h)
 ·exact .inr (of_decide_eq_true h)
theorem jg (hu:X.A.units+60<cLine):OpT X (Lr .Eq) jn:=by
 intro pins s σ H O x y vx vy ux uy Q I hf rx ry r1 r2 hp;unfold jn at hp
 split at hp
 ·rename_i h
  have z:=Df 60 X.A s x y ux uy (pj h) hu (Rep.val I (i6 h).1 rx r1) (Rep.val I (i6 h).2 ry r2);exact z.2.1 _ _ _ _ ⟨.bl _,H,I,rfl,hp H (Same.refl H) _ (Rep.bl_ _)⟩
 ·exact hp.elim
theorem jW (hu:X.A.units+60<cLine):OpT X (Lr .NotEq) j7:=by
 intro pins s σ H O x y vx vy ux uy Q I hf rx ry r1 r2 hp;unfold j7 at hp
 split at hp
 ·rename_i h
  have z:=Df 60 X.A s x y ux uy (pj h) hu (Rep.val I (i6 h).1 rx r1) (Rep.val I (i6 h).2 ry r2);exact z.2.2 _ _ _ _ ⟨.bl _,H,I,rfl,hp H (Same.refl H) _ (Rep.bl_ _)⟩
 ·exact hp.elim
def T.items:T->Option (List T)
 | .tup l=>some l
 | .lst l=>some l
 | .scr l=>some (l.map T.int)
 | _=>none
def pM (x:T)(l:List T):Bool:=l.any λy=>aQ y x
def GS (x y:T):Rs T:=match y.items with
 | some l=>if (x.dep<=60\/deps l<=60)/\x.nd=true/\y.nd=true then .ok (.bl (pM x l))else .bad
 | none=> .bad
theorem CY {A:KU}{s:Kb}{x:T}{ux:J8}(rx:ReV s x ux)(hu:A.units+60<cLine){l:List T}{us:List J8}(hd:x.dep<=60\/deps l<=60)(r:ReVs s l us) :
  ∃e:J8->Bool,(∀y∈us,EqAt A s y ux (e y))/\us.any e=pM x l:=by
 classical
 have ex:∀y∈us,∃t∈l,ReV s t y:=λy hy=>by
  obtain⟨i,hi,rfl⟩:=Lu hy
  have hl:=r.length
  have e1:l[i]? =some l[i]:=by simp
  obtain⟨u,q1,q2⟩:=r.get e1
  have:us[i]? =some us[i]:=by simp
  rw[this]at q1;cases q1;exact⟨l[i],Mq _,q2⟩
 let e:J8->Bool:=λy=>decide (∃t∈l,ReV s t y/\aQ t x=true)
 have dep:∀t∈l,t.dep<=60\/x.dep<=60:=λt ht=>by
  rcases hd with h | h
  ·exact .inr h
  ·obtain⟨i,hi,rfl⟩:=Lu ht
   exact .inl (KD (ix (i:=i) (by simp)) h)
 have uniq:∀y t t',ReV s t y->ReV s t' y->aQ t x=aQ t' x:=λy t t' z z'=>by
  rw[<-kg t,<-kg t',ReV.nf z z']
 have agree:∀y t,t∈l->ReV s t y->e y=aQ t x:=λy t h z=>by
  show decide (∃t∈l,ReV s t y/\aQ t x=true)=aQ t x
  cases q:aQ t x with
  | true=>exact decide_eq_true ⟨t,h,z,q⟩
  | false=>
   refine decide_eq_false ?_
   rintro ⟨t',h',z',q'⟩
   rw[<-uniq y t t' z z',q]at q';cases q'
 refine⟨e,λy hy=> ?_,?_⟩
 ·obtain⟨t,h,z⟩:=ex y hy
  rw[agree y t h z];exact(Df 60 A s t x y ux (dep t h) hu z rx).1
 ·have go:∀(l':List T) (us':List J8),(∀t∈l',t∈l)->ReVs s l' us'->us'.any e=l'.any λy=>aQ y x:=by
   intro l'
   induction l' with
   | nil=>intro us' _ r';rw[ReVs.Da.mp r'];rfl
   | cons t l' ih=>
    intro us' sub r';obtain⟨u,ws,rfl,p,q⟩:=ReVs.me.mp r';rw[MP,MP,ih ws (λt ht=>sub t (Ka _ ht)) q,agree u t (sub t Kg) p]
  exact go l us (λ_ h=>h) r
theorem xX {s:Kb}{y:T}{u:J8}{l:List T}(r:ReV s y u)(h:y.items=some l):∃a us,u= .ref a/\ReVs s l us/\(s.heap.IsTuple a us.toArray\/s.heap.IsList a us.toArray):=by
 cases y with
 | tup m=>cases h;unfold ReV at r;obtain⟨a,us,e,h1,h2⟩:=r;exact⟨a,us,e,h2,.inl h1⟩
 | lst m=>cases h;unfold ReV at r;obtain⟨a,us,e,h1,h2⟩:=r;exact⟨a,us,e,h2,.inr h1⟩
 | scr m=>cases h;unfold ReV at r;obtain⟨a,us,e,h1,h2⟩:=r;exact⟨a,us,e,dw h2,.inr h1⟩
 | _=>cases h
theorem HG (hu:X.A.units+61<cLine):OpT X (Lr .In) GS:=by
 intro pins s σ H O x y vx vy ux uy Q I hf rx ry r1 r2 hp;unfold GS at hp
 split at hp
 ·rename_i l hl
  split at hp
  ·rename_i hd3
   obtain⟨hd,hnx,hny⟩:=hd3;obtain⟨a,us,rfl,rs,hh⟩:=xX (Rep.val I hny ry r2) hl;obtain⟨e,he,ha⟩:=CY (A:=X.A.in1) (Rep.val I hnx rx r1) (by show X.A.units+1+60<cLine;omega) hd rs
   have q:=hp H (Same.refl H) _ (Rep.bl_ (pM x l))
   have he':∀y,y∈us.toArray->EqAt X.A.in1 s y ux (e y):=λy hy=>he y (by simpa using hy)
   have ha':us.toArray.any e=pM x l:=by simpa using ha
   rcases hh with hh | hh
   ·exact in_tupleAt e hh he' (by rw[ha'];exact⟨.bl _,H,I,rfl,q⟩)
   ·exact in_listAt e hh he' (by rw[ha'];exact⟨.bl _,H,I,rfl,q⟩)
  ·exact hp.elim
 ·exact hp.elim
def ch (g g':T->T->Rs T)(fa fb fc:En->Rs T)(Z:En):Rs T:=do
 let x <-fa Z
 let y <-fb Z
 let z <-g x y
 match z with
 | .bl true=>do
  let w <-fc Z
  g' y w
 | .bl false=> .ok (.bl false)
 | _=> .bad
theorem Ck {op op':CmpOp}{g g':T->T->Rs T}(ho:OpT X (Lr op) g)(ho':OpT X (Lr op') g')(ha:cj X a fa)(hb:cj X b fb)(hc:cj X c fc)
  (hm:lastMarks [op,op'] [b,c] =false:=by with_unfolding_all rfl):cj X (.Compare a [op,op'] [b,c] pos) (ch g g' fa fb fc):=by
 intro pins s σ H Q I ⟨Z,O,E,hq⟩
 have h1:=aS E hq;refine Compare_chain (bX (ha pins s σ H _ I h1) λv s1 ⟨x,H1,I1,r1,t,rt,s',E',q1⟩=>chain_link ?_) hm
 have h2:=aS (f:=fb) E' q1;refine bX (hb pins s1 σ H1 _ I1 h2) λu s2 hh_=> ?_
 obtain⟨y,H2,I2,r2,t2,rt2,s'',E'',q2⟩:=hh_
 refine bX (ho pins s2 σ H2 O t t2 x y v u (λv' H'=> ∃t',Rep X.K O H' t' v'/\Same H2 H'/\Post X H' (match t' with
  | .bl true=>fc Z >>= λw=>g' t2 w
  | .bl false=> .ok (.bl false)
  | _=> .bad) (λt H'=> ∀v,Rep X.K O H' t v->Q v H')) I2 (λp=>E''.fresh) (rt.same s'') rt2 r1 r2 (Post.mono q2.bind λt' H' s3 q v rv=>⟨t',rv,s3,q⟩)) λd s3 ⟨z,H3,I3,r3,t3,rt3,sm3,q3⟩=> ?_
 have E3:=E''.same sm3
 split at q3
 ·cases Rep.FB.mp rt3
  cases r3;refine Lo (ite_tt (chain_last ?_))
  have h4:=aS (f:=fc) E3 q3;refine bX (hc pins s3 σ H3 _ I3 h4) λw' s4 ⟨z',H4,I4,r4,t4,rt4,s4',E4,q4⟩=> ?_
  exact ho' pins s4 σ H4 O t2 t4 y z' u w' Q I4 (λp=>E4.fresh) ((rt2.same sm3).same s4') rt4 r2 r4 q4
 ·cases Rep.FB.mp rt3
  cases r3;refine Lo (ite_ff ⟨.bl false,H3,I3,rfl,q3 H3 (Same.refl H3) _ (Rep.bl_ false)⟩)
 ·exact q3.elim
def tb (f:En->Rs T)(Z:En):Rs Bool:=do
 let x <-f Z
 match x with
 | .bl k=> .ok k
 | _=> .bad
def bt (f:En->Rs Bool)(Z:En):Rs T:=do
 let k <-f Z
 .ok (.bl k)
theorem EG {e:Expr}{f:En->Rs T}(h:cj X e f)(he:∀whole,isTrue e X.env whole=(do let v <-whole;standAt e.pos;holding [v] (truthy v)):=by intro _;rfl):vm X e (tb f):=by
 intro pins s σ H Q I ⟨Z,O,E,hq⟩;refine Fc h he pins s σ H Q I ?_
 obtain⟨Z1,O1,E1,h1⟩:=aS E hq;refine⟨Z1,O1,E1,Post.mono h1 λts H1 s1 q vs r=> ?_⟩
 obtain⟨t',r',s',E',q'⟩:=q vs r
 split at q'
 ·exact⟨_,Rep.FB.mp r',q' H1 (Same.refl H1)⟩
 ·exact q'.elim
theorem EI {op:CmpOp}{g:T->T->Rs T}(ho:OpT X (Lr op) g)(ha:cj X a fa)(hb:cj X b fb)(hm:PQ op b=false:=by rfl):vm X (.Compare a [op] [b] pos) (tb (o2 g fa fb)):=by
 intro pins s σ H Q I ⟨Z,O,E,hq⟩
 have hq':Post X H (o2 g fa fb Z) λt H'=> ∀v,Rep X.K O H' t v->∃k,v= .bl k/\Q k H':=Post.mono hq.bind λt H' s' q v r=>by
  split at q
  ·exact⟨_,Rep.FB.mp r,q H' (Same.refl H')⟩
  ·exact q.elim
 have h1:=aS E hq';refine wpAny_isTrue_Compare1 (bX (ha pins s σ H _ I h1) λv s1 ⟨x,H1,I1,r1,t,rt,s',E',q1⟩=> ?_) hm
 have h2:=aS (f:=fb) E' q1;refine bX (hb pins s1 σ H1 _ I1 h2) λu s2 hh_=> ?_
 obtain⟨y,H2,I2,r2,t2,rt2,s'',E'',q2⟩:=hh_;refine bX (ho pins s2 σ H2 O t t2 x y v u _ I2 (λp=>E''.fresh) (rt.same s'') rt2 r1 r2 q2) λd s3 hh_=> ?_
 obtain⟨z,H3,I3,r3,k,e,q3⟩:=hh_;subst e;cases r3;exact Lo ⟨H3,I3,q3⟩
def kN (f g:En->Rs Bool)(Z:En):Rs Bool:=do
 let k <-f Z
 if k then g Z else .ok false
def ki (f g:En->Rs Bool)(Z:En):Rs Bool:=do
 let k <-f Z
 if k then .ok true else g Z
def cp (f:En->Rs Bool)(Z:En):Rs Bool:=do
 let k <-f Z
 .ok (!k)
variable {f g:En->Rs Bool}{ck:List Expr}
abbrev Ea (X:Cx)(e:Expr)(f:En->Rs Bool):Prop:=PW X e (yU X f)
theorem B6 (ha:vm X a f):Ea X (.BoolOp .And [a] pos) f:=Cm ha
theorem EE (ha:vm X a f):Ea X (.BoolOp .Or [a] pos) f:=E9 ha
theorem EF (ha:vm X a f)(hb:Ea X (.BoolOp .And (b::ck) pos) g):Ea X (.BoolOp .And (a::b::ck) pos) (kN f g):=by
 intro wh pins s σ H Q I ⟨Z,O,E,hq⟩;refine Fb ha hb wh pins s σ H Q I ?_
 obtain⟨Z1,O1,E1,h1⟩:=lY E hq;refine⟨Z1,O1,E1,Post.mono h1 λk H1 s1 q=> ?_⟩
 obtain⟨s',E',q'⟩:=q
 cases k with
 | true=>rw[if_pos rfl];exact⟨Z,O,E',by simpa using q'⟩
 | false=>rw[if_neg KL];exact q' H1 (Same.refl H1)
theorem Hh (ha:vm X a f)(hb:Ea X (.BoolOp .Or (b::ck) pos) g):Ea X (.BoolOp .Or (a::b::ck) pos) (ki f g):=by
 intro wh pins s σ H Q I ⟨Z,O,E,hq⟩;refine Hz ha hb wh pins s σ H Q I ?_
 obtain⟨Z1,O1,E1,h1⟩:=lY E hq;refine⟨Z1,O1,E1,Post.mono h1 λk H1 s1 q=> ?_⟩
 obtain⟨s',E',q'⟩:=q
 cases k with
 | true=>rw[if_pos rfl];exact q' H1 (Same.refl H1)
 | false=>rw[if_neg KL];exact⟨Z,O,E',by simpa using q'⟩
theorem qt_w {e:Expr}(h:Ea X e f):vm X e f:=h.pt
theorem EH (ha:vm X a f):vm X (.UnaryOp .Not a pos) (cp f):=by
 intro pins s σ H Q I ⟨Z,O,E,hq⟩;refine Fd ha pins s σ H Q I ?_
 obtain⟨Z1,O1,E1,h1⟩:=lY E hq;exact⟨Z1,O1,E1,Post.mono h1 λk H1 s1 ⟨s',E',q'⟩=>q' H1 (Same.refl H1)⟩
def bJ (f g:En->Rs T)(Z:En):Rs T:=do
 let x <-f Z
 match x with
 | .bl true=>g Z
 | .bl false=> .ok (.bl false)
 | _=> .bad
def Bt (f g:En->Rs T)(Z:En):Rs T:=do
 let x <-f Z
 match x with
 | .bl true=> .ok (.bl true)
 | .bl false=>g Z
 | _=> .bad
def CS:T->Rs T
 | .bl k=> .ok (.bl (!k))
 | _=> .bad
theorem Hn {op}(h:cj X a fa):cj X (.BoolOp op [a] pos) fa:=Fo h
theorem Hy (ha:cj X a fa)(hb:cj X (.BoolOp .And (b::ck) pos) fb):cj X (.BoolOp .And (a::b::ck) pos) (bJ fa fb):=by
 intro pins s σ H Q I ⟨Z,O,E,hq⟩;refine Ft ha hb pins s σ H Q I ?_
 obtain⟨Z1,O1,E1,h1⟩:=aS E hq;refine⟨Z1,O1,E1,Post.mono h1 λts H1 s1 q vs r=> ?_⟩
 obtain⟨t',r',s',E',q'⟩:=q vs r
 split at q'
 ·exact⟨true,Rep.FB.mp r',by rw[if_pos rfl];exact⟨Z,O,E',q'⟩⟩
 ·exact⟨false,Rep.FB.mp r',by rw[if_neg KL];exact q' H1 (Same.refl H1) _ (Rep.bl_ false)⟩
 ·exact q'.elim
theorem q_or (ha:cj X a fa)(hb:cj X (.BoolOp .Or (b::ck) pos) fb):cj X (.BoolOp .Or (a::b::ck) pos) (Bt fa fb):=by
 intro pins s σ H Q I ⟨Z,O,E,hq⟩;refine HE ha hb pins s σ H Q I ?_
 obtain⟨Z1,O1,E1,h1⟩:=aS E hq;refine⟨Z1,O1,E1,Post.mono h1 λts H1 s1 q vs r=> ?_⟩
 obtain⟨t',r',s',E',q'⟩:=q vs r
 split at q'
 ·exact⟨true,Rep.FB.mp r',by rw[if_pos rfl];exact q' H1 (Same.refl H1) _ (Rep.bl_ true)⟩
 ·exact⟨false,Rep.FB.mp r',by rw[if_neg KL];exact⟨Z,O,E',q'⟩⟩
 ·exact q'.elim
theorem Ho (ha:cj X a fa):cj X (.UnaryOp .Not a pos) (o1 CS fa):=by
 intro pins s σ H Q I ⟨Z,O,E,hq⟩;refine Fp ha pins s σ H Q I ?_
 obtain⟨Z1,O1,E1,h1⟩:=aS E hq;refine⟨Z1,O1,E1,Post.mono h1 λts H1 s1 q vs r=> ?_⟩
 obtain⟨t',r',s',E',q'⟩:=q vs r;unfold CS at q'
 split at q'
 ·exact⟨_,Rep.FB.mp r',q' H1 (Same.refl H1) _ (Rep.bl_ _)⟩
 ·exact q'.elim
end
end Tr
namespace HT
open PySem PyProof.Rows
section
variable {prog:Kz}{w:Lb}{A:KU}{E:J8->Kb->Prop}{s:Kb}
theorem jc {t:Addr}{items:Array J8}{Q:Bool->Kb->Prop}(ht:Ta s.heap t items)(h:Q true s):wpAny (model prog w) A (OM (.ref t)) Q E s:=by
 unfold OM;refine J5 (MN ht.typeIs (Kd ?_))
 exact h
theorem getItem_tuple_whole {t sl:Addr}{items:Array J8}{vl vu:J8}{lo hi:Option Int}{Q:J8->Kb->Prop}(ht:Ta s.heap t items)(hs:s.heap.IsSliceOf sl vl vu .none)(pl:RB vl lo)(pu:RB vu hi)
  (hw:sIx items.size 0 lo=0/\sIx items.size items.size hi=items.size) (h:Q (.ref t) s):wpAny (model prog w) A (getItem (.ref t) (.ref sl)) Q E s:=by
 obtain⟨os,hos,hcs,hds⟩:=id hs
 have hTs:s.TypeIs (.ref sl) "slice":=⟨os,hos,hcs⟩;unfold getItem
 try with_reducible refine Ly ?_
 first | refine J5 (Kd ?_) | skip
 refine J5 (Pu ht.typeIs (by decide) ?_)
 refine J5 (Lh (name:=Kr "__getitem__") ht.typeIs KI
  (Ln KI ht.typeIs OI ?_ (O0 _ _)))
 show wpAny _ _ (Ni (.ref t) >>= _) _ _ s
 refine J5 (PP ht ?_)
 refine J5 (MN hTs ?_)
 rw[if_pos (by decide)]
 refine J5 (gd hs pl pu ?_)
 have hyes:(((sIx items.size 0 lo:Nat):Int) == 0&&(1:Int) == 1&&(sIx items.size items.size hi - sIx items.size 0 lo) == items.size)=true:=by
  rw[hw.1,hw.2];simp
 show wpAny _ _ (if (((sIx items.size 0 lo:Nat):Int) == 0&&(1:Int) == 1&&(sIx items.size items.size hi - sIx items.size 0 lo) == items.size)=true then _ else _) _ _ s
 rw[if_pos hyes]
 first
  | refine J5 (jc ht ?_)
  | refine jc ht ?_
 try rw[if_pos rfl]
 first
  | exact J5 (Nf (Kd ⟨_,rfl,Kd h⟩))
  | exact J5 (Nf (J5 (Kd (Kd ⟨_,rfl,Kd h⟩))))
theorem ko {sl:Addr}{t:Tok}{n:Nat}{Q:Int×Int×Nat->Kb->Prop}(hs:s.heap.IsSliceOf sl .none .none (.int (-1) t))
  (h:Q ((n:Int) - 1,-1,n) s):wpAny (model prog w) A (Mm (.ref sl) (pure (n:Int))) Q E s:=by
 obtain⟨os,hos,hcs,hds⟩:=id hs;unfold Mm O4;refine J5 (J5 (MB hos hds (x:=.none) rfl (J5 (MB hos hds (x:=.none) rfl (J5 (MB hos hds (x:=.int (-1) t) rfl (Kd ?_)))))))
 refine J5 (slicePart_int ?_)
 show wpAny _ _ (if ((-1:Int) == 0)=true then _ else _) _ _ s
 rw[if_neg (by decide)]
 refine J5 (Pa (J5 (Pa (J5 (Kd ?_)))))
 show wpAny _ _ (match LF none none (-1) (n:Int)with | (lo,hi)=>pure (lo,(-1:Int),K9 lo hi (-1))) _ _ s
 have e1:LF none none (-1) (n:Int)=((n:Int) - 1,-1):=by simp[LF]
 have e2:K9 ((n:Int) - 1) (-1) (-1)=n:=by
  unfold K9;simp only[show ¬((-1:Int) > 0)by decide,if_false,Int.neg_neg,R8]
  split <;> omega
 rw[e1]
 show wpAny _ _ (pure ((n:Int) - 1,(-1:Int),K9 ((n:Int) - 1) (-1) (-1))) _ _ s
 rw[e2];exact Kd h
theorem sG (xs:List J8):((J7 xs.length).filterMap λ(m:Nat)=>xs.toArray[(((xs.length:Int) - 1)+(m:Int)*(-1)).toNat]?)=xs.reverse:=by
 apply Pj
 intro i
 have key:∀m∈J7 xs.length,xs.toArray[(((xs.length:Int) - 1)+(m:Int)*(-1)).toNat]? =some (xs.reverse.getD m .none):=λm hm=>by
  have hm':m<xs.length:=Kq.mp hm
  have e:(((xs.length:Int) - 1)+(m:Int)*(-1)).toNat=xs.length - 1 - m:=by omega
  rw[e,Qi,Kf (by omega)]
  have:m<xs.reverse.length:=by simpa using hm'
  simp[Rm,Kf this,List.getElem_reverse]
 have hmap:((J7 xs.length).filterMap λ(m:Nat)=>xs.toArray[(((xs.length:Int) - 1)+(m:Int)*(-1)).toNat]?)=(J7 xs.length).map λm=>xs.reverse.getD m .none:=by
  have gen:∀(r:List Nat) (f:Nat->Option J8) (g:Nat->J8),(∀m∈r,f m=some (g m))->r.filterMap f=r.map g:=by
   intro r f g
   induction r with
   | nil=>intro _;rfl
   | cons m r ih=>
    intro h;rw[MO,h m Kg,Ke,ih λm' hm'=>h m' (Ka _ hm')]
  exact gen _ _ _ key
 rw[hmap];rw[Kv]
 by_cases hi:i<xs.length
 ·have hr:i<xs.reverse.length:=by simpa using hi
  rw[Mh hi]
  simp[Rm,Kf hr]
 ·rw[Lv (by simpa using hi),Lv (by simpa using hi)]
  rfl
theorem slicePick_rev (xs:List J8):SY xs.toArray none none (some (-1))=xs.reverse.toArray:=by
 have e:SY xs.toArray none none (some (-1))=((sliceRange ((xs.toArray.size:Int) - 1) (-1) (-1)).filterMap (xs.toArray[·]?)).toArray:=rfl
 rw[e,<-sG xs,Kp];unfold sliceRange
 have c:(if ((xs.length:Int) - 1) > -1 then(((xs.length:Int) - 1) - (-1) - (-1) - 1) / (-(-1:Int))else 0).toNat=xs.length:=by
  rw[Int.neg_neg,R8]
  split <;> omega
 show(((J7 (if ((xs.length:Int) - 1) > -1 then(((xs.length:Int) - 1) - (-1) - (-1) - 1) / (-(-1:Int))else 0).toNat).map λ(k:Nat)=>(((xs.length:Int) - 1)+(-1)*(k:Int)).toNat).filterMap (xs.toArray[·]?)).toArray=_
 rw[c,Rh]
 congr 2
 funext k
 show xs.toArray[(((xs.length:Int) - 1)+(-1)*(k:Int)).toNat]? =_
 rw[OV]
theorem getItem_tuple_rev {u sl:Addr}{items:List J8}{t:Tok}{Q:J8->Kb->Prop}(ht:Ta s.heap u items.toArray)(hs:s.heap.IsSliceOf sl .none .none (.int (-1) t))
  (h:Q (.ref s.heap.objs.size) { s with heap:=s.heap.push { cls:=.type "tuple",data:=.seq items.reverse.toArray } })
  (hsz:items.length<=sizeLine):wpAny (model prog w) A (getItem (.ref u) (.ref sl)) Q E s:=by
 have htake:sizeOk (.seq items.reverse.toArray):=by
  show items.reverse.toArray.size<=sizeLine
  simpa using hsz
 obtain⟨os,hos,hcs,hds⟩:=id hs
 have hTs:s.TypeIs (.ref sl) "slice":=⟨os,hos,hcs⟩;unfold getItem
 try with_reducible refine Ly ?_
 first | refine J5 (Kd ?_) | skip
 refine J5 (Pu ht.typeIs (by decide) ?_)
 refine J5 (Lh (name:=Kr "__getitem__") ht.typeIs KI
  (Ln KI ht.typeIs OI ?_ (O0 _ _)))
 show wpAny _ _ (Ni (.ref u) >>= _) _ _ s
 refine J5 (PP ht ?_)
 refine J5 (MN hTs ?_)
 rw[if_pos (by decide)]
 refine J5 (ko (n:=items.toArray.size) hs ?_)
 show wpAny _ _ (if ((((items.toArray.size:Nat):Int) - 1) == 0&&(-1:Int) == 1&&items.toArray.size == items.toArray.size)=true then _ else _) _ _ s
 rw[if_neg (by simp)]
 have e:((J7 items.toArray.size).filterMap λ(m:Nat)=>items.toArray[((((items.toArray.size:Nat):Int) - 1)+(m:Int)*(-1)).toNat]?)=items.reverse:=by
  rw[Kp];exact sG items
 rw[e]
 first
  | exact J5 (m:=K5 _) (KR (Kd ⟨_,rfl,Kd h⟩) htake)
  | exact J5 (m:=K5 _) (KR (J5 (Kd (Kd ⟨_,rfl,Kd h⟩))) htake)
  | exact J5 (J5 (m:=K5 _) (KR (Kd (Kd ⟨_,rfl,Kd h⟩)) htake))
  | exact J5 (J5 (m:=K5 _) (KR (Kd ⟨_,rfl,Kd h⟩) htake))
end
end HT
namespace Tr
open PySem PySem.Spec PyProof.Rows L2
section
variable {X:Cx}{a b c:Expr}{fa fb fc:En->Rs T}{pos:Pos}
theorem Reps.atI {K:J6}{O:Ow}{H:Hp}{l:List T}{vs:List V}{i:Int}{t:T}(r:Reps K O H l vs)(e:L2.atI l i=some t):∃v,L2.atI vs i=some v/\Rep K O H t v:=by
 unfold L2.atI at e ⊢;rw[r.length]at e
 cases q:ixN vs.length i with
 | none=>rw[q]at e;cases e
 | some j=>
  rw[q]at e;obtain⟨v,e1,e2⟩:=r.get (i:=j) (t:=t) e;exact⟨v,e1,e2⟩
def aO (x y:T):Rs T:=match x.items,y with
 | some l,.int i=>match L2.atI l i with
  | some t=> .ok t
  | none=> .bad
 | _,_=> .bad
theorem q_ix (ha:cj X a fa)(hb:cj X b fb)(hs:w4 b:=by intro _ _;rfl):cj X (.Subscript a b pos) (o2 aO fa fb):=by
 intro pins s σ H Q I ⟨Z,O,E,hq⟩
 have h1:=aS E hq;refine R3 (bX (ha pins s σ H _ I h1) λv s1 hh_=> ?_)
 obtain⟨x,H1,I1,r1,t,rt,s',E',q1⟩:=hh_
 have h2:=aS (f:=fb) E' q1;refine bX (hb pins s1 σ H1 _ I1 h2) λu s2 hh_=> ?_
 obtain⟨y,H2,I2,r2,t2,rt2,s'',E'',q2⟩:=hh_
 have rt':=rt.same s'';unfold aO at q2
 split at q2
 ·rename_i l i hl
  split at q2
  ·rename_i z hz
   have hy:=Rep.AC.mp rt2;refine F6 a b pins s2 σ H2 x y v u Q I2 r1 r2 ?_ (hs _ _)
   cases t with
   | tup m=>
    cases hl;obtain⟨p,vs,e,n,q,rr⟩:=Rep.Fk.mp rt';obtain⟨w,ew,rw'⟩:=rr.atI hz
    exact .inr (.inl ⟨p,vs,i,w,e,hy,SqT.of q,ew,q2 H2 (Same.refl H2) _ rw'⟩)
   | lst m=>
    cases hl;obtain⟨p,vs,e,n,q,rr⟩:=Rep.Do.mp rt';obtain⟨w,ew,rw'⟩:=rr.atI hz
    exact .inl ⟨p,vs,i,w,e,hy,SqL.of q,ew,q2 H2 (Same.refl H2) _ rw'⟩
   | scr m=>
    cases hl;unfold Rep at rt';obtain⟨p,e,n,q⟩:=rt';obtain⟨w,ew,rw'⟩:=(Reps.ints (K:=X.K) (O:=O) (H:=H2) (ns:=m)).atI hz
    exact .inl ⟨p,_,i,w,e,hy,q,ew,q2 H2 (Same.refl H2) _ rw'⟩
   | _=>cases hl
  ·exact q2.elim
 ·exact q2.elim
def lA (l:List T)(lo hi:Option Int):List T:=(l.drop (HT.sIx l.length 0 lo)).take (HT.sIx l.length l.length hi - HT.sIx l.length 0 lo)
theorem Reps.cut {K:J6}{O:Ow}{H:Hp}{l:List T}{vs:List V}(r:Reps K O H l vs)(lo hi:Option Int):Reps K O H (lA l lo hi) (tZ vs lo hi):=by
 unfold lA tZ;rw[r.length];exact(r.drop _).take _
theorem yj {l:List T}{lo hi:Option Int}(h:HT.sIx l.length 0 lo=0/\HT.sIx l.length l.length hi=l.length):lA l lo hi=l:=by
 unfold lA;rw[h.1,h.2];simp
theorem sl_tup_whole:SlR X (λx lo hi H Q=> ∃a xs,x= .ref a/\SqT X.K H a xs/\(HT.sIx xs.length 0 lo=0/\HT.sIx xs.length xs.length hi=xs.length)/\Q (.ref a) H):=by
 intro pins s σ H x v vl vu lo hi sl Q I rx hs pl pu h;obtain⟨a,xs,rfl,hx,hw,q⟩:=h;cases rx;obtain⟨its,r,ht,hz⟩:=I.tuple hx
 have hlen:its.toArray.size=xs.length:=by rw[Kp];exact r.length.symm
 refine⟨"tuple",_,KI.lookup,ht.typeIs,?_⟩
 exact HT.getItem_tuple_whole ht hs pl pu (by rw[hlen];exact hw) ⟨.ref a,H,I,rfl,q⟩
def pN (_:En):Rs (Option Int):=.ok none
def pS (f:En->Rs T)(Z:En):Rs (Option Int):=do
 let x <-f Z
 match x with
 | .int i=> .ok (some i)
 | _=> .bad
def tPO (X:Cx)(f:En->Rs (Option Int)):TO:=λσ H Q=> ∃Z O,EnvO X.K O H Z σ/\Post X H (f Z) λb H'=>Q b H'
abbrev IP (X:Cx)(e:Option Expr)(f:En->Rs (Option Int)):Prop:=PO X e (tPO X f)
theorem Cc:IP X none pN:=by
 intro pins s σ H Q I ⟨Z,O,E,hq⟩;exact Ct pins s σ H Q I (hq H (Same.refl H))
theorem Cb (ha:cj X a fa):IP X (some a) (pS fa):=by
 intro pins s σ H Q I ⟨Z,O,E,hq⟩;refine Cr ha pins s σ H Q I ?_
 obtain⟨Z1,O1,E1,h1⟩:=aS E hq;refine⟨Z1,O1,E1,Post.mono h1 λts H1 s1 q vs r=> ?_⟩
 obtain⟨t',r',s',E',q'⟩:=q vs r
 split at q'
 ·exact⟨_,Rep.AC.mp r',q' H1 (Same.refl H1)⟩
 ·exact q'.elim
def slT (x:T)(lo hi:Option Int):Rs T:=match x with
 | .tup l=> .ok (.tup (lA l lo hi))
 | .lst l=> .ok (.lst (lA l lo hi))
 | _=> .bad
def sl (fe:En->Rs T)(fl fu:En->Rs (Option Int))(Z:En):Rs T:=do
 let x <-fe Z
 let l <-fl Z
 let u <-fu Z
 slT x l u
theorem rQ {σ:L2.St}{H:Hp}{Z:En}{O:Ow}{α:Type}{f:En->Rs (Option Int)}{k:Option Int->Rs α}{Q:α->Hp->Prop}(E:EnvO X.K O H Z σ)(h:Post X H (f Z >>= k) Q) :
  tPO X f σ H λb H'=>Same H H'/\EnvO X.K O H' Z σ/\Post X H' (k b) Q:=
 ⟨Z,O,E,Post.mono h.bind λt H' s q=>⟨s,E.same s,q⟩⟩
theorem Cj {lo hi:Option Expr}{p2:Pos}{fl fu:En->Rs (Option Int)}(ha:cj X a fa)(hl:IP X lo fl)(hu:IP X hi fu):cj X (.Subscript a (.Slice lo hi none p2) pos) (sl fa fl fu):=by
 intro pins s σ H Q I ⟨Z,O,E,hq⟩;refine zC (sl_tup.or (sl_tup_whole.or BX)) ha hl hu pins s σ H Q I ?_
 obtain⟨Z1,O1,E1,h1⟩:=aS E hq;refine⟨Z1,O1,E1,Post.mono h1 λts H1 s1 q vs r=> ?_⟩
 obtain⟨t',r',s',E',q'⟩:=q vs r;obtain⟨Z2,O2,E2,h2⟩:=rQ E' q';refine⟨Z2,O2,E2,Post.mono h2 λo1 H2 s2 q=> ?_⟩
 obtain⟨s2',E2',q2⟩:=q;obtain⟨Z3,O3,E3,h3⟩:=rQ E2' q2;refine⟨Z3,O3,E3,Post.mono h3 λo2 H3 s3 q=> ?_⟩
 obtain⟨s3',E3',q3⟩:=q
 have rt:=(r'.same s2').same s3';unfold slT at q3
 split at q3
 ·rename_i l
  obtain⟨p,ws,e,n,q,rr⟩:=Rep.Fk.mp rt
  have hlen:=rr.length
  by_cases hw:HT.sIx ws.length 0 o1=0/\HT.sIx ws.length ws.length o2=ws.length
  ·refine .inr (.inl ⟨p,ws,e,SqT.of q,hw,?_⟩)
   rw[<-hlen]at hw;refine q3 H3 (Same.refl H3) _ ?_
   rw[yj hw];exact Rep.Fk.mpr ⟨p,ws,rfl,n,q,rr⟩
  ·exact .inl ⟨p,ws,e,SqT.of q,hw,λp' hp=>q3 _ (aN hp _) _ (ft hp (E3'.fresh hp) (rr.cut o1 o2))⟩
 ·rename_i l
  obtain⟨p,ws,e,n,q,rr⟩:=Rep.Do.mp rt;exact .inr (.inr ⟨p,ws,e,SqL.of q,λp' hp=>q3 _ (aN hp _) _ (dF hp (E3'.fresh hp) (rr.cut o1 o2))⟩)
 ·exact q3.elim
def xw:T->Rs T
 | .tup l=> .ok (.tup l.reverse)
 | .lst l=> .ok (.lst l.reverse)
 | _=> .bad
theorem Reps.reverse {K:J6}{O:Ow}{H:Hp}:∀{l:List T} {vs:List V},Reps K O H l vs->Reps K O H l.reverse vs.reverse
 | [],vs,r=>by rw[Reps.Da.mp r];exact Reps.GT
 | t::l,vs,r=>by
  obtain⟨v,us,rfl,p,q⟩:=Reps.me.mp r;rw[NT,NT];exact q.reverse.append (Reps.FS p Reps.GT)
theorem Hm {j:Nat}{p1 p2 p3:Pos}(ha:cj X a fa):cj X (.Subscript a (.Slice none none (some (.UnaryOp .USub (.Constant (.int 1) j p1) p2)) p3) pos) (o1 xw fa):=by
 intro pins s σ H Q I ⟨Z,O,E,hq⟩
 have h1:=aS E hq;refine R3 (bX (ha pins s σ H _ I h1) λv s1 hh_=> ?_)
 obtain⟨x,H1,I1,r1,t,rt,s',E',q1⟩:=hh_;refine wpAny_Slice ?_
 rw[RC];refine Kd (Kd ?_)
 rw[evalPart_some];refine bX (DO yO zE pins s1 σ H1 (λw' H'=>w'= .int (-1)/\H'=H1) I1 ⟨1,rfl,rfl,rfl⟩) λsv s2 hh_=> ?_
 obtain⟨w',H2,I2,r2,e1,e2⟩:=hh_;subst e1 e2;obtain⟨tk,rfl⟩:=r2
 have I4:Inv X pins σ H2 { s2 with heap:=s2.heap.push { cls:=.type "slice",data:=.fields #[.none,.none,.int (-1) tk] } }:=I2.kept (t':=s2.toks) λb ob q=>Kc _ q
 unfold xw at q1
 split at q1
 ·rename_i l
  obtain⟨p,ws,e,n,q,rr⟩:=Rep.Fk.mp rt;subst e;cases r1;obtain⟨its,r,ht,hz⟩:=I4.tuple (SqT.of q)
  have hs:S8 (s2.heap.push { cls:=.type "slice",data:=.fields #[.none,.none,.int (-1) tk] }) s2.heap.objs.size .none .none (.int (-1) tk):=OR ..;refine tail_any (ops:=[.ref p,.ref s2.heap.objs.size]) ht.typeIs KI.lookup ?_ (by with_unfolding_all rfl)
  refine HT.getItem_tuple_rev ht hs ?_ (by rw[<-r.length];exact hz)
  refine⟨.ref _,_,I4.laid (t':=s2.toks) (o:=.tup ws.reverse) (λb ob q=>Kc _ q) (Ki _) ?_,rfl,?_⟩
  ·exact⟨by rw[QY];exact hz,_,r.reverse,Ri _ _⟩
  ·have hn:=I4.hok.fresh (Ki _)
   exact q1 _ (aN hn _) _ (ft hn (E'.fresh hn) rr.reverse)
 ·rename_i l
  obtain⟨p,ws,e,n,q,rr⟩:=Rep.Do.mp rt;subst e;cases r1;obtain⟨its,r,ht,hz⟩:=I4.list (SqL.of q)
  have hs:S8 (s2.heap.push { cls:=.type "slice",data:=.fields #[.none,.none,.int (-1) tk] }) s2.heap.objs.size .none .none (.int (-1) tk):=OR ..;refine tail_any (ops:=[.ref p,.ref s2.heap.objs.size]) ht.isList.typeIs slot_list_getitem.lookup ?_ (by with_unfolding_all rfl)
  refine Pv ht.isList hs .none .none (.int (-1) tk) (by simp) ?_ (by rw[Kp,<-r.length];exact hz)
  rw[HT.slicePick_rev];refine⟨.ref _,_,I4.laid (t':=s2.toks) (o:=.lst ws.reverse) (λb ob q=>Kc _ q) (Ki _) ?_,rfl,?_⟩
  ·exact⟨by rw[QY];exact hz,_,0,r.reverse,Kn _ rfl⟩
  ·have hn:=I4.hok.fresh (Ki _)
   exact q1 _ (aN hn _) _ (dF hn (E'.fresh hn) rr.reverse)
 ·exact q1.elim
def CallT (X:Cx)(f:J8)(g:List T->Rs T):Prop:=
 ∀(pins:List (Addr×Obj)) (s:Kb) (σ:L2.St) (H:Hp) (O:Ow) (ts:List T) (vs:List V) (us:List J8) (Q:VK),Inv X pins σ H s->(∀p,H p=none->¬ O p)->Reps X.K O H ts vs->Vals vs us →
  Post X H (g ts) (λt H'=> ∀v,Rep X.K O H' t v->Q v H')->wpAny (model X.prog X.w) X.A (call f us) (EP X pins σ Q) X.xe s
theorem CallT.of {f:J8}{r:List V->Hp->VK->Prop}(h:CallR X f r){g:List T->Rs T}
  (w:∀(H:Hp) (O:Ow) (ts:List T) (vs:List V) (Q:VK),(∀p,H p=none->¬ O p)->Reps X.K O H ts vs->Post X H (g ts) (λt H'=> ∀v,Rep X.K O H' t v->Q v H')->r vs H Q):CallT X f g:=
 λpins s σ H O ts vs us Q I hf rs rv hp=>h pins s σ H vs us Q I rv (w H O ts vs Q hf rs hp)
def cl (g:List T->Rs T)(fs:En->Rs (List T))(Z:En):Rs T:=fs Z >>= g
variable {e:Expr}{es:List Expr}{fs:En->Rs (List T)}{x:Str}{p:Pos}{id:String}{g:List T->Rs T}
theorem vO (hc:CallT X (.builtin id) g)(hm:X.mg x=none)(hv:KQ x=some (.builtin id))(ha:oy X (e::es) fs)(hg:Gl X x:=by rfl)(hn:x≠ "__name__":=by decide)(hdb:jj x:=by decide)
  (he:Kx (e::es) X.env=(false,eval e X.env)::Kx es X.env:=by rfl) (hpl:(backTo pos (Kx es X.env)).any (·.1)=false:=by rfl):cj X (.Call (.Name x p) (e::es) [] pos) (cl g fs):=by
 intro pins s σ H Q I ⟨Z,O,E,hq⟩;refine Le (d4 I hg hm hv ?_ hn hdb)
 have h1:=da E hq;exact ML (bX (ha pos pins s σ H _ I h1) λus s1 ⟨vs,H1,I1,r1,ts,rs,s',E',q1⟩=>hc pins s1 σ H1 O ts vs us Q I1 (λp=>E'.fresh) rs r1 q1) he hpl
theorem zp {Ty:String}(hc:CallT X (.type Ty) g)(hm:X.mg x=none)(hv:KQ x=some (.type Ty))(ha:oy X (e::es) fs)(hg:Gl X x:=by rfl)(hn:x≠ "__name__":=by decide)(hdb:jj x:=by decide)
  (he:Kx (e::es) X.env=(false,eval e X.env)::Kx es X.env:=by rfl) (hpl:(backTo pos (Kx es X.env)).any (·.1)=false:=by rfl):cj X (.Call (.Name x p) (e::es) [] pos) (cl g fs):=by
 intro pins s σ H Q I ⟨Z,O,E,hq⟩;refine Le (d4 I hg hm hv ?_ hn hdb)
 have h1:=da E hq;exact K2 (bX (ha pos pins s σ H _ I h1) λus s1 ⟨vs,H1,I1,r1,ts,rs,s',E',q1⟩=>hc pins s1 σ H1 O ts vs us Q I1 (λp=>E'.fresh) rs r1 q1) he hpl
theorem Reps.one {K:J6}{O:Ow}{H:Hp}{t:T}{vs:List V}(r:Reps K O H [t] vs):∃v,vs= [v]/\Rep K O H t v:=by
 obtain⟨v,ws,rfl,p,q⟩:=Reps.me.mp r;cases Reps.Da.mp q;exact⟨v,rfl,p⟩
theorem Rep.sq {K:J6}{O:Ow}{H:Hp}{t:T}{v:V}{l:List T}(r:Rep K O H t v)(h:t.items=some l):∃a vs,v= .ref a/\¬ O a/\Reps K O H l vs/\(SqL K H a vs\/SqT K H a vs):=by
 cases t with
 | tup m=>cases h;obtain⟨a,vs,e,n,q,z⟩:=Rep.Fk.mp r;exact⟨a,vs,e,n,z,.inr (SqT.of q)⟩
 | lst m=>cases h;obtain⟨a,vs,e,n,q,z⟩:=Rep.Do.mp r;exact⟨a,vs,e,n,z,.inl (SqL.of q)⟩
 | scr m=>cases h;unfold Rep at r;obtain⟨a,e,n,q⟩:=r;exact⟨a,_,e,n,Reps.ints,.inl q⟩
 | _=>cases h
def cY:List T->Rs T
 | [.str x] =>if x.length<=sizeLine then .ok (.int x.length)else .bad
 | [x] =>match x.items with
  | some l=> .ok (.int l.length)
  | none=> .bad
 | _=> .bad
theorem dt:CallT X (.builtin "len") cY:=CallT.of (call_len_seq.or rz) λH O ts vs Q hf rs hp=>by
 unfold cY at hp
 split at hp
 ·obtain⟨v,rfl,r⟩:=rs.one
  split at hp
  ·rename_i h
   exact .inr ⟨_,by rw[Rep.Gc.mp r],h,hp H (Same.refl H) _ (Rep.GE _)⟩
  ·exact hp.elim
 ·obtain⟨v,rfl,r⟩:=rs.one
  split at hp
  ·rename_i l hl
   obtain⟨a,vs,rfl,n,z,q⟩:=r.sq hl;exact .inl ⟨a,vs,rfl,q,hp H (Same.refl H) _ (by rw[<-z.length];exact Rep.GE _)⟩
  ·exact hp.elim
 ·exact hp.elim
def fR:List T->Rs T
 | [.tup l] => .ok (.tup l)
 | [.lst l] => .ok (.tup l)
 | _=> .bad
theorem iz:CallT X (.type "tuple") fR:=CallT.of ox λH O ts vs Q hf rs hp=>by
 unfold fR at hp
 split at hp
 ·obtain⟨v,rfl,r⟩:=rs.one
  obtain⟨a,ws,rfl,n,q,z⟩:=Rep.Fk.mp r;exact⟨a,ws,rfl,.inr ⟨SqT.of q,hp H (Same.refl H) _ (Rep.Fk.mpr ⟨a,ws,rfl,n,q,z⟩)⟩⟩
 ·obtain⟨v,rfl,r⟩:=rs.one
  obtain⟨a,ws,rfl,n,q,z⟩:=Rep.Do.mp r;exact⟨a,ws,rfl,.inl ⟨SqL.of q,λl hl=>hp _ (aN hl _) _ (ft hl (hf l hl) z)⟩⟩
 ·exact hp.elim
def nQ:List T->Option (List Bool)
 | [] =>some []
 | .bl k::r=>(nQ r).map (k:: ·)
 | _=>none
def nW:List T->Rs T
 | [.lst l] =>match nQ l with
  | some ks=> .ok (.bl (ks.all λk=>k))
  | none=> .bad
 | _=> .bad
theorem nP {K:J6}{O:Ow}{H:Hp}:∀{l:List T} {ks:List Bool} {vs:List V} {us:List J8},nQ l=some ks->Reps K O H l vs->Vals vs us->us=ks.map Lw
 | [],ks,vs,us,e,r,v=>by cases e;cases Reps.Da.mp r;cases v;rfl
 | t::l,ks,vs,us,e,r,v=>by
  obtain⟨w,ws,rfl,p,q⟩:=Reps.me.mp r
  cases t with
  | bl k=>
   unfold nQ at e
   cases z:nQ l with
   | none=>rw[z]at e;cases e
   | some ks'=>
    rw[z]at e;cases e
    cases v with
    | cons v1 v2=>
     cases Rep.FB.mp p;cases v1
     rw[nP z q v2];rfl
  | _=>cases e
theorem nL (hc:X.calm=true):CallT X (.builtin "all") nW:=by
 intro pins s σ H O ts vs us Q I hf rs rv hp;unfold nW at hp
 split at hp
 ·obtain⟨v,rfl,r⟩:=rs.one
  split at hp
  ·rename_i ks hk
   obtain⟨a,ws,rfl,n,q,z⟩:=Rep.Do.mp r;obtain⟨u,rfl,ru⟩:=kQ rv;cases ru;obtain⟨its,r',pl,hz⟩:=I.list (SqL.of q)
   have hits:=nP hk z r';refine call_all_walk (NZ pl.isList ?_)
   have hne:a≠s.heap.objs.size:=λe=>by
    obtain⟨o,ho,_⟩:=pl.isList;rw[e]at ho;exact absurd (Kk ho) (KW _)
   refine⟨s.heap.objs.size,_,_,_,_,_,λi=>(ks[i]?).getD true,rfl,Walks.list (A:=X.A.in1) (I.ok.hd hc) s.heap.objs.size a hne its.toArray,⟨⟨_,Kn _ rfl,rfl,rfl⟩,?_⟩,?_,?_⟩
   ·obtain⟨o,ho,hh⟩:=pl.isList
    exact⟨o,Kc _ ho,hh⟩
   ·intro i v s' Q' E' hP hQ'
    subst hits
    dsimp only at hQ'
    have hP':(ks.map Lw)[i]? =some v:=by simpa using hP
    rw[Kv]at hP'
    cases e:ks[i]? with
    | none=>rw[e]at hP';cases hP'
    | some k=>
     rw[e]at hP' hQ';cases hP';exact Lo hQ'
   ·intro h' tk hk'
    have hlen:its.toArray.size=ks.length:=by rw[hits];simp
    have e:((J7 its.toArray.size).all λi=>(ks[i]?).getD true)=(ks.all λk=>k):=by
     rw[hlen];rw[NI,Ks,Ks]
     constructor
     ·intro h x hx
      obtain⟨i,hi,rfl⟩:=Lu hx
      have:=h i (Kq.mpr hi)
      simpa [hi]using this
     ·intro h i hi
      have hi':=Kq.mp hi
      have:=h ks[i] (Mq hi')
      simpa [hi']using this
    rw[e]
    have I1:Inv X pins σ H { s with heap:=s.heap.push { cls:=.type "list_iterator",data:=.fields #[.ref a,.int 0 0] } }:=I.kept (t':=s.toks) λb o e=>Kc _ e
    have I2:Inv X pins σ H { s with heap:=h',toks:=tk }:=by
     have:=I1.turned (h':=h') (t':=tk) (it:=s.heap.objs.size) (λb o hb e=>hk' b o (by simpa using hb) e) (I.hok.fresh (Ki _))
      (LC I.lt) (.inr I.sz) (λx c e z=> ?_) (λp hp z=> ?_)
     ·exact this
     ·obtain⟨v,q⟩:=I.cell x c e
      exact absurd (Kl q.lt (NA z.symm)) (KW _)
     ·exact absurd (Kl (Kk (I.pin p hp).1) (NA z.symm)) (KW _)
    exact⟨.bl _,H,I2,rfl,hp H (Same.refl H) _ (Rep.bl_ _)⟩
  ·exact hp.elim
 ·exact hp.elim
end
def T.ty:T->Option String
 | .non=>some "NoneType"
 | .bl _=>some "bool"
 | .int _=>some "int"
 | .str _=>some "str"
 | .tup _=>some "tuple"
 | .lst _=>some "list"
 | .scr _=>none
 | .dct _ _=>none
def tL (i b t l s:Bool)(Ty:String):Option Bool:=match Ty with
 | "int" =>some i | "bool" =>some b | "tuple" =>some t | "list" =>some l | "str" =>some s
 | _=>none
def wz (n Ty:String):Option Bool:=match n with
 | "NoneType" =>tL false false false false false Ty
 | "bool" =>tL true true false false false Ty
 | "int" =>tL true false false false false Ty
 | "str" =>tL false false false false true Ty
 | "tuple" =>tL false false true false false Ty
 | "list" =>tL false false false true false Ty
 | _=>none
theorem xZ (K:J6){n Ty:String}{b:Bool}(h:wz n Ty=some b):PySem.W.kitOne K (.type n) (.type Ty)=some b:=by
 unfold wz at h
 split at h <;> first | (cases h;done) | (unfold tL at h;split at h <;> first | (cases h;done) | (cases h;kernel_rfl))
def Ay (Ty:String)(t:T):Rs T:=match t.ty with
 | some n=>match wz n Ty with
  | some b=> .ok (.bl b)
  | none=> .bad
 | none=> .bad
theorem Rep.J0 {K:J6}{O:Ow}{H:Hp}{t:T}{v:V}{n:String}(r:Rep K O H t v)(h:t.ty=some n):kO K H v (.type n):=by
 cases t with
 | non=>cases h;cases Rep.Jp.mp r;exact .non
 | bl b=>cases h;cases Rep.FB.mp r;exact .bl b
 | int b=>cases h;cases Rep.AC.mp r;exact .int b
 | str b=>cases h;cases Rep.Gc.mp r;exact .str b
 | tup l=>cases h;obtain⟨a,vs,rfl,_,q,_⟩:=Rep.Fk.mp r;exact .tup q
 | lst l=>cases h;obtain⟨a,vs,rfl,_,q,_⟩:=Rep.Do.mp r;exact .lst q
 | scr l=>cases h
 | dct _ _=>cases h
section
variable {X:Cx}{a b c e:Expr}{es:List Expr}{fa fb fc:En->Rs T}{fs:En->Rs (List T)}{pos p p2:Pos}{x:Str}
theorem lC:KQ "isinstance" =some (.builtin "isinstance"):=by decide+kernel
theorem Hs {tn:Str}{Ty:String}(hm:X.mg "isinstance" =none)(hmt:X.mg tn=none)(hv:KQ tn=some (.type Ty))(ha:cj X a fa)(hg:Gl X "isinstance":=by rfl)(hgt:Gl X tn:=by rfl)
  (hn:tn≠ "__name__":=by decide) (hd:jj tn:=by decide)
  (he:Kx [a,.Name tn p2] X.env=(false,eval a X.env)::Kx [.Name tn p2] X.env:=by rfl) (hpl:(backTo pos (Kx [.Name tn p2] X.env)).any (·.1)=false:=by rfl)
  (hs:Kx [.Name tn p2] X.env=(false,eval (.Name tn p2) X.env)::Kx [] X.env:=by rfl) :
  cj X (.Call (.Name "isinstance" p) [a,.Name tn p2] [] pos) (o1 (Ay Ty) fa):=by
 intro pins s σ H Q I ⟨Z,O,E,hq⟩;refine Le (d4 I hg hm lC ?_ (by decide) (by decide))
 have hA:PA X [a,.Name tn p2] (yV (tP X fa) (yV (tC (.ty Ty)) GY)):=iO ha (iO (CF (v:=.ty Ty) hgt hmt hv rfl hn hd) mx hs) he;obtain⟨Z1,O1,E1,h1⟩:=aS E hq;refine ML (bX (hA pos pins s σ H (λvs H'=> ∃v t,vs= [v,.ty Ty]/\Rep X.K O H' t v/\Post X H' (Ay Ty t) (λt H'=> ∀v,Rep X.K O H' t v->Q v H')) I ?_) λus s1 ⟨vs,H1,I1,r1,v,t,e1,rt,q⟩=> ?_) he hpl
 ·refine⟨Z1,O1,E1,Post.mono h1 λts H1 s1 q vs r=> ?_⟩
  obtain⟨t',r',s',E',q'⟩:=q vs r;exact⟨vs,t',rfl,r',q'⟩
 ·subst e1
  obtain⟨u,w',rfl,ru,rw'⟩:=DD r1;cases rw';unfold Ay at q
  split at q
  ·rename_i n hn'
   split at q
   ·rename_i bb hb
    exact xY I1 ru (rt.J0 hn') (xZ _ hb) λtk=>⟨.bl bb,H1,I1.tok _,rfl,q H1 (Same.refl H1) _ (Rep.bl_ _)⟩
   ·exact q.elim
  ·exact q.elim
def spP (K:J6)(n:Nat)(g:List T->Rs T):Sp:=λvs H Q _=> ∃ts O,Reps K O H ts vs/\(∀a,O a->Mtb H a)/\ts.length=n ∧
 match g ts with
 | .ok t=> ∀v H',Same H H'->Rep K O H' t v->Q v H'
 | _=>False
def RzC (P:Kz)(w:Lb)(mg:Str->Option J8)(outer:List Env)(H:Hp)(s:Kb)(c:Str)(ev:J8)(s':Kb):Prop:=
 ∃e T C H',ev= .ref e/\mg c=some (.ref C)/\s'.os=s.os/\MJ s'.gens/\Un (jE outer) [] H H' s.heap s'.heap/\HOk P w H' s'.heap/\Same H H'/\H' e=none/\s.heap.get? e=none/\Jj s'.heap C e (some T)/\H' T=none/\s.heap.get? T=none
def FnX (P:Kz)(w:Lb)(K:J6)(mg:Str->Option J8)(base:Heap)(k:Nat)(f:Addr)(fd:L7)(ps:List Str)(n:Nat)(g:List T->Rs T):Prop:=
 ∀(A:KU) (outer:List Env) (s:Kb) (H:Hp) (args:Args) (us:List J8) (vs:List V) (O:Ow) (ts:List T) (c:Str) (R:Result->Kb->Prop),Room k A->Env0 P w K mg base A outer s H->RY s fd args (ps.zip us)->Vals vs us →
  Reps K O H ts vs->(∀a,O a->Mtb H a)->ts.length=n->g ts= .err c->(∀ev s',RzC P w mg outer H s c ev s'->R (.error ev) s')->codeAny (model P w) A (.call (.ref f) args) R s
structure GL (P:Kz)(w:Lb)(K:J6)(mg:Str->Option J8)(base:Heap)(k:Nat)(f:Addr)(fd:L7)(ps:List Str)(n:Nat)(g:List T->Rs T):Prop where
 h:rG P w K mg base CX0 k f fd ps (spP K n g)
 x:FnX P w K mg base k f fd ps n g
theorem zM {P:Kz}{w:Lb}{H:Hp}{h:Heap}{a:Addr}{o:HO}(x:ObjOk P w H h a o):∃u,h.get? a=some u:=by
 cases o with
 | lst xs=>obtain⟨_,_,_,_,e⟩:=x;exact⟨_,e⟩
 | tup xs=>obtain⟨_,_,_,ob,e,_⟩:=x;exact⟨_,e⟩
 | dK kvs=>obtain⟨_,_,_,_,o,_,_,e,_⟩:=x;exact⟨_,e⟩
 | dT kvs=>obtain⟨_,_,_,_,o,_,_,e,_⟩:=x;exact⟨_,e⟩
 | set S n=>obtain⟨o,_,_,_,e,_⟩:=x;exact⟨_,e⟩
 | ins C dx fs=>obtain⟨_,_,_,e,_⟩:=x;exact⟨_,e⟩
 | own y=>obtain⟨_,e⟩:=x;exact⟨_,e⟩
 | xd fs=>obtain⟨_,⟨_,_,_,e,_⟩,_⟩:=x;exact⟨_,e⟩
 | rng lo hi=>obtain⟨_,_,_,e⟩:=x;exact⟨_,e⟩
 | frz ob u=>obtain⟨e,_⟩:=x;exact⟨_,e⟩
 | tbl q=>obtain⟨_,e,_⟩:=x;exact⟨_,e⟩
 | met f y=>exact⟨_,(show h.get? a=some _ from x)⟩
 | ext φ=>obtain⟨_,⟨_,e⟩,_⟩:=x;exact⟨_,e⟩
theorem sT {X:Cx}{pins:List (Addr×Obj)}{σ:L2.St}{H:Hp}{s:Kb}(I:Inv X pins σ H s){e:Addr}(n:s.heap.get? e=none):H e=none:=by
 cases z:H e with
 | none=>rfl
 | some o=>
  obtain⟨o',ho'⟩:=zM (I.hok e o z);rw[n]at ho';cases ho'
theorem qL {X:Cx}{pins:List (Addr×Obj)}{σ:L2.St}{H:Hp}{s:Kb}(I:Inv X pins σ H s)(hex:X.ex= []){e:Addr}(n:s.heap.get? e=none):X.s₀.heap.get? e=none:=by
 cases z:X.s₀.heap.get? e with
 | none=>rfl
 | some o=>
  obtain⟨o',ho'⟩:=I.base.there e o z (by rw[hex];simp)
  rw[n]at ho';cases ho'
theorem E8 {n k:Nat}{f:Addr}{fd:L7}{ps:List Str}{g:List T->Rs T}(F:GL X.prog X.w X.K X.mg X.base k f fd ps n g)(hr:Room k X.A)(hm:X.mg x=some (.ref f))(hk:N1 X.K (.ref f)=true)(hb:Binds X.K fd ps [])(hps:ps.length=n)
  (hl:∀Z ts,fs Z= .ok ts->ts.length=n) (ha:oy X (e::es) fs) (hg:Gl X x:=by rfl) (hdb:jj x:=by decide) (he:Kx (e::es) X.env=(false,eval e X.env)::Kx es X.env:=by rfl) (hpl:(backTo pos (Kx es X.env)).any (·.1)=false:=by rfl) :
  cj X (.Call (.Name x p) (e::es) [] pos) (cl g fs):=by
 intro pins s σ H Q I ⟨Z,O,E,hq⟩
 have hq':Post X H (fs Z >>= g) λt H'=> ∀v,Rep X.K O H' t v->Q v H':=hq
 cases q:fs Z with
 | bad=>rw[q]at hq';exact hq'.elim
 | err c=>
  rw[q]at hq';refine vU (E:=E0) F.h hr hg hm hk hb .nil DQ ha hdb he hpl pins s σ H Q I ⟨Z,O,E,?_⟩
  rw[q]
  exact hq'
 | ok ts=>
  rw[q]at hq'
  have hq2:Post X H (g ts) λt H'=> ∀v,Rep X.K O H' t v->Q v H':=hq'
  cases q2:g ts with
  | bad=>rw[q2]at hq2;exact hq2.elim
  | ok t=>
   rw[q2]at hq2;refine vU (E:=E0) F.h hr hg hm hk hb .nil DQ ha hdb he hpl pins s σ H Q I ⟨Z,O,E,?_⟩
   rw[q];intro H1 s1 vs rs;rw[LJ];refine⟨ts,O,rs,(E.same s1).mtb,hl Z ts q,?_⟩
   rw[q2]
   exact λv H' s2 r=>hq2 H' (s1.trans s2) v r
  | err c=>
   rw[q2]at hq2;refine Le (lL I hg hm ?_ hdb)
   refine Ra (h₀:=X.base) I.ok.mod.kin hk (bX (ha pos pins s σ H (λvs H'=>Same H H'/\Reps X.K O H' ts vs) I ⟨Z,O,E,?_⟩) (λus s1 ⟨vs,H1,I1,r,sm,rs⟩=>⟨I1.kIn,?_⟩)) he hpl
   ·rw[q];exact λH' sm vs rs=>⟨sm,rs⟩
   ·have hlen:us.length=ps.length:=by rw[<-r.length,<-rs.length,hl Z ts q,hps]
    have hb':=hb s1 us I1.kIn (by rw[LJ];exact hlen)
    rw[LJ]at hb';refine RZ (ND (F.x X.A X.stack s1 H1 ⟨us,[]⟩ us vs O ts c (λr s'=>match r with | .error ev=>X.xe ev s' | _=>False) hr I1.JP hb' r rs (E.same sm).mtb (hl Z ts q) q2 λev s' w=> ?_) λr s' hq=> ?_)
    ·obtain⟨ea,T,C,H',rfl,hmc,ho,hbare,hun,hok,sm2,hea,heo,fl,hT,hTo⟩:=w
     have I2:Inv X pins σ H' s':=I1.JL ho hun hok hbare (λb z=>absurd z (by simp))
     exact hq2 pins _ _ ⟨ea,some T,C,σ,H',rfl,hmc,I2,λb o q _=>sm2 b o (sm b o q),hea,λhex=>qL I1 hex heo,fl,(λt zt=>by cases zt;exact⟨hT,λhex=>qL I1 hex hTo⟩),λpp hpp=>⟨λzz=>(by have:=(I1.pin pp hpp).1;rw[zz,heo]at this;cases this),λzz=>(by cases zz;have:=(I1.pin pp hpp).1;rw[hTo]at this;cases this)⟩⟩
    ·cases r with
     | error ev=>exact hq
     | ok fl=>exact hq.elim
def DE (X:Cx)(g:T->En->Rs En):TG:=λv σ H Q=> ∃Z O M t,EnvM X.K O M H Z σ/\Rep X.K O H t v/\match g t Z with
 | .ok Z'=> ∀σ',EnvM X.K O M H Z' σ'->Q σ' H
 | _=>False
abbrev Eb (X:Cx)(tg:Expr)(g:T->En->Rs En):Prop:=PG X tg (DE X g)
def tPGs (X:Cx)(g:List T->En->Rs En):Dx:=λvs σ H Q=> ∃Z O M ts,EnvM X.K O M H Z σ/\Reps X.K O H ts vs/\match g ts Z with
 | .ok Z'=> ∀σ',EnvM X.K O M H Z' σ'->Q σ' H
 | _=>False
abbrev Bm (X:Cx)(tg:List Expr)(g:List T->En->Rs En):Prop:=PGs X tg (tPGs X g)
theorem PG.imp {X:Cx}{e:Expr}{t t':TG}(h:PG X e t)(w:∀v σ H Q,t' v σ H Q->t v σ H Q):PG X e t':=λpins s σ H v u Q I r q=>h pins s σ H v u Q I r (w v σ H Q q)
theorem PGs.imp {X:Cx}{e:List Expr}{t t':Dx}(h:PGs X e t)(w:∀v σ H Q,t' v σ H Q->t v σ H Q):PGs X e t':=λpins s σ H v u Q I r q=>h pins s σ H v u Q I r (w v σ H Q q)
def gN (i:Nat)(t:T)(Z:En):Rs En:=if i<Z.length then .ok (Z.set i (.va t))else .bad
theorem EnvM.set {K:J6}{O:Ow}{M:Mn}{H:Hp}{Z:En}{σ:L2.St}{i:Nat}{t:T}{v:V}(E:EnvM K O M H Z σ)(hi:i<Z.length)(r:Rep K O H t v):EnvM K O M H (Z.set i (.va t)) (σ.set i (some v)) where
 len:=by rw[LL,LL];exact E.len
 val:=λj u e=>by
  by_cases hj:i=j
  ·subst hj
   rw[KP hi]at e
   cases e;exact⟨v,KP (by rw[<-E.len];exact hi),r⟩
  ·rw[KN hj]at e
   obtain⟨w,e1,e2⟩:=E.val j u e;exact⟨w,by rw[KN hj];exact e1,e2⟩
 own:=λj o e=>by
  by_cases hj:i=j
  ·subst hj
   rw[KP hi]at e
   cases e
  ·rw[KN hj]at e
   obtain⟨w,e1,e2⟩:=E.own j o e;exact⟨w,by rw[KN hj];exact e1,e2⟩
 sub:=E.sub
 dis:=E.dis
 trk:=E.trk
theorem Ci (i:Nat)(hN:X.N.Nodup)(hi:X.N[i]? =some x:=by rfl)(hx:Loc X.env.scope x:=by first | exact MU rfl | exact Ma rfl)(hf:X.fn x=true\/X.env.scope.names.lookup x=some .local:=by first | exact .inl rfl | exact .inr rfl | assumption):Eb X (.Name x pos) (gN i):=
 PG.imp (CA hN hi hx hf) λv σ H Q hh_=>by
  obtain⟨Z,O,M,t,E,r,h⟩:=hh_;unfold gN at h
  split at h
  ·rename_i Z' e
   split at e
   ·rename_i hl
    cases e;exact h _ (E.set hl r)
   ·cases e
  ·exact h.elim
def C9 (ts:List T)(Z:En):Rs En:=match ts with
 | [] => .ok Z
 | _=> .bad
def u7 (g:T->En->Rs En)(gs:List T->En->Rs En)(ts:List T)(Z:En):Rs En:=match ts with
 | t::r=>do
  let Z1 <-g t Z
  gs r Z1
 | [] => .bad
theorem Cg:Bm X [] C9:=PGs.imp Cz λvs σ H Q hh_=>by
 obtain⟨Z,O,M,ts,E,r,h⟩:=hh_;unfold C9 at h
 cases ts with
 | nil=>exact⟨Reps.Da.mp r,h σ E⟩
 | cons _ _=>exact h.elim
theorem zk {g:T->En->Rs En}{gs:List T->En->Rs En}(h1:Eb X e g)(h2:Bm X es gs)
  (hs:(LY (e::es) X.env).map (·.2)=assign e X.env::(LY es X.env).map (·.2):=by rfl):Bm X (e::es) (u7 g gs):=
 PGs.imp (zB h1 h2 hs) λvs σ H Q hh_=>by
  obtain⟨Z,O,M,ts,E,r,h⟩:=hh_
  cases ts with
  | nil=>exact h.elim
  | cons t ts=>
   obtain⟨v,ws,rfl,p,q⟩:=Reps.me.mp r;refine⟨v,ws,rfl,Z,O,M,t,E,p,?_⟩
   unfold u7 at h
   cases e1:g t Z with
   | bad=>simp[e1]at h
   | err c=>simp[e1]at h
   | ok Z1=>
    intro σ1 E1;refine⟨Z1,O,M,ts,E1,q,?_⟩
    simp only[e1,aF]at h
    cases e2:gs ts Z1 with
    | bad=>simp[e2]at h
    | err c=>simp[e2]at h
    | ok Z2=>
     simp only[e2]at h;exact λσ2 E2=>h σ2 E2
def gT (n:Nat)(gs:List T->En->Rs En)(t:T)(Z:En):Rs En:=match t with
 | .tup l=>if l.length=n then gs l Z else .bad
 | _=> .bad
theorem EY {k n:Nat}{gs:List T->En->Rs En}(hc:X.calm=true)(h:Bm X es gs)(hn:(LY es X.env).length=n:=by rfl)(hst:(LY es X.env).findIdx? (·.1)=none:=by rfl):Eb X (.Tuple es k pos) (gT n gs):=
 PG.imp (Fj hc h hn hst) λv σ H Q hh_=>by
  obtain⟨Z,O,M,t,E,r,h⟩:=hh_;unfold gT at h
  cases t with
  | tup l=>
   obtain⟨a,vs,rfl,n',q,z⟩:=Rep.Fk.mp r
   by_cases hl:l.length=n
   ·simp only[if_pos hl]at h
    exact⟨a,vs,rfl,SqT.of q,by rw[<-z.length];exact hl,Z,O,M,l,E,z,h⟩
   ·simp only[if_neg hl]at h
  | _=>exact h.elim
theorem SqL.nn {K:J6}{H:Hp}{a:Addr}{vs:List V}(q:SqL K H a vs):¬ Nw K H a:=λ⟨h1,h2⟩=>by
 rcases q with(q | ⟨o,q⟩) | ⟨o,_,_,q,_⟩
 ·rw[h1]at q;cases q
 ·rw[h1]at q;cases q
 ·rw[h2]at q;cases q
mutual
theorem Rep.more {K:J6}{O O':Ow}{H:Hp}(sub:∀a,O' a->O a\/Nw K H a):∀{t:T} {v:V},Rep K O H t v->Rep K O' H t v
 | .non,_,r=>by unfold Rep at r ⊢;exact r
 | .bl _,_,r=>by unfold Rep at r ⊢;exact r
 | .int _,_,r=>by unfold Rep at r ⊢;exact r
 | .str _,_,r=>by unfold Rep at r ⊢;exact r
 | .tup l,_,r=>by
  unfold Rep at r ⊢;obtain⟨a,vs,e,n,q,z⟩:=r
  exact⟨a,vs,e,λp=>(sub a p).elim n λw=>(by rw[w.1]at q;cases q),q,Reps.more sub z⟩
 | .lst l,_,r=>by
  unfold Rep at r ⊢;obtain⟨a,vs,e,n,q,z⟩:=r
  exact⟨a,vs,e,λp=>(sub a p).elim n λw=>(by rw[w.1]at q;cases q),q,Reps.more sub z⟩
 | .scr l,_,r=>by
  unfold Rep at r ⊢;obtain⟨a,e,n,q⟩:=r
  exact⟨a,e,λp=>(sub a p).elim n λw=>Tr.SqL.nn q w,q⟩
 | .dct ks ts,_,r=>by
  unfold Rep at r ⊢;obtain⟨a,kvs,e,n,q,k,z⟩:=r;exact⟨a,kvs,e,λp=>(sub a p).elim n λw=>(by rcases q with q | ⟨_,q⟩ <;> rw[w.1]at q <;> cases q),q,k,Reps.more sub z⟩
theorem Reps.more {K:J6}{O O':Ow}{H:Hp}(sub:∀a,O' a->O a\/Nw K H a):∀{l:List T} {vs:List V},Reps K O H l vs->Reps K O' H l vs
 | [],_,r=>by unfold Reps at r ⊢;exact r
 | t::l,_,r=>by
  unfold Reps at r ⊢;obtain⟨v,ws,e,p,q⟩:=r;exact⟨v,ws,e,Rep.more sub p,Reps.more sub q⟩
end
theorem Rep.move {K:J6}{O O' P:Ow}{H H':Hp}{t:T}{v:V}(hP:∀a,P a->O a\/Nw K H a)(hO:∀a,O' a->O a\/Nw K H a)(h:SameO P H H')(r:Rep K O H t v):Rep K O' H' t v:=
 Rep.less (O:=λa=>O' a\/P a) (λ_ z=> .inl z) (Rep.keep h (λ_ z=> .inr z) (Rep.more (λa z=>z.elim (hO a) (hP a)) r))
theorem Reps.move {K:J6}{O O' P:Ow}{H H':Hp}{t:List T}{v:List V}(hP:∀a,P a->O a\/Nw K H a)(hO:∀a,O' a->O a\/Nw K H a)(h:SameO P H H')(r:Reps K O H t v):Reps K O' H' t v:=
 Reps.less (O:=λa=>O' a\/P a) (λ_ z=> .inl z) (Reps.keep h (λ_ z=> .inr z) (Reps.more (λa z=>z.elim (hO a) (hP a)) r))
def ItT (K:J6)(O:Ow)(H:Hp)(ts:List T)(J:It):Prop:=∀(P O':Ow),(∀a,P a->O a\/Nw K H a)->(∀a,O' a->O a\/Nw K H a)->∀(i:Nat) (Hc:Hp),SameO P H Hc->(∀a,O' a->∃o,Hc a=some o) →
 (ts.length<=i->J.stop i Hc)/\(∀t,ts[i]? =some t->J.go i Hc/\∀x Hc',J.yld i Hc x Hc'->Same Hc Hc'/\Rep K O' Hc' t x)
def tPI (X:Cx)(f:En->Rs (List T)):TI:=λσ H R=> ∃Z O,EnvO X.K O H Z σ/\Post X H (f Z) λts H'=> ∀J,ItT X.K O H' ts J->R J H'
abbrev By (X:Cx)(tg iter:Expr)(f:En->Rs (List T)):Prop:=PI X tg iter (tPI X f)
theorem PI.imp {tg iter:Expr}{t t':TI}(h:PI X tg iter t)(w:∀σ H R,t' σ H R->t σ H R):PI X tg iter t':=λpins s σ H R I q=>h pins s σ H R I (w σ H R q)
def iL (f:En->Rs T)(Z:En):Rs (List T):=do
 let x <-f Z
 match x with
 | .lst l=> .ok l
 | _=> .bad
def iT (f:En->Rs T)(Z:En):Rs (List T):=do
 let x <-f Z
 match x with
 | .tup l=> .ok l
 | _=> .bad
theorem vN {tg:Expr}(ha:cj X a fa):By X tg a (iL fa):=PI.imp (Cw ha) λσ H R hh_=>by
 obtain⟨Z,O,E,h⟩:=hh_;obtain⟨Z1,O1,E1,h1⟩:=aS E h;refine⟨Z1,O1,E1,Post.mono h1 λts H1 s1 q vs r=> ?_⟩
 obtain⟨t',r',s',E',q'⟩:=q vs r
 split at q'
 ·rename_i l
  obtain⟨a,ws,rfl,n,q,z⟩:=Rep.Do.mp r';refine⟨a,rfl,⟨ws,SqL.of q⟩,q' H1 (Same.refl H1) _ λP O' hP hO i Hc hs ht=> ?_⟩
  have hnP:¬ P a:=λz=>(hP a z).elim n λw=>by rw[w.1]at q;cases q
  refine⟨λhi=>⟨ws,SqL.of (hs _ _ q hnP),by rw[<-z.length];exact hi⟩,λt ht'=> ?_⟩
  obtain⟨v,e1,e2⟩:=z.get ht';refine⟨⟨ws,v,SqL.of (hs _ _ q hnP),e1⟩,λx Hc' y=> ?_⟩
  obtain⟨e,y⟩:=y;subst e
  have:=y ws (SqL.of (hs _ _ q hnP));rw[e1]at this;cases this;exact⟨Same.refl _,e2.move hP hO hs⟩
 ·exact q'.elim
theorem EW {tg:Expr}(ha:cj X a fa):By X tg a (iT fa):=PI.imp (Fi ha) λσ H R hh_=>by
 obtain⟨Z,O,E,h⟩:=hh_;obtain⟨Z1,O1,E1,h1⟩:=aS E h;refine⟨Z1,O1,E1,Post.mono h1 λts H1 s1 q vs r=> ?_⟩
 obtain⟨t',r',s',E',q'⟩:=q vs r
 split at q'
 ·rename_i l
  obtain⟨a,ws,rfl,n,q,z⟩:=Rep.Fk.mp r';refine⟨a,rfl,⟨ws,SqT.of q⟩,q' H1 (Same.refl H1) _ λP O' hP hO i Hc hs ht=> ?_⟩
  have hnP:¬ P a:=λz=>(hP a z).elim n λw=>by rw[w.1]at q;cases q
  refine⟨λhi=>⟨ws,SqT.of (hs _ _ q hnP),by rw[<-z.length];exact hi⟩,λt ht'=> ?_⟩
  obtain⟨v,e1,e2⟩:=z.get ht';refine⟨⟨ws,v,SqT.of (hs _ _ q hnP),e1⟩,λx Hc' y=> ?_⟩
  obtain⟨e,y⟩:=y;subst e
  have:=y ws (SqT.of (hs _ _ q hnP));rw[e1]at this;cases this;exact⟨Same.refl _,e2.move hP hO hs⟩
 ·exact q'.elim
def rng (lo hi:Int):List T:=(J7 (hi - lo).toNat).map λ(k:Nat)=>T.int (lo+(k:Int))
def nu (i:Int):Bool:=decide (-(2 ^ 62)<=i)&&decide (i<2 ^ 62)
def iR (f:En->Rs (List T))(Z:En):Rs (List T):=do
 let x <-f Z
 match x with
 | [.int j] =>if nu j then .ok (rng 0 j)else .bad
 | [.int i,.int j] =>if nu i&&nu j then .ok (rng i j)else .bad
 | _=> .bad
theorem eY {i:Int}(h:nu i=true) : -(2 ^ 62)<=i/\i<2 ^ 62:=by
 unfold nu at h;rw[J9]at h;exact⟨of_decide_eq_true h.1,of_decide_eq_true h.2⟩
theorem lP {K:J6}{O:Ow}{H:Hp}(lo hi:Int):ItT K O H (rng lo hi) (Itr lo (hi - lo).toNat):=λP O' hP hO i Hc hs ht=>by
 refine⟨λh=> ?_,λt h=> ?_⟩
 ·show(hi - lo).toNat<=i
  unfold rng at h;rw[Kh,Ld]at h;exact h
 ·unfold rng at h
  rw[Kv]at h
  by_cases hi':i<(hi - lo).toNat
  ·rw[Mh hi']at h
   cases h;refine⟨hi',λx Hc' y=> ?_⟩
   obtain⟨e,y⟩:=y;subst e y;exact⟨Same.refl _,Rep.GE _⟩
  ·rw[Lv (by simpa using hi')]at h
   cases h
theorem xC {tg:Expr}(hm:X.mg "range" =none)(ha:oy X [a] fs)(hg:Gl X "range":=by rfl)(hs:Kx [a] X.env= [(false,eval a X.env)]:=by rfl):By X tg (.Call (.Name "range" p) [a] [] pos) (iR fs):=by
 intro pins s σ H R I ⟨Z,O,E,h⟩
 have h1:=da E h;refine Call_ (d4 I hg hm boot_range (K2 (bX (ha pos pins s σ H _ I h1) λus s1 ⟨vs,H1,I1,r1,ts,rs,s',E',q1⟩=> ?_) hs rfl))
 split at q1
 ·obtain⟨v,rfl,r⟩:=rs.one
  split at q1
  ·rename_i j hj
   obtain⟨b1,b2⟩:=eY hj;cases Rep.AC.mp r
   cases r1 with
   | cons r rr=>
    cases rr;obtain⟨t,rfl⟩:=r;exact Sf (jV I1 (by omega) (by omega) b1 b2 (q1 H1 (Same.refl H1) _ (lP 0 j)))
  ·exact q1.elim
 ·obtain⟨v,ws,rfl,p1,q⟩:=Reps.me.mp rs
  obtain⟨v2,rfl,r⟩:=q.one
  split at q1
  ·rename_i i j hj
   rw[J9]at hj;obtain⟨b1,b2⟩:=eY hj.1;obtain⟨b3,b4⟩:=eY hj.2;cases Rep.AC.mp p1;cases Rep.AC.mp r
   cases r1 with
   | cons r rr=>
    cases rr with
    | cons r' rr=>
     cases rr;obtain⟨t,rfl⟩:=r;obtain⟨t',rfl⟩:=r';exact Sg (jV I1 b1 b2 b3 b4 (q1 H1 (Same.refl H1) _ (lP i j)))
  ·exact q1.elim
 ·exact q1.elim
theorem xA {tg:Expr}(hm:X.mg "range" =none)(ha:oy X [a,b] fs)(hg:Gl X "range":=by rfl)(hs:Kx [a,b] X.env= [(false,eval a X.env),(false,eval b X.env)]:=by rfl)(hs2:Kx [b] X.env= [(false,eval b X.env)]:=by rfl) :
  By X tg (.Call (.Name "range" p) [a,b] [] pos) (iR fs):=by
 intro pins s σ H R I ⟨Z,O,E,h⟩
 have h1:=da E h;refine Call_ (d4 I hg hm boot_range (K2 (bX (ha pos pins s σ H _ I h1) λus s1 ⟨vs,H1,I1,r1,ts,rs,s',E',q1⟩=> ?_) (by rw[hs,hs2]) (by rw[hs2];rfl)))
 split at q1
 ·obtain⟨v,rfl,r⟩:=rs.one
  split at q1
  ·rename_i j hj
   obtain⟨b1,b2⟩:=eY hj;cases Rep.AC.mp r
   cases r1 with
   | cons r rr=>
    cases rr;obtain⟨t,rfl⟩:=r;exact Sf (jV I1 (by omega) (by omega) b1 b2 (q1 H1 (Same.refl H1) _ (lP 0 j)))
  ·exact q1.elim
 ·obtain⟨v,ws,rfl,p1,q⟩:=Reps.me.mp rs
  obtain⟨v2,rfl,r⟩:=q.one
  split at q1
  ·rename_i i j hj
   rw[J9]at hj;obtain⟨b1,b2⟩:=eY hj.1;obtain⟨b3,b4⟩:=eY hj.2;cases Rep.AC.mp p1;cases Rep.AC.mp r
   cases r1 with
   | cons r rr=>
    cases rr with
    | cons r' rr=>
     cases rr;obtain⟨t,rfl⟩:=r;obtain⟨t',rfl⟩:=r';exact Sg (jV I1 b1 b2 b3 b4 (q1 H1 (Same.refl H1) _ (lP i j)))
  ·exact q1.elim
 ·exact q1.elim
end
section
variable {X:Cx}{a b c e:Expr}{es:List Expr}{fa fb fc:En->Rs T}{fs:En->Rs (List T)}{pos p p2:Pos}{x:Str}
def cb (src:List (Option Nat))(Z:En):En:=src.map λo=>match o with
 | some i=>match Z[i]? with
  | some (.va t)=> .va t
  | _=> .em
 | none=> .em
def c9 (tgt:T->En->Rs En)(fc:En->Rs Bool)(fe:En->Rs T):List T->En->Rs (List T)
 | [],_=> .ok []
 | t::r,Z=>do
  let Z1 <-tgt t Z
  let k <-fc Z1
  if k then do
   let y <-fe Z1
   let ys <-c9 tgt fc fe r Z1
   .ok (y::ys)
  else c9 tgt fc fe r Z1
def eO (fi:En->Rs (List T))(src:List (Option Nat))(tgt:T->En->Rs En)(fc:En->Rs Bool)(fe:En->Rs T)(Z:En):Rs T:=do
 let ts <-fi Z
 if ts.length<=sizeLine then match c9 tgt fc fe ts (cb src Z)with
  | .ok ys=> .ok (.lst ys)
  | _=> .bad
 else .bad
def bT (_:En):Rs Bool:=.ok true
def tP0 (K:J6)(f:En->Rs T):TE:=λσ H Q=> ∃Z O,EnvO K O H Z σ/\match f Z with
 | .ok t=> ∀H',Same H H'->∀v,Rep K O H' t v->Q v H'
 | _=>False
def tPT0 (K:J6)(f:En->Rs Bool):TT:=λσ H Q=> ∃Z O,EnvO K O H Z σ/\match f Z with
 | .ok t=> ∀H',Same H H'->Q t H'
 | _=>False
theorem tP0.up {f:En->Rs T}{σ:L2.St}{H:Hp}{Q:VK}(h:tP0 X.K f σ H Q):tP X f σ H Q:=by
 obtain⟨Z,O,E,h⟩:=h;refine⟨Z,O,E,?_⟩
 cases q:f Z with
 | ok t=>rw[q]at h;exact h
 | err c=>rw[q]at h;exact h.elim
 | bad=>rw[q]at h;exact h.elim
theorem tPT0.up {f:En->Rs Bool}{σ:L2.St}{H:Hp}{Q:Bool->Hp->Prop}(h:tPT0 X.K f σ H Q):yU X f σ H Q:=by
 obtain⟨Z,O,E,h⟩:=h;refine⟨Z,O,E,?_⟩
 cases q:f Z with
 | ok t=>rw[q]at h;exact h
 | err c=>rw[q]at h;exact h.elim
 | bad=>rw[q]at h;exact h.elim
theorem Ce:yD X [] (yU X bT):=λpins s σ H Q I ⟨Z,O,E,h⟩=>Cv pins s σ H Q I (h H (Same.refl H))
theorem Cd {f:En->Rs Bool}(h:vm X c f):yD X [c] (yU X f):=Cu h
abbrev noM:Mn:=λ_ _=>False
theorem xT {src:List (Option Nat)}{Z:En}{j:Nat}{o:OT}(e:(cb src Z)[j]? =some (.ow o)):False:=by
 unfold cb at e;rw[Kv]at e
 cases q:src[j]? with
 | none=>rw[q]at e;cases e
 | some o'=>
  rw[q]at e
  cases o' with
  | none=>cases e
  | some i=>
   have e':(match Z[i]? with | some (Sl.va t)=>Sl.va t | _=>Sl.em)=Sl.ow o:=KO e
   split at e' <;> cases e'
theorem Ae {K:J6}{O:Ow}{H:Hp}{Z:En}{σ:L2.St}(E:EnvO K O H Z σ)(src:List (Option Nat)):EnvM K O noM H (cb src Z) (eV src σ) where
 len:=by unfold cb eV;rw[Kh,Kh]
 val:=λj t e=>by
  unfold cb at e;unfold eV;rw[Kv]at e ⊢
  cases q:src[j]? with
  | none=>rw[q]at e;cases e
  | some o=>
   rw[q]at e
   cases o with
   | none=>cases e
   | some i=>
    have e':(match Z[i]? with | some (Sl.va t)=>Sl.va t | _=>Sl.em)=Sl.va t:=KO e
    cases q2:Z[i]? with
    | none=>rw[q2]at e';cases e'
    | some z=>
     rw[q2]at e'
     cases z with
     | em=>cases e'
     | ow l=>cases e'
     | va t'=>
      cases e';obtain⟨v,e1,e2⟩:=E.val i _ q2;exact⟨v,by simp[e1],e2⟩
 own:=λj o e=>(xT e).elim
 sub:=λ_ _ z=>z.elim
 dis:=λ_ _ _ z=>z.elim
 trk:=E.mtb
theorem ORep.no {K:J6}{O:Ow}{H:Hp}{o:OT}{v:V}(r:ORep K O vW H o v):False:=by
 cases o with
 | lst l=>obtain⟨a,_,_,e,_⟩:=r;exact(e a).mpr rfl
 | dct ks ts=>obtain⟨a,_,_,e,_⟩:=r;exact(e a).mpr rfl
 | dd ks rows=>obtain⟨a,_,_,_,e,_⟩:=r;exact(e a).mpr (.inl rfl)
theorem EnvM.move {K:J6}{O O' P:Ow}{H H':Hp}{Z:En}{σ:L2.St}(E:EnvM K O noM H Z σ)(hP:∀a,P a->O a\/Nw K H a)(hO:∀a,O' a->O a\/Nw K H a)(h:SameO P H H')(trk:∀a,O' a->Mtb H' a):EnvM K O' noM H' Z σ where
 len:=E.len
 val:=λi t e=>let ⟨v,e1,e2⟩:=E.val i t e;⟨v,e1,e2.move hP hO h⟩
 own:=λi o e=>let ⟨_,_,r⟩:=E.own i o e;r.no.elim
 sub:=λ_ _ z=>z.elim
 dis:=λ_ _ _ z=>z.elim
 trk:=trk
def GR (fi:En->Rs (List T))(src:List (Option Nat))(tgt:T->En->Rs En)(fc:En->Rs Bool)(fe:En->Rs T)(Z:En):Rs (List T):=fi Z >>= λts=>if ts.length<=sizeLine then(match c9 tgt fc fe ts (cb src Z)with | .ok ys=>Rs.ok ys | _=> .bad)else .bad
theorem Ad {src:List (Option Nat)}{fi:En->Rs (List T)}{tgt:T->En->Rs En}{fc:En->Rs Bool}{fe:En->Rs T}{Z:En}:eO fi src tgt fc fe Z=GR fi src tgt fc fe Z >>= λl=> .ok (.lst l):=by
 unfold eO GR
 cases fi Z with
 | bad=>rfl
 | err c=>rfl
 | ok ts=>
  rw[aF,aF]
  by_cases hz:ts.length<=sizeLine
  ·rw[if_pos hz,if_pos hz]
   cases c9 tgt fc fe ts (cb src Z) <;> rfl
  ·rw[if_neg hz,if_neg hz];rfl
theorem Ac {src:List (Option Nat)}{fi:En->Rs (List T)}{tgt:T->En->Rs En}{fc:En->Rs Bool}{fe:En->Rs T}{σ:L2.St}{H:Hp}{Q:VK}{Z:En}{O:Ow}(E:EnvO X.K O H Z σ)
  (hq1:Post X H (GR fi src tgt fc fe Z) λall H1=> ∀D ys H',Nw X.K H1 D->Same H1 H'->H' D=some (.lst ys)->Reps X.K (λa=>O a\/a=D) H' all ys->Q (.ref D) H'):G1 X.K (tPI X fi) src (DE X tgt) (tPT0 X.K fc) (tP0 X.K fe) σ H Q:=by
 unfold GR at hq1;refine⟨Z,O,E,Post.mono hq1.bind λts H1 s1 q1 J hJ D hD hK=> ?_⟩
 have E1:=E.same s1
 by_cases hz:ts.length<=sizeLine
 ·rw[if_pos hz]at q1
  cases hall:c9 tgt fc fe ts (cb src Z)with
  | bad=>rw[hall]at q1;exact q1.elim
  | err c=>rw[hall]at q1;exact q1.elim
  | ok all=>
   rw[hall]at q1
   have q2:∀D ys H',Nw X.K H1 D->Same H1 H'->H' D=some (.lst ys)->Reps X.K (λa=>O a\/a=D) H' all ys->Q (.ref D) H':=q1 H1 (Same.refl H1)
   have nD:Nw X.K H1 D:=⟨hD,hK⟩
   let O':Ow:=λa=>O a\/a=D
   have subO:∀a,O' a->O a\/Nw X.K H1 a:=λa z=>z.elim .inl λw=> .inr (w▸nD)
   -- the walk's word
   refine⟨λi m σ' ys H'=>m=ts.length - i/\i<=ts.length/\ys.length<=i/\H' D=some (.lst ys)/\SameO (λa=>a=D) (upd H1 D (.lst [])) H' ∧
    ∃Z' yts zs,EnvM X.K O' noM H' Z' σ'/\Reps X.K O' H' yts ys/\c9 tgt fc fe (ts.drop i) Z'= .ok zs/\yts++zs=all,⟨ts.length,?_⟩,?_⟩
   ·have sN:Same H1 (upd H1 D (.lst [])):=aN hD _
    refine⟨by omega,K3 _,Ki _,aT,λb o e _=>e,cb src Z,[],all,?_,Reps.GT,by simpa using hall,rfl⟩
    have E2:EnvM X.K O noM H1 (cb src Z) (eV src σ):=Ae E1 src
    exact E2.move (P:=λa=>a=D) (λa z=> .inr (z▸nD)) subO (λb o e _=>sN b o e) λa z=>by
     rcases z with z | z
     ·exact(E1.mtb a z).same sN
     ·rw[z];exact .inl ⟨_,aT⟩
   ·rintro i m σ' ys H' ⟨rfl,hi',hyl,hDl,hsm,Z',yts,zs,E',ry,hl,hyz⟩
    refine⟨hDl,?_⟩
    have sm1:SameO (λa=>a=D) H1 H':=λb o e nb=>hsm b o (by rw[aJ nb];exact e) nb
    have it:=hJ (λa=>a=D) O' (λa z=> .inr (z▸nD)) subO i H' sm1 (λa z=>(E'.trk a z).some)
    by_cases hlt:i<ts.length
    ·refine .inr ?_
     have hti:ts[i]? =some ts[i]:=by simp
     obtain⟨go,yl⟩:=it.2 ts[i] hti;refine⟨go,by omega,λxx Hc y=> ?_⟩
     obtain⟨sc,rx⟩:=yl xx Hc y
     have Ec:=E'.same sc;rw[LG hlt]at hl;unfold c9 at hl;refine⟨Z',O',noM,ts[i],Ec,rx,?_⟩
     cases e1:tgt ts[i] Z' with
     | bad=>rw[e1]at hl;cases hl
     | err cc=>rw[e1]at hl;cases hl
     | ok Z1=>
      rw[e1,aF]at hl;intro σ1 Eg;refine⟨Z1,O',⟨noM,Eg⟩,?_⟩
      cases e2:fc Z1 with
      | bad=>rw[e2]at hl;cases hl
      | err cc=>rw[e2]at hl;cases hl
      | ok k=>
       rw[e2,aF]at hl;intro H3 s3
       have E3:=Eg.same s3
       have tot:Same H' H3:=sc.trans s3
       have D3:H3 D=some (.lst ys):=tot _ _ hDl
       have sm3:SameO (λa=>a=D) (upd H1 D (.lst [])) H3:=λb o e nb=>tot _ _ (hsm b o e nb)
       cases k with
       | false=>
        refine L2.iteF ?_
        have hl':c9 tgt fc fe (ts.drop (i+1)) Z1= .ok zs:=by simpa using hl
        exact⟨ts.length - (i+1),by omega,rfl,hlt,by omega,D3,sm3,Z1,yts,zs,E3,ry.same tot,hl',hyz⟩
       | true=>
        refine L2.iteT ?_
        have hl':(fe Z1 >>= λy=>c9 tgt fc fe (ts.drop (i+1)) Z1 >>= λys=>Rs.ok (y::ys))= .ok zs:=by simpa using hl
        refine⟨Z1,O',⟨noM,E3⟩,?_⟩
        cases e3:fe Z1 with
        | bad=>rw[e3]at hl';cases hl'
        | err cc=>rw[e3]at hl';cases hl'
        | ok yt=>
         rw[e3,aF]at hl'
         cases e4:c9 tgt fc fe (ts.drop (i+1)) Z1 with
         | bad=>rw[e4]at hl';cases hl'
         | err cc=>rw[e4]at hl';cases hl'
         | ok zs'=>
          rw[e4,aF]at hl'
          have hzs:yt::zs'=zs:=by injection hl'
          intro H4 s4 v rv
          have D4:H4 D=some (.lst ys):=s4 _ _ D3
          have E4:=E3.same s4
          have tot4:Same H' H4:=tot.trans s4
          have smD:SameO (λa=>a=D) H4 (upd H4 D (.lst (ys++ [v]))):=λb o e nb=>by rw[aJ nb];exact e
          have inO:∀a,a=D->O' a\/Nw X.K H4 a:=λa z=> .inl (.inr z)
          refine⟨D4,ts.length - (i+1),by omega,rfl,hlt,?_,aT,λb o e nb=>smD b o (s4 _ _ (sm3 b o e nb)) nb,Z1,yts++ [yt],zs',?_,?_,e4,?_⟩
          ·rw[Kw,N9];omega
          ·exact E4.move inO (λa z=> .inl z) smD λaa z=>by
            by_cases hz:aa=D
            ·rw[hz];exact .inl ⟨_,aT⟩
            ·unfold Mtb;rw[aJ hz];exact E4.trk aa z
          ·have r1:Reps X.K O' H4 (yts++ [yt]) (ys++ [v]):=(ry.same tot4).append (Reps.FS rv Reps.GT)
           exact r1.move inO (λa z=> .inl z) smD
          ·rw[Lx,Qj,hzs];exact hyz
    ·refine .inl ⟨it.1 (by omega),?_⟩
     have hi2:i=ts.length:=by omega
     subst hi2;rw[Sq]at hl
     have hzs:zs= []:=by unfold c9 at hl;injection hl with hl;exact hl.symm
     subst hzs;rw[LJ]at hyz;subst hyz
     have sF:Same H1 H':=λb o e=>sm1 b o e λz=>by rw[z,hD]at e;cases e
     exact q2 D ys H' nD sF hDl ry
 ·rw[if_neg hz]at q1
  exact q1.elim
theorem we {src:List (Option Nat)}{fi:En->Rs (List T)}{tgt:T->En->Rs En}{fc:En->Rs Bool}{fe:En->Rs T}{σ:L2.St}{H:Hp}{Q:VK}(h0:tP X (eO fi src tgt fc fe) σ H Q):G1 X.K (tPI X fi) src (DE X tgt) (tPT0 X.K fc) (tP0 X.K fe) σ H Q:=by
 obtain⟨Z,O,E,hq⟩:=h0;refine Ac E ?_
 have e:eO fi src tgt fc fe Z=GR fi src tgt fc fe Z >>= λl=> .ok (.lst l):=Ad
 rw[e]at hq
 cases q:GR fi src tgt fc fe Z with
 | bad=>rw[q]at hq;exact hq.elim
 | err c=>rw[q]at hq;exact hq
 | ok l=>
  rw[q,aF]at hq;intro H1 s1 D ys H' nD sD eD rD;exact hq H' (s1.trans sD) _ (Rep.Do.mpr ⟨D,ys,rfl,λz=>(E.same s1).fresh nD.1 z,eD,rD.less λa z=> .inl z⟩)
theorem q_lc {elt tg iter:Expr}{ifs:List Expr}{scope:NN}{N':List Str}{src:List (Option Nat)}{fi:En->Rs (List T)}{tgt:T->En->Rs En}{fc:En->Rs Bool}{fe:En->Rs T}
  (hc:X.calm=true) (S:LcScope X scope N' src) (hi:By X tg iter fi)
  (block:∀cl C s₀ H₀ fp,Eb (cm X scope cl N' C s₀ H₀ fp) tg tgt/\yD (cm X scope cl N' C s₀ H₀ fp) ifs (yU (cm X scope cl N' C s₀ H₀ fp) fc)/\cj (cm X scope cl N' C s₀ H₀ fp) elt fe)
  (hs:∀x,Lz iter X.env x=pure x:=by intro _;rfl) :
  cj X (.ListComp elt [⟨tg,iter,ifs,0⟩] scope pos) (eO fi src tgt fc fe):=by
 have hPG:∀cl C s₀ H₀ fp,PG (cm X scope cl N' C s₀ H₀ fp) tg (DE X tgt):=λcl C s₀ H₀ fp=>(block cl C s₀ H₀ fp).1
 have hPI:∀cl C s₀ H₀ fp,yD (cm X scope cl N' C s₀ H₀ fp) ifs (tPT0 X.K fc):=λcl C s₀ H₀ fp pins s σ H Q I h=>(block cl C s₀ H₀ fp).2.1 pins s σ H Q I (tPT0.up (X:=cm X scope cl N' C s₀ H₀ fp) h)
 have hPE:∀cl C s₀ H₀ fp,PE (cm X scope cl N' C s₀ H₀ fp) elt (tP0 X.K fe):=λcl C s₀ H₀ fp pins s σ H Q I h=>(block cl C s₀ H₀ fp).2.2 pins s σ H Q I (tP0.up (X:=cm X scope cl N' C s₀ H₀ fp) h)
 exact PE.imp (zD (g:=DE X tgt) (tc:=tPT0 X.K fc) (te:=tP0 X.K fe) hc S hi (λcl C s₀ H₀ fp=>⟨hPG cl C s₀ H₀ fp,hPI cl C s₀ H₀ fp,hPE cl C s₀ H₀ fp⟩) hs) λσ H Q h=>we h
inductive Fl where
 | nx (Z:En) | rt (t:T) | bk (Z:En) | ct (Z:En)
def OO (B:Ow)(M:Mn):Ow:=λa=>B a\/M.u a
structure Ev (K:J6)(B:Ow)(M:Mn)(H:Hp)(Z:En)(σ:L2.St):Prop where
 env:EnvM K (OO B M) M H Z σ
 mine:∀a,M.u a->¬ B a
theorem Ev.same {K:J6}{B:Ow}{M:Mn}{H H':Hp}{Z:En}{σ:L2.St}(h:Same H H')(e:Ev K B M H Z σ):Ev K B M H' Z σ:=⟨e.env.same h,e.mine⟩
theorem Ev.o {K:J6}{B:Ow}{M:Mn}{H:Hp}{Z:En}{σ:L2.St}(e:Ev K B M H Z σ):EnvO K (OO B M) H Z σ:=⟨M,e.env⟩
def PostF (X:Cx)(B P:Ow)(H:Hp)(r:Rs Fl)(D:rH):Prop:=match r with
 | .ok (.nx Z')=> ∀σ' H' M',SameO P H H'->Ev X.K B M' H' Z' σ'->(∀a,M'.u a->P a\/Nw X.K H a)->D.nx σ' H'
 | .ok (.rt t)=> ∀v H',SameO P H H'->Rep X.K B H' t v->D.rt v H'
 | .ok (.bk Z')=> ∀σ' H' M',SameO P H H'->Ev X.K B M' H' Z' σ'->(∀a,M'.u a->P a\/Nw X.K H a)->D.bk σ' H'
 | .ok (.ct Z')=> ∀σ' H' M',SameO P H H'->Ev X.K B M' H' Z' σ'->(∀a,M'.u a->P a\/Nw X.K H a)->D.ct σ' H'
 | .err c=>XA X P H c
 | .bad=>False
def IW (X:Cx)(F:En->Rs Fl):TS:=λD σ H=> ∃Z B M,Ev X.K B M H Z σ/\PostF X B M.u H (F Z) D
abbrev pP (X:Cx)(s:Stmt)(F:En->Rs Fl):Prop:=PS X s (IW X F)
abbrev lD (X:Cx)(s:List Stmt)(F:En->Rs Fl):Prop:=PSs X s (IW X F)
theorem PostF.later {B P P1:Ow}{H H1:Hp}{r:Rs Fl}{D:rH}(h:PostF X B P H r D)(s:SameO P H H1)(sub:∀a,P1 a->P a\/Nw X.K H a):PostF X B P1 H1 r D:=by
 have back:∀a,P1 a\/Nw X.K H1 a->P a\/Nw X.K H a:=λa z=>z.elim (sub a) (gx s)
 cases r with
 | bad=>exact h
 | err c=>exact XA.later h s sub
 | ok f=>
  cases f with
  | nx Z'=>exact λσ' H' M' s' E' o'=>h σ' H' M' (s.trans s' sub) E' λa z=>back a (o' a z)
  | rt t=>exact λv H' s' r=>h v H' (s.trans s' sub) r
  | bk Z'=>exact λσ' H' M' s' E' o'=>h σ' H' M' (s.trans s' sub) E' λa z=>back a (o' a z)
  | ct Z'=>exact λσ' H' M' s' E' o'=>h σ' H' M' (s.trans s' sub) E' λa z=>back a (o' a z)
theorem PostF.xa {B P:Ow}{H:Hp}{c:Str}{D:rH}(h:PostF X B P H (.err c) D):XA X vW H c:=XA.later (P:=P) h (λ_ _ e _=>e) λ_ z=>z.elim
def sN (Z:En):Rs Fl:=.ok (.nx Z)
def ay (F G:En->Rs Fl)(Z:En):Rs Fl:=do
 let f <-F Z
 match f with
 | .nx Z'=>G Z'
 | f=> .ok f
theorem EM:lD X [] sN:=PSs.imp Co λD σ H ⟨Z,B,M,E,h⟩=>h σ H M (λ_ _ e _=>e) E λa z=> .inl z
theorem Ca {st:Stmt}{ck:List Stmt}{F G:En->Rs Fl}(h1:pP X st F)(h2:lD X ck G):lD X (st::ck) (ay F G):=PSs.imp (zr h1 h2) λD σ H hh_=>by
 obtain⟨Z,B,M,E,h⟩:=hh_;refine⟨Z,B,M,E,?_⟩
 unfold ay at h
 cases q:F Z with
 | bad=>rw[q]at h;exact h.elim
 | err c=>rw[q]at h;exact h
 | ok f=>
  rw[q,aF]at h
  cases f with
  | nx Z'=>exact λσ' H' M' s' E' o'=>⟨Z',B,M',E',h.later s' o'⟩
  | rt t=>exact h
  | bk Z'=>exact h
  | ct Z'=>exact h
theorem EL {st:Stmt}{F:En->Rs Fl}(h:pP X st F):lD X [st] F:=Cn h
def aG (f:En->Rs T)(Z:En):Rs Fl:=do
 let t <-f Z
 .ok (.rt t)
theorem EJ (ha:cj X a fa):pP X (.Return (some a) pos) (aG fa):=PS.imp (Fe ha) λD σ H hh_=>by
 obtain⟨Z,B,M,E,h⟩:=hh_;refine⟨Z,OO B M,E.o,?_⟩
 unfold aG at h
 cases q:fa Z with
 | bad=>rw[q]at h;exact h.elim
 | err c=>rw[q]at h;exact PostF.xa h
 | ok t=>
  rw[q,aF]at h;exact λH' s v r=>h v H' (SameO.of s) (r.less λ_ z=> .inl z)
def eG (f:En->Rs Bool)(F G:En->Rs Fl)(Z:En):Rs Fl:=do
 let k <-f Z
 if k then F Z else G Z
theorem Hk {f:En->Rs Bool}{A B:List Stmt}{F G:En->Rs Fl}(hc:vm X c f)(ha:lD X A F)(hb:lD X B G):pP X (.If c A B pos) (eG f F G):=PS.imp (HB hc ha hb) λD σ H hh_=>by
 obtain⟨Z,B,M,E,h⟩:=hh_;refine⟨Z,OO B M,E.o,?_⟩
 unfold eG at h
 cases q:f Z with
 | bad=>rw[q]at h;exact h.elim
 | err c=>rw[q]at h;exact PostF.xa h
 | ok k=>
  rw[q,aF]at h;intro H' s
  have E':Ev X.K B M H' Z σ:=E.same s
  cases k with
  | true=>refine L2.iteT ?_;exact⟨Z,B,M,E',PostF.later (by simpa using h) (SameO.of s) λa z=> .inl z⟩
  | false=>refine L2.iteF ?_;exact⟨Z,B,M,E',PostF.later (by simpa using h) (SameO.of s) λa z=> .inl z⟩
def cz (f:En->Rs T)(g:T->En->Rs En)(Z:En):Rs Fl:=do
 let t <-f Z
 match g t Z with
 | .ok Z'=> .ok (.nx Z')
 | _=> .bad
theorem zc {B:Ow}{M:Mn}{Z:En}{σ:L2.St}{H:Hp}{D:rH}{g:T->En->Rs En}{f:En->Rs T}(E:Ev X.K B M H Z σ)(h:PostF X B M.u H (cz f g Z) D):BM (tP X f) (DE X g) D σ H:=by
 refine⟨Z,OO B M,E.o,?_⟩
 unfold cz at h
 cases q:f Z with
 | bad=>rw[q]at h;exact h.elim
 | err c=>rw[q]at h;exact PostF.xa h
 | ok t=>
  rw[q,aF]at h;intro H' s v r;refine⟨Z,OO B M,M,t,E.env.same s,r,?_⟩
  cases q2:g t Z with
  | bad=>rw[q2]at h;exact h.elim
  | err c=>rw[q2]at h;exact h.elim
  | ok Z'=>
   rw[q2]at h;exact λσ' E'=>h σ' H' M (SameO.of s) ⟨E',E.mine⟩ λa z=> .inl z
theorem BK {f:En->Rs T}{σ:L2.St}{H:Hp}{Q Q':VK}(h:tP X f σ H Q)(w:∀v H',Q v H'->Q' v H'):tP X f σ H Q':=by
 obtain⟨Z,O,E,q⟩:=h;exact⟨Z,O,E,Post.mono q λt H' _ z v r=>w v H' (z v r)⟩
theorem Hj {elt tg iter:Expr}{ifs:List Expr}{scope:NN}{spos py:Pos}{N':List Str}{src:List (Option Nat)}{fi:En->Rs (List T)}{tgt:T->En->Rs En}{fc:En->Rs Bool}{fe:En->Rs T}(i:Nat){y:Str}
  (hc:X.calm=true) (S:LcScope X scope N' src) (hi:By X tg iter fi)
  (block:∀cl C s₀ H₀ fp,Eb (cm X scope cl N' C s₀ H₀ fp) tg tgt/\yD (cm X scope cl N' C s₀ H₀ fp) ifs (yU (cm X scope cl N' C s₀ H₀ fp) fc)/\cj (cm X scope cl N' C s₀ H₀ fp) elt fe)
  (hN:X.N.Nodup) (hiy:X.N[i]? =some y:=by rfl) (hy:Loc X.env.scope y:=by first | exact MU rfl | exact Ma rfl) (hsw:L5 (.ListComp elt [⟨tg,iter,ifs,0⟩] scope pos) (some (.Name y py)) spos.line X.env=pure true:=by rfl)
  (hf:X.fn y=true\/X.env.scope.names.lookup y=some .local:=by first | exact .inl rfl | exact .inr rfl | assumption) (hs:∀x,Lz iter X.env x=pure x:=by intro _;rfl) :
  pP X (.Assign [.Name y py] (.ListComp elt [⟨tg,iter,ifs,0⟩] scope pos) spos) (cz (eO fi src tgt fc fe) (gN i)):=by
 have hPG:∀cl C s₀ H₀ fp,PG (cm X scope cl N' C s₀ H₀ fp) tg (DE X tgt):=λcl C s₀ H₀ fp=>(block cl C s₀ H₀ fp).1
 have hPI:∀cl C s₀ H₀ fp,yD (cm X scope cl N' C s₀ H₀ fp) ifs (tPT0 X.K fc):=λcl C s₀ H₀ fp pins s σ H Q I h=>(block cl C s₀ H₀ fp).2.1 pins s σ H Q I (tPT0.up (X:=cm X scope cl N' C s₀ H₀ fp) h)
 have hPE:∀cl C s₀ H₀ fp,PE (cm X scope cl N' C s₀ H₀ fp) elt (tP0 X.K fe):=λcl C s₀ H₀ fp pins s σ H Q I h=>(block cl C s₀ H₀ fp).2.2 pins s σ H Q I (tP0.up (X:=cm X scope cl N' C s₀ H₀ fp) h)
 refine PS.imp (HA (g:=DE X tgt) (tc:=tPT0 X.K fc) (te:=tP0 X.K fe) (i:=i) hc S hi (λcl C s₀ H₀ fp=>⟨hPG cl C s₀ H₀ fp,hPI cl C s₀ H₀ fp,hPE cl C s₀ H₀ fp⟩) hN hiy hy hsw hf hs) λD σ H ⟨Z,B,M,E,h⟩=>we (BK (zc E h) λv H' z=> ?_)
 obtain⟨Z',O,M',t,E',r,q⟩:=z;unfold gN at q
 split at q
 ·rename_i Z2 e
  split at e
  ·rename_i hl
   cases e;exact q _ (E'.set hl r)
  ·cases e
 ·exact q.elim
theorem EU {tg:Expr}{g:T->En->Rs En}(ha:cj X a fa)(hg:Eb X tg g)(hs:Rw [tg] a pos.line X.env=pure false:=by rfl)(hw:Rx [tg] a X.env=pure none:=by rfl)
  (h1:(LY [tg] X.env).map (·.2)= [assign tg X.env]:=by rfl):pP X (.Assign [tg] a pos) (cz fa g):=PS.imp (Fg ha hg hs hw h1) λD σ H ⟨Z,B,M,E,h⟩=>zc E h
def Br (f:En->Rs T)(Z:En):Rs Fl:=do
 let _ <-f Z
 .ok (.nx Z)
theorem B9 (ha:cj X a fa)(hs:L5 a none pos.line X.env=pure false:=by rfl):pP X (.Expr a pos) (Br fa):=PS.imp (qt ha hs) λD σ H hh_=>by
 obtain⟨Z,B,M,E,h⟩:=hh_;refine⟨Z,OO B M,E.o,?_⟩
 unfold Br at h
 cases q:fa Z with
 | bad=>rw[q]at h;exact h.elim
 | err c=>rw[q]at h;exact PostF.xa h
 | ok t=>
  rw[q,aF]at h;exact λH' s v r=>h σ H' M (SameO.of s) (E.same s) λa z=> .inl z
def bh (g:T->En->Rs En)(F:En->Rs Fl):List T->En->Rs Fl
 | [],Z=> .ok (.nx Z)
 | t::r,Z=>do
  let Z1 <-g t Z
  let f <-F Z1
  match f with
  | .nx Z2=>bh g F r Z2
  | .ct Z2=>bh g F r Z2
  | .bk Z2=> .ok (.nx Z2)
  | .rt t=> .ok (.rt t)
def i8 (fi:En->Rs (List T))(g:T->En->Rs En)(F:En->Rs Fl)(Z:En):Rs Fl:=do
 let ts <-fi Z
 match bh g F ts Z with
 | .ok f=> .ok f
 | _=> .bad
theorem ku {α:Type}{t:Sem α}{Q:α->Kb->Prop}{s:Kb}{E:J8->Kb->Prop}{P:Kz}{w:Lb}{A:KU}(h:wpAny (model P w) A t Q (λ_ _=>False) s):wpAny (model P w) A t Q E s:=Mr h (λ_ _ q=>q) λ_ _ z=>z.elim
theorem Cp {tg iter:Expr}{body:List Stmt}{wi:TI}{g:TG}{tb:TS}{pos:Pos}(hc:X.calm=true)(hi:PI X tg iter wi)(hg:PG X.nox tg g)(hb:PSs X.nox body tb)
  (hs:∀x,Lz iter X.env x=pure x:=by intro _;rfl):PS X (.For tg iter body [] pos) (tFor wi g tb):=by
 intro pins s σ H D I h;refine wpAny_For (bX (hi pins s σ H _ I h) λv s1 h1=>bX h1 λitv s2 h2=> ?_) hs
 obtain⟨it,fp,tn,J,H2,e,I2,T,st2,f2,W,⟨m0,w0⟩,turn⟩:=h2;subst e
 have stat:∀{H':Hp},(∀b∈fp,H' b=none)->∀b∈fp,nX X pins H' b:=λhn b hb=>⟨hn b hb,(f2 b hb).2⟩
 refine codeAny_forLoop_any (λn s'=> ∃i σ' H',Inv X pins σ' H' s'/\tn i s'.heap/\(∀b∈fp,H' b=none)/\W i n σ' H') ?_ m0 ⟨0,σ,H2,I2,st2,λb hb=>(f2 b hb).1,w0⟩
 rintro n s3 ⟨i,σ3,H3,I3,st3,fr3,w3⟩
 rcases turn i n σ3 H3 w3 with⟨stop,qn⟩ | ⟨go,N,hN,step⟩
 ·refine ku (bX (T.done X.nox rfl rfl rfl hc i pins s3 σ3 H3 _ (I3.FM _) (stat fr3) st3 stop) λr s4 ⟨hr,I4⟩=> ?_)
  subst hr;exact OH ⟨σ3,H3,I4.FM _,qn⟩
 ·refine ku (bX (T.item X.nox rfl rfl rfl hc i pins s3 σ3 H3 _ (I3.FM _) (stat fr3) st3 go) λr s4 ⟨u,hr,h4⟩=> ?_)
  subst hr;refine ku (bX h4 λ_ s5 hh_=> ?_)
  obtain⟨x,H5,I5,r5,y5,st5,fr5⟩:=hh_
  have I5':=Inv.pinned (X:=X.nox) I5 (stat fr5) (T.obj _ _ st5);refine ku (bX (hg _ s5 σ3 H5 x u _ I5' r5 (step x H5 y5)) λ_ s6 hh_=> ?_)
  obtain⟨σ6,H6,I6,q6⟩:=hh_;refine ku (bX (hb _ s6 σ6 H6 _ I6 q6) λf s7 q7=> ?_)
  have again:∀{σ7:L2.St} {H7:Hp},Inv X.nox (pins++mn fp s5.heap) σ7 H7 s7->N σ7 H7->∃m,m<n/\∃i σ' H',Inv X pins σ' H' s7/\tn i s7.heap/\(∀b∈fp,H' b=none)/\W i m σ' H':=λ{σ7 H7} I7 n7=>by
   obtain⟨m',hm,w7⟩:=hN σ7 H7 n7;refine⟨m',hm,i+1,σ7,H7,(Inv.Jq (X:=X.nox) I7).FM _,T.keep _ _ _ st5 λb hb o e=>(I7.pin (b,o) (KZ _ (KZ _ (gz hb e)))).1,λb hb=> ?_,w7⟩
   obtain⟨o,e,d⟩:=T.obj _ _ st5 b hb;exact(I7.pin (b,o) (KZ _ (KZ _ (gz hb e)))).2.1
  cases f with
  | next=>obtain⟨σ7,H7,I7,n7⟩:=q7;exact again I7 n7
  | cont=>obtain⟨σ7,H7,I7,n7⟩:=q7;exact again I7 n7
  | brk=>obtain⟨σ7,H7,I7,q7⟩:=q7;exact⟨σ7,H7,(Inv.Jq (X:=X.nox) I7).FM _,q7⟩
  | ret v=>obtain⟨x7,σ7,H7,I7,r7,q7⟩:=q7;exact⟨x7,σ7,H7,(Inv.Jq (X:=X.nox) I7).FM _,r7,q7⟩
theorem EN {tg iter:Expr}{body:List Stmt}{fi:En->Rs (List T)}{g:T->En->Rs En}{F:En->Rs Fl}(hc:X.calm=true)(hi:By X tg iter fi)(hg:Eb X.nox tg g)(hb:lD X.nox body F)
  (hs:∀x,Lz iter X.env x=pure x:=by intro _;rfl):pP X (.For tg iter body [] pos) (i8 fi g F):=PS.imp (Cp hc hi hg hb hs) λD σ H hh_=>by
 obtain⟨Z,B,M,E,h⟩:=hh_;refine⟨Z,OO B M,E.o,?_⟩
 unfold i8 at h
 cases q:fi Z with
 | bad=>rw[q]at h;exact h.elim
 | err c=>rw[q]at h;exact PostF.xa h
 | ok ts=>
  rw[q,aF]at h
  cases qq:bh g F ts Z with
  | bad=>rw[qq]at h;exact h.elim
  | err c=>rw[qq]at h;exact h.elim
  | ok fin=>
  rw[qq]at h;intro H1 s1 J hJ
  have E1:Ev X.K B M H1 Z σ:=E.same s1
  have h1:PostF X B M.u H1 (.ok fin) D:=PostF.later h (SameO.of s1) λa z=> .inl z
  refine⟨λi m σ' H'=>m=ts.length - i/\i<=ts.length/\SameO M.u H1 H'/\∃Z' M',Ev X.K B M' H' Z' σ'/\(∀a,M'.u a->M.u a\/Nw X.K H1 a)/\bh g F (ts.drop i) Z'= .ok fin,
   ⟨ts.length,by omega,K3 _,λ_ _ e _=>e,Z,M,E1,λa z=> .inl z,by simpa using qq⟩,?_⟩
  rintro i m σ' H' ⟨rfl,hi',sm,Z',M',E',ow,hl⟩
  have it:=hJ M.u (OO B M') (λa z=> .inl (.inr z)) (λa z=>z.elim (λw=> .inl (.inl w)) λw=>(ow a w).elim (λy=> .inl (.inr y)) .inr) i H' sm (λa z=>(E'.env.trk a z).some)
  by_cases hlt:i<ts.length
  ·have hti:ts[i]? =some ts[i]:=by simp
   obtain⟨go,yl⟩:=it.2 ts[i] hti;rw[LG hlt]at hl;unfold bh at hl;refine .inr ⟨go,λσ2 H2=> ∃m',m'<ts.length - i/\(m'=ts.length - (i+1)/\i+1<=ts.length/\SameO M.u H1 H2/\∃Z2 M2,Ev X.K B M2 H2 Z2 σ2/\(∀a,M2.u a->M.u a\/Nw X.K H1 a)/\bh g F (ts.drop (i+1)) Z2= .ok fin),λσ2 H2 z=>z,λx Hc y=> ?_⟩
   obtain⟨sc,rx⟩:=yl x Hc y;refine⟨Z',OO B M',M',ts[i],E'.env.same sc,rx,?_⟩
   cases e1:g ts[i] Z' with
   | bad=>rw[e1]at hl;cases hl
   | err cc=>rw[e1]at hl;cases hl
   | ok Z1=>
    rw[e1,aF]at hl;intro σ1 Eg
    have E2:Ev X.K B M' Hc Z1 σ1:=⟨Eg,E'.mine⟩;refine⟨Z1,B,M',E2,?_⟩
    have smc:SameO M.u H1 Hc:=λb o e n=>sc _ _ (sm b o e n)
    have onward:∀{σ3:L2.St} {H3:Hp} {Z3:En} {M3:Mn},SameO M'.u Hc H3->Ev X.K B M3 H3 Z3 σ3->(∀a,M3.u a->M'.u a\/Nw X.K Hc a)->bh g F (ts.drop (i+1)) Z3= .ok fin →
      ∃m',m'<ts.length - i/\(m'=ts.length - (i+1)/\i+1<=ts.length/\SameO M.u H1 H3/\∃Z2 M2,Ev X.K B M2 H3 Z2 σ3/\(∀a,M2.u a->M.u a\/Nw X.K H1 a)/\bh g F (ts.drop (i+1)) Z2= .ok fin):=
     λ{σ3 H3 Z3 M3} s3 E3 o3 p3=>⟨_,by omega,rfl,hlt,smc.trans s3 ow,Z3,M3,E3,λa z=>(o3 a z).elim (ow a) (gx smc),p3⟩
    cases e2:F Z1 with
    | bad=>rw[e2]at hl;cases hl
    | err cc=>rw[e2]at hl;cases hl
    | ok f=>
     rw[e2,aF]at hl
     cases f with
     | nx Z2=>exact λσ3 H3 M3 s3 E3 o3=>onward s3 E3 o3 hl
     | ct Z2=>exact λσ3 H3 M3 s3 E3 o3=>onward s3 E3 o3 hl
     | bk Z2=>
      cases hl
      exact λσ3 H3 M3 s3 E3 o3=>h1 σ3 H3 M3 (smc.trans s3 ow) E3 λa z=>(o3 a z).elim (ow a) (gx smc)
     | rt t=>
      cases hl;exact λv H3 s3 r=>h1 v H3 (smc.trans s3 ow) r
  ·refine .inl ⟨it.1 (by omega),?_⟩
   have hi2:i=ts.length:=by omega
   subst hi2;rw[Sq]at hl;cases hl;exact h1 σ' H' M' sm E' ow
def aU (c:En->Rs Bool)(F:En->Rs Fl):Nat->En->Rs Fl
 | 0,_=> .bad
 | n+1,Z=>match c Z with
  | .ok false=> .ok (.nx Z)
  | .ok true=>match F Z with
   | .ok (.nx Z')=>aU c F n Z'
   | .ok (.ct Z')=>aU c F n Z'
   | .ok (.bk Z')=> .ok (.nx Z')
   | .ok (.rt t)=> .ok (.rt t)
   | _=> .bad
  | _=> .bad
theorem zi {c:Expr}{body:List Stmt}{fc:En->Rs Bool}{F:En->Rs Fl}(n:Nat)(hc:vm X.nox c fc)(hb:lD X.nox body F):pP X (.While c body [] pos) (aU fc F n):=by
 have base:PS X.nox (.While c body [] pos) (ur (yU X.nox fc) (IW X.nox F)):=zu PassesOwn.never hc hb;intro pins s σ H D I ⟨Z,B,M,E,h⟩
 cases qq:aU fc F n Z with
 | bad=>rw[qq]at h;exact h.elim
 | err c=>
  exfalso
  have:∀n Z,aU fc F n Z≠ .err c:=by
   intro n
   induction n with
   | zero=>intro Z z;cases z
   | succ n ih=>
    intro Z z;unfold aU at z
    split at z
    ·cases z
    ·split at z <;> first | exact ih _ z | cases z
    ·cases z
  exact this n Z qq
 | ok fin=>
  rw[qq]at h
  have goal:ur (yU X.nox fc) (IW X.nox F) D σ H:=by
   refine⟨λm σ' H'=>SameO M.u H H'/\∃Z' M',Ev X.K B M' H' Z' σ'/\(∀a,M'.u a->M.u a\/Nw X.K H a)/\aU fc F m Z'= .ok fin,⟨n,λ_ _ e _=>e,Z,M,E,λa z=> .inl z,qq⟩,?_⟩
   rintro m σ' H' ⟨sm,Z',M',E',ow,hl⟩
   cases m with
   | zero=>cases hl
   | succ m=>
    refine⟨Z',OO B M',E'.o,?_⟩
    unfold aU at hl
    cases e1:fc Z' with
    | bad=>rw[e1]at hl;cases hl
    | err cc=>rw[e1]at hl;cases hl
    | ok k=>
     rw[e1]at hl;intro H2 s2
     have E2:Ev X.K B M' H2 Z' σ':=E'.same s2
     have sm2:SameO M.u H H2:=λb o e n=>s2 _ _ (sm b o e n)
     cases k with
     | false=>
      cases hl;refine L2.iteF ?_
      exact h σ' H2 M' sm2 E2 ow
     | true=>
      refine L2.iteT ?_
      refine⟨λσ3 H3=>SameO M.u H H3/\∃Z3 M3,Ev X.K B M3 H3 Z3 σ3/\(∀a,M3.u a->M.u a\/Nw X.K H a)/\aU fc F m Z3= .ok fin,λσ3 H3 z=>⟨m,MT m,z⟩,Z',B,M',E2,?_⟩
      have hl':(match F Z' with | .ok (.nx Z')=>aU fc F m Z' | .ok (.ct Z')=>aU fc F m Z' | .ok (.bk Z')=> .ok (.nx Z') | .ok (.rt t)=> .ok (.rt t) | _=> .bad)= .ok fin:=hl
      cases e2:F Z' with
      | bad=>rw[e2]at hl';cases hl'
      | err cc=>rw[e2]at hl';cases hl'
      | ok f=>
       rw[e2]at hl'
       cases f with
       | nx Z2=>exact λσ3 H3 M3 s3 E3 o3=>⟨sm2.trans s3 ow,Z2,M3,E3,λa z=>(o3 a z).elim (ow a) (gx sm2),hl'⟩
       | ct Z2=>exact λσ3 H3 M3 s3 E3 o3=>⟨sm2.trans s3 ow,Z2,M3,E3,λa z=>(o3 a z).elim (ow a) (gx sm2),hl'⟩
       | bk Z2=>
        cases hl'
        exact λσ3 H3 M3 s3 E3 o3=>h σ3 H3 M3 (sm2.trans s3 ow) E3 λa z=>(o3 a z).elim (ow a) (gx sm2)
       | rt t=>
        cases hl';exact λv H3 s3 r=>h v H3 (sm2.trans s3 ow) r
  refine ku (bX (base pins s σ H D (I.FM _) goal) λf s' q=> ?_)
  cases f with
  | next=>obtain⟨σ7,H7,I7,n7⟩:=q;exact⟨σ7,H7,I7.FM _,n7⟩
  | cont=>obtain⟨σ7,H7,I7,n7⟩:=q;exact⟨σ7,H7,I7.FM _,n7⟩
  | brk=>obtain⟨σ7,H7,I7,n7⟩:=q;exact⟨σ7,H7,I7.FM _,n7⟩
  | ret v=>obtain⟨x7,σ7,H7,I7,r7,q7⟩:=q;exact⟨x7,σ7,H7,I7.FM _,r7,q7⟩
def DI (Z:En):Rs Fl:=.ok (.ct Z)
end
def bj (F:En->Rs Fl)(Z:En):Rs T:=do
 let f <-F Z
 match f with
 | .nx _=> .ok .non
 | .rt t=> .ok t
 | _=> .bad
def aL (n:Nat)(ts:List T):En:=ts.map Sl.va++KC (n - ts.length) Sl.em
theorem xg {n:Nat}{ts:List T}{i:Nat}{o:OT}(e:(aL n ts)[i]? =some (.ow o)):False:=by
 unfold aL at e
 by_cases hi:i<ts.length
 ·rw[My (by simpa using hi),Kv,Kf hi]at e
  cases e
 ·rw[Nj (by simpa using hi),NH]at e
  split at e <;> cases e
theorem oF {K:J6}{O:Ow}{H:Hp}{N:List Str}{ts:List T}{vs:List V}(r:Reps K O H ts vs)(hl:ts.length<=N.length)(trk:∀a,O a->Mtb H a):Ev K O noM H (aL N.length ts) (start N vs):=by
 have hlen:=r.length
 have sub:∀a,OO O noM a->O a:=λa z=>z.elim id λ⟨_,w⟩=>w.elim
 refine⟨⟨by unfold aL L2.start;simp;omega,λi t e=> ?_,λi o e=>(xg e).elim,λ_ _ z=>z.elim,λ_ _ _ z=>z.elim,λa z=>trk a (sub a z)⟩,λa ⟨_,z⟩=>z.elim⟩
 unfold aL at e;unfold L2.start
 by_cases hi:i<ts.length
 ·rw[My (by simpa using hi),Kv,Kf hi]at e
  have e':ts[i] =t:=by injection e with e;injection e
  obtain⟨v,e1,e2⟩:=r.get (i:=i) (t:=t) (by rw[<-e'];simp)
  refine⟨v,?_,e2.less sub⟩
  rw[My (by simp;omega),Kv,e1];rfl
 ·rw[Nj (by simpa using hi),NH]at e
  split at e <;> cases e
section
variable {P:Kz}{w:Lb}{K:J6}{mg:Str->Option J8}{base:Heap}
theorem Iz {x qual:Str}{st:Stmt}{f:Addr}{fd:L7}{N ps:List Str}{k n:Nat}{g:List T->Rs T}(Fn:L2.Fun K x qual st f fd)(S:ax N ps (aj st))(hn:ps.length=n)
  (hbody:∀(cdv:J8),fd.code=cdv->∀(A:KU) (outer:List Env) (s:Kb) (H:Hp) (E:XK),Room k (A.deeper (envOfC qual (aj st) s.heap.objs.size f cdv)) →
   ∃F,lD (iy CX0 P w K mg base N qual (aj st) f cdv A outer s H E).nox (cO st) F/\∀ts,ts.length=n->∀t,g ts= .ok t->bj F (aL N.length ts)= .ok t):rG P w K mg base CX0 (k+1) f fd ps (spP K n g):=by
 have hpl:ps.length<=N.length:=by have:=congrArg LV S.pre;rw[Mp]at this;omega
 refine Fn.ok S (λvs H Q E h=> ?_) (λcdv hcv A outer s H vs Q E hr h=> ?_)
 ·obtain⟨ts,O,r,_,hl,_⟩:=h
  rw[<-r.length,hl,hn]
 ·obtain⟨ts,O,r,trk,hl,h⟩:=h
  obtain⟨F,hF,hv⟩:=hbody cdv hcv A outer s H E hr;refine⟨_,hF,aL N.length ts,O,noM,oF r (by omega) trk,?_⟩
  have no:∀a,¬noM.u a:=λa ⟨_,z⟩=>z
  cases q:g ts with
  | bad=>rw[q]at h;exact h.elim
  | err c=>rw[q]at h;exact h.elim
  | ok t=>
   rw[q]at h
   have hb:=hv ts hl t q;unfold bj at hb
   cases q2:F (aL N.length ts)with
   | bad=>rw[q2]at hb;cases hb
   | err c=>rw[q2]at hb;cases hb
   | ok fl=>
    rw[q2,aF]at hb
    have sameOf:∀H',SameO noM.u H H'->Same H H':=λH' s b o e=>s b o e (no b)
    cases fl with
    | nx Z'=>cases hb;exact λσ' H' M' s' E' o'=>h .non H' (sameOf H' s') Rep.JN
    | rt t'=>cases hb;exact λv H' s' r'=>h v H' (sameOf H' s') r'
    | bk Z'=>cases hb
    | ct Z'=>cases hb
end
end Tr
namespace Enu
open PySem
open AutoSeq1 (wpAny_loadPart')
section
variable {prog:Kz}{w:Lb}{A:KU}{E:J8->Kb->Prop}{s:Kb}
theorem BH {it tt:Addr}{k:Nat}{its:Array J8}{x:J8}{Q:J8->Kb->Prop}(hi:s.heap.IsTupleIter it tt k)(ht:s.heap.IsTuple tt its)(hx:its[k]? =some x)
  (hQ:∀h',h'.IsTupleIter it tt (k+1)->Nz it s.heap h'->Q x { s with heap:=h' }):wpAny (model prog w) A (Mx (.ref it)) Q E s:=by
 obtain⟨ob,g1,g2,g3⟩:=id hi;obtain⟨ot,k1,_,m,k3⟩:=ht;unfold Mx;refine J5 (Lh (name:=Kr "__next__") hi.typeIs Mo (Ln Mo hi.typeIs OD ?_ (Ot _)))
 show wpAny (model prog w) _ (field (.ref it) 0 >>= _) _ _ s
 refine J5 (MB g1 g3 (x:=.ref tt) rfl ?_)
 show wpAny (model prog w) _ (if (KY tt == K6)=true then _ else _) _ _ s
 rw[if_neg (show ¬((KY tt == K6)=true)by exact KL)]
 show wpAny (model prog w) _ (field (.ref it) 1 >>= _) _ _ s
 refine J5 (MB g1 g3 (x:=.int k 0) rfl ?_)
 show wpAny (model prog w) _ (seqItems? (.ref tt) >>= _) _ _ s
 refine J5 (QR k1 k3 ?_)
 simp only[hx,K0];refine J5 (N4 g1 g3 (by simp) (Kd ⟨x,rfl,Kd (hQ _ ?_ (Mf ..))⟩))
 refine⟨_,L4 _ g1 (Ob (Mt g3 _)),(Pk ..).trans g2,?_⟩
 rw[Mt g3];simp[rawInt]
theorem tupStop {it tt:Addr}{k:Nat}{its:Array J8}{Q:J8->Kb->Prop}(hh:A.handled=none)(hi:s.heap.IsTupleIter it tt k)(ht:s.heap.IsTuple tt its)(hx:its[k]? =none)
  (hE:∀h' e,SL it s.heap h'->(∃o,h'.get? e=some o/\o.cls= .type "StopIteration")->E (.ref e) { s with heap:=h' }):wpAny (model prog w) A (Mx (.ref it)) Q E s:=by
 obtain⟨ob,g1,g2,g3⟩:=id hi;obtain⟨ot,k1,_,m,k3⟩:=ht;unfold Mx;refine J5 (Lh (name:=Kr "__next__") hi.typeIs Mo (Ln Mo hi.typeIs OD ?_ (Ot _)))
 show wpAny (model prog w) _ (field (.ref it) 0 >>= _) _ _ s
 refine J5 (MB g1 g3 (x:=.ref tt) rfl ?_)
 show wpAny (model prog w) _ (if (KY tt == K6)=true then _ else _) _ _ s
 rw[if_neg (show ¬((KY tt == K6)=true)by exact KL)]
 show wpAny (model prog w) _ (field (.ref it) 1 >>= _) _ _ s
 refine J5 (MB g1 g3 (x:=.int k 0) rfl ?_)
 show wpAny (model prog w) _ (seqItems? (.ref tt) >>= _) _ _ s
 refine J5 (QR k1 k3 ?_)
 simp only[hx,K0];refine J5 (Nf (J5 (N4 g1 g3 (by simp) ?_)))
 show wpAny (model prog w) _ (newExc (.type "StopIteration") [] >>= _) _ _ _
 refine J5 ?_
 simp only[newTuple,newExc];refine J5 (KR ?_ (by size_fits))
 refine J5 (m:=Pc _ _) (S1 (a:=K6) (by first | (simp only[Pc];rfl) | rfl) ?_)
 refine KR ?_ (by size_fits)
 simp only[raiseNew];refine J5 (wpAny_handled ?_)
 first | rw[hh] | rw[show A.in1.handled=none from hh]
 refine J5 (Kd (wpAny_throw ?_))
 refine hE _ _ (((Mf ..).extBut.push _).push _) ⟨_,Kn _ rfl,rfl⟩
end
theorem tupDraws {prog:Kz}{w:Lb}{A:KU}(hh:A.handled=none)(it tt:Addr)(hne:tt≠it)(its:Array J8) :
  Draws prog w A it [it,tt] its.size (λi v=>its[i]? =some v) (λi h=>h.IsTupleIter it tt i/\h.IsTuple tt its) where
 live:=λ_ _ st=>by obtain⟨o,ho,_⟩:=st.1;exact⟨o,ho⟩
 frame:=λ_ _ _ st hk=>by
  obtain⟨⟨o,e,r⟩,⟨o',e',r'⟩⟩:=st;exact⟨⟨o,hk it (by simp) o e,r⟩,⟨o',hk tt (by simp) o' e',r'⟩⟩
 item:=λi s Q E hi st hQ=>by
  refine BH st.1 st.2 (x:=its[i]) (by simp[hi]) λh' hit' hs'=> ?_
  obtain⟨o',e',r'⟩:=st.2;exact hQ _ h' s.toks (by simp[hi]) ⟨hit',⟨o',(hs'.2 tt hne).trans e',r'⟩⟩ hs'
 done:=λs Q E st hE=>tupStop hh st.1 st.2 (by simp) hE
theorem newT (l:Addr)(items:Array J8)(n:Nat)(dct:Option Addr)(sl:Array (Option J8)) :
  Meets (Builtin.«enumerate.__new__» ⟨[.type "enumerate",.ref l],[]⟩) (λ_ R s=>s.heap.get? l=some { cls:=.type "tuple",dict:=dct,data:=.seq items n,slots:=sl } ∧
   R (.ok (.ret (.ref (s.heap.push { cls:=.type "tuple_iterator",data:=.fields #[.ref l,.int 0 0] }).objs.size)))
    { s with heap:=(s.heap.push { cls:=.type "tuple_iterator",data:=.fields #[.ref l,.int 0 0] }).push { cls:=.type "enumerate",data:=.fields #[.none,.bool false,.ref s.heap.objs.size,rawInt 0,.none,.none] } }):=
 .of_wp λprog w A R s h=>by
  obtain⟨hp,g,d,tk,os⟩:=s;obtain⟨hl,h⟩:=h
  have hsub:=sub_enumerate
  have hT:Heap.IsTuple (Shared.heap ⟨hp,g,d,tk,os⟩) l items:=⟨_,hl,rfl,n,rfl⟩
  wp_walk using KM hl
  refine wpAny_stack_any λst=>Kd ?_
  split
  ·rename_i c _ _ _ _ _
   cases (c == LU "enumerate")
   ·wp_walk using KM hl,M0 hT
    exact⟨_,rfl,h⟩
   ·wp_walk using KM hl,M0 hT
    exact⟨_,rfl,h⟩
  ·wp_walk using KM hl,M0 hT
   exact⟨_,rfl,h⟩
theorem callT {prog:Kz}{w:Lb}{A:KU}{E:J8->Kb->Prop}{s:Kb}{l:Addr}{items:Array J8}{Q:J8->Kb->Prop}(hL:s.heap.IsTuple l items)
  (h:∀h',IsEnum h' (s.heap.objs.size+1) s.heap.objs.size 0 .none->h'.IsTupleIter s.heap.objs.size l 0->h'.objs.size=s.heap.objs.size+2 →
   (∀b o,s.heap.get? b=some o->h'.get? b=some o)->Q (.ref (s.heap.objs.size+1)) { s with heap:=h' }):wpAny (model prog w) A (call (.type "enumerate") [.ref l]) Q E s:=by
 obtain⟨⟨cc,dc,dd,ss⟩,hl,hc,n,hd⟩:=hL
 replace hc:cc= .type "tuple":=hc
 replace hd:dd= .seq items n:=hd
 subst hc hd;refine callType_new F.called_enumerate (by decide) (F.typeCall_enumerate_1 _) (F.newCall_enumerate_1 _) (λobj=>F.args_object_init_2 obj _) F.entry_enumerate_new (newT l items n dc ss) ⟨hl,?_⟩
 have hz:(s.heap.push { cls:=.type "tuple_iterator",data:=.fields #[.ref l,.int 0 0] }).objs.size=s.heap.objs.size+1:=Mc ..
 show _/\_
 rw[hz]
 have he:IsEnum ((s.heap.push { cls:=.type "tuple_iterator",data:=.fields #[.ref l,.int 0 0] }).push
   { cls:=.type "enumerate",data:=.fields #[.none,.bool false,.ref s.heap.objs.size,rawInt 0,.none,.none] }) (s.heap.objs.size+1) s.heap.objs.size 0 .none:=by
  have q:=Kn (s.heap.push { cls:=.type "tuple_iterator",data:=.fields #[.ref l,.int 0 0] })
   (o:={ cls:=.type "enumerate",data:=.fields #[.none,.bool false,.ref s.heap.objs.size,rawInt 0,.none,.none] }) rfl
  rw[hz]at q;exact q
 refine⟨⟨_,he,rfl⟩,h _ he ⟨_,Kc _ (Kn _ rfl),rfl,rfl⟩ (by rw[Mc,hz]) λb o x=>Kc _ (Kc _ x)⟩
end Enu
namespace L2
open PySem PySem.Spec PyProof.Rows
section
variable {X:Cx}{pins:List (Addr×Obj)}{σ:L2.St}{H:Hp}{s:Kb}{h':Heap}
theorem Inv.JJ {t':Nat}{fp:List Addr}{Tp:Addr}{xs:List V}(I:Inv X pins σ H s)(hf:∀b∈fp,nX X pins H b)(k:∀b o,b∉fp->s.heap.get? b=some o->h'.get? b=some o)
  (ht:∀b∈fp,∃o,h'.get? b=some o) (hT:s.heap.objs.size<=Tp) (new:ObjOk X.prog X.w (upd H Tp (.tup xs)) h' Tp (.tup xs)):Inv X pins σ (upd H Tp (.tup xs)) { s with heap:=h',toks:=t' }:=by
 have hn:H Tp=none:=I.hok.fresh hT
 have j7:∀b o,s.heap.get? b=some o->b≠Tp:=λb o e=>Ky (Kl (Kk e) hT)
 have nf:∀b u,H b=some u->b∉fp:=λb u e z=>by rw[(hf b z).1]at e;cases e
 refine I.step (g':=s.gens) (d':=s.drawn) (ch:=fp) (λb hb=>⟨(hf b hb).2.2.2.1,(hf b hb).2.1,(hf b hb).2.2.2.2.1,(hf b hb).2.2.2.2.2⟩) (λb o _ _ hc e _=>k b o hc e) (λb o _ _ hc e _=>⟨o.slots,k b o hc e⟩)
  (λb o _ e n=>by rw[aJ (j7 b o e)];exact n) (λb o hc e=>⟨o,k b o hc e⟩) (λb ys e=>by rw[aJ (bK e hn)];exact e) (λb o u e=>by rw[aJ (bK e hn)];exact e)
  (λb ps e=>(by rw[aJ (bK e hn),e])) (λm hm=> ?_) (λb u e=> ?_) I.bare
 ·obtain⟨o,es,ep,ho,r⟩:=hm
  exact⟨o,es,ep,k _ o (λz=>(hf _ z).2.1 rfl) ho,r⟩
 ·by_cases hb:b=Tp
  ·subst hb;rw[aT]at e;cases e;exact new
  ·rw[aJ hb]at e
   refine(I.hok b u e).Jr (λc v hc q=>k c v ?_ q) (λc q=>by rw[aJ (bK q hn)];exact q) λc ys q=>by rw[aJ (bK q hn)];exact q
   rcases hc with z | z
   ·rw[z];exact nf b u e
   ·exact nf c _ z
theorem Inv.Jt {t':Nat}{fp:List Addr}(I:Inv X pins σ H s)(hf:∀b∈fp,nX X pins H b)(k:∀b o,b∉fp->s.heap.get? b=some o->h'.get? b=some o):Inv X pins σ H { s with heap:=h',toks:=t' }:=by
 have nf:∀b u,H b=some u->b∉fp:=λb u e z=>by rw[(hf b z).1]at e;cases e
 refine I.step (g':=s.gens) (d':=s.drawn) (ch:=fp) (λb hb=>⟨(hf b hb).2.2.2.1,(hf b hb).2.1,(hf b hb).2.2.2.2.1,(hf b hb).2.2.2.2.2⟩) (λb o _ _ hc e _=>k b o hc e) (λb o _ _ hc e _=>⟨o.slots,k b o hc e⟩)
  (λb o _ e n=>n) (λb o hc e=>⟨o,k b o hc e⟩) (λb ys e=>e) (λb o u e=>e)
  (λb ps e=>(by rw[e])) (λm hm=> ?_) (λb u e=> ?_) I.bare
 ·obtain⟨o,es,ep,ho,r⟩:=hm
  exact⟨o,es,ep,k _ o (λz=>(hf _ z).2.1 rfl) ho,r⟩
 ·refine(I.hok b u e).Jr (λc v hc q=>k c v ?_ q) (λc q=>q) λc ys q=>q
  rcases hc with z | z
  ·rw[z];exact nf b u e
  ·exact nf c _ z
end
def Bx (K:J6)(H:Hp)(a:Addr)(tt:Bool)(xs:List V):Prop:=if tt then SqT K H a xs else SqL K H a xs
def Ji (K:J6)(a:Addr)(tt:Bool):It:=
 ⟨λi H=> ∃xs x,Bx K H a tt xs/\xs[i]? =some x,λi H x H'=> ∃p v,x= .ref p/\H p=none/\H'=upd H p (.tup [.int (i:Nat),v])/\∀xs,Bx K H a tt xs->xs[i]? =some v,λi H=> ∃xs,Bx K H a tt xs/\xs.length<=i⟩
def itAt (tt:Bool)(h:Heap)(it a:Addr)(i:Nat):Prop:=if tt then h.IsTupleIter it a i else h.IsListIter it a i
theorem itAt.obj {tt:Bool}{h:Heap}{it a:Addr}{i:Nat}(st:itAt tt h it a i):∃o,h.get? it=some o/\∀v,o.data≠ .cell v:=by
 cases tt with
 | true=>obtain⟨o,e,c,d⟩:=(show h.IsTupleIter it a i from st);exact⟨o,e,λv z=>by rw[d]at z;cases z⟩
 | false=>obtain⟨o,e,c,d⟩:=(show h.IsListIter it a i from st);exact⟨o,e,λv z=>by rw[d]at z;cases z⟩
theorem itAt.keep {tt:Bool}{h h':Heap}{it a:Addr}{i:Nat}(st:itAt tt h it a i)(k:∀o,h.get? it=some o->h'.get? it=some o):itAt tt h' it a i:=by
 cases tt with
 | true=>obtain⟨o,e,r⟩:=(show h.IsTupleIter it a i from st);exact(show h'.IsTupleIter it a i from⟨o,k o e,r⟩)
 | false=>obtain⟨o,e,r⟩:=(show h.IsListIter it a i from st);exact(show h'.IsListIter it a i from⟨o,k o e,r⟩)
theorem xf {P:Kz}{w:Lb}{K:J6}{elts:List Expr}{kk:Nat}{pos:Pos}(tt:Bool)(a e it:Addr)(hei:e≠it) :
  Bg P w K (.Tuple elts kk pos) (Ji K a tt) [e,it] e (λi h=>(∃old,IsEnum h e it i old)/\itAt tt h it a i) where
 mem:=by simp
 obj:=λi h st b hb=>by
  obtain⟨⟨old,he⟩,hi⟩:=st;rcases Ko.mp hb with rfl | hb
  ·exact⟨_,he,λv z=>by have z':Data.fields _=Data.cell v:=z;cases z'⟩
  ·rw[KG.mp hb];exact hi.obj
 keep:=λi h h' st k=>by
  obtain⟨⟨old,he⟩,hi⟩:=st;exact⟨⟨old,k e (by simp) _ he⟩,hi.keep λo q=>k it (by simp) o q⟩
 item:=by
  intro X hP hw hK hc i pins s σ H E I hf st hg;subst hP hw hK;obtain⟨xs,x,hq,hx⟩:=hg;obtain⟨⟨old,he⟩,hi⟩:=st
  -- by what is walked
  have key:∀(its:List J8),Vals xs its->(∀ys,Bx X.K H a tt ys->ys=xs)->∀(fp0:List Addr) (St:Nat->Heap->Prop),Draws X.prog X.w X.A.in1 it fp0 its.toArray.size (λi v=>its.toArray[i]? =some v) St->e∉fp0->it∈fp0->St i s.heap →
    (∀h',St (i+1) h'->itAt tt h' it a (i+1)) →
    wpAny (model X.prog X.w) X.A (pyNext (.ref e)) (λr s1=> ∃u,r=some u/\wpAny (model X.prog X.w) X.A (NL (.Tuple elts kk pos) (.ref e) u) (λ_ s2=> ∃x' H',Inv X pins σ H' s2/\RelV x' u/\(Ji X.K a tt).yld i H x' H' ∧
     ((∃old,IsEnum s2.heap e it (i+1:Nat) old)/\itAt tt s2.heap it a (i+1))/\∀b∈ [e,it],H' b=none) E s1) E s:=by
   intro its rv uniq fp0 St D hef hif hst hnext;obtain⟨u,hu,ru⟩:=rv.get hx
   have hlt:i<its.toArray.size:=by
    have:=(Km.mp hu).1
    simpa using this
   have W:=WalksT.enumerateD D e hei hef hif;refine W.item i s _ _ hlt ⟨⟨old,he⟩,hst⟩ λTp vals h1 tk hPt hTsz hTup hMid hk=>⟨.ref Tp,rfl,?_⟩
   refine W.go elts kk pos i Tp { s with heap:=h1,toks:=tk } _ _ hMid λh2 hst2 hk2=> ?_
   obtain⟨t,x',hPx,hvals⟩:=hPt;subst hvals
   have hxe:x'=u:=by
    have h1':its.toArray[i]? =some x':=hPx
    have h2':its.toArray[i]? =some u:=by simpa using hu
    rw[h1']at h2';exact KO h2'
   subst hxe
   have hTw:=W.apart i Tp h1 hMid;obtain⟨oT,eT,rT⟩:=hTup
   have eT2:h2.get? Tp=some oT:=hk2 Tp oT hTw eT
   have kAll:∀b o,b∉ [e,it]->s.heap.get? b=some o->h2.get? b=some o:=λb o hb q=>hk2 b o hb (hk b o hb q)
   obtain⟨⟨old2,he2⟩,hs2⟩:=hst2
   have hit2:=hnext h2 hs2
   have there:∀b∈ [e,it],∃o,h2.get? b=some o:=λb hb=>by
    rcases Ko.mp hb with rfl | hb
    ·exact⟨_,he2⟩
    ·rw[KG.mp hb];obtain⟨o,q,_⟩:=hit2.obj;exact⟨o,q⟩
   have hn:H Tp=none:=I.hok.fresh hTsz
   have new:ObjOk X.prog X.w (upd H Tp (.tup [.int (i:Nat),x])) h2 Tp (.tup [.int (i:Nat),x]):=
    ⟨by show 2<=sizeLine;decide,[.int (i:Nat) t,x'],.cons ⟨t,rfl⟩ (.cons ru .nil),⟨oT,eT2,rT⟩⟩
   have I2:=I.JJ (t':=tk) hf kAll there hTsz new;refine⟨.ref Tp,_,I2,rfl,⟨Tp,x,rfl,hn,rfl,λys hy=>by rw[uniq ys hy];exact hx⟩,⟨⟨old2,he2⟩,hit2⟩,λb hb=> ?_⟩
   have hbT:b≠Tp:=λz=>by
    obtain⟨o,q⟩:∃o,s.heap.get? b=some o:=by
     rcases Ko.mp hb with rfl | hb
     ·exact⟨_,he⟩
     ·rw[KG.mp hb];obtain⟨o,q,_⟩:=hi.obj;exact⟨o,q⟩
    exact absurd (Kl (Kk q) hTsz) (by rw[z];exact KW _)
   rw[aJ hbT];exact(hf b hb).1
  have hne:∀b∈ [e,it],a≠b:=λb hb z=>by
   have hb':=(hf b hb).1;rw[<-z]at hb'
   have hbs:=hf b hb
   cases tt with
   | true=>
    have hq':SqT X.K H a xs:=hq;rcases hq' with(q | ⟨o,q⟩) | ⟨o,its,n,q,_⟩
    ·rw[hb']at q;cases q
    ·rw[hb']at q;cases q
    ·rcases hbs.2.2.2.1 with z1 | z1
     ·exact I.ok.noex a o (I.ok.mod.kin a o q) (z▸z1)
     ·exact absurd (Kl (Kk (I.ok.bs a o (I.ok.mod.kin a o q)).1) (z▸z1)) (KW _)
   | false=>
    have hq':SqL X.K H a xs:=hq;rcases hq' with(q | ⟨o,q⟩) | ⟨o,its,n,q,_⟩
    ·rw[hb']at q;cases q
    ·rw[hb']at q;cases q
    ·rcases hbs.2.2.2.1 with z1 | z1
     ·exact I.ok.noex a o (I.ok.mod.kin a o q) (z▸z1)
     ·exact absurd (Kl (Kk (I.ok.bs a o (I.ok.mod.kin a o q)).1) (z▸z1)) (KW _)
  have hea:e≠a:=λz=>hne e (by simp) z.symm
  have hia:it≠a:=λz=>hne it (by simp) z.symm
  cases tt with
  | true=>
   have hq':SqT X.K H a xs:=hq;obtain⟨its,rv,p,hz⟩:=I.tuple hq'
   exact key its rv (λys hy=>I.Js hy hq') _ _ (Enu.tupDraws (A:=X.A.in1) (I.ok.hd hc) it a (O5 hia) its.toArray) (by simp[hei,hea]) (by simp) ⟨hi,p⟩ λh' z=>z.1
  | false=>
   have hq':SqL X.K H a xs:=hq;obtain⟨its,rv,p,hz⟩:=I.list hq';exact key its rv (λys hy=>I.Ju hy hq') _ _ (Draws.list (A:=X.A.in1) (I.ok.hd hc) it a (O5 hia) its.toArray) (by simp[hei,hea]) (by simp) ⟨hi,p.isList⟩ λh' z=>z.1
 done:=by
  intro X hP hw hK hc i pins s σ H E I hf st hg;subst hP hw hK;obtain⟨xs,hq,hx⟩:=hg;obtain⟨⟨old,he⟩,hi⟩:=st
  have fin:∀h',SL it s.heap h'->(none:Option J8)=none/\Inv X pins σ H { s with heap:=h' }:=λh' eb=>⟨rfl,I.Jt (t':=s.toks) hf λb o hb q=>eb b o (λz=>hb (by simp[z])) q⟩
  cases tt with
  | true=>
   have hq':SqT X.K H a xs:=hq;obtain⟨its,rv,p,hz⟩:=I.tuple hq'
   have hl:=rv.length
   have hnone:its.toArray[i]? =none:=by simp;omega
   have hT:s.TypeIs (.ref e) "enumerate":=⟨_,he,rfl⟩;unfold pyNext;refine J5 (Ou (Lh (name:=Kr "__next__") hT Qk (Ln Qk hT F.entry_enumerate_next ?_ (F.args_enumerate_next_1 _))))
   show wpAny (model X.prog X.w) _ (field (.ref e) 2 >>= _) _ _ _
   refine J5 (MB he rfl (x:=.ref it) rfl ?_)
   refine J5 (Enu.tupStop (I.ok.hd hc) hi p hnone λh' x he' hx'=> ?_)
   obtain⟨o,ho,hcl⟩:=hx'
   exact J5 (P5 (T:="StopIteration") (b:=true) ⟨o,ho,hcl⟩ isSubtype_stop (Kd (fin h' he')))
  | false=>
   have hq':SqL X.K H a xs:=hq;obtain⟨its,rv,p,hz⟩:=I.list hq'
   have hl:=rv.length
   have hnone:its.toArray[i]? =none:=by simp;omega
   exact wpAny_pyNext_enum_end (I.ok.hd hc) he hi p.isList hnone fin
 self:=λ_ _ _ _ _ st h=>by
  obtain⟨⟨old,he⟩,_⟩:=st;exact R4 he h
section
variable {X:Cx}{elts:List Expr}{kk:Nat}{tpos:Pos}
theorem nN:KQ "enumerate" =some (.type "enumerate"):=by decide+kernel
def iEnu (K:J6)(tl:TA):TI:=λσ H R=>tl σ H λvs H1=> ∃a tt,vs= [.ref a]/\(∃xs,Bx K H1 a tt xs)/\R (Ji K a tt) H1
theorem Cy {l:Expr}{tl:TA}{p pos:Pos}(hg:Gl X "enumerate")(hm:X.mg "enumerate" =none)(hl:PA X [l] tl)(hs:Kx [l] X.env= [(false,eval l X.env)]:=by rfl):PI X (.Tuple elts kk tpos) (.Call (.Name "enumerate" p) [l] [] pos) (iEnu X.K tl):=by
 intro pins s σ H R I h;refine Call_ (d4 I hg hm nN (K2 (bX (hl pos pins s σ H _ I h) λus s1 ⟨vs,H1,I1,r1,q1⟩=> ?_) hs rfl))
 obtain⟨a,tt,e,⟨xs,hq⟩,q⟩:=q1;subst e;obtain⟨u,rfl,ru⟩:=kQ r1;cases ru
 have fin:∀h',IsEnum h' (s1.heap.objs.size+1) s1.heap.objs.size 0 .none->itAt tt h' s1.heap.objs.size a 0->h'.objs.size=s1.heap.objs.size+2->(∀b o,s1.heap.get? b=some o->h'.get? b=some o) →
   wpAny (model X.prog X.w) X.A (pyIter (.ref (s1.heap.objs.size+1))) (PIE X pins σ (.Tuple elts kk tpos) R) X.xe { s1 with heap:=h' }:=λh' he hi hsz hk=>by
  refine R4 he ?_
  have I2:Inv X pins σ H1 { s1 with heap:=h' }:=I1.kept (t':=s1.toks) hk
  refine⟨s1.heap.objs.size+1,[s1.heap.objs.size+1,s1.heap.objs.size],_,_,H1,rfl,I2,xf tt a (s1.heap.objs.size+1) s1.heap.objs.size (Nat.succ_ne_self _),⟨⟨_,he⟩,hi⟩,λb hb=> ?_,q⟩
  rcases Ko.mp hb with rfl | hb
  ·exact I1.JE (by omega) (I1.hok.fresh (by omega))
  ·rw[KG.mp hb];exact I1.JE (Ki _) (I1.hok.fresh (Ki _))
 cases tt with
 | true=>
  have hq':SqT X.K H1 a xs:=hq;obtain⟨its,rv,pl,hz⟩:=I1.tuple hq'
  exact Enu.callT pl λh' he hi hsz hk=>fin h' he hi hsz hk
 | false=>
  have hq':SqL X.K H1 a xs:=hq;obtain⟨its,rv,pl,hz⟩:=I1.list hq';exact call_enumerate_list pl.isList λh' he hi hsz hk=>fin h' he hi hsz hk
end
end L2
namespace Tr
open PySem PySem.Spec PyProof.Rows L2
section
variable {X:Cx}{a:Expr}{fa:En->Rs T}{fs:En->Rs (List T)}{p pos:Pos}
def iS (f:En->Rs T)(Z:En):Rs (List T):=do
 let x <-f Z
 match x with
 | .lst l=> .ok l
 | .tup l=> .ok l
 | _=> .bad
theorem EX {tg:Expr}(ha:cj X a fa):By X tg a (iS fa):=by
 intro pins s σ H R I ⟨Z,O,E,h⟩;unfold iS at h
 cases q:fa Z with
 | bad=>rw[q]at h;exact h.elim
 | err c=>exact vN ha pins s σ H R I ⟨Z,O,E,by unfold iL;rw[q]at h ⊢;exact h⟩
 | ok x=>
  rw[q,aF]at h
  cases x with
  | lst l=>exact vN ha pins s σ H R I ⟨Z,O,E,by unfold iL;rw[q];exact h⟩
  | tup l=>exact EW ha pins s σ H R I ⟨Z,O,E,by unfold iT;rw[q];exact h⟩
  | _=>exact h.elim
def dh:Nat->List T->List T
 | _,[] => []
 | n,t::r=> .tup [.int n,t] ::dh (n+1) r
theorem pE:∀(l:List T) (n i:Nat),(dh n l)[i]? =(l[i]?).map λt=>T.tup [.int ((n+i:Nat):Int),t]
 | [],n,i=>by simp[dh]
 | t::l,n,0=>by simp[dh]
 | t::l,n,i+1=>by
  rw[dh,MQ,pE l (n+1) i,MQ]
  congr 2
  funext t
  congr 4
  omega
theorem pD:∀(l:List T) (n:Nat),(dh n l).length=l.length
 | [],n=>rfl
 | t::l,n=>by rw[dh,Kj,Kj,pD l]
def iE (f:En->Rs (List T))(Z:En):Rs (List T):=do
 let xs <-f Z
 match xs with
 | [x] =>match x.items with
  | some l=> .ok (dh 0 l)
  | none=> .bad
 | _=> .bad
theorem Cf {elts:List Expr}{kk:Nat}{tpos:Pos}(hm:X.mg "enumerate" =none)(ha:oy X [a] fs)(hg:Gl X "enumerate":=by rfl)(hs:Kx [a] X.env= [(false,eval a X.env)]:=by rfl) :
  By X (.Tuple elts kk tpos) (.Call (.Name "enumerate" p) [a] [] pos) (iE fs):=PI.imp (Cy hg hm ha hs) λσ H R hh_=>by
 obtain⟨Z,O,E,h⟩:=hh_;obtain⟨Z1,O1,E1,h1⟩:=da E h;refine⟨Z1,O1,E1,Post.mono h1 λts H1 s1 q vs r=> ?_⟩
 obtain⟨t',r',s',E',q'⟩:=q vs r
 split at q'
 ·rename_i x0
  obtain⟨v,rfl,rv⟩:=r'.one
  split at q'
  ·rename_i l hl
   have main:∀(aa:Addr) (tt:Bool) (ws:List V),v= .ref aa->¬ O aa->Reps X.K O H1 l ws->Bx X.K H1 aa tt ws->(∀P Hc,SameO P H1 Hc->¬ P aa->Bx X.K Hc aa tt ws)->¬ Nw X.K H1 aa →
     ∃a tt,[v] = [V.ref a]/\(∃xs,Bx X.K H1 a tt xs)/\R (Ji X.K a tt) H1:=λaa tt ws e n z sq mv nn=>by
    refine⟨aa,tt,by rw[e],⟨ws,sq⟩,q' H1 (Same.refl H1) _ λP O' hP hO i Hc hsm htr=> ?_⟩
    have hnP:¬ P aa:=λy=>(hP aa y).elim n nn
    have sqc:=mv P Hc hsm hnP;refine⟨λhi=>⟨ws,sqc,by rw[<-z.length,<-pD l 0];exact hi⟩,λt ht=> ?_⟩
    rw[pE]at ht
    cases e1:l[i]? with
    | none=>rw[e1]at ht;cases ht
    | some t0=>
     rw[e1]at ht;cases ht;obtain⟨v0,f1,f2⟩:=z.get e1;refine⟨⟨ws,v0,sqc,f1⟩,λx Hc' y=> ?_⟩
     obtain⟨pp,vv,e2,hpn,e3,hy⟩:=y
     have:=hy ws sqc;rw[f1]at this;cases this;subst e2 e3;refine⟨aN hpn _,ft hpn (λzz=> ?_) (Reps.FS (by simpa using Rep.GE _) (Reps.FS (f2.move hP hO hsm) Reps.GT))⟩
     obtain⟨o,w⟩:=htr pp zz;rw[hpn]at w;cases w
   cases x0 with
   | tup m=>
    cases hl;obtain⟨aa,ws,e,n,qq,z⟩:=Rep.Fk.mp rv
    exact main aa true ws e n z (show SqT X.K H1 aa ws from SqT.of qq) (λP Hc hsm hn=>show SqT X.K Hc aa ws from SqT.of (hsm _ _ qq hn)) λw=>by rw[w.1]at qq;cases qq
   | lst m=>
    cases hl;obtain⟨aa,ws,e,n,qq,z⟩:=Rep.Do.mp rv
    exact main aa false ws e n z (show SqL X.K H1 aa ws from SqL.of qq) (λP Hc hsm hn=>show SqL X.K Hc aa ws from SqL.of (hsm _ _ qq hn)) λw=>by rw[w.1]at qq;cases qq
   | scr m=>
    cases hl;unfold Rep at rv;obtain⟨aa,e,n,qq⟩:=rv
    exact main aa false _ e n Reps.ints (show SqL X.K H1 aa _ from qq) (λP Hc hsm hn=>show SqL X.K Hc aa _ from Tr.SqL.keep hsm hn qq) (Tr.SqL.nn qq)
   | _=>cases hl
  ·exact q'.elim
 ·exact q'.elim
end
end Tr
namespace Tm
open PySem PyProof.Rows
theorem kx:fillsNumberSlot (.type "tuple") "mul" =pure false:=
 PySem.fillsNumberSlot_seq (id:="tuple.__mul__") (r:=some (.builtin "tuple.__rmul__")) PX.lookup (by decide+kernel) RO.lookup (by decide+kernel)
theorem qm:seqRepeat? (.type "tuple")=pure (some (.builtin "tuple.__mul__")):=by
 unfold seqRepeat?;rw[Ss (T:="tuple") (name:="__mul__") (id:="tuple.__mul__") PX.lookup (by decide+kernel),Ss (T:="tuple") (name:="__rmul__") (id:="tuple.__rmul__") RO.lookup (by decide+kernel)]
 rfl
theorem uG (a:Int)(t:Tok)(l:Addr)(items:Array J8)(n:Nat)(dd:Option Addr)(sl:Array (Option J8)) :
  Meets (Builtin.«int.__rmul__» ⟨[.int a t,.ref l],[]⟩) (λ_ R s=>s.heap.get? l=some { cls:=.type "tuple",dict:=dd,data:=.seq items n,slots:=sl }/\R (.ok (.ret QJ)) s):=
 .of_wp λprog w A R s h=>by obtain⟨hp,g,d,tk,os⟩:=s;obtain⟨hl,h⟩:=h;wp_walk;exact⟨_,rfl,h⟩
open AutoSeq1 (wpAny_loadPart')
theorem zY (l:Addr)(items:Array J8)(n:Nat)(dd:Option Addr)(sl:Array (Option J8))(x:Int)(u:Tok)(h1:1<x)(h2:x<2 ^ 31)(hne:items.isEmpty=false)(hz:items.size*x.toNat<=sizeLine)
  (hz2:(Ph (λa b=>a++b) #[] (KC x.toNat items)).size<=sizeLine) :
  Meets (Builtin.«tuple.__mul__» ⟨[.ref l,.int x u],[]⟩) (λ_ R s=>s.heap.get? l=some { cls:=.type "tuple",dict:=dd,data:=.seq items n,slots:=sl } ∧
   R (.ok (.ret (KY s.heap.objs.size))) { s with heap:=s.heap.push { cls:=LU "tuple",data:=Data.seq (Ph (λa b=>a++b) #[] (KC x.toNat items)) } }):=
 .of_wp λprog w A R s h=>by
  obtain⟨hp,g,d,tk,os⟩:=s;obtain⟨hl,h⟩:=h
  have hT:Ta hp l items:=⟨_,hl,rfl,n,rfl⟩
  have hx:((items.size:Nat):Int)*x=((items.size*x.toNat:Nat):Int):=by
   have e:x=((x.toNat:Nat):Int):=by omega
   rw[Int.natCast_mul,<-e]
  wp_walk using KM hl
  rw[if_neg (by simp;omega)]
  refine J5 (PP (s:=⟨hp,g,d,tk,os⟩) hT ?_)
  dsimp only
  rw[if_neg (by rw[hne];simp;omega),if_neg (by rw[hne];simp;omega),hx,if_neg (by have:(sizeLine:Nat)<=1000000000:=(by decide);omega),if_neg (by unfold Builtin.Tuple.tupleTooMany;rw[decide_eq_true_iff];omega)]
  refine J5 (m:=K5 _) (KR ?_ hz2)
  exact Kd ⟨_,rfl,h⟩
section
variable {prog:Kz}{w:Lb}{A:KU}{E:J8->Kb->Prop}{s:Kb}
theorem mul_tuple {t:Addr}{vs:List J8}{k:Int}{tk:Tok}{Q:J8->Kb->Prop}(ht:Ta s.heap t vs.toArray)(h1:1<k)(h2:k<2 ^ 31)(hv:vs≠ [])(hz:vs.length*k.toNat<=sizeLine)
  (h:Q (.ref s.heap.objs.size) { s with heap:=s.heap.push { cls:=.type "tuple",data:=.seq (KC k.toNat vs).flatten.toArray } }) :
  wpAny (model prog w) A (L6 .Mult (.ref t) (.int k tk)) Q E s:=by
 obtain⟨⟨cls,dd,data,sl⟩,ho,hc,n,hd⟩:=id ht;simp only at hc hd;subst hc hd
 have e:Ph (λa b=>a++b) #[] (KC k.toNat vs.toArray)=(KC k.toNat vs).flatten.toArray:=by
  have q:=L2.foldl_rep vs k.toNat []
  simpa using q
 refine Pb (T:="tuple") (U:="int") (by decide) ⟨_,ho,rfl⟩ (λs'=>Qz s' k tk) kx SJ OB qm Sn.lookup
  (Ox OB (Qz s k tk) So (RM _ _) (uG k tk t vs.toArray n dd sl)
   ⟨ho,rfl,⟨_,ho,rfl⟩,Ox PX ⟨_,ho,rfl⟩ F.entry_tuple_mul (F.args_tuple_mul_2 _ _) (zY t vs.toArray n dd sl k tk h1 h2 (by simpa using hv) (by simpa using hz) (by rw[e,Kp,L2.len_rep,R9];exact hz)) ⟨ho,?_⟩⟩)
 rw[e];exact h
end
end Tm
namespace Tr
open PySem PySem.Spec PyProof.Rows L2
section
variable {X:Cx}
def de (x y:T):Rs T:=match x,y with
 | .tup l,.int k=>if 1<k/\k<2 ^ 31/\l≠ []/\l.length*k.toNat<=sizeLine then .ok (.tup (KC k.toNat l).flatten)else .bad
 | x,y=>zX x y
instance (l:List T):Decidable (l≠ []):=by cases l <;> simp <;> infer_instance
theorem dH:OpT X (L6 .Mult) de:=by
 intro pins s σ H O x y vx vy ux uy Q I hf rx ry r1 r2 hp;unfold de at hp
 split at hp
 ·rename_i l k
  split at hp
  ·rename_i h
   obtain⟨a,vs,e1,n1,q1,z1⟩:=Rep.Fk.mp rx;subst e1;cases Rep.AC.mp ry;cases r1;obtain⟨tk,rfl⟩:=r2;obtain⟨its,rv,pl,hz⟩:=I.tuple (SqT.of q1)
   have hl1:=z1.length
   have hl2:=rv.length
   have hne:its≠ []:=λz=>h.2.2.1 (MV (by rw[hl1,hl2,z];rfl))
   refine Tm.mul_tuple pl h.1 h.2.1 hne (by rw[<-hl2,<-hl1];exact h.2.2.2) ?_
   have hn:=I.hok.fresh (Ki _);refine⟨.ref _,_,I.laid (t':=s.toks) (o:=.tup (KC k.toNat vs).flatten) (λb ob q=>Kc _ q) (Ki _) ?_,rfl,hp _ (aN hn _) _ (ft hn (hf _ hn) (z1.rep _))⟩
   refine⟨?_,_,rv.rep k.toNat,Ri _ _⟩
   rw[len_rep,R9,<-hl1];exact h.2.2.2
  ·exact hp.elim
 ·exact Fu pins s σ H O _ _ vx vy ux uy Q I hf rx ry r1 r2 hp
end
def HZ (outer:List (Str×Nc))(N:List Str)(names:List (Str×Nc))(N':List Str)(src:List (Option Nat)):Bool:=
 names.all (λy=>y.2 != .cell||names.lookup y.1 == some .cell)&&names.all (λy=>y.2 != .local||names.lookup y.1 == some .local)&&src.length == N'.length&&
 (J7 N'.length).all (λj=>match src[j]? with
  | some (some i)=>match N'[j]? with
   | some x=>N[i]? == some x&&names.lookup x == some .free
   | none=>true
  | _=>true)&&
 names.all (λy=>y.2 != .free||(outer.lookup y.1 == some .cell||outer.lookup y.1 == some .free))
theorem LcScope.by {X:Cx}{scope:NN}{N N':List Str}{src:List (Option Nat)}{names:List (Str×Nc)}(hN:X.N=N)(hs:X.env.scope.names=names)(hk:scope.kind= .function)(h:HZ names N scope.names N' src=true):LcScope X scope N' src:=by
 unfold HZ at h;simp only[J9]at h;obtain⟨⟨⟨⟨h1,h2⟩,h3⟩,h4⟩,h5⟩:=h
 have a1:=Ks.mp h1
 have a2:=Ks.mp h2
 have a4:=Ks.mp h4
 have a5:=Ks.mp h5;refine⟨hk,λy hy hl=>by have:=a1 y hy;rw[hl]at this;simpa using this,λy hy hl=> ?_,by simpa using h3,λj i x e1 e2=> ?_,λx hx=> ?_⟩
 ·have:=a2 y hy
  rw[hl]at this
  simpa using this
 ·have hj:j<N'.length:=(Km.mp e2).1
  have:=a4 j (Kq.mpr hj);rw[e1]at this;simp only[e2]at this;rw[J9]at this;rw[hN];exact⟨by simpa using this.1,by simpa using this.2⟩
 ·have:=a5 _ hx
  simp only[bne_self_eq_false,Mu,SM]at this
  show X.env.scope.names.lookup x=_\/X.env.scope.names.lookup x=_
  rw[hs];rcases this with z | z
  ·exact .inl (by simpa using z)
  ·exact .inr (by simpa using z)
def bY:Expr->Bool
 | .Starred .. =>false
 | _=>true
def aV:List Expr->Bool
 | [] =>true
 | e::r=>bY e&&aV r
theorem bf {e:Expr}{es:List Expr}{env:Env}(h:bY e=true):Kx (e::es) env=(false,eval e env)::Kx es env:=by
 cases e <;> first | rfl | cases h
theorem gb {pos:Pos}{env:Env}:∀{es:List Expr},aV es=true->(backTo pos (Kx es env)).any (·.1)=false
 | [],_=>rfl
 | e::r,h=>by
  unfold aV at h;rw[J9]at h;rw[bf h.1]
  have ih:=gb (pos:=pos) (env:=env) h.2
  show(false||(backTo pos (Kx r env)).any (·.1))=false
  rw[ih];rfl
section
variable {X:Cx}{a b e:Expr}{es:List Expr}{fa:En->Rs T}{fs:En->Rs (List T)}{pos p p2:Pos}{x:Str}
theorem qa_c {f:En->Rs T}{g:En->Rs (List T)}(he:cj X e f)(hr:oy X es g)(hn:bY e=true:=by rfl):oy X (e::es) (ae f g):=lH he hr (bf hn)
theorem q_cB {id:String}{g:List T->Rs T}(hc:CallT X (.builtin id) g)(hm:X.mg x=none)(hv:KQ x=some (.builtin id))(ha:oy X (e::es) fs)(hn:aV (e::es)=true:=by rfl)(hg:Gl X x:=by rfl)(h1:x≠ "__name__":=by decide)(h2:jj x:=by decide) :
  cj X (.Call (.Name x p) (e::es) [] pos) (cl g fs):=by
 unfold aV at hn;rw[J9]at hn;exact vO hc hm hv ha hg h1 h2 (bf hn.1) (gb hn.2)
theorem q_cT {Ty:String}{g:List T->Rs T}(hc:CallT X (.type Ty) g)(hm:X.mg x=none)(hv:KQ x=some (.type Ty))(ha:oy X (e::es) fs)(hn:aV (e::es)=true:=by rfl)(hg:Gl X x:=by rfl)(h1:x≠ "__name__":=by decide)(h2:jj x:=by decide) :
  cj X (.Call (.Name x p) (e::es) [] pos) (cl g fs):=by
 unfold aV at hn;rw[J9]at hn;exact zp hc hm hv ha hg h1 h2 (bf hn.1) (gb hn.2)
theorem q_c {n k:Nat}{f:Addr}{fd:L7}{ps:List Str}{g:List T->Rs T}(F:GL X.prog X.w X.K X.mg X.base k f fd ps n g)(hr:Room k X.A)(hm:X.mg x=some (.ref f))(hk:N1 X.K (.ref f)=true)(hb:Binds X.K fd ps [])
  (hl:∀Z ts,fs Z= .ok ts->ts.length=n) (ha:oy X (e::es) fs) (hps:ps.length=n:=by rfl) (hn:aV (e::es)=true:=by rfl) (hg:Gl X x:=by rfl) (h2:jj x:=by decide):cj X (.Call (.Name x p) (e::es) [] pos) (cl g fs):=by
 unfold aV at hn;rw[J9]at hn;exact E8 F hr hm hk hb hps hl ha hg h2 (bf hn.1) (gb hn.2)
theorem q_is {tn:Str}{Ty:String}(hm:X.mg "isinstance" =none)(hmt:X.mg tn=none)(hv:KQ tn=some (.type Ty))(ha:cj X a fa)(hn:bY a=true:=by rfl)(hg:Gl X "isinstance":=by rfl)(hgt:Gl X tn:=by rfl)
  (h1:tn≠ "__name__":=by decide) (h2:jj tn:=by decide):cj X (.Call (.Name "isinstance" p) [a,.Name tn p2] [] pos) (o1 (Ay Ty) fa):=
 Hs hm hmt hv ha hg hgt h1 h2 (bf hn) (gb rfl) (bf rfl)
end
theorem IM (Z:En)(ts:List T)(h:ai Z= .ok ts):ts.length=0:=by cases h;rfl
theorem IL {n:Nat}{f:En->Rs T}{g:En->Rs (List T)}(hg:∀Z ts,g Z= .ok ts->ts.length=n)(Z:En)(ts:List T)(h:ae f g Z= .ok ts):ts.length=n+1:=by
 unfold ae at h
 cases q:f Z with
 | bad=>rw[q]at h;cases h
 | err c=>rw[q]at h;cases h
 | ok t=>
  rw[q,aF]at h
  cases q2:g Z with
  | bad=>rw[q2]at h;cases h
  | err c=>rw[q2]at h;cases h
  | ok r=>
   rw[q2,aF]at h;cases h;rw[Kj,hg Z r q2]
theorem gB {k:Nat}{A:KU}(h:Room k A):A.units+60<cLine:=by have:=h.un;omega
theorem Ip {k:Nat}{A:KU}(h:Room k A):A.units+61<cLine:=by have:=h.un;omega
structure Fn (K:J6)(mg:Str->Option J8)(x:Str)(st:Stmt)(ps:List Str)(f:Addr)(fd:L7):Prop where
 fn:L2.Fun K x x st f fd
 bd:Binds K fd ps []
 mg:mg x=some (.ref f)
def val (n m:Nat)(F:En->Rs Fl)(ts:List T):Rs T:=if ts.length=n then bj F (aL m ts)else .bad
theorem Em {n m:Nat}{F:En->Rs Fl}{ts:List T}{t:T}(h:val n m F ts= .ok t):bj F (aL m ts)= .ok t:=by
 unfold val at h
 split at h
 ·exact h
 ·cases h
theorem sp_script {K:J6}{H:Hp}{a:Addr}{ns:List Int}{g:List T->Rs T}{E:XK}(hS:SqL K H a (ns.map V.int))(h:g [.scr ns] = .ok (.bl true)):spP K 1 g [.ref a] H (λv _=>v= .bl true) E:=by
 refine⟨[.scr ns],λ_=>False,Reps.FS ?_ Reps.GT,λ_ z=>z.elim,rfl,?_⟩
 ·unfold Rep;exact⟨a,rfl,λz=>z,hS⟩
 ·rw[h];exact λv H' _ r=>Rep.FB.mp r
theorem rZ {α:Type}{l:List α}{i:Nat}{z:α}(h:l[i]? =some z):l.set i z=l:=by
 obtain⟨hi,rfl⟩:=Km.mp h
 exact List.set_getElem_self hi
def Mn.set (M:Mn)(i:Nat)(m:Ow):Mn:=λj=>if j=i then m else M j
theorem Mn.Jv {M:Mn}{i:Nat}{m:Ow}{a:Addr}(h:(M.set i m).u a):m a\/M.u a:=by
 obtain⟨j,h⟩:=h;unfold Mn.set at h
 by_cases z:j=i
 ·rw[if_pos z]at h;exact .inl h
 ·rw[if_neg z]at h;exact .inr ⟨j,h⟩
theorem Mn.JR {M:Mn}{i:Nat}{m:Ow}:M.set i m i=m:=by unfold Mn.set;rw[if_pos rfl]
theorem Mn.Jz {M:Mn}{i j:Nat}{m:Ow}(h:j≠i):M.set i m j=M j:=by unfold Mn.set;rw[if_neg h]
theorem RowsR.move {K:J6}{O O' P:Ow}{H H':Hp}(hP:∀a,P a->O a\/Nw K H a)(hO:∀a,O' a->O a\/Nw K H a)(h:SameO P H H'):∀{rs:List (List T×List T)} {as:List Addr},(∀b∈as,¬P b)->RowsR K O H rs as->RowsR K O' H' rs as
 | [],_,_,r=>r
 | _::_,_,hb,⟨b,bs,kvs,e1,e2,e3,e4,e5⟩=>by
  subst e1;exact⟨b,bs,kvs,rfl,h _ _ e2 (hb b Kg),e3,e4.move hP hO h,e5.move hP hO h λc hc=>hb c (Ka _ hc)⟩
theorem ORep.move {K:J6}{O O' P M:Ow}{H H':Hp}{o:OT}{v:V}(hP:∀a,P a->O a\/Nw K H a)(hO:∀a,O' a->O a\/Nw K H a)(h:SameO P H H')(hM:∀a,M a->¬ P a)(r:ORep K O M H o v):ORep K O' M H' o v:=by
 cases o with
 | lst l=>obtain⟨a,vs,e1,e2,e3,e4⟩:=r;exact⟨a,vs,e1,e2,h _ _ e3 (hM a ((e2 a).mpr rfl)),e4.move hP hO h⟩
 | dct ks ts=>obtain⟨a,kvs,e1,e2,e3,e4,e5⟩:=r;exact⟨a,kvs,e1,e2,h _ _ e3 (hM a ((e2 a).mpr rfl)),e4,e5.move hP hO h⟩
 | dd ks rows=>
  obtain⟨a,kvs,as,e1,e2,e3,e4,e5,e6,e7,e8⟩:=r;exact⟨a,kvs,as,e1,e2,e3,e4,h _ _ e5 (hM a ((e2 a).mpr (.inl rfl))),e6,e7,e8.move hP hO h λb hb=>hM b ((e2 b).mpr (.inr hb))⟩
theorem RowsR.mtb {K:J6}{O:Ow}{H:Hp}:∀{rs:List (List T×List T)} {as:List Addr},RowsR K O H rs as->∀b∈as,∃kvs,H b=some (.dT kvs)
 | [],_,r,b,hb=>by unfold RowsR at r;subst r;simp at hb
 | _::_,_,⟨b0,bs,kvs,e1,e2,e3,e4,e5⟩,b,hb=>by
  subst e1;rcases Ko.mp hb with rfl | hb
  ·exact⟨kvs,e2⟩
  ·exact e5.mtb b hb
def OT.isD:OT->Bool
 | .lst _=>false
 | _=>true
theorem ORep.kind {K:J6}{O M:Ow}{H:Hp}{o:OT}{v:V}(r:ORep K O M H o v):∀a,M a->if o.isD then ∃kvs,H a=some (.dT kvs)else ∃vs,H a=some (.lst vs):=λa z=>by
 cases o with
 | lst l=>obtain⟨b,vs,e1,e2,e3,e4⟩:=r;cases (e2 a).mp z;exact⟨vs,e3⟩
 | dct ks ts=>obtain⟨b,kvs,e1,e2,e3,e4,e5⟩:=r;cases (e2 a).mp z;exact⟨kvs,e3⟩
 | dd ks rows=>
  obtain⟨b,kvs,as,e1,e2,e3,e4,e5,e6,e7,e8⟩:=r
  rcases(e2 a).mp z with z | z
  ·cases z;exact⟨kvs,e5⟩
  ·exact e8.mtb a z
theorem ORep.mtb {K:J6}{O M:Ow}{H:Hp}{o:OT}{v:V}(r:ORep K O M H o v)(a:Addr)(z:M a):Mtb H a:=by
 have:=r.kind a z
 split at this
 ·exact .inr this
 ·exact .inl this
theorem si {K:J6}{O:Ow}{H:Hp}:∀{rs:List (List T×List T)} {as:List Addr},(∀b∈as,¬O b)->RowsR K O H rs as->Reps K O H (rs.map λr=>T.dct r.1 r.2) (as.map V.ref)
 | [],_,_,r=>by unfold RowsR at r;subst r;exact Reps.GT
 | _::_,_,hn,⟨b,bs,kvs,e1,e2,e3,e4,e5⟩=>by
  subst e1;exact Reps.FS (Rep.Jl.mpr ⟨b,kvs,rfl,hn b Kg,.inl e2,e3,e4⟩) (si (λc hc=>hn c (Ka _ hc)) e5)
theorem RowsR.less {K:J6}{O O':Ow}{H:Hp}(sub:∀a,O' a->O a):∀{rs:List (List T×List T)} {as:List Addr},RowsR K O H rs as->RowsR K O' H rs as
 | [],_,r=>r
 | _::_,_,⟨b,bs,kvs,e1,e2,e3,e4,e5⟩=>⟨b,bs,kvs,e1,e2,e3,e4.less sub,e5.less sub⟩
theorem ORep.rep {K:J6}{O O' M:Ow}{H:Hp}{o:OT}{v:V}(sub:∀a,O' a->O a)(hn:∀a,M a->¬ O' a)(r:ORep K O M H o v):Rep K O' H o.view v:=by
 cases o with
 | lst l=>obtain⟨a,vs,e1,e2,e3,e4⟩:=r;exact Rep.Do.mpr ⟨a,vs,e1,hn a ((e2 a).mpr rfl),e3,e4.less sub⟩
 | dct ks ts=>obtain⟨a,kvs,e1,e2,e3,e4,e5⟩:=r;exact Rep.Jl.mpr ⟨a,kvs,e1,hn a ((e2 a).mpr rfl),.inl e3,e4,e5.less sub⟩
 | dd ks rows=>
  obtain⟨a,kvs,as,e1,e2,e3,e4,e5,e6,e7,e8⟩:=r;refine Rep.Jl.mpr ⟨a,kvs,e1,hn a ((e2 a).mpr (.inl rfl)),.inl e5,e6,?_⟩
  rw[e7];exact si (λb hb=>hn b ((e2 b).mpr (.inr hb))) (e8.less sub)
section
variable {K:J6}{B:Ow}{M:Mn}{H H':Hp}{Z:En}{σ:L2.St}{i:Nat}{o o':OT}{v:V}{m:Ow}
theorem Ev.new (E:Ev K B M H Z σ)(hl:i<Z.length)(hm:∀a,m a->Nw K H a)(s:Same H H')(r:ORep K (OO B (M.set i m)) m H' o v) :
  Ev K B (M.set i m) H' (Z.set i (.ow o)) (σ.set i (some v))/\∀a,(M.set i m).u a->M.u a\/Nw K H a:=by
 have hls:i<σ.length:=by rw[<-E.env.len];exact hl
 have sub:∀a,(M.set i m).u a->M.u a\/Nw K H a:=λa z=>(Mn.Jv z).elim (λw=> .inr (hm a w)) .inl
 have subO:∀a,OO B (M.set i m) a->OO B M a\/Nw K H a:=λa z=>z.elim (λw=> .inl (.inl w)) λw=>(sub a w).elim (λy=> .inl (.inr y)) .inr
 have cp:∀a,Nw K H a->¬ OO B M a:=λa w z=>by
  obtain⟨o,e⟩:=(E.env.trk a z).some;rw[w.1]at e;cases e
 refine⟨⟨⟨by rw[LL,LL];exact E.env.len,λj t e=> ?_,λj o' e=> ?_,λj a z=> .inr ⟨j,z⟩,λj k a z1 z2=> ?_,λa z=> ?_⟩,λa z=> ?_⟩,sub⟩
 ·by_cases hj:i=j
  ·subst hj;rw[KP hl]at e;cases e
  ·rw[KN hj]at e
   obtain⟨w,e1,e2⟩:=E.env.val j t e;exact⟨w,by rw[KN hj];exact e1,(e2.more subO).same s⟩
 ·by_cases hj:i=j
  ·subst hj
   rw[KP hl]at e
   cases e;exact⟨v,KP hls,by rw[Mn.JR];exact r⟩
  ·rw[KN hj]at e
   obtain⟨w,e1,e2⟩:=E.env.own j o' e;refine⟨w,by rw[KN hj];exact e1,?_⟩
   rw[Mn.Jz (λz=>hj z.symm)]
   exact(e2.move (P:=vW) (λ_ z=>z.elim) subO (λb u q _=>q) λ_ _ z=>z).same s
 ·unfold Mn.set at z1 z2
  by_cases hj:j=i
  ·by_cases hk:k=i
   ·exact hj.trans hk.symm
   ·rw[if_pos hj]at z1;rw[if_neg hk]at z2
    exact(cp a (hm a z1) (.inr ⟨k,z2⟩)).elim
  ·by_cases hk:k=i
   ·rw[if_neg hj]at z1;rw[if_pos hk]at z2
    exact(cp a (hm a z2) (.inr ⟨j,z1⟩)).elim
   ·rw[if_neg hj]at z1;rw[if_neg hk]at z2
    exact E.env.dis j k a z1 z2
 ·rcases z with z | z
  ·exact(E.env.trk a (.inl z)).same s
  ·rcases Mn.Jv z with w | w
   ·exact r.mtb a w
   ·exact(E.env.trk a (.inr w)).same s
 ·intro hb
  rcases Mn.Jv z with w | w
  ·exact cp a (hm a w) (.inl hb)
  ·exact E.mine a w hb
theorem Ev.put (E:Ev K B M H Z σ)(hi:Z[i]? =some (.ow o))(hs:σ[i]? =some (some v))(s:SameO (M i) H H')(r:ORep K (OO B M) (M i) H' o' v):Ev K B M H' (Z.set i (.ow o')) σ/\SameO M.u H H':=by
 have hl:i<Z.length:=(Km.mp hi).1
 have inO:∀a,M i a->OO B M a\/Nw K H a:=λa z=> .inl (.inr ⟨i,z⟩)
 have idO:∀a,OO B M a->OO B M a\/Nw K H a:=λa z=> .inl z
 refine⟨⟨⟨by rw[LL];exact E.env.len,λj t e=> ?_,λj o2 e=> ?_,E.env.sub,E.env.dis,λa z=> ?_⟩,E.mine⟩,λb u e n=>s b u e λz=>n ⟨i,z⟩⟩
 ·by_cases hj:i=j
  ·subst hj;rw[KP hl]at e;cases e
  ·rw[KN hj]at e
   obtain⟨w,e1,e2⟩:=E.env.val j t e;exact⟨w,e1,e2.move inO idO s⟩
 ·by_cases hj:i=j
  ·subst hj
   rw[KP hl]at e
   cases e;exact⟨v,hs,r⟩
  ·rw[KN hj]at e
   obtain⟨w,e1,e2⟩:=E.env.own j o2 e;exact⟨w,e1,e2.move inO idO s λa z y=>hj (E.env.dis i j a y z)⟩
 ·by_cases hz:M i a
  ·exact r.mtb a hz
  ·rcases E.env.trk a z with⟨vs,e⟩ | ⟨kvs,e⟩
   ·exact .inl ⟨vs,s _ _ e hz⟩
   ·exact .inr ⟨kvs,s _ _ e hz⟩
def disown (i:Nat)(Z:En):En:=match Z[i]? with
 | some (.ow o)=>Z.set i (.va o.view)
 | _=>Z
theorem EnvM.disown {O O':Ow}{Z:En}(E:EnvM K O M H Z σ)(i:Nat)(sub:∀a,O' a->O a)(hn:∀a,M i a->¬ O' a)(hin:∀j a,j≠i->M j a->O' a):EnvM K O' (M.set i vW) H (disown i Z) σ:=by
 have base:EnvM K O' (M.set i vW) H (Z.set i (match Z[i]? with | some (.ow o)=> .va o.view | some x=>x | none=> .em)) σ:=by
  refine⟨by rw[LL];exact E.len,λj t e=> ?_,λj o e=> ?_,λj a z=> ?_,λj k a z1 z2=> ?_,λa z=>E.trk a (sub a z)⟩
  ·by_cases hj:i=j
   ·subst hj
    by_cases hl:i<Z.length
    ·rw[KP hl]at e
     cases q:Z[i]? with
     | none=>rw[q]at e;cases e
     | some z=>
      rw[q]at e
      cases z with
      | em=>cases e
      | va t'=>cases e;obtain⟨w,e1,e2⟩:=E.val i _ q;exact⟨w,e1,e2.less sub⟩
      | ow o=>cases e;obtain⟨w,e1,e2⟩:=E.own i _ q;exact⟨w,e1,e2.rep sub hn⟩
    ·rw[Lv (by rw[LL];omega)]at e;cases e
   ·rw[KN hj]at e
    obtain⟨w,e1,e2⟩:=E.val j t e;exact⟨w,e1,e2.less sub⟩
  ·by_cases hj:i=j
   ·subst hj
    by_cases hl:i<Z.length
    ·rw[KP hl]at e
     cases q:Z[i]? with
     | none=>rw[q]at e;cases e
     | some z=>
      rw[q]at e
      cases z with
      | em=>cases e
      | va t'=>cases e
      | ow o=>cases e
    ·rw[Lv (by rw[LL];omega)]at e;cases e
   ·rw[KN hj]at e
    obtain⟨w,e1,e2⟩:=E.own j o e;refine⟨w,e1,?_⟩
    rw[Mn.Jz (λz=>hj z.symm)]
    exact e2.move (P:=vW) (λ_ z=>z.elim) (λa z=> .inl (sub a z)) (λb u q _=>q) λ_ _ z=>z
  ·unfold Mn.set at z
   by_cases hj:j=i
   ·rw[if_pos hj]at z;exact z.elim
   ·rw[if_neg hj]at z;exact hin j a hj z
  ·unfold Mn.set at z1 z2
   by_cases hj:j=i
   ·rw[if_pos hj]at z1;exact z1.elim
   ·by_cases hk:k=i
    ·rw[if_pos hk]at z2;exact z2.elim
    ·rw[if_neg hj]at z1;rw[if_neg hk]at z2;exact E.dis j k a z1 z2
 unfold Tr.disown
 cases q:Z[i]? with
 | none=>rw[q,List.set_eq_of_length_le (O6.mp q)]at base;exact base
 | some z=>
  rw[q]at base
  cases z with
  | em=>rw[rZ q]at base;exact base
  | va t=>rw[rZ q]at base;exact base
  | ow o=>exact base
theorem Ev.disown (E:Ev K B M H Z σ)(i:Nat):Ev K B (M.set i vW) H (disown i Z) σ/\∀a,(M.set i vW).u a->M.u a:=by
 have sub:∀a,(M.set i vW).u a->M.u a:=λa z=>(Mn.Jv z).elim (λw=>w.elim) id
 refine⟨⟨E.env.disown i (λa z=>z.elim .inl λw=> .inr (sub a w)) (λa z y=> ?_) λj a hj z=> .inr ⟨j,by rw[Mn.Jz hj];exact z⟩,λa z=>E.mine a (sub a z)⟩,sub⟩
 rcases y with y | ⟨j,y⟩
 ·exact E.mine a ⟨i,z⟩ y
 ·unfold Mn.set at y
  by_cases hj:j=i
  ·rw[if_pos hj]at y;exact y
  ·rw[if_neg hj]at y;exact hj (E.env.dis j i a y z)
end
section
variable {X:Cx}{a:Expr}{es:List Expr}{fa:En->Rs T}{pos p2 p3:Pos}{x:Str}
theorem Ev.subO {K:J6}{B:Ow}{M:Mn}{H:Hp}{i:Nat}{m:Ow}(hm:∀a,m a->Nw K H a)(a:Addr)(z:OO B (M.set i m) a):OO B M a\/Nw K H a:=
 z.elim (λw=> .inl (.inl w)) λw=>(Mn.Jv w).elim (λy=> .inr (hm a y)) λy=> .inl (.inr y)
theorem CP {K:J6}{H H1:Hp}(s:Same H H1){a:Addr}(n:Nw K H1 a):Nw K H a:=(gx (SameO.of (P:=vW) s) n).elim (λz=>z.elim) id
def G0 (X:Cx)(t:TA):TE:=λσ H Q=>t σ H λxs H1=>xs.length<=sizeLine/\∀p,Nw X.K H1 p->Q (.ref p) (upd H1 p (.lst xs))
theorem CB {t:TA}(h:PA X es t):PE X (.List es pos) (G0 X t):=by
 intro pins s σ H Q I hq;refine Ry (bX (h pos pins s σ H _ I hq) λus s1 ⟨xs,H1,I1,r,z,q⟩=>⟨by rw[<-r.length];exact z,?_⟩)
 have hf:H1 s1.heap.objs.size=none:=I1.hok.fresh (Ki _)
 have hk:X.K.lookup s1.heap.objs.size=none:=by
  cases q:X.K.lookup s1.heap.objs.size with
  | none=>rfl
  | some o=>exact absurd (Kk (I1.kIn _ o q)) (KW _)
 refine⟨.ref s1.heap.objs.size,upd H1 s1.heap.objs.size (.lst xs),I1.laid (t':=s1.toks) (λb u e=>Kc _ e) (Ki _) ?_,rfl,q _ ⟨hf,hk⟩⟩
 exact⟨z,us,0,r,Kn _ rfl⟩
def hZ (i:Nat)(f:En->Rs (List T))(Z:En):Rs Fl:=do
 let l <-f Z
 if i<Z.length/\l.length<=sizeLine then .ok (.nx (Z.set i (.ow (.lst l))))else .bad
theorem B7 (i:Nat){f:En->Rs (List T)}(hN:X.N.Nodup)(ha:oy X es f)(hi:X.N[i]? =some x:=by rfl)(hx:Loc X.env.scope x:=by first | exact MU rfl | exact Ma rfl)(hs:L5 (.List es p2) (some (.Name x p3)) pos.line X.env=pure false:=by rfl)
  (hf:X.fn x=true\/X.env.scope.names.lookup x=some .local:=by first | exact .inl rfl | exact .inr rfl | assumption):pP X (.Assign [.Name x p3] (.List es p2) pos) (hZ i f):=PS.imp (zw hN hi hx (CB ha) hs hf) λD σ H hh_=>by
 obtain⟨Z,B,M,E,h⟩:=hh_;refine⟨Z,OO B M,E.o,?_⟩
 unfold hZ at h
 cases q:f Z with
 | bad=>rw[q]at h;exact h.elim
 | err c=>rw[q]at h;exact PostF.xa h
 | ok l=>
  rw[q,aF]at h;intro H1 s1 vs rs
  by_cases hl:i<Z.length/\l.length<=sizeLine
  ·rw[if_pos hl]at h
   refine⟨by rw[<-rs.length];exact hl.2,λp hp=> ?_⟩
   have hm:∀a,a=p->Nw X.K H1 a:=λa z=>z▸hp
   obtain⟨E2,sub⟩:=(E.same s1).new (m:=λa=>a=p) (o:=.lst l) (v:=.ref p) (H':=upd H1 p (.lst vs)) hl.1 hm (aN hp.1 _) ⟨p,vs,rfl,λb=>OC,aT,(rs.more (Ev.subO hm)).same (aN hp.1 _)⟩
   exact h _ _ _ (SameO.of (s1.trans (aN hp.1 _))) E2 λa z=>(sub a z).imp_right (CP s1)
  ·rw[if_neg hl]at h
   exact h.elim
def lp (i:Nat)(f:En->Rs T)(Z:En):Rs Fl:=match Z[i]? with
 | some (.ow (.lst l))=>f Z >>= λt=>if l.length<sizeLine then .ok (.nx (Z.set i (.ow (.lst (l++ [t])))))else .bad
 | _=> .bad
theorem Ev.putL {K:J6}{B:Ow}{M:Mn}{H:Hp}{Z:En}{σ:L2.St}{i:Nat}{o:OT}{l':List T}{b:Addr}{vs':List V}(E:Ev K B M H Z σ)(hi:Z[i]? =some (.ow o))(hs:σ[i]? =some (some (.ref b)))(hM:∀c,M i c↔c=b)(r:Reps K (OO B M) H l' vs') :
  Ev K B M (upd H b (.lst vs')) (Z.set i (.ow (.lst l'))) σ/\SameO M.u H (upd H b (.lst vs')):=by
 have sm:SameO (M i) H (upd H b (.lst vs')):=λc u e nb=>by rw[aJ (λz=>nb ((hM c).mpr z))];exact e
 exact E.put hi hs sm ⟨b,vs',rfl,hM,aT,r.move (P:=M i) (λa z=> .inl (.inr ⟨i,z⟩)) (λa z=> .inl z) sm⟩
theorem EV (i:Nat){apos cpos:Pos}(ha:cj X a fa)(hN:X.N[i]? =some x:=by rfl)(hv:yC X.env.scope x:=by first | exact MU rfl | exact Ma (MU rfl) | exact Ma (Ma rfl))(hn:bY a=true:=by rfl)
  (hbase:LZ (.Name x p2) "append" X.env (eval (.Name x p2) X.env)=eval (.Name x p2) X.env:=by rfl) (hline:(apos.endLine == cpos.line)=true:=by rfl)
  (hd:jj x:=by decide) (hcd:(x == ("__classdict__" : Str))=false:=by decide)
  (hsw:L5 (.Call (.Attribute (.Name x p2) "append" apos) [a] [] cpos) none pos.line X.env=pure false:=by rfl):pP X (.Expr (.Call (.Attribute (.Name x p2) "append" apos) [a] [] cpos) pos) (lp i fa):=by
 have h1:Kx [a] X.env=(false,eval a X.env)::Kx [] X.env:=bf hn;refine PS.imp (qt (DP NG PySem.F.slot_list_append PySem.F.type_list_append oZ (qw hN hv hd hcd) (iO ha mx h1) hbase ?_ hline h1 rfl) hsw) λD σ H ⟨Z,B,M,E,h⟩=> ?_
 ·rw[h1];rfl
 unfold lp at h
 split at h
 ·rename_i l hl
  obtain⟨v0,e1,b,vs,rfl,hM,e3,e4⟩:=E.env.own i _ hl;refine⟨.ref b,e1,.inl ⟨rfl,vs,SqL.of e3⟩,Z,OO B M,E.o,?_⟩
  cases q:fa Z with
  | bad=>rw[q]at h;exact h.elim
  | err c=>rw[q]at h;exact PostF.xa h
  | ok t=>
   rw[q,aF]at h
   split at h
   ·rename_i hz
    intro H1 s1 v r
    have e3':=s1 _ _ e3;refine⟨b,vs,v,rfl,rfl,e3',by rw[<-e4.length];exact hz,?_⟩
    obtain⟨g1,g2⟩:=(E.same s1).putL (l':=l++ [t]) (vs':=vs++ [v]) hl e1 hM ((e4.same s1).append (Reps.FS r Reps.GT));exact h σ _ M (λc o e nb=>g2 c o (s1 _ _ e) nb) g1 λc z=> .inl z
   ·exact h.elim
 ·exact h.elim
def Gg (i:Nat)(l:List T)(Z:En):T->Rs Fl
 | .lst m=>if l.length+m.length<=sizeLine then .ok (.nx (Z.set i (.ow (.lst (l++m)))))else .bad
 | _=> .bad
def mm (i:Nat)(f:En->Rs T)(Z:En):Rs Fl:=match Z[i]? with
 | some (.ow (.lst l))=>f Z >>= Gg i l Z
 | _=> .bad
theorem EO (i:Nat){apos cpos:Pos}(ha:cj X a fa)(hN:X.N[i]? =some x:=by rfl)(hv:yC X.env.scope x:=by first | exact MU rfl | exact Ma (MU rfl) | exact Ma (Ma rfl))(hn:bY a=true:=by rfl)
  (hbase:LZ (.Name x p2) "extend" X.env (eval (.Name x p2) X.env)=eval (.Name x p2) X.env:=by rfl) (hline:(apos.endLine == cpos.line)=true:=by rfl)
  (hd:jj x:=by decide) (hcd:(x == ("__classdict__" : Str))=false:=by decide)
  (hsw:L5 (.Call (.Attribute (.Name x p2) "extend" apos) [a] [] cpos) none pos.line X.env=pure false:=by rfl):pP X (.Expr (.Call (.Attribute (.Name x p2) "extend" apos) [a] [] cpos) pos) (mm i fa):=by
 have h1:Kx [a] X.env=(false,eval a X.env)::Kx [] X.env:=bf hn;refine PS.imp (qt (DP NG PySem.F.slot_list_extend PySem.F.type_list_extend xP (qw hN hv hd hcd) (iO ha mx h1) hbase ?_ hline h1 rfl) hsw) λD σ H ⟨Z,B,M,E,h⟩=> ?_
 ·rw[h1];rfl
 unfold mm at h
 split at h
 ·rename_i l hl
  obtain⟨v0,e1,b,vs,rfl,hM,e3,e4⟩:=E.env.own i _ hl;refine⟨.ref b,e1,.inl ⟨rfl,vs,SqL.of e3⟩,Z,OO B M,E.o,?_⟩
  cases q:fa Z with
  | bad=>rw[q]at h;exact h.elim
  | err c=>rw[q]at h;exact PostF.xa h
  | ok t=>
   rw[q,aF]at h;unfold Gg at h
   split at h
   ·rename_i m
    split at h
    ·rename_i hz
     intro H1 s1 v r;obtain⟨c,ws,rfl,nO,hc,rm⟩:=Rep.Do.mp r
     have e3':=s1 _ _ e3;refine⟨b,c,vs,ws,rfl,rfl,e3',hc,by rw[<-e4.length,<-rm.length];exact hz,?_⟩
     obtain⟨g1,g2⟩:=(E.same s1).putL (l':=l++m) (vs':=vs++ws) hl e1 hM ((e4.same s1).append rm);exact h σ _ M (λc o e nb=>g2 c o (s1 _ _ e) nb) g1 λc z=> .inl z
    ·exact h.elim
   ·exact h.elim
 ·exact h.elim
def qk (i:Nat)(F:En->Rs Fl)(Z:En):Rs Fl:=F (disown i Z)
theorem ES (i:Nat){st:Stmt}{F:En->Rs Fl}(h:pP X st F):pP X st (qk i F):=PS.imp h λD σ H hh_=>by
 obtain⟨Z,B,M,E,q⟩:=hh_;obtain⟨E',sub⟩:=E.disown i;exact⟨disown i Z,B,_,E',PostF.later q (λ_ _ e _=>e) λa z=> .inl (sub a z)⟩
mutual
def T.nk (D:Bool):T->Bool
 | .scr _=>false
 | .dct _ ts=> !D&&nks D ts
 | .lst l=>D&&nks D l
 | .tup l=>nks D l
 | _=>true
def nks (D:Bool):List T->Bool
 | [] =>true
 | t::l=>t.nk D&&nks D l
end
mutual
theorem Rep.lend {K:J6}{O O':Ow}{H:Hp}{D:Bool}(hk:∀a,O a->O' a\/if D then ∃kvs,Rd H a (.dT kvs)else ∃vs,H a=some (.lst vs)):∀{t:T} {v:V},t.nk D=true->Rep K O' H t v->Rep K O H t v
 | .non,_,_,r=>by unfold Rep at r ⊢;exact r
 | .bl _,_,_,r=>by unfold Rep at r ⊢;exact r
 | .int _,_,_,r=>by unfold Rep at r ⊢;exact r
 | .str _,_,_,r=>by unfold Rep at r ⊢;exact r
 | .tup l,_,h,r=>by
  unfold Rep at r ⊢;unfold T.nk at h;obtain⟨a,vs,e,n,q,z⟩:=r;refine⟨a,vs,e,λp=>(hk a p).elim n λw=> ?_,q,Reps.lend hk h z⟩
  split at w
  ·obtain⟨_,w | ⟨_,w⟩⟩:=w <;> rw[q]at w <;> cases w
  ·obtain⟨_,w⟩:=w;rw[q]at w;cases w
 | .lst l,_,h,r=>by
  unfold Rep at r ⊢;unfold T.nk at h;rw[J9]at h;obtain⟨h1,h2⟩:=h;subst h1;obtain⟨a,vs,e,n,q,z⟩:=r;refine⟨a,vs,e,λp=>(hk a p).elim n λw=> ?_,q,Reps.lend hk h2 z⟩
  rw[if_pos rfl]at w;obtain⟨_,w | ⟨_,w⟩⟩:=w <;> rw[q]at w <;> cases w
 | .scr l,_,h,r=>by unfold T.nk at h;cases h
 | .dct ks ts,_,h,r=>by
  unfold Rep at r ⊢;unfold T.nk at h;rw[J9]at h;obtain⟨h1,h2⟩:=h
  cases D with
  | true=>cases h1
  | false=>
   obtain⟨a,kvs,e,n,q,k,z⟩:=r;refine⟨a,kvs,e,λp=>(hk a p).elim n λw=> ?_,q,k,Reps.lend hk h2 z⟩
   rw[if_neg KL]at w;obtain⟨_,w⟩:=w;rcases q with q | ⟨_,q⟩ <;> rw[q]at w <;> cases w
theorem Reps.lend {K:J6}{O O':Ow}{H:Hp}{D:Bool}(hk:∀a,O a->O' a\/if D then ∃kvs,Rd H a (.dT kvs)else ∃vs,H a=some (.lst vs)):∀{l:List T} {vs:List V},nks D l=true->Reps K O' H l vs->Reps K O H l vs
 | [],_,_,r=>by unfold Reps at r ⊢;exact r
 | t::l,_,h,r=>by
  unfold Reps at r ⊢;unfold nks at h;rw[J9]at h;obtain⟨v,ws,e,p,q⟩:=r;exact⟨v,ws,e,Rep.lend hk h.1 p,Reps.lend hk h.2 q⟩
end
def ln (i:Nat)(f:En->Rs T)(Z:En):Rs T:=match Z[i]? with
 | some (.ow o)=>f (disown i Z) >>= λt=>if t.nk o.isD=true then .ok t else .bad
 | _=>f Z
def FL (i:Nat)(f:En->Rs Bool)(Z:En):Rs Bool:=f (disown i Z)
theorem pT {K:J6}{O:Ow}{M:Mn}{H:Hp}{Z:En}{σ:L2.St}(E:EnvM K O M H Z σ)(i:Nat):EnvM K (λa=>O a/\¬ M i a) (M.set i vW) H (disown i Z) σ:=
 E.disown i (λa z=>z.1) (λa z y=>y.2 z) λj a hj z=>⟨E.sub j a z,λy=>hj (E.dis j i a z y)⟩
theorem q_ln (i:Nat){e:Expr}{f:En->Rs T}(h:cj X e f):cj X e (ln i f):=PE.imp h λσ H Q ⟨Z,O,⟨M,E⟩,q⟩=>by
 unfold ln at q
 split at q
 ·rename_i o hi
  refine⟨disown i Z,_,⟨_,pT E i⟩,?_⟩
  obtain⟨w,e1,r⟩:=E.own i o hi;refine Post.mono (Post.bind q) λt H' s q2 v rv=> ?_
  split at q2
  ·rename_i hk
   have kd:=(r.same s).kind;refine q2 H' (Same.refl _) v (Rep.lend (λa z=> ?_) hk rv)
   by_cases hm:M i a
   ·refine .inr ?_
    have this:=kd a hm
    by_cases hD:o.isD=true
    ·rw[if_pos hD]at this ⊢;exact this.imp λ_ z=> .inl z
    ·rw[if_neg hD]at this ⊢;exact this
   ·exact .inl ⟨z,hm⟩
  ·exact q2.elim
 ·exact⟨Z,O,⟨M,E⟩,q⟩
theorem Hi (i:Nat){e:Expr}{f:En->Rs Bool}(h:vm X e f):vm X e (FL i f):=PT.imp h λσ H Q ⟨Z,O,⟨M,E⟩,q⟩=>⟨disown i Z,_,⟨_,pT E i⟩,q⟩
end
end Tr
namespace Tr
open PySem L2
def ou:List T->List T->List Key->Option T
 | k'::ks,v::vs,k=>if keyOf k'=some k then some v else ou ks vs k
 | _,_,_=>none
def gC (k v:T):List T->List T->List T×List T
 | k'::ks,v'::vs=>if keyOf k'=keyOf k then(k'::ks,v::vs)else(k'::(gC k v ks vs).1,v'::(gC k v ks vs).2)
 | _,_=>([k],[v])
def tV (x y:T):Rs T:=match x,keyOf y with
 | .dct ks vs,some k=>match ou ks vs k with
  | some t=> .ok t
  | none=> .bad
 | _,_=> .bad
def gR (x y:T):Rs T:=match x,keyOf y with
 | .dct ks vs,some k=>match ou ks vs k with
  | some t=> .ok t
  | none=> .ok .non
 | _,_=> .bad
def oD (g:T->T->Rs T)(fa fb:En->Rs T)(Z:En):Rs T:=fa Z >>= λx=>match x with
 | .dct ks vs=>fb Z >>= g (.dct ks vs)
 | _=> .bad
def oL (g:T->T->Rs T)(fa fb:En->Rs T)(Z:En):Rs T:=fa Z >>= λx=>match x with
 | .lst l=>fb Z >>= g (.lst l)
 | _=> .bad
def GP:List T->Option (List (T×T))
 | [] =>some []
 | .tup [k,v] ::l=>match keyOf k,GP l with
  | some _,some r=>some ((k,v)::r)
  | _,_=>none
 | _=>none
def iw:List (T×T)->List T×List T->List T×List T
 | [],d=>d
 | (k,v)::r,d=>iw r (gC k v d.1 d.2)
def wL:List T->Rs T
 | [.lst l] =>match GP l with
  | some ps=>if l.length<=1000 then .ok (.dct (iw ps ([],[])).1 (iw ps ([],[])).2)else .bad
  | none=> .bad
 | _=> .bad
def oJ (i:Nat)(f:En->Rs T)(Z:En):Rs Fl:=f Z >>= λt=>wL [t] >>= λd=>match d with
 | .dct ks vs=>if i<Z.length then .ok (.nx (Z.set i (.ow (.dct ks vs))))else .bad
 | _=> .bad
def xv (i:Nat)(fk fv:En->Rs T)(Z:En):Rs Fl:=match Z[i]? with
 | some (.ow (.dct ks vs))=>fv Z >>= λv=>fk Z >>= λk=>match keyOf k with
  | some _=>if ks.length<1000 then .ok (.nx (Z.set i (.ow (.dct (gC k v ks vs).1 (gC k v ks vs).2))))else .bad
  | none=> .bad
 | _=> .bad
def cM:List T->Option (List Int)
 | [] =>some []
 | .int i::l=>(cM l).map (i:: ·)
 | _=>none
def lmin (i:Int):List Int->Int
 | [] =>i
 | j::l=>lmin (if j<i then j else i) l
def m5 (i:Int):List Int->Int
 | [] =>i
 | j::l=>m5 (if i<j then j else i) l
def yX:List T->Rs T
 | [.lst l] =>match cM l with
  | some ns=> .ok (.int ns.sum)
  | none=> .bad
 | _=> .bad
def FK:List T->Rs T
 | [.lst l] =>match cM l with
  | some (i::ns)=> .ok (.int (m5 i ns))
  | _=> .bad
 | [.int i,.int j] => .ok (.int (m5 i [j]))
 | _=> .bad
def i7 (x:T):List T->Nat->Option Nat
 | [],_=>none
 | t::l,n=>if aQ t x then some n else i7 x l (n+1)
def fN (y x:T):Rs T:=match y with
 | .lst l=>if (x.dep<=60\/deps l<=60)/\x.nd=true/\nds l=true then match i7 x l 0 with
   | some n=> .ok (.int n)
   | none=> .bad
  else .bad
 | _=> .bad
def za (i:Nat)(f:En->Rs T)(Z:En):Rs Fl:=match Z[i]? with
 | some (.va (.int a))=>f Z >>= λy=>match y with
  | .int b=> .ok (.nx (Z.set i (.va (.int (a+b)))))
  | _=> .bad
 | _=> .bad
def lR (f:En->Rs (List T))(Z:En):Rs T:=f Z >>= λx=>match x with
 | [.int i,.int j] =>if nu i&&nu j&&decide ((j - i).toNat<=1000)then .ok (.lst (rng i j))else .bad
 | [.int j] =>if nu j&&decide (j.toNat<=1000)then .ok (.lst (rng 0 j))else .bad
 | _=> .bad
def FU:Nat:=1000000000000
end Tr
namespace Tr
open PySem PySem.Spec PyProof.Rows L2
theorem jm {h b b':Heap}:∀{l:List Env},h.FunFrames b l->(∀a∈l.filterMap (·.frame),b'.get? a=none)->h.FunFrames b' l
 | [],_,_=>trivial
 | env::ck,⟨hk,⟨L,o,hf,hn,ho,hd⟩,hr⟩,q=>by
  rw[MO,hf]at q;exact⟨hk,⟨L,o,hf,q L Kg,ho,hd⟩,jm hr λa ha=>q a (Ka _ ha)⟩
section
variable {M:Model}{A:KU}{E:J8->Kb->Prop}{s:Kb}
structure Gone (fs:List Addr)(C e:Addr)(T:Option Addr)(h h':Heap)(T':Addr):Prop where
 flt:Jj h' C e (some T')
 new:T=some T'\/h.get? T'=none
 keep:∀b o,b∉fs->b≠e->T≠some b->h.get? b=some o->h'.get? b=some o
 slot:∀b o,b∈fs->h.get? b=some o->∃sl,h'.get? b=some { o with slots:=sl }
theorem FN {base:Heap}{env:Env}{outer:List Env}{L C e:Addr}{T:Option Addr}{Q:Unit->Kb->Prop}(hfr:A.frames=some (env::outer))(hl:s.heap.FunFrames base (env::outer))(hf:env.frame=some L)
  (F:Jj s.heap C e T) (h:∀h' T',Gone ((env::outer).filterMap (·.frame)) C e T s.heap h' T'->Q () { s with heap:=h' }):wpAny M A (leaving env (.ref e)) Q E s:=by
 generalize hB:SH s.heap (e::(T.toList++(env::outer).filterMap (·.frame)))=B
 have bm:∀b,b∈e::(T.toList++(env::outer).filterMap (·.frame))->B.get? b=none:=λb m=>by rw[<-hB];exact QF _ m
 have hl':s.heap.FunFrames B (env::outer):=jm hl λa ha=>bm a (Ka _ (KZ _ ha))
 have hst:B.StaysIn s.heap:=λb o q=>by rw[<-hB]at q;exact Q9 _ q
 have hen:B.get? e=none:=bm e Kg
 have main:∀h',Heap.Left B (env::outer) e (.ref C) s.heap h'->Q () { s with heap:=h' }:=λh' ⟨x1,x2,⟨oe,vs,T',oT,ts,he,hc,hd,h1,hnT,hTe,hT,hdT,h3⟩,x4⟩=>by
  refine h h' T' ⟨⟨hTe,oe,vs,he,hc,hd,h1,oT,ts,hT,hdT,h3⟩,?_,λb o n1 n2 n3 q=> ?_,λb o m q=> ?_⟩
  ·cases q:s.heap.get? T' with
   | none=>exact .inr rfl
   | some o=>
    left
    by_cases z:T'∈e::(T.toList++(env::outer).filterMap (·.frame))
    ·rcases Ko.mp z with z | z
     ·exact absurd z hTe
     ·rcases Ls.mp z with z | z
      ·cases T with
       | none=>simp at z
       | some t=>simp at z;rw[z]
      ·obtain⟨_,o',ho',hnf⟩:=x2.mem z
       rw[hT]at ho';cases ho';exact absurd hdT (hnf ts)
    ·rw[<-hB,Oy _ q z]at hnT;cases hnT
  ·refine x1 b o ?_
   rw[<-hB];refine Oy _ q λz=> ?_
   rcases Ko.mp z with z | z
   ·exact n2 z
   ·rcases Ls.mp z with z | z
    ·cases T with
     | none=>simp at z
     | some t=>simp at z;exact n3 (by rw[z])
    ·exact n1 z
  ·obtain⟨_,o',ho',hnf⟩:=hl.mem m
   rw[q]at ho';cases ho';exact x4 b o q hnf
 cases T with
 | none=>
  obtain⟨oe,vs,he,hc,hd,h1⟩:=F;refine wpAny_leaving_first hfr hl' hf he hst hen hd h1 λh' x=>main h' ?_
  rw[hc]at x;exact x
 | some t=>
  obtain⟨hte,oe,vs,he,hc,hd,h1,oT,ts,hT,hdT,h3⟩:=F;exact wpAny_leaving_next hfr hl' hf ⟨oe,vs,t,oT,ts,he,hc,hd,h1,bm t (Ka _ (On _ (by simp))),hte,hT,hdT,h3⟩ hst hen main
end
abbrev wU:List J8:=[.type "ValueError",.type "Exception",.type "BaseException",.type "object"]
structure OwnExc (K:J6)(C:Addr)(bm:List J8):Prop where
 at_:∀h:Heap,K.In h->∃nm q N bs hdct sn sub ab col dd k0 k1 k2 k3 k5 mN,h.get? C=some (OJ nm q C N bs bm hdct sn sub ab col dd k0 k1 k2 k3 k5 "ValueError.__new__")/\h.Ns N mN/\mN "__init__" =none/\OwnTail h wU bm
theorem OwnExc.base {K:J6}{C:Addr}{bm:List J8}(O:OwnExc K C bm){h:Heap}(k:K.In h):bm.contains (.type "BaseException")=true:=by
 obtain⟨_,_,_,_,_,_,_,_,_,_,_,_,_,_,_,_,_,_,_,T⟩:=O.at_ h k;exact T.hasType (by decide)
def B1 (c:Str)(_:En):Rs Fl:=.err c
section
variable {X:Cx}
theorem zj {c:Str}{msg:Str}{C:Addr}{bm:List J8}{np p1 cpos pos:Pos}{j:Nat}(O:OwnExc X.K C bm)(hc:X.calm=true)(hm:X.mg c=some (.ref C))(hg:Gl X c:=by rfl)(hd:jj c:=by decide) :
  pP X (.Raise (some (.Call (.Name c np) [.Constant (.str msg) j p1] [] cpos)) none pos) (B1 c):=by
 intro pins s σ H D I ⟨Z,B,M,E,k⟩
 have k:XA X M.u H c:=k;obtain⟨nm,q,N,bs,hdct,sn,sub,ab,col,dd,k0,k1,k2,k3,k5,mN,hC,hN,hni,T⟩:=O.at_ s.heap I.kIn;refine wpAny_Raise_call_subU (C:=C) (mN:=mN) (nm:=nm) (q:=q) (N:=N) (bs:=bs) (hdct:=hdct) (sn:=sn) (sub:=sub) (ab:=ab) (col:=col) (dd:=dd) (k0:=k0) (k1:=k1) (k2:=k2) (k3:=k3) (k5:=k5) ON (Bn:="ValueError") (by decide) ON (O.base I.kIn) (I.ok.hd hc) (by rfl) hni (lL I hg hm ⟨rfl,?_⟩ hd)
 show wpAny _ _ (evalArgs (.ref C) true ((false,eval (.Constant (.str msg) j p1) X.env)::backTo cpos (Kx [] X.env)) []) _ _ s
 refine Nl (Ms (Calls.Constant_str (Me ?_)))
 refine⟨rfl,by show 1<=sizeLine;decide,hC,hN,T,λh' e hm'=>k pins _ _ ?_⟩
 obtain⟨t,ht,ht2,ht3⟩:=hm'.there
 have I':Inv X pins σ H { s with heap:=h',toks:=s.toks+1 }:=I.kept (t':=s.toks+1) λb o z=>hm'.keeps b o z
 refine⟨e,none,C,σ,H,rfl,hm,I',λb o z _=>z,?_,?_,⟨_,_,ht,rfl,rfl,rfl⟩,(λt z=>by cases z),λp hp=>⟨λz=> ?_,λz=>by cases z⟩⟩
 ·exact sT I hm'.new
 ·exact λhex=>qL I hex hm'.new
 ·have:=(I.pin p hp).1
  rw[z,show s.heap.get? e=none from hm'.new]at this
  cases this
end
section
variable {P:Kz}{w:Lb}{K:J6}{mg:Str->Option J8}{base:Heap}
theorem Ge {x qual:Str}{st:Stmt}{f:Addr}{fd:L7}{N ps:List Str}{k n:Nat}{g:List T->Rs T}(Fn:L2.Fun K x qual st f fd)(S:ax N ps (aj st))(hn:ps.length=n)
  (hbody:∀(cdv:J8),fd.code=cdv->∀(A:KU) (outer:List Env) (s:Kb) (H:Hp) (E:XK),Room k (A.deeper (envOfC qual (aj st) s.heap.objs.size f cdv)) →
   ∃F,(∀xe,lD ((iy CX0 P w K mg base N qual (aj st) f cdv A outer s H E).FM xe) (cO st) F)/\∀ts,ts.length=n->∀c,g ts= .err c->F (aL N.length ts)= .err c):FnX P w K mg base (k+1) f fd ps n g:=by
 intro A outer s H args us vs O ts c R hr e0 hb r rs trk hl hg hR
 have hpl:ps.length<=N.length:=by have:=congrArg LV S.pre;rw[Mp]at this;omega
 obtain⟨oc,od,kV,doc,pm,an,cdv,ct,osl,rfl,lk,hcd⟩:=Fn.ex
 have hlen:vs.length=ps.length:=by rw[<-rs.length,hl,hn]
 have KX:K.In s.heap:=e0.mod.kin.keeps λb o e=>(e0.bs b o e).1
 have lim:s.heap.NoLimit:=e0.mod.nolimit.keeps λb o e=>(e0.bs b o e).1
 have hkind:∀y∈ps.zip us,(aj st).names.lookup y.1=some .local\/((aj st).names.lookup y.1=some .cell/\((MK (s.heap.objs.size+1) (aj st).names []).lookup y.1).isSome=true):=λ⟨n,v⟩ hy=>by
  rcases S.par n (M4 hy).1 with q | q
  ·exact .inl q
  ·exact .inr ⟨q,MW _ _ _ (.inl q)⟩
 refine Qt hr.depth (KX _ _ lk) rfl S.co S.gen rfl (Rb KX hcd) (hb _ _ _ _ ?_)
 refine Nk S.kind hkind λenv he s1 x=> ?_
 subst he;refine⟨lim.keeps x.toInCall.keep,codeAny_func ?_⟩
 obtain⟨F,hF,hv⟩:=hbody cdv rfl A outer s H E0 (hr.deeper _)
 let xe:J8->Kb->Prop:=λev s'=>wpAny (model P w) (A.deeper (envOfC qual (aj st) s.heap.objs.size f cdv)) (leaving (envOfC qual (aj st) s.heap.objs.size f cdv) ev) (λ_ s''=>R (.error ev) s'') (λe' s''=>R (.error e') s'') s'
 have I:Inv ((iy CX0 P w K mg base N qual (aj st) f cdv A outer s H E0).FM xe) [] (start N vs) H s1:=(kH S hr.hd e0 hlen r x).FM _
 have no:∀a,¬noM.u a:=λa ⟨_,z⟩=>z
 refine Mr (hF xe [] s1 (start N vs) H { nx:=λ_ _=>False,rt:=λ_ _=>False,bk:=λ_ _=>False,ct:=λ_ _=>False } I ⟨aL N.length ts,O,noM,oF rs (by omega) trk,?_⟩) (λfl s' z=> ?_) λe s' hs=>hs
 rotate_left
 ·cases fl with
  | next=>obtain⟨_,_,_,z⟩:=z;exact z.elim
  | cont=>obtain⟨_,_,_,z⟩:=z;exact z.elim
  | brk=>obtain⟨_,_,_,z⟩:=z;exact z.elim
  | ret v=>obtain⟨_,_,_,_,_,z⟩:=z;exact z.elim
 rw[hv ts hl c hg];intro pins ev s' w'
 show wpAny _ _ _ _ _ _
 obtain⟨e,T,C,σ',H',rfl,hm,I',sm,he,heo,fl,hT,_⟩:=w'
 have heo:=heo rfl
 have hT:∀t,T=some t->H' t=none/\s.heap.get? t=none:=λt z=>⟨(hT t z).1,(hT t z).2 rfl⟩
 refine FN (base:=base) (outer:=outer) (L:=s.heap.objs.size) I'.ok.frames I'.stack rfl fl λh' T' g=>hR _ _ ?_
 have hex:((iy CX0 P w K mg base N qual (aj st) f cdv A outer s H E0).FM xe).ex= []:=rfl
 have Tn:H' T'=none/\s.heap.get? T'=none:=by
  rcases g.new with z | z
  ·exact hT T' z
  ·exact⟨sT I' z,qL I' hex z⟩
 have out:∀b o,s.heap.get? b=some o->b≠s.heap.objs.size:=λb o q z=>by
  have:=Kk q;rw[z]at this;exact absurd this (KW _)
 have mem:∀b,b∈jE ((envOfC qual (aj st) s.heap.objs.size f cdv)::outer)->b=s.heap.objs.size\/b∈jE outer:=λb z=>by
  have z':b∈s.heap.objs.size::jE outer:=z;exact Ko.mp z'
 have ne:∀b o,s.heap.get? b=some o->b≠e/\T≠some b:=λb o q=>⟨λz=>(by subst z;rw[show s.heap.get? b=none from heo]at q;cases q),λz=>(by rw[show s.heap.get? b=none from(hT b z).2]at q;cases q)⟩
 have keepH:∀b u,H' b≠none->s'.heap.get? b=some u->h'.get? b=some u:=λb u hb q=>by
  refine g.keep b u (λz=>hb (I'.IR b z)) (λz=>hb (by rw[z];exact he)) (λz=>hb (hT b z).1) q
 refine⟨e,T',C,H',rfl,hm,I'.os,I'.bare,⟨λb o q n hb hx=> ?_,λb o q n hb hx=> ?_,λb o q n hx=>I'.base.free b o q n hx,λb o q hx=> ?_,I'.base.tups,I'.base.frzs,I'.base.tbls⟩,λa o q=> ?_,λb o q=>sm b o q (no b),he,heo,g.flt,Tn.1,Tn.2⟩
 ·exact g.keep b o (λz=>(mem b z).elim (out b o q) hb) (ne b o q).1 (ne b o q).2 (I'.base.keep b o q n hb hx)
 ·obtain⟨sl,q1⟩:=I'.base.slot b o q n hb hx
  obtain⟨sl',q2⟩:=g.slot b _ (Ka _ hb) q1;exact⟨sl',q2⟩
 ·obtain⟨o',q1⟩:=I'.base.there b o q hx
  by_cases z:b∈jE ((envOfC qual (aj st) s.heap.objs.size f cdv)::outer)
  ·obtain⟨sl,q2⟩:=g.slot b o' z q1
   exact⟨_,q2⟩
  ·exact⟨o',g.keep b o' z (ne b o q).1 (ne b o q).2 q1⟩
 ·refine(I'.hok a o q).Jr (λb u hb z=>keepH b u ?_ z) (λ_ z=>z) λ_ _ z=>z
  rcases hb with rfl | hb
  ·rw[q];simp
  ·rw[hb];simp
end
theorem BF {n m:Nat}{F:En->Rs Fl}{ts:List T}{c:Str}(h:val n m F ts= .err c):F (aL m ts)= .err c:=by
 unfold val at h
 split at h
 ·unfold bj at h
  cases z:F (aL m ts)with
  | bad=>rw[z]at h;cases h
  | err c'=>rw[z]at h;cases h;rfl
  | ok f=>
   rw[z,aF]at h;cases f <;> cases h
 ·cases h
section
variable {P:Kz}{w:Lb}{K:J6}{mg:Str->Option J8}{base:Heap}
theorem Gf {x qual:Str}{st:Stmt}{f:Addr}{fd:L7}{N ps:List Str}{k n:Nat}{F:En->Rs Fl}(Fn:L2.Fun K x qual st f fd)(S:ax N ps (aj st))(hn:ps.length=n)
  (hbody:∀(cdv:J8),fd.code=cdv->∀(A:KU) (outer:List Env) (s:Kb) (H:Hp) (E:XK),Room k (A.deeper (envOfC qual (aj st) s.heap.objs.size f cdv)) →
   ∀xe,lD ((iy CX0 P w K mg base N qual (aj st) f cdv A outer s H E).FM xe) (cO st) F):GL P w K mg base (k+1) f fd ps n (val n N.length F):=
 ⟨Iz Fn S hn λcdv hcv A outer s H E hr=>⟨F,hbody cdv hcv A outer s H E hr _,λts _ _ h=>Em h⟩,Ge Fn S hn λcdv hcv A outer s H E hr=>⟨F,hbody cdv hcv A outer s H E hr,λts _ c h=>BF h⟩⟩
end
section
variable {X:Cx}{a:Expr}{fa:En->Rs T}{pos p:Pos}{x:Str}
theorem Hl:pP X (.Continue pos) DI:=PS.imp sy λD σ H ⟨Z,B,M,E,h⟩=>h σ H M (λ_ _ e _=>e) E λa z=> .inl z
theorem ET (i:Nat){pos':Pos}(hN:X.N.Nodup)(ha:cj X a fa)(hi:X.N[i]? =some x:=by rfl)(hx:Loc X.env.scope x:=by first | exact MU rfl | exact Ma rfl)(hf:X.fn x=true\/X.env.scope.names.lookup x=some .local:=by first | exact .inl rfl | exact .inr rfl | assumption) :
  pP X (.AugAssign (.Name x pos') .Add a pos) (za i fa):=PS.imp (Ff hN hi hx ha F8 hf) λD σ H hh_=>by
 obtain⟨Z,B,M,E,h⟩:=hh_;unfold za at h
 split at h
 ·rename_i n e
  obtain⟨v,e1,r⟩:=E.env.val i _ e;cases Rep.AC.mp r
  have hl:i<Z.length:=(Km.mp e).1
  refine⟨.int n,e1,Z,OO B M,E.o,?_⟩
  cases q:fa Z with
  | bad=>rw[q]at h;exact h.elim
  | err c=>rw[q]at h;exact PostF.xa h
  | ok t=>
   rw[q,aF]at h
   cases t with
   | int m=>
    intro H1 s1 v rv;cases Rep.AC.mp rv
    exact⟨n,m,rfl,rfl,h _ _ M (SameO.of s1) ⟨(E.env.same s1).set hl (Rep.GE _),E.mine⟩ λa z=> .inl z⟩
   | _=>exact h.elim
 ·exact h.elim
end
def calmNames:List Str:=["__init__","__getattribute__","__getattr__","__class__"]
inductive OTail (h:Heap):List J8->Prop
 | base:OTail h wU
 | own {A:Addr} {c0:J8} {dd:Option Addr} {cd:ClassData} {sl:Array (Option J8)} {mA:Str->Option J8} {tl:List J8} :
   h.get? A=some { cls:=c0,dict:=dd,data:=.cls cd,slots:=sl }->h.Ns cd.ns mA->(∀n∈calmNames,mA n=none)->OTail h tl->OTail h (.ref A::tl)
theorem OTail.tail {h:Heap}{tl:List J8}(T:OTail h tl):OwnTail h wU tl:=by
 induction T with
 | base=>exact .base
 | own hA hN hq _ ih=>exact .own hA hN (hq _ (.head _)) ih
structure OX (K:J6)(C:Addr)(bm:List J8):Prop where
 at_:∀h:Heap,K.In h->∃nm q N bs hdct sn sub ab col dd k0 k1 k2 k3 k5 mN,h.get? C=some (OJ nm q C N bs bm hdct sn sub ab col dd k0 k1 k2 k3 k5 "ValueError.__new__")/\h.Ns N mN/\(∀n∈calmNames,mN n=none)/\OTail h bm
theorem OX.own {K:J6}{C:Addr}{bm:List J8}(O:OX K C bm):OwnExc K C bm:=⟨λh k=>by
 obtain⟨nm,q,N,bs,hdct,sn,sub,ab,col,dd,k0,k1,k2,k3,k5,mN,h1,h2,h3,h4⟩:=O.at_ h k;exact⟨nm,q,N,bs,hdct,sn,sub,ab,col,dd,k0,k1,k2,k3,k5,mN,h1,h2,h3 _ (.head _),h4.tail⟩⟩
def yY:J8->Bool
 | .str _ _=>true
 | _=>false
theorem HM {K:J6}{N:Addr}{ob:J8}{oe:Option Addr}{es:Array DictEntry}{n:Nat}{oz:Array (Option J8)}(r:K.lookup N=some ⟨ob,oe,.dict es n,oz⟩)(s:(es.toList.all λe=>yY e.key)=true)
  (u0:N7 K N "__init__" =some none) (u1:N7 K N "__getattribute__" =some none) (u2:N7 K N "__getattr__" =some none) (u3:N7 K N "__class__" =some none) :
  ∀h:Heap,K.In h->∃mN,h.Ns N mN/\∀n∈calmNames,mN n=none:=λh k=>by
 refine⟨nsFind es,⟨_,es,n,k _ _ r,rfl,λe he=> ?_,λ_=>rfl⟩,λx hx=> ?_⟩
 ·have:=Ks.mp s e (by simpa using he)
  cases q:e.key <;> rw[q]at this <;> first | exact⟨_,_,rfl⟩ | cases this
 ·have key:∀x,N7 K N x=some none->nsFind es x=none:=λx u=>by
   unfold N7 at u;rw[r]at u;simp only at u
   split at u
   ·cases u
   ·rename_i he
    unfold nsFind findBy;rw[<-Rg,he];rfl
  unfold calmNames at hx;simp only[Ko,Ll,or_false]at hx;rcases hx with rfl | rfl | rfl | rfl
  ·exact key _ u0
  ·exact key _ u1
  ·exact key _ u2
  ·exact key _ u3
section
variable {K:J6}{nm q:Str}{C N:Addr}{bs:List J8}{hdct:Bool}{sn:List Str}{sub:List J8}{ab:Bool}{col:Option Bool}{dd:Option Addr}{k0 k1 k2 k3 k5:Option J8}
variable {nm' q':Str}{D N':Addr}{bs':List J8}{hdct':Bool}{sn':List Str}{sub':List J8}{ab':Bool}{col':Option Bool}{dd':Option Addr}{k0' k1' k2' k3' k5':Option J8}
theorem CG (w:K.lookup C=some (OJ nm q C N bs wU hdct sn sub ab col dd k0 k1 k2 k3 k5 "ValueError.__new__"))(ns:∀h:Heap,K.In h->∃mN,h.Ns N mN/\∀n∈calmNames,mN n=none):OX K C wU:=⟨λh k=>by
 obtain⟨mN,h1,h2⟩:=ns h k;exact⟨nm,q,N,bs,hdct,sn,sub,ab,col,dd,k0,k1,k2,k3,k5,mN,k _ _ w,h1,h2,.base⟩⟩
theorem zI (w:K.lookup C=some (OJ nm q C N bs (.ref D::wU) hdct sn sub ab col dd k0 k1 k2 k3 k5 "ValueError.__new__"))(ns:∀h:Heap,K.In h->∃mN,h.Ns N mN/\∀n∈calmNames,mN n=none)
  (wD:K.lookup D=some (OJ nm' q' D N' bs' wU hdct' sn' sub' ab' col' dd' k0' k1' k2' k3' k5' "ValueError.__new__")) (nsD:∀h:Heap,K.In h->∃mN,h.Ns N' mN/\∀n∈calmNames,mN n=none):OX K C (.ref D::wU):=⟨λh k=>by
 obtain⟨mN,h1,h2⟩:=ns h k;obtain⟨mD,d1,d2⟩:=nsD h k;exact⟨nm,q,N,bs,hdct,sn,sub,ab,col,dd,k0,k1,k2,k3,k5,mN,k _ _ w,h1,h2,.own (k _ _ wD) d1 d2 .base⟩⟩
end
theorem zd (i j:Int):rng i j=((J7 (j - i).toNat).map λ(k:Nat)=>i+(k:Int)).map T.int:=by unfold rng;rw[KB];rfl
theorem vA:∀{xs:List V} {us:List J8},xs.length=us.length->(∀(m:Nat) (u:J8),us[m]? =some u->∃x,xs[m]? =some x/\RelV x u)->Vals xs us
 | [],[],_,_=> .nil
 | [],_::_,h,_=>by cases h
 | _::_,[],h,_=>by cases h
 | x::xs,u::us,h,k=>by
  obtain⟨y,e,r⟩:=k 0 u rfl;cases e;exact .cons r (vA (by simpa using h) λm v hv=>k (m+1) v hv)
theorem v5 {X:Cx}{pins:List (Addr×Obj)}{σ:L2.St}{H1:Hp}{s1:Kb}{O:Ow}{Q:VK}{i j:Int}{t t' t2:Tok}{tk0:Nat}(hc:X.A.handled=none)(I1:Inv X pins σ H1 s1)(c1 : -(2 ^ 62)<=i)(c2:i<2 ^ 62)(c3 : -(2 ^ 62)<=j)(c4:j<2 ^ 62)(k3:(j - i).toNat<=1000)(fr:∀p,H1 p=none->¬ O p)
  (q1:∀H',Same H1 H'->∀v,Rep X.K O H' (.lst (rng i j)) v->Q v H') :
  wpAny (model X.prog X.w) X.A (call (.type "list") [.ref s1.heap.objs.size]) (EP X pins σ Q) X.xe { s1 with heap:=s1.heap.push { cls:=.type "range",data:=.fields #[.int i t,.int j t',.int 1 t2] },toks:=tk0 }:=by
 refine call_list_range (n:=(j - i).toNat) hc (IsRange.new ..) (small_one c1 c2 c3 c4) (by rw[rangeSize_one];split <;> omega) (by omega) λh' tk acc' c' kp hS hacc=> ?_
 have I2:Inv X pins σ H1 { s1 with heap:=s1.heap.push { cls:=.type "range",data:=.fields #[.int i t,.int j t',.int 1 t2] },toks:=tk0 }:=I1.kept λb o e=>Kc _ e
 have hn:H1 (s1.heap.push { cls:=.type "range",data:=.fields #[.int i t,.int j t',.int 1 t2] }).objs.size=none:=I2.hok.fresh (Ki _)
 have hv:Vals (((J7 (j - i).toNat).map λ(k:Nat)=>i+(k:Int)).map V.int) acc'.toList:=by
  refine vA ?_ ?_
  ·simp[hacc.1]
  ·intro m u hu
   have hu':acc'[m]? =some u:=by simpa using hu
   obtain⟨tk,rfl⟩:=hacc.2 m u hu'
   have hm:m<(j - i).toNat:=by
    have:=(Array.getElem?_eq_some_iff.mp hu').1
    rw[hacc.1]at this;exact this
   refine⟨.int (i+(m:Int)),by simp[hm],⟨tk,?_⟩⟩
   rw[Int.mul_one]
 have I3:Inv X pins σ (upd H1 _ (.lst _)) { s1 with heap:=h',toks:=tk }:=I2.laid (t':=tk) (o:=.lst (((J7 (j - i).toNat).map λ(k:Nat)=>i+(k:Int)).map V.int)) kp (Ki _) ⟨by rw[Kh,Kh,Ld,K7];omega,acc'.toList,c',hv,by simpa using hS⟩
 refine⟨.ref _,_,I3,rfl,q1 _ (aN hn _) _ ?_⟩
 rw[zd];exact dF hn (fr _ hn) Reps.ints
theorem zm {X:Cx}{a:Expr}{es:List Expr}{fs:En->Rs (List T)}{p1 p2 pos pos2:Pos}(hc:X.calm=true)(h1:X.mg "list" =none)(h2:X.mg "range" =none)(ha:oy X (a::es) fs)(g1:Gl X "list":=by rfl)(g2:Gl X "range":=by rfl)
  (hn:aV (a::es)=true:=by rfl)
  (he2:Kx [.Call (.Name "range" p2) (a::es) [] pos2] X.env=(false,eval (.Call (.Name "range" p2) (a::es) [] pos2) X.env)::Kx [] X.env:=by rfl) (hpl2:(backTo pos (Kx [] X.env)).any (·.1)=false:=by rfl) :
  cj X (.Call (.Name "list" p1) [.Call (.Name "range" p2) (a::es) [] pos2] [] pos) (lR fs):=by
 unfold aV at hn;rw[J9]at hn;intro pins s σ H Q I ⟨Z,O,E,hq⟩
 have hz:=da E hq
 have b1:KQ ("list" : Str)=some (.type "list"):=by decide+kernel
 have b2:KQ ("range" : Str)=some (.type "range"):=by decide+kernel
 refine Le (d4 I g1 h1 b1 ?_ (by decide) (by decide))
 refine K2 ?_ he2 hpl2
 rw[he2]
 show wpAny _ _ (spliced ((false,eval (.Call (.Name "range" p2) (a::es) [] pos2) X.env)::backTo pos (Kx [] X.env))) _ _ s
 refine Ms ?_
 refine Le (d4 I g2 h2 b2 ?_ (by decide) (by decide))
 refine K2 (bX (ha pos2 pins s σ H _ I hz) λus s1 ⟨vs,H1,I1,r1,ts,rs,sm,E1,q1⟩=> ?_) (bf hn.1) (gb hn.2)
 split at q1
 ·rename_i i j
  split at q1
  ·rename_i hk
   rw[J9,J9]at hk;obtain⟨⟨k1,k2⟩,k3⟩:=hk;obtain⟨c1,c2⟩:=eY k1;obtain⟨c3,c4⟩:=eY k2
   have k3:=of_decide_eq_true k3;obtain⟨v,ws,rfl,r2,q⟩:=Reps.me.mp rs;obtain⟨v2,rfl,r3⟩:=q.one;cases Rep.AC.mp r2;cases Rep.AC.mp r3
   cases r1 with
   | cons ra rr=>
    cases rr with
    | cons rb rr=>
     cases rr;obtain⟨t,rfl⟩:=ra;obtain⟨t',rfl⟩:=rb;exact Sg (Me (v5 (I.ok.hd hc) I1 c1 c2 c3 c4 k3 (λp=>E1.fresh) q1))
  ·exact q1.elim
 ·rename_i j
  split at q1
  ·rename_i hk
   rw[J9]at hk;obtain⟨k2,k3⟩:=hk;obtain⟨c3,c4⟩:=eY k2
   have k3:=of_decide_eq_true k3;obtain⟨v,rfl,r2⟩:=rs.one;cases Rep.AC.mp r2
   cases r1 with
   | cons ra rr=>
    cases rr;obtain⟨t,rfl⟩:=ra;exact Sf (Me (v5 (I.ok.hd hc) I1 (by omega) (by omega) c3 c4 (by rw[Int.sub_zero];exact k3) (λp=>E1.fresh) q1))
  ·exact q1.elim
 ·exact q1.elim
end Tr
namespace L2
open PySem PySem.Spec PyProof.Rows
section
variable {κ:Type}[DecidableEq κ]
def jq (kvs:List (κ×V))(k:κ):Option V:=(kvs.find? λkv=>decide (kv.1=k)).map (·.2)
def dC (kvs:List (κ×V))(k:κ)(v:V):List (κ×V):=
 if (kvs.any λkv=>decide (kv.1=k))=true then kvs.map (λkv=>if kv.1=k then(kv.1,v)else kv)else kvs++ [(k,v)]
theorem yK {k:κ}:jq ([]:List (κ×V)) k=none:=rfl
theorem jL {p:κ×V}{r:List (κ×V)}{k:κ}(e:p.1=k):jq (p::r) k=some p.2:=by simp[jq,M7,e]
theorem jM {p:κ×V}{r:List (κ×V)}{k:κ}(e:¬ p.1=k):jq (p::r) k=jq r k:=by simp[jq,M7,e]
theorem rP (k:κ):∀kvs:List (κ×V),(kvs.any λkv=>decide (kv.1=k))=(jq kvs k).isSome
 | [] =>rfl
 | p::r=>by
  rw[MP]
  by_cases e:p.1=k
  ·simp only[jL e,decide_eq_true e,Bool.true_or,Rk]
  ·rw[jM e,decide_eq_false e,Mu];exact rP k r
theorem fO (kvs:List (κ×V))(k:κ)(v:V):(dC kvs k v).length<=kvs.length+1:=by
 unfold dC;split
 ·rw[Kh];omega
 ·rw[Kw,Kj,Ql];omega
theorem RelO.JF {o:Option V}{u:Option J8}(r:RelO o u):o.isSome=u.isSome:=by
 cases o with
 | none=>cases u with
  | none=>rfl
  | some _=>exact(show False from r).elim
 | some _=>cases u with
  | none=>exact(show False from r).elim
  | some _=>rfl
theorem RelO.getD {o:Option V}{u:Option J8}{d:V}{d':J8}(r:RelO o u)(rd:RelV d d'):RelV (o.getD d) (u.getD d'):=by
 cases o with
 | none=>cases u with
  | none=>exact rd
  | some _=>exact(show False from r).elim
 | some _=>cases u with
  | none=>exact(show False from r).elim
  | some _=>exact r
theorem KV.val {kvs:List (κ×V)}{vs:List (κ×J8)}(r:KV kvs vs)(k:κ):RelO (jq kvs k) (valueAt vs k):=by
 unfold KV at r
 induction r with
 | nil=>exact Nb
 | @cons p q ps qs h t ih=>
  obtain⟨h1,h2⟩:=h
  by_cases e:p.1=k
  ·have e':q.1=k:=h1.symm.trans e
   have b:valueAt (q::qs) k=some q.2:=by simp[valueAt,M7,e']
   rw[jL e,b];exact h2
  ·have e':¬ q.1=k:=λz=>e (h1.trans z)
   have b:valueAt (q::qs) k=valueAt qs k:=by simp[valueAt,M7,e']
   rw[jM e,b];exact ih
theorem KV.any {kvs:List (κ×V)}{vs:List (κ×J8)}(r:KV kvs vs)(k:κ):(kvs.any λkv=>decide (kv.1=k))=vs.any λkv=>decide (kv.1=k):=by
 unfold KV at r
 induction r with
 | nil=>rfl
 | cons h t ih=>rw[MP,MP,ih,h.1]
theorem KV.JQ {kvs:List (κ×V)}{vs:List (κ×J8)}(r:KV kvs vs)(k:κ){y:V}{u:J8}(ry:RelV y u) :
  KV (kvs.map λkv=>if kv.1=k then(kv.1,y)else kv) (vs.map λkv=>if kv.1=k then(kv.1,u)else kv):=by
 unfold KV at r ⊢
 induction r with
 | nil=>exact .nil
 | @cons p q ps qs h t ih=>
  rw[Ke,Ke];refine .cons ?_ ih
  obtain⟨h1,h2⟩:=h
  by_cases e:p.1=k
  ·rw[if_pos e,if_pos (h1.symm.trans e)];exact⟨h1,ry⟩
  ·rw[if_neg e,if_neg (λz=>e (h1.trans z))];exact⟨h1,h2⟩
theorem KV.put {kvs:List (κ×V)}{vs:List (κ×J8)}(r:KV kvs vs)(k:κ){y:V}{u:J8}(ry:RelV y u):KV (dC kvs k y) (stored vs k u):=by
 unfold dC stored;rw[r.any k]
 by_cases e:(vs.any λkv=>decide (kv.1=k))=true
 ·rw[if_pos e,if_pos e];exact r.JQ k ry
 ·rw[if_neg e,if_neg e];exact Paired.snoc r ⟨rfl,ry⟩
theorem KV.length {kvs:List (κ×V)}{vs:List (κ×J8)}(r:KV kvs vs):kvs.length=vs.length:=PB r
end
theorem wy {P:Kz}{w:Lb}{k:Key}{u:J8}(r:RelV (kV k) u):(cg P w).is k u=true:=by
 cases k with
 | inl i=>obtain⟨t,e⟩:=(show ∃t,u=Lj i t from r);subst e;exact tD P w i t
 | inr x=>obtain⟨t,e⟩:=(show ∃t,u=L3 x t from r);subst e;exact tw P w x t
theorem ph {P:Kz}{w:Lb}:∀{ks:List Key} {us:List J8},Vals (ks.map kV) us->ItemsAre (cg P w) ks us
 | [],_,r=>by rw[Qg]at r;cases r;exact .nil
 | k::ks,_,r=>by
  rw[Ke]at r
  cases r with
  | cons h t=>exact .cons (wy h) (ph t)
abbrev KT (H:Hp):List (List Key×V)->List (List Key×Addr×J8)->Prop:=P3 λp q=>p.1=q.1/\H q.2.1=some (.tup (p.1.map kV))/\RelV p.2 q.2.2
theorem KT.val {H:Hp}{kvs:List (List Key×V)}{xs:List (List Key×Addr×J8)}(r:KT H kvs xs)(k:List Key):RelO (jq kvs k) ((atKey xs k).map (·.2)):=by
 induction r with
 | nil=>exact Nb
 | @cons p q ps qs h t ih=>
  obtain⟨h1,_,h2⟩:=h
  by_cases e:p.1=k
  ·have e':q.1=k:=h1.symm.trans e
   have b:atKey (q::qs) k=some q.2:=by simp[atKey,M7,e']
   rw[jL e,b];exact h2
  ·have e':¬ q.1=k:=λz=>e (h1.trans z)
   have b:atKey (q::qs) k=atKey qs k:=by simp[atKey,M7,e']
   rw[jM e,b];exact ih
theorem KT.JQ {H:Hp}{kvs:List (List Key×V)}{xs:List (List Key×Addr×J8)}(r:KT H kvs xs)(k:List Key){y:V}{u:J8}(ry:RelV y u) :
  KT H (kvs.map λkv=>if kv.1=k then(kv.1,y)else kv) (xs.map (putAt k u)):=by
 induction r with
 | nil=>exact .nil
 | @cons p q ps qs h t ih=>
  rw[Ke,Ke];refine .cons ?_ ih
  obtain⟨h1,h2,h3⟩:=h;unfold putAt
  by_cases e:p.1=k
  ·rw[if_pos e,if_pos (h1.symm.trans e)];exact⟨h1,h2,ry⟩
  ·rw[if_neg e,if_neg (λz=>e (h1.trans z))];exact⟨h1,h2,h3⟩
theorem KT.put {H:Hp}{kvs:List (List Key×V)}{xs:List (List Key×Addr×J8)}(r:KT H kvs xs)(k:List Key){b:Addr}{y:V}{u:J8}(hb:H b=some (.tup (k.map kV)))(ry:RelV y u) :
  KT H (dC kvs k y) (storedH xs k b u):=by
 have e:(kvs.any λkv=>decide (kv.1=k))=(atKey xs k).isSome:=by
  rw[rP,(r.val k).JF,Option.isSome_map]
 unfold dC storedH;rw[e]
 by_cases q:(atKey xs k).isSome=true
 ·rw[if_pos q,if_pos q];exact r.JQ k ry
 ·rw[if_neg q,if_neg q];exact Paired.snoc r ⟨rfl,hb,ry⟩
theorem KT.keeps {H H':Hp}{kvs:List (List Key×V)}{xs:List (List Key×Addr×J8)}(r:KT H kvs xs)(ht:∀b ys,H b=some (.tup ys)->H' b=some (.tup ys)):KT H' kvs xs:=
 Paired.JI r λ_ _ z=>⟨z.1,ht _ _ z.2.1,z.2.2⟩
section
variable {P:Kz}{w:Lb}{H:Hp}{h:Heap}{a:Addr}
theorem oO {u:HO}(ok:HOk P w H h)(e:Rd H a u):ObjOk P w H h a u:=e.ok ok
theorem tU {kvs:List (Key×V)}(ok:HOk P w H h)(e:Rd H a (.dK kvs)):kvs.length<=sizeLine/\(a == Nd)=false/\∃vs,KV kvs vs/\h.DictOf (cg P w) a vs:=
 show ObjOk P w H h a (.dK kvs)from oO ok e
theorem II {kvs:List (Key×V)}(ok:HOk P w H h)(e:H a=some (.dK kvs)):kvs.length<=sizeLine/\(a == Nd)=false/\∃vs,KV kvs vs/\h.DictOf (cg P w) a vs:=tU ok (.inl e)
theorem key_of {ks:List Key}(ok:HOk P w H h)(e:H a=some (.tup (ks.map kV))):(Pr (cg P w)).is h ks a:=by
 obtain⟨_,its,r,o,h1,h2,n,h3⟩:=(show ObjOk P w H h a (.tup (ks.map kV))from ok a _ e)
 exact⟨o,its.toArray,n,h1,h2,h3,by simpa using ph r⟩
theorem tS {kvs:List (List Key×V)}(ok:HOk P w H h)(e:Rd H a (.dT kvs)):kvs.length<=sizeLine/\(a == Nd)=false ∧
  ∃xs,KT H kvs xs/\h.DictOfH (Pr (cg P w)) a xs:=by
 obtain⟨z,y,xs,r,o,es,ep,h1,h2,h3,h4,h5⟩:=(show ObjOk P w H h a (.dT kvs)from oO ok e)
 refine⟨z,y,xs,r,o,es,ep,h1,h2,h3,h4,λx hx=> ?_,h5⟩
 have all:∀{l:List (List Key×V)} {m:List (List Key×Addr×J8)},KT H l m->∀x∈m,(Pr (cg P w)).is h x.1 x.2.1:=by
  intro l m q
  induction q with
  | nil=>intro x hx;exact nomatch hx
  | @cons p q ps qs hq t ih=>
   intro x hx;rcases Ko.mp hx with e | hx
   ·subst e
    exact key_of ok (by rw[<-hq.1];exact hq.2.1)
   ·exact ih x hx
 exact all r x hx
theorem A6 {kvs:List (List Key×V)}(ok:HOk P w H h)(e:H a=some (.dT kvs)):kvs.length<=sizeLine/\(a == Nd)=false ∧
  ∃xs,KT H kvs xs/\h.DictOfH (Pr (cg P w)) a xs:=tS ok (.inl e)
end
def DGet (H:Hp)(a:Addr)(y:V)(r:Option V):Prop:=
 (∃kvs k,Rd H a (.dK kvs)/\y=kV k/\r=jq kvs k)\/∃kvs k b,Rd H a (.dT kvs)/\y= .ref b/\H b=some (.tup (k.map kV))/\r=jq kvs k
def DPut (H:Hp)(a:Addr)(y v:V)(H':Hp):Prop:=
 (∃kvs k,H a=some (.dK kvs)/\y=kV k/\kvs.length<sizeLine/\H'=upd H a (.dK (dC kvs k v))) ∨
 ∃kvs k b,H a=some (.dT kvs)/\y= .ref b/\H b=some (.tup (k.map kV))/\kvs.length<sizeLine/\H'=upd H a (.dT (dC kvs k v))
theorem DPut.t {H:Hp}{a b:Addr}{kvs:List (List Key×V)}{k:List Key}{v:V}(e:H a=some (.dT kvs))(eb:H b=some (.tup (k.map kV)))(hl:kvs.length<sizeLine) :
  DPut H a (.ref b) v (upd H a (.dT (dC kvs k v))):=.inr ⟨kvs,k,b,e,rfl,eb,hl,rfl⟩
section
variable {X:Cx}{pins:List (Addr×Obj)}{σ:St}{H:Hp}{s:Kb}{a:Addr}{y v:V}{u r:J8}{o:Option V}{A:KU}{E:J8->Kb->Prop}
theorem Inv.big (I:Inv X pins σ H s):Nd<s.heap.objs.size:=by
 have h:KF<s.heap.objs.size:=(I.mod.glob.keeps I.bk).lt;exact OU (by decide) h
theorem yg {Q:J8->Kb->Prop}(hu:A.units+1<cLine)(I:Inv X pins σ H s)(g:DGet H a y (some v))(ry:RelV y u)(h:∀w' s',Inv X pins σ H s'->RelV v w'->Q w' s') :
  wpAny (model X.prog X.w) A (getItem (.ref a) u) Q E s:=by
 rcases g with⟨kvs,k,e,ey,l⟩ | ⟨kvs,k,b,e,ey,eb,l⟩
 ·subst ey
  obtain⟨z,hd,vs,rel,dd⟩:=tU I.hok e;obtain⟨w',hw,rw'⟩:=RelO.some_of (v:=v) (o:=valueAt vs k) (by rw[l];exact rel.val k)
  exact wpAny_getItem_of (wy ry) dd.mapOf hw (h w' _ (I.tok _) rw')
 ·subst ey
  cases (show u=KY b from ry)
  obtain⟨z,hd,xs,rel,dd⟩:=tS I.hok e;obtain⟨w',hw,rw'⟩:=RelO.some_of (v:=v) (o:=(atKey xs k).map (·.2)) (by rw[l];exact rel.val k)
  obtain⟨p,hp,hp2⟩:=LR.mp hw;refine wpAny_getItem_heap (NM hu) (key_of I.hok eb) dd hp ?_
  rw[hp2];exact h w' _ (I.tok _) rw'
theorem rp {h':Heap}{t':Nat}{ob:HO}(I:Inv X pins σ H s)(mu:IQ (H a))(hs:Nz a s.heap h')(he:∃q,h'.get? a=some q)(new:ObjOk X.prog X.w (upd H a ob) h' a ob) :
  Inv X pins σ (upd H a ob) { s with heap:=h',toks:=t' }:=
 I.write (x:=a) (e:=a) mu (.inl rfl) (λb q hb z=>(hs.2 b hb).trans z) he new
theorem Gp {P:Kz}{w:Lb}{H':Hp}{h':Heap}{kvs:List (Key×V)}{vs:List (Key×J8)}(z:kvs.length<=sizeLine)(hd:(a == Nd)=false)(rel:KV kvs vs)(dd:h'.DictOf (cg P w) a vs) :
  ObjOk P w H' h' a (.dK kvs):=⟨z,hd,vs,rel,dd⟩
theorem yf {H':Hp}{Q:Unit->Kb->Prop}(hu:A.units+1<cLine)(I:Inv X pins σ H s)(g:DPut H a y v H')(ry:RelV y u)(rv:RelV v r)(h:∀s',Inv X pins σ H' s'->Q () s') :
  wpAny (model X.prog X.w) A (setItem (.ref a) u r) Q E s:=by
 rcases g with⟨kvs,k,e,ey,l,eH⟩ | ⟨kvs,k,b,e,ey,eb,l,eH⟩
 ·subst ey eH
  obtain⟨z,hd,vs,rel,dd⟩:=II I.hok e
  have hz:vs.length<=sizeLine:=by rw[<-rel.length];exact z
  have hl:(dC kvs k v).length<=sizeLine:=by have:=fO kvs k v;omega
  refine wpAny_setItem_pairs (hsz:=hz) (wy ry) dd λh' dd' hs=>h _ ?_
  have he:∃q,h'.get? a=some q:=let ⟨q,_,_,hq,_⟩:=dd';⟨q,hq⟩
  exact rp I (by rw[e];exact Nb) hs he (Gp hl hd (rel.put k rv) dd')
 ·subst ey eH
  cases (show u=KY b from ry)
  obtain⟨z,hd,xs,rel,dd⟩:=A6 I.hok e
  have hz:xs.length<=sizeLine:=by rw[<-PB rel];exact z
  have hl:(dC kvs k v).length<=sizeLine:=by have:=fO kvs k v;omega
  refine wpAny_setItem_heap (hsz:=hz) (NM hu) (key_of I.hok eb) dd λh' dd' hs=>h _ ?_
  obtain⟨q,es,ep,hq,h2,h3,h4,_,h5⟩:=dd';refine rp I (by rw[e];exact Nb) hs ⟨q,hq⟩ ⟨hl,hd,_,(rel.put k eb rv).keeps λc ys ec=> ?_,q,es,ep,hq,h2,h3,h4,h5⟩
  rw[aJ (tj ec e (λz=>nomatch z))]
  exact ec
end
def Dz (i:Expr):Prop:=∀ov iv,Q7 i false ov iv=operate [ov,iv] (getItem ov iv)
theorem BP {prog:Kz}{w:Lb}{A:KU}{E:J8->Kb->Prop}{s:Kb}{env:Env}{value slice:Expr}{pos:Pos}{T id:String}{Q:J8->Kb->Prop}
  (hl:R1 (.type T) "__getitem__" =pure (some (.builtin id))) (hs:Dz slice)
  (h:wpAny (model prog w) A (eval value env) (λo s₁=>wpAny (model prog w) A (eval slice env) (λi s₂=>s₂.TypeIs o T/\wpAny (model prog w) A (getItem o i) Q E s₂) E s₁) E s) :
  wpAny (model prog w) A (eval (.Subscript value slice pos) env) Q E s:=by
 refine R3 (Mr h (λo s₁ h₁=>Mr h₁ (λi s₂ h₂=> ?_) λ_ _ x=>x) λ_ _ x=>x)
 obtain⟨hT,h₂⟩:=h₂;unfold RD;refine J5 ?_
 rw[getitemInPython_of_ne hT.not_modules];refine J5 (S2 hT hl ?_)
 have fin:wpAny (model prog w) A (Q7 slice false o i) (λr s₃=>wpAny (model prog w) A (letTemporaryGo value o r >>= λ_=>pure r) Q E s₃) E s₂:=by
  rw[hs o i];exact wpAny_operating (Mr h₂ (λr s₃ h₃=>J5 (wpAny_letTemporaryGo (Kd h₃))) λ_ _ x=>x)
 first
  | exact Kd (J5 fin)
  | exact J5 (Kd (J5 fin))
  | exact J5 fin
theorem tW {X:Cx}{pins:List (Addr×Obj)}{σ:St}{H:Hp}{s:Kb}{a:Addr}{y:V}{o:Option V}(I:Inv X pins σ H s)(g:DGet H a y o):s.TypeIs (.ref a) "dict":=by
 rcases g with⟨kvs,k,e,_,_⟩ | ⟨kvs,k,b,e,_,_,_⟩
 ·obtain⟨_,_,vs,_,dd⟩:=tU I.hok e
  exact dd.typeIs
 ·obtain⟨_,_,xs,_,dd⟩:=tS I.hok e
  exact dd.typeIs
def G3 (td ty:TE):TE:=λσ H Q=>td σ H λx H1=>ty σ H1 λy H2=> ∃a v,x= .ref a/\DGet H2 a y (some v)/\Q v H2
def Ha (td ty tv:TE):TS:=λD σ H=>tv σ H λv H1=>td σ H1 λx H2=>ty σ H2 λy H3=> ∃a H4,x= .ref a/\DPut H3 a y v H4/\D.nx σ H4
section
variable {X:Cx}{o i e value:Expr}{pos pos' tpos:Pos}{td ty tv:TE}
theorem CD (hu:X.A.units+1<cLine)(ho:PE X o td)(hi:PE X i ty)(hs:Dz i):PE X (.Subscript o i pos) (G3 td ty):=by
 intro pins s σ H Q I h;refine BP PySem.F.slot_dict_getitem.lookup hs (bX (ho pins s σ H _ I h) λu s1 ⟨x,H1,I1,rx,q1⟩=>bX (hi pins s1 σ H1 _ I1 q1) λiv s2 hh_=> ?_)
 obtain⟨y,H2,I2,ry,a,v,ex,g,q2⟩:=hh_;subst ex;obtain rfl:u=KY a:=rx;exact⟨tW I2 g,yg hu I2 g ry λw' s3 I3 rw'=>⟨v,H2,I3,rw',q2⟩⟩
theorem Cq (hu:X.A.units+1<cLine)(ho:PE X o td)(hi:PE X i ty)(hv:PE X value tv)(hs:L5 value (some (.Subscript o i pos')) pos.line X.env=pure false) :
  PS X (.Assign [.Subscript o i pos'] value pos) (Ha td ty tv):=by
 intro pins s σ H D I h;refine wpAny_Assign_Subscript (bX (hv pins s σ H _ I h) λr s1 ⟨v,H1,I1,rv,q1⟩=>bX (ho pins s1 σ H1 _ I1 q1) λu s2 ⟨x,H2,I2,rx,q2⟩=>bX (hi pins s2 σ H2 _ I2 q2) λiv s3 ⟨y,H3,I3,ry,a,H4,ex,g,q3⟩=> ?_) hs
 subst ex;obtain rfl:u=KY a:=rx;exact yf hu I3 g ry rv λs4 I4=>⟨σ,H4,I4,q3⟩
end
theorem A7 {P:Kz}{w:Lb}{H:Hp}(h:Heap)(hb:Nd<h.objs.size):ObjOk P w H (h.push { cls:=.type "dict",data:=.dict #[] }) h.objs.size (.dT []):=
 ⟨K3 _,beq_eq_false_iff_ne.mpr (O5 (Ky hb)),[],.nil,_,#[],0,Kn _ rfl,⟨rfl,rfl,rfl⟩,rfl,rfl,N3⟩
structure M1 (X:Cx)(o:Expr)(m:Str)(apos:Pos)(e:Expr)(cpos:Pos):Prop where
 base:LZ o m X.env (eval o X.env)=eval o X.env
 few:((backTo cpos (Kx [e] X.env)).all (λx=> !x.1)&&(backToKw cpos (SZ [] X.env)).all (λx=>x.1.isSome)
  &&decide (([e]:List Expr).length+([]:List S0).length+(if ([]:List S0).isEmpty then 0 else 1)<30))=true
 line:(apos.endLine == cpos.line)=true
 trees:backTo cpos (Kx [e] X.env)= [(false,eval e X.env)]
structure M2 (X:Cx)(o:Expr)(m:Str)(apos:Pos)(e f:Expr)(cpos:Pos):Prop where
 base:LZ o m X.env (eval o X.env)=eval o X.env
 few:((backTo cpos (Kx [e,f] X.env)).all (λx=> !x.1)&&(backToKw cpos (SZ [] X.env)).all (λx=>x.1.isSome)
  &&decide (([e,f]:List Expr).length+([]:List S0).length+(if ([]:List S0).isEmpty then 0 else 1)<30))=true
 line:(apos.endLine == cpos.line)=true
 trees:backTo cpos (Kx [e,f] X.env)= [(false,eval e X.env),(false,eval f X.env)]
def IsD (H:Hp)(a:Addr):Prop:=(∃kvs,Rd H a (.dK kvs))\/∃kvs,Rd H a (.dT kvs)
theorem F7 {X:Cx}{pins:List (Addr×Obj)}{σ:St}{H:Hp}{s:Kb}{a:Addr}(I:Inv X pins σ H s)(d:IsD H a) :
  s.TypeIs (.ref a) "dict"/\(∀b,KY a= .ref b->∃ob,s.heap.get? b=some ob/\ob.dict=none)/\(a == Nd)=false:=by
 rcases d with⟨kvs,e⟩ | ⟨kvs,e⟩
 ·obtain⟨_,hd,vs,_,dd⟩:=tU I.hok e
  refine⟨dd.typeIs,λb q=> ?_,hd⟩
  cases q;obtain⟨ob,_,_,h1,h2,_⟩:=dd;exact⟨ob,h1,h2.2.1⟩
 ·obtain⟨_,hd,xs,_,dd⟩:=tS I.hok e
  refine⟨dd.typeIs,λb q=> ?_,hd⟩
  cases q;obtain⟨ob,_,_,h1,h2,_⟩:=dd;exact⟨ob,h1,h2.2.1⟩
section
variable {X:Cx}{pins:List (Addr×Obj)}{σ:St}{H:Hp}{s:Kb}{a:Addr}{y d:V}{u r:J8}{o:Option V}{A:KU}{E:J8->Kb->Prop}
theorem Gv {Q:J8->Kb->Prop}(hu:A.units+1<cLine)(I:Inv X pins σ H s)(g:DGet H a y o)(ry:RelV y u)(h:∀w' s',Inv X pins σ H s'->RelV (o.getD .non) w'->Q w' s') :
  wpAny (model X.prog X.w) A (call (.builtin "dict.get") [.ref a,u]) Q E s:=by
 rcases g with⟨kvs,k,e,ey,l⟩ | ⟨kvs,k,b,e,ey,eb,l⟩
 ·subst ey
  obtain⟨z,hd,vs,rel,dd⟩:=tU I.hok e;refine call_meetsIn N8 dd.typeIs P6 (Py _ _) (meets_dict_get (cg X.prog X.w) a (wy ry) hd) ⟨_,dd.mapOf,h _ _ (I.tok _) ?_⟩
  rw[l];exact(rel.val k).getD rfl
 ·subst ey
  cases (show u=KY b from ry)
  obtain⟨z,hd,xs,rel,dd⟩:=tS I.hok e;refine call_meetsIn N8 dd.typeIs P6 (Py _ _) (meetsH_dict_get (Pr (cg X.prog X.w)) a b hd) ⟨NM hu,k,xs,key_of I.hok eb,dd,h _ _ (I.tok _) ?_⟩
  rw[l];exact(rel.val k).getD rfl
end
def Er (td ty:TE):TE:=λσ H Q=>td σ H λx H1=> ∃a,x= .ref a/\IsD H1 a/\ty σ H1 λy H2=> ∃o,DGet H2 a y o/\Q (o.getD .non) H2
section
variable {X:Cx}{o e f:Expr}{apos cpos:Pos}{td ty tx:TE}
theorem zG (hu:X.A.units+1<cLine)(ho:PE X o td)(he:PE X e ty)(m:M1 X o "get" apos e cpos):PE X (.Call (.Attribute o "get" apos) [e] [] cpos) (Er td ty):=by
 intro pins s σ H Q I h;refine wpAny_Call_method m.base m.few m.line PySem.F.plainAttrs_dict N8 PySem.F.type_dict_get (bX (ho pins s σ H _ I h) λu s1 hh_=> ?_)
 obtain⟨x,H1,I1,rx,a,ex,d,q1⟩:=hh_;subst ex;obtain rfl:u=KY a:=rx;obtain⟨t1,t2,_⟩:=F7 I1 d;refine⟨t1,t2,?_⟩
 rw[m.trees];refine NP rfl (Nl (Ms (bX (he pins s1 σ H1 _ I1 q1) λiv s2 ⟨y,H2,I2,ry,ov,g,q2⟩=>Me ?_)))
 exact Gv hu I2 g ry λw' s3 I3 rw'=>⟨_,H2,I3,rw',q2⟩
end
end L2
namespace Tr
open PySem PySem.Spec PyProof.Rows L2
theorem DGet.JU {H:Hp}{a b:Addr}{kvs:List (List Key×V)}{k:List Key}(e:Rd H a (.dT kvs))(eb:H b=some (.tup (k.map kV))):DGet H a (.ref b) (jq kvs k):=.inr ⟨kvs,k,b,e,rfl,eb,rfl⟩
theorem Jc {k:Nat}{A:KU}(h:Room k A):A.units+1<cLine:=by have:=h.un;omega
theorem nh {K:J6}{O:Ow}{H:Hp}:∀{l:List T} {vs:List V} {k:List Key},ni l=some k->Reps K O H l vs->vs=k.map kV
 | [],vs,k,h,r=>by cases Reps.Da.mp r;cases h;rfl
 | t::l,vs,k,h,r=>by
  obtain⟨v,ws,rfl,p,q⟩:=Reps.me.mp r;unfold ni at h
  cases e1:DV t with
  | none=>rw[e1]at h;cases h
  | some a=>
   cases e2:ni l with
   | none=>rw[e1,e2]at h;cases h
   | some b=>
    rw[e1,e2]at h;cases h;rw[nh e2 q,Ke]
    congr 1
    cases t with
    | int i=>cases e1;exact Rep.AC.mp p
    | str x=>cases e1;exact Rep.Gc.mp p
    | _=>cases e1
theorem lO {K:J6}{O:Ow}{H:Hp}{y:T}{v:V}{k:List Key}(h:keyOf y=some k)(r:Rep K O H y v):∃b,v= .ref b/\H b=some (.tup (k.map kV)):=by
 cases y with
 | tup l=>
  obtain⟨a,vs,e1,_,e3,e4⟩:=Rep.Fk.mp r;rw[nh h e4]at e3
  exact⟨a,e1,e3⟩
 | _=>cases h
theorem nK {K:J6}{O:Ow}{H:Hp}{k:List Key}:∀{ks ts:List T} {kvs:List (List Key×V)},ks.map keyOf=kvs.map (λp=>some p.1)->Reps K O H ts (kvs.map (·.2))->match ou ks ts k with
  | some t=> ∃v,jq kvs k=some v/\Rep K O H t v
  | none=>jq kvs k=none
 | [],ts,kvs,h,r=>by
  cases kvs with
  | nil=>unfold ou;exact yK
  | cons _ _=>cases h
 | k'::ks,ts,kvs,h,r=>by
  cases kvs with
  | nil=>cases h
  | cons p kvs=>
   rw[Ke,Ke]at h;injection h with h1 h2
   rw[Ke]at r
   cases ts with
   | nil=>have:=Reps.Da.mp r;cases this
   | cons t ts=>
    obtain⟨v,ws,e,q1,q2⟩:=Reps.me.mp r;injection e with e1 e2
    subst e1 e2;unfold ou
    by_cases hk:keyOf k'=some k
    ·rw[if_pos hk]
     rw[h1]at hk;injection hk with hk
     exact⟨_,jL hk,q1⟩
    ·rw[if_neg hk]
     have hk2:¬ p.1=k:=λz=>hk (by rw[h1,z])
     rw[jM hk2];exact nK h2 q2
theorem qo {κ:Type}[DecidableEq κ]{k:κ}{p:κ×V}{r:List (κ×V)}{v:V}(h:¬ p.1=k):dC (p::r) k v=p::dC r k v:=by
 unfold dC;rw[MP,decide_eq_false h,Mu]
 by_cases q:(r.any λkv=>decide (kv.1=k))=true
 ·rw[if_pos q,if_pos q,Ke,if_neg h]
 ·rw[if_neg q,if_neg q];rfl
theorem qr {κ:Type}[DecidableEq κ]{k:κ}{p:κ×V}{r:List (κ×V)}{v:V}(h:p.1=k)(hn:∀q∈r,q.1≠k):dC (p::r) k v=(p.1,v)::r:=by
 unfold dC;rw[MP,decide_eq_true h,Bool.true_or,if_pos rfl,Ke,if_pos h]
 congr 1
 conv=>rhs;rw[<-PC r]
 exact KA λq hq=>if_neg (hn q hq)
theorem nH {K:J6}{O:Ow}{H:Hp}{kT vT:T}{k:List Key}{v:V}(hk:keyOf kT=some k)(hv:Rep K O H vT v):∀{ks ts:List T} {kvs:List (List Key×V)},ks.map keyOf=kvs.map (λp=>some p.1)->Reps K O H ts (kvs.map (·.2))->(kvs.map (·.1)).Nodup →
  (gC kT vT ks ts).1.map keyOf=(dC kvs k v).map (λp=>some p.1)/\Reps K O H (gC kT vT ks ts).2 ((dC kvs k v).map (·.2))
 | [],ts,kvs,h,r,_=>by
  cases kvs with
  | nil=>
   unfold gC;refine⟨?_,Reps.FS hv Reps.GT⟩
   simp[dC,hk]
  | cons _ _=>cases h
 | k'::ks,ts,kvs,h,r,hn=>by
  cases kvs with
  | nil=>cases h
  | cons p kvs=>
   rw[Ke,Ke]at h;injection h with h1 h2
   rw[Ke]at r;rw[Ke]at hn;obtain⟨n1,n2⟩:=Lk.mp hn
   cases ts with
   | nil=>have:=Reps.Da.mp r;cases this
   | cons t ts=>
    obtain⟨v',ws,e,q1,q2⟩:=Reps.me.mp r;injection e with e1 e2
    subst e1 e2;unfold gC
    by_cases hz:keyOf k'=keyOf kT
    ·rw[if_pos hz]
     have hp:p.1=k:=by rw[hz,hk]at h1;injection h1 with h1;exact h1.symm
     rw[qr hp λq hq z=>n1 (by rw[hp,<-z];exact List.mem_map_of_mem hq)]
     exact⟨by rw[Ke,Ke,h1,h2],Reps.FS hv q2⟩
    ·rw[if_neg hz]
     have hp:¬ p.1=k:=λz=>hz (by rw[h1,z,hk])
     obtain⟨a1,a2⟩:=nH hk hv h2 q2 n2;rw[qo hp];exact⟨by rw[Ke,Ke,h1,a1],Reps.FS q1 a2⟩
theorem DA {H:Hp}{kvs:List (List Key×V)}{xs:List (List Key×Addr×J8)}(rel:KT H kvs xs):kvs.map (·.1)=xs.map (·.1):=by
 induction rel with
 | nil=>rfl
 | cons h t ih=>rw[Ke,Ke,ih,h.1]
theorem A9 {X:Cx}{pins:List (Addr×Obj)}{σ:L2.St}{H:Hp}{s:Kb}{a:Addr}{kvs:List (List Key×V)}(I:Inv X pins σ H s)(e:H a=some (.dT kvs)):(kvs.map (·.1)).Nodup/\kvs.length<=sizeLine:=by
 obtain⟨z,_,xs,rel,_,_,_,_,_,_,_,_,hn⟩:=A6 I.hok e;rw[DA rel];exact⟨hn,z⟩
section
variable {X:Cx}{a b:Expr}{fa fb:En->Rs T}{pos:Pos}
theorem Hu (hu:X.A.units+1<cLine)(ha:cj X a fa)(hb:cj X b fb)(hs:Dz b:=by intro _ _;rfl):cj X (.Subscript a b pos) (o2 tV fa fb):=by
 refine PE.imp (CD hu ha hb hs) λσ H Q ⟨Z,O,E,hq⟩=> ?_
 obtain⟨Z1,O1,E1,h1⟩:=aS E hq;refine⟨Z1,O1,E1,Post.mono h1 λt H1 s1 q v r=> ?_⟩
 obtain⟨t',r',s',E',q'⟩:=q v r;obtain⟨Z2,O2,E2,h2⟩:=aS (f:=fb) E' q';refine⟨Z2,O2,E2,Post.mono h2 λt2 H2 s2 q2 v2 r2=> ?_⟩
 obtain⟨t2',r2',s2',E2',q2'⟩:=q2 v2 r2
 have r'':=r'.same s2';unfold tV at q2'
 split at q2'
 ·rename_i ks vs k hk
  split at q2'
  ·rename_i x hx
   obtain⟨a,kvs,e1,e2,e3,e4,e5⟩:=Rep.Jl.mp r'';obtain⟨b,f1,f2⟩:=lO hk r2'
   have g:=nK (k:=k) e4 e5;rw[hx]at g;obtain⟨w,g1,g2⟩:=g;exact⟨a,w,e1,by rw[f1,<-g1];exact DGet.JU e3 f2,q2' H2 (Same.refl H2) w g2⟩
  ·exact q2'.elim
 ·exact q2'.elim
end
end Tr
namespace Tr
open PySem PySem.Spec PyProof.Rows L2
open PySem.SeqAt
theorem zZ {A:KU}{s:Kb}{x:T}{ux:J8}(rx:ReV s x ux)(hu:A.units+60<cLine){l:List T}{us:List J8}(hd:x.dep<=60\/deps l<=60)(r:ReVs s l us) :
  ∃e:J8->Bool,(∀y∈us,EqAt A s y ux (e y))/\us.map e=l.map λt=>aQ t x:=by
 classical
 have ex:∀y∈us,∃t∈l,ReV s t y:=λy hy=>by
  obtain⟨i,hi,rfl⟩:=Lu hy
  have hl:=r.length
  have e1:l[i]? =some l[i]:=by simp
  obtain⟨u,q1,q2⟩:=r.get e1
  have:us[i]? =some us[i]:=by simp
  rw[this]at q1;cases q1;exact⟨l[i],Mq _,q2⟩
 let e:J8->Bool:=λy=>decide (∃t∈l,ReV s t y/\aQ t x=true)
 have dep:∀t∈l,t.dep<=60\/x.dep<=60:=λt ht=>by
  rcases hd with h | h
  ·exact .inr h
  ·obtain⟨i,hi,rfl⟩:=Lu ht
   exact .inl (KD (ix (i:=i) (by simp)) h)
 have uniq:∀y t t',ReV s t y->ReV s t' y->aQ t x=aQ t' x:=λy t t' z z'=>by
  rw[<-kg t,<-kg t',ReV.nf z z']
 have agree:∀y t,t∈l->ReV s t y->e y=aQ t x:=λy t h z=>by
  show decide (∃t∈l,ReV s t y/\aQ t x=true)=aQ t x
  cases q:aQ t x with
  | true=>exact decide_eq_true ⟨t,h,z,q⟩
  | false=>
   refine decide_eq_false ?_
   rintro ⟨t',h',z',q'⟩
   rw[<-uniq y t t' z z',q]at q';cases q'
 refine⟨e,λy hy=> ?_,?_⟩
 ·obtain⟨t,h,z⟩:=ex y hy
  rw[agree y t h z];exact(Df 60 A s t x y ux (dep t h) hu z rx).1
 ·have go:∀(l':List T) (us':List J8),(∀t∈l',t∈l)->ReVs s l' us'->us'.map e=l'.map λy=>aQ y x:=by
   intro l'
   induction l' with
   | nil=>intro us' _ r';rw[ReVs.Da.mp r'];rfl
   | cons t l' ih=>
    intro us' sub r';obtain⟨u,ws,rfl,p,q⟩:=ReVs.me.mp r';rw[Ke,Ke,ih ws (λt ht=>sub t (Ka _ ht)) q,agree u t (sub t Kg) p]
  exact go l us (λ_ h=>h) r
theorem nA {x:T}:∀{l:List T} {n k:Nat},i7 x l n=some k->n<=k/\(l.map λt=>aQ t x)[k - n]? =some true/\∀m,m<k - n->(l.map λt=>aQ t x)[m]? =some false
 | [],n,k,h=>by cases h
 | t::l,n,k,h=>by
  unfold i7 at h
  cases q:aQ t x with
  | true=>
   rw[q,if_pos rfl]at h;cases h;refine⟨Ki _,?_,λm hm=>by omega⟩
   rw[Qm,Ke,q];rfl
  | false=>
   rw[q,if_neg (by decide)]at h
   obtain⟨h1,h2,h3⟩:=nA h
   have e:k - n=(k - (n+1))+1:=by omega
   refine⟨by omega,?_,λm hm=> ?_⟩
   ·rw[e,Ke,MQ];exact h2
   ·cases m with
    | zero=>rw[Ke,q];rfl
    | succ m=>rw[Ke,MQ];exact h3 m (by omega)
section
variable {X:Cx}{a b:Expr}{fa fb:En->Rs T}{pos apos cpos:Pos}
theorem zo (hu:X.A.units+61<cLine)(ha:cj X a fa)(hb:cj X b fb)(hn:bY b=true:=by rfl)
  (hbase:LZ a "index" X.env (eval a X.env)=eval a X.env:=by rfl) (hline:(apos.endLine == cpos.line)=true:=by rfl):cj X (.Call (.Attribute a "index" apos) [b] [] cpos) (oL fN fa fb):=by
 have hs:Kx [b] X.env=(false,eval b X.env)::Kx [] X.env:=bf hn;intro pins s σ H Q I ⟨Z,O,E,hq⟩;refine Qb hbase (by rw[hs];rfl) hline rfl (bX (ha pins s σ H _ I (aS E hq)) λv s1 hh_=> ?_)
 obtain⟨x,H1,I1,r1,t,rt,s',E',q1⟩:=hh_
 cases t with
 | lst l=>
  obtain⟨c,vs,e1,e2,e3,e4⟩:=Rep.Do.mp rt;subst e1;obtain rfl:v=KY c:=r1;obtain⟨h1,h2⟩:=yP I1 (show RelV (.ref c) (.ref c)from rfl) (.inl ⟨rfl,vs,SqL.of e3⟩)
  refine⟨_,_,NG,PySem.F.slot_list_index,PySem.F.type_list_index,h1,h2,?_⟩
  rw[hs];refine NP rfl (Nl (Ms (bX (hb pins s1 σ H1 _ I1 (aS (f:=fb) E' q1)) λu s2 ⟨y,H2,I2,r2,t2,rt2,s'',E'',q2⟩=>Me ?_)))
  unfold fN at q2
  split at q2
  ·rename_i l' heq
   cases heq
   split at q2
   ·rename_i hd3
    obtain⟨hd,hnx,hny⟩:=hd3
    split at q2
    ·rename_i k hk
     have rv:=Rep.val I2 (show(T.lst l).nd=true by unfold T.nd;exact hny) (rt.same s'') (show RelV (.ref c) (.ref c)from rfl)
     unfold ReV at rv;obtain⟨c',us,ec,hl,rs⟩:=rv;cases ec;obtain⟨⟨cls,dd,data,sl⟩,ho,hc,n,hdd⟩:=id hl;simp only at hc hdd;subst hc hdd;obtain⟨e,he,ha⟩:=zZ (A:=X.A.in1) (Rep.val I2 hnx rt2 r2) (by show X.A.units+1+60<cLine;omega) hd rs
     obtain⟨_,k1,k2⟩:=nA hk;rw[OW]at k1 k2;rw[<-ha]at k1 k2
     have hkl:k<us.length:=by have:=(Km.mp k1).1;rwa [Kh]at this
     have hz:us.length<=sizeLine:=by
      have z:=(I2.Jo (s'' _ _ e3)).1
      have h3:=rs.length
      have h4:=e4.length;omega
     refine Ox F.slot_list_index ⟨_,ho,rfl⟩ F.entry_list_index (F.args_list_index_2 _ _) (list_indexAt c us.toArray n dd sl u e k (by simpa using hkl) (by rw[K7]at hz;omega) ?_ ?_) ⟨ho,λy hy=>he y (by simpa using hy),?_⟩
     ·have:=(Km.mp k1).2
      rw[Oh]at this
      simpa using this
     ·intro m hm hmk
      have:=(Km.mp (k2 m hmk)).2
      rw[Oh]at this
      simpa using this
     ·exact⟨.int _,H2,I2.tok _,⟨_,rfl⟩,q2 H2 (Same.refl H2) _ (Rep.GE _)⟩
    ·exact q2.elim
   ·exact q2.elim
  ·rename_i hno
   exact(hno l rfl).elim
 | _=>exact q1.elim
theorem E7 (hu:X.A.units+1<cLine)(ha:cj X a fa)(hb:cj X b fb)(hn:bY b=true:=by rfl)
  (hbase:LZ a "get" X.env (eval a X.env)=eval a X.env:=by rfl) (hline:(apos.endLine == cpos.line)=true:=by rfl):cj X (.Call (.Attribute a "get" apos) [b] [] cpos) (oD gR fa fb):=by
 have hs:Kx [b] X.env=(false,eval b X.env)::Kx [] X.env:=bf hn;refine PE.imp (zG hu ha hb ⟨hbase,by rw[hs];rfl,hline,by rw[hs];rfl⟩) λσ H Q ⟨Z,O,E,hq⟩=> ?_
 obtain⟨Z1,O1,E1,h1⟩:=aS E hq;refine⟨Z1,O1,E1,Post.mono h1 λt H1 s1 q v r=> ?_⟩
 obtain⟨t',r',s',E',q'⟩:=q v r
 cases t' with
 | dct ks vs=>
  obtain⟨c,kvs,e1,e2,e3,e4,e5⟩:=Rep.Jl.mp r';refine⟨c,e1,.inr ⟨kvs,e3⟩,?_⟩
  obtain⟨Z2,O2,E2,h2⟩:=aS (f:=fb) E' q';refine⟨Z2,O2,E2,Post.mono h2 λt2 H2 s2 q2 v2 r2=> ?_⟩
  obtain⟨t2',r2',s2',E2',q2'⟩:=q2 v2 r2;unfold gR at q2'
  split at q2'
  ·rename_i ks' vs' k heq hk
   cases heq;obtain⟨b,f1,f2⟩:=lO hk r2'
   have g:=nK (k:=k) e4 (e5.same s2');refine⟨jq kvs k,by rw[f1];exact DGet.JU (Rd.JM (P:=vW) (SameO.of s2') (λz=>z) e3) f2,?_⟩
   cases hx:ou ks vs k with
   | some z=>
    rw[hx]at g q2';obtain⟨w,g1,g2⟩:=g;rw[g1]
    exact q2' H2 (Same.refl H2) w g2
   | none=>
    rw[hx]at g q2';rw[g];exact q2' H2 (Same.refl H2) .non Rep.JN
  ·exact q2'.elim
 | _=>exact q'.elim
end
end Tr
namespace Tr
open PySem PySem.Spec PyProof.Rows L2
section
variable {X:Cx}{a b c:Expr}{fa fb fc:En->Rs T}{pos p2 p3 p4:Pos}{x:Str}
theorem EK (i:Nat)(hu:X.A.units+1<cLine)(hb:cj X b fb)(hc:cj X c fc)(hN:X.N[i]? =some x:=by rfl)(hv:yC X.env.scope x:=by first | exact MU rfl | exact Ma (MU rfl) | exact Ma (Ma rfl))
  (hd:jj x:=by decide) (hcd:(x == ("__classdict__" : Str))=false:=by decide)
  (hs:L5 c (some (.Subscript (.Name x p2) b p3)) pos.line X.env=pure false:=by rfl):pP X (.Assign [.Subscript (.Name x p2) b p3] c pos) (xv i fb fc):=by
 intro pins s σ H D I ⟨Z,B,M,E,h⟩;refine Cq hu (qw hN hv hd hcd) hb hc hs pins s σ H D I ?_
 unfold xv at h
 split at h
 ·rename_i ks vs hl
  obtain⟨v0,e1,d,kvs,rfl,hM,e3,e4,e5⟩:=E.env.own i _ hl;obtain⟨nd,nz⟩:=A9 I e3;refine⟨Z,OO B M,E.o,?_⟩
  cases q:fc Z with
  | bad=>rw[q]at h;exact h.elim
  | err c=>rw[q]at h;exact PostF.xa h
  | ok vT=>
   rw[q,aF]at h;intro H1 s1 v r;refine⟨.ref d,e1,Z,OO B M,(E.same s1).o,?_⟩
   have h1:=h.later (SameO.of s1) (P1:=M.u) λa z=> .inl z
   cases q2:fb Z with
   | bad=>rw[q2]at h1;exact h1.elim
   | err c=>rw[q2]at h1;exact PostF.xa h1
   | ok kT=>
    rw[q2,aF]at h1;intro H2 s2 y ry
    cases q3:keyOf kT with
    | none=>rw[q3]at h1;exact h1.elim
    | some k=>
     rw[q3]at h1
     have h2:=h1.later (SameO.of s2) (P1:=M.u) λa z=> .inl z
     have hlen:ks.length=kvs.length:=by have:=congrArg LV e4;simpa using this
     by_cases hz:ks.length<1000
     ·simp only[if_pos hz]at h2
      obtain⟨kb,f1,f2⟩:=lO q3 ry
      have e3':=s2 _ _ (s1 _ _ e3);obtain⟨g1,g2⟩:=nH q3 (r.same s2) e4 ((e5.same s1).same s2) nd;refine⟨d,upd H2 d (.dT (dC kvs k v)),rfl,by rw[f1];exact DPut.t e3' f2 (by rw[K7];omega),?_⟩
      have sm:SameO (M i) H2 (upd H2 d (.dT (dC kvs k v))):=λc u e nb=>by rw[aJ (λz=>nb ((hM c).mpr z))];exact e
      obtain⟨g3,g4⟩:=((E.same s1).same s2).put (o':=.dct (gC kT vT ks vs).1 (gC kT vT ks vs).2) hl e1 sm ⟨d,_,rfl,hM,aT,g1,g2.move (P:=M i) (λa z=> .inl (.inr ⟨i,z⟩)) (λa z=> .inl z) sm⟩
      exact h2 σ _ M g4 g3 λc z=> .inl z
     ·simp only[if_neg hz]at h2
      exact h2.elim
 ·exact h.elim
end
end Tr
namespace PySem
open Sem (wp)
namespace F
theorem lk_list_keys:R1 (.type "list") "keys" =pure none:=by rw[OK,Na];kernel_rfl
theorem lk_list_getattr:R1 (.type "list") "__getattr__" =pure none:=by rw[OK,Na];kernel_rfl
end F
section
variable {prog:Kz}{w:Lb}{A:KU}{E:J8->Kb->Prop}{h:Heap}{g:Array SE}{d:Drawn}{t:Nat}{os:OsState}{a:Addr}{its:Array J8}{n:Nat}
theorem lx {tk:Tok}{Q:Fin->Kb->Prop}(hx:h.get? a=some { cls:=.type "list",data:=.seq its n })(hh:A.handled=none)
  (hq:∀h' tk' e,SO h h' e (.ref a) "keys"->E (.ref e) ⟨h',g,d,tk',os⟩) :
  wpAny (model prog w) A (Builtin.«object.__getattribute__» ⟨[.ref a,.str "keys" tk],[]⟩) Q E ⟨h,g,d,t,os⟩:=by
 have hT:(⟨h,g,d,t,os⟩:Kb).TypeIs (.ref a) "list":=⟨_,hx,rfl⟩
 have f4:=F.lk_list_keys
 repeat (any_goals (first | assumption | wp_step))
 exact wpAny_raiseAttrError hh (λh' tk e hx=>hq h' tk e hx) (attrMsg_fits (by decide+kernel) (by rw[K7];decide))
theorem nc {tk:Tok}{R:Result->Kb->Prop}(hx:h.get? a=some { cls:=.type "list",data:=.seq its n })(hh:A.handled=none)
  (hq:∀h' tk' e,SO h h' e (.ref a) "keys"->R (.error (.ref e)) ⟨h',g,d,tk',os⟩) :
  codeAny (model prog w) A (.call (.builtin "list.__getattribute__") ⟨[.ref a,.str "keys" tk],[]⟩) R ⟨h,g,d,t,os⟩:=
 QM MF.plain F.entry_list_ga (MF.check _ _ _ _ _ _ _ _ (show(⟨h,g,d,t,os⟩:Kb).TypeIs (.ref a) "list" from⟨_,hx,rfl⟩) (F.args_list_getattribute_2 _ _) (lx hx hh hq))
theorem ng {Q:Option J8->Kb->Prop}(hx:h.get? a=some { cls:=.type "list",data:=.seq its n })(hh:A.handled=none)
  (hq:∀h' tk',(∀b o,h.get? b=some o->h'.get? b=some o)->Q none ⟨h',g,d,tk',os⟩):wpAny (model prog w) A (getAttr? (.ref a) "keys") Q E ⟨h,g,d,t,os⟩:=by
 have hT:∀tk,(⟨h,g,d,tk,os⟩:Kb).TypeIs (.ref a) "list":=λ_=>⟨_,hx,rfl⟩
 have f1:=sub_AttributeError
 have f2:=MF.lookup
 have f3:=MF.bind (.ref a)
 have f5:=F.lk_list_getattr;unfold getAttr? getAttrBy? getAttrBy
 repeat (any_goals (first | assumption | exact hT _ | wp_step))
 refine nc hx hh λh' tk' e hx'=> ?_
 obtain⟨t',u',he⟩:=hx'.there
 repeat (any_goals (first | assumption | exact hT _ | wp_step))
 exact hq _ _ hx'.keeps
end
end PySem
namespace PySem.F
theorem entry_dict_update_loop:entryFor table "dict.update.loop" =some Builtin.«dict.update.loop»:=Sy (by kernel_rfl)
theorem plain_dict_update_loop:plainId "dict.update.loop" =true:=by decide+kernel
end PySem.F
namespace Tr
open PySem PySem.Spec PyProof.Rows L2
def ia (kvs:List (List Key×V)):List (List Key×V)->List (List Key×V)
 | [] =>kvs
 | p::ps=>ia (dC kvs p.1 p.2) ps
def PairsAt (H:Hp):List V->List (List Key×V)->Prop
 | [],ps=>ps= []
 | x::xs,ps=> ∃b kb p r,ps=p::r/\x= .ref b/\H b=some (.tup [.ref kb,p.2])/\H kb=some (.tup (p.1.map kV))/\PairsAt H xs r
theorem PairsAt.upd {H:Hp}{d:Addr}{kvs:List (List Key×V)}{o:HO}(hd:H d=some (.dT kvs)):∀{xs:List V} {ps:List (List Key×V)},PairsAt H xs ps->PairsAt (L2.upd H d o) xs ps
 | [],_,h=>h
 | x::xs,_,⟨b,kb,p,r,e1,e2,e3,e4,e5⟩=>⟨b,kb,p,r,e1,e2,by rw[aJ (tj e3 hd (λz=>nomatch z))];exact e3,by rw[aJ (tj e4 hd (λz=>nomatch z))];exact e4,e5.upd hd⟩
theorem pY {H:Hp}{d:Addr}{a b:HO}:upd (upd H d a) d b=upd H d b:=by
 funext c
 by_cases h:c=d
 ·rw[h,aT,aT]
 ·rw[aJ h,aJ h,aJ h]
section
variable {X:Cx}{pins:List (Addr×Obj)}{σ:L2.St}{A:KU}{res:J8}{R:Result->Kb->Prop}{d l it:Addr}{xs:List V}
theorem ye (hh:A.handled=none)(hu:A.units+3<cLine):∀(k i:Nat) (s:Kb) (H:Hp) (kvs ps:List (List Key×V)),xs.length - i=k->i<=xs.length->H l=some (.lst xs)->H d=some (.dT kvs)->kvs.length+(xs.length - i)<=1000->Inv X pins σ H s->s.heap.IsListIter it l i->nX X pins H it->PairsAt H (xs.drop i) ps →
  (∀s',Inv X pins σ (upd H d (.dT (ia kvs ps))) s'->R (.ok (.ret res)) s')->codeAny (model X.prog X.w) A (.builtin "dict.update.loop" ⟨[.ref d,.ref it,rawInt i,res],[]⟩) R s:=by
 intro k
 induction k with
 | zero=>
  intro i s H kvs ps hk hi hl hd hz I hit hf hp hR;refine LQ F.entry_dict_update_loop ?_
  rw[Lp F.plain_dict_update_loop _];obtain⟨z,its,n,r,hlen,e⟩:=I.Jo hl
  have hL:s.heap.IsList l its.toArray:=⟨_,e,rfl,n,rfl⟩
  show wpAny _ A.in1 (pyNext (.ref it) >>= _) _ _ s
  refine J5 (Qs hh hit hL (by simp;omega) λh' hm=> ?_)
  show wpAny _ _ (Builtin.Dict.addKeywords d [] >>= _) _ _ _
  refine J5 (Kd (Kd ?_))
  have hnil:xs.drop i= []:=Ml (by omega)
  rw[hnil]at hp;unfold PairsAt at hp;subst hp
  have e2:upd H d (.dT (ia kvs []))=H:=by
   funext b
   by_cases hb:b=d
   ·rw[hb,aT,hd];rfl
   ·rw[aJ hb]
  rw[e2]at hR
  exact hR _ (I.Jt (fp:=[it]) (t':=s.toks) (λb hb=>by rw[KG.mp hb];exact hf) λb o hb eb=>hm b o (λz=>hb (by rw[z];exact KG.mpr rfl)) eb)
 | succ k ih=>
  intro i s H kvs ps hk hi hl hd hz I hit hf hp hR;refine LQ F.entry_dict_update_loop ?_
  rw[Lp F.plain_dict_update_loop _];obtain⟨z,its,n,r,hlen,e⟩:=I.Jo hl
  have hL:s.heap.IsList l its.toArray:=⟨_,e,rfl,n,rfl⟩
  have hlt:i<xs.length:=by omega
  have hlt':i<its.length:=by omega
  show wpAny _ A.in1 (pyNext (.ref it) >>= _) _ _ s
  refine J5 (P9 hit hL (x:=its[i]) (by simp[hlt']) λh' hit' hm=> ?_)
  have I1:Inv X pins σ H { s with heap:=h' }:=I.Jt (fp:=[it]) (t':=s.toks) (λb hb=>by rw[KG.mp hb];exact hf) λb o hb eb=>(hm.2 b (λz=>hb (by rw[z];exact KG.mpr rfl))).trans eb
  have hdrop:xs.drop i=xs[i] ::xs.drop (i+1):=LG hlt;rw[hdrop]at hp;obtain⟨b,kb,p,r',rfl,ex,hb,hkb,hp'⟩:=hp
  have rx:RelV xs[i] its[i]:=by
   obtain⟨u,q1,q2⟩:=r.get (Kf hlt)
   rw[Kf hlt']at q1
   cases q1;exact q2
  rw[ex]at rx
  have eu:its[i] =KY b:=rx;rw[eu];obtain⟨z2,its2,r2,ob,hob1,hob2,nb,hob3⟩:=(show ObjOk X.prog X.w H h' b (.tup [.ref kb,p.2])from I1.hok b _ hb)
  obtain⟨u1,us1,q1,rfl⟩:∃u1 us1,RelV (V.ref kb) u1/\its2=u1::us1:=by cases r2 with | cons a b=>exact⟨_,_,a,rfl⟩
  cases r2 with
  | cons ra rb=>
   obtain⟨u2,q2,rfl⟩:∃u2,RelV p.2 u2/\us1= [u2]:=by cases rb with | cons a b=>cases b;exact⟨_,a,rfl⟩
   obtain rfl:u1=KY kb:=q1
   show wpAny _ A.in1 (holding [KY b] _ >>= _) _ _ _
   refine J5 (Ly ?_)
   refine J5 (wpAny_tryCatch ?_)
   unfold Builtin.Dict.pairItems;refine J5 (MN (s:={ s with heap:=h' }) (T:="tuple") ⟨ob,hob1,hob2⟩ ?_)
   rw[if_pos (by decide)]
   refine J5 (QR (s:={ s with heap:=h' }) hob1 hob3 (Kd ?_))
   show wpAny _ _ (holding [KY kb,u2] (dictSet d (.ref kb) u2)) _ _ _
   refine Ly ?_
   obtain⟨zz,hds,xs2,rel,dd⟩:=A6 I1.hok hd
   have hzl:xs2.length<=sizeLine:=by rw[<-PB rel];exact zz
   have hkl:kvs.length<sizeLine:=by rw[K7];omega
   have hl2:(dC kvs p.1 p.2).length<=sizeLine:=by have:=fO kvs p.1 p.2;omega
   refine wpAny_dictSet_heap (hsz:=hzl) (NM (by show A.units+1<cLine;omega)) (key_of I1.hok hkb) dd λh2 dd2 hs2=> ?_
   obtain⟨q,es,ep,hq,h22,h3,h4,_,h5⟩:=dd2
   have I2:Inv X pins σ (upd H d (.dT (dC kvs p.1 p.2))) { s with heap:=h2,toks:=s.toks+(Pr (cg X.prog X.w)).draws p.1 }:=
    rp (s:={ s with heap:=h' }) I1 (by rw[hd];exact Nb) hs2 ⟨q,hq⟩ ⟨hl2,hds,_,(rel.put p.1 hkb q2).keeps λc ys ec=>by rw[aJ (tj ec hd (λz=>nomatch z))];exact ec,q,es,ep,hq,h22,h3,h4,h5⟩
   have hld:l≠d:=tj hl hd (λz=>nomatch z)
   have hitd:it≠d:=λz=>by have:=hf.1;rw[z,hd]at this;cases this
   have hcast:(i:Int)+1=((i+1:Nat):Int):=by omega
   refine Kd ⟨MR F.plain_dict_update_loop _,?_⟩
   rw[hcast];refine ih (i+1) _ (upd H d (.dT (dC kvs p.1 p.2))) (dC kvs p.1 p.2) r' (by omega) (by omega) (by rw[aJ hld];exact hl) aT (by have:=fO kvs p.1 p.2;omega) I2 ?_ ⟨by rw[aJ hitd];exact hf.1,hf.2⟩ (hp'.upd hd) λs' I'=> ?_
   ·obtain⟨oi,ho1,ho2,ho3⟩:=hit'
    exact⟨oi,(hs2.2 it hitd).trans ho1,ho2,ho3⟩
   ·rw[pY]at I'
    exact hR s' I'
end
theorem PairsAt.same {H H':Hp}(s:Same H H'):∀{xs:List V} {ps:List (List Key×V)},PairsAt H xs ps->PairsAt H' xs ps
 | [],_,h=>h
 | x::xs,_,⟨b,kb,p,r,e1,e2,e3,e4,e5⟩=>⟨b,kb,p,r,e1,e2,s _ _ e3,s _ _ e4,e5.same s⟩
section
variable {X:Cx}{pins:List (Addr×Obj)}{σ:L2.St}{A:KU}{E:J8->Kb->Prop}{H:Hp}{s:Kb}{l:Addr}{xs:List V}{ps:List (List Key×V)}
theorem A8 {Q:J8->Kb->Prop}(hh:A.handled=none)(hu:A.units+8<cLine)(I:Inv X pins σ H s)(hl:H l=some (.lst xs))(hz:xs.length<=1000)(hp:PairsAt H xs ps)
  (h:∀p s',Nw X.K H p->Inv X pins σ (upd H p (.dT (ia [] ps))) s'->Q (.ref p) s'):wpAny (model X.prog X.w) A (call (.type "dict") [.ref l]) Q E s:=by
 have hk:X.K.lookup s.heap.objs.size=none:=by
  cases q:X.K.lookup s.heap.objs.size with
  | none=>rfl
  | some o=>exact absurd (Kk (I.kIn _ o q)) (KW _)
 have hn:H s.heap.objs.size=none:=I.hok.fresh (Ki _)
 have hlp:l≠s.heap.objs.size:=λz=>by rw[z,hn]at hl;cases hl
 refine callType_codes (Q₁:=λobj s₁=>obj= .ref s.heap.objs.size/\s₁= { s with heap:=s.heap.push { cls:=.type "dict",data:=.dict #[] } }) F.kt_called_dict (F.kt_typeCall_dict_1 _) F.entry_dict_init (kt_code_dict_new _ ⟨rfl,rfl⟩) ?_
 rintro obj s₁ ⟨rfl,rfl⟩
 have I1:Inv X pins σ (upd H s.heap.objs.size (.dT [])) { s with heap:=s.heap.push { cls:=.type "dict",data:=.dict #[] } }:=I.laid (a:=s.heap.objs.size) (o:=.dT []) (t':=s.toks) (λ_ _ q=>Kc _ q) (Ki _) (A7 s.heap I.big)
 have hT:({ s with heap:=s.heap.push { cls:=.type "dict",data:=.dict #[] } }:Kb).TypeIs (.ref s.heap.objs.size) "dict":=⟨_,Kn _ rfl,rfl⟩
 have hl1:upd H s.heap.objs.size (.dT []) l=some (.lst xs):=by rw[aJ hlp];exact hl
 obtain⟨z,its,n,r,hlen,e⟩:=I1.Jo hl1;refine⟨hT,F.args_dict_init_2 _ _,?_⟩
 unfold Builtin.«dict.__init__»;refine J5 ?_
 unfold Builtin.Dict.selfAndRest;refine J5 (wpAny_notOrdered_dict hT ?_)
 show wpAny _ _ (pure (s.heap.objs.size,[KY l])) _ _ _
 refine Kd ?_
 show wpAny _ _ (Pz "dict.__init__" s.heap.objs.size (.ref l) [] .none) _ _ _
 unfold Pz;refine J5 (MN (T:="list") ⟨_,e,rfl⟩ ?_)
 rw[if_pos (by decide)]
 refine J5 (ng e hh λh' tk' kp=> ?_)
 have I2:Inv X pins σ (upd H s.heap.objs.size (.dT [])) { s with heap:=h',toks:=tk' }:=I1.kept (t':=tk') kp
 rw[if_pos (by rfl)]
 refine J5 (Nf ?_)
 have eL:({ s with heap:=h',toks:=tk' }:Kb).heap.IsList l its.toArray:=⟨_,kp _ _ e,rfl,n,rfl⟩
 refine J5 (NZ eL ?_)
 have I3:Inv X pins σ (upd H s.heap.objs.size (.dT [])) { s with heap:=h'.push { cls:=.type "list_iterator",data:=.fields #[.ref l,.int 0 0] },toks:=tk' }:=I2.kept (t':=tk') λb u q=>Kc _ q
 have hpl:s.heap.objs.size<h'.objs.size:=Kk (kp _ _ (Kn _ rfl))
 have hni:upd H s.heap.objs.size (.dT []) h'.objs.size=none:=by
  rw[aJ (LC hpl)];exact I.hok.fresh (LB hpl)
 have hp1:PairsAt (upd H s.heap.objs.size (.dT [])) xs ps:=hp.same (aN hn _);refine Kd ⟨MR F.plain_dict_update_loop _,?_⟩
 refine ye (A:=A.in1) (X:=X) (pins:=pins) (σ:=σ) (l:=l) (xs:=xs) (it:=h'.objs.size) hh (by show A.units+1+3<cLine;omega) xs.length 0 _ (upd H s.heap.objs.size (.dT [])) [] ps (by omega) (K3 _) hl1 aT (by simp;omega) I3 ⟨_,Kn _ rfl,rfl,rfl⟩ (I2.JE (Ki _) hni) hp1 λs' I'=> ?_
 rw[pY]at I';exact⟨rfl,h _ _ ⟨hn,hk⟩ I'⟩
end
theorem hu8 {k:Nat}{A:KU}(h:Room k A):A.units+8<cLine:=by have:=h.un;omega
theorem uT {kvs:List (List Key×V)}{k:List Key}{v:V}(h:(kvs.map (·.1)).Nodup):((dC kvs k v).map (·.1)).Nodup:=by
 unfold dC
 by_cases a:(kvs.any λkv=>decide (kv.1=k))=true
 ·rw[if_pos a,KB]
  have:((λx=>x.1)∘λkv:List Key×V=>if kv.1=k then(kv.1,v)else kv)=λx=>x.1:=by
   funext x
   show(if x.1=k then(x.1,v)else x).1=x.1
   by_cases e:x.1=k
   ·rw[if_pos e]
   ·rw[if_neg e]
  rw[this];exact h
 ·rw[if_neg a,LM,MG]
  refine⟨h,by simp,λx hx y hy=> ?_⟩
  simp only[Ke,Qg,KG]at hy;subst hy;intro z;subst z;obtain⟨p,hp,e⟩:=Ku.mp hx;exact a (Su.mpr ⟨p,hp,decide_eq_true e⟩)
def Jh (K:J6)(O:Ow)(H:Hp):List (T×T)->List (List Key×V)->Prop
 | [],ps=>ps= []
 | a::l,ps=> ∃p r,ps=p::r/\keyOf a.1=some p.1/\Rep K O H a.2 p.2/\Jh K O H l r
theorem pF {K:J6}{O:Ow}{H:Hp}:∀{l:List (T×T)} {ps:List (List Key×V)} {ks ts:List T} {kvs:List (List Key×V)},Jh K O H l ps->ks.map keyOf=kvs.map (λp=>some p.1)->Reps K O H ts (kvs.map (·.2))->(kvs.map (·.1)).Nodup →
  (iw l (ks,ts)).1.map keyOf=(ia kvs ps).map (λp=>some p.1)/\Reps K O H (iw l (ks,ts)).2 ((ia kvs ps).map (·.2))
 | [],ps,ks,ts,kvs,h,h1,h2,hn=>by unfold Jh at h;subst h;exact⟨h1,h2⟩
 | (a,b)::l,ps,ks,ts,kvs,h,h1,h2,hn=>by
  obtain⟨p,r,rfl,e1,e2,e3⟩:=h;obtain⟨g1,g2⟩:=nH (vT:=b) e1 e2 h1 h2 hn
  show(iw l (gC a b ks ts)).1.map keyOf=(ia (dC kvs p.1 p.2) r).map (λp=>some p.1)/\Reps K O H (iw l (gC a b ks ts)).2 ((ia (dC kvs p.1 p.2) r).map (·.2))
  exact pF (l:=l) e3 g1 g2 (uT hn)
theorem vP {K:J6}{O:Ow}{H:Hp}:∀{l:List T} {tps:List (T×T)} {xs:List V},GP l=some tps->Reps K O H l xs->∃ps,PairsAt H xs ps/\Jh K O H tps ps
 | [],tps,xs,h,r=>by cases Reps.Da.mp r;cases h;exact⟨[],rfl,rfl⟩
 | t::l,tps,xs,h,r=>by
  obtain⟨v,ws,rfl,p,q⟩:=Reps.me.mp r;unfold GP at h
  split at h
  ·rename_i heq;cases heq
  ·rename_i k v' l' heq
   cases heq
   split at h
   ·rename_i kk rr hk hr
    cases h;obtain⟨ps,g1,g2⟩:=vP hr q;obtain⟨b,vs,e1,e2,e3,e4⟩:=Rep.Fk.mp p;obtain⟨u1,us1,rfl,f1,f2⟩:=Reps.me.mp e4;obtain⟨u2,us2,rfl,f3,f4⟩:=Reps.me.mp f2;cases Reps.Da.mp f4;obtain⟨kb,f5,f6⟩:=lO hk f1;subst f5;exact⟨(kk,u2)::ps,⟨b,kb,(kk,u2),ps,rfl,e1,e3,f6,g1⟩,⟨(kk,u2),ps,rfl,hk,f3,g2⟩⟩
   ·cases h
  ·cases h
section
variable {X:Cx}{e:Expr}{f:En->Rs T}{x y:Str}{p pos p2 p3:Pos}
def Ep (X:Cx)(f:En->Rs T):TE:=λσ H Q=>tP X f σ H λv H'=> ∃a xs ps,v= .ref a/\H' a=some (.lst xs)/\xs.length<=1000/\PairsAt H' xs ps/\∀q,Nw X.K H' q->Q (.ref q) (upd H' q (.dT (ia [] ps)))
theorem zF (hu:X.A.units+8<cLine)(hc:X.calm=true)(hm:X.mg "dict" =none)(ha:cj X e f)(hg:Gl X "dict")(hs:bY e=true):PE X (.Call (.Name "dict" p) [e] [] pos) (Ep X f):=by
 have h1:Kx [e] X.env=(false,eval e X.env)::Kx [] X.env:=bf hs;intro pins s σ H Q I hq;refine Le (d4 I hg hm (show KQ "dict" =some (.type "dict")by decide+kernel) ?_ (by decide) (by decide))
 refine K2 (bX (iO (te:=tP X f) ha mx h1 pos pins s σ H (λxs H'=> ∃v,xs= [v]/\∃a xs ps,v= .ref a/\H' a=some (.lst xs)/\xs.length<=1000/\PairsAt H' xs ps/\∀q,Nw X.K H' q->Q (.ref q) (upd H' q (.dT (ia [] ps)))) I ?_) λus s1 hh=> ?_) h1 rfl
 ·obtain⟨Z,O,E,h⟩:=hq
  exact⟨Z,O,E,Post.mono h λt H' _ g v r=>⟨v,rfl,g v r⟩⟩
 ·obtain⟨vs,H1,I1,r1,v,rfl,a,xs,ps,ev,e1,e2,e3,e4⟩:=hh
  subst ev;obtain⟨u,rfl,ru⟩:=r1.one;obtain rfl:u=KY a:=ru;exact A8 (I1.ok.hd hc) hu I1 e1 e2 e3 λq s' nw I'=>⟨.ref q,_,I',rfl,e4 q nw⟩
theorem B8 (i:Nat)(hu:X.A.units+8<cLine)(hc:X.calm=true)(hm:X.mg "dict" =none)(hN:X.N.Nodup)(ha:cj X e f)(hst:bY e=true:=by rfl)(hg:Gl X "dict":=by rfl)(hi:X.N[i]? =some x:=by rfl)(hx:Loc X.env.scope x:=by first | exact MU rfl | exact Ma rfl)(hs:L5 (.Call (.Name "dict" p) [e] [] p2) (some (.Name x p3)) pos.line X.env=pure false:=by rfl)
  (hf:X.fn x=true\/X.env.scope.names.lookup x=some .local:=by first | exact .inl rfl | exact .inr rfl | assumption):pP X (.Assign [.Name x p3] (.Call (.Name "dict" p) [e] [] p2) pos) (oJ i f):=PS.imp (zw hN hi hx (zF hu hc hm ha hg hst) hs hf) λD σ H hh_=>by
 obtain⟨Z,B,M,E,h⟩:=hh_;refine⟨Z,OO B M,E.o,?_⟩
 unfold oJ at h
 cases q:f Z with
 | bad=>rw[q]at h;exact h.elim
 | err c=>rw[q]at h;exact PostF.xa h
 | ok t=>
  rw[q,aF]at h;intro H1 s1 v r
  have h1:=h.later (SameO.of s1) (P1:=M.u) λa z=> .inl z
  cases t with
  | lst l=>
   obtain⟨a,xs,rfl,e2,e3,e4⟩:=Rep.Do.mp r;unfold wL at h1
   split at h1
   ·rename_i l' heq
    cases heq
    split at h1
    ·rename_i tps hps
     by_cases hz:l.length<=1000
     ·rw[if_pos hz,aF]at h1
      obtain⟨ps,g1,g2⟩:=vP hps e4;refine⟨a,xs,ps,rfl,e3,by rw[<-e4.length];exact hz,g1,λnd nw=> ?_⟩
      by_cases hl:i<Z.length
      ·simp only[if_pos hl]at h1
       have hm:∀a,a=nd->Nw X.K H1 a:=λa z=>z▸nw
       obtain⟨k1,k2⟩:=pF (ks:=[]) (ts:=[]) (kvs:=[]) g2 rfl Reps.GT N3;obtain⟨E2,sub⟩:=(E.same s1).new (m:=λa=>a=nd) (o:=.dct (iw tps ([],[])).1 (iw tps ([],[])).2) (v:=.ref nd) (H':=upd H1 nd (.dT (ia [] ps))) hl hm (aN nw.1 _) ⟨nd,_,rfl,λb=>OC,aT,k1,(k2.more (Ev.subO hm)).same (aN nw.1 _)⟩
       exact h1 _ _ _ (SameO.of (aN nw.1 _)) E2 sub
      ·simp only[if_neg hl]at h1;exact h1.elim
     ·rw[if_neg hz]at h1;exact h1.elim
    ·exact h1.elim
   ·rename_i hno
    exact(hno l rfl).elim
  | _=>exact h1.elim
end
theorem gy {K:J6}{O:Ow}{H:Hp}:∀{l:List T} {ns:List Int} {xs:List V} {us:List J8},cM l=some ns->Reps K O H l xs->Vals xs us->LI us ns
 | [],ns,xs,us,h,r,v=>by cases Reps.Da.mp r;cases v;cases h;exact .nil
 | t::l,ns,xs,us,h,r,v=>by
  obtain⟨w,ws,rfl,p,q⟩:=Reps.me.mp r
  cases v with
  | cons v1 v2=>
   cases t with
   | int i=>
    unfold cM at h;obtain⟨m,h1,rfl⟩:=LR.mp h;cases Rep.AC.mp p;obtain⟨k,rfl⟩:=v1
    exact .cons _ _ (gy h1 q v2)
   | _=>cases h
theorem o8:∀(l:List Int) (i:Int),m5 i l∈i::l/\∀a∈i::l,a<=m5 i l
 | [],i=>⟨Kg,λa h=>by cases KG.mp h;exact PD _⟩
 | j::l,i=>by
  obtain⟨h1,h2⟩:=o8 l (if i<j then j else i)
  unfold m5
  have h3:=h2 _ Kg;refine⟨?_,λa ha=> ?_⟩
  ·rcases Ko.mp h1 with e | e
   ·rw[e]
    by_cases h:i<j
    ·rw[if_pos h];simp
    ·rw[if_neg h];simp
   ·exact Ka _ (Ka _ e)
  ·rcases Ko.mp ha with rfl | ha
   ·by_cases h:a<j
    ·rw[if_pos h]at h3 ⊢;omega
    ·rw[if_neg h]at h3 ⊢;omega
   ·rcases Ko.mp ha with rfl | ha
    ·by_cases h:i<a
     ·rw[if_pos h]at h3 ⊢;omega
     ·rw[if_neg h]at h3 ⊢;omega
    ·exact h2 a (Ka _ ha)
section
variable {X:Cx}
theorem Gy (hc:X.calm=true):CallT X (.builtin "sum") yX:=by
 intro pins s σ H O ts vs us Q I hf rs rv hp;unfold yX at hp
 split at hp
 ·rename_i l
  obtain⟨v,rfl,r⟩:=rs.one
  split at hp
  ·rename_i ns hk
   obtain⟨a,ws,rfl,n,q,z⟩:=Rep.Do.mp r;obtain⟨u,rfl,ru⟩:=kQ rv;cases ru;obtain⟨its,r',pl,hz⟩:=I.list (SqL.of q)
   have hi:=gy hk z r';obtain⟨xs,e⟩:=hi.allInts.items
   have hns:ns=xs.toList.map (·.1):=by rw[<-hi.numsOf,<-RE,<-e]
   have hl:s.heap.IsList a (PR xs):=by rw[<-e];exact pl.isList
   refine sum_intListG (I.ok.hd hc) hl λh' tk t' hk'=>⟨.int _,H,I.kept (t':=tk) hk',⟨_,rfl⟩,?_⟩
   have:preSum (numAt xs) xs.size=ns.sum:=by rw[hns,preSum_eq,MX (by simp)]
   rw[this];exact hp H (Same.refl H) _ (Rep.GE _)
  ·exact hp.elim
 ·exact hp.elim
theorem Gz (hc:X.calm=true):CallT X (.builtin "max") FK:=by
 intro pins s σ H O ts vs us Q I hf rs rv hp;unfold FK at hp
 split at hp
 ·rename_i l
  obtain⟨v,rfl,r⟩:=rs.one
  split at hp
  ·rename_i i ns hk
   obtain⟨a,ws,rfl,n,q,z⟩:=Rep.Do.mp r;obtain⟨u,rfl,ru⟩:=kQ rv;cases ru;obtain⟨its,r',pl,hz⟩:=I.list (SqL.of q)
   have hi:=gy hk z r';obtain⟨xs,e⟩:=hi.allInts.items
   have hns:i::ns=xs.toList.map (·.1):=by rw[<-hi.numsOf,<-RE,<-e]
   have hl:s.heap.IsList a (PR xs):=by rw[<-e];exact pl.isList
   have hsz:0<xs.size:=by
    have h3:=congrArg LV hns;rw[Kj,Kh]at h3;rw[<-KJ];omega
   refine max_intList (I.ok.hd hc) hl hsz λv h' tk hv hk'=> ?_
   obtain⟨t,rfl⟩:=intItems_at hv;obtain⟨h1,h2⟩:=argBest_gt (numAt xs) (xs.size - 1);refine⟨.int _,H,I.kept (t':=tk) hk',⟨_,rfl⟩,?_⟩
   have eM:numAt xs (argBest (λi j=>decide (numAt xs i > numAt xs j)) (xs.size - 1))=m5 i ns:=by
    obtain⟨g1,g2⟩:=o8 ns i
    have m1:numAt xs (argBest (λi j=>decide (numAt xs i > numAt xs j)) (xs.size - 1))∈i::ns:=by
     rw[hns,numAt_eq];exact PySem.getD_mem (by rw[Kh,KJ];omega)
    have k1:=g2 _ m1;rw[hns]at g1;obtain⟨j,hj,ej⟩:=mem_getD g1;rw[Kh,KJ]at hj;rw[<-numAt_eq]at ej
    have k2:=h2 j (by omega)
    rw[ej]at k2;exact Int.le_antisymm k1 k2
   rw[eM];exact hp H (Same.refl H) _ (Rep.GE _)
  ·exact hp.elim
 ·rename_i i j
  obtain⟨v,ws,rfl,p,q⟩:=Reps.me.mp rs;obtain⟨v2,rfl,p2⟩:=q.one;cases Rep.AC.mp p;cases Rep.AC.mp p2;refine yu hc pins s σ H _ us Q I rv ⟨i,j,rfl,?_⟩
  exact hp H (Same.refl H) _ (Rep.GE _)
 ·exact hp.elim
end
end Tr
namespace Tr
def c8:List Int->List Int->Bool
 | [],[] =>false
 | [],_::_=>true
 | _::_,[] =>false
 | a::l,b::m=>if a=b then c8 l m else decide (a<b)
def m9 (a b:List Int):Bool:=!c8 b a
theorem kc:∀l,c8 l l=false
 | [] =>rfl
 | a::l=>by unfold c8;rw[if_pos rfl];exact kc l
theorem lK:∀a b c,c8 a b=true->c8 b c=true->c8 a c=true
 | [],[],_,h,_=>absurd h (by simp[c8])
 | _::_,[],_,h,_=>absurd h (by simp[c8])
 | [],_::_,[],_,h=>absurd h (by simp[c8])
 | [],_::_,_::_,_,_=>rfl
 | _::_,_::_,[],_,h=>absurd h (by simp[c8])
 | x::a,y::b,z::c,h,g=>by
  unfold c8 at h g ⊢
  by_cases e:x=y
  ·subst e
   rw[if_pos rfl]at h
   by_cases e2:x=z
   ·rw[if_pos e2]at g ⊢;exact lK a b c h g
   ·rw[if_neg e2]at g ⊢;exact g
  ·rw[if_neg e]at h
   by_cases e2:y=z
   ·subst e2;rw[if_neg e];exact h
   ·rw[if_neg e2]at g
    have h1:=of_decide_eq_true h
    have h2:=of_decide_eq_true g;rw[if_neg (by omega)]
    exact decide_eq_true (by omega)
theorem ka:∀a b,c8 a b=false->c8 b a=false->a=b
 | [],[],_,_=>rfl
 | [],_::_,h,_=>absurd h (by simp[c8])
 | _::_,[],_,h=>absurd h (by simp[c8])
 | x::a,y::b,h,g=>by
  unfold c8 at h g
  by_cases e:x=y
  ·subst e
   rw[if_pos rfl]at h g;rw[ka a b h g]
  ·rw[if_neg e]at h
   rw[if_neg (λz=>e z.symm)]at g
   have h1:=of_decide_eq_false h
   have h2:=of_decide_eq_false g;omega
theorem tI (a b c:List Int)(h:c8 a c=true):c8 a b=true\/c8 b c=true:=by
 cases h1:c8 a b with
 | true=>exact .inl rfl
 | false=>
  cases h2:c8 b a with
  | true=>exact .inr (lK _ _ _ h2 h)
  | false=>rw[<-ka _ _ h1 h2];exact .inr h
theorem FO (a b c:List Int)(h:m9 a b=true)(g:m9 b c=true):m9 a c=true:=by
 unfold m9 at*
 cases z:c8 c a with
 | false=>rfl
 | true=>
  rcases tI c b a z with y | y
  ·rw[y]at g;cases g
  ·rw[y]at h;cases h
theorem C1 (a b:List Int):(m9 a b||m9 b a)=true:=by
 unfold m9
 cases z:c8 b a with
 | false=>rfl
 | true=>
  cases y:c8 a b with
  | false=>rfl
  | true=>have:=lK _ _ _ z y;rw[kc]at this;cases this
theorem Ab (a b:List Int)(h:m9 a b=true)(g:m9 b a=true):a=b:=by
 unfold m9 at h g;refine ka a b ?_ ?_
 ·cases z:c8 a b with
  | false=>rfl
  | true=>rw[z]at g;cases g
 ·cases z:c8 b a with
  | false=>rfl
  | true=>rw[z]at h;cases h
theorem gc {k m:List (List Int)}(p:m.Perm k)(s:m.Pairwise (λa b=>m9 a b=true)):m=k.mergeSort m9:=
 Pf (le:=λa b=>m9 a b=true) (λa b _ _ h g=>Ab a b h g) s (PF FO C1 k) (p.trans (QZ k m9).symm)
end Tr
namespace Tr
open PySem PySem.Spec PyProof.Rows L2
structure SrtB (k0:QC)(o:Array S9)(st:Oe):Prop where
 p:(arrOf st).Perm o
 k:kindOf st=k0
 f:Ov st=none
 e:Nr st= #[]
theorem SrtB.len {k0:QC}{o:Array S9}{st:Oe}(b:SrtB k0 o st):(arrOf st).size=o.size:=b.p.size_eq
theorem SrtB.arr {k0:QC}{o xs:Array S9}{st:Oe}(b:SrtB k0 o st)(h:xs.Perm (arrOf st)):SrtB k0 o (setArr st xs):=⟨h.trans b.p,b.k,b.f,b.e⟩
def uh (κ:KeyKind)(k0:QC)(prog:Kz)(w:Lb)(A:KU)(s:Kb):Prop:=
 ∀(E:J8->Kb->Prop) (x y:J8) (a b:κ.α) (Q:Bool->Kb->Prop),κ.keyOf x=some a->κ.keyOf y=some b->Q (κ.blt a b) s->wpAny (model prog w) A (keyLt' k0 x y) Q E s
abbrev gk (κ:KeyKind)(st:Oe)(i:Nat):κ.α:=KK κ (arrOf st) i
theorem BG {κ:KeyKind}{xs:Array S9}{n:Nat}(h:LS κ xs n)(hl:κ.kle (KK κ xs (n - 1)) (KK κ xs n)):LS κ xs (n+1):=λi j le lt=>by
 rcases MM j n with z | z
 ·exact h i j le z
 ·obtain rfl:j=n:=by omega
  rcases MM i j with y | y
  ·exact Oi (h i (j - 1) (by omega) (by omega)) hl
  ·rw[show i=j by omega];exact M8 _
theorem lS {κ:KeyKind}{xs:Array S9}{n:Nat}(h:Q8 κ xs n)(hl:κ.kle (KK κ xs n) (KK κ xs (n - 1))):Q8 κ xs (n+1):=λi j le lt=>by
 rcases MM j n with z | z
 ·exact h i j le z
 ·obtain rfl:j=n:=by omega
  rcases MM i j with y | y
  ·exact Oi hl (h i (j - 1) (by omega) (by omega))
  ·rw[show i=j by omega];exact M8 _
theorem yM {κ:KeyKind}{xs:Array S9}{n:Nat}(h:n<=1):LS κ xs n:=λi j le lt=>by rw[show i=j by omega];exact M8 _
theorem Gn {κ:KeyKind}{xs:Array S9}{n:Nat}(h:n<=1):Q8 κ xs n:=λi j le lt=>by rw[show i=j by omega];exact M8 _
section
variable {prog:Kz}{w:Lb}{A:KU}{E:J8->Kb->Prop}{s:Kb}{κ:KeyKind}{k0:QC}{o:Array S9}{st:Oe}
theorem DH (b:SrtB k0 o st)(ks:KeysOf κ o){i:Nat}(hi:i<o.size):∃z,(arrOf st)[i]? =some z/\κ.keyOf z.1=some (gk κ st i):=by
 have h1:i<(arrOf st).size:=b.len▸hi;obtain⟨a,ha⟩:=ks _ ((OQ.mp b.p).mem_iff.mp (Array.getElem_mem_toList h1))
 have e:=getElem?_pos (arrOf st) i h1
 refine⟨_,e,?_⟩
 show _=some (KK κ (arrOf st) i)
 unfold KK;rw[e,ha];simp[ha]
theorem rX (c:uh κ k0 prog w A s)(ks:KeysOf κ o)(b:SrtB k0 o st){i j:Nat}{Q:Option Bool->Oe->Prop}(hi:i<o.size)(hj:j<o.size)(q:Q (some (κ.blt (gk κ st i) (gk κ st j))) st) :
  wpS (model prog w) A E s (ltAt' i j) Q st:=by
 obtain⟨⟨x,x2⟩,e1,k1⟩:=DH b ks hi;obtain⟨⟨y,y2⟩,e2,k2⟩:=DH b ks hj;rw[ltAt'_eq];refine Li (S3 ?_)
 dsimp only
 rw[elem'_eq,elem'_eq,e1,e2];refine Li (L1 (Li (L1 ?_)))
 rw[lt'_eq];refine Li (S3 ?_)
 rw[b.k];exact Li (wpS_lift (Ou (c _ x y _ _ _ k1 k2 ⟨rfl,L1 q⟩)))
theorem DG {a m:Nat}{Q:AscSt->Oe->Prop}(c:uh κ k0 prog w A s)(ks:KeysOf κ o)(b:SrtB k0 o st)(hm:m<=o.size)(h1:1<=a)(h2:a<=m)(so:LS κ (arrOf st) a)
  (q:∀n,a<=n->n<=m->LS κ (arrOf st) n->(n≠m->κ.klt (gk κ st n) (gk κ st (n - 1)))->Q (none,n) st):wpS (model prog w) A E s (ascLoop a m) Q st:=by
 unfold ascLoop;refine Og (I:=λn r st'=>r=(none,n)/\st'=st/\LS κ (arrOf st) n) (λn r st' l1 l2 hI=> ?_) (λr st' hI=> ?_) ⟨rfl,rfl,so⟩
 ·obtain⟨rfl,rfl,sn⟩:=hI
  refine Li (rX c ks b (Kl l2 hm) (MZ (RP _ _) (Kl l2 hm)) ?_)
  cases z:κ.blt (gk κ st' n) (gk κ st' (n - 1))with
  | true=>exact L1 (q n l1 (LB l2) sn λ_=>z)
  | false=>exact L1 ⟨rfl,rfl,BG sn z⟩
 ·obtain⟨rfl,rfl,sn⟩:=hI
  have e:max a m=m:=Oj h2;rw[e]at sn ⊢;exact q m h2 (Ki _) sn λh=>absurd rfl h
theorem pZ {i j:Nat}{Q:Unit->Oe->Prop}(b:SrtB k0 o st)(q:∀st',SrtB k0 o st'->arrOf st'=mirror (arrOf st) i j ((j - i) / 2)->Q () st'):wpS (model prog w) A E s (reverseSlice' i j) Q st:=by
 rw[reverseSlice'_eq];exact R5 (q _ (b.arr (mirror_perm _ _ _ _)) rfl)
abbrev Bk (κ:KeyKind)(k0:QC)(o:Array S9)(m:Nat)(Q:Option Nat->Oe->Prop):Prop:=∀n st',SrtB k0 o st'->1<=n->n<=m->LS κ (arrOf st') n->Q (some n) st'
theorem vG {n m:Nat}{Q:Option Nat->Oe->Prop}(c:uh κ k0 prog w A s)(ks:KeysOf κ o)(b:SrtB k0 o st)(hm:m<=o.size)(h1:1<=n)(h2:n<=m)(dn:Q8 κ (arrOf st) n)(q:Bk κ k0 o m Q) :
  wpS (model prog w) A E s (tail3 n m) Q st:=by
 unfold tail3;refine Li (pZ b λst' b' e=>Li (DG c ks b' hm h1 h2 (λi j le lt=> ?_) λk l1 l2 so _=>L1 (q k st' b' (by omega) l2 so)))
 have hz:n<=(arrOf st).size:=by rw[b.len];omega
 rw[e,KK_mirror hz,KK_mirror hz,if_pos ⟨K3 _,by omega⟩,if_pos ⟨K3 _,by omega⟩]
 exact dn _ _ (by omega) (by omega)
theorem qA {k i:Nat}(g1:k - 1<=i)(g2:i<k):i=k - 1:=SQ (Oo g2) g1
theorem G9 {n m:Nat}{Q:DescSt->Oe->Prop}(c:uh κ k0 prog w A s)(ks:KeysOf κ o)(b:SrtB k0 o st)(hm:m<=o.size)(h1:1<=n)(h2:n<=m)(dn:Q8 κ (arrOf st) n)
  (q:∀k r st',SrtB k0 o st'->n<=k->k<=m->Q8 κ (arrOf st') k->r+1<=k->(∀i,k - (r+1)<=i->i<k->gk κ st' i=gk κ st' (k - 1))->Q (none,k,r) st'):wpS (model prog w) A E s (descLoop n m) Q st:=by
 unfold descLoop
 refine Og (I:=λk c st'=> ∃r,c=(none,k,r)/\SrtB k0 o st'/\Q8 κ (arrOf st') k/\r+1<=k/\∀i,k - (r+1)<=i->i<k->gk κ st' i=gk κ st' (k - 1)) (λk r st' l1 l2 hI=> ?_) (λr st' hI=> ?_)
  ⟨0,rfl,b,dn,h1,λi g1 g2=>by rw[qA g1 g2]⟩
 ·obtain⟨r,rfl,b',d',hr,eq⟩:=hI
  dsimp only
  have kk:=Kl l2 hm
  have kp:k - 1<o.size:=MZ (RP _ _) kk
  have hz:k<=(arrOf st').size:=by rw[b'.len];exact LB kk
  refine Li (rX c ks b' kk kp ?_)
  cases z:κ.blt (gk κ st' k) (gk κ st' (k - 1))with
  | true=>
   have d2:=lS d' (Pl z)
   show wpS _ _ _ _ (if r > 0 then _ else _) _ _
   by_cases hr0:r > 0
   ·rw[if_pos hr0]
    refine Li (pZ b' λst2 b2 e2=>L1 ⟨0,rfl,b2,λi j le lt=> ?_,PY (K3 _),λi g1 g2=>by rw[qA g1 g2]⟩)
    rw[e2,Mj hz eq,Mj hz eq];exact d2 i j le lt
   ·rw[if_neg hr0]
    exact L1 ⟨0,rfl,b',d2,PY (K3 _),λi g1 g2=>by rw[qA g1 g2]⟩
  | false=>
   refine Li (rX c ks b' kp kk ?_)
   cases y:κ.blt (gk κ st' (k - 1)) (gk κ st' k)with
   | true=>exact L1 (q k r st' b' l1 (LB l2) d' hr eq)
   | false=>
    refine L1 ⟨r+1,rfl,b',lS d' y,PY hr,λi g1 g2=> ?_⟩
    have e:gk κ st' k=gk κ st' (k - 1):=Q0 y z;rw[Nat.add_sub_cancel];rcases MM i k with g3 | g3
    ·rw[e];exact eq i (by rw[Nat.add_sub_add_right]at g1;exact g1) g3
    ·rw[SQ (Pm g2) g3]
 ·obtain⟨r,rfl,b',d',hr,eq⟩:=hI
  have e:max n m=m:=Oj h2;rw[e]at d' hr eq ⊢;exact q m r st' b' h2 (Ki _) d' hr eq
theorem vH {n m:Nat}{Q:Option Nat->Oe->Prop}(c:uh κ k0 prog w A s)(ks:KeysOf κ o)(b:SrtB k0 o st)(hm:m<=o.size)(h2:n+1<=m)(dn:Q8 κ (arrOf st) (n+1))(q:Bk κ k0 o m Q) :
  wpS (model prog w) A E s (descPart n m) Q st:=by
 unfold descPart;refine Li (wpS_lift (Nf ⟨rfl,Li (G9 c ks b hm (by omega) h2 dn λk r st' b' l1 l2 d' hr eq=> ?_)⟩))
 dsimp only
 have hz:k<=(arrOf st').size:=by rw[b'.len];omega
 by_cases hr0:r > 0
 ·rw[if_pos hr0]
  refine Li (pZ b' λst2 b2 e2=>vG c ks b2 hm (by omega) l2 (λi j le lt=> ?_) q)
  rw[e2,Mj hz eq,Mj hz eq];exact d' i j le lt
 ·rw[if_neg hr0]
  exact vG c ks b' hm (by omega) l2 d' q
theorem Ew {m:Nat}{Q:Option Nat->Oe->Prop}(c:uh κ k0 prog w A s)(ks:KeysOf κ o)(b:SrtB k0 o st)(hm:m<=o.size)(h1:1<=m)(q:Bk κ k0 o m Q):wpS (model prog w) A E s (countRun' 0 m) Q st:=by
 rw[countRun0_eq];refine Li (DG c ks b hm (Ki 1) h1 (yM (Ki 1)) λn l1 l2 so lt=> ?_)
 dsimp only
 by_cases e:n=m
 ·rw[if_pos (beq_iff_eq.mpr e)]
  exact L1 (q n st b l1 l2 so)
 rw[if_neg (λz=>e (beq_iff_eq.mp z))]
 have fall:=Pl (lt e)
 by_cases g:n > 1
 ·rw[if_pos g]
  refine Li (rX c ks b (by omega) (by omega) ?_)
  cases z:κ.blt (gk κ st 0) (gk κ st (n - 1))with
  | true=>exact L1 (q n st b l1 l2 so)
  | false=>
   have all:∀k,0<=k->k<n->gk κ st k=gk κ st (n - 1):=λk _ hk=>
    Q0 (so k (n - 1) (by omega) (by omega)) (Oi (show κ.kle (gk κ st (n - 1)) (gk κ st 0)from z) (so 0 k (by omega) hk))
   have hz:n<=(arrOf st).size:=by rw[b.len];omega
   refine Li (pZ b λst2 b2 e2=>vH c ks b2 hm (by omega) (lS (λi j le lt=> ?_) ?_) q)
   ·rw[e2,Mj hz all,Mj hz all]
    show κ.kle (gk κ st j) (gk κ st i)
    rw[all i (K3 _) (by omega),all j (K3 _) (by omega)]
    exact M8 _
   ·rw[e2,Mj hz all,Mj hz all]
    exact fall
 ·rw[if_neg g]
  exact vH c ks b hm (by omega) (lS (Gn (by omega)) fall) q
theorem FI {l u:Nat}(h:l<u):l<=(l+u) / 2/\(l+u) / 2<u:=⟨by omega,by omega⟩
theorem Ga {xs:Array S9}{k l:Nat}(hk:k<xs.size)(lk:l<=k)(so:LS κ xs k)(lo:∀i,i<l->κ.kle (KK κ xs i) (KK κ xs k))(hi:∀i,l<=i->i<k->κ.klt (KK κ xs k) (KK κ xs i)):LS κ (bubble xs k (k - l)) (k+1):=λi j le lt=>by
 rw[KK_bubble hk (RP _ _),KK_bubble hk (RP _ _),Nat.sub_sub_self lk]
 have lt:=Pm lt;rcases NV i l with i1 | i1 | i1
 ·rw[if_neg (Ky i1),if_neg λz=>Nat.lt_asymm z.1 i1]
  rcases NV j l with j1 | j1 | j1
  ·rw[if_neg (Ky j1),if_neg λz=>Nat.lt_asymm z.1 j1];exact so _ _ le (Kl j1 lk)
  ·rw[if_pos j1];exact lo i i1
  ·rw[if_neg (LC j1),if_pos ⟨j1,lt⟩];exact so _ _ (Oo (OU i1 j1)) (Kl (Oq j1) lt)
 ·rw[if_pos i1]
  rcases Nat.lt_or_eq_of_le (i1▸le:l<=j)with j1 | j1
  ·rw[if_neg (LC j1),if_pos ⟨j1,lt⟩];exact Pl (hi _ (Oo j1) (Kl (Oq j1) lt))
  ·rw[if_pos j1.symm];exact M8 _
 ·have j1:=Kl i1 le
  rw[if_neg (LC i1),if_pos ⟨i1,KD le lt⟩,if_neg (LC j1),if_pos ⟨j1,lt⟩];exact so _ _ (Nat.sub_le_sub_right le 1) (Kl (Oq j1) lt)
theorem Ex {n a:Nat}{Q:Bool->Oe->Prop}(c:uh κ k0 prog w A s)(ks:KeysOf κ o)(b:SrtB k0 o st)(h1:1<=n)(hn:n<=o.size)(ha:a<=n)(so:LS κ (arrOf st) a)
  (q:∀st',SrtB k0 o st'->LS κ (arrOf st') n->Q true st'):wpS (model prog w) A E s (binarySort' 0 n a) Q st:=by
 rw[binarySort'_eq];simp only[NB];refine Li (Og (I:=λk r st'=>r=(none,())/\SrtB k0 o st'/\LS κ (arrOf st') k) (λk r st1 l1 l2 hI=> ?_) (λr st1 hI=> ?_) ⟨rfl,b,?_⟩)
 ·obtain⟨rfl,b1,so1⟩:=hI
  have hk:k<o.size:=Kl l2 hn
  refine Li (wpS_mono (Og (I:=λx r st2=>st2=st1/\∃l u,r=(none,l,u)/\l<=u/\u<=k/\u<=k+l - x/\(∀i,i<l->κ.kle (gk κ st1 i) (gk κ st1 k))/\∀i,u<=i->i<k->κ.klt (gk κ st1 k) (gk κ st1 i))
   (Q:=λr st2=>st2=st1/\∃l u,r=(none,l,u)/\l<=k/\(∀i,i<l->κ.kle (gk κ st1 i) (gk κ st1 k))/\∀i,l<=i->i<k->κ.klt (gk κ st1 k) (gk κ st1 i)) (λx r st2 y1 y2 hJ=> ?stp) (λr st2 hJ=> ?fin) ⟨rfl,0,k,rfl,K3 _,Ki _,Ki _,λi hi=>absurd hi (Nat.not_lt_zero _),λi g1 g2=>absurd g2 (Nat.not_lt.mpr g1)⟩) λr st2 hJ=> ?pst)
  case stp=>
   obtain⟨rfl,l,u,rfl,lu,uk,mz,lo,hi⟩:=hJ
   dsimp only
   by_cases g:l ≥ u
   ·rw[if_pos g]
    exact L1 ⟨rfl,l,u,rfl,KD lu uk,lo,λi g1 g2=>hi i (KD g g1) g2⟩
   ·rw[if_neg g]
    have hm:=FI (Nat.lt_of_not_le g)
    generalize (l+u) / 2=m at hm ⊢
    have mk:m<k:=Kl hm.2 uk;refine Li (rX c ks b1 hk (OU mk hk) ?_)
    have am:u<=k+(m+1) - (x+1)/\m<=k+l - (x+1):=by
     clear lo hi so so1 q ks c b b1 hn ha h1
     omega
    cases z:κ.blt (gk κ st2 k) (gk κ st2 m)with
    | true=>exact L1 ⟨rfl,l,m,rfl,hm.1,LB mk,am.2,lo,λi g1 g2=>KeyOrd.klt_of_klt_of_kle z (so1 _ i g1 g2)⟩
    | false=>exact L1 ⟨rfl,m+1,u,rfl,hm.2,uk,am.1,λi g1=>Oi (so1 i m (Pm g1) mk) z,hi⟩
  case fin=>
   obtain⟨rfl,l,u,rfl,lu,uk,mz,lo,hi⟩:=hJ
   have e:u<=l:=by
    clear lo hi so so1 q ks c b b1 hn ha h1
    omega
   exact⟨rfl,l,u,rfl,KD lu uk,lo,λi g1 g2=>hi i (KD e g1) g2⟩
  case pst=>
   obtain⟨rfl,l,u,rfl,lk,lo,hi⟩:=hJ
   dsimp only
   rw[moveDown'_eq];exact Li (R5 (L1 ⟨rfl,b1.arr (bubble_perm _ _ _),Ga (by rw[b1.len];exact hk) lk so1 lo hi⟩))
 ·obtain⟨rfl,b1,so1⟩:=hI
  rw[Oj (Nat.max_le.mpr ⟨ha,h1⟩)]at so1;exact L1 (q st1 b1 so1)
 ·rcases Nat.le_total a 1 with g | g
  ·rw[Oj g];exact yM (Ki 1)
  ·rw[Nat.max_eq_left g];exact so
theorem Ey {Q:Unit->Oe->Prop}(c:uh κ k0 prog w A s)(ks:KeysOf κ o)(b:SrtB k0 o st)(h2:2<=o.size)(h64:o.size<64)
  (q:∀st',(arrOf st').Perm o->Ov st'=none->LS κ (arrOf st') o.size->Q () st'):wpS (model prog w) A E s sortRuns' Q st:=by
 rw[sortRuns'_eq];refine Li (S3 ?_)
 dsimp only
 have hmr:minRun' o.size o.size 0=o.size:=by
  cases hz:o.size with
  | zero=>omega
  | succ f=>rw[minRun'_succ,if_pos (by omega)]
 simp only[b.len,hmr]
 refine Li (wpS_mono (Og (I:=λx r st1=>(x=0/\r=(none,0)/\SrtB k0 o st1)\/(x≠0/\r=(none,o.size)/\(arrOf st1).Perm o/\Ov st1=none/\(Nr st1).size=1/\LS κ (arrOf st1) o.size))
  (Q:=λr st1=>r=(none,o.size)/\(arrOf st1).Perm o/\Ov st1=none/\(Nr st1).size=1/\LS κ (arrOf st1) o.size) (λx r st1 l1 l2 hI=> ?stp) (λr st1 hI=> ?fin) (.inl ⟨rfl,rfl,b⟩)) λr st1 hI=> ?pst)
 case stp=>
  rcases hI with⟨rfl,rfl,b1⟩ | ⟨_,rfl,hI⟩
  ·dsimp only
   rw[if_neg (by omega)]
   simp only[OW,Nat.min_self,NB];refine Li (Ew c ks b1 (Ki _) (by omega) λn st2 b2 n1 n2 so2=> ?_)
   dsimp only
   have fin:∀st3,SrtB k0 o st3->LS κ (arrOf st3) o.size->(arrOf (R6 st3 ((Nr st3).push (0,o.size,0)))).Perm o/\Ov (R6 st3 ((Nr st3).push (0,o.size,0)))=none ∧
     (Nr (R6 st3 ((Nr st3).push (0,o.size,0)))).size=1/\LS κ (arrOf (R6 st3 ((Nr st3).push (0,o.size,0)))) o.size:=λst3 b3 so3=>⟨b3.p,b3.f,by
    show((Nr st3).push _).size=1
    rw[b3.e];rfl,so3⟩
   by_cases g:n<o.size
   ·rw[if_pos g]
    refine Li (wpS_lift (Nf ⟨rfl,Li (Ex c ks b2 (NU h2) (Ki _) n2 so2 λst3 b3 so3=> ?_)⟩))
    simp only[Bool.not_true,Lq,if_false];refine Li (S3 ?_)
    rw[show(Nr st3).back?=none by rw[b3.e];rfl]
    exact Li (R5 (L1 (.inr ⟨by omega,rfl,fin st3 b3 so3⟩)))
   ·rw[if_neg g]
    obtain rfl:n=o.size:=by omega
    refine Li (S3 ?_)
    rw[show(Nr st2).back?=none by rw[b2.e];rfl]
    exact Li (R5 (L1 (.inr ⟨by omega,rfl,fin st2 b2 so2⟩)))
  ·dsimp only
   rw[if_pos (Ki _)];exact L1 ⟨rfl,hI⟩
 case fin=>
  rcases hI with⟨h,_,_⟩ | ⟨_,hI⟩
  ·omega
  ·exact hI
 case pst=>
  obtain⟨rfl,hp,hf,he,hs⟩:=hI
  dsimp only
  refine Li (wpS_mono (Og (I:=λ_ r st2=>st2=st1/\r=(none,())) (Q:=λr st2=>st2=st1/\r=(none,())) (λx r st2 _ _ hJ=> ?stp) (λ_ _ h=>h) ⟨rfl,rfl⟩) λr st2 hJ=> ?pst)
  case stp=>
   obtain⟨rfl,rfl⟩:=hJ;refine Li (S3 ?_)
   rw[if_pos (NA he)];exact L1 ⟨rfl,rfl⟩
  case pst=>
   obtain⟨rfl,rfl⟩:=hJ;exact L1 (q _ hp hf hs)
end
section
variable {X:Cx}
theorem gi:∀{m:List T} {ns:List Int},cM m=some ns->m=ns.map .int
 | [],ns,h=>by cases h;rfl
 | t::m,ns,h=>by
  cases t with
  | int i=>
   unfold cM at h;obtain⟨k,h1,rfl⟩:=LR.mp h
   rw[gi h1];rfl
  | _=>cases h
end
structure RK where
 V:Heap->J8->List Int->Prop
 inj:∀{h v a b},V h v a->V h v b->a=b
 on:∀{h h':Heap} {v a},V h v a->(∀b o,h.get? b=some o->h'.get? b=some o)->V h' v a
 fst:∀{h v a},V h v a->∃ad xs n o m t,v= .ref ad/\h.get? ad=some o/\o.cls= .type "tuple"/\o.data= .seq xs n/\xs[0]? =some (.int m t)
 lt:∀{prog w A s E x y a b} {Q:Bool->Kb->Prop},A.units+60<cLine->V s.heap x a->V s.heap y b->Q (c8 a b) s->wpAny (model prog w) A (keyLt' (tuples' true) x y) Q E s
variable (R:RK)
open Classical in
def RK.key (h:Heap)(v:J8):Option (List Int):=if e:∃ns,R.V h v ns then some e.choose else none
variable {R:RK}
theorem RK.key_of {h:Heap}{v:J8}{ns:List Int}(r:R.V h v ns):R.key h v=some ns:=by
 unfold RK.key
 have e:∃ns,R.V h v ns:=⟨ns,r⟩;rw[dif_pos e,R.inj e.choose_spec r]
theorem RK.JG {h:Heap}{v:J8}{ns:List Int}(e:R.key h v=some ns):R.V h v ns:=by
 unfold RK.key at e
 split at e
 ·rename_i g
  cases e;exact g.choose_spec
 ·cases e
def RK.kind (R:RK)(h:Heap):PyProof.Rows.KeyKind:={ α:=List Int,blt:=c8,irrefl:=kc,trans:=lK,negTrans:=tI,total:=ka,keyOf:=R.key h,dflt:=[] }
def RK.row (R:RK)(h:Heap)(v:J8):List Int:=(R.key h v).getD []
theorem RK.JO {h:Heap}{v:J8}{ns:List Int}(r:R.V h v ns):R.row h v=ns:=by unfold RK.row;rw[RK.key_of r];rfl
section
variable {prog:Kz}{w:Lb}{A:KU}{E:J8->Kb->Prop}{s:Kb}
theorem Gd (v:J8):firstOfTuple' v=(typeOf v >>= λt=>if t != .type "tuple" then pure none else Builtin.List.listItems v >>= λxs=>pure xs[0]?):=rfl
theorem wC:∀{vs:List J8} {Q:List (Option J8)->Kb->Prop},(∀v∈vs,∃ns,R.V s.heap v ns)->(∀us ns,LI us ns->us.length=vs.length->Q (us.map some) s)->wpAny (model prog w) A (vs.mapM firstOfTuple') Q E s
 | [],Q,_,q=>by
  rw[List.mapM_nil]
  exact Kd (q [] [] .nil rfl)
 | v::vs,Q,h,q=>by
  rw[List.mapM_cons,Gd];obtain⟨ns,r⟩:=h _ Kg;obtain⟨a,its,n,o,m,t,rfl,e,hc,d,e0⟩:=R.fst r;refine J5 (J5 (MN (T:="tuple") ⟨o,e,hc⟩ ?_))
  rw[if_neg (by decide+kernel)]
  refine J5 (Sh e d (Kd ?_))
  rw[e0];exact J5 (wC (λv hv=>h v (Ka _ hv)) λus ns j hl=>Kd (q (.int m t::us) (m::ns) (.cons m t j) (by rw[Kj,Kj,hl])))
theorem kk3 {vs:List J8}{Q:QC->Kb->Prop}(hv:∀v∈vs,∃ns,R.V s.heap v ns)(ne:vs≠ [])(q:Q (tuples' true) s):wpAny (model prog w) A (keyKind' vs.toArray) Q E s:=by
 rw[keyKind'_eq,RQ];refine J5 ?_
 rw[map_eq_pure_bind];refine J5 (wC hv λus ns i hl=>Kd ?_)
 rw[if_pos (by simp)]
 refine J5 (Nf ?_)
 have ef:(us.map some).toArray.filterMap id=us.toArray:=by simp
 rw[ef,oneTypeOnly'_eq,RQ,mapM_typeOf_ints i]
 cases i with
 | nil=>exact absurd (List.length_eq_zero_iff.mp hl.symm) ne
 | @cons m t us' ns' i'=>
  simp only[map_pure,pure_bind]
  have hall:((SB (λ_=>LU "int") (Lj m t::us')).toArray.all λx=>x == LU "int")=true:=by
   simp only[List.all_toArray,Sa,Ks];intro _ _;rfl
  rw[show(SB (λ_=>LU "int") (Lj m t::us')).toArray[0]? =some (LU "int")by simp]
  simp only[hall,if_true,pure_bind];exact Kd q
theorem out3 {h:Heap}{o xs:Array S9}(hp:xs.Perm o)(hs:LS (R.kind h) xs o.size):xs.toList.Perm o.toList/\(xs.toList.map λp=>R.row h p.1).Pairwise (λa b=>m9 a b=true):=by
 refine⟨OQ.mp hp,?_⟩
 rw[O7];intro i j hi hj hij
 have hi':i<xs.size:=by simpa using hi
 have hj':j<xs.size:=by simpa using hj
 have z:c8 (KK (R.kind h) xs j) (KK (R.kind h) xs i)=false:=hs i j (LB hij) (by rw[<-hp.size_eq];exact hj')
 have g:∀k (hk:k<xs.size),KK (R.kind h) xs k=R.row h xs[k].1:=λk hk=>by unfold KK;rw[getElem?_pos xs k hk];rfl
 rw[g i hi',g j hj']at z;simp only[Oh,Array.getElem_toList];unfold m9;rw[z];rfl
theorem run3 {ks vs:List J8}{Q:Oe->Kb->Prop}(hu:A.units+60<cLine)(hl:ks.length=vs.length)(hk:∀v∈ks,∃ns,R.V s.heap v ns)(h2:2<=vs.length)(h64:vs.length<64)
  (q:∀st',Ov st'=none->(arrOf st').toList.Perm (ks.zip vs)->((arrOf st').toList.map λp=>R.row s.heap p.1).Pairwise (λa b=>m9 a b=true)->Q st' s) :
  wpAny (model prog w) A ((sortRuns').run (SortSt.mk' (tuples' true) (ks.toArray.zip vs.toArray) #[] 7 none)) (λr s'=>Q r.2 s') E s:=by
 have hz:(ks.toArray.zip vs.toArray).size=vs.length:=by simp[hl]
 have hz2:(ks.toArray.zip vs.toArray).toList=ks.zip vs:=by simp
 have kso:PyProof.Rows.KeysOf (R.kind s.heap) (ks.toArray.zip vs.toArray):=λp hp=>by
  rw[hz2]at hp;obtain⟨ns,r⟩:=hk p.1 (M4 hp).1;exact⟨ns,RK.key_of r⟩
 refine Mr (Ey (κ:=R.kind s.heap) (k0:=tuples' true) (o:=ks.toArray.zip vs.toArray) (st:=SortSt.mk' (tuples' true) (ks.toArray.zip vs.toArray) #[] 7 none)
  (Q:=λ_ st'=>(arrOf st').Perm (ks.toArray.zip vs.toArray)/\Ov st'=none/\LS (R.kind s.heap) (arrOf st') (ks.toArray.zip vs.toArray).size) (λE x y a b Q hx hy q=>R.lt hu (RK.JG hx) (RK.JG hy) q) kso ⟨Array.Perm.refl _,rfl,rfl,rfl⟩
  (by rw[hz];omega) (by rw[hz];exact h64) λst' a1 a2 a3=>⟨a1,a2,a3⟩) ?_ λ_ _ e=>e
 rintro ⟨⟨⟩,st'⟩ s' ⟨rfl,hp,hf,hs⟩
 obtain⟨g1,g2⟩:=out3 hp hs;exact q st' hf (by rw[<-hz2];exact g1) g2
end
end Tr
namespace PySem
open Sem (wp)
theorem Eo {h h':Heap}{a:Addr}{xs:Array J8}(x:h.IsTuple a xs)(e:∀o,h.get? a=some o->h'.get? a=some o):h'.IsTuple a xs:=let ⟨o,ho,r⟩:=x;⟨o,e _ ho,r⟩
end PySem
namespace Tr
def BO:List T->Rs T
 | [.tup l] =>yX [.lst l]
 | ts=>yX ts
end Tr
namespace PySem
section
variable {prog:Kz}{w:Lb}{A:KU}{E:J8->Kb->Prop}{s:Kb}{l:Addr}{xs:Array (Int×Tok)}
theorem yQ {Q:J8->Kb->Prop}(hl:s.heap.IsTuple l (PR xs))
  (h:∀s₂:Kb,s₂= { s with heap:=s.heap.push { cls:=.type "tuple_iterator",data:=.fields #[.ref l,.int 0 0] } }->(s₂.heap.IsTupleIter s.heap.objs.size l 0/\s₂.heap.IsTuple l (PR xs))->(∀b∈ [s.heap.objs.size,l],b<s₂.heap.objs.size)->l≠s.heap.objs.size->Q (.ref s.heap.objs.size) s₂) :
  wpAny (model prog w) A (pyIter (.ref l)) Q E s:=by
 have hlt:l<s.heap.objs.size:=by obtain⟨_,e,_⟩:=hl;exact Kk e
 refine M0 hl (h _ rfl ⟨⟨_,Kn _ rfl,rfl,rfl⟩,Eo hl λo e=>Kc _ e⟩ (λb hb=> ?_) (Ky hlt))
 show b<(s.heap.push _).objs.size
 rw[Mc];simp only[Ko,Ll,or_false]at hb;rcases hb with rfl | rfl
 ·exact MT _
 ·exact Lc hlt
theorem yR {h':Heap}{o0:Obj}(hk:∀b o,b∉ [s.heap.objs.size]->(s.heap.push o0).get? b=some o->h'.get? b=some o):∀b o,s.heap.get? b=some o->h'.get? b=some o:=λb o e=>
 hk b o (λhm=>absurd (KG.mp hm▸Kk e) (KW _)) (Kc _ e)
theorem BN {Q:J8->Kb->Prop}(hh:A.handled=none)(hl:s.heap.IsTuple l (PR xs))(h:∀h' tk t',(∀b o,s.heap.get? b=some o->h'.get? b=some o)->Q (.int (preSum (numAt xs) xs.size) t') { s with heap:=h',toks:=tk }) :
  wpAny (model prog w) A (call (.builtin "sum") [.ref l]) Q E s:=by
 refine call_sum_walkG (yQ hl λs₂ e st hfp hlI=> ?_)
 subst e;refine⟨_,_,_,_,_,_,numAt xs,rfl,Walks.tuple (A:=A.in1) hh _ l hlI (PR xs),st,hfp,(λ_ _=>intItems_at),λh' tk t' hk=> ?_⟩
 have:=h h' tk t' (yR hk)
 simpa [PR]using this
end
end PySem
namespace Tr
open PySem PySem.Spec PyProof.Rows L2
section
variable {X:Cx}
theorem wN (hc:X.calm=true):CallT X (.builtin "sum") BO:=by
 intro pins s σ H O ts vs us Q I hf rs rv hp;unfold BO at hp
 split at hp
 ·rename_i l
  unfold yX at hp;obtain⟨v,rfl,r⟩:=rs.one
  dsimp only at hp
  split at hp
  ·rename_i ns hk
   obtain⟨a,ws,rfl,n,q,z⟩:=Rep.Fk.mp r;obtain⟨u,rfl,ru⟩:=kQ rv;cases ru;obtain⟨its,r',pl,hz⟩:=I.tuple (SqT.of q)
   have hi:=gy hk z r';obtain⟨xs,e⟩:=hi.allInts.items
   have hns:ns=xs.toList.map (·.1):=by rw[<-hi.numsOf,<-RE,<-e]
   have hl:s.heap.IsTuple a (PR xs):=by rw[<-e];exact pl
   refine BN (I.ok.hd hc) hl λh' tk t' hk'=>⟨.int _,H,I.kept (t':=tk) hk',⟨_,rfl⟩,?_⟩
   have:preSum (numAt xs) xs.size=ns.sum:=by rw[hns,preSum_eq,MX (by simp)]
   rw[this];exact hp H (Same.refl H) _ (Rep.GE _)
  ·exact hp.elim
 ·exact Gy hc pins s σ H O _ vs us Q I hf rs rv hp
end
end Tr
namespace L2
open PySem PySem.Spec PyProof.Rows
theorem tL {n b:Nat}:b∈ [n+4,n,n+1,n+2,n+3] ↔n<=b/\b<n+5:=by
 simp only[Ko,Ll,or_false];omega
end L2
namespace Tr
open PySem PySem.Spec PyProof.Rows L2
def Wk (K:J6)(O:Ow)(H1:Hp)(l:List T)(v:V):Prop:=∃(aa:Addr) (tt:Bool) (ws:List V),v= .ref aa/\¬ O aa/\Reps K O H1 l ws/\Bx K H1 aa tt ws/\(∀P Hc,SameO P H1 Hc->¬ P aa->Bx K Hc aa tt ws)/\¬ Nw K H1 aa
end Tr
namespace Tr
open PySem
def c0 (g:List T->Rs T)(_:En):Rs T:=match g []with
 | .ok t=> .ok t
 | _=> .bad
end Tr
namespace PySem
open Sem (wp)
open L2 (itAt)
structure PW (prog:Kz)(w:Lb)(A:KU)(I:Addr)(T:String)(fp wr:List Addr)(n:Nat)(R:Nat->J8->J8->Prop)(St:Nat->Option Addr->Heap->Prop):Prop where
 sub:∀b∈wr,b∈fp
 ty:∀i o (s:Kb),St i o s.heap->s.TypeIs (.ref I) T
 frame:∀i o h h',St i o h->(∀b∈fp,∀ob,h.get? b=some ob->h'.get? b=some ob)->St i o h'
 item:∀i o (s:Kb) (Q:Option J8->Kb->Prop) (E:J8->Kb->Prop),i<n->St i o s.heap->(∀t,o=some t->∃ob,s.heap.get? t=some ob) →
  (∀p h' tk x y,R i x y->s.heap.objs.size<=p->IsPair h' p x y->St (i+1) (some (o.getD p)) h'->(∀b ob,b∉wr->s.heap.get? b=some ob->h'.get? b=some ob)->Q (some (.ref p)) { s with heap:=h',toks:=tk })->wpAny (model prog w) A (pyNext (.ref I)) Q E s
 done:∀o (s:Kb) (Q:Option J8->Kb->Prop) (E:J8->Kb->Prop),St n o s.heap->(∀t,o=some t->∃ob,s.heap.get? t=some ob)->(∀h' tk,(∀b ob,b∉wr->s.heap.get? b=some ob->h'.get? b=some ob)->Q none { s with heap:=h',toks:=tk })->wpAny (model prog w) A (pyNext (.ref I)) Q E s
 self:∀i o (s:Kb) (Q:J8->Kb->Prop) (E:J8->Kb->Prop),St i o s.heap->Q (.ref I) s->wpAny (model prog w) A (pyIter (.ref I)) Q E s
end PySem
namespace Tr
open PySem PySem.Spec PyProof.Rows L2
def bkV:J8->V
 | .int n _=> .int n
 | .ref a=> .ref a
 | _=> .non
section
variable {X:Cx}{a b:Expr}{fs:En->Rs (List T)}{p p1 p2 pos:Pos}
theorem iP:∀{m:List T} {ns:List Int},cM m=some ns->m=ns.map .int
 | [],ns,h=>by cases h;rfl
 | t::m,ns,h=>by
  cases t with
  | int i=>
   unfold cM at h;obtain⟨k,h1,rfl⟩:=LR.mp h
   rw[iP h1];rfl
  | _=>cases h
end
structure QE (X:Cx)(e:Expr)(f:En->Rs T):Prop where
 h:cj X e f
structure QA (X:Cx)(e:List Expr)(f:En->Rs (List T)):Prop where
 h:oy X e f
structure QT (X:Cx)(e:Expr)(f:En->Rs Bool):Prop where
 h:vm X e f
structure QW (X:Cx)(e:Expr)(f:En->Rs Bool):Prop where
 h:Ea X e f
structure QS (X:Cx)(e:Stmt)(f:En->Rs Fl):Prop where
 h:pP X e f
structure Bj (X:Cx)(e:List Stmt)(f:En->Rs Fl):Prop where
 h:lD X e f
structure QG (X:Cx)(e:Expr)(f:T->En->Rs En):Prop where
 h:Eb X e f
structure Jg (X:Cx)(e:List Expr)(f:List T->En->Rs En):Prop where
 h:Bm X e f
structure QI (X:Cx)(t e:Expr)(f:En->Rs (List T)):Prop where
 h:By X t e f
structure QO (X:Cx)(e:Option Expr)(f:En->Rs (Option Int)):Prop where
 h:IP X e f
structure Jf (X:Cx)(e:List Expr)(f:En->Rs Bool):Prop where
 h:yD X e (yU X f)
theorem af {X:Cx}(i:Nat){x:Str}{pos:Pos}(hN:(Cx.N X)[i]? =some x:=by rfl)(hv:yC (MH (Cx.env X)) x:=by first | exact MU rfl | exact Ma (MU rfl) | exact Ma (Ma rfl))(hd:jj x:=by decide)(hcd:(x == Kr "__classdict__")=false:=by decide):QE X (KS x pos) (vr i):=
 ⟨zl (i:=i) (hN:=hN) (hv:=hv) (hd:=hd) (hcd:=hcd)⟩
theorem ak {X:Cx}{i:Int}{j:Nat}{pos:Pos}:QE X (PH (Const.int i) j pos) (cn (T.int i)):=
 ⟨Ht ⟩
theorem eI {X:Cx}{i:Bool}{j:Nat}{pos:Pos}:QE X (PH (Const.bool i) j pos) (cn (T.bl i)):=
 ⟨q_bl ⟩
theorem dj {X:Cx}{j:Nat}{pos:Pos}:QE X (PH Const.none j pos) (cn T.non):=
 ⟨Hq ⟩
theorem BD {X:Cx}{x:Str}{i:Int}{u:J8}{pos:Pos}(hm:Cx.mg X x=some u)(r:L2.RelV (V.int i) u)(hg:Gl X x:=by rfl)(hd:jj x:=by decide):QE X (KS x pos) (cn (T.int i)):=
 ⟨E6 (hm:=hm) (r:=r) (hg:=hg) (hd:=hd)⟩
theorem ag {X:Cx}:QA X [] ai:=
 ⟨uI ⟩
theorem ah {X:Cx}{e:Expr}{es:List Expr}{f:En->Rs T}{g:En->Rs (List T)}(he:QE X e f)(hr:QA X es g)(hn:bY e=true:=by rfl):QA X (e::es) (ae f g):=
 ⟨qa_c (he:=he.h) (hr:=hr.h) (hn:=hn)⟩
theorem bx {X:Cx}{es:List Expr}{x1:Nat}{pos:Pos}{f:En->Rs (List T)}(h:QA X es f):QE X (Expr.Tuple es x1 pos) (a9 f):=
 ⟨DK (h:=h.h)⟩
theorem gW {X:Cx}{es:List Expr}{pos:Pos}{f:En->Rs (List T)}(h:QA X es f):QE X (Expr.List es pos) (gE f):=
 ⟨Hr (h:=h.h)⟩
theorem az {X:Cx}{a b:Expr}{fa fb:En->Rs T}{pos:Pos}{op:Tc}{g:T->T->Rs T}(ho:OpT X (L6 op) g)(ha:QE X a fa)(hb:QE X b fb):QE X (Expr.BinOp a op b pos) (o2 g fa fb):=
 ⟨Hw (ho:=ho) (ha:=ha.h) (hb:=hb.h)⟩
theorem eE {X:Cx}{a b:Expr}{fa fb:En->Rs T}{pos:Pos}{op:CmpOp}{g:T->T->Rs T}(ho:OpT X (Lr op) g)(ha:QE X a fa)(hb:QE X b fb)(hm:PQ op b=false:=by rfl):QE X (Sb a [op] [b] pos) (o2 g fa fb):=
 ⟨Hv (ho:=ho) (ha:=ha.h) (hb:=hb.h) (hm:=hm)⟩
theorem pW {X:Cx}{a:Expr}{fa:En->Rs T}{pos:Pos}(ha:QE X a fa):QE X (Qn UnaryOp.USub a pos) (o1 jb fa):=
 ⟨DL (ha:=ha.h)⟩
theorem rM {X:Cx}{a b c:Expr}{fa fb fc:En->Rs T}{pos:Pos}{op op':CmpOp}{g g':T->T->Rs T}(ho:OpT X (Lr op) g)(ho':OpT X (Lr op') g')(ha:QE X a fa)(hb:QE X b fb)(hc:QE X c fc)(hm:lastMarks [op,op'] [b,c] =false:=by with_unfolding_all rfl):QE X (Sb a [op,op'] [b,c] pos) (ch g g' fa fb fc):=
 ⟨Ck (ho:=ho) (ho':=ho') (ha:=ha.h) (hb:=hb.h) (hc:=hc.h) (hm:=hm)⟩
theorem bz {X:Cx}{e:Expr}{f:En->Rs T}(h:QE X e f)(he:∀(whole:Sem J8),PySem.isTrue e (Cx.env X) whole=(do let v <-whole;standAt (Expr.pos e);holding [v] (truthy v)):=by intro _;rfl):QT X e (tb f):=
 ⟨EG (h:=h.h) (he:=he)⟩
theorem bc {X:Cx}{a b:Expr}{fa fb:En->Rs T}{pos:Pos}{op:CmpOp}{g:T->T->Rs T}(ho:OpT X (Lr op) g)(ha:QE X a fa)(hb:QE X b fb)(hm:PQ op b=false:=by rfl):QT X (Sb a [op] [b] pos) (tb (o2 g fa fb)):=
 ⟨EI (ho:=ho) (ha:=ha.h) (hb:=hb.h) (hm:=hm)⟩
theorem rK {X:Cx}{a:Expr}{pos:Pos}{f:En->Rs Bool}(ha:QT X a f):QW X (Mz Qy [a] pos) f:=
 ⟨B6 (ha:=ha.h)⟩
theorem eQ {X:Cx}{a:Expr}{pos:Pos}{f:En->Rs Bool}(ha:QT X a f):QW X (Mz Rn [a] pos) f:=
 ⟨EE (ha:=ha.h)⟩
theorem vp {X:Cx}{a b:Expr}{pos:Pos}{f g:En->Rs Bool}{ck:List Expr}(ha:QT X a f)(hb:QW X (Mz Qy (b::ck) pos) g):QW X (Mz Qy (a::b::ck) pos) (kN f g):=
 ⟨EF (ha:=ha.h) (hb:=hb.h)⟩
theorem gu {X:Cx}{a b:Expr}{pos:Pos}{f g:En->Rs Bool}{ck:List Expr}(ha:QT X a f)(hb:QW X (Mz Rn (b::ck) pos) g):QW X (Mz Rn (a::b::ck) pos) (ki f g):=
 ⟨Hh (ha:=ha.h) (hb:=hb.h)⟩
theorem gS {X:Cx}{f:En->Rs Bool}{e:Expr}(h:QW X e f):QT X e f:=
 ⟨qt_w (h:=h.h)⟩
theorem cf {X:Cx}{a:Expr}{pos:Pos}{f:En->Rs Bool}(ha:QT X a f):QT X (Qn UnaryOp.Not a pos) (cp f):=
 ⟨EH (ha:=ha.h)⟩
theorem c6 {X:Cx}{a:Expr}{fa:En->Rs T}{pos:Pos}{op:BoolOp}(h:QE X a fa):QE X (Mz op [a] pos) fa:=
 ⟨Hn (h:=h.h)⟩
theorem cv {X:Cx}{a b:Expr}{fa fb:En->Rs T}{pos:Pos}{ck:List Expr}(ha:QE X a fa)(hb:QE X (Mz Qy (b::ck) pos) fb):QE X (Mz Qy (a::b::ck) pos) (bJ fa fb):=
 ⟨Hy (ha:=ha.h) (hb:=hb.h)⟩
theorem DC {X:Cx}{a b:Expr}{fa fb:En->Rs T}{pos:Pos}{ck:List Expr}(ha:QE X a fa)(hb:QE X (Mz Rn (b::ck) pos) fb):QE X (Mz Rn (a::b::ck) pos) (Bt fa fb):=
 ⟨q_or (ha:=ha.h) (hb:=hb.h)⟩
theorem Ei {X:Cx}{a:Expr}{fa:En->Rs T}{pos:Pos}(ha:QE X a fa):QE X (Qn UnaryOp.Not a pos) (o1 CS fa):=
 ⟨Ho (ha:=ha.h)⟩
theorem aB {X:Cx}{a b:Expr}{fa fb:En->Rs T}{pos:Pos}(ha:QE X a fa)(hb:QE X b fb)(hs:w4 b:=by intro _ _;rfl):QE X (Np a b pos) (o2 aO fa fb):=
 ⟨q_ix (ha:=ha.h) (hb:=hb.h) (hs:=hs)⟩
theorem jJ {X:Cx}:QO X none pN:=
 ⟨Cc ⟩
theorem jI {X:Cx}{a:Expr}{fa:En->Rs T}(ha:QE X a fa):QO X (some a) (pS fa):=
 ⟨Cb (ha:=ha.h)⟩
theorem jK {X:Cx}{a:Expr}{fa:En->Rs T}{pos:Pos}{lo hi:Option Expr}{p2:Pos}{fl fu:En->Rs (Option Int)}(ha:QE X a fa)(hl:QO X lo fl)(hu:QO X hi fu):QE X (Np a (Expr.Slice lo hi none p2) pos) (sl fa fl fu):=
 ⟨Cj (ha:=ha.h) (hl:=hl.h) (hu:=hu.h)⟩
theorem Eh {X:Cx}{a:Expr}{fa:En->Rs T}{pos:Pos}{j:Nat}{p1 p2 p3:Pos}(ha:QE X a fa):QE X (Np a (Expr.Slice none none (some (Qn UnaryOp.USub (PH (Const.int 1) j p1) p2)) p3) pos) (o1 xw fa):=
 ⟨Hm (ha:=ha.h)⟩
theorem cP {X:Cx}{e:Expr}{es:List Expr}{fs:En->Rs (List T)}{pos p:Pos}{x:Str}{id:String}{g:List T->Rs T}(hc:CallT X (Value.builtin id) g)(hm:Cx.mg X x=none)(hv:KQ x=some (Value.builtin id))(ha:QA X (e::es) fs)(hn:aV (e::es)=true:=by rfl)(hg:Gl X x:=by rfl)(h1:x≠Kr "__name__":=by decide)(h2:jj x:=by decide):QE X (LN (KS x p) (e::es) [] pos) (cl g fs):=
 ⟨q_cB (hc:=hc) (hm:=hm) (hv:=hv) (ha:=ha.h) (hn:=hn) (hg:=hg) (h1:=h1) (h2:=h2)⟩
theorem rN {X:Cx}{e:Expr}{es:List Expr}{fs:En->Rs (List T)}{pos p:Pos}{x:Str}{Ty:String}{g:List T->Rs T}(hc:CallT X (LU Ty) g)(hm:Cx.mg X x=none)(hv:KQ x=some (LU Ty))(ha:QA X (e::es) fs)(hn:aV (e::es)=true:=by rfl)(hg:Gl X x:=by rfl)(h1:x≠Kr "__name__":=by decide)(h2:jj x:=by decide):QE X (LN (KS x p) (e::es) [] pos) (cl g fs):=
 ⟨q_cT (hc:=hc) (hm:=hm) (hv:=hv) (ha:=ha.h) (hn:=hn) (hg:=hg) (h1:=h1) (h2:=h2)⟩
theorem zq_c {X:Cx}{e:Expr}{es:List Expr}{fs:En->Rs (List T)}{pos p:Pos}{x:Str}{n k:Nat}{f:Addr}{fd:L7}{ps:List Str}{g:List T->Rs T}(F:GL (Cx.prog X) (Cx.w X) (Cx.K X) (Cx.mg X) (Cx.base X) k f fd ps n g)(hr:Room k (Cx.A X))(hm:Cx.mg X x=some (KY f))(hk:W.keepIn (Cx.K X) (KY f)=true)(hb:L2.Binds (Cx.K X) fd ps [])(hl:∀(Z:En) (ts:List T),fs Z=Rs.ok ts->LV ts=n)(ha:QA X (e::es) fs)(hps:LV ps=n:=by rfl)(hn:aV (e::es)=true:=by rfl)(hg:Gl X x:=by rfl)(h2:jj x:=by decide):QE X (LN (KS x p) (e::es) [] pos) (cl g fs):=
 ⟨q_c (F:=F) (hr:=hr) (hm:=hm) (hk:=hk) (hb:=hb) (hl:=hl) (ha:=ha.h) (hps:=hps) (hn:=hn) (hg:=hg) (h2:=h2)⟩
theorem vq {X:Cx}{a:Expr}{fa:En->Rs T}{pos p p2:Pos}{tn:Str}{Ty:String}(hm:Cx.mg X (Kr "isinstance")=none)(hmt:Cx.mg X tn=none)(hv:KQ tn=some (LU Ty))(ha:QE X a fa)(hn:bY a=true:=by rfl)(hg:Gl X (Kr "isinstance"):=by rfl)(hgt:Gl X tn:=by rfl)(h1:tn≠Kr "__name__":=by decide)(h2:jj tn:=by decide):QE X (LN (KS (Kr "isinstance") p) [a,KS tn p2] [] pos) (o1 (Ay Ty) fa):=
 ⟨q_is (hm:=hm) (hmt:=hmt) (hv:=hv) (ha:=ha.h) (hn:=hn) (hg:=hg) (hgt:=hgt) (h1:=h1) (h2:=h2)⟩
theorem aq {X:Cx}{pos:Pos}{x:Str}(i:Nat)(hN:La (Cx.N X))(hi:(Cx.N X)[i]? =some x:=by rfl)(hx:L2.Loc (MH (Cx.env X)) x:=by first | exact MU rfl | exact Ma rfl)(hf:Cx.fn X x=true\/Nv x (PJ (MH (Cx.env X)))=some NameKind.local:=by first | exact .inl rfl | exact .inr rfl | assumption):QG X (KS x pos) (gN i):=
 ⟨Ci (i:=i) (hN:=hN) (hi:=hi) (hx:=hx) (hf:=hf)⟩
theorem lV {X:Cx}:Jg X [] C9:=
 ⟨Cg ⟩
theorem eZ {X:Cx}{e:Expr}{es:List Expr}{g:T->En->Rs En}{gs:List T->En->Rs En}(h1:QG X e g)(h2:Jg X es gs)(hs:SB (λx=>SC x) (LY (e::es) (Cx.env X))=assign e (Cx.env X)::SB (λx=>SC x) (LY es (Cx.env X)):=by rfl):Jg X (e::es) (u7 g gs):=
 ⟨zk (h1:=h1.h) (h2:=h2.h) (hs:=hs)⟩
theorem pV {X:Cx}{es:List Expr}{pos:Pos}{k n:Nat}{gs:List T->En->Rs En}(hc:Cx.calm X=true)(h:Jg X es gs)(hn:LV (LY es (Cx.env X))=n:=by rfl)(hst:List.findIdx? (λx=>SD x) (LY es (Cx.env X))=none:=by rfl):QG X (Expr.Tuple es k pos) (gT n gs):=
 ⟨EY (hc:=hc) (h:=h.h) (hn:=hn) (hst:=hst)⟩
theorem di {X:Cx}{a:Expr}{fs:En->Rs (List T)}{pos p:Pos}{tg:Expr}(hm:Cx.mg X (Kr "range")=none)(ha:QA X [a] fs)(hg:Gl X (Kr "range"):=by rfl)(hs:Kx [a] (Cx.env X)= [(false,eval a (Cx.env X))]:=by rfl):QI X tg (LN (KS (Kr "range") p) [a] [] pos) (iR fs):=
 ⟨xC (hm:=hm) (ha:=ha.h) (hg:=hg) (hs:=hs)⟩
theorem um {X:Cx}{a b:Expr}{fs:En->Rs (List T)}{pos p:Pos}{tg:Expr}(hm:Cx.mg X (Kr "range")=none)(ha:QA X [a,b] fs)(hg:Gl X (Kr "range"):=by rfl)(hs:Kx [a,b] (Cx.env X)= [(false,eval a (Cx.env X)),(false,eval b (Cx.env X))]:=by rfl)(hs2:Kx [b] (Cx.env X)= [(false,eval b (Cx.env X))]:=by rfl):QI X tg (LN (KS (Kr "range") p) [a,b] [] pos) (iR fs):=
 ⟨xA (hm:=hm) (ha:=ha.h) (hg:=hg) (hs:=hs) (hs2:=hs2)⟩
theorem bu {X:Cx}:Jf X [] bT:=
 ⟨Ce ⟩
theorem lT {X:Cx}{c:Expr}{f:En->Rs Bool}(h:QT X c f):Jf X [c] f:=
 ⟨Cd (h:=h.h)⟩
theorem dD {X:Cx}{pos:Pos}{elt tg iter:Expr}{ifs:List Expr}{scope:NN}{N':List Str}{src:List (Option Nat)}{fi:En->Rs (List T)}{tgt:T->En->Rs En}{fc:En->Rs Bool}{fe:En->Rs T}(hc:Cx.calm X=true)(S:LcScope X scope N' src)(hi:QI X tg iter fi)(block:∀(cl:List (Str×Addr)) (C:Addr) (s₀:Kb) (H₀:Hp) (fp:List Addr),QG (cm X scope cl N' C s₀ H₀ fp) tg tgt/\Jf (cm X scope cl N' C s₀ H₀ fp) ifs fc/\QE (cm X scope cl N' C s₀ H₀ fp) elt fe)(hs:∀(x:J8),Lz iter (Cx.env X) x=pure x:=by intro _;rfl):QE X (Ro elt [{ target:=tg,iter:=iter,ifs:=ifs,is_async:=0 }] scope pos) (eO fi src tgt fc fe):=
 ⟨q_lc (hc:=hc) (S:=S) (hi:=hi.h) (block:=λa1 a2 a3 a4 a5=>⟨(block a1 a2 a3 a4 a5).1.h,(block a1 a2 a3 a4 a5).2.1.h,(block a1 a2 a3 a4 a5).2.2.h⟩) (hs:=hs)⟩
theorem a8 {X:Cx}:Bj X [] sN:=
 ⟨EM ⟩
theorem ao {X:Cx}{st:Stmt}{ck:List Stmt}{F G:En->Rs Fl}(h1:QS X st F)(h2:Bj X ck G):Bj X (st::ck) (ay F G):=
 ⟨Ca (h1:=h1.h) (h2:=h2.h)⟩
theorem ar {X:Cx}{st:Stmt}{F:En->Rs Fl}(h:QS X st F):Bj X [st] F:=
 ⟨EL (h:=h.h)⟩
theorem aw {X:Cx}{a:Expr}{fa:En->Rs T}{pos:Pos}(ha:QE X a fa):QS X (Stmt.Return (some a) pos) (aG fa):=
 ⟨EJ (ha:=ha.h)⟩
theorem bA {X:Cx}{c:Expr}{pos:Pos}{f:En->Rs Bool}{A B:List Stmt}{F G:En->Rs Fl}(hc:QT X c f)(ha:Bj X A F)(hb:Bj X B G):QS X (Stmt.If c A B pos) (eG f F G):=
 ⟨Hk (hc:=hc.h) (ha:=ha.h) (hb:=hb.h)⟩
theorem Ee {X:Cx}{pos:Pos}{elt tg iter:Expr}{ifs:List Expr}{scope:NN}{spos py:Pos}{N':List Str}{src:List (Option Nat)}{fi:En->Rs (List T)}{tgt:T->En->Rs En}{fc:En->Rs Bool}{fe:En->Rs T}(i:Nat){y:Str}(hc:Cx.calm X=true)(S:LcScope X scope N' src)(hi:QI X tg iter fi)(block:∀(cl:List (Str×Addr)) (C:Addr) (s₀:Kb) (H₀:Hp) (fp:List Addr),QG (cm X scope cl N' C s₀ H₀ fp) tg tgt/\Jf (cm X scope cl N' C s₀ H₀ fp) ifs fc/\QE (cm X scope cl N' C s₀ H₀ fp) elt fe)(hN:La (Cx.N X))(hiy:(Cx.N X)[i]? =some y:=by rfl)(hy:L2.Loc (MH (Cx.env X)) y:=by first | exact MU rfl | exact Ma rfl)(hsw:L5 (Ro elt [{ target:=tg,iter:=iter,ifs:=ifs,is_async:=0 }] scope pos) (some (KS y py)) (NJ spos) (Cx.env X)=pure true:=by rfl)(hf:Cx.fn X y=true\/Nv y (PJ (MH (Cx.env X)))=some NameKind.local:=by first | exact .inl rfl | exact .inr rfl | assumption)(hs:∀(x:J8),Lz iter (Cx.env X) x=pure x:=by intro _;rfl):QS X (PK [KS y py] (Ro elt [{ target:=tg,iter:=iter,ifs:=ifs,is_async:=0 }] scope pos) spos) (cz (eO fi src tgt fc fe) (gN i)):=
 ⟨Hj (i:=i) (hc:=hc) (S:=S) (hi:=hi.h) (block:=λa1 a2 a3 a4 a5=>⟨(block a1 a2 a3 a4 a5).1.h,(block a1 a2 a3 a4 a5).2.1.h,(block a1 a2 a3 a4 a5).2.2.h⟩) (hN:=hN) (hiy:=hiy) (hy:=hy) (hsw:=hsw) (hf:=hf) (hs:=hs)⟩
theorem aD {X:Cx}{a:Expr}{fa:En->Rs T}{pos:Pos}{tg:Expr}{g:T->En->Rs En}(ha:QE X a fa)(hg:QG X tg g)(hs:Rw [tg] a (NJ pos) (Cx.env X)=pure false:=by rfl)(hw:Rx [tg] a (Cx.env X)=pure none:=by rfl)(h1:SB (λx=>SC x) (LY [tg] (Cx.env X))= [assign tg (Cx.env X)]:=by rfl):QS X (PK [tg] a pos) (cz fa g):=
 ⟨EU (ha:=ha.h) (hg:=hg.h) (hs:=hs) (hw:=hw) (h1:=h1)⟩
theorem gV {X:Cx}{a:Expr}{fa:En->Rs T}{pos:Pos}(ha:QE X a fa)(hs:L5 a none (NJ pos) (Cx.env X)=pure false:=by rfl):QS X (Stmt.Expr a pos) (Br fa):=
 ⟨B9 (ha:=ha.h) (hs:=hs)⟩
theorem d7 {X:Cx}{pos:Pos}{tg iter:Expr}{body:List Stmt}{fi:En->Rs (List T)}{g:T->En->Rs En}{F:En->Rs Fl}(hc:Cx.calm X=true)(hi:QI X tg iter fi)(hg:QG (Cx.nox X) tg g)(hb:Bj (Cx.nox X) body F)(hs:∀(x:J8),Lz iter (Cx.env X) x=pure x:=by intro _;rfl):QS X (Stmt.For tg iter body [] pos) (i8 fi g F):=
 ⟨EN (hc:=hc) (hi:=hi.h) (hg:=hg.h) (hb:=hb.h) (hs:=hs)⟩
theorem iI {X:Cx}{pos:Pos}{c:Expr}{body:List Stmt}{fc:En->Rs Bool}{F:En->Rs Fl}(n:Nat)(hc:QT (Cx.nox X) c fc)(hb:Bj (Cx.nox X) body F):QS X (Stmt.While c body [] pos) (aU fc F n):=
 ⟨zi (n:=n) (hc:=hc.h) (hb:=hb.h)⟩
theorem bB {X:Cx}{a:Expr}{fa:En->Rs T}{tg:Expr}(ha:QE X a fa):QI X tg a (iS fa):=
 ⟨EX (ha:=ha.h)⟩
theorem lU {X:Cx}{a:Expr}{fs:En->Rs (List T)}{p pos:Pos}{elts:List Expr}{kk:Nat}{tpos:Pos}(hm:Cx.mg X (Kr "enumerate")=none)(ha:QA X [a] fs)(hg:Gl X (Kr "enumerate"):=by rfl)(hs:Kx [a] (Cx.env X)= [(false,eval a (Cx.env X))]:=by rfl):QI X (Expr.Tuple elts kk tpos) (LN (KS (Kr "enumerate") p) [a] [] pos) (iE fs):=
 ⟨Cf (hm:=hm) (ha:=ha.h) (hg:=hg) (hs:=hs)⟩
theorem gU {X:Cx}{es:List Expr}{pos p2 p3:Pos}{x:Str}(i:Nat){f:En->Rs (List T)}(hN:La (Cx.N X))(ha:QA X es f)(hi:(Cx.N X)[i]? =some x:=by rfl)(hx:L2.Loc (MH (Cx.env X)) x:=by first | exact MU rfl | exact Ma rfl)(hs:L5 (Expr.List es p2) (some (KS x p3)) (NJ pos) (Cx.env X)=pure false:=by rfl)(hf:Cx.fn X x=true\/Nv x (PJ (MH (Cx.env X)))=some NameKind.local:=by first | exact .inl rfl | exact .inr rfl | assumption):QS X (PK [KS x p3] (Expr.List es p2) pos) (hZ i f):=
 ⟨B7 (i:=i) (hN:=hN) (ha:=ha.h) (hi:=hi) (hx:=hx) (hs:=hs) (hf:=hf)⟩
theorem lE {X:Cx}{a:Expr}{fa:En->Rs T}{pos p2:Pos}{x:Str}(i:Nat){apos cpos:Pos}(ha:QE X a fa)(hN:(Cx.N X)[i]? =some x:=by rfl)(hv:yC (MH (Cx.env X)) x:=by first | exact MU rfl | exact Ma (MU rfl) | exact Ma (Ma rfl))(hn:bY a=true:=by rfl)(hbase:LZ (KS x p2) (Kr "append") (Cx.env X) (eval (KS x p2) (Cx.env X))=eval (KS x p2) (Cx.env X):=by rfl)(hline:(Q1 apos == NJ cpos)=true:=by rfl)(hd:jj x:=by decide)(hcd:(x == Kr "__classdict__")=false:=by decide)(hsw:L5 (LN (Nq (KS x p2) (Kr "append") apos) [a] [] cpos) none (NJ pos) (Cx.env X)=pure false:=by rfl):QS X (Stmt.Expr (LN (Nq (KS x p2) (Kr "append") apos) [a] [] cpos) pos) (lp i fa):=
 ⟨EV (i:=i) (ha:=ha.h) (hN:=hN) (hv:=hv) (hn:=hn) (hbase:=hbase) (hline:=hline) (hd:=hd) (hcd:=hcd) (hsw:=hsw)⟩
theorem pU {X:Cx}{a:Expr}{fa:En->Rs T}{pos p2:Pos}{x:Str}(i:Nat){apos cpos:Pos}(ha:QE X a fa)(hN:(Cx.N X)[i]? =some x:=by rfl)(hv:yC (MH (Cx.env X)) x:=by first | exact MU rfl | exact Ma (MU rfl) | exact Ma (Ma rfl))(hn:bY a=true:=by rfl)(hbase:LZ (KS x p2) (Kr "extend") (Cx.env X) (eval (KS x p2) (Cx.env X))=eval (KS x p2) (Cx.env X):=by rfl)(hline:(Q1 apos == NJ cpos)=true:=by rfl)(hd:jj x:=by decide)(hcd:(x == Kr "__classdict__")=false:=by decide)(hsw:L5 (LN (Nq (KS x p2) (Kr "extend") apos) [a] [] cpos) none (NJ pos) (Cx.env X)=pure false:=by rfl):QS X (Stmt.Expr (LN (Nq (KS x p2) (Kr "extend") apos) [a] [] cpos) pos) (mm i fa):=
 ⟨EO (i:=i) (ha:=ha.h) (hN:=hN) (hv:=hv) (hn:=hn) (hbase:=hbase) (hline:=hline) (hd:=hd) (hcd:=hcd) (hsw:=hsw)⟩
theorem jH {X:Cx}(i:Nat){st:Stmt}{F:En->Rs Fl}(h:QS X st F):QS X st (qk i F):=
 ⟨ES (i:=i) (h:=h.h)⟩
theorem yG {X:Cx}(i:Nat){e:Expr}{f:En->Rs T}(h:QE X e f):QE X e (ln i f):=
 ⟨q_ln (i:=i) (h:=h.h)⟩
theorem Ed {X:Cx}(i:Nat){e:Expr}{f:En->Rs Bool}(h:QT X e f):QT X e (FL i f):=
 ⟨Hi (i:=i) (h:=h.h)⟩
theorem Ef {X:Cx}{pos:Pos}:QS X (Stmt.Continue pos) DI:=
 ⟨Hl ⟩
theorem BA {X:Cx}{a:Expr}{fa:En->Rs T}{pos:Pos}{x:Str}(i:Nat){pos':Pos}(hN:La (Cx.N X))(ha:QE X a fa)(hi:(Cx.N X)[i]? =some x:=by rfl)(hx:L2.Loc (MH (Cx.env X)) x:=by first | exact MU rfl | exact Ma rfl)(hf:Cx.fn X x=true\/Nv x (PJ (MH (Cx.env X)))=some NameKind.local:=by first | exact .inl rfl | exact .inr rfl | assumption):QS X (Stmt.AugAssign (KS x pos') Operator.Add a pos) (za i fa):=
 ⟨ET (i:=i) (hN:=hN) (ha:=ha.h) (hi:=hi) (hx:=hx) (hf:=hf)⟩
theorem e9 {X:Cx}{a:Expr}{es:List Expr}{fs:En->Rs (List T)}{p1 p2 pos pos2:Pos}(hc:Cx.calm X=true)(h1:Cx.mg X (Kr "list")=none)(h2:Cx.mg X (Kr "range")=none)(ha:QA X (a::es) fs)(g1:Gl X (Kr "list"):=by rfl)(g2:Gl X (Kr "range"):=by rfl)(hn:aV (a::es)=true:=by rfl)(he2:Kx [LN (KS (Kr "range") p2) (a::es) [] pos2] (Cx.env X)=(false,eval (LN (KS (Kr "range") p2) (a::es) [] pos2) (Cx.env X))::Kx [] (Cx.env X):=by rfl)(hpl2:(List.any (backTo pos (Kx [] (Cx.env X))) λx=>SD x)=false:=by rfl):QE X (LN (KS (Kr "list") p1) [LN (KS (Kr "range") p2) (a::es) [] pos2] [] pos) (lR fs):=
 ⟨zm (hc:=hc) (h1:=h1) (h2:=h2) (ha:=ha.h) (g1:=g1) (g2:=g2) (hn:=hn) (he2:=he2) (hpl2:=hpl2)⟩
theorem oC {X:Cx}{c:Str}{msg:Str}{C:Addr}{bm:List J8}{np p1 cpos pos:Pos}{j:Nat}(O:OX X.K C bm)(hm:X.mg c=some (.ref C))(hc:X.calm=true:=by rfl)(hg:Gl X c:=by rfl)(hd:jj c:=by decide) :
  QS X (.Raise (some (.Call (.Name c np) [.Constant (.str msg) j p1] [] cpos)) none pos) (B1 c):=⟨zj O.own hc hm hg hd⟩
theorem pX {P:Kz}{w:Lb}{K:J6}{mg:Str->Option J8}{base:Heap}{x qual:Str}{st:Stmt}{f:Addr}{fd:L7}{N ps:List Str}{k n:Nat}{F:En->Rs Fl}(Fn:L2.Fun K x qual st f fd)(S:ax N ps (aj st))(hn:ps.length=n)
  (hbody:∀(cdv:J8),fd.code=cdv->∀(A:KU) (outer:List Env) (s:Kb) (H:Hp) (E:XK),Room k (A.deeper (envOfC qual (aj st) s.heap.objs.size f cdv)) →
   ∀xe,Bj ((iy CX0 P w K mg base N qual (aj st) f cdv A outer s H E).FM xe) (cO st) F):GL P w K mg base (k+1) f fd ps n (val n N.length F):=Gf Fn S hn λcdv hcv A outer s H E hr xe=>(hbody cdv hcv A outer s H E hr xe).h
theorem Ej {X:Cx}{a b:Expr}{fa fb:En->Rs T}{pos:Pos}(hu:OY (Cx.A X)+1<cLine)(ha:QE X a fa)(hb:QE X b fb)(hs:Dz b:=by intro _ _;rfl):QE X (Np a b pos) (o2 tV fa fb):=
 ⟨Hu (hu:=hu) (ha:=ha.h) (hb:=hb.h) (hs:=hs)⟩
theorem vt {X:Cx}{a b:Expr}{fa fb:En->Rs T}{apos cpos:Pos}(hu:OY (Cx.A X)+1<cLine)(ha:QE X a fa)(hb:QE X b fb)(hn:bY b=true:=by rfl)(hbase:LZ a (Kr "get") (Cx.env X) (eval a (Cx.env X))=eval a (Cx.env X):=by rfl)(hline:(Q1 apos == NJ cpos)=true:=by rfl):QE X (LN (Nq a (Kr "get") apos) [b] [] cpos) (oD gR fa fb):=
 ⟨E7 (hu:=hu) (ha:=ha.h) (hb:=hb.h) (hn:=hn) (hbase:=hbase) (hline:=hline)⟩
theorem w8 {X:Cx}{a b:Expr}{fa fb:En->Rs T}{apos cpos:Pos}(hu:OY (Cx.A X)+61<cLine)(ha:QE X a fa)(hb:QE X b fb)(hn:bY b=true:=by rfl)(hbase:LZ a (Kr "index") (Cx.env X) (eval a (Cx.env X))=eval a (Cx.env X):=by rfl)(hline:(Q1 apos == NJ cpos)=true:=by rfl):QE X (LN (Nq a (Kr "index") apos) [b] [] cpos) (oL fN fa fb):=
 ⟨zo (hu:=hu) (ha:=ha.h) (hb:=hb.h) (hn:=hn) (hbase:=hbase) (hline:=hline)⟩
theorem yF {X:Cx}{e:Expr}{f:En->Rs T}{x:Str}{p pos p2 p3:Pos}(i:Nat)(hu:OY (Cx.A X)+8<cLine)(hc:Cx.calm X=true)(hm:Cx.mg X (Kr "dict")=none)(hN:La (Cx.N X))(ha:QE X e f)(hst:bY e=true:=by rfl)(hg:Gl X (Kr "dict"):=by rfl)(hi:(Cx.N X)[i]? =some x:=by rfl)(hx:L2.Loc (MH (Cx.env X)) x:=by first | exact MU rfl | exact Ma rfl)(hs:L5 (LN (KS (Kr "dict") p) [e] [] p2) (some (KS x p3)) (NJ pos) (Cx.env X)=pure false:=by rfl)(hf:Cx.fn X x=true\/Nv x (PJ (MH (Cx.env X)))=some NameKind.local:=by first | exact .inl rfl | exact .inr rfl | assumption):QS X (PK [KS x p3] (LN (KS (Kr "dict") p) [e] [] p2) pos) (oJ i f):=
 ⟨B8 (i:=i) (hu:=hu) (hc:=hc) (hm:=hm) (hN:=hN) (ha:=ha.h) (hst:=hst) (hg:=hg) (hi:=hi) (hx:=hx) (hs:=hs) (hf:=hf)⟩
theorem Bz {X:Cx}{b c:Expr}{fb fc:En->Rs T}{pos p2 p3:Pos}{x:Str}(i:Nat)(hu:OY (Cx.A X)+1<cLine)(hb:QE X b fb)(hc:QE X c fc)(hN:(Cx.N X)[i]? =some x:=by rfl)(hv:yC (MH (Cx.env X)) x:=by first | exact MU rfl | exact Ma (MU rfl) | exact Ma (Ma rfl))(hd:jj x:=by decide)(hcd:(x == Kr "__classdict__")=false:=by decide)(hs:L5 c (some (Np (KS x p2) b p3)) (NJ pos) (Cx.env X)=pure false:=by rfl):QS X (PK [Np (KS x p2) b p3] c pos) (xv i fb fc):=
 ⟨EK (i:=i) (hu:=hu) (hb:=hb.h) (hc:=hc.h) (hN:=hN) (hv:=hv) (hd:=hd) (hcd:=hcd) (hs:=hs)⟩
end Tr
namespace Tr
open PySem PySem.Spec PyProof.Rows L2 PySem.W
def AK (h:Heap):Frag:=(J7 h.objs.size).filterMap λa=>(h.get? a).map λo=>(a,o)
theorem AJ (h:Heap):(AK h).In h:=by
 have key:∀(l:List Nat) (a:Addr) (o:Obj),(l.filterMap λa=>(h.get? a).map λo=>(a,o)).lookup a=some o->h.get? a=some o:=by
  intro l
  induction l with
  | nil=>intro a o e;cases e
  | cons b r ih=>
   intro a o e
   cases hb:h.get? b with
   | none=>rw[List.filterMap_cons_none (by rw[hb];rfl)]at e;exact ih a o e
   | some ob=>
    rw[List.filterMap_cons_some (b:=(b,ob)) (by rw[hb];rfl),K8]at e
    cases q:a == b with
    | true=>rw[q]at e;cases e;rw[eq_of_beq q];exact hb
    | false=>rw[q]at e;exact ih a o e
 exact λa o e=>key _ a o e
def obF (K:Frag)(n:Str):Option (Str×Str×Of×FuncBody×NN×Addr×List (Str×Addr)×J8×Addr×Bool×Bool):=match nsIn K KF n with
 | some (some (.ref f))=>match K.lookup f with
  | some ⟨_,_,.func d,_⟩=>some (d.name,d.qualname,d.params,d.body,d.scope,d.globals,d.closure,d.defaults,d.builtins,codeIn K d.code n,keepIn K (.ref f))
  | _=>none
 | _=>none
def exF (n:Str)(st:Stmt):Option (Str×Str×Of×FuncBody×NN×Addr×List (Str×Addr)×J8×Addr×Bool×Bool):=
 some (n,n,gD st,.stmts (cO st),aj st,KF,[],.none,NC,true,true)
theorem D2 {K:Frag}{n:Str}{st:Stmt}(e:obF K n=exF n st):∃f fd,nsIn K KF n=some (some (.ref f))/\L2.Fun K n n st f fd:=by
 unfold obF at e
 split at e
 ·rename_i f hf
  split at e
  ·rename_i oc od d sl hl
   cases d;unfold exF at e;simp only[Lg.injEq,RN.injEq]at e;obtain⟨h1,h2,h3,h4,h5,h6,h7,h8,h9,h10,h11⟩:=e;subst h1 h2 h3 h4 h5 h6 h7 h8 h9;exact⟨f,_,hf,Gb hl h10 h11⟩
  ·cases e
 ·cases e
def HL (K:Frag)(N:Addr)(n:Str):Bool:=match nsIn K N n with | some none=>true | _=>false
theorem mJ {K:Frag}{N:Addr}{n:Str}(e:HL K N n=true):nsIn K N n=some none:=by
 unfold HL at e
 split at e
 ·assumption
 ·cases e
def Jb (K:Frag)(n:Str):Option Int:=match nsIn K KF n with | some (some (.int i _))=>some i | _=>none
theorem FH {K:Frag}{n:Str}{i:Int}(e:Jb K n=some i):∃t,nsIn K KF n=some (some (.int i t)):=by
 unfold Jb at e
 split at e
 ·rename_i i' t h;cases e;exact⟨t,h⟩
 ·cases e
def vB:List J8->Bool
 | [.type a,.type b,.type c,.type d] =>a == "ValueError" &&b == "Exception" &&c == "BaseException" &&d == "object"
 | _=>false
theorem lX:∀{l:List J8},vB l=true->l=wU:=by
 intro l e;unfold vB at e
 split at e
 ·simp only[J9,beq_iff_eq]at e
  obtain⟨⟨⟨h1,h2⟩,h3⟩,h4⟩:=e;subst h1 h2 h3 h4;rfl
 ·cases e
def yN (D:Option Addr)(m:List J8):Bool:=match D with
 | none=>vB m
 | some D=>match m with
  | .ref E::m=>E == D&&vB m
  | _=>false
def CO (K:Frag)(D:Option Addr)(n:Str):Option Addr:=match nsIn K KF n with
 | some (some (.ref C))=>match K.lookup C with
  | some ⟨.type t,_,.cls c,⟨[_,_,_,_,some (.builtin b),_]⟩⟩=>match c.mro,K.lookup c.ns with
   | .ref E::m,some ⟨_,_,.dict es _,_⟩=>
    if (t == "type" &&b == "ValueError.__new__" && !c.hasDel&&(es.toList.all λe=>yY e.key)&&calmNames.all (HL K c.ns)&&E == C&&yN D m)=true then some C else none
   | _,_=>none
  | _=>none
 | _=>none
theorem kr {K:Frag}{D:Option Addr}{n:Str}{C:Addr}(e:CO K D n=some C):nsIn K KF n=some (some (.ref C)) ∧
  ∃nm q N bs bm hd sn su ab co dd k0 k1 k2 k3 k5,yN D bm=true/\K.lookup C=some (OJ nm q C N bs bm hd sn su ab co dd k0 k1 k2 k3 k5 "ValueError.__new__")/\∀h:Heap,K.In h->∃mN,h.Ns N mN/\∀n∈calmNames,mN n=none:=by
 unfold CO at e
 split at e
 ·rename_i C' hC
  split at e
  ·rename_i t dd c k0 k1 k2 k3 b k5 hl
   split at e
   ·rename_i E m ob oe es ep oz hm hN
    split at e
    ·rename_i hq
     cases e;simp only[J9,beq_iff_eq,Pn]at hq;obtain⟨⟨⟨⟨⟨⟨h1,h2⟩,h3⟩,h4⟩,h5⟩,h6⟩,h7⟩:=hq
     have z:=Ks.mp h5;refine⟨hC,c.name,c.qualname,c.ns,c.bases,m,c.hasDict,c.slotNames,c.subclasses,c.abstract,c.collection,dd,k0,k1,k2,k3,k5,h7,?_,HM hN h4 (mJ (z _ (.head _))) (mJ (z _ (.tail _ (.head _)))) (mJ (z _ (.tail _ (.tail _ (.head _))))) (mJ (z _ (.tail _ (.tail _ (.tail _ (.head _))))))⟩
     rw[hl];cases c;simp only at hm h3;subst h1 h2 hm h3 h6
     rfl
    ·cases e
   ·cases e
  ·cases e
 ·cases e
theorem ox0 {K:Frag}{C:Addr}{n:Str}(e:CO K none n=some C):OX K C wU:=by
 obtain⟨_,_,_,_,_,_,_,_,_,_,_,_,_,_,_,_,_,hu,hl,hn⟩:=kr e;cases lX hu;exact CG hl hn
theorem ox1 {K:Frag}{C D:Addr}{n m:Str}(e:CO K (some D) n=some C)(d:CO K none m=some D):OX K C (.ref D::wU):=by
 obtain⟨_,_,_,_,_,bm,_,_,_,_,_,_,_,_,_,_,_,hu,hl,hn⟩:=kr e;obtain⟨_,_,_,_,_,_,_,_,_,_,_,_,_,_,_,_,_,hu',hl',hn'⟩:=kr d;cases lX hu';unfold yN at hu;simp only at hu
 split at hu
 ·rw[J9]at hu
  cases eq_of_beq hu.1;cases lX hu.2;exact zI hl hn hl' hn'
 ·cases hu
def vh {α:Type}:List (Option α)->Option (List α)
 | [] =>some []
 | none::_=>none
 | some a::r=>match vh r with | some l=>some (a::l) | none=>none
theorem pO {α:Type}{o:Option α}{r:List (Option α)}{l:List α}(e:vh (o::r)=some l):∃a l',o=some a/\l=a::l'/\vh r=some l':=by
 cases o with
 | none=>cases e
 | some a=>
  unfold vh at e
  split at e
  ·rename_i l' h;cases e;exact⟨a,l',rfl,rfl,h⟩
  ·cases e
theorem Bf {α:Type}{l:List α}(e:vh ([]:List (Option α))=some l):l= []:=by cases e;rfl
def qK:List Addr->Bool
 | [] =>true
 | a::r=>(r.all λb=> !(a == b))&&qK r
theorem oS:∀{l:List Addr},qK l=true->l.Nodup
 | [],_=> .nil
 | a::r,h=>by
  unfold qK at h;rw[J9]at h;refine Lk.mpr ⟨λhm=> ?_,oS h.2⟩
  have:=Ks.mp h.1 a hm
  simp at this
def Ja (K:Frag):List Str->Bool
 | [] =>true
 | m::es=>match CO K none m with
  | some D=>match vh (es.map (CO K (some D)))with | some l=>qK (l++ [D]) | none=>false
  | none=>false
theorem FF {K:Frag}{m:Str}{es:List Str}(e:Ja K (m::es)=true):∃D l,CO K none m=some D/\vh (es.map (CO K (some D)))=some l/\(l++ [D]).Nodup:=by
 rw[Ja]at e
 split at e
 ·rename_i D hD
  split at e
  ·rename_i l hl;exact⟨D,l,hD,hl,oS e⟩
  ·cases e
 ·cases e
structure rJ where
 tab:List (Str×Nat)
 zs:List Str
 cs:List (Str×Int)
 es:List Str
def oh (S:rJ)(K:Frag):=(S.tab.map (λp=>obF K p.1),S.zs.all (HL K KF),S.cs.map (λc=>Jb K c.1),Ja K S.es)
def lW (S:rJ)(top:Nat->Stmt):=(S.tab.map (λp=>exF p.1 (top p.2)),true,S.cs.map (λc=>some c.2),true)
section
variable {S:rJ}{top:Nat->Stmt}{K:Frag}{h:Heap}{mg:Str->Option J8}
theorem qU {α β:Type}{f g:α->β}:∀{l:List α} (j:Nat) {a:α},l.map f=l.map g->l[j]? =some a->f a=g a
 | [],_,_,_,q=>by cases q
 | b::l,0,a,e,q=>by cases q;exact(Re e).1
 | b::l,j+1,a,e,q=>qU (l:=l) j (Re e).2 q
theorem bW (j:Nat){n:Str}{i:Nat}{ps:List Str}(X:K.In h)(G:h.Ns KF mg)(e:oh S K=lW S top)(q:S.tab[j]? =some (n,i))
  (hb:∀(kV doc pm:J8) (an:Option Addr) (cdv ct:J8) (us:List J8),us.length=ps.length->SF (fnOf n n (gD (top i)) (cO (top i)) (aj (top i)) .none kV doc pm an cdv ct) ⟨us,[]⟩=pure (ps.zip us)) :
  ∃f fd,Fn K mg n (top i) ps f fd:=by
 obtain⟨f,fd,h1,h2⟩:=D2 (qU j (congrArg (·.1) e) q)
 exact⟨f,fd,h2,h2.binds hb,mg_of X G h1⟩
theorem Ih (j:Nat){n:Str}{i:Nat}{x:Str}{fa:Addr}(X:K.In h)(G:h.Ns KF mg)(e:oh S K=lW S top)(q:S.tab[j]? =some (n,i))(hfa:mg n=some (.ref fa))
  (hb:∀(kV doc pm:J8) (an:Option Addr) (cdv ct u:J8),SF (fnOf n n (gD (top i)) (cO (top i)) (aj (top i)) .none kV doc pm an cdv ct) ⟨[u],[]⟩=pure [(x,u)]) :
  ∃fd,Fn K mg n (top i) [x] fa fd/\∀(s:Kb) (u:J8),RY s fd ⟨[u],[]⟩ [(x,u)]:=by
 obtain⟨f,fd,h1,h2⟩:=D2 (qU j (congrArg (·.1) e) q)
 have z:=hfa.symm.trans (mg_of X G h1);cases z
 have hh:=h2;obtain⟨oc,od,kV,doc,pm,an,cdv,ct,osl,rfl,lk,hcd⟩:=hh.ex;exact⟨_,⟨h2,.all λus hl=>match us,hl with | [u],_=>hb kV doc pm an cdv ct u,mg_of X G h1⟩,λs u=> .of_eq (hb kV doc pm an cdv ct u)⟩
theorem dJ (j:Nat){n:Str}(X:K.In h)(G:h.Ns KF mg)(e:oh S K=lW S top)(q:S.zs[j]? =some n):mg n=none:=
 mg_none_of X G (mJ (Ks.mp (congrArg (·.2.1) e:S.zs.all (HL K KF)=true) n (LA q)))
theorem pf (j:Nat){n:Str}{i:Int}(X:K.In h)(G:h.Ns KF mg)(e:oh S K=lW S top)(q:S.cs[j]? =some (n,i)):∃t,mg n=some (.int i t):=by
 obtain⟨t,ht⟩:=FH (qU (f:=λc=>Jb K c.1) (g:=λc=>some c.2) j (congrArg (·.2.2.1) e) q)
 exact⟨t,mg_of X G ht⟩
theorem Ij (e:oh S K=lW S top):Ja K S.es=true:=congrArg (·.2.2.2) e
end
theorem left_of {p q:Kz}{loose:List Str}{Xt:Kb->Bool}{α:Type}{Yf:Kb->α}{Ya:Lb->α}{N:Nat}{g0:Bool}
  (e:opening p=plainProg p.main.scope.names) (hN:Nat.ble 600 N=true) (f:∀s,fenceModules? p s=some s)
  (h:∀(w:Lb) (os:OsState),(topFrom treeTable p w N ⟨boot_heap w.params,⟨[]⟩,boot_drawn,boot_toks,os⟩).map (λs=>(openSeen q loose (S4 p.main.body) Xt g0 s,Yf s))=some (openGood q loose,Ya w)) :
  LeftO p q loose Xt Yf Ya N g0:=λw=>by
 obtain⟨⟨h0,gs,d,k,os⟩,e1,e2⟩:=LR.mp (boot_open e hN f w);simp only[RN.injEq]at e2;obtain⟨rfl,rfl,rfl,rfl⟩:=e2;unfold openEnds;rw[e1];exact h w os
structure Cl (P:Kz)(w:Lb)(K:Frag)(mg:Str->Option J8)(base:Heap)(k:Nat)(x:Str)(n:Nat)(m:List T->Rs T):Prop where
 ex:∃f fd ps,mg x=some (.ref f)/\keepIn K (.ref f)=true/\Binds K fd ps []/\ps.length=n/\GL P w K mg base k f fd ps n m
abbrev fH (K:Frag)(mg:Str->Option J8)(x:Str)(st:Stmt)(ps:List Str):Prop:=∃f fd,Fn K mg x st ps f fd
section
variable {P:Kz}{w:Lb}{K:Frag}{mg:Str->Option J8}{base:Heap}{x:Str}{st:Stmt}{N ps:List Str}{k n:Nat}{F:En->Rs Fl}
theorem aW (H:fH K mg x st ps)(S:ax N ps (aj st))(hn:ps.length=n)
  (hbody:∀(f:Addr) (cdv:J8) (A:KU) (outer:List Env) (s:Kb) (H:Hp) (E:XK),Room k (A.deeper (envOfC x (aj st) s.heap.objs.size f cdv)) →
   ∀xe,Bj ((iy CX0 P w K mg base N x (aj st) f cdv A outer s H E).FM xe) (cO st) F):Cl P w K mg base (k+1) x n (val n N.length F):=by
 obtain⟨f,fd,h⟩:=H;exact⟨f,fd,ps,h.mg,h.fn.kp,h.bd,hn,pX h.fn S hn λcdv _=>hbody f cdv⟩
theorem GB (H:fH K mg x st ps)(S:ax N ps (aj st))(hn:ps.length=n)
  (hbody:∀(f:Addr) (cdv:J8),(∃o fd,mg x=some (.ref f)/\K.lookup f=some o/\o.data= .func fd/\fd.code=cdv)->∀(A:KU) (outer:List Env) (s:Kb) (H:Hp) (E:XK),Room k (A.deeper (envOfC x (aj st) s.heap.objs.size f cdv)) →
   ∀xe,Bj ((iy CX0 P w K mg base N x (aj st) f cdv A outer s H E).FM xe) (cO st) F):Cl P w K mg base (k+1) x n (val n N.length F):=by
 obtain⟨f,fd,h⟩:=H;refine⟨f,fd,ps,h.mg,h.fn.kp,h.bd,hn,pX h.fn S hn λcdv hc=>hbody f cdv ?_⟩
 have hh:=h.fn;obtain⟨oc,od,kV,doc,pm,an,cdv',ct,osl,rfl,lk,hcd⟩:=hh.ex;exact⟨_,_,h.mg,lk,rfl,hc⟩
end
section
variable {X:Cx}{e:Expr}{es:List Expr}{fs:En->Rs (List T)}{pos p:Pos}{x:Str}{n k k':Nat}{g:List T->Rs T}
theorem aI (c:Cl X.prog X.w X.K X.mg X.base k x n g)(hr:Room k' X.A)(ha:QA X (e::es) fs)(hk:k<=k':=by decide)(hl:∀(Z:En) (ts:List T),fs Z= .ok ts->ts.length=n:=by repeat first | exact IM | refine IL ?_)
  (hn:aV (e::es)=true:=by rfl) (hg:Gl X x:=by rfl) (h2:jj x:=by decide):QE X (.Call (.Name x p) (e::es) [] pos) (cl g fs):=by
 obtain⟨f,fd,ps,h1,h3,h4,h5,h6⟩:=c.ex;exact zq_c h6 (hr.mono hk) h1 h3 h4 hl ha h5 hn hg h2
theorem rL {i:Int}(h:∃t,X.mg x=some (.int i t))(hg:Gl X x:=by rfl)(hd:jj x:=by decide):QE X (.Name x pos) (cn (.int i)):=by
 obtain⟨t,h⟩:=h;exact BD h ⟨_,rfl⟩ hg hd
end
end Tr
namespace Tr
open PySem PySem.Spec PyProof.Rows L2
theorem fD {N P:List Str}{sc:NN}(h1:sc.kind= .function:=by rfl)(h2:sc.isCoroutine=false:=by rfl)(h3:sc.isGenerator=false:=by rfl)(h4:N.Nodup:=by decide+kernel)(h5:N.take P.length=P:=by rfl)
  (h6:∀x∈P,sc.names.lookup x=some .local\/sc.names.lookup x=some .cell:=by decide+kernel) (h7:∀y∈sc.names,y.2≠ .free:=by decide+kernel):ax N P sc:=⟨h1,h2,h3,h4,h5,h6,h7⟩
end Tr
namespace Tr
open PySem
def tbl (pl:List Nat)(L:Bool):SetTable:={ mask:=7,place:=pl.toArray,dummies:=#[],finger:=0,led:=L,moves:=0,plain:=true }
theorem lG:∀{pl:List Nat},pl.Pairwise (· < ·)->∀{a b v u:Nat},a<b->pl[a]? =some v->pl[b]? =some u->v<u:=by
 intro pl h a b v u ab ha hb;rw[O7]at h;obtain⟨h1,rfl⟩:=Km.mp ha
 obtain⟨h2,rfl⟩:=Km.mp hb
 exact h a b h1 h2 ab
theorem nU {pl:List Nat}(hs:pl.Pairwise (· < ·))(j:Nat):∀(fuel lo hi:Nat),hi - lo<=fuel->lo<=hi->hi<=pl.length →
  (∀i v,i<lo->pl[i]? =some v->v<j)->(∀i v,hi<=i->pl[i]? =some v->j<=v) →
  ∃r,RI pl.toArray j fuel lo hi=r/\r<=pl.length/\(∀i v,i<r->pl[i]? =some v->v<j)/\(∀i v,r<=i->pl[i]? =some v->j<=v)
 | 0,lo,hi,hf,hl,hh,h1,h2=>by
  have e:lo=hi:=by omega
  subst e
  exact⟨lo,rfl,hh,h1,h2⟩
 | fuel+1,lo,hi,hf,hl,hh,h1,h2=>by
  unfold RI
  by_cases hlt:lo<hi
  ·rw[if_pos hlt]
   have hm:(lo+hi) / 2<pl.length:=by omega
   have em:pl[(lo+hi) / 2]? =some pl[(lo+hi) / 2]:=Kf hm
   have eg:pl.toArray.getD ((lo+hi) / 2) j=pl[(lo+hi) / 2]:=by simp[hm]
   dsimp only
   rw[eg]
   by_cases hc:pl[(lo+hi) / 2] <j
   ·rw[if_pos hc]
    refine nU hs j fuel _ hi (by omega) (by omega) hh ?_ h2
    intro i v hi' hv;rcases MM i ((lo+hi) / 2)with q | q
    ·exact OU (lG hs q hv em) hc
    ·have:i=(lo+hi) / 2:=by omega
     subst this;rw[em]at hv;cases hv;exact hc
   ·rw[if_neg hc]
    refine nU hs j fuel lo _ (by omega) (by omega) (by omega) h1 ?_
    intro i v hi' hv;rcases Rq hi' with q | q
    ·subst q
     rw[em]at hv;cases hv;omega
    ·have:=lG hs q em hv;omega
  ·rw[if_neg hlt]
   have e:lo=hi:=by omega
   subst e;exact⟨lo,rfl,hh,h1,h2⟩
theorem iB {pl:List Nat}(hs:pl.Pairwise (· < ·))(j:Nat) :
  Kt pl.toArray j<=pl.length/\(∀i v,i<Kt pl.toArray j->pl[i]? =some v->v<j)/\(∀i v,Kt pl.toArray j<=i->pl[i]? =some v->j<=v):=by
 obtain⟨r,h1,h2,h3,h4⟩:=nU hs j pl.length 0 pl.length (by omega) (by omega) (Ki _) (λi v h=>by omega) (λi v h e=>by
  rw[Lv h]at e;cases e)
 have e:Kt pl.toArray j=r:=by unfold Kt;simpa using h1
 rw[e];exact⟨h2,h3,h4⟩
theorem uf {pl:List Nat}(hs:pl.Pairwise (· < ·)):Kt pl.toArray 0=0:=by
 obtain⟨h1,h2,_⟩:=iB hs 0;rcases Rr (Kt pl.toArray 0)with e | e
 ·exact e
 ·have q:0<pl.length:=by omega
  have:=h2 0 pl[0] e (Kf q)
  omega
theorem ve {pl:List Nat}(hs:pl.Pairwise (· < ·)){i v:Nat}(h:pl[i]? =some v):Kt pl.toArray (v+1)=i+1:=by
 obtain⟨h1,h2,h3⟩:=iB hs (v+1)
 have hi:=(Km.mp h).1
 rcases NV (Kt pl.toArray (v+1)) (i+1)with q | q | q
 ·have:=h3 i v (by omega) h;omega
 ·exact q
 ·have q2:i+1<pl.length:=by omega
  have e:=Kf q2
  have a:=h2 (i+1) _ q e
  have b:=lG hs (MT i) h e;omega
theorem xp {pl:List Nat}{L:Bool}(hs:pl.Pairwise (· < ·)){j:Nat}(h:j∈pl):∃i,(tbl pl L).slot j= .live i:=by
 obtain⟨k,hk,e⟩:=Lu h;obtain⟨h1,h2,h3⟩:=iB hs j
 have ek:pl[k]? =some j:=by rw[Kf hk,e]
 have er:Kt pl.toArray j=k:=by
  rcases NV (Kt pl.toArray j) k with q | q | q
  ·have hl:Kt pl.toArray j<pl.length:=by omega
   have e2:=Kf hl
   have a:=h3 _ _ (Ki _) e2
   have b:=lG hs q e2 ek;omega
  ·exact q
  ·have:=h2 k j q ek;omega
 refine⟨k,?_⟩
 unfold SetTable.slot tbl
 dsimp only
 rw[er];simp[ek]
theorem uv {pl:List Nat}{L:Bool}{j:Nat}(h:j∉pl):(tbl pl L).slot j= .empty:=by
 unfold SetTable.slot tbl
 dsimp only
 have q:¬ (pl.toArray[Kt pl.toArray j]? == some j)=true:=by
  intro e;rw[beq_iff_eq,Qi]at e
  exact h (LA e)
 rw[if_neg q]
 have q2:Qo #[] j=false:=by simp[Qo]
 rw[q2];rfl
theorem adv (pl:List Nat)(L:Bool)(i q:Nat)(d:Option Nat)(hi:i<=7):(tbl pl L).advance ⟨i,0,i,q,d⟩=⟨(i*5+1+q / 32) % 8,0,(i*5+1+q / 32) % 8,q / 32,d⟩:=by
 have e:OE 7 ((i*5+1+q / 32) % 8)=(i*5+1+q / 32) % 8:=by
  unfold OE;rw[if_neg (by omega)]
 simp[SetTable.advance,SetTable.leap,tbl,e]
def Ez:Nat->Nat->Nat->Nat
 | 0,i,_=>i
 | k+1,i,q=>Ez k ((i*5+1+q / 32) % 8) (q / 32)
theorem sA {pl:List Nat}{L:Bool}(hs:pl.Pairwise (· < ·))(h:Int):∀(k fuel i q:Nat),k<fuel->i<=7->Ez k i q∉pl →
  ∃j,j∉pl/\j<=7/\RJ (tbl pl L) (λ_=>h+1) h fuel ⟨i,0,i,q,none⟩=some (.empty j none)
 | k,0,i,q,hk,_,_=>by omega
 | k,fuel+1,i,q,hk,hi,hn=>by
  unfold RJ
  dsimp only
  by_cases hm:i∈pl
  ·obtain⟨w,ew⟩:=xp (L:=L) hs hm
   rw[ew]
   dsimp only
   have e1:¬ (h+1 == h)=true:=by rw[beq_iff_eq];omega
   rw[if_neg e1,adv pl L i q none hi]
   cases k with
   | zero=>exact absurd hm hn
   | succ k=>exact sA hs h k fuel _ _ (by omega) (by omega) hn
  ·rw[uv hm]
   exact⟨i,hm,hi,rfl⟩
theorem BZ:∀h<100,∀x<8,∃k<12,Ez k (h % 8) h=x:=by decide+kernel
theorem xj:∀{pl:List Nat},pl.length<=3->∃x<8,x∉pl
 | [],_=>⟨0,by omega,by simp⟩
 | [a],_=>if e:a=0 then⟨1,by omega,by simp;omega⟩else⟨0,by omega,by simp;omega⟩
 | [a,b],_=>by
  by_cases h0:0=a\/0=b
  ·by_cases h1:1=a\/1=b
   ·exact⟨2,by omega,by simp;omega⟩
   ·exact⟨1,by omega,by simp;omega⟩
  ·exact⟨0,by omega,by simp;omega⟩
 | [a,b,c],_=>by
  by_cases h0:0=a\/0=b\/0=c
  ·by_cases h1:1=a\/1=b\/1=c
   ·by_cases h2:2=a\/2=b\/2=c
    ·exact⟨3,by omega,by simp;omega⟩
    ·exact⟨2,by omega,by simp;omega⟩
   ·exact⟨1,by omega,by simp;omega⟩
  ·exact⟨0,by omega,by simp;omega⟩
 | _::_::_::_::_,h=>by simp at h
theorem Dc {pl:List Nat}{L:Bool}(hs:pl.Pairwise (· < ·))(hl:pl.length<=3){h:Nat}(hh:h<100) :
  ∃j,j∉pl/\j<=7/\(tbl pl L).freeSlot (h:Int)=some (j,false):=by
 obtain⟨x,hx,nx⟩:=xj hl;obtain⟨k,hk,ek⟩:=BZ h hh x hx
 have eb:SetTable.bits (h:Int)=h:=by
  unfold SetTable.bits;rw[RS (by omega) (by omega)];rfl
 have es:(tbl pl L).probeStart (h:Int)=⟨h % 8,0,h % 8,h,none⟩:=by
  have e:OE 7 (h % 8)=h % 8:=by unfold OE;rw[if_neg (by omega)]
  simp[SetTable.probeStart,tbl,eb,e]
 obtain⟨j,h1,h2,h3⟩:=sA (L:=L) hs (h:Int) k (10*SetTable.turns 7) (h % 8) h (by unfold SetTable.turns;omega) (by omega) (by rw[ek];exact nx)
 refine⟨j,h1,h2,?_⟩
 unfold SetTable.freeSlot;rw[es];unfold QQ
 have e7:(tbl pl L).mask=7:=rfl;rw[e7,h3]
 rfl
theorem rg {pl:List Nat}(hs:pl.Pairwise (· < ·)){j:Nat}(hj:j∉pl) :
  (pl.take (Kt pl.toArray j)++j::pl.drop (Kt pl.toArray j)).Pairwise (· < ·):=by
 obtain⟨h1,h2,h3⟩:=iB hs j;rw[List.pairwise_append];refine⟨hs.sublist (RL _ _),?_,?_⟩
 ·rw[List.pairwise_cons]
  refine⟨λa ha=> ?_,hs.sublist (RT _ _)⟩
  obtain⟨i,hi,e⟩:=Lu ha;rw[RU]at e
  have hlt:Kt pl.toArray j+i<pl.length:=by simp at hi;omega
  have:=h3 (Kt pl.toArray j+i) a (by omega) (by rw[Kf hlt,e])
  rcases Rq this with q | q
  ·exact absurd (List.mem_of_mem_drop ha) (q▸hj)
  ·exact q
 ·intro a ha b hb
  obtain⟨i,hi,e⟩:=Lu ha;rw[List.getElem_take]at e
  have hi':i<Kt pl.toArray j:=by simp at hi;omega
  have hlt:i<pl.length:=by omega
  have a1:=h2 i a hi' (by rw[Kf hlt,e])
  rcases Ko.mp hb with rfl | hb
  ·exact a1
  ·obtain⟨i2,hi2,e2⟩:=Lu hb
   rw[RU]at e2
   have hlt2:Kt pl.toArray j+i2<pl.length:=by simp at hi2;omega
   have:=h3 (Kt pl.toArray j+i2) b (by omega) (by rw[Kf hlt2,e2])
   omega
theorem FQ {pl:List Nat}{L:Bool}(hs:pl.Pairwise (· < ·))(hl:pl.length<=3){h:Nat}(hh:h<100){es:Array (Int×J8)}(he:es.size=pl.length)(x:J8) :
  ∃pl' es',layNew (tbl pl L) es (h:Int) x=(es',tbl pl' L,false,false)/\pl'.Pairwise (· < ·)/\pl'.length=pl.length+1/\Nn es'.toList (es.push ((h:Int),x)).toList:=by
 obtain⟨j,h1,h2,h3⟩:=Dc (L:=L) hs hl hh
 have hp:=layNew_perm (tbl pl L) es (h:Int) x
 have hb:=(iB hs j).1
 have ep:(tbl pl L).put j=(tbl (pl.take (Kt pl.toArray j)++j::pl.drop (Kt pl.toArray j)) L,Kt pl.toArray j):=by
  have q2:Qo #[] j=false:=by simp[Qo]
  have q3:Po pl.toArray (Kt pl.toArray j) j=(pl.take (Kt pl.toArray j)++j::pl.drop (Kt pl.toArray j)).toArray:=by
   apply Array.toList_inj.mp
   rw[SetTable.toList_insertAt]
  simp only[SetTable.put,tbl,q2,q3]
  rfl
 have hlen:(pl.take (Kt pl.toArray j)++j::pl.drop (Kt pl.toArray j)).length=pl.length+1:=by
  simp;omega
 have hsz:(Po es (Kt pl.toArray j) ((h:Int),x)).size=pl.length+1:=by
  rw[<-KJ,(P8 es _ _).length_eq];simp[he]
 have hf:(tbl (pl.take (Kt pl.toArray j)++j::pl.drop (Kt pl.toArray j)) L).fits (pl.length+1)=true:=by
  unfold SetTable.fits Rt
  show((_:Nat) == _&&decide (_<=7))=true
  rw[show(tbl (pl.take (Kt pl.toArray j)++j::pl.drop (Kt pl.toArray j)) L).place.size=pl.length+1 from by
   show(Oa _).size=_;rw[Kp,hlen]]
  have:(tbl (pl.take (Kt pl.toArray j)++j::pl.drop (Kt pl.toArray j)) L).dummies.size=0:=rfl;rw[this]
  simp;omega
 refine⟨_,Po es (Kt pl.toArray j) ((h:Int),x),?_,rg hs h1,hlen,P8 ..⟩
 unfold layNew;rw[h3]
 dsimp only
 rw[ep]
 dsimp only
 rw[hsz,hf];unfold SetTable.orStandIn;rw[hf]
 rfl
theorem zP {pl:List Nat}{L:Bool}(hl:pl.length<=4):(tbl pl L).tooFull=false:=by
 unfold SetTable.tooFull Rt
 have e:(tbl pl L).place.size=pl.length:=by show(Oa _).size=_;simp
 have e2:(tbl pl L).dummies.size=0:=rfl
 have e3:(tbl pl L).mask=7:=rfl;rw[e,e2,e3]
 simp;omega
theorem yS {pl:List Nat}{L:Bool}(hl:pl.length<=4):(tbl pl L).fits pl.length=true:=by
 unfold SetTable.fits Rt
 have e:(tbl pl L).place.size=pl.length:=by show(Oa _).size=_;simp
 have e2:(tbl pl L).dummies.size=0:=rfl
 have e3:(tbl pl L).mask=7:=rfl;rw[e,e2,e3]
 simp;omega
theorem nv {k:Int}(h0:0<=k)(h1:k<100):hashInt k=k:=by
 obtain⟨n,rfl⟩:=LO h0
 have hn:n<100:=by omega
 have e1:rawHash (n:Int)=n:=by
  have e:(((n:Int).natAbs:Int) % ((2 ^ 61 - 1:Nat):Int))=(n:Int):=by
   rw[Int.natAbs_natCast];exact RS (by omega) (by omega)
  have e2:¬ ((n:Int)<0):=by omega
  have e3:¬ (((n:Int) == -1)=true):=by rw[beq_iff_eq];omega
  unfold rawHash
  dsimp only
  rw[e,if_neg e2,if_neg e3]
 unfold hashInt;rw[e1,if_neg (by rw[beq_iff_eq];omega)]
def IU (e:Int×J8):Prop:=∃k t,e=(k,Lj k t)/\0<=k/\k<100
def kq (es:Array (Int×J8))(ep:Nat)(pl:List Nat)(L:Bool):Obj:={ cls:=.type "set",dict:=none,data:=.set es ep (tbl pl L),slots:=#[] }
structure SetX (h:Heap)(a:Addr)(es:Array (Int×J8))(ep:Nat)(pl:List Nat)(L:Bool):Prop where
 at_:h.get? a=some (kq es ep pl L)
 rise:pl.Pairwise (· < ·)
 len:es.size=pl.length
 few:pl.length<=4
 ent:∀e∈es.toList,IU e
theorem SetX.fits {h:Heap}{a:Addr}{es:Array (Int×J8)}{ep:Nat}{pl:List Nat}{L:Bool}(x:SetX h a es ep pl L):(tbl pl L).fits es.size=true:=by rw[x.len];exact yS x.few
theorem SetX.keep {h h':Heap}{a:Addr}{es:Array (Int×J8)}{ep:Nat}{pl:List Nat}{L:Bool}(x:SetX h a es ep pl L)(k:∀o,h.get? a=some o->h'.get? a=some o):SetX h' a es ep pl L:=
 ⟨k _ x.at_,x.rise,x.len,x.few,x.ent⟩
theorem SetX.typ {s:Kb}{a:Addr}{es:Array (Int×J8)}{ep:Nat}{pl:List Nat}{L:Bool}(x:SetX s.heap a es ep pl L):s.TypeIs (.ref a) "set":=⟨_,x.at_,rfl⟩
theorem x6 {prog:Kz}{w:Lb}{es:List (Int×J8)}(h:∀e∈es,IU e):ElemsOf (intKind prog w) es:=by
 intro e he;obtain⟨k,t,rfl,h0,h1⟩:=h e he;exact⟨⟨k,by simp[intKind,NS],(nv h0 h1).symm⟩,rfl⟩
def bV (es:Array (Int×J8)):List Int:=es.toList.map (·.1)
section
variable {prog:Kz}{w:Lb}{A:KU}{E:J8->Kb->Prop}{s:Kb}
theorem AM {es:List (Int×J8)}(h:∀e∈es,IU e)(k:Int):(es.findIdx? (λe=>(intKind prog w).is k e.2)).isSome=decide (k∈es.map (·.1)):=by
 rw[NI];simp only[List.findIdx?_isSome,Su,decide_eq_true_eq,Ku]
 constructor
 ·rintro ⟨e,he,q⟩
  obtain⟨j,t,rfl,_,_⟩:=h e he;refine⟨_,he,?_⟩
  have:j=k:=by simpa [intKind,NS]using q
  exact this
 ·rintro ⟨e,he,q⟩
  obtain⟨j,t,rfl,_,_⟩:=h e he;refine⟨_,he,?_⟩
  simp only at q;simp[intKind,NS,q]
theorem IK {a:Addr}{es:Array (Int×J8)}{ep:Nat}{pl:List Nat}{L:Bool}{k:Int}{t:Tok}{Q:Bool->Kb->Prop}(h0:0<=k)(h1:k<100)
  (x:SetX s.heap a es ep pl L) (hr:pl.length<=3)
  (h:∀(b:Bool) h' es' ep' pl',Nz a s.heap h'->SetX h' a es' ep' pl' L->Nn (bV es') (if k∈bV es then bV es else bV es++ [k])->Q b { s with heap:=h' }) :
  wpAny (model prog w) A (setAddHashed a (.int k t) (hashInt k)) Q E s:=by
 have hel:=x6 (prog:=prog) (w:=w) x.ent
 have hb:es.size<scanBound:=by rw[x.len];unfold scanBound;omega
 have hkey:(intKind prog w).is k (Lj k t)=true:=by simp[intKind,NS]
 unfold setAddHashed setAddHashedIn;refine Ly (J5 (Ng x.at_ rfl x.fits ?_))
 dsimp only
 rw[byScan_of (knd:=intKind prog w) rfl hb hel];simp only[↓reduceIte];unfold setAddByScan;refine J5 (J5 (Nf (J5 (wpAny_setScan_of (knd:=intKind prog w) hkey x.at_ rfl x.fits hel ?_))))
 have hf:=AM (prog:=prog) (w:=w) x.ent k
 cases hi:List.findIdx? (λe=>(intKind prog w).is k e.2) es.toList with
 | some j=>
  rw[hi]at hf
  have hin:k∈bV es:=by unfold bV;simpa using hf.symm
  dsimp only
  refine Kd (Kd ?_)
  have e:s= { s with heap:=s.heap }:=by cases s;rfl
  have:=h false s.heap es ep pl (RH a s.heap) x (by rw[if_pos hin])
  rw[e];exact this
 | none=>
  rw[hi]at hf
  have hin:k∉bV es:=by unfold bV;simpa using hf.symm
  dsimp only
  obtain⟨n,rfl⟩:=LO h0;obtain⟨pl',es',e1,e2,e3,e4⟩:=FQ (L:=L) x.rise hr (h:=n) (by omega) x.len (Lj (n:Int) t)
  rw[nv h0 h1]
  have e1':layNew (tbl pl L) es ((n:Nat):Int) (Lj (n:Int) t)=(es',tbl pl' L,false,false):=e1;rw[e1']
  dsimp only
  have hl':es'.size=pl'.length:=by
   rw[<-KJ,e4.length_eq,e3];simp[x.len]
  have hent:∀e∈es'.toList,IU e:=by
   intro e he
   have:=e4.mem_iff.mp he;rw[Pp,Ls,KG]at this;rcases this with q | rfl
   ·exact x.ent e q
   ·exact⟨_,t,rfl,h0,h1⟩
  have hperm:Nn (bV es') (bV es++ [(n:Int)]):=by
   have:=e4.map (·.1)
   rw[Pp,LM]at this;exact this
  have hsz:es'.size<=sizeLine:=by rw[hl',e3,K7];omega
  have hnf:(tbl pl' L).tooFull=false:=zP (by omega)
  refine J5 (Kd ?_)
  have hpl:(tbl pl' L).plain=true:=rfl;rw[hpl];simp only[↓reduceIte];refine J5 ?_
  rw[hashByValue_scannable 8 rfl];refine Kd ?_
  have hpk:plainKind (Lj (n:Int) t)=true:=rfl;rw[hpk];simp only[↓reduceIte];refine J5 (wpAny_storeSet_of x.at_ rfl ?_ hsz)
  rw[hnf];simp only[Bool.and_false,Lq,↓reduceIte]
  have hg:(s.heap.update a (Obj.putSet es' (tbl pl' L))).get? a=some (kq es' (ep+1) pl' L):=
   L4 (Obj.putSet es' (tbl pl' L)) x.at_ rfl
  refine Kd (Kd (h true _ es' (ep+1) pl' (Mf ..) ⟨hg,e2,hl',by omega,hent⟩ ?_))
  rw[if_neg hin];exact hperm
end
theorem si_next:Slot "set_iterator" "__next__" "set_iterator.__next__":=.of (owner:="set_iterator") (n:="__next__") (by rw[OK,Na];kernel_rfl) (by decide+kernel) (by decide+kernel) (by decide+kernel) (by first | exact .inl (by decide+kernel) | exact .inr (by decide+kernel)) (by rw[N5];kernel_rfl)
theorem vJ:Slot "set_iterator" "__iter__" "set_iterator.__iter__":=.of (owner:="set_iterator") (n:="__iter__") (by rw[OK,Na];kernel_rfl) (by decide+kernel) (by decide+kernel) (by decide+kernel) (by first | exact .inl (by decide+kernel) | exact .inr (by decide+kernel)) (by rw[N5];kernel_rfl)
theorem rY:entryFor table "set_iterator.__next__" =some Builtin.«set_iterator.__next__»:=Sy (by kernel_rfl)
theorem vK (a:J8):argsOk "set_iterator.__next__" ⟨[a],[]⟩:=by unfold argsOk;kernel_rfl
theorem l7:entryFor table "set.__iter__" =some Builtin.«frozenset.__iter__»:=entryFor_alias (id':="frozenset.__iter__") (by kernel_rfl) rfl (by decide+kernel) (by kernel_rfl)
theorem n6:entryFor table "set_iterator.__iter__" =some Builtin.«dict_keyiterator.__iter__»:=entryFor_alias (id':="dict_keyiterator.__iter__") (by kernel_rfl) rfl (by decide+kernel) (by kernel_rfl)
theorem p7 (a:J8):argsOk "set_iterator.__iter__" ⟨[a],[]⟩:=by unfold argsOk;kernel_rfl
theorem oq:isSubtype (.type "set") (.type "set")=pure true:=by rw[N5];kernel_rfl
theorem vR {α:Type}(next:Nat->Nat):∀(fuel k:Nat) (left:List α) (out:Array α),left.length<=fuel->Nn (Sd next fuel k left out).toList (out.toList++left)
 | 0,k,left,out,h=>by
  have:left= []:=MV (by omega)
  subst this
  unfold Sd;simp
 | fuel+1,k,left,out,h=>by
  unfold Sd
  cases e:left[next k % left.length]? with
  | none=>
   have hl:left.length=0:=by
    have:=O6.mp e
    rcases Rr left.length with q | q
    ·exact q
    ·have:=RV (next k) q;omega
   have:left= []:=MV hl;subst this
   simp
  | some x=>
   dsimp only
   obtain⟨hlt,ex⟩:=Km.mp e
   have ih:=vR next fuel (k+1) (left.eraseIdx (next k % left.length)) (out.push x) (by rw[List.length_eraseIdx];split <;> omega)
   refine ih.trans ?_
   rw[Pp,Lx];refine List.Perm.append_left _ ?_
   rw[NW]
   have e2:left=left.take (next k % left.length)++x::left.drop (next k % left.length+1):=by
    conv=>lhs;rw[<-Oc (next k % left.length) left]
    rw[LG hlt,ex]
   conv=>rhs;rw[e2]
   rw[Qj];exact(List.perm_middle).symm
theorem xF {α:Type}(next:Nat->Nat)(xs:Array α):Nn (Td next xs).toList xs.toList:=by
 have:=vR next xs.size 0 xs.toList #[] (by simp)
 simpa [Td]using this
def IsSetIter (h:Heap)(it a:Addr)(sl i n ep:Nat):Prop:=∃o,h.get? it=some o/\o.cls= .type "set_iterator"/\o.data= .fields #[.int sl 0,.int i 0,.ref a,.int n 0,.int ep 0]
theorem IsSetIter.typ {s:Kb}{it a:Addr}{sl i n ep:Nat}(x:IsSetIter s.heap it a sl i n ep):s.TypeIs (.ref it) "set_iterator":=let ⟨o,ho,hc,_⟩:=x;⟨o,ho,hc⟩
def jG (w:Lb):Bool:=w.params.followText "set-order"
def eK (w:Lb)(a:Addr)(ep:Nat)(es:Array (Int×J8)):Array (Int×J8):=if jG w then Td (w.params.setOrder a ep) es else es
theorem gh (w:Lb)(a:Addr)(ep:Nat)(es:Array (Int×J8)):Nn (eK w a ep es).toList es.toList:=by
 unfold eK;split
 ·exact xF _ _
 ·exact .rfl
def c7 (B:Bool)(pl:List Nat):Nat->Nat
 | 0=>0
 | j+1=>if B then 0 else pl.getD j 0+1
theorem uw {pl:List Nat}(hs:pl.Pairwise (· < ·)):∀{i:Nat},i<=pl.length->Kt pl.toArray (c7 false pl i)=i
 | 0,_=>uf hs
 | j+1,h=>by
  have hj:j<pl.length:=by omega
  have e:pl[j]? =some pl[j]:=Kf hj
  have e2:c7 false pl (j+1)=pl[j] +1:=by simp[c7,hj]
  rw[e2];exact ve hs e
section
variable {prog:Kz}{w:Lb}{A:KU}{E:J8->Kb->Prop}{s:Kb}
theorem p9 {a:Addr}{es:Array (Int×J8)}{ep:Nat}{pl:List Nat}{L:Bool}{Q:Array (Int×J8)->Kb->Prop}(x:SetX s.heap a es ep pl L)(hB:jG w=true)
  (h:Q (eK w a ep es) s):wpAny (model prog w) A (setWalk a) Q E s:=by
 unfold setWalk;refine J5 (Ng x.at_ rfl x.fits ?_)
 dsimp only
 unfold setsByText;refine J5 (J5 (Nu (Kd ?_)))
 show wpAny _ _ (if (jG w)=true then _ else _) _ _ _
 rw[hB,if_pos rfl];refine J5 (Nu (Kd ?_))
 unfold eK at h;rw[hB,if_pos rfl]at h;exact h
theorem l8 {a:Addr}{es:Array (Int×J8)}{ep i:Nat}{pl:List Nat}{Q:Option (J8×Nat)->Kb->Prop}(x:SetX s.heap a es ep pl (!jG w))(hi:i<=es.size)
  (h:Q ((eK w a ep es)[i]?.map λe=>(e.2,c7 (jG w) pl (i+1))) s):wpAny (model prog w) A (setNext a (c7 (jG w) pl i) i ep) Q E s:=by
 unfold setNext;refine J5 (Ng x.at_ rfl x.fits ?_)
 dsimp only
 unfold setsByText;refine J5 (J5 (Nu (Kd ?_)))
 show wpAny _ _ (if (jG w)=true then _ else _) _ _ _
 cases hB:jG w with
 | true=>
  rw[if_pos rfl,if_neg (by simp)]
  refine J5 (p9 x hB (Kd ?_))
  rw[hB]at h
  have e0:c7 true pl i=c7 true pl (i+1):=by cases i <;> rfl
  rw[e0]
  exact h
 | false=>
  rw[if_neg (by simp)]
  rw[hB]at x h
  show wpAny _ _ (if (false&&decide (es.size > 1))=true then _ else _) _ _ _
  rw[if_neg (by simp)]
  refine J5 ?_
  show wpAny _ _ (if (!(tbl pl (!false)).led&& !es.isEmpty)=true then _ else _) _ _ _
  rw[if_neg (by simp[tbl])]
  refine Kd (Kd ?_)
  have ep1:(tbl pl (!false)).place=pl.toArray:=rfl;rw[ep1,uw x.rise (by rw[<-x.len];exact hi)]
  have eo:eK w a ep es=es:=by unfold eK;rw[hB];rfl
  rw[eo]at h;rcases MM i es.size with q | q
  ·have q2:i<pl.length:=by rw[<-x.len];exact q
   have e1:es[i]? =some es[i]:=MA q
   have e2:pl.toArray[i]? =some pl[i]:=by simp[q2]
   have e3:c7 false pl (i+1)=pl[i] +1:=by simp[c7,q2]
   rw[e1,e3]at h;rw[e1,e2];exact h
  ·have e1:es[i]? =none:=MY q
   rw[e1]at h;rw[e1];exact h
theorem xO {it a:Addr}{es:Array (Int×J8)}{ep i:Nat}{pl:List Nat}{e:Int×J8}{Q:Option J8->Kb->Prop}(hit:IsSetIter s.heap it a (c7 (jG w) pl i) i es.size ep)
  (x:SetX s.heap a es ep pl (!jG w)) (hi:i<=es.size) (he:(eK w a ep es)[i]? =some e)
  (hQ:∀h',IsSetIter h' it a (c7 (jG w) pl (i+1)) (i+1) es.size ep->Nz it s.heap h'->Q (some e.2) { s with heap:=h' }) :
  wpAny (model prog w) A (pyNext (.ref it)) Q E s:=by
 obtain⟨o,ho,hc,hd⟩:=id hit;unfold pyNext;refine J5 (Ou (Lh (name:=Kr "__next__") hit.typ si_next (Ln si_next hit.typ rY ?_ (vK _))))
 refine J5 (Kd ?_)
 refine J5 (wpAny_fieldsOf ho hd ?_)
 dsimp only
 refine J5 (OL x.at_ rfl x.fits ?_)
 rw[if_neg (by simp)]
 simp only[K0];refine J5 (l8 x hi ?_)
 rw[he]
 dsimp only[Option.map]
 refine J5 (N4 ho hd (by simp) ?_)
 have g1:(s.heap.update it (Obj.mapFields (·.setIfInBounds 0 (rawInt (c7 (jG w) pl (i+1)))))).get? it=some (Obj.mapFields (·.setIfInBounds 0 (rawInt (c7 (jG w) pl (i+1)))) o):=
  L4 _ ho (Ob (Mt hd _))
 have d1:=Mt hd (·.setIfInBounds 0 (rawInt (c7 (jG w) pl (i+1))))
 refine J5 (N4 g1 d1 (by simp) ?_)
 refine Kd ⟨_,rfl,Kd (hQ _ ?_ ?_)⟩
 ·refine⟨_,L4 _ g1 (Ob (Mt d1 _)),((Pk ..).trans (Pk ..)).trans hc,?_⟩
  rw[Mt d1];simp[rawInt]
 ·exact(Mf ..).trans (Mf ..)
theorem zV {it a:Addr}{es:Array (Int×J8)}{ep:Nat}{pl:List Nat}{Q:Option J8->Kb->Prop}(hh:A.handled=none)(hit:IsSetIter s.heap it a (c7 (jG w) pl es.size) es.size es.size ep)
  (x:SetX s.heap a es ep pl (!jG w))
  (hQ:∀h',SL it s.heap h'->Q none { s with heap:=h' }) :
  wpAny (model prog w) A (pyNext (.ref it)) Q E s:=by
 obtain⟨o,ho,hc,hd⟩:=id hit;unfold pyNext;refine J5 (Ou (Lh (name:=Kr "__next__") hit.typ si_next (Ln si_next hit.typ rY ?_ (vK _))))
 refine J5 (Kd ?_)
 refine J5 (wpAny_fieldsOf ho hd ?_)
 dsimp only
 refine J5 (OL x.at_ rfl x.fits ?_)
 rw[if_neg (by simp)]
 simp only[K0];refine J5 (l8 x (Ki _) ?_)
 have he:(eK w a ep es)[es.size]? =none:=by
  apply MY
  rw[<-KJ,(gh w a ep es).length_eq];simp
 rw[he]
 dsimp only[Option.map]
 refine J5 (N4 ho hd (by simp) ?_)
 refine J5 ?_
 simp only[newExc,newTuple];refine J5 (KR ?_ (by size_fits))
 refine J5 (m:=Pc _ _) (S1 (a:=K6) (by first | rfl | (simp only[Pc];rfl)) ?_)
 refine KR ?_ (by size_fits)
 simp only[raiseNew];refine J5 (wpAny_handled ?_)
 rw[show A.in1.handled=none from hh]
 refine J5 (Kd (wpAny_throw ?_))
 refine  J5 (P5 (T:="StopIteration") (b:=true) ⟨_,Kn _ rfl,rfl⟩ isSubtype_stop ?_)
 exact Kd (hQ _ (((Mf ..).extBut.push _).push _))
theorem xW {it a:Addr}{sl i n ep:Nat}{Q:J8->Kb->Prop}(hit:IsSetIter s.heap it a sl i n ep)(h:Q (.ref it) s):wpAny (model prog w) A (pyIter (.ref it)) Q E s:=by
 refine R7 hit.typ vJ (Ln vJ hit.typ n6 ?_ (p7 _))
 show wpAny _ _ (ret (.ref it)) _ _ s
 exact Kd ⟨_,rfl,"set_iterator",_,hit.typ,si_next.lookup,h⟩
theorem Ax {a:Addr}{es:Array (Int×J8)}{ep:Nat}{pl:List Nat}{L:Bool}{Q:J8->Kb->Prop}(x:SetX s.heap a es ep pl L)
  (hQ:Q (.ref s.heap.objs.size) { s with heap:=s.heap.push { cls:=.type "set_iterator",data:=.fields #[.int 0 0,.int 0 0,.ref a,.int es.size 0,.int ep 0] } }) :
  wpAny (model prog w) A (pyIter (.ref a)) Q E s:=by
 refine R7 x.typ SR (Ln SR x.typ l7 ?_ (F.args_set_iter_1 _))
 unfold Builtin.«frozenset.__iter__» Builtin.Frozenset.slot0 slotArgs;simp only[List.isEmpty_nil,Bool.not_true,Lq,↓reduceIte,bind_assoc,Ql,bne_self_eq_false];unfold Builtin.Frozenset.addrOf Builtin.Frozenset.sizeOf;refine J5 (Kd ?_)
 try dsimp only
 refine J5 (Kd ?_)
 refine J5 (J5 (OL x.at_ rfl x.fits (Kd ?_)))
 unfold setDrawn;refine J5 (J5 (Ng x.at_ rfl x.fits ?_))
 dsimp only
 unfold setsByText;refine J5 (J5 (Nu (Kd (Kd ?_))))
 have e0:∀b:Bool,(!b&&(false&&decide (es.size > 1)))=false:=by intro b;cases b <;> rfl
 show wpAny _ _ (if (!(jG w)&&(false&&decide (es.size > 1)))=true then _ else _) _ _ _
 rw[e0];rw[if_neg (by simp)]
 refine J5 (Kd ?_)
 unfold setEpoch;refine J5 (J5 (Ng x.at_ rfl x.fits (Kd ?_)))
 refine J5 (KR (Kd ⟨_,rfl,"set_iterator",_,⟨_,Kn _ rfl,rfl⟩,si_next.lookup,?_⟩))
 simpa [rawInt]using hQ
theorem yJ {a I:Addr}{es:Array (Int×J8)}{ep:Nat}{pl:List Nat}(hh:A.handled=none)(hne:a≠I) :
  WalksS prog w A I [I,a] [I] (λx y=>y=x) es.size (λi v=>(eK w a ep es)[i]?.map (·.2)=some v) (λi s=>IsSetIter s.heap I a (c7 (jG w) pl i) i es.size ep/\SetX s.heap a es ep pl (!jG w)) where
 sub:=λb hb=>by simp at hb;simp[hb]
 grefl:=λ_=>rfl
 gtrans:=λ_ _ _ h1 h2=>h2.trans h1
 frame:=λi s h' tk st _ hk=>⟨let ⟨o,ho,r⟩:=st.1;⟨o,hk I (by simp) o ho,r⟩,st.2.keep λo e=>hk a (by simp) o e⟩
 item:=λi s Q E hi st hQ=>by
  have hs:(eK w a ep es).size=es.size:=by rw[<-KJ,(gh w a ep es).length_eq];simp
  have he:(eK w a ep es)[i]? =some (eK w a ep es)[i]:=MA (by omega)
  refine xO st.1 st.2 (by omega) he λh' hit hsb=> ?_
  refine hQ _ _ (by rw[he];rfl) ⟨hit,st.2.keep λo e=>(hsb.extBut a o hne e)⟩ ⟨λb o hb e=>hsb.extBut b o (λq=>hb (by simp[q])) e,rfl,rfl,rfl,Ki _⟩
 done:=λs Q E st hQ=>zV hh st.1 st.2 λh' hx=>hQ _ ⟨λb o hb e=>hx b o (λq=>hb (by simp[q])) e,rfl,rfl,rfl,Ki _⟩
 self:=λi s Q E st hQ=>xW st.1 hQ
end
section
variable {prog:Kz}{w:Lb}{A:KU}{E:J8->Kb->Prop}{s:Kb}
theorem AD {a:Addr}{es:Array (Int×J8)}{ep:Nat}{pl:List Nat}{L:Bool}{Q:Bool->Kb->Prop}(x:SetX s.heap a es ep pl L)(h:Q false s) :
  wpAny (model prog w) A (Oz (.ref a)) Q E s:=by
 unfold Oz;refine J5 (S2 x.typ F.slot_set_len.lookup ?_)
 have e:splitId "set.__len__" =some ("set","__len__"):=by decide+kernel
 simp only[e];refine J5 (P5 x.typ oq ?_)
 rw[if_neg (by simp)]
 rw[if_pos (by decide+kernel)]
 exact J5 (MN x.typ (Kd h))
theorem ua {a:Addr}{es:Array (Int×J8)}{ep:Nat}{pl:List Nat}{Q:List J8->Kb->Prop}(hh:A.handled=none)(x:SetX s.heap a es ep pl (!jG w))
  (h:∀vs s',Moved [] (λx y=>y=x) s s'->vs=(eK w a ep es).toList.map (·.2)->Q vs s'):wpAny (model prog w) A (collect (.ref a)) Q E s:=by
 unfold collect;refine J5 (wpAny_runValue (LQ F.entry_proto_collect ?_))
 rw[Lp F.plain_proto_collect _]
 show wpAny _ A.in1 (newList [] >>= λl=>again (.builtin "list.__iadd__" ⟨[l,.ref a],[]⟩)) _ _ s
 refine J5 (KR ?_)
 refine Kd ⟨MR RW _,LQ F.entry_list_iadd ?_⟩
 rw[Lp RW _]
 have ha:a<s.heap.objs.size:=Kk x.at_
 generalize hH:s.heap.push { cls:=.type "list",data:=.seq ([]:List J8).toArray }=H1
 have hH1:H1.objs.size=s.heap.objs.size+1:=by rw[<-hH,Mc]
 have x1:SetX H1 a es ep pl (!jG w):=x.keep λo e=>by rw[<-hH];exact Kc _ e
 show wpAny _ A.in1 (OA (.ref s.heap.objs.size) (.ref a) (.ref s.heap.objs.size)) _ _ _
 unfold OA;refine J5 (MN (SetX.typ (s:={ s with heap:=H1 }) x1) ?_)
 have h1:Pg (.ref s.heap.objs.size) (.ref a)=false:=by
  simp[Pg];exact LC ha
 have h2:(LU "set" == LU "list")=false:=by decide
 have h3:(LU "set" == LU "tuple")=false:=by decide
 simp only[h1,h2,h3,Bool.or_false,Lq,if_false];refine J5 (Ax (s:={ s with heap:=H1 }) x1 ?_)
 generalize hH2:H1.push { cls:=.type "set_iterator",data:=.fields #[.int 0 0,.int 0 0,.ref a,.int es.size 0,.int ep 0] }=H2
 have x2:SetX H2 a es ep pl (!jG w):=x1.keep λo e=>by rw[<-hH2];exact Kc _ e
 refine J5 (Ly (AD (s:={ s with heap:=H2 }) x2 ?_))
 rw[if_pos (by decide+kernel)]
 refine J5 (Nf ?_)
 have hLI:s.heap.objs.size≠H1.objs.size:=by rw[hH1];exact Ky (MT _)
 have hS1:H2.get? s.heap.objs.size=some { cls:=.type "list",data:=.seq ([]:List J8).toArray }:=by
  rw[<-hH2];refine Kc _ ?_;rw[<-hH];exact Kn _ rfl
 have hI1:H2.get? H1.objs.size=some { cls:=.type "set_iterator",data:=.fields #[.int 0 0,.int 0 0,.ref a,.int es.size 0,.int ep 0] }:=by
  rw[<-hH2];exact Kn _ rfl
 refine J5 ?_
 show wpAny _ A.in1 (updateSeq s.heap.objs.size (·.push .none) >>= λ_=>updateSeq s.heap.objs.size (·.pop)) _ _ _
 refine J5 (S5 hS1 rfl ?_)
 have hS2:=L4 (K1 (·.push K6)) hS1 rfl
 refine S5 hS2 rfl ?_
 have hS3:=L4 (K1 (·.pop)) hS2 rfl
 generalize hH3:(H2.update s.heap.objs.size (K1 (·.push K6))).update s.heap.objs.size (K1 (·.pop))=H3 at hS3 ⊢
 have oth:∀b o,b≠s.heap.objs.size->H2.get? b=some o->H3.get? b=some o:=λb o hb e=>by
  rw[<-hH3];exact(NQ _ _ (O5 hb)).trans ((NQ _ _ (O5 hb)).trans e)
 have hn:es.size<=sizeLine:=by rw[x.len,K7];have:=x.few;omega
 have hne:a≠H1.objs.size:=by rw[hH1];exact Ky (Lc ha)
 refine Kd ⟨MR F.plain_extend_loop _,codeAny_extend_loopS (yJ (pl:=pl) (ep:=ep) (es:=es) (by simpa using hh) hne) hn _ ?_ _ es.size 0 _ #[] _ rfl (K3 _)
  ⟨⟨_,oth _ _ (O5 hLI) hI1,rfl,rfl⟩,x2.keep λo e=>oth a o (Ky ha) e⟩ hS3 (ItemsOf.nil _) λs' acc c hm hS' hacc=> ?_⟩
 ·simp only[Ko,Ll,or_false,not_or]
  exact⟨hLI,LC ha⟩
 show wpAny _ A (load s.heap.objs.size >>= _) _ _ s'
 refine J5 (wpAny_load hS' ?_)
 refine Kd (h _ _ ⟨λb o hb e=> ?_,hm.gens,hm.drawn,hm.os,hm.toks⟩ ?_)
 ·have hlt:b<s.heap.objs.size:=Kk e
  refine hm.heap b o ?_ (oth b o (Ky hlt) ?_)
  ·simp only[Ko,Ll,or_false,not_or]
   exact⟨Ky hlt,by show ¬b=H1.objs.size;rw[hH1];exact Ky (Lc hlt)⟩
  ·rw[<-hH2];refine Kc _ ?_;rw[<-hH];exact Kc _ e
 ·obtain⟨h1,h2⟩:=hacc
  have hs:(eK w a ep es).size=es.size:=by rw[<-KJ,(gh w a ep es).length_eq];simp
  apply Pj
  intro j;rcases MM j acc.size with q | q
  ·have:=h2 j acc[j] (MA q)
   rw[Mv,MA q,Kv,Mv]
   exact this.symm
  ·rw[Mv,MY q,Kv,Mv,MY (by omega)];rfl
end
def FJ (ns:List Int):List Int:=ns.foldl (λσ k=>if k∈σ then σ else σ++ [k]) []
def kC (val:Nat->Int)(i:Nat):List Int:=FJ ((J7 i).map val)
theorem o7 (val:Nat->Int)(i:Nat):kC val (i+1)=if val i∈kC val i then kC val i else kC val i++ [val i]:=by
 unfold kC FJ;rw[MI,LM,List.foldl_append];rfl
theorem tF (val:Nat->Int):∀i,(kC val i).length<=i
 | 0=>Ki _
 | i+1=>by
  rw[o7]
  have:=tF val i;split
  ·omega
  ·rw[Kw];simp;omega
section
variable {prog:Kz}{w:Lb}{A:KU}{R:Result->Kb->Prop}{I:Addr}{fp wr:List Addr}{G:Array SE->Array SE->Prop}{n:Nat}{P:Nat->J8->Prop}{St:Nat->Kb->Prop}
theorem yL {L:Bool}(W:WalksS prog w A.in1 I fp wr G n P St)(S:Addr)(hS:S∉fp)(val:Nat->Int)(hv:∀i v,P i v->∃t,v= .int (val i) t)(hsm:∀i,i<n->0<=val i/\val i<100)(hn:n<=4) :
  ∀(k i:Nat) (s:Kb) (es:Array (Int×J8)) (ep:Nat) (pl:List Nat),n - i=k->i<=n->St i s->SetX s.heap S es ep pl L->Nn (bV es) (kC val i) →
   (∀s' es' ep' pl',Moved (S::wr) G s s'->SetX s'.heap S es' ep' pl' L->Nn (bV es') (kC val n)->R (.ok (.ret .none)) s') →
   codeAny (model prog w) A (.builtin "set.update.loop" ⟨[.ref S,.ref I],[]⟩) R s:=by
 have hw:S∉wr:=λh=>hS (W.sub _ h)
 have hsub:∀b∈wr,b∈S::wr:=λb hb=>Ka _ hb
 intro k
 induction k with
 | zero=>
  intro i s es ep pl hk hi hst x hp hR
  have hin:i=n:=by omega
  subst hin;refine LQ Nm ?_
  rw[Lp Mb _]
  show wpAny _ A.in1 (pyNext (.ref I) >>= _) _ _ s
  refine J5 (W.done s _ _ hst λs' hm=> ?_)
  show wpAny _ A.in1 (ret K6) _ _ s'
  exact Kd (hR s' es ep pl (hm.mono hsub) (x.keep λo e=>hm.heap S o hw e) hp)
 | succ k ih=>
  intro i s es ep pl hk hi hst x hp hR
  have hlt:i<n:=by omega
  refine LQ Nm ?_
  rw[Lp Mb _]
  show wpAny _ A.in1 (pyNext (.ref I) >>= _) _ _ s
  refine J5 (W.item i s _ _ hlt hst λv s' hP hst' hm=> ?_)
  obtain⟨t,rfl⟩:=hv i v hP
  have x':SetX s'.heap S es ep pl L:=x.keep λo e=>hm.heap S o hw e
  have hlen:pl.length<=3:=by
   have a1:=hp.length_eq
   have a2:=tF val i
   have a3:(bV es).length=es.size:=by simp[bV]
   have a4:=x.len;omega
  show wpAny _ A.in1 (holding [Lj (val i) t] (setAdd S (.int (val i) t)) >>= _) _ _ s'
  refine J5 (Ly ?_)
  unfold setAdd;refine Ly ?_
  refine J5 ((intKind prog w).pyHash (k:=val i) (by simp[intKind,NS]) ?_)
  refine IK (s:={ s' with toks:=s'.toks+1 }) (hsm i hlt).1 (hsm i hlt).2 x' hlen λb h' es' ep' pl' hsb x2 hp2=> ?_
  have hp3:Nn (bV es') (kC val (i+1)):=by
   rw[o7]
   by_cases hin:val i∈bV es
   ·rw[if_pos hin]at hp2
    rw[if_pos (hp.mem_iff.mp hin)];exact hp2.trans hp
   ·rw[if_neg hin]at hp2
    rw[if_neg (λq=>hin (hp.mem_iff.mpr q))]
    exact hp2.trans (hp.append_right _)
  refine Kd ⟨MR Mb _,ih (i+1) _ es' ep' pl' (by omega) hlt (W.frame _ s' _ _ hst' (NX _) λb hb o e=> ?_) x2 hp3 λs'' es2 ep2 pl2 hm'' x3 hp4=> ?_⟩
  ·rw[hsb.2 b (λh:b=S=>hS (by rw[<-h];exact hb))];exact e
  ·refine hR s'' es2 ep2 pl2 (Moved.trans W.gtrans ((hm.mono hsub).then_heap (NX _) λb o hb e=> ?_) hm'') x3 hp4
   rw[hsb.2 b (λh:b=S=>hb (by rw[h];exact Kg))];exact e
end
section
variable {prog:Kz}{w:Lb}{A:KU}{E:J8->Kb->Prop}{s:Kb}
theorem BY (a:J8){Q₁:J8->Kb->Prop}
  (h:Q₁ (.ref s.heap.objs.size) { s with heap:=s.heap.push (kq #[] 0 [] (!jG w)) }) :
  codeAny (model prog w) A (.call (.builtin "set.__new__") ⟨[.type "set",a],[]⟩) (wants Q₁ E) s:=by
 refine S6 ?_
 show wpAny _ A.in1 (do checkBuiltinCall "set.__new__" ⟨[.type "set",a],[]⟩;again (.builtin "set.__new__" ⟨[.type "set",a],[]⟩)) _ _ s
 refine J5 (S1 (F.newCall_set_1 a) (Kd ⟨MR SS _,LQ F.entry_set_new ?_⟩))
 rw[Lp SS _];unfold Builtin.«set.__new__» Builtin.Frozenset.newClass
 have hsub:=sub_set_self;obtain⟨hp,g,d,tk,os⟩:=s
 dsimp only
 wp_walk
 refine Nu (Kd ?_)
 dsimp only
 simp only[newObj];refine J5 (wpAny_alloc (Kd ?_))
 exact Kd h
end
section
variable {prog:Kz}{w:Lb}{A:KU}{E:J8->Kb->Prop}{s:Kb}
theorem Es:isSubtype (.type "list") (.type "set")=pure false:=by rw[N5];kernel_rfl
theorem Et:isSubtype (.type "list") (.type "frozenset")=pure false:=by rw[N5];kernel_rfl
theorem yp {l:Addr}{items:Array J8}{ns:List Int}{Q:J8->Kb->Prop}
  (hh:A.handled=none) (hl:s.heap.IsList l items) (hi:Te items.toList ns) (hb:items.size<=4) (hsm:∀i,i<items.size->0<=ns.getD i 0/\ns.getD i 0<100)
  (h:∀(h':Heap) (tk:Nat) es ep pl,SetX h' s.heap.objs.size es ep pl (!jG w)->Nn (bV es) (kC (λi=>ns.getD i 0) items.size) →
   (∀b o,b<s.heap.objs.size->s.heap.get? b=some o->h'.get? b=some o)->s.toks<=tk->Q (.ref s.heap.objs.size) { s with heap:=h',toks:=tk }) :
  wpAny (model prog w) A (call (.type "set") [.ref l]) Q E s:=by
 obtain⟨c,tl,hmro⟩:=M9.mro
 have hmade:=M9.made
 have hsub:=M9.sub;refine RZ (S6 ?_)
 show wpAny _ _ (callAny (.type "set") _) _ _ _
 refine Kd ⟨Code.quiet_builtin _ (by decide+kernel),LQ F.entry_type_call ?_⟩
 rw[Around.under_plain (weight_type_call_type "set" [.ref l] []) rfl]
 have h1:=M9.notType
 have h2:=M9.canCreate
 have hct:=F.typeCall_set_1 (.ref l)
 repeat (any_goals (first | assumption | wp_step))
 refine ND (BY (.ref l) (E:=E) (Q₁:=λobj s₁=>obj= .ref s.heap.objs.size/\s₁= { s with heap:=s.heap.push (kq #[] 0 [] (!jG w)) }) ⟨rfl,rfl⟩) λr s₁ hr=> ?_
 cases r with
 | error e=>exact hr
 | ok fl=>
  cases fl with
  | ret obj=>
   obtain⟨rfl,rfl⟩:=hr
   generalize hH:s.heap.push (kq #[] 0 [] (!jG w))=H1
   have hH1:H1.objs.size=s.heap.objs.size+1:=by rw[<-hH,Mc]
   have hS:H1.get? s.heap.objs.size=some (kq #[] 0 [] (!jG w)):=by rw[<-hH];exact Kn _ rfl
   have hT:Shared.TypeIs { s with heap:=H1 } (.ref s.heap.objs.size) "set":=⟨_,hS,rfl⟩
   have hli:=M9.init.lookup
   have hbi:=M9.init.bind (.ref s.heap.objs.size)
   repeat (any_goals (first | assumption | wp_step))
   refine ND (QM (R:=wants (λr s₂=>r= .none/\∃h' tk es ep pl,s₂= { s with heap:=h',toks:=tk }/\SetX h' s.heap.objs.size es ep pl (!jG w)/\Nn (bV es) (kC (λi=>ns.getD i 0) items.size) ∧
     (∀b o,b<s.heap.objs.size->s.heap.get? b=some o->h'.get? b=some o)/\s.toks<=tk) E) M9.init.plain F.entry_set_init (check_set_init_1 hT ?_)) λr₂ s₂ hr₂=> ?_
   ·obtain⟨ol,hol,hcl,nl,hdl⟩:=hl
    obtain⟨ocls,odict,odata,oslots⟩:=ol;simp only at hcl hdl;subst hcl;subst hdl
    have hol':H1.get? l=some { cls:=.type "list",dict:=odict,data:=.seq items nl,slots:=oslots }:=by rw[<-hH];exact Kc _ hol
    have hsls:=Es
    have hslf:=Et
    have hne:(LU "list" == LU "dict")=false:=by decide
    have hl1:H1.IsList l items:=⟨_,hol',rfl,nl,rfl⟩;unfold Builtin.«set.__init__» noKeywords SA
    generalize hPI:pyIter=PI
    wp_walk
    subst hPI;refine NZ hl1 ?_
    refine J5 (wpAny_runValue ?_)
    have hlS:l<s.heap.objs.size:=Kk hol
    have hh3:A.in1.in1.in1.handled=none:=by simp[hh]
    have hneI:l≠H1.objs.size:=by rw[hH1];exact Ky (Lc hlS)
    have hSf:s.heap.objs.size∉ [H1.objs.size,l]:=by
     simp only[Ko,KG,Ll,or_false,not_or];exact⟨by rw[hH1];exact Ky (MT _),LC hlS⟩
    have hval:∀(i:Nat) (v:J8),items[i]? =some v->∃t,v= .int ((λi=>ns.getD i 0) i) t:=λi v hv=>
     PyProof.Rows.IntsAre.int_at hi i v (by rw[Mv];exact hv)
    refine yL (L:=!jG w) ((Walks.list hh3 _ l hneI items).toS) s.heap.objs.size hSf (λi=>ns.getD i 0) hval hsm hb (items.size - 0) 0 _ #[] 0 [] (by omega) (K3 _)
     ⟨⟨_,Kn _ rfl,rfl,rfl⟩,(hl1.push _)⟩ ?hS0 .rfl ?hR
    case hS0=>
     exact⟨Kc _ hS,Pe,rfl,by simp,λe he=>by simp at he⟩
    case hR=>
     intro s' es' ep' pl' hm x' hp';obtain⟨h',g',d',tk',os'⟩:=s'
     have eg:g'=s.gens:=hm.gens
     have ed:d'=s.drawn:=hm.drawn
     have eo:os'=s.os:=hm.os
     have et:s.toks<=tk':=hm.toks;subst eg;subst ed;subst eo
     show wpAny _ _ _ _ _ _
     refine Kd ?_
     show wpAny _ _ (ret K6) _ _ _
     refine Kd ⟨rfl,h',tk',es',ep',pl',rfl,x',hp',λb o hb e=> ?_,et⟩
     refine hm.heap b o ?_ (Kc _ (by rw[<-hH];exact Kc _ e))
     simp only[Ko,KG,Ll,or_false,not_or];exact⟨Ky hb,by rw[hH1];exact Ky (Lc hb)⟩
   ·cases r₂ with
    | error e=>exact hr₂
    | ok fl₂=>
     cases fl₂ with
     | ret r=>
      obtain⟨rfl,h',tk,es,ep,pl,rfl,x',hp',hk',et⟩:=hr₂
      repeat (any_goals (first | assumption | wp_step))
      exact h _ _ es ep pl x' hp' hk' et
     | _=>exact hr₂.elim
  | _=>exact hr.elim
end
end Tr
namespace Tr
open PySem PyProof.Rows
section
variable {prog:Kz}{w:Lb}{A:KU}{E:J8->Kb->Prop}{s:Kb}
theorem AU {l:List (Int×J8)}(h:∀e∈l,IU e):LI (l.map (·.2)) (l.map (·.1)):=by
 induction l with
 | nil=>exact .nil
 | cons e r ih=>
  obtain⟨k,t,rfl,_,_⟩:=h e Kg;exact .cons k t (ih λe he=>h e (Ka _ he))
theorem uu {a:Addr}{es:Array (Int×J8)}{ep:Nat}{pl:List Nat}{Q:J8->Kb->Prop}(hh:A.handled=none)(x:SetX s.heap a es ep pl (!jG w))
  (h:∀(p:Addr) (out:Array J8) (ns:List Int) (h1 h':Heap) (tk n:Nat),(∀b o,s.heap.get? b=some o->h1.get? b=some o)->h1.objs.size<=p->(∀b o,h1.get? b=some o->h'.get? b=some o)->h'.get? p=some (seqObj "list" out n) →
   LI out.toList ns->ns.Perm (bV es)->ns.Pairwise (·<=·)->s.toks<=tk->Q (.ref p) { s with heap:=h',toks:=tk }) :
  wpAny (model prog w) A (call (.builtin "sorted") [.ref a]) Q E s:=by
 refine O8 S7 Si Sj (args_sorted1 _) ?_
 unfold Builtin.«sorted»;refine J5 (m:=checkCount "sorted" 1 1 _) (Kd ?_)
 refine J5 (ua (by simpa using hh) x λvs s' hm hvs=> ?_)
 have hI:LI vs ((eK w a ep es).toList.map (·.1)):=by
  rw[hvs];exact AU λe he=>x.ent e ((gh w a ep es).mem_iff.mp he)
 have h64:vs.length<64:=by
  rw[hvs,Kh,(gh w a ep es).length_eq,KJ,x.len]
  have:=x.few;omega
 refine J5 (PU ?_ (by rw[K7];omega))
 have hoL:(s'.heap.push (seqObj "list" vs.toArray 0)).get? s'.heap.objs.size=some (seqObj "list" vs.toArray 0):=Kn _ rfl
 refine J5 (Ly (Ln QU ⟨_,hoL,rfl⟩ Qw (list_sort_tree hoL hI h64 λout ns' a1 a2 a3=>⟨_,rfl,?_⟩) (args_list_sort _)))
 obtain⟨n,hn⟩:=sortedHeap_at (out:=out) hoL;obtain⟨hp',g',d',tk',os'⟩:=s'
 have eg:g'=s.gens:=hm.gens
 have ed:d'=s.drawn:=hm.drawn
 have eo:os'=s.os:=hm.os
 have et:s.toks<=tk':=hm.toks;subst eg;subst ed;subst eo;refine Kd ⟨_,rfl,h _ out ns' hp' _ tk' n (λb o e=>hm.heap b o (by simp) e) (Ki _) (λb o e=> ?_) hn a1 (a2.trans ((gh w a ep es).map _)) a3 et⟩
 have hlt:b<hp'.objs.size:=Kk e
 show(sortedHeap (hp'.push (seqObj "list" vs.toArray 0)) hp'.objs.size vs out).get? b=some o
 rw[sortedHeap_old (Ky hlt) (by rw[QD];exact Lc hlt)]
 exact Kc _ e
end
end Tr
namespace L2
open PySem PySem.Spec PyProof.Rows PySem.W
def Jk (K:Frag)(mg:Str->Option J8):Prop:=∃bm ob,mg "__builtins__" =some (.ref bm)/\bm≠NC/\bm≠KF/\K.lookup bm=some ob/\ob.cls= .type "module"/\ob.dict=some NC/\ob.data= .plain
theorem vg {pos pos':Pos}{c v:J8}(l:List J8)(h:TriplesOk l):Pt pos' (l++ [rawInt pos.line,rawInt pos.col,c])=some v->Pt pos' l=some v\/v=c:=by
 fun_induction TriplesOk l with
 | case1=>
  intro e;simp only[M5,Pt,rawInt]at e
  split at e
  ·exact .inr (KO e).symm
  ·cases e
 | case2 a t b u x ck ih=>
  intro e;simp only[Sv,Pt]at e ⊢
  split at e
  ·rename_i hc;rw[if_pos hc];exact .inl e
  ·rename_i hc;rw[if_neg hc];exact ih h e
 | case3 l h1 h2=>exact h.elim
section
variable {X:Cx}{pins:List (Addr×Obj)}{σ:List (Option V)}{H:Hp}{s:Kb}
def IT (H:Hp)(P:Addr)(h:Heap)(mg:Str->Option J8)(q:Str)(params:Of)(body:Expr)(scope:NN)(f:Addr):Prop:=∃c ctv,h.get? f=some (kla_obj "<lambda>" q params body scope [] ((mg "__name__").getD .none) c ctv)/\h.CodeRec (.ref c) q/\H c=some (.own P)
theorem Ah {params:Of}{body:Expr}{scope:NN}{pos:Pos}{c P:Addr}(I:Inv X pins σ H s)(hcode:X.env.code= .ref c)(C:CodeHd X.base c P)(hP:H P=some (.tbl (X.env.qual++ "<lambda>")))(B:Jk X.K X.mg)
  (hdef:defaultsOf params X.env=([],[])) (hcl:QB scope X.env=pure []) {Q:J8->Kb->Prop} {E:J8->Kb->Prop}
  (q:∀f H' h' tk,s.heap.objs.size<=f->Same H H'->Inv X pins σ H' { s with heap:=h',toks:=tk }->H' f=none->IT H' P h' X.mg (X.env.qual++ "<lambda>") params body scope f->Q (.ref f) { s with heap:=h',toks:=tk }) :
  wpAny (model X.prog X.w) X.A (eval (.Lambda params body scope pos) X.env) Q E s:=by
 refine kla_eval hdef ?_
 obtain⟨bm,ob,b1,b2,b3,b4,b5,b6,b7⟩:=B
 have eb:X.base.get? bm=some ob:=I.mod.kin bm ob b4
 have hbP:bm≠P:=λz=>by have:=(I.bs bm ob eb).2;rw[z,hP]at this;cases this
 have hgs:s.heap.Ns KF X.mg:=I.mod.glob.keeps I.bk
 have hgP:KF≠P:=λz=>by
  obtain⟨o,es,ep,e,_⟩:=I.mod.glob
  have:=(I.bs _ o e).2;rw[z,hP]at this;cases this
 have hB:s.heap.BuiltinsAt X.mg P:=⟨bm,ob,b1,b2,b3,hbP,I.bk _ _ eb,b5,b6,b7⟩
 have hC:CodeHd s.heap c P:=C.keeps I.bk;obtain⟨ps,e,ht,r⟩:=I.hok P _ hP
 cases hf:Pt pos ps.toList with
 | none=>
  have hnf:=hf;refine kla_makeFunction (mg:=X.mg) hcl I.ok.glob hgs hcode hC e ht hnf hgP hB λc' ctv h' tk hx hge hlt hrec htb=> ?_
  have hn':H c'=none:=I.hok.fresh hge
  have ncP:c'≠P:=λz=>by rw[z,hP]at hn';cases hn'
  have same:Same H (upd H c' (.own P)):=λb o eb=>by rw[aJ (λz=>by rw[z,hn']at eb;cases eb)];exact eb
  have pk:∀b u,b≠P->s.heap.get? b=some u->(h'.push (kla_obj "<lambda>" (X.env.qual++ "<lambda>") params body scope [] ((X.mg "__name__").getD .none) c' ctv)).get? b=some u:=λb u n eb=>Kc _ (hx b u n eb)
  obtain⟨c₂,oc,vs,t,ee,hoc,hd,hv⟩:=hrec;cases ee
  have htb':=Kc (kla_obj "<lambda>" (X.env.qual++ "<lambda>") params body scope [] ((X.mg "__name__").getD .none) c' ctv) htb
  have hoc':=Kc (kla_obj "<lambda>" (X.env.qual++ "<lambda>") params body scope [] ((X.mg "__name__").getD .none) c' ctv) hoc
  have sz:s.heap.objs.size<=h'.objs.size:=LB (MZ hge hlt);refine q h'.objs.size (upd H c' (.own P)) _ tk sz same ?_ ?_ ⟨c',ctv,Kn _ rfl,⟨c',oc,vs,t,rfl,hoc',hd,hv⟩,aT⟩
  ·refine I.un ⟨λb u eb n _ _=>pk b u (λz=>by rw[z,hP]at n;cases n) eb,λb u eb n _ _=>⟨u.slots,pk b u (λz=>by rw[z,hP]at n;cases n) eb⟩,λb u eb n _=> ?_,λb u eb _=> ?_,λb xs eb=>same _ _ eb,λb o u eb=>same _ _ eb,λb ps eb=>same _ _ eb⟩ λb u eb=> ?_
   ·rw[aJ (Ky (Kl (Kk eb) hge))];exact n
   ·by_cases hb:b=P
    ·exact⟨_,hb▸htb'⟩
    ·exact⟨u,pk b u hb eb⟩
   ·by_cases hb:b=c'
    ·subst hb
     rw[aT]at eb;cases eb;exact⟨oc,hoc'⟩
    ·rw[aJ hb]at eb
     by_cases hbP:b=P
     ·subst hbP
      rw[hP]at eb;cases eb;refine⟨_,htb',?_,λpos' v ev=> ?_⟩
      ·have:=TriplesOk_snoc pos.line pos.col (.ref c') ps.toList ht
       simpa using this
      ·have ev':Pt pos' (ps.toList++ [rawInt pos.line,rawInt pos.col,.ref c'])=some v:=by simpa using ev
       rcases vg ps.toList ht ev' with z | z
       ·obtain⟨c2,o2,v2,t2,a1,a2,a3,a4⟩:=r pos' v z
        exact⟨c2,o2,v2,t2,a1,same _ _ a2,pk _ _ (λz=>by rw[z,hP]at a2;cases a2) a3,a4⟩
       ·exact⟨c',oc,vs,t,z,aT,hoc',hd,hv⟩
     ·exact(I.hok b u eb).Jr (λd v hd' qd=>pk d v (λz=>by
       rcases hd' with hd' | hd'
       ·exact hbP (hd'.symm.trans z)
       ·rw[z,hP]at hd';cases hd') qd) (λd qd=>same _ _ qd) λd xs qd=>same _ _ qd
  ·rw[aJ (LC hlt)]
   exact I.hok.fresh sz
 | some v=>
  obtain⟨c',oc,vs,t,rfl,ho,e2,d2,v2⟩:=r pos v hf;refine kla_makeFunctionHit (mg:=X.mg) hcl I.ok.glob hgs hcode hC e ht hf hB λctv h' tk hk hsz=> ?_
  have kk:∀b u,s.heap.get? b=some u->(h'.push (kla_obj "<lambda>" (X.env.qual++ "<lambda>") params body scope [] ((X.mg "__name__").getD .none) c' ctv)).get? b=some u:=λb u eb=>Kc _ (hk b u eb)
  exact q h'.objs.size H _ tk hsz (λ_ _ e=>e) (I.kept kk) (I.hok.fresh hsz) ⟨c',ctv,Kn _ rfl,⟨c',oc,vs,t,rfl,kk _ _ e2,d2,v2⟩,ho⟩
end
def IS (h:Heap)(mg:Str->Option J8)(q:Str)(params:Of)(body:Expr)(scope:NN)(f:Addr):Prop:=∃c ctv,h.get? f=some (kla_obj "<lambda>" q params body scope [] ((mg "__name__").getD .none) c ctv)/\h.CodeRec (.ref c) q
theorem Ai {CX:yE}{P:Kz}{w:Lb}{K:Frag}{mg:Str->Option J8}{base:Heap}{k:Nat}{f:Addr}{q:Str}{params:Of}{body:Expr}{scope:NN}{N ps:List Str}{A:KU}{outer:List Env}{s:Kb}{H:Hp}{us:List J8}{vs:List V}{Q:VK}{E:XK}
  (L:IS s.heap mg q params body scope f) (S:ax N ps scope) (hr:Room (k+1) A) (e0:Env0 P w K mg base A outer s H)
  (hb:∀c ctv,SF (kla_fn "<lambda>" q params body scope [] ((mg "__name__").getD .none) (.ref c) ctv) ⟨us,[]⟩=pure (ps.zip us)) (hl:vs.length=ps.length) (r:Vals vs us)
  (hbody:∀c,∃t,PE (iy CX P w K mg base N q scope f (.ref c) A outer s H E) body t/\t (start N vs) H Q) :
  codeAny (model P w) A (.call (.ref f) ⟨us,[]⟩) (CR CX outer P w H s Q E) s:=by
 obtain⟨c,ctv,ho,hcd⟩:=L
 have lim:s.heap.NoLimit:=e0.mod.nolimit.keeps λb o e=>(e0.bs b o e).1
 have hkind:∀y∈ps.zip us,scope.names.lookup y.1=some .local\/(scope.names.lookup y.1=some .cell/\((MK (s.heap.objs.size+1) scope.names []).lookup y.1).isSome=true):=λ⟨n,v⟩ hy=>by
  rcases S.par n (M4 hy).1 with q | q
  ·exact .inl q
  ·exact .inr ⟨q,MW _ _ _ (.inl q)⟩
 refine kla_callFunE hr.depth ho rfl S.co S.gen rfl hcd ?_
 rw[hb c ctv];refine Kd (Nk S.kind hkind λenv he s1 x=> ?_)
 subst he;refine⟨lim.keeps x.toInCall.keep,kla_codeExpr ?_⟩
 obtain⟨t,ht,hq⟩:=hbody c
 have I:Inv (iy CX P w K mg base N q scope f (.ref c) A outer s H E) [] (start N vs) H s1:=kH S hr.hd e0 hl r x;exact Mr (ht [] s1 (start N vs) H _ I hq) (λu s' ⟨v,H',J,rv,q⟩=>⟨v,H',J.os,J.bare,J.base,J.hok,rv,q⟩) λe s' hs=>hs
end L2
namespace HT
open PySem PyProof.Rows
open PySem.SeqAt
open PySem.AutoSeq1 (wpAny_loadPart')
open PySem.MeetsSeq PySem.MeetsSeq2 PySem.MeetsSeq3
theorem lQ {vs:List J8}{ns:List Int}(h:LI vs ns):∀{i:Nat} {v:J8},vs[i]? =some v->∃n t,ns[i]? =some n/\v= .int n t:=by
 induction h with
 | nil=>intro i v e;cases e
 | cons n t r ih=>
  intro i v e
  cases i with
  | zero=>cases e;exact⟨n,t,rfl,rfl⟩
  | succ i=>exact ih (by simpa using e)
theorem z4 (l b:Addr)(items items2:Array J8)(n n2:Nat)(dd dd2:Option Addr)(sl sl2:Array (Option J8))(ns ms:List Int)(hi:LI items.toList ns)(hj:LI items2.toList ms)(k:Nat) :
  ∀i:Nat,items.size - i=k->i<=items.size->i<=items2.size->Meets (Builtin.«list.__eq__.loop» ⟨[.ref l,.ref b,rawInt i,rawInt 0],[]⟩)
   (λ_ R s=>s.heap.get? l=some { cls:=.type "list",dict:=dd,data:=.seq items n,slots:=sl }/\s.heap.get? b=some { cls:=.type "list",dict:=dd2,data:=.seq items2 n2,slots:=sl2 } ∧
    R (.ok (.ret (.bool (lexLt (ns.drop i) (ms.drop i))))) s):=by
 have z1:items.size=ns.length:=by rw[<-hi.length];simp
 have z2:items2.size=ms.length:=by rw[<-hj.length];simp
 induction k with
 | zero=>
  intro i hk h1 h2 prog w A R s h;obtain⟨hp,g,d,tk,os⟩:=s;obtain⟨hl,hb,h⟩:=h
  wp_walk using KM hl,KM hb
  have hi1:items[((i:Nat):Int).toNat]? =none:=by simp;omega
  have hv:lexLt (ns.drop i) (ms.drop i)=decide (items.size<items2.size):=by
   rw[Ml (by omega)]
   cases q:ms.drop i with
   | nil=>
    have:=List.drop_eq_nil_iff.mp q
    rw[oo];exact(decide_eq_false (by omega)).symm
   | cons y ys=>
    have:i<ms.length:=by
     have:=congrArg LV q;rw[MS,Kj]at this;omega
    rw[m7];exact(decide_eq_true (by omega)).symm
  rw[hv]at h;rw[hi1]
  wp_walk using KM hl,KM hb
  exact h
 | succ k ih=>
  intro i hk h1 h2 prog w A R s h;obtain⟨hp,g,d,tk,os⟩:=s;obtain⟨hl,hb,h⟩:=h
  wp_walk using KM hl,KM hb
  have hlt:i<items.size:=by omega
  have hi1:items[((i:Nat):Int).toNat]? =some items[i]:=by simp[hlt]
  obtain⟨a,t,ha,hva⟩:=lQ hi (i:=i) (v:=items[i]) (by simp[hlt])
  obtain⟨hl1,ha1⟩:=Km.mp ha
  have hdn:ns.drop i=a::ns.drop (i+1):=by rw[LG hl1,ha1]
  by_cases hlt2:i<items2.size
  ·have hi2:items2[((i:Nat):Int).toNat]? =some items2[i]:=by simp[hlt2]
   obtain⟨c,u,hc',hvc⟩:=lQ hj (i:=i) (v:=items2[i]) (by simp[hlt2])
   obtain⟨hl2,hc2⟩:=Km.mp hc'
   have hdm:ms.drop i=c::ms.drop (i+1):=by rw[LG hl2,hc2]
   have hc:((i:Int)+1)=((i+1:Nat):Int):=by push_cast;rfl
   rw[hdn,hdm,lexLt_cons]at h;rw[hi1,hi2,hva,hvc];obtain⟨e,he,hiff⟩:=AS A.in1 ⟨hp,g,d,tk,os⟩ a t c u;refine J5 (he prog w _ _ ?_)
   cases e with
   | true=>
    rw[if_pos (hiff.mp rfl)]at h
    wp_walk
    rw[hc]
    exact⟨MR plain_eq_loop _,LQ entry_eq_loop (by
     rw[Lp plain_eq_loop _]
     exact ih (i+1) (by omega) (by omega) (by omega) prog w A R _ ⟨hl,hb,h⟩)⟩
   | false=>
    rw[if_neg (λq=>absurd (hiff.mpr q) KL)]at h
    wp_walk using KM hl,KM hb
    rw[hi1,hi2,hva,hvc]
    have hri:=zh A.in1 ⟨hp,g,d,tk,os⟩ a t c u prog w
    wp_walk using hri
    exact h
  ·have hi2:items2[((i:Nat):Int).toNat]? =none:=by simp;omega
   have hm:ms.drop i= []:=Ml (by omega)
   rw[hdn,hm,m8]at h;rw[hi1,hi2]
   wp_walk using KM hl,KM hb
   have hf:decide (items.size<items2.size)=false:=decide_eq_false (by omega)
   rw[<-hf]at h;exact h
theorem qV (l b:Addr)(items items2:Array J8)(n n2:Nat)(dd dd2:Option Addr)(sl sl2:Array (Option J8))(ns ms:List Int)(hi:LI items.toList ns)(hj:LI items2.toList ms) :
  Meets (Builtin.«list.__lt__» ⟨[.ref l,.ref b],[]⟩)
   (λ_ R s=>s.heap.get? l=some { cls:=.type "list",dict:=dd,data:=.seq items n,slots:=sl }/\s.heap.get? b=some { cls:=.type "list",dict:=dd2,data:=.seq items2 n2,slots:=sl2 } ∧
    R (.ok (.ret (.bool (lexLt ns ms)))) s):=by
 intro prog w A R s h;obtain⟨hp,g,d,tk,os⟩:=s;obtain⟨hl,hb,h⟩:=h
 have f3:=AutoSeq1.sub_list_list
 wp_walk using KM hl,KM hb
 exact⟨MR plain_eq_loop _,LQ entry_eq_loop (by
  rw[Lp plain_eq_loop _];exact z4 l b items items2 n n2 dd dd2 sl sl2 ns ms hi hj _ 0 rfl (K3 _) (K3 _) prog w A R _ ⟨hl,hb,by simpa using h⟩)⟩
section
variable {prog:Kz}{w:Lb}{A:KU}{E:J8->Kb->Prop}{s:Kb}
theorem lt_lstInts {l b:Addr}{items items2:Array J8}{n n2:Nat}{ns ms:List Int}{Q:J8->Kb->Prop}(hl:s.heap.get? l=some (seqObj "list" items n))(hb:s.heap.get? b=some (seqObj "list" items2 n2))(hi:LI items.toList ns)(hj:LI items2.toList ms)
  (hu:A.units<cLine) (h:Q (.bool (lexLt ns ms)) s):wpAny (model prog w) A (Lr .Lt (.ref l) (.ref b)) Q E s:=
 NR (op:=.Lt) ⟨_,hl,rfl⟩ ⟨_,hb,rfl⟩ PySem.F.slot_list_lt PySem.F.entry_list_lt (PySem.F.args_list_lt_2 _ _) (qV l b items items2 n n2 none none #[] #[] ns ms hi hj)
  ⟨hl,hb,show Lw (lexLt ns ms)≠QJ/\Q (.bool (lexLt ns ms)) s from⟨(λx=>nomatch x),h⟩⟩ hu
end
end HT
namespace HT
open PySem PyProof.Rows
open PySem.SeqAt
section
variable {prog:Kz}{w:Lb}{A:KU}{E:J8->Kb->Prop}{s:Kb}
theorem GI:∀{ns ms:List Int},ns.length=ms.length->((J7 ns.length).all λj=>ns.getD j 0 == ms.getD j 0)=decide (ns=ms):=λ{ns ms} h=>by
 rw[NI,Ks,decide_eq_true_iff]
 constructor
 ·intro g
  refine Ol h λi h1 h2=> ?_
  have:=g i (Kq.mpr h1);rw[beq_iff_eq,KH,KH,Kf h1,Kf h2]at this
  exact this
 ·rintro rfl i _
  exact beq_self_eq_true _
theorem eq_lstInts {l b:Addr}{items items2:Array J8}{n n2:Nat}{ns ms:List Int}{Q:Bool->Kb->Prop}(hl:s.heap.get? l=some (seqObj "list" items n))(hb:s.heap.get? b=some (seqObj "list" items2 n2))(hi:LI items.toList ns)(hj:LI items2.toList ms)
  (hu:A.units<cLine) (h:Q (decide (ns=ms)) s):wpAny (model prog w) A (eqBool (.ref l) (.ref b)) Q E s:=by
 have z1:items.size=ns.length:=by rw[<-hi.length];simp
 have z2:items2.size=ms.length:=by rw[<-hj.length];simp
 unfold eqBool;refine Ly ?_
 refine wpAny_ite_split (λhab=> ?_) (λ_=> ?_)
 ·cases eq_of_beq hab
  rw[hl]at hb;cases hb;rw[decide_eq_true (hi.nums.symm.trans hj.nums)]at h
  show wpAny (model prog w) _ (pure true) Q E s
  exact Kd h
 ·refine J5 ?_
  by_cases hsz:items.size=items2.size
  ·refine NR (op:=.Eq) ⟨_,hl,rfl⟩ ⟨_,hb,rfl⟩ QH Qd (P7 _ _) (list_eqAt l b items items2 n n2 none none #[] #[] hsz λj=>ns.getD j 0 == ms.getD j 0) ⟨hl,hb,λj h1 h2=> ?_,?_⟩ hu
   ·obtain⟨x,t,hx,hvx⟩:=lQ hi (i:=j) (v:=items[j]) (by simp[h1])
    obtain⟨y,u,hy,hvy⟩:=lQ hj (i:=j) (v:=items2[j]) (by simp[h2])
    rw[hvx,hvy,KH,KH,hx,hy]
    exact Rc x t y u
   ·rw[z1,GI (by omega)]
    exact⟨(λx=>nomatch x),Lo h⟩
  ·refine NR (op:=.Eq) ⟨_,hl,rfl⟩ ⟨_,hb,rfl⟩ QH Qd (P7 _ _) (list_eq_lengthsAt l b items items2 n n2 none none #[] #[] (by simpa using hsz)) ⟨hl,hb,?_⟩ hu
   rw[decide_eq_false (λz=>hsz (by rw[z1,z2,z]))]at h
   exact⟨(λx=>nomatch x),Lo h⟩
end
end HT
namespace Tr
open PySem PySem.Spec PyProof.Rows L2 PySem.W
def gj:NN:={ kind:=.function,names:=[("numbers",.local),("len",.globalImplicit)],isGenerator:=false,isCoroutine:=false,more:=[] }
def kF (p:Pos):Of:={ posonlyargs:=[],args:=[{ arg:="numbers",annotation:=none,pos:=p }],vararg:=none,kwonlyargs:=[],kw_defaults:=[],kwarg:=none,defaults:=[] }
def lM (p1 p2 p3 p4 p5 p6:Pos):Expr:=.Tuple [.UnaryOp .USub (.Call (.Name "len" p1) [.Name "numbers" p2] [] p3) p4,.Name "numbers" p5] 0 p6
structure KpF (F:List Addr)(h h':Heap):Prop where
 keep:∀b o,b∉F->h.get? b=some o->h'.get? b=some o
 slot:∀b o,b∈F->h.get? b=some o->∃sl,h'.get? b=some { o with slots:=sl }
theorem KpF.trans {F:List Addr}{h h1 h2:Heap}(a:KpF F h h1)(b:KpF F h1 h2):KpF F h h2:=⟨λc o n e=>b.keep c o n (a.keep c o n e),λc o n e=>by
 obtain⟨sl,e1⟩:=a.slot c o n e;obtain⟨sl',e2⟩:=b.slot c _ n e1;exact⟨sl',e2⟩⟩
def VF (F:List Addr)(h:Heap)(v:J8)(ns:List Int):Prop:=∃k t tk b its n ms,v= .ref k/\k∉F/\b∉F/\h.IsTuple k #[.int t tk,.ref b]/\h.get? b=some (seqObj "list" its n)/\LI its.toList ms/\ns=t::ms
theorem VF.keep {F:List Addr}{h h':Heap}{v:J8}{ns:List Int}(a:VF F h v ns)(k:∀b o,b∉F->h.get? b=some o->h'.get? b=some o):VF F h' v ns:=
 let ⟨q,t,tk,b,its,n,ms,e,h1,h2,⟨o,g,r⟩,h4,h5,h6⟩:=a
 ⟨q,t,tk,b,its,n,ms,e,h1,h2,⟨o,k _ _ h1 g,r⟩,k _ _ h2 h4,h5,h6⟩
theorem BW {P:Kz}{w:Lb}{H:Hp}{h:Heap}{b:Addr}{ms:List Int}(hok:HOk P w H h)(q:SqL [] H b (ms.map V.int)):(∃u,H b=some u)/\∃its n,h.get? b=some (seqObj "list" its n)/\LI its.toList ms:=by
 have back:∀{xs:List Int} {us:List J8},Vals (xs.map V.int) us->LI us xs:=by
  intro xs
  induction xs with
  | nil=>intro us r;cases r;exact .nil
  | cons x xs ih=>
   intro us r
   cases r with
   | cons a r=>
    obtain⟨t,rfl⟩:=a;exact .cons x t (ih r)
 rcases q with(q | ⟨o,q⟩) | ⟨o,xs,n,z,_⟩
 ·obtain⟨_,its,n,rv,e⟩:=hok b _ q
  exact⟨⟨_,q⟩,its.toArray,n,e,by simpa using back rv⟩
 ·obtain⟨_,_,its,n,rv,e⟩:=hok b _ q
  exact⟨⟨_,q⟩,its.toArray,n,e,by simpa using back rv⟩
 ·cases z
section
variable {X:Cx}{pins:List (Addr×Obj)}{σ:L2.St}{H:Hp}{s:Kb}
theorem Aj {CX:yE}{P:Kz}{w:Lb}{mg:Str->Option J8}{base:Heap}{q:Str}{f:Addr}{cd:J8}{A:KU}{outer:List Env}{s:Kb}{H:Hp}{E:XK}{p1 p2 p3 p4 p5 p6:Pos}(hm:mg "len" =none) :
  cj (iy CX P w [] mg base ["numbers"] q gj f cd A outer s H E) (lM p1 p2 p3 p4 p5 p6) (a9 (ae (o1 jb (cl cY (ae (vr 0) ai))) (ae (vr 0) ai))):=
 DK (lH (DL (vO dt hm (by decide+kernel) (lH (zl 0) uI))) (lH (zl 0) uI))
theorem Ag {k:Nat}{f a:Addr}{q:Str}{ob:Obj}{its:List J8}{n:Nat}{ms:List Int}{pp p1 p2 p3 p4 p5 p6:Pos}{E:J8->Kb->Prop}{G:List Addr}(I:Inv X pins σ H s)(hr:Room (k+3) X.A)(L:IS s.heap X.mg q (kF pp) (lM p1 p2 p3 p4 p5 p6) gj f)
  (ha:H a≠none) (ho:s.heap.get? a=some (seqObj "list" its.toArray n)) (hi:LI its ms) (hz':its.length<=sizeLine) (hm:X.mg "len" =none) (hG:∀c∈G,c≠a/\∃o,s.heap.get? c=some o) :
  wpAny (model X.prog X.w) X.A.in1.in1 (call (.ref f) [.ref a]) (λu s'=>s'.os=s.os/\MJ s'.gens/\KpF (jE X.stack) s.heap s'.heap/\VF G s'.heap u ((-(ms.length:Int))::ms)) E s:=by
 have hl:=hi.length
 have e0:=I.JP
 let H2:Hp:=λb=>if b=a then some (.frz (seqObj "list" its.toArray n) (.lst (ms.map V.int)))else none
 have h2a:H2 a=some (.frz (seqObj "list" its.toArray n) (.lst (ms.map V.int))):=if_pos rfl
 have h2n:∀b,b≠a->H2 b=none:=λb hb=>if_neg hb
 have naF:∀b∈jE X.stack,b≠a:=λb hb z=>ha (z▸e0.frf b hb)
 have hok2:HOk X.prog X.w H2 s.heap:=λb u e=>by
  by_cases hb:b=a
  ·subst hb
   rw[h2a]at e;cases e;exact⟨ho,by rw[Kh];omega,its,n,fZ hi,ho⟩
  ·rw[h2n b hb]at e;cases e
 have e1:Env0 X.prog X.w [] X.mg X.base X.A X.stack s H2:=⟨e0.frames,⟨(λb o e=>by cases e),e0.mod.glob,e0.mod.blt,e0.mod.nolimit⟩,λb o e=>⟨(e0.bs b o e).1,h2n b λz=>ha (z▸(e0.bs b o e).2)⟩,e0.bsz,e0.funs,λb hb=>h2n b (naF b hb),hok2,e0.bare,λf o fd c oc vs P _ e=>by cases e⟩
 refine RZ (ND (Ai (CX:=λ_ _ _ _ _ _=>False) (E:=λ_ _ _=>False) (N:=["numbers"]) (ps:=["numbers"]) (us:=[.ref a]) (vs:=[.ref a]) (Q:=λv H'=>Same H2 H'/\∃kk b,v= .ref kk/\H' kk=some (.tup [.int (-(ms.length:Int)),.ref b])/\SqL [] H' b (ms.map V.int)) L fD hr.in1.in1 e1.in1.in1 (λc ctv=>rfl) rfl (.cons rfl .nil) λc=>⟨_,Aj hm,[.va (.scr ms)],vW,⟨λ_ _=>False,rfl,λi t e=> ?_,λi o e=> ?_,λ_ _ z=>z.elim,λ_ _ _ z=>z.elim,λ_ z=>z.elim⟩,?_⟩) λr s' hq=> ?_)
 ·cases i with
  | zero=>cases e;exact⟨.ref a,rfl,by unfold Rep;exact⟨a,rfl,λz=>z,.inl (.inr ⟨_,h2a⟩)⟩⟩
  | succ i=>simp at e
 ·cases i with
  | zero=>cases e
  | succ i=>simp at e
 ·have ev:a9 (ae (o1 jb (cl cY (ae (vr 0) ai))) (ae (vr 0) ai)) [.va (.scr ms)] = .ok (.tup [.int (-(ms.length:Int)),.scr ms]):=by
   have e1:cl cY (ae (vr 0) ai) [.va (.scr ms)] = .ok (.int ms.length):=by
    show Rs.ok (T.int ((ms.map T.int).length:Nat))=_
    rw[Kh]
   have e2:o1 jb (cl cY (ae (vr 0) ai)) [.va (.scr ms)] = .ok (.int (-(ms.length:Int))):=by unfold o1;rw[e1];rfl
   unfold a9;rw[ae,e2]
   show(if ([T.int (-(ms.length:Int)),T.scr ms]:List T).length<=sizeLine then Rs.ok (T.tup [.int (-(ms.length:Int)),.scr ms])else .bad)=_
   rw[if_pos (by rw[K7];simp)]
  rw[ev];intro H' sm v rv;refine⟨sm,?_⟩
  obtain⟨kk,vs,rfl,_,hk,rs⟩:=Rep.Fk.mp rv;obtain⟨v1,w1,rfl,r1,rs⟩:=Reps.me.mp rs;obtain⟨v2,w2,rfl,r2,rs⟩:=Reps.me.mp rs;cases Reps.Da.mp rs;cases Rep.AC.mp r1;unfold Rep at r2;obtain⟨b,rfl,_,sq⟩:=r2;exact⟨kk,b,rfl,hk,sq⟩
 ·cases r with
  | error e=>exact Md hq
  | ok fl=>
   cases fl with
   | next=>exact Md hq
   | brk=>exact Md hq
   | cont=>exact Md hq
   | ret u=>
    obtain⟨v,H',os,bare,un,hok,rv,sm,kk,b,rfl,hk,sq⟩:=hq;obtain rfl:u=KY kk:=rv
    have nF:∀c u,H' c=some u->c∉G:=λc u e hc=>by
     obtain⟨na,o,eo⟩:=hG c hc
     have:=un.free c o eo (h2n c na) (by simp)
     rw[e]at this;cases this
    obtain⟨⟨u2,hb2⟩,xs,m,ho2,hi2⟩:=BW hok sq;obtain⟨_,its2,rv2,tp⟩:=hok kk _ hk
    have tp':∃tk,its2= [.int (-(ms.length:Int)) tk,.ref b]:=by
     cases rv2 with
     | cons a1 r=>
      obtain⟨t,rfl⟩:=a1
      cases r with
      | cons a2 r=>
       cases r;exact⟨t,by rw[show _=KY b from a2]⟩
    obtain⟨tk,rfl⟩:=tp';refine⟨os,bare,⟨λc o hc e=> ?_,λc o hc e=> ?_⟩,kk,_,tk,b,xs,m,ms,rfl,nF _ _ hk,nF _ _ hb2,tp,ho2,hi2,rfl⟩
    ·by_cases hca:c=a
     ·subst hca
      rw[ho]at e;cases e;exact(hok c _ (un.frzs c _ _ h2a)).1
     ·exact un.keep c o e (h2n c hca) hc (by simp)
    ·exact un.slot c o e (h2n c (naF c hc)) hc (by simp)
end
theorem xS (t u:Int)(a b:List Int):c8 (t::a) (u::b)=if t=u then c8 a b else decide (t<u):=rfl
theorem Al {prog:Kz}{w:Lb}{A:KU}{E:J8->Kb->Prop}{s:Kb}{a b:Int}{t u:Tok}{Q:Bool->Kb->Prop}(h:Q (decide (a<b)) s):∀k,wpAny (model prog w) A (oneLt' k (.int a t) (.int b u)) Q E s
 | true=>oneLt_int h
 | false=>by
  rw[oneLt'_eq];simp only[Lq,if_false];exact J5 (wpAny_lt_int (show wpAny (model prog w) A (truthOfDropped (.bool (decide (a<b)))) Q E s from Lo h))
theorem v8:∀(l m:List Int),HT.lexLt l m=c8 l m
 | [],[] =>rfl
 | [],_::_=>rfl
 | _::_,[] =>rfl
 | a::l,b::m=>by
  rw[HT.lexLt_cons,v8 l m]
  rfl
def ze (G:List Addr):RK where
 V:=VF G
 inj:=λ⟨k,t,tk,b,its,n,ms,e,_,_,⟨o,h1,_,c1,h2⟩,h3,h4,h5⟩ ⟨k',t',tk',b',its',n',ms',e',_,_,⟨o',h1',_,c1',h2'⟩,h3',h4',h5'⟩=>by
  subst e;cases e';rw[h1]at h1';cases h1';rw[h2]at h2';cases h2';rw[h3]at h3';cases h3';rw[h5,h5',<-h4.nums,<-h4'.nums]
 on:=λa up=>a.keep λb o _ e=>up b o e
 fst:=λ⟨k,t,tk,b,its,n,ms,e,_,_,⟨o,h1,c1,c2,h2⟩,_⟩=>⟨k,_,c2,o,t,tk,e,h1,c1,h2,rfl⟩
 lt:=λ{prog w A s E x y a b Q} hu ⟨xk,t,k,xb,xi,xn,xm,ex,_,_,⟨xo,xh,xc,xq,xd⟩,xl,xi',xr⟩ ⟨yk,u,k',yb,yi,yn,ym,ey,_,_,⟨yo,yh,yc,yq,yd⟩,yl,yi',yr⟩ q=>by
  subst ex ey xr yr;refine kat_lt xh xd yh yd ?_
  refine kat_cons (Sw ?_)
  rw[xS]at q
  by_cases z:t=u
  ·rw[beq_iff_eq.mpr z]
   rw[if_pos z]at q;refine kat_yes (kat_cons (HT.eq_lstInts xl yl xi' yi' (by omega) ?_))
   by_cases z2:xm=ym
   ·rw[decide_eq_true z2]
    subst z2;rw[kc]at q;exact kat_yes (kat_nil q)
   ·rw[decide_eq_false z2]
    refine kat_no (kat_one _ _ (HT.lt_lstInts xl yl xi' yi' (by omega) ?_))
    rw[v8];exact q
  ·rw[beq_eq_false_iff_ne.mpr z]
   rw[if_neg z]at q;exact kat_no (Al q _)
theorem kY {α β:Type}{R:α->β->Prop}{a:α}{b:β}(h:R a b):∀{l:List α} {m:List β},P3 R l m->P3 R (l++ [a]) (m++ [b])
 | _,_,.nil=> .cons h .nil
 | _,_,.cons r t=> .cons r (kY h t)
theorem jw {α β:Type}{R:α->β->Prop}:∀{l:List α} {m:List β},P3 R l m->l.length=m.length
 | _,_,.nil=>rfl
 | _,_,.cons _ t=>by rw[Kj,Kj,jw t]
theorem mq {G:List Addr}{h:Heap}:∀{l:List J8} {m:List (List Int)},P3 (VF G h) l m->l.map ((ze G).row h)=m
 | _,_,.nil=>rfl
 | _,_,.cons r t=>by rw[Ke,RK.JO (R:=ze G) r,mq t]
theorem mr {α β:Type}{R:α->β->Prop}:∀{l:List α} {m:List β},P3 R l m->∀a∈l,∃b,R a b
 | _,_,.nil,a,h=>by cases h
 | _,_,.cons r t,a,h=>by
  rcases Ko.mp h with rfl | h
  ·exact⟨_,r⟩
  ·exact mr t a h
end Tr
set_option maxHeartbeats 4000000
namespace Tr
open PySem PySem.Spec PyProof.Rows L2 PySem.W
section
variable {prog:Kz}{w:Lb}{A:KU}{E:J8->Kb->Prop}{s s0:Kb}{F:List Addr}{L:Addr}{vs:List J8}{rows:List (List Int)}{P:Fin->Kb->Prop}
theorem qZ {h0 h h':Heap}{a:Addr}(k:KpF F h0 h)(ha:h0.objs.size<=a)(u:∀b o,b≠a->h.get? b=some o->h'.get? b=some o):KpF F h0 h':=
 ⟨λb o n e=>u b o (Ky (Kl (Kk e) ha)) (k.keep b o n e),λb o n e=>let ⟨sl,e1⟩:=k.slot b o n e;⟨sl,u b _ (Ky (Kl (Kk e) ha)) e1⟩⟩
def Srt (rows:List (List Int))(vs out:List J8):Prop:=∃ps:List (List Int×J8),ps.Perm (rows.zip vs)/\out=ps.map SC/\(ps.map SD).Pairwise (λa b=>m9 a b=true)
theorem C3 {kS:Addr}{kA:Array J8}{e e1:Nat}{st:Oe}(hs:s0.heap.objs.size<=L)(hk:s0.heap.objs.size<=kS)(hne:kS≠L)(os:s.os=s0.os)(bare:MJ s.gens)(kp:KpF F s0.heap s.heap)
  (hL:s.heap.get? L=some (seqObj "list" #[] e1)) (hK:s.heap.get? kS=some (seqObj "list" kA e)) (hkz:kA.size<=64) (hf:Ov st=none) (hz:(arrOf st).size<=64)
  (q:∀s3 c,s3.os=s0.os->MJ s3.gens->KpF F s0.heap s3.heap->s3.heap.get? L=some (seqObj "list" ((arrOf st).map (·.2)) c)->P (.done (.ret .none)) s3) :
  wpAny (model prog w) A (ksk_tail L false e1 (.ref kS) st) P E s:=by
 have u1:∀b o,b≠kS->s.heap.get? b=some o->(s.heap.update kS (K1 λ_=>(#[]:Array J8))).get? b=some o:=λb o n e=>by rw[Mi _ _ _ _ n];exact e
 have hL1:=u1 L _ hne.symm hL
 generalize hg:(arrOf st).map (·.2)=g at q
 have hgz:g.size<=sizeLine:=by rw[<-hg,Array.size_map,K7];omega
 obtain⟨c2,hc2⟩:∃c2,((s.heap.update kS (K1 λ_=>(#[]:Array J8))).update L (K1 λ_=>g)).get? L=some (seqObj "list" g c2):=⟨_,Qx hL1 λ_=>g⟩
 have kp3:KpF F s0.heap ((s.heap.update kS (K1 λ_=>(#[]:Array J8))).update L (K1 λ_=>g)):=qZ (qZ kp hk u1) hs λb o n e=>by rw[Mi _ _ _ _ n];exact e
 unfold ksk_tail;simp only[Lq,if_false];rw[hg];refine J5 (PV hK rfl ?_ (by rw[K7];omega) (K3 _))
 refine J5 (wpAny_letGo ?_)
 refine J5 (seqEpoch_at hL1 rfl ?_)
 refine J5 (PV hL1 rfl ?_ (K3 _) (KD hgz (NX _)))
 rw[hf];simp only[bne_self_eq_false,Lq,if_false];exact Kd (q { s with heap:=_ } c2 os bare kp3 hc2)
theorem FR {kS:Addr}{kA:Array J8}{e e1:Nat}{G:List Addr}(hu:A.units+60<cLine)(hs:s0.heap.objs.size<=L)(hk:s0.heap.objs.size<=kS)(hne:kS≠L)(os:s.os=s0.os)(bare:MJ s.gens)(kp:KpF F s0.heap s.heap)
  (hL:s.heap.get? L=some (seqObj "list" #[] e1)) (hK:s.heap.get? kS=some (seqObj "list" kA e)) (pr:P3 (VF G s.heap) kA.toList rows) (hlen:rows.length=vs.length) (h64:vs.length<64)
  (q:∀s3 out c,s3.os=s0.os->MJ s3.gens->KpF F s0.heap s3.heap->s3.heap.get? L=some (seqObj "list" out c)->Srt rows vs out.toList->P (.done (.ret .none)) s3) :
  wpAny (model prog w) A (ksk_end L false vs.toArray e1 (.ref kS) kA) P E s:=by
 have hkl:kA.toList.length=vs.length:=by rw[jw pr,hlen]
 have hsz:kA.size=vs.length:=by rw[<-KJ];exact hkl
 have fin:∀st:Oe,Ov st=none->(arrOf st).toList.Perm (kA.toList.zip vs)->((arrOf st).toList.map λp=>(ze G).row s.heap p.1).Pairwise (λa b=>m9 a b=true)->wpAny (model prog w) A (ksk_tail L false e1 (.ref kS) st) P E s:=λst hf hp hs'=>by
  have hz:(arrOf st).size<=64:=by
   have:=hp.length_eq;rw[KJ,SU]at this;omega
  refine C3 hs hk hne os bare kp hL hK (by omega) hf hz λs3 c o1 o2 o3 o4=>q s3 _ c o1 o2 o3 o4 ⟨(arrOf st).toList.map λp=>((ze G).row s.heap p.1,p.2),?_,?_,?_⟩
  ·have:=hp.map λp:J8×J8=>((ze G).row s.heap p.1,p.2)
   rw[show(kA.toList.zip vs).map (λp:J8×J8=>((ze G).row s.heap p.1,p.2))=(kA.toList.map ((ze G).row s.heap)).zip vs by rw[List.zip_map_left];exact KA λ⟨x,y⟩ _=>rfl,mq pr]at this
   exact this
  ·rw[Array.toList_map,KB];rfl
  ·rw[KB];exact hs'
 unfold ksk_end;simp only[Lq,if_false]
 by_cases h2:vs.toArray.size<2
 ·rw[if_pos h2,if_pos h2]
  refine J5 (Kd ?_)
  rw[StateT.run_pure];refine J5 (Kd ?_)
  try dsimp only
  refine fin (SortSt.mk' general' (kA.zip vs.toArray) #[] 7 none) rfl (by show(kA.zip vs.toArray).toList.Perm _;simp) ?_
  show(((kA.zip vs.toArray).toList.map _).Pairwise _)
  have:(kA.zip vs.toArray).toList.length<=1:=by rw[Kp]at h2;simp;omega
  generalize (kA.zip vs.toArray).toList=l at this
  match l,this with
  | [],_=>exact Pe
  | [x],_=>exact List.pairwise_singleton _ _
 ·rw[if_neg h2,if_neg h2]
  rw[Kp]at h2
  have hv:∀v∈kA.toList,∃ns,(ze G).V s.heap v ns:=λv hm=>mr pr v hm
  have kz:kA=kA.toList.toArray:=by simp
  rw[kz];refine J5 (kk3 (R:=ze G) hv (λz=>by rw[z]at hkl;simp at hkl;omega) ?_)
  refine J5 (Mr (run3 (R:=ze G) (ks:=kA.toList) (vs:=vs) (Q:=λst' s'=>s'=s/\Ov st'=none/\(arrOf st').toList.Perm (kA.toList.zip vs)/\((arrOf st').toList.map λp=>(ze G).row s.heap p.1).Pairwise (λa b=>m9 a b=true)) hu hkl hv (by omega) h64 λst' hf hp hs=>⟨rfl,hf,hp,hs⟩) (λr s' ⟨es,hf,hp,hs⟩=> ?_) λ_ _ e=>e)
  subst es;exact fin _ hf hp hs
theorem FT {f:J8}{n:Nat}{M:Kb->Prop}(hu:A.units+60<cLine)(hF:∀b∈F,b<s0.heap.objs.size)(hs:s0.heap.objs.size<=L)(os:s.os=s0.os)(bare:MJ s.gens)(kp:KpF F s0.heap s.heap)
  (ho:s.heap.get? L=some (seqObj "list" vs.toArray n)) (hlen:rows.length=vs.length) (h64:vs.length<64)
  (turn:∀(i:Nat) (v:J8) (ns:List Int) (kS:Addr),s0.heap.objs.size<=kS->vs[i]? =some v->rows[i]? =some ns->∀s':Kb,s'.os=s0.os->MJ s'.gens->KpF F s0.heap s'.heap->(∃o,s'.heap.get? kS=some o) →
   wpAny (model prog w) A (call f [v]) (λu s''=>s''.os=s'.os/\MJ s''.gens/\KpF F s'.heap s''.heap/\VF (kS::F) s''.heap u ns) (λ_ _=>False) s')
  (q:∀s3 out c,s3.os=s0.os->MJ s3.gens->KpF F s0.heap s3.heap->s3.heap.get? L=some (seqObj "list" out c)->Srt rows vs out.toList->P (.done (.ret .none)) s3) :
  wpAny (model prog w) A (ksk_tree L f false) P E s:=by
 obtain⟨e1,ho1⟩:∃e1,(s.heap.update L (K1 λ_=>(#[]:Array J8))).get? L=some (seqObj "list" #[] e1):=⟨_,Qx ho λ_=> #[]⟩
 have ha:=Kk ho
 have kp1:KpF F s0.heap (s.heap.update L (K1 λ_=>(#[]:Array J8))):=qZ kp hs λb o n e=>by rw[Mi _ _ _ _ n];exact e
 unfold ksk_tree;refine J5 (Sh ho rfl ?_)
 refine J5 (PV ho rfl ?_ (by rw[Kp,K7];omega) (K3 _))
 refine J5 (seqEpoch_at ho1 rfl ?_)
 refine J5 (wpAny_newTuple ?_ (by show vs.length<=_;rw[K7];omega))
 refine J5 (PU ?_ (K3 _))
 refine Ly ?_
 have hsz:((s.heap.update L (K1 λ_=>(#[]:Array J8))).push (seqObj "tuple" vs.toArray 0)).objs.size=s.heap.objs.size+1:=by rw[QD,PZ]
 have up:∀b o,(s.heap.update L (K1 λ_=>(#[]:Array J8))).get? b=some o->(((s.heap.update L (K1 λ_=>(#[]:Array J8))).push (seqObj "tuple" vs.toArray 0)).push (seqObj "list" #[] 0)).get? b=some o:=λb o e=>Kc _ (Kc _ e)
 have kp2:KpF F s0.heap (((s.heap.update L (K1 λ_=>(#[]:Array J8))).push (seqObj "tuple" vs.toArray 0)).push (seqObj "list" #[] 0)):=⟨λb o n e=>up b o (kp1.keep b o n e),λb o n e=>let ⟨sl,e'⟩:=kp1.slot b o n e;⟨sl,up b _ e'⟩⟩
 have hL2:=up L _ ho1
 have hK2:(((s.heap.update L (K1 λ_=>(#[]:Array J8))).push (seqObj "tuple" vs.toArray 0)).push (seqObj "list" #[] 0)).get? (s.heap.objs.size+1)=some (seqObj "list" #[] 0):=by
  rw[<-hsz];exact Kn _ rfl
 show wpAny _ _ (ksk_rest L f false vs.toArray e1 (.ref ((s.heap.update L (K1 λ_=>(#[]:Array J8))).push (seqObj "tuple" vs.toArray 0)).objs.size)) _ _ { s with heap:=((s.heap.update L (K1 λ_=>(#[]:Array J8))).push (seqObj "tuple" vs.toArray 0)).push (seqObj "list" #[] 0) }
 rw[hsz]
 generalize hkS:s.heap.objs.size+1=kS at hK2 ⊢
 have hne:kS≠L:=by rw[<-hkS];exact LC (Lc ha)
 have hk:s0.heap.objs.size<=kS:=by rw[<-hkS];exact KD hs (Nat.le_succ_of_le (LB ha))
 have nF:∀a,s0.heap.objs.size<=a->a∉F:=λa h z=>absurd (hF a z) (Nat.not_lt.mpr h)
 generalize ((s.heap.update L (K1 λ_=>(#[]:Array J8))).push (seqObj "tuple" vs.toArray 0)).push (seqObj "list" #[] 0)=h6 at kp2 hL2 hK2 ⊢
 unfold ksk_rest;refine J5 (Nf ?_)
 first
  | rw[List.forIn_toArray]
  | (rw[<-Ru];simp only[List.toList_toArray])
  | rw[<-Ru]
 refine J5 (ksk_fold (λi s'=>s'.os=s0.os/\MJ s'.gens/\KpF F s0.heap s'.heap/\s'.heap.get? L=some (seqObj "list" #[] e1)/\∃kA e,s'.heap.get? kS=some (seqObj "list" kA e)/\P3 (VF (kS::F) s'.heap) kA.toList (rows.take i)) vs 0 { s with heap:=h6 }
  ⟨os,bare,kp2,hL2,#[],0,hK2,by simpa using Paired.nil⟩ ?step ?done)
 case step=>
  rintro j x s' hx ⟨o1,o2,o3,o4,kA,e,o5,o6⟩
  simp only[NB]at o6 ⊢
  have hj:j<vs.length:=(Km.mp hx).1
  obtain⟨ns,hns⟩:∃k,rows[j]? =some k:=⟨_,Kf (by omega)⟩
  have hz:kA.size<=vs.length:=by
   have h1:=jw o6;rw[KJ,Mp]at h1;omega
  refine J5 (Ou (Mr (turn j x ns kS hk hx hns s' o1 o2 o3 ⟨_,o5⟩) (λu s'' he=> ?_) λ_ _ hF=>hF.elim))
  obtain⟨r1,r2,r3,r4⟩:=he
  try dsimp only
  have k5:=r3.keep _ _ (nF kS hk) o5
  have u1:∀b o,b≠kS->s''.heap.get? b=some o->(s''.heap.update kS (K1 (·.push u))).get? b=some o:=λb o n e=>by rw[Mi _ _ _ _ n];exact e
  have ek:rows.take (j+1)=rows.take j++ [ns]:=by rw[List.take_add_one,hns];simp
  have ea:(kA.push u).toList=kA.toList++ [u]:=by simp
  have vk:∀v ms,VF (kS::F) s''.heap v ms->VF (kS::F) (s''.heap.update kS (K1 (·.push u))) v ms:=λv ms z=>z.keep λb o n e=>u1 b o (λy=>n (by simp[y])) e
  refine J5 (PV k5 rfl ?_ (by rw[K7];omega) (KD (NA (Array.size_push ..)) (by rw[K7];omega)))
  refine Kd ⟨rfl,r1.trans o1,r2,qZ (o3.trans r3) hk u1,u1 L _ hne.symm (r3.keep _ _ (nF L hs) o4),kA.push u,_,Qx k5 (·.push u),?_⟩
  rw[ea,ek];exact kY (vk _ _ r4) (Paired.JI o6 λv ms z=>vk v ms (z.keep λb o n e=>r3.keep b o (λy=>n (Ka _ y)) e))
 case done=>
  rintro s' ⟨o1,o2,o3,o4,kA,e,o5,o6⟩
  have e3:rows.take (0+vs.length)=rows:=MX (by omega)
  rw[e3]at o6
  try dsimp only
  refine J5 (Sh o5 rfl ?_)
  exact FR hu hs hk hne o1 o2 o3 o4 o5 o6 hlen h64 q
end
end Tr
namespace Tr
def k8:List T->Option (List (List Int))
 | [] =>some []
 | .lst l::r=>match cM l,k8 r with
  | some ns,some k=>some (ns::k)
  | _,_=>none
 | _=>none
def Bv (ns:List Int):List Int:=(-(ns.length:Int))::ns
def rW:List T->Rs T
 | [.lst l] =>match k8 l with
  | some k=>if k.length<64 then .ok (.lst (((k.map Bv).mergeSort m9).map λr=> .lst (r.tail.map .int)))else .bad
  | none=> .bad
 | _=> .bad
def Gu (ns:List Int):List Int:=ns.foldl (λσ k=>if k∈σ then σ else σ++ [k]) []
def tK (a b:Int):Bool:=decide (a<=b)
def oH:List T->Rs T
 | [.lst l] =>match cM l with
  | some ns=>if (decide (ns.length<=4)&&ns.all λn=>decide (0<=n)&&decide (n<100))=true then .ok (.lst (((Gu ns).mergeSort tK).map .int))else .bad
  | none=> .bad
 | _=> .bad
theorem iM {k m:List Int}(p:m.Perm k)(s:m.Pairwise (λa b=>tK a b=true)):m=k.mergeSort tK:=by
 exact Pf (le:=λa b=>tK a b=true) (λa b _ _ h g=>by simp only[tK,decide_eq_true_eq]at h g;omega) s (PF (λa b c h g=>by simp only[tK,decide_eq_true_eq]at*;omega) (λa b=>by simp only[tK,SM,decide_eq_true_eq];omega) k) (p.trans (QZ k tK).symm)
def vF:List T->Rs T
 | [.lst l] =>match cM l with
  | some ns=>if ns.length<64 then .ok (.lst ((ns.mergeSort tK).map .int))else .bad
  | none=> .bad
 | _=> .bad
end Tr
namespace Tr
open PySem PySem.Spec PyProof.Rows L2 PySem.W
section
variable {X:Cx}{pins:List (Addr×Obj)}{σ:L2.St}{H H':Hp}{s s':Kb}
theorem Az (I:Inv X pins σ H s)(os:s'.os=s.os)(bare:MJ s'.gens)(kp:KpF (jE X.stack) s.heap s'.heap)(free:∀b o,s.heap.get? b=some o->H b=none->H' b=none)(same:Same H H')(hok:HOk X.prog X.w H' s'.heap):Inv X pins σ H' s':=by
 obtain⟨hh,g,d,t,os'⟩:=s';obtain rfl:os'=s.os:=os;refine I.call (ch:=[]) ⟨λb o e n hb _=>kp.keep b o hb e,λb o e n hb _=>kp.slot b o hb e,λb o e n _=>free b o e n,λb o e _=> ?_,λb xs e=>same _ _ e,λb o u e=>same _ _ e,λb q e=>same _ _ e⟩ hok bare λb z=>absurd z (by simp)
 by_cases hb:b∈jE X.stack
 ·obtain⟨sl,e'⟩:=kp.slot b o hb e
  exact⟨_,e'⟩
 ·exact⟨o,kp.keep b o hb e⟩
theorem AB (I:Inv X pins σ H s)(kp:KpF (jE X.stack) s.heap s'.heap):HOk X.prog X.w H s'.heap:=λb u e=>
 (I.hok b u e).Jr (λc v hc q=>kp.keep c v (λz=>by
  have:=I.IR c z;rcases hc with rfl | hc
  ·rw[e]at this;cases this
  ·rw[hc]at this;cases this) q) (λ_ q=>q) λ_ _ q=>q
theorem v3 {K:Frag}{O:Ow}{H:Hp}:∀{l:List T} {k:List (List Int)} {ws:List V} {its:List J8},k8 l=some k->Reps K O H l ws->Vals ws its->k.length=its.length/\∀(j:Nat) (r:List Int) (v:J8),(k.map Bv)[j]? =some r->its[j]? =some v->∃ns b,r=Bv ns/\v= .ref b/\Rep K O H (.lst (ns.map .int)) (.ref b)
 | [],k,ws,its,h,rs,rv=>by
  cases h;cases Reps.Da.mp rs;cases rv
  exact⟨rfl,λj r v e=>by simp at e⟩
 | t::l,k,ws,its,h,rs,rv=>by
  obtain⟨v0,ws',rfl,r0,rs'⟩:=Reps.me.mp rs
  cases rv with
  | cons a rv=>
   cases t with
   | lst m=>
    unfold k8 at h
    split at h
    ·rename_i ns k' h1 h2
     cases h;obtain⟨g1,g2⟩:=v3 h2 rs' rv;refine⟨by rw[Kj,Kj,g1],λj r v e1 e2=> ?_⟩
     cases j with
     | zero=>
      cases e1;cases e2;obtain⟨b,vs,rfl,_⟩:=Rep.Do.mp r0;refine⟨ns,b,rfl,a,?_⟩
      rw[<-iP h1];exact r0
     | succ j=>exact g2 j r v (by simpa using e1) (by simpa using e2)
    ·cases h
   | _=>unfold k8 at h;cases h
theorem i5:∀{xs:List Int} {us:List J8},Vals (xs.map V.int) us->LI us xs
 | [],us,r=>by cases r;exact .nil
 | x::xs,us,r=>by
  cases r with
  | cons a r=>
   obtain⟨t,rfl⟩:=a;exact .cons x t (i5 r)
theorem rV {K:Frag}{O:Ow}{H:Hp}:∀{ps:List (List Int×J8)},(∀p∈ps,∃ns b,p.1=Bv ns/\p.2= .ref b/\Rep K O H (.lst (ns.map .int)) (.ref b))->Vals (ps.map λp=>bkV p.2) (ps.map SC)/\Reps K O H (ps.map λp=> .lst (p.1.tail.map .int)) (ps.map λp=>bkV p.2)
 | [],_=>⟨.nil,Reps.GT⟩
 | p::ps,h=>by
  obtain⟨ns,b,e1,e2,r⟩:=h p Kg;obtain⟨g1,g2⟩:=rV λq hq=>h q (Ka _ hq)
  rw[Ke,Ke,Ke,e1,e2];exact⟨.cons rfl g1,Reps.FS r g2⟩
theorem E5 {k:Nat}{e:Expr}{fs:En->Rs (List T)}{c P:Addr}{p pos kp p8 pp p1 p2 p3 p4 p5 p6:Pos}(hr:Room (k+3) X.A)(hm:X.mg "sorted" =none)(hml:X.mg "len" =none)(hcode:X.env.code= .ref c)(C:CodeHd X.base c P)(hTb:∀H,Tb X.K X.mg H->H P=some (.tbl (X.env.qual++ "<lambda>")))(B:Jk X.K X.mg)(ha:oy X [e] fs)
  (hst:aV [e] =true:=by rfl) (hg:Gl X "sorted":=by rfl) (hcl:QB gj X.env=pure []:=by rfl) :
  cj X (.Call (.Name "sorted" p) [e] [⟨some "key",.Lambda (kF pp) (lM p1 p2 p3 p4 p5 p6) gj p8,kp⟩] pos) (cl rW fs):=by
 intro pins s σ H Q I ⟨Z,O,Ev,hq⟩;unfold aV at hst;rw[J9]at hst
 have e2:Kx [e] X.env=(false,eval e X.env)::Kx [] X.env:=bf hst.1;refine Le (d4 I hg hm (show KQ "sorted" =some (.builtin "sorted")by decide+kernel) ?_ (by decide) (by decide))
 refine callWith_kw (bX (ha pos pins s σ H _ I (da Ev hq)) λus s1 ⟨vs,H1,I1,r1,ts,rs,sm1,E',q1⟩=> ?_) (by rw[e2];rfl) (by rw[e2];rfl)
 refine kws_cons (Ah I1 hcode C (hTb H1 I1.tb) B rfl hcl λf H2 h2 tk2 hf sm2 I2 hfn L2_=>kws_nil ?_)
 obtain⟨cc,ctv,lo,lc,lown⟩:=L2_
 have q2:=Post.later q1 sm2
 have rs2:=rs.same sm2
 have E2:=E'.same sm2;unfold rW at q2
 split at q2
 ·rename_i l
  split at q2
  ·rename_i kk hk
   by_cases h64:kk.length<64
   ·rw[if_pos h64]at q2
    obtain⟨v1,rfl,ra⟩:=rs2.one;obtain⟨c1,ws,rfl,n1,hx,rx⟩:=Rep.Do.mp ra;obtain⟨u1,rfl,z1⟩:=Vals.one r1;obtain rfl:u1=KY c1:=z1;obtain⟨z,its,n,rv,hlen,eo⟩:=I2.Jo hx;obtain⟨g1,g2⟩:=v3 hk rx rv
    have hF:∀b∈jE X.stack,b<h2.objs.size:=λb hb=>by
     obtain⟨o,eo,_⟩:=(I2.stack.mem hb).2;exact Kk eo
    have hF1:∀b∈jE X.stack,b<s1.heap.objs.size:=λb hb=>by
     obtain⟨o,eo,_⟩:=(I1.stack.mem hb).2;exact Kk eo
    have fF:f∉jE X.stack:=λhb=>absurd (hF1 f hb) (Nat.not_lt.mpr hf)
    have cF:cc∉jE X.stack:=λhb=>by have:=I2.IR cc hb;rw[lown]at this;cases this
    have i64:its.length<64:=by omega
    show wpAny (model X.prog X.w) X.A (call (.builtin "sorted") [.ref c1] [(Kr "key",.ref f)]) _ _ { s1 with heap:=h2,toks:=tk2 }
    refine call_function_entry_kw S7 Si Sj (ksk_s1 _ _) ?_
    unfold Builtin.«sorted»;refine J5 (m:=checkCount "sorted" 1 1 _) (Kd ?_)
    refine J5 (collect_list (s:={ s1 with heap:=h2,toks:=tk2 }) ⟨_,eo,rfl,n,rfl⟩ ?_ (by rw[K7];omega))
    refine J5 (PU ?_ (by rw[K7];omega))
    have hsz:((h2.push (seqObj "list" #[] 0)).update h2.objs.size (K1 (· ++its.toArray))).objs.size=h2.objs.size+1:=by
     rw[PZ,QD]
    have hoL:(((h2.push (seqObj "list" #[] 0)).update h2.objs.size (K1 (· ++its.toArray))).push (seqObj "list" its.toArray 0)).get? (h2.objs.size+1)=some (seqObj "list" its.toArray 0):=by
     rw[<-hsz];exact Kn _ rfl
    have keep:∀b o,h2.get? b=some o->(((h2.push (seqObj "list" #[] 0)).update h2.objs.size (K1 (· ++its.toArray))).push (seqObj "list" its.toArray 0)).get? b=some o:=λb o q=>by
     have hlt:b<h2.objs.size:=Kk q;rw[Pq _ _ _ (by rw[hsz];exact Ky (Lc hlt)),Mi _ _ _ _ (Ky hlt),Pq _ _ _ (Ky hlt)]
     exact q
    show wpAny _ _ _ _ _ { s1 with heap:=((h2.push (seqObj "list" #[] 0)).update h2.objs.size (K1 (· ++its.toArray))).push (seqObj "list" its.toArray 0),toks:=tk2 }
    rw[hsz];refine J5 (Ly (wpAny_call_entry_kw QU ⟨_,hoL,rfl⟩ Qw ?body (ksk_l1 _ _)))
    show wpAny (model X.prog X.w) X.A.in1.in1 (Builtin.«list.sort» ⟨[.ref (h2.objs.size+1)],[(Kr "key",.ref f)]⟩) _ _ _
    rw[ksk_t1];refine FT (F:=jE X.stack) (s0:={ s1 with heap:=h2,toks:=tk2 }) (rows:=kk.map Bv) (by have:=hr.un;show X.A.units+1+1+60<cLine;omega) hF (NX _) rfl I2.bare ⟨λb o _ e=>keep b o e,λb o _ e=>⟨o.slots,keep b o e⟩⟩ hoL (by rw[Kh];exact g1) i64 (M:=λ_=>True) (λi v row kS hkS hv hrow s' o1 o2 o3 ⟨ok,hok⟩=> ?_) λs3 out cx o1 o2 o3 o4 ⟨ps,t1,t2,t3⟩=>⟨_,rfl,?_⟩
    ·obtain⟨ns,b,rfl,rfl,rb⟩:=g2 i row v hrow hv
     obtain⟨b',wb,eb,nb,hb,rwb⟩:=Rep.Do.mp rb;cases eb;cases Reps.JD rwb
     have I3:Inv X pins σ H2 s':=Az I2 o1 o2 o3 (λ_ _ _ n=>n) (λ_ _ e=>e) (AB I2 o3)
     obtain⟨zb,itb,nb',rvb,hlb,eob⟩:=I3.Jo hb
     have bl:b<h2.objs.size:=I2.hok.lt hb
     have:=Ag (k:=k) (G:=kS::jE X.stack) (E:=λ_ _=>False) (ob:=default) I3 hr (f:=f) (q:=X.env.qual++ "<lambda>") (pp:=pp) (p1:=p1) (p2:=p2) (p3:=p3) (p4:=p4) (p5:=p5) (p6:=p6) ⟨cc,ctv,o3.keep _ _ fF lo,let ⟨c2,oc,vs,t,a1,a2,a3⟩:=lc;⟨c2,oc,vs,t,a1,o3.keep _ _ (by cases a1;exact cF) a2,a3⟩⟩ (a:=b) (its:=itb) (n:=nb') (ms:=ns) (by rw[hb];simp) eob (i5 rvb) (by rw[<-hlb];exact zb) hml λc hc=> ?_
     ·exact this
     ·rcases Ko.mp hc with rfl | hc
      ·exact⟨LC (Kl bl hkS),ok,hok⟩
      ·refine⟨λz=> ?_,?_⟩
       ·have:=I2.IR c hc;rw[z,hb]at this;cases this
       ·obtain⟨o,eo,_⟩:=(I3.stack.mem hc).2
        exact⟨o,eo⟩
    ·refine Kd ⟨_,rfl,?_⟩
     have pm:∀p∈ps,∃ns b,p.1=Bv ns/\p.2= .ref b/\Rep X.K O H2 (.lst (ns.map .int)) (.ref b):=λp hp=>by
      have hp':=t1.mem_iff.mp hp;obtain⟨j,hj⟩:=Os hp'
      rw[List.getElem?_zip_eq_some]at hj
      exact g2 j p.1 p.2 hj.1 hj.2
     obtain⟨v1,v2⟩:=rV pm
     have hL:H2 (h2.objs.size+1)=none:=I2.hok.fresh (NX _)
     have eS:=gc (k:=kk.map Bv) (m:=ps.map SD) (by
      have:=t1.map SD
      rwa [List.map_fst_zip (by rw[Kh];omega)]at this) t3
     have hps:ps.length=its.length:=by have:=t1.length_eq;rw[SU,Kh]at this;omega
     refine⟨.ref (h2.objs.size+1),upd H2 (h2.objs.size+1) (.lst (ps.map λp=>bkV p.2)),Az I2 o1 o2 o3 (λb o e n=>by rw[aJ (Ky (Lc (Kk e)))];exact n) (aN hL _) (λb u e=> ?_),rfl,q2 _ (aN hL _) _ ?_⟩
     ·by_cases hb:b=h2.objs.size+1
      ·subst hb
       rw[aT]at e;cases e;refine⟨by rw[Kh,hps,K7];omega,out.toList,cx,by rw[t2];exact v1,?_⟩
       rw[o4]
      ·rw[aJ hb]at e
       exact(AB I2 o3 b u e).Jr (λ_ _ _ q=>q) (λd q=>aN hL _ _ _ q) λd xs q=>aN hL _ _ _ q
     ·rw[<-eS,KB]
      exact dF hL (E2.fresh hL) v2
   ·rw[if_neg h64]at q2;exact q2.elim
  ·exact q2.elim
 ·exact q2.elim
end
theorem iZ (P a:Addr):∀l:Frag,(l.filter λp=> !(p.1 == P)).lookup a=if a=P then none else l.lookup a
 | [] =>by rw[List.filter_nil];split <;> rfl
 | (b,o)::l=>by
  by_cases hb:b=P
  ·subst hb
   rw[List.filter_cons_of_neg (by simp),iZ b a l]
   split
   ·rfl
   ·rename_i h;rw[K8,beq_false_of_ne h]
  ·rw[List.filter_cons_of_pos (by simp[hb]),K8,K8,iZ P a l]
   cases q:a == b with
   | true=>
    have:=eq_of_beq q;subst this
    simp[hb]
   | false=>rfl
def BJ (K:Frag):Option (Addr×Addr):=match nsIn K KF "most_kept" with
 | some (some (.ref f))=>match K.lookup f with
  | some ⟨_,_,.func d,_⟩=>match d.code with
   | .ref c=>match K.lookup c with
    | some ⟨.type n,_,.fields vs,_⟩=>match(vs[11]?:Option J8),(vs[18]?:Option J8),(vs[7]?:Option J8),(vs[9]?:Option J8),(vs[10]?:Option J8)with
     | some (.ref P),some (.str _ _),some (.int _ _),some (.bool _),some (.int _ _)=>if n == "code" &&c != P then some (c,P)else none
     | _,_,_,_,_=>none
    | _=>none
   | _=>none
  | _=>none
 | _=>none
structure LmK (K:Frag)(f c P:Addr):Prop where
 nm:nsIn K KF "most_kept" =some (some (.ref f))
 fn:∃o d,K.lookup f=some o/\o.data= .func d/\d.code= .ref c
 cd:∃oc vs,K.lookup c=some oc/\oc.data= .fields vs/\vs[11]? =some (.ref P)
 hd:∀h:Heap,K.In h->CodeHd h c P
theorem BI {K:Frag}{c P:Addr}(e:BJ K=some (c,P)):∃f,LmK K f c P:=by
 unfold BJ at e
 split at e
 ·rename_i f hf
  split at e
  ·rename_i oc od d osl hl
   split at e
   ·rename_i c' hc
    split at e
    ·rename_i n dd vs sl hk
     split at e
     ·rename_i P' file tf flags tg inF text tt h11 h18 h7 h9 h10
      split at e
      ·rename_i hn
       cases e;simp only[J9,beq_iff_eq,bne_iff_ne]at hn;obtain⟨rfl,hne⟩:=hn;refine⟨f,hf,⟨_,d,hl,rfl,hc⟩,⟨_,vs,hk,rfl,h11⟩,λh KX=>⟨_,vs,file,tf,flags,tg,inF,text,tt,KX _ _ hk,rfl,rfl,h11,?_,?_,?_,?_,?_,hne⟩⟩
       ·simp[LP,h11]
       ·simp[LP,h18]
       ·simp[LP,h7]
       ·simp[LP,h9]
       ·simp[LP,h10]
      ·cases e
     ·cases e
    ·cases e
   ·cases e
  ·cases e
 ·cases e
def GG (K:Frag):Bool:=match nsIn K KF "__builtins__" with
 | some (some (.ref bm))=>bm != NC&&bm != KF&&(match K.lookup bm with
  | some ⟨.type n,some d,.plain,_⟩=>n == "module" &&d == NC
  | _=>false)
 | _=>false
theorem GF {K:Frag}{h:Heap}{mg:Str->Option J8}(X:K.In h)(G:h.Ns KF mg)(e:GG K=true):Jk K mg:=by
 unfold GG at e
 split at e
 ·rename_i bm hb
  split at e
  ·rename_i n d sl hl
   simp only[J9,beq_iff_eq,bne_iff_ne]at e;obtain⟨⟨h1,h2⟩,rfl,rfl⟩:=e;exact⟨bm,_,mg_of X G hb,h1,h2,hl,rfl,rfl,rfl⟩
  ·simp at e
 ·cases e
theorem LmK.tb {K:Frag}{f c P:Addr}{h:Heap}{mg:Str->Option J8}(L:LmK K f c P)(X:K.In h)(G:h.Ns KF mg){H:Hp}(hH:H P=some (.tbl lr)):Tb K mg H:=λf' o fd c' oc vs P' a1 a2 a3 a4 a5 a6 a7=>by
 rw[mg_of X G L.nm]at a1;cases a1;obtain⟨o2,d2,b1,b2,b3⟩:=L.fn;rw[b1]at a2;cases a2;rw[b2]at a3;cases a3;rw[b3]at a4;cases a4;obtain⟨oc2,vs2,c1,c2,c3⟩:=L.cd;rw[c1]at a5;cases a5;rw[c2]at a6;cases a6;rw[c3]at a7;cases a7;exact hH
def ny (h:Heap)(P:Addr):Frag:=(AK h).filter λp=> !(p.1 == P)
theorem AI (h:Heap)(P:Addr):(ny h P).In h:=λa o e=>by
 unfold ny at e;rw[iZ]at e
 split at e
 ·cases e
 ·exact AJ h a o e
theorem AH (h:Heap)(P:Addr):(ny h P).lookup P=none:=by unfold ny;rw[iZ,if_pos rfl]
def v7 (S:rJ)(h:Heap):=match BJ (AK h)with
 | some (_,P)=>(oh S (ny h P),match BJ (ny h P)with
  | some (_,P')=>P' == P&&GG (ny h P)&&(match h.get? P with
   | some ⟨.none,none,.fields ps,sl⟩=>ps.size == 0&&sl.size == 0
   | _=>false)
  | none=>false)
 | none=>(oh S [],false)
def D9 (S:rJ)(top:Nat->Stmt)(h:Heap):Prop:=∃(K:Frag) (f c P:Addr),K.In h/\oh S K=lW S top/\K.lookup P=none/\LmK K f c P/\GG K=true/\h.get? P=some (tabObj #[])
theorem z5 {S:rJ}{top:Nat->Stmt}{h:Heap}(e:v7 S h=(lW S top,true)):D9 S top h:=by
 unfold v7 at e
 split at e
 ·rename_i c0 P h0
  obtain⟨e1,e2⟩:=Px e
  split at e2
  ·rename_i c P' h1
   simp only[J9,beq_iff_eq]at e2;obtain⟨⟨rfl,e3⟩,e4⟩:=e2
   split at e4
   ·rename_i ps sl hP
    simp only[J9,beq_iff_eq]at e4;obtain⟨f,L⟩:=BI h1;refine⟨_,f,c,P',AI h P',e1,AH h P',L,e3,?_⟩
    rw[hP,Od e4.1,Od e4.2]
   ·cases e4
  ·cases e2
 ·cases (Px e).2
def hookX (S:rJ)(top:Nat->Stmt):Hook:=
 ⟨_,λs=>v7 S s.heap,λ_=>(lW S top,true),λ_ h=>D9 S top h,λ_ s e=>z5 e,λ_ _ _ ⟨K,f,c,P,a,b,d,l,m,t⟩ k=>⟨K,f,c,P,a.keeps k,b,d,l,m,k _ _ t⟩⟩
theorem walk_x {l:OpenLaw}{n k:Nat}{q:Kz}{loose:List Str}{XP:(Str->Option J8)->Heap->Prop}{d:DefRec}{S:rJ}{top:Nat->Stmt}{CX:yE}{sp:Frag->Sp}{x:Str}
  (hn:l.most=some n) (hn2:n<=sizeLine) (hdf:d.params.defaults= []) (hr:Room k callerA)
  (F:∀(w:Lb) (K:Frag) (mg:Str->Option J8) (fa:Addr) (h:Heap),K.In h->oh S K=lW S top->(∃f c P,LmK K f c P)->GG K=true->h.Ns KF mg->mg d.name=some (.ref fa) →
   ∃fd:L7,(∀(s:Kb) (u:J8),RY s fd ⟨[u],[]⟩ [(x,u)])/\∀base:Heap,K.In base->base.Ns KF mg->rG l.prog w K mg base CX k fa fd [x] (sp K))
  (hsp:∀(K:Frag) (H:Hp) (a:Addr) (ns:List Int),ns.length<=n->GJ H->SqL K H a (ns.map V.int)->sp K [.ref a] H (λv _=>v= .bl true) λ_ _ _=>False)
  (hCX:∀(H:Hp) (s:Kb) (e:J8) (s':Kb),CX [] H s (λ_ _ _=>False) e s'->False) :
  WalkO q loose XP (hookX S top).says l.row.toRowW d [] (λf vs=>PySem.call f vs):=by
 refine Att.attach_call hn hdf λw s₀ s₁ mg mb fa o pm cd doc a vs ns G Y ho hd hcd hmg hobj hints hlen hg=> ?_
 obtain⟨K,f,c,P,KX,e,hPK,L,hbm,hP⟩:=Y;obtain⟨fd,hb,hF⟩:=F w K mg fa _ KX e ⟨f,c,P,L⟩ hbm G.T.g hmg;exact Af KX G.T.g G.T.b G.T.builtins G.T.nolimit hg hobj hints (KD hlen hn2) hr (P0:=P) (c0:=c) ((L.hd _ KX).tab hP) hPK (λH hH=>L.tb KX G.T.g hH) hF hb (λH hO hS=>hsp K H a ns hlen hO hS) λH e s'=>hCX H s₁ e s'
end Tr
namespace Tr
open PySem PySem.Spec PyProof.Rows L2
section
variable {X:Cx}{a:Expr}{fs:En->Rs (List T)}{p p1 p2 pos:Pos}
theorem CV (ns:List Int):kC (λi=>ns.getD i 0) ns.length=Gu ns:=by
 unfold kC FJ Gu
 congr 1
 refine Ol (by simp) λi h1 h2=> ?_
 simp[KH,Kf h2]
theorem EZ (hc:X.calm=true)(hm:X.mg "sorted" =none)(hms:X.mg "set" =none)(ha:oy X [a] fs)(hst:aV [a] =true:=by rfl)(hg:Gl X "sorted":=by rfl)(hgs:Gl X "set":=by rfl) :
  cj X (.Call (.Name "sorted" p) [.Call (.Name "set" p1) [a] [] p2] [] pos) (cl oH fs):=by
 intro pins s σ H Q I ⟨Z,O,Ev,hq⟩
 have e1:Kx [LN (.Name "set" p1) [a] [] p2] X.env=(false,eval (.Call (.Name "set" p1) [a] [] p2) X.env)::Kx [] X.env:=bf rfl;unfold aV at hst;rw[J9]at hst
 have e2:Kx [a] X.env=(false,eval a X.env)::Kx [] X.env:=bf hst.1;refine Le (d4 I hg hm (show KQ "sorted" =some (.builtin "sorted")by decide+kernel) ?_ (by decide) (by decide))
 refine ML ?_ e1 rfl
 rw[e1];refine Ms ?_
 refine Le (d4 I hgs hms (show KQ "set" =some (.type "set")by decide+kernel) ?_ (by decide) (by decide))
 refine K2 (bX (ha p2 pins s σ H _ I (da Ev hq)) λus s1 ⟨vs,H1,I1,r1,ts,rs,s',E',q1⟩=> ?_) e2 rfl
 unfold oH at q1
 split at q1
 ·rename_i l
  split at q1
  ·rename_i ns hn
   split at q1
   ·rename_i hz
    rw[J9,Ks]at hz;obtain⟨v1,rfl,ra⟩:=rs.one;obtain⟨c1,ws,rfl,n1,hx,rx⟩:=Rep.Do.mp ra;obtain⟨u1,rfl,z1⟩:=Vals.one r1;obtain rfl:u1=KY c1:=z1;obtain⟨z,its,n,rv,hlen,eo⟩:=I1.Jo hx
    have el:=iP hn;subst el;cases Reps.JD rx
    have hi:=i5 rv
    have hl:=hi.length
    have h4:=of_decide_eq_true hz.1
    have hd:X.A.handled=none:=I1.ok.hd hc;refine yp (items:=its.toArray) (ns:=ns) hd ⟨_,eo,rfl,n,rfl⟩ (by simpa using hi) (by rw[Kp];omega) (λi h=> ?_) λh' tk es ep pl x hp kp et=> ?_
    ·rw[Kp]at h
     have hm:=hz.2 (ns.getD i 0) (by rw[KH,Kf (by omega)];exact Mq _)
     rw[J9]at hm;exact⟨of_decide_eq_true hm.1,of_decide_eq_true hm.2⟩
    refine Me ?_
    refine uu (s:={ s1 with heap:=h',toks:=tk }) hd x λpA out ms h1 h2 tk2 nn k1 pl1 k2 ho2 hi2 pm pw et2=> ?_
    have keep:∀b u,s1.heap.get? b=some u->h2.get? b=some u:=λb u e=>k2 _ _ (k1 _ _ (kp b u (Kk e) e))
    have hfr:s1.heap.objs.size<=pA:=by
     have h0:s1.heap.objs.size<h1.objs.size:=Kk (k1 _ _ x.at_);exact KD (LB h0) pl1
    have hH:H1 pA=none:=I1.hok.fresh hfr
    have em:ms=(Gu ns).mergeSort tK:=by
     refine iM ?_ (pw.imp λh=>decide_eq_true h)
     rw[Kp,show its.length=ns.length by omega,CV]at hp
     exact pm.trans hp
    have ml:ms.length<=4:=by
     have:=hi2.length
     have e5:ms.length=(bV es).length:=pm.length_eq
     have e6:(bV es).length=es.size:=by unfold bV;simp
     have e7:=x.len
     have:=x.few;omega
    refine⟨.ref pA,upd H1 pA (.lst (ms.map V.int)),I1.laid (t':=tk2) keep hfr ⟨by rw[Kh,K7];omega,out.toList,nn,fZ hi2,by rw[ho2]⟩,rfl,q1 _ (aN hH _) _ ?_⟩
    rw[<-em];exact dF hH (E'.fresh hH) Reps.ints
   ·exact q1.elim
  ·exact q1.elim
 ·exact q1.elim
end
end Tr
namespace Tr
open PySem PySem.Spec PyProof.Rows L2 PySem.W
def GK (K:Frag)(mg:Str->Option J8)(base:Heap):Prop:=∃f c P,mg "most_kept" =some (.ref f)/\(∃o d,K.lookup f=some o/\o.data= .func d/\d.code= .ref c)/\CodeHd base c P/\(∀H,Tb K mg H->H P=some (.tbl lr))/\Jk K mg
theorem C2 {K:Frag}{mg:Str->Option J8}{h base:Heap}(L:∃f c P,LmK K f c P)(b:GG K=true)(X:K.In h)(G:h.Ns KF mg)(X2:K.In base):GK K mg base:=by
 obtain⟨f,c,P,L⟩:=L
 have hL:=L;obtain⟨o,d,b1,b2,b3⟩:=hL.fn;obtain⟨oc,vs,c1,c2,c3⟩:=hL.cd
 have m:=mg_of X G L.nm;exact⟨f,c,P,m,⟨o,d,b1,b2,b3⟩,L.hd base X2,λH t=>t f o d c oc vs P m b1 b2 b3 c1 c2 c3,GF X G b⟩
section
variable {X:Cx}{e:Expr}{fs:En->Rs (List T)}{p pos kp p8 pp p1 p2 p3 p4 p5 p6:Pos}{f:Addr}{cdv:J8}{k:Nat}
theorem BC (L:GK X.K X.mg X.base)(hx:∃o fd,X.mg "most_kept" =some (.ref f)/\X.K.lookup f=some o/\o.data= .func fd/\fd.code=X.env.code)(hr:Room (k+3) X.A)(hm:X.mg "sorted" =none)(hml:X.mg "len" =none)(ha:QA X [e] fs)
  (hq:X.env.qual= "most_kept" ++ ".<locals>.":=by rfl) (hst:aV [e] =true:=by rfl) (hg:Gl X "sorted":=by rfl) (hcl:QB gj X.env=pure []:=by rfl) :
  QE X (.Call (.Name "sorted" p) [e] [⟨some "key",.Lambda (kF pp) (lM p1 p2 p3 p4 p5 p6) gj p8,kp⟩] pos) (cl rW fs):=by
 obtain⟨f',c,P,m,⟨o,d,b1,b2,b3⟩,C,T,B⟩:=L;obtain⟨o',d',m',a1,a2,a3⟩:=hx;rw[m]at m';cases m';rw[b1]at a1;cases a1;rw[b2]at a2;cases a2;exact⟨E5 hr hm hml (a3.symm.trans b3) C (λH t=>by rw[hq];exact T H t) B ha.h hst hg hcl⟩
theorem BB {a:Expr}(hc:X.calm=true)(hm:X.mg "sorted" =none)(hms:X.mg "set" =none)(ha:QA X [a] fs)(hst:aV [a] =true:=by rfl)(hg:Gl X "sorted":=by rfl)(hgs:Gl X "set":=by rfl) :
  QE X (.Call (.Name "sorted" p) [.Call (.Name "set" p1) [a] [] p2] [] pos) (cl oH fs):=⟨EZ hc hm hms ha.h hst hg hgs⟩
theorem Ba:CallT X (.builtin "sorted") vF:=by
 intro pins s σ H O ts vs us Q I hf rs rv hp;unfold vF at hp
 split at hp
 ·rename_i l
  obtain⟨v,rfl,r⟩:=rs.one
  split at hp
  ·rename_i ns hn
   split at hp
   ·rename_i h64
    obtain⟨a,ws,rfl,n,q,z⟩:=Rep.Do.mp r;obtain⟨u,rfl,ru⟩:=Vals.one rv;obtain rfl:u=KY a:=ru;obtain⟨zz,its,m,r',hlen,eo⟩:=I.Jo q
    have el:=iP hn;subst el;cases Reps.JD z
    have hi:=i5 r'
    have hl:=hi.length
    have i64:its.length<64:=by omega
    refine O8 S7 Si Sj (args_sorted1 _) ?_
    unfold Builtin.«sorted»;refine J5 (m:=checkCount "sorted" 1 1 _) (Kd ?_)
    refine J5 (collect_list ⟨_,eo,rfl,m,rfl⟩ ?_ (by rw[K7];omega))
    refine J5 (PU ?_ (by rw[K7];omega))
    generalize hh1:(s.heap.push (seqObj "list" #[] 0)).update s.heap.objs.size (K1 (· ++its.toArray))=h1
    have hsz:h1.objs.size=s.heap.objs.size+1:=by rw[<-hh1,PZ,QD]
    have keep1:∀b o,s.heap.get? b=some o->h1.get? b=some o:=λb o q=>by
     have hlt:b<s.heap.objs.size:=Kk q;rw[<-hh1,Mi _ _ _ _ (Ky hlt),Pq _ _ _ (Ky hlt)]
     exact q
    have hoL:(h1.push (seqObj "list" its.toArray 0)).get? h1.objs.size=some (seqObj "list" its.toArray 0):=Kn _ rfl
    show wpAny _ _ _ _ _ { s with heap:=h1.push (seqObj "list" its.toArray 0) }
    refine J5 (Ly (Ln QU ⟨_,hoL,rfl⟩ Qw (list_sort_tree (s:={ s with heap:=h1.push (seqObj "list" its.toArray 0) }) hoL hi i64 λout ms a1 a2 a3=>⟨_,rfl,?_⟩) (args_list_sort _)))
    obtain⟨nn,hnn⟩:=sortedHeap_at (out:=out) hoL
    have em:ms=ns.mergeSort tK:=iM a2 (a3.imp λh=>decide_eq_true h)
    have hfr:H h1.objs.size=none:=I.hok.fresh (by rw[hsz];exact NX _)
    refine Kd ⟨_,rfl,.ref h1.objs.size,upd H h1.objs.size (.lst (ms.map V.int)),I.laid (t':=s.toks) (λb o e=> ?_) (by rw[hsz];exact NX _) ⟨by rw[Kh,a2.length_eq,K7];omega,out.toList,nn,fZ a1,by rw[hnn]⟩,rfl,hp _ (aN hfr _) _ ?_⟩
    ·have hlt:b<h1.objs.size:=Kk (keep1 b o e)
     rw[sortedHeap_old (Ky hlt) (by rw[QD];exact Lc hlt)]
     exact Kc _ (keep1 b o e)
    ·rw[<-em]
     exact dF hfr (hf _ hfr) Reps.ints
   ·exact hp.elim
  ·exact hp.elim
 ·exact hp.elim
end
end Tr
namespace G
open PySem PySem.Spec PyProof.Rows L2 Tr
def top (i:Nat):Stmt:=Lf.main.body.getD i (.Pass ⟨0,0,0,0⟩)
structure Bl (mg:Str->Option J8):Prop where
 b_all:mg "all" =none
 b_bool:mg "bool" =none
 b_dict:mg "dict" =none
 b_enumerate:mg "enumerate" =none
 b_int:mg "int" =none
 b_isinstance:mg "isinstance" =none
 b_len:mg "len" =none
 b_list:mg "list" =none
 b_max:mg "max" =none
 b_range:mg "range" =none
 b_set:mg "set" =none
 b_sorted:mg "sorted" =none
 b_sum:mg "sum" =none
 b_tuple:mg "tuple" =none
structure Cs (mg:Str->Option J8):Prop where
 MOST_CLOCKS:∃t,mg "MOST_CLOCKS" =some (.int 4 t)
 MOST_LETTERS:∃t,mg "MOST_LETTERS" =some (.int 8 t)
 MOST_READINGS:∃t,mg "MOST_READINGS" =some (.int 4 t)
 LAST_READING:∃t,mg "LAST_READING" =some (.int 99 t)
 SLOWEST:∃t,mg "SLOWEST" =some (.int 9 t)
 LONGEST:∃t,mg "LONGEST" =some (.int 999 t)
theorem rB:KQ "bool" =some (.type "bool"):=by decide+kernel
theorem ue:KQ "int" =some (.type "int"):=by decide+kernel
theorem rA:KQ "list" =some (.type "list"):=by decide+kernel
theorem cL:KQ "tuple" =some (.type "tuple"):=by decide+kernel
structure Xs (K:J6)(mg:Str->Option J8)(C_NoRecord C_NoNumber C_ClockError:Addr):Prop where
 m_NoRecord:mg "NoRecord" =some (.ref C_NoRecord)
 m_NoNumber:mg "NoNumber" =some (.ref C_NoNumber)
 m_ClockError:mg "ClockError" =some (.ref C_ClockError)
 o_NoRecord:OX K C_NoRecord (.ref C_ClockError::wU)
 o_NoNumber:OX K C_NoNumber (.ref C_ClockError::wU)
 o_ClockError:OX K C_ClockError wU
 d:[C_NoRecord,C_NoNumber,C_ClockError].Nodup
end G
namespace G
open PySem Tr
def pR:En->Rs Fl:=
 (aG (bJ (o1 (Ay "tuple") (vr 0)) (ch GQ GQ (vr 1) (cl cY (ae (vr 0) ai)) (vr 2))))
def aH:List T->Rs T:=val 3 3 pR
def vo:En->Rs Fl:=
 (aG (bJ (o1 (Ay "int") (vr 0)) (o1 CS (o1 (Ay "bool") (vr 0)))))
def dm:List T->Rs T:=val 1 1 vo
def iF:En->Rs Fl:=
 (aG (bJ (cl dm (ae (vr 0) ai)) (ch GQ GQ (vr 1) (vr 0) (vr 2))))
def aK:List T->Rs T:=val 3 3 iF
def kP:En->Rs Fl:=
 (aG (bJ (cl aK (ae (vr 0) (ae (cn (.int 1)) (ae (cn (.int 9)) ai)))) (cl aK (ae (vr 1) (ae (vr 0) (ae (cn (.int 9)) ai))))))
def ff:List T->Rs T:=val 2 2 kP
def w6:En->Rs Fl:=
 (aG (cl nW (ae (eO (iR (ae (o2 dX (cl cY (ae (vr 0) ai)) (cn (.int 1))) ai)) [none,some 0] (gN 0) bT (o2 HW (o2 aO (vr 1) (vr 0)) (o2 aO (vr 1) (o2 bD (vr 0) (cn (.int 1)))))) ai)))
def iY:List T->Rs T:=val 1 1 w6
def dR:En->Rs Fl:=
 (ay (eG (cp (tb (cl aH (ae (vr 0) (ae (cn (.int 1)) (ae (cn (.int 4)) ai)))))) (aG (cn (.bl false))) sN) (aG (bJ (cl nW (ae (eO (iS (vr 0)) [none] (gN 0) bT (cl aK (ae (vr 0) (ae (cn (.int 0)) (ae (cn (.int 99)) ai))))) ai)) (cl iY (ae (vr 0) ai)))))
def bw:List T->Rs T:=val 1 1 dR
def gI:En->Rs Fl:=
 (aG (bJ (cl aH (ae (vr 0) (ae (cn (.int 3)) (ae (cn (.int 3)) ai)))) (bJ (cl ff (ae (o2 aO (vr 0) (cn (.int 0))) (ae (o2 aO (vr 0) (cn (.int 1))) ai))) (cl bw (ae (o2 aO (vr 0) (cn (.int 2))) ai)))))
def cT:List T->Rs T:=val 1 1 gI
def gJ:En->Rs Fl:=
 (aG (bJ (cl aH (ae (vr 0) (ae (cn (.int 1)) (ae (cn (.int 4)) ai)))) (cl nW (ae (eO (iS (vr 0)) [none] (gN 0) bT (cl cT (ae (vr 0) ai))) ai))))
def cX:List T->Rs T:=val 1 1 gJ
def gG:En->Rs Fl:=
 (ay (eG (ki (cp (tb (cl aH (ae (vr 1) (ae (cn (.int 2)) (ae (cn (.int 2)) ai)))))) (cp (tb (cl aK (ae (o2 aO (vr 1) (cn (.int 0))) (ae (cn (.int 0)) (ae (o2 dX (cl cY (ae (vr 0) ai)) (cn (.int 1))) ai))))))) (aG (cn (.bl false))) sN) (aG (cl aK (ae (o2 aO (vr 1) (cn (.int 1))) (ae (cn (.int 0)) (ae (o2 dX (cl cY (ae (o2 aO (o2 aO (vr 0) (o2 aO (vr 1) (cn (.int 0)))) (cn (.int 2))) ai)) (cn (.int 1))) ai))))))
def cS:List T->Rs T:=val 2 2 gG
def gH:En->Rs Fl:=
 (aG (bJ (cl aK (ae (vr 0) (ae (cn (.int 0)) (ae (cn (.int 999)) ai)))) (Bt (o2 kG (vr 1) (cn .non)) (cl aK (ae (vr 1) (ae (vr 0) (ae (cn (.int 999)) ai)))))))
def dq:List T->Rs T:=val 2 2 gH
def dB:En->Rs Fl:=
 (ay (eG (ki (cp (tb (cl aH (ae (vr 1) (ae (cn (.int 4)) (ae (cn (.int 4)) ai)))))) (cp (tb (cl dq (ae (o2 aO (vr 1) (cn (.int 2))) (ae (o2 aO (vr 1) (cn (.int 3))) ai)))))) (aG (cn (.bl false))) sN) (aG (bJ (cl cS (ae (vr 0) (ae (o2 aO (vr 1) (cn (.int 0))) ai))) (bJ (cl cS (ae (vr 0) (ae (o2 aO (vr 1) (cn (.int 1))) ai))) (o2 j7 (o2 aO (vr 1) (cn (.int 0))) (o2 aO (vr 1) (cn (.int 1))))))))
def bF:List T->Rs T:=val 2 2 dB
def fY:En->Rs Fl:=
 (aG (bJ (cl aH (ae (vr 1) (ae (cn (.int 0)) (ae (cn (.int 8)) ai)))) (cl nW (ae (eO (iS (vr 1)) [none,some 0] (gN 0) bT (cl bF (ae (vr 1) (ae (vr 0) ai)))) ai))))
def cJ:List T->Rs T:=val 2 2 fY
def fQ:En->Rs Fl:=
 (aG (bJ (cl aH (ae (vr 0) (ae (cn (.int 2)) (ae (cn (.int 2)) ai)))) (bJ (cl cX (ae (o2 aO (vr 0) (cn (.int 0))) ai)) (cl cJ (ae (o2 aO (vr 0) (cn (.int 0))) (ae (o2 aO (vr 0) (cn (.int 1))) ai))))))
def cR:List T->Rs T:=val 1 1 fQ
def fU:En->Rs Fl:=
 (eG (cp (tb (cl cR (ae (vr 0) ai)))) (B1 "NoRecord") sN)
def ba:List T->Rs T:=val 1 1 fU
def fV:En->Rs Fl:=
 (eG (cp (tb (cl aK (ae (vr 1) (ae (cn (.int 0)) (ae (o2 dX (vr 0) (cn (.int 1))) ai)))))) (B1 "NoNumber") sN)
def d8:List T->Rs T:=val 2 2 fV
def d5:En->Rs Fl:=
 (ay (Br (cl ba (ae (vr 0) ai))) (ay (cz (o2 aO (vr 0) (cn (.int 1))) (gN 2)) (ay (Br (cl d8 (ae (cl cY (ae (vr 2) ai)) (ae (vr 1) ai)))) (aG (a9 (ae (o2 aO (vr 0) (cn (.int 0))) (ae (o2 bD (sl (vr 2) pN (pS (vr 1))) (sl (vr 2) (pS (o2 bD (vr 1) (cn (.int 1)))) pN)) ai)))))))
def bH:List T->Rs T:=val 2 3 d5
def iH:En->Rs Fl:=
 (ay (eG (tb (o2 jn (vr 0) (gE ai))) (aG (o2 de (cn (.int 7)) (vr 1))) sN) (aG (o2 bD (o2 aO (vr 0) (o2 dU (vr 1) (cl cY (ae (vr 0) ai)))) (o2 de (cn (.int 6553)) (o2 eC (vr 1) (cl cY (ae (vr 0) ai)))))))
def ez:List T->Rs T:=val 2 2 iH
def gK:En->Rs Fl:=
 (ay (cz (o2 dU (o2 bD (o2 de (o2 dU (cl ez (ae (vr 0) (ae (vr 1) ai))) (cn (.int 2147483563))) (cn (.int 69069))) (o2 de (cn (.int 104723)) (o2 bD (vr 1) (cn (.int 1))))) (cn (.int 2147483563))) (gN 3)) (ay (cz (o2 dU (o2 bD (o2 de (vr 3) (vr 3)) (o2 eC (vr 3) (cn (.int 3)))) (cn (.int 2147483399))) (gN 3)) (aG (o2 dU (o2 eC (o2 dU (o2 bD (o2 de (vr 3) (vr 3)) (o2 eC (vr 3) (cn (.int 7)))) (cn (.int 2147483647))) (cn (.int 11))) (vr 2)))))
def aX:List T->Rs T:=val 3 4 gK
def nZ:En->Rs Fl:=
 (ay (Br (cl ba (ae (vr 0) ai))) (ay (hZ 1 ai) (ay (i8 (iE (ae (o2 aO (vr 0) (cn (.int 0))) ai)) (gT 2 (u7 (gN 2) (u7 (gN 3) C9))) (mm 1 (eO (iR (ae (cl cY (ae (o2 aO (vr 3) (cn (.int 2))) ai)) ai)) [none,some 2] (gN 0) bT (a9 (ae (vr 1) (ae (vr 0) ai)))))) (qk 1 (aG (vr 1))))))
def dI:List T->Rs T:=val 1 4 nZ
def iG:En->Rs Fl:=
 (ay (cz (oD gR (vr 0) (o2 aO (vr 1) (cn (.int 1)))) (gN 3)) (aG (Bt (o2 kG (vr 3) (cn .non)) (o2 HW (o2 bD (o2 aO (vr 2) (cn (.int 0))) (o2 aO (vr 1) (cn (.int 2)))) (o2 aO (vr 3) (cn (.int 0)))))))
def cU:List T->Rs T:=val 3 4 iG
def iC:En->Rs Fl:=
 (ay (oJ 2 (eO (iS (vr 1)) [none] (gN 0) bT (a9 (ae (vr 0) (ae (a9 (ae (cn (.int 0)) (ae (gE ai) ai))) ai))))) (ay (cz (cn (.bl true)) (gN 3)) (ay (aU (tb (vr 3)) (ay (cz (cn (.bl false)) (gN 3)) (i8 (iE (ae (vr 0) ai)) (gT 2 (u7 (gN 4) (u7 (gN 5) C9))) (ay (cz (ln 2 (oD gR (vr 2) (o2 aO (vr 5) (cn (.int 0))))) (gN 6)) (ay (eG (ki (tb (o2 kG (vr 6) (cn .non))) (cp (FL 2 (tb (cl cU (ae (vr 2) (ae (vr 5) (ae (vr 6) ai)))))))) DI sN) (ay (cz (o2 bD (o2 aO (vr 6) (cn (.int 1))) (gE (ae (vr 4) ai))) (gN 7)) (ay (cz (eO (iS (vr 7)) [none,some 0] (gN 0) bT (o2 aO (o2 aO (vr 1) (vr 0)) (cn (.int 0)))) (gN 8)) (ay (eG (tb (o2 GS (o2 aO (vr 5) (cn (.int 1))) (vr 8))) (aG (a9 (ae (cn .non) (ae (sl (vr 7) (pS (oL fN (vr 8) (o2 aO (vr 5) (cn (.int 1))))) pN) ai)))) sN) (ay (xv 2 (o2 aO (vr 5) (cn (.int 1))) (a9 (ae (o2 bD (o2 aO (vr 6) (cn (.int 0))) (o2 aO (vr 5) (cn (.int 2)))) (ae (vr 7) ai)))) (cz (cn (.bl true)) (gN 3)))))))))) FU) (qk 2 (aG (a9 (ae (vr 2) (ae (cn .non) ai))))))))
def bL:List T->Rs T:=val 2 9 iC
def d6:En->Rs Fl:=
 (ay (cz (cl dI (ae (vr 0) ai)) (gN 2)) (ay (cz (o2 aO (cl bL (ae (vr 1) (ae (vr 2) ai))) (cn (.int 0))) (gN 3)) (ay (eG (tb (o2 kG (vr 3) (cn .non))) (aG (cn .non)) sN) (aG (cl fR (ae (eO (iS (vr 2)) [none,some 3] (gN 0) bT (o2 aO (o2 tV (vr 1) (vr 0)) (cn (.int 0)))) ai))))))
def cW:List T->Rs T:=val 2 4 d6
def dQ:En->Rs Fl:=
 (ay (cz (o2 aO (vr 1) (cn (.int 2))) (gN 2)) (ay (hZ 3 ai) (ay (i8 (iR (ae (o2 dX (cl cY (ae (vr 2) ai)) (cn (.int 1))) ai)) (gN 4) (ay (cz (a9 (ae (vr 0) (ae (vr 4) ai))) (gN 5)) (ay (cz (a9 (ae (vr 0) (ae (o2 bD (vr 4) (cn (.int 1))) ai))) (gN 6)) (ay (cz (o2 dX (o2 aO (vr 2) (o2 bD (vr 4) (cn (.int 1)))) (o2 aO (vr 2) (vr 4))) (gN 7)) (ay (lp 3 (a9 (ae (vr 5) (ae (vr 6) (ae (o2 de (vr 7) (o2 aO (vr 1) (cn (.int 1)))) ai))))) (lp 3 (a9 (ae (vr 6) (ae (vr 5) (ae (o2 de (o1 jb (vr 7)) (o2 aO (vr 1) (cn (.int 0)))) ai)))))))))) (qk 3 (aG (vr 3))))))
def bZ:List T->Rs T:=val 2 8 dQ
def du:En->Rs Fl:=
 (ay (hZ 1 (ae (a9 (ae (o2 aO (vr 0) (cn (.int 1))) (ae (o2 aO (vr 0) (cn (.int 0))) (ae (o1 jb (o2 aO (vr 0) (cn (.int 2)))) ai)))) ai)) (ay (eG (tb (o2 jh (o2 aO (vr 0) (cn (.int 3))) (cn .non))) (lp 1 (a9 (ae (o2 aO (vr 0) (cn (.int 0))) (ae (o2 aO (vr 0) (cn (.int 1))) (ae (o2 aO (vr 0) (cn (.int 3))) ai))))) sN) (qk 1 (aG (vr 1)))))
def bM:List T->Rs T:=val 1 2 du
def n4:En->Rs Fl:=
 (ay (Br (cl ba (ae (vr 0) ai))) (ay (hZ 1 ai) (ay (i8 (iE (ae (o2 aO (vr 0) (cn (.int 0))) ai)) (gT 2 (u7 (gN 2) (u7 (gN 3) C9))) (mm 1 (cl bZ (ae (vr 2) (ae (vr 3) ai))))) (ay (i8 (iS (o2 aO (vr 0) (cn (.int 1)))) (gN 4) (mm 1 (cl bM (ae (vr 4) ai)))) (qk 1 (aG (vr 1)))))))
def bN:List T->Rs T:=val 1 5 n4
def DB:En->Rs Fl:=
 (aG (cl cW (ae (vr 0) (ae (cl bN (ae (vr 0) ai)) ai))))
def eR:List T->Rs T:=val 1 1 DB
def uj:En->Rs Fl:=
 (aG (o2 jh (cl eR (ae (vr 0) ai)) (cn .non)))
def aR:List T->Rs T:=val 1 1 uj
def oA:En->Rs Fl:=
 (aG (bJ (cl aH (ae (vr 0) (ae (cn (.int 2)) (ae (cn (.int 2)) ai)))) (bJ (cl dm (ae (o2 aO (vr 0) (cn (.int 0))) ai)) (bJ (cl dm (ae (o2 aO (vr 0) (cn (.int 1))) ai)) (o2 Jd (o2 aO (vr 0) (cn (.int 1))) (cn (.int 0)))))))
def d9:List T->Rs T:=val 1 1 oA
def fX:En->Rs Fl:=
 (aG (bJ (o1 (Ay "list") (vr 1)) (cl nW (ae (eO (iS (vr 1)) [none,some 0] (gN 0) bT (cl aK (ae (vr 0) (ae (cn (.int 0)) (ae (o2 dX (cl cY (ae (vr 1) ai)) (cn (.int 1))) ai))))) ai))))
def cI:List T->Rs T:=val 2 2 fX
def kh:En->Rs Fl:=
 (ay (eG (cp (tb (cl cI (ae (vr 0) (ae (vr 3) ai))))) (aG (cn (.bl false))) sN) (ay (cz (vr 1) (gN 4)) (ay (i8 (iS (vr 3)) (gN 5) (ay (eG (tb (o2 j7 (o2 aO (o2 aO (vr 0) (vr 5)) (cn (.int 0))) (vr 4))) (aG (cn (.bl false))) sN) (cz (o2 aO (o2 aO (vr 0) (vr 5)) (cn (.int 1))) (gN 4)))) (aG (o2 jn (vr 4) (vr 2))))))
def j8:List T->Rs T:=val 4 6 kh
def fW:En->Rs Fl:=
 (ay (eG (ki (cp (tb (cl cI (ae (vr 0) (ae (vr 1) ai))))) (tb (o2 jn (vr 1) (gE ai)))) (aG (cn (.bl false))) sN) (ay (cz (o2 aO (o2 aO (vr 0) (o2 aO (vr 1) (cn (.int 0)))) (cn (.int 0))) (gN 2)) (aG (cl j8 (ae (vr 0) (ae (vr 2) (ae (vr 2) (ae (vr 1) ai))))))))
def cH:List T->Rs T:=val 2 3 fW
def nY:En->Rs Fl:=
 (aG (cl BO (ae (eO (iS (vr 1)) [none,some 0] (gN 0) bT (o2 aO (o2 aO (vr 1) (vr 0)) (cn (.int 2)))) ai)))
def cQ:List T->Rs T:=val 2 2 nY
def gF:En->Rs Fl:=
 (ay (cz (cl bN (ae (vr 0) ai)) (gN 3)) (ay (eG (ki (cp (tb (cl d9 (ae (vr 1) ai)))) (cp (tb (cl cH (ae (vr 3) (ae (vr 2) ai)))))) (aG (cn (.bl false))) sN) (aG (o2 GQ (o2 de (cl cQ (ae (vr 3) (ae (vr 2) ai))) (o2 aO (vr 1) (cn (.int 1)))) (o2 de (o2 aO (vr 1) (cn (.int 0))) (cl cY (ae (vr 2) ai)))))))
def eU:List T->Rs T:=val 3 4 gF
def yz:En->Rs Fl:=
 (aG (o2 aO (cl bL (ae (cl bN (ae (vr 0) ai)) (ae (cl dI (ae (vr 0) ai)) ai))) (cn (.int 1))))
def fg:List T->Rs T:=val 1 1 yz
def jC:En->Rs Fl:=
 (aG (eO (iS (vr 0)) [none,some 2,some 1] (gN 0) bT (a9 (ae (o2 aO (vr 0) (cn (.int 0))) (ae (o2 aO (vr 0) (cn (.int 1))) (ae (o2 dX (o2 de (o2 aO (vr 0) (cn (.int 2))) (vr 1)) (vr 2)) ai))))))
def dZ:List T->Rs T:=val 3 3 jC
def fT:En->Rs Fl:=
 (ay (cz (cl bN (ae (vr 0) ai)) (gN 1)) (ay (cz (cl dI (ae (vr 0) ai)) (gN 2)) (ay (cz (cn .non) (gN 3)) (ay (cz (o2 aO (cl bL (ae (cl dZ (ae (vr 1) (ae (cn (.int 1)) (ae (cn (.int 0)) ai)))) (ae (vr 2) ai))) (cn (.int 1))) (gN 4)) (ay (aU (tb (o2 jh (vr 4) (cn .non))) (ay (cz (vr 4) (gN 3)) (cz (o2 aO (cl bL (ae (cl dZ (ae (vr 1) (ae (cl cQ (ae (vr 1) (ae (vr 3) ai))) (ae (cl cY (ae (vr 3) ai)) ai)))) (ae (vr 2) ai))) (cn (.int 1))) (gN 4))) FU) (aG (vr 3)))))))
def bp:List T->Rs T:=val 1 5 fT
def dP:En->Rs Fl:=
 (ay (cz (cl FK (ae (eO (iR (ae (cn (.int 1)) (ae (o2 bD (vr 1) (cn (.int 1))) ai))) [none,some 0,some 1] (gN 0) (kN (tb (o2 jn (o2 dU (vr 1) (vr 0)) (cn (.int 0)))) (tb (o2 jn (o2 dU (vr 2) (vr 0)) (cn (.int 0))))) (vr 0)) ai)) (gN 2)) (aG (a9 (ae (o2 eC (vr 0) (vr 2)) (ae (o2 eC (vr 1) (vr 2)) ai)))))
def cN:List T->Rs T:=val 2 3 dP
def vn:En->Rs Fl:=
 (ay (cz (cl bp (ae (vr 0) ai)) (gN 1)) (ay (eG (tb (o2 kG (vr 1) (cn .non))) (aG (cn .non)) sN) (aG (cl cN (ae (cl cQ (ae (cl bN (ae (vr 0) ai)) (ae (vr 1) ai))) (ae (cl cY (ae (vr 1) ai)) ai))))))
def ij:List T->Rs T:=val 1 2 vn
def GN:En->Rs Fl:=
 (ay (cz (cl bN (ae (vr 0) ai)) (gN 2)) (aG (bJ (cl cH (ae (vr 2) (ae (vr 1) ai))) (o2 HW (cl cQ (ae (vr 2) (ae (vr 1) ai))) (cn (.int 0))))))
def m4:List T->Rs T:=val 2 3 GN
def oB:En->Rs Fl:=
 (aG (lR (ae (cl cY (ae (o2 aO (vr 0) (cn (.int 1))) ai)) ai)))
def cK:List T->Rs T:=val 1 1 oB
def ui:En->Rs Fl:=
 (aG (a9 (ae (o2 aO (vr 0) (cn (.int 0))) (ae (cl fR (ae (eO (iS (vr 1)) [none,some 0] (gN 0) bT (o2 aO (o2 aO (vr 1) (cn (.int 1))) (vr 0))) ai)) ai))))
def cq:List T->Rs T:=val 2 2 ui
def yx:En->Rs Fl:=
 (aG (eO (iS (vr 0)) [none,some 1] (gN 0) (tb (o2 j7 (vr 0) (vr 1))) (vr 0)))
def iW:List T->Rs T:=val 2 2 yx
def jD:En->Rs Fl:=
 (ay (eG (tb (cl aR (ae (vr 0) ai))) (aG (gE ai)) sN) (ay (cz (cl cK (ae (vr 0) ai)) (gN 1)) (aG (eO (iS (vr 1)) [none,some 0,some 1] (gN 0) (tb (cl aR (ae (cl cq (ae (vr 1) (ae (cl iW (ae (vr 2) (ae (vr 0) ai))) ai))) ai))) (vr 0)))))
def fA:List T->Rs T:=val 1 2 jD
def yy:En->Rs Fl:=
 (ay (cz (gE (ae (gE ai) ai)) (gN 1)) (ay (i8 (iS (vr 0)) (gN 2) (cz (o2 bD (vr 1) (eO (iS (vr 1)) [none,some 2] (gN 0) bT (o2 bD (vr 0) (gE (ae (vr 1) ai))))) (gN 1))) (aG (vr 1))))
def iX:List T->Rs T:=val 1 3 yy
def iD:En->Rs Fl:=
 (ay (Br (cl ba (ae (vr 0) ai))) (ay (cz (cl rW (ae (cl iX (ae (cl cK (ae (vr 0) ai)) ai)) ai)) (gN 1)) (ay (cz (cn (.int 0)) (gN 2)) (ay (aU (cp (tb (cl aR (ae (cl cq (ae (vr 0) (ae (o2 aO (vr 1) (vr 2)) ai))) ai)))) (za 2 (cn (.int 1))) FU) (aG (o2 aO (vr 1) (vr 2)))))))
def dz:List T->Rs T:=val 1 3 iD
def Bo:En->Rs Fl:=
 (ay (cz (o2 bD (cn (.int 2)) (cl aX (ae (vr 0) (ae (cn (.int 0)) (ae (cn (.int 3)) ai))))) (gN 1)) (ay (cz (cl fR (ae (eO (iR (ae (vr 1) ai)) [none,some 0] (gN 0) bT (a9 (ae (cn (.int 1)) (ae (cn (.int 1)) (ae (a9 (ae (cl aX (ae (vr 1) (ae (o2 bD (cn (.int 1)) (vr 0)) (ae (cn (.int 100)) ai)))) ai)) ai))))) ai)) (gN 2)) (ay (cz (eO (iR (ae (vr 1) ai)) [none,some 0] (gN 0) bT (cl aX (ae (vr 1) (ae (o2 bD (cn (.int 10)) (vr 0)) (ae (cn (.int 6)) ai))))) (gN 3)) (ay (cz (cl fR (ae (eO (iR (ae (vr 1) ai)) [none,some 1,some 3] (gN 0) bT (a9 (ae (a9 (ae (vr 0) (ae (cn (.int 0)) ai))) (ae (a9 (ae (o2 dU (o2 bD (vr 0) (cn (.int 1))) (vr 1)) (ae (cn (.int 0)) ai))) (ae (o2 aO (vr 2) (vr 0)) (ae (cn .non) ai)))))) ai)) (gN 4)) (ay (cz (a9 (ae (vr 2) (ae (vr 4) ai))) (gN 5)) (ay (cz (cl BO (ae (vr 3) ai)) (gN 6)) (ay (eG (tb (o2 j7 (cl aR (ae (vr 5) ai)) (o2 jn (vr 6) (cn (.int 0))))) (aG (cn (.bl false))) sN) (ay (cz (vr 1) (gN 7)) (ay (cz (o2 dX (cn (.int 0)) (vr 6)) (gN 8)) (ay (i8 (iS (a9 (ae (cn (.int 2)) (ae (cn (.int 3)) (ae (cn (.int 4)) ai))))) (gN 9) (aU (kN (tb (o2 jn (o2 dU (vr 8) (vr 9)) (cn (.int 0)))) (tb (o2 jn (o2 dU (vr 7) (vr 9)) (cn (.int 0))))) (ay (cz (o2 eC (vr 8) (vr 9)) (gN 8)) (cz (o2 eC (vr 7) (vr 9)) (gN 7))) FU)) (ay (eG (tb (o2 jn (vr 6) (cn (.int 0)))) (cz (cn (.int 1)) (gN 7)) sN) (ay (eG (ki (tb (o2 j7 (cl ij (ae (vr 5) ai)) (a9 (ae (vr 8) (ae (vr 7) ai))))) (tb (o2 j7 (cl vF (ae (cl bp (ae (vr 5) ai)) ai)) (lR (ae (vr 1) ai))))) (aG (cn (.bl false))) sN) (ay (eG (cp (tb (cl eU (ae (vr 5) (ae (a9 (ae (vr 8) (ae (vr 7) ai))) (ae (cl bp (ae (vr 5) ai)) ai)))))) (aG (cn (.bl false))) sN) (ay (eG (tb (o2 Jd (vr 6) (cn (.int 0)))) (ay (cz (cl fg (ae (vr 5) ai)) (gN 10)) (ay (eG (ki (tb (o2 j7 (cl oH (ae (vr 10) ai)) (lR (ae (vr 1) ai)))) (cp (tb (cl m4 (ae (vr 5) (ae (o1 xw (lR (ae (vr 1) ai))) ai)))))) (aG (cn (.bl false))) sN) (eG (ki (tb (o2 j7 (cl fA (ae (vr 5) ai)) (lR (ae (vr 1) ai)))) (tb (o2 j7 (cl dz (ae (vr 5) ai)) (lR (ae (o2 dX (vr 1) (cn (.int 1))) ai))))) (aG (cn (.bl false))) sN))) sN) (ay (i8 (iR (ae (vr 1) ai)) (gN 11) (ay (cz (cl bH (ae (vr 5) (ae (vr 11) ai))) (gN 12)) (eG (ki (cp (tb (cl aR (ae (vr 12) ai)))) (tb (o2 jh (cl ij (ae (vr 12) ai)) (cn .non)))) (aG (cn (.bl false))) sN))) (ay (cz (cl bH (ae (vr 5) (ae (o2 dX (vr 1) (cn (.int 1))) ai))) (gN 13)) (ay (hZ 14 (ae (cn (.int 0)) ai)) (ay (i8 (iS (sl (vr 3) pN (pS (o2 dX (vr 1) (cn (.int 1)))))) (gN 15) (lp 14 (o2 bD (ln 14 (o2 aO (vr 14) (o1 jb (cn (.int 1))))) (vr 15)))) (aG (o2 jn (cl eR (ae (vr 13) ai)) (ln 14 (cl fR (ae (eO (iS (vr 14)) [none,some 14] (gN 0) bT (o2 dX (vr 0) (o2 aO (vr 1) (o1 jb (cn (.int 1)))))) ai)))))))))))))))))))))))
def m_law:List T->Rs T:=val 1 16 Bo
end G
namespace G
open PySem PySem.Spec PyProof.Rows L2 Tr
section
variable (P:Kz)(w:Lb){K:J6}{mg:Str->Option J8}(base:Heap)
abbrev l4:Stmt:=top 13
abbrev uW:List Str:=["thing","least","most"]
theorem uE:ax uW ["thing","least","most"] (aj l4):=fD
theorem uR (F:fH K mg "is_long" l4 ["thing","least","most"])(B:Bl mg):Cl P w K mg base 1 "is_long" 3 aH:=
 aW F uE rfl λf c A o s H E hr x=>(ar (aw (cv (vq B.b_isinstance B.b_tuple cL (af 0)) (c6 (rM sH sH (af 1) (cP dt B.b_len Nh (ah (af 0) ag)) (af 2))))))
abbrev kR:Stmt:=top 11
abbrev sV:List Str:=["thing"]
theorem sd:ax sV ["thing"] (aj kR):=fD
theorem sL (F:fH K mg "is_whole" kR ["thing"])(B:Bl mg):Cl P w K mg base 1 "is_whole" 1 dm:=
 aW F sd rfl λf c A o s H E hr x=>(ar (aw (cv (vq B.b_isinstance B.b_int ue (af 0)) (c6 (Ei (vq B.b_isinstance B.b_bool rB (af 0)))))))
abbrev jO:Stmt:=top 12
abbrev qN:List Str:=["thing","least","most"]
theorem qf:ax qN ["thing","least","most"] (aj jO):=fD
theorem qD (F:fH K mg "is_within" jO ["thing","least","most"])(aaf:Cl P w K mg base 1 "is_whole" 1 dm):Cl P w K mg base 2 "is_within" 3 aK:=
 aW F qf rfl λf c A o s H E hr x=>(ar (aw (cv (aI aaf hr (ah (af 0) ag)) (c6 (rM sH sH (af 1) (af 0) (af 2))))))
abbrev l3:Stmt:=top 16
abbrev uV:List Str:=["slow","fast"]
theorem uD:ax uV ["slow","fast"] (aj l3):=fD
theorem uQ (F:fH K mg "is_pace" l3 ["slow","fast"])(aa0:Cl P w K mg base 2 "is_within" 3 aK)(C:Cs mg):Cl P w K mg base 3 "is_pace" 2 ff:=
 aW F uD rfl λf c A o s H E hr x=>(ar (aw (cv (aI aa0 hr (ah (af 0) (ah ak (ah (rL C.SLOWEST) ag)))) (c6 (aI aa0 hr (ah (af 1) (ah (af 0) (ah (rL C.SLOWEST) ag))))))))
abbrev l0:Stmt:=top 14
abbrev sU:List Str:=["numbers"]
theorem y9:ax sU ["numbers"] (aj l0):=fD
theorem zN (F:fH K mg "rises" l0 ["numbers"])(B:Bl mg):Cl P w K mg base 1 "rises" 1 iY:=
 aW F y9 rfl λf c A o s H E hr x=>(ar (aw (cP (nL rfl) B.b_all SG (ah (dD (N':=["k","numbers"]) (src:=[none,some 0]) rfl (LcScope.by (N:=sU) (names:=(aj l0).names) rfl rfl rfl (by decide+kernel)) (di B.b_range (ah (az dY (cP dt B.b_len Nh (ah (af 0) ag)) ak) ag)) (λ_ _ _ _ _=>⟨(aq 0 (show La (["k","numbers"]:List Str)by decide+kernel)),bu,(eE zJ (aB (af 1) (af 0)) (aB (af 1) (az b9 (af 0) ak)))⟩)) ag))))
abbrev eF:Stmt:=top 15
abbrev gM:List Str:=["thing"]
theorem lj:ax gM ["thing"] (aj eF):=fD
theorem lq (F:fH K mg "are_readings" eF ["thing"])(aa1:Cl P w K mg base 1 "is_long" 3 aH)(aaY:Cl P w K mg base 1 "rises" 1 iY)(aa0:Cl P w K mg base 2 "is_within" 3 aK)(B:Bl mg)(C:Cs mg):Cl P w K mg base 3 "are_readings" 1 bw:=
 aW F lj rfl λf c A o s H E hr x=>(ao (bA (cf (bz (aI aa1 hr (ah (af 0) (ah ak (ah (rL C.MOST_READINGS) ag)))))) (ar (aw eI)) a8) (ar (aw (cv (cP (nL rfl) B.b_all SG (ah (dD (N':=["part"]) (src:=[none]) rfl (LcScope.by (N:=gM) (names:=(aj eF).names) rfl rfl rfl (by decide+kernel)) (bB (af 0)) (λ_ _ _ _ _=>⟨(aq 0 (show La (["part"]:List Str)by decide+kernel)),bu,(aI aa0 hr (ah (af 0) (ah ak (ah (rL C.LAST_READING) ag))))⟩)) ag)) (c6 (aI aaY hr (ah (af 0) ag)))))))
abbrev kX:Stmt:=top 17
abbrev sY:List Str:=["thing"]
theorem sg:ax sY ["thing"] (aj kX):=fD
theorem sP (F:fH K mg "is_clock" kX ["thing"])(aa1:Cl P w K mg base 1 "is_long" 3 aH)(aaR:Cl P w K mg base 3 "is_pace" 2 ff)(aar:Cl P w K mg base 3 "are_readings" 1 bw):Cl P w K mg base 4 "is_clock" 1 cT:=
 aW F sg rfl λf c A o s H E hr x=>(ar (aw (cv (aI aa1 hr (ah (af 0) (ah ak (ah ak ag)))) (cv (aI aaR hr (ah (aB (af 0) ak) (ah (aB (af 0) ak) ag))) (c6 (aI aar hr (ah (aB (af 0) ak) ag)))))))
abbrev fS:Stmt:=top 18
abbrev ji:List Str:=["thing"]
theorem n8:ax ji ["thing"] (aj fS):=fD
theorem oa (F:fH K mg "are_clocks" fS ["thing"])(aa1:Cl P w K mg base 1 "is_long" 3 aH)(aaM:Cl P w K mg base 4 "is_clock" 1 cT)(B:Bl mg)(C:Cs mg):Cl P w K mg base 5 "are_clocks" 1 cX:=
 aW F n8 rfl λf c A o s H E hr x=>(ar (aw (cv (aI aa1 hr (ah (af 0) (ah ak (ah (rL C.MOST_CLOCKS) ag)))) (c6 (cP (nL rfl) B.b_all SG (ah (dD (N':=["part"]) (src:=[none]) rfl (LcScope.by (N:=ji) (names:=(aj fS).names) rfl rfl rfl (by decide+kernel)) (bB (af 0)) (λ_ _ _ _ _=>⟨(aq 0 (show La (["part"]:List Str)by decide+kernel)),bu,(aI aaM hr (ah (af 0) ag))⟩)) ag))))))
abbrev kU:Stmt:=top 19
abbrev sW:List Str:=["clocks","thing"]
theorem se:ax sW ["clocks","thing"] (aj kU):=fD
theorem sM (F:fH K mg "is_event" kU ["clocks","thing"])(aa0:Cl P w K mg base 2 "is_within" 3 aK)(aa1:Cl P w K mg base 1 "is_long" 3 aH)(B:Bl mg):Cl P w K mg base 3 "is_event" 2 cS:=
 aW F se rfl λf c A o s H E hr x=>(ao (bA (gS (gu (cf (bz (aI aa1 hr (ah (af 1) (ah ak (ah ak ag)))))) (eQ (cf (bz (aI aa0 hr (ah (aB (af 1) ak) (ah ak (ah (az dY (cP dt B.b_len Nh (ah (af 0) ag)) ak) ag))))))))) (ar (aw eI)) a8) (ar (aw (aI aa0 hr (ah (aB (af 1) ak) (ah ak (ah (az dY (cP dt B.b_len Nh (ah (aB (aB (af 0) (aB (af 1) ak)) ak) ag)) ak) ag)))))))
abbrev kW:Stmt:=top 20
abbrev sX:List Str:=["least","most"]
theorem sf:ax sX ["least","most"] (aj kW):=fD
theorem sO (F:fH K mg "is_delay" kW ["least","most"])(aa0:Cl P w K mg base 2 "is_within" 3 aK)(C:Cs mg):Cl P w K mg base 3 "is_delay" 2 dq:=
 aW F sf rfl λf c A o s H E hr x=>(ar (aw (cv (aI aa0 hr (ah (af 0) (ah ak (ah (rL C.LONGEST) ag)))) (c6 (DC (eE sI (af 1) dj) (c6 (aI aa0 hr (ah (af 1) (ah (af 0) (ah (rL C.LONGEST) ag))))))))))
abbrev jQ:Stmt:=top 21
abbrev qP:List Str:=["clocks","thing"]
theorem qh:ax qP ["clocks","thing"] (aj jQ):=fD
theorem qF (F:fH K mg "is_letter" jQ ["clocks","thing"])(aaz:Cl P w K mg base 3 "is_event" 2 cS)(aa1:Cl P w K mg base 1 "is_long" 3 aH)(aaN:Cl P w K mg base 3 "is_delay" 2 dq):Cl P w K mg base 4 "is_letter" 2 bF:=
 aW F qh rfl λf c A o s H E hr x=>(ao (bA (gS (gu (cf (bz (aI aa1 hr (ah (af 1) (ah ak (ah ak ag)))))) (eQ (cf (bz (aI aaN hr (ah (aB (af 1) ak) (ah (aB (af 1) ak) ag)))))))) (ar (aw eI)) a8) (ar (aw (cv (aI aaz hr (ah (af 0) (ah (aB (af 1) ak) ag))) (cv (aI aaz hr (ah (af 0) (ah (aB (af 1) ak) ag))) (c6 (eE (jW (gB hr)) (aB (af 1) ak) (aB (af 1) ak))))))))
abbrev fo:Stmt:=top 22
abbrev ig:List Str:=["clocks","thing"]
theorem mi:ax ig ["clocks","thing"] (aj fo):=fD
theorem mH (F:fH K mg "are_letters" fo ["clocks","thing"])(aa1:Cl P w K mg base 1 "is_long" 3 aH)(aaG:Cl P w K mg base 4 "is_letter" 2 bF)(B:Bl mg)(C:Cs mg):Cl P w K mg base 5 "are_letters" 2 cJ:=
 aW F mi rfl λf c A o s H E hr x=>(ar (aw (cv (aI aa1 hr (ah (af 1) (ah ak (ah (rL C.MOST_LETTERS) ag)))) (c6 (cP (nL rfl) B.b_all SG (ah (dD (N':=["part","clocks"]) (src:=[none,some 0]) rfl (LcScope.by (N:=ig) (names:=(aj fo).names) rfl rfl rfl (by decide+kernel)) (bB (af 1)) (λ_ _ _ _ _=>⟨(aq 0 (show La (["part","clocks"]:List Str)by decide+kernel)),bu,(aI aaG hr (ah (af 1) (ah (af 0) ag)))⟩)) ag))))))
abbrev jP:Stmt:=top 23
abbrev qO:List Str:=["thing"]
theorem qg:ax qO ["thing"] (aj jP):=fD
theorem qE (F:fH K mg "is_record" jP ["thing"])(aa1:Cl P w K mg base 1 "is_long" 3 aH)(aaD:Cl P w K mg base 5 "are_clocks" 1 cX)(aau:Cl P w K mg base 5 "are_letters" 2 cJ):Cl P w K mg base 6 "is_record" 1 cR:=
 aW F qg rfl λf c A o s H E hr x=>(ar (aw (cv (aI aa1 hr (ah (af 0) (ah ak (ah ak ag)))) (cv (aI aaD hr (ah (aB (af 0) ak) ag)) (c6 (aI aau hr (ah (aB (af 0) ak) (ah (aB (af 0) ak) ag))))))))
abbrev gZ:Stmt:=top 24
abbrev mU:List Str:=["thing"]
theorem l9:ax mU ["thing"] (aj gZ):=fD
theorem mB (F:fH K mg "need_record" gZ ["thing"])(aaH:Cl P w K mg base 6 "is_record" 1 cR){C_NoRecord C_NoNumber C_ClockError:Addr}(S:Xs K mg C_NoRecord C_NoNumber C_ClockError):Cl P w K mg base 7 "need_record" 1 ba:=
 aW F l9 rfl λf c A o s H E hr x=>(ar (bA (cf (bz (aI aaH hr (ah (af 0) ag)))) (ar (oC S.o_NoRecord S.m_NoRecord)) a8))
abbrev g7:Stmt:=top 25
abbrev mV:List Str:=["many","thing"]
theorem md:ax mV ["many","thing"] (aj g7):=fD
theorem mC (F:fH K mg "need_number" g7 ["many","thing"])(aa0:Cl P w K mg base 2 "is_within" 3 aK){C_NoRecord C_NoNumber C_ClockError:Addr}(S:Xs K mg C_NoRecord C_NoNumber C_ClockError):Cl P w K mg base 3 "need_number" 2 d8:=
 aW F md rfl λf c A o s H E hr x=>(ar (bA (cf (bz (aI aa0 hr (ah (af 1) (ah ak (ah (az dY (af 0) ak) ag)))))) (ar (oC S.o_NoNumber S.m_NoNumber)) a8))
abbrev fK:Stmt:=top 46
abbrev j4:List Str:=["record","number","letters"]
theorem aay:ax j4 ["record","number"] (aj fK):=fD
theorem jY (F:fH K mg "without_letter" fK ["record","number"])(aa2:Cl P w K mg base 7 "need_record" 1 ba)(aav:Cl P w K mg base 3 "need_number" 2 d8)(B:Bl mg):Cl P w K mg base 8 "without_letter" 2 bH:=
 aW F aay rfl λf c A o s H E hr x=>(by(apply ao;exact(gV (aI aa2 hr (ah (af 0) ag)));apply ao;exact(aD (aB (af 0) ak) (aq 2 aay.nd));apply ao;exact(gV (aI aav hr (ah (cP dt B.b_len Nh (ah (af 2) ag)) (ah (af 1) ag))));exact ar (aw (bx (ah (aB (af 0) ak) (ah (az b9 (jK (af 2) jJ (jI (af 1))) (jK (af 2) (jI (az b9 (af 1) ak)) jJ)) ag))))))
abbrev jT:Stmt:=top 61
abbrev qS:List Str:=["_law_script","_law_k"]
theorem qj:ax qS ["_law_script","_law_k"] (aj jT):=fD
theorem qI (F:fH K mg "_law_cell" jT ["_law_script","_law_k"])(B:Bl mg):Cl P w K mg base 1 "_law_cell" 2 ez:=
 aW F qj rfl λf c A o s H E hr x=>(ao (bA (bc (jg (gB hr)) (af 0) (gW ag)) (ar (aw (az dH ak (af 1)))) a8) (ar (aw (az b9 (aB (af 0) (az fw (af 1) (cP dt B.b_len Nh (ah (af 0) ag)))) (az dH ak (az fL (af 1) (cP dt B.b_len Nh (ah (af 0) ag))))))))
abbrev jf:Stmt:=top 62
abbrev om:List Str:=["_law_script","_law_k","_law_many","_law_cell_here"]
theorem aaw:ax om ["_law_script","_law_k","_law_many"] (aj jf):=fD
theorem og (F:fH K mg "_law_drawn" jf ["_law_script","_law_k","_law_many"])(aaI:Cl P w K mg base 1 "_law_cell" 2 ez):Cl P w K mg base 2 "_law_drawn" 3 aX:=
 aW F aaw rfl λf c A o s H E hr x=>(by(apply ao;exact(aD (az fw (az b9 (az dH (az fw (aI aaI hr (ah (af 0) (ah (af 1) ag))) ak) ak) (az dH ak (az b9 (af 1) ak))) ak) (aq 3 aaw.nd));apply ao;exact(aD (az fw (az b9 (az dH (af 3) (af 3)) (az fL (af 3) ak)) ak) (aq 3 aaw.nd));exact ar (aw (az fw (az fL (az fw (az b9 (az dH (af 3) (af 3)) (az fL (af 3) ak)) ak) ak) (af 2)))))
abbrev kn:Stmt:=top 26
abbrev oV:List Str:=["record","told","number","clock"]
theorem aaF:ax oV ["record"] (aj kn):=fD
theorem xI (F:fH K mg "events" kn ["record"])(aa2:Cl P w K mg base 7 "need_record" 1 ba)(B:Bl mg):Cl P w K mg base 8 "events" 1 dI:=
 aW F aaF rfl λf c A o s H E hr x=>(by(apply ao;exact(gV (aI aa2 hr (ah (af 0) ag)));apply ao;exact(gU 1 aaF.nd ag);apply ao;exact(d7 rfl (lU B.b_enumerate (ah (aB (af 0) ak) ag)) (pV rfl (eZ (aq 2 aaF.nd) (eZ (aq 3 aaF.nd) lV))) (ar (pU 1 (dD (N':=["k","number"]) (src:=[none,some 2]) rfl (LcScope.by (N:=oV) (names:=(aj kn).names) rfl rfl rfl (by decide+kernel)) (di B.b_range (ah (cP dt B.b_len Nh (ah (aB (af 3) ak) ag)) ag)) (λ_ _ _ _ _=>⟨(aq 0 (show La (["k","number"]:List Str)by decide+kernel)),bu,(bx (ah (af 1) (ah (af 0) ag)))⟩)))));exact ar (jH 1 (aw (af 1)))))
abbrev jR:Stmt:=top 37
abbrev qQ:List Str:=["best","bound","ahead","known"]
theorem aaS:ax qQ ["best","bound","ahead"] (aj jR):=fD
theorem qG (F:fH K mg "is_better" jR ["best","bound","ahead"]):Cl P w K mg base 1 "is_better" 3 cU:=
 aW F aaS rfl λf c A o s H E hr x=>(ao (aD (vt (Jc hr) (af 0) (aB (af 1) ak)) (aq 3 aaS.nd)) (ar (aw (DC (eE sI (af 3) dj) (c6 (eE zJ (az b9 (aB (af 2) ak) (aB (af 1) ak)) (aB (af 3) ak)))))))
abbrev iK:Stmt:=top 36
abbrev kB:List Str:=["limits","starts","best","moved","number","bound","ahead","walk","passed"]
theorem aaa:ax kB ["limits","starts"] (aj iK):=fD
theorem xH (F:fH K mg "settle" iK ["limits","starts"])(aaJ:Cl P w K mg base 1 "is_better" 3 cU)(B:Bl mg):Cl P w K mg base 2 "settle" 2 bL:=
 aW F aaa rfl λf c A o s H E hr x=>(by(apply ao;exact(yF 2 (hu8 hr) rfl B.b_dict aaa.nd (dD (N':=["event"]) (src:=[none]) rfl (LcScope.by (N:=kB) (names:=(aj iK).names) rfl rfl rfl (by decide+kernel)) (bB (af 1)) (λ_ _ _ _ _=>⟨(aq 0 (show La (["event"]:List Str)by decide+kernel)),bu,(bx (ah (af 0) (ah (bx (ah ak (ah (gW ag) ag))) ag)))⟩)));apply ao;exact(aD eI (aq 3 aaa.nd));apply ao;exact(iI FU (bz (af 3)) (ao (aD eI (aq 3 aaa.nd)) (ar (d7 rfl (lU B.b_enumerate (ah (af 0) ag)) (pV rfl (eZ (aq 4 aaa.nd) (eZ (aq 5 aaa.nd) lV))) (by(apply ao;exact(aD (yG 2 (vt (Jc hr) (af 2) (aB (af 5) ak))) (aq 6 aaa.nd));apply ao;exact(bA (gS (gu (bc sI (af 6) dj) (eQ (cf (Ed 2 (bz (aI aaJ hr (ah (af 2) (ah (af 5) (ah (af 6) ag)))))))))) (ar Ef) a8);apply ao;exact(aD (az b9 (aB (af 6) ak) (gW (ah (af 4) ag))) (aq 7 aaa.nd));apply ao;exact(Ee 8 (N':=["step","limits"]) (src:=[none,some 0]) rfl (LcScope.by (N:=kB) (names:=(aj iK).names) rfl rfl rfl (by decide+kernel)) (bB (af 7)) (λ_ _ _ _ _=>⟨(aq 0 (show La (["step","limits"]:List Str)by decide+kernel)),bu,(aB (aB (af 1) (af 0)) ak)⟩) aaa.nd);apply ao;exact(bA (bc (HG (Ip hr)) (aB (af 5) ak) (af 8)) (ar (aw (bx (ah dj (ah (jK (af 7) (jI (w8 (Ip hr) (af 8) (aB (af 5) ak))) jJ) ag))))) a8);apply ao;exact(Bz 2 (Jc hr) (aB (af 5) ak) (bx (ah (az b9 (aB (af 6) ak) (aB (af 5) ak)) (ah (af 7) ag))));exact ar (aD eI (aq 3 aaa.nd))))))));exact ar (jH 2 (aw (bx (ah (af 2) (ah dj ag)))))))
abbrev dE:Stmt:=top 48
abbrev fM:List Str:=["record","limits","places","best"]
theorem aal:ax fM ["record","limits"] (aj dE):=fD
theorem jZ (F:fH K mg "greatest_world" dE ["record","limits"])(aag:Cl P w K mg base 8 "events" 1 dI)(aae:Cl P w K mg base 2 "settle" 2 bL)(B:Bl mg):Cl P w K mg base 9 "greatest_world" 2 cW:=
 aW F aal rfl λf c A o s H E hr x=>(by(apply ao;exact(aD (aI aag hr (ah (af 0) ag)) (aq 2 aal.nd));apply ao;exact(aD (aB (aI aae hr (ah (af 1) (ah (af 2) ag))) ak) (aq 3 aal.nd));apply ao;exact(bA (bc sI (af 3) dj) (ar (aw dj)) a8);exact ar (aw (rN iz B.b_tuple cL (ah (dD (N':=["event","best"]) (src:=[none,some 3]) rfl (LcScope.by (N:=fM) (names:=(aj dE).names) rfl rfl rfl (by decide+kernel)) (bB (af 2)) (λ_ _ _ _ _=>⟨(aq 0 (show La (["event","best"]:List Str)by decide+kernel)),bu,(aB (Ej (Jc hr) (af 1) (af 0)) ak)⟩)) ag)))))
abbrev fj:Stmt:=top 28
abbrev jz:List Str:=["number","clock","readings","told","k","first","second","steps"]
theorem aa4:ax jz ["number","clock"] (aj fj):=fD
theorem jy (F:fH K mg "bounds_of_clock" fj ["number","clock"])(B:Bl mg):Cl P w K mg base 1 "bounds_of_clock" 2 bZ:=
 aW F aa4 rfl λf c A o s H E hr x=>(by(apply ao;exact(aD (aB (af 1) ak) (aq 2 aa4.nd));apply ao;exact(gU 3 aa4.nd ag);apply ao;exact(d7 rfl (di B.b_range (ah (az dY (cP dt B.b_len Nh (ah (af 2) ag)) ak) ag)) (aq 4 aa4.nd) (by(apply ao;exact(aD (bx (ah (af 0) (ah (af 4) ag))) (aq 5 aa4.nd));apply ao;exact(aD (bx (ah (af 0) (ah (az b9 (af 4) ak) ag))) (aq 6 aa4.nd));apply ao;exact(aD (az dY (aB (af 2) (az b9 (af 4) ak)) (aB (af 2) (af 4))) (aq 7 aa4.nd));apply ao;exact(lE 3 (bx (ah (af 5) (ah (af 6) (ah (az dH (af 7) (aB (af 1) ak)) ag)))));exact ar (lE 3 (bx (ah (af 6) (ah (af 5) (ah (az dH (pW (af 7)) (aB (af 1) ak)) ag))))))));exact ar (jH 3 (aw (af 3)))))
abbrev eJ:Stmt:=top 29
abbrev ja:List Str:=["letter","told"]
theorem aaq:ax ja ["letter"] (aj eJ):=fD
theorem i9 (F:fH K mg "bounds_of_letter" eJ ["letter"]):Cl P w K mg base 1 "bounds_of_letter" 1 bM:=
 aW F aaq rfl λf c A o s H E hr x=>(by(apply ao;exact(gU 1 aaq.nd (ah (bx (ah (aB (af 0) ak) (ah (aB (af 0) ak) (ah (pW (aB (af 0) ak)) ag)))) ag));apply ao;exact(bA (bc jX (aB (af 0) ak) dj) (ar (lE 1 (bx (ah (aB (af 0) ak) (ah (aB (af 0) ak) (ah (aB (af 0) ak) ag)))))) a8);exact ar (jH 1 (aw (af 1)))))
abbrev oG:Stmt:=top 30
abbrev xM:List Str:=["record","told","number","clock","letter"]
theorem aas:ax xM ["record"] (aj oG):=fD
theorem xJ (F:fH K mg "bounds" oG ["record"])(aa2:Cl P w K mg base 7 "need_record" 1 ba)(aam:Cl P w K mg base 1 "bounds_of_clock" 2 bZ)(aaj:Cl P w K mg base 1 "bounds_of_letter" 1 bM)(B:Bl mg):Cl P w K mg base 8 "bounds" 1 bN:=
 aW F aas rfl λf c A o s H E hr x=>(by(apply ao;exact(gV (aI aa2 hr (ah (af 0) ag)));apply ao;exact(gU 1 aas.nd ag);apply ao;exact(d7 rfl (lU B.b_enumerate (ah (aB (af 0) ak) ag)) (pV rfl (eZ (aq 2 aas.nd) (eZ (aq 3 aas.nd) lV))) (ar (pU 1 (aI aam hr (ah (af 2) (ah (af 3) ag))))));apply ao;exact(d7 rfl (bB (aB (af 0) ak)) (aq 4 aas.nd) (ar (pU 1 (aI aaj hr (ah (af 4) ag)))));exact ar (jH 1 (aw (af 1)))))
abbrev rR:Stmt:=top 49
abbrev zR:List Str:=["record"]
theorem y8:ax zR ["record"] (aj rR):=fD
theorem zL (F:fH K mg "world" rR ["record"])(aao:Cl P w K mg base 9 "greatest_world" 2 cW)(aa3:Cl P w K mg base 8 "bounds" 1 bN):Cl P w K mg base 10 "world" 1 eR:=
 aW F y8 rfl λf c A o s H E hr x=>(ar (aw (aI aao hr (ah (af 0) (ah (aI aa3 hr (ah (af 0) ag)) ag)))))
abbrev jS:Stmt:=top 50
abbrev qR:List Str:=["record"]
theorem qi:ax qR ["record"] (aj jS):=fD
theorem qH (F:fH K mg "has_world" jS ["record"])(aaC:Cl P w K mg base 10 "world" 1 eR):Cl P w K mg base 11 "has_world" 1 aR:=
 aW F qi rfl λf c A o s H E hr x=>(ar (aw (eE jX (aI aaC hr (ah (af 0) ag)) dj)))
abbrev hV:Stmt:=top 39
abbrev mY:List Str:=["thing"]
theorem mf:ax mY ["thing"] (aj hV):=fD
theorem mF (F:fH K mg "is_fraction" hV ["thing"])(aa1:Cl P w K mg base 1 "is_long" 3 aH)(aaf:Cl P w K mg base 1 "is_whole" 1 dm):Cl P w K mg base 2 "is_fraction" 1 d9:=
 aW F mf rfl λf c A o s H E hr x=>(ar (aw (cv (aI aa1 hr (ah (af 0) (ah ak (ah ak ag)))) (cv (aI aaf hr (ah (aB (af 0) ak) ag)) (cv (aI aaf hr (ah (aB (af 0) ak) ag)) (c6 (eE DS (aB (af 0) ak) ak)))))))
abbrev fm:Stmt:=top 32
abbrev ie:List Str:=["limits","thing"]
theorem mh:ax ie ["limits","thing"] (aj fm):=fD
theorem mG (F:fH K mg "are_numbers" fm ["limits","thing"])(aa0:Cl P w K mg base 2 "is_within" 3 aK)(B:Bl mg):Cl P w K mg base 3 "are_numbers" 2 cI:=
 aW F mh rfl λf c A o s H E hr x=>(ar (aw (cv (vq B.b_isinstance B.b_list rA (af 1)) (c6 (cP (nL rfl) B.b_all SG (ah (dD (N':=["part","limits"]) (src:=[none,some 0]) rfl (LcScope.by (N:=ie) (names:=(aj fm).names) rfl rfl rfl (by decide+kernel)) (bB (af 1)) (λ_ _ _ _ _=>⟨(aq 0 (show La (["part","limits"]:List Str)by decide+kernel)),bu,(aI aa0 hr (ah (af 0) (ah ak (ah (az dY (cP dt B.b_len Nh (ah (af 1) ag)) ak) ag))))⟩)) ag))))))
abbrev rS:Stmt:=top 34
abbrev zS:List Str:=["limits","one","other","thing","place","number"]
theorem aaO:ax zS ["limits","one","other","thing"] (aj rS):=fD
theorem zO (F:fH K mg "leads" rS ["limits","one","other","thing"])(aab:Cl P w K mg base 3 "are_numbers" 2 cI):Cl P w K mg base 4 "leads" 4 j8:=
 aW F aaO rfl λf c A o s H E hr x=>(by(apply ao;exact(bA (cf (bz (aI aab hr (ah (af 0) (ah (af 3) ag))))) (ar (aw eI)) a8);apply ao;exact(aD (af 1) (aq 4 aaO.nd));apply ao;exact(d7 rfl (bB (af 3)) (aq 5 aaO.nd) (ao (bA (bc (jW (gB hr)) (aB (aB (af 0) (af 5)) ak) (af 4)) (ar (aw eI)) a8) (ar (aD (aB (aB (af 0) (af 5)) ak) (aq 4 aaO.nd)))));exact ar (aw (eE (jg (gB hr)) (af 4) (af 2)))))
abbrev g9:Stmt:=top 35
abbrev mW:List Str:=["limits","thing","start"]
theorem aaL:ax mW ["limits","thing"] (aj g9):=fD
theorem mE (F:fH K mg "leads_round" g9 ["limits","thing"])(aaZ:Cl P w K mg base 4 "leads" 4 j8)(aab:Cl P w K mg base 3 "are_numbers" 2 cI):Cl P w K mg base 5 "leads_round" 2 cH:=
 aW F aaL rfl λf c A o s H E hr x=>(by(apply ao;exact(bA (gS (gu (cf (bz (aI aab hr (ah (af 0) (ah (af 1) ag))))) (eQ (bc (jg (gB hr)) (af 1) (gW ag))))) (ar (aw eI)) a8);apply ao;exact(aD (aB (aB (af 0) (aB (af 1) ak)) ak) (aq 2 aaL.nd));exact ar (aw (aI aaZ hr (ah (af 0) (ah (af 2) (ah (af 2) (ah (af 1) ag))))))))
abbrev kj:Stmt:=top 33
abbrev oU:List Str:=["limits","walk"]
theorem xu:ax oU ["limits","walk"] (aj kj):=fD
theorem xG (F:fH K mg "sum_of" kj ["limits","walk"])(B:Bl mg):Cl P w K mg base 1 "sum_of" 2 cQ:=
 aW F xu rfl λf c A o s H E hr x=>(ar (aw (cP (wN rfl) B.b_sum boot_sum (ah (dD (N':=["number","limits"]) (src:=[none,some 0]) rfl (LcScope.by (N:=oU) (names:=(aj kj).names) rfl rfl rfl (by decide+kernel)) (bB (af 1)) (λ_ _ _ _ _=>⟨(aq 0 (show La (["number","limits"]:List Str)by decide+kernel)),bu,(aB (aB (af 1) (af 0)) ak)⟩)) ag))))
abbrev je:Stmt:=top 44
abbrev oj:List Str:=["record","fraction","thing","limits"]
theorem aaQ:ax oj ["record","fraction","thing"] (aj je):=fD
theorem n9 (F:fH K mg "shows_room" je ["record","fraction","thing"])(aa3:Cl P w K mg base 8 "bounds" 1 bN)(aax:Cl P w K mg base 2 "is_fraction" 1 d9)(aac:Cl P w K mg base 5 "leads_round" 2 cH)(aa8:Cl P w K mg base 1 "sum_of" 2 cQ)(B:Bl mg):Cl P w K mg base 9 "shows_room" 3 eU:=
 aW F aaQ rfl λf c A o s H E hr x=>(by(apply ao;exact(aD (aI aa3 hr (ah (af 0) ag)) (aq 3 aaQ.nd));apply ao;exact(bA (gS (gu (cf (bz (aI aax hr (ah (af 1) ag)))) (eQ (cf (bz (aI aac hr (ah (af 3) (ah (af 2) ag)))))))) (ar (aw eI)) a8);exact ar (aw (eE sH (az dH (aI aa8 hr (ah (af 3) (ah (af 2) ag))) (aB (af 1) ak)) (az dH (aB (af 1) ak) (cP dt B.b_len Nh (ah (af 2) ag)))))))
abbrev l5:Stmt:=top 51
abbrev uX:List Str:=["record"]
theorem uF:ax uX ["record"] (aj l5):=fD
theorem uS (F:fH K mg "barring" l5 ["record"])(aae:Cl P w K mg base 2 "settle" 2 bL)(aa3:Cl P w K mg base 8 "bounds" 1 bN)(aag:Cl P w K mg base 8 "events" 1 dI):Cl P w K mg base 9 "barring" 1 fg:=
 aW F uF rfl λf c A o s H E hr x=>(ar (aw (aB (aI aae hr (ah (aI aa3 hr (ah (af 0) ag)) (ah (aI aag hr (ah (af 0) ag)) ag))) ak)))
abbrev g8:Stmt:=top 41
abbrev kZ:List Str:=["limits","up","down"]
theorem r9:ax kZ ["limits","up","down"] (aj g8):=fD
theorem sJ (F:fH K mg "lessened" g8 ["limits","up","down"]):Cl P w K mg base 1 "lessened" 3 dZ:=
 aW F r9 rfl λf c A o s H E hr x=>(ar (aw (dD (N':=["bound","down","up"]) (src:=[none,some 2,some 1]) rfl (LcScope.by (N:=kZ) (names:=(aj g8).names) rfl rfl rfl (by decide+kernel)) (bB (af 0)) (λ_ _ _ _ _=>⟨(aq 0 (show La (["bound","down","up"]:List Str)by decide+kernel)),bu,(bx (ah (aB (af 0) ak) (ah (aB (af 0) ak) (ah (az dY (az dH (aB (af 0) ak) (af 1)) (af 2)) ag))))⟩))))
abbrev gY:Stmt:=top 42
abbrev mS:List Str:=["record","limits","places","tight","found"]
theorem aa7:ax mS ["record"] (aj gY):=fD
theorem my (F:fH K mg "tight_round" gY ["record"])(aa3:Cl P w K mg base 8 "bounds" 1 bN)(aag:Cl P w K mg base 8 "events" 1 dI)(aae:Cl P w K mg base 2 "settle" 2 bL)(aaA:Cl P w K mg base 1 "lessened" 3 dZ)(aa8:Cl P w K mg base 1 "sum_of" 2 cQ)(B:Bl mg):Cl P w K mg base 9 "tight_round" 1 bp:=
 aW F aa7 rfl λf c A o s H E hr x=>(by(apply ao;exact(aD (aI aa3 hr (ah (af 0) ag)) (aq 1 aa7.nd));apply ao;exact(aD (aI aag hr (ah (af 0) ag)) (aq 2 aa7.nd));apply ao;exact(aD dj (aq 3 aa7.nd));apply ao;exact(aD (aB (aI aae hr (ah (aI aaA hr (ah (af 1) (ah ak (ah ak ag)))) (ah (af 2) ag))) ak) (aq 4 aa7.nd));apply ao;exact(iI FU (bc jX (af 4) dj) (ao (aD (af 4) (aq 3 aa7.nd)) (ar (aD (aB (aI aae hr (ah (aI aaA hr (ah (af 1) (ah (aI aa8 hr (ah (af 1) (ah (af 3) ag))) (ah (cP dt B.b_len Nh (ah (af 3) ag)) ag)))) (ah (af 2) ag))) ak) (aq 4 aa7.nd)))));exact ar (aw (af 3))))
abbrev dk:Stmt:=top 40
abbrev fy:List Str:=["up","down","common"]
theorem aat:ax fy ["up","down"] (aj dk):=fD
theorem jx (F:fH K mg "in_lowest_terms" dk ["up","down"])(B:Bl mg):Cl P w K mg base 1 "in_lowest_terms" 2 cN:=
 aW F aat rfl λf c A o s H E hr x=>(ao (aD (cP (Gz rfl) B.b_max boot_max (ah (dD (N':=["k","up","down"]) (src:=[none,some 0,some 1]) rfl (LcScope.by (N:=fy) (names:=(aj dk).names) rfl rfl rfl (by decide+kernel)) (um B.b_range (ah ak (ah (az b9 (af 1) ak) ag))) (λ_ _ _ _ _=>⟨(aq 0 (show La (["k","up","down"]:List Str)by decide+kernel)),(lT (gS (vp (bc (jg (gB hr)) (az fw (af 1) (af 0)) ak) (rK (bc (jg (gB hr)) (az fw (af 2) (af 0)) ak))))),(af 0)⟩)) ag)) (aq 2 aat.nd)) (ar (aw (bx (ah (az fL (af 0) (af 2)) (ah (az fL (af 1) (af 2)) ag))))))
abbrev vD:Stmt:=top 43
abbrev CT:List Str:=["record","tight"]
theorem ab2:ax CT ["record"] (aj vD):=fD
theorem CL (F:fH K mg "room" vD ["record"])(aa9:Cl P w K mg base 9 "tight_round" 1 bp)(aan:Cl P w K mg base 1 "in_lowest_terms" 2 cN)(aa8:Cl P w K mg base 1 "sum_of" 2 cQ)(aa3:Cl P w K mg base 8 "bounds" 1 bN)(B:Bl mg):Cl P w K mg base 10 "room" 1 ij:=
 aW F ab2 rfl λf c A o s H E hr x=>(by(apply ao;exact(aD (aI aa9 hr (ah (af 0) ag)) (aq 1 ab2.nd));apply ao;exact(bA (bc sI (af 1) dj) (ar (aw dj)) a8);exact ar (aw (aI aan hr (ah (aI aa8 hr (ah (aI aa3 hr (ah (af 0) ag)) (ah (af 1) ag))) (ah (cP dt B.b_len Nh (ah (af 1) ag)) ag))))))
abbrev vE:Stmt:=top 52
abbrev CU:List Str:=["record","thing","limits"]
theorem ab3:ax CU ["record","thing"] (aj vE):=fD
theorem CM (F:fH K mg "bars" vE ["record","thing"])(aa3:Cl P w K mg base 8 "bounds" 1 bN)(aac:Cl P w K mg base 5 "leads_round" 2 cH)(aa8:Cl P w K mg base 1 "sum_of" 2 cQ):Cl P w K mg base 9 "bars" 2 m4:=
 aW F ab3 rfl λf c A o s H E hr x=>(ao (aD (aI aa3 hr (ah (af 0) ag)) (aq 2 ab3.nd)) (ar (aw (cv (aI aac hr (ah (af 2) (ah (af 1) ag))) (c6 (eE zJ (aI aa8 hr (ah (af 2) (ah (af 1) ag))) ak))))))
abbrev hY:Stmt:=top 54
abbrev mZ:List Str:=["record"]
theorem mj:ax mZ ["record"] (aj hY):=fD
theorem mI (F:fH K mg "all_letters" hY ["record"])(B:Bl mg):Cl P w K mg base 1 "all_letters" 1 cK:=
 aW F mj rfl λf c A o s H E hr x=>(ar (aw (e9 rfl B.b_list B.b_range (ah (cP dt B.b_len Nh (ah (aB (af 0) ak) ag)) ag))))
abbrev gw:Stmt:=top 55
abbrev j5:List Str:=["record","numbers"]
theorem qe:ax j5 ["record","numbers"] (aj gw):=fD
theorem qB (F:fH K mg "with_only" gw ["record","numbers"])(B:Bl mg):Cl P w K mg base 1 "with_only" 2 cq:=
 aW F qe rfl λf c A o s H E hr x=>(ar (aw (bx (ah (aB (af 0) ak) (ah (rN iz B.b_tuple cL (ah (dD (N':=["number","record"]) (src:=[none,some 0]) rfl (LcScope.by (N:=j5) (names:=(aj gw).names) rfl rfl rfl (by decide+kernel)) (bB (af 1)) (λ_ _ _ _ _=>⟨(aq 0 (show La (["number","record"]:List Str)by decide+kernel)),bu,(aB (aB (af 1) ak) (af 0))⟩)) ag)) ag)))))
abbrev jr:Stmt:=top 56
abbrev mQ:List Str:=["numbers","number"]
theorem uC:ax mQ ["numbers","number"] (aj jr):=fD
theorem uO (F:fH K mg "without" jr ["numbers","number"]):Cl P w K mg base 1 "without" 2 iW:=
 aW F uC rfl λf c A o s H E hr x=>(ar (aw (dD (N':=["other","number"]) (src:=[none,some 1]) rfl (LcScope.by (N:=mQ) (names:=(aj jr).names) rfl rfl rfl (by decide+kernel)) (bB (af 0)) (λ_ _ _ _ _=>⟨(aq 0 (show La (["other","number"]:List Str)by decide+kernel)),(lT (bc (jW (gB hr)) (af 0) (af 1))),(af 0)⟩))))
abbrev hW:Stmt:=top 59
abbrev k6:List Str:=["record","numbers"]
theorem aaW:ax k6 ["record"] (aj hW):=fD
theorem sQ (F:fH K mg "culprits" hW ["record"])(aa5:Cl P w K mg base 11 "has_world" 1 aR)(aad:Cl P w K mg base 1 "all_letters" 1 cK)(aai:Cl P w K mg base 1 "with_only" 2 cq)(aaT:Cl P w K mg base 1 "without" 2 iW):Cl P w K mg base 12 "culprits" 1 fA:=
 aW F aaW rfl λf c A o s H E hr x=>(by(apply ao;exact(bA (bz (aI aa5 hr (ah (af 0) ag))) (ar (aw (gW ag))) a8);apply ao;exact(aD (aI aad hr (ah (af 0) ag)) (aq 1 aaW.nd));exact ar (aw (dD (N':=["number","record","numbers"]) (src:=[none,some 0,some 1]) rfl (LcScope.by (N:=k6) (names:=(aj hW).names) rfl rfl rfl (by decide+kernel)) (bB (af 1)) (λ_ _ _ _ _=>⟨(aq 0 (show La (["number","record","numbers"]:List Str)by decide+kernel)),(lT (bz (aI aa5 hr (ah (aI aai hr (ah (af 1) (ah (aI aaT hr (ah (af 2) (ah (af 0) ag))) ag))) ag)))),(af 0)⟩)))))
abbrev jt:Stmt:=top 57
abbrev mT:List Str:=["numbers","told","number"]
theorem aaB:ax mT ["numbers"] (aj jt):=fD
theorem uP (F:fH K mg "sets_of" jt ["numbers"]):Cl P w K mg base 1 "sets_of" 1 iX:=
 aW F aaB rfl λf c A o s H E hr x=>(by(apply ao;exact(aD (gW (ah (gW ag) ag)) (aq 1 aaB.nd));apply ao;exact(d7 rfl (bB (af 0)) (aq 2 aaB.nd) (ar (aD (az b9 (af 1) (dD (N':=["part","number"]) (src:=[none,some 2]) rfl (LcScope.by (N:=mT) (names:=(aj jt).names) rfl rfl rfl (by decide+kernel)) (bB (af 1)) (λ_ _ _ _ _=>⟨(aq 0 (show La (["part","number"]:List Str)by decide+kernel)),bu,(az b9 (af 0) (gW (ah (af 1) ag)))⟩))) (aq 1 aaB.nd))));exact ar (aw (af 1))))
abbrev jN:Stmt:=top 58
abbrev qM:List Str:=["record","sets","place"]
theorem aap:ax qM ["record"] (aj jN):=fD
theorem qC (F:fH K mg "most_kept" jN ["record"])(aa2:Cl P w K mg base 7 "need_record" 1 ba)(aaU:Cl P w K mg base 1 "sets_of" 1 iX)(aa5:Cl P w K mg base 11 "has_world" 1 aR)(aad:Cl P w K mg base 1 "all_letters" 1 cK)(aai:Cl P w K mg base 1 "with_only" 2 cq)(B:Bl mg)(LX:GK K mg base):Cl P w K mg base 12 "most_kept" 1 dz:=
 GB F aap rfl λf c hx A o s H E hr x=>(by(apply ao;exact(gV (aI aa2 hr (ah (af 0) ag)));apply ao;exact(aD (BC LX hx hr B.b_sorted B.b_len (ah (aI aaU hr (ah (aI aad hr (ah (af 0) ag)) ag)) ag)) (aq 1 aap.nd));apply ao;exact(aD ak (aq 2 aap.nd));apply ao;exact(iI FU (cf (bz (aI aa5 hr (ah (aI aai hr (ah (af 0) (ah (aB (af 1) (af 2)) ag))) ag)))) (ar (BA 2 aap.nd ak)));exact ar (aw (aB (af 1) (af 2)))))
abbrev km:Stmt:=top 63
abbrev mX:List Str:=["_law_script","_law_many","_law_clocks","_law_leasts","_law_letters","_law_record","_law_whole","_law_by","_law_up","_law_part","_law_told","_law_number","_law_less","_law_first","_law_due","_law_least"]
theorem aa6:ax mX ["_law_script"] (aj km):=fD
theorem FE {f:Addr}{fd:L7}(ab0:Fn K mg "law" km ["_law_script"] f fd)(aah:Cl P w K mg base 8 "without_letter" 2 bH)(aak:Cl P w K mg base 2 "_law_drawn" 3 aX)(aa5:Cl P w K mg base 11 "has_world" 1 aR)(aaE:Cl P w K mg base 9 "shows_room" 3 eU)(aaV:Cl P w K mg base 9 "barring" 1 fg)(aaC:Cl P w K mg base 10 "world" 1 eR)(aaX:Cl P w K mg base 10 "room" 1 ij)(aa9:Cl P w K mg base 9 "tight_round" 1 bp)(ab1:Cl P w K mg base 9 "bars" 2 m4)(aaP:Cl P w K mg base 12 "culprits" 1 fA)(aaK:Cl P w K mg base 12 "most_kept" 1 dz)(B:Bl mg):GL P w K mg base 13 f fd ["_law_script"] 1 m_law:=
 pX ab0.fn aa6 rfl λc _ A o s H E hr x=>(by(apply ao;exact(aD (az b9 ak (aI aak hr (ah (af 0) (ah ak (ah ak ag))))) (aq 1 aa6.nd));apply ao;exact(aD (rN iz B.b_tuple cL (ah (dD (N':=["_law_k","_law_script"]) (src:=[none,some 0]) rfl (LcScope.by (N:=mX) (names:=(aj km).names) rfl rfl rfl (by decide+kernel)) (di B.b_range (ah (af 1) ag)) (λ_ _ _ _ _=>⟨(aq 0 (show La (["_law_k","_law_script"]:List Str)by decide+kernel)),bu,(bx (ah ak (ah ak (ah (bx (ah (aI aak hr (ah (af 1) (ah (az b9 ak (af 0)) (ah ak ag)))) ag)) ag))))⟩)) ag)) (aq 2 aa6.nd));apply ao;exact(aD (dD (N':=["_law_k","_law_script"]) (src:=[none,some 0]) rfl (LcScope.by (N:=mX) (names:=(aj km).names) rfl rfl rfl (by decide+kernel)) (di B.b_range (ah (af 1) ag)) (λ_ _ _ _ _=>⟨(aq 0 (show La (["_law_k","_law_script"]:List Str)by decide+kernel)),bu,(aI aak hr (ah (af 1) (ah (az b9 ak (af 0)) (ah ak ag))))⟩)) (aq 3 aa6.nd));apply ao;exact(aD (rN iz B.b_tuple cL (ah (dD (N':=["_law_k","_law_many","_law_leasts"]) (src:=[none,some 1,some 3]) rfl (LcScope.by (N:=mX) (names:=(aj km).names) rfl rfl rfl (by decide+kernel)) (di B.b_range (ah (af 1) ag)) (λ_ _ _ _ _=>⟨(aq 0 (show La (["_law_k","_law_many","_law_leasts"]:List Str)by decide+kernel)),bu,(bx (ah (bx (ah (af 0) (ah ak ag))) (ah (bx (ah (az fw (az b9 (af 0) ak) (af 1)) (ah ak ag))) (ah (aB (af 2) (af 0)) (ah dj ag)))))⟩)) ag)) (aq 4 aa6.nd));apply ao;exact(aD (bx (ah (af 2) (ah (af 4) ag))) (aq 5 aa6.nd));apply ao;exact(aD (cP (wN rfl) B.b_sum boot_sum (ah (af 3) ag)) (aq 6 aa6.nd));apply ao;exact(bA (bc (jW (gB hr)) (aI aa5 hr (ah (af 5) ag)) (eE (jg (gB hr)) (af 6) ak)) (ar (aw eI)) a8);apply ao;exact(aD (af 1) (aq 7 aa6.nd));apply ao;exact(aD (az dY ak (af 6)) (aq 8 aa6.nd));apply ao;exact(d7 rfl (bB (bx (ah ak (ah ak (ah ak ag))))) (aq 9 aa6.nd) (ar (iI FU (gS (vp (bc (jg (gB hr)) (az fw (af 8) (af 9)) ak) (rK (bc (jg (gB hr)) (az fw (af 7) (af 9)) ak)))) (ao (aD (az fL (af 8) (af 9)) (aq 8 aa6.nd)) (ar (aD (az fL (af 7) (af 9)) (aq 7 aa6.nd)))))));apply ao;exact(bA (bc (jg (gB hr)) (af 6) ak) (ar (aD ak (aq 7 aa6.nd))) a8);apply ao;exact(bA (gS (gu (bc (jW (gB hr)) (aI aaX hr (ah (af 5) ag)) (bx (ah (af 8) (ah (af 7) ag)))) (eQ (bc (jW (gB hr)) (cP Ba B.b_sorted boot_sorted (ah (aI aa9 hr (ah (af 5) ag)) ag)) (e9 rfl B.b_list B.b_range (ah (af 1) ag)))))) (ar (aw eI)) a8);apply ao;exact(bA (cf (bz (aI aaE hr (ah (af 5) (ah (bx (ah (af 8) (ah (af 7) ag))) (ah (aI aa9 hr (ah (af 5) ag)) ag)))))) (ar (aw eI)) a8);apply ao;exact(bA (bc DS (af 6) ak) (by(apply ao;exact(aD (aI aaV hr (ah (af 5) ag)) (aq 10 aa6.nd));apply ao;exact(bA (gS (gu (bc (jW (gB hr)) (BB rfl B.b_sorted B.b_set (ah (af 10) ag)) (e9 rfl B.b_list B.b_range (ah (af 1) ag))) (eQ (cf (bz (aI ab1 hr (ah (af 5) (ah (Eh (e9 rfl B.b_list B.b_range (ah (af 1) ag))) ag)))))))) (ar (aw eI)) a8);exact ar (bA (gS (gu (bc (jW (gB hr)) (aI aaP hr (ah (af 5) ag)) (e9 rfl B.b_list B.b_range (ah (af 1) ag))) (eQ (bc (jW (gB hr)) (aI aaK hr (ah (af 5) ag)) (e9 rfl B.b_list B.b_range (ah (az dY (af 1) ak) ag)))))) (ar (aw eI)) a8))) a8);apply ao;exact(d7 rfl (di B.b_range (ah (af 1) ag)) (aq 11 aa6.nd) (ao (aD (aI aah hr (ah (af 5) (ah (af 11) ag))) (aq 12 aa6.nd)) (ar (bA (gS (gu (cf (bz (aI aa5 hr (ah (af 12) ag)))) (eQ (bc jX (aI aaX hr (ah (af 12) ag)) dj)))) (ar (aw eI)) a8))));apply ao;exact(aD (aI aah hr (ah (af 5) (ah (az dY (af 1) ak) ag))) (aq 13 aa6.nd));apply ao;exact(gU 14 aa6.nd (ah ak ag));apply ao;exact(d7 rfl (bB (jK (af 3) jJ (jI (az dY (af 1) ak)))) (aq 15 aa6.nd) (ar (lE 14 (az b9 (yG 14 (aB (af 14) (pW ak))) (af 15)))));exact ar (aw (eE (jg (gB hr)) (aI aaC hr (ah (af 13) ag)) (yG 14 (rN iz B.b_tuple cL (ah (dD (N':=["_law_time","_law_due"]) (src:=[none,some 14]) rfl (LcScope.by (N:=mX) (names:=(aj km).names) rfl rfl rfl (by decide+kernel)) (bB (af 14)) (λ_ _ _ _ _=>⟨(aq 0 (show La (["_law_time","_law_due"]:List Str)by decide+kernel)),bu,(az dY (af 0) (aB (af 1) (pW ak)))⟩)) ag)))))))
end
@[elab_as_elim] theorem dA {α:Type} {p:List α->Prop} (h:∀a0,p [a0]):∀us:List α,us.length=1->p us
 | [a0],_=>h a0
@[elab_as_elim] theorem dW {α:Type} {p:List α->Prop} (h:∀a0 a1,p [a0,a1]):∀us:List α,us.length=2->p us
 | [a0,a1],_=>h a0 a1
@[elab_as_elim] theorem o9 {α:Type} {p:List α->Prop} (h:∀a0 a1 a2,p [a0,a1,a2]):∀us:List α,us.length=3->p us
 | [a0,a1,a2],_=>h a0 a1 a2
@[elab_as_elim] theorem HX {α:Type} {p:List α->Prop} (h:∀a0 a1 a2 a3,p [a0,a1,a2,a3]):∀us:List α,us.length=4->p us
 | [a0,a1,a2,a3],_=>h a0 a1 a2 a3
def asks:rJ:=⟨([("is_long",13),("is_whole",11),("is_within",12),("is_pace",16),("rises",14),("are_readings",15),("is_clock",17),("are_clocks",18),("is_event",19),("is_delay",20),("is_letter",21),("are_letters",22),("is_record",23),("need_record",24),("need_number",25)]:List (Str×Nat))++([("without_letter",46),("_law_cell",61),("_law_drawn",62),("events",26),("is_better",37),("settle",36),("greatest_world",48),("bounds_of_clock",28),("bounds_of_letter",29),("bounds",30),("world",49),("has_world",50),("is_fraction",39),("are_numbers",32),("leads",34)]:List (Str×Nat))++([("leads_round",35),("sum_of",33),("shows_room",44),("barring",51),("lessened",41),("tight_round",42),("in_lowest_terms",40),("room",43),("bars",52),("all_letters",54),("with_only",55),("without",56),("culprits",59),("sets_of",57),("most_kept",58)]:List (Str×Nat))++([("law",63)]:List (Str×Nat)),(["all","bool","dict","enumerate","int","isinstance","len","list","max","range","set","sorted","sum","tuple"]:List Str),[("MOST_CLOCKS",4),("MOST_LETTERS",8),("MOST_READINGS",4),("LAST_READING",99),("SLOWEST",9),("LONGEST",999)],["ClockError","NoRecord","NoNumber"]⟩
theorem all_ok {l:PySem.W.OpenLaw}{w:Lb}{K:J6}{h:Heap}{mg:Str->Option J8}{fa:Addr}(X:K.In h)(e:oh asks K=lW asks top)(Lm:∃f c P,LmK K f c P)(bm:GG K=true)(G:h.Ns KF mg)(hfa:mg "law" =some (.ref fa)) :
  ∃fd:L7,(∀(s:Kb) (v:J8),RY s fd ⟨[v],[]⟩ [("_law_script",v)])/\∀base:Heap,K.In base->base.Ns KF mg->rG l.prog w K mg base CX0 13 fa fd ["_law_script"] (spP K 1 m_law):=by
 have B:Bl mg:=⟨dJ 0 X G e rfl,dJ 1 X G e rfl,dJ 2 X G e rfl,dJ 3 X G e rfl,dJ 4 X G e rfl,dJ 5 X G e rfl,dJ 6 X G e rfl,dJ 7 X G e rfl,dJ 8 X G e rfl,dJ 9 X G e rfl,dJ 10 X G e rfl,dJ 11 X G e rfl,dJ 12 X G e rfl,dJ 13 X G e rfl⟩
 have C:Cs mg:=⟨pf 0 X G e rfl,pf 1 X G e rfl,pf 2 X G e rfl,pf 3 X G e rfl,pf 4 X G e rfl,pf 5 X G e rfl⟩;obtain⟨C_ClockError,ls,xD,xl,nd⟩:=FF (Ij e);obtain⟨C_NoRecord,ls0,x_NoRecord,rfl,xl0⟩:=pO xl;obtain⟨C_NoNumber,ls1,x_NoNumber,rfl,xl1⟩:=pO xl0;cases Bf xl1
 have S:Xs K mg C_NoRecord C_NoNumber C_ClockError:=⟨Rf X G (kr x_NoRecord).1,Rf X G (kr x_NoNumber).1,Rf X G (kr xD).1,ox1 x_NoRecord xD,ox1 x_NoNumber xD,ox0 xD,nd⟩;obtain⟨fd45,ab0,bnd⟩:=Ih (n:="law") (i:=63) (x:="_law_script") 45 X G e rfl hfa λ_ _ _ _ _ _ _=>rfl
 refine⟨fd45,bnd,λbase Xb _=> ?_⟩
 have LX:=C2 Lm bm X G Xb
 have aa1:=uR l.prog w base (bW 0 X G e rfl λ_ _ _ _ _ _ us hl=>o9 (λ_ _ _=>rfl) us hl) B
 have aaf:=sL l.prog w base (bW 1 X G e rfl λ_ _ _ _ _ _ us hl=>dA (λ_=>rfl) us hl) B
 have aa0:=qD l.prog w base (bW 2 X G e rfl λ_ _ _ _ _ _ us hl=>o9 (λ_ _ _=>rfl) us hl) aaf
 have aaR:=uQ l.prog w base (bW 3 X G e rfl λ_ _ _ _ _ _ us hl=>dW (λ_ _=>rfl) us hl) aa0 C
 have aaY:=zN l.prog w base (bW 4 X G e rfl λ_ _ _ _ _ _ us hl=>dA (λ_=>rfl) us hl) B
 have aar:=lq l.prog w base (bW 5 X G e rfl λ_ _ _ _ _ _ us hl=>dA (λ_=>rfl) us hl) aa1 aaY aa0 B C
 have aaM:=sP l.prog w base (bW 6 X G e rfl λ_ _ _ _ _ _ us hl=>dA (λ_=>rfl) us hl) aa1 aaR aar
 have aaD:=oa l.prog w base (bW 7 X G e rfl λ_ _ _ _ _ _ us hl=>dA (λ_=>rfl) us hl) aa1 aaM B C
 have aaz:=sM l.prog w base (bW 8 X G e rfl λ_ _ _ _ _ _ us hl=>dW (λ_ _=>rfl) us hl) aa0 aa1 B
 have aaN:=sO l.prog w base (bW 9 X G e rfl λ_ _ _ _ _ _ us hl=>dW (λ_ _=>rfl) us hl) aa0 C
 have aaG:=qF l.prog w base (bW 10 X G e rfl λ_ _ _ _ _ _ us hl=>dW (λ_ _=>rfl) us hl) aaz aa1 aaN
 have aau:=mH l.prog w base (bW 11 X G e rfl λ_ _ _ _ _ _ us hl=>dW (λ_ _=>rfl) us hl) aa1 aaG B C
 have aaH:=qE l.prog w base (bW 12 X G e rfl λ_ _ _ _ _ _ us hl=>dA (λ_=>rfl) us hl) aa1 aaD aau
 have aa2:=mB l.prog w base (bW 13 X G e rfl λ_ _ _ _ _ _ us hl=>dA (λ_=>rfl) us hl) aaH S
 have aav:=mC l.prog w base (bW 14 X G e rfl λ_ _ _ _ _ _ us hl=>dW (λ_ _=>rfl) us hl) aa0 S
 have aah:=jY l.prog w base (bW 15 X G e rfl λ_ _ _ _ _ _ us hl=>dW (λ_ _=>rfl) us hl) aa2 aav B
 have aaI:=qI l.prog w base (bW 16 X G e rfl λ_ _ _ _ _ _ us hl=>dW (λ_ _=>rfl) us hl) B
 have aak:=og l.prog w base (bW 17 X G e rfl λ_ _ _ _ _ _ us hl=>o9 (λ_ _ _=>rfl) us hl) aaI
 have aag:=xI l.prog w base (bW 18 X G e rfl λ_ _ _ _ _ _ us hl=>dA (λ_=>rfl) us hl) aa2 B
 have aaJ:=qG l.prog w base (bW 19 X G e rfl λ_ _ _ _ _ _ us hl=>o9 (λ_ _ _=>rfl) us hl)
 have aae:=xH l.prog w base (bW 20 X G e rfl λ_ _ _ _ _ _ us hl=>dW (λ_ _=>rfl) us hl) aaJ B
 have aao:=jZ l.prog w base (bW 21 X G e rfl λ_ _ _ _ _ _ us hl=>dW (λ_ _=>rfl) us hl) aag aae B
 have aam:=jy l.prog w base (bW 22 X G e rfl λ_ _ _ _ _ _ us hl=>dW (λ_ _=>rfl) us hl) B
 have aaj:=i9 l.prog w base (bW 23 X G e rfl λ_ _ _ _ _ _ us hl=>dA (λ_=>rfl) us hl)
 have aa3:=xJ l.prog w base (bW 24 X G e rfl λ_ _ _ _ _ _ us hl=>dA (λ_=>rfl) us hl) aa2 aam aaj B
 have aaC:=zL l.prog w base (bW 25 X G e rfl λ_ _ _ _ _ _ us hl=>dA (λ_=>rfl) us hl) aao aa3
 have aa5:=qH l.prog w base (bW 26 X G e rfl λ_ _ _ _ _ _ us hl=>dA (λ_=>rfl) us hl) aaC
 have aax:=mF l.prog w base (bW 27 X G e rfl λ_ _ _ _ _ _ us hl=>dA (λ_=>rfl) us hl) aa1 aaf
 have aab:=mG l.prog w base (bW 28 X G e rfl λ_ _ _ _ _ _ us hl=>dW (λ_ _=>rfl) us hl) aa0 B
 have aaZ:=zO l.prog w base (bW 29 X G e rfl λ_ _ _ _ _ _ us hl=>HX (λ_ _ _ _=>rfl) us hl) aab
 have aac:=mE l.prog w base (bW 30 X G e rfl λ_ _ _ _ _ _ us hl=>dW (λ_ _=>rfl) us hl) aaZ aab
 have aa8:=xG l.prog w base (bW 31 X G e rfl λ_ _ _ _ _ _ us hl=>dW (λ_ _=>rfl) us hl) B
 have aaE:=n9 l.prog w base (bW 32 X G e rfl λ_ _ _ _ _ _ us hl=>o9 (λ_ _ _=>rfl) us hl) aa3 aax aac aa8 B
 have aaV:=uS l.prog w base (bW 33 X G e rfl λ_ _ _ _ _ _ us hl=>dA (λ_=>rfl) us hl) aae aa3 aag
 have aaA:=sJ l.prog w base (bW 34 X G e rfl λ_ _ _ _ _ _ us hl=>o9 (λ_ _ _=>rfl) us hl)
 have aa9:=my l.prog w base (bW 35 X G e rfl λ_ _ _ _ _ _ us hl=>dA (λ_=>rfl) us hl) aa3 aag aae aaA aa8 B
 have aan:=jx l.prog w base (bW 36 X G e rfl λ_ _ _ _ _ _ us hl=>dW (λ_ _=>rfl) us hl) B
 have aaX:=CL l.prog w base (bW 37 X G e rfl λ_ _ _ _ _ _ us hl=>dA (λ_=>rfl) us hl) aa9 aan aa8 aa3 B
 have ab1:=CM l.prog w base (bW 38 X G e rfl λ_ _ _ _ _ _ us hl=>dW (λ_ _=>rfl) us hl) aa3 aac aa8
 have aad:=mI l.prog w base (bW 39 X G e rfl λ_ _ _ _ _ _ us hl=>dA (λ_=>rfl) us hl) B
 have aai:=qB l.prog w base (bW 40 X G e rfl λ_ _ _ _ _ _ us hl=>dW (λ_ _=>rfl) us hl) B
 have aaT:=uO l.prog w base (bW 41 X G e rfl λ_ _ _ _ _ _ us hl=>dW (λ_ _=>rfl) us hl)
 have aaP:=sQ l.prog w base (bW 42 X G e rfl λ_ _ _ _ _ _ us hl=>dA (λ_=>rfl) us hl) aa5 aad aai aaT
 have aaU:=uP l.prog w base (bW 43 X G e rfl λ_ _ _ _ _ _ us hl=>dA (λ_=>rfl) us hl)
 have aaK:=qC l.prog w base (bW 44 X G e rfl λ_ _ _ _ _ _ us hl=>dA (λ_=>rfl) us hl) aa2 aaU aa5 aad aai B LX
 exact(FE l.prog w base ab0 aah aak aa5 aaE aaV aaC aaX aa9 ab1 aaP aaK B).h
def vw:Kz:=PySem.W.view Lf [63]
def lse:List Str:=(["ClockError","NoRecord","NoNumber","MOST_CLOCKS","MOST_LETTERS","MOST_READINGS","LAST_READING","SLOWEST","LONGEST","is_whole","is_within","is_long","rises","are_readings","is_pace","is_clock","are_clocks","is_event","is_delay","is_letter"]:List Str)++(["are_letters","is_record","need_record","need_number","events","bounds_of_clock","bounds_of_letter","bounds","are_numbers","sum_of","leads","leads_round","settle","is_better","is_fraction","in_lowest_terms","lessened","tight_round","room","shows_room"]:List Str)++(["without_letter","greatest_world","world","has_world","barring","bars","all_letters","with_only","without","sets_of","most_kept","culprits","_law_cell","_law_drawn"]:List Str)
def lhs (w:Lb)(h:Heap)(d:Drawn)(t:Nat)(os:OsState):=(PySem.W.topFrom treeTable Lf w 9000 ⟨h,⟨[]⟩,d,t,os⟩).map (λs=>(PySem.W.openSeen vw lse (S4 Lf.main.body) (λ_=>true) true s,v7 asks s.heap))
def rhs (w:Lb):=some (PySem.W.openGood vw lse,(lW asks top,true))
theorem lhs_r:lhs=lhs:=rfl
theorem rhs_r:rhs=rhs:=rfl
end G
namespace Tr
open PySem
abbrev RR (cs ls:List T):T:=.tup [.tup cs,.tup ls]
mutual
def T.pl:T->Bool
 | .scr _=>false
 | .dct _ _=>false
 | .tup l=>plS l
 | .lst l=>plS l
 | _=>true
def plS:List T->Bool
 | [] =>true
 | t::l=>t.pl&&plS l
end
theorem iN:∀{l:List T} {t:T},plS l=true->t∈l->t.pl=true
 | [],_,_,h=>by cases h
 | u::l,t,h,m=>by
  unfold plS at h;rw[J9]at h;rcases Ko.mp m with rfl | m
  ·exact h.1
  ·exact iN h.2 m
mutual
theorem T.Jm:∀(t:T),t.pl=true->t.nd=true
 | .non,_=>rfl
 | .bl _,_=>rfl
 | .int _,_=>rfl
 | .str _,_=>rfl
 | .scr _,h=>by cases h
 | .dct _ _,h=>by cases h
 | .tup l,h=>by unfold T.pl at h;unfold T.nd;exact plS_nds l h
 | .lst l,h=>by unfold T.pl at h;unfold T.nd;exact plS_nds l h
theorem plS_nds:∀(l:List T),plS l=true->nds l=true
 | [],_=>rfl
 | t::l,h=>by
  unfold plS at h;rw[J9]at h;unfold nds;rw[T.Jm t h.1,plS_nds l h.2];rfl
end
theorem uZ {fe:En->Rs T}{h:T->T}:∀(ts:List T) (Z:En),0<Z.length->(∀t∈ts,fe (Z.set 0 (.va t))= .ok (h t))->c9 (gN 0) bT fe ts Z= .ok (ts.map h)
 | [],_,_,_=>rfl
 | t::r,Z,hl,hf=>by
  unfold c9
  have e1:gN 0 t Z= .ok (Z.set 0 (.va t)):=by unfold gN;rw[if_pos hl]
  have ih:=uZ r (Z.set 0 (.va t)) (by rw[LL];exact hl) (λu hu=>by rw[List.set_set];exact hf u (Ka _ hu))
  simp only[e1,aF,bT,if_true,hf t Kg,ih,Ke]
theorem pd {fc:En->Rs Bool}{fe:En->Rs T}{p:T->Bool}{h:T->T}:∀(ts:List T) (Z:En),0<Z.length->(∀t∈ts,fc (Z.set 0 (.va t))= .ok (p t)/\(p t=true->fe (Z.set 0 (.va t))= .ok (h t)))->c9 (gN 0) fc fe ts Z= .ok ((ts.filter p).map h)
 | [],_,_,_=>rfl
 | t::r,Z,hl,hf=>by
  unfold c9
  have e1:gN 0 t Z= .ok (Z.set 0 (.va t)):=by unfold gN;rw[if_pos hl]
  have ih:=pd r (Z.set 0 (.va t)) (by rw[LL];exact hl) (λu hu=>by rw[List.set_set];exact hf u (Ka _ hu))
  obtain⟨h1,h2⟩:=hf t Kg;simp only[e1,aF,h1]
  cases q:p t with
  | true=>simp only[if_true,h2 q,aF,ih,L8,q,Ke]
  | false=>simp only[Lq,if_false,ih,L8,q]
theorem pG (p:T->Bool):∀l:List T,nQ (l.map λt=>T.bl (p t))=some (l.map p)
 | [] =>rfl
 | t::l=>by rw[Ke,nQ,pG p l];rfl
theorem all_map (p:T->Bool)(l:List T):nW [.lst (l.map λt=>T.bl (p t))] = .ok (.bl (l.all p)):=by
 simp only[nW,pG,Sa]
 rfl
theorem kM {α:Type}{l:List α}{k:Nat}{t:α}(h:l[k]? =some t):L2.atI l (k:Int)=some t:=by
 have hk:k<l.length:=(Km.mp h).1
 unfold L2.atI L2.ixN;rw[if_pos (by omega),if_pos (by omega),K0]
 exact h
theorem aE {n k:Nat}(h:n<=k)(hk:k<=1000:=by decide):n<=sizeLine:=by unfold sizeLine;omega
section
variable {f fa fb fc:En->Rs T}{fs:En->Rs (List T)}{b c:En->Rs Bool}{F G:En->Rs Fl}{Z Z' Z1 Z2:En}{t u r:T}{ts l m:List T}
theorem aC {g:T->T->Rs T}{x:Rs T}(ha:fa Z= .ok t)(hb:fb Z= .ok u)(hg:g t u=x):o2 g fa fb Z=x:=by unfold o2;rw[ha,hb];exact hg
theorem F1 {g:T->Rs T}{x:Rs T}(ha:fa Z= .ok t)(hg:g t=x):o1 g fa Z=x:=by unfold o1;rw[ha];exact hg
theorem Ic {g:T->T->Rs T}{x:Rs T}{ks vs:List T}(ha:fa Z= .ok (.dct ks vs))(hb:fb Z= .ok u)(hg:g (.dct ks vs) u=x):oD g fa fb Z=x:=by unfold oD;rw[ha];show(fb Z >>= g (.dct ks vs))=_;rw[hb];exact hg
theorem k_oL {g:T->T->Rs T}{x:Rs T}{ks:List T}(ha:fa Z= .ok (.lst ks))(hb:fb Z= .ok u)(hg:g (.lst ks) u=x):oL g fa fb Z=x:=by unfold oL;rw[ha];show(fb Z >>= g (.lst ks))=_;rw[hb];exact hg
theorem au (h:f Z= .ok t)(hs:fs Z= .ok ts):ae f fs Z= .ok (t::ts):=by unfold ae;rw[h,hs];rfl
theorem aM {g:List T->Rs T}{x:Rs T}(h:fs Z= .ok ts)(hg:g ts=x):cl g fs Z=x:=by unfold cl;rw[h];exact hg
theorem bO {k:Bool}(h:f Z= .ok (.bl k)):tb f Z= .ok k:=by unfold tb;rw[h];rfl
theorem gp {k:Bool}(h:b Z= .ok k):cp b Z= .ok (!k):=by unfold cp;rw[h];rfl
theorem Ib (h:b Z= .ok true):ki b c Z= .ok true:=by unfold ki;rw[h];rfl
theorem nq {x:Rs Bool}(h:b Z= .ok false)(h2:c Z=x):ki b c Z=x:=by unfold ki;rw[h];exact h2
theorem F4 (h:b Z= .ok false):kN b c Z= .ok false:=by unfold kN;rw[h];rfl
theorem F3 {x:Rs Bool}(h:b Z= .ok true)(h2:c Z=x):kN b c Z=x:=by unfold kN;rw[h];exact h2
theorem DY {p q:Bool}(h:b Z= .ok p)(h2:p=true->c Z= .ok q):kN b c Z= .ok (p&&q):=by
 cases p with
 | false=>exact F4 h
 | true=>exact F3 h (h2 rfl)
theorem nr (h:fa Z= .ok (.bl true)):bJ fa fb Z=fb Z:=by unfold bJ;rw[h];rfl
theorem C6 (h:fa Z= .ok (.bl false)):bJ fa fb Z= .ok (.bl false):=by unfold bJ;rw[h];rfl
theorem FZ (h:fa Z= .ok (.bl true)):Bt fa fb Z= .ok (.bl true):=by unfold Bt;rw[h];rfl
theorem F0 (h:fa Z= .ok (.bl false)):Bt fa fb Z=fb Z:=by unfold Bt;rw[h];rfl
theorem bS {g:T->En->Rs En}(h:f Z= .ok t)(hg:g t Z= .ok Z'):cz f g Z= .ok (.nx Z'):=by unfold cz;rw[h];show(match g t Z with | .ok Z'=>Rs.ok (Fl.nx Z') | _=> .bad)=_;rw[hg]
theorem aA (h:F Z= .ok (.nx Z')):ay F G Z=G Z':=by unfold ay;rw[h];rfl
theorem gA (h:F Z= .ok (.rt t)):ay F G Z= .ok (.rt t):=by unfold ay;rw[h];rfl
theorem Ao (h:F Z= .ok (.ct Z')):ay F G Z= .ok (.ct Z'):=by unfold ay;rw[h];rfl
theorem gP (h:b Z= .ok true):eG b F G Z=F Z:=by unfold eG;rw[h];rfl
theorem df (h:b Z= .ok false):eG b F G Z=G Z:=by unfold eG;rw[h];rfl
theorem bP (h:f Z= .ok t):aG f Z= .ok (.rt t):=by unfold aG;rw[h];rfl
theorem Av (h:f Z= .ok t):Br f Z= .ok (.nx Z):=by unfold Br;rw[h];rfl
theorem jl {fi:En->Rs (List T)}{g:T->En->Rs En}{x:Fl}(h:fi Z= .ok ts)(h2:bh g F ts Z= .ok x):i8 fi g F Z= .ok x:=by unfold i8;rw[h];show(match bh g F ts Z with | .ok f=>Rs.ok f | _=> .bad)=_;rw[h2]
theorem fB {g:T->En->Rs En}(h:g t Z= .ok Z1)(h2:F Z1= .ok (.nx Z2)):bh g F (t::ts) Z=bh g F ts Z2:=by rw[bh,h];show(F Z1 >>= _)=_;rw[h2];rfl
theorem C5 {g:T->En->Rs En}(h:g t Z= .ok Z1)(h2:F Z1= .ok (.ct Z2)):bh g F (t::ts) Z=bh g F ts Z2:=by rw[bh,h];show(F Z1 >>= _)=_;rw[h2];rfl
theorem q0 {g:T->En->Rs En}(h:g t Z= .ok Z1)(h2:F Z1= .ok (.rt r)):bh g F (t::ts) Z= .ok (.rt r):=by rw[bh,h];show(F Z1 >>= _)=_;rw[h2];rfl
theorem gn {n:Nat}(h:c Z= .ok false):aU c F (n+1) Z= .ok (.nx Z):=by unfold aU;rw[h]
theorem ip {n:Nat}(h:c Z= .ok true)(h2:F Z= .ok (.nx Z')):aU c F (n+1) Z=aU c F n Z':=by rw[aU,h];simp only[h2]
theorem Am {n:Nat}(h:c Z= .ok true)(h2:F Z= .ok (.rt t)):aU c F (n+1) Z= .ok (.rt t):=by rw[aU,h];simp only[h2]
theorem bo {n m:Nat}(hl:ts.length=n)(h:F (aL m ts)= .ok (.rt t)):val n m F ts= .ok t:=by unfold val;rw[if_pos hl];unfold bj;rw[h];rfl
theorem An {n m:Nat}(hl:ts.length=n)(h:F (aL m ts)= .ok (.nx Z)):val n m F ts= .ok .non:=by unfold val;rw[if_pos hl];unfold bj;rw[h];rfl
theorem ly {fi:En->Rs (List T)}{src:List (Option Nat)}{fe:En->Rs T}{h:T->T}(hi:fi Z= .ok ts)(hs:ts.length<=sizeLine)(hn:0<src.length)(hf:∀t∈ts,fe ((cb src Z).set 0 (.va t))= .ok (h t)) :
  eO fi src (gN 0) bT fe Z= .ok (.lst (ts.map h)):=by
 have e:=uZ (fe:=fe) (h:=h) ts (cb src Z) (by unfold cb;rw[Kh];exact hn) hf
 unfold eO;rw[hi,aF,if_pos hs,e]
theorem Aq {fi:En->Rs (List T)}{src:List (Option Nat)}{fc:En->Rs Bool}{fe:En->Rs T}{p:T->Bool}{h:T->T}(hi:fi Z= .ok ts)(hs:ts.length<=sizeLine)(hn:0<src.length)
  (hf:∀t∈ts,fc ((cb src Z).set 0 (.va t))= .ok (p t)/\(p t=true->fe ((cb src Z).set 0 (.va t))= .ok (h t))):eO fi src (gN 0) fc fe Z= .ok (.lst ((ts.filter p).map h)):=by
 have e:=pd (fc:=fc) (fe:=fe) (p:=p) (h:=h) ts (cb src Z) (by unfold cb;rw[Kh];exact hn) hf
 unfold eO;rw[hi,aF,if_pos hs,e]
theorem cZ (h:fs Z= .ok ts)(hl:ts.length<=sizeLine):a9 fs Z= .ok (.tup ts):=by unfold a9;rw[h];show jk ts=_;unfold jk;rw[if_pos hl]
theorem wq (h:fs Z= .ok ts)(hl:ts.length<=sizeLine):gE fs Z= .ok (.lst ts):=by unfold gE;rw[h];show k7 ts=_;unfold k7;rw[if_pos hl]
theorem u5 {f:En->Rs (List T)}{i:Nat}(h:f Z= .ok l)(hi:i<Z.length)(hl:l.length<=1000):hZ i f Z= .ok (.nx (Z.set i (.ow (.lst l)))):=by
 unfold hZ;rw[h,aF,if_pos ⟨hi,aE hl (by omega)⟩]
theorem Ap {i:Nat}(hi:i<Z.length):hZ i ai Z= .ok (.nx (Z.set i (.ow (.lst [])))):=u5 rfl hi (K3 _)
theorem wu {i:Nat}(h:f Z= .ok t)(hi:Z[i]? =some (.ow (.lst l)))(hl:l.length<=1000):lp i f Z= .ok (.nx (Z.set i (.ow (.lst (l++ [t]))))):=by
 unfold lp;rw[hi];simp only[h,aF];rw[if_pos (by unfold sizeLine;omega)]
theorem Au {i:Nat}(h:f Z= .ok (.lst m))(hi:Z[i]? =some (.ow (.lst l)))(hl:l.length+m.length<=1000):mm i f Z= .ok (.nx (Z.set i (.ow (.lst (l++m))))):=by
 unfold mm;rw[hi];simp only[h,aF,Gg];rw[if_pos (by unfold sizeLine;omega)]
theorem k_iS (h:f Z= .ok (.tup l)):iS f Z= .ok l:=by unfold iS;rw[h];rfl
theorem gq (h:f Z= .ok (.lst l)):iS f Z= .ok l:=by unfold iS;rw[h];rfl
theorem Ii (h:fs Z= .ok [.lst l]):iE fs Z= .ok (dh 0 l):=by unfold iE;rw[h];rfl
theorem wt {n:Nat}(e:l[n]? =some t):aO (.tup l) (.int (n:Int))= .ok t:=by show(match L2.atI l _ with | some t=>Rs.ok t | none=> .bad)=_;rw[kM e]
theorem rf {n:Nat}(e:l[n]? =some t):aO (.lst l) (.int (n:Int))= .ok t:=by show(match L2.atI l _ with | some t=>Rs.ok t | none=> .bad)=_;rw[kM e]
theorem F2 {n:Nat}(h:fa Z= .ok (.tup l))(h2:fb Z= .ok (.int (n:Int)))(e:l[n]? =some t):o2 aO fa fb Z= .ok t:=aC h h2 (wt e)
theorem As {n:Nat}(h:fa Z= .ok (.lst l))(h2:fb Z= .ok (.int (n:Int)))(e:l[n]? =some t):o2 aO fa fb Z= .ok t:=aC h h2 (rf e)
theorem Ia {fe:En->Rs T}{fl fu:En->Rs (Option Int)}{lo hi:Option Int}(h:fe Z= .ok (.tup l))(h1:fl Z= .ok lo)(h2:fu Z= .ok hi):sl fe fl fu Z= .ok (.tup (lA l lo hi)):=by
 unfold sl;rw[h,h1,h2];rfl
theorem DW {fe:En->Rs T}{fl fu:En->Rs (Option Int)}{lo hi:Option Int}(h:fe Z= .ok (.lst l))(h1:fl Z= .ok lo)(h2:fu Z= .ok hi):sl fe fl fu Z= .ok (.lst (lA l lo hi)):=by
 unfold sl;rw[h,h1,h2];rfl
theorem C4 {i:Int}(h:f Z= .ok (.int i)):pS f Z= .ok (some i):=by unfold pS;rw[h];rfl
theorem tX (l:List T)(n:Nat):lA l none (some (n:Int))=l.take n:=by
 unfold lA;rw[HT.sIx_none,HT.sIx_nat,List.drop_zero,OW,List.take_eq_take_iff];omega
theorem tY (l:List T)(n:Nat):lA l (some (n:Int)) none=l.drop n:=by
 unfold lA;rw[HT.sIx_none,HT.sIx_nat]
 by_cases h:n<=l.length
 ·rw[SV h]
  exact MX (by rw[MS];omega)
 ·rw[Nat.min_eq_right (by omega),Ml (Ki _),Ml (by omega),List.take_nil]
theorem Ig {i:Nat}{o:OT}(hi:Z[i]? =some (.ow o))(h:f (disown i Z)= .ok t)(hk:t.nk o.isD=true):ln i f Z= .ok t:=by
 unfold ln;rw[hi];simp only[h,aF,hk,if_true]
theorem Ie {i:Nat}{k:Bool}(h:b (disown i Z)= .ok k):FL i b Z= .ok k:=h
theorem Ik {i:Nat}{x:Rs Fl}(h:F (disown i Z)=x):qk i F Z=x:=h
end
theorem mk2 (a b:T):jk [a,b] = .ok (.tup [a,b]):=by unfold jk;rw[if_pos (aE (k:=1000) (by simp only[Kj,Ql];omega))]
theorem vM (n:Nat):(rng 0 n).length=n:=by unfold rng;rw[Kh,Ld];omega
end Tr
namespace Gr
variable {ν:Type}[DecidableEq ν]
abbrev aZ (ν:Type):=List (ν×ν×Int)
inductive Wk (L:aZ ν):ν->ν->Int->Prop
 | nil (a:ν):Wk L a a 0
 | step {a b c:ν} {m s:Int}:(a,b,m)∈L->Wk L b c s->Wk L a c (m+s)
theorem Wk.one {L:aZ ν}{a b:ν}{m:Int}(h:(a,b,m)∈L):Wk L a b m:=by
 have:=Wk.step h (Wk.nil (L:=L) b)
 rwa [Int.add_zero]at this
theorem Wk.app {L:aZ ν}{a b c:ν}{s t:Int}(h:Wk L a b s)(k:Wk L b c t):Wk L a c (s+t):=by
 induction h with
 | nil a=>rwa [Int.zero_add]
 | step e _ ih=>rw[Int.add_assoc];exact .step e (ih k)
def Holds (L:aZ ν)(t:ν->Int):Prop:=∀a b m,(a,b,m)∈L->t b - t a<=m
theorem Holds.walk {L:aZ ν}{t:ν->Int}(h:Holds L t){a b:ν}{s:Int}(w:Wk L a b s):t b - t a<=s:=by
 induction w with
 | nil a=>omega
 | step e _ ih=>have:=h _ _ _ e;omega
def dO (L:aZ ν):Prop:=∀a s,Wk L a a s->0<=s
theorem Holds.Jw {L:aZ ν}{t:ν->Int}(h:Holds L t):dO L:=λa s w=>by have:=h.walk w;omega
def Ch (L:aZ ν):ν->List Nat->ν->Prop
 | a,[],b=>a=b
 | a,k::r,b=> ∃c m,L[k]? =some (a,c,m)/\Ch L c r b
def most (L:aZ ν)(k:Nat):Int:=match L[k]? with
 | some x=>x.2.2
 | none=>0
def cost (L:aZ ν):List Nat->Int
 | [] =>0
 | k::r=>most L k+cost L r
theorem kf (L:aZ ν):∀(p q:List Nat),cost L (p++q)=cost L p+cost L q
 | [],q=>by simp[cost]
 | k::p,q=>by rw[Sv,cost,cost,kf L p q];omega
theorem Ch.wk {L:aZ ν}:∀{ks:List Nat} {a b:ν},Ch L a ks b->Wk L a b (cost L ks)
 | [],a,b,h=>by cases h;exact .nil a
 | k::r,a,b,⟨c,m,e,h⟩=>by
  have:cost L (k::r)=m+cost L r:=by rw[cost,most,e]
  rw[this];exact .step (LA e) h.wk
theorem Wk.ch {L:aZ ν}{a b:ν}{s:Int}(w:Wk L a b s):∃ks,Ch L a ks b/\cost L ks=s:=by
 induction w with
 | nil a=>exact⟨[],rfl,rfl⟩
 | step e _ ih=>
  obtain⟨ks,h1,h2⟩:=ih;obtain⟨k,hk⟩:=Os e
  refine⟨k::ks,⟨_,_,hk,h1⟩,?_⟩
  rw[cost,most,hk,h2]
theorem Ch.app {L:aZ ν}:∀{p q:List Nat} {a b c:ν},Ch L a p b->Ch L b q c->Ch L a (p++q) c
 | [],q,a,b,c,h,k=>by cases h;exact k
 | x::p,q,a,b,c,⟨d,m,e,h⟩,k=>⟨d,m,e,Ch.app h k⟩
theorem Ch.fst {L:aZ ν}{k:Nat}{r:List Nat}{a b:ν}(h:Ch L a (k::r) b):∃c m,L[k]? =some (a,c,m):=by
 obtain⟨c,m,e,_⟩:=h;exact⟨c,m,e⟩
theorem Ch.lt {L:aZ ν}:∀{ks:List Nat} {a b:ν},Ch L a ks b->∀k∈ks,k<L.length
 | [],_,_,_,k,hk=>by simp at hk
 | x::r,a,b,⟨c,m,e,h⟩,k,hk=>by
  rcases Ko.mp hk with rfl | hk
  ·exact(Km.mp e).1
  ·exact h.lt k hk
theorem Ch.snoc {L:aZ ν}{p:List Nat}{k:Nat}{a b c:ν}{m:Int}(h:Ch L a p b)(e:L[k]? =some (b,c,m)):Ch L a (p++ [k]) c:=h.app ⟨c,m,e,rfl⟩
def src (L:aZ ν)(k:Nat):Option ν:=(L[k]?).map (·.1)
abbrev bU (ν:Type):=ν->Option (Int×List Nat)
def put (b:bU ν)(v:ν)(x:Int×List Nat):bU ν:=λu=>if u=v then some x else b u
theorem dG {b:bU ν}{v:ν}{x:Int×List Nat}:put b v x v=some x:=by unfold put;rw[if_pos rfl]
theorem ju {b:bU ν}{u v:ν}{x:Int×List Nat}(h:u≠v):put b v x u=b u:=by unfold put;rw[if_neg h]
def dy (L:aZ ν)(ks:List Nat):List ν:=ks.filterMap (src L)
def dN (b:bU ν)(v:ν)(d:Int):Bool:=match b v with
 | none=>true
 | some x=>decide (d<x.1)
def gf (L:aZ ν)(b:bU ν)(k:Nat)(x:ν×ν×Int):Sum (Option (bU ν)) (List Nat):=match b x.1 with
 | none=> .inl none
 | some (d,w)=>if dN b x.2.1 (d+x.2.2)=true then
   if x.2.1∈dy L (w++ [k])then .inr ((w++ [k]).drop ((dy L (w++ [k])).idxOf x.2.1))else .inl (some (put b x.2.1 (d+x.2.2,w++ [k])))
  else .inl none
def gL (L:aZ ν):Nat->aZ ν->bU ν->Bool->Sum (bU ν×Bool) (List Nat)
 | _,[],b,mv=> .inl (b,mv)
 | k,x::r,b,mv=>match gf L b k x with
  | .inr q=> .inr q
  | .inl none=>gL L (k+1) r b mv
  | .inl (some b')=>gL L (k+1) r b' true
def settle (L:aZ ν):Nat->bU ν->Option (Sum (bU ν) (List Nat))
 | 0,_=>none
 | n+1,b=>match gL L 0 L b false with
  | .inr q=>some (.inr q)
  | .inl (b',true)=>settle L n b'
  | .inl (b',false)=>some (.inl b')
theorem qy (L:aZ ν)(p q:List Nat):dy L (p++q)=dy L p++dy L q:=by unfold dy;rw[List.filterMap_append]
theorem qx {L:aZ ν}{k:Nat}{x:ν×ν×Int}(e:L[k]? =some x):dy L [k] = [x.1]:=by unfold dy src;simp[e]
theorem Ch.Jn {L:aZ ν}{k:Nat}{r:List Nat}{a b:ν}(h:Ch L a (k::r) b):dy L (k::r)=a::dy L r:=by
 obtain⟨c,m,e,_⟩:=h;rw[show k::r= [k] ++r from rfl,qy,qx e];rfl
theorem Ch.cut {L:aZ ν}{v:ν}:∀{ks:List Nat} {a b:ν},Ch L a ks b->v∈dy L ks->Ch L a (ks.take ((dy L ks).idxOf v)) v/\Ch L v (ks.drop ((dy L ks).idxOf v)) b/\(dy L ks).idxOf v<ks.length
 | [],a,b,_,hv=>by simp[dy]at hv
 | k::r,a,b,h,hv=>by
  rw[h.Jn]at hv ⊢
  have h0:=h;obtain⟨c,m,e,h⟩:=h
  by_cases z:a=v
  ·subst z
   rw[List.idxOf_cons_self];exact⟨rfl,h0,by simp⟩
  ·have hv':v∈dy L r:=by
    rcases Ko.mp hv with q | q
    ·exact absurd q.symm z
    ·exact q
   obtain⟨h1,h2,h3⟩:=h.cut hv'
   have ei:(a::dy L r).idxOf v=(dy L r).idxOf v+1:=by
    rw[SW]
    have:(a == v)=false:=by rw[beq_eq_false_iff_ne];exact z
    rw[this];rfl
   rw[ei];exact⟨⟨c,m,e,h1⟩,h2,by simpa using h3⟩
structure Kept (L:aZ ν)(S:List ν)(b:bU ν):Prop where
 walk:∀v d w,b v=some (d,w)->∃s∈S,Ch L s w v/\cost L w=d/\v∉dy L w/\(dy L w).Nodup/\∀p q u,w=p++q->Ch L s p u->∃d' w',b u=some (d',w')/\d'<=cost L p
 start:∀s∈S,∃d w,b s=some (d,w)/\d<=0
theorem Kept.put {L:aZ ν}{S:List ν}{b:bU ν}(K:Kept L S b){k:Nat}{a c:ν}{m d:Int}{w:List Nat}(e:L[k]? =some (a,c,m))(ha:b a=some (d,w))(hb:dN b c (d+m)=true)(hn:c∉dy L (w++ [k])) :
  Kept L S (put b c (d+m,w++ [k])):=by
 have low:∀u d' w',b u=some (d',w')->∃d'' w'',Gr.put b c (d+m,w++ [k]) u=some (d'',w'')/\d''<=d':=λu d' w' h=>by
  by_cases z:u=c
  ·subst z
   refine⟨_,_,dG,?_⟩
   unfold dN at hb;rw[h]at hb
   have:=of_decide_eq_true hb;omega
  ·exact⟨d',w',by rw[ju z];exact h,PD _⟩
 obtain⟨s,hs,h1,h2,h3,h4,h5⟩:=K.walk a d w ha
 have hch:Ch L s (w++ [k]) c:=h1.snoc e
 have hcost:cost L (w++ [k])=d+m:=by rw[kf,h2,cost,cost,most,e];simp
 refine⟨λv d' w' h=> ?_,λs' hs'=> ?_⟩
 ·by_cases z:v=c
  ·subst z
   rw[dG]at h;cases h;refine⟨s,hs,hch,hcost,hn,?_,λp q u hpq hp=> ?_⟩
   ·rw[qy,qx e]
    exact MG.mpr ⟨h4,by simp,λx hx y hy=>by simp at hy;subst hy;exact λz=>h3 (z▸hx)⟩
   ·by_cases hq:q= []
    ·subst hq
     rw[LJ]at hpq;subst hpq
     have:u=v:=by
      clear low hb hn h5
      have aux:∀{ks:List Nat} {x y z:ν},Ch L x ks y->Ch L x ks z->y=z:=by
       intro ks
       induction ks with
       | nil=>intro x y z h1 h2;cases h1;cases h2;rfl
       | cons k r ih=>
        rintro x y z ⟨c1,m1,e1,r1⟩ ⟨c2,m2,e2,r2⟩
        rw[e1]at e2;cases e2;exact ih r1 r2
      exact aux hp hch
     subst this;exact⟨_,_,dG,by rw[hcost];exact PD _⟩
    ·have hw:∃q',w=p++q':=by
      refine⟨q.dropLast,?_⟩
      have:=congrArg List.dropLast hpq;rw[List.dropLast_concat,List.dropLast_append_of_ne_nil hq]at this;exact this
     obtain⟨q',hw⟩:=hw;obtain⟨d1,w1,e1,l1⟩:=h5 p q' u hw hp;obtain⟨d2,w2,e2,l2⟩:=low u d1 w1 e1;exact⟨d2,w2,e2,by omega⟩
  ·rw[ju z]at h
   obtain⟨s',hs',g1,g2,g3,g4,g5⟩:=K.walk v d' w' h;refine⟨s',hs',g1,g2,g3,g4,λp q u hpq hp=> ?_⟩
   obtain⟨d1,w1,e1,l1⟩:=g5 p q u hpq hp;obtain⟨d2,w2,e2,l2⟩:=low u d1 w1 e1;exact⟨d2,w2,e2,by omega⟩
 ·obtain⟨d1,w1,e1,l1⟩:=K.start s' hs'
  obtain⟨d2,w2,e2,l2⟩:=low s' d1 w1 e1;exact⟨d2,w2,e2,by omega⟩
def Bar (L:aZ ν)(q:List Nat):Prop:=q≠ []/\(∃a,Ch L a q a)/\cost L q<0/\(dy L q).Nodup
theorem Ch.Jx {L:aZ ν}:∀{ks:List Nat} {a b:ν} (i:Nat),Ch L a ks b->dy L (ks.drop i)=(dy L ks).drop i
 | [],_,_,i,_=>by simp[dy]
 | k::r,a,b,0,_=>rfl
 | k::r,a,b,i+1,h=>by
  have:=h;obtain⟨c,m,e,h'⟩:=this;rw[h.Jn,Q2,Q2,h'.Jx i]
theorem Kept.round {L:aZ ν}{S:List ν}{b:bU ν}(K:Kept L S b){k:Nat}{a c:ν}{m d:Int}{w:List Nat}(e:L[k]? =some (a,c,m))(ha:b a=some (d,w))(hb:dN b c (d+m)=true)(hn:c∈dy L (w++ [k])) :
  Bar L ((w++ [k]).drop ((dy L (w++ [k])).idxOf c)):=by
 obtain⟨s,hs,h1,h2,h3,h4,h5⟩:=K.walk a d w ha
 have hch:Ch L s (w++ [k]) c:=h1.snoc e
 have hcost:cost L (w++ [k])=d+m:=by rw[kf,h2,cost,cost,most,e];simp
 obtain⟨c1,c2,c3⟩:=hch.cut hn
 generalize hi:(dy L (w++ [k])).idxOf c=i at c1 c2 c3
 refine⟨λz=> ?_,⟨c,c2⟩,?_,?_⟩
 ·have:=congrArg LV z
  rw[MS]at this
  simp at this c3
  omega
 ·have hsum:cost L ((w++ [k]).take i)+cost L ((w++ [k]).drop i)=d+m:=by rw[<-kf,Oc,hcost]
  have hiw:i<=w.length:=by simp at c3;omega
  have ht:(w++ [k]).take i=w.take i:=by rw[List.take_append_of_le_length hiw]
  rw[ht]at c1 hsum;obtain⟨d1,w1,e1,l1⟩:=h5 (w.take i) (w.drop i) c (Oc i w).symm c1;unfold dN at hb;rw[e1]at hb
  have:=of_decide_eq_true hb;simp only at this;omega
 ·rw[hch.Jx,qy,qx e]
  refine(RT _ _).nodup (MG.mpr ⟨h4,by simp,λx hx y hy=> ?_⟩)
  rw[KG.mp hy];exact λz=>h3 (by have z:x=a:=z;rw[<-z];exact hx)
def size (L:aZ ν):Nat:=(L.map λx=>x.2.2.natAbs).sum
theorem jd {f:Nat->Nat}:∀{ks rs:List Nat},ks.Nodup->(∀k∈ks,k∈rs)->(ks.map f).sum<=(rs.map f).sum
 | [],rs,_,_=>by simp
 | k::ks,rs,hn,hs=>by
  have hk:k∈rs:=hs k Kg;rw[Lk]at hn
  have hp:=List.perm_cons_erase hk
  have e:(rs.map f).sum=f k+((rs.erase k).map f).sum:=by
   have:=(hp.map f).sum_nat
   rwa [Ke,LH]at this
  rw[e,Ke,LH]
  have:=jd (f:=f) hn.2 (rs:=rs.erase k) λj hj=>by
   have h1:=hs j (Ka _ hj);exact(QK (λ(z:j=k)=>hn.1 (z▸hj))).mpr h1
  omega
theorem uz (L:aZ ν):size L=((J7 L.length).map λk=>(most L k).natAbs).sum:=by
 unfold size
 congr 1
 apply Ol
 ·simp
 ·intro i h1 h2
  simp only[Oh,List.getElem_range];unfold most;rw[Kf (by simpa using h1)]
theorem wO (L:aZ ν):∀(ks:List Nat),(cost L ks).natAbs<=(ks.map λk=>(most L k).natAbs).sum
 | [] =>by simp[cost]
 | k::r=>by
  have:=wO L r;rw[cost,Ke,LH];omega
theorem Ch.nodup {L:aZ ν}:∀{ks:List Nat} {a b:ν},Ch L a ks b->(dy L ks).Nodup->ks.Nodup
 | [],_,_,_,_=>N3
 | k::r,a,b,h,hn=>by
  have h0:=h;rw[h.Jn,Lk]at hn;obtain⟨c,m,e,h⟩:=h;rw[Lk];refine⟨λhk=>hn.1 ?_,h.nodup hn.2⟩
  unfold dy src;exact OS.mpr ⟨k,hk,by rw[e];rfl⟩
theorem Ch.small {L:aZ ν}{ks:List Nat}{a b:ν}(h:Ch L a ks b)(hn:(dy L ks).Nodup):(cost L ks).natAbs<=size L:=by
 rw[uz];exact KD (wO L ks) (jd (h.nodup hn) λk hk=>Kq.mpr (h.lt k hk))
def val (M:Nat)(b:bU ν)(v:ν):Nat:=match b v with
 | none=>2*M+1
 | some x=>(x.1+M).toNat
def left (M:Nat)(b:bU ν)(L:aZ ν):Nat:=(L.map λx=>val M b x.2.1).sum
theorem wa {M:Nat}{b b':bU ν}:∀{L:aZ ν},(∀x∈L,val M b' x.2.1<=val M b x.2.1)->left M b' L<=left M b L
 | [],_=>by simp[left]
 | x::L,h=>by
  have h1:=h x Kg
  have h2:=wa (L:=L) λy hy=>h y (Ka _ hy)
  unfold left at h2 ⊢;rw[Ke,LH,Ke,LH];omega
theorem v9 {M:Nat}{b b':bU ν}{x:ν×ν×Int}:∀{L:aZ ν},x∈L->(∀x∈L,val M b' x.2.1<=val M b x.2.1)->val M b' x.2.1<val M b x.2.1->left M b' L<left M b L
 | [],hx,_,_=>by simp at hx
 | y::L,hx,h,hl=>by
  have h1:=h y Kg
  have h2:=wa (L:=L) λy hy=>h y (Ka _ hy)
  unfold left at h2 ⊢;rw[Ke,LH,Ke,LH];rcases Ko.mp hx with rfl | hx
  ·omega
  ·have h3:=v9 (L:=L) hx (λy hy=>h y (Ka _ hy)) hl
   unfold left at h3;omega
theorem z9 {L:aZ ν}{S:List ν}{b:bU ν}(K:Kept L S b){k:Nat}{a c:ν}{m d:Int}{w:List Nat}(e:L[k]? =some (a,c,m))(ha:b a=some (d,w))(hb:dN b c (d+m)=true)(hn:c∉dy L (w++ [k])) :
  left (size L) (put b c (d+m,w++ [k])) L<left (size L) b L:=by
 have K':=K.put e ha hb hn;obtain⟨s,hs,h1,h2,h3,h4,h5⟩:=K'.walk c (d+m) (w++ [k]) dG
 have sm:=h1.small h4;rw[h2]at sm
 have lt:val (size L) (put b c (d+m,w++ [k])) c<val (size L) b c:=by
  unfold val dN at*;rw[dG]
  cases z:b c with
  | none=>simp only;omega
  | some y=>
   rw[z]at hb
   have hb:=of_decide_eq_true hb;simp only;omega
 refine v9 (x:=(a,c,m)) (LA e) (λy _=> ?_) lt
 by_cases z:y.2.1=c
 ·rw[z];exact LB lt
 ·unfold val;rw[ju z];exact Ki _
def Bi (b:bU ν)(x:ν×ν×Int):Prop:=∀d w,b x.1=some (d,w)->∃d' w',b x.2.1=some (d',w')/\d'<=d+x.2.2
theorem yZ {b:bU ν}{x:ν×ν×Int}(h:∀d w,b x.1=some (d,w)->dN b x.2.1 (d+x.2.2)=false):Bi b x:=λd w e=>by
 have:=h d w e;unfold dN at this
 cases z:b x.2.1 with
 | none=>rw[z]at this;cases this
 | some y=>
  rw[z]at this
  have:=of_decide_eq_false this;exact⟨y.1,y.2,rfl,by omega⟩
theorem gX {L:aZ ν}{S:List ν}:∀(r:aZ ν) (k:Nat) (b:bU ν) (mv:Bool),L.drop k=r->Kept L S b->match gL L k r b mv with
  | .inr q=>Bar L q
  | .inl (b',mv')=>Kept L S b'/\(mv'=false->mv=false/\b'=b/\∀x∈r,Bi b x)/\left (size L) b' L<=left (size L) b L/\(mv'=true->mv=true\/left (size L) b' L<left (size L) b L)
 | [],k,b,mv,_,K=>⟨K,λh=>⟨h,rfl,λx hx=>by simp at hx⟩,Ki _,λh=> .inl h⟩
 | x::r,k,b,mv,hr,K=>by
  have e:L[k]? =some x:=by
   have:=congrArg (·[0]?) hr
   simpa using this
  have hr':L.drop (k+1)=r:=by
   have:=congrArg (List.drop 1) hr
   simpa [List.drop_drop,Qh]using this
  rw[gL];obtain⟨a,c,m⟩:=x;unfold gf
  cases z:b a with
  | none=>
   simp only[z]
   have ih:=gX r (k+1) b mv hr' K
   revert ih
   generalize gL L (k+1) r b mv=R
   cases R with
   | inr q=>exact id
   | inl p=>
    obtain⟨b',mv'⟩:=p
    rintro ⟨i1,i2,i3,i4⟩
    refine⟨i1,λh=> ?_,i3,i4⟩
    obtain⟨j1,j2,j3⟩:=i2 h;refine⟨j1,j2,λx hx=> ?_⟩
    rcases Ko.mp hx with rfl | hx
    ·intro d w q;rw[z]at q;cases q
    ·exact j3 x hx
  | some y=>
   obtain⟨d,w⟩:=y;simp only[z]
   by_cases hb:dN b c (d+m)=true
   ·rw[if_pos hb]
    by_cases hn:c∈dy L (w++ [k])
    ·rw[if_pos hn]
     exact K.round e z hb hn
    ·rw[if_neg hn]
     have K':=K.put e z hb hn
     have lt:=z9 K e z hb hn
     have ih:=gX r (k+1) (put b c (d+m,w++ [k])) true hr' K'
     revert ih
     simp only
     generalize gL L (k+1) r (put b c (d+m,w++ [k])) true=R
     cases R with
     | inr q=>exact id
     | inl p=>
      obtain⟨b',mv'⟩:=p
      rintro ⟨i1,i2,i3,i4⟩
      refine⟨i1,λh=> ?_,by omega,λ_=> .inr (by omega)⟩
      obtain⟨j1,_⟩:=i2 h;cases j1
   ·rw[if_neg hb]
    have ih:=gX r (k+1) b mv hr' K
    revert ih
    simp only
    generalize gL L (k+1) r b mv=R
    cases R with
    | inr q=>exact id
    | inl p=>
     obtain⟨b',mv'⟩:=p
     rintro ⟨i1,i2,i3,i4⟩
     refine⟨i1,λh=> ?_,i3,i4⟩
     obtain⟨j1,j2,j3⟩:=i2 h;refine⟨j1,j2,λx hx=> ?_⟩
     rcases Ko.mp hx with rfl | hx
     ·refine yZ λd' w' q=> ?_
      simp only at q;rw[z]at q;cases q
      simpa using hb
     ·exact j3 x hx
structure Settled (L:aZ ν)(S:List ν)(b:bU ν):Prop where
 walk:∀v d w,b v=some (d,w)->∃s∈S,Ch L s w v/\cost L w=d/\v∉dy L w/\(dy L w).Nodup
 least:∀s∈S,∀v t,Wk L s v t->∃d w,b v=some (d,w)/\d<=t
theorem uA {L:aZ ν}{S:List ν}{b:bU ν}(K:Kept L S b)(h:∀x∈L,Bi b x):Settled L S b where
 walk:=λv d w e=>by
  obtain⟨s,h1,h2,h3,h4,h5,_⟩:=K.walk v d w e;exact⟨s,h1,h2,h3,h4,h5⟩
 least:=by
  have go:∀{u v:ν} {t:Int},Wk L u v t->∀d w,b u=some (d,w)->∃d' w',b v=some (d',w')/\d'<=d+t:=by
   intro u v t hw
   induction hw with
   | nil a=>exact λd w e=>⟨d,w,e,by omega⟩
   | step e _ ih=>
    intro d w q;obtain⟨d1,w1,e1,l1⟩:=h _ e d w q;obtain⟨d2,w2,e2,l2⟩:=ih d1 w1 e1;exact⟨d2,w2,e2,by simp only at l1;omega⟩
  intro s hs v t hw;obtain⟨d,w,e,l⟩:=K.start s hs;obtain⟨d2,w2,e2,l2⟩:=go hw d w e;exact⟨d2,w2,e2,by omega⟩
theorem oI {L:aZ ν}{S:List ν}:∀(n:Nat) (b:bU ν),Kept L S b->left (size L) b L<n->∃r,settle L n b=some r/\match r with
  | .inr q=>Bar L q
  | .inl b'=>Settled L S b'
 | 0,b,K,h=>by omega
 | n+1,b,K,h=>by
  have s:=gX (S:=S) L 0 b false rfl K;rw[settle]
  revert s
  generalize gL L 0 L b false=R
  cases R with
  | inr q=>exact λs=>⟨_,rfl,s⟩
  | inl p=>
   obtain⟨b',mv'⟩:=p
   rintro ⟨i1,i2,i3,i4⟩
   cases mv' with
   | false=>
    obtain⟨_,j2,j3⟩:=i2 rfl;subst j2
    exact⟨_,rfl,uA i1 j3⟩
   | true=>
    rcases i4 rfl with z | z
    ·cases z
    ·exact oI n b' i1 (by omega)
def start (S:List ν):bU ν:=λv=>if v∈S then some (0,[])else none
theorem nj (L:aZ ν)(S:List ν):Kept L S (start S) where
 walk:=λv d w e=>by
  unfold start at e
  split at e
  ·rename_i h
   cases e;refine⟨v,h,rfl,rfl,by simp[dy],by simp[dy],λp q u hpq hp=> ?_⟩
   obtain⟨rfl,rfl⟩:=List.append_eq_nil_iff.mp hpq.symm;cases hp;exact⟨0,[],by unfold start;rw[if_pos h],by simp[cost]⟩
  ·cases e
 start:=λs hs=>⟨0,[],by unfold start;rw[if_pos hs],PD _⟩
theorem Aa (L:aZ ν)(S:List ν):left (size L) (start S) L<=L.length*(2*size L+1):=by
 unfold left
 have:∀M:aZ ν,(M.map λx=>val (size L) (start S) x.2.1).sum<=M.length*(2*size L+1):=by
  intro M
  induction M with
  | nil=>simp
  | cons x M ih=>
   rw[Ke,LH,Kj,Nat.succ_mul]
   have:val (size L) (start S) x.2.1<=2*size L+1:=by
    unfold val start;split
    ·exact Ki _
    ·rename_i h
     split at h
     ·cases h;simp;omega
     ·cases h
   omega
 exact this L
theorem uB (L:aZ ν)(S:List ν){n:Nat}(h:L.length*(2*size L+1)<n):∃r,settle L n (start S)=some r/\match r with
  | .inr q=>Bar L q
  | .inl b'=>Settled L S b':=oI n (start S) (nj L S) (MZ (Aa L S) h)
theorem Bar.neg {L:aZ ν}{q:List Nat}(h:Bar L q):¬ dO L:=λn=>by
 obtain⟨_,⟨a,ha⟩,hc,_⟩:=h
 have:=n a _ ha.wk;omega
theorem Settled.holds {L:aZ ν}{S:List ν}{b:bU ν}(h:Settled L S b)(hS:∀x∈L,x.1∈S/\x.2.1∈S){t:ν->Int}(ht:∀v∈S,∃w,b v=some (t v,w)):Holds L t:=λa c m hx=>by
 obtain⟨ha,hc⟩:=hS _ hx;obtain⟨w,e⟩:=ht a ha;obtain⟨s,hs,h1,h2,_⟩:=h.walk a _ _ e;obtain⟨d,w',e',l⟩:=h.least s hs c _ (h1.wk.app (.one hx));obtain⟨w2,e2⟩:=ht c hc;rw[e2]at e';cases e';omega
abbrev ug (ν:Type):=ν->ν->Option Int
def Iv (f:ug ν)(a b:ν)(x:Int):ug ν:=λu v=>if u=a/\v=b then some x else f u v
def IC (f:ug ν)(a b:ν)(x:Int):ug ν:=match f a b with
 | none=>Iv f a b x
 | some y=>if x<y then Iv f a b x else f
def Iu (mid one other:ν)(f:ug ν):ug ν:=match f one mid,f mid other with
 | some x,some y=>IC f one other (x+y)
 | _,_=>f
def tab0 (P:List ν):ug ν:=λu v=>if u∈P/\u=v then some 0 else none
def tab1 (P:List ν)(L:aZ ν):ug ν:=L.foldl (λf x=>IC f x.1 x.2.1 x.2.2) (tab0 P)
def Dd (mid one:ν)(P:List ν)(f:ug ν):ug ν:=P.foldl (λf other=>Iu mid one other f) f
def Iy (mid:ν)(Q P:List ν)(f:ug ν):ug ν:=Q.foldl (λf one=>Dd mid one P f) f
def IB (M P:List ν)(f:ug ν):ug ν:=M.foldl (λf mid=>Iy mid P P f) f
def table (P:List ν)(L:aZ ν):ug ν:=IB P P (tab1 P L)
def less (L:aZ ν)(u d:Int):aZ ν:=L.map λx=>(x.1,x.2.1,x.2.2*d - u)
theorem qW {L:aZ ν}{u d:Int}{k:Nat}:(less L u d)[k]? =(L[k]?).map λx=>(x.1,x.2.1,x.2.2*d - u):=by unfold less;rw[Kv]
theorem less_ch {L:aZ ν}{u d:Int}:∀{q:List Nat} {a b:ν},Ch (less L u d) a q b↔Ch L a q b
 | [],a,b=>OC
 | k::r,a,b=>by
  show(∃c m,(less L u d)[k]? =some (a,c,m)/\Ch (less L u d) c r b)↔ ∃c m,L[k]? =some (a,c,m)/\Ch L c r b
  rw[qW]
  constructor
  ·rintro ⟨c,m,e,h⟩
   cases q:L[k]? with
   | none=>rw[q]at e;cases e
   | some x=>
    rw[q]at e;obtain⟨x1,x2,x3⟩:=x;cases e;exact⟨_,_,rfl,less_ch.mp h⟩
  ·rintro ⟨c,m,e,h⟩
   exact⟨c,m*d - u,by rw[e];rfl,less_ch.mpr h⟩
theorem kD {L:aZ ν}{u d:Int}:∀{q:List Nat},(∀k∈q,k<L.length)->cost (less L u d) q=cost L q*d - u*q.length
 | [],_=>by simp[cost]
 | k::r,h=>by
  have hk:=h k Kg
  have e:L[k]? =some L[k]:=Kf hk
  rw[cost,cost,kD λj hj=>h j (Ka _ hj),most,most,qW,e,Kj]
  show L[k].2.2*d - u+(cost L r*d - u*r.length)=(L[k].2.2+cost L r)*d - u*((r.length+1:Nat):Int)
  rw[Int.add_mul,Int.natCast_add,Int.mul_add];omega
theorem z8 {L:aZ ν}{u d:Int}(q:List Nat):dy (less L u d) q=dy L q:=by
 unfold dy src
 congr 1
 funext k
 rw[qW];cases L[k]? <;> rfl
def Rnd (L:aZ ν)(c:Int)(n:Nat):Prop:=∃q a,q≠ []/\Ch L a q a/\cost L q=c/\q.length=n
theorem Rnd.pos {L:aZ ν}{c:Int}{n:Nat}(h:Rnd L c n):0<n:=by
 obtain⟨q,a,h1,_,_,rfl⟩:=h;exact Nx.mpr h1
theorem rnd_noNeg {L:aZ ν}:dO L↔ ∀c n,Rnd L c n->0<=c:=by
 constructor
 ·rintro h c n ⟨q,a,_,h2,rfl,_⟩
  exact h a _ h2.wk
 ·intro h a s w
  obtain⟨ks,h1,rfl⟩:=w.ch
  cases ks with
  | nil=>exact PD _
  | cons k r=>exact h _ _ ⟨_,a,by simp,h1,rfl,rfl⟩
theorem mP {L:aZ ν}{u d:Int}(h:dO (less L u d)){c:Int}{n:Nat}(r:Rnd L c n):u*n<=c*d:=by
 obtain⟨q,a,h1,h2,rfl,rfl⟩:=r
 have:=rnd_noNeg.mp h _ _ ⟨q,a,h1,less_ch.mpr h2,rfl,rfl⟩;rw[kD h2.lt]at this;omega
structure Sr (L:aZ ν)(q:List Nat):Prop where
 ne:q≠ []
 ch:∃a,Ch L a q a
 nd:(dy L q).Nodup
theorem Sr.rnd {L:aZ ν}{q:List Nat}(h:Sr L q):Rnd L (cost L q) q.length:=by
 obtain⟨a,ha⟩:=h.ch;exact⟨q,a,h.ne,ha,rfl,rfl⟩
theorem Sr.pos {L:aZ ν}{q:List Nat}(h:Sr L q):0<q.length:=Nx.mpr h.ne
theorem Bar.sr {L:aZ ν}{u d:Int}{q:List Nat}(h:Bar (less L u d) q):Sr L q/\cost L q*d<u*q.length:=by
 obtain⟨h1,⟨a,ha⟩,h3,h4⟩:=h
 have ha:=less_ch.mp ha;rw[kD ha.lt]at h3;rw[z8]at h4;exact⟨⟨h1,⟨a,ha⟩,h4⟩,by omega⟩
def GU (N M:Nat):List (Int×Nat):=(J7 (2*M+1)).flatMap λ(i:Nat)=>(J7 N).map λ(j:Nat)=>((i:Int) - (M:Int),j+1)
theorem CZ {N M n:Nat}{c:Int}(h1:c.natAbs<=M)(h2:0<n)(h3:n<=N):(c,n)∈GU N M:=
 Nt.mpr ⟨(c+M).toNat,Kq.mpr (by omega),Ku.mpr ⟨n - 1,Kq.mpr (by omega),Prod.ext (by show(((c+M).toNat:Nat):Int) - M=c;omega) (by show n - 1+1=n;omega)⟩⟩
theorem wR {N M:Nat}{p:Int×Nat}(h:p∈GU N M):0<p.2:=by
 obtain⟨i,_,h⟩:=Nt.mp h;obtain⟨j,_,rfl⟩:=Ku.mp h;exact Nat.succ_pos j
theorem Dr (N M:Nat):(GU N M).length=(2*M+1)*N:=by
 unfold GU;rw[Q3]
 have:∀l:List Nat,(l.map λ_=>N).sum=l.length*N:=by
  intro l
  induction l with
  | nil=>simp
  | cons a l ih=>rw[Ke,LH,ih,Kj,Nat.add_mul];omega
 simp only[Kh,Ld];rw[this,Ld]
def mu (N M:Nat)(c:Int)(n:Nat):Nat:=((GU N M).filter λp=>decide (p.1*(n:Int)<c*(p.2:Int))).length
theorem pz {α:Type}{p q:α->Bool}:∀{l:List α},(∀x∈l,p x=true->q x=true)->(∃x∈l,q x=true/\p x=false)->(l.filter p).length<(l.filter q).length
 | [],_,⟨_,h,_⟩=>nomatch h
 | a::l,h,⟨x,hx,h1,h2⟩=>by
  have le:(l.filter p).length<=(l.filter q).length:=by
   have:∀l:List α,(∀x∈l,p x=true->q x=true)->(l.filter p).length<=(l.filter q).length:=by
    intro l
    induction l with
    | nil=>intro _;exact Ki _
    | cons b l ih=>
     intro h
     have:=ih λx hx=>h x (Ka _ hx)
     have hb:=h b Kg;rw[L8,L8]
     cases e:p b with
     | true=>rw[hb e];simp;omega
     | false=>cases q b <;> simp <;> omega
   exact this l λx hx=>h x (Ka _ hx)
  have ha:=h a Kg;rw[L8,L8];rcases Ko.mp hx with rfl | hx
  ·rw[h1,h2];simp;omega
  ·have ih:=pz (l:=l) (λx hx=>h x (Ka _ hx)) ⟨x,hx,h1,h2⟩
   cases e:p a with
   | true=>rw[ha e];simp;omega
   | false=>cases q a <;> simp <;> omega
theorem HS {N M n n':Nat}{c c':Int}(hb:(c',n')∈GU N M)(hn:0<n)(h:c'*n<c*n'):mu N M c' n'<mu N M c n:=by
 have hn':=wR hb;refine pz (λp hp h1=> ?_) ⟨(c',n'),hb,decide_eq_true h,decide_eq_false (Int.lt_irrefl _)⟩
 have h1:=of_decide_eq_true h1
 have hp:=wR hp;refine decide_eq_true ?_
 have i1:(0:Int)<n:=by omega
 have i2:(0:Int)<n':=by omega
 have i3:(0:Int)<p.2:=by omega
 have a1:p.1*n'*n<c'*p.2*n:=OF h1 i1
 have a2:c'*n*p.2<c*n'*p.2:=OF h i3
 have e1:p.1*n'*n=p.1*n*n':=by rw[NK,OV (n':Int),<-NK]
 have e2:c'*p.2*n=c'*n*p.2:=by rw[NK,OV (p.2:Int),<-NK]
 have e3:c*n'*p.2=c*p.2*n':=by rw[NK,OV (n':Int),<-NK]
 rw[e1,e2]at a1;rw[e3]at a2;exact Int.lt_of_mul_lt_mul_right (Int.lt_trans a1 a2) (Int.le_of_lt i2)
theorem HU (N M:Nat)(c:Int)(n:Nat):mu N M c n<=(2*M+1)*N:=by
 unfold mu;rw[<-Dr];exact Qp _ _
def Tight (L:aZ ν):Option (List Nat)->Prop
 | none=> ∀c n,¬Rnd L c n
 | some q=>Sr L q/\∀c n,Rnd L c n->cost L q*n<=c*q.length
theorem Tight.neg {L:aZ ν}:∀{o:Option (List Nat)},Tight L o->(dO L↔ ∀q,o=some q->0<=cost L q)
 | none,h=>⟨λ_ q e=>(nomatch e),λ_=>rnd_noNeg.mpr λc n r=>absurd r (h c n)⟩
 | some q,h=>⟨λn p e=>(by cases e;exact rnd_noNeg.mp n _ _ h.1.rnd),λg=>rnd_noNeg.mpr λc n r=>by
   have a:=h.2 c n r
   have b:=g q rfl
   have i1:(0:Int)<q.length:=by have:=h.1.pos;omega
   have:0<=c*(q.length:Int):=Int.le_trans (Int.mul_nonneg b (Int.natCast_nonneg n)) a;exact Int.le_of_mul_le_mul_right (by rw[Int.zero_mul];exact this) i1⟩
end Gr
namespace G
open PySem Tr
def isI:T->Bool
 | .int _=>true
 | _=>false
theorem Dg (t:T)(h:t.pl=true):dm [t] = .ok (.bl (isI t)):=by
 cases t <;> first | rfl | (simp[T.pl]at h;done)
def aP (t:T)(a b:Int):Bool:=match t with
 | .int i=>decide (a<=i)&&decide (i<=b)
 | _=>false
theorem dM (t:T)(a b:Int)(h:t.pl=true):aK [t,.int a,.int b] = .ok (.bl (aP t a b)):=by
 have w:=Dg t h
 cases t with
 | int i=>
  simp[aK,val,bj,iF,aL,aG,bJ,vr,ch,cl,ae,ai,ub,aP,w,isI]
  cases decide (a<=i) <;> rfl
 | scr _=>simp[T.pl]at h
 | dct _ _=>simp[T.pl]at h
 | _=>simp[aK,val,bj,iF,aL,aG,bJ,vr,ch,cl,ae,ai,aP,w,isI]
def d3 (t:T)(a b:Nat):Bool:=match t with
 | .tup l=>decide (a<=l.length)&&decide (l.length<=b)
 | _=>false
theorem iu (t:T)(a b:Nat)(h:t.pl=true):aH [t,.int a,.int b] = .ok (.bl (d3 t a b)):=by
 cases t with
 | tup l=>
  simp[aH,val,bj,pR,aL,aG,bJ,o1,vr,Ay,T.ty,wz,ch,cl,ae,ai,cY,T.items,ub,d3]
  cases decide (a<=l.length) <;> rfl
 | scr _=>simp[T.pl]at h
 | dct _ _=>simp[T.pl]at h
 | _=>rfl
def mw (x y:T):Bool:=aP x 1 9&&(match x with
 | .int i=>aP y i 9
 | _=>false)
theorem Gi (x y:T)(hx:x.pl=true)(hy:y.pl=true):ff [x,y] = .ok (.bl (mw x y)):=by
 have w:=dM x 1 9 hx;unfold mw
 cases q:aP x 1 9 with
 | false=>rw[q]at w;simp[ff,val,bj,kP,aL,aG,bJ,vr,cn,cl,ae,ai,w]
 | true=>
  rw[q]at w
  cases x with
  | int i=>simp[ff,val,bj,kP,aL,aG,bJ,vr,cn,cl,ae,ai,w,dM y i 9 hy]
  | _=>cases q
def sk:List Int->Bool
 | a::b::r=>decide (a<b)&&sk (b::r)
 | _=>true
theorem Hb (a b:Int)(r:List Int):sk (a::b::r)=(decide (a<b)&&sk (b::r)):=rfl
theorem rF {fe:En->Rs T}{p:T->Bool}{l:List T}{fi:En->Rs (List T)}{src:List (Option Nat)}{Z:En}(hi:fi Z= .ok l)(hs:l.length<=sizeLine)(hn:0<src.length)(hf:∀t∈l,fe ((cb src Z).set 0 (.va t))= .ok (.bl (p t))) :
  cl nW (ae (eO fi src (gN 0) bT fe) ai) Z= .ok (.bl (l.all p)):=by
 have e:=uZ (fe:=fe) (h:=λt=>T.bl (p t)) l (cb src Z) (by unfold cb;rw[Kh];exact hn) hf
 simp only[cl,ae,ai,eO,hi,aF,if_pos hs,e,all_map]
def kE (l:List T):T->Bool
 | .int k=>match L2.atI l k,L2.atI l (k+1)with
  | some (.int a),some (.int b)=>decide (a<b)
  | _,_=>false
 | _=>false
theorem vL {t:T}{j:Int}(h:t∈rng 0 j):∃k:Nat,t= .int k/\(k:Int)<j:=by
 unfold rng at h;obtain⟨k,hk,e⟩:=Ku.mp h;rw[Kq]at hk;exact⟨k,by rw[<-e];simp,by omega⟩
theorem EC:(l:List Int)->l.length<=4->(rng 0 ((l.length:Int) - 1)).all (kE (l.map .int))=sk l
 | [],_=>rfl
 | [a],_=>rfl
 | [a,b],_=>by simp[rng,MI,kE,L2.atI,L2.ixN,sk]
 | [a,b,c],_=>by simp[rng,MI,kE,L2.atI,L2.ixN,sk]
 | [a,b,c,d],_=>by simp[rng,MI,kE,L2.atI,L2.ixN,sk,Bool.and_assoc]
 | a::b::c::d::e::r,h=>absurd h (by simp only[Kj];omega)
theorem Dj (l:List Int)(h:l.length<=4):iY [.tup (l.map .int)] = .ok (.bl (sk l)):=by
 have hr:iR (ae (o2 dX (cl cY (ae (vr 0) ai)) (cn (.int 1))) ai) [.va (.tup (l.map .int))] = .ok (rng 0 ((l.length:Int) - 1)):=by
  have:nu ((l.length:Int) - 1)=true:=by unfold nu;rw[J9];exact⟨decide_eq_true (by omega),decide_eq_true (by omega)⟩
  simp[iR,ae,ai,o2,cl,vr,cn,cY,T.items,dX,this]
 have hs:(rng 0 ((l.length:Int) - 1)).length<=sizeLine:=by
  unfold rng sizeLine;rw[Kh,Ld];omega
 have e:=rF (fe:=o2 HW (o2 aO (vr 1) (vr 0)) (o2 aO (vr 1) (o2 bD (vr 0) (cn (.int 1))))) (p:=kE (l.map .int)) (src:=[none,some 0]) hr hs (by decide) (λt ht=>by
  obtain⟨k,rfl,hk⟩:=vL ht
  have h1:(l.map T.int)[k]? =some (.int (l[k]'(by omega))):=by simp
  have h2:(l.map T.int)[k+1]? =some (.int (l[k+1]'(by omega))):=by rw[Kv,Kf (by omega)];rfl
  have g1:=kM h1
  have g2:L2.atI (l.map T.int) ((k:Int)+1)=some (.int (l[k+1]'(by omega))):=kM h2
  simp[o2,vr,cb,cn,bD,aO,T.items,g1,g2,ub,kE])
 rw[EC l h]at e;simp only[iY,val,N9,if_true,w6,bj,aG,aL]
 show(do let f <-(do let t <-cl nW _ [.va (.tup (l.map .int))];Rs.ok (Fl.rt t));_)=_
 rw[e]
 rfl
def nums:List T->Option (List Int)
 | [] =>some []
 | .int i::l=>match nums l with
  | some m=>some (i::m)
  | none=>none
 | _::_=>none
def cA (t:T):Bool:=d3 t 1 4&&(match t with
 | .tup l=>l.all (λu=>aP u 0 99)&&(match nums l with | some m=>sk m | none=>false)
 | _=>false)
theorem mL:∀{l:List T} {m:List Int},nums l=some m->l=m.map .int
 | [],m,h=>by cases h;rfl
 | t::l,m,h=>by
  cases t with
  | int i=>
   unfold nums at h
   cases q:nums l with
   | none=>rw[q]at h;cases h
   | some m'=>rw[q]at h;cases h;rw[Ke,<-mL q]
  | _=>cases h
theorem qJ:∀{l:List T} {a b:Int},(l.all λu=>aP u a b)=true->∃m,nums l=some m
 | [],_,_,_=>⟨[],rfl⟩
 | t::l,a,b,h=>by
  rw[Rl,J9]at h
  cases t with
  | int i=>
   obtain⟨m,e⟩:=qJ h.2
   exact⟨i::m,by unfold nums;rw[e]⟩
  | _=>exact absurd h.1 (by simp[aP])
theorem cV {t:T}{a b:Nat}(h:d3 t a b=true):∃l,t= .tup l/\a<=l.length/\l.length<=b:=by
 cases t with
 | tup l=>unfold d3 at h;rw[J9]at h;exact⟨l,rfl,of_decide_eq_true h.1,of_decide_eq_true h.2⟩
 | _=>cases h
theorem small {n k:Nat}(h:n<=k)(hk:k<=1000:=by decide):n<=sizeLine:=by unfold sizeLine;omega
theorem u9 (t:T)(h:t.pl=true):bw [t] = .ok (.bl (cA t)):=by
 have w:aH [t,.int 1,.int 4] = .ok (.bl (d3 t 1 4)):=iu t 1 4 h;unfold cA
 cases q:d3 t 1 4 with
 | false=>rw[q]at w;simp[bw,val,bj,dR,aL,ay,eG,cp,tb,sN,aG,cl,vr,cn,ae,ai,w]
 | true=>
  rw[q]at w;obtain⟨l,rfl,h1,h2⟩:=cV q
  have hp:∀u∈l,u.pl=true:=λu hu=>iN (by unfold T.pl at h;exact h) hu
  have e:=rF (fe:=cl aK (ae (vr 0) (ae (cn (.int 0)) (ae (cn (.int 99)) ai)))) (p:=λu=>aP u 0 99) (src:=[none]) (fi:=iS (vr 0)) (Z:=[.va (.tup l)]) rfl (small h2) (by decide) (λu hu=>by
   simp[cl,ae,ai,vr,cn,cb,dM u 0 99 (hp u hu)])
  have w':cl aH (ae (vr 0) (ae (cn (.int 1)) (ae (cn (.int 4)) ai))) [.va (.tup l)] = .ok (.bl true):=w
  show bw _= .ok (.bl (true&&(l.all (λu=>aP u 0 99)&&(match nums l with | some m=>sk m | none=>false))))
  cases qa:l.all λu=>aP u 0 99 with
  | false=>
   rw[qa]at e
   simp[bw,val,bj,dR,aL,ay,eG,cp,tb,sN,aG,bJ,e,w']
  | true=>
   rw[qa]at e;obtain⟨m,em⟩:=qJ qa
   have el:=mL em
   have er:=Dj m (by rw[el,Kh]at h2;exact h2)
   rw[<-el]at er
   have er':cl iY (ae (vr 0) ai) [.va (.tup l)] = .ok (.bl (sk m)):=er;simp[bw,val,bj,dR,aL,ay,eG,cp,tb,sN,aG,bJ,e,w',er',em]
def at_ (t:T)(k:Nat):T:=match t.items with
 | some l=>l.getD k .non
 | none=> .non
def br (t:T):Bool:=d3 t 3 3&&(match t with
 | .tup [x,y,r] =>mw x y&&cA r
 | _=>false)
theorem Dn (t:T)(h:t.pl=true):cT [t] = .ok (.bl (br t)):=by
 have w:aH [t,.int 3,.int 3] = .ok (.bl (d3 t 3 3)):=iu t 3 3 h;unfold br
 cases q:d3 t 3 3 with
 | false=>rw[q]at w;simp[cT,val,bj,gI,aL,aG,bJ,cl,vr,cn,ae,ai,w]
 | true=>
  rw[q]at w;obtain⟨l,rfl,h1,h2⟩:=cV q
  match l,h1,h2 with
  | [x,y,r],_,_=>
   simp[T.pl,plS]at h;obtain⟨px,py,pr⟩:=h
   have g0:aO (.tup [x,y,r]) (.int 0)= .ok x:=rfl
   have g1:aO (.tup [x,y,r]) (.int 1)= .ok y:=rfl
   have g2:aO (.tup [x,y,r]) (.int 2)= .ok r:=rfl
   have ep:=Gi x y px py
   have er:=u9 r pr
   cases qp:mw x y with
   | false=>rw[qp]at ep;simp[cT,val,bj,gI,aL,aG,bJ,cl,vr,cn,ae,ai,o2,w,g0,g1,ep,qp]
   | true=>rw[qp]at ep;simp[cT,val,bj,gI,aL,aG,bJ,cl,vr,cn,ae,ai,o2,w,g0,g1,g2,ep,er,qp]
def bR (t:T):Bool:=d3 t 1 4&&(match t with
 | .tup l=>l.all br
 | _=>false)
theorem A0 (t:T)(h:t.pl=true):cX [t] = .ok (.bl (bR t)):=by
 have w:aH [t,.int 1,.int 4] = .ok (.bl (d3 t 1 4)):=iu t 1 4 h;unfold bR
 cases q:d3 t 1 4 with
 | false=>rw[q]at w;simp[cX,val,bj,gJ,aL,aG,bJ,cl,vr,cn,ae,ai,w]
 | true=>
  rw[q]at w;obtain⟨l,rfl,h1,h2⟩:=cV q
  have hp:∀u∈l,u.pl=true:=λu hu=>iN (by unfold T.pl at h;exact h) hu
  have e:=rF (fe:=cl cT (ae (vr 0) ai)) (p:=br) (src:=[none]) (fi:=iS (vr 0)) (Z:=[.va (.tup l)]) rfl (small h2) (by decide) (λu hu=>by
   simp[cl,ae,ai,vr,cn,cb,Dn u (hp u hu)])
  have w':cl aH (ae (vr 0) (ae (cn (.int 1)) (ae (cn (.int 4)) ai))) [.va (.tup l)] = .ok (.bl true):=w;simp[cX,val,bj,gJ,aL,aG,bJ,e,w']
def eX (x y:T):Bool:=aP x 0 999&&(match x,y with
 | _,.non=>true
 | .int i,_=>aP y i 999
 | _,_=>false)
theorem Dm (x y:T)(hx:x.pl=true)(hy:y.pl=true):dq [x,y] = .ok (.bl (eX x y)):=by
 have w:=dM x 0 999 hx;unfold eX
 cases q:aP x 0 999 with
 | false=>rw[q]at w;simp[dq,val,bj,gH,aL,aG,bJ,vr,cn,cl,ae,ai,w]
 | true=>
  rw[q]at w
  cases x with
  | int i=>
   have e:=dM y i 999 hy
   cases y with
   | non=>simp[dq,val,bj,gH,aL,aG,bJ,Bt,vr,cn,cl,ae,ai,o2,kG,T.isN,w]
   | _=>simp[dq,val,bj,gH,aL,aG,bJ,Bt,vr,cn,cl,ae,ai,o2,kG,T.isN,w,e]
  | _=>cases q
def oN (cs:List T)(c:Int):Nat:=if 0<=c then(match cs[c.toNat]? with
 | some (.tup [_,_,.tup r])=>r.length
 | _=>0)else 0
def aY (cs:List T)(t:T):Bool:=match t with
 | .tup [.int c,.int k] =>decide (0<=c)&&decide (c<cs.length)&&(decide (0<=k)&&decide (k<oN cs c))
 | _=>false
theorem lh {t:T}(h:br t=true):∃x y r,t= .tup [x,y,.tup r]:=by
 unfold br at h;rw[J9]at h;obtain⟨h1,h2⟩:=h;obtain⟨l,rfl,h3,h4⟩:=cV h1
 match l,h3,h4,h2 with
 | [x,y,r],_,_,h2=>
  simp only[J9]at h2;obtain⟨_,h5⟩:=h2;unfold cA at h5;rw[J9]at h5;obtain⟨m,rfl,_⟩:=cV h5.1;exact⟨x,y,m,rfl⟩
theorem cy {t:T}{a b:Int}(h:aP t a b=true):∃i,t= .int i/\a<=i/\i<=b:=by
 cases t with
 | int i=>unfold aP at h;rw[J9]at h;exact⟨i,rfl,of_decide_eq_true h.1,of_decide_eq_true h.2⟩
 | _=>cases h
theorem wJ (cs:List T)(t:T)(hc:bR (.tup cs)=true)(h:t.pl=true):cS [.tup cs,t] = .ok (.bl (aY cs t)):=by
 have w:aH [t,.int 2,.int 2] = .ok (.bl (d3 t 2 2)):=iu t 2 2 h
 cases q:d3 t 2 2 with
 | false=>
  rw[q]at w
  have:aY cs t=false:=by
   unfold aY;split
   ·cases q
   ·rfl
  simp[cS,val,bj,gG,aL,ay,eG,ki,cp,tb,sN,aG,cl,vr,cn,ae,ai,w,this]
 | true=>
  rw[q]at w;obtain⟨l,rfl,h1,h2⟩:=cV q
  match l,h1,h2 with
  | [x,y],_,_=>
   simp[T.pl,plS]at h;obtain⟨px,py⟩:=h
   have g0:aO (.tup [x,y]) (.int 0)= .ok x:=rfl
   have g1:aO (.tup [x,y]) (.int 1)= .ok y:=rfl
   have gl:cY [.tup cs] = .ok (.int cs.length):=rfl
   have e1:=dM x 0 ((cs.length:Int) - 1) px
   cases q1:aP x 0 ((cs.length:Int) - 1)with
   | false=>
    rw[q1]at e1
    have:aY cs (.tup [x,y])=false:=by
     cases x with
     | int c=>
      cases y with
      | int k=>
       simp only[aP,Mw,decide_eq_false_iff_not]at q1;simp only[aY,Mw,decide_eq_false_iff_not]
       omega
      | _=>rfl
     | _=>rfl
    simp[cS,val,bj,gG,aL,ay,eG,ki,cp,tb,sN,aG,cl,vr,cn,ae,ai,o2,dX,w,g0,gl,e1,this]
   | true=>
    rw[q1]at e1;obtain⟨c,rfl,c1,c2⟩:=cy q1;obtain⟨n,rfl⟩:=LO c1
    have hn:n<cs.length:=by omega
    have hcl:br cs[n] =true:=by
     unfold bR at hc;rw[J9]at hc;exact Ks.mp hc.2 _ (Mq hn)
    obtain⟨a,b,r,er⟩:=lh hcl
    have g2:aO (.tup cs) (.int (n:Int))= .ok (.tup [a,b,.tup r]):=by
     simp only[aO,T.items];rw[kM (Kf hn),er]
    have g3:aO (.tup [a,b,.tup r]) (.int 2)= .ok (.tup r):=rfl
    have gr:cY [.tup r] = .ok (.int r.length):=rfl
    have e2:=dM y 0 ((r.length:Int) - 1) py
    have:aY cs (.tup [.int n,y])=aP y 0 ((r.length:Int) - 1):=by
     have er2:oN cs (n:Int)=r.length:=by
      unfold oN;rw[if_pos c1,K0,Kf hn,er]
     cases y with
     | int k=>
      simp only[aY,aP,er2];rw[decide_eq_true c1,decide_eq_true (show(n:Int)<cs.length by omega)]
      simp only[Rv]
      congr 1
      exact decide_eq_decide.mpr (by omega)
     | _=>rfl
    simp[cS,val,bj,gG,aL,ay,eG,ki,cp,tb,sN,aG,cl,vr,cn,ae,ai,o2,dX,w,g0,g1,g2,g3,gl,gr,e1,e2,this]
def bQ (cs:List T)(t:T):Bool:=match t with
 | .tup [a,b,x,y] =>eX x y&&(aY cs a&&(aY cs b&& !aQ a b))
 | _=>false
theorem k9 {cs:List T}{t:T}(h:aY cs t=true):∃c k:Int,t= .tup [.int c,.int k]:=by
 unfold aY at h
 split at h
 ·exact⟨_,_,rfl⟩
 ·cases h
theorem AY (cs:List T)(t:T)(hc:bR (.tup cs)=true)(h:t.pl=true):bF [.tup cs,t] = .ok (.bl (bQ cs t)):=by
 have w:aH [t,.int 4,.int 4] = .ok (.bl (d3 t 4 4)):=iu t 4 4 h
 cases q:d3 t 4 4 with
 | false=>
  rw[q]at w
  have:bQ cs t=false:=by
   unfold bQ;split
   ·cases q
   ·rfl
  simp[bF,val,bj,dB,aL,ay,eG,ki,cp,tb,sN,aG,cl,vr,cn,ae,ai,w,this]
 | true=>
  rw[q]at w;obtain⟨l,rfl,h1,h2⟩:=cV q
  match l,h1,h2 with
  | [a,b,x,y],_,_=>
   simp[T.pl,plS]at h;obtain⟨pa,pb,px,py⟩:=h
   have g0:aO (.tup [a,b,x,y]) (.int 0)= .ok a:=rfl
   have g1:aO (.tup [a,b,x,y]) (.int 1)= .ok b:=rfl
   have g2:aO (.tup [a,b,x,y]) (.int 2)= .ok x:=rfl
   have g3:aO (.tup [a,b,x,y]) (.int 3)= .ok y:=rfl
   have e1:=Dm x y px py
   have e2:=wJ cs a hc pa
   have e3:=wJ cs b hc pb
   show _=Rs.ok (T.bl (eX x y&&(aY cs a&&(aY cs b&& !aQ a b))))
   cases q1:eX x y with
   | false=>
    rw[q1]at e1
    simp[bF,val,bj,dB,aL,ay,eG,ki,cp,tb,sN,aG,cl,vr,cn,ae,ai,o2,w,g2,g3,e1]
   | true=>
    rw[q1]at e1
    cases q2:aY cs a with
    | false=>
     rw[q2]at e2
     simp[bF,val,bj,dB,aL,ay,eG,ki,cp,tb,sN,aG,bJ,cl,vr,cn,ae,ai,o2,w,g0,g2,g3,e1,e2]
    | true=>
     rw[q2]at e2
     cases q3:aY cs b with
     | false=>
      rw[q3]at e3
      simp[bF,val,bj,dB,aL,ay,eG,ki,cp,tb,sN,aG,bJ,cl,vr,cn,ae,ai,o2,w,g0,g1,g2,g3,e1,e2,e3]
     | true=>
      rw[q3]at e3;obtain⟨c,k,rfl⟩:=k9 q2
      have f:fE (.tup [.int c,.int k]) b=true:=dg (by simp[T.dep,deps]) rfl (T.Jm _ pb)
      have g4:j7 (.tup [.int c,.int k]) b= .ok (.bl (!aQ (.tup [.int c,.int k]) b)):=by unfold j7;rw[if_pos f]
      simp[bF,val,bj,dB,aL,ay,eG,ki,cp,tb,sN,aG,bJ,cl,vr,cn,ae,ai,o2,w,g0,g1,g2,g3,g4,e1,e2,e3]
def i0 (cs:List T)(t:T):Bool:=d3 t 0 8&&(match t with
 | .tup l=>l.all (bQ cs)
 | _=>false)
theorem x9 (cs:List T)(t:T)(hc:bR (.tup cs)=true)(h:t.pl=true):cJ [.tup cs,t] = .ok (.bl (i0 cs t)):=by
 have w:aH [t,.int 0,.int 8] = .ok (.bl (d3 t 0 8)):=iu t 0 8 h;unfold i0
 cases q:d3 t 0 8 with
 | false=>rw[q]at w;simp[cJ,val,bj,fY,aL,aG,bJ,cl,vr,cn,ae,ai,w]
 | true=>
  rw[q]at w;obtain⟨l,rfl,h1,h2⟩:=cV q
  have hp:∀u∈l,u.pl=true:=λu hu=>iN (by unfold T.pl at h;exact h) hu
  have e:=rF (fe:=cl bF (ae (vr 1) (ae (vr 0) ai))) (p:=bQ cs) (src:=[none,some 0]) (fi:=iS (vr 1)) (Z:=[.va (.tup cs),.va (.tup l)]) rfl (small h2) (by decide) (λu hu=>by
   simp[cl,ae,ai,vr,cn,cb,AY cs u hc (hp u hu)])
  have w':cl aH (ae (vr 1) (ae (cn (.int 0)) (ae (cn (.int 8)) ai))) [.va (.tup cs),.va (.tup l)] = .ok (.bl true):=w;simp[cJ,val,bj,fY,aL,aG,bJ,e,w']
def nt (t:T):Bool:=match t with
 | .tup [.tup cs,ls] =>bR (.tup cs)&&i0 cs ls
 | _=>false
theorem AV (t:T)(h:t.pl=true):cR [t] = .ok (.bl (nt t)):=by
 have w:aH [t,.int 2,.int 2] = .ok (.bl (d3 t 2 2)):=iu t 2 2 h
 cases q:d3 t 2 2 with
 | false=>
  rw[q]at w
  have:nt t=false:=by
   unfold nt;split
   ·cases q
   ·rfl
  simp[cR,val,bj,fQ,aL,aG,bJ,cl,vr,cn,ae,ai,w,this]
 | true=>
  rw[q]at w;obtain⟨l,rfl,h1,h2⟩:=cV q
  match l,h1,h2 with
  | [x,y],_,_=>
   simp[T.pl,plS]at h;obtain⟨px,py⟩:=h
   have g0:aO (.tup [x,y]) (.int 0)= .ok x:=rfl
   have g1:aO (.tup [x,y]) (.int 1)= .ok y:=rfl
   have e1:=A0 x px
   cases q1:bR x with
   | false=>
    rw[q1]at e1
    have:nt (.tup [x,y])=false:=by
     cases x with
     | tup cs=>show(bR (.tup cs)&&_)=false;rw[q1];rfl
     | _=>rfl
    simp[cR,val,bj,fQ,aL,aG,bJ,cl,vr,cn,ae,ai,o2,w,g0,e1,this]
   | true=>
    rw[q1]at e1
    cases x with
    | tup cs=>
     have e2:=x9 cs y q1 py
     have:nt (.tup [.tup cs,y])=i0 cs y:=by show(bR (.tup cs)&&_)=_;rw[q1];rfl
     simp[cR,val,bj,fQ,aL,aG,bJ,cl,vr,cn,ae,ai,o2,w,g0,g1,e1,e2,this]
    | _=>cases q1
theorem fh:∀m:List Int,deps (m.map .int)=0
 | [] =>rfl
 | a::m=>by rw[Ke,deps,fh m];rfl
def rj (i n:Nat):List T:=(rng 0 n).map λt=>T.tup [.int i,t]
def ED:T->Nat
 | .tup [_,_,.tup r] =>r.length
 | _=>0
def jF:Nat->List T->List T
 | _,[] => []
 | i,c::r=>rj i (ED c)++jF (i+1) r
theorem iA {t:T}(h:br t=true):∃x y r,t= .tup [x,y,.tup r]/\1<=r.length/\r.length<=4:=by
 obtain⟨x,y,r,rfl⟩:=lh h
 have:cA (.tup r)=true:=by
  have h':(mw x y&&cA (.tup r))=true:=h;rw[J9]at h';exact h'.2
 unfold cA at this;rw[J9]at this;obtain⟨l,e,h1,h2⟩:=cV this.1;cases e;exact⟨x,y,r,rfl,h1,h2⟩
theorem nB (i n:Nat):(rj i n).length=n:=by unfold rj;rw[Kh,vM]
abbrev evG:T->En->Rs En:=gT 2 (u7 (gN 2) (u7 (gN 3) C9))
theorem iR1 {f:En->Rs (List T)}{Z:En}{j:Int}(h:f Z= .ok [.int j])(h0:0<=j)(h1:j<=100000):iR f Z= .ok (rng 0 j):=by
 have e:nu j=true:=by unfold nu;rw[J9];exact⟨decide_eq_true (by omega),decide_eq_true (by omega)⟩
 unfold iR;rw[h]
 show(if nu j=true then _ else _)=_
 rw[e];rfl
theorem Dw (l m:List T)(h:(l++m).length<=1000):bD (.tup l) (.tup m)= .ok (.tup (l++m)):=by
 show jk (l++m)=_
 unfold jk;rw[if_pos (aE h)]
theorem fG {cs:List T}(hc:bR (.tup cs)=true):(∀c∈cs,br c=true)/\1<=cs.length/\cs.length<=4:=by
 unfold bR at hc;rw[J9]at hc;obtain⟨l,e,h1,h2⟩:=cV hc.1;cases e;exact⟨λc h=>Ks.mp hc.2 c h,h1,h2⟩
theorem CW {n k:Nat}(h:k<n):T.int (k:Int)∈rng 0 (n:Int):=by
 unfold rng;exact Ku.mpr ⟨k,Kq.mpr (by omega),by simp⟩
theorem oM (cs:List T)(c:Nat):oN cs (c:Int)=ED (cs.getD c .non):=by
 unfold oN;rw[if_pos (by omega),K0,KH]
 cases cs[c]? with
 | none=>rfl
 | some t=>
  cases t with
  | tup l=>
   match l with
   | [] =>rfl
   | [_] =>rfl
   | [_,_] =>rfl
   | [_,_,z] =>cases z <;> rfl
   | _::_::z::_::_=>cases z <;> rfl
  | _=>rfl
theorem tG {g:T->En->Rs En}{F:En->Rs Fl}{p:T->Bool}(J:En->Prop):∀(ts:List T),(∀t∈ts,∀Z,J Z->∃Z1,g t Z= .ok Z1/\(p t=true->∃Z2,F Z1= .ok (.nx Z2)/\J Z2)/\(p t=false->F Z1= .ok (.rt (.bl false)))) →
  ∀Z,J Z->(ts.all p=true->∃Z',bh g F ts Z= .ok (.nx Z')/\J Z')/\(ts.all p=false->bh g F ts Z= .ok (.rt (.bl false)))
 | [],_,Z,hj=>⟨λ_=>⟨Z,rfl,hj⟩,λh=>(by cases h)⟩
 | t::ts,hs,Z,hj=>by
  obtain⟨Z1,h1,h2,h3⟩:=hs t Kg Z hj;rw[Rl]
  cases q:p t with
  | false=>exact⟨λh=>(by cases h),λ_=>q0 h1 (h3 q)⟩
  | true=>
   obtain⟨Z2,e2,j2⟩:=h2 q;rw[fB h1 e2,Rv];exact tG J ts (λt ht=>hs t (Ka _ ht)) Z2 j2
mutual
def sm (n:Nat):T->Bool
 | .dct _ _=>false
 | .scr _=>false
 | .tup l=>decide (l.length<=n)&&sms n l
 | .lst l=>decide (l.length<=n)&&sms n l
 | _=>true
def sms (n:Nat):List T->Bool
 | [] =>true
 | t::l=>sm n t&&sms n l
end
theorem fz {i j:Int}(h:0<j):dU (.int i) (.int j)= .ok (.int (i % j)):=by show(if _ then _ else _)=_;rw[if_pos h]
theorem fP {i j:Int}(h:0<j)(h2:j<1073741824):eC (.int i) (.int j)= .ok (.int (i / j)):=by show(if _ then _ else _)=_;rw[if_pos ⟨h,h2⟩]
theorem oY {i j:Int}(h : -18446744073709551616<i)(h2:i<18446744073709551616):de (.int i) (.int j)= .ok (.int (i*j)):=by
 show zX (.int i) (.int j)=_
 show(if _ then _ else _)=_
 rw[if_pos (.inl ⟨by omega,by omega⟩)]
theorem tu {i j:Int}(h : -18446744073709551616<j)(h2:j<18446744073709551616):de (.int i) (.int j)= .ok (.int (i*j)):=by
 show zX (.int i) (.int j)=_
 show(if _ then _ else _)=_
 rw[if_pos (.inr ⟨by omega,by omega⟩)]
theorem Gj (ns:List Int)(k:Nat)(hn:ns.length<=63):∃c,ez [.scr ns,.int k] = .ok (.int c):=by
 have e0:o2 jn (vr 0) (gE ai) [.va (.scr ns),.va (.int k)] = .ok (.bl (jo ns [])):=by
  refine aC (t:=.scr ns) (u:=.lst []) rfl (wq (ts:=[]) rfl (aE (k:=0) (Ki _))) ?_
  unfold jn;rw[if_pos (dg (by simp[T.dep]) rfl rfl)]
  rfl
 cases ns with
 | nil=>
  refine⟨7*k,bo rfl ?_⟩
  unfold iH
  refine gA ((gP (bO e0)).trans (bP (aC (t:=.int 7) (u:=.int k) rfl rfl (oY (by omega) (by omega)))))
 | cons a r=>
  have hl:(0:Int)<((a::r).length:Nat):=by simp only[Kj];omega
  have hl2:(((a::r).length:Nat):Int)<1073741824:=by simp only[Kj]at hn ⊢;omega
  have hi:k % (a::r).length<(a::r).length:=RV _ (by simp)
  have g0:o2 dU (vr 1) (cl cY (ae (vr 0) ai)) [.va (.scr (a::r)),.va (.int k)] = .ok (.int ((k % (a::r).length:Nat):Int)):=by
   refine aC (t:=.int k) (u:=.int ((a::r).length:Nat)) rfl ?_ (by rw[fz hl];rfl)
   refine aM (ts:=[.scr (a::r)]) rfl ?_
   show Rs.ok (T.int (((a::r).map T.int).length:Nat))=_
   rw[Kh]
  have g1:aO (.scr (a::r)) (.int ((k % (a::r).length:Nat):Int))= .ok (.int (a::r)[k % (a::r).length]):=by
   have e:((a::r).map T.int)[k % (a::r).length]? =some (.int (a::r)[k % (a::r).length]):=by rw[Kv,Kf hi];rfl
   show(match L2.atI ((a::r).map T.int) ((k % (a::r).length:Nat):Int)with | some t=>Rs.ok t | none=> .bad)=_
   rw[kM e]
  have g2:o2 eC (vr 1) (cl cY (ae (vr 0) ai)) [.va (.scr (a::r)),.va (.int k)] = .ok (.int ((k:Int) / ((a::r).length:Nat))):=by
   refine aC (t:=.int k) (u:=.int ((a::r).length:Nat)) rfl ?_ (fP hl hl2)
   refine aM (ts:=[.scr (a::r)]) rfl ?_
   show Rs.ok (T.int (((a::r).map T.int).length:Nat))=_
   rw[Kh]
  refine⟨(a::r)[k % (a::r).length] +6553*((k:Int) / ((a::r).length:Nat)),bo rfl ?_⟩
  unfold iH
  show ay _ _ [.va (.scr (a::r)),.va (.int k)] =_
  refine(aA (Z':=[.va (.scr (a::r)),.va (.int k)]) ((df (bO e0)).trans rfl)).trans ?_
  exact bP (aC (aC (t:=.scr (a::r)) rfl g0 g1) (aC (t:=.int 6553) rfl g2 (oY (by omega) (by omega))) rfl)
theorem rl (ns:List Int)(k:Nat)(m:Int)(hn:ns.length<=63)(hm:0<m):∃r,aX [.scr ns,.int k,.int m] = .ok (.int r)/\0<=r/\r<m:=by
 obtain⟨c,hc⟩:=Gj ns k hn
 have b1:∀x:Int,0<=x % 2147483563/\x % 2147483563<2147483563:=λx=>⟨Qq _ (by omega),OZ _ (by omega)⟩
 have b2:∀x:Int,0<=x % 2147483399/\x % 2147483399<2147483399:=λx=>⟨Qq _ (by omega),OZ _ (by omega)⟩
 generalize hx:(c % 2147483563*69069+104723*((k:Int)+1)) % 2147483563=x
 have hx':=b1 (c % 2147483563*69069+104723*((k:Int)+1));rw[hx]at hx'
 generalize hy:(x*x+x / 3) % 2147483399=y
 have hy':=b2 (x*x+x / 3);rw[hy]at hy';refine⟨(y*y+y / 7) % 2147483647 / 11 % m,bo rfl ?_,Qq _ (by omega),OZ _ hm⟩
 show gK [.va (.scr ns),.va (.int k),.va (.int m),.em] =_
 unfold gK
 have s1:cz (o2 dU (o2 bD (o2 de (o2 dU (cl ez (ae (vr 0) (ae (vr 1) ai))) (cn (.int 2147483563))) (cn (.int 69069))) (o2 de (cn (.int 104723)) (o2 bD (vr 1) (cn (.int 1))))) (cn (.int 2147483563))) (gN 3) [.va (.scr ns),.va (.int k),.va (.int m),.em] = .ok (.nx [.va (.scr ns),.va (.int k),.va (.int m),.va (.int x)]):=by
  refine bS (t:=.int x) (aC (u:=.int 2147483563) (aC (aC (u:=.int 69069) (aC (u:=.int 2147483563) (aM (ts:=[.scr ns,.int k]) rfl hc) rfl (fz (by omega))) rfl (tu (by omega) (by omega))) (aC (t:=.int 104723) (u:=.int ((k:Int)+1)) rfl rfl (oY (by omega) (by omega))) rfl) rfl ?_) rfl
  rw[fz (by omega),hx]
 have s2:cz (o2 dU (o2 bD (o2 de (vr 3) (vr 3)) (o2 eC (vr 3) (cn (.int 3)))) (cn (.int 2147483399))) (gN 3) [.va (.scr ns),.va (.int k),.va (.int m),.va (.int x)] = .ok (.nx [.va (.scr ns),.va (.int k),.va (.int m),.va (.int y)]):=by
  refine bS (t:=.int y) (aC (u:=.int 2147483399) (aC (aC (t:=.int x) (u:=.int x) rfl rfl (oY (by omega) (by omega))) (aC (t:=.int x) (u:=.int 3) rfl rfl (fP (by omega) (by omega))) rfl) rfl ?_) rfl
  rw[fz (by omega),hy]
 rw[aA s1,aA s2];exact bP (aC (u:=.int m) (aC (u:=.int 11) (aC (u:=.int 2147483647) (aC (aC (t:=.int y) (u:=.int y) rfl rfl (oY (by omega) (by omega))) (aC (t:=.int y) (u:=.int 7) rfl rfl (fP (by omega) (by omega))) rfl) rfl (fz (by omega))) rfl (fP (by omega) (by omega))) rfl (fz hm))
theorem j0:∀l:List Int,nums (l.map .int)=some l
 | [] =>rfl
 | a::l=>by rw[Ke,nums,j0 l]
theorem lF (n:Nat):rng 0 (n:Int)=(J7 n).map λ(j:Nat)=>T.int j:=by
 unfold rng;simp
theorem lJ {y:T}:∀(cs:List T) (i:Nat),y∈jF i cs->∃c k:Nat,y= .tup [.int c,.int k]/\i<=c/\c<i+cs.length/\k<ED (cs.getD (c - i) .non)
 | [],i,h=>by cases h
 | x::cs,i,h=>by
  rw[jF]at h;rcases Ls.mp h with h | h
  ·unfold rj at h
   obtain⟨t,ht,rfl⟩:=Ku.mp h;obtain⟨j,rfl,hj⟩:=vL ht;refine⟨i,j,rfl,Ki _,by rw[Kj];omega,?_⟩
   rw[Qm]
   show j<ED x
   omega
  ·obtain⟨c,k,e,h1,h2,h3⟩:=lJ cs (i+1) h
   refine⟨c,k,e,by omega,by rw[Kj];omega,?_⟩
   have:c - i=(c - (i+1))+1:=by omega
   rw[this];exact h3
theorem ID {cs:List T}{y:T}(h:y∈jF 0 cs):aY cs y=true:=by
 obtain⟨c,k,rfl,_,h2,h3⟩:=lJ cs 0 h
 show(decide ((0:Int)<=(c:Int))&&decide ((c:Int)<(cs.length:Int))&&(decide ((0:Int)<=(k:Int))&&decide ((k:Int)<(oN cs (c:Int):Int))))=true
 rw[OW]at h3;rw[oM];simp only[J9,decide_eq_true_eq];omega
theorem oR:∀(cs:List T) (i:Nat),(jF i cs).Nodup
 | [],i=>N3
 | x::cs,i=>by
  rw[jF,MG];refine⟨?_,oR cs (i+1),?_⟩
  ·unfold rj rng
   rw[KB];rw[List.nodup_iff_pairwise_ne,List.pairwise_map];refine List.nodup_range.imp ?_
   intro a b hab e
   simp at e
   exact hab (by omega)
  ·intro a ha b hb e
   subst e;unfold rj at ha;obtain⟨t,ht,rfl⟩:=Ku.mp ha;obtain⟨c,k,e,h1,_,_⟩:=lJ cs (i+1) hb
   simp at e
   omega
theorem wG:∀(cs:List T) (i:Nat),(∀c∈cs,br c=true)->(jF i cs).length<=4*cs.length
 | [],i,_=>Ki _
 | x::cs,i,h=>by
  obtain⟨a,b,r,rfl,_,h2⟩:=iA (h x Kg)
  have:=wG cs (i+1) λc hc=>h c (Ka _ hc)
  rw[jF,Kw,nB,Kj]
  show r.length+_<=_
  omega
theorem AQ (a b:Int):jn (.int a) (.int b)= .ok (.bl (a == b)):=by
 unfold jn;rw[if_pos (dg (by simp[T.dep]) rfl rfl)]
 rfl
theorem ke {cs:List T}{t:T}(h:bQ cs t=true):∃a b x y,t= .tup [a,b,x,y]/\eX x y=true/\aY cs a=true/\aY cs b=true/\aQ a b=false:=by
 unfold bQ at h
 split at h
 ·simp only[J9,Pn]at h
  exact⟨_,_,_,_,rfl,h.1,h.2.1,h.2.2.1,h.2.2.2⟩
 ·cases h
end G
namespace Tr
open PySem
section
variable {f fa fb:En->Rs T}{fs:En->Rs (List T)}{b c:En->Rs Bool}{F G:En->Rs Fl}{Z Z' Z1 Z2:En}{t u r:T}{ts l m:List T}
mutual
theorem kL:∀(t:T),t.pl=true->aQ t t=true
 | .non,_=>rfl
 | .bl a,_=>by simp[aQ]
 | .int a,_=>by simp[aQ]
 | .str a,_=>by simp[aQ]
 | .tup l,h=>by rw[aQ];exact beqTs_refl l (by unfold T.pl at h;exact h)
 | .lst l,h=>by rw[aQ];exact beqTs_refl l (by unfold T.pl at h;exact h)
 | .scr _,h=>by simp[T.pl]at h
theorem beqTs_refl:∀(l:List T),plS l=true->beqTs l l=true
 | [],_=>rfl
 | t::l,h=>by
  unfold plS at h;rw[J9]at h;rw[beqTs,kL t h.1,beqTs_refl l h.2];rfl
end
theorem vX (hp:t.pl=true)(hd:t.dep<=60):j7 t t= .ok (.bl false):=by
 unfold j7;rw[if_pos (dg hd (T.Jm _ hp) (T.Jm _ hp)),kL t hp];rfl
theorem De (hp:t.pl=true)(hd:t.dep<=60):jn t t= .ok (.bl true):=by
 unfold jn;rw[if_pos (dg hd (T.Jm _ hp) (T.Jm _ hp)),kL t hp]
theorem ib:∀{l:List T},(∀t∈l,t.pl=true)->plS l=true
 | [],_=>rfl
 | t::l,h=>by unfold plS;rw[h t Kg,ib λu hu=>h u (Ka _ hu)];rfl
end
end Tr
namespace G
open PySem Tr
def dr (r:List Int)(k:Nat):Int:=r.getD (k+1) 0 - r.getD k 0
def pr (n:Nat)(x y:Int)(r:List Int)(k:Nat):List T:=
 [.tup [.tup [.int n,.int k],.tup [.int n,.int ((k+1:Nat):Int)],.int (dr r k*y)],.tup [.tup [.int n,.int ((k+1:Nat):Int)],.tup [.int n,.int k],.int (-dr r k*x)]]
def cB (n:Nat)(x y:Int)(r:List Int):List T:=(J7 (r.length - 1)).flatMap (pr n x y r)
abbrev Bc (n:Nat)(x y:Int)(r:List Int)(acc:List T)(s4 s5 s6 s7:Sl):En:=[.va (.int n),.va (.tup [.int x,.int y,.tup (r.map .int)]),.va (.tup (r.map .int)),.ow (.lst acc),s4,s5,s6,s7]
abbrev bcF:En->Rs Fl:=(ay (cz (a9 (ae (vr 0) (ae (vr 4) ai))) (gN 5)) (ay (cz (a9 (ae (vr 0) (ae (o2 bD (vr 4) (cn (.int 1))) ai))) (gN 6)) (ay (cz (o2 dX (o2 aO (vr 2) (o2 bD (vr 4) (cn (.int 1)))) (o2 aO (vr 2) (vr 4))) (gN 7)) (ay (lp 3 (a9 (ae (vr 5) (ae (vr 6) (ae (o2 de (vr 7) (o2 aO (vr 1) (cn (.int 1)))) ai))))) (lp 3 (a9 (ae (vr 6) (ae (vr 5) (ae (o2 de (o1 jb (vr 7)) (o2 aO (vr 1) (cn (.int 0)))) ai)))))))))
theorem wB {r:List Int}{k:Nat}(h:k<r.length):(r.map T.int)[k]? =some (.int (r.getD k 0)):=by
 rw[Kv,Kf h]
 simp[h]
theorem Du (n:Nat)(x y:Int)(r:List Int)(acc:List T)(k:Nat)(s5 s6 s7:Sl)(hk:k+1<r.length)(hx:0<=x/\x<=9)(hy:0<=y/\y<=9)(ha:acc.length<=100) :
  bcF (Bc n x y r acc (.va (.int k)) s5 s6 s7)= .ok (.nx (Bc n x y r (acc++pr n x y r k) (.va (.int k)) (.va (.tup [.int n,.int k])) (.va (.tup [.int n,.int ((k+1:Nat):Int)])) (.va (.int (dr r k))))):=by
 have h2:([T.int n,T.int k]:List T).length<=sizeLine:=aE (k:=2) (by simp)
 have ek:((k:Int)+1)=((k+1:Nat):Int):=by omega
 refine(aA (Z':=Bc n x y r acc (.va (.int k)) (.va (.tup [.int n,.int k])) s6 s7) (bS (cZ rfl (aE (k:=2) (by simp))) rfl)).trans ?_
 refine(aA (Z':=Bc n x y r acc (.va (.int k)) (.va (.tup [.int n,.int k])) (.va (.tup [.int n,.int ((k+1:Nat):Int)])) s7) (bS (cZ (au rfl (au (t:=.int ((k+1:Nat):Int)) (aC (t:=.int k) (u:=.int 1) rfl rfl (congrArg (λz=>Rs.ok (T.int z)) ek)) rfl)) (aE (k:=2) (by simp))) rfl)).trans ?_
 refine(aA (Z':=Bc n x y r acc (.va (.int k)) (.va (.tup [.int n,.int k])) (.va (.tup [.int n,.int ((k+1:Nat):Int)])) (.va (.int (dr r k)))) (bS (t:=.int (dr r k)) (aC (t:=.int (r.getD (k+1) 0)) (u:=.int (r.getD k 0)) (F2 (n:=k+1) rfl (aC (t:=.int k) (u:=.int 1) rfl rfl (congrArg (λz=>Rs.ok (T.int z)) ek)) (wB hk)) (F2 (n:=k) rfl rfl (wB (by omega))) rfl) rfl)).trans ?_
 refine(aA (Z':=Bc n x y r (acc++ [.tup [.tup [.int n,.int k],.tup [.int n,.int ((k+1:Nat):Int)],.int (dr r k*y)]]) (.va (.int k)) (.va (.tup [.int n,.int k])) (.va (.tup [.int n,.int ((k+1:Nat):Int)])) (.va (.int (dr r k)))) (wu (l:=acc) (cZ (au rfl (au rfl (au (aC (t:=.int (dr r k)) (u:=.int y) rfl rfl (tu (by omega) (by omega))) rfl))) (aE (k:=3) (by simp))) rfl (by omega))).trans ?_
 refine(wu (l:=acc++ [.tup [.tup [.int n,.int k],.tup [.int n,.int ((k+1:Nat):Int)],.int (dr r k*y)]]) (cZ (au rfl (au rfl (au (aC (t:=.int (-dr r k)) (u:=.int x) rfl rfl (tu (by omega) (by omega))) rfl))) (aE (k:=3) (by simp))) rfl (by rw[Kw];simp;omega)).trans ?_
 rw[Lx]
 rfl
theorem wY (n:Nat)(x y:Int)(r:List Int)(hx:0<=x/\x<=9)(hy:0<=y/\y<=9):∀(js:List Nat) (acc:List T) (s4 s5 s6 s7:Sl),(∀k∈js,k+1<r.length)->acc.length+2*js.length<=100 →
  ∃t4 t5 t6 t7,bh (gN 4) bcF (js.map λ(k:Nat)=>T.int k) (Bc n x y r acc s4 s5 s6 s7)= .ok (.nx (Bc n x y r (acc++js.flatMap (pr n x y r)) t4 t5 t6 t7))
 | [],acc,s4,s5,s6,s7,_,_=>⟨s4,s5,s6,s7,by simp[bh]⟩
 | k::js,acc,s4,s5,s6,s7,hk,hl=>by
  rw[Kj]at hl
  have e:=Du n x y r acc k s5 s6 s7 (hk k Kg) hx hy (by omega)
  obtain⟨t4,t5,t6,t7,ih⟩:=wY n x y r hx hy js (acc++pr n x y r k) (.va (.int k)) (.va (.tup [.int n,.int k])) (.va (.tup [.int n,.int ((k+1:Nat):Int)])) (.va (.int (dr r k))) (λj hj=>hk j (Ka _ hj)) (by rw[Kw];simp[pr];omega)
  refine⟨t4,t5,t6,t7,?_⟩
  rw[Ke,fB (Z1:=Bc n x y r acc (.va (.int k)) s5 s6 s7) rfl e,ih,NY,Lx]
theorem A3 (n:Nat)(x y:Int)(r:List Int)(hx:0<=x/\x<=9)(hy:0<=y/\y<=9)(h1:1<=r.length)(h4:r.length<=4):bZ [.int n,.tup [.int x,.int y,.tup (r.map .int)]] = .ok (.lst (cB n x y r)):=by
 refine bo rfl ?_
 show dQ [.va (.int n),.va (.tup [.int x,.int y,.tup (r.map .int)]),.em,.em,.em,.em,.em,.em] =_
 unfold dQ;rw[aA (Z':=[.va (.int n),.va (.tup [.int x,.int y,.tup (r.map .int)]),.va (.tup (r.map .int)),.em,.em,.em,.em,.em]) (bS (t:=.tup (r.map .int)) rfl rfl)];rw[aA (Z':=Bc n x y r [] .em .em .em .em) rfl];obtain⟨t4,t5,t6,t7,e⟩:=wY n x y r hx hy (J7 (r.length - 1)) [] .em .em .em .em (λk hk=>by have:=Kq.mp hk;omega) (by simp;omega)
 have e1:iR (ae (o2 dX (cl cY (ae (vr 2) ai)) (cn (.int 1))) ai) (Bc n x y r [] .em .em .em .em)= .ok (rng 0 ((r.length - 1:Nat):Int)):=by
  refine iR1 (j:=((r.length - 1:Nat):Int)) (au (aC (t:=.int (r.length:Nat)) (u:=.int 1) (aM (ts:=[.tup (r.map .int)]) rfl (by show Rs.ok (T.int ((r.map T.int).length:Nat))=_;rw[Kh])) rfl (congrArg (λz=>Rs.ok (T.int z)) (by omega))) rfl) (by omega) (by omega)
 rw[aA ((jl (ts:=(J7 (r.length - 1)).map λ(k:Nat)=>T.int k) (by rw[e1,lF]) e))]
 rfl
theorem jB {t:T}(h:br t=true):∃(x y:Int) (r:List Int),t= .tup [.int x,.int y,.tup (r.map .int)]/\(0<=x/\x<=9)/\(0<=y/\y<=9)/\1<=r.length/\r.length<=4:=by
 obtain⟨x,y,r,rfl,h1,h4⟩:=iA h
 have h':(mw x y&&cA (.tup r))=true:=h;rw[J9]at h';obtain⟨hp,hr⟩:=h';unfold mw at hp;rw[J9]at hp;obtain⟨i,rfl,i1,i2⟩:=cy hp.1;obtain⟨j,rfl,j1,j2⟩:=cy (t:=y) (a:=i) (b:=9) hp.2;unfold cA at hr;rw[J9]at hr
 have hr2:((r.all λu=>aP u 0 99)&&(match nums r with | some m=>sk m | none=>false))=true:=hr.2
 rw[J9]at hr2;obtain⟨m,em⟩:=qJ hr2.1
 have e:=mL em;subst e;rw[Kh]at h1 h4;exact⟨i,j,m,rfl,⟨by omega,by omega⟩,⟨by omega,by omega⟩,h1,h4⟩
def xB (n:Nat)(t:T):List T:=match t with
 | .tup [.int x,.int y,.tup r] =>match nums r with
  | some m=>cB n x y m
  | none=> []
 | _=> []
def bC:Nat->List T->List T
 | _,[] => []
 | i,c::r=>xB i c++bC (i+1) r
def lB (t:T):List T:=match t with
 | .tup [a,b,.int le,mo] => .tup [b,a,.int (-le)] ::(if mo.isN then []else [.tup [a,b,mo]])
 | _=> []
def yB (cs ls:List T):List T:=bC 0 cs++ls.flatMap lB
theorem rO (n:Nat)(x y:Int)(r:List Int):xB n (.tup [.int x,.int y,.tup (r.map .int)])=cB n x y r:=by
 unfold xB;simp only[j0]
theorem GD (n:Nat)(x y:Int)(r:List Int):(cB n x y r).length=2*(r.length - 1):=by
 unfold cB;rw[Q3]
 have:∀l:List Nat,(l.map λk=>(pr n x y r k).length).sum=2*l.length:=by
  intro l
  induction l with
  | nil=>rfl
  | cons a l ih=>rw[Ke,LH,ih,Kj];simp[pr];omega
 rw[this,Ld]
theorem yH {n:Nat}{t:T}(h:br t=true):(xB n t).length<=6:=by
 obtain⟨x,y,r,rfl,_,_,h1,h4⟩:=jB h;rw[rO,GD];omega
theorem vf:∀{cs:List T} {i:Nat},(∀c∈cs,br c=true)->(bC i cs).length<=6*cs.length
 | [],i,_=>by simp[bC]
 | c::cs,i,h=>by
  rw[bC,Kw,Kj]
  have:=yH (n:=i) (h c Kg)
  have:=vf (cs:=cs) (i:=i+1) λc hc=>h c (Ka _ hc)
  omega
theorem Ak (t:T):(lB t).length<=2:=by
 unfold lB;split
 ·rename_i a b le mo
  cases mo.isN <;> simp
 ·simp
theorem wj:∀(ls:List T),(ls.flatMap lB).length<=2*ls.length
 | [] =>by simp
 | t::ls=>by
  rw[NY,Kw,Kj]
  have:=Ak t
  have:=wj ls;omega
theorem tJ {cs:List T}{t:T}(h:bQ cs t=true):∃(a b mo:T) (le:Int),t= .tup [a,b,.int le,mo]/\aY cs a=true/\aY cs b=true:=by
 obtain⟨a,b,x,y,rfl,hd,ha,hb,_⟩:=ke h;unfold eX at hd;rw[J9]at hd;obtain⟨i,rfl,_⟩:=cy hd.1;exact⟨a,b,y,i,rfl,ha,hb⟩
theorem ya {cs:List T}{t:T}(h:bQ cs t=true):bM [t] = .ok (.lst (lB t)):=by
 obtain⟨a,b,mo,le,rfl,_,_⟩:=tJ h;refine bo rfl ?_
 show du [.va (.tup [a,b,.int le,mo]),.em] =_
 unfold du;rw[aA (Z':=[.va (.tup [a,b,.int le,mo]),.ow (.lst [.tup [b,a,.int (-le)]])]) (u5 (l:=[.tup [b,a,.int (-le)]]) (au (cZ (au rfl (au rfl (au rfl rfl))) (aE (k:=3) (by simp))) rfl) (by simp) (by simp))]
 have e:∀(Z:En) l,Z= [.va (.tup [a,b,.int le,mo]),.ow (.lst l)]->o2 jh (o2 aO (vr 0) (cn (.int 3))) (cn .non) Z= .ok (.bl (!mo.isN)):=λZ l z=>by subst z;rfl
 have e2:lB (.tup [a,b,.int le,mo])= .tup [b,a,.int (-le)] ::(if mo.isN then []else [.tup [a,b,mo]]):=rfl
 rw[e2]
 cases q:mo.isN with
 | true=>
  rw[aA (Z':=[.va (.tup [a,b,.int le,mo]),.ow (.lst [.tup [b,a,.int (-le)]])]) ((df (bO (by rw[e _ _ rfl,q];rfl))).trans rfl)]
  rfl
 | false=>
  rw[aA (Z':=[.va (.tup [a,b,.int le,mo]),.ow (.lst ([.tup [b,a,.int (-le)]] ++ [.tup [a,b,mo]]))]) ((gP (bO (by rw[e _ _ rfl,q];rfl))).trans (wu (l:=[.tup [b,a,.int (-le)]]) (cZ (au rfl (au rfl (au rfl rfl))) (aE (k:=3) (by simp))) rfl (by simp)))]
  rfl
abbrev bdF:En->Rs Fl:=mm 1 (cl bZ (ae (vr 2) (ae (vr 3) ai)))
abbrev bdG:T->En->Rs En:=gT 2 (u7 (gN 2) (u7 (gN 3) C9))
theorem wX (R:T)(s4:Sl):∀(cs:List T) (acc:List T) (i:Nat) (s2 s3:Sl),(∀c∈cs,br c=true)->acc.length+6*cs.length<=100 →
  ∃y2 y3,bh bdG bdF (dh i cs) [.va R,.ow (.lst acc),s2,s3,s4] = .ok (.nx [.va R,.ow (.lst (acc++bC i cs)),y2,y3,s4])
 | [],acc,i,s2,s3,_,_=>⟨s2,s3,by simp[dh,bh,bC]⟩
 | c::cs,acc,i,s2,s3,hc,hl=>by
  have h0:=hc c Kg
  have hx:=yH (n:=i) h0;obtain⟨x,y,r,rfl,a1,a2,a3,a4⟩:=jB h0;rw[Kj]at hl;rw[rO]at hx
  have st:bdF [.va R,.ow (.lst acc),.va (.int i),.va (.tup [.int x,.int y,.tup (r.map .int)]),s4] = .ok (.nx [.va R,.ow (.lst (acc++cB i x y r)),.va (.int i),.va (.tup [.int x,.int y,.tup (r.map .int)]),s4]):=
   Au (l:=acc) (aM (ts:=[.int i,.tup [.int x,.int y,.tup (r.map .int)]]) rfl (A3 i x y r a1 a2 a3 a4)) rfl (by omega)
  obtain⟨z2,z3,ih⟩:=wX R s4 cs (acc++cB i x y r) (i+1) (.va (.int i)) (.va (.tup [.int x,.int y,.tup (r.map .int)])) (λc h=>hc c (Ka _ h)) (by rw[Kw];omega)
  refine⟨z2,z3,?_⟩
  rw[dh,fB (Z1:=[.va R,.ow (.lst acc),.va (.int i),.va (.tup [.int x,.int y,.tup (r.map .int)]),s4]) rfl st,ih,bC,rO,Lx]
abbrev blF:En->Rs Fl:=mm 1 (cl bM (ae (vr 4) ai))
theorem wV (R:T)(cs:List T)(s2 s3:Sl):∀(ls:List T) (acc:List T) (s4:Sl),(∀t∈ls,bQ cs t=true)->acc.length+2*ls.length<=100 →
  ∃y4,bh (gN 4) blF ls [.va R,.ow (.lst acc),s2,s3,s4] = .ok (.nx [.va R,.ow (.lst (acc++ls.flatMap lB)),s2,s3,y4])
 | [],acc,s4,_,_=>⟨s4,by simp[bh]⟩
 | t::ls,acc,s4,hl,hn=>by
  rw[Kj]at hn
  have:=Ak t
  have st:blF [.va R,.ow (.lst acc),s2,s3,.va t] = .ok (.nx [.va R,.ow (.lst (acc++lB t)),s2,s3,.va t]):=Au (l:=acc) (aM (ts:=[t]) rfl (ya (hl t Kg))) rfl (by omega)
  obtain⟨y4,ih⟩:=wV R cs s2 s3 ls (acc++lB t) (.va t) (λu h=>hl u (Ka _ h)) (by rw[Kw];omega)
  refine⟨y4,?_⟩
  rw[fB (Z1:=[.va R,.ow (.lst acc),s2,s3,.va t]) rfl st,ih,NY,Lx]
theorem j6 {R:T}(hp:R.pl=true)(h:nt R=true):ba [R] = .ok .non:=by
 refine An (Z:=[.va R]) rfl ?_
 show fU [.va R] =_
 unfold fU;exact(df ((gp (k:=true) (bO (aM (ts:=[R]) rfl (by rw[AV R hp,h])))))).trans rfl
structure Good (cs ls:List T):Prop where
 c:bR (.tup cs)=true
 l:∀t∈ls,bQ cs t=true
 n:ls.length<=8
 p:(RR cs ls).pl=true
theorem Good.ok {cs ls:List T}(g:Good cs ls):nt (RR cs ls)=true:=by
 show(bR (.tup cs)&&(d3 (.tup ls) 0 8&&ls.all (bQ cs)))=true
 rw[g.c,Rv,J9,Ks];exact⟨by simp[d3];exact g.n,g.l⟩
theorem A1 {cs ls:List T}(g:Good cs ls):bN [RR cs ls] = .ok (.lst (yB cs ls)):=by
 obtain⟨hc,c1,c4⟩:=fG g.c
 have hn:=g.n;refine bo rfl ?_
 show n4 [.va (RR cs ls),.em,.em,.em,.em] =_
 unfold n4;rw[aA (Av (t:=.non) (aM (ts:=[RR cs ls]) rfl (j6 g.p g.ok)))];rw[aA (Z':=[.va (RR cs ls),.ow (.lst []),.em,.em,.em]) (Ap (by simp))]
 obtain⟨y2,y3,e⟩:=wX (RR cs ls) .em cs [] 0 .em .em hc (by simp;omega)
 rw[aA ((jl (ts:=dh 0 cs) rfl e))]
 have:=vf (i:=0) hc;obtain⟨y4,e2⟩:=wV (RR cs ls) cs y2 y3 ls ([] ++bC 0 cs) .em g.l (by rw[M5];omega)
 rw[aA ((jl (ts:=ls) rfl e2))]
 rfl
theorem B2 (n:Nat)(h:1<=n):rng 1 (n:Int)=(J7 (n - 1)).map λ(k:Nat)=>T.int ((k+1:Nat):Int):=by
 unfold rng
 have:((n:Int) - 1).toNat=n - 1:=by omega
 rw[this];exact KA λk _=>congrArg T.int (by omega)
theorem iR2 {f:En->Rs (List T)}{Z:En}{i j:Int}(h:f Z= .ok [.int i,.int j])(h0:0<=i)(h1:i<=100000)(h2:0<=j)(h3:j<=100000):iR f Z= .ok (rng i j):=by
 unfold iR;rw[h]
 have e:(nu i&&nu j)=true:=by unfold nu;simp;omega
 show(if (nu i&&nu j)=true then _ else _)=_
 rw[e];rfl
theorem jv {l:List T}:(T.tup l).pl=plS l:=by unfold T.pl;rfl
theorem Good.parts {cs ls:List T}(g:Good cs ls):(T.tup cs).pl=true/\∀t∈ls,t.pl=true:=by
 have:=g.p;rw[jv]at this;unfold plS at this;rw[J9]at this
 have h2:=this.2;unfold plS at h2;rw[J9,jv]at h2;exact⟨this.1,λt ht=>iN h2.1 ht⟩
theorem Good.sub {cs ls ms:List T}(g:Good cs ls)(hm:∀t∈ms,t∈ls)(hn:ms.length<=8):Good cs ms:=⟨g.c,λt ht=>g.l t (hm t ht),hn,by
 obtain⟨h1,h2⟩:=g.parts;rw[jv];refine ib λt ht=> ?_
 simp only[Ko,Ll,or_false]at ht;rcases ht with rfl | rfl
 ·exact h1
 ·rw[jv];exact ib λt ht=>h2 t (hm t ht)⟩
theorem rh {a:Nat}(h:a<=100):nu (a:Int)=true:=by unfold nu;simp;omega
abbrev peF:En->Rs Fl:=mm 1 (eO (iR (ae (cl cY (ae (o2 aO (vr 3) (cn (.int 2))) ai)) ai)) [none,some 2] (gN 0) bT (a9 (ae (vr 1) (ae (vr 0) ai))))
theorem zD (c0 s1:Sl)(x y:T)(r:List T)(i:Nat)(h:r.length<=4) :
  eO (iR (ae (cl cY (ae (o2 aO (vr 3) (cn (.int 2))) ai)) ai)) [none,some 2] (gN 0) bT (a9 (ae (vr 1) (ae (vr 0) ai))) [c0,s1,.va (.int i),.va (.tup [x,y,.tup r])] = .ok (.lst (rj i r.length)):=
 ly (iR1 (j:=(r.length:Int)) rfl (by omega) (by omega)) (aE (k:=4) (by rw[vM];exact h)) (by simp) λt _=>mk2 _ _
theorem vS:∀(cs:List T) (c0:T) (acc:List T) (i:Nat) (s2 s3:Sl),(∀c∈cs,br c=true)->acc.length+4*cs.length<=100 →
  ∃y2 y3,bh evG peF (dh i cs) [.va c0,.ow (.lst acc),s2,s3] = .ok (.nx [.va c0,.ow (.lst (acc++jF i cs)),y2,y3])
 | [],c0,acc,i,s2,s3,_,_=>⟨s2,s3,by simp[dh,bh,jF]⟩
 | c::cs,c0,acc,i,s2,s3,hc,hl=>by
  obtain⟨x,y,r,rfl,r1,r2⟩:=iA (hc c Kg);rw[Kj]at hl
  have st:peF [.va c0,.ow (.lst acc),.va (.int i),.va (.tup [x,y,.tup r])] = .ok (.nx [.va c0,.ow (.lst (acc++rj i r.length)),.va (.int i),.va (.tup [x,y,.tup r])]):=Au (l:=acc) (zD _ _ x y r i r2) rfl (by rw[nB];omega)
  obtain⟨z2,z3,ih⟩:=vS cs c0 (acc++rj i r.length) (i+1) (.va (.int i)) (.va (.tup [x,y,.tup r])) (λc h=>hc c (Ka _ h)) (by rw[Kw,nB];omega)
  refine⟨z2,z3,?_⟩
  rw[dh,fB (Z1:=[.va c0,.ow (.lst acc),.va (.int i),.va (.tup [x,y,.tup r])]) rfl st,ih,jF,Lx]
  rfl
theorem zH {cs ls:List T}(g:Good cs ls):dI [RR cs ls] = .ok (.lst (jF 0 cs)):=by
 obtain⟨hc,c1,c4⟩:=fG g.c;refine bo rfl ?_
 show nZ [.va (RR cs ls),.em,.em,.em] =_
 unfold nZ;rw[aA (Av (t:=.non) (aM (ts:=[RR cs ls]) rfl (j6 g.p g.ok)))];rw[aA (Z':=[.va (RR cs ls),.ow (.lst []),.em,.em]) (Ap (by simp))]
 obtain⟨y2,y3,e⟩:=vS cs (RR cs ls) [] 0 .em .em hc (by simp;omega)
 rw[aA ((jl (ts:=dh 0 cs) rfl e))]
 rfl
theorem xQ {g:T->En->Rs En}{F:En->Rs Fl}(J:En->Prop){ts:List T}(h:∀t∈ts,∀Z,J Z->∃Z1 Z2,g t Z= .ok Z1/\F Z1= .ok (.nx Z2)/\J Z2){Z:En}(hj:J Z):∃Z',bh g F ts Z= .ok (.nx Z')/\J Z':=
 (tG (p:=λ_=>true) J ts (λt ht Z hj=>by
  obtain⟨Z1,Z2,a,b,c⟩:=h t ht Z hj;exact⟨Z1,a,λ_=>⟨Z2,b,c⟩,λh=>by cases h⟩) Z hj).1 (by simp)
theorem p2 {a b:En->Rs T}{t u:T}{Z:En}(ha:a Z= .ok t)(hb:b Z= .ok u):a9 (ae a (ae b ai)) Z= .ok (.tup [t,u]):=cZ (au ha (au hb rfl)) (aE (k:=2) (by simp))
theorem iJ {l:List T}:fR [.lst l] = .ok (.tup l):=rfl
theorem Dt {cs ls:List T}(g:Good cs ls):(yB cs ls).length<=60:=by
 unfold yB;rw[Kw];obtain⟨hc,c1,c4⟩:=fG g.c
 have:=vf (i:=0) hc
 have:=wj ls
 have:=g.n;omega
end G
namespace G
open PySem Tr Gr
structure N2 where
 c:Int
 k:Int
deriving DecidableEq
theorem N2.ext':∀{u v:N2},u.c=v.c->u.k=v.k->u=v
 | ⟨_,_⟩,⟨_,_⟩,rfl,rfl=>rfl
def en (v:N2):T:=.tup [.int v.c,.int v.k]
def eB (x:N2×N2×Int):T:=.tup [en x.1,en x.2.1,.int x.2.2]
def eN (ks:List Nat):List T:=ks.map λk=> .int (k:Nat)
def eW (x:Int×List Nat):T:=.tup [.int x.1,.lst (eN x.2)]
def ky (v:N2):List L2.Key:=[.inl v.c,.inl v.k]
theorem cG (v:N2):keyOf (en v)=some (ky v):=rfl
theorem qY {u v:N2}(h:some (ky u)=some (ky v)):u=v:=by
 injection h with h
 injection h with h1 h2
 injection h2 with h2 _
 injection h1 with h1
 injection h2 with h2
 exact N2.ext' h1 h2
theorem nC {u v:N2}(h:en u=en v):u=v:=qY (by rw[<-cG u,<-cG v,h])
theorem nR (u v:N2):aQ (en u) (en v)=decide (u=v):=by
 unfold en aQ beqTs aQ beqTs beqTs
 by_cases h:u=v
 ·subst h;simp[aQ]
 ·have:¬ (u.c=v.c/\u.k=v.k):=λz=>h (N2.ext' z.1 z.2)
  simp[h,aQ];exact λz=>λy=>this ⟨z,y⟩
theorem wM (g:N2->T)(v:N2):∀(ns:List N2),ou (ns.map en) (ns.map g) (ky v)=if v∈ns then some (g v)else none
 | [] =>rfl
 | u::ns=>by
  rw[Ke,Ke,ou,cG]
  by_cases h:u=v
  ·subst h;rw[if_pos rfl,if_pos Kg]
  ·rw[if_neg (λz=>h (qY z)),wM g v ns]
   have:(v∈u::ns)↔v∈ns:=by rw[Ko];exact⟨λz=>z.elim (λy=>absurd y.symm h) id,.inr⟩
   simp only[this]
theorem nJ (x:T)(v:N2)(g:N2->T):∀(ns:List N2),v∉ns->gC (en v) x (ns.map en) (ns.map g)=(ns.map en++ [en v],ns.map g++ [x])
 | [],_=>rfl
 | u::ns,h=>by
  rw[Ko,not_or]at h;rw[Ke,Ke,gC,cG,cG,if_neg (λz=>h.1 (qY z).symm),nJ x v g ns h.2]
  rfl
theorem wK (x:T)(v:N2)(g:N2->T):∀(ns:List N2),ns.Nodup->v∈ns->gC (en v) x (ns.map en) (ns.map g)=(ns.map en,ns.map λu=>if u=v then x else g u)
 | [],_,h=>by simp at h
 | u::ns,hn,h=>by
  rw[Lk]at hn;rw[Ke,Ke,Ke,gC,cG,cG]
  by_cases z:u=v
  ·subst z
   rw[if_pos rfl,if_pos rfl]
   congr 2
   exact KA λw hw=>by rw[if_neg (λ(y:w=u)=>hn.1 (y▸hw))]
  ·rw[if_neg (λy=>z (qY y)),if_neg z]
   have h':v∈ns:=(Ko.mp h).elim (λy=>absurd y.symm z) id
   rw[wK x v g ns hn.2 h']
theorem iU {α:Type}[DecidableEq α]:∀{l m:List α},l.Nodup->(∀x∈l,x∈m)->l.length<=m.length
 | [],_,_,_=>K3 _
 | x::l,m,hn,h=>by
  rw[Lk]at hn
  have hx:=h x Kg
  have:=iU (m:=m.erase x) hn.2 λy hy=>(QK (λ(z:y=x)=>hn.1 (z▸hy))).mpr (h y (Ka _ hy))
  rw[List.length_erase_of_mem hx]at this
  have:0<m.length:=List.length_pos_of_mem hx;rw[Kj];omega
def oW (o:Option (Int×List Nat)):T:=match o with
 | some x=>eW x
 | none=> .non
structure DR (P ns:List N2)(b:bU N2):Prop where
 nd:ns.Nodup
 mem:∀v,v∈ns↔(b v).isSome=true
 sub:∀v∈ns,v∈P
def dV (ns:List N2)(b:bU N2):List T:=ns.map λv=>oW (b v)
theorem DR.get {P ns:List N2}{b:bU N2}(D:DR P ns b)(v:N2):ou (ns.map en) (dV ns b) (ky v)=(b v).map eW:=by
 unfold dV;rw[wM (λv=>oW (b v))]
 have:=D.mem v
 cases q:b v with
 | none=>rw[q]at this;rw[if_neg (λz=>by simpa using this.mp z)];rfl
 | some x=>rw[q]at this;rw[if_pos (this.mpr rfl)];rfl
theorem DR.put {P ns:List N2}{b:bU N2}(D:DR P ns b){v:N2}(hv:v∈P)(y:Int×List Nat):∃ns',DR P ns' (Gr.put b v y)/\gC (en v) (eW y) (ns.map en) (dV ns b)=(ns'.map en,dV ns' (Gr.put b v y)):=by
 by_cases h:v∈ns
 ·refine⟨ns,⟨D.nd,λu=> ?_,D.sub⟩,?_⟩
  ·by_cases z:u=v
   ·subst z;rw[dG];exact⟨λ_=>rfl,λ_=>h⟩
   ·rw[ju z];exact D.mem u
  ·unfold dV
   rw[wK _ _ _ _ D.nd h]
   congr 1
   refine KA λu _=> ?_
   by_cases z:u=v
   ·subst z;rw[if_pos rfl,dG];rfl
   ·rw[if_neg z,ju z]
 ·refine⟨ns++ [v],⟨?_,λu=> ?_,λu hu=> ?_⟩,?_⟩
  ·exact MG.mpr ⟨D.nd,by simp,λx hx y hy=>by simp at hy;subst hy;exact λz=>h (z▸hx)⟩
  ·rw[Ls,KG]
   by_cases z:u=v
   ·subst z;rw[dG];exact⟨λ_=>rfl,λ_=> .inr rfl⟩
   ·rw[ju z,<-D.mem u];exact⟨λw=>w.elim id λy=>absurd y z,.inl⟩
  ·rcases Ls.mp hu with w | w
   ·exact D.sub u w
   ·rw[KG.mp w];exact hv
  ·unfold dV
   rw[nJ _ _ _ _ h,LM,LM]
   congr 1
   congr 1
   ·refine KA λu hu=> ?_
    rw[ju (λ(z:u=v)=>h (z▸hu))]
   ·simp[dG,oW]
theorem A2 {P ns:List N2}{b:bU N2}(D:DR P ns b)(x:N2×N2×Int)(d:Int)(w:List Nat) :
  cU [.dct (ns.map en) (dV ns b),eB x,eW (d,w)] = .ok (.bl (dN b x.2.1 (d+x.2.2))):=by
 refine bo rfl ?_
 show iG [.va (.dct (ns.map en) (dV ns b)),.va (eB x),.va (eW (d,w)),.em] =_
 unfold iG
 have g:oD gR (vr 0) (o2 aO (vr 1) (cn (.int 1))) [.va (.dct (ns.map en) (dV ns b)),.va (eB x),.va (eW (d,w)),.em] = .ok (oW (b x.2.1)):=by
  refine Ic (ks:=ns.map en) (vs:=dV ns b) (u:=en x.2.1) rfl rfl ?_
  unfold gR;rw[cG];simp only[D.get];cases b x.2.1 <;> rfl
 rw[aA (bS (t:=oW (b x.2.1)) (Z':=[.va (.dct (ns.map en) (dV ns b)),.va (eB x),.va (eW (d,w)),.va (oW (b x.2.1))]) g rfl)];refine bP ?_
 unfold dN
 cases q:b x.2.1 with
 | none=>exact FZ (aC (t:=.non) (u:=.non) rfl rfl rfl)
 | some y=>exact(F0 (aC (t:=eW y) (u:=.non) rfl rfl rfl)).trans (aC (t:=.int (d+x.2.2)) (u:=.int y.1) rfl rfl rfl)
abbrev Bq:En->Rs Fl:=(ay (cz (ln 2 (oD gR (vr 2) (o2 aO (vr 5) (cn (.int 0))))) (gN 6)) (ay (eG (ki (tb (o2 kG (vr 6) (cn .non))) (cp (FL 2 (tb (cl cU (ae (vr 2) (ae (vr 5) (ae (vr 6) ai)))))))) DI sN) (ay (cz (o2 bD (o2 aO (vr 6) (cn (.int 1))) (gE (ae (vr 4) ai))) (gN 7)) (ay (cz (eO (iS (vr 7)) [none,some 0] (gN 0) bT (o2 aO (o2 aO (vr 1) (vr 0)) (cn (.int 0)))) (gN 8)) (ay (eG (tb (o2 GS (o2 aO (vr 5) (cn (.int 1))) (vr 8))) (aG (a9 (ae (cn .non) (ae (sl (vr 7) (pS (oL fN (vr 8) (o2 aO (vr 5) (cn (.int 1))))) pN) ai)))) sN) (ay (xv 2 (o2 aO (vr 5) (cn (.int 1))) (a9 (ae (o2 bD (o2 aO (vr 6) (cn (.int 0))) (o2 aO (vr 5) (cn (.int 2)))) (ae (vr 7) ai)))) (cz (cn (.bl true)) (gN 3))))))))
abbrev IX:T->En->Rs En:=gT 2 (u7 (gN 4) (u7 (gN 5) C9))
def eL (L:aZ N2):T:=.lst (L.map eB)
def y0 (L:aZ N2)(t:T):T:=match t with
 | .int j=>match L[j.toNat]? with
  | some x=>en x.1
  | none=> .non
 | _=> .non
theorem vV {L:aZ N2}:∀{ks:List Nat} {a b:N2},Ch L a ks b->(eN ks).map (y0 L)=(dy L ks).map en
 | [],_,_,_=>rfl
 | k::r,a,b,h=>by
  rw[h.Jn];obtain⟨c,m,e,h⟩:=h
  show y0 L (.int k)::(eN r).map (y0 L)=en a::(dy L r).map en
  rw[vV h]
  congr 1
  unfold y0;simp only[K0,e]
theorem Be (v:N2):∀(l:List N2),pM (en v) (l.map en)=decide (v∈l)
 | [] =>rfl
 | u::l=>by
  have ih:=Be v l;unfold pM at ih ⊢;rw[Ke,MP,ih,nR]
  by_cases h:u=v
  ·subst h;simp
  ·have h':¬ v=u:=λz=>h z.symm
   simp[h,h']
theorem tM (v:N2):∀(l:List N2) (n:Nat),v∈l->i7 (en v) (l.map en) n=some (n+l.idxOf v)
 | [],n,h=>by simp at h
 | u::l,n,h=>by
  rw[Ke,i7,nR,SW]
  by_cases z:u=v
  ·subst z;simp
  ·have h':v∈l:=(Ko.mp h).elim (λy=>absurd y.symm z) id
   have zb:(u == v)=false:=by rw[beq_eq_false_iff_ne];exact z
   rw[zb,decide_eq_false z,if_neg KL,tM v l (n+1) h'];simp only[cond_false]
   congr 1
   omega
theorem DT (v:N2):(en v).nd=true:=rfl
theorem qT {α:Type}(f:α->T)(h:∀a,(f a).nd=true):∀l:List α,nds (l.map f)=true
 | [] =>rfl
 | a::l=>by rw[Ke,nds,h a,qT f h l];rfl
theorem ro (v:N2):(en v).dep<=60:=by show(T.tup [.int v.c,.int v.k]).dep<=60;simp[T.dep,deps]
theorem Im (v:N2)(l:List N2):GS (en v) (.lst (l.map en))= .ok (.bl (decide (v∈l))):=by
 show(if (_\/_)/\_/\(T.lst (l.map en)).nd=true then _ else _)=_
 rw[if_pos ⟨.inl (ro v),rfl,qT en DT l⟩,Be]
theorem AA (v:N2)(l:List N2)(h:v∈l):fN (.lst (l.map en)) (en v)= .ok (.int ((l.idxOf v:Nat):Int)):=by
 unfold fN;simp only;rw[if_pos ⟨.inl (ro v),rfl,qT en DT l⟩,tM v l 0 h,NB]
theorem Gm (p q:List Nat):eN (p++q)=eN p++eN q:=by unfold eN;rw[LM]
theorem zU (D:Bool):∀ks:List Nat,nks D (eN ks)=true
 | [] =>rfl
 | k::r=>by show nks D (.int k::eN r)=true;unfold nks;rw[zU D r];rfl
theorem Ch.len {L:aZ N2}{ks:List Nat}{a b:N2}(h:Ch L a ks b)(hn:(dy L ks).Nodup):ks.length<=L.length:=by
 have:=iU (h.nodup hn) (m:=J7 L.length) λk hk=>Kq.mpr (h.lt k hk)
 rwa [Ld]at this
abbrev sE (L:aZ N2)(st:T)(o:OT)(b:Bool)(k:Nat)(x:N2×N2×Int)(s6 s7 s8:Sl):En:=[.va (eL L),.va st,.ow o,.va (.bl b),.va (.int k),.va (eB x),s6,s7,s8]
def D8 (L:aZ N2)(P ns:List N2)(b:bU N2)(k:Nat)(x:N2×N2×Int)(st:T)(mv:Bool)(s6 s7 s8:Sl):Sum (Option (bU N2)) (List Nat)->Prop
 | .inl none=> ∃s6' s7' s8',Bq (sE L st (.dct (ns.map en) (dV ns b)) mv k x s6 s7 s8)= .ok (.ct (sE L st (.dct (ns.map en) (dV ns b)) mv k x s6' s7' s8'))
 | .inl (some b')=> ∃ns' s6' s7' s8',DR P ns' b'/\Bq (sE L st (.dct (ns.map en) (dV ns b)) mv k x s6 s7 s8)= .ok (.nx (sE L st (.dct (ns'.map en) (dV ns' b')) true k x s6' s7' s8'))
 | .inr q=>Bq (sE L st (.dct (ns.map en) (dV ns b)) mv k x s6 s7 s8)= .ok (.rt (.tup [.non,.lst (eN q)]))
theorem B0 {L:aZ N2}{S P ns:List N2}{b:bU N2}{k:Nat}{x:N2×N2×Int}(K:Kept L S b)(D:DR P ns b)(hL:L.length<=500)(hP:P.length<1000)(e:L[k]? =some x)(hx:x.2.1∈P)(st:T)(mv:Bool)(s6 s7 s8:Sl) :
  D8 L P ns b k x st mv s6 s7 s8 (gf L b k x):=by
 obtain⟨a,c,m⟩:=x;unfold D8
 generalize hks:ns.map en=ks
 generalize hvs:dV ns b=vs
 have get:∀s7 s8,ln 2 (oD gR (vr 2) (o2 aO (vr 5) (cn (.int 0)))) (sE L st (.dct ks vs) mv k (a,c,m) s6 s7 s8)= .ok (oW (b a)):=λs7 s8=>by
  refine Ig (o:=.dct ks vs) rfl (Ic (ks:=ks) (vs:=vs) (u:=en a) rfl rfl ?_) ?_
  ·unfold gR
   rw[cG,<-hks,<-hvs];simp only[D.get];cases b a <;> rfl
  ·cases b a with
   | none=>rfl
   | some y=>show nks true [.int y.1,.lst (eN y.2)] =true;simp[nks,T.nk,zU]
 have s1:∀G,ay (cz (ln 2 (oD gR (vr 2) (o2 aO (vr 5) (cn (.int 0))))) (gN 6)) G (sE L st (.dct ks vs) mv k (a,c,m) s6 s7 s8)=G (sE L st (.dct ks vs) mv k (a,c,m) (.va (oW (b a))) s7 s8):=λG=>
  aA (bS (t:=oW (b a)) (get s7 s8) rfl)
 cases qa:b a with
 | none=>
  rw[show gf L b k (a,c,m)= .inl none from by unfold gf;simp only[qa]]
  simp only;refine⟨.va .non,s7,s8,?_⟩
  unfold Bq;rw[s1,qa]
  exact Ao (gP (F:=DI) (Ib (bO (aC (t:=.non) (u:=.non) rfl rfl rfl))))
 | some y=>
  obtain⟨d,w⟩:=y
  have bt:∀s7 s8,FL 2 (tb (cl cU (ae (vr 2) (ae (vr 5) (ae (vr 6) ai))))) (sE L st (.dct ks vs) mv k (a,c,m) (.va (eW (d,w))) s7 s8)= .ok (dN b c (d+m)):=λs7 s8=>by
   refine Ie (bO (aM (ts:=[.dct ks vs,eB (a,c,m),eW (d,w)]) rfl ?_))
   rw[<-hks,<-hvs];exact A2 D (a,c,m) d w
  have nn:tb (o2 kG (vr 6) (cn .non)) (sE L st (.dct ks vs) mv k (a,c,m) (.va (eW (d,w))) s7 s8)= .ok false:=bO (aC (t:=eW (d,w)) (u:=.non) rfl rfl rfl)
  have cond:=nq nn (gp (bt s7 s8))
  have s1':∀G,ay (cz (ln 2 (oD gR (vr 2) (o2 aO (vr 5) (cn (.int 0))))) (gN 6)) G (sE L st (.dct ks vs) mv k (a,c,m) s6 s7 s8)=G (sE L st (.dct ks vs) mv k (a,c,m) (.va (eW (d,w))) s7 s8):=λG=>by rw[s1 G,qa];rfl
  cases hb:dN b c (d+m)with
  | false=>
   rw[show gf L b k (a,c,m)= .inl none from by unfold gf;simp only[qa,hb];rfl]
   simp only;rw[hb]at cond;refine⟨.va (eW (d,w)),s7,s8,?_⟩
   unfold Bq;rw[s1']
   exact Ao (gP (F:=DI) cond)
  | true=>
   rw[hb]at cond;obtain⟨s,hs,h1,h2,h3,h4,h5⟩:=K.walk a d w qa
   have hch:Ch L s (w++ [k]) c:=h1.snoc e
   have hwl:w.length<=500:=KD (Ch.len h1 h4) hL
   have s2:∀G,ay (eG (ki (tb (o2 kG (vr 6) (cn .non))) (cp (FL 2 (tb (cl cU (ae (vr 2) (ae (vr 5) (ae (vr 6) ai)))))))) DI sN) G (sE L st (.dct ks vs) mv k (a,c,m) (.va (eW (d,w))) s7 s8)=G (sE L st (.dct ks vs) mv k (a,c,m) (.va (eW (d,w))) s7 s8):=λG=>
    aA (Z':=(sE L st (.dct ks vs) mv k (a,c,m) (.va (eW (d,w))) s7 s8)) ((df (F:=DI) (G:=sN) cond).trans rfl)
   have wk:o2 bD (o2 aO (vr 6) (cn (.int 1))) (gE (ae (vr 4) ai)) (sE L st (.dct ks vs) mv k (a,c,m) (.va (eW (d,w))) s7 s8)= .ok (.lst (eN (w++ [k]))):=by
    refine aC (t:=.lst (eN w)) (u:=.lst (eN [k])) rfl (wq (ts:=[.int k]) rfl (aE (k:=1) (by simp))) ?_
    show k7 (eN w++eN [k])=_
    rw[<-Gm];unfold k7;rw[if_pos (aE (k:=1000) (by unfold eN;rw[Kh,Kw];simp;omega))]
   have s3:∀G,ay (cz (o2 bD (o2 aO (vr 6) (cn (.int 1))) (gE (ae (vr 4) ai))) (gN 7)) G (sE L st (.dct ks vs) mv k (a,c,m) (.va (eW (d,w))) s7 s8)=G (sE L st (.dct ks vs) mv k (a,c,m) (.va (eW (d,w))) (.va (.lst (eN (w++ [k])))) s8):=λG=>aA (bS wk rfl)
   have ps:eO (iS (vr 7)) [none,some 0] (gN 0) bT (o2 aO (o2 aO (vr 1) (vr 0)) (cn (.int 0))) (sE L st (.dct ks vs) mv k (a,c,m) (.va (eW (d,w))) (.va (.lst (eN (w++ [k])))) s8)= .ok (.lst ((dy L (w++ [k])).map en)):=by
    rw[<-vV hch];refine ly (ts:=eN (w++ [k])) (gq rfl) (aE (k:=1000) (by unfold eN;rw[Kh,Kw];simp;omega)) (by simp) λt ht=> ?_
    unfold eN at ht;obtain⟨j,hj,rfl⟩:=Ku.mp ht
    have hjl:=hch.lt j hj;refine aC (t:=eB L[j]) (u:=.int 0) (As (l:=L.map eB) (n:=j) rfl rfl (by rw[Kv,Kf hjl];rfl)) rfl ?_
    unfold y0;simp only[K0,Kf hjl]
    rfl
   have s4:∀G,ay (cz (eO (iS (vr 7)) [none,some 0] (gN 0) bT (o2 aO (o2 aO (vr 1) (vr 0)) (cn (.int 0)))) (gN 8)) G (sE L st (.dct ks vs) mv k (a,c,m) (.va (eW (d,w))) (.va (.lst (eN (w++ [k])))) s8)=G (sE L st (.dct ks vs) mv k (a,c,m) (.va (eW (d,w))) (.va (.lst (eN (w++ [k])))) (.va (.lst ((dy L (w++ [k])).map en)))):=λG=>aA (bS ps rfl)
   have inn:tb (o2 GS (o2 aO (vr 5) (cn (.int 1))) (vr 8)) (sE L st (.dct ks vs) mv k (a,c,m) (.va (eW (d,w))) (.va (.lst (eN (w++ [k])))) (.va (.lst ((dy L (w++ [k])).map en))))= .ok (decide (c∈dy L (w++ [k]))):=
    bO (aC (t:=en c) (u:=.lst ((dy L (w++ [k])).map en)) rfl rfl (Im c _))
   by_cases hn:c∈dy L (w++ [k])
   ·rw[show gf L b k (a,c,m)= .inr ((w++ [k]).drop ((dy L (w++ [k])).idxOf c))from by unfold gf;simp only[qa,hb,if_pos hn,if_true]]
    simp only;unfold Bq;rw[s1',s2,s3,s4];rw[decide_eq_true hn]at inn;refine gA ((gP inn).trans (bP ?_))
    have sle:sl (vr 7) (pS (oL fN (vr 8) (o2 aO (vr 5) (cn (.int 1))))) pN (sE L st (.dct ks vs) mv k (a,c,m) (.va (eW (d,w))) (.va (.lst (eN (w++ [k])))) (.va (.lst ((dy L (w++ [k])).map en))))= .ok (.lst (eN ((w++ [k]).drop ((dy L (w++ [k])).idxOf c)))):=by
     rw[DW (l:=eN (w++ [k])) (lo:=some (((dy L (w++ [k])).idxOf c:Nat):Int)) (hi:=none) rfl (C4 (k_oL (ks:=(dy L (w++ [k])).map en) (u:=en c) rfl rfl (AA c _ hn))) rfl,tY];unfold eN;rw[List.map_drop]
    exact(cZ (ts:=[.non,.lst (eN ((w++ [k]).drop ((dy L (w++ [k])).idxOf c)))]) (au rfl (au sle rfl)) (aE (k:=2) (by simp)))
   ·rw[show gf L b k (a,c,m)= .inl (some (Gr.put b c (d+m,w++ [k])))from by unfold gf;simp only[qa,hb,if_neg hn,if_true]]
    simp only;rw[decide_eq_false hn]at inn;obtain⟨ns',D',hd⟩:=D.put hx (d+m,w++ [k]);refine⟨ns',.va (eW (d,w)),.va (.lst (eN (w++ [k]))),.va (.lst ((dy L (w++ [k])).map en)),D',?_⟩
    unfold Bq;rw[s1',s2,s3,s4];rw[aA (Z':=(sE L st (.dct ks vs) mv k (a,c,m) (.va (eW (d,w))) (.va (.lst (eN (w++ [k])))) (.va (.lst ((dy L (w++ [k])).map en))))) ((df (G:=sN) inn).trans rfl)]
    have pt:xv 2 (o2 aO (vr 5) (cn (.int 1))) (a9 (ae (o2 bD (o2 aO (vr 6) (cn (.int 0))) (o2 aO (vr 5) (cn (.int 2)))) (ae (vr 7) ai))) (sE L st (.dct ks vs) mv k (a,c,m) (.va (eW (d,w))) (.va (.lst (eN (w++ [k])))) (.va (.lst ((dy L (w++ [k])).map en))))
      = .ok (.nx (sE L st (.dct (ns'.map en) (dV ns' (Gr.put b c (d+m,w++ [k])))) mv k (a,c,m) (.va (eW (d,w))) (.va (.lst (eN (w++ [k])))) (.va (.lst ((dy L (w++ [k])).map en))))):=by
     have ev:a9 (ae (o2 bD (o2 aO (vr 6) (cn (.int 0))) (o2 aO (vr 5) (cn (.int 2)))) (ae (vr 7) ai)) (sE L st (.dct ks vs) mv k (a,c,m) (.va (eW (d,w))) (.va (.lst (eN (w++ [k])))) (.va (.lst ((dy L (w++ [k])).map en))))= .ok (eW (d+m,w++ [k])):=
      cZ (ts:=[.int (d+m),.lst (eN (w++ [k]))]) rfl (aE (k:=2) (by simp))
     have ek:o2 aO (vr 5) (cn (.int 1)) (sE L st (.dct ks vs) mv k (a,c,m) (.va (eW (d,w))) (.va (.lst (eN (w++ [k])))) (.va (.lst ((dy L (w++ [k])).map en))))= .ok (en c):=rfl
     show(a9 _ _ >>= λv=>o2 aO (vr 5) (cn (.int 1)) _ >>= λkk=>match keyOf kk with | some _=>if ks.length<1000 then Rs.ok (Fl.nx _)else .bad | none=> .bad)=_
     rw[ev,aF,ek,aF,cG]
     have hlen:ks.length<1000:=by rw[<-hks,Kh];exact MZ (iU D.nd D.sub) hP
     simp only[if_pos hlen]
     have hd1:gC (en c) (eW (d+m,w++ [k])) ks vs=(ns'.map en,dV ns' (Gr.put b c (d+m,w++ [k]))):=by rw[<-hks,<-hvs];exact hd
     rw[hd1]
     rfl
    rw[aA pt];exact bS (t:=.bl true) rfl rfl
def yA (L:aZ N2)(st:T)(ns:List N2)(b:bU N2)(mv:Bool)(s4 s5 s6 s7 s8:Sl):En:=[.va (eL L),.va st,.ow (.dct (ns.map en) (dV ns b)),.va (.bl mv),s4,s5,s6,s7,s8]
def Bh (L:aZ N2)(P:List N2)(st:T)(X:Rs Fl):Sum (bU N2×Bool) (List Nat)->Prop
 | .inr q=>X= .ok (.rt (.tup [.non,.lst (eN q)]))
 | .inl (b',mv')=> ∃ns' s4 s5 s6 s7 s8,DR P ns' b'/\X= .ok (.nx (yA L st ns' b' mv' s4 s5 s6 s7 s8))
theorem qb {L:aZ N2}{S P:List N2}(hL:L.length<=500)(hP:P.length<1000)(hx:∀x∈L,x.2.1∈P)(st:T):∀(r:aZ N2) (k:Nat) (b:bU N2) (mv:Bool) (ns:List N2) (s4 s5 s6 s7 s8:Sl),L.drop k=r->Kept L S b->DR P ns b →
  Bh L P st (bh IX Bq (dh k (r.map eB)) (yA L st ns b mv s4 s5 s6 s7 s8)) (gL L k r b mv)
 | [],k,b,mv,ns,s4,s5,s6,s7,s8,_,K,D=>⟨ns,s4,s5,s6,s7,s8,D,rfl⟩
 | x::r,k,b,mv,ns,s4,s5,s6,s7,s8,hr,K,D=>by
  have e:L[k]? =some x:=by
   have:=congrArg (·[0]?) hr
   simpa using this
  have hr':L.drop (k+1)=r:=by
   have:=congrArg (List.drop 1) hr
   simpa [List.drop_drop,Qh]using this
  have tg:IX (.tup [.int k,eB x]) (yA L st ns b mv s4 s5 s6 s7 s8)= .ok [.va (eL L),.va st,.ow (.dct (ns.map en) (dV ns b)),.va (.bl mv),.va (.int k),.va (eB x),s6,s7,s8]:=rfl
  have tn:=B0 K D hL hP e (hx x (LA e)) st mv s6 s7 s8;rw[gL,Ke,dh]
  cases q:gf L b k x with
  | inr w=>
   rw[q]at tn;simp only;unfold Bh
   exact q0 tg tn
  | inl o=>
   rw[q]at tn
   cases o with
   | none=>
    obtain⟨s6',s7',s8',tn⟩:=tn;simp only;rw[C5 tg tn]
    exact qb hL hP hx st r (k+1) b mv ns _ _ _ _ _ hr' K D
   | some b'=>
    obtain⟨ns',s6',s7',s8',D',tn⟩:=tn;simp only;rw[fB tg tn];refine qb (S:=S) hL hP hx st r (k+1) b' true ns' _ _ _ _ _ hr' ?_ D'
    -- what is kept stays so
    obtain⟨a,c,m⟩:=x;unfold gf at q
    cases qa:b a with
    | none=>simp only[qa]at q;cases q
    | some y=>
     obtain⟨d,w⟩:=y;simp only[qa]at q
     split at q
     ·rename_i hb
      split at q
      ·cases q
      ·rename_i hn
       cases q;exact K.put e qa hb hn
     ·cases q
abbrev wF:En->Rs Fl:=ay (cz (cn (.bl false)) (gN 3)) (i8 (iE (ae (vr 0) ai)) IX Bq)
def SetP (L:aZ N2)(P:List N2)(st:T)(X:Rs Fl):Sum (bU N2) (List Nat)->Prop
 | .inr q=>X= .ok (.rt (.tup [.non,.lst (eN q)]))
 | .inl b'=> ∃ns' s4 s5 s6 s7 s8,DR P ns' b'/\X= .ok (.nx (yA L st ns' b' false s4 s5 s6 s7 s8))
theorem r8 {L:aZ N2}{S P:List N2}(hL:L.length<=500)(hP:P.length<1000)(hx:∀x∈L,x.2.1∈P)(st:T):∀(n:Nat) (b:bU N2) (ns:List N2) (s4 s5 s6 s7 s8:Sl) (r:Sum (bU N2) (List Nat)),Kept L S b->DR P ns b->Gr.settle L n b=some r →
  SetP L P st (aU (tb (vr 3)) wF (n+1) (yA L st ns b true s4 s5 s6 s7 s8)) r
 | 0,_,_,_,_,_,_,_,_,_,_,h=>by cases h
 | n+1,b,ns,s4,s5,s6,s7,s8,r,K,D,h=>by
  have sw:=qb hL hP hx st L 0 b false ns s4 s5 s6 s7 s8 rfl K D
  have ok:=gX (S:=S) L 0 b false rfl K
  have body:∀X,bh IX Bq (dh 0 (L.map eB)) (yA L st ns b false s4 s5 s6 s7 s8)= .ok X->wF (yA L st ns b true s4 s5 s6 s7 s8)= .ok X:=λX hX=>by
   show ay _ _ _=_
   rw[aA (Z':=yA L st ns b false s4 s5 s6 s7 s8) (bS (t:=.bl false) rfl rfl)];exact jl (ts:=dh 0 (L.map eB)) (Ii rfl) hX
  have tt:tb (vr 3) (yA L st ns b true s4 s5 s6 s7 s8)= .ok true:=rfl;rw[Gr.settle]at h
  revert sw ok h
  generalize gL L 0 L b false=R
  intro h sw ok
  cases R with
  | inr q=>
   simp only at h;cases h
   exact Am tt (body _ sw)
  | inl p=>
   obtain⟨b',mv'⟩:=p;obtain⟨ns',t4,t5,t6,t7,t8,D',sw⟩:=sw;obtain⟨K',_⟩:=ok
   cases mv' with
   | true=>
    simp only at h
    have ih:=r8 hL hP hx st n b' ns' t4 t5 t6 t7 t8 r K' D' h;rw[ip tt (body _ sw)]
    exact ih
   | false=>
    simp only at h;cases h;refine⟨ns',t4,t5,t6,t7,t8,D',?_⟩
    rw[ip tt (body _ sw)];exact gn rfl
theorem gv {c:En->Rs Bool}{F:En->Rs Fl}{x:Fl}:∀{n m:Nat} {Z:En},n<=m->aU c F n Z= .ok x->aU c F m Z= .ok x
 | 0,_,_,_,h=>by cases h
 | n+1,0,_,hl,_=>absurd hl (by omega)
 | n+1,m+1,Z,hl,h=>by
  unfold aU at h ⊢
  cases q:c Z with
  | bad=>rw[q]at h;cases h
  | err _=>rw[q]at h;cases h
  | ok k=>
   rw[q]at h
   cases k with
   | false=>exact h
   | true=>
    simp only at h ⊢
    cases q2:F Z with
    | bad=>rw[q2]at h;cases h
    | err _=>rw[q2]at h;cases h
    | ok f=>
     rw[q2]at h
     cases f with
     | nx Z'=>exact gv (by omega) h
     | ct Z'=>exact gv (by omega) h
     | bk Z'=>exact h
     | rt t=>exact h
theorem zx (w:T):∀S:List N2,GP (S.map λv=> .tup [en v,w])=some (S.map λv=>(en v,w))
 | [] =>rfl
 | v::S=>by rw[Ke,GP,cG,zx w S];rfl
theorem tT (w:T):∀(S ns:List N2) (g:N2->T),(ns++S).Nodup->(∀v∈S,g v=w)->iw (S.map λv=>(en v,w)) (ns.map en,ns.map g)=((ns++S).map en,(ns++S).map g)
 | [],ns,g,_,_=>by rw[LJ];rfl
 | v::S,ns,g,hn,hg=>by
  have hv:v∉ns:=λz=>by
   rw[MG]at hn;exact hn.2.2 v z v Kg rfl
  rw[Ke,iw,nJ _ _ _ _ hv]
  have e1:ns.map en++ [en v] =(ns++ [v]).map en:=by rw[LM];rfl
  have e2:ns.map g++ [w] =(ns++ [v]).map g:=by rw[LM,<-hg v Kg];rfl
  rw[e1,e2,tT w S (ns++ [v]) g (by rw[Lx];exact hn) λu hu=>hg u (Ka _ hu),Lx]
  rfl
theorem Dp (w:T)(S:List N2)(hn:S.Nodup)(hl:S.length<=1000):wL [.lst (S.map λv=> .tup [en v,w])] = .ok (.dct (S.map en) (S.map λ_=>w)):=by
 unfold wL;simp only[zx];rw[if_pos (by rw[Kh];exact hl)]
 have:=tT w S [] (λ_=>w) (by simpa using hn) (λ_ _=>rfl)
 rw[M5]at this;rw[show(([]:List T),([]:List T))=(([]:List N2).map en,([]:List N2).map λ_=>w)from rfl,this]
def eS (S:List N2):T:=.lst (S.map en)
def Dy (L:aZ N2)(P:List N2)(X:Rs T):Sum (bU N2) (List Nat)->Prop
 | .inr q=>X= .ok (.tup [.non,.lst (eN q)])
 | .inl b'=> ∃ns',DR P ns' b'/\X= .ok (.tup [.dct (ns'.map en) (dV ns' b'),.non])
structure yw (L:aZ N2)(P:List N2):Prop where
 len:L.length<=500
 size:size L<=100000000
 ends:∀x∈L,x.1∈P/\x.2.1∈P
 pl:P.length<1000
def SOk (L:aZ N2)(S:List N2):Sum (bU N2) (List Nat)->Prop
 | .inr q=>Bar L q
 | .inl b'=>Settled L S b'
theorem nE {L:aZ N2}{S P:List N2}(F:yw L P)(hS:S.Nodup)(hSP:∀v∈S,v∈P):∃r,Dy L P (bL [eL L,eS S]) r/\SOk L S r:=by
 have bound:L.length*(2*size L+1)<1000000000000 - 1:=by
  have h1:=F.len
  have h2:=F.size
  have:L.length*(2*size L+1)<=500*(2*100000000+1):=O9 h1 (by omega)
  omega
 obtain⟨r,hr,ok⟩:=uB L S bound
 have ok':SOk L S r:=by cases r <;> exact ok
 refine⟨r,?_,ok'⟩
 have hSl:S.length<=1000:=KD (iU hS hSP) (by have:=F.pl;omega)
 have D0:DR P S (Gr.start S):=⟨hS,λv=>by unfold Gr.start;by_cases h:v∈S <;> simp[h],hSP⟩
 have dv0:dV S (Gr.start S)=S.map λ_=>eW (0,[]):=KA λv hv=>by unfold Gr.start;rw[if_pos hv];rfl
 have w:=r8 F.len F.pl (λx hx=>(F.ends x hx).2) (eS S) _ (Gr.start S) S .em .em .em .em .em r (nj L S) D0 hr
 have lc:eO (iS (vr 1)) [none] (gN 0) bT (a9 (ae (vr 0) (ae (a9 (ae (cn (.int 0)) (ae (gE ai) ai))) ai))) [.va (eL L),.va (eS S),.em,.em,.em,.em,.em,.em,.em] = .ok (.lst (S.map λv=> .tup [en v,eW (0,[])])):=by
  have:=ly (fi:=iS (vr 1)) (src:=[none]) (fe:=a9 (ae (vr 0) (ae (a9 (ae (cn (.int 0)) (ae (gE ai) ai))) ai))) (h:=λt=> .tup [t,eW (0,[])]) (Z:=[.va (eL L),.va (eS S),.em,.em,.em,.em,.em,.em,.em]) (ts:=S.map en) (gq rfl) (aE (k:=1000) (by rw[Kh];exact hSl)) (by simp) λt _=>
   cZ (ts:=[t,eW (0,[])]) (au rfl (au (cZ (ts:=[.int 0,.lst []]) (au rfl (au (wq (ts:=[]) rfl (K3 _)) rfl)) (aE (k:=2) (by simp))) rfl)) (aE (k:=2) (by simp))
  rw[this,KB];rfl
 have n0:oJ 2 (eO (iS (vr 1)) [none] (gN 0) bT (a9 (ae (vr 0) (ae (a9 (ae (cn (.int 0)) (ae (gE ai) ai))) ai)))) [.va (eL L),.va (eS S),.em,.em,.em,.em,.em,.em,.em] = .ok (.nx [.va (eL L),.va (eS S),.ow (.dct (S.map en) (dV S (Gr.start S))),.em,.em,.em,.em,.em,.em]):=by
  unfold oJ;rw[lc,aF,Dp _ S hS hSl,aF,dv0]
  rfl
 have main:∀G X,aU (tb (vr 3)) wF FU (yA L (eS S) S (Gr.start S) true .em .em .em .em .em)= .ok X->iC [.va (eL L),.va (eS S),.em,.em,.em,.em,.em,.em,.em] =G->(ay (aU (tb (vr 3)) wF FU) (qk 2 (aG (a9 (ae (vr 2) (ae (cn .non) ai)))))) (yA L (eS S) S (Gr.start S) true .em .em .em .em .em)=G:=λG X _ h=>by
  rw[<-h];unfold iC;rw[aA n0,aA (Z':=yA L (eS S) S (Gr.start S) true .em .em .em .em .em) (bS (t:=.bl true) rfl rfl)]
 cases r with
 | inr q=>
  have w':=gv (m:=FU) (by unfold FU;omega) w
  refine bo rfl ?_
  show iC [.va (eL L),.va (eS S),.em,.em,.em,.em,.em,.em,.em] =_
  rw[<-main _ _ w' rfl]
  exact gA w'
 | inl b'=>
  obtain⟨ns',s4,s5,s6,s7,s8,D',w⟩:=w
  have w':=gv (m:=FU) (by unfold FU;omega) w
  refine⟨ns',D',bo rfl ?_⟩
  show iC [.va (eL L),.va (eS S),.em,.em,.em,.em,.em,.em,.em] =_
  rw[<-main _ _ w' rfl,aA w'];exact Ik (bP (cZ (ts:=[.dct (ns'.map en) (dV ns' b'),.non]) rfl (aE (k:=2) (by simp))))
theorem j9 {α:Type}{f:α->T}{p:α->Prop}:∀{l:List T},(∀t∈l,∃x,t=f x/\p x)->∃L:List α,l=L.map f/\∀x∈L,p x
 | [],_=>⟨[],rfl,λ_ h=>nomatch h⟩
 | t::l,h=>by
  obtain⟨x,e,hx⟩:=h t Kg;obtain⟨L,e2,h2⟩:=j9 (l:=l) λu hu=>h u (Ka _ hu)
  exact⟨x::L,by rw[e,e2];rfl,λy hy=>(Ko.mp hy).elim (λz=>z▸hx) (h2 y)⟩
theorem nM {t:T}(h:br t=true):∃(x y:Int) (r:List Int),t= .tup [.int x,.int y,.tup (r.map .int)]/\(0<=x/\x<=9)/\(0<=y/\y<=9)/\∀k,0<=r.getD k 0/\r.getD k 0<=99:=by
 obtain⟨x,y,r,rfl,h1,h2,h3,h4⟩:=jB h;refine⟨x,y,r,rfl,h1,h2,λk=> ?_⟩
 have h':(mw (.int x) (.int y)&&cA (.tup (r.map .int)))=true:=h;rw[J9]at h'
 have hr:=h'.2;unfold cA at hr;rw[J9]at hr
 have hr2:(((r.map T.int).all λu=>aP u 0 99)&&(match nums (r.map .int)with | some m=>sk m | none=>false))=true:=hr.2
 rw[J9]at hr2
 by_cases hk:k<r.length
 ·have:=Ks.mp hr2.1 (.int r[k]) (Ku.mpr ⟨_,Mq hk,rfl⟩)
  obtain⟨i,e,a,b⟩:=cy this;cases e;simp[hk];exact⟨a,b⟩
 ·simp[hk]
theorem vY {cs:List T}{i:Nat}:∀{cs0:List T} {c k:Nat},i<=c->c<i+cs0.length->k<ED (cs0.getD (c - i) .non)->T.tup [.int c,.int k] ∈jF i cs0:=by
 intro cs0
 induction cs0 generalizing i with
 | nil=>intro c k h1 h2;simp at h2;omega
 | cons a r ih=>
  intro c k h1 h2 h3;rw[jF,Ls]
  by_cases e:c=i
  ·subst e
   rw[Qm]at h3
   have h3':k<ED a:=h3;exact .inl (Ku.mpr ⟨.int k,CW h3',rfl⟩)
  ·refine .inr (ih (by omega) (by rw[Kj]at h2;omega) ?_)
   rw[show c - i=(c - (i+1))+1 by omega]at h3
   exact h3
theorem pB {cs:List T}{t:T}(h:aY cs t=true):t∈jF 0 cs:=by
 obtain⟨c,k,rfl⟩:=k9 h;unfold aY at h;simp only[J9,decide_eq_true_eq]at h;obtain⟨⟨h1,h2⟩,h3,h4⟩:=h;obtain⟨c,rfl⟩:=LO h1;obtain⟨k,rfl⟩:=LO h3;rw[oM]at h4;exact vY (cs:=cs) (K3 _) (by omega) (by rw[OW];omega)
theorem AO {cs:List T}{t:T}(h:t∈jF 0 cs):∃v:N2,t=en v/\True:=by
 obtain⟨c,k,rfl,_⟩:=lJ cs 0 h;exact⟨⟨c,k⟩,rfl,trivial⟩
def big (x:N2×N2×Int):Prop:=x.2.2.natAbs<=999
theorem oX {a b:Int}(ha : -99<=a/\a<=99)(hb:0<=b/\b<=9):(a*b).natAbs<=999:=by
 rw[Int.natAbs_mul]
 have h1:a.natAbs<=99:=by omega
 have h2:b.natAbs<=9:=by omega
 exact KD (O9 h1 h2) (by decide)
theorem D7 {cs0:List T}:∀{cs:List T} {i:Nat},(∀c∈cs,br c=true)->(∀c k:Nat,i<=c->c<i+cs.length->k<ED (cs.getD (c - i) .non)->T.tup [.int c,.int k] ∈jF 0 cs0) →
  ∀t∈bC i cs,∃x,t=eB x/\(en x.1∈jF 0 cs0/\en x.2.1∈jF 0 cs0/\big x)
 | [],_,_,_,t,h=>by simp[bC]at h
 | c::cs,i,hc,hm,t,h=>by
  rw[bC,Ls]at h;rcases h with h | h
  ·obtain⟨x,y,r,rfl,hx,hy,hr⟩:=nM (hc c Kg)
   have hm0:∀k,k<r.length->T.tup [.int i,.int k] ∈jF 0 cs0:=λk hk=>hm i k (Ki _) (by simp) (by rw[Qm];show k<(r.map T.int).length;rw[Kh];exact hk)
   rw[rO]at h;unfold cB at h;obtain⟨k,hk,hp⟩:=Nt.mp h
   have hk:=Kq.mp hk
   have d : -99<=dr r k/\dr r k<=99:=by have:=hr k;have:=hr (k+1);unfold dr;omega
   unfold pr at hp;simp only[Ko,Ll,or_false]at hp;rcases hp with rfl | rfl
   ·exact⟨(⟨i,k⟩,⟨i,((k+1:Nat):Int)⟩,dr r k*y),rfl,hm0 k (by omega),hm0 (k+1) (by omega),oX d hy⟩
   ·exact⟨(⟨i,((k+1:Nat):Int)⟩,⟨i,k⟩,-dr r k*x),rfl,hm0 (k+1) (by omega),hm0 k (by omega),oX (by omega) hx⟩
  ·exact D7 (cs:=cs) (i:=i+1) (λc h=>hc c (Ka _ h)) (λc k h1 h2 h3=>hm c k (by omega) (by rw[Kj];omega) (by rw[show c - i=(c - (i+1))+1 by omega];exact h3)) t h
theorem H0 {cs:List T}{u:T}(hu:bQ cs u=true):∀t∈lB u,∃x,t=eB x/\(en x.1∈jF 0 cs/\en x.2.1∈jF 0 cs/\big x):=by
 intro t ht;obtain⟨a,b,x,y,rfl,hd,ha,hb,_⟩:=ke hu
 have ma:=pB ha
 have mb:=pB hb;obtain⟨va,rfl,_⟩:=AO ma;obtain⟨vb,rfl,_⟩:=AO mb;unfold eX at hd;rw[J9]at hd;obtain⟨i,rfl,i1,i2⟩:=cy hd.1
 have e2:lB (.tup [en va,en vb,.int i,y])= .tup [en vb,en va,.int (-i)] ::(if y.isN then []else [.tup [en va,en vb,y]]):=rfl
 rw[e2]at ht;rcases Ko.mp ht with rfl | ht
 ·exact⟨(vb,va,-i),rfl,mb,ma,by unfold big;simp only;omega⟩
 ·cases q:y.isN with
  | true=>rw[q]at ht;simp at ht
  | false=>
   rw[q]at ht
   have ht:t= .tup [en va,en vb,y]:=by simpa using ht
   have hw:aP y i 999=true:=by
    cases y with
    | non=>cases q
    | _=>exact hd.2
   obtain⟨j,rfl,j1,j2⟩:=cy hw;exact⟨(va,vb,j),ht,ma,mb,by unfold big;simp only;omega⟩
structure Rd (cs ls:List T)(L:aZ N2)(P:List N2):Prop where
 g:Good cs ls
 b:yB cs ls=L.map eB
 e:jF 0 cs=P.map en
 f:yw L P
 nd:P.Nodup
 pl:P.length<=16
 ll:L.length<=60
 bg:∀x∈L,big x
theorem vI {L:aZ N2}(h:∀x∈L,big x):size L<=999*L.length:=by
 unfold size
 induction L with
 | nil=>simp
 | cons x L ih=>
  rw[Ke,LH,Kj]
  have:=ih λy hy=>h y (Ka _ hy)
  have:=h x Kg;unfold big at this;omega
theorem zQ {P:List N2}(h:(P.map en).Nodup):P.Nodup:=by
 induction P with
 | nil=>exact N3
 | cons a r ih=>
  rw[Ke,Lk]at h;exact Lk.mpr ⟨λz=>h.1 (Ku.mpr ⟨a,z,rfl⟩),ih h.2⟩
theorem oO {cs ls:List T}(g:Good cs ls):∃L P,Rd cs ls L P:=by
 obtain⟨hc,c1,c4⟩:=fG g.c;obtain⟨P,eP,_⟩:=j9 (f:=en) (p:=λ_=>True) (l:=jF 0 cs) λt ht=>AO ht
 have key:∀t∈yB cs ls,∃x,t=eB x/\(en x.1∈jF 0 cs/\en x.2.1∈jF 0 cs/\big x):=λt ht=>by
  unfold yB at ht;rw[Ls]at ht;rcases ht with h | h
  ·exact D7 hc (λc k h1 h2 h3=>vY (cs:=cs) h1 h2 h3) t h
  ·obtain⟨u,hu,h⟩:=Nt.mp h
   exact H0 (g.l u hu) t h
 obtain⟨L,eL,hL⟩:=j9 key
 have mem:∀v:N2,en v∈jF 0 cs->v∈P:=λv hv=>by
  rw[eP]at hv;obtain⟨u,hu,e⟩:=Ku.mp hv;rw[<-nC e];exact hu
 have hl:=Dt g;rw[eL,Kh]at hl
 have hp:=wG cs 0 hc;rw[eP,Kh]at hp
 have hs:=vI λx hx=>(hL x hx).2.2
 exact⟨L,P,g,eL,eP,⟨by omega,by omega,λx hx=>⟨mem _ (hL x hx).1,mem _ (hL x hx).2.1⟩,by omega⟩,zQ (eP▸oR cs 0),by omega,hl,λx hx=>(hL x hx).2.2⟩
def D1:T->Bool
 | .lst _=>true
 | _=>false
theorem IH (t:T)(h:t.pl=true):Ay "list" t= .ok (.bl (D1 t)):=by
 cases t <;> first | rfl | (simp[T.pl]at h;done)
def mO (n:Nat)(t:T):Bool:=match t with
 | .lst l=>l.all λu=>aP u 0 ((n:Int) - 1)
 | _=>false
theorem uL {l:List T}:(T.lst l).pl=plS l:=by unfold T.pl;rfl
theorem kI (L:aZ N2)(t:T)(h:t.pl=true)(hl:∀l,t= .lst l->l.length<=1000):cI [eL L,t] = .ok (.bl (mO L.length t)):=by
 refine bo rfl ?_
 show fX [.va (eL L),.va t] =_
 unfold fX;refine bP ?_
 cases q:D1 t with
 | false=>
  rw[C6 (F1 (t:=t) rfl (by rw[IH t h,q]))]
  cases t <;> first | rfl | cases q
 | true=>
  cases t with
  | lst l=>
   refine(nr (F1 (t:=.lst l) rfl rfl)).trans ?_
   refine(aM (ts:=[.lst (l.map λu=> .bl (aP u 0 ((L.length:Int) - 1)))]) (au ?_ rfl) (all_map _ _))
   refine ly (ts:=l) (gq rfl) (aE (hl l rfl) (by omega)) (by simp) λu hu=> ?_
   refine aM (ts:=[u,.int 0,.int ((L.length:Int) - 1)]) (au rfl (au rfl (au (aC (t:=.int (L.length:Int)) (u:=.int 1) (aM (ts:=[eL L]) rfl ?_) rfl rfl) rfl))) (dM _ _ _ (iN (uL▸h) hu))
   show Rs.ok (T.int ((L.map eB).length:Nat))=_
   rw[Kh]
  | _=>cases q
theorem CQ {n:Nat}{t:T}(h:mO n t=true):∃ks:List Nat,t= .lst (eN ks)/\∀k∈ks,k<n:=by
 cases t with
 | lst l=>
  have h:(l.all λu=>aP u 0 ((n:Int) - 1))=true:=h
  obtain⟨ks,e,hk⟩:=j9 (f:=λk:Nat=>T.int (k:Nat)) (p:=λk=>k<n) (l:=l) λu hu=>by
   obtain⟨i,rfl,a,b⟩:=cy (Ks.mp h u hu);obtain⟨k,rfl⟩:=LO a;exact⟨k,rfl,by omega⟩
  exact⟨ks,by rw[e];rfl,hk⟩
 | _=>cases h
theorem mK {n:Nat}{ks:List Nat}(h:∀k∈ks,k<n):mO n (.lst (eN ks))=true:=by
 show((eN ks).all λu=>aP u 0 ((n:Int) - 1))=true
 rw[Ks];intro u hu;obtain⟨k,hk,rfl⟩:=Ku.mp hu
 have:=h k hk;unfold aP
 simp;omega
def run (L:aZ N2):N2->List Nat->Option N2
 | a,[] =>some a
 | a,k::r=>match L[k]? with
  | some x=>if x.1=a then run L x.2.1 r else none
  | none=>none
theorem run_ch {L:aZ N2}:∀{ks:List Nat} {a b:N2},run L a ks=some b↔Ch L a ks b
 | [],a,b=>by unfold run Ch;exact⟨λh=>KO h,λh=>by rw[h]⟩
 | k::r,a,b=>by
  unfold run Ch
  cases q:L[k]? with
  | none=>simp
  | some x=>
   obtain⟨u,v,m⟩:=x;simp only
   by_cases h:u=a
   ·subst h
    rw[if_pos rfl,run_ch];exact⟨λz=>⟨v,m,rfl,z⟩,λ⟨c,m',e,z⟩=>by cases e;exact z⟩
   ·rw[if_neg h]
    exact⟨λz=>(by cases z),λ⟨c,m',e,z⟩=>by cases e;exact absurd rfl h⟩
theorem HR (u v:N2):j7 (en u) (en v)= .ok (.bl (!decide (u=v))):=by
 unfold j7;rw[if_pos (dg (ro u) rfl rfl),nR]
theorem IF (u v:N2):jn (en u) (en v)= .ok (.bl (decide (u=v))):=by
 unfold jn;rw[if_pos (dg (ro u) rfl rfl),nR]
theorem wZ {L:aZ N2}{k:Nat}{x:N2×N2×Int}{f g:En->Rs T}{Z:En}(hf:f Z= .ok (eL L))(hg:g Z= .ok (.int (k:Nat)))(e:L[k]? =some x):o2 aO f g Z= .ok (eB x):=
 As (l:=L.map eB) hf hg (by rw[Kv,e];rfl)
abbrev HY:En->Rs Fl:=(ay (eG (tb (o2 j7 (o2 aO (o2 aO (vr 0) (vr 5)) (cn (.int 0))) (vr 4))) (aG (cn (.bl false))) sN) (cz (o2 aO (o2 aO (vr 0) (vr 5)) (cn (.int 1))) (gN 4)))
abbrev Bu (L:aZ N2)(s1 s2 s3:Sl)(a:N2)(s5:Sl):En:=[.va (eL L),s1,s2,s3,.va (en a),s5]
theorem wc (L:aZ N2)(s1 s2 s3:Sl):∀(ks:List Nat) (a:N2) (s5:Sl),(∀k∈ks,k<L.length)->match run L a ks with
  | some c=> ∃s5',bh (gN 5) HY (eN ks) (Bu L s1 s2 s3 a s5)= .ok (.nx (Bu L s1 s2 s3 c s5'))
  | none=>bh (gN 5) HY (eN ks) (Bu L s1 s2 s3 a s5)= .ok (.rt (.bl false))
 | [],a,s5,_=>⟨s5,rfl⟩
 | k::ks,a,s5,h=>by
  have hk:=h k Kg
  have e:L[k]? =some L[k]:=Kf hk
  unfold run;rw[e];simp only
  have c1:tb (o2 j7 (o2 aO (o2 aO (vr 0) (vr 5)) (cn (.int 0))) (vr 4)) (Bu L s1 s2 s3 a (.va (.int (k:Nat))))= .ok (!decide (L[k].1=a)):=
   bO (aC (t:=en L[k].1) (u:=en a) (aC (t:=eB L[k]) (u:=.int 0) (wZ rfl rfl e) rfl rfl) rfl (HR _ _))
  by_cases q:L[k].1=a
  ·rw[if_pos q]
   have ih:=wc L s1 s2 s3 ks L[k].2.1 (.va (.int (k:Nat))) λj hj=>h j (Ka _ hj)
   have st:HY (Bu L s1 s2 s3 a (.va (.int (k:Nat))))= .ok (.nx (Bu L s1 s2 s3 L[k].2.1 (.va (.int (k:Nat))))):=by
    rw[decide_eq_true q]at c1;refine(aA (Z':=Bu L s1 s2 s3 a (.va (.int (k:Nat)))) ((df c1).trans rfl)).trans ?_
    exact bS (t:=en L[k].2.1) (aC (t:=eB L[k]) (u:=.int 1) (wZ rfl rfl e) rfl rfl) rfl
   show match run L L[k].2.1 ks with
    | some c=> ∃s5',bh (gN 5) HY (.int (k:Nat)::eN ks) _=_
    | none=>bh (gN 5) HY (.int (k:Nat)::eN ks) _=_
   rw[fB (Z1:=Bu L s1 s2 s3 a (.va (.int (k:Nat)))) rfl st];exact ih
  ·rw[if_neg q]
   rw[decide_eq_false q]at c1;exact q0 (Z1:=Bu L s1 s2 s3 a (.va (.int (k:Nat)))) rfl (gA ((gP c1).trans rfl))
theorem Dk {L:aZ N2}{a b:N2}{t:T}(h:t.pl=true)(hl:∀l,t= .lst l->l.length<=1000):(mO L.length t=false/\j8 [eL L,en a,en b,t] = .ok (.bl false)) ∨
  ∃ks,t= .lst (eN ks)/\(∀k∈ks,k<L.length)/\j8 [eL L,en a,en b,t] = .ok (.bl (decide (run L a ks=some b))):=by
 cases q:mO L.length t with
 | false=>
  refine .inl ⟨rfl,bo rfl ?_⟩
  show kh [.va (eL L),.va (en a),.va (en b),.va t,.em,.em] =_
  unfold kh
  exact gA ((gP (gp (k:=false) (bO (aM (ts:=[eL L,t]) rfl (by rw[kI L t h hl,q]))))).trans rfl)
 | true=>
  obtain⟨ks,rfl,hk⟩:=CQ q;refine .inr ⟨ks,rfl,hk,bo rfl ?_⟩
  show kh [.va (eL L),.va (en a),.va (en b),.va (.lst (eN ks)),.em,.em] =_
  unfold kh;rw[aA (Z':=[.va (eL L),.va (en a),.va (en b),.va (.lst (eN ks)),.em,.em]) ((df (gp (k:=true) (bO (aM (ts:=[eL L,.lst (eN ks)]) rfl (by rw[kI L _ h hl,q]))))).trans rfl)]
  rw[aA (Z':=Bu L (.va (en a)) (.va (en b)) (.va (.lst (eN ks))) a .em) (bS (t:=en a) rfl rfl)]
  have lo:=wc L (.va (en a)) (.va (en b)) (.va (.lst (eN ks))) ks a .em hk
  cases r:run L a ks with
  | none=>
   rw[r]at lo
   rw[gA (jl (ts:=eN ks) (gq rfl) lo)];rfl
  | some c=>
   rw[r]at lo;obtain⟨s5,lo⟩:=lo;rw[aA (jl (ts:=eN ks) (gq rfl) lo)];refine bP ((aC (t:=en c) (u:=en b) rfl rfl (IF c b)).trans ?_)
   simp
theorem gi (f:Nat->Int):∀ks:List Nat,cM (ks.map λk=>T.int (f k))=some (ks.map f)
 | [] =>rfl
 | k::ks=>by rw[Ke,cM,gi f ks];rfl
theorem t9 (L:aZ N2):∀ks:List Nat,(ks.map (most L)).sum=cost L ks
 | [] =>rfl
 | k::ks=>by rw[Ke,LH,t9 L ks];rfl
theorem wH {L:aZ N2}{ks:List Nat}(hk:∀k∈ks,k<L.length)(hl:ks.length<=1000):cQ [eL L,.lst (eN ks)] = .ok (.int (cost L ks)):=by
 refine bo rfl ?_
 show nY [.va (eL L),.va (.lst (eN ks))] =_
 unfold nY
 have e:eO (iS (vr 1)) [none,some 0] (gN 0) bT (o2 aO (o2 aO (vr 1) (vr 0)) (cn (.int 2))) [.va (eL L),.va (.lst (eN ks))] = .ok (.lst ((eN ks).map λt=>match t with | .int i=> .int (most L i.toNat) | _=> .non)):=
  ly (ts:=eN ks) (gq rfl) (aE (by unfold eN;rw[Kh];exact hl) (by omega)) (by simp) λt ht=>by
   obtain⟨k,h,rfl⟩:=Ku.mp ht
   have h:=hk k h
   have e:L[k]? =some L[k]:=Kf h
   refine(aC (t:=eB L[k]) (u:=.int 2) (wZ rfl rfl e) rfl rfl).trans ?_
   show Rs.ok (T.int L[k].2.2)= .ok (.int (most L (k:Int).toNat))
   rw[K0,most,e]
 refine bP (aM (au e rfl) ?_)
 have:((eN ks).map λt=>match t with | .int i=>T.int (most L i.toNat) | _=> .non)=ks.map λk=>T.int (most L k):=by
  unfold eN;rw[KB];exact KA λk _=>by show T.int (most L (k:Int).toNat)=_;rw[K0]
 rw[this]
 show(match cM (ks.map λk=>T.int (most L k))with | some ns=>Rs.ok (T.int ns.sum) | none=> .bad)=_
 rw[gi]
 show Rs.ok (T.int (ks.map (most L)).sum)=_
 rw[t9]
def ksOf (t:T):List Nat:=match t with
 | .lst l=>l.map λu=>match u with | .int i=>i.toNat | _=>0
 | _=> []
theorem wm (ks:List Nat):ksOf (.lst (eN ks))=ks:=by
 show(eN ks).map _=ks
 unfold eN;rw[KB]
 have:∀l:List Nat,l.map ((λu=>match u with | T.int i=>i.toNat | _=>0)∘λk:Nat=>T.int (k:Nat))=l:=by
  intro l
  induction l with
  | nil=>rfl
  | cons a l ih=>rw[Ke,ih];rfl
 exact this ks
section
variable {cs ls:List T}{L:aZ N2}{P:List N2}
theorem Rd.ev (R:Rd cs ls L P){v:N2}(h:v∈P):aY cs (en v)=true:=ID (by rw[R.e];exact Ku.mpr ⟨v,h,rfl⟩)
theorem Rd.bounds (R:Rd cs ls L P):bN [RR cs ls] = .ok (eL L):=by rw[A1 R.g,R.b];rfl
end
section
variable {cs ls:List T}{L:aZ N2}{P:List N2}
theorem Rd.events (R:Rd cs ls L P):dI [RR cs ls] = .ok (eS P):=by rw[zH R.g,R.e];rfl
theorem Gq {ns:List N2}{b:bU N2}(D:DR P ns b){v:N2}{x:Int×List Nat}(e:b v=some x):tV (.dct (ns.map en) (dV ns b)) (en v)= .ok (eW x):=by
 unfold tV;simp only[cG];rw[D.get,e];rfl
def tmT (P:List N2)(t:N2->Int):T:=.tup (P.map λv=> .int (t v))
def IV (b:bU N2)(v:N2):Int:=match b v with
 | some x=>x.1
 | none=>0
def atT (t:N2->Int)(u:T):T:=match u with
 | .tup [.int c,.int k] => .int (t ⟨c,k⟩)
 | _=> .non
theorem Rd.JK (R:Rd cs ls L P):(¬dO L/\eR [(RR cs ls)] = .ok .non)\/(dO L/\∃t b,Settled L P b/\(∀v∈P,∃w,b v=some (t v,w))/\eR [(RR cs ls)] = .ok (tmT P t)):=by
 obtain⟨r,hr,ok⟩:=nE R.f R.nd (λv h=>h)
 have wrap:∀{w:T},cW [(RR cs ls),eL L] = .ok w->eR [(RR cs ls)] = .ok w:=λ{w} e=>bo rfl (bP (aM (ts:=[(RR cs ls),eL L]) (au rfl (au (aM (ts:=[(RR cs ls)]) rfl R.bounds) rfl)) e))
 have begin_:∀{x z:T} {y:Rs Fl},bL [eL L,eS P] = .ok (.tup [x,z])->((ay (eG (tb (o2 kG (vr 3) (cn .non))) (aG (cn .non)) sN) (aG (cl fR (ae (eO (iS (vr 2)) [none,some 3] (gN 0) bT (o2 aO (o2 tV (vr 1) (vr 0)) (cn (.int 0)))) ai)))) [.va (RR cs ls),.va (eL L),.va (eS P),.va x] =y)->d6 [.va (RR cs ls),.va (eL L),.em,.em] =y:=λ{x z y} hs hy=>by
  unfold d6;rw[aA (Z':=[.va (RR cs ls),.va (eL L),.va (eS P),.em]) (bS (aM (ts:=[(RR cs ls)]) rfl R.events) rfl)];rw[aA (Z':=[.va (RR cs ls),.va (eL L),.va (eS P),.va x]) (bS (aC (u:=.int 0) (aM (ts:=[eL L,eS P]) rfl hs) rfl rfl) rfl)];exact hy
 cases r with
 | inr q=>exact .inl ⟨λn=>absurd n (Bar.neg ok),wrap (bo rfl (begin_ hr (gA ((gP (bO (aC (t:=.non) (u:=.non) rfl rfl rfl))).trans rfl))))⟩
 | inl b=>
  obtain⟨ns,D,hr⟩:=hr
  have ok:Settled L P b:=ok
  have htm:∀v∈P,∃w,b v=some (IV b v,w):=λv hv=>by
   obtain⟨d,w,e,_⟩:=ok.least v hv v 0 (.nil v);exact⟨w,by unfold IV;rw[e]⟩
  refine .inr ⟨(ok.holds R.f.ends htm).Jw,IV b,b,ok,htm,wrap (bo rfl (begin_ hr ?_))⟩
  generalize IV b=tm at htm
  have lc:eO (iS (vr 2)) [none,some 3] (gN 0) bT (o2 aO (o2 tV (vr 1) (vr 0)) (cn (.int 0))) [.va (RR cs ls),.va (eL L),.va (eS P),.va (.dct (ns.map en) (dV ns b))] = .ok (.lst ((P.map en).map (atT tm))):=
   ly (ts:=P.map en) (gq rfl) (aE (k:=16) (by rw[Kh];exact R.pl)) (by simp) λt ht=>by
    obtain⟨v,hv,rfl⟩:=Ku.mp ht;obtain⟨w,e⟩:=htm v hv;exact aC (t:=eW (tm v,w)) (u:=.int 0) (aC (t:=.dct (ns.map en) (dV ns b)) (u:=en v) rfl rfl (Gq D e)) rfl rfl
  rw[KB]at lc;rw[aA (Z':=[.va (RR cs ls),.va (eL L),.va (eS P),.va (.dct (ns.map en) (dV ns b))]) ((df (bO (aC (t:=.dct (ns.map en) (dV ns b)) (u:=.non) rfl rfl rfl))).trans rfl)];exact bP (aM (au lc rfl) rfl)
theorem Rd.J4 (R:Rd cs ls L P):∃hw:Bool,aR [(RR cs ls)] = .ok (.bl hw)/\(hw=true↔dO L):=by
 rcases R.JK with⟨n,e⟩ | ⟨n,t,b,_,_,e⟩
 ·exact⟨false,bo rfl (bP (aC (t:=.non) (u:=.non) (aM (ts:=[(RR cs ls)]) rfl e) rfl rfl)),λz=>(by cases z),λz=>absurd z n⟩
 ·exact⟨true,bo rfl (bP (aC (t:=tmT P t) (u:=.non) (aM (ts:=[(RR cs ls)]) rfl e) rfl rfl)),λ_=>n,λ_=>rfl⟩
end
theorem Aw (l:List T)(h:l≠ []):aO (.lst l) (.int (-1))= .ok (l.getLast h):=by
 show(match L2.atI l (-1)with | some t=>Rs.ok t | none=> .bad)=_
 have hp:0<l.length:=Nx.mpr h
 have e:L2.atI l (-1)=some (l.getLast h):=by
  unfold L2.atI L2.ixN;rw[if_neg (by omega),if_pos (by omega)]
  show l[((-1:Int)+l.length).toNat]? =_
  rw[PL,show((-1:Int)+l.length).toNat=l.length - 1 by omega,Kf]
 rw[e]
section
variable {cs ls:List T}{L:aZ N2}{P:List N2}{ns:List Int}
theorem zT {D:Bool}:∀{l:List T},(∀t∈l,t.nk D=true)->nks D l=true
 | [],_=>rfl
 | t::l,h=>by unfold nks;rw[h t Kg,zT λu hu=>h u (Ka _ hu)];rfl
theorem rn {k:Nat}:∀{l:List T},(∀t∈l,t.dep<=k)->deps l<=k
 | [],_=>by unfold deps;omega
 | t::l,h=>by
  unfold deps;exact Nat.max_le.mpr ⟨h t Kg,rn λu hu=>h u (Ka _ hu)⟩
end
theorem zW {n:Int}{t:T}(ht:t.pl=true)(h:aP t 0 (n - 1)=true):d8 [.int n,t] = .ok .non:=by
 refine An (Z:=[.va (.int n),.va t]) rfl ?_
 show fV [.va (.int n),.va t] =_
 unfold fV;exact(df (gp (k:=true) (bO (aM (ts:=[t,.int 0,.int (n - 1)]) rfl (by rw[dM _ _ _ ht,h]))))).trans rfl
theorem A4 {x y:N2×N2×Int}(h:eB x=eB y):x=y:=by
 obtain⟨a,b,m⟩:=x;obtain⟨a',b',m'⟩:=y;unfold eB at h
 have h':=T.tup.inj h;simp only[SI,T.int.injEq,and_true]at h';rw[nC h'.1,nC h'.2.1,h'.2.2]
theorem qv {a b:T}(ha:a.pl=true)(hb:b.pl=true):(T.tup [a,b]).pl=true:=by simp[T.pl,plS,ha,hb]
def gg (l:List T)(n:Nat):List T:=l.take n++l.drop (n+1)
theorem CH (l:List T)(n:Nat):(gg l n).length<=l.length:=by unfold gg;rw[Kw,Mp,MS];omega
section
variable {cs ls:List T}{L M:aZ N2}{P:List N2}{f:ug N2}{ns:List Int}{t:N2->Int}
theorem Rd.same {ms:List T}{M:aZ N2}{Q:List N2}(R:Rd cs ls L P)(S:Rd cs ms M Q):Q=P:=by
 have:P.map en=Q.map en:=by rw[<-R.e,<-S.e]
 clear R S
 induction P generalizing Q with
 | nil=>cases Q with
  | nil=>rfl
  | cons a Q=>simp at this
 | cons v P ih=>cases Q with
  | nil=>simp at this
  | cons a Q=>
   rw[Ke,Ke,SI]at this;rw[nC this.1,ih this.2]
end
end G
namespace G
open PySem Tr Gr
open Classical in
def tb_ (P:List N2)(L:aZ N2):Option (List (Option Int)):=if dO L then some (P.flatMap λu=>P.map (table P L u))else none
section
variable {cs ls ms:List T}{L M:aZ N2}{P:List N2}
def deB (t:T):N2×N2×Int:=match t with
 | .tup [.tup [.int a,.int b],.tup [.int c,.int d],.int m] =>(⟨a,b⟩,⟨c,d⟩,m)
 | _=>(⟨0,0⟩,⟨0,0⟩,0)
def lim (cs ls:List T):aZ N2:=(yB cs ls).map deB
theorem Rd.Jy (R:Rd cs ls L P):lim cs ls=L:=by
 unfold lim;rw[R.b,KB];exact(KA λx _=>show deB (eB x)=x by obtain⟨a,b,m⟩:=x;rfl).trans (PC L)
theorem Rd.sub (R:Rd cs ls L P)(h:∀u∈ms,u∈ls)(hn:ms.length<=8):Rd cs ms (lim cs ms) P:=by
 obtain⟨M,Q,S⟩:=oO (R.g.sub h hn);obtain rfl:=R.same S;rw[S.Jy];exact S
theorem Rd.to (R:Rd cs ls L P)(g:Good cs ms):Rd cs ms (lim cs ms) P:=by
 obtain⟨M,Q,S⟩:=oO g;obtain rfl:=R.same S;rw[S.Jy];exact S
def key (P:List N2)(cs ms:List T):=tb_ P (lim cs ms)
end
end G
namespace G
open PySem Tr Gr
def nI (k:Nat):T:=.int (k:Nat)
theorem pC {α:Type}(d:α):∀(l:List α) (j:Nat),((J7 l.length).filter λk=>k != j).map (λk=>l.getD k d)=l.eraseIdx j
 | [],j=>by simp
 | x::l,0=>by
  rw[Kj,Mk,L8,OG]
  have e:(J7 l.length).filter ((λk=>k != 0)∘Nat.succ)=J7 l.length:=Q4.mpr λk _=>by simp
  rw[e,if_neg (by simp),KB,List.eraseIdx_cons_zero]
  apply Pj
  intro k;rw[Kv]
  by_cases h:k<l.length
  ·rw[Mh h,Kf h]
   simp[h]
  ·rw[Lv (by simpa using h),Lv (by simpa using h)];rfl
 | x::l,j+1=>by
  rw[Kj,Mk,L8,OG,if_pos (by simp),Ke,KB,List.eraseIdx_cons_succ]
  have e:(λk=>k != j+1)∘Nat.succ=λk=>k != j:=by funext k;simp
  rw[e,<-pC d l j];simp
theorem C0 {l:List T}{f:En->Rs T}{Z:En}(h:f Z= .ok (.tup l)):cl cY (ae f ai) Z= .ok (.int (l.length:Nat)):=aM (ts:=[.tup l]) (au h rfl) rfl
theorem D5 {cs ls:List T}(h:ls.length<=8):cK [RR cs ls] = .ok (.lst ((J7 ls.length).map nI)):=by
 refine bo rfl ?_
 refine bP ?_
 have hl:=C0 (l:=ls) (f:=o2 aO (vr 0) (cn (.int 1))) (Z:=[.va (RR cs ls)]) (aC (t:=RR cs ls) (u:=.int 1) rfl rfl (wt (n:=1) rfl))
 show lR (ae (cl cY (ae (o2 aO (vr 0) (cn (.int 1))) ai)) ai) [.va (RR cs ls)] =_
 unfold lR;rw[au hl rfl,aF]
 show(if (nu (ls.length:Nat)&&decide (((ls.length:Nat):Int).toNat<=1000))=true then Rs.ok (T.lst (rng 0 (ls.length:Nat)))else .bad)=_
 rw[if_pos (by rw[J9];exact⟨rh (by omega),decide_eq_true (by omega)⟩),lF]
 rfl
def gQ (t:T):Nat:=match t with
 | .int k=>k.toNat
 | _=>0
theorem eA (k:Nat):gQ (nI k)=k:=by unfold gQ nI;exact K0 k
theorem HP (a b:Nat):j7 (nI a) (nI b)= .ok (.bl (a != b)):=by
 unfold j7 nI;rw[if_pos (dg (by simp[T.dep]) rfl rfl)]
 show Rs.ok (T.bl (!((a:Int) == (b:Int))))=_
 congr 2
 by_cases h:a=b
 ·subst h;simp
 ·have:((a:Int) == (b:Int))=false:=beq_eq_false_iff_ne.mpr (by omega)
  rw[this];simp[h]
theorem pv {q:Nat->Bool}(l:List Nat):((l.map nI).filter λt=>q (gQ t)).map id=(l.filter q).map nI:=by
 rw[PC,OG];refine congrArg _ ?_
 exact List.filter_congr λk _=>by show q (gQ (nI k))=q k;rw[eA]
theorem x8 {l:List Nat}{j:Nat}(h:l.length<=1000):iW [.lst (l.map nI),nI j] = .ok (.lst ((l.filter λk=>k != j).map nI)):=by
 refine bo rfl ?_
 refine bP ?_
 rw[<-pv (q:=λk=>k != j)]
 exact Aq (ts:=l.map nI) (gq rfl) (aE (by rw[Kh];exact h) (by omega)) (by simp) λt ht=>by
  obtain⟨k,_,rfl⟩:=Ku.mp ht;exact⟨bO (aC (t:=nI k) (u:=nI j) rfl rfl (by rw[HP,eA])),λ_=>rfl⟩
theorem AW {cs ls:List T}{l:List Nat}(h:l.length<=1000)(hl:∀k∈l,k<ls.length):cq [RR cs ls,.lst (l.map nI)] = .ok (RR cs (l.map λk=>ls.getD k .non)):=by
 refine bo rfl ?_
 refine bP ?_
 have lc:eO (iS (vr 1)) [none,some 0] (gN 0) bT (o2 aO (o2 aO (vr 1) (cn (.int 1))) (vr 0)) [.va (RR cs ls),.va (.lst (l.map nI))] = .ok (.lst ((l.map nI).map λt=>ls.getD (gQ t) .non)):=
  ly (ts:=l.map nI) (gq rfl) (aE (by rw[Kh];exact h) (by omega)) (by simp) λt ht=>by
   obtain⟨k,hk,rfl⟩:=Ku.mp ht
   have:=hl k hk;rw[eA];exact F2 (l:=ls) (n:=k) (aC (t:=RR cs ls) (u:=.int 1) rfl rfl (wt (n:=1) rfl)) rfl (by rw[Kf this,KH,Kf this];rfl)
 rw[KB]at lc
 have e:((λt=>ls.getD (gQ t) T.non)∘nI)=λk=>ls.getD k .non:=by funext k;show ls.getD (gQ (nI k)) _=_;rw[eA]
 rw[e]at lc;exact p2 (aC (t:=RR cs ls) (u:=.int 0) rfl rfl (wt (n:=0) rfl)) (aM (au lc rfl) iJ)
section
variable {cs ls ms:List T}{L M:aZ N2}{P:List N2}{f:ug N2}
def z7 (a c:N2)(x:Int):T:=.tup [en a,en c,.int x,.non]
theorem Rd.JX (R:Rd cs ls L P){a c:N2}(ha:a∈P)(hc:c∈P)(hne:a≠c){x:Int}(h0:0<=x)(h1:x<=999):bQ cs (z7 a c x)=true:=by
 show(eX (.int x) .non&&(aY cs (en a)&&(aY cs (en c)&& !aQ (en a) (en c))))=true
 rw[R.ev ha,R.ev hc,nR,decide_eq_false hne]
 show(aP (.int x) 0 999&&true&&(true&&(true&& !false)))=true
 simp only[aP,Bool.and_true,Bool.not_false,J9,decide_eq_true_eq];exact⟨h0,h1⟩
end
theorem zf:∀{r:List Int} {k:Nat},sk r=true->k+1<r.length->0<=dr r k
 | [],k,_,h=>by simp at h
 | [a],k,_,h=>by simp at h
 | a::b::r,0,h,_=>by
  rw[Hb,J9]at h
  have:=of_decide_eq_true h.1
  show 0<=b - a
  omega
 | a::b::r,k+1,h,hk=>by
  rw[Hb,J9]at h;exact zf (r:=b::r) (k:=k) h.2 (by simpa using hk)
theorem vd {t:T}(h:br t=true):∃(x y:Int) (r:List Int),t= .tup [.int x,.int y,.tup (r.map .int)]/\(0<=x/\x<=9)/\x<=y/\(∀k,0<=r.getD k 0/\r.getD k 0<=99)/\∀k,k+1<r.length->0<=dr r k:=by
 obtain⟨x,y,r,rfl,h1,h2,h3⟩:=nM h;refine⟨x,y,r,rfl,h1,?_,h3,?_⟩
 ·have h':(mw (.int x) (.int y)&&cA (.tup (r.map .int)))=true:=h
  rw[J9]at h'
  have hp:(aP (.int x) 1 9&&aP (.int y) x 9)=true:=h'.1;rw[J9]at hp;obtain⟨i,e,a,b⟩:=cy hp.2;cases e;exact a
 ·have h':(mw (.int x) (.int y)&&cA (.tup (r.map .int)))=true:=h
  rw[J9]at h'
  have hr:=h'.2;unfold cA at hr;rw[J9]at hr
  have hr2:(((r.map T.int).all λu=>aP u 0 99)&&(match nums (r.map .int)with | some m=>sk m | none=>false))=true:=hr.2
  rw[J9,j0]at hr2;exact λk hk=>zf hr2.2 hk
theorem Bd {u:T}:∀{cs:List T} {i:Nat},u∈bC i cs->∃j c,cs[j]? =some c/\u∈xB (i+j) c
 | [],i,h=>by simp[bC]at h
 | c::cs,i,h=>by
  rw[bC,Ls]at h;rcases h with h | h
  ·exact⟨0,c,rfl,h⟩
  ·obtain⟨j,d,e,hd⟩:=Bd h
   exact⟨j+1,d,e,by rw[show i+(j+1)=i+1+j by omega];exact hd⟩
section
variable {cs ls:List T}{L:aZ N2}{P:List N2}{i:Nat}{x y:Int}{r:List Int}
def cw (b:Bool)(cs:List T)(v:N2):Int:=match cs[v.c.toNat]? with
 | some (.tup [.int x,.int y,.tup r])=>(if b then y else x)*((nums r).getD []).getD v.k.toNat 0
 | _=>0
theorem D6 (b:Bool)(e:cs[i]? =some (.tup [.int x,.int y,.tup (r.map .int)]))(k:Nat):cw b cs ⟨i,(k:Nat)⟩=(if b then y else x)*r.getD k 0:=by
 unfold cw;simp only[K0,e,j0,Option.getD_some]
theorem Rd.cw0 (R:Rd cs [] L P)(b:Bool):Holds L (cw b cs):=λu v m hx=>by
 have hb:eB (u,v,m)∈yB cs []:=by rw[R.b];exact Ku.mpr ⟨_,hx,rfl⟩
 unfold yB at hb;rw[List.flatMap_nil,LJ]at hb;obtain⟨j,c,hj,hu⟩:=Bd hb;rw[NB]at hu;obtain⟨x,y,r,rfl,_,xy,_,dd⟩:=vd ((fG R.g.c).1 _ (LA hj));rw[rO]at hu;obtain⟨k,hk,hu⟩:=Nt.mp hu
 have hk':=Kq.mp hk
 have d0:=dd k (by omega)
 have c1:=D6 b hj k
 have c2:=D6 b hj (k+1)
 have fx:x<=(if b then y else x)/\(if b then y else x)<=y:=by cases b <;> simp[xy]
 revert fx c1 c2
 generalize (if b then y else x)=z
 intro c1 c2 fx
 have m1:=Om fx.1 d0
 have m2:=Om fx.2 d0
 have ed:z*r.getD (k+1) 0 - z*r.getD k 0=dr r k*z:=by unfold dr;rw[<-Int.mul_sub,OV]
 unfold pr at hu;simp only[Ko,Ll,or_false]at hu;rcases hu with hu | hu
 ·have:=A4 (y:=(⟨j,k⟩,⟨j,((k+1:Nat):Int)⟩,dr r k*y)) hu
  cases this;rw[c1,c2];omega
 ·have:=A4 (y:=(⟨j,((k+1:Nat):Int)⟩,⟨j,k⟩,-dr r k*x)) hu
  cases this;rw[c1,c2,Int.neg_mul];omega
theorem nn0 (R:Rd cs ls L P):dO (lim cs []):=by
 have g0:Good cs []:=⟨R.g.c,λt ht=>(by cases ht),by simp,qv R.g.parts.1 rfl⟩
 have S:=R.to g0;exact(S.cw0 true).Jw
theorem Rd.JH (R:Rd cs ls L P):∃t,((dO L/\t= .non)\/(∃q,Bar L q/\t= .lst (eN q)))/\fg [RR cs ls] = .ok t:=by
 obtain⟨r,hr,ok⟩:=nE R.f R.nd (λv h=>h)
 have wrap:∀{x y:T},bL [eL L,eS P] = .ok (.tup [x,y])->fg [RR cs ls] = .ok y:=λ{x y} e=>
  bo rfl (bP (aC (t:=.tup [x,y]) (u:=.int 1) (aM (ts:=[eL L,eS P]) (au (aM (ts:=[RR cs ls]) rfl R.bounds) (au (aM (ts:=[RR cs ls]) rfl R.events) rfl)) e) rfl rfl))
 cases r with
 | inr q=>exact⟨_,.inr ⟨q,ok,rfl⟩,wrap hr⟩
 | inl b=>
  obtain⟨ms,D,hr⟩:=hr
  have ok:Settled L P b:=ok
  have all:∀v∈P,∃d w,b v=some (d,w):=λv hv=>by
   obtain⟨d,w,e,_⟩:=ok.least v hv v 0 (.nil v);exact⟨d,w,e⟩
  let tm:N2->Int:=λv=>match b v with | some x=>x.1 | none=>0
  have htm:∀v∈P,∃w,b v=some (tm v,w):=λv hv=>by
   obtain⟨d,w,e⟩:=all v hv;refine⟨w,?_⟩
   show b v=some ((match b v with | some x=>x.1 | none=>0),w)
   rw[e]
  exact⟨_,.inl ⟨(ok.holds R.f.ends htm).Jw,rfl⟩,wrap hr⟩
end
theorem Gw {l:List T}{n:Nat}{f:En->Rs T}{g:En->Rs T}{Z:En}(h:f Z= .ok (.tup l))(hg:g Z= .ok (.int n)):sl f pN (pS g) Z= .ok (.tup (l.take n)):=by
 rw[<-tX];exact Ia h rfl (C4 hg)
theorem Gx {l:List T}{n:Nat}{f:En->Rs T}{g:En->Rs T}{Z:En}(h:f Z= .ok (.tup l))(hg:g Z= .ok (.int n)):sl f (pS g) pN Z= .ok (.tup (l.drop n)):=by
 rw[<-tY];exact Ia h (C4 hg) rfl
theorem Dq {l:List T}{n:Nat}{f:En->Rs T}{g:En->Rs T}{Z:En}(h:f Z= .ok (.tup l))(hg:g Z= .ok (.int n)):sl f (pS (o2 bD g (cn (.int 1)))) pN Z= .ok (.tup (l.drop (n+1))):=
 Gx h (aC (t:=.int n) (u:=.int 1) hg rfl rfl)
theorem oQ {cs ls:List T}{n:Nat}(g:Good cs ls)(hn:n<ls.length):bH [RR cs ls,.int n] = .ok (.tup [.tup cs,.tup (gg ls n)]):=by
 have hl:=g.n;refine bo rfl ?_
 show d5 [.va (RR cs ls),.va (.int n),.em] =_
 unfold d5;rw[aA (Av (t:=.non) (aM (ts:=[RR cs ls]) rfl (j6 g.p g.ok)))];rw[aA (Z':=[.va (RR cs ls),.va (.int n),.va (.tup ls)]) ((bS (t:=.tup ls) rfl rfl))]
 have w:aP (.int n) 0 ((ls.length:Int) - 1)=true:=by unfold aP;simp;omega
 rw[aA (Av (t:=.non) (aM (ts:=[.int (ls.length:Int),.int n]) rfl (zW rfl w)))];exact bP (cZ (au (t:=.tup cs) rfl (au (t:=.tup (gg ls n)) (aC (t:=.tup (ls.take n)) (u:=.tup (ls.drop (n+1))) (Gw rfl rfl) (Dq rfl rfl) (Dw _ _ (by have:=CH ls n;unfold gg at this;omega))) rfl)) (aE (k:=2) (by simp)))
def fq:Nat->List (List Nat)
 | 0=> [[]]
 | 1=> [[0],[]]
 | 2=> [[0,1],[0],[1],[]]
 | 3=> [[0,1,2],[0,1],[0,2],[1,2],[0],[1],[2],[]]
 | _=> [[0,1,2,3],[0,1,2],[0,1,3],[0,2,3],[1,2,3],[0,1],[0,2],[0,3],[1,2],[1,3],[2,3],[0],[1],[2],[3],[]]
def lN (l:List Nat):T:=.lst (l.map nI)
def r6:Nat->List (List Nat)
 | 0=> [[]]
 | n+1=>r6 n++(r6 n).map λl=>l++ [n]
theorem Gh:∀n≤4,iX [lN (J7 n)] = .ok (.lst ((r6 n).map lN)):=by
 intro n hn
 match n,hn with
 | 0,_=>rfl
 | 1,_=>rfl
 | 2,_=>rfl
 | 3,_=>rfl
 | 4,_=>rfl
def iR_ (l:List Nat):List Int:=Bv (l.map λk:Nat=>(k:Int))
theorem Eu:∀n≤4,((r6 n).map iR_).mergeSort m9=(fq n).map iR_:=by
 intro n hn
 match n,hn with
 | 0,_=>exact(gc (by decide) (by decide)).symm
 | 1,_=>exact(gc (by decide) (by decide)).symm
 | 2,_=>exact(gc (by decide) (by decide)).symm
 | 3,_=>exact(gc (by decide) (by decide)).symm
 | 4,_=>exact(gc (by decide) (by decide)).symm
theorem lI:∀l:List Nat,cM (l.map nI)=some (l.map λk:Nat=>(k:Int))
 | [] =>rfl
 | k::l=>by
  show(cM (l.map nI)).map ((k:Int):: ·)=_
  rw[lI l];rfl
theorem vZ:∀l:List (List Nat),k8 (l.map lN)=some (l.map λm=>m.map λk:Nat=>(k:Int))
 | [] =>rfl
 | m::l=>by
  show(match cM (m.map nI),k8 (l.map lN)with | some ns,some k=>some (ns::k) | _,_=>none)=_
  rw[lI,vZ l];rfl
theorem u4 (l:List Nat):T.lst ((l.map λk:Nat=>(k:Int)).map T.int)=lN l:=by
 unfold lN;rw[KB];rfl
theorem y6:∀n≤4,(r6 n).length<64:=by decide
theorem IG {n:Nat}(hn:n<=4):rW [.lst ((r6 n).map lN)] = .ok (.lst ((fq n).map lN)):=by
 show(match k8 ((r6 n).map lN)with | some k=>if k.length<64 then Rs.ok (T.lst (((k.map Bv).mergeSort m9).map λr:List Int=>T.lst (r.tail.map .int)))else .bad | none=> .bad)=_
 rw[vZ];simp only[Kh];rw[if_pos (y6 n hn),KB,show(Bv∘λm:List Nat=>m.map λk:Nat=>(k:Int))=iR_ from rfl,Eu n hn,KB]
 congr 2
 exact KA λl _=>u4 l
theorem BV:∀n≤4,∀l∈fq n,l.Pairwise (· < ·)/\(∀k∈l,k<n)/\l.length<=n:=by decide
theorem BS:∀n≤4,[] ∈fq n:=by decide
theorem BU:∀n≤4,(fq n).length<=16:=by decide
def pk (ls:List T)(l:List Nat):List T:=l.map λk=>ls.getD k .non
def nn (cs ls:List T)(l:List Nat):Bool:=@decide (dO (lim cs (pk ls l))) (PM _)
section
variable {cs ls:List T}{L:aZ N2}{P:List N2}
theorem nn_iff {l:List Nat}:nn cs ls l=true↔dO (lim cs (pk ls l)):=by unfold nn;exact @decide_eq_true_iff _ (PM _)
theorem zy {l:List Nat}(hl:∀k∈l,k<ls.length):∀u∈pk ls l,u∈ls:=λu hu=>by
 obtain⟨k,hk,rfl⟩:=Ku.mp hu
 have:=hl k hk;rw[KH,Kf this]
 exact Mq _
theorem Rd.pkw (R:Rd cs ls L P){l:List Nat}(hl:∀k∈l,k<ls.length)(h8:l.length<=8):aR [RR cs (pk ls l)] = .ok (.bl (nn cs ls l)):=by
 have S:=R.sub (zy hl) (by unfold pk;rw[Kh];exact h8)
 obtain⟨hw,e,i⟩:=S.J4;rw[e]
 congr 2
 exact NI.mpr (i.trans nn_iff.symm)
theorem Rd.J1 (R:Rd cs ls L P):nn cs ls [] =true:=nn_iff.mpr (nn0 R)
theorem Rd.kept (R:Rd cs ls L P)(h4:ls.length<=4):∃(j:Nat) (l:List Nat),(fq ls.length)[j]? =some l/\nn cs ls l=true/\(∀i<j,∀m,(fq ls.length)[i]? =some m->nn cs ls m=false)/\dz [RR cs ls] = .ok (lN l):=by
 have go:∀(k j:Nat),j+k=(fq ls.length).length->(∀i<j,∀m,(fq ls.length)[i]? =some m->nn cs ls m=false)->∀f,k<f →
   ∃(j':Nat) (l:List Nat),(fq ls.length)[j']? =some l/\nn cs ls l=true/\(∀i<j',∀m,(fq ls.length)[i]? =some m->nn cs ls m=false) ∧
    aU (cp (tb (cl aR (ae (cl cq (ae (vr 0) (ae (o2 aO (vr 1) (vr 2)) ai))) ai)))) (za 2 (cn (.int 1))) f [.va (RR cs ls),.va (.lst ((fq ls.length).map lN)),.va (.int (j:Nat))] = .ok (.nx [.va (RR cs ls),.va (.lst ((fq ls.length).map lN)),.va (.int (j':Nat))]):=by
  intro k
  induction k with
  | zero=>
   intro j hj hf f _;obtain⟨i,hi⟩:=Os (BS ls.length h4)
   have:=hf i (by have:=(Km.mp hi).1;omega) _ hi
   rw[R.J1]at this;cases this
  | succ k ih=>
   intro j hj hf f hfk
   have hlt:j<(fq ls.length).length:=by omega
   obtain⟨l,hl⟩:∃l,(fq ls.length)[j]? =some l:=⟨_,Kf hlt⟩
   obtain⟨_,h2,h3⟩:=BV ls.length h4 l (LA hl)
   have c:tb (cl aR (ae (cl cq (ae (vr 0) (ae (o2 aO (vr 1) (vr 2)) ai))) ai)) [.va (RR cs ls),.va (.lst ((fq ls.length).map lN)),.va (.int (j:Nat))] = .ok (nn cs ls l):=
    bO (aM (ts:=[RR cs (pk ls l)]) (au (aM (ts:=[RR cs ls,lN l]) (au rfl (au (aC (t:=.lst ((fq ls.length).map lN)) (u:=.int (j:Nat)) rfl rfl (rf (n:=j) (by rw[Kv,hl];rfl))) rfl)) (AW (by omega) h2)) rfl) (R.pkw h2 (by omega)))
   cases f with
   | zero=>omega
   | succ f=>
    cases q:nn cs ls l with
    | true=>
     rw[q]at c
     exact⟨j,l,hl,q,hf,gn (gp (k:=true) c)⟩
    | false=>
     rw[q]at c
     obtain⟨j',l',a1,a2,a3,a4⟩:=ih (j+1) (by omega) (λi hi m hm=>by
      by_cases z:i=j
      ·subst z;rw[hl]at hm;cases hm;exact q
      ·exact hf i (by omega) m hm) f (by omega)
     exact⟨j',l',a1,a2,a3,(ip (gp (k:=false) c) rfl).trans a4⟩
 obtain⟨j,l,a1,a2,a3,a4⟩:=go (fq ls.length).length 0 (by omega) (λi hi=>absurd hi (by omega)) FU (by have:=BU ls.length h4;show _<1000000000000;omega)
 refine⟨j,l,a1,a2,a3,?_⟩
 refine bo rfl ?_
 show iD [.va (RR cs ls),.em,.em] =_
 unfold iD
 have ea:=D5 (cs:=cs) (ls:=ls) (by omega)
 refine(aA (Av (t:=.non) (aM (ts:=[RR cs ls]) rfl (j6 R.g.p R.g.ok)))).trans ?_
 refine(aA (Z':=[.va (RR cs ls),.va (.lst ((fq ls.length).map lN)),.em]) (bS (aM (ts:=[.lst ((r6 ls.length).map lN)]) (au (aM (ts:=[lN (J7 ls.length)]) (au (aM (ts:=[RR cs ls]) rfl ea) rfl) (Gh _ h4)) rfl) (IG h4)) rfl)).trans ?_
 refine(aA (Z':=[.va (RR cs ls),.va (.lst ((fq ls.length).map lN)),.va (.int 0)]) (bS rfl rfl)).trans ?_
 refine(aA a4).trans ?_
 exact bP (aC (t:=.lst ((fq ls.length).map lN)) (u:=.int (j:Nat)) rfl rfl (rf (n:=j) (by rw[Kv,a1];rfl)))
end
theorem HC:∀l:List Nat,plS (l.map nI)=true:=λl=>ib λt ht=>by obtain⟨k,_,rfl⟩:=Ku.mp ht;rfl
theorem Gs (l:List Nat):(lN l).dep<=60:=by
 unfold lN T.dep
 have:deps (l.map nI)<=0:=rn λt ht=>by obtain⟨k,_,rfl⟩:=Ku.mp ht;simp[nI,T.dep]
 omega
theorem DM (l:List Nat):(lN l).pl=true:=by unfold lN;rw[uL];exact HC l
theorem GH (a b:Nat):aQ (nI a) (nI b)=decide (a=b):=by
 show((a:Int) == (b:Int))=_
 by_cases h:a=b
 ·subst h;simp
 ·rw[decide_eq_false h];exact beq_eq_false_iff_ne.mpr (by omega)
theorem wW:∀a b:List Nat,beqTs (a.map nI) (b.map nI)=decide (a=b)
 | [],[] =>rfl
 | [],_::_=>by simp[beqTs]
 | _::_,[] =>by simp[beqTs]
 | x::a,y::b=>by
  show(aQ (nI x) (nI y)&&beqTs (a.map nI) (b.map nI))=_
  rw[GH,wW a b]
  by_cases h:x=y <;> by_cases g:a=b <;> simp[h,g]
theorem HQ (a b:List Nat):j7 (lN a) (lN b)= .ok (.bl (!decide (a=b))):=by
 unfold j7;rw[if_pos (dg (Gs a) (T.Jm _ (DM a)) (T.Jm _ (DM b)))]
 show Rs.ok (T.bl (!beqTs (a.map nI) (b.map nI)))=_
 rw[wW]
def rm (n i:Nat):List Nat:=(J7 n).filter λk=>k != i
theorem sj {n i:Nat}:∀k∈rm n i,k<n:=λk hk=>Kq.mp (MD.mp hk).1
theorem ql (n i:Nat):(rm n i).length<=n:=KD (Qp _ _) (by rw[Ld];omega)
theorem sC (ls:List T):pk ls (J7 ls.length)=ls:=by
 unfold pk;refine Ol (by simp) λi h1 h2=> ?_
 simp[KH,Kf h2]
def told (cs ls:List T):List Nat:=if nn cs ls (J7 ls.length)=true then []else(J7 ls.length).filter λi=>nn cs ls (rm ls.length i)
section
variable {cs ls:List T}{L:aZ N2}{P:List N2}
theorem Rd.hw (R:Rd cs ls L P)(h4:ls.length<=4):aR [RR cs ls] = .ok (.bl (nn cs ls (J7 ls.length))):=by
 have:=R.pkw (l:=J7 ls.length) (λk hk=>Kq.mp hk) (by rw[Ld];omega)
 rwa [sC]at this
theorem Rd.JY (R:Rd cs ls L P)(h4:ls.length<=4):fA [RR cs ls] = .ok (lN (told cs ls)):=by
 refine bo rfl ?_
 show jD [.va (RR cs ls),.em] =_
 unfold jD told
 have hw:=R.hw h4
 cases q:nn cs ls (J7 ls.length)with
 | true=>
  rw[q]at hw
  exact gA ((gP (bO (aM (ts:=[RR cs ls]) rfl hw))).trans (bP rfl))
 | false=>
  rw[q]at hw;refine(aA (Z':=[.va (RR cs ls),.em]) ((df (bO (aM (ts:=[RR cs ls]) rfl hw))).trans rfl)).trans ?_
  refine(aA (Z':=[.va (RR cs ls),.va (lN (J7 ls.length))]) (bS (aM (ts:=[RR cs ls]) rfl (D5 (by omega))) rfl)).trans ?_
  refine bP ?_
  rw[if_neg (by decide)]
  show _=Rs.ok (T.lst (((J7 ls.length).filter λi=>nn cs ls (rm ls.length i)).map nI))
  rw[<-pv (q:=λi=>nn cs ls (rm ls.length i))]
  refine Aq (ts:=(J7 ls.length).map nI) (gq rfl) (aE (k:=4) (by simp;omega) (by omega)) (by simp) λt ht=>by
   obtain⟨k,hk,rfl⟩:=Ku.mp ht;rw[eA];exact⟨bO (aM (ts:=[RR cs (pk ls (rm ls.length k))]) (au (aM (ts:=[RR cs ls,lN (rm ls.length k)]) (au rfl (au (aM (ts:=[lN (J7 ls.length),nI k]) rfl (x8 (by simp;omega))) rfl)) (AW (by have:=ql ls.length k;omega) sj)) rfl) (R.pkw sj (by have:=ql ls.length k;omega))),λ_=>rfl⟩
end
theorem G8:∀n≤4,(fq n)[0]? =some (J7 n):=by decide
def oT (o:Option (List Nat)):T:=match o with
 | some q=> .lst (eN q)
 | none=> .non
def FP (L:aZ N2)(o:Option (List Nat)):Prop:=match o with
 | some q=>Bar L q
 | none=>dO L
theorem HN {L:aZ N2}{P:List N2}{b:bU N2}(h:Settled L P b)(hL:∀x∈L,x.1∈P/\x.2.1∈P):dO L:=by
 have htm:∀v∈P,∃w,b v=some ((match b v with | some x=>x.1 | none=>0),w):=λv hv=>by
  obtain⟨d,w,e,_⟩:=h.least v hv v 0 (.nil v);exact⟨w,by rw[e]⟩
 exact(h.holds hL htm).Jw
theorem wI {L:aZ N2}{P:List N2}(F:yw L P)(nd:P.Nodup):∃o x,bL [eL L,eS P] = .ok (.tup [x,oT o])/\FP L o:=by
 obtain⟨r,hr,ok⟩:=nE F nd (λv h=>h)
 cases r with
 | inr q=>exact⟨some q,_,hr,ok⟩
 | inl b=>
  obtain⟨ns,D,hr⟩:=hr;exact⟨none,_,hr,HN ok F.ends⟩
theorem DX {L:aZ N2}{P:List N2}{o:Option (List Nat)}{x:T}{f g:En->Rs T}{Z:En}(e:bL [eL L,eS P] = .ok (.tup [x,oT o]))(hf:f Z= .ok (eL L))(hg:g Z= .ok (eS P)):o2 aO (cl bL (ae f (ae g ai))) (cn (.int 1)) Z= .ok (oT o):=
 aC (t:=.tup [x,oT o]) (u:=.int 1) (aM (ts:=[eL L,eS P]) (au hf (au hg rfl)) e) rfl rfl
theorem nG (L:aZ N2)(u d:Int)(hl:L.length<=1000)(h1 : -18446744073709551616<d)(h2:d<18446744073709551616):dZ [eL L,.int u,.int d] = .ok (eL (less L u d)):=by
 refine bo rfl ?_
 show jC [.va (eL L),.va (.int u),.va (.int d)] =_
 unfold jC;refine bP ((ly (ts:=L.map eB) (h:=λt=>match t with | .tup [a,b,.int m] => .tup [a,b,.int (m*d - u)] | _=> .non) (gq rfl) (aE (by rw[Kh];exact hl) (by omega)) (by simp) λt ht=> ?_).trans ?_)
 ·obtain⟨x,hx,rfl⟩:=Ku.mp ht
  refine cZ (ts:=[en x.1,en x.2.1,.int (x.2.2*d - u)]) (au (aC (t:=eB x) (u:=.int 0) rfl rfl rfl) (au (aC (t:=eB x) (u:=.int 1) rfl rfl rfl) (au (aC (t:=.int (x.2.2*d)) (u:=.int u) (aC (t:=.int x.2.2) (u:=.int d) (aC (t:=eB x) (u:=.int 2) rfl rfl rfl) rfl (tu h1 h2)) rfl rfl) rfl))) (aE (k:=3) (by simp))
 ·rw[KB]
  show Rs.ok (T.lst _)= .ok (.lst ((less L u d).map eB))
  unfold less;rw[KB]
  rfl
section
variable {cs ls:List T}{L:aZ N2}{P:List N2}
theorem pq {u d:Int}(F:yw L P)(B:∀x∈L,big x)(hl:L.length<=60)(hu:u.natAbs<=59940)(hd:d.natAbs<=60):yw (less L u d) P:=by
 refine⟨by unfold less;rw[Kh];omega,?_,λx hx=> ?_,F.pl⟩
 ·have:∀M:aZ N2,(∀x∈M,big x)->size (less M u d)<=119880*M.length:=by
   intro M
   induction M with
   | nil=>intro _;simp[less,size]
   | cons x M ih=>
    intro h
    have:=ih λy hy=>h y (Ka _ hy)
    have hx:=h x Kg;unfold big at hx;unfold size less at this ⊢;simp only[Ke,LH,Kj]at this ⊢
    have h1:(x.2.2*d).natAbs<=59940:=by
     rw[Int.natAbs_mul];exact KD (O9 hx hd) (by decide)
    have:(x.2.2*d - u).natAbs<=119880:=by omega
    omega
  have:=this L B;omega
 ·unfold less at hx
  obtain⟨y,hy,rfl⟩:=Ku.mp hx;exact F.ends y hy
abbrev tE (R:T)(L:aZ N2)(P:List N2)(a b:T):En:=[.va R,.va (eL L),.va (eS P),.va a,.va b]
abbrev tB:En->Rs Fl:=(ay (cz (vr 4) (gN 3)) (cz (o2 aO (cl bL (ae (cl dZ (ae (vr 1) (ae (cl cQ (ae (vr 1) (ae (vr 3) ai))) (ae (cl cY (ae (vr 3) ai)) ai)))) (ae (vr 2) ai))) (cn (.int 1))) (gN 4)))
theorem jU {q:List Nat}(h:Sr L q):q.length<=L.length/\(cost L q).natAbs<=size L:=by
 obtain⟨a,ha⟩:=h.ch;exact⟨G.Ch.len ha h.nd,ha.small h.nd⟩
theorem DF {q:List Nat}(h:Sr L q):∀k∈q,k<L.length:=by
 obtain⟨a,ha⟩:=h.ch;exact ha.lt
theorem uY (q:List Nat){f:En->Rs T}{Z:En}(h:f Z= .ok (.lst (eN q))):cl cY (ae f ai) Z= .ok (.int (q.length:Nat)):=aM (ts:=[.lst (eN q)]) (au h rfl) (by show Rs.ok (T.int ((eN q).length:Nat))=_;unfold eN;rw[Kh])
theorem yT (R:T)(F:yw L P)(nd:P.Nodup)(B:∀x∈L,big x)(hl:L.length<=60)(hs:size L<=59940):∀(n:Nat) (a:T) (q:List Nat),Sr L q->mu L.length (size L) (cost L q) q.length<n →
  ∃q' a',Sr L q'/\Tight L (some q')/\aU (tb (o2 jh (vr 4) (cn .non))) tB (n+1) (tE R L P a (.lst (eN q)))= .ok (.nx (tE R L P (.lst (eN q')) a'))
 | 0,_,_,_,h=>by omega
 | n+1,a,q,hq,h=>by
  obtain⟨l1,l2⟩:=jU hq
  have hp:=hq.pos;obtain⟨o,x,e,fp⟩:=wI (pq F B hl (u:=cost L q) (d:=(q.length:Nat)) (by omega) (by omega)) nd
  have st:tB (tE R L P a (.lst (eN q)))= .ok (.nx (tE R L P (.lst (eN q)) (oT o))):=by
   refine(aA (Z':=tE R L P (.lst (eN q)) (.lst (eN q))) (bS (t:=.lst (eN q)) rfl rfl)).trans ?_
   exact bS (DX e (aM (ts:=[eL L,.int (cost L q),.int (q.length:Nat)]) (au rfl (au (aM (ts:=[eL L,.lst (eN q)]) rfl (wH (DF hq) (by omega))) (au (uY q rfl) rfl))) (nG L _ _ (by omega) (by omega) (by omega))) rfl) rfl
  rw[ip (bO (aC (t:=.lst (eN q)) (u:=.non) rfl rfl rfl)) st]
  cases o with
  | none=>
   refine⟨q,.non,hq,⟨hq,λc m r=> ?_⟩,gn (bO (aC (t:=.non) (u:=.non) rfl rfl rfl))⟩
   exact mP fp r
  | some q'=>
   obtain⟨s',lt⟩:=Bar.sr fp;obtain⟨m1,m2⟩:=jU s'
   exact yT R F nd B hl hs n (.lst (eN q)) q' s' (by
    have:=HS (CZ m2 s'.pos m1) hp lt
    omega)
end
section
variable {cs ls:List T}{L:aZ N2}{P:List N2}
theorem Rd.size (R:Rd cs ls L P):size L<=59940:=by have:=vI R.bg;have:=R.ll;omega
theorem Rd.JC (R:Rd cs ls L P):∃o,bp [RR cs ls] = .ok (oT o)/\Tight L o:=by
 have hs:=R.size
 have hl:=R.ll;obtain⟨o,x,e,fp⟩:=wI (pq R.f R.bg R.ll (u:=1) (d:=0) (by decide) (by decide)) R.nd
 have begin_:∀{y:Rs Fl},(ay (aU (tb (o2 jh (vr 4) (cn .non))) tB FU) (aG (vr 3))) (tE (RR cs ls) L P .non (oT o))=y->fT [.va (RR cs ls),.em,.em,.em,.em] =y:=λ{y} h=>by
  unfold fT;rw[aA (Z':=[.va (RR cs ls),.va (eL L),.em,.em,.em]) (bS (aM (ts:=[RR cs ls]) rfl R.bounds) rfl)];rw[aA (Z':=[.va (RR cs ls),.va (eL L),.va (eS P),.em,.em]) (bS (aM (ts:=[RR cs ls]) rfl R.events) rfl)];rw[aA (Z':=[.va (RR cs ls),.va (eL L),.va (eS P),.va .non,.em]) (bS (t:=.non) rfl rfl)];rw[aA (Z':=tE (RR cs ls) L P .non (oT o)) (bS (DX e (aM (ts:=[eL L,.int 1,.int 0]) rfl (nG L 1 0 (by omega) (by decide) (by decide))) rfl) rfl)]
  exact h
 cases o with
 | none=>
  refine⟨none,bo rfl (begin_ ?_),λc n r=> ?_⟩
  ·rw[show FU=999999999999+1 from rfl,aA (gn (bO (aC (t:=.non) (u:=.non) rfl rfl rfl)))]
   exact bP rfl
  ·have:=mP (show dO (less L 1 0)from fp) r
   have:=r.pos
   omega
 | some q=>
  obtain⟨s,_⟩:=Bar.sr (show Bar (less L 1 0) q from fp)
  obtain⟨q',a',s',tt,w⟩:=yT (RR cs ls) R.f R.nd R.bg R.ll hs 999999999999 .non q s (by
   have h1:=HU L.length (Gr.size L) (cost L q) q.length
   have h2:(2*Gr.size L+1)*L.length<=(2*59940+1)*60:=O9 (by omega) hl
   omega)
  refine⟨some q',bo rfl (begin_ ?_),tt⟩
  rw[show FU=999999999999+1 from rfl]
  refine(aA w).trans ?_
  exact bP rfl
def pkF (u:Int)(n:Nat)(k:Nat):Bool:=decide (u % ((k+1:Nat):Int)=0)&&decide ((n:Int) % ((k+1:Nat):Int)=0)
def kl (u:Int)(n:Nat):List Nat:=(J7 n).filter (pkF u n)
def gm (u:Int)(n:Nat):Int:=match(kl u n).map (λk=>((k+1:Nat):Int))with
 | i::r=>m5 i r
 | [] =>1
theorem tH:∀(l:List Int) (i:Int),m5 i l∈i::l
 | [],i=>Kg
 | j::l,i=>by
  unfold m5
  have:=tH l (if i<j then j else i)
  rcases Ko.mp this with h | h
  ·rw[h]
   split
   ·exact Ka _ Kg
   ·exact Kg
  ·exact Ka _ (Ka _ h)
theorem DU {u:Int}{n:Nat}(h:1<=n):kl u n≠ []:=by
 have:0∈kl u n:=MD.mpr ⟨Kq.mpr h,by unfold pkF;simp⟩
 exact λz=>by rw[z]at this;cases this
theorem Iq {u:Int}{n:Nat}(h:1<=n):∃k:Nat,k<n/\gm u n=((k+1:Nat):Int)/\u % gm u n=0/\(n:Int) % gm u n=0:=by
 have key:gm u n∈(kl u n).map (λk=>((k+1:Nat):Int)):=by
  unfold gm
  cases q:(kl u n).map (λk=>((k+1:Nat):Int))with
  | nil=>exact absurd (Q5.mp q) (DU h)
  | cons i r=>exact tH r i
 obtain⟨k,hk,e⟩:=Ku.mp key;obtain⟨h1,h2⟩:=MD.mp hk;unfold pkF at h2;rw[J9]at h2;exact⟨k,Kq.mp h1,e.symm,by rw[<-e];exact of_decide_eq_true h2.1,by rw[<-e];exact of_decide_eq_true h2.2⟩
theorem AX {u:Int}{n:Nat}(h:1<=n)(hn:n<=1000):cN [.int u,.int (n:Nat)] = .ok (.tup [.int (u / gm u n),.int ((n:Int) / gm u n)]):=by
 obtain⟨k,hk,ek,_,_⟩:=Iq (u:=u) h;refine bo rfl ?_
 show dP [.va (.int u),.va (.int (n:Nat)),.em] =_
 unfold dP
 have lc:eO (iR (ae (cn (.int 1)) (ae (o2 bD (vr 1) (cn (.int 1))) ai))) [none,some 0,some 1] (gN 0) (kN (tb (o2 jn (o2 dU (vr 1) (vr 0)) (cn (.int 0)))) (tb (o2 jn (o2 dU (vr 2) (vr 0)) (cn (.int 0))))) (vr 0) [.va (.int u),.va (.int (n:Nat)),.em] = .ok (.lst ((kl u n).map λk=> .int ((k+1:Nat):Int))):=by
  have hi:iR (ae (cn (.int 1)) (ae (o2 bD (vr 1) (cn (.int 1))) ai)) [.va (.int u),.va (.int (n:Nat)),.em] = .ok ((J7 n).map λ(k:Nat)=>T.int ((k+1:Nat):Int)):=by
   rw[iR2 (i:=1) (j:=((n+1:Nat):Int)) (au rfl (au (aC (t:=.int (n:Nat)) (u:=.int 1) rfl rfl rfl) rfl)) (by omega) (by omega) (by omega) (by omega),B2 (n+1) (by omega)]
   rfl
  have:=Aq (ts:=(J7 n).map λ(k:Nat)=>T.int ((k+1:Nat):Int)) (p:=λt=>match t with | .int i=>decide (u % i=0)&&decide ((n:Int) % i=0) | _=>false) (h:=id) (src:=[none,some 0,some 1]) (fc:=(kN (tb (o2 jn (o2 dU (vr 1) (vr 0)) (cn (.int 0)))) (tb (o2 jn (o2 dU (vr 2) (vr 0)) (cn (.int 0)))))) (fe:=vr 0) hi (aE (by rw[Kh,Ld];exact hn) (by omega)) (by simp) (λt ht=>by
   obtain⟨k,hk,rfl⟩:=Ku.mp ht
   have p1:(0:Int)<((k+1:Nat):Int):=by omega
   refine⟨DY (bO (aC (t:=.int (u % ((k+1:Nat):Int))) (u:=.int 0) (aC (t:=.int u) (u:=.int ((k+1:Nat):Int)) rfl rfl (fz p1)) rfl ((AQ _ _).trans ?_))) λ_=>bO (aC (t:=.int ((n:Int) % ((k+1:Nat):Int))) (u:=.int 0) (aC (t:=.int (n:Nat)) (u:=.int ((k+1:Nat):Int)) rfl rfl (fz p1)) rfl ((AQ _ _).trans ?_)),λ_=>rfl⟩
   ·rw[Qr]
   ·rw[Qr])
  rw[this,PC,OG]
  rfl
 rw[aA (Z':=[.va (.int u),.va (.int (n:Nat)),.va (.int (gm u n))]) (bS (aM (au lc rfl) ?_) rfl)]
 ·have g0:0<gm u n:=by rw[ek];omega
  have g1:gm u n<1073741824:=by rw[ek];omega
  exact bP (p2 (aC (t:=.int u) (u:=.int (gm u n)) rfl rfl (fP g0 g1)) (aC (t:=.int (n:Nat)) (u:=.int (gm u n)) rfl rfl (fP g0 g1)))
 ·show(match cM ((kl u n).map λk=>T.int ((k+1:Nat):Int))with | some (i::ns)=>Rs.ok (T.int (m5 i ns)) | _=> .bad)=_
  rw[gi λk=>((k+1:Nat):Int)]
  unfold gm
  cases q:(kl u n).map (λk=>((k+1:Nat):Int))with
  | nil=>exact absurd (Q5.mp q) (DU h)
  | cons i r=>rfl
def rmT (L:aZ N2)(o:Option (List Nat)):T:=match o with
 | some q=> .tup [.int (cost L q / gm (cost L q) q.length),.int ((q.length:Int) / gm (cost L q) q.length)]
 | none=> .non
theorem Rd.room (R:Rd cs ls L P):∃o,bp [RR cs ls] = .ok (oT o)/\Tight L o/\ij [RR cs ls] = .ok (rmT L o):=by
 obtain⟨o,e,tt⟩:=R.JC;refine⟨o,e,tt,bo rfl ?_⟩
 show vn [.va (RR cs ls),.em] =_
 unfold vn;rw[aA (Z':=[.va (RR cs ls),.va (oT o)]) (bS (aM (ts:=[RR cs ls]) rfl e) rfl)]
 cases o with
 | none=>exact gA ((gP (bO (aC (t:=.non) (u:=.non) rfl rfl rfl))).trans rfl)
 | some q=>
  have s:=tt.1;obtain⟨l1,_⟩:=jU s
  have hl:=R.ll;rw[aA (Z':=[.va (RR cs ls),.va (.lst (eN q))]) ((df (bO (aC (t:=.lst (eN q)) (u:=.non) rfl rfl rfl))).trans rfl)];exact bP (aM (ts:=[.int (cost L q),.int (q.length:Nat)]) (au (aM (ts:=[eL L,.lst (eN q)]) (au (aM (ts:=[RR cs ls]) rfl R.bounds) rfl) (wH (DF s) (by omega))) (au (uY q rfl) rfl)) (AX s.pos (by omega)))
theorem HD (w:List Nat):∀u∈eN w,u.pl=true:=λu hu=>by obtain⟨k,_,rfl⟩:=Ku.mp hu;rfl
theorem uM (w:List Nat):(T.lst (eN w)).pl=true:=by rw[uL];exact ib (HD w)
theorem tQ {q:List Nat}{a:N2}(hne:q≠ [])(h:Ch L a q a)(hl:q.length<=1000):cH [eL L,.lst (eN q)] = .ok (.bl true):=by
 have hlt:=h.lt
 have len:∀l,T.lst (eN q)= .lst l->l.length<=1000:=λl e=>by cases e;unfold eN;rw[Kh];exact hl
 refine bo rfl ?_
 show fW [.va (eL L),.va (.lst (eN q)),.em] =_
 unfold fW
 cases q with
 | nil=>exact absurd rfl hne
 | cons k r=>
  obtain⟨c,m,e⟩:=h.fst
  have eq0:jn (.lst (eN (k::r))) (.lst [])= .ok (.bl false):=by
   unfold jn;rw[if_pos (AL (by simp[T.dep,deps]) (T.Jm _ (uM _)) rfl)]
   show Rs.ok (T.bl (aQ (.lst (.int (k:Nat)::eN r)) (.lst [])))=_
   simp[aQ,beqTs]
  rw[aA (Z':=[.va (eL L),.va (.lst (eN (k::r))),.em]) ((df (nq (gp (k:=true) (bO (aM (ts:=[eL L,.lst (eN (k::r))]) rfl (by rw[kI L _ (uM _) len,mK hlt])))) (bO (aC (t:=.lst (eN (k::r))) (u:=.lst []) rfl (wq rfl (aE (k:=1) (by simp))) eq0)))).trans rfl)]
  rw[aA (Z':=[.va (eL L),.va (.lst (eN (k::r))),.va (en a)]) (bS (t:=en a) (aC (t:=eB (a,c,m)) (u:=.int 0) (wZ rfl (As (n:=0) (l:=eN (k::r)) rfl rfl rfl) e) rfl rfl) rfl)];refine bP (aM (ts:=[eL L,en a,en a,.lst (eN (k::r))]) rfl ?_)
  rcases Dk (L:=L) (a:=a) (b:=a) (uM (k::r)) len with⟨z,_⟩ | ⟨ks,e1,_,e2⟩
  ·rw[mK hlt]at z;cases z
  ·have:ks=k::r:=by rw[<-wm ks,<-e1,wm]
   subst this;rw[e2,decide_eq_true (run_ch.mpr h)]
theorem Rd.JT (R:Rd cs ls L P){q:List Nat}{a:N2}(hne:q≠ [])(h:Ch L a q a)(hl:q.length<=60)(hc:(cost L q).natAbs<=59940){u d:Int}(hd:0<d):eU [RR cs ls,.tup [.int u,.int d],.lst (eN q)] = .ok (.bl (decide (cost L q*d<=u*q.length))):=by
 refine bo rfl ?_
 show gF [.va (RR cs ls),.va (.tup [.int u,.int d]),.va (.lst (eN q)),.em] =_
 unfold gF;rw[aA (Z':=[.va (RR cs ls),.va (.tup [.int u,.int d]),.va (.lst (eN q)),.va (eL L)]) (bS (aM (ts:=[RR cs ls]) rfl R.bounds) rfl)]
 have fr:d9 [.tup [.int u,.int d]] = .ok (.bl true):=by
  refine bo rfl (bP ?_)
  refine(nr (aM (ts:=[.tup [.int u,.int d],.int ((2:Nat):Int),.int ((2:Nat):Int)]) rfl ((iu _ 2 2 rfl).trans rfl))).trans ?_
  refine(nr (aM (ts:=[.int u]) (au (aC (t:=.tup [.int u,.int d]) (u:=.int 0) rfl rfl rfl) rfl) rfl)).trans ?_
  refine(nr (aM (ts:=[.int d]) (au (aC (t:=.tup [.int u,.int d]) (u:=.int 1) rfl rfl rfl) rfl) rfl)).trans ?_
  refine aC (t:=.int d) (u:=.int 0) (aC (t:=.tup [.int u,.int d]) (u:=.int 1) rfl rfl rfl) rfl ?_
  show Rs.ok (T.bl (decide (0<d)))=_
  rw[decide_eq_true hd]
 rw[aA (Z':=[.va (RR cs ls),.va (.tup [.int u,.int d]),.va (.lst (eN q)),.va (eL L)]) ((df (nq (gp (k:=true) (bO (aM (ts:=[.tup [.int u,.int d]]) rfl fr))) (gp (k:=true) (bO (aM (ts:=[eL L,.lst (eN q)]) rfl (tQ hne h (by omega))))))).trans rfl)]
 exact bP (aC (t:=.int (cost L q*d)) (u:=.int (u*(q.length:Nat))) (aC (t:=.int (cost L q)) (u:=.int d) (aM (ts:=[eL L,.lst (eN q)]) rfl (wH h.lt (by omega))) (aC (t:=.tup [.int u,.int d]) (u:=.int 1) rfl rfl rfl) (oY (by omega) (by omega))) (aC (t:=.int u) (u:=.int (q.length:Nat)) (aC (t:=.tup [.int u,.int d]) (u:=.int 0) rfl rfl rfl) (uY q rfl) (tu (by omega) (by omega))) rfl)
end
def eh (k:Nat):N2:=⟨k,0⟩
theorem rk {a b:Nat}(h:eh a=eh b):a=b:=by unfold eh at h;injection h with h1;omega
def qu (n i:Nat):Nat:=if i=0 then n - 1 else i - 1
def fJ (n:Nat):Nat->Nat->List Nat
 | _,0=> []
 | i,t+1=>qu n i::fJ n (qu n i) t
def DZ (n:Nat):Nat->Nat->Nat
 | i,0=>i
 | i,t+1=>DZ n (qu n i) t
theorem fI (n:Nat):∀t i,(fJ n i t).length=t
 | 0,_=>rfl
 | t+1,i=>by rw[fJ,Kj,fI n t]
structure Ring (L:aZ N2)(n:Nat)(d:Nat->Int):Prop where
 len:L.length=n
 lo:2<=n
 hi:n<=4
 at_:∀k<n,L[k]? =some (eh ((k+1) % n),eh k,-d k)
theorem Fh {n k:Nat}(a:2<=n)(b:n<=4)(c:k<n):qu n ((k+1) % n)=k:=by
 have key:∀n≤4,2<=n->∀k<n,qu n ((k+1) % n)=k:=by decide
 exact key _ b a _ c
theorem FG {n i:Nat}(a:2<=n)(b:n<=4)(c:i<n):(qu n i+1) % n=i/\qu n i<n:=by
 have key:∀n≤4,2<=n->∀i<n,(qu n i+1) % n=i/\qu n i<n:=by decide
 exact key _ b a _ c
theorem Il {n i t:Nat}(a:2<=n)(b:n<=4)(c:i<n)(e:t<=n)(f:1<=t)(g:i=DZ n i t):t=n:=by
 have key:((J7 5).all λn=>(J7 n).all λi=>(J7 5).all λt=>decide (n<2)||decide (n<t)||decide (t<1)|| !decide (i=DZ n i t)||decide (t=n))=true:=by decide+kernel
 have h:=Ks.mp (Ks.mp (Ks.mp key n (Kq.mpr (by omega))) i (Kq.mpr c)) t (Kq.mpr (by omega))
 rw[decide_eq_false (show ¬n<2 by omega),decide_eq_false (show ¬n<t by omega),decide_eq_false (show ¬t<1 by omega),decide_eq_true g]at h
 simpa using h
section
variable {L:aZ N2}{n:Nat}{d:Nat->Int}
theorem Ring.ch (h:Ring L n d):∀{q:List Nat} {i:Nat} {w:N2},i<n->Ch L (eh i) q w->q=fJ n i q.length/\w=eh (DZ n i q.length)
 | [],i,w,hi,c=>by
  have:eh i=w:=c
  exact⟨rfl,this.symm⟩
 | k::r,i,w,hi,c=>by
  obtain⟨v,m,e,c⟩:=c
  have hk:k<n:=by rw[<-h.len];exact(Km.mp e).1
  have a:=h.at_ k hk;rw[e]at a
  have a:=KO a
  have a1:=rk (congrArg (·.1) a)
  have a2:v=eh k:=congrArg (·.2.1) a
  have pk_:qu n i=k:=by rw[a1];exact Fh h.lo h.hi hk
  subst a2;obtain⟨g1,g2⟩:=h.ch hk c;refine⟨?_,?_⟩
  ·rw[Kj,fJ,pk_,<-g1]
  ·rw[Kj,DZ,pk_];exact g2
theorem Ring.wk (h:Ring L n d):∀(t:Nat) {i:Nat},i<n->Ch L (eh i) (fJ n i t) (eh (DZ n i t))
 | 0,i,hi=>rfl
 | t+1,i,hi=>by
  obtain⟨e,l⟩:=FG h.lo h.hi hi
  have a:=h.at_ _ l;rw[e]at a;exact⟨_,_,a,h.wk t l⟩
theorem Ring.sr (h:Ring L n d){q:List Nat}(s:Sr L q):∃i<n,q=fJ n i n:=by
 obtain⟨v,c⟩:=s.ch
 have hl:=(jU s).1;rw[h.len]at hl
 have hne:=s.ne
 cases q with
 | nil=>exact absurd rfl hne
 | cons k r=>
  have c':=c;obtain⟨v',m,e,_⟩:=c'
  have hk:k<n:=by rw[<-h.len];exact(Km.mp e).1
  have a:=h.at_ k hk;rw[e]at a
  have av:v=eh ((k+1) % n):=congrArg (·.1) (KO a)
  have hi:(k+1) % n<n:=RV _ (by have:=h.lo;omega)
  rw[av]at c;obtain⟨g1,g2⟩:=h.ch hi c
  have g3:=rk g2
  have tn:=Il h.lo h.hi hi hl (by simp) g3
  refine⟨_,hi,?_⟩
  rw[tn]at g1;exact g1
def f7 (n:Nat)(d:Nat->Int):Int:=match n with
 | 0=>0
 | n+1=>f7 n d+d n
theorem Ring.most (h:Ring L n d){k:Nat}(hk:k<n):most L k= -d k:=by unfold Gr.most;rw[h.at_ k hk]
theorem Ring.cost (h:Ring L n d){i:Nat}(hi:i<n):cost L (fJ n i n)= -f7 n d:=by
 have m:=λk (hk:k<n)=>h.most hk
 have h1:=h.lo
 have h2:=h.hi
 match n,h1,h2 with
 | 2,_,_=>
  have m0:=m 0 (by omega);have m1:=m 1 (by omega)
  match i,hi with
  | 0,_=>simp[fJ,qu,Gr.cost,f7,m0,m1];omega
  | 1,_=>simp[fJ,qu,Gr.cost,f7,m0,m1];omega
 | 3,_,_=>
  have m0:=m 0 (by omega);have m1:=m 1 (by omega);have m2:=m 2 (by omega)
  match i,hi with
  | 0,_=>simp[fJ,qu,Gr.cost,f7,m0,m1,m2];omega
  | 1,_=>simp[fJ,qu,Gr.cost,f7,m0,m1,m2];omega
  | 2,_=>simp[fJ,qu,Gr.cost,f7,m0,m1,m2];omega
 | 4,_,_=>
  have m0:=m 0 (by omega);have m1:=m 1 (by omega);have m2:=m 2 (by omega);have m3:=m 3 (by omega)
  match i,hi with
  | 0,_=>simp[fJ,qu,Gr.cost,f7,m0,m1,m2,m3];omega
  | 1,_=>simp[fJ,qu,Gr.cost,f7,m0,m1,m2,m3];omega
  | 2,_=>simp[fJ,qu,Gr.cost,f7,m0,m1,m2,m3];omega
  | 3,_=>simp[fJ,qu,Gr.cost,f7,m0,m1,m2,m3];omega
theorem Ring.JC (h:Ring L n d){o:Option (List Nat)}(t:Tight L o):∃i<n,o=some (fJ n i n):=by
 cases o with
 | none=>
  have h0:(0:Nat)<n:=by have:=h.lo;omega
  have key:∀n≤4,2<=n->DZ n 0 n=0:=by decide
  have c:=h.wk n h0;rw[key n h.hi h.lo]at c
  exact absurd ⟨fJ n 0 n,eh 0,λz=>by have:=congrArg LV z;rw[fI]at this;simp at this;omega,c,rfl,fI n n 0⟩ (t _ _)
 | some q=>
  obtain⟨i,hi,e⟩:=h.sr t.1;exact⟨i,hi,by rw[e]⟩
theorem Ring.neg (h:Ring L n d){o:Option (List Nat)}(t:Tight L o):dO L↔f7 n d<=0:=by
 obtain⟨i,hi,rfl⟩:=h.JC t;rw[t.neg]
 constructor
 ·intro g;have:=g _ rfl;rw[h.cost hi]at this;omega
 ·intro g q e;cases e;rw[h.cost hi];omega
end
def Bw (x:Int):T:=.tup [.int 1,.int 1,.tup [.int x]]
def cD (n:Nat)(X:Nat->Int):List T:=(J7 n).map λk=>Bw (X k)
def cE (n:Nat)(d:Nat->Int):List T:=(J7 n).map λk=>z7 (eh k) (eh ((k+1) % n)) (d k)
theorem GC {x:Int}(h0:0<=x)(h1:x<=99):br (Bw x)=true:=by
 unfold br Bw mw cA d3 nums aP sk;simp[nums,sk,h0,h1]
theorem rC (X:Nat->Int):∀(l:List Nat) (i:Nat),bC i (l.map λk=>Bw (X k))= []
 | [],i=>rfl
 | k::l,i=>by
  show xB i (Bw (X k))++bC (i+1) (l.map λk=>Bw (X k))= []
  rw[rC X l (i+1),LJ]
  rfl
theorem qX (n:Nat)(d:Nat->Int):∀l:List Nat,(l.map λk=>z7 (eh k) (eh ((k+1) % n)) (d k)).flatMap lB=l.map λk=>eB (eh ((k+1) % n),eh k,-d k)
 | [] =>rfl
 | k::l=>by
  rw[Ke,NY,qX n d l]
  rfl
theorem tN (X:Nat->Int):∀(l:List Nat) (i:Nat),jF i (l.map λk=>Bw (X k))=(J7 l.length).map λk=>en (eh (i+k))
 | [],i=>rfl
 | k::l,i=>by
  have:jF i ((k::l).map λk=>Bw (X k))=en (eh i)::jF (i+1) (l.map λk=>Bw (X k)):=rfl
  rw[this,tN X l (i+1),Kj,Mk,Ke,KB,Nat.add_zero]
  congr 1
  exact KA λj _=>by show en (eh (i+1+j))=en (eh (i+(j+1)));rw[Nat.add_assoc,Qh 1 j]
theorem GA {n:Nat}{X:Nat->Int}(h1:1<=n)(h4:n<=4)(hX:∀k,0<=X k/\X k<=99):bR (.tup (cD n X))=true:=by
 show(d3 (.tup (cD n X)) 1 4&&(cD n X).all br)=true
 rw[J9,Ks];refine⟨?_,λt ht=> ?_⟩
 ·unfold d3 cD;simp;omega
 ·obtain⟨k,_,rfl⟩:=Ku.mp ht
  exact GC (hX k).1 (hX k).2
theorem DN (n:Nat)(X:Nat->Int):(T.tup (cD n X)).pl=true:=by
 rw[jv];exact ib λt ht=>by obtain⟨k,_,rfl⟩:=Ku.mp ht;rfl
section
variable {n:Nat}{X d:Nat->Int}
theorem B3 (h1:2<=n)(h4:n<=4)(hX:∀k,0<=X k/\X k<=99)(hd:∀k,0<=d k/\d k<=5):∃L,Rd (cD n X) (cE n d) L ((J7 n).map eh)/\Ring L n d:=by
 have g0:Good (cD n X) []:=⟨GA (by omega) h4 hX,λt ht=>(by cases ht),by simp,qv (DN n X) rfl⟩
 obtain⟨L0,P,R0⟩:=oO g0
 have eP:P.map en=((J7 n).map eh).map en:=by
  rw[<-R0.e]
  have:=tN X (J7 n) 0;rw[Ld]at this;unfold cD;rw[this,KB];exact KA λk _=>by show en (eh (0+k))=en (eh k);rw[NB]
 have inj:∀{a b:List N2},a.map en=b.map en->a=b:=by
  intro a
  induction a with
  | nil=>intro b h;cases b with | nil=>rfl | cons x b=>cases h
  | cons x a ih=>
   intro b h
   cases b with
   | nil=>cases h
   | cons y b=>
    rw[Ke,Ke]at h;obtain⟨e1,e2⟩:=Re h;rw[nC e1,ih e2]
 obtain rfl:=inj eP
 have inP:∀k,k<n->eh k∈(J7 n).map eh:=λk hk=>Ku.mpr ⟨k,Kq.mpr hk,rfl⟩
 have hlt:∀k,(k+1) % n<n:=λk=>RV _ (by omega)
 have ne_:∀k,k<n->eh k≠eh ((k+1) % n):=λk hk z=>by
  have:=rk z
  have key:∀n≤4,2<=n->∀k<n,k≠(k+1) % n:=by decide
  exact key n h4 h1 k hk this
 have gl:∀u∈cE n d,bQ (cD n X) u=true/\u.pl=true:=λu hu=>by
  obtain⟨k,hk,rfl⟩:=Ku.mp hu
  have hk:=Kq.mp hk;exact⟨R0.JX (inP k hk) (inP _ (hlt k)) (ne_ k hk) (hd k).1 (by have:=(hd k).2;omega),rfl⟩
 have g:Good (cD n X) (cE n d):=⟨g0.c,λt ht=>(gl t ht).1,by unfold cE;simp;omega,qv (DN n X) (by rw[jv];exact ib λt ht=>(gl t ht).2)⟩
 have R:=R0.to g;refine⟨_,R,?_⟩
 have eb:yB (cD n X) (cE n d)=((J7 n).map λk=>(eh ((k+1) % n),eh k,-d k)).map eB:=by
  unfold yB cD cE;rw[rC,qX,M5,KB];rfl
 have eL_:lim (cD n X) (cE n d)=(J7 n).map λk=>(eh ((k+1) % n),eh k,-d k):=by
  unfold lim;rw[eb,KB];exact(KA λx _=>show deB (eB x)=x by obtain⟨a,b,m⟩:=x;rfl).trans (PC _)
 refine⟨by rw[eL_];simp,h1,h4,λk hk=> ?_⟩
 rw[eL_,Kv,Mh hk];rfl
end
def Bp (n i k:Nat):Nat:=(k+n - (i+1)) % n
theorem BQ {n i k:Nat}(a:2<=n)(b:n<=4)(c:i<n)(e:k<n)(f:k≠i):Bp n i ((k+1) % n)=Bp n i k+1/\(i+1+Bp n i k) % n=k:=by
 have key:((J7 5).all λn=>(J7 n).all λi=>(J7 n).all λk=>decide (n<2)||decide (k=i)||(decide (Bp n i ((k+1) % n)=Bp n i k+1)&&decide ((i+1+Bp n i k) % n=k)))=true:=by decide+kernel
 have h:=Ks.mp (Ks.mp (Ks.mp key n (Kq.mpr (by omega))) i (Kq.mpr c)) k (Kq.mpr e)
 rw[decide_eq_false (show ¬n<2 by omega),decide_eq_false f,Mu,Mu,J9]at h
 exact⟨of_decide_eq_true h.1,of_decide_eq_true h.2⟩
def GO (n i:Nat)(d:Nat->Int):Nat->Int
 | 0=>0
 | s+1=>GO n i d s+d ((i+1+s) % n)
def IZ (n i:Nat)(d:Nat->Int)(v:N2):Int:=GO n i d (Bp n i v.c.toNat)
theorem uJ (n i:Nat)(d:Nat->Int)(k:Nat):IZ n i d (eh k)=GO n i d (Bp n i k):=by unfold IZ eh;simp
def mR (n i:Nat)(d:Nat->Int):aZ N2:=(rm n i).map λk=>(eh ((k+1) % n),eh k,-d k)
section
variable {n i:Nat}{X d:Nat->Int}
theorem oP (a:2<=n)(b:n<=4)(c:i<n):Holds (mR n i d) (IZ n i d):=λu v m hx=>by
 obtain⟨k,hk,e⟩:=Ku.mp hx;cases e
 have hk':=sj k hk
 have hki:k≠i:=by
  have:=(MD.mp hk).2
  simpa using this
 obtain⟨s1,s2⟩:=BQ a b c hk' hki;rw[uJ,uJ,s1,GO,s2];omega
theorem z0 (a:2<=n)(b:n<=4)(c:i<n):dO (mR n i d):=(oP a b c).Jw
theorem Bb:∀{q:List Nat} {v w:N2},Ch (mR n i d) v q w->Ch (mR n i λ_=>1) v q w/\cost (mR n i λ_=>1) q= -(q.length:Int)
 | [],v,w,h=>⟨h,by simp[cost]⟩
 | k::q,v,w,⟨c,m,e,h⟩=>by
  unfold mR at e;rw[Kv]at e
  obtain⟨x,ex,e⟩:=LR.mp e;cases e;obtain⟨g1,g2⟩:=Bb h
  have e1:(mR n i λ_=>1)[k]? =some (eh ((x+1) % n),eh x,-1):=by unfold mR;rw[Kv,ex];rfl
  refine⟨⟨_,_,e1,g1⟩,?_⟩
  rw[cost,g2];unfold most;rw[e1,Kj]
  show(-1:Int)+ -(q.length:Int)=_
  omega
theorem HV (a:2<=n)(b:n<=4)(c:i<n)(x:Int)(m:Nat):¬ Rnd (mR n i d) x m:=λ⟨q,v,h1,h2,h3,h4⟩=>by
 obtain⟨g1,g2⟩:=Bb h2
 have:=rnd_noNeg.mp (z0 (d:=λ_=>1) a b c) _ _ ⟨q,v,h1,g1,g2,rfl⟩
 have:=Nx.mpr h1;omega
theorem z6 (h4:n<=4):lim (cD n X) (pk (cE n d) (rm n i))=mR n i d:=by
 have e:pk (cE n d) (rm n i)=(rm n i).map λk=>z7 (eh k) (eh ((k+1) % n)) (d k):=by
  unfold pk;refine KA λk hk=> ?_
  have hk':=sj k hk;unfold cE;rw[KH,Kv,Mh hk'];rfl
 unfold lim yB cD;rw[e,rC,qX,M5,KB];unfold mR;refine KA λk _=>rfl
theorem il:(cE n d).length=n:=by unfold cE;simp
theorem uU (a:2<=n)(b:n<=4)(c:i<n):nn (cD n X) (cE n d) (rm n i)=true:=by
 rw[nn_iff,z6 b];exact z0 a b c
theorem oK {L:aZ N2}{P:List N2}(a:2<=n)(b:n<=4)(c:i<n)(R:Rd (cD n X) (cE n d) L P):aR [RR (cD n X) (gg (cE n d) i)] = .ok (.bl true)/\ij [RR (cD n X) (gg (cE n d) i)] = .ok .non/\Rd (cD n X) (gg (cE n d) i) (mR n i d) P:=by
 have eo:gg (cE n d) i=pk (cE n d) (rm n i):=by
  have:=pC T.non (cE n d) i;rw[il]at this;unfold pk rm;rw[this];unfold gg;rw[NW]
 have hl:∀k∈rm n i,k<(cE n d).length:=λk hk=>by rw[il];exact sj k hk
 have S:=R.sub (zy hl) (by unfold pk;rw[Kh];have:=ql n i;omega)
 rw[z6 b]at S;rw[eo];refine⟨?_,?_,S⟩
 ·have:=R.pkw hl (by have:=ql n i;omega)
  rw[uU a b c]at this;exact this
 ·obtain⟨o,_,t,e⟩:=S.room
  rw[e]
  cases o with
  | none=>rfl
  | some q=>exact absurd t.1.rnd (HV a b c _ _)
end
section
variable {n:Nat}{X d:Nat->Int}
theorem BR {k:Nat}(b:1<=n)(h:k<n):Bp n (n - 1) k=k:=by
 unfold Bp;rw[show k+n - (n - 1+1)=k by omega]
 exact P2 h
def dS (d:Nat->Int):Nat->Int
 | 0=>0
 | k+1=>dS d k+d k
theorem zq (b:1<=n):∀k,k<n->GO n (n - 1) d k=dS d k
 | 0,_=>rfl
 | k+1,h=>by
  rw[GO,dS,zq b k (by omega),show(n - 1+1+k) % n=k by rw[show n - 1+1+k=k+n by omega,Nat.add_mod_right];exact P2 (by omega)]
theorem vQ {k:Nat}(b:1<=n)(h:k<n):IZ n (n - 1) d (eh k)=dS d k:=by rw[uJ,BR b h,zq b k h]
theorem A5 (hd:∀k,0<=d k):∀{a b:Nat},a<=b->dS d a<=dS d b
 | a,0,h=>by rw[Nat.le_zero.mp h];omega
 | a,b+1,h=>by
  rcases MM a (b+1)with g | g
  ·have:=A5 hd (a:=a) (b:=b) (by omega)
   have:=hd b;rw[dS];omega
  ·rw[show a=b+1 by omega];omega
theorem uc (a:2<=n):∀(j k:Nat),k+j=n - 1->Wk (mR n (n - 1) d) (eh (n - 1)) (eh k) (dS d k - dS d (n - 1))
 | 0,k,h=>by
  rw[show k=n - 1 by omega,Int.sub_self]
  exact .nil _
 | j+1,k,h=>by
  have w:=uc a j (k+1) (by omega)
  have hm:(eh (k+1),eh k,-d k)∈mR n (n - 1) d:=by
   refine Ku.mpr ⟨k,MD.mpr ⟨Kq.mpr (by omega),by simp;omega⟩,?_⟩
   rw[P2 (show k+1<n by omega)]
  have:=w.app (Wk.one hm);rw[show dS d k - dS d (n - 1)=dS d (k+1) - dS d (n - 1)+ -d k by rw[dS];omega]
  exact this
theorem uH (a:2<=n)(b:n<=4)(hd:∀k,0<=d k){ls:List T}(S:Rd (cD n X) ls (mR n (n - 1) d) ((J7 n).map eh)):eR [RR (cD n X) ls] = .ok (.tup ((J7 n).map λk=> .int (dS d k - dS d (n - 1)))):=by
 rcases S.JK with⟨no,_⟩ | ⟨_,t,bb,st,tb,e⟩
 ·exact absurd (z0 a b (by omega)) no
 ·rw[e]
  unfold tmT;rw[KB]
  congr 2
  refine KA λk hk=> ?_
  have hk:=Kq.mp hk
  have inP:∀k,k<n->eh k∈(J7 n).map eh:=λk hk=>Ku.mpr ⟨k,Kq.mpr hk,rfl⟩
  show T.int (t (eh k))=_
  congr 1
  obtain⟨w,ew⟩:=tb _ (inP k hk);obtain⟨d1,w1,e1,l1⟩:=st.least _ (inP (n - 1) (by omega)) _ _ (uc (d:=d) a (n - 1 - k) k (by omega))
  rw[ew]at e1;cases e1;obtain⟨u,hu,c,ec,_⟩:=st.walk _ _ _ ew;obtain⟨j,hj,rfl⟩:=Ku.mp hu
  have hj:=Kq.mp hj
  have hh:=(oP (d:=d) a b (show n - 1<n by omega)).walk c.wk
  rw[ec,vQ (by omega) hk,vQ (by omega) hj]at hh
  have:=A5 (d:=d) hd (show j<=n - 1 by omega)
  omega
theorem BE:∀n≤4,2<=n->fJ n 0 n=(J7 n).reverse:=by decide
theorem yI:∀n≤4,2<=n->∀i<n,((fJ n i n).map λk:Nat=>(k:Int)).mergeSort tK=(J7 n).map λk:Nat=>(k:Int):=by
 intro n hn h2 i hi
 have key:((J7 5).all λn=>(J7 n).all λi=>decide (n<2)||(decide (((J7 n).map λk:Nat=>(k:Int)).Perm ((fJ n i n).map λk:Nat=>(k:Int)))&&decide (((J7 n).map λk:Nat=>(k:Int)).Pairwise λa b=>tK a b=true)))=true:=by decide+kernel
 have h:=Ks.mp (Ks.mp key n (Kq.mpr (by omega))) i (Kq.mpr hi)
 rw[decide_eq_false (show ¬n<2 by omega),Mu,J9]at h
 exact(iM (of_decide_eq_true h.1) (of_decide_eq_true h.2)).symm
theorem El:∀n≤4,2<=n->∀i<n,(Gu ((fJ n i n).map λk:Nat=>(k:Int))).mergeSort tK=(J7 n).map λk:Nat=>(k:Int):=by
 intro n hn h2 i hi
 have key:((J7 5).all λn=>(J7 n).all λi=>decide (n<2)||(decide (((J7 n).map λk:Nat=>(k:Int)).Perm (Gu ((fJ n i n).map λk:Nat=>(k:Int))))&&decide (((J7 n).map λk:Nat=>(k:Int)).Pairwise λa b=>tK a b=true)))=true:=by decide+kernel
 have h:=Ks.mp (Ks.mp key n (Kq.mpr (by omega))) i (Kq.mpr hi)
 rw[decide_eq_false (show ¬n<2 by omega),Mu,J9]at h
 exact(iM (of_decide_eq_true h.1) (of_decide_eq_true h.2)).symm
theorem Ek:∀n≤4,2<=n->∀i<n,∀k∈fJ n i n,k<n:=by decide
theorem Di {i:Nat}(a:2<=n)(b:n<=4)(c:i<n):vF [lN (fJ n i n)] = .ok (lN (J7 n)):=by
 show(match cM ((fJ n i n).map nI)with | some ns=>if ns.length<64 then Rs.ok (T.lst ((ns.mergeSort tK).map .int))else .bad | none=> .bad)=_
 rw[lI]
 show(if _ then _ else _)=_
 rw[if_pos (by rw[Kh,fI];omega),yI n b a i c,u4]
theorem Dh {i:Nat}(a:2<=n)(b:n<=4)(c:i<n):oH [lN (fJ n i n)] = .ok (lN (J7 n)):=by
 show(match cM ((fJ n i n).map nI)with | some ns=>if (decide (ns.length<=4)&&ns.all λn=>decide (0<=n)&&decide (n<100))=true then Rs.ok (T.lst (((Gu ns).mergeSort tK).map .int))else .bad | none=> .bad)=_
 rw[lI]
 show(if _ then _ else _)=_
 rw[if_pos ?_,El n b a i c,u4]
 rw[J9,Ks];refine⟨decide_eq_true (by rw[Kh,fI];omega),λx hx=> ?_⟩
 obtain⟨k,hk,rfl⟩:=Ku.mp hx
 have:=Ek n b a i c k hk;rw[J9];exact⟨decide_eq_true (by omega),decide_eq_true (by omega)⟩
end
def dv (p:Int):Nat->Int->Int->Int×Int
 | 0,u,b=>(u,b)
 | f+1,u,b=>if u % p=0/\b % p=0 then dv p f (u / p) (b / p)else(u,b)
abbrev wCC:En->Rs Bool:=(kN (tb (o2 jn (o2 dU (vr 8) (vr 9)) (cn (.int 0)))) (tb (o2 jn (o2 dU (vr 7) (vr 9)) (cn (.int 0)))))
abbrev wFF:En->Rs Fl:=(ay (cz (o2 eC (vr 8) (vr 9)) (gN 8)) (cz (o2 eC (vr 7) (vr 9)) (gN 7)))
theorem AR (a b:Int):jn (.int a) (.int b)= .ok (.bl (decide (a=b))):=by
 unfold jn;rw[if_pos (dg (by simp[T.dep]) rfl rfl)]
 show Rs.ok (T.bl (a == b))=_
 congr 2
section
variable {s0 s1 s2 s3 s4 s5 s6 s10 s11 s12 s13 s14 s15:Sl}
theorem w_c {b u p:Int}(hp:0<p):wCC [s0,s1,s2,s3,s4,s5,s6,.va (.int b),.va (.int u),.va (.int p),s10,s11,s12,s13,s14,s15] = .ok (decide (u % p=0)&&decide (b % p=0)):=
 DY (bO (aC (t:=.int (u % p)) (u:=.int 0) (aC (t:=.int u) (u:=.int p) rfl rfl (fz hp)) rfl (AR _ _))) λ_=>bO (aC (t:=.int (b % p)) (u:=.int 0) (aC (t:=.int b) (u:=.int p) rfl rfl (fz hp)) rfl (AR _ _))
theorem w_f {b u p:Int}(hp:0<p)(hp2:p<=4):wFF [s0,s1,s2,s3,s4,s5,s6,.va (.int b),.va (.int u),.va (.int p),s10,s11,s12,s13,s14,s15] = .ok (.nx [s0,s1,s2,s3,s4,s5,s6,.va (.int (b / p)),.va (.int (u / p)),.va (.int p),s10,s11,s12,s13,s14,s15]):=
 (aA (Z':=[s0,s1,s2,s3,s4,s5,s6,.va (.int b),.va (.int (u / p)),.va (.int p),s10,s11,s12,s13,s14,s15]) (bS (aC (t:=.int u) (u:=.int p) rfl rfl (fP hp (by omega))) rfl)).trans (bS (aC (t:=.int b) (u:=.int p) rfl rfl (fP hp (by omega))) rfl)
theorem vz {p:Int}(hp:0<p)(hp2:p<=4):∀(f g:Nat) (u b:Int),f<g->¬ ((dv p f u b).1 % p=0/\(dv p f u b).2 % p=0)->aU wCC wFF g [s0,s1,s2,s3,s4,s5,s6,.va (.int b),.va (.int u),.va (.int p),s10,s11,s12,s13,s14,s15] = .ok (.nx [s0,s1,s2,s3,s4,s5,s6,.va (.int (dv p f u b).2),.va (.int (dv p f u b).1),.va (.int p),s10,s11,s12,s13,s14,s15])
 | f,0,u,b,h,_=>by omega
 | 0,g+1,u,b,h,e=>by
  have c:=w_c (s0:=s0) (s1:=s1) (s2:=s2) (s3:=s3) (s4:=s4) (s5:=s5) (s6:=s6) (s10:=s10) (s11:=s11) (s12:=s12) (s13:=s13) (s14:=s14) (s15:=s15) (b:=b) (u:=u) hp
  have e':¬ (u % p=0/\b % p=0):=e;rw[show(decide (u % p=0)&&decide (b % p=0))=false by rw[Mw];by_cases z:u % p=0 <;> simp_all]at c
  exact gn c
 | f+1,g+1,u,b,h,e=>by
  have c:=w_c (s0:=s0) (s1:=s1) (s2:=s2) (s3:=s3) (s4:=s4) (s5:=s5) (s6:=s6) (s10:=s10) (s11:=s11) (s12:=s12) (s13:=s13) (s14:=s14) (s15:=s15) (b:=b) (u:=u) hp
  by_cases z:u % p=0/\b % p=0
  ·rw[decide_eq_true z.1,decide_eq_true z.2]at c
   have ed:dv p (f+1) u b=dv p f (u / p) (b / p):=by rw[dv,if_pos z]
   rw[ed]at e ⊢;exact(ip c (w_f hp hp2)).trans (vz hp hp2 f g (u / p) (b / p) (by omega) e)
  ·rw[show(decide (u % p=0)&&decide (b % p=0))=false by rw[Mw];by_cases y:u % p=0 <;> simp_all]at c
   rw[dv,if_neg z];exact gn c
end
def Bs (u b:Int):Int×Int:=
 let x:=dv 2 3 u b
 let y:=dv 3 3 x.1 x.2
 dv 4 3 y.1 y.2
theorem zg {S n:Nat}(hS:S<=20)(h2:2<=n)(hn:n<=4):(¬((dv 2 3 (0 - S) n).1 % 2=0/\(dv 2 3 (0 - S) n).2 % 2=0))/\(¬((dv 3 3 (dv 2 3 (0 - S) n).1 (dv 2 3 (0 - S) n).2).1 % 3=0/\(dv 3 3 (dv 2 3 (0 - S) n).1 (dv 2 3 (0 - S) n).2).2 % 3=0))/\(¬((Bs (0 - S) n).1 % 4=0/\(Bs (0 - S) n).2 % 4=0))/\(Bs (0 - S) n).1= -S / gm (-S) n/\(if S=0 then 1 else(Bs (0 - S) n).2)=n / gm (-S) n:=by
 have key:((J7 21).all λS=>(J7 5).all λn=>decide (n<2)||(!(decide ((dv 2 3 (0 - S) n).1 % 2=0)&&decide ((dv 2 3 (0 - S) n).2 % 2=0))&&(!(decide ((dv 3 3 (dv 2 3 (0 - S) n).1 (dv 2 3 (0 - S) n).2).1 % 3=0)&&decide ((dv 3 3 (dv 2 3 (0 - S) n).1 (dv 2 3 (0 - S) n).2).2 % 3=0))&&(!(decide ((Bs (0 - S) n).1 % 4=0)&&decide ((Bs (0 - S) n).2 % 4=0))&&(decide ((Bs (0 - S) n).1= -S / gm (-S) n)&&decide ((if S=0 then 1 else(Bs (0 - S) n).2)=n / gm (-S) n))))))=true:=by decide+kernel
 have h:=Ks.mp (Ks.mp key S (Kq.mpr (by omega))) n (Kq.mpr (by omega))
 rw[decide_eq_false (show ¬n<2 by omega),Mu]at h
 simp only[J9,Pn,Mw,decide_eq_false_iff_not,decide_eq_true_eq]at h;obtain⟨h1,h2,h3,h4,h5⟩:=h;exact⟨λz=>h1.elim (λy=>y z.1) λy=>y z.2,λz=>h2.elim (λy=>y z.1) λy=>y z.2,λz=>h3.elim (λy=>y z.1) λy=>y z.2,h4,h5⟩
theorem yW (d:Nat->Int):∀n,((J7 n).map d).sum=f7 n d
 | 0=>rfl
 | n+1=>by
  rw[MI,LM,List.sum_append,yW d n,f7];simp
theorem vC {d:Nat->Int}(hd:∀k,0<=d k/\d k<=5):∀n:Nat,0<=f7 n d/\f7 n d<=5*n
 | 0=>by simp[f7]
 | n+1=>by have:=vC hd n;have:=hd n;rw[f7];omega
theorem mM:∀l:List Int,cM (l.map .int)=some l
 | [] =>rfl
 | k::l=>by
  show(cM (l.map .int)).map (k:: ·)=_
  rw[mM l];rfl
abbrev ER (ns:List Int)(n:Nat)(cs:List T)(d:Nat->Int)(ls:List T)(S:Int)(s7 s8 s9 s10 s11 s12 s13 s14 s15:Sl):En:=[.va (.scr ns),.va (.int (n:Nat)),.va (.tup cs),.va (.lst ((J7 n).map λk=> .int (d k))),.va (.tup ls),.va (RR cs ls),.va (.int S),s7,s8,s9,s10,s11,s12,s13,s14,s15]
abbrev V9:En->Rs Fl:=(aU (kN (tb (o2 jn (o2 dU (vr 8) (vr 9)) (cn (.int 0)))) (tb (o2 jn (o2 dU (vr 7) (vr 9)) (cn (.int 0))))) (ay (cz (o2 eC (vr 8) (vr 9)) (gN 8)) (cz (o2 eC (vr 7) (vr 9)) (gN 7))) FU)
abbrev V14:En->Rs Fl:=(ay (cz (cl bH (ae (vr 5) (ae (vr 11) ai))) (gN 12)) (eG (ki (cp (tb (cl aR (ae (vr 12) ai)))) (tb (o2 jh (cl ij (ae (vr 12) ai)) (cn .non)))) (aG (cn (.bl false))) sN))
abbrev V17:En->Rs Fl:=(lp 14 (o2 bD (ln 14 (o2 aO (vr 14) (o1 jb (cn (.int 1))))) (vr 15)))
section
variable {ns:List Int}{n:Nat}{X d:Nat->Int}{cs ls:List T}{S:Int}
theorem f9 {SN:Nat}(hS:SN<=20)(h2:2<=n)(h4:n<=4)(s9 s10 s11 s12 s13 s14 s15:Sl):bh (gN 9) V9 [.int 2,.int 3,.int 4] (ER ns n cs d ls S (.va (.int n)) (.va (.int (0 - SN))) s9 s10 s11 s12 s13 s14 s15)= .ok (.nx (ER ns n cs d ls S (.va (.int (Bs (0 - SN) n).2)) (.va (.int (Bs (0 - SN) n).1)) (.va (.int 4)) s10 s11 s12 s13 s14 s15)):=by
 obtain⟨a1,a2,a3,_⟩:=zg hS h2 h4;rw[fB rfl (vz (by decide) (by decide) 3 FU (0 - SN) n (by decide+kernel) a1)]
 rw[fB rfl (vz (by decide) (by decide) 3 FU _ _ (by decide+kernel) a2)]
 rw[fB rfl (vz (by decide) (by decide) 3 FU _ _ (by decide+kernel) a3)]
 rfl
theorem tR:∀k,(J7 (k+1)).map (λj=>T.int (dS d j))≠ []:=λk h=>by
 have:=congrArg LV h
 simp at this
theorem f17 (h2:2<=n)(h4:n<=4)(s7 s8 s9 s10 s11 s12 s13:Sl):∀(m k:Nat) (s15:Sl),k+m=n - 1->∃t15,bh (gN 15) V17 ((J7 m).map λj=>T.int (d (k+j))) (ER ns n cs d ls S s7 s8 s9 s10 s11 s12 s13 (.ow (.lst ((J7 (k+1)).map λj=>T.int (dS d j)))) s15)= .ok (.nx (ER ns n cs d ls S s7 s8 s9 s10 s11 s12 s13 (.ow (.lst ((J7 n).map λj=>T.int (dS d j)))) t15))
 | 0,k,s15,h=>⟨s15,by rw[show k+1=n by omega];rfl⟩
 | m+1,k,s15,h=>by
  have e:(J7 (m+1)).map (λj=>T.int (d (k+j)))=T.int (d k)::(J7 m).map (λj=>T.int (d (k+1+j))):=by
   rw[Mk,Ke,KB,Nat.add_zero]
   congr 1
   exact KA λj _=>by show T.int (d (k+(j+1)))=_;rw[show k+(j+1)=k+1+j by omega]
  obtain⟨t15,ih⟩:=f17 h2 h4 s7 s8 s9 s10 s11 s12 s13 m (k+1) (.va (.int (d k))) (by omega)
  refine⟨t15,?_⟩
  rw[e]
  have la:((J7 (k+1)).map λj=>T.int (dS d j)).getLast (tR k)= .int (dS d k):=by
   simp[MI]
  have st:V17 (ER ns n cs d ls S s7 s8 s9 s10 s11 s12 s13 (.ow (.lst ((J7 (k+1)).map λj=>T.int (dS d j)))) (.va (.int (d k))))= .ok (.nx (ER ns n cs d ls S s7 s8 s9 s10 s11 s12 s13 (.ow (.lst ((J7 (k+1+1)).map λj=>T.int (dS d j)))) (.va (.int (d k))))):=by
   have hl:ln 14 (o2 aO (vr 14) (o1 jb (cn (.int 1)))) (ER ns n cs d ls S s7 s8 s9 s10 s11 s12 s13 (.ow (.lst ((J7 (k+1)).map λj=>T.int (dS d j)))) (.va (.int (d k))))= .ok (.int (dS d k)):=by
    show((o2 aO (vr 14) (o1 jb (cn (.int 1)))) (ER ns n cs d ls S s7 s8 s9 s10 s11 s12 s13 (.va (.lst ((J7 (k+1)).map λj=>T.int (dS d j)))) (.va (.int (d k)))) >>= λt=>if t.nk _=true then Rs.ok t else .bad)=_
    rw[aC (t:=.lst ((J7 (k+1)).map λj=>T.int (dS d j))) (u:=.int (-1)) (x:=.ok (.int (dS d k))) rfl rfl (by rw[Aw _ (tR k),la])]
    rfl
   have:=wu (i:=14) (t:=.int (dS d k+d k)) (l:=(J7 (k+1)).map λj=>T.int (dS d j)) (aC (t:=.int (dS d k)) (u:=.int (d k)) (fb:=vr 15) hl rfl (show bD (.int (dS d k)) (.int (d k))= .ok (.int (dS d k+d k))from rfl)) rfl (by simp;omega)
   refine this.trans ?_
   have e2:(J7 (k+1+1)).map (λj=>T.int (dS d j))=(J7 (k+1)).map (λj=>T.int (dS d j))++ [T.int (dS d k+d k)]:=by
    rw[MI,LM];rfl
   rw[e2];rfl
  rw[fB rfl st];exact ih
end
theorem AZ {f:En->Rs T}{Z:En}{n:Nat}(h:f Z= .ok (.int (n:Nat)))(hn:n<=8):lR (ae f ai) Z= .ok (lN (J7 n)):=by
 unfold lR;rw[au h rfl,aF]
 show(if (nu (n:Nat)&&decide (((n:Nat):Int).toNat<=1000))=true then Rs.ok (T.lst (rng 0 (n:Nat)))else .bad)=_
 rw[if_pos (by rw[J9];exact⟨rh (by omega),decide_eq_true (by omega)⟩),lF]
 rfl
theorem Dl {f:En->Rs T}{Z:En}{n:Nat}(h:f Z= .ok (.int (n:Nat)))(hn:n<=8):iR (ae f ai) Z= .ok ((J7 n).map nI):=by
 unfold iR;rw[au h rfl,aF]
 show(if nu (n:Nat)=true then Rs.ok (rng 0 (n:Nat))else .bad)=_
 rw[if_pos (rh (by omega)),lF]
 rfl
section
variable {ns:List Int}{n:Nat}{X d:Nat->Int}{cs ls:List T}{S:Int}
theorem lc1 (hX:∀k:Nat,aX [.scr ns,.int ((1+k:Nat):Int),.int 100] = .ok (.int (X k)))(h4:n<=4){Z:En}(h1:vr 1 Z= .ok (.int (n:Nat)))(he:cb [none,some 0] Z= [.em,.va (.scr ns)]):(eO (iR (ae (vr 1) ai)) [none,some 0] (gN 0) bT (a9 (ae (cn (.int 1)) (ae (cn (.int 1)) (ae (a9 (ae (cl aX (ae (vr 1) (ae (o2 bD (cn (.int 1)) (vr 0)) (ae (cn (.int 100)) ai)))) ai)) ai))))) Z= .ok (.lst (cD n X)):=by
 have:=ly (fi:=iR (ae (vr 1) ai)) (src:=[none,some 0]) (fe:=(a9 (ae (cn (.int 1)) (ae (cn (.int 1)) (ae (a9 (ae (cl aX (ae (vr 1) (ae (o2 bD (cn (.int 1)) (vr 0)) (ae (cn (.int 100)) ai)))) ai)) ai))))) (ts:=(J7 n).map nI) (h:=λt=>Bw (X (gQ t))) (Z:=Z) (Dl h1 (by omega)) (aE (k:=4) (by simp;omega) (by omega)) (by simp) λt ht=>by
  obtain⟨k,hk,rfl⟩:=Ku.mp ht;rw[eA,he];exact cZ (au rfl (au rfl (au (cZ (au (aM (ts:=[.scr ns,.int ((1+k:Nat):Int),.int 100]) rfl (hX k)) rfl) (aE (k:=1) (by simp))) rfl))) (aE (k:=3) (by simp))
 rw[this,KB];rfl
theorem lc2 (hD:∀k:Nat,aX [.scr ns,.int ((10+k:Nat):Int),.int 6] = .ok (.int (d k)))(h4:n<=4){Z:En}(h1:vr 1 Z= .ok (.int (n:Nat)))(he:cb [none,some 0] Z= [.em,.va (.scr ns)]):(eO (iR (ae (vr 1) ai)) [none,some 0] (gN 0) bT (cl aX (ae (vr 1) (ae (o2 bD (cn (.int 10)) (vr 0)) (ae (cn (.int 6)) ai))))) Z= .ok (.lst ((J7 n).map λk=> .int (d k))):=by
 have:=ly (fi:=iR (ae (vr 1) ai)) (src:=[none,some 0]) (fe:=(cl aX (ae (vr 1) (ae (o2 bD (cn (.int 10)) (vr 0)) (ae (cn (.int 6)) ai))))) (ts:=(J7 n).map nI) (h:=λt=> .int (d (gQ t))) (Z:=Z) (Dl h1 (by omega)) (aE (k:=4) (by simp;omega) (by omega)) (by simp) λt ht=>by
  obtain⟨k,hk,rfl⟩:=Ku.mp ht;rw[eA,he];exact aM (ts:=[.scr ns,.int ((10+k:Nat):Int),.int 6]) rfl (hD k)
 rw[this,KB];rfl
theorem lc3 (h2:2<=n)(h4:n<=4){Z:En}(h1:vr 1 Z= .ok (.int (n:Nat)))(he:cb [none,some 1,some 3] Z= [.em,.va (.int (n:Nat)),.va (.lst ((J7 n).map λk=> .int (d k)))]):(eO (iR (ae (vr 1) ai)) [none,some 1,some 3] (gN 0) bT (a9 (ae (a9 (ae (vr 0) (ae (cn (.int 0)) ai))) (ae (a9 (ae (o2 dU (o2 bD (vr 0) (cn (.int 1))) (vr 1)) (ae (cn (.int 0)) ai))) (ae (o2 aO (vr 2) (vr 0)) (ae (cn .non) ai)))))) Z= .ok (.lst (cE n d)):=by
 have:=ly (fi:=iR (ae (vr 1) ai)) (src:=[none,some 1,some 3]) (fe:=(a9 (ae (a9 (ae (vr 0) (ae (cn (.int 0)) ai))) (ae (a9 (ae (o2 dU (o2 bD (vr 0) (cn (.int 1))) (vr 1)) (ae (cn (.int 0)) ai))) (ae (o2 aO (vr 2) (vr 0)) (ae (cn .non) ai)))))) (ts:=(J7 n).map nI) (h:=λt=>z7 (eh (gQ t)) (eh ((gQ t+1) % n)) (d (gQ t))) (Z:=Z) (Dl h1 (by omega)) (aE (k:=4) (by simp;omega) (by omega)) (by simp) λt ht=>by
  obtain⟨k,hk,rfl⟩:=Ku.mp ht
  have hk:=Kq.mp hk;rw[eA,he];exact cZ (au (cZ (au rfl (au rfl rfl)) (aE (k:=2) (by simp))) (au (cZ (au (aC (t:=.int ((k+1:Nat):Int)) (u:=.int (n:Nat)) rfl rfl (fz (by omega))) (au rfl rfl)) (aE (k:=2) (by simp))) (au (aC (t:=.lst ((J7 n).map λk=> .int (d k))) (u:=.int (k:Nat)) rfl rfl (rf (n:=k) (by rw[Kv,Mh hk];rfl))) (au rfl rfl)))) (aE (k:=4) (by simp))
 rw[this,KB];rfl
theorem Gk {L:aZ N2}{P:List N2}(R:Rd cs ls L P){q:List Nat}{a:N2}(hne:q≠ [])(h:Ch L a q a)(hl:q.length<=1000)(hc:cost L q<0):m4 [RR cs ls,.lst (eN q)] = .ok (.bl true):=by
 refine bo rfl ?_
 refine(aA (Z':=[.va (RR cs ls),.va (.lst (eN q)),.va (eL L)]) (bS (aM (ts:=[RR cs ls]) rfl R.bounds) rfl)).trans ?_
 refine bP ((nr (aM (ts:=[eL L,.lst (eN q)]) rfl (tQ hne h hl))).trans (aC (t:=.int (cost L q)) (u:=.int 0) (aM (ts:=[eL L,.lst (eN q)]) rfl (wH h.lt hl)) rfl ?_))
 show Rs.ok (T.bl (decide (cost L q<0)))=_
 rw[decide_eq_true hc]
theorem w14 {L:aZ N2}{P:List N2}(h2:2<=n)(h4:n<=4)(R:Rd (cD n X) (cE n d) L P){i:Nat}(hi:i<n)(s7 s8 s9 s10 s12 s13 s14 s15:Sl):∃t12,V14 (ER ns n (cD n X) d (cE n d) S s7 s8 s9 s10 (.va (nI i)) s12 s13 s14 s15)= .ok (.nx (ER ns n (cD n X) d (cE n d) S s7 s8 s9 s10 (.va (nI i)) t12 s13 s14 s15)):=by
 obtain⟨g1,g2,_⟩:=oK (X:=X) (d:=d) h2 h4 hi R;refine⟨.va (RR (cD n X) (gg (cE n d) i)),(aA (Z':=ER ns n (cD n X) d (cE n d) S s7 s8 s9 s10 (.va (nI i)) (.va (RR (cD n X) (gg (cE n d) i))) s13 s14 s15) (bS (aM (ts:=[RR (cD n X) (cE n d),nI i]) rfl (oQ R.g (by rw[il];exact hi))) rfl)).trans ?_⟩
 exact(df (nq (gp (k:=true) (bO (aM (ts:=[RR (cD n X) (gg (cE n d) i)]) rfl g1))) (bO (aC (t:=.non) (u:=.non) (aM (ts:=[RR (cD n X) (gg (cE n d) i)]) rfl g2) rfl rfl)))).trans rfl
theorem G7:∀n≤4,2<=n->(fq n)[1]? =some (J7 (n - 1))/\rm n (n - 1)=J7 (n - 1):=by decide
theorem Iw {SN n:Nat}(hS:SN<=20)(h2:2<=n)(hn:n<=4):(-(SN:Int))*((n:Int) / gm (-SN) n)<=(-(SN:Int)) / gm (-SN) n*n/\0<(n:Int) / gm (-SN) n:=by
 have key:((J7 21).all λS=>(J7 5).all λn=>decide (n<2)||(decide ((-(S:Int))*((n:Int) / gm (-S) n)<=(-(S:Int)) / gm (-S) n*n)&&decide (0<(n:Int) / gm (-S) n)))=true:=by decide+kernel
 have h:=Ks.mp (Ks.mp key SN (Kq.mpr (by omega))) n (Kq.mpr (by omega))
 rw[decide_eq_false (show ¬n<2 by omega),Mu,J9]at h
 exact⟨of_decide_eq_true h.1,of_decide_eq_true h.2⟩
end
theorem pure_law (ns:List Int)(hn:ns.length<=63):m_law [.scr ns] = .ok (.bl true):=by
 obtain⟨r,er,r0,r1⟩:=rl ns 0 3 hn (by omega)
 obtain⟨n,hn'⟩:∃n:Nat,(n:Int)=2+r:=⟨(2+r).toNat,by omega⟩
 have h2:2<=n:=by omega
 have h4:n<=4:=by omega
 obtain⟨X,hX⟩:=PN λk:Nat=>rl ns (1+k) 100 hn (by omega)
 obtain⟨d,hD⟩:=PN λk:Nat=>rl ns (10+k) 6 hn (by omega)
 have hX9:∀k,0<=X k/\X k<=99:=λk=>by have:=hX k;omega
 have hd5:∀k,0<=d k/\d k<=5:=λk=>by have:=hD k;omega
 obtain⟨L,R,G⟩:=B3 h2 h4 hX9 hd5
 have bd:=vC hd5 n;obtain⟨SN,hSN⟩:∃SN:Nat,(SN:Int)=f7 n d:=⟨(f7 n d).toNat,by omega⟩
 have hS:SN<=20:=by omega
 obtain⟨o,et,tt,em⟩:=R.room;obtain⟨i,hi,rfl⟩:=G.JC tt
 have hneg:=G.neg tt
 have hcost:=G.cost hi;rw[<-hSN]at hcost hneg;obtain⟨a0,ch0⟩:=tt.1.ch
 have hlen:(cE n d).length<=4:=by rw[il];exact h4
 have hw:=R.hw hlen
 have pr:=sC (cE n d);rw[il]at hw pr
 have b0:nn (cD n X) (cE n d) (J7 n)=decide ((SN:Int)=0):=by
  refine NI.mpr ?_
  rw[nn_iff,pr,R.Jy,hneg,decide_eq_true_iff];omega
 rw[b0]at hw;obtain⟨q1,q2,q3,q4,q5⟩:=zg hS h2 h4;obtain⟨f1,f2⟩:=Iw hS h2 h4
 have er_:ij [RR (cD n X) (cE n d)] = .ok (.tup [.int (-SN / gm (-SN) n),.int (n / gm (-SN) n)]):=by
  rw[em]
  show Rs.ok (T.tup [.int (cost L (fJ n i n) / gm (cost L (fJ n i n)) (fJ n i n).length),.int (((fJ n i n).length:Int) / gm (cost L (fJ n i n)) (fJ n i n).length)])=_
  rw[hcost,fI]
 have et':bp [RR (cD n X) (cE n d)] = .ok (lN (fJ n i n)):=et
 have neL:∀a,j7 (lN a) (lN a)= .ok (.bl false):=λa=>by rw[HQ,decide_eq_true rfl];rfl
 refine bo rfl ?_
 show Bo [.va (.scr ns),.em,.em,.em,.em,.em,.em,.em,.em,.em,.em,.em,.em,.em,.em,.em] =_
 unfold Bo;refine(aA (Z':=[.va (.scr ns),.va (.int (n:Nat)),.em,.em,.em,.em,.em,.em,.em,.em,.em,.em,.em,.em,.em,.em]) (bS (aC (t:=.int 2) (u:=.int r) rfl (aM (ts:=[.scr ns,.int 0,.int 3]) rfl er) (show bD (.int 2) (.int r)= .ok (.int (n:Nat))by show Rs.ok (T.int (2+r))=_;rw[hn'])) rfl)).trans ?_
 refine(aA (Z':=[.va (.scr ns),.va (.int (n:Nat)),.va (.tup (cD n X)),.em,.em,.em,.em,.em,.em,.em,.em,.em,.em,.em,.em,.em]) (bS (aM (ts:=[.lst (cD n X)]) (au (lc1 (λk=>(hX k).1) h4 rfl rfl) rfl) iJ) rfl)).trans ?_
 refine(aA (Z':=[.va (.scr ns),.va (.int (n:Nat)),.va (.tup (cD n X)),.va (.lst ((J7 n).map λk=> .int (d k))),.em,.em,.em,.em,.em,.em,.em,.em,.em,.em,.em,.em]) (bS (lc2 (λk=>(hD k).1) h4 rfl rfl) rfl)).trans ?_
 refine(aA (Z':=[.va (.scr ns),.va (.int (n:Nat)),.va (.tup (cD n X)),.va (.lst ((J7 n).map λk=> .int (d k))),.va (.tup (cE n d)),.em,.em,.em,.em,.em,.em,.em,.em,.em,.em,.em]) (bS (aM (ts:=[.lst (cE n d)]) (au (lc3 h2 h4 rfl rfl) rfl) iJ) rfl)).trans ?_
 refine(aA (Z':=[.va (.scr ns),.va (.int (n:Nat)),.va (.tup (cD n X)),.va (.lst ((J7 n).map λk=> .int (d k))),.va (.tup (cE n d)),.va (RR (cD n X) (cE n d)),.em,.em,.em,.em,.em,.em,.em,.em,.em,.em]) (bS (p2 rfl rfl) rfl)).trans ?_
 refine(aA (Z':=ER ns n (cD n X) d (cE n d) (SN:Nat) .em .em .em .em .em .em .em .em .em) (bS (aM (ts:=[.lst ((J7 n).map λk=> .int (d k))]) rfl (by
   show(match cM ((J7 n).map λk=>T.int (d k))with | some ns=>Rs.ok (T.int ns.sum) | none=> .bad)=_
   rw[show((J7 n).map λk=>T.int (d k))=((J7 n).map d).map .int by rw[KB];rfl,mM]
   show Rs.ok (T.int ((J7 n).map d).sum)=_
   rw[yW,hSN])) rfl)).trans ?_
 refine(aA (Z':=ER ns n (cD n X) d (cE n d) (SN:Nat) .em .em .em .em .em .em .em .em .em) ((df (bO (aC (t:=.bl (decide ((SN:Int)=0))) (u:=.bl (decide ((SN:Int)=0))) (aM (ts:=[RR (cD n X) (cE n d)]) rfl hw) (aC (t:=.int (SN:Nat)) (u:=.int 0) rfl rfl (AR _ _)) (vX rfl (by simp[T.dep]))))).trans rfl)).trans ?_
 refine(aA (Z':=ER ns n (cD n X) d (cE n d) (SN:Nat) (.va (.int (n:Nat))) .em .em .em .em .em .em .em .em) (bS rfl rfl)).trans ?_
 refine(aA (Z':=ER ns n (cD n X) d (cE n d) (SN:Nat) (.va (.int (n:Nat))) (.va (.int (0 - (SN:Nat)))) .em .em .em .em .em .em .em) (bS (aC (t:=.int 0) (u:=.int (SN:Nat)) rfl rfl rfl) rfl)).trans ?_
 refine(aA (jl (ts:=[.int 2,.int 3,.int 4]) (k_iS (cZ (au rfl (au rfl (au rfl rfl))) (aE (k:=3) (by simp)))) (f9 hS h2 h4 _ _ _ _ _ _ _))).trans ?_
 rw[q4]
 refine(aA (Z':=ER ns n (cD n X) d (cE n d) (SN:Nat) (.va (.int (n / gm (-SN) n))) (.va (.int (-SN / gm (-SN) n))) (.va (.int 4)) .em .em .em .em .em .em) (by
  rw[<-q5]
  by_cases z:SN=0
  ·rw[if_pos z]
   exact(gP (bO (aC (t:=.int (SN:Nat)) (u:=.int 0) rfl rfl (by rw[AR,decide_eq_true (by omega)])))).trans (bS rfl rfl)
  ·rw[if_neg z]
   exact(df (bO (aC (t:=.int (SN:Nat)) (u:=.int 0) rfl rfl (by rw[AR,decide_eq_false (by omega)])))).trans rfl)).trans ?_
 generalize hU:(-SN / gm (-SN) n:Int)=U at er_ f1 ⊢
 generalize hB:(n / gm (-SN) n:Int)=B at er_ f1 f2 ⊢
 refine(aA (Z':=ER ns n (cD n X) d (cE n d) (SN:Nat) (.va (.int B)) (.va (.int U)) (.va (.int 4)) .em .em .em .em .em .em) ((df (nq (bO (aC (t:=.tup [.int U,.int B]) (u:=.tup [.int U,.int B]) (aM (ts:=[RR (cD n X) (cE n d)]) rfl er_) (cZ (au rfl (au rfl rfl)) (aE (k:=2) (by simp))) (vX rfl (by simp[T.dep,deps])))) (bO (aC (t:=lN (J7 n)) (u:=lN (J7 n)) (aM (ts:=[lN (fJ n i n)]) (au (aM (ts:=[RR (cD n X) (cE n d)]) rfl et') rfl) (Di h2 h4 hi)) (AZ rfl (by omega)) (neL _))))).trans rfl)).trans ?_
 have sh:=R.JT tt.1.ne ch0 (by rw[fI];omega) (by rw[hcost];omega) (u:=U) (d:=B) f2
 rw[hcost,fI,decide_eq_true f1]at sh;refine(aA (Z':=ER ns n (cD n X) d (cE n d) (SN:Nat) (.va (.int B)) (.va (.int U)) (.va (.int 4)) .em .em .em .em .em .em) ((df (gp (k:=true) (bO (aM (ts:=[RR (cD n X) (cE n d),.tup [.int U,.int B],lN (fJ n i n)]) (au rfl (au (cZ (au rfl (au rfl rfl)) (aE (k:=2) (by simp))) (au (aM (ts:=[RR (cD n X) (cE n d)]) rfl et') rfl))) sh)))).trans rfl)).trans ?_
 obtain⟨t10,st13⟩:∃t10,(eG (tb (o2 Jd (vr 6) (cn (.int 0)))) (ay (cz (cl fg (ae (vr 5) ai)) (gN 10)) (ay (eG (ki (tb (o2 j7 (cl oH (ae (vr 10) ai)) (lR (ae (vr 1) ai)))) (cp (tb (cl m4 (ae (vr 5) (ae (o1 xw (lR (ae (vr 1) ai))) ai)))))) (aG (cn (.bl false))) sN) (eG (ki (tb (o2 j7 (cl fA (ae (vr 5) ai)) (lR (ae (vr 1) ai)))) (tb (o2 j7 (cl dz (ae (vr 5) ai)) (lR (ae (o2 dX (vr 1) (cn (.int 1))) ai))))) (aG (cn (.bl false))) sN))) sN) (ER ns n (cD n X) d (cE n d) (SN:Nat) (.va (.int B)) (.va (.int U)) (.va (.int 4)) .em .em .em .em .em .em)= .ok (.nx (ER ns n (cD n X) d (cE n d) (SN:Nat) (.va (.int B)) (.va (.int U)) (.va (.int 4)) t10 .em .em .em .em .em)):=by
  by_cases z:SN=0
  ·refine⟨.em,(df (bO (aC (t:=.int (SN:Nat)) (u:=.int 0) rfl rfl ?_))).trans rfl⟩
   show Rs.ok (T.bl (decide ((0:Int)<((SN:Nat):Int))))=_
   rw[decide_eq_false (by omega)]
  ·have nb:¬ dO L:=λy=>by have:=hneg.mp y;omega
   have b1:nn (cD n X) (cE n d) (J7 n)=false:=by rw[b0,decide_eq_false (by omega)]
   obtain⟨t,tc,eb⟩:=R.JH
   obtain⟨i',hi',rfl⟩:∃i',i'<n/\t=lN (fJ n i' n):=by
    rcases tc with⟨y,_⟩ | ⟨q,bq,rfl⟩
    ·exact absurd y nb
    ·obtain⟨i',hi',rfl⟩:=G.sr ⟨bq.1,bq.2.1,bq.2.2.2⟩
     exact⟨i',hi',rfl⟩
   have rv:fJ n 0 n=(J7 n).reverse:=BE n h4 h2
   have c0:=G.wk n (show 0<n by omega)
   have it0:∀n≤4,2<=n->DZ n 0 n=0:=by decide
   rw[it0 n h4 h2,rv]at c0
   have cst:=G.cost (show 0<n by omega)
   rw[rv,<-hSN]at cst
   have bars:=Gk R (q:=(J7 n).reverse) (λy=>by have:=congrArg LV y;simp at this;omega) c0 (by simp;omega) (by rw[cst];omega)
   have cu:=R.JY hlen
   have tl:told (cD n X) (cE n d)=J7 n:=by
    unfold told;rw[il,if_neg (by rw[b1];decide)]
    exact Q4.mpr λk hk=>uU h2 h4 (Kq.mp hk)
   rw[tl]at cu
   have mk:dz [RR (cD n X) (cE n d)] = .ok (lN (J7 (n - 1))):=by
    obtain⟨j,l,k1,k2,k3,k4⟩:=R.kept hlen;rw[il]at k1 k3;obtain⟨s1,s2⟩:=G7 n h4 h2
    match j,k1,k3 with
    | 0,k1,k3=>
     rw[G8 n h4]at k1;cases k1
     rw[b1]at k2;cases k2
    | 1,k1,k3=>
     rw[s1]at k1;cases k1
     exact k4
    | j+2,k1,k3=>
     have:=k3 1 (by omega) _ s1
     rw[<-s2,uU h2 h4 (by omega)]at this;cases this
   refine⟨.va (lN (fJ n i' n)),(gP (bO (aC (t:=.int (SN:Nat)) (u:=.int 0) rfl rfl (by
    show Rs.ok (T.bl (decide ((0:Int)<((SN:Nat):Int))))=_
    rw[decide_eq_true (by omega)])))).trans ?_⟩
   refine(aA (Z':=ER ns n (cD n X) d (cE n d) (SN:Nat) (.va (.int B)) (.va (.int U)) (.va (.int 4)) (.va (lN (fJ n i' n))) .em .em .em .em .em) (bS (aM (ts:=[RR (cD n X) (cE n d)]) rfl eb) rfl)).trans ?_
   refine(aA (Z':=ER ns n (cD n X) d (cE n d) (SN:Nat) (.va (.int B)) (.va (.int U)) (.va (.int 4)) (.va (lN (fJ n i' n))) .em .em .em .em .em) ((df (nq (bO (aC (t:=lN (J7 n)) (u:=lN (J7 n)) (aM (ts:=[lN (fJ n i' n)]) rfl (Dh h2 h4 hi')) (AZ rfl (by omega)) (neL _))) (gp (k:=true) (bO (aM (ts:=[RR (cD n X) (cE n d),.lst (eN (J7 n).reverse)]) (au rfl (au (F1 (t:=lN (J7 n)) (AZ rfl (by omega)) (show xw (lN (J7 n))= .ok (.lst (eN (J7 n).reverse))by show Rs.ok (T.lst ((J7 n).map nI).reverse)=_;rw[<-List.map_reverse];rfl)) rfl)) bars))))).trans rfl)).trans ?_
   exact(df (nq (bO (aC (t:=lN (J7 n)) (u:=lN (J7 n)) (aM (ts:=[RR (cD n X) (cE n d)]) rfl cu) (AZ rfl (by omega)) (neL _))) (bO (aC (t:=lN (J7 (n - 1))) (u:=lN (J7 (n - 1))) (aM (ts:=[RR (cD n X) (cE n d)]) rfl mk) (AZ (aC (t:=.int (n:Nat)) (u:=.int 1) rfl rfl (show dX (.int (n:Nat)) (.int 1)= .ok (.int ((n - 1:Nat):Int))by show Rs.ok (T.int ((n:Int) - 1))=_;congr 2;omega)) (by omega)) (neL _))))).trans rfl
 refine(aA st13).trans ?_
 obtain⟨Z14,lo14,c11,c12,rfl⟩:=xQ (g:=gN 11) (F:=V14) (λZ=> ∃c11 c12,Z=ER ns n (cD n X) d (cE n d) (SN:Nat) (.va (.int B)) (.va (.int U)) (.va (.int 4)) t10 c11 c12 .em .em .em) (ts:=(J7 n).map nI)
  (λu hu Z hh=>by
   obtain⟨c11,c12,rfl⟩:=hh;obtain⟨k,hk,rfl⟩:=Ku.mp hu;obtain⟨t12,st⟩:=w14 (ns:=ns) (S:=(SN:Nat)) h2 h4 R (Kq.mp hk) (.va (.int B)) (.va (.int U)) (.va (.int 4)) t10 c12 .em .em .em;exact⟨_,_,rfl,st,_,_,rfl⟩) (Z:=ER ns n (cD n X) d (cE n d) (SN:Nat) (.va (.int B)) (.va (.int U)) (.va (.int 4)) t10 .em .em .em .em .em) ⟨_,_,rfl⟩
 refine(aA (jl (Dl rfl (by omega)) lo14)).trans ?_
 obtain⟨_,_,Sl_⟩:=oK (X:=X) (d:=d) h2 h4 (show n - 1<n by omega) R
 have wo:=oQ R.g (n:=n - 1) (by rw[il];omega)
 refine(aA (Z':=ER ns n (cD n X) d (cE n d) (SN:Nat) (.va (.int B)) (.va (.int U)) (.va (.int 4)) t10 c11 c12 (.va (RR (cD n X) (gg (cE n d) (n - 1)))) .em .em) (bS (aM (ts:=[RR (cD n X) (cE n d),.int ((n - 1:Nat):Int)]) (au rfl (au (aC (t:=.int (n:Nat)) (u:=.int 1) rfl rfl (show dX (.int (n:Nat)) (.int 1)= .ok (.int ((n - 1:Nat):Int))by show Rs.ok (T.int ((n:Int) - 1))=_;congr 2;omega)) rfl)) wo) rfl)).trans ?_
 refine(aA (Z':=ER ns n (cD n X) d (cE n d) (SN:Nat) (.va (.int B)) (.va (.int U)) (.va (.int 4)) t10 c11 c12 (.va (RR (cD n X) (gg (cE n d) (n - 1)))) (.ow (.lst [.int 0])) .em) (u5 rfl (by simp) (by simp))).trans ?_
 obtain⟨t15,lo17⟩:=f17 (ns:=ns) (d:=d) (cs:=cD n X) (ls:=cE n d) (S:=(SN:Nat)) h2 h4 (.va (.int B)) (.va (.int U)) (.va (.int 4)) t10 c11 c12 (.va (RR (cD n X) (gg (cE n d) (n - 1)))) (n - 1) 0 .em (by omega)
 refine(aA (jl (ts:=(J7 (n - 1)).map λj=>T.int (d (0+j))) (gq ((DW (l:=(J7 n).map λk=>T.int (d k)) (lo:=none) (hi:=some ((n - 1:Nat):Int)) rfl rfl (C4 (aC (t:=.int (n:Nat)) (u:=.int 1) rfl rfl (show dX (.int (n:Nat)) (.int 1)= .ok (.int ((n - 1:Nat):Int))by show Rs.ok (T.int ((n:Int) - 1))=_;congr 2;omega)))).trans (by
   rw[tX,<-List.map_take]
   congr 2
   rw[show(J7 n).take (n - 1)=J7 (n - 1)by rw[List.take_range,SV (by omega)]]
   exact KA λj _=>by rw[NB]))) lo17)).trans ?_
 have ew:=uH h2 h4 (λk=>(hd5 k).1) Sl_
 have la:((J7 n).map λj=>T.int (dS d j))≠ []:=λy=>by have:=congrArg LV y;simp at this;omega
 have lg:((J7 n).map λj=>T.int (dS d j)).getLast la= .int (dS d (n - 1)):=by
  rw[PL];simp
 have el:ln 14 (cl fR (ae (eO (iS (vr 14)) [none,some 14] (gN 0) bT (o2 dX (vr 0) (o2 aO (vr 1) (o1 jb (cn (.int 1)))))) ai)) (ER ns n (cD n X) d (cE n d) (SN:Nat) (.va (.int B)) (.va (.int U)) (.va (.int 4)) t10 c11 c12 (.va (RR (cD n X) (gg (cE n d) (n - 1)))) (.ow (.lst ((J7 n).map λj=>T.int (dS d j)))) t15)= .ok (.tup ((J7 n).map λk=> .int (dS d k - dS d (n - 1)))):=by
  have lc:=ly (fi:=iS (vr 14)) (src:=[none,some 14]) (fe:=o2 dX (vr 0) (o2 aO (vr 1) (o1 jb (cn (.int 1))))) (ts:=(J7 n).map λj=>T.int (dS d j)) (h:=λt=>match t with | .int x=> .int (x - dS d (n - 1)) | t=>t) (Z:=ER ns n (cD n X) d (cE n d) (SN:Nat) (.va (.int B)) (.va (.int U)) (.va (.int 4)) t10 c11 c12 (.va (RR (cD n X) (gg (cE n d) (n - 1)))) (.va (.lst ((J7 n).map λj=>T.int (dS d j)))) t15) (gq rfl) (aE (k:=4) (by simp;omega) (by omega)) (by simp) λt ht=>by
   obtain⟨k,hk,rfl⟩:=Ku.mp ht;exact aC (t:=.int (dS d k)) (u:=.int (dS d (n - 1))) rfl (aC (t:=.lst ((J7 n).map λj=>T.int (dS d j))) (u:=.int (-1)) rfl rfl (by rw[Aw _ la,lg])) rfl
  rw[KB]at lc
  have nk_:nks false ((J7 n).map λk=>T.int (dS d k - dS d (n - 1)))=true:=zT λt ht=>by obtain⟨k,_,rfl⟩:=Ku.mp ht;rfl
  exact Ig rfl (aM (ts:=[.lst ((J7 n).map λk=> .int (dS d k - dS d (n - 1)))]) (au lc rfl) iJ) nk_
 exact bP (aC (t:=.tup ((J7 n).map λk=> .int (dS d k - dS d (n - 1)))) (u:=.tup ((J7 n).map λk=> .int (dS d k - dS d (n - 1)))) (aM (ts:=[RR (cD n X) (gg (cE n d) (n - 1))]) rfl ew) el (De (by rw[jv];exact ib λt ht=>by obtain⟨k,_,rfl⟩:=Ku.mp ht;rfl) (by
  unfold T.dep
  have:deps ((J7 n).map λk=>T.int (dS d k - dS d (n - 1)))<=0:=rn λt ht=>by obtain⟨k,_,rfl⟩:=Ku.mp ht;simp[T.dep]
  omega)))
end G
end
lay_quick G.lhs G.rhs
name_quick lhsz for G.lhs by G.lhs_r
name_quick rhsz for G.rhs by G.rhs_r
open PySem PySem.W PyProof.Rows
set_option maxRecDepth 100000 in
set_option maxHeartbeats 0 in
theorem G.JV (w : Lb) (os : OsState) : PySem.W.Fast.lhsz w (boot_heap w.params) boot_drawn boot_toks os = PySem.W.Fast.rhsz w := by kernel_rfl
set_option maxRecDepth 100000 in
set_option maxHeartbeats 0 in
theorem PySem.Challenge.cw_farclocks_k62_whole_rings_holds : PySem.Challenge.rw_farclocks_k62_whole_rings.Holds := by
  w_on; o_law
  refine holds_open (q := G.vw) (loose := G.lse) (Xt := λ_ => true) (XP := λ_ _ => True) (Yf := (Tr.hookX G.asks G.top).obs) (Ya := (Tr.hookX G.asks G.top).val) (YP := (Tr.hookX G.asks G.top).says) (N := 9000) (Tr.left_of (by rfl) (by rfl) (λ_ => rfl) λw os => ?hl) (Tr.hookX G.asks G.top).of (Tr.hookX G.asks G.top).keeps (λ_ _ => trivial) (λ_ _ _ _ _ => trivial) (by rfl) (by rfl) (by rfl) (λs _ => recFacts_of (s := s) rfl) (by rfl) (by assumption) (by decide +kernel) ⟨rfl, rfl, rfl, rfl, rfl, by decide +kernel⟩ ?hw ?hc
  case hl => exact ((congrFun (congrFun (congrFun (congrFun (congrFun PySem.W.Fast.lhsz_eq w) _) _) _) os).trans (G.JV w os)).trans (congrFun PySem.W.Fast.rhsz_eq w).symm
  case hw => w_witness2
  case hc => exact Tr.walk_x (n := 63) (k := 13) (x := "_law_script") (CX := L2.CX0) (sp := λK => Tr.spP K 1 G.m_law) rfl (by decide) rfl ⟨rfl, by decide, by decide⟩ (λw K mg fa h X e L b g hf => G.all_ok X e L b g hf) (λK H a ns hl _ hS => Tr.sp_script hS (G.pure_law ns hl)) λ_ _ _ _ z => z
