import PyProof.Rows.All
import Wide.All
import OpenK.AllK
import Wide.FinOn
import Lean
import PyProof.EqAt
import PyProof.EqKinds
import PyProof.TupleCall
import PyProof.ExcClass3
import PyProof.StationsW
import PyProof.ExcBaseAll.ValueError
import PyProof.ExcArgsOwn
import PyProof.IsiBase
import PyProof.IsiH_tuple
import PyProof.ExcAttrAll.ValueError
import PyProof.Rows.RuleN_isinstance
import PyProof.MeetsSeq
import PyProof.RulesAs
import PyProof.IsiH_list
import PyProof.AttrMiss
import KE.KDictOf
import PyProof.Rows.SumAny
import PyProof.Rows.MinMaxN
import PyProof.Rows.SortShellK
import PyProof.Rows.SortWalk
import PyProof.ZipIter
import PyProof.WalksMore
import PyProof.DictWalks
import PyProof.AutoSeq1
import PyProof.Rows.Range3
import PyProof.CollectWalk
import KE.KSortTup
import PyProof.EnumMake
import PyProof.ListRange
import PyProof.SetScanFacts
import PyProof.SetKind
import PyProof.DictKinds
import PyProof.FactsAll.set_0
import PyProof.FactsAll.set_1
import PyProof.FactsAll.set_2
import PyProof.FactsAll.set_3
import PyProof.FactsLen
import PyProof.TupleIter
import PyProof.Rows.SetFrom
import PyProof.Rows.SortShell
import KE.KLam
import PyProof.P3Eq
import PySem.Challenge.RW_farclocks_k52_whole_kept
noncomputable section
open PySem.Challenge renaming pw_farclocks_k52_whole_kept→IS,rw_farclocks_k52_whole_kept→MR
open PyProof.Rows.F renaming plain_set_update_loop→JR,entry_set_update_loop→KN
open PySem.AutoListH renaming list___mul___list_int_3→Of
open PyProof.Rows renaming slot_tuple_getitem→IJ,callWith_builtin1→Km,callWith_type1→IK,subscriptTail_builtinR→Ni,IntsAre→Qh,entry_tuple_getitem→N6,args_tuple_getitem→OA,KK_mirror_equal→JX,entry_list_sort→ND,get?_update_seq→NF,slot_list_sort→NW,listUpdate_at→M0,tupleItemsOf_→OB,subscriptTail→OC,wpS_forRange→LK,listItems_at→Pg,plain_sorted→Ph,entry_sorted→Pj,kind_sorted→Qb,size_push'→NK,wpS_modify→O6,setPending→O7,SortedToK→JA,pendingOf→KS,wpS_bind→IT,wpS_pure→JF,failedOf→LZ,SortKind→NJ,IntsAre→Jw,AllBare→Kk,NonIncK→N8,wpS_get→P7,SortSt→LI,Keyed→Qc,IsTup→Qg
open List renaming eraseIdx_eq_take_drop_succ→Lq,eq_nil_of_length_eq_zero→Kr,getD_eq_getElem?_getD→Ih,getElem?_append_right→KJ,nodup_iff_pairwise_ne→Mm,getElem?_eq_some_iff→HN,drop_eq_getElem_cons→Jo,getElem?_append_left→Ka,pairwise_iff_getElem→KQ,getElem?_eq_none_iff→Mw,getElem?_eq_getElem→HG,getElem?_cons_succ→Ko,getElem?_replicate→K8,pairwise_mergeSort→MT,filter_cons_of_pos→MW,getElem?_set_self→Io,drop_eq_nil_of_le→JY,range_succ_eq_map→Li,take_of_length_le→Lk,filter_eq_nil_iff→Ng,mem_append_right→Iz,length_singleton→Je,getElem?_eq_none→JI,take_append_drop→LG,singleton_append→Np,mem_cons_of_mem→HH,getElem?_set_ne→Im,mem_of_getElem?→IF,mem_append_left→LR,getElem?_of_mem→NO,mem_erase_of_ne→NP,getElem_of_mem→Jf,map_congr_left→Jq,replicate_succ→JC,filterMap_cons→KY,getElem?_range→NZ,mergeSort_perm→N0,drop_succ_cons→N4,mem_cons_self→HK,length_append→HP,mem_singleton→Ia,mem_filterMap→Mo,size_toArray→HU,getElem?_map→Ij,append_assoc→IX,length_range→Jr,flatten_cons→Kf,nodup_append→Ki,flatMap_cons→ML,take_sublist→OI,mapM_toArray→ON,drop_sublist→OR,getElem_drop→OS,ext_getElem?→OV,length_cons→HQ,all_eq_true→HX,lookup_cons→IH,not_mem_nil→II,getElem_mem→Jy,length_take→J1,length_drop→J2,getElem_map→LL,ext_getElem→LO,filter_cons→LP,any_eq_true→M5,mem_flatMap→M8,drop_length→Po,cons_append→Pq,length_map→HI,mem_append→IL,nodup_cons→IV,length_set→Jt,map_append→Ju,append_nil→JH,of_mem_zip→Kv,find?_cons→Ky,nil_append→K9,mem_filter→L6,range_succ→Mb,length_nil→Nr,filter_map→Ny,forIn_cons→PL,length_zip→PX,idxOf_cons→PY,replicate→Ib,mem_range→Ik,nodup_nil→Lw,map_cons→HE,mem_cons→HS,sum_cons→JQ,any_cons→Kn,all_cons→Oh,mem_map→Ic,map_map→Jg,toArray→LD,map_nil→Nn,all_map→Pb,length→Kw,lookup→KZ,map_id→PN,range→HD,Nodup→IZ,foldl→ME,Perm→KP,cons→PR,map→Py
open Array renaming eq_empty_of_size_eq_zero→LH,getD_eq_getD_getElem?→Jv,perm_iff_toList_perm→Ml,getElem?_eq_getElem→Kd,getElem?_eq_none→Kt,getElem?_toList→J7,length_toList→IB,find?_toList→Oe,forIn_toList→Ot,toList_push→MJ,toList→Nm
open Int renaming mul_le_mul_of_nonneg_left→LQ,eq_ofNat_of_zero_le→Iy,emod_lt_of_pos→Mt,toNat_natCast→IM,emod_eq_of_lt→OQ,emod_nonneg→Nx,le_refl→PZ
open PySem.F renaming args_tuple_iterator_next_1→LV,entry_tuple_iterator_next→L8,slot_tuple_iterator_next→J0,excBase_ValueError→Mj,slot_list_getattribute→Kh,args_tuple_add_2→K1,entry_tuple_add→K6,plainAttrs_list→K7,args_dict_get_2→MP,slot_tuple_add→Lf,entry_dict_get→Nc,args_list_eq_2→Nd,slot_dict_get→LC,entry_list_eq→Nl,slot_enumerate_next→Nq,slot_list_eq→NM,args_int_rmul_2→OJ,slot_tuple_rmul→OL,plain_list_iadd→OU,slot_tuple_mul→M4,slot_int_index→Pm,entry_int_rmul→Pn,slot_int_rmul→L7,fills_int_mul→PK,slot_set_iter→PU,plain_set_new→PV,called_set→KA
open PySem.Builtin.Slice renaming slicePartIndex→Pw,sliceApplied→Mg,slicePlaces→J8,sliceAdjust→KO
open PySem.Builtin.Frozenset renaming updateFrom→Px
open PySem.Builtin.List renaming listLengthHint→L3,listExtendWith→L4,listTooLong→Ke,listSameRef→MD
open PySem renaming wpAny_newFunctionEnv_cells→KL,wpAny_binaryOp_repeat_ref→My,wpAny_callSpecial?_slot→Jj,richCompare_meets_room→Ll,wpAny_pyNext_list_item→Nh,wpAny_Call_method_late→Nj,builtinLookup_eq_fast→KC,wpAny_pyNext_list_end→Nz,codeAny_call_function→NA,wpAny_loadName_local→NQ,codeAny_call_builtin→NR,mem_of_lookup→JV,wpAny_setEntries_of→Mf,wpAny_loadName_cell→N5,wpAny_Call_Name_kw→IR,wpAny_pyIter_tuple→Lc,tupleKind_room_in1→Ld,wpAny_List_spliced→Ox,wpAny_newObj_type→IQ,wpAny_truthy_bool→Ja,foldedSetIterable→Jk,wpAny_setState_of→KI,wpAny_pyIter_list→Ls,wpAny_assign_Name→OW,wpAny_sequenceKey→O0,wpAny_pyIter_enum→O5,wpAny_pyIter_slot→O8,wpAny_call_entry→Jh,wpAny_askSetting→KW,noFill_tuple_add→Na,wpAny_isInstance→Nb,seqSlot_of→Pp,wpAny_eqBool_int→Pt,wpAny_execs_cons→Pu,entryFor_of_tree→Pv,wpAny_loadPart'→Il,codeAny_builtin→Jx,letOwnedTupleGo→Lb,wpAny_execs_nil→Mc,typeLookup_type→Me,pushCells_keeps→NC,wpAny_passesOwn→P2,wpAny_specialOf→P6,importedModules→P8,wpAny_updateSeq→P9,codeAny_of_tree→Qa,wpAny_setField→Ly,isSubtype_type→Lz,firstArgMember→Mz,wpAny_seqItems→NV,wpAny_holding→Jp,attributeBase→JE,plainId_quiet→Kp,wpAny_attempt→LY,behindInMarks→MY,wpAny_newList→MZ,swapsWithSole→Ou,swappedStores→Ov,seq_tuple_add→Oy,bootBuiltins→Iq,wpAny_typeOf→KB,codeAny_mono→K5,concat_meets→Pf,mainGlobals→Ie,sizeLine_eq→IG,wpAny_field→K0,sliceBounds→Lu,excClassObj→Md,subscripted→N7,keywordEach→P3,wpAny_of_eq→P5,wpAny_bind→Hw,wpAny_pure→HF,assignEach→JD,wpAny_mono→J3,sysModules→KG,wpAny_rule→KH,builtinsNs→K4,call_meets→L0,typeIs_int→NH,closureFor→NI,wpAny_call→OZ,typeLookup→O4,compareOp→IW,swapsWith→JK,cellsFrom→Kl,Arguments→LJ,tupleKind→MM,codeAmong→MN,pushCells→NB,pickOrder→Qe,starEach→HY,binaryOp→JM,FuncData→JN,boot_len→JZ,NameKind→KF,GenState→PC,bindArgs→PD,Operator→Qd,Program→H0,BindsTo→OY,Keyword→P4,Shared→HB,Around→Iu,Paired→M9,IsPart→Oz,Value→HA,World→IP,Scope→Le
open PySem.Builtin.Tuple renaming tupleItemsOf→Mh,tupleIsExact→Mi,tupleExact→JL
open PySem.Calls renaming Name_function_global→Mk,call_function_entry→Mx,callWith_builtin→Lg,evalArgs_plain→KM,spliced_cons→J4,spliced_nil→JT
open PySem.Builtin.SmallTypes renaming nextOf→J9
open List.Perm renaming eq_of_pairwise→MC
open PySem.Builtin.Dict renaming updateFrom→MQ
open Classical renaming propDecidable→MX
open PySem.Heap renaming get?_push_of_some→HC,get?_update_other→Lh,get?_update_self→JJ,get?_push_size→HR,get?_update_ne→JW,get?_push_ne→MK,size_update→M7,NewAttrErr→PP,size_push→Kb,lt_size→HM,SameBut→K2,ExtBut→PM
open PySem.W renaming cellsFrom_some→Ks,hideAll_none→NL,hideAll_get→L1,of_hideAll→N9,callWith_K→Oa,codeRec_of→Ob,methodObj→MA,kitx_list→OD,kitx_dict→OE,plainGet→Pk,kia_one→Jn,instObj→Nk,hideAll→PF,keepIn→Lv,lookIn→NS,codeIn→NT,mg_of→Od,Frag→Hy,fnOf→LA,nsIn→LB
open Option renaming map_eq_some_iff→Lj,isSome_some→Og,getD_none→Pl,some→Jc
open PySem.SetTable renaming insertAt_perm→Nf,insertAt→MI,runEnd→Ma,below→HV,probe→NU,fill→Os,has→Nu
open PySem.Obj renaming isFreed_of_fields→LF,data_mapFields→J5,cls_mapFields→MF,mapSeq→IA
open Bool renaming and_eq_false_iff→Nv,and_eq_true_iff→JO,false_ne_true→Ig,false_eq_true→Jd,not_eq_true'→OP,and_eq_true→Hz,eq_iff_iff→Kg,or_eq_true→L9,true_and→LW,false_or→Oi
open PySem.Around renaming under_plainId→Jb,units→Ms
open Nat renaming le_sub_one_of_lt→LS,sub_one_lt_of_lt→LU,lt_of_lt_of_le→HJ,lt_of_le_of_lt→Ku,add_sub_cancel→Oj,eq_or_lt_of_le→Oo,eq_zero_or_pos→Oq,lt_succ_of_lt→IY,le_of_succ_le→Lo,lt_trichotomy→Lp,le_of_lt_succ→MH,lt_succ_self→KU,max_eq_right→LN,succ_le_succ→M6,mod_eq_of_lt→Pr,le_antisymm→PQ,lt_irrefl→Iw,ne_of_lt→HZ,le_trans→Ii,le_of_lt→Jl,ne_of_gt→Jm,lt_or_ge→J6,le_of_eq→K3,lt_trans→Mp,sub_zero→Mq,zero_add→Mr,sub_self→Nt,add_comm→O9,mul_comm→Pa,le_refl→HL,zero_le→IC,le_succ→Lr,sub_le→OM
open PySem.Value renaming notImplemented→NN,isInt→Ln,none→IE,bool→Ji,type→JB,ref→Iv,int→IU,str→JG
open PySem.Heap.SameBut renaming update→JU,refl→OF
open PyProof.Rows.KeyOrd renaming kle_antisymm→N1,kle_of_klt→MG,kle_trans→LM,kle_refl→Kz
open PySem.SeqAt.EqAt renaming int_int→Oc
open List.Pairwise renaming nil→MB
open PySem.SetTable.below renaming go→OG
open PySem.SetTable.probe renaming go→OH
open Option.some renaming inj→Ip
open ForInStep renaming yield→Kx
open List.range renaming loop→L5
open List.cons renaming injEq→PH
open PySem.Expr renaming Attribute→KR,Subscript→Lx,Constant→Ol,ListComp→On,Compare→Pc,UnaryOp→Pd,BoolOp→Kc,Name→Ir,Call→Jz
open PySem.NameKind renaming free→ID,cell→Js
open PySem.Paired renaming length→MS
open PySem.Str renaming ofString→HW
open PySem.pickOrder renaming go→Pe
open Prod.mk renaming inj→MO
open PySem.Scope renaming names→MU
open PySem.Stmt renaming Assign→MV
open PySem.Pos renaming endLine→N3,line→La
open False renaming elim→JS
open True renaming intro→KD
open PySem.BoolOp renaming And→NG,Or→Om
open PySem.Env renaming scope→Kj
open PyProof.Rows.IsTup renaming new→PJ
open Prod renaming snd→Pz,fst→PB,mk→OK
open Ne renaming symm→Mu
open Iff renaming rfl→Mv
open Sum renaming inl→NX,inr→NY
open Or renaming inr→JP,inl→Kq
set_option Elab.async false
set_option linter.all false
set_option maxRecDepth 100000
set_option maxHeartbeats 8000000
noncomputable section
abbrev iA (x:PySem.Str):Prop:=(x == PySem.Str.ofString "__debug__")=false
namespace L2
open PySem PySem.Spec PyProof.Rows
abbrev Key:=Sum Int Str
def nX:Key->HA->Bool
 | .inl k,v=>Ln k v
 | .inr x,v=>Value.isStrOf x v
def keyH (w:IP):Key->Int
 | .inl k=>hashInt k
 | .inr x=>hashStr w x
theorem bO:∀{k:Key} {v:HA},nX k v=true->(∃i t,k=NX i/\v=IU i t)\/(∃x t,k=NY x/\v=JG x t)
 | .inl i,v,h=>by
  obtain⟨t,e⟩:=Value.isInt_shape (k:=i) (v:=v) h
  exact .inl ⟨i,t,rfl,e⟩
 | .inr x,v,h=>by
  obtain⟨t,e⟩:=Value.isStrOf_shape (x:=x) (v:=v) h;exact .inr ⟨x,t,rfl,e⟩
theorem vQ (i:Int)(t:Tok):nX (.inl i) (.int i t)=true:=by simp[nX,Ln]
theorem vP (x:Str)(t:Tok):nX (.inr x) (.str x t)=true:=by simp[nX,Value.isStrOf]
theorem DP (a b:Int):decide ((NX a:Key)=NX b)=(a == b):=by
 by_cases e:a=b
 ·subst e;simp
 ·have h:¬ (NX a:Key)=NX b:=λq=>e (NX.inj q)
  rw[decide_eq_false h];exact(beq_eq_false_iff_ne.mpr e).symm
theorem DM (a b:Str):decide ((NY a:Key)=NY b)=decide (a=b):=by
 by_cases e:a=b
 ·subst e;simp
 ·have h:¬ (NY a:Key)=NY b:=λq=>e (NY.inj q)
  rw[decide_eq_false h,decide_eq_false e]
theorem DO (a:Int)(b:Str):decide ((NX a:Key)=NY b)=false:=decide_eq_false (λq=>nomatch q)
theorem DN (a:Str)(b:Int):decide ((NY a:Key)=NX b)=false:=decide_eq_false (λq=>nomatch q)
def bY (prog:H0)(w:IP):PySem.KeyKind prog w Key where
 is:=nX
 hash:=keyH w
 inj:=λv a b ha hb=>by
  rcases bO ha with⟨i,t,rfl,rfl⟩ | ⟨x,t,rfl,rfl⟩
  ·rcases bO hb with⟨j,u,rfl,e⟩ | ⟨y,u,rfl,e⟩
   ·injection e with e1 _;rw[e1]
   ·exact nomatch e
  ·rcases bO hb with⟨j,u,rfl,e⟩ | ⟨y,u,rfl,e⟩
   ·exact nomatch e
   ·injection e with e1 _;rw[e1]
 byValue:=λk v h=>by
  rcases bO h with⟨i,t,rfl,rfl⟩ | ⟨x,t,rfl,rfl⟩ <;> rfl
 pyHash:=λhv h=>by
  rcases bO hv with⟨i,t,rfl,rfl⟩ | ⟨x,t,rfl,rfl⟩
  ·exact wpAny_pyHash_int h
  ·exact wpAny_pyHash_str h
 eqBool:=λhu hv h=>by
  rcases bO hu with⟨i,t,rfl,rfl⟩ | ⟨x,t,rfl,rfl⟩
  ·rcases bO hv with⟨j,u,rfl,rfl⟩ | ⟨y,u,rfl,rfl⟩
   ·rw[DP]at h;exact Pt h
   ·rw[DO]at h;exact SeqAt.EqAt.int_str i t y u _ _ _ _ h
  ·rcases bO hv with⟨j,u,rfl,rfl⟩ | ⟨y,u,rfl,rfl⟩
   ·rw[DN]at h;exact SeqAt.EqAt.str_int x t j u _ _ _ _ h
   ·rw[DM]at h;exact wpAny_eqBool_str h
 «strs»:=λk x t v h=>by
  rcases bO h with⟨i,u,rfl,e⟩ | ⟨y,u,rfl,e⟩
  ·exact nomatch e
  ·injection e with e1 _
   subst e1;cases v <;> rfl
theorem rG (prog:H0)(w:IP)(i:Int)(t:Tok):(bY prog w).is (.inl i) (.int i t)=true:=vQ i t
theorem rF (prog:H0)(w:IP)(x:Str)(t:Tok):(bY prog w).is (.inr x) (.str x t)=true:=vP x t
inductive V where
 | non | bl (b:Bool) | int (i:Int) | str (x:Str) | byt (b:Array UInt8) | flt (b:UInt64) | ref (a:Addr) | ty (n:String)
 deriving DecidableEq
def RelV:V->HA->Prop
 | .non,u=>u=IE
 | .bl b,u=>u=Ji b
 | .int i,u=> ∃t,u=IU i t
 | .str x,u=> ∃t,u=JG x t
 | .byt b,u=> ∃t,u=Value.bytes b t
 | .flt b,u=> ∃t,u=Value.float b t
 | .ref a,u=>u=Iv a
 | .ty n,u=>u=JB n
abbrev Vals:List V->List HA->Prop:=M9 RelV
theorem Vals.length {xs:List V}{us:List HA}(r:Vals xs us):xs.length=us.length:=MS r
theorem Vals.get:∀{xs:List V} {us:List HA} {i:Nat} {x:V},Vals xs us->xs[i]? =some x->∃u,us[i]? =some u/\RelV x u
 | _,_,_,_,.nil,e=>by simp at e
 | _,_,0,_,.cons r _,e=>by simp at e;subst e;exact⟨_,rfl,r⟩
 | _,_,i+1,x,.cons _ t,e=>by
  obtain⟨u,h1,h2⟩:=Vals.get (i:=i) (x:=x) t (by simpa using e)
  exact⟨u,by simpa using h1,h2⟩
theorem Vals.append:∀{xs ys:List V} {us ws:List HA},Vals xs us->Vals ys ws->Vals (xs++ys) (us++ws)
 | _,_,_,_,.nil,s=>s
 | _,_,_,_,.cons r t,s=> .cons r (Vals.append t s)
theorem Vals.take:∀{xs:List V} {us:List HA} (n:Nat),Vals xs us->Vals (xs.take n) (us.take n)
 | _,_,0,_=> .nil
 | _,_,_+1,.nil=> .nil
 | _,_,n+1,.cons r t=> .cons r (Vals.take n t)
theorem Vals.drop:∀{xs:List V} {us:List HA} (n:Nat),Vals xs us->Vals (xs.drop n) (us.drop n)
 | _,_,0,r=>r
 | _,_,_+1,.nil=> .nil
 | _,_,n+1,.cons _ t=>Vals.drop n t
def RelO:Option V->Option HA->Prop
 | some v,some u=>RelV v u
 | none,none=>True
 | _,_=>False
def KV {κ:Type}:List (κ×V)->List (κ×HA)->Prop:=M9 λ(p:κ×V) (q:κ×HA)=>p.1=q.1/\RelV p.2 q.2
def kV:Key->V
 | .inl i=> .int i
 | .inr x=> .str x
inductive HO where
 /-- a list -/
 | lst (xs:List V)
 /-- a tuple (never changes) -/
 | tup (xs:List V)
 /-- a dict whose keys are ints and texts;one whose keys are tuples of ints and texts (the empty one is both) -/
 | dK (kvs:List (Key×V)) | dT (kvs:List (List Key×V))
 /-- a set of ints: its members,its size -/
 | set (S:Int->Bool) (n:Nat)
 /-- an instance of the class at C,its dict at dx,its attributes -/
 | ins (C dx:Addr) (fs:List (Str×V))
 /-- the dict of the instance at x -/
 | own (x:Addr)
 /-- the dict of an exception -/
 | xd (fs:List (Str×V))
 /-- a bound method,f of x -/
 | met (f x:Addr)
 /-- a range object lo,lo+1,.. below hi -/
 | rng (lo hi:Int)
 /-- a thing that is known to the object (the script;a dict while a loop walks it): read,never written while it is so -/
 | frz (o:Obj) (u:HO)
 /-- a code object's table -/
 | tbl (q:Str)
 /-- any other thing,by what is true of its one object (a def of one's own: SetO a S n:=HO.ext λh=> ..) -/
 | ext (φ:Heap->Prop)
abbrev Hp:=Addr->Option HO
def upd (H:Hp)(a:Addr)(o:HO):Hp:=λb=>if b=a then some o else H b
theorem aV {H:Hp}{a:Addr}{o:HO}:upd H a o a=some o:=by unfold upd;rw[if_pos rfl]
theorem aJ {H:Hp}{a b:Addr}{o:HO}(h:b≠a):upd H a o b=H b:=by unfold upd;rw[if_neg h]
theorem oK {H:Hp}{a:Addr}{o u:HO}:upd (upd H a o) a u=upd H a u:=by
 funext b;unfold upd;split <;> rfl
theorem rC {H:Hp}{a b:Addr}{o u:HO}(h:H a=some o)(h':H b=some u)(d:o≠u):a≠b:=by
 intro e;subst e;rw[h]at h';exact d (Ip h')
theorem bz {H:Hp}{a b:Addr}{o:HO}(h:H a=some o)(h':H b=none):a≠b:=by
 intro e;subst e;rw[h]at h';cases h'
section
variable (P:H0)(w:IP)
def ObjOk (H:Hp)(h:Heap)(a:Addr):HO->Prop
 | .lst xs=>xs.length<=sizeLine/\∃(its:List HA) (n:Nat),Vals xs its/\h.get? a=some { cls:=.type "list",data:=.seq its.toArray n }
 | .tup xs=>xs.length<=sizeLine/\∃its:List HA,Vals xs its/\Qg h a its.toArray
 | .dK kvs=>kvs.length<=sizeLine/\(a == KG)=false/\∃vs,KV kvs vs/\h.DictOf (bY P w) a vs
 | .dT kvs=>kvs.length<=sizeLine/\(a == KG)=false/\∃xs:List (List Key×Addr×HA),
   M9 (λ(p:List Key×V) (q:List Key×Addr×HA)=>p.1=q.1/\H q.2.1=some (.tup (p.1.map kV))/\RelV p.2 q.2.2) kvs xs ∧
   ∃o es ep,h.get? a=some o/\o.ExactDict/\o.data= .dict es ep/\es.toList=xs.map (entryOfKey (MM (bY P w)))/\(xs.map (·.1)).Nodup
 | .set S n=>h.SetOf (intKind P w) a S n
 | .ins C dx fs=>H dx=some (.own a)/\fs.length<=1000/\dx≠a/\h.get? a=some (Nk C dx) ∧
   ∃mA,h.Ns1 dx mA/\(∀f,RelO (fs.lookup f) (mA f))/\PySem.Within mA (fs.map (·.1))
 | .own _=> ∃o,h.get? a=some o
 | .xd fs=> ∃mA,h.Ns1 a mA/\∀f,RelO (fs.lookup f) (mA f)
 | .rng lo hi=> ∃t u v,h.get? a=some { cls:=.type "range",data:=.fields #[.int lo t,.int hi u,.int 1 v] }
 | .frz o u=>h.get? a=some o/\ObjOk H h a u
 | .tbl q=> ∃ps:Array HA,h.get? a=some { cls:=.none,data:=.fields ps }/\TriplesOk ps.toList/\∀pos v,MN pos ps.toList=some v->∃c oc vs t,v= .ref c/\H c=some (.own a)/\h.get? c=some oc/\oc.data= .fields vs/\vs[1]? =some (.str q t)
 | .met f x=>h.get? a=some (MA (.ref f) (.ref x))
 | .ext φ=>φ h/\(∃o,h.get? a=some o)/\∀h1 h2:Heap,φ h1->(∀o,h1.get? a=some o->h2.get? a=some o)->φ h2
def HOk (H:Hp)(h:Heap):Prop:=∀a o,H a=some o->ObjOk P w H h a o
end
section
variable {P:H0}{w:IP}{H H':Hp}{h h':Heap}{a:Addr}{o:HO}
theorem ObjOk.lt (x:ObjOk P w H h a o):a<h.objs.size:=by
 cases o with
 | lst xs=>obtain⟨_,_,_,_,e⟩:=x;exact HM e
 | tup xs=>obtain⟨_,_,_,p⟩:=x;exact p.lt
 | dK kvs=>obtain⟨_,_,_,_,o,_,_,e,_⟩:=x;exact HM e
 | dT kvs=>obtain⟨_,_,_,_,o,_,_,e,_⟩:=x;exact HM e
 | set S n=>obtain⟨o,_,_,_,e,_⟩:=x;exact HM e
 | ins C dx fs=>obtain⟨_,_,_,e,_⟩:=x;exact HM e
 | own y=>obtain⟨_,e⟩:=x;exact HM e
 | xd fs=>obtain⟨_,⟨_,_,_,e,_⟩,_⟩:=x;exact HM e
 | rng lo hi=>obtain⟨_,_,_,e⟩:=x;exact HM e
 | frz ob u=>obtain⟨e,_⟩:=x;exact HM e
 | tbl q=>obtain⟨_,e,_⟩:=x;exact HM e
 | met f y=>exact HM (show h.get? a=some _ from x)
 | ext φ=>obtain⟨_,⟨_,e⟩,_⟩:=x;exact HM e
theorem Paired.Ha {α β:Type}{F G:α->β->Prop}:∀{l₁:List α} {l₂:List β},M9 F l₁ l₂->(∀a b,F a b->G a b)->M9 G l₁ l₂
 | _,_,.nil,_=> .nil
 | _,_,.cons r t,f=> .cons (f _ _ r) (Paired.Ha t f)
theorem ObjOk.GT (x:ObjOk P w H h a o)(k:∀b u,(b=a\/H b=some (.own a))->h.get? b=some u->h'.get? b=some u)
  (ho:∀b,H b=some (.own a)->H' b=some (.own a)) (ht:∀b xs,H b=some (.tup xs)->H' b=some (.tup xs)):ObjOk P w H' h' a o:=by
 induction o with
 | lst xs=>obtain⟨z,its,n,r,e⟩:=x;exact⟨z,its,n,r,k _ _ (.inl rfl) e⟩
 | tup xs=>obtain⟨z,its,r,ob,e,c⟩:=x;exact⟨z,its,r,ob,k _ _ (.inl rfl) e,c⟩
 | dK kvs=>obtain⟨z,y,vs,r,ob,es,ep,e,c⟩:=x;exact⟨z,y,vs,r,ob,es,ep,k _ _ (.inl rfl) e,c⟩
 | dT kvs=>
  obtain⟨z,y,xs,r,ob,es,ep,e,c⟩:=x
  exact⟨z,y,xs,Paired.Ha r λp q z=>⟨z.1,ht _ _ z.2.1,z.2.2⟩,ob,es,ep,k _ _ (.inl rfl) e,c⟩
 | set S n=>obtain⟨ob,es,ep,t,e,c⟩:=x;exact⟨ob,es,ep,t,k _ _ (.inl rfl) e,c⟩
 | ins C dx fs=>
  obtain⟨d,z,ne,e,mA,⟨od,es,ep,e2,c⟩,r⟩:=x
  exact⟨ho _ d,z,ne,k _ _ (.inl rfl) e,mA,⟨od,es,ep,k _ _ (.inr d) e2,c⟩,r⟩
 | own y=>obtain⟨ob,e⟩:=x;exact⟨ob,k _ _ (.inl rfl) e⟩
 | xd fs=>obtain⟨mA,⟨od,es,ep,e,c⟩,r⟩:=x;exact⟨mA,⟨od,es,ep,k _ _ (.inl rfl) e,c⟩,r⟩
 | rng lo hi=>obtain⟨t,u,v,e⟩:=x;exact⟨t,u,v,k _ _ (.inl rfl) e⟩
 | frz ob u ih=>obtain⟨e,q⟩:=x;exact⟨k _ _ (.inl rfl) e,ih q⟩
 | tbl q=>
  obtain⟨ps,e,z,r⟩:=x
  exact⟨ps,k _ _ (.inl rfl) e,z,λpos v ev=>let ⟨c,oc,vs,t,a1,a2,a3,a4⟩:=r pos v ev;⟨c,oc,vs,t,a1,ho _ a2,k _ _ (.inr a2) a3,a4⟩⟩
 | met f y=>
  have e:h.get? a=some (MA (.ref f) (.ref y)):=x
  show h'.get? a=some (MA (.ref f) (.ref y))
  exact k a _ (.inl rfl) e
 | ext φ=>obtain⟨p,⟨o,e⟩,st⟩:=x;exact⟨st _ _ p λo q=>k _ _ (.inl rfl) q,⟨o,k _ _ (.inl rfl) e⟩,st⟩
theorem HOk.lt (x:HOk P w H h)(e:H a=some o):a<h.objs.size:=(x a o e).lt
theorem HOk.fresh (x:HOk P w H h)(e:h.objs.size<=a):H a=none:=by
 cases q:H a with
 | none=>rfl
 | some u=>exact absurd (HJ (x.lt q) e) (Iw _)
theorem HOk.kept (x:HOk P w H h)(k:∀b u,h.get? b=some u->h'.get? b=some u):HOk P w H h':=λa o e=>
 (x a o e).GT (λb u _ q=>k b u q) (λ_ q=>q) λ_ _ q=>q
theorem HOk.laid (x:HOk P w H h)(k:∀b u,h.get? b=some u->h'.get? b=some u)(hp:h.objs.size<=a)(new:ObjOk P w (upd H a o) h' a o):HOk P w (upd H a o) h':=λb u e=>by
 have hn:=x.fresh hp
 by_cases hb:b=a
 ·subst hb;rw[aV]at e;cases e;exact new
 ·rw[aJ hb]at e
  exact(x b u e).GT (λc v _ q=>k c v q) (λc q=>by rw[aJ (bz q hn)];exact q) λc xs q=>by rw[aJ (bz q hn)];exact q
end
def Rd (H:Hp)(a:Addr)(u:HO):Prop:=H a=some u\/∃o,H a=some (.frz o u)
theorem Rd.ok {P:H0}{w:IP}{H:Hp}{h:Heap}{a:Addr}{u:HO}(r:Rd H a u)(x:HOk P w H h):ObjOk P w H h a u:=by
 rcases r with r | ⟨o,r⟩
 ·exact x a u r
 ·obtain⟨_,q⟩:=x a _ r
  exact q
def Gn:Option HO->Prop
 | some (.lst _)=>True
 | some (.dK _)=>True
 | some (.dT _)=>True
 | some (.set _ _)=>True
 | some (.ins _ _ _)=>True
 | some (.ext _)=>True
 | _=>False
section
variable {P:H0}{w:IP}{H:Hp}{h h':Heap}{x e:Addr}{o':HO}
theorem HOk.write (ok:HOk P w H h)(mu:Gn (H x))(he:e=x\/H e=some (.own x))(k:∀b u,b≠e->h.get? b=some u->h'.get? b=some u)(heo:∃u,h'.get? e=some u)
  (new:ObjOk P w (upd H x o') h' x o'):HOk P w (upd H x o') h':=λb u q=>by
 have nown:∀c y,H c=some (.own y)->c≠x:=λc y r z=>by subst z;rw[r]at mu;exact mu
 have ntup:∀c xs,H c=some (.tup xs)->c≠x:=λc xs r z=>by subst z;rw[r]at mu;exact mu
 by_cases hb:b=x
 ·subst hb;rw[aV]at q;cases q;exact new
 ·rw[aJ hb]at q
  by_cases hbe:b=e
  ·have q':H b=some (.own x):=by
    rcases he with z | z
    ·exact absurd (hbe.trans z) hb
    ·rw[hbe];exact z
   rw[q]at q';cases q';obtain⟨v,hv⟩:=heo;exact⟨v,by rw[hbe];exact hv⟩
  ·refine(ok b u q).GT (λc v hc r=>k c v ?_ r) (λc r=>by rw[aJ (nown c b r)];exact r) λc xs r=>by rw[aJ (ntup c xs r)];exact r
   rcases hc with rfl | hc
   ·exact hbe
   ·rintro rfl
    rcases he with z | z
    ·exact nown c b hc z
    ·rw[hc]at z;cases z;exact hb rfl
end
structure Un (fs ex:List Addr)(H H':Hp)(h h':Heap):Prop where
 keep:∀b o,h.get? b=some o->H b=none->b∉fs->b∉ex->h'.get? b=some o
 slot:∀b o,h.get? b=some o->H b=none->b∈fs->b∉ex->∃sl,h'.get? b=some { o with slots:=sl }
 free:∀b o,h.get? b=some o->H b=none->b∉ex->H' b=none
 there:∀b o,h.get? b=some o->b∉ex->∃o',h'.get? b=some o'
 tups:∀b xs,H b=some (.tup xs)->H' b=some (.tup xs)
 frzs:∀b o u,H b=some (.frz o u)->H' b=some (.frz o u)
 tbls:∀b ps,H b=some (.tbl ps)->H' b=some (.tbl ps)
section
variable {fs fs' ex ex':List Addr}{H H1 H2:Hp}{h h1 h2 h':Heap}{a x e:Addr}{o:HO}
theorem Un.any (u:Un fs ex H H1 h h1){b:Addr}{ob:Obj}(q:h.get? b=some ob)(n:H b=none)(hx:b∉ex):∃sl,h1.get? b=some { ob with slots:=sl }:=by
 by_cases hb:b∈fs
 ·exact u.slot b ob q n hb hx
 ·exact⟨ob.slots,u.keep b ob q n hb hx⟩
theorem Un.kept (k:∀b u,h.get? b=some u->h'.get? b=some u):Un fs ex H H h h':=
 ⟨λb ob q _ _ _=>k b ob q,λb ob q _ _ _=>⟨ob.slots,k b ob q⟩,λ_ _ _ n _=>n,λb ob q _=>⟨ob,k b ob q⟩,λ_ _ q=>q,λ_ _ _ q=>q,λ_ ps q=>(by rw[q])⟩
theorem Un.refl:Un fs ex H H h h:=Un.kept λ_ _ q=>q
theorem Un.laid (k:∀b u,h.get? b=some u->h'.get? b=some u)(hp:h.objs.size<=a)(hn:H a=none):Un fs ex H (upd H a o) h h' where
 keep:=λb u q _ _ _=>k b u q
 slot:=λb u q _ _ _=>⟨u.slots,k b u q⟩
 free:=λb u q n _=>by rw[aJ (HZ (HJ (HM q) hp))];exact n
 there:=λb u q _=>⟨u,k b u q⟩
 tups:=λb xs q=>by rw[aJ (bz q hn)];exact q
 frzs:=λb u xs q=>by rw[aJ (bz q hn)];exact q
 tbls:=λb ps q=>(by rw[aJ (bz q hn),q])
theorem Un.write (mu:Gn (H x))(he:e=x\/H e=some (.own x))(k:∀b u,b≠e->h.get? b=some u->h'.get? b=some u)(heo:∃u,h'.get? e=some u):Un fs ex H (upd H x o) h h':=by
 have hx:∀b,H b=none->b≠x:=λb n z=>by subst z;rw[n]at mu;exact mu
 have hb:∀b,H b=none->b≠e:=λb n z=>by
  subst z;rcases he with r | r
  ·exact hx b n r
  ·rw[n]at r;cases r
 have hm:∀b u,H b=some u->¬ Gn (some u)->b≠x:=λb u q nm z=>by subst z;rw[q]at mu;exact nm mu
 refine⟨λb u q n _ _=>k b u (hb b n) q,λb u q n _ _=>⟨u.slots,k b u (hb b n) q⟩,λb u q n _=>by rw[aJ (hx b n)];exact n,λb u q _=> ?_,
  λb xs q=>by rw[aJ (hm b _ q λz=>z)];exact q,λb u xs q=>by rw[aJ (hm b _ q λz=>z)];exact q,λb ps q=>(by rw[aJ (hm b _ q λz=>z),q])⟩
 by_cases hbe:b=e
 ·subst hbe;exact heo
 ·exact⟨u,k b u hbe q⟩
end
def trk (h:Heap)(H:Hp):List Addr:=(HD h.objs.size).filter λa=>(H a).isSome
def qf (h:Heap)(H:Hp):Heap:=PF h (trk h H)
theorem vV (h:Heap)(H:Hp):(qf h H).objs.size=h.objs.size:=PySem.W.hideAll_size _ _
theorem y0 {h:Heap}{H:Hp}{b:Addr}{o:Obj}(e:h.get? b=some o)(n:H b=none):(qf h H).get? b=some o:=
 L1 _ e λhm=>by
  have q:(H b).isSome=true:=(L6.mp hm).2;rw[n]at q;simp at q
theorem Bb {h:Heap}{H:Hp}{b:Addr}{o:Obj}(e:(qf h H).get? b=some o):h.get? b=some o/\H b=none:=by
 have e':h.get? b=some o:=N9 (trk h H) e;refine⟨e',?_⟩
 cases q:H b with
 | none=>rfl
 | some x=>
  have hm:b∈trk h H:=L6.mpr ⟨Ik.mpr (HM e'),by simp[q]⟩
  have z:(qf h H).get? b=none:=NL (trk h H) hm;rw[z]at e;cases e
def BN (g h:Heap)(L:Addr):List (Addr×Obj):=(HD h.objs.size).filterMap λa=>if a=L\/(g.get? a).isSome=true then none else(h.get? a).map λo=>(a,o)
def cb (g h:Heap)(L d:Addr):List (Addr×Obj):=(BN g h L).filter λp=>decide (p.1≠d)
structure Mod (K:Hy)(mg:Str->Option HA)(base:Heap):Prop where
 kin:K.In base
 glob:base.Ns Ie mg
 blt:∃mb,base.Ns K4 mb/\∀x:Str,x≠ "__name__"->mb x=Iq x
 nolimit:base.NoLimit
structure Cx where
 prog:H0
 w:IP
 K:Hy
 mg:Str->Option HA
 base:Heap
 A:Iu
 N:List Str
 s₀:HB
 H₀:Hp
 env:Env
 outer:List Env
 stack:List Env
 ex:List Addr
 fn:Str->Bool
 calm:Bool
 pn:List (Addr×Obj)
 xe:HA->HB->Prop
def i7 (l:List Env):List Addr:=l.filterMap (·.frame)
abbrev Cx.fs (X:Cx):List Addr:=i7 X.outer
def wt (sc:Le)(x:Str):Prop:=sc.names.lookup x=some .local\/sc.names.lookup x=some .cell\/sc.names.lookup x=some .free
def Loc (sc:Le)(x:Str):Prop:=sc.names.lookup x=some .local\/sc.names.lookup x=some .cell
def Look (env:Env)(h:Heap)(m:Str->Option HA)(x:Str)(u:HA):Prop:=
 (env.kindOf x=some .local/\m x=some u)\/((env.kindOf x=some .cell\/env.kindOf x=some .free)/\∃c,env.cells.lookup x=some c/\h.IsCell c (some u))
def kF:Str:="most_kept" ++ ".<locals>." ++ "<lambda>"
def Tb (K:Hy)(mg:Str->Option HA)(H:Hp):Prop:=∀f o fd c oc vs P,mg "most_kept" =some (.ref f)->K.lookup f=some o->o.data= .func fd->fd.code= .ref c->K.lookup c=some oc->oc.data= .fields vs->vs[11]? =some (.ref P)->H P=some (.tbl kF)
structure Cx.Ok (X:Cx):Prop where
 mod:Mod X.K X.mg X.base
 kind:X.env.scope.kind= .function
 glob:X.env.globals=Ie
 blt:X.env.builtins=K4
 above:X.s₀.heap.objs.size<=X.env.locals
 inj:∀x y c,X.env.cells.lookup x=some c->X.env.cells.lookup y=some c->x=y
 has:∀x,(X.env.kindOf x=some .cell\/X.env.kindOf x=some .free)->∃c,X.env.cells.lookup x=some c
 cab:∀x c,X.fn x=true->X.env.cells.lookup x=some c->X.s₀.heap.objs.size<=c
 hd:X.calm=true->X.A.handled=none
 frames:X.A.frames=some X.stack
 stk:X.stack=X.outer\/(X.stack=X.env::X.outer/\X.env.frame=some X.env.locals)
 exf:∀b∈X.ex,b≠X.env.locals/\∀x c,X.env.cells.lookup x=some c->c≠b
 bs:∀b o,X.base.get? b=some o->X.s₀.heap.get? b=some o/\X.H₀ b=none
 bsz:X.base.objs.size<=X.s₀.heap.objs.size
 noex:∀b o,X.base.get? b=some o->b∉X.ex
 exfs:∀b∈X.ex,b∉X.fs
 funs:X.s₀.heap.FunFrames X.base X.outer
 frf:∀b∈X.fs,X.H₀ b=none
 tb:Tb X.K X.mg X.H₀
structure Inv (X:Cx)(pins:List (Addr×Obj))(σ:List (Option V))(H:Hp)(s:HB):Prop where
 ok:X.Ok
 os:s.os=X.s₀.os
 bare:Kk s.gens
 base:Un X.fs X.ex X.H₀ H X.s₀.heap s.heap
 loc:∃m,s.heap.Ns X.env.locals m/\∀(i:Nat) (x:Str) (v:V),X.N[i]? =some x->σ[i]? =some (some v)->wt X.env.scope x->∃u,RelV v u/\Look X.env s.heap m x u
 cell:∀x c,X.env.cells.lookup x=some c->∃v,s.heap.IsCell c v
 free:H X.env.locals=none
 freeC:∀x c,X.env.cells.lookup x=some c->H c=none
 pin:∀p∈X.pn++pins,s.heap.get? p.1=some p.2/\H p.1=none/\p.1≠X.env.locals/\p.1∉X.fs/\∀v,p.2.data≠ .cell v
 hok:HOk X.prog X.w H s.heap
 len:σ.length=X.N.length
section
variable {X:Cx}{pins:List (Addr×Obj)}{σ:List (Option V)}{H H':Hp}{s:HB}{h':Heap}
theorem Cx.Ok.Hs (ok:X.Ok){b:Addr}{o:Obj}(e:X.base.get? b=some o):b∉X.fs:=λhb=>by
 have:=(ok.funs.mem hb).1;rw[e]at this;cases this
theorem Inv.bs (I:Inv X pins σ H s):∀b o,X.base.get? b=some o->s.heap.get? b=some o/\H b=none:=λb o e=>
 ⟨I.base.keep b o (I.ok.bs b o e).1 (I.ok.bs b o e).2 (I.ok.Hs e) (I.ok.noex b o e),I.base.free b o (I.ok.bs b o e).1 (I.ok.bs b o e).2 (I.ok.noex b o e)⟩
theorem Inv.bk (I:Inv X pins σ H s):∀b o,X.base.get? b=some o->s.heap.get? b=some o:=λb o e=>(I.bs b o e).1
theorem Inv.mod (I:Inv X pins σ H s):Mod X.K X.mg X.base:=I.ok.mod
theorem Inv.tb (I:Inv X pins σ H s):Tb X.K X.mg H:=λf o fd c oc vs P a1 a2 a3 a4 a5 a6 a7=>I.base.tbls P _ (I.ok.tb f o fd c oc vs P a1 a2 a3 a4 a5 a6 a7)
theorem Inv.kIn (I:Inv X pins σ H s):X.K.In s.heap:=I.ok.mod.kin.keeps I.bk
theorem Inv.lt (I:Inv X pins σ H s):X.env.locals<s.heap.objs.size:=let ⟨_,hn,_⟩:=I.loc;hn.lt
theorem Inv.sz (I:Inv X pins σ H s):X.s₀.heap.objs.size<=s.heap.objs.size:=Ii I.ok.above (Jl I.lt)
theorem Inv.Hv (I:Inv X pins σ H s){a:Addr}(h:s.heap.objs.size<=a):a∉X.fs:=λhb=>by
 obtain⟨_,o,ho,_⟩:=I.ok.funs.mem hb;exact absurd (HJ (HM ho) (Ii I.sz h)) (Iw _)
theorem Inv.cne (I:Inv X pins σ H s):∀x c,X.env.cells.lookup x=some c->c≠X.env.locals:=λx c e z=>by
 obtain⟨v,o,ho,hd⟩:=I.cell x c e;obtain⟨m,⟨o',es,ep,ho',hd',_⟩,_⟩:=I.loc;rw[z,ho']at ho;cases ho;rw[hd']at hd;cases hd
theorem Inv.funs (I:Inv X pins σ H s):s.heap.FunFrames X.base X.outer:=by
 have all:∀(l:List Env),(∀b∈i7 l,b∈X.fs)->X.s₀.heap.FunFrames X.base l->s.heap.FunFrames X.base l:=by
  intro l
  induction l with
  | nil=>intro _ _;trivial
  | cons env r ih=>
   intro hs hl;obtain⟨hk,⟨L,o,hf,hn,ho,hd⟩,hr⟩:=hl
   have hL:L∈X.fs:=hs L (by unfold i7;rw[KY,hf];exact HK)
   obtain⟨sl,e⟩:=I.base.slot L o ho (I.ok.frf L hL) hL λz=>I.ok.exfs L z hL
   exact⟨hk,⟨L,_,hf,hn,e,hd⟩,ih (λb hb=>hs b (by unfold i7;rw[KY,hf];exact HH _ hb)) hr⟩
 exact all X.outer (λ_ hb=>hb) I.ok.funs
theorem Inv.stack (I:Inv X pins σ H s):s.heap.FunFrames X.base X.stack:=by
 rcases I.ok.stk with e | ⟨e,hf⟩
 ·rw[e];exact I.funs
 ·rw[e]
  obtain⟨m,hn,_⟩:=I.loc;refine .cons (by rw[I.ok.kind];decide) hf hn ?_ I.funs
  exact Heap.get?_none_of_le (Ii I.ok.bsz I.ok.above)
theorem Inv.GZ (I:Inv X pins σ H s):∀b∈i7 X.stack,b∈X.env.locals::X.fs:=λb hb=>by
 rcases I.ok.stk with e | ⟨e,hf⟩
 ·rw[e]at hb;exact HH _ hb
 ·rw[e]at hb
  unfold i7 at hb;rw[KY,hf]at hb;exact hb
theorem Inv.GN (I:Inv X pins σ H s):∀b∈i7 X.stack,H b=none:=λb hb=>by
 rcases HS.mp (I.GZ b hb)with e | hb
 ·rw[e];exact I.free
 ·obtain⟨_,o,ho,_⟩:=I.ok.funs.mem hb
  exact I.base.free b o ho (I.ok.frf b hb) λz=>I.ok.exfs b z hb
theorem Inv.step {g':Array PC}{t':Nat}{d':Drawn}{ch:List Addr}(I:Inv X pins σ H s)
  (hch:∀b∈ch,(b∈X.ex\/X.s₀.heap.objs.size<=b)/\b≠X.env.locals/\(∀x c,X.env.cells.lookup x=some c->c≠b)/\∀p∈X.pn++pins,p.1≠b)
  (keep:∀b o,b≠X.env.locals->b∉X.fs->b∉ch->s.heap.get? b=some o->H b=none->h'.get? b=some o)
  (slot:∀b o,b≠X.env.locals->b∈X.fs->b∉ch->s.heap.get? b=some o->H b=none->∃sl,h'.get? b=some { o with slots:=sl }) (free:∀b o,b∉ch->s.heap.get? b=some o->H b=none->H' b=none)
  (there:∀b o,b∉ch->s.heap.get? b=some o->∃o',h'.get? b=some o')
  (tups:∀b xs,H b=some (.tup xs)->H' b=some (.tup xs)) (frzs:∀b o u,H b=some (.frz o u)->H' b=some (.frz o u)) (tbls:∀b ps,H b=some (.tbl ps)->H' b=some (.tbl ps))
  (ns:∀m,s.heap.Ns X.env.locals m->h'.Ns X.env.locals m) (hok:HOk X.prog X.w H' h') (hg:Kk g') :
  Inv X pins σ H' { s with heap:=h',gens:=g',drawn:=d',toks:=t' }:=by
 have neL:∀b o,X.s₀.heap.get? b=some o->b≠X.env.locals:=λb o e=>HZ (HJ (HM e) I.ok.above)
 have neC:∀b o,X.s₀.heap.get? b=some o->b∉X.ex->b∉ch:=λb o e hx hb=>by
  rcases(hch b hb).1 with z | z
  ·exact hx z
  ·exact absurd (HJ (HM e) z) (Iw _)
 have cellK:∀x c,X.env.cells.lookup x=some c->∀v,s.heap.IsCell c v->h'.IsCell c v:=λx c e v hh_=>by
  obtain⟨o,ho,hd⟩:=hh_
  have nch:c∉ch:=λz=>(hch c z).2.2.1 x c e rfl
  by_cases hc:c∈X.fs
  ·obtain⟨sl,q⟩:=slot c o (I.cne x c e) hc nch ho (I.freeC x c e)
   exact⟨_,q,hd⟩
  ·exact⟨o,keep c o (I.cne x c e) hc nch ho (I.freeC x c e),hd⟩
 refine⟨I.ok,I.os,hg,⟨λb o e n hb hx=> ?_,λb o e n hb hx=> ?_,λb o e n hx=> ?_,λb o e hx=> ?_,λb xs e=>tups b xs (I.base.tups b xs e),λb o xs e=>frzs b o xs (I.base.frzs b o xs e),λb ps e=> ?_⟩,?_,λx c e=> ?_,?_,λx c e=> ?_,λp hp=> ?_,hok,I.len⟩
 ·exact keep b o (neL b o e) hb (neC b o e hx) (I.base.keep b o e n hb hx) (I.base.free b o e n hx)
 ·obtain⟨sl,e1⟩:=I.base.slot b o e n hb hx
  obtain⟨sl',e2⟩:=slot b _ (neL b o e) hb (neC b o e hx) e1 (I.base.free b o e n hx);exact⟨sl',e2⟩
 ·obtain⟨o',e1⟩:=I.base.there b o e hx
  exact free b o' (neC b o e hx) e1 (I.base.free b o e n hx)
 ·obtain⟨o',e1⟩:=I.base.there b o e hx
  exact there b o' (neC b o e hx) e1
 ·exact tbls b _ (I.base.tbls b ps e)
 ·obtain⟨m,hn,hl⟩:=I.loc
  refine⟨m,ns m hn,λi x v e1 e2 e3=> ?_⟩
  obtain⟨u,r,l⟩:=hl i x v e1 e2 e3;refine⟨u,r,?_⟩
  rcases l with l | ⟨k,c,e,z⟩
  ·exact .inl l
  ·exact .inr ⟨k,c,e,cellK x c e _ z⟩
 ·obtain⟨v,z⟩:=I.cell x c e
  exact⟨v,cellK x c e v z⟩
 ·obtain⟨m,⟨o,_,_,ho,_⟩,_⟩:=I.loc
  exact free _ o (λz=>(hch _ z).2.1 rfl) ho I.free
 ·obtain⟨v,o,ho,hd⟩:=I.cell x c e
  exact free c o (λz=>(hch c z).2.2.1 x c e rfl) ho (I.freeC x c e)
 ·obtain⟨e,n,ne,nf,d⟩:=I.pin p hp
  have nch:p.1∉ch:=λz=>(hch p.1 z).2.2.2 p hp rfl
  exact⟨keep p.1 p.2 ne nf nch e n,free p.1 p.2 nch e n,ne,nf,d⟩
theorem Inv.un {t':Nat}(I:Inv X pins σ H s)(u:Un X.fs [] H H' s.heap h')(hok:HOk X.prog X.w H' h'):Inv X pins σ H' { s with heap:=h',toks:=t' }:=by
 obtain⟨m,⟨o,es,ep,ho,r⟩,_⟩:=id I.loc;obtain⟨sl,hL⟩:=u.any ho I.free (by simp)
 exact I.step (g':=s.gens) (d':=s.drawn) (ch:=[]) (λ_ z=>nomatch z) (λb o _ hb _ e n=>u.keep b o e n hb (by simp)) (λb o _ hb _ e n=>u.slot b o e n hb (by simp)) (λb o _ e n=>u.free b o e n (by simp)) (λb o _ e=>u.there b o e (by simp)) u.tups u.frzs u.tbls (λm' hm=>by
  obtain⟨o',es',ep',ho',r'⟩:=hm;rw[ho]at ho';cases ho';exact⟨_,es',ep',hL,r'⟩) hok I.bare
theorem Inv.call {g':Array PC}{t':Nat}{d':Drawn}{ch:List Addr}(I:Inv X pins σ H s)(u:Un (i7 X.stack) ch H H' s.heap h')(hok:HOk X.prog X.w H' h')(hg:Kk g')
  (hch:∀b∈ch,(b∈X.ex\/X.s₀.heap.objs.size<=b)/\b≠X.env.locals/\(∀x c,X.env.cells.lookup x=some c->c≠b)/\∀p∈X.pn++pins,p.1≠b) :
  Inv X pins σ H' { s with heap:=h',gens:=g',drawn:=d',toks:=t' }:=by
 obtain⟨m,⟨o,es,ep,ho,r⟩,_⟩:=id I.loc;obtain⟨sl,hL⟩:=u.any ho I.free λz=>(hch _ z).2.1 rfl
 exact I.step (ch:=ch) hch (λb o hL hb hc e n=>u.keep b o e n (λz=>(HS.mp (I.GZ b z)).elim hL hb) hc) (λb o _ _ hc e n=>u.any e n hc) (λb o hc e n=>u.free b o e n hc) (λb o hc e=>u.there b o e hc) u.tups u.frzs u.tbls (λm' hm=>by
  obtain⟨o',es',ep',ho',r'⟩:=hm;rw[ho]at ho';cases ho';exact⟨_,es',ep',hL,r'⟩) hok hg
theorem Inv.turned {t':Nat}{it:Addr}(I:Inv X pins σ H s)(k:∀b o,b≠it->s.heap.get? b=some o->h'.get? b=some o)(hn:H it=none)(hL:it≠X.env.locals)
  (h1:it∈X.ex\/X.s₀.heap.objs.size<=it) (h2:∀x c,X.env.cells.lookup x=some c->c≠it) (h3:∀p∈X.pn++pins,p.1≠it):Inv X pins σ H { s with heap:=h',toks:=t' }:=by
 have nit:∀b u,H b=some u->b≠it:=λb u e z=>by rw[z,hn]at e;cases e
 refine I.step (g':=s.gens) (d':=s.drawn) (ch:=[it]) (λb hb=> ?_) (λb o _ _ hc e _=>k b o (λz=>hc (by simp[z])) e) (λb o _ _ hc e _=>⟨o.slots,k b o (λz=>hc (by simp[z])) e⟩) (λ_ _ _ _ n=>n)
  (λb o hc e=>⟨o,k b o (λz=>hc (by simp[z])) e⟩) (λ_ _ e=>e) (λ_ _ _ e=>e) (λb ps e=>(by rw[e])) (λm hm=> ?_) (λb u e=> ?_) I.bare
 ·have e:b=it:=by simpa using hb
  subst e;exact⟨h1,hL,h2,h3⟩
 ·obtain⟨o,es,ep,ho,r⟩:=hm
  exact⟨o,es,ep,k _ o (Mu hL) ho,r⟩
 ·refine(I.hok b u e).GT (λc v hc q=>k c v ?_ q) (λ_ q=>q) λ_ _ q=>q
  rcases hc with z | z
  ·rw[z];exact nit b u e
  ·exact nit c _ z
theorem Inv.tok (I:Inv X pins σ H s)(t:Nat):Inv X pins σ H { s with toks:=t }:=I.un (h':=s.heap) (t':=t) Un.refl I.hok
theorem Inv.kept {t':Nat}(I:Inv X pins σ H s)(k:∀b u,s.heap.get? b=some u->h'.get? b=some u):Inv X pins σ H { s with heap:=h',toks:=t' }:=I.un (Un.kept k) (I.hok.kept k)
theorem Inv.laid {a:Addr}{o:HO}{t':Nat}(I:Inv X pins σ H s)(k:∀b u,s.heap.get? b=some u->h'.get? b=some u)(hp:s.heap.objs.size<=a)(new:ObjOk X.prog X.w (upd H a o) h' a o) :
  Inv X pins σ (upd H a o) { s with heap:=h',toks:=t' }:=I.un (Un.laid k hp (I.hok.fresh hp)) (I.hok.laid k hp new)
theorem Inv.write {x e:Addr}{o:HO}{t':Nat}(I:Inv X pins σ H s)(mu:Gn (H x))(he:e=x\/H e=some (.own x))(k:∀b u,b≠e->s.heap.get? b=some u->h'.get? b=some u)(heo:∃u,h'.get? e=some u)
  (new:ObjOk X.prog X.w (upd H x o) h' x o):Inv X pins σ (upd H x o) { s with heap:=h',toks:=t' }:=I.un (Un.write mu he k heo) (I.hok.write mu he k heo new)
theorem Inv.G2 {pins':List (Addr×Obj)}(I:Inv X pins σ H s)(h:∀p∈pins',s.heap.get? p.1=some p.2/\H p.1=none/\p.1≠X.env.locals/\p.1∉X.fs/\∀v,p.2.data≠ .cell v):Inv X pins' σ H s:=
 ⟨I.ok,I.os,I.bare,I.base,I.loc,I.cell,I.free,I.freeC,λp hp=>(IL.mp hp).elim (λz=>I.pin p (LR _ z)) (h p),I.hok,I.len⟩
theorem rl {N:List Str}(hN:N.Nodup){i j:Nat}{x:Str}(a:N[i]? =some x)(b:N[j]? =some x):i=j:=by
 obtain⟨h1,e1⟩:=HN.mp a
 obtain⟨h2,e2⟩:=HN.mp b
 exact(List.getElem_inj hN).mp (e1.trans e2.symm)
theorem nB {M:Model}{A:Iu}{E:HA->HB->Prop}{i:Nat}{x:Str}{v:V}{u:HA}{Q:Unit->HB->Prop}(I:Inv X pins σ H s)(hN:X.N.Nodup)(hi:X.N[i]? =some x)(hx:Loc X.env.scope x)(r:RelV v u)
  (h:∀s',Inv X pins (σ.set i (some v)) H s'->(∃a,K2 a s.heap s'.heap/\(a=X.env.locals\/X.env.cells.lookup x=some a))->Q () s') (hf:X.fn x=true\/X.env.scope.names.lookup x=some .local:=by first | exact .inl rfl | exact .inr rfl | assumption):wpAny M A (storeName X.env x u) Q E s:=by
 obtain⟨m,hn,hl⟩:=id I.loc
 have hcls:(X.env.scope.kind == .class||(X.env.scope.kind == .module&&X.env.locals != X.env.globals))=false:=by rw[I.ok.kind];rfl
 have hiσ:i<σ.length:=by rw[I.len];exact(HN.mp hi).1
 have cne:=I.cne
 have tracked:∀{a:Addr} {h':Heap},(∃o,s.heap.get? a=some o/\H a=none)->K2 a s.heap h'->HOk X.prog X.w H h':=λ{a h'} ha hs b ob e=>by
  obtain⟨_,_,hfree⟩:=ha;refine(I.hok b ob e).GT (λc w' hc q=>(hs.2 c ?_).trans q) (λ_ q=>q) λ_ _ q=>q
  rintro rfl
  rcases hc with rfl | hc
  ·rw[hfree]at e;cases e
  ·rw[hfree]at hc;cases hc
 rcases hx with hk | hk
 ·refine wpAny_storeName_local hk hn (λh' hn' hs=> ?_) hcls
  obtain⟨oL,_,_,hoL,_⟩:=id hn;refine h _ ⟨I.ok,I.os,I.bare,⟨λb o e n hb hx=> ?_,λb o e n hb hx=> ?_,I.base.free,λb o e hx=> ?_,I.base.tups,I.base.frzs,I.base.tbls⟩,⟨_,hn',λj y v' e1 e2 e3=> ?_⟩,λy c e=> ?_,I.free,I.freeC,λp hp=> ?_,tracked ⟨oL,hoL,I.free⟩ hs,by simpa using I.len⟩ ⟨_,hs,.inl rfl⟩
  ·exact(hs.2 b (HZ (HJ (HM e) I.ok.above))).trans (I.base.keep b o e n hb hx)
  ·obtain⟨sl,e1⟩:=I.base.slot b o e n hb hx
   exact⟨sl,(hs.2 b (HZ (HJ (HM e) I.ok.above))).trans e1⟩
  ·obtain⟨o',e1⟩:=I.base.there b o e hx
   exact⟨o',(hs.2 b (HZ (HJ (HM e) I.ok.above))).trans e1⟩
  ·by_cases hj:j=i
   ·subst hj
    rw[hi]at e1;cases e1;rw[Io hiσ]at e2
    cases e2;exact⟨u,r,.inl ⟨hk,by simp⟩⟩
   ·rw[Im (Mu hj)]at e2
    obtain⟨u',r',q⟩:=hl j y v' e1 e2 e3;refine⟨u',r',?_⟩
    rcases q with⟨k,e⟩ | ⟨k,c,e,z⟩
    ·refine .inl ⟨k,?_⟩
     have:y≠x:=λe=>hj (rl hN e1 (e▸hi))
     simp[this,e]
    ·exact .inr ⟨k,c,e,z.sameBut hs (cne y c e)⟩
  ·obtain⟨w',z⟩:=I.cell y c e
   exact⟨w',z.sameBut hs (cne y c e)⟩
  ·obtain⟨e,n,ne,nf,d⟩:=I.pin p hp
   exact⟨(hs.2 p.1 ne).trans e,n,ne,nf,d⟩
 ·have hfn:X.fn x=true:=by
   rcases hf with z | z
   ·exact z
   ·rw[z]at hk;cases hk
  obtain⟨c,hc⟩:=I.ok.has x (.inl hk);obtain⟨w',z⟩:=I.cell x c hc;refine wpAny_storeName_cell I.ok.kind hk hc z (λh' hc' hs=> ?_)
  obtain⟨oc,hoc,hocd⟩:=id z;refine h { s with heap:=h' } ⟨I.ok,I.os,I.bare,⟨λb o e n hb hx=> ?_,λb o e n hb hx=> ?_,I.base.free,λb o e hx=> ?_,I.base.tups,I.base.frzs,I.base.tbls⟩,⟨m,hn.sameBut hs (Mu (cne x c hc)),λj y v' e1 e2 e3=> ?_⟩,λy c' e=> ?_,I.free,I.freeC,λp hp=> ?_,tracked ⟨oc,hoc,I.freeC x c hc⟩ hs,by simpa using I.len⟩ ⟨c,hs,.inr hc⟩
  ·exact(hs.2 b (HZ (HJ (HM e) (I.ok.cab x c hfn hc)))).trans (I.base.keep b o e n hb hx)
  ·obtain⟨sl,e1⟩:=I.base.slot b o e n hb hx
   exact⟨sl,(hs.2 b (HZ (HJ (HM e) (I.ok.cab x c hfn hc)))).trans e1⟩
  ·obtain⟨o',e1⟩:=I.base.there b o e hx
   exact⟨o',(hs.2 b (HZ (HJ (HM e) (I.ok.cab x c hfn hc)))).trans e1⟩
  ·by_cases hj:j=i
   ·subst hj
    rw[hi]at e1;cases e1;rw[Io hiσ]at e2
    cases e2;exact⟨u,r,.inr ⟨.inl hk,c,hc,hc'⟩⟩
   ·rw[Im (Mu hj)]at e2
    obtain⟨u',r',q⟩:=hl j y v' e1 e2 e3;refine⟨u',r',?_⟩
    rcases q with q | ⟨k,c',e,z'⟩
    ·exact .inl q
    ·refine .inr ⟨k,c',e,z'.sameBut hs ?_⟩
     rintro rfl
     exact hj (rl hN e1 (I.ok.inj _ _ _ e hc▸hi))
  ·by_cases hcc:c'=c
   ·subst hcc;exact⟨_,hc'⟩
   ·obtain⟨w2,z2⟩:=I.cell y c' e
    exact⟨w2,z2.sameBut hs hcc⟩
  ·obtain⟨e,n,ne,nf,d⟩:=I.pin p hp
   refine⟨(hs.2 p.1 ?_).trans e,n,ne,nf,d⟩
   intro q;rw[q,hoc]at e
   have q':oc=p.2:=Ip e;exact d w' (by rw[<-q'];exact hocd)
theorem lh {M:Model}{A:Iu}{E:HA->HB->Prop}{i:Nat}{x:Str}{v:V}{u:HA}{Q:Unit->HB->Prop}(I:Inv X pins σ H s)(hN:X.N.Nodup)(hi:X.N[i]? =some x)(hx:Loc X.env.scope x)(r:RelV v u)
  (h:∀s',Inv X pins (σ.set i (some v)) H s'->Q () s') (hf:X.fn x=true\/X.env.scope.names.lookup x=some .local:=by first | exact .inl rfl | exact .inr rfl | assumption):wpAny M A (storeName X.env x u) Q E s:=
 nB I hN hi hx r (λs' I' _=>h s' I') hf
theorem Inv.Hd {s':HB}{ch:List Addr}(I:Inv X pins σ H s)(ho:s'.os=s.os)(u:Un (i7 X.stack) ch H H' s.heap s'.heap)(hok:HOk X.prog X.w H' s'.heap)(hg:Kk s'.gens)
  (hch:∀b∈ch,(b∈X.ex\/X.s₀.heap.objs.size<=b)/\b≠X.env.locals/\(∀x c,X.env.cells.lookup x=some c->c≠b)/\∀p∈X.pn++pins,p.1≠b):Inv X pins σ H' s':=by
 obtain⟨h',g',d',t',o'⟩:=s'
 have e:o'=s.os:=ho;subst e;exact I.call (g':=g') (t':=t') (d':=d') u hok hg hch
end
abbrev XK:=HA->Option Addr->Hp->Prop
abbrev St:=List (Option V)
abbrev VK:=V->Hp->Prop
abbrev TE:=St->Hp->VK->Prop
abbrev TT:=St->Hp->(Bool->Hp->Prop)->Prop
abbrev TA:=St->Hp->(List V->Hp->Prop)->Prop
structure qx where
 nx:St->Hp->Prop
 rt:VK
 bk:St->Hp->Prop:=λ_ _=>False
 ct:St->Hp->Prop:=λ_ _=>False
abbrev TS:=qx->St->Hp->Prop
def EP (X:Cx)(pins:List (Addr×Obj))(σ:St)(Q:VK)(u:HA)(s':HB):Prop:=∃v H',Inv X pins σ H' s'/\RelV v u/\Q v H'
def TP (X:Cx)(pins:List (Addr×Obj))(σ:St)(Q:Bool->Hp->Prop)(b:Bool)(s':HB):Prop:=∃H',Inv X pins σ H' s'/\Q b H'
def AP (X:Cx)(pins:List (Addr×Obj))(σ:St)(Q:List V->Hp->Prop)(us:List HA)(s':HB):Prop:=∃vs H',Inv X pins σ H' s'/\Vals vs us/\Q vs H'
def SP (X:Cx)(pins:List (Addr×Obj))(D:qx)(f:Flow)(s':HB):Prop:=
 match f with
 | .next=> ∃σ' H',Inv X pins σ' H' s'/\D.nx σ' H'
 | .brk=> ∃σ' H',Inv X pins σ' H' s'/\D.bk σ' H'
 | .cont=> ∃σ' H',Inv X pins σ' H' s'/\D.ct σ' H'
 | .ret u=> ∃v σ' H',Inv X pins σ' H' s'/\RelV v u/\D.rt v H'
def PE (X:Cx)(e:Expr)(t:TE):Prop:=
 ∀(pins:List (Addr×Obj)) (s:HB) (σ:St) (H:Hp) (Q:VK),Inv X pins σ H s->t σ H Q->wpAny (model X.prog X.w) X.A (eval e X.env) (EP X pins σ Q) X.xe s
def PT (X:Cx)(e:Expr)(t:TT):Prop:=
 ∀(pins:List (Addr×Obj)) (s:HB) (σ:St) (H:Hp) (Q:Bool->Hp->Prop),Inv X pins σ H s->t σ H Q->wpAny (model X.prog X.w) X.A (isTrue e X.env (eval e X.env)) (TP X pins σ Q) X.xe s
def PW (X:Cx)(e:Expr)(t:TT):Prop:=
 ∀(whole:Sem HA) (pins:List (Addr×Obj)) (s:HB) (σ:St) (H:Hp) (Q:Bool->Hp->Prop),Inv X pins σ H s->t σ H Q->wpAny (model X.prog X.w) X.A (isTrue e X.env whole) (TP X pins σ Q) X.xe s
theorem PW.pt {X:Cx}{e:Expr}{t:TT}(h:PW X e t):PT X e t:=h _
def PA (X:Cx)(es:List Expr)(t:TA):Prop:=
 ∀(pos:Pos) (pins:List (Addr×Obj)) (s:HB) (σ:St) (H:Hp) (Q:List V->Hp->Prop),Inv X pins σ H s->t σ H Q->wpAny (model X.prog X.w) X.A (spliced (backTo pos (HY es X.env))) (AP X pins σ Q) X.xe s
def PS (X:Cx)(st:Stmt)(t:TS):Prop:=
 ∀(pins:List (Addr×Obj)) (s:HB) (σ:St) (H:Hp) (D:qx),Inv X pins σ H s->t D σ H->wpAny (model X.prog X.w) X.A (exec st X.env) (SP X pins D) X.xe s
def PSs (X:Cx)(st:List Stmt)(t:TS):Prop:=
 ∀(pins:List (Addr×Obj)) (s:HB) (σ:St) (H:Hp) (D:qx),Inv X pins σ H s->t D σ H->wpAny (model X.prog X.w) X.A (execs st X.env) (SP X pins D) X.xe s
theorem bR {α:Type}{t:Sem α}{Q Q':α->HB->Prop}{M:Model}{A:Iu}{E:HA->HB->Prop}{s:HB}(h:wpAny M A t Q E s)(hQ:∀a s,Q a s->Q' a s):wpAny M A t Q' E s:=J3 h hQ λ_ _ x=>x
section
variable {X:Cx}
def tVar (i:Nat):TE:=λσ H Q=> ∃v,σ[i]? =some (some v)/\Q v H
def tC (v:V):TE:=λ_ H Q=>Q v H
theorem pv {i:Nat}{x:Str}{pos:Pos}(hN:X.N[i]? =some x)(hv:wt X.env.scope x)(hd:iA x:=by decide)(hcd:(x == ("__classdict__" : Str))=false:=by decide):PE X (.Name x pos) (tVar i):=by
 intro pins s σ H Q I h;obtain⟨v,e,h⟩:=h;obtain⟨m,hn,hl⟩:=I.loc;obtain⟨u,r,l⟩:=hl i x v hN e hv
 have fin:EP X pins σ Q u s:=⟨v,H,I,r,h⟩;rcases l with⟨hk,hm⟩ | ⟨hk,c,hc,hcell⟩
 ·exact wpAny_Name (NQ I.ok.kind hk hn hm fin) hd
 ·rcases hk with hk | hk
  ·exact wpAny_Name (N5 I.ok.kind hk hc hcell fin) hd
  ·exact wpAny_Name (wpAny_loadName_free I.ok.kind hk hc hcell fin hcd) hd
theorem Dq {i j pos}:PE X (.Constant (.int i) j pos) (tC (.int i)):=λ_ _ _ H _ I h=>wpAny_Constant_int ⟨.int i,H,I.tok _,⟨_,rfl⟩,h⟩
theorem Fy {b j pos}:PE X (.Constant (.bool b) j pos) (tC (.bl b)):=λ_ _ _ H _ I h=>Constant_bool ⟨.bl b,H,I,rfl,h⟩
theorem Dn {j pos}:PE X (.Constant .none j pos) (tC .non):=λ_ _ _ H _ I h=>Constant_none ⟨.non,H,I,rfl,h⟩
def Gl (X:Cx)(x:Str):Prop:=X.env.kindOf x=some .globalImplicit
theorem kX {E:HA->HB->Prop}{pins:List (Addr×Obj)}{s:HB}{σ:St}{H:Hp}{x:Str}{u:HA}{pos:Pos}{Q:HA->HB->Prop}(I:Inv X pins σ H s)(hg:Gl X x)(hm:X.mg x=some u)(h:Q u s)
  (hd:iA x:=by decide):wpAny (model X.prog X.w) X.A (eval (.Name x pos) X.env) Q E s:=
 Mk I.ok.kind hg (Calls.loadGlobal_global (by rw[I.ok.glob];exact I.mod.glob.keeps I.bk) hm h) hd
theorem d9 {E:HA->HB->Prop}{pins:List (Addr×Obj)}{s:HB}{σ:St}{H:Hp}{x:Str}{u:HA}{pos:Pos}{Q:HA->HB->Prop}(I:Inv X pins σ H s)(hg:Gl X x)(hm:X.mg x=none)(hv:Iq x=some u)(h:Q u s)
  (hn:x≠ "__name__":=by decide) (hd:iA x:=by decide):wpAny (model X.prog X.w) X.A (eval (.Name x pos) X.env) Q E s:=by
 obtain⟨mb,h1,h2⟩:=I.mod.blt;exact Mk I.ok.kind hg (Calls.loadGlobal_builtin (by rw[I.ok.glob];exact I.mod.glob.keeps I.bk) hm (by rw[I.ok.blt];exact h1.keeps I.bk) ((h2 x hn).trans hv) h) hd
theorem A3 {x:Str}{v:V}{u:HA}{pos:Pos}(hg:Gl X x)(hm:X.mg x=some u)(r:RelV v u)(hd:iA x:=by decide):PE X (.Name x pos) (tC v):=
 λ_ _ _ H _ I h=>kX I hg hm ⟨v,H,I,r,h⟩ hd
theorem A5 {x:Str}{v:V}{u:HA}{pos:Pos}(hg:Gl X x)(hm:X.mg x=none)(hv:Iq x=some u)(r:RelV v u)(hn:x≠ "__name__":=by decide)(hd:iA x:=by decide):PE X (.Name x pos) (tC v):=
 λ_ _ _ H _ I h=>d9 I hg hm hv ⟨v,H,I,r,h⟩ hn hd
variable {a b:Expr}{ta tb:TE}{pos:Pos}
def tB (t:TE):TT:=λσ H Q=>t σ H λx H1=> ∃c,x= .bl c/\Q c H1
theorem Dc {e:Expr}{t:TE}(h:PE X e t)(he:∀whole,isTrue e X.env whole=(do let v <-whole;standAt e.pos;holding [v] (truthy v)):=by intro _;rfl):PT X e (tB t):=by
 intro pins s σ H Q I hw;refine isTrue_plain (bR (h pins s σ H _ I hw) λv s1 ⟨x,H1,I1,r1,q1⟩=> ?_) (he _)
 obtain⟨d,rfl,q⟩:=q1;cases r1;exact Ja ⟨H1,I1,q⟩
variable {tA tB':TT}{cb:List Expr}
def tAnd (t u:TT):TT:=λσ H Q=>t σ H λc H1=>if c=true then u σ H1 Q else Q false H1
def tOr (t u:TT):TT:=λσ H Q=>t σ H λc H1=>if c=true then Q true H1 else u σ H1 Q
def tNot (t:TT):TT:=λσ H Q=>t σ H λc H1=>Q (!c) H1
theorem AM (ha:PT X a tA):PW X (.BoolOp .And [a] pos) tA:=by
 intro wh pins s σ H Q I h;refine isTrue_and (bR (ha pins s σ H Q I h) λc s1 e=> ?_)
 cases c with
 | true=>exact isTrue_and_nil e
 | false=>exact e
theorem C8 (ha:PT X a tA):PW X (.BoolOp .Or [a] pos) tA:=by
 intro wh pins s σ H Q I h;refine isTrue_or (bR (ha pins s σ H Q I h) λc s1 e=> ?_)
 cases c with
 | false=>exact isTrue_or_nil e
 | true=>exact e
theorem C9 (ha:PT X a tA)(hb:PW X (.BoolOp .And (b::cb) pos) tB'):PW X (.BoolOp .And (a::b::cb) pos) (tAnd tA tB'):=by
 intro wh pins s σ H Q I h;refine isTrue_and (bR (ha pins s σ H _ I h) λc s1 hh_=> ?_)
 obtain⟨H1,I1,q1⟩:=hh_
 cases c with
 | true=>exact hb wh pins s1 σ H1 Q I1 q1
 | false=>exact⟨H1,I1,q1⟩
theorem Fs (ha:PT X a tA)(hb:PW X (.BoolOp .Or (b::cb) pos) tB'):PW X (.BoolOp .Or (a::b::cb) pos) (tOr tA tB'):=by
 intro wh pins s σ H Q I h;refine isTrue_or (bR (ha pins s σ H _ I h) λc s1 hh_=> ?_)
 obtain⟨H1,I1,q1⟩:=hh_
 cases c with
 | true=>exact⟨H1,I1,q1⟩
 | false=>exact hb wh pins s1 σ H1 Q I1 q1
theorem Dd (ha:PT X a tA):PT X (.UnaryOp .Not a pos) (tNot tA):=by
 intro pins s σ H Q I h;exact isTrue_not (ha pins s σ H (λc H1=>Q (!c) H1) I h)
def EW (ta tb:TE):TE:=λσ H Q=>ta σ H λx H1=> ∃c,x= .bl c/\if c=true then tb σ H1 Q else Q (.bl false) H1
def tOrV (ta tb:TE):TE:=λσ H Q=>ta σ H λx H1=> ∃c,x= .bl c/\if c=true then Q (.bl true) H1 else tb σ H1 Q
def EL (ta:TE):TE:=λσ H Q=>ta σ H λx H1=> ∃c,x= .bl c/\Q (.bl (!c)) H1
theorem Dl {op}{t:TE}(h:PE X a t):PE X (.BoolOp op [a] pos) t:=λpins s σ H Q I hw=>BoolOp_one (h pins s σ H Q I hw)
theorem Dr (ha:PE X a ta)(hb:PE X (.BoolOp .And (b::cb) pos) tb):PE X (.BoolOp .And (a::b::cb) pos) (EW ta tb):=by
 intro pins s σ H Q I h;refine BoolOp_and (bR (ha pins s σ H _ I h) λv s1 hh_=> ?_)
 obtain⟨x,H1,I1,r1,q1⟩:=hh_;obtain⟨c,rfl,q1⟩:=q1;cases r1;refine Ja ?_
 cases c with
 | true=>exact hb pins s1 σ H1 Q I1 q1
 | false=>exact⟨.bl false,H1,I1,rfl,q1⟩
theorem Fx (ha:PE X a ta)(hb:PE X (.BoolOp .Or (b::cb) pos) tb):PE X (.BoolOp .Or (a::b::cb) pos) (tOrV ta tb):=by
 intro pins s σ H Q I h;refine BoolOp_or (bR (ha pins s σ H _ I h) λv s1 hh_=> ?_)
 obtain⟨x,H1,I1,r1,q1⟩:=hh_;obtain⟨c,rfl,q1⟩:=q1;cases r1;refine Ja ?_
 cases c with
 | false=>exact hb pins s1 σ H1 Q I1 q1
 | true=>exact⟨.bl true,H1,I1,rfl,q1⟩
theorem Dm (ha:PE X a ta):PE X (.UnaryOp .Not a pos) (EL ta):=by
 intro pins s σ H Q I h;refine UnaryOp_ (bR (ha pins s σ H _ I h) λv s1 hh_=> ?_)
 obtain⟨x,H1,I1,r1,q1⟩:=hh_;obtain⟨c,rfl,q1⟩:=q1;cases r1;exact not_of (Ja ⟨.bl (!c),H1,I1,rfl,q1⟩)
def tIf (t:TT)(ta tb:TE):TE:=λσ H Q=>t σ H λc H1=>if c=true then ta σ H1 Q else tb σ H1 Q
theorem xP {c:Expr}(hc:PT X c tA)(ha:PE X a ta)(hb:PE X b tb):PE X (.IfExp c a b pos) (tIf tA ta tb):=by
 intro pins s σ H Q I h;refine wpAny_IfExp (bR (hc pins s σ H _ I h) λd s1 hh_=> ?_)
 obtain⟨H1,I1,q1⟩:=hh_
 cases d with
 | true=>exact ha pins s1 σ H1 Q I1 q1
 | false=>exact hb pins s1 σ H1 Q I1 q1
end
def SqL (K:Hy)(H:Hp)(a:Addr)(xs:List V):Prop:=
 Rd H a (.lst xs) ∨
  ∃(o:Obj) (its:Array HA) (n:Nat),K.lookup a=some o/\o.cls= .type "list"/\o.dict=none/\o.data= .seq its n/\its.size<=sizeLine/\Vals xs its.toList
def SqT (K:Hy)(H:Hp)(a:Addr)(xs:List V):Prop:=
 Rd H a (.tup xs) ∨
  ∃(o:Obj) (its:Array HA) (n:Nat),K.lookup a=some o/\o.cls= .type "tuple"/\o.data= .seq its n/\its.size<=sizeLine/\Vals xs its.toList
def absV:HA->Option V
 | .none=>some .non
 | .bool b=>some (.bl b)
 | .int i _=>some (.int i)
 | .str x _=>some (.str x)
 | .bytes b _=>some (.byt b)
 | .float b _=>some (.flt b)
 | .ref a=>some (.ref a)
 | .type n=>some (.ty n)
 | _=>none
theorem RelV.abs {x:V}{u:HA}(r:RelV x u):absV u=some x:=by
 cases x with
 | non=>cases r;rfl
 | bl _=>cases r;rfl
 | int _=>obtain⟨t,rfl⟩:=r;rfl
 | str _=>obtain⟨t,rfl⟩:=r;rfl
 | byt _=>obtain⟨t,rfl⟩:=r;rfl
 | flt _=>obtain⟨t,rfl⟩:=r;rfl
 | ref _=>cases r;rfl
 | ty _=>cases r;rfl
theorem RelV.inj {x y:V}{u:HA}(r:RelV x u)(q:RelV y u):x=y:=Ip (r.abs.symm.trans q.abs)
theorem Vals.inj:∀{xs ys:List V} {us:List HA},Vals xs us->Vals ys us->xs=ys
 | _,_,_,.nil,.nil=>rfl
 | _,_,_,.cons r t,.cons r' t'=>by rw[r.inj r',Vals.inj t t']
section
variable {X:Cx}{pins:List (Addr×Obj)}{σ:St}{H:Hp}{s:HB}{a:Addr}{xs ys:List V}
theorem SqL.of {K:Hy}(h:H a=some (.lst xs)):SqL K H a xs:=.inl (.inl h)
theorem SqT.of {K:Hy}(h:H a=some (.tup xs)):SqT K H a xs:=.inl (.inl h)
theorem Inv.list (I:Inv X pins σ H s)(h:SqL X.K H a xs):∃its:List HA,Vals xs its/\PlainL s.heap a its.toArray/\xs.length<=sizeLine:=by
 rcases h with h | ⟨o,its,n,hk,hc,hd,hs,hz,r⟩
 ·obtain⟨z,its,n,r,e⟩:=h.ok I.hok
  exact⟨its,r,⟨_,n,e,rfl,rfl,rfl⟩,z⟩
 ·refine⟨its.toList,r,⟨o,n,I.kIn a o hk,hc,hd,by simpa using hs⟩,?_⟩
  have e:=r.length;simp only[IB]at e;omega
theorem Inv.tuple (I:Inv X pins σ H s)(h:SqT X.K H a xs):∃its:List HA,Vals xs its/\Qg s.heap a its.toArray/\xs.length<=sizeLine:=by
 rcases h with h | ⟨o,its,n,hk,hc,hs,hz,r⟩
 ·obtain⟨z,its,r,p⟩:=h.ok I.hok
  exact⟨its,r,p,z⟩
 ·refine⟨its.toList,r,⟨o,I.kIn a o hk,hc,n,by simpa using hs⟩,?_⟩
  have e:=r.length;simp only[IB]at e;omega
theorem Inv.GW (I:Inv X pins σ H s)(h:SqL X.K H a xs)(h':SqL X.K H a ys):xs=ys:=by
 obtain⟨its,r,⟨o,n,e,_,_,d⟩,_⟩:=I.list h;obtain⟨its',r',⟨o',n',e',_,_,d'⟩,_⟩:=I.list h';rw[e]at e';cases e';rw[d]at d';injection d' with d1 _
 have:its=its':=by simpa using congrArg Nm d1
 subst this;exact r.inj r'
theorem Inv.GU (I:Inv X pins σ H s)(h:SqT X.K H a xs)(h':SqT X.K H a ys):xs=ys:=by
 obtain⟨its,r,⟨o,e,_,n,d⟩,_⟩:=I.tuple h;obtain⟨its',r',⟨o',e',_,n',d'⟩,_⟩:=I.tuple h';rw[e]at e';cases e';rw[d]at d';injection d' with d1 _
 have:its=its':=by simpa using congrArg Nm d1
 subst this;exact r.inj r'
end
abbrev Cx.FM (X:Cx)(E:HA->HB->Prop):Cx:={ X with xe:=E }
abbrev Cx.nox (X:Cx):Cx:=X.FM λ_ _=>False
theorem Cx.Ok.FM {X:Cx}(ok:X.Ok)(E:HA->HB->Prop):(X.FM E).Ok:=
 ⟨ok.mod,ok.kind,ok.glob,ok.blt,ok.above,ok.inj,ok.has,ok.cab,ok.hd,ok.frames,ok.stk,ok.exf,ok.bs,ok.bsz,ok.noex,ok.exfs,ok.funs,ok.frf,ok.tb⟩
theorem Cx.Ok.GK {X:Cx}{E:HA->HB->Prop}(ok:(X.FM E).Ok):X.Ok:=
 ⟨ok.mod,ok.kind,ok.glob,ok.blt,ok.above,ok.inj,ok.has,ok.cab,ok.hd,ok.frames,ok.stk,ok.exf,ok.bs,ok.bsz,ok.noex,ok.exfs,ok.funs,ok.frf,ok.tb⟩
section
variable {X:Cx}{pins:List (Addr×Obj)}{σ:St}{H:Hp}{s:HB}{E:HA->HB->Prop}
theorem Inv.FM (I:Inv X pins σ H s)(E:HA->HB->Prop):Inv (X.FM E) pins σ H s:=⟨I.ok.FM E,I.os,I.bare,I.base,I.loc,I.cell,I.free,I.freeC,I.pin,I.hok,I.len⟩
theorem Inv.GK (I:Inv (X.FM E) pins σ H s):Inv X pins σ H s:=⟨I.ok.GK,I.os,I.bare,I.base,I.loc,I.cell,I.free,I.freeC,I.pin,I.hok,I.len⟩
theorem SP.GK {D:qx}{f:Flow}{s':HB}(h:SP (X.FM E) pins D f s'):SP X pins D f s':=by
 cases f with
 | next=>obtain⟨σ',H',I,q⟩:=h;exact⟨σ',H',I.GK,q⟩
 | brk=>obtain⟨σ',H',I,q⟩:=h;exact⟨σ',H',I.GK,q⟩
 | cont=>obtain⟨σ',H',I,q⟩:=h;exact⟨σ',H',I.GK,q⟩
 | ret u=>obtain⟨v,σ',H',I,r,q⟩:=h;exact⟨v,σ',H',I.GK,r,q⟩
theorem PSs.nox {st:List Stmt}{t:TS}(h:PSs X.nox st t):PSs X st t:=λpins s σ H D I hw=>
 J3 (h pins s σ H D (I.FM _) hw) (λ_ _ q=>q.GK) λ_ _ z=>JS z
end
section
variable {X:Cx}{st:Stmt}{cb:List Stmt}{t u:TS}{e:Expr}{te:TE}{pos:Pos}
def EN:TS:=λD σ H=>D.nx σ H
def tSeq (t u:TS):TS:=λD σ H=>t { D with nx:=u D } σ H
theorem AO:PSs X [] EN:=λ_ _ σ H _ I h=>Mc ⟨σ,H,I,h⟩
theorem xF (h1:PS X st t)(h2:PSs X cb u):PSs X (st::cb) (tSeq t u):=by
 intro pins s σ H D I h;refine Pu (bR (h1 pins s σ H { D with nx:=u D } I h) λf s1 q=> ?_)
 cases f with
 | next=>
  obtain⟨σ',H',I',q⟩:=q
  exact h2 pins s1 σ' H' D I' q
 | ret v=>exact q
 | brk=>exact q
 | cont=>exact q
theorem AN (h1:PS X st t):PSs X [st] t:=by
 intro pins s σ H D I h;refine Pu (bR (h1 pins s σ H D I h) λf s1 q=> ?_)
 cases f with
 | next=>exact Mc q
 | ret v=>exact q
 | brk=>exact q
 | cont=>exact q
def EU:TS:=λD σ H=>D.ct σ H
theorem qX:PS X (.Continue pos) EU:=λ_ _ σ H _ I h=>wpAny_Continue ⟨σ,H,I,h⟩
theorem Inv.quiet {pins:List (Addr×Obj)}{σ:St}{H:Hp}{s:HB}(I:Inv X pins σ H s):interactive X.env=false:=by simp[interactive,I.ok.kind]
def ES (te:TE):TS:=λD σ H=>te σ H λ_ H1=>D.nx σ H1
theorem ph (he:PE X e te)(hs:JK e none pos.line X.env=pure false:=by rfl):PS X (.Expr e pos) (ES te):=by
 intro pins s σ H D I h;exact wpAny_Expr_any (bR (he pins s σ H _ I h) λv s1 ⟨x,H1,I1,r1,q1⟩=>⟨σ,H1,I1,q1⟩) I.quiet hs
def tRet (te:TE):TS:=λD σ H=>te σ H D.rt
theorem De (he:PE X e te):PS X (.Return (some e) pos) (tRet te):=by
 intro pins s σ H D I h;exact wpAny_Return_some (bR (he pins s σ H _ I h) λv s1 ⟨x,H1,I1,r1,q1⟩=>⟨x,σ,H1,I1,r1,q1⟩)
def tIfS (c:TT)(t u:TS):TS:=λD σ H=>c σ H λb H1=>if b=true then t D σ H1 else u D σ H1
theorem Fu {c:Expr}{a b:List Stmt}{tc:TT}(hc:PT X c tc)(ha:PSs X a t)(hb:PSs X b u):PS X (.If c a b pos) (tIfS tc t u):=by
 intro pins s σ H D I h;refine wpAny_If (bR (hc pins s σ H _ I h) λd s1 hh_=> ?_)
 obtain⟨H1,I1,q1⟩:=hh_
 cases d with
 | true=>exact ha pins s1 σ H1 D I1 q1
 | false=>exact hb pins s1 σ H1 D I1 q1
end
abbrev TG:=V->St->Hp->(St->Hp->Prop)->Prop
abbrev BO:=List V->St->Hp->(St->Hp->Prop)->Prop
def PG (X:Cx)(target:Expr)(t:TG):Prop:=
 ∀(pins:List (Addr×Obj)) (s:HB) (σ:St) (H:Hp) (v:V) (u:HA) (Q:St->Hp->Prop),Inv X pins σ H s->RelV v u->t v σ H Q →
  wpAny (model X.prog X.w) X.A (assign target X.env u) (λ_ s'=> ∃σ' H',Inv X pins σ' H' s'/\Q σ' H') X.xe s
def PGs (X:Cx)(ts:List Expr)(t:BO):Prop:=
 ∀(pins:List (Addr×Obj)) (s:HB) (σ:St) (H:Hp) (vs:List V) (us:List HA) (Q:St->Hp->Prop),Inv X pins σ H s->Vals vs us->t vs σ H Q →
  wpAny (model X.prog X.w) X.A (assignInOrder ((JD ts X.env).map (·.2)) us) (λ_ s'=> ∃σ' H',Inv X pins σ' H' s'/\Q σ' H') X.xe s
abbrev GC:=V->V->Hp->VK->Prop
def PIp (X:Cx)(op:Qd)(t:GC):Prop:=
 ∀(pins:List (Addr×Obj)) (s:HB) (σ:St) (H:Hp) (x y:V) (v u:HA) (Q:VK),Inv X pins σ H s->RelV x v->RelV y u->t x y H Q →
  wpAny (model X.prog X.w) X.A (inplaceOp op v u) (EP X pins σ Q) X.xe s
section
variable {X:Cx}{pos:Pos}
def y8 (i:Nat):TG:=λv σ H Q=>Q (σ.set i (some v)) H
theorem A1 {i:Nat}{x:Str}(hN:X.N.Nodup)(hi:X.N[i]? =some x)(hx:Loc X.env.scope x)(hf:X.fn x=true\/X.env.scope.names.lookup x=some .local:=by first | exact .inl rfl | exact .inr rfl | assumption):PG X (.Name x pos) (y8 i):=by
 intro pins s σ H v u Q I r h;exact OW (lh I hN hi hx r (λs' I'=>⟨_,H,I',h⟩) hf)
def gNil:BO:=λvs σ H Q=>vs= []/\Q σ H
def F1 (t:TG)(u:BO):BO:=λvs σ H Q=> ∃v r,vs=v::r/\t v σ H λσ' H'=>u r σ' H' Q
theorem A0:PGs X [] gNil:=by
 intro pins s σ H vs us Q I r h;obtain⟨e,h⟩:=h;subst e;cases r;exact assignInOrder_nil ⟨σ,H,I,h⟩
theorem xM {e:Expr}{es:List Expr}{t:TG}{u:BO}(h1:PG X e t)(h2:PGs X es u)
  (hs:(JD (e::es) X.env).map (·.2)=assign e X.env::(JD es X.env).map (·.2):=by rfl):PGs X (e::es) (F1 t u):=by
 intro pins s σ H vs us Q I r h;obtain⟨v,vr,e1,h⟩:=h;subst e1
 cases r with
 | cons r rr=>
  rw[hs];refine assignInOrder_cons (bR (h1 pins s σ H _ _ _ I r h) λ_ s1 hh_=> ?_)
  obtain⟨σ1,H1,I1,q1⟩:=hh_;exact h2 pins s1 σ1 H1 _ _ Q I1 rr q1
def gTup (K:Hy)(n:Nat)(t:BO):TG:=λv σ H Q=> ∃a xs,v= .ref a/\SqT K H a xs/\xs.length=n/\t xs σ H Q
theorem Dj {es:List Expr}{k:Nat}{t:BO}{n:Nat}(hc:X.calm=true)(h:PGs X es t)
  (hn:(JD es X.env).length=n:=by rfl) (hst:(JD es X.env).findIdx? (·.1)=none:=by rfl):PG X (.Tuple es k pos) (gTup X.K n t):=by
 intro pins s σ H v u Q I r hw;obtain⟨a,xs,e1,hq,hl,hw⟩:=hw;subst e1;cases r;obtain⟨its,rv,ht,hz⟩:=I.tuple hq;refine assign_Tuple_tuple (I.ok.hd hc) ht (by simp[hn,<-hl,rv.length]) hst λh' hx=> ?_
 have I1:Inv X pins σ H { s with heap:=h' }:=I.kept (t':=s.toks) λb o e=>hx b o (HZ (HM e)) e
 exact h pins _ σ H xs _ Q I1 (by simpa using rv) hw
def Ai (te:TE)(g:TG):TS:=λD σ H=>te σ H λx H1=>g x σ H1 D.nx
theorem Dg {tg e:Expr}{te:TE}{g:TG}(he:PE X e te)(hg:PG X tg g)(hs:Ou [tg] e pos.line X.env=pure false:=by rfl)(hw:Ov [tg] e X.env=pure none:=by rfl)
  (h1:(JD [tg] X.env).map (·.2)= [assign tg X.env]:=by rfl):PS X (.Assign [tg] e pos) (Ai te g):=by
 intro pins s σ H D I h;refine wpAny_Assign_stores (bR (he pins s σ H _ I h) λv s1 ⟨x,H1,I1,r1,q1⟩=> ?_) hs hw
 rw[h1];exact bR (hg pins s1 σ H1 x v _ I1 r1 q1) λ_ s2 q=>q
theorem xH {i:Nat}{x:Str}{e:Expr}{te:TE}{pos':Pos}(hN:X.N.Nodup)(hi:X.N[i]? =some x)(hx:Loc X.env.scope x)(he:PE X e te)(hs:JK e (some (.Name x pos')) pos.line X.env=pure false:=by rfl)(hf:X.fn x=true\/X.env.scope.names.lookup x=some .local:=by first | exact .inl rfl | exact .inr rfl | assumption) :
  PS X (.Assign [.Name x pos'] e pos) (Ai te (y8 i)):=by
 intro pins s σ H D I h;refine wpAny_Assign_Name (bR (he pins s σ H _ I h) λv s1 ⟨y,H1,I1,r1,q1⟩=> ?_) hs
 exact lh I1 hN hi hx r1 (λs2 I2=>⟨_,H1,I2,q1⟩) hf
def tAug (i:Nat)(te:TE)(ti:GC):TS:=λD σ H=> ∃x,σ[i]? =some (some x)/\te σ H λy H1=>ti x y H1 λz H2=>D.nx (σ.set i (some z)) H2
theorem Df {i:Nat}{x:Str}{e:Expr}{te:TE}{op:Qd}{ti:GC}{pos':Pos}(hN:X.N.Nodup)(hi:X.N[i]? =some x)(hx:Loc X.env.scope x)(he:PE X e te)(ho:PIp X op ti)(hf:X.fn x=true\/X.env.scope.names.lookup x=some .local:=by first | exact .inl rfl | exact .inr rfl | assumption) :
  PS X (.AugAssign (.Name x pos') op e pos) (tAug i te ti):=by
 intro pins s σ H D I h;obtain⟨v,e1,h⟩:=h;obtain⟨m,hn,hl⟩:=I.loc
 have vis:wt X.env.scope x:=by rcases hx with k | k;exact .inl k;exact .inr (.inl k)
 obtain⟨u,r,l⟩:=hl i x v hi e1 vis;refine wpAny_AugAssign_Name ?_
 have go:wpAny (model X.prog X.w) X.A (eval e X.env) (λw s₂=>wpAny (model X.prog X.w) X.A (inplaceOp op u w) (λr s₃=>wpAny (model X.prog X.w) X.A (storeName X.env x r) (λ_=>SP X pins D .next) X.xe s₃) X.xe s₂) X.xe s:=by
  refine bR (he pins s σ H _ I h) λw s1 hh_=> ?_
  obtain⟨y,H1,I1,r1,q1⟩:=hh_;refine bR (ho pins s1 σ H1 v y u w _ I1 r r1 q1) λz s2 hh_=> ?_
  obtain⟨zv,H2,I2,r2,q2⟩:=hh_;exact lh I2 hN hi hx r2 (λs3 I3=>⟨_,H2,I3,q2⟩) hf
 rcases l with⟨hk,hm⟩ | ⟨hk,c,hc,hcell⟩
 ·exact NQ I.ok.kind hk hn hm go
 ·rcases hk with hk | hk
  ·exact N5 I.ok.kind hk hc hcell go
  ·rcases hx with k | k
   ·have:X.env.scope.names.lookup x=some .free:=hk
    rw[k]at this;cases this
   ·have:X.env.scope.names.lookup x=some .free:=hk
    rw[k]at this;cases this
def ipI (f:Int->Int->Int):GC:=λx y H Q=> ∃i j,x= .int i/\y= .int j/\Q (.int (f i j)) H
theorem DW:PIp X .Add (ipI λi j=>i+j):=by
 intro pins s σ H x y v u Q I r1 r2 h;obtain⟨i,j,e1,e2,q⟩:=h;subst e1;subst e2;obtain⟨t,rfl⟩:=r1;obtain⟨t',rfl⟩:=r2;exact iadd_int ⟨.int _,H,I.tok _,⟨_,rfl⟩,q⟩
end
section
variable {X:Cx}{pos:Pos}
def sA (c:TT)(tb:TS):TS:=λD σ H=> ∃W:Nat->St->Hp->Prop,(∃m,W m σ H)/\∀m σ H,W m σ H →
 c σ H λb H1=>if b=true then ∃N:St->Hp->Prop,(∀σ' H',N σ' H'->∃m',m'<m/\W m' σ' H')/\tb { D with nx:=N,ct:=N,bk:=D.nx } σ H1 else D.nx σ H1
theorem xG {c:Expr}{body:List Stmt}{tc:TT}{tb:TS}(hp:PassesOwn (model X.prog X.w) X.A X.env X.xe)(hc:PT X c tc)(hb:PSs X body tb):PS X (.While c body [] pos) (sA tc tb):=by
 intro pins s σ H D I h;obtain⟨W,⟨m0,w0⟩,turn⟩:=h;refine wpAny_While (codeAny_whileLoop (λn s'=> ∃σ' H',Inv X pins σ' H' s'/\W n σ' H') ?_ m0 ⟨σ,H,I,w0⟩)
 rintro n s1 ⟨σ1,H1,I1,w1⟩
 refine P2 hp (bR (hc pins s1 σ1 H1 _ I1 (turn n σ1 H1 w1)) λb s2 hh_=> ?_)
 obtain⟨H2,I2,q2⟩:=hh_
 cases b with
 | true=>
  obtain⟨N,hN,q2⟩:=q2;rw[if_pos rfl];refine P2 hp (bR (hb pins s2 σ1 H2 _ I2 q2) λf s3 q3=> ?_)
  cases f with
  | next=>
   obtain⟨σ3,H3,I3,n3⟩:=q3;obtain⟨m',hm,w3⟩:=hN σ3 H3 n3
   exact⟨m',hm,σ3,H3,I3,w3⟩
  | cont=>
   obtain⟨σ3,H3,I3,n3⟩:=q3;obtain⟨m',hm,w3⟩:=hN σ3 H3 n3
   exact⟨m',hm,σ3,H3,I3,w3⟩
  | brk=>exact q3
  | ret v=>exact q3
 | false=>
  rw[if_neg Ig];exact Mc ⟨σ1,H2,I2,q2⟩
end
structure It where
 go:Nat->Hp->Prop
 yld:Nat->Hp->V->Hp->Prop
 stop:Nat->Hp->Prop
def mV (X:Cx)(pins:List (Addr×Obj))(H:Hp)(b:Addr):Prop:=
 H b=none/\b≠X.env.locals/\b∉X.fs/\(b∈X.ex\/X.s₀.heap.objs.size<=b)/\(∀x c,X.env.cells.lookup x=some c->c≠b)/\∀p∈X.pn++pins,p.1≠b
theorem Inv.G4 {X:Cx}{pins:List (Addr×Obj)}{σ:St}{H H':Hp}{s:HB}{b:Addr}(I:Inv X pins σ H s)(hb:s.heap.objs.size<=b)(hn:H' b=none):mV X pins H' b:=by
 refine⟨hn,Jm (HJ I.lt hb),I.Hv hb,.inr (Ii I.sz hb),λx c e z=> ?_,λp hp z=> ?_⟩
 ·obtain⟨v,q⟩:=I.cell x c e
  exact absurd (HJ q.lt (by rw[z];exact hb)) (Iw _)
 ·exact absurd (HJ (HM (I.pin p hp).1) (by rw[z];exact hb)) (Iw _)
structure zQ (P:H0)(w:IP)(K:Hy)(tg:Expr)(J:It)(fp:List Addr)(it:Addr)(tn:Nat->Heap->Prop):Prop where
 mem:it∈fp
 obj:∀i h,tn i h->∀b∈fp,∃o,h.get? b=some o/\∀v,o.data≠ .cell v
 keep:∀i h h',tn i h->(∀b∈fp,∀o,h.get? b=some o->h'.get? b=some o)->tn i h'
 item:∀(X:Cx),X.prog=P->X.w=w->X.K=K->X.calm=true->∀(i:Nat) (pins:List (Addr×Obj)) (s:HB) (σ:St) (H:Hp) (E:HA->HB->Prop),Inv X pins σ H s->(∀b∈fp,mV X pins H b)->tn i s.heap->J.go i H →
  wpAny (model P w) X.A (pyNext (.ref it)) (λr s1=> ∃u,r=some u ∧
   wpAny (model P w) X.A (Lb tg (.ref it) u) (λ_ s2=> ∃x H',Inv X pins σ H' s2/\RelV x u/\J.yld i H x H'/\tn (i+1) s2.heap/\∀b∈fp,H' b=none) E s1) E s
 done:∀(X:Cx),X.prog=P->X.w=w->X.K=K->X.calm=true->∀(i:Nat) (pins:List (Addr×Obj)) (s:HB) (σ:St) (H:Hp) (E:HA->HB->Prop),Inv X pins σ H s->(∀b∈fp,mV X pins H b)->tn i s.heap->J.stop i H →
  wpAny (model P w) X.A (pyNext (.ref it)) (λr s1=>r=none/\Inv X pins σ H s1) E s
 self:∀(A:Iu) (i:Nat) (s:HB) (Q:HA->HB->Prop) (E:HA->HB->Prop),tn i s.heap->Q (.ref it) s->wpAny (model P w) A (pyIter (.ref it)) Q E s
abbrev TI:=St->Hp->(It->Hp->Prop)->Prop
def PIE (X:Cx)(pins:List (Addr×Obj))(σ:St)(tg:Expr)(R:It->Hp->Prop)(itv:HA)(s2:HB):Prop:=
 ∃(it:Addr) (fp:List Addr) (tn:Nat->Heap->Prop) (J:It) (H':Hp),itv= .ref it/\Inv X pins σ H' s2/\zQ X.prog X.w X.K tg J fp it tn/\tn 0 s2.heap/\(∀b∈fp,mV X pins H' b)/\R J H'
def PI (X:Cx)(tg iter:Expr)(wi:TI):Prop:=
 ∀(pins:List (Addr×Obj)) (s:HB) (σ:St) (H:Hp) (R:It->Hp->Prop),Inv X pins σ H s->wi σ H R →
  wpAny (model X.prog X.w) X.A (eval iter X.env) (λv s1=>wpAny (model X.prog X.w) X.A (pyIter v) (PIE X pins σ tg R) X.xe s1) X.xe s
theorem y6 {M:Model}{A:Iu}{E:HA->HB->Prop}{s:HB}{tg:Expr}{it:Addr}{u:HA}{o:Obj}{n:String}{vs:Array HA}{Q:Unit->HB->Prop}(ho:s.heap.get? it=some o)(hc:o.cls= .type n)(hd:o.data= .fields vs)
  (hn:["enumerate","zip","dict_itemiterator","dict_reverseitemiterator","odict_iterator","itertools.zip_longest","itertools.pairwise"].contains n=false) (hQ:Q () s):wpAny M A (Lb tg (.ref it) u) Q E s:=by
 unfold Lb
 cases tg <;> first
  | exact HF hQ
  | (cases u <;> first
    | exact HF hQ
    | (refine Hw (wpAny_load ho ?_)
       rw[hc,hd]
       show wpAny M A (if (["enumerate","zip","dict_itemiterator","dict_reverseitemiterator","odict_iterator","itertools.zip_longest","itertools.pairwise"].contains n&&vs[0]? == some (rawInt _))=true then _ else _) Q E s
       rw[if_neg (by intro h;rw[hn,Bool.false_and]at h;cases h)]
       exact HF hQ))
def Itl (K:Hy)(a:Addr):It:=
 ⟨λi H=> ∃xs x,SqL K H a xs/\xs[i]? =some x,λi H x H'=>H'=H/\∀xs,SqL K H a xs->xs[i]? =some x,λi H=> ∃xs,SqL K H a xs/\xs.length<=i⟩
def Itt (K:Hy)(a:Addr):It:=
 ⟨λi H=> ∃xs x,SqT K H a xs/\xs[i]? =some x,λi H x H'=>H'=H/\∀xs,SqT K H a xs->xs[i]? =some x,λi H=> ∃xs,SqT K H a xs/\xs.length<=i⟩
def Itr (lo:Int)(n:Nat):It:=⟨λi _=>i<n,λi H x H'=>H'=H/\x= .int (lo+i),λi _=>n<=i⟩
theorem vm {P:H0}{w:IP}{K:Hy}{tg:Expr}(a it:Addr):zQ P w K tg (Itl K a) [it] it (λi h=>h.IsListIter it a i) where
 mem:=by simp
 obj:=λi h st b hb=>by
  have e:b=it:=by simpa using hb
  subst e;obtain⟨o,e,c,d⟩:=st;exact⟨o,e,λv z=>by rw[d]at z;cases z⟩
 keep:=λi h h' st k=>st.at λo e=>k it (by simp) o e
 item:=by
  intro X hP hw hK hc i pins s σ H E I hf st hg;subst hP hw hK;obtain⟨xs,x,hq,hx⟩:=hg;obtain⟨its,rv,p,hz⟩:=I.list hq;obtain⟨u,hu,ru⟩:=rv.get hx;obtain⟨f0,f1,f2,f3,f4,f5⟩:=hf it (by simp)
  refine Nh st p.isList (x:=u) (by simpa using hu) λh' st' sb=> ?_
  have I1:Inv X pins σ H { s with heap:=h' }:=I.turned (t':=s.toks) (λb o hb e=>(sb.2 b hb).trans e) f0 f1 f3 f4 f5
  obtain⟨o,e,c,d⟩:=id st';exact⟨u,rfl,y6 (s:={ s with heap:=h' }) e c d (by decide) ⟨x,H,I1,ru,⟨rfl,λys hy=>by rw[I.GW hy hq];exact hx⟩,st',λb hb=>(hf b hb).1⟩⟩
 done:=by
  intro X hP hw hK hc i pins s σ H E I hf st hg;subst hP hw hK;obtain⟨xs,hq,hx⟩:=hg;obtain⟨its,rv,p,hz⟩:=I.list hq;obtain⟨f0,f1,f2,f3,f4,f5⟩:=hf it (by simp)
  have hl:=rv.length;exact Nz (I.ok.hd hc) st p.isList (by simp;omega) λh' eb=>⟨rfl,I.turned (t':=s.toks) (λb o hb e=>eb b o hb e) f0 f1 f3 f4 f5⟩
 self:=λ_ _ _ _ _ st h=>wpAny_pyIter_listiter st h
theorem sv {P:H0}{w:IP}{K:Hy}{tg:Expr}(a it:Addr):zQ P w K tg (Itt K a) [it] it (λi h=>h.IsTupleIter it a i) where
 mem:=by simp
 obj:=λi h st b hb=>by
  have e:b=it:=by simpa using hb
  subst e;obtain⟨o,e,c,d⟩:=st;exact⟨o,e,λv z=>by rw[d]at z;cases z⟩
 keep:=λi h h' st k=>st.at λo e=>k it (by simp) o e
 item:=by
  intro X hP hw hK hc i pins s σ H E I hf st hg;subst hP hw hK;obtain⟨xs,x,hq,hx⟩:=hg;obtain⟨its,rv,p,hz⟩:=I.tuple hq;obtain⟨u,hu,ru⟩:=rv.get hx;obtain⟨f0,f1,f2,f3,f4,f5⟩:=hf it (by simp)
  refine wpAny_pyNext_tuple_item st (show s.heap.IsTuple a its.toArray from p) (x:=u) (by simpa using hu) λh' st' sb=> ?_
  have I1:Inv X pins σ H { s with heap:=h' }:=I.turned (t':=s.toks) (λb o hb e=>(sb.2 b hb).trans e) f0 f1 f3 f4 f5
  obtain⟨o,e,c,d⟩:=id st';exact⟨u,rfl,y6 (s:={ s with heap:=h' }) e c d (by decide) ⟨x,H,I1,ru,⟨rfl,λys hy=>by rw[I.GU hy hq];exact hx⟩,st',λb hb=>(hf b hb).1⟩⟩
 done:=by
  intro X hP hw hK hc i pins s σ H E I hf st hg;subst hP hw hK;obtain⟨xs,hq,hx⟩:=hg;obtain⟨its,rv,p,hz⟩:=I.tuple hq;obtain⟨f0,f1,f2,f3,f4,f5⟩:=hf it (by simp)
  have hl:=rv.length;exact wpAny_pyNext_tuple_end (I.ok.hd hc) st (show s.heap.IsTuple a its.toArray from p) (by simp;omega) λh' eb=>⟨rfl,I.turned (t':=s.toks) (λb o hb e=>eb b o hb e) f0 f1 f3 f4 f5⟩
 self:=λ_ _ _ _ _ st h=>wpAny_pyIter_tupleiter st h
theorem sy {P:H0}{w:IP}{K:Hy}{tg:Expr}(it:Addr)(lo:Int)(n:Nat):zQ P w K tg (Itr lo n) [it] it (λi h=>IsRangeIter h it (lo+(i:Nat)*1) ((n:Int) - (i:Nat)) 1) where
 mem:=by simp
 obj:=λi h st b hb=>by
  have e:b=it:=by simpa using hb
  subst e
  exact⟨_,st,λv z=>by
   have z':Data.fields _=Data.cell v:=z;cases z'⟩
 keep:=λi h h' st k=>k it (by simp) _ st
 item:=by
  intro X hP hw hK hc i pins s σ H E I hf st hg;subst hP hw hK;obtain⟨f0,f1,f2,f3,f4,f5⟩:=hf it (by simp)
  have W:=Walks.range (prog:=X.prog) (w:=X.w) (I.ok.hd hc) it lo 1 n;refine W.item i s _ _ hg st λv h' tk hv st' kk=> ?_
  obtain⟨t,rfl⟩:=hv
  have I1:Inv X pins σ H { s with heap:=h',toks:=tk }:=I.turned (λb o hb e=>kk b o (by simpa using hb) e) f0 f1 f3 f4 f5
  refine⟨_,rfl,y6 (s:={ s with heap:=h',toks:=tk }) (n:="range_iterator") st' rfl rfl (by decide) ⟨.int (lo+i),H,I1,⟨t,?_⟩,⟨rfl,rfl⟩,st',λb hb=>(hf b hb).1⟩⟩
  rw[Int.mul_one]
 done:=by
  intro X hP hw hK hc i pins s σ H E I hf st hg;subst hP hw hK;obtain⟨f0,f1,f2,f3,f4,f5⟩:=hf it (by simp)
  exact wpAny_pyNext_range_end (I.ok.hd hc) st (by have:n<=i:=hg;omega) λh' eb=>⟨rfl,I.turned (t':=s.toks) (λb o hb e=>eb b o hb e) f0 f1 f3 f4 f5⟩
 self:=λ_ _ _ _ _ st h=>wpAny_pyIter_rangeiter st h
section
variable {X:Cx}{tg:Expr}
def F0 (K:Hy)(tl:TE):TI:=λσ H R=>tl σ H λx H1=> ∃a,x= .ref a/\(∃xs,SqL K H1 a xs)/\R (Itl K a) H1
def iTup (K:Hy)(tl:TE):TI:=λσ H R=>tl σ H λx H1=> ∃a,x= .ref a/\(∃xs,SqT K H1 a xs)/\R (Itt K a) H1
theorem AY {l:Expr}{tl:TE}(hl:PE X l tl):PI X tg l (F0 X.K tl):=by
 intro pins s σ H R I h;refine bR (hl pins s σ H _ I h) λv s1 hh_=> ?_
 obtain⟨x,H1,I1,r1,q1⟩:=hh_;obtain⟨a,e,⟨xs,hq⟩,q⟩:=q1;subst e;cases r1;obtain⟨its,rv,p,hz⟩:=I1.list hq;refine Ls p.isList ?_
 refine⟨s1.heap.objs.size,[s1.heap.objs.size],_,_,H1,rfl,I1.kept (t':=s1.toks) λb o e=>HC _ e,vm a _,⟨_,HR _ rfl,rfl,rfl⟩,λb hb=> ?_,q⟩
 have e:b=s1.heap.objs.size:=by simpa using hb
 subst e;exact I1.G4 (HL _) (I1.hok.fresh (HL _))
theorem Di {l:Expr}{tl:TE}(hl:PE X l tl):PI X tg l (iTup X.K tl):=by
 intro pins s σ H R I h;refine bR (hl pins s σ H _ I h) λv s1 hh_=> ?_
 obtain⟨x,H1,I1,r1,q1⟩:=hh_;obtain⟨a,e,⟨xs,hq⟩,q⟩:=q1;subst e;cases r1;obtain⟨its,rv,p,hz⟩:=I1.tuple hq;refine Lc (show s1.heap.IsTuple a its.toArray from p) ?_
 refine⟨s1.heap.objs.size,[s1.heap.objs.size],_,_,H1,rfl,I1.kept (t':=s1.toks) λb o e=>HC _ e,sv a _,⟨_,HR _ rfl,rfl,rfl⟩,λb hb=> ?_,q⟩
 have e:b=s1.heap.objs.size:=by simpa using hb
 subst e;exact I1.G4 (HL _) (I1.hok.fresh (HL _))
theorem qW {pins:List (Addr×Obj)}{σ:St}{H:Hp}{s:HB}{R:It->Hp->Prop}{E:HA->HB->Prop}{lo hi:Int}{t u v:Tok}{tk:Nat}(I:Inv X pins σ H s)(h1 : -(2 ^ 62)<=lo)(h2:lo<2 ^ 62)(h3 : -(2 ^ 62)<=hi)(h4:hi<2 ^ 62)
  (q:R (Itr lo (hi - lo).toNat) H):wpAny (model X.prog X.w) X.A (pyIter (.ref s.heap.objs.size)) (PIE X pins σ tg R) E { s with heap:=s.heap.push { cls:=.type "range",data:=.fields #[.int lo t,.int hi u,.int 1 v] },toks:=tk }:=by
 refine wpAny_pyIter_range (IsRange.new ..) (small_one h1 h2 h3 h4) ?_
 have I1:Inv X pins σ H { s with heap:=s.heap.push { cls:=.type "range",data:=.fields #[.int lo t,.int hi u,.int 1 v] },toks:=tk }:=I.kept λb o e=>HC _ e
 refine⟨(s.heap.push { cls:=.type "range",data:=.fields #[.int lo t,.int hi u,.int 1 v] }).objs.size,[(s.heap.push { cls:=.type "range",data:=.fields #[.int lo t,.int hi u,.int 1 v] }).objs.size],_,_,H,rfl,
  I1.kept (t':=tk) λb o e=>HC _ e,sy _ lo (hi - lo).toNat,?_,λb hb=> ?_,q⟩
 ·have e1:lo+((0:Nat):Int)*1=lo:=by simp
  have e2:(((hi - lo).toNat:Nat):Int) - ((0:Nat):Int)=Builtin.Range.rangeSize lo hi 1:=by rw[rangeSize_one];split <;> omega
  show IsRangeIter _ _ (lo+((0:Nat):Int)*1) ((((hi - lo).toNat:Nat):Int) - ((0:Nat):Int)) 1
  rw[e1,e2];exact HR _ rfl
 ·have e:b=(s.heap.push { cls:=.type "range",data:=.fields #[.int lo t,.int hi u,.int 1 v] }).objs.size:=by simpa using hb
  subst e;exact I1.G4 (HL _) (I1.hok.fresh (HL _))
def tFor (wi:TI)(g:TG)(tb:TS):TS:=λD σ H=>wi σ H λJ H1=> ∃W:Nat->Nat->St->Hp->Prop,(∃m,W 0 m σ H1)/\∀i m σ H,W i m σ H →
 (J.stop i H/\D.nx σ H)\/(J.go i H/\∃N:St->Hp->Prop,(∀σ' H',N σ' H'->∃m',m'<m/\W (i+1) m' σ' H')/\∀x H',J.yld i H x H'->g x σ H' λσ2 H2=>tb { D with nx:=N,ct:=N,bk:=D.nx } σ2 H2)
def lI (fp:List Addr)(h:Heap):List (Addr×Obj):=fp.filterMap λb=>(h.get? b).map λo=>(b,o)
theorem fQ {fp:List Addr}{h:Heap}{b:Addr}{o:Obj}(hb:b∈fp)(e:h.get? b=some o):(b,o)∈lI fp h:=Mo.mpr ⟨b,hb,by rw[e];rfl⟩
theorem vH {fp:List Addr}{h:Heap}{p:Addr×Obj}(hp:p∈lI fp h):p.1∈fp/\h.get? p.1=some p.2:=by
 obtain⟨b,hb,e⟩:=Mo.mp hp
 cases q:h.get? b with
 | none=>rw[q]at e;cases e
 | some o=>
  rw[q]at e
  have e':(b,o)=p:=Ip e;subst e';exact⟨hb,q⟩
theorem Inv.pinned {pins:List (Addr×Obj)}{σ:St}{H:Hp}{s:HB}{fp:List Addr}(I:Inv X pins σ H s)(hf:∀b∈fp,mV X pins H b)(ho:∀b∈fp,∃o,s.heap.get? b=some o/\∀v,o.data≠ .cell v):Inv X (pins++lI fp s.heap) σ H s:=
 I.G2 λp hp=>(IL.mp hp).elim (λz=>I.pin p (Iz _ z)) λz=>by
  obtain⟨hb,e⟩:=vH z;obtain⟨f0,f1,f2,_⟩:=hf p.1 hb;obtain⟨o,e',d⟩:=ho p.1 hb;rw[e]at e';cases e';exact⟨e,f0,f1,f2,d⟩
theorem Inv.GP {pins pl:List (Addr×Obj)}{σ:St}{H:Hp}{s:HB}(I:Inv X (pins++pl) σ H s):Inv X pins σ H s:=I.G2 λp hp=>I.pin p (Iz _ (LR _ hp))
end
abbrev R2:=V->V->Hp->VK->Prop
def oC (X:Cx)(f:HA->HA->Sem HA)(r:R2):Prop:=
 ∀(pins:List (Addr×Obj)) (s:HB) (σ:St) (H:Hp) (x y:V) (v u:HA) (Q:VK),Inv X pins σ H s->RelV x v->RelV y u->r x y H Q →
  wpAny (model X.prog X.w) X.A (f v u) (EP X pins σ Q) X.xe s
def UnR (X:Cx)(f:HA->Sem HA)(r:V->Hp->VK->Prop):Prop:=
 ∀(pins:List (Addr×Obj)) (s:HB) (σ:St) (H:Hp) (x:V) (v:HA) (Q:VK),Inv X pins σ H s->RelV x v->r x H Q →
  wpAny (model X.prog X.w) X.A (f v) (EP X pins σ Q) X.xe s
def CallR (X:Cx)(f:HA)(r:List V->Hp->VK->Prop):Prop:=
 ∀(pins:List (Addr×Obj)) (s:HB) (σ:St) (H:Hp) (xs:List V) (us:List HA) (Q:VK),Inv X pins σ H s->Vals xs us->r xs H Q →
  wpAny (model X.prog X.w) X.A (call f us) (EP X pins σ Q) X.xe s
def tUn (r:V->Hp->VK->Prop)(ta:TE):TE:=λσ H Q=>ta σ H λx H1=>r x H1 Q
def rI (C:Int->Int->Prop)(g:Int->Int->V):R2:=λx y H Q=> ∃i j,x= .int i/\y= .int j/\C i j/\Q (g i j) H
def B1 (g:Int->Int->V):R2:=λx y H Q=> ∃i j,x= .int i/\y= .int j/\Q (g i j) H
def rU (g:Int->V):V->Hp->VK->Prop:=λx H Q=> ∃i,x= .int i/\Q (g i) H
section
variable {X:Cx}{a b c:Expr}{ta tb tc:TE}{pos:Pos}
theorem Fw {op:UnaryOp}{r:V->Hp->VK->Prop}(ho:UnR X (unaryOp op) r)(ha:PE X a ta):PE X (.UnaryOp op a pos) (tUn r ta):=by
 intro pins s σ H Q I h;exact UnaryOp_ (bR (ha pins s σ H _ I h) λv s1 ⟨x,H1,I1,r1,q1⟩=>ho pins s1 σ H1 x v Q I1 r1 q1)
theorem opI {f:HA->HA->Sem HA}{C:Int->Int->Prop}{g:Int->Int->Int}
  (rule:∀(i j:Int) (t u:Tok) (s:HB) (Q:HA->HB->Prop) (E:HA->HB->Prop),C i j->Q (.int (g i j) s.toks) { s with toks:=s.toks+1 }->wpAny (model X.prog X.w) X.A (f (.int i t) (.int j u)) Q E s) :
  oC X f (rI C λi j=> .int (g i j)):=by
 intro pins s σ H x y v u Q I rx ry h;obtain⟨i,j,rfl,rfl,hc,q⟩:=h;obtain⟨t,rfl⟩:=rx;obtain⟨t',rfl⟩:=ry;exact rule i j t t' s _ _ hc ⟨.int (g i j),H,I.tok _,⟨_,rfl⟩,q⟩
theorem FE {f:HA->HA->Sem HA}{g:Int->Int->Int}
  (rule:∀(i j:Int) (t u:Tok) (s:HB) (Q:HA->HB->Prop) (E:HA->HB->Prop),Q (.int (g i j) s.toks) { s with toks:=s.toks+1 }->wpAny (model X.prog X.w) X.A (f (.int i t) (.int j u)) Q E s) :
  oC X f (B1 λi j=> .int (g i j)):=by
 intro pins s σ H x y v u Q I rx ry h;obtain⟨i,j,rfl,rfl,q⟩:=h;obtain⟨t,rfl⟩:=rx;obtain⟨t',rfl⟩:=ry;exact rule i j t t' s _ _ ⟨.int (g i j),H,I.tok _,⟨_,rfl⟩,q⟩
theorem DA {f:HA->HA->Sem HA}{g:Int->Int->Bool}
  (rule:∀(i j:Int) (t u:Tok) (s:HB) (Q:HA->HB->Prop) (E:HA->HB->Prop),Q (.bool (g i j)) s->wpAny (model X.prog X.w) X.A (f (.int i t) (.int j u)) Q E s) :
  oC X f (B1 λi j=> .bl (g i j)):=by
 intro pins s σ H x y v u Q I rx ry h;obtain⟨i,j,rfl,rfl,q⟩:=h;obtain⟨t,rfl⟩:=rx;obtain⟨t',rfl⟩:=ry;exact rule i j t t' s _ _ ⟨.bl (g i j),H,I,rfl,q⟩
def CDiv (i j:Int):Prop:=0<j/\j<1073741824
def CMul (i j:Int):Prop:=(-(2 ^ 64)<i/\i<2 ^ 64)\/(-(2 ^ 64)<j/\j<2 ^ 64)
theorem CMul.ok {i j:Int}(h:CMul i j):IntMulOk i j:=by
 rcases h with⟨h1,h2⟩ | ⟨h1,h2⟩
 ·exact .of_left (intBits_le_64 h1 h2)
 ·exact .of_right (intBits_le_64 h1 h2)
theorem Dz:oC X (JM .Add) (B1 λi j=> .int (i+j)):=FE λ_ _ _ _ _ _ _ q=>add_int q
theorem Dt:oC X (JM .Sub) (B1 λi j=> .int (i - j)):=FE λ_ _ _ _ _ _ _ q=>sub_int q
theorem Dv:oC X (JM .Mult) (rI CMul λi j=> .int (i*j)):=opI λ_ _ _ _ _ _ _ hc q=>mul_int q hc.ok
theorem A9:oC X (JM .FloorDiv) (rI CDiv λi j=> .int (i / j)):=opI λi j _ _ _ _ _ hc q=>by
 have h1:(0:Int)<j:=hc.1
 have h2:j<1073741824:=hc.2;exact floordiv_int (by omega) (by rw[Int.fdiv_eq_ediv_of_nonneg i (by omega)];exact q) (.inl (PyProof.noPylong_small (by omega)))
theorem Dw:oC X (JM .Mod) (rI (λ_ j=>0<j) λi j=> .int (i % j)):=opI λi j _ _ _ _ _ hc q=>by
 have h1:(0:Int)<j:=hc;exact mod_int' (by omega) (by rw[Int.fmod_eq_emod_of_nonneg i (by omega)];exact q)
theorem unI {f:HA->Sem HA}{g:Int->Int}
  (rule:∀(i:Int) (t:Tok) (s:HB) (Q:HA->HB->Prop) (E:HA->HB->Prop),Q (.int (g i) s.toks) { s with toks:=s.toks+1 }->wpAny (model X.prog X.w) X.A (f (.int i t)) Q E s) :
  UnR X f (rU λi=> .int (g i)):=by
 intro pins s σ H x v Q I rx h;obtain⟨i,rfl,q⟩:=h;obtain⟨t,rfl⟩:=rx;exact rule i t s _ _ ⟨.int (g i),H,I.tok _,⟨_,rfl⟩,q⟩
theorem Cq:UnR X (unaryOp .USub) (rU λi=> .int (-i)):=unI λ_ _ _ _ _ q=>neg_int q
end
section
variable {X:Cx}{a b c:Expr}{ta tb tc:TE}{pos:Pos}
theorem zf {pins:List (Addr×Obj)}{σ:St}{H:Hp}{s:HB}{Q:VK}{k k':Bool}(I:Inv X pins σ H s)(q:Q (.bl k) H)(e:k=k'):EP X pins σ Q (.bool k') s:=by
 subst e;exact⟨.bl k,H,I,rfl,q⟩
theorem FA:oC X (IW .Lt) (B1 λi j=> .bl (decide (i<j))):=DA λ_ _ _ _ _ _ _ q=>lt_int q
theorem FC:oC X (IW .LtE) (B1 λi j=> .bl (decide (i<=j))):=DA λ_ _ _ _ _ _ _ q=>le_int q
theorem FD:oC X (IW .Gt) (B1 λi j=> .bl (decide (j<i))):=DA λ_ _ _ _ _ _ _ q=>gt_int q
theorem Dx:oC X (IW .Is) (λx y H Q=>y= .non/\Q (.bl (decide (x= .non))) H):=by
 intro pins s σ H x y v u Q I rx ry h;obtain⟨rfl,q⟩:=h;cases ry;refine is_none_gen (zf I q ?_)
 cases x <;> first
  | (cases rx;rfl)
  | (obtain⟨t,rfl⟩:=rx;rfl)
theorem A8:oC X (IW .IsNot) (λx y H Q=>y= .non/\Q (.bl (!decide (x= .non))) H):=by
 intro pins s σ H x y v u Q I rx ry h;obtain⟨rfl,q⟩:=h;cases ry;refine isnot_none_gen (zf I q ?_)
 cases x <;> first
  | (cases rx;rfl)
  | (obtain⟨t,rfl⟩:=rx;rfl)
theorem mf:(sizeLine:Nat)<2 ^ 63:=by rw[IG];decide
theorem sV:oC X (JM .Add) (λx y H Q=> ∃i j,x= .str i/\y= .str j/\i.length+j.length<=sizeLine/\Q (.str (i++j)) H):=by
 intro pins s σ H x y v u Q I rx ry h;obtain⟨i,j,rfl,rfl,hz,q⟩:=h;obtain⟨t,rfl⟩:=rx;obtain⟨t',rfl⟩:=ry;exact add_str (λt' tk=>⟨.str (i++j),H,I.tok _,⟨_,rfl⟩,q⟩) hz
theorem la {x:V}{us:List HA}(r:Vals [x] us):∃u,us= [u]/\RelV x u:=by
 cases r with
 | cons r1 r2=>cases r2;exact⟨_,rfl,r1⟩
theorem EH {x y:V}{us:List HA}(r:Vals [x,y] us):∃u w',us= [u,w']/\RelV x u/\RelV y w':=by
 cases r with
 | cons r1 r2=>
  cases r2 with
  | cons r3 r4=>cases r4;exact⟨_,_,rfl,r1,r3⟩
theorem wc:CallR X (.type "int") (λxs H Q=>(∃i,xs= [.int i]/\Q (.int i) H)\/∃k,xs= [.bl k]/\Q (.int (if k then 1 else 0)) H):=by
 intro pins s σ H xs us Q I r h;rcases h with⟨i,rfl,q⟩ | ⟨k,rfl,q⟩
 ·obtain⟨u,rfl,t,rfl⟩:=la r
  exact call_int_int ⟨.int i,H,I,⟨_,rfl⟩,q⟩
 ·obtain⟨u,rfl,r1⟩:=la r
  cases r1;exact call_int_bool ⟨.int (if k then 1 else 0),H,I.tok _,⟨_,rfl⟩,q⟩
end
structure ObjM (h:Heap)(x dx C:Addr)(mA:Str->Option HA):Prop where
 obj:h.get? x=some (Nk C dx)
 ns:h.Ns1 dx mA
 ne:dx≠x
theorem vM {h:Heap}{dx:Addr}{mA:Str->Option HA}(n:h.Ns1 dx mA):∃od,h.get? dx=some od/\∀name,NS name od=some (mA name):=by
 obtain⟨o,es,ep,ho,hd,hk,_,hm⟩:=n;refine⟨o,ho,λname=> ?_⟩
 have e:=hm name;unfold nsFind findBy at e;rw[<-Oe]at e
 unfold NS;rw[hd]
 dsimp only
 split
 ·rename_i y q
  rw[q]at e;exact congrArg some e
 ·rename_i q
  rw[q]at e
  have a:es.toList.any (·.refKey)=false:=by
   rw[List.any_eq_false];intro y hy;obtain⟨z,t,hkey⟩:=hk y (Array.mem_toList_iff.mp hy);simp[DictEntry.refKey,hkey]
  have a':¬ es.toList.any (·.refKey)=true:=by rw[a];exact Ig
  rw[if_neg a'];exact congrArg some e
theorem ObjM.look {h:Heap}{x dx C:Addr}{mA:Str->Option HA}(I:ObjM h x dx C mA):∃od,PySem.W.InstAt h x (Nk C dx) C (some od)/\∀name,NS name od=some (mA name):=
 let ⟨od,ho,hl⟩:=vM I.ns
 ⟨od,⟨I.obj,rfl,rfl,ho⟩,hl⟩
theorem RelO.some_of {v:V}{o:Option HA}(r:RelO (some v) o):∃u,o=some u/\RelV v u:=by
 cases o with
 | none=>exact(show False from r).elim
 | some u=>exact⟨u,rfl,r⟩
section
variable {P:H0}{w:IP}{H H':Hp}{h h':Heap}{a C dx:Addr}{fs fs':List (Str×V)}
theorem Bv (hok:HOk P w H h)(e:H a=some (.ins C dx fs)):∃mA,ObjM h a dx C mA/\(∀f,RelO (fs.lookup f) (mA f))/\PySem.Within mA (fs.map (·.1))/\fs.length<=1000/\H dx=some (.own a):=by
 obtain⟨d,z,ne,ob,mA,n,r,q⟩:=(show ObjOk P w H h a (.ins C dx fs)from hok a _ e)
 exact⟨mA,⟨ob,n,ne⟩,r,q,z,d⟩
end
structure Cls (K:Hy)(C:Addr):Prop where
 pg:Pk K C Str.empty=true
 hd:PySem.W.hasDictIn K C=true
 po:PySem.W.plainOver K C=true
 sa:PySem.W.findIn K (.ref C) "__setattr__" =some (some (.builtin "object.__setattr__"))
theorem Cls.get {K:Hy}{C:Addr}(c:Cls K C)(f:Str):Pk K C f=true:=c.pg
section
variable {X:Cx}{pins:List (Addr×Obj)}{σ:St}{H:Hp}{s:HB}{A:Iu}{E:HA->HB->Prop}{Q:HA->HB->Prop}{c:HA}{b:Bool}
inductive ka (K:Hy) (H:Hp):V->HA->Prop where
 | non:ka K H .non (.type "NoneType")
 | bl (x:Bool):ka K H (.bl x) (.type "bool")
 | int (i:Int):ka K H (.int i) (.type "int")
 | str (x:Str):ka K H (.str x) (.type "str")
 | flt (x:UInt64):ka K H (.flt x) (.type "float")
 | lst {a:Addr} {xs:List V} (e:H a=some (.lst xs)):ka K H (.ref a) (.type "list")
 | frz {a:Addr} {o:Obj} {xs:List V} (e:H a=some (.frz o (.lst xs))):ka K H (.ref a) (.type "list")
 | tup {a:Addr} {xs:List V} (e:H a=some (.tup xs)):ka K H (.ref a) (.type "tuple")
 | dK {a:Addr} {kvs:List (Key×V)} (e:H a=some (.dK kvs)):ka K H (.ref a) (.type "dict")
 | dT {a:Addr} {kvs:List (List Key×V)} (e:H a=some (.dT kvs)):ka K H (.ref a) (.type "dict")
 | ins {a C dx:Addr} {fs:List (Str×V)} (e:H a=some (.ins C dx fs)) (cl:Cls K C) (ha:PySem.W.findIn K (.ref C) "__class__" =some (some (.builtin "object.__class__")))
   (hn:PySem.W.specialIn K (.builtin "object.__class__") "__get__" =some (some (.builtin "getset_descriptor.__get__"))) (htk:PySem.W.takesIn K (.builtin "object.__class__")=some true)
   (hm:PySem.W.mroIn K C (.type "object")=some true):ka K H (.ref a) (.ref C)
theorem vS {x:V}{u t:HA}(I:Inv X pins σ H s)(rx:RelV x u)(ty:ka X.K H x t)(e:PySem.W.kitOne X.K t c=some b)(h:∀tk,Q (.bool b) { s with toks:=tk }) :
  wpAny (model X.prog X.w) A (call (.builtin "isinstance") [u,c]) Q E s:=by
 cases ty with
 | non=>cases (show u=IE from rx);exact Jn PySem.W.kitx_none I.kIn KD e (λz=>nomatch z) h
 | bl y=>cases (show u=Ji y from rx);exact Jn PySem.W.kitx_bool I.kIn KD e (λz=>nomatch z) h
 | int i=>obtain⟨t,q⟩:=(show ∃t,u=IU i t from rx);cases q;exact Jn PySem.W.kitx_int I.kIn KD e (λz=>nomatch z) h
 | str y=>obtain⟨t,q⟩:=(show ∃t,u=JG y t from rx);cases q;exact Jn PySem.W.kitx_str I.kIn KD e (λz=>nomatch z) h
 | flt y=>obtain⟨t,q⟩:=(show ∃t,u=Value.float y t from rx);cases q;exact Jn PySem.W.kitx_float I.kIn KD e (λz=>nomatch z) h
 | @lst a xs ea=>
  cases (show u=Iv a from rx)
  obtain⟨_,_,n,_,h1⟩:=(show ObjOk X.prog X.w H s.heap a (.lst xs)from I.hok a _ ea)
  exact Jn OD I.kIn ⟨_,h1,rfl⟩ e (λz=>nomatch z) h
 | @frz a ob xs ea=>
  cases (show u=Iv a from rx)
  obtain⟨_,_,_,n,_,h1⟩:=(show ObjOk X.prog X.w H s.heap a (.frz ob (.lst xs))from I.hok a _ ea)
  exact Jn OD I.kIn ⟨_,h1,rfl⟩ e (λz=>nomatch z) h
 | @tup a xs ea=>
  cases (show u=Iv a from rx)
  obtain⟨_,_,_,p⟩:=(show ObjOk X.prog X.w H s.heap a (.tup xs)from I.hok a _ ea)
  obtain⟨o,h1,h2,_⟩:=p
  exact Jn PySem.W.kitx_tuple I.kIn ⟨o,h1,h2⟩ e (λz=>nomatch z) h
 | @dK a kvs ea=>
  cases (show u=Iv a from rx)
  obtain⟨_,_,vs,_,p⟩:=(show ObjOk X.prog X.w H s.heap a (.dK kvs)from I.hok a _ ea)
  obtain⟨o,es,ep,h1,h2,_⟩:=p
  exact Jn OE I.kIn ⟨o,h1,h2.1⟩ e (λz=>nomatch z) h
 | @dT a kvs ea=>
  cases (show u=Iv a from rx)
  obtain⟨_,_,xs,_,o,es,ep,h1,h2,_⟩:=(show ObjOk X.prog X.w H s.heap a (.dT kvs)from I.hok a _ ea)
  exact Jn OE I.kIn ⟨o,h1,h2.1⟩ e (λz=>nomatch z) h
 | @ins a C dx fs ea cl ha hn htk hm=>
  cases (show u=Iv a from rx)
  obtain⟨mA,O,_⟩:=Bv I.hok ea;obtain⟨od,J,_⟩:=O.look;exact Jn (PySem.W.kitx_own (cl.get _) cl.hd ha hn htk hm) I.kIn J e (λz=>nomatch z) h
end
structure Room (k:Nat)(A:Iu):Prop where
 hd:A.handled=none
 dp:A.depth+3*k+5<recursionLimit
 un:A.units+16*k+200<cLine
theorem Room.mono {j k:Nat}{A:Iu}(r:Room k A)(h:j<=k):Room j A:=⟨r.hd,by have:=r.dp;omega,by have:=r.un;omega⟩
theorem Room.deeper {k:Nat}{A:Iu}(r:Room (k+1) A)(env:Env):Room k (A.deeper env):=
 ⟨r.hd,by have:=r.dp;show A.depth+1+3*k+5<_;omega,by have:=r.un;show A.units+3+16*k+200<_;omega⟩
theorem Room.in1 {k:Nat}{A:Iu}(r:Room (k+1) A):Room k A.in1:=
 ⟨r.hd,by have:=r.dp;show A.depth+3*k+5<_;omega,by have:=r.un;show A.units+1+16*k+200<_;omega⟩
theorem Room.depth {k:Nat}{A:Iu}(r:Room k A):A.depth<recursionLimit:=by have:=r.dp;omega
def EM:TA:=λ_ H Q=>Q [] H
def wQ (ta:TE)(tr:TA):TA:=λσ H Q=>ta σ H λx H1=>tr σ H1 λxs H2=>Q (x::xs) H2
section
variable {X:Cx}{e:Expr}{es:List Expr}{te:TE}{t:TA}{pos:Pos}
theorem lL:PA X [] EM:=λ_ _ _ _ H Q I h=>JT ⟨[],H,I,.nil,h⟩
theorem gW (ha:PE X e te)(hr:PA X es t)(hs:HY (e::es) X.env=(false,eval e X.env)::HY es X.env:=by rfl):PA X (e::es) (wQ te t):=by
 intro pos pins s σ H Q I h;rw[hs]
 show wpAny _ _ (spliced ((false,eval e X.env)::backTo pos (HY es X.env))) _ _ s
 refine J4 (bR (ha pins s σ H _ I h) λu s1 hh_=> ?_)
 obtain⟨x,H1,I1,r1,q1⟩:=hh_;exact bR (hr pos pins s1 σ H1 _ I1 q1) λus s2 ⟨xs,H2,I2,r2,q2⟩=>⟨x::xs,H2,I2,.cons r1 r2,q2⟩
def tTup (t:TA):TE:=λσ H Q=>t σ H λxs H1=>xs.length<=sizeLine/\∀p,H1 p=none->Q (.ref p) (upd H1 p (.tup xs))
def tLst (t:TA):TE:=λσ H Q=>t σ H λxs H1=>xs.length<=sizeLine/\∀p,H1 p=none->Q (.ref p) (upd H1 p (.lst xs))
theorem Dk {x1}(h:PA X es t):PE X (.Tuple es x1 pos) (tTup t):=by
 intro pins s σ H Q I hq;refine wpAny_Tuple_spliced (bR (h pos pins s σ H _ I hq) λus s1 ⟨xs,H1,I1,r,z,q⟩=>⟨by rw[<-r.length];exact z,?_⟩)
 have hf:H1 s1.heap.objs.size=none:=I1.hok.fresh (HL _);refine⟨.ref s1.heap.objs.size,upd H1 s1.heap.objs.size (.tup xs),I1.laid (t':=s1.toks) (λb u e=>HC _ e) (HL _) ?_,rfl,q _ hf⟩
 exact⟨z,us,r,⟨_,HR _ rfl,rfl,_,rfl⟩⟩
theorem Dp (h:PA X es t):PE X (.List es pos) (tLst t):=by
 intro pins s σ H Q I hq;refine Ox (bR (h pos pins s σ H _ I hq) λus s1 ⟨xs,H1,I1,r,z,q⟩=>⟨by rw[<-r.length];exact z,?_⟩)
 have hf:H1 s1.heap.objs.size=none:=I1.hok.fresh (HL _);refine⟨.ref s1.heap.objs.size,upd H1 s1.heap.objs.size (.lst xs),I1.laid (t':=s1.toks) (λb u e=>HC _ e) (HL _) ?_,rfl,q _ hf⟩
 exact⟨z,us,0,r,HR _ rfl⟩
end
abbrev Sp:=List V->Hp->VK->XK->Prop
abbrev wy:=List Env->Hp->HB->XK->HA->HB->Prop
structure Env0 (P:H0)(w:IP)(K:Hy)(mg:Str->Option HA)(base:Heap)(A:Iu)(outer:List Env)(s:HB)(H:Hp):Prop where
 frames:A.frames=some outer
 mod:Mod K mg base
 bs:∀b o,base.get? b=some o->s.heap.get? b=some o/\H b=none
 bsz:base.objs.size<=s.heap.objs.size
 funs:s.heap.FunFrames base outer
 frf:∀b∈i7 outer,H b=none
 hok:HOk P w H s.heap
 bare:Kk s.gens
 tb:Tb K mg H
def CE (outer:List Env)(P:H0)(w:IP)(H:Hp)(s:HB)(Q:VK)(u:HA)(s':HB):Prop:=
 ∃v H',s'.os=s.os/\Kk s'.gens/\Un (i7 outer) [] H H' s.heap s'.heap/\HOk P w H' s'.heap/\RelV v u/\Q v H'
def CR (CX:wy)(outer:List Env)(P:H0)(w:IP)(H:Hp)(s:HB)(Q:VK)(E:XK)(r:Result)(s':HB):Prop:=
 match r with
 | .ok (.ret u)=>CE outer P w H s Q u s'
 | .ok _=>False
 | .error e=>CX outer H s E e s'
structure qw (P:H0)(w:IP)(K:Hy)(mg:Str->Option HA)(base:Heap)(CX:wy)(k:Nat)(f:Addr)(fd:JN)(ps:List Str)(sp:Sp):Prop where
 len:∀vs H Q E,sp vs H Q E->vs.length=ps.length
 run:∀(A:Iu) (outer:List Env) (s:HB) (H:Hp) (args:Args) (us:List HA) (vs:List V) (Q:VK) (E:XK),Room k A->Env0 P w K mg base A outer s H->OY s fd args (ps.zip us)->Vals vs us->sp vs H Q E →
  codeAny (model P w) A (.call (.ref f) args) (CR CX outer P w H s Q E) s
theorem Env0.in1 {P:H0}{w:IP}{K:Hy}{mg:Str->Option HA}{base:Heap}{A:Iu}{outer:List Env}{s:HB}{H:Hp}(e:Env0 P w K mg base A outer s H) :
  Env0 P w K mg base A.in1 outer s H:=⟨e.frames,e.mod,e.bs,e.bsz,e.funs,e.frf,e.hok,e.bare,e.tb⟩
section
variable {X:Cx}{pins:List (Addr×Obj)}{σ:St}{H:Hp}{s s':HB}
theorem Inv.Hg (I:Inv X pins σ H s):Env0 X.prog X.w X.K X.mg X.base X.A X.stack s H:=
 ⟨I.ok.frames,I.ok.mod,I.bs,Ii I.ok.bsz I.sz,I.stack,I.GN,I.hok,I.bare,I.tb⟩
theorem Inv.after {Q:VK}{u:HA}(I:Inv X pins σ H s)(h:CE X.stack X.prog X.w H s Q u s'):EP X pins σ Q u s':=by
 obtain⟨v,H',os,bare,un,hok,r,q⟩:=h;obtain⟨hh,g,d,t,os'⟩:=s';obtain rfl:os'=s.os:=os;exact⟨v,H',I.call (h':=hh) (g':=g) (d':=d) (t':=t) (ch:=[]) un hok bare (λb z=>absurd z (by simp)),r,q⟩
end
def EV (sp:Sp)(dvs:List V)(E:XK)(t:TA):TE:=λσ H Q=>t σ H λvs H1=>sp (vs++dvs) H1 Q E
def Binds (K:Hy)(fd:JN)(ps:List Str)(ds:List HA):Prop:=
 ∀(s:HB) (us:List HA),K.In s.heap->(us++ds).length=ps.length->OY s fd ⟨us,[]⟩ (ps.zip (us++ds))
theorem Binds.all {K:Hy}{fd:JN}{ps:List Str}(h:∀us:List HA,us.length=ps.length->PD fd ⟨us,[]⟩=pure (ps.zip us)):Binds K fd ps []:=λs us _ hl=>by
 rw[JH]at hl ⊢;exact .of_eq (h us hl)
def tV (CX:wy)(X:Cx)(E:XK):Prop:=∀(pins:List (Addr×Obj)) (σ:St) (H:Hp) (s:HB) (e:HA) (s':HB),Inv X pins σ H s->CX X.stack H s E e s'->X.xe e s'
section
variable {X:Cx}{CX:wy}{k:Nat}{f C:Addr}{fd:JN}{ps:List Str}{sp:Sp}{dvs:List V}{ds:List HA}{E:XK}{x m:Str}{p pos apos:Pos}{e o:Expr}{es:List Expr}{ta:TE}{t:TA}
theorem CF {pins:List (Addr×Obj)}{σ:St}{H:Hp}{s:HB}{Q:VK}{us:List HA}{vs:List V}(F:qw X.prog X.w X.K X.mg X.base CX k f fd ps sp)(hr:Room k X.A)(hb:Binds X.K fd ps ds)(hd:Vals dvs ds)(hx:tV CX X E)
  (I:Inv X pins σ H s) (r:Vals vs us) (h:sp (vs++dvs) H Q E):wpAny (model X.prog X.w) X.A (call (.ref f) us) (EP X pins σ Q) X.xe s:=by
 have r2:Vals (vs++dvs) (us++ds):=r.append hd
 have hl:(us++ds).length=ps.length:=by rw[<-r2.length];exact F.len _ _ _ _ h
 refine OZ (K5 (F.run X.A X.stack s H ⟨us,[]⟩ (us++ds) (vs++dvs) Q E hr I.Hg (hb s us I.kIn hl) r2 h) λr s' hq=> ?_)
 cases r with
 | error e=>exact hx pins σ H s e s' I hq
 | ok fl=>
  cases fl with
  | ret u=>exact I.after hq
  | next=>exact JS hq
  | brk=>exact JS hq
  | cont=>exact JS hq
theorem uo (F:qw X.prog X.w X.K X.mg X.base CX k f fd ps sp)(hr:Room k X.A)(hg:Gl X x)(hm:X.mg x=some (.ref f))(hk:Lv X.K (.ref f)=true)(hb:Binds X.K fd ps ds)(hd:Vals dvs ds)(hx:tV CX X E)
  (ha:PA X (e::es) t) (hdb:iA x:=by decide) (he:HY (e::es) X.env=(false,eval e X.env)::HY es X.env:=by rfl) (hpl:(backTo pos (HY es X.env)).any (·.1)=false:=by rfl) :
  PE X (.Call (.Name x p) (e::es) [] pos) (EV sp dvs E t):=by
 intro pins s σ H Q I h;refine IR (kX I hg hm ?_ hdb)
 refine Oa (h₀:=X.base) I.ok.mod.kin hk (bR (ha pos pins s σ H _ I h) λus s1 ⟨vs,H1,I1,r,q⟩=>⟨I1.kIn,?_⟩) he hpl
 exact CF F hr hb hd hx I1 r q
end
structure ay (N P:List Str)(sc:Le):Prop where
 kind:sc.kind= .function
 co:sc.isCoroutine=false
 gen:sc.isGenerator=false
 nd:N.Nodup
 pre:N.take P.length=P
 par:∀x∈P,sc.names.lookup x=some .local\/sc.names.lookup x=some .cell
 nofree:∀y∈sc.names,y.2≠ .free
theorem om {kindOf:Str->Option KF}{x:Str}:∀{binds:List (Str×HA)} {m:Str->Option HA},(∀v,(x,v)∉binds)->bindL kindOf binds m x=m x
 | [],_,_=>rfl
 | (n,v)::r,m,h=>by
  unfold bindL;rw[om λw hw=>h w (HH _ hw)]
  split
  ·have:x≠n:=by rintro rfl;exact h v HK
   simp[this]
  ·rfl
theorem oq {kindOf:Str->Option KF}{x:Str}:∀{binds:List (Str×HA)} {m:Str->Option HA},(∀v,(x,v)∉binds)->bindC kindOf binds m x=m x
 | [],_,_=>rfl
 | (n,v)::r,m,h=>by
  unfold bindC;rw[oq λw hw=>h w (HH _ hw)]
  split
  ·rfl
  ·have:x≠n:=by rintro rfl;exact h v HK
   simp[this]
theorem oo {kindOf:Str->Option KF}{x:Str}{v:HA}:∀{P:List Str} {vs:List HA} {i:Nat} {m:Str->Option HA},P.Nodup->P[i]? =some x->vs[i]? =some v->kindOf x=some .local →
  bindL kindOf (P.zip vs) m x=some v
 | [],_,_,_,_,h,_,_=>by simp at h
 | _::_,[],_,_,_,_,h,_=>by simp at h
 | p::P,w::vs,0,m,nd,h1,h2,hk=>by
  simp at h1 h2;subst h1;subst h2
  show bindL kindOf ((p,w)::P.zip vs) m p=_
  unfold bindL;rw[om λv hv=>(IV.mp nd).1 (Kv hv).1,if_pos hk]
  simp
 | p::P,w::vs,i+1,m,nd,h1,h2,hk=>by
  show bindL kindOf ((p,w)::P.zip vs) m x=_
  unfold bindL;exact oo (i:=i) (IV.mp nd).2 (by simpa using h1) (by simpa using h2) hk
theorem ou {kindOf:Str->Option KF}{x:Str}{v:HA}:∀{P:List Str} {vs:List HA} {i:Nat} {m:Str->Option HA},P.Nodup->P[i]? =some x->vs[i]? =some v->kindOf x≠some .local →
  bindC kindOf (P.zip vs) m x=some v
 | [],_,_,_,_,h,_,_=>by simp at h
 | _::_,[],_,_,_,_,h,_=>by simp at h
 | p::P,w::vs,0,m,nd,h1,h2,hk=>by
  simp at h1 h2;subst h1;subst h2
  show bindC kindOf ((p,w)::P.zip vs) m p=_
  unfold bindC;rw[oq λv hv=>(IV.mp nd).1 (Kv hv).1,if_neg hk]
  simp
 | p::P,w::vs,i+1,m,nd,h1,h2,hk=>by
  show bindC kindOf ((p,w)::P.zip vs) m x=_
  unfold bindC;exact ou (i:=i) (IV.mp nd).2 (by simpa using h1) (by simpa using h2) hk
def start (N:List Str)(vs:List V):St:=vs.map some++Ib (N.length - vs.length) none
def gI (CX:wy)(P:H0)(w:IP)(K:Hy)(mg:Str->Option HA)(base:Heap)(N:List Str)(qual:Str)(scope:Le)(f:Addr)(cd:HA)(A:Iu)(outer:List Env)(s:HB)(H:Hp)(E:XK):Cx where
 prog:=P
 w:=w
 K:=K
 mg:=mg
 base:=base
 A:=A.deeper (envOfC qual scope s.heap.objs.size f cd)
 N:=N
 s₀:=s
 H₀:=H
 env:=envOfC qual scope s.heap.objs.size f cd
 outer:=outer
 stack:=envOfC qual scope s.heap.objs.size f cd::outer
 ex:=[]
 calm:=true
 fn:=λ_=>true
 pn:=[]
 xe:=λe s'=>wpAny (model P w) (A.deeper (envOfC qual scope s.heap.objs.size f cd)) (leaving (envOfC qual scope s.heap.objs.size f cd) e) (λ_ s''=>CX outer H s E e s'') (λe' s''=>CX outer H s E e' s'') s'
theorem sf {sc:Le}{n:Nat}{x:Str}(h:sc.names.lookup x=some .cell):∃c,(Kl n sc.names []).lookup x=some c:=by
 have q:=Ks sc.names n [] (.inl h);exact Option.isSome_iff_exists.mp q
theorem j5 {CX:wy}{P:H0}{w:IP}{K:Hy}{mg:Str->Option HA}{base:Heap}{N ps:List Str}{qual:Str}{scope:Le}{f:Addr}{cd:HA}{A:Iu}{outer:List Env}{s s1:HB}{H:Hp}{E:XK}{us:List HA}{vs:List V}
  (S:ay N ps scope) (hd:A.handled=none) (e0:Env0 P w K mg base A outer s H) (hl:vs.length=ps.length) (r:Vals vs us)
  (x:InCallC s s.heap.objs.size (bindL (envOfC qual scope s.heap.objs.size f cd).kindOf (ps.zip us) λ_=>none) (Kl (s.heap.objs.size+1) scope.names []) (bindC (envOfC qual scope s.heap.objs.size f cd).kindOf (ps.zip us) λ_=>none) s1) :
  Inv (gI CX P w K mg base N qual scope f cd A outer s H E) [] (start N vs) H s1:=by
 have hpl:ps.length<=N.length:=by have:=congrArg Kw S.pre;rw[J1]at this;omega
 obtain⟨h1,tk,rfl,hk⟩:=x.done
 have noA:∀b:Addr,b∉(gI CX P w K mg base N qual scope f cd A outer s H E).ex:=λb z=>absurd (show b∈([]:List Addr)from z) (by simp)
 refine⟨⟨e0.mod,S.kind,rfl,rfl,HL _,λy z c h1 h2=> ?_,λy hy=> ?_,λy c _ h=> ?_,λ_=>hd,Around.frames_deeper e0.frames,.inr ⟨rfl,rfl⟩,λb z=>absurd z (noA b),e0.bs,e0.bsz,λb _ _=>noA b,λb z=>absurd z (noA b),e0.funs,e0.frf,e0.tb⟩,
  rfl,e0.bare,Un.kept hk,⟨_,x.toInCall.ns,λi y v h1 h2 h3=> ?_⟩,λy c h=>⟨_,x.cell y c h⟩,e0.hok.fresh (HL _),λy c h=> ?_,λp hp=>absurd (show p∈([]:List (Addr×Obj))from hp) (by simp),e0.hok.kept hk,?_⟩
 ·exact name_of_addr x.apart (JV h1) (JV h2)
 ·have hy:scope.names.lookup y=some .cell\/scope.names.lookup y=some .free:=hy
  rcases hy with hy | hy
  ·exact sf hy
  ·exact absurd rfl (S.nofree _ (JV hy))
 ·exact Jl (x.above y c (JV h))
 ·have hi:i<vs.length:=by
   unfold start at h2
   by_cases hi:i<vs.length
   ·exact hi
   ·rw[KJ (by simpa using hi)]at h2
    rw[K8]at h2
    split at h2 <;> cases h2
  have ha:vs[i]? =some v:=by
   unfold start at h2;rw[Ka (by simpa using hi),Ij]at h2
   cases e:vs[i]? with
   | none=>rw[e]at h2;cases h2
   | some a=>rw[e]at h2;cases h2;rfl
  obtain⟨u,hu,rv⟩:=r.get ha
  have hp:ps[i]? =some y:=by
   rw[<-S.pre,List.getElem?_take_of_lt (by omega)];exact h1
  have ndP:ps.Nodup:=by rw[<-S.pre];exact S.nd.sublist (OI _ _)
  refine⟨u,rv,?_⟩
  rcases S.par y (IF hp)with k | k
  ·exact .inl ⟨k,oo ndP hp hu k⟩
  ·obtain⟨c,e⟩:=sf (n:=s.heap.objs.size+1) k
   refine .inr ⟨.inl k,c,e,?_⟩
   have q:=x.cell y c e;rw[ou ndP hp hu (by show scope.names.lookup y≠_;rw[k];decide)]at q
   exact q
 ·exact e0.hok.fresh (Jl (x.above y c (JV h)))
 ·unfold start
  show _=N.length
  rw[HP,HI,List.length_replicate];omega
theorem F6 {CX:wy}{P:H0}{w:IP}{K:Hy}{mg:Str->Option HA}{base:Heap}{k:Nat}{f:Addr}{name qual:Str}{params:LJ}{body:List Stmt}{scope:Le}{dV kV doc pm cdv ct oc:HA}{an od:Option Addr}
  {osl:Array (Option HA)} {N ps:List Str} {sp:Sp} (lk:K.lookup f=some ⟨oc,od,.func (LA name qual params body scope dV kV doc pm an cdv ct),osl⟩) (hcd:NT K cdv qual=true) (S:ay N ps scope)
  (len:∀vs H Q E,sp vs H Q E->vs.length=ps.length)
  (hbody:∀(A:Iu) (outer:List Env) (s:HB) (H:Hp) (vs:List V) (Q:VK) (E:XK),Room k (A.deeper (envOfC qual scope s.heap.objs.size f cdv))->sp vs H Q E →
   ∃t,PSs (gI CX P w K mg base N qual scope f cdv A outer s H E) body t/\t { nx:=λ_ H'=>Q .non H',rt:=Q } (start N vs) H) :
  qw P w K mg base CX (k+1) f (LA name qual params body scope dV kV doc pm an cdv ct) ps sp:=by
 refine⟨len,λA outer s H args us vs Q E hr e0 hb r hsp=> ?_⟩
 have hl:=len _ _ _ _ hsp
 have KX:K.In s.heap:=e0.mod.kin.keeps λb o e=>(e0.bs b o e).1
 have lim:s.heap.NoLimit:=e0.mod.nolimit.keeps λb o e=>(e0.bs b o e).1
 have hkind:∀y∈ps.zip us,scope.names.lookup y.1=some .local\/(scope.names.lookup y.1=some .cell/\((Kl (s.heap.objs.size+1) scope.names []).lookup y.1).isSome=true):=λ⟨n,v⟩ hy=>by
  rcases S.par n (Kv hy).1 with q | q
  ·exact .inl q
  ·exact .inr ⟨q,Ks _ _ _ (.inl q)⟩
 refine NA hr.depth (KX _ _ lk) rfl S.co S.gen rfl (Ob KX hcd) (hb _ _ _ _ ?_)
 refine KL S.kind hkind λenv he s1 x=> ?_
 subst he;refine⟨lim.keeps x.toInCall.keep,codeAny_func ?_⟩
 obtain⟨t,ht,hq⟩:=hbody A outer s H vs Q E (hr.deeper _) hsp
 have I:Inv (gI CX P w K mg base N qual scope f cdv A outer s H E) [] (start N vs) H s1:=j5 S hr.hd e0 hl r x;refine J3 (ht [] s1 (start N vs) H _ I hq) (λfl s' hs=> ?_) λe s' hs=>hs
 have fin:∀{σ':St} {H':Hp} {v:V} {u:HA},Inv (gI CX P w K mg base N qual scope f cdv A outer s H E) [] σ' H' s'->RelV v u->Q v H'->CE outer P w H s Q u s':=
  λ{σ' H' v u} J rv q=>⟨v,H',J.os,J.bare,J.base,J.hok,rv,q⟩
 cases fl with
 | ret u=>
  obtain⟨v,σ',H',J,rv,q⟩:=hs
  exact fin J rv q
 | next=>
  obtain⟨σ',H',J,q⟩:=hs
  exact fin (v:=V.non) (u:=IE) J rfl q
 | brk=>
  obtain⟨_,_,_,q⟩:=hs
  exact JS q
 | cont=>
  obtain⟨_,_,_,q⟩:=hs;exact JS q
end L2
namespace HT
open PySem PyProof.Rows
def lexLt:List Int->List Int->Bool
 | [],[] =>false
 | [],_::_=>true
 | _::_,[] =>false
 | x::xs,y::ys=>if x=y then lexLt xs ys else decide (x<y)
theorem lexLt_cons (x y:Int)(xs ys:List Int):lexLt (x::xs) (y::ys)=if x=y then lexLt xs ys else decide (x<y):=rfl
theorem ni:lexLt [] [] =false:=rfl
theorem mi (y:Int)(ys:List Int):lexLt [] (y::ys)=true:=rfl
theorem mj (x:Int)(xs:List Int):lexLt (x::xs) [] =false:=rfl
theorem zk (A:Iu)(s:HB)(a:Int)(t:Tok)(c:Int)(u:Tok):∃e,SeqAt.EqAt A s (.int a t) (.int c u) e/\(e=true↔a=c):=
 ⟨(a == c),Oc a t c u,by simp⟩
theorem xp (A:Iu)(s:HB)(a:Int)(t:Tok)(c:Int)(u:Tok)(prog:H0)(w:IP)(E:HA->HB->Prop)(Q:HA->HB->Prop)(h:Q (.bool (decide (a<c))) s) :
  wpAny (model prog w) A (richCompare .Lt (.int a t) (.int c u)) Q E s:=
 (PyProof.Rows.lt_int h:wpAny (model prog w) A (IW .Lt (.int a t) (.int c u)) Q E s)
section
variable {prog:H0}{w:IP}{A:Iu}{E:HA->HB->Prop}{s:HB}
theorem cat_tup {t b:Addr}{vs ws:List HA}{Q:HA->HB->Prop}(ht:Qg s.heap t vs.toArray)(hb:Qg s.heap b ws.toArray)(hv:vs≠ [])
  (h1:ws= []->Q (.ref t) s) (h2:ws≠ []->Q (.ref s.heap.objs.size) { s with heap:=s.heap.push { cls:=.type "tuple",data:=.seq (vs++ws).toArray } })
  (hsz:vs.length+ws.length<=sizeLine):wpAny (model prog w) A (JM .Add (.ref t) (.ref b)) Q E s:=by
 obtain⟨⟨cls,dd,data,sl⟩,ho,hc,n,hd⟩:=id ht;obtain⟨⟨cls2,dd2,data2,sl2⟩,ho2,hc2,n2,hd2⟩:=id hb;simp only at hc hd hc2 hd2;subst hc hd hc2 hd2
 have e:vs.toArray++ws.toArray=(vs++ws).toArray:=by simp
 by_cases hw:ws= []
 ·exact Pf ⟨_,ho,rfl⟩ ⟨_,ho2,rfl⟩ Na Oy Lf K6 (K1 _ _)
   (tuple_addW1 t b vs.toArray ws.toArray n n2 dd dd2 sl sl2 (by simpa using hv) (by simp[hw])) ⟨ho,ho2,h1 hw⟩
 ·refine Pf ⟨_,ho,rfl⟩ ⟨_,ho2,rfl⟩ Na Oy Lf K6 (K1 _ _)
   (tuple_addW2 t b vs.toArray ws.toArray n n2 dd dd2 sl sl2 (by simpa using hv) (by simpa using hw) (by rw[HU,HU];exact hsz)) ⟨ho,ho2,?_⟩
  rw[e];exact h2 hw
def sIx (n d:Nat):Option Int->Nat
 | none=>d
 | some v=>if v<0 then(v+(n:Int)).toNat else min v.toNat n
theorem sIx_none (n d:Nat):sIx n d none=d:=rfl
theorem sIx_nat (n d k:Nat):sIx n d (some (k:Int))=min k n:=by
 show(if (k:Int)<0 then((k:Int)+(n:Int)).toNat else min (k:Int).toNat n)=min k n
 rw[if_neg (by omega),IM]
theorem CD (n d:Nat)(hd:d<=n)(o:Option Int):sIx n d o<=n:=by
 cases o with
 | none=>exact hd
 | some v=>
  show(if v<0 then(v+(n:Int)).toNat else min v.toNat n)<=n
  by_cases hv:v<0
  ·rw[if_pos hv];omega
  ·rw[if_neg hv];exact Nat.min_le_right _ _
theorem u7 (v:Int)(n d:Nat):(if v<0 then max (v+(n:Int)) 0 else min v (n:Int))=((sIx n d (some v):Nat):Int):=by
 show(if v<0 then max (v+(n:Int)) 0 else min v (n:Int))=(((if v<0 then(v+(n:Int)).toNat else min v.toNat n):Nat):Int)
 by_cases hv:v<0
 ·simp only[if_pos hv];omega
 ·simp only[if_neg hv];omega
theorem tU (lo hi:Option Int)(n:Nat):KO lo hi 1 (n:Int)=(((sIx n 0 lo:Nat):Int),((sIx n n hi:Nat):Int)):=by
 have h1:¬ ((1:Int)<0):=by omega
 unfold KO;simp only[h1,if_false];refine Prod.ext ?_ ?_
 ·cases lo with
  | none=>rfl
  | some v=>exact u7 v n 0
 ·cases hi with
  | none=>rfl
  | some v=>exact u7 v n n
theorem sU (i j:Nat):J8 (i:Int) (j:Int) 1=j - i:=by
 unfold J8
 have h1:(1:Int) > 0:=by omega
 simp only[h1,if_true,Int.ediv_one]
 split <;> omega
theorem ly {v:HA}{o:Option Int}{Q:Option Int->HB->Prop}(p:Oz v o)(h:Q o s):wpAny (model prog w) A (Pw v) Q E s:=by
 cases p with
 | none=>exact slicePart_none h
 | int i t=>exact slicePart_int h
theorem fB {sl:Addr}{vl vu:HA}{lo hi:Option Int}{n:Nat}{Q:Int×Int×Nat->HB->Prop}(hs:s.heap.IsSliceOf sl vl vu .none)(pl:Oz vl lo)(pu:Oz vu hi)
  (h:Q (((sIx n 0 lo:Nat):Int),1,sIx n n hi - sIx n 0 lo) s):wpAny (model prog w) A (Mg (.ref sl) (pure (n:Int))) Q E s:=by
 obtain⟨os,hos,hcs,hds⟩:=id hs;unfold Mg Builtin.Slice.sliceFields;refine Hw (Hw (K0 hos hds (x:=vl) rfl (Hw (K0 hos hds (x:=vu) rfl (Hw (K0 hos hds (x:=.none) rfl (HF ?_)))))))
 refine Hw (slicePart_none ?_)
 show wpAny _ _ (if ((1:Int) == 0)=true then _ else _) _ _ s
 rw[if_neg (by decide)]
 refine Hw (ly pl (Hw (ly pu (Hw (HF ?_)))))
 show wpAny _ _ (match KO lo hi 1 (n:Int)with | (lo,hi)=>pure (lo,(1:Int),J8 lo hi 1)) _ _ s
 rw[tU lo hi n]
 show wpAny _ _ (pure (((sIx n 0 lo:Nat):Int),(1:Int),J8 ((sIx n 0 lo:Nat):Int) ((sIx n n hi:Nat):Int) 1)) _ _ s
 rw[sU];exact HF h
theorem xK (xs:Array HA)(i k:Nat):((HD k).filterMap λ(m:Nat)=>xs[((i:Int)+(m:Int)*1).toNat]?).toArray=((xs.toList.drop i).take k).toArray:=by
 have e:(λ(m:Nat)=>xs[((i:Int)+(m:Int)*1).toNat]?)=λm=>xs[i+m]?:=by
  funext m
  have:((i:Int)+(m:Int)*1).toNat=i+m:=by omega
  rw[this]
 rw[e]
 have:=pick_run xs i k;rw[List.filterMap_map]at this
 have e2:((λx=>xs[x]?)∘λx=>i+x)=λm=>xs[i+m]?:=rfl
 rw[e2]at this;rw[this]
theorem getItem_tuple_cut {t sl:Addr}{items:Array HA}{vl vu:HA}{lo hi:Option Int}{Q:HA->HB->Prop}(ht:Qg s.heap t items)(hs:s.heap.IsSliceOf sl vl vu .none)(pl:Oz vl lo)(pu:Oz vu hi)
  (hw:¬ (sIx items.size 0 lo=0/\sIx items.size items.size hi=items.size))
  (h:Q (.ref s.heap.objs.size) { s with heap:=s.heap.push { cls:=.type "tuple",data:=.seq ((items.toList.drop (sIx items.size 0 lo)).take (sIx items.size items.size hi - sIx items.size 0 lo)).toArray } })
  (hsz:items.size<=sizeLine):wpAny (model prog w) A (getItem (.ref t) (.ref sl)) Q E s:=by
 have htake:sizeOk (.seq ((items.toList.drop (sIx items.size 0 lo)).take (sIx items.size items.size hi - sIx items.size 0 lo)).toArray):=by
  show((items.toList.drop (sIx items.size 0 lo)).take (sIx items.size items.size hi - sIx items.size 0 lo)).toArray.size<=sizeLine
  rw[HU,J1,J2,IB];omega
 have hj:sIx items.size items.size hi<=items.size:=CD _ _ (HL _) hi;obtain⟨os,hos,hcs,hds⟩:=id hs
 have hTs:s.TypeIs (.ref sl) "slice":=⟨os,hos,hcs⟩;unfold getItem
 try with_reducible refine Jp ?_
 first | refine Hw (HF ?_) | skip
 refine Hw (O0 ht.typeIs (by decide) ?_)
 refine Hw (Jj (name:=HW "__getitem__") ht.typeIs IJ
  (Jh IJ ht.typeIs N6 ?_ (OA _ _)))
 show wpAny _ _ (Mh (.ref t) >>= _) _ _ s
 refine Hw (OB ht ?_)
 refine Hw (KB hTs ?_)
 rw[if_pos (by decide)]
 refine Hw (fB hs pl pu ?_)
 have hno:¬ ((((sIx items.size 0 lo:Nat):Int) == 0&&(1:Int) == 1&&(sIx items.size items.size hi - sIx items.size 0 lo) == items.size)=true):=by
  intro q;rw[Hz,Hz]at q
  have q1:((sIx items.size 0 lo:Nat):Int)=0:=eq_of_beq q.1.1
  have q2:sIx items.size items.size hi - sIx items.size 0 lo=items.size:=eq_of_beq q.2;exact hw ⟨by omega,by omega⟩
 show wpAny _ _ (if (((sIx items.size 0 lo:Nat):Int) == 0&&(1:Int) == 1&&(sIx items.size items.size hi - sIx items.size 0 lo) == items.size)=true then _ else _) _ _ s
 rw[if_neg hno,xK]
 first
  | exact Hw (m:=JL _) (IQ (HF ⟨_,rfl,HF h⟩) htake)
  | exact Hw (m:=JL _) (IQ (Hw (HF (HF ⟨_,rfl,HF h⟩))) htake)
  | exact Hw (Hw (m:=JL _) (IQ (HF (HF ⟨_,rfl,HF h⟩)) htake))
  | exact Hw (Hw (m:=JL _) (IQ (HF ⟨_,rfl,HF h⟩) htake))
end
end HT
namespace L2
open PySem PySem.Spec PyProof.Rows
abbrev TO:=St->Hp->(Option Int->Hp->Prop)->Prop
def PO (X:Cx)(e:Option Expr)(t:TO):Prop:=
 ∀(pins:List (Addr×Obj)) (s:HB) (σ:St) (H:Hp) (Q:Option Int->Hp->Prop),Inv X pins σ H s->t σ H Q →
  wpAny (model X.prog X.w) X.A (evalPart e X.env) (λu s'=> ∃o H',Inv X pins σ H' s'/\Oz u o/\Q o H') X.xe s
def Ah:TO:=λ_ H Q=>Q none H
def EJ (t:TE):TO:=λσ H Q=>t σ H λx H1=> ∃i,x= .int i/\Q (some i) H1
theorem tJ {ns:List Int}:∀{us:List HA},Vals (ns.map V.int) us->Jw us ns:=by
 induction ns with
 | nil=>intro us r;rw[Nn]at r;cases r;exact .nil
 | cons n ns ih=>
  intro us r;rw[HE]at r
  cases r with
  | cons r1 r2=>
   obtain⟨t,e⟩:=r1;subst e;exact .cons n t (ih r2)
section
variable {X:Cx}{e:Expr}{te:TE}{lo hi:Option Expr}{tl th:TO}{pos p2:Pos}
theorem AU:PO X none Ah:=by
 intro pins s σ H Q I h;rw[evalPart_none];exact HF ⟨none,H,I,.none,h⟩
theorem AS (h:PE X e te):PO X (some e) (EJ te):=by
 intro pins s σ H Q I hw;rw[evalPart_some];refine bR (h pins s σ H _ I hw) λu s1 hh_=> ?_
 obtain⟨x,H1,I1,r1,q1⟩:=hh_;obtain⟨i,rfl,q⟩:=q1;obtain⟨t,rfl⟩:=r1;exact⟨some i,H1,I1,.int i t,q⟩
def SlR (X:Cx)(r:V->Option Int->Option Int->Hp->VK->Prop):Prop:=
 ∀(pins:List (Addr×Obj)) (s:HB) (σ:St) (H:Hp) (x:V) (v vl vu:HA) (lo hi:Option Int) (sl:Addr) (Q:VK),Inv X pins σ H s->RelV x v->s.heap.IsSliceOf sl vl vu .none->Oz vl lo->Oz vu hi->r x lo hi H Q →
  ∃T id,O4 (.type T) "__getitem__" =pure (some (.builtin id))/\s.TypeIs v T/\wpAny (model X.prog X.w) X.A (getItem v (.ref sl)) (EP X pins σ Q) X.xe s
theorem SlR.or {r r':V->Option Int->Option Int->Hp->VK->Prop}(h:SlR X r)(h':SlR X r'):SlR X (λx lo hi H Q=>r x lo hi H Q\/r' x lo hi H Q):=by
 intro pins s σ H x v vl vu lo hi sl Q I rx hs pl pu q;rcases q with q | q
 ·exact h pins s σ H x v vl vu lo hi sl Q I rx hs pl pu q
 ·exact h' pins s σ H x v vl vu lo hi sl Q I rx hs pl pu q
def tSl (r:V->Option Int->Option Int->Hp->VK->Prop)(te:TE)(tl th:TO):TE:=λσ H Q=>te σ H λx H1=>tl σ H1 λl H2=>th σ H2 λu H3=>r x l u H3 Q
theorem xN {r:V->Option Int->Option Int->Hp->VK->Prop}(hr:SlR X r)(he:PE X e te)(hl:PO X lo tl)(hu:PO X hi th):PE X (.Subscript e (.Slice lo hi none p2) pos) (tSl r te tl th):=by
 intro pins s σ H Q I h;refine Subscript_ (bR (he pins s σ H _ I h) λv s1 hh_=> ?_)
 obtain⟨x,H1,I1,r1,q1⟩:=hh_;refine wpAny_Slice (bR (hl pins s1 σ H1 _ I1 q1) λvl s2 ⟨l,H2,I2,pl,q2⟩=>bR (hu pins s2 σ H2 _ I2 q2) λvu s3 hh_=> ?_)
 obtain⟨u,H3,I3,pu,q3⟩:=hh_;rw[evalPart_none];refine HF ?_
 have I4:Inv X pins σ H3 { s3 with heap:=s3.heap.push { cls:=.type "slice",data:=.fields #[vl,vu,.none] } }:=I3.kept (t':=s3.toks) λb ob q=>HC _ q
 obtain⟨T,id,hT,ht,hg⟩:=hr pins { s3 with heap:=s3.heap.push { cls:=.type "slice",data:=.fields #[vl,vu,.none] } } σ H3 x v vl vu l u s3.heap.objs.size Q I4 r1 (Heap.IsSliceOf.new ..) pl pu q3
 show wpAny (model X.prog X.w) X.A (OC e (.Slice lo hi none p2) v (.ref s3.heap.objs.size)) (EP X pins σ Q) X.xe { s3 with heap:=s3.heap.push { cls:=.type "slice",data:=.fields #[vl,vu,.none] } }
 exact tail_any (ops:=[.ref s3.heap.objs.size,v]) ht hT hg (by with_unfolding_all rfl)
def r9 (xs:List V)(lo hi:Option Int):List V:=(xs.drop (HT.sIx xs.length 0 lo)).take (HT.sIx xs.length xs.length hi - HT.sIx xs.length 0 lo)
theorem kr (xs:List V)(lo hi:Option Int):(r9 xs lo hi).length<=xs.length:=by
 unfold r9;rw[J1,J2];omega
def rSlT (K:Hy):V->Option Int->Option Int->Hp->VK->Prop:=λx lo hi H Q=> ∃a xs,x= .ref a/\SqT K H a xs ∧
 ¬(HT.sIx xs.length 0 lo=0/\HT.sIx xs.length xs.length hi=xs.length)/\∀p,H p=none->Q (.ref p) (upd H p (.tup (r9 xs lo hi)))
theorem sl_tup:SlR X (rSlT X.K):=by
 intro pins s σ H x v vl vu lo hi sl Q I rx hs pl pu h;obtain⟨a,xs,rfl,hx,hw,q⟩:=h;cases rx;obtain⟨its,r,ht,hz⟩:=I.tuple hx
 have hlen:its.toArray.size=xs.length:=by rw[HU];exact r.length.symm
 refine⟨"tuple",_,IJ.lookup,ht.typeIs,?_⟩
 refine HT.getItem_tuple_cut ht hs pl pu (by rw[hlen];exact hw) ?_ (by rw[hlen];exact hz)
 rw[hlen];refine⟨.ref s.heap.objs.size,_,I.laid (t':=s.toks) (o:=.tup (r9 xs lo hi)) (λb ob q=>HC _ q) (HL _) ?_,rfl,q _ (I.hok.fresh (HL _))⟩
 exact⟨Ii (kr xs lo hi) hz,_,(r.drop (HT.sIx xs.length 0 lo)).take (HT.sIx xs.length xs.length hi - HT.sIx xs.length 0 lo),PJ _ _⟩
def E7 (K:Hy):R2:=λx y H Q=> ∃a b xs ys,x= .ref a/\y= .ref b/\SqT K H a xs/\SqT K H b ys/\xs≠ []/\xs.length+ys.length<=sizeLine ∧
 (ys= []->Q (.ref a) H)/\(ys≠ []->∀p,H p=none->Q (.ref p) (upd H p (.tup (xs++ys))))
theorem Vals.AC {xs:List V}{us:List HA}(r:Vals xs us):us= [] ↔xs= []:=by
 cases r with
 | nil=>simp
 | cons _ _=>simp
theorem Ba:oC X (JM .Add) (E7 X.K):=by
 intro pins s σ H x y v u Q I rx ry h;obtain⟨a,b,xs,ys,rfl,rfl,ha,hb,hx,hz,q1,q2⟩:=h;cases rx;cases ry;obtain⟨its,r1,p1,_⟩:=I.tuple ha;obtain⟨its2,r2,p2,_⟩:=I.tuple hb;refine HT.cat_tup p1 p2 (λz=>hx (r1.AC.mp z)) (λz=>⟨.ref a,H,I,rfl,q1 (r2.AC.mp z)⟩) (λz=> ?_) (by rw[<-r1.length,<-r2.length];exact hz)
 refine⟨.ref s.heap.objs.size,_,I.laid (t':=s.toks) (o:=.tup (xs++ys)) (λb ob q=>HC _ q) (HL _) ?_,rfl,q2 (λw=>z (r2.AC.mpr w)) _ (I.hok.fresh (HL _))⟩
 exact⟨by rw[HP];exact hz,_,r1.append r2,PJ _ _⟩
end
def ixN (n:Nat)(i:Int):Option Nat:=if 0<=i then(if i<n then some i.toNat else none)else if -(n:Int)<=i then some (i+n).toNat else none
def atI {α:Type}(xs:List α)(i:Int):Option α:=(ixN xs.length i).bind λj=>xs[j]?
theorem Bs {n:Nat}{i:Int}{j:Nat}(h:ixN n i=some j):seqIndex? i n=some j/\j<n/\-(n:Int)<=i/\i<n:=by
 unfold ixN at h
 by_cases h0:0<=i
 ·rw[if_pos h0]at h
  by_cases h1:i<n
  ·rw[if_pos h1]at h
   have e:i.toNat=j:=Ip h;exact⟨by rw[seqIndex_of h0 h1,e],by omega,by omega,h1⟩
  ·rw[if_neg h1]at h;cases h
 ·rw[if_neg h0]at h
  by_cases h1 : -(n:Int)<=i
  ·rw[if_pos h1]at h
   have e:(i+n).toNat=j:=Ip h;exact⟨by rw[seqIndex_neg (by omega) h1,e],by omega,h1,by omega⟩
  ·rw[if_neg h1]at h;cases h
theorem qt {α:Type}{xs:List α}{i:Int}{v:α}(h:atI xs i=some v):∃j,seqIndex? i xs.length=some j/\xs[j]? =some v/\j<xs.length/\-(xs.length:Int)<=i/\i<xs.length:=by
 unfold atI at h
 cases e:ixN xs.length i with
 | none=>rw[e]at h;cases h
 | some j=>
  rw[e]at h;obtain⟨h1,h2,h3,h4⟩:=Bs e;exact⟨j,h1,h,h2,h3,h4⟩
def vh (b:Expr):Prop:=∀o i,N7 b false o i=operate [o,i] (getItem o i)
def IxR (X:Cx)(r:R2):Prop:=
 ∀(value slice:Expr) (pins:List (Addr×Obj)) (s:HB) (σ:St) (H:Hp) (x y:V) (v u:HA) (Q:VK),Inv X pins σ H s->RelV x v->RelV y u->r x y H Q →
  N7 slice false v u=operate [v,u] (getItem v u)->wpAny (model X.prog X.w) X.A (OC value slice v u) (EP X pins σ Q) X.xe s
def MtR (X:Cx)(id:String)(r:V->List V->Hp->VK->Prop):Prop:=
 ∀(pins:List (Addr×Obj)) (s:HB) (σ:St) (H:Hp) (x:V) (xs:List V) (v:HA) (us:List HA) (Q:VK),Inv X pins σ H s->RelV x v->Vals xs us->r x xs H Q →
  wpAny (model X.prog X.w) X.A (call (.builtin id) (v::us)) (EP X pins σ Q) X.xe s
section
variable {X:Cx}{a b:Expr}{ta tb:TE}{pos:Pos}
theorem IxR.or {r r':R2}(h:IxR X r)(h':IxR X r'):IxR X (λx y H Q=>r x y H Q\/r' x y H Q):=by
 intro value slice pins s σ H x y v u Q I rx ry q hs;rcases q with q | q
 ·exact h value slice pins s σ H x y v u Q I rx ry q hs
 ·exact h' value slice pins s σ H x y v u Q I rx ry q hs
def E6 (K:Hy):R2:=λx y H Q=> ∃p xs i v,x= .ref p/\y= .int i/\SqL K H p xs/\atI xs i=some v/\Q v H
def EZ (K:Hy):R2:=λx y H Q=> ∃p xs i v,x= .ref p/\y= .int i/\SqT K H p xs/\atI xs i=some v/\Q v H
def E5:R2:=λx y H Q=> ∃z i c,x= .str z/\y= .int i/\z.length<=sizeLine/\atI z.cps.toList i=some c/\Q (.str ⟨#[c]⟩) H
theorem ix_list:IxR X (E6 X.K):=by
 intro value slice pins s σ H x y v u Q I rx ry h hs;obtain⟨p,xs,i,z,rfl,rfl,hq,he,q⟩:=h;cases rx;obtain⟨t,rfl⟩:=ry;obtain⟨its,r,pl,hz⟩:=I.list hq;obtain⟨j,h1,h2,h3,h4,h5⟩:=qt he;obtain⟨w,ew,rw'⟩:=r.get h2
 have hl:=r.length
 have hn:=mf
 have fin:EP X pins σ Q w s:=⟨z,H,I,rw',q⟩
 by_cases h0:0<=i
 ·have hj:i.toNat=j:=by
   rw[seqIndex_of h0 h5]at h1;exact Ip h1
  exact item_listR pl.isList h0 (by omega) (by rw[hj];simpa using ew) fin hs
 ·have hj:(i+(its.toArray.size:Int)).toNat=j:=by
   rw[seqIndex_neg (by omega) h4]at h1
   rw[HU,<-hl];exact Ip h1
  exact Ni (x:=w) pl.isList.typeIs slot_list_getitem.lookup
   (wpAny_getItem_list_neg (Q:=λr s'=>r=w/\EP X pins σ Q r s') pl.isList (by omega) (by rw[HU] <;> omega) (by omega) (by rw[hj];simpa using ew) ⟨rfl,fin⟩) hs
theorem ix_tup:IxR X (EZ X.K):=by
 intro value slice pins s σ H x y v u Q I rx ry h hs;obtain⟨p,xs,i,z,rfl,rfl,hq,he,q⟩:=h;cases rx;obtain⟨t,rfl⟩:=ry;obtain⟨its,r,pl,hz⟩:=I.tuple hq;obtain⟨j,h1,h2,h3,h4,h5⟩:=qt he;obtain⟨w,ew,rw'⟩:=r.get h2
 have hl:=r.length
 have hn:=mf
 have fin:EP X pins σ Q w s:=⟨z,H,I,rw',q⟩
 exact Ni (x:=w) pl.typeIs slot_tuple_getitem.lookup
  (getItem_tuple (j:=j) (Q:=λr s'=>r=w/\EP X pins σ Q r s') pl (by omega) (by omega) (by rw[HU,<-hl];exact h1) (by simpa using ew) ⟨rfl,fin⟩) hs
theorem DT:IxR X E5:=by
 intro value slice pins s σ H x y v u Q I rx ry h hs;obtain⟨z,i,c,rfl,rfl,hz,he,q⟩:=h;obtain⟨t,rfl⟩:=rx;obtain⟨t',rfl⟩:=ry;obtain⟨j,h1,h2,h3,h4,h5⟩:=qt he
 have hl:z.cps.toList.length=z.length:=by simp[Str.length]
 rw[hl]at h1 h4 h5
 have hn:=mf
 exact tail_any (typeIs_str s z t) slot_str_getitem.lookup (getItem_str (c:=c) (by
  have e1:decide (i< -(2 ^ 63:Int))=false:=decide_eq_false (by omega)
  have e2:decide (i ≥ 2 ^ 63)=false:=decide_eq_false (by omega)
  rw[e1,e2,Bool.or_false]) (by rw[h1];simpa using h2) ⟨.str ⟨#[c]⟩,H,I.tok _,⟨_,rfl⟩,q⟩) hs
def rIx (K:Hy):R2:=λx y H Q=>E6 K x y H Q\/EZ K x y H Q\/E5 x y H Q
theorem DU:IxR X (rIx X.K):=ix_list.or (ix_tup.or DT)
theorem oO (lo hi:Option Int)(n:Nat):(Lu lo hi none n).1=((HT.sIx n 0 lo:Nat):Int)/\(Lu lo hi none n).2.1=((HT.sIx n n hi:Nat):Int)/\(Lu lo hi none n).2.2=1:=by
 refine⟨?_,?_,rfl⟩
 ·cases lo with
  | none=>simp[Lu,HT.sIx]
  | some i=>
   simp only[Lu,HT.sIx,Pl,show(1:Int) > 0 by decide,if_true]
   by_cases h:i<0
   ·simp only[h,if_true] <;> omega
   ·simp only[h,if_false] <;> omega
 ·cases hi with
  | none=>simp[Lu,HT.sIx]
  | some i=>
   simp only[Lu,HT.sIx,Pl,show(1:Int) > 0 by decide,if_true]
   by_cases h:i<0
   ·simp only[h,if_true] <;> omega
   ·simp only[h,if_false] <;> omega
theorem mZ (its:List HA)(lo hi:Option Int):slicePick its.toArray lo hi none=((its.drop (HT.sIx its.length 0 lo)).take (HT.sIx its.length its.length hi - HT.sIx its.length 0 lo)).toArray:=by
 obtain⟨h1,h2,h3⟩:=oO lo hi its.toArray.size;unfold slicePick;rw[h1,h2,h3];simp only[sliceRange_one,pick_run,HU] <;> rfl
def rSlL (K:Hy):V->Option Int->Option Int->Hp->VK->Prop:=λx lo hi H Q=> ∃a xs,x= .ref a/\SqL K H a xs/\∀p,H p=none->Q (.ref p) (upd H p (.lst (r9 xs lo hi)))
theorem Am:SlR X (rSlL X.K):=by
 intro pins s σ H x v vl vu lo hi sl Q I rx hs pl pu h;obtain⟨a,xs,rfl,hx,q⟩:=h;cases rx;obtain⟨its,r,ht,hz⟩:=I.list hx
 have hlen:=r.length;refine⟨"list",_,slot_list_getitem.lookup,ht.isList.typeIs,?_⟩
 refine wpAny_getItem_list_slice ht.isList hs pl pu .none (by simp) ?_ (by rw[HU] <;> omega)
 rw[mZ,<-hlen];refine⟨.ref s.heap.objs.size,_,I.laid (t':=s.toks) (o:=.lst (r9 xs lo hi)) (λb ob q=>HC _ q) (HL _) ?_,rfl,q _ (I.hok.fresh (HL _))⟩
 exact⟨Ii (kr xs lo hi) hz,_,0,(r.drop (HT.sIx xs.length 0 lo)).take (HT.sIx xs.length xs.length hi - HT.sIx xs.length 0 lo),HR _ rfl⟩
theorem call_len_seq:CallR X (.builtin "len") (λxs H Q=> ∃p ys,xs= [.ref p]/\(SqL X.K H p ys\/SqT X.K H p ys)/\Q (.int ys.length) H):=by
 intro pins s σ H xs us Q I r h;obtain⟨p,ys,rfl,hq,q⟩:=h;obtain⟨u,rfl,rx⟩:=la r;cases rx
 have hn:=mf;rcases hq with hq | hq
 ·obtain⟨its,r',pl,hz⟩:=I.list hq
  have hlen:=r'.length;exact Calls.call_len_list pl.isList (by simp only[HU] <;> omega) ⟨.int ys.length,H,I.tok _,⟨s.toks+1,by rw[HU,hlen]⟩,q⟩
 ·obtain⟨its,r',pl,hz⟩:=I.tuple hq
  have hlen:=r'.length;exact len_tuple pl (by simp only[HU] <;> omega) ⟨.int ys.length,H,I.tok _,⟨s.toks+1,by rw[HU,hlen]⟩,q⟩
theorem qm:CallR X (.builtin "len") (λxs H Q=> ∃z,xs= [.str z]/\z.length<=sizeLine/\Q (.int z.length) H):=by
 intro pins s σ H xs us Q I r h;obtain⟨z,rfl,hz,q⟩:=h;obtain⟨u,rfl,t,rfl⟩:=la r
 have hn:=mf;exact len_str (by omega) ⟨.int z.length,H,I.tok _,⟨_,rfl⟩,q⟩
theorem CallR.or {f:HA}{r r':List V->Hp->VK->Prop}(h:CallR X f r)(h':CallR X f r'):CallR X f (λxs H Q=>r xs H Q\/r' xs H Q):=by
 intro pins s σ H xs us Q I rs q;rcases q with q | q
 ·exact h pins s σ H xs us Q I rs q
 ·exact h' pins s σ H xs us Q I rs q
theorem nt:CallR X (.type "tuple") (λxs H Q=> ∃p ys,xs= [.ref p]/\((SqL X.K H p ys/\∀l,H l=none->Q (.ref l) (upd H l (.tup ys)))\/(SqT X.K H p ys/\Q (.ref p) H))):=by
 intro pins s σ H xs us Q I r h;obtain⟨p,ys,rfl,h⟩:=h;obtain⟨u,rfl,rx⟩:=la r;cases rx;rcases h with⟨hq,q⟩ | ⟨hq,q⟩
 ·obtain⟨its,r',pl,hz⟩:=I.list hq
  have hlen:=r'.length;refine call_tuple_list pl.isList (λh' kp=> ?_) (by simp only[HU] <;> omega)
  have I1:Inv X pins σ H { s with heap:=h' }:=I.kept (t':=s.toks) kp
  have I2:Inv X pins σ (upd H h'.objs.size (.tup ys)) { s with heap:=h'.push { cls:=.type "tuple",data:=.seq its.toArray } }:=
   I1.laid (t':=s.toks) (λb o e=>HC _ e) (HL _) (show ObjOk X.prog X.w _ _ _ (.tup ys)from⟨hz,its,r',PJ _ _⟩)
  exact⟨.ref h'.objs.size,_,I2,rfl,q _ (I1.hok.fresh (HL _))⟩
 ·obtain⟨its,r',pl,hz⟩:=I.tuple hq
  exact call_tuple_same pl ⟨.ref p,H,I,rfl,q⟩
def tyV (K:Hy)(T:String)(x:V)(H:Hp):Prop:=match x with
 | .str _=>T= "str"
 | .int _=>T= "int"
 | .ref p=>(T= "list"/\∃xs,SqL K H p xs)\/(T= "tuple"/\∃o,K.lookup p=some o/\o.cls= .type "tuple"/\o.dict=none) ∨
   (T= "dict"/\((∃kvs,H p=some (.dK kvs))\/∃kvs,H p=some (.dT kvs)))\/(T= "set"/\∃S n,H p=some (.set S n))
 | _=>False
theorem wL {pins:List (Addr×Obj)}{σ:St}{H:Hp}{s:HB}{T:String}{x:V}{v:HA}(I:Inv X pins σ H s)(r:RelV x v)(ty:tyV X.K T x H) :
  s.TypeIs v T/\∀a,v= .ref a->∃ob,s.heap.get? a=some ob/\ob.dict=none:=by
 cases x with
 | str z=>
  obtain⟨t,rfl⟩:=r;cases (show T= "str" from ty)
  exact⟨typeIs_str s z t,λ_ e=>nomatch e⟩
 | int i=>
  obtain⟨t,rfl⟩:=r;cases (show T= "int" from ty)
  exact⟨NH s i t,λ_ e=>nomatch e⟩
 | ref p=>
  cases r;rcases ty with⟨rfl,xs,hq⟩ | ⟨rfl,o,hk,hc,hd⟩ | ⟨rfl,hk⟩ | ⟨rfl,S,n,hk⟩
  ·obtain⟨its,_,pl,_⟩:=I.list hq
   refine⟨pl.isList.typeIs,λa e=> ?_⟩
   cases e;obtain⟨o,n,e,c,hd,_⟩:=pl;exact⟨o,e,hd⟩
  ·refine⟨⟨o,I.kIn p o hk,hc⟩,λa e=> ?_⟩
   cases e;exact⟨o,I.kIn _ o hk,hd⟩
  ·have z:∃o,s.heap.get? p=some o/\o.ExactDict:=by
    rcases hk with⟨kvs,hk⟩ | ⟨kvs,hk⟩
    ·obtain⟨_,_,_,_,o,_,_,e,ex,_⟩:=I.hok p _ hk
     exact⟨o,e,ex⟩
    ·obtain⟨_,_,_,_,o,_,_,e,ex,_⟩:=I.hok p _ hk
     exact⟨o,e,ex⟩
   obtain⟨o,e,ex⟩:=z;refine⟨⟨o,e,ex.1⟩,λa e2=> ?_⟩
   cases e2;exact⟨o,e,ex.2.1⟩
  ·obtain⟨o,_,_,_,e,ex,_⟩:=I.hok p _ hk
   refine⟨⟨o,e,ex.1⟩,λa e2=> ?_⟩
   cases e2
   exact⟨o,e,ex.2.1⟩
 | _=>exact JS ty
def tBM (K:Hy)(T:String)(r:V->List V->Hp->VK->Prop)(to:TE)(t:TA):TE:=λσ H Q=>to σ H λx H1=>tyV K T x H1/\t σ H1 λxs H2=>r x xs H2 Q
variable {o e:Expr}{es:List Expr}{to:TE}{t:TA}{name:Str}{apos cpos:Pos}{T id:String}{r:V->List V->Hp->VK->Prop}
theorem B4 (pa:PlainAttrs T)(slot:Slot T name id)(hty:typeOf (.builtin id)=pure (.type "method_descriptor"))(hm:MtR X id r)(ho:PE X o to)(ha:PA X (e::es) t)
  (hbase:JE o name X.env (eval o X.env)=eval o X.env:=by rfl)
  (hfew:((backTo cpos (HY (e::es) X.env)).all (λx=> !x.1)&&(backToKw cpos (P3 [] X.env)).all (λx=>x.1.isSome)
   &&decide ((e::es).length+([]:List P4).length+(if ([]:List P4).isEmpty then 0 else 1)<30))=true:=by rfl)
  (hline:(apos.endLine == cpos.line)=true:=by rfl) (hs:HY (e::es) X.env=(false,eval e X.env)::HY es X.env:=by rfl) (hplain:(backTo cpos (HY es X.env)).any (·.1)=false:=by rfl) :
  PE X (.Call (.Attribute o name apos) (e::es) [] cpos) (tBM X.K T r to t):=by
 intro pins s σ H Q I h;refine Nj hbase hfew hline rfl (bR (ho pins s σ H _ I h) λv s1 hh_=> ?_)
 obtain⟨x,H1,I1,r1,ty,q1⟩:=hh_;obtain⟨h1,h2⟩:=wL I1 r1 ty;refine⟨T,id,pa,slot,hty,h1,h2,?_⟩
 have hA:=ha cpos pins s1 σ H1 _ I1 q1;rw[hs]at hA ⊢;refine Lg (by show(false||(backTo cpos (HY es X.env)).any (·.1))=false;rw[hplain] <;> rfl) (KM ?_)
 exact bR hA λus s2 ⟨vs,H2,I2,r2,q2⟩=>hm pins s2 σ H2 x vs v us Q I2 r1 r2 q2
end
def MtM (X:Cx)(id:String)(r:V->List V->Hp->VK->Prop):Prop:=
 ∀(pins:List (Addr×Obj)) (s:HB) (σ:St) (H:Hp) (x:V) (xs:List V) (v:HA) (us:List HA) (Q:VK),Inv X pins σ H s->RelV x v->Vals xs us->r x xs H Q →
  wpAny (model X.prog X.w) X.A (call (.builtin id) (v::us)) (EP X pins σ Q) X.xe s
theorem Vals.one:∀{x:V} {us:List HA},Vals [x] us->∃u,us= [u]/\RelV x u
 | _,_,.cons r .nil=>⟨_,rfl,r⟩
theorem Vals.rep {xs:List V}{us:List HA}(h:Vals xs us):∀k:Nat,Vals (Ib k xs).flatten (Ib k us).flatten
 | 0=> .nil
 | k+1=>by
  rw[JC,JC,Kf,Kf];exact Vals.append h (Vals.rep h k)
theorem foldl_rep (its:List HA):∀(k:Nat) (acc:List HA),
  ME (λx1 x2=>x1++x2) acc.toArray (Ib k its.toArray)=(acc++(Ib k its).flatten).toArray
 | 0,acc=>by simp
 | k+1,acc=>by
  have e:acc.toArray++its.toArray=(acc++its).toArray:=by simp
  have e2:(acc++its)++(Ib k its).flatten=acc++(Ib (k+1) its).flatten:=by
   rw[JC,Kf,IX]
  rw[<-e2,<-foldl_rep its k (acc++its),<-e,JC,List.foldl_cons]
section
variable {X:Cx}{pins:List (Addr×Obj)}{σ:St}{H:Hp}{s:HB}{l b:Addr}{xs ys zs:List V}
theorem Inv.Hk {its its':List HA}{n:Nat}{f:Array HA->Array HA}{t':Nat}(I:Inv X pins σ H s)(hH:H l=some (.lst xs))
  (e:s.heap.get? l=some { cls:=.type "list",data:=.seq its.toArray n }) (hf:f its.toArray=its'.toArray) (hv:Vals ys its') (hz:ys.length<=sizeLine) :
  Inv X pins σ (upd H l (.lst ys)) { s with heap:=s.heap.update l (IA f),toks:=t' }:=by
 have q:=PySem.IsL.update e f;rw[hf]at q;refine I.write (x:=l) (e:=l) (by rw[hH];exact trivial) (.inl rfl) (λb' u hb hu=>(Lh s.heap (IA f) (Mu hb)).trans hu) ⟨_,q⟩ ?_
 exact⟨hz,its',_,hv,q⟩
theorem Inv.Hj {its:List HA}{t':Nat}(I:Inv X pins σ H s)(hv:Vals ys its)(hz:ys.length<=sizeLine) :
  Inv X pins σ (upd H s.heap.objs.size (.lst ys)) { s with heap:=s.heap.push { cls:=.type "list",data:=.seq its.toArray },toks:=t' }:=
 I.laid (λ_ _ q=>HC _ q) (HL _) ⟨hz,its,0,hv,HR _ rfl⟩
theorem Inv.fresh (I:Inv X pins σ H s):H s.heap.objs.size=none:=I.hok.fresh (HL _)
theorem Inv.GR (I:Inv X pins σ H s)(hH:H l=some (.lst xs)):xs.length<=sizeLine/\∃(its:List HA) (n:Nat),Vals xs its/\xs.length=its.length/\s.heap.get? l=some { cls:=.type "list",data:=.seq its.toArray n }:=by
 obtain⟨z,its,n,r,e⟩:=I.hok l _ hH;exact⟨z,its,n,r,r.length,e⟩
theorem rk {n:Nat}(h:n<=sizeLine):Ke n=false:=by
 unfold Ke;exact decide_eq_false (by omega)
end
section
variable {X:Cx}
def Aw:V->List V->Hp->VK->Prop:=λx vs H Q=> ∃l xs y,x= .ref l/\vs= [y]/\H l=some (.lst xs)/\xs.length<sizeLine/\Q .non (upd H l (.lst (xs++ [y])))
theorem nS:MtM X "list.append" Aw:=by
 intro pins s σ H x vs v us Q I rx rv h;obtain⟨l,xs,y,rfl,rfl,hH,hz,q⟩:=h;cases rx;obtain⟨u,rfl,ru⟩:=rv.one;obtain⟨z,its,n,r,hl,e⟩:=I.GR hH;refine L0 F.slot_list_append ⟨_,e,rfl⟩ F.entry_list_append (F.args_list_append_2 _ _) (PySem.list_append l its.toArray n u (by rw[HU];omega)) ⟨e,?_⟩
 refine⟨.non,_,I.Hk (its':=its++ [u]) hH e (by simp) (r.append (.cons ru .nil)) ?_,rfl,q⟩
 rw[HP,Je];omega
def Av:V->List V->Hp->VK->Prop:=λx vs H Q=> ∃l b xs zs,x= .ref l/\vs= [.ref b]/\H l=some (.lst xs)/\H b=some (.lst zs)/\xs.length+zs.length<=sizeLine/\Q .non (upd H l (.lst (xs++zs)))
theorem vL:MtM X "list.extend" Av:=by
 intro pins s σ H x vs v us Q I rx rv h;obtain⟨l,b,xs,zs,rfl,rfl,hH,hB,hz,q⟩:=h;cases rx;obtain⟨u,rfl,ru⟩:=rv.one;cases ru;obtain⟨z,its,n,r,hl,e⟩:=I.GR hH;obtain⟨z2,its2,n2,r2,hl2,e2⟩:=I.GR hB
 have hsz:its.toArray.size+its2.toArray.size<=sizeLine:=by rw[HU,HU];omega
 have hlong:¬ (!its.toArray.isEmpty&&Ke (its.toArray.size+its2.toArray.size))=true:=by
  rw[rk hsz,Bool.and_false];exact Ig
 refine L0 F.slot_list_extend ⟨_,e,rfl⟩ F.entry_list_extend (F.args_list_extend_2 _ _)
  (AutoSeq1.list_extend_list_list_0 l its.toArray n b its2.toArray n2 hlong (by rw[HU];omega) (by omega)) ⟨e,e2,?_⟩
 refine⟨.non,_,I.Hk (its':=its++its2) hH e (by simp) (r.append r2) ?_,rfl,q⟩
 rw[HP];omega
def rCat:R2:=λx y H Q=> ∃l b xs zs,x= .ref l/\y= .ref b/\H l=some (.lst xs)/\H b=some (.lst zs)/\xs.length+zs.length<=sizeLine/\∀p,H p=none->Q (.ref p) (upd H p (.lst (xs++zs)))
theorem Dy:oC X (JM .Add) rCat:=by
 intro pins s σ H x y v u Q I rx ry h;obtain⟨l,b,xs,zs,rfl,rfl,hH,hB,hz,q⟩:=h;cases rx;cases ry;obtain⟨z,its,n,r,hl,e⟩:=I.GR hH;obtain⟨z2,its2,n2,r2,hl2,e2⟩:=I.GR hB;refine PySem.P.add_list e e2 ?_ (by rw[HU,HU];omega)
 have ea:its.toArray++its2.toArray=(its++its2).toArray:=by simp
 rw[ea];exact⟨.ref _,_,I.Hj (t':=s.toks) (r.append r2) (by rw[HP];omega),rfl,q _ I.fresh⟩
def rRep:R2:=λx y H Q=> ∃l k xs,x= .ref l/\y= .int k/\H l=some (.lst xs)/\-(2 ^ 63)<=k/\k<2 ^ 63/\xs.length*k.toNat<=sizeLine ∧
 ∀p,H p=none->Q (.ref p) (upd H p (.lst (Ib k.toNat xs).flatten))
theorem len_rep {α:Type}(xs:List α)(k:Nat):(Ib k xs).flatten.length=k*xs.length:=by
 induction k with
 | zero=>simp
 | succ k ih=>rw[JC,Kf,HP,ih,Nat.succ_mul,O9]
theorem Du:oC X (JM .Mult) rRep:=by
 intro pins s σ H x y v u Q I rx ry h;obtain⟨l,k,xs,rfl,rfl,hH,h1,h2,hz,q⟩:=h;cases rx;obtain⟨t,rfl⟩:=ry;obtain⟨z,its,n,r,hl,e⟩:=I.GR hH
 have hlen:its.toArray.size*k.toNat<=sizeLine:=by rw[HU,<-hl];exact hz
 have hcap:¬ its.toArray.size*k.toNat > (2 ^ 63 - 1) / 8:=by
  have:(sizeLine:Nat)<=(2 ^ 63 - 1) / 8:=by decide
  omega
 have hfit:¬ (!Builtin.List.listFitsIndex k)=true:=by
  rw[fitsIndex_both h1 h2];exact Ig
 have hlong:¬ Ke (its.toArray.size*k.toNat)=true:=by
  rw[rk hlen];exact Ig
 have hnew:ME (λx1 x2=>x1++x2) #[] (Ib (if its.toArray.isEmpty=true then 0 else k.toNat) its.toArray)=(Ib k.toNat its).flatten.toArray:=by
  have f0:∀m:Nat,ME (λx1 x2=>x1++x2) #[] (Ib m its.toArray)=(Ib m its).flatten.toArray:=λm=>by
   have:=foldl_rep its m [];rw[K9]at this;exact this
  rw[f0]
  cases its with
  | nil=>simp
  | cons a r'=>rw[if_neg (by simp)]
 refine My (T:="list") (U:="int") (by decide) ⟨_,e,rfl⟩ (λs'=>NH s' k t) noFill_list_mul PK L7 repeat_list Pm.lookup
  (L0 L7 (NH s k t) Pn (OJ _ _) (int___rmul___int_list k t l its.toArray n)
   ⟨e,rfl,⟨_,e,rfl⟩,L0 F.slot_list_mul ⟨_,e,rfl⟩ F.entry_list_mul (F.args_list_mul_2 _ _) (Of l its.toArray n k t hfit hcap hlong) ⟨e,?_⟩⟩)
 rw[hnew];exact⟨.ref _,_,I.Hj (t':=s.toks) (r.rep k.toNat) (by rw[len_rep,Pa];exact hz),rfl,q _ I.fresh⟩
end
end L2
namespace Att
open PySem PySem.W PySem.Calls PyProof.Rows
theorem kH {P:Params}{h:Heap}:∀(ns:List Int) (vs:List HA),WellAll P h vs (ns.map WData.int)->Jw vs ns:=by
 intro ns
 induction ns with
 | nil=>
  intro vs w;rw[Nn]at w;cases w
  exact .nil
 | cons n ns ih=>
  intro vs w;rw[HE]at w
  cases w with
  | cons a b=>
   cases a;exact .cons _ _ (ih _ b)
theorem vt {l:OpenLaw}{n:Nat}(hn:l.most=some n){P:Params}{h:Heap}{args:List WData}{vals:List HA}
  (hpre:l.row.toRowW.claim.pre args=true) (hwl:WellAll P h vals args) :
  ∃a vs ns,vals= [Iv a]/\args= [WData.list (ns.map WData.int)]/\h.get? a=some { cls:=.type "list",data:=.seq vs.toArray }/\Jw vs ns/\ns.length<=n:=by
 have hsh:WShape.hasAll [] args [.list .int] =true:=(pre_splitW hpre).1
 have hc:l.pre.holds [] { args:=args }=true:=(pre_splitW hpre).2;obtain⟨d,r,rfl,h1,h2⟩:=hasAllW_cons hsh;obtain rfl:=hasAllW_nil h2;obtain⟨xs,rfl,h3⟩:=hasW_list h1;obtain⟨ns,rfl⟩:=items_int h3
 have hlen:ns.length<=n:=by
  unfold OpenLaw.pre at hc
  have h4:(WTm.not (.lt (.lit (.int (n:Int))) (.len (.arg 0)))).holds [] { args:=[.list (ns.map .int)] }=true:=by
   have h4:=(holds_andW hc).1;rw[hn]at h4;exact h4
  have h5:=condW_of h4 (w_not (w_lt w_lit (w_len_list (w_arg rfl))));rw[HI]at h5;refine Nat.le_of_not_lt λq=> ?_
  have q':(n:Int)<((ns.length:Nat):Int):=by omega
  first
   | (rw[decide_eq_true q']at h5;exact absurd h5 (by decide))
   | (simp at h5;omega)
 cases hwl with
 | cons w1 w2=>
  cases w2
  cases w1 with
  | list ho hall=>exact⟨_,_,ns,rfl,rfl,ho,kH ns _ hall,hlen⟩
theorem vB (l:OpenLaw)(args:List WData):l.row.toRowW.claim.post args (.bool true) args=true:=
 postW_of (r:=l.row.toRowW) (X:=(true == true))
  (show WShape.has [] (.bool true) .bool=true by first | rfl | decide | simp[WShape.has,WShape.arms,WShape.armsAll])
  (show(WTm.eq .res (.lit (.bool true))).value [] { args:=args,res:=some (.bool true),after:=args }=some (.bool (true == true))from w_eq_bool (w_res rfl) w_lit) rfl
theorem attach_call {l:OpenLaw}{n:Nat}{q:H0}{loose:List Str}{XP:(Str->Option HA)->Heap->Prop}{YP:IP->Heap->Prop}{d:DefRec}
  (hn:l.most=some n) (hdf:d.params.defaults= [])
  (call:∀(w:IP) (s₀ s₁:HB) (mg mb:Str->Option HA) (fa:Addr) (o:Obj) (pm cd doc:HA) (a:Addr) (vs:List HA) (ns:List Int),
   Ground q loose [] XP w s₀ mg mb s₁.heap->YP w s₁.heap →
   s₁.heap.get? fa=some o->o.data= .func (docDef d.name d.params d.body d.scope pm cd doc)->s₁.heap.CodeRec cd d.name->mg d.name=some (.ref fa) →
   s₁.heap.get? a=some { cls:=.type "list",data:=.seq vs.toArray }->Jw vs ns->ns.length<=n->s₁.gens= #[] →
   codeAny (model l.prog w) callerA (.call (.ref fa) ⟨[.ref a],[]⟩) (λr s'=>r= .ok (.ret (.bool true))/\OldK s₁.heap s'.heap/\s'.os=s₁.os/\Kk s'.gens) s₁) :
  WalkO q loose XP YP l.row.toRowW d [] (λf vs=>PySem.call f vs):=by
 intro w s₀ s₁ mg mb G Y fa o pm cd doc dV kV ho hd hcd hD hmg hg args vals as hpre hlay hrd hwl hlo;obtain rfl:dV= .none:=Dflts.none hD hdf;obtain rfl:kV= .none:=Dflts.noKw hD;obtain⟨a,vs,ns,rfl,rfl,hobj,hints,hlen⟩:=vt hn hpre hwl;refine enter_call (K5 (call w s₀ s₁ mg mb fa o pm cd doc a vs ns G Y ho (fd_plain hd) hcd hmg hobj hints hlen hg) λr s' hq=> ?_)
 obtain⟨rfl,h2,h3,h4⟩:=hq;exact⟨.inl ⟨.bool true,.bool true,[],rfl,λ_=>rfl,.bool true,vB l _,λ_=>⟨MB,λ_ hm=>(nomatch hm)⟩⟩,h2,h3,h4⟩
end Att
namespace L2
open PySem PySem.Spec PyProof.Rows
theorem fy:∀{vs:List HA} {ns:List Int},Jw vs ns->Vals (ns.map V.int) vs
 | _,_,.nil=> .nil
 | _,_,.cons n t h=> .cons ⟨t,rfl⟩ (fy h)
def Ex (H:Hp):Prop:=∀b,H b=none\/(∃o xs,H b=some (.frz o (.lst xs)))\/H b=some (.tbl kF)
theorem yB {P:H0}{w:IP}{K:Hy}{mg mb:Str->Option HA}{CX:wy}{k:Nat}{fa a:Addr}{fd:JN}{x:Str}{sp:Sp}{s₁:HB}{vs:List HA}{ns:List Int}
  (KX:K.In s₁.heap) (hns:s₁.heap.Ns Ie mg) (hb:s₁.heap.Ns K4 mb) (hbb:∀x:Str,x≠ "__name__"->mb x=Iq x) (hlim:s₁.heap.NoLimit) (hg:s₁.gens= #[])
  (ha:s₁.heap.get? a=some { cls:=.type "list",data:=.seq vs.toArray }) (hi:Jw vs ns) (hl:ns.length<=sizeLine) (hr:Room k callerA) {P0 c0:Addr} (hP:s₁.heap.TableAt c0 P0 #[]) (hPK:K.lookup P0=none) (hTb:∀H:Hp,H P0=some (.tbl kF)->Tb K mg H)
  (F:∀base:Heap,K.In base->base.Ns Ie mg->qw P w K mg base CX k fa fd [x] sp) (hbind:∀(s:HB) (u:HA),OY s fd ⟨[u],[]⟩ [(x,u)])
  (hsp:∀H:Hp,Ex H->SqL K H a (ns.map V.int)->sp [.ref a] H (λv _=>v= .bl true) λ_ _ _=>False)
  (hCX:∀H e s',CX [] H s₁ (λ_ _ _=>False) e s'->False) :
  codeAny (model P w) callerA (.call (.ref fa) ⟨[.ref a],[]⟩) (λr s'=>r= .ok (.ret (.bool true))/\OldK s₁.heap s'.heap/\s'.os=s₁.os/\Kk s'.gens) s₁:=by
 have rv:=fy hi
 have lenV:=hi.length
 have hPe:=hP.2
 have hPa:P0≠a:=λz=>by subst z;rw[ha]at hPe;cases hPe
 have hPo:∀H:Hp,ObjOk P w H s₁.heap P0 (.tbl kF):=λH=>⟨#[],hPe,trivial,λpos v e=>by cases e⟩
 -- from an abstract heap in which nothing but the script may be tracked
 have core:∀H:Hp,Ex H->SqL K H a (ns.map V.int)->HOk P w H s₁.heap->(∀b,H b≠none->b=a\/b=P0)->(H a≠none->K.lookup a=none)->H P0=some (.tbl kF) →
   codeAny (model P w) callerA (.call (.ref fa) ⟨[.ref a],[]⟩) (λr s'=>r= .ok (.ret (.bool true))/\OldK s₁.heap s'.heap/\s'.os=s₁.os/\Kk s'.gens) s₁:=by
  intro H hO hS hok hA hK hHP
  have base_of:∀{b:Addr} {o:Obj},s₁.heap.get? b=some o->H b=none->(qf s₁.heap H).get? b=some o:=λe n=>y0 e n
  have noA:∀{b:Addr} {o:Obj} {es:Array DictEntry} {ep:Nat},s₁.heap.get? b=some o->o.data= .dict es ep->H b=none:=λ{b o es ep} e d=>by
   cases q:H b with
   | none=>rfl
   | some u=>
    have e':b=a:=(hA b (by rw[q];simp)).resolve_right λz=>by subst z;rw[hPe]at e;cases e;cases d
    subst e';rw[ha]at e;cases e
    have d':Data.seq vs.toArray _=Data.dict es ep:=d;cases d'
  have nsK:∀{b:Addr} {m:Str->Option HA},s₁.heap.Ns b m->(qf s₁.heap H).Ns b m:=λ{b m} ⟨o,es,ep,e,d,r⟩=>⟨o,es,ep,base_of e (noA e d),d,r⟩
  have hKb:K.In (qf s₁.heap H):=λb o e=>base_of (KX b o e) (by
   cases q:H b with
   | none=>rfl
   | some u=>
    have e':b=a:=(hA b (by rw[q];simp)).resolve_right λz=>by subst z;rw[hPK]at e;cases e
    subst e';rw[hK (by rw[q];simp)]at e;cases e)
  have hM:Mod K mg (qf s₁.heap H):=⟨hKb,nsK hns,⟨mb,nsK hb,hbb⟩,let ⟨mc,h1,h2⟩:=hlim;⟨mc,nsK h1,h2⟩⟩
  have e0:Env0 P w K mg (qf s₁.heap H) callerA [] s₁ H:=⟨rfl,hM,λb o e=>Bb e,K3 (vV _ _),trivial,λb hb=>absurd (show b∈([]:List Addr)from hb) (by simp),hok,.of_eq hg,hTb H hHP⟩
  refine K5 ((F _ hKb (nsK hns)).run callerA [] s₁ H ⟨[.ref a],[]⟩ [.ref a] [.ref a] _ _ hr e0 (hbind s₁ (.ref a)) (.cons rfl .nil) (hsp H hO hS)) λr s' h=> ?_
  cases r with
  | error e=>exact(hCX H e s' h).elim
  | ok fl=>
   cases fl with
   | next=>exact JS h
   | brk=>exact JS h
   | cont=>exact JS h
   | ret u=>
    obtain⟨v,H',os,bare,un,hok',r',q⟩:=h
    have q':v= .bl true:=q;subst q';obtain rfl:u=Ji true:=r'
    have hP':=un.tbls P0 _ hHP;obtain⟨ps,eP,_⟩:=hok' P0 _ hP'
    have key:∀b o,b≠P0->s₁.heap.get? b=some o->s'.heap.get? b=some o:=?key
    ·refine⟨rfl,⟨λb o e=> ?_,λb o e=> ?_⟩,os,bare⟩
     ·by_cases hb:b=P0
      ·subst hb
       rw[hPe]at e;cases e;exact .inr (.inl ⟨hP.isCodeTable,rfl,#[],ps,rfl,by simpa using eP⟩)
      ·exact .inl (key b o hb e)
     ·by_cases hb:b=P0
      ·subst hb;exact⟨_,eP⟩
      ·exact⟨o,key b o hb e⟩
    intro b o hbP e
    cases q:H b with
    | none=>exact un.keep b o e q (by intro z;exact absurd (show b∈([]:List Addr)from z) (by simp)) (by simp)
    | some u=>
     rcases hO b with z | ⟨ob,xs,z⟩ | z
     ·rw[q]at z;cases z
     ·have z2:=un.frzs b ob _ z
      obtain⟨e1,_⟩:=hok b _ z;obtain⟨e2,_⟩:=hok' b _ z2;rw[e]at e1;cases e1;exact e2
     ·rcases hA b (by rw[z];simp)with y | y
      ·subst y;have:=hok b _ z;obtain⟨_,e3,_⟩:=this;rw[ha]at e3;cases e3
      ·exact absurd y hbP
 cases hk:K.lookup a with
 | some o=>
  -- the script is one of the module's own objects
  have e:=KX a o hk;rw[ha]at e;cases e;refine core (λb=>if b=P0 then some (.tbl kF)else none) (λb=> ?_) (.inr ⟨_,vs.toArray,_,hk,rfl,rfl,rfl,by rw[HU,lenV];exact hl,by simpa using rv⟩) (λb u z=> ?_) (λb z=> ?_) (λz=>absurd (if_neg hPa.symm) z) (if_pos rfl)
  ·by_cases hb:b=P0
   ·exact .inr (.inr (if_pos hb))
   ·exact .inl (if_neg hb)
  ·by_cases hb:b=P0
   ·have z':=(if_pos hb).symm.trans z
    cases z';subst hb;exact hPo _
   ·have z':=(if_neg hb).symm.trans z
    cases z'
  ·by_cases hb:b=P0
   ·exact .inr hb
   ·exact absurd (if_neg hb) z
 | none=>
  have hF:∀b,b≠a->b≠P0->(if b=a then some (HO.frz { cls:=.type "list",data:=.seq vs.toArray } (.lst (ns.map V.int)))else if b=P0 then some (.tbl kF)else none)=none:=λb h1 h2=>by rw[if_neg h1,if_neg h2]
  have hG:∀b,b≠a->b=P0->(if b=a then some (HO.frz { cls:=.type "list",data:=.seq vs.toArray } (.lst (ns.map V.int)))else if b=P0 then some (.tbl kF)else none)=some (.tbl kF):=λb h1 h2=>by rw[if_neg h1,if_pos h2]
  refine core (λb=>if b=a then some (.frz { cls:=.type "list",data:=.seq vs.toArray } (.lst (ns.map V.int)))else if b=P0 then some (.tbl kF)else none) (λb=> ?_) (.inl (.inr ⟨{ cls:=.type "list",data:=.seq vs.toArray },if_pos rfl⟩)) (λb u z=> ?_) (λb z=> ?_) (λ_=>hk) (hG P0 hPa rfl)
  ·by_cases hb:b=a
   ·exact .inr (.inl ⟨_,_,if_pos hb⟩)
   ·by_cases hb2:b=P0
    ·exact .inr (.inr (hG b hb hb2))
    ·exact .inl (hF b hb hb2)
  ·by_cases hb:b=a
   ·have z':=(if_pos hb).symm.trans z
    cases z';subst hb;exact⟨ha,by rw[HI];exact hl,vs,_,rv,ha⟩
   ·by_cases hb2:b=P0
    ·have z':=(hG b hb hb2).symm.trans z
     cases z';subst hb2;exact hPo _
    ·have z':=(hF b hb hb2).symm.trans z
     cases z'
  ·by_cases hb:b=a
   ·exact .inl hb
   ·by_cases hb2:b=P0
    ·exact .inr hb2
    ·exact absurd (hF b hb hb2) z
def fW (s:Stmt):LJ:=match s with
 | .FunctionDef _ a _ _ _ _ _ _ _ _=>a
 | _=> { posonlyargs:=[],args:=[],vararg:=none,kwonlyargs:=[],kw_defaults:=[],kwarg:=none,defaults:=[] }
def cJ (s:Stmt):List Stmt:=match s with
 | .FunctionDef _ _ b _ _ _ _ _ _ _=>b
 | _=> []
def aj (s:Stmt):Le:=match s with
 | .FunctionDef _ _ _ _ _ _ sc _ _ _=>sc
 | _=> { kind:=.function,names:=[],isGenerator:=false,isCoroutine:=false }
abbrev CX0:wy:=λ_ _ _ _ _ _=>False
abbrev E0:XK:=λ_ _ _=>False
theorem B5 {X:Cx}:tV CX0 X E0:=λ_ _ _ _ _ _ _ h=>h.elim
structure Fun (K:Hy)(x qual:Str)(st:Stmt)(f:Addr)(fd:JN):Prop where
 ex:∃(oc:HA) (od:Option Addr) (kV doc pm:HA) (an:Option Addr) (cdv ct:HA) (osl:Array (Option HA)),
  fd=LA x qual (fW st) (cJ st) (aj st) .none kV doc pm an cdv ct/\K.lookup f=some ⟨oc,od,.func fd,osl⟩/\NT K cdv qual=true
 kp:Lv K (.ref f)=true
section
variable {P:H0}{w:IP}{K:Hy}{mg:Str->Option HA}{base:Heap}
theorem Fun.ok {x qual:Str}{st:Stmt}{f:Addr}{fd:JN}{N ps:List Str}{k:Nat}{sp:Sp}(F:Fun K x qual st f fd)(S:ay N ps (aj st))(len:∀vs H Q E,sp vs H Q E->vs.length=ps.length)
  (hbody:∀(cdv:HA),fd.code=cdv->∀(A:Iu) (outer:List Env) (s:HB) (H:Hp) (vs:List V) (Q:VK) (E:XK),Room k (A.deeper (envOfC qual (aj st) s.heap.objs.size f cdv))->sp vs H Q E →
   ∃t,PSs (gI CX0 P w K mg base N qual (aj st) f cdv A outer s H E).nox (cJ st) t/\t { nx:=λ_ H'=>Q .non H',rt:=Q } (start N vs) H):qw P w K mg base CX0 (k+1) f fd ps sp:=by
 obtain⟨oc,od,kV,doc,pm,an,cdv,ct,osl,rfl,lk,hcd⟩:=F.ex;refine F6 lk hcd S len λA outer s H vs Q E hr hsp=> ?_
 obtain⟨t,h,q⟩:=hbody cdv rfl A outer s H vs Q E hr hsp;exact⟨t,h.nox,q⟩
theorem Fun.binds {x qual:Str}{st:Stmt}{f:Addr}{fd:JN}{ps:List Str}(F:Fun K x qual st f fd)
  (h:∀(kV doc pm:HA) (an:Option Addr) (cdv ct:HA) (us:List HA),us.length=ps.length->PD (LA x qual (fW st) (cJ st) (aj st) .none kV doc pm an cdv ct) ⟨us,[]⟩=pure (ps.zip us)):Binds K fd ps []:=by
 obtain⟨oc,od,kV,doc,pm,an,cdv,ct,osl,rfl,lk,hcd⟩:=F.ex;exact .all (h kV doc pm an cdv ct)
theorem DZ {x qual:Str}{st:Stmt}{f:Addr}{oc:HA}{od an:Option Addr}{osl:Array (Option HA)}{kV doc pm cdv ct:HA}(l:K.lookup f=some ⟨oc,od,.func (LA x qual (fW st) (cJ st) (aj st) .none kV doc pm an cdv ct),osl⟩)
  (c:NT K cdv qual=true) (k:Lv K (.ref f)=true):Fun K x qual st f (LA x qual (fW st) (cJ st) (aj st) .none kV doc pm an cdv ct):=⟨⟨oc,od,kV,doc,pm,an,cdv,ct,osl,rfl,l,c⟩,k⟩
end
theorem iteF {A B:Prop}(h:B):if false=true then A else B:=by
 rw[if_neg Ig];exact h
theorem iteT {A B:Prop}(h:A):if true=true then A else B:=by
 rw[if_pos rfl];exact h
def Same (H H':Hp):Prop:=∀b o,H b=some o->H' b=some o
theorem Same.refl (H:Hp):Same H H:=λ_ _ h=>h
theorem Same.trans {H H1 H2:Hp}(a:Same H H1)(b:Same H1 H2):Same H H2:=λc o h=>b c o (a c o h)
theorem iY {env:Env}:∀(names:List (Str×KF)) (acc:List (Str×Addr)),
  (∀x,(x,ID)∈names->∃c,env.cells.lookup x=some c) →
  (∀x c,acc.lookup x=some c->env.cells.lookup x=some c) →
  ∃cl,(forIn (m:=Sem) names acc (λx cs=>(if (x.2 == ID)=true then do let a <-cellOf env x.1;pure (Kx ((x.1,a)::cs))else pure (Kx cs))))=pure cl ∧
   (∀x c,cl.lookup x=some c->env.cells.lookup x=some c) ∧
   (∀x,(x,ID)∈names->∃c,cl.lookup x=some c)/\(∀x c,acc.lookup x=some c->∃c',cl.lookup x=some c')
 | [],acc,_,h=>⟨acc,rfl,h,λx hx=>by simp at hx,λx c e=>⟨c,e⟩⟩
 | (n,k)::r,acc,hf,h=>by
  by_cases hk:k=ID
  ·subst hk
   obtain⟨c,hc⟩:=hf n (by simp)
   have h':∀x c',((n,c)::acc).lookup x=some c'->env.cells.lookup x=some c':=λx c' e=>by
    rw[IH]at e
    cases q:x == n with
    | true=>
     rw[q]at e
     have e2:c=c':=Ip e
     have e3:x=n:=by simpa using q
     rw[<-e2,e3];exact hc
    | false=>rw[q]at e;exact h x c' e
   obtain⟨cl,e1,e2,e3,e4⟩:=iY r ((n,c)::acc) (λx hx=>hf x (HH _ hx)) h'
   refine⟨cl,?_,e2,λx hx=> ?_,λx c' e=> ?_⟩
   ·rw[PL]
    simp only[beq_self_eq_true,if_true,cellOf,hc,pure_bind];exact e1
   ·rcases HS.mp hx with z | z
    ·have z1:x=n:=by injection z
     subst z1;exact e4 x c (by simp[IH])
    ·exact e3 x z
   ·cases q:x == n with
    | true=>exact e4 x c (by simp[IH,q])
    | false=>exact e4 x c' (by simp[IH,q,e])
  ·have hb:(k == ID)=false:=by simpa using hk
   obtain⟨cl,e1,e2,e3,e4⟩:=iY r acc (λx hx=>hf x (HH _ hx)) h
   refine⟨cl,?_,e2,λx hx=> ?_,e4⟩
   ·rw[PL]
    simp only[hb,Jd,if_false,pure_bind];exact e1
   ·rcases HS.mp hx with z | z
    ·have z1:ID=k:=by injection z
     exact absurd z1.symm hk
    ·exact e3 x z
theorem tL {env:Env}{scope:Le}(hf:∀x,(x,ID)∈scope.names->∃c,env.cells.lookup x=some c) :
  ∃cl,NI scope env=pure cl/\(∀x c,cl.lookup x=some c->env.cells.lookup x=some c)/\(∀x,(x,ID)∈scope.names->∃c,cl.lookup x=some c):=by
 obtain⟨cl,e1,e2,e3,_⟩:=iY scope.names [] hf (λx c e=>by simp at e)
 refine⟨cl,?_,e2,e3⟩
 unfold NI;refine Eq.trans ?_ (congrArg (λz=>z >>= pure) e1|>.trans (by simp))
 rfl
theorem ql {pr:H0}{wd:IP}{Ar:Iu}{Rz:Result->HB->Prop}{s0:HB}{el tg it0:Expr}{cs:List Expr}{sc:Le}{ps:Pos}{itv av:HA}{ev:Env}(W:Nat->HB->Prop)
  (go:∀k st,W k st->wpAny (model pr wd) Ar (pyNext itv) (λr s1=>match r with
   | none=>Rz (.ok .next) s1
   | some v=>wpAny (model pr wd) Ar (Lb tg itv v) (λ_ s2=>wpAny (model pr wd) Ar (assign tg ev v) (λ_ s3=>
     wpAny (model pr wd) Ar (forIn cs true λc b=>if b=true then do let z <-isTrue c ev (eval c ev);pure (Kx z)else pure (Kx b)) (λz s4=>
      if z=true then wpAny (model pr wd) Ar (eval el ev) (λy s5=>
       wpAny (model pr wd) Ar (call (.builtin "list.append") [av,y]) (λ_ s6=> ∃m,m<k/\W m s6) (λ_ _=>False) s5) (λ_ _=>False) s4
      else ∃m,m<k/\W m s4) (λ_ _=>False) s3) (λ_ _=>False) s2) (λ_ _=>False) s1) (λ_ _=>False) st)
  (k:Nat) (hk:W k s0):codeAny (model pr wd) Ar (.compLoop (.ListComp el [⟨tg,it0,cs,0⟩] sc ps) 0 itv av ev) Rz s0:=by
 refine codeAny_loop rfl W (λk st hw=> ?_) k hk
 show wpAny (model pr wd) Ar ((compTurn (.ListComp el [⟨tg,it0,cs,0⟩] sc ps) 0 itv av ev).onRaise (λz=>do noteFrame z ev;theTreesLotGoes z)) _ _ st
 refine wpAny_noted ?_
 rw[compTurn_list]
 have no:∀{α:Type} {t:Sem α} {Q Q':α->HB->Prop} {E':HA->HB->Prop} {x:HB},wpAny (model pr wd) Ar t Q (λ_ _=>False) x->(∀y z,Q y z->Q' y z)->wpAny (model pr wd) Ar t Q' E' x:=λh f=>J3 h f λ_ _ z=>z.elim
 refine Hw (wpAny_standAt (Hw (no (go k st hw) λr s1 g1=> ?_)))
 cases r with
 | none=>exact HF g1
 | some v=>
  refine Hw (no g1 λ_ s2 g2=>Hw (no g2 λ_ s3 g3=>Hw (no g3 λz s4 g4=> ?_)))
  cases z with
  | false=>exact HF (And.intro rfl g4)
  | true=>exact Hw (Hw (no g4 λy s5 g5=>Hw (no g5 λ_ s6 g6=>HF (HF (And.intro rfl g6)))))
def cg (X:Cx)(scope:Le)(cl:List (Str×Addr))(N':List Str)(C:Addr)(s₀:HB)(H₀:Hp)(fp:List Addr):Cx:=
 { X with N:=N',s₀:=s₀,H₀:=H₀,env:=compEnvC scope cl C X.env,outer:=X.stack,stack:=X.stack,ex:=fp,fn:=λx=>scope.names.lookup x == some .cell,xe:=λ_ _=>False }
def eC (src:List (Option Nat))(σ:St):St:=src.map λo=>match o with
 | some i=>(σ[i]?).join
 | none=>none
theorem gC {env:Env}:∀{names:List (Str×KF)} {x:Str} {k:KF},
  (names.map λ(n,k)=>if (k == ID&&env.scope.kind == .function&&env.kindOf n == some .cell)then(n,Js)else(n,k)).lookup x=some k →
  ∃k',names.lookup x=some k'/\(k=k'\/k'= .free)
 | [],_,_,h=>by simp at h
 | (n,k0)::r,x,k,h=>by
  have ih:=@gC env r x k
  have h':KZ x ((if (k0 == ID&&env.scope.kind == .function&&env.kindOf n == some .cell)=true then(n,Js)else(n,k0))::(r.map λ(n,k)=>if (k == ID&&env.scope.kind == .function&&env.kindOf n == some .cell)then(n,Js)else(n,k)))=some k:=h
  by_cases hc:(k0 == ID&&env.scope.kind == .function&&env.kindOf n == some .cell)=true
  ·rw[if_pos hc]at h'
   rw[IH]at h' ⊢
   cases hx:x == n with
   | true=>
    refine⟨k0,rfl,.inr ?_⟩
    have:=JO.mp hc|>.1
    have:=JO.mp this|>.1
    simpa using this
   | false=>rw[hx]at h';exact ih h'
  ·rw[if_neg hc]at h'
   rw[IH]at h' ⊢
   cases hx:x == n with
   | true=>rw[hx]at h';exact⟨k0,rfl,.inl (Ip h').symm⟩
   | false=>rw[hx]at h';exact ih h'
theorem g7 {names:List (Str×KF)}{x:Str}{k:KF}(h:names.lookup x=some k):(x,k)∈names:=JV h
theorem gf {env:Env}:∀{names:List (Str×KF)} {x:Str},names.lookup x=some .free →
  (names.map λ(n,k)=>if (k == ID&&env.scope.kind == .function&&env.kindOf n == some .cell)then(n,Js)else(n,k)).lookup x=some .cell ∨
  (names.map λ(n,k)=>if (k == ID&&env.scope.kind == .function&&env.kindOf n == some .cell)then(n,Js)else(n,k)).lookup x=some .free
 | [],_,h=>by simp at h
 | (n,k0)::r,x,h=>by
  have ih:=@gf env r x
  show KZ x ((if (k0 == ID&&env.scope.kind == .function&&env.kindOf n == some .cell)=true then(n,Js)else(n,k0))::_)=_\/KZ x ((if (k0 == ID&&env.scope.kind == .function&&env.kindOf n == some .cell)=true then(n,Js)else(n,k0))::_)=_
  rw[IH]at h
  by_cases hc:(k0 == ID&&env.scope.kind == .function&&env.kindOf n == some .cell)=true
  ·rw[if_pos hc]
   rw[IH]
   cases hx:x == n with
   | true=>exact .inl rfl
   | false=>rw[hx]at h;exact ih h
  ·rw[if_neg hc]
   rw[IH]
   cases hx:x == n with
   | true=>rw[hx]at h;exact .inr h
   | false=>rw[hx]at h;exact ih h
section
variable {X:Cx}
structure LcScope (X:Cx)(scope:Le)(N':List Str)(src:List (Option Nat)):Prop where
 kind:scope.kind= .function
 cel:∀y∈scope.names,y.2= .cell->scope.names.lookup y.1=some .cell
 loc:∀y∈scope.names,y.2= .local->scope.names.lookup y.1=some .local
 len:src.length=N'.length
 from_:∀(j i:Nat) (x:Str),src[j]? =some (some i)->N'[j]? =some x->X.N[i]? =some x/\scope.names.lookup x=some .free
 free:∀x,(x,ID)∈scope.names->X.env.kindOf x=some .cell\/X.env.kindOf x=some .free
def ER (K:Hy)(wi:TI)(src:List (Option Nat))(g:TG)(tc:TT)(te:TE):TE:=λσ H Q=>wi σ H λJ H1=> ∀D,H1 D=none->K.lookup D=none →
 ∃W:Nat->Nat->St->List V->Hp->Prop,(∃m,W 0 m (eC src σ) [] (upd H1 D (.lst [])))/\∀i m σ ys H,W i m σ ys H->H D=some (.lst ys) ∧
  ((J.stop i H/\Q (.ref D) H)\/(J.go i H/\ys.length<sizeLine/\∀x H',J.yld i H x H'->g x σ H' λσ2 H2=>tc σ2 H2 λb H3=>
   if b=true then te σ2 H3 λv H4=>H4 D=some (.lst ys)/\∃m',m'<m/\W (i+1) m' σ2 (ys++ [v]) (upd H4 D (.lst (ys++ [v])))else ∃m',m'<m/\W (i+1) m' σ2 ys H3))
def wu (X:Cx)(ifs:List Expr)(t:TT):Prop:=
 ∀(pins:List (Addr×Obj)) (s:HB) (σ:St) (H:Hp) (Q:Bool->Hp->Prop),Inv X pins σ H s->t σ H Q →
  wpAny (model X.prog X.w) X.A (forIn ifs true λc r=>if r=true then do let ok <-isTrue c X.env (eval c X.env);pure (Kx ok)else pure (Kx r)) (TP X pins σ Q) X.xe s
def EI:TT:=λ_ H Q=>Q true H
theorem AX:wu X [] EI:=λ_ _ _ H _ I h=>wpAny_tests_nil ⟨H,I,h⟩
theorem AW {c:Expr}{t:TT}(h:PT X c t):wu X [c] t:=λpins s σ H Q I q=>wpAny_tests_one (h pins s σ H Q I q)
theorem j7:∀(names:List (Str×KF)) (h:Heap) (acc:List (Str×Addr)),(∀x y c,acc.lookup x=some c->acc.lookup y=some c->x=y)->(∀x c,acc.lookup x=some c->c<h.objs.size) →
  (∀x c,(Kl h.objs.size names acc).lookup x=some c->acc.lookup x=some c\/(h.objs.size<=c/\(NB h names).IsCell c none)) ∧
  (∀x y c,(Kl h.objs.size names acc).lookup x=some c->(Kl h.objs.size names acc).lookup y=some c->x=y) ∧
  (∀x,(x,Js)∉names->(Kl h.objs.size names acc).lookup x=acc.lookup x) ∧
  (∀x,((x,Js)∈names\/∃c,acc.lookup x=some c)->∃c,(Kl h.objs.size names acc).lookup x=some c) ∧
  (∀x c,(x,Js)∈names->(Kl h.objs.size names acc).lookup x=some c->h.objs.size<=c)
 | [],h,acc,hi,_=>⟨λ_ _ e=> .inl e,hi,λ_ _=>rfl,λx e=>e.elim (λz=>absurd z II) id,λ_ _ z=>absurd z II⟩
 | (n,k)::r,h,acc,hi,hl=>by
  unfold Kl NB
  by_cases hk:k= .cell
  ·subst hk
   rw[if_pos (by rfl),if_pos (by rfl)]
   have hz:(h.push { cls:=.type "cell",data:=.cell none }).objs.size=h.objs.size+1:=Kb ..
   have lk:∀x,((n,h.objs.size)::acc).lookup x=if x=n then some h.objs.size else acc.lookup x:=λx=>by
    rw[IH]
    by_cases e:x=n
    ·rw[if_pos e,beq_iff_eq.mpr e]
    ·rw[if_neg e,beq_eq_false_iff_ne.mpr e]
   obtain⟨c1,c2,c3,c4,c5⟩:=j7 r (h.push { cls:=.type "cell",data:=.cell none }) ((n,h.objs.size)::acc) (λx y c e1 e2=>by
     rw[lk]at e1 e2
     by_cases q1:x=n
     ·by_cases q2:y=n
      ·rw[q1,q2]
      ·rw[if_pos q1]at e1;rw[if_neg q2]at e2
       cases e1;exact absurd (hl _ _ e2) (Iw _)
     ·rw[if_neg q1]at e1
      by_cases q2:y=n
      ·rw[if_pos q2]at e2
       cases e2;exact absurd (hl _ _ e1) (Iw _)
      ·rw[if_neg q2]at e2;exact hi x y c e1 e2) (λx c e=>by
     rw[lk]at e;rw[hz]
     by_cases q:x=n
     ·rw[if_pos q]at e;cases e;exact KU _
     ·rw[if_neg q]at e;exact IY (hl x c e))
   rw[hz]at c1 c2 c3 c4 c5;refine⟨λx c e=> ?_,c2,λx hx=> ?_,λx hx=> ?_,λx c hx e=> ?_⟩
   ·rcases c1 x c e with z | z
    ·rw[lk]at z
     by_cases q:x=n
     ·rw[if_pos q]at z;cases z
      exact .inr ⟨HL _,_,NC r _ _ _ (HR _ rfl),rfl⟩
     ·rw[if_neg q]at z;exact .inl z
    ·exact .inr ⟨Lo z.1,z.2⟩
   ·rw[c3 x λz=>hx (HH _ z),lk,if_neg λz=>hx (by rw[z];exact HK)]
   ·refine c4 x ?_
    rcases hx with hx | hx
    ·rcases HS.mp hx with z | z
     ·cases z
      exact .inr ⟨_,by rw[lk,if_pos rfl]⟩
     ·exact .inl z
    ·by_cases q:x=n
     ·exact .inr ⟨_,by rw[lk,if_pos q]⟩
     ·exact .inr (by rw[lk,if_neg q];exact hx)
   ·rcases HS.mp hx with z | z
    ·have q:x=n:=(MO z).1
     rcases c1 x c e with y | y
     ·rw[lk,if_pos q]at y;cases y;exact HL _
     ·exact Lo y.1
    ·exact Lo (c5 x c z e)
  ·have hb:¬ (k == Js)=true:=λz=>hk (by simpa using z)
   rw[if_neg hb,if_neg hb];obtain⟨c1,c2,c3,c4,c5⟩:=j7 r h acc hi hl;exact⟨c1,c2,λx hx=>c3 x λz=>hx (HH _ z),λx hx=>c4 x (hx.imp (λz=>(HS.mp z).resolve_left λz=>hk (MO z).2.symm) id),λx c hx=>c5 x c ((HS.mp hx).resolve_left λz=>hk (MO z).2.symm)⟩
theorem vJ {M:Model}{A:Iu}{E:HA->HB->Prop}{s:HB}{scope:Le}{globals:Addr}{cl:List (Str×Addr)}{qual:Str}{env:Env}{Q:Env->HB->Prop}
  (q:Q (newEnv scope s.heap.objs.size globals (Kl (s.heap.objs.size+1) scope.names cl) qual none .none (some env) K4) { s with heap:=NB (s.heap.push { cls:=.type "dict",data:=.dict #[] }) scope.names }) :
  wpAny M A (newFunctionEnv scope globals cl [] qual none .none (some env)) Q E s:=by
 simp only[newFunctionEnv,Og,if_true];refine Hw (wpAny_alloc (Hw (wpAny_layCells _ (λname kind cells=>by cases hkc:kind == Js <;> simp[hkc]) _ _ _ _ ?_)))
 rw[show({ s with heap:=s.heap.push { cls:=.type "dict",data:=.dict #[] } }:HB).heap.objs.size=s.heap.objs.size+1 from Kb ..]
 rw[List.forIn_nil];exact Hw (HF (HF q))
theorem uL {elt tg iter:Expr}{ifs:List Expr}{scope:Le}{pos fpos:Pos}{N':List Str}{src:List (Option Nat)}{wi:TI}{g:TG}{tc:TT}{te:TE}{use:Option (HA->Sem Unit)}{Qf:HA->HB->Prop}
  {pins:List (Addr×Obj)} {s:HB} {σ:St} {H:Hp} {Q:VK}
  (hc:X.calm=true) (S:LcScope X scope N' src) (hi:PI X tg iter wi)
  (block:∀cl C s₀ H₀ fp,PG (cg X scope cl N' C s₀ H₀ fp) tg g/\wu (cg X scope cl N' C s₀ H₀ fp) ifs tc/\PE (cg X scope cl N' C s₀ H₀ fp) elt te)
  (hs:∀x,Jk iter X.env x=pure x) (I:Inv X pins σ H s) (h:ER X.K wi src g tc te σ H Q)
  (hend:∀(D C:Addr) (H':Hp) (s':HB),(∃m,s'.heap.Ns C m)->(∀h',K2 C s'.heap h'->Inv X pins σ H' { s' with heap:=h' })->(H' C=none/\C≠X.env.locals/\X.s₀.heap.objs.size<=C/\(∀x c,X.env.cells.lookup x=some c->c≠C)/\∀p∈X.pn++pins,p.1≠C)->Q (.ref D) H' →
   compPost (model X.prog X.w) X.A X.xe use Qf (.ref D) C (.ok .next) s') :
  wpAny (model X.prog X.w) X.A (comprehension (.ListComp elt [⟨tg,iter,ifs,0⟩] scope pos) scope X.env fpos (newList []) false (eval iter X.env) use) Qf X.xe s:=by
 have hcell:∀x,(x,ID)∈scope.names->∃c,X.env.cells.lookup x=some c:=λx hx=>I.ok.has x (S.free x hx)
 obtain⟨cl0,hcl,cl01,cl02⟩:=tL (env:=X.env) (scope:=scope) hcell;refine wpAny_comprehension_free (use:=use) rfl hs hcl S.kind S.loc (bR (hi pins s σ H _ I h) λv s1 h1=>bR h1 λitv s2 h2=> ?_)
 obtain⟨it,fp,tn,J,H2,e,I2,T,st2,f2,hq⟩:=h2;subst e
 -- the new list
 refine IQ ?_
 have hD:H2 s2.heap.objs.size=none:=I2.hok.fresh (HL _)
 have hDK:X.K.lookup s2.heap.objs.size=none:=by
  cases q:X.K.lookup s2.heap.objs.size with
  | none=>rfl
  | some o=>exact absurd (HM (I2.kIn _ o q)) (Iw _)
 obtain⟨W,⟨m0,w0⟩,turn⟩:=hq s2.heap.objs.size hD hDK
 have I3:=I2.Hj (its:=[]) (ys:=[]) (t':=s2.toks) .nil (IC _)
 generalize hs3:({ s2 with heap:=s2.heap.push { cls:=.type "list",data:=.seq ([]:List HA).toArray },toks:=s2.toks }:HB)=s3 at I3
 generalize hH3:upd H2 s2.heap.objs.size (.lst [])=H3 at I3 w0
 have hDsz:s2.heap.objs.size<s3.heap.objs.size:=by rw[<-hs3];simp[Kb]
 have fr3:∀b∈fp,H3 b=none:=λb hb=>by
  obtain⟨o,eo,_⟩:=T.obj _ _ st2 b hb;rw[<-hH3,aJ (HZ (HM eo))];exact(f2 b hb).1
 have st3:tn 0 s3.heap:=T.keep _ _ _ st2 λb hb o e=>by rw[<-hs3];exact HC _ e
 have f3:∀b∈fp,mV X pins H3 b:=λb hb=>⟨fr3 b hb,(f2 b hb).2⟩
 have D3:H3 s2.heap.objs.size=some (.lst []):=by rw[<-hH3];exact aV
 generalize s2.heap.objs.size=D at*
 clear hs3 hH3 hD hDK
 -- the block's frame
 refine vJ ?_
 have old:∀b o,s3.heap.get? b=some o->(NB (s3.heap.push { cls:=.type "dict",data:=.dict #[] }) scope.names).get? b=some o:=λb o e=>NC _ _ b o (HC _ e)
 have hns₁:(NB (s3.heap.push { cls:=.type "dict",data:=.dict #[] }) scope.names).Ns s3.heap.objs.size (λ_=>none):=(Heap.Ns.new s3.heap (.type "dict")).keeps (NC _ _)
 have hz3:(s3.heap.push { cls:=.type "dict",data:=.dict #[] }).objs.size=s3.heap.objs.size+1:=Kb ..
 have lt0:∀x c,cl0.lookup x=some c->c<s3.heap.objs.size:=λx c e=>let ⟨_,ic⟩:=I3.cell x c (cl01 x c e);ic.lt
 obtain⟨c1,c2,c3,c4,c5⟩:=j7 scope.names (s3.heap.push { cls:=.type "dict",data:=.dict #[] }) cl0 (λx y c e1 e2=>I3.ok.inj x y c (cl01 x c e1) (cl01 y c e2)) λx c e=>by rw[hz3];exact IY (lt0 x c e)
 rw[hz3]at c1 c2 c3 c4 c5
 generalize hcl':Kl (s3.heap.objs.size+1) scope.names cl0=cl at*
 generalize hh₁:NB (s3.heap.push { cls:=.type "dict",data:=.dict #[] }) scope.names=h₁ at*
 have below:∀b o,s3.heap.get? b=some o->b≠s3.heap.objs.size:=λb o e=>HZ (HM e)
 -- a cell of the block's: one from around,or a new one
 have cl1:∀x c,cl.lookup x=some c->X.env.cells.lookup x=some c\/(s3.heap.objs.size<c/\h₁.IsCell c none):=λx c e=>(c1 x c e).imp (cl01 x c) id
 generalize hC:s3.heap.objs.size=C at*
 have stk:∀b,b≠X.env.locals->b∉X.fs->b∉i7 X.stack:=λb h1 h2 z=>(HS.mp (I3.GZ b z)).elim h1 h2
 have apart:∀b∈fp,∀x c,cl.lookup x=some c->c≠b:=λb hb x c e=>by
  rcases cl1 x c e with z | z
  ·exact(f3 b hb).2.2.2.2.1 x c z
  ·obtain⟨o,eo,_⟩:=T.obj _ _ st3 b hb
   have h1:=HM eo;rw[hC]at h1;exact Jm (Mp h1 z.1)
 have I4:Inv (cg X scope cl N' C s3 H3 fp) pins (eC src σ) H3 { s3 with heap:=h₁ }:=by
  refine⟨⟨I3.ok.mod,S.kind,I3.ok.glob,I3.ok.blt,K3 hC,c2,λx hx=> ?_,λx c hx e=>Jl (hC▸c5 x c (g7 (beq_iff_eq.mp hx)) e),I3.ok.hd,I3.ok.frames,.inl rfl,
    λb hb=>⟨?_,λx c e=>apart b hb x c e⟩,I3.bs,Ii I3.ok.bsz I3.sz,λb o e z=> ?_,λb hb=>stk b (f3 b hb).2.1 (f3 b hb).2.2.1,I3.stack,I3.GN,I3.tb⟩,
   rfl,I3.bare,Un.kept old,⟨_,hns₁,λj x v e1 e2 e3=> ?_⟩,λx c e=> ?_,I3.hok.fresh (K3 hC),λx c e=>(cl1 x c e).elim (I3.freeC x c) λz=>I3.hok.fresh (by rw[hC];exact Jl z.1),λp hp=> ?_,I3.hok.kept old,?_⟩
  ·have key:∀k,(relabel scope X.env).names.lookup x=some k->(k= .cell\/k= .free)->∃c,cl.lookup x=some c:=λk e hk=>by
    obtain⟨k',e',z⟩:=gC e
    have hk':k'= .cell\/k'= .free:=z.elim (λz=>z▸hk) .inr
    rcases hk' with q | q
    ·exact c4 x (.inl (q▸g7 e'))
    ·exact c4 x (.inr (cl02 x (q▸g7 e')))
   rcases hx with hx | hx
   ·exact key _ hx (.inl rfl)
   ·exact key _ hx (.inr rfl)
  ·obtain⟨o,eo,_⟩:=T.obj _ _ st3 b hb
   show b≠C
   exact below b o eo
  ·have z':b∈fp:=z
   obtain⟨_,_,_,z1,_⟩:=f3 b z';rcases z1 with z1 | z1
   ·exact I3.ok.noex b o e z1
   ·exact absurd (HJ (HM (I3.ok.bs b o e).1) z1) (Iw _)
  ·unfold eC at e2
   rw[Ij]at e2
   cases q:src[j]? with
   | none=>rw[q]at e2;simp at e2
   | some o=>
    rw[q]at e2
    cases o with
    | none=>simp at e2
    | some i=>
     have e2':(σ[i]?).join=some v:=by simpa using e2
     have e2'':σ[i]? =some (some v):=by
      cases q2:σ[i]? with
      | none=>rw[q2]at e2';simp at e2'
      | some z=>rw[q2]at e2';simp at e2';rw[e2']
     obtain⟨hN,hfree⟩:=S.from_ j i x q e1
     have hm:=g7 hfree
     have hk:=S.free x hm;obtain⟨m,hn,hl⟩:=I3.loc
     have hv:wt X.env.scope x:=by
      rcases hk with z | z
      ·exact .inr (.inl z)
      ·exact .inr (.inr z)
     obtain⟨u,r,l⟩:=hl i x v hN e2'' hv;refine⟨u,r,.inr ⟨?_,?_⟩⟩
     ·exact gf hfree
     ·rcases l with⟨z,_⟩ | ⟨_,c,ec,ic⟩
      ·rcases hk with z' | z' <;> rw[z']at z <;> cases z
      ·obtain⟨c',ec0⟩:=cl02 x hm
       have ec':cl.lookup x=some c':=(c3 x λz=>by have:=S.cel _ z rfl;rw[hfree]at this;cases this).trans ec0
       have:=cl01 x c' ec0;rw[ec]at this;cases this;obtain⟨o,ho,hd⟩:=ic;exact⟨c,ec',o,old _ _ ho,hd⟩
  ·rcases cl1 x c e with z | z
   ·obtain⟨v,o,ho,hd⟩:=I3.cell x c z
    exact⟨v,o,old _ _ ho,hd⟩
   ·exact⟨none,z.2⟩
  ·obtain⟨e,n,ne,nf,d⟩:=I3.pin p hp
   exact⟨old _ _ e,n,below _ _ e,stk _ ne nf,d⟩
  ·show(eC src σ).length=N'.length
   unfold eC;rw[HI];exact S.len
 obtain⟨bG,bI,bE⟩:=block cl C s3 H3 fp
 have stat:∀{H':Hp},(∀b∈fp,H' b=none)->∀b∈fp,mV (cg X scope cl N' C s3 H3 fp) pins H' b:=λhn b hb=>by
  obtain⟨o,eo,_⟩:=T.obj _ _ st3 b hb;exact⟨hn b hb,below b o eo,stk b (f3 b hb).2.1 (f3 b hb).2.2.1,.inl hb,apart b hb,(f3 b hb).2.2.2.2.2⟩
 have st4:tn 0 h₁:=T.keep _ _ _ st3 λb hb o e=>old b o e
 -- behind the block
 have after:∀(H':Hp) (s':HB) (σ':St),Inv (cg X scope cl N' C s3 H3 fp) pins σ' H' s'->Q (.ref D) H' →
   compPost (model X.prog X.w) X.A X.xe use Qf (.ref D) C (.ok .next) s':=λH' s' σ' I' q=>by
  obtain⟨m,hn,_⟩:=id I'.loc
  have fC:X.s₀.heap.objs.size<=C:=by rw[<-hC];exact I3.sz
  have ltC:∀b o,s3.heap.get? b=some o->b<C:=λb o e=>by rw[<-hC];exact HM e
  refine hend D C H' s' ⟨m,hn⟩ (λh' hsb=> ?_) ⟨I'.free,?_,fC,λx c e z=> ?_,λp hp z=> ?_⟩ q
  rotate_left
  ·have:=I3.lt;rw[hC]at this;exact Jm this
  ·obtain⟨v,ic⟩:=I3.cell x c e
   have:=ic.lt;rw[hC,z]at this;exact Iw _ this
  ·have:=ltC _ _ (I3.pin p hp).1;rw[z]at this;exact Iw _ this
  have u:Un (i7 X.stack) fp H3 H' s3.heap s'.heap:=I'.base
  have lift:∀b o,s3.heap.get? b=some o->∀o',s'.heap.get? b=some o'->h'.get? b=some o':=λb o e o' e'=>hsb.extBut b o' (below b o e) e'
  have u':Un (i7 X.stack) fp H3 H' s3.heap h':=
   ⟨λb o e n hb hx=>lift b o e o (u.keep b o e n hb hx),λb o e n hb hx=>by
     obtain⟨sl,z⟩:=u.slot b o e n hb hx;exact⟨sl,lift b o e _ z⟩,u.free,λb o e hx=>by
     obtain⟨o',z⟩:=u.there b o e hx;exact⟨o',lift b o e _ z⟩,u.tups,u.frzs,u.tbls⟩
  have hCn:H' C=none:=I'.free
  have hok':HOk X.prog X.w H' h':=λb ob e=>by
   refine(I'.hok b ob e).GT (λc w' hc' q'=>(hsb.2 c ?_).trans q') (λ_ q=>q) λ_ _ q=>q
   rintro rfl
   rcases hc' with rfl | hc'
   ·rw[hCn]at e;cases e
   ·rw[hCn]at hc';cases hc'
  have I5:Inv X pins σ H' { s' with heap:=h' }:=I3.Hd (s':={ s' with heap:=h' }) (ch:=fp) I'.os u' hok' I'.bare λb hb=>⟨(f3 b hb).2.2.2.1,(f3 b hb).2.1,(f3 b hb).2.2.2.2.1,(f3 b hb).2.2.2.2.2⟩
  exact I5
 have loop:codeAny (model X.prog X.w) X.A (.compLoop (.ListComp elt [⟨tg,iter,ifs,0⟩] scope pos) 0 (.ref it) (.ref D) (compEnvC scope cl C X.env))
   (compPost (model X.prog X.w) X.A X.xe use Qf (.ref D) C) { s3 with heap:=h₁ }:=by
  refine ql (λn s'=> ∃i σ' ys H',Inv (cg X scope cl N' C s3 H3 fp) pins σ' H' s'/\tn i s'.heap/\(∀b∈fp,H' b=none)/\W i n σ' ys H') ?_ m0 ⟨0,_,[],H3,I4,st4,fr3,w0⟩
  rintro n s5 ⟨i,σ5,ys,H5,I5,st5,fr5,w5⟩
  obtain⟨hDl,alt⟩:=turn i n σ5 ys H5 w5;rcases alt with⟨stop,qn⟩ | ⟨go,hlen,step⟩
  ·refine bR (T.done (cg X scope cl N' C s3 H3 fp) rfl rfl rfl hc i pins s5 σ5 H5 _ I5 (stat fr5) st5 stop) λr s6 ⟨hr,I6⟩=> ?_
   subst hr;exact after H5 s6 σ5 I6 qn
  ·refine bR (T.item (cg X scope cl N' C s3 H3 fp) rfl rfl rfl hc i pins s5 σ5 H5 _ I5 (stat fr5) st5 go) λr s6 ⟨u,hr,h6⟩=> ?_
   subst hr;refine bR h6 λ_ s7 hh_=> ?_
   obtain⟨x,H7,I7,r7,y7,st7,fr7⟩:=hh_
   have I7':=I7.pinned (stat fr7) (T.obj _ _ st7);refine bR (bG _ s7 σ5 H7 x u _ I7' r7 (step x H7 y7)) λ_ s8 hh_=> ?_
   obtain⟨σ8,H8,I8,q8⟩:=hh_;refine bR (bI _ s8 σ8 H8 _ I8 q8) λok s9 hh_=> ?_
   obtain⟨H9,I9,q9⟩:=hh_
   have again:∀{σx:St} {Hx:Hp} {sx:HB} {ys':List V},Inv (cg X scope cl N' C s3 H3 fp) (pins++lI fp s7.heap) σx Hx sx->(∃m',m'<n/\W (i+1) m' σx ys' Hx) →
     ∃m,m<n/\∃i σ' ys H',Inv (cg X scope cl N' C s3 H3 fp) pins σ' H' sx/\tn i sx.heap/\(∀b∈fp,H' b=none)/\W i m σ' ys H':=λ{σx Hx sx ys'} Ix nx=>by
    obtain⟨m',hm,wx⟩:=nx;refine⟨m',hm,i+1,σx,ys',Hx,Ix.GP,T.keep _ _ _ st7 λb hb o e=>(Ix.pin (b,o) (Iz _ (Iz _ (fQ hb e)))).1,λb hb=> ?_,wx⟩
    obtain⟨o,e,d⟩:=T.obj _ _ st7 b hb;exact(Ix.pin (b,o) (Iz _ (Iz _ (fQ hb e)))).2.1
   cases ok with
   | false=>
    rw[if_neg Ig]at q9 ⊢
    exact again I9 q9
   | true=>
    rw[if_pos rfl]at q9 ⊢;refine bR (bE _ s9 σ8 H9 _ I9 q9) λv s10 hh_=> ?_
    obtain⟨y,H10,I10,r10,hD10,q10⟩:=hh_;refine bR (nS _ s10 σ8 H10 (.ref D) [y] (.ref D) [v] (λ_ H'=>H'=upd H10 D (.lst (ys++ [y]))) I10 rfl (.cons r10 .nil) ⟨D,ys,y,rfl,rfl,hD10,hlen,rfl⟩) λ_ s11 hh_=> ?_
    obtain⟨_,H11,I11,_,e11⟩:=hh_;subst e11;exact again I11 q10
 exact codeAny_compStart_list loop (T.self _ 0 _ _ _ st4 loop)
theorem xO {elt tg iter:Expr}{ifs:List Expr}{scope:Le}{pos:Pos}{N':List Str}{src:List (Option Nat)}{wi:TI}{g:TG}{tc:TT}{te:TE}
  (hc:X.calm=true) (S:LcScope X scope N' src) (hi:PI X tg iter wi)
  (block:∀cl C s₀ H₀ fp,PG (cg X scope cl N' C s₀ H₀ fp) tg g/\wu (cg X scope cl N' C s₀ H₀ fp) ifs tc/\PE (cg X scope cl N' C s₀ H₀ fp) elt te)
  (hs:∀x,Jk iter X.env x=pure x:=by intro _;rfl) :
  PE X (.ListComp elt [⟨tg,iter,ifs,0⟩] scope pos) (ER X.K wi src g tc te):=by
 intro pins s σ H Q I h;rw[eval_ListComp];exact uL (use:=none) hc S hi block hs I h λD C H' s' ⟨m,hn⟩ inv _ q=>⟨m,hn,λh' hsb=>⟨.ref D,H',inv h' hsb,rfl,q⟩⟩
theorem Ft {elt tg iter:Expr}{ifs:List Expr}{scope:Le}{pos py spos:Pos}{N':List Str}{src:List (Option Nat)}{wi:TI}{g:TG}{tc:TT}{te:TE}{i:Nat}{y:Str}
  (hc:X.calm=true) (S:LcScope X scope N' src) (hi:PI X tg iter wi)
  (block:∀cl C s₀ H₀ fp,PG (cg X scope cl N' C s₀ H₀ fp) tg g/\wu (cg X scope cl N' C s₀ H₀ fp) ifs tc/\PE (cg X scope cl N' C s₀ H₀ fp) elt te)
  (hN:X.N.Nodup) (hiy:X.N[i]? =some y) (hy:Loc X.env.scope y) (hsw:JK (.ListComp elt [⟨tg,iter,ifs,0⟩] scope pos) (some (.Name y py)) spos.line X.env=pure true)
  (hf:X.fn y=true\/X.env.scope.names.lookup y=some .local) (hs:∀x,Jk iter X.env x=pure x:=by intro _;rfl) :
  PS X (.Assign [.Name y py] (.ListComp elt [⟨tg,iter,ifs,0⟩] scope pos) spos) (Ai (ER X.K wi src g tc te) (y8 i)):=by
 intro pins s σ H D I h;rw[exec_Assign_Name_used _ _ _ _ hsw];refine Hw (wpAny_standAt (Hw ?_))
 show wpAny (model X.prog X.w) X.A (do let _ <-comprehension (.ListComp elt [⟨tg,iter,ifs,0⟩] scope pos) scope X.env _ (newList []) false (eval iter X.env) (some (assign (.Name y py) X.env))) _ _ s
 refine Hw (bR (uL (use:=some (assign (.Name y py) X.env)) (Qf:=λ_ s'=>SP X pins D .next s') (Q:=λv H'=>D.nx (σ.set i (some v)) H') hc S hi block hs I h λL C H' s' ⟨m,hn⟩ inv ⟨c0,c1,c2,c3,c4⟩ q=> ?_) λ_ s' hq=>HF (HF hq))
 have I0:Inv X pins σ H' s':=inv s'.heap (OF ..)
 show wpAny (model X.prog X.w) X.A (assign (.Name y py) X.env (.ref L)) _ _ s'
 refine OW (nB I0 hN hiy hy (v:=.ref L) rfl (λs2 I2 ⟨b,sb,hb⟩=> ?_) hf)
 have hbC:C≠b:=by
  rcases hb with z | z
  ·rw[z];exact c1
  ·exact λw=>c3 y b z w.symm
 refine⟨m,hn.sameBut sb hbC,λh' hsb=> ?_⟩
 exact⟨_,H',I2.turned (t':=s2.toks) (λb' o hb' e=>(hsb.2 b' hb').trans e) c0 c1 (.inr c2) c3 c4,q⟩
end
end L2
namespace Tr
open PySem PySem.Spec PyProof.Rows L2
inductive T where
 | non | bl (b:Bool) | int (i:Int) | str (x:Str) | tup (l:List T) | lst (l:List T)
 /-- the law's script: a list of ints that is only read -/
 | scr (l:List Int)
 /-- a dict: its keys,its values -/
 | dct (ks vs:List T)
def B8:T->Option Key
 | .int i=>some (.inl i)
 | .str x=>some (.inr x)
 | _=>none
def mw:List T->Option (List Key)
 | [] =>some []
 | t::l=>match B8 t,mw l with
  | some k,some r=>some (k::r)
  | _,_=>none
def keyOf:T->Option (List Key)
 | .tup l=>mw l
 | _=>none
inductive Rs (α:Type) where
 | ok (a:α) | err (c:Str) | bad
def Rs.bind {α β:Type}(x:Rs α)(f:α->Rs β):Rs β:=match x with
 | .ok a=>f a
 | .err c=> .err c
 | .bad=> .bad
instance:Monad Rs where
 pure:=Rs.ok
 bind:=Rs.bind
@[simp] theorem aB {α β:Type} (a:α) (f:α->Rs β):(Rs.ok a >>= f)=f a:=rfl
@[simp] theorem Gy {α:Type} (a:α):(pure a:Rs α)=Rs.ok a:=rfl
@[simp] theorem Gh {α β:Type} (f:α->Rs β):((Rs.bad:Rs α) >>= f)= .bad:=rfl
@[simp] theorem Ga {α β:Type} (c:Str) (f:α->Rs β):((Rs.err c:Rs α) >>= f)= .err c:=rfl
abbrev Ow:=Addr->Prop
mutual
def Rep (K:Hy)(O:Ow)(H:Hp):T->V->Prop
 | .non,v=>v= .non
 | .bl b,v=>v= .bl b
 | .int i,v=>v= .int i
 | .str x,v=>v= .str x
 | .tup l,v=> ∃a vs,v= .ref a/\¬ O a/\H a=some (.tup vs)/\Reps K O H l vs
 | .lst l,v=> ∃a vs,v= .ref a/\¬ O a/\H a=some (.lst vs)/\Reps K O H l vs
 | .scr l,v=> ∃a,v= .ref a/\¬ O a/\SqL K H a (l.map V.int)
 | .dct ks ts,v=> ∃a kvs,v= .ref a/\¬ O a/\Rd H a (.dT kvs)/\ks.map keyOf=kvs.map (λp=>some p.1)/\Reps K O H ts (kvs.map (·.2))
def Reps (K:Hy)(O:Ow)(H:Hp):List T->List V->Prop
 | [],vs=>vs= []
 | t::r,vs=> ∃v ws,vs=v::ws/\Rep K O H t v/\Reps K O H r ws
end
def SameO (P:Ow)(H H':Hp):Prop:=∀b o,H b=some o->¬ P b->H' b=some o
theorem SameO.of {P:Ow}{H H':Hp}(h:Same H H'):SameO P H H':=λb o e _=>h b o e
theorem Rd.Hb {P:Ow}{H H':Hp}{a:Addr}{u:HO}(h:SameO P H H')(n:¬ P a)(q:Rd H a u):Rd H' a u:=q.elim (λe=> .inl (h _ _ e n)) λ⟨o,e⟩=> .inr ⟨o,h _ _ e n⟩
theorem SqL.keep {K:Hy}{P:Ow}{H H':Hp}{a:Addr}{vs:List V}(h:SameO P H H')(n:¬ P a)(q:SqL K H a vs):SqL K H' a vs:=by
 rcases q with(q | ⟨o,q⟩) | q
 ·exact .inl (.inl (h _ _ q n))
 ·exact .inl (.inr ⟨o,h _ _ q n⟩)
 ·exact .inr q
mutual
theorem Rep.keep {K:Hy}{O P:Ow}{H H':Hp}(h:SameO P H H')(sub:∀a,P a->O a):∀{t:T} {v:V},Rep K O H t v->Rep K O H' t v
 | .non,_,r=>by unfold Rep at r ⊢;exact r
 | .bl _,_,r=>by unfold Rep at r ⊢;exact r
 | .int _,_,r=>by unfold Rep at r ⊢;exact r
 | .str _,_,r=>by unfold Rep at r ⊢;exact r
 | .tup l,_,r=>by
  unfold Rep at r ⊢;obtain⟨a,vs,e,n,q,z⟩:=r
  exact⟨a,vs,e,n,h _ _ q (λp=>n (sub a p)),Reps.keep h sub z⟩
 | .lst l,_,r=>by
  unfold Rep at r ⊢;obtain⟨a,vs,e,n,q,z⟩:=r
  exact⟨a,vs,e,n,h _ _ q (λp=>n (sub a p)),Reps.keep h sub z⟩
 | .scr l,_,r=>by
  unfold Rep at r ⊢;obtain⟨a,e,n,q⟩:=r
  exact⟨a,e,n,SqL.keep h (λp=>n (sub a p)) q⟩
 | .dct ks ts,_,r=>by
  unfold Rep at r ⊢;obtain⟨a,kvs,e,n,q,k,z⟩:=r;exact⟨a,kvs,e,n,Rd.Hb h (λp=>n (sub a p)) q,k,Reps.keep h sub z⟩
theorem Reps.keep {K:Hy}{O P:Ow}{H H':Hp}(h:SameO P H H')(sub:∀a,P a->O a):∀{l:List T} {vs:List V},Reps K O H l vs->Reps K O H' l vs
 | [],_,r=>by unfold Reps at r ⊢;exact r
 | t::l,_,r=>by
  unfold Reps at r ⊢;obtain⟨v,ws,e,p,q⟩:=r;exact⟨v,ws,e,Rep.keep h sub p,Reps.keep h sub q⟩
end
mutual
theorem Rep.less {K:Hy}{O O':Ow}{H:Hp}(sub:∀a,O' a->O a):∀{t:T} {v:V},Rep K O H t v->Rep K O' H t v
 | .non,_,r=>by unfold Rep at r ⊢;exact r
 | .bl _,_,r=>by unfold Rep at r ⊢;exact r
 | .int _,_,r=>by unfold Rep at r ⊢;exact r
 | .str _,_,r=>by unfold Rep at r ⊢;exact r
 | .tup l,_,r=>by
  unfold Rep at r ⊢;obtain⟨a,vs,e,n,q,z⟩:=r
  exact⟨a,vs,e,λp=>n (sub a p),q,Reps.less sub z⟩
 | .lst l,_,r=>by
  unfold Rep at r ⊢;obtain⟨a,vs,e,n,q,z⟩:=r
  exact⟨a,vs,e,λp=>n (sub a p),q,Reps.less sub z⟩
 | .scr l,_,r=>by
  unfold Rep at r ⊢;obtain⟨a,e,n,z⟩:=r
  exact⟨a,e,λp=>n (sub a p),z⟩
 | .dct ks ts,_,r=>by
  unfold Rep at r ⊢;obtain⟨a,kvs,e,n,q,k,z⟩:=r;exact⟨a,kvs,e,λp=>n (sub a p),q,k,Reps.less sub z⟩
theorem Reps.less {K:Hy}{O O':Ow}{H:Hp}(sub:∀a,O' a->O a):∀{l:List T} {vs:List V},Reps K O H l vs->Reps K O' H l vs
 | [],_,r=>by unfold Reps at r ⊢;exact r
 | t::l,_,r=>by
  unfold Reps at r ⊢;obtain⟨v,ws,e,p,q⟩:=r;exact⟨v,ws,e,Rep.less sub p,Reps.less sub q⟩
end
section
variable {K:Hy}{O:Ow}{H H':Hp}{t:T}{v:V}{l:List T}{vs:List V}
theorem Rep.same (h:Same H H')(r:Rep K O H t v):Rep K O H' t v:=Rep.keep (P:=λ_=>False) (SameO.of h) (λ_ z=>z.elim) r
theorem Reps.same (h:Same H H')(r:Reps K O H l vs):Reps K O H' l vs:=Reps.keep (P:=λ_=>False) (SameO.of h) (λ_ z=>z.elim) r
theorem Rep.Hf:Rep K O H .non .non:=by unfold Rep;rfl
theorem Rep.bl_ (b:Bool):Rep K O H (.bl b) (.bl b):=by unfold Rep;rfl
theorem Rep.GL (i:Int):Rep K O H (.int i) (.int i):=by unfold Rep;rfl
theorem Rep.Ho (x:Str):Rep K O H (.str x) (.str x):=by unfold Rep;rfl
theorem Rep.Fk:Rep K O H (.tup l) v↔ ∃a vs,v= .ref a/\¬ O a/\H a=some (.tup vs)/\Reps K O H l vs:=by unfold Rep;exact Mv
theorem Rep.Do:Rep K O H (.lst l) v↔ ∃a vs,v= .ref a/\¬ O a/\H a=some (.lst vs)/\Reps K O H l vs:=by unfold Rep;exact Mv
theorem Rep.GM {ks ts:List T}:Rep K O H (.dct ks ts) v↔ ∃a kvs,v= .ref a/\¬ O a/\Rd H a (.dT kvs)/\ks.map keyOf=kvs.map (λp=>some p.1)/\Reps K O H ts (kvs.map (·.2)):=by unfold Rep;exact Mv
theorem Rep.Da {i:Int}:Rep K O H (.int i) v↔v= .int i:=by unfold Rep;exact Mv
theorem Rep.FB {b:Bool}:Rep K O H (.bl b) v↔v= .bl b:=by unfold Rep;exact Mv
theorem Rep.Gc {b:Str}:Rep K O H (.str b) v↔v= .str b:=by unfold Rep;exact Mv
theorem Rep.GQ:Rep K O H .non v↔v= .non:=by unfold Rep;exact Mv
theorem Reps.GO:Reps K O H [] []:=by unfold Reps;rfl
theorem Reps.FS (r:Rep K O H t v)(q:Reps K O H l vs):Reps K O H (t::l) (v::vs):=by unfold Reps;exact⟨v,vs,rfl,r,q⟩
theorem Reps.AC:Reps K O H [] vs↔vs= []:=by unfold Reps;exact Mv
theorem Reps.me:Reps K O H (t::l) vs↔ ∃v ws,vs=v::ws/\Rep K O H t v/\Reps K O H l ws:=by
 constructor
 ·intro h;unfold Reps at h;exact h
 ·intro h;unfold Reps;exact h
end
section
variable {K:Hy}{O:Ow}{H H':Hp}
theorem Reps.length:∀{l:List T} {vs:List V},Reps K O H l vs->l.length=vs.length
 | [],vs,r=>by rw[Reps.AC.mp r];rfl
 | t::l,vs,r=>by
  obtain⟨v,ws,rfl,_,q⟩:=Reps.me.mp r;simp[q.length]
theorem Reps.get:∀{l:List T} {vs:List V} {i:Nat} {t:T},Reps K O H l vs->l[i]? =some t->∃v,vs[i]? =some v/\Rep K O H t v
 | [],_,_,_,_,e=>by simp at e
 | t::l,vs,i,u,r,e=>by
  obtain⟨v,ws,rfl,p,q⟩:=Reps.me.mp r
  cases i with
  | zero=>simp at e;subst e;exact⟨v,rfl,p⟩
  | succ i=>
   obtain⟨z,e1,e2⟩:=q.get (i:=i) (t:=u) (by simpa using e)
   exact⟨z,by simpa using e1,e2⟩
theorem Reps.append:∀{l m:List T} {vs ws:List V},Reps K O H l vs->Reps K O H m ws->Reps K O H (l++m) (vs++ws)
 | [],_,vs,_,r,s=>by rw[Reps.AC.mp r];exact s
 | t::l,m,vs,ws,r,s=>by
  obtain⟨v,us,rfl,p,q⟩:=Reps.me.mp r;exact Reps.FS p (q.append s)
theorem Reps.take:∀{l:List T} {vs:List V} (n:Nat),Reps K O H l vs->Reps K O H (l.take n) (vs.take n)
 | _,_,0,_=>Reps.GO
 | [],vs,n+1,r=>by rw[Reps.AC.mp r];exact Reps.GO
 | t::l,vs,n+1,r=>by
  obtain⟨v,us,rfl,p,q⟩:=Reps.me.mp r;exact Reps.FS p (q.take n)
theorem Reps.drop:∀{l:List T} {vs:List V} (n:Nat),Reps K O H l vs->Reps K O H (l.drop n) (vs.drop n)
 | _,_,0,r=>r
 | [],vs,n+1,r=>by rw[Reps.AC.mp r];exact Reps.GO
 | t::l,vs,n+1,r=>by
  obtain⟨v,us,rfl,p,q⟩:=Reps.me.mp r;exact q.drop n
theorem Reps.ints:∀{ns:List Int},Reps K O H (ns.map T.int) (ns.map V.int)
 | [] =>Reps.GO
 | n::r=>Reps.FS (Rep.GL n) Reps.ints
theorem Reps.G3:∀{ns:List Int} {vs:List V},Reps K O H (ns.map T.int) vs->vs=ns.map V.int
 | [],vs,r=>Reps.AC.mp r
 | n::r,vs,q=>by
  obtain⟨v,us,rfl,p,q⟩:=Reps.me.mp q;rw[Rep.Da.mp p,Reps.G3 q];rfl
end
inductive OT where
 | lst (l:List T) | dct (ks ts:List T) | dd (ks:List T) (rows:List (List T×List T))
def OT.view:OT->T
 | .lst l=> .lst l
 | .dct ks ts=> .dct ks ts
 | .dd ks rows=> .dct ks (rows.map λr=> .dct r.1 r.2)
def RowsR (K:Hy)(O:Ow)(H:Hp):List (List T×List T)->List Addr->Prop
 | [],as=>as= []
 | r::rs,as=> ∃b bs kvs,as=b::bs/\H b=some (.dT kvs)/\r.1.map keyOf=kvs.map (λp=>some p.1)/\Reps K O H r.2 (kvs.map (·.2))/\RowsR K O H rs bs
def ORep (K:Hy)(O M:Ow)(H:Hp):OT->V->Prop
 | .lst l,v=> ∃a vs,v= .ref a/\(∀b,M b↔b=a)/\H a=some (.lst vs)/\Reps K O H l vs
 | .dct ks ts,v=> ∃a kvs,v= .ref a/\(∀b,M b↔b=a)/\H a=some (.dT kvs)/\ks.map keyOf=kvs.map (λp=>some p.1)/\Reps K O H ts (kvs.map (·.2))
 | .dd ks rows,v=> ∃a kvs as,v= .ref a/\(∀b,M b↔b=a\/b∈as)/\a∉as/\as.Nodup/\H a=some (.dT kvs)/\ks.map keyOf=kvs.map (λp=>some p.1)/\kvs.map (·.2)=as.map V.ref/\RowsR K O H rows as
inductive Sl where
 | em | va (t:T) | ow (o:OT)
abbrev En:=List Sl
abbrev Mn:=Nat->Ow
def Mn.u (M:Mn):Ow:=λa=> ∃i,M i a
def Mtb (H:Hp)(a:Addr):Prop:=(∃vs,H a=some (.lst vs))\/∃kvs,H a=some (.dT kvs)
theorem Mtb.some {H:Hp}{a:Addr}(h:Mtb H a):∃o,H a=some o:=h.elim (λ⟨_,e⟩=>⟨_,e⟩) λ⟨_,e⟩=>⟨_,e⟩
theorem Mtb.same {H H':Hp}(s:Same H H'){a:Addr}(h:Mtb H a):Mtb H' a:=h.elim (λ⟨vs,e⟩=> .inl ⟨vs,s _ _ e⟩) λ⟨k,e⟩=> .inr ⟨k,s _ _ e⟩
structure EnvM (K:Hy)(O:Ow)(M:Mn)(H:Hp)(Z:En)(σ:L2.St):Prop where
 len:Z.length=σ.length
 val:∀(i:Nat) (t:T),Z[i]? =some (.va t)->∃v,σ[i]? =some (some v)/\Rep K O H t v
 own:∀(i:Nat) (o:OT),Z[i]? =some (.ow o)->∃v,σ[i]? =some (some v)/\ORep K O (M i) H o v
 sub:∀(i:Nat) (a:Addr),M i a->O a
 dis:∀(i j:Nat) (a:Addr),M i a->M j a->i=j
 trk:∀(a:Addr),O a->Mtb H a
theorem RowsR.same {K:Hy}{O:Ow}{H H':Hp}(h:Same H H'):∀{rs:List (List T×List T)} {as:List Addr},RowsR K O H rs as->RowsR K O H' rs as
 | [],_,r=>r
 | _::_,_,⟨b,bs,kvs,e1,e2,e3,e4,e5⟩=>⟨b,bs,kvs,e1,h _ _ e2,e3,e4.same h,e5.same h⟩
theorem ORep.same {K:Hy}{O M:Ow}{H H':Hp}(h:Same H H'){o:OT}{v:V}(r:ORep K O M H o v):ORep K O M H' o v:=by
 cases o with
 | lst l=>obtain⟨a,vs,e1,e2,e3,e4⟩:=r;exact⟨a,vs,e1,e2,h _ _ e3,e4.same h⟩
 | dct ks ts=>obtain⟨a,kvs,e1,e2,e3,e4,e5⟩:=r;exact⟨a,kvs,e1,e2,h _ _ e3,e4,e5.same h⟩
 | dd ks rows=>obtain⟨a,kvs,as,e1,e2,e3,e4,e5,e6,e7,e8⟩:=r;exact⟨a,kvs,as,e1,e2,e3,e4,h _ _ e5,e6,e7,e8.same h⟩
theorem EnvM.same {K:Hy}{O:Ow}{M:Mn}{H H':Hp}{Z:En}{σ:L2.St}(h:Same H H')(e:EnvM K O M H Z σ):EnvM K O M H' Z σ where
 len:=e.len
 val:=λi t q=>let ⟨v,e1,e2⟩:=e.val i t q;⟨v,e1,e2.same h⟩
 own:=λi o q=>let ⟨v,e1,e2⟩:=e.own i o q;⟨v,e1,e2.same h⟩
 sub:=e.sub
 dis:=e.dis
 trk:=λa q=>(e.trk a q).same h
def EnvO (K:Hy)(O:Ow)(H:Hp)(Z:En)(σ:L2.St):Prop:=∃M,EnvM K O M H Z σ
section
variable {K:Hy}{O:Ow}{H H':Hp}{Z:En}{σ:L2.St}
theorem EnvO.val (e:EnvO K O H Z σ)(i:Nat)(t:T)(q:Z[i]? =some (.va t)):∃v,σ[i]? =some (some v)/\Rep K O H t v:=e.elim λ_ e=>e.val i t q
theorem EnvO.mtb (e:EnvO K O H Z σ):∀a,O a->Mtb H a:=e.elim λ_ e=>e.trk
theorem EnvO.trk (e:EnvO K O H Z σ)(a:Addr)(z:O a):∃o,H a=some o:=(e.mtb a z).some
theorem EnvO.same (h:Same H H')(e:EnvO K O H Z σ):EnvO K O H' Z σ:=e.elim λM e=>⟨M,e.same h⟩
theorem EnvO.fresh (e:EnvO K O H Z σ){p:Addr}(h:H p=none):¬ O p:=λz=>by
 obtain⟨o,q⟩:=e.trk p z;rw[h]at q;cases q
end
def GI (h:Heap)(C e:Addr):Option Addr->Prop
 | none=> ∃oe vs,h.get? e=some oe/\oe.cls= .ref C/\oe.data= .fields vs/\vs[1]? =some .none
 | some T=>T≠e/\∃oe vs,h.get? e=some oe/\oe.cls= .ref C/\oe.data= .fields vs/\vs[1]? =some (.ref T)/\∃oT ts,h.get? T=some oT/\oT.data= .fields ts/\ts[3]? =some .none
def RzP (X:Cx)(pins:List (Addr×Obj))(P:Ow)(H:Hp)(c:Str)(ev:HA)(s':HB):Prop:=
 ∃e T C σ' H',ev= .ref e/\X.mg c=some (.ref C)/\Inv X pins σ' H' s'/\SameO P H H'/\H' e=none/\(X.ex= []->X.s₀.heap.get? e=none)/\GI s'.heap C e T/\(∀t,T=some t->H' t=none/\(X.ex= []->X.s₀.heap.get? t=none))/\∀p∈X.pn++pins,p.1≠e/\T≠some p.1
def Nw (K:Hy)(H:Hp):Ow:=λa=>H a=none/\K.lookup a=none
theorem fP {K:Hy}{P:Ow}{H H1:Hp}(h:SameO P H H1){a:Addr}(n:Nw K H1 a):P a\/Nw K H a:=by
 by_cases hp:P a
 ·exact .inl hp
 ·refine .inr ⟨?_,n.2⟩
  cases q:H a with
  | none=>rfl
  | some o=>have:=h a o q hp;rw[n.1]at this;cases this
theorem SameO.trans {K:Hy}{P P1:Ow}{H H1 H2:Hp}(h:SameO P H H1)(h1:SameO P1 H1 H2)(sub:∀a,P1 a->P a\/Nw K H a):SameO P H H2:=λb o e n=>
 h1 b o (h b o e n) λz=>(sub b z).elim n λw=>by rw[w.1]at e;cases e
def XA (X:Cx)(P:Ow)(H:Hp)(c:Str):Prop:=∀pins ev s',RzP X pins P H c ev s'->X.xe ev s'
theorem XA.later {X:Cx}{P P1:Ow}{H H1:Hp}{c:Str}(h:XA X P H c)(s:SameO P H H1)(sub:∀a,P1 a->P a\/Nw X.K H a):XA X P1 H1 c:=λpins ev s' ⟨e,T,C,σ',H',a1,a2,a3,a4,a5⟩=>
 h pins ev s' ⟨e,T,C,σ',H',a1,a2,a3,s.trans a4 sub,a5⟩
abbrev uu:Ow:=λ_=>False
def Post {α:Type}(X:Cx)(H:Hp)(r:Rs α)(k:α->Hp->Prop):Prop:=match r with
 | .ok t=> ∀H',Same H H'->k t H'
 | .err c=>XA X uu H c
 | .bad=>False
theorem Post.mono {α:Type}{X:Cx}{H:Hp}{r:Rs α}{k k':α->Hp->Prop}(h:Post X H r k)(f:∀t H',Same H H'->k t H'->k' t H'):Post X H r k':=by
 cases r with
 | ok t=>exact λH' s=>f t H' s (h H' s)
 | err c=>exact h
 | bad=>exact h
theorem Post.later {α:Type}{X:Cx}{H H1:Hp}{r:Rs α}{k:α->Hp->Prop}(h:Post X H r k)(s:Same H H1):Post X H1 r k:=by
 cases r with
 | ok t=>exact λH' s'=>h H' (s.trans s')
 | err c=>exact XA.later h (SameO.of s) λ_ z=>z.elim
 | bad=>exact h
theorem Post.bind {α β:Type}{X:Cx}{H:Hp}{r:Rs α}{f:α->Rs β}{k:β->Hp->Prop}(h:Post X H (r >>= f) k):Post X H r λt H'=>Post X H' (f t) k:=by
 cases r with
 | ok t=>exact λH' s=>Post.later h s
 | err c=>exact h
 | bad=>exact h
def tP (X:Cx)(f:En->Rs T):TE:=λσ H Q=> ∃Z O,EnvO X.K O H Z σ/\Post X H (f Z) λt H'=> ∀v,Rep X.K O H' t v->Q v H'
def tPA (X:Cx)(f:En->Rs (List T)):TA:=λσ H Q=> ∃Z O,EnvO X.K O H Z σ/\Post X H (f Z) λt H'=> ∀v,Reps X.K O H' t v->Q v H'
def wO (X:Cx)(f:En->Rs Bool):TT:=λσ H Q=> ∃Z O,EnvO X.K O H Z σ/\Post X H (f Z) λb H'=>Q b H'
abbrev bX (X:Cx)(e:Expr)(f:En->Rs T):Prop:=PE X e (tP X f)
abbrev oB (X:Cx)(e:List Expr)(f:En->Rs (List T)):Prop:=PA X e (tPA X f)
abbrev sr (X:Cx)(e:Expr)(f:En->Rs Bool):Prop:=PT X e (wO X f)
theorem PE.imp {X:Cx}{e:Expr}{t t':TE}(h:PE X e t)(w:∀σ H Q,t' σ H Q->t σ H Q):PE X e t':=λpins s σ H Q I q=>h pins s σ H Q I (w σ H Q q)
theorem PA.imp {X:Cx}{e:List Expr}{t t':TA}(h:PA X e t)(w:∀σ H Q,t' σ H Q->t σ H Q):PA X e t':=λpos pins s σ H Q I q=>h pos pins s σ H Q I (w σ H Q q)
theorem PT.imp {X:Cx}{e:Expr}{t t':TT}(h:PT X e t)(w:∀σ H Q,t' σ H Q->t σ H Q):PT X e t':=λpins s σ H Q I q=>h pins s σ H Q I (w σ H Q q)
theorem PS.imp {X:Cx}{e:Stmt}{t t':TS}(h:PS X e t)(w:∀D σ H,t' D σ H->t D σ H):PS X e t':=λpins s σ H D I q=>h pins s σ H D I (w D σ H q)
theorem PSs.imp {X:Cx}{e:List Stmt}{t t':TS}(h:PSs X e t)(w:∀D σ H,t' D σ H->t D σ H):PSs X e t':=λpins s σ H D I q=>h pins s σ H D I (w D σ H q)
section
variable {X:Cx}
theorem aU {σ:L2.St}{H:Hp}{Z:En}{O:Ow}{α:Type}{f:En->Rs T}{k:T->Rs α}{Q:α->Hp->Prop}(E:EnvO X.K O H Z σ)(h:Post X H (f Z >>= k) Q) :
  tP X f σ H λv H'=> ∃t,Rep X.K O H' t v/\Same H H'/\EnvO X.K O H' Z σ/\Post X H' (k t) Q:=
 ⟨Z,O,E,Post.mono h.bind λt H' s q v r=>⟨t,r,s,E.same s,q⟩⟩
theorem dt {σ:L2.St}{H:Hp}{Z:En}{O:Ow}{α:Type}{f:En->Rs (List T)}{k:List T->Rs α}{Q:α->Hp->Prop}(E:EnvO X.K O H Z σ)(h:Post X H (f Z >>= k) Q) :
  tPA X f σ H λv H'=> ∃t,Reps X.K O H' t v/\Same H H'/\EnvO X.K O H' Z σ/\Post X H' (k t) Q:=
 ⟨Z,O,E,Post.mono h.bind λt H' s q v r=>⟨t,r,s,E.same s,q⟩⟩
theorem jm {σ:L2.St}{H:Hp}{Z:En}{O:Ow}{α:Type}{f:En->Rs Bool}{k:Bool->Rs α}{Q:α->Hp->Prop}(E:EnvO X.K O H Z σ)(h:Post X H (f Z >>= k) Q) :
  wO X f σ H λb H'=>Same H H'/\EnvO X.K O H' Z σ/\Post X H' (k b) Q:=
 ⟨Z,O,E,Post.mono h.bind λt H' s q=>⟨s,E.same s,q⟩⟩
noncomputable def vr (i:Nat)(Z:En):Rs T:=match Z[i]? with
 | some (.va t)=> .ok t
 | _=> .bad
def cn (t:T)(_:En):Rs T:=.ok t
theorem xw (i:Nat){x:Str}{pos:Pos}(hN:X.N[i]? =some x:=by rfl)(hv:wt X.env.scope x:=by first | exact Kq rfl | exact JP (Kq rfl) | exact JP (JP rfl))(hd:iA x:=by decide)
  (hcd:(x == ("__classdict__" : Str))=false:=by decide):bX X (.Name x pos) (vr i):=PE.imp (pv hN hv hd hcd) λσ H Q hh_=>by
 obtain⟨Z,O,E,h⟩:=hh_;unfold vr at h
 split at h
 ·rename_i t e
  obtain⟨v,e1,e2⟩:=E.val i t e;exact⟨v,e1,h H (Same.refl H) v e2⟩
 ·exact h.elim
theorem Fj {i j pos}:bX X (.Constant (.int i) j pos) (cn (.int i)):=PE.imp Dq λσ H Q ⟨Z,O,E,h⟩=>h H (Same.refl H) _ (Rep.GL i)
theorem q_bl {i j pos}:bX X (.Constant (.bool i) j pos) (cn (.bl i)):=PE.imp Fy λσ H Q ⟨Z,O,E,h⟩=>h H (Same.refl H) _ (Rep.bl_ i)
theorem Fg {j pos}:bX X (.Constant .none j pos) (cn .non):=PE.imp Dn λσ H Q ⟨Z,O,E,h⟩=>h H (Same.refl H) _ Rep.Hf
theorem C5 {x:Str}{i:Int}{u:HA}{pos:Pos}(hm:X.mg x=some u)(r:RelV (.int i) u)(hg:Gl X x:=by rfl)(hd:iA x:=by decide):bX X (.Name x pos) (cn (.int i)):=
 PE.imp (A3 hg hm r hd) λσ H Q ⟨Z,O,E,h⟩=>h H (Same.refl H) _ (Rep.GL i)
def ai (_:En):Rs (List T):=.ok []
def ae (f:En->Rs T)(g:En->Rs (List T))(Z:En):Rs (List T):=do
 let t <-f Z
 let r <-g Z
 .ok (t::r)
theorem sT:oB X [] ai:=PA.imp lL λσ H Q ⟨Z,O,E,h⟩=>h H (Same.refl H) _ Reps.GO
theorem kP {e:Expr}{es:List Expr}{f:En->Rs T}{g:En->Rs (List T)}(he:bX X e f)(hr:oB X es g)(hs:HY (e::es) X.env=(false,eval e X.env)::HY es X.env:=by rfl):oB X (e::es) (ae f g):=by
 intro pos pins s σ H Q I h;obtain⟨Z,O,E,h⟩:=h;refine gW he hr hs pos pins s σ H Q I ?_
 obtain⟨Z1,O1,E1,h1⟩:=aU E h;refine⟨Z1,O1,E1,Post.mono h1 λt H' s q v r=> ?_⟩
 obtain⟨t',r',s',E',q'⟩:=q v r;refine⟨Z,O,E',Post.mono q'.bind λts H2 s2 q2 vs rs=> ?_⟩
 exact q2 H2 (Same.refl H2) _ (Reps.FS (r'.same s2) rs)
end
section
variable {X:Cx}
def iB (l:List T):Rs T:=if l.length<=sizeLine then .ok (.tup l)else .bad
def iC (l:List T):Rs T:=if l.length<=sizeLine then .ok (.lst l)else .bad
def bp (f:En->Rs (List T))(Z:En):Rs T:=f Z >>= iB
def dM (f:En->Rs (List T))(Z:En):Rs T:=f Z >>= iC
theorem aO {H:Hp}{p:Addr}(h:H p=none)(o:HO):Same H (upd H p o):=λb u q=>by rw[aJ (bz q h)];exact q
theorem fD {K:Hy}{O:Ow}{H:Hp}{p:Addr}{l:List T}{vs:List V}(h:H p=none)(n:¬ O p)(r:Reps K O H l vs):Rep K O (upd H p (.tup vs)) (.tup l) (.ref p):=
 Rep.Fk.mpr ⟨p,vs,rfl,n,aV,r.same (aO h _)⟩
theorem dS {K:Hy}{O:Ow}{H:Hp}{p:Addr}{l:List T}{vs:List V}(h:H p=none)(n:¬ O p)(r:Reps K O H l vs):Rep K O (upd H p (.lst vs)) (.lst l) (.ref p):=
 Rep.Do.mpr ⟨p,vs,rfl,n,aV,r.same (aO h _)⟩
theorem B2 {es:List Expr}{x1:Nat}{pos:Pos}{f:En->Rs (List T)}(h:oB X es f):bX X (.Tuple es x1 pos) (bp f):=by
 intro pins s σ H Q I ⟨Z,O,E,hq⟩;refine Dk h pins s σ H Q I ?_
 obtain⟨Z1,O1,E1,h1⟩:=dt E hq;refine⟨Z1,O1,E1,Post.mono h1 λts H1 s1 q vs r=> ?_⟩
 obtain⟨t',r',s',E',q'⟩:=q vs r;unfold iB at q'
 split at q'
 ·rename_i hz
  refine⟨by rw[<-r'.length];exact hz,λp hp=> ?_⟩
  exact q' _ (aO hp _) _ (fD hp (E'.fresh hp) r')
 ·exact q'.elim
theorem Fh {es:List Expr}{pos:Pos}{f:En->Rs (List T)}(h:oB X es f):bX X (.List es pos) (dM f):=by
 intro pins s σ H Q I ⟨Z,O,E,hq⟩;refine Dp h pins s σ H Q I ?_
 obtain⟨Z1,O1,E1,h1⟩:=dt E hq;refine⟨Z1,O1,E1,Post.mono h1 λts H1 s1 q vs r=> ?_⟩
 obtain⟨t',r',s',E',q'⟩:=q vs r;unfold iC at q'
 split at q'
 ·rename_i hz
  refine⟨by rw[<-r'.length];exact hz,λp hp=> ?_⟩
  exact q' _ (aO hp _) _ (dS hp (E'.fresh hp) r')
 ·exact q'.elim
def OpT (X:Cx)(f:HA->HA->Sem HA)(g:T->T->Rs T):Prop:=
 ∀(pins:List (Addr×Obj)) (s:HB) (σ:L2.St) (H:Hp) (O:Ow) (x y:T) (vx vy:V) (ux uy:HA) (Q:VK),Inv X pins σ H s->(∀p,H p=none->¬ O p)->Rep X.K O H x vx->Rep X.K O H y vy->RelV vx ux->RelV vy uy →
  Post X H (g x y) (λt H'=> ∀v,Rep X.K O H' t v->Q v H')->wpAny (model X.prog X.w) X.A (f ux uy) (EP X pins σ Q) X.xe s
def o2 (g:T->T->Rs T)(fa fb:En->Rs T)(Z:En):Rs T:=do
 let x <-fa Z
 let y <-fb Z
 g x y
variable {a b c:Expr}{fa fb fc:En->Rs T}{pos:Pos}
theorem Fp {op:Qd}{g:T->T->Rs T}(ho:OpT X (JM op) g)(ha:bX X a fa)(hb:bX X b fb):bX X (.BinOp a op b pos) (o2 g fa fb):=by
 intro pins s σ H Q I ⟨Z,O,E,hq⟩
 have h1:=aU E hq;refine wpAny_BinOp (bR (ha pins s σ H _ I h1) λv s1 hh_=> ?_)
 obtain⟨x,H1,I1,r1,t,rt,s',E',q1⟩:=hh_
 have h2:=aU (f:=fb) E' q1;refine bR (hb pins s1 σ H1 _ I1 h2) λu s2 hh_=> ?_
 obtain⟨y,H2,I2,r2,t2,rt2,s'',E'',q2⟩:=hh_;exact ho pins s2 σ H2 O t t2 x y v u Q I2 (λp=>E''.fresh) (rt.same s'') rt2 r1 r2 q2
theorem Fo {op:CmpOp}{g:T->T->Rs T}(ho:OpT X (IW op) g)(ha:bX X a fa)(hb:bX X b fb)(hm:MY op b=false:=by rfl):bX X (.Compare a [op] [b] pos) (o2 g fa fb):=by
 intro pins s σ H Q I ⟨Z,O,E,hq⟩
 have h1:=aU E hq;refine wpAny_Compare1 (bR (ha pins s σ H _ I h1) λv s1 ⟨x,H1,I1,r1,t,rt,s',E',q1⟩=> ?_) hm
 have h2:=aU (f:=fb) E' q1;refine bR (hb pins s1 σ H1 _ I1 h2) λu s2 hh_=> ?_
 obtain⟨y,H2,I2,r2,t2,rt2,s'',E'',q2⟩:=hh_;exact ho pins s2 σ H2 O t t2 x y v u Q I2 (λp=>E''.fresh) (rt.same s'') rt2 r1 r2 q2
theorem OpT.of {f:HA->HA->Sem HA}{r:R2}(h:oC X f r){g:T->T->Rs T}
  (w:∀(H:Hp) (O:Ow) (x y:T) (vx vy:V) (Q:VK),(∀p,H p=none->¬ O p)->Rep X.K O H x vx->Rep X.K O H y vy->Post X H (g x y) (λt H'=> ∀v,Rep X.K O H' t v->Q v H')->r vx vy H Q):OpT X f g:=
 λpins s σ H O x y vx vy ux uy Q I hf rx ry r1 r2 hp=>h pins s σ H vx vy ux uy Q I r1 r2 (w H O x y vx vy Q hf rx ry hp)
def ig:T->T->Rs T
 | .int i,.int j=> .ok (.int (i - j))
 | _,_=> .bad
theorem gw:OpT X (JM .Sub) ig:=OpT.of Dt λH O x y vx vy Q hf rx ry hp=>by
 unfold ig at hp
 split at hp
 ·exact⟨_,_,Rep.Da.mp rx,Rep.Da.mp ry,hp H (Same.refl H) _ (Rep.GL _)⟩
 ·exact hp.elim
def jK:T->T->Rs T
 | .int i,.int j=>if 0<j/\j<1073741824 then .ok (.int (i / j))else .bad
 | _,_=> .bad
def jE:T->T->Rs T
 | .int i,.int j=>if 0<j then .ok (.int (i % j))else .bad
 | _,_=> .bad
theorem kQ:OpT X (JM .FloorDiv) jK:=OpT.of A9 λH O x y vx vy Q hf rx ry hp=>by
 unfold jK at hp
 split at hp
 ·split at hp
  ·rename_i h
   exact⟨_,_,Rep.Da.mp rx,Rep.Da.mp ry,h,hp H (Same.refl H) _ (Rep.GL _)⟩
  ·exact hp.elim
 ·exact hp.elim
theorem iP:OpT X (JM .Mod) jE:=OpT.of Dw λH O x y vx vy Q hf rx ry hp=>by
 unfold jE at hp
 split at hp
 ·split at hp
  ·rename_i h
   exact⟨_,_,Rep.Da.mp rx,Rep.Da.mp ry,h,hp H (Same.refl H) _ (Rep.GL _)⟩
  ·exact hp.elim
 ·exact hp.elim
theorem xV:oC X (JM .Add) (λx y H Q=> ∃a b ys,x= .ref a/\y= .ref b/\SqT X.K H a []/\SqT X.K H b ys/\Q (.ref b) H):=by
 intro pins s σ H x y v u Q I rx ry h;obtain⟨a,b,ys,rfl,rfl,ha,hb,q⟩:=h;cases rx;cases ry;obtain⟨its,r1,p1,_⟩:=I.tuple ha;obtain⟨its2,r2,p2,_⟩:=I.tuple hb;obtain⟨⟨cls,dd,data,sl⟩,ho,hc,n,hd⟩:=id p1;obtain⟨⟨cls2,dd2,data2,sl2⟩,ho2,hc2,n2,hd2⟩:=id p2;simp only at hc hd hc2 hd2;subst hc hd hc2 hd2
 have e:its= []:=by cases r1;rfl
 subst e;exact HT_concat0 ho ho2 ⟨.ref b,H,I,rfl,q⟩
where
 HT_concat0 {prog:H0} {w:IP} {A:Iu} {E:HA->HB->Prop} {s:HB} {t b:Addr} {ws:Array HA} {n n2:Nat} {dd dd2:Option Addr} {sl sl2:Array (Option HA)} {Q:HA->HB->Prop}
   (ho:s.heap.get? t=some { cls:=.type "tuple",dict:=dd,data:=.seq (([]:List HA).toArray) n,slots:=sl }) (ho2:s.heap.get? b=some { cls:=.type "tuple",dict:=dd2,data:=.seq ws n2,slots:=sl2 }) (h:Q (.ref b) s) :
   wpAny (model prog w) A (JM .Add (.ref t) (.ref b)) Q E s:=
  Pf ⟨_,ho,rfl⟩ ⟨_,ho2,rfl⟩ Na Oy Lf K6 (K1 _ _)
   (tuple_addW0 t b _ _ n n2 dd dd2 sl sl2 (by simp)) ⟨ho,ho2,h⟩
def aQ:T->T->Rs T
 | .int i,.int j=> .ok (.int (i+j))
 | .str i,.str j=>if i.length+j.length<=sizeLine then .ok (.str (i++j))else .bad
 | .tup l,.tup m=>iB (l++m)
 | .lst l,.lst m=>iC (l++m)
 | _,_=> .bad
theorem aM:OpT X (JM .Add) aQ:=by
 intro pins s σ H O x y vx vy ux uy Q I hf rx ry r1 r2 hp;unfold aQ at hp
 split at hp
 ·exact Dz pins s σ H vx vy ux uy Q I r1 r2 ⟨_,_,Rep.Da.mp rx,Rep.Da.mp ry,hp H (Same.refl H) _ (Rep.GL _)⟩
 ·split at hp
  ·rename_i h
   exact sV pins s σ H vx vy ux uy Q I r1 r2 ⟨_,_,Rep.Gc.mp rx,Rep.Gc.mp ry,h,hp H (Same.refl H) _ (Rep.Ho _)⟩
  ·exact hp.elim
 ·rename_i l m
  unfold iB at hp
  split at hp
  ·rename_i h
   obtain⟨a,vs,e1,n1,q1,z1⟩:=Rep.Fk.mp rx;obtain⟨b,ws,e2,n2,q2,z2⟩:=Rep.Fk.mp ry
   have hl1:=z1.length
   have hl2:=z2.length;rw[HP]at h
   cases vs with
   | nil=>
    have e:l= []:=by cases l with
     | nil=>rfl
     | cons _ _=>simp at hl1
    subst e
    exact xV pins s σ H vx vy ux uy Q I r1 r2 ⟨a,b,ws,e1,e2,SqT.of q1,SqT.of q2,hp H (Same.refl H) _ (Rep.Fk.mpr ⟨b,ws,rfl,n2,q2,z2⟩)⟩
   | cons v0 vr=>
    refine Ba pins s σ H vx vy ux uy Q I r1 r2 ⟨a,b,v0::vr,ws,e1,e2,SqT.of q1,SqT.of q2,by simp,by omega,λhw=> ?_,λ_ p hpn=> ?_⟩
    ·subst hw
     have e:m= []:=by cases m with
      | nil=>rfl
      | cons _ _=>simp at hl2
     subst e;rw[JH]at hp;exact hp H (Same.refl H) _ (Rep.Fk.mpr ⟨a,_,rfl,n1,q1,z1⟩)
    ·exact hp _ (aO hpn _) _ (fD hpn (hf p hpn) (z1.append z2))
  ·exact hp.elim
 ·rename_i l m
  unfold iC at hp
  split at hp
  ·rename_i h
   obtain⟨a,vs,e1,n1,q1,z1⟩:=Rep.Do.mp rx;obtain⟨b,ws,e2,n2,q2,z2⟩:=Rep.Do.mp ry
   have hl1:=z1.length
   have hl2:=z2.length;rw[HP]at h;exact Dy pins s σ H vx vy ux uy Q I r1 r2 ⟨a,b,vs,ws,e1,e2,q1,q2,by omega,λp hpn=>hp _ (aO hpn _) _ (dS hpn (hf p hpn) (z1.append z2))⟩
  ·exact hp.elim
 ·exact hp.elim
def tE:T->T->Rs T
 | .int i,.int j=>if (-(2 ^ 64)<i/\i<2 ^ 64)\/(-(2 ^ 64)<j/\j<2 ^ 64)then .ok (.int (i*j))else .bad
 | .lst l,.int k=>if -(2 ^ 63)<=k/\k<2 ^ 63/\l.length*k.toNat<=sizeLine then .ok (.lst (Ib k.toNat l).flatten)else .bad
 | _,_=> .bad
theorem Reps.rep {K:Hy}{O:Ow}{H:Hp}{l:List T}{vs:List V}(h:Reps K O H l vs):∀k:Nat,Reps K O H (Ib k l).flatten (Ib k vs).flatten
 | 0=>Reps.GO
 | k+1=>by rw[JC,JC,Kf,Kf];exact h.append (h.rep k)
theorem Ds:OpT X (JM .Mult) tE:=by
 intro pins s σ H O x y vx vy ux uy Q I hf rx ry r1 r2 hp;unfold tE at hp
 split at hp
 ·split at hp
  ·rename_i h
   exact Dv pins s σ H vx vy ux uy Q I r1 r2 ⟨_,_,Rep.Da.mp rx,Rep.Da.mp ry,h,hp H (Same.refl H) _ (Rep.GL _)⟩
  ·exact hp.elim
 ·split at hp
  ·rename_i l k h
   obtain⟨a,vs,e1,n1,q1,z1⟩:=Rep.Do.mp rx
   have hl1:=z1.length;exact Du pins s σ H vx vy ux uy Q I r1 r2 ⟨a,k,vs,e1,Rep.Da.mp ry,q1,h.1,h.2.1,by rw[<-hl1];exact h.2.2,λp hpn=>hp _ (aO hpn _) _ (dS hpn (hf p hpn) (z1.rep _))⟩
  ·exact hp.elim
 ·exact hp.elim
def kE:T->Rs T
 | .int i=> .ok (.int (-i))
 | _=> .bad
def o1 (g:T->Rs T)(fa:En->Rs T)(Z:En):Rs T:=fa Z >>= g
theorem B3 (ha:bX X a fa):bX X (.UnaryOp .USub a pos) (o1 kE fa):=by
 intro pins s σ H Q I ⟨Z,O,E,hq⟩;refine Fw Cq ha pins s σ H Q I ?_
 obtain⟨Z1,O1,E1,h1⟩:=aU E hq;refine⟨Z1,O1,E1,Post.mono h1 λts H1 s1 q vs r=> ?_⟩
 obtain⟨t',r',s',E',q'⟩:=q vs r;unfold kE at q'
 split at q'
 ·exact⟨_,Rep.Da.mp r',q' H1 (Same.refl H1) _ (Rep.GL _)⟩
 ·exact q'.elim
def se (p:Int->Int->Bool):T->T->Rs T
 | .int i,.int j=> .ok (.bl (p i j))
 | _,_=> .bad
theorem pC {op:CmpOp}{p:Int->Int->Bool}(h:oC X (IW op) (B1 λi j=> .bl (p i j))):OpT X (IW op) (se p):=OpT.of h λH O x y vx vy Q hf rx ry hp=>by
 unfold se at hp
 split at hp
 ·exact⟨_,_,Rep.Da.mp rx,Rep.Da.mp ry,hp H (Same.refl H) _ (Rep.bl_ _)⟩
 ·exact hp.elim
abbrev EB:=se λi j=>decide (i<j)
abbrev FI:=se λi j=>decide (i<=j)
abbrev gtT:=se λi j=>decide (j<i)
theorem xU:OpT X (IW .Lt) EB:=pC FA
theorem ur:OpT X (IW .LtE) FI:=pC FC
theorem Fz:OpT X (IW .Gt) gtT:=pC FD
def T.isN:T->Bool
 | .non=>true
 | _=>false
theorem Rep.isN {K:Hy}{O:Ow}{H:Hp}{t:T}{v:V}(r:Rep K O H t v):decide (v= .non)=t.isN:=by
 cases t with
 | non=>rw[Rep.GQ.mp r];rfl
 | bl _=>rw[Rep.FB.mp r];rfl
 | int _=>rw[Rep.Da.mp r];rfl
 | str _=>rw[Rep.Gc.mp r];rfl
 | tup _=>obtain⟨a,vs,e,_⟩:=Rep.Fk.mp r;rw[e];rfl
 | lst _=>obtain⟨a,vs,e,_⟩:=Rep.Do.mp r;rw[e];rfl
 | scr _=>unfold Rep at r;obtain⟨a,e,_⟩:=r;rw[e];rfl
 | dct _ _=>obtain⟨a,_,e,_⟩:=Rep.GM.mp r;rw[e];rfl
def jJ:T->T->Rs T
 | x,.non=> .ok (.bl x.isN)
 | _,_=> .bad
def kj:T->T->Rs T
 | x,.non=> .ok (.bl (!x.isN))
 | _,_=> .bad
theorem q0:OpT X (IW .Is) jJ:=OpT.of Dx λH O x y vx vy Q hf rx ry hp=>by
 unfold jJ at hp
 split at hp
 ·exact⟨Rep.GQ.mp ry,hp H (Same.refl H) _ (by rw[rx.isN];exact Rep.bl_ _)⟩
 ·exact hp.elim
theorem lM:OpT X (IW .IsNot) kj:=OpT.of A8 λH O x y vx vy Q hf rx ry hp=>by
 unfold kj at hp
 split at hp
 ·exact⟨Rep.GQ.mp ry,hp H (Same.refl H) _ (by rw[rx.isN];exact Rep.bl_ _)⟩
 ·exact hp.elim
end
end Tr
namespace Tr
open PySem PySem.Spec PyProof.Rows L2
open PySem.SeqAt
mutual
def ReV (s:HB):T->HA->Prop
 | .non,u=>u= .none
 | .bl b,u=>u= .bool b
 | .int i,u=> ∃t,u= .int i t
 | .str x,u=> ∃t,u= .str x t
 | .tup l,u=> ∃a its,u= .ref a/\s.heap.IsTuple a (LD its)/\ReVs s l its
 | .lst l,u=> ∃a its,u= .ref a/\s.heap.IsList a (LD its)/\ReVs s l its
 | .scr l,u=> ∃a its,u= .ref a/\s.heap.IsList a (LD its)/\Jw its l
 | .dct _ _,_=>False
def ReVs (s:HB):List T->List HA->Prop
 | [],us=>us= []
 | t::r,us=> ∃u ws,us=u::ws/\ReV s t u/\ReVs s r ws
end
theorem ReVs.AC {s:HB}{us:List HA}:ReVs s [] us↔us= []:=by unfold ReVs;exact Mv
theorem ReVs.me {s:HB}{t:T}{l:List T}{us:List HA}:ReVs s (t::l) us↔ ∃u ws,us=u::ws/\ReV s t u/\ReVs s l ws:=by
 constructor
 ·intro h;unfold ReVs at h;exact h
 ·intro h;unfold ReVs;exact h
theorem ReVs.length {s:HB}:∀{l:List T} {us:List HA},ReVs s l us->l.length=us.length
 | [],us,r=>by rw[ReVs.AC.mp r];rfl
 | t::l,us,r=>by
  obtain⟨v,ws,rfl,_,q⟩:=ReVs.me.mp r;simp[q.length]
theorem ReVs.get {s:HB}:∀{l:List T} {us:List HA} {i:Nat} {t:T},ReVs s l us->l[i]? =some t->∃v,us[i]? =some v/\ReV s t v
 | [],_,_,_,_,e=>by simp at e
 | t::l,vs,i,u,r,e=>by
  obtain⟨v,ws,rfl,p,q⟩:=ReVs.me.mp r
  cases i with
  | zero=>simp at e;subst e;exact⟨v,rfl,p⟩
  | succ i=>
   obtain⟨z,e1,e2⟩:=q.get (i:=i) (t:=u) (by simpa using e)
   exact⟨z,by simpa using e1,e2⟩
mutual
def T.nd:T->Bool
 | .dct _ _=>false
 | .tup l=>nds l
 | .lst l=>nds l
 | _=>true
def nds:List T->Bool
 | [] =>true
 | t::l=>t.nd&&nds l
end
theorem rE {t:T}{l:List T}(h:nds (t::l)=true):t.nd=true/\nds l=true:=by unfold nds at h;exact JO.mp h
section
variable {X:Cx}{pins:List (Addr×Obj)}{σ:L2.St}{H:Hp}{s:HB}{O:Ow}
mutual
theorem Rep.val (I:Inv X pins σ H s):∀{t:T} {v:V} {u:HA},t.nd=true->Rep X.K O H t v->RelV v u->ReV s t u
 | .non,v,u,hn,r,q=>by cases Rep.GQ.mp r;unfold ReV;exact q
 | .bl b,v,u,hn,r,q=>by cases Rep.FB.mp r;unfold ReV;exact q
 | .int b,v,u,hn,r,q=>by cases Rep.Da.mp r;unfold ReV;exact q
 | .str b,v,u,hn,r,q=>by cases Rep.Gc.mp r;unfold ReV;exact q
 | .tup l,v,u,hn,r,q=>by
  obtain⟨a,vs,rfl,_,z,w⟩:=Rep.Fk.mp r;cases q;obtain⟨its,rv,p,_⟩:=I.tuple (SqT.of z);unfold ReV
  exact⟨a,its,rfl,p,Reps.val I (by unfold T.nd at hn;exact hn) w rv⟩
 | .lst l,v,u,hn,r,q=>by
  obtain⟨a,vs,rfl,_,z,w⟩:=Rep.Do.mp r;cases q;obtain⟨its,rv,p,_⟩:=I.list (SqL.of z);unfold ReV
  exact⟨a,its,rfl,p.isList,Reps.val I (by unfold T.nd at hn;exact hn) w rv⟩
 | .scr l,v,u,hn,r,q=>by
  unfold Rep at r;obtain⟨a,rfl,_,z⟩:=r;cases q;obtain⟨its,rv,p,_⟩:=I.list z;unfold ReV
  exact⟨a,its,rfl,p.isList,tJ rv⟩
 | .dct _ _,v,u,hn,r,q=>by cases hn
theorem Reps.val (I:Inv X pins σ H s):∀{l:List T} {vs:List V} {us:List HA},nds l=true->Reps X.K O H l vs->Vals vs us->ReVs s l us
 | [],vs,us,hn,r,q=>by
  cases Reps.AC.mp r;cases q
  exact ReVs.AC.mpr rfl
 | t::l,vs,us,hn,r,q=>by
  obtain⟨v,ws,rfl,p,z⟩:=Reps.me.mp r
  cases q with
  | cons q1 q2=>exact ReVs.me.mpr ⟨_,_,rfl,Rep.val I (rE hn).1 p q1,Reps.val I (rE hn).2 z q2⟩
end
end
mutual
def T.dep:T->Nat
 | .tup l=>deps l+1
 | .lst l=>deps l+1
 | .scr _=>1
 | _=>0
def deps:List T->Nat
 | [] =>0
 | t::l=>max t.dep (deps l)
end
def BJ (i:Int):T->Bool
 | .int j=>i == j
 | .bl b=>i == (if b then 1 else 0)
 | _=>false
def iH:List Int->List T->Bool
 | [],[] =>true
 | i::r,t::l=>BJ i t&&iH r l
 | _,_=>false
mutual
def aR:T->T->Bool
 | .non,.non=>true
 | .bl a,.bl b=>a == b
 | .bl a,.int b=>(if a then 1 else 0) == b
 | .int a,.bl b=>a == (if b then 1 else 0)
 | .int a,.int b=>a == b
 | .str a,.str b=>a == b
 | .tup l,.tup m=>beqTs l m
 | .lst l,.lst m=>beqTs l m
 | .lst l,.scr m=>beqTs l (m.map .int)
 | .scr l,.lst m=>iH l m
 | .scr l,.scr m=>l == m
 | _,_=>false
def beqTs:List T->List T->Bool
 | [],[] =>true
 | t::l,u::m=>aR t u&&beqTs l m
 | _,_=>false
end
theorem mU (n:Nat)(e:Nat->Bool):(HD (n+1)).all e=(e 0&&(HD n).all λj=>e (j+1)):=by
 rw[Li,Oh,Pb];rfl
theorem j8:∀(l m:List T) (e:Nat->Bool),(∀(j:Nat) t u,l[j]? =some t->m[j]? =some u->e j=aR t u) →
  beqTs l m=((HD (min l.length m.length)).all e&&l.length == m.length)
 | [],[],_,_=>by simp[beqTs]
 | [],_::_,_,_=>by simp[beqTs]
 | _::_,[],_,_=>by simp[beqTs]
 | t::l,u::m,e,h=>by
  have ih:=j8 l m (λj=>e (j+1)) λj t' u' h1 h2=>h (j+1) t' u' (by simpa using h1) (by simpa using h2)
  rw[beqTs,ih]
  have h0:=h 0 t u rfl rfl;simp only[HQ];rw[Nat.succ_min_succ,mU,h0,Bool.and_assoc]
  congr 2
  simp
theorem ox:∀{l m:List T},l.length≠m.length->beqTs l m=false
 | [],[],h=>absurd rfl h
 | [],_::_,_=>by simp[beqTs]
 | _::_,[],_=>by simp[beqTs]
 | t::l,u::m,h=>by
  rw[beqTs,ox (l:=l) (m:=m) (by intro z;exact h (by simp[z]))]
  simp
theorem gH:∀{l:List T} {i:Nat} {t:T},l[i]? =some t->t.dep<=deps l
 | [],_,_,e=>by simp at e
 | t::l,0,u,e=>by simp at e;subst e;unfold deps;exact Nat.le_max_left _ _
 | t::l,i+1,u,e=>by
  have:=gH (l:=l) (i:=i) (t:=u) (by simpa using e)
  unfold deps;exact Ii this (Nat.le_max_right _ _)
theorem gD {s:HB}{a:Addr}{x y:List HA}(h:s.heap.IsTuple a x.toArray)(h':s.heap.IsTuple a y.toArray):x=y:=by
 obtain⟨o,e,_,n,d⟩:=h;obtain⟨o',e',_,n',d'⟩:=h';rw[e]at e';cases e';rw[d]at d';injection d' with d1 _
 simpa using congrArg Nm d1
theorem cu {s:HB}{a:Addr}{x y:List HA}(h:s.heap.IsList a x.toArray)(h':s.heap.IsList a y.toArray):x=y:=by
 obtain⟨o,e,_,n,d⟩:=h;obtain⟨o',e',_,n',d'⟩:=h';rw[e]at e';cases e';rw[d]at d';injection d' with d1 _
 simpa using congrArg Nm d1
theorem we {s:HB}{i:Int}{t:T}{k:Tok}(r:ReV s t (.int i k)):BJ i t=true:=by
 cases t with
 | non=>unfold ReV at r;cases r
 | bl b=>unfold ReV at r;cases r
 | int j=>unfold ReV at r;obtain⟨t,e⟩:=r;injection e with e1 _;subst e1;simp[BJ]
 | str x=>unfold ReV at r;obtain⟨t,e⟩:=r;cases e
 | tup l=>unfold ReV at r;obtain⟨a,its,e,_⟩:=r;cases e
 | lst l=>unfold ReV at r;obtain⟨a,its,e,_⟩:=r;cases e
 | scr l=>unfold ReV at r;obtain⟨a,its,e,_⟩:=r;cases e
 | dct _ _=>unfold ReV at r;exact r.elim
theorem mS {s:HB}:∀{ns:List Int} {us:List HA} {l:List T},Jw us ns->ReVs s l us->iH ns l=true
 | [],us,l,h,r=>by
  cases h
  cases l with
  | nil=>rfl
  | cons t l=>obtain⟨_,_,e,_⟩:=ReVs.me.mp r;cases e
 | n::ns,us,l,h,r=>by
  cases h with
  | cons a b hh=>
   cases l with
   | nil=>have:=ReVs.AC.mp r;cases this
   | cons t l=>
    obtain⟨u,ws,e,p,q⟩:=ReVs.me.mp r;injection e with e1 e2
    subst e1 e2;rw[iH,we p,mS hh q];rfl
theorem dg {s:HB}:∀{us:List HA} {ns:List Int},Jw us ns->ReVs s (ns.map T.int) us
 | _,_,.nil=>ReVs.AC.mpr rfl
 | _,_,.cons n t h=>ReVs.me.mpr ⟨_,_,rfl,by unfold ReV;exact⟨_,rfl⟩,dg h⟩
theorem gE:∀{us:List HA} {ns ms:List Int},Jw us ns->Jw us ms->ns=ms
 | _,_,_,.nil,.nil=>rfl
 | _,_,_,.cons n t h,.cons _ _ h'=>by rw[gE h h']
mutual
theorem ReV.refl {s:HB}:∀{t u:T} {v:HA},ReV s t v->ReV s u v->aR t u=true
 | .non,u,v,r,q=>by
  unfold ReV at r;subst r
  cases u <;> (unfold ReV at q) <;> first | rfl | (cases q;done) | (obtain⟨_,e⟩:=q;cases e;done) | (obtain⟨_,_,e,_⟩:=q;cases e;done)
 | .bl b,u,v,r,q=>by
  unfold ReV at r;subst r
  cases u <;> (unfold ReV at q) <;> first | (cases q;done) | (cases q;simp[aR];done) | (obtain⟨_,e⟩:=q;cases e;done) | (obtain⟨_,_,e,_⟩:=q;cases e;done)
 | .int b,u,v,r,q=>by
  unfold ReV at r;obtain⟨k,rfl⟩:=r
  cases u <;> (unfold ReV at q) <;> first | (cases q;done) | (obtain⟨_,e⟩:=q;cases e;simp[aR];done) | (obtain⟨_,e⟩:=q;cases e;done) | (obtain⟨_,_,e,_⟩:=q;cases e;done)
 | .str b,u,v,r,q=>by
  unfold ReV at r;obtain⟨k,rfl⟩:=r
  cases u <;> (unfold ReV at q) <;> first | (cases q;done) | (obtain⟨_,e⟩:=q;cases e;simp[aR];done) | (obtain⟨_,e⟩:=q;cases e;done) | (obtain⟨_,_,e,_⟩:=q;cases e;done)
 | .tup l,u,v,r,q=>by
  unfold ReV at r;obtain⟨a,its,rfl,h1,h2⟩:=r
  cases u with
  | non=>unfold ReV at q;cases q
  | dct _ _=>unfold ReV at q;exact q.elim
  | bl _=>unfold ReV at q;cases q
  | int _=>unfold ReV at q;obtain⟨_,e⟩:=q;cases e
  | str _=>unfold ReV at q;obtain⟨_,e⟩:=q;cases e
  | tup m=>
   unfold ReV at q;obtain⟨a',its',e,h1',h2'⟩:=q;injection e with e;subst e
   have:=gD h1 h1';subst this;unfold aR
   exact ReVs.refl h2 h2'
  | lst m=>unfold ReV at q;obtain⟨a',its',e,h1',h2'⟩:=q;injection e with e;subst e;exact absurd rfl (ne_of_list_tuple h1' h1)
  | scr m=>unfold ReV at q;obtain⟨a',its',e,h1',h2'⟩:=q;injection e with e;subst e;exact absurd rfl (ne_of_list_tuple h1' h1)
 | .lst l,u,v,r,q=>by
  unfold ReV at r;obtain⟨a,its,rfl,h1,h2⟩:=r
  cases u with
  | non=>unfold ReV at q;cases q
  | dct _ _=>unfold ReV at q;exact q.elim
  | bl _=>unfold ReV at q;cases q
  | int _=>unfold ReV at q;obtain⟨_,e⟩:=q;cases e
  | str _=>unfold ReV at q;obtain⟨_,e⟩:=q;cases e
  | lst m=>
   unfold ReV at q;obtain⟨a',its',e,h1',h2'⟩:=q;injection e with e;subst e
   have:=cu h1 h1';subst this;unfold aR
   exact ReVs.refl h2 h2'
  | tup m=>unfold ReV at q;obtain⟨a',its',e,h1',h2'⟩:=q;injection e with e;subst e;exact absurd rfl (ne_of_list_tuple h1 h1')
  | scr m=>
   unfold ReV at q;obtain⟨a',its',e,h1',h2'⟩:=q;injection e with e;subst e
   have:=cu h1 h1';subst this;unfold aR
   exact ReVs.refl h2 (dg h2')
 | .scr l,u,v,r,q=>by
  unfold ReV at r;obtain⟨a,its,rfl,h1,h2⟩:=r
  cases u with
  | non=>unfold ReV at q;cases q
  | dct _ _=>unfold ReV at q;exact q.elim
  | bl _=>unfold ReV at q;cases q
  | int _=>unfold ReV at q;obtain⟨_,e⟩:=q;cases e
  | str _=>unfold ReV at q;obtain⟨_,e⟩:=q;cases e
  | lst m=>
   unfold ReV at q;obtain⟨a',its',e,h1',h2'⟩:=q;injection e with e;subst e
   have:=cu h1 h1';subst this;unfold aR
   exact mS h2 h2'
  | tup m=>unfold ReV at q;obtain⟨a',its',e,h1',h2'⟩:=q;injection e with e;subst e;exact absurd rfl (ne_of_list_tuple h1 h1')
  | scr m=>
   unfold ReV at q;obtain⟨a',its',e,h1',h2'⟩:=q;injection e with e;subst e
   have:=cu h1 h1';subst this;unfold aR
   have:=gE h2 h2'
   simp[this]
 | .dct _ _,u,v,r,q=>by unfold ReV at r;exact r.elim
theorem ReVs.refl {s:HB}:∀{l m:List T} {us:List HA},ReVs s l us->ReVs s m us->beqTs l m=true
 | [],m,us,r,q=>by
  cases ReVs.AC.mp r
  cases m with
  | nil=>simp[beqTs]
  | cons _ _=>obtain⟨_,_,e,_⟩:=ReVs.me.mp q;cases e
 | t::l,m,us,r,q=>by
  obtain⟨v,ws,rfl,p,z⟩:=ReVs.me.mp r
  cases m with
  | nil=>cases ReVs.AC.mp q
  | cons u m=>
   obtain⟨v',ws',e,p',z'⟩:=ReVs.me.mp q;injection e with e1 e2
   subst e1 e2;rw[beqTs,ReV.refl p p',ReVs.refl z z'];rfl
end
theorem mQ:∀(l:List Int) (m:List T),iH l m=beqTs (l.map T.int) m
 | [],[] =>by simp[iH,beqTs]
 | [],_::_=>by simp[iH,beqTs]
 | _::_,[] =>by simp[iH,beqTs]
 | i::l,t::m=>by
  rw[iH,HE,beqTs,mQ l m]
  congr 1
  cases t <;> simp[BJ,aR]
theorem oS:∀(l m:List Int),(l == m)=beqTs (l.map T.int) (m.map T.int)
 | [],[] =>by simp[beqTs]
 | [],_::_=>by simp[beqTs]
 | _::_,[] =>by simp[beqTs]
 | i::l,t::m=>by
  rw[HE,HE,beqTs,<-oS l m];simp[aR]
theorem eG:∀(l:List Int),deps (l.map T.int)=0
 | [] =>rfl
 | i::l=>by rw[HE,deps,eG l];simp[T.dep]
def gY:T->T->Prop
 | .tup _,.tup _=>False
 | .lst _,.lst _=>False
 | .lst _,.scr _=>False
 | .scr _,.lst _=>False
 | .scr _,.scr _=>False
 | _,_=>True
theorem rS (A:Iu)(s:HB)(x y:T)(u v:HA)(hn:gY x y)(hu:A.units<cLine)(rx:ReV s x u)(ry:ReV s y v):EqAt A s u v (aR x y)/\RcAt A s u v (aR x y)/\RcNeAt A s u v (!aR x y):=by
 match x,y,hn,rx,ry with
 | .dct _ _,_,_,rx,_=>exact(by unfold ReV at rx;exact rx:False).elim
 | _,.dct _ _,_,_,ry=>exact(by unfold ReV at ry;exact ry:False).elim
 | .non,.non,hn,rx,ry=>
  obtain rfl:u=IE:=by unfold ReV at rx;exact rx
  obtain rfl:v=IE:=by unfold ReV at ry;exact ry
  exact⟨EqAt.same _,RcAt.none_none ,RcNeAt.none_none ⟩
 | .non,.bl b2,hn,rx,ry=>
  obtain rfl:u=IE:=by unfold ReV at rx;exact rx
  obtain rfl:v=Ji b2:=by unfold ReV at ry;exact ry
  exact⟨EqAt.none_bool b2,RcAt.none_bool b2,RcNeAt.none_bool b2⟩
 | .non,.int i2,hn,rx,ry=>
  obtain rfl:u=IE:=by unfold ReV at rx;exact rx
  obtain⟨k2,rfl⟩:∃k,v=IU i2 k:=by unfold ReV at ry;exact ry
  exact⟨EqAt.none_int i2 k2,RcAt.none_int i2 k2,RcNeAt.none_int i2 k2⟩
 | .non,.str x2,hn,rx,ry=>
  obtain rfl:u=IE:=by unfold ReV at rx;exact rx
  obtain⟨k2,rfl⟩:∃k,v=JG x2 k:=by unfold ReV at ry;exact ry
  exact⟨EqAt.none_str x2 k2,RcAt.none_str x2 k2,RcNeAt.none_str x2 k2⟩
 | .non,.tup l2,hn,rx,ry=>
  obtain rfl:u=IE:=by unfold ReV at rx;exact rx
  unfold ReV at ry;obtain⟨a2,us2,rfl,h2,q2⟩:=ry
  exact⟨EqAt.none_tuple h2 hu,RcAt.none_tuple h2 hu,RcNeAt.none_tuple h2 hu⟩
 | .non,.lst l2,hn,rx,ry=>
  obtain rfl:u=IE:=by unfold ReV at rx;exact rx
  unfold ReV at ry;obtain⟨a2,us2,rfl,h2,q2⟩:=ry
  exact⟨EqAt.none_list h2 hu,RcAt.none_list h2 hu,RcNeAt.none_list h2 hu⟩
 | .non,.scr l2,hn,rx,ry=>
  obtain rfl:u=IE:=by unfold ReV at rx;exact rx
  unfold ReV at ry;obtain⟨a2,us2,rfl,h2,q2⟩:=ry
  exact⟨EqAt.none_list h2 hu,RcAt.none_list h2 hu,RcNeAt.none_list h2 hu⟩
 | .bl b1,.non,hn,rx,ry=>
  obtain rfl:u=Ji b1:=by unfold ReV at rx;exact rx
  obtain rfl:v=IE:=by unfold ReV at ry;exact ry
  exact⟨EqAt.bool_none b1,RcAt.bool_none b1,RcNeAt.bool_none b1⟩
 | .bl b1,.bl b2,hn,rx,ry=>
  obtain rfl:u=Ji b1:=by unfold ReV at rx;exact rx
  obtain rfl:v=Ji b2:=by unfold ReV at ry;exact ry
  exact⟨EqAt.bool_bool b1 b2,RcAt.bool_bool b1 b2,RcNeAt.bool_bool b1 b2⟩
 | .bl b1,.int i2,hn,rx,ry=>
  obtain rfl:u=Ji b1:=by unfold ReV at rx;exact rx
  obtain⟨k2,rfl⟩:∃k,v=IU i2 k:=by unfold ReV at ry;exact ry
  exact⟨EqAt.bool_int b1 i2 k2,RcAt.bool_int b1 i2 k2,RcNeAt.bool_int b1 i2 k2⟩
 | .bl b1,.str x2,hn,rx,ry=>
  obtain rfl:u=Ji b1:=by unfold ReV at rx;exact rx
  obtain⟨k2,rfl⟩:∃k,v=JG x2 k:=by unfold ReV at ry;exact ry
  exact⟨EqAt.bool_str b1 x2 k2,RcAt.bool_str b1 x2 k2,RcNeAt.bool_str b1 x2 k2⟩
 | .bl b1,.tup l2,hn,rx,ry=>
  obtain rfl:u=Ji b1:=by unfold ReV at rx;exact rx
  unfold ReV at ry;obtain⟨a2,us2,rfl,h2,q2⟩:=ry
  exact⟨EqAt.bool_tuple b1 h2 hu,RcAt.bool_tuple b1 h2 hu,RcNeAt.bool_tuple b1 h2 hu⟩
 | .bl b1,.lst l2,hn,rx,ry=>
  obtain rfl:u=Ji b1:=by unfold ReV at rx;exact rx
  unfold ReV at ry;obtain⟨a2,us2,rfl,h2,q2⟩:=ry
  exact⟨EqAt.bool_list b1 h2 hu,RcAt.bool_list b1 h2 hu,RcNeAt.bool_list b1 h2 hu⟩
 | .bl b1,.scr l2,hn,rx,ry=>
  obtain rfl:u=Ji b1:=by unfold ReV at rx;exact rx
  unfold ReV at ry;obtain⟨a2,us2,rfl,h2,q2⟩:=ry
  exact⟨EqAt.bool_list b1 h2 hu,RcAt.bool_list b1 h2 hu,RcNeAt.bool_list b1 h2 hu⟩
 | .int i1,.non,hn,rx,ry=>
  obtain⟨k1,rfl⟩:∃k,u=IU i1 k:=by unfold ReV at rx;exact rx
  obtain rfl:v=IE:=by unfold ReV at ry;exact ry
  exact⟨EqAt.int_none i1 k1,RcAt.int_none i1 k1,RcNeAt.int_none i1 k1⟩
 | .int i1,.bl b2,hn,rx,ry=>
  obtain⟨k1,rfl⟩:∃k,u=IU i1 k:=by unfold ReV at rx;exact rx
  obtain rfl:v=Ji b2:=by unfold ReV at ry;exact ry
  exact⟨EqAt.int_bool i1 k1 b2,RcAt.int_bool i1 k1 b2,RcNeAt.int_bool i1 k1 b2⟩
 | .int i1,.int i2,hn,rx,ry=>
  obtain⟨k1,rfl⟩:∃k,u=IU i1 k:=by unfold ReV at rx;exact rx
  obtain⟨k2,rfl⟩:∃k,v=IU i2 k:=by unfold ReV at ry;exact ry
  exact⟨EqAt.int_int i1 k1 i2 k2,RcAt.int_int i1 k1 i2 k2,RcNeAt.int_int i1 k1 i2 k2⟩
 | .int i1,.str x2,hn,rx,ry=>
  obtain⟨k1,rfl⟩:∃k,u=IU i1 k:=by unfold ReV at rx;exact rx
  obtain⟨k2,rfl⟩:∃k,v=JG x2 k:=by unfold ReV at ry;exact ry
  exact⟨EqAt.int_str i1 k1 x2 k2,RcAt.int_str i1 k1 x2 k2,RcNeAt.int_str i1 k1 x2 k2⟩
 | .int i1,.tup l2,hn,rx,ry=>
  obtain⟨k1,rfl⟩:∃k,u=IU i1 k:=by unfold ReV at rx;exact rx
  unfold ReV at ry;obtain⟨a2,us2,rfl,h2,q2⟩:=ry
  exact⟨EqAt.int_tuple i1 k1 h2 hu,RcAt.int_tuple i1 k1 h2 hu,RcNeAt.int_tuple i1 k1 h2 hu⟩
 | .int i1,.lst l2,hn,rx,ry=>
  obtain⟨k1,rfl⟩:∃k,u=IU i1 k:=by unfold ReV at rx;exact rx
  unfold ReV at ry;obtain⟨a2,us2,rfl,h2,q2⟩:=ry
  exact⟨EqAt.int_list i1 k1 h2 hu,RcAt.int_list i1 k1 h2 hu,RcNeAt.int_list i1 k1 h2 hu⟩
 | .int i1,.scr l2,hn,rx,ry=>
  obtain⟨k1,rfl⟩:∃k,u=IU i1 k:=by unfold ReV at rx;exact rx
  unfold ReV at ry;obtain⟨a2,us2,rfl,h2,q2⟩:=ry
  exact⟨EqAt.int_list i1 k1 h2 hu,RcAt.int_list i1 k1 h2 hu,RcNeAt.int_list i1 k1 h2 hu⟩
 | .str x1,.non,hn,rx,ry=>
  obtain⟨k1,rfl⟩:∃k,u=JG x1 k:=by unfold ReV at rx;exact rx
  obtain rfl:v=IE:=by unfold ReV at ry;exact ry
  exact⟨EqAt.str_none x1 k1,RcAt.str_none x1 k1,RcNeAt.str_none x1 k1⟩
 | .str x1,.bl b2,hn,rx,ry=>
  obtain⟨k1,rfl⟩:∃k,u=JG x1 k:=by unfold ReV at rx;exact rx
  obtain rfl:v=Ji b2:=by unfold ReV at ry;exact ry
  exact⟨EqAt.str_bool x1 k1 b2,RcAt.str_bool x1 k1 b2,RcNeAt.str_bool x1 k1 b2⟩
 | .str x1,.int i2,hn,rx,ry=>
  obtain⟨k1,rfl⟩:∃k,u=JG x1 k:=by unfold ReV at rx;exact rx
  obtain⟨k2,rfl⟩:∃k,v=IU i2 k:=by unfold ReV at ry;exact ry
  exact⟨EqAt.str_int x1 k1 i2 k2,RcAt.str_int x1 k1 i2 k2,RcNeAt.str_int x1 k1 i2 k2⟩
 | .str x1,.str x2,hn,rx,ry=>
  obtain⟨k1,rfl⟩:∃k,u=JG x1 k:=by unfold ReV at rx;exact rx
  obtain⟨k2,rfl⟩:∃k,v=JG x2 k:=by unfold ReV at ry;exact ry
  exact⟨EqAt.str_str x1 k1 x2 k2,RcAt.str_str x1 k1 x2 k2,RcNeAt.str_str x1 k1 x2 k2⟩
 | .str x1,.tup l2,hn,rx,ry=>
  obtain⟨k1,rfl⟩:∃k,u=JG x1 k:=by unfold ReV at rx;exact rx
  unfold ReV at ry;obtain⟨a2,us2,rfl,h2,q2⟩:=ry
  exact⟨EqAt.str_tuple x1 k1 h2 hu,RcAt.str_tuple x1 k1 h2 hu,RcNeAt.str_tuple x1 k1 h2 hu⟩
 | .str x1,.lst l2,hn,rx,ry=>
  obtain⟨k1,rfl⟩:∃k,u=JG x1 k:=by unfold ReV at rx;exact rx
  unfold ReV at ry;obtain⟨a2,us2,rfl,h2,q2⟩:=ry
  exact⟨EqAt.str_list x1 k1 h2 hu,RcAt.str_list x1 k1 h2 hu,RcNeAt.str_list x1 k1 h2 hu⟩
 | .str x1,.scr l2,hn,rx,ry=>
  obtain⟨k1,rfl⟩:∃k,u=JG x1 k:=by unfold ReV at rx;exact rx
  unfold ReV at ry;obtain⟨a2,us2,rfl,h2,q2⟩:=ry
  exact⟨EqAt.str_list x1 k1 h2 hu,RcAt.str_list x1 k1 h2 hu,RcNeAt.str_list x1 k1 h2 hu⟩
 | .tup l1,.non,hn,rx,ry=>
  unfold ReV at rx;obtain⟨a1,us1,rfl,h1,q1⟩:=rx;obtain rfl:v=IE:=by unfold ReV at ry;exact ry
  exact⟨EqAt.tuple_none h1 hu,RcAt.tuple_none h1 hu,RcNeAt.tuple_none h1 hu⟩
 | .tup l1,.bl b2,hn,rx,ry=>
  unfold ReV at rx;obtain⟨a1,us1,rfl,h1,q1⟩:=rx;obtain rfl:v=Ji b2:=by unfold ReV at ry;exact ry
  exact⟨EqAt.tuple_bool b2 h1 hu,RcAt.tuple_bool b2 h1 hu,RcNeAt.tuple_bool b2 h1 hu⟩
 | .tup l1,.int i2,hn,rx,ry=>
  unfold ReV at rx;obtain⟨a1,us1,rfl,h1,q1⟩:=rx;obtain⟨k2,rfl⟩:∃k,v=IU i2 k:=by unfold ReV at ry;exact ry
  exact⟨EqAt.tuple_int i2 k2 h1 hu,RcAt.tuple_int i2 k2 h1 hu,RcNeAt.tuple_int i2 k2 h1 hu⟩
 | .tup l1,.str x2,hn,rx,ry=>
  unfold ReV at rx;obtain⟨a1,us1,rfl,h1,q1⟩:=rx;obtain⟨k2,rfl⟩:∃k,v=JG x2 k:=by unfold ReV at ry;exact ry
  exact⟨EqAt.tuple_str x2 k2 h1 hu,RcAt.tuple_str x2 k2 h1 hu,RcNeAt.tuple_str x2 k2 h1 hu⟩
 | .tup _,.tup _,hn,_,_=>exact hn.elim
 | .tup l1,.lst l2,hn,rx,ry=>
  unfold ReV at rx;obtain⟨a1,us1,rfl,h1,q1⟩:=rx;unfold ReV at ry;obtain⟨a2,us2,rfl,h2,q2⟩:=ry
  exact⟨EqAt.tuple_list h1 h2 hu,RcAt.tuple_list h1 h2 hu,RcNeAt.tuple_list h1 h2 hu⟩
 | .tup l1,.scr l2,hn,rx,ry=>
  unfold ReV at rx;obtain⟨a1,us1,rfl,h1,q1⟩:=rx;unfold ReV at ry;obtain⟨a2,us2,rfl,h2,q2⟩:=ry
  exact⟨EqAt.tuple_list h1 h2 hu,RcAt.tuple_list h1 h2 hu,RcNeAt.tuple_list h1 h2 hu⟩
 | .lst l1,.non,hn,rx,ry=>
  unfold ReV at rx;obtain⟨a1,us1,rfl,h1,q1⟩:=rx;obtain rfl:v=IE:=by unfold ReV at ry;exact ry
  exact⟨EqAt.list_none h1 hu,RcAt.list_none h1 hu,RcNeAt.list_none h1 hu⟩
 | .lst l1,.bl b2,hn,rx,ry=>
  unfold ReV at rx;obtain⟨a1,us1,rfl,h1,q1⟩:=rx;obtain rfl:v=Ji b2:=by unfold ReV at ry;exact ry
  exact⟨EqAt.list_bool b2 h1 hu,RcAt.list_bool b2 h1 hu,RcNeAt.list_bool b2 h1 hu⟩
 | .lst l1,.int i2,hn,rx,ry=>
  unfold ReV at rx;obtain⟨a1,us1,rfl,h1,q1⟩:=rx;obtain⟨k2,rfl⟩:∃k,v=IU i2 k:=by unfold ReV at ry;exact ry
  exact⟨EqAt.list_int i2 k2 h1 hu,RcAt.list_int i2 k2 h1 hu,RcNeAt.list_int i2 k2 h1 hu⟩
 | .lst l1,.str x2,hn,rx,ry=>
  unfold ReV at rx;obtain⟨a1,us1,rfl,h1,q1⟩:=rx;obtain⟨k2,rfl⟩:∃k,v=JG x2 k:=by unfold ReV at ry;exact ry
  exact⟨EqAt.list_str x2 k2 h1 hu,RcAt.list_str x2 k2 h1 hu,RcNeAt.list_str x2 k2 h1 hu⟩
 | .lst l1,.tup l2,hn,rx,ry=>
  unfold ReV at rx;obtain⟨a1,us1,rfl,h1,q1⟩:=rx;unfold ReV at ry;obtain⟨a2,us2,rfl,h2,q2⟩:=ry
  exact⟨EqAt.list_tuple h1 h2 hu,RcAt.list_tuple h1 h2 hu,RcNeAt.list_tuple h1 h2 hu⟩
 | .lst _,.lst _,hn,_,_=>exact hn.elim
 | .lst _,.scr _,hn,_,_=>exact hn.elim
 | .scr l1,.non,hn,rx,ry=>
  unfold ReV at rx;obtain⟨a1,us1,rfl,h1,q1⟩:=rx;obtain rfl:v=IE:=by unfold ReV at ry;exact ry
  exact⟨EqAt.list_none h1 hu,RcAt.list_none h1 hu,RcNeAt.list_none h1 hu⟩
 | .scr l1,.bl b2,hn,rx,ry=>
  unfold ReV at rx;obtain⟨a1,us1,rfl,h1,q1⟩:=rx;obtain rfl:v=Ji b2:=by unfold ReV at ry;exact ry
  exact⟨EqAt.list_bool b2 h1 hu,RcAt.list_bool b2 h1 hu,RcNeAt.list_bool b2 h1 hu⟩
 | .scr l1,.int i2,hn,rx,ry=>
  unfold ReV at rx;obtain⟨a1,us1,rfl,h1,q1⟩:=rx;obtain⟨k2,rfl⟩:∃k,v=IU i2 k:=by unfold ReV at ry;exact ry
  exact⟨EqAt.list_int i2 k2 h1 hu,RcAt.list_int i2 k2 h1 hu,RcNeAt.list_int i2 k2 h1 hu⟩
 | .scr l1,.str x2,hn,rx,ry=>
  unfold ReV at rx;obtain⟨a1,us1,rfl,h1,q1⟩:=rx;obtain⟨k2,rfl⟩:∃k,v=JG x2 k:=by unfold ReV at ry;exact ry
  exact⟨EqAt.list_str x2 k2 h1 hu,RcAt.list_str x2 k2 h1 hu,RcNeAt.list_str x2 k2 h1 hu⟩
 | .scr l1,.tup l2,hn,rx,ry=>
  unfold ReV at rx;obtain⟨a1,us1,rfl,h1,q1⟩:=rx;unfold ReV at ry;obtain⟨a2,us2,rfl,h2,q2⟩:=ry
  exact⟨EqAt.list_tuple h1 h2 hu,RcAt.list_tuple h1 h2 hu,RcNeAt.list_tuple h1 h2 hu⟩
 | .scr _,.lst _,hn,_,_=>exact hn.elim
 | .scr _,.scr _,hn,_,_=>exact hn.elim
theorem BA:∀(n:Nat) (A:Iu) (s:HB) (x y:T) (u v:HA),(x.dep<=n\/y.dep<=n)->A.units+n<cLine->ReV s x u->ReV s y v->EqAt A s u v (aR x y)/\RcAt A s u v (aR x y)/\RcNeAt A s u v (!aR x y):=by
 intro n
 induction n with
 | zero=>
  intro A s x y u v hd hu rx ry
  exact rS A s x y u v (by cases x <;> cases y <;> simp_all [gY,T.dep]) (by omega) rx ry
 | succ n ih=>
  intro A s x y u v hd hu rx ry
  have hin:A.in1.units+n<cLine:=by show A.units+1+n<cLine;omega
  have items:∀(l m:List T) (us vs:List HA),(deps l<=n\/deps m<=n)->ReVs s l us->ReVs s m vs->∃e:Nat->Bool,(∀j (h1:j<us.toArray.size) (h2:j<vs.toArray.size),EqAt A.in1 s us.toArray[j] vs.toArray[j] (e j)) ∧
    (∀(j:Nat) t u,l[j]? =some t->m[j]? =some u->e j=aR t u):=λl m us vs hd r1 r2=>by
   refine⟨λj=>aR (l.getD j .non) (m.getD j .non),λj h1 h2=> ?_,λj t u e1 e2=>by simp[List.getD,e1,e2]⟩
   have l1:=r1.length
   have l2:=r2.length
   have h1':j<l.length:=by rw[l1];simpa using h1
   have h2':j<m.length:=by rw[l2];simpa using h2
   have e1:l[j]? =some l[j]:=by simp
   have e2:m[j]? =some m[j]:=by simp
   obtain⟨u1,z1,w1⟩:=r1.get e1;obtain⟨u2,z2,w2⟩:=r2.get e2
   have q1:us.toArray[j] =u1:=by
    have:us[j]? =some us.toArray[j]:=by simp
    rw[z1]at this;exact(Ip this).symm
   have q2:vs.toArray[j] =u2:=by
    have:vs[j]? =some vs.toArray[j]:=by simp
    rw[z2]at this;exact(Ip this).symm
   rw[q1,q2]
   have g1:l.getD j .non=l[j]:=by simp[List.getD,e1]
   have g2:m.getD j .non=m[j]:=by simp[List.getD,e2]
   show EqAt A.in1 s u1 u2 (aR (l.getD j .non) (m.getD j .non))
   rw[g1,g2];refine(ih A.in1 s l[j] m[j] u1 u2 ?_ hin w1 w2).1
   rcases hd with hd | hd
   ·exact .inl (Ii (gH e1) hd)
   ·exact .inr (Ii (gH e2) hd)
  have lists:∀(l m:List T) (a b:Addr) (us vs:List HA),(deps l<=n\/deps m<=n)->ReVs s l us->ReVs s m vs->s.heap.IsList a us.toArray->s.heap.IsList b vs.toArray →
    EqAt A s (.ref a) (.ref b) (beqTs l m)/\RcAt A s (.ref a) (.ref b) (beqTs l m)/\RcNeAt A s (.ref a) (.ref b) (!beqTs l m):=λl m a b us vs hd r1 r2 h1 h2=>by
   have l1:=r1.length
   have l2:=r2.length
   have key:RcAt A s (.ref a) (.ref b) (beqTs l m)/\RcNeAt A s (.ref a) (.ref b) (!beqTs l m):=by
    by_cases hl:l.length=m.length
    ·obtain⟨e,he,hb⟩:=items l m us vs hd r1 r2
     have q:=j8 l m e hb
     have q2:beqTs l m=(HD us.toArray.size).all e:=by
      rw[q,hl,Nat.min_self];simp[l2.symm,hl.symm,l1]
     rw[q2]
     have hsz:us.toArray.size=vs.toArray.size:=by simp;omega
     exact⟨RcAt.lists h1 h2 hsz (by omega) he,RcNeAt.lists h1 h2 hsz (by omega) he⟩
    ·rw[ox hl]
     have hsz:(us.toArray.size != vs.toArray.size)=true:=by simp;omega
     exact⟨RcAt.lists_lengths h1 h2 hsz (by omega),RcNeAt.lists_lengths h1 h2 hsz (by omega)⟩
   refine⟨?_,key⟩
   by_cases hab:a=b
   ·subst hab
    have:=cu h1 h2;subst this;rw[ReVs.refl r1 r2];exact EqAt.same _
   ·exact EqAt.of_refs hab key.1
  cases x with
  | tup l=>
   cases y with
   | tup m=>
    unfold ReV at rx ry;obtain⟨a,us,rfl,h1,r1⟩:=rx;obtain⟨b,vs,rfl,h2,r2⟩:=ry
    have hd':deps l<=n\/deps m<=n:=by
     simp only[T.dep]at hd;omega
    have l1:=r1.length
    have l2:=r2.length;obtain⟨e,he,hb⟩:=items l m us vs hd' r1 r2
    have q:=j8 l m e hb
    have q2:beqTs l m=((HD (min us.toArray.size vs.toArray.size)).all e&&us.toArray.size == vs.toArray.size):=by
     rw[q];simp[l1,l2]
    have key:RcAt A s (.ref a) (.ref b) (beqTs l m)/\RcNeAt A s (.ref a) (.ref b) (!beqTs l m):=by
     rw[q2];exact⟨RcAt.tuples h1 h2 (by omega) he,RcNeAt.tuples h1 h2 (by omega) he⟩
    unfold aR;refine⟨?_,key⟩
    by_cases hab:a=b
    ·subst hab
     have:=gD h1 h2;subst this;rw[ReVs.refl r1 r2];exact EqAt.same _
    ·exact EqAt.of_refs hab key.1
   | _=>exact rS A s _ _ u v (by simp[gY]) (by omega) rx ry
  | lst l=>
   cases y with
   | lst m=>
    unfold ReV at rx ry;obtain⟨a,us,rfl,h1,r1⟩:=rx;obtain⟨b,vs,rfl,h2,r2⟩:=ry;unfold aR
    exact lists l m a b us vs (by simp only[T.dep]at hd;omega) r1 r2 h1 h2
   | scr m=>
    unfold ReV at rx ry;obtain⟨a,us,rfl,h1,r1⟩:=rx;obtain⟨b,vs,rfl,h2,r2⟩:=ry;unfold aR
    exact lists l (m.map T.int) a b us vs (by rw[eG];omega) r1 (dg r2) h1 h2
   | _=>exact rS A s _ _ u v (by simp[gY]) (by omega) rx ry
  | scr l=>
   cases y with
   | lst m=>
    unfold ReV at rx ry;obtain⟨a,us,rfl,h1,r1⟩:=rx;obtain⟨b,vs,rfl,h2,r2⟩:=ry;unfold aR;rw[mQ]
    exact lists (l.map T.int) m a b us vs (by rw[eG];omega) (dg r1) r2 h1 h2
   | scr m=>
    unfold ReV at rx ry;obtain⟨a,us,rfl,h1,r1⟩:=rx;obtain⟨b,vs,rfl,h2,r2⟩:=ry;unfold aR;rw[oS]
    exact lists (l.map T.int) (m.map T.int) a b us vs (by rw[eG];omega) (dg r1) (dg r2) h1 h2
   | _=>exact rS A s _ _ u v (by simp[gY]) (by omega) rx ry
  | _=>exact rS A s _ _ u v (by simp[gY]) (by omega) rx ry
mutual
def T.nf:T->T
 | .tup l=> .tup (nfs l)
 | .lst l=> .lst (nfs l)
 | .scr l=> .lst (l.map .int)
 | .non=> .non
 | .bl b=> .bl b
 | .int b=> .int b
 | .str b=> .str b
 | .dct a b=> .dct a b
def nfs:List T->List T
 | [] => []
 | t::l=>t.nf::nfs l
end
theorem rB:∀(l:List Int),nfs (l.map T.int)=l.map T.int
 | [] =>rfl
 | i::l=>by rw[HE,nfs,rB l];simp[T.nf]
mutual
theorem jN:∀(t x:T),aR t.nf x=aR t x
 | .non,x=>by simp[T.nf]
 | .bl _,x=>by simp[T.nf]
 | .int _,x=>by simp[T.nf]
 | .str _,x=>by simp[T.nf]
 | .tup l,x=>by cases x <;> simp[T.nf,aR,beqTs_nf l]
 | .lst l,x=>by cases x <;> simp[T.nf,aR,beqTs_nf l]
 | .scr l,x=>by cases x <;> simp[T.nf,aR,mQ,oS]
 | .dct _ _,x=>by simp[T.nf]
theorem beqTs_nf:∀(l m:List T),beqTs (nfs l) m=beqTs l m
 | [],m=>by simp[nfs]
 | t::l,m=>by cases m <;> simp[nfs,beqTs,jN t,beqTs_nf l]
end
theorem DX {s:HB}{t:T}{i:Int}{k:Tok}(r:ReV s t (.int i k)):t.nf= .int i:=by
 cases t with
 | non=>unfold ReV at r;cases r
 | bl b=>unfold ReV at r;cases r
 | int j=>unfold ReV at r;obtain⟨t,e⟩:=r;injection e with e1 _;subst e1;rfl
 | str x=>unfold ReV at r;obtain⟨t,e⟩:=r;cases e
 | tup l=>unfold ReV at r;obtain⟨a,its,e,_⟩:=r;cases e
 | lst l=>unfold ReV at r;obtain⟨a,its,e,_⟩:=r;cases e
 | scr l=>unfold ReV at r;obtain⟨a,its,e,_⟩:=r;cases e
 | dct _ _=>unfold ReV at r;exact r.elim
theorem uS {s:HB}:∀{l:List T} {us:List HA} {ns:List Int},ReVs s l us->Jw us ns->nfs l=ns.map T.int
 | [],us,ns,r,h=>by cases ReVs.AC.mp r;cases h;rfl
 | t::l,us,ns,r,h=>by
  obtain⟨u,ws,rfl,p,q⟩:=ReVs.me.mp r
  cases h with
  | cons a b hh=>rw[nfs,DX p,uS q hh];rfl
mutual
theorem ReV.nf {s:HB}:∀{t u:T} {v:HA},ReV s t v->ReV s u v->t.nf=u.nf
 | .non,u,v,r,q=>by
  unfold ReV at r;subst r
  cases u <;> (unfold ReV at q) <;> first | rfl | (cases q;done) | (obtain⟨_,e⟩:=q;cases e;done) | (obtain⟨_,_,e,_⟩:=q;cases e;done)
 | .bl b,u,v,r,q=>by
  unfold ReV at r;subst r
  cases u <;> (unfold ReV at q) <;> first | (cases q;done) | (cases q;rfl) | (obtain⟨_,e⟩:=q;cases e;done) | (obtain⟨_,_,e,_⟩:=q;cases e;done)
 | .int b,u,v,r,q=>by
  unfold ReV at r;obtain⟨k,rfl⟩:=r
  cases u <;> (unfold ReV at q) <;> first | (cases q;done) | (obtain⟨_,e⟩:=q;cases e;done) | (obtain⟨_,e⟩:=q;cases e;rfl) | (obtain⟨_,_,e,_⟩:=q;cases e;done)
 | .str b,u,v,r,q=>by
  unfold ReV at r;obtain⟨k,rfl⟩:=r
  cases u <;> (unfold ReV at q) <;> first | (cases q;done) | (obtain⟨_,e⟩:=q;cases e;done) | (obtain⟨_,e⟩:=q;cases e;rfl) | (obtain⟨_,_,e,_⟩:=q;cases e;done)
 | .tup l,u,v,r,q=>by
  unfold ReV at r;obtain⟨a,its,rfl,h1,h2⟩:=r
  cases u with
  | non=>unfold ReV at q;cases q
  | dct _ _=>unfold ReV at q;exact q.elim
  | bl _=>unfold ReV at q;cases q
  | int _=>unfold ReV at q;obtain⟨_,e⟩:=q;cases e
  | str _=>unfold ReV at q;obtain⟨_,e⟩:=q;cases e
  | tup m=>
   unfold ReV at q;obtain⟨a',its',e,h1',h2'⟩:=q;injection e with e;subst e
   have:=gD h1 h1';subst this;unfold T.nf
   rw[ReVs.nf h2 h2']
  | lst m=>unfold ReV at q;obtain⟨a',its',e,h1',h2'⟩:=q;injection e with e;subst e;exact absurd rfl (ne_of_list_tuple h1' h1)
  | scr m=>unfold ReV at q;obtain⟨a',its',e,h1',h2'⟩:=q;injection e with e;subst e;exact absurd rfl (ne_of_list_tuple h1' h1)
 | .lst l,u,v,r,q=>by
  unfold ReV at r;obtain⟨a,its,rfl,h1,h2⟩:=r
  cases u with
  | non=>unfold ReV at q;cases q
  | dct _ _=>unfold ReV at q;exact q.elim
  | bl _=>unfold ReV at q;cases q
  | int _=>unfold ReV at q;obtain⟨_,e⟩:=q;cases e
  | str _=>unfold ReV at q;obtain⟨_,e⟩:=q;cases e
  | lst m=>
   unfold ReV at q;obtain⟨a',its',e,h1',h2'⟩:=q;injection e with e;subst e
   have:=cu h1 h1';subst this;unfold T.nf
   rw[ReVs.nf h2 h2']
  | tup m=>unfold ReV at q;obtain⟨a',its',e,h1',h2'⟩:=q;injection e with e;subst e;exact absurd rfl (ne_of_list_tuple h1 h1')
  | scr m=>
   unfold ReV at q;obtain⟨a',its',e,h1',h2'⟩:=q;injection e with e;subst e
   have:=cu h1 h1';subst this;unfold T.nf
   rw[ReVs.nf h2 (dg h2'),rB]
 | .scr l,u,v,r,q=>by
  unfold ReV at r;obtain⟨a,its,rfl,h1,h2⟩:=r
  cases u with
  | non=>unfold ReV at q;cases q
  | dct _ _=>unfold ReV at q;exact q.elim
  | bl _=>unfold ReV at q;cases q
  | int _=>unfold ReV at q;obtain⟨_,e⟩:=q;cases e
  | str _=>unfold ReV at q;obtain⟨_,e⟩:=q;cases e
  | lst m=>
   unfold ReV at q;obtain⟨a',its',e,h1',h2'⟩:=q;injection e with e;subst e
   have:=cu h1 h1';subst this
   have z:=uS h2' h2;unfold T.nf
   rw[z]
  | tup m=>unfold ReV at q;obtain⟨a',its',e,h1',h2'⟩:=q;injection e with e;subst e;exact absurd rfl (ne_of_list_tuple h1 h1')
  | scr m=>
   unfold ReV at q;obtain⟨a',its',e,h1',h2'⟩:=q;injection e with e;subst e
   have:=cu h1 h1';subst this
   rw[gE h2 h2']
 | .dct _ _,u,v,r,q=>by unfold ReV at r;exact r.elim
theorem ReVs.nf {s:HB}:∀{l m:List T} {us:List HA},ReVs s l us->ReVs s m us->nfs l=nfs m
 | [],m,us,r,q=>by
  cases ReVs.AC.mp r
  cases m with
  | nil=>rfl
  | cons _ _=>obtain⟨_,_,e,_⟩:=ReVs.me.mp q;cases e
 | t::l,m,us,r,q=>by
  obtain⟨v,ws,rfl,p,z⟩:=ReVs.me.mp r
  cases m with
  | nil=>cases ReVs.AC.mp q
  | cons u m=>
   obtain⟨v',ws',e,p',z'⟩:=ReVs.me.mp q;injection e with e1 e2
   subst e1 e2;rw[nfs,nfs,ReV.nf p p',ReVs.nf z z']
end
section
variable {X:Cx}{a b c:Expr}{fa fb fc:En->Rs T}{pos:Pos}
def fU (x y:T):Bool:=(decide (x.dep<=60)||decide (y.dep<=60))&&(x.nd&&y.nd)
def qh (x y:T):Rs T:=if fU x y=true then .ok (.bl (aR x y))else .bad
def l9 (x y:T):Rs T:=if fU x y=true then .ok (.bl (!aR x y))else .bad
theorem dz {x y:T}(h:x.dep<=60)(hx:x.nd=true)(hy:y.nd=true):fU x y=true:=by unfold fU;rw[decide_eq_true h,hx,hy];rfl
theorem ib {x y:T}(h:fU x y=true):x.nd=true/\y.nd=true:=by
 unfold fU at h;exact JO.mp (JO.mp h).2
theorem n6 {x y:T}(h:fU x y=true):x.dep<=60\/y.dep<=60:=by
 unfold fU at h
 replace h:=(JO.mp h).1
 rcases Bool.or_eq_true_iff.mp h with h | h
 ·exact .inl (of_decide_eq_true h)
 ·exact .inr (of_decide_eq_true h)
theorem nN (hu:X.A.units+60<cLine):OpT X (IW .Eq) qh:=by
 intro pins s σ H O x y vx vy ux uy Q I hf rx ry r1 r2 hp;unfold qh at hp
 split at hp
 ·rename_i h
  have z:=BA 60 X.A s x y ux uy (n6 h) hu (Rep.val I (ib h).1 rx r1) (Rep.val I (ib h).2 ry r2);exact z.2.1 _ _ _ _ ⟨.bl _,H,I,rfl,hp H (Same.refl H) _ (Rep.bl_ _)⟩
 ·exact hp.elim
theorem iy (hu:X.A.units+60<cLine):OpT X (IW .NotEq) l9:=by
 intro pins s σ H O x y vx vy ux uy Q I hf rx ry r1 r2 hp;unfold l9 at hp
 split at hp
 ·rename_i h
  have z:=BA 60 X.A s x y ux uy (n6 h) hu (Rep.val I (ib h).1 rx r1) (Rep.val I (ib h).2 ry r2);exact z.2.2 _ _ _ _ ⟨.bl _,H,I,rfl,hp H (Same.refl H) _ (Rep.bl_ _)⟩
 ·exact hp.elim
def T.items:T->Option (List T)
 | .tup l=>some l
 | .lst l=>some l
 | .scr l=>some (l.map T.int)
 | _=>none
def fK (x:T)(l:List T):Bool:=l.any λy=>aR y x
def z4 (x y:T):Rs T:=match y.items with
 | some l=>if (x.dep<=60\/deps l<=60)/\x.nd=true/\y.nd=true then .ok (.bl (fK x l))else .bad
 | none=> .bad
def iU (x y:T):Rs T:=match y.items with
 | some l=>if (x.dep<=60\/deps l<=60)/\x.nd=true/\y.nd=true then .ok (.bl (!fK x l))else .bad
 | none=> .bad
theorem uA {A:Iu}{s:HB}{x:T}{ux:HA}(rx:ReV s x ux)(hu:A.units+60<cLine){l:List T}{us:List HA}(hd:x.dep<=60\/deps l<=60)(r:ReVs s l us) :
  ∃e:HA->Bool,(∀y∈us,EqAt A s y ux (e y))/\us.any e=fK x l:=by
 classical
 have ex:∀y∈us,∃t∈l,ReV s t y:=λy hy=>by
  obtain⟨i,hi,rfl⟩:=Jf hy
  have hl:=r.length
  have e1:l[i]? =some l[i]:=by simp
  obtain⟨u,q1,q2⟩:=r.get e1
  have:us[i]? =some us[i]:=by simp
  rw[this]at q1;cases q1;exact⟨l[i],Jy _,q2⟩
 let e:HA->Bool:=λy=>decide (∃t∈l,ReV s t y/\aR t x=true)
 have dep:∀t∈l,t.dep<=60\/x.dep<=60:=λt ht=>by
  rcases hd with h | h
  ·exact .inr h
  ·obtain⟨i,hi,rfl⟩:=Jf ht
   exact .inl (Ii (gH (i:=i) (by simp)) h)
 have uniq:∀y t t',ReV s t y->ReV s t' y->aR t x=aR t' x:=λy t t' z z'=>by
  rw[<-jN t,<-jN t',ReV.nf z z']
 have agree:∀y t,t∈l->ReV s t y->e y=aR t x:=λy t h z=>by
  show decide (∃t∈l,ReV s t y/\aR t x=true)=aR t x
  cases q:aR t x with
  | true=>exact decide_eq_true ⟨t,h,z,q⟩
  | false=>
   refine decide_eq_false ?_
   rintro ⟨t',h',z',q'⟩
   rw[<-uniq y t t' z z',q]at q';cases q'
 refine⟨e,λy hy=> ?_,?_⟩
 ·obtain⟨t,h,z⟩:=ex y hy
  rw[agree y t h z];exact(BA 60 A s t x y ux (dep t h) hu z rx).1
 ·have go:∀(l':List T) (us':List HA),(∀t∈l',t∈l)->ReVs s l' us'->us'.any e=l'.any λy=>aR y x:=by
   intro l'
   induction l' with
   | nil=>intro us' _ r';rw[ReVs.AC.mp r'];rfl
   | cons t l' ih=>
    intro us' sub r';obtain⟨u,ws,rfl,p,q⟩:=ReVs.me.mp r';rw[Kn,Kn,ih ws (λt ht=>sub t (HH _ ht)) q,agree u t (sub t HK) p]
  exact go l us (λ_ h=>h) r
theorem n4 {s:HB}{y:T}{u:HA}{l:List T}(r:ReV s y u)(h:y.items=some l):∃a us,u= .ref a/\ReVs s l us/\(s.heap.IsTuple a us.toArray\/s.heap.IsList a us.toArray):=by
 cases y with
 | tup m=>cases h;unfold ReV at r;obtain⟨a,us,e,h1,h2⟩:=r;exact⟨a,us,e,h2,.inl h1⟩
 | lst m=>cases h;unfold ReV at r;obtain⟨a,us,e,h1,h2⟩:=r;exact⟨a,us,e,h2,.inr h1⟩
 | scr m=>cases h;unfold ReV at r;obtain⟨a,us,e,h1,h2⟩:=r;exact⟨a,us,e,dg h2,.inr h1⟩
 | _=>cases h
theorem B6 (hu:X.A.units+61<cLine):OpT X (IW .In) z4:=by
 intro pins s σ H O x y vx vy ux uy Q I hf rx ry r1 r2 hp;unfold z4 at hp
 split at hp
 ·rename_i l hl
  split at hp
  ·rename_i hd3
   obtain⟨hd,hnx,hny⟩:=hd3;obtain⟨a,us,rfl,rs,hh⟩:=n4 (Rep.val I hny ry r2) hl;obtain⟨e,he,ha⟩:=uA (A:=X.A.in1) (Rep.val I hnx rx r1) (by show X.A.units+1+60<cLine;omega) hd rs
   have q:=hp H (Same.refl H) _ (Rep.bl_ (fK x l))
   have he':∀y,y∈us.toArray->EqAt X.A.in1 s y ux (e y):=λy hy=>he y (by simpa using hy)
   have ha':us.toArray.any e=fK x l:=by simpa using ha
   rcases hh with hh | hh
   ·exact in_tupleAt e hh he' (by rw[ha'];exact⟨.bl _,H,I,rfl,q⟩)
   ·exact in_listAt e hh he' (by rw[ha'];exact⟨.bl _,H,I,rfl,q⟩)
  ·exact hp.elim
 ·exact hp.elim
theorem qZ (hu:X.A.units+61<cLine):OpT X (IW .NotIn) iU:=by
 intro pins s σ H O x y vx vy ux uy Q I hf rx ry r1 r2 hp;unfold iU at hp
 split at hp
 ·rename_i l hl
  split at hp
  ·rename_i hd3
   obtain⟨hd,hnx,hny⟩:=hd3;obtain⟨a,us,rfl,rs,hh⟩:=n4 (Rep.val I hny ry r2) hl;obtain⟨e,he,ha⟩:=uA (A:=X.A.in1) (Rep.val I hnx rx r1) (by show X.A.units+1+60<cLine;omega) hd rs
   have q:=hp H (Same.refl H) _ (Rep.bl_ (!fK x l))
   have he':∀y,y∈us.toArray->EqAt X.A.in1 s y ux (e y):=λy hy=>he y (by simpa using hy)
   have ha':us.toArray.any e=fK x l:=by simpa using ha
   rcases hh with hh | hh
   ·exact notIn_tupleAt e hh he' (by rw[ha'];exact⟨.bl _,H,I,rfl,q⟩)
   ·exact notIn_listAt e hh he' (by rw[ha'];exact⟨.bl _,H,I,rfl,q⟩)
  ·exact hp.elim
 ·exact hp.elim
def ch (g g':T->T->Rs T)(fa fb fc:En->Rs T)(Z:En):Rs T:=do
 let x <-fa Z
 let y <-fb Z
 let z <-g x y
 match z with
 | .bl true=>do
  let w <-fc Z
  g' y w
 | .bl false=> .ok (.bl false)
 | _=> .bad
theorem AL {op op':CmpOp}{g g':T->T->Rs T}(ho:OpT X (IW op) g)(ho':OpT X (IW op') g')(ha:bX X a fa)(hb:bX X b fb)(hc:bX X c fc)
  (hm:lastMarks [op,op'] [b,c] =false:=by with_unfolding_all rfl):bX X (.Compare a [op,op'] [b,c] pos) (ch g g' fa fb fc):=by
 intro pins s σ H Q I ⟨Z,O,E,hq⟩
 have h1:=aU E hq;refine Compare_chain (bR (ha pins s σ H _ I h1) λv s1 ⟨x,H1,I1,r1,t,rt,s',E',q1⟩=>chain_link ?_) hm
 have h2:=aU (f:=fb) E' q1;refine bR (hb pins s1 σ H1 _ I1 h2) λu s2 hh_=> ?_
 obtain⟨y,H2,I2,r2,t2,rt2,s'',E'',q2⟩:=hh_
 refine bR (ho pins s2 σ H2 O t t2 x y v u (λv' H'=> ∃t',Rep X.K O H' t' v'/\Same H2 H'/\Post X H' (match t' with
  | .bl true=>fc Z >>= λw=>g' t2 w
  | .bl false=> .ok (.bl false)
  | _=> .bad) (λt H'=> ∀v,Rep X.K O H' t v->Q v H')) I2 (λp=>E''.fresh) (rt.same s'') rt2 r1 r2 (Post.mono q2.bind λt' H' s3 q v rv=>⟨t',rv,s3,q⟩)) λd s3 ⟨z,H3,I3,r3,t3,rt3,sm3,q3⟩=> ?_
 have E3:=E''.same sm3
 split at q3
 ·cases Rep.FB.mp rt3
  cases r3;refine Ja (ite_tt (chain_last ?_))
  have h4:=aU (f:=fc) E3 q3;refine bR (hc pins s3 σ H3 _ I3 h4) λw' s4 ⟨z',H4,I4,r4,t4,rt4,s4',E4,q4⟩=> ?_
  exact ho' pins s4 σ H4 O t2 t4 y z' u w' Q I4 (λp=>E4.fresh) ((rt2.same sm3).same s4') rt4 r2 r4 q4
 ·cases Rep.FB.mp rt3
  cases r3;refine Ja (ite_ff ⟨.bl false,H3,I3,rfl,q3 H3 (Same.refl H3) _ (Rep.bl_ false)⟩)
 ·exact q3.elim
def tb (f:En->Rs T)(Z:En):Rs Bool:=do
 let x <-f Z
 match x with
 | .bl k=> .ok k
 | _=> .bad
def bt (f:En->Rs Bool)(Z:En):Rs T:=do
 let k <-f Z
 .ok (.bl k)
theorem CL {e:Expr}{f:En->Rs T}(h:bX X e f)(he:∀whole,isTrue e X.env whole=(do let v <-whole;standAt e.pos;holding [v] (truthy v)):=by intro _;rfl):sr X e (tb f):=by
 intro pins s σ H Q I ⟨Z,O,E,hq⟩;refine Dc h he pins s σ H Q I ?_
 obtain⟨Z1,O1,E1,h1⟩:=aU E hq;refine⟨Z1,O1,E1,Post.mono h1 λts H1 s1 q vs r=> ?_⟩
 obtain⟨t',r',s',E',q'⟩:=q vs r
 split at q'
 ·exact⟨_,Rep.FB.mp r',q' H1 (Same.refl H1)⟩
 ·exact q'.elim
theorem CN {op:CmpOp}{g:T->T->Rs T}(ho:OpT X (IW op) g)(ha:bX X a fa)(hb:bX X b fb)(hm:MY op b=false:=by rfl):sr X (.Compare a [op] [b] pos) (tb (o2 g fa fb)):=by
 intro pins s σ H Q I ⟨Z,O,E,hq⟩
 have hq':Post X H (o2 g fa fb Z) λt H'=> ∀v,Rep X.K O H' t v->∃k,v= .bl k/\Q k H':=Post.mono hq.bind λt H' s' q v r=>by
  split at q
  ·exact⟨_,Rep.FB.mp r,q H' (Same.refl H')⟩
  ·exact q.elim
 have h1:=aU E hq';refine wpAny_isTrue_Compare1 (bR (ha pins s σ H _ I h1) λv s1 ⟨x,H1,I1,r1,t,rt,s',E',q1⟩=> ?_) hm
 have h2:=aU (f:=fb) E' q1;refine bR (hb pins s1 σ H1 _ I1 h2) λu s2 hh_=> ?_
 obtain⟨y,H2,I2,r2,t2,rt2,s'',E'',q2⟩:=hh_;refine bR (ho pins s2 σ H2 O t t2 x y v u _ I2 (λp=>E''.fresh) (rt.same s'') rt2 r1 r2 q2) λd s3 hh_=> ?_
 obtain⟨z,H3,I3,r3,k,e,q3⟩:=hh_;subst e;cases r3;exact Ja ⟨H3,I3,q3⟩
def kK (f g:En->Rs Bool)(Z:En):Rs Bool:=do
 let k <-f Z
 if k then g Z else .ok false
def mY (f g:En->Rs Bool)(Z:En):Rs Bool:=do
 let k <-f Z
 if k then .ok true else g Z
def cL (f:En->Rs Bool)(Z:En):Rs Bool:=do
 let k <-f Z
 .ok (!k)
variable {f g:En->Rs Bool}{cb:List Expr}
abbrev Ci (X:Cx)(e:Expr)(f:En->Rs Bool):Prop:=PW X e (wO X f)
theorem Ax (ha:sr X a f):Ci X (.BoolOp .And [a] pos) f:=AM ha
theorem CJ (ha:sr X a f):Ci X (.BoolOp .Or [a] pos) f:=C8 ha
theorem CK (ha:sr X a f)(hb:Ci X (.BoolOp .And (b::cb) pos) g):Ci X (.BoolOp .And (a::b::cb) pos) (kK f g):=by
 intro wh pins s σ H Q I ⟨Z,O,E,hq⟩;refine C9 ha hb wh pins s σ H Q I ?_
 obtain⟨Z1,O1,E1,h1⟩:=jm E hq;refine⟨Z1,O1,E1,Post.mono h1 λk H1 s1 q=> ?_⟩
 obtain⟨s',E',q'⟩:=q
 cases k with
 | true=>rw[if_pos rfl];exact⟨Z,O,E',by simpa using q'⟩
 | false=>rw[if_neg Ig];exact q' H1 (Same.refl H1)
theorem E8 (ha:sr X a f)(hb:Ci X (.BoolOp .Or (b::cb) pos) g):Ci X (.BoolOp .Or (a::b::cb) pos) (mY f g):=by
 intro wh pins s σ H Q I ⟨Z,O,E,hq⟩;refine Fs ha hb wh pins s σ H Q I ?_
 obtain⟨Z1,O1,E1,h1⟩:=jm E hq;refine⟨Z1,O1,E1,Post.mono h1 λk H1 s1 q=> ?_⟩
 obtain⟨s',E',q'⟩:=q
 cases k with
 | true=>rw[if_pos rfl];exact q' H1 (Same.refl H1)
 | false=>rw[if_neg Ig];exact⟨Z,O,E',by simpa using q'⟩
theorem qt_w {e:Expr}(h:Ci X e f):sr X e f:=h.pt
theorem CM (ha:sr X a f):sr X (.UnaryOp .Not a pos) (cL f):=by
 intro pins s σ H Q I ⟨Z,O,E,hq⟩;refine Dd ha pins s σ H Q I ?_
 obtain⟨Z1,O1,E1,h1⟩:=jm E hq;exact⟨Z1,O1,E1,Post.mono h1 λk H1 s1 ⟨s',E',q'⟩=>q' H1 (Same.refl H1)⟩
def cv (f g:En->Rs T)(Z:En):Rs T:=do
 let x <-f Z
 match x with
 | .bl true=>g Z
 | .bl false=> .ok (.bl false)
 | _=> .bad
def zZ (f g:En->Rs T)(Z:En):Rs T:=do
 let x <-f Z
 match x with
 | .bl true=> .ok (.bl true)
 | .bl false=>g Z
 | _=> .bad
def Be:T->Rs T
 | .bl k=> .ok (.bl (!k))
 | _=> .bad
theorem Fe {op}(h:bX X a fa):bX X (.BoolOp op [a] pos) fa:=Dl h
theorem Fq (ha:bX X a fa)(hb:bX X (.BoolOp .And (b::cb) pos) fb):bX X (.BoolOp .And (a::b::cb) pos) (cv fa fb):=by
 intro pins s σ H Q I ⟨Z,O,E,hq⟩;refine Dr ha hb pins s σ H Q I ?_
 obtain⟨Z1,O1,E1,h1⟩:=aU E hq;refine⟨Z1,O1,E1,Post.mono h1 λts H1 s1 q vs r=> ?_⟩
 obtain⟨t',r',s',E',q'⟩:=q vs r
 split at q'
 ·exact⟨true,Rep.FB.mp r',by rw[if_pos rfl];exact⟨Z,O,E',q'⟩⟩
 ·exact⟨false,Rep.FB.mp r',by rw[if_neg Ig];exact q' H1 (Same.refl H1) _ (Rep.bl_ false)⟩
 ·exact q'.elim
theorem q_or (ha:bX X a fa)(hb:bX X (.BoolOp .Or (b::cb) pos) fb):bX X (.BoolOp .Or (a::b::cb) pos) (zZ fa fb):=by
 intro pins s σ H Q I ⟨Z,O,E,hq⟩;refine Fx ha hb pins s σ H Q I ?_
 obtain⟨Z1,O1,E1,h1⟩:=aU E hq;refine⟨Z1,O1,E1,Post.mono h1 λts H1 s1 q vs r=> ?_⟩
 obtain⟨t',r',s',E',q'⟩:=q vs r
 split at q'
 ·exact⟨true,Rep.FB.mp r',by rw[if_pos rfl];exact q' H1 (Same.refl H1) _ (Rep.bl_ true)⟩
 ·exact⟨false,Rep.FB.mp r',by rw[if_neg Ig];exact⟨Z,O,E',q'⟩⟩
 ·exact q'.elim
theorem Ff (ha:bX X a fa):bX X (.UnaryOp .Not a pos) (o1 Be fa):=by
 intro pins s σ H Q I ⟨Z,O,E,hq⟩;refine Dm ha pins s σ H Q I ?_
 obtain⟨Z1,O1,E1,h1⟩:=aU E hq;refine⟨Z1,O1,E1,Post.mono h1 λts H1 s1 q vs r=> ?_⟩
 obtain⟨t',r',s',E',q'⟩:=q vs r;unfold Be at q'
 split at q'
 ·exact⟨_,Rep.FB.mp r',q' H1 (Same.refl H1) _ (Rep.bl_ _)⟩
 ·exact q'.elim
def ED (f:En->Rs Bool)(fa fb:En->Rs T)(Z:En):Rs T:=do
 let k <-f Z
 if k then fa Z else fb Z
theorem q_if (hc:sr X c f)(ha:bX X a fa)(hb:bX X b fb):bX X (.IfExp c a b pos) (ED f fa fb):=by
 intro pins s σ H Q I ⟨Z,O,E,hq⟩;refine xP hc ha hb pins s σ H Q I ?_
 obtain⟨Z1,O1,E1,h1⟩:=jm E hq;refine⟨Z1,O1,E1,Post.mono h1 λk H1 s1 q=> ?_⟩
 obtain⟨s',E',q'⟩:=q
 cases k with
 | true=>rw[if_pos rfl];exact⟨Z,O,E',by simpa using q'⟩
 | false=>rw[if_neg Ig];exact⟨Z,O,E',by simpa using q'⟩
end
end Tr
namespace HT
open PySem PyProof.Rows
section
variable {prog:H0}{w:IP}{A:Iu}{E:HA->HB->Prop}{s:HB}
theorem iq {t:Addr}{items:Array HA}{Q:Bool->HB->Prop}(ht:Qg s.heap t items)(h:Q true s):wpAny (model prog w) A (Mi (.ref t)) Q E s:=by
 unfold Mi;refine Hw (KB ht.typeIs (HF ?_))
 exact h
theorem getItem_tuple_whole {t sl:Addr}{items:Array HA}{vl vu:HA}{lo hi:Option Int}{Q:HA->HB->Prop}(ht:Qg s.heap t items)(hs:s.heap.IsSliceOf sl vl vu .none)(pl:Oz vl lo)(pu:Oz vu hi)
  (hw:sIx items.size 0 lo=0/\sIx items.size items.size hi=items.size) (h:Q (.ref t) s):wpAny (model prog w) A (getItem (.ref t) (.ref sl)) Q E s:=by
 obtain⟨os,hos,hcs,hds⟩:=id hs
 have hTs:s.TypeIs (.ref sl) "slice":=⟨os,hos,hcs⟩;unfold getItem
 try with_reducible refine Jp ?_
 first | refine Hw (HF ?_) | skip
 refine Hw (O0 ht.typeIs (by decide) ?_)
 refine Hw (Jj (name:=HW "__getitem__") ht.typeIs IJ
  (Jh IJ ht.typeIs N6 ?_ (OA _ _)))
 show wpAny _ _ (Mh (.ref t) >>= _) _ _ s
 refine Hw (OB ht ?_)
 refine Hw (KB hTs ?_)
 rw[if_pos (by decide)]
 refine Hw (fB hs pl pu ?_)
 have hyes:(((sIx items.size 0 lo:Nat):Int) == 0&&(1:Int) == 1&&(sIx items.size items.size hi - sIx items.size 0 lo) == items.size)=true:=by
  rw[hw.1,hw.2];simp
 show wpAny _ _ (if (((sIx items.size 0 lo:Nat):Int) == 0&&(1:Int) == 1&&(sIx items.size items.size hi - sIx items.size 0 lo) == items.size)=true then _ else _) _ _ s
 rw[if_pos hyes]
 first
  | refine Hw (iq ht ?_)
  | refine iq ht ?_
 try rw[if_pos rfl]
 first
  | exact Hw (KH (HF ⟨_,rfl,HF h⟩))
  | exact Hw (KH (Hw (HF (HF ⟨_,rfl,HF h⟩))))
end
end HT
namespace Tr
open PySem PySem.Spec PyProof.Rows L2
section
variable {X:Cx}{a b c:Expr}{fa fb fc:En->Rs T}{pos:Pos}
theorem Reps.atI {K:Hy}{O:Ow}{H:Hp}{l:List T}{vs:List V}{i:Int}{t:T}(r:Reps K O H l vs)(e:L2.atI l i=some t):∃v,L2.atI vs i=some v/\Rep K O H t v:=by
 unfold L2.atI at e ⊢;rw[r.length]at e
 cases q:ixN vs.length i with
 | none=>rw[q]at e;cases e
 | some j=>
  rw[q]at e;obtain⟨v,e1,e2⟩:=r.get (i:=j) (t:=t) e;exact⟨v,e1,e2⟩
def aS (x y:T):Rs T:=match x.items,y with
 | some l,.int i=>match L2.atI l i with
  | some t=> .ok t
  | none=> .bad
 | _,_=> .bad
theorem q_ix (ha:bX X a fa)(hb:bX X b fb)(hs:vh b:=by intro _ _;rfl):bX X (.Subscript a b pos) (o2 aS fa fb):=by
 intro pins s σ H Q I ⟨Z,O,E,hq⟩
 have h1:=aU E hq;refine Subscript_ (bR (ha pins s σ H _ I h1) λv s1 hh_=> ?_)
 obtain⟨x,H1,I1,r1,t,rt,s',E',q1⟩:=hh_
 have h2:=aU (f:=fb) E' q1;refine bR (hb pins s1 σ H1 _ I1 h2) λu s2 hh_=> ?_
 obtain⟨y,H2,I2,r2,t2,rt2,s'',E'',q2⟩:=hh_
 have rt':=rt.same s'';unfold aS at q2
 split at q2
 ·rename_i l i hl
  split at q2
  ·rename_i z hz
   have hy:=Rep.Da.mp rt2;refine DU a b pins s2 σ H2 x y v u Q I2 r1 r2 ?_ (hs _ _)
   cases t with
   | tup m=>
    cases hl;obtain⟨p,vs,e,n,q,rr⟩:=Rep.Fk.mp rt';obtain⟨w,ew,rw'⟩:=rr.atI hz
    exact .inr (.inl ⟨p,vs,i,w,e,hy,SqT.of q,ew,q2 H2 (Same.refl H2) _ rw'⟩)
   | lst m=>
    cases hl;obtain⟨p,vs,e,n,q,rr⟩:=Rep.Do.mp rt';obtain⟨w,ew,rw'⟩:=rr.atI hz
    exact .inl ⟨p,vs,i,w,e,hy,SqL.of q,ew,q2 H2 (Same.refl H2) _ rw'⟩
   | scr m=>
    cases hl;unfold Rep at rt';obtain⟨p,e,n,q⟩:=rt';obtain⟨w,ew,rw'⟩:=(Reps.ints (K:=X.K) (O:=O) (H:=H2) (ns:=m)).atI hz
    exact .inl ⟨p,_,i,w,e,hy,q,ew,q2 H2 (Same.refl H2) _ rw'⟩
   | _=>cases hl
  ·exact q2.elim
 ·exact q2.elim
def jL (l:List T)(lo hi:Option Int):List T:=(l.drop (HT.sIx l.length 0 lo)).take (HT.sIx l.length l.length hi - HT.sIx l.length 0 lo)
theorem Reps.cut {K:Hy}{O:Ow}{H:Hp}{l:List T}{vs:List V}(r:Reps K O H l vs)(lo hi:Option Int):Reps K O H (jL l lo hi) (r9 vs lo hi):=by
 unfold jL r9;rw[r.length];exact(r.drop _).take _
theorem v9 {l:List T}{lo hi:Option Int}(h:HT.sIx l.length 0 lo=0/\HT.sIx l.length l.length hi=l.length):jL l lo hi=l:=by
 unfold jL;rw[h.1,h.2];simp
theorem sl_tup_whole:SlR X (λx lo hi H Q=> ∃a xs,x= .ref a/\SqT X.K H a xs/\(HT.sIx xs.length 0 lo=0/\HT.sIx xs.length xs.length hi=xs.length)/\Q (.ref a) H):=by
 intro pins s σ H x v vl vu lo hi sl Q I rx hs pl pu h;obtain⟨a,xs,rfl,hx,hw,q⟩:=h;cases rx;obtain⟨its,r,ht,hz⟩:=I.tuple hx
 have hlen:its.toArray.size=xs.length:=by rw[HU];exact r.length.symm
 refine⟨"tuple",_,IJ.lookup,ht.typeIs,?_⟩
 exact HT.getItem_tuple_whole ht hs pl pu (by rw[hlen];exact hw) ⟨.ref a,H,I,rfl,q⟩
def pN (_:En):Rs (Option Int):=.ok none
def pS (f:En->Rs T)(Z:En):Rs (Option Int):=do
 let x <-f Z
 match x with
 | .int i=> .ok (some i)
 | _=> .bad
def tPO (X:Cx)(f:En->Rs (Option Int)):TO:=λσ H Q=> ∃Z O,EnvO X.K O H Z σ/\Post X H (f Z) λb H'=>Q b H'
abbrev Gm (X:Cx)(e:Option Expr)(f:En->Rs (Option Int)):Prop:=PO X e (tPO X f)
theorem AE:Gm X none pN:=by
 intro pins s σ H Q I ⟨Z,O,E,hq⟩;exact AU pins s σ H Q I (hq H (Same.refl H))
theorem AD (ha:bX X a fa):Gm X (some a) (pS fa):=by
 intro pins s σ H Q I ⟨Z,O,E,hq⟩;refine AS ha pins s σ H Q I ?_
 obtain⟨Z1,O1,E1,h1⟩:=aU E hq;refine⟨Z1,O1,E1,Post.mono h1 λts H1 s1 q vs r=> ?_⟩
 obtain⟨t',r',s',E',q'⟩:=q vs r
 split at q'
 ·exact⟨_,Rep.Da.mp r',q' H1 (Same.refl H1)⟩
 ·exact q'.elim
def slT (x:T)(lo hi:Option Int):Rs T:=match x with
 | .tup l=> .ok (.tup (jL l lo hi))
 | .lst l=> .ok (.lst (jL l lo hi))
 | _=> .bad
def sl (fe:En->Rs T)(fl fu:En->Rs (Option Int))(Z:En):Rs T:=do
 let x <-fe Z
 let l <-fl Z
 let u <-fu Z
 slT x l u
theorem qE {σ:L2.St}{H:Hp}{Z:En}{O:Ow}{α:Type}{f:En->Rs (Option Int)}{k:Option Int->Rs α}{Q:α->Hp->Prop}(E:EnvO X.K O H Z σ)(h:Post X H (f Z >>= k) Q) :
  tPO X f σ H λb H'=>Same H H'/\EnvO X.K O H' Z σ/\Post X H' (k b) Q:=
 ⟨Z,O,E,Post.mono h.bind λt H' s q=>⟨s,E.same s,q⟩⟩
theorem AK {lo hi:Option Expr}{p2:Pos}{fl fu:En->Rs (Option Int)}(ha:bX X a fa)(hl:Gm X lo fl)(hu:Gm X hi fu):bX X (.Subscript a (.Slice lo hi none p2) pos) (sl fa fl fu):=by
 intro pins s σ H Q I ⟨Z,O,E,hq⟩;refine xN (sl_tup.or (sl_tup_whole.or Am)) ha hl hu pins s σ H Q I ?_
 obtain⟨Z1,O1,E1,h1⟩:=aU E hq;refine⟨Z1,O1,E1,Post.mono h1 λts H1 s1 q vs r=> ?_⟩
 obtain⟨t',r',s',E',q'⟩:=q vs r;obtain⟨Z2,O2,E2,h2⟩:=qE E' q';refine⟨Z2,O2,E2,Post.mono h2 λo1 H2 s2 q=> ?_⟩
 obtain⟨s2',E2',q2⟩:=q;obtain⟨Z3,O3,E3,h3⟩:=qE E2' q2;refine⟨Z3,O3,E3,Post.mono h3 λo2 H3 s3 q=> ?_⟩
 obtain⟨s3',E3',q3⟩:=q
 have rt:=(r'.same s2').same s3';unfold slT at q3
 split at q3
 ·rename_i l
  obtain⟨p,ws,e,n,q,rr⟩:=Rep.Fk.mp rt
  have hlen:=rr.length
  by_cases hw:HT.sIx ws.length 0 o1=0/\HT.sIx ws.length ws.length o2=ws.length
  ·refine .inr (.inl ⟨p,ws,e,SqT.of q,hw,?_⟩)
   rw[<-hlen]at hw;refine q3 H3 (Same.refl H3) _ ?_
   rw[v9 hw];exact Rep.Fk.mpr ⟨p,ws,rfl,n,q,rr⟩
  ·exact .inl ⟨p,ws,e,SqT.of q,hw,λp' hp=>q3 _ (aO hp _) _ (fD hp (E3'.fresh hp) (rr.cut o1 o2))⟩
 ·rename_i l
  obtain⟨p,ws,e,n,q,rr⟩:=Rep.Do.mp rt;exact .inr (.inr ⟨p,ws,e,SqL.of q,λp' hp=>q3 _ (aO hp _) _ (dS hp (E3'.fresh hp) (rr.cut o1 o2))⟩)
 ·exact q3.elim
def CallT (X:Cx)(f:HA)(g:List T->Rs T):Prop:=
 ∀(pins:List (Addr×Obj)) (s:HB) (σ:L2.St) (H:Hp) (O:Ow) (ts:List T) (vs:List V) (us:List HA) (Q:VK),Inv X pins σ H s->(∀p,H p=none->¬ O p)->Reps X.K O H ts vs->Vals vs us →
  Post X H (g ts) (λt H'=> ∀v,Rep X.K O H' t v->Q v H')->wpAny (model X.prog X.w) X.A (call f us) (EP X pins σ Q) X.xe s
theorem CallT.of {f:HA}{r:List V->Hp->VK->Prop}(h:CallR X f r){g:List T->Rs T}
  (w:∀(H:Hp) (O:Ow) (ts:List T) (vs:List V) (Q:VK),(∀p,H p=none->¬ O p)->Reps X.K O H ts vs->Post X H (g ts) (λt H'=> ∀v,Rep X.K O H' t v->Q v H')->r vs H Q):CallT X f g:=
 λpins s σ H O ts vs us Q I hf rs rv hp=>h pins s σ H vs us Q I rv (w H O ts vs Q hf rs hp)
def cl (g:List T->Rs T)(fs:En->Rs (List T))(Z:En):Rs T:=fs Z >>= g
variable {e:Expr}{es:List Expr}{fs:En->Rs (List T)}{x:Str}{p:Pos}{id:String}{g:List T->Rs T}
theorem uh (hc:CallT X (.builtin id) g)(hm:X.mg x=none)(hv:Iq x=some (.builtin id))(ha:oB X (e::es) fs)(hg:Gl X x:=by rfl)(hn:x≠ "__name__":=by decide)(hdb:iA x:=by decide)
  (he:HY (e::es) X.env=(false,eval e X.env)::HY es X.env:=by rfl) (hpl:(backTo pos (HY es X.env)).any (·.1)=false:=by rfl):bX X (.Call (.Name x p) (e::es) [] pos) (cl g fs):=by
 intro pins s σ H Q I ⟨Z,O,E,hq⟩;refine IR (d9 I hg hm hv ?_ hn hdb)
 have h1:=dt E hq;exact Km (bR (ha pos pins s σ H _ I h1) λus s1 ⟨vs,H1,I1,r1,ts,rs,s',E',q1⟩=>hc pins s1 σ H1 O ts vs us Q I1 (λp=>E'.fresh) rs r1 q1) he hpl
theorem xE {Ty:String}(hc:CallT X (.type Ty) g)(hm:X.mg x=none)(hv:Iq x=some (.type Ty))(ha:oB X (e::es) fs)(hg:Gl X x:=by rfl)(hn:x≠ "__name__":=by decide)(hdb:iA x:=by decide)
  (he:HY (e::es) X.env=(false,eval e X.env)::HY es X.env:=by rfl) (hpl:(backTo pos (HY es X.env)).any (·.1)=false:=by rfl):bX X (.Call (.Name x p) (e::es) [] pos) (cl g fs):=by
 intro pins s σ H Q I ⟨Z,O,E,hq⟩;refine IR (d9 I hg hm hv ?_ hn hdb)
 have h1:=dt E hq;exact IK (bR (ha pos pins s σ H _ I h1) λus s1 ⟨vs,H1,I1,r1,ts,rs,s',E',q1⟩=>hc pins s1 σ H1 O ts vs us Q I1 (λp=>E'.fresh) rs r1 q1) he hpl
theorem Reps.one {K:Hy}{O:Ow}{H:Hp}{t:T}{vs:List V}(r:Reps K O H [t] vs):∃v,vs= [v]/\Rep K O H t v:=by
 obtain⟨v,ws,rfl,p,q⟩:=Reps.me.mp r;cases Reps.AC.mp q;exact⟨v,rfl,p⟩
theorem Rep.sq {K:Hy}{O:Ow}{H:Hp}{t:T}{v:V}{l:List T}(r:Rep K O H t v)(h:t.items=some l):∃a vs,v= .ref a/\¬ O a/\Reps K O H l vs/\(SqL K H a vs\/SqT K H a vs):=by
 cases t with
 | tup m=>cases h;obtain⟨a,vs,e,n,q,z⟩:=Rep.Fk.mp r;exact⟨a,vs,e,n,z,.inr (SqT.of q)⟩
 | lst m=>cases h;obtain⟨a,vs,e,n,q,z⟩:=Rep.Do.mp r;exact⟨a,vs,e,n,z,.inl (SqL.of q)⟩
 | scr m=>cases h;unfold Rep at r;obtain⟨a,e,n,q⟩:=r;exact⟨a,_,e,n,Reps.ints,.inl q⟩
 | _=>cases h
def bS:List T->Rs T
 | [.str x] =>if x.length<=sizeLine then .ok (.int x.length)else .bad
 | [x] =>match x.items with
  | some l=> .ok (.int l.length)
  | none=> .bad
 | _=> .bad
theorem cj:CallT X (.builtin "len") bS:=CallT.of (call_len_seq.or qm) λH O ts vs Q hf rs hp=>by
 unfold bS at hp
 split at hp
 ·obtain⟨v,rfl,r⟩:=rs.one
  split at hp
  ·rename_i h
   exact .inr ⟨_,by rw[Rep.Gc.mp r],h,hp H (Same.refl H) _ (Rep.GL _)⟩
  ·exact hp.elim
 ·obtain⟨v,rfl,r⟩:=rs.one
  split at hp
  ·rename_i l hl
   obtain⟨a,vs,rfl,n,z,q⟩:=r.sq hl;exact .inl ⟨a,vs,rfl,q,hp H (Same.refl H) _ (by rw[<-z.length];exact Rep.GL _)⟩
  ·exact hp.elim
 ·exact hp.elim
def d7:List T->Rs T
 | [.tup l] => .ok (.tup l)
 | [.lst l] => .ok (.tup l)
 | _=> .bad
theorem fJ:CallT X (.type "tuple") d7:=CallT.of nt λH O ts vs Q hf rs hp=>by
 unfold d7 at hp
 split at hp
 ·obtain⟨v,rfl,r⟩:=rs.one
  obtain⟨a,ws,rfl,n,q,z⟩:=Rep.Fk.mp r;exact⟨a,ws,rfl,.inr ⟨SqT.of q,hp H (Same.refl H) _ (Rep.Fk.mpr ⟨a,ws,rfl,n,q,z⟩)⟩⟩
 ·obtain⟨v,rfl,r⟩:=rs.one
  obtain⟨a,ws,rfl,n,q,z⟩:=Rep.Do.mp r;exact⟨a,ws,rfl,.inl ⟨SqL.of q,λl hl=>hp _ (aO hl _) _ (fD hl (hf l hl) z)⟩⟩
 ·exact hp.elim
def yU:List T->Rs T
 | [.int i] => .ok (.int i)
 | [.bl k] => .ok (.int (if k then 1 else 0))
 | _=> .bad
theorem Ep:CallT X (.type "int") yU:=CallT.of wc λH O ts vs Q hf rs hp=>by
 unfold yU at hp
 split at hp
 ·obtain⟨v,rfl,r⟩:=rs.one
  exact .inl ⟨_,by rw[Rep.Da.mp r],hp H (Same.refl H) _ (Rep.GL _)⟩
 ·obtain⟨v,rfl,r⟩:=rs.one
  exact .inr ⟨_,by rw[Rep.FB.mp r],hp H (Same.refl H) _ (Rep.GL _)⟩
 ·exact hp.elim
def mP:List T->Option (List Bool)
 | [] =>some []
 | .bl k::r=>(mP r).map (k:: ·)
 | _=>none
def nu:List T->Rs T
 | [.lst l] =>match mP l with
  | some ks=> .ok (.bl (ks.all λk=>k))
  | none=> .bad
 | _=> .bad
theorem mO {K:Hy}{O:Ow}{H:Hp}:∀{l:List T} {ks:List Bool} {vs:List V} {us:List HA},mP l=some ks->Reps K O H l vs->Vals vs us->us=ks.map Ji
 | [],ks,vs,us,e,r,v=>by cases e;cases Reps.AC.mp r;cases v;rfl
 | t::l,ks,vs,us,e,r,v=>by
  obtain⟨w,ws,rfl,p,q⟩:=Reps.me.mp r
  cases t with
  | bl k=>
   unfold mP at e
   cases z:mP l with
   | none=>rw[z]at e;cases e
   | some ks'=>
    rw[z]at e;cases e
    cases v with
    | cons v1 v2=>
     cases Rep.FB.mp p;cases v1
     rw[mO z q v2];rfl
  | _=>cases e
theorem qk (hc:X.calm=true):CallT X (.builtin "all") nu:=by
 intro pins s σ H O ts vs us Q I hf rs rv hp;unfold nu at hp
 split at hp
 ·obtain⟨v,rfl,r⟩:=rs.one
  split at hp
  ·rename_i ks hk
   obtain⟨a,ws,rfl,n,q,z⟩:=Rep.Do.mp r;obtain⟨u,rfl,ru⟩:=la rv;cases ru;obtain⟨its,r',pl,hz⟩:=I.list (SqL.of q)
   have hits:=mO hk z r';refine call_all_walk (Ls pl.isList ?_)
   have hne:a≠s.heap.objs.size:=λe=>by
    obtain⟨o,ho,_⟩:=pl.isList;rw[e]at ho;exact absurd (HM ho) (Iw _)
   refine⟨s.heap.objs.size,_,_,_,_,_,λi=>(ks[i]?).getD true,rfl,Walks.list (A:=X.A.in1) (I.ok.hd hc) s.heap.objs.size a hne its.toArray,⟨⟨_,HR _ rfl,rfl,rfl⟩,?_⟩,?_,?_⟩
   ·obtain⟨o,ho,hh⟩:=pl.isList
    exact⟨o,HC _ ho,hh⟩
   ·intro i v s' Q' E' hP hQ'
    subst hits
    dsimp only at hQ'
    have hP':(ks.map Ji)[i]? =some v:=by simpa using hP
    rw[Ij]at hP'
    cases e:ks[i]? with
    | none=>rw[e]at hP';cases hP'
    | some k=>
     rw[e]at hP' hQ';cases hP';exact Ja hQ'
   ·intro h' tk hk'
    have hlen:its.toArray.size=ks.length:=by rw[hits];simp
    have e:((HD its.toArray.size).all λi=>(ks[i]?).getD true)=(ks.all λk=>k):=by
     rw[hlen];rw[Kg,HX,HX]
     constructor
     ·intro h x hx
      obtain⟨i,hi,rfl⟩:=Jf hx
      have:=h i (Ik.mpr hi)
      simpa [hi]using this
     ·intro h i hi
      have hi':=Ik.mp hi
      have:=h ks[i] (Jy hi')
      simpa [hi']using this
    rw[e]
    have I1:Inv X pins σ H { s with heap:=s.heap.push { cls:=.type "list_iterator",data:=.fields #[.ref a,.int 0 0] } }:=I.kept (t':=s.toks) λb o e=>HC _ e
    have I2:Inv X pins σ H { s with heap:=h',toks:=tk }:=by
     have:=I1.turned (h':=h') (t':=tk) (it:=s.heap.objs.size) (λb o hb e=>hk' b o (by simpa using hb) e) (I.hok.fresh (HL _))
      (Jm I.lt) (.inr I.sz) (λx c e z=> ?_) (λp hp z=> ?_)
     ·exact this
     ·obtain⟨v,q⟩:=I.cell x c e
      exact absurd (HJ q.lt (K3 z.symm)) (Iw _)
     ·exact absurd (HJ (HM (I.pin p hp).1) (K3 z.symm)) (Iw _)
    exact⟨.bl _,H,I2,rfl,hp H (Same.refl H) _ (Rep.bl_ _)⟩
  ·exact hp.elim
 ·exact hp.elim
end
def T.ty:T->Option String
 | .non=>some "NoneType"
 | .bl _=>some "bool"
 | .int _=>some "int"
 | .str _=>some "str"
 | .tup _=>some "tuple"
 | .lst _=>some "list"
 | .scr _=>none
 | .dct _ _=>none
def rQ (i b t l s:Bool)(Ty:String):Option Bool:=match Ty with
 | "int" =>some i | "bool" =>some b | "tuple" =>some t | "list" =>some l | "str" =>some s
 | _=>none
def uR (n Ty:String):Option Bool:=match n with
 | "NoneType" =>rQ false false false false false Ty
 | "bool" =>rQ true true false false false Ty
 | "int" =>rQ true false false false false Ty
 | "str" =>rQ false false false false true Ty
 | "tuple" =>rQ false false true false false Ty
 | "list" =>rQ false false false true false Ty
 | _=>none
theorem vU (K:Hy){n Ty:String}{b:Bool}(h:uR n Ty=some b):PySem.W.kitOne K (.type n) (.type Ty)=some b:=by
 unfold uR at h
 split at h <;> first | (cases h;done) | (unfold rQ at h;split at h <;> first | (cases h;done) | (cases h;kernel_rfl))
def Bt (Ty:String)(t:T):Rs T:=match t.ty with
 | some n=>match uR n Ty with
  | some b=> .ok (.bl b)
  | none=> .bad
 | none=> .bad
theorem Rep.Hq {K:Hy}{O:Ow}{H:Hp}{t:T}{v:V}{n:String}(r:Rep K O H t v)(h:t.ty=some n):ka K H v (.type n):=by
 cases t with
 | non=>cases h;cases Rep.GQ.mp r;exact .non
 | bl b=>cases h;cases Rep.FB.mp r;exact .bl b
 | int b=>cases h;cases Rep.Da.mp r;exact .int b
 | str b=>cases h;cases Rep.Gc.mp r;exact .str b
 | tup l=>cases h;obtain⟨a,vs,rfl,_,q,_⟩:=Rep.Fk.mp r;exact .tup q
 | lst l=>cases h;obtain⟨a,vs,rfl,_,q,_⟩:=Rep.Do.mp r;exact .lst q
 | scr l=>cases h
 | dct _ _=>cases h
section
variable {X:Cx}{a b c e:Expr}{es:List Expr}{fa fb fc:En->Rs T}{fs:En->Rs (List T)}{pos p p2:Pos}{x:Str}
theorem kJ:Iq "isinstance" =some (.builtin "isinstance"):=by decide+kernel
theorem Fi {tn:Str}{Ty:String}(hm:X.mg "isinstance" =none)(hmt:X.mg tn=none)(hv:Iq tn=some (.type Ty))(ha:bX X a fa)(hg:Gl X "isinstance":=by rfl)(hgt:Gl X tn:=by rfl)
  (hn:tn≠ "__name__":=by decide) (hd:iA tn:=by decide)
  (he:HY [a,.Name tn p2] X.env=(false,eval a X.env)::HY [.Name tn p2] X.env:=by rfl) (hpl:(backTo pos (HY [.Name tn p2] X.env)).any (·.1)=false:=by rfl)
  (hs:HY [.Name tn p2] X.env=(false,eval (.Name tn p2) X.env)::HY [] X.env:=by rfl) :
  bX X (.Call (.Name "isinstance" p) [a,.Name tn p2] [] pos) (o1 (Bt Ty) fa):=by
 intro pins s σ H Q I ⟨Z,O,E,hq⟩;refine IR (d9 I hg hm kJ ?_ (by decide) (by decide))
 have hA:PA X [a,.Name tn p2] (wQ (tP X fa) (wQ (tC (.ty Ty)) EM)):=gW ha (gW (A5 (v:=.ty Ty) hgt hmt hv rfl hn hd) lL hs) he;obtain⟨Z1,O1,E1,h1⟩:=aU E hq;refine Km (bR (hA pos pins s σ H (λvs H'=> ∃v t,vs= [v,.ty Ty]/\Rep X.K O H' t v/\Post X H' (Bt Ty t) (λt H'=> ∀v,Rep X.K O H' t v->Q v H')) I ?_) λus s1 ⟨vs,H1,I1,r1,v,t,e1,rt,q⟩=> ?_) he hpl
 ·refine⟨Z1,O1,E1,Post.mono h1 λts H1 s1 q vs r=> ?_⟩
  obtain⟨t',r',s',E',q'⟩:=q vs r;exact⟨vs,t',rfl,r',q'⟩
 ·subst e1
  obtain⟨u,w',rfl,ru,rw'⟩:=EH r1;cases rw';unfold Bt at q
  split at q
  ·rename_i n hn'
   split at q
   ·rename_i bb hb
    exact vS I1 ru (rt.Hq hn') (vU _ hb) λtk=>⟨.bl bb,H1,I1.tok _,rfl,q H1 (Same.refl H1) _ (Rep.bl_ _)⟩
   ·exact q.elim
  ·exact q.elim
def spP (K:Hy)(n:Nat)(g:List T->Rs T):Sp:=λvs H Q _=> ∃ts O,Reps K O H ts vs/\(∀a,O a->Mtb H a)/\ts.length=n ∧
 match g ts with
 | .ok t=> ∀v H',Same H H'->Rep K O H' t v->Q v H'
 | _=>False
def RzC (P:H0)(w:IP)(mg:Str->Option HA)(outer:List Env)(H:Hp)(s:HB)(c:Str)(ev:HA)(s':HB):Prop:=
 ∃e T C H',ev= .ref e/\mg c=some (.ref C)/\s'.os=s.os/\Kk s'.gens/\Un (i7 outer) [] H H' s.heap s'.heap/\HOk P w H' s'.heap/\Same H H'/\H' e=none/\s.heap.get? e=none/\GI s'.heap C e (some T)/\H' T=none/\s.heap.get? T=none
def FnX (P:H0)(w:IP)(K:Hy)(mg:Str->Option HA)(base:Heap)(k:Nat)(f:Addr)(fd:JN)(ps:List Str)(n:Nat)(g:List T->Rs T):Prop:=
 ∀(A:Iu) (outer:List Env) (s:HB) (H:Hp) (args:Args) (us:List HA) (vs:List V) (O:Ow) (ts:List T) (c:Str) (R:Result->HB->Prop),Room k A->Env0 P w K mg base A outer s H->OY s fd args (ps.zip us)->Vals vs us →
  Reps K O H ts vs->(∀a,O a->Mtb H a)->ts.length=n->g ts= .err c->(∀ev s',RzC P w mg outer H s c ev s'->R (.error ev) s')->codeAny (model P w) A (.call (.ref f) args) R s
structure Ez (P:H0)(w:IP)(K:Hy)(mg:Str->Option HA)(base:Heap)(k:Nat)(f:Addr)(fd:JN)(ps:List Str)(n:Nat)(g:List T->Rs T):Prop where
 h:qw P w K mg base CX0 k f fd ps (spP K n g)
 x:FnX P w K mg base k f fd ps n g
theorem xX {P:H0}{w:IP}{H:Hp}{h:Heap}{a:Addr}{o:HO}(x:ObjOk P w H h a o):∃u,h.get? a=some u:=by
 cases o with
 | lst xs=>obtain⟨_,_,_,_,e⟩:=x;exact⟨_,e⟩
 | tup xs=>obtain⟨_,_,_,ob,e,_⟩:=x;exact⟨_,e⟩
 | dK kvs=>obtain⟨_,_,_,_,o,_,_,e,_⟩:=x;exact⟨_,e⟩
 | dT kvs=>obtain⟨_,_,_,_,o,_,_,e,_⟩:=x;exact⟨_,e⟩
 | set S n=>obtain⟨o,_,_,_,e,_⟩:=x;exact⟨_,e⟩
 | ins C dx fs=>obtain⟨_,_,_,e,_⟩:=x;exact⟨_,e⟩
 | own y=>obtain⟨_,e⟩:=x;exact⟨_,e⟩
 | xd fs=>obtain⟨_,⟨_,_,_,e,_⟩,_⟩:=x;exact⟨_,e⟩
 | rng lo hi=>obtain⟨_,_,_,e⟩:=x;exact⟨_,e⟩
 | frz ob u=>obtain⟨e,_⟩:=x;exact⟨_,e⟩
 | tbl q=>obtain⟨_,e,_⟩:=x;exact⟨_,e⟩
 | met f y=>exact⟨_,(show h.get? a=some _ from x)⟩
 | ext φ=>obtain⟨_,⟨_,e⟩,_⟩:=x;exact⟨_,e⟩
theorem rn {X:Cx}{pins:List (Addr×Obj)}{σ:L2.St}{H:Hp}{s:HB}(I:Inv X pins σ H s){e:Addr}(n:s.heap.get? e=none):H e=none:=by
 cases z:H e with
 | none=>rfl
 | some o=>
  obtain⟨o',ho'⟩:=xX (I.hok e o z);rw[n]at ho';cases ho'
theorem pP {X:Cx}{pins:List (Addr×Obj)}{σ:L2.St}{H:Hp}{s:HB}(I:Inv X pins σ H s)(hex:X.ex= []){e:Addr}(n:s.heap.get? e=none):X.s₀.heap.get? e=none:=by
 cases z:X.s₀.heap.get? e with
 | none=>rfl
 | some o=>
  obtain⟨o',ho'⟩:=I.base.there e o z (by rw[hex];simp)
  rw[n]at ho';cases ho'
theorem C7 {n k:Nat}{f:Addr}{fd:JN}{ps:List Str}{g:List T->Rs T}(F:Ez X.prog X.w X.K X.mg X.base k f fd ps n g)(hr:Room k X.A)(hm:X.mg x=some (.ref f))(hk:Lv X.K (.ref f)=true)(hb:Binds X.K fd ps [])(hps:ps.length=n)
  (hl:∀Z ts,fs Z= .ok ts->ts.length=n) (ha:oB X (e::es) fs) (hg:Gl X x:=by rfl) (hdb:iA x:=by decide) (he:HY (e::es) X.env=(false,eval e X.env)::HY es X.env:=by rfl) (hpl:(backTo pos (HY es X.env)).any (·.1)=false:=by rfl) :
  bX X (.Call (.Name x p) (e::es) [] pos) (cl g fs):=by
 intro pins s σ H Q I ⟨Z,O,E,hq⟩
 have hq':Post X H (fs Z >>= g) λt H'=> ∀v,Rep X.K O H' t v->Q v H':=hq
 cases q:fs Z with
 | bad=>rw[q]at hq';exact hq'.elim
 | err c=>
  rw[q]at hq';refine uo (E:=E0) F.h hr hg hm hk hb .nil B5 ha hdb he hpl pins s σ H Q I ⟨Z,O,E,?_⟩
  rw[q]
  exact hq'
 | ok ts=>
  rw[q]at hq'
  have hq2:Post X H (g ts) λt H'=> ∀v,Rep X.K O H' t v->Q v H':=hq'
  cases q2:g ts with
  | bad=>rw[q2]at hq2;exact hq2.elim
  | ok t=>
   rw[q2]at hq2;refine uo (E:=E0) F.h hr hg hm hk hb .nil B5 ha hdb he hpl pins s σ H Q I ⟨Z,O,E,?_⟩
   rw[q];intro H1 s1 vs rs;rw[JH];refine⟨ts,O,rs,(E.same s1).mtb,hl Z ts q,?_⟩
   rw[q2]
   exact λv H' s2 r=>hq2 H' (s1.trans s2) v r
  | err c=>
   rw[q2]at hq2;refine IR (kX I hg hm ?_ hdb)
   refine Oa (h₀:=X.base) I.ok.mod.kin hk (bR (ha pos pins s σ H (λvs H'=>Same H H'/\Reps X.K O H' ts vs) I ⟨Z,O,E,?_⟩) (λus s1 ⟨vs,H1,I1,r,sm,rs⟩=>⟨I1.kIn,?_⟩)) he hpl
   ·rw[q];exact λH' sm vs rs=>⟨sm,rs⟩
   ·have hlen:us.length=ps.length:=by rw[<-r.length,<-rs.length,hl Z ts q,hps]
    have hb':=hb s1 us I1.kIn (by rw[JH];exact hlen)
    rw[JH]at hb';refine OZ (K5 (F.x X.A X.stack s1 H1 ⟨us,[]⟩ us vs O ts c (λr s'=>match r with | .error ev=>X.xe ev s' | _=>False) hr I1.Hg hb' r rs (E.same sm).mtb (hl Z ts q) q2 λev s' w=> ?_) λr s' hq=> ?_)
    ·obtain⟨ea,T,C,H',rfl,hmc,ho,hbare,hun,hok,sm2,hea,heo,fl,hT,hTo⟩:=w
     have I2:Inv X pins σ H' s':=I1.Hd ho hun hok hbare (λb z=>absurd z (by simp))
     exact hq2 pins _ _ ⟨ea,some T,C,σ,H',rfl,hmc,I2,λb o q _=>sm2 b o (sm b o q),hea,λhex=>pP I1 hex heo,fl,(λt zt=>by cases zt;exact⟨hT,λhex=>pP I1 hex hTo⟩),λpp hpp=>⟨λzz=>(by have:=(I1.pin pp hpp).1;rw[zz,heo]at this;cases this),λzz=>(by cases zz;have:=(I1.pin pp hpp).1;rw[hTo]at this;cases this)⟩⟩
    ·cases r with
     | error ev=>exact hq
     | ok fl=>exact hq.elim
def BW (X:Cx)(g:T->En->Rs En):TG:=λv σ H Q=> ∃Z O M t,EnvM X.K O M H Z σ/\Rep X.K O H t v/\match g t Z with
 | .ok Z'=> ∀σ',EnvM X.K O M H Z' σ'->Q σ' H
 | _=>False
abbrev Cj (X:Cx)(tg:Expr)(g:T->En->Rs En):Prop:=PG X tg (BW X g)
def tPGs (X:Cx)(g:List T->En->Rs En):BO:=λvs σ H Q=> ∃Z O M ts,EnvM X.K O M H Z σ/\Reps X.K O H ts vs/\match g ts Z with
 | .ok Z'=> ∀σ',EnvM X.K O M H Z' σ'->Q σ' H
 | _=>False
abbrev zV (X:Cx)(tg:List Expr)(g:List T->En->Rs En):Prop:=PGs X tg (tPGs X g)
theorem PG.imp {X:Cx}{e:Expr}{t t':TG}(h:PG X e t)(w:∀v σ H Q,t' v σ H Q->t v σ H Q):PG X e t':=λpins s σ H v u Q I r q=>h pins s σ H v u Q I r (w v σ H Q q)
theorem PGs.imp {X:Cx}{e:List Expr}{t t':BO}(h:PGs X e t)(w:∀v σ H Q,t' v σ H Q->t v σ H Q):PGs X e t':=λpins s σ H v u Q I r q=>h pins s σ H v u Q I r (w v σ H Q q)
def gN (i:Nat)(t:T)(Z:En):Rs En:=if i<Z.length then .ok (Z.set i (.va t))else .bad
theorem EnvM.set {K:Hy}{O:Ow}{M:Mn}{H:Hp}{Z:En}{σ:L2.St}{i:Nat}{t:T}{v:V}(E:EnvM K O M H Z σ)(hi:i<Z.length)(r:Rep K O H t v):EnvM K O M H (Z.set i (.va t)) (σ.set i (some v)) where
 len:=by rw[Jt,Jt];exact E.len
 val:=λj u e=>by
  by_cases hj:i=j
  ·subst hj
   rw[Io hi]at e
   cases e;exact⟨v,Io (by rw[<-E.len];exact hi),r⟩
  ·rw[Im hj]at e
   obtain⟨w,e1,e2⟩:=E.val j u e;exact⟨w,by rw[Im hj];exact e1,e2⟩
 own:=λj o e=>by
  by_cases hj:i=j
  ·subst hj
   rw[Io hi]at e
   cases e
  ·rw[Im hj]at e
   obtain⟨w,e1,e2⟩:=E.own j o e;exact⟨w,by rw[Im hj];exact e1,e2⟩
 sub:=E.sub
 dis:=E.dis
 trk:=E.trk
theorem AJ (i:Nat)(hN:X.N.Nodup)(hi:X.N[i]? =some x:=by rfl)(hx:Loc X.env.scope x:=by first | exact Kq rfl | exact JP rfl)(hf:X.fn x=true\/X.env.scope.names.lookup x=some .local:=by first | exact .inl rfl | exact .inr rfl | assumption):Cj X (.Name x pos) (gN i):=
 PG.imp (A1 hN hi hx hf) λv σ H Q hh_=>by
  obtain⟨Z,O,M,t,E,r,h⟩:=hh_;unfold gN at h
  split at h
  ·rename_i Z' e
   split at e
   ·rename_i hl
    cases e;exact h _ (E.set hl r)
   ·cases e
  ·exact h.elim
def z5 (ts:List T)(Z:En):Rs En:=match ts with
 | [] => .ok Z
 | _=> .bad
def rP (g:T->En->Rs En)(gs:List T->En->Rs En)(ts:List T)(Z:En):Rs En:=match ts with
 | t::r=>do
  let Z1 <-g t Z
  gs r Z1
 | [] => .bad
theorem AI:zV X [] z5:=PGs.imp A0 λvs σ H Q hh_=>by
 obtain⟨Z,O,M,ts,E,r,h⟩:=hh_;unfold z5 at h
 cases ts with
 | nil=>exact⟨Reps.AC.mp r,h σ E⟩
 | cons _ _=>exact h.elim
theorem xv {g:T->En->Rs En}{gs:List T->En->Rs En}(h1:Cj X e g)(h2:zV X es gs)
  (hs:(JD (e::es) X.env).map (·.2)=assign e X.env::(JD es X.env).map (·.2):=by rfl):zV X (e::es) (rP g gs):=
 PGs.imp (xM h1 h2 hs) λvs σ H Q hh_=>by
  obtain⟨Z,O,M,ts,E,r,h⟩:=hh_
  cases ts with
  | nil=>exact h.elim
  | cons t ts=>
   obtain⟨v,ws,rfl,p,q⟩:=Reps.me.mp r;refine⟨v,ws,rfl,Z,O,M,t,E,p,?_⟩
   unfold rP at h
   cases e1:g t Z with
   | bad=>simp[e1]at h
   | err c=>simp[e1]at h
   | ok Z1=>
    intro σ1 E1;refine⟨Z1,O,M,ts,E1,q,?_⟩
    simp only[e1,aB]at h
    cases e2:gs ts Z1 with
    | bad=>simp[e2]at h
    | err c=>simp[e2]at h
    | ok Z2=>
     simp only[e2]at h;exact λσ2 E2=>h σ2 E2
def gT (n:Nat)(gs:List T->En->Rs En)(t:T)(Z:En):Rs En:=match t with
 | .tup l=>if l.length=n then gs l Z else .bad
 | _=> .bad
theorem C2 {k n:Nat}{gs:List T->En->Rs En}(hc:X.calm=true)(h:zV X es gs)(hn:(JD es X.env).length=n:=by rfl)(hst:(JD es X.env).findIdx? (·.1)=none:=by rfl):Cj X (.Tuple es k pos) (gT n gs):=
 PG.imp (Dj hc h hn hst) λv σ H Q hh_=>by
  obtain⟨Z,O,M,t,E,r,h⟩:=hh_;unfold gT at h
  cases t with
  | tup l=>
   obtain⟨a,vs,rfl,n',q,z⟩:=Rep.Fk.mp r
   by_cases hl:l.length=n
   ·simp only[if_pos hl]at h
    exact⟨a,vs,rfl,SqT.of q,by rw[<-z.length];exact hl,Z,O,M,l,E,z,h⟩
   ·simp only[if_neg hl]at h
  | _=>exact h.elim
theorem SqL.nn {K:Hy}{H:Hp}{a:Addr}{vs:List V}(q:SqL K H a vs):¬ Nw K H a:=λ⟨h1,h2⟩=>by
 rcases q with(q | ⟨o,q⟩) | ⟨o,_,_,q,_⟩
 ·rw[h1]at q;cases q
 ·rw[h1]at q;cases q
 ·rw[h2]at q;cases q
mutual
theorem Rep.more {K:Hy}{O O':Ow}{H:Hp}(sub:∀a,O' a->O a\/Nw K H a):∀{t:T} {v:V},Rep K O H t v->Rep K O' H t v
 | .non,_,r=>by unfold Rep at r ⊢;exact r
 | .bl _,_,r=>by unfold Rep at r ⊢;exact r
 | .int _,_,r=>by unfold Rep at r ⊢;exact r
 | .str _,_,r=>by unfold Rep at r ⊢;exact r
 | .tup l,_,r=>by
  unfold Rep at r ⊢;obtain⟨a,vs,e,n,q,z⟩:=r
  exact⟨a,vs,e,λp=>(sub a p).elim n λw=>(by rw[w.1]at q;cases q),q,Reps.more sub z⟩
 | .lst l,_,r=>by
  unfold Rep at r ⊢;obtain⟨a,vs,e,n,q,z⟩:=r
  exact⟨a,vs,e,λp=>(sub a p).elim n λw=>(by rw[w.1]at q;cases q),q,Reps.more sub z⟩
 | .scr l,_,r=>by
  unfold Rep at r ⊢;obtain⟨a,e,n,q⟩:=r
  exact⟨a,e,λp=>(sub a p).elim n λw=>Tr.SqL.nn q w,q⟩
 | .dct ks ts,_,r=>by
  unfold Rep at r ⊢;obtain⟨a,kvs,e,n,q,k,z⟩:=r;exact⟨a,kvs,e,λp=>(sub a p).elim n λw=>(by rcases q with q | ⟨_,q⟩ <;> rw[w.1]at q <;> cases q),q,k,Reps.more sub z⟩
theorem Reps.more {K:Hy}{O O':Ow}{H:Hp}(sub:∀a,O' a->O a\/Nw K H a):∀{l:List T} {vs:List V},Reps K O H l vs->Reps K O' H l vs
 | [],_,r=>by unfold Reps at r ⊢;exact r
 | t::l,_,r=>by
  unfold Reps at r ⊢;obtain⟨v,ws,e,p,q⟩:=r;exact⟨v,ws,e,Rep.more sub p,Reps.more sub q⟩
end
theorem Rep.move {K:Hy}{O O' P:Ow}{H H':Hp}{t:T}{v:V}(hP:∀a,P a->O a\/Nw K H a)(hO:∀a,O' a->O a\/Nw K H a)(h:SameO P H H')(r:Rep K O H t v):Rep K O' H' t v:=
 Rep.less (O:=λa=>O' a\/P a) (λ_ z=> .inl z) (Rep.keep h (λ_ z=> .inr z) (Rep.more (λa z=>z.elim (hO a) (hP a)) r))
theorem Reps.move {K:Hy}{O O' P:Ow}{H H':Hp}{t:List T}{v:List V}(hP:∀a,P a->O a\/Nw K H a)(hO:∀a,O' a->O a\/Nw K H a)(h:SameO P H H')(r:Reps K O H t v):Reps K O' H' t v:=
 Reps.less (O:=λa=>O' a\/P a) (λ_ z=> .inl z) (Reps.keep h (λ_ z=> .inr z) (Reps.more (λa z=>z.elim (hO a) (hP a)) r))
def ItT (K:Hy)(O:Ow)(H:Hp)(ts:List T)(J:It):Prop:=∀(P O':Ow),(∀a,P a->O a\/Nw K H a)->(∀a,O' a->O a\/Nw K H a)->∀(i:Nat) (Hc:Hp),SameO P H Hc->(∀a,O' a->∃o,Hc a=some o) →
 (ts.length<=i->J.stop i Hc)/\(∀t,ts[i]? =some t->J.go i Hc/\∀x Hc',J.yld i Hc x Hc'->Same Hc Hc'/\Rep K O' Hc' t x)
def tPI (X:Cx)(f:En->Rs (List T)):TI:=λσ H R=> ∃Z O,EnvO X.K O H Z σ/\Post X H (f Z) λts H'=> ∀J,ItT X.K O H' ts J->R J H'
abbrev BQ (X:Cx)(tg iter:Expr)(f:En->Rs (List T)):Prop:=PI X tg iter (tPI X f)
theorem PI.imp {tg iter:Expr}{t t':TI}(h:PI X tg iter t)(w:∀σ H R,t' σ H R->t σ H R):PI X tg iter t':=λpins s σ H R I q=>h pins s σ H R I (w σ H R q)
def iL (f:En->Rs T)(Z:En):Rs (List T):=do
 let x <-f Z
 match x with
 | .lst l=> .ok l
 | _=> .bad
def iT (f:En->Rs T)(Z:En):Rs (List T):=do
 let x <-f Z
 match x with
 | .tup l=> .ok l
 | _=> .bad
theorem ug {tg:Expr}(ha:bX X a fa):BQ X tg a (iL fa):=PI.imp (AY ha) λσ H R hh_=>by
 obtain⟨Z,O,E,h⟩:=hh_;obtain⟨Z1,O1,E1,h1⟩:=aU E h;refine⟨Z1,O1,E1,Post.mono h1 λts H1 s1 q vs r=> ?_⟩
 obtain⟨t',r',s',E',q'⟩:=q vs r
 split at q'
 ·rename_i l
  obtain⟨a,ws,rfl,n,q,z⟩:=Rep.Do.mp r';refine⟨a,rfl,⟨ws,SqL.of q⟩,q' H1 (Same.refl H1) _ λP O' hP hO i Hc hs ht=> ?_⟩
  have hnP:¬ P a:=λz=>(hP a z).elim n λw=>by rw[w.1]at q;cases q
  refine⟨λhi=>⟨ws,SqL.of (hs _ _ q hnP),by rw[<-z.length];exact hi⟩,λt ht'=> ?_⟩
  obtain⟨v,e1,e2⟩:=z.get ht';refine⟨⟨ws,v,SqL.of (hs _ _ q hnP),e1⟩,λx Hc' y=> ?_⟩
  obtain⟨e,y⟩:=y;subst e
  have:=y ws (SqL.of (hs _ _ q hnP));rw[e1]at this;cases this;exact⟨Same.refl _,e2.move hP hO hs⟩
 ·exact q'.elim
theorem C0 {tg:Expr}(ha:bX X a fa):BQ X tg a (iT fa):=PI.imp (Di ha) λσ H R hh_=>by
 obtain⟨Z,O,E,h⟩:=hh_;obtain⟨Z1,O1,E1,h1⟩:=aU E h;refine⟨Z1,O1,E1,Post.mono h1 λts H1 s1 q vs r=> ?_⟩
 obtain⟨t',r',s',E',q'⟩:=q vs r
 split at q'
 ·rename_i l
  obtain⟨a,ws,rfl,n,q,z⟩:=Rep.Fk.mp r';refine⟨a,rfl,⟨ws,SqT.of q⟩,q' H1 (Same.refl H1) _ λP O' hP hO i Hc hs ht=> ?_⟩
  have hnP:¬ P a:=λz=>(hP a z).elim n λw=>by rw[w.1]at q;cases q
  refine⟨λhi=>⟨ws,SqT.of (hs _ _ q hnP),by rw[<-z.length];exact hi⟩,λt ht'=> ?_⟩
  obtain⟨v,e1,e2⟩:=z.get ht';refine⟨⟨ws,v,SqT.of (hs _ _ q hnP),e1⟩,λx Hc' y=> ?_⟩
  obtain⟨e,y⟩:=y;subst e
  have:=y ws (SqT.of (hs _ _ q hnP));rw[e1]at this;cases this;exact⟨Same.refl _,e2.move hP hO hs⟩
 ·exact q'.elim
def rng (lo hi:Int):List T:=(HD (hi - lo).toNat).map λ(k:Nat)=>T.int (lo+(k:Int))
def qz (i:Int):Bool:=decide (-(2 ^ 62)<=i)&&decide (i<2 ^ 62)
def iR (f:En->Rs (List T))(Z:En):Rs (List T):=do
 let x <-f Z
 match x with
 | [.int j] =>if qz j then .ok (rng 0 j)else .bad
 | [.int i,.int j] =>if qz i&&qz j then .ok (rng i j)else .bad
 | _=> .bad
theorem ia {i:Int}(h:qz i=true) : -(2 ^ 62)<=i/\i<2 ^ 62:=by
 unfold qz at h;rw[Hz]at h;exact⟨of_decide_eq_true h.1,of_decide_eq_true h.2⟩
theorem uQ {K:Hy}{O:Ow}{H:Hp}(lo hi:Int):ItT K O H (rng lo hi) (Itr lo (hi - lo).toNat):=λP O' hP hO i Hc hs ht=>by
 refine⟨λh=> ?_,λt h=> ?_⟩
 ·show(hi - lo).toNat<=i
  unfold rng at h;rw[HI,Jr]at h;exact h
 ·unfold rng at h
  rw[Ij]at h
  by_cases hi':i<(hi - lo).toNat
  ·rw[NZ hi']at h
   cases h;refine⟨hi',λx Hc' y=> ?_⟩
   obtain⟨e,y⟩:=y;subst e y;exact⟨Same.refl _,Rep.GL _⟩
  ·rw[JI (by simpa using hi')]at h
   cases h
theorem vA {tg:Expr}(hm:X.mg "range" =none)(ha:oB X [a] fs)(hg:Gl X "range":=by rfl)(hs:HY [a] X.env= [(false,eval a X.env)]:=by rfl):BQ X tg (.Call (.Name "range" p) [a] [] pos) (iR fs):=by
 intro pins s σ H R I ⟨Z,O,E,h⟩
 have h1:=dt E h;refine Call_ (d9 I hg hm boot_range (IK (bR (ha pos pins s σ H _ I h1) λus s1 ⟨vs,H1,I1,r1,ts,rs,s',E',q1⟩=> ?_) hs rfl))
 split at q1
 ·obtain⟨v,rfl,r⟩:=rs.one
  split at q1
  ·rename_i j hj
   obtain⟨b1,b2⟩:=ia hj;cases Rep.Da.mp r
   cases r1 with
   | cons r rr=>
    cases rr;obtain⟨t,rfl⟩:=r;exact call_range_1 (qW I1 (by omega) (by omega) b1 b2 (q1 H1 (Same.refl H1) _ (uQ 0 j)))
  ·exact q1.elim
 ·obtain⟨v,ws,rfl,p1,q⟩:=Reps.me.mp rs
  obtain⟨v2,rfl,r⟩:=q.one
  split at q1
  ·rename_i i j hj
   rw[Hz]at hj;obtain⟨b1,b2⟩:=ia hj.1;obtain⟨b3,b4⟩:=ia hj.2;cases Rep.Da.mp p1;cases Rep.Da.mp r
   cases r1 with
   | cons r rr=>
    cases rr with
    | cons r' rr=>
     cases rr;obtain⟨t,rfl⟩:=r;obtain⟨t',rfl⟩:=r';exact call_range_2 (qW I1 b1 b2 b3 b4 (q1 H1 (Same.refl H1) _ (uQ i j)))
  ·exact q1.elim
 ·exact q1.elim
end
section
variable {X:Cx}{a b c e:Expr}{es:List Expr}{fa fb fc:En->Rs T}{fs:En->Rs (List T)}{pos p p2:Pos}{x:Str}
def cq (src:List (Option Nat))(Z:En):En:=src.map λo=>match o with
 | some i=>match Z[i]? with
  | some (.va t)=> .va t
  | _=> .em
 | none=> .em
def cX (tgt:T->En->Rs En)(fc:En->Rs Bool)(fe:En->Rs T):List T->En->Rs (List T)
 | [],_=> .ok []
 | t::r,Z=>do
  let Z1 <-tgt t Z
  let k <-fc Z1
  if k then do
   let y <-fe Z1
   let ys <-cX tgt fc fe r Z1
   .ok (y::ys)
  else cX tgt fc fe r Z1
def eF (fi:En->Rs (List T))(src:List (Option Nat))(tgt:T->En->Rs En)(fc:En->Rs Bool)(fe:En->Rs T)(Z:En):Rs T:=do
 let ts <-fi Z
 if ts.length<=sizeLine then match cX tgt fc fe ts (cq src Z)with
  | .ok ys=> .ok (.lst ys)
  | _=> .bad
 else .bad
def bT (_:En):Rs Bool:=.ok true
def tP0 (K:Hy)(f:En->Rs T):TE:=λσ H Q=> ∃Z O,EnvO K O H Z σ/\match f Z with
 | .ok t=> ∀H',Same H H'->∀v,Rep K O H' t v->Q v H'
 | _=>False
def tPT0 (K:Hy)(f:En->Rs Bool):TT:=λσ H Q=> ∃Z O,EnvO K O H Z σ/\match f Z with
 | .ok t=> ∀H',Same H H'->Q t H'
 | _=>False
theorem tP0.up {f:En->Rs T}{σ:L2.St}{H:Hp}{Q:VK}(h:tP0 X.K f σ H Q):tP X f σ H Q:=by
 obtain⟨Z,O,E,h⟩:=h;refine⟨Z,O,E,?_⟩
 cases q:f Z with
 | ok t=>rw[q]at h;exact h
 | err c=>rw[q]at h;exact h.elim
 | bad=>rw[q]at h;exact h.elim
theorem tPT0.up {f:En->Rs Bool}{σ:L2.St}{H:Hp}{Q:Bool->Hp->Prop}(h:tPT0 X.K f σ H Q):wO X f σ H Q:=by
 obtain⟨Z,O,E,h⟩:=h;refine⟨Z,O,E,?_⟩
 cases q:f Z with
 | ok t=>rw[q]at h;exact h
 | err c=>rw[q]at h;exact h.elim
 | bad=>rw[q]at h;exact h.elim
theorem AG:wu X [] (wO X bT):=λpins s σ H Q I ⟨Z,O,E,h⟩=>AX pins s σ H Q I (h H (Same.refl H))
theorem AF {f:En->Rs Bool}(h:sr X c f):wu X [c] (wO X f):=AW h
abbrev noM:Mn:=λ_ _=>False
theorem vO {src:List (Option Nat)}{Z:En}{j:Nat}{o:OT}(e:(cq src Z)[j]? =some (.ow o)):False:=by
 unfold cq at e;rw[Ij]at e
 cases q:src[j]? with
 | none=>rw[q]at e;cases e
 | some o'=>
  rw[q]at e
  cases o' with
  | none=>cases e
  | some i=>
   have e':(match Z[i]? with | some (Sl.va t)=>Sl.va t | _=>Sl.em)=Sl.ow o:=Ip e
   split at e' <;> cases e'
theorem yA {K:Hy}{O:Ow}{H:Hp}{Z:En}{σ:L2.St}(E:EnvO K O H Z σ)(src:List (Option Nat)):EnvM K O noM H (cq src Z) (eC src σ) where
 len:=by unfold cq eC;rw[HI,HI]
 val:=λj t e=>by
  unfold cq at e;unfold eC;rw[Ij]at e ⊢
  cases q:src[j]? with
  | none=>rw[q]at e;cases e
  | some o=>
   rw[q]at e
   cases o with
   | none=>cases e
   | some i=>
    have e':(match Z[i]? with | some (Sl.va t)=>Sl.va t | _=>Sl.em)=Sl.va t:=Ip e
    cases q2:Z[i]? with
    | none=>rw[q2]at e';cases e'
    | some z=>
     rw[q2]at e'
     cases z with
     | em=>cases e'
     | ow l=>cases e'
     | va t'=>
      cases e';obtain⟨v,e1,e2⟩:=E.val i _ q2;exact⟨v,by simp[e1],e2⟩
 own:=λj o e=>(vO e).elim
 sub:=λ_ _ z=>z.elim
 dis:=λ_ _ _ z=>z.elim
 trk:=E.mtb
theorem ORep.no {K:Hy}{O:Ow}{H:Hp}{o:OT}{v:V}(r:ORep K O uu H o v):False:=by
 cases o with
 | lst l=>obtain⟨a,_,_,e,_⟩:=r;exact(e a).mpr rfl
 | dct ks ts=>obtain⟨a,_,_,e,_⟩:=r;exact(e a).mpr rfl
 | dd ks rows=>obtain⟨a,_,_,_,e,_⟩:=r;exact(e a).mpr (.inl rfl)
theorem EnvM.move {K:Hy}{O O' P:Ow}{H H':Hp}{Z:En}{σ:L2.St}(E:EnvM K O noM H Z σ)(hP:∀a,P a->O a\/Nw K H a)(hO:∀a,O' a->O a\/Nw K H a)(h:SameO P H H')(trk:∀a,O' a->Mtb H' a):EnvM K O' noM H' Z σ where
 len:=E.len
 val:=λi t e=>let ⟨v,e1,e2⟩:=E.val i t e;⟨v,e1,e2.move hP hO h⟩
 own:=λi o e=>let ⟨_,_,r⟩:=E.own i o e;r.no.elim
 sub:=λ_ _ z=>z.elim
 dis:=λ_ _ _ z=>z.elim
 trk:=trk
def EC (fi:En->Rs (List T))(src:List (Option Nat))(tgt:T->En->Rs En)(fc:En->Rs Bool)(fe:En->Rs T)(Z:En):Rs (List T):=fi Z >>= λts=>if ts.length<=sizeLine then(match cX tgt fc fe ts (cq src Z)with | .ok ys=>Rs.ok ys | _=> .bad)else .bad
theorem yz {src:List (Option Nat)}{fi:En->Rs (List T)}{tgt:T->En->Rs En}{fc:En->Rs Bool}{fe:En->Rs T}{Z:En}:eF fi src tgt fc fe Z=EC fi src tgt fc fe Z >>= λl=> .ok (.lst l):=by
 unfold eF EC
 cases fi Z with
 | bad=>rfl
 | err c=>rfl
 | ok ts=>
  rw[aB,aB]
  by_cases hz:ts.length<=sizeLine
  ·rw[if_pos hz,if_pos hz]
   cases cX tgt fc fe ts (cq src Z) <;> rfl
  ·rw[if_neg hz,if_neg hz];rfl
theorem yy {src:List (Option Nat)}{fi:En->Rs (List T)}{tgt:T->En->Rs En}{fc:En->Rs Bool}{fe:En->Rs T}{σ:L2.St}{H:Hp}{Q:VK}{Z:En}{O:Ow}(E:EnvO X.K O H Z σ)
  (hq1:Post X H (EC fi src tgt fc fe Z) λall H1=> ∀D ys H',Nw X.K H1 D->Same H1 H'->H' D=some (.lst ys)->Reps X.K (λa=>O a\/a=D) H' all ys->Q (.ref D) H'):ER X.K (tPI X fi) src (BW X tgt) (tPT0 X.K fc) (tP0 X.K fe) σ H Q:=by
 unfold EC at hq1;refine⟨Z,O,E,Post.mono hq1.bind λts H1 s1 q1 J hJ D hD hK=> ?_⟩
 have E1:=E.same s1
 by_cases hz:ts.length<=sizeLine
 ·rw[if_pos hz]at q1
  cases hall:cX tgt fc fe ts (cq src Z)with
  | bad=>rw[hall]at q1;exact q1.elim
  | err c=>rw[hall]at q1;exact q1.elim
  | ok all=>
   rw[hall]at q1
   have q2:∀D ys H',Nw X.K H1 D->Same H1 H'->H' D=some (.lst ys)->Reps X.K (λa=>O a\/a=D) H' all ys->Q (.ref D) H':=q1 H1 (Same.refl H1)
   have nD:Nw X.K H1 D:=⟨hD,hK⟩
   let O':Ow:=λa=>O a\/a=D
   have subO:∀a,O' a->O a\/Nw X.K H1 a:=λa z=>z.elim .inl λw=> .inr (w▸nD)
   -- the walk's word
   refine⟨λi m σ' ys H'=>m=ts.length - i/\i<=ts.length/\ys.length<=i/\H' D=some (.lst ys)/\SameO (λa=>a=D) (upd H1 D (.lst [])) H' ∧
    ∃Z' yts zs,EnvM X.K O' noM H' Z' σ'/\Reps X.K O' H' yts ys/\cX tgt fc fe (ts.drop i) Z'= .ok zs/\yts++zs=all,⟨ts.length,?_⟩,?_⟩
   ·have sN:Same H1 (upd H1 D (.lst [])):=aO hD _
    refine⟨by omega,IC _,HL _,aV,λb o e _=>e,cq src Z,[],all,?_,Reps.GO,by simpa using hall,rfl⟩
    have E2:EnvM X.K O noM H1 (cq src Z) (eC src σ):=yA E1 src
    exact E2.move (P:=λa=>a=D) (λa z=> .inr (z▸nD)) subO (λb o e _=>sN b o e) λa z=>by
     rcases z with z | z
     ·exact(E1.mtb a z).same sN
     ·rw[z];exact .inl ⟨_,aV⟩
   ·rintro i m σ' ys H' ⟨rfl,hi',hyl,hDl,hsm,Z',yts,zs,E',ry,hl,hyz⟩
    refine⟨hDl,?_⟩
    have sm1:SameO (λa=>a=D) H1 H':=λb o e nb=>hsm b o (by rw[aJ nb];exact e) nb
    have it:=hJ (λa=>a=D) O' (λa z=> .inr (z▸nD)) subO i H' sm1 (λa z=>(E'.trk a z).some)
    by_cases hlt:i<ts.length
    ·refine .inr ?_
     have hti:ts[i]? =some ts[i]:=by simp
     obtain⟨go,yl⟩:=it.2 ts[i] hti;refine⟨go,by omega,λxx Hc y=> ?_⟩
     obtain⟨sc,rx⟩:=yl xx Hc y
     have Ec:=E'.same sc;rw[Jo hlt]at hl;unfold cX at hl;refine⟨Z',O',noM,ts[i],Ec,rx,?_⟩
     cases e1:tgt ts[i] Z' with
     | bad=>rw[e1]at hl;cases hl
     | err cc=>rw[e1]at hl;cases hl
     | ok Z1=>
      rw[e1,aB]at hl;intro σ1 Eg;refine⟨Z1,O',⟨noM,Eg⟩,?_⟩
      cases e2:fc Z1 with
      | bad=>rw[e2]at hl;cases hl
      | err cc=>rw[e2]at hl;cases hl
      | ok k=>
       rw[e2,aB]at hl;intro H3 s3
       have E3:=Eg.same s3
       have tot:Same H' H3:=sc.trans s3
       have D3:H3 D=some (.lst ys):=tot _ _ hDl
       have sm3:SameO (λa=>a=D) (upd H1 D (.lst [])) H3:=λb o e nb=>tot _ _ (hsm b o e nb)
       cases k with
       | false=>
        refine L2.iteF ?_
        have hl':cX tgt fc fe (ts.drop (i+1)) Z1= .ok zs:=by simpa using hl
        exact⟨ts.length - (i+1),by omega,rfl,hlt,by omega,D3,sm3,Z1,yts,zs,E3,ry.same tot,hl',hyz⟩
       | true=>
        refine L2.iteT ?_
        have hl':(fe Z1 >>= λy=>cX tgt fc fe (ts.drop (i+1)) Z1 >>= λys=>Rs.ok (y::ys))= .ok zs:=by simpa using hl
        refine⟨Z1,O',⟨noM,E3⟩,?_⟩
        cases e3:fe Z1 with
        | bad=>rw[e3]at hl';cases hl'
        | err cc=>rw[e3]at hl';cases hl'
        | ok yt=>
         rw[e3,aB]at hl'
         cases e4:cX tgt fc fe (ts.drop (i+1)) Z1 with
         | bad=>rw[e4]at hl';cases hl'
         | err cc=>rw[e4]at hl';cases hl'
         | ok zs'=>
          rw[e4,aB]at hl'
          have hzs:yt::zs'=zs:=by injection hl'
          intro H4 s4 v rv
          have D4:H4 D=some (.lst ys):=s4 _ _ D3
          have E4:=E3.same s4
          have tot4:Same H' H4:=tot.trans s4
          have smD:SameO (λa=>a=D) H4 (upd H4 D (.lst (ys++ [v]))):=λb o e nb=>by rw[aJ nb];exact e
          have inO:∀a,a=D->O' a\/Nw X.K H4 a:=λa z=> .inl (.inr z)
          refine⟨D4,ts.length - (i+1),by omega,rfl,hlt,?_,aV,λb o e nb=>smD b o (s4 _ _ (sm3 b o e nb)) nb,Z1,yts++ [yt],zs',?_,?_,e4,?_⟩
          ·rw[HP,Je];omega
          ·exact E4.move inO (λa z=> .inl z) smD λaa z=>by
            by_cases hz:aa=D
            ·rw[hz];exact .inl ⟨_,aV⟩
            ·unfold Mtb;rw[aJ hz];exact E4.trk aa z
          ·have r1:Reps X.K O' H4 (yts++ [yt]) (ys++ [v]):=(ry.same tot4).append (Reps.FS rv Reps.GO)
           exact r1.move inO (λa z=> .inl z) smD
          ·rw[IX,Np,hzs];exact hyz
    ·refine .inl ⟨it.1 (by omega),?_⟩
     have hi2:i=ts.length:=by omega
     subst hi2;rw[Po]at hl
     have hzs:zs= []:=by unfold cX at hl;injection hl with hl;exact hl.symm
     subst hzs;rw[JH]at hyz;subst hyz
     have sF:Same H1 H':=λb o e=>sm1 b o e λz=>by rw[z,hD]at e;cases e
     exact q2 D ys H' nD sF hDl ry
 ·rw[if_neg hz]at q1
  exact q1.elim
theorem uK {src:List (Option Nat)}{fi:En->Rs (List T)}{tgt:T->En->Rs En}{fc:En->Rs Bool}{fe:En->Rs T}{σ:L2.St}{H:Hp}{Q:VK}(h0:tP X (eF fi src tgt fc fe) σ H Q):ER X.K (tPI X fi) src (BW X tgt) (tPT0 X.K fc) (tP0 X.K fe) σ H Q:=by
 obtain⟨Z,O,E,hq⟩:=h0;refine yy E ?_
 have e:eF fi src tgt fc fe Z=EC fi src tgt fc fe Z >>= λl=> .ok (.lst l):=yz
 rw[e]at hq
 cases q:EC fi src tgt fc fe Z with
 | bad=>rw[q]at hq;exact hq.elim
 | err c=>rw[q]at hq;exact hq
 | ok l=>
  rw[q,aB]at hq;intro H1 s1 D ys H' nD sD eD rD;exact hq H' (s1.trans sD) _ (Rep.Do.mpr ⟨D,ys,rfl,λz=>(E.same s1).fresh nD.1 z,eD,rD.less λa z=> .inl z⟩)
theorem q_lc {elt tg iter:Expr}{ifs:List Expr}{scope:Le}{N':List Str}{src:List (Option Nat)}{fi:En->Rs (List T)}{tgt:T->En->Rs En}{fc:En->Rs Bool}{fe:En->Rs T}
  (hc:X.calm=true) (S:LcScope X scope N' src) (hi:BQ X tg iter fi)
  (block:∀cl C s₀ H₀ fp,Cj (cg X scope cl N' C s₀ H₀ fp) tg tgt/\wu (cg X scope cl N' C s₀ H₀ fp) ifs (wO (cg X scope cl N' C s₀ H₀ fp) fc)/\bX (cg X scope cl N' C s₀ H₀ fp) elt fe)
  (hs:∀x,Jk iter X.env x=pure x:=by intro _;rfl) :
  bX X (.ListComp elt [⟨tg,iter,ifs,0⟩] scope pos) (eF fi src tgt fc fe):=by
 have hPG:∀cl C s₀ H₀ fp,PG (cg X scope cl N' C s₀ H₀ fp) tg (BW X tgt):=λcl C s₀ H₀ fp=>(block cl C s₀ H₀ fp).1
 have hPI:∀cl C s₀ H₀ fp,wu (cg X scope cl N' C s₀ H₀ fp) ifs (tPT0 X.K fc):=λcl C s₀ H₀ fp pins s σ H Q I h=>(block cl C s₀ H₀ fp).2.1 pins s σ H Q I (tPT0.up (X:=cg X scope cl N' C s₀ H₀ fp) h)
 have hPE:∀cl C s₀ H₀ fp,PE (cg X scope cl N' C s₀ H₀ fp) elt (tP0 X.K fe):=λcl C s₀ H₀ fp pins s σ H Q I h=>(block cl C s₀ H₀ fp).2.2 pins s σ H Q I (tP0.up (X:=cg X scope cl N' C s₀ H₀ fp) h)
 exact PE.imp (xO (g:=BW X tgt) (tc:=tPT0 X.K fc) (te:=tP0 X.K fe) hc S hi (λcl C s₀ H₀ fp=>⟨hPG cl C s₀ H₀ fp,hPI cl C s₀ H₀ fp,hPE cl C s₀ H₀ fp⟩) hs) λσ H Q h=>uK h
inductive Fl where
 | nx (Z:En) | rt (t:T) | bk (Z:En) | ct (Z:En)
def OO (B:Ow)(M:Mn):Ow:=λa=>B a\/M.u a
structure Ev (K:Hy)(B:Ow)(M:Mn)(H:Hp)(Z:En)(σ:L2.St):Prop where
 env:EnvM K (OO B M) M H Z σ
 mine:∀a,M.u a->¬ B a
theorem Ev.same {K:Hy}{B:Ow}{M:Mn}{H H':Hp}{Z:En}{σ:L2.St}(h:Same H H')(e:Ev K B M H Z σ):Ev K B M H' Z σ:=⟨e.env.same h,e.mine⟩
theorem Ev.o {K:Hy}{B:Ow}{M:Mn}{H:Hp}{Z:En}{σ:L2.St}(e:Ev K B M H Z σ):EnvO K (OO B M) H Z σ:=⟨M,e.env⟩
def PostF (X:Cx)(B P:Ow)(H:Hp)(r:Rs Fl)(D:qx):Prop:=match r with
 | .ok (.nx Z')=> ∀σ' H' M',SameO P H H'->Ev X.K B M' H' Z' σ'->(∀a,M'.u a->P a\/Nw X.K H a)->D.nx σ' H'
 | .ok (.rt t)=> ∀v H',SameO P H H'->Rep X.K B H' t v->D.rt v H'
 | .ok (.bk Z')=> ∀σ' H' M',SameO P H H'->Ev X.K B M' H' Z' σ'->(∀a,M'.u a->P a\/Nw X.K H a)->D.bk σ' H'
 | .ok (.ct Z')=> ∀σ' H' M',SameO P H H'->Ev X.K B M' H' Z' σ'->(∀a,M'.u a->P a\/Nw X.K H a)->D.ct σ' H'
 | .err c=>XA X P H c
 | .bad=>False
def Gw (X:Cx)(F:En->Rs Fl):TS:=λD σ H=> ∃Z B M,Ev X.K B M H Z σ/\PostF X B M.u H (F Z) D
abbrev oA (X:Cx)(s:Stmt)(F:En->Rs Fl):Prop:=PS X s (Gw X F)
abbrev kL (X:Cx)(s:List Stmt)(F:En->Rs Fl):Prop:=PSs X s (Gw X F)
theorem PostF.later {B P P1:Ow}{H H1:Hp}{r:Rs Fl}{D:qx}(h:PostF X B P H r D)(s:SameO P H H1)(sub:∀a,P1 a->P a\/Nw X.K H a):PostF X B P1 H1 r D:=by
 have back:∀a,P1 a\/Nw X.K H1 a->P a\/Nw X.K H a:=λa z=>z.elim (sub a) (fP s)
 cases r with
 | bad=>exact h
 | err c=>exact XA.later h s sub
 | ok f=>
  cases f with
  | nx Z'=>exact λσ' H' M' s' E' o'=>h σ' H' M' (s.trans s' sub) E' λa z=>back a (o' a z)
  | rt t=>exact λv H' s' r=>h v H' (s.trans s' sub) r
  | bk Z'=>exact λσ' H' M' s' E' o'=>h σ' H' M' (s.trans s' sub) E' λa z=>back a (o' a z)
  | ct Z'=>exact λσ' H' M' s' E' o'=>h σ' H' M' (s.trans s' sub) E' λa z=>back a (o' a z)
theorem PostF.xa {B P:Ow}{H:Hp}{c:Str}{D:qx}(h:PostF X B P H (.err c) D):XA X uu H c:=XA.later (P:=P) h (λ_ _ e _=>e) λ_ z=>z.elim
def sN (Z:En):Rs Fl:=.ok (.nx Z)
def az (F G:En->Rs Fl)(Z:En):Rs Fl:=do
 let f <-F Z
 match f with
 | .nx Z'=>G Z'
 | f=> .ok f
theorem CS:kL X [] sN:=PSs.imp AO λD σ H ⟨Z,B,M,E,h⟩=>h σ H M (λ_ _ e _=>e) E λa z=> .inl z
theorem AB {st:Stmt}{cb:List Stmt}{F G:En->Rs Fl}(h1:oA X st F)(h2:kL X cb G):kL X (st::cb) (az F G):=PSs.imp (xF h1 h2) λD σ H hh_=>by
 obtain⟨Z,B,M,E,h⟩:=hh_;refine⟨Z,B,M,E,?_⟩
 unfold az at h
 cases q:F Z with
 | bad=>rw[q]at h;exact h.elim
 | err c=>rw[q]at h;exact h
 | ok f=>
  rw[q,aB]at h
  cases f with
  | nx Z'=>exact λσ' H' M' s' E' o'=>⟨Z',B,M',E',h.later s' o'⟩
  | rt t=>exact h
  | bk Z'=>exact h
  | ct Z'=>exact h
theorem CQ {st:Stmt}{F:En->Rs Fl}(h:oA X st F):kL X [st] F:=AN h
def aL (f:En->Rs T)(Z:En):Rs Fl:=do
 let t <-f Z
 .ok (.rt t)
theorem CO (ha:bX X a fa):oA X (.Return (some a) pos) (aL fa):=PS.imp (De ha) λD σ H hh_=>by
 obtain⟨Z,B,M,E,h⟩:=hh_;refine⟨Z,OO B M,E.o,?_⟩
 unfold aL at h
 cases q:fa Z with
 | bad=>rw[q]at h;exact h.elim
 | err c=>rw[q]at h;exact PostF.xa h
 | ok t=>
  rw[q,aB]at h;exact λH' s v r=>h v H' (SameO.of s) (r.less λ_ z=> .inl z)
def eV (f:En->Rs Bool)(F G:En->Rs Fl)(Z:En):Rs Fl:=do
 let k <-f Z
 if k then F Z else G Z
theorem Fc {f:En->Rs Bool}{A B:List Stmt}{F G:En->Rs Fl}(hc:sr X c f)(ha:kL X A F)(hb:kL X B G):oA X (.If c A B pos) (eV f F G):=PS.imp (Fu hc ha hb) λD σ H hh_=>by
 obtain⟨Z,B,M,E,h⟩:=hh_;refine⟨Z,OO B M,E.o,?_⟩
 unfold eV at h
 cases q:f Z with
 | bad=>rw[q]at h;exact h.elim
 | err c=>rw[q]at h;exact PostF.xa h
 | ok k=>
  rw[q,aB]at h;intro H' s
  have E':Ev X.K B M H' Z σ:=E.same s
  cases k with
  | true=>refine L2.iteT ?_;exact⟨Z,B,M,E',PostF.later (by simpa using h) (SameO.of s) λa z=> .inl z⟩
  | false=>refine L2.iteF ?_;exact⟨Z,B,M,E',PostF.later (by simpa using h) (SameO.of s) λa z=> .inl z⟩
def cI (f:En->Rs T)(g:T->En->Rs En)(Z:En):Rs Fl:=do
 let t <-f Z
 match g t Z with
 | .ok Z'=> .ok (.nx Z')
 | _=> .bad
theorem w4 {B:Ow}{M:Mn}{Z:En}{σ:L2.St}{H:Hp}{D:qx}{g:T->En->Rs En}{f:En->Rs T}(E:Ev X.K B M H Z σ)(h:PostF X B M.u H (cI f g Z) D):Ai (tP X f) (BW X g) D σ H:=by
 refine⟨Z,OO B M,E.o,?_⟩
 unfold cI at h
 cases q:f Z with
 | bad=>rw[q]at h;exact h.elim
 | err c=>rw[q]at h;exact PostF.xa h
 | ok t=>
  rw[q,aB]at h;intro H' s v r;refine⟨Z,OO B M,M,t,E.env.same s,r,?_⟩
  cases q2:g t Z with
  | bad=>rw[q2]at h;exact h.elim
  | err c=>rw[q2]at h;exact h.elim
  | ok Z'=>
   rw[q2]at h;exact λσ' E'=>h σ' H' M (SameO.of s) ⟨E',E.mine⟩ λa z=> .inl z
theorem Ag {f:En->Rs T}{σ:L2.St}{H:Hp}{Q Q':VK}(h:tP X f σ H Q)(w:∀v H',Q v H'->Q' v H'):tP X f σ H Q':=by
 obtain⟨Z,O,E,q⟩:=h;exact⟨Z,O,E,Post.mono q λt H' _ z v r=>w v H' (z v r)⟩
theorem Fb {elt tg iter:Expr}{ifs:List Expr}{scope:Le}{spos py:Pos}{N':List Str}{src:List (Option Nat)}{fi:En->Rs (List T)}{tgt:T->En->Rs En}{fc:En->Rs Bool}{fe:En->Rs T}(i:Nat){y:Str}
  (hc:X.calm=true) (S:LcScope X scope N' src) (hi:BQ X tg iter fi)
  (block:∀cl C s₀ H₀ fp,Cj (cg X scope cl N' C s₀ H₀ fp) tg tgt/\wu (cg X scope cl N' C s₀ H₀ fp) ifs (wO (cg X scope cl N' C s₀ H₀ fp) fc)/\bX (cg X scope cl N' C s₀ H₀ fp) elt fe)
  (hN:X.N.Nodup) (hiy:X.N[i]? =some y:=by rfl) (hy:Loc X.env.scope y:=by first | exact Kq rfl | exact JP rfl) (hsw:JK (.ListComp elt [⟨tg,iter,ifs,0⟩] scope pos) (some (.Name y py)) spos.line X.env=pure true:=by rfl)
  (hf:X.fn y=true\/X.env.scope.names.lookup y=some .local:=by first | exact .inl rfl | exact .inr rfl | assumption) (hs:∀x,Jk iter X.env x=pure x:=by intro _;rfl) :
  oA X (.Assign [.Name y py] (.ListComp elt [⟨tg,iter,ifs,0⟩] scope pos) spos) (cI (eF fi src tgt fc fe) (gN i)):=by
 have hPG:∀cl C s₀ H₀ fp,PG (cg X scope cl N' C s₀ H₀ fp) tg (BW X tgt):=λcl C s₀ H₀ fp=>(block cl C s₀ H₀ fp).1
 have hPI:∀cl C s₀ H₀ fp,wu (cg X scope cl N' C s₀ H₀ fp) ifs (tPT0 X.K fc):=λcl C s₀ H₀ fp pins s σ H Q I h=>(block cl C s₀ H₀ fp).2.1 pins s σ H Q I (tPT0.up (X:=cg X scope cl N' C s₀ H₀ fp) h)
 have hPE:∀cl C s₀ H₀ fp,PE (cg X scope cl N' C s₀ H₀ fp) elt (tP0 X.K fe):=λcl C s₀ H₀ fp pins s σ H Q I h=>(block cl C s₀ H₀ fp).2.2 pins s σ H Q I (tP0.up (X:=cg X scope cl N' C s₀ H₀ fp) h)
 refine PS.imp (Ft (g:=BW X tgt) (tc:=tPT0 X.K fc) (te:=tP0 X.K fe) (i:=i) hc S hi (λcl C s₀ H₀ fp=>⟨hPG cl C s₀ H₀ fp,hPI cl C s₀ H₀ fp,hPE cl C s₀ H₀ fp⟩) hN hiy hy hsw hf hs) λD σ H ⟨Z,B,M,E,h⟩=>uK (Ag (w4 E h) λv H' z=> ?_)
 obtain⟨Z',O,M',t,E',r,q⟩:=z;unfold gN at q
 split at q
 ·rename_i Z2 e
  split at e
  ·rename_i hl
   cases e;exact q _ (E'.set hl r)
  ·cases e
 ·exact q.elim
theorem CY {tg:Expr}{g:T->En->Rs En}(ha:bX X a fa)(hg:Cj X tg g)(hs:Ou [tg] a pos.line X.env=pure false:=by rfl)(hw:Ov [tg] a X.env=pure none:=by rfl)
  (h1:(JD [tg] X.env).map (·.2)= [assign tg X.env]:=by rfl):oA X (.Assign [tg] a pos) (cI fa g):=PS.imp (Dg ha hg hs hw h1) λD σ H ⟨Z,B,M,E,h⟩=>w4 E h
def zY (f:En->Rs T)(Z:En):Rs Fl:=do
 let _ <-f Z
 .ok (.nx Z)
theorem AA (ha:bX X a fa)(hs:JK a none pos.line X.env=pure false:=by rfl):oA X (.Expr a pos) (zY fa):=PS.imp (ph ha hs) λD σ H hh_=>by
 obtain⟨Z,B,M,E,h⟩:=hh_;refine⟨Z,OO B M,E.o,?_⟩
 unfold zY at h
 cases q:fa Z with
 | bad=>rw[q]at h;exact h.elim
 | err c=>rw[q]at h;exact PostF.xa h
 | ok t=>
  rw[q,aB]at h;exact λH' s v r=>h σ H' M (SameO.of s) (E.same s) λa z=> .inl z
def bj (g:T->En->Rs En)(F:En->Rs Fl):List T->En->Rs Fl
 | [],Z=> .ok (.nx Z)
 | t::r,Z=>do
  let Z1 <-g t Z
  let f <-F Z1
  match f with
  | .nx Z2=>bj g F r Z2
  | .ct Z2=>bj g F r Z2
  | .bk Z2=> .ok (.nx Z2)
  | .rt t=> .ok (.rt t)
def gu (fi:En->Rs (List T))(g:T->En->Rs En)(F:En->Rs Fl)(Z:En):Rs Fl:=do
 let ts <-fi Z
 match bj g F ts Z with
 | .ok f=> .ok f
 | _=> .bad
theorem jU {α:Type}{t:Sem α}{Q:α->HB->Prop}{s:HB}{E:HA->HB->Prop}{P:H0}{w:IP}{A:Iu}(h:wpAny (model P w) A t Q (λ_ _=>False) s):wpAny (model P w) A t Q E s:=J3 h (λ_ _ q=>q) λ_ _ z=>z.elim
theorem AQ {tg iter:Expr}{body:List Stmt}{wi:TI}{g:TG}{tb:TS}{pos:Pos}(hc:X.calm=true)(hi:PI X tg iter wi)(hg:PG X.nox tg g)(hb:PSs X.nox body tb)
  (hs:∀x,Jk iter X.env x=pure x:=by intro _;rfl):PS X (.For tg iter body [] pos) (tFor wi g tb):=by
 intro pins s σ H D I h;refine wpAny_For (bR (hi pins s σ H _ I h) λv s1 h1=>bR h1 λitv s2 h2=> ?_) hs
 obtain⟨it,fp,tn,J,H2,e,I2,T,st2,f2,W,⟨m0,w0⟩,turn⟩:=h2;subst e
 have stat:∀{H':Hp},(∀b∈fp,H' b=none)->∀b∈fp,mV X pins H' b:=λhn b hb=>⟨hn b hb,(f2 b hb).2⟩
 refine codeAny_forLoop_any (λn s'=> ∃i σ' H',Inv X pins σ' H' s'/\tn i s'.heap/\(∀b∈fp,H' b=none)/\W i n σ' H') ?_ m0 ⟨0,σ,H2,I2,st2,λb hb=>(f2 b hb).1,w0⟩
 rintro n s3 ⟨i,σ3,H3,I3,st3,fr3,w3⟩
 rcases turn i n σ3 H3 w3 with⟨stop,qn⟩ | ⟨go,N,hN,step⟩
 ·refine jU (bR (T.done X.nox rfl rfl rfl hc i pins s3 σ3 H3 _ (I3.FM _) (stat fr3) st3 stop) λr s4 ⟨hr,I4⟩=> ?_)
  subst hr;exact Mc ⟨σ3,H3,I4.FM _,qn⟩
 ·refine jU (bR (T.item X.nox rfl rfl rfl hc i pins s3 σ3 H3 _ (I3.FM _) (stat fr3) st3 go) λr s4 ⟨u,hr,h4⟩=> ?_)
  subst hr;refine jU (bR h4 λ_ s5 hh_=> ?_)
  obtain⟨x,H5,I5,r5,y5,st5,fr5⟩:=hh_
  have I5':=Inv.pinned (X:=X.nox) I5 (stat fr5) (T.obj _ _ st5);refine jU (bR (hg _ s5 σ3 H5 x u _ I5' r5 (step x H5 y5)) λ_ s6 hh_=> ?_)
  obtain⟨σ6,H6,I6,q6⟩:=hh_;refine jU (bR (hb _ s6 σ6 H6 _ I6 q6) λf s7 q7=> ?_)
  have again:∀{σ7:L2.St} {H7:Hp},Inv X.nox (pins++lI fp s5.heap) σ7 H7 s7->N σ7 H7->∃m,m<n/\∃i σ' H',Inv X pins σ' H' s7/\tn i s7.heap/\(∀b∈fp,H' b=none)/\W i m σ' H':=λ{σ7 H7} I7 n7=>by
   obtain⟨m',hm,w7⟩:=hN σ7 H7 n7;refine⟨m',hm,i+1,σ7,H7,(Inv.GP (X:=X.nox) I7).FM _,T.keep _ _ _ st5 λb hb o e=>(I7.pin (b,o) (Iz _ (Iz _ (fQ hb e)))).1,λb hb=> ?_,w7⟩
   obtain⟨o,e,d⟩:=T.obj _ _ st5 b hb;exact(I7.pin (b,o) (Iz _ (Iz _ (fQ hb e)))).2.1
  cases f with
  | next=>obtain⟨σ7,H7,I7,n7⟩:=q7;exact again I7 n7
  | cont=>obtain⟨σ7,H7,I7,n7⟩:=q7;exact again I7 n7
  | brk=>obtain⟨σ7,H7,I7,q7⟩:=q7;exact⟨σ7,H7,(Inv.GP (X:=X.nox) I7).FM _,q7⟩
  | ret v=>obtain⟨x7,σ7,H7,I7,r7,q7⟩:=q7;exact⟨x7,σ7,H7,(Inv.GP (X:=X.nox) I7).FM _,r7,q7⟩
theorem CT {tg iter:Expr}{body:List Stmt}{fi:En->Rs (List T)}{g:T->En->Rs En}{F:En->Rs Fl}(hc:X.calm=true)(hi:BQ X tg iter fi)(hg:Cj X.nox tg g)(hb:kL X.nox body F)
  (hs:∀x,Jk iter X.env x=pure x:=by intro _;rfl):oA X (.For tg iter body [] pos) (gu fi g F):=PS.imp (AQ hc hi hg hb hs) λD σ H hh_=>by
 obtain⟨Z,B,M,E,h⟩:=hh_;refine⟨Z,OO B M,E.o,?_⟩
 unfold gu at h
 cases q:fi Z with
 | bad=>rw[q]at h;exact h.elim
 | err c=>rw[q]at h;exact PostF.xa h
 | ok ts=>
  rw[q,aB]at h
  cases qq:bj g F ts Z with
  | bad=>rw[qq]at h;exact h.elim
  | err c=>rw[qq]at h;exact h.elim
  | ok fin=>
  rw[qq]at h;intro H1 s1 J hJ
  have E1:Ev X.K B M H1 Z σ:=E.same s1
  have h1:PostF X B M.u H1 (.ok fin) D:=PostF.later h (SameO.of s1) λa z=> .inl z
  refine⟨λi m σ' H'=>m=ts.length - i/\i<=ts.length/\SameO M.u H1 H'/\∃Z' M',Ev X.K B M' H' Z' σ'/\(∀a,M'.u a->M.u a\/Nw X.K H1 a)/\bj g F (ts.drop i) Z'= .ok fin,
   ⟨ts.length,by omega,IC _,λ_ _ e _=>e,Z,M,E1,λa z=> .inl z,by simpa using qq⟩,?_⟩
  rintro i m σ' H' ⟨rfl,hi',sm,Z',M',E',ow,hl⟩
  have it:=hJ M.u (OO B M') (λa z=> .inl (.inr z)) (λa z=>z.elim (λw=> .inl (.inl w)) λw=>(ow a w).elim (λy=> .inl (.inr y)) .inr) i H' sm (λa z=>(E'.env.trk a z).some)
  by_cases hlt:i<ts.length
  ·have hti:ts[i]? =some ts[i]:=by simp
   obtain⟨go,yl⟩:=it.2 ts[i] hti;rw[Jo hlt]at hl;unfold bj at hl;refine .inr ⟨go,λσ2 H2=> ∃m',m'<ts.length - i/\(m'=ts.length - (i+1)/\i+1<=ts.length/\SameO M.u H1 H2/\∃Z2 M2,Ev X.K B M2 H2 Z2 σ2/\(∀a,M2.u a->M.u a\/Nw X.K H1 a)/\bj g F (ts.drop (i+1)) Z2= .ok fin),λσ2 H2 z=>z,λx Hc y=> ?_⟩
   obtain⟨sc,rx⟩:=yl x Hc y;refine⟨Z',OO B M',M',ts[i],E'.env.same sc,rx,?_⟩
   cases e1:g ts[i] Z' with
   | bad=>rw[e1]at hl;cases hl
   | err cc=>rw[e1]at hl;cases hl
   | ok Z1=>
    rw[e1,aB]at hl;intro σ1 Eg
    have E2:Ev X.K B M' Hc Z1 σ1:=⟨Eg,E'.mine⟩;refine⟨Z1,B,M',E2,?_⟩
    have smc:SameO M.u H1 Hc:=λb o e n=>sc _ _ (sm b o e n)
    have onward:∀{σ3:L2.St} {H3:Hp} {Z3:En} {M3:Mn},SameO M'.u Hc H3->Ev X.K B M3 H3 Z3 σ3->(∀a,M3.u a->M'.u a\/Nw X.K Hc a)->bj g F (ts.drop (i+1)) Z3= .ok fin →
      ∃m',m'<ts.length - i/\(m'=ts.length - (i+1)/\i+1<=ts.length/\SameO M.u H1 H3/\∃Z2 M2,Ev X.K B M2 H3 Z2 σ3/\(∀a,M2.u a->M.u a\/Nw X.K H1 a)/\bj g F (ts.drop (i+1)) Z2= .ok fin):=
     λ{σ3 H3 Z3 M3} s3 E3 o3 p3=>⟨_,by omega,rfl,hlt,smc.trans s3 ow,Z3,M3,E3,λa z=>(o3 a z).elim (ow a) (fP smc),p3⟩
    cases e2:F Z1 with
    | bad=>rw[e2]at hl;cases hl
    | err cc=>rw[e2]at hl;cases hl
    | ok f=>
     rw[e2,aB]at hl
     cases f with
     | nx Z2=>exact λσ3 H3 M3 s3 E3 o3=>onward s3 E3 o3 hl
     | ct Z2=>exact λσ3 H3 M3 s3 E3 o3=>onward s3 E3 o3 hl
     | bk Z2=>
      cases hl
      exact λσ3 H3 M3 s3 E3 o3=>h1 σ3 H3 M3 (smc.trans s3 ow) E3 λa z=>(o3 a z).elim (ow a) (fP smc)
     | rt t=>
      cases hl;exact λv H3 s3 r=>h1 v H3 (smc.trans s3 ow) r
  ·refine .inl ⟨it.1 (by omega),?_⟩
   have hi2:i=ts.length:=by omega
   subst hi2;rw[Po]at hl;cases hl;exact h1 σ' H' M' sm E' ow
def ba (c:En->Rs Bool)(F:En->Rs Fl):Nat->En->Rs Fl
 | 0,_=> .bad
 | n+1,Z=>match c Z with
  | .ok false=> .ok (.nx Z)
  | .ok true=>match F Z with
   | .ok (.nx Z')=>ba c F n Z'
   | .ok (.ct Z')=>ba c F n Z'
   | .ok (.bk Z')=> .ok (.nx Z')
   | .ok (.rt t)=> .ok (.rt t)
   | _=> .bad
  | _=> .bad
theorem xt {c:Expr}{body:List Stmt}{fc:En->Rs Bool}{F:En->Rs Fl}(n:Nat)(hc:sr X.nox c fc)(hb:kL X.nox body F):oA X (.While c body [] pos) (ba fc F n):=by
 have base:PS X.nox (.While c body [] pos) (sA (wO X.nox fc) (Gw X.nox F)):=xG PassesOwn.never hc hb;intro pins s σ H D I ⟨Z,B,M,E,h⟩
 cases qq:ba fc F n Z with
 | bad=>rw[qq]at h;exact h.elim
 | err c=>
  exfalso
  have:∀n Z,ba fc F n Z≠ .err c:=by
   intro n
   induction n with
   | zero=>intro Z z;cases z
   | succ n ih=>
    intro Z z;unfold ba at z
    split at z
    ·cases z
    ·split at z <;> first | exact ih _ z | cases z
    ·cases z
  exact this n Z qq
 | ok fin=>
  rw[qq]at h
  have goal:sA (wO X.nox fc) (Gw X.nox F) D σ H:=by
   refine⟨λm σ' H'=>SameO M.u H H'/\∃Z' M',Ev X.K B M' H' Z' σ'/\(∀a,M'.u a->M.u a\/Nw X.K H a)/\ba fc F m Z'= .ok fin,⟨n,λ_ _ e _=>e,Z,M,E,λa z=> .inl z,qq⟩,?_⟩
   rintro m σ' H' ⟨sm,Z',M',E',ow,hl⟩
   cases m with
   | zero=>cases hl
   | succ m=>
    refine⟨Z',OO B M',E'.o,?_⟩
    unfold ba at hl
    cases e1:fc Z' with
    | bad=>rw[e1]at hl;cases hl
    | err cc=>rw[e1]at hl;cases hl
    | ok k=>
     rw[e1]at hl;intro H2 s2
     have E2:Ev X.K B M' H2 Z' σ':=E'.same s2
     have sm2:SameO M.u H H2:=λb o e n=>s2 _ _ (sm b o e n)
     cases k with
     | false=>
      cases hl;refine L2.iteF ?_
      exact h σ' H2 M' sm2 E2 ow
     | true=>
      refine L2.iteT ?_
      refine⟨λσ3 H3=>SameO M.u H H3/\∃Z3 M3,Ev X.K B M3 H3 Z3 σ3/\(∀a,M3.u a->M.u a\/Nw X.K H a)/\ba fc F m Z3= .ok fin,λσ3 H3 z=>⟨m,KU m,z⟩,Z',B,M',E2,?_⟩
      have hl':(match F Z' with | .ok (.nx Z')=>ba fc F m Z' | .ok (.ct Z')=>ba fc F m Z' | .ok (.bk Z')=> .ok (.nx Z') | .ok (.rt t)=> .ok (.rt t) | _=> .bad)= .ok fin:=hl
      cases e2:F Z' with
      | bad=>rw[e2]at hl';cases hl'
      | err cc=>rw[e2]at hl';cases hl'
      | ok f=>
       rw[e2]at hl'
       cases f with
       | nx Z2=>exact λσ3 H3 M3 s3 E3 o3=>⟨sm2.trans s3 ow,Z2,M3,E3,λa z=>(o3 a z).elim (ow a) (fP sm2),hl'⟩
       | ct Z2=>exact λσ3 H3 M3 s3 E3 o3=>⟨sm2.trans s3 ow,Z2,M3,E3,λa z=>(o3 a z).elim (ow a) (fP sm2),hl'⟩
       | bk Z2=>
        cases hl'
        exact λσ3 H3 M3 s3 E3 o3=>h σ3 H3 M3 (sm2.trans s3 ow) E3 λa z=>(o3 a z).elim (ow a) (fP sm2)
       | rt t=>
        cases hl';exact λv H3 s3 r=>h v H3 (sm2.trans s3 ow) r
  refine jU (bR (base pins s σ H D (I.FM _) goal) λf s' q=> ?_)
  cases f with
  | next=>obtain⟨σ7,H7,I7,n7⟩:=q;exact⟨σ7,H7,I7.FM _,n7⟩
  | cont=>obtain⟨σ7,H7,I7,n7⟩:=q;exact⟨σ7,H7,I7.FM _,n7⟩
  | brk=>obtain⟨σ7,H7,I7,n7⟩:=q;exact⟨σ7,H7,I7.FM _,n7⟩
  | ret v=>obtain⟨x7,σ7,H7,I7,r7,q7⟩:=q;exact⟨x7,σ7,H7,I7.FM _,r7,q7⟩
def B0 (Z:En):Rs Fl:=.ok (.ct Z)
end
def bh (F:En->Rs Fl)(Z:En):Rs T:=do
 let f <-F Z
 match f with
 | .nx _=> .ok .non
 | .rt t=> .ok t
 | _=> .bad
def aK (n:Nat)(ts:List T):En:=ts.map Sl.va++Ib (n - ts.length) Sl.em
theorem vo {n:Nat}{ts:List T}{i:Nat}{o:OT}(e:(aK n ts)[i]? =some (.ow o)):False:=by
 unfold aK at e
 by_cases hi:i<ts.length
 ·rw[Ka (by simpa using hi),Ij,HG hi]at e
  cases e
 ·rw[KJ (by simpa using hi),K8]at e
  split at e <;> cases e
theorem nC {K:Hy}{O:Ow}{H:Hp}{N:List Str}{ts:List T}{vs:List V}(r:Reps K O H ts vs)(hl:ts.length<=N.length)(trk:∀a,O a->Mtb H a):Ev K O noM H (aK N.length ts) (start N vs):=by
 have hlen:=r.length
 have sub:∀a,OO O noM a->O a:=λa z=>z.elim id λ⟨_,w⟩=>w.elim
 refine⟨⟨by unfold aK L2.start;simp;omega,λi t e=> ?_,λi o e=>(vo e).elim,λ_ _ z=>z.elim,λ_ _ _ z=>z.elim,λa z=>trk a (sub a z)⟩,λa ⟨_,z⟩=>z.elim⟩
 unfold aK at e;unfold L2.start
 by_cases hi:i<ts.length
 ·rw[Ka (by simpa using hi),Ij,HG hi]at e
  have e':ts[i] =t:=by injection e with e;injection e
  obtain⟨v,e1,e2⟩:=r.get (i:=i) (t:=t) (by rw[<-e'];simp)
  refine⟨v,?_,e2.less sub⟩
  rw[Ka (by simp;omega),Ij,e1];rfl
 ·rw[KJ (by simpa using hi),K8]at e
  split at e <;> cases e
section
variable {P:H0}{w:IP}{K:Hy}{mg:Str->Option HA}{base:Heap}
theorem F5 {x qual:Str}{st:Stmt}{f:Addr}{fd:JN}{N ps:List Str}{k n:Nat}{g:List T->Rs T}(Fn:L2.Fun K x qual st f fd)(S:ay N ps (aj st))(hn:ps.length=n)
  (hbody:∀(cdv:HA),fd.code=cdv->∀(A:Iu) (outer:List Env) (s:HB) (H:Hp) (E:XK),Room k (A.deeper (envOfC qual (aj st) s.heap.objs.size f cdv)) →
   ∃F,kL (gI CX0 P w K mg base N qual (aj st) f cdv A outer s H E).nox (cJ st) F/\∀ts,ts.length=n->∀t,g ts= .ok t->bh F (aK N.length ts)= .ok t):qw P w K mg base CX0 (k+1) f fd ps (spP K n g):=by
 have hpl:ps.length<=N.length:=by have:=congrArg Kw S.pre;rw[J1]at this;omega
 refine Fn.ok S (λvs H Q E h=> ?_) (λcdv hcv A outer s H vs Q E hr h=> ?_)
 ·obtain⟨ts,O,r,_,hl,_⟩:=h
  rw[<-r.length,hl,hn]
 ·obtain⟨ts,O,r,trk,hl,h⟩:=h
  obtain⟨F,hF,hv⟩:=hbody cdv hcv A outer s H E hr;refine⟨_,hF,aK N.length ts,O,noM,nC r (by omega) trk,?_⟩
  have no:∀a,¬noM.u a:=λa ⟨_,z⟩=>z
  cases q:g ts with
  | bad=>rw[q]at h;exact h.elim
  | err c=>rw[q]at h;exact h.elim
  | ok t=>
   rw[q]at h
   have hb:=hv ts hl t q;unfold bh at hb
   cases q2:F (aK N.length ts)with
   | bad=>rw[q2]at hb;cases hb
   | err c=>rw[q2]at hb;cases hb
   | ok fl=>
    rw[q2,aB]at hb
    have sameOf:∀H',SameO noM.u H H'->Same H H':=λH' s b o e=>s b o e (no b)
    cases fl with
    | nx Z'=>cases hb;exact λσ' H' M' s' E' o'=>h .non H' (sameOf H' s') Rep.Hf
    | rt t'=>cases hb;exact λv H' s' r'=>h v H' (sameOf H' s') r'
    | bk Z'=>cases hb
    | ct Z'=>cases hb
end
end Tr
namespace Enu
open PySem
open AutoSeq1 (wpAny_loadPart')
section
variable {prog:H0}{w:IP}{A:Iu}{E:HA->HB->Prop}{s:HB}
theorem Ad {it tt:Addr}{k:Nat}{its:Array HA}{x:HA}{Q:HA->HB->Prop}(hi:s.heap.IsTupleIter it tt k)(ht:s.heap.IsTuple tt its)(hx:its[k]? =some x)
  (hQ:∀h',h'.IsTupleIter it tt (k+1)->K2 it s.heap h'->Q x { s with heap:=h' }):wpAny (model prog w) A (J9 (.ref it)) Q E s:=by
 obtain⟨ob,g1,g2,g3⟩:=id hi;obtain⟨ot,k1,_,m,k3⟩:=ht;unfold J9;refine Hw (Jj (name:=HW "__next__") hi.typeIs J0 (Jh J0 hi.typeIs L8 ?_ (LV _)))
 show wpAny (model prog w) _ (field (.ref it) 0 >>= _) _ _ s
 refine Hw (K0 g1 g3 (x:=.ref tt) rfl ?_)
 show wpAny (model prog w) _ (if (Iv tt == IE)=true then _ else _) _ _ s
 rw[if_neg (show ¬((Iv tt == IE)=true)by exact Ig)]
 show wpAny (model prog w) _ (field (.ref it) 1 >>= _) _ _ s
 refine Hw (K0 g1 g3 (x:=.int k 0) rfl ?_)
 show wpAny (model prog w) _ (seqItems? (.ref tt) >>= _) _ _ s
 refine Hw (NV k1 k3 ?_)
 simp only[hx,IM];refine Hw (Ly g1 g3 (by simp) (HF ⟨x,rfl,HF (hQ _ ?_ (JU ..))⟩))
 refine⟨_,JJ _ g1 (LF (J5 g3 _)),(MF ..).trans g2,?_⟩
 rw[J5 g3];simp[rawInt]
theorem tupStop {it tt:Addr}{k:Nat}{its:Array HA}{Q:HA->HB->Prop}(hh:A.handled=none)(hi:s.heap.IsTupleIter it tt k)(ht:s.heap.IsTuple tt its)(hx:its[k]? =none)
  (hE:∀h' e,PM it s.heap h'->(∃o,h'.get? e=some o/\o.cls= .type "StopIteration")->E (.ref e) { s with heap:=h' }):wpAny (model prog w) A (J9 (.ref it)) Q E s:=by
 obtain⟨ob,g1,g2,g3⟩:=id hi;obtain⟨ot,k1,_,m,k3⟩:=ht;unfold J9;refine Hw (Jj (name:=HW "__next__") hi.typeIs J0 (Jh J0 hi.typeIs L8 ?_ (LV _)))
 show wpAny (model prog w) _ (field (.ref it) 0 >>= _) _ _ s
 refine Hw (K0 g1 g3 (x:=.ref tt) rfl ?_)
 show wpAny (model prog w) _ (if (Iv tt == IE)=true then _ else _) _ _ s
 rw[if_neg (show ¬((Iv tt == IE)=true)by exact Ig)]
 show wpAny (model prog w) _ (field (.ref it) 1 >>= _) _ _ s
 refine Hw (K0 g1 g3 (x:=.int k 0) rfl ?_)
 show wpAny (model prog w) _ (seqItems? (.ref tt) >>= _) _ _ s
 refine Hw (NV k1 k3 ?_)
 simp only[hx,IM];refine Hw (KH (Hw (Ly g1 g3 (by simp) ?_)))
 show wpAny (model prog w) _ (newExc (.type "StopIteration") [] >>= _) _ _ _
 refine Hw ?_
 simp only[newTuple,newExc];refine Hw (IQ ?_ (by size_fits))
 refine Hw (m:=Mz _ _) (P5 (a:=IE) (by first | (simp only[Mz];rfl) | rfl) ?_)
 refine IQ ?_ (by size_fits)
 simp only[raiseNew];refine Hw (wpAny_handled ?_)
 first | rw[hh] | rw[show A.in1.handled=none from hh]
 refine Hw (HF (wpAny_throw ?_))
 refine hE _ _ (((JU ..).extBut.push _).push _) ⟨_,HR _ rfl,rfl⟩
end
theorem tupDraws {prog:H0}{w:IP}{A:Iu}(hh:A.handled=none)(it tt:Addr)(hne:tt≠it)(its:Array HA) :
  Draws prog w A it [it,tt] its.size (λi v=>its[i]? =some v) (λi h=>h.IsTupleIter it tt i/\h.IsTuple tt its) where
 live:=λ_ _ st=>by obtain⟨o,ho,_⟩:=st.1;exact⟨o,ho⟩
 frame:=λ_ _ _ st hk=>by
  obtain⟨⟨o,e,r⟩,⟨o',e',r'⟩⟩:=st;exact⟨⟨o,hk it (by simp) o e,r⟩,⟨o',hk tt (by simp) o' e',r'⟩⟩
 item:=λi s Q E hi st hQ=>by
  refine Ad st.1 st.2 (x:=its[i]) (by simp[hi]) λh' hit' hs'=> ?_
  obtain⟨o',e',r'⟩:=st.2;exact hQ _ h' s.toks (by simp[hi]) ⟨hit',⟨o',(hs'.2 tt hne).trans e',r'⟩⟩ hs'
 done:=λs Q E st hE=>tupStop hh st.1 st.2 (by simp) hE
theorem newT (l:Addr)(items:Array HA)(n:Nat)(dct:Option Addr)(sl:Array (Option HA)) :
  Meets (Builtin.«enumerate.__new__» ⟨[.type "enumerate",.ref l],[]⟩) (λ_ R s=>s.heap.get? l=some { cls:=.type "tuple",dict:=dct,data:=.seq items n,slots:=sl } ∧
   R (.ok (.ret (.ref (s.heap.push { cls:=.type "tuple_iterator",data:=.fields #[.ref l,.int 0 0] }).objs.size)))
    { s with heap:=(s.heap.push { cls:=.type "tuple_iterator",data:=.fields #[.ref l,.int 0 0] }).push { cls:=.type "enumerate",data:=.fields #[.none,.bool false,.ref s.heap.objs.size,rawInt 0,.none,.none] } }):=
 .of_wp λprog w A R s h=>by
  obtain⟨hp,g,d,tk,os⟩:=s;obtain⟨hl,h⟩:=h
  have hsub:=sub_enumerate
  have hT:Heap.IsTuple (Shared.heap ⟨hp,g,d,tk,os⟩) l items:=⟨_,hl,rfl,n,rfl⟩
  wp_walk using Il hl
  refine wpAny_stack_any λst=>HF ?_
  split
  ·rename_i c _ _ _ _ _
   cases (c == JB "enumerate")
   ·wp_walk using Il hl,Lc hT
    exact⟨_,rfl,h⟩
   ·wp_walk using Il hl,Lc hT
    exact⟨_,rfl,h⟩
  ·wp_walk using Il hl,Lc hT
   exact⟨_,rfl,h⟩
theorem callT {prog:H0}{w:IP}{A:Iu}{E:HA->HB->Prop}{s:HB}{l:Addr}{items:Array HA}{Q:HA->HB->Prop}(hL:s.heap.IsTuple l items)
  (h:∀h',IsEnum h' (s.heap.objs.size+1) s.heap.objs.size 0 .none->h'.IsTupleIter s.heap.objs.size l 0->h'.objs.size=s.heap.objs.size+2 →
   (∀b o,s.heap.get? b=some o->h'.get? b=some o)->Q (.ref (s.heap.objs.size+1)) { s with heap:=h' }):wpAny (model prog w) A (call (.type "enumerate") [.ref l]) Q E s:=by
 obtain⟨⟨cc,dc,dd,ss⟩,hl,hc,n,hd⟩:=hL
 replace hc:cc= .type "tuple":=hc
 replace hd:dd= .seq items n:=hd
 subst hc hd;refine callType_new F.called_enumerate (by decide) (F.typeCall_enumerate_1 _) (F.newCall_enumerate_1 _) (λobj=>F.args_object_init_2 obj _) F.entry_enumerate_new (newT l items n dc ss) ⟨hl,?_⟩
 have hz:(s.heap.push { cls:=.type "tuple_iterator",data:=.fields #[.ref l,.int 0 0] }).objs.size=s.heap.objs.size+1:=Kb ..
 show _/\_
 rw[hz]
 have he:IsEnum ((s.heap.push { cls:=.type "tuple_iterator",data:=.fields #[.ref l,.int 0 0] }).push
   { cls:=.type "enumerate",data:=.fields #[.none,.bool false,.ref s.heap.objs.size,rawInt 0,.none,.none] }) (s.heap.objs.size+1) s.heap.objs.size 0 .none:=by
  have q:=HR (s.heap.push { cls:=.type "tuple_iterator",data:=.fields #[.ref l,.int 0 0] })
   (o:={ cls:=.type "enumerate",data:=.fields #[.none,.bool false,.ref s.heap.objs.size,rawInt 0,.none,.none] }) rfl
  rw[hz]at q;exact q
 refine⟨⟨_,he,rfl⟩,h _ he ⟨_,HC _ (HR _ rfl),rfl,rfl⟩ (by rw[Kb,hz]) λb o x=>HC _ (HC _ x)⟩
end Enu
namespace L2
open PySem PySem.Spec PyProof.Rows
section
variable {X:Cx}{pins:List (Addr×Obj)}{σ:L2.St}{H:Hp}{s:HB}{h':Heap}
theorem Inv.G8 {t':Nat}{fp:List Addr}{Tp:Addr}{xs:List V}(I:Inv X pins σ H s)(hf:∀b∈fp,mV X pins H b)(k:∀b o,b∉fp->s.heap.get? b=some o->h'.get? b=some o)
  (ht:∀b∈fp,∃o,h'.get? b=some o) (hT:s.heap.objs.size<=Tp) (new:ObjOk X.prog X.w (upd H Tp (.tup xs)) h' Tp (.tup xs)):Inv X pins σ (upd H Tp (.tup xs)) { s with heap:=h',toks:=t' }:=by
 have hn:H Tp=none:=I.hok.fresh hT
 have l9:∀b o,s.heap.get? b=some o->b≠Tp:=λb o e=>HZ (HJ (HM e) hT)
 have nf:∀b u,H b=some u->b∉fp:=λb u e z=>by rw[(hf b z).1]at e;cases e
 refine I.step (g':=s.gens) (d':=s.drawn) (ch:=fp) (λb hb=>⟨(hf b hb).2.2.2.1,(hf b hb).2.1,(hf b hb).2.2.2.2.1,(hf b hb).2.2.2.2.2⟩) (λb o _ _ hc e _=>k b o hc e) (λb o _ _ hc e _=>⟨o.slots,k b o hc e⟩)
  (λb o _ e n=>by rw[aJ (l9 b o e)];exact n) (λb o hc e=>⟨o,k b o hc e⟩) (λb ys e=>by rw[aJ (bz e hn)];exact e) (λb o u e=>by rw[aJ (bz e hn)];exact e)
  (λb ps e=>(by rw[aJ (bz e hn),e])) (λm hm=> ?_) (λb u e=> ?_) I.bare
 ·obtain⟨o,es,ep,ho,r⟩:=hm
  exact⟨o,es,ep,k _ o (λz=>(hf _ z).2.1 rfl) ho,r⟩
 ·by_cases hb:b=Tp
  ·subst hb;rw[aV]at e;cases e;exact new
  ·rw[aJ hb]at e
   refine(I.hok b u e).GT (λc v hc q=>k c v ?_ q) (λc q=>by rw[aJ (bz q hn)];exact q) λc ys q=>by rw[aJ (bz q hn)];exact q
   rcases hc with z | z
   ·rw[z];exact nf b u e
   ·exact nf c _ z
theorem Inv.GV {t':Nat}{fp:List Addr}(I:Inv X pins σ H s)(hf:∀b∈fp,mV X pins H b)(k:∀b o,b∉fp->s.heap.get? b=some o->h'.get? b=some o):Inv X pins σ H { s with heap:=h',toks:=t' }:=by
 have nf:∀b u,H b=some u->b∉fp:=λb u e z=>by rw[(hf b z).1]at e;cases e
 refine I.step (g':=s.gens) (d':=s.drawn) (ch:=fp) (λb hb=>⟨(hf b hb).2.2.2.1,(hf b hb).2.1,(hf b hb).2.2.2.2.1,(hf b hb).2.2.2.2.2⟩) (λb o _ _ hc e _=>k b o hc e) (λb o _ _ hc e _=>⟨o.slots,k b o hc e⟩)
  (λb o _ e n=>n) (λb o hc e=>⟨o,k b o hc e⟩) (λb ys e=>e) (λb o u e=>e)
  (λb ps e=>(by rw[e])) (λm hm=> ?_) (λb u e=> ?_) I.bare
 ·obtain⟨o,es,ep,ho,r⟩:=hm
  exact⟨o,es,ep,k _ o (λz=>(hf _ z).2.1 rfl) ho,r⟩
 ·refine(I.hok b u e).GT (λc v hc q=>k c v ?_ q) (λc q=>q) λc ys q=>q
  rcases hc with z | z
  ·rw[z];exact nf b u e
  ·exact nf c _ z
end
def z6 (K:Hy)(H:Hp)(a:Addr)(tt:Bool)(xs:List V):Prop:=if tt then SqT K H a xs else SqL K H a xs
def GH (K:Hy)(a:Addr)(tt:Bool):It:=
 ⟨λi H=> ∃xs x,z6 K H a tt xs/\xs[i]? =some x,λi H x H'=> ∃p v,x= .ref p/\H p=none/\H'=upd H p (.tup [.int (i:Nat),v])/\∀xs,z6 K H a tt xs->xs[i]? =some v,λi H=> ∃xs,z6 K H a tt xs/\xs.length<=i⟩
def itAt (tt:Bool)(h:Heap)(it a:Addr)(i:Nat):Prop:=if tt then h.IsTupleIter it a i else h.IsListIter it a i
theorem itAt.obj {tt:Bool}{h:Heap}{it a:Addr}{i:Nat}(st:itAt tt h it a i):∃o,h.get? it=some o/\∀v,o.data≠ .cell v:=by
 cases tt with
 | true=>obtain⟨o,e,c,d⟩:=(show h.IsTupleIter it a i from st);exact⟨o,e,λv z=>by rw[d]at z;cases z⟩
 | false=>obtain⟨o,e,c,d⟩:=(show h.IsListIter it a i from st);exact⟨o,e,λv z=>by rw[d]at z;cases z⟩
theorem itAt.keep {tt:Bool}{h h':Heap}{it a:Addr}{i:Nat}(st:itAt tt h it a i)(k:∀o,h.get? it=some o->h'.get? it=some o):itAt tt h' it a i:=by
 cases tt with
 | true=>obtain⟨o,e,r⟩:=(show h.IsTupleIter it a i from st);exact(show h'.IsTupleIter it a i from⟨o,k o e,r⟩)
 | false=>obtain⟨o,e,r⟩:=(show h.IsListIter it a i from st);exact(show h'.IsListIter it a i from⟨o,k o e,r⟩)
theorem vn {P:H0}{w:IP}{K:Hy}{elts:List Expr}{kk:Nat}{pos:Pos}(tt:Bool)(a e it:Addr)(hei:e≠it) :
  zQ P w K (.Tuple elts kk pos) (GH K a tt) [e,it] e (λi h=>(∃old,IsEnum h e it i old)/\itAt tt h it a i) where
 mem:=by simp
 obj:=λi h st b hb=>by
  obtain⟨⟨old,he⟩,hi⟩:=st;rcases HS.mp hb with rfl | hb
  ·exact⟨_,he,λv z=>by have z':Data.fields _=Data.cell v:=z;cases z'⟩
  ·rw[Ia.mp hb];exact hi.obj
 keep:=λi h h' st k=>by
  obtain⟨⟨old,he⟩,hi⟩:=st;exact⟨⟨old,k e (by simp) _ he⟩,hi.keep λo q=>k it (by simp) o q⟩
 item:=by
  intro X hP hw hK hc i pins s σ H E I hf st hg;subst hP hw hK;obtain⟨xs,x,hq,hx⟩:=hg;obtain⟨⟨old,he⟩,hi⟩:=st
  -- by what is walked
  have key:∀(its:List HA),Vals xs its->(∀ys,z6 X.K H a tt ys->ys=xs)->∀(fp0:List Addr) (St:Nat->Heap->Prop),Draws X.prog X.w X.A.in1 it fp0 its.toArray.size (λi v=>its.toArray[i]? =some v) St->e∉fp0->it∈fp0->St i s.heap →
    (∀h',St (i+1) h'->itAt tt h' it a (i+1)) →
    wpAny (model X.prog X.w) X.A (pyNext (.ref e)) (λr s1=> ∃u,r=some u/\wpAny (model X.prog X.w) X.A (Lb (.Tuple elts kk pos) (.ref e) u) (λ_ s2=> ∃x' H',Inv X pins σ H' s2/\RelV x' u/\(GH X.K a tt).yld i H x' H' ∧
     ((∃old,IsEnum s2.heap e it (i+1:Nat) old)/\itAt tt s2.heap it a (i+1))/\∀b∈ [e,it],H' b=none) E s1) E s:=by
   intro its rv uniq fp0 St D hef hif hst hnext;obtain⟨u,hu,ru⟩:=rv.get hx
   have hlt:i<its.toArray.size:=by
    have:=(HN.mp hu).1
    simpa using this
   have W:=WalksT.enumerateD D e hei hef hif;refine W.item i s _ _ hlt ⟨⟨old,he⟩,hst⟩ λTp vals h1 tk hPt hTsz hTup hMid hk=>⟨.ref Tp,rfl,?_⟩
   refine W.go elts kk pos i Tp { s with heap:=h1,toks:=tk } _ _ hMid λh2 hst2 hk2=> ?_
   obtain⟨t,x',hPx,hvals⟩:=hPt;subst hvals
   have hxe:x'=u:=by
    have h1':its.toArray[i]? =some x':=hPx
    have h2':its.toArray[i]? =some u:=by simpa using hu
    rw[h1']at h2';exact Ip h2'
   subst hxe
   have hTw:=W.apart i Tp h1 hMid;obtain⟨oT,eT,rT⟩:=hTup
   have eT2:h2.get? Tp=some oT:=hk2 Tp oT hTw eT
   have kAll:∀b o,b∉ [e,it]->s.heap.get? b=some o->h2.get? b=some o:=λb o hb q=>hk2 b o hb (hk b o hb q)
   obtain⟨⟨old2,he2⟩,hs2⟩:=hst2
   have hit2:=hnext h2 hs2
   have there:∀b∈ [e,it],∃o,h2.get? b=some o:=λb hb=>by
    rcases HS.mp hb with rfl | hb
    ·exact⟨_,he2⟩
    ·rw[Ia.mp hb];obtain⟨o,q,_⟩:=hit2.obj;exact⟨o,q⟩
   have hn:H Tp=none:=I.hok.fresh hTsz
   have new:ObjOk X.prog X.w (upd H Tp (.tup [.int (i:Nat),x])) h2 Tp (.tup [.int (i:Nat),x]):=
    ⟨by show 2<=sizeLine;decide,[.int (i:Nat) t,x'],.cons ⟨t,rfl⟩ (.cons ru .nil),⟨oT,eT2,rT⟩⟩
   have I2:=I.G8 (t':=tk) hf kAll there hTsz new;refine⟨.ref Tp,_,I2,rfl,⟨Tp,x,rfl,hn,rfl,λys hy=>by rw[uniq ys hy];exact hx⟩,⟨⟨old2,he2⟩,hit2⟩,λb hb=> ?_⟩
   have hbT:b≠Tp:=λz=>by
    obtain⟨o,q⟩:∃o,s.heap.get? b=some o:=by
     rcases HS.mp hb with rfl | hb
     ·exact⟨_,he⟩
     ·rw[Ia.mp hb];obtain⟨o,q,_⟩:=hi.obj;exact⟨o,q⟩
    exact absurd (HJ (HM q) hTsz) (by rw[z];exact Iw _)
   rw[aJ hbT];exact(hf b hb).1
  have hne:∀b∈ [e,it],a≠b:=λb hb z=>by
   have hb':=(hf b hb).1;rw[<-z]at hb'
   have hbs:=hf b hb
   cases tt with
   | true=>
    have hq':SqT X.K H a xs:=hq;rcases hq' with(q | ⟨o,q⟩) | ⟨o,its,n,q,_⟩
    ·rw[hb']at q;cases q
    ·rw[hb']at q;cases q
    ·rcases hbs.2.2.2.1 with z1 | z1
     ·exact I.ok.noex a o (I.ok.mod.kin a o q) (z▸z1)
     ·exact absurd (HJ (HM (I.ok.bs a o (I.ok.mod.kin a o q)).1) (z▸z1)) (Iw _)
   | false=>
    have hq':SqL X.K H a xs:=hq;rcases hq' with(q | ⟨o,q⟩) | ⟨o,its,n,q,_⟩
    ·rw[hb']at q;cases q
    ·rw[hb']at q;cases q
    ·rcases hbs.2.2.2.1 with z1 | z1
     ·exact I.ok.noex a o (I.ok.mod.kin a o q) (z▸z1)
     ·exact absurd (HJ (HM (I.ok.bs a o (I.ok.mod.kin a o q)).1) (z▸z1)) (Iw _)
  have hea:e≠a:=λz=>hne e (by simp) z.symm
  have hia:it≠a:=λz=>hne it (by simp) z.symm
  cases tt with
  | true=>
   have hq':SqT X.K H a xs:=hq;obtain⟨its,rv,p,hz⟩:=I.tuple hq'
   exact key its rv (λys hy=>I.GU hy hq') _ _ (Enu.tupDraws (A:=X.A.in1) (I.ok.hd hc) it a (Mu hia) its.toArray) (by simp[hei,hea]) (by simp) ⟨hi,p⟩ λh' z=>z.1
  | false=>
   have hq':SqL X.K H a xs:=hq;obtain⟨its,rv,p,hz⟩:=I.list hq';exact key its rv (λys hy=>I.GW hy hq') _ _ (Draws.list (A:=X.A.in1) (I.ok.hd hc) it a (Mu hia) its.toArray) (by simp[hei,hea]) (by simp) ⟨hi,p.isList⟩ λh' z=>z.1
 done:=by
  intro X hP hw hK hc i pins s σ H E I hf st hg;subst hP hw hK;obtain⟨xs,hq,hx⟩:=hg;obtain⟨⟨old,he⟩,hi⟩:=st
  have fin:∀h',PM it s.heap h'->(none:Option HA)=none/\Inv X pins σ H { s with heap:=h' }:=λh' eb=>⟨rfl,I.GV (t':=s.toks) hf λb o hb q=>eb b o (λz=>hb (by simp[z])) q⟩
  cases tt with
  | true=>
   have hq':SqT X.K H a xs:=hq;obtain⟨its,rv,p,hz⟩:=I.tuple hq'
   have hl:=rv.length
   have hnone:its.toArray[i]? =none:=by simp;omega
   have hT:s.TypeIs (.ref e) "enumerate":=⟨_,he,rfl⟩;unfold pyNext;refine Hw (LY (Jj (name:=HW "__next__") hT Nq (Jh Nq hT F.entry_enumerate_next ?_ (F.args_enumerate_next_1 _))))
   show wpAny (model X.prog X.w) _ (field (.ref e) 2 >>= _) _ _ _
   refine Hw (K0 he rfl (x:=.ref it) rfl ?_)
   refine Hw (Enu.tupStop (I.ok.hd hc) hi p hnone λh' x he' hx'=> ?_)
   obtain⟨o,ho,hcl⟩:=hx'
   exact Hw (Nb (T:="StopIteration") (b:=true) ⟨o,ho,hcl⟩ isSubtype_stop (HF (fin h' he')))
  | false=>
   have hq':SqL X.K H a xs:=hq;obtain⟨its,rv,p,hz⟩:=I.list hq'
   have hl:=rv.length
   have hnone:its.toArray[i]? =none:=by simp;omega
   exact wpAny_pyNext_enum_end (I.ok.hd hc) he hi p.isList hnone fin
 self:=λ_ _ _ _ _ st h=>by
  obtain⟨⟨old,he⟩,_⟩:=st;exact O5 he h
section
variable {X:Cx}{elts:List Expr}{kk:Nat}{tpos:Pos}
theorem mM:Iq "enumerate" =some (.type "enumerate"):=by decide+kernel
def iEnu (K:Hy)(tl:TA):TI:=λσ H R=>tl σ H λvs H1=> ∃a tt,vs= [.ref a]/\(∃xs,z6 K H1 a tt xs)/\R (GH K a tt) H1
theorem AZ {l:Expr}{tl:TA}{p pos:Pos}(hg:Gl X "enumerate")(hm:X.mg "enumerate" =none)(hl:PA X [l] tl)(hs:HY [l] X.env= [(false,eval l X.env)]:=by rfl):PI X (.Tuple elts kk tpos) (.Call (.Name "enumerate" p) [l] [] pos) (iEnu X.K tl):=by
 intro pins s σ H R I h;refine Call_ (d9 I hg hm mM (IK (bR (hl pos pins s σ H _ I h) λus s1 ⟨vs,H1,I1,r1,q1⟩=> ?_) hs rfl))
 obtain⟨a,tt,e,⟨xs,hq⟩,q⟩:=q1;subst e;obtain⟨u,rfl,ru⟩:=la r1;cases ru
 have fin:∀h',IsEnum h' (s1.heap.objs.size+1) s1.heap.objs.size 0 .none->itAt tt h' s1.heap.objs.size a 0->h'.objs.size=s1.heap.objs.size+2->(∀b o,s1.heap.get? b=some o->h'.get? b=some o) →
   wpAny (model X.prog X.w) X.A (pyIter (.ref (s1.heap.objs.size+1))) (PIE X pins σ (.Tuple elts kk tpos) R) X.xe { s1 with heap:=h' }:=λh' he hi hsz hk=>by
  refine O5 he ?_
  have I2:Inv X pins σ H1 { s1 with heap:=h' }:=I1.kept (t':=s1.toks) hk
  refine⟨s1.heap.objs.size+1,[s1.heap.objs.size+1,s1.heap.objs.size],_,_,H1,rfl,I2,vn tt a (s1.heap.objs.size+1) s1.heap.objs.size (Nat.succ_ne_self _),⟨⟨_,he⟩,hi⟩,λb hb=> ?_,q⟩
  rcases HS.mp hb with rfl | hb
  ·exact I1.G4 (by omega) (I1.hok.fresh (by omega))
  ·rw[Ia.mp hb];exact I1.G4 (HL _) (I1.hok.fresh (HL _))
 cases tt with
 | true=>
  have hq':SqT X.K H1 a xs:=hq;obtain⟨its,rv,pl,hz⟩:=I1.tuple hq'
  exact Enu.callT pl λh' he hi hsz hk=>fin h' he hi hsz hk
 | false=>
  have hq':SqL X.K H1 a xs:=hq;obtain⟨its,rv,pl,hz⟩:=I1.list hq';exact call_enumerate_list pl.isList λh' he hi hsz hk=>fin h' he hi hsz hk
end
end L2
namespace Tr
open PySem PySem.Spec PyProof.Rows L2
section
variable {X:Cx}{a:Expr}{fa:En->Rs T}{fs:En->Rs (List T)}{p pos:Pos}
def iS (f:En->Rs T)(Z:En):Rs (List T):=do
 let x <-f Z
 match x with
 | .lst l=> .ok l
 | .tup l=> .ok l
 | _=> .bad
theorem C1 {tg:Expr}(ha:bX X a fa):BQ X tg a (iS fa):=by
 intro pins s σ H R I ⟨Z,O,E,h⟩;unfold iS at h
 cases q:fa Z with
 | bad=>rw[q]at h;exact h.elim
 | err c=>exact ug ha pins s σ H R I ⟨Z,O,E,by unfold iL;rw[q]at h ⊢;exact h⟩
 | ok x=>
  rw[q,aB]at h
  cases x with
  | lst l=>exact ug ha pins s σ H R I ⟨Z,O,E,by unfold iL;rw[q];exact h⟩
  | tup l=>exact C0 ha pins s σ H R I ⟨Z,O,E,by unfold iT;rw[q];exact h⟩
  | _=>exact h.elim
def cA:Nat->List T->List T
 | _,[] => []
 | n,t::r=> .tup [.int n,t] ::cA (n+1) r
theorem og:∀(l:List T) (n i:Nat),(cA n l)[i]? =(l[i]?).map λt=>T.tup [.int ((n+i:Nat):Int),t]
 | [],n,i=>by simp[cA]
 | t::l,n,0=>by simp[cA]
 | t::l,n,i+1=>by
  rw[cA,Ko,og l (n+1) i,Ko]
  congr 2
  funext t
  congr 4
  omega
theorem oa:∀(l:List T) (n:Nat),(cA n l).length=l.length
 | [],n=>rfl
 | t::l,n=>by rw[cA,HQ,HQ,oa l]
def iE (f:En->Rs (List T))(Z:En):Rs (List T):=do
 let xs <-f Z
 match xs with
 | [x] =>match x.items with
  | some l=> .ok (cA 0 l)
  | none=> .bad
 | _=> .bad
theorem AH {elts:List Expr}{kk:Nat}{tpos:Pos}(hm:X.mg "enumerate" =none)(ha:oB X [a] fs)(hg:Gl X "enumerate":=by rfl)(hs:HY [a] X.env= [(false,eval a X.env)]:=by rfl) :
  BQ X (.Tuple elts kk tpos) (.Call (.Name "enumerate" p) [a] [] pos) (iE fs):=PI.imp (AZ hg hm ha hs) λσ H R hh_=>by
 obtain⟨Z,O,E,h⟩:=hh_;obtain⟨Z1,O1,E1,h1⟩:=dt E h;refine⟨Z1,O1,E1,Post.mono h1 λts H1 s1 q vs r=> ?_⟩
 obtain⟨t',r',s',E',q'⟩:=q vs r
 split at q'
 ·rename_i x0
  obtain⟨v,rfl,rv⟩:=r'.one
  split at q'
  ·rename_i l hl
   have main:∀(aa:Addr) (tt:Bool) (ws:List V),v= .ref aa->¬ O aa->Reps X.K O H1 l ws->z6 X.K H1 aa tt ws->(∀P Hc,SameO P H1 Hc->¬ P aa->z6 X.K Hc aa tt ws)->¬ Nw X.K H1 aa →
     ∃a tt,[v] = [V.ref a]/\(∃xs,z6 X.K H1 a tt xs)/\R (GH X.K a tt) H1:=λaa tt ws e n z sq mv nn=>by
    refine⟨aa,tt,by rw[e],⟨ws,sq⟩,q' H1 (Same.refl H1) _ λP O' hP hO i Hc hsm htr=> ?_⟩
    have hnP:¬ P aa:=λy=>(hP aa y).elim n nn
    have sqc:=mv P Hc hsm hnP;refine⟨λhi=>⟨ws,sqc,by rw[<-z.length,<-oa l 0];exact hi⟩,λt ht=> ?_⟩
    rw[og]at ht
    cases e1:l[i]? with
    | none=>rw[e1]at ht;cases ht
    | some t0=>
     rw[e1]at ht;cases ht;obtain⟨v0,f1,f2⟩:=z.get e1;refine⟨⟨ws,v0,sqc,f1⟩,λx Hc' y=> ?_⟩
     obtain⟨pp,vv,e2,hpn,e3,hy⟩:=y
     have:=hy ws sqc;rw[f1]at this;cases this;subst e2 e3;refine⟨aO hpn _,fD hpn (λzz=> ?_) (Reps.FS (by simpa using Rep.GL _) (Reps.FS (f2.move hP hO hsm) Reps.GO))⟩
     obtain⟨o,w⟩:=htr pp zz;rw[hpn]at w;cases w
   cases x0 with
   | tup m=>
    cases hl;obtain⟨aa,ws,e,n,qq,z⟩:=Rep.Fk.mp rv
    exact main aa true ws e n z (show SqT X.K H1 aa ws from SqT.of qq) (λP Hc hsm hn=>show SqT X.K Hc aa ws from SqT.of (hsm _ _ qq hn)) λw=>by rw[w.1]at qq;cases qq
   | lst m=>
    cases hl;obtain⟨aa,ws,e,n,qq,z⟩:=Rep.Do.mp rv
    exact main aa false ws e n z (show SqL X.K H1 aa ws from SqL.of qq) (λP Hc hsm hn=>show SqL X.K Hc aa ws from SqL.of (hsm _ _ qq hn)) λw=>by rw[w.1]at qq;cases qq
   | scr m=>
    cases hl;unfold Rep at rv;obtain⟨aa,e,n,qq⟩:=rv
    exact main aa false _ e n Reps.ints (show SqL X.K H1 aa _ from qq) (λP Hc hsm hn=>show SqL X.K Hc aa _ from Tr.SqL.keep hsm hn qq) (Tr.SqL.nn qq)
   | _=>cases hl
  ·exact q'.elim
 ·exact q'.elim
end
end Tr
namespace Tm
open PySem PyProof.Rows
theorem jW:fillsNumberSlot (.type "tuple") "mul" =pure false:=
 PySem.fillsNumberSlot_seq (id:="tuple.__mul__") (r:=some (.builtin "tuple.__rmul__")) M4.lookup (by decide+kernel) OL.lookup (by decide+kernel)
theorem pd:seqRepeat? (.type "tuple")=pure (some (.builtin "tuple.__mul__")):=by
 unfold seqRepeat?;rw[Pp (T:="tuple") (name:="__mul__") (id:="tuple.__mul__") M4.lookup (by decide+kernel),Pp (T:="tuple") (name:="__rmul__") (id:="tuple.__rmul__") OL.lookup (by decide+kernel)]
 rfl
theorem sR (a:Int)(t:Tok)(l:Addr)(items:Array HA)(n:Nat)(dd:Option Addr)(sl:Array (Option HA)) :
  Meets (Builtin.«int.__rmul__» ⟨[.int a t,.ref l],[]⟩) (λ_ R s=>s.heap.get? l=some { cls:=.type "tuple",dict:=dd,data:=.seq items n,slots:=sl }/\R (.ok (.ret NN)) s):=
 .of_wp λprog w A R s h=>by obtain⟨hp,g,d,tk,os⟩:=s;obtain⟨hl,h⟩:=h;wp_walk;exact⟨_,rfl,h⟩
open AutoSeq1 (wpAny_loadPart')
theorem yg (l:Addr)(items:Array HA)(n:Nat)(dd:Option Addr)(sl:Array (Option HA))(x:Int)(u:Tok)(h1:1<x)(h2:x<2 ^ 31)(hne:items.isEmpty=false)(hz:items.size*x.toNat<=sizeLine)
  (hz2:(ME (λa b=>a++b) #[] (Ib x.toNat items)).size<=sizeLine) :
  Meets (Builtin.«tuple.__mul__» ⟨[.ref l,.int x u],[]⟩) (λ_ R s=>s.heap.get? l=some { cls:=.type "tuple",dict:=dd,data:=.seq items n,slots:=sl } ∧
   R (.ok (.ret (Iv s.heap.objs.size))) { s with heap:=s.heap.push { cls:=JB "tuple",data:=Data.seq (ME (λa b=>a++b) #[] (Ib x.toNat items)) } }):=
 .of_wp λprog w A R s h=>by
  obtain⟨hp,g,d,tk,os⟩:=s;obtain⟨hl,h⟩:=h
  have hT:Qg hp l items:=⟨_,hl,rfl,n,rfl⟩
  have hx:((items.size:Nat):Int)*x=((items.size*x.toNat:Nat):Int):=by
   have e:x=((x.toNat:Nat):Int):=by omega
   rw[Int.natCast_mul,<-e]
  wp_walk using Il hl
  rw[if_neg (by simp;omega)]
  refine Hw (OB (s:=⟨hp,g,d,tk,os⟩) hT ?_)
  dsimp only
  rw[if_neg (by rw[hne];simp;omega),if_neg (by rw[hne];simp;omega),hx,if_neg (by have:(sizeLine:Nat)<=1000000000:=(by decide);omega),if_neg (by unfold Builtin.Tuple.tupleTooMany;rw[decide_eq_true_iff];omega)]
  refine Hw (m:=JL _) (IQ ?_ hz2)
  exact HF ⟨_,rfl,h⟩
section
variable {prog:H0}{w:IP}{A:Iu}{E:HA->HB->Prop}{s:HB}
theorem mul_tuple {t:Addr}{vs:List HA}{k:Int}{tk:Tok}{Q:HA->HB->Prop}(ht:Qg s.heap t vs.toArray)(h1:1<k)(h2:k<2 ^ 31)(hv:vs≠ [])(hz:vs.length*k.toNat<=sizeLine)
  (h:Q (.ref s.heap.objs.size) { s with heap:=s.heap.push { cls:=.type "tuple",data:=.seq (Ib k.toNat vs).flatten.toArray } }) :
  wpAny (model prog w) A (JM .Mult (.ref t) (.int k tk)) Q E s:=by
 obtain⟨⟨cls,dd,data,sl⟩,ho,hc,n,hd⟩:=id ht;simp only at hc hd;subst hc hd
 have e:ME (λa b=>a++b) #[] (Ib k.toNat vs.toArray)=(Ib k.toNat vs).flatten.toArray:=by
  have q:=L2.foldl_rep vs k.toNat []
  simpa using q
 refine My (T:="tuple") (U:="int") (by decide) ⟨_,ho,rfl⟩ (λs'=>NH s' k tk) jW PK L7 pd Pm.lookup
  (L0 L7 (NH s k tk) Pn (OJ _ _) (sR k tk t vs.toArray n dd sl)
   ⟨ho,rfl,⟨_,ho,rfl⟩,L0 M4 ⟨_,ho,rfl⟩ F.entry_tuple_mul (F.args_tuple_mul_2 _ _) (yg t vs.toArray n dd sl k tk h1 h2 (by simpa using hv) (by simpa using hz) (by rw[e,HU,L2.len_rep,Pa];exact hz)) ⟨ho,?_⟩⟩)
 rw[e];exact h
end
end Tm
namespace Tr
open PySem PySem.Spec PyProof.Rows L2
section
variable {X:Cx}
def cm (x y:T):Rs T:=match x,y with
 | .tup l,.int k=>if 1<k/\k<2 ^ 31/\l≠ []/\l.length*k.toNat<=sizeLine then .ok (.tup (Ib k.toNat l).flatten)else .bad
 | x,y=>tE x y
instance (l:List T):Decidable (l≠ []):=by cases l <;> simp <;> infer_instance
theorem dw:OpT X (JM .Mult) cm:=by
 intro pins s σ H O x y vx vy ux uy Q I hf rx ry r1 r2 hp;unfold cm at hp
 split at hp
 ·rename_i l k
  split at hp
  ·rename_i h
   obtain⟨a,vs,e1,n1,q1,z1⟩:=Rep.Fk.mp rx;subst e1;cases Rep.Da.mp ry;cases r1;obtain⟨tk,rfl⟩:=r2;obtain⟨its,rv,pl,hz⟩:=I.tuple (SqT.of q1)
   have hl1:=z1.length
   have hl2:=rv.length
   have hne:its≠ []:=λz=>h.2.2.1 (Kr (by rw[hl1,hl2,z];rfl))
   refine Tm.mul_tuple pl h.1 h.2.1 hne (by rw[<-hl2,<-hl1];exact h.2.2.2) ?_
   have hn:=I.hok.fresh (HL _);refine⟨.ref _,_,I.laid (t':=s.toks) (o:=.tup (Ib k.toNat vs).flatten) (λb ob q=>HC _ q) (HL _) ?_,rfl,hp _ (aO hn _) _ (fD hn (hf _ hn) (z1.rep _))⟩
   refine⟨?_,_,rv.rep k.toNat,PJ _ _⟩
   rw[len_rep,Pa,<-hl1];exact h.2.2.2
  ·exact hp.elim
 ·exact Ds pins s σ H O _ _ vx vy ux uy Q I hf rx ry r1 r2 hp
end
def FJ (outer:List (Str×KF))(N:List Str)(names:List (Str×KF))(N':List Str)(src:List (Option Nat)):Bool:=
 names.all (λy=>y.2 != .cell||names.lookup y.1 == some .cell)&&names.all (λy=>y.2 != .local||names.lookup y.1 == some .local)&&src.length == N'.length&&
 (HD N'.length).all (λj=>match src[j]? with
  | some (some i)=>match N'[j]? with
   | some x=>N[i]? == some x&&names.lookup x == some .free
   | none=>true
  | _=>true)&&
 names.all (λy=>y.2 != .free||(outer.lookup y.1 == some .cell||outer.lookup y.1 == some .free))
theorem LcScope.by {X:Cx}{scope:Le}{N N':List Str}{src:List (Option Nat)}{names:List (Str×KF)}(hN:X.N=N)(hs:X.env.scope.names=names)(hk:scope.kind= .function)(h:FJ names N scope.names N' src=true):LcScope X scope N' src:=by
 unfold FJ at h;simp only[Hz]at h;obtain⟨⟨⟨⟨h1,h2⟩,h3⟩,h4⟩,h5⟩:=h
 have a1:=HX.mp h1
 have a2:=HX.mp h2
 have a4:=HX.mp h4
 have a5:=HX.mp h5;refine⟨hk,λy hy hl=>by have:=a1 y hy;rw[hl]at this;simpa using this,λy hy hl=> ?_,by simpa using h3,λj i x e1 e2=> ?_,λx hx=> ?_⟩
 ·have:=a2 y hy
  rw[hl]at this
  simpa using this
 ·have hj:j<N'.length:=(HN.mp e2).1
  have:=a4 j (Ik.mpr hj);rw[e1]at this;simp only[e2]at this;rw[Hz]at this;rw[hN];exact⟨by simpa using this.1,by simpa using this.2⟩
 ·have:=a5 _ hx
  simp only[bne_self_eq_false,Oi,L9]at this
  show X.env.scope.names.lookup x=_\/X.env.scope.names.lookup x=_
  rw[hs];rcases this with z | z
  ·exact .inl (by simpa using z)
  ·exact .inr (by simpa using z)
def bL:Expr->Bool
 | .Starred .. =>false
 | _=>true
def aX:List Expr->Bool
 | [] =>true
 | e::r=>bL e&&aX r
theorem a9 {e:Expr}{es:List Expr}{env:Env}(h:bL e=true):HY (e::es) env=(false,eval e env)::HY es env:=by
 cases e <;> first | rfl | cases h
theorem fz {pos:Pos}{env:Env}:∀{es:List Expr},aX es=true->(backTo pos (HY es env)).any (·.1)=false
 | [],_=>rfl
 | e::r,h=>by
  unfold aX at h;rw[Hz]at h;rw[a9 h.1]
  have ih:=fz (pos:=pos) (env:=env) h.2
  show(false||(backTo pos (HY r env)).any (·.1))=false
  rw[ih];rfl
section
variable {X:Cx}{a b e:Expr}{es:List Expr}{fa:En->Rs T}{fs:En->Rs (List T)}{pos p p2:Pos}{x:Str}
theorem qa_c {f:En->Rs T}{g:En->Rs (List T)}(he:bX X e f)(hr:oB X es g)(hn:bL e=true:=by rfl):oB X (e::es) (ae f g):=kP he hr (a9 hn)
theorem q_cB {id:String}{g:List T->Rs T}(hc:CallT X (.builtin id) g)(hm:X.mg x=none)(hv:Iq x=some (.builtin id))(ha:oB X (e::es) fs)(hn:aX (e::es)=true:=by rfl)(hg:Gl X x:=by rfl)(h1:x≠ "__name__":=by decide)(h2:iA x:=by decide) :
  bX X (.Call (.Name x p) (e::es) [] pos) (cl g fs):=by
 unfold aX at hn;rw[Hz]at hn;exact uh hc hm hv ha hg h1 h2 (a9 hn.1) (fz hn.2)
theorem q_cT {Ty:String}{g:List T->Rs T}(hc:CallT X (.type Ty) g)(hm:X.mg x=none)(hv:Iq x=some (.type Ty))(ha:oB X (e::es) fs)(hn:aX (e::es)=true:=by rfl)(hg:Gl X x:=by rfl)(h1:x≠ "__name__":=by decide)(h2:iA x:=by decide) :
  bX X (.Call (.Name x p) (e::es) [] pos) (cl g fs):=by
 unfold aX at hn;rw[Hz]at hn;exact xE hc hm hv ha hg h1 h2 (a9 hn.1) (fz hn.2)
theorem q_c {n k:Nat}{f:Addr}{fd:JN}{ps:List Str}{g:List T->Rs T}(F:Ez X.prog X.w X.K X.mg X.base k f fd ps n g)(hr:Room k X.A)(hm:X.mg x=some (.ref f))(hk:Lv X.K (.ref f)=true)(hb:Binds X.K fd ps [])
  (hl:∀Z ts,fs Z= .ok ts->ts.length=n) (ha:oB X (e::es) fs) (hps:ps.length=n:=by rfl) (hn:aX (e::es)=true:=by rfl) (hg:Gl X x:=by rfl) (h2:iA x:=by decide):bX X (.Call (.Name x p) (e::es) [] pos) (cl g fs):=by
 unfold aX at hn;rw[Hz]at hn;exact C7 F hr hm hk hb hps hl ha hg h2 (a9 hn.1) (fz hn.2)
theorem q_is {tn:Str}{Ty:String}(hm:X.mg "isinstance" =none)(hmt:X.mg tn=none)(hv:Iq tn=some (.type Ty))(ha:bX X a fa)(hn:bL a=true:=by rfl)(hg:Gl X "isinstance":=by rfl)(hgt:Gl X tn:=by rfl)
  (h1:tn≠ "__name__":=by decide) (h2:iA tn:=by decide):bX X (.Call (.Name "isinstance" p) [a,.Name tn p2] [] pos) (o1 (Bt Ty) fa):=
 Fi hm hmt hv ha hg hgt h1 h2 (a9 hn) (fz rfl) (a9 rfl)
end
theorem Gk (Z:En)(ts:List T)(h:ai Z= .ok ts):ts.length=0:=by cases h;rfl
theorem Gj {n:Nat}{f:En->Rs T}{g:En->Rs (List T)}(hg:∀Z ts,g Z= .ok ts->ts.length=n)(Z:En)(ts:List T)(h:ae f g Z= .ok ts):ts.length=n+1:=by
 unfold ae at h
 cases q:f Z with
 | bad=>rw[q]at h;cases h
 | err c=>rw[q]at h;cases h
 | ok t=>
  rw[q,aB]at h
  cases q2:g Z with
  | bad=>rw[q2]at h;cases h
  | err c=>rw[q2]at h;cases h
  | ok r=>
   rw[q2,aB]at h;cases h;rw[HQ,hg Z r q2]
theorem ip {k:Nat}{A:Iu}(h:Room k A):A.units+60<cLine:=by have:=h.un;omega
theorem yX {k:Nat}{A:Iu}(h:Room k A):A.units+61<cLine:=by have:=h.un;omega
structure Fn (K:Hy)(mg:Str->Option HA)(x:Str)(st:Stmt)(ps:List Str)(f:Addr)(fd:JN):Prop where
 fn:L2.Fun K x x st f fd
 bd:Binds K fd ps []
 mg:mg x=some (.ref f)
def val (n m:Nat)(F:En->Rs Fl)(ts:List T):Rs T:=if ts.length=n then bh F (aK m ts)else .bad
theorem Cp {n m:Nat}{F:En->Rs Fl}{ts:List T}{t:T}(h:val n m F ts= .ok t):bh F (aK m ts)= .ok t:=by
 unfold val at h
 split at h
 ·exact h
 ·cases h
theorem sp_script {K:Hy}{H:Hp}{a:Addr}{ns:List Int}{g:List T->Rs T}{E:XK}(hS:SqL K H a (ns.map V.int))(h:g [.scr ns] = .ok (.bl true)):spP K 1 g [.ref a] H (λv _=>v= .bl true) E:=by
 refine⟨[.scr ns],λ_=>False,Reps.FS ?_ Reps.GO,λ_ z=>z.elim,rfl,?_⟩
 ·unfold Rep;exact⟨a,rfl,λz=>z,hS⟩
 ·rw[h];exact λv H' _ r=>Rep.FB.mp r
theorem qN {α:Type}{l:List α}{i:Nat}{z:α}(h:l[i]? =some z):l.set i z=l:=by
 obtain⟨hi,rfl⟩:=HN.mp h
 exact List.set_getElem_self hi
def Mn.set (M:Mn)(i:Nat)(m:Ow):Mn:=λj=>if j=i then m else M j
theorem Mn.GX {M:Mn}{i:Nat}{m:Ow}{a:Addr}(h:(M.set i m).u a):m a\/M.u a:=by
 obtain⟨j,h⟩:=h;unfold Mn.set at h
 by_cases z:j=i
 ·rw[if_pos z]at h;exact .inl h
 ·rw[if_neg z]at h;exact .inr ⟨j,h⟩
theorem Mn.Hh {M:Mn}{i:Nat}{m:Ow}:M.set i m i=m:=by unfold Mn.set;rw[if_pos rfl]
theorem Mn.G0 {M:Mn}{i j:Nat}{m:Ow}(h:j≠i):M.set i m j=M j:=by unfold Mn.set;rw[if_neg h]
theorem RowsR.move {K:Hy}{O O' P:Ow}{H H':Hp}(hP:∀a,P a->O a\/Nw K H a)(hO:∀a,O' a->O a\/Nw K H a)(h:SameO P H H'):∀{rs:List (List T×List T)} {as:List Addr},(∀b∈as,¬P b)->RowsR K O H rs as->RowsR K O' H' rs as
 | [],_,_,r=>r
 | _::_,_,hb,⟨b,bs,kvs,e1,e2,e3,e4,e5⟩=>by
  subst e1;exact⟨b,bs,kvs,rfl,h _ _ e2 (hb b HK),e3,e4.move hP hO h,e5.move hP hO h λc hc=>hb c (HH _ hc)⟩
theorem ORep.move {K:Hy}{O O' P M:Ow}{H H':Hp}{o:OT}{v:V}(hP:∀a,P a->O a\/Nw K H a)(hO:∀a,O' a->O a\/Nw K H a)(h:SameO P H H')(hM:∀a,M a->¬ P a)(r:ORep K O M H o v):ORep K O' M H' o v:=by
 cases o with
 | lst l=>obtain⟨a,vs,e1,e2,e3,e4⟩:=r;exact⟨a,vs,e1,e2,h _ _ e3 (hM a ((e2 a).mpr rfl)),e4.move hP hO h⟩
 | dct ks ts=>obtain⟨a,kvs,e1,e2,e3,e4,e5⟩:=r;exact⟨a,kvs,e1,e2,h _ _ e3 (hM a ((e2 a).mpr rfl)),e4,e5.move hP hO h⟩
 | dd ks rows=>
  obtain⟨a,kvs,as,e1,e2,e3,e4,e5,e6,e7,e8⟩:=r;exact⟨a,kvs,as,e1,e2,e3,e4,h _ _ e5 (hM a ((e2 a).mpr (.inl rfl))),e6,e7,e8.move hP hO h λb hb=>hM b ((e2 b).mpr (.inr hb))⟩
theorem RowsR.mtb {K:Hy}{O:Ow}{H:Hp}:∀{rs:List (List T×List T)} {as:List Addr},RowsR K O H rs as->∀b∈as,∃kvs,H b=some (.dT kvs)
 | [],_,r,b,hb=>by unfold RowsR at r;subst r;simp at hb
 | _::_,_,⟨b0,bs,kvs,e1,e2,e3,e4,e5⟩,b,hb=>by
  subst e1;rcases HS.mp hb with rfl | hb
  ·exact⟨kvs,e2⟩
  ·exact e5.mtb b hb
def OT.isD:OT->Bool
 | .lst _=>false
 | _=>true
theorem ORep.kind {K:Hy}{O M:Ow}{H:Hp}{o:OT}{v:V}(r:ORep K O M H o v):∀a,M a->if o.isD then ∃kvs,H a=some (.dT kvs)else ∃vs,H a=some (.lst vs):=λa z=>by
 cases o with
 | lst l=>obtain⟨b,vs,e1,e2,e3,e4⟩:=r;cases (e2 a).mp z;exact⟨vs,e3⟩
 | dct ks ts=>obtain⟨b,kvs,e1,e2,e3,e4,e5⟩:=r;cases (e2 a).mp z;exact⟨kvs,e3⟩
 | dd ks rows=>
  obtain⟨b,kvs,as,e1,e2,e3,e4,e5,e6,e7,e8⟩:=r
  rcases(e2 a).mp z with z | z
  ·cases z;exact⟨kvs,e5⟩
  ·exact e8.mtb a z
theorem ORep.mtb {K:Hy}{O M:Ow}{H:Hp}{o:OT}{v:V}(r:ORep K O M H o v)(a:Addr)(z:M a):Mtb H a:=by
 have:=r.kind a z
 split at this
 ·exact .inr this
 ·exact .inl this
theorem qU {K:Hy}{O:Ow}{H:Hp}:∀{rs:List (List T×List T)} {as:List Addr},(∀b∈as,¬O b)->RowsR K O H rs as->Reps K O H (rs.map λr=>T.dct r.1 r.2) (as.map V.ref)
 | [],_,_,r=>by unfold RowsR at r;subst r;exact Reps.GO
 | _::_,_,hn,⟨b,bs,kvs,e1,e2,e3,e4,e5⟩=>by
  subst e1;exact Reps.FS (Rep.GM.mpr ⟨b,kvs,rfl,hn b HK,.inl e2,e3,e4⟩) (qU (λc hc=>hn c (HH _ hc)) e5)
theorem RowsR.less {K:Hy}{O O':Ow}{H:Hp}(sub:∀a,O' a->O a):∀{rs:List (List T×List T)} {as:List Addr},RowsR K O H rs as->RowsR K O' H rs as
 | [],_,r=>r
 | _::_,_,⟨b,bs,kvs,e1,e2,e3,e4,e5⟩=>⟨b,bs,kvs,e1,e2,e3,e4.less sub,e5.less sub⟩
theorem ORep.rep {K:Hy}{O O' M:Ow}{H:Hp}{o:OT}{v:V}(sub:∀a,O' a->O a)(hn:∀a,M a->¬ O' a)(r:ORep K O M H o v):Rep K O' H o.view v:=by
 cases o with
 | lst l=>obtain⟨a,vs,e1,e2,e3,e4⟩:=r;exact Rep.Do.mpr ⟨a,vs,e1,hn a ((e2 a).mpr rfl),e3,e4.less sub⟩
 | dct ks ts=>obtain⟨a,kvs,e1,e2,e3,e4,e5⟩:=r;exact Rep.GM.mpr ⟨a,kvs,e1,hn a ((e2 a).mpr rfl),.inl e3,e4,e5.less sub⟩
 | dd ks rows=>
  obtain⟨a,kvs,as,e1,e2,e3,e4,e5,e6,e7,e8⟩:=r;refine Rep.GM.mpr ⟨a,kvs,e1,hn a ((e2 a).mpr (.inl rfl)),.inl e5,e6,?_⟩
  rw[e7];exact qU (λb hb=>hn b ((e2 b).mpr (.inr hb))) (e8.less sub)
section
variable {K:Hy}{B:Ow}{M:Mn}{H H':Hp}{Z:En}{σ:L2.St}{i:Nat}{o o':OT}{v:V}{m:Ow}
theorem Ev.new (E:Ev K B M H Z σ)(hl:i<Z.length)(hm:∀a,m a->Nw K H a)(s:Same H H')(r:ORep K (OO B (M.set i m)) m H' o v) :
  Ev K B (M.set i m) H' (Z.set i (.ow o)) (σ.set i (some v))/\∀a,(M.set i m).u a->M.u a\/Nw K H a:=by
 have hls:i<σ.length:=by rw[<-E.env.len];exact hl
 have sub:∀a,(M.set i m).u a->M.u a\/Nw K H a:=λa z=>(Mn.GX z).elim (λw=> .inr (hm a w)) .inl
 have subO:∀a,OO B (M.set i m) a->OO B M a\/Nw K H a:=λa z=>z.elim (λw=> .inl (.inl w)) λw=>(sub a w).elim (λy=> .inl (.inr y)) .inr
 have cL:∀a,Nw K H a->¬ OO B M a:=λa w z=>by
  obtain⟨o,e⟩:=(E.env.trk a z).some;rw[w.1]at e;cases e
 refine⟨⟨⟨by rw[Jt,Jt];exact E.env.len,λj t e=> ?_,λj o' e=> ?_,λj a z=> .inr ⟨j,z⟩,λj k a z1 z2=> ?_,λa z=> ?_⟩,λa z=> ?_⟩,sub⟩
 ·by_cases hj:i=j
  ·subst hj;rw[Io hl]at e;cases e
  ·rw[Im hj]at e
   obtain⟨w,e1,e2⟩:=E.env.val j t e;exact⟨w,by rw[Im hj];exact e1,(e2.more subO).same s⟩
 ·by_cases hj:i=j
  ·subst hj
   rw[Io hl]at e
   cases e;exact⟨v,Io hls,by rw[Mn.Hh];exact r⟩
  ·rw[Im hj]at e
   obtain⟨w,e1,e2⟩:=E.env.own j o' e;refine⟨w,by rw[Im hj];exact e1,?_⟩
   rw[Mn.G0 (λz=>hj z.symm)]
   exact(e2.move (P:=uu) (λ_ z=>z.elim) subO (λb u q _=>q) λ_ _ z=>z).same s
 ·unfold Mn.set at z1 z2
  by_cases hj:j=i
  ·by_cases hk:k=i
   ·exact hj.trans hk.symm
   ·rw[if_pos hj]at z1;rw[if_neg hk]at z2
    exact(cL a (hm a z1) (.inr ⟨k,z2⟩)).elim
  ·by_cases hk:k=i
   ·rw[if_neg hj]at z1;rw[if_pos hk]at z2
    exact(cL a (hm a z2) (.inr ⟨j,z1⟩)).elim
   ·rw[if_neg hj]at z1;rw[if_neg hk]at z2
    exact E.env.dis j k a z1 z2
 ·rcases z with z | z
  ·exact(E.env.trk a (.inl z)).same s
  ·rcases Mn.GX z with w | w
   ·exact r.mtb a w
   ·exact(E.env.trk a (.inr w)).same s
 ·intro hb
  rcases Mn.GX z with w | w
  ·exact cL a (hm a w) (.inl hb)
  ·exact E.mine a w hb
theorem Ev.put (E:Ev K B M H Z σ)(hi:Z[i]? =some (.ow o))(hs:σ[i]? =some (some v))(s:SameO (M i) H H')(r:ORep K (OO B M) (M i) H' o' v):Ev K B M H' (Z.set i (.ow o')) σ/\SameO M.u H H':=by
 have hl:i<Z.length:=(HN.mp hi).1
 have inO:∀a,M i a->OO B M a\/Nw K H a:=λa z=> .inl (.inr ⟨i,z⟩)
 have idO:∀a,OO B M a->OO B M a\/Nw K H a:=λa z=> .inl z
 refine⟨⟨⟨by rw[Jt];exact E.env.len,λj t e=> ?_,λj o2 e=> ?_,E.env.sub,E.env.dis,λa z=> ?_⟩,E.mine⟩,λb u e n=>s b u e λz=>n ⟨i,z⟩⟩
 ·by_cases hj:i=j
  ·subst hj;rw[Io hl]at e;cases e
  ·rw[Im hj]at e
   obtain⟨w,e1,e2⟩:=E.env.val j t e;exact⟨w,e1,e2.move inO idO s⟩
 ·by_cases hj:i=j
  ·subst hj
   rw[Io hl]at e
   cases e;exact⟨v,hs,r⟩
  ·rw[Im hj]at e
   obtain⟨w,e1,e2⟩:=E.env.own j o2 e;exact⟨w,e1,e2.move inO idO s λa z y=>hj (E.env.dis i j a y z)⟩
 ·by_cases hz:M i a
  ·exact r.mtb a hz
  ·rcases E.env.trk a z with⟨vs,e⟩ | ⟨kvs,e⟩
   ·exact .inl ⟨vs,s _ _ e hz⟩
   ·exact .inr ⟨kvs,s _ _ e hz⟩
def disown (i:Nat)(Z:En):En:=match Z[i]? with
 | some (.ow o)=>Z.set i (.va o.view)
 | _=>Z
theorem EnvM.disown {O O':Ow}{Z:En}(E:EnvM K O M H Z σ)(i:Nat)(sub:∀a,O' a->O a)(hn:∀a,M i a->¬ O' a)(hin:∀j a,j≠i->M j a->O' a):EnvM K O' (M.set i uu) H (disown i Z) σ:=by
 have base:EnvM K O' (M.set i uu) H (Z.set i (match Z[i]? with | some (.ow o)=> .va o.view | some x=>x | none=> .em)) σ:=by
  refine⟨by rw[Jt];exact E.len,λj t e=> ?_,λj o e=> ?_,λj a z=> ?_,λj k a z1 z2=> ?_,λa z=>E.trk a (sub a z)⟩
  ·by_cases hj:i=j
   ·subst hj
    by_cases hl:i<Z.length
    ·rw[Io hl]at e
     cases q:Z[i]? with
     | none=>rw[q]at e;cases e
     | some z=>
      rw[q]at e
      cases z with
      | em=>cases e
      | va t'=>cases e;obtain⟨w,e1,e2⟩:=E.val i _ q;exact⟨w,e1,e2.less sub⟩
      | ow o=>cases e;obtain⟨w,e1,e2⟩:=E.own i _ q;exact⟨w,e1,e2.rep sub hn⟩
    ·rw[JI (by rw[Jt];omega)]at e;cases e
   ·rw[Im hj]at e
    obtain⟨w,e1,e2⟩:=E.val j t e;exact⟨w,e1,e2.less sub⟩
  ·by_cases hj:i=j
   ·subst hj
    by_cases hl:i<Z.length
    ·rw[Io hl]at e
     cases q:Z[i]? with
     | none=>rw[q]at e;cases e
     | some z=>
      rw[q]at e
      cases z with
      | em=>cases e
      | va t'=>cases e
      | ow o=>cases e
    ·rw[JI (by rw[Jt];omega)]at e;cases e
   ·rw[Im hj]at e
    obtain⟨w,e1,e2⟩:=E.own j o e;refine⟨w,e1,?_⟩
    rw[Mn.G0 (λz=>hj z.symm)]
    exact e2.move (P:=uu) (λ_ z=>z.elim) (λa z=> .inl (sub a z)) (λb u q _=>q) λ_ _ z=>z
  ·unfold Mn.set at z
   by_cases hj:j=i
   ·rw[if_pos hj]at z;exact z.elim
   ·rw[if_neg hj]at z;exact hin j a hj z
  ·unfold Mn.set at z1 z2
   by_cases hj:j=i
   ·rw[if_pos hj]at z1;exact z1.elim
   ·by_cases hk:k=i
    ·rw[if_pos hk]at z2;exact z2.elim
    ·rw[if_neg hj]at z1;rw[if_neg hk]at z2;exact E.dis j k a z1 z2
 unfold Tr.disown
 cases q:Z[i]? with
 | none=>rw[q,List.set_eq_of_length_le (Mw.mp q)]at base;exact base
 | some z=>
  rw[q]at base
  cases z with
  | em=>rw[qN q]at base;exact base
  | va t=>rw[qN q]at base;exact base
  | ow o=>exact base
theorem Ev.disown (E:Ev K B M H Z σ)(i:Nat):Ev K B (M.set i uu) H (disown i Z) σ/\∀a,(M.set i uu).u a->M.u a:=by
 have sub:∀a,(M.set i uu).u a->M.u a:=λa z=>(Mn.GX z).elim (λw=>w.elim) id
 refine⟨⟨E.env.disown i (λa z=>z.elim .inl λw=> .inr (sub a w)) (λa z y=> ?_) λj a hj z=> .inr ⟨j,by rw[Mn.G0 hj];exact z⟩,λa z=>E.mine a (sub a z)⟩,sub⟩
 rcases y with y | ⟨j,y⟩
 ·exact E.mine a ⟨i,z⟩ y
 ·unfold Mn.set at y
  by_cases hj:j=i
  ·rw[if_pos hj]at y;exact y
  ·rw[if_neg hj]at y;exact hj (E.env.dis j i a y z)
end
section
variable {X:Cx}{a:Expr}{es:List Expr}{fa:En->Rs T}{pos p2 p3:Pos}{x:Str}
theorem Ev.subO {K:Hy}{B:Ow}{M:Mn}{H:Hp}{i:Nat}{m:Ow}(hm:∀a,m a->Nw K H a)(a:Addr)(z:OO B (M.set i m) a):OO B M a\/Nw K H a:=
 z.elim (λw=> .inl (.inl w)) λw=>(Mn.GX w).elim (λy=> .inr (hm a y)) λy=> .inl (.inr y)
theorem Bd {K:Hy}{H H1:Hp}(s:Same H H1){a:Addr}(n:Nw K H1 a):Nw K H a:=(fP (SameO.of (P:=uu) s) n).elim (λz=>z.elim) id
def EO (X:Cx)(t:TA):TE:=λσ H Q=>t σ H λxs H1=>xs.length<=sizeLine/\∀p,Nw X.K H1 p->Q (.ref p) (upd H1 p (.lst xs))
theorem A2 {t:TA}(h:PA X es t):PE X (.List es pos) (EO X t):=by
 intro pins s σ H Q I hq;refine Ox (bR (h pos pins s σ H _ I hq) λus s1 ⟨xs,H1,I1,r,z,q⟩=>⟨by rw[<-r.length];exact z,?_⟩)
 have hf:H1 s1.heap.objs.size=none:=I1.hok.fresh (HL _)
 have hk:X.K.lookup s1.heap.objs.size=none:=by
  cases q:X.K.lookup s1.heap.objs.size with
  | none=>rfl
  | some o=>exact absurd (HM (I1.kIn _ o q)) (Iw _)
 refine⟨.ref s1.heap.objs.size,upd H1 s1.heap.objs.size (.lst xs),I1.laid (t':=s1.toks) (λb u e=>HC _ e) (HL _) ?_,rfl,q _ ⟨hf,hk⟩⟩
 exact⟨z,us,0,r,HR _ rfl⟩
def ix (i:Nat)(f:En->Rs (List T))(Z:En):Rs Fl:=do
 let l <-f Z
 if i<Z.length/\l.length<=sizeLine then .ok (.nx (Z.set i (.ow (.lst l))))else .bad
theorem Ay (i:Nat){f:En->Rs (List T)}(hN:X.N.Nodup)(ha:oB X es f)(hi:X.N[i]? =some x:=by rfl)(hx:Loc X.env.scope x:=by first | exact Kq rfl | exact JP rfl)(hs:JK (.List es p2) (some (.Name x p3)) pos.line X.env=pure false:=by rfl)
  (hf:X.fn x=true\/X.env.scope.names.lookup x=some .local:=by first | exact .inl rfl | exact .inr rfl | assumption):oA X (.Assign [.Name x p3] (.List es p2) pos) (ix i f):=PS.imp (xH hN hi hx (A2 ha) hs hf) λD σ H hh_=>by
 obtain⟨Z,B,M,E,h⟩:=hh_;refine⟨Z,OO B M,E.o,?_⟩
 unfold ix at h
 cases q:f Z with
 | bad=>rw[q]at h;exact h.elim
 | err c=>rw[q]at h;exact PostF.xa h
 | ok l=>
  rw[q,aB]at h;intro H1 s1 vs rs
  by_cases hl:i<Z.length/\l.length<=sizeLine
  ·rw[if_pos hl]at h
   refine⟨by rw[<-rs.length];exact hl.2,λp hp=> ?_⟩
   have hm:∀a,a=p->Nw X.K H1 a:=λa z=>z▸hp
   obtain⟨E2,sub⟩:=(E.same s1).new (m:=λa=>a=p) (o:=.lst l) (v:=.ref p) (H':=upd H1 p (.lst vs)) hl.1 hm (aO hp.1 _) ⟨p,vs,rfl,λb=>Mv,aV,(rs.more (Ev.subO hm)).same (aO hp.1 _)⟩
   exact h _ _ _ (SameO.of (s1.trans (aO hp.1 _))) E2 λa z=>(sub a z).imp_right (Bd s1)
  ·rw[if_neg hl]at h
   exact h.elim
def m5 (i:Nat)(f:En->Rs T)(Z:En):Rs Fl:=match Z[i]? with
 | some (.ow (.lst l))=>f Z >>= λt=>if l.length<sizeLine then .ok (.nx (Z.set i (.ow (.lst (l++ [t])))))else .bad
 | _=> .bad
theorem Ev.putL {K:Hy}{B:Ow}{M:Mn}{H:Hp}{Z:En}{σ:L2.St}{i:Nat}{o:OT}{l':List T}{b:Addr}{vs':List V}(E:Ev K B M H Z σ)(hi:Z[i]? =some (.ow o))(hs:σ[i]? =some (some (.ref b)))(hM:∀c,M i c↔c=b)(r:Reps K (OO B M) H l' vs') :
  Ev K B M (upd H b (.lst vs')) (Z.set i (.ow (.lst l'))) σ/\SameO M.u H (upd H b (.lst vs')):=by
 have sm:SameO (M i) H (upd H b (.lst vs')):=λc u e nb=>by rw[aJ (λz=>nb ((hM c).mpr z))];exact e
 exact E.put hi hs sm ⟨b,vs',rfl,hM,aV,r.move (P:=M i) (λa z=> .inl (.inr ⟨i,z⟩)) (λa z=> .inl z) sm⟩
theorem CZ (i:Nat){apos cpos:Pos}(ha:bX X a fa)(hN:X.N[i]? =some x:=by rfl)(hv:wt X.env.scope x:=by first | exact Kq rfl | exact JP (Kq rfl) | exact JP (JP rfl))(hn:bL a=true:=by rfl)
  (hbase:JE (.Name x p2) "append" X.env (eval (.Name x p2) X.env)=eval (.Name x p2) X.env:=by rfl) (hline:(apos.endLine == cpos.line)=true:=by rfl)
  (hd:iA x:=by decide) (hcd:(x == ("__classdict__" : Str))=false:=by decide)
  (hsw:JK (.Call (.Attribute (.Name x p2) "append" apos) [a] [] cpos) none pos.line X.env=pure false:=by rfl):oA X (.Expr (.Call (.Attribute (.Name x p2) "append" apos) [a] [] cpos) pos) (m5 i fa):=by
 have h1:HY [a] X.env=(false,eval a X.env)::HY [] X.env:=a9 hn;refine PS.imp (ph (B4 K7 PySem.F.slot_list_append PySem.F.type_list_append nS (pv hN hv hd hcd) (gW ha lL h1) hbase ?_ hline h1 rfl) hsw) λD σ H ⟨Z,B,M,E,h⟩=> ?_
 ·rw[h1];rfl
 unfold m5 at h
 split at h
 ·rename_i l hl
  obtain⟨v0,e1,b,vs,rfl,hM,e3,e4⟩:=E.env.own i _ hl;refine⟨.ref b,e1,.inl ⟨rfl,vs,SqL.of e3⟩,Z,OO B M,E.o,?_⟩
  cases q:fa Z with
  | bad=>rw[q]at h;exact h.elim
  | err c=>rw[q]at h;exact PostF.xa h
  | ok t=>
   rw[q,aB]at h
   split at h
   ·rename_i hz
    intro H1 s1 v r
    have e3':=s1 _ _ e3;refine⟨b,vs,v,rfl,rfl,e3',by rw[<-e4.length];exact hz,?_⟩
    obtain⟨g1,g2⟩:=(E.same s1).putL (l':=l++ [t]) (vs':=vs++ [v]) hl e1 hM ((e4.same s1).append (Reps.FS r Reps.GO));exact h σ _ M (λc o e nb=>g2 c o (s1 _ _ e) nb) g1 λc z=> .inl z
   ·exact h.elim
 ·exact h.elim
def D6 (i:Nat)(l:List T)(Z:En):T->Rs Fl
 | .lst m=>if l.length+m.length<=sizeLine then .ok (.nx (Z.set i (.ow (.lst (l++m)))))else .bad
 | _=> .bad
def lG (i:Nat)(f:En->Rs T)(Z:En):Rs Fl:=match Z[i]? with
 | some (.ow (.lst l))=>f Z >>= D6 i l Z
 | _=> .bad
theorem CU (i:Nat){apos cpos:Pos}(ha:bX X a fa)(hN:X.N[i]? =some x:=by rfl)(hv:wt X.env.scope x:=by first | exact Kq rfl | exact JP (Kq rfl) | exact JP (JP rfl))(hn:bL a=true:=by rfl)
  (hbase:JE (.Name x p2) "extend" X.env (eval (.Name x p2) X.env)=eval (.Name x p2) X.env:=by rfl) (hline:(apos.endLine == cpos.line)=true:=by rfl)
  (hd:iA x:=by decide) (hcd:(x == ("__classdict__" : Str))=false:=by decide)
  (hsw:JK (.Call (.Attribute (.Name x p2) "extend" apos) [a] [] cpos) none pos.line X.env=pure false:=by rfl):oA X (.Expr (.Call (.Attribute (.Name x p2) "extend" apos) [a] [] cpos) pos) (lG i fa):=by
 have h1:HY [a] X.env=(false,eval a X.env)::HY [] X.env:=a9 hn;refine PS.imp (ph (B4 K7 PySem.F.slot_list_extend PySem.F.type_list_extend vL (pv hN hv hd hcd) (gW ha lL h1) hbase ?_ hline h1 rfl) hsw) λD σ H ⟨Z,B,M,E,h⟩=> ?_
 ·rw[h1];rfl
 unfold lG at h
 split at h
 ·rename_i l hl
  obtain⟨v0,e1,b,vs,rfl,hM,e3,e4⟩:=E.env.own i _ hl;refine⟨.ref b,e1,.inl ⟨rfl,vs,SqL.of e3⟩,Z,OO B M,E.o,?_⟩
  cases q:fa Z with
  | bad=>rw[q]at h;exact h.elim
  | err c=>rw[q]at h;exact PostF.xa h
  | ok t=>
   rw[q,aB]at h;unfold D6 at h
   split at h
   ·rename_i m
    split at h
    ·rename_i hz
     intro H1 s1 v r;obtain⟨c,ws,rfl,nO,hc,rm⟩:=Rep.Do.mp r
     have e3':=s1 _ _ e3;refine⟨b,c,vs,ws,rfl,rfl,e3',hc,by rw[<-e4.length,<-rm.length];exact hz,?_⟩
     obtain⟨g1,g2⟩:=(E.same s1).putL (l':=l++m) (vs':=vs++ws) hl e1 hM ((e4.same s1).append rm);exact h σ _ M (λc o e nb=>g2 c o (s1 _ _ e) nb) g1 λc z=> .inl z
    ·exact h.elim
   ·exact h.elim
 ·exact h.elim
def o8 (i:Nat)(F:En->Rs Fl)(Z:En):Rs Fl:=F (disown i Z)
theorem CV (i:Nat){st:Stmt}{F:En->Rs Fl}(h:oA X st F):oA X st (o8 i F):=PS.imp h λD σ H hh_=>by
 obtain⟨Z,B,M,E,q⟩:=hh_;obtain⟨E',sub⟩:=E.disown i;exact⟨disown i Z,B,_,E',PostF.later q (λ_ _ e _=>e) λa z=> .inl (sub a z)⟩
mutual
def T.nk (D:Bool):T->Bool
 | .scr _=>false
 | .dct _ ts=> !D&&nks D ts
 | .lst l=>D&&nks D l
 | .tup l=>nks D l
 | _=>true
def nks (D:Bool):List T->Bool
 | [] =>true
 | t::l=>t.nk D&&nks D l
end
mutual
theorem Rep.lend {K:Hy}{O O':Ow}{H:Hp}{D:Bool}(hk:∀a,O a->O' a\/if D then ∃kvs,Rd H a (.dT kvs)else ∃vs,H a=some (.lst vs)):∀{t:T} {v:V},t.nk D=true->Rep K O' H t v->Rep K O H t v
 | .non,_,_,r=>by unfold Rep at r ⊢;exact r
 | .bl _,_,_,r=>by unfold Rep at r ⊢;exact r
 | .int _,_,_,r=>by unfold Rep at r ⊢;exact r
 | .str _,_,_,r=>by unfold Rep at r ⊢;exact r
 | .tup l,_,h,r=>by
  unfold Rep at r ⊢;unfold T.nk at h;obtain⟨a,vs,e,n,q,z⟩:=r;refine⟨a,vs,e,λp=>(hk a p).elim n λw=> ?_,q,Reps.lend hk h z⟩
  split at w
  ·obtain⟨_,w | ⟨_,w⟩⟩:=w <;> rw[q]at w <;> cases w
  ·obtain⟨_,w⟩:=w;rw[q]at w;cases w
 | .lst l,_,h,r=>by
  unfold Rep at r ⊢;unfold T.nk at h;rw[Hz]at h;obtain⟨h1,h2⟩:=h;subst h1;obtain⟨a,vs,e,n,q,z⟩:=r;refine⟨a,vs,e,λp=>(hk a p).elim n λw=> ?_,q,Reps.lend hk h2 z⟩
  rw[if_pos rfl]at w;obtain⟨_,w | ⟨_,w⟩⟩:=w <;> rw[q]at w <;> cases w
 | .scr l,_,h,r=>by unfold T.nk at h;cases h
 | .dct ks ts,_,h,r=>by
  unfold Rep at r ⊢;unfold T.nk at h;rw[Hz]at h;obtain⟨h1,h2⟩:=h
  cases D with
  | true=>cases h1
  | false=>
   obtain⟨a,kvs,e,n,q,k,z⟩:=r;refine⟨a,kvs,e,λp=>(hk a p).elim n λw=> ?_,q,k,Reps.lend hk h2 z⟩
   rw[if_neg Ig]at w;obtain⟨_,w⟩:=w;rcases q with q | ⟨_,q⟩ <;> rw[q]at w <;> cases w
theorem Reps.lend {K:Hy}{O O':Ow}{H:Hp}{D:Bool}(hk:∀a,O a->O' a\/if D then ∃kvs,Rd H a (.dT kvs)else ∃vs,H a=some (.lst vs)):∀{l:List T} {vs:List V},nks D l=true->Reps K O' H l vs->Reps K O H l vs
 | [],_,_,r=>by unfold Reps at r ⊢;exact r
 | t::l,_,h,r=>by
  unfold Reps at r ⊢;unfold nks at h;rw[Hz]at h;obtain⟨v,ws,e,p,q⟩:=r;exact⟨v,ws,e,Rep.lend hk h.1 p,Reps.lend hk h.2 q⟩
end
def ln (i:Nat)(f:En->Rs T)(Z:En):Rs T:=match Z[i]? with
 | some (.ow o)=>f (disown i Z) >>= λt=>if t.nk o.isD=true then .ok t else .bad
 | _=>f Z
def DG (i:Nat)(f:En->Rs Bool)(Z:En):Rs Bool:=f (disown i Z)
theorem oF {K:Hy}{O:Ow}{M:Mn}{H:Hp}{Z:En}{σ:L2.St}(E:EnvM K O M H Z σ)(i:Nat):EnvM K (λa=>O a/\¬ M i a) (M.set i uu) H (disown i Z) σ:=
 E.disown i (λa z=>z.1) (λa z y=>y.2 z) λj a hj z=>⟨E.sub j a z,λy=>hj (E.dis j i a z y)⟩
theorem q_ln (i:Nat){e:Expr}{f:En->Rs T}(h:bX X e f):bX X e (ln i f):=PE.imp h λσ H Q ⟨Z,O,⟨M,E⟩,q⟩=>by
 unfold ln at q
 split at q
 ·rename_i o hi
  refine⟨disown i Z,_,⟨_,oF E i⟩,?_⟩
  obtain⟨w,e1,r⟩:=E.own i o hi;refine Post.mono (Post.bind q) λt H' s q2 v rv=> ?_
  split at q2
  ·rename_i hk
   have kd:=(r.same s).kind;refine q2 H' (Same.refl _) v (Rep.lend (λa z=> ?_) hk rv)
   by_cases hm:M i a
   ·refine .inr ?_
    have this:=kd a hm
    by_cases hD:o.isD=true
    ·rw[if_pos hD]at this ⊢;exact this.imp λ_ z=> .inl z
    ·rw[if_neg hD]at this ⊢;exact this
   ·exact .inl ⟨z,hm⟩
  ·exact q2.elim
 ·exact⟨Z,O,⟨M,E⟩,q⟩
theorem E9 (i:Nat){e:Expr}{f:En->Rs Bool}(h:sr X e f):sr X e (DG i f):=PT.imp h λσ H Q ⟨Z,O,⟨M,E⟩,q⟩=>⟨disown i Z,_,⟨_,oF E i⟩,q⟩
end
end Tr
namespace Tr
open PySem L2
def nr:List T->List T->List Key->Option T
 | k'::ks,v::vs,k=>if keyOf k'=some k then some v else nr ks vs k
 | _,_,_=>none
def fV (k v:T):List T->List T->List T×List T
 | k'::ks,v'::vs=>if keyOf k'=keyOf k then(k'::ks,v::vs)else(k'::(fV k v ks vs).1,v'::(fV k v ks vs).2)
 | _,_=>([k],[v])
def rZ (x y:T):Rs T:=match x,keyOf y with
 | .dct ks vs,some k=>match nr ks vs k with
  | some t=> .ok t
  | none=> .bad
 | _,_=> .bad
def gg (x y:T):Rs T:=match x,keyOf y with
 | .dct ks vs,some k=>match nr ks vs k with
  | some t=> .ok t
  | none=> .ok .non
 | _,_=> .bad
def oD (g:T->T->Rs T)(fa fb:En->Rs T)(Z:En):Rs T:=fa Z >>= λx=>match x with
 | .dct ks vs=>fb Z >>= g (.dct ks vs)
 | _=> .bad
def oL (g:T->T->Rs T)(fa fb:En->Rs T)(Z:En):Rs T:=fa Z >>= λx=>match x with
 | .lst l=>fb Z >>= g (.lst l)
 | _=> .bad
def EA:List T->Option (List (T×T))
 | [] =>some []
 | .tup [k,v] ::l=>match keyOf k,EA l with
  | some _,some r=>some ((k,v)::r)
  | _,_=>none
 | _=>none
def gG:List (T×T)->List T×List T->List T×List T
 | [],d=>d
 | (k,v)::r,d=>gG r (fV k v d.1 d.2)
def uZ:List T->Rs T
 | [.lst l] =>match EA l with
  | some ps=>if l.length<=1000 then .ok (.dct (gG ps ([],[])).1 (gG ps ([],[])).2)else .bad
  | none=> .bad
 | _=> .bad
def nJ (i:Nat)(f:En->Rs T)(Z:En):Rs Fl:=f Z >>= λt=>uZ [t] >>= λd=>match d with
 | .dct ks vs=>if i<Z.length then .ok (.nx (Z.set i (.ow (.dct ks vs))))else .bad
 | _=> .bad
def vz (i:Nat)(fk fv:En->Rs T)(Z:En):Rs Fl:=match Z[i]? with
 | some (.ow (.dct ks vs))=>fv Z >>= λv=>fk Z >>= λk=>match keyOf k with
  | some _=>if ks.length<1000 then .ok (.nx (Z.set i (.ow (.dct (fV k v ks vs).1 (fV k v ks vs).2))))else .bad
  | none=> .bad
 | _=> .bad
def gy:List T->Option (List Int)
 | [] =>some []
 | .int i::l=>(gy l).map (i:: ·)
 | _=>none
def ie (x:T):List T->Nat->Option Nat
 | [],_=>none
 | t::l,n=>if aR t x then some n else ie x l (n+1)
def eZ (y x:T):Rs T:=match y with
 | .lst l=>if (x.dep<=60\/deps l<=60)/\x.nd=true/\nds l=true then match ie x l 0 with
   | some n=> .ok (.int n)
   | none=> .bad
  else .bad
 | _=> .bad
def wZ (i:Nat)(f:En->Rs T)(Z:En):Rs Fl:=match Z[i]? with
 | some (.va (.int a))=>f Z >>= λy=>match y with
  | .int b=> .ok (.nx (Z.set i (.va (.int (a+b)))))
  | _=> .bad
 | _=> .bad
def lR (f:En->Rs (List T))(Z:En):Rs T:=f Z >>= λx=>match x with
 | [.int i,.int j] =>if qz i&&qz j&&decide ((j - i).toNat<=1000)then .ok (.lst (rng i j))else .bad
 | [.int j] =>if qz j&&decide (j.toNat<=1000)then .ok (.lst (rng 0 j))else .bad
 | _=> .bad
def FU:Nat:=1000000000000
end Tr
namespace Tr
open PySem PySem.Spec PyProof.Rows L2
theorem iG {h b b':Heap}:∀{l:List Env},h.FunFrames b l->(∀a∈l.filterMap (·.frame),b'.get? a=none)->h.FunFrames b' l
 | [],_,_=>trivial
 | env::cb,⟨hk,⟨L,o,hf,hn,ho,hd⟩,hr⟩,q=>by
  rw[KY,hf]at q;exact⟨hk,⟨L,o,hf,q L HK,ho,hd⟩,iG hr λa ha=>q a (HH _ ha)⟩
section
variable {M:Model}{A:Iu}{E:HA->HB->Prop}{s:HB}
structure Gone (fs:List Addr)(C e:Addr)(T:Option Addr)(h h':Heap)(T':Addr):Prop where
 flt:GI h' C e (some T')
 new:T=some T'\/h.get? T'=none
 keep:∀b o,b∉fs->b≠e->T≠some b->h.get? b=some o->h'.get? b=some o
 slot:∀b o,b∈fs->h.get? b=some o->∃sl,h'.get? b=some { o with slots:=sl }
theorem DH {base:Heap}{env:Env}{outer:List Env}{L C e:Addr}{T:Option Addr}{Q:Unit->HB->Prop}(hfr:A.frames=some (env::outer))(hl:s.heap.FunFrames base (env::outer))(hf:env.frame=some L)
  (F:GI s.heap C e T) (h:∀h' T',Gone ((env::outer).filterMap (·.frame)) C e T s.heap h' T'->Q () { s with heap:=h' }):wpAny M A (leaving env (.ref e)) Q E s:=by
 generalize hB:PF s.heap (e::(T.toList++(env::outer).filterMap (·.frame)))=B
 have bm:∀b,b∈e::(T.toList++(env::outer).filterMap (·.frame))->B.get? b=none:=λb m=>by rw[<-hB];exact NL _ m
 have hl':s.heap.FunFrames B (env::outer):=iG hl λa ha=>bm a (HH _ (Iz _ ha))
 have hst:B.StaysIn s.heap:=λb o q=>by rw[<-hB]at q;exact N9 _ q
 have hen:B.get? e=none:=bm e HK
 have main:∀h',Heap.Left B (env::outer) e (.ref C) s.heap h'->Q () { s with heap:=h' }:=λh' ⟨x1,x2,⟨oe,vs,T',oT,ts,he,hc,hd,h1,hnT,hTe,hT,hdT,h3⟩,x4⟩=>by
  refine h h' T' ⟨⟨hTe,oe,vs,he,hc,hd,h1,oT,ts,hT,hdT,h3⟩,?_,λb o n1 n2 n3 q=> ?_,λb o m q=> ?_⟩
  ·cases q:s.heap.get? T' with
   | none=>exact .inr rfl
   | some o=>
    left
    by_cases z:T'∈e::(T.toList++(env::outer).filterMap (·.frame))
    ·rcases HS.mp z with z | z
     ·exact absurd z hTe
     ·rcases IL.mp z with z | z
      ·cases T with
       | none=>simp at z
       | some t=>simp at z;rw[z]
      ·obtain⟨_,o',ho',hnf⟩:=x2.mem z
       rw[hT]at ho';cases ho';exact absurd hdT (hnf ts)
    ·rw[<-hB,L1 _ q z]at hnT;cases hnT
  ·refine x1 b o ?_
   rw[<-hB];refine L1 _ q λz=> ?_
   rcases HS.mp z with z | z
   ·exact n2 z
   ·rcases IL.mp z with z | z
    ·cases T with
     | none=>simp at z
     | some t=>simp at z;exact n3 (by rw[z])
    ·exact n1 z
  ·obtain⟨_,o',ho',hnf⟩:=hl.mem m
   rw[q]at ho';cases ho';exact x4 b o q hnf
 cases T with
 | none=>
  obtain⟨oe,vs,he,hc,hd,h1⟩:=F;refine wpAny_leaving_first hfr hl' hf he hst hen hd h1 λh' x=>main h' ?_
  rw[hc]at x;exact x
 | some t=>
  obtain⟨hte,oe,vs,he,hc,hd,h1,oT,ts,hT,hdT,h3⟩:=F;exact wpAny_leaving_next hfr hl' hf ⟨oe,vs,t,oT,ts,he,hc,hd,h1,bm t (HH _ (LR _ (by simp))),hte,hT,hdT,h3⟩ hst hen main
end
abbrev vc:List HA:=[.type "ValueError",.type "Exception",.type "BaseException",.type "object"]
structure OwnExc (K:Hy)(C:Addr)(bm:List HA):Prop where
 at_:∀h:Heap,K.In h->∃nm q N bs hdct sn sub ab col dd k0 k1 k2 k3 k5 mN,h.get? C=some (Md nm q C N bs bm hdct sn sub ab col dd k0 k1 k2 k3 k5 "ValueError.__new__")/\h.Ns N mN/\mN "__init__" =none/\OwnTail h vc bm
theorem OwnExc.base {K:Hy}{C:Addr}{bm:List HA}(O:OwnExc K C bm){h:Heap}(k:K.In h):bm.contains (.type "BaseException")=true:=by
 obtain⟨_,_,_,_,_,_,_,_,_,_,_,_,_,_,_,_,_,_,_,T⟩:=O.at_ h k;exact T.hasType (by decide)
def As (c:Str)(_:En):Rs Fl:=.err c
section
variable {X:Cx}
theorem xu {c:Str}{msg:Str}{C:Addr}{bm:List HA}{np p1 cpos pos:Pos}{j:Nat}(O:OwnExc X.K C bm)(hc:X.calm=true)(hm:X.mg c=some (.ref C))(hg:Gl X c:=by rfl)(hd:iA c:=by decide) :
  oA X (.Raise (some (.Call (.Name c np) [.Constant (.str msg) j p1] [] cpos)) none pos) (As c):=by
 intro pins s σ H D I ⟨Z,B,M,E,k⟩
 have k:XA X M.u H c:=k;obtain⟨nm,q,N,bs,hdct,sn,sub,ab,col,dd,k0,k1,k2,k3,k5,mN,hC,hN,hni,T⟩:=O.at_ s.heap I.kIn;refine wpAny_Raise_call_subU (C:=C) (mN:=mN) (nm:=nm) (q:=q) (N:=N) (bs:=bs) (hdct:=hdct) (sn:=sn) (sub:=sub) (ab:=ab) (col:=col) (dd:=dd) (k0:=k0) (k1:=k1) (k2:=k2) (k3:=k3) (k5:=k5) Mj (Bn:="ValueError") (by decide) Mj (O.base I.kIn) (I.ok.hd hc) (by rfl) hni (kX I hg hm ⟨rfl,?_⟩ hd)
 show wpAny _ _ (evalArgs (.ref C) true ((false,eval (.Constant (.str msg) j p1) X.env)::backTo cpos (HY [] X.env)) []) _ _ s
 refine KM (J4 (Calls.Constant_str (JT ?_)))
 refine⟨rfl,by show 1<=sizeLine;decide,hC,hN,T,λh' e hm'=>k pins _ _ ?_⟩
 obtain⟨t,ht,ht2,ht3⟩:=hm'.there
 have I':Inv X pins σ H { s with heap:=h',toks:=s.toks+1 }:=I.kept (t':=s.toks+1) λb o z=>hm'.keeps b o z
 refine⟨e,none,C,σ,H,rfl,hm,I',λb o z _=>z,?_,?_,⟨_,_,ht,rfl,rfl,rfl⟩,(λt z=>by cases z),λp hp=>⟨λz=> ?_,λz=>by cases z⟩⟩
 ·exact rn I hm'.new
 ·exact λhex=>pP I hex hm'.new
 ·have:=(I.pin p hp).1
  rw[z,show s.heap.get? e=none from hm'.new]at this
  cases this
end
section
variable {P:H0}{w:IP}{K:Hy}{mg:Str->Option HA}{base:Heap}
theorem D2 {x qual:Str}{st:Stmt}{f:Addr}{fd:JN}{N ps:List Str}{k n:Nat}{g:List T->Rs T}(Fn:L2.Fun K x qual st f fd)(S:ay N ps (aj st))(hn:ps.length=n)
  (hbody:∀(cdv:HA),fd.code=cdv->∀(A:Iu) (outer:List Env) (s:HB) (H:Hp) (E:XK),Room k (A.deeper (envOfC qual (aj st) s.heap.objs.size f cdv)) →
   ∃F,(∀xe,kL ((gI CX0 P w K mg base N qual (aj st) f cdv A outer s H E).FM xe) (cJ st) F)/\∀ts,ts.length=n->∀c,g ts= .err c->F (aK N.length ts)= .err c):FnX P w K mg base (k+1) f fd ps n g:=by
 intro A outer s H args us vs O ts c R hr e0 hb r rs trk hl hg hR
 have hpl:ps.length<=N.length:=by have:=congrArg Kw S.pre;rw[J1]at this;omega
 obtain⟨oc,od,kV,doc,pm,an,cdv,ct,osl,rfl,lk,hcd⟩:=Fn.ex
 have hlen:vs.length=ps.length:=by rw[<-rs.length,hl,hn]
 have KX:K.In s.heap:=e0.mod.kin.keeps λb o e=>(e0.bs b o e).1
 have lim:s.heap.NoLimit:=e0.mod.nolimit.keeps λb o e=>(e0.bs b o e).1
 have hkind:∀y∈ps.zip us,(aj st).names.lookup y.1=some .local\/((aj st).names.lookup y.1=some .cell/\((Kl (s.heap.objs.size+1) (aj st).names []).lookup y.1).isSome=true):=λ⟨n,v⟩ hy=>by
  rcases S.par n (Kv hy).1 with q | q
  ·exact .inl q
  ·exact .inr ⟨q,Ks _ _ _ (.inl q)⟩
 refine NA hr.depth (KX _ _ lk) rfl S.co S.gen rfl (Ob KX hcd) (hb _ _ _ _ ?_)
 refine KL S.kind hkind λenv he s1 x=> ?_
 subst he;refine⟨lim.keeps x.toInCall.keep,codeAny_func ?_⟩
 obtain⟨F,hF,hv⟩:=hbody cdv rfl A outer s H E0 (hr.deeper _)
 let xe:HA->HB->Prop:=λev s'=>wpAny (model P w) (A.deeper (envOfC qual (aj st) s.heap.objs.size f cdv)) (leaving (envOfC qual (aj st) s.heap.objs.size f cdv) ev) (λ_ s''=>R (.error ev) s'') (λe' s''=>R (.error e') s'') s'
 have I:Inv ((gI CX0 P w K mg base N qual (aj st) f cdv A outer s H E0).FM xe) [] (start N vs) H s1:=(j5 S hr.hd e0 hlen r x).FM _
 have no:∀a,¬noM.u a:=λa ⟨_,z⟩=>z
 refine J3 (hF xe [] s1 (start N vs) H { nx:=λ_ _=>False,rt:=λ_ _=>False,bk:=λ_ _=>False,ct:=λ_ _=>False } I ⟨aK N.length ts,O,noM,nC rs (by omega) trk,?_⟩) (λfl s' z=> ?_) λe s' hs=>hs
 rotate_left
 ·cases fl with
  | next=>obtain⟨_,_,_,z⟩:=z;exact z.elim
  | cont=>obtain⟨_,_,_,z⟩:=z;exact z.elim
  | brk=>obtain⟨_,_,_,z⟩:=z;exact z.elim
  | ret v=>obtain⟨_,_,_,_,_,z⟩:=z;exact z.elim
 rw[hv ts hl c hg];intro pins ev s' w'
 show wpAny _ _ _ _ _ _
 obtain⟨e,T,C,σ',H',rfl,hm,I',sm,he,heo,fl,hT,_⟩:=w'
 have heo:=heo rfl
 have hT:∀t,T=some t->H' t=none/\s.heap.get? t=none:=λt z=>⟨(hT t z).1,(hT t z).2 rfl⟩
 refine DH (base:=base) (outer:=outer) (L:=s.heap.objs.size) I'.ok.frames I'.stack rfl fl λh' T' g=>hR _ _ ?_
 have hex:((gI CX0 P w K mg base N qual (aj st) f cdv A outer s H E0).FM xe).ex= []:=rfl
 have Tn:H' T'=none/\s.heap.get? T'=none:=by
  rcases g.new with z | z
  ·exact hT T' z
  ·exact⟨rn I' z,pP I' hex z⟩
 have out:∀b o,s.heap.get? b=some o->b≠s.heap.objs.size:=λb o q z=>by
  have:=HM q;rw[z]at this;exact absurd this (Iw _)
 have mem:∀b,b∈i7 ((envOfC qual (aj st) s.heap.objs.size f cdv)::outer)->b=s.heap.objs.size\/b∈i7 outer:=λb z=>by
  have z':b∈s.heap.objs.size::i7 outer:=z;exact HS.mp z'
 have ne:∀b o,s.heap.get? b=some o->b≠e/\T≠some b:=λb o q=>⟨λz=>(by subst z;rw[show s.heap.get? b=none from heo]at q;cases q),λz=>(by rw[show s.heap.get? b=none from(hT b z).2]at q;cases q)⟩
 have keepH:∀b u,H' b≠none->s'.heap.get? b=some u->h'.get? b=some u:=λb u hb q=>by
  refine g.keep b u (λz=>hb (I'.GN b z)) (λz=>hb (by rw[z];exact he)) (λz=>hb (hT b z).1) q
 refine⟨e,T',C,H',rfl,hm,I'.os,I'.bare,⟨λb o q n hb hx=> ?_,λb o q n hb hx=> ?_,λb o q n hx=>I'.base.free b o q n hx,λb o q hx=> ?_,I'.base.tups,I'.base.frzs,I'.base.tbls⟩,λa o q=> ?_,λb o q=>sm b o q (no b),he,heo,g.flt,Tn.1,Tn.2⟩
 ·exact g.keep b o (λz=>(mem b z).elim (out b o q) hb) (ne b o q).1 (ne b o q).2 (I'.base.keep b o q n hb hx)
 ·obtain⟨sl,q1⟩:=I'.base.slot b o q n hb hx
  obtain⟨sl',q2⟩:=g.slot b _ (HH _ hb) q1;exact⟨sl',q2⟩
 ·obtain⟨o',q1⟩:=I'.base.there b o q hx
  by_cases z:b∈i7 ((envOfC qual (aj st) s.heap.objs.size f cdv)::outer)
  ·obtain⟨sl,q2⟩:=g.slot b o' z q1
   exact⟨_,q2⟩
  ·exact⟨o',g.keep b o' z (ne b o q).1 (ne b o q).2 q1⟩
 ·refine(I'.hok a o q).GT (λb u hb z=>keepH b u ?_ z) (λ_ z=>z) λ_ _ z=>z
  rcases hb with rfl | hb
  ·rw[q];simp
  ·rw[hb];simp
end
theorem Ab {n m:Nat}{F:En->Rs Fl}{ts:List T}{c:Str}(h:val n m F ts= .err c):F (aK m ts)= .err c:=by
 unfold val at h
 split at h
 ·unfold bh at h
  cases z:F (aK m ts)with
  | bad=>rw[z]at h;cases h
  | err c'=>rw[z]at h;cases h;rfl
  | ok f=>
   rw[z,aB]at h;cases f <;> cases h
 ·cases h
section
variable {P:H0}{w:IP}{K:Hy}{mg:Str->Option HA}{base:Heap}
theorem D5 {x qual:Str}{st:Stmt}{f:Addr}{fd:JN}{N ps:List Str}{k n:Nat}{F:En->Rs Fl}(Fn:L2.Fun K x qual st f fd)(S:ay N ps (aj st))(hn:ps.length=n)
  (hbody:∀(cdv:HA),fd.code=cdv->∀(A:Iu) (outer:List Env) (s:HB) (H:Hp) (E:XK),Room k (A.deeper (envOfC qual (aj st) s.heap.objs.size f cdv)) →
   ∀xe,kL ((gI CX0 P w K mg base N qual (aj st) f cdv A outer s H E).FM xe) (cJ st) F):Ez P w K mg base (k+1) f fd ps n (val n N.length F):=
 ⟨F5 Fn S hn λcdv hcv A outer s H E hr=>⟨F,hbody cdv hcv A outer s H E hr _,λts _ _ h=>Cp h⟩,D2 Fn S hn λcdv hcv A outer s H E hr=>⟨F,hbody cdv hcv A outer s H E hr,λts _ c h=>Ab h⟩⟩
end
section
variable {X:Cx}{a:Expr}{fa:En->Rs T}{pos p:Pos}{x:Str}
theorem Fd:oA X (.Continue pos) B0:=PS.imp qX λD σ H ⟨Z,B,M,E,h⟩=>h σ H M (λ_ _ e _=>e) E λa z=> .inl z
theorem CW (i:Nat){pos':Pos}(hN:X.N.Nodup)(ha:bX X a fa)(hi:X.N[i]? =some x:=by rfl)(hx:Loc X.env.scope x:=by first | exact Kq rfl | exact JP rfl)(hf:X.fn x=true\/X.env.scope.names.lookup x=some .local:=by first | exact .inl rfl | exact .inr rfl | assumption) :
  oA X (.AugAssign (.Name x pos') .Add a pos) (wZ i fa):=PS.imp (Df hN hi hx ha DW hf) λD σ H hh_=>by
 obtain⟨Z,B,M,E,h⟩:=hh_;unfold wZ at h
 split at h
 ·rename_i n e
  obtain⟨v,e1,r⟩:=E.env.val i _ e;cases Rep.Da.mp r
  have hl:i<Z.length:=(HN.mp e).1
  refine⟨.int n,e1,Z,OO B M,E.o,?_⟩
  cases q:fa Z with
  | bad=>rw[q]at h;exact h.elim
  | err c=>rw[q]at h;exact PostF.xa h
  | ok t=>
   rw[q,aB]at h
   cases t with
   | int m=>
    intro H1 s1 v rv;cases Rep.Da.mp rv
    exact⟨n,m,rfl,rfl,h _ _ M (SameO.of s1) ⟨(E.env.same s1).set hl (Rep.GL _),E.mine⟩ λa z=> .inl z⟩
   | _=>exact h.elim
 ·exact h.elim
end
def calmNames:List Str:=["__init__","__getattribute__","__getattr__","__class__"]
inductive OTail (h:Heap):List HA->Prop
 | base:OTail h vc
 | own {A:Addr} {c0:HA} {dd:Option Addr} {cd:ClassData} {sl:Array (Option HA)} {mA:Str->Option HA} {tl:List HA} :
   h.get? A=some { cls:=c0,dict:=dd,data:=.cls cd,slots:=sl }->h.Ns cd.ns mA->(∀n∈calmNames,mA n=none)->OTail h tl->OTail h (.ref A::tl)
theorem OTail.tail {h:Heap}{tl:List HA}(T:OTail h tl):OwnTail h vc tl:=by
 induction T with
 | base=>exact .base
 | own hA hN hq _ ih=>exact .own hA hN (hq _ (.head _)) ih
structure OX (K:Hy)(C:Addr)(bm:List HA):Prop where
 at_:∀h:Heap,K.In h->∃nm q N bs hdct sn sub ab col dd k0 k1 k2 k3 k5 mN,h.get? C=some (Md nm q C N bs bm hdct sn sub ab col dd k0 k1 k2 k3 k5 "ValueError.__new__")/\h.Ns N mN/\(∀n∈calmNames,mN n=none)/\OTail h bm
theorem OX.own {K:Hy}{C:Addr}{bm:List HA}(O:OX K C bm):OwnExc K C bm:=⟨λh k=>by
 obtain⟨nm,q,N,bs,hdct,sn,sub,ab,col,dd,k0,k1,k2,k3,k5,mN,h1,h2,h3,h4⟩:=O.at_ h k;exact⟨nm,q,N,bs,hdct,sn,sub,ab,col,dd,k0,k1,k2,k3,k5,mN,h1,h2,h3 _ (.head _),h4.tail⟩⟩
def wR:HA->Bool
 | .str _ _=>true
 | _=>false
theorem FG {K:Hy}{N:Addr}{ob:HA}{oe:Option Addr}{es:Array DictEntry}{n:Nat}{oz:Array (Option HA)}(r:K.lookup N=some ⟨ob,oe,.dict es n,oz⟩)(s:(es.toList.all λe=>wR e.key)=true)
  (u0:LB K N "__init__" =some none) (u1:LB K N "__getattribute__" =some none) (u2:LB K N "__getattr__" =some none) (u3:LB K N "__class__" =some none) :
  ∀h:Heap,K.In h->∃mN,h.Ns N mN/\∀n∈calmNames,mN n=none:=λh k=>by
 refine⟨nsFind es,⟨_,es,n,k _ _ r,rfl,λe he=> ?_,λ_=>rfl⟩,λx hx=> ?_⟩
 ·have:=HX.mp s e (by simpa using he)
  cases q:e.key <;> rw[q]at this <;> first | exact⟨_,_,rfl⟩ | cases this
 ·have key:∀x,LB K N x=some none->nsFind es x=none:=λx u=>by
   unfold LB at u;rw[r]at u;simp only at u
   split at u
   ·cases u
   ·rename_i he
    unfold nsFind findBy;rw[<-Oe,he];rfl
  unfold calmNames at hx;simp only[HS,II,or_false]at hx;rcases hx with rfl | rfl | rfl | rfl
  ·exact key _ u0
  ·exact key _ u1
  ·exact key _ u2
  ·exact key _ u3
section
variable {K:Hy}{nm q:Str}{C N:Addr}{bs:List HA}{hdct:Bool}{sn:List Str}{sub:List HA}{ab:Bool}{col:Option Bool}{dd:Option Addr}{k0 k1 k2 k3 k5:Option HA}
variable {nm' q':Str}{D N':Addr}{bs':List HA}{hdct':Bool}{sn':List Str}{sub':List HA}{ab':Bool}{col':Option Bool}{dd':Option Addr}{k0' k1' k2' k3' k5':Option HA}
theorem A6 (w:K.lookup C=some (Md nm q C N bs vc hdct sn sub ab col dd k0 k1 k2 k3 k5 "ValueError.__new__"))(ns:∀h:Heap,K.In h->∃mN,h.Ns N mN/\∀n∈calmNames,mN n=none):OX K C vc:=⟨λh k=>by
 obtain⟨mN,h1,h2⟩:=ns h k;exact⟨nm,q,N,bs,hdct,sn,sub,ab,col,dd,k0,k1,k2,k3,k5,mN,k _ _ w,h1,h2,.base⟩⟩
theorem xT (w:K.lookup C=some (Md nm q C N bs (.ref D::vc) hdct sn sub ab col dd k0 k1 k2 k3 k5 "ValueError.__new__"))(ns:∀h:Heap,K.In h->∃mN,h.Ns N mN/\∀n∈calmNames,mN n=none)
  (wD:K.lookup D=some (Md nm' q' D N' bs' vc hdct' sn' sub' ab' col' dd' k0' k1' k2' k3' k5' "ValueError.__new__")) (nsD:∀h:Heap,K.In h->∃mN,h.Ns N' mN/\∀n∈calmNames,mN n=none):OX K C (.ref D::vc):=⟨λh k=>by
 obtain⟨mN,h1,h2⟩:=ns h k;obtain⟨mD,d1,d2⟩:=nsD h k;exact⟨nm,q,N,bs,hdct,sn,sub,ab,col,dd,k0,k1,k2,k3,k5,mN,k _ _ w,h1,h2,.own (k _ _ wD) d1 d2 .base⟩⟩
end
theorem w8 (i j:Int):rng i j=((HD (j - i).toNat).map λ(k:Nat)=>i+(k:Int)).map T.int:=by unfold rng;rw[Jg];rfl
theorem tZ:∀{xs:List V} {us:List HA},xs.length=us.length->(∀(m:Nat) (u:HA),us[m]? =some u->∃x,xs[m]? =some x/\RelV x u)->Vals xs us
 | [],[],_,_=> .nil
 | [],_::_,h,_=>by cases h
 | _::_,[],h,_=>by cases h
 | x::xs,u::us,h,k=>by
  obtain⟨y,e,r⟩:=k 0 u rfl;cases e;exact .cons r (tZ (by simpa using h) λm v hv=>k (m+1) v hv)
theorem uD {X:Cx}{pins:List (Addr×Obj)}{σ:L2.St}{H1:Hp}{s1:HB}{O:Ow}{Q:VK}{i j:Int}{t t' t2:Tok}{tk0:Nat}(hc:X.A.handled=none)(I1:Inv X pins σ H1 s1)(c1 : -(2 ^ 62)<=i)(c2:i<2 ^ 62)(c3 : -(2 ^ 62)<=j)(c4:j<2 ^ 62)(k3:(j - i).toNat<=1000)(fr:∀p,H1 p=none->¬ O p)
  (q1:∀H',Same H1 H'->∀v,Rep X.K O H' (.lst (rng i j)) v->Q v H') :
  wpAny (model X.prog X.w) X.A (call (.type "list") [.ref s1.heap.objs.size]) (EP X pins σ Q) X.xe { s1 with heap:=s1.heap.push { cls:=.type "range",data:=.fields #[.int i t,.int j t',.int 1 t2] },toks:=tk0 }:=by
 refine call_list_range (n:=(j - i).toNat) hc (IsRange.new ..) (small_one c1 c2 c3 c4) (by rw[rangeSize_one];split <;> omega) (by omega) λh' tk acc' c' kp hS hacc=> ?_
 have I2:Inv X pins σ H1 { s1 with heap:=s1.heap.push { cls:=.type "range",data:=.fields #[.int i t,.int j t',.int 1 t2] },toks:=tk0 }:=I1.kept λb o e=>HC _ e
 have hn:H1 (s1.heap.push { cls:=.type "range",data:=.fields #[.int i t,.int j t',.int 1 t2] }).objs.size=none:=I2.hok.fresh (HL _)
 have hv:Vals (((HD (j - i).toNat).map λ(k:Nat)=>i+(k:Int)).map V.int) acc'.toList:=by
  refine tZ ?_ ?_
  ·simp[hacc.1]
  ·intro m u hu
   have hu':acc'[m]? =some u:=by simpa using hu
   obtain⟨tk,rfl⟩:=hacc.2 m u hu'
   have hm:m<(j - i).toNat:=by
    have:=(Array.getElem?_eq_some_iff.mp hu').1
    rw[hacc.1]at this;exact this
   refine⟨.int (i+(m:Int)),by simp[hm],⟨tk,?_⟩⟩
   rw[Int.mul_one]
 have I3:Inv X pins σ (upd H1 _ (.lst _)) { s1 with heap:=h',toks:=tk }:=I2.laid (t':=tk) (o:=.lst (((HD (j - i).toNat).map λ(k:Nat)=>i+(k:Int)).map V.int)) kp (HL _) ⟨by rw[HI,HI,Jr,IG];omega,acc'.toList,c',hv,by simpa using hS⟩
 refine⟨.ref _,_,I3,rfl,q1 _ (aO hn _) _ ?_⟩
 rw[w8];exact dS hn (fr _ hn) Reps.ints
theorem xA {X:Cx}{a:Expr}{es:List Expr}{fs:En->Rs (List T)}{p1 p2 pos pos2:Pos}(hc:X.calm=true)(h1:X.mg "list" =none)(h2:X.mg "range" =none)(ha:oB X (a::es) fs)(g1:Gl X "list":=by rfl)(g2:Gl X "range":=by rfl)
  (hn:aX (a::es)=true:=by rfl)
  (he2:HY [.Call (.Name "range" p2) (a::es) [] pos2] X.env=(false,eval (.Call (.Name "range" p2) (a::es) [] pos2) X.env)::HY [] X.env:=by rfl) (hpl2:(backTo pos (HY [] X.env)).any (·.1)=false:=by rfl) :
  bX X (.Call (.Name "list" p1) [.Call (.Name "range" p2) (a::es) [] pos2] [] pos) (lR fs):=by
 unfold aX at hn;rw[Hz]at hn;intro pins s σ H Q I ⟨Z,O,E,hq⟩
 have hz:=dt E hq
 have b1:Iq ("list" : Str)=some (.type "list"):=by decide+kernel
 have b2:Iq ("range" : Str)=some (.type "range"):=by decide+kernel
 refine IR (d9 I g1 h1 b1 ?_ (by decide) (by decide))
 refine IK ?_ he2 hpl2
 rw[he2]
 show wpAny _ _ (spliced ((false,eval (.Call (.Name "range" p2) (a::es) [] pos2) X.env)::backTo pos (HY [] X.env))) _ _ s
 refine J4 ?_
 refine IR (d9 I g2 h2 b2 ?_ (by decide) (by decide))
 refine IK (bR (ha pos2 pins s σ H _ I hz) λus s1 ⟨vs,H1,I1,r1,ts,rs,sm,E1,q1⟩=> ?_) (a9 hn.1) (fz hn.2)
 split at q1
 ·rename_i i j
  split at q1
  ·rename_i hk
   rw[Hz,Hz]at hk;obtain⟨⟨k1,k2⟩,k3⟩:=hk;obtain⟨c1,c2⟩:=ia k1;obtain⟨c3,c4⟩:=ia k2
   have k3:=of_decide_eq_true k3;obtain⟨v,ws,rfl,r2,q⟩:=Reps.me.mp rs;obtain⟨v2,rfl,r3⟩:=q.one;cases Rep.Da.mp r2;cases Rep.Da.mp r3
   cases r1 with
   | cons ra rr=>
    cases rr with
    | cons rb rr=>
     cases rr;obtain⟨t,rfl⟩:=ra;obtain⟨t',rfl⟩:=rb;exact call_range_2 (JT (uD (I.ok.hd hc) I1 c1 c2 c3 c4 k3 (λp=>E1.fresh) q1))
  ·exact q1.elim
 ·rename_i j
  split at q1
  ·rename_i hk
   rw[Hz]at hk;obtain⟨k2,k3⟩:=hk;obtain⟨c3,c4⟩:=ia k2
   have k3:=of_decide_eq_true k3;obtain⟨v,rfl,r2⟩:=rs.one;cases Rep.Da.mp r2
   cases r1 with
   | cons ra rr=>
    cases rr;obtain⟨t,rfl⟩:=ra;exact call_range_1 (JT (uD (I.ok.hd hc) I1 (by omega) (by omega) c3 c4 (by rw[Int.sub_zero];exact k3) (λp=>E1.fresh) q1))
  ·exact q1.elim
 ·exact q1.elim
end Tr
namespace L2
open PySem PySem.Spec PyProof.Rows
section
variable {κ:Type}[DecidableEq κ]
def iJ (kvs:List (κ×V))(k:κ):Option V:=(kvs.find? λkv=>decide (kv.1=k)).map (·.2)
def dj (kvs:List (κ×V))(k:κ)(v:V):List (κ×V):=
 if (kvs.any λkv=>decide (kv.1=k))=true then kvs.map (λkv=>if kv.1=k then(kv.1,v)else kv)else kvs++ [(k,v)]
theorem wH {k:κ}:iJ ([]:List (κ×V)) k=none:=rfl
theorem jk {p:κ×V}{r:List (κ×V)}{k:κ}(e:p.1=k):iJ (p::r) k=some p.2:=by simp[iJ,Ky,e]
theorem jl {p:κ×V}{r:List (κ×V)}{k:κ}(e:¬ p.1=k):iJ (p::r) k=iJ r k:=by simp[iJ,Ky,e]
theorem qD (k:κ):∀kvs:List (κ×V),(kvs.any λkv=>decide (kv.1=k))=(iJ kvs k).isSome
 | [] =>rfl
 | p::r=>by
  rw[Kn]
  by_cases e:p.1=k
  ·simp only[jk e,decide_eq_true e,Bool.true_or,Og]
  ·rw[jl e,decide_eq_false e,Oi];exact qD k r
theorem e9 (kvs:List (κ×V))(k:κ)(v:V):(dj kvs k v).length<=kvs.length+1:=by
 unfold dj;split
 ·rw[HI];omega
 ·rw[HP,HQ,Nr];omega
theorem RelO.G5 {o:Option V}{u:Option HA}(r:RelO o u):o.isSome=u.isSome:=by
 cases o with
 | none=>cases u with
  | none=>rfl
  | some _=>exact(show False from r).elim
 | some _=>cases u with
  | none=>exact(show False from r).elim
  | some _=>rfl
theorem RelO.getD {o:Option V}{u:Option HA}{d:V}{d':HA}(r:RelO o u)(rd:RelV d d'):RelV (o.getD d) (u.getD d'):=by
 cases o with
 | none=>cases u with
  | none=>exact rd
  | some _=>exact(show False from r).elim
 | some _=>cases u with
  | none=>exact(show False from r).elim
  | some _=>exact r
theorem KV.val {kvs:List (κ×V)}{vs:List (κ×HA)}(r:KV kvs vs)(k:κ):RelO (iJ kvs k) (valueAt vs k):=by
 unfold KV at r
 induction r with
 | nil=>exact KD
 | @cons p q ps qs h t ih=>
  obtain⟨h1,h2⟩:=h
  by_cases e:p.1=k
  ·have e':q.1=k:=h1.symm.trans e
   have b:valueAt (q::qs) k=some q.2:=by simp[valueAt,Ky,e']
   rw[jk e,b];exact h2
  ·have e':¬ q.1=k:=λz=>e (h1.trans z)
   have b:valueAt (q::qs) k=valueAt qs k:=by simp[valueAt,Ky,e']
   rw[jl e,b];exact ih
theorem KV.any {kvs:List (κ×V)}{vs:List (κ×HA)}(r:KV kvs vs)(k:κ):(kvs.any λkv=>decide (kv.1=k))=vs.any λkv=>decide (kv.1=k):=by
 unfold KV at r
 induction r with
 | nil=>rfl
 | cons h t ih=>rw[Kn,Kn,ih,h.1]
theorem KV.Hi {kvs:List (κ×V)}{vs:List (κ×HA)}(r:KV kvs vs)(k:κ){y:V}{u:HA}(ry:RelV y u) :
  KV (kvs.map λkv=>if kv.1=k then(kv.1,y)else kv) (vs.map λkv=>if kv.1=k then(kv.1,u)else kv):=by
 unfold KV at r ⊢
 induction r with
 | nil=>exact .nil
 | @cons p q ps qs h t ih=>
  rw[HE,HE];refine .cons ?_ ih
  obtain⟨h1,h2⟩:=h
  by_cases e:p.1=k
  ·rw[if_pos e,if_pos (h1.symm.trans e)];exact⟨h1,ry⟩
  ·rw[if_neg e,if_neg (λz=>e (h1.trans z))];exact⟨h1,h2⟩
theorem KV.put {kvs:List (κ×V)}{vs:List (κ×HA)}(r:KV kvs vs)(k:κ){y:V}{u:HA}(ry:RelV y u):KV (dj kvs k y) (stored vs k u):=by
 unfold dj stored;rw[r.any k]
 by_cases e:(vs.any λkv=>decide (kv.1=k))=true
 ·rw[if_pos e,if_pos e];exact r.Hi k ry
 ·rw[if_neg e,if_neg e];exact Paired.snoc r ⟨rfl,ry⟩
theorem KV.length {kvs:List (κ×V)}{vs:List (κ×HA)}(r:KV kvs vs):kvs.length=vs.length:=MS r
end
theorem uP {P:H0}{w:IP}{k:Key}{u:HA}(r:RelV (kV k) u):(bY P w).is k u=true:=by
 cases k with
 | inl i=>obtain⟨t,e⟩:=(show ∃t,u=IU i t from r);subst e;exact rG P w i t
 | inr x=>obtain⟨t,e⟩:=(show ∃t,u=JG x t from r);subst e;exact rF P w x t
theorem n5 {P:H0}{w:IP}:∀{ks:List Key} {us:List HA},Vals (ks.map kV) us->ItemsAre (bY P w) ks us
 | [],_,r=>by rw[Nn]at r;cases r;exact .nil
 | k::ks,_,r=>by
  rw[HE]at r
  cases r with
  | cons h t=>exact .cons (uP h) (n5 t)
abbrev KT (H:Hp):List (List Key×V)->List (List Key×Addr×HA)->Prop:=M9 λp q=>p.1=q.1/\H q.2.1=some (.tup (p.1.map kV))/\RelV p.2 q.2.2
theorem KT.val {H:Hp}{kvs:List (List Key×V)}{xs:List (List Key×Addr×HA)}(r:KT H kvs xs)(k:List Key):RelO (iJ kvs k) ((atKey xs k).map (·.2)):=by
 induction r with
 | nil=>exact KD
 | @cons p q ps qs h t ih=>
  obtain⟨h1,_,h2⟩:=h
  by_cases e:p.1=k
  ·have e':q.1=k:=h1.symm.trans e
   have b:atKey (q::qs) k=some q.2:=by simp[atKey,Ky,e']
   rw[jk e,b];exact h2
  ·have e':¬ q.1=k:=λz=>e (h1.trans z)
   have b:atKey (q::qs) k=atKey qs k:=by simp[atKey,Ky,e']
   rw[jl e,b];exact ih
theorem KT.Hi {H:Hp}{kvs:List (List Key×V)}{xs:List (List Key×Addr×HA)}(r:KT H kvs xs)(k:List Key){y:V}{u:HA}(ry:RelV y u) :
  KT H (kvs.map λkv=>if kv.1=k then(kv.1,y)else kv) (xs.map (putAt k u)):=by
 induction r with
 | nil=>exact .nil
 | @cons p q ps qs h t ih=>
  rw[HE,HE];refine .cons ?_ ih
  obtain⟨h1,h2,h3⟩:=h;unfold putAt
  by_cases e:p.1=k
  ·rw[if_pos e,if_pos (h1.symm.trans e)];exact⟨h1,h2,ry⟩
  ·rw[if_neg e,if_neg (λz=>e (h1.trans z))];exact⟨h1,h2,h3⟩
theorem KT.put {H:Hp}{kvs:List (List Key×V)}{xs:List (List Key×Addr×HA)}(r:KT H kvs xs)(k:List Key){b:Addr}{y:V}{u:HA}(hb:H b=some (.tup (k.map kV)))(ry:RelV y u) :
  KT H (dj kvs k y) (storedH xs k b u):=by
 have e:(kvs.any λkv=>decide (kv.1=k))=(atKey xs k).isSome:=by
  rw[qD,(r.val k).G5,Option.isSome_map]
 unfold dj storedH;rw[e]
 by_cases q:(atKey xs k).isSome=true
 ·rw[if_pos q,if_pos q];exact r.Hi k ry
 ·rw[if_neg q,if_neg q];exact Paired.snoc r ⟨rfl,hb,ry⟩
theorem KT.keeps {H H':Hp}{kvs:List (List Key×V)}{xs:List (List Key×Addr×HA)}(r:KT H kvs xs)(ht:∀b ys,H b=some (.tup ys)->H' b=some (.tup ys)):KT H' kvs xs:=
 Paired.Ha r λ_ _ z=>⟨z.1,ht _ _ z.2.1,z.2.2⟩
section
variable {P:H0}{w:IP}{H:Hp}{h:Heap}{a:Addr}
theorem nL {u:HO}(ok:HOk P w H h)(e:Rd H a u):ObjOk P w H h a u:=e.ok ok
theorem rY {kvs:List (Key×V)}(ok:HOk P w H h)(e:Rd H a (.dK kvs)):kvs.length<=sizeLine/\(a == KG)=false/\∃vs,KV kvs vs/\h.DictOf (bY P w) a vs:=
 show ObjOk P w H h a (.dK kvs)from nL ok e
theorem Gg {kvs:List (Key×V)}(ok:HOk P w H h)(e:H a=some (.dK kvs)):kvs.length<=sizeLine/\(a == KG)=false/\∃vs,KV kvs vs/\h.DictOf (bY P w) a vs:=rY ok (.inl e)
theorem key_of {ks:List Key}(ok:HOk P w H h)(e:H a=some (.tup (ks.map kV))):(MM (bY P w)).is h ks a:=by
 obtain⟨_,its,r,o,h1,h2,n,h3⟩:=(show ObjOk P w H h a (.tup (ks.map kV))from ok a _ e)
 exact⟨o,its.toArray,n,h1,h2,h3,by simpa using n5 r⟩
theorem rW {kvs:List (List Key×V)}(ok:HOk P w H h)(e:Rd H a (.dT kvs)):kvs.length<=sizeLine/\(a == KG)=false ∧
  ∃xs,KT H kvs xs/\h.DictOfH (MM (bY P w)) a xs:=by
 obtain⟨z,y,xs,r,o,es,ep,h1,h2,h3,h4,h5⟩:=(show ObjOk P w H h a (.dT kvs)from nL ok e)
 refine⟨z,y,xs,r,o,es,ep,h1,h2,h3,h4,λx hx=> ?_,h5⟩
 have all:∀{l:List (List Key×V)} {m:List (List Key×Addr×HA)},KT H l m->∀x∈m,(MM (bY P w)).is h x.1 x.2.1:=by
  intro l m q
  induction q with
  | nil=>intro x hx;exact nomatch hx
  | @cons p q ps qs hq t ih=>
   intro x hx;rcases HS.mp hx with e | hx
   ·subst e
    exact key_of ok (by rw[<-hq.1];exact hq.2.1)
   ·exact ih x hx
 exact all r x hx
theorem zC {kvs:List (List Key×V)}(ok:HOk P w H h)(e:H a=some (.dT kvs)):kvs.length<=sizeLine/\(a == KG)=false ∧
  ∃xs,KT H kvs xs/\h.DictOfH (MM (bY P w)) a xs:=rW ok (.inl e)
end
def DGet (H:Hp)(a:Addr)(y:V)(r:Option V):Prop:=
 (∃kvs k,Rd H a (.dK kvs)/\y=kV k/\r=iJ kvs k)\/∃kvs k b,Rd H a (.dT kvs)/\y= .ref b/\H b=some (.tup (k.map kV))/\r=iJ kvs k
def DPut (H:Hp)(a:Addr)(y v:V)(H':Hp):Prop:=
 (∃kvs k,H a=some (.dK kvs)/\y=kV k/\kvs.length<sizeLine/\H'=upd H a (.dK (dj kvs k v))) ∨
 ∃kvs k b,H a=some (.dT kvs)/\y= .ref b/\H b=some (.tup (k.map kV))/\kvs.length<sizeLine/\H'=upd H a (.dT (dj kvs k v))
theorem DPut.t {H:Hp}{a b:Addr}{kvs:List (List Key×V)}{k:List Key}{v:V}(e:H a=some (.dT kvs))(eb:H b=some (.tup (k.map kV)))(hl:kvs.length<sizeLine) :
  DPut H a (.ref b) v (upd H a (.dT (dj kvs k v))):=.inr ⟨kvs,k,b,e,rfl,eb,hl,rfl⟩
section
variable {X:Cx}{pins:List (Addr×Obj)}{σ:St}{H:Hp}{s:HB}{a:Addr}{y v:V}{u r:HA}{o:Option V}{A:Iu}{E:HA->HB->Prop}
theorem Inv.big (I:Inv X pins σ H s):KG<s.heap.objs.size:=by
 have h:Ie<s.heap.objs.size:=(I.mod.glob.keeps I.bk).lt;exact Mp (by decide) h
theorem v8 {Q:HA->HB->Prop}(hu:A.units+1<cLine)(I:Inv X pins σ H s)(g:DGet H a y (some v))(ry:RelV y u)(h:∀w' s',Inv X pins σ H s'->RelV v w'->Q w' s') :
  wpAny (model X.prog X.w) A (getItem (.ref a) u) Q E s:=by
 rcases g with⟨kvs,k,e,ey,l⟩ | ⟨kvs,k,b,e,ey,eb,l⟩
 ·subst ey
  obtain⟨z,hd,vs,rel,dd⟩:=rY I.hok e;obtain⟨w',hw,rw'⟩:=RelO.some_of (v:=v) (o:=valueAt vs k) (by rw[l];exact rel.val k)
  exact wpAny_getItem_of (uP ry) dd.mapOf hw (h w' _ (I.tok _) rw')
 ·subst ey
  cases (show u=Iv b from ry)
  obtain⟨z,hd,xs,rel,dd⟩:=rW I.hok e;obtain⟨w',hw,rw'⟩:=RelO.some_of (v:=v) (o:=(atKey xs k).map (·.2)) (by rw[l];exact rel.val k)
  obtain⟨p,hp,hp2⟩:=Lj.mp hw;refine wpAny_getItem_heap (Ld hu) (key_of I.hok eb) dd hp ?_
  rw[hp2];exact h w' _ (I.tok _) rw'
theorem qj {h':Heap}{t':Nat}{ob:HO}(I:Inv X pins σ H s)(mu:Gn (H a))(hs:K2 a s.heap h')(he:∃q,h'.get? a=some q)(new:ObjOk X.prog X.w (upd H a ob) h' a ob) :
  Inv X pins σ (upd H a ob) { s with heap:=h',toks:=t' }:=
 I.write (x:=a) (e:=a) mu (.inl rfl) (λb q hb z=>(hs.2 b hb).trans z) he new
theorem Eh {P:H0}{w:IP}{H':Hp}{h':Heap}{kvs:List (Key×V)}{vs:List (Key×HA)}(z:kvs.length<=sizeLine)(hd:(a == KG)=false)(rel:KV kvs vs)(dd:h'.DictOf (bY P w) a vs) :
  ObjOk P w H' h' a (.dK kvs):=⟨z,hd,vs,rel,dd⟩
theorem v7 {H':Hp}{Q:Unit->HB->Prop}(hu:A.units+1<cLine)(I:Inv X pins σ H s)(g:DPut H a y v H')(ry:RelV y u)(rv:RelV v r)(h:∀s',Inv X pins σ H' s'->Q () s') :
  wpAny (model X.prog X.w) A (setItem (.ref a) u r) Q E s:=by
 rcases g with⟨kvs,k,e,ey,l,eH⟩ | ⟨kvs,k,b,e,ey,eb,l,eH⟩
 ·subst ey eH
  obtain⟨z,hd,vs,rel,dd⟩:=Gg I.hok e
  have hz:vs.length<=sizeLine:=by rw[<-rel.length];exact z
  have hl:(dj kvs k v).length<=sizeLine:=by have:=e9 kvs k v;omega
  refine wpAny_setItem_pairs (hsz:=hz) (uP ry) dd λh' dd' hs=>h _ ?_
  have he:∃q,h'.get? a=some q:=let ⟨q,_,_,hq,_⟩:=dd';⟨q,hq⟩
  exact qj I (by rw[e];exact KD) hs he (Eh hl hd (rel.put k rv) dd')
 ·subst ey eH
  cases (show u=Iv b from ry)
  obtain⟨z,hd,xs,rel,dd⟩:=zC I.hok e
  have hz:xs.length<=sizeLine:=by rw[<-MS rel];exact z
  have hl:(dj kvs k v).length<=sizeLine:=by have:=e9 kvs k v;omega
  refine wpAny_setItem_heap (hsz:=hz) (Ld hu) (key_of I.hok eb) dd λh' dd' hs=>h _ ?_
  obtain⟨q,es,ep,hq,h2,h3,h4,_,h5⟩:=dd';refine qj I (by rw[e];exact KD) hs ⟨q,hq⟩ ⟨hl,hd,_,(rel.put k eb rv).keeps λc ys ec=> ?_,q,es,ep,hq,h2,h3,h4,h5⟩
  rw[aJ (rC ec e (λz=>nomatch z))]
  exact ec
end
def BR (i:Expr):Prop:=∀ov iv,N7 i false ov iv=operate [ov,iv] (getItem ov iv)
theorem Aj {prog:H0}{w:IP}{A:Iu}{E:HA->HB->Prop}{s:HB}{env:Env}{value slice:Expr}{pos:Pos}{T id:String}{Q:HA->HB->Prop}
  (hl:O4 (.type T) "__getitem__" =pure (some (.builtin id))) (hs:BR slice)
  (h:wpAny (model prog w) A (eval value env) (λo s₁=>wpAny (model prog w) A (eval slice env) (λi s₂=>s₂.TypeIs o T/\wpAny (model prog w) A (getItem o i) Q E s₂) E s₁) E s) :
  wpAny (model prog w) A (eval (.Subscript value slice pos) env) Q E s:=by
 refine Subscript_ (J3 h (λo s₁ h₁=>J3 h₁ (λi s₂ h₂=> ?_) λ_ _ x=>x) λ_ _ x=>x)
 obtain⟨hT,h₂⟩:=h₂;unfold OC;refine Hw ?_
 rw[getitemInPython_of_ne hT.not_modules];refine Hw (P6 hT hl ?_)
 have fin:wpAny (model prog w) A (N7 slice false o i) (λr s₃=>wpAny (model prog w) A (letTemporaryGo value o r >>= λ_=>pure r) Q E s₃) E s₂:=by
  rw[hs o i];exact wpAny_operating (J3 h₂ (λr s₃ h₃=>Hw (wpAny_letTemporaryGo (HF h₃))) λ_ _ x=>x)
 first
  | exact HF (Hw fin)
  | exact Hw (HF (Hw fin))
  | exact Hw fin
theorem r6 {X:Cx}{pins:List (Addr×Obj)}{σ:St}{H:Hp}{s:HB}{a:Addr}{y:V}{o:Option V}(I:Inv X pins σ H s)(g:DGet H a y o):s.TypeIs (.ref a) "dict":=by
 rcases g with⟨kvs,k,e,_,_⟩ | ⟨kvs,k,b,e,_,_,_⟩
 ·obtain⟨_,_,vs,_,dd⟩:=rY I.hok e
  exact dd.typeIs
 ·obtain⟨_,_,xs,_,dd⟩:=rW I.hok e
  exact dd.typeIs
def ET (td ty:TE):TE:=λσ H Q=>td σ H λx H1=>ty σ H1 λy H2=> ∃a v,x= .ref a/\DGet H2 a y (some v)/\Q v H2
def EY (td ty tv:TE):TS:=λD σ H=>tv σ H λv H1=>td σ H1 λx H2=>ty σ H2 λy H3=> ∃a H4,x= .ref a/\DPut H3 a y v H4/\D.nx σ H4
section
variable {X:Cx}{o i e value:Expr}{pos pos' tpos:Pos}{td ty tv:TE}
theorem A4 (hu:X.A.units+1<cLine)(ho:PE X o td)(hi:PE X i ty)(hs:BR i):PE X (.Subscript o i pos) (ET td ty):=by
 intro pins s σ H Q I h;refine Aj PySem.F.slot_dict_getitem.lookup hs (bR (ho pins s σ H _ I h) λu s1 ⟨x,H1,I1,rx,q1⟩=>bR (hi pins s1 σ H1 _ I1 q1) λiv s2 hh_=> ?_)
 obtain⟨y,H2,I2,ry,a,v,ex,g,q2⟩:=hh_;subst ex;obtain rfl:u=Iv a:=rx;exact⟨r6 I2 g,v8 hu I2 g ry λw' s3 I3 rw'=>⟨v,H2,I3,rw',q2⟩⟩
theorem AR (hu:X.A.units+1<cLine)(ho:PE X o td)(hi:PE X i ty)(hv:PE X value tv)(hs:JK value (some (.Subscript o i pos')) pos.line X.env=pure false) :
  PS X (.Assign [.Subscript o i pos'] value pos) (EY td ty tv):=by
 intro pins s σ H D I h;refine wpAny_Assign_Subscript (bR (hv pins s σ H _ I h) λr s1 ⟨v,H1,I1,rv,q1⟩=>bR (ho pins s1 σ H1 _ I1 q1) λu s2 ⟨x,H2,I2,rx,q2⟩=>bR (hi pins s2 σ H2 _ I2 q2) λiv s3 ⟨y,H3,I3,ry,a,H4,ex,g,q3⟩=> ?_) hs
 subst ex;obtain rfl:u=Iv a:=rx;exact v7 hu I3 g ry rv λs4 I4=>⟨σ,H4,I4,q3⟩
end
theorem zD {P:H0}{w:IP}{H:Hp}(h:Heap)(hb:KG<h.objs.size):ObjOk P w H (h.push { cls:=.type "dict",data:=.dict #[] }) h.objs.size (.dT []):=
 ⟨IC _,beq_eq_false_iff_ne.mpr (Mu (HZ hb)),[],.nil,_,#[],0,HR _ rfl,⟨rfl,rfl,rfl⟩,rfl,rfl,Lw⟩
structure M1 (X:Cx)(o:Expr)(m:Str)(apos:Pos)(e:Expr)(cpos:Pos):Prop where
 base:JE o m X.env (eval o X.env)=eval o X.env
 few:((backTo cpos (HY [e] X.env)).all (λx=> !x.1)&&(backToKw cpos (P3 [] X.env)).all (λx=>x.1.isSome)
  &&decide (([e]:List Expr).length+([]:List P4).length+(if ([]:List P4).isEmpty then 0 else 1)<30))=true
 line:(apos.endLine == cpos.line)=true
 trees:backTo cpos (HY [e] X.env)= [(false,eval e X.env)]
structure M2 (X:Cx)(o:Expr)(m:Str)(apos:Pos)(e f:Expr)(cpos:Pos):Prop where
 base:JE o m X.env (eval o X.env)=eval o X.env
 few:((backTo cpos (HY [e,f] X.env)).all (λx=> !x.1)&&(backToKw cpos (P3 [] X.env)).all (λx=>x.1.isSome)
  &&decide (([e,f]:List Expr).length+([]:List P4).length+(if ([]:List P4).isEmpty then 0 else 1)<30))=true
 line:(apos.endLine == cpos.line)=true
 trees:backTo cpos (HY [e,f] X.env)= [(false,eval e X.env),(false,eval f X.env)]
def IsD (H:Hp)(a:Addr):Prop:=(∃kvs,Rd H a (.dK kvs))\/∃kvs,Rd H a (.dT kvs)
theorem DV {X:Cx}{pins:List (Addr×Obj)}{σ:St}{H:Hp}{s:HB}{a:Addr}(I:Inv X pins σ H s)(d:IsD H a) :
  s.TypeIs (.ref a) "dict"/\(∀b,Iv a= .ref b->∃ob,s.heap.get? b=some ob/\ob.dict=none)/\(a == KG)=false:=by
 rcases d with⟨kvs,e⟩ | ⟨kvs,e⟩
 ·obtain⟨_,hd,vs,_,dd⟩:=rY I.hok e
  refine⟨dd.typeIs,λb q=> ?_,hd⟩
  cases q;obtain⟨ob,_,_,h1,h2,_⟩:=dd;exact⟨ob,h1,h2.2.1⟩
 ·obtain⟨_,hd,xs,_,dd⟩:=rW I.hok e
  refine⟨dd.typeIs,λb q=> ?_,hd⟩
  cases q;obtain⟨ob,_,_,h1,h2,_⟩:=dd;exact⟨ob,h1,h2.2.1⟩
section
variable {X:Cx}{pins:List (Addr×Obj)}{σ:St}{H:Hp}{s:HB}{a:Addr}{y d:V}{u r:HA}{o:Option V}{A:Iu}{E:HA->HB->Prop}
theorem El {Q:HA->HB->Prop}(hu:A.units+1<cLine)(I:Inv X pins σ H s)(g:DGet H a y o)(ry:RelV y u)(h:∀w' s',Inv X pins σ H s'->RelV (o.getD .non) w'->Q w' s') :
  wpAny (model X.prog X.w) A (call (.builtin "dict.get") [.ref a,u]) Q E s:=by
 rcases g with⟨kvs,k,e,ey,l⟩ | ⟨kvs,k,b,e,ey,eb,l⟩
 ·subst ey
  obtain⟨z,hd,vs,rel,dd⟩:=rY I.hok e;refine call_meetsIn LC dd.typeIs Nc (MP _ _) (meets_dict_get (bY X.prog X.w) a (uP ry) hd) ⟨_,dd.mapOf,h _ _ (I.tok _) ?_⟩
  rw[l];exact(rel.val k).getD rfl
 ·subst ey
  cases (show u=Iv b from ry)
  obtain⟨z,hd,xs,rel,dd⟩:=rW I.hok e;refine call_meetsIn LC dd.typeIs Nc (MP _ _) (meetsH_dict_get (MM (bY X.prog X.w)) a b hd) ⟨Ld hu,k,xs,key_of I.hok eb,dd,h _ _ (I.tok _) ?_⟩
  rw[l];exact(rel.val k).getD rfl
end
def Ct (td ty:TE):TE:=λσ H Q=>td σ H λx H1=> ∃a,x= .ref a/\IsD H1 a/\ty σ H1 λy H2=> ∃o,DGet H2 a y o/\Q (o.getD .non) H2
section
variable {X:Cx}{o e f:Expr}{apos cpos:Pos}{td ty tx:TE}
theorem xR (hu:X.A.units+1<cLine)(ho:PE X o td)(he:PE X e ty)(m:M1 X o "get" apos e cpos):PE X (.Call (.Attribute o "get" apos) [e] [] cpos) (Ct td ty):=by
 intro pins s σ H Q I h;refine wpAny_Call_method m.base m.few m.line PySem.F.plainAttrs_dict LC PySem.F.type_dict_get (bR (ho pins s σ H _ I h) λu s1 hh_=> ?_)
 obtain⟨x,H1,I1,rx,a,ex,d,q1⟩:=hh_;subst ex;obtain rfl:u=Iv a:=rx;obtain⟨t1,t2,_⟩:=DV I1 d;refine⟨t1,t2,?_⟩
 rw[m.trees];refine Lg rfl (KM (J4 (bR (he pins s1 σ H1 _ I1 q1) λiv s2 ⟨y,H2,I2,ry,ov,g,q2⟩=>JT ?_)))
 exact El hu I2 g ry λw' s3 I3 rw'=>⟨_,H2,I3,rw',q2⟩
end
end L2
namespace Tr
open PySem PySem.Spec PyProof.Rows L2
theorem DGet.Hl {H:Hp}{a b:Addr}{kvs:List (List Key×V)}{k:List Key}(e:Rd H a (.dT kvs))(eb:H b=some (.tup (k.map kV))):DGet H a (.ref b) (iJ kvs k):=.inr ⟨kvs,k,b,e,rfl,eb,rfl⟩
theorem GB {k:Nat}{A:Iu}(h:Room k A):A.units+1<cLine:=by have:=h.un;omega
theorem mr {K:Hy}{O:Ow}{H:Hp}:∀{l:List T} {vs:List V} {k:List Key},mw l=some k->Reps K O H l vs->vs=k.map kV
 | [],vs,k,h,r=>by cases Reps.AC.mp r;cases h;rfl
 | t::l,vs,k,h,r=>by
  obtain⟨v,ws,rfl,p,q⟩:=Reps.me.mp r;unfold mw at h
  cases e1:B8 t with
  | none=>rw[e1]at h;cases h
  | some a=>
   cases e2:mw l with
   | none=>rw[e1,e2]at h;cases h
   | some b=>
    rw[e1,e2]at h;cases h;rw[mr e2 q,HE]
    congr 1
    cases t with
    | int i=>cases e1;exact Rep.Da.mp p
    | str x=>cases e1;exact Rep.Gc.mp p
    | _=>cases e1
theorem kZ {K:Hy}{O:Ow}{H:Hp}{y:T}{v:V}{k:List Key}(h:keyOf y=some k)(r:Rep K O H y v):∃b,v= .ref b/\H b=some (.tup (k.map kV)):=by
 cases y with
 | tup l=>
  obtain⟨a,vs,e1,_,e3,e4⟩:=Rep.Fk.mp r;rw[mr h e4]at e3
  exact⟨a,e1,e3⟩
 | _=>cases h
theorem mK {K:Hy}{O:Ow}{H:Hp}{k:List Key}:∀{ks ts:List T} {kvs:List (List Key×V)},ks.map keyOf=kvs.map (λp=>some p.1)->Reps K O H ts (kvs.map (·.2))->match nr ks ts k with
  | some t=> ∃v,iJ kvs k=some v/\Rep K O H t v
  | none=>iJ kvs k=none
 | [],ts,kvs,h,r=>by
  cases kvs with
  | nil=>unfold nr;exact wH
  | cons _ _=>cases h
 | k'::ks,ts,kvs,h,r=>by
  cases kvs with
  | nil=>cases h
  | cons p kvs=>
   rw[HE,HE]at h;injection h with h1 h2
   rw[HE]at r
   cases ts with
   | nil=>have:=Reps.AC.mp r;cases this
   | cons t ts=>
    obtain⟨v,ws,e,q1,q2⟩:=Reps.me.mp r;injection e with e1 e2
    subst e1 e2;unfold nr
    by_cases hk:keyOf k'=some k
    ·rw[if_pos hk]
     rw[h1]at hk;injection hk with hk
     exact⟨_,jk hk,q1⟩
    ·rw[if_neg hk]
     have hk2:¬ p.1=k:=λz=>hk (by rw[h1,z])
     rw[jl hk2];exact mK h2 q2
theorem pe {κ:Type}[DecidableEq κ]{k:κ}{p:κ×V}{r:List (κ×V)}{v:V}(h:¬ p.1=k):dj (p::r) k v=p::dj r k v:=by
 unfold dj;rw[Kn,decide_eq_false h,Oi]
 by_cases q:(r.any λkv=>decide (kv.1=k))=true
 ·rw[if_pos q,if_pos q,HE,if_neg h]
 ·rw[if_neg q,if_neg q];rfl
theorem pf {κ:Type}[DecidableEq κ]{k:κ}{p:κ×V}{r:List (κ×V)}{v:V}(h:p.1=k)(hn:∀q∈r,q.1≠k):dj (p::r) k v=(p.1,v)::r:=by
 unfold dj;rw[Kn,decide_eq_true h,Bool.true_or,if_pos rfl,HE,if_pos h]
 congr 1
 conv=>rhs;rw[<-PN r]
 exact Jq λq hq=>if_neg (hn q hq)
theorem mI {K:Hy}{O:Ow}{H:Hp}{kT vT:T}{k:List Key}{v:V}(hk:keyOf kT=some k)(hv:Rep K O H vT v):∀{ks ts:List T} {kvs:List (List Key×V)},ks.map keyOf=kvs.map (λp=>some p.1)->Reps K O H ts (kvs.map (·.2))->(kvs.map (·.1)).Nodup →
  (fV kT vT ks ts).1.map keyOf=(dj kvs k v).map (λp=>some p.1)/\Reps K O H (fV kT vT ks ts).2 ((dj kvs k v).map (·.2))
 | [],ts,kvs,h,r,_=>by
  cases kvs with
  | nil=>
   unfold fV;refine⟨?_,Reps.FS hv Reps.GO⟩
   simp[dj,hk]
  | cons _ _=>cases h
 | k'::ks,ts,kvs,h,r,hn=>by
  cases kvs with
  | nil=>cases h
  | cons p kvs=>
   rw[HE,HE]at h;injection h with h1 h2
   rw[HE]at r;rw[HE]at hn;obtain⟨n1,n2⟩:=IV.mp hn
   cases ts with
   | nil=>have:=Reps.AC.mp r;cases this
   | cons t ts=>
    obtain⟨v',ws,e,q1,q2⟩:=Reps.me.mp r;injection e with e1 e2
    subst e1 e2;unfold fV
    by_cases hz:keyOf k'=keyOf kT
    ·rw[if_pos hz]
     have hp:p.1=k:=by rw[hz,hk]at h1;injection h1 with h1;exact h1.symm
     rw[pf hp λq hq z=>n1 (by rw[hp,<-z];exact List.mem_map_of_mem hq)]
     exact⟨by rw[HE,HE,h1,h2],Reps.FS hv q2⟩
    ·rw[if_neg hz]
     have hp:¬ p.1=k:=λz=>hz (by rw[h1,z,hk])
     obtain⟨a1,a2⟩:=mI hk hv h2 q2 n2;rw[pe hp];exact⟨by rw[HE,HE,h1,a1],Reps.FS q1 a2⟩
theorem BS {H:Hp}{kvs:List (List Key×V)}{xs:List (List Key×Addr×HA)}(rel:KT H kvs xs):kvs.map (·.1)=xs.map (·.1):=by
 induction rel with
 | nil=>rfl
 | cons h t ih=>rw[HE,HE,ih,h.1]
theorem zH {X:Cx}{pins:List (Addr×Obj)}{σ:L2.St}{H:Hp}{s:HB}{a:Addr}{kvs:List (List Key×V)}(I:Inv X pins σ H s)(e:H a=some (.dT kvs)):(kvs.map (·.1)).Nodup/\kvs.length<=sizeLine:=by
 obtain⟨z,_,xs,rel,_,_,_,_,_,_,_,_,hn⟩:=zC I.hok e;rw[BS rel];exact⟨hn,z⟩
section
variable {X:Cx}{a b:Expr}{fa fb:En->Rs T}{pos:Pos}
theorem Fm (hu:X.A.units+1<cLine)(ha:bX X a fa)(hb:bX X b fb)(hs:BR b:=by intro _ _;rfl):bX X (.Subscript a b pos) (o2 rZ fa fb):=by
 refine PE.imp (A4 hu ha hb hs) λσ H Q ⟨Z,O,E,hq⟩=> ?_
 obtain⟨Z1,O1,E1,h1⟩:=aU E hq;refine⟨Z1,O1,E1,Post.mono h1 λt H1 s1 q v r=> ?_⟩
 obtain⟨t',r',s',E',q'⟩:=q v r;obtain⟨Z2,O2,E2,h2⟩:=aU (f:=fb) E' q';refine⟨Z2,O2,E2,Post.mono h2 λt2 H2 s2 q2 v2 r2=> ?_⟩
 obtain⟨t2',r2',s2',E2',q2'⟩:=q2 v2 r2
 have r'':=r'.same s2';unfold rZ at q2'
 split at q2'
 ·rename_i ks vs k hk
  split at q2'
  ·rename_i x hx
   obtain⟨a,kvs,e1,e2,e3,e4,e5⟩:=Rep.GM.mp r'';obtain⟨b,f1,f2⟩:=kZ hk r2'
   have g:=mK (k:=k) e4 e5;rw[hx]at g;obtain⟨w,g1,g2⟩:=g;exact⟨a,w,e1,by rw[f1,<-g1];exact DGet.Hl e3 f2,q2' H2 (Same.refl H2) w g2⟩
  ·exact q2'.elim
 ·exact q2'.elim
end
end Tr
namespace Tr
open PySem PySem.Spec PyProof.Rows L2
open PySem.SeqAt
theorem yj {A:Iu}{s:HB}{x:T}{ux:HA}(rx:ReV s x ux)(hu:A.units+60<cLine){l:List T}{us:List HA}(hd:x.dep<=60\/deps l<=60)(r:ReVs s l us) :
  ∃e:HA->Bool,(∀y∈us,EqAt A s y ux (e y))/\us.map e=l.map λt=>aR t x:=by
 classical
 have ex:∀y∈us,∃t∈l,ReV s t y:=λy hy=>by
  obtain⟨i,hi,rfl⟩:=Jf hy
  have hl:=r.length
  have e1:l[i]? =some l[i]:=by simp
  obtain⟨u,q1,q2⟩:=r.get e1
  have:us[i]? =some us[i]:=by simp
  rw[this]at q1;cases q1;exact⟨l[i],Jy _,q2⟩
 let e:HA->Bool:=λy=>decide (∃t∈l,ReV s t y/\aR t x=true)
 have dep:∀t∈l,t.dep<=60\/x.dep<=60:=λt ht=>by
  rcases hd with h | h
  ·exact .inr h
  ·obtain⟨i,hi,rfl⟩:=Jf ht
   exact .inl (Ii (gH (i:=i) (by simp)) h)
 have uniq:∀y t t',ReV s t y->ReV s t' y->aR t x=aR t' x:=λy t t' z z'=>by
  rw[<-jN t,<-jN t',ReV.nf z z']
 have agree:∀y t,t∈l->ReV s t y->e y=aR t x:=λy t h z=>by
  show decide (∃t∈l,ReV s t y/\aR t x=true)=aR t x
  cases q:aR t x with
  | true=>exact decide_eq_true ⟨t,h,z,q⟩
  | false=>
   refine decide_eq_false ?_
   rintro ⟨t',h',z',q'⟩
   rw[<-uniq y t t' z z',q]at q';cases q'
 refine⟨e,λy hy=> ?_,?_⟩
 ·obtain⟨t,h,z⟩:=ex y hy
  rw[agree y t h z];exact(BA 60 A s t x y ux (dep t h) hu z rx).1
 ·have go:∀(l':List T) (us':List HA),(∀t∈l',t∈l)->ReVs s l' us'->us'.map e=l'.map λy=>aR y x:=by
   intro l'
   induction l' with
   | nil=>intro us' _ r';rw[ReVs.AC.mp r'];rfl
   | cons t l' ih=>
    intro us' sub r';obtain⟨u,ws,rfl,p,q⟩:=ReVs.me.mp r';rw[HE,HE,ih ws (λt ht=>sub t (HH _ ht)) q,agree u t (sub t HK) p]
  exact go l us (λ_ h=>h) r
theorem mH {x:T}:∀{l:List T} {n k:Nat},ie x l n=some k->n<=k/\(l.map λt=>aR t x)[k - n]? =some true/\∀m,m<k - n->(l.map λt=>aR t x)[m]? =some false
 | [],n,k,h=>by cases h
 | t::l,n,k,h=>by
  unfold ie at h
  cases q:aR t x with
  | true=>
   rw[q,if_pos rfl]at h;cases h;refine⟨HL _,?_,λm hm=>by omega⟩
   rw[Nt,HE,q];rfl
  | false=>
   rw[q,if_neg (by decide)]at h
   obtain⟨h1,h2,h3⟩:=mH h
   have e:k - n=(k - (n+1))+1:=by omega
   refine⟨by omega,?_,λm hm=> ?_⟩
   ·rw[e,HE,Ko];exact h2
   ·cases m with
    | zero=>rw[HE,q];rfl
    | succ m=>rw[HE,Ko];exact h3 m (by omega)
section
variable {X:Cx}{a b:Expr}{fa fb:En->Rs T}{pos apos cpos:Pos}
theorem xC (hu:X.A.units+61<cLine)(ha:bX X a fa)(hb:bX X b fb)(hn:bL b=true:=by rfl)
  (hbase:JE a "index" X.env (eval a X.env)=eval a X.env:=by rfl) (hline:(apos.endLine == cpos.line)=true:=by rfl):bX X (.Call (.Attribute a "index" apos) [b] [] cpos) (oL eZ fa fb):=by
 have hs:HY [b] X.env=(false,eval b X.env)::HY [] X.env:=a9 hn;intro pins s σ H Q I ⟨Z,O,E,hq⟩;refine Nj hbase (by rw[hs];rfl) hline rfl (bR (ha pins s σ H _ I (aU E hq)) λv s1 hh_=> ?_)
 obtain⟨x,H1,I1,r1,t,rt,s',E',q1⟩:=hh_
 cases t with
 | lst l=>
  obtain⟨c,vs,e1,e2,e3,e4⟩:=Rep.Do.mp rt;subst e1;obtain rfl:v=Iv c:=r1;obtain⟨h1,h2⟩:=wL I1 (show RelV (.ref c) (.ref c)from rfl) (.inl ⟨rfl,vs,SqL.of e3⟩)
  refine⟨_,_,K7,PySem.F.slot_list_index,PySem.F.type_list_index,h1,h2,?_⟩
  rw[hs];refine Lg rfl (KM (J4 (bR (hb pins s1 σ H1 _ I1 (aU (f:=fb) E' q1)) λu s2 ⟨y,H2,I2,r2,t2,rt2,s'',E'',q2⟩=>JT ?_)))
  unfold eZ at q2
  split at q2
  ·rename_i l' heq
   cases heq
   split at q2
   ·rename_i hd3
    obtain⟨hd,hnx,hny⟩:=hd3
    split at q2
    ·rename_i k hk
     have rv:=Rep.val I2 (show(T.lst l).nd=true by unfold T.nd;exact hny) (rt.same s'') (show RelV (.ref c) (.ref c)from rfl)
     unfold ReV at rv;obtain⟨c',us,ec,hl,rs⟩:=rv;cases ec;obtain⟨⟨cls,dd,data,sl⟩,ho,hc,n,hdd⟩:=id hl;simp only at hc hdd;subst hc hdd;obtain⟨e,he,ha⟩:=yj (A:=X.A.in1) (Rep.val I2 hnx rt2 r2) (by show X.A.units+1+60<cLine;omega) hd rs
     obtain⟨_,k1,k2⟩:=mH hk;rw[Mq]at k1 k2;rw[<-ha]at k1 k2
     have hkl:k<us.length:=by have:=(HN.mp k1).1;rwa [HI]at this
     have hz:us.length<=sizeLine:=by
      have z:=(I2.GR (s'' _ _ e3)).1
      have h3:=rs.length
      have h4:=e4.length;omega
     refine L0 F.slot_list_index ⟨_,ho,rfl⟩ F.entry_list_index (F.args_list_index_2 _ _) (list_indexAt c us.toArray n dd sl u e k (by simpa using hkl) (by rw[IG]at hz;omega) ?_ ?_) ⟨ho,λy hy=>he y (by simpa using hy),?_⟩
     ·have:=(HN.mp k1).2
      rw[LL]at this
      simpa using this
     ·intro m hm hmk
      have:=(HN.mp (k2 m hmk)).2
      rw[LL]at this
      simpa using this
     ·exact⟨.int _,H2,I2.tok _,⟨_,rfl⟩,q2 H2 (Same.refl H2) _ (Rep.GL _)⟩
    ·exact q2.elim
   ·exact q2.elim
  ·rename_i hno
   exact(hno l rfl).elim
 | _=>exact q1.elim
theorem C6 (hu:X.A.units+1<cLine)(ha:bX X a fa)(hb:bX X b fb)(hn:bL b=true:=by rfl)
  (hbase:JE a "get" X.env (eval a X.env)=eval a X.env:=by rfl) (hline:(apos.endLine == cpos.line)=true:=by rfl):bX X (.Call (.Attribute a "get" apos) [b] [] cpos) (oD gg fa fb):=by
 have hs:HY [b] X.env=(false,eval b X.env)::HY [] X.env:=a9 hn;refine PE.imp (xR hu ha hb ⟨hbase,by rw[hs];rfl,hline,by rw[hs];rfl⟩) λσ H Q ⟨Z,O,E,hq⟩=> ?_
 obtain⟨Z1,O1,E1,h1⟩:=aU E hq;refine⟨Z1,O1,E1,Post.mono h1 λt H1 s1 q v r=> ?_⟩
 obtain⟨t',r',s',E',q'⟩:=q v r
 cases t' with
 | dct ks vs=>
  obtain⟨c,kvs,e1,e2,e3,e4,e5⟩:=Rep.GM.mp r';refine⟨c,e1,.inr ⟨kvs,e3⟩,?_⟩
  obtain⟨Z2,O2,E2,h2⟩:=aU (f:=fb) E' q';refine⟨Z2,O2,E2,Post.mono h2 λt2 H2 s2 q2 v2 r2=> ?_⟩
  obtain⟨t2',r2',s2',E2',q2'⟩:=q2 v2 r2;unfold gg at q2'
  split at q2'
  ·rename_i ks' vs' k heq hk
   cases heq;obtain⟨b,f1,f2⟩:=kZ hk r2'
   have g:=mK (k:=k) e4 (e5.same s2');refine⟨iJ kvs k,by rw[f1];exact DGet.Hl (Rd.Hb (P:=uu) (SameO.of s2') (λz=>z) e3) f2,?_⟩
   cases hx:nr ks vs k with
   | some z=>
    rw[hx]at g q2';obtain⟨w,g1,g2⟩:=g;rw[g1]
    exact q2' H2 (Same.refl H2) w g2
   | none=>
    rw[hx]at g q2';rw[g];exact q2' H2 (Same.refl H2) .non Rep.Hf
  ·exact q2'.elim
 | _=>exact q'.elim
end
end Tr
namespace Tr
open PySem PySem.Spec PyProof.Rows L2
section
variable {X:Cx}{a b c:Expr}{fa fb fc:En->Rs T}{pos p2 p3 p4:Pos}{x:Str}
theorem CP (i:Nat)(hu:X.A.units+1<cLine)(hb:bX X b fb)(hc:bX X c fc)(hN:X.N[i]? =some x:=by rfl)(hv:wt X.env.scope x:=by first | exact Kq rfl | exact JP (Kq rfl) | exact JP (JP rfl))
  (hd:iA x:=by decide) (hcd:(x == ("__classdict__" : Str))=false:=by decide)
  (hs:JK c (some (.Subscript (.Name x p2) b p3)) pos.line X.env=pure false:=by rfl):oA X (.Assign [.Subscript (.Name x p2) b p3] c pos) (vz i fb fc):=by
 intro pins s σ H D I ⟨Z,B,M,E,h⟩;refine AR hu (pv hN hv hd hcd) hb hc hs pins s σ H D I ?_
 unfold vz at h
 split at h
 ·rename_i ks vs hl
  obtain⟨v0,e1,d,kvs,rfl,hM,e3,e4,e5⟩:=E.env.own i _ hl;obtain⟨nd,nz⟩:=zH I e3;refine⟨Z,OO B M,E.o,?_⟩
  cases q:fc Z with
  | bad=>rw[q]at h;exact h.elim
  | err c=>rw[q]at h;exact PostF.xa h
  | ok vT=>
   rw[q,aB]at h;intro H1 s1 v r;refine⟨.ref d,e1,Z,OO B M,(E.same s1).o,?_⟩
   have h1:=h.later (SameO.of s1) (P1:=M.u) λa z=> .inl z
   cases q2:fb Z with
   | bad=>rw[q2]at h1;exact h1.elim
   | err c=>rw[q2]at h1;exact PostF.xa h1
   | ok kT=>
    rw[q2,aB]at h1;intro H2 s2 y ry
    cases q3:keyOf kT with
    | none=>rw[q3]at h1;exact h1.elim
    | some k=>
     rw[q3]at h1
     have h2:=h1.later (SameO.of s2) (P1:=M.u) λa z=> .inl z
     have hlen:ks.length=kvs.length:=by have:=congrArg Kw e4;simpa using this
     by_cases hz:ks.length<1000
     ·simp only[if_pos hz]at h2
      obtain⟨kb,f1,f2⟩:=kZ q3 ry
      have e3':=s2 _ _ (s1 _ _ e3);obtain⟨g1,g2⟩:=mI q3 (r.same s2) e4 ((e5.same s1).same s2) nd;refine⟨d,upd H2 d (.dT (dj kvs k v)),rfl,by rw[f1];exact DPut.t e3' f2 (by rw[IG];omega),?_⟩
      have sm:SameO (M i) H2 (upd H2 d (.dT (dj kvs k v))):=λc u e nb=>by rw[aJ (λz=>nb ((hM c).mpr z))];exact e
      obtain⟨g3,g4⟩:=((E.same s1).same s2).put (o':=.dct (fV kT vT ks vs).1 (fV kT vT ks vs).2) hl e1 sm ⟨d,_,rfl,hM,aV,g1,g2.move (P:=M i) (λa z=> .inl (.inr ⟨i,z⟩)) (λa z=> .inl z) sm⟩
      exact h2 σ _ M g4 g3 λc z=> .inl z
     ·simp only[if_neg hz]at h2
      exact h2.elim
 ·exact h.elim
end
end Tr
namespace PySem
open Sem (wp)
namespace F
theorem lk_list_keys:O4 (.type "list") "keys" =pure none:=by rw[Me,KC];kernel_rfl
theorem lk_list_getattr:O4 (.type "list") "__getattr__" =pure none:=by rw[Me,KC];kernel_rfl
end F
section
variable {prog:H0}{w:IP}{A:Iu}{E:HA->HB->Prop}{h:Heap}{g:Array PC}{d:Drawn}{t:Nat}{os:OsState}{a:Addr}{its:Array HA}{n:Nat}
theorem kG {tk:Tok}{Q:Fin->HB->Prop}(hx:h.get? a=some { cls:=.type "list",data:=.seq its n })(hh:A.handled=none)
  (hq:∀h' tk' e,PP h h' e (.ref a) "keys"->E (.ref e) ⟨h',g,d,tk',os⟩) :
  wpAny (model prog w) A (Builtin.«object.__getattribute__» ⟨[.ref a,.str "keys" tk],[]⟩) Q E ⟨h,g,d,t,os⟩:=by
 have hT:(⟨h,g,d,t,os⟩:HB).TypeIs (.ref a) "list":=⟨_,hx,rfl⟩
 have f4:=F.lk_list_keys
 repeat (any_goals (first | assumption | wp_step))
 exact wpAny_raiseAttrError hh (λh' tk e hx=>hq h' tk e hx) (attrMsg_fits (by decide+kernel) (by rw[IG];decide))
theorem mn {tk:Tok}{R:Result->HB->Prop}(hx:h.get? a=some { cls:=.type "list",data:=.seq its n })(hh:A.handled=none)
  (hq:∀h' tk' e,PP h h' e (.ref a) "keys"->R (.error (.ref e)) ⟨h',g,d,tk',os⟩) :
  codeAny (model prog w) A (.call (.builtin "list.__getattribute__") ⟨[.ref a,.str "keys" tk],[]⟩) R ⟨h,g,d,t,os⟩:=
 NR Kh.plain F.entry_list_ga (Kh.check _ _ _ _ _ _ _ _ (show(⟨h,g,d,t,os⟩:HB).TypeIs (.ref a) "list" from⟨_,hx,rfl⟩) (F.args_list_getattribute_2 _ _) (kG hx hh hq))
theorem mq {Q:Option HA->HB->Prop}(hx:h.get? a=some { cls:=.type "list",data:=.seq its n })(hh:A.handled=none)
  (hq:∀h' tk',(∀b o,h.get? b=some o->h'.get? b=some o)->Q none ⟨h',g,d,tk',os⟩):wpAny (model prog w) A (getAttr? (.ref a) "keys") Q E ⟨h,g,d,t,os⟩:=by
 have hT:∀tk,(⟨h,g,d,tk,os⟩:HB).TypeIs (.ref a) "list":=λ_=>⟨_,hx,rfl⟩
 have f1:=sub_AttributeError
 have f2:=Kh.lookup
 have f3:=Kh.bind (.ref a)
 have f5:=F.lk_list_getattr;unfold getAttr? getAttrBy? getAttrBy
 repeat (any_goals (first | assumption | exact hT _ | wp_step))
 refine mn hx hh λh' tk' e hx'=> ?_
 obtain⟨t',u',he⟩:=hx'.there
 repeat (any_goals (first | assumption | exact hT _ | wp_step))
 exact hq _ _ hx'.keeps
end
end PySem
namespace PySem.F
theorem entry_dict_update_loop:entryFor table "dict.update.loop" =some Builtin.«dict.update.loop»:=Pv (by kernel_rfl)
theorem plain_dict_update_loop:plainId "dict.update.loop" =true:=by decide+kernel
end PySem.F
namespace Tr
open PySem PySem.Spec PyProof.Rows L2
def gv (kvs:List (List Key×V)):List (List Key×V)->List (List Key×V)
 | [] =>kvs
 | p::ps=>gv (dj kvs p.1 p.2) ps
def PairsAt (H:Hp):List V->List (List Key×V)->Prop
 | [],ps=>ps= []
 | x::xs,ps=> ∃b kb p r,ps=p::r/\x= .ref b/\H b=some (.tup [.ref kb,p.2])/\H kb=some (.tup (p.1.map kV))/\PairsAt H xs r
theorem PairsAt.upd {H:Hp}{d:Addr}{kvs:List (List Key×V)}{o:HO}(hd:H d=some (.dT kvs)):∀{xs:List V} {ps:List (List Key×V)},PairsAt H xs ps->PairsAt (L2.upd H d o) xs ps
 | [],_,h=>h
 | x::xs,_,⟨b,kb,p,r,e1,e2,e3,e4,e5⟩=>⟨b,kb,p,r,e1,e2,by rw[aJ (rC e3 hd (λz=>nomatch z))];exact e3,by rw[aJ (rC e4 hd (λz=>nomatch z))];exact e4,e5.upd hd⟩
theorem oK {H:Hp}{d:Addr}{a b:HO}:upd (upd H d a) d b=upd H d b:=by
 funext c
 by_cases h:c=d
 ·rw[h,aV,aV]
 ·rw[aJ h,aJ h,aJ h]
section
variable {X:Cx}{pins:List (Addr×Obj)}{σ:L2.St}{A:Iu}{res:HA}{R:Result->HB->Prop}{d l it:Addr}{xs:List V}
theorem v5 (hh:A.handled=none)(hu:A.units+3<cLine):∀(k i:Nat) (s:HB) (H:Hp) (kvs ps:List (List Key×V)),xs.length - i=k->i<=xs.length->H l=some (.lst xs)->H d=some (.dT kvs)->kvs.length+(xs.length - i)<=1000->Inv X pins σ H s->s.heap.IsListIter it l i->mV X pins H it->PairsAt H (xs.drop i) ps →
  (∀s',Inv X pins σ (upd H d (.dT (gv kvs ps))) s'->R (.ok (.ret res)) s')->codeAny (model X.prog X.w) A (.builtin "dict.update.loop" ⟨[.ref d,.ref it,rawInt i,res],[]⟩) R s:=by
 intro k
 induction k with
 | zero=>
  intro i s H kvs ps hk hi hl hd hz I hit hf hp hR;refine Jx F.entry_dict_update_loop ?_
  rw[Jb F.plain_dict_update_loop _];obtain⟨z,its,n,r,hlen,e⟩:=I.GR hl
  have hL:s.heap.IsList l its.toArray:=⟨_,e,rfl,n,rfl⟩
  show wpAny _ A.in1 (pyNext (.ref it) >>= _) _ _ s
  refine Hw (Nz hh hit hL (by simp;omega) λh' hm=> ?_)
  show wpAny _ _ (Builtin.Dict.addKeywords d [] >>= _) _ _ _
  refine Hw (HF (HF ?_))
  have hnil:xs.drop i= []:=JY (by omega)
  rw[hnil]at hp;unfold PairsAt at hp;subst hp
  have e2:upd H d (.dT (gv kvs []))=H:=by
   funext b
   by_cases hb:b=d
   ·rw[hb,aV,hd];rfl
   ·rw[aJ hb]
  rw[e2]at hR
  exact hR _ (I.GV (fp:=[it]) (t':=s.toks) (λb hb=>by rw[Ia.mp hb];exact hf) λb o hb eb=>hm b o (λz=>hb (by rw[z];exact Ia.mpr rfl)) eb)
 | succ k ih=>
  intro i s H kvs ps hk hi hl hd hz I hit hf hp hR;refine Jx F.entry_dict_update_loop ?_
  rw[Jb F.plain_dict_update_loop _];obtain⟨z,its,n,r,hlen,e⟩:=I.GR hl
  have hL:s.heap.IsList l its.toArray:=⟨_,e,rfl,n,rfl⟩
  have hlt:i<xs.length:=by omega
  have hlt':i<its.length:=by omega
  show wpAny _ A.in1 (pyNext (.ref it) >>= _) _ _ s
  refine Hw (Nh hit hL (x:=its[i]) (by simp[hlt']) λh' hit' hm=> ?_)
  have I1:Inv X pins σ H { s with heap:=h' }:=I.GV (fp:=[it]) (t':=s.toks) (λb hb=>by rw[Ia.mp hb];exact hf) λb o hb eb=>(hm.2 b (λz=>hb (by rw[z];exact Ia.mpr rfl))).trans eb
  have hdrop:xs.drop i=xs[i] ::xs.drop (i+1):=Jo hlt;rw[hdrop]at hp;obtain⟨b,kb,p,r',rfl,ex,hb,hkb,hp'⟩:=hp
  have rx:RelV xs[i] its[i]:=by
   obtain⟨u,q1,q2⟩:=r.get (HG hlt)
   rw[HG hlt']at q1
   cases q1;exact q2
  rw[ex]at rx
  have eu:its[i] =Iv b:=rx;rw[eu];obtain⟨z2,its2,r2,ob,hob1,hob2,nb,hob3⟩:=(show ObjOk X.prog X.w H h' b (.tup [.ref kb,p.2])from I1.hok b _ hb)
  obtain⟨u1,us1,q1,rfl⟩:∃u1 us1,RelV (V.ref kb) u1/\its2=u1::us1:=by cases r2 with | cons a b=>exact⟨_,_,a,rfl⟩
  cases r2 with
  | cons ra rb=>
   obtain⟨u2,q2,rfl⟩:∃u2,RelV p.2 u2/\us1= [u2]:=by cases rb with | cons a b=>cases b;exact⟨_,a,rfl⟩
   obtain rfl:u1=Iv kb:=q1
   show wpAny _ A.in1 (holding [Iv b] _ >>= _) _ _ _
   refine Hw (Jp ?_)
   refine Hw (wpAny_tryCatch ?_)
   unfold Builtin.Dict.pairItems;refine Hw (KB (s:={ s with heap:=h' }) (T:="tuple") ⟨ob,hob1,hob2⟩ ?_)
   rw[if_pos (by decide)]
   refine Hw (NV (s:={ s with heap:=h' }) hob1 hob3 (HF ?_))
   show wpAny _ _ (holding [Iv kb,u2] (dictSet d (.ref kb) u2)) _ _ _
   refine Jp ?_
   obtain⟨zz,hds,xs2,rel,dd⟩:=zC I1.hok hd
   have hzl:xs2.length<=sizeLine:=by rw[<-MS rel];exact zz
   have hkl:kvs.length<sizeLine:=by rw[IG];omega
   have hl2:(dj kvs p.1 p.2).length<=sizeLine:=by have:=e9 kvs p.1 p.2;omega
   refine wpAny_dictSet_heap (hsz:=hzl) (Ld (by show A.units+1<cLine;omega)) (key_of I1.hok hkb) dd λh2 dd2 hs2=> ?_
   obtain⟨q,es,ep,hq,h22,h3,h4,_,h5⟩:=dd2
   have I2:Inv X pins σ (upd H d (.dT (dj kvs p.1 p.2))) { s with heap:=h2,toks:=s.toks+(MM (bY X.prog X.w)).draws p.1 }:=
    qj (s:={ s with heap:=h' }) I1 (by rw[hd];exact KD) hs2 ⟨q,hq⟩ ⟨hl2,hds,_,(rel.put p.1 hkb q2).keeps λc ys ec=>by rw[aJ (rC ec hd (λz=>nomatch z))];exact ec,q,es,ep,hq,h22,h3,h4,h5⟩
   have hld:l≠d:=rC hl hd (λz=>nomatch z)
   have hitd:it≠d:=λz=>by have:=hf.1;rw[z,hd]at this;cases this
   have hcast:(i:Int)+1=((i+1:Nat):Int):=by omega
   refine HF ⟨Kp F.plain_dict_update_loop _,?_⟩
   rw[hcast];refine ih (i+1) _ (upd H d (.dT (dj kvs p.1 p.2))) (dj kvs p.1 p.2) r' (by omega) (by omega) (by rw[aJ hld];exact hl) aV (by have:=e9 kvs p.1 p.2;omega) I2 ?_ ⟨by rw[aJ hitd];exact hf.1,hf.2⟩ (hp'.upd hd) λs' I'=> ?_
   ·obtain⟨oi,ho1,ho2,ho3⟩:=hit'
    exact⟨oi,(hs2.2 it hitd).trans ho1,ho2,ho3⟩
   ·rw[oK]at I'
    exact hR s' I'
end
theorem PairsAt.same {H H':Hp}(s:Same H H'):∀{xs:List V} {ps:List (List Key×V)},PairsAt H xs ps->PairsAt H' xs ps
 | [],_,h=>h
 | x::xs,_,⟨b,kb,p,r,e1,e2,e3,e4,e5⟩=>⟨b,kb,p,r,e1,e2,s _ _ e3,s _ _ e4,e5.same s⟩
section
variable {X:Cx}{pins:List (Addr×Obj)}{σ:L2.St}{A:Iu}{E:HA->HB->Prop}{H:Hp}{s:HB}{l:Addr}{xs:List V}{ps:List (List Key×V)}
theorem zG {Q:HA->HB->Prop}(hh:A.handled=none)(hu:A.units+8<cLine)(I:Inv X pins σ H s)(hl:H l=some (.lst xs))(hz:xs.length<=1000)(hp:PairsAt H xs ps)
  (h:∀p s',Nw X.K H p->Inv X pins σ (upd H p (.dT (gv [] ps))) s'->Q (.ref p) s'):wpAny (model X.prog X.w) A (call (.type "dict") [.ref l]) Q E s:=by
 have hk:X.K.lookup s.heap.objs.size=none:=by
  cases q:X.K.lookup s.heap.objs.size with
  | none=>rfl
  | some o=>exact absurd (HM (I.kIn _ o q)) (Iw _)
 have hn:H s.heap.objs.size=none:=I.hok.fresh (HL _)
 have hlp:l≠s.heap.objs.size:=λz=>by rw[z,hn]at hl;cases hl
 refine callType_codes (Q₁:=λobj s₁=>obj= .ref s.heap.objs.size/\s₁= { s with heap:=s.heap.push { cls:=.type "dict",data:=.dict #[] } }) F.kt_called_dict (F.kt_typeCall_dict_1 _) F.entry_dict_init (kt_code_dict_new _ ⟨rfl,rfl⟩) ?_
 rintro obj s₁ ⟨rfl,rfl⟩
 have I1:Inv X pins σ (upd H s.heap.objs.size (.dT [])) { s with heap:=s.heap.push { cls:=.type "dict",data:=.dict #[] } }:=I.laid (a:=s.heap.objs.size) (o:=.dT []) (t':=s.toks) (λ_ _ q=>HC _ q) (HL _) (zD s.heap I.big)
 have hT:({ s with heap:=s.heap.push { cls:=.type "dict",data:=.dict #[] } }:HB).TypeIs (.ref s.heap.objs.size) "dict":=⟨_,HR _ rfl,rfl⟩
 have hl1:upd H s.heap.objs.size (.dT []) l=some (.lst xs):=by rw[aJ hlp];exact hl
 obtain⟨z,its,n,r,hlen,e⟩:=I1.GR hl1;refine⟨hT,F.args_dict_init_2 _ _,?_⟩
 unfold Builtin.«dict.__init__»;refine Hw ?_
 unfold Builtin.Dict.selfAndRest;refine Hw (wpAny_notOrdered_dict hT ?_)
 show wpAny _ _ (pure (s.heap.objs.size,[Iv l])) _ _ _
 refine HF ?_
 show wpAny _ _ (MQ "dict.__init__" s.heap.objs.size (.ref l) [] .none) _ _ _
 unfold MQ;refine Hw (KB (T:="list") ⟨_,e,rfl⟩ ?_)
 rw[if_pos (by decide)]
 refine Hw (mq e hh λh' tk' kp=> ?_)
 have I2:Inv X pins σ (upd H s.heap.objs.size (.dT [])) { s with heap:=h',toks:=tk' }:=I1.kept (t':=tk') kp
 rw[if_pos (by rfl)]
 refine Hw (KH ?_)
 have eL:({ s with heap:=h',toks:=tk' }:HB).heap.IsList l its.toArray:=⟨_,kp _ _ e,rfl,n,rfl⟩
 refine Hw (Ls eL ?_)
 have I3:Inv X pins σ (upd H s.heap.objs.size (.dT [])) { s with heap:=h'.push { cls:=.type "list_iterator",data:=.fields #[.ref l,.int 0 0] },toks:=tk' }:=I2.kept (t':=tk') λb u q=>HC _ q
 have hpl:s.heap.objs.size<h'.objs.size:=HM (kp _ _ (HR _ rfl))
 have hni:upd H s.heap.objs.size (.dT []) h'.objs.size=none:=by
  rw[aJ (Jm hpl)];exact I.hok.fresh (Jl hpl)
 have hp1:PairsAt (upd H s.heap.objs.size (.dT [])) xs ps:=hp.same (aO hn _);refine HF ⟨Kp F.plain_dict_update_loop _,?_⟩
 refine v5 (A:=A.in1) (X:=X) (pins:=pins) (σ:=σ) (l:=l) (xs:=xs) (it:=h'.objs.size) hh (by show A.units+1+3<cLine;omega) xs.length 0 _ (upd H s.heap.objs.size (.dT [])) [] ps (by omega) (IC _) hl1 aV (by simp;omega) I3 ⟨_,HR _ rfl,rfl,rfl⟩ (I2.G4 (HL _) hni) hp1 λs' I'=> ?_
 rw[oK]at I';exact⟨rfl,h _ _ ⟨hn,hk⟩ I'⟩
end
theorem hu8 {k:Nat}{A:Iu}(h:Room k A):A.units+8<cLine:=by have:=h.un;omega
theorem tq {kvs:List (List Key×V)}{k:List Key}{v:V}(h:(kvs.map (·.1)).Nodup):((dj kvs k v).map (·.1)).Nodup:=by
 unfold dj
 by_cases a:(kvs.any λkv=>decide (kv.1=k))=true
 ·rw[if_pos a,Jg]
  have:((λx=>x.1)∘λkv:List Key×V=>if kv.1=k then(kv.1,v)else kv)=λx=>x.1:=by
   funext x
   show(if x.1=k then(x.1,v)else x).1=x.1
   by_cases e:x.1=k
   ·rw[if_pos e]
   ·rw[if_neg e]
  rw[this];exact h
 ·rw[if_neg a,Ju,Ki]
  refine⟨h,by simp,λx hx y hy=> ?_⟩
  simp only[HE,Nn,Ia]at hy;subst hy;intro z;subst z;obtain⟨p,hp,e⟩:=Ic.mp hx;exact a (M5.mpr ⟨p,hp,decide_eq_true e⟩)
def GG (K:Hy)(O:Ow)(H:Hp):List (T×T)->List (List Key×V)->Prop
 | [],ps=>ps= []
 | a::l,ps=> ∃p r,ps=p::r/\keyOf a.1=some p.1/\Rep K O H a.2 p.2/\GG K O H l r
theorem oh {K:Hy}{O:Ow}{H:Hp}:∀{l:List (T×T)} {ps:List (List Key×V)} {ks ts:List T} {kvs:List (List Key×V)},GG K O H l ps->ks.map keyOf=kvs.map (λp=>some p.1)->Reps K O H ts (kvs.map (·.2))->(kvs.map (·.1)).Nodup →
  (gG l (ks,ts)).1.map keyOf=(gv kvs ps).map (λp=>some p.1)/\Reps K O H (gG l (ks,ts)).2 ((gv kvs ps).map (·.2))
 | [],ps,ks,ts,kvs,h,h1,h2,hn=>by unfold GG at h;subst h;exact⟨h1,h2⟩
 | (a,b)::l,ps,ks,ts,kvs,h,h1,h2,hn=>by
  obtain⟨p,r,rfl,e1,e2,e3⟩:=h;obtain⟨g1,g2⟩:=mI (vT:=b) e1 e2 h1 h2 hn
  show(gG l (fV a b ks ts)).1.map keyOf=(gv (dj kvs p.1 p.2) r).map (λp=>some p.1)/\Reps K O H (gG l (fV a b ks ts)).2 ((gv (dj kvs p.1 p.2) r).map (·.2))
  exact oh (l:=l) e3 g1 g2 (tq hn)
theorem ui {K:Hy}{O:Ow}{H:Hp}:∀{l:List T} {tps:List (T×T)} {xs:List V},EA l=some tps->Reps K O H l xs->∃ps,PairsAt H xs ps/\GG K O H tps ps
 | [],tps,xs,h,r=>by cases Reps.AC.mp r;cases h;exact⟨[],rfl,rfl⟩
 | t::l,tps,xs,h,r=>by
  obtain⟨v,ws,rfl,p,q⟩:=Reps.me.mp r;unfold EA at h
  split at h
  ·rename_i heq;cases heq
  ·rename_i k v' l' heq
   cases heq
   split at h
   ·rename_i kk rr hk hr
    cases h;obtain⟨ps,g1,g2⟩:=ui hr q;obtain⟨b,vs,e1,e2,e3,e4⟩:=Rep.Fk.mp p;obtain⟨u1,us1,rfl,f1,f2⟩:=Reps.me.mp e4;obtain⟨u2,us2,rfl,f3,f4⟩:=Reps.me.mp f2;cases Reps.AC.mp f4;obtain⟨kb,f5,f6⟩:=kZ hk f1;subst f5;exact⟨(kk,u2)::ps,⟨b,kb,(kk,u2),ps,rfl,e1,e3,f6,g1⟩,⟨(kk,u2),ps,rfl,hk,f3,g2⟩⟩
   ·cases h
  ·cases h
section
variable {X:Cx}{e:Expr}{f:En->Rs T}{x y:Str}{p pos p2 p3:Pos}
def Cr (X:Cx)(f:En->Rs T):TE:=λσ H Q=>tP X f σ H λv H'=> ∃a xs ps,v= .ref a/\H' a=some (.lst xs)/\xs.length<=1000/\PairsAt H' xs ps/\∀q,Nw X.K H' q->Q (.ref q) (upd H' q (.dT (gv [] ps)))
theorem xQ (hu:X.A.units+8<cLine)(hc:X.calm=true)(hm:X.mg "dict" =none)(ha:bX X e f)(hg:Gl X "dict")(hs:bL e=true):PE X (.Call (.Name "dict" p) [e] [] pos) (Cr X f):=by
 have h1:HY [e] X.env=(false,eval e X.env)::HY [] X.env:=a9 hs;intro pins s σ H Q I hq;refine IR (d9 I hg hm (show Iq "dict" =some (.type "dict")by decide+kernel) ?_ (by decide) (by decide))
 refine IK (bR (gW (te:=tP X f) ha lL h1 pos pins s σ H (λxs H'=> ∃v,xs= [v]/\∃a xs ps,v= .ref a/\H' a=some (.lst xs)/\xs.length<=1000/\PairsAt H' xs ps/\∀q,Nw X.K H' q->Q (.ref q) (upd H' q (.dT (gv [] ps)))) I ?_) λus s1 hh=> ?_) h1 rfl
 ·obtain⟨Z,O,E,h⟩:=hq
  exact⟨Z,O,E,Post.mono h λt H' _ g v r=>⟨v,rfl,g v r⟩⟩
 ·obtain⟨vs,H1,I1,r1,v,rfl,a,xs,ps,ev,e1,e2,e3,e4⟩:=hh
  subst ev;obtain⟨u,rfl,ru⟩:=r1.one;obtain rfl:u=Iv a:=ru;exact zG (I1.ok.hd hc) hu I1 e1 e2 e3 λq s' nw I'=>⟨.ref q,_,I',rfl,e4 q nw⟩
theorem Az (i:Nat)(hu:X.A.units+8<cLine)(hc:X.calm=true)(hm:X.mg "dict" =none)(hN:X.N.Nodup)(ha:bX X e f)(hst:bL e=true:=by rfl)(hg:Gl X "dict":=by rfl)(hi:X.N[i]? =some x:=by rfl)(hx:Loc X.env.scope x:=by first | exact Kq rfl | exact JP rfl)(hs:JK (.Call (.Name "dict" p) [e] [] p2) (some (.Name x p3)) pos.line X.env=pure false:=by rfl)
  (hf:X.fn x=true\/X.env.scope.names.lookup x=some .local:=by first | exact .inl rfl | exact .inr rfl | assumption):oA X (.Assign [.Name x p3] (.Call (.Name "dict" p) [e] [] p2) pos) (nJ i f):=PS.imp (xH hN hi hx (xQ hu hc hm ha hg hst) hs hf) λD σ H hh_=>by
 obtain⟨Z,B,M,E,h⟩:=hh_;refine⟨Z,OO B M,E.o,?_⟩
 unfold nJ at h
 cases q:f Z with
 | bad=>rw[q]at h;exact h.elim
 | err c=>rw[q]at h;exact PostF.xa h
 | ok t=>
  rw[q,aB]at h;intro H1 s1 v r
  have h1:=h.later (SameO.of s1) (P1:=M.u) λa z=> .inl z
  cases t with
  | lst l=>
   obtain⟨a,xs,rfl,e2,e3,e4⟩:=Rep.Do.mp r;unfold uZ at h1
   split at h1
   ·rename_i l' heq
    cases heq
    split at h1
    ·rename_i tps hps
     by_cases hz:l.length<=1000
     ·rw[if_pos hz,aB]at h1
      obtain⟨ps,g1,g2⟩:=ui hps e4;refine⟨a,xs,ps,rfl,e3,by rw[<-e4.length];exact hz,g1,λnd nw=> ?_⟩
      by_cases hl:i<Z.length
      ·simp only[if_pos hl]at h1
       have hm:∀a,a=nd->Nw X.K H1 a:=λa z=>z▸nw
       obtain⟨k1,k2⟩:=oh (ks:=[]) (ts:=[]) (kvs:=[]) g2 rfl Reps.GO Lw;obtain⟨E2,sub⟩:=(E.same s1).new (m:=λa=>a=nd) (o:=.dct (gG tps ([],[])).1 (gG tps ([],[])).2) (v:=.ref nd) (H':=upd H1 nd (.dT (gv [] ps))) hl hm (aO nw.1 _) ⟨nd,_,rfl,λb=>Mv,aV,k1,(k2.more (Ev.subO hm)).same (aO nw.1 _)⟩
       exact h1 _ _ _ (SameO.of (aO nw.1 _)) E2 sub
      ·simp only[if_neg hl]at h1;exact h1.elim
     ·rw[if_neg hz]at h1;exact h1.elim
    ·exact h1.elim
   ·rename_i hno
    exact(hno l rfl).elim
  | _=>exact h1.elim
end
end Tr
namespace Tr
def cW:List Int->List Int->Bool
 | [],[] =>false
 | [],_::_=>true
 | _::_,[] =>false
 | a::l,b::m=>if a=b then cW l m else decide (a<b)
def mm (a b:List Int):Bool:=!cW b a
theorem jG:∀l,cW l l=false
 | [] =>rfl
 | a::l=>by unfold cW;rw[if_pos rfl];exact jG l
theorem kW:∀a b c,cW a b=true->cW b c=true->cW a c=true
 | [],[],_,h,_=>absurd h (by simp[cW])
 | _::_,[],_,h,_=>absurd h (by simp[cW])
 | [],_::_,[],_,h=>absurd h (by simp[cW])
 | [],_::_,_::_,_,_=>rfl
 | _::_,_::_,[],_,h=>absurd h (by simp[cW])
 | x::a,y::b,z::c,h,g=>by
  unfold cW at h g ⊢
  by_cases e:x=y
  ·subst e
   rw[if_pos rfl]at h
   by_cases e2:x=z
   ·rw[if_pos e2]at g ⊢;exact kW a b c h g
   ·rw[if_neg e2]at g ⊢;exact g
  ·rw[if_neg e]at h
   by_cases e2:y=z
   ·subst e2;rw[if_neg e];exact h
   ·rw[if_neg e2]at g
    have h1:=of_decide_eq_true h
    have h2:=of_decide_eq_true g;rw[if_neg (by omega)]
    exact decide_eq_true (by omega)
theorem jF:∀a b,cW a b=false->cW b a=false->a=b
 | [],[],_,_=>rfl
 | [],_::_,h,_=>absurd h (by simp[cW])
 | _::_,[],_,h=>absurd h (by simp[cW])
 | x::a,y::b,h,g=>by
  unfold cW at h g
  by_cases e:x=y
  ·subst e
   rw[if_pos rfl]at h g;rw[jF a b h g]
  ·rw[if_neg e]at h
   rw[if_neg (λz=>e z.symm)]at g
   have h1:=of_decide_eq_false h
   have h2:=of_decide_eq_false g;omega
theorem rK (a b c:List Int)(h:cW a c=true):cW a b=true\/cW b c=true:=by
 cases h1:cW a b with
 | true=>exact .inl rfl
 | false=>
  cases h2:cW b a with
  | true=>exact .inr (kW _ _ _ h2 h)
  | false=>rw[<-jF _ _ h1 h2];exact .inr h
theorem DI (a b c:List Int)(h:mm a b=true)(g:mm b c=true):mm a c=true:=by
 unfold mm at*
 cases z:cW c a with
 | false=>rfl
 | true=>
  rcases rK c b a z with y | y
  ·rw[y]at g;cases g
  ·rw[y]at h;cases h
theorem Bj (a b:List Int):(mm a b||mm b a)=true:=by
 unfold mm
 cases z:cW b a with
 | false=>rfl
 | true=>
  cases y:cW a b with
  | false=>rfl
  | true=>have:=kW _ _ _ z y;rw[jG]at this;cases this
theorem yx (a b:List Int)(h:mm a b=true)(g:mm b a=true):a=b:=by
 unfold mm at h g;refine jF a b ?_ ?_
 ·cases z:cW a b with
  | false=>rfl
  | true=>rw[z]at g;cases g
 ·cases z:cW b a with
  | false=>rfl
  | true=>rw[z]at h;cases h
theorem fA {k m:List (List Int)}(p:m.Perm k)(s:m.Pairwise (λa b=>mm a b=true)):m=k.mergeSort mm:=
 MC (le:=λa b=>mm a b=true) (λa b _ _ h g=>yx a b h g) s (MT DI Bj k) (p.trans (N0 k mm).symm)
end Tr
namespace Tr
open PySem PySem.Spec PyProof.Rows L2
structure SrtB (k0:NJ)(o:Array Qc)(st:LI):Prop where
 p:(arrOf st).Perm o
 k:kindOf st=k0
 f:LZ st=none
 e:KS st= #[]
theorem SrtB.len {k0:NJ}{o:Array Qc}{st:LI}(b:SrtB k0 o st):(arrOf st).size=o.size:=b.p.size_eq
theorem SrtB.arr {k0:NJ}{o xs:Array Qc}{st:LI}(b:SrtB k0 o st)(h:xs.Perm (arrOf st)):SrtB k0 o (setArr st xs):=⟨h.trans b.p,b.k,b.f,b.e⟩
def sh (κ:KeyKind)(k0:NJ)(prog:H0)(w:IP)(A:Iu)(s:HB):Prop:=
 ∀(E:HA->HB->Prop) (x y:HA) (a b:κ.α) (Q:Bool->HB->Prop),κ.keyOf x=some a->κ.keyOf y=some b->Q (κ.blt a b) s->wpAny (model prog w) A (keyLt' k0 x y) Q E s
abbrev gk (κ:KeyKind)(st:LI)(i:Nat):κ.α:=KK κ (arrOf st) i
theorem Ac {κ:KeyKind}{xs:Array Qc}{n:Nat}(h:JA κ xs n)(hl:κ.kle (KK κ xs (n - 1)) (KK κ xs n)):JA κ xs (n+1):=λi j le lt=>by
 rcases J6 j n with z | z
 ·exact h i j le z
 ·obtain rfl:j=n:=by omega
  rcases J6 i j with y | y
  ·exact LM (h i (j - 1) (by omega) (by omega)) hl
  ·rw[show i=j by omega];exact Kz _
theorem k7 {κ:KeyKind}{xs:Array Qc}{n:Nat}(h:N8 κ xs n)(hl:κ.kle (KK κ xs n) (KK κ xs (n - 1))):N8 κ xs (n+1):=λi j le lt=>by
 rcases J6 j n with z | z
 ·exact h i j le z
 ·obtain rfl:j=n:=by omega
  rcases J6 i j with y | y
  ·exact LM hl (h i (j - 1) (by omega) (by omega))
  ·rw[show i=j by omega];exact Kz _
theorem wJ {κ:KeyKind}{xs:Array Qc}{n:Nat}(h:n<=1):JA κ xs n:=λi j le lt=>by rw[show i=j by omega];exact Kz _
theorem Ef {κ:KeyKind}{xs:Array Qc}{n:Nat}(h:n<=1):N8 κ xs n:=λi j le lt=>by rw[show i=j by omega];exact Kz _
section
variable {prog:H0}{w:IP}{A:Iu}{E:HA->HB->Prop}{s:HB}{κ:KeyKind}{k0:NJ}{o:Array Qc}{st:LI}
theorem BY (b:SrtB k0 o st)(ks:KeysOf κ o){i:Nat}(hi:i<o.size):∃z,(arrOf st)[i]? =some z/\κ.keyOf z.1=some (gk κ st i):=by
 have h1:i<(arrOf st).size:=b.len▸hi;obtain⟨a,ha⟩:=ks _ ((Ml.mp b.p).mem_iff.mp (Array.getElem_mem_toList h1))
 have e:=getElem?_pos (arrOf st) i h1
 refine⟨_,e,?_⟩
 show _=some (KK κ (arrOf st) i)
 unfold KK;rw[e,ha];simp[ha]
theorem qK (c:sh κ k0 prog w A s)(ks:KeysOf κ o)(b:SrtB k0 o st){i j:Nat}{Q:Option Bool->LI->Prop}(hi:i<o.size)(hj:j<o.size)(q:Q (some (κ.blt (gk κ st i) (gk κ st j))) st) :
  wpS (model prog w) A E s (ltAt' i j) Q st:=by
 obtain⟨⟨x,x2⟩,e1,k1⟩:=BY b ks hi;obtain⟨⟨y,y2⟩,e2,k2⟩:=BY b ks hj;rw[ltAt'_eq];refine IT (P7 ?_)
 dsimp only
 rw[elem'_eq,elem'_eq,e1,e2];refine IT (JF (IT (JF ?_)))
 rw[lt'_eq];refine IT (P7 ?_)
 rw[b.k];exact IT (wpS_lift (LY (c _ x y _ _ _ k1 k2 ⟨rfl,JF q⟩)))
theorem BX {a m:Nat}{Q:AscSt->LI->Prop}(c:sh κ k0 prog w A s)(ks:KeysOf κ o)(b:SrtB k0 o st)(hm:m<=o.size)(h1:1<=a)(h2:a<=m)(so:JA κ (arrOf st) a)
  (q:∀n,a<=n->n<=m->JA κ (arrOf st) n->(n≠m->κ.klt (gk κ st n) (gk κ st (n - 1)))->Q (none,n) st):wpS (model prog w) A E s (ascLoop a m) Q st:=by
 unfold ascLoop;refine LK (I:=λn r st'=>r=(none,n)/\st'=st/\JA κ (arrOf st) n) (λn r st' l1 l2 hI=> ?_) (λr st' hI=> ?_) ⟨rfl,rfl,so⟩
 ·obtain⟨rfl,rfl,sn⟩:=hI
  refine IT (qK c ks b (HJ l2 hm) (Ku (OM _ _) (HJ l2 hm)) ?_)
  cases z:κ.blt (gk κ st' n) (gk κ st' (n - 1))with
  | true=>exact JF (q n l1 (Jl l2) sn λ_=>z)
  | false=>exact JF ⟨rfl,rfl,Ac sn z⟩
 ·obtain⟨rfl,rfl,sn⟩:=hI
  have e:max a m=m:=LN h2;rw[e]at sn ⊢;exact q m h2 (HL _) sn λh=>absurd rfl h
theorem oN {i j:Nat}{Q:Unit->LI->Prop}(b:SrtB k0 o st)(q:∀st',SrtB k0 o st'->arrOf st'=mirror (arrOf st) i j ((j - i) / 2)->Q () st'):wpS (model prog w) A E s (reverseSlice' i j) Q st:=by
 rw[reverseSlice'_eq];exact O6 (q _ (b.arr (mirror_perm _ _ _ _)) rfl)
abbrev zU (κ:KeyKind)(k0:NJ)(o:Array Qc)(m:Nat)(Q:Option Nat->LI->Prop):Prop:=∀n st',SrtB k0 o st'->1<=n->n<=m->JA κ (arrOf st') n->Q (some n) st'
theorem ub {n m:Nat}{Q:Option Nat->LI->Prop}(c:sh κ k0 prog w A s)(ks:KeysOf κ o)(b:SrtB k0 o st)(hm:m<=o.size)(h1:1<=n)(h2:n<=m)(dn:N8 κ (arrOf st) n)(q:zU κ k0 o m Q) :
  wpS (model prog w) A E s (tail3 n m) Q st:=by
 unfold tail3;refine IT (oN b λst' b' e=>IT (BX c ks b' hm h1 h2 (λi j le lt=> ?_) λk l1 l2 so _=>JF (q k st' b' (by omega) l2 so)))
 have hz:n<=(arrOf st).size:=by rw[b.len];omega
 rw[e,KK_mirror hz,KK_mirror hz,if_pos ⟨IC _,by omega⟩,if_pos ⟨IC _,by omega⟩]
 exact dn _ _ (by omega) (by omega)
theorem pD {k i:Nat}(g1:k - 1<=i)(g2:i<k):i=k - 1:=PQ (LS g2) g1
theorem EX {n m:Nat}{Q:DescSt->LI->Prop}(c:sh κ k0 prog w A s)(ks:KeysOf κ o)(b:SrtB k0 o st)(hm:m<=o.size)(h1:1<=n)(h2:n<=m)(dn:N8 κ (arrOf st) n)
  (q:∀k r st',SrtB k0 o st'->n<=k->k<=m->N8 κ (arrOf st') k->r+1<=k->(∀i,k - (r+1)<=i->i<k->gk κ st' i=gk κ st' (k - 1))->Q (none,k,r) st'):wpS (model prog w) A E s (descLoop n m) Q st:=by
 unfold descLoop
 refine LK (I:=λk c st'=> ∃r,c=(none,k,r)/\SrtB k0 o st'/\N8 κ (arrOf st') k/\r+1<=k/\∀i,k - (r+1)<=i->i<k->gk κ st' i=gk κ st' (k - 1)) (λk r st' l1 l2 hI=> ?_) (λr st' hI=> ?_)
  ⟨0,rfl,b,dn,h1,λi g1 g2=>by rw[pD g1 g2]⟩
 ·obtain⟨r,rfl,b',d',hr,eq⟩:=hI
  dsimp only
  have kk:=HJ l2 hm
  have kp:k - 1<o.size:=Ku (OM _ _) kk
  have hz:k<=(arrOf st').size:=by rw[b'.len];exact Jl kk
  refine IT (qK c ks b' kk kp ?_)
  cases z:κ.blt (gk κ st' k) (gk κ st' (k - 1))with
  | true=>
   have d2:=k7 d' (MG z)
   show wpS _ _ _ _ (if r > 0 then _ else _) _ _
   by_cases hr0:r > 0
   ·rw[if_pos hr0]
    refine IT (oN b' λst2 b2 e2=>JF ⟨0,rfl,b2,λi j le lt=> ?_,M6 (IC _),λi g1 g2=>by rw[pD g1 g2]⟩)
    rw[e2,JX hz eq,JX hz eq];exact d2 i j le lt
   ·rw[if_neg hr0]
    exact JF ⟨0,rfl,b',d2,M6 (IC _),λi g1 g2=>by rw[pD g1 g2]⟩
  | false=>
   refine IT (qK c ks b' kp kk ?_)
   cases y:κ.blt (gk κ st' (k - 1)) (gk κ st' k)with
   | true=>exact JF (q k r st' b' l1 (Jl l2) d' hr eq)
   | false=>
    refine JF ⟨r+1,rfl,b',k7 d' y,M6 hr,λi g1 g2=> ?_⟩
    have e:gk κ st' k=gk κ st' (k - 1):=N1 y z;rw[Oj];rcases J6 i k with g3 | g3
    ·rw[e];exact eq i (by rw[Nat.add_sub_add_right]at g1;exact g1) g3
    ·rw[PQ (MH g2) g3]
 ·obtain⟨r,rfl,b',d',hr,eq⟩:=hI
  have e:max n m=m:=LN h2;rw[e]at d' hr eq ⊢;exact q m r st' b' h2 (HL _) d' hr eq
theorem uc {n m:Nat}{Q:Option Nat->LI->Prop}(c:sh κ k0 prog w A s)(ks:KeysOf κ o)(b:SrtB k0 o st)(hm:m<=o.size)(h2:n+1<=m)(dn:N8 κ (arrOf st) (n+1))(q:zU κ k0 o m Q) :
  wpS (model prog w) A E s (descPart n m) Q st:=by
 unfold descPart;refine IT (wpS_lift (KH ⟨rfl,IT (EX c ks b hm (by omega) h2 dn λk r st' b' l1 l2 d' hr eq=> ?_)⟩))
 dsimp only
 have hz:k<=(arrOf st').size:=by rw[b'.len];omega
 by_cases hr0:r > 0
 ·rw[if_pos hr0]
  refine IT (oN b' λst2 b2 e2=>ub c ks b2 hm (by omega) l2 (λi j le lt=> ?_) q)
  rw[e2,JX hz eq,JX hz eq];exact d' i j le lt
 ·rw[if_neg hr0]
  exact ub c ks b' hm (by omega) l2 d' q
theorem Cy {m:Nat}{Q:Option Nat->LI->Prop}(c:sh κ k0 prog w A s)(ks:KeysOf κ o)(b:SrtB k0 o st)(hm:m<=o.size)(h1:1<=m)(q:zU κ k0 o m Q):wpS (model prog w) A E s (countRun' 0 m) Q st:=by
 rw[countRun0_eq];refine IT (BX c ks b hm (HL 1) h1 (wJ (HL 1)) λn l1 l2 so lt=> ?_)
 dsimp only
 by_cases e:n=m
 ·rw[if_pos (beq_iff_eq.mpr e)]
  exact JF (q n st b l1 l2 so)
 rw[if_neg (λz=>e (beq_iff_eq.mp z))]
 have fall:=MG (lt e)
 by_cases g:n > 1
 ·rw[if_pos g]
  refine IT (qK c ks b (by omega) (by omega) ?_)
  cases z:κ.blt (gk κ st 0) (gk κ st (n - 1))with
  | true=>exact JF (q n st b l1 l2 so)
  | false=>
   have all:∀k,0<=k->k<n->gk κ st k=gk κ st (n - 1):=λk _ hk=>
    N1 (so k (n - 1) (by omega) (by omega)) (LM (show κ.kle (gk κ st (n - 1)) (gk κ st 0)from z) (so 0 k (by omega) hk))
   have hz:n<=(arrOf st).size:=by rw[b.len];omega
   refine IT (oN b λst2 b2 e2=>uc c ks b2 hm (by omega) (k7 (λi j le lt=> ?_) ?_) q)
   ·rw[e2,JX hz all,JX hz all]
    show κ.kle (gk κ st j) (gk κ st i)
    rw[all i (IC _) (by omega),all j (IC _) (by omega)]
    exact Kz _
   ·rw[e2,JX hz all,JX hz all]
    exact fall
 ·rw[if_neg g]
  exact uc c ks b hm (by omega) (k7 (Ef (by omega)) fall) q
theorem DE {l u:Nat}(h:l<u):l<=(l+u) / 2/\(l+u) / 2<u:=⟨by omega,by omega⟩
theorem DY {xs:Array Qc}{k l:Nat}(hk:k<xs.size)(lk:l<=k)(so:JA κ xs k)(lo:∀i,i<l->κ.kle (KK κ xs i) (KK κ xs k))(hi:∀i,l<=i->i<k->κ.klt (KK κ xs k) (KK κ xs i)):JA κ (bubble xs k (k - l)) (k+1):=λi j le lt=>by
 rw[KK_bubble hk (OM _ _),KK_bubble hk (OM _ _),Nat.sub_sub_self lk]
 have lt:=MH lt;rcases Lp i l with i1 | i1 | i1
 ·rw[if_neg (HZ i1),if_neg λz=>Nat.lt_asymm z.1 i1]
  rcases Lp j l with j1 | j1 | j1
  ·rw[if_neg (HZ j1),if_neg λz=>Nat.lt_asymm z.1 j1];exact so _ _ le (HJ j1 lk)
  ·rw[if_pos j1];exact lo i i1
  ·rw[if_neg (Jm j1),if_pos ⟨j1,lt⟩];exact so _ _ (LS (Mp i1 j1)) (HJ (LU j1) lt)
 ·rw[if_pos i1]
  rcases Nat.lt_or_eq_of_le (i1▸le:l<=j)with j1 | j1
  ·rw[if_neg (Jm j1),if_pos ⟨j1,lt⟩];exact MG (hi _ (LS j1) (HJ (LU j1) lt))
  ·rw[if_pos j1.symm];exact Kz _
 ·have j1:=HJ i1 le
  rw[if_neg (Jm i1),if_pos ⟨i1,Ii le lt⟩,if_neg (Jm j1),if_pos ⟨j1,lt⟩];exact so _ _ (Nat.sub_le_sub_right le 1) (HJ (LU j1) lt)
theorem Cz {n a:Nat}{Q:Bool->LI->Prop}(c:sh κ k0 prog w A s)(ks:KeysOf κ o)(b:SrtB k0 o st)(h1:1<=n)(hn:n<=o.size)(ha:a<=n)(so:JA κ (arrOf st) a)
  (q:∀st',SrtB k0 o st'->JA κ (arrOf st') n->Q true st'):wpS (model prog w) A E s (binarySort' 0 n a) Q st:=by
 rw[binarySort'_eq];simp only[Mr];refine IT (LK (I:=λk r st'=>r=(none,())/\SrtB k0 o st'/\JA κ (arrOf st') k) (λk r st1 l1 l2 hI=> ?_) (λr st1 hI=> ?_) ⟨rfl,b,?_⟩)
 ·obtain⟨rfl,b1,so1⟩:=hI
  have hk:k<o.size:=HJ l2 hn
  refine IT (wpS_mono (LK (I:=λx r st2=>st2=st1/\∃l u,r=(none,l,u)/\l<=u/\u<=k/\u<=k+l - x/\(∀i,i<l->κ.kle (gk κ st1 i) (gk κ st1 k))/\∀i,u<=i->i<k->κ.klt (gk κ st1 k) (gk κ st1 i))
   (Q:=λr st2=>st2=st1/\∃l u,r=(none,l,u)/\l<=k/\(∀i,i<l->κ.kle (gk κ st1 i) (gk κ st1 k))/\∀i,l<=i->i<k->κ.klt (gk κ st1 k) (gk κ st1 i)) (λx r st2 y1 y2 hJ=> ?stp) (λr st2 hJ=> ?fin) ⟨rfl,0,k,rfl,IC _,HL _,HL _,λi hi=>absurd hi (Nat.not_lt_zero _),λi g1 g2=>absurd g2 (Nat.not_lt.mpr g1)⟩) λr st2 hJ=> ?pst)
  case stp=>
   obtain⟨rfl,l,u,rfl,lu,uk,mz,lo,hi⟩:=hJ
   dsimp only
   by_cases g:l ≥ u
   ·rw[if_pos g]
    exact JF ⟨rfl,l,u,rfl,Ii lu uk,lo,λi g1 g2=>hi i (Ii g g1) g2⟩
   ·rw[if_neg g]
    have hm:=DE (Nat.lt_of_not_le g)
    generalize (l+u) / 2=m at hm ⊢
    have mk:m<k:=HJ hm.2 uk;refine IT (qK c ks b1 hk (Mp mk hk) ?_)
    have am:u<=k+(m+1) - (x+1)/\m<=k+l - (x+1):=by
     clear lo hi so so1 q ks c b b1 hn ha h1
     omega
    cases z:κ.blt (gk κ st2 k) (gk κ st2 m)with
    | true=>exact JF ⟨rfl,l,m,rfl,hm.1,Jl mk,am.2,lo,λi g1 g2=>KeyOrd.klt_of_klt_of_kle z (so1 _ i g1 g2)⟩
    | false=>exact JF ⟨rfl,m+1,u,rfl,hm.2,uk,am.1,λi g1=>LM (so1 i m (MH g1) mk) z,hi⟩
  case fin=>
   obtain⟨rfl,l,u,rfl,lu,uk,mz,lo,hi⟩:=hJ
   have e:u<=l:=by
    clear lo hi so so1 q ks c b b1 hn ha h1
    omega
   exact⟨rfl,l,u,rfl,Ii lu uk,lo,λi g1 g2=>hi i (Ii e g1) g2⟩
  case pst=>
   obtain⟨rfl,l,u,rfl,lk,lo,hi⟩:=hJ
   dsimp only
   rw[moveDown'_eq];exact IT (O6 (JF ⟨rfl,b1.arr (bubble_perm _ _ _),DY (by rw[b1.len];exact hk) lk so1 lo hi⟩))
 ·obtain⟨rfl,b1,so1⟩:=hI
  rw[LN (Nat.max_le.mpr ⟨ha,h1⟩)]at so1;exact JF (q st1 b1 so1)
 ·rcases Nat.le_total a 1 with g | g
  ·rw[LN g];exact wJ (HL 1)
  ·rw[Nat.max_eq_left g];exact so
theorem CA {Q:Unit->LI->Prop}(c:sh κ k0 prog w A s)(ks:KeysOf κ o)(b:SrtB k0 o st)(h2:2<=o.size)(h64:o.size<64)
  (q:∀st',(arrOf st').Perm o->LZ st'=none->JA κ (arrOf st') o.size->Q () st'):wpS (model prog w) A E s sortRuns' Q st:=by
 rw[sortRuns'_eq];refine IT (P7 ?_)
 dsimp only
 have hmr:minRun' o.size o.size 0=o.size:=by
  cases hz:o.size with
  | zero=>omega
  | succ f=>rw[minRun'_succ,if_pos (by omega)]
 simp only[b.len,hmr]
 refine IT (wpS_mono (LK (I:=λx r st1=>(x=0/\r=(none,0)/\SrtB k0 o st1)\/(x≠0/\r=(none,o.size)/\(arrOf st1).Perm o/\LZ st1=none/\(KS st1).size=1/\JA κ (arrOf st1) o.size))
  (Q:=λr st1=>r=(none,o.size)/\(arrOf st1).Perm o/\LZ st1=none/\(KS st1).size=1/\JA κ (arrOf st1) o.size) (λx r st1 l1 l2 hI=> ?stp) (λr st1 hI=> ?fin) (.inl ⟨rfl,rfl,b⟩)) λr st1 hI=> ?pst)
 case stp=>
  rcases hI with⟨rfl,rfl,b1⟩ | ⟨_,rfl,hI⟩
  ·dsimp only
   rw[if_neg (by omega)]
   simp only[Mq,Nat.min_self,Mr];refine IT (Cy c ks b1 (HL _) (by omega) λn st2 b2 n1 n2 so2=> ?_)
   dsimp only
   have fin:∀st3,SrtB k0 o st3->JA κ (arrOf st3) o.size->(arrOf (O7 st3 ((KS st3).push (0,o.size,0)))).Perm o/\LZ (O7 st3 ((KS st3).push (0,o.size,0)))=none ∧
     (KS (O7 st3 ((KS st3).push (0,o.size,0)))).size=1/\JA κ (arrOf (O7 st3 ((KS st3).push (0,o.size,0)))) o.size:=λst3 b3 so3=>⟨b3.p,b3.f,by
    show((KS st3).push _).size=1
    rw[b3.e];rfl,so3⟩
   by_cases g:n<o.size
   ·rw[if_pos g]
    refine IT (wpS_lift (KH ⟨rfl,IT (Cz c ks b2 (Lo h2) (HL _) n2 so2 λst3 b3 so3=> ?_)⟩))
    simp only[Bool.not_true,Jd,if_false];refine IT (P7 ?_)
    rw[show(KS st3).back?=none by rw[b3.e];rfl]
    exact IT (O6 (JF (.inr ⟨by omega,rfl,fin st3 b3 so3⟩)))
   ·rw[if_neg g]
    obtain rfl:n=o.size:=by omega
    refine IT (P7 ?_)
    rw[show(KS st2).back?=none by rw[b2.e];rfl]
    exact IT (O6 (JF (.inr ⟨by omega,rfl,fin st2 b2 so2⟩)))
  ·dsimp only
   rw[if_pos (HL _)];exact JF ⟨rfl,hI⟩
 case fin=>
  rcases hI with⟨h,_,_⟩ | ⟨_,hI⟩
  ·omega
  ·exact hI
 case pst=>
  obtain⟨rfl,hp,hf,he,hs⟩:=hI
  dsimp only
  refine IT (wpS_mono (LK (I:=λ_ r st2=>st2=st1/\r=(none,())) (Q:=λr st2=>st2=st1/\r=(none,())) (λx r st2 _ _ hJ=> ?stp) (λ_ _ h=>h) ⟨rfl,rfl⟩) λr st2 hJ=> ?pst)
  case stp=>
   obtain⟨rfl,rfl⟩:=hJ;refine IT (P7 ?_)
   rw[if_pos (K3 he)];exact JF ⟨rfl,rfl⟩
  case pst=>
   obtain⟨rfl,rfl⟩:=hJ;exact JF (q _ hp hf hs)
end
structure RK where
 V:Heap->HA->List Int->Prop
 inj:∀{h v a b},V h v a->V h v b->a=b
 on:∀{h h':Heap} {v a},V h v a->(∀b o,h.get? b=some o->h'.get? b=some o)->V h' v a
 fst:∀{h v a},V h v a->∃ad xs n o m t,v= .ref ad/\h.get? ad=some o/\o.cls= .type "tuple"/\o.data= .seq xs n/\xs[0]? =some (.int m t)
 lt:∀{prog w A s E x y a b} {Q:Bool->HB->Prop},A.units+60<cLine->V s.heap x a->V s.heap y b->Q (cW a b) s->wpAny (model prog w) A (keyLt' (tuples' true) x y) Q E s
variable (R:RK)
open Classical in
def RK.key (h:Heap)(v:HA):Option (List Int):=if e:∃ns,R.V h v ns then some e.choose else none
variable {R:RK}
theorem RK.key_of {h:Heap}{v:HA}{ns:List Int}(r:R.V h v ns):R.key h v=some ns:=by
 unfold RK.key
 have e:∃ns,R.V h v ns:=⟨ns,r⟩;rw[dif_pos e,R.inj e.choose_spec r]
theorem RK.G6 {h:Heap}{v:HA}{ns:List Int}(e:R.key h v=some ns):R.V h v ns:=by
 unfold RK.key at e
 split at e
 ·rename_i g
  cases e;exact g.choose_spec
 ·cases e
def RK.kind (R:RK)(h:Heap):PyProof.Rows.KeyKind:={ α:=List Int,blt:=cW,irrefl:=jG,trans:=kW,negTrans:=rK,total:=jF,keyOf:=R.key h,dflt:=[] }
def RK.row (R:RK)(h:Heap)(v:HA):List Int:=(R.key h v).getD []
theorem RK.He {h:Heap}{v:HA}{ns:List Int}(r:R.V h v ns):R.row h v=ns:=by unfold RK.row;rw[RK.key_of r];rfl
section
variable {prog:H0}{w:IP}{A:Iu}{E:HA->HB->Prop}{s:HB}
theorem D1 (v:HA):firstOfTuple' v=(typeOf v >>= λt=>if t != .type "tuple" then pure none else Builtin.List.listItems v >>= λxs=>pure xs[0]?):=rfl
theorem uU:∀{vs:List HA} {Q:List (Option HA)->HB->Prop},(∀v∈vs,∃ns,R.V s.heap v ns)->(∀us ns,Jw us ns->us.length=vs.length->Q (us.map some) s)->wpAny (model prog w) A (vs.mapM firstOfTuple') Q E s
 | [],Q,_,q=>by
  rw[List.mapM_nil]
  exact HF (q [] [] .nil rfl)
 | v::vs,Q,h,q=>by
  rw[List.mapM_cons,D1];obtain⟨ns,r⟩:=h _ HK;obtain⟨a,its,n,o,m,t,rfl,e,hc,d,e0⟩:=R.fst r;refine Hw (Hw (KB (T:="tuple") ⟨o,e,hc⟩ ?_))
  rw[if_neg (by decide+kernel)]
  refine Hw (Pg e d (HF ?_))
  rw[e0];exact Hw (uU (λv hv=>h v (HH _ hv)) λus ns j hl=>HF (q (.int m t::us) (m::ns) (.cons m t j) (by rw[HQ,HQ,hl])))
theorem kk3 {vs:List HA}{Q:NJ->HB->Prop}(hv:∀v∈vs,∃ns,R.V s.heap v ns)(ne:vs≠ [])(q:Q (tuples' true) s):wpAny (model prog w) A (keyKind' vs.toArray) Q E s:=by
 rw[keyKind'_eq,ON];refine Hw ?_
 rw[map_eq_pure_bind];refine Hw (uU hv λus ns i hl=>HF ?_)
 rw[if_pos (by simp)]
 refine Hw (KH ?_)
 have ef:(us.map some).toArray.filterMap id=us.toArray:=by simp
 rw[ef,oneTypeOnly'_eq,ON,mapM_typeOf_ints i]
 cases i with
 | nil=>exact absurd (List.length_eq_zero_iff.mp hl.symm) ne
 | @cons m t us' ns' i'=>
  simp only[map_pure,pure_bind]
  have hall:((Py (λ_=>JB "int") (IU m t::us')).toArray.all λx=>x == JB "int")=true:=by
   simp only[List.all_toArray,Pb,HX];intro _ _;rfl
  rw[show(Py (λ_=>JB "int") (IU m t::us')).toArray[0]? =some (JB "int")by simp]
  simp only[hall,if_true,pure_bind];exact HF q
theorem out3 {h:Heap}{o xs:Array Qc}(hp:xs.Perm o)(hs:JA (R.kind h) xs o.size):xs.toList.Perm o.toList/\(xs.toList.map λp=>R.row h p.1).Pairwise (λa b=>mm a b=true):=by
 refine⟨Ml.mp hp,?_⟩
 rw[KQ];intro i j hi hj hij
 have hi':i<xs.size:=by simpa using hi
 have hj':j<xs.size:=by simpa using hj
 have z:cW (KK (R.kind h) xs j) (KK (R.kind h) xs i)=false:=hs i j (Jl hij) (by rw[<-hp.size_eq];exact hj')
 have g:∀k (hk:k<xs.size),KK (R.kind h) xs k=R.row h xs[k].1:=λk hk=>by unfold KK;rw[getElem?_pos xs k hk];rfl
 rw[g i hi',g j hj']at z;simp only[LL,Array.getElem_toList];unfold mm;rw[z];rfl
theorem run3 {ks vs:List HA}{Q:LI->HB->Prop}(hu:A.units+60<cLine)(hl:ks.length=vs.length)(hk:∀v∈ks,∃ns,R.V s.heap v ns)(h2:2<=vs.length)(h64:vs.length<64)
  (q:∀st',LZ st'=none->(arrOf st').toList.Perm (ks.zip vs)->((arrOf st').toList.map λp=>R.row s.heap p.1).Pairwise (λa b=>mm a b=true)->Q st' s) :
  wpAny (model prog w) A ((sortRuns').run (SortSt.mk' (tuples' true) (ks.toArray.zip vs.toArray) #[] 7 none)) (λr s'=>Q r.2 s') E s:=by
 have hz:(ks.toArray.zip vs.toArray).size=vs.length:=by simp[hl]
 have hz2:(ks.toArray.zip vs.toArray).toList=ks.zip vs:=by simp
 have kso:PyProof.Rows.KeysOf (R.kind s.heap) (ks.toArray.zip vs.toArray):=λp hp=>by
  rw[hz2]at hp;obtain⟨ns,r⟩:=hk p.1 (Kv hp).1;exact⟨ns,RK.key_of r⟩
 refine J3 (CA (κ:=R.kind s.heap) (k0:=tuples' true) (o:=ks.toArray.zip vs.toArray) (st:=SortSt.mk' (tuples' true) (ks.toArray.zip vs.toArray) #[] 7 none)
  (Q:=λ_ st'=>(arrOf st').Perm (ks.toArray.zip vs.toArray)/\LZ st'=none/\JA (R.kind s.heap) (arrOf st') (ks.toArray.zip vs.toArray).size) (λE x y a b Q hx hy q=>R.lt hu (RK.G6 hx) (RK.G6 hy) q) kso ⟨Array.Perm.refl _,rfl,rfl,rfl⟩
  (by rw[hz];omega) (by rw[hz];exact h64) λst' a1 a2 a3=>⟨a1,a2,a3⟩) ?_ λ_ _ e=>e
 rintro ⟨⟨⟩,st'⟩ s' ⟨rfl,hp,hf,hs⟩
 obtain⟨g1,g2⟩:=out3 hp hs;exact q st' hf (by rw[<-hz2];exact g1) g2
end
end Tr
namespace L2
open PySem PySem.Spec PyProof.Rows
theorem rQ {n b:Nat}:b∈ [n+4,n,n+1,n+2,n+3] ↔n<=b/\b<n+5:=by
 simp only[HS,II,or_false];omega
end L2
namespace Tr
open PySem PySem.Spec PyProof.Rows L2
def Wk (K:Hy)(O:Ow)(H1:Hp)(l:List T)(v:V):Prop:=∃(aa:Addr) (tt:Bool) (ws:List V),v= .ref aa/\¬ O aa/\Reps K O H1 l ws/\z6 K H1 aa tt ws/\(∀P Hc,SameO P H1 Hc->¬ P aa->z6 K Hc aa tt ws)/\¬ Nw K H1 aa
end Tr
namespace Tr
open PySem
def c0 (g:List T->Rs T)(_:En):Rs T:=match g []with
 | .ok t=> .ok t
 | _=> .bad
end Tr
namespace PySem
open Sem (wp)
open L2 (itAt)
structure PW (prog:H0)(w:IP)(A:Iu)(I:Addr)(T:String)(fp wr:List Addr)(n:Nat)(R:Nat->HA->HA->Prop)(St:Nat->Option Addr->Heap->Prop):Prop where
 sub:∀b∈wr,b∈fp
 ty:∀i o (s:HB),St i o s.heap->s.TypeIs (.ref I) T
 frame:∀i o h h',St i o h->(∀b∈fp,∀ob,h.get? b=some ob->h'.get? b=some ob)->St i o h'
 item:∀i o (s:HB) (Q:Option HA->HB->Prop) (E:HA->HB->Prop),i<n->St i o s.heap->(∀t,o=some t->∃ob,s.heap.get? t=some ob) →
  (∀p h' tk x y,R i x y->s.heap.objs.size<=p->IsPair h' p x y->St (i+1) (some (o.getD p)) h'->(∀b ob,b∉wr->s.heap.get? b=some ob->h'.get? b=some ob)->Q (some (.ref p)) { s with heap:=h',toks:=tk })->wpAny (model prog w) A (pyNext (.ref I)) Q E s
 done:∀o (s:HB) (Q:Option HA->HB->Prop) (E:HA->HB->Prop),St n o s.heap->(∀t,o=some t->∃ob,s.heap.get? t=some ob)->(∀h' tk,(∀b ob,b∉wr->s.heap.get? b=some ob->h'.get? b=some ob)->Q none { s with heap:=h',toks:=tk })->wpAny (model prog w) A (pyNext (.ref I)) Q E s
 self:∀i o (s:HB) (Q:HA->HB->Prop) (E:HA->HB->Prop),St i o s.heap->Q (.ref I) s->wpAny (model prog w) A (pyIter (.ref I)) Q E s
end PySem
namespace Tr
open PySem PySem.Spec PyProof.Rows L2
def bkV:HA->V
 | .int n _=> .int n
 | .ref a=> .ref a
 | _=> .non
section
variable {X:Cx}{a b:Expr}{fs:En->Rs (List T)}{p p1 p2 pos:Pos}
theorem gX:∀{m:List T} {ns:List Int},gy m=some ns->m=ns.map .int
 | [],ns,h=>by cases h;rfl
 | t::m,ns,h=>by
  cases t with
  | int i=>
   unfold gy at h;obtain⟨k,h1,rfl⟩:=Lj.mp h
   rw[gX h1];rfl
  | _=>cases h
end
structure QE (X:Cx)(e:Expr)(f:En->Rs T):Prop where
 h:bX X e f
structure QA (X:Cx)(e:List Expr)(f:En->Rs (List T)):Prop where
 h:oB X e f
structure QT (X:Cx)(e:Expr)(f:En->Rs Bool):Prop where
 h:sr X e f
structure QW (X:Cx)(e:Expr)(f:En->Rs Bool):Prop where
 h:Ci X e f
structure QS (X:Cx)(e:Stmt)(f:En->Rs Fl):Prop where
 h:oA X e f
structure zT (X:Cx)(e:List Stmt)(f:En->Rs Fl):Prop where
 h:kL X e f
structure QG (X:Cx)(e:Expr)(f:T->En->Rs En):Prop where
 h:Cj X e f
structure GF (X:Cx)(e:List Expr)(f:List T->En->Rs En):Prop where
 h:zV X e f
structure QI (X:Cx)(t e:Expr)(f:En->Rs (List T)):Prop where
 h:BQ X t e f
structure QO (X:Cx)(e:Option Expr)(f:En->Rs (Option Int)):Prop where
 h:Gm X e f
structure GD (X:Cx)(e:List Expr)(f:En->Rs Bool):Prop where
 h:wu X e (wO X f)
theorem af {X:Cx}(i:Nat){x:Str}{pos:Pos}(hN:(Cx.N X)[i]? =some x:=by rfl)(hv:wt (Kj (Cx.env X)) x:=by first | exact Kq rfl | exact JP (Kq rfl) | exact JP (JP rfl))(hd:iA x:=by decide)(hcd:(x == HW "__classdict__")=false:=by decide):QE X (Ir x pos) (vr i):=
 ⟨xw (i:=i) (hN:=hN) (hv:=hv) (hd:=hd) (hcd:=hcd)⟩
theorem ak {X:Cx}{i:Int}{j:Nat}{pos:Pos}:QE X (Ol (Const.int i) j pos) (cn (T.int i)):=
 ⟨Fj ⟩
theorem fw {X:Cx}{i:Bool}{j:Nat}{pos:Pos}:QE X (Ol (Const.bool i) j pos) (cn (T.bl i)):=
 ⟨q_bl ⟩
theorem dJ {X:Cx}{j:Nat}{pos:Pos}:QE X (Ol Const.none j pos) (cn T.non):=
 ⟨Fg ⟩
theorem Aa {X:Cx}{x:Str}{i:Int}{u:HA}{pos:Pos}(hm:Cx.mg X x=some u)(r:L2.RelV (V.int i) u)(hg:Gl X x:=by rfl)(hd:iA x:=by decide):QE X (Ir x pos) (cn (T.int i)):=
 ⟨C5 (hm:=hm) (r:=r) (hg:=hg) (hd:=hd)⟩
theorem ag {X:Cx}:QA X [] ai:=
 ⟨sT ⟩
theorem ah {X:Cx}{e:Expr}{es:List Expr}{f:En->Rs T}{g:En->Rs (List T)}(he:QE X e f)(hr:QA X es g)(hn:bL e=true:=by rfl):QA X (e::es) (ae f g):=
 ⟨qa_c (he:=he.h) (hr:=hr.h) (hn:=hn)⟩
theorem bB {X:Cx}{es:List Expr}{x1:Nat}{pos:Pos}{f:En->Rs (List T)}(h:QA X es f):QE X (Expr.Tuple es x1 pos) (bp f):=
 ⟨B2 (h:=h.h)⟩
theorem dm {X:Cx}{es:List Expr}{pos:Pos}{f:En->Rs (List T)}(h:QA X es f):QE X (Expr.List es pos) (dM f):=
 ⟨Fh (h:=h.h)⟩
theorem au {X:Cx}{a b:Expr}{fa fb:En->Rs T}{pos:Pos}{op:Qd}{g:T->T->Rs T}(ho:OpT X (JM op) g)(ha:QE X a fa)(hb:QE X b fb):QE X (Expr.BinOp a op b pos) (o2 g fa fb):=
 ⟨Fp (ho:=ho) (ha:=ha.h) (hb:=hb.h)⟩
theorem d6 {X:Cx}{a b:Expr}{fa fb:En->Rs T}{pos:Pos}{op:CmpOp}{g:T->T->Rs T}(ho:OpT X (IW op) g)(ha:QE X a fa)(hb:QE X b fb)(hm:MY op b=false:=by rfl):QE X (Pc a [op] [b] pos) (o2 g fa fb):=
 ⟨Fo (ho:=ho) (ha:=ha.h) (hb:=hb.h) (hm:=hm)⟩
theorem oI {X:Cx}{a:Expr}{fa:En->Rs T}{pos:Pos}(ha:QE X a fa):QE X (Pd UnaryOp.USub a pos) (o1 kE fa):=
 ⟨B3 (ha:=ha.h)⟩
theorem qB {X:Cx}{a b c:Expr}{fa fb fc:En->Rs T}{pos:Pos}{op op':CmpOp}{g g':T->T->Rs T}(ho:OpT X (IW op) g)(ho':OpT X (IW op') g')(ha:QE X a fa)(hb:QE X b fb)(hc:QE X c fc)(hm:lastMarks [op,op'] [b,c] =false:=by with_unfolding_all rfl):QE X (Pc a [op,op'] [b,c] pos) (ch g g' fa fb fc):=
 ⟨AL (ho:=ho) (ho':=ho') (ha:=ha.h) (hb:=hb.h) (hc:=hc.h) (hm:=hm)⟩
theorem bJ {X:Cx}{e:Expr}{f:En->Rs T}(h:QE X e f)(he:∀(whole:Sem HA),PySem.isTrue e (Cx.env X) whole=(do let v <-whole;standAt (Expr.pos e);holding [v] (truthy v)):=by intro _;rfl):QT X e (tb f):=
 ⟨CL (h:=h.h) (he:=he)⟩
theorem br {X:Cx}{a b:Expr}{fa fb:En->Rs T}{pos:Pos}{op:CmpOp}{g:T->T->Rs T}(ho:OpT X (IW op) g)(ha:QE X a fa)(hb:QE X b fb)(hm:MY op b=false:=by rfl):QT X (Pc a [op] [b] pos) (tb (o2 g fa fb)):=
 ⟨CN (ho:=ho) (ha:=ha.h) (hb:=hb.h) (hm:=hm)⟩
theorem ja {X:Cx}{a:Expr}{pos:Pos}{f:En->Rs Bool}(ha:QT X a f):QW X (Kc NG [a] pos) f:=
 ⟨Ax (ha:=ha.h)⟩
theorem i9 {X:Cx}{a:Expr}{pos:Pos}{f:En->Rs Bool}(ha:QT X a f):QW X (Kc Om [a] pos) f:=
 ⟨CJ (ha:=ha.h)⟩
theorem jb {X:Cx}{a b:Expr}{pos:Pos}{f g:En->Rs Bool}{cb:List Expr}(ha:QT X a f)(hb:QW X (Kc NG (b::cb) pos) g):QW X (Kc NG (a::b::cb) pos) (kK f g):=
 ⟨CK (ha:=ha.h) (hb:=hb.h)⟩
theorem jO {X:Cx}{a b:Expr}{pos:Pos}{f g:En->Rs Bool}{cb:List Expr}(ha:QT X a f)(hb:QW X (Kc Om (b::cb) pos) g):QW X (Kc Om (a::b::cb) pos) (mY f g):=
 ⟨E8 (ha:=ha.h) (hb:=hb.h)⟩
theorem jc {X:Cx}{f:En->Rs Bool}{e:Expr}(h:QW X e f):QT X e f:=
 ⟨qt_w (h:=h.h)⟩
theorem c6 {X:Cx}{a:Expr}{pos:Pos}{f:En->Rs Bool}(ha:QT X a f):QT X (Pd UnaryOp.Not a pos) (cL f):=
 ⟨CM (ha:=ha.h)⟩
theorem dI {X:Cx}{a:Expr}{fa:En->Rs T}{pos:Pos}{op:BoolOp}(h:QE X a fa):QE X (Kc op [a] pos) fa:=
 ⟨Fe (h:=h.h)⟩
theorem dq {X:Cx}{a b:Expr}{fa fb:En->Rs T}{pos:Pos}{cb:List Expr}(ha:QE X a fa)(hb:QE X (Kc NG (b::cb) pos) fb):QE X (Kc NG (a::b::cb) pos) (cv fa fb):=
 ⟨Fq (ha:=ha.h) (hb:=hb.h)⟩
theorem BV {X:Cx}{a b:Expr}{fa fb:En->Rs T}{pos:Pos}{cb:List Expr}(ha:QE X a fa)(hb:QE X (Kc Om (b::cb) pos) fb):QE X (Kc Om (a::b::cb) pos) (zZ fa fb):=
 ⟨q_or (ha:=ha.h) (hb:=hb.h)⟩
theorem Cn {X:Cx}{a:Expr}{fa:En->Rs T}{pos:Pos}(ha:QE X a fa):QE X (Pd UnaryOp.Not a pos) (o1 Be fa):=
 ⟨Ff (ha:=ha.h)⟩
theorem EG {X:Cx}{a b c:Expr}{fa fb:En->Rs T}{pos:Pos}{f:En->Rs Bool}(hc:QT X c f)(ha:QE X a fa)(hb:QE X b fb):QE X (Expr.IfExp c a b pos) (ED f fa fb):=
 ⟨q_if (hc:=hc.h) (ha:=ha.h) (hb:=hb.h)⟩
theorem aD {X:Cx}{a b:Expr}{fa fb:En->Rs T}{pos:Pos}(ha:QE X a fa)(hb:QE X b fb)(hs:vh b:=by intro _ _;rfl):QE X (Lx a b pos) (o2 aS fa fb):=
 ⟨q_ix (ha:=ha.h) (hb:=hb.h) (hs:=hs)⟩
theorem jg {X:Cx}:QO X none pN:=
 ⟨AE ⟩
theorem jf {X:Cx}{a:Expr}{fa:En->Rs T}(ha:QE X a fa):QO X (some a) (pS fa):=
 ⟨AD (ha:=ha.h)⟩
theorem jj {X:Cx}{a:Expr}{fa:En->Rs T}{pos:Pos}{lo hi:Option Expr}{p2:Pos}{fl fu:En->Rs (Option Int)}(ha:QE X a fa)(hl:QO X lo fl)(hu:QO X hi fu):QE X (Lx a (Expr.Slice lo hi none p2) pos) (sl fa fl fu):=
 ⟨AK (ha:=ha.h) (hl:=hl.h) (hu:=hu.h)⟩
theorem cH {X:Cx}{e:Expr}{es:List Expr}{fs:En->Rs (List T)}{pos p:Pos}{x:Str}{id:String}{g:List T->Rs T}(hc:CallT X (Value.builtin id) g)(hm:Cx.mg X x=none)(hv:Iq x=some (Value.builtin id))(ha:QA X (e::es) fs)(hn:aX (e::es)=true:=by rfl)(hg:Gl X x:=by rfl)(h1:x≠HW "__name__":=by decide)(h2:iA x:=by decide):QE X (Jz (Ir x p) (e::es) [] pos) (cl g fs):=
 ⟨q_cB (hc:=hc) (hm:=hm) (hv:=hv) (ha:=ha.h) (hn:=hn) (hg:=hg) (h1:=h1) (h2:=h2)⟩
theorem k9 {X:Cx}{e:Expr}{es:List Expr}{fs:En->Rs (List T)}{pos p:Pos}{x:Str}{Ty:String}{g:List T->Rs T}(hc:CallT X (JB Ty) g)(hm:Cx.mg X x=none)(hv:Iq x=some (JB Ty))(ha:QA X (e::es) fs)(hn:aX (e::es)=true:=by rfl)(hg:Gl X x:=by rfl)(h1:x≠HW "__name__":=by decide)(h2:iA x:=by decide):QE X (Jz (Ir x p) (e::es) [] pos) (cl g fs):=
 ⟨q_cT (hc:=hc) (hm:=hm) (hv:=hv) (ha:=ha.h) (hn:=hn) (hg:=hg) (h1:=h1) (h2:=h2)⟩
theorem zq_c {X:Cx}{e:Expr}{es:List Expr}{fs:En->Rs (List T)}{pos p:Pos}{x:Str}{n k:Nat}{f:Addr}{fd:JN}{ps:List Str}{g:List T->Rs T}(F:Ez (Cx.prog X) (Cx.w X) (Cx.K X) (Cx.mg X) (Cx.base X) k f fd ps n g)(hr:Room k (Cx.A X))(hm:Cx.mg X x=some (Iv f))(hk:W.keepIn (Cx.K X) (Iv f)=true)(hb:L2.Binds (Cx.K X) fd ps [])(hl:∀(Z:En) (ts:List T),fs Z=Rs.ok ts->Kw ts=n)(ha:QA X (e::es) fs)(hps:Kw ps=n:=by rfl)(hn:aX (e::es)=true:=by rfl)(hg:Gl X x:=by rfl)(h2:iA x:=by decide):QE X (Jz (Ir x p) (e::es) [] pos) (cl g fs):=
 ⟨q_c (F:=F) (hr:=hr) (hm:=hm) (hk:=hk) (hb:=hb) (hl:=hl) (ha:=ha.h) (hps:=hps) (hn:=hn) (hg:=hg) (h2:=h2)⟩
theorem wB {X:Cx}{a:Expr}{fa:En->Rs T}{pos p p2:Pos}{tn:Str}{Ty:String}(hm:Cx.mg X (HW "isinstance")=none)(hmt:Cx.mg X tn=none)(hv:Iq tn=some (JB Ty))(ha:QE X a fa)(hn:bL a=true:=by rfl)(hg:Gl X (HW "isinstance"):=by rfl)(hgt:Gl X tn:=by rfl)(h1:tn≠HW "__name__":=by decide)(h2:iA tn:=by decide):QE X (Jz (Ir (HW "isinstance") p) [a,Ir tn p2] [] pos) (o1 (Bt Ty) fa):=
 ⟨q_is (hm:=hm) (hmt:=hmt) (hv:=hv) (ha:=ha.h) (hn:=hn) (hg:=hg) (hgt:=hgt) (h1:=h1) (h2:=h2)⟩
theorem aq {X:Cx}{pos:Pos}{x:Str}(i:Nat)(hN:IZ (Cx.N X))(hi:(Cx.N X)[i]? =some x:=by rfl)(hx:L2.Loc (Kj (Cx.env X)) x:=by first | exact Kq rfl | exact JP rfl)(hf:Cx.fn X x=true\/KZ x (MU (Kj (Cx.env X)))=some NameKind.local:=by first | exact .inl rfl | exact .inr rfl | assumption):QG X (Ir x pos) (gN i):=
 ⟨AJ (i:=i) (hN:=hN) (hi:=hi) (hx:=hx) (hf:=hf)⟩
theorem ji {X:Cx}:GF X [] z5:=
 ⟨AI ⟩
theorem df {X:Cx}{e:Expr}{es:List Expr}{g:T->En->Rs En}{gs:List T->En->Rs En}(h1:QG X e g)(h2:GF X es gs)(hs:Py (λx=>Pz x) (JD (e::es) (Cx.env X))=assign e (Cx.env X)::Py (λx=>Pz x) (JD es (Cx.env X)):=by rfl):GF X (e::es) (rP g gs):=
 ⟨xv (h1:=h1.h) (h2:=h2.h) (hs:=hs)⟩
theorem kM {X:Cx}{es:List Expr}{pos:Pos}{k n:Nat}{gs:List T->En->Rs En}(hc:Cx.calm X=true)(h:GF X es gs)(hn:Kw (JD es (Cx.env X))=n:=by rfl)(hst:List.findIdx? (λx=>PB x) (JD es (Cx.env X))=none:=by rfl):QG X (Expr.Tuple es k pos) (gT n gs):=
 ⟨C2 (hc:=hc) (h:=h.h) (hn:=hn) (hst:=hst)⟩
theorem bQ {X:Cx}{a:Expr}{fs:En->Rs (List T)}{pos p:Pos}{tg:Expr}(hm:Cx.mg X (HW "range")=none)(ha:QA X [a] fs)(hg:Gl X (HW "range"):=by rfl)(hs:HY [a] (Cx.env X)= [(false,eval a (Cx.env X))]:=by rfl):QI X tg (Jz (Ir (HW "range") p) [a] [] pos) (iR fs):=
 ⟨vA (hm:=hm) (ha:=ha.h) (hg:=hg) (hs:=hs)⟩
theorem bK {X:Cx}:GD X [] bT:=
 ⟨AG ⟩
theorem k8 {X:Cx}{c:Expr}{f:En->Rs Bool}(h:QT X c f):GD X [c] f:=
 ⟨AF (h:=h.h)⟩
theorem eI {X:Cx}{pos:Pos}{elt tg iter:Expr}{ifs:List Expr}{scope:Le}{N':List Str}{src:List (Option Nat)}{fi:En->Rs (List T)}{tgt:T->En->Rs En}{fc:En->Rs Bool}{fe:En->Rs T}(hc:Cx.calm X=true)(S:LcScope X scope N' src)(hi:QI X tg iter fi)(block:∀(cl:List (Str×Addr)) (C:Addr) (s₀:HB) (H₀:Hp) (fp:List Addr),QG (cg X scope cl N' C s₀ H₀ fp) tg tgt/\GD (cg X scope cl N' C s₀ H₀ fp) ifs fc/\QE (cg X scope cl N' C s₀ H₀ fp) elt fe)(hs:∀(x:HA),Jk iter (Cx.env X) x=pure x:=by intro _;rfl):QE X (On elt [{ target:=tg,iter:=iter,ifs:=ifs,is_async:=0 }] scope pos) (eF fi src tgt fc fe):=
 ⟨q_lc (hc:=hc) (S:=S) (hi:=hi.h) (block:=λa1 a2 a3 a4 a5=>⟨(block a1 a2 a3 a4 a5).1.h,(block a1 a2 a3 a4 a5).2.1.h,(block a1 a2 a3 a4 a5).2.2.h⟩) (hs:=hs)⟩
theorem bu {X:Cx}:zT X [] sN:=
 ⟨CS ⟩
theorem ao {X:Cx}{st:Stmt}{cb:List Stmt}{F G:En->Rs Fl}(h1:QS X st F)(h2:zT X cb G):zT X (st::cb) (az F G):=
 ⟨AB (h1:=h1.h) (h2:=h2.h)⟩
theorem ar {X:Cx}{st:Stmt}{F:En->Rs Fl}(h:QS X st F):zT X [st] F:=
 ⟨CQ (h:=h.h)⟩
theorem ax {X:Cx}{a:Expr}{fa:En->Rs T}{pos:Pos}(ha:QE X a fa):QS X (Stmt.Return (some a) pos) (aL fa):=
 ⟨CO (ha:=ha.h)⟩
theorem b9 {X:Cx}{c:Expr}{pos:Pos}{f:En->Rs Bool}{A B:List Stmt}{F G:En->Rs Fl}(hc:QT X c f)(ha:zT X A F)(hb:zT X B G):QS X (Stmt.If c A B pos) (eV f F G):=
 ⟨Fc (hc:=hc.h) (ha:=ha.h) (hb:=hb.h)⟩
theorem wA {X:Cx}{pos:Pos}{elt tg iter:Expr}{ifs:List Expr}{scope:Le}{spos py:Pos}{N':List Str}{src:List (Option Nat)}{fi:En->Rs (List T)}{tgt:T->En->Rs En}{fc:En->Rs Bool}{fe:En->Rs T}(i:Nat){y:Str}(hc:Cx.calm X=true)(S:LcScope X scope N' src)(hi:QI X tg iter fi)(block:∀(cl:List (Str×Addr)) (C:Addr) (s₀:HB) (H₀:Hp) (fp:List Addr),QG (cg X scope cl N' C s₀ H₀ fp) tg tgt/\GD (cg X scope cl N' C s₀ H₀ fp) ifs fc/\QE (cg X scope cl N' C s₀ H₀ fp) elt fe)(hN:IZ (Cx.N X))(hiy:(Cx.N X)[i]? =some y:=by rfl)(hy:L2.Loc (Kj (Cx.env X)) y:=by first | exact Kq rfl | exact JP rfl)(hsw:JK (On elt [{ target:=tg,iter:=iter,ifs:=ifs,is_async:=0 }] scope pos) (some (Ir y py)) (La spos) (Cx.env X)=pure true:=by rfl)(hf:Cx.fn X y=true\/KZ y (MU (Kj (Cx.env X)))=some NameKind.local:=by first | exact .inl rfl | exact .inr rfl | assumption)(hs:∀(x:HA),Jk iter (Cx.env X) x=pure x:=by intro _;rfl):QS X (MV [Ir y py] (On elt [{ target:=tg,iter:=iter,ifs:=ifs,is_async:=0 }] scope pos) spos) (cI (eF fi src tgt fc fe) (gN i)):=
 ⟨Fb (i:=i) (hc:=hc) (S:=S) (hi:=hi.h) (block:=λa1 a2 a3 a4 a5=>⟨(block a1 a2 a3 a4 a5).1.h,(block a1 a2 a3 a4 a5).2.1.h,(block a1 a2 a3 a4 a5).2.2.h⟩) (hN:=hN) (hiy:=hiy) (hy:=hy) (hsw:=hsw) (hf:=hf) (hs:=hs)⟩
theorem aG {X:Cx}{a:Expr}{fa:En->Rs T}{pos:Pos}{tg:Expr}{g:T->En->Rs En}(ha:QE X a fa)(hg:QG X tg g)(hs:Ou [tg] a (La pos) (Cx.env X)=pure false:=by rfl)(hw:Ov [tg] a (Cx.env X)=pure none:=by rfl)(h1:Py (λx=>Pz x) (JD [tg] (Cx.env X))= [assign tg (Cx.env X)]:=by rfl):QS X (MV [tg] a pos) (cI fa g):=
 ⟨CY (ha:=ha.h) (hg:=hg.h) (hs:=hs) (hw:=hw) (h1:=h1)⟩
theorem gh {X:Cx}{a:Expr}{fa:En->Rs T}{pos:Pos}(ha:QE X a fa)(hs:JK a none (La pos) (Cx.env X)=pure false:=by rfl):QS X (Stmt.Expr a pos) (zY fa):=
 ⟨AA (ha:=ha.h) (hs:=hs)⟩
theorem dk {X:Cx}{pos:Pos}{tg iter:Expr}{body:List Stmt}{fi:En->Rs (List T)}{g:T->En->Rs En}{F:En->Rs Fl}(hc:Cx.calm X=true)(hi:QI X tg iter fi)(hg:QG (Cx.nox X) tg g)(hb:zT (Cx.nox X) body F)(hs:∀(x:HA),Jk iter (Cx.env X) x=pure x:=by intro _;rfl):QS X (Stmt.For tg iter body [] pos) (gu fi g F):=
 ⟨CT (hc:=hc) (hi:=hi.h) (hg:=hg.h) (hb:=hb.h) (hs:=hs)⟩
theorem ny {X:Cx}{pos:Pos}{c:Expr}{body:List Stmt}{fc:En->Rs Bool}{F:En->Rs Fl}(n:Nat)(hc:QT (Cx.nox X) c fc)(hb:zT (Cx.nox X) body F):QS X (Stmt.While c body [] pos) (ba fc F n):=
 ⟨xt (n:=n) (hc:=hc.h) (hb:=hb.h)⟩
theorem cG {X:Cx}{a:Expr}{fa:En->Rs T}{tg:Expr}(ha:QE X a fa):QI X tg a (iS fa):=
 ⟨C1 (ha:=ha.h)⟩
theorem jh {X:Cx}{a:Expr}{fs:En->Rs (List T)}{p pos:Pos}{elts:List Expr}{kk:Nat}{tpos:Pos}(hm:Cx.mg X (HW "enumerate")=none)(ha:QA X [a] fs)(hg:Gl X (HW "enumerate"):=by rfl)(hs:HY [a] (Cx.env X)= [(false,eval a (Cx.env X))]:=by rfl):QI X (Expr.Tuple elts kk tpos) (Jz (Ir (HW "enumerate") p) [a] [] pos) (iE fs):=
 ⟨AH (hm:=hm) (ha:=ha.h) (hg:=hg) (hs:=hs)⟩
theorem jd {X:Cx}{es:List Expr}{pos p2 p3:Pos}{x:Str}(i:Nat){f:En->Rs (List T)}(hN:IZ (Cx.N X))(ha:QA X es f)(hi:(Cx.N X)[i]? =some x:=by rfl)(hx:L2.Loc (Kj (Cx.env X)) x:=by first | exact Kq rfl | exact JP rfl)(hs:JK (Expr.List es p2) (some (Ir x p3)) (La pos) (Cx.env X)=pure false:=by rfl)(hf:Cx.fn X x=true\/KZ x (MU (Kj (Cx.env X)))=some NameKind.local:=by first | exact .inl rfl | exact .inr rfl | assumption):QS X (MV [Ir x p3] (Expr.List es p2) pos) (ix i f):=
 ⟨Ay (i:=i) (hN:=hN) (ha:=ha.h) (hi:=hi) (hx:=hx) (hs:=hs) (hf:=hf)⟩
theorem oH {X:Cx}{a:Expr}{fa:En->Rs T}{pos p2:Pos}{x:Str}(i:Nat){apos cpos:Pos}(ha:QE X a fa)(hN:(Cx.N X)[i]? =some x:=by rfl)(hv:wt (Kj (Cx.env X)) x:=by first | exact Kq rfl | exact JP (Kq rfl) | exact JP (JP rfl))(hn:bL a=true:=by rfl)(hbase:JE (Ir x p2) (HW "append") (Cx.env X) (eval (Ir x p2) (Cx.env X))=eval (Ir x p2) (Cx.env X):=by rfl)(hline:(N3 apos == La cpos)=true:=by rfl)(hd:iA x:=by decide)(hcd:(x == HW "__classdict__")=false:=by decide)(hsw:JK (Jz (KR (Ir x p2) (HW "append") apos) [a] [] cpos) none (La pos) (Cx.env X)=pure false:=by rfl):QS X (Stmt.Expr (Jz (KR (Ir x p2) (HW "append") apos) [a] [] cpos) pos) (m5 i fa):=
 ⟨CZ (i:=i) (ha:=ha.h) (hN:=hN) (hv:=hv) (hn:=hn) (hbase:=hbase) (hline:=hline) (hd:=hd) (hcd:=hcd) (hsw:=hsw)⟩
theorem oG {X:Cx}{a:Expr}{fa:En->Rs T}{pos p2:Pos}{x:Str}(i:Nat){apos cpos:Pos}(ha:QE X a fa)(hN:(Cx.N X)[i]? =some x:=by rfl)(hv:wt (Kj (Cx.env X)) x:=by first | exact Kq rfl | exact JP (Kq rfl) | exact JP (JP rfl))(hn:bL a=true:=by rfl)(hbase:JE (Ir x p2) (HW "extend") (Cx.env X) (eval (Ir x p2) (Cx.env X))=eval (Ir x p2) (Cx.env X):=by rfl)(hline:(N3 apos == La cpos)=true:=by rfl)(hd:iA x:=by decide)(hcd:(x == HW "__classdict__")=false:=by decide)(hsw:JK (Jz (KR (Ir x p2) (HW "extend") apos) [a] [] cpos) none (La pos) (Cx.env X)=pure false:=by rfl):QS X (Stmt.Expr (Jz (KR (Ir x p2) (HW "extend") apos) [a] [] cpos) pos) (lG i fa):=
 ⟨CU (i:=i) (ha:=ha.h) (hN:=hN) (hv:=hv) (hn:=hn) (hbase:=hbase) (hline:=hline) (hd:=hd) (hcd:=hcd) (hsw:=hsw)⟩
theorem je {X:Cx}(i:Nat){st:Stmt}{F:En->Rs Fl}(h:QS X st F):QS X st (o8 i F):=
 ⟨CV (i:=i) (h:=h.h)⟩
theorem EF {X:Cx}(i:Nat){e:Expr}{f:En->Rs T}(h:QE X e f):QE X e (ln i f):=
 ⟨q_ln (i:=i) (h:=h.h)⟩
theorem Ck {X:Cx}(i:Nat){e:Expr}{f:En->Rs Bool}(h:QT X e f):QT X e (DG i f):=
 ⟨E9 (i:=i) (h:=h.h)⟩
theorem Cm {X:Cx}{pos:Pos}:QS X (Stmt.Continue pos) B0:=
 ⟨Fd ⟩
theorem z8 {X:Cx}{a:Expr}{fa:En->Rs T}{pos:Pos}{x:Str}(i:Nat){pos':Pos}(hN:IZ (Cx.N X))(ha:QE X a fa)(hi:(Cx.N X)[i]? =some x:=by rfl)(hx:L2.Loc (Kj (Cx.env X)) x:=by first | exact Kq rfl | exact JP rfl)(hf:Cx.fn X x=true\/KZ x (MU (Kj (Cx.env X)))=some NameKind.local:=by first | exact .inl rfl | exact .inr rfl | assumption):QS X (Stmt.AugAssign (Ir x pos') Operator.Add a pos) (wZ i fa):=
 ⟨CW (i:=i) (hN:=hN) (ha:=ha.h) (hi:=hi) (hx:=hx) (hf:=hf)⟩
theorem jP {X:Cx}{a:Expr}{es:List Expr}{fs:En->Rs (List T)}{p1 p2 pos pos2:Pos}(hc:Cx.calm X=true)(h1:Cx.mg X (HW "list")=none)(h2:Cx.mg X (HW "range")=none)(ha:QA X (a::es) fs)(g1:Gl X (HW "list"):=by rfl)(g2:Gl X (HW "range"):=by rfl)(hn:aX (a::es)=true:=by rfl)(he2:HY [Jz (Ir (HW "range") p2) (a::es) [] pos2] (Cx.env X)=(false,eval (Jz (Ir (HW "range") p2) (a::es) [] pos2) (Cx.env X))::HY [] (Cx.env X):=by rfl)(hpl2:(List.any (backTo pos (HY [] (Cx.env X))) λx=>PB x)=false:=by rfl):QE X (Jz (Ir (HW "list") p1) [Jz (Ir (HW "range") p2) (a::es) [] pos2] [] pos) (lR fs):=
 ⟨xA (hc:=hc) (h1:=h1) (h2:=h2) (ha:=ha.h) (g1:=g1) (g2:=g2) (hn:=hn) (he2:=he2) (hpl2:=hpl2)⟩
theorem nA {X:Cx}{c:Str}{msg:Str}{C:Addr}{bm:List HA}{np p1 cpos pos:Pos}{j:Nat}(O:OX X.K C bm)(hm:X.mg c=some (.ref C))(hc:X.calm=true:=by rfl)(hg:Gl X c:=by rfl)(hd:iA c:=by decide) :
  QS X (.Raise (some (.Call (.Name c np) [.Constant (.str msg) j p1] [] cpos)) none pos) (As c):=⟨xu O.own hc hm hg hd⟩
theorem oJ {P:H0}{w:IP}{K:Hy}{mg:Str->Option HA}{base:Heap}{x qual:Str}{st:Stmt}{f:Addr}{fd:JN}{N ps:List Str}{k n:Nat}{F:En->Rs Fl}(Fn:L2.Fun K x qual st f fd)(S:ay N ps (aj st))(hn:ps.length=n)
  (hbody:∀(cdv:HA),fd.code=cdv->∀(A:Iu) (outer:List Env) (s:HB) (H:Hp) (E:XK),Room k (A.deeper (envOfC qual (aj st) s.heap.objs.size f cdv)) →
   ∀xe,zT ((gI CX0 P w K mg base N qual (aj st) f cdv A outer s H E).FM xe) (cJ st) F):Ez P w K mg base (k+1) f fd ps n (val n N.length F):=D5 Fn S hn λcdv hcv A outer s H E hr xe=>(hbody cdv hcv A outer s H E hr xe).h
theorem Co {X:Cx}{a b:Expr}{fa fb:En->Rs T}{pos:Pos}(hu:Ms (Cx.A X)+1<cLine)(ha:QE X a fa)(hb:QE X b fb)(hs:BR b:=by intro _ _;rfl):QE X (Lx a b pos) (o2 rZ fa fb):=
 ⟨Fm (hu:=hu) (ha:=ha.h) (hb:=hb.h) (hs:=hs)⟩
theorem tY {X:Cx}{a b:Expr}{fa fb:En->Rs T}{apos cpos:Pos}(hu:Ms (Cx.A X)+1<cLine)(ha:QE X a fa)(hb:QE X b fb)(hn:bL b=true:=by rfl)(hbase:JE a (HW "get") (Cx.env X) (eval a (Cx.env X))=eval a (Cx.env X):=by rfl)(hline:(N3 apos == La cpos)=true:=by rfl):QE X (Jz (KR a (HW "get") apos) [b] [] cpos) (oD gg fa fb):=
 ⟨C6 (hu:=hu) (ha:=ha.h) (hb:=hb.h) (hn:=hn) (hbase:=hbase) (hline:=hline)⟩
theorem vj {X:Cx}{a b:Expr}{fa fb:En->Rs T}{apos cpos:Pos}(hu:Ms (Cx.A X)+61<cLine)(ha:QE X a fa)(hb:QE X b fb)(hn:bL b=true:=by rfl)(hbase:JE a (HW "index") (Cx.env X) (eval a (Cx.env X))=eval a (Cx.env X):=by rfl)(hline:(N3 apos == La cpos)=true:=by rfl):QE X (Jz (KR a (HW "index") apos) [b] [] cpos) (oL eZ fa fb):=
 ⟨xC (hu:=hu) (ha:=ha.h) (hb:=hb.h) (hn:=hn) (hbase:=hbase) (hline:=hline)⟩
theorem wz {X:Cx}{e:Expr}{f:En->Rs T}{x:Str}{p pos p2 p3:Pos}(i:Nat)(hu:Ms (Cx.A X)+8<cLine)(hc:Cx.calm X=true)(hm:Cx.mg X (HW "dict")=none)(hN:IZ (Cx.N X))(ha:QE X e f)(hst:bL e=true:=by rfl)(hg:Gl X (HW "dict"):=by rfl)(hi:(Cx.N X)[i]? =some x:=by rfl)(hx:L2.Loc (Kj (Cx.env X)) x:=by first | exact Kq rfl | exact JP rfl)(hs:JK (Jz (Ir (HW "dict") p) [e] [] p2) (some (Ir x p3)) (La pos) (Cx.env X)=pure false:=by rfl)(hf:Cx.fn X x=true\/KZ x (MU (Kj (Cx.env X)))=some NameKind.local:=by first | exact .inl rfl | exact .inr rfl | assumption):QS X (MV [Ir x p3] (Jz (Ir (HW "dict") p) [e] [] p2) pos) (nJ i f):=
 ⟨Az (i:=i) (hu:=hu) (hc:=hc) (hm:=hm) (hN:=hN) (ha:=ha.h) (hst:=hst) (hg:=hg) (hi:=hi) (hx:=hx) (hs:=hs) (hf:=hf)⟩
theorem z7 {X:Cx}{b c:Expr}{fb fc:En->Rs T}{pos p2 p3:Pos}{x:Str}(i:Nat)(hu:Ms (Cx.A X)+1<cLine)(hb:QE X b fb)(hc:QE X c fc)(hN:(Cx.N X)[i]? =some x:=by rfl)(hv:wt (Kj (Cx.env X)) x:=by first | exact Kq rfl | exact JP (Kq rfl) | exact JP (JP rfl))(hd:iA x:=by decide)(hcd:(x == HW "__classdict__")=false:=by decide)(hs:JK c (some (Lx (Ir x p2) b p3)) (La pos) (Cx.env X)=pure false:=by rfl):QS X (MV [Lx (Ir x p2) b p3] c pos) (vz i fb fc):=
 ⟨CP (i:=i) (hu:=hu) (hb:=hb.h) (hc:=hc.h) (hN:=hN) (hv:=hv) (hd:=hd) (hcd:=hcd) (hs:=hs)⟩
end Tr
namespace Tr
open PySem PySem.Spec PyProof.Rows L2 PySem.W
def zd (h:Heap):Frag:=(HD h.objs.size).filterMap λa=>(h.get? a).map λo=>(a,o)
theorem zc (h:Heap):(zd h).In h:=by
 have key:∀(l:List Nat) (a:Addr) (o:Obj),(l.filterMap λa=>(h.get? a).map λo=>(a,o)).lookup a=some o->h.get? a=some o:=by
  intro l
  induction l with
  | nil=>intro a o e;cases e
  | cons b r ih=>
   intro a o e
   cases hb:h.get? b with
   | none=>rw[List.filterMap_cons_none (by rw[hb];rfl)]at e;exact ih a o e
   | some ob=>
    rw[List.filterMap_cons_some (b:=(b,ob)) (by rw[hb];rfl),IH]at e
    cases q:a == b with
    | true=>rw[q]at e;cases e;rw[eq_of_beq q];exact hb
    | false=>rw[q]at e;exact ih a o e
 exact λa o e=>key _ a o e
def obF (K:Frag)(n:Str):Option (Str×Str×LJ×FuncBody×Le×Addr×List (Str×Addr)×HA×Addr×Bool×Bool):=match nsIn K Ie n with
 | some (some (.ref f))=>match K.lookup f with
  | some ⟨_,_,.func d,_⟩=>some (d.name,d.qualname,d.params,d.body,d.scope,d.globals,d.closure,d.defaults,d.builtins,codeIn K d.code n,keepIn K (.ref f))
  | _=>none
 | _=>none
def exF (n:Str)(st:Stmt):Option (Str×Str×LJ×FuncBody×Le×Addr×List (Str×Addr)×HA×Addr×Bool×Bool):=
 some (n,n,fW st,.stmts (cJ st),aj st,Ie,[],.none,K4,true,true)
theorem Ca {K:Frag}{n:Str}{st:Stmt}(e:obF K n=exF n st):∃f fd,nsIn K Ie n=some (some (.ref f))/\L2.Fun K n n st f fd:=by
 unfold obF at e
 split at e
 ·rename_i f hf
  split at e
  ·rename_i oc od d sl hl
   cases d;unfold exF at e;simp only[Jc.injEq,OK.injEq]at e;obtain⟨h1,h2,h3,h4,h5,h6,h7,h8,h9,h10,h11⟩:=e;subst h1 h2 h3 h4 h5 h6 h7 h8 h9;exact⟨f,_,hf,DZ hl h10 h11⟩
  ·cases e
 ·cases e
def FF (K:Frag)(N:Addr)(n:Str):Bool:=match nsIn K N n with | some none=>true | _=>false
theorem lW {K:Frag}{N:Addr}{n:Str}(e:FF K N n=true):nsIn K N n=some none:=by
 unfold FF at e
 split at e
 ·assumption
 ·cases e
def GA (K:Frag)(n:Str):Option Int:=match nsIn K Ie n with | some (some (.int i _))=>some i | _=>none
theorem DD {K:Frag}{n:Str}{i:Int}(e:GA K n=some i):∃t,nsIn K Ie n=some (some (.int i t)):=by
 unfold GA at e
 split at e
 ·rename_i i' t h;cases e;exact⟨t,h⟩
 ·cases e
def t9:List HA->Bool
 | [.type a,.type b,.type c,.type d] =>a == "ValueError" &&b == "Exception" &&c == "BaseException" &&d == "object"
 | _=>false
theorem lg:∀{l:List HA},t9 l=true->l=vc:=by
 intro l e;unfold t9 at e
 split at e
 ·simp only[Hz,beq_iff_eq]at e
  obtain⟨⟨⟨h1,h2⟩,h3⟩,h4⟩:=e;subst h1 h2 h3 h4;rfl
 ·cases e
def wK (D:Option Addr)(m:List HA):Bool:=match D with
 | none=>t9 m
 | some D=>match m with
  | .ref E::m=>E == D&&t9 m
  | _=>false
def Bc (K:Frag)(D:Option Addr)(n:Str):Option Addr:=match nsIn K Ie n with
 | some (some (.ref C))=>match K.lookup C with
  | some ⟨.type t,_,.cls c,⟨[_,_,_,_,some (.builtin b),_]⟩⟩=>match c.mro,K.lookup c.ns with
   | .ref E::m,some ⟨_,_,.dict es _,_⟩=>
    if (t == "type" &&b == "ValueError.__new__" && !c.hasDel&&(es.toList.all λe=>wR e.key)&&calmNames.all (FF K c.ns)&&E == C&&wK D m)=true then some C else none
   | _,_=>none
  | _=>none
 | _=>none
theorem jT {K:Frag}{D:Option Addr}{n:Str}{C:Addr}(e:Bc K D n=some C):nsIn K Ie n=some (some (.ref C)) ∧
  ∃nm q N bs bm hd sn su ab co dd k0 k1 k2 k3 k5,wK D bm=true/\K.lookup C=some (Md nm q C N bs bm hd sn su ab co dd k0 k1 k2 k3 k5 "ValueError.__new__")/\∀h:Heap,K.In h->∃mN,h.Ns N mN/\∀n∈calmNames,mN n=none:=by
 unfold Bc at e
 split at e
 ·rename_i C' hC
  split at e
  ·rename_i t dd c k0 k1 k2 k3 b k5 hl
   split at e
   ·rename_i E m ob oe es ep oz hm hN
    split at e
    ·rename_i hq
     cases e;simp only[Hz,beq_iff_eq,OP]at hq;obtain⟨⟨⟨⟨⟨⟨h1,h2⟩,h3⟩,h4⟩,h5⟩,h6⟩,h7⟩:=hq
     have z:=HX.mp h5;refine⟨hC,c.name,c.qualname,c.ns,c.bases,m,c.hasDict,c.slotNames,c.subclasses,c.abstract,c.collection,dd,k0,k1,k2,k3,k5,h7,?_,FG hN h4 (lW (z _ (.head _))) (lW (z _ (.tail _ (.head _)))) (lW (z _ (.tail _ (.tail _ (.head _))))) (lW (z _ (.tail _ (.tail _ (.tail _ (.head _))))))⟩
     rw[hl];cases c;simp only at hm h3;subst h1 h2 hm h3 h6
     rfl
    ·cases e
   ·cases e
  ·cases e
 ·cases e
theorem ox0 {K:Frag}{C:Addr}{n:Str}(e:Bc K none n=some C):OX K C vc:=by
 obtain⟨_,_,_,_,_,_,_,_,_,_,_,_,_,_,_,_,_,hu,hl,hn⟩:=jT e;cases lg hu;exact A6 hl hn
theorem ox1 {K:Frag}{C D:Addr}{n m:Str}(e:Bc K (some D) n=some C)(d:Bc K none m=some D):OX K C (.ref D::vc):=by
 obtain⟨_,_,_,_,_,bm,_,_,_,_,_,_,_,_,_,_,_,hu,hl,hn⟩:=jT e;obtain⟨_,_,_,_,_,_,_,_,_,_,_,_,_,_,_,_,_,hu',hl',hn'⟩:=jT d;cases lg hu';unfold wK at hu;simp only at hu
 split at hu
 ·rw[Hz]at hu
  cases eq_of_beq hu.1;cases lg hu.2;exact xT hl hn hl' hn'
 ·cases hu
def tT {α:Type}:List (Option α)->Option (List α)
 | [] =>some []
 | none::_=>none
 | some a::r=>match tT r with | some l=>some (a::l) | none=>none
theorem oy {α:Type}{o:Option α}{r:List (Option α)}{l:List α}(e:tT (o::r)=some l):∃a l',o=some a/\l=a::l'/\tT r=some l':=by
 cases o with
 | none=>cases e
 | some a=>
  unfold tT at e
  split at e
  ·rename_i l' h;cases e;exact⟨a,l',rfl,rfl,h⟩
  ·cases e
theorem zP {α:Type}{l:List α}(e:tT ([]:List (Option α))=some l):l= []:=by cases e;rfl
def pO:List Addr->Bool
 | [] =>true
 | a::r=>(r.all λb=> !(a == b))&&pO r
theorem nP:∀{l:List Addr},pO l=true->l.Nodup
 | [],_=> .nil
 | a::r,h=>by
  unfold pO at h;rw[Hz]at h;refine IV.mpr ⟨λhm=> ?_,nP h.2⟩
  have:=HX.mp h.1 a hm
  simp at this
def Gz (K:Frag):List Str->Bool
 | [] =>true
 | m::es=>match Bc K none m with
  | some D=>match tT (es.map (Bc K (some D)))with | some l=>pO (l++ [D]) | none=>false
  | none=>false
theorem DC {K:Frag}{m:Str}{es:List Str}(e:Gz K (m::es)=true):∃D l,Bc K none m=some D/\tT (es.map (Bc K (some D)))=some l/\(l++ [D]).Nodup:=by
 rw[Gz]at e
 split at e
 ·rename_i D hD
  split at e
  ·rename_i l hl;exact⟨D,l,hD,hl,nP e⟩
  ·cases e
 ·cases e
structure qy where
 tab:List (Str×Nat)
 zs:List Str
 cs:List (Str×Int)
 es:List Str
def nc (S:qy)(K:Frag):=(S.tab.map (λp=>obF K p.1),S.zs.all (FF K Ie),S.cs.map (λc=>GA K c.1),Gz K S.es)
def lb (S:qy)(top:Nat->Stmt):=(S.tab.map (λp=>exF p.1 (top p.2)),true,S.cs.map (λc=>some c.2),true)
section
variable {S:qy}{top:Nat->Stmt}{K:Frag}{h:Heap}{mg:Str->Option HA}
theorem p0 {α β:Type}{f g:α->β}:∀{l:List α} (j:Nat) {a:α},l.map f=l.map g->l[j]? =some a->f a=g a
 | [],_,_,_,q=>by cases q
 | b::l,0,a,e,q=>by cases q;exact(PR.inj e).1
 | b::l,j+1,a,e,q=>p0 (l:=l) j (PR.inj e).2 q
theorem cz (j:Nat){n:Str}{i:Nat}{ps:List Str}(X:K.In h)(G:h.Ns Ie mg)(e:nc S K=lb S top)(q:S.tab[j]? =some (n,i))
  (hb:∀(kV doc pm:HA) (an:Option Addr) (cdv ct:HA) (us:List HA),us.length=ps.length->PD (fnOf n n (fW (top i)) (cJ (top i)) (aj (top i)) .none kV doc pm an cdv ct) ⟨us,[]⟩=pure (ps.zip us)) :
  ∃f fd,Fn K mg n (top i) ps f fd:=by
 obtain⟨f,fd,h1,h2⟩:=Ca (p0 j (congrArg (·.1) e) q)
 exact⟨f,fd,h2,h2.binds hb,mg_of X G h1⟩
theorem FQ (j:Nat){n:Str}{i:Nat}{x:Str}{fa:Addr}(X:K.In h)(G:h.Ns Ie mg)(e:nc S K=lb S top)(q:S.tab[j]? =some (n,i))(hfa:mg n=some (.ref fa))
  (hb:∀(kV doc pm:HA) (an:Option Addr) (cdv ct u:HA),PD (fnOf n n (fW (top i)) (cJ (top i)) (aj (top i)) .none kV doc pm an cdv ct) ⟨[u],[]⟩=pure [(x,u)]) :
  ∃fd,Fn K mg n (top i) [x] fa fd/\∀(s:HB) (u:HA),OY s fd ⟨[u],[]⟩ [(x,u)]:=by
 obtain⟨f,fd,h1,h2⟩:=Ca (p0 j (congrArg (·.1) e) q)
 have z:=hfa.symm.trans (mg_of X G h1);cases z
 have hh:=h2;obtain⟨oc,od,kV,doc,pm,an,cdv,ct,osl,rfl,lk,hcd⟩:=hh.ex;exact⟨_,⟨h2,.all λus hl=>match us,hl with | [u],_=>hb kV doc pm an cdv ct u,mg_of X G h1⟩,λs u=> .of_eq (hb kV doc pm an cdv ct u)⟩
theorem eh (j:Nat){n:Str}(X:K.In h)(G:h.Ns Ie mg)(e:nc S K=lb S top)(q:S.zs[j]? =some n):mg n=none:=
 mg_none_of X G (lW (HX.mp (congrArg (·.2.1) e:S.zs.all (FF K Ie)=true) n (IF q)))
theorem nZ (j:Nat){n:Str}{i:Int}(X:K.In h)(G:h.Ns Ie mg)(e:nc S K=lb S top)(q:S.cs[j]? =some (n,i)):∃t,mg n=some (.int i t):=by
 obtain⟨t,ht⟩:=DD (p0 (f:=λc=>GA K c.1) (g:=λc=>some c.2) j (congrArg (·.2.2.1) e) q)
 exact⟨t,mg_of X G ht⟩
theorem FW (e:nc S K=lb S top):Gz K S.es=true:=congrArg (·.2.2.2) e
end
theorem left_of {p q:H0}{loose:List Str}{Xt:HB->Bool}{α:Type}{Yf:HB->α}{Ya:IP->α}{N:Nat}{g0:Bool}
  (e:opening p=plainProg p.main.scope.names) (hN:Nat.ble 600 N=true) (f:∀s,fenceModules? p s=some s)
  (h:∀(w:IP) (os:OsState),(topFrom treeTable p w N ⟨boot_heap w.params,⟨[]⟩,boot_drawn,boot_toks,os⟩).map (λs=>(openSeen q loose (P8 p.main.body) Xt g0 s,Yf s))=some (openGood q loose,Ya w)) :
  LeftO p q loose Xt Yf Ya N g0:=λw=>by
 obtain⟨⟨h0,gs,d,k,os⟩,e1,e2⟩:=Lj.mp (boot_open e hN f w);simp only[OK.injEq]at e2;obtain⟨rfl,rfl,rfl,rfl⟩:=e2;unfold openEnds;rw[e1];exact h w os
structure Cl (P:H0)(w:IP)(K:Frag)(mg:Str->Option HA)(base:Heap)(k:Nat)(x:Str)(n:Nat)(m:List T->Rs T):Prop where
 ex:∃f fd ps,mg x=some (.ref f)/\keepIn K (.ref f)=true/\Binds K fd ps []/\ps.length=n/\Ez P w K mg base k f fd ps n m
abbrev fM (K:Frag)(mg:Str->Option HA)(x:Str)(st:Stmt)(ps:List Str):Prop:=∃f fd,Fn K mg x st ps f fd
section
variable {P:H0}{w:IP}{K:Frag}{mg:Str->Option HA}{base:Heap}{x:Str}{st:Stmt}{N ps:List Str}{k n:Nat}{F:En->Rs Fl}
theorem bf (H:fM K mg x st ps)(S:ay N ps (aj st))(hn:ps.length=n)
  (hbody:∀(f:Addr) (cdv:HA) (A:Iu) (outer:List Env) (s:HB) (H:Hp) (E:XK),Room k (A.deeper (envOfC x (aj st) s.heap.objs.size f cdv)) →
   ∀xe,zT ((gI CX0 P w K mg base N x (aj st) f cdv A outer s H E).FM xe) (cJ st) F):Cl P w K mg base (k+1) x n (val n N.length F):=by
 obtain⟨f,fd,h⟩:=H;exact⟨f,fd,ps,h.mg,h.fn.kp,h.bd,hn,oJ h.fn S hn λcdv _=>hbody f cdv⟩
theorem Er (H:fM K mg x st ps)(S:ay N ps (aj st))(hn:ps.length=n)
  (hbody:∀(f:Addr) (cdv:HA),(∃o fd,mg x=some (.ref f)/\K.lookup f=some o/\o.data= .func fd/\fd.code=cdv)->∀(A:Iu) (outer:List Env) (s:HB) (H:Hp) (E:XK),Room k (A.deeper (envOfC x (aj st) s.heap.objs.size f cdv)) →
   ∀xe,zT ((gI CX0 P w K mg base N x (aj st) f cdv A outer s H E).FM xe) (cJ st) F):Cl P w K mg base (k+1) x n (val n N.length F):=by
 obtain⟨f,fd,h⟩:=H;refine⟨f,fd,ps,h.mg,h.fn.kp,h.bd,hn,oJ h.fn S hn λcdv hc=>hbody f cdv ?_⟩
 have hh:=h.fn;obtain⟨oc,od,kV,doc,pm,an,cdv',ct,osl,rfl,lk,hcd⟩:=hh.ex;exact⟨_,_,h.mg,lk,rfl,hc⟩
end
section
variable {X:Cx}{e:Expr}{es:List Expr}{fs:En->Rs (List T)}{pos p:Pos}{x:Str}{n k k':Nat}{g:List T->Rs T}
theorem aP (c:Cl X.prog X.w X.K X.mg X.base k x n g)(hr:Room k' X.A)(ha:QA X (e::es) fs)(hk:k<=k':=by decide)(hl:∀(Z:En) (ts:List T),fs Z= .ok ts->ts.length=n:=by repeat first | exact Gk | refine Gj ?_)
  (hn:aX (e::es)=true:=by rfl) (hg:Gl X x:=by rfl) (h2:iA x:=by decide):QE X (.Call (.Name x p) (e::es) [] pos) (cl g fs):=by
 obtain⟨f,fd,ps,h1,h3,h4,h5,h6⟩:=c.ex;exact zq_c h6 (hr.mono hk) h1 h3 h4 hl ha h5 hn hg h2
theorem qA {i:Int}(h:∃t,X.mg x=some (.int i t))(hg:Gl X x:=by rfl)(hd:iA x:=by decide):QE X (.Name x pos) (cn (.int i)):=by
 obtain⟨t,h⟩:=h;exact Aa h ⟨_,rfl⟩ hg hd
end
end Tr
namespace Tr
open PySem PySem.Spec PyProof.Rows L2
theorem fL {N P:List Str}{sc:Le}(h1:sc.kind= .function:=by rfl)(h2:sc.isCoroutine=false:=by rfl)(h3:sc.isGenerator=false:=by rfl)(h4:N.Nodup:=by decide+kernel)(h5:N.take P.length=P:=by rfl)
  (h6:∀x∈P,sc.names.lookup x=some .local\/sc.names.lookup x=some .cell:=by decide+kernel) (h7:∀y∈sc.names,y.2≠ .free:=by decide+kernel):ay N P sc:=⟨h1,h2,h3,h4,h5,h6,h7⟩
end Tr
namespace Tr
open PySem
def tbl (pl:List Nat)(L:Bool):SetTable:={ mask:=7,place:=pl.toArray,dummies:=#[],finger:=0,led:=L,moves:=0,plain:=true }
theorem kN:∀{pl:List Nat},pl.Pairwise (· < ·)->∀{a b v u:Nat},a<b->pl[a]? =some v->pl[b]? =some u->v<u:=by
 intro pl h a b v u ab ha hb;rw[KQ]at h;obtain⟨h1,rfl⟩:=HN.mp ha
 obtain⟨h2,rfl⟩:=HN.mp hb
 exact h a b h1 h2 ab
theorem mT {pl:List Nat}(hs:pl.Pairwise (· < ·))(j:Nat):∀(fuel lo hi:Nat),hi - lo<=fuel->lo<=hi->hi<=pl.length →
  (∀i v,i<lo->pl[i]? =some v->v<j)->(∀i v,hi<=i->pl[i]? =some v->j<=v) →
  ∃r,OG pl.toArray j fuel lo hi=r/\r<=pl.length/\(∀i v,i<r->pl[i]? =some v->v<j)/\(∀i v,r<=i->pl[i]? =some v->j<=v)
 | 0,lo,hi,hf,hl,hh,h1,h2=>by
  have e:lo=hi:=by omega
  subst e
  exact⟨lo,rfl,hh,h1,h2⟩
 | fuel+1,lo,hi,hf,hl,hh,h1,h2=>by
  unfold OG
  by_cases hlt:lo<hi
  ·rw[if_pos hlt]
   have hm:(lo+hi) / 2<pl.length:=by omega
   have em:pl[(lo+hi) / 2]? =some pl[(lo+hi) / 2]:=HG hm
   have eg:pl.toArray.getD ((lo+hi) / 2) j=pl[(lo+hi) / 2]:=by simp[hm]
   dsimp only
   rw[eg]
   by_cases hc:pl[(lo+hi) / 2] <j
   ·rw[if_pos hc]
    refine mT hs j fuel _ hi (by omega) (by omega) hh ?_ h2
    intro i v hi' hv;rcases J6 i ((lo+hi) / 2)with q | q
    ·exact Mp (kN hs q hv em) hc
    ·have:i=(lo+hi) / 2:=by omega
     subst this;rw[em]at hv;cases hv;exact hc
   ·rw[if_neg hc]
    refine mT hs j fuel lo _ (by omega) (by omega) (by omega) h1 ?_
    intro i v hi' hv;rcases Oo hi' with q | q
    ·subst q
     rw[em]at hv;cases hv;omega
    ·have:=kN hs q em hv;omega
  ·rw[if_neg hlt]
   have e:lo=hi:=by omega
   subst e;exact⟨lo,rfl,hh,h1,h2⟩
theorem gJ {pl:List Nat}(hs:pl.Pairwise (· < ·))(j:Nat) :
  HV pl.toArray j<=pl.length/\(∀i v,i<HV pl.toArray j->pl[i]? =some v->v<j)/\(∀i v,HV pl.toArray j<=i->pl[i]? =some v->j<=v):=by
 obtain⟨r,h1,h2,h3,h4⟩:=mT hs j pl.length 0 pl.length (by omega) (by omega) (HL _) (λi v h=>by omega) (λi v h e=>by
  rw[JI h]at e;cases e)
 have e:HV pl.toArray j=r:=by unfold HV;simpa using h1
 rw[e];exact⟨h2,h3,h4⟩
theorem sg {pl:List Nat}(hs:pl.Pairwise (· < ·)):HV pl.toArray 0=0:=by
 obtain⟨h1,h2,_⟩:=gJ hs 0;rcases Oq (HV pl.toArray 0)with e | e
 ·exact e
 ·have q:0<pl.length:=by omega
  have:=h2 0 pl[0] e (HG q)
  omega
theorem tO {pl:List Nat}(hs:pl.Pairwise (· < ·)){i v:Nat}(h:pl[i]? =some v):HV pl.toArray (v+1)=i+1:=by
 obtain⟨h1,h2,h3⟩:=gJ hs (v+1)
 have hi:=(HN.mp h).1
 rcases Lp (HV pl.toArray (v+1)) (i+1)with q | q | q
 ·have:=h3 i v (by omega) h;omega
 ·exact q
 ·have q2:i+1<pl.length:=by omega
  have e:=HG q2
  have a:=h2 (i+1) _ q e
  have b:=kN hs (KU i) h e;omega
theorem vq {pl:List Nat}{L:Bool}(hs:pl.Pairwise (· < ·)){j:Nat}(h:j∈pl):∃i,(tbl pl L).slot j= .live i:=by
 obtain⟨k,hk,e⟩:=Jf h;obtain⟨h1,h2,h3⟩:=gJ hs j
 have ek:pl[k]? =some j:=by rw[HG hk,e]
 have er:HV pl.toArray j=k:=by
  rcases Lp (HV pl.toArray j) k with q | q | q
  ·have hl:HV pl.toArray j<pl.length:=by omega
   have e2:=HG hl
   have a:=h3 _ _ (HL _) e2
   have b:=kN hs q e2 ek;omega
  ·exact q
  ·have:=h2 k j q ek;omega
 refine⟨k,?_⟩
 unfold SetTable.slot tbl
 dsimp only
 rw[er];simp[ek]
theorem sG {pl:List Nat}{L:Bool}{j:Nat}(h:j∉pl):(tbl pl L).slot j= .empty:=by
 unfold SetTable.slot tbl
 dsimp only
 have q:¬ (pl.toArray[HV pl.toArray j]? == some j)=true:=by
  intro e;rw[beq_iff_eq,List.getElem?_toArray]at e
  exact h (IF e)
 rw[if_neg q]
 have q2:Nu #[] j=false:=by simp[Nu]
 rw[q2];rfl
theorem adv (pl:List Nat)(L:Bool)(i q:Nat)(d:Option Nat)(hi:i<=7):(tbl pl L).advance ⟨i,0,i,q,d⟩=⟨(i*5+1+q / 32) % 8,0,(i*5+1+q / 32) % 8,q / 32,d⟩:=by
 have e:Ma 7 ((i*5+1+q / 32) % 8)=(i*5+1+q / 32) % 8:=by
  unfold Ma;rw[if_neg (by omega)]
 simp[SetTable.advance,SetTable.leap,tbl,e]
def CC:Nat->Nat->Nat->Nat
 | 0,i,_=>i
 | k+1,i,q=>CC k ((i*5+1+q / 32) % 8) (q / 32)
theorem qY {pl:List Nat}{L:Bool}(hs:pl.Pairwise (· < ·))(h:Int):∀(k fuel i q:Nat),k<fuel->i<=7->CC k i q∉pl →
  ∃j,j∉pl/\j<=7/\OH (tbl pl L) (λ_=>h+1) h fuel ⟨i,0,i,q,none⟩=some (.empty j none)
 | k,0,i,q,hk,_,_=>by omega
 | k,fuel+1,i,q,hk,hi,hn=>by
  unfold OH
  dsimp only
  by_cases hm:i∈pl
  ·obtain⟨w,ew⟩:=vq (L:=L) hs hm
   rw[ew]
   dsimp only
   have e1:¬ (h+1 == h)=true:=by rw[beq_iff_eq];omega
   rw[if_neg e1,adv pl L i q none hi]
   cases k with
   | zero=>exact absurd hm hn
   | succ k=>exact qY hs h k fuel _ _ (by omega) (by omega) hn
  ·rw[sG hm]
   exact⟨i,hm,hi,rfl⟩
theorem Ap:∀h<100,∀x<8,∃k<12,CC k (h % 8) h=x:=by decide+kernel
theorem vp:∀{pl:List Nat},pl.length<=3->∃x<8,x∉pl
 | [],_=>⟨0,by omega,by simp⟩
 | [a],_=>if e:a=0 then⟨1,by omega,by simp;omega⟩else⟨0,by omega,by simp;omega⟩
 | [a,b],_=>by
  by_cases h0:0=a\/0=b
  ·by_cases h1:1=a\/1=b
   ·exact⟨2,by omega,by simp;omega⟩
   ·exact⟨1,by omega,by simp;omega⟩
  ·exact⟨0,by omega,by simp;omega⟩
 | [a,b,c],_=>by
  by_cases h0:0=a\/0=b\/0=c
  ·by_cases h1:1=a\/1=b\/1=c
   ·by_cases h2:2=a\/2=b\/2=c
    ·exact⟨3,by omega,by simp;omega⟩
    ·exact⟨2,by omega,by simp;omega⟩
   ·exact⟨1,by omega,by simp;omega⟩
  ·exact⟨0,by omega,by simp;omega⟩
 | _::_::_::_::_,h=>by simp at h
theorem Bw {pl:List Nat}{L:Bool}(hs:pl.Pairwise (· < ·))(hl:pl.length<=3){h:Nat}(hh:h<100) :
  ∃j,j∉pl/\j<=7/\(tbl pl L).freeSlot (h:Int)=some (j,false):=by
 obtain⟨x,hx,nx⟩:=vp hl;obtain⟨k,hk,ek⟩:=Ap h hh x hx
 have eb:SetTable.bits (h:Int)=h:=by
  unfold SetTable.bits;rw[OQ (by omega) (by omega)];rfl
 have es:(tbl pl L).probeStart (h:Int)=⟨h % 8,0,h % 8,h,none⟩:=by
  have e:Ma 7 (h % 8)=h % 8:=by unfold Ma;rw[if_neg (by omega)]
  simp[SetTable.probeStart,tbl,eb,e]
 obtain⟨j,h1,h2,h3⟩:=qY (L:=L) hs (h:Int) k (10*SetTable.turns 7) (h % 8) h (by unfold SetTable.turns;omega) (by omega) (by rw[ek];exact nx)
 refine⟨j,h1,h2,?_⟩
 unfold SetTable.freeSlot;rw[es];unfold NU
 have e7:(tbl pl L).mask=7:=rfl;rw[e7,h3]
 rfl
theorem qc {pl:List Nat}(hs:pl.Pairwise (· < ·)){j:Nat}(hj:j∉pl) :
  (pl.take (HV pl.toArray j)++j::pl.drop (HV pl.toArray j)).Pairwise (· < ·):=by
 obtain⟨h1,h2,h3⟩:=gJ hs j;rw[List.pairwise_append];refine⟨hs.sublist (OI _ _),?_,?_⟩
 ·rw[List.pairwise_cons]
  refine⟨λa ha=> ?_,hs.sublist (OR _ _)⟩
  obtain⟨i,hi,e⟩:=Jf ha;rw[OS]at e
  have hlt:HV pl.toArray j+i<pl.length:=by simp at hi;omega
  have:=h3 (HV pl.toArray j+i) a (by omega) (by rw[HG hlt,e])
  rcases Oo this with q | q
  ·exact absurd (List.mem_of_mem_drop ha) (q▸hj)
  ·exact q
 ·intro a ha b hb
  obtain⟨i,hi,e⟩:=Jf ha;rw[List.getElem_take]at e
  have hi':i<HV pl.toArray j:=by simp at hi;omega
  have hlt:i<pl.length:=by omega
  have a1:=h2 i a hi' (by rw[HG hlt,e])
  rcases HS.mp hb with rfl | hb
  ·exact a1
  ·obtain⟨i2,hi2,e2⟩:=Jf hb
   rw[OS]at e2
   have hlt2:HV pl.toArray j+i2<pl.length:=by simp at hi2;omega
   have:=h3 (HV pl.toArray j+i2) b (by omega) (by rw[HG hlt2,e2])
   omega
theorem DJ {pl:List Nat}{L:Bool}(hs:pl.Pairwise (· < ·))(hl:pl.length<=3){h:Nat}(hh:h<100){es:Array (Int×HA)}(he:es.size=pl.length)(x:HA) :
  ∃pl' es',layNew (tbl pl L) es (h:Int) x=(es',tbl pl' L,false,false)/\pl'.Pairwise (· < ·)/\pl'.length=pl.length+1/\KP es'.toList (es.push ((h:Int),x)).toList:=by
 obtain⟨j,h1,h2,h3⟩:=Bw (L:=L) hs hl hh
 have hp:=layNew_perm (tbl pl L) es (h:Int) x
 have hb:=(gJ hs j).1
 have ep:(tbl pl L).put j=(tbl (pl.take (HV pl.toArray j)++j::pl.drop (HV pl.toArray j)) L,HV pl.toArray j):=by
  have q2:Nu #[] j=false:=by simp[Nu]
  have q3:MI pl.toArray (HV pl.toArray j) j=(pl.take (HV pl.toArray j)++j::pl.drop (HV pl.toArray j)).toArray:=by
   apply Array.toList_inj.mp
   rw[SetTable.toList_insertAt]
  simp only[SetTable.put,tbl,q2,q3]
  rfl
 have hlen:(pl.take (HV pl.toArray j)++j::pl.drop (HV pl.toArray j)).length=pl.length+1:=by
  simp;omega
 have hsz:(MI es (HV pl.toArray j) ((h:Int),x)).size=pl.length+1:=by
  rw[<-IB,(Nf es _ _).length_eq];simp[he]
 have hf:(tbl (pl.take (HV pl.toArray j)++j::pl.drop (HV pl.toArray j)) L).fits (pl.length+1)=true:=by
  unfold SetTable.fits Os
  show((_:Nat) == _&&decide (_<=7))=true
  rw[show(tbl (pl.take (HV pl.toArray j)++j::pl.drop (HV pl.toArray j)) L).place.size=pl.length+1 from by
   show(LD _).size=_;rw[HU,hlen]]
  have:(tbl (pl.take (HV pl.toArray j)++j::pl.drop (HV pl.toArray j)) L).dummies.size=0:=rfl;rw[this]
  simp;omega
 refine⟨_,MI es (HV pl.toArray j) ((h:Int),x),?_,qc hs h1,hlen,Nf ..⟩
 unfold layNew;rw[h3]
 dsimp only
 rw[ep]
 dsimp only
 rw[hsz,hf];unfold SetTable.orStandIn;rw[hf]
 rfl
theorem xZ {pl:List Nat}{L:Bool}(hl:pl.length<=4):(tbl pl L).tooFull=false:=by
 unfold SetTable.tooFull Os
 have e:(tbl pl L).place.size=pl.length:=by show(LD _).size=_;simp
 have e2:(tbl pl L).dummies.size=0:=rfl
 have e3:(tbl pl L).mask=7:=rfl;rw[e,e2,e3]
 simp;omega
theorem wN {pl:List Nat}{L:Bool}(hl:pl.length<=4):(tbl pl L).fits pl.length=true:=by
 unfold SetTable.fits Os
 have e:(tbl pl L).place.size=pl.length:=by show(LD _).size=_;simp
 have e2:(tbl pl L).dummies.size=0:=rfl
 have e3:(tbl pl L).mask=7:=rfl;rw[e,e2,e3]
 simp;omega
theorem mF {k:Int}(h0:0<=k)(h1:k<100):hashInt k=k:=by
 obtain⟨n,rfl⟩:=Iy h0
 have hn:n<100:=by omega
 have e1:rawHash (n:Int)=n:=by
  have e:(((n:Int).natAbs:Int) % ((2 ^ 61 - 1:Nat):Int))=(n:Int):=by
   rw[Int.natAbs_natCast];exact OQ (by omega) (by omega)
  have e2:¬ ((n:Int)<0):=by omega
  have e3:¬ (((n:Int) == -1)=true):=by rw[beq_iff_eq];omega
  unfold rawHash
  dsimp only
  rw[e,if_neg e2,if_neg e3]
 unfold hashInt;rw[e1,if_neg (by rw[beq_iff_eq];omega)]
def Gu (e:Int×HA):Prop:=∃k t,e=(k,IU k t)/\0<=k/\k<100
def jS (es:Array (Int×HA))(ep:Nat)(pl:List Nat)(L:Bool):Obj:={ cls:=.type "set",dict:=none,data:=.set es ep (tbl pl L),slots:=#[] }
structure SetX (h:Heap)(a:Addr)(es:Array (Int×HA))(ep:Nat)(pl:List Nat)(L:Bool):Prop where
 at_:h.get? a=some (jS es ep pl L)
 rise:pl.Pairwise (· < ·)
 len:es.size=pl.length
 few:pl.length<=4
 ent:∀e∈es.toList,Gu e
theorem SetX.fits {h:Heap}{a:Addr}{es:Array (Int×HA)}{ep:Nat}{pl:List Nat}{L:Bool}(x:SetX h a es ep pl L):(tbl pl L).fits es.size=true:=by rw[x.len];exact wN x.few
theorem SetX.keep {h h':Heap}{a:Addr}{es:Array (Int×HA)}{ep:Nat}{pl:List Nat}{L:Bool}(x:SetX h a es ep pl L)(k:∀o,h.get? a=some o->h'.get? a=some o):SetX h' a es ep pl L:=
 ⟨k _ x.at_,x.rise,x.len,x.few,x.ent⟩
theorem SetX.typ {s:HB}{a:Addr}{es:Array (Int×HA)}{ep:Nat}{pl:List Nat}{L:Bool}(x:SetX s.heap a es ep pl L):s.TypeIs (.ref a) "set":=⟨_,x.at_,rfl⟩
theorem vW {prog:H0}{w:IP}{es:List (Int×HA)}(h:∀e∈es,Gu e):ElemsOf (intKind prog w) es:=by
 intro e he;obtain⟨k,t,rfl,h0,h1⟩:=h e he;exact⟨⟨k,by simp[intKind,Ln],(mF h0 h1).symm⟩,rfl⟩
def bF (es:Array (Int×HA)):List Int:=es.toList.map (·.1)
section
variable {prog:H0}{w:IP}{A:Iu}{E:HA->HB->Prop}{s:HB}
theorem ze {es:List (Int×HA)}(h:∀e∈es,Gu e)(k:Int):(es.findIdx? (λe=>(intKind prog w).is k e.2)).isSome=decide (k∈es.map (·.1)):=by
 rw[Kg];simp only[List.findIdx?_isSome,M5,decide_eq_true_eq,Ic]
 constructor
 ·rintro ⟨e,he,q⟩
  obtain⟨j,t,rfl,_,_⟩:=h e he;refine⟨_,he,?_⟩
  have:j=k:=by simpa [intKind,Ln]using q
  exact this
 ·rintro ⟨e,he,q⟩
  obtain⟨j,t,rfl,_,_⟩:=h e he;refine⟨_,he,?_⟩
  simp only at q;simp[intKind,Ln,q]
theorem Gi {a:Addr}{es:Array (Int×HA)}{ep:Nat}{pl:List Nat}{L:Bool}{k:Int}{t:Tok}{Q:Bool->HB->Prop}(h0:0<=k)(h1:k<100)
  (x:SetX s.heap a es ep pl L) (hr:pl.length<=3)
  (h:∀(b:Bool) h' es' ep' pl',K2 a s.heap h'->SetX h' a es' ep' pl' L->KP (bF es') (if k∈bF es then bF es else bF es++ [k])->Q b { s with heap:=h' }) :
  wpAny (model prog w) A (setAddHashed a (.int k t) (hashInt k)) Q E s:=by
 have hel:=vW (prog:=prog) (w:=w) x.ent
 have hb:es.size<scanBound:=by rw[x.len];unfold scanBound;omega
 have hkey:(intKind prog w).is k (IU k t)=true:=by simp[intKind,Ln]
 unfold setAddHashed setAddHashedIn;refine Jp (Hw (KI x.at_ rfl x.fits ?_))
 dsimp only
 rw[byScan_of (knd:=intKind prog w) rfl hb hel];simp only[↓reduceIte];unfold setAddByScan;refine Hw (Hw (KH (Hw (wpAny_setScan_of (knd:=intKind prog w) hkey x.at_ rfl x.fits hel ?_))))
 have hf:=ze (prog:=prog) (w:=w) x.ent k
 cases hi:List.findIdx? (λe=>(intKind prog w).is k e.2) es.toList with
 | some j=>
  rw[hi]at hf
  have hin:k∈bF es:=by unfold bF;simpa using hf.symm
  dsimp only
  refine HF (HF ?_)
  have e:s= { s with heap:=s.heap }:=by cases s;rfl
  have:=h false s.heap es ep pl (OF a s.heap) x (by rw[if_pos hin])
  rw[e];exact this
 | none=>
  rw[hi]at hf
  have hin:k∉bF es:=by unfold bF;simpa using hf.symm
  dsimp only
  obtain⟨n,rfl⟩:=Iy h0;obtain⟨pl',es',e1,e2,e3,e4⟩:=DJ (L:=L) x.rise hr (h:=n) (by omega) x.len (IU (n:Int) t)
  rw[mF h0 h1]
  have e1':layNew (tbl pl L) es ((n:Nat):Int) (IU (n:Int) t)=(es',tbl pl' L,false,false):=e1;rw[e1']
  dsimp only
  have hl':es'.size=pl'.length:=by
   rw[<-IB,e4.length_eq,e3];simp[x.len]
  have hent:∀e∈es'.toList,Gu e:=by
   intro e he
   have:=e4.mem_iff.mp he;rw[MJ,IL,Ia]at this;rcases this with q | rfl
   ·exact x.ent e q
   ·exact⟨_,t,rfl,h0,h1⟩
  have hperm:KP (bF es') (bF es++ [(n:Int)]):=by
   have:=e4.map (·.1)
   rw[MJ,Ju]at this;exact this
  have hsz:es'.size<=sizeLine:=by rw[hl',e3,IG];omega
  have hnf:(tbl pl' L).tooFull=false:=xZ (by omega)
  refine Hw (HF ?_)
  have hpl:(tbl pl' L).plain=true:=rfl;rw[hpl];simp only[↓reduceIte];refine Hw ?_
  rw[hashByValue_scannable 8 rfl];refine HF ?_
  have hpk:plainKind (IU (n:Int) t)=true:=rfl;rw[hpk];simp only[↓reduceIte];refine Hw (wpAny_storeSet_of x.at_ rfl ?_ hsz)
  rw[hnf];simp only[Bool.and_false,Jd,↓reduceIte]
  have hg:(s.heap.update a (Obj.putSet es' (tbl pl' L))).get? a=some (jS es' (ep+1) pl' L):=
   JJ (Obj.putSet es' (tbl pl' L)) x.at_ rfl
  refine HF (HF (h true _ es' (ep+1) pl' (JU ..) ⟨hg,e2,hl',by omega,hent⟩ ?_))
  rw[if_neg hin];exact hperm
end
theorem si_next:Slot "set_iterator" "__next__" "set_iterator.__next__":=.of (owner:="set_iterator") (n:="__next__") (by rw[Me,KC];kernel_rfl) (by decide+kernel) (by decide+kernel) (by decide+kernel) (by first | exact .inl (by decide+kernel) | exact .inr (by decide+kernel)) (by rw[Lz];kernel_rfl)
theorem ue:Slot "set_iterator" "__iter__" "set_iterator.__iter__":=.of (owner:="set_iterator") (n:="__iter__") (by rw[Me,KC];kernel_rfl) (by decide+kernel) (by decide+kernel) (by decide+kernel) (by first | exact .inl (by decide+kernel) | exact .inr (by decide+kernel)) (by rw[Lz];kernel_rfl)
theorem qM:entryFor table "set_iterator.__next__" =some Builtin.«set_iterator.__next__»:=Pv (by kernel_rfl)
theorem uf (a:HA):argsOk "set_iterator.__next__" ⟨[a],[]⟩:=by unfold argsOk;kernel_rfl
theorem lz:entryFor table "set.__iter__" =some Builtin.«frozenset.__iter__»:=entryFor_alias (id':="frozenset.__iter__") (by kernel_rfl) rfl (by decide+kernel) (by kernel_rfl)
theorem m3:entryFor table "set_iterator.__iter__" =some Builtin.«dict_keyiterator.__iter__»:=entryFor_alias (id':="dict_keyiterator.__iter__") (by kernel_rfl) rfl (by decide+kernel) (by kernel_rfl)
theorem oP (a:HA):argsOk "set_iterator.__iter__" ⟨[a],[]⟩:=by unfold argsOk;kernel_rfl
theorem nj:isSubtype (.type "set") (.type "set")=pure true:=by rw[Lz];kernel_rfl
theorem uj {α:Type}(next:Nat->Nat):∀(fuel k:Nat) (left:List α) (out:Array α),left.length<=fuel->KP (Pe next fuel k left out).toList (out.toList++left)
 | 0,k,left,out,h=>by
  have:left= []:=Kr (by omega)
  subst this
  unfold Pe;simp
 | fuel+1,k,left,out,h=>by
  unfold Pe
  cases e:left[next k % left.length]? with
  | none=>
   have hl:left.length=0:=by
    have:=Mw.mp e
    rcases Oq left.length with q | q
    ·exact q
    ·have:=Nat.mod_lt (next k) q;omega
   have:left= []:=Kr hl;subst this
   simp
  | some x=>
   dsimp only
   obtain⟨hlt,ex⟩:=HN.mp e
   have ih:=uj next fuel (k+1) (left.eraseIdx (next k % left.length)) (out.push x) (by rw[List.length_eraseIdx];split <;> omega)
   refine ih.trans ?_
   rw[MJ,IX];refine List.Perm.append_left _ ?_
   rw[Lq]
   have e2:left=left.take (next k % left.length)++x::left.drop (next k % left.length+1):=by
    conv=>lhs;rw[<-LG (next k % left.length) left]
    rw[Jo hlt,ex]
   conv=>rhs;rw[e2]
   rw[Np];exact(List.perm_middle).symm
theorem vC {α:Type}(next:Nat->Nat)(xs:Array α):KP (Qe next xs).toList xs.toList:=by
 have:=uj next xs.size 0 xs.toList #[] (by simp)
 simpa [Qe]using this
def IsSetIter (h:Heap)(it a:Addr)(sl i n ep:Nat):Prop:=∃o,h.get? it=some o/\o.cls= .type "set_iterator"/\o.data= .fields #[.int sl 0,.int i 0,.ref a,.int n 0,.int ep 0]
theorem IsSetIter.typ {s:HB}{it a:Addr}{sl i n ep:Nat}(x:IsSetIter s.heap it a sl i n ep):s.TypeIs (.ref it) "set_iterator":=let ⟨o,ho,hc,_⟩:=x;⟨o,ho,hc⟩
def i8 (w:IP):Bool:=w.params.followText "set-order"
def ez (w:IP)(a:Addr)(ep:Nat)(es:Array (Int×HA)):Array (Int×HA):=if i8 w then Qe (w.params.setOrder a ep) es else es
theorem fG (w:IP)(a:Addr)(ep:Nat)(es:Array (Int×HA)):KP (ez w a ep es).toList es.toList:=by
 unfold ez;split
 ·exact vC _ _
 ·exact .rfl
def cV (B:Bool)(pl:List Nat):Nat->Nat
 | 0=>0
 | j+1=>if B then 0 else pl.getD j 0+1
theorem sH {pl:List Nat}(hs:pl.Pairwise (· < ·)):∀{i:Nat},i<=pl.length->HV pl.toArray (cV false pl i)=i
 | 0,_=>sg hs
 | j+1,h=>by
  have hj:j<pl.length:=by omega
  have e:pl[j]? =some pl[j]:=HG hj
  have e2:cV false pl (j+1)=pl[j] +1:=by simp[cV,hj]
  rw[e2];exact tO hs e
section
variable {prog:H0}{w:IP}{A:Iu}{E:HA->HB->Prop}{s:HB}
theorem oQ {a:Addr}{es:Array (Int×HA)}{ep:Nat}{pl:List Nat}{L:Bool}{Q:Array (Int×HA)->HB->Prop}(x:SetX s.heap a es ep pl L)(hB:i8 w=true)
  (h:Q (ez w a ep es) s):wpAny (model prog w) A (setWalk a) Q E s:=by
 unfold setWalk;refine Hw (KI x.at_ rfl x.fits ?_)
 dsimp only
 unfold setsByText;refine Hw (Hw (KW (HF ?_)))
 show wpAny _ _ (if (i8 w)=true then _ else _) _ _ _
 rw[hB,if_pos rfl];refine Hw (KW (HF ?_))
 unfold ez at h;rw[hB,if_pos rfl]at h;exact h
theorem lA {a:Addr}{es:Array (Int×HA)}{ep i:Nat}{pl:List Nat}{Q:Option (HA×Nat)->HB->Prop}(x:SetX s.heap a es ep pl (!i8 w))(hi:i<=es.size)
  (h:Q ((ez w a ep es)[i]?.map λe=>(e.2,cV (i8 w) pl (i+1))) s):wpAny (model prog w) A (setNext a (cV (i8 w) pl i) i ep) Q E s:=by
 unfold setNext;refine Hw (KI x.at_ rfl x.fits ?_)
 dsimp only
 unfold setsByText;refine Hw (Hw (KW (HF ?_)))
 show wpAny _ _ (if (i8 w)=true then _ else _) _ _ _
 cases hB:i8 w with
 | true=>
  rw[if_pos rfl,if_neg (by simp)]
  refine Hw (oQ x hB (HF ?_))
  rw[hB]at h
  have e0:cV true pl i=cV true pl (i+1):=by cases i <;> rfl
  rw[e0]
  exact h
 | false=>
  rw[if_neg (by simp)]
  rw[hB]at x h
  show wpAny _ _ (if (false&&decide (es.size > 1))=true then _ else _) _ _ _
  rw[if_neg (by simp)]
  refine Hw ?_
  show wpAny _ _ (if (!(tbl pl (!false)).led&& !es.isEmpty)=true then _ else _) _ _ _
  rw[if_neg (by simp[tbl])]
  refine HF (HF ?_)
  have ep1:(tbl pl (!false)).place=pl.toArray:=rfl;rw[ep1,sH x.rise (by rw[<-x.len];exact hi)]
  have eo:ez w a ep es=es:=by unfold ez;rw[hB];rfl
  rw[eo]at h;rcases J6 i es.size with q | q
  ·have q2:i<pl.length:=by rw[<-x.len];exact q
   have e1:es[i]? =some es[i]:=Kd q
   have e2:pl.toArray[i]? =some pl[i]:=by simp[q2]
   have e3:cV false pl (i+1)=pl[i] +1:=by simp[cV,q2]
   rw[e1,e3]at h;rw[e1,e2];exact h
  ·have e1:es[i]? =none:=Kt q
   rw[e1]at h;rw[e1];exact h
theorem vK {it a:Addr}{es:Array (Int×HA)}{ep i:Nat}{pl:List Nat}{e:Int×HA}{Q:Option HA->HB->Prop}(hit:IsSetIter s.heap it a (cV (i8 w) pl i) i es.size ep)
  (x:SetX s.heap a es ep pl (!i8 w)) (hi:i<=es.size) (he:(ez w a ep es)[i]? =some e)
  (hQ:∀h',IsSetIter h' it a (cV (i8 w) pl (i+1)) (i+1) es.size ep->K2 it s.heap h'->Q (some e.2) { s with heap:=h' }) :
  wpAny (model prog w) A (pyNext (.ref it)) Q E s:=by
 obtain⟨o,ho,hc,hd⟩:=id hit;unfold pyNext;refine Hw (LY (Jj (name:=HW "__next__") hit.typ si_next (Jh si_next hit.typ qM ?_ (uf _))))
 refine Hw (HF ?_)
 refine Hw (wpAny_fieldsOf ho hd ?_)
 dsimp only
 refine Hw (Mf x.at_ rfl x.fits ?_)
 rw[if_neg (by simp)]
 simp only[IM];refine Hw (lA x hi ?_)
 rw[he]
 dsimp only[Option.map]
 refine Hw (Ly ho hd (by simp) ?_)
 have g1:(s.heap.update it (Obj.mapFields (·.setIfInBounds 0 (rawInt (cV (i8 w) pl (i+1)))))).get? it=some (Obj.mapFields (·.setIfInBounds 0 (rawInt (cV (i8 w) pl (i+1)))) o):=
  JJ _ ho (LF (J5 hd _))
 have d1:=J5 hd (·.setIfInBounds 0 (rawInt (cV (i8 w) pl (i+1))))
 refine Hw (Ly g1 d1 (by simp) ?_)
 refine HF ⟨_,rfl,HF (hQ _ ?_ ?_)⟩
 ·refine⟨_,JJ _ g1 (LF (J5 d1 _)),((MF ..).trans (MF ..)).trans hc,?_⟩
  rw[J5 d1];simp[rawInt]
 ·exact(JU ..).trans (JU ..)
theorem ya {it a:Addr}{es:Array (Int×HA)}{ep:Nat}{pl:List Nat}{Q:Option HA->HB->Prop}(hh:A.handled=none)(hit:IsSetIter s.heap it a (cV (i8 w) pl es.size) es.size es.size ep)
  (x:SetX s.heap a es ep pl (!i8 w))
  (hQ:∀h',PM it s.heap h'->Q none { s with heap:=h' }) :
  wpAny (model prog w) A (pyNext (.ref it)) Q E s:=by
 obtain⟨o,ho,hc,hd⟩:=id hit;unfold pyNext;refine Hw (LY (Jj (name:=HW "__next__") hit.typ si_next (Jh si_next hit.typ qM ?_ (uf _))))
 refine Hw (HF ?_)
 refine Hw (wpAny_fieldsOf ho hd ?_)
 dsimp only
 refine Hw (Mf x.at_ rfl x.fits ?_)
 rw[if_neg (by simp)]
 simp only[IM];refine Hw (lA x (HL _) ?_)
 have he:(ez w a ep es)[es.size]? =none:=by
  apply Kt
  rw[<-IB,(fG w a ep es).length_eq];simp
 rw[he]
 dsimp only[Option.map]
 refine Hw (Ly ho hd (by simp) ?_)
 refine Hw ?_
 simp only[newExc,newTuple];refine Hw (IQ ?_ (by size_fits))
 refine Hw (m:=Mz _ _) (P5 (a:=IE) (by first | rfl | (simp only[Mz];rfl)) ?_)
 refine IQ ?_ (by size_fits)
 simp only[raiseNew];refine Hw (wpAny_handled ?_)
 rw[show A.in1.handled=none from hh]
 refine Hw (HF (wpAny_throw ?_))
 refine  Hw (Nb (T:="StopIteration") (b:=true) ⟨_,HR _ rfl,rfl⟩ isSubtype_stop ?_)
 exact HF (hQ _ (((JU ..).extBut.push _).push _))
theorem vR {it a:Addr}{sl i n ep:Nat}{Q:HA->HB->Prop}(hit:IsSetIter s.heap it a sl i n ep)(h:Q (.ref it) s):wpAny (model prog w) A (pyIter (.ref it)) Q E s:=by
 refine O8 hit.typ ue (Jh ue hit.typ m3 ?_ (oP _))
 show wpAny _ _ (ret (.ref it)) _ _ s
 exact HF ⟨_,rfl,"set_iterator",_,hit.typ,si_next.lookup,h⟩
theorem yS {a:Addr}{es:Array (Int×HA)}{ep:Nat}{pl:List Nat}{L:Bool}{Q:HA->HB->Prop}(x:SetX s.heap a es ep pl L)
  (hQ:Q (.ref s.heap.objs.size) { s with heap:=s.heap.push { cls:=.type "set_iterator",data:=.fields #[.int 0 0,.int 0 0,.ref a,.int es.size 0,.int ep 0] } }) :
  wpAny (model prog w) A (pyIter (.ref a)) Q E s:=by
 refine O8 x.typ PU (Jh PU x.typ lz ?_ (F.args_set_iter_1 _))
 unfold Builtin.«frozenset.__iter__» Builtin.Frozenset.slot0 slotArgs;simp only[List.isEmpty_nil,Bool.not_true,Jd,↓reduceIte,bind_assoc,Nr,bne_self_eq_false];unfold Builtin.Frozenset.addrOf Builtin.Frozenset.sizeOf;refine Hw (HF ?_)
 try dsimp only
 refine Hw (HF ?_)
 refine Hw (Hw (Mf x.at_ rfl x.fits (HF ?_)))
 unfold setDrawn;refine Hw (Hw (KI x.at_ rfl x.fits ?_))
 dsimp only
 unfold setsByText;refine Hw (Hw (KW (HF (HF ?_))))
 have e0:∀b:Bool,(!b&&(false&&decide (es.size > 1)))=false:=by intro b;cases b <;> rfl
 show wpAny _ _ (if (!(i8 w)&&(false&&decide (es.size > 1)))=true then _ else _) _ _ _
 rw[e0];rw[if_neg (by simp)]
 refine Hw (HF ?_)
 unfold setEpoch;refine Hw (Hw (KI x.at_ rfl x.fits (HF ?_)))
 refine Hw (IQ (HF ⟨_,rfl,"set_iterator",_,⟨_,HR _ rfl,rfl⟩,si_next.lookup,?_⟩))
 simpa [rawInt]using hQ
theorem wG {a I:Addr}{es:Array (Int×HA)}{ep:Nat}{pl:List Nat}(hh:A.handled=none)(hne:a≠I) :
  WalksS prog w A I [I,a] [I] (λx y=>y=x) es.size (λi v=>(ez w a ep es)[i]?.map (·.2)=some v) (λi s=>IsSetIter s.heap I a (cV (i8 w) pl i) i es.size ep/\SetX s.heap a es ep pl (!i8 w)) where
 sub:=λb hb=>by simp at hb;simp[hb]
 grefl:=λ_=>rfl
 gtrans:=λ_ _ _ h1 h2=>h2.trans h1
 frame:=λi s h' tk st _ hk=>⟨let ⟨o,ho,r⟩:=st.1;⟨o,hk I (by simp) o ho,r⟩,st.2.keep λo e=>hk a (by simp) o e⟩
 item:=λi s Q E hi st hQ=>by
  have hs:(ez w a ep es).size=es.size:=by rw[<-IB,(fG w a ep es).length_eq];simp
  have he:(ez w a ep es)[i]? =some (ez w a ep es)[i]:=Kd (by omega)
  refine vK st.1 st.2 (by omega) he λh' hit hsb=> ?_
  refine hQ _ _ (by rw[he];rfl) ⟨hit,st.2.keep λo e=>(hsb.extBut a o hne e)⟩ ⟨λb o hb e=>hsb.extBut b o (λq=>hb (by simp[q])) e,rfl,rfl,rfl,HL _⟩
 done:=λs Q E st hQ=>ya hh st.1 st.2 λh' hx=>hQ _ ⟨λb o hb e=>hx b o (λq=>hb (by simp[q])) e,rfl,rfl,rfl,HL _⟩
 self:=λi s Q E st hQ=>vR st.1 hQ
end
section
variable {prog:H0}{w:IP}{A:Iu}{E:HA->HB->Prop}{s:HB}
theorem yZ {a:Addr}{es:Array (Int×HA)}{ep:Nat}{pl:List Nat}{L:Bool}{Q:Bool->HB->Prop}(x:SetX s.heap a es ep pl L)(h:Q false s) :
  wpAny (model prog w) A (L3 (.ref a)) Q E s:=by
 unfold L3;refine Hw (P6 x.typ F.slot_set_len.lookup ?_)
 have e:splitId "set.__len__" =some ("set","__len__"):=by decide+kernel
 simp only[e];refine Hw (Nb x.typ nj ?_)
 rw[if_neg (by simp)]
 rw[if_pos (by decide+kernel)]
 exact Hw (KB x.typ (HF h))
theorem sd {a:Addr}{es:Array (Int×HA)}{ep:Nat}{pl:List Nat}{Q:List HA->HB->Prop}(hh:A.handled=none)(x:SetX s.heap a es ep pl (!i8 w))
  (h:∀vs s',Moved [] (λx y=>y=x) s s'->vs=(ez w a ep es).toList.map (·.2)->Q vs s'):wpAny (model prog w) A (collect (.ref a)) Q E s:=by
 unfold collect;refine Hw (wpAny_runValue (Jx F.entry_proto_collect ?_))
 rw[Jb F.plain_proto_collect _]
 show wpAny _ A.in1 (newList [] >>= λl=>again (.builtin "list.__iadd__" ⟨[l,.ref a],[]⟩)) _ _ s
 refine Hw (IQ ?_)
 refine HF ⟨Kp OU _,Jx F.entry_list_iadd ?_⟩
 rw[Jb OU _]
 have ha:a<s.heap.objs.size:=HM x.at_
 generalize hH:s.heap.push { cls:=.type "list",data:=.seq ([]:List HA).toArray }=H1
 have hH1:H1.objs.size=s.heap.objs.size+1:=by rw[<-hH,Kb]
 have x1:SetX H1 a es ep pl (!i8 w):=x.keep λo e=>by rw[<-hH];exact HC _ e
 show wpAny _ A.in1 (L4 (.ref s.heap.objs.size) (.ref a) (.ref s.heap.objs.size)) _ _ _
 unfold L4;refine Hw (KB (SetX.typ (s:={ s with heap:=H1 }) x1) ?_)
 have h1:MD (.ref s.heap.objs.size) (.ref a)=false:=by
  simp[MD];exact Jm ha
 have h2:(JB "set" == JB "list")=false:=by decide
 have h3:(JB "set" == JB "tuple")=false:=by decide
 simp only[h1,h2,h3,Bool.or_false,Jd,if_false];refine Hw (yS (s:={ s with heap:=H1 }) x1 ?_)
 generalize hH2:H1.push { cls:=.type "set_iterator",data:=.fields #[.int 0 0,.int 0 0,.ref a,.int es.size 0,.int ep 0] }=H2
 have x2:SetX H2 a es ep pl (!i8 w):=x1.keep λo e=>by rw[<-hH2];exact HC _ e
 refine Hw (Jp (yZ (s:={ s with heap:=H2 }) x2 ?_))
 rw[if_pos (by decide+kernel)]
 refine Hw (KH ?_)
 have hLI:s.heap.objs.size≠H1.objs.size:=by rw[hH1];exact HZ (KU _)
 have hS1:H2.get? s.heap.objs.size=some { cls:=.type "list",data:=.seq ([]:List HA).toArray }:=by
  rw[<-hH2];refine HC _ ?_;rw[<-hH];exact HR _ rfl
 have hI1:H2.get? H1.objs.size=some { cls:=.type "set_iterator",data:=.fields #[.int 0 0,.int 0 0,.ref a,.int es.size 0,.int ep 0] }:=by
  rw[<-hH2];exact HR _ rfl
 refine Hw ?_
 show wpAny _ A.in1 (updateSeq s.heap.objs.size (·.push .none) >>= λ_=>updateSeq s.heap.objs.size (·.pop)) _ _ _
 refine Hw (P9 hS1 rfl ?_)
 have hS2:=JJ (IA (·.push IE)) hS1 rfl
 refine P9 hS2 rfl ?_
 have hS3:=JJ (IA (·.pop)) hS2 rfl
 generalize hH3:(H2.update s.heap.objs.size (IA (·.push IE))).update s.heap.objs.size (IA (·.pop))=H3 at hS3 ⊢
 have oth:∀b o,b≠s.heap.objs.size->H2.get? b=some o->H3.get? b=some o:=λb o hb e=>by
  rw[<-hH3];exact(Lh _ _ (Mu hb)).trans ((Lh _ _ (Mu hb)).trans e)
 have hn:es.size<=sizeLine:=by rw[x.len,IG];have:=x.few;omega
 have hne:a≠H1.objs.size:=by rw[hH1];exact HZ (IY ha)
 refine HF ⟨Kp F.plain_extend_loop _,codeAny_extend_loopS (wG (pl:=pl) (ep:=ep) (es:=es) (by simpa using hh) hne) hn _ ?_ _ es.size 0 _ #[] _ rfl (IC _)
  ⟨⟨_,oth _ _ (Mu hLI) hI1,rfl,rfl⟩,x2.keep λo e=>oth a o (HZ ha) e⟩ hS3 (ItemsOf.nil _) λs' acc c hm hS' hacc=> ?_⟩
 ·simp only[HS,II,or_false,not_or]
  exact⟨hLI,Jm ha⟩
 show wpAny _ A (load s.heap.objs.size >>= _) _ _ s'
 refine Hw (wpAny_load hS' ?_)
 refine HF (h _ _ ⟨λb o hb e=> ?_,hm.gens,hm.drawn,hm.os,hm.toks⟩ ?_)
 ·have hlt:b<s.heap.objs.size:=HM e
  refine hm.heap b o ?_ (oth b o (HZ hlt) ?_)
  ·simp only[HS,II,or_false,not_or]
   exact⟨HZ hlt,by show ¬b=H1.objs.size;rw[hH1];exact HZ (IY hlt)⟩
  ·rw[<-hH2];refine HC _ ?_;rw[<-hH];exact HC _ e
 ·obtain⟨h1,h2⟩:=hacc
  have hs:(ez w a ep es).size=es.size:=by rw[<-IB,(fG w a ep es).length_eq];simp
  apply OV
  intro j;rcases J6 j acc.size with q | q
  ·have:=h2 j acc[j] (Kd q)
   rw[J7,Kd q,Ij,J7]
   exact this.symm
  ·rw[J7,Kt q,Ij,J7,Kt (by omega)];rfl
end
def DF (ns:List Int):List Int:=ns.foldl (λσ k=>if k∈σ then σ else σ++ [k]) []
def jY (val:Nat->Int)(i:Nat):List Int:=DF ((HD i).map val)
theorem nT (val:Nat->Int)(i:Nat):jY val (i+1)=if val i∈jY val i then jY val i else jY val i++ [val i]:=by
 unfold jY DF;rw[Mb,Ju,List.foldl_append];rfl
theorem rH (val:Nat->Int):∀i,(jY val i).length<=i
 | 0=>HL _
 | i+1=>by
  rw[nT]
  have:=rH val i;split
  ·omega
  ·rw[HP];simp;omega
section
variable {prog:H0}{w:IP}{A:Iu}{R:Result->HB->Prop}{I:Addr}{fp wr:List Addr}{G:Array PC->Array PC->Prop}{n:Nat}{P:Nat->HA->Prop}{St:Nat->HB->Prop}
theorem wI {L:Bool}(W:WalksS prog w A.in1 I fp wr G n P St)(S:Addr)(hS:S∉fp)(val:Nat->Int)(hv:∀i v,P i v->∃t,v= .int (val i) t)(hsm:∀i,i<n->0<=val i/\val i<100)(hn:n<=4) :
  ∀(k i:Nat) (s:HB) (es:Array (Int×HA)) (ep:Nat) (pl:List Nat),n - i=k->i<=n->St i s->SetX s.heap S es ep pl L->KP (bF es) (jY val i) →
   (∀s' es' ep' pl',Moved (S::wr) G s s'->SetX s'.heap S es' ep' pl' L->KP (bF es') (jY val n)->R (.ok (.ret .none)) s') →
   codeAny (model prog w) A (.builtin "set.update.loop" ⟨[.ref S,.ref I],[]⟩) R s:=by
 have hw:S∉wr:=λh=>hS (W.sub _ h)
 have hsub:∀b∈wr,b∈S::wr:=λb hb=>HH _ hb
 intro k
 induction k with
 | zero=>
  intro i s es ep pl hk hi hst x hp hR
  have hin:i=n:=by omega
  subst hin;refine Jx KN ?_
  rw[Jb JR _]
  show wpAny _ A.in1 (pyNext (.ref I) >>= _) _ _ s
  refine Hw (W.done s _ _ hst λs' hm=> ?_)
  show wpAny _ A.in1 (ret IE) _ _ s'
  exact HF (hR s' es ep pl (hm.mono hsub) (x.keep λo e=>hm.heap S o hw e) hp)
 | succ k ih=>
  intro i s es ep pl hk hi hst x hp hR
  have hlt:i<n:=by omega
  refine Jx KN ?_
  rw[Jb JR _]
  show wpAny _ A.in1 (pyNext (.ref I) >>= _) _ _ s
  refine Hw (W.item i s _ _ hlt hst λv s' hP hst' hm=> ?_)
  obtain⟨t,rfl⟩:=hv i v hP
  have x':SetX s'.heap S es ep pl L:=x.keep λo e=>hm.heap S o hw e
  have hlen:pl.length<=3:=by
   have a1:=hp.length_eq
   have a2:=rH val i
   have a3:(bF es).length=es.size:=by simp[bF]
   have a4:=x.len;omega
  show wpAny _ A.in1 (holding [IU (val i) t] (setAdd S (.int (val i) t)) >>= _) _ _ s'
  refine Hw (Jp ?_)
  unfold setAdd;refine Jp ?_
  refine Hw ((intKind prog w).pyHash (k:=val i) (by simp[intKind,Ln]) ?_)
  refine Gi (s:={ s' with toks:=s'.toks+1 }) (hsm i hlt).1 (hsm i hlt).2 x' hlen λb h' es' ep' pl' hsb x2 hp2=> ?_
  have hp3:KP (bF es') (jY val (i+1)):=by
   rw[nT]
   by_cases hin:val i∈bF es
   ·rw[if_pos hin]at hp2
    rw[if_pos (hp.mem_iff.mp hin)];exact hp2.trans hp
   ·rw[if_neg hin]at hp2
    rw[if_neg (λq=>hin (hp.mem_iff.mpr q))]
    exact hp2.trans (hp.append_right _)
  refine HF ⟨Kp JR _,ih (i+1) _ es' ep' pl' (by omega) hlt (W.frame _ s' _ _ hst' (Lr _) λb hb o e=> ?_) x2 hp3 λs'' es2 ep2 pl2 hm'' x3 hp4=> ?_⟩
  ·rw[hsb.2 b (λh:b=S=>hS (by rw[<-h];exact hb))];exact e
  ·refine hR s'' es2 ep2 pl2 (Moved.trans W.gtrans ((hm.mono hsub).then_heap (Lr _) λb o hb e=> ?_) hm'') x3 hp4
   rw[hsb.2 b (λh:b=S=>hb (by rw[h];exact HK))];exact e
end
section
variable {prog:H0}{w:IP}{A:Iu}{E:HA->HB->Prop}{s:HB}
theorem Ao (a:HA){Q₁:HA->HB->Prop}
  (h:Q₁ (.ref s.heap.objs.size) { s with heap:=s.heap.push (jS #[] 0 [] (!i8 w)) }) :
  codeAny (model prog w) A (.call (.builtin "set.__new__") ⟨[.type "set",a],[]⟩) (wants Q₁ E) s:=by
 refine Qa ?_
 show wpAny _ A.in1 (do checkBuiltinCall "set.__new__" ⟨[.type "set",a],[]⟩;again (.builtin "set.__new__" ⟨[.type "set",a],[]⟩)) _ _ s
 refine Hw (P5 (F.newCall_set_1 a) (HF ⟨Kp PV _,Jx F.entry_set_new ?_⟩))
 rw[Jb PV _];unfold Builtin.«set.__new__» Builtin.Frozenset.newClass
 have hsub:=sub_set_self;obtain⟨hp,g,d,tk,os⟩:=s
 dsimp only
 wp_walk
 refine KW (HF ?_)
 dsimp only
 simp only[newObj];refine Hw (wpAny_alloc (HF ?_))
 exact HF h
end
section
variable {prog:H0}{w:IP}{A:Iu}{E:HA->HB->Prop}{s:HB}
theorem Cu:isSubtype (.type "list") (.type "set")=pure false:=by rw[Lz];kernel_rfl
theorem Cv:isSubtype (.type "list") (.type "frozenset")=pure false:=by rw[Lz];kernel_rfl
theorem wa {l:Addr}{items:Array HA}{ns:List Int}{Q:HA->HB->Prop}
  (hh:A.handled=none) (hl:s.heap.IsList l items) (hi:Qh items.toList ns) (hb:items.size<=4) (hsm:∀i,i<items.size->0<=ns.getD i 0/\ns.getD i 0<100)
  (h:∀(h':Heap) (tk:Nat) es ep pl,SetX h' s.heap.objs.size es ep pl (!i8 w)->KP (bF es) (jY (λi=>ns.getD i 0) items.size) →
   (∀b o,b<s.heap.objs.size->s.heap.get? b=some o->h'.get? b=some o)->s.toks<=tk->Q (.ref s.heap.objs.size) { s with heap:=h',toks:=tk }) :
  wpAny (model prog w) A (call (.type "set") [.ref l]) Q E s:=by
 obtain⟨c,tl,hmro⟩:=KA.mro
 have hmade:=KA.made
 have hsub:=KA.sub;refine OZ (Qa ?_)
 show wpAny _ _ (callAny (.type "set") _) _ _ _
 refine HF ⟨Code.quiet_builtin _ (by decide+kernel),Jx F.entry_type_call ?_⟩
 rw[Around.under_plain (weight_type_call_type "set" [.ref l] []) rfl]
 have h1:=KA.notType
 have h2:=KA.canCreate
 have hct:=F.typeCall_set_1 (.ref l)
 repeat (any_goals (first | assumption | wp_step))
 refine K5 (Ao (.ref l) (E:=E) (Q₁:=λobj s₁=>obj= .ref s.heap.objs.size/\s₁= { s with heap:=s.heap.push (jS #[] 0 [] (!i8 w)) }) ⟨rfl,rfl⟩) λr s₁ hr=> ?_
 cases r with
 | error e=>exact hr
 | ok fl=>
  cases fl with
  | ret obj=>
   obtain⟨rfl,rfl⟩:=hr
   generalize hH:s.heap.push (jS #[] 0 [] (!i8 w))=H1
   have hH1:H1.objs.size=s.heap.objs.size+1:=by rw[<-hH,Kb]
   have hS:H1.get? s.heap.objs.size=some (jS #[] 0 [] (!i8 w)):=by rw[<-hH];exact HR _ rfl
   have hT:Shared.TypeIs { s with heap:=H1 } (.ref s.heap.objs.size) "set":=⟨_,hS,rfl⟩
   have hli:=KA.init.lookup
   have hbi:=KA.init.bind (.ref s.heap.objs.size)
   repeat (any_goals (first | assumption | wp_step))
   refine K5 (NR (R:=wants (λr s₂=>r= .none/\∃h' tk es ep pl,s₂= { s with heap:=h',toks:=tk }/\SetX h' s.heap.objs.size es ep pl (!i8 w)/\KP (bF es) (jY (λi=>ns.getD i 0) items.size) ∧
     (∀b o,b<s.heap.objs.size->s.heap.get? b=some o->h'.get? b=some o)/\s.toks<=tk) E) KA.init.plain F.entry_set_init (check_set_init_1 hT ?_)) λr₂ s₂ hr₂=> ?_
   ·obtain⟨ol,hol,hcl,nl,hdl⟩:=hl
    obtain⟨ocls,odict,odata,oslots⟩:=ol;simp only at hcl hdl;subst hcl;subst hdl
    have hol':H1.get? l=some { cls:=.type "list",dict:=odict,data:=.seq items nl,slots:=oslots }:=by rw[<-hH];exact HC _ hol
    have hsls:=Cu
    have hslf:=Cv
    have hne:(JB "list" == JB "dict")=false:=by decide
    have hl1:H1.IsList l items:=⟨_,hol',rfl,nl,rfl⟩;unfold Builtin.«set.__init__» noKeywords Px
    generalize hPI:pyIter=PI
    wp_walk
    subst hPI;refine Ls hl1 ?_
    refine Hw (wpAny_runValue ?_)
    have hlS:l<s.heap.objs.size:=HM hol
    have hh3:A.in1.in1.in1.handled=none:=by simp[hh]
    have hneI:l≠H1.objs.size:=by rw[hH1];exact HZ (IY hlS)
    have hSf:s.heap.objs.size∉ [H1.objs.size,l]:=by
     simp only[HS,Ia,II,or_false,not_or];exact⟨by rw[hH1];exact HZ (KU _),Jm hlS⟩
    have hval:∀(i:Nat) (v:HA),items[i]? =some v->∃t,v= .int ((λi=>ns.getD i 0) i) t:=λi v hv=>
     PyProof.Rows.IntsAre.int_at hi i v (by rw[J7];exact hv)
    refine wI (L:=!i8 w) ((Walks.list hh3 _ l hneI items).toS) s.heap.objs.size hSf (λi=>ns.getD i 0) hval hsm hb (items.size - 0) 0 _ #[] 0 [] (by omega) (IC _)
     ⟨⟨_,HR _ rfl,rfl,rfl⟩,(hl1.push _)⟩ ?hS0 .rfl ?hR
    case hS0=>
     exact⟨HC _ hS,MB,rfl,by simp,λe he=>by simp at he⟩
    case hR=>
     intro s' es' ep' pl' hm x' hp';obtain⟨h',g',d',tk',os'⟩:=s'
     have eg:g'=s.gens:=hm.gens
     have ed:d'=s.drawn:=hm.drawn
     have eo:os'=s.os:=hm.os
     have et:s.toks<=tk':=hm.toks;subst eg;subst ed;subst eo
     show wpAny _ _ _ _ _ _
     refine HF ?_
     show wpAny _ _ (ret IE) _ _ _
     refine HF ⟨rfl,h',tk',es',ep',pl',rfl,x',hp',λb o hb e=> ?_,et⟩
     refine hm.heap b o ?_ (HC _ (by rw[<-hH];exact HC _ e))
     simp only[HS,Ia,II,or_false,not_or];exact⟨HZ hb,by rw[hH1];exact HZ (IY hb)⟩
   ·cases r₂ with
    | error e=>exact hr₂
    | ok fl₂=>
     cases fl₂ with
     | ret r=>
      obtain⟨rfl,h',tk,es,ep,pl,rfl,x',hp',hk',et⟩:=hr₂
      repeat (any_goals (first | assumption | wp_step))
      exact h _ _ es ep pl x' hp' hk' et
     | _=>exact hr₂.elim
  | _=>exact hr.elim
end
end Tr
namespace Tr
open PySem PyProof.Rows
section
variable {prog:H0}{w:IP}{A:Iu}{E:HA->HB->Prop}{s:HB}
theorem zl {l:List (Int×HA)}(h:∀e∈l,Gu e):Jw (l.map (·.2)) (l.map (·.1)):=by
 induction l with
 | nil=>exact .nil
 | cons e r ih=>
  obtain⟨k,t,rfl,_,_⟩:=h e HK;exact .cons k t (ih λe he=>h e (HH _ he))
theorem sC {a:Addr}{es:Array (Int×HA)}{ep:Nat}{pl:List Nat}{Q:HA->HB->Prop}(hh:A.handled=none)(x:SetX s.heap a es ep pl (!i8 w))
  (h:∀(p:Addr) (out:Array HA) (ns:List Int) (h1 h':Heap) (tk n:Nat),(∀b o,s.heap.get? b=some o->h1.get? b=some o)->h1.objs.size<=p->(∀b o,h1.get? b=some o->h'.get? b=some o)->h'.get? p=some (seqObj "list" out n) →
   Jw out.toList ns->ns.Perm (bF es)->ns.Pairwise (·<=·)->s.toks<=tk->Q (.ref p) { s with heap:=h',toks:=tk }) :
  wpAny (model prog w) A (call (.builtin "sorted") [.ref a]) Q E s:=by
 refine Mx Qb Ph Pj (args_sorted1 _) ?_
 unfold Builtin.«sorted»;refine Hw (m:=checkCount "sorted" 1 1 _) (HF ?_)
 refine Hw (sd (by simpa using hh) x λvs s' hm hvs=> ?_)
 have hI:Jw vs ((ez w a ep es).toList.map (·.1)):=by
  rw[hvs];exact zl λe he=>x.ent e ((fG w a ep es).mem_iff.mp he)
 have h64:vs.length<64:=by
  rw[hvs,HI,(fG w a ep es).length_eq,IB,x.len]
  have:=x.few;omega
 refine Hw (MZ ?_ (by rw[IG];omega))
 have hoL:(s'.heap.push (seqObj "list" vs.toArray 0)).get? s'.heap.objs.size=some (seqObj "list" vs.toArray 0):=HR _ rfl
 refine Hw (Jp (Jh NW ⟨_,hoL,rfl⟩ ND (list_sort_tree hoL hI h64 λout ns' a1 a2 a3=>⟨_,rfl,?_⟩) (args_list_sort _)))
 obtain⟨n,hn⟩:=sortedHeap_at (out:=out) hoL;obtain⟨hp',g',d',tk',os'⟩:=s'
 have eg:g'=s.gens:=hm.gens
 have ed:d'=s.drawn:=hm.drawn
 have eo:os'=s.os:=hm.os
 have et:s.toks<=tk':=hm.toks;subst eg;subst ed;subst eo;refine HF ⟨_,rfl,h _ out ns' hp' _ tk' n (λb o e=>hm.heap b o (by simp) e) (HL _) (λb o e=> ?_) hn a1 (a2.trans ((fG w a ep es).map _)) a3 et⟩
 have hlt:b<hp'.objs.size:=HM e
 show(sortedHeap (hp'.push (seqObj "list" vs.toArray 0)) hp'.objs.size vs out).get? b=some o
 rw[sortedHeap_old (HZ hlt) (by rw[NK];exact IY hlt)]
 exact HC _ e
end
end Tr
namespace L2
open PySem PySem.Spec PyProof.Rows PySem.W
def GJ (K:Frag)(mg:Str->Option HA):Prop:=∃bm ob,mg "__builtins__" =some (.ref bm)/\bm≠K4/\bm≠Ie/\K.lookup bm=some ob/\ob.cls= .type "module"/\ob.dict=some K4/\ob.data= .plain
theorem tS {pos pos':Pos}{c v:HA}(l:List HA)(h:TriplesOk l):MN pos' (l++ [rawInt pos.line,rawInt pos.col,c])=some v->MN pos' l=some v\/v=c:=by
 fun_induction TriplesOk l with
 | case1=>
  intro e;simp only[K9,MN,rawInt]at e
  split at e
  ·exact .inr (Ip e).symm
  ·cases e
 | case2 a t b u x cb ih=>
  intro e;simp only[Pq,MN]at e ⊢
  split at e
  ·rename_i hc;rw[if_pos hc];exact .inl e
  ·rename_i hc;rw[if_neg hc];exact ih h e
 | case3 l h1 h2=>exact h.elim
section
variable {X:Cx}{pins:List (Addr×Obj)}{σ:List (Option V)}{H:Hp}{s:HB}
def Gq (H:Hp)(P:Addr)(h:Heap)(mg:Str->Option HA)(q:Str)(params:LJ)(body:Expr)(scope:Le)(f:Addr):Prop:=∃c ctv,h.get? f=some (kla_obj "<lambda>" q params body scope [] ((mg "__name__").getD .none) c ctv)/\h.CodeRec (.ref c) q/\H c=some (.own P)
theorem yD {params:LJ}{body:Expr}{scope:Le}{pos:Pos}{c P:Addr}(I:Inv X pins σ H s)(hcode:X.env.code= .ref c)(C:CodeHd X.base c P)(hP:H P=some (.tbl (X.env.qual++ "<lambda>")))(B:GJ X.K X.mg)
  (hdef:defaultsOf params X.env=([],[])) (hcl:NI scope X.env=pure []) {Q:HA->HB->Prop} {E:HA->HB->Prop}
  (q:∀f H' h' tk,s.heap.objs.size<=f->Same H H'->Inv X pins σ H' { s with heap:=h',toks:=tk }->H' f=none->Gq H' P h' X.mg (X.env.qual++ "<lambda>") params body scope f->Q (.ref f) { s with heap:=h',toks:=tk }) :
  wpAny (model X.prog X.w) X.A (eval (.Lambda params body scope pos) X.env) Q E s:=by
 refine kla_eval hdef ?_
 obtain⟨bm,ob,b1,b2,b3,b4,b5,b6,b7⟩:=B
 have eb:X.base.get? bm=some ob:=I.mod.kin bm ob b4
 have hbP:bm≠P:=λz=>by have:=(I.bs bm ob eb).2;rw[z,hP]at this;cases this
 have hgs:s.heap.Ns Ie X.mg:=I.mod.glob.keeps I.bk
 have hgP:Ie≠P:=λz=>by
  obtain⟨o,es,ep,e,_⟩:=I.mod.glob
  have:=(I.bs _ o e).2;rw[z,hP]at this;cases this
 have hB:s.heap.BuiltinsAt X.mg P:=⟨bm,ob,b1,b2,b3,hbP,I.bk _ _ eb,b5,b6,b7⟩
 have hC:CodeHd s.heap c P:=C.keeps I.bk;obtain⟨ps,e,ht,r⟩:=I.hok P _ hP
 cases hf:MN pos ps.toList with
 | none=>
  have hnf:=hf;refine kla_makeFunction (mg:=X.mg) hcl I.ok.glob hgs hcode hC e ht hnf hgP hB λc' ctv h' tk hx hge hlt hrec htb=> ?_
  have hn':H c'=none:=I.hok.fresh hge
  have ncP:c'≠P:=λz=>by rw[z,hP]at hn';cases hn'
  have same:Same H (upd H c' (.own P)):=λb o eb=>by rw[aJ (λz=>by rw[z,hn']at eb;cases eb)];exact eb
  have pk:∀b u,b≠P->s.heap.get? b=some u->(h'.push (kla_obj "<lambda>" (X.env.qual++ "<lambda>") params body scope [] ((X.mg "__name__").getD .none) c' ctv)).get? b=some u:=λb u n eb=>HC _ (hx b u n eb)
  obtain⟨c₂,oc,vs,t,ee,hoc,hd,hv⟩:=hrec;cases ee
  have htb':=HC (kla_obj "<lambda>" (X.env.qual++ "<lambda>") params body scope [] ((X.mg "__name__").getD .none) c' ctv) htb
  have hoc':=HC (kla_obj "<lambda>" (X.env.qual++ "<lambda>") params body scope [] ((X.mg "__name__").getD .none) c' ctv) hoc
  have sz:s.heap.objs.size<=h'.objs.size:=Jl (Ku hge hlt);refine q h'.objs.size (upd H c' (.own P)) _ tk sz same ?_ ?_ ⟨c',ctv,HR _ rfl,⟨c',oc,vs,t,rfl,hoc',hd,hv⟩,aV⟩
  ·refine I.un ⟨λb u eb n _ _=>pk b u (λz=>by rw[z,hP]at n;cases n) eb,λb u eb n _ _=>⟨u.slots,pk b u (λz=>by rw[z,hP]at n;cases n) eb⟩,λb u eb n _=> ?_,λb u eb _=> ?_,λb xs eb=>same _ _ eb,λb o u eb=>same _ _ eb,λb ps eb=>same _ _ eb⟩ λb u eb=> ?_
   ·rw[aJ (HZ (HJ (HM eb) hge))];exact n
   ·by_cases hb:b=P
    ·exact⟨_,hb▸htb'⟩
    ·exact⟨u,pk b u hb eb⟩
   ·by_cases hb:b=c'
    ·subst hb
     rw[aV]at eb;cases eb;exact⟨oc,hoc'⟩
    ·rw[aJ hb]at eb
     by_cases hbP:b=P
     ·subst hbP
      rw[hP]at eb;cases eb;refine⟨_,htb',?_,λpos' v ev=> ?_⟩
      ·have:=TriplesOk_snoc pos.line pos.col (.ref c') ps.toList ht
       simpa using this
      ·have ev':MN pos' (ps.toList++ [rawInt pos.line,rawInt pos.col,.ref c'])=some v:=by simpa using ev
       rcases tS ps.toList ht ev' with z | z
       ·obtain⟨c2,o2,v2,t2,a1,a2,a3,a4⟩:=r pos' v z
        exact⟨c2,o2,v2,t2,a1,same _ _ a2,pk _ _ (λz=>by rw[z,hP]at a2;cases a2) a3,a4⟩
       ·exact⟨c',oc,vs,t,z,aV,hoc',hd,hv⟩
     ·exact(I.hok b u eb).GT (λd v hd' qd=>pk d v (λz=>by
       rcases hd' with hd' | hd'
       ·exact hbP (hd'.symm.trans z)
       ·rw[z,hP]at hd';cases hd') qd) (λd qd=>same _ _ qd) λd xs qd=>same _ _ qd
  ·rw[aJ (Jm hlt)]
   exact I.hok.fresh sz
 | some v=>
  obtain⟨c',oc,vs,t,rfl,ho,e2,d2,v2⟩:=r pos v hf;refine kla_makeFunctionHit (mg:=X.mg) hcl I.ok.glob hgs hcode hC e ht hf hB λctv h' tk hk hsz=> ?_
  have kk:∀b u,s.heap.get? b=some u->(h'.push (kla_obj "<lambda>" (X.env.qual++ "<lambda>") params body scope [] ((X.mg "__name__").getD .none) c' ctv)).get? b=some u:=λb u eb=>HC _ (hk b u eb)
  exact q h'.objs.size H _ tk hsz (λ_ _ e=>e) (I.kept kk) (I.hok.fresh hsz) ⟨c',ctv,HR _ rfl,⟨c',oc,vs,t,rfl,kk _ _ e2,d2,v2⟩,ho⟩
end
def Gp (h:Heap)(mg:Str->Option HA)(q:Str)(params:LJ)(body:Expr)(scope:Le)(f:Addr):Prop:=∃c ctv,h.get? f=some (kla_obj "<lambda>" q params body scope [] ((mg "__name__").getD .none) c ctv)/\h.CodeRec (.ref c) q
theorem yE {CX:wy}{P:H0}{w:IP}{K:Frag}{mg:Str->Option HA}{base:Heap}{k:Nat}{f:Addr}{q:Str}{params:LJ}{body:Expr}{scope:Le}{N ps:List Str}{A:Iu}{outer:List Env}{s:HB}{H:Hp}{us:List HA}{vs:List V}{Q:VK}{E:XK}
  (L:Gp s.heap mg q params body scope f) (S:ay N ps scope) (hr:Room (k+1) A) (e0:Env0 P w K mg base A outer s H)
  (hb:∀c ctv,PD (kla_fn "<lambda>" q params body scope [] ((mg "__name__").getD .none) (.ref c) ctv) ⟨us,[]⟩=pure (ps.zip us)) (hl:vs.length=ps.length) (r:Vals vs us)
  (hbody:∀c,∃t,PE (gI CX P w K mg base N q scope f (.ref c) A outer s H E) body t/\t (start N vs) H Q) :
  codeAny (model P w) A (.call (.ref f) ⟨us,[]⟩) (CR CX outer P w H s Q E) s:=by
 obtain⟨c,ctv,ho,hcd⟩:=L
 have lim:s.heap.NoLimit:=e0.mod.nolimit.keeps λb o e=>(e0.bs b o e).1
 have hkind:∀y∈ps.zip us,scope.names.lookup y.1=some .local\/(scope.names.lookup y.1=some .cell/\((Kl (s.heap.objs.size+1) scope.names []).lookup y.1).isSome=true):=λ⟨n,v⟩ hy=>by
  rcases S.par n (Kv hy).1 with q | q
  ·exact .inl q
  ·exact .inr ⟨q,Ks _ _ _ (.inl q)⟩
 refine kla_callFunE hr.depth ho rfl S.co S.gen rfl hcd ?_
 rw[hb c ctv];refine HF (KL S.kind hkind λenv he s1 x=> ?_)
 subst he;refine⟨lim.keeps x.toInCall.keep,kla_codeExpr ?_⟩
 obtain⟨t,ht,hq⟩:=hbody c
 have I:Inv (gI CX P w K mg base N q scope f (.ref c) A outer s H E) [] (start N vs) H s1:=j5 S hr.hd e0 hl r x;exact J3 (ht [] s1 (start N vs) H _ I hq) (λu s' ⟨v,H',J,rv,q⟩=>⟨v,H',J.os,J.bare,J.base,J.hok,rv,q⟩) λe s' hs=>hs
end L2
namespace HT
open PySem PyProof.Rows
open PySem.SeqAt
open PySem.AutoSeq1 (wpAny_loadPart')
open PySem.MeetsSeq PySem.MeetsSeq2 PySem.MeetsSeq3
theorem k4 {vs:List HA}{ns:List Int}(h:Jw vs ns):∀{i:Nat} {v:HA},vs[i]? =some v->∃n t,ns[i]? =some n/\v= .int n t:=by
 induction h with
 | nil=>intro i v e;cases e
 | cons n t r ih=>
  intro i v e
  cases i with
  | zero=>cases e;exact⟨n,t,rfl,rfl⟩
  | succ i=>exact ih (by simpa using e)
theorem yp (l b:Addr)(items items2:Array HA)(n n2:Nat)(dd dd2:Option Addr)(sl sl2:Array (Option HA))(ns ms:List Int)(hi:Jw items.toList ns)(hj:Jw items2.toList ms)(k:Nat) :
  ∀i:Nat,items.size - i=k->i<=items.size->i<=items2.size->Meets (Builtin.«list.__eq__.loop» ⟨[.ref l,.ref b,rawInt i,rawInt 0],[]⟩)
   (λ_ R s=>s.heap.get? l=some { cls:=.type "list",dict:=dd,data:=.seq items n,slots:=sl }/\s.heap.get? b=some { cls:=.type "list",dict:=dd2,data:=.seq items2 n2,slots:=sl2 } ∧
    R (.ok (.ret (.bool (lexLt (ns.drop i) (ms.drop i))))) s):=by
 have z1:items.size=ns.length:=by rw[<-hi.length];simp
 have z2:items2.size=ms.length:=by rw[<-hj.length];simp
 induction k with
 | zero=>
  intro i hk h1 h2 prog w A R s h;obtain⟨hp,g,d,tk,os⟩:=s;obtain⟨hl,hb,h⟩:=h
  wp_walk using Il hl,Il hb
  have hi1:items[((i:Nat):Int).toNat]? =none:=by simp;omega
  have hv:lexLt (ns.drop i) (ms.drop i)=decide (items.size<items2.size):=by
   rw[JY (by omega)]
   cases q:ms.drop i with
   | nil=>
    have:=List.drop_eq_nil_iff.mp q
    rw[ni];exact(decide_eq_false (by omega)).symm
   | cons y ys=>
    have:i<ms.length:=by
     have:=congrArg Kw q;rw[J2,HQ]at this;omega
    rw[mi];exact(decide_eq_true (by omega)).symm
  rw[hv]at h;rw[hi1]
  wp_walk using Il hl,Il hb
  exact h
 | succ k ih=>
  intro i hk h1 h2 prog w A R s h;obtain⟨hp,g,d,tk,os⟩:=s;obtain⟨hl,hb,h⟩:=h
  wp_walk using Il hl,Il hb
  have hlt:i<items.size:=by omega
  have hi1:items[((i:Nat):Int).toNat]? =some items[i]:=by simp[hlt]
  obtain⟨a,t,ha,hva⟩:=k4 hi (i:=i) (v:=items[i]) (by simp[hlt])
  obtain⟨hl1,ha1⟩:=HN.mp ha
  have hdn:ns.drop i=a::ns.drop (i+1):=by rw[Jo hl1,ha1]
  by_cases hlt2:i<items2.size
  ·have hi2:items2[((i:Nat):Int).toNat]? =some items2[i]:=by simp[hlt2]
   obtain⟨c,u,hc',hvc⟩:=k4 hj (i:=i) (v:=items2[i]) (by simp[hlt2])
   obtain⟨hl2,hc2⟩:=HN.mp hc'
   have hdm:ms.drop i=c::ms.drop (i+1):=by rw[Jo hl2,hc2]
   have hc:((i:Int)+1)=((i+1:Nat):Int):=by push_cast;rfl
   rw[hdn,hdm,lexLt_cons]at h;rw[hi1,hi2,hva,hvc];obtain⟨e,he,hiff⟩:=zk A.in1 ⟨hp,g,d,tk,os⟩ a t c u;refine Hw (he prog w _ _ ?_)
   cases e with
   | true=>
    rw[if_pos (hiff.mp rfl)]at h
    wp_walk
    rw[hc]
    exact⟨Kp plain_eq_loop _,Jx entry_eq_loop (by
     rw[Jb plain_eq_loop _]
     exact ih (i+1) (by omega) (by omega) (by omega) prog w A R _ ⟨hl,hb,h⟩)⟩
   | false=>
    rw[if_neg (λq=>absurd (hiff.mpr q) Ig)]at h
    wp_walk using Il hl,Il hb
    rw[hi1,hi2,hva,hvc]
    have hri:=xp A.in1 ⟨hp,g,d,tk,os⟩ a t c u prog w
    wp_walk using hri
    exact h
  ·have hi2:items2[((i:Nat):Int).toNat]? =none:=by simp;omega
   have hm:ms.drop i= []:=JY (by omega)
   rw[hdn,hm,mj]at h;rw[hi1,hi2]
   wp_walk using Il hl,Il hb
   have hf:decide (items.size<items2.size)=false:=decide_eq_false (by omega)
   rw[<-hf]at h;exact h
theorem p7 (l b:Addr)(items items2:Array HA)(n n2:Nat)(dd dd2:Option Addr)(sl sl2:Array (Option HA))(ns ms:List Int)(hi:Jw items.toList ns)(hj:Jw items2.toList ms) :
  Meets (Builtin.«list.__lt__» ⟨[.ref l,.ref b],[]⟩)
   (λ_ R s=>s.heap.get? l=some { cls:=.type "list",dict:=dd,data:=.seq items n,slots:=sl }/\s.heap.get? b=some { cls:=.type "list",dict:=dd2,data:=.seq items2 n2,slots:=sl2 } ∧
    R (.ok (.ret (.bool (lexLt ns ms)))) s):=by
 intro prog w A R s h;obtain⟨hp,g,d,tk,os⟩:=s;obtain⟨hl,hb,h⟩:=h
 have f3:=AutoSeq1.sub_list_list
 wp_walk using Il hl,Il hb
 exact⟨Kp plain_eq_loop _,Jx entry_eq_loop (by
  rw[Jb plain_eq_loop _];exact yp l b items items2 n n2 dd dd2 sl sl2 ns ms hi hj _ 0 rfl (IC _) (IC _) prog w A R _ ⟨hl,hb,by simpa using h⟩)⟩
section
variable {prog:H0}{w:IP}{A:Iu}{E:HA->HB->Prop}{s:HB}
theorem lt_lstInts {l b:Addr}{items items2:Array HA}{n n2:Nat}{ns ms:List Int}{Q:HA->HB->Prop}(hl:s.heap.get? l=some (seqObj "list" items n))(hb:s.heap.get? b=some (seqObj "list" items2 n2))(hi:Jw items.toList ns)(hj:Jw items2.toList ms)
  (hu:A.units<cLine) (h:Q (.bool (lexLt ns ms)) s):wpAny (model prog w) A (IW .Lt (.ref l) (.ref b)) Q E s:=
 Ll (op:=.Lt) ⟨_,hl,rfl⟩ ⟨_,hb,rfl⟩ PySem.F.slot_list_lt PySem.F.entry_list_lt (PySem.F.args_list_lt_2 _ _) (p7 l b items items2 n n2 none none #[] #[] ns ms hi hj)
  ⟨hl,hb,show Ji (lexLt ns ms)≠NN/\Q (.bool (lexLt ns ms)) s from⟨(λx=>nomatch x),h⟩⟩ hu
end
end HT
namespace HT
open PySem PyProof.Rows
open PySem.SeqAt
section
variable {prog:H0}{w:IP}{A:Iu}{E:HA->HB->Prop}{s:HB}
theorem Ew:∀{ns ms:List Int},ns.length=ms.length->((HD ns.length).all λj=>ns.getD j 0 == ms.getD j 0)=decide (ns=ms):=λ{ns ms} h=>by
 rw[Kg,HX,decide_eq_true_iff]
 constructor
 ·intro g
  refine LO h λi h1 h2=> ?_
  have:=g i (Ik.mpr h1);rw[beq_iff_eq,Ih,Ih,HG h1,HG h2]at this
  exact this
 ·rintro rfl i _
  exact beq_self_eq_true _
theorem eq_lstInts {l b:Addr}{items items2:Array HA}{n n2:Nat}{ns ms:List Int}{Q:Bool->HB->Prop}(hl:s.heap.get? l=some (seqObj "list" items n))(hb:s.heap.get? b=some (seqObj "list" items2 n2))(hi:Jw items.toList ns)(hj:Jw items2.toList ms)
  (hu:A.units<cLine) (h:Q (decide (ns=ms)) s):wpAny (model prog w) A (eqBool (.ref l) (.ref b)) Q E s:=by
 have z1:items.size=ns.length:=by rw[<-hi.length];simp
 have z2:items2.size=ms.length:=by rw[<-hj.length];simp
 unfold eqBool;refine Jp ?_
 refine wpAny_ite_split (λhab=> ?_) (λ_=> ?_)
 ·cases eq_of_beq hab
  rw[hl]at hb;cases hb;rw[decide_eq_true (hi.nums.symm.trans hj.nums)]at h
  show wpAny (model prog w) _ (pure true) Q E s
  exact HF h
 ·refine Hw ?_
  by_cases hsz:items.size=items2.size
  ·refine Ll (op:=.Eq) ⟨_,hl,rfl⟩ ⟨_,hb,rfl⟩ NM Nl (Nd _ _) (list_eqAt l b items items2 n n2 none none #[] #[] hsz λj=>ns.getD j 0 == ms.getD j 0) ⟨hl,hb,λj h1 h2=> ?_,?_⟩ hu
   ·obtain⟨x,t,hx,hvx⟩:=k4 hi (i:=j) (v:=items[j]) (by simp[h1])
    obtain⟨y,u,hy,hvy⟩:=k4 hj (i:=j) (v:=items2[j]) (by simp[h2])
    rw[hvx,hvy,Ih,Ih,hx,hy]
    exact Oc x t y u
   ·rw[z1,Ew (by omega)]
    exact⟨(λx=>nomatch x),Ja h⟩
  ·refine Ll (op:=.Eq) ⟨_,hl,rfl⟩ ⟨_,hb,rfl⟩ NM Nl (Nd _ _) (list_eq_lengthsAt l b items items2 n n2 none none #[] #[] (by simpa using hsz)) ⟨hl,hb,?_⟩ hu
   rw[decide_eq_false (λz=>hsz (by rw[z1,z2,z]))]at h
   exact⟨(λx=>nomatch x),Ja h⟩
end
end HT
namespace Tr
open PySem PySem.Spec PyProof.Rows L2 PySem.W
def fI:Le:={ kind:=.function,names:=[("numbers",.local),("len",.globalImplicit)],isGenerator:=false,isCoroutine:=false,more:=[] }
def j0 (p:Pos):LJ:={ posonlyargs:=[],args:=[{ arg:="numbers",annotation:=none,pos:=p }],vararg:=none,kwonlyargs:=[],kw_defaults:=[],kwarg:=none,defaults:=[] }
def kY (p1 p2 p3 p4 p5 p6:Pos):Expr:=.Tuple [.UnaryOp .USub (.Call (.Name "len" p1) [.Name "numbers" p2] [] p3) p4,.Name "numbers" p5] 0 p6
structure KpF (F:List Addr)(h h':Heap):Prop where
 keep:∀b o,b∉F->h.get? b=some o->h'.get? b=some o
 slot:∀b o,b∈F->h.get? b=some o->∃sl,h'.get? b=some { o with slots:=sl }
theorem KpF.trans {F:List Addr}{h h1 h2:Heap}(a:KpF F h h1)(b:KpF F h1 h2):KpF F h h2:=⟨λc o n e=>b.keep c o n (a.keep c o n e),λc o n e=>by
 obtain⟨sl,e1⟩:=a.slot c o n e;obtain⟨sl',e2⟩:=b.slot c _ n e1;exact⟨sl',e2⟩⟩
def VF (F:List Addr)(h:Heap)(v:HA)(ns:List Int):Prop:=∃k t tk b its n ms,v= .ref k/\k∉F/\b∉F/\h.IsTuple k #[.int t tk,.ref b]/\h.get? b=some (seqObj "list" its n)/\Jw its.toList ms/\ns=t::ms
theorem VF.keep {F:List Addr}{h h':Heap}{v:HA}{ns:List Int}(a:VF F h v ns)(k:∀b o,b∉F->h.get? b=some o->h'.get? b=some o):VF F h' v ns:=
 let ⟨q,t,tk,b,its,n,ms,e,h1,h2,⟨o,g,r⟩,h4,h5,h6⟩:=a
 ⟨q,t,tk,b,its,n,ms,e,h1,h2,⟨o,k _ _ h1 g,r⟩,k _ _ h2 h4,h5,h6⟩
theorem Ak {P:H0}{w:IP}{H:Hp}{h:Heap}{b:Addr}{ms:List Int}(hok:HOk P w H h)(q:SqL [] H b (ms.map V.int)):(∃u,H b=some u)/\∃its n,h.get? b=some (seqObj "list" its n)/\Jw its.toList ms:=by
 have back:∀{xs:List Int} {us:List HA},Vals (xs.map V.int) us->Jw us xs:=by
  intro xs
  induction xs with
  | nil=>intro us r;cases r;exact .nil
  | cons x xs ih=>
   intro us r
   cases r with
   | cons a r=>
    obtain⟨t,rfl⟩:=a;exact .cons x t (ih r)
 rcases q with(q | ⟨o,q⟩) | ⟨o,xs,n,z,_⟩
 ·obtain⟨_,its,n,rv,e⟩:=hok b _ q
  exact⟨⟨_,q⟩,its.toArray,n,e,by simpa using back rv⟩
 ·obtain⟨_,_,its,n,rv,e⟩:=hok b _ q
  exact⟨⟨_,q⟩,its.toArray,n,e,by simpa using back rv⟩
 ·cases z
section
variable {X:Cx}{pins:List (Addr×Obj)}{σ:L2.St}{H:Hp}{s:HB}
theorem yF {CX:wy}{P:H0}{w:IP}{mg:Str->Option HA}{base:Heap}{q:Str}{f:Addr}{cd:HA}{A:Iu}{outer:List Env}{s:HB}{H:Hp}{E:XK}{p1 p2 p3 p4 p5 p6:Pos}(hm:mg "len" =none) :
  bX (gI CX P w [] mg base ["numbers"] q fI f cd A outer s H E) (kY p1 p2 p3 p4 p5 p6) (bp (ae (o1 kE (cl bS (ae (vr 0) ai))) (ae (vr 0) ai))):=
 B2 (kP (B3 (uh cj hm (by decide+kernel) (kP (xw 0) sT))) (kP (xw 0) sT))
theorem yC {k:Nat}{f a:Addr}{q:Str}{ob:Obj}{its:List HA}{n:Nat}{ms:List Int}{pp p1 p2 p3 p4 p5 p6:Pos}{E:HA->HB->Prop}{G:List Addr}(I:Inv X pins σ H s)(hr:Room (k+3) X.A)(L:Gp s.heap X.mg q (j0 pp) (kY p1 p2 p3 p4 p5 p6) fI f)
  (ha:H a≠none) (ho:s.heap.get? a=some (seqObj "list" its.toArray n)) (hi:Jw its ms) (hz':its.length<=sizeLine) (hm:X.mg "len" =none) (hG:∀c∈G,c≠a/\∃o,s.heap.get? c=some o) :
  wpAny (model X.prog X.w) X.A.in1.in1 (call (.ref f) [.ref a]) (λu s'=>s'.os=s.os/\Kk s'.gens/\KpF (i7 X.stack) s.heap s'.heap/\VF G s'.heap u ((-(ms.length:Int))::ms)) E s:=by
 have hl:=hi.length
 have e0:=I.Hg
 let H2:Hp:=λb=>if b=a then some (.frz (seqObj "list" its.toArray n) (.lst (ms.map V.int)))else none
 have h2a:H2 a=some (.frz (seqObj "list" its.toArray n) (.lst (ms.map V.int))):=if_pos rfl
 have h2n:∀b,b≠a->H2 b=none:=λb hb=>if_neg hb
 have naF:∀b∈i7 X.stack,b≠a:=λb hb z=>ha (z▸e0.frf b hb)
 have hok2:HOk X.prog X.w H2 s.heap:=λb u e=>by
  by_cases hb:b=a
  ·subst hb
   rw[h2a]at e;cases e;exact⟨ho,by rw[HI];omega,its,n,fy hi,ho⟩
  ·rw[h2n b hb]at e;cases e
 have e1:Env0 X.prog X.w [] X.mg X.base X.A X.stack s H2:=⟨e0.frames,⟨(λb o e=>by cases e),e0.mod.glob,e0.mod.blt,e0.mod.nolimit⟩,λb o e=>⟨(e0.bs b o e).1,h2n b λz=>ha (z▸(e0.bs b o e).2)⟩,e0.bsz,e0.funs,λb hb=>h2n b (naF b hb),hok2,e0.bare,λf o fd c oc vs P _ e=>by cases e⟩
 refine OZ (K5 (yE (CX:=λ_ _ _ _ _ _=>False) (E:=λ_ _ _=>False) (N:=["numbers"]) (ps:=["numbers"]) (us:=[.ref a]) (vs:=[.ref a]) (Q:=λv H'=>Same H2 H'/\∃kk b,v= .ref kk/\H' kk=some (.tup [.int (-(ms.length:Int)),.ref b])/\SqL [] H' b (ms.map V.int)) L fL hr.in1.in1 e1.in1.in1 (λc ctv=>rfl) rfl (.cons rfl .nil) λc=>⟨_,yF hm,[.va (.scr ms)],uu,⟨λ_ _=>False,rfl,λi t e=> ?_,λi o e=> ?_,λ_ _ z=>z.elim,λ_ _ _ z=>z.elim,λ_ z=>z.elim⟩,?_⟩) λr s' hq=> ?_)
 ·cases i with
  | zero=>cases e;exact⟨.ref a,rfl,by unfold Rep;exact⟨a,rfl,λz=>z,.inl (.inr ⟨_,h2a⟩)⟩⟩
  | succ i=>simp at e
 ·cases i with
  | zero=>cases e
  | succ i=>simp at e
 ·have ev:bp (ae (o1 kE (cl bS (ae (vr 0) ai))) (ae (vr 0) ai)) [.va (.scr ms)] = .ok (.tup [.int (-(ms.length:Int)),.scr ms]):=by
   have e1:cl bS (ae (vr 0) ai) [.va (.scr ms)] = .ok (.int ms.length):=by
    show Rs.ok (T.int ((ms.map T.int).length:Nat))=_
    rw[HI]
   have e2:o1 kE (cl bS (ae (vr 0) ai)) [.va (.scr ms)] = .ok (.int (-(ms.length:Int))):=by unfold o1;rw[e1];rfl
   unfold bp;rw[ae,e2]
   show(if ([T.int (-(ms.length:Int)),T.scr ms]:List T).length<=sizeLine then Rs.ok (T.tup [.int (-(ms.length:Int)),.scr ms])else .bad)=_
   rw[if_pos (by rw[IG];simp)]
  rw[ev];intro H' sm v rv;refine⟨sm,?_⟩
  obtain⟨kk,vs,rfl,_,hk,rs⟩:=Rep.Fk.mp rv;obtain⟨v1,w1,rfl,r1,rs⟩:=Reps.me.mp rs;obtain⟨v2,w2,rfl,r2,rs⟩:=Reps.me.mp rs;cases Reps.AC.mp rs;cases Rep.Da.mp r1;unfold Rep at r2;obtain⟨b,rfl,_,sq⟩:=r2;exact⟨kk,b,rfl,hk,sq⟩
 ·cases r with
  | error e=>exact JS hq
  | ok fl=>
   cases fl with
   | next=>exact JS hq
   | brk=>exact JS hq
   | cont=>exact JS hq
   | ret u=>
    obtain⟨v,H',os,bare,un,hok,rv,sm,kk,b,rfl,hk,sq⟩:=hq;obtain rfl:u=Iv kk:=rv
    have nF:∀c u,H' c=some u->c∉G:=λc u e hc=>by
     obtain⟨na,o,eo⟩:=hG c hc
     have:=un.free c o eo (h2n c na) (by simp)
     rw[e]at this;cases this
    obtain⟨⟨u2,hb2⟩,xs,m,ho2,hi2⟩:=Ak hok sq;obtain⟨_,its2,rv2,tp⟩:=hok kk _ hk
    have tp':∃tk,its2= [.int (-(ms.length:Int)) tk,.ref b]:=by
     cases rv2 with
     | cons a1 r=>
      obtain⟨t,rfl⟩:=a1
      cases r with
      | cons a2 r=>
       cases r;exact⟨t,by rw[show _=Iv b from a2]⟩
    obtain⟨tk,rfl⟩:=tp';refine⟨os,bare,⟨λc o hc e=> ?_,λc o hc e=> ?_⟩,kk,_,tk,b,xs,m,ms,rfl,nF _ _ hk,nF _ _ hb2,tp,ho2,hi2,rfl⟩
    ·by_cases hca:c=a
     ·subst hca
      rw[ho]at e;cases e;exact(hok c _ (un.frzs c _ _ h2a)).1
     ·exact un.keep c o e (h2n c hca) hc (by simp)
    ·exact un.slot c o e (h2n c (naF c hc)) hc (by simp)
end
theorem vN (t u:Int)(a b:List Int):cW (t::a) (u::b)=if t=u then cW a b else decide (t<u):=rfl
theorem yH {prog:H0}{w:IP}{A:Iu}{E:HA->HB->Prop}{s:HB}{a b:Int}{t u:Tok}{Q:Bool->HB->Prop}(h:Q (decide (a<b)) s):∀k,wpAny (model prog w) A (oneLt' k (.int a t) (.int b u)) Q E s
 | true=>oneLt_int h
 | false=>by
  rw[oneLt'_eq];simp only[Jd,if_false];exact Hw (wpAny_lt_int (show wpAny (model prog w) A (truthOfDropped (.bool (decide (a<b)))) Q E s from Ja h))
theorem uF:∀(l m:List Int),HT.lexLt l m=cW l m
 | [],[] =>rfl
 | [],_::_=>rfl
 | _::_,[] =>rfl
 | a::l,b::m=>by
  rw[HT.lexLt_cons,uF l m]
  rfl
def xg (G:List Addr):RK where
 V:=VF G
 inj:=λ⟨k,t,tk,b,its,n,ms,e,_,_,⟨o,h1,_,c1,h2⟩,h3,h4,h5⟩ ⟨k',t',tk',b',its',n',ms',e',_,_,⟨o',h1',_,c1',h2'⟩,h3',h4',h5'⟩=>by
  subst e;cases e';rw[h1]at h1';cases h1';rw[h2]at h2';cases h2';rw[h3]at h3';cases h3';rw[h5,h5',<-h4.nums,<-h4'.nums]
 on:=λa up=>a.keep λb o _ e=>up b o e
 fst:=λ⟨k,t,tk,b,its,n,ms,e,_,_,⟨o,h1,c1,c2,h2⟩,_⟩=>⟨k,_,c2,o,t,tk,e,h1,c1,h2,rfl⟩
 lt:=λ{prog w A s E x y a b Q} hu ⟨xk,t,k,xb,xi,xn,xm,ex,_,_,⟨xo,xh,xc,xq,xd⟩,xl,xi',xr⟩ ⟨yk,u,k',yb,yi,yn,ym,ey,_,_,⟨yo,yh,yc,yq,yd⟩,yl,yi',yr⟩ q=>by
  subst ex ey xr yr;refine kat_lt xh xd yh yd ?_
  refine kat_cons (Pt ?_)
  rw[vN]at q
  by_cases z:t=u
  ·rw[beq_iff_eq.mpr z]
   rw[if_pos z]at q;refine kat_yes (kat_cons (HT.eq_lstInts xl yl xi' yi' (by omega) ?_))
   by_cases z2:xm=ym
   ·rw[decide_eq_true z2]
    subst z2;rw[jG]at q;exact kat_yes (kat_nil q)
   ·rw[decide_eq_false z2]
    refine kat_no (kat_one _ _ (HT.lt_lstInts xl yl xi' yi' (by omega) ?_))
    rw[uF];exact q
  ·rw[beq_eq_false_iff_ne.mpr z]
   rw[if_neg z]at q;exact kat_no (yH q _)
theorem ki {α β:Type}{R:α->β->Prop}{a:α}{b:β}(h:R a b):∀{l:List α} {m:List β},M9 R l m->M9 R (l++ [a]) (m++ [b])
 | _,_,.nil=> .cons h .nil
 | _,_,.cons r t=> .cons r (ki h t)
theorem iO {α β:Type}{R:α->β->Prop}:∀{l:List α} {m:List β},M9 R l m->l.length=m.length
 | _,_,.nil=>rfl
 | _,_,.cons _ t=>by rw[HQ,HQ,iO t]
theorem lJ {G:List Addr}{h:Heap}:∀{l:List HA} {m:List (List Int)},M9 (VF G h) l m->l.map ((xg G).row h)=m
 | _,_,.nil=>rfl
 | _,_,.cons r t=>by rw[HE,RK.He (R:=xg G) r,lJ t]
theorem lK {α β:Type}{R:α->β->Prop}:∀{l:List α} {m:List β},M9 R l m->∀a∈l,∃b,R a b
 | _,_,.nil,a,h=>by cases h
 | _,_,.cons r t,a,h=>by
  rcases HS.mp h with rfl | h
  ·exact⟨_,r⟩
  ·exact lK t a h
end Tr
set_option maxHeartbeats 4000000
namespace Tr
open PySem PySem.Spec PyProof.Rows L2 PySem.W
section
variable {prog:H0}{w:IP}{A:Iu}{E:HA->HB->Prop}{s s0:HB}{F:List Addr}{L:Addr}{vs:List HA}{rows:List (List Int)}{P:Fin->HB->Prop}
theorem qb {h0 h h':Heap}{a:Addr}(k:KpF F h0 h)(ha:h0.objs.size<=a)(u:∀b o,b≠a->h.get? b=some o->h'.get? b=some o):KpF F h0 h':=
 ⟨λb o n e=>u b o (HZ (HJ (HM e) ha)) (k.keep b o n e),λb o n e=>let ⟨sl,e1⟩:=k.slot b o n e;⟨sl,u b _ (HZ (HJ (HM e) ha)) e1⟩⟩
def Srt (rows:List (List Int))(vs out:List HA):Prop:=∃ps:List (List Int×HA),ps.Perm (rows.zip vs)/\out=ps.map Pz/\(ps.map PB).Pairwise (λa b=>mm a b=true)
theorem Bm {kS:Addr}{kA:Array HA}{e e1:Nat}{st:LI}(hs:s0.heap.objs.size<=L)(hk:s0.heap.objs.size<=kS)(hne:kS≠L)(os:s.os=s0.os)(bare:Kk s.gens)(kp:KpF F s0.heap s.heap)
  (hL:s.heap.get? L=some (seqObj "list" #[] e1)) (hK:s.heap.get? kS=some (seqObj "list" kA e)) (hkz:kA.size<=64) (hf:LZ st=none) (hz:(arrOf st).size<=64)
  (q:∀s3 c,s3.os=s0.os->Kk s3.gens->KpF F s0.heap s3.heap->s3.heap.get? L=some (seqObj "list" ((arrOf st).map (·.2)) c)->P (.done (.ret .none)) s3) :
  wpAny (model prog w) A (ksk_tail L false e1 (.ref kS) st) P E s:=by
 have u1:∀b o,b≠kS->s.heap.get? b=some o->(s.heap.update kS (IA λ_=>(#[]:Array HA))).get? b=some o:=λb o n e=>by rw[JW _ _ _ _ n];exact e
 have hL1:=u1 L _ hne.symm hL
 generalize hg:(arrOf st).map (·.2)=g at q
 have hgz:g.size<=sizeLine:=by rw[<-hg,Array.size_map,IG];omega
 obtain⟨c2,hc2⟩:∃c2,((s.heap.update kS (IA λ_=>(#[]:Array HA))).update L (IA λ_=>g)).get? L=some (seqObj "list" g c2):=⟨_,NF hL1 λ_=>g⟩
 have kp3:KpF F s0.heap ((s.heap.update kS (IA λ_=>(#[]:Array HA))).update L (IA λ_=>g)):=qb (qb kp hk u1) hs λb o n e=>by rw[JW _ _ _ _ n];exact e
 unfold ksk_tail;simp only[Jd,if_false];rw[hg];refine Hw (M0 hK rfl ?_ (by rw[IG];omega) (IC _))
 refine Hw (wpAny_letGo ?_)
 refine Hw (seqEpoch_at hL1 rfl ?_)
 refine Hw (M0 hL1 rfl ?_ (IC _) (Ii hgz (Lr _)))
 rw[hf];simp only[bne_self_eq_false,Jd,if_false];exact HF (q { s with heap:=_ } c2 os bare kp3 hc2)
theorem DK {kS:Addr}{kA:Array HA}{e e1:Nat}{G:List Addr}(hu:A.units+60<cLine)(hs:s0.heap.objs.size<=L)(hk:s0.heap.objs.size<=kS)(hne:kS≠L)(os:s.os=s0.os)(bare:Kk s.gens)(kp:KpF F s0.heap s.heap)
  (hL:s.heap.get? L=some (seqObj "list" #[] e1)) (hK:s.heap.get? kS=some (seqObj "list" kA e)) (pr:M9 (VF G s.heap) kA.toList rows) (hlen:rows.length=vs.length) (h64:vs.length<64)
  (q:∀s3 out c,s3.os=s0.os->Kk s3.gens->KpF F s0.heap s3.heap->s3.heap.get? L=some (seqObj "list" out c)->Srt rows vs out.toList->P (.done (.ret .none)) s3) :
  wpAny (model prog w) A (ksk_end L false vs.toArray e1 (.ref kS) kA) P E s:=by
 have hkl:kA.toList.length=vs.length:=by rw[iO pr,hlen]
 have hsz:kA.size=vs.length:=by rw[<-IB];exact hkl
 have fin:∀st:LI,LZ st=none->(arrOf st).toList.Perm (kA.toList.zip vs)->((arrOf st).toList.map λp=>(xg G).row s.heap p.1).Pairwise (λa b=>mm a b=true)->wpAny (model prog w) A (ksk_tail L false e1 (.ref kS) st) P E s:=λst hf hp hs'=>by
  have hz:(arrOf st).size<=64:=by
   have:=hp.length_eq;rw[IB,PX]at this;omega
  refine Bm hs hk hne os bare kp hL hK (by omega) hf hz λs3 c o1 o2 o3 o4=>q s3 _ c o1 o2 o3 o4 ⟨(arrOf st).toList.map λp=>((xg G).row s.heap p.1,p.2),?_,?_,?_⟩
  ·have:=hp.map λp:HA×HA=>((xg G).row s.heap p.1,p.2)
   rw[show(kA.toList.zip vs).map (λp:HA×HA=>((xg G).row s.heap p.1,p.2))=(kA.toList.map ((xg G).row s.heap)).zip vs by rw[List.zip_map_left];exact Jq λ⟨x,y⟩ _=>rfl,lJ pr]at this
   exact this
  ·rw[Array.toList_map,Jg];rfl
  ·rw[Jg];exact hs'
 unfold ksk_end;simp only[Jd,if_false]
 by_cases h2:vs.toArray.size<2
 ·rw[if_pos h2,if_pos h2]
  refine Hw (HF ?_)
  rw[StateT.run_pure];refine Hw (HF ?_)
  try dsimp only
  refine fin (SortSt.mk' general' (kA.zip vs.toArray) #[] 7 none) rfl (by show(kA.zip vs.toArray).toList.Perm _;simp) ?_
  show(((kA.zip vs.toArray).toList.map _).Pairwise _)
  have:(kA.zip vs.toArray).toList.length<=1:=by rw[HU]at h2;simp;omega
  generalize (kA.zip vs.toArray).toList=l at this
  match l,this with
  | [],_=>exact MB
  | [x],_=>exact List.pairwise_singleton _ _
 ·rw[if_neg h2,if_neg h2]
  rw[HU]at h2
  have hv:∀v∈kA.toList,∃ns,(xg G).V s.heap v ns:=λv hm=>lK pr v hm
  have kz:kA=kA.toList.toArray:=by simp
  rw[kz];refine Hw (kk3 (R:=xg G) hv (λz=>by rw[z]at hkl;simp at hkl;omega) ?_)
  refine Hw (J3 (run3 (R:=xg G) (ks:=kA.toList) (vs:=vs) (Q:=λst' s'=>s'=s/\LZ st'=none/\(arrOf st').toList.Perm (kA.toList.zip vs)/\((arrOf st').toList.map λp=>(xg G).row s.heap p.1).Pairwise (λa b=>mm a b=true)) hu hkl hv (by omega) h64 λst' hf hp hs=>⟨rfl,hf,hp,hs⟩) (λr s' ⟨es,hf,hp,hs⟩=> ?_) λ_ _ e=>e)
  subst es;exact fin _ hf hp hs
theorem DL {f:HA}{n:Nat}{M:HB->Prop}(hu:A.units+60<cLine)(hF:∀b∈F,b<s0.heap.objs.size)(hs:s0.heap.objs.size<=L)(os:s.os=s0.os)(bare:Kk s.gens)(kp:KpF F s0.heap s.heap)
  (ho:s.heap.get? L=some (seqObj "list" vs.toArray n)) (hlen:rows.length=vs.length) (h64:vs.length<64)
  (turn:∀(i:Nat) (v:HA) (ns:List Int) (kS:Addr),s0.heap.objs.size<=kS->vs[i]? =some v->rows[i]? =some ns->∀s':HB,s'.os=s0.os->Kk s'.gens->KpF F s0.heap s'.heap->(∃o,s'.heap.get? kS=some o) →
   wpAny (model prog w) A (call f [v]) (λu s''=>s''.os=s'.os/\Kk s''.gens/\KpF F s'.heap s''.heap/\VF (kS::F) s''.heap u ns) (λ_ _=>False) s')
  (q:∀s3 out c,s3.os=s0.os->Kk s3.gens->KpF F s0.heap s3.heap->s3.heap.get? L=some (seqObj "list" out c)->Srt rows vs out.toList->P (.done (.ret .none)) s3) :
  wpAny (model prog w) A (ksk_tree L f false) P E s:=by
 obtain⟨e1,ho1⟩:∃e1,(s.heap.update L (IA λ_=>(#[]:Array HA))).get? L=some (seqObj "list" #[] e1):=⟨_,NF ho λ_=> #[]⟩
 have ha:=HM ho
 have kp1:KpF F s0.heap (s.heap.update L (IA λ_=>(#[]:Array HA))):=qb kp hs λb o n e=>by rw[JW _ _ _ _ n];exact e
 unfold ksk_tree;refine Hw (Pg ho rfl ?_)
 refine Hw (M0 ho rfl ?_ (by rw[HU,IG];omega) (IC _))
 refine Hw (seqEpoch_at ho1 rfl ?_)
 refine Hw (wpAny_newTuple ?_ (by show vs.length<=_;rw[IG];omega))
 refine Hw (MZ ?_ (IC _))
 refine Jp ?_
 have hsz:((s.heap.update L (IA λ_=>(#[]:Array HA))).push (seqObj "tuple" vs.toArray 0)).objs.size=s.heap.objs.size+1:=by rw[NK,M7]
 have up:∀b o,(s.heap.update L (IA λ_=>(#[]:Array HA))).get? b=some o->(((s.heap.update L (IA λ_=>(#[]:Array HA))).push (seqObj "tuple" vs.toArray 0)).push (seqObj "list" #[] 0)).get? b=some o:=λb o e=>HC _ (HC _ e)
 have kp2:KpF F s0.heap (((s.heap.update L (IA λ_=>(#[]:Array HA))).push (seqObj "tuple" vs.toArray 0)).push (seqObj "list" #[] 0)):=⟨λb o n e=>up b o (kp1.keep b o n e),λb o n e=>let ⟨sl,e'⟩:=kp1.slot b o n e;⟨sl,up b _ e'⟩⟩
 have hL2:=up L _ ho1
 have hK2:(((s.heap.update L (IA λ_=>(#[]:Array HA))).push (seqObj "tuple" vs.toArray 0)).push (seqObj "list" #[] 0)).get? (s.heap.objs.size+1)=some (seqObj "list" #[] 0):=by
  rw[<-hsz];exact HR _ rfl
 show wpAny _ _ (ksk_rest L f false vs.toArray e1 (.ref ((s.heap.update L (IA λ_=>(#[]:Array HA))).push (seqObj "tuple" vs.toArray 0)).objs.size)) _ _ { s with heap:=((s.heap.update L (IA λ_=>(#[]:Array HA))).push (seqObj "tuple" vs.toArray 0)).push (seqObj "list" #[] 0) }
 rw[hsz]
 generalize hkS:s.heap.objs.size+1=kS at hK2 ⊢
 have hne:kS≠L:=by rw[<-hkS];exact Jm (IY ha)
 have hk:s0.heap.objs.size<=kS:=by rw[<-hkS];exact Ii hs (Nat.le_succ_of_le (Jl ha))
 have nF:∀a,s0.heap.objs.size<=a->a∉F:=λa h z=>absurd (hF a z) (Nat.not_lt.mpr h)
 generalize ((s.heap.update L (IA λ_=>(#[]:Array HA))).push (seqObj "tuple" vs.toArray 0)).push (seqObj "list" #[] 0)=h6 at kp2 hL2 hK2 ⊢
 unfold ksk_rest;refine Hw (KH ?_)
 first
  | rw[List.forIn_toArray]
  | (rw[<-Ot];simp only[List.toList_toArray])
  | rw[<-Ot]
 refine Hw (ksk_fold (λi s'=>s'.os=s0.os/\Kk s'.gens/\KpF F s0.heap s'.heap/\s'.heap.get? L=some (seqObj "list" #[] e1)/\∃kA e,s'.heap.get? kS=some (seqObj "list" kA e)/\M9 (VF (kS::F) s'.heap) kA.toList (rows.take i)) vs 0 { s with heap:=h6 }
  ⟨os,bare,kp2,hL2,#[],0,hK2,by simpa using Paired.nil⟩ ?step ?done)
 case step=>
  rintro j x s' hx ⟨o1,o2,o3,o4,kA,e,o5,o6⟩
  simp only[Mr]at o6 ⊢
  have hj:j<vs.length:=(HN.mp hx).1
  obtain⟨ns,hns⟩:∃k,rows[j]? =some k:=⟨_,HG (by omega)⟩
  have hz:kA.size<=vs.length:=by
   have h1:=iO o6;rw[IB,J1]at h1;omega
  refine Hw (LY (J3 (turn j x ns kS hk hx hns s' o1 o2 o3 ⟨_,o5⟩) (λu s'' he=> ?_) λ_ _ hF=>hF.elim))
  obtain⟨r1,r2,r3,r4⟩:=he
  try dsimp only
  have k5:=r3.keep _ _ (nF kS hk) o5
  have u1:∀b o,b≠kS->s''.heap.get? b=some o->(s''.heap.update kS (IA (·.push u))).get? b=some o:=λb o n e=>by rw[JW _ _ _ _ n];exact e
  have ek:rows.take (j+1)=rows.take j++ [ns]:=by rw[List.take_add_one,hns];simp
  have ea:(kA.push u).toList=kA.toList++ [u]:=by simp
  have vk:∀v ms,VF (kS::F) s''.heap v ms->VF (kS::F) (s''.heap.update kS (IA (·.push u))) v ms:=λv ms z=>z.keep λb o n e=>u1 b o (λy=>n (by simp[y])) e
  refine Hw (M0 k5 rfl ?_ (by rw[IG];omega) (Ii (K3 (Array.size_push ..)) (by rw[IG];omega)))
  refine HF ⟨rfl,r1.trans o1,r2,qb (o3.trans r3) hk u1,u1 L _ hne.symm (r3.keep _ _ (nF L hs) o4),kA.push u,_,NF k5 (·.push u),?_⟩
  rw[ea,ek];exact ki (vk _ _ r4) (Paired.Ha o6 λv ms z=>vk v ms (z.keep λb o n e=>r3.keep b o (λy=>n (HH _ y)) e))
 case done=>
  rintro s' ⟨o1,o2,o3,o4,kA,e,o5,o6⟩
  have e3:rows.take (0+vs.length)=rows:=Lk (by omega)
  rw[e3]at o6
  try dsimp only
  refine Hw (Pg o5 rfl ?_)
  exact DK hu hs hk hne o1 o2 o3 o4 o5 o6 hlen h64 q
end
end Tr
namespace Tr
def km:List T->Option (List (List Int))
 | [] =>some []
 | .lst l::r=>match gy l,km r with
  | some ns,some k=>some (ns::k)
  | _,_=>none
 | _=>none
def z0 (ns:List Int):List Int:=(-(ns.length:Int))::ns
def qI:List T->Rs T
 | [.lst l] =>match km l with
  | some k=>if k.length<64 then .ok (.lst (((k.map z0).mergeSort mm).map λr=> .lst (r.tail.map .int)))else .bad
  | none=> .bad
 | _=> .bad
def Ek (ns:List Int):List Int:=ns.foldl (λσ k=>if k∈σ then σ else σ++ [k]) []
def rM (a b:Int):Bool:=decide (a<=b)
def nG:List T->Rs T
 | [.lst l] =>match gy l with
  | some ns=>if (decide (ns.length<=4)&&ns.all λn=>decide (0<=n)&&decide (n<100))=true then .ok (.lst (((Ek ns).mergeSort rM).map .int))else .bad
  | none=> .bad
 | _=> .bad
theorem gU {k m:List Int}(p:m.Perm k)(s:m.Pairwise (λa b=>rM a b=true)):m=k.mergeSort rM:=by
 exact MC (le:=λa b=>rM a b=true) (λa b _ _ h g=>by simp only[rM,decide_eq_true_eq]at h g;omega) s (MT (λa b c h g=>by simp only[rM,decide_eq_true_eq]at*;omega) (λa b=>by simp only[rM,L9,decide_eq_true_eq];omega) k) (p.trans (N0 k rM).symm)
def qJ:List T->Rs T
 | [.lst l] =>match gy l with
  | some ns=>if ns.length<64 then .ok (.lst ((ns.mergeSort rM).map .int))else .bad
  | none=> .bad
 | _=> .bad
end Tr
namespace Tr
open PySem PySem.Spec PyProof.Rows L2 PySem.W
section
variable {X:Cx}{pins:List (Addr×Obj)}{σ:L2.St}{H H':Hp}{s s':HB}
theorem yT (I:Inv X pins σ H s)(os:s'.os=s.os)(bare:Kk s'.gens)(kp:KpF (i7 X.stack) s.heap s'.heap)(free:∀b o,s.heap.get? b=some o->H b=none->H' b=none)(same:Same H H')(hok:HOk X.prog X.w H' s'.heap):Inv X pins σ H' s':=by
 obtain⟨hh,g,d,t,os'⟩:=s';obtain rfl:os'=s.os:=os;refine I.call (ch:=[]) ⟨λb o e n hb _=>kp.keep b o hb e,λb o e n hb _=>kp.slot b o hb e,λb o e n _=>free b o e n,λb o e _=> ?_,λb xs e=>same _ _ e,λb o u e=>same _ _ e,λb q e=>same _ _ e⟩ hok bare λb z=>absurd z (by simp)
 by_cases hb:b∈i7 X.stack
 ·obtain⟨sl,e'⟩:=kp.slot b o hb e
  exact⟨_,e'⟩
 ·exact⟨o,kp.keep b o hb e⟩
theorem yY (I:Inv X pins σ H s)(kp:KpF (i7 X.stack) s.heap s'.heap):HOk X.prog X.w H s'.heap:=λb u e=>
 (I.hok b u e).GT (λc v hc q=>kp.keep c v (λz=>by
  have:=I.GN c z;rcases hc with rfl | hc
  ·rw[e]at this;cases this
  ·rw[hc]at this;cases this) q) (λ_ q=>q) λ_ _ q=>q
theorem uC {K:Frag}{O:Ow}{H:Hp}:∀{l:List T} {k:List (List Int)} {ws:List V} {its:List HA},km l=some k->Reps K O H l ws->Vals ws its->k.length=its.length/\∀(j:Nat) (r:List Int) (v:HA),(k.map z0)[j]? =some r->its[j]? =some v->∃ns b,r=z0 ns/\v= .ref b/\Rep K O H (.lst (ns.map .int)) (.ref b)
 | [],k,ws,its,h,rs,rv=>by
  cases h;cases Reps.AC.mp rs;cases rv
  exact⟨rfl,λj r v e=>by simp at e⟩
 | t::l,k,ws,its,h,rs,rv=>by
  obtain⟨v0,ws',rfl,r0,rs'⟩:=Reps.me.mp rs
  cases rv with
  | cons a rv=>
   cases t with
   | lst m=>
    unfold km at h
    split at h
    ·rename_i ns k' h1 h2
     cases h;obtain⟨g1,g2⟩:=uC h2 rs' rv;refine⟨by rw[HQ,HQ,g1],λj r v e1 e2=> ?_⟩
     cases j with
     | zero=>
      cases e1;cases e2;obtain⟨b,vs,rfl,_⟩:=Rep.Do.mp r0;refine⟨ns,b,rfl,a,?_⟩
      rw[<-gX h1];exact r0
     | succ j=>exact g2 j r v (by simpa using e1) (by simpa using e2)
    ·cases h
   | _=>unfold km at h;cases h
theorem hZ:∀{xs:List Int} {us:List HA},Vals (xs.map V.int) us->Jw us xs
 | [],us,r=>by cases r;exact .nil
 | x::xs,us,r=>by
  cases r with
  | cons a r=>
   obtain⟨t,rfl⟩:=a;exact .cons x t (hZ r)
theorem qG {K:Frag}{O:Ow}{H:Hp}:∀{ps:List (List Int×HA)},(∀p∈ps,∃ns b,p.1=z0 ns/\p.2= .ref b/\Rep K O H (.lst (ns.map .int)) (.ref b))->Vals (ps.map λp=>bkV p.2) (ps.map Pz)/\Reps K O H (ps.map λp=> .lst (p.1.tail.map .int)) (ps.map λp=>bkV p.2)
 | [],_=>⟨.nil,Reps.GO⟩
 | p::ps,h=>by
  obtain⟨ns,b,e1,e2,r⟩:=h p HK;obtain⟨g1,g2⟩:=qG λq hq=>h q (HH _ hq)
  rw[HE,HE,HE,e1,e2];exact⟨.cons rfl g1,Reps.FS r g2⟩
theorem C4 {k:Nat}{e:Expr}{fs:En->Rs (List T)}{c P:Addr}{p pos kp p8 pp p1 p2 p3 p4 p5 p6:Pos}(hr:Room (k+3) X.A)(hm:X.mg "sorted" =none)(hml:X.mg "len" =none)(hcode:X.env.code= .ref c)(C:CodeHd X.base c P)(hTb:∀H,Tb X.K X.mg H->H P=some (.tbl (X.env.qual++ "<lambda>")))(B:GJ X.K X.mg)(ha:oB X [e] fs)
  (hst:aX [e] =true:=by rfl) (hg:Gl X "sorted":=by rfl) (hcl:NI fI X.env=pure []:=by rfl) :
  bX X (.Call (.Name "sorted" p) [e] [⟨some "key",.Lambda (j0 pp) (kY p1 p2 p3 p4 p5 p6) fI p8,kp⟩] pos) (cl qI fs):=by
 intro pins s σ H Q I ⟨Z,O,Ev,hq⟩;unfold aX at hst;rw[Hz]at hst
 have e2:HY [e] X.env=(false,eval e X.env)::HY [] X.env:=a9 hst.1;refine IR (d9 I hg hm (show Iq "sorted" =some (.builtin "sorted")by decide+kernel) ?_ (by decide) (by decide))
 refine callWith_kw (bR (ha pos pins s σ H _ I (dt Ev hq)) λus s1 ⟨vs,H1,I1,r1,ts,rs,sm1,E',q1⟩=> ?_) (by rw[e2];rfl) (by rw[e2];rfl)
 refine kws_cons (yD I1 hcode C (hTb H1 I1.tb) B rfl hcl λf H2 h2 tk2 hf sm2 I2 hfn L2_=>kws_nil ?_)
 obtain⟨cc,ctv,lo,lc,lown⟩:=L2_
 have q2:=Post.later q1 sm2
 have rs2:=rs.same sm2
 have E2:=E'.same sm2;unfold qI at q2
 split at q2
 ·rename_i l
  split at q2
  ·rename_i kk hk
   by_cases h64:kk.length<64
   ·rw[if_pos h64]at q2
    obtain⟨v1,rfl,ra⟩:=rs2.one;obtain⟨c1,ws,rfl,n1,hx,rx⟩:=Rep.Do.mp ra;obtain⟨u1,rfl,z1⟩:=Vals.one r1;obtain rfl:u1=Iv c1:=z1;obtain⟨z,its,n,rv,hlen,eo⟩:=I2.GR hx;obtain⟨g1,g2⟩:=uC hk rx rv
    have hF:∀b∈i7 X.stack,b<h2.objs.size:=λb hb=>by
     obtain⟨o,eo,_⟩:=(I2.stack.mem hb).2;exact HM eo
    have hF1:∀b∈i7 X.stack,b<s1.heap.objs.size:=λb hb=>by
     obtain⟨o,eo,_⟩:=(I1.stack.mem hb).2;exact HM eo
    have fF:f∉i7 X.stack:=λhb=>absurd (hF1 f hb) (Nat.not_lt.mpr hf)
    have cF:cc∉i7 X.stack:=λhb=>by have:=I2.GN cc hb;rw[lown]at this;cases this
    have i64:its.length<64:=by omega
    show wpAny (model X.prog X.w) X.A (call (.builtin "sorted") [.ref c1] [(HW "key",.ref f)]) _ _ { s1 with heap:=h2,toks:=tk2 }
    refine call_function_entry_kw Qb Ph Pj (ksk_s1 _ _) ?_
    unfold Builtin.«sorted»;refine Hw (m:=checkCount "sorted" 1 1 _) (HF ?_)
    refine Hw (collect_list (s:={ s1 with heap:=h2,toks:=tk2 }) ⟨_,eo,rfl,n,rfl⟩ ?_ (by rw[IG];omega))
    refine Hw (MZ ?_ (by rw[IG];omega))
    have hsz:((h2.push (seqObj "list" #[] 0)).update h2.objs.size (IA (· ++its.toArray))).objs.size=h2.objs.size+1:=by
     rw[M7,NK]
    have hoL:(((h2.push (seqObj "list" #[] 0)).update h2.objs.size (IA (· ++its.toArray))).push (seqObj "list" its.toArray 0)).get? (h2.objs.size+1)=some (seqObj "list" its.toArray 0):=by
     rw[<-hsz];exact HR _ rfl
    have keep:∀b o,h2.get? b=some o->(((h2.push (seqObj "list" #[] 0)).update h2.objs.size (IA (· ++its.toArray))).push (seqObj "list" its.toArray 0)).get? b=some o:=λb o q=>by
     have hlt:b<h2.objs.size:=HM q;rw[MK _ _ _ (by rw[hsz];exact HZ (IY hlt)),JW _ _ _ _ (HZ hlt),MK _ _ _ (HZ hlt)]
     exact q
    show wpAny _ _ _ _ _ { s1 with heap:=((h2.push (seqObj "list" #[] 0)).update h2.objs.size (IA (· ++its.toArray))).push (seqObj "list" its.toArray 0),toks:=tk2 }
    rw[hsz];refine Hw (Jp (wpAny_call_entry_kw NW ⟨_,hoL,rfl⟩ ND ?body (ksk_l1 _ _)))
    show wpAny (model X.prog X.w) X.A.in1.in1 (Builtin.«list.sort» ⟨[.ref (h2.objs.size+1)],[(HW "key",.ref f)]⟩) _ _ _
    rw[ksk_t1];refine DL (F:=i7 X.stack) (s0:={ s1 with heap:=h2,toks:=tk2 }) (rows:=kk.map z0) (by have:=hr.un;show X.A.units+1+1+60<cLine;omega) hF (Lr _) rfl I2.bare ⟨λb o _ e=>keep b o e,λb o _ e=>⟨o.slots,keep b o e⟩⟩ hoL (by rw[HI];exact g1) i64 (M:=λ_=>True) (λi v row kS hkS hv hrow s' o1 o2 o3 ⟨ok,hok⟩=> ?_) λs3 out cx o1 o2 o3 o4 ⟨ps,t1,t2,t3⟩=>⟨_,rfl,?_⟩
    ·obtain⟨ns,b,rfl,rfl,rb⟩:=g2 i row v hrow hv
     obtain⟨b',wb,eb,nb,hb,rwb⟩:=Rep.Do.mp rb;cases eb;cases Reps.G3 rwb
     have I3:Inv X pins σ H2 s':=yT I2 o1 o2 o3 (λ_ _ _ n=>n) (λ_ _ e=>e) (yY I2 o3)
     obtain⟨zb,itb,nb',rvb,hlb,eob⟩:=I3.GR hb
     have bl:b<h2.objs.size:=I2.hok.lt hb
     have:=yC (k:=k) (G:=kS::i7 X.stack) (E:=λ_ _=>False) (ob:=default) I3 hr (f:=f) (q:=X.env.qual++ "<lambda>") (pp:=pp) (p1:=p1) (p2:=p2) (p3:=p3) (p4:=p4) (p5:=p5) (p6:=p6) ⟨cc,ctv,o3.keep _ _ fF lo,let ⟨c2,oc,vs,t,a1,a2,a3⟩:=lc;⟨c2,oc,vs,t,a1,o3.keep _ _ (by cases a1;exact cF) a2,a3⟩⟩ (a:=b) (its:=itb) (n:=nb') (ms:=ns) (by rw[hb];simp) eob (hZ rvb) (by rw[<-hlb];exact zb) hml λc hc=> ?_
     ·exact this
     ·rcases HS.mp hc with rfl | hc
      ·exact⟨Jm (HJ bl hkS),ok,hok⟩
      ·refine⟨λz=> ?_,?_⟩
       ·have:=I2.GN c hc;rw[z,hb]at this;cases this
       ·obtain⟨o,eo,_⟩:=(I3.stack.mem hc).2
        exact⟨o,eo⟩
    ·refine HF ⟨_,rfl,?_⟩
     have pm:∀p∈ps,∃ns b,p.1=z0 ns/\p.2= .ref b/\Rep X.K O H2 (.lst (ns.map .int)) (.ref b):=λp hp=>by
      have hp':=t1.mem_iff.mp hp;obtain⟨j,hj⟩:=NO hp'
      rw[List.getElem?_zip_eq_some]at hj
      exact g2 j p.1 p.2 hj.1 hj.2
     obtain⟨v1,v2⟩:=qG pm
     have hL:H2 (h2.objs.size+1)=none:=I2.hok.fresh (Lr _)
     have eS:=fA (k:=kk.map z0) (m:=ps.map PB) (by
      have:=t1.map PB
      rwa [List.map_fst_zip (by rw[HI];omega)]at this) t3
     have hps:ps.length=its.length:=by have:=t1.length_eq;rw[PX,HI]at this;omega
     refine⟨.ref (h2.objs.size+1),upd H2 (h2.objs.size+1) (.lst (ps.map λp=>bkV p.2)),yT I2 o1 o2 o3 (λb o e n=>by rw[aJ (HZ (IY (HM e)))];exact n) (aO hL _) (λb u e=> ?_),rfl,q2 _ (aO hL _) _ ?_⟩
     ·by_cases hb:b=h2.objs.size+1
      ·subst hb
       rw[aV]at e;cases e;refine⟨by rw[HI,hps,IG];omega,out.toList,cx,by rw[t2];exact v1,?_⟩
       rw[o4]
      ·rw[aJ hb]at e
       exact(yY I2 o3 b u e).GT (λ_ _ _ q=>q) (λd q=>aO hL _ _ _ q) λd xs q=>aO hL _ _ _ q
     ·rw[<-eS,Jg]
      exact dS hL (E2.fresh hL) v2
   ·rw[if_neg h64]at q2;exact q2.elim
  ·exact q2.elim
 ·exact q2.elim
end
theorem hW (P a:Addr):∀l:Frag,(l.filter λp=> !(p.1 == P)).lookup a=if a=P then none else l.lookup a
 | [] =>by rw[List.filter_nil];split <;> rfl
 | (b,o)::l=>by
  by_cases hb:b=P
  ·subst hb
   rw[List.filter_cons_of_neg (by simp),hW b a l]
   split
   ·rfl
   ·rename_i h;rw[IH,beq_false_of_ne h]
  ·rw[MW (by simp[hb]),IH,IH,hW P a l]
   cases q:a == b with
   | true=>
    have:=eq_of_beq q;subst this
    simp[hb]
   | false=>rfl
def Af (K:Frag):Option (Addr×Addr):=match nsIn K Ie "most_kept" with
 | some (some (.ref f))=>match K.lookup f with
  | some ⟨_,_,.func d,_⟩=>match d.code with
   | .ref c=>match K.lookup c with
    | some ⟨.type n,_,.fields vs,_⟩=>match(vs[11]?:Option HA),(vs[18]?:Option HA),(vs[7]?:Option HA),(vs[9]?:Option HA),(vs[10]?:Option HA)with
     | some (.ref P),some (.str _ _),some (.int _ _),some (.bool _),some (.int _ _)=>if n == "code" &&c != P then some (c,P)else none
     | _,_,_,_,_=>none
    | _=>none
   | _=>none
  | _=>none
 | _=>none
structure LmK (K:Frag)(f c P:Addr):Prop where
 nm:nsIn K Ie "most_kept" =some (some (.ref f))
 fn:∃o d,K.lookup f=some o/\o.data= .func d/\d.code= .ref c
 cd:∃oc vs,K.lookup c=some oc/\oc.data= .fields vs/\vs[11]? =some (.ref P)
 hd:∀h:Heap,K.In h->CodeHd h c P
theorem Ae {K:Frag}{c P:Addr}(e:Af K=some (c,P)):∃f,LmK K f c P:=by
 unfold Af at e
 split at e
 ·rename_i f hf
  split at e
  ·rename_i oc od d osl hl
   split at e
   ·rename_i c' hc
    split at e
    ·rename_i n dd vs sl hk
     split at e
     ·rename_i P' file tf flags tg inF text tt h11 h18 h7 h9 h10
      split at e
      ·rename_i hn
       cases e;simp only[Hz,beq_iff_eq,bne_iff_ne]at hn;obtain⟨rfl,hne⟩:=hn;refine⟨f,hf,⟨_,d,hl,rfl,hc⟩,⟨_,vs,hk,rfl,h11⟩,λh KX=>⟨_,vs,file,tf,flags,tg,inF,text,tt,KX _ _ hk,rfl,rfl,h11,?_,?_,?_,?_,?_,hne⟩⟩
       ·simp[Jv,h11]
       ·simp[Jv,h18]
       ·simp[Jv,h7]
       ·simp[Jv,h9]
       ·simp[Jv,h10]
      ·cases e
     ·cases e
    ·cases e
   ·cases e
  ·cases e
 ·cases e
def Eu (K:Frag):Bool:=match nsIn K Ie "__builtins__" with
 | some (some (.ref bm))=>bm != K4&&bm != Ie&&(match K.lookup bm with
  | some ⟨.type n,some d,.plain,_⟩=>n == "module" &&d == K4
  | _=>false)
 | _=>false
theorem Et {K:Frag}{h:Heap}{mg:Str->Option HA}(X:K.In h)(G:h.Ns Ie mg)(e:Eu K=true):GJ K mg:=by
 unfold Eu at e
 split at e
 ·rename_i bm hb
  split at e
  ·rename_i n d sl hl
   simp only[Hz,beq_iff_eq,bne_iff_ne]at e;obtain⟨⟨h1,h2⟩,rfl,rfl⟩:=e;exact⟨bm,_,mg_of X G hb,h1,h2,hl,rfl,rfl,rfl⟩
  ·simp at e
 ·cases e
theorem LmK.tb {K:Frag}{f c P:Addr}{h:Heap}{mg:Str->Option HA}(L:LmK K f c P)(X:K.In h)(G:h.Ns Ie mg){H:Hp}(hH:H P=some (.tbl kF)):Tb K mg H:=λf' o fd c' oc vs P' a1 a2 a3 a4 a5 a6 a7=>by
 rw[mg_of X G L.nm]at a1;cases a1;obtain⟨o2,d2,b1,b2,b3⟩:=L.fn;rw[b1]at a2;cases a2;rw[b2]at a3;cases a3;rw[b3]at a4;cases a4;obtain⟨oc2,vs2,c1,c2,c3⟩:=L.cd;rw[c1]at a5;cases a5;rw[c2]at a6;cases a6;rw[c3]at a7;cases a7;exact hH
def mG (h:Heap)(P:Addr):Frag:=(zd h).filter λp=> !(p.1 == P)
theorem za (h:Heap)(P:Addr):(mG h P).In h:=λa o e=>by
 unfold mG at e;rw[hW]at e
 split at e
 ·cases e
 ·exact zc h a o e
theorem y9 (h:Heap)(P:Addr):(mG h P).lookup P=none:=by unfold mG;rw[hW,if_pos rfl]
def uE (S:qy)(h:Heap):=match Af (zd h)with
 | some (_,P)=>(nc S (mG h P),match Af (mG h P)with
  | some (_,P')=>P' == P&&Eu (mG h P)&&(match h.get? P with
   | some ⟨.none,none,.fields ps,sl⟩=>ps.size == 0&&sl.size == 0
   | _=>false)
  | none=>false)
 | none=>(nc S [],false)
def Cg (S:qy)(top:Nat->Stmt)(h:Heap):Prop:=∃(K:Frag) (f c P:Addr),K.In h/\nc S K=lb S top/\K.lookup P=none/\LmK K f c P/\Eu K=true/\h.get? P=some (tabObj #[])
theorem yu {S:qy}{top:Nat->Stmt}{h:Heap}(e:uE S h=(lb S top,true)):Cg S top h:=by
 unfold uE at e
 split at e
 ·rename_i c0 P h0
  obtain⟨e1,e2⟩:=MO e
  split at e2
  ·rename_i c P' h1
   simp only[Hz,beq_iff_eq]at e2;obtain⟨⟨rfl,e3⟩,e4⟩:=e2
   split at e4
   ·rename_i ps sl hP
    simp only[Hz,beq_iff_eq]at e4;obtain⟨f,L⟩:=Ae h1;refine⟨_,f,c,P',za h P',e1,y9 h P',L,e3,?_⟩
    rw[hP,LH e4.1,LH e4.2]
   ·cases e4
  ·cases e2
 ·cases (MO e).2
def hookX (S:qy)(top:Nat->Stmt):Hook:=
 ⟨_,λs=>uE S s.heap,λ_=>(lb S top,true),λ_ h=>Cg S top h,λ_ s e=>yu e,λ_ _ _ ⟨K,f,c,P,a,b,d,l,m,t⟩ k=>⟨K,f,c,P,a.keeps k,b,d,l,m,k _ _ t⟩⟩
theorem walk_x {l:OpenLaw}{n k:Nat}{q:H0}{loose:List Str}{XP:(Str->Option HA)->Heap->Prop}{d:DefRec}{S:qy}{top:Nat->Stmt}{CX:wy}{sp:Frag->Sp}{x:Str}
  (hn:l.most=some n) (hn2:n<=sizeLine) (hdf:d.params.defaults= []) (hr:Room k callerA)
  (F:∀(w:IP) (K:Frag) (mg:Str->Option HA) (fa:Addr) (h:Heap),K.In h->nc S K=lb S top->(∃f c P,LmK K f c P)->Eu K=true->h.Ns Ie mg->mg d.name=some (.ref fa) →
   ∃fd:JN,(∀(s:HB) (u:HA),OY s fd ⟨[u],[]⟩ [(x,u)])/\∀base:Heap,K.In base->base.Ns Ie mg->qw l.prog w K mg base CX k fa fd [x] (sp K))
  (hsp:∀(K:Frag) (H:Hp) (a:Addr) (ns:List Int),ns.length<=n->Ex H->SqL K H a (ns.map V.int)->sp K [.ref a] H (λv _=>v= .bl true) λ_ _ _=>False)
  (hCX:∀(H:Hp) (s:HB) (e:HA) (s':HB),CX [] H s (λ_ _ _=>False) e s'->False) :
  WalkO q loose XP (hookX S top).says l.row.toRowW d [] (λf vs=>PySem.call f vs):=by
 refine Att.attach_call hn hdf λw s₀ s₁ mg mb fa o pm cd doc a vs ns G Y ho hd hcd hmg hobj hints hlen hg=> ?_
 obtain⟨K,f,c,P,KX,e,hPK,L,hbm,hP⟩:=Y;obtain⟨fd,hb,hF⟩:=F w K mg fa _ KX e ⟨f,c,P,L⟩ hbm G.T.g hmg;exact yB KX G.T.g G.T.b G.T.builtins G.T.nolimit hg hobj hints (Ii hlen hn2) hr (P0:=P) (c0:=c) ((L.hd _ KX).tab hP) hPK (λH hH=>L.tb KX G.T.g hH) hF hb (λH hO hS=>hsp K H a ns hlen hO hS) λH e s'=>hCX H s₁ e s'
end Tr
namespace Tr
open PySem PySem.Spec PyProof.Rows L2
section
variable {X:Cx}{a:Expr}{fs:En->Rs (List T)}{p p1 p2 pos:Pos}
theorem Bf (ns:List Int):jY (λi=>ns.getD i 0) ns.length=Ek ns:=by
 unfold jY DF Ek
 congr 1
 refine LO (by simp) λi h1 h2=> ?_
 simp[Ih,HG h2]
theorem C3 (hc:X.calm=true)(hm:X.mg "sorted" =none)(hms:X.mg "set" =none)(ha:oB X [a] fs)(hst:aX [a] =true:=by rfl)(hg:Gl X "sorted":=by rfl)(hgs:Gl X "set":=by rfl) :
  bX X (.Call (.Name "sorted" p) [.Call (.Name "set" p1) [a] [] p2] [] pos) (cl nG fs):=by
 intro pins s σ H Q I ⟨Z,O,Ev,hq⟩
 have e1:HY [Jz (.Name "set" p1) [a] [] p2] X.env=(false,eval (.Call (.Name "set" p1) [a] [] p2) X.env)::HY [] X.env:=a9 rfl;unfold aX at hst;rw[Hz]at hst
 have e2:HY [a] X.env=(false,eval a X.env)::HY [] X.env:=a9 hst.1;refine IR (d9 I hg hm (show Iq "sorted" =some (.builtin "sorted")by decide+kernel) ?_ (by decide) (by decide))
 refine Km ?_ e1 rfl
 rw[e1];refine J4 ?_
 refine IR (d9 I hgs hms (show Iq "set" =some (.type "set")by decide+kernel) ?_ (by decide) (by decide))
 refine IK (bR (ha p2 pins s σ H _ I (dt Ev hq)) λus s1 ⟨vs,H1,I1,r1,ts,rs,s',E',q1⟩=> ?_) e2 rfl
 unfold nG at q1
 split at q1
 ·rename_i l
  split at q1
  ·rename_i ns hn
   split at q1
   ·rename_i hz
    rw[Hz,HX]at hz;obtain⟨v1,rfl,ra⟩:=rs.one;obtain⟨c1,ws,rfl,n1,hx,rx⟩:=Rep.Do.mp ra;obtain⟨u1,rfl,z1⟩:=Vals.one r1;obtain rfl:u1=Iv c1:=z1;obtain⟨z,its,n,rv,hlen,eo⟩:=I1.GR hx
    have el:=gX hn;subst el;cases Reps.G3 rx
    have hi:=hZ rv
    have hl:=hi.length
    have h4:=of_decide_eq_true hz.1
    have hd:X.A.handled=none:=I1.ok.hd hc;refine wa (items:=its.toArray) (ns:=ns) hd ⟨_,eo,rfl,n,rfl⟩ (by simpa using hi) (by rw[HU];omega) (λi h=> ?_) λh' tk es ep pl x hp kp et=> ?_
    ·rw[HU]at h
     have hm:=hz.2 (ns.getD i 0) (by rw[Ih,HG (by omega)];exact Jy _)
     rw[Hz]at hm;exact⟨of_decide_eq_true hm.1,of_decide_eq_true hm.2⟩
    refine JT ?_
    refine sC (s:={ s1 with heap:=h',toks:=tk }) hd x λpA out ms h1 h2 tk2 nn k1 pl1 k2 ho2 hi2 pm pw et2=> ?_
    have keep:∀b u,s1.heap.get? b=some u->h2.get? b=some u:=λb u e=>k2 _ _ (k1 _ _ (kp b u (HM e) e))
    have hfr:s1.heap.objs.size<=pA:=by
     have h0:s1.heap.objs.size<h1.objs.size:=HM (k1 _ _ x.at_);exact Ii (Jl h0) pl1
    have hH:H1 pA=none:=I1.hok.fresh hfr
    have em:ms=(Ek ns).mergeSort rM:=by
     refine gU ?_ (pw.imp λh=>decide_eq_true h)
     rw[HU,show its.length=ns.length by omega,Bf]at hp
     exact pm.trans hp
    have ml:ms.length<=4:=by
     have:=hi2.length
     have e5:ms.length=(bF es).length:=pm.length_eq
     have e6:(bF es).length=es.size:=by unfold bF;simp
     have e7:=x.len
     have:=x.few;omega
    refine⟨.ref pA,upd H1 pA (.lst (ms.map V.int)),I1.laid (t':=tk2) keep hfr ⟨by rw[HI,IG];omega,out.toList,nn,fy hi2,by rw[ho2]⟩,rfl,q1 _ (aO hH _) _ ?_⟩
    rw[<-em];exact dS hH (E'.fresh hH) Reps.ints
   ·exact q1.elim
  ·exact q1.elim
 ·exact q1.elim
end
end Tr
namespace Tr
open PySem PySem.Spec PyProof.Rows L2 PySem.W
def Ey (K:Frag)(mg:Str->Option HA)(base:Heap):Prop:=∃f c P,mg "most_kept" =some (.ref f)/\(∃o d,K.lookup f=some o/\o.data= .func d/\d.code= .ref c)/\CodeHd base c P/\(∀H,Tb K mg H->H P=some (.tbl kF))/\GJ K mg
theorem Bk {K:Frag}{mg:Str->Option HA}{h base:Heap}(L:∃f c P,LmK K f c P)(b:Eu K=true)(X:K.In h)(G:h.Ns Ie mg)(X2:K.In base):Ey K mg base:=by
 obtain⟨f,c,P,L⟩:=L
 have hL:=L;obtain⟨o,d,b1,b2,b3⟩:=hL.fn;obtain⟨oc,vs,c1,c2,c3⟩:=hL.cd
 have m:=mg_of X G L.nm;exact⟨f,c,P,m,⟨o,d,b1,b2,b3⟩,L.hd base X2,λH t=>t f o d c oc vs P m b1 b2 b3 c1 c2 c3,Et X G b⟩
section
variable {X:Cx}{e:Expr}{fs:En->Rs (List T)}{p pos kp p8 pp p1 p2 p3 p4 p5 p6:Pos}{f:Addr}{cdv:HA}{k:Nat}
theorem z9 (L:Ey X.K X.mg X.base)(hx:∃o fd,X.mg "most_kept" =some (.ref f)/\X.K.lookup f=some o/\o.data= .func fd/\fd.code=X.env.code)(hr:Room (k+3) X.A)(hm:X.mg "sorted" =none)(hml:X.mg "len" =none)(ha:QA X [e] fs)
  (hq:X.env.qual= "most_kept" ++ ".<locals>.":=by rfl) (hst:aX [e] =true:=by rfl) (hg:Gl X "sorted":=by rfl) (hcl:NI fI X.env=pure []:=by rfl) :
  QE X (.Call (.Name "sorted" p) [e] [⟨some "key",.Lambda (j0 pp) (kY p1 p2 p3 p4 p5 p6) fI p8,kp⟩] pos) (cl qI fs):=by
 obtain⟨f',c,P,m,⟨o,d,b1,b2,b3⟩,C,T,B⟩:=L;obtain⟨o',d',m',a1,a2,a3⟩:=hx;rw[m]at m';cases m';rw[b1]at a1;cases a1;rw[b2]at a2;cases a2;exact⟨C4 hr hm hml (a3.symm.trans b3) C (λH t=>by rw[hq];exact T H t) B ha.h hst hg hcl⟩
theorem tX {a:Expr}(hc:X.calm=true)(hm:X.mg "sorted" =none)(hms:X.mg "set" =none)(ha:QA X [a] fs)(hst:aX [a] =true:=by rfl)(hg:Gl X "sorted":=by rfl)(hgs:Gl X "set":=by rfl) :
  QE X (.Call (.Name "sorted" p) [.Call (.Name "set" p1) [a] [] p2] [] pos) (cl nG fs):=⟨C3 hc hm hms ha.h hst hg hgs⟩
theorem zK:CallT X (.builtin "sorted") qJ:=by
 intro pins s σ H O ts vs us Q I hf rs rv hp;unfold qJ at hp
 split at hp
 ·rename_i l
  obtain⟨v,rfl,r⟩:=rs.one
  split at hp
  ·rename_i ns hn
   split at hp
   ·rename_i h64
    obtain⟨a,ws,rfl,n,q,z⟩:=Rep.Do.mp r;obtain⟨u,rfl,ru⟩:=Vals.one rv;obtain rfl:u=Iv a:=ru;obtain⟨zz,its,m,r',hlen,eo⟩:=I.GR q
    have el:=gX hn;subst el;cases Reps.G3 z
    have hi:=hZ r'
    have hl:=hi.length
    have i64:its.length<64:=by omega
    refine Mx Qb Ph Pj (args_sorted1 _) ?_
    unfold Builtin.«sorted»;refine Hw (m:=checkCount "sorted" 1 1 _) (HF ?_)
    refine Hw (collect_list ⟨_,eo,rfl,m,rfl⟩ ?_ (by rw[IG];omega))
    refine Hw (MZ ?_ (by rw[IG];omega))
    generalize hh1:(s.heap.push (seqObj "list" #[] 0)).update s.heap.objs.size (IA (· ++its.toArray))=h1
    have hsz:h1.objs.size=s.heap.objs.size+1:=by rw[<-hh1,M7,NK]
    have keep1:∀b o,s.heap.get? b=some o->h1.get? b=some o:=λb o q=>by
     have hlt:b<s.heap.objs.size:=HM q;rw[<-hh1,JW _ _ _ _ (HZ hlt),MK _ _ _ (HZ hlt)]
     exact q
    have hoL:(h1.push (seqObj "list" its.toArray 0)).get? h1.objs.size=some (seqObj "list" its.toArray 0):=HR _ rfl
    show wpAny _ _ _ _ _ { s with heap:=h1.push (seqObj "list" its.toArray 0) }
    refine Hw (Jp (Jh NW ⟨_,hoL,rfl⟩ ND (list_sort_tree (s:={ s with heap:=h1.push (seqObj "list" its.toArray 0) }) hoL hi i64 λout ms a1 a2 a3=>⟨_,rfl,?_⟩) (args_list_sort _)))
    obtain⟨nn,hnn⟩:=sortedHeap_at (out:=out) hoL
    have em:ms=ns.mergeSort rM:=gU a2 (a3.imp λh=>decide_eq_true h)
    have hfr:H h1.objs.size=none:=I.hok.fresh (by rw[hsz];exact Lr _)
    refine HF ⟨_,rfl,.ref h1.objs.size,upd H h1.objs.size (.lst (ms.map V.int)),I.laid (t':=s.toks) (λb o e=> ?_) (by rw[hsz];exact Lr _) ⟨by rw[HI,a2.length_eq,IG];omega,out.toList,nn,fy a1,by rw[hnn]⟩,rfl,hp _ (aO hfr _) _ ?_⟩
    ·have hlt:b<h1.objs.size:=HM (keep1 b o e)
     rw[sortedHeap_old (HZ hlt) (by rw[NK];exact IY hlt)]
     exact HC _ (keep1 b o e)
    ·rw[<-em]
     exact dS hfr (hf _ hfr) Reps.ints
   ·exact hp.elim
  ·exact hp.elim
 ·exact hp.elim
end
end Tr
namespace G
open PySem PySem.Spec PyProof.Rows L2 Tr
def top (i:Nat):Stmt:=IS.main.body.getD i (.Pass ⟨0,0,0,0⟩)
structure Bl (mg:Str->Option HA):Prop where
 b_all:mg "all" =none
 b_bool:mg "bool" =none
 b_dict:mg "dict" =none
 b_enumerate:mg "enumerate" =none
 b_int:mg "int" =none
 b_isinstance:mg "isinstance" =none
 b_len:mg "len" =none
 b_list:mg "list" =none
 b_range:mg "range" =none
 b_set:mg "set" =none
 b_sorted:mg "sorted" =none
 b_tuple:mg "tuple" =none
structure Cs (mg:Str->Option HA):Prop where
 MOST_CLOCKS:∃t,mg "MOST_CLOCKS" =some (.int 4 t)
 MOST_LETTERS:∃t,mg "MOST_LETTERS" =some (.int 8 t)
 MOST_READINGS:∃t,mg "MOST_READINGS" =some (.int 4 t)
 LAST_READING:∃t,mg "LAST_READING" =some (.int 99 t)
 SLOWEST:∃t,mg "SLOWEST" =some (.int 9 t)
 LONGEST:∃t,mg "LONGEST" =some (.int 999 t)
theorem qo:Iq "bool" =some (.type "bool"):=by decide+kernel
theorem kx:Iq "int" =some (.type "int"):=by decide+kernel
theorem bV:Iq "tuple" =some (.type "tuple"):=by decide+kernel
structure Xs (K:Hy)(mg:Str->Option HA)(C_NoRecord C_NoNumber C_ClockError:Addr):Prop where
 m_NoRecord:mg "NoRecord" =some (.ref C_NoRecord)
 m_NoNumber:mg "NoNumber" =some (.ref C_NoNumber)
 m_ClockError:mg "ClockError" =some (.ref C_ClockError)
 o_NoRecord:OX K C_NoRecord (.ref C_ClockError::vc)
 o_NoNumber:OX K C_NoNumber (.ref C_ClockError::vc)
 o_ClockError:OX K C_ClockError vc
 d:[C_NoRecord,C_NoNumber,C_ClockError].Nodup
end G
namespace G
open PySem Tr
def gQ:En->Rs Fl:=
 (az (eV (tb (o2 qh (vr 0) (dM ai))) (aL (o2 cm (cn (.int 7)) (vr 1))) sN) (aL (o2 aQ (o2 aS (vr 0) (o2 jE (vr 1) (cl bS (ae (vr 0) ai)))) (o2 cm (cn (.int 6553)) (o2 jK (vr 1) (cl bS (ae (vr 0) ai)))))))
def dW:List T->Rs T:=val 2 2 gQ
def f9:En->Rs Fl:=
 (az (cI (o2 jE (o2 aQ (o2 cm (o2 jE (cl dW (ae (vr 0) (ae (vr 1) ai))) (cn (.int 2147483563))) (cn (.int 69069))) (o2 cm (cn (.int 104723)) (o2 aQ (vr 1) (cn (.int 1))))) (cn (.int 2147483563))) (gN 3)) (az (cI (o2 jE (o2 aQ (o2 cm (vr 3) (vr 3)) (o2 jK (vr 3) (cn (.int 3)))) (cn (.int 2147483399))) (gN 3)) (aL (o2 jE (o2 jK (o2 jE (o2 aQ (o2 cm (vr 3) (vr 3)) (o2 jK (vr 3) (cn (.int 7)))) (cn (.int 2147483647))) (cn (.int 11))) (vr 2)))))
def aA:List T->Rs T:=val 3 4 f9
def iI:En->Rs Fl:=
 (az (cI (dM ai) (gN 1)) (az (gu (iE (ae (vr 0) ai)) (gT 2 (rP (gN 2) (rP (gN 3) z5))) (cI (o2 aQ (vr 1) (eF (iR (ae (cl bS (ae (o2 aS (vr 3) (cn (.int 2))) ai)) ai)) [none,some 2] (gN 0) bT (bp (ae (vr 1) (ae (vr 0) ai))))) (gN 1))) (aL (vr 1))))
def cY:List T->Rs T:=val 1 4 iI
def cZ:En->Rs Fl:=
 (az (cI (cl cY (ae (vr 2) ai)) (gN 3)) (az (eV (tb (o2 EB (cl bS (ae (vr 3) ai)) (cn (.int 2)))) (aL (cn .non)) sN) (az (cI (cl aA (ae (vr 0) (ae (vr 1) (ae (cl bS (ae (vr 3) ai)) ai)))) (gN 4)) (az (cI (o2 jE (o2 aQ (o2 aQ (vr 4) (cn (.int 1))) (cl aA (ae (vr 0) (ae (o2 aQ (vr 1) (cn (.int 1))) (ae (o2 ig (cl bS (ae (vr 3) ai)) (cn (.int 1))) ai))))) (cl bS (ae (vr 3) ai))) (gN 5)) (az (cI (cl aA (ae (vr 0) (ae (o2 aQ (vr 1) (cn (.int 2))) (ae (cn (.int 8)) ai)))) (gN 6)) (az (cI (ED (tb (o2 qh (cl aA (ae (vr 0) (ae (o2 aQ (vr 1) (cn (.int 3))) (ae (cn (.int 3)) ai)))) (cn (.int 0)))) (cn .non) (o2 aQ (vr 6) (cl aA (ae (vr 0) (ae (o2 aQ (vr 1) (cn (.int 4))) (ae (cn (.int 9)) ai)))))) (gN 7)) (aL (bp (ae (o2 aS (vr 3) (vr 4)) (ae (o2 aS (vr 3) (vr 5)) (ae (vr 6) (ae (vr 7) ai))))))))))))
def cE:List T->Rs T:=val 3 8 cZ
def gb:En->Rs Fl:=
 (az (cI (o2 aQ (cn (.int 1)) (cl aA (ae (vr 0) (ae (vr 1) (ae (cn (.int 3)) ai))))) (gN 2)) (az (cI (bp (ae (cl aA (ae (vr 0) (ae (o2 aQ (vr 1) (cn (.int 2))) (ae (cn (.int 6)) ai)))) ai)) (gN 3)) (az (gu (iR (ae (cl aA (ae (vr 0) (ae (o2 aQ (vr 1) (cn (.int 1))) (ae (cn (.int 3)) ai)))) ai)) (gN 4) (cI (o2 aQ (vr 3) (bp (ae (o2 aQ (o2 aQ (o2 aS (vr 3) (o1 kE (cn (.int 1)))) (cn (.int 1))) (cl aA (ae (vr 0) (ae (o2 aQ (o2 aQ (vr 1) (cn (.int 3))) (vr 4)) (ae (cn (.int 5)) ai))))) ai))) (gN 3))) (aL (bp (ae (vr 2) (ae (o2 aQ (vr 2) (cl aA (ae (vr 0) (ae (o2 aQ (vr 1) (cn (.int 6))) (ae (cn (.int 3)) ai))))) (ae (vr 3) ai))))))))
def bN:List T->Rs T:=val 2 5 gb
def ft:En->Rs Fl:=
 (az (cI (cl d7 (ae (eF (iR (ae (o2 aQ (cn (.int 1)) (cl aA (ae (vr 0) (ae (vr 1) (ae (cn (.int 3)) ai))))) ai)) [none,some 0,some 1] (gN 0) bT (cl bN (ae (vr 1) (ae (o2 aQ (o2 aQ (vr 2) (cn (.int 1))) (o2 cm (cn (.int 8)) (vr 0))) ai)))) ai)) (gN 3)) (az (cI (dM ai) (gN 4)) (az (gu (iR (ae (cl aA (ae (vr 0) (ae (o2 aQ (vr 1) (cn (.int 30))) (ae (o2 aQ (vr 2) (cn (.int 1))) ai)))) ai)) (gN 5) (az (cI (cl cE (ae (vr 0) (ae (o2 aQ (o2 aQ (vr 1) (cn (.int 31))) (o2 cm (cn (.int 6)) (vr 5))) (ae (vr 3) ai)))) (gN 6)) (cI (o2 aQ (vr 4) (o2 cm (dM (ae (vr 6) ai)) (cl yU (ae (o2 kj (vr 6) (cn .non)) ai)))) (gN 4)))) (aL (bp (ae (vr 3) (ae (cl d7 (ae (vr 4) ai)) ai)))))))
def dQ:List T->Rs T:=val 3 7 ft
def oE:En->Rs Fl:=
 (aL (cv (o1 (Bt "tuple") (vr 0)) (ch FI FI (vr 1) (cl bS (ae (vr 0) ai)) (vr 2))))
def aI:List T->Rs T:=val 3 3 oE
def tW:En->Rs Fl:=
 (aL (cv (o1 (Bt "int") (vr 0)) (o1 Be (o1 (Bt "bool") (vr 0)))))
def fR:List T->Rs T:=val 1 1 tW
def gO:En->Rs Fl:=
 (aL (cv (cl fR (ae (vr 0) ai)) (ch FI FI (vr 1) (vr 0) (vr 2))))
def aN:List T->Rs T:=val 3 3 gO
def kc:En->Rs Fl:=
 (aL (cv (cl aN (ae (vr 0) (ae (cn (.int 1)) (ae (cn (.int 9)) ai)))) (cl aN (ae (vr 1) (ae (vr 0) (ae (cn (.int 9)) ai))))))
def eE:List T->Rs T:=val 2 2 kc
def vi:En->Rs Fl:=
 (aL (cl nu (ae (eF (iR (ae (o2 ig (cl bS (ae (vr 0) ai)) (cn (.int 1))) ai)) [none,some 0] (gN 0) bT (o2 EB (o2 aS (vr 1) (vr 0)) (o2 aS (vr 1) (o2 aQ (vr 0) (cn (.int 1)))))) ai)))
def hV:List T->Rs T:=val 1 1 vi
def dC:En->Rs Fl:=
 (az (eV (cL (tb (cl aI (ae (vr 0) (ae (cn (.int 1)) (ae (cn (.int 4)) ai)))))) (aL (cn (.bl false))) sN) (aL (cv (cl nu (ae (eF (iS (vr 0)) [none] (gN 0) bT (cl aN (ae (vr 0) (ae (cn (.int 0)) (ae (cn (.int 99)) ai))))) ai)) (cl hV (ae (vr 0) ai)))))
def bo:List T->Rs T:=val 1 1 dC
def fZ:En->Rs Fl:=
 (aL (cv (cl aI (ae (vr 0) (ae (cn (.int 3)) (ae (cn (.int 3)) ai)))) (cv (cl eE (ae (o2 aS (vr 0) (cn (.int 0))) (ae (o2 aS (vr 0) (cn (.int 1))) ai))) (cl bo (ae (o2 aS (vr 0) (cn (.int 2))) ai)))))
def cO:List T->Rs T:=val 1 1 fZ
def f7:En->Rs Fl:=
 (aL (cv (cl aI (ae (vr 0) (ae (cn (.int 1)) (ae (cn (.int 4)) ai)))) (cl nu (ae (eF (iS (vr 0)) [none] (gN 0) bT (cl cO (ae (vr 0) ai))) ai))))
def cT:List T->Rs T:=val 1 1 f7
def fX:En->Rs Fl:=
 (az (eV (mY (cL (tb (cl aI (ae (vr 1) (ae (cn (.int 2)) (ae (cn (.int 2)) ai)))))) (cL (tb (cl aN (ae (o2 aS (vr 1) (cn (.int 0))) (ae (cn (.int 0)) (ae (o2 ig (cl bS (ae (vr 0) ai)) (cn (.int 1))) ai))))))) (aL (cn (.bl false))) sN) (aL (cl aN (ae (o2 aS (vr 1) (cn (.int 1))) (ae (cn (.int 0)) (ae (o2 ig (cl bS (ae (o2 aS (o2 aS (vr 0) (o2 aS (vr 1) (cn (.int 0)))) (cn (.int 2))) ai)) (cn (.int 1))) ai))))))
def cN:List T->Rs T:=val 2 2 fX
def fY:En->Rs Fl:=
 (aL (cv (cl aN (ae (vr 0) (ae (cn (.int 0)) (ae (cn (.int 999)) ai)))) (zZ (o2 jJ (vr 1) (cn .non)) (cl aN (ae (vr 1) (ae (vr 0) (ae (cn (.int 999)) ai)))))))
def da:List T->Rs T:=val 2 2 fY
def di:En->Rs Fl:=
 (az (eV (mY (cL (tb (cl aI (ae (vr 1) (ae (cn (.int 4)) (ae (cn (.int 4)) ai)))))) (cL (tb (cl da (ae (o2 aS (vr 1) (cn (.int 2))) (ae (o2 aS (vr 1) (cn (.int 3))) ai)))))) (aL (cn (.bl false))) sN) (aL (cv (cl cN (ae (vr 0) (ae (o2 aS (vr 1) (cn (.int 0))) ai))) (cv (cl cN (ae (vr 0) (ae (o2 aS (vr 1) (cn (.int 1))) ai))) (o2 l9 (o2 aS (vr 1) (cn (.int 0))) (o2 aS (vr 1) (cn (.int 1))))))))
def bx:List T->Rs T:=val 2 2 di
def fq:En->Rs Fl:=
 (aL (cv (cl aI (ae (vr 1) (ae (cn (.int 0)) (ae (cn (.int 8)) ai)))) (cl nu (ae (eF (iS (vr 1)) [none,some 0] (gN 0) bT (cl bx (ae (vr 1) (ae (vr 0) ai)))) ai))))
def cC:List T->Rs T:=val 2 2 fq
def fh:En->Rs Fl:=
 (aL (cv (cl aI (ae (vr 0) (ae (cn (.int 2)) (ae (cn (.int 2)) ai)))) (cv (cl cT (ae (o2 aS (vr 0) (cn (.int 0))) ai)) (cl cC (ae (o2 aS (vr 0) (cn (.int 0))) (ae (o2 aS (vr 0) (cn (.int 1))) ai))))))
def cM:List T->Rs T:=val 1 1 fh
def fm:En->Rs Fl:=
 (eV (cL (tb (cl cM (ae (vr 0) ai)))) (As "NoRecord") sN)
def a8:List T->Rs T:=val 1 1 fm
def wm:En->Rs Fl:=
 (az (cI (dM (ae (dM ai) ai)) (gN 1)) (az (gu (iS (vr 0)) (gN 2) (cI (o2 aQ (vr 1) (eF (iS (vr 1)) [none,some 2] (gN 0) bT (o2 aQ (vr 0) (dM (ae (vr 1) ai))))) (gN 1))) (aL (vr 1))))
def hU:List T->Rs T:=val 1 3 wm
def mW:En->Rs Fl:=
 (az (zY (cl a8 (ae (vr 0) ai))) (az (ix 1 ai) (az (gu (iE (ae (o2 aS (vr 0) (cn (.int 0))) ai)) (gT 2 (rP (gN 2) (rP (gN 3) z5))) (lG 1 (eF (iR (ae (cl bS (ae (o2 aS (vr 3) (cn (.int 2))) ai)) ai)) [none,some 2] (gN 0) bT (bp (ae (vr 1) (ae (vr 0) ai)))))) (o8 1 (aL (vr 1))))))
def eQ:List T->Rs T:=val 1 4 mW
def gP:En->Rs Fl:=
 (az (cI (oD gg (vr 0) (o2 aS (vr 1) (cn (.int 1)))) (gN 3)) (aL (zZ (o2 jJ (vr 3) (cn .non)) (o2 EB (o2 aQ (o2 aS (vr 2) (cn (.int 0))) (o2 aS (vr 1) (cn (.int 2)))) (o2 aS (vr 3) (cn (.int 0)))))))
def cP:List T->Rs T:=val 3 4 gP
def gL:En->Rs Fl:=
 (az (nJ 2 (eF (iS (vr 1)) [none] (gN 0) bT (bp (ae (vr 0) (ae (bp (ae (cn (.int 0)) (ae (dM ai) ai))) ai))))) (az (cI (cn (.bl true)) (gN 3)) (az (ba (tb (vr 3)) (az (cI (cn (.bl false)) (gN 3)) (gu (iE (ae (vr 0) ai)) (gT 2 (rP (gN 4) (rP (gN 5) z5))) (az (cI (ln 2 (oD gg (vr 2) (o2 aS (vr 5) (cn (.int 0))))) (gN 6)) (az (eV (mY (tb (o2 jJ (vr 6) (cn .non))) (cL (DG 2 (tb (cl cP (ae (vr 2) (ae (vr 5) (ae (vr 6) ai)))))))) B0 sN) (az (cI (o2 aQ (o2 aS (vr 6) (cn (.int 1))) (dM (ae (vr 4) ai))) (gN 7)) (az (cI (eF (iS (vr 7)) [none,some 0] (gN 0) bT (o2 aS (o2 aS (vr 1) (vr 0)) (cn (.int 0)))) (gN 8)) (az (eV (tb (o2 z4 (o2 aS (vr 5) (cn (.int 1))) (vr 8))) (aL (bp (ae (cn .non) (ae (sl (vr 7) (pS (oL eZ (vr 8) (o2 aS (vr 5) (cn (.int 1))))) pN) ai)))) sN) (az (vz 2 (o2 aS (vr 5) (cn (.int 1))) (bp (ae (o2 aQ (o2 aS (vr 6) (cn (.int 0))) (o2 aS (vr 5) (cn (.int 2)))) (ae (vr 7) ai)))) (cI (cn (.bl true)) (gN 3)))))))))) FU) (o8 2 (aL (bp (ae (vr 2) (ae (cn .non) ai))))))))
def dU:List T->Rs T:=val 2 9 gL
def dO:En->Rs Fl:=
 (az (cI (cl eQ (ae (vr 0) ai)) (gN 2)) (az (cI (o2 aS (cl dU (ae (vr 1) (ae (vr 2) ai))) (cn (.int 0))) (gN 3)) (az (eV (tb (o2 jJ (vr 3) (cn .non))) (aL (cn .non)) sN) (aL (cl d7 (ae (eF (iS (vr 2)) [none,some 3] (gN 0) bT (o2 aS (o2 rZ (vr 1) (vr 0)) (cn (.int 0)))) ai))))))
def cS:List T->Rs T:=val 2 4 dO
def dB:En->Rs Fl:=
 (az (cI (o2 aS (vr 1) (cn (.int 2))) (gN 2)) (az (ix 3 ai) (az (gu (iR (ae (o2 ig (cl bS (ae (vr 2) ai)) (cn (.int 1))) ai)) (gN 4) (az (cI (bp (ae (vr 0) (ae (vr 4) ai))) (gN 5)) (az (cI (bp (ae (vr 0) (ae (o2 aQ (vr 4) (cn (.int 1))) ai))) (gN 6)) (az (cI (o2 ig (o2 aS (vr 2) (o2 aQ (vr 4) (cn (.int 1)))) (o2 aS (vr 2) (vr 4))) (gN 7)) (az (m5 3 (bp (ae (vr 5) (ae (vr 6) (ae (o2 cm (vr 7) (o2 aS (vr 1) (cn (.int 1)))) ai))))) (m5 3 (bp (ae (vr 6) (ae (vr 5) (ae (o2 cm (o1 kE (vr 7)) (o2 aS (vr 1) (cn (.int 0)))) ai)))))))))) (o8 3 (aL (vr 3))))))
def bM:List T->Rs T:=val 2 8 dB
def de:En->Rs Fl:=
 (az (ix 1 (ae (bp (ae (o2 aS (vr 0) (cn (.int 1))) (ae (o2 aS (vr 0) (cn (.int 0))) (ae (o1 kE (o2 aS (vr 0) (cn (.int 2)))) ai)))) ai)) (az (eV (tb (o2 kj (o2 aS (vr 0) (cn (.int 3))) (cn .non))) (m5 1 (bp (ae (o2 aS (vr 0) (cn (.int 0))) (ae (o2 aS (vr 0) (cn (.int 1))) (ae (o2 aS (vr 0) (cn (.int 3))) ai))))) sN) (o8 1 (aL (vr 1)))))
def bA:List T->Rs T:=val 1 2 de
def mX:En->Rs Fl:=
 (az (zY (cl a8 (ae (vr 0) ai))) (az (ix 1 ai) (az (gu (iE (ae (o2 aS (vr 0) (cn (.int 0))) ai)) (gT 2 (rP (gN 2) (rP (gN 3) z5))) (lG 1 (cl bM (ae (vr 2) (ae (vr 3) ai))))) (az (gu (iS (o2 aS (vr 0) (cn (.int 1)))) (gN 4) (lG 1 (cl bA (ae (vr 4) ai)))) (o8 1 (aL (vr 1)))))))
def eR:List T->Rs T:=val 1 5 mX
def BU:En->Rs Fl:=
 (aL (cl cS (ae (vr 0) (ae (cl eR (ae (vr 0) ai)) ai))))
def g8:List T->Rs T:=val 1 1 BU
def sj:En->Rs Fl:=
 (aL (o2 kj (cl g8 (ae (vr 0) ai)) (cn .non)))
def aH:List T->Rs T:=val 1 1 sj
def nv:En->Rs Fl:=
 (aL (lR (ae (cl bS (ae (o2 aS (vr 0) (cn (.int 1))) ai)) ai)))
def cD:List T->Rs T:=val 1 1 nv
def si:En->Rs Fl:=
 (aL (bp (ae (o2 aS (vr 0) (cn (.int 0))) (ae (cl d7 (ae (eF (iS (vr 1)) [none,some 0] (gN 0) bT (o2 aS (o2 aS (vr 1) (cn (.int 1))) (vr 0))) ai)) ai))))
def cp:List T->Rs T:=val 2 2 si
def gM:En->Rs Fl:=
 (az (zY (cl a8 (ae (vr 0) ai))) (az (cI (cl qI (ae (cl hU (ae (cl cD (ae (vr 0) ai)) ai)) ai)) (gN 1)) (az (cI (cn (.int 0)) (gN 2)) (az (ba (cL (tb (cl aH (ae (cl cp (ae (vr 0) (ae (o2 aS (vr 1) (vr 2)) ai))) ai)))) (wZ 2 (cn (.int 1))) FU) (aL (o2 aS (vr 1) (vr 2)))))))
def dh:List T->Rs T:=val 1 3 gM
def wj:En->Rs Fl:=
 (aL (eF (iS (vr 0)) [none,some 1] (gN 0) (tb (o2 l9 (vr 0) (vr 1))) (vr 0)))
def g9:List T->Rs T:=val 2 2 wj
def i6:En->Rs Fl:=
 (az (eV (tb (cl aH (ae (vr 0) ai))) (aL (dM ai)) sN) (az (cI (cl cD (ae (vr 0) ai)) (gN 1)) (aL (eF (iS (vr 1)) [none,some 0,some 1] (gN 0) (tb (cl aH (ae (cl cp (ae (vr 1) (ae (cl g9 (ae (vr 2) (ae (vr 0) ai))) ai))) ai))) (vr 0)))))
def fS:List T->Rs T:=val 1 2 i6
def fo:En->Rs Fl:=
 (eV (cL (tb (cl aN (ae (vr 1) (ae (cn (.int 0)) (ae (o2 ig (vr 0) (cn (.int 1))) ai)))))) (As "NoNumber") sN)
def dP:List T->Rs T:=val 2 2 fo
def dN:En->Rs Fl:=
 (az (zY (cl a8 (ae (vr 0) ai))) (az (cI (o2 aS (vr 0) (cn (.int 1))) (gN 2)) (az (zY (cl dP (ae (cl bS (ae (vr 2) ai)) (ae (vr 1) ai)))) (aL (bp (ae (o2 aS (vr 0) (cn (.int 0))) (ae (o2 aQ (sl (vr 2) pN (pS (vr 1))) (sl (vr 2) (pS (o2 aQ (vr 1) (cn (.int 1)))) pN)) ai)))))))
def cf:List T->Rs T:=val 2 3 dN
def wo:En->Rs Fl:=
 (aL (o2 aS (cl dU (ae (cl eR (ae (vr 0) ai)) (ae (cl eQ (ae (vr 0) ai)) ai))) (cn (.int 1))))
def fH:List T->Rs T:=val 1 1 wo
def zW:En->Rs Fl:=
 (az (cI (cl dQ (ae (vr 0) (ae (cn (.int 0)) (ae (cn (.int 4)) ai)))) (gN 1)) (az (cI (cl bS (ae (o2 aS (vr 1) (cn (.int 1))) ai)) (gN 2)) (az (cI (cl dh (ae (vr 1) ai)) (gN 3)) (az (cI (bp (ae (o2 aS (vr 1) (cn (.int 0))) (ae (cl d7 (ae (eF (iS (vr 3)) [none,some 1] (gN 0) bT (o2 aS (o2 aS (vr 1) (cn (.int 1))) (vr 0))) ai)) ai))) (gN 4)) (az (eV (mY (tb (o2 l9 (vr 3) (cl nG (ae (vr 3) ai)))) (mY (cL (tb (cl aH (ae (vr 4) ai)))) (tb (o2 l9 (cl dh (ae (vr 4) ai)) (lR (ae (cl bS (ae (vr 3) ai)) ai)))))) (aL (cn (.bl false))) sN) (az (eV (tb (o2 l9 (cl aH (ae (vr 1) ai)) (o2 qh (vr 3) (lR (ae (vr 2) ai))))) (aL (cn (.bl false))) sN) (az (gu (iR (ae (vr 2) ai)) (gN 5) (eV (tb (o2 iU (vr 5) (vr 3))) (az (cI (cl qJ (ae (o2 aQ (vr 3) (dM (ae (vr 5) ai))) ai)) (gN 6)) (eV (tb (cl aH (ae (bp (ae (o2 aS (vr 1) (cn (.int 0))) (ae (cl d7 (ae (eF (iS (vr 6)) [none,some 1] (gN 0) bT (o2 aS (o2 aS (vr 1) (cn (.int 1))) (vr 0))) ai)) ai))) ai))) (aL (cn (.bl false))) sN)) sN)) (az (cI (cl fS (ae (vr 1) ai)) (gN 7)) (az (eV (mY (kK (tb (cl aH (ae (vr 1) ai))) (tb (o2 l9 (vr 7) (dM ai)))) (tb (o2 l9 (vr 7) (cl nG (ae (vr 7) ai))))) (aL (cn (.bl false))) sN) (az (gu (iR (ae (vr 2) ai)) (gN 5) (az (cI (cl cf (ae (vr 1) (ae (vr 5) ai))) (gN 8)) (eV (kK (cL (tb (cl aH (ae (vr 1) ai)))) (tb (o2 l9 (o2 z4 (vr 5) (vr 7)) (cl aH (ae (vr 8) ai))))) (aL (cn (.bl false))) sN))) (az (cI (eF (iR (ae (vr 2) ai)) [none,some 3] (gN 0) (tb (o2 iU (vr 0) (vr 1))) (vr 0)) (gN 9)) (az (eV (kK (tb (o2 l9 (vr 7) (dM ai))) (tb (o2 l9 (vr 9) (sl (vr 7) (pS (o1 kE (cn (.int 1)))) pN)))) (aL (cn (.bl false))) sN) (az (eV (kK (tb (o2 qh (vr 7) (dM ai))) (kK (cL (tb (cl aH (ae (vr 1) ai)))) (tb (o2 gtT (cl bS (ae (vr 3) ai)) (o2 ig (vr 2) (cn (.int 2))))))) (aL (cn (.bl false))) sN) (aL (o2 qh (o2 jJ (cl fH (ae (vr 1) ai)) (cn .non)) (o2 qh (cl bS (ae (vr 3) ai)) (vr 2)))))))))))))))))
def m_law:List T->Rs T:=val 1 10 zW
end G
namespace G
open PySem PySem.Spec PyProof.Rows L2 Tr
section
variable (P:H0)(w:IP){K:Hy}{mg:Str->Option HA}(base:Heap)
abbrev jw:Stmt:=top 49
abbrev pY:List Str:=["_law_script","_law_k"]
theorem o7:ay pY ["_law_script","_law_k"] (aj jw):=fL
theorem pL (F:fM K mg "_law_cell" jw ["_law_script","_law_k"])(B:Bl mg):Cl P w K mg base 1 "_law_cell" 2 dW:=
 bf F o7 rfl λf c A o s H E hr x=>(ao (b9 (br (nN (ip hr)) (af 0) (dm ag)) (ar (ax (au dw ak (af 1)))) bu) (ar (ax (au aM (aD (af 0) (au iP (af 1) (cH cj B.b_len JZ (ah (af 0) ag)))) (au dw ak (au kQ (af 1) (cH cj B.b_len JZ (ah (af 0) ag))))))))
abbrev iu:Stmt:=top 50
abbrev ng:List Str:=["_law_script","_law_k","_law_many","_law_cell_here"]
theorem aar:ay ng ["_law_script","_law_k","_law_many"] (aj iu):=fL
theorem m8 (F:fM K mg "_law_drawn" iu ["_law_script","_law_k","_law_many"])(aaD:Cl P w K mg base 1 "_law_cell" 2 dW):Cl P w K mg base 2 "_law_drawn" 3 aA:=
 bf F aar rfl λf c A o s H E hr x=>(by(apply ao;exact(aG (au iP (au aM (au dw (au iP (aP aaD hr (ah (af 0) (ah (af 1) ag))) ak) ak) (au dw ak (au aM (af 1) ak))) ak) (aq 3 aar.nd));apply ao;exact(aG (au iP (au aM (au dw (af 3) (af 3)) (au kQ (af 3) ak)) ak) (aq 3 aar.nd));exact ar (ax (au iP (au kQ (au iP (au aM (au dw (af 3) (af 3)) (au kQ (af 3) ak)) ak) ak) (af 2)))))
abbrev eO:Stmt:=top 53
abbrev gB:List Str:=["_law_clocks","_law_found","_law_number","_law_clock_here"]
theorem aaa:ay gB ["_law_clocks"] (aj eO):=fL
theorem lV (F:fM K mg "_law_events" eO ["_law_clocks"])(B:Bl mg):Cl P w K mg base 1 "_law_events" 1 cY:=
 bf F aaa rfl λf c A o s H E hr x=>(by(apply ao;exact(aG (dm ag) (aq 1 aaa.nd));apply ao;exact(dk rfl (jh B.b_enumerate (ah (af 0) ag)) (kM rfl (df (aq 2 aaa.nd) (df (aq 3 aaa.nd) ji))) (ar (aG (au aM (af 1) (eI (N':=["_law_place","_law_number"]) (src:=[none,some 2]) rfl (LcScope.by (N:=gB) (names:=(aj eO).names) rfl rfl rfl (by decide+kernel)) (bQ B.b_range (ah (cH cj B.b_len JZ (ah (aD (af 3) ak) ag)) ag)) (λ_ _ _ _ _=>⟨(aq 0 (show IZ (["_law_place","_law_number"]:List Str)by decide+kernel)),bK,(bB (ah (af 1) (ah (af 0) ag)))⟩))) (aq 1 aaa.nd))));exact ar (ax (af 1))))
abbrev gq:Stmt:=top 52
abbrev l7:List Str:=["_law_script","_law_at","_law_clocks","_law_row","_law_place","_law_other","_law_least","_law_most"]
theorem aa7:ay l7 ["_law_script","_law_at","_law_clocks"] (aj gq):=fL
theorem lU (F:fM K mg "_law_letter" gq ["_law_script","_law_at","_law_clocks"])(aas:Cl P w K mg base 1 "_law_events" 1 cY)(aa0:Cl P w K mg base 2 "_law_drawn" 3 aA)(B:Bl mg):Cl P w K mg base 3 "_law_letter" 3 cE:=
 bf F aa7 rfl λf c A o s H E hr x=>(by(apply ao;exact(aG (aP aas hr (ah (af 2) ag)) (aq 3 aa7.nd));apply ao;exact(b9 (br xU (cH cj B.b_len JZ (ah (af 3) ag)) ak) (ar (ax dJ)) bu);apply ao;exact(aG (aP aa0 hr (ah (af 0) (ah (af 1) (ah (cH cj B.b_len JZ (ah (af 3) ag)) ag)))) (aq 4 aa7.nd));apply ao;exact(aG (au iP (au aM (au aM (af 4) ak) (aP aa0 hr (ah (af 0) (ah (au aM (af 1) ak) (ah (au gw (cH cj B.b_len JZ (ah (af 3) ag)) ak) ag))))) (cH cj B.b_len JZ (ah (af 3) ag))) (aq 5 aa7.nd));apply ao;exact(aG (aP aa0 hr (ah (af 0) (ah (au aM (af 1) ak) (ah ak ag)))) (aq 6 aa7.nd));apply ao;exact(aG (EG (br (nN (ip hr)) (aP aa0 hr (ah (af 0) (ah (au aM (af 1) ak) (ah ak ag)))) ak) dJ (au aM (af 6) (aP aa0 hr (ah (af 0) (ah (au aM (af 1) ak) (ah ak ag)))))) (aq 7 aa7.nd));exact ar (ax (bB (ah (aD (af 3) (af 4)) (ah (aD (af 3) (af 5)) (ah (af 6) (ah (af 7) ag))))))))
abbrev iw:Stmt:=top 51
abbrev nh:List Str:=["_law_script","_law_at","_law_slow","_law_readings","_law_k"]
theorem aab:ay nh ["_law_script","_law_at"] (aj iw):=fL
theorem m9 (F:fM K mg "_law_clock" iw ["_law_script","_law_at"])(aa0:Cl P w K mg base 2 "_law_drawn" 3 aA)(B:Bl mg):Cl P w K mg base 3 "_law_clock" 2 bN:=
 bf F aab rfl λf c A o s H E hr x=>(by(apply ao;exact(aG (au aM ak (aP aa0 hr (ah (af 0) (ah (af 1) (ah ak ag))))) (aq 2 aab.nd));apply ao;exact(aG (bB (ah (aP aa0 hr (ah (af 0) (ah (au aM (af 1) ak) (ah ak ag)))) ag)) (aq 3 aab.nd));apply ao;exact(dk rfl (bQ B.b_range (ah (aP aa0 hr (ah (af 0) (ah (au aM (af 1) ak) (ah ak ag)))) ag)) (aq 4 aab.nd) (ar (aG (au aM (af 3) (bB (ah (au aM (au aM (aD (af 3) (oI ak)) ak) (aP aa0 hr (ah (af 0) (ah (au aM (au aM (af 1) ak) (af 4)) (ah ak ag))))) ag))) (aq 3 aab.nd))));exact ar (ax (bB (ah (af 2) (ah (au aM (af 2) (aP aa0 hr (ah (af 0) (ah (au aM (af 1) ak) (ah ak ag))))) (ah (af 3) ag)))))))
abbrev eM:Stmt:=top 54
abbrev gA:List Str:=["_law_script","_law_at","_law_most","_law_clocks","_law_letters","_law_k","_law_letter_here"]
theorem aa8:ay gA ["_law_script","_law_at","_law_most"] (aj eM):=fL
theorem lT (F:fM K mg "_law_record" eM ["_law_script","_law_at","_law_most"])(aa0:Cl P w K mg base 2 "_law_drawn" 3 aA)(aat:Cl P w K mg base 3 "_law_letter" 3 cE)(aaA:Cl P w K mg base 3 "_law_clock" 2 bN)(B:Bl mg):Cl P w K mg base 4 "_law_record" 3 dQ:=
 bf F aa8 rfl λf c A o s H E hr x=>(by(apply ao;exact(aG (k9 fJ B.b_tuple bV (ah (eI (N':=["_law_k","_law_script","_law_at"]) (src:=[none,some 0,some 1]) rfl (LcScope.by (N:=gA) (names:=(aj eM).names) rfl rfl rfl (by decide+kernel)) (bQ B.b_range (ah (au aM ak (aP aa0 hr (ah (af 0) (ah (af 1) (ah ak ag))))) ag)) (λ_ _ _ _ _=>⟨(aq 0 (show IZ (["_law_k","_law_script","_law_at"]:List Str)by decide+kernel)),bK,(aP aaA hr (ah (af 1) (ah (au aM (au aM (af 2) ak) (au dw ak (af 0))) ag)))⟩)) ag)) (aq 3 aa8.nd));apply ao;exact(aG (dm ag) (aq 4 aa8.nd));apply ao;exact(dk rfl (bQ B.b_range (ah (aP aa0 hr (ah (af 0) (ah (au aM (af 1) ak) (ah (au aM (af 2) ak) ag)))) ag)) (aq 5 aa8.nd) (ao (aG (aP aat hr (ah (af 0) (ah (au aM (au aM (af 1) ak) (au dw ak (af 5))) (ah (af 3) ag)))) (aq 6 aa8.nd)) (ar (aG (au aM (af 4) (au dw (dm (ah (af 6) ag)) (k9 Ep B.b_int kx (ah (d6 lM (af 6) dJ) ag)))) (aq 4 aa8.nd)))));exact ar (ax (bB (ah (af 3) (ah (k9 fJ B.b_tuple bV (ah (af 4) ag)) ag))))))
abbrev lr:Stmt:=top 13
abbrev tw:List Str:=["thing","least","most"]
theorem sP:ay tw ["thing","least","most"] (aj lr):=fL
theorem sZ (F:fM K mg "is_long" lr ["thing","least","most"])(B:Bl mg):Cl P w K mg base 1 "is_long" 3 aI:=
 bf F sP rfl λf c A o s H E hr x=>(ar (ax (dq (wB B.b_isinstance B.b_tuple bV (af 0)) (dI (qB ur ur (af 1) (cH cj B.b_len JZ (ah (af 0) ag)) (af 2))))))
abbrev ke:Stmt:=top 11
abbrev rp:List Str:=["thing"]
theorem qQ:ay rp ["thing"] (aj ke):=fL
theorem rf (F:fM K mg "is_whole" ke ["thing"])(B:Bl mg):Cl P w K mg base 1 "is_whole" 1 fR:=
 bf F qQ rfl λf c A o s H E hr x=>(ar (ax (dq (wB B.b_isinstance B.b_int kx (af 0)) (dI (Cn (wB B.b_isinstance B.b_bool qo (af 0)))))))
abbrev jq:Stmt:=top 12
abbrev pT:List Str:=["thing","least","most"]
theorem oV:ay pT ["thing","least","most"] (aj jq):=fL
theorem pG (F:fM K mg "is_within" jq ["thing","least","most"])(aaH:Cl P w K mg base 1 "is_whole" 1 fR):Cl P w K mg base 2 "is_within" 3 aN:=
 bf F oV rfl λf c A o s H E hr x=>(ar (ax (dq (aP aaH hr (ah (af 0) ag)) (dI (qB ur ur (af 1) (af 0) (af 2))))))
abbrev lq:Stmt:=top 16
abbrev tu:List Str:=["slow","fast"]
theorem sO:ay tu ["slow","fast"] (aj lq):=fL
theorem sY (F:fM K mg "is_pace" lq ["slow","fast"])(aa1:Cl P w K mg base 2 "is_within" 3 aN)(C:Cs mg):Cl P w K mg base 3 "is_pace" 2 eE:=
 bf F sO rfl λf c A o s H E hr x=>(ar (ax (dq (aP aa1 hr (ah (af 0) (ah ak (ah (qA C.SLOWEST) ag)))) (dI (aP aa1 hr (ah (af 1) (ah (af 0) (ah (qA C.SLOWEST) ag))))))))
abbrev lj:Stmt:=top 14
abbrev ro:List Str:=["numbers"]
theorem wY:ay ro ["numbers"] (aj lj):=fL
theorem xY (F:fM K mg "rises" lj ["numbers"])(B:Bl mg):Cl P w K mg base 1 "rises" 1 hV:=
 bf F wY rfl λf c A o s H E hr x=>(ar (ax (cH (qk rfl) B.b_all boot_all (ah (eI (N':=["k","numbers"]) (src:=[none,some 0]) rfl (LcScope.by (N:=ro) (names:=(aj lj).names) rfl rfl rfl (by decide+kernel)) (bQ B.b_range (ah (au gw (cH cj B.b_len JZ (ah (af 0) ag)) ak) ag)) (λ_ _ _ _ _=>⟨(aq 0 (show IZ (["k","numbers"]:List Str)by decide+kernel)),bK,(d6 xU (aD (af 1) (af 0)) (aD (af 1) (au aM (af 0) ak)))⟩)) ag))))
abbrev d8:Stmt:=top 15
abbrev gd:List Str:=["thing"]
theorem kB:ay gd ["thing"] (aj d8):=fL
theorem kD (F:fM K mg "are_readings" d8 ["thing"])(aa2:Cl P w K mg base 1 "is_long" 3 aI)(aaR:Cl P w K mg base 1 "rises" 1 hV)(aa1:Cl P w K mg base 2 "is_within" 3 aN)(B:Bl mg)(C:Cs mg):Cl P w K mg base 3 "are_readings" 1 bo:=
 bf F kB rfl λf c A o s H E hr x=>(ao (b9 (c6 (bJ (aP aa2 hr (ah (af 0) (ah ak (ah (qA C.MOST_READINGS) ag)))))) (ar (ax fw)) bu) (ar (ax (dq (cH (qk rfl) B.b_all boot_all (ah (eI (N':=["part"]) (src:=[none]) rfl (LcScope.by (N:=gd) (names:=(aj d8).names) rfl rfl rfl (by decide+kernel)) (cG (af 0)) (λ_ _ _ _ _=>⟨(aq 0 (show IZ (["part"]:List Str)by decide+kernel)),bK,(aP aa1 hr (ah (af 0) (ah ak (ah (qA C.LAST_READING) ag))))⟩)) ag)) (dI (aP aaR hr (ah (af 0) ag)))))))
abbrev kh:Stmt:=top 17
abbrev rA:List Str:=["thing"]
theorem qT:ay rA ["thing"] (aj kh):=fL
theorem ri (F:fM K mg "is_clock" kh ["thing"])(aa2:Cl P w K mg base 1 "is_long" 3 aI)(aaL:Cl P w K mg base 3 "is_pace" 2 eE)(aal:Cl P w K mg base 3 "are_readings" 1 bo):Cl P w K mg base 4 "is_clock" 1 cO:=
 bf F qT rfl λf c A o s H E hr x=>(ar (ax (dq (aP aa2 hr (ah (af 0) (ah ak (ah ak ag)))) (dq (aP aaL hr (ah (aD (af 0) ak) (ah (aD (af 0) ak) ag))) (dI (aP aal hr (ah (aD (af 0) ak) ag)))))))
abbrev fj:Stmt:=top 18
abbrev iz:List Str:=["thing"]
theorem m4:ay iz ["thing"] (aj fj):=fL
theorem m7 (F:fM K mg "are_clocks" fj ["thing"])(aa2:Cl P w K mg base 1 "is_long" 3 aI)(aaI:Cl P w K mg base 4 "is_clock" 1 cO)(B:Bl mg)(C:Cs mg):Cl P w K mg base 5 "are_clocks" 1 cT:=
 bf F m4 rfl λf c A o s H E hr x=>(ar (ax (dq (aP aa2 hr (ah (af 0) (ah ak (ah (qA C.MOST_CLOCKS) ag)))) (dI (cH (qk rfl) B.b_all boot_all (ah (eI (N':=["part"]) (src:=[none]) rfl (LcScope.by (N:=iz) (names:=(aj fj).names) rfl rfl rfl (by decide+kernel)) (cG (af 0)) (λ_ _ _ _ _=>⟨(aq 0 (show IZ (["part"]:List Str)by decide+kernel)),bK,(aP aaI hr (ah (af 0) ag))⟩)) ag))))))
abbrev kf:Stmt:=top 19
abbrev rq:List Str:=["clocks","thing"]
theorem qR:ay rq ["clocks","thing"] (aj kf):=fL
theorem rg (F:fM K mg "is_event" kf ["clocks","thing"])(aa1:Cl P w K mg base 2 "is_within" 3 aN)(aa2:Cl P w K mg base 1 "is_long" 3 aI)(B:Bl mg):Cl P w K mg base 3 "is_event" 2 cN:=
 bf F qR rfl λf c A o s H E hr x=>(ao (b9 (jc (jO (c6 (bJ (aP aa2 hr (ah (af 1) (ah ak (ah ak ag)))))) (i9 (c6 (bJ (aP aa1 hr (ah (aD (af 1) ak) (ah ak (ah (au gw (cH cj B.b_len JZ (ah (af 0) ag)) ak) ag))))))))) (ar (ax fw)) bu) (ar (ax (aP aa1 hr (ah (aD (af 1) ak) (ah ak (ah (au gw (cH cj B.b_len JZ (ah (aD (aD (af 0) (aD (af 1) ak)) ak) ag)) ak) ag)))))))
abbrev kg:Stmt:=top 20
abbrev rz:List Str:=["least","most"]
theorem qS:ay rz ["least","most"] (aj kg):=fL
theorem rh (F:fM K mg "is_delay" kg ["least","most"])(aa1:Cl P w K mg base 2 "is_within" 3 aN)(C:Cs mg):Cl P w K mg base 3 "is_delay" 2 da:=
 bf F qS rfl λf c A o s H E hr x=>(ar (ax (dq (aP aa1 hr (ah (af 0) (ah ak (ah (qA C.LONGEST) ag)))) (dI (BV (d6 q0 (af 1) dJ) (dI (aP aa1 hr (ah (af 1) (ah (af 0) (ah (qA C.LONGEST) ag))))))))))
abbrev jt:Stmt:=top 21
abbrev pV:List Str:=["clocks","thing"]
theorem oY:ay pV ["clocks","thing"] (aj jt):=fL
theorem pI (F:fM K mg "is_letter" jt ["clocks","thing"])(aay:Cl P w K mg base 3 "is_event" 2 cN)(aa2:Cl P w K mg base 1 "is_long" 3 aI)(aaJ:Cl P w K mg base 3 "is_delay" 2 da):Cl P w K mg base 4 "is_letter" 2 bx:=
 bf F oY rfl λf c A o s H E hr x=>(ao (b9 (jc (jO (c6 (bJ (aP aa2 hr (ah (af 1) (ah ak (ah ak ag)))))) (i9 (c6 (bJ (aP aaJ hr (ah (aD (af 1) ak) (ah (aD (af 1) ak) ag)))))))) (ar (ax fw)) bu) (ar (ax (dq (aP aay hr (ah (af 0) (ah (aD (af 1) ak) ag))) (dq (aP aay hr (ah (af 0) (ah (aD (af 1) ak) ag))) (dI (d6 (iy (ip hr)) (aD (af 1) ak) (aD (af 1) ak))))))))
abbrev eK:Stmt:=top 22
abbrev gz:List Str:=["clocks","thing"]
theorem lE:ay gz ["clocks","thing"] (aj eK):=fL
theorem lQ (F:fM K mg "are_letters" eK ["clocks","thing"])(aa2:Cl P w K mg base 1 "is_long" 3 aI)(aaE:Cl P w K mg base 4 "is_letter" 2 bx)(B:Bl mg)(C:Cs mg):Cl P w K mg base 5 "are_letters" 2 cC:=
 bf F lE rfl λf c A o s H E hr x=>(ar (ax (dq (aP aa2 hr (ah (af 1) (ah ak (ah (qA C.MOST_LETTERS) ag)))) (dI (cH (qk rfl) B.b_all boot_all (ah (eI (N':=["part","clocks"]) (src:=[none,some 0]) rfl (LcScope.by (N:=gz) (names:=(aj eK).names) rfl rfl rfl (by decide+kernel)) (cG (af 1)) (λ_ _ _ _ _=>⟨(aq 0 (show IZ (["part","clocks"]:List Str)by decide+kernel)),bK,(aP aaE hr (ah (af 1) (ah (af 0) ag)))⟩)) ag))))))
abbrev jr:Stmt:=top 23
abbrev pU:List Str:=["thing"]
theorem oX:ay pU ["thing"] (aj jr):=fL
theorem pH (F:fM K mg "is_record" jr ["thing"])(aa2:Cl P w K mg base 1 "is_long" 3 aI)(aaB:Cl P w K mg base 5 "are_clocks" 1 cT)(aau:Cl P w K mg base 5 "are_letters" 2 cC):Cl P w K mg base 6 "is_record" 1 cM:=
 bf F oX rfl λf c A o s H E hr x=>(ar (ax (dq (aP aa2 hr (ah (af 0) (ah ak (ah ak ag)))) (dq (aP aaB hr (ah (aD (af 0) ak) ag)) (dI (aP aau hr (ah (aD (af 0) ak) (ah (aD (af 0) ak) ag))))))))
abbrev gj:Stmt:=top 24
abbrev l4:List Str:=["thing"]
theorem lC:ay l4 ["thing"] (aj gj):=fL
theorem lO (F:fM K mg "need_record" gj ["thing"])(aaF:Cl P w K mg base 6 "is_record" 1 cM){C_NoRecord C_NoNumber C_ClockError:Addr}(S:Xs K mg C_NoRecord C_NoNumber C_ClockError):Cl P w K mg base 7 "need_record" 1 a8:=
 bf F lC rfl λf c A o s H E hr x=>(ar (b9 (c6 (bJ (aP aaF hr (ah (af 0) ag)))) (ar (nA S.o_NoRecord S.m_NoRecord)) bu))
abbrev iM:Stmt:=top 43
abbrev l0:List Str:=["numbers","told","number"]
theorem aaz:ay l0 ["numbers"] (aj iM):=fL
theorem sX (F:fM K mg "sets_of" iM ["numbers"]):Cl P w K mg base 1 "sets_of" 1 hU:=
 bf F aaz rfl λf c A o s H E hr x=>(by(apply ao;exact(aG (dm (ah (dm ag) ag)) (aq 1 aaz.nd));apply ao;exact(dk rfl (cG (af 0)) (aq 2 aaz.nd) (ar (aG (au aM (af 1) (eI (N':=["part","number"]) (src:=[none,some 2]) rfl (LcScope.by (N:=l0) (names:=(aj iM).names) rfl rfl rfl (by decide+kernel)) (cG (af 1)) (λ_ _ _ _ _=>⟨(aq 0 (show IZ (["part","number"]:List Str)by decide+kernel)),bK,(au aM (af 0) (dm (ah (af 1) ag)))⟩))) (aq 1 aaz.nd))));exact ar (ax (af 1))))
abbrev jR:Stmt:=top 26
abbrev nQ:List Str:=["record","told","number","clock"]
theorem aaC:ay nQ ["record"] (aj jR):=fL
theorem vF (F:fM K mg "events" jR ["record"])(aa4:Cl P w K mg base 7 "need_record" 1 a8)(B:Bl mg):Cl P w K mg base 8 "events" 1 eQ:=
 bf F aaC rfl λf c A o s H E hr x=>(by(apply ao;exact(gh (aP aa4 hr (ah (af 0) ag)));apply ao;exact(jd 1 aaC.nd ag);apply ao;exact(dk rfl (jh B.b_enumerate (ah (aD (af 0) ak) ag)) (kM rfl (df (aq 2 aaC.nd) (df (aq 3 aaC.nd) ji))) (ar (oG 1 (eI (N':=["k","number"]) (src:=[none,some 2]) rfl (LcScope.by (N:=nQ) (names:=(aj jR).names) rfl rfl rfl (by decide+kernel)) (bQ B.b_range (ah (cH cj B.b_len JZ (ah (aD (af 3) ak) ag)) ag)) (λ_ _ _ _ _=>⟨(aq 0 (show IZ (["k","number"]:List Str)by decide+kernel)),bK,(bB (ah (af 1) (ah (af 0) ag)))⟩)))));exact ar (je 1 (ax (af 1)))))
abbrev ju:Stmt:=top 33
abbrev pW:List Str:=["best","bound","ahead","known"]
theorem aaM:ay pW ["best","bound","ahead"] (aj ju):=fL
theorem pJ (F:fM K mg "is_better" ju ["best","bound","ahead"]):Cl P w K mg base 1 "is_better" 3 cP:=
 bf F aaM rfl λf c A o s H E hr x=>(ao (aG (tY (GB hr) (af 0) (aD (af 1) ak)) (aq 3 aaM.nd)) (ar (ax (BV (d6 q0 (af 3) dJ) (dI (d6 xU (au aM (aD (af 2) ak) (aD (af 1) ak)) (aD (af 3) ak)))))))
abbrev gR:Stmt:=top 32
abbrev jX:List Str:=["limits","starts","best","moved","number","bound","ahead","walk","passed"]
theorem aa6:ay jX ["limits","starts"] (aj gR):=fL
theorem vE (F:fM K mg "settle" gR ["limits","starts"])(aaG:Cl P w K mg base 1 "is_better" 3 cP)(B:Bl mg):Cl P w K mg base 2 "settle" 2 dU:=
 bf F aa6 rfl λf c A o s H E hr x=>(by(apply ao;exact(wz 2 (hu8 hr) rfl B.b_dict aa6.nd (eI (N':=["event"]) (src:=[none]) rfl (LcScope.by (N:=jX) (names:=(aj gR).names) rfl rfl rfl (by decide+kernel)) (cG (af 1)) (λ_ _ _ _ _=>⟨(aq 0 (show IZ (["event"]:List Str)by decide+kernel)),bK,(bB (ah (af 0) (ah (bB (ah ak (ah (dm ag) ag))) ag)))⟩)));apply ao;exact(aG fw (aq 3 aa6.nd));apply ao;exact(ny FU (bJ (af 3)) (ao (aG fw (aq 3 aa6.nd)) (ar (dk rfl (jh B.b_enumerate (ah (af 0) ag)) (kM rfl (df (aq 4 aa6.nd) (df (aq 5 aa6.nd) ji))) (by(apply ao;exact(aG (EF 2 (tY (GB hr) (af 2) (aD (af 5) ak))) (aq 6 aa6.nd));apply ao;exact(b9 (jc (jO (br q0 (af 6) dJ) (i9 (c6 (Ck 2 (bJ (aP aaG hr (ah (af 2) (ah (af 5) (ah (af 6) ag)))))))))) (ar Cm) bu);apply ao;exact(aG (au aM (aD (af 6) ak) (dm (ah (af 4) ag))) (aq 7 aa6.nd));apply ao;exact(wA 8 (N':=["step","limits"]) (src:=[none,some 0]) rfl (LcScope.by (N:=jX) (names:=(aj gR).names) rfl rfl rfl (by decide+kernel)) (cG (af 7)) (λ_ _ _ _ _=>⟨(aq 0 (show IZ (["step","limits"]:List Str)by decide+kernel)),bK,(aD (aD (af 1) (af 0)) ak)⟩) aa6.nd);apply ao;exact(b9 (br (B6 (yX hr)) (aD (af 5) ak) (af 8)) (ar (ax (bB (ah dJ (ah (jj (af 7) (jf (vj (yX hr) (af 8) (aD (af 5) ak))) jg) ag))))) bu);apply ao;exact(z7 2 (GB hr) (aD (af 5) ak) (bB (ah (au aM (aD (af 6) ak) (aD (af 5) ak)) (ah (af 7) ag))));exact ar (aG fw (aq 3 aa6.nd))))))));exact ar (je 2 (ax (bB (ah (af 2) (ah dJ ag)))))))
abbrev du:Stmt:=top 35
abbrev eY:List Str:=["record","limits","places","best"]
theorem aaf:ay eY ["record","limits"] (aj du):=fL
theorem jA (F:fM K mg "greatest_world" du ["record","limits"])(aam:Cl P w K mg base 8 "events" 1 eQ)(aan:Cl P w K mg base 2 "settle" 2 dU)(B:Bl mg):Cl P w K mg base 9 "greatest_world" 2 cS:=
 bf F aaf rfl λf c A o s H E hr x=>(by(apply ao;exact(aG (aP aam hr (ah (af 0) ag)) (aq 2 aaf.nd));apply ao;exact(aG (aD (aP aan hr (ah (af 1) (ah (af 2) ag))) ak) (aq 3 aaf.nd));apply ao;exact(b9 (br q0 (af 3) dJ) (ar (ax dJ)) bu);exact ar (ax (k9 fJ B.b_tuple bV (ah (eI (N':=["event","best"]) (src:=[none,some 3]) rfl (LcScope.by (N:=eY) (names:=(aj du).names) rfl rfl rfl (by decide+kernel)) (cG (af 2)) (λ_ _ _ _ _=>⟨(aq 0 (show IZ (["event","best"]:List Str)by decide+kernel)),bK,(aD (Co (GB hr) (af 1) (af 0)) ak)⟩)) ag)))))
abbrev eJ:Stmt:=top 28
abbrev iV:List Str:=["number","clock","readings","told","k","first","second","steps"]
theorem aa5:ay iV ["number","clock"] (aj eJ):=fL
theorem iQ (F:fM K mg "bounds_of_clock" eJ ["number","clock"])(B:Bl mg):Cl P w K mg base 1 "bounds_of_clock" 2 bM:=
 bf F aa5 rfl λf c A o s H E hr x=>(by(apply ao;exact(aG (aD (af 1) ak) (aq 2 aa5.nd));apply ao;exact(jd 3 aa5.nd ag);apply ao;exact(dk rfl (bQ B.b_range (ah (au gw (cH cj B.b_len JZ (ah (af 2) ag)) ak) ag)) (aq 4 aa5.nd) (by(apply ao;exact(aG (bB (ah (af 0) (ah (af 4) ag))) (aq 5 aa5.nd));apply ao;exact(aG (bB (ah (af 0) (ah (au aM (af 4) ak) ag))) (aq 6 aa5.nd));apply ao;exact(aG (au gw (aD (af 2) (au aM (af 4) ak)) (aD (af 2) (af 4))) (aq 7 aa5.nd));apply ao;exact(oH 3 (bB (ah (af 5) (ah (af 6) (ah (au dw (af 7) (aD (af 1) ak)) ag)))));exact ar (oH 3 (bB (ah (af 6) (ah (af 5) (ah (au dw (oI (af 7)) (aD (af 1) ak)) ag))))))));exact ar (je 3 (ax (af 3)))))
abbrev ej:Stmt:=top 29
abbrev ik:List Str:=["letter","told"]
theorem aak:ay ik ["letter"] (aj ej):=fL
theorem ij (F:fM K mg "bounds_of_letter" ej ["letter"]):Cl P w K mg base 1 "bounds_of_letter" 1 bA:=
 bf F aak rfl λf c A o s H E hr x=>(by(apply ao;exact(jd 1 aak.nd (ah (bB (ah (aD (af 0) ak) (ah (aD (af 0) ak) (ah (oI (aD (af 0) ak)) ag)))) ag));apply ao;exact(b9 (br lM (aD (af 0) ak) dJ) (ar (oH 1 (bB (ah (aD (af 0) ak) (ah (aD (af 0) ak) (ah (aD (af 0) ak) ag)))))) bu);exact ar (je 1 (ax (af 1)))))
abbrev nE:Stmt:=top 30
abbrev vI:List Str:=["record","told","number","clock","letter"]
theorem aaq:ay vI ["record"] (aj nE):=fL
theorem vG (F:fM K mg "bounds" nE ["record"])(aa4:Cl P w K mg base 7 "need_record" 1 a8)(aag:Cl P w K mg base 1 "bounds_of_clock" 2 bM)(aad:Cl P w K mg base 1 "bounds_of_letter" 1 bA)(B:Bl mg):Cl P w K mg base 8 "bounds" 1 eR:=
 bf F aaq rfl λf c A o s H E hr x=>(by(apply ao;exact(gh (aP aa4 hr (ah (af 0) ag)));apply ao;exact(jd 1 aaq.nd ag);apply ao;exact(dk rfl (jh B.b_enumerate (ah (aD (af 0) ak) ag)) (kM rfl (df (aq 2 aaq.nd) (df (aq 3 aaq.nd) ji))) (ar (oG 1 (aP aag hr (ah (af 2) (ah (af 3) ag))))));apply ao;exact(dk rfl (cG (aD (af 0) ak)) (aq 4 aaq.nd) (ar (oG 1 (aP aad hr (ah (af 4) ag)))));exact ar (je 1 (ax (af 1)))))
abbrev qF:Stmt:=top 36
abbrev x8:List Str:=["record"]
theorem wX:ay x8 ["record"] (aj qF):=fL
theorem xW (F:fM K mg "world" qF ["record"])(aah:Cl P w K mg base 9 "greatest_world" 2 cS)(aao:Cl P w K mg base 8 "bounds" 1 eR):Cl P w K mg base 10 "world" 1 g8:=
 bf F wX rfl λf c A o s H E hr x=>(ar (ax (aP aah hr (ah (af 0) (ah (aP aao hr (ah (af 0) ag)) ag)))))
abbrev jv:Stmt:=top 37
abbrev pX:List Str:=["record"]
theorem oZ:ay pX ["record"] (aj jv):=fL
theorem pK (F:fM K mg "has_world" jv ["record"])(aaS:Cl P w K mg base 10 "world" 1 g8):Cl P w K mg base 11 "has_world" 1 aH:=
 bf F oZ rfl λf c A o s H E hr x=>(ar (ax (d6 lM (aP aaS hr (ah (af 0) ag)) dJ)))
abbrev gp:Stmt:=top 40
abbrev l6:List Str:=["record"]
theorem lF:ay l6 ["record"] (aj gp):=fL
theorem lS (F:fM K mg "all_letters" gp ["record"])(B:Bl mg):Cl P w K mg base 1 "all_letters" 1 cD:=
 bf F lF rfl λf c A o s H E hr x=>(ar (ax (jP rfl B.b_list B.b_range (ah (cH cj B.b_len JZ (ah (aD (af 0) ak) ag)) ag))))
abbrev fO:Stmt:=top 41
abbrev jC:List Str:=["record","numbers"]
theorem oU:ay jC ["record","numbers"] (aj fO):=fL
theorem pE (F:fM K mg "with_only" fO ["record","numbers"])(B:Bl mg):Cl P w K mg base 1 "with_only" 2 cp:=
 bf F oU rfl λf c A o s H E hr x=>(ar (ax (bB (ah (aD (af 0) ak) (ah (k9 fJ B.b_tuple bV (ah (eI (N':=["number","record"]) (src:=[none,some 0]) rfl (LcScope.by (N:=jC) (names:=(aj fO).names) rfl rfl rfl (by decide+kernel)) (cG (af 1)) (λ_ _ _ _ _=>⟨(aq 0 (show IZ (["number","record"]:List Str)by decide+kernel)),bK,(aD (aD (af 1) ak) (af 0))⟩)) ag)) ag)))))
abbrev jo:Stmt:=top 44
abbrev pQ:List Str:=["record","sets","place"]
theorem aaj:ay pQ ["record"] (aj jo):=fL
theorem pF (F:fM K mg "most_kept" jo ["record"])(aa4:Cl P w K mg base 7 "need_record" 1 a8)(aaN:Cl P w K mg base 1 "sets_of" 1 hU)(aa3:Cl P w K mg base 11 "has_world" 1 aH)(aa9:Cl P w K mg base 1 "all_letters" 1 cD)(aac:Cl P w K mg base 1 "with_only" 2 cp)(B:Bl mg)(LX:Ey K mg base):Cl P w K mg base 12 "most_kept" 1 dh:=
 Er F aaj rfl λf c hx A o s H E hr x=>(by(apply ao;exact(gh (aP aa4 hr (ah (af 0) ag)));apply ao;exact(aG (z9 LX hx hr B.b_sorted B.b_len (ah (aP aaN hr (ah (aP aa9 hr (ah (af 0) ag)) ag)) ag)) (aq 1 aaj.nd));apply ao;exact(aG ak (aq 2 aaj.nd));apply ao;exact(ny FU (c6 (bJ (aP aa3 hr (ah (aP aac hr (ah (af 0) (ah (aD (af 1) (af 2)) ag))) ag)))) (ar (z8 2 aaj.nd ak)));exact ar (ax (aD (af 1) (af 2)))))
abbrev iK:Stmt:=top 42
abbrev lZ:List Str:=["numbers","number"]
theorem sM:ay lZ ["numbers","number"] (aj iK):=fL
theorem sW (F:fM K mg "without" iK ["numbers","number"]):Cl P w K mg base 1 "without" 2 g9:=
 bf F sM rfl λf c A o s H E hr x=>(ar (ax (eI (N':=["other","number"]) (src:=[none,some 1]) rfl (LcScope.by (N:=lZ) (names:=(aj iK).names) rfl rfl rfl (by decide+kernel)) (cG (af 0)) (λ_ _ _ _ _=>⟨(aq 0 (show IZ (["other","number"]:List Str)by decide+kernel)),(k8 (br (iy (ip hr)) (af 0) (af 1))),(af 0)⟩))))
abbrev gn:Stmt:=top 45
abbrev kl:List Str:=["record","numbers"]
theorem aaQ:ay kl ["record"] (aj gn):=fL
theorem rj (F:fM K mg "culprits" gn ["record"])(aa3:Cl P w K mg base 11 "has_world" 1 aH)(aa9:Cl P w K mg base 1 "all_letters" 1 cD)(aac:Cl P w K mg base 1 "with_only" 2 cp)(aaO:Cl P w K mg base 1 "without" 2 g9):Cl P w K mg base 12 "culprits" 1 fS:=
 bf F aaQ rfl λf c A o s H E hr x=>(by(apply ao;exact(b9 (bJ (aP aa3 hr (ah (af 0) ag))) (ar (ax (dm ag))) bu);apply ao;exact(aG (aP aa9 hr (ah (af 0) ag)) (aq 1 aaQ.nd));exact ar (ax (eI (N':=["number","record","numbers"]) (src:=[none,some 0,some 1]) rfl (LcScope.by (N:=kl) (names:=(aj gn).names) rfl rfl rfl (by decide+kernel)) (cG (af 1)) (λ_ _ _ _ _=>⟨(aq 0 (show IZ (["number","record","numbers"]:List Str)by decide+kernel)),(k8 (bJ (aP aa3 hr (ah (aP aac hr (ah (af 1) (ah (aP aaO hr (ah (af 2) (ah (af 0) ag))) ag))) ag)))),(af 0)⟩)))))
abbrev gm:Stmt:=top 25
abbrev l5:List Str:=["many","thing"]
theorem lD:ay l5 ["many","thing"] (aj gm):=fL
theorem lP (F:fM K mg "need_number" gm ["many","thing"])(aa1:Cl P w K mg base 2 "is_within" 3 aN){C_NoRecord C_NoNumber C_ClockError:Addr}(S:Xs K mg C_NoRecord C_NoNumber C_ClockError):Cl P w K mg base 3 "need_number" 2 dP:=
 bf F lD rfl λf c A o s H E hr x=>(ar (b9 (c6 (bJ (aP aa1 hr (ah (af 1) (ah ak (ah (au gw (af 0) ak) ag)))))) (ar (nA S.o_NoNumber S.m_NoNumber)) bu))
abbrev eX:Stmt:=top 47
abbrev jB:List Str:=["record","number","letters"]
theorem aax:ay jB ["record","number"] (aj eX):=fL
theorem jz (F:fM K mg "without_letter" eX ["record","number"])(aa4:Cl P w K mg base 7 "need_record" 1 a8)(aav:Cl P w K mg base 3 "need_number" 2 dP)(B:Bl mg):Cl P w K mg base 8 "without_letter" 2 cf:=
 bf F aax rfl λf c A o s H E hr x=>(by(apply ao;exact(gh (aP aa4 hr (ah (af 0) ag)));apply ao;exact(aG (aD (af 0) ak) (aq 2 aax.nd));apply ao;exact(gh (aP aav hr (ah (cH cj B.b_len JZ (ah (af 2) ag)) (ah (af 1) ag))));exact ar (ax (bB (ah (aD (af 0) ak) (ah (au aM (jj (af 2) jg (jf (af 1))) (jj (af 2) (jf (au aM (af 1) ak)) jg)) ag))))))
abbrev lx:Stmt:=top 38
abbrev tD:List Str:=["record"]
theorem sQ:ay tD ["record"] (aj lx):=fL
theorem tj (F:fM K mg "barring" lx ["record"])(aan:Cl P w K mg base 2 "settle" 2 dU)(aao:Cl P w K mg base 8 "bounds" 1 eR)(aam:Cl P w K mg base 8 "events" 1 eQ):Cl P w K mg base 9 "barring" 1 fH:=
 bf F sQ rfl λf c A o s H E hr x=>(ar (ax (aD (aP aan hr (ah (aP aao hr (ah (af 0) ag)) (ah (aP aam hr (ah (af 0) ag)) ag))) ak)))
abbrev lp:Stmt:=top 55
abbrev pR:List Str:=["_law_script","_law_record_here","_law_many","_law_numbers","_law_some","_law_number","_law_more","_law_told","_law_less","_law_left"]
theorem aae:ay pR ["_law_script"] (aj lp):=fL
theorem DB {f:Addr}{fd:JN}(aaT:Fn K mg "law" lp ["_law_script"] f fd)(aaw:Cl P w K mg base 4 "_law_record" 3 dQ)(aap:Cl P w K mg base 12 "most_kept" 1 dh)(aaK:Cl P w K mg base 12 "culprits" 1 fS)(aa3:Cl P w K mg base 11 "has_world" 1 aH)(aai:Cl P w K mg base 8 "without_letter" 2 cf)(aaP:Cl P w K mg base 9 "barring" 1 fH)(B:Bl mg):Ez P w K mg base 13 f fd ["_law_script"] 1 m_law:=
 oJ aaT.fn aae rfl λc _ A o s H E hr x=>(by(apply ao;exact(aG (aP aaw hr (ah (af 0) (ah ak (ah ak ag)))) (aq 1 aae.nd));apply ao;exact(aG (cH cj B.b_len JZ (ah (aD (af 1) ak) ag)) (aq 2 aae.nd));apply ao;exact(aG (aP aap hr (ah (af 1) ag)) (aq 3 aae.nd));apply ao;exact(aG (bB (ah (aD (af 1) ak) (ah (k9 fJ B.b_tuple bV (ah (eI (N':=["_law_number","_law_record_here"]) (src:=[none,some 1]) rfl (LcScope.by (N:=pR) (names:=(aj lp).names) rfl rfl rfl (by decide+kernel)) (cG (af 3)) (λ_ _ _ _ _=>⟨(aq 0 (show IZ (["_law_number","_law_record_here"]:List Str)by decide+kernel)),bK,(aD (aD (af 1) ak) (af 0))⟩)) ag)) ag))) (aq 4 aae.nd));apply ao;exact(b9 (jc (jO (br (iy (ip hr)) (af 3) (tX rfl B.b_sorted B.b_set (ah (af 3) ag))) (jO (c6 (bJ (aP aa3 hr (ah (af 4) ag)))) (i9 (br (iy (ip hr)) (aP aap hr (ah (af 4) ag)) (jP rfl B.b_list B.b_range (ah (cH cj B.b_len JZ (ah (af 3) ag)) ag))))))) (ar (ax fw)) bu);apply ao;exact(b9 (br (iy (ip hr)) (aP aa3 hr (ah (af 1) ag)) (d6 (nN (ip hr)) (af 3) (jP rfl B.b_list B.b_range (ah (af 2) ag)))) (ar (ax fw)) bu);apply ao;exact(dk rfl (bQ B.b_range (ah (af 2) ag)) (aq 5 aae.nd) (ar (b9 (br (qZ (yX hr)) (af 5) (af 3)) (ao (aG (cH zK B.b_sorted boot_sorted (ah (au aM (af 3) (dm (ah (af 5) ag))) ag)) (aq 6 aae.nd)) (ar (b9 (bJ (aP aa3 hr (ah (bB (ah (aD (af 1) ak) (ah (k9 fJ B.b_tuple bV (ah (eI (N':=["_law_one","_law_record_here"]) (src:=[none,some 1]) rfl (LcScope.by (N:=pR) (names:=(aj lp).names) rfl rfl rfl (by decide+kernel)) (cG (af 6)) (λ_ _ _ _ _=>⟨(aq 0 (show IZ (["_law_one","_law_record_here"]:List Str)by decide+kernel)),bK,(aD (aD (af 1) ak) (af 0))⟩)) ag)) ag))) ag))) (ar (ax fw)) bu))) bu)));apply ao;exact(aG (aP aaK hr (ah (af 1) ag)) (aq 7 aae.nd));apply ao;exact(b9 (jc (jO (jc (jb (bJ (aP aa3 hr (ah (af 1) ag))) (ja (br (iy (ip hr)) (af 7) (dm ag))))) (i9 (br (iy (ip hr)) (af 7) (tX rfl B.b_sorted B.b_set (ah (af 7) ag)))))) (ar (ax fw)) bu);apply ao;exact(dk rfl (bQ B.b_range (ah (af 2) ag)) (aq 5 aae.nd) (ao (aG (aP aai hr (ah (af 1) (ah (af 5) ag))) (aq 8 aae.nd)) (ar (b9 (jc (jb (c6 (bJ (aP aa3 hr (ah (af 1) ag)))) (ja (br (iy (ip hr)) (d6 (B6 (yX hr)) (af 5) (af 7)) (aP aa3 hr (ah (af 8) ag)))))) (ar (ax fw)) bu))));apply ao;exact(wA 9 (N':=["_law_one","_law_numbers"]) (src:=[none,some 3]) rfl (LcScope.by (N:=pR) (names:=(aj lp).names) rfl rfl rfl (by decide+kernel)) (bQ B.b_range (ah (af 2) ag)) (λ_ _ _ _ _=>⟨(aq 0 (show IZ (["_law_one","_law_numbers"]:List Str)by decide+kernel)),(k8 (br (qZ (yX hr)) (af 0) (af 1))),(af 0)⟩) aae.nd);apply ao;exact(b9 (jc (jb (br (iy (ip hr)) (af 7) (dm ag)) (ja (br (iy (ip hr)) (af 9) (jj (af 7) (jf (oI ak)) jg))))) (ar (ax fw)) bu);apply ao;exact(b9 (jc (jb (br (nN (ip hr)) (af 7) (dm ag)) (jb (c6 (bJ (aP aa3 hr (ah (af 1) ag)))) (ja (br Fz (cH cj B.b_len JZ (ah (af 3) ag)) (au gw (af 2) ak)))))) (ar (ax fw)) bu);exact ar (ax (d6 (nN (ip hr)) (d6 q0 (aP aaP hr (ah (af 1) ag)) dJ) (d6 (nN (ip hr)) (cH cj B.b_len JZ (ah (af 3) ag)) (af 2))))))
end
@[elab_as_elim] theorem dF {α:Type} {p:List α->Prop} (h:∀a0,p [a0]):∀us:List α,us.length=1->p us
 | [a0],_=>h a0
@[elab_as_elim] theorem ff {α:Type} {p:List α->Prop} (h:∀a0 a1,p [a0,a1]):∀us:List α,us.length=2->p us
 | [a0,a1],_=>h a0 a1
@[elab_as_elim] theorem nV {α:Type} {p:List α->Prop} (h:∀a0 a1 a2,p [a0,a1,a2]):∀us:List α,us.length=3->p us
 | [a0,a1,a2],_=>h a0 a1 a2
def asks:qy:=⟨([("_law_cell",49),("_law_drawn",50),("_law_events",53),("_law_letter",52),("_law_clock",51),("_law_record",54),("is_long",13),("is_whole",11),("is_within",12),("is_pace",16),("rises",14),("are_readings",15),("is_clock",17),("are_clocks",18),("is_event",19)]:List (Str×Nat))++([("is_delay",20),("is_letter",21),("are_letters",22),("is_record",23),("need_record",24),("sets_of",43),("events",26),("is_better",33),("settle",32),("greatest_world",35),("bounds_of_clock",28),("bounds_of_letter",29),("bounds",30),("world",36),("has_world",37)]:List (Str×Nat))++([("all_letters",40),("with_only",41),("most_kept",44),("without",42),("culprits",45),("need_number",25),("without_letter",47),("barring",38),("law",55)]:List (Str×Nat)),(["all","bool","dict","enumerate","int","isinstance","len","list","range","set","sorted","tuple"]:List Str),[("MOST_CLOCKS",4),("MOST_LETTERS",8),("MOST_READINGS",4),("LAST_READING",99),("SLOWEST",9),("LONGEST",999)],["ClockError","NoRecord","NoNumber"]⟩
theorem all_ok {l:PySem.W.OpenLaw}{w:IP}{K:Hy}{h:Heap}{mg:Str->Option HA}{fa:Addr}(X:K.In h)(e:nc asks K=lb asks top)(Lm:∃f c P,LmK K f c P)(bm:Eu K=true)(G:h.Ns Ie mg)(hfa:mg "law" =some (.ref fa)) :
  ∃fd:JN,(∀(s:HB) (v:HA),OY s fd ⟨[v],[]⟩ [("_law_script",v)])/\∀base:Heap,K.In base->base.Ns Ie mg->qw l.prog w K mg base CX0 13 fa fd ["_law_script"] (spP K 1 m_law):=by
 have B:Bl mg:=⟨eh 0 X G e rfl,eh 1 X G e rfl,eh 2 X G e rfl,eh 3 X G e rfl,eh 4 X G e rfl,eh 5 X G e rfl,eh 6 X G e rfl,eh 7 X G e rfl,eh 8 X G e rfl,eh 9 X G e rfl,eh 10 X G e rfl,eh 11 X G e rfl⟩
 have C:Cs mg:=⟨nZ 0 X G e rfl,nZ 1 X G e rfl,nZ 2 X G e rfl,nZ 3 X G e rfl,nZ 4 X G e rfl,nZ 5 X G e rfl⟩;obtain⟨C_ClockError,ls,xD,xl,nd⟩:=DC (FW e);obtain⟨C_NoRecord,ls0,x_NoRecord,rfl,xl0⟩:=oy xl;obtain⟨C_NoNumber,ls1,x_NoNumber,rfl,xl1⟩:=oy xl0;cases zP xl1
 have S:Xs K mg C_NoRecord C_NoNumber C_ClockError:=⟨Od X G (jT x_NoRecord).1,Od X G (jT x_NoNumber).1,Od X G (jT xD).1,ox1 x_NoRecord xD,ox1 x_NoNumber xD,ox0 xD,nd⟩;obtain⟨fd38,aaT,bnd⟩:=FQ (n:="law") (i:=55) (x:="_law_script") 38 X G e rfl hfa λ_ _ _ _ _ _ _=>rfl
 refine⟨fd38,bnd,λbase Xb _=> ?_⟩
 have LX:=Bk Lm bm X G Xb
 have aaD:=pL l.prog w base (cz 0 X G e rfl λ_ _ _ _ _ _ us hl=>ff (λ_ _=>rfl) us hl) B
 have aa0:=m8 l.prog w base (cz 1 X G e rfl λ_ _ _ _ _ _ us hl=>nV (λ_ _ _=>rfl) us hl) aaD
 have aas:=lV l.prog w base (cz 2 X G e rfl λ_ _ _ _ _ _ us hl=>dF (λ_=>rfl) us hl) B
 have aat:=lU l.prog w base (cz 3 X G e rfl λ_ _ _ _ _ _ us hl=>nV (λ_ _ _=>rfl) us hl) aas aa0 B
 have aaA:=m9 l.prog w base (cz 4 X G e rfl λ_ _ _ _ _ _ us hl=>ff (λ_ _=>rfl) us hl) aa0 B
 have aaw:=lT l.prog w base (cz 5 X G e rfl λ_ _ _ _ _ _ us hl=>nV (λ_ _ _=>rfl) us hl) aa0 aat aaA B
 have aa2:=sZ l.prog w base (cz 6 X G e rfl λ_ _ _ _ _ _ us hl=>nV (λ_ _ _=>rfl) us hl) B
 have aaH:=rf l.prog w base (cz 7 X G e rfl λ_ _ _ _ _ _ us hl=>dF (λ_=>rfl) us hl) B
 have aa1:=pG l.prog w base (cz 8 X G e rfl λ_ _ _ _ _ _ us hl=>nV (λ_ _ _=>rfl) us hl) aaH
 have aaL:=sY l.prog w base (cz 9 X G e rfl λ_ _ _ _ _ _ us hl=>ff (λ_ _=>rfl) us hl) aa1 C
 have aaR:=xY l.prog w base (cz 10 X G e rfl λ_ _ _ _ _ _ us hl=>dF (λ_=>rfl) us hl) B
 have aal:=kD l.prog w base (cz 11 X G e rfl λ_ _ _ _ _ _ us hl=>dF (λ_=>rfl) us hl) aa2 aaR aa1 B C
 have aaI:=ri l.prog w base (cz 12 X G e rfl λ_ _ _ _ _ _ us hl=>dF (λ_=>rfl) us hl) aa2 aaL aal
 have aaB:=m7 l.prog w base (cz 13 X G e rfl λ_ _ _ _ _ _ us hl=>dF (λ_=>rfl) us hl) aa2 aaI B C
 have aay:=rg l.prog w base (cz 14 X G e rfl λ_ _ _ _ _ _ us hl=>ff (λ_ _=>rfl) us hl) aa1 aa2 B
 have aaJ:=rh l.prog w base (cz 15 X G e rfl λ_ _ _ _ _ _ us hl=>ff (λ_ _=>rfl) us hl) aa1 C
 have aaE:=pI l.prog w base (cz 16 X G e rfl λ_ _ _ _ _ _ us hl=>ff (λ_ _=>rfl) us hl) aay aa2 aaJ
 have aau:=lQ l.prog w base (cz 17 X G e rfl λ_ _ _ _ _ _ us hl=>ff (λ_ _=>rfl) us hl) aa2 aaE B C
 have aaF:=pH l.prog w base (cz 18 X G e rfl λ_ _ _ _ _ _ us hl=>dF (λ_=>rfl) us hl) aa2 aaB aau
 have aa4:=lO l.prog w base (cz 19 X G e rfl λ_ _ _ _ _ _ us hl=>dF (λ_=>rfl) us hl) aaF S
 have aaN:=sX l.prog w base (cz 20 X G e rfl λ_ _ _ _ _ _ us hl=>dF (λ_=>rfl) us hl)
 have aam:=vF l.prog w base (cz 21 X G e rfl λ_ _ _ _ _ _ us hl=>dF (λ_=>rfl) us hl) aa4 B
 have aaG:=pJ l.prog w base (cz 22 X G e rfl λ_ _ _ _ _ _ us hl=>nV (λ_ _ _=>rfl) us hl)
 have aan:=vE l.prog w base (cz 23 X G e rfl λ_ _ _ _ _ _ us hl=>ff (λ_ _=>rfl) us hl) aaG B
 have aah:=jA l.prog w base (cz 24 X G e rfl λ_ _ _ _ _ _ us hl=>ff (λ_ _=>rfl) us hl) aam aan B
 have aag:=iQ l.prog w base (cz 25 X G e rfl λ_ _ _ _ _ _ us hl=>ff (λ_ _=>rfl) us hl) B
 have aad:=ij l.prog w base (cz 26 X G e rfl λ_ _ _ _ _ _ us hl=>dF (λ_=>rfl) us hl)
 have aao:=vG l.prog w base (cz 27 X G e rfl λ_ _ _ _ _ _ us hl=>dF (λ_=>rfl) us hl) aa4 aag aad B
 have aaS:=xW l.prog w base (cz 28 X G e rfl λ_ _ _ _ _ _ us hl=>dF (λ_=>rfl) us hl) aah aao
 have aa3:=pK l.prog w base (cz 29 X G e rfl λ_ _ _ _ _ _ us hl=>dF (λ_=>rfl) us hl) aaS
 have aa9:=lS l.prog w base (cz 30 X G e rfl λ_ _ _ _ _ _ us hl=>dF (λ_=>rfl) us hl) B
 have aac:=pE l.prog w base (cz 31 X G e rfl λ_ _ _ _ _ _ us hl=>ff (λ_ _=>rfl) us hl) B
 have aap:=pF l.prog w base (cz 32 X G e rfl λ_ _ _ _ _ _ us hl=>dF (λ_=>rfl) us hl) aa4 aaN aa3 aa9 aac B LX
 have aaO:=sW l.prog w base (cz 33 X G e rfl λ_ _ _ _ _ _ us hl=>ff (λ_ _=>rfl) us hl)
 have aaK:=rj l.prog w base (cz 34 X G e rfl λ_ _ _ _ _ _ us hl=>dF (λ_=>rfl) us hl) aa3 aa9 aac aaO
 have aav:=lP l.prog w base (cz 35 X G e rfl λ_ _ _ _ _ _ us hl=>ff (λ_ _=>rfl) us hl) aa1 S
 have aai:=jz l.prog w base (cz 36 X G e rfl λ_ _ _ _ _ _ us hl=>ff (λ_ _=>rfl) us hl) aa4 aav B
 have aaP:=tj l.prog w base (cz 37 X G e rfl λ_ _ _ _ _ _ us hl=>dF (λ_=>rfl) us hl) aan aao aam
 exact(DB l.prog w base aaT aaw aap aaK aa3 aai aaP B).h
def vw:H0:=PySem.W.view IS [55]
def lse:List Str:=(["ClockError","NoRecord","NoNumber","MOST_CLOCKS","MOST_LETTERS","MOST_READINGS","LAST_READING","SLOWEST","LONGEST","is_whole","is_within","is_long","rises","are_readings","is_pace","is_clock","are_clocks","is_event","is_delay","is_letter"]:List Str)++(["are_letters","is_record","need_record","need_number","events","bounds_of_clock","bounds_of_letter","bounds","settle","is_better","greatest_world","world","has_world","barring","all_letters","with_only","without","sets_of","most_kept","culprits"]:List Str)++(["without_letter","_law_cell","_law_drawn","_law_clock","_law_letter","_law_events","_law_record"]:List Str)
def lhs (w:IP)(h:Heap)(d:Drawn)(t:Nat)(os:OsState):=(PySem.W.topFrom treeTable IS w 9000 ⟨h,⟨[]⟩,d,t,os⟩).map (λs=>(PySem.W.openSeen vw lse (P8 IS.main.body) (λ_=>true) true s,uE asks s.heap))
def rhs (w:IP):=some (PySem.W.openGood vw lse,(lb asks top,true))
theorem lhs_r:lhs=lhs:=rfl
theorem rhs_r:rhs=rhs:=rfl
end G
namespace Tr
open PySem
abbrev RR (cs ls:List T):T:=.tup [.tup cs,.tup ls]
mutual
def T.pl:T->Bool
 | .scr _=>false
 | .dct _ _=>false
 | .tup l=>plS l
 | .lst l=>plS l
 | _=>true
def plS:List T->Bool
 | [] =>true
 | t::l=>t.pl&&plS l
end
theorem jy:∀{l:List T} {t:T},plS l=true->t∈l->t.pl=true
 | [],_,_,h=>by cases h
 | u::l,t,h,m=>by
  unfold plS at h;rw[Hz]at h;rcases HS.mp m with rfl | m
  ·exact h.1
  ·exact jy h.2 m
mutual
theorem T.GE:∀(t:T),t.pl=true->t.nd=true
 | .non,_=>rfl
 | .bl _,_=>rfl
 | .int _,_=>rfl
 | .str _,_=>rfl
 | .scr _,h=>by cases h
 | .dct _ _,h=>by cases h
 | .tup l,h=>by unfold T.pl at h;unfold T.nd;exact plS_nds l h
 | .lst l,h=>by unfold T.pl at h;unfold T.nd;exact plS_nds l h
theorem plS_nds:∀(l:List T),plS l=true->nds l=true
 | [],_=>rfl
 | t::l,h=>by
  unfold plS at h;rw[Hz]at h;unfold nds;rw[T.GE t h.1,plS_nds l h.2];rfl
end
theorem tG {fe:En->Rs T}{h:T->T}:∀(ts:List T) (Z:En),0<Z.length->(∀t∈ts,fe (Z.set 0 (.va t))= .ok (h t))->cX (gN 0) bT fe ts Z= .ok (ts.map h)
 | [],_,_,_=>rfl
 | t::r,Z,hl,hf=>by
  unfold cX
  have e1:gN 0 t Z= .ok (Z.set 0 (.va t)):=by unfold gN;rw[if_pos hl]
  have ih:=tG r (Z.set 0 (.va t)) (by rw[Jt];exact hl) (λu hu=>by rw[List.set_set];exact hf u (HH _ hu))
  simp only[e1,aB,bT,if_true,hf t HK,ih,HE]
theorem nW {fc:En->Rs Bool}{fe:En->Rs T}{p:T->Bool}{h:T->T}:∀(ts:List T) (Z:En),0<Z.length->(∀t∈ts,fc (Z.set 0 (.va t))= .ok (p t)/\(p t=true->fe (Z.set 0 (.va t))= .ok (h t)))->cX (gN 0) fc fe ts Z= .ok ((ts.filter p).map h)
 | [],_,_,_=>rfl
 | t::r,Z,hl,hf=>by
  unfold cX
  have e1:gN 0 t Z= .ok (Z.set 0 (.va t)):=by unfold gN;rw[if_pos hl]
  have ih:=nW r (Z.set 0 (.va t)) (by rw[Jt];exact hl) (λu hu=>by rw[List.set_set];exact hf u (HH _ hu))
  obtain⟨h1,h2⟩:=hf t HK;simp only[e1,aB,h1]
  cases q:p t with
  | true=>simp only[if_true,h2 q,aB,ih,LP,q,HE]
  | false=>simp only[Jd,if_false,ih,LP,q]
theorem oj (p:T->Bool):∀l:List T,mP (l.map λt=>T.bl (p t))=some (l.map p)
 | [] =>rfl
 | t::l=>by rw[HE,mP,oj p l];rfl
theorem all_map (p:T->Bool)(l:List T):nu [.lst (l.map λt=>T.bl (p t))] = .ok (.bl (l.all p)):=by
 simp only[nu,oj,Pb]
 rfl
theorem i5 {α:Type}{l:List α}{k:Nat}{t:α}(h:l[k]? =some t):L2.atI l (k:Int)=some t:=by
 have hk:k<l.length:=(HN.mp h).1
 unfold L2.atI L2.ixN;rw[if_pos (by omega),if_pos (by omega),IM]
 exact h
theorem aE {n k:Nat}(h:n<=k)(hk:k<=1000:=by decide):n<=sizeLine:=by unfold sizeLine;omega
section
variable {f fa fb fc:En->Rs T}{fs:En->Rs (List T)}{b c:En->Rs Bool}{F G:En->Rs Fl}{Z Z' Z1 Z2:En}{t u r:T}{ts l m:List T}
theorem aF {g:T->T->Rs T}{x:Rs T}(ha:fa Z= .ok t)(hb:fb Z= .ok u)(hg:g t u=x):o2 g fa fb Z=x:=by unfold o2;rw[ha,hb];exact hg
theorem FO {g:T->T->Rs T}{x:Rs T}{ks vs:List T}(ha:fa Z= .ok (.dct ks vs))(hb:fb Z= .ok u)(hg:g (.dct ks vs) u=x):oD g fa fb Z=x:=by unfold oD;rw[ha];show(fb Z >>= g (.dct ks vs))=_;rw[hb];exact hg
theorem k_oL {g:T->T->Rs T}{x:Rs T}{ks:List T}(ha:fa Z= .ok (.lst ks))(hb:fb Z= .ok u)(hg:g (.lst ks) u=x):oL g fa fb Z=x:=by unfold oL;rw[ha];show(fb Z >>= g (.lst ks))=_;rw[hb];exact hg
theorem aw (h:f Z= .ok t)(hs:fs Z= .ok ts):ae f fs Z= .ok (t::ts):=by unfold ae;rw[h,hs];rfl
theorem aZ {g:List T->Rs T}{x:Rs T}(h:fs Z= .ok ts)(hg:g ts=x):cl g fs Z=x:=by unfold cl;rw[h];exact hg
theorem bU {k:Bool}(h:f Z= .ok (.bl k)):tb f Z= .ok k:=by unfold tb;rw[h];rfl
theorem iD {k:Bool}(h:b Z= .ok k):cL b Z= .ok (!k):=by unfold cL;rw[h];rfl
theorem FN (h:b Z= .ok true):mY b c Z= .ok true:=by unfold mY;rw[h];rfl
theorem uN {x:Rs Bool}(h:b Z= .ok false)(h2:c Z=x):mY b c Z=x:=by unfold mY;rw[h];exact h2
theorem mE (h:b Z= .ok false):kK b c Z= .ok false:=by unfold kK;rw[h];rfl
theorem mC {x:Rs Bool}(h:b Z= .ok true)(h2:c Z=x):kK b c Z=x:=by unfold kK;rw[h];exact h2
theorem DQ (h:fa Z= .ok (.bl true)):zZ fa fb Z= .ok (.bl true):=by unfold zZ;rw[h];rfl
theorem DS (h:fa Z= .ok (.bl false)):zZ fa fb Z=fb Z:=by unfold zZ;rw[h];rfl
theorem FT {p:Bool}(h:b Z= .ok p):ED b fa fb Z=if p then fa Z else fb Z:=by unfold ED;rw[h];rfl
theorem ck {g:T->En->Rs En}(h:f Z= .ok t)(hg:g t Z= .ok Z'):cI f g Z= .ok (.nx Z'):=by unfold cI;rw[h];show(match g t Z with | .ok Z'=>Rs.ok (Fl.nx Z') | _=> .bad)=_;rw[hg]
theorem aC (h:F Z= .ok (.nx Z')):az F G Z=G Z':=by unfold az;rw[h];rfl
theorem j4 (h:F Z= .ok (.rt t)):az F G Z= .ok (.rt t):=by unfold az;rw[h];rfl
theorem yK (h:F Z= .ok (.ct Z')):az F G Z= .ok (.ct Z'):=by unfold az;rw[h];rfl
theorem jI (h:b Z= .ok true):eV b F G Z=F Z:=by unfold eV;rw[h];rfl
theorem dH (h:b Z= .ok false):eV b F G Z=G Z:=by unfold eV;rw[h];rfl
theorem cU (h:f Z= .ok t):aL f Z= .ok (.rt t):=by unfold aL;rw[h];rfl
theorem yP (h:f Z= .ok t):zY f Z= .ok (.nx Z):=by unfold zY;rw[h];rfl
theorem iF {fi:En->Rs (List T)}{g:T->En->Rs En}{x:Fl}(h:fi Z= .ok ts)(h2:bj g F ts Z= .ok x):gu fi g F Z= .ok x:=by unfold gu;rw[h];show(match bj g F ts Z with | .ok f=>Rs.ok f | _=> .bad)=_;rw[h2]
theorem fT {g:T->En->Rs En}(h:g t Z= .ok Z1)(h2:F Z1= .ok (.nx Z2)):bj g F (t::ts) Z=bj g F ts Z2:=by rw[bj,h];show(F Z1 >>= _)=_;rw[h2];rfl
theorem Bp {g:T->En->Rs En}(h:g t Z= .ok Z1)(h2:F Z1= .ok (.ct Z2)):bj g F (t::ts) Z=bj g F ts Z2:=by rw[bj,h];show(F Z1 >>= _)=_;rw[h2];rfl
theorem uO {g:T->En->Rs En}(h:g t Z= .ok Z1)(h2:F Z1= .ok (.rt r)):bj g F (t::ts) Z= .ok (.rt r):=by rw[bj,h];show(F Z1 >>= _)=_;rw[h2];rfl
theorem rN {n:Nat}(h:c Z= .ok false):ba c F (n+1) Z= .ok (.nx Z):=by unfold ba;rw[h]
theorem my {n:Nat}(h:c Z= .ok true)(h2:F Z= .ok (.nx Z')):ba c F (n+1) Z=ba c F n Z':=by rw[ba,h];simp only[h2]
theorem yI {n:Nat}(h:c Z= .ok true)(h2:F Z= .ok (.rt t)):ba c F (n+1) Z= .ok (.rt t):=by rw[ba,h];simp only[h2]
theorem bW {n m:Nat}(hl:ts.length=n)(h:F (aK m ts)= .ok (.rt t)):val n m F ts= .ok t:=by unfold val;rw[if_pos hl];unfold bh;rw[h];rfl
theorem yJ {n m:Nat}(hl:ts.length=n)(h:F (aK m ts)= .ok (.nx Z)):val n m F ts= .ok .non:=by unfold val;rw[if_pos hl];unfold bh;rw[h];rfl
theorem rO {fi:En->Rs (List T)}{src:List (Option Nat)}{fe:En->Rs T}{h:T->T}(hi:fi Z= .ok ts)(hs:ts.length<=sizeLine)(hn:0<src.length)(hf:∀t∈ts,fe ((cq src Z).set 0 (.va t))= .ok (h t)) :
  eF fi src (gN 0) bT fe Z= .ok (.lst (ts.map h)):=by
 have e:=tG (fe:=fe) (h:=h) ts (cq src Z) (by unfold cq;rw[HI];exact hn) hf
 unfold eF;rw[hi,aB,if_pos hs,e]
theorem yN {fi:En->Rs (List T)}{src:List (Option Nat)}{fc:En->Rs Bool}{fe:En->Rs T}{p:T->Bool}{h:T->T}(hi:fi Z= .ok ts)(hs:ts.length<=sizeLine)(hn:0<src.length)
  (hf:∀t∈ts,fc ((cq src Z).set 0 (.va t))= .ok (p t)/\(p t=true->fe ((cq src Z).set 0 (.va t))= .ok (h t))):eF fi src (gN 0) fc fe Z= .ok (.lst ((ts.filter p).map h)):=by
 have e:=nW (fc:=fc) (fe:=fe) (p:=p) (h:=h) ts (cq src Z) (by unfold cq;rw[HI];exact hn) hf
 unfold eF;rw[hi,aB,if_pos hs,e]
theorem dG (h:fs Z= .ok ts)(hl:ts.length<=sizeLine):bp fs Z= .ok (.tup ts):=by unfold bp;rw[h];show iB ts=_;unfold iB;rw[if_pos hl]
theorem nY (h:fs Z= .ok ts)(hl:ts.length<=sizeLine):dM fs Z= .ok (.lst ts):=by unfold dM;rw[h];show iC ts=_;unfold iC;rw[if_pos hl]
theorem yL {f:En->Rs (List T)}{i:Nat}(h:f Z= .ok l)(hi:i<Z.length)(hl:l.length<=1000):ix i f Z= .ok (.nx (Z.set i (.ow (.lst l)))):=by
 unfold ix;rw[h,aB,if_pos ⟨hi,aE hl (by omega)⟩]
theorem yM {i:Nat}(hi:i<Z.length):ix i ai Z= .ok (.nx (Z.set i (.ow (.lst [])))):=yL rfl hi (IC _)
theorem yQ {i:Nat}(h:f Z= .ok t)(hi:Z[i]? =some (.ow (.lst l)))(hl:l.length<=1000):m5 i f Z= .ok (.nx (Z.set i (.ow (.lst (l++ [t]))))):=by
 unfold m5;rw[hi];simp only[h,aB];rw[if_pos (by unfold sizeLine;omega)]
theorem yO {i:Nat}(h:f Z= .ok (.lst m))(hi:Z[i]? =some (.ow (.lst l)))(hl:l.length+m.length<=1000):lG i f Z= .ok (.nx (Z.set i (.ow (.lst (l++m))))):=by
 unfold lG;rw[hi];simp only[h,aB,D6];rw[if_pos (by unfold sizeLine;omega)]
theorem mB (h:f Z= .ok (.lst l)):iS f Z= .ok l:=by unfold iS;rw[h];rfl
theorem FV (h:fs Z= .ok [.lst l]):iE fs Z= .ok (cA 0 l):=by unfold iE;rw[h];rfl
theorem kn {n:Nat}(e:l[n]? =some t):aS (.tup l) (.int (n:Int))= .ok t:=by show(match L2.atI l _ with | some t=>Rs.ok t | none=> .bad)=_;rw[i5 e]
theorem tI {n:Nat}(e:l[n]? =some t):aS (.lst l) (.int (n:Int))= .ok t:=by show(match L2.atI l _ with | some t=>Rs.ok t | none=> .bad)=_;rw[i5 e]
theorem Bq {n:Nat}(h:fa Z= .ok (.tup l))(h2:fb Z= .ok (.int (n:Int)))(e:l[n]? =some t):o2 aS fa fb Z= .ok t:=aF h h2 (kn e)
theorem FR {n:Nat}(h:fa Z= .ok (.lst l))(h2:fb Z= .ok (.int (n:Int)))(e:l[n]? =some t):o2 aS fa fb Z= .ok t:=aF h h2 (tI e)
theorem FL {fe:En->Rs T}{fl fu:En->Rs (Option Int)}{lo hi:Option Int}(h:fe Z= .ok (.tup l))(h1:fl Z= .ok lo)(h2:fu Z= .ok hi):sl fe fl fu Z= .ok (.tup (jL l lo hi)):=by
 unfold sl;rw[h,h1,h2];rfl
theorem B9 {fe:En->Rs T}{fl fu:En->Rs (Option Int)}{lo hi:Option Int}(h:fe Z= .ok (.lst l))(h1:fl Z= .ok lo)(h2:fu Z= .ok hi):sl fe fl fu Z= .ok (.lst (jL l lo hi)):=by
 unfold sl;rw[h,h1,h2];rfl
theorem Bo {i:Int}(h:f Z= .ok (.int i)):pS f Z= .ok (some i):=by unfold pS;rw[h];rfl
theorem zI (l:List T)(n:Nat):jL l none (some (n:Int))=l.take n:=by
 unfold jL;rw[HT.sIx_none,HT.sIx_nat,List.drop_zero,Mq,List.take_eq_take_iff];omega
theorem r8 (l:List T)(n:Nat):jL l (some (n:Int)) none=l.drop n:=by
 unfold jL;rw[HT.sIx_none,HT.sIx_nat]
 by_cases h:n<=l.length
 ·rw[Nat.min_eq_left h]
  exact Lk (by rw[J2];omega)
 ·rw[Nat.min_eq_right (by omega),JY (HL _),JY (by omega),List.take_nil]
theorem k_ln {i:Nat}{o:OT}(hi:Z[i]? =some (.ow o))(h:f (disown i Z)= .ok t)(hk:t.nk o.isD=true):ln i f Z= .ok t:=by
 unfold ln;rw[hi];simp only[h,aB,hk,if_true]
theorem FP {i:Nat}{k:Bool}(h:b (disown i Z)= .ok k):DG i b Z= .ok k:=h
theorem FX {i:Nat}{x:Rs Fl}(h:F (disown i Z)=x):o8 i F Z=x:=h
end
theorem mk2 (a b:T):iB [a,b] = .ok (.tup [a,b]):=by unfold iB;rw[if_pos (aE (k:=1000) (by simp only[HQ,Nr];omega))]
theorem jx (n:Nat):(rng 0 n).length=n:=by unfold rng;rw[HI,Jr];omega
end Tr
namespace Gr
variable {ν:Type}[DecidableEq ν]
abbrev bZ (ν:Type):=List (ν×ν×Int)
inductive Wk (L:bZ ν):ν->ν->Int->Prop
 | nil (a:ν):Wk L a a 0
 | step {a b c:ν} {m s:Int}:(a,b,m)∈L->Wk L b c s->Wk L a c (m+s)
theorem Wk.one {L:bZ ν}{a b:ν}{m:Int}(h:(a,b,m)∈L):Wk L a b m:=by
 have:=Wk.step h (Wk.nil (L:=L) b)
 rwa [Int.add_zero]at this
theorem Wk.app {L:bZ ν}{a b c:ν}{s t:Int}(h:Wk L a b s)(k:Wk L b c t):Wk L a c (s+t):=by
 induction h with
 | nil a=>rwa [Int.zero_add]
 | step e _ ih=>rw[Int.add_assoc];exact .step e (ih k)
def Holds (L:bZ ν)(t:ν->Int):Prop:=∀a b m,(a,b,m)∈L->t b - t a<=m
theorem Holds.walk {L:bZ ν}{t:ν->Int}(h:Holds L t){a b:ν}{s:Int}(w:Wk L a b s):t b - t a<=s:=by
 induction w with
 | nil a=>omega
 | step e _ ih=>have:=h _ _ _ e;omega
def gK (L:bZ ν):Prop:=∀a s,Wk L a a s->0<=s
theorem Holds.G7 {L:bZ ν}{t:ν->Int}(h:Holds L t):gK L:=λa s w=>by have:=h.walk w;omega
def Ch (L:bZ ν):ν->List Nat->ν->Prop
 | a,[],b=>a=b
 | a,k::r,b=> ∃c m,L[k]? =some (a,c,m)/\Ch L c r b
def most (L:bZ ν)(k:Nat):Int:=match L[k]? with
 | some x=>x.2.2
 | none=>0
def dE (L:bZ ν):List Nat->Int
 | [] =>0
 | k::r=>most L k+dE L r
theorem jM (L:bZ ν):∀(p q:List Nat),dE L (p++q)=dE L p+dE L q
 | [],q=>by simp[dE]
 | k::p,q=>by rw[Pq,dE,dE,jM L p q];omega
theorem Ch.wk {L:bZ ν}:∀{ks:List Nat} {a b:ν},Ch L a ks b->Wk L a b (dE L ks)
 | [],a,b,h=>by cases h;exact .nil a
 | k::r,a,b,⟨c,m,e,h⟩=>by
  have:dE L (k::r)=m+dE L r:=by rw[dE,most,e]
  rw[this];exact .step (IF e) h.wk
theorem Ch.app {L:bZ ν}:∀{p q:List Nat} {a b c:ν},Ch L a p b->Ch L b q c->Ch L a (p++q) c
 | [],q,a,b,c,h,k=>by cases h;exact k
 | x::p,q,a,b,c,⟨d,m,e,h⟩,k=>⟨d,m,e,Ch.app h k⟩
theorem Ch.lt {L:bZ ν}:∀{ks:List Nat} {a b:ν},Ch L a ks b->∀k∈ks,k<L.length
 | [],_,_,_,k,hk=>by simp at hk
 | x::r,a,b,⟨c,m,e,h⟩,k,hk=>by
  rcases HS.mp hk with rfl | hk
  ·exact(HN.mp e).1
  ·exact h.lt k hk
theorem Ch.snoc {L:bZ ν}{p:List Nat}{k:Nat}{a b c:ν}{m:Int}(h:Ch L a p b)(e:L[k]? =some (b,c,m)):Ch L a (p++ [k]) c:=h.app ⟨c,m,e,rfl⟩
def src (L:bZ ν)(k:Nat):Option ν:=(L[k]?).map (·.1)
abbrev bH (ν:Type):=ν->Option (Int×List Nat)
def put (b:bH ν)(v:ν)(x:Int×List Nat):bH ν:=λu=>if u=v then some x else b u
theorem dv {b:bH ν}{v:ν}{x:Int×List Nat}:put b v x v=some x:=by unfold put;rw[if_pos rfl]
theorem iN {b:bH ν}{u v:ν}{x:Int×List Nat}(h:u≠v):put b v x u=b u:=by unfold put;rw[if_neg h]
def dD (L:bZ ν)(ks:List Nat):List ν:=ks.filterMap (src L)
def dA (b:bH ν)(v:ν)(d:Int):Bool:=match b v with
 | none=>true
 | some x=>decide (d<x.1)
def fE (L:bZ ν)(b:bH ν)(k:Nat)(x:ν×ν×Int):Sum (Option (bH ν)) (List Nat):=match b x.1 with
 | none=> .inl none
 | some (d,w)=>if dA b x.2.1 (d+x.2.2)=true then
   if x.2.1∈dD L (w++ [k])then .inr ((w++ [k]).drop ((dD L (w++ [k])).idxOf x.2.1))else .inl (some (put b x.2.1 (d+x.2.2,w++ [k])))
  else .inl none
def gc (L:bZ ν):Nat->bZ ν->bH ν->Bool->Sum (bH ν×Bool) (List Nat)
 | _,[],b,mv=> .inl (b,mv)
 | k,x::r,b,mv=>match fE L b k x with
  | .inr q=> .inr q
  | .inl none=>gc L (k+1) r b mv
  | .inl (some b')=>gc L (k+1) r b' true
def settle (L:bZ ν):Nat->bH ν->Option (Sum (bH ν) (List Nat))
 | 0,_=>none
 | n+1,b=>match gc L 0 L b false with
  | .inr q=>some (.inr q)
  | .inl (b',true)=>settle L n b'
  | .inl (b',false)=>some (.inl b')
theorem pB (L:bZ ν)(p q:List Nat):dD L (p++q)=dD L p++dD L q:=by unfold dD;rw[List.filterMap_append]
theorem pz {L:bZ ν}{k:Nat}{x:ν×ν×Int}(e:L[k]? =some x):dD L [k] = [x.1]:=by unfold dD src;simp[e]
theorem Ch.GS {L:bZ ν}{k:Nat}{r:List Nat}{a b:ν}(h:Ch L a (k::r) b):dD L (k::r)=a::dD L r:=by
 obtain⟨c,m,e,_⟩:=h;rw[show k::r= [k] ++r from rfl,pB,pz e];rfl
theorem Ch.cut {L:bZ ν}{v:ν}:∀{ks:List Nat} {a b:ν},Ch L a ks b->v∈dD L ks->Ch L a (ks.take ((dD L ks).idxOf v)) v/\Ch L v (ks.drop ((dD L ks).idxOf v)) b/\(dD L ks).idxOf v<ks.length
 | [],a,b,_,hv=>by simp[dD]at hv
 | k::r,a,b,h,hv=>by
  rw[h.GS]at hv ⊢
  have h0:=h;obtain⟨c,m,e,h⟩:=h
  by_cases z:a=v
  ·subst z
   rw[List.idxOf_cons_self];exact⟨rfl,h0,by simp⟩
  ·have hv':v∈dD L r:=by
    rcases HS.mp hv with q | q
    ·exact absurd q.symm z
    ·exact q
   obtain⟨h1,h2,h3⟩:=h.cut hv'
   have ei:(a::dD L r).idxOf v=(dD L r).idxOf v+1:=by
    rw[PY]
    have:(a == v)=false:=by rw[beq_eq_false_iff_ne];exact z
    rw[this];rfl
   rw[ei];exact⟨⟨c,m,e,h1⟩,h2,by simpa using h3⟩
structure Kept (L:bZ ν)(S:List ν)(b:bH ν):Prop where
 walk:∀v d w,b v=some (d,w)->∃s∈S,Ch L s w v/\dE L w=d/\v∉dD L w/\(dD L w).Nodup/\∀p q u,w=p++q->Ch L s p u->∃d' w',b u=some (d',w')/\d'<=dE L p
 start:∀s∈S,∃d w,b s=some (d,w)/\d<=0
theorem Kept.put {L:bZ ν}{S:List ν}{b:bH ν}(K:Kept L S b){k:Nat}{a c:ν}{m d:Int}{w:List Nat}(e:L[k]? =some (a,c,m))(ha:b a=some (d,w))(hb:dA b c (d+m)=true)(hn:c∉dD L (w++ [k])) :
  Kept L S (put b c (d+m,w++ [k])):=by
 have low:∀u d' w',b u=some (d',w')->∃d'' w'',Gr.put b c (d+m,w++ [k]) u=some (d'',w'')/\d''<=d':=λu d' w' h=>by
  by_cases z:u=c
  ·subst z
   refine⟨_,_,dv,?_⟩
   unfold dA at hb;rw[h]at hb
   have:=of_decide_eq_true hb;omega
  ·exact⟨d',w',by rw[iN z];exact h,PZ _⟩
 obtain⟨s,hs,h1,h2,h3,h4,h5⟩:=K.walk a d w ha
 have hch:Ch L s (w++ [k]) c:=h1.snoc e
 have hcost:dE L (w++ [k])=d+m:=by rw[jM,h2,dE,dE,most,e];simp
 refine⟨λv d' w' h=> ?_,λs' hs'=> ?_⟩
 ·by_cases z:v=c
  ·subst z
   rw[dv]at h;cases h;refine⟨s,hs,hch,hcost,hn,?_,λp q u hpq hp=> ?_⟩
   ·rw[pB,pz e]
    exact Ki.mpr ⟨h4,by simp,λx hx y hy=>by simp at hy;subst hy;exact λz=>h3 (z▸hx)⟩
   ·by_cases hq:q= []
    ·subst hq
     rw[JH]at hpq;subst hpq
     have:u=v:=by
      clear low hb hn h5
      have aux:∀{ks:List Nat} {x y z:ν},Ch L x ks y->Ch L x ks z->y=z:=by
       intro ks
       induction ks with
       | nil=>intro x y z h1 h2;cases h1;cases h2;rfl
       | cons k r ih=>
        rintro x y z ⟨c1,m1,e1,r1⟩ ⟨c2,m2,e2,r2⟩
        rw[e1]at e2;cases e2;exact ih r1 r2
      exact aux hp hch
     subst this;exact⟨_,_,dv,by rw[hcost];exact PZ _⟩
    ·have hw:∃q',w=p++q':=by
      refine⟨q.dropLast,?_⟩
      have:=congrArg List.dropLast hpq;rw[List.dropLast_concat,List.dropLast_append_of_ne_nil hq]at this;exact this
     obtain⟨q',hw⟩:=hw;obtain⟨d1,w1,e1,l1⟩:=h5 p q' u hw hp;obtain⟨d2,w2,e2,l2⟩:=low u d1 w1 e1;exact⟨d2,w2,e2,by omega⟩
  ·rw[iN z]at h
   obtain⟨s',hs',g1,g2,g3,g4,g5⟩:=K.walk v d' w' h;refine⟨s',hs',g1,g2,g3,g4,λp q u hpq hp=> ?_⟩
   obtain⟨d1,w1,e1,l1⟩:=g5 p q u hpq hp;obtain⟨d2,w2,e2,l2⟩:=low u d1 w1 e1;exact⟨d2,w2,e2,by omega⟩
 ·obtain⟨d1,w1,e1,l1⟩:=K.start s' hs'
  obtain⟨d2,w2,e2,l2⟩:=low s' d1 w1 e1;exact⟨d2,w2,e2,by omega⟩
def Bar (L:bZ ν)(q:List Nat):Prop:=q≠ []/\(∃a,Ch L a q a)/\dE L q<0/\(dD L q).Nodup
theorem Ch.GY {L:bZ ν}:∀{ks:List Nat} {a b:ν} (i:Nat),Ch L a ks b->dD L (ks.drop i)=(dD L ks).drop i
 | [],_,_,i,_=>by simp[dD]
 | k::r,a,b,0,_=>rfl
 | k::r,a,b,i+1,h=>by
  have:=h;obtain⟨c,m,e,h'⟩:=this;rw[h.GS,N4,N4,h'.GY i]
theorem Kept.round {L:bZ ν}{S:List ν}{b:bH ν}(K:Kept L S b){k:Nat}{a c:ν}{m d:Int}{w:List Nat}(e:L[k]? =some (a,c,m))(ha:b a=some (d,w))(hb:dA b c (d+m)=true)(hn:c∈dD L (w++ [k])) :
  Bar L ((w++ [k]).drop ((dD L (w++ [k])).idxOf c)):=by
 obtain⟨s,hs,h1,h2,h3,h4,h5⟩:=K.walk a d w ha
 have hch:Ch L s (w++ [k]) c:=h1.snoc e
 have hcost:dE L (w++ [k])=d+m:=by rw[jM,h2,dE,dE,most,e];simp
 obtain⟨c1,c2,c3⟩:=hch.cut hn
 generalize hi:(dD L (w++ [k])).idxOf c=i at c1 c2 c3
 refine⟨λz=> ?_,⟨c,c2⟩,?_,?_⟩
 ·have:=congrArg Kw z
  rw[J2]at this
  simp at this c3
  omega
 ·have hsum:dE L ((w++ [k]).take i)+dE L ((w++ [k]).drop i)=d+m:=by rw[<-jM,LG,hcost]
  have hiw:i<=w.length:=by simp at c3;omega
  have ht:(w++ [k]).take i=w.take i:=by rw[List.take_append_of_le_length hiw]
  rw[ht]at c1 hsum;obtain⟨d1,w1,e1,l1⟩:=h5 (w.take i) (w.drop i) c (LG i w).symm c1;unfold dA at hb;rw[e1]at hb
  have:=of_decide_eq_true hb;simp only at this;omega
 ·rw[hch.GY,pB,pz e]
  refine(OR _ _).nodup (Ki.mpr ⟨h4,by simp,λx hx y hy=> ?_⟩)
  rw[Ia.mp hy];exact λz=>h3 (by have z:x=a:=z;rw[<-z];exact hx)
def size (L:bZ ν):Nat:=(L.map λx=>x.2.2.natAbs).sum
theorem ir {f:Nat->Nat}:∀{ks rs:List Nat},ks.Nodup->(∀k∈ks,k∈rs)->(ks.map f).sum<=(rs.map f).sum
 | [],rs,_,_=>by simp
 | k::ks,rs,hn,hs=>by
  have hk:k∈rs:=hs k HK;rw[IV]at hn
  have hp:=List.perm_cons_erase hk
  have e:(rs.map f).sum=f k+((rs.erase k).map f).sum:=by
   have:=(hp.map f).sum_nat
   rwa [HE,JQ]at this
  rw[e,HE,JQ]
  have:=ir (f:=f) hn.2 (rs:=rs.erase k) λj hj=>by
   have h1:=hs j (HH _ hj);exact(NP (λ(z:j=k)=>hn.1 (z▸hj))).mpr h1
  omega
theorem sI (L:bZ ν):size L=((HD L.length).map λk=>(most L k).natAbs).sum:=by
 unfold size
 congr 1
 apply LO
 ·simp
 ·intro i h1 h2
  simp only[LL,List.getElem_range];unfold most;rw[HG (by simpa using h1)]
theorem u6 (L:bZ ν):∀(ks:List Nat),(dE L ks).natAbs<=(ks.map λk=>(most L k).natAbs).sum
 | [] =>by simp[dE]
 | k::r=>by
  have:=u6 L r;rw[dE,HE,JQ];omega
theorem Ch.nodup {L:bZ ν}:∀{ks:List Nat} {a b:ν},Ch L a ks b->(dD L ks).Nodup->ks.Nodup
 | [],_,_,_,_=>Lw
 | k::r,a,b,h,hn=>by
  have h0:=h;rw[h.GS,IV]at hn;obtain⟨c,m,e,h⟩:=h;rw[IV];refine⟨λhk=>hn.1 ?_,h.nodup hn.2⟩
  unfold dD src;exact Mo.mpr ⟨k,hk,by rw[e];rfl⟩
theorem Ch.small {L:bZ ν}{ks:List Nat}{a b:ν}(h:Ch L a ks b)(hn:(dD L ks).Nodup):(dE L ks).natAbs<=size L:=by
 rw[sI];exact Ii (u6 L ks) (ir (h.nodup hn) λk hk=>Ik.mpr (h.lt k hk))
def val (M:Nat)(b:bH ν)(v:ν):Nat:=match b v with
 | none=>2*M+1
 | some x=>(x.1+M).toNat
def left (M:Nat)(b:bH ν)(L:bZ ν):Nat:=(L.map λx=>val M b x.2.1).sum
theorem uI {M:Nat}{b b':bH ν}:∀{L:bZ ν},(∀x∈L,val M b' x.2.1<=val M b x.2.1)->left M b' L<=left M b L
 | [],_=>by simp[left]
 | x::L,h=>by
  have h1:=h x HK
  have h2:=uI (L:=L) λy hy=>h y (HH _ hy)
  unfold left at h2 ⊢;rw[HE,JQ,HE,JQ];omega
theorem uH {M:Nat}{b b':bH ν}{x:ν×ν×Int}:∀{L:bZ ν},x∈L->(∀x∈L,val M b' x.2.1<=val M b x.2.1)->val M b' x.2.1<val M b x.2.1->left M b' L<left M b L
 | [],hx,_,_=>by simp at hx
 | y::L,hx,h,hl=>by
  have h1:=h y HK
  have h2:=uI (L:=L) λy hy=>h y (HH _ hy)
  unfold left at h2 ⊢;rw[HE,JQ,HE,JQ];rcases HS.mp hx with rfl | hx
  ·omega
  ·have h3:=uH (L:=L) hx (λy hy=>h y (HH _ hy)) hl
   unfold left at h3;omega
theorem yv {L:bZ ν}{S:List ν}{b:bH ν}(K:Kept L S b){k:Nat}{a c:ν}{m d:Int}{w:List Nat}(e:L[k]? =some (a,c,m))(ha:b a=some (d,w))(hb:dA b c (d+m)=true)(hn:c∉dD L (w++ [k])) :
  left (size L) (put b c (d+m,w++ [k])) L<left (size L) b L:=by
 have K':=K.put e ha hb hn;obtain⟨s,hs,h1,h2,h3,h4,h5⟩:=K'.walk c (d+m) (w++ [k]) dv
 have sm:=h1.small h4;rw[h2]at sm
 have lt:val (size L) (put b c (d+m,w++ [k])) c<val (size L) b c:=by
  unfold val dA at*;rw[dv]
  cases z:b c with
  | none=>simp only;omega
  | some y=>
   rw[z]at hb
   have hb:=of_decide_eq_true hb;simp only;omega
 refine uH (x:=(a,c,m)) (IF e) (λy _=> ?_) lt
 by_cases z:y.2.1=c
 ·rw[z];exact Jl lt
 ·unfold val;rw[iN z];exact HL _
def zS (b:bH ν)(x:ν×ν×Int):Prop:=∀d w,b x.1=some (d,w)->∃d' w',b x.2.1=some (d',w')/\d'<=d+x.2.2
theorem wU {b:bH ν}{x:ν×ν×Int}(h:∀d w,b x.1=some (d,w)->dA b x.2.1 (d+x.2.2)=false):zS b x:=λd w e=>by
 have:=h d w e;unfold dA at this
 cases z:b x.2.1 with
 | none=>rw[z]at this;cases this
 | some y=>
  rw[z]at this
  have:=of_decide_eq_false this;exact⟨y.1,y.2,rfl,by omega⟩
theorem gi {L:bZ ν}{S:List ν}:∀(r:bZ ν) (k:Nat) (b:bH ν) (mv:Bool),L.drop k=r->Kept L S b->match gc L k r b mv with
  | .inr q=>Bar L q
  | .inl (b',mv')=>Kept L S b'/\(mv'=false->mv=false/\b'=b/\∀x∈r,zS b x)/\left (size L) b' L<=left (size L) b L/\(mv'=true->mv=true\/left (size L) b' L<left (size L) b L)
 | [],k,b,mv,_,K=>⟨K,λh=>⟨h,rfl,λx hx=>by simp at hx⟩,HL _,λh=> .inl h⟩
 | x::r,k,b,mv,hr,K=>by
  have e:L[k]? =some x:=by
   have:=congrArg (·[0]?) hr
   simpa using this
  have hr':L.drop (k+1)=r:=by
   have:=congrArg (List.drop 1) hr
   simpa [List.drop_drop,O9]using this
  rw[gc];obtain⟨a,c,m⟩:=x;unfold fE
  cases z:b a with
  | none=>
   simp only[z]
   have ih:=gi r (k+1) b mv hr' K
   revert ih
   generalize gc L (k+1) r b mv=R
   cases R with
   | inr q=>exact id
   | inl p=>
    obtain⟨b',mv'⟩:=p
    rintro ⟨i1,i2,i3,i4⟩
    refine⟨i1,λh=> ?_,i3,i4⟩
    obtain⟨j1,j2,j3⟩:=i2 h;refine⟨j1,j2,λx hx=> ?_⟩
    rcases HS.mp hx with rfl | hx
    ·intro d w q;rw[z]at q;cases q
    ·exact j3 x hx
  | some y=>
   obtain⟨d,w⟩:=y;simp only[z]
   by_cases hb:dA b c (d+m)=true
   ·rw[if_pos hb]
    by_cases hn:c∈dD L (w++ [k])
    ·rw[if_pos hn]
     exact K.round e z hb hn
    ·rw[if_neg hn]
     have K':=K.put e z hb hn
     have lt:=yv K e z hb hn
     have ih:=gi r (k+1) (put b c (d+m,w++ [k])) true hr' K'
     revert ih
     simp only
     generalize gc L (k+1) r (put b c (d+m,w++ [k])) true=R
     cases R with
     | inr q=>exact id
     | inl p=>
      obtain⟨b',mv'⟩:=p
      rintro ⟨i1,i2,i3,i4⟩
      refine⟨i1,λh=> ?_,by omega,λ_=> .inr (by omega)⟩
      obtain⟨j1,_⟩:=i2 h;cases j1
   ·rw[if_neg hb]
    have ih:=gi r (k+1) b mv hr' K
    revert ih
    simp only
    generalize gc L (k+1) r b mv=R
    cases R with
    | inr q=>exact id
    | inl p=>
     obtain⟨b',mv'⟩:=p
     rintro ⟨i1,i2,i3,i4⟩
     refine⟨i1,λh=> ?_,i3,i4⟩
     obtain⟨j1,j2,j3⟩:=i2 h;refine⟨j1,j2,λx hx=> ?_⟩
     rcases HS.mp hx with rfl | hx
     ·refine wU λd' w' q=> ?_
      simp only at q;rw[z]at q;cases q
      simpa using hb
     ·exact j3 x hx
structure Settled (L:bZ ν)(S:List ν)(b:bH ν):Prop where
 walk:∀v d w,b v=some (d,w)->∃s∈S,Ch L s w v/\dE L w=d/\v∉dD L w/\(dD L w).Nodup
 least:∀s∈S,∀v t,Wk L s v t->∃d w,b v=some (d,w)/\d<=t
theorem sJ {L:bZ ν}{S:List ν}{b:bH ν}(K:Kept L S b)(h:∀x∈L,zS b x):Settled L S b where
 walk:=λv d w e=>by
  obtain⟨s,h1,h2,h3,h4,h5,_⟩:=K.walk v d w e;exact⟨s,h1,h2,h3,h4,h5⟩
 least:=by
  have go:∀{u v:ν} {t:Int},Wk L u v t->∀d w,b u=some (d,w)->∃d' w',b v=some (d',w')/\d'<=d+t:=by
   intro u v t hw
   induction hw with
   | nil a=>exact λd w e=>⟨d,w,e,by omega⟩
   | step e _ ih=>
    intro d w q;obtain⟨d1,w1,e1,l1⟩:=h _ e d w q;obtain⟨d2,w2,e2,l2⟩:=ih d1 w1 e1;exact⟨d2,w2,e2,by simp only at l1;omega⟩
  intro s hs v t hw;obtain⟨d,w,e,l⟩:=K.start s hs;obtain⟨d2,w2,e2,l2⟩:=go hw d w e;exact⟨d2,w2,e2,by omega⟩
theorem nH {L:bZ ν}{S:List ν}:∀(n:Nat) (b:bH ν),Kept L S b->left (size L) b L<n->∃r,settle L n b=some r/\match r with
  | .inr q=>Bar L q
  | .inl b'=>Settled L S b'
 | 0,b,K,h=>by omega
 | n+1,b,K,h=>by
  have s:=gi (S:=S) L 0 b false rfl K;rw[settle]
  revert s
  generalize gc L 0 L b false=R
  cases R with
  | inr q=>exact λs=>⟨_,rfl,s⟩
  | inl p=>
   obtain⟨b',mv'⟩:=p
   rintro ⟨i1,i2,i3,i4⟩
   cases mv' with
   | false=>
    obtain⟨_,j2,j3⟩:=i2 rfl;subst j2
    exact⟨_,rfl,sJ i1 j3⟩
   | true=>
    rcases i4 rfl with z | z
    ·cases z
    ·exact nH n b' i1 (by omega)
def start (S:List ν):bH ν:=λv=>if v∈S then some (0,[])else none
theorem mx (L:bZ ν)(S:List ν):Kept L S (start S) where
 walk:=λv d w e=>by
  unfold start at e
  split at e
  ·rename_i h
   cases e;refine⟨v,h,rfl,rfl,by simp[dD],by simp[dD],λp q u hpq hp=> ?_⟩
   obtain⟨rfl,rfl⟩:=List.append_eq_nil_iff.mp hpq.symm;cases hp;exact⟨0,[],by unfold start;rw[if_pos h],by simp[dE]⟩
  ·cases e
 start:=λs hs=>⟨0,[],by unfold start;rw[if_pos hs],PZ _⟩
theorem yw (L:bZ ν)(S:List ν):left (size L) (start S) L<=L.length*(2*size L+1):=by
 unfold left
 have:∀M:bZ ν,(M.map λx=>val (size L) (start S) x.2.1).sum<=M.length*(2*size L+1):=by
  intro M
  induction M with
  | nil=>simp
  | cons x M ih=>
   rw[HE,JQ,HQ,Nat.succ_mul]
   have:val (size L) (start S) x.2.1<=2*size L+1:=by
    unfold val start;split
    ·exact HL _
    ·rename_i h
     split at h
     ·cases h;simp;omega
     ·cases h
   omega
 exact this L
theorem sL (L:bZ ν)(S:List ν){n:Nat}(h:L.length*(2*size L+1)<n):∃r,settle L n (start S)=some r/\match r with
  | .inr q=>Bar L q
  | .inl b'=>Settled L S b':=nH n (start S) (mx L S) (Ku (yw L S) h)
theorem Bar.neg {L:bZ ν}{q:List Nat}(h:Bar L q):¬ gK L:=λn=>by
 obtain⟨_,⟨a,ha⟩,hc,_⟩:=h
 have:=n a _ ha.wk;omega
theorem Settled.holds {L:bZ ν}{S:List ν}{b:bH ν}(h:Settled L S b)(hS:∀x∈L,x.1∈S/\x.2.1∈S){t:ν->Int}(ht:∀v∈S,∃w,b v=some (t v,w)):Holds L t:=λa c m hx=>by
 obtain⟨ha,hc⟩:=hS _ hx;obtain⟨w,e⟩:=ht a ha;obtain⟨s,hs,h1,h2,_⟩:=h.walk a _ _ e;obtain⟨d,w',e',l⟩:=h.least s hs c _ (h1.wk.app (.one hx));obtain⟨w2,e2⟩:=ht c hc;rw[e2]at e';cases e';omega
abbrev sk (ν:Type):=ν->ν->Option Int
def F3 (f:sk ν)(a b:ν)(x:Int):sk ν:=λu v=>if u=a/\v=b then some x else f u v
def F8 (f:sk ν)(a b:ν)(x:Int):sk ν:=match f a b with
 | none=>F3 f a b x
 | some y=>if x<y then F3 f a b x else f
def F2 (mid one other:ν)(f:sk ν):sk ν:=match f one mid,f mid other with
 | some x,some y=>F8 f one other (x+y)
 | _,_=>f
def tab0 (P:List ν):sk ν:=λu v=>if u∈P/\u=v then some 0 else none
def tab1 (P:List ν)(L:bZ ν):sk ν:=L.foldl (λf x=>F8 f x.1 x.2.1 x.2.2) (tab0 P)
def Bx (mid one:ν)(P:List ν)(f:sk ν):sk ν:=P.foldl (λf other=>F2 mid one other f) f
def F4 (mid:ν)(Q P:List ν)(f:sk ν):sk ν:=Q.foldl (λf one=>Bx mid one P f) f
def F7 (M P:List ν)(f:sk ν):sk ν:=M.foldl (λf mid=>F4 mid P P f) f
def table (P:List ν)(L:bZ ν):sk ν:=F7 P P (tab1 P L)
end Gr
namespace G
open PySem Tr
def isI:T->Bool
 | .int _=>true
 | _=>false
theorem BB (t:T)(h:t.pl=true):fR [t] = .ok (.bl (isI t)):=by
 cases t <;> first | rfl | (simp[T.pl]at h;done)
def aT (t:T)(a b:Int):Bool:=match t with
 | .int i=>decide (a<=i)&&decide (i<=b)
 | _=>false
theorem dZ (t:T)(a b:Int)(h:t.pl=true):aN [t,.int a,.int b] = .ok (.bl (aT t a b)):=by
 have w:=BB t h
 cases t with
 | int i=>
  simp[aN,val,bh,gO,aK,aL,cv,vr,ch,cl,ae,ai,se,aT,w,isI]
  cases decide (a<=i) <;> rfl
 | scr _=>simp[T.pl]at h
 | dct _ _=>simp[T.pl]at h
 | _=>simp[aN,val,bh,gO,aK,aL,cv,vr,ch,cl,ae,ai,aT,w,isI]
def dy (t:T)(a b:Nat):Bool:=match t with
 | .tup l=>decide (a<=l.length)&&decide (l.length<=b)
 | _=>false
theorem iX (t:T)(a b:Nat)(h:t.pl=true):aI [t,.int a,.int b] = .ok (.bl (dy t a b)):=by
 cases t with
 | tup l=>
  simp[aI,val,bh,oE,aK,aL,cv,o1,vr,Bt,T.ty,uR,ch,cl,ae,ai,bS,T.items,se,dy]
  cases decide (a<=l.length) <;> rfl
 | scr _=>simp[T.pl]at h
 | dct _ _=>simp[T.pl]at h
 | _=>rfl
def kC (x y:T):Bool:=aT x 1 9&&(match x with
 | .int i=>aT y i 9
 | _=>false)
theorem D9 (x y:T)(hx:x.pl=true)(hy:y.pl=true):eE [x,y] = .ok (.bl (kC x y)):=by
 have w:=dZ x 1 9 hx;unfold kC
 cases q:aT x 1 9 with
 | false=>rw[q]at w;simp[eE,val,bh,kc,aK,aL,cv,vr,cn,cl,ae,ai,w]
 | true=>
  rw[q]at w
  cases x with
  | int i=>simp[eE,val,bh,kc,aK,aL,cv,vr,cn,cl,ae,ai,w,dZ y i 9 hy]
  | _=>cases q
def kO:List Int->Bool
 | a::b::r=>decide (a<b)&&kO (b::r)
 | _=>true
theorem Au (a b:Int)(r:List Int):kO (a::b::r)=(decide (a<b)&&kO (b::r)):=rfl
theorem qu {fe:En->Rs T}{p:T->Bool}{l:List T}{fi:En->Rs (List T)}{src:List (Option Nat)}{Z:En}(hi:fi Z= .ok l)(hs:l.length<=sizeLine)(hn:0<src.length)(hf:∀t∈l,fe ((cq src Z).set 0 (.va t))= .ok (.bl (p t))) :
  cl nu (ae (eF fi src (gN 0) bT fe) ai) Z= .ok (.bl (l.all p)):=by
 have e:=tG (fe:=fe) (h:=λt=>T.bl (p t)) l (cq src Z) (by unfold cq;rw[HI];exact hn) hf
 simp only[cl,ae,ai,eF,hi,aB,if_pos hs,e,all_map]
def jZ (l:List T):T->Bool
 | .int k=>match L2.atI l k,L2.atI l (k+1)with
  | some (.int a),some (.int b)=>decide (a<b)
  | _,_=>false
 | _=>false
theorem o9 {t:T}{j:Int}(h:t∈rng 0 j):∃k:Nat,t= .int k/\(k:Int)<j:=by
 unfold rng at h;obtain⟨k,hk,e⟩:=Ic.mp h;rw[Ik]at hk;exact⟨k,by rw[<-e];simp,by omega⟩
theorem CG:(l:List Int)->l.length<=4->(rng 0 ((l.length:Int) - 1)).all (jZ (l.map .int))=kO l
 | [],_=>rfl
 | [a],_=>rfl
 | [a,b],_=>by simp[rng,Mb,jZ,L2.atI,L2.ixN,kO]
 | [a,b,c],_=>by simp[rng,Mb,jZ,L2.atI,L2.ixN,kO]
 | [a,b,c,d],_=>by simp[rng,Mb,jZ,L2.atI,L2.ixN,kO,Bool.and_assoc]
 | a::b::c::d::e::r,h=>absurd h (by simp only[HQ];omega)
theorem BD (l:List Int)(h:l.length<=4):hV [.tup (l.map .int)] = .ok (.bl (kO l)):=by
 have hr:iR (ae (o2 ig (cl bS (ae (vr 0) ai)) (cn (.int 1))) ai) [.va (.tup (l.map .int))] = .ok (rng 0 ((l.length:Int) - 1)):=by
  have:qz ((l.length:Int) - 1)=true:=by unfold qz;rw[Hz];exact⟨decide_eq_true (by omega),decide_eq_true (by omega)⟩
  simp[iR,ae,ai,o2,cl,vr,cn,bS,T.items,ig,this]
 have hs:(rng 0 ((l.length:Int) - 1)).length<=sizeLine:=by
  unfold rng sizeLine;rw[HI,Jr];omega
 have e:=qu (fe:=o2 EB (o2 aS (vr 1) (vr 0)) (o2 aS (vr 1) (o2 aQ (vr 0) (cn (.int 1))))) (p:=jZ (l.map .int)) (src:=[none,some 0]) hr hs (by decide) (λt ht=>by
  obtain⟨k,rfl,hk⟩:=o9 ht
  have h1:(l.map T.int)[k]? =some (.int (l[k]'(by omega))):=by simp
  have h2:(l.map T.int)[k+1]? =some (.int (l[k+1]'(by omega))):=by rw[Ij,HG (by omega)];rfl
  have g1:=i5 h1
  have g2:L2.atI (l.map T.int) ((k:Int)+1)=some (.int (l[k+1]'(by omega))):=i5 h2
  simp[o2,vr,cq,cn,aQ,aS,T.items,g1,g2,se,jZ])
 rw[CG l h]at e;simp only[hV,val,Je,if_true,vi,bh,aL,aK]
 show(do let f <-(do let t <-cl nu _ [.va (.tup (l.map .int))];Rs.ok (Fl.rt t));_)=_
 rw[e]
 rfl
def nums:List T->Option (List Int)
 | [] =>some []
 | .int i::l=>match nums l with
  | some m=>some (i::m)
  | none=>none
 | _::_=>none
def bP (t:T):Bool:=dy t 1 4&&(match t with
 | .tup l=>l.all (λu=>aT u 0 99)&&(match nums l with | some m=>kO m | none=>false)
 | _=>false)
theorem lX:∀{l:List T} {m:List Int},nums l=some m->l=m.map .int
 | [],m,h=>by cases h;rfl
 | t::l,m,h=>by
  cases t with
  | int i=>
   unfold nums at h
   cases q:nums l with
   | none=>rw[q]at h;cases h
   | some m'=>rw[q]at h;cases h;rw[HE,<-lX q]
  | _=>cases h
theorem pM:∀{l:List T} {a b:Int},(l.all λu=>aT u a b)=true->∃m,nums l=some m
 | [],_,_,_=>⟨[],rfl⟩
 | t::l,a,b,h=>by
  rw[Oh,Hz]at h
  cases t with
  | int i=>
   obtain⟨m,e⟩:=pM h.2
   exact⟨i::m,by unfold nums;rw[e]⟩
  | _=>exact absurd h.1 (by simp[aT])
theorem cQ {t:T}{a b:Nat}(h:dy t a b=true):∃l,t= .tup l/\a<=l.length/\l.length<=b:=by
 cases t with
 | tup l=>unfold dy at h;rw[Hz]at h;exact⟨l,rfl,of_decide_eq_true h.1,of_decide_eq_true h.2⟩
 | _=>cases h
theorem small {n k:Nat}(h:n<=k)(hk:k<=1000:=by decide):n<=sizeLine:=by unfold sizeLine;omega
theorem tK (t:T)(h:t.pl=true):bo [t] = .ok (.bl (bP t)):=by
 have w:aI [t,.int 1,.int 4] = .ok (.bl (dy t 1 4)):=iX t 1 4 h;unfold bP
 cases q:dy t 1 4 with
 | false=>rw[q]at w;simp[bo,val,bh,dC,aK,az,eV,cL,tb,sN,aL,cl,vr,cn,ae,ai,w]
 | true=>
  rw[q]at w;obtain⟨l,rfl,h1,h2⟩:=cQ q
  have hp:∀u∈l,u.pl=true:=λu hu=>jy (by unfold T.pl at h;exact h) hu
  have e:=qu (fe:=cl aN (ae (vr 0) (ae (cn (.int 0)) (ae (cn (.int 99)) ai)))) (p:=λu=>aT u 0 99) (src:=[none]) (fi:=iS (vr 0)) (Z:=[.va (.tup l)]) rfl (small h2) (by decide) (λu hu=>by
   simp[cl,ae,ai,vr,cn,cq,dZ u 0 99 (hp u hu)])
  have w':cl aI (ae (vr 0) (ae (cn (.int 1)) (ae (cn (.int 4)) ai))) [.va (.tup l)] = .ok (.bl true):=w
  show bo _= .ok (.bl (true&&(l.all (λu=>aT u 0 99)&&(match nums l with | some m=>kO m | none=>false))))
  cases qa:l.all λu=>aT u 0 99 with
  | false=>
   rw[qa]at e
   simp[bo,val,bh,dC,aK,az,eV,cL,tb,sN,aL,cv,e,w']
  | true=>
   rw[qa]at e;obtain⟨m,em⟩:=pM qa
   have el:=lX em
   have er:=BD m (by rw[el,HI]at h2;exact h2)
   rw[<-el]at er
   have er':cl hV (ae (vr 0) ai) [.va (.tup l)] = .ok (.bl (kO m)):=er;simp[bo,val,bh,dC,aK,az,eV,cL,tb,sN,aL,cv,e,w',er',em]
def at_ (t:T)(k:Nat):T:=match t.items with
 | some l=>l.getD k .non
 | none=> .non
def bc (t:T):Bool:=dy t 3 3&&(match t with
 | .tup [x,y,r] =>kC x y&&bP r
 | _=>false)
theorem BF (t:T)(h:t.pl=true):cO [t] = .ok (.bl (bc t)):=by
 have w:aI [t,.int 3,.int 3] = .ok (.bl (dy t 3 3)):=iX t 3 3 h;unfold bc
 cases q:dy t 3 3 with
 | false=>rw[q]at w;simp[cO,val,bh,fZ,aK,aL,cv,cl,vr,cn,ae,ai,w]
 | true=>
  rw[q]at w;obtain⟨l,rfl,h1,h2⟩:=cQ q
  match l,h1,h2 with
  | [x,y,r],_,_=>
   simp[T.pl,plS]at h;obtain⟨px,py,pr⟩:=h
   have g0:aS (.tup [x,y,r]) (.int 0)= .ok x:=rfl
   have g1:aS (.tup [x,y,r]) (.int 1)= .ok y:=rfl
   have g2:aS (.tup [x,y,r]) (.int 2)= .ok r:=rfl
   have ep:=D9 x y px py
   have er:=tK r pr
   cases qp:kC x y with
   | false=>rw[qp]at ep;simp[cO,val,bh,fZ,aK,aL,cv,cl,vr,cn,ae,ai,o2,w,g0,g1,ep,qp]
   | true=>rw[qp]at ep;simp[cO,val,bh,fZ,aK,aL,cv,cl,vr,cn,ae,ai,o2,w,g0,g1,g2,ep,er,qp]
def aY (t:T):Bool:=dy t 1 4&&(match t with
 | .tup l=>l.all bc
 | _=>false)
theorem zw (t:T)(h:t.pl=true):cT [t] = .ok (.bl (aY t)):=by
 have w:aI [t,.int 1,.int 4] = .ok (.bl (dy t 1 4)):=iX t 1 4 h;unfold aY
 cases q:dy t 1 4 with
 | false=>rw[q]at w;simp[cT,val,bh,f7,aK,aL,cv,cl,vr,cn,ae,ai,w]
 | true=>
  rw[q]at w;obtain⟨l,rfl,h1,h2⟩:=cQ q
  have hp:∀u∈l,u.pl=true:=λu hu=>jy (by unfold T.pl at h;exact h) hu
  have e:=qu (fe:=cl cO (ae (vr 0) ai)) (p:=bc) (src:=[none]) (fi:=iS (vr 0)) (Z:=[.va (.tup l)]) rfl (small h2) (by decide) (λu hu=>by
   simp[cl,ae,ai,vr,cn,cq,BF u (hp u hu)])
  have w':cl aI (ae (vr 0) (ae (cn (.int 1)) (ae (cn (.int 4)) ai))) [.va (.tup l)] = .ok (.bl true):=w;simp[cT,val,bh,f7,aK,aL,cv,e,w']
def dR (x y:T):Bool:=aT x 0 999&&(match x,y with
 | _,.non=>true
 | .int i,_=>aT y i 999
 | _,_=>false)
theorem BE (x y:T)(hx:x.pl=true)(hy:y.pl=true):da [x,y] = .ok (.bl (dR x y)):=by
 have w:=dZ x 0 999 hx;unfold dR
 cases q:aT x 0 999 with
 | false=>rw[q]at w;simp[da,val,bh,fY,aK,aL,cv,vr,cn,cl,ae,ai,w]
 | true=>
  rw[q]at w
  cases x with
  | int i=>
   have e:=dZ y i 999 hy
   cases y with
   | non=>simp[da,val,bh,fY,aK,aL,cv,zZ,vr,cn,cl,ae,ai,o2,jJ,T.isN,w]
   | _=>simp[da,val,bh,fY,aK,aL,cv,zZ,vr,cn,cl,ae,ai,o2,jJ,T.isN,w,e]
  | _=>cases q
def reads (cs:List T)(c:Int):Nat:=if 0<=c then(match cs[c.toNat]? with
 | some (.tup [_,_,.tup r])=>r.length
 | _=>0)else 0
def aW (cs:List T)(t:T):Bool:=match t with
 | .tup [.int c,.int k] =>decide (0<=c)&&decide (c<cs.length)&&(decide (0<=k)&&decide (k<reads cs c))
 | _=>false
theorem ku {t:T}(h:bc t=true):∃x y r,t= .tup [x,y,.tup r]:=by
 unfold bc at h;rw[Hz]at h;obtain⟨h1,h2⟩:=h;obtain⟨l,rfl,h3,h4⟩:=cQ h1
 match l,h3,h4,h2 with
 | [x,y,r],_,_,h2=>
  simp only[Hz]at h2;obtain⟨_,h5⟩:=h2;unfold bP at h5;rw[Hz]at h5;obtain⟨m,rfl,_⟩:=cQ h5.1;exact⟨x,y,m,rfl⟩
theorem cK {t:T}{a b:Int}(h:aT t a b=true):∃i,t= .int i/\a<=i/\i<=b:=by
 cases t with
 | int i=>unfold aT at h;rw[Hz]at h;exact⟨i,rfl,of_decide_eq_true h.1,of_decide_eq_true h.2⟩
 | _=>cases h
theorem uX (cs:List T)(t:T)(hc:aY (.tup cs)=true)(h:t.pl=true):cN [.tup cs,t] = .ok (.bl (aW cs t)):=by
 have w:aI [t,.int 2,.int 2] = .ok (.bl (dy t 2 2)):=iX t 2 2 h
 cases q:dy t 2 2 with
 | false=>
  rw[q]at w
  have:aW cs t=false:=by
   unfold aW;split
   ·cases q
   ·rfl
  simp[cN,val,bh,fX,aK,az,eV,mY,cL,tb,sN,aL,cl,vr,cn,ae,ai,w,this]
 | true=>
  rw[q]at w;obtain⟨l,rfl,h1,h2⟩:=cQ q
  match l,h1,h2 with
  | [x,y],_,_=>
   simp[T.pl,plS]at h;obtain⟨px,py⟩:=h
   have g0:aS (.tup [x,y]) (.int 0)= .ok x:=rfl
   have g1:aS (.tup [x,y]) (.int 1)= .ok y:=rfl
   have gl:bS [.tup cs] = .ok (.int cs.length):=rfl
   have e1:=dZ x 0 ((cs.length:Int) - 1) px
   cases q1:aT x 0 ((cs.length:Int) - 1)with
   | false=>
    rw[q1]at e1
    have:aW cs (.tup [x,y])=false:=by
     cases x with
     | int c=>
      cases y with
      | int k=>
       simp only[aT,Nv,decide_eq_false_iff_not]at q1;simp only[aW,Nv,decide_eq_false_iff_not]
       omega
      | _=>rfl
     | _=>rfl
    simp[cN,val,bh,fX,aK,az,eV,mY,cL,tb,sN,aL,cl,vr,cn,ae,ai,o2,ig,w,g0,gl,e1,this]
   | true=>
    rw[q1]at e1;obtain⟨c,rfl,c1,c2⟩:=cK q1;obtain⟨n,rfl⟩:=Iy c1
    have hn:n<cs.length:=by omega
    have hcl:bc cs[n] =true:=by
     unfold aY at hc;rw[Hz]at hc;exact HX.mp hc.2 _ (Jy hn)
    obtain⟨a,b,r,er⟩:=ku hcl
    have g2:aS (.tup cs) (.int (n:Int))= .ok (.tup [a,b,.tup r]):=by
     simp only[aS,T.items];rw[i5 (HG hn),er]
    have g3:aS (.tup [a,b,.tup r]) (.int 2)= .ok (.tup r):=rfl
    have gr:bS [.tup r] = .ok (.int r.length):=rfl
    have e2:=dZ y 0 ((r.length:Int) - 1) py
    have:aW cs (.tup [.int n,y])=aT y 0 ((r.length:Int) - 1):=by
     have er2:reads cs (n:Int)=r.length:=by
      unfold reads;rw[if_pos c1,IM,HG hn,er]
     cases y with
     | int k=>
      simp only[aW,aT,er2];rw[decide_eq_true c1,decide_eq_true (show(n:Int)<cs.length by omega)]
      simp only[LW]
      congr 1
      exact decide_eq_decide.mpr (by omega)
     | _=>rfl
    simp[cN,val,bh,fX,aK,az,eV,mY,cL,tb,sN,aL,cl,vr,cn,ae,ai,o2,ig,w,g0,g1,g2,g3,gl,gr,e1,e2,this]
def bw (cs:List T)(t:T):Bool:=match t with
 | .tup [a,b,x,y] =>dR x y&&(aW cs a&&(aW cs b&& !aR a b))
 | _=>false
theorem dY {cs:List T}{t:T}(h:aW cs t=true):∃c k:Int,t= .tup [.int c,.int k]:=by
 unfold aW at h
 split at h
 ·exact⟨_,_,rfl⟩
 ·cases h
theorem zq (cs:List T)(t:T)(hc:aY (.tup cs)=true)(h:t.pl=true):bx [.tup cs,t] = .ok (.bl (bw cs t)):=by
 have w:aI [t,.int 4,.int 4] = .ok (.bl (dy t 4 4)):=iX t 4 4 h
 cases q:dy t 4 4 with
 | false=>
  rw[q]at w
  have:bw cs t=false:=by
   unfold bw;split
   ·cases q
   ·rfl
  simp[bx,val,bh,di,aK,az,eV,mY,cL,tb,sN,aL,cl,vr,cn,ae,ai,w,this]
 | true=>
  rw[q]at w;obtain⟨l,rfl,h1,h2⟩:=cQ q
  match l,h1,h2 with
  | [a,b,x,y],_,_=>
   simp[T.pl,plS]at h;obtain⟨pa,pb,px,py⟩:=h
   have g0:aS (.tup [a,b,x,y]) (.int 0)= .ok a:=rfl
   have g1:aS (.tup [a,b,x,y]) (.int 1)= .ok b:=rfl
   have g2:aS (.tup [a,b,x,y]) (.int 2)= .ok x:=rfl
   have g3:aS (.tup [a,b,x,y]) (.int 3)= .ok y:=rfl
   have e1:=BE x y px py
   have e2:=uX cs a hc pa
   have e3:=uX cs b hc pb
   show _=Rs.ok (T.bl (dR x y&&(aW cs a&&(aW cs b&& !aR a b))))
   cases q1:dR x y with
   | false=>
    rw[q1]at e1
    simp[bx,val,bh,di,aK,az,eV,mY,cL,tb,sN,aL,cl,vr,cn,ae,ai,o2,w,g2,g3,e1]
   | true=>
    rw[q1]at e1
    cases q2:aW cs a with
    | false=>
     rw[q2]at e2
     simp[bx,val,bh,di,aK,az,eV,mY,cL,tb,sN,aL,cv,cl,vr,cn,ae,ai,o2,w,g0,g2,g3,e1,e2]
    | true=>
     rw[q2]at e2
     cases q3:aW cs b with
     | false=>
      rw[q3]at e3
      simp[bx,val,bh,di,aK,az,eV,mY,cL,tb,sN,aL,cv,cl,vr,cn,ae,ai,o2,w,g0,g1,g2,g3,e1,e2,e3]
     | true=>
      rw[q3]at e3;obtain⟨c,k,rfl⟩:=dY q2
      have f:fU (.tup [.int c,.int k]) b=true:=dz (by simp[T.dep,deps]) rfl (T.GE _ pb)
      have g4:l9 (.tup [.int c,.int k]) b= .ok (.bl (!aR (.tup [.int c,.int k]) b)):=by unfold l9;rw[if_pos f]
      simp[bx,val,bh,di,aK,az,eV,mY,cL,tb,sN,aL,cv,cl,vr,cn,ae,ai,o2,w,g0,g1,g2,g3,g4,e1,e2,e3]
def hY (cs:List T)(t:T):Bool:=dy t 0 8&&(match t with
 | .tup l=>l.all (bw cs)
 | _=>false)
theorem vY (cs:List T)(t:T)(hc:aY (.tup cs)=true)(h:t.pl=true):cC [.tup cs,t] = .ok (.bl (hY cs t)):=by
 have w:aI [t,.int 0,.int 8] = .ok (.bl (dy t 0 8)):=iX t 0 8 h;unfold hY
 cases q:dy t 0 8 with
 | false=>rw[q]at w;simp[cC,val,bh,fq,aK,aL,cv,cl,vr,cn,ae,ai,w]
 | true=>
  rw[q]at w;obtain⟨l,rfl,h1,h2⟩:=cQ q
  have hp:∀u∈l,u.pl=true:=λu hu=>jy (by unfold T.pl at h;exact h) hu
  have e:=qu (fe:=cl bx (ae (vr 1) (ae (vr 0) ai))) (p:=bw cs) (src:=[none,some 0]) (fi:=iS (vr 1)) (Z:=[.va (.tup cs),.va (.tup l)]) rfl (small h2) (by decide) (λu hu=>by
   simp[cl,ae,ai,vr,cn,cq,zq cs u hc (hp u hu)])
  have w':cl aI (ae (vr 1) (ae (cn (.int 0)) (ae (cn (.int 8)) ai))) [.va (.tup cs),.va (.tup l)] = .ok (.bl true):=w;simp[cC,val,bh,fq,aK,aL,cv,e,w']
def ko (t:T):Bool:=match t with
 | .tup [.tup cs,ls] =>aY (.tup cs)&&hY cs ls
 | _=>false
theorem zo (t:T)(h:t.pl=true):cM [t] = .ok (.bl (ko t)):=by
 have w:aI [t,.int 2,.int 2] = .ok (.bl (dy t 2 2)):=iX t 2 2 h
 cases q:dy t 2 2 with
 | false=>
  rw[q]at w
  have:ko t=false:=by
   unfold ko;split
   ·cases q
   ·rfl
  simp[cM,val,bh,fh,aK,aL,cv,cl,vr,cn,ae,ai,w,this]
 | true=>
  rw[q]at w;obtain⟨l,rfl,h1,h2⟩:=cQ q
  match l,h1,h2 with
  | [x,y],_,_=>
   simp[T.pl,plS]at h;obtain⟨px,py⟩:=h
   have g0:aS (.tup [x,y]) (.int 0)= .ok x:=rfl
   have g1:aS (.tup [x,y]) (.int 1)= .ok y:=rfl
   have e1:=zw x px
   cases q1:aY x with
   | false=>
    rw[q1]at e1
    have:ko (.tup [x,y])=false:=by
     cases x with
     | tup cs=>show(aY (.tup cs)&&_)=false;rw[q1];rfl
     | _=>rfl
    simp[cM,val,bh,fh,aK,aL,cv,cl,vr,cn,ae,ai,o2,w,g0,e1,this]
   | true=>
    rw[q1]at e1
    cases x with
    | tup cs=>
     have e2:=vY cs y q1 py
     have:ko (.tup [.tup cs,y])=hY cs y:=by show(aY (.tup cs)&&_)=_;rw[q1];rfl
     simp[cM,val,bh,fh,aK,aL,cv,cl,vr,cn,ae,ai,o2,w,g0,g1,e1,e2,this]
    | _=>cases q1
theorem eG:∀m:List Int,deps (m.map .int)=0
 | [] =>rfl
 | a::m=>by rw[HE,deps,eG m];rfl
def kI (i n:Nat):List T:=(rng 0 n).map λt=>T.tup [.int i,t]
def CI:T->Nat
 | .tup [_,_,.tup r] =>r.length
 | _=>0
def dX:Nat->List T->List T
 | _,[] => []
 | i,c::r=>kI i (CI c)++dX (i+1) r
theorem fg {t:T}(h:bc t=true):∃x y r,t= .tup [x,y,.tup r]/\1<=r.length/\r.length<=4:=by
 obtain⟨x,y,r,rfl⟩:=ku h
 have:bP (.tup r)=true:=by
  have h':(kC x y&&bP (.tup r))=true:=h;rw[Hz]at h';exact h'.2
 unfold bP at this;rw[Hz]at this;obtain⟨l,e,h1,h2⟩:=cQ this.1;cases e;exact⟨x,y,r,rfl,h1,h2⟩
theorem gF (i n:Nat):(kI i n).length=n:=by unfold kI;rw[HI,jx]
abbrev evF:En->Rs Fl:=cI (o2 aQ (vr 1) (eF (iR (ae (cl bS (ae (o2 aS (vr 3) (cn (.int 2))) ai)) ai)) [none,some 2] (gN 0) bT (bp (ae (vr 1) (ae (vr 0) ai))))) (gN 1)
abbrev evG:T->En->Rs En:=gT 2 (rP (gN 2) (rP (gN 3) z5))
theorem EE {f:En->Rs (List T)}{Z:En}{j:Int}(h:f Z= .ok [.int j])(h0:0<=j)(h1:j<=100000):iR f Z= .ok (rng 0 j):=by
 have e:qz j=true:=by unfold qz;rw[Hz];exact⟨decide_eq_true (by omega),decide_eq_true (by omega)⟩
 unfold iR;rw[h]
 show(if qz j=true then _ else _)=_
 rw[e];rfl
theorem qv (l m:List T)(h:(l++m).length<=1000):aQ (.lst l) (.lst m)= .ok (.lst (l++m)):=by
 show iC (l++m)=_
 unfold iC;rw[if_pos (aE h)]
theorem vg (l m:List T)(h:(l++m).length<=1000):aQ (.tup l) (.tup m)= .ok (.tup (l++m)):=by
 show iB (l++m)=_
 unfold iB;rw[if_pos (aE h)]
theorem F9 (c0 acc x y:T)(r:List T)(i:Nat)(h:r.length<=4) :
  eF (iR (ae (cl bS (ae (o2 aS (vr 3) (cn (.int 2))) ai)) ai)) [none,some 2] (gN 0) bT (bp (ae (vr 1) (ae (vr 0) ai))) [.va c0,.va acc,.va (.int i),.va (.tup [x,y,.tup r])] = .ok (.lst (kI i r.length)):=
 rO (EE (j:=(r.length:Int)) rfl (by omega) (by omega)) (aE (k:=4) (by rw[jx];exact h)) (by simp) λt _=>mk2 _ _
theorem By (c0 x y:T)(acc r:List T)(i:Nat)(h:r.length<=4)(ha:acc.length<=100):evF [.va c0,.va (.lst acc),.va (.int i),.va (.tup [x,y,.tup r])] = .ok (.nx [.va c0,.va (.lst (acc++kI i r.length)),.va (.int i),.va (.tup [x,y,.tup r])]):=
 ck (aF (t:=.lst acc) rfl (F9 c0 (.lst acc) x y r i h) (qv _ _ (by rw[HP,gF];omega))) rfl
theorem uW:∀(cs:List T) (c0:T) (acc:List T) (i:Nat) (s2 s3:Sl),(∀c∈cs,bc c=true)->acc.length+4*cs.length<=100 →
  ∃y2 y3,bj evG evF (cA i cs) [.va c0,.va (.lst acc),s2,s3] = .ok (.nx [.va c0,.va (.lst (acc++dX i cs)),y2,y3])
 | [],c0,acc,i,s2,s3,_,_=>⟨s2,s3,by simp[cA,bj,dX]⟩
 | c::cs,c0,acc,i,s2,s3,hc,hl=>by
  obtain⟨x,y,r,rfl,r1,r2⟩:=fg (hc c HK);rw[HQ]at hl;obtain⟨z2,z3,ih⟩:=uW cs c0 (acc++kI i r.length) (i+1) (.va (.int i)) (.va (.tup [x,y,.tup r])) (λc h=>hc c (HH _ h)) (by rw[HP,gF];omega)
  refine⟨z2,z3,?_⟩
  rw[cA,fT (Z1:=[.va c0,.va (.lst acc),.va (.int i),.va (.tup [x,y,.tup r])]) rfl (By c0 x y acc r i r2 (by omega)),ih,dX,IX]
  rfl
theorem cR {cs:List T}(hc:aY (.tup cs)=true):(∀c∈cs,bc c=true)/\1<=cs.length/\cs.length<=4:=by
 unfold aY at hc;rw[Hz]at hc;obtain⟨l,e,h1,h2⟩:=cQ hc.1;cases e;exact⟨λc h=>HX.mp hc.2 c h,h1,h2⟩
theorem zr (cs:List T)(hc:aY (.tup cs)=true):cY [.tup cs] = .ok (.lst (dX 0 cs)):=by
 obtain⟨ha,h1,h2⟩:=cR hc;obtain⟨y2,y3,e⟩:=uW cs (.tup cs) [] 0 .em .em ha (by simp;omega)
 rw[K9]at e;refine bW rfl ?_
 unfold iI;rw[aC (Z':=[.va (.tup cs),.va (.lst []),.em,.em]) rfl,aC ((iF (ts:=cA 0 cs) rfl e))]
 rfl
theorem Bg {n k:Nat}(h:k<n):T.int (k:Int)∈rng 0 (n:Int):=by
 unfold rng;exact Ic.mpr ⟨k,Ik.mpr (by omega),by simp⟩
theorem nK (cs:List T)(c:Nat):reads cs (c:Int)=CI (cs.getD c .non):=by
 unfold reads;rw[if_pos (by omega),IM,Ih]
 cases cs[c]? with
 | none=>rfl
 | some t=>
  cases t with
  | tup l=>
   match l with
   | [] =>rfl
   | [_] =>rfl
   | [_,_] =>rfl
   | [_,_,z] =>cases z <;> rfl
   | _::_::z::_::_=>cases z <;> rfl
  | _=>rfl
theorem rJ {g:T->En->Rs En}{F:En->Rs Fl}{p:T->Bool}(J:En->Prop):∀(ts:List T),(∀t∈ts,∀Z,J Z->∃Z1,g t Z= .ok Z1/\(p t=true->∃Z2,F Z1= .ok (.nx Z2)/\J Z2)/\(p t=false->F Z1= .ok (.rt (.bl false)))) →
  ∀Z,J Z->(ts.all p=true->∃Z',bj g F ts Z= .ok (.nx Z')/\J Z')/\(ts.all p=false->bj g F ts Z= .ok (.rt (.bl false)))
 | [],_,Z,hj=>⟨λ_=>⟨Z,rfl,hj⟩,λh=>(by cases h)⟩
 | t::ts,hs,Z,hj=>by
  obtain⟨Z1,h1,h2,h3⟩:=hs t HK Z hj;rw[Oh]
  cases q:p t with
  | false=>exact⟨λh=>(by cases h),λ_=>uO h1 (h3 q)⟩
  | true=>
   obtain⟨Z2,e2,j2⟩:=h2 q;rw[fT h1 e2,LW];exact rJ J ts (λt ht=>hs t (HH _ ht)) Z2 j2
mutual
def sm (n:Nat):T->Bool
 | .dct _ _=>false
 | .scr _=>false
 | .tup l=>decide (l.length<=n)&&sms n l
 | .lst l=>decide (l.length<=n)&&sms n l
 | _=>true
def sms (n:Nat):List T->Bool
 | [] =>true
 | t::l=>sm n t&&sms n l
end
mutual
theorem BZ {n:Nat}:∀(t:T),sm n t=true->t.pl=true
 | .scr _,h=>by simp[sm]at h
 | .dct _ _,h=>by simp[sm]at h
 | .tup l,h=>by rw[sm,Hz]at h;rw[T.pl];exact sms_pl l h.2
 | .lst l,h=>by rw[sm,Hz]at h;rw[T.pl];exact sms_pl l h.2
 | .non,_=>by simp[T.pl]
 | .bl _,_=>by simp[T.pl]
 | .int _,_=>by simp[T.pl]
 | .str _,_=>by simp[T.pl]
theorem sms_pl {n:Nat}:∀(l:List T),sms n l=true->plS l=true
 | [],_=>by simp[plS]
 | t::l,h=>by rw[sms,Hz]at h;rw[plS,BZ t h.1,sms_pl l h.2];rfl
end
theorem ud {n:Nat}:∀{l:List T},sms n l=true↔ ∀t∈l,sm n t=true
 | [] =>by simp[sms]
 | t::l=>by rw[sms,Hz,ud (l:=l)];simp
theorem sm_tup {n:Nat}{l:List T}:sm n (.tup l)=true↔l.length<=n/\∀t∈l,sm n t=true:=by rw[sm,Hz,ud,decide_eq_true_iff]
theorem iW {i j:Int}(h:0<j):jE (.int i) (.int j)= .ok (.int (i % j)):=by show(if _ then _ else _)=_;rw[if_pos h]
theorem k6 {i j:Int}(h:0<j)(h2:j<1073741824):jK (.int i) (.int j)= .ok (.int (i / j)):=by show(if _ then _ else _)=_;rw[if_pos ⟨h,h2⟩]
theorem md {i j:Int}(h : -18446744073709551616<i)(h2:i<18446744073709551616):cm (.int i) (.int j)= .ok (.int (i*j)):=by
 show tE (.int i) (.int j)=_
 show(if _ then _ else _)=_
 rw[if_pos (.inl ⟨by omega,by omega⟩)]
theorem yf {i j:Int}(h : -18446744073709551616<j)(h2:j<18446744073709551616):cm (.int i) (.int j)= .ok (.int (i*j)):=by
 show tE (.int i) (.int j)=_
 show(if _ then _ else _)=_
 rw[if_pos (.inr ⟨by omega,by omega⟩)]
theorem Ed (ns:List Int)(k:Nat)(hn:ns.length<=63):∃c,dW [.scr ns,.int k] = .ok (.int c):=by
 have e0:o2 qh (vr 0) (dM ai) [.va (.scr ns),.va (.int k)] = .ok (.bl (iH ns [])):=by
  refine aF (t:=.scr ns) (u:=.lst []) rfl (nY (ts:=[]) rfl (aE (k:=0) (HL _))) ?_
  unfold qh;rw[if_pos (dz (by simp[T.dep]) rfl rfl)]
  rfl
 cases ns with
 | nil=>
  refine⟨7*k,bW rfl ?_⟩
  unfold gQ
  refine j4 ((jI (bU e0)).trans (cU (aF (t:=.int 7) (u:=.int k) rfl rfl (md (by omega) (by omega)))))
 | cons a r=>
  have hl:(0:Int)<((a::r).length:Nat):=by simp only[HQ];omega
  have hl2:(((a::r).length:Nat):Int)<1073741824:=by simp only[HQ]at hn ⊢;omega
  have hi:k % (a::r).length<(a::r).length:=Nat.mod_lt _ (by simp)
  have g0:o2 jE (vr 1) (cl bS (ae (vr 0) ai)) [.va (.scr (a::r)),.va (.int k)] = .ok (.int ((k % (a::r).length:Nat):Int)):=by
   refine aF (t:=.int k) (u:=.int ((a::r).length:Nat)) rfl ?_ (by rw[iW hl];rfl)
   refine aZ (ts:=[.scr (a::r)]) rfl ?_
   show Rs.ok (T.int (((a::r).map T.int).length:Nat))=_
   rw[HI]
  have g1:aS (.scr (a::r)) (.int ((k % (a::r).length:Nat):Int))= .ok (.int (a::r)[k % (a::r).length]):=by
   have e:((a::r).map T.int)[k % (a::r).length]? =some (.int (a::r)[k % (a::r).length]):=by rw[Ij,HG hi];rfl
   show(match L2.atI ((a::r).map T.int) ((k % (a::r).length:Nat):Int)with | some t=>Rs.ok t | none=> .bad)=_
   rw[i5 e]
  have g2:o2 jK (vr 1) (cl bS (ae (vr 0) ai)) [.va (.scr (a::r)),.va (.int k)] = .ok (.int ((k:Int) / ((a::r).length:Nat))):=by
   refine aF (t:=.int k) (u:=.int ((a::r).length:Nat)) rfl ?_ (k6 hl hl2)
   refine aZ (ts:=[.scr (a::r)]) rfl ?_
   show Rs.ok (T.int (((a::r).map T.int).length:Nat))=_
   rw[HI]
  refine⟨(a::r)[k % (a::r).length] +6553*((k:Int) / ((a::r).length:Nat)),bW rfl ?_⟩
  unfold gQ
  show az _ _ [.va (.scr (a::r)),.va (.int k)] =_
  refine(aC (Z':=[.va (.scr (a::r)),.va (.int k)]) ((dH (bU e0)).trans rfl)).trans ?_
  exact cU (aF (aF (t:=.scr (a::r)) rfl g0 g1) (aF (t:=.int 6553) rfl g2 (md (by omega) (by omega))) rfl)
theorem c9 (ns:List Int)(k:Nat)(m:Int)(hn:ns.length<=63)(hm:0<m):∃r,aA [.scr ns,.int k,.int m] = .ok (.int r)/\0<=r/\r<m:=by
 obtain⟨c,hc⟩:=Ed ns k hn
 have b1:∀x:Int,0<=x % 2147483563/\x % 2147483563<2147483563:=λx=>⟨Nx _ (by omega),Mt _ (by omega)⟩
 have b2:∀x:Int,0<=x % 2147483399/\x % 2147483399<2147483399:=λx=>⟨Nx _ (by omega),Mt _ (by omega)⟩
 generalize hx:(c % 2147483563*69069+104723*((k:Int)+1)) % 2147483563=x
 have hx':=b1 (c % 2147483563*69069+104723*((k:Int)+1));rw[hx]at hx'
 generalize hy:(x*x+x / 3) % 2147483399=y
 have hy':=b2 (x*x+x / 3);rw[hy]at hy';refine⟨(y*y+y / 7) % 2147483647 / 11 % m,bW rfl ?_,Nx _ (by omega),Mt _ hm⟩
 show f9 [.va (.scr ns),.va (.int k),.va (.int m),.em] =_
 unfold f9
 have s1:cI (o2 jE (o2 aQ (o2 cm (o2 jE (cl dW (ae (vr 0) (ae (vr 1) ai))) (cn (.int 2147483563))) (cn (.int 69069))) (o2 cm (cn (.int 104723)) (o2 aQ (vr 1) (cn (.int 1))))) (cn (.int 2147483563))) (gN 3) [.va (.scr ns),.va (.int k),.va (.int m),.em] = .ok (.nx [.va (.scr ns),.va (.int k),.va (.int m),.va (.int x)]):=by
  refine ck (t:=.int x) (aF (u:=.int 2147483563) (aF (aF (u:=.int 69069) (aF (u:=.int 2147483563) (aZ (ts:=[.scr ns,.int k]) rfl hc) rfl (iW (by omega))) rfl (yf (by omega) (by omega))) (aF (t:=.int 104723) (u:=.int ((k:Int)+1)) rfl rfl (md (by omega) (by omega))) rfl) rfl ?_) rfl
  rw[iW (by omega),hx]
 have s2:cI (o2 jE (o2 aQ (o2 cm (vr 3) (vr 3)) (o2 jK (vr 3) (cn (.int 3)))) (cn (.int 2147483399))) (gN 3) [.va (.scr ns),.va (.int k),.va (.int m),.va (.int x)] = .ok (.nx [.va (.scr ns),.va (.int k),.va (.int m),.va (.int y)]):=by
  refine ck (t:=.int y) (aF (u:=.int 2147483399) (aF (aF (t:=.int x) (u:=.int x) rfl rfl (md (by omega) (by omega))) (aF (t:=.int x) (u:=.int 3) rfl rfl (k6 (by omega) (by omega))) rfl) rfl ?_) rfl
  rw[iW (by omega),hy]
 rw[aC s1,aC s2];exact cU (aF (u:=.int m) (aF (u:=.int 11) (aF (u:=.int 2147483647) (aF (aF (t:=.int y) (u:=.int y) rfl rfl (md (by omega) (by omega))) (aF (t:=.int y) (u:=.int 7) rfl rfl (k6 (by omega) (by omega))) rfl) rfl (iW (by omega))) rfl (k6 (by omega) (by omega))) rfl (iW hm))
theorem c7 {ns:List Int}{k:Nat}{m r:Int}{f g h:En->Rs T}{Z:En}(e:aA [.scr ns,.int k,.int m] = .ok (.int r))(h1:f Z= .ok (.scr ns))(h2:g Z= .ok (.int k))(h3:h Z= .ok (.int m)) :
  cl aA (ae f (ae g (ae h ai))) Z= .ok (.int r):=aZ (aw h1 (aw h2 (aw h3 rfl))) e
theorem qV:∀(l:List Int) (z y:Int),kO (l++ [z])=true->z<y->kO (l++ [z] ++ [y])=true
 | [],z,y,_,h=>by simp[kO,h]
 | [a],z,y,h,hy=>by
  simp[kO]at h ⊢
  omega
 | a::b::l,z,y,h,hy=>by
  have h':kO (a::b::(l++ [z]))=true:=h;rw[Au,Hz]at h'
  have ih:=qV (b::l) z y h'.2 hy
  show kO (a::b::(l++ [z] ++ [y]))=true
  rw[Au,h'.1];exact ih
theorem gx:∀l:List Int,nums (l.map .int)=some l
 | [] =>rfl
 | a::l=>by rw[HE,nums,gx l]
def RdOk (l:List Int):Prop:=∃(l':List Int) (z:Int),l=l'++ [z]/\kO l=true/\(∀x∈l,0<=x/\x<=5*l.length)/\z<=5*l.length
abbrev clF:En->Rs Fl:=cI (o2 aQ (vr 3) (bp (ae (o2 aQ (o2 aQ (o2 aS (vr 3) (o1 kE (cn (.int 1)))) (cn (.int 1))) (cl aA (ae (vr 0) (ae (o2 aQ (o2 aQ (vr 1) (cn (.int 3))) (vr 4)) (ae (cn (.int 5)) ai))))) ai))) (gN 3)
theorem Br (l:List T)(z:T):aS (.tup (l++ [z])) (.int (-1))= .ok z:=by
 have e:L2.atI (l++ [z]) (-1)=some z:=by
  unfold L2.atI L2.ixN;simp;rw[if_pos (by omega)]
  have q:(-1+((l.length:Int)+1)).toNat=l.length:=by omega
  show(l++ [z])[(-1+((l.length:Int)+1)).toNat]? =some z
  rw[q];simp
 show(match L2.atI (l++ [z]) (-1)with | some t=>Rs.ok t | none=> .bad)=_
 rw[e]
theorem BI (ns:List Int)(hn:ns.length<=63)(a j:Nat)(s:T)(l:List Int)(h:RdOk l)(hl:l.length<=3):∃l2,clF [.va (.scr ns),.va (.int a),.va s,.va (.tup (l.map .int)),.va (.int j)] = .ok (.nx [.va (.scr ns),.va (.int a),.va s,.va (.tup (l2.map .int)),.va (.int j)])/\RdOk l2/\l2.length=l.length+1:=by
 obtain⟨l',z,rfl,h1,h2,h3⟩:=h;obtain⟨d,ed,d0,d1⟩:=c9 ns (a+3+j) 5 hn (by omega)
 refine⟨l'++ [z] ++ [z+1+d],?_,⟨l'++ [z],z+1+d,rfl,qV l' z _ h1 (by omega),?_,?_⟩,by simp⟩
 ·refine ck (t:=.tup ((l'++ [z] ++ [z+1+d]).map .int)) (aF (t:=.tup ((l'++ [z]).map .int)) (u:=.tup [.int (z+1+d)]) rfl (dG (ts:=[.int (z+1+d)]) (aw (aF (t:=.int (z+1)) (u:=.int d) (aF (t:=.int z) (u:=.int 1) (aF (t:=.tup ((l'++ [z]).map .int)) (u:=.int (-1)) rfl rfl ?_) rfl rfl) (c7 (k:=a+3+j) ed rfl ?_ rfl) rfl) rfl) (aE (k:=1) (by simp))) ?_) rfl
  ·rw[Ju];exact Br _ _
  ·refine aF (t:=.int ((a:Int)+3)) (u:=.int j) (aF (t:=.int a) (u:=.int 3) rfl rfl rfl) rfl ?_
   show Rs.ok (T.int ((a:Int)+3+j))=_
   congr 2
  ·rw[Ju (l₁:=l'++ [z])]
   exact vg _ _ (by rw[HP,HI];simp at hl ⊢;omega)
 ·intro x hx
  rcases IL.mp hx with hx | hx
  ·have:=h2 x hx
   simp only[HP,Je]at this ⊢;omega
  ·rw[Ia]at hx
   subst hx
   have hz:=h2 z (by simp)
   simp only[HP,Je]at h3 ⊢;omega
 ·simp only[HP,Je]at h3 ⊢
  omega
theorem u9 (ns:List Int)(hn:ns.length<=63)(a:Nat)(s:T):∀(js:List Nat) (l:List Int) (s4:Sl),RdOk l->l.length+js.length<=4->∃l2 s5,bj (gN 4) clF (js.map λ(j:Nat)=>T.int j) [.va (.scr ns),.va (.int a),.va s,.va (.tup (l.map .int)),s4] = .ok (.nx [.va (.scr ns),.va (.int a),.va s,.va (.tup (l2.map .int)),s5])/\RdOk l2/\l2.length=l.length+js.length
 | [],l,s4,h,_=>⟨l,s4,rfl,h,rfl⟩
 | j::js,l,s4,h,hl=>by
  rw[HQ]at hl;obtain⟨l2,e2,h2,n2⟩:=BI ns hn a j s l h (by omega)
  obtain⟨l3,s5,e3,h3,n3⟩:=u9 ns hn a s js l2 (.va (.int j)) h2 (by omega)
  refine⟨l3,s5,?_,h3,by rw[n3,n2,HQ];omega⟩
  rw[HE,fT (Z1:=[.va (.scr ns),.va (.int a),.va s,.va (.tup (l.map .int)),.va (.int j)]) rfl e2];exact e3
theorem gV (n:Nat):rng 0 (n:Int)=(HD n).map λ(j:Nat)=>T.int j:=by
 unfold rng;simp
theorem RdOk.reads {l:List Int}(h:RdOk l)(hl:l.length<=4):bP (.tup (l.map .int))=true:=by
 obtain⟨l',z,rfl,h1,h2,h3⟩:=h;unfold bP;rw[Hz];refine⟨?_,?_⟩
 ·simp[dy];simp at hl;omega
 ·show(((l'++ [z]).map T.int).all (λu=>aT u 0 99)&&(match nums ((l'++ [z]).map T.int)with | some m=>kO m | none=>false))=true
  rw[gx]
  show(_&&kO (l'++ [z]))=true
  rw[h1,Bool.and_true,HX];intro t ht;obtain⟨x,hx,rfl⟩:=Ic.mp ht
  have:=h2 x hx;simp only[aT,Hz,decide_eq_true_eq];omega
theorem Al (n:Nat)(l:List Int)(h:l.length<=n):sm n (.tup (l.map .int))=true:=sm_tup.mpr ⟨by rw[HI];exact h,λt ht=>by obtain⟨x,_,rfl⟩:=Ic.mp ht;simp[sm]⟩
theorem zu (ns:List Int)(hn:ns.length<=63)(a:Nat):∃c,bN [.scr ns,.int a] = .ok c/\bc c=true/\sm 8 c=true:=by
 obtain⟨d1,e1,p1,q1⟩:=c9 ns a 3 hn (by omega)
 obtain⟨d2,e2,p2,q2⟩:=c9 ns (a+2) 6 hn (by omega)
 obtain⟨d3,e3,p3,q3⟩:=c9 ns (a+1) 3 hn (by omega)
 obtain⟨d4,e4,p4,q4⟩:=c9 ns (a+6) 3 hn (by omega)
 obtain⟨n3,rfl⟩:=Iy p3;obtain⟨l,s5,el,hl,nl⟩:=u9 ns hn a (.int (1+d1)) (HD n3) [d2] .em ⟨[],d2,rfl,rfl,λx hx=>by rw[Ia]at hx;subst hx;simp;omega,by simp;omega⟩ (by simp;omega)
 have nl':l.length<=4:=by rw[nl];simp;omega
 have hr:=hl.reads nl';refine⟨.tup [.int (1+d1),.int (1+d1+d4),.tup (l.map .int)],bW rfl ?_,?_,?_⟩
 ·show gb [.va (.scr ns),.va (.int a),.em,.em,.em] =_
  unfold gb;rw[aC (Z':=[.va (.scr ns),.va (.int a),.va (.int (1+d1)),.em,.em]) (ck (t:=.int (1+d1)) (aF (t:=.int 1) rfl (c7 e1 rfl rfl rfl) rfl) rfl)];rw[aC (Z':=[.va (.scr ns),.va (.int a),.va (.int (1+d1)),.va (.tup ([d2].map .int)),.em]) (ck (t:=.tup [.int d2]) (dG (ts:=[.int d2]) (aw (c7 (k:=a+2) e2 rfl rfl rfl) rfl) (aE (k:=1) (by simp))) rfl)]
  rw[aC ((iF (EE (aw (c7 (k:=a+1) e3 rfl rfl rfl) rfl) (by omega) (by omega)) (by rw[gV];exact el)))]
  exact cU (dG (aw (t:=.int (1+d1)) rfl (aw (aF (t:=.int (1+d1)) rfl (c7 (k:=a+6) e4 rfl rfl rfl) rfl) (aw (t:=.tup (l.map .int)) rfl rfl))) (aE (k:=3) (by simp)))
 ·show(true&&(kC (.int (1+d1)) (.int (1+d1+d4))&&bP _))=true
  rw[hr];simp only[kC,aT,LW,Bool.and_true,Hz,decide_eq_true_eq];omega
 ·refine sm_tup.mpr ⟨by simp,λt ht=> ?_⟩
  rcases HS.mp ht with rfl | ht
  ·simp[sm]
  ·rcases HS.mp ht with rfl | ht
   ·simp[sm]
   ·rw[Ia]at ht;subst ht;exact Al 8 l (by omega)
theorem kU {y:T}:∀(cs:List T) (i:Nat),y∈dX i cs->∃c k:Nat,y= .tup [.int c,.int k]/\i<=c/\c<i+cs.length/\k<CI (cs.getD (c - i) .non)
 | [],i,h=>by cases h
 | x::cs,i,h=>by
  rw[dX]at h;rcases IL.mp h with h | h
  ·unfold kI at h
   obtain⟨t,ht,rfl⟩:=Ic.mp h;obtain⟨j,rfl,hj⟩:=o9 ht;refine⟨i,j,rfl,HL _,by rw[HQ];omega,?_⟩
   rw[Nt]
   show j<CI x
   omega
  ·obtain⟨c,k,e,h1,h2,h3⟩:=kU cs (i+1) h
   refine⟨c,k,e,by omega,by rw[HQ];omega,?_⟩
   have:c - i=(c - (i+1))+1:=by omega
   rw[this];exact h3
theorem Cb {cs:List T}{y:T}(h:y∈dX 0 cs):aW cs y=true:=by
 obtain⟨c,k,rfl,_,h2,h3⟩:=kU cs 0 h
 show(decide ((0:Int)<=(c:Int))&&decide ((c:Int)<(cs.length:Int))&&(decide ((0:Int)<=(k:Int))&&decide ((k:Int)<(reads cs (c:Int):Int))))=true
 rw[Mq]at h3;rw[nK];simp only[Hz,decide_eq_true_eq];omega
theorem jV:∀(cs:List T) (i:Nat),(dX i cs).Nodup
 | [],i=>Lw
 | x::cs,i=>by
  rw[dX,Ki];refine⟨?_,jV cs (i+1),?_⟩
  ·unfold kI rng
   rw[Jg];rw[Mm,List.pairwise_map];refine List.nodup_range.imp ?_
   intro a b hab e
   simp at e
   exact hab (by omega)
  ·intro a ha b hb e
   subst e;unfold kI at ha;obtain⟨t,ht,rfl⟩:=Ic.mp ha;obtain⟨c,k,e,h1,_,_⟩:=kU cs (i+1) hb
   simp at e
   omega
theorem x6 {l:List T}(h:l.Nodup){i j:Nat}(hi:i<l.length)(hj:j<l.length)(hij:i≠j):l[i] ≠l[j]:=by
 rw[Mm,KQ]at h;rcases J6 i j with q | q
 ·exact h i j hi hj q
 ·exact λe=>h j i hj hi (by omega) e.symm
theorem qg:∀(cs:List T) (i:Nat),(∀c∈cs,bc c=true)->(dX i cs).length<=4*cs.length
 | [],i,_=>HL _
 | x::cs,i,h=>by
  obtain⟨a,b,r,rfl,_,h2⟩:=fg (h x HK)
  have:=qg cs (i+1) λc hc=>h c (HH _ hc)
  rw[dX,HP,gF,HQ]
  show r.length+_<=_
  omega
theorem zh {cs:List T}{a b:T}(ha:aW cs a=true)(hb:aW cs b=true)(h:a≠b):aR a b=false:=by
 obtain⟨c,k,rfl⟩:=dY ha;obtain⟨c',k',rfl⟩:=dY hb;rw[Bool.eq_false_iff];intro e;simp[aR,beqTs]at e;exact h (by rw[e.1,e.2])
theorem qL {cs:List T}{a:T}(ha:aW cs a=true):sm 8 a=true:=by
 obtain⟨c,k,rfl⟩:=dY ha;simp[sm,sms]
theorem yR {l:List T}{i:Nat}(h:i<l.length):aS (.lst l) (.int (i:Int))= .ok l[i]:=by
 show(match L2.atI l (i:Int)with | some t=>Rs.ok t | none=> .bad)=_
 rw[i5 (HG h)]
theorem D7 (a b:Int):qh (.int a) (.int b)= .ok (.bl (a == b)):=by
 unfold qh;rw[if_pos (dz (by simp[T.dep]) rfl rfl)]
 rfl
theorem vZ (ns:List Int)(hn:ns.length<=63)(a:Nat)(cs:List T)(hc:aY (.tup cs)=true):∃r,cE [.scr ns,.int a,.tup cs] = .ok r/\(r= .non\/(bw cs r=true/\sm 8 r=true)):=by
 obtain⟨ha,h1,h4⟩:=cR hc
 have hlen:=qg cs 0 ha
 have er:=zr cs hc
 have gl:∀s4 s5 s6 s7:Sl,cl bS (ae (vr 3) ai) [.va (.scr ns),.va (.int a),.va (.tup cs),.va (.lst (dX 0 cs)),s4,s5,s6,s7] = .ok (.int ((dX 0 cs).length:Nat)):=λ_ _ _ _=>rfl
 have s1:cI (cl cY (ae (vr 2) ai)) (gN 3) [.va (.scr ns),.va (.int a),.va (.tup cs),.em,.em,.em,.em,.em] = .ok (.nx [.va (.scr ns),.va (.int a),.va (.tup cs),.va (.lst (dX 0 cs)),.em,.em,.em,.em]):=ck (aZ (ts:=[.tup cs]) rfl er) rfl
 have lt:o2 EB (cl bS (ae (vr 3) ai)) (cn (.int 2)) [.va (.scr ns),.va (.int a),.va (.tup cs),.va (.lst (dX 0 cs)),.em,.em,.em,.em] = .ok (.bl (decide (((dX 0 cs).length:Int)<2))):=aF (t:=.int ((dX 0 cs).length:Nat)) (u:=.int 2) (gl _ _ _ _) rfl rfl
 by_cases hs:(dX 0 cs).length<2
 ·refine⟨.non,bW rfl ?_,.inl rfl⟩
  show cZ [.va (.scr ns),.va (.int a),.va (.tup cs),.em,.em,.em,.em,.em] =_
  unfold cZ;rw[aC s1];rw[decide_eq_true (by omega)]at lt
  exact j4 ((jI (bU lt)).trans rfl)
 ·rw[decide_eq_false (by omega)]at lt
  generalize hN:(dX 0 cs).length=n at*
  obtain⟨d1,e1,p1,q1⟩:=c9 ns a (n:Int) hn (by omega)
  obtain⟨d2,e2,p2,q2⟩:=c9 ns (a+1) ((n:Int) - 1) hn (by omega)
  obtain⟨d3,e3,p3,q3⟩:=c9 ns (a+2) 8 hn (by omega)
  obtain⟨d4,e4,p4,q4⟩:=c9 ns (a+3) 3 hn (by omega)
  obtain⟨d5,e5,p5,q5⟩:=c9 ns (a+4) 9 hn (by omega)
  obtain⟨i,rfl⟩:=Iy p1;obtain⟨d2,rfl⟩:=Iy p2
  have hi:i<(dX 0 cs).length:=by omega
  have hj:(i+1+d2) % n<(dX 0 cs).length:=by rw[hN];exact Nat.mod_lt _ (by omega)
  have hij:i≠(i+1+d2) % n:=by
   rcases J6 (i+1+d2) n with q | q
   ·rw[Pr q];omega
   ·have:(i+1+d2) % n=i+1+d2 - n:=by
     rw[Nat.mod_eq_sub_mod q,Pr (by omega)]
    rw[this];omega
  have eA:=Cb (Jy hi)
  have eB:=Cb (Jy hj)
  have eN:(dX 0 cs)[i] ≠(dX 0 cs)[(i+1+d2) % n]:=x6 (jV cs 0) hi hj hij
  generalize hA:(dX 0 cs)[i] =A at*
  generalize hB:(dX 0 cs)[(i+1+d2) % n] =B at*
  let y:T:=if d4 == 0 then .non else .int (d3+d5)
  refine⟨.tup [A,B,.int d3,y],bW rfl ?_,.inr ⟨?_,?_⟩⟩
  ·show cZ [.va (.scr ns),.va (.int a),.va (.tup cs),.em,.em,.em,.em,.em] =_
   unfold cZ;rw[aC s1];rw[aC (Z':=[.va (.scr ns),.va (.int a),.va (.tup cs),.va (.lst (dX 0 cs)),.em,.em,.em,.em]) ((dH (bU lt)).trans rfl)];rw[aC (Z':=[.va (.scr ns),.va (.int a),.va (.tup cs),.va (.lst (dX 0 cs)),.va (.int (i:Nat)),.em,.em,.em]) (ck (c7 e1 rfl rfl (gl _ _ _ _)) rfl)];rw[aC (Z':=[.va (.scr ns),.va (.int a),.va (.tup cs),.va (.lst (dX 0 cs)),.va (.int (i:Nat)),.va (.int ((i+1+d2) % n:Nat)),.em,.em]) (ck (t:=.int ((i+1+d2) % n:Nat)) (aF (t:=.int ((i:Int)+1+d2)) (u:=.int n) (aF (t:=.int ((i:Int)+1)) (u:=.int d2) rfl (c7 (k:=a+1) e2 rfl rfl (aF (t:=.int n) (u:=.int 1) (gl _ _ _ _) rfl rfl)) rfl) (gl _ _ _ _) (iW (by omega))) rfl)]
   rw[aC (Z':=[.va (.scr ns),.va (.int a),.va (.tup cs),.va (.lst (dX 0 cs)),.va (.int (i:Nat)),.va (.int ((i+1+d2) % n:Nat)),.va (.int d3),.em]) (ck (c7 (k:=a+2) e3 rfl rfl rfl) rfl)]
   have ey:ED (tb (o2 qh (cl aA (ae (vr 0) (ae (o2 aQ (vr 1) (cn (.int 3))) (ae (cn (.int 3)) ai)))) (cn (.int 0)))) (cn .non) (o2 aQ (vr 6) (cl aA (ae (vr 0) (ae (o2 aQ (vr 1) (cn (.int 4))) (ae (cn (.int 9)) ai))))) [.va (.scr ns),.va (.int a),.va (.tup cs),.va (.lst (dX 0 cs)),.va (.int (i:Nat)),.va (.int ((i+1+d2) % n:Nat)),.va (.int d3),.em] = .ok y:=by
    rw[FT (bU (aF (u:=.int 0) (c7 (k:=a+3) e4 rfl rfl rfl) rfl (D7 _ _)))]
    show _=Rs.ok (if d4 == 0 then T.non else .int (d3+d5))
    cases d4 == 0 with
    | true=>rfl
    | false=>exact aF (t:=.int d3) rfl (c7 (k:=a+4) e5 rfl rfl rfl) rfl
   rw[aC (Z':=[.va (.scr ns),.va (.int a),.va (.tup cs),.va (.lst (dX 0 cs)),.va (.int (i:Nat)),.va (.int ((i+1+d2) % n:Nat)),.va (.int d3),.va y]) (ck ey rfl)];refine cU (dG (aw (t:=A) (aF (t:=.lst (dX 0 cs)) (u:=.int (i:Nat)) rfl rfl ?_) (aw (t:=B) (aF (t:=.lst (dX 0 cs)) (u:=.int ((i+1+d2) % n:Nat)) rfl rfl ?_) (aw (t:=.int d3) rfl (aw (t:=y) rfl rfl)))) (aE (k:=4) (by simp)))
   ·rw[<-hA];exact yR hi
   ·rw[<-hB];exact yR hj
  ·show(dR (.int d3) y&&(aW cs A&&(aW cs B&& !aR A B)))=true
   rw[eA,eB,zh eA eB eN]
   have:dR (.int d3) y=true:=by
    show(aT (.int d3) 0 999&&(match(T.int d3),(if d4 == 0 then T.non else .int (d3+d5))with | _,.non=>true | .int i,_=>aT (if d4 == 0 then T.non else .int (d3+d5)) i 999 | _,_=>false))=true
    cases d4 == 0 with
    | true=>simp[aT];omega
    | false=>simp[aT];omega
   rw[this];rfl
  ·refine sm_tup.mpr ⟨by simp,λt ht=> ?_⟩
   have hy:sm 8 y=true:=by show sm 8 (if d4 == 0 then T.non else .int (d3+d5))=true;cases d4 == 0 <;> simp[sm]
   simp only[HS,II,or_false]at ht;rcases ht with rfl | rfl | rfl | rfl
   ·exact qL eA
   ·exact qL eB
   ·simp[sm]
   ·exact hy
def okv:Rs T->T
 | .ok t=>t
 | _=> .non
theorem uw (l:List T)(k:Int)(h : -(2 ^ 63)<=k/\k<2 ^ 63/\l.length*k.toNat<=sizeLine):cm (.lst l) (.int k)= .ok (.lst (Ib k.toNat l).flatten):=by
 show tE (.lst l) (.int k)=_
 unfold tE;exact if_pos h
theorem mul_one (x:T)(b:Bool):cm (.lst [x]) (.int (if b then 1 else 0))= .ok (.lst (if b then [x]else [])):=by
 cases b with
 | true=>exact uw [x] 1 ⟨by decide,by decide,aE (k:=1) (by simp)⟩
 | false=>exact uw [x] 0 ⟨by decide,by decide,aE (k:=1) (by simp)⟩
abbrev leF:En->Rs Fl:=az (cI (cl cE (ae (vr 0) (ae (o2 aQ (o2 aQ (vr 1) (cn (.int 31))) (o2 cm (cn (.int 6)) (vr 5))) (ae (vr 3) ai)))) (gN 6)) (cI (o2 aQ (vr 4) (o2 cm (dM (ae (vr 6) ai)) (cl yU (ae (o2 kj (vr 6) (cn .non)) ai)))) (gN 4))
def wg (cs ls:List T):Prop:=∀t∈ls,bw cs t=true/\sm 8 t=true
theorem Bi (ns:List Int)(hn:ns.length<=63)(a j:Nat)(m:T)(cs ls:List T)(hc:aY (.tup cs)=true)(h:wg cs ls)(hl:ls.length<=100)(s6:Sl) :
  ∃ls2 s7,leF [.va (.scr ns),.va (.int a),.va m,.va (.tup cs),.va (.lst ls),.va (.int j),s6] = .ok (.nx [.va (.scr ns),.va (.int a),.va m,.va (.tup cs),.va (.lst ls2),.va (.int j),s7])/\wg cs ls2/\ls2.length<=ls.length+1:=by
 obtain⟨r,er,hr⟩:=vZ ns hn (a+31+6*j) cs hc
 have e1:∀G,az (cI (cl cE (ae (vr 0) (ae (o2 aQ (o2 aQ (vr 1) (cn (.int 31))) (o2 cm (cn (.int 6)) (vr 5))) (ae (vr 3) ai)))) (gN 6)) G [.va (.scr ns),.va (.int a),.va m,.va (.tup cs),.va (.lst ls),.va (.int j),s6] =G [.va (.scr ns),.va (.int a),.va m,.va (.tup cs),.va (.lst ls),.va (.int j),.va r]:=λG=>by
  refine aC (ck (t:=r) (aZ (ts:=[.scr ns,.int (a+31+6*j:Nat),.tup cs]) (aw (t:=.scr ns) rfl (aw (t:=.int (a+31+6*j:Nat)) (aF (t:=.int ((a:Int)+31)) (u:=.int (6*(j:Int))) rfl (aF (t:=.int 6) (u:=.int j) rfl rfl (md (by omega) (by omega))) rfl) (aw (t:=.tup cs) rfl rfl))) er) rfl)
 have e2:cl yU (ae (o2 kj (vr 6) (cn .non)) ai) [.va (.scr ns),.va (.int a),.va m,.va (.tup cs),.va (.lst ls),.va (.int j),.va r] = .ok (.int (if !r.isN then 1 else 0)):=aZ (ts:=[.bl (!r.isN)]) rfl rfl
 refine⟨ls++(if !r.isN then [r]else []),.va r,?_,?_,?_⟩
 ·refine(e1 _).trans (ck (aF (t:=.lst ls) (u:=.lst (if !r.isN then [r]else [])) rfl (aF (t:=.lst [r]) (nY (ts:=[r]) rfl (aE (k:=1) (by simp))) e2 (mul_one _ _)) (qv _ _ ?_)) rfl)
  rw[HP];cases r.isN <;> simp <;> omega
 ·intro t ht
  rcases IL.mp ht with ht | ht
  ·exact h t ht
  ·rcases hr with rfl | hr
   ·cases ht
   ·cases q:r.isN with
    | true=>rw[q]at ht;cases ht
    | false=>
     rw[q]at ht;rw[show t=r by simpa using ht]
     exact hr
 ·rw[HP]
  cases r.isN <;> simp
theorem uJ (ns:List Int)(hn:ns.length<=63)(a:Nat)(m:T)(cs:List T)(hc:aY (.tup cs)=true):∀(js:List Nat) (ls:List T) (s5 s6:Sl),wg cs ls->ls.length+js.length<=100 →
  ∃ls2 t5 t6,bj (gN 5) leF (js.map λ(j:Nat)=>T.int j) [.va (.scr ns),.va (.int a),.va m,.va (.tup cs),.va (.lst ls),s5,s6] = .ok (.nx [.va (.scr ns),.va (.int a),.va m,.va (.tup cs),.va (.lst ls2),t5,t6])/\wg cs ls2/\ls2.length<=ls.length+js.length
 | [],ls,s5,s6,h,_=>⟨ls,s5,s6,rfl,h,HL _⟩
 | j::js,ls,s5,s6,h,hl=>by
  rw[HQ]at hl;obtain⟨l2,s7,e2,h2,n2⟩:=Bi ns hn a j m cs ls hc h (by omega) s6
  obtain⟨l3,t5,t6,e3,h3,n3⟩:=uJ ns hn a m cs hc js l2 (.va (.int j)) s7 h2 (by omega)
  refine⟨l3,t5,t6,?_,h3,by rw[HQ];omega⟩
  rw[HE,fT (Z1:=[.va (.scr ns),.va (.int a),.va m,.va (.tup cs),.va (.lst ls),.va (.int j),s6]) rfl e2];exact e3
theorem Eb (ns:List Int)(hn:ns.length<=63)(a m:Nat)(hm:m<=8):∃cs ls,dQ [.scr ns,.int a,.int m] = .ok (RR cs ls)/\aY (.tup cs)=true/\cs.length<=3/\(∀c∈cs,sm 8 c=true)/\wg cs ls/\ls.length<=m:=by
 obtain⟨d1,e1,p1,q1⟩:=c9 ns a 3 hn (by omega)
 obtain⟨d2,e2,p2,q2⟩:=c9 ns (a+30) ((m:Int)+1) hn (by omega)
 obtain⟨d1,rfl⟩:=Iy p1;obtain⟨d2,rfl⟩:=Iy p2
 let hcl:T->T:=λt=>match t with
  | .int k=>okv (bN [.scr ns,.int ((a:Int)+1+8*k)])
  | _=> .non
 have hh:∀t∈rng 0 ((1+d1:Nat):Int),∃k:Nat,t= .int k/\bN [.scr ns,.int ((a+1+8*k:Nat):Int)] = .ok (hcl t)/\bc (hcl t)=true/\sm 8 (hcl t)=true:=λt ht=>by
  obtain⟨k,rfl,_⟩:=o9 ht;obtain⟨c,ec,h1,h2⟩:=zu ns hn (a+1+8*k)
  have e:hcl (.int k)=c:=by
   show okv (bN [.scr ns,.int ((a+1+8*k:Nat):Int)])=c
   rw[ec];rfl
  exact⟨k,rfl,by rw[e];exact ec,by rw[e];exact h1,by rw[e];exact h2⟩
 generalize hcs:(rng 0 ((1+d1:Nat):Int)).map hcl=cs
 have lc:cs.length=1+d1:=by rw[<-hcs,HI,jx]
 have hc:aY (.tup cs)=true:=by
  show(dy (.tup cs) 1 4&&cs.all bc)=true
  rw[Hz,HX];refine⟨by simp[dy];omega,λc h=> ?_⟩
  rw[<-hcs]at h;obtain⟨t,ht,rfl⟩:=Ic.mp h;obtain⟨_,_,_,h1,_⟩:=hh t ht;exact h1
 have hsm:∀c∈cs,sm 8 c=true:=λc h=>by
  rw[<-hcs]at h;obtain⟨t,ht,rfl⟩:=Ic.mp h;obtain⟨_,_,_,_,h1⟩:=hh t ht;exact h1
 obtain⟨ls,t5,t6,el,hl,nl⟩:=uJ ns hn a (.int m) cs hc (HD d2) [] .em .em (λt h=>by cases h) (by simp;omega)
 refine⟨cs,ls,bW rfl ?_,hc,by omega,hsm,hl,by simp at nl;omega⟩
 show ft [.va (.scr ns),.va (.int a),.va (.int m),.em,.em,.em,.em] =_
 unfold ft
 have s1:cI (cl d7 (ae (eF (iR (ae (o2 aQ (cn (.int 1)) (cl aA (ae (vr 0) (ae (vr 1) (ae (cn (.int 3)) ai))))) ai)) [none,some 0,some 1] (gN 0) bT (cl bN (ae (vr 1) (ae (o2 aQ (o2 aQ (vr 2) (cn (.int 1))) (o2 cm (cn (.int 8)) (vr 0))) ai)))) ai)) (gN 3) [.va (.scr ns),.va (.int a),.va (.int m),.em,.em,.em,.em] = .ok (.nx [.va (.scr ns),.va (.int a),.va (.int m),.va (.tup cs),.em,.em,.em]):=by
  refine ck (t:=.tup cs) (aZ (ts:=[.lst cs]) (aw (t:=.lst cs) ?_ rfl) rfl) rfl
  rw[<-hcs];refine rO (ts:=rng 0 ((1+d1:Nat):Int)) (h:=hcl) (EE (aw (t:=.int ((1+d1:Nat):Int)) (aF (t:=.int 1) (u:=.int d1) rfl (c7 e1 rfl rfl rfl) rfl) rfl) (by omega) (by omega)) (aE (k:=3) (by rw[jx];omega)) (by simp) λt ht=> ?_
  obtain⟨k,rfl,ek,_,_⟩:=hh t ht;refine aZ (ts:=[.scr ns,.int ((a+1+8*k:Nat):Int)]) (aw (t:=.scr ns) rfl (aw (aF (t:=.int ((a:Int)+1)) (u:=.int (8*(k:Int))) rfl (aF (t:=.int 8) (u:=.int k) rfl rfl (md (by omega) (by omega))) rfl) rfl)) ek
 rw[aC s1];rw[aC (Z':=[.va (.scr ns),.va (.int a),.va (.int m),.va (.tup cs),.va (.lst []),.em,.em]) (ck (nY (ts:=[]) rfl (aE (k:=0) (by simp))) rfl)]
 rw[aC ((iF (EE (aw (c7 (k:=a+30) e2 rfl rfl (aF (t:=.int m) (u:=.int 1) rfl rfl rfl)) rfl) (by omega) (by omega)) (by rw[gV];exact el)))]
 exact cU (dG (aw (t:=.tup cs) rfl (aw (t:=.tup ls) rfl rfl)) (aE (k:=2) (by simp)))
theorem jH {cs:List T}{t:T}(h:bw cs t=true):∃a b x y,t= .tup [a,b,x,y]/\dR x y=true/\aW cs a=true/\aW cs b=true/\aR a b=false:=by
 unfold bw at h
 split at h
 ·simp only[Hz,OP]at h
  exact⟨_,_,_,_,rfl,h.1,h.2.1,h.2.2.1,h.2.2.2⟩
 ·cases h
theorem CH {cs ls:List T}(hc:aY (.tup cs)=true)(hs:∀c∈cs,sm 8 c=true)(hl:wg cs ls)(hn:ls.length<=8):ko (RR cs ls)=true/\sm 8 (RR cs ls)=true:=by
 refine⟨?_,?_⟩
 ·show(aY (.tup cs)&&(dy (.tup ls) 0 8&&ls.all (bw cs)))=true
  rw[hc,LW,Hz,HX];exact⟨by simp[dy];exact hn,λt ht=>(hl t ht).1⟩
 ·refine sm_tup.mpr ⟨by simp,λt ht=> ?_⟩
  simp only[HS,II,or_false]at ht;rcases ht with rfl | rfl
  ·exact sm_tup.mpr ⟨by have:=(cR hc).2.2;omega,hs⟩
  ·exact sm_tup.mpr ⟨hn,λt ht=>(hl t ht).2⟩
end G
namespace Tr
open PySem
section
variable {f fa fb:En->Rs T}{fs:En->Rs (List T)}{b c:En->Rs Bool}{F G:En->Rs Fl}{Z Z' Z1 Z2:En}{t u r:T}{ts l m:List T}
mutual
theorem j9:∀(t:T),t.pl=true->aR t t=true
 | .non,_=>rfl
 | .bl a,_=>by simp[aR]
 | .int a,_=>by simp[aR]
 | .str a,_=>by simp[aR]
 | .tup l,h=>by rw[aR];exact beqTs_refl l (by unfold T.pl at h;exact h)
 | .lst l,h=>by rw[aR];exact beqTs_refl l (by unfold T.pl at h;exact h)
 | .scr _,h=>by simp[T.pl]at h
theorem beqTs_refl:∀(l:List T),plS l=true->beqTs l l=true
 | [],_=>rfl
 | t::l,h=>by
  unfold plS at h;rw[Hz]at h;rw[beqTs,j9 t h.1,beqTs_refl l h.2];rfl
end
theorem uv (hp:t.pl=true)(hd:t.dep<=60):l9 t t= .ok (.bl false):=by
 unfold l9;rw[if_pos (dz hd (T.GE _ hp) (T.GE _ hp)),j9 t hp];rfl
theorem Bz (hp:t.pl=true)(hd:t.dep<=60):qh t t= .ok (.bl true):=by
 unfold qh;rw[if_pos (dz hd (T.GE _ hp) (T.GE _ hp)),j9 t hp]
theorem pq:∀{l:List T},(∀t∈l,t.pl=true)->plS l=true
 | [],_=>rfl
 | t::l,h=>by unfold plS;rw[h t HK,pq λu hu=>h u (HH _ hu)];rfl
end
end Tr
namespace G
open PySem Tr
def dr (r:List Int)(k:Nat):Int:=r.getD (k+1) 0 - r.getD k 0
def pr (n:Nat)(x y:Int)(r:List Int)(k:Nat):List T:=
 [.tup [.tup [.int n,.int k],.tup [.int n,.int ((k+1:Nat):Int)],.int (dr r k*y)],.tup [.tup [.int n,.int ((k+1:Nat):Int)],.tup [.int n,.int k],.int (-dr r k*x)]]
def cB (n:Nat)(x y:Int)(r:List Int):List T:=(HD (r.length - 1)).flatMap (pr n x y r)
abbrev zM (n:Nat)(x y:Int)(r:List Int)(acc:List T)(s4 s5 s6 s7:Sl):En:=[.va (.int n),.va (.tup [.int x,.int y,.tup (r.map .int)]),.va (.tup (r.map .int)),.ow (.lst acc),s4,s5,s6,s7]
abbrev bcF:En->Rs Fl:=(az (cI (bp (ae (vr 0) (ae (vr 4) ai))) (gN 5)) (az (cI (bp (ae (vr 0) (ae (o2 aQ (vr 4) (cn (.int 1))) ai))) (gN 6)) (az (cI (o2 ig (o2 aS (vr 2) (o2 aQ (vr 4) (cn (.int 1)))) (o2 aS (vr 2) (vr 4))) (gN 7)) (az (m5 3 (bp (ae (vr 5) (ae (vr 6) (ae (o2 cm (vr 7) (o2 aS (vr 1) (cn (.int 1)))) ai))))) (m5 3 (bp (ae (vr 6) (ae (vr 5) (ae (o2 cm (o1 kE (vr 7)) (o2 aS (vr 1) (cn (.int 0)))) ai)))))))))
theorem uT {r:List Int}{k:Nat}(h:k<r.length):(r.map T.int)[k]? =some (.int (r.getD k 0)):=by
 rw[Ij,HG h]
 simp[h]
theorem BM (n:Nat)(x y:Int)(r:List Int)(acc:List T)(k:Nat)(s5 s6 s7:Sl)(hk:k+1<r.length)(hx:0<=x/\x<=9)(hy:0<=y/\y<=9)(ha:acc.length<=100) :
  bcF (zM n x y r acc (.va (.int k)) s5 s6 s7)= .ok (.nx (zM n x y r (acc++pr n x y r k) (.va (.int k)) (.va (.tup [.int n,.int k])) (.va (.tup [.int n,.int ((k+1:Nat):Int)])) (.va (.int (dr r k))))):=by
 have h2:([T.int n,T.int k]:List T).length<=sizeLine:=aE (k:=2) (by simp)
 have ek:((k:Int)+1)=((k+1:Nat):Int):=by omega
 refine(aC (Z':=zM n x y r acc (.va (.int k)) (.va (.tup [.int n,.int k])) s6 s7) (ck (dG rfl (aE (k:=2) (by simp))) rfl)).trans ?_
 refine(aC (Z':=zM n x y r acc (.va (.int k)) (.va (.tup [.int n,.int k])) (.va (.tup [.int n,.int ((k+1:Nat):Int)])) s7) (ck (dG (aw rfl (aw (t:=.int ((k+1:Nat):Int)) (aF (t:=.int k) (u:=.int 1) rfl rfl (congrArg (λz=>Rs.ok (T.int z)) ek)) rfl)) (aE (k:=2) (by simp))) rfl)).trans ?_
 refine(aC (Z':=zM n x y r acc (.va (.int k)) (.va (.tup [.int n,.int k])) (.va (.tup [.int n,.int ((k+1:Nat):Int)])) (.va (.int (dr r k)))) (ck (t:=.int (dr r k)) (aF (t:=.int (r.getD (k+1) 0)) (u:=.int (r.getD k 0)) (Bq (n:=k+1) rfl (aF (t:=.int k) (u:=.int 1) rfl rfl (congrArg (λz=>Rs.ok (T.int z)) ek)) (uT hk)) (Bq (n:=k) rfl rfl (uT (by omega))) rfl) rfl)).trans ?_
 refine(aC (Z':=zM n x y r (acc++ [.tup [.tup [.int n,.int k],.tup [.int n,.int ((k+1:Nat):Int)],.int (dr r k*y)]]) (.va (.int k)) (.va (.tup [.int n,.int k])) (.va (.tup [.int n,.int ((k+1:Nat):Int)])) (.va (.int (dr r k)))) (yQ (l:=acc) (dG (aw rfl (aw rfl (aw (aF (t:=.int (dr r k)) (u:=.int y) rfl rfl (yf (by omega) (by omega))) rfl))) (aE (k:=3) (by simp))) rfl (by omega))).trans ?_
 refine(yQ (l:=acc++ [.tup [.tup [.int n,.int k],.tup [.int n,.int ((k+1:Nat):Int)],.int (dr r k*y)]]) (dG (aw rfl (aw rfl (aw (aF (t:=.int (-dr r k)) (u:=.int x) rfl rfl (yf (by omega) (by omega))) rfl))) (aE (k:=3) (by simp))) rfl (by rw[HP];simp;omega)).trans ?_
 rw[IX]
 rfl
theorem vf (n:Nat)(x y:Int)(r:List Int)(hx:0<=x/\x<=9)(hy:0<=y/\y<=9):∀(js:List Nat) (acc:List T) (s4 s5 s6 s7:Sl),(∀k∈js,k+1<r.length)->acc.length+2*js.length<=100 →
  ∃t4 t5 t6 t7,bj (gN 4) bcF (js.map λ(k:Nat)=>T.int k) (zM n x y r acc s4 s5 s6 s7)= .ok (.nx (zM n x y r (acc++js.flatMap (pr n x y r)) t4 t5 t6 t7))
 | [],acc,s4,s5,s6,s7,_,_=>⟨s4,s5,s6,s7,by simp[bj]⟩
 | k::js,acc,s4,s5,s6,s7,hk,hl=>by
  rw[HQ]at hl
  have e:=BM n x y r acc k s5 s6 s7 (hk k HK) hx hy (by omega)
  obtain⟨t4,t5,t6,t7,ih⟩:=vf n x y r hx hy js (acc++pr n x y r k) (.va (.int k)) (.va (.tup [.int n,.int k])) (.va (.tup [.int n,.int ((k+1:Nat):Int)])) (.va (.int (dr r k))) (λj hj=>hk j (HH _ hj)) (by rw[HP];simp[pr];omega)
  refine⟨t4,t5,t6,t7,?_⟩
  rw[HE,fT (Z1:=zM n x y r acc (.va (.int k)) s5 s6 s7) rfl e,ih,ML,IX]
theorem zA (n:Nat)(x y:Int)(r:List Int)(hx:0<=x/\x<=9)(hy:0<=y/\y<=9)(h1:1<=r.length)(h4:r.length<=4):bM [.int n,.tup [.int x,.int y,.tup (r.map .int)]] = .ok (.lst (cB n x y r)):=by
 refine bW rfl ?_
 show dB [.va (.int n),.va (.tup [.int x,.int y,.tup (r.map .int)]),.em,.em,.em,.em,.em,.em] =_
 unfold dB;rw[aC (Z':=[.va (.int n),.va (.tup [.int x,.int y,.tup (r.map .int)]),.va (.tup (r.map .int)),.em,.em,.em,.em,.em]) (ck (t:=.tup (r.map .int)) rfl rfl)];rw[aC (Z':=zM n x y r [] .em .em .em .em) rfl];obtain⟨t4,t5,t6,t7,e⟩:=vf n x y r hx hy (HD (r.length - 1)) [] .em .em .em .em (λk hk=>by have:=Ik.mp hk;omega) (by simp;omega)
 have e1:iR (ae (o2 ig (cl bS (ae (vr 2) ai)) (cn (.int 1))) ai) (zM n x y r [] .em .em .em .em)= .ok (rng 0 ((r.length - 1:Nat):Int)):=by
  refine EE (j:=((r.length - 1:Nat):Int)) (aw (aF (t:=.int (r.length:Nat)) (u:=.int 1) (aZ (ts:=[.tup (r.map .int)]) rfl (by show Rs.ok (T.int ((r.map T.int).length:Nat))=_;rw[HI])) rfl (congrArg (λz=>Rs.ok (T.int z)) (by omega))) rfl) (by omega) (by omega)
 rw[aC ((iF (ts:=(HD (r.length - 1)).map λ(k:Nat)=>T.int k) (by rw[e1,gV]) e))]
 rfl
theorem iZ {t:T}(h:bc t=true):∃(x y:Int) (r:List Int),t= .tup [.int x,.int y,.tup (r.map .int)]/\(0<=x/\x<=9)/\(0<=y/\y<=9)/\1<=r.length/\r.length<=4:=by
 obtain⟨x,y,r,rfl,h1,h4⟩:=fg h
 have h':(kC x y&&bP (.tup r))=true:=h;rw[Hz]at h';obtain⟨hp,hr⟩:=h';unfold kC at hp;rw[Hz]at hp;obtain⟨i,rfl,i1,i2⟩:=cK hp.1;obtain⟨j,rfl,j1,j2⟩:=cK (t:=y) (a:=i) (b:=9) hp.2;unfold bP at hr;rw[Hz]at hr
 have hr2:((r.all λu=>aT u 0 99)&&(match nums r with | some m=>kO m | none=>false))=true:=hr.2
 rw[Hz]at hr2;obtain⟨m,em⟩:=pM hr2.1
 have e:=lX em;subst e;rw[HI]at h1 h4;exact⟨i,j,m,rfl,⟨by omega,by omega⟩,⟨by omega,by omega⟩,h1,h4⟩
def xB (n:Nat)(t:T):List T:=match t with
 | .tup [.int x,.int y,.tup r] =>match nums r with
  | some m=>cB n x y m
  | none=> []
 | _=> []
def bC:Nat->List T->List T
 | _,[] => []
 | i,c::r=>xB i c++bC (i+1) r
def lB (t:T):List T:=match t with
 | .tup [a,b,.int le,mo] => .tup [b,a,.int (-le)] ::(if mo.isN then []else [.tup [a,b,mo]])
 | _=> []
def BL (cs ls:List T):List T:=bC 0 cs++ls.flatMap lB
theorem qC (n:Nat)(x y:Int)(r:List Int):xB n (.tup [.int x,.int y,.tup (r.map .int)])=cB n x y r:=by
 unfold xB;simp only[gx]
theorem Es (n:Nat)(x y:Int)(r:List Int):(cB n x y r).length=2*(r.length - 1):=by
 unfold cB;rw[List.length_flatMap]
 have:∀l:List Nat,(l.map λk=>(pr n x y r k).length).sum=2*l.length:=by
  intro l
  induction l with
  | nil=>rfl
  | cons a l ih=>rw[HE,JQ,ih,HQ];simp[pr];omega
 rw[this,Jr]
theorem wC {n:Nat}{t:T}(h:bc t=true):(xB n t).length<=6:=by
 obtain⟨x,y,r,rfl,_,_,h1,h4⟩:=iZ h;rw[qC,Es];omega
theorem tQ:∀{cs:List T} {i:Nat},(∀c∈cs,bc c=true)->(bC i cs).length<=6*cs.length
 | [],i,_=>by simp[bC]
 | c::cs,i,h=>by
  rw[bC,HP,HQ]
  have:=wC (n:=i) (h c HK)
  have:=tQ (cs:=cs) (i:=i+1) λc hc=>h c (HH _ hc)
  omega
theorem yG (t:T):(lB t).length<=2:=by
 unfold lB;split
 ·rename_i a b le mo
  cases mo.isN <;> simp
 ·simp
theorem uM:∀(ls:List T),(ls.flatMap lB).length<=2*ls.length
 | [] =>by simp
 | t::ls=>by
  rw[ML,HP,HQ]
  have:=yG t
  have:=uM ls;omega
theorem rL {cs:List T}{t:T}(h:bw cs t=true):∃(a b mo:T) (le:Int),t= .tup [a,b,.int le,mo]/\aW cs a=true/\aW cs b=true:=by
 obtain⟨a,b,x,y,rfl,hd,ha,hb,_⟩:=jH h;unfold dR at hd;rw[Hz]at hd;obtain⟨i,rfl,_⟩:=cK hd.1;exact⟨a,b,y,i,rfl,ha,hb⟩
theorem v3 {cs:List T}{t:T}(h:bw cs t=true):bA [t] = .ok (.lst (lB t)):=by
 obtain⟨a,b,mo,le,rfl,_,_⟩:=rL h;refine bW rfl ?_
 show de [.va (.tup [a,b,.int le,mo]),.em] =_
 unfold de;rw[aC (Z':=[.va (.tup [a,b,.int le,mo]),.ow (.lst [.tup [b,a,.int (-le)]])]) (yL (l:=[.tup [b,a,.int (-le)]]) (aw (dG (aw rfl (aw rfl (aw rfl rfl))) (aE (k:=3) (by simp))) rfl) (by simp) (by simp))]
 have e:∀(Z:En) l,Z= [.va (.tup [a,b,.int le,mo]),.ow (.lst l)]->o2 kj (o2 aS (vr 0) (cn (.int 3))) (cn .non) Z= .ok (.bl (!mo.isN)):=λZ l z=>by subst z;rfl
 have e2:lB (.tup [a,b,.int le,mo])= .tup [b,a,.int (-le)] ::(if mo.isN then []else [.tup [a,b,mo]]):=rfl
 rw[e2]
 cases q:mo.isN with
 | true=>
  rw[aC (Z':=[.va (.tup [a,b,.int le,mo]),.ow (.lst [.tup [b,a,.int (-le)]])]) ((dH (bU (by rw[e _ _ rfl,q];rfl))).trans rfl)]
  rfl
 | false=>
  rw[aC (Z':=[.va (.tup [a,b,.int le,mo]),.ow (.lst ([.tup [b,a,.int (-le)]] ++ [.tup [a,b,mo]]))]) ((jI (bU (by rw[e _ _ rfl,q];rfl))).trans (yQ (l:=[.tup [b,a,.int (-le)]]) (dG (aw rfl (aw rfl (aw rfl rfl))) (aE (k:=3) (by simp))) rfl (by simp)))]
  rfl
abbrev bdF:En->Rs Fl:=lG 1 (cl bM (ae (vr 2) (ae (vr 3) ai)))
abbrev bdG:T->En->Rs En:=gT 2 (rP (gN 2) (rP (gN 3) z5))
theorem ve (R:T)(s4:Sl):∀(cs:List T) (acc:List T) (i:Nat) (s2 s3:Sl),(∀c∈cs,bc c=true)->acc.length+6*cs.length<=100 →
  ∃y2 y3,bj bdG bdF (cA i cs) [.va R,.ow (.lst acc),s2,s3,s4] = .ok (.nx [.va R,.ow (.lst (acc++bC i cs)),y2,y3,s4])
 | [],acc,i,s2,s3,_,_=>⟨s2,s3,by simp[cA,bj,bC]⟩
 | c::cs,acc,i,s2,s3,hc,hl=>by
  have h0:=hc c HK
  have hx:=wC (n:=i) h0;obtain⟨x,y,r,rfl,a1,a2,a3,a4⟩:=iZ h0;rw[HQ]at hl;rw[qC]at hx
  have st:bdF [.va R,.ow (.lst acc),.va (.int i),.va (.tup [.int x,.int y,.tup (r.map .int)]),s4] = .ok (.nx [.va R,.ow (.lst (acc++cB i x y r)),.va (.int i),.va (.tup [.int x,.int y,.tup (r.map .int)]),s4]):=
   yO (l:=acc) (aZ (ts:=[.int i,.tup [.int x,.int y,.tup (r.map .int)]]) rfl (zA i x y r a1 a2 a3 a4)) rfl (by omega)
  obtain⟨z2,z3,ih⟩:=ve R s4 cs (acc++cB i x y r) (i+1) (.va (.int i)) (.va (.tup [.int x,.int y,.tup (r.map .int)])) (λc h=>hc c (HH _ h)) (by rw[HP];omega)
  refine⟨z2,z3,?_⟩
  rw[cA,fT (Z1:=[.va R,.ow (.lst acc),.va (.int i),.va (.tup [.int x,.int y,.tup (r.map .int)]),s4]) rfl st,ih,bC,qC,IX]
abbrev blF:En->Rs Fl:=lG 1 (cl bA (ae (vr 4) ai))
theorem vd (R:T)(cs:List T)(s2 s3:Sl):∀(ls:List T) (acc:List T) (s4:Sl),(∀t∈ls,bw cs t=true)->acc.length+2*ls.length<=100 →
  ∃y4,bj (gN 4) blF ls [.va R,.ow (.lst acc),s2,s3,s4] = .ok (.nx [.va R,.ow (.lst (acc++ls.flatMap lB)),s2,s3,y4])
 | [],acc,s4,_,_=>⟨s4,by simp[bj]⟩
 | t::ls,acc,s4,hl,hn=>by
  rw[HQ]at hn
  have:=yG t
  have st:blF [.va R,.ow (.lst acc),s2,s3,.va t] = .ok (.nx [.va R,.ow (.lst (acc++lB t)),s2,s3,.va t]):=yO (l:=acc) (aZ (ts:=[t]) rfl (v3 (hl t HK))) rfl (by omega)
  obtain⟨y4,ih⟩:=vd R cs s2 s3 ls (acc++lB t) (.va t) (λu h=>hl u (HH _ h)) (by rw[HP];omega)
  refine⟨y4,?_⟩
  rw[fT (Z1:=[.va R,.ow (.lst acc),s2,s3,.va t]) rfl st,ih,ML,IX]
theorem jD {R:T}(hp:R.pl=true)(h:ko R=true):a8 [R] = .ok .non:=by
 refine yJ (Z:=[.va R]) rfl ?_
 show fm [.va R] =_
 unfold fm;exact(dH ((iD (k:=true) (bU (aZ (ts:=[R]) rfl (by rw[zo R hp,h])))))).trans rfl
structure Good (cs ls:List T):Prop where
 c:aY (.tup cs)=true
 l:∀t∈ls,bw cs t=true
 n:ls.length<=8
 p:(RR cs ls).pl=true
theorem Good.ok {cs ls:List T}(g:Good cs ls):ko (RR cs ls)=true:=by
 show(aY (.tup cs)&&(dy (.tup ls) 0 8&&ls.all (bw cs)))=true
 rw[g.c,LW,Hz,HX];exact⟨by simp[dy];exact g.n,g.l⟩
theorem zx {cs ls:List T}(g:Good cs ls):eR [RR cs ls] = .ok (.lst (BL cs ls)):=by
 obtain⟨hc,c1,c4⟩:=cR g.c
 have hn:=g.n;refine bW rfl ?_
 show mX [.va (RR cs ls),.em,.em,.em,.em] =_
 unfold mX;rw[aC (yP (t:=.non) (aZ (ts:=[RR cs ls]) rfl (jD g.p g.ok)))];rw[aC (Z':=[.va (RR cs ls),.ow (.lst []),.em,.em,.em]) (yM (by simp))]
 obtain⟨y2,y3,e⟩:=ve (RR cs ls) .em cs [] 0 .em .em hc (by simp;omega)
 rw[aC ((iF (ts:=cA 0 cs) rfl e))]
 have:=tQ (i:=0) hc;obtain⟨y4,e2⟩:=vd (RR cs ls) cs y2 y3 ls ([] ++bC 0 cs) .em g.l (by rw[K9];omega)
 rw[aC ((iF (ts:=ls) rfl e2))]
 rfl
theorem pj {l:List T}:(T.tup l).pl=plS l:=by unfold T.pl;rfl
theorem Good.parts {cs ls:List T}(g:Good cs ls):(T.tup cs).pl=true/\∀t∈ls,t.pl=true:=by
 have:=g.p;rw[pj]at this;unfold plS at this;rw[Hz]at this
 have h2:=this.2;unfold plS at h2;rw[Hz,pj]at h2;exact⟨this.1,λt ht=>jy h2.1 ht⟩
theorem Good.sub {cs ls ms:List T}(g:Good cs ls)(hm:∀t∈ms,t∈ls)(hn:ms.length<=8):Good cs ms:=⟨g.c,λt ht=>g.l t (hm t ht),hn,by
 obtain⟨h1,h2⟩:=g.parts;rw[pj];refine pq λt ht=> ?_
 simp only[HS,II,or_false]at ht;rcases ht with rfl | rfl
 ·exact h1
 ·rw[pj];exact pq λt ht=>h2 t (hm t ht)⟩
theorem qe {a:Nat}(h:a<=100):qz (a:Int)=true:=by unfold qz;simp;omega
theorem CB {t:T}(h:sm 8 t=true):t.pl=true:=BZ t h
abbrev peF:En->Rs Fl:=lG 1 (eF (iR (ae (cl bS (ae (o2 aS (vr 3) (cn (.int 2))) ai)) ai)) [none,some 2] (gN 0) bT (bp (ae (vr 1) (ae (vr 0) ai))))
theorem xO (c0 s1:Sl)(x y:T)(r:List T)(i:Nat)(h:r.length<=4) :
  eF (iR (ae (cl bS (ae (o2 aS (vr 3) (cn (.int 2))) ai)) ai)) [none,some 2] (gN 0) bT (bp (ae (vr 1) (ae (vr 0) ai))) [c0,s1,.va (.int i),.va (.tup [x,y,.tup r])] = .ok (.lst (kI i r.length)):=
 rO (EE (j:=(r.length:Int)) rfl (by omega) (by omega)) (aE (k:=4) (by rw[jx];exact h)) (by simp) λt _=>mk2 _ _
theorem um:∀(cs:List T) (c0:T) (acc:List T) (i:Nat) (s2 s3:Sl),(∀c∈cs,bc c=true)->acc.length+4*cs.length<=100 →
  ∃y2 y3,bj evG peF (cA i cs) [.va c0,.ow (.lst acc),s2,s3] = .ok (.nx [.va c0,.ow (.lst (acc++dX i cs)),y2,y3])
 | [],c0,acc,i,s2,s3,_,_=>⟨s2,s3,by simp[cA,bj,dX]⟩
 | c::cs,c0,acc,i,s2,s3,hc,hl=>by
  obtain⟨x,y,r,rfl,r1,r2⟩:=fg (hc c HK);rw[HQ]at hl
  have st:peF [.va c0,.ow (.lst acc),.va (.int i),.va (.tup [x,y,.tup r])] = .ok (.nx [.va c0,.ow (.lst (acc++kI i r.length)),.va (.int i),.va (.tup [x,y,.tup r])]):=yO (l:=acc) (xO _ _ x y r i r2) rfl (by rw[gF];omega)
  obtain⟨z2,z3,ih⟩:=um cs c0 (acc++kI i r.length) (i+1) (.va (.int i)) (.va (.tup [x,y,.tup r])) (λc h=>hc c (HH _ h)) (by rw[HP,gF];omega)
  refine⟨z2,z3,?_⟩
  rw[cA,fT (Z1:=[.va c0,.ow (.lst acc),.va (.int i),.va (.tup [x,y,.tup r])]) rfl st,ih,dX,IX]
  rfl
theorem xS {cs ls:List T}(g:Good cs ls):eQ [RR cs ls] = .ok (.lst (dX 0 cs)):=by
 obtain⟨hc,c1,c4⟩:=cR g.c;refine bW rfl ?_
 show mW [.va (RR cs ls),.em,.em,.em] =_
 unfold mW;rw[aC (yP (t:=.non) (aZ (ts:=[RR cs ls]) rfl (jD g.p g.ok)))];rw[aC (Z':=[.va (RR cs ls),.ow (.lst []),.em,.em]) (yM (by simp))]
 obtain⟨y2,y3,e⟩:=um cs (RR cs ls) [] 0 .em .em hc (by simp;omega)
 rw[aC ((iF (ts:=cA 0 cs) rfl e))]
 rfl
theorem nU {g:T->En->Rs En}{F:En->Rs Fl}(J:En->Prop){ts:List T}(h:∀t∈ts,∀Z,J Z->∃Z1 Z2,g t Z= .ok Z1/\F Z1= .ok (.nx Z2)/\J Z2){Z:En}(hj:J Z):∃Z',bj g F ts Z= .ok (.nx Z')/\J Z':=
 (rJ (p:=λ_=>true) J ts (λt ht Z hj=>by
  obtain⟨Z1,Z2,a,b,c⟩:=h t ht Z hj;exact⟨Z1,a,λ_=>⟨Z2,b,c⟩,λh=>by cases h⟩) Z hj).1 (by simp)
theorem p2 {a b:En->Rs T}{t u:T}{Z:En}(ha:a Z= .ok t)(hb:b Z= .ok u):bp (ae a (ae b ai)) Z= .ok (.tup [t,u]):=dG (aw ha (aw hb rfl)) (aE (k:=2) (by simp))
theorem jQ {l:List T}:d7 [.lst l] = .ok (.tup l):=rfl
theorem BK {cs ls:List T}(g:Good cs ls):(BL cs ls).length<=60:=by
 unfold BL;rw[HP];obtain⟨hc,c1,c4⟩:=cR g.c
 have:=tQ (i:=0) hc
 have:=uM ls
 have:=g.n;omega
end G
namespace G
open PySem Tr Gr
structure N2 where
 c:Int
 k:Int
deriving DecidableEq
theorem N2.ext':∀{u v:N2},u.c=v.c->u.k=v.k->u=v
 | ⟨_,_⟩,⟨_,_⟩,rfl,rfl=>rfl
def en (v:N2):T:=.tup [.int v.c,.int v.k]
def eB (x:N2×N2×Int):T:=.tup [en x.1,en x.2.1,.int x.2.2]
def eN (ks:List Nat):List T:=ks.map λk=> .int (k:Nat)
def eW (x:Int×List Nat):T:=.tup [.int x.1,.lst (eN x.2)]
def ky (v:N2):List L2.Key:=[.inl v.c,.inl v.k]
theorem cy (v:N2):keyOf (en v)=some (ky v):=rfl
theorem p9 {u v:N2}(h:some (ky u)=some (ky v)):u=v:=by
 injection h with h
 injection h with h1 h2
 injection h2 with h2 _
 injection h1 with h1
 injection h2 with h2
 exact N2.ext' h1 h2
theorem qi {u v:N2}(h:en u=en v):u=v:=p9 (by rw[<-cy u,<-cy v,h])
theorem zL (u v:N2):aR (en u) (en v)=decide (u=v):=by
 unfold en aR beqTs aR beqTs beqTs
 by_cases h:u=v
 ·subst h;simp[aR]
 ·have:¬ (u.c=v.c/\u.k=v.k):=λz=>h (N2.ext' z.1 z.2)
  simp[h,aR];exact λz=>λy=>this ⟨z,y⟩
theorem u4 (g:N2->T)(v:N2):∀(ns:List N2),nr (ns.map en) (ns.map g) (ky v)=if v∈ns then some (g v)else none
 | [] =>rfl
 | u::ns=>by
  rw[HE,HE,nr,cy]
  by_cases h:u=v
  ·subst h;rw[if_pos rfl,if_pos HK]
  ·rw[if_neg (λz=>h (p9 z)),u4 g v ns]
   have:(v∈u::ns)↔v∈ns:=by rw[HS];exact⟨λz=>z.elim (λy=>absurd y.symm h) id,.inr⟩
   simp only[this]
theorem mJ (x:T)(v:N2)(g:N2->T):∀(ns:List N2),v∉ns->fV (en v) x (ns.map en) (ns.map g)=(ns.map en++ [en v],ns.map g++ [x])
 | [],_=>rfl
 | u::ns,h=>by
  rw[HS,not_or]at h;rw[HE,HE,fV,cy,cy,if_neg (λz=>h.1 (p9 z).symm),mJ x v g ns h.2]
  rfl
theorem uY (x:T)(v:N2)(g:N2->T):∀(ns:List N2),ns.Nodup->v∈ns->fV (en v) x (ns.map en) (ns.map g)=(ns.map en,ns.map λu=>if u=v then x else g u)
 | [],_,h=>by simp at h
 | u::ns,hn,h=>by
  rw[IV]at hn;rw[HE,HE,HE,fV,cy,cy]
  by_cases z:u=v
  ·subst z
   rw[if_pos rfl,if_pos rfl]
   congr 2
   exact Jq λw hw=>by rw[if_neg (λ(y:w=u)=>hn.1 (y▸hw))]
  ·rw[if_neg (λy=>z (p9 y)),if_neg z]
   have h':v∈ns:=(HS.mp h).elim (λy=>absurd y.symm z) id
   rw[uY x v g ns hn.2 h']
theorem gZ {α:Type}[DecidableEq α]:∀{l m:List α},l.Nodup->(∀x∈l,x∈m)->l.length<=m.length
 | [],_,_,_=>IC _
 | x::l,m,hn,h=>by
  rw[IV]at hn
  have hx:=h x HK
  have:=gZ (m:=m.erase x) hn.2 λy hy=>(NP (λ(z:y=x)=>hn.1 (z▸hy))).mpr (h y (HH _ hy))
  rw[List.length_erase_of_mem hx]at this
  have:0<m.length:=List.length_pos_of_mem hx;rw[HQ];omega
def oW (o:Option (Int×List Nat)):T:=match o with
 | some x=>eW x
 | none=> .non
structure DR (P ns:List N2)(b:bH N2):Prop where
 nd:ns.Nodup
 mem:∀v,v∈ns↔(b v).isSome=true
 sub:∀v∈ns,v∈P
def dV (ns:List N2)(b:bH N2):List T:=ns.map λv=>oW (b v)
theorem DR.get {P ns:List N2}{b:bH N2}(D:DR P ns b)(v:N2):nr (ns.map en) (dV ns b) (ky v)=(b v).map eW:=by
 unfold dV;rw[u4 (λv=>oW (b v))]
 have:=D.mem v
 cases q:b v with
 | none=>rw[q]at this;rw[if_neg (λz=>by simpa using this.mp z)];rfl
 | some x=>rw[q]at this;rw[if_pos (this.mpr rfl)];rfl
theorem DR.put {P ns:List N2}{b:bH N2}(D:DR P ns b){v:N2}(hv:v∈P)(y:Int×List Nat):∃ns',DR P ns' (Gr.put b v y)/\fV (en v) (eW y) (ns.map en) (dV ns b)=(ns'.map en,dV ns' (Gr.put b v y)):=by
 by_cases h:v∈ns
 ·refine⟨ns,⟨D.nd,λu=> ?_,D.sub⟩,?_⟩
  ·by_cases z:u=v
   ·subst z;rw[dv];exact⟨λ_=>rfl,λ_=>h⟩
   ·rw[iN z];exact D.mem u
  ·unfold dV
   rw[uY _ _ _ _ D.nd h]
   congr 1
   refine Jq λu _=> ?_
   by_cases z:u=v
   ·subst z;rw[if_pos rfl,dv];rfl
   ·rw[if_neg z,iN z]
 ·refine⟨ns++ [v],⟨?_,λu=> ?_,λu hu=> ?_⟩,?_⟩
  ·exact Ki.mpr ⟨D.nd,by simp,λx hx y hy=>by simp at hy;subst hy;exact λz=>h (z▸hx)⟩
  ·rw[IL,Ia]
   by_cases z:u=v
   ·subst z;rw[dv];exact⟨λ_=>rfl,λ_=> .inr rfl⟩
   ·rw[iN z,<-D.mem u];exact⟨λw=>w.elim id λy=>absurd y z,.inl⟩
  ·rcases IL.mp hu with w | w
   ·exact D.sub u w
   ·rw[Ia.mp w];exact hv
  ·unfold dV
   rw[mJ _ _ _ _ h,Ju,Ju]
   congr 1
   congr 1
   ·refine Jq λu hu=> ?_
    rw[iN (λ(z:u=v)=>h (z▸hu))]
   ·simp[dv,oW]
theorem zy {P ns:List N2}{b:bH N2}(D:DR P ns b)(x:N2×N2×Int)(d:Int)(w:List Nat) :
  cP [.dct (ns.map en) (dV ns b),eB x,eW (d,w)] = .ok (.bl (dA b x.2.1 (d+x.2.2))):=by
 refine bW rfl ?_
 show gP [.va (.dct (ns.map en) (dV ns b)),.va (eB x),.va (eW (d,w)),.em] =_
 unfold gP
 have g:oD gg (vr 0) (o2 aS (vr 1) (cn (.int 1))) [.va (.dct (ns.map en) (dV ns b)),.va (eB x),.va (eW (d,w)),.em] = .ok (oW (b x.2.1)):=by
  refine FO (ks:=ns.map en) (vs:=dV ns b) (u:=en x.2.1) rfl rfl ?_
  unfold gg;rw[cy];simp only[D.get];cases b x.2.1 <;> rfl
 rw[aC (ck (t:=oW (b x.2.1)) (Z':=[.va (.dct (ns.map en) (dV ns b)),.va (eB x),.va (eW (d,w)),.va (oW (b x.2.1))]) g rfl)];refine cU ?_
 unfold dA
 cases q:b x.2.1 with
 | none=>exact DQ (aF (t:=.non) (u:=.non) rfl rfl rfl)
 | some y=>exact(DS (aF (t:=eW y) (u:=.non) rfl rfl rfl)).trans (aF (t:=.int (d+x.2.2)) (u:=.int y.1) rfl rfl rfl)
abbrev zX:En->Rs Fl:=(az (cI (ln 2 (oD gg (vr 2) (o2 aS (vr 5) (cn (.int 0))))) (gN 6)) (az (eV (mY (tb (o2 jJ (vr 6) (cn .non))) (cL (DG 2 (tb (cl cP (ae (vr 2) (ae (vr 5) (ae (vr 6) ai)))))))) B0 sN) (az (cI (o2 aQ (o2 aS (vr 6) (cn (.int 1))) (dM (ae (vr 4) ai))) (gN 7)) (az (cI (eF (iS (vr 7)) [none,some 0] (gN 0) bT (o2 aS (o2 aS (vr 1) (vr 0)) (cn (.int 0)))) (gN 8)) (az (eV (tb (o2 z4 (o2 aS (vr 5) (cn (.int 1))) (vr 8))) (aL (bp (ae (cn .non) (ae (sl (vr 7) (pS (oL eZ (vr 8) (o2 aS (vr 5) (cn (.int 1))))) pN) ai)))) sN) (az (vz 2 (o2 aS (vr 5) (cn (.int 1))) (bp (ae (o2 aQ (o2 aS (vr 6) (cn (.int 0))) (o2 aS (vr 5) (cn (.int 2)))) (ae (vr 7) ai)))) (cI (cn (.bl true)) (gN 3))))))))
abbrev Gx:T->En->Rs En:=gT 2 (rP (gN 4) (rP (gN 5) z5))
def eL (L:bZ N2):T:=.lst (L.map eB)
def wV (L:bZ N2)(t:T):T:=match t with
 | .int j=>match L[j.toNat]? with
  | some x=>en x.1
  | none=> .non
 | _=> .non
theorem uq {L:bZ N2}:∀{ks:List Nat} {a b:N2},Ch L a ks b->(eN ks).map (wV L)=(dD L ks).map en
 | [],_,_,_=>rfl
 | k::r,a,b,h=>by
  rw[h.GS];obtain⟨c,m,e,h⟩:=h
  show wV L (.int k)::(eN r).map (wV L)=en a::(dD L r).map en
  rw[uq h]
  congr 1
  unfold wV;simp only[IM,e]
theorem zO (v:N2):∀(l:List N2),fK (en v) (l.map en)=decide (v∈l)
 | [] =>rfl
 | u::l=>by
  have ih:=zO v l;unfold fK at ih ⊢;rw[HE,Kn,ih,zL]
  by_cases h:u=v
  ·subst h;simp
  ·have h':¬ v=u:=λz=>h z.symm
   simp[h,h']
theorem rR (v:N2):∀(l:List N2) (n:Nat),v∈l->ie (en v) (l.map en) n=some (n+l.idxOf v)
 | [],n,h=>by simp at h
 | u::l,n,h=>by
  rw[HE,ie,zL,PY]
  by_cases z:u=v
  ·subst z;simp
  ·have h':v∈l:=(HS.mp h).elim (λy=>absurd y.symm z) id
   have zb:(u == v)=false:=by rw[beq_eq_false_iff_ne];exact z
   rw[zb,decide_eq_false z,if_neg Ig,rR v l (n+1) h'];simp only[cond_false]
   congr 1
   omega
theorem B7 (v:N2):(en v).nd=true:=rfl
theorem pZ {α:Type}(f:α->T)(h:∀a,(f a).nd=true):∀l:List α,nds (l.map f)=true
 | [] =>rfl
 | a::l=>by rw[HE,nds,h a,pZ f h l];rfl
theorem zF (v:N2):(en v).dep<=60:=by show(T.tup [.int v.c,.int v.k]).dep<=60;simp[T.dep,deps]
theorem FZ (v:N2)(l:List N2):z4 (en v) (.lst (l.map en))= .ok (.bl (decide (v∈l))):=by
 show(if (_\/_)/\_/\(T.lst (l.map en)).nd=true then _ else _)=_
 rw[if_pos ⟨.inl (zF v),rfl,pZ en B7 l⟩,zO]
theorem yW (v:N2)(l:List N2)(h:v∈l):eZ (.lst (l.map en)) (en v)= .ok (.int ((l.idxOf v:Nat):Int)):=by
 unfold eZ;simp only;rw[if_pos ⟨.inl (zF v),rfl,pZ en B7 l⟩,rR v l 0 h,Mr]
theorem Ee (p q:List Nat):eN (p++q)=eN p++eN q:=by unfold eN;rw[Ju]
theorem x9 (D:Bool):∀ks:List Nat,nks D (eN ks)=true
 | [] =>rfl
 | k::r=>by show nks D (.int k::eN r)=true;unfold nks;rw[x9 D r];rfl
theorem Ch.len {L:bZ N2}{ks:List Nat}{a b:N2}(h:Ch L a ks b)(hn:(dD L ks).Nodup):ks.length<=L.length:=by
 have:=gZ (h.nodup hn) (m:=HD L.length) λk hk=>Ik.mpr (h.lt k hk)
 rwa [Jr]at this
abbrev sE (L:bZ N2)(st:T)(o:OT)(b:Bool)(k:Nat)(x:N2×N2×Int)(s6 s7 s8:Sl):En:=[.va (eL L),.va st,.ow o,.va (.bl b),.va (.int k),.va (eB x),s6,s7,s8]
def Cf (L:bZ N2)(P ns:List N2)(b:bH N2)(k:Nat)(x:N2×N2×Int)(st:T)(mv:Bool)(s6 s7 s8:Sl):Sum (Option (bH N2)) (List Nat)->Prop
 | .inl none=> ∃s6' s7' s8',zX (sE L st (.dct (ns.map en) (dV ns b)) mv k x s6 s7 s8)= .ok (.ct (sE L st (.dct (ns.map en) (dV ns b)) mv k x s6' s7' s8'))
 | .inl (some b')=> ∃ns' s6' s7' s8',DR P ns' b'/\zX (sE L st (.dct (ns.map en) (dV ns b)) mv k x s6 s7 s8)= .ok (.nx (sE L st (.dct (ns'.map en) (dV ns' b')) true k x s6' s7' s8'))
 | .inr q=>zX (sE L st (.dct (ns.map en) (dV ns b)) mv k x s6 s7 s8)= .ok (.rt (.tup [.non,.lst (eN q)]))
theorem Aq {L:bZ N2}{S P ns:List N2}{b:bH N2}{k:Nat}{x:N2×N2×Int}(K:Kept L S b)(D:DR P ns b)(hL:L.length<=500)(hP:P.length<1000)(e:L[k]? =some x)(hx:x.2.1∈P)(st:T)(mv:Bool)(s6 s7 s8:Sl) :
  Cf L P ns b k x st mv s6 s7 s8 (fE L b k x):=by
 obtain⟨a,c,m⟩:=x;unfold Cf
 generalize hks:ns.map en=ks
 generalize hvs:dV ns b=vs
 have get:∀s7 s8,ln 2 (oD gg (vr 2) (o2 aS (vr 5) (cn (.int 0)))) (sE L st (.dct ks vs) mv k (a,c,m) s6 s7 s8)= .ok (oW (b a)):=λs7 s8=>by
  refine k_ln (o:=.dct ks vs) rfl (FO (ks:=ks) (vs:=vs) (u:=en a) rfl rfl ?_) ?_
  ·unfold gg
   rw[cy,<-hks,<-hvs];simp only[D.get];cases b a <;> rfl
  ·cases b a with
   | none=>rfl
   | some y=>show nks true [.int y.1,.lst (eN y.2)] =true;simp[nks,T.nk,x9]
 have s1:∀G,az (cI (ln 2 (oD gg (vr 2) (o2 aS (vr 5) (cn (.int 0))))) (gN 6)) G (sE L st (.dct ks vs) mv k (a,c,m) s6 s7 s8)=G (sE L st (.dct ks vs) mv k (a,c,m) (.va (oW (b a))) s7 s8):=λG=>
  aC (ck (t:=oW (b a)) (get s7 s8) rfl)
 cases qa:b a with
 | none=>
  rw[show fE L b k (a,c,m)= .inl none from by unfold fE;simp only[qa]]
  simp only;refine⟨.va .non,s7,s8,?_⟩
  unfold zX;rw[s1,qa]
  exact yK (jI (F:=B0) (FN (bU (aF (t:=.non) (u:=.non) rfl rfl rfl))))
 | some y=>
  obtain⟨d,w⟩:=y
  have bt:∀s7 s8,DG 2 (tb (cl cP (ae (vr 2) (ae (vr 5) (ae (vr 6) ai))))) (sE L st (.dct ks vs) mv k (a,c,m) (.va (eW (d,w))) s7 s8)= .ok (dA b c (d+m)):=λs7 s8=>by
   refine FP (bU (aZ (ts:=[.dct ks vs,eB (a,c,m),eW (d,w)]) rfl ?_))
   rw[<-hks,<-hvs];exact zy D (a,c,m) d w
  have nn:tb (o2 jJ (vr 6) (cn .non)) (sE L st (.dct ks vs) mv k (a,c,m) (.va (eW (d,w))) s7 s8)= .ok false:=bU (aF (t:=eW (d,w)) (u:=.non) rfl rfl rfl)
  have cond:=uN nn (iD (bt s7 s8))
  have s1':∀G,az (cI (ln 2 (oD gg (vr 2) (o2 aS (vr 5) (cn (.int 0))))) (gN 6)) G (sE L st (.dct ks vs) mv k (a,c,m) s6 s7 s8)=G (sE L st (.dct ks vs) mv k (a,c,m) (.va (eW (d,w))) s7 s8):=λG=>by rw[s1 G,qa];rfl
  cases hb:dA b c (d+m)with
  | false=>
   rw[show fE L b k (a,c,m)= .inl none from by unfold fE;simp only[qa,hb];rfl]
   simp only;rw[hb]at cond;refine⟨.va (eW (d,w)),s7,s8,?_⟩
   unfold zX;rw[s1']
   exact yK (jI (F:=B0) cond)
  | true=>
   rw[hb]at cond;obtain⟨s,hs,h1,h2,h3,h4,h5⟩:=K.walk a d w qa
   have hch:Ch L s (w++ [k]) c:=h1.snoc e
   have hwl:w.length<=500:=Ii (Ch.len h1 h4) hL
   have s2:∀G,az (eV (mY (tb (o2 jJ (vr 6) (cn .non))) (cL (DG 2 (tb (cl cP (ae (vr 2) (ae (vr 5) (ae (vr 6) ai)))))))) B0 sN) G (sE L st (.dct ks vs) mv k (a,c,m) (.va (eW (d,w))) s7 s8)=G (sE L st (.dct ks vs) mv k (a,c,m) (.va (eW (d,w))) s7 s8):=λG=>
    aC (Z':=(sE L st (.dct ks vs) mv k (a,c,m) (.va (eW (d,w))) s7 s8)) ((dH (F:=B0) (G:=sN) cond).trans rfl)
   have wk:o2 aQ (o2 aS (vr 6) (cn (.int 1))) (dM (ae (vr 4) ai)) (sE L st (.dct ks vs) mv k (a,c,m) (.va (eW (d,w))) s7 s8)= .ok (.lst (eN (w++ [k]))):=by
    refine aF (t:=.lst (eN w)) (u:=.lst (eN [k])) rfl (nY (ts:=[.int k]) rfl (aE (k:=1) (by simp))) ?_
    show iC (eN w++eN [k])=_
    rw[<-Ee];unfold iC;rw[if_pos (aE (k:=1000) (by unfold eN;rw[HI,HP];simp;omega))]
   have s3:∀G,az (cI (o2 aQ (o2 aS (vr 6) (cn (.int 1))) (dM (ae (vr 4) ai))) (gN 7)) G (sE L st (.dct ks vs) mv k (a,c,m) (.va (eW (d,w))) s7 s8)=G (sE L st (.dct ks vs) mv k (a,c,m) (.va (eW (d,w))) (.va (.lst (eN (w++ [k])))) s8):=λG=>aC (ck wk rfl)
   have ps:eF (iS (vr 7)) [none,some 0] (gN 0) bT (o2 aS (o2 aS (vr 1) (vr 0)) (cn (.int 0))) (sE L st (.dct ks vs) mv k (a,c,m) (.va (eW (d,w))) (.va (.lst (eN (w++ [k])))) s8)= .ok (.lst ((dD L (w++ [k])).map en)):=by
    rw[<-uq hch];refine rO (ts:=eN (w++ [k])) (mB rfl) (aE (k:=1000) (by unfold eN;rw[HI,HP];simp;omega)) (by simp) λt ht=> ?_
    unfold eN at ht;obtain⟨j,hj,rfl⟩:=Ic.mp ht
    have hjl:=hch.lt j hj;refine aF (t:=eB L[j]) (u:=.int 0) (FR (l:=L.map eB) (n:=j) rfl rfl (by rw[Ij,HG hjl];rfl)) rfl ?_
    unfold wV;simp only[IM,HG hjl]
    rfl
   have s4:∀G,az (cI (eF (iS (vr 7)) [none,some 0] (gN 0) bT (o2 aS (o2 aS (vr 1) (vr 0)) (cn (.int 0)))) (gN 8)) G (sE L st (.dct ks vs) mv k (a,c,m) (.va (eW (d,w))) (.va (.lst (eN (w++ [k])))) s8)=G (sE L st (.dct ks vs) mv k (a,c,m) (.va (eW (d,w))) (.va (.lst (eN (w++ [k])))) (.va (.lst ((dD L (w++ [k])).map en)))):=λG=>aC (ck ps rfl)
   have inn:tb (o2 z4 (o2 aS (vr 5) (cn (.int 1))) (vr 8)) (sE L st (.dct ks vs) mv k (a,c,m) (.va (eW (d,w))) (.va (.lst (eN (w++ [k])))) (.va (.lst ((dD L (w++ [k])).map en))))= .ok (decide (c∈dD L (w++ [k]))):=
    bU (aF (t:=en c) (u:=.lst ((dD L (w++ [k])).map en)) rfl rfl (FZ c _))
   by_cases hn:c∈dD L (w++ [k])
   ·rw[show fE L b k (a,c,m)= .inr ((w++ [k]).drop ((dD L (w++ [k])).idxOf c))from by unfold fE;simp only[qa,hb,if_pos hn,if_true]]
    simp only;unfold zX;rw[s1',s2,s3,s4];rw[decide_eq_true hn]at inn;refine j4 ((jI inn).trans (cU ?_))
    have sle:sl (vr 7) (pS (oL eZ (vr 8) (o2 aS (vr 5) (cn (.int 1))))) pN (sE L st (.dct ks vs) mv k (a,c,m) (.va (eW (d,w))) (.va (.lst (eN (w++ [k])))) (.va (.lst ((dD L (w++ [k])).map en))))= .ok (.lst (eN ((w++ [k]).drop ((dD L (w++ [k])).idxOf c)))):=by
     rw[B9 (l:=eN (w++ [k])) (lo:=some (((dD L (w++ [k])).idxOf c:Nat):Int)) (hi:=none) rfl (Bo (k_oL (ks:=(dD L (w++ [k])).map en) (u:=en c) rfl rfl (yW c _ hn))) rfl,r8];unfold eN;rw[List.map_drop]
    exact(dG (ts:=[.non,.lst (eN ((w++ [k]).drop ((dD L (w++ [k])).idxOf c)))]) (aw rfl (aw sle rfl)) (aE (k:=2) (by simp)))
   ·rw[show fE L b k (a,c,m)= .inl (some (Gr.put b c (d+m,w++ [k])))from by unfold fE;simp only[qa,hb,if_neg hn,if_true]]
    simp only;rw[decide_eq_false hn]at inn;obtain⟨ns',D',hd⟩:=D.put hx (d+m,w++ [k]);refine⟨ns',.va (eW (d,w)),.va (.lst (eN (w++ [k]))),.va (.lst ((dD L (w++ [k])).map en)),D',?_⟩
    unfold zX;rw[s1',s2,s3,s4];rw[aC (Z':=(sE L st (.dct ks vs) mv k (a,c,m) (.va (eW (d,w))) (.va (.lst (eN (w++ [k])))) (.va (.lst ((dD L (w++ [k])).map en))))) ((dH (G:=sN) inn).trans rfl)]
    have pt:vz 2 (o2 aS (vr 5) (cn (.int 1))) (bp (ae (o2 aQ (o2 aS (vr 6) (cn (.int 0))) (o2 aS (vr 5) (cn (.int 2)))) (ae (vr 7) ai))) (sE L st (.dct ks vs) mv k (a,c,m) (.va (eW (d,w))) (.va (.lst (eN (w++ [k])))) (.va (.lst ((dD L (w++ [k])).map en))))
      = .ok (.nx (sE L st (.dct (ns'.map en) (dV ns' (Gr.put b c (d+m,w++ [k])))) mv k (a,c,m) (.va (eW (d,w))) (.va (.lst (eN (w++ [k])))) (.va (.lst ((dD L (w++ [k])).map en))))):=by
     have ev:bp (ae (o2 aQ (o2 aS (vr 6) (cn (.int 0))) (o2 aS (vr 5) (cn (.int 2)))) (ae (vr 7) ai)) (sE L st (.dct ks vs) mv k (a,c,m) (.va (eW (d,w))) (.va (.lst (eN (w++ [k])))) (.va (.lst ((dD L (w++ [k])).map en))))= .ok (eW (d+m,w++ [k])):=
      dG (ts:=[.int (d+m),.lst (eN (w++ [k]))]) rfl (aE (k:=2) (by simp))
     have ek:o2 aS (vr 5) (cn (.int 1)) (sE L st (.dct ks vs) mv k (a,c,m) (.va (eW (d,w))) (.va (.lst (eN (w++ [k])))) (.va (.lst ((dD L (w++ [k])).map en))))= .ok (en c):=rfl
     show(bp _ _ >>= λv=>o2 aS (vr 5) (cn (.int 1)) _ >>= λkk=>match keyOf kk with | some _=>if ks.length<1000 then Rs.ok (Fl.nx _)else .bad | none=> .bad)=_
     rw[ev,aB,ek,aB,cy]
     have hlen:ks.length<1000:=by rw[<-hks,HI];exact Ku (gZ D.nd D.sub) hP
     simp only[if_pos hlen]
     have hd1:fV (en c) (eW (d+m,w++ [k])) ks vs=(ns'.map en,dV ns' (Gr.put b c (d+m,w++ [k]))):=by rw[<-hks,<-hvs];exact hd
     rw[hd1]
     rfl
    rw[aC pt];exact ck (t:=.bl true) rfl rfl
def wq (L:bZ N2)(st:T)(ns:List N2)(b:bH N2)(mv:Bool)(s4 s5 s6 s7 s8:Sl):En:=[.va (eL L),.va st,.ow (.dct (ns.map en) (dV ns b)),.va (.bl mv),s4,s5,s6,s7,s8]
def zR (L:bZ N2)(P:List N2)(st:T)(X:Rs Fl):Sum (bH N2×Bool) (List Nat)->Prop
 | .inr q=>X= .ok (.rt (.tup [.non,.lst (eN q)]))
 | .inl (b',mv')=> ∃ns' s4 s5 s6 s7 s8,DR P ns' b'/\X= .ok (.nx (wq L st ns' b' mv' s4 s5 s6 s7 s8))
theorem oR {L:bZ N2}{S P:List N2}(hL:L.length<=500)(hP:P.length<1000)(hx:∀x∈L,x.2.1∈P)(st:T):∀(r:bZ N2) (k:Nat) (b:bH N2) (mv:Bool) (ns:List N2) (s4 s5 s6 s7 s8:Sl),L.drop k=r->Kept L S b->DR P ns b →
  zR L P st (bj Gx zX (cA k (r.map eB)) (wq L st ns b mv s4 s5 s6 s7 s8)) (gc L k r b mv)
 | [],k,b,mv,ns,s4,s5,s6,s7,s8,_,K,D=>⟨ns,s4,s5,s6,s7,s8,D,rfl⟩
 | x::r,k,b,mv,ns,s4,s5,s6,s7,s8,hr,K,D=>by
  have e:L[k]? =some x:=by
   have:=congrArg (·[0]?) hr
   simpa using this
  have hr':L.drop (k+1)=r:=by
   have:=congrArg (List.drop 1) hr
   simpa [List.drop_drop,O9]using this
  have tg:Gx (.tup [.int k,eB x]) (wq L st ns b mv s4 s5 s6 s7 s8)= .ok [.va (eL L),.va st,.ow (.dct (ns.map en) (dV ns b)),.va (.bl mv),.va (.int k),.va (eB x),s6,s7,s8]:=rfl
  have tn:=Aq K D hL hP e (hx x (IF e)) st mv s6 s7 s8;rw[gc,HE,cA]
  cases q:fE L b k x with
  | inr w=>
   rw[q]at tn;simp only;unfold zR
   exact uO tg tn
  | inl o=>
   rw[q]at tn
   cases o with
   | none=>
    obtain⟨s6',s7',s8',tn⟩:=tn;simp only;rw[Bp tg tn]
    exact oR hL hP hx st r (k+1) b mv ns _ _ _ _ _ hr' K D
   | some b'=>
    obtain⟨ns',s6',s7',s8',D',tn⟩:=tn;simp only;rw[fT tg tn];refine oR (S:=S) hL hP hx st r (k+1) b' true ns' _ _ _ _ _ hr' ?_ D'
    -- what is kept stays so
    obtain⟨a,c,m⟩:=x;unfold fE at q
    cases qa:b a with
    | none=>simp only[qa]at q;cases q
    | some y=>
     obtain⟨d,w⟩:=y;simp only[qa]at q
     split at q
     ·rename_i hb
      split at q
      ·cases q
      ·rename_i hn
       cases q;exact K.put e qa hb hn
     ·cases q
abbrev wF:En->Rs Fl:=az (cI (cn (.bl false)) (gN 3)) (gu (iE (ae (vr 0) ai)) Gx zX)
def SetP (L:bZ N2)(P:List N2)(st:T)(X:Rs Fl):Sum (bH N2) (List Nat)->Prop
 | .inr q=>X= .ok (.rt (.tup [.non,.lst (eN q)]))
 | .inl b'=> ∃ns' s4 s5 s6 s7 s8,DR P ns' b'/\X= .ok (.nx (wq L st ns' b' false s4 s5 s6 s7 s8))
theorem qP {L:bZ N2}{S P:List N2}(hL:L.length<=500)(hP:P.length<1000)(hx:∀x∈L,x.2.1∈P)(st:T):∀(n:Nat) (b:bH N2) (ns:List N2) (s4 s5 s6 s7 s8:Sl) (r:Sum (bH N2) (List Nat)),Kept L S b->DR P ns b->Gr.settle L n b=some r →
  SetP L P st (ba (tb (vr 3)) wF (n+1) (wq L st ns b true s4 s5 s6 s7 s8)) r
 | 0,_,_,_,_,_,_,_,_,_,_,h=>by cases h
 | n+1,b,ns,s4,s5,s6,s7,s8,r,K,D,h=>by
  have sw:=oR hL hP hx st L 0 b false ns s4 s5 s6 s7 s8 rfl K D
  have ok:=gi (S:=S) L 0 b false rfl K
  have body:∀X,bj Gx zX (cA 0 (L.map eB)) (wq L st ns b false s4 s5 s6 s7 s8)= .ok X->wF (wq L st ns b true s4 s5 s6 s7 s8)= .ok X:=λX hX=>by
   show az _ _ _=_
   rw[aC (Z':=wq L st ns b false s4 s5 s6 s7 s8) (ck (t:=.bl false) rfl rfl)];exact iF (ts:=cA 0 (L.map eB)) (FV rfl) hX
  have tt:tb (vr 3) (wq L st ns b true s4 s5 s6 s7 s8)= .ok true:=rfl;rw[Gr.settle]at h
  revert sw ok h
  generalize gc L 0 L b false=R
  intro h sw ok
  cases R with
  | inr q=>
   simp only at h;cases h
   exact yI tt (body _ sw)
  | inl p=>
   obtain⟨b',mv'⟩:=p;obtain⟨ns',t4,t5,t6,t7,t8,D',sw⟩:=sw;obtain⟨K',_⟩:=ok
   cases mv' with
   | true=>
    simp only at h
    have ih:=qP hL hP hx st n b' ns' t4 t5 t6 t7 t8 r K' D' h;rw[my tt (body _ sw)]
    exact ih
   | false=>
    simp only at h;cases h;refine⟨ns',t4,t5,t6,t7,t8,D',?_⟩
    rw[my tt (body _ sw)];exact rN rfl
theorem fN {c:En->Rs Bool}{F:En->Rs Fl}{x:Fl}:∀{n m:Nat} {Z:En},n<=m->ba c F n Z= .ok x->ba c F m Z= .ok x
 | 0,_,_,_,h=>by cases h
 | n+1,0,_,hl,_=>absurd hl (by omega)
 | n+1,m+1,Z,hl,h=>by
  unfold ba at h ⊢
  cases q:c Z with
  | bad=>rw[q]at h;cases h
  | err _=>rw[q]at h;cases h
  | ok k=>
   rw[q]at h
   cases k with
   | false=>exact h
   | true=>
    simp only at h ⊢
    cases q2:F Z with
    | bad=>rw[q2]at h;cases h
    | err _=>rw[q2]at h;cases h
    | ok f=>
     rw[q2]at h
     cases f with
     | nx Z'=>exact fN (by omega) h
     | ct Z'=>exact fN (by omega) h
     | bk Z'=>exact h
     | rt t=>exact h
theorem xI (w:T):∀S:List N2,EA (S.map λv=> .tup [en v,w])=some (S.map λv=>(en v,w))
 | [] =>rfl
 | v::S=>by rw[HE,EA,cy,xI w S];rfl
theorem rX (w:T):∀(S ns:List N2) (g:N2->T),(ns++S).Nodup->(∀v∈S,g v=w)->gG (S.map λv=>(en v,w)) (ns.map en,ns.map g)=((ns++S).map en,(ns++S).map g)
 | [],ns,g,_,_=>by rw[JH];rfl
 | v::S,ns,g,hn,hg=>by
  have hv:v∉ns:=λz=>by
   rw[Ki]at hn;exact hn.2.2 v z v HK rfl
  rw[HE,gG,mJ _ _ _ _ hv]
  have e1:ns.map en++ [en v] =(ns++ [v]).map en:=by rw[Ju];rfl
  have e2:ns.map g++ [w] =(ns++ [v]).map g:=by rw[Ju,<-hg v HK];rfl
  rw[e1,e2,rX w S (ns++ [v]) g (by rw[IX];exact hn) λu hu=>hg u (HH _ hu),IX]
  rfl
theorem BG (w:T)(S:List N2)(hn:S.Nodup)(hl:S.length<=1000):uZ [.lst (S.map λv=> .tup [en v,w])] = .ok (.dct (S.map en) (S.map λ_=>w)):=by
 unfold uZ;simp only[xI];rw[if_pos (by rw[HI];exact hl)]
 have:=rX w S [] (λ_=>w) (by simpa using hn) (λ_ _=>rfl)
 rw[K9]at this;rw[show(([]:List T),([]:List T))=(([]:List N2).map en,([]:List N2).map λ_=>w)from rfl,this]
def eS (S:List N2):T:=.lst (S.map en)
def BP (L:bZ N2)(P:List N2)(X:Rs T):Sum (bH N2) (List Nat)->Prop
 | .inr q=>X= .ok (.tup [.non,.lst (eN q)])
 | .inl b'=> ∃ns',DR P ns' b'/\X= .ok (.tup [.dct (ns'.map en) (dV ns' b'),.non])
structure Gs (L:bZ N2)(P:List N2):Prop where
 len:L.length<=500
 size:size L<=100000000
 ends:∀x∈L,x.1∈P/\x.2.1∈P
 pl:P.length<1000
def SOk (L:bZ N2)(S:List N2):Sum (bH N2) (List Nat)->Prop
 | .inr q=>Bar L q
 | .inl b'=>Settled L S b'
theorem rV {L:bZ N2}{S P:List N2}(F:Gs L P)(hS:S.Nodup)(hSP:∀v∈S,v∈P):∃r,BP L P (dU [eL L,eS S]) r/\SOk L S r:=by
 have bound:L.length*(2*size L+1)<1000000000000 - 1:=by
  have h1:=F.len
  have h2:=F.size
  have:L.length*(2*size L+1)<=500*(2*100000000+1):=Nat.mul_le_mul h1 (by omega)
  omega
 obtain⟨r,hr,ok⟩:=sL L S bound
 have ok':SOk L S r:=by cases r <;> exact ok
 refine⟨r,?_,ok'⟩
 have hSl:S.length<=1000:=Ii (gZ hS hSP) (by have:=F.pl;omega)
 have D0:DR P S (Gr.start S):=⟨hS,λv=>by unfold Gr.start;by_cases h:v∈S <;> simp[h],hSP⟩
 have dv0:dV S (Gr.start S)=S.map λ_=>eW (0,[]):=Jq λv hv=>by unfold Gr.start;rw[if_pos hv];rfl
 have w:=qP F.len F.pl (λx hx=>(F.ends x hx).2) (eS S) _ (Gr.start S) S .em .em .em .em .em r (mx L S) D0 hr
 have lc:eF (iS (vr 1)) [none] (gN 0) bT (bp (ae (vr 0) (ae (bp (ae (cn (.int 0)) (ae (dM ai) ai))) ai))) [.va (eL L),.va (eS S),.em,.em,.em,.em,.em,.em,.em] = .ok (.lst (S.map λv=> .tup [en v,eW (0,[])])):=by
  have:=rO (fi:=iS (vr 1)) (src:=[none]) (fe:=bp (ae (vr 0) (ae (bp (ae (cn (.int 0)) (ae (dM ai) ai))) ai))) (h:=λt=> .tup [t,eW (0,[])]) (Z:=[.va (eL L),.va (eS S),.em,.em,.em,.em,.em,.em,.em]) (ts:=S.map en) (mB rfl) (aE (k:=1000) (by rw[HI];exact hSl)) (by simp) λt _=>
   dG (ts:=[t,eW (0,[])]) (aw rfl (aw (dG (ts:=[.int 0,.lst []]) (aw rfl (aw (nY (ts:=[]) rfl (IC _)) rfl)) (aE (k:=2) (by simp))) rfl)) (aE (k:=2) (by simp))
  rw[this,Jg];rfl
 have n0:nJ 2 (eF (iS (vr 1)) [none] (gN 0) bT (bp (ae (vr 0) (ae (bp (ae (cn (.int 0)) (ae (dM ai) ai))) ai)))) [.va (eL L),.va (eS S),.em,.em,.em,.em,.em,.em,.em] = .ok (.nx [.va (eL L),.va (eS S),.ow (.dct (S.map en) (dV S (Gr.start S))),.em,.em,.em,.em,.em,.em]):=by
  unfold nJ;rw[lc,aB,BG _ S hS hSl,aB,dv0]
  rfl
 have main:∀G X,ba (tb (vr 3)) wF FU (wq L (eS S) S (Gr.start S) true .em .em .em .em .em)= .ok X->gL [.va (eL L),.va (eS S),.em,.em,.em,.em,.em,.em,.em] =G->(az (ba (tb (vr 3)) wF FU) (o8 2 (aL (bp (ae (vr 2) (ae (cn .non) ai)))))) (wq L (eS S) S (Gr.start S) true .em .em .em .em .em)=G:=λG X _ h=>by
  rw[<-h];unfold gL;rw[aC n0,aC (Z':=wq L (eS S) S (Gr.start S) true .em .em .em .em .em) (ck (t:=.bl true) rfl rfl)]
 cases r with
 | inr q=>
  have w':=fN (m:=FU) (by unfold FU;omega) w
  refine bW rfl ?_
  show gL [.va (eL L),.va (eS S),.em,.em,.em,.em,.em,.em,.em] =_
  rw[<-main _ _ w' rfl]
  exact j4 w'
 | inl b'=>
  obtain⟨ns',s4,s5,s6,s7,s8,D',w⟩:=w
  have w':=fN (m:=FU) (by unfold FU;omega) w
  refine⟨ns',D',bW rfl ?_⟩
  show gL [.va (eL L),.va (eS S),.em,.em,.em,.em,.em,.em,.em] =_
  rw[<-main _ _ w' rfl,aC w'];exact FX (cU (dG (ts:=[.dct (ns'.map en) (dV ns' b'),.non]) rfl (aE (k:=2) (by simp))))
theorem mh {α:Type}{f:α->T}{p:α->Prop}:∀{l:List T},(∀t∈l,∃x,t=f x/\p x)->∃L:List α,l=L.map f/\∀x∈L,p x
 | [],_=>⟨[],rfl,λ_ h=>nomatch h⟩
 | t::l,h=>by
  obtain⟨x,e,hx⟩:=h t HK;obtain⟨L,e2,h2⟩:=mh (l:=l) λu hu=>h u (HH _ hu)
  exact⟨x::L,by rw[e,e2];rfl,λy hy=>(HS.mp hy).elim (λz=>z▸hx) (h2 y)⟩
theorem mL {t:T}(h:bc t=true):∃(x y:Int) (r:List Int),t= .tup [.int x,.int y,.tup (r.map .int)]/\(0<=x/\x<=9)/\(0<=y/\y<=9)/\∀k,0<=r.getD k 0/\r.getD k 0<=99:=by
 obtain⟨x,y,r,rfl,h1,h2,h3,h4⟩:=iZ h;refine⟨x,y,r,rfl,h1,h2,λk=> ?_⟩
 have h':(kC (.int x) (.int y)&&bP (.tup (r.map .int)))=true:=h;rw[Hz]at h'
 have hr:=h'.2;unfold bP at hr;rw[Hz]at hr
 have hr2:(((r.map T.int).all λu=>aT u 0 99)&&(match nums (r.map .int)with | some m=>kO m | none=>false))=true:=hr.2
 rw[Hz]at hr2
 by_cases hk:k<r.length
 ·have:=HX.mp hr2.1 (.int r[k]) (Ic.mpr ⟨_,Jy hk,rfl⟩)
  obtain⟨i,e,a,b⟩:=cK this;cases e;simp[hk];exact⟨a,b⟩
 ·simp[hk]
theorem uz {cs:List T}{i:Nat}:∀{cs0:List T} {c k:Nat},i<=c->c<i+cs0.length->k<CI (cs0.getD (c - i) .non)->T.tup [.int c,.int k] ∈dX i cs0:=by
 intro cs0
 induction cs0 generalizing i with
 | nil=>intro c k h1 h2;simp at h2;omega
 | cons a r ih=>
  intro c k h1 h2 h3;rw[dX,IL]
  by_cases e:c=i
  ·subst e
   rw[Nt]at h3
   have h3':k<CI a:=h3;exact .inl (Ic.mpr ⟨.int k,Bg h3',rfl⟩)
  ·refine .inr (ih (by omega) (by rw[HQ]at h2;omega) ?_)
   rw[show c - i=(c - (i+1))+1 by omega]at h3
   exact h3
theorem n8 {cs:List T}{t:T}(h:aW cs t=true):t∈dX 0 cs:=by
 obtain⟨c,k,rfl⟩:=dY h;unfold aW at h;simp only[Hz,decide_eq_true_eq]at h;obtain⟨⟨h1,h2⟩,h3,h4⟩:=h;obtain⟨c,rfl⟩:=Iy h1;obtain⟨k,rfl⟩:=Iy h3;rw[nK]at h4;exact uz (cs:=cs) (IC _) (by omega) (by rw[Mq];omega)
theorem zi {cs:List T}{t:T}(h:t∈dX 0 cs):∃v:N2,t=en v/\True:=by
 obtain⟨c,k,rfl,_⟩:=kU cs 0 h;exact⟨⟨c,k⟩,rfl,trivial⟩
def big (x:N2×N2×Int):Prop:=x.2.2.natAbs<=999
theorem nR {a b:Int}(ha : -99<=a/\a<=99)(hb:0<=b/\b<=9):(a*b).natAbs<=999:=by
 rw[Int.natAbs_mul]
 have h1:a.natAbs<=99:=by omega
 have h2:b.natAbs<=9:=by omega
 exact Ii (Nat.mul_le_mul h1 h2) (by decide)
theorem Ce {cs0:List T}:∀{cs:List T} {i:Nat},(∀c∈cs,bc c=true)->(∀c k:Nat,i<=c->c<i+cs.length->k<CI (cs.getD (c - i) .non)->T.tup [.int c,.int k] ∈dX 0 cs0) →
  ∀t∈bC i cs,∃x,t=eB x/\(en x.1∈dX 0 cs0/\en x.2.1∈dX 0 cs0/\big x)
 | [],_,_,_,t,h=>by simp[bC]at h
 | c::cs,i,hc,hm,t,h=>by
  rw[bC,IL]at h;rcases h with h | h
  ·obtain⟨x,y,r,rfl,hx,hy,hr⟩:=mL (hc c HK)
   have hm0:∀k,k<r.length->T.tup [.int i,.int k] ∈dX 0 cs0:=λk hk=>hm i k (HL _) (by simp) (by rw[Nt];show k<(r.map T.int).length;rw[HI];exact hk)
   rw[qC]at h;unfold cB at h;obtain⟨k,hk,hp⟩:=M8.mp h
   have hk:=Ik.mp hk
   have d : -99<=dr r k/\dr r k<=99:=by have:=hr k;have:=hr (k+1);unfold dr;omega
   unfold pr at hp;simp only[HS,II,or_false]at hp;rcases hp with rfl | rfl
   ·exact⟨(⟨i,k⟩,⟨i,((k+1:Nat):Int)⟩,dr r k*y),rfl,hm0 k (by omega),hm0 (k+1) (by omega),nR d hy⟩
   ·exact⟨(⟨i,((k+1:Nat):Int)⟩,⟨i,k⟩,-dr r k*x),rfl,hm0 (k+1) (by omega),hm0 k (by omega),nR (by omega) hx⟩
  ·exact Ce (cs:=cs) (i:=i+1) (λc h=>hc c (HH _ h)) (λc k h1 h2 h3=>hm c k (by omega) (by rw[HQ];omega) (by rw[show c - i=(c - (i+1))+1 by omega];exact h3)) t h
theorem FK {cs:List T}{u:T}(hu:bw cs u=true):∀t∈lB u,∃x,t=eB x/\(en x.1∈dX 0 cs/\en x.2.1∈dX 0 cs/\big x):=by
 intro t ht;obtain⟨a,b,x,y,rfl,hd,ha,hb,_⟩:=jH hu
 have ma:=n8 ha
 have mb:=n8 hb;obtain⟨va,rfl,_⟩:=zi ma;obtain⟨vb,rfl,_⟩:=zi mb;unfold dR at hd;rw[Hz]at hd;obtain⟨i,rfl,i1,i2⟩:=cK hd.1
 have e2:lB (.tup [en va,en vb,.int i,y])= .tup [en vb,en va,.int (-i)] ::(if y.isN then []else [.tup [en va,en vb,y]]):=rfl
 rw[e2]at ht;rcases HS.mp ht with rfl | ht
 ·exact⟨(vb,va,-i),rfl,mb,ma,by unfold big;simp only;omega⟩
 ·cases q:y.isN with
  | true=>rw[q]at ht;simp at ht
  | false=>
   rw[q]at ht
   have ht:t= .tup [en va,en vb,y]:=by simpa using ht
   have hw:aT y i 999=true:=by
    cases y with
    | non=>cases q
    | _=>exact hd.2
   obtain⟨j,rfl,j1,j2⟩:=cK hw;exact⟨(va,vb,j),ht,ma,mb,by unfold big;simp only;omega⟩
structure Rd (cs ls:List T)(L:bZ N2)(P:List N2):Prop where
 g:Good cs ls
 b:BL cs ls=L.map eB
 e:dX 0 cs=P.map en
 f:Gs L P
 nd:P.Nodup
 pl:P.length<=16
 ll:L.length<=60
 bg:∀x∈L,big x
theorem An {L:bZ N2}(h:∀x∈L,big x):size L<=999*L.length:=by
 unfold size
 induction L with
 | nil=>simp
 | cons x L ih=>
  rw[HE,JQ,HQ]
  have:=ih λy hy=>h y (HH _ hy)
  have:=h x HK;unfold big at this;omega
theorem x5 {P:List N2}(h:(P.map en).Nodup):P.Nodup:=by
 induction P with
 | nil=>exact Lw
 | cons a r ih=>
  rw[HE,IV]at h;exact IV.mpr ⟨λz=>h.1 (Ic.mpr ⟨a,z,rfl⟩),ih h.2⟩
theorem nL {cs ls:List T}(g:Good cs ls):∃L P,Rd cs ls L P:=by
 obtain⟨hc,c1,c4⟩:=cR g.c;obtain⟨P,eP,_⟩:=mh (f:=en) (p:=λ_=>True) (l:=dX 0 cs) λt ht=>zi ht
 have key:∀t∈BL cs ls,∃x,t=eB x/\(en x.1∈dX 0 cs/\en x.2.1∈dX 0 cs/\big x):=λt ht=>by
  unfold BL at ht;rw[IL]at ht;rcases ht with h | h
  ·exact Ce hc (λc k h1 h2 h3=>uz (cs:=cs) h1 h2 h3) t h
  ·obtain⟨u,hu,h⟩:=M8.mp h
   exact FK (g.l u hu) t h
 obtain⟨L,eL,hL⟩:=mh key
 have mem:∀v:N2,en v∈dX 0 cs->v∈P:=λv hv=>by
  rw[eP]at hv;obtain⟨u,hu,e⟩:=Ic.mp hv;rw[<-qi e];exact hu
 have hl:=BK g;rw[eL,HI]at hl
 have hp:=qg cs 0 hc;rw[eP,HI]at hp
 have hs:=An λx hx=>(hL x hx).2.2
 exact⟨L,P,g,eL,eP,⟨by omega,by omega,λx hx=>⟨mem _ (hL x hx).1,mem _ (hL x hx).2.1⟩,by omega⟩,x5 (eP▸jV cs 0),by omega,hl,λx hx=>(hL x hx).2.2⟩
theorem Dh {l:List T}:(T.lst l).pl=plS l:=by unfold T.pl;rfl
def run (L:bZ N2):N2->List Nat->Option N2
 | a,[] =>some a
 | a,k::r=>match L[k]? with
  | some x=>if x.1=a then run L x.2.1 r else none
  | none=>none
section
variable {cs ls:List T}{L:bZ N2}{P:List N2}
theorem Rd.bounds (R:Rd cs ls L P):eR [RR cs ls] = .ok (eL L):=by rw[zx R.g,R.b];rfl
end
section
variable {cs ls:List T}{L:bZ N2}{P:List N2}
theorem Rd.events (R:Rd cs ls L P):eQ [RR cs ls] = .ok (eS P):=by rw[xS R.g,R.e];rfl
theorem Ei {ns:List N2}{b:bH N2}(D:DR P ns b){v:N2}{x:Int×List Nat}(e:b v=some x):rZ (.dct (ns.map en) (dV ns b)) (en v)= .ok (eW x):=by
 unfold rZ;simp only[cy];rw[D.get,e];rfl
def tmT (P:List N2)(t:N2->Int):T:=.tup (P.map λv=> .int (t v))
def Gv (b:bH N2)(v:N2):Int:=match b v with
 | some x=>x.1
 | none=>0
def atT (t:N2->Int)(u:T):T:=match u with
 | .tup [.int c,.int k] => .int (t ⟨c,k⟩)
 | _=> .non
theorem Rd.Hn (R:Rd cs ls L P):(¬gK L/\g8 [(RR cs ls)] = .ok .non)\/(gK L/\∃t b,Settled L P b/\(∀v∈P,∃w,b v=some (t v,w))/\g8 [(RR cs ls)] = .ok (tmT P t)):=by
 obtain⟨r,hr,ok⟩:=rV R.f R.nd (λv h=>h)
 have wrap:∀{w:T},cS [(RR cs ls),eL L] = .ok w->g8 [(RR cs ls)] = .ok w:=λ{w} e=>bW rfl (cU (aZ (ts:=[(RR cs ls),eL L]) (aw rfl (aw (aZ (ts:=[(RR cs ls)]) rfl R.bounds) rfl)) e))
 have begin_:∀{x z:T} {y:Rs Fl},dU [eL L,eS P] = .ok (.tup [x,z])->((az (eV (tb (o2 jJ (vr 3) (cn .non))) (aL (cn .non)) sN) (aL (cl d7 (ae (eF (iS (vr 2)) [none,some 3] (gN 0) bT (o2 aS (o2 rZ (vr 1) (vr 0)) (cn (.int 0)))) ai)))) [.va (RR cs ls),.va (eL L),.va (eS P),.va x] =y)->dO [.va (RR cs ls),.va (eL L),.em,.em] =y:=λ{x z y} hs hy=>by
  unfold dO;rw[aC (Z':=[.va (RR cs ls),.va (eL L),.va (eS P),.em]) (ck (aZ (ts:=[(RR cs ls)]) rfl R.events) rfl)];rw[aC (Z':=[.va (RR cs ls),.va (eL L),.va (eS P),.va x]) (ck (aF (u:=.int 0) (aZ (ts:=[eL L,eS P]) rfl hs) rfl rfl) rfl)];exact hy
 cases r with
 | inr q=>exact .inl ⟨λn=>absurd n (Bar.neg ok),wrap (bW rfl (begin_ hr (j4 ((jI (bU (aF (t:=.non) (u:=.non) rfl rfl rfl))).trans rfl))))⟩
 | inl b=>
  obtain⟨ns,D,hr⟩:=hr
  have ok:Settled L P b:=ok
  have htm:∀v∈P,∃w,b v=some (Gv b v,w):=λv hv=>by
   obtain⟨d,w,e,_⟩:=ok.least v hv v 0 (.nil v);exact⟨w,by unfold Gv;rw[e]⟩
  refine .inr ⟨(ok.holds R.f.ends htm).G7,Gv b,b,ok,htm,wrap (bW rfl (begin_ hr ?_))⟩
  generalize Gv b=tm at htm
  have lc:eF (iS (vr 2)) [none,some 3] (gN 0) bT (o2 aS (o2 rZ (vr 1) (vr 0)) (cn (.int 0))) [.va (RR cs ls),.va (eL L),.va (eS P),.va (.dct (ns.map en) (dV ns b))] = .ok (.lst ((P.map en).map (atT tm))):=
   rO (ts:=P.map en) (mB rfl) (aE (k:=16) (by rw[HI];exact R.pl)) (by simp) λt ht=>by
    obtain⟨v,hv,rfl⟩:=Ic.mp ht;obtain⟨w,e⟩:=htm v hv;exact aF (t:=eW (tm v,w)) (u:=.int 0) (aF (t:=.dct (ns.map en) (dV ns b)) (u:=en v) rfl rfl (Ei D e)) rfl rfl
  rw[Jg]at lc;rw[aC (Z':=[.va (RR cs ls),.va (eL L),.va (eS P),.va (.dct (ns.map en) (dV ns b))]) ((dH (bU (aF (t:=.dct (ns.map en) (dV ns b)) (u:=.non) rfl rfl rfl))).trans rfl)];exact cU (aZ (aw lc rfl) rfl)
theorem Rd.Hr (R:Rd cs ls L P):∃hw:Bool,aH [(RR cs ls)] = .ok (.bl hw)/\(hw=true↔gK L):=by
 rcases R.Hn with⟨n,e⟩ | ⟨n,t,b,_,_,e⟩
 ·exact⟨false,bW rfl (cU (aF (t:=.non) (u:=.non) (aZ (ts:=[(RR cs ls)]) rfl e) rfl rfl)),λz=>(by cases z),λz=>absurd z n⟩
 ·exact⟨true,bW rfl (cU (aF (t:=tmT P t) (u:=.non) (aZ (ts:=[(RR cs ls)]) rfl e) rfl rfl)),λ_=>n,λ_=>rfl⟩
end
section
variable {cs ls:List T}{L:bZ N2}{P:List N2}{ns:List Int}
theorem u5 {k:Nat}:∀{l:List T},(∀t∈l,t.dep<=k)->deps l<=k
 | [],_=>by unfold deps;omega
 | t::l,h=>by
  unfold deps;exact Nat.max_le.mpr ⟨h t HK,u5 λu hu=>h u (HH _ hu)⟩
end
theorem ye {n:Int}{t:T}(ht:t.pl=true)(h:aT t 0 (n - 1)=true):dP [.int n,t] = .ok .non:=by
 refine yJ (Z:=[.va (.int n),.va t]) rfl ?_
 show fo [.va (.int n),.va t] =_
 unfold fo;exact(dH (iD (k:=true) (bU (aZ (ts:=[t,.int 0,.int (n - 1)]) rfl (by rw[dZ _ _ _ ht,h]))))).trans rfl
theorem zB {x y:N2×N2×Int}(h:eB x=eB y):x=y:=by
 obtain⟨a,b,m⟩:=x;obtain⟨a',b',m'⟩:=y;unfold eB at h
 have h':=T.tup.inj h;simp only[PH,T.int.injEq,and_true]at h';rw[qi h'.1,qi h'.2.1,h'.2.2]
theorem AV {a b:T}(ha:a.pl=true)(hb:b.pl=true):(T.tup [a,b]).pl=true:=by simp[T.pl,plS,ha,hb]
def m6 (l:List T)(n:Nat):List T:=l.take n++l.drop (n+1)
theorem A7 (l:List T)(n:Nat):(m6 l n).length<=l.length:=by unfold m6;rw[HP,J1,J2];omega
section
variable {cs ls:List T}{L M:bZ N2}{P:List N2}{f:sk N2}{ns:List Int}{t:N2->Int}
theorem Rd.same {ms:List T}{M:bZ N2}{Q:List N2}(R:Rd cs ls L P)(S:Rd cs ms M Q):Q=P:=by
 have:P.map en=Q.map en:=by rw[<-R.e,<-S.e]
 clear R S
 induction P generalizing Q with
 | nil=>cases Q with
  | nil=>rfl
  | cons a Q=>simp at this
 | cons v P ih=>cases Q with
  | nil=>simp at this
  | cons a Q=>
   rw[HE,HE,PH]at this;rw[qi this.1,ih this.2]
end
end G
namespace G
open PySem Tr Gr
open Classical in
def tb_ (P:List N2)(L:bZ N2):Option (List (Option Int)):=if gK L then some (P.flatMap λu=>P.map (table P L u))else none
section
variable {cs ls ms:List T}{L M:bZ N2}{P:List N2}
def deB (t:T):N2×N2×Int:=match t with
 | .tup [.tup [.int a,.int b],.tup [.int c,.int d],.int m] =>(⟨a,b⟩,⟨c,d⟩,m)
 | _=>(⟨0,0⟩,⟨0,0⟩,0)
def lim (cs ls:List T):bZ N2:=(BL cs ls).map deB
theorem Rd.G1 (R:Rd cs ls L P):lim cs ls=L:=by
 unfold lim;rw[R.b,Jg];exact(Jq λx _=>show deB (eB x)=x by obtain⟨a,b,m⟩:=x;rfl).trans (PN L)
theorem Rd.sub (R:Rd cs ls L P)(h:∀u∈ms,u∈ls)(hn:ms.length<=8):Rd cs ms (lim cs ms) P:=by
 obtain⟨M,Q,S⟩:=nL (R.g.sub h hn);obtain rfl:=R.same S;rw[S.G1];exact S
theorem Rd.to (R:Rd cs ls L P)(g:Good cs ms):Rd cs ms (lim cs ms) P:=by
 obtain⟨M,Q,S⟩:=nL g;obtain rfl:=R.same S;rw[S.G1];exact S
def key (P:List N2)(cs ms:List T):=tb_ P (lim cs ms)
end
end G
namespace G
open PySem Tr Gr
def nI (k:Nat):T:=.int (k:Nat)
theorem n9 {α:Type}(d:α):∀(l:List α) (j:Nat),((HD l.length).filter λk=>k != j).map (λk=>l.getD k d)=l.eraseIdx j
 | [],j=>by simp
 | x::l,0=>by
  rw[HQ,Li,LP,Ny]
  have e:(HD l.length).filter ((λk=>k != 0)∘Nat.succ)=HD l.length:=List.filter_eq_self.mpr λk _=>by simp
  rw[e,if_neg (by simp),Jg,List.eraseIdx_cons_zero]
  apply OV
  intro k;rw[Ij]
  by_cases h:k<l.length
  ·rw[NZ h,HG h]
   simp[h]
  ·rw[JI (by simpa using h),JI (by simpa using h)];rfl
 | x::l,j+1=>by
  rw[HQ,Li,LP,Ny,if_pos (by simp),HE,Jg,List.eraseIdx_cons_succ]
  have e:(λk=>k != j+1)∘Nat.succ=λk=>k != j:=by funext k;simp
  rw[e,<-n9 d l j];simp
theorem uG {l:List T}{f:En->Rs T}{Z:En}(h:f Z= .ok (.tup l)):cl bS (ae f ai) Z= .ok (.int (l.length:Nat)):=aZ (ts:=[.tup l]) (aw h rfl) rfl
theorem Cc {cs ls:List T}(h:ls.length<=8):cD [RR cs ls] = .ok (.lst ((HD ls.length).map nI)):=by
 refine bW rfl ?_
 refine cU ?_
 have hl:=uG (l:=ls) (f:=o2 aS (vr 0) (cn (.int 1))) (Z:=[.va (RR cs ls)]) (aF (t:=RR cs ls) (u:=.int 1) rfl rfl (kn (n:=1) rfl))
 show lR (ae (cl bS (ae (o2 aS (vr 0) (cn (.int 1))) ai)) ai) [.va (RR cs ls)] =_
 unfold lR;rw[aw hl rfl,aB]
 show(if (qz (ls.length:Nat)&&decide (((ls.length:Nat):Int).toNat<=1000))=true then Rs.ok (T.lst (rng 0 (ls.length:Nat)))else .bad)=_
 rw[if_pos (by rw[Hz];exact⟨qe (by omega),decide_eq_true (by omega)⟩),gV]
 rfl
def kq (t:T):Nat:=match t with
 | .int k=>k.toNat
 | _=>0
theorem eU (k:Nat):kq (nI k)=k:=by unfold kq nI;exact IM k
theorem FH (a b:Nat):l9 (nI a) (nI b)= .ok (.bl (a != b)):=by
 unfold l9 nI;rw[if_pos (dz (by simp[T.dep]) rfl rfl)]
 show Rs.ok (T.bl (!((a:Int) == (b:Int))))=_
 congr 2
 by_cases h:a=b
 ·subst h;simp
 ·have:((a:Int) == (b:Int))=false:=beq_eq_false_iff_ne.mpr (by omega)
  rw[this];simp[h]
theorem j6 {q:Nat->Bool}(l:List Nat):((l.map nI).filter λt=>q (kq t)).map id=(l.filter q).map nI:=by
 rw[PN,Ny];refine congrArg _ ?_
 exact List.filter_congr λk _=>by show q (kq (nI k))=q k;rw[eU]
theorem vX {l:List Nat}{j:Nat}(h:l.length<=1000):g9 [.lst (l.map nI),nI j] = .ok (.lst ((l.filter λk=>k != j).map nI)):=by
 refine bW rfl ?_
 refine cU ?_
 rw[<-j6 (q:=λk=>k != j)]
 exact yN (ts:=l.map nI) (mB rfl) (aE (by rw[HI];exact h) (by omega)) (by simp) λt ht=>by
  obtain⟨k,_,rfl⟩:=Ic.mp ht;exact⟨bU (aF (t:=nI k) (u:=nI j) rfl rfl (by rw[FH,eU])),λ_=>rfl⟩
theorem zp {cs ls:List T}{l:List Nat}(h:l.length<=1000)(hl:∀k∈l,k<ls.length):cp [RR cs ls,.lst (l.map nI)] = .ok (RR cs (l.map λk=>ls.getD k .non)):=by
 refine bW rfl ?_
 refine cU ?_
 have lc:eF (iS (vr 1)) [none,some 0] (gN 0) bT (o2 aS (o2 aS (vr 1) (cn (.int 1))) (vr 0)) [.va (RR cs ls),.va (.lst (l.map nI))] = .ok (.lst ((l.map nI).map λt=>ls.getD (kq t) .non)):=
  rO (ts:=l.map nI) (mB rfl) (aE (by rw[HI];exact h) (by omega)) (by simp) λt ht=>by
   obtain⟨k,hk,rfl⟩:=Ic.mp ht
   have:=hl k hk;rw[eU];exact Bq (l:=ls) (n:=k) (aF (t:=RR cs ls) (u:=.int 1) rfl rfl (kn (n:=1) rfl)) rfl (by rw[HG this,Ih,HG this];rfl)
 rw[Jg]at lc
 have e:((λt=>ls.getD (kq t) T.non)∘nI)=λk=>ls.getD k .non:=by funext k;show ls.getD (kq (nI k)) _=_;rw[eU]
 rw[e]at lc;exact p2 (aF (t:=RR cs ls) (u:=.int 0) rfl rfl (kn (n:=0) rfl)) (aZ (aw lc rfl) jQ)
theorem xj:∀{r:List Int} {k:Nat},kO r=true->k+1<r.length->0<=dr r k
 | [],k,_,h=>by simp at h
 | [a],k,_,h=>by simp at h
 | a::b::r,0,h,_=>by
  rw[Au,Hz]at h
  have:=of_decide_eq_true h.1
  show 0<=b - a
  omega
 | a::b::r,k+1,h,hk=>by
  rw[Au,Hz]at h;exact xj (r:=b::r) (k:=k) h.2 (by simpa using hk)
theorem tM {t:T}(h:bc t=true):∃(x y:Int) (r:List Int),t= .tup [.int x,.int y,.tup (r.map .int)]/\(0<=x/\x<=9)/\x<=y/\(∀k,0<=r.getD k 0/\r.getD k 0<=99)/\∀k,k+1<r.length->0<=dr r k:=by
 obtain⟨x,y,r,rfl,h1,h2,h3⟩:=mL h;refine⟨x,y,r,rfl,h1,?_,h3,?_⟩
 ·have h':(kC (.int x) (.int y)&&bP (.tup (r.map .int)))=true:=h
  rw[Hz]at h'
  have hp:(aT (.int x) 1 9&&aT (.int y) x 9)=true:=h'.1;rw[Hz]at hp;obtain⟨i,e,a,b⟩:=cK hp.2;cases e;exact a
 ·have h':(kC (.int x) (.int y)&&bP (.tup (r.map .int)))=true:=h
  rw[Hz]at h'
  have hr:=h'.2;unfold bP at hr;rw[Hz]at hr
  have hr2:(((r.map T.int).all λu=>aT u 0 99)&&(match nums (r.map .int)with | some m=>kO m | none=>false))=true:=hr.2
  rw[Hz,gx]at hr2;exact λk hk=>xj hr2.2 hk
theorem zN {u:T}:∀{cs:List T} {i:Nat},u∈bC i cs->∃j c,cs[j]? =some c/\u∈xB (i+j) c
 | [],i,h=>by simp[bC]at h
 | c::cs,i,h=>by
  rw[bC,IL]at h;rcases h with h | h
  ·exact⟨0,c,rfl,h⟩
  ·obtain⟨j,d,e,hd⟩:=zN h
   exact⟨j+1,d,e,by rw[show i+(j+1)=i+1+j by omega];exact hd⟩
section
variable {cs ls:List T}{L:bZ N2}{P:List N2}{i:Nat}{x y:Int}{r:List Int}
def cw (b:Bool)(cs:List T)(v:N2):Int:=match cs[v.c.toNat]? with
 | some (.tup [.int x,.int y,.tup r])=>(if b then y else x)*((nums r).getD []).getD v.k.toNat 0
 | _=>0
theorem Cd (b:Bool)(e:cs[i]? =some (.tup [.int x,.int y,.tup (r.map .int)]))(k:Nat):cw b cs ⟨i,(k:Nat)⟩=(if b then y else x)*r.getD k 0:=by
 unfold cw;simp only[IM,e,gx,Option.getD_some]
theorem Rd.cw0 (R:Rd cs [] L P)(b:Bool):Holds L (cw b cs):=λu v m hx=>by
 have hb:eB (u,v,m)∈BL cs []:=by rw[R.b];exact Ic.mpr ⟨_,hx,rfl⟩
 unfold BL at hb;rw[List.flatMap_nil,JH]at hb;obtain⟨j,c,hj,hu⟩:=zN hb;rw[Mr]at hu;obtain⟨x,y,r,rfl,_,xy,_,dd⟩:=tM ((cR R.g.c).1 _ (IF hj));rw[qC]at hu;obtain⟨k,hk,hu⟩:=M8.mp hu
 have hk':=Ik.mp hk
 have d0:=dd k (by omega)
 have c1:=Cd b hj k
 have c2:=Cd b hj (k+1)
 have fx:x<=(if b then y else x)/\(if b then y else x)<=y:=by cases b <;> simp[xy]
 revert fx c1 c2
 generalize (if b then y else x)=z
 intro c1 c2 fx
 have m1:=LQ fx.1 d0
 have m2:=LQ fx.2 d0
 have ed:z*r.getD (k+1) 0 - z*r.getD k 0=dr r k*z:=by unfold dr;rw[<-Int.mul_sub,Int.mul_comm]
 unfold pr at hu;simp only[HS,II,or_false]at hu;rcases hu with hu | hu
 ·have:=zB (y:=(⟨j,k⟩,⟨j,((k+1:Nat):Int)⟩,dr r k*y)) hu
  cases this;rw[c1,c2];omega
 ·have:=zB (y:=(⟨j,((k+1:Nat):Int)⟩,⟨j,k⟩,-dr r k*x)) hu
  cases this;rw[c1,c2,Int.neg_mul];omega
theorem nn0 (R:Rd cs ls L P):gK (lim cs []):=by
 have g0:Good cs []:=⟨R.g.c,λt ht=>(by cases ht),by simp,AV R.g.parts.1 rfl⟩
 have S:=R.to g0;exact(S.cw0 true).G7
theorem Rd.G9 (R:Rd cs ls L P):∃t,((gK L/\t= .non)\/(∃q,Bar L q/\t= .lst (eN q)))/\fH [.tup [.tup cs,.tup ls]] = .ok t:=by
 obtain⟨r,hr,ok⟩:=rV R.f R.nd (λv h=>h)
 have wrap:∀{x y:T},dU [eL L,eS P] = .ok (.tup [x,y])->fH [.tup [.tup cs,.tup ls]] = .ok y:=λ{x y} e=>
  bW rfl (cU (aF (t:=.tup [x,y]) (u:=.int 1) (aZ (ts:=[eL L,eS P]) (aw (aZ (ts:=[.tup [.tup cs,.tup ls]]) rfl R.bounds) (aw (aZ (ts:=[.tup [.tup cs,.tup ls]]) rfl R.events) rfl)) e) rfl rfl))
 cases r with
 | inr q=>exact⟨_,.inr ⟨q,ok,rfl⟩,wrap hr⟩
 | inl b=>
  obtain⟨ms,D,hr⟩:=hr
  have ok:Settled L P b:=ok
  have all:∀v∈P,∃d w,b v=some (d,w):=λv hv=>by
   obtain⟨d,w,e,_⟩:=ok.least v hv v 0 (.nil v);exact⟨d,w,e⟩
  let tm:N2->Int:=λv=>match b v with | some x=>x.1 | none=>0
  have htm:∀v∈P,∃w,b v=some (tm v,w):=λv hv=>by
   obtain⟨d,w,e⟩:=all v hv;refine⟨w,?_⟩
   show b v=some ((match b v with | some x=>x.1 | none=>0),w)
   rw[e]
  exact⟨_,.inl ⟨(ok.holds R.f.ends htm).G7,rfl⟩,wrap hr⟩
end
theorem Em {l:List T}{n:Nat}{f:En->Rs T}{g:En->Rs T}{Z:En}(h:f Z= .ok (.tup l))(hg:g Z= .ok (.int n)):sl f pN (pS g) Z= .ok (.tup (l.take n)):=by
 rw[<-zI];exact FL h rfl (Bo hg)
theorem Eo {l:List T}{n:Nat}{f:En->Rs T}{g:En->Rs T}{Z:En}(h:f Z= .ok (.tup l))(hg:g Z= .ok (.int n)):sl f (pS g) pN Z= .ok (.tup (l.drop n)):=by
 rw[<-r8];exact FL h (Bo hg) rfl
theorem BH {l:List T}{n:Nat}{f:En->Rs T}{g:En->Rs T}{Z:En}(h:f Z= .ok (.tup l))(hg:g Z= .ok (.int n)):sl f (pS (o2 aQ g (cn (.int 1)))) pN Z= .ok (.tup (l.drop (n+1))):=
 Eo h (aF (t:=.int n) (u:=.int 1) hg rfl rfl)
theorem vD {cs ls:List T}{n:Nat}(g:Good cs ls)(hn:n<ls.length):cf [.tup [.tup cs,.tup ls],.int n] = .ok (.tup [.tup cs,.tup (m6 ls n)]):=by
 have hl:=g.n;refine bW rfl ?_
 show dN [.va (.tup [.tup cs,.tup ls]),.va (.int n),.em] =_
 unfold dN;rw[aC (yP (t:=.non) (aZ (ts:=[.tup [.tup cs,.tup ls]]) rfl (jD g.p g.ok)))];rw[aC (Z':=[.va (.tup [.tup cs,.tup ls]),.va (.int n),.va (.tup ls)]) ((ck (t:=.tup ls) rfl rfl))]
 have w:aT (.int n) 0 ((ls.length:Int) - 1)=true:=by unfold aT;simp;omega
 rw[aC (yP (t:=.non) (aZ (ts:=[.int (ls.length:Int),.int n]) rfl (ye rfl w)))];exact cU (dG (aw (t:=.tup cs) rfl (aw (t:=.tup (m6 ls n)) (aF (t:=.tup (ls.take n)) (u:=.tup (ls.drop (n+1))) (Em rfl rfl) (BH rfl rfl) (vg _ _ (by have:=A7 ls n;unfold m6 at this;omega))) rfl)) (aE (k:=2) (by simp)))
def bD:Nat->List (List Nat)
 | 0=> [[]]
 | 1=> [[0],[]]
 | 2=> [[0,1],[0],[1],[]]
 | 3=> [[0,1,2],[0,1],[0,2],[1,2],[0],[1],[2],[]]
 | _=> [[0,1,2,3],[0,1,2],[0,1,3],[0,2,3],[1,2,3],[0,1],[0,2],[0,3],[1,2],[1,3],[2,3],[0],[1],[2],[3],[]]
def lN (l:List Nat):T:=.lst (l.map nI)
def qO:Nat->List (List Nat)
 | 0=> [[]]
 | n+1=>qO n++(qO n).map λl=>l++ [n]
theorem D8:∀n≤4,hU [lN (HD n)] = .ok (.lst ((qO n).map lN)):=by
 intro n hn
 match n,hn with
 | 0,_=>rfl
 | 1,_=>rfl
 | 2,_=>rfl
 | 3,_=>rfl
 | 4,_=>rfl
def iR_ (l:List Nat):List Int:=z0 (l.map λk:Nat=>(k:Int))
theorem Cw:∀n≤4,((qO n).map iR_).mergeSort mm=(bD n).map iR_:=by
 intro n hn
 match n,hn with
 | 0,_=>exact(fA (by decide) (by decide)).symm
 | 1,_=>exact(fA (by decide) (by decide)).symm
 | 2,_=>exact(fA (by decide) (by decide)).symm
 | 3,_=>exact(fA (by decide) (by decide)).symm
 | 4,_=>exact(fA (by decide) (by decide)).symm
theorem kR:∀l:List Nat,gy (l.map nI)=some (l.map λk:Nat=>(k:Int))
 | [] =>rfl
 | k::l=>by
  show(gy (l.map nI)).map ((k:Int):: ·)=_
  rw[kR l];rfl
theorem uB:∀l:List (List Nat),km (l.map lN)=some (l.map λm=>m.map λk:Nat=>(k:Int))
 | [] =>rfl
 | m::l=>by
  show(match gy (m.map nI),km (l.map lN)with | some ns,some k=>some (ns::k) | _,_=>none)=_
  rw[kR,uB l];rfl
theorem tH (l:List Nat):T.lst ((l.map λk:Nat=>(k:Int)).map T.int)=lN l:=by
 unfold lN;rw[Jg];rfl
theorem wW:∀n≤4,(qO n).length<64:=by decide
theorem Gd {n:Nat}(hn:n<=4):qI [.lst ((qO n).map lN)] = .ok (.lst ((bD n).map lN)):=by
 show(match km ((qO n).map lN)with | some k=>if k.length<64 then Rs.ok (T.lst (((k.map z0).mergeSort mm).map λr:List Int=>T.lst (r.tail.map .int)))else .bad | none=> .bad)=_
 rw[uB];simp only[HI];rw[if_pos (wW n hn),Jg,show(z0∘λm:List Nat=>m.map λk:Nat=>(k:Int))=iR_ from rfl,Cw n hn,Jg]
 congr 2
 exact Jq λl _=>tH l
theorem gS:∀n≤4,∀l∈bD n,l.Pairwise (· < ·)/\(∀k∈l,k<n)/\l.length<=n:=by decide
theorem ua:∀n≤4,[] ∈bD n:=by decide
theorem oM:∀n≤4,(bD n).length<=16:=by decide
def pk (ls:List T)(l:List Nat):List T:=l.map λk=>ls.getD k .non
def nn (cs ls:List T)(l:List Nat):Bool:=@decide (gK (lim cs (pk ls l))) (MX _)
section
variable {cs ls:List T}{L:bZ N2}{P:List N2}
theorem nn_iff {l:List Nat}:nn cs ls l=true↔gK (lim cs (pk ls l)):=by unfold nn;exact @decide_eq_true_iff _ (MX _)
theorem xJ {l:List Nat}(hl:∀k∈l,k<ls.length):∀u∈pk ls l,u∈ls:=λu hu=>by
 obtain⟨k,hk,rfl⟩:=Ic.mp hu
 have:=hl k hk;rw[Ih,HG this]
 exact Jy _
theorem Rd.pkw (R:Rd cs ls L P){l:List Nat}(hl:∀k∈l,k<ls.length)(h8:l.length<=8):aH [RR cs (pk ls l)] = .ok (.bl (nn cs ls l)):=by
 have S:=R.sub (xJ hl) (by unfold pk;rw[HI];exact h8)
 obtain⟨hw,e,i⟩:=S.Hr;rw[e]
 congr 2
 exact Kg.mpr (i.trans nn_iff.symm)
theorem Rd.Ht (R:Rd cs ls L P):nn cs ls [] =true:=nn_iff.mpr (nn0 R)
theorem Rd.kept (R:Rd cs ls L P)(h4:ls.length<=4):∃(j:Nat) (l:List Nat),(bD ls.length)[j]? =some l/\nn cs ls l=true/\(∀i<j,∀m,(bD ls.length)[i]? =some m->nn cs ls m=false)/\dh [RR cs ls] = .ok (lN l):=by
 have go:∀(k j:Nat),j+k=(bD ls.length).length->(∀i<j,∀m,(bD ls.length)[i]? =some m->nn cs ls m=false)->∀f,k<f →
   ∃(j':Nat) (l:List Nat),(bD ls.length)[j']? =some l/\nn cs ls l=true/\(∀i<j',∀m,(bD ls.length)[i]? =some m->nn cs ls m=false) ∧
    ba (cL (tb (cl aH (ae (cl cp (ae (vr 0) (ae (o2 aS (vr 1) (vr 2)) ai))) ai)))) (wZ 2 (cn (.int 1))) f [.va (RR cs ls),.va (.lst ((bD ls.length).map lN)),.va (.int (j:Nat))] = .ok (.nx [.va (RR cs ls),.va (.lst ((bD ls.length).map lN)),.va (.int (j':Nat))]):=by
  intro k
  induction k with
  | zero=>
   intro j hj hf f _;obtain⟨i,hi⟩:=NO (ua ls.length h4)
   have:=hf i (by have:=(HN.mp hi).1;omega) _ hi
   rw[R.Ht]at this;cases this
  | succ k ih=>
   intro j hj hf f hfk
   have hlt:j<(bD ls.length).length:=by omega
   obtain⟨l,hl⟩:∃l,(bD ls.length)[j]? =some l:=⟨_,HG hlt⟩
   obtain⟨_,h2,h3⟩:=gS ls.length h4 l (IF hl)
   have c:tb (cl aH (ae (cl cp (ae (vr 0) (ae (o2 aS (vr 1) (vr 2)) ai))) ai)) [.va (RR cs ls),.va (.lst ((bD ls.length).map lN)),.va (.int (j:Nat))] = .ok (nn cs ls l):=
    bU (aZ (ts:=[RR cs (pk ls l)]) (aw (aZ (ts:=[RR cs ls,lN l]) (aw rfl (aw (aF (t:=.lst ((bD ls.length).map lN)) (u:=.int (j:Nat)) rfl rfl (tI (n:=j) (by rw[Ij,hl];rfl))) rfl)) (zp (by omega) h2)) rfl) (R.pkw h2 (by omega)))
   cases f with
   | zero=>omega
   | succ f=>
    cases q:nn cs ls l with
    | true=>
     rw[q]at c
     exact⟨j,l,hl,q,hf,rN (iD (k:=true) c)⟩
    | false=>
     rw[q]at c
     obtain⟨j',l',a1,a2,a3,a4⟩:=ih (j+1) (by omega) (λi hi m hm=>by
      by_cases z:i=j
      ·subst z;rw[hl]at hm;cases hm;exact q
      ·exact hf i (by omega) m hm) f (by omega)
     exact⟨j',l',a1,a2,a3,(my (iD (k:=false) c) rfl).trans a4⟩
 obtain⟨j,l,a1,a2,a3,a4⟩:=go (bD ls.length).length 0 (by omega) (λi hi=>absurd hi (by omega)) FU (by have:=oM ls.length h4;show _<1000000000000;omega)
 refine⟨j,l,a1,a2,a3,?_⟩
 refine bW rfl ?_
 show gM [.va (RR cs ls),.em,.em] =_
 unfold gM
 have ea:=Cc (cs:=cs) (ls:=ls) (by omega)
 refine(aC (yP (t:=.non) (aZ (ts:=[RR cs ls]) rfl (jD R.g.p R.g.ok)))).trans ?_
 refine(aC (Z':=[.va (RR cs ls),.va (.lst ((bD ls.length).map lN)),.em]) (ck (aZ (ts:=[.lst ((qO ls.length).map lN)]) (aw (aZ (ts:=[lN (HD ls.length)]) (aw (aZ (ts:=[RR cs ls]) rfl ea) rfl) (D8 _ h4)) rfl) (Gd h4)) rfl)).trans ?_
 refine(aC (Z':=[.va (RR cs ls),.va (.lst ((bD ls.length).map lN)),.va (.int 0)]) (ck rfl rfl)).trans ?_
 refine(aC a4).trans ?_
 exact cU (aF (t:=.lst ((bD ls.length).map lN)) (u:=.int (j:Nat)) rfl rfl (tI (n:=j) (by rw[Ij,a1];rfl)))
end
theorem Fv:∀l:List Nat,plS (l.map nI)=true:=λl=>pq λt ht=>by obtain⟨k,_,rfl⟩:=Ic.mp ht;rfl
theorem zE (l:List Nat):(lN l).dep<=60:=by
 unfold lN T.dep
 have:deps (l.map nI)<=0:=u5 λt ht=>by obtain⟨k,_,rfl⟩:=Ic.mp ht;simp[nI,T.dep]
 omega
theorem nM (l:List Nat):(lN l).pl=true:=by unfold lN;rw[Dh];exact Fv l
theorem tN (a b:Nat):aR (nI a) (nI b)=decide (a=b):=by
 show((a:Int) == (b:Int))=_
 by_cases h:a=b
 ·subst h;simp
 ·rw[decide_eq_false h];exact beq_eq_false_iff_ne.mpr (by omega)
theorem qr:∀a b:List Nat,beqTs (a.map nI) (b.map nI)=decide (a=b)
 | [],[] =>rfl
 | [],_::_=>by simp[beqTs]
 | _::_,[] =>by simp[beqTs]
 | x::a,y::b=>by
  show(aR (nI x) (nI y)&&beqTs (a.map nI) (b.map nI))=_
  rw[tN,qr a b]
  by_cases h:x=y <;> by_cases g:a=b <;> simp[h,g]
theorem zj (a b:List Nat):qh (lN a) (lN b)= .ok (.bl (decide (a=b))):=by
 unfold qh;rw[if_pos (dz (zE a) (T.GE _ (nM a)) (T.GE _ (nM b)))]
 show Rs.ok (T.bl (beqTs (a.map nI) (b.map nI)))=_
 rw[qr]
theorem l8 (a b:List Nat):l9 (lN a) (lN b)= .ok (.bl (!decide (a=b))):=by
 unfold l9;rw[if_pos (dz (zE a) (T.GE _ (nM a)) (T.GE _ (nM b)))]
 show Rs.ok (T.bl (!beqTs (a.map nI) (b.map nI)))=_
 rw[qr]
def rm (n i:Nat):List Nat:=(HD n).filter λk=>k != i
theorem xf {n i:Nat}:∀k∈rm n i,k<n:=λk hk=>Ik.mp (L6.mp hk).1
theorem sS (n i:Nat):(rm n i).length<=n:=Ii (List.length_filter_le _ _) (by rw[Jr];omega)
theorem lH (ls:List T):pk ls (HD ls.length)=ls:=by
 unfold pk;refine LO (by simp) λi h1 h2=> ?_
 simp[Ih,HG h2]
def told (cs ls:List T):List Nat:=if nn cs ls (HD ls.length)=true then []else(HD ls.length).filter λi=>nn cs ls (rm ls.length i)
section
variable {cs ls:List T}{L:bZ N2}{P:List N2}
theorem Rd.hw (R:Rd cs ls L P)(h4:ls.length<=4):aH [RR cs ls] = .ok (.bl (nn cs ls (HD ls.length))):=by
 have:=R.pkw (l:=HD ls.length) (λk hk=>Ik.mp hk) (by rw[Jr];omega)
 rwa [lH]at this
theorem Rd.Hu (R:Rd cs ls L P)(h4:ls.length<=4):fS [RR cs ls] = .ok (lN (told cs ls)):=by
 refine bW rfl ?_
 show i6 [.va (RR cs ls),.em] =_
 unfold i6 told
 have hw:=R.hw h4
 cases q:nn cs ls (HD ls.length)with
 | true=>
  rw[q]at hw
  exact j4 ((jI (bU (aZ (ts:=[RR cs ls]) rfl hw))).trans (cU rfl))
 | false=>
  rw[q]at hw;refine(aC (Z':=[.va (RR cs ls),.em]) ((dH (bU (aZ (ts:=[RR cs ls]) rfl hw))).trans rfl)).trans ?_
  refine(aC (Z':=[.va (RR cs ls),.va (lN (HD ls.length))]) (ck (aZ (ts:=[RR cs ls]) rfl (Cc (by omega))) rfl)).trans ?_
  refine cU ?_
  rw[if_neg (by decide)]
  show _=Rs.ok (T.lst (((HD ls.length).filter λi=>nn cs ls (rm ls.length i)).map nI))
  rw[<-j6 (q:=λi=>nn cs ls (rm ls.length i))]
  refine yN (ts:=(HD ls.length).map nI) (mB rfl) (aE (k:=4) (by simp;omega) (by omega)) (by simp) λt ht=>by
   obtain⟨k,hk,rfl⟩:=Ic.mp ht;rw[eU];exact⟨bU (aZ (ts:=[RR cs (pk ls (rm ls.length k))]) (aw (aZ (ts:=[RR cs ls,lN (rm ls.length k)]) (aw rfl (aw (aZ (ts:=[lN (HD ls.length),nI k]) rfl (vX (by simp;omega))) rfl)) (zp (by have:=sS ls.length k;omega) xf)) rfl) (R.pkw xf (by have:=sS ls.length k;omega))),λ_=>rfl⟩
end
def nq (n:Nat)(l:List Nat)(i:Nat):List Nat:=(HD n).filter λk=>decide (k∈l)||k == i
theorem qH:∀n≤4,(bD n)[0]? =some (HD n):=by decide
theorem Bu:∀n≤4,∀j<16,∀l,(bD n)[j]? =some l->∀i<n,i∉l->∃j'<j,(bD n)[j']? =some (nq n l i):=by
 intro n hn j hj l hl i hi hni
 have key:∀n≤4,∀j<16,(match(bD n)[j]? with | some l=>((HD n).all λi=>decide (i∈l)||((HD j).any λj'=>decide ((bD n)[j']? =some (nq n l i)))) | none=>true)=true:=by decide+kernel
 have:=key n hn j hj;rw[hl]at this
 have h:=HX.mp this i (Ik.mpr hi);rw[L9]at h;rcases h with h | h
 ·exact absurd (of_decide_eq_true h) hni
 ·obtain⟨j',a,b⟩:=M5.mp h
  exact⟨j',Ik.mp a,of_decide_eq_true b⟩
theorem yV:∀n≤4,∀l∈bD n,∀i<n,i∉l->((l++ [i]).map λk:Nat=>(k:Int)).mergeSort rM=(nq n l i).map λk:Nat=>(k:Int):=by
 intro n hn l hl i hi hni
 have key:∀n≤4,((bD n).all λl=>(HD n).all λi=>decide (i∈l)||(decide (((nq n l i).map λk:Nat=>(k:Int)).Perm ((l++ [i]).map λk:Nat=>(k:Int)))&&decide (((nq n l i).map λk:Nat=>(k:Int)).Pairwise λa b=>rM a b=true)))=true:=by decide+kernel
 have h:=HX.mp (HX.mp (key n hn) l hl) i (Ik.mpr hi);rw[L9,Hz]at h;rcases h with h | ⟨h1,h2⟩
 ·exact absurd (of_decide_eq_true h) hni
 ·exact(gU (of_decide_eq_true h1) (of_decide_eq_true h2)).symm
theorem Ej:∀n≤4,∀l∈bD n,(Ek (l.map λk:Nat=>(k:Int))).mergeSort rM=l.map λk:Nat=>(k:Int):=by
 intro n hn l hl
 have key:∀n≤4,((bD n).all λl=>decide ((l.map λk:Nat=>(k:Int)).Perm (Ek (l.map λk:Nat=>(k:Int))))&&decide ((l.map λk:Nat=>(k:Int)).Pairwise λa b=>rM a b=true))=true:=by decide+kernel
 have h:=HX.mp (key n hn) l hl;rw[Hz]at h;exact(gU (of_decide_eq_true h.1) (of_decide_eq_true h.2)).symm
theorem zm {n:Nat}(hn:n<=4){l:List Nat}(hl:l∈bD n):nG [lN l] = .ok (lN l):=by
 obtain⟨_,h2,h3⟩:=gS n hn l hl
 show(match gy (l.map nI)with | some ns=>if (decide (ns.length<=4)&&ns.all λn=>decide (0<=n)&&decide (n<100))=true then Rs.ok (T.lst (((Ek ns).mergeSort rM).map .int))else .bad | none=> .bad)=_
 rw[kR]
 show(if _ then _ else _)=_
 rw[if_pos ?_,Ej n hn l hl,tH]
 rw[Hz,HX];refine⟨decide_eq_true (by rw[HI];omega),λx hx=> ?_⟩
 obtain⟨k,hk,rfl⟩:=Ic.mp hx
 have:=h2 k hk;rw[Hz];exact⟨decide_eq_true (by omega),decide_eq_true (by omega)⟩
theorem BC {n:Nat}(hn:n<=4){l:List Nat}(hl:l∈bD n){i:Nat}(hi:i<n)(hni:i∉l):qJ [.lst (l.map nI++ [nI i])] = .ok (lN (nq n l i)):=by
 obtain⟨_,h2,h3⟩:=gS n hn l hl
 show(match gy (l.map nI++ [nI i])with | some ns=>if ns.length<64 then Rs.ok (T.lst ((ns.mergeSort rM).map .int))else .bad | none=> .bad)=_
 rw[show l.map nI++ [nI i] =(l++ [i]).map nI by simp,kR]
 show(if _ then _ else _)=_
 rw[if_pos (by rw[HI,HP,Je];omega),yV n hn l hl i hi hni,tH]
theorem zg:∀n≤4,∀p:Nat->Bool,(HD n).filter p∈bD n:=by
 intro n hn p
 match n,hn with
 | 0,_=>exact Ia.mpr rfl
 | 1,_=>cases h0:p 0 <;> simp[HD,L5,h0,bD]
 | 2,_=>cases h0:p 0 <;> cases h1:p 1 <;> simp[HD,L5,h0,h1,bD]
 | 3,_=>cases h0:p 0 <;> cases h1:p 1 <;> cases h2:p 2 <;> simp[HD,L5,h0,h1,h2,bD]
 | 4,_=>cases h0:p 0 <;> cases h1:p 1 <;> cases h2:p 2 <;> cases h3:p 3 <;> simp[HD,L5,h0,h1,h2,h3,bD]
theorem uV {n:Nat}(hn:n<=4)(p:List Nat->Bool){j:Nat}{l:List Nat}(hj:(bD n)[j]? =some l)(ht:p l=true)(hf:∀i<j,∀m,(bD n)[i]? =some m->p m=false)(h0:p (HD n)=false) :
  ((HD n).filter (λi=>p (rm n i))≠ []->(HD n).filter (λi=> !decide (i∈l))=((HD n).filter λi=>p (rm n i)).drop (((HD n).filter λi=>p (rm n i)).length - 1))/\((HD n).filter (λi=>p (rm n i))= []->l.length+2<=n):=by
 have j1:j≠0:=λz=>by
  subst z;rw[qH n hn]at hj;cases hj;rw[ht]at h0;cases h0
 have r:∀n≤4,∀i<n,(bD n)[n - i]? =some (rm n i):=by decide
 have jn:n<j->l.length+2<=n:=by
  have key:∀n≤4,∀j<16,n<j->((bD n)[j]?.all λl=>decide (l.length+2<=n))=true:=by decide
  intro h
  have h16:j<16:=HJ (HN.mp hj).1 (oM n hn)
  have:=key n hn j h16 h;rw[hj]at this;exact of_decide_eq_true this
 by_cases hjn:n<j
 ·have e:(HD n).filter (λi=>p (rm n i))= []:=Ng.mpr λi hi=>by
   have hi':=Ik.mp hi;rw[hf (n - i) (by omega) _ (r n hn i hi')];decide
  exact⟨λz=>absurd e z,λ_=>jn hjn⟩
 ·-- l=rm n (n - j)
  obtain⟨i0,hi0⟩:∃i0,i0=n - j:=⟨_,rfl⟩
  have el:l=rm n i0:=by
   have:=r n hn i0 (by omega)
   rw[show n - i0=j by omega,hj]at this
   exact Ip this
  subst el
  have hlt:i0<n:=by omega
  have sp:(HD n).filter (λi=>p (rm n i))=(HD i0).filter (λi=>p (rm n i))++ [i0]:=by
   have e1:HD n=HD i0++(i0::(HD (n - i0 - 1)).map (· +(i0+1))):=by
    have key:∀n≤4,∀i<n,HD n=HD i++(i::(HD (n - i - 1)).map (· +(i+1))):=by decide
    exact key n hn i0 hlt
   rw[e1,List.filter_append,MW (p:=λi=>p (rm n i)) (a:=i0) ht]
   congr 2
   refine Ng.mpr λi hi=> ?_
   obtain⟨q,hq,rfl⟩:=Ic.mp hi
   have:=Ik.mp hq;rw[hf (n - (q+(i0+1))) (by omega) _ (r n hn _ (by omega))];decide
  have lf:(HD n).filter (λi=> !decide (i∈rm n i0))= [i0]:=by
   have key:∀n≤4,∀i<n,(HD n).filter (λk=> !decide (k∈rm n i))= [i]:=by decide
   exact key n hn i0 hlt
  rw[lf,sp];refine⟨λ_=> ?_,λz=>absurd z (by simp)⟩
  rw[HP,Je,Oj,List.drop_left]
theorem tR (i:Nat):∀l:List Nat,fK (nI i) (l.map nI)=decide (i∈l)
 | [] =>rfl
 | k::l=>by
  show(aR (nI k) (nI i)||fK (nI i) (l.map nI))=_
  rw[tN,tR i l]
  by_cases h:k=i <;> by_cases g:i∈l <;> simp[h,g,eq_comm]
  all_goals omega
theorem Gb (a b:Nat):qh (nI a) (nI b)= .ok (.bl (decide (a=b))):=by
 unfold qh;rw[if_pos (dz (by simp[nI,T.dep]) rfl rfl),tN]
theorem FY (i:Nat)(l:List Nat):z4 (nI i) (lN l)= .ok (.bl (decide (i∈l))):=by
 show(if ((nI i).dep<=60\/deps (l.map nI)<=60)/\(nI i).nd=true/\(lN l).nd=true then Rs.ok (T.bl (fK (nI i) (l.map nI)))else .bad)=_
 rw[if_pos ⟨.inl (by simp[nI,T.dep]),rfl,T.GE _ (nM l)⟩,tR]
theorem lY (i:Nat)(l:List Nat):iU (nI i) (lN l)= .ok (.bl (!decide (i∈l))):=by
 show(if ((nI i).dep<=60\/deps (l.map nI)<=60)/\(nI i).nd=true/\(lN l).nd=true then Rs.ok (T.bl (!fK (nI i) (l.map nI)))else .bad)=_
 rw[if_pos ⟨.inl (by simp[nI,T.dep]),rfl,T.GE _ (nM l)⟩,tR]
theorem Gf {f:En->Rs T}{Z:En}{n:Nat}(h:f Z= .ok (.int (n:Nat)))(hn:n<=8):lR (ae f ai) Z= .ok (lN (HD n)):=by
 unfold lR;rw[aw h rfl,aB]
 show(if (qz (n:Nat)&&decide (((n:Nat):Int).toNat<=1000))=true then Rs.ok (T.lst (rng 0 (n:Nat)))else .bad)=_
 rw[if_pos (by rw[Hz];exact⟨qe (by omega),decide_eq_true (by omega)⟩),gV]
 rfl
theorem Ea {f:En->Rs T}{Z:En}{n:Nat}(h:f Z= .ok (.int (n:Nat)))(hn:n<=8):iR (ae f ai) Z= .ok ((HD n).map nI):=by
 unfold iR;rw[aw h rfl,aB]
 show(if qz (n:Nat)=true then Rs.ok (rng 0 (n:Nat))else .bad)=_
 rw[if_pos (qe (by omega)),gV]
 rfl
theorem Bh {l:List T}{f:En->Rs T}{Z:En}(h:f Z= .ok (.lst l)):cl bS (ae f ai) Z= .ok (.int (l.length:Nat)):=aZ (ts:=[.lst l]) (aw h rfl) rfl
theorem tF {l:List Nat}{f:En->Rs T}{Z:En}(h:f Z= .ok (lN l)):cl bS (ae f ai) Z= .ok (.int (l.length:Nat)):=by
 have:=Bh (l:=l.map nI) h
 rwa [HI]at this
theorem Ge {cs ls:List T}{l:List Nat}{f:En->Rs T}{Z:En}(hf:f Z= .ok (lN l))(he:cq [none,some 1] Z= [.em,.va (RR cs ls)])(h:l.length<=8)(hl:∀k∈l,k<ls.length):eF (iS f) [none,some 1] (gN 0) bT (o2 aS (o2 aS (vr 1) (cn (.int 1))) (vr 0)) Z= .ok (.lst (pk ls l)):=by
 have lc:eF (iS f) [none,some 1] (gN 0) bT (o2 aS (o2 aS (vr 1) (cn (.int 1))) (vr 0)) Z= .ok (.lst ((l.map nI).map λt=>ls.getD (kq t) .non)):=
  rO (ts:=l.map nI) (mB hf) (aE (by rw[HI];exact h) (by omega)) (by simp) λt ht=>by
   obtain⟨k,hk,rfl⟩:=Ic.mp ht
   have:=hl k hk;rw[eU,he];exact Bq (l:=ls) (n:=k) (aF (t:=RR cs ls) (u:=.int 1) rfl rfl (kn (n:=1) rfl)) rfl (by rw[HG this,Ih,HG this];rfl)
 rw[lc,Jg]
 rfl
theorem zJ (l:List T):jL l (some (-1)) none=l.drop (l.length - 1):=by
 have e:HT.sIx l.length 0 (some (-1))=l.length - 1:=by
  show(if (-1:Int)<0 then((-1:Int)+(l.length:Int)).toNat else min (-1:Int).toNat l.length)=_
  rw[if_pos (by decide)]
  omega
 unfold jL;rw[e,HT.sIx_none];exact Lk (by rw[J2];omega)
abbrev EK (ns:List Int)(cs ls:List T)(l:List Nat)(s4 s5 s6 s7 s8 s9:Sl):En:=[.va (.scr ns),.va (RR cs ls),.va (.int (ls.length:Nat)),.va (lN l),s4,s5,s6,s7,s8,s9]
abbrev W6:En->Rs Fl:=(eV (tb (o2 iU (vr 5) (vr 3))) (az (cI (cl qJ (ae (o2 aQ (vr 3) (dM (ae (vr 5) ai))) ai)) (gN 6)) (eV (tb (cl aH (ae (bp (ae (o2 aS (vr 1) (cn (.int 0))) (ae (cl d7 (ae (eF (iS (vr 6)) [none,some 1] (gN 0) bT (o2 aS (o2 aS (vr 1) (cn (.int 1))) (vr 0))) ai)) ai))) ai))) (aL (cn (.bl false))) sN)) sN)
abbrev W9:En->Rs Fl:=(az (cI (cl cf (ae (vr 1) (ae (vr 5) ai))) (gN 8)) (eV (kK (cL (tb (cl aH (ae (vr 1) ai)))) (tb (o2 l9 (o2 z4 (vr 5) (vr 7)) (cl aH (ae (vr 8) ai))))) (aL (cn (.bl false))) sN))
section
variable {cs ls:List T}{L:bZ N2}{P:List N2}{ns:List Int}{l:List Nat}
theorem Rd.w6 (R:Rd cs ls L P)(h4:ls.length<=4){j:Nat}(a1:(bD ls.length)[j]? =some l)(a3:∀i<j,∀m,(bD ls.length)[i]? =some m->nn cs ls m=false){i:Nat}(hi:i<ls.length)(s4 s6 s7 s8 s9:Sl):∃t6,W6 (EK ns cs ls l s4 (.va (nI i)) s6 s7 s8 s9)= .ok (.nx (EK ns cs ls l s4 (.va (nI i)) t6 s7 s8 s9)):=by
 have hlm:=IF a1;obtain⟨_,hlt,hll⟩:=gS _ h4 l hlm
 by_cases hm:i∈l
 ·exact⟨s6,(dH (bU (aF (t:=nI i) (u:=lN l) rfl rfl (by rw[lY,decide_eq_true hm];rfl)))).trans rfl⟩
 ·obtain⟨j',hj',e'⟩:=Bu _ h4 j (HJ (HN.mp a1).1 (oM _ h4)) l a1 i hi hm
  have no:=a3 j' hj' _ e';obtain⟨_,il,ill⟩:=gS _ h4 _ (IF e')
  have hw:=R.pkw il (by omega)
  rw[no]at hw;refine⟨.va (lN (nq ls.length l i)),(jI (bU (aF (t:=nI i) (u:=lN l) rfl rfl (by rw[lY,decide_eq_false hm];rfl)))).trans ?_⟩
  refine(aC (Z':=EK ns cs ls l s4 (.va (nI i)) (.va (lN (nq ls.length l i))) s7 s8 s9) (ck (aZ (ts:=[.lst (l.map nI++ [nI i])]) (aw (aF (t:=lN l) (u:=.lst [nI i]) rfl (nY rfl (aE (k:=1) (by simp))) (qv _ _ (by simp;omega))) rfl) (BC h4 hlm hi hm)) rfl)).trans ?_
  exact(dH (bU (aZ (ts:=[RR cs (pk ls (nq ls.length l i))]) (aw (p2 (aF (t:=RR cs ls) (u:=.int 0) rfl rfl (kn (n:=0) rfl)) (aZ (ts:=[.lst (pk ls (nq ls.length l i))]) (aw (Ge rfl rfl (by omega) il) rfl) jQ)) rfl) hw))).trans rfl
theorem Rd.w9 (R:Rd cs ls L P)(h4:ls.length<=4){i:Nat}(hi:i<ls.length)(s4 s6 s8 s9:Sl):∃t8,W9 (EK ns cs ls l s4 (.va (nI i)) s6 (.va (lN (told cs ls))) s8 s9)= .ok (.nx (EK ns cs ls l s4 (.va (nI i)) s6 (.va (lN (told cs ls))) t8 s9)):=by
 have eo:m6 ls i=pk ls (rm ls.length i):=by
  have:=n9 T.non ls i;unfold pk rm;rw[this];unfold m6;rw[Lq]
 have ew:=vD R.g hi;refine⟨.va (RR cs (m6 ls i)),(aC (Z':=EK ns cs ls l s4 (.va (nI i)) s6 (.va (lN (told cs ls))) (.va (RR cs (m6 ls i))) s9) (ck (aZ (ts:=[RR cs ls,nI i]) rfl ew) rfl)).trans ?_⟩
 have hw:=R.hw h4
 cases q:nn cs ls (HD ls.length)with
 | true=>
  rw[q]at hw
  exact(dH (mE (iD (k:=true) (bU (aZ (ts:=[RR cs ls]) rfl hw))))).trans rfl
 | false=>
  rw[q]at hw
  have hl:=R.pkw (l:=rm ls.length i) xf (by have:=sS ls.length i;omega)
  have hin:z4 (nI i) (lN (told cs ls))= .ok (.bl (nn cs ls (rm ls.length i))):=by
   rw[FY]
   congr 2
   unfold told;rw[if_neg (by rw[q];decide)]
   exact Kg.mpr (by rw[decide_eq_true_iff,L6,Ik];exact⟨λh=>h.2,λh=>⟨hi,h⟩⟩)
  refine(dH (mC (iD (k:=false) (bU (aZ (ts:=[RR cs ls]) rfl hw))) (bU (aF (t:=.bl (nn cs ls (rm ls.length i))) (u:=.bl (nn cs ls (rm ls.length i))) (aF (t:=nI i) (u:=lN (told cs ls)) rfl rfl hin) (aZ (ts:=[RR cs (m6 ls i)]) rfl (by rw[eo];exact hl)) (uv rfl (by simp[T.dep])))))).trans rfl
theorem wM (h4:ls.length<=4):told cs ls∈bD ls.length:=by
 unfold told;split
 ·exact ua _ h4
 ·exact zg _ h4 _
end
theorem pure_law (ns:List Int)(hn:ns.length<=63):m_law [.scr ns] = .ok (.bl true):=by
 obtain⟨cs,ls,er,hc,c3,hs,hl,h4⟩:=Eb ns hn 0 4 (by omega)
 obtain⟨hR,mR⟩:=CH hc hs hl (by omega)
 have g:Good cs ls:=⟨hc,λt ht=>(hl t ht).1,by omega,CB mR⟩
 obtain⟨L,P,R⟩:=nL g;obtain⟨j,l,a1,a2,a3,ek⟩:=R.kept h4
 have hlm:=IF a1;obtain⟨pw,hlt,hll⟩:=gS _ h4 l hlm
 have hwk:=R.pkw hlt (by omega)
 rw[a2]at hwk
 have S:=R.sub (xJ hlt) (by unfold pk;rw[HI];omega)
 have pl_:(pk ls l).length=l.length:=by unfold pk;rw[HI]
 have ek2:dh [RR cs (pk ls l)] = .ok (lN (HD l.length)):=by
  obtain⟨j2,l2,b1,b2,b3,b4⟩:=S.kept (by omega)
  have full:nn cs (pk ls l) (HD (pk ls l).length)=true:=by
   rw[nn_iff,lH];exact nn_iff.mp a2
  have z:j2=0:=by
   cases j2 with
   | zero=>rfl
   | succ j2=>have:=b3 0 (by omega) _ (qH _ (by omega));rw[full]at this;cases this
  subst z;rw[qH _ (by omega),pl_]at b1
  cases b1;exact b4
 have hb:nn cs ls (HD ls.length)=decide (l=HD ls.length):=by
  refine Kg.mpr ?_
  rw[decide_eq_true_iff]
  constructor
  ·intro full
   cases j with
   | zero=>rw[qH _ h4]at a1;exact(Ip a1).symm
   | succ j=>have:=a3 0 (by omega) _ (qH _ h4);rw[full]at this;cases this
  ·intro e;rw[<-e];exact a2
 have hw:=R.hw h4
 have ts:=wM (cs:=cs) h4
 have ct:=R.Hu h4
 have i0:∀{Z:En},vr 1 Z= .ok (RR cs ls)->o2 aS (vr 1) (cn (.int 0)) Z= .ok (.tup cs):=λh=>aF (t:=RR cs ls) (u:=.int 0) h rfl (kn (n:=0) rfl)
 refine bW rfl ?_
 show zW [.va (.scr ns),.em,.em,.em,.em,.em,.em,.em,.em,.em] =_
 unfold zW;refine(aC (Z':=[.va (.scr ns),.va (RR cs ls),.em,.em,.em,.em,.em,.em,.em,.em]) (ck (aZ (ts:=[.scr ns,.int 0,.int 4]) rfl er) rfl)).trans ?_
 refine(aC (Z':=[.va (.scr ns),.va (RR cs ls),.va (.int (ls.length:Nat)),.em,.em,.em,.em,.em,.em,.em]) (ck (uG (l:=ls) (aF (t:=RR cs ls) (u:=.int 1) rfl rfl (kn (n:=1) rfl))) rfl)).trans ?_
 refine(aC (Z':=EK ns cs ls l .em .em .em .em .em .em) (ck (aZ (ts:=[RR cs ls]) rfl ek) rfl)).trans ?_
 refine(aC (Z':=EK ns cs ls l (.va (RR cs (pk ls l))) .em .em .em .em .em) (ck (p2 (i0 rfl) (aZ (ts:=[.lst (pk ls l)]) (aw (Ge rfl rfl (by omega) hlt) rfl) jQ)) rfl)).trans ?_
 refine(aC (Z':=EK ns cs ls l (.va (RR cs (pk ls l))) .em .em .em .em .em) ((dH (uN (bU (aF (t:=lN l) (u:=lN l) rfl (aZ (ts:=[lN l]) rfl (zm h4 hlm)) (by rw[l8,decide_eq_true rfl];rfl))) (uN (iD (k:=true) (bU (aZ (ts:=[RR cs (pk ls l)]) rfl hwk))) (bU (aF (t:=lN (HD l.length)) (u:=lN (HD l.length)) (aZ (ts:=[RR cs (pk ls l)]) rfl ek2) (Gf (tF rfl) (by omega)) (by rw[l8,decide_eq_true rfl];rfl)))))).trans rfl)).trans ?_
 refine(aC (Z':=EK ns cs ls l (.va (RR cs (pk ls l))) .em .em .em .em .em) ((dH (bU (aF (t:=.bl (nn cs ls (HD ls.length))) (u:=.bl (nn cs ls (HD ls.length))) (aZ (ts:=[RR cs ls]) rfl hw) (aF (t:=lN l) (u:=lN (HD ls.length)) rfl (Gf rfl (by omega)) (by rw[zj,hb])) (uv rfl (by simp[T.dep]))))).trans rfl)).trans ?_
 obtain⟨Z6,lo6,b5,b6,rfl⟩:=nU (g:=gN 5) (F:=W6) (λZ=> ∃b5 b6,Z=EK ns cs ls l (.va (RR cs (pk ls l))) b5 b6 .em .em .em) (ts:=(HD ls.length).map nI)
  (λu hu Z hh=>by
   obtain⟨b5,b6,rfl⟩:=hh;obtain⟨i,hi,rfl⟩:=Ic.mp hu;obtain⟨t6,st⟩:=R.w6 (ns:=ns) h4 a1 a3 (Ik.mp hi) (.va (RR cs (pk ls l))) b6 .em .em .em;exact⟨_,_,rfl,st,_,_,rfl⟩) (Z:=EK ns cs ls l (.va (RR cs (pk ls l))) .em .em .em .em .em) ⟨_,_,rfl⟩
 refine(aC (iF (Ea rfl (by omega)) lo6)).trans ?_
 refine(aC (Z':=EK ns cs ls l (.va (RR cs (pk ls l))) b5 b6 (.va (lN (told cs ls))) .em .em) (ck (aZ (ts:=[RR cs ls]) rfl ct) rfl)).trans ?_
 have hno:nn cs ls (HD ls.length)=true->told cs ls= []:=λh=>by unfold told;rw[if_pos h]
 refine(aC (Z':=EK ns cs ls l (.va (RR cs (pk ls l))) b5 b6 (.va (lN (told cs ls))) .em .em) ((dH (uN (by
   cases q:nn cs ls (HD ls.length)with
   | true=>
    rw[q]at hw
    exact mC (bU (aZ (ts:=[RR cs ls]) rfl hw)) (bU (aF (t:=lN (told cs ls)) (u:=lN []) rfl rfl (by rw[l8,decide_eq_true (hno q)];rfl)))
   | false=>
    rw[q]at hw;exact mE (bU (aZ (ts:=[RR cs ls]) rfl hw))) (bU (aF (t:=lN (told cs ls)) (u:=lN (told cs ls)) rfl (aZ (ts:=[lN (told cs ls)]) rfl (zm h4 ts)) (by rw[l8,decide_eq_true rfl];rfl))))).trans rfl)).trans ?_
 obtain⟨Z9,lo9,c5,c8,rfl⟩:=nU (g:=gN 5) (F:=W9) (λZ=> ∃b5 b8,Z=EK ns cs ls l (.va (RR cs (pk ls l))) b5 b6 (.va (lN (told cs ls))) b8 .em) (ts:=(HD ls.length).map nI)
  (λu hu Z hh=>by
   obtain⟨b5,b8,rfl⟩:=hh;obtain⟨i,hi,rfl⟩:=Ic.mp hu;obtain⟨t8,st⟩:=R.w9 (ns:=ns) (l:=l) h4 (Ik.mp hi) (.va (RR cs (pk ls l))) b6 b8 .em;exact⟨_,_,rfl,st,_,_,rfl⟩) (Z:=EK ns cs ls l (.va (RR cs (pk ls l))) b5 b6 (.va (lN (told cs ls))) .em .em) ⟨_,_,rfl⟩
 refine(aC (iF (Ea rfl (by omega)) lo9)).trans ?_
 have el:eF (iR (ae (vr 2) ai)) [none,some 3] (gN 0) (tb (o2 iU (vr 0) (vr 1))) (vr 0) (EK ns cs ls l (.va (RR cs (pk ls l))) c5 b6 (.va (lN (told cs ls))) c8 .em)= .ok (lN ((HD ls.length).filter λi=> !decide (i∈l))):=by
  show _=Rs.ok (T.lst (((HD ls.length).filter λi=> !decide (i∈l)).map nI))
  rw[<-j6 (q:=λi=> !decide (i∈l))]
  refine yN (ts:=(HD ls.length).map nI) (Ea rfl (by omega)) (aE (k:=4) (by simp;omega) (by omega)) (by simp) λt ht=>by
   obtain⟨k,hk,rfl⟩:=Ic.mp ht;rw[eU];exact⟨bU (aF (t:=nI k) (u:=lN l) rfl rfl (lY k l)),λ_=>rfl⟩
 refine(aC (Z':=EK ns cs ls l (.va (RR cs (pk ls l))) c5 b6 (.va (lN (told cs ls))) c8 (.va (lN ((HD ls.length).filter λi=> !decide (i∈l))))) (ck el rfl)).trans ?_
 have tf:nn cs ls (HD ls.length)=false->told cs ls=(HD ls.length).filter λi=>nn cs ls (rm ls.length i):=λh=>by unfold told;rw[if_neg (by rw[h];decide)]
 refine(aC (Z':=EK ns cs ls l (.va (RR cs (pk ls l))) c5 b6 (.va (lN (told cs ls))) c8 (.va (lN ((HD ls.length).filter λi=> !decide (i∈l))))) ((dH (by
   by_cases q:told cs ls= []
   ·exact mE (bU (aF (t:=lN (told cs ls)) (u:=lN []) rfl rfl (by rw[l8,decide_eq_true q];rfl)))
   ·have h0:nn cs ls (HD ls.length)=false:=by
     cases z:nn cs ls (HD ls.length)with
     | false=>rfl
     | true=>exact absurd (hno z) q
    have fl:=(uV h4 (nn cs ls) a1 a2 a3 h0).1 (by rw[<-tf h0];exact q)
    rw[<-tf h0]at fl;refine mC (bU (aF (t:=lN (told cs ls)) (u:=lN []) rfl rfl (by rw[l8,decide_eq_false q];rfl))) (bU (aF (t:=lN ((HD ls.length).filter λi=> !decide (i∈l))) (u:=lN ((told cs ls).drop ((told cs ls).length - 1))) rfl ((B9 (l:=(told cs ls).map nI) (lo:=some (-1)) (hi:=none) rfl (Bo rfl) rfl).trans ?_) (by rw[l8,decide_eq_true fl];rfl)))
    rw[zJ,HI,<-List.map_drop];rfl)).trans rfl)).trans ?_
 refine(aC (Z':=EK ns cs ls l (.va (RR cs (pk ls l))) c5 b6 (.va (lN (told cs ls))) c8 (.va (lN ((HD ls.length).filter λi=> !decide (i∈l))))) ((dH (by
   by_cases q:told cs ls= []
   ·refine mC (bU (aF (t:=lN (told cs ls)) (u:=lN []) rfl rfl (by rw[zj,decide_eq_true q]))) ?_
    cases z:nn cs ls (HD ls.length)with
    | true=>
     rw[z]at hw
     exact mE (iD (k:=true) (bU (aZ (ts:=[RR cs ls]) rfl hw)))
    | false=>
     rw[z]at hw
     have fl:=(uV h4 (nn cs ls) a1 a2 a3 z).2 (by rw[<-tf z];exact q)
     refine mC (iD (k:=false) (bU (aZ (ts:=[RR cs ls]) rfl hw))) (bU (aF (t:=.int (l.length:Nat)) (u:=.int ((ls.length:Nat) - 2)) (tF rfl) (aF (t:=.int (ls.length:Nat)) (u:=.int 2) rfl rfl rfl) ?_))
     show Rs.ok (T.bl (decide (((ls.length:Nat):Int) - 2<((l.length:Nat):Int))))=_
     rw[decide_eq_false (by omega)]
   ·exact mE (bU (aF (t:=lN (told cs ls)) (u:=lN []) rfl rfl (by rw[zj,decide_eq_false q]))))).trans rfl)).trans ?_
 have nl:nn cs ls (HD ls.length)=true↔gK L:=by rw[nn_iff,lH,R.G1]
 have ll:decide (l.length=ls.length)=nn cs ls (HD ls.length):=by
  have key:∀n≤4,∀l∈bD n,l.length=n->l=HD n:=by decide
  rw[hb];refine Kg.mpr ?_
  rw[decide_eq_true_iff,decide_eq_true_iff];exact⟨λe=>key _ h4 l hlm e,λe=>by rw[e,Jr]⟩
 obtain⟨t,tc,eb⟩:=R.G9
 have it:jJ t .non= .ok (.bl (nn cs ls (HD ls.length))):=by
  rcases tc with⟨n,rfl⟩ | ⟨q,bq,rfl⟩
  ·show Rs.ok (T.bl true)=_;rw[nl.mpr n]
  ·show Rs.ok (T.bl false)=_
   cases z:nn cs ls (HD ls.length)with
   | false=>rfl
   | true=>exact absurd (nl.mp z) bq.neg
 exact cU (aF (t:=.bl (nn cs ls (HD ls.length))) (u:=.bl (nn cs ls (HD ls.length))) (aF (t:=t) (u:=.non) (aZ (ts:=[RR cs ls]) rfl eb) rfl it) (aF (t:=.int (l.length:Nat)) (u:=.int (ls.length:Nat)) (tF rfl) rfl (by
  rw[<-ll];exact Gb l.length ls.length)) (Bz rfl (by simp[T.dep])))
end G
end
lay_quick G.lhs G.rhs
name_quick lhsz for G.lhs by G.lhs_r
name_quick rhsz for G.rhs by G.rhs_r
open PySem PySem.W PyProof.Rows
set_option maxRecDepth 100000 in
set_option maxHeartbeats 0 in
theorem G.Hm (w : IP) (os : OsState) : PySem.W.Fast.lhsz w (boot_heap w.params) boot_drawn boot_toks os = PySem.W.Fast.rhsz w := by kernel_rfl
set_option maxRecDepth 100000 in
set_option maxHeartbeats 0 in
theorem PySem.Challenge.cw_farclocks_k52_whole_kept_holds : PySem.Challenge.rw_farclocks_k52_whole_kept.Holds := by
  w_on; o_law
  refine holds_open (q := G.vw) (loose := G.lse) (Xt := λ_ => true) (XP := λ_ _ => True) (Yf := (Tr.hookX G.asks G.top).obs) (Ya := (Tr.hookX G.asks G.top).val) (YP := (Tr.hookX G.asks G.top).says) (N := 9000) (Tr.left_of (by rfl) (by rfl) (λ_ => rfl) λw os => ?hl) (Tr.hookX G.asks G.top).of (Tr.hookX G.asks G.top).keeps (λ_ _ => trivial) (λ_ _ _ _ _ => trivial) (by rfl) (by rfl) (by rfl) (λs _ => recFacts_of (s := s) rfl) (by rfl) (by assumption) (by decide +kernel) ⟨rfl, rfl, rfl, rfl, rfl, by decide +kernel⟩ ?hw ?hc
  case hl => exact ((congrFun (congrFun (congrFun (congrFun (congrFun PySem.W.Fast.lhsz_eq w) _) _) _) os).trans (G.Hm w os)).trans (congrFun PySem.W.Fast.rhsz_eq w).symm
  case hw => w_witness2
  case hc => exact Tr.walk_x (n := 63) (k := 13) (x := "_law_script") (CX := L2.CX0) (sp := λK => Tr.spP K 1 G.m_law) rfl (by decide) rfl ⟨rfl, by decide, by decide⟩ (λw K mg fa h X e L b g hf => G.all_ok X e L b g hf) (λK H a ns hl _ hS => Tr.sp_script hS (G.pure_law ns hl)) λ_ _ _ _ z => z
