import PyProof.Rows.All
import Wide.All
import OpenK.AllK
import Wide.FinOn
import Lean
import PyProof.EqAt
import PyProof.EqKinds
import PyProof.TupleCall
import PyProof.ExcClass3
import PyProof.StationsW
import PyProof.ExcBaseAll.ValueError
import PyProof.ExcArgsOwn
import PyProof.IsiBase
import PyProof.IsiH_tuple
import PyProof.ExcAttrAll.ValueError
import PyProof.Rows.RuleN_isinstance
import PyProof.MeetsSeq
import PyProof.RulesAs
import PyProof.IsiH_list
import PyProof.AttrMiss
import KE.KDictOf
import PyProof.Rows.SumAny
import PyProof.Rows.MinMaxN
import PyProof.Rows.SortShellK
import PyProof.Rows.SortWalk
import PyProof.ZipIter
import PyProof.WalksMore
import PyProof.DictWalks
import PySem.Challenge.RW_farclocks_k54_whole_spans
open PySem.Builtin.SmallTypes renaming ownedTupleHandOut→Kw,ownedTupleIsFree→Jr,nextOf→Jx
open PySem.AutoListH renaming list___mul___list_int_3→OQ
open PyProof.Rows renaming slot_tuple_getitem→Kb,callWith_builtin1→Mv,callWith_type1→JO,subscriptTail_builtinR→NS,entry_tuple_getitem→OI,args_tuple_getitem→Pa,tupleItemsOf_→Pb,subscriptTail→Pc,boot_all→P6,IntsAre→MK,AllBare→NG,IsTup→Qs
open PySem.F renaming args_dict_keyiterator_next_1→MA,entry_dict_keyiterator_next→MI,slot_dict_keyiterator_next→Ky,args_tuple_iterator_next_1→MO,entry_tuple_iterator_next→MV,slot_tuple_iterator_next→K5,excBase_ValueError→M7,slot_list_getattribute→Ll,args_tuple_add_2→L3,slot_zip_getattribute→Lv,entry_tuple_add→L7,plainAttrs_list→L8,args_dict_get_2→Nv,slot_tuple_add→Mk,entry_dict_get→NN,slot_dict_get→Mx,slot_enumerate_next→N1,kt_typeCall_dict_1→Ou,args_object_init_3→Ov,args_dict_init_2→OS,args_zip_next_1→LL,args_int_rmul_2→Pk,slot_tuple_rmul→Pn,entry_dict_init→Pp,entry_zip_next→LY,slot_tuple_mul→NK,slot_int_index→PM,entry_int_rmul→PN,kt_called_dict→PU,typeCall_zip_2→PV,slot_dict_iter→PX,slot_zip_next→Kx,slot_int_rmul→MU,fills_int_mul→Qc,slot_zip_iter→Qg,newCall_zip_2→Qh,entry_zip_new→Qi
open PySem renaming wpAny_typeNameOfWhole_keyiter→KW,wpAny_newFunctionEnv_cells→Na,wpAny_binaryOp_repeat_ref→Nh,wpAny_typeNameOf_keyiter→Lo,wpAny_callSpecial?_slot→JM,wpAny_nextOf_list_item→Mm,wpAny_pyNext_list_item→NR,wpAny_Call_method_late→NT,builtinLookup_eq_fast→LH,wpAny_notOrdered_dict→ME,wpAny_pyNext_list_end→Of,codeAny_call_function→Oh,wpAny_nextOf_list_end→Ol,wpAny_isOneOf_keyiter→On,wpAny_updateSeq_pair→Lf,wpAny_raiseAttrError→Oy,codeAny_call_builtin→Oz,mem_of_lookup→K3,wpAny_setField_rec→Km,wpAny_Call_Name_kw→Kt,wpAny_pyIter_tuple→K8,tupleKind_room_in1→K9,wpAny_List_spliced→O7,sub_AttributeError→Pe,wpAny_dictSet_heap→Pf,foldedSetIterable→JQ,wpAny_truthy_bool→Kg,wpAny_newObj_type→Kk,wpAny_pyIter_list→LP,wpAny_dictEntries→Nu,wpAny_assign_Name→Pt,wpAny_sequenceKey→Pv,wpAny_pyIter_enum→Pw,wpAny_pyIter_slot→Px,wpAny_call_entry→J3,wpAny_isInstance→ML,noFill_tuple_add→NM,seqSlot_of→PR,wpAny_execs_cons→P2,kt_code_dict_new→P3,wpAny_pyIter_zip→P4,wpAny_loadPart'→Lp,letOwnedTupleGo→Mg,wpAny_execs_nil→MX,typeLookup_type→MZ,codeAny_builtin→M0,pushCells_keeps→Oj,wpAny_dictEpoch→Om,wpAny_passesOwn→Qk,importedModules→Qp,wpAny_seqItems→J8,wpAny_setField→Ni,firstArgMember→Nj,isSubtype_stop→Nk,wpAny_newTuple→OC,attributeBase→KI,wpAny_holding→K0,wpAny_attempt→Lx,wpAny_onRaise→Mh,behindInMarks→NH,plainId_quiet→NI,swapsWithSole→O5,swappedStores→O6,seq_tuple_add→O8,comprehension→Pd,bootBuiltins→JT,wpAny_typeOf→L6,codeAny_mono→Og,concat_meets→PH,callType_new→PJ,wpAny_field→JS,mainGlobals→J7,sizeLine_eq→Lw,sliceBounds→Mr,excClassObj→MY,wpAny_letGo→NJ,subscripted→OJ,keywordEach→Qm,wpAny_bind→IW,wpAny_pure→Jg,assignEach→KG,sysModules→Lm,wpAny_mono→Ln,wpAny_rule→Ms,call_meets→MP,typeLookup→Nt,builtinsNs→Oq,typeIs_int→Os,compareOp→JY,swapsWith→Kj,cellsFrom→Lz,DictEntry→MC,tupleKind→MD,pushCells→Oi,Arguments→Ql,lastMarks→Qo,starEach→Jz,boot_len→KJ,binaryOp→KR,FuncData→KS,NameKind→LO,Program→JI,BindsTo→Pu,Keyword→Qn,Shared→Jf,Around→J9,IsPair→LI,IsPart→O9,Paired→Qq,Result→Qr,Value→Je,World→Kr,Scope→Mi,CmpOp→Qt
open Int renaming mul_le_mul_of_nonneg_left→MJ,eq_ofNat_of_zero_le→Kh,emod_lt_of_pos→Nd,toNat_natCast→Ke,emod_nonneg→Ob,le_antisymm→Qe,mul_comm→Oc,zero_sub→PF,le_refl→Kl,neg_mul→NF
open PySem.Builtin.Dict_items renaming ownsTuple→MM
open PySem.Builtin.Slice renaming slicePartIndex→P5,sliceApplied→M4,slicePlaces→La,sliceAdjust→LV
open List renaming getElem?_append_right→LQ,getD_eq_getElem?_getD→LR,nodup_iff_pairwise_ne→M9,getElem?_eq_some_iff→Ju,drop_eq_getElem_cons→KH,getElem?_append_left→Lb,getElem?_eq_getElem→Jo,getElem?_cons_succ→KB,getElem?_replicate→Ma,filter_cons_of_pos→Me,filter_cons_of_neg→Mf,getElem?_cons_zero→NB,getElem?_set_self→JA,drop_eq_nil_of_le→LA,take_of_length_le→NQ,mem_append_right→Jt,length_singleton→KN,getElem?_eq_none→My,set_getElem_self→N3,take_append_drop→Oe,mem_cons_of_mem→IZ,getElem?_set_ne→JD,mem_append_left→JV,mem_of_getElem?→Ks,mem_erase_of_ne→Ox,map_congr_left→JE,replicate_succ→KF,filterMap_cons→Lr,getElem_of_mem→Ls,drop_succ_cons→OH,mem_cons_self→Ja,length_append→Jj,mem_singleton→Jp,mem_filterMap→KP,forIn_toArray→OU,getElem_range→OZ,append_of_mem→O4,size_toArray→Jw,append_assoc→JB,getElem?_map→JN,length_range→J2,nodup_append→Kf,flatten_cons→Lj,flatMap_cons→LN,any_eq_false→Mp,pairwise_map→Pr,length_cons→Ji,all_eq_true→JH,mem_flatMap→JW,not_mem_nil→J1,lookup_cons→Kq,getElem_mem→KU,length_drop→K6,length_take→Ly,getElem_map→MG,any_eq_true→MH,zipIdx_cons→NL,drop_length→PQ,filter_cons→PY,ext_getElem→P0,length_map→Jd,mem_append→JG,nodup_cons→JL,map_append→JX,append_nil→Kd,nil_append→Ko,length_set→Kp,forIn_cons→Lk,find?_cons→LG,mem_filter→MS,of_mem_zip→MT,length_nil→N4,zipIdx_nil→N6,range_succ→N9,foldl_cons→Qb,idxOf_cons→Qj,replicate→JC,mem_range→JR,nodup_nil→K1,forIn_nil→LW,map_cons→Jb,mem_cons→Jh,sum_cons→KZ,any_cons→Lu,all_cons→Nx,mem_map→Jl,map_map→J4,map_nil→L5,toArray→Pz,set_set→PD,length→Kn,lookup→L1,map_id→NA,range→Js,Nodup→JJ,foldl→Nq,cons→N8
open PySem.Builtin.Tuple renaming tupleItemsOf→M5,tupleIsExact→M6,tupleExact→KO
open PySem.Calls renaming Name_function_global→M8,callWith_builtin→Ml,evalArgs_plain→LS,spliced_cons→LB,spliced_nil→LK
open Classical renaming byContradiction→Ng
open PySem.Builtin.List renaming listTooLong→Lg
open Option renaming isSome_iff_exists→Li,map_eq_some_iff→KD,isSome_some→OR,isSome_map→Po,getD_none→PL,map_some→N7,some→Kc
open PySem.Builtin.Dict renaming addKeywords→Nm,selfAndRest→Nn,updateFrom→Lq,pairItems→NO,showsAll→NV
open PySem.Heap renaming get?_push_of_some→IY,get?_update_self→NZ,get?_push_size→Jk,NewAttrErr→MW,size_push→J6,lt_size→Jn,SameBut→LC,ExtBut→OF
open PySem.W renaming cellsFrom_some→Mj,hideAll_none→Ot,hideAll_get→MQ,of_hideAll→OK,callWith_K→OL,codeRec_of→OM,methodObj→Nl,kitx_list→Pg,kitx_dict→Ph,plainGet→PK,kia_one→Kv,instObj→NU,hideAll→P7,keepIn→Mt,lookIn→OA,codeIn→OB,mg_of→MN,Frag→IX,fnOf→Mu,nsIn→Mw
open Array renaming getElem?_eq_none→NP,getElem?_toList→Mz,length_toList→J5,find?_toList→OP,toList→NX
open PySem.Obj renaming isFreed_of_fields→N0,data_mapFields→Mb,cls_mapFields→Pm
open Bool renaming and_eq_false_iff→Oa,and_eq_true_iff→KY,false_ne_true→Jy,false_eq_true→KQ,not_eq_true'→Pq,and_eq_true→Jc,or_eq_true→Qd,true_and→Mc,false_or→Nz,and_true→ND
open PySem.Around renaming under_plainId→LU,units→MB
open PySem.Heap.SameBut renaming update→LZ,refl→Pj
open Nat renaming lt_of_lt_of_le→Jv,lt_of_le_of_lt→O0,le_of_succ_le→Nr,lt_succ_of_lt→Pl,lt_succ_self→PP,mod_eq_of_lt→PZ,lt_irrefl→JK,le_trans→Ka,ne_of_lt→KC,le_of_eq→LD,le_of_lt→L4,ne_of_gt→Nb,sub_zero→Nc,zero_add→Nf,add_comm→NY,sub_self→N5,mul_comm→Py,le_refl→Jq,zero_le→Lc
open Option.some renaming injEq→Mo,inj→JU
open ForInStep renaming yield→LF
open List.cons renaming injEq→MR
open PySem.Expr renaming Subscript→K2,Attribute→LX,Constant→OV,ListComp→OY,Compare→PB,UnaryOp→PC,BoolOp→Ld,Name→JP,Call→K4
open PySem.NameKind renaming free→JZ,cell→KA
open PySem.Paired renaming length→L9
open PySem.Str renaming ofString→Jm
open PySem.Stmt renaming Assign→Mq
open PySem.Shared renaming heap→Ny
open PySem.Scope renaming names→NC
open PySem.Pos renaming endLine→OG,line→LM
open Prod.mk renaming inj→P8
open PySem.Data renaming fields→P9,cell→ON
open PySem.Value renaming none→J0,bool→Ku,type→Np,ref→JF,int→KL,str→KM
open True renaming intro→Lh
open False renaming elim→LJ
open PySem.BoolOp renaming And→Oo,Or→OW
open PySem.Env renaming scope→K7
open PyProof.Rows.IsTup renaming new→Qa
open Iff renaming rfl→MF
open Ne renaming symm→NW
open Sum renaming inl→OD,inr→OE
open Or renaming inr→Ki,inl→Kz
set_option Elab.async false
set_option linter.all false
set_option maxRecDepth 100000
set_option maxHeartbeats 8000000
noncomputable section
namespace L2
open PySem PySem.Spec PyProof.Rows
abbrev Key:=Sum Int Str
def qh:Key->Je->Bool
 | .inl k,v=>Value.isInt k v
 | .inr x,v=>Value.isStrOf x v
def keyH (w:Kr):Key->Int
 | .inl k=>hashInt k
 | .inr x=>hashStr w x
theorem cT:∀{k:Key} {v:Je},qh k v=true->(∃i t,k=OD i/\v=KL i t)\/(∃x t,k=OE x/\v=KM x t)
 | .inl i,v,h=>by
  obtain⟨t,e⟩:=Value.isInt_shape (k:=i) (v:=v) h
  exact .inl ⟨i,t,rfl,e⟩
 | .inr x,v,h=>by
  obtain⟨t,e⟩:=Value.isStrOf_shape (x:=x) (v:=v) h;exact .inr ⟨x,t,rfl,e⟩
theorem xJ (i:Int)(t:Tok):qh (.inl i) (.int i t)=true:=by simp[qh,Value.isInt]
theorem xI (x:Str)(t:Tok):qh (.inr x) (.str x t)=true:=by simp[qh,Value.isStrOf]
theorem ES (a b:Int):decide ((OD a:Key)=OD b)=(a == b):=by
 by_cases e:a=b
 ·subst e;simp
 ·have h:¬ (OD a:Key)=OD b:=λq=>e (OD.inj q)
  rw[decide_eq_false h];exact(beq_eq_false_iff_ne.mpr e).symm
theorem EN (a b:Str):decide ((OE a:Key)=OE b)=decide (a=b):=by
 by_cases e:a=b
 ·subst e;simp
 ·have h:¬ (OE a:Key)=OE b:=λq=>e (OE.inj q)
  rw[decide_eq_false h,decide_eq_false e]
theorem ER (a:Int)(b:Str):decide ((OD a:Key)=OE b)=false:=decide_eq_false (λq=>nomatch q)
theorem EO (a:Str)(b:Int):decide ((OE a:Key)=OD b)=false:=decide_eq_false (λq=>nomatch q)
def cH (prog:JI)(w:Kr):PySem.KeyKind prog w Key where
 is:=qh
 hash:=keyH w
 inj:=λv a b ha hb=>by
  rcases cT ha with⟨i,t,rfl,rfl⟩ | ⟨x,t,rfl,rfl⟩
  ·rcases cT hb with⟨j,u,rfl,e⟩ | ⟨y,u,rfl,e⟩
   ·injection e with e1 _;rw[e1]
   ·exact nomatch e
  ·rcases cT hb with⟨j,u,rfl,e⟩ | ⟨y,u,rfl,e⟩
   ·exact nomatch e
   ·injection e with e1 _;rw[e1]
 byValue:=λk v h=>by
  rcases cT h with⟨i,t,rfl,rfl⟩ | ⟨x,t,rfl,rfl⟩ <;> rfl
 pyHash:=λhv h=>by
  rcases cT hv with⟨i,t,rfl,rfl⟩ | ⟨x,t,rfl,rfl⟩
  ·exact wpAny_pyHash_int h
  ·exact wpAny_pyHash_str h
 eqBool:=λhu hv h=>by
  rcases cT hu with⟨i,t,rfl,rfl⟩ | ⟨x,t,rfl,rfl⟩
  ·rcases cT hv with⟨j,u,rfl,rfl⟩ | ⟨y,u,rfl,rfl⟩
   ·rw[ES]at h;exact wpAny_eqBool_int h
   ·rw[ER]at h;exact SeqAt.EqAt.int_str i t y u _ _ _ _ h
  ·rcases cT hv with⟨j,u,rfl,rfl⟩ | ⟨y,u,rfl,rfl⟩
   ·rw[EO]at h;exact SeqAt.EqAt.str_int x t j u _ _ _ _ h
   ·rw[EN]at h;exact wpAny_eqBool_str h
 «strs»:=λk x t v h=>by
  rcases cT h with⟨i,u,rfl,e⟩ | ⟨y,u,rfl,e⟩
  ·exact nomatch e
  ·injection e with e1 _
   subst e1;cases v <;> rfl
theorem ue (prog:JI)(w:Kr)(i:Int)(t:Tok):(cH prog w).is (.inl i) (.int i t)=true:=xJ i t
theorem ud (prog:JI)(w:Kr)(x:Str)(t:Tok):(cH prog w).is (.inr x) (.str x t)=true:=xI x t
inductive V where
 | non | bl (b:Bool) | int (i:Int) | str (x:Str) | byt (b:Array UInt8) | flt (b:UInt64) | ref (a:Addr) | ty (n:String)
 deriving DecidableEq
def RelV:V->Je->Prop
 | .non,u=>u=J0
 | .bl b,u=>u=Ku b
 | .int i,u=> ∃t,u=KL i t
 | .str x,u=> ∃t,u=KM x t
 | .byt b,u=> ∃t,u=Value.bytes b t
 | .flt b,u=> ∃t,u=Value.float b t
 | .ref a,u=>u=JF a
 | .ty n,u=>u=Np n
abbrev Vals:List V->List Je->Prop:=Qq RelV
theorem Vals.length {xs:List V}{us:List Je}(r:Vals xs us):xs.length=us.length:=L9 r
theorem Vals.get:∀{xs:List V} {us:List Je} {i:Nat} {x:V},Vals xs us->xs[i]? =some x->∃u,us[i]? =some u/\RelV x u
 | _,_,_,_,.nil,e=>by simp at e
 | _,_,0,_,.cons r _,e=>by simp at e;subst e;exact⟨_,rfl,r⟩
 | _,_,i+1,x,.cons _ t,e=>by
  obtain⟨u,h1,h2⟩:=Vals.get (i:=i) (x:=x) t (by simpa using e)
  exact⟨u,by simpa using h1,h2⟩
theorem Vals.append:∀{xs ys:List V} {us ws:List Je},Vals xs us->Vals ys ws->Vals (xs++ys) (us++ws)
 | _,_,_,_,.nil,s=>s
 | _,_,_,_,.cons r t,s=> .cons r (Vals.append t s)
theorem Vals.take:∀{xs:List V} {us:List Je} (n:Nat),Vals xs us->Vals (xs.take n) (us.take n)
 | _,_,0,_=> .nil
 | _,_,_+1,.nil=> .nil
 | _,_,n+1,.cons r t=> .cons r (Vals.take n t)
theorem Vals.drop:∀{xs:List V} {us:List Je} (n:Nat),Vals xs us->Vals (xs.drop n) (us.drop n)
 | _,_,0,r=>r
 | _,_,_+1,.nil=> .nil
 | _,_,n+1,.cons _ t=>Vals.drop n t
def RelO:Option V->Option Je->Prop
 | some v,some u=>RelV v u
 | none,none=>True
 | _,_=>False
def KV {κ:Type}:List (κ×V)->List (κ×Je)->Prop:=Qq λ(p:κ×V) (q:κ×Je)=>p.1=q.1/\RelV p.2 q.2
def kV:Key->V
 | .inl i=> .int i
 | .inr x=> .str x
inductive HO where
 /-- a list -/
 | lst (xs:List V)
 /-- a tuple (never changes) -/
 | tup (xs:List V)
 /-- a dict whose keys are ints and texts;one whose keys are tuples of ints and texts (the empty one is both) -/
 | dK (kvs:List (Key×V)) | dT (kvs:List (List Key×V))
 /-- a set of ints: its members,its size -/
 | set (S:Int->Bool) (n:Nat)
 /-- an instance of the class at C,its dict at dx,its attributes -/
 | ins (C dx:Addr) (fs:List (Str×V))
 /-- the dict of the instance at x -/
 | own (x:Addr)
 /-- the dict of an exception -/
 | xd (fs:List (Str×V))
 /-- a bound method,f of x -/
 | met (f x:Addr)
 /-- a range object lo,lo+1,.. below hi -/
 | rng (lo hi:Int)
 /-- a thing that is known to the object (the script;a dict while a loop walks it): read,never written while it is so -/
 | frz (o:Obj) (u:HO)
 /-- a code object's table -/
 | tbl (ps:Array Je)
 /-- any other thing,by what is true of its one object (a def of one's own: SetO a S n:=HO.ext λh=> ..) -/
 | ext (φ:Heap->Prop)
abbrev Hp:=Addr->Option HO
def upd (H:Hp)(a:Addr)(o:HO):Hp:=λb=>if b=a then some o else H b
theorem aG {H:Hp}{a:Addr}{o:HO}:upd H a o a=some o:=by unfold upd;rw[if_pos rfl]
theorem aF {H:Hp}{a b:Addr}{o:HO}(h:b≠a):upd H a o b=H b:=by unfold upd;rw[if_neg h]
theorem jO {H:Hp}{a:Addr}{o u:HO}:upd (upd H a o) a u=upd H a u:=by
 funext b;unfold upd;split <;> rfl
theorem jz {H:Hp}{a b:Addr}{o u:HO}(h:H a=some o)(h':H b=some u)(d:o≠u):a≠b:=by
 intro e;subst e;rw[h]at h';exact d (JU h')
theorem cy {H:Hp}{a b:Addr}{o:HO}(h:H a=some o)(h':H b=none):a≠b:=by
 intro e;subst e;rw[h]at h';cases h'
section
variable (P:JI)(w:Kr)
def ObjOk (H:Hp)(h:Heap)(a:Addr):HO->Prop
 | .lst xs=>xs.length<=sizeLine/\∃(its:List Je) (n:Nat),Vals xs its/\h.get? a=some { cls:=.type "list",data:=.seq its.toArray n }
 | .tup xs=>xs.length<=sizeLine/\∃its:List Je,Vals xs its/\Qs h a its.toArray
 | .dK kvs=>kvs.length<=sizeLine/\(a == Lm)=false/\∃vs,KV kvs vs/\h.DictOf (cH P w) a vs
 | .dT kvs=>kvs.length<=sizeLine/\(a == Lm)=false/\∃xs:List (List Key×Addr×Je),
   Qq (λ(p:List Key×V) (q:List Key×Addr×Je)=>p.1=q.1/\H q.2.1=some (.tup (p.1.map kV))/\RelV p.2 q.2.2) kvs xs ∧
   ∃o es ep,h.get? a=some o/\o.ExactDict/\o.data= .dict es ep/\es.toList=xs.map (entryOfKey (MD (cH P w)))/\(xs.map (·.1)).Nodup
 | .set S n=>h.SetOf (intKind P w) a S n
 | .ins C dx fs=>H dx=some (.own a)/\fs.length<=1000/\dx≠a/\h.get? a=some (NU C dx) ∧
   ∃mA,h.Ns1 dx mA/\(∀f,RelO (fs.lookup f) (mA f))/\PySem.Within mA (fs.map (·.1))
 | .own _=> ∃o,h.get? a=some o
 | .xd fs=> ∃mA,h.Ns1 a mA/\∀f,RelO (fs.lookup f) (mA f)
 | .rng lo hi=> ∃t u v,h.get? a=some { cls:=.type "range",data:=.fields #[.int lo t,.int hi u,.int 1 v] }
 | .frz o u=>h.get? a=some o/\ObjOk H h a u
 | .tbl ps=>h.get? a=some { cls:=.none,data:=.fields ps }
 | .met f x=>h.get? a=some (Nl (.ref f) (.ref x))
 | .ext φ=>φ h/\(∃o,h.get? a=some o)/\∀h1 h2:Heap,φ h1->(∀o,h1.get? a=some o->h2.get? a=some o)->φ h2
def HOk (H:Hp)(h:Heap):Prop:=∀a o,H a=some o->ObjOk P w H h a o
end
section
variable {P:JI}{w:Kr}{H H':Hp}{h h':Heap}{a:Addr}{o:HO}
theorem ObjOk.lt (x:ObjOk P w H h a o):a<h.objs.size:=by
 cases o with
 | lst xs=>obtain⟨_,_,_,_,e⟩:=x;exact Jn e
 | tup xs=>obtain⟨_,_,_,p⟩:=x;exact p.lt
 | dK kvs=>obtain⟨_,_,_,_,o,_,_,e,_⟩:=x;exact Jn e
 | dT kvs=>obtain⟨_,_,_,_,o,_,_,e,_⟩:=x;exact Jn e
 | set S n=>obtain⟨o,_,_,_,e,_⟩:=x;exact Jn e
 | ins C dx fs=>obtain⟨_,_,_,e,_⟩:=x;exact Jn e
 | own y=>obtain⟨_,e⟩:=x;exact Jn e
 | xd fs=>obtain⟨_,⟨_,_,_,e,_⟩,_⟩:=x;exact Jn e
 | rng lo hi=>obtain⟨_,_,_,e⟩:=x;exact Jn e
 | frz ob u=>obtain⟨e,_⟩:=x;exact Jn e
 | tbl ps=>exact Jn (show h.get? a=some _ from x)
 | met f y=>exact Jn (show h.get? a=some _ from x)
 | ext φ=>obtain⟨_,⟨_,e⟩,_⟩:=x;exact Jn e
theorem Paired.IB {α β:Type}{F G:α->β->Prop}:∀{l₁:List α} {l₂:List β},Qq F l₁ l₂->(∀a b,F a b->G a b)->Qq G l₁ l₂
 | _,_,.nil,_=> .nil
 | _,_,.cons r t,f=> .cons (f _ _ r) (Paired.IB t f)
theorem ObjOk.HU (x:ObjOk P w H h a o)(k:∀b u,(b=a\/H b=some (.own a))->h.get? b=some u->h'.get? b=some u)
  (ho:∀b,H b=some (.own a)->H' b=some (.own a)) (ht:∀b xs,H b=some (.tup xs)->H' b=some (.tup xs)):ObjOk P w H' h' a o:=by
 induction o with
 | lst xs=>obtain⟨z,its,n,r,e⟩:=x;exact⟨z,its,n,r,k _ _ (.inl rfl) e⟩
 | tup xs=>obtain⟨z,its,r,ob,e,c⟩:=x;exact⟨z,its,r,ob,k _ _ (.inl rfl) e,c⟩
 | dK kvs=>obtain⟨z,y,vs,r,ob,es,ep,e,c⟩:=x;exact⟨z,y,vs,r,ob,es,ep,k _ _ (.inl rfl) e,c⟩
 | dT kvs=>
  obtain⟨z,y,xs,r,ob,es,ep,e,c⟩:=x
  exact⟨z,y,xs,Paired.IB r λp q z=>⟨z.1,ht _ _ z.2.1,z.2.2⟩,ob,es,ep,k _ _ (.inl rfl) e,c⟩
 | set S n=>obtain⟨ob,es,ep,t,e,c⟩:=x;exact⟨ob,es,ep,t,k _ _ (.inl rfl) e,c⟩
 | ins C dx fs=>
  obtain⟨d,z,ne,e,mA,⟨od,es,ep,e2,c⟩,r⟩:=x
  exact⟨ho _ d,z,ne,k _ _ (.inl rfl) e,mA,⟨od,es,ep,k _ _ (.inr d) e2,c⟩,r⟩
 | own y=>obtain⟨ob,e⟩:=x;exact⟨ob,k _ _ (.inl rfl) e⟩
 | xd fs=>obtain⟨mA,⟨od,es,ep,e,c⟩,r⟩:=x;exact⟨mA,⟨od,es,ep,k _ _ (.inl rfl) e,c⟩,r⟩
 | rng lo hi=>obtain⟨t,u,v,e⟩:=x;exact⟨t,u,v,k _ _ (.inl rfl) e⟩
 | frz ob u ih=>obtain⟨e,q⟩:=x;exact⟨k _ _ (.inl rfl) e,ih q⟩
 | tbl ps=>
  have e:h.get? a=some { cls:=.none,data:=.fields ps }:=x
  show h'.get? a=some { cls:=.none,data:=.fields ps }
  exact k a _ (.inl rfl) e
 | met f y=>
  have e:h.get? a=some (Nl (.ref f) (.ref y)):=x
  show h'.get? a=some (Nl (.ref f) (.ref y))
  exact k a _ (.inl rfl) e
 | ext φ=>obtain⟨p,⟨o,e⟩,st⟩:=x;exact⟨st _ _ p λo q=>k _ _ (.inl rfl) q,⟨o,k _ _ (.inl rfl) e⟩,st⟩
theorem HOk.lt (x:HOk P w H h)(e:H a=some o):a<h.objs.size:=(x a o e).lt
theorem HOk.fresh (x:HOk P w H h)(e:h.objs.size<=a):H a=none:=by
 cases q:H a with
 | none=>rfl
 | some u=>exact absurd (Jv (x.lt q) e) (JK _)
theorem HOk.kept (x:HOk P w H h)(k:∀b u,h.get? b=some u->h'.get? b=some u):HOk P w H h':=λa o e=>
 (x a o e).HU (λb u _ q=>k b u q) (λ_ q=>q) λ_ _ q=>q
theorem HOk.laid (x:HOk P w H h)(k:∀b u,h.get? b=some u->h'.get? b=some u)(hp:h.objs.size<=a)(new:ObjOk P w (upd H a o) h' a o):HOk P w (upd H a o) h':=λb u e=>by
 have hn:=x.fresh hp
 by_cases hb:b=a
 ·subst hb;rw[aG]at e;cases e;exact new
 ·rw[aF hb]at e
  exact(x b u e).HU (λc v _ q=>k c v q) (λc q=>by rw[aF (cy q hn)];exact q) λc xs q=>by rw[aF (cy q hn)];exact q
end
def Rd (H:Hp)(a:Addr)(u:HO):Prop:=H a=some u\/∃o,H a=some (.frz o u)
theorem Rd.ok {P:JI}{w:Kr}{H:Hp}{h:Heap}{a:Addr}{u:HO}(r:Rd H a u)(x:HOk P w H h):ObjOk P w H h a u:=by
 rcases r with r | ⟨o,r⟩
 ·exact x a u r
 ·obtain⟨_,q⟩:=x a _ r
  exact q
def Ha:Option HO->Prop
 | some (.lst _)=>True
 | some (.dK _)=>True
 | some (.dT _)=>True
 | some (.set _ _)=>True
 | some (.ins _ _ _)=>True
 | some (.ext _)=>True
 | _=>False
section
variable {P:JI}{w:Kr}{H:Hp}{h h':Heap}{x e:Addr}{o':HO}
theorem HOk.write (ok:HOk P w H h)(mu:Ha (H x))(he:e=x\/H e=some (.own x))(k:∀b u,b≠e->h.get? b=some u->h'.get? b=some u)(heo:∃u,h'.get? e=some u)
  (new:ObjOk P w (upd H x o') h' x o'):HOk P w (upd H x o') h':=λb u q=>by
 have nown:∀c y,H c=some (.own y)->c≠x:=λc y r z=>by subst z;rw[r]at mu;exact mu
 have ntup:∀c xs,H c=some (.tup xs)->c≠x:=λc xs r z=>by subst z;rw[r]at mu;exact mu
 by_cases hb:b=x
 ·subst hb;rw[aG]at q;cases q;exact new
 ·rw[aF hb]at q
  by_cases hbe:b=e
  ·have q':H b=some (.own x):=by
    rcases he with z | z
    ·exact absurd (hbe.trans z) hb
    ·rw[hbe];exact z
   rw[q]at q';cases q';obtain⟨v,hv⟩:=heo;exact⟨v,by rw[hbe];exact hv⟩
  ·refine(ok b u q).HU (λc v hc r=>k c v ?_ r) (λc r=>by rw[aF (nown c b r)];exact r) λc xs r=>by rw[aF (ntup c xs r)];exact r
   rcases hc with rfl | hc
   ·exact hbe
   ·rintro rfl
    rcases he with z | z
    ·exact nown c b hc z
    ·rw[hc]at z;cases z;exact hb rfl
end
structure Un (fs ex:List Addr)(H H':Hp)(h h':Heap):Prop where
 keep:∀b o,h.get? b=some o->H b=none->b∉fs->b∉ex->h'.get? b=some o
 slot:∀b o,h.get? b=some o->H b=none->b∈fs->b∉ex->∃sl,h'.get? b=some { o with slots:=sl }
 free:∀b o,h.get? b=some o->H b=none->b∉ex->H' b=none
 there:∀b o,h.get? b=some o->b∉ex->∃o',h'.get? b=some o'
 tups:∀b xs,H b=some (.tup xs)->H' b=some (.tup xs)
 frzs:∀b o u,H b=some (.frz o u)->H' b=some (.frz o u)
 tbls:∀b ps,H b=some (.tbl ps)->∃more,H' b=some (.tbl (ps++more))
section
variable {fs fs' ex ex':List Addr}{H H1 H2:Hp}{h h1 h2 h':Heap}{a x e:Addr}{o:HO}
theorem Un.any (u:Un fs ex H H1 h h1){b:Addr}{ob:Obj}(q:h.get? b=some ob)(n:H b=none)(hx:b∉ex):∃sl,h1.get? b=some { ob with slots:=sl }:=by
 by_cases hb:b∈fs
 ·exact u.slot b ob q n hb hx
 ·exact⟨ob.slots,u.keep b ob q n hb hx⟩
theorem Un.kept (k:∀b u,h.get? b=some u->h'.get? b=some u):Un fs ex H H h h':=
 ⟨λb ob q _ _ _=>k b ob q,λb ob q _ _ _=>⟨ob.slots,k b ob q⟩,λ_ _ _ n _=>n,λb ob q _=>⟨ob,k b ob q⟩,λ_ _ q=>q,λ_ _ _ q=>q,λ_ ps q=>⟨#[],by rw[q];simp⟩⟩
theorem Un.refl:Un fs ex H H h h:=Un.kept λ_ _ q=>q
theorem Un.laid (k:∀b u,h.get? b=some u->h'.get? b=some u)(hp:h.objs.size<=a)(hn:H a=none):Un fs ex H (upd H a o) h h' where
 keep:=λb u q _ _ _=>k b u q
 slot:=λb u q _ _ _=>⟨u.slots,k b u q⟩
 free:=λb u q n _=>by rw[aF (KC (Jv (Jn q) hp))];exact n
 there:=λb u q _=>⟨u,k b u q⟩
 tups:=λb xs q=>by rw[aF (cy q hn)];exact q
 frzs:=λb u xs q=>by rw[aF (cy q hn)];exact q
 tbls:=λb ps q=>⟨#[],by rw[aF (cy q hn),q];simp⟩
theorem Un.write (mu:Ha (H x))(he:e=x\/H e=some (.own x))(k:∀b u,b≠e->h.get? b=some u->h'.get? b=some u)(heo:∃u,h'.get? e=some u):Un fs ex H (upd H x o) h h':=by
 have hx:∀b,H b=none->b≠x:=λb n z=>by subst z;rw[n]at mu;exact mu
 have hb:∀b,H b=none->b≠e:=λb n z=>by
  subst z;rcases he with r | r
  ·exact hx b n r
  ·rw[n]at r;cases r
 have hm:∀b u,H b=some u->¬ Ha (some u)->b≠x:=λb u q nm z=>by subst z;rw[q]at mu;exact nm mu
 refine⟨λb u q n _ _=>k b u (hb b n) q,λb u q n _ _=>⟨u.slots,k b u (hb b n) q⟩,λb u q n _=>by rw[aF (hx b n)];exact n,λb u q _=> ?_,
  λb xs q=>by rw[aF (hm b _ q λz=>z)];exact q,λb u xs q=>by rw[aF (hm b _ q λz=>z)];exact q,λb ps q=>⟨#[],by rw[aF (hm b _ q λz=>z),q];simp⟩⟩
 by_cases hbe:b=e
 ·subst hbe;exact heo
 ·exact⟨u,k b u hbe q⟩
end
def trk (h:Heap)(H:Hp):List Addr:=(Js h.objs.size).filter λa=>(H a).isSome
def r9 (h:Heap)(H:Hp):Heap:=P7 h (trk h H)
theorem xN (h:Heap)(H:Hp):(r9 h H).objs.size=h.objs.size:=PySem.W.hideAll_size _ _
theorem Ai {h:Heap}{H:Hp}{b:Addr}{o:Obj}(e:h.get? b=some o)(n:H b=none):(r9 h H).get? b=some o:=
 MQ _ e λhm=>by
  have q:(H b).isSome=true:=(MS.mp hm).2;rw[n]at q;simp at q
theorem B2 {h:Heap}{H:Hp}{b:Addr}{o:Obj}(e:(r9 h H).get? b=some o):h.get? b=some o/\H b=none:=by
 have e':h.get? b=some o:=OK (trk h H) e;refine⟨e',?_⟩
 cases q:H b with
 | none=>rfl
 | some x=>
  have hm:b∈trk h H:=MS.mpr ⟨JR.mpr (Jn e'),by simp[q]⟩
  have z:(r9 h H).get? b=none:=Ot (trk h H) hm;rw[z]at e;cases e
def CI (g h:Heap)(L:Addr):List (Addr×Obj):=(Js h.objs.size).filterMap λa=>if a=L\/(g.get? a).isSome=true then none else(h.get? a).map λo=>(a,o)
def rest (g h:Heap)(L d:Addr):List (Addr×Obj):=(CI g h L).filter λp=>decide (p.1≠d)
structure Mod (K:IX)(mg:Str->Option Je)(base:Heap):Prop where
 kin:K.In base
 glob:base.Ns J7 mg
 blt:∃mb,base.Ns Oq mb/\∀x:Str,x≠ "__name__"->mb x=JT x
 nolimit:base.NoLimit
structure Cx where
 prog:JI
 w:Kr
 K:IX
 mg:Str->Option Je
 base:Heap
 A:J9
 N:List Str
 s₀:Jf
 H₀:Hp
 env:Env
 outer:List Env
 stack:List Env
 ex:List Addr
 fn:Str->Bool
 calm:Bool
 pn:List (Addr×Obj)
 xe:Je->Jf->Prop
def se (l:List Env):List Addr:=l.filterMap (·.frame)
abbrev Cx.fs (X:Cx):List Addr:=se X.outer
def uN (sc:Mi)(x:Str):Prop:=sc.names.lookup x=some .local\/sc.names.lookup x=some .cell\/sc.names.lookup x=some .free
def Loc (sc:Mi)(x:Str):Prop:=sc.names.lookup x=some .local\/sc.names.lookup x=some .cell
def Look (env:Env)(h:Heap)(m:Str->Option Je)(x:Str)(u:Je):Prop:=
 (env.kindOf x=some .local/\m x=some u)\/((env.kindOf x=some .cell\/env.kindOf x=some .free)/\∃c,env.cells.lookup x=some c/\h.IsCell c (some u))
structure Cx.Ok (X:Cx):Prop where
 mod:Mod X.K X.mg X.base
 kind:X.env.scope.kind= .function
 glob:X.env.globals=J7
 blt:X.env.builtins=Oq
 above:X.s₀.heap.objs.size<=X.env.locals
 inj:∀x y c,X.env.cells.lookup x=some c->X.env.cells.lookup y=some c->x=y
 has:∀x,(X.env.kindOf x=some .cell\/X.env.kindOf x=some .free)->∃c,X.env.cells.lookup x=some c
 cab:∀x c,X.fn x=true->X.env.cells.lookup x=some c->X.s₀.heap.objs.size<=c
 hd:X.calm=true->X.A.handled=none
 frames:X.A.frames=some X.stack
 stk:X.stack=X.outer\/(X.stack=X.env::X.outer/\X.env.frame=some X.env.locals)
 exf:∀b∈X.ex,b≠X.env.locals/\∀x c,X.env.cells.lookup x=some c->c≠b
 bs:∀b o,X.base.get? b=some o->X.s₀.heap.get? b=some o/\X.H₀ b=none
 bsz:X.base.objs.size<=X.s₀.heap.objs.size
 noex:∀b o,X.base.get? b=some o->b∉X.ex
 exfs:∀b∈X.ex,b∉X.fs
 funs:X.s₀.heap.FunFrames X.base X.outer
 frf:∀b∈X.fs,X.H₀ b=none
structure Inv (X:Cx)(pins:List (Addr×Obj))(σ:List (Option V))(H:Hp)(s:Jf):Prop where
 ok:X.Ok
 os:s.os=X.s₀.os
 bare:NG s.gens
 base:Un X.fs X.ex X.H₀ H X.s₀.heap s.heap
 loc:∃m,s.heap.Ns X.env.locals m/\∀(i:Nat) (x:Str) (v:V),X.N[i]? =some x->σ[i]? =some (some v)->uN X.env.scope x->∃u,RelV v u/\Look X.env s.heap m x u
 cell:∀x c,X.env.cells.lookup x=some c->∃v,s.heap.IsCell c v
 free:H X.env.locals=none
 freeC:∀x c,X.env.cells.lookup x=some c->H c=none
 pin:∀p∈X.pn++pins,s.heap.get? p.1=some p.2/\H p.1=none/\p.1≠X.env.locals/\p.1∉X.fs/\∀v,p.2.data≠ .cell v
 hok:HOk X.prog X.w H s.heap
 len:σ.length=X.N.length
section
variable {X:Cx}{pins:List (Addr×Obj)}{σ:List (Option V)}{H H':Hp}{s:Jf}{h':Heap}
theorem Cx.Ok.IT (ok:X.Ok){b:Addr}{o:Obj}(e:X.base.get? b=some o):b∉X.fs:=λhb=>by
 have:=(ok.funs.mem hb).1;rw[e]at this;cases this
theorem Inv.bs (I:Inv X pins σ H s):∀b o,X.base.get? b=some o->s.heap.get? b=some o/\H b=none:=λb o e=>
 ⟨I.base.keep b o (I.ok.bs b o e).1 (I.ok.bs b o e).2 (I.ok.IT e) (I.ok.noex b o e),I.base.free b o (I.ok.bs b o e).1 (I.ok.bs b o e).2 (I.ok.noex b o e)⟩
theorem Inv.bk (I:Inv X pins σ H s):∀b o,X.base.get? b=some o->s.heap.get? b=some o:=λb o e=>(I.bs b o e).1
theorem Inv.mod (I:Inv X pins σ H s):Mod X.K X.mg X.base:=I.ok.mod
theorem Inv.kIn (I:Inv X pins σ H s):X.K.In s.heap:=I.ok.mod.kin.keeps I.bk
theorem Inv.lt (I:Inv X pins σ H s):X.env.locals<s.heap.objs.size:=let ⟨_,hn,_⟩:=I.loc;hn.lt
theorem Inv.sz (I:Inv X pins σ H s):X.s₀.heap.objs.size<=s.heap.objs.size:=Ka I.ok.above (L4 I.lt)
theorem Inv.IV (I:Inv X pins σ H s){a:Addr}(h:s.heap.objs.size<=a):a∉X.fs:=λhb=>by
 obtain⟨_,o,ho,_⟩:=I.ok.funs.mem hb;exact absurd (Jv (Jn ho) (Ka I.sz h)) (JK _)
theorem Inv.cne (I:Inv X pins σ H s):∀x c,X.env.cells.lookup x=some c->c≠X.env.locals:=λx c e z=>by
 obtain⟨v,o,ho,hd⟩:=I.cell x c e;obtain⟨m,⟨o',es,ep,ho',hd',_⟩,_⟩:=I.loc;rw[z,ho']at ho;cases ho;rw[hd']at hd;cases hd
theorem Inv.funs (I:Inv X pins σ H s):s.heap.FunFrames X.base X.outer:=by
 have all:∀(l:List Env),(∀b∈se l,b∈X.fs)->X.s₀.heap.FunFrames X.base l->s.heap.FunFrames X.base l:=by
  intro l
  induction l with
  | nil=>intro _ _;trivial
  | cons env r ih=>
   intro hs hl;obtain⟨hk,⟨L,o,hf,hn,ho,hd⟩,hr⟩:=hl
   have hL:L∈X.fs:=hs L (by unfold se;rw[Lr,hf];exact Ja)
   obtain⟨sl,e⟩:=I.base.slot L o ho (I.ok.frf L hL) hL λz=>I.ok.exfs L z hL
   exact⟨hk,⟨L,_,hf,hn,e,hd⟩,ih (λb hb=>hs b (by unfold se;rw[Lr,hf];exact IZ _ hb)) hr⟩
 exact all X.outer (λ_ hb=>hb) I.ok.funs
theorem Inv.stack (I:Inv X pins σ H s):s.heap.FunFrames X.base X.stack:=by
 rcases I.ok.stk with e | ⟨e,hf⟩
 ·rw[e];exact I.funs
 ·rw[e]
  obtain⟨m,hn,_⟩:=I.loc;refine .cons (by rw[I.ok.kind];decide) hf hn ?_ I.funs
  exact Heap.get?_none_of_le (Ka I.ok.bsz I.ok.above)
theorem Inv.Ig (I:Inv X pins σ H s):∀b∈se X.stack,b∈X.env.locals::X.fs:=λb hb=>by
 rcases I.ok.stk with e | ⟨e,hf⟩
 ·rw[e]at hb;exact IZ _ hb
 ·rw[e]at hb
  unfold se at hb;rw[Lr,hf]at hb;exact hb
theorem Inv.H0 (I:Inv X pins σ H s):∀b∈se X.stack,H b=none:=λb hb=>by
 rcases Jh.mp (I.Ig b hb)with e | hb
 ·rw[e];exact I.free
 ·obtain⟨_,o,ho,_⟩:=I.ok.funs.mem hb
  exact I.base.free b o ho (I.ok.frf b hb) λz=>I.ok.exfs b z hb
theorem Inv.step {g':Array GenState}{t':Nat}{d':Drawn}{ch:List Addr}(I:Inv X pins σ H s)
  (hch:∀b∈ch,(b∈X.ex\/X.s₀.heap.objs.size<=b)/\b≠X.env.locals/\(∀x c,X.env.cells.lookup x=some c->c≠b)/\∀p∈X.pn++pins,p.1≠b)
  (keep:∀b o,b≠X.env.locals->b∉X.fs->b∉ch->s.heap.get? b=some o->H b=none->h'.get? b=some o)
  (slot:∀b o,b≠X.env.locals->b∈X.fs->b∉ch->s.heap.get? b=some o->H b=none->∃sl,h'.get? b=some { o with slots:=sl }) (free:∀b o,b∉ch->s.heap.get? b=some o->H b=none->H' b=none)
  (there:∀b o,b∉ch->s.heap.get? b=some o->∃o',h'.get? b=some o')
  (tups:∀b xs,H b=some (.tup xs)->H' b=some (.tup xs)) (frzs:∀b o u,H b=some (.frz o u)->H' b=some (.frz o u)) (tbls:∀b ps,H b=some (.tbl ps)->∃more,H' b=some (.tbl (ps++more)))
  (ns:∀m,s.heap.Ns X.env.locals m->h'.Ns X.env.locals m) (hok:HOk X.prog X.w H' h') (hg:NG g') :
  Inv X pins σ H' { s with heap:=h',gens:=g',drawn:=d',toks:=t' }:=by
 have neL:∀b o,X.s₀.heap.get? b=some o->b≠X.env.locals:=λb o e=>KC (Jv (Jn e) I.ok.above)
 have neC:∀b o,X.s₀.heap.get? b=some o->b∉X.ex->b∉ch:=λb o e hx hb=>by
  rcases(hch b hb).1 with z | z
  ·exact hx z
  ·exact absurd (Jv (Jn e) z) (JK _)
 have cellK:∀x c,X.env.cells.lookup x=some c->∀v,s.heap.IsCell c v->h'.IsCell c v:=λx c e v hh_=>by
  obtain⟨o,ho,hd⟩:=hh_
  have nch:c∉ch:=λz=>(hch c z).2.2.1 x c e rfl
  by_cases hc:c∈X.fs
  ·obtain⟨sl,q⟩:=slot c o (I.cne x c e) hc nch ho (I.freeC x c e)
   exact⟨_,q,hd⟩
  ·exact⟨o,keep c o (I.cne x c e) hc nch ho (I.freeC x c e),hd⟩
 refine⟨I.ok,I.os,hg,⟨λb o e n hb hx=> ?_,λb o e n hb hx=> ?_,λb o e n hx=> ?_,λb o e hx=> ?_,λb xs e=>tups b xs (I.base.tups b xs e),λb o xs e=>frzs b o xs (I.base.frzs b o xs e),λb ps e=> ?_⟩,?_,λx c e=> ?_,?_,λx c e=> ?_,λp hp=> ?_,hok,I.len⟩
 ·exact keep b o (neL b o e) hb (neC b o e hx) (I.base.keep b o e n hb hx) (I.base.free b o e n hx)
 ·obtain⟨sl,e1⟩:=I.base.slot b o e n hb hx
  obtain⟨sl',e2⟩:=slot b _ (neL b o e) hb (neC b o e hx) e1 (I.base.free b o e n hx);exact⟨sl',e2⟩
 ·obtain⟨o',e1⟩:=I.base.there b o e hx
  exact free b o' (neC b o e hx) e1 (I.base.free b o e n hx)
 ·obtain⟨o',e1⟩:=I.base.there b o e hx
  exact there b o' (neC b o e hx) e1
 ·obtain⟨m1,e1⟩:=I.base.tbls b ps e
  obtain⟨m2,e2⟩:=tbls b _ e1;exact⟨m1++m2,by rw[e2,Array.append_assoc]⟩
 ·obtain⟨m,hn,hl⟩:=I.loc
  refine⟨m,ns m hn,λi x v e1 e2 e3=> ?_⟩
  obtain⟨u,r,l⟩:=hl i x v e1 e2 e3;refine⟨u,r,?_⟩
  rcases l with l | ⟨k,c,e,z⟩
  ·exact .inl l
  ·exact .inr ⟨k,c,e,cellK x c e _ z⟩
 ·obtain⟨v,z⟩:=I.cell x c e
  exact⟨v,cellK x c e v z⟩
 ·obtain⟨m,⟨o,_,_,ho,_⟩,_⟩:=I.loc
  exact free _ o (λz=>(hch _ z).2.1 rfl) ho I.free
 ·obtain⟨v,o,ho,hd⟩:=I.cell x c e
  exact free c o (λz=>(hch c z).2.2.1 x c e rfl) ho (I.freeC x c e)
 ·obtain⟨e,n,ne,nf,d⟩:=I.pin p hp
  have nch:p.1∉ch:=λz=>(hch p.1 z).2.2.2 p hp rfl
  exact⟨keep p.1 p.2 ne nf nch e n,free p.1 p.2 nch e n,ne,nf,d⟩
theorem Inv.un {t':Nat}(I:Inv X pins σ H s)(u:Un X.fs [] H H' s.heap h')(hok:HOk X.prog X.w H' h'):Inv X pins σ H' { s with heap:=h',toks:=t' }:=by
 obtain⟨m,⟨o,es,ep,ho,r⟩,_⟩:=id I.loc;obtain⟨sl,hL⟩:=u.any ho I.free (by simp)
 exact I.step (g':=s.gens) (d':=s.drawn) (ch:=[]) (λ_ z=>nomatch z) (λb o _ hb _ e n=>u.keep b o e n hb (by simp)) (λb o _ hb _ e n=>u.slot b o e n hb (by simp)) (λb o _ e n=>u.free b o e n (by simp)) (λb o _ e=>u.there b o e (by simp)) u.tups u.frzs u.tbls (λm' hm=>by
  obtain⟨o',es',ep',ho',r'⟩:=hm;rw[ho]at ho';cases ho';exact⟨_,es',ep',hL,r'⟩) hok I.bare
theorem Inv.call {g':Array GenState}{t':Nat}{d':Drawn}{ch:List Addr}(I:Inv X pins σ H s)(u:Un (se X.stack) ch H H' s.heap h')(hok:HOk X.prog X.w H' h')(hg:NG g')
  (hch:∀b∈ch,(b∈X.ex\/X.s₀.heap.objs.size<=b)/\b≠X.env.locals/\(∀x c,X.env.cells.lookup x=some c->c≠b)/\∀p∈X.pn++pins,p.1≠b) :
  Inv X pins σ H' { s with heap:=h',gens:=g',drawn:=d',toks:=t' }:=by
 obtain⟨m,⟨o,es,ep,ho,r⟩,_⟩:=id I.loc;obtain⟨sl,hL⟩:=u.any ho I.free λz=>(hch _ z).2.1 rfl
 exact I.step (ch:=ch) hch (λb o hL hb hc e n=>u.keep b o e n (λz=>(Jh.mp (I.Ig b z)).elim hL hb) hc) (λb o _ _ hc e n=>u.any e n hc) (λb o hc e n=>u.free b o e n hc) (λb o hc e=>u.there b o e hc) u.tups u.frzs u.tbls (λm' hm=>by
  obtain⟨o',es',ep',ho',r'⟩:=hm;rw[ho]at ho';cases ho';exact⟨_,es',ep',hL,r'⟩) hok hg
theorem Inv.turned {t':Nat}{it:Addr}(I:Inv X pins σ H s)(k:∀b o,b≠it->s.heap.get? b=some o->h'.get? b=some o)(hn:H it=none)(hL:it≠X.env.locals)
  (h1:it∈X.ex\/X.s₀.heap.objs.size<=it) (h2:∀x c,X.env.cells.lookup x=some c->c≠it) (h3:∀p∈X.pn++pins,p.1≠it):Inv X pins σ H { s with heap:=h',toks:=t' }:=by
 have nit:∀b u,H b=some u->b≠it:=λb u e z=>by rw[z,hn]at e;cases e
 refine I.step (g':=s.gens) (d':=s.drawn) (ch:=[it]) (λb hb=> ?_) (λb o _ _ hc e _=>k b o (λz=>hc (by simp[z])) e) (λb o _ _ hc e _=>⟨o.slots,k b o (λz=>hc (by simp[z])) e⟩) (λ_ _ _ _ n=>n)
  (λb o hc e=>⟨o,k b o (λz=>hc (by simp[z])) e⟩) (λ_ _ e=>e) (λ_ _ _ e=>e) (λb ps e=>⟨#[],by rw[e];simp⟩) (λm hm=> ?_) (λb u e=> ?_) I.bare
 ·have e:b=it:=by simpa using hb
  subst e;exact⟨h1,hL,h2,h3⟩
 ·obtain⟨o,es,ep,ho,r⟩:=hm
  exact⟨o,es,ep,k _ o (NW hL) ho,r⟩
 ·refine(I.hok b u e).HU (λc v hc q=>k c v ?_ q) (λ_ q=>q) λ_ _ q=>q
  rcases hc with z | z
  ·rw[z];exact nit b u e
  ·exact nit c _ z
theorem Inv.tok (I:Inv X pins σ H s)(t:Nat):Inv X pins σ H { s with toks:=t }:=I.un (h':=s.heap) (t':=t) Un.refl I.hok
theorem Inv.kept {t':Nat}(I:Inv X pins σ H s)(k:∀b u,s.heap.get? b=some u->h'.get? b=some u):Inv X pins σ H { s with heap:=h',toks:=t' }:=I.un (Un.kept k) (I.hok.kept k)
theorem Inv.laid {a:Addr}{o:HO}{t':Nat}(I:Inv X pins σ H s)(k:∀b u,s.heap.get? b=some u->h'.get? b=some u)(hp:s.heap.objs.size<=a)(new:ObjOk X.prog X.w (upd H a o) h' a o) :
  Inv X pins σ (upd H a o) { s with heap:=h',toks:=t' }:=I.un (Un.laid k hp (I.hok.fresh hp)) (I.hok.laid k hp new)
theorem Inv.write {x e:Addr}{o:HO}{t':Nat}(I:Inv X pins σ H s)(mu:Ha (H x))(he:e=x\/H e=some (.own x))(k:∀b u,b≠e->s.heap.get? b=some u->h'.get? b=some u)(heo:∃u,h'.get? e=some u)
  (new:ObjOk X.prog X.w (upd H x o) h' x o):Inv X pins σ (upd H x o) { s with heap:=h',toks:=t' }:=I.un (Un.write mu he k heo) (I.hok.write mu he k heo new)
theorem Inv.Ij {pins':List (Addr×Obj)}(I:Inv X pins σ H s)(h:∀p∈pins',s.heap.get? p.1=some p.2/\H p.1=none/\p.1≠X.env.locals/\p.1∉X.fs/\∀v,p.2.data≠ .cell v):Inv X pins' σ H s:=
 ⟨I.ok,I.os,I.bare,I.base,I.loc,I.cell,I.free,I.freeC,λp hp=>(JG.mp hp).elim (λz=>I.pin p (JV _ z)) (h p),I.hok,I.len⟩
theorem tZ {N:List Str}(hN:N.Nodup){i j:Nat}{x:Str}(a:N[i]? =some x)(b:N[j]? =some x):i=j:=by
 obtain⟨h1,e1⟩:=Ju.mp a
 obtain⟨h2,e2⟩:=Ju.mp b
 exact(List.getElem_inj hN).mp (e1.trans e2.symm)
theorem pX {M:Model}{A:J9}{E:Je->Jf->Prop}{i:Nat}{x:Str}{v:V}{u:Je}{Q:Unit->Jf->Prop}(I:Inv X pins σ H s)(hN:X.N.Nodup)(hi:X.N[i]? =some x)(hx:Loc X.env.scope x)(r:RelV v u)
  (h:∀s',Inv X pins (σ.set i (some v)) H s'->(∃a,LC a s.heap s'.heap/\(a=X.env.locals\/X.env.cells.lookup x=some a))->Q () s') (hf:X.fn x=true\/X.env.scope.names.lookup x=some .local:=by first | exact .inl rfl | exact .inr rfl | assumption):wpAny M A (storeName X.env x u) Q E s:=by
 obtain⟨m,hn,hl⟩:=id I.loc
 have hcls:(X.env.scope.kind == .class||(X.env.scope.kind == .module&&X.env.locals != X.env.globals))=false:=by rw[I.ok.kind];rfl
 have hiσ:i<σ.length:=by rw[I.len];exact(Ju.mp hi).1
 have cne:=I.cne
 have tracked:∀{a:Addr} {h':Heap},(∃o,s.heap.get? a=some o/\H a=none)->LC a s.heap h'->HOk X.prog X.w H h':=λ{a h'} ha hs b ob e=>by
  obtain⟨_,_,hfree⟩:=ha;refine(I.hok b ob e).HU (λc w' hc q=>(hs.2 c ?_).trans q) (λ_ q=>q) λ_ _ q=>q
  rintro rfl
  rcases hc with rfl | hc
  ·rw[hfree]at e;cases e
  ·rw[hfree]at hc;cases hc
 rcases hx with hk | hk
 ·refine wpAny_storeName_local hk hn (λh' hn' hs=> ?_) hcls
  obtain⟨oL,_,_,hoL,_⟩:=id hn;refine h _ ⟨I.ok,I.os,I.bare,⟨λb o e n hb hx=> ?_,λb o e n hb hx=> ?_,I.base.free,λb o e hx=> ?_,I.base.tups,I.base.frzs,I.base.tbls⟩,⟨_,hn',λj y v' e1 e2 e3=> ?_⟩,λy c e=> ?_,I.free,I.freeC,λp hp=> ?_,tracked ⟨oL,hoL,I.free⟩ hs,by simpa using I.len⟩ ⟨_,hs,.inl rfl⟩
  ·exact(hs.2 b (KC (Jv (Jn e) I.ok.above))).trans (I.base.keep b o e n hb hx)
  ·obtain⟨sl,e1⟩:=I.base.slot b o e n hb hx
   exact⟨sl,(hs.2 b (KC (Jv (Jn e) I.ok.above))).trans e1⟩
  ·obtain⟨o',e1⟩:=I.base.there b o e hx
   exact⟨o',(hs.2 b (KC (Jv (Jn e) I.ok.above))).trans e1⟩
  ·by_cases hj:j=i
   ·subst hj
    rw[hi]at e1;cases e1;rw[JA hiσ]at e2
    cases e2;exact⟨u,r,.inl ⟨hk,by simp⟩⟩
   ·rw[JD (NW hj)]at e2
    obtain⟨u',r',q⟩:=hl j y v' e1 e2 e3;refine⟨u',r',?_⟩
    rcases q with⟨k,e⟩ | ⟨k,c,e,z⟩
    ·refine .inl ⟨k,?_⟩
     have:y≠x:=λe=>hj (tZ hN e1 (e▸hi))
     simp[this,e]
    ·exact .inr ⟨k,c,e,z.sameBut hs (cne y c e)⟩
  ·obtain⟨w',z⟩:=I.cell y c e
   exact⟨w',z.sameBut hs (cne y c e)⟩
  ·obtain⟨e,n,ne,nf,d⟩:=I.pin p hp
   exact⟨(hs.2 p.1 ne).trans e,n,ne,nf,d⟩
 ·have hfn:X.fn x=true:=by
   rcases hf with z | z
   ·exact z
   ·rw[z]at hk;cases hk
  obtain⟨c,hc⟩:=I.ok.has x (.inl hk);obtain⟨w',z⟩:=I.cell x c hc;refine wpAny_storeName_cell I.ok.kind hk hc z (λh' hc' hs=> ?_)
  obtain⟨oc,hoc,hocd⟩:=id z;refine h { s with heap:=h' } ⟨I.ok,I.os,I.bare,⟨λb o e n hb hx=> ?_,λb o e n hb hx=> ?_,I.base.free,λb o e hx=> ?_,I.base.tups,I.base.frzs,I.base.tbls⟩,⟨m,hn.sameBut hs (NW (cne x c hc)),λj y v' e1 e2 e3=> ?_⟩,λy c' e=> ?_,I.free,I.freeC,λp hp=> ?_,tracked ⟨oc,hoc,I.freeC x c hc⟩ hs,by simpa using I.len⟩ ⟨c,hs,.inr hc⟩
  ·exact(hs.2 b (KC (Jv (Jn e) (I.ok.cab x c hfn hc)))).trans (I.base.keep b o e n hb hx)
  ·obtain⟨sl,e1⟩:=I.base.slot b o e n hb hx
   exact⟨sl,(hs.2 b (KC (Jv (Jn e) (I.ok.cab x c hfn hc)))).trans e1⟩
  ·obtain⟨o',e1⟩:=I.base.there b o e hx
   exact⟨o',(hs.2 b (KC (Jv (Jn e) (I.ok.cab x c hfn hc)))).trans e1⟩
  ·by_cases hj:j=i
   ·subst hj
    rw[hi]at e1;cases e1;rw[JA hiσ]at e2
    cases e2;exact⟨u,r,.inr ⟨.inl hk,c,hc,hc'⟩⟩
   ·rw[JD (NW hj)]at e2
    obtain⟨u',r',q⟩:=hl j y v' e1 e2 e3;refine⟨u',r',?_⟩
    rcases q with q | ⟨k,c',e,z'⟩
    ·exact .inl q
    ·refine .inr ⟨k,c',e,z'.sameBut hs ?_⟩
     rintro rfl
     exact hj (tZ hN e1 (I.ok.inj _ _ _ e hc▸hi))
  ·by_cases hcc:c'=c
   ·subst hcc;exact⟨_,hc'⟩
   ·obtain⟨w2,z2⟩:=I.cell y c' e
    exact⟨w2,z2.sameBut hs hcc⟩
  ·obtain⟨e,n,ne,nf,d⟩:=I.pin p hp
   refine⟨(hs.2 p.1 ?_).trans e,n,ne,nf,d⟩
   intro q;rw[q,hoc]at e
   have q':oc=p.2:=JU e;exact d w' (by rw[<-q'];exact hocd)
theorem sX {M:Model}{A:J9}{E:Je->Jf->Prop}{i:Nat}{x:Str}{v:V}{u:Je}{Q:Unit->Jf->Prop}(I:Inv X pins σ H s)(hN:X.N.Nodup)(hi:X.N[i]? =some x)(hx:Loc X.env.scope x)(r:RelV v u)
  (h:∀s',Inv X pins (σ.set i (some v)) H s'->Q () s') (hf:X.fn x=true\/X.env.scope.names.lookup x=some .local:=by first | exact .inl rfl | exact .inr rfl | assumption):wpAny M A (storeName X.env x u) Q E s:=
 pX I hN hi hx r (λs' I' _=>h s' I') hf
theorem Inv.Iv {s':Jf}{ch:List Addr}(I:Inv X pins σ H s)(ho:s'.os=s.os)(u:Un (se X.stack) ch H H' s.heap s'.heap)(hok:HOk X.prog X.w H' s'.heap)(hg:NG s'.gens)
  (hch:∀b∈ch,(b∈X.ex\/X.s₀.heap.objs.size<=b)/\b≠X.env.locals/\(∀x c,X.env.cells.lookup x=some c->c≠b)/\∀p∈X.pn++pins,p.1≠b):Inv X pins σ H' s':=by
 obtain⟨h',g',d',t',o'⟩:=s'
 have e:o'=s.os:=ho;subst e;exact I.call (g':=g') (t':=t') (d':=d') u hok hg hch
end
abbrev XK:=Je->Option Addr->Hp->Prop
abbrev St:=List (Option V)
abbrev VK:=V->Hp->Prop
abbrev TE:=St->Hp->VK->Prop
abbrev TT:=St->Hp->(Bool->Hp->Prop)->Prop
abbrev TA:=St->Hp->(List V->Hp->Prop)->Prop
structure sJ where
 nx:St->Hp->Prop
 rt:VK
 bk:St->Hp->Prop:=λ_ _=>False
 ct:St->Hp->Prop:=λ_ _=>False
abbrev TS:=sJ->St->Hp->Prop
def EP (X:Cx)(pins:List (Addr×Obj))(σ:St)(Q:VK)(u:Je)(s':Jf):Prop:=∃v H',Inv X pins σ H' s'/\RelV v u/\Q v H'
def TP (X:Cx)(pins:List (Addr×Obj))(σ:St)(Q:Bool->Hp->Prop)(b:Bool)(s':Jf):Prop:=∃H',Inv X pins σ H' s'/\Q b H'
def AP (X:Cx)(pins:List (Addr×Obj))(σ:St)(Q:List V->Hp->Prop)(us:List Je)(s':Jf):Prop:=∃vs H',Inv X pins σ H' s'/\Vals vs us/\Q vs H'
def SP (X:Cx)(pins:List (Addr×Obj))(D:sJ)(f:Flow)(s':Jf):Prop:=
 match f with
 | .next=> ∃σ' H',Inv X pins σ' H' s'/\D.nx σ' H'
 | .brk=> ∃σ' H',Inv X pins σ' H' s'/\D.bk σ' H'
 | .cont=> ∃σ' H',Inv X pins σ' H' s'/\D.ct σ' H'
 | .ret u=> ∃v σ' H',Inv X pins σ' H' s'/\RelV v u/\D.rt v H'
def PE (X:Cx)(e:Expr)(t:TE):Prop:=
 ∀(pins:List (Addr×Obj)) (s:Jf) (σ:St) (H:Hp) (Q:VK),Inv X pins σ H s->t σ H Q->wpAny (model X.prog X.w) X.A (eval e X.env) (EP X pins σ Q) X.xe s
def PT (X:Cx)(e:Expr)(t:TT):Prop:=
 ∀(pins:List (Addr×Obj)) (s:Jf) (σ:St) (H:Hp) (Q:Bool->Hp->Prop),Inv X pins σ H s->t σ H Q->wpAny (model X.prog X.w) X.A (isTrue e X.env (eval e X.env)) (TP X pins σ Q) X.xe s
def PW (X:Cx)(e:Expr)(t:TT):Prop:=
 ∀(whole:Sem Je) (pins:List (Addr×Obj)) (s:Jf) (σ:St) (H:Hp) (Q:Bool->Hp->Prop),Inv X pins σ H s->t σ H Q->wpAny (model X.prog X.w) X.A (isTrue e X.env whole) (TP X pins σ Q) X.xe s
theorem PW.pt {X:Cx}{e:Expr}{t:TT}(h:PW X e t):PT X e t:=h _
def PA (X:Cx)(es:List Expr)(t:TA):Prop:=
 ∀(pos:Pos) (pins:List (Addr×Obj)) (s:Jf) (σ:St) (H:Hp) (Q:List V->Hp->Prop),Inv X pins σ H s->t σ H Q->wpAny (model X.prog X.w) X.A (spliced (backTo pos (Jz es X.env))) (AP X pins σ Q) X.xe s
def PS (X:Cx)(st:Stmt)(t:TS):Prop:=
 ∀(pins:List (Addr×Obj)) (s:Jf) (σ:St) (H:Hp) (D:sJ),Inv X pins σ H s->t D σ H->wpAny (model X.prog X.w) X.A (exec st X.env) (SP X pins D) X.xe s
def PSs (X:Cx)(st:List Stmt)(t:TS):Prop:=
 ∀(pins:List (Addr×Obj)) (s:Jf) (σ:St) (H:Hp) (D:sJ),Inv X pins σ H s->t D σ H->wpAny (model X.prog X.w) X.A (execs st X.env) (SP X pins D) X.xe s
theorem cG {α:Type}{t:Sem α}{Q Q':α->Jf->Prop}{M:Model}{A:J9}{E:Je->Jf->Prop}{s:Jf}(h:wpAny M A t Q E s)(hQ:∀a s,Q a s->Q' a s):wpAny M A t Q' E s:=Ln h hQ λ_ _ x=>x
section
variable {X:Cx}
def sU (i:Nat):TE:=λσ H Q=> ∃v,σ[i]? =some (some v)/\Q v H
def tC (v:V):TE:=λ_ H Q=>Q v H
theorem kG {i:Nat}{x:Str}{pos:Pos}(hN:X.N[i]? =some x)(hv:uN X.env.scope x)(hd:(x == ("__debug__" : Str))=false:=by decide)(hcd:(x == ("__classdict__" : Str))=false:=by decide):PE X (.Name x pos) (sU i):=by
 intro pins s σ H Q I h;obtain⟨v,e,h⟩:=h;obtain⟨m,hn,hl⟩:=I.loc;obtain⟨u,r,l⟩:=hl i x v hN e hv
 have fin:EP X pins σ Q u s:=⟨v,H,I,r,h⟩;rcases l with⟨hk,hm⟩ | ⟨hk,c,hc,hcell⟩
 ·exact wpAny_Name (wpAny_loadName_local I.ok.kind hk hn hm fin) hd
 ·rcases hk with hk | hk
  ·exact wpAny_Name (wpAny_loadName_cell I.ok.kind hk hc hcell fin) hd
  ·exact wpAny_Name (wpAny_loadName_free I.ok.kind hk hc hcell fin hcd) hd
theorem Ep {i j pos}:PE X (.Constant (.int i) j pos) (tC (.int i)):=λ_ _ _ H _ I h=>wpAny_Constant_int ⟨.int i,H,I.tok _,⟨_,rfl⟩,h⟩
theorem Gp {b j pos}:PE X (.Constant (.bool b) j pos) (tC (.bl b)):=λ_ _ _ H _ I h=>Constant_bool ⟨.bl b,H,I,rfl,h⟩
theorem zc {j pos}:PE X (.Constant .none j pos) (tC .non):=λ_ _ _ H _ I h=>Constant_none ⟨.non,H,I,rfl,h⟩
def Gl (X:Cx)(x:Str):Prop:=X.env.kindOf x=some .globalImplicit
theorem ny {E:Je->Jf->Prop}{pins:List (Addr×Obj)}{s:Jf}{σ:St}{H:Hp}{x:Str}{u:Je}{pos:Pos}{Q:Je->Jf->Prop}(I:Inv X pins σ H s)(hg:Gl X x)(hm:X.mg x=some u)(h:Q u s)
  (hd:(x == ("__debug__" : Str))=false:=by decide):wpAny (model X.prog X.w) X.A (eval (.Name x pos) X.env) Q E s:=
 M8 I.ok.kind hg (Calls.loadGlobal_global (by rw[I.ok.glob];exact I.mod.glob.keeps I.bk) hm h) hd
theorem gu {E:Je->Jf->Prop}{pins:List (Addr×Obj)}{s:Jf}{σ:St}{H:Hp}{x:Str}{u:Je}{pos:Pos}{Q:Je->Jf->Prop}(I:Inv X pins σ H s)(hg:Gl X x)(hm:X.mg x=none)(hv:JT x=some u)(h:Q u s)
  (hn:x≠ "__name__":=by decide) (hd:(x == ("__debug__" : Str))=false:=by decide):wpAny (model X.prog X.w) X.A (eval (.Name x pos) X.env) Q E s:=by
 obtain⟨mb,h1,h2⟩:=I.mod.blt;exact M8 I.ok.kind hg (Calls.loadGlobal_builtin (by rw[I.ok.glob];exact I.mod.glob.keeps I.bk) hm (by rw[I.ok.blt];exact h1.keeps I.bk) ((h2 x hn).trans hv) h) hd
theorem BW {x:Str}{v:V}{u:Je}{pos:Pos}(hg:Gl X x)(hm:X.mg x=some u)(r:RelV v u)(hd:(x == ("__debug__" : Str))=false:=by decide):PE X (.Name x pos) (tC v):=
 λ_ _ _ H _ I h=>ny I hg hm ⟨v,H,I,r,h⟩ hd
theorem BX {x:Str}{v:V}{u:Je}{pos:Pos}(hg:Gl X x)(hm:X.mg x=none)(hv:JT x=some u)(r:RelV v u)(hn:x≠ "__name__":=by decide)(hd:(x == ("__debug__" : Str))=false:=by decide):PE X (.Name x pos) (tC v):=
 λ_ _ _ H _ I h=>gu I hg hm hv ⟨v,H,I,r,h⟩ hn hd
variable {a b:Expr}{ta tb:TE}{pos:Pos}
def tB (t:TE):TT:=λσ H Q=>t σ H λx H1=> ∃c,x= .bl c/\Q c H1
theorem Ea {e:Expr}{t:TE}(h:PE X e t)(he:∀whole,isTrue e X.env whole=(do let v <-whole;standAt e.pos;holding [v] (truthy v)):=by intro _;rfl):PT X e (tB t):=by
 intro pins s σ H Q I hw;refine isTrue_plain (cG (h pins s σ H _ I hw) λv s1 ⟨x,H1,I1,r1,q1⟩=> ?_) (he _)
 obtain⟨d,rfl,q⟩:=q1;cases r1;exact Kg ⟨H1,I1,q⟩
variable {tA tB':TT}{rest:List Expr}
def tAnd (t u:TT):TT:=λσ H Q=>t σ H λc H1=>if c=true then u σ H1 Q else Q false H1
def tOr (t u:TT):TT:=λσ H Q=>t σ H λc H1=>if c=true then Q true H1 else u σ H1 Q
def tNot (t:TT):TT:=λσ H Q=>t σ H λc H1=>Q (!c) H1
theorem BK (ha:PT X a tA):PW X (.BoolOp .And [a] pos) tA:=by
 intro wh pins s σ H Q I h;refine isTrue_and (cG (ha pins s σ H Q I h) λc s1 e=> ?_)
 cases c with
 | true=>exact isTrue_and_nil e
 | false=>exact e
theorem D8 (ha:PT X a tA):PW X (.BoolOp .Or [a] pos) tA:=by
 intro wh pins s σ H Q I h;refine isTrue_or (cG (ha pins s σ H Q I h) λc s1 e=> ?_)
 cases c with
 | false=>exact isTrue_or_nil e
 | true=>exact e
theorem D9 (ha:PT X a tA)(hb:PW X (.BoolOp .And (b::rest) pos) tB'):PW X (.BoolOp .And (a::b::rest) pos) (tAnd tA tB'):=by
 intro wh pins s σ H Q I h;refine isTrue_and (cG (ha pins s σ H _ I h) λc s1 hh_=> ?_)
 obtain⟨H1,I1,q1⟩:=hh_
 cases c with
 | true=>exact hb wh pins s1 σ H1 Q I1 q1
 | false=>exact⟨H1,I1,q1⟩
theorem Gj (ha:PT X a tA)(hb:PW X (.BoolOp .Or (b::rest) pos) tB'):PW X (.BoolOp .Or (a::b::rest) pos) (tOr tA tB'):=by
 intro wh pins s σ H Q I h;refine isTrue_or (cG (ha pins s σ H _ I h) λc s1 hh_=> ?_)
 obtain⟨H1,I1,q1⟩:=hh_
 cases c with
 | true=>exact⟨H1,I1,q1⟩
 | false=>exact hb wh pins s1 σ H1 Q I1 q1
theorem Eb (ha:PT X a tA):PT X (.UnaryOp .Not a pos) (tNot tA):=by
 intro pins s σ H Q I h;exact isTrue_not (ha pins s σ H (λc H1=>Q (!c) H1) I h)
def FS (ta tb:TE):TE:=λσ H Q=>ta σ H λx H1=> ∃c,x= .bl c/\if c=true then tb σ H1 Q else Q (.bl false) H1
def tOrV (ta tb:TE):TE:=λσ H Q=>ta σ H λx H1=> ∃c,x= .bl c/\if c=true then Q (.bl true) H1 else tb σ H1 Q
def FL (ta:TE):TE:=λσ H Q=>ta σ H λx H1=> ∃c,x= .bl c/\Q (.bl (!c)) H1
theorem El {op}{t:TE}(h:PE X a t):PE X (.BoolOp op [a] pos) t:=λpins s σ H Q I hw=>BoolOp_one (h pins s σ H Q I hw)
theorem Er (ha:PE X a ta)(hb:PE X (.BoolOp .And (b::rest) pos) tb):PE X (.BoolOp .And (a::b::rest) pos) (FS ta tb):=by
 intro pins s σ H Q I h;refine BoolOp_and (cG (ha pins s σ H _ I h) λv s1 hh_=> ?_)
 obtain⟨x,H1,I1,r1,q1⟩:=hh_;obtain⟨c,rfl,q1⟩:=q1;cases r1;refine Kg ?_
 cases c with
 | true=>exact hb pins s1 σ H1 Q I1 q1
 | false=>exact⟨.bl false,H1,I1,rfl,q1⟩
theorem Go (ha:PE X a ta)(hb:PE X (.BoolOp .Or (b::rest) pos) tb):PE X (.BoolOp .Or (a::b::rest) pos) (tOrV ta tb):=by
 intro pins s σ H Q I h;refine BoolOp_or (cG (ha pins s σ H _ I h) λv s1 hh_=> ?_)
 obtain⟨x,H1,I1,r1,q1⟩:=hh_;obtain⟨c,rfl,q1⟩:=q1;cases r1;refine Kg ?_
 cases c with
 | false=>exact hb pins s1 σ H1 Q I1 q1
 | true=>exact⟨.bl true,H1,I1,rfl,q1⟩
theorem Em (ha:PE X a ta):PE X (.UnaryOp .Not a pos) (FL ta):=by
 intro pins s σ H Q I h;refine UnaryOp_ (cG (ha pins s σ H _ I h) λv s1 hh_=> ?_)
 obtain⟨x,H1,I1,r1,q1⟩:=hh_;obtain⟨c,rfl,q1⟩:=q1;cases r1;exact not_of (Kg ⟨.bl (!c),H1,I1,rfl,q1⟩)
def tIf (t:TT)(ta tb:TE):TE:=λσ H Q=>t σ H λc H1=>if c=true then ta σ H1 Q else tb σ H1 Q
theorem zd {c:Expr}(hc:PT X c tA)(ha:PE X a ta)(hb:PE X b tb):PE X (.IfExp c a b pos) (tIf tA ta tb):=by
 intro pins s σ H Q I h;refine wpAny_IfExp (cG (hc pins s σ H _ I h) λd s1 hh_=> ?_)
 obtain⟨H1,I1,q1⟩:=hh_
 cases d with
 | true=>exact ha pins s1 σ H1 Q I1 q1
 | false=>exact hb pins s1 σ H1 Q I1 q1
end
def SqL (K:IX)(H:Hp)(a:Addr)(xs:List V):Prop:=
 Rd H a (.lst xs) ∨
  ∃(o:Obj) (its:Array Je) (n:Nat),K.lookup a=some o/\o.cls= .type "list"/\o.dict=none/\o.data= .seq its n/\its.size<=sizeLine/\Vals xs its.toList
def SqT (K:IX)(H:Hp)(a:Addr)(xs:List V):Prop:=
 Rd H a (.tup xs) ∨
  ∃(o:Obj) (its:Array Je) (n:Nat),K.lookup a=some o/\o.cls= .type "tuple"/\o.data= .seq its n/\its.size<=sizeLine/\Vals xs its.toList
def absV:Je->Option V
 | .none=>some .non
 | .bool b=>some (.bl b)
 | .int i _=>some (.int i)
 | .str x _=>some (.str x)
 | .bytes b _=>some (.byt b)
 | .float b _=>some (.flt b)
 | .ref a=>some (.ref a)
 | .type n=>some (.ty n)
 | _=>none
theorem RelV.abs {x:V}{u:Je}(r:RelV x u):absV u=some x:=by
 cases x with
 | non=>cases r;rfl
 | bl _=>cases r;rfl
 | int _=>obtain⟨t,rfl⟩:=r;rfl
 | str _=>obtain⟨t,rfl⟩:=r;rfl
 | byt _=>obtain⟨t,rfl⟩:=r;rfl
 | flt _=>obtain⟨t,rfl⟩:=r;rfl
 | ref _=>cases r;rfl
 | ty _=>cases r;rfl
theorem RelV.inj {x y:V}{u:Je}(r:RelV x u)(q:RelV y u):x=y:=JU (r.abs.symm.trans q.abs)
theorem Vals.inj:∀{xs ys:List V} {us:List Je},Vals xs us->Vals ys us->xs=ys
 | _,_,_,.nil,.nil=>rfl
 | _,_,_,.cons r t,.cons r' t'=>by rw[r.inj r',Vals.inj t t']
section
variable {X:Cx}{pins:List (Addr×Obj)}{σ:St}{H:Hp}{s:Jf}{a:Addr}{xs ys:List V}
theorem SqL.of {K:IX}(h:H a=some (.lst xs)):SqL K H a xs:=.inl (.inl h)
theorem SqT.of {K:IX}(h:H a=some (.tup xs)):SqT K H a xs:=.inl (.inl h)
theorem Inv.list (I:Inv X pins σ H s)(h:SqL X.K H a xs):∃its:List Je,Vals xs its/\PlainL s.heap a its.toArray/\xs.length<=sizeLine:=by
 rcases h with h | ⟨o,its,n,hk,hc,hd,hs,hz,r⟩
 ·obtain⟨z,its,n,r,e⟩:=h.ok I.hok
  exact⟨its,r,⟨_,n,e,rfl,rfl,rfl⟩,z⟩
 ·refine⟨its.toList,r,⟨o,n,I.kIn a o hk,hc,hd,by simpa using hs⟩,?_⟩
  have e:=r.length;simp only[J5]at e;omega
theorem Inv.tuple (I:Inv X pins σ H s)(h:SqT X.K H a xs):∃its:List Je,Vals xs its/\Qs s.heap a its.toArray/\xs.length<=sizeLine:=by
 rcases h with h | ⟨o,its,n,hk,hc,hs,hz,r⟩
 ·obtain⟨z,its,r,p⟩:=h.ok I.hok
  exact⟨its,r,p,z⟩
 ·refine⟨its.toList,r,⟨o,I.kIn a o hk,hc,n,by simpa using hs⟩,?_⟩
  have e:=r.length;simp only[J5]at e;omega
theorem Inv.HV (I:Inv X pins σ H s)(h:SqL X.K H a xs)(h':SqL X.K H a ys):xs=ys:=by
 obtain⟨its,r,⟨o,n,e,_,_,d⟩,_⟩:=I.list h;obtain⟨its',r',⟨o',n',e',_,_,d'⟩,_⟩:=I.list h';rw[e]at e';cases e';rw[d]at d';injection d' with d1 _
 have:its=its':=by simpa using congrArg NX d1
 subst this;exact r.inj r'
theorem Inv.HR (I:Inv X pins σ H s)(h:SqT X.K H a xs)(h':SqT X.K H a ys):xs=ys:=by
 obtain⟨its,r,⟨o,e,_,n,d⟩,_⟩:=I.tuple h;obtain⟨its',r',⟨o',e',_,n',d'⟩,_⟩:=I.tuple h';rw[e]at e';cases e';rw[d]at d';injection d' with d1 _
 have:its=its':=by simpa using congrArg NX d1
 subst this;exact r.inj r'
end
abbrev Cx.HF (X:Cx)(E:Je->Jf->Prop):Cx:={ X with xe:=E }
abbrev Cx.nox (X:Cx):Cx:=X.HF λ_ _=>False
theorem Cx.Ok.HF {X:Cx}(ok:X.Ok)(E:Je->Jf->Prop):(X.HF E).Ok:=
 ⟨ok.mod,ok.kind,ok.glob,ok.blt,ok.above,ok.inj,ok.has,ok.cab,ok.hd,ok.frames,ok.stk,ok.exf,ok.bs,ok.bsz,ok.noex,ok.exfs,ok.funs,ok.frf⟩
theorem Cx.Ok.HM {X:Cx}{E:Je->Jf->Prop}(ok:(X.HF E).Ok):X.Ok:=
 ⟨ok.mod,ok.kind,ok.glob,ok.blt,ok.above,ok.inj,ok.has,ok.cab,ok.hd,ok.frames,ok.stk,ok.exf,ok.bs,ok.bsz,ok.noex,ok.exfs,ok.funs,ok.frf⟩
section
variable {X:Cx}{pins:List (Addr×Obj)}{σ:St}{H:Hp}{s:Jf}{E:Je->Jf->Prop}
theorem Inv.HF (I:Inv X pins σ H s)(E:Je->Jf->Prop):Inv (X.HF E) pins σ H s:=⟨I.ok.HF E,I.os,I.bare,I.base,I.loc,I.cell,I.free,I.freeC,I.pin,I.hok,I.len⟩
theorem Inv.HM (I:Inv (X.HF E) pins σ H s):Inv X pins σ H s:=⟨I.ok.HM,I.os,I.bare,I.base,I.loc,I.cell,I.free,I.freeC,I.pin,I.hok,I.len⟩
theorem SP.HM {D:sJ}{f:Flow}{s':Jf}(h:SP (X.HF E) pins D f s'):SP X pins D f s':=by
 cases f with
 | next=>obtain⟨σ',H',I,q⟩:=h;exact⟨σ',H',I.HM,q⟩
 | brk=>obtain⟨σ',H',I,q⟩:=h;exact⟨σ',H',I.HM,q⟩
 | cont=>obtain⟨σ',H',I,q⟩:=h;exact⟨σ',H',I.HM,q⟩
 | ret u=>obtain⟨v,σ',H',I,r,q⟩:=h;exact⟨v,σ',H',I.HM,r,q⟩
theorem PSs.nox {st:List Stmt}{t:TS}(h:PSs X.nox st t):PSs X st t:=λpins s σ H D I hw=>
 Ln (h pins s σ H D (I.HF _) hw) (λ_ _ q=>q.HM) λ_ _ z=>LJ z
end
section
variable {X:Cx}{st:Stmt}{rest:List Stmt}{t u:TS}{e:Expr}{te:TE}{pos:Pos}
def FM:TS:=λD σ H=>D.nx σ H
def tSeq (t u:TS):TS:=λD σ H=>t { D with nx:=u D } σ H
theorem BM:PSs X [] FM:=λ_ _ σ H _ I h=>MX ⟨σ,H,I,h⟩
theorem yT (h1:PS X st t)(h2:PSs X rest u):PSs X (st::rest) (tSeq t u):=by
 intro pins s σ H D I h;refine P2 (cG (h1 pins s σ H { D with nx:=u D } I h) λf s1 q=> ?_)
 cases f with
 | next=>
  obtain⟨σ',H',I',q⟩:=q
  exact h2 pins s1 σ' H' D I' q
 | ret v=>exact q
 | brk=>exact q
 | cont=>exact q
theorem BL (h1:PS X st t):PSs X [st] t:=by
 intro pins s σ H D I h;refine P2 (cG (h1 pins s σ H D I h) λf s1 q=> ?_)
 cases f with
 | next=>exact MX q
 | ret v=>exact q
 | brk=>exact q
 | cont=>exact q
def FQ:TS:=λD σ H=>D.ct σ H
theorem tN:PS X (.Continue pos) FQ:=λ_ _ σ H _ I h=>wpAny_Continue ⟨σ,H,I,h⟩
theorem Inv.quiet {pins:List (Addr×Obj)}{σ:St}{H:Hp}{s:Jf}(I:Inv X pins σ H s):interactive X.env=false:=by simp[interactive,I.ok.kind]
def FO (te:TE):TS:=λD σ H=>te σ H λ_ H1=>D.nx σ H1
theorem rj (he:PE X e te)(hs:Kj e none pos.line X.env=pure false:=by rfl):PS X (.Expr e pos) (FO te):=by
 intro pins s σ H D I h;exact wpAny_Expr_any (cG (he pins s σ H _ I h) λv s1 ⟨x,H1,I1,r1,q1⟩=>⟨σ,H1,I1,q1⟩) I.quiet hs
def tRet (te:TE):TS:=λD σ H=>te σ H D.rt
theorem Ed (he:PE X e te):PS X (.Return (some e) pos) (tRet te):=by
 intro pins s σ H D I h;exact wpAny_Return_some (cG (he pins s σ H _ I h) λv s1 ⟨x,H1,I1,r1,q1⟩=>⟨x,σ,H1,I1,r1,q1⟩)
def tIfS (c:TT)(t u:TS):TS:=λD σ H=>c σ H λb H1=>if b=true then t D σ H1 else u D σ H1
theorem Gk {c:Expr}{a b:List Stmt}{tc:TT}(hc:PT X c tc)(ha:PSs X a t)(hb:PSs X b u):PS X (.If c a b pos) (tIfS tc t u):=by
 intro pins s σ H D I h;refine wpAny_If (cG (hc pins s σ H _ I h) λd s1 hh_=> ?_)
 obtain⟨H1,I1,q1⟩:=hh_
 cases d with
 | true=>exact ha pins s1 σ H1 D I1 q1
 | false=>exact hb pins s1 σ H1 D I1 q1
end
abbrev TG:=V->St->Hp->(St->Hp->Prop)->Prop
abbrev CJ:=List V->St->Hp->(St->Hp->Prop)->Prop
def PG (X:Cx)(target:Expr)(t:TG):Prop:=
 ∀(pins:List (Addr×Obj)) (s:Jf) (σ:St) (H:Hp) (v:V) (u:Je) (Q:St->Hp->Prop),Inv X pins σ H s->RelV v u->t v σ H Q →
  wpAny (model X.prog X.w) X.A (assign target X.env u) (λ_ s'=> ∃σ' H',Inv X pins σ' H' s'/\Q σ' H') X.xe s
def PGs (X:Cx)(ts:List Expr)(t:CJ):Prop:=
 ∀(pins:List (Addr×Obj)) (s:Jf) (σ:St) (H:Hp) (vs:List V) (us:List Je) (Q:St->Hp->Prop),Inv X pins σ H s->Vals vs us->t vs σ H Q →
  wpAny (model X.prog X.w) X.A (assignInOrder ((KG ts X.env).map (·.2)) us) (λ_ s'=> ∃σ' H',Inv X pins σ' H' s'/\Q σ' H') X.xe s
section
variable {X:Cx}{pos:Pos}
def Aj (i:Nat):TG:=λv σ H Q=>Q (σ.set i (some v)) H
theorem BU {i:Nat}{x:Str}(hN:X.N.Nodup)(hi:X.N[i]? =some x)(hx:Loc X.env.scope x)(hf:X.fn x=true\/X.env.scope.names.lookup x=some .local:=by first | exact .inl rfl | exact .inr rfl | assumption):PG X (.Name x pos) (Aj i):=by
 intro pins s σ H v u Q I r h;exact Pt (sX I hN hi hx r (λs' I'=>⟨_,H,I',h⟩) hf)
def gNil:CJ:=λvs σ H Q=>vs= []/\Q σ H
def GV (t:TG)(u:CJ):CJ:=λvs σ H Q=> ∃v r,vs=v::r/\t v σ H λσ' H'=>u r σ' H' Q
theorem BT:PGs X [] gNil:=by
 intro pins s σ H vs us Q I r h;obtain⟨e,h⟩:=h;subst e;cases r;exact assignInOrder_nil ⟨σ,H,I,h⟩
theorem yZ {e:Expr}{es:List Expr}{t:TG}{u:CJ}(h1:PG X e t)(h2:PGs X es u)
  (hs:(KG (e::es) X.env).map (·.2)=assign e X.env::(KG es X.env).map (·.2):=by rfl):PGs X (e::es) (GV t u):=by
 intro pins s σ H vs us Q I r h;obtain⟨v,vr,e1,h⟩:=h;subst e1
 cases r with
 | cons r rr=>
  rw[hs];refine assignInOrder_cons (cG (h1 pins s σ H _ _ _ I r h) λ_ s1 hh_=> ?_)
  obtain⟨σ1,H1,I1,q1⟩:=hh_;exact h2 pins s1 σ1 H1 _ _ Q I1 rr q1
def gTup (K:IX)(n:Nat)(t:CJ):TG:=λv σ H Q=> ∃a xs,v= .ref a/\SqT K H a xs/\xs.length=n/\t xs σ H Q
theorem Ej {es:List Expr}{k:Nat}{t:CJ}{n:Nat}(hc:X.calm=true)(h:PGs X es t)
  (hn:(KG es X.env).length=n:=by rfl) (hst:(KG es X.env).findIdx? (·.1)=none:=by rfl):PG X (.Tuple es k pos) (gTup X.K n t):=by
 intro pins s σ H v u Q I r hw;obtain⟨a,xs,e1,hq,hl,hw⟩:=hw;subst e1;cases r;obtain⟨its,rv,ht,hz⟩:=I.tuple hq;refine assign_Tuple_tuple (I.ok.hd hc) ht (by simp[hn,<-hl,rv.length]) hst λh' hx=> ?_
 have I1:Inv X pins σ H { s with heap:=h' }:=I.kept (t':=s.toks) λb o e=>hx b o (KC (Jn e)) e
 exact h pins _ σ H xs _ Q I1 (by simpa using rv) hw
def yx (te:TE)(g:TG):TS:=λD σ H=>te σ H λx H1=>g x σ H1 D.nx
theorem Ee {tg e:Expr}{te:TE}{g:TG}(he:PE X e te)(hg:PG X tg g)(hs:O5 [tg] e pos.line X.env=pure false:=by rfl)(hw:O6 [tg] e X.env=pure none:=by rfl)
  (h1:(KG [tg] X.env).map (·.2)= [assign tg X.env]:=by rfl):PS X (.Assign [tg] e pos) (yx te g):=by
 intro pins s σ H D I h;refine wpAny_Assign_stores (cG (he pins s σ H _ I h) λv s1 ⟨x,H1,I1,r1,q1⟩=> ?_) hs hw
 rw[h1];exact cG (hg pins s1 σ H1 x v _ I1 r1 q1) λ_ s2 q=>q
theorem ri {i:Nat}{x:Str}{e:Expr}{te:TE}{pos':Pos}(hN:X.N.Nodup)(hi:X.N[i]? =some x)(hx:Loc X.env.scope x)(he:PE X e te)(hs:Kj e (some (.Name x pos')) pos.line X.env=pure false:=by rfl)(hf:X.fn x=true\/X.env.scope.names.lookup x=some .local:=by first | exact .inl rfl | exact .inr rfl | assumption) :
  PS X (.Assign [.Name x pos'] e pos) (yx te (Aj i)):=by
 intro pins s σ H D I h;refine wpAny_Assign_Name (cG (he pins s σ H _ I h) λv s1 ⟨y,H1,I1,r1,q1⟩=> ?_) hs
 exact sX I1 hN hi hx r1 (λs2 I2=>⟨_,H1,I2,q1⟩) hf
end
section
variable {X:Cx}{pos:Pos}
def uX (c:TT)(tb:TS):TS:=λD σ H=> ∃W:Nat->St->Hp->Prop,(∃m,W m σ H)/\∀m σ H,W m σ H →
 c σ H λb H1=>if b=true then ∃N:St->Hp->Prop,(∀σ' H',N σ' H'->∃m',m'<m/\W m' σ' H')/\tb { D with nx:=N,ct:=N,bk:=D.nx } σ H1 else D.nx σ H1
theorem yU {c:Expr}{body:List Stmt}{tc:TT}{tb:TS}(hp:PassesOwn (model X.prog X.w) X.A X.env X.xe)(hc:PT X c tc)(hb:PSs X body tb):PS X (.While c body [] pos) (uX tc tb):=by
 intro pins s σ H D I h;obtain⟨W,⟨m0,w0⟩,turn⟩:=h;refine wpAny_While (codeAny_whileLoop (λn s'=> ∃σ' H',Inv X pins σ' H' s'/\W n σ' H') ?_ m0 ⟨σ,H,I,w0⟩)
 rintro n s1 ⟨σ1,H1,I1,w1⟩
 refine Qk hp (cG (hc pins s1 σ1 H1 _ I1 (turn n σ1 H1 w1)) λb s2 hh_=> ?_)
 obtain⟨H2,I2,q2⟩:=hh_
 cases b with
 | true=>
  obtain⟨N,hN,q2⟩:=q2;rw[if_pos rfl];refine Qk hp (cG (hb pins s2 σ1 H2 _ I2 q2) λf s3 q3=> ?_)
  cases f with
  | next=>
   obtain⟨σ3,H3,I3,n3⟩:=q3;obtain⟨m',hm,w3⟩:=hN σ3 H3 n3
   exact⟨m',hm,σ3,H3,I3,w3⟩
  | cont=>
   obtain⟨σ3,H3,I3,n3⟩:=q3;obtain⟨m',hm,w3⟩:=hN σ3 H3 n3
   exact⟨m',hm,σ3,H3,I3,w3⟩
  | brk=>exact q3
  | ret v=>exact q3
 | false=>
  rw[if_neg Jy];exact MX ⟨σ1,H2,I2,q2⟩
end
structure It where
 go:Nat->Hp->Prop
 yld:Nat->Hp->V->Hp->Prop
 stop:Nat->Hp->Prop
def kS (X:Cx)(pins:List (Addr×Obj))(H:Hp)(b:Addr):Prop:=
 H b=none/\b≠X.env.locals/\b∉X.fs/\(b∈X.ex\/X.s₀.heap.objs.size<=b)/\(∀x c,X.env.cells.lookup x=some c->c≠b)/\∀p∈X.pn++pins,p.1≠b
theorem Inv.HZ {X:Cx}{pins:List (Addr×Obj)}{σ:St}{H H':Hp}{s:Jf}{b:Addr}(I:Inv X pins σ H s)(hb:s.heap.objs.size<=b)(hn:H' b=none):kS X pins H' b:=by
 refine⟨hn,Nb (Jv I.lt hb),I.IV hb,.inr (Ka I.sz hb),λx c e z=> ?_,λp hp z=> ?_⟩
 ·obtain⟨v,q⟩:=I.cell x c e
  exact absurd (Jv q.lt (by rw[z];exact hb)) (JK _)
 ·exact absurd (Jv (Jn (I.pin p hp).1) (by rw[z];exact hb)) (JK _)
structure vK (P:JI)(w:Kr)(K:IX)(tg:Expr)(J:It)(fp:List Addr)(it:Addr)(tn:Nat->Heap->Prop):Prop where
 mem:it∈fp
 obj:∀i h,tn i h->∀b∈fp,∃o,h.get? b=some o/\∀v,o.data≠ .cell v
 keep:∀i h h',tn i h->(∀b∈fp,∀o,h.get? b=some o->h'.get? b=some o)->tn i h'
 item:∀(X:Cx),X.prog=P->X.w=w->X.K=K->X.calm=true->∀(i:Nat) (pins:List (Addr×Obj)) (s:Jf) (σ:St) (H:Hp) (E:Je->Jf->Prop),Inv X pins σ H s->(∀b∈fp,kS X pins H b)->tn i s.heap->J.go i H →
  wpAny (model P w) X.A (pyNext (.ref it)) (λr s1=> ∃u,r=some u ∧
   wpAny (model P w) X.A (Mg tg (.ref it) u) (λ_ s2=> ∃x H',Inv X pins σ H' s2/\RelV x u/\J.yld i H x H'/\tn (i+1) s2.heap/\∀b∈fp,H' b=none) E s1) E s
 done:∀(X:Cx),X.prog=P->X.w=w->X.K=K->X.calm=true->∀(i:Nat) (pins:List (Addr×Obj)) (s:Jf) (σ:St) (H:Hp) (E:Je->Jf->Prop),Inv X pins σ H s->(∀b∈fp,kS X pins H b)->tn i s.heap->J.stop i H →
  wpAny (model P w) X.A (pyNext (.ref it)) (λr s1=>r=none/\Inv X pins σ H s1) E s
 self:∀(A:J9) (i:Nat) (s:Jf) (Q:Je->Jf->Prop) (E:Je->Jf->Prop),tn i s.heap->Q (.ref it) s->wpAny (model P w) A (pyIter (.ref it)) Q E s
abbrev TI:=St->Hp->(It->Hp->Prop)->Prop
def PIE (X:Cx)(pins:List (Addr×Obj))(σ:St)(tg:Expr)(R:It->Hp->Prop)(itv:Je)(s2:Jf):Prop:=
 ∃(it:Addr) (fp:List Addr) (tn:Nat->Heap->Prop) (J:It) (H':Hp),itv= .ref it/\Inv X pins σ H' s2/\vK X.prog X.w X.K tg J fp it tn/\tn 0 s2.heap/\(∀b∈fp,kS X pins H' b)/\R J H'
def PI (X:Cx)(tg iter:Expr)(wi:TI):Prop:=
 ∀(pins:List (Addr×Obj)) (s:Jf) (σ:St) (H:Hp) (R:It->Hp->Prop),Inv X pins σ H s->wi σ H R →
  wpAny (model X.prog X.w) X.A (eval iter X.env) (λv s1=>wpAny (model X.prog X.w) X.A (pyIter v) (PIE X pins σ tg R) X.xe s1) X.xe s
theorem wz {M:Model}{A:J9}{E:Je->Jf->Prop}{s:Jf}{tg:Expr}{it:Addr}{u:Je}{o:Obj}{n:String}{vs:Array Je}{Q:Unit->Jf->Prop}(ho:s.heap.get? it=some o)(hc:o.cls= .type n)(hd:o.data= .fields vs)
  (hn:["enumerate","zip","dict_itemiterator","dict_reverseitemiterator","odict_iterator","itertools.zip_longest","itertools.pairwise"].contains n=false) (hQ:Q () s):wpAny M A (Mg tg (.ref it) u) Q E s:=by
 unfold Mg
 cases tg <;> first
  | exact Jg hQ
  | (cases u <;> first
    | exact Jg hQ
    | (refine IW (wpAny_load ho ?_)
       rw[hc,hd]
       show wpAny M A (if (["enumerate","zip","dict_itemiterator","dict_reverseitemiterator","odict_iterator","itertools.zip_longest","itertools.pairwise"].contains n&&vs[0]? == some (rawInt _))=true then _ else _) Q E s
       rw[if_neg (by intro h;rw[hn,Bool.false_and]at h;cases h)]
       exact Jg hQ))
def Itl (K:IX)(a:Addr):It:=
 ⟨λi H=> ∃xs x,SqL K H a xs/\xs[i]? =some x,λi H x H'=>H'=H/\∀xs,SqL K H a xs->xs[i]? =some x,λi H=> ∃xs,SqL K H a xs/\xs.length<=i⟩
def Itt (K:IX)(a:Addr):It:=
 ⟨λi H=> ∃xs x,SqT K H a xs/\xs[i]? =some x,λi H x H'=>H'=H/\∀xs,SqT K H a xs->xs[i]? =some x,λi H=> ∃xs,SqT K H a xs/\xs.length<=i⟩
def Itr (lo:Int)(n:Nat):It:=⟨λi _=>i<n,λi H x H'=>H'=H/\x= .int (lo+i),λi _=>n<=i⟩
theorem w9 {P:JI}{w:Kr}{K:IX}{tg:Expr}(a it:Addr):vK P w K tg (Itl K a) [it] it (λi h=>h.IsListIter it a i) where
 mem:=by simp
 obj:=λi h st b hb=>by
  have e:b=it:=by simpa using hb
  subst e;obtain⟨o,e,c,d⟩:=st;exact⟨o,e,λv z=>by rw[d]at z;cases z⟩
 keep:=λi h h' st k=>st.at λo e=>k it (by simp) o e
 item:=by
  intro X hP hw hK hc i pins s σ H E I hf st hg;subst hP hw hK;obtain⟨xs,x,hq,hx⟩:=hg;obtain⟨its,rv,p,hz⟩:=I.list hq;obtain⟨u,hu,ru⟩:=rv.get hx;obtain⟨f0,f1,f2,f3,f4,f5⟩:=hf it (by simp)
  refine NR st p.isList (x:=u) (by simpa using hu) λh' st' sb=> ?_
  have I1:Inv X pins σ H { s with heap:=h' }:=I.turned (t':=s.toks) (λb o hb e=>(sb.2 b hb).trans e) f0 f1 f3 f4 f5
  obtain⟨o,e,c,d⟩:=id st';exact⟨u,rfl,wz (s:={ s with heap:=h' }) e c d (by decide) ⟨x,H,I1,ru,⟨rfl,λys hy=>by rw[I.HV hy hq];exact hx⟩,st',λb hb=>(hf b hb).1⟩⟩
 done:=by
  intro X hP hw hK hc i pins s σ H E I hf st hg;subst hP hw hK;obtain⟨xs,hq,hx⟩:=hg;obtain⟨its,rv,p,hz⟩:=I.list hq;obtain⟨f0,f1,f2,f3,f4,f5⟩:=hf it (by simp)
  have hl:=rv.length;exact Of (I.ok.hd hc) st p.isList (by simp;omega) λh' eb=>⟨rfl,I.turned (t':=s.toks) (λb o hb e=>eb b o hb e) f0 f1 f3 f4 f5⟩
 self:=λ_ _ _ _ _ st h=>wpAny_pyIter_listiter st h
theorem uU {P:JI}{w:Kr}{K:IX}{tg:Expr}(a it:Addr):vK P w K tg (Itt K a) [it] it (λi h=>h.IsTupleIter it a i) where
 mem:=by simp
 obj:=λi h st b hb=>by
  have e:b=it:=by simpa using hb
  subst e;obtain⟨o,e,c,d⟩:=st;exact⟨o,e,λv z=>by rw[d]at z;cases z⟩
 keep:=λi h h' st k=>st.at λo e=>k it (by simp) o e
 item:=by
  intro X hP hw hK hc i pins s σ H E I hf st hg;subst hP hw hK;obtain⟨xs,x,hq,hx⟩:=hg;obtain⟨its,rv,p,hz⟩:=I.tuple hq;obtain⟨u,hu,ru⟩:=rv.get hx;obtain⟨f0,f1,f2,f3,f4,f5⟩:=hf it (by simp)
  refine wpAny_pyNext_tuple_item st (show s.heap.IsTuple a its.toArray from p) (x:=u) (by simpa using hu) λh' st' sb=> ?_
  have I1:Inv X pins σ H { s with heap:=h' }:=I.turned (t':=s.toks) (λb o hb e=>(sb.2 b hb).trans e) f0 f1 f3 f4 f5
  obtain⟨o,e,c,d⟩:=id st';exact⟨u,rfl,wz (s:={ s with heap:=h' }) e c d (by decide) ⟨x,H,I1,ru,⟨rfl,λys hy=>by rw[I.HR hy hq];exact hx⟩,st',λb hb=>(hf b hb).1⟩⟩
 done:=by
  intro X hP hw hK hc i pins s σ H E I hf st hg;subst hP hw hK;obtain⟨xs,hq,hx⟩:=hg;obtain⟨its,rv,p,hz⟩:=I.tuple hq;obtain⟨f0,f1,f2,f3,f4,f5⟩:=hf it (by simp)
  have hl:=rv.length;exact wpAny_pyNext_tuple_end (I.ok.hd hc) st (show s.heap.IsTuple a its.toArray from p) (by simp;omega) λh' eb=>⟨rfl,I.turned (t':=s.toks) (λb o hb e=>eb b o hb e) f0 f1 f3 f4 f5⟩
 self:=λ_ _ _ _ _ st h=>wpAny_pyIter_tupleiter st h
theorem uV {P:JI}{w:Kr}{K:IX}{tg:Expr}(it:Addr)(lo:Int)(n:Nat):vK P w K tg (Itr lo n) [it] it (λi h=>IsRangeIter h it (lo+(i:Nat)*1) ((n:Int) - (i:Nat)) 1) where
 mem:=by simp
 obj:=λi h st b hb=>by
  have e:b=it:=by simpa using hb
  subst e
  exact⟨_,st,λv z=>by
   have z':P9 _=ON v:=z;cases z'⟩
 keep:=λi h h' st k=>k it (by simp) _ st
 item:=by
  intro X hP hw hK hc i pins s σ H E I hf st hg;subst hP hw hK;obtain⟨f0,f1,f2,f3,f4,f5⟩:=hf it (by simp)
  have W:=Walks.range (prog:=X.prog) (w:=X.w) (I.ok.hd hc) it lo 1 n;refine W.item i s _ _ hg st λv h' tk hv st' kk=> ?_
  obtain⟨t,rfl⟩:=hv
  have I1:Inv X pins σ H { s with heap:=h',toks:=tk }:=I.turned (λb o hb e=>kk b o (by simpa using hb) e) f0 f1 f3 f4 f5
  refine⟨_,rfl,wz (s:={ s with heap:=h',toks:=tk }) (n:="range_iterator") st' rfl rfl (by decide) ⟨.int (lo+i),H,I1,⟨t,?_⟩,⟨rfl,rfl⟩,st',λb hb=>(hf b hb).1⟩⟩
  rw[Int.mul_one]
 done:=by
  intro X hP hw hK hc i pins s σ H E I hf st hg;subst hP hw hK;obtain⟨f0,f1,f2,f3,f4,f5⟩:=hf it (by simp)
  exact wpAny_pyNext_range_end (I.ok.hd hc) st (by have:n<=i:=hg;omega) λh' eb=>⟨rfl,I.turned (t':=s.toks) (λb o hb e=>eb b o hb e) f0 f1 f3 f4 f5⟩
 self:=λ_ _ _ _ _ st h=>wpAny_pyIter_rangeiter st h
section
variable {X:Cx}{tg:Expr}
def GS (K:IX)(tl:TE):TI:=λσ H R=>tl σ H λx H1=> ∃a,x= .ref a/\(∃xs,SqL K H1 a xs)/\R (Itl K a) H1
def iTup (K:IX)(tl:TE):TI:=λσ H R=>tl σ H λx H1=> ∃a,x= .ref a/\(∃xs,SqT K H1 a xs)/\R (Itt K a) H1
theorem BR {l:Expr}{tl:TE}(hl:PE X l tl):PI X tg l (GS X.K tl):=by
 intro pins s σ H R I h;refine cG (hl pins s σ H _ I h) λv s1 hh_=> ?_
 obtain⟨x,H1,I1,r1,q1⟩:=hh_;obtain⟨a,e,⟨xs,hq⟩,q⟩:=q1;subst e;cases r1;obtain⟨its,rv,p,hz⟩:=I1.list hq;refine LP p.isList ?_
 refine⟨s1.heap.objs.size,[s1.heap.objs.size],_,_,H1,rfl,I1.kept (t':=s1.toks) λb o e=>IY _ e,w9 a _,⟨_,Jk _ rfl,rfl,rfl⟩,λb hb=> ?_,q⟩
 have e:b=s1.heap.objs.size:=by simpa using hb
 subst e;exact I1.HZ (Jq _) (I1.hok.fresh (Jq _))
theorem Ei {l:Expr}{tl:TE}(hl:PE X l tl):PI X tg l (iTup X.K tl):=by
 intro pins s σ H R I h;refine cG (hl pins s σ H _ I h) λv s1 hh_=> ?_
 obtain⟨x,H1,I1,r1,q1⟩:=hh_;obtain⟨a,e,⟨xs,hq⟩,q⟩:=q1;subst e;cases r1;obtain⟨its,rv,p,hz⟩:=I1.tuple hq;refine K8 (show s1.heap.IsTuple a its.toArray from p) ?_
 refine⟨s1.heap.objs.size,[s1.heap.objs.size],_,_,H1,rfl,I1.kept (t':=s1.toks) λb o e=>IY _ e,uU a _,⟨_,Jk _ rfl,rfl,rfl⟩,λb hb=> ?_,q⟩
 have e:b=s1.heap.objs.size:=by simpa using hb
 subst e;exact I1.HZ (Jq _) (I1.hok.fresh (Jq _))
theorem lq {pins:List (Addr×Obj)}{σ:St}{H:Hp}{s:Jf}{R:It->Hp->Prop}{E:Je->Jf->Prop}{lo hi:Int}{t u v:Tok}{tk:Nat}(I:Inv X pins σ H s)(h1 : -(2 ^ 62)<=lo)(h2:lo<2 ^ 62)(h3 : -(2 ^ 62)<=hi)(h4:hi<2 ^ 62)
  (q:R (Itr lo (hi - lo).toNat) H):wpAny (model X.prog X.w) X.A (pyIter (.ref s.heap.objs.size)) (PIE X pins σ tg R) E { s with heap:=s.heap.push { cls:=.type "range",data:=.fields #[.int lo t,.int hi u,.int 1 v] },toks:=tk }:=by
 refine wpAny_pyIter_range (IsRange.new ..) (small_one h1 h2 h3 h4) ?_
 have I1:Inv X pins σ H { s with heap:=s.heap.push { cls:=.type "range",data:=.fields #[.int lo t,.int hi u,.int 1 v] },toks:=tk }:=I.kept λb o e=>IY _ e
 refine⟨(s.heap.push { cls:=.type "range",data:=.fields #[.int lo t,.int hi u,.int 1 v] }).objs.size,[(s.heap.push { cls:=.type "range",data:=.fields #[.int lo t,.int hi u,.int 1 v] }).objs.size],_,_,H,rfl,
  I1.kept (t':=tk) λb o e=>IY _ e,uV _ lo (hi - lo).toNat,?_,λb hb=> ?_,q⟩
 ·have e1:lo+((0:Nat):Int)*1=lo:=by simp
  have e2:(((hi - lo).toNat:Nat):Int) - ((0:Nat):Int)=Builtin.Range.rangeSize lo hi 1:=by rw[rangeSize_one];split <;> omega
  show IsRangeIter _ _ (lo+((0:Nat):Int)*1) ((((hi - lo).toNat:Nat):Int) - ((0:Nat):Int)) 1
  rw[e1,e2];exact Jk _ rfl
 ·have e:b=(s.heap.push { cls:=.type "range",data:=.fields #[.int lo t,.int hi u,.int 1 v] }).objs.size:=by simpa using hb
  subst e;exact I1.HZ (Jq _) (I1.hok.fresh (Jq _))
def tFor (wi:TI)(g:TG)(tb:TS):TS:=λD σ H=>wi σ H λJ H1=> ∃W:Nat->Nat->St->Hp->Prop,(∃m,W 0 m σ H1)/\∀i m σ H,W i m σ H →
 (J.stop i H/\D.nx σ H)\/(J.go i H/\∃N:St->Hp->Prop,(∀σ' H',N σ' H'->∃m',m'<m/\W (i+1) m' σ' H')/\∀x H',J.yld i H x H'->g x σ H' λσ2 H2=>tb { D with nx:=N,ct:=N,bk:=D.nx } σ2 H2)
def n8 (fp:List Addr)(h:Heap):List (Addr×Obj):=fp.filterMap λb=>(h.get? b).map λo=>(b,o)
theorem iP {fp:List Addr}{h:Heap}{b:Addr}{o:Obj}(hb:b∈fp)(e:h.get? b=some o):(b,o)∈n8 fp h:=KP.mpr ⟨b,hb,by rw[e];rfl⟩
theorem xt {fp:List Addr}{h:Heap}{p:Addr×Obj}(hp:p∈n8 fp h):p.1∈fp/\h.get? p.1=some p.2:=by
 obtain⟨b,hb,e⟩:=KP.mp hp
 cases q:h.get? b with
 | none=>rw[q]at e;cases e
 | some o=>
  rw[q]at e
  have e':(b,o)=p:=JU e;subst e';exact⟨hb,q⟩
theorem Inv.pinned {pins:List (Addr×Obj)}{σ:St}{H:Hp}{s:Jf}{fp:List Addr}(I:Inv X pins σ H s)(hf:∀b∈fp,kS X pins H b)(ho:∀b∈fp,∃o,s.heap.get? b=some o/\∀v,o.data≠ .cell v):Inv X (pins++n8 fp s.heap) σ H s:=
 I.Ij λp hp=>(JG.mp hp).elim (λz=>I.pin p (Jt _ z)) λz=>by
  obtain⟨hb,e⟩:=xt z;obtain⟨f0,f1,f2,_⟩:=hf p.1 hb;obtain⟨o,e',d⟩:=ho p.1 hb;rw[e]at e';cases e';exact⟨e,f0,f1,f2,d⟩
theorem Inv.HQ {pins pl:List (Addr×Obj)}{σ:St}{H:Hp}{s:Jf}(I:Inv X (pins++pl) σ H s):Inv X pins σ H s:=I.Ij λp hp=>I.pin p (Jt _ (JV _ hp))
end
abbrev R2:=V->V->Hp->VK->Prop
def qH (X:Cx)(f:Je->Je->Sem Je)(r:R2):Prop:=
 ∀(pins:List (Addr×Obj)) (s:Jf) (σ:St) (H:Hp) (x y:V) (v u:Je) (Q:VK),Inv X pins σ H s->RelV x v->RelV y u->r x y H Q →
  wpAny (model X.prog X.w) X.A (f v u) (EP X pins σ Q) X.xe s
def UnR (X:Cx)(f:Je->Sem Je)(r:V->Hp->VK->Prop):Prop:=
 ∀(pins:List (Addr×Obj)) (s:Jf) (σ:St) (H:Hp) (x:V) (v:Je) (Q:VK),Inv X pins σ H s->RelV x v->r x H Q →
  wpAny (model X.prog X.w) X.A (f v) (EP X pins σ Q) X.xe s
def CallR (X:Cx)(f:Je)(r:List V->Hp->VK->Prop):Prop:=
 ∀(pins:List (Addr×Obj)) (s:Jf) (σ:St) (H:Hp) (xs:List V) (us:List Je) (Q:VK),Inv X pins σ H s->Vals xs us->r xs H Q →
  wpAny (model X.prog X.w) X.A (call f us) (EP X pins σ Q) X.xe s
def tUn (r:V->Hp->VK->Prop)(ta:TE):TE:=λσ H Q=>ta σ H λx H1=>r x H1 Q
def rI (C:Int->Int->Prop)(g:Int->Int->V):R2:=λx y H Q=> ∃i j,x= .int i/\y= .int j/\C i j/\Q (g i j) H
def C1 (g:Int->Int->V):R2:=λx y H Q=> ∃i j,x= .int i/\y= .int j/\Q (g i j) H
def rU (g:Int->V):V->Hp->VK->Prop:=λx H Q=> ∃i,x= .int i/\Q (g i) H
section
variable {X:Cx}{a b c:Expr}{ta tb tc:TE}{pos:Pos}
theorem Gn {op:UnaryOp}{r:V->Hp->VK->Prop}(ho:UnR X (unaryOp op) r)(ha:PE X a ta):PE X (.UnaryOp op a pos) (tUn r ta):=by
 intro pins s σ H Q I h;exact UnaryOp_ (cG (ha pins s σ H _ I h) λv s1 ⟨x,H1,I1,r1,q1⟩=>ho pins s1 σ H1 x v Q I1 r1 q1)
theorem opI {f:Je->Je->Sem Je}{C:Int->Int->Prop}{g:Int->Int->Int}
  (rule:∀(i j:Int) (t u:Tok) (s:Jf) (Q:Je->Jf->Prop) (E:Je->Jf->Prop),C i j->Q (.int (g i j) s.toks) { s with toks:=s.toks+1 }->wpAny (model X.prog X.w) X.A (f (.int i t) (.int j u)) Q E s) :
  qH X f (rI C λi j=> .int (g i j)):=by
 intro pins s σ H x y v u Q I rx ry h;obtain⟨i,j,rfl,rfl,hc,q⟩:=h;obtain⟨t,rfl⟩:=rx;obtain⟨t',rfl⟩:=ry;exact rule i j t t' s _ _ hc ⟨.int (g i j),H,I.tok _,⟨_,rfl⟩,q⟩
theorem Gw {f:Je->Je->Sem Je}{g:Int->Int->Int}
  (rule:∀(i j:Int) (t u:Tok) (s:Jf) (Q:Je->Jf->Prop) (E:Je->Jf->Prop),Q (.int (g i j) s.toks) { s with toks:=s.toks+1 }->wpAny (model X.prog X.w) X.A (f (.int i t) (.int j u)) Q E s) :
  qH X f (C1 λi j=> .int (g i j)):=by
 intro pins s σ H x y v u Q I rx ry h;obtain⟨i,j,rfl,rfl,q⟩:=h;obtain⟨t,rfl⟩:=rx;obtain⟨t',rfl⟩:=ry;exact rule i j t t' s _ _ ⟨.int (g i j),H,I.tok _,⟨_,rfl⟩,q⟩
theorem ED {f:Je->Je->Sem Je}{g:Int->Int->Bool}
  (rule:∀(i j:Int) (t u:Tok) (s:Jf) (Q:Je->Jf->Prop) (E:Je->Jf->Prop),Q (.bool (g i j)) s->wpAny (model X.prog X.w) X.A (f (.int i t) (.int j u)) Q E s) :
  qH X f (C1 λi j=> .bl (g i j)):=by
 intro pins s σ H x y v u Q I rx ry h;obtain⟨i,j,rfl,rfl,q⟩:=h;obtain⟨t,rfl⟩:=rx;obtain⟨t',rfl⟩:=ry;exact rule i j t t' s _ _ ⟨.bl (g i j),H,I,rfl,q⟩
def CDiv (i j:Int):Prop:=0<j/\j<1073741824
def CMul (i j:Int):Prop:=(-(2 ^ 64)<i/\i<2 ^ 64)\/(-(2 ^ 64)<j/\j<2 ^ 64)
theorem CMul.ok {i j:Int}(h:CMul i j):IntMulOk i j:=by
 rcases h with⟨h1,h2⟩ | ⟨h1,h2⟩
 ·exact .of_left (intBits_le_64 h1 h2)
 ·exact .of_right (intBits_le_64 h1 h2)
theorem EC:qH X (KR .Add) (C1 λi j=> .int (i+j)):=Gw λ_ _ _ _ _ _ _ q=>add_int q
theorem Eu:qH X (KR .Sub) (C1 λi j=> .int (i - j)):=Gw λ_ _ _ _ _ _ _ q=>sub_int q
theorem Ey:qH X (KR .Mult) (rI CMul λi j=> .int (i*j)):=opI λ_ _ _ _ _ _ _ hc q=>mul_int q hc.ok
theorem B0:qH X (KR .FloorDiv) (rI CDiv λi j=> .int (i / j)):=opI λi j _ _ _ _ _ hc q=>by
 have h1:(0:Int)<j:=hc.1
 have h2:j<1073741824:=hc.2;exact floordiv_int (by omega) (by rw[Int.fdiv_eq_ediv_of_nonneg i (by omega)];exact q) (.inl (PyProof.noPylong_small (by omega)))
theorem Ez:qH X (KR .Mod) (rI (λ_ j=>0<j) λi j=> .int (i % j)):=opI λi j _ _ _ _ _ hc q=>by
 have h1:(0:Int)<j:=hc;exact mod_int' (by omega) (by rw[Int.fmod_eq_emod_of_nonneg i (by omega)];exact q)
theorem unI {f:Je->Sem Je}{g:Int->Int}
  (rule:∀(i:Int) (t:Tok) (s:Jf) (Q:Je->Jf->Prop) (E:Je->Jf->Prop),Q (.int (g i) s.toks) { s with toks:=s.toks+1 }->wpAny (model X.prog X.w) X.A (f (.int i t)) Q E s) :
  UnR X f (rU λi=> .int (g i)):=by
 intro pins s σ H x v Q I rx h;obtain⟨i,rfl,q⟩:=h;obtain⟨t,rfl⟩:=rx;exact rule i t s _ _ ⟨.int (g i),H,I.tok _,⟨_,rfl⟩,q⟩
theorem Dn:UnR X (unaryOp .USub) (rU λi=> .int (-i)):=unI λ_ _ _ _ _ q=>neg_int q
end
section
variable {X:Cx}{a b c:Expr}{ta tb tc:TE}{pos:Pos}
theorem Aq {pins:List (Addr×Obj)}{σ:St}{H:Hp}{s:Jf}{Q:VK}{k k':Bool}(I:Inv X pins σ H s)(q:Q (.bl k) H)(e:k=k'):EP X pins σ Q (.bool k') s:=by
 subst e;exact⟨.bl k,H,I,rfl,q⟩
theorem Gs:qH X (JY .Lt) (C1 λi j=> .bl (decide (i<j))):=ED λ_ _ _ _ _ _ _ q=>lt_int q
theorem Gu:qH X (JY .LtE) (C1 λi j=> .bl (decide (i<=j))):=ED λ_ _ _ _ _ _ _ q=>le_int q
theorem Gv:qH X (JY .Gt) (C1 λi j=> .bl (decide (j<i))):=ED λ_ _ _ _ _ _ _ q=>gt_int q
theorem EA:qH X (JY .Is) (λx y H Q=>y= .non/\Q (.bl (decide (x= .non))) H):=by
 intro pins s σ H x y v u Q I rx ry h;obtain⟨rfl,q⟩:=h;cases ry;refine is_none_gen (Aq I q ?_)
 cases x <;> first
  | (cases rx;rfl)
  | (obtain⟨t,rfl⟩:=rx;rfl)
theorem BZ:qH X (JY .IsNot) (λx y H Q=>y= .non/\Q (.bl (!decide (x= .non))) H):=by
 intro pins s σ H x y v u Q I rx ry h;obtain⟨rfl,q⟩:=h;cases ry;refine isnot_none_gen (Aq I q ?_)
 cases x <;> first
  | (cases rx;rfl)
  | (obtain⟨t,rfl⟩:=rx;rfl)
theorem oF:(sizeLine:Nat)<2 ^ 63:=by rw[Lw];decide
theorem ve:qH X (KR .Add) (λx y H Q=> ∃i j,x= .str i/\y= .str j/\i.length+j.length<=sizeLine/\Q (.str (i++j)) H):=by
 intro pins s σ H x y v u Q I rx ry h;obtain⟨i,j,rfl,rfl,hz,q⟩:=h;obtain⟨t,rfl⟩:=rx;obtain⟨t',rfl⟩:=ry;exact add_str (λt' tk=>⟨.str (i++j),H,I.tok _,⟨_,rfl⟩,q⟩) hz
theorem kZ {x:V}{us:List Je}(r:Vals [x] us):∃u,us= [u]/\RelV x u:=by
 cases r with
 | cons r1 r2=>cases r2;exact⟨_,rfl,r1⟩
theorem yo {x y:V}{us:List Je}(r:Vals [x,y] us):∃u w',us= [u,w']/\RelV x u/\RelV y w':=by
 cases r with
 | cons r1 r2=>
  cases r2 with
  | cons r3 r4=>cases r4;exact⟨_,_,rfl,r1,r3⟩
theorem xZ (hc:X.calm=true):CallR X (.builtin "max") (λxs H Q=> ∃i j,xs= [.int i,.int j]/\Q (.int (if j > i then j else i)) H):=by
 intro pins s σ H xs us Q I r h;obtain⟨i,j,rfl,q⟩:=h;obtain⟨u,w',rfl,⟨t,rfl⟩,⟨t',rfl⟩⟩:=yo r;refine max_two_ints (I.ok.hd hc) λh' tk k=>⟨_,H,I.kept k,?_,q⟩
 by_cases hj:j > i
 ·rw[if_pos hj,if_pos hj];exact⟨_,rfl⟩
 ·rw[if_neg hj,if_neg hj];exact⟨_,rfl⟩
theorem xY (hc:X.calm=true):CallR X (.builtin "min") (λxs H Q=> ∃i j,xs= [.int i,.int j]/\Q (.int (if j<i then j else i)) H):=by
 intro pins s σ H xs us Q I r h;obtain⟨i,j,rfl,q⟩:=h;obtain⟨u,w',rfl,⟨t,rfl⟩,⟨t',rfl⟩⟩:=yo r;refine min_two_ints (I.ok.hd hc) λh' tk k=>⟨_,H,I.kept k,?_,q⟩
 by_cases hj:j<i
 ·rw[if_pos hj,if_pos hj];exact⟨_,rfl⟩
 ·rw[if_neg hj,if_neg hj];exact⟨_,rfl⟩
theorem x5:CallR X (.type "int") (λxs H Q=>(∃i,xs= [.int i]/\Q (.int i) H)\/∃k,xs= [.bl k]/\Q (.int (if k then 1 else 0)) H):=by
 intro pins s σ H xs us Q I r h;rcases h with⟨i,rfl,q⟩ | ⟨k,rfl,q⟩
 ·obtain⟨u,rfl,t,rfl⟩:=kZ r
  exact call_int_int ⟨.int i,H,I,⟨_,rfl⟩,q⟩
 ·obtain⟨u,rfl,r1⟩:=kZ r
  cases r1;exact call_int_bool ⟨.int (if k then 1 else 0),H,I.tok _,⟨_,rfl⟩,q⟩
end
structure ObjM (h:Heap)(x dx C:Addr)(mA:Str->Option Je):Prop where
 obj:h.get? x=some (NU C dx)
 ns:h.Ns1 dx mA
 ne:dx≠x
theorem xF {h:Heap}{dx:Addr}{mA:Str->Option Je}(n:h.Ns1 dx mA):∃od,h.get? dx=some od/\∀name,OA name od=some (mA name):=by
 obtain⟨o,es,ep,ho,hd,hk,_,hm⟩:=n;refine⟨o,ho,λname=> ?_⟩
 have e:=hm name;unfold nsFind findBy at e;rw[<-OP]at e
 unfold OA;rw[hd]
 dsimp only
 split
 ·rename_i y q
  rw[q]at e;exact congrArg some e
 ·rename_i q
  rw[q]at e
  have a:es.toList.any (·.refKey)=false:=by
   rw[Mp];intro y hy;obtain⟨z,t,hkey⟩:=hk y (Array.mem_toList_iff.mp hy);simp[DictEntry.refKey,hkey]
  have a':¬ es.toList.any (·.refKey)=true:=by rw[a];exact Jy
  rw[if_neg a'];exact congrArg some e
theorem ObjM.look {h:Heap}{x dx C:Addr}{mA:Str->Option Je}(I:ObjM h x dx C mA):∃od,PySem.W.InstAt h x (NU C dx) C (some od)/\∀name,OA name od=some (mA name):=
 let ⟨od,ho,hl⟩:=xF I.ns
 ⟨od,⟨I.obj,rfl,rfl,ho⟩,hl⟩
theorem RelO.some_of {v:V}{o:Option Je}(r:RelO (some v) o):∃u,o=some u/\RelV v u:=by
 cases o with
 | none=>exact(show False from r).elim
 | some u=>exact⟨u,rfl,r⟩
section
variable {P:JI}{w:Kr}{H H':Hp}{h h':Heap}{a C dx:Addr}{fs fs':List (Str×V)}
theorem Cj (hok:HOk P w H h)(e:H a=some (.ins C dx fs)):∃mA,ObjM h a dx C mA/\(∀f,RelO (fs.lookup f) (mA f))/\PySem.Within mA (fs.map (·.1))/\fs.length<=1000/\H dx=some (.own a):=by
 obtain⟨d,z,ne,ob,mA,n,r,q⟩:=(show ObjOk P w H h a (.ins C dx fs)from hok a _ e)
 exact⟨mA,⟨ob,n,ne⟩,r,q,z,d⟩
end
structure Cls (K:IX)(C:Addr):Prop where
 pg:PK K C Str.empty=true
 hd:PySem.W.hasDictIn K C=true
 po:PySem.W.plainOver K C=true
 sa:PySem.W.findIn K (.ref C) "__setattr__" =some (some (.builtin "object.__setattr__"))
theorem Cls.get {K:IX}{C:Addr}(c:Cls K C)(f:Str):PK K C f=true:=c.pg
section
variable {X:Cx}{pins:List (Addr×Obj)}{σ:St}{H:Hp}{s:Jf}{A:J9}{E:Je->Jf->Prop}{Q:Je->Jf->Prop}{c:Je}{b:Bool}
inductive mq (K:IX) (H:Hp):V->Je->Prop where
 | non:mq K H .non (.type "NoneType")
 | bl (x:Bool):mq K H (.bl x) (.type "bool")
 | int (i:Int):mq K H (.int i) (.type "int")
 | str (x:Str):mq K H (.str x) (.type "str")
 | flt (x:UInt64):mq K H (.flt x) (.type "float")
 | lst {a:Addr} {xs:List V} (e:H a=some (.lst xs)):mq K H (.ref a) (.type "list")
 | frz {a:Addr} {o:Obj} {xs:List V} (e:H a=some (.frz o (.lst xs))):mq K H (.ref a) (.type "list")
 | tup {a:Addr} {xs:List V} (e:H a=some (.tup xs)):mq K H (.ref a) (.type "tuple")
 | dK {a:Addr} {kvs:List (Key×V)} (e:H a=some (.dK kvs)):mq K H (.ref a) (.type "dict")
 | dT {a:Addr} {kvs:List (List Key×V)} (e:H a=some (.dT kvs)):mq K H (.ref a) (.type "dict")
 | ins {a C dx:Addr} {fs:List (Str×V)} (e:H a=some (.ins C dx fs)) (cl:Cls K C) (ha:PySem.W.findIn K (.ref C) "__class__" =some (some (.builtin "object.__class__")))
   (hn:PySem.W.specialIn K (.builtin "object.__class__") "__get__" =some (some (.builtin "getset_descriptor.__get__"))) (htk:PySem.W.takesIn K (.builtin "object.__class__")=some true)
   (hm:PySem.W.mroIn K C (.type "object")=some true):mq K H (.ref a) (.ref C)
theorem xL {x:V}{u t:Je}(I:Inv X pins σ H s)(rx:RelV x u)(ty:mq X.K H x t)(e:PySem.W.kitOne X.K t c=some b)(h:∀tk,Q (.bool b) { s with toks:=tk }) :
  wpAny (model X.prog X.w) A (call (.builtin "isinstance") [u,c]) Q E s:=by
 cases ty with
 | non=>cases (show u=J0 from rx);exact Kv PySem.W.kitx_none I.kIn Lh e (λz=>nomatch z) h
 | bl y=>cases (show u=Ku y from rx);exact Kv PySem.W.kitx_bool I.kIn Lh e (λz=>nomatch z) h
 | int i=>obtain⟨t,q⟩:=(show ∃t,u=KL i t from rx);cases q;exact Kv PySem.W.kitx_int I.kIn Lh e (λz=>nomatch z) h
 | str y=>obtain⟨t,q⟩:=(show ∃t,u=KM y t from rx);cases q;exact Kv PySem.W.kitx_str I.kIn Lh e (λz=>nomatch z) h
 | flt y=>obtain⟨t,q⟩:=(show ∃t,u=Value.float y t from rx);cases q;exact Kv PySem.W.kitx_float I.kIn Lh e (λz=>nomatch z) h
 | @lst a xs ea=>
  cases (show u=JF a from rx)
  obtain⟨_,_,n,_,h1⟩:=(show ObjOk X.prog X.w H s.heap a (.lst xs)from I.hok a _ ea)
  exact Kv Pg I.kIn ⟨_,h1,rfl⟩ e (λz=>nomatch z) h
 | @frz a ob xs ea=>
  cases (show u=JF a from rx)
  obtain⟨_,_,_,n,_,h1⟩:=(show ObjOk X.prog X.w H s.heap a (.frz ob (.lst xs))from I.hok a _ ea)
  exact Kv Pg I.kIn ⟨_,h1,rfl⟩ e (λz=>nomatch z) h
 | @tup a xs ea=>
  cases (show u=JF a from rx)
  obtain⟨_,_,_,p⟩:=(show ObjOk X.prog X.w H s.heap a (.tup xs)from I.hok a _ ea)
  obtain⟨o,h1,h2,_⟩:=p
  exact Kv PySem.W.kitx_tuple I.kIn ⟨o,h1,h2⟩ e (λz=>nomatch z) h
 | @dK a kvs ea=>
  cases (show u=JF a from rx)
  obtain⟨_,_,vs,_,p⟩:=(show ObjOk X.prog X.w H s.heap a (.dK kvs)from I.hok a _ ea)
  obtain⟨o,es,ep,h1,h2,_⟩:=p
  exact Kv Ph I.kIn ⟨o,h1,h2.1⟩ e (λz=>nomatch z) h
 | @dT a kvs ea=>
  cases (show u=JF a from rx)
  obtain⟨_,_,xs,_,o,es,ep,h1,h2,_⟩:=(show ObjOk X.prog X.w H s.heap a (.dT kvs)from I.hok a _ ea)
  exact Kv Ph I.kIn ⟨o,h1,h2.1⟩ e (λz=>nomatch z) h
 | @ins a C dx fs ea cl ha hn htk hm=>
  cases (show u=JF a from rx)
  obtain⟨mA,O,_⟩:=Cj I.hok ea;obtain⟨od,J,_⟩:=O.look;exact Kv (PySem.W.kitx_own (cl.get _) cl.hd ha hn htk hm) I.kIn J e (λz=>nomatch z) h
end
structure Room (k:Nat)(A:J9):Prop where
 hd:A.handled=none
 dp:A.depth+3*k+5<recursionLimit
 un:A.units+16*k+200<cLine
theorem Room.mono {j k:Nat}{A:J9}(r:Room k A)(h:j<=k):Room j A:=⟨r.hd,by have:=r.dp;omega,by have:=r.un;omega⟩
theorem Room.deeper {k:Nat}{A:J9}(r:Room (k+1) A)(env:Env):Room k (A.deeper env):=
 ⟨r.hd,by have:=r.dp;show A.depth+1+3*k+5<_;omega,by have:=r.un;show A.units+3+16*k+200<_;omega⟩
theorem Room.depth {k:Nat}{A:J9}(r:Room k A):A.depth<recursionLimit:=by have:=r.dp;omega
def yw:TA:=λ_ H Q=>Q [] H
def k6 (ta:TE)(tr:TA):TA:=λσ H Q=>ta σ H λx H1=>tr σ H1 λxs H2=>Q (x::xs) H2
section
variable {X:Cx}{e:Expr}{es:List Expr}{te:TE}{t:TA}{pos:Pos}
theorem ju:PA X [] yw:=λ_ _ _ _ H Q I h=>LK ⟨[],H,I,.nil,h⟩
theorem fy (ha:PE X e te)(hr:PA X es t)(hs:Jz (e::es) X.env=(false,eval e X.env)::Jz es X.env:=by rfl):PA X (e::es) (k6 te t):=by
 intro pos pins s σ H Q I h;rw[hs]
 show wpAny _ _ (spliced ((false,eval e X.env)::backTo pos (Jz es X.env))) _ _ s
 refine LB (cG (ha pins s σ H _ I h) λu s1 hh_=> ?_)
 obtain⟨x,H1,I1,r1,q1⟩:=hh_;exact cG (hr pos pins s1 σ H1 _ I1 q1) λus s2 ⟨xs,H2,I2,r2,q2⟩=>⟨x::xs,H2,I2,.cons r1 r2,q2⟩
def Bf (t:TA):TE:=λσ H Q=>t σ H λxs H1=>xs.length<=sizeLine/\∀p,H1 p=none->Q (.ref p) (upd H1 p (.tup xs))
def tLst (t:TA):TE:=λσ H Q=>t σ H λxs H1=>xs.length<=sizeLine/\∀p,H1 p=none->Q (.ref p) (upd H1 p (.lst xs))
theorem vd {x1}(h:PA X es t):PE X (.Tuple es x1 pos) (Bf t):=by
 intro pins s σ H Q I hq;refine wpAny_Tuple_spliced (cG (h pos pins s σ H _ I hq) λus s1 ⟨xs,H1,I1,r,z,q⟩=>⟨by rw[<-r.length];exact z,?_⟩)
 have hf:H1 s1.heap.objs.size=none:=I1.hok.fresh (Jq _);refine⟨.ref s1.heap.objs.size,upd H1 s1.heap.objs.size (.tup xs),I1.laid (t':=s1.toks) (λb u e=>IY _ e) (Jq _) ?_,rfl,q _ hf⟩
 exact⟨z,us,r,⟨_,Jk _ rfl,rfl,_,rfl⟩⟩
theorem Eo (h:PA X es t):PE X (.List es pos) (tLst t):=by
 intro pins s σ H Q I hq;refine O7 (cG (h pos pins s σ H _ I hq) λus s1 ⟨xs,H1,I1,r,z,q⟩=>⟨by rw[<-r.length];exact z,?_⟩)
 have hf:H1 s1.heap.objs.size=none:=I1.hok.fresh (Jq _);refine⟨.ref s1.heap.objs.size,upd H1 s1.heap.objs.size (.lst xs),I1.laid (t':=s1.toks) (λb u e=>IY _ e) (Jq _) ?_,rfl,q _ hf⟩
 exact⟨z,us,0,r,Jk _ rfl⟩
end
abbrev Sp:=List V->Hp->VK->XK->Prop
abbrev A1:=List Env->Hp->Jf->XK->Je->Jf->Prop
structure AX (P:JI)(w:Kr)(K:IX)(mg:Str->Option Je)(base:Heap)(A:J9)(outer:List Env)(s:Jf)(H:Hp):Prop where
 frames:A.frames=some outer
 mod:Mod K mg base
 bs:∀b o,base.get? b=some o->s.heap.get? b=some o/\H b=none
 bsz:base.objs.size<=s.heap.objs.size
 funs:s.heap.FunFrames base outer
 frf:∀b∈se outer,H b=none
 hok:HOk P w H s.heap
 bare:NG s.gens
def CE (outer:List Env)(P:JI)(w:Kr)(H:Hp)(s:Jf)(Q:VK)(u:Je)(s':Jf):Prop:=
 ∃v H',s'.os=s.os/\NG s'.gens/\Un (se outer) [] H H' s.heap s'.heap/\HOk P w H' s'.heap/\RelV v u/\Q v H'
def CR (CX:A1)(outer:List Env)(P:JI)(w:Kr)(H:Hp)(s:Jf)(Q:VK)(E:XK)(r:Qr)(s':Jf):Prop:=
 match r with
 | .ok (.ret u)=>CE outer P w H s Q u s'
 | .ok _=>False
 | .error e=>CX outer H s E e s'
structure sG (P:JI)(w:Kr)(K:IX)(mg:Str->Option Je)(base:Heap)(CX:A1)(k:Nat)(f:Addr)(fd:KS)(ps:List Str)(sp:Sp):Prop where
 len:∀vs H Q E,sp vs H Q E->vs.length=ps.length
 run:∀(A:J9) (outer:List Env) (s:Jf) (H:Hp) (args:Args) (us:List Je) (vs:List V) (Q:VK) (E:XK),Room k A->AX P w K mg base A outer s H->Pu s fd args (ps.zip us)->Vals vs us->sp vs H Q E →
  codeAny (model P w) A (.call (.ref f) args) (CR CX outer P w H s Q E) s
section
variable {X:Cx}{pins:List (Addr×Obj)}{σ:St}{H:Hp}{s s':Jf}
theorem Inv.IG (I:Inv X pins σ H s):AX X.prog X.w X.K X.mg X.base X.A X.stack s H:=
 ⟨I.ok.frames,I.ok.mod,I.bs,Ka I.ok.bsz I.sz,I.stack,I.H0,I.hok,I.bare⟩
theorem Inv.after {Q:VK}{u:Je}(I:Inv X pins σ H s)(h:CE X.stack X.prog X.w H s Q u s'):EP X pins σ Q u s':=by
 obtain⟨v,H',os,bare,un,hok,r,q⟩:=h;obtain⟨hh,g,d,t,os'⟩:=s';obtain rfl:os'=s.os:=os;exact⟨v,H',I.call (h':=hh) (g':=g) (d':=d) (t':=t) (ch:=[]) un hok bare (λb z=>absurd z (by simp)),r,q⟩
end
def FR (sp:Sp)(dvs:List V)(E:XK)(t:TA):TE:=λσ H Q=>t σ H λvs H1=>sp (vs++dvs) H1 Q E
def Binds (K:IX)(fd:KS)(ps:List Str)(ds:List Je):Prop:=
 ∀(s:Jf) (us:List Je),K.In s.heap->(us++ds).length=ps.length->Pu s fd ⟨us,[]⟩ (ps.zip (us++ds))
theorem Binds.all {K:IX}{fd:KS}{ps:List Str}(h:∀us:List Je,us.length=ps.length->bindArgs fd ⟨us,[]⟩=pure (ps.zip us)):Binds K fd ps []:=λs us _ hl=>by
 rw[Kd]at hl ⊢;exact .of_eq (h us hl)
def vL (CX:A1)(X:Cx)(E:XK):Prop:=∀(pins:List (Addr×Obj)) (σ:St) (H:Hp) (s:Jf) (e:Je) (s':Jf),Inv X pins σ H s->CX X.stack H s E e s'->X.xe e s'
section
variable {X:Cx}{CX:A1}{k:Nat}{f C:Addr}{fd:KS}{ps:List Str}{sp:Sp}{dvs:List V}{ds:List Je}{E:XK}{x m:Str}{p pos apos:Pos}{e o:Expr}{es:List Expr}{ta:TE}{t:TA}
theorem Dz {pins:List (Addr×Obj)}{σ:St}{H:Hp}{s:Jf}{Q:VK}{us:List Je}{vs:List V}(F:sG X.prog X.w X.K X.mg X.base CX k f fd ps sp)(hr:Room k X.A)(hb:Binds X.K fd ps ds)(hd:Vals dvs ds)(hx:vL CX X E)
  (I:Inv X pins σ H s) (r:Vals vs us) (h:sp (vs++dvs) H Q E):wpAny (model X.prog X.w) X.A (call (.ref f) us) (EP X pins σ Q) X.xe s:=by
 have r2:Vals (vs++dvs) (us++ds):=r.append hd
 have hl:(us++ds).length=ps.length:=by rw[<-r2.length];exact F.len _ _ _ _ h
 refine wpAny_call (Og (F.run X.A X.stack s H ⟨us,[]⟩ (us++ds) (vs++dvs) Q E hr I.IG (hb s us I.kIn hl) r2 h) λr s' hq=> ?_)
 cases r with
 | error e=>exact hx pins σ H s e s' I hq
 | ok fl=>
  cases fl with
  | ret u=>exact I.after hq
  | next=>exact LJ hq
  | brk=>exact LJ hq
  | cont=>exact LJ hq
theorem v5 (F:sG X.prog X.w X.K X.mg X.base CX k f fd ps sp)(hr:Room k X.A)(hg:Gl X x)(hm:X.mg x=some (.ref f))(hk:Mt X.K (.ref f)=true)(hb:Binds X.K fd ps ds)(hd:Vals dvs ds)(hx:vL CX X E)
  (ha:PA X (e::es) t) (hdb:(x == ("__debug__" : Str))=false:=by decide) (he:Jz (e::es) X.env=(false,eval e X.env)::Jz es X.env:=by rfl) (hpl:(backTo pos (Jz es X.env)).any (·.1)=false:=by rfl) :
  PE X (.Call (.Name x p) (e::es) [] pos) (FR sp dvs E t):=by
 intro pins s σ H Q I h;refine Kt (ny I hg hm ?_ hdb)
 refine OL (h₀:=X.base) I.ok.mod.kin hk (cG (ha pos pins s σ H _ I h) λus s1 ⟨vs,H1,I1,r,q⟩=>⟨I1.kIn,?_⟩) he hpl
 exact Dz F hr hb hd hx I1 r q
end
structure ay (N P:List Str)(sc:Mi):Prop where
 kind:sc.kind= .function
 co:sc.isCoroutine=false
 gen:sc.isGenerator=false
 nd:N.Nodup
 pre:N.take P.length=P
 par:∀x∈P,sc.names.lookup x=some .local\/sc.names.lookup x=some .cell
 nofree:∀y∈sc.names,y.2≠ .free
theorem qB {kindOf:Str->Option LO}{x:Str}:∀{binds:List (Str×Je)} {m:Str->Option Je},(∀v,(x,v)∉binds)->bindL kindOf binds m x=m x
 | [],_,_=>rfl
 | (n,v)::r,m,h=>by
  unfold bindL;rw[qB λw hw=>h w (IZ _ hw)]
  split
  ·have:x≠n:=by rintro rfl;exact h v Ja
   simp[this]
  ·rfl
theorem qD {kindOf:Str->Option LO}{x:Str}:∀{binds:List (Str×Je)} {m:Str->Option Je},(∀v,(x,v)∉binds)->bindC kindOf binds m x=m x
 | [],_,_=>rfl
 | (n,v)::r,m,h=>by
  unfold bindC;rw[qD λw hw=>h w (IZ _ hw)]
  split
  ·rfl
  ·have:x≠n:=by rintro rfl;exact h v Ja
   simp[this]
theorem qC {kindOf:Str->Option LO}{x:Str}{v:Je}:∀{P:List Str} {vs:List Je} {i:Nat} {m:Str->Option Je},P.Nodup->P[i]? =some x->vs[i]? =some v->kindOf x=some .local →
  bindL kindOf (P.zip vs) m x=some v
 | [],_,_,_,_,h,_,_=>by simp at h
 | _::_,[],_,_,_,_,h,_=>by simp at h
 | p::P,w::vs,0,m,nd,h1,h2,hk=>by
  simp at h1 h2;subst h1;subst h2
  show bindL kindOf ((p,w)::P.zip vs) m p=_
  unfold bindL;rw[qB λv hv=>(JL.mp nd).1 (MT hv).1,if_pos hk]
  simp
 | p::P,w::vs,i+1,m,nd,h1,h2,hk=>by
  show bindL kindOf ((p,w)::P.zip vs) m x=_
  unfold bindL;exact qC (i:=i) (JL.mp nd).2 (by simpa using h1) (by simpa using h2) hk
theorem qE {kindOf:Str->Option LO}{x:Str}{v:Je}:∀{P:List Str} {vs:List Je} {i:Nat} {m:Str->Option Je},P.Nodup->P[i]? =some x->vs[i]? =some v->kindOf x≠some .local →
  bindC kindOf (P.zip vs) m x=some v
 | [],_,_,_,_,h,_,_=>by simp at h
 | _::_,[],_,_,_,_,h,_=>by simp at h
 | p::P,w::vs,0,m,nd,h1,h2,hk=>by
  simp at h1 h2;subst h1;subst h2
  show bindC kindOf ((p,w)::P.zip vs) m p=_
  unfold bindC;rw[qD λv hv=>(JL.mp nd).1 (MT hv).1,if_neg hk]
  simp
 | p::P,w::vs,i+1,m,nd,h1,h2,hk=>by
  show bindC kindOf ((p,w)::P.zip vs) m x=_
  unfold bindC;exact qE (i:=i) (JL.mp nd).2 (by simpa using h1) (by simpa using h2) hk
def start (N:List Str)(vs:List V):St:=vs.map some++JC (N.length - vs.length) none
def mj (CX:A1)(P:JI)(w:Kr)(K:IX)(mg:Str->Option Je)(base:Heap)(N:List Str)(qual:Str)(scope:Mi)(f:Addr)(cd:Je)(A:J9)(outer:List Env)(s:Jf)(H:Hp)(E:XK):Cx where
 prog:=P
 w:=w
 K:=K
 mg:=mg
 base:=base
 A:=A.deeper (envOfC qual scope s.heap.objs.size f cd)
 N:=N
 s₀:=s
 H₀:=H
 env:=envOfC qual scope s.heap.objs.size f cd
 outer:=outer
 stack:=envOfC qual scope s.heap.objs.size f cd::outer
 ex:=[]
 calm:=true
 fn:=λ_=>true
 pn:=[]
 xe:=λe s'=>wpAny (model P w) (A.deeper (envOfC qual scope s.heap.objs.size f cd)) (leaving (envOfC qual scope s.heap.objs.size f cd) e) (λ_ s''=>CX outer H s E e s'') (λe' s''=>CX outer H s E e' s'') s'
theorem uK {sc:Mi}{n:Nat}{x:Str}(h:sc.names.lookup x=some .cell):∃c,(Lz n sc.names []).lookup x=some c:=by
 have q:=Mj sc.names n [] (.inl h);exact Li.mp q
theorem qm {CX:A1}{P:JI}{w:Kr}{K:IX}{mg:Str->Option Je}{base:Heap}{N ps:List Str}{qual:Str}{scope:Mi}{f:Addr}{cd:Je}{A:J9}{outer:List Env}{s s1:Jf}{H:Hp}{E:XK}{us:List Je}{vs:List V}
  (S:ay N ps scope) (hd:A.handled=none) (e0:AX P w K mg base A outer s H) (hl:vs.length=ps.length) (r:Vals vs us)
  (x:InCallC s s.heap.objs.size (bindL (envOfC qual scope s.heap.objs.size f cd).kindOf (ps.zip us) λ_=>none) (Lz (s.heap.objs.size+1) scope.names []) (bindC (envOfC qual scope s.heap.objs.size f cd).kindOf (ps.zip us) λ_=>none) s1) :
  Inv (mj CX P w K mg base N qual scope f cd A outer s H E) [] (start N vs) H s1:=by
 have hpl:ps.length<=N.length:=by have:=congrArg Kn S.pre;rw[Ly]at this;omega
 obtain⟨h1,tk,rfl,hk⟩:=x.done
 have noA:∀b:Addr,b∉(mj CX P w K mg base N qual scope f cd A outer s H E).ex:=λb z=>absurd (show b∈([]:List Addr)from z) (by simp)
 refine⟨⟨e0.mod,S.kind,rfl,rfl,Jq _,λy z c h1 h2=> ?_,λy hy=> ?_,λy c _ h=> ?_,λ_=>hd,Around.frames_deeper e0.frames,.inr ⟨rfl,rfl⟩,λb z=>absurd z (noA b),e0.bs,e0.bsz,λb _ _=>noA b,λb z=>absurd z (noA b),e0.funs,e0.frf⟩,
  rfl,e0.bare,Un.kept hk,⟨_,x.toInCall.ns,λi y v h1 h2 h3=> ?_⟩,λy c h=>⟨_,x.cell y c h⟩,e0.hok.fresh (Jq _),λy c h=> ?_,λp hp=>absurd (show p∈([]:List (Addr×Obj))from hp) (by simp),e0.hok.kept hk,?_⟩
 ·exact name_of_addr x.apart (K3 h1) (K3 h2)
 ·have hy:scope.names.lookup y=some .cell\/scope.names.lookup y=some .free:=hy
  rcases hy with hy | hy
  ·exact uK hy
  ·exact absurd rfl (S.nofree _ (K3 hy))
 ·exact L4 (x.above y c (K3 h))
 ·have hi:i<vs.length:=by
   unfold start at h2
   by_cases hi:i<vs.length
   ·exact hi
   ·rw[LQ (by simpa using hi)]at h2
    rw[Ma]at h2
    split at h2 <;> cases h2
  have ha:vs[i]? =some v:=by
   unfold start at h2;rw[Lb (by simpa using hi),JN]at h2
   cases e:vs[i]? with
   | none=>rw[e]at h2;cases h2
   | some a=>rw[e]at h2;cases h2;rfl
  obtain⟨u,hu,rv⟩:=r.get ha
  have hp:ps[i]? =some y:=by
   rw[<-S.pre,List.getElem?_take_of_lt (by omega)];exact h1
  have ndP:ps.Nodup:=by rw[<-S.pre];exact S.nd.sublist (List.take_sublist _ _)
  refine⟨u,rv,?_⟩
  rcases S.par y (Ks hp)with k | k
  ·exact .inl ⟨k,qC ndP hp hu k⟩
  ·obtain⟨c,e⟩:=uK (n:=s.heap.objs.size+1) k
   refine .inr ⟨.inl k,c,e,?_⟩
   have q:=x.cell y c e;rw[qE ndP hp hu (by show scope.names.lookup y≠_;rw[k];decide)]at q
   exact q
 ·exact e0.hok.fresh (L4 (x.above y c (K3 h)))
 ·unfold start
  show _=N.length
  rw[Jj,Jd,List.length_replicate];omega
theorem GX {CX:A1}{P:JI}{w:Kr}{K:IX}{mg:Str->Option Je}{base:Heap}{k:Nat}{f:Addr}{name qual:Str}{params:Ql}{body:List Stmt}{scope:Mi}{dV kV doc pm cdv ct oc:Je}{an od:Option Addr}
  {osl:Array (Option Je)} {N ps:List Str} {sp:Sp} (lk:K.lookup f=some ⟨oc,od,.func (Mu name qual params body scope dV kV doc pm an cdv ct),osl⟩) (hcd:OB K cdv qual=true) (S:ay N ps scope)
  (len:∀vs H Q E,sp vs H Q E->vs.length=ps.length)
  (hbody:∀(A:J9) (outer:List Env) (s:Jf) (H:Hp) (vs:List V) (Q:VK) (E:XK),Room k (A.deeper (envOfC qual scope s.heap.objs.size f cdv))->sp vs H Q E →
   ∃t,PSs (mj CX P w K mg base N qual scope f cdv A outer s H E) body t/\t { nx:=λ_ H'=>Q .non H',rt:=Q } (start N vs) H) :
  sG P w K mg base CX (k+1) f (Mu name qual params body scope dV kV doc pm an cdv ct) ps sp:=by
 refine⟨len,λA outer s H args us vs Q E hr e0 hb r hsp=> ?_⟩
 have hl:=len _ _ _ _ hsp
 have KX:K.In s.heap:=e0.mod.kin.keeps λb o e=>(e0.bs b o e).1
 have lim:s.heap.NoLimit:=e0.mod.nolimit.keeps λb o e=>(e0.bs b o e).1
 have hkind:∀y∈ps.zip us,scope.names.lookup y.1=some .local\/(scope.names.lookup y.1=some .cell/\((Lz (s.heap.objs.size+1) scope.names []).lookup y.1).isSome=true):=λ⟨n,v⟩ hy=>by
  rcases S.par n (MT hy).1 with q | q
  ·exact .inl q
  ·exact .inr ⟨q,Mj _ _ _ (.inl q)⟩
 refine Oh hr.depth (KX _ _ lk) rfl S.co S.gen rfl (OM KX hcd) (hb _ _ _ _ ?_)
 refine Na S.kind hkind λenv he s1 x=> ?_
 subst he;refine⟨lim.keeps x.toInCall.keep,codeAny_func ?_⟩
 obtain⟨t,ht,hq⟩:=hbody A outer s H vs Q E (hr.deeper _) hsp
 have I:Inv (mj CX P w K mg base N qual scope f cdv A outer s H E) [] (start N vs) H s1:=qm S hr.hd e0 hl r x;refine Ln (ht [] s1 (start N vs) H _ I hq) (λfl s' hs=> ?_) λe s' hs=>hs
 have fin:∀{σ':St} {H':Hp} {v:V} {u:Je},Inv (mj CX P w K mg base N qual scope f cdv A outer s H E) [] σ' H' s'->RelV v u->Q v H'->CE outer P w H s Q u s':=
  λ{σ' H' v u} J rv q=>⟨v,H',J.os,J.bare,J.base,J.hok,rv,q⟩
 cases fl with
 | ret u=>
  obtain⟨v,σ',H',J,rv,q⟩:=hs
  exact fin J rv q
 | next=>
  obtain⟨σ',H',J,q⟩:=hs
  exact fin (v:=V.non) (u:=J0) J rfl q
 | brk=>
  obtain⟨_,_,_,q⟩:=hs
  exact LJ q
 | cont=>
  obtain⟨_,_,_,q⟩:=hs;exact LJ q
end L2
namespace HT
open PySem PyProof.Rows
section
variable {prog:JI}{w:Kr}{A:J9}{E:Je->Jf->Prop}{s:Jf}
theorem cat_tup {t b:Addr}{vs ws:List Je}{Q:Je->Jf->Prop}(ht:Qs s.heap t vs.toArray)(hb:Qs s.heap b ws.toArray)(hv:vs≠ [])
  (h1:ws= []->Q (.ref t) s) (h2:ws≠ []->Q (.ref s.heap.objs.size) { s with heap:=s.heap.push { cls:=.type "tuple",data:=.seq (vs++ws).toArray } })
  (hsz:vs.length+ws.length<=sizeLine):wpAny (model prog w) A (KR .Add (.ref t) (.ref b)) Q E s:=by
 obtain⟨⟨cls,dd,data,sl⟩,ho,hc,n,hd⟩:=id ht;obtain⟨⟨cls2,dd2,data2,sl2⟩,ho2,hc2,n2,hd2⟩:=id hb;simp only at hc hd hc2 hd2;subst hc hd hc2 hd2
 have e:vs.toArray++ws.toArray=(vs++ws).toArray:=by simp
 by_cases hw:ws= []
 ·exact PH ⟨_,ho,rfl⟩ ⟨_,ho2,rfl⟩ NM O8 Mk L7 (L3 _ _)
   (tuple_addW1 t b vs.toArray ws.toArray n n2 dd dd2 sl sl2 (by simpa using hv) (by simp[hw])) ⟨ho,ho2,h1 hw⟩
 ·refine PH ⟨_,ho,rfl⟩ ⟨_,ho2,rfl⟩ NM O8 Mk L7 (L3 _ _)
   (tuple_addW2 t b vs.toArray ws.toArray n n2 dd dd2 sl sl2 (by simpa using hv) (by simpa using hw) (by rw[Jw,Jw];exact hsz)) ⟨ho,ho2,?_⟩
  rw[e];exact h2 hw
def sIx (n d:Nat):Option Int->Nat
 | none=>d
 | some v=>if v<0 then(v+(n:Int)).toNat else min v.toNat n
theorem sIx_none (n d:Nat):sIx n d none=d:=rfl
theorem sIx_nat (n d k:Nat):sIx n d (some (k:Int))=min k n:=by
 show(if (k:Int)<0 then((k:Int)+(n:Int)).toNat else min (k:Int).toNat n)=min k n
 rw[if_neg (by omega),Ke]
theorem Dy (n d:Nat)(hd:d<=n)(o:Option Int):sIx n d o<=n:=by
 cases o with
 | none=>exact hd
 | some v=>
  show(if v<0 then(v+(n:Int)).toNat else min v.toNat n)<=n
  by_cases hv:v<0
  ·rw[if_pos hv];omega
  ·rw[if_neg hv];exact Nat.min_le_right _ _
theorem wN (v:Int)(n d:Nat):(if v<0 then max (v+(n:Int)) 0 else min v (n:Int))=((sIx n d (some v):Nat):Int):=by
 show(if v<0 then max (v+(n:Int)) 0 else min v (n:Int))=(((if v<0 then(v+(n:Int)).toNat else min v.toNat n):Nat):Int)
 by_cases hv:v<0
 ·simp only[if_pos hv];omega
 ·simp only[if_neg hv];omega
theorem vJ (lo hi:Option Int)(n:Nat):LV lo hi 1 (n:Int)=(((sIx n 0 lo:Nat):Int),((sIx n n hi:Nat):Int)):=by
 have h1:¬ ((1:Int)<0):=by omega
 unfold LV;simp only[h1,if_false];refine Prod.ext ?_ ?_
 ·cases lo with
  | none=>rfl
  | some v=>exact wN v n 0
 ·cases hi with
  | none=>rfl
  | some v=>exact wN v n n
theorem vc (i j:Nat):La (i:Int) (j:Int) 1=j - i:=by
 unfold La
 have h1:(1:Int) > 0:=by omega
 simp only[h1,if_true,Int.ediv_one]
 split <;> omega
theorem nT {v:Je}{o:Option Int}{Q:Option Int->Jf->Prop}(p:O9 v o)(h:Q o s):wpAny (model prog w) A (P5 v) Q E s:=by
 cases p with
 | none=>exact slicePart_none h
 | int i t=>exact slicePart_int h
theorem iz {sl:Addr}{vl vu:Je}{lo hi:Option Int}{n:Nat}{Q:Int×Int×Nat->Jf->Prop}(hs:s.heap.IsSliceOf sl vl vu .none)(pl:O9 vl lo)(pu:O9 vu hi)
  (h:Q (((sIx n 0 lo:Nat):Int),1,sIx n n hi - sIx n 0 lo) s):wpAny (model prog w) A (M4 (.ref sl) (pure (n:Int))) Q E s:=by
 obtain⟨os,hos,hcs,hds⟩:=id hs;unfold M4 Builtin.Slice.sliceFields;refine IW (IW (JS hos hds (x:=vl) rfl (IW (JS hos hds (x:=vu) rfl (IW (JS hos hds (x:=.none) rfl (Jg ?_)))))))
 refine IW (slicePart_none ?_)
 show wpAny _ _ (if ((1:Int) == 0)=true then _ else _) _ _ s
 rw[if_neg (by decide)]
 refine IW (nT pl (IW (nT pu (IW (Jg ?_)))))
 show wpAny _ _ (match LV lo hi 1 (n:Int)with | (lo,hi)=>pure (lo,(1:Int),La lo hi 1)) _ _ s
 rw[vJ lo hi n]
 show wpAny _ _ (pure (((sIx n 0 lo:Nat):Int),(1:Int),La ((sIx n 0 lo:Nat):Int) ((sIx n n hi:Nat):Int) 1)) _ _ s
 rw[vc];exact Jg h
theorem yX (xs:Array Je)(i k:Nat):((Js k).filterMap λ(m:Nat)=>xs[((i:Int)+(m:Int)*1).toNat]?).toArray=((xs.toList.drop i).take k).toArray:=by
 have e:(λ(m:Nat)=>xs[((i:Int)+(m:Int)*1).toNat]?)=λm=>xs[i+m]?:=by
  funext m
  have:((i:Int)+(m:Int)*1).toNat=i+m:=by omega
  rw[this]
 rw[e]
 have:=pick_run xs i k;rw[List.filterMap_map]at this
 have e2:((λx=>xs[x]?)∘λx=>i+x)=λm=>xs[i+m]?:=rfl
 rw[e2]at this;rw[this]
theorem getItem_tuple_cut {t sl:Addr}{items:Array Je}{vl vu:Je}{lo hi:Option Int}{Q:Je->Jf->Prop}(ht:Qs s.heap t items)(hs:s.heap.IsSliceOf sl vl vu .none)(pl:O9 vl lo)(pu:O9 vu hi)
  (hw:¬ (sIx items.size 0 lo=0/\sIx items.size items.size hi=items.size))
  (h:Q (.ref s.heap.objs.size) { s with heap:=s.heap.push { cls:=.type "tuple",data:=.seq ((items.toList.drop (sIx items.size 0 lo)).take (sIx items.size items.size hi - sIx items.size 0 lo)).toArray } })
  (hsz:items.size<=sizeLine):wpAny (model prog w) A (getItem (.ref t) (.ref sl)) Q E s:=by
 have htake:sizeOk (.seq ((items.toList.drop (sIx items.size 0 lo)).take (sIx items.size items.size hi - sIx items.size 0 lo)).toArray):=by
  show((items.toList.drop (sIx items.size 0 lo)).take (sIx items.size items.size hi - sIx items.size 0 lo)).toArray.size<=sizeLine
  rw[Jw,Ly,K6,J5];omega
 have hj:sIx items.size items.size hi<=items.size:=Dy _ _ (Jq _) hi;obtain⟨os,hos,hcs,hds⟩:=id hs
 have hTs:s.TypeIs (.ref sl) "slice":=⟨os,hos,hcs⟩;unfold getItem
 try with_reducible refine K0 ?_
 first | refine IW (Jg ?_) | skip
 refine IW (Pv ht.typeIs (by decide) ?_)
 refine IW (JM (name:=Jm "__getitem__") ht.typeIs Kb
  (J3 Kb ht.typeIs OI ?_ (Pa _ _)))
 show wpAny _ _ (M5 (.ref t) >>= _) _ _ s
 refine IW (Pb ht ?_)
 refine IW (L6 hTs ?_)
 rw[if_pos (by decide)]
 refine IW (iz hs pl pu ?_)
 have hno:¬ ((((sIx items.size 0 lo:Nat):Int) == 0&&(1:Int) == 1&&(sIx items.size items.size hi - sIx items.size 0 lo) == items.size)=true):=by
  intro q;rw[Jc,Jc]at q
  have q1:((sIx items.size 0 lo:Nat):Int)=0:=eq_of_beq q.1.1
  have q2:sIx items.size items.size hi - sIx items.size 0 lo=items.size:=eq_of_beq q.2;exact hw ⟨by omega,by omega⟩
 show wpAny _ _ (if (((sIx items.size 0 lo:Nat):Int) == 0&&(1:Int) == 1&&(sIx items.size items.size hi - sIx items.size 0 lo) == items.size)=true then _ else _) _ _ s
 rw[if_neg hno,yX]
 first
  | exact IW (m:=KO _) (Kk (Jg ⟨_,rfl,Jg h⟩) htake)
  | exact IW (m:=KO _) (Kk (IW (Jg (Jg ⟨_,rfl,Jg h⟩))) htake)
  | exact IW (IW (m:=KO _) (Kk (Jg (Jg ⟨_,rfl,Jg h⟩)) htake))
  | exact IW (IW (m:=KO _) (Kk (Jg ⟨_,rfl,Jg h⟩) htake))
end
end HT
namespace L2
open PySem PySem.Spec PyProof.Rows
abbrev TO:=St->Hp->(Option Int->Hp->Prop)->Prop
def PO (X:Cx)(e:Option Expr)(t:TO):Prop:=
 ∀(pins:List (Addr×Obj)) (s:Jf) (σ:St) (H:Hp) (Q:Option Int->Hp->Prop),Inv X pins σ H s->t σ H Q →
  wpAny (model X.prog X.w) X.A (evalPart e X.env) (λu s'=> ∃o H',Inv X pins σ H' s'/\O9 u o/\Q o H') X.xe s
def Bh:TO:=λ_ H Q=>Q none H
def FK (t:TE):TO:=λσ H Q=>t σ H λx H1=> ∃i,x= .int i/\Q (some i) H1
theorem vz {ns:List Int}:∀{us:List Je},Vals (ns.map V.int) us->MK us ns:=by
 induction ns with
 | nil=>intro us r;rw[L5]at r;cases r;exact .nil
 | cons n ns ih=>
  intro us r;rw[Jb]at r
  cases r with
  | cons r1 r2=>
   obtain⟨t,e⟩:=r1;subst e;exact .cons n t (ih r2)
section
variable {X:Cx}{e:Expr}{te:TE}{lo hi:Option Expr}{tl th:TO}{pos p2:Pos}
theorem BP:PO X none Bh:=by
 intro pins s σ H Q I h;rw[evalPart_none];exact Jg ⟨none,H,I,.none,h⟩
theorem BO (h:PE X e te):PO X (some e) (FK te):=by
 intro pins s σ H Q I hw;rw[evalPart_some];refine cG (h pins s σ H _ I hw) λu s1 hh_=> ?_
 obtain⟨x,H1,I1,r1,q1⟩:=hh_;obtain⟨i,rfl,q⟩:=q1;obtain⟨t,rfl⟩:=r1;exact⟨some i,H1,I1,.int i t,q⟩
def SlR (X:Cx)(r:V->Option Int->Option Int->Hp->VK->Prop):Prop:=
 ∀(pins:List (Addr×Obj)) (s:Jf) (σ:St) (H:Hp) (x:V) (v vl vu:Je) (lo hi:Option Int) (sl:Addr) (Q:VK),Inv X pins σ H s->RelV x v->s.heap.IsSliceOf sl vl vu .none->O9 vl lo->O9 vu hi->r x lo hi H Q →
  ∃T id,Nt (.type T) "__getitem__" =pure (some (.builtin id))/\s.TypeIs v T/\wpAny (model X.prog X.w) X.A (getItem v (.ref sl)) (EP X pins σ Q) X.xe s
theorem SlR.or {r r':V->Option Int->Option Int->Hp->VK->Prop}(h:SlR X r)(h':SlR X r'):SlR X (λx lo hi H Q=>r x lo hi H Q\/r' x lo hi H Q):=by
 intro pins s σ H x v vl vu lo hi sl Q I rx hs pl pu q;rcases q with q | q
 ·exact h pins s σ H x v vl vu lo hi sl Q I rx hs pl pu q
 ·exact h' pins s σ H x v vl vu lo hi sl Q I rx hs pl pu q
def tSl (r:V->Option Int->Option Int->Hp->VK->Prop)(te:TE)(tl th:TO):TE:=λσ H Q=>te σ H λx H1=>tl σ H1 λl H2=>th σ H2 λu H3=>r x l u H3 Q
theorem za {r:V->Option Int->Option Int->Hp->VK->Prop}(hr:SlR X r)(he:PE X e te)(hl:PO X lo tl)(hu:PO X hi th):PE X (.Subscript e (.Slice lo hi none p2) pos) (tSl r te tl th):=by
 intro pins s σ H Q I h;refine Subscript_ (cG (he pins s σ H _ I h) λv s1 hh_=> ?_)
 obtain⟨x,H1,I1,r1,q1⟩:=hh_;refine wpAny_Slice (cG (hl pins s1 σ H1 _ I1 q1) λvl s2 ⟨l,H2,I2,pl,q2⟩=>cG (hu pins s2 σ H2 _ I2 q2) λvu s3 hh_=> ?_)
 obtain⟨u,H3,I3,pu,q3⟩:=hh_;rw[evalPart_none];refine Jg ?_
 have I4:Inv X pins σ H3 { s3 with heap:=s3.heap.push { cls:=.type "slice",data:=.fields #[vl,vu,.none] } }:=I3.kept (t':=s3.toks) λb ob q=>IY _ q
 obtain⟨T,id,hT,ht,hg⟩:=hr pins { s3 with heap:=s3.heap.push { cls:=.type "slice",data:=.fields #[vl,vu,.none] } } σ H3 x v vl vu l u s3.heap.objs.size Q I4 r1 (Heap.IsSliceOf.new ..) pl pu q3
 show wpAny (model X.prog X.w) X.A (Pc e (.Slice lo hi none p2) v (.ref s3.heap.objs.size)) (EP X pins σ Q) X.xe { s3 with heap:=s3.heap.push { cls:=.type "slice",data:=.fields #[vl,vu,.none] } }
 exact tail_any (ops:=[.ref s3.heap.objs.size,v]) ht hT hg (by with_unfolding_all rfl)
def uI (xs:List V)(lo hi:Option Int):List V:=(xs.drop (HT.sIx xs.length 0 lo)).take (HT.sIx xs.length xs.length hi - HT.sIx xs.length 0 lo)
theorem mL (xs:List V)(lo hi:Option Int):(uI xs lo hi).length<=xs.length:=by
 unfold uI;rw[Ly,K6];omega
def rSlT (K:IX):V->Option Int->Option Int->Hp->VK->Prop:=λx lo hi H Q=> ∃a xs,x= .ref a/\SqT K H a xs ∧
 ¬(HT.sIx xs.length 0 lo=0/\HT.sIx xs.length xs.length hi=xs.length)/\∀p,H p=none->Q (.ref p) (upd H p (.tup (uI xs lo hi)))
theorem sl_tup:SlR X (rSlT X.K):=by
 intro pins s σ H x v vl vu lo hi sl Q I rx hs pl pu h;obtain⟨a,xs,rfl,hx,hw,q⟩:=h;cases rx;obtain⟨its,r,ht,hz⟩:=I.tuple hx
 have hlen:its.toArray.size=xs.length:=by rw[Jw];exact r.length.symm
 refine⟨"tuple",_,Kb.lookup,ht.typeIs,?_⟩
 refine HT.getItem_tuple_cut ht hs pl pu (by rw[hlen];exact hw) ?_ (by rw[hlen];exact hz)
 rw[hlen];refine⟨.ref s.heap.objs.size,_,I.laid (t':=s.toks) (o:=.tup (uI xs lo hi)) (λb ob q=>IY _ q) (Jq _) ?_,rfl,q _ (I.hok.fresh (Jq _))⟩
 exact⟨Ka (mL xs lo hi) hz,_,(r.drop (HT.sIx xs.length 0 lo)).take (HT.sIx xs.length xs.length hi - HT.sIx xs.length 0 lo),Qa _ _⟩
def FY (K:IX):R2:=λx y H Q=> ∃a b xs ys,x= .ref a/\y= .ref b/\SqT K H a xs/\SqT K H b ys/\xs≠ []/\xs.length+ys.length<=sizeLine ∧
 (ys= []->Q (.ref a) H)/\(ys≠ []->∀p,H p=none->Q (.ref p) (upd H p (.tup (xs++ys))))
theorem Vals.HB {xs:List V}{us:List Je}(r:Vals xs us):us= [] ↔xs= []:=by
 cases r with
 | nil=>simp
 | cons _ _=>simp
theorem B1:qH X (KR .Add) (FY X.K):=by
 intro pins s σ H x y v u Q I rx ry h;obtain⟨a,b,xs,ys,rfl,rfl,ha,hb,hx,hz,q1,q2⟩:=h;cases rx;cases ry;obtain⟨its,r1,p1,_⟩:=I.tuple ha;obtain⟨its2,r2,p2,_⟩:=I.tuple hb;refine HT.cat_tup p1 p2 (λz=>hx (r1.HB.mp z)) (λz=>⟨.ref a,H,I,rfl,q1 (r2.HB.mp z)⟩) (λz=> ?_) (by rw[<-r1.length,<-r2.length];exact hz)
 refine⟨.ref s.heap.objs.size,_,I.laid (t':=s.toks) (o:=.tup (xs++ys)) (λb ob q=>IY _ q) (Jq _) ?_,rfl,q2 (λw=>z (r2.HB.mpr w)) _ (I.hok.fresh (Jq _))⟩
 exact⟨by rw[Jj];exact hz,_,r1.append r2,Qa _ _⟩
end
def ixN (n:Nat)(i:Int):Option Nat:=if 0<=i then(if i<n then some i.toNat else none)else if -(n:Int)<=i then some (i+n).toNat else none
def atI {α:Type}(xs:List α)(i:Int):Option α:=(ixN xs.length i).bind λj=>xs[j]?
theorem Cg {n:Nat}{i:Int}{j:Nat}(h:ixN n i=some j):seqIndex? i n=some j/\j<n/\-(n:Int)<=i/\i<n:=by
 unfold ixN at h
 by_cases h0:0<=i
 ·rw[if_pos h0]at h
  by_cases h1:i<n
  ·rw[if_pos h1]at h
   have e:i.toNat=j:=JU h;exact⟨by rw[seqIndex_of h0 h1,e],by omega,by omega,h1⟩
  ·rw[if_neg h1]at h;cases h
 ·rw[if_neg h0]at h
  by_cases h1 : -(n:Int)<=i
  ·rw[if_pos h1]at h
   have e:(i+n).toNat=j:=JU h;exact⟨by rw[seqIndex_neg (by omega) h1,e],by omega,h1,by omega⟩
  ·rw[if_neg h1]at h;cases h
theorem sE {α:Type}{xs:List α}{i:Int}{v:α}(h:atI xs i=some v):∃j,seqIndex? i xs.length=some j/\xs[j]? =some v/\j<xs.length/\-(xs.length:Int)<=i/\i<xs.length:=by
 unfold atI at h
 cases e:ixN xs.length i with
 | none=>rw[e]at h;cases h
 | some j=>
  rw[e]at h;obtain⟨h1,h2,h3,h4⟩:=Cg e;exact⟨j,h1,h,h2,h3,h4⟩
def wV (b:Expr):Prop:=∀o i,OJ b false o i=operate [o,i] (getItem o i)
def IxR (X:Cx)(r:R2):Prop:=
 ∀(value slice:Expr) (pins:List (Addr×Obj)) (s:Jf) (σ:St) (H:Hp) (x y:V) (v u:Je) (Q:VK),Inv X pins σ H s->RelV x v->RelV y u->r x y H Q →
  OJ slice false v u=operate [v,u] (getItem v u)->wpAny (model X.prog X.w) X.A (Pc value slice v u) (EP X pins σ Q) X.xe s
def MtR (X:Cx)(id:String)(r:V->List V->Hp->VK->Prop):Prop:=
 ∀(pins:List (Addr×Obj)) (s:Jf) (σ:St) (H:Hp) (x:V) (xs:List V) (v:Je) (us:List Je) (Q:VK),Inv X pins σ H s->RelV x v->Vals xs us->r x xs H Q →
  wpAny (model X.prog X.w) X.A (call (.builtin id) (v::us)) (EP X pins σ Q) X.xe s
section
variable {X:Cx}{a b:Expr}{ta tb:TE}{pos:Pos}
theorem IxR.or {r r':R2}(h:IxR X r)(h':IxR X r'):IxR X (λx y H Q=>r x y H Q\/r' x y H Q):=by
 intro value slice pins s σ H x y v u Q I rx ry q hs;rcases q with q | q
 ·exact h value slice pins s σ H x y v u Q I rx ry q hs
 ·exact h' value slice pins s σ H x y v u Q I rx ry q hs
def FX (K:IX):R2:=λx y H Q=> ∃p xs i v,x= .ref p/\y= .int i/\SqL K H p xs/\atI xs i=some v/\Q v H
def FV (K:IX):R2:=λx y H Q=> ∃p xs i v,x= .ref p/\y= .int i/\SqT K H p xs/\atI xs i=some v/\Q v H
def FW:R2:=λx y H Q=> ∃z i c,x= .str z/\y= .int i/\z.length<=sizeLine/\atI z.cps.toList i=some c/\Q (.str ⟨#[c]⟩) H
theorem ix_list:IxR X (FX X.K):=by
 intro value slice pins s σ H x y v u Q I rx ry h hs;obtain⟨p,xs,i,z,rfl,rfl,hq,he,q⟩:=h;cases rx;obtain⟨t,rfl⟩:=ry;obtain⟨its,r,pl,hz⟩:=I.list hq;obtain⟨j,h1,h2,h3,h4,h5⟩:=sE he;obtain⟨w,ew,rw'⟩:=r.get h2
 have hl:=r.length
 have hn:=oF
 have fin:EP X pins σ Q w s:=⟨z,H,I,rw',q⟩
 by_cases h0:0<=i
 ·have hj:i.toNat=j:=by
   rw[seqIndex_of h0 h5]at h1;exact JU h1
  exact item_listR pl.isList h0 (by omega) (by rw[hj];simpa using ew) fin hs
 ·have hj:(i+(its.toArray.size:Int)).toNat=j:=by
   rw[seqIndex_neg (by omega) h4]at h1
   rw[Jw,<-hl];exact JU h1
  exact NS (x:=w) pl.isList.typeIs slot_list_getitem.lookup
   (wpAny_getItem_list_neg (Q:=λr s'=>r=w/\EP X pins σ Q r s') pl.isList (by omega) (by rw[Jw] <;> omega) (by omega) (by rw[hj];simpa using ew) ⟨rfl,fin⟩) hs
theorem ix_tup:IxR X (FV X.K):=by
 intro value slice pins s σ H x y v u Q I rx ry h hs;obtain⟨p,xs,i,z,rfl,rfl,hq,he,q⟩:=h;cases rx;obtain⟨t,rfl⟩:=ry;obtain⟨its,r,pl,hz⟩:=I.tuple hq;obtain⟨j,h1,h2,h3,h4,h5⟩:=sE he;obtain⟨w,ew,rw'⟩:=r.get h2
 have hl:=r.length
 have hn:=oF
 have fin:EP X pins σ Q w s:=⟨z,H,I,rw',q⟩
 exact NS (x:=w) pl.typeIs slot_tuple_getitem.lookup
  (getItem_tuple (j:=j) (Q:=λr s'=>r=w/\EP X pins σ Q r s') pl (by omega) (by omega) (by rw[Jw,<-hl];exact h1) (by simpa using ew) ⟨rfl,fin⟩) hs
theorem EX:IxR X FW:=by
 intro value slice pins s σ H x y v u Q I rx ry h hs;obtain⟨z,i,c,rfl,rfl,hz,he,q⟩:=h;obtain⟨t,rfl⟩:=rx;obtain⟨t',rfl⟩:=ry;obtain⟨j,h1,h2,h3,h4,h5⟩:=sE he
 have hl:z.cps.toList.length=z.length:=by simp[Str.length]
 rw[hl]at h1 h4 h5
 have hn:=oF
 exact tail_any (typeIs_str s z t) slot_str_getitem.lookup (getItem_str (c:=c) (by
  have e1:decide (i< -(2 ^ 63:Int))=false:=decide_eq_false (by omega)
  have e2:decide (i ≥ 2 ^ 63)=false:=decide_eq_false (by omega)
  rw[e1,e2,Bool.or_false]) (by rw[h1];simpa using h2) ⟨.str ⟨#[c]⟩,H,I.tok _,⟨_,rfl⟩,q⟩) hs
def rIx (K:IX):R2:=λx y H Q=>FX K x y H Q\/FV K x y H Q\/FW x y H Q
theorem EY:IxR X (rIx X.K):=ix_list.or (ix_tup.or EX)
theorem qO (lo hi:Option Int)(n:Nat):(Mr lo hi none n).1=((HT.sIx n 0 lo:Nat):Int)/\(Mr lo hi none n).2.1=((HT.sIx n n hi:Nat):Int)/\(Mr lo hi none n).2.2=1:=by
 refine⟨?_,?_,rfl⟩
 ·cases lo with
  | none=>simp[Mr,HT.sIx]
  | some i=>
   simp only[Mr,HT.sIx,PL,show(1:Int) > 0 by decide,if_true]
   by_cases h:i<0
   ·simp only[h,if_true] <;> omega
   ·simp only[h,if_false] <;> omega
 ·cases hi with
  | none=>simp[Mr,HT.sIx]
  | some i=>
   simp only[Mr,HT.sIx,PL,show(1:Int) > 0 by decide,if_true]
   by_cases h:i<0
   ·simp only[h,if_true] <;> omega
   ·simp only[h,if_false] <;> omega
theorem pA (its:List Je)(lo hi:Option Int):slicePick its.toArray lo hi none=((its.drop (HT.sIx its.length 0 lo)).take (HT.sIx its.length its.length hi - HT.sIx its.length 0 lo)).toArray:=by
 obtain⟨h1,h2,h3⟩:=qO lo hi its.toArray.size;unfold slicePick;rw[h1,h2,h3];simp only[sliceRange_one,pick_run,Jw] <;> rfl
def rSlL (K:IX):V->Option Int->Option Int->Hp->VK->Prop:=λx lo hi H Q=> ∃a xs,x= .ref a/\SqL K H a xs/\∀p,H p=none->Q (.ref p) (upd H p (.lst (uI xs lo hi)))
theorem Bk:SlR X (rSlL X.K):=by
 intro pins s σ H x v vl vu lo hi sl Q I rx hs pl pu h;obtain⟨a,xs,rfl,hx,q⟩:=h;cases rx;obtain⟨its,r,ht,hz⟩:=I.list hx
 have hlen:=r.length;refine⟨"list",_,slot_list_getitem.lookup,ht.isList.typeIs,?_⟩
 refine wpAny_getItem_list_slice ht.isList hs pl pu .none (by simp) ?_ (by rw[Jw] <;> omega)
 rw[pA,<-hlen];refine⟨.ref s.heap.objs.size,_,I.laid (t':=s.toks) (o:=.lst (uI xs lo hi)) (λb ob q=>IY _ q) (Jq _) ?_,rfl,q _ (I.hok.fresh (Jq _))⟩
 exact⟨Ka (mL xs lo hi) hz,_,0,(r.drop (HT.sIx xs.length 0 lo)).take (HT.sIx xs.length xs.length hi - HT.sIx xs.length 0 lo),Jk _ rfl⟩
theorem call_len_seq:CallR X (.builtin "len") (λxs H Q=> ∃p ys,xs= [.ref p]/\(SqL X.K H p ys\/SqT X.K H p ys)/\Q (.int ys.length) H):=by
 intro pins s σ H xs us Q I r h;obtain⟨p,ys,rfl,hq,q⟩:=h;obtain⟨u,rfl,rx⟩:=kZ r;cases rx
 have hn:=oF;rcases hq with hq | hq
 ·obtain⟨its,r',pl,hz⟩:=I.list hq
  have hlen:=r'.length;exact Calls.call_len_list pl.isList (by simp only[Jw] <;> omega) ⟨.int ys.length,H,I.tok _,⟨s.toks+1,by rw[Jw,hlen]⟩,q⟩
 ·obtain⟨its,r',pl,hz⟩:=I.tuple hq
  have hlen:=r'.length;exact len_tuple pl (by simp only[Jw] <;> omega) ⟨.int ys.length,H,I.tok _,⟨s.toks+1,by rw[Jw,hlen]⟩,q⟩
theorem sy:CallR X (.builtin "len") (λxs H Q=> ∃z,xs= [.str z]/\z.length<=sizeLine/\Q (.int z.length) H):=by
 intro pins s σ H xs us Q I r h;obtain⟨z,rfl,hz,q⟩:=h;obtain⟨u,rfl,t,rfl⟩:=kZ r
 have hn:=oF;exact len_str (by omega) ⟨.int z.length,H,I.tok _,⟨_,rfl⟩,q⟩
theorem CallR.or {f:Je}{r r':List V->Hp->VK->Prop}(h:CallR X f r)(h':CallR X f r'):CallR X f (λxs H Q=>r xs H Q\/r' xs H Q):=by
 intro pins s σ H xs us Q I rs q;rcases q with q | q
 ·exact h pins s σ H xs us Q I rs q
 ·exact h' pins s σ H xs us Q I rs q
theorem pV:CallR X (.type "tuple") (λxs H Q=> ∃p ys,xs= [.ref p]/\((SqL X.K H p ys/\∀l,H l=none->Q (.ref l) (upd H l (.tup ys)))\/(SqT X.K H p ys/\Q (.ref p) H))):=by
 intro pins s σ H xs us Q I r h;obtain⟨p,ys,rfl,h⟩:=h;obtain⟨u,rfl,rx⟩:=kZ r;cases rx;rcases h with⟨hq,q⟩ | ⟨hq,q⟩
 ·obtain⟨its,r',pl,hz⟩:=I.list hq
  have hlen:=r'.length;refine call_tuple_list pl.isList (λh' kp=> ?_) (by simp only[Jw] <;> omega)
  have I1:Inv X pins σ H { s with heap:=h' }:=I.kept (t':=s.toks) kp
  have I2:Inv X pins σ (upd H h'.objs.size (.tup ys)) { s with heap:=h'.push { cls:=.type "tuple",data:=.seq its.toArray } }:=
   I1.laid (t':=s.toks) (λb o e=>IY _ e) (Jq _) (show ObjOk X.prog X.w _ _ _ (.tup ys)from⟨hz,its,r',Qa _ _⟩)
  exact⟨.ref h'.objs.size,_,I2,rfl,q _ (I1.hok.fresh (Jq _))⟩
 ·obtain⟨its,r',pl,hz⟩:=I.tuple hq
  exact call_tuple_same pl ⟨.ref p,H,I,rfl,q⟩
def tyV (K:IX)(T:String)(x:V)(H:Hp):Prop:=match x with
 | .str _=>T= "str"
 | .int _=>T= "int"
 | .ref p=>(T= "list"/\∃xs,SqL K H p xs)\/(T= "tuple"/\∃o,K.lookup p=some o/\o.cls= .type "tuple"/\o.dict=none) ∨
   (T= "dict"/\((∃kvs,H p=some (.dK kvs))\/∃kvs,H p=some (.dT kvs)))\/(T= "set"/\∃S n,H p=some (.set S n))
 | _=>False
theorem yr {pins:List (Addr×Obj)}{σ:St}{H:Hp}{s:Jf}{T:String}{x:V}{v:Je}(I:Inv X pins σ H s)(r:RelV x v)(ty:tyV X.K T x H) :
  s.TypeIs v T/\∀a,v= .ref a->∃ob,s.heap.get? a=some ob/\ob.dict=none:=by
 cases x with
 | str z=>
  obtain⟨t,rfl⟩:=r;cases (show T= "str" from ty)
  exact⟨typeIs_str s z t,λ_ e=>nomatch e⟩
 | int i=>
  obtain⟨t,rfl⟩:=r;cases (show T= "int" from ty)
  exact⟨Os s i t,λ_ e=>nomatch e⟩
 | ref p=>
  cases r;rcases ty with⟨rfl,xs,hq⟩ | ⟨rfl,o,hk,hc,hd⟩ | ⟨rfl,hk⟩ | ⟨rfl,S,n,hk⟩
  ·obtain⟨its,_,pl,_⟩:=I.list hq
   refine⟨pl.isList.typeIs,λa e=> ?_⟩
   cases e;obtain⟨o,n,e,c,hd,_⟩:=pl;exact⟨o,e,hd⟩
  ·refine⟨⟨o,I.kIn p o hk,hc⟩,λa e=> ?_⟩
   cases e;exact⟨o,I.kIn _ o hk,hd⟩
  ·have z:∃o,s.heap.get? p=some o/\o.ExactDict:=by
    rcases hk with⟨kvs,hk⟩ | ⟨kvs,hk⟩
    ·obtain⟨_,_,_,_,o,_,_,e,ex,_⟩:=I.hok p _ hk
     exact⟨o,e,ex⟩
    ·obtain⟨_,_,_,_,o,_,_,e,ex,_⟩:=I.hok p _ hk
     exact⟨o,e,ex⟩
   obtain⟨o,e,ex⟩:=z;refine⟨⟨o,e,ex.1⟩,λa e2=> ?_⟩
   cases e2;exact⟨o,e,ex.2.1⟩
  ·obtain⟨o,_,_,_,e,ex,_⟩:=I.hok p _ hk
   refine⟨⟨o,e,ex.1⟩,λa e2=> ?_⟩
   cases e2
   exact⟨o,e,ex.2.1⟩
 | _=>exact LJ ty
def tBM (K:IX)(T:String)(r:V->List V->Hp->VK->Prop)(to:TE)(t:TA):TE:=λσ H Q=>to σ H λx H1=>tyV K T x H1/\t σ H1 λxs H2=>r x xs H2 Q
variable {o e:Expr}{es:List Expr}{to:TE}{t:TA}{name:Str}{apos cpos:Pos}{T id:String}{r:V->List V->Hp->VK->Prop}
theorem C3 (pa:PlainAttrs T)(slot:Slot T name id)(hty:typeOf (.builtin id)=pure (.type "method_descriptor"))(hm:MtR X id r)(ho:PE X o to)(ha:PA X (e::es) t)
  (hbase:KI o name X.env (eval o X.env)=eval o X.env:=by rfl)
  (hfew:((backTo cpos (Jz (e::es) X.env)).all (λx=> !x.1)&&(backToKw cpos (Qm [] X.env)).all (λx=>x.1.isSome)
   &&decide ((e::es).length+([]:List Qn).length+(if ([]:List Qn).isEmpty then 0 else 1)<30))=true:=by rfl)
  (hline:(apos.endLine == cpos.line)=true:=by rfl) (hs:Jz (e::es) X.env=(false,eval e X.env)::Jz es X.env:=by rfl) (hplain:(backTo cpos (Jz es X.env)).any (·.1)=false:=by rfl) :
  PE X (.Call (.Attribute o name apos) (e::es) [] cpos) (tBM X.K T r to t):=by
 intro pins s σ H Q I h;refine NT hbase hfew hline rfl (cG (ho pins s σ H _ I h) λv s1 hh_=> ?_)
 obtain⟨x,H1,I1,r1,ty,q1⟩:=hh_;obtain⟨h1,h2⟩:=yr I1 r1 ty;refine⟨T,id,pa,slot,hty,h1,h2,?_⟩
 have hA:=ha cpos pins s1 σ H1 _ I1 q1;rw[hs]at hA ⊢;refine Ml (by show(false||(backTo cpos (Jz es X.env)).any (·.1))=false;rw[hplain] <;> rfl) (LS ?_)
 exact cG hA λus s2 ⟨vs,H2,I2,r2,q2⟩=>hm pins s2 σ H2 x vs v us Q I2 r1 r2 q2
end
def MtM (X:Cx)(id:String)(r:V->List V->Hp->VK->Prop):Prop:=
 ∀(pins:List (Addr×Obj)) (s:Jf) (σ:St) (H:Hp) (x:V) (xs:List V) (v:Je) (us:List Je) (Q:VK),Inv X pins σ H s->RelV x v->Vals xs us->r x xs H Q →
  wpAny (model X.prog X.w) X.A (call (.builtin id) (v::us)) (EP X pins σ Q) X.xe s
theorem Vals.one:∀{x:V} {us:List Je},Vals [x] us->∃u,us= [u]/\RelV x u
 | _,_,.cons r .nil=>⟨_,rfl,r⟩
theorem Vals.rep {xs:List V}{us:List Je}(h:Vals xs us):∀k:Nat,Vals (JC k xs).flatten (JC k us).flatten
 | 0=> .nil
 | k+1=>by
  rw[KF,KF,Lj,Lj];exact Vals.append h (Vals.rep h k)
theorem foldl_rep (its:List Je):∀(k:Nat) (acc:List Je),
  Nq (λx1 x2=>x1++x2) acc.toArray (JC k its.toArray)=(acc++(JC k its).flatten).toArray
 | 0,acc=>by simp
 | k+1,acc=>by
  have e:acc.toArray++its.toArray=(acc++its).toArray:=by simp
  have e2:(acc++its)++(JC k its).flatten=acc++(JC (k+1) its).flatten:=by
   rw[KF,Lj,JB]
  rw[<-e2,<-foldl_rep its k (acc++its),<-e,KF,Qb]
section
variable {X:Cx}{pins:List (Addr×Obj)}{σ:St}{H:Hp}{s:Jf}{l b:Addr}{xs ys zs:List V}
theorem Inv.II {its its':List Je}{n:Nat}{f:Array Je->Array Je}{t':Nat}(I:Inv X pins σ H s)(hH:H l=some (.lst xs))
  (e:s.heap.get? l=some { cls:=.type "list",data:=.seq its.toArray n }) (hf:f its.toArray=its'.toArray) (hv:Vals ys its') (hz:ys.length<=sizeLine) :
  Inv X pins σ (upd H l (.lst ys)) { s with heap:=s.heap.update l (Obj.mapSeq f),toks:=t' }:=by
 have q:=PySem.IsL.update e f;rw[hf]at q;refine I.write (x:=l) (e:=l) (by rw[hH];exact trivial) (.inl rfl) (λb' u hb hu=>(Heap.get?_update_other s.heap (Obj.mapSeq f) (NW hb)).trans hu) ⟨_,q⟩ ?_
 exact⟨hz,its',_,hv,q⟩
theorem Inv.Iy {its:List Je}{t':Nat}(I:Inv X pins σ H s)(hv:Vals ys its)(hz:ys.length<=sizeLine) :
  Inv X pins σ (upd H s.heap.objs.size (.lst ys)) { s with heap:=s.heap.push { cls:=.type "list",data:=.seq its.toArray },toks:=t' }:=
 I.laid (λ_ _ q=>IY _ q) (Jq _) ⟨hz,its,0,hv,Jk _ rfl⟩
theorem Inv.fresh (I:Inv X pins σ H s):H s.heap.objs.size=none:=I.hok.fresh (Jq _)
theorem Inv.HW (I:Inv X pins σ H s)(hH:H l=some (.lst xs)):xs.length<=sizeLine/\∃(its:List Je) (n:Nat),Vals xs its/\xs.length=its.length/\s.heap.get? l=some { cls:=.type "list",data:=.seq its.toArray n }:=by
 obtain⟨z,its,n,r,e⟩:=I.hok l _ hH;exact⟨z,its,n,r,r.length,e⟩
theorem tY {n:Nat}(h:n<=sizeLine):Lg n=false:=by
 unfold Lg;exact decide_eq_false (by omega)
end
section
variable {X:Cx}
def Bs:V->List V->Hp->VK->Prop:=λx vs H Q=> ∃l xs y,x= .ref l/\vs= [y]/\H l=some (.lst xs)/\xs.length<sizeLine/\Q .non (upd H l (.lst (xs++ [y])))
theorem qc:MtM X "list.append" Bs:=by
 intro pins s σ H x vs v us Q I rx rv h;obtain⟨l,xs,y,rfl,rfl,hH,hz,q⟩:=h;cases rx;obtain⟨u,rfl,ru⟩:=rv.one;obtain⟨z,its,n,r,hl,e⟩:=I.HW hH;refine MP F.slot_list_append ⟨_,e,rfl⟩ F.entry_list_append (F.args_list_append_2 _ _) (PySem.list_append l its.toArray n u (by rw[Jw];omega)) ⟨e,?_⟩
 refine⟨.non,_,I.II (its':=its++ [u]) hH e (by simp) (r.append (.cons ru .nil)) ?_,rfl,q⟩
 rw[Jj,KN];omega
def Br:V->List V->Hp->VK->Prop:=λx vs H Q=> ∃l b xs zs,x= .ref l/\vs= [.ref b]/\H l=some (.lst xs)/\H b=some (.lst zs)/\xs.length+zs.length<=sizeLine/\Q .non (upd H l (.lst (xs++zs)))
theorem xA:MtM X "list.extend" Br:=by
 intro pins s σ H x vs v us Q I rx rv h;obtain⟨l,b,xs,zs,rfl,rfl,hH,hB,hz,q⟩:=h;cases rx;obtain⟨u,rfl,ru⟩:=rv.one;cases ru;obtain⟨z,its,n,r,hl,e⟩:=I.HW hH;obtain⟨z2,its2,n2,r2,hl2,e2⟩:=I.HW hB
 have hsz:its.toArray.size+its2.toArray.size<=sizeLine:=by rw[Jw,Jw];omega
 have hlong:¬ (!its.toArray.isEmpty&&Lg (its.toArray.size+its2.toArray.size))=true:=by
  rw[tY hsz,Bool.and_false];exact Jy
 refine MP F.slot_list_extend ⟨_,e,rfl⟩ F.entry_list_extend (F.args_list_extend_2 _ _)
  (AutoSeq1.list_extend_list_list_0 l its.toArray n b its2.toArray n2 hlong (by rw[Jw];omega) (by omega)) ⟨e,e2,?_⟩
 refine⟨.non,_,I.II (its':=its++its2) hH e (by simp) (r.append r2) ?_,rfl,q⟩
 rw[Jj];omega
def rCat:R2:=λx y H Q=> ∃l b xs zs,x= .ref l/\y= .ref b/\H l=some (.lst xs)/\H b=some (.lst zs)/\xs.length+zs.length<=sizeLine/\∀p,H p=none->Q (.ref p) (upd H p (.lst (xs++zs)))
theorem EB:qH X (KR .Add) rCat:=by
 intro pins s σ H x y v u Q I rx ry h;obtain⟨l,b,xs,zs,rfl,rfl,hH,hB,hz,q⟩:=h;cases rx;cases ry;obtain⟨z,its,n,r,hl,e⟩:=I.HW hH;obtain⟨z2,its2,n2,r2,hl2,e2⟩:=I.HW hB;refine PySem.P.add_list e e2 ?_ (by rw[Jw,Jw];omega)
 have ea:its.toArray++its2.toArray=(its++its2).toArray:=by simp
 rw[ea];exact⟨.ref _,_,I.Iy (t':=s.toks) (r.append r2) (by rw[Jj];omega),rfl,q _ I.fresh⟩
def rRep:R2:=λx y H Q=> ∃l k xs,x= .ref l/\y= .int k/\H l=some (.lst xs)/\-(2 ^ 63)<=k/\k<2 ^ 63/\xs.length*k.toNat<=sizeLine ∧
 ∀p,H p=none->Q (.ref p) (upd H p (.lst (JC k.toNat xs).flatten))
theorem len_rep {α:Type}(xs:List α)(k:Nat):(JC k xs).flatten.length=k*xs.length:=by
 induction k with
 | zero=>simp
 | succ k ih=>rw[KF,Lj,Jj,ih,Nat.succ_mul,NY]
theorem Ew:qH X (KR .Mult) rRep:=by
 intro pins s σ H x y v u Q I rx ry h;obtain⟨l,k,xs,rfl,rfl,hH,h1,h2,hz,q⟩:=h;cases rx;obtain⟨t,rfl⟩:=ry;obtain⟨z,its,n,r,hl,e⟩:=I.HW hH
 have hlen:its.toArray.size*k.toNat<=sizeLine:=by rw[Jw,<-hl];exact hz
 have hcap:¬ its.toArray.size*k.toNat > (2 ^ 63 - 1) / 8:=by
  have:(sizeLine:Nat)<=(2 ^ 63 - 1) / 8:=by decide
  omega
 have hfit:¬ (!Builtin.List.listFitsIndex k)=true:=by
  rw[fitsIndex_both h1 h2];exact Jy
 have hlong:¬ Lg (its.toArray.size*k.toNat)=true:=by
  rw[tY hlen];exact Jy
 have hnew:Nq (λx1 x2=>x1++x2) #[] (JC (if its.toArray.isEmpty=true then 0 else k.toNat) its.toArray)=(JC k.toNat its).flatten.toArray:=by
  have f0:∀m:Nat,Nq (λx1 x2=>x1++x2) #[] (JC m its.toArray)=(JC m its).flatten.toArray:=λm=>by
   have:=foldl_rep its m [];rw[Ko]at this;exact this
  rw[f0]
  cases its with
  | nil=>simp
  | cons a r'=>rw[if_neg (by simp)]
 refine Nh (T:="list") (U:="int") (by decide) ⟨_,e,rfl⟩ (λs'=>Os s' k t) noFill_list_mul Qc MU repeat_list PM.lookup
  (MP MU (Os s k t) PN (Pk _ _) (int___rmul___int_list k t l its.toArray n)
   ⟨e,rfl,⟨_,e,rfl⟩,MP F.slot_list_mul ⟨_,e,rfl⟩ F.entry_list_mul (F.args_list_mul_2 _ _) (OQ l its.toArray n k t hfit hcap hlong) ⟨e,?_⟩⟩)
 rw[hnew];exact⟨.ref _,_,I.Iy (t':=s.toks) (r.rep k.toNat) (by rw[len_rep,Py];exact hz),rfl,q _ I.fresh⟩
end
end L2
namespace Att
open PySem PySem.W PySem.Calls PyProof.Rows
theorem m5 {P:Params}{h:Heap}:∀(ns:List Int) (vs:List Je),WellAll P h vs (ns.map WData.int)->MK vs ns:=by
 intro ns
 induction ns with
 | nil=>
  intro vs w;rw[L5]at w;cases w
  exact .nil
 | cons n ns ih=>
  intro vs w;rw[Jb]at w
  cases w with
  | cons a b=>
   cases a;exact .cons _ _ (ih _ b)
theorem xg {l:OpenLaw}{n:Nat}(hn:l.most=some n){P:Params}{h:Heap}{args:List WData}{vals:List Je}
  (hpre:l.row.toRowW.claim.pre args=true) (hwl:WellAll P h vals args) :
  ∃a vs ns,vals= [JF a]/\args= [WData.list (ns.map WData.int)]/\h.get? a=some { cls:=.type "list",data:=.seq vs.toArray }/\MK vs ns/\ns.length<=n:=by
 have hsh:WShape.hasAll [] args [.list .int] =true:=(pre_splitW hpre).1
 have hc:l.pre.holds [] { args:=args }=true:=(pre_splitW hpre).2;obtain⟨d,r,rfl,h1,h2⟩:=hasAllW_cons hsh;obtain rfl:=hasAllW_nil h2;obtain⟨xs,rfl,h3⟩:=hasW_list h1;obtain⟨ns,rfl⟩:=items_int h3
 have hlen:ns.length<=n:=by
  unfold OpenLaw.pre at hc
  have h4:(WTm.not (.lt (.lit (.int (n:Int))) (.len (.arg 0)))).holds [] { args:=[.list (ns.map .int)] }=true:=by
   have h4:=(holds_andW hc).1;rw[hn]at h4;exact h4
  have h5:=condW_of h4 (w_not (w_lt w_lit (w_len_list (w_arg rfl))));rw[Jd]at h5;refine Nat.le_of_not_lt λq=> ?_
  have q':(n:Int)<((ns.length:Nat):Int):=by omega
  first
   | (rw[decide_eq_true q']at h5;exact absurd h5 (by decide))
   | (simp at h5;omega)
 cases hwl with
 | cons w1 w2=>
  cases w2
  cases w1 with
  | list ho hall=>exact⟨_,_,ns,rfl,rfl,ho,m5 ns _ hall,hlen⟩
theorem xk (l:OpenLaw)(args:List WData):l.row.toRowW.claim.post args (.bool true) args=true:=
 postW_of (r:=l.row.toRowW) (X:=(true == true))
  (show WShape.has [] (.bool true) .bool=true by first | rfl | decide | simp[WShape.has,WShape.arms,WShape.armsAll])
  (show(WTm.eq .res (.lit (.bool true))).value [] { args:=args,res:=some (.bool true),after:=args }=some (.bool (true == true))from w_eq_bool (w_res rfl) w_lit) rfl
theorem attach_call {l:OpenLaw}{n:Nat}{q:JI}{loose:List Str}{XP:(Str->Option Je)->Heap->Prop}{YP:Kr->Heap->Prop}{d:DefRec}
  (hn:l.most=some n) (hdf:d.params.defaults= [])
  (call:∀(w:Kr) (s₀ s₁:Jf) (mg mb:Str->Option Je) (fa:Addr) (o:Obj) (pm cd doc:Je) (a:Addr) (vs:List Je) (ns:List Int),
   Ground q loose [] XP w s₀ mg mb s₁.heap->YP w s₁.heap →
   s₁.heap.get? fa=some o->o.data= .func (docDef d.name d.params d.body d.scope pm cd doc)->s₁.heap.CodeRec cd d.name->mg d.name=some (.ref fa) →
   s₁.heap.get? a=some { cls:=.type "list",data:=.seq vs.toArray }->MK vs ns->ns.length<=n->s₁.gens= #[] →
   codeAny (model l.prog w) callerA (.call (.ref fa) ⟨[.ref a],[]⟩) (λr s'=>r= .ok (.ret (.bool true))/\OldK s₁.heap s'.heap/\s'.os=s₁.os/\NG s'.gens) s₁) :
  WalkO q loose XP YP l.row.toRowW d [] (λf vs=>PySem.call f vs):=by
 intro w s₀ s₁ mg mb G Y fa o pm cd doc dV kV ho hd hcd hD hmg hg args vals as hpre hlay hrd hwl hlo;obtain rfl:dV= .none:=Dflts.none hD hdf;obtain rfl:kV= .none:=Dflts.noKw hD;obtain⟨a,vs,ns,rfl,rfl,hobj,hints,hlen⟩:=xg hn hpre hwl;refine enter_call (Og (call w s₀ s₁ mg mb fa o pm cd doc a vs ns G Y ho (fd_plain hd) hcd hmg hobj hints hlen hg) λr s' hq=> ?_)
 obtain⟨rfl,h2,h3,h4⟩:=hq;exact⟨.inl ⟨.bool true,.bool true,[],rfl,λ_=>rfl,.bool true,xk l _,λ_=>⟨List.Pairwise.nil,λ_ hm=>(nomatch hm)⟩⟩,h2,h3,h4⟩
end Att
namespace L2
open PySem PySem.Spec PyProof.Rows
theorem pW:∀{vs:List Je} {ns:List Int},MK vs ns->Vals (ns.map V.int) vs
 | _,_,.nil=> .nil
 | _,_,.cons n t h=> .cons ⟨t,rfl⟩ (pW h)
def Fy (H:Hp):Prop:=∀b,H b=none\/∃o xs,H b=some (.frz o (.lst xs))
theorem zQ {P:JI}{w:Kr}{K:IX}{mg mb:Str->Option Je}{CX:A1}{k:Nat}{fa a:Addr}{fd:KS}{x:Str}{sp:Sp}{s₁:Jf}{vs:List Je}{ns:List Int}
  (KX:K.In s₁.heap) (hns:s₁.heap.Ns J7 mg) (hb:s₁.heap.Ns Oq mb) (hbb:∀x:Str,x≠ "__name__"->mb x=JT x) (hlim:s₁.heap.NoLimit) (hg:s₁.gens= #[])
  (ha:s₁.heap.get? a=some { cls:=.type "list",data:=.seq vs.toArray }) (hi:MK vs ns) (hl:ns.length<=sizeLine) (hr:Room k callerA)
  (F:∀base:Heap,K.In base->base.Ns J7 mg->sG P w K mg base CX k fa fd [x] sp) (hbind:∀(s:Jf) (u:Je),Pu s fd ⟨[u],[]⟩ [(x,u)])
  (hsp:∀H:Hp,Fy H->SqL K H a (ns.map V.int)->sp [.ref a] H (λv _=>v= .bl true) λ_ _ _=>False)
  (hCX:∀H e s',CX [] H s₁ (λ_ _ _=>False) e s'->False) :
  codeAny (model P w) callerA (.call (.ref fa) ⟨[.ref a],[]⟩) (λr s'=>r= .ok (.ret (.bool true))/\OldK s₁.heap s'.heap/\s'.os=s₁.os/\NG s'.gens) s₁:=by
 have rv:=pW hi
 have lenV:=hi.length
 -- from an abstract heap in which nothing but the script may be tracked
 have core:∀H:Hp,Fy H->SqL K H a (ns.map V.int)->HOk P w H s₁.heap->(∀b,H b≠none->b=a)->(H a≠none->K.lookup a=none) →
   codeAny (model P w) callerA (.call (.ref fa) ⟨[.ref a],[]⟩) (λr s'=>r= .ok (.ret (.bool true))/\OldK s₁.heap s'.heap/\s'.os=s₁.os/\NG s'.gens) s₁:=by
  intro H hO hS hok hA hK
  have base_of:∀{b:Addr} {o:Obj},s₁.heap.get? b=some o->H b=none->(r9 s₁.heap H).get? b=some o:=λe n=>Ai e n
  have noA:∀{b:Addr} {o:Obj} {es:Array MC} {ep:Nat},s₁.heap.get? b=some o->o.data= .dict es ep->H b=none:=λ{b o es ep} e d=>by
   cases q:H b with
   | none=>rfl
   | some u=>
    have e':b=a:=hA b (by rw[q];simp)
    subst e';rw[ha]at e;cases e
    have d':Data.seq vs.toArray _=Data.dict es ep:=d;cases d'
  have nsK:∀{b:Addr} {m:Str->Option Je},s₁.heap.Ns b m->(r9 s₁.heap H).Ns b m:=λ{b m} ⟨o,es,ep,e,d,r⟩=>⟨o,es,ep,base_of e (noA e d),d,r⟩
  have hKb:K.In (r9 s₁.heap H):=λb o e=>base_of (KX b o e) (by
   cases q:H b with
   | none=>rfl
   | some u=>
    have e':b=a:=hA b (by rw[q];simp)
    subst e';rw[hK (by rw[q];simp)]at e;cases e)
  have hM:Mod K mg (r9 s₁.heap H):=⟨hKb,nsK hns,⟨mb,nsK hb,hbb⟩,let ⟨mc,h1,h2⟩:=hlim;⟨mc,nsK h1,h2⟩⟩
  have e0:AX P w K mg (r9 s₁.heap H) callerA [] s₁ H:=⟨rfl,hM,λb o e=>B2 e,LD (xN _ _),trivial,λb hb=>absurd (show b∈([]:List Addr)from hb) (by simp),hok,.of_eq hg⟩
  refine Og ((F _ hKb (nsK hns)).run callerA [] s₁ H ⟨[.ref a],[]⟩ [.ref a] [.ref a] _ _ hr e0 (hbind s₁ (.ref a)) (.cons rfl .nil) (hsp H hO hS)) λr s' h=> ?_
  cases r with
  | error e=>exact(hCX H e s' h).elim
  | ok fl=>
   cases fl with
   | next=>exact LJ h
   | brk=>exact LJ h
   | cont=>exact LJ h
   | ret u=>
    obtain⟨v,H',os,bare,un,hok',r',q⟩:=h
    have q':v= .bl true:=q;subst q';obtain rfl:u=Ku true:=r';refine⟨rfl,OldK.of_keep λb o e=> ?_,os,bare⟩
    cases q:H b with
    | none=>exact un.keep b o e q (by intro z;exact absurd (show b∈([]:List Addr)from z) (by simp)) (by simp)
    | some u=>
     rcases hO b with z | ⟨ob,xs,z⟩
     ·rw[q]at z;cases z
     ·have z2:=un.frzs b ob _ z
      obtain⟨e1,_⟩:=hok b _ z;obtain⟨e2,_⟩:=hok' b _ z2;rw[e]at e1;cases e1;exact e2
 cases hk:K.lookup a with
 | some o=>
  -- the script is one of the module's own objects
  have e:=KX a o hk;rw[ha]at e;cases e
  refine core (λ_=>none) (λ_=> .inl rfl) (.inr ⟨_,vs.toArray,_,hk,rfl,rfl,rfl,by rw[Jw,lenV];exact hl,by simpa using rv⟩) (λb u z=>by have z':(none:Option HO)=some u:=z;cases z') (λb z=>absurd rfl z) λz=>absurd rfl z
 | none=>
  refine core (λb=>if b=a then some (.frz { cls:=.type "list",data:=.seq vs.toArray } (.lst (ns.map V.int)))else none) (λb=> ?_) (.inl (.inr ⟨{ cls:=.type "list",data:=.seq vs.toArray },if_pos rfl⟩)) (λb u z=> ?_) (λb z=> ?_) λ_=>hk
  ·by_cases hb:b=a
   ·exact .inr ⟨_,_,if_pos hb⟩
   ·exact .inl (if_neg hb)
  ·by_cases hb:b=a
   ·have z':=(if_pos hb).symm.trans z
    cases z';subst hb;exact⟨ha,by rw[Jd];exact hl,vs,_,rv,ha⟩
   ·have z':=(if_neg hb).symm.trans z
    cases z'
  ·by_cases hb:b=a
   ·exact hb
   ·exact absurd (if_neg hb) z
def iW (s:Stmt):Ql:=match s with
 | .FunctionDef _ a _ _ _ _ _ _ _ _=>a
 | _=> { posonlyargs:=[],args:=[],vararg:=none,kwonlyargs:=[],kw_defaults:=[],kwarg:=none,defaults:=[] }
def dX (s:Stmt):List Stmt:=match s with
 | .FunctionDef _ _ b _ _ _ _ _ _ _=>b
 | _=> []
def ak (s:Stmt):Mi:=match s with
 | .FunctionDef _ _ _ _ _ _ sc _ _ _=>sc
 | _=> { kind:=.function,names:=[],isGenerator:=false,isCoroutine:=false }
abbrev CX0:A1:=λ_ _ _ _ _ _=>False
abbrev E0:XK:=λ_ _ _=>False
theorem C4 {X:Cx}:vL CX0 X E0:=λ_ _ _ _ _ _ _ h=>h.elim
structure Fun (K:IX)(x qual:Str)(st:Stmt)(f:Addr)(fd:KS):Prop where
 ex:∃(oc:Je) (od:Option Addr) (kV doc pm:Je) (an:Option Addr) (cdv ct:Je) (osl:Array (Option Je)),
  fd=Mu x qual (iW st) (dX st) (ak st) .none kV doc pm an cdv ct/\K.lookup f=some ⟨oc,od,.func fd,osl⟩/\OB K cdv qual=true
 kp:Mt K (.ref f)=true
section
variable {P:JI}{w:Kr}{K:IX}{mg:Str->Option Je}{base:Heap}
theorem Fun.ok {x qual:Str}{st:Stmt}{f:Addr}{fd:KS}{N ps:List Str}{k:Nat}{sp:Sp}(F:Fun K x qual st f fd)(S:ay N ps (ak st))(len:∀vs H Q E,sp vs H Q E->vs.length=ps.length)
  (hbody:∀(cdv:Je) (A:J9) (outer:List Env) (s:Jf) (H:Hp) (vs:List V) (Q:VK) (E:XK),Room k (A.deeper (envOfC qual (ak st) s.heap.objs.size f cdv))->sp vs H Q E →
   ∃t,PSs (mj CX0 P w K mg base N qual (ak st) f cdv A outer s H E).nox (dX st) t/\t { nx:=λ_ H'=>Q .non H',rt:=Q } (start N vs) H):sG P w K mg base CX0 (k+1) f fd ps sp:=by
 obtain⟨oc,od,kV,doc,pm,an,cdv,ct,osl,rfl,lk,hcd⟩:=F.ex;refine GX lk hcd S len λA outer s H vs Q E hr hsp=> ?_
 obtain⟨t,h,q⟩:=hbody cdv A outer s H vs Q E hr hsp;exact⟨t,h.nox,q⟩
theorem Fun.binds {x qual:Str}{st:Stmt}{f:Addr}{fd:KS}{ps:List Str}(F:Fun K x qual st f fd)
  (h:∀(kV doc pm:Je) (an:Option Addr) (cdv ct:Je) (us:List Je),us.length=ps.length->bindArgs (Mu x qual (iW st) (dX st) (ak st) .none kV doc pm an cdv ct) ⟨us,[]⟩=pure (ps.zip us)):Binds K fd ps []:=by
 obtain⟨oc,od,kV,doc,pm,an,cdv,ct,osl,rfl,lk,hcd⟩:=F.ex;exact .all (h kV doc pm an cdv ct)
theorem Fc {x qual:Str}{st:Stmt}{f:Addr}{oc:Je}{od an:Option Addr}{osl:Array (Option Je)}{kV doc pm cdv ct:Je}(l:K.lookup f=some ⟨oc,od,.func (Mu x qual (iW st) (dX st) (ak st) .none kV doc pm an cdv ct),osl⟩)
  (c:OB K cdv qual=true) (k:Mt K (.ref f)=true):Fun K x qual st f (Mu x qual (iW st) (dX st) (ak st) .none kV doc pm an cdv ct):=⟨⟨oc,od,kV,doc,pm,an,cdv,ct,osl,rfl,l,c⟩,k⟩
end
section
variable {X:Cx}
theorem pv (i:Nat){x:Str}{pos:Pos}(hN:X.N[i]? =some x:=by rfl)(hv:uN X.env.scope x:=by first | exact Kz rfl | exact Ki (Kz rfl) | exact Ki (Ki rfl))(hd:(x == ("__debug__" : Str))=false:=by decide)
  (hcd:(x == ("__classdict__" : Str))=false:=by decide):PE X (.Name x pos) (sU i):=kG hN hv hd hcd
end
theorem iteF {A B:Prop}(h:B):if false=true then A else B:=by
 rw[if_neg Jy];exact h
theorem iteT {A B:Prop}(h:A):if true=true then A else B:=by
 rw[if_pos rfl];exact h
def Same (H H':Hp):Prop:=∀b o,H b=some o->H' b=some o
theorem Same.refl (H:Hp):Same H H:=λ_ _ h=>h
theorem Same.trans {H H1 H2:Hp}(a:Same H H1)(b:Same H1 H2):Same H H2:=λc o h=>b c o (a c o h)
theorem kQ {env:Env}:∀(names:List (Str×LO)) (acc:List (Str×Addr)),
  (∀x,(x,JZ)∈names->∃c,env.cells.lookup x=some c) →
  (∀x c,acc.lookup x=some c->env.cells.lookup x=some c) →
  ∃cl,(forIn (m:=Sem) names acc (λx cs=>(if (x.2 == JZ)=true then do let a <-cellOf env x.1;pure (LF ((x.1,a)::cs))else pure (LF cs))))=pure cl ∧
   (∀x c,cl.lookup x=some c->env.cells.lookup x=some c) ∧
   (∀x,(x,JZ)∈names->∃c,cl.lookup x=some c)/\(∀x c,acc.lookup x=some c->∃c',cl.lookup x=some c')
 | [],acc,_,h=>⟨acc,rfl,h,λx hx=>by simp at hx,λx c e=>⟨c,e⟩⟩
 | (n,k)::r,acc,hf,h=>by
  by_cases hk:k=JZ
  ·subst hk
   obtain⟨c,hc⟩:=hf n (by simp)
   have h':∀x c',((n,c)::acc).lookup x=some c'->env.cells.lookup x=some c':=λx c' e=>by
    rw[Kq]at e
    cases q:x == n with
    | true=>
     rw[q]at e
     have e2:c=c':=JU e
     have e3:x=n:=by simpa using q
     rw[<-e2,e3];exact hc
    | false=>rw[q]at e;exact h x c' e
   obtain⟨cl,e1,e2,e3,e4⟩:=kQ r ((n,c)::acc) (λx hx=>hf x (IZ _ hx)) h'
   refine⟨cl,?_,e2,λx hx=> ?_,λx c' e=> ?_⟩
   ·rw[Lk]
    simp only[beq_self_eq_true,if_true,cellOf,hc,pure_bind];exact e1
   ·rcases Jh.mp hx with z | z
    ·have z1:x=n:=by injection z
     subst z1;exact e4 x c (by simp[Kq])
    ·exact e3 x z
   ·cases q:x == n with
    | true=>exact e4 x c (by simp[Kq,q])
    | false=>exact e4 x c' (by simp[Kq,q,e])
  ·have hb:(k == JZ)=false:=by simpa using hk
   obtain⟨cl,e1,e2,e3,e4⟩:=kQ r acc (λx hx=>hf x (IZ _ hx)) h
   refine⟨cl,?_,e2,λx hx=> ?_,e4⟩
   ·rw[Lk]
    simp only[hb,KQ,if_false,pure_bind];exact e1
   ·rcases Jh.mp hx with z | z
    ·have z1:JZ=k:=by injection z
     exact absurd z1.symm hk
    ·exact e3 x z
theorem vH {env:Env}{scope:Mi}(hf:∀x,(x,JZ)∈scope.names->∃c,env.cells.lookup x=some c) :
  ∃cl,closureFor scope env=pure cl/\(∀x c,cl.lookup x=some c->env.cells.lookup x=some c)/\(∀x,(x,JZ)∈scope.names->∃c,cl.lookup x=some c):=by
 obtain⟨cl,e1,e2,e3,_⟩:=kQ scope.names [] hf (λx c e=>by simp at e)
 refine⟨cl,?_,e2,e3⟩
 unfold closureFor;refine Eq.trans ?_ (congrArg (λz=>z >>= pure) e1|>.trans (by simp))
 rfl
theorem sr {pr:JI}{wd:Kr}{Ar:J9}{Rz:Qr->Jf->Prop}{s0:Jf}{el tg it0:Expr}{cs:List Expr}{sc:Mi}{ps:Pos}{itv av:Je}{ev:Env}(W:Nat->Jf->Prop)
  (go:∀k st,W k st->wpAny (model pr wd) Ar (pyNext itv) (λr s1=>match r with
   | none=>Rz (.ok .next) s1
   | some v=>wpAny (model pr wd) Ar (Mg tg itv v) (λ_ s2=>wpAny (model pr wd) Ar (assign tg ev v) (λ_ s3=>
     wpAny (model pr wd) Ar (forIn cs true λc b=>if b=true then do let z <-isTrue c ev (eval c ev);pure (LF z)else pure (LF b)) (λz s4=>
      if z=true then wpAny (model pr wd) Ar (eval el ev) (λy s5=>
       wpAny (model pr wd) Ar (call (.builtin "list.append") [av,y]) (λ_ s6=> ∃m,m<k/\W m s6) (λ_ _=>False) s5) (λ_ _=>False) s4
      else ∃m,m<k/\W m s4) (λ_ _=>False) s3) (λ_ _=>False) s2) (λ_ _=>False) s1) (λ_ _=>False) st)
  (k:Nat) (hk:W k s0):codeAny (model pr wd) Ar (.compLoop (.ListComp el [⟨tg,it0,cs,0⟩] sc ps) 0 itv av ev) Rz s0:=by
 refine codeAny_loop rfl W (λk st hw=> ?_) k hk
 show wpAny (model pr wd) Ar ((compTurn (.ListComp el [⟨tg,it0,cs,0⟩] sc ps) 0 itv av ev).onRaise (λz=>do noteFrame z ev;theTreesLotGoes z)) _ _ st
 refine wpAny_noted ?_
 rw[compTurn_list]
 have no:∀{α:Type} {t:Sem α} {Q Q':α->Jf->Prop} {E':Je->Jf->Prop} {x:Jf},wpAny (model pr wd) Ar t Q (λ_ _=>False) x->(∀y z,Q y z->Q' y z)->wpAny (model pr wd) Ar t Q' E' x:=λh f=>Ln h f λ_ _ z=>z.elim
 refine IW (wpAny_standAt (IW (no (go k st hw) λr s1 g1=> ?_)))
 cases r with
 | none=>exact Jg g1
 | some v=>
  refine IW (no g1 λ_ s2 g2=>IW (no g2 λ_ s3 g3=>IW (no g3 λz s4 g4=> ?_)))
  cases z with
  | false=>exact Jg (And.intro rfl g4)
  | true=>exact IW (IW (no g4 λy s5 g5=>IW (no g5 λ_ s6 g6=>Jg (Jg (And.intro rfl g6)))))
def bJ (X:Cx)(scope:Mi)(cl:List (Str×Addr))(N':List Str)(C:Addr)(s₀:Jf)(H₀:Hp)(fp:List Addr):Cx:=
 { X with N:=N',s₀:=s₀,H₀:=H₀,env:=compEnvC scope cl C X.env,outer:=X.stack,stack:=X.stack,ex:=fp,fn:=λx=>scope.names.lookup x == some .cell,xe:=λ_ _=>False }
def gA (src:List (Option Nat))(σ:St):St:=src.map λo=>match o with
 | some i=>(σ[i]?).join
 | none=>none
theorem jB {env:Env}:∀{names:List (Str×LO)} {x:Str} {k:LO},
  (names.map λ(n,k)=>if (k == JZ&&env.scope.kind == .function&&env.kindOf n == some .cell)then(n,KA)else(n,k)).lookup x=some k →
  ∃k',names.lookup x=some k'/\(k=k'\/k'= .free)
 | [],_,_,h=>by simp at h
 | (n,k0)::r,x,k,h=>by
  have ih:=@jB env r x k
  have h':L1 x ((if (k0 == JZ&&env.scope.kind == .function&&env.kindOf n == some .cell)=true then(n,KA)else(n,k0))::(r.map λ(n,k)=>if (k == JZ&&env.scope.kind == .function&&env.kindOf n == some .cell)then(n,KA)else(n,k)))=some k:=h
  by_cases hc:(k0 == JZ&&env.scope.kind == .function&&env.kindOf n == some .cell)=true
  ·rw[if_pos hc]at h'
   rw[Kq]at h' ⊢
   cases hx:x == n with
   | true=>
    refine⟨k0,rfl,.inr ?_⟩
    have:=KY.mp hc|>.1
    have:=KY.mp this|>.1
    simpa using this
   | false=>rw[hx]at h';exact ih h'
  ·rw[if_neg hc]at h'
   rw[Kq]at h' ⊢
   cases hx:x == n with
   | true=>rw[hx]at h';exact⟨k0,rfl,.inl (JU h').symm⟩
   | false=>rw[hx]at h';exact ih h'
theorem jV {names:List (Str×LO)}{x:Str}{k:LO}(h:names.lookup x=some k):(x,k)∈names:=K3 h
theorem i9 {env:Env}:∀{names:List (Str×LO)} {x:Str},names.lookup x=some .free →
  (names.map λ(n,k)=>if (k == JZ&&env.scope.kind == .function&&env.kindOf n == some .cell)then(n,KA)else(n,k)).lookup x=some .cell ∨
  (names.map λ(n,k)=>if (k == JZ&&env.scope.kind == .function&&env.kindOf n == some .cell)then(n,KA)else(n,k)).lookup x=some .free
 | [],_,h=>by simp at h
 | (n,k0)::r,x,h=>by
  have ih:=@i9 env r x
  show L1 x ((if (k0 == JZ&&env.scope.kind == .function&&env.kindOf n == some .cell)=true then(n,KA)else(n,k0))::_)=_\/L1 x ((if (k0 == JZ&&env.scope.kind == .function&&env.kindOf n == some .cell)=true then(n,KA)else(n,k0))::_)=_
  rw[Kq]at h
  by_cases hc:(k0 == JZ&&env.scope.kind == .function&&env.kindOf n == some .cell)=true
  ·rw[if_pos hc]
   rw[Kq]
   cases hx:x == n with
   | true=>exact .inl rfl
   | false=>rw[hx]at h;exact ih h
  ·rw[if_neg hc]
   rw[Kq]
   cases hx:x == n with
   | true=>rw[hx]at h;exact .inr h
   | false=>rw[hx]at h;exact ih h
section
variable {X:Cx}
structure LcScope (X:Cx)(scope:Mi)(N':List Str)(src:List (Option Nat)):Prop where
 kind:scope.kind= .function
 cel:∀y∈scope.names,y.2= .cell->scope.names.lookup y.1=some .cell
 loc:∀y∈scope.names,y.2= .local->scope.names.lookup y.1=some .local
 len:src.length=N'.length
 from_:∀(j i:Nat) (x:Str),src[j]? =some (some i)->N'[j]? =some x->X.N[i]? =some x/\scope.names.lookup x=some .free
 free:∀x,(x,JZ)∈scope.names->X.env.kindOf x=some .cell\/X.env.kindOf x=some .free
def Dr (K:IX)(wi:TI)(src:List (Option Nat))(g:TG)(tc:TT)(te:TE):TE:=λσ H Q=>wi σ H λJ H1=> ∀D,H1 D=none->K.lookup D=none →
 ∃W:Nat->Nat->St->List V->Hp->Prop,(∃m,W 0 m (gA src σ) [] (upd H1 D (.lst [])))/\∀i m σ ys H,W i m σ ys H->H D=some (.lst ys) ∧
  ((J.stop i H/\Q (.ref D) H)\/(J.go i H/\ys.length<sizeLine/\∀x H',J.yld i H x H'->g x σ H' λσ2 H2=>tc σ2 H2 λb H3=>
   if b=true then te σ2 H3 λv H4=>H4 D=some (.lst ys)/\∃m',m'<m/\W (i+1) m' σ2 (ys++ [v]) (upd H4 D (.lst (ys++ [v])))else ∃m',m'<m/\W (i+1) m' σ2 ys H3))
def wW (X:Cx)(ifs:List Expr)(t:TT):Prop:=
 ∀(pins:List (Addr×Obj)) (s:Jf) (σ:St) (H:Hp) (Q:Bool->Hp->Prop),Inv X pins σ H s->t σ H Q →
  wpAny (model X.prog X.w) X.A (forIn ifs true λc r=>if r=true then do let ok <-isTrue c X.env (eval c X.env);pure (LF ok)else pure (LF r)) (TP X pins σ Q) X.xe s
def sV:TT:=λ_ H Q=>Q true H
theorem rn:wW X [] sV:=λ_ _ _ H _ I h=>wpAny_tests_nil ⟨H,I,h⟩
theorem BQ {c:Expr}{t:TT}(h:PT X c t):wW X [c] t:=λpins s σ H Q I q=>wpAny_tests_one (h pins s σ H Q I q)
theorem ml:∀(names:List (Str×LO)) (h:Heap) (acc:List (Str×Addr)),(∀x y c,acc.lookup x=some c->acc.lookup y=some c->x=y)->(∀x c,acc.lookup x=some c->c<h.objs.size) →
  (∀x c,(Lz h.objs.size names acc).lookup x=some c->acc.lookup x=some c\/(h.objs.size<=c/\(Oi h names).IsCell c none)) ∧
  (∀x y c,(Lz h.objs.size names acc).lookup x=some c->(Lz h.objs.size names acc).lookup y=some c->x=y) ∧
  (∀x,(x,KA)∉names->(Lz h.objs.size names acc).lookup x=acc.lookup x) ∧
  (∀x,((x,KA)∈names\/∃c,acc.lookup x=some c)->∃c,(Lz h.objs.size names acc).lookup x=some c) ∧
  (∀x c,(x,KA)∈names->(Lz h.objs.size names acc).lookup x=some c->h.objs.size<=c)
 | [],h,acc,hi,_=>⟨λ_ _ e=> .inl e,hi,λ_ _=>rfl,λx e=>e.elim (λz=>absurd z J1) id,λ_ _ z=>absurd z J1⟩
 | (n,k)::r,h,acc,hi,hl=>by
  unfold Lz Oi
  by_cases hk:k= .cell
  ·subst hk
   rw[if_pos (by rfl),if_pos (by rfl)]
   have hz:(h.push { cls:=.type "cell",data:=.cell none }).objs.size=h.objs.size+1:=J6 ..
   have lk:∀x,((n,h.objs.size)::acc).lookup x=if x=n then some h.objs.size else acc.lookup x:=λx=>by
    rw[Kq]
    by_cases e:x=n
    ·rw[if_pos e,beq_iff_eq.mpr e]
    ·rw[if_neg e,beq_eq_false_iff_ne.mpr e]
   obtain⟨c1,c2,c3,c4,c5⟩:=ml r (h.push { cls:=.type "cell",data:=.cell none }) ((n,h.objs.size)::acc) (λx y c e1 e2=>by
     rw[lk]at e1 e2
     by_cases q1:x=n
     ·by_cases q2:y=n
      ·rw[q1,q2]
      ·rw[if_pos q1]at e1;rw[if_neg q2]at e2
       cases e1;exact absurd (hl _ _ e2) (JK _)
     ·rw[if_neg q1]at e1
      by_cases q2:y=n
      ·rw[if_pos q2]at e2
       cases e2;exact absurd (hl _ _ e1) (JK _)
      ·rw[if_neg q2]at e2;exact hi x y c e1 e2) (λx c e=>by
     rw[lk]at e;rw[hz]
     by_cases q:x=n
     ·rw[if_pos q]at e;cases e;exact PP _
     ·rw[if_neg q]at e;exact Pl (hl x c e))
   rw[hz]at c1 c2 c3 c4 c5;refine⟨λx c e=> ?_,c2,λx hx=> ?_,λx hx=> ?_,λx c hx e=> ?_⟩
   ·rcases c1 x c e with z | z
    ·rw[lk]at z
     by_cases q:x=n
     ·rw[if_pos q]at z;cases z
      exact .inr ⟨Jq _,_,Oj r _ _ _ (Jk _ rfl),rfl⟩
     ·rw[if_neg q]at z;exact .inl z
    ·exact .inr ⟨Nr z.1,z.2⟩
   ·rw[c3 x λz=>hx (IZ _ z),lk,if_neg λz=>hx (by rw[z];exact Ja)]
   ·refine c4 x ?_
    rcases hx with hx | hx
    ·rcases Jh.mp hx with z | z
     ·cases z
      exact .inr ⟨_,by rw[lk,if_pos rfl]⟩
     ·exact .inl z
    ·by_cases q:x=n
     ·exact .inr ⟨_,by rw[lk,if_pos q]⟩
     ·exact .inr (by rw[lk,if_neg q];exact hx)
   ·rcases Jh.mp hx with z | z
    ·have q:x=n:=(P8 z).1
     rcases c1 x c e with y | y
     ·rw[lk,if_pos q]at y;cases y;exact Jq _
     ·exact Nr y.1
    ·exact Nr (c5 x c z e)
  ·have hb:¬ (k == KA)=true:=λz=>hk (by simpa using z)
   rw[if_neg hb,if_neg hb];obtain⟨c1,c2,c3,c4,c5⟩:=ml r h acc hi hl;exact⟨c1,c2,λx hx=>c3 x λz=>hx (IZ _ z),λx hx=>c4 x (hx.imp (λz=>(Jh.mp z).resolve_left λz=>hk (P8 z).2.symm) id),λx c hx=>c5 x c ((Jh.mp hx).resolve_left λz=>hk (P8 z).2.symm)⟩
theorem xw {M:Model}{A:J9}{E:Je->Jf->Prop}{s:Jf}{scope:Mi}{globals:Addr}{cl:List (Str×Addr)}{qual:Str}{env:Env}{Q:Env->Jf->Prop}
  (q:Q (newEnv scope s.heap.objs.size globals (Lz (s.heap.objs.size+1) scope.names cl) qual none .none (some env) Oq) { s with heap:=Oi (s.heap.push { cls:=.type "dict",data:=.dict #[] }) scope.names }) :
  wpAny M A (newFunctionEnv scope globals cl [] qual none .none (some env)) Q E s:=by
 simp only[newFunctionEnv,OR,if_true];refine IW (wpAny_alloc (IW (wpAny_layCells _ (λname kind cells=>by cases hkc:kind == KA <;> simp[hkc]) _ _ _ _ ?_)))
 rw[show({ s with heap:=s.heap.push { cls:=.type "dict",data:=.dict #[] } }:Jf).heap.objs.size=s.heap.objs.size+1 from J6 ..]
 rw[LW];exact IW (Jg (Jg q))
theorem wr {elt tg iter:Expr}{ifs:List Expr}{scope:Mi}{pos fpos:Pos}{N':List Str}{src:List (Option Nat)}{wi:TI}{g:TG}{tc:TT}{te:TE}{use:Option (Je->Sem Unit)}{Qf:Je->Jf->Prop}
  {pins:List (Addr×Obj)} {s:Jf} {σ:St} {H:Hp} {Q:VK}
  (hc:X.calm=true) (S:LcScope X scope N' src) (hi:PI X tg iter wi)
  (block:∀cl C s₀ H₀ fp,PG (bJ X scope cl N' C s₀ H₀ fp) tg g/\wW (bJ X scope cl N' C s₀ H₀ fp) ifs tc/\PE (bJ X scope cl N' C s₀ H₀ fp) elt te)
  (hs:∀x,JQ iter X.env x=pure x) (I:Inv X pins σ H s) (h:Dr X.K wi src g tc te σ H Q)
  (hend:∀(D C:Addr) (H':Hp) (s':Jf),(∃m,s'.heap.Ns C m)->(∀h',LC C s'.heap h'->Inv X pins σ H' { s' with heap:=h' })->(H' C=none/\C≠X.env.locals/\X.s₀.heap.objs.size<=C/\(∀x c,X.env.cells.lookup x=some c->c≠C)/\∀p∈X.pn++pins,p.1≠C)->Q (.ref D) H' →
   compPost (model X.prog X.w) X.A X.xe use Qf (.ref D) C (.ok .next) s') :
  wpAny (model X.prog X.w) X.A (Pd (.ListComp elt [⟨tg,iter,ifs,0⟩] scope pos) scope X.env fpos (newList []) false (eval iter X.env) use) Qf X.xe s:=by
 have hcell:∀x,(x,JZ)∈scope.names->∃c,X.env.cells.lookup x=some c:=λx hx=>I.ok.has x (S.free x hx)
 obtain⟨cl0,hcl,cl01,cl02⟩:=vH (env:=X.env) (scope:=scope) hcell;refine wpAny_comprehension_free (use:=use) rfl hs hcl S.kind S.loc (cG (hi pins s σ H _ I h) λv s1 h1=>cG h1 λitv s2 h2=> ?_)
 obtain⟨it,fp,tn,J,H2,e,I2,T,st2,f2,hq⟩:=h2;subst e
 -- the new list
 refine Kk ?_
 have hD:H2 s2.heap.objs.size=none:=I2.hok.fresh (Jq _)
 have hDK:X.K.lookup s2.heap.objs.size=none:=by
  cases q:X.K.lookup s2.heap.objs.size with
  | none=>rfl
  | some o=>exact absurd (Jn (I2.kIn _ o q)) (JK _)
 obtain⟨W,⟨m0,w0⟩,turn⟩:=hq s2.heap.objs.size hD hDK
 have I3:=I2.Iy (its:=[]) (ys:=[]) (t':=s2.toks) .nil (Lc _)
 generalize hs3:({ s2 with heap:=s2.heap.push { cls:=.type "list",data:=.seq ([]:List Je).toArray },toks:=s2.toks }:Jf)=s3 at I3
 generalize hH3:upd H2 s2.heap.objs.size (.lst [])=H3 at I3 w0
 have hDsz:s2.heap.objs.size<s3.heap.objs.size:=by rw[<-hs3];simp[J6]
 have fr3:∀b∈fp,H3 b=none:=λb hb=>by
  obtain⟨o,eo,_⟩:=T.obj _ _ st2 b hb;rw[<-hH3,aF (KC (Jn eo))];exact(f2 b hb).1
 have st3:tn 0 s3.heap:=T.keep _ _ _ st2 λb hb o e=>by rw[<-hs3];exact IY _ e
 have f3:∀b∈fp,kS X pins H3 b:=λb hb=>⟨fr3 b hb,(f2 b hb).2⟩
 have D3:H3 s2.heap.objs.size=some (.lst []):=by rw[<-hH3];exact aG
 generalize s2.heap.objs.size=D at*
 clear hs3 hH3 hD hDK
 -- the block's frame
 refine xw ?_
 have old:∀b o,s3.heap.get? b=some o->(Oi (s3.heap.push { cls:=.type "dict",data:=.dict #[] }) scope.names).get? b=some o:=λb o e=>Oj _ _ b o (IY _ e)
 have hns₁:(Oi (s3.heap.push { cls:=.type "dict",data:=.dict #[] }) scope.names).Ns s3.heap.objs.size (λ_=>none):=(Heap.Ns.new s3.heap (.type "dict")).keeps (Oj _ _)
 have hz3:(s3.heap.push { cls:=.type "dict",data:=.dict #[] }).objs.size=s3.heap.objs.size+1:=J6 ..
 have lt0:∀x c,cl0.lookup x=some c->c<s3.heap.objs.size:=λx c e=>let ⟨_,ic⟩:=I3.cell x c (cl01 x c e);ic.lt
 obtain⟨c1,c2,c3,c4,c5⟩:=ml scope.names (s3.heap.push { cls:=.type "dict",data:=.dict #[] }) cl0 (λx y c e1 e2=>I3.ok.inj x y c (cl01 x c e1) (cl01 y c e2)) λx c e=>by rw[hz3];exact Pl (lt0 x c e)
 rw[hz3]at c1 c2 c3 c4 c5
 generalize hcl':Lz (s3.heap.objs.size+1) scope.names cl0=cl at*
 generalize hh₁:Oi (s3.heap.push { cls:=.type "dict",data:=.dict #[] }) scope.names=h₁ at*
 have below:∀b o,s3.heap.get? b=some o->b≠s3.heap.objs.size:=λb o e=>KC (Jn e)
 -- a cell of the block's: one from around,or a new one
 have cl1:∀x c,cl.lookup x=some c->X.env.cells.lookup x=some c\/(s3.heap.objs.size<c/\h₁.IsCell c none):=λx c e=>(c1 x c e).imp (cl01 x c) id
 generalize hC:s3.heap.objs.size=C at*
 have stk:∀b,b≠X.env.locals->b∉X.fs->b∉se X.stack:=λb h1 h2 z=>(Jh.mp (I3.Ig b z)).elim h1 h2
 have apart:∀b∈fp,∀x c,cl.lookup x=some c->c≠b:=λb hb x c e=>by
  rcases cl1 x c e with z | z
  ·exact(f3 b hb).2.2.2.2.1 x c z
  ·obtain⟨o,eo,_⟩:=T.obj _ _ st3 b hb
   have h1:=Jn eo;rw[hC]at h1;exact Nb (Nat.lt_trans h1 z.1)
 have I4:Inv (bJ X scope cl N' C s3 H3 fp) pins (gA src σ) H3 { s3 with heap:=h₁ }:=by
  refine⟨⟨I3.ok.mod,S.kind,I3.ok.glob,I3.ok.blt,LD hC,c2,λx hx=> ?_,λx c hx e=>L4 (hC▸c5 x c (jV (beq_iff_eq.mp hx)) e),I3.ok.hd,I3.ok.frames,.inl rfl,
    λb hb=>⟨?_,λx c e=>apart b hb x c e⟩,I3.bs,Ka I3.ok.bsz I3.sz,λb o e z=> ?_,λb hb=>stk b (f3 b hb).2.1 (f3 b hb).2.2.1,I3.stack,I3.H0⟩,
   rfl,I3.bare,Un.kept old,⟨_,hns₁,λj x v e1 e2 e3=> ?_⟩,λx c e=> ?_,I3.hok.fresh (LD hC),λx c e=>(cl1 x c e).elim (I3.freeC x c) λz=>I3.hok.fresh (by rw[hC];exact L4 z.1),λp hp=> ?_,I3.hok.kept old,?_⟩
  ·have key:∀k,(relabel scope X.env).names.lookup x=some k->(k= .cell\/k= .free)->∃c,cl.lookup x=some c:=λk e hk=>by
    obtain⟨k',e',z⟩:=jB e
    have hk':k'= .cell\/k'= .free:=z.elim (λz=>z▸hk) .inr
    rcases hk' with q | q
    ·exact c4 x (.inl (q▸jV e'))
    ·exact c4 x (.inr (cl02 x (q▸jV e')))
   rcases hx with hx | hx
   ·exact key _ hx (.inl rfl)
   ·exact key _ hx (.inr rfl)
  ·obtain⟨o,eo,_⟩:=T.obj _ _ st3 b hb
   show b≠C
   exact below b o eo
  ·have z':b∈fp:=z
   obtain⟨_,_,_,z1,_⟩:=f3 b z';rcases z1 with z1 | z1
   ·exact I3.ok.noex b o e z1
   ·exact absurd (Jv (Jn (I3.ok.bs b o e).1) z1) (JK _)
  ·unfold gA at e2
   rw[JN]at e2
   cases q:src[j]? with
   | none=>rw[q]at e2;simp at e2
   | some o=>
    rw[q]at e2
    cases o with
    | none=>simp at e2
    | some i=>
     have e2':(σ[i]?).join=some v:=by simpa using e2
     have e2'':σ[i]? =some (some v):=by
      cases q2:σ[i]? with
      | none=>rw[q2]at e2';simp at e2'
      | some z=>rw[q2]at e2';simp at e2';rw[e2']
     obtain⟨hN,hfree⟩:=S.from_ j i x q e1
     have hm:=jV hfree
     have hk:=S.free x hm;obtain⟨m,hn,hl⟩:=I3.loc
     have hv:uN X.env.scope x:=by
      rcases hk with z | z
      ·exact .inr (.inl z)
      ·exact .inr (.inr z)
     obtain⟨u,r,l⟩:=hl i x v hN e2'' hv;refine⟨u,r,.inr ⟨?_,?_⟩⟩
     ·exact i9 hfree
     ·rcases l with⟨z,_⟩ | ⟨_,c,ec,ic⟩
      ·rcases hk with z' | z' <;> rw[z']at z <;> cases z
      ·obtain⟨c',ec0⟩:=cl02 x hm
       have ec':cl.lookup x=some c':=(c3 x λz=>by have:=S.cel _ z rfl;rw[hfree]at this;cases this).trans ec0
       have:=cl01 x c' ec0;rw[ec]at this;cases this;obtain⟨o,ho,hd⟩:=ic;exact⟨c,ec',o,old _ _ ho,hd⟩
  ·rcases cl1 x c e with z | z
   ·obtain⟨v,o,ho,hd⟩:=I3.cell x c z
    exact⟨v,o,old _ _ ho,hd⟩
   ·exact⟨none,z.2⟩
  ·obtain⟨e,n,ne,nf,d⟩:=I3.pin p hp
   exact⟨old _ _ e,n,below _ _ e,stk _ ne nf,d⟩
  ·show(gA src σ).length=N'.length
   unfold gA;rw[Jd];exact S.len
 obtain⟨bG,bI,bE⟩:=block cl C s3 H3 fp
 have stat:∀{H':Hp},(∀b∈fp,H' b=none)->∀b∈fp,kS (bJ X scope cl N' C s3 H3 fp) pins H' b:=λhn b hb=>by
  obtain⟨o,eo,_⟩:=T.obj _ _ st3 b hb;exact⟨hn b hb,below b o eo,stk b (f3 b hb).2.1 (f3 b hb).2.2.1,.inl hb,apart b hb,(f3 b hb).2.2.2.2.2⟩
 have st4:tn 0 h₁:=T.keep _ _ _ st3 λb hb o e=>old b o e
 -- behind the block
 have after:∀(H':Hp) (s':Jf) (σ':St),Inv (bJ X scope cl N' C s3 H3 fp) pins σ' H' s'->Q (.ref D) H' →
   compPost (model X.prog X.w) X.A X.xe use Qf (.ref D) C (.ok .next) s':=λH' s' σ' I' q=>by
  obtain⟨m,hn,_⟩:=id I'.loc
  have fC:X.s₀.heap.objs.size<=C:=by rw[<-hC];exact I3.sz
  have ltC:∀b o,s3.heap.get? b=some o->b<C:=λb o e=>by rw[<-hC];exact Jn e
  refine hend D C H' s' ⟨m,hn⟩ (λh' hsb=> ?_) ⟨I'.free,?_,fC,λx c e z=> ?_,λp hp z=> ?_⟩ q
  rotate_left
  ·have:=I3.lt;rw[hC]at this;exact Nb this
  ·obtain⟨v,ic⟩:=I3.cell x c e
   have:=ic.lt;rw[hC,z]at this;exact JK _ this
  ·have:=ltC _ _ (I3.pin p hp).1;rw[z]at this;exact JK _ this
  have u:Un (se X.stack) fp H3 H' s3.heap s'.heap:=I'.base
  have lift:∀b o,s3.heap.get? b=some o->∀o',s'.heap.get? b=some o'->h'.get? b=some o':=λb o e o' e'=>hsb.extBut b o' (below b o e) e'
  have u':Un (se X.stack) fp H3 H' s3.heap h':=
   ⟨λb o e n hb hx=>lift b o e o (u.keep b o e n hb hx),λb o e n hb hx=>by
     obtain⟨sl,z⟩:=u.slot b o e n hb hx;exact⟨sl,lift b o e _ z⟩,u.free,λb o e hx=>by
     obtain⟨o',z⟩:=u.there b o e hx;exact⟨o',lift b o e _ z⟩,u.tups,u.frzs,u.tbls⟩
  have hCn:H' C=none:=I'.free
  have hok':HOk X.prog X.w H' h':=λb ob e=>by
   refine(I'.hok b ob e).HU (λc w' hc' q'=>(hsb.2 c ?_).trans q') (λ_ q=>q) λ_ _ q=>q
   rintro rfl
   rcases hc' with rfl | hc'
   ·rw[hCn]at e;cases e
   ·rw[hCn]at hc';cases hc'
  have I5:Inv X pins σ H' { s' with heap:=h' }:=I3.Iv (s':={ s' with heap:=h' }) (ch:=fp) I'.os u' hok' I'.bare λb hb=>⟨(f3 b hb).2.2.2.1,(f3 b hb).2.1,(f3 b hb).2.2.2.2.1,(f3 b hb).2.2.2.2.2⟩
  exact I5
 have loop:codeAny (model X.prog X.w) X.A (.compLoop (.ListComp elt [⟨tg,iter,ifs,0⟩] scope pos) 0 (.ref it) (.ref D) (compEnvC scope cl C X.env))
   (compPost (model X.prog X.w) X.A X.xe use Qf (.ref D) C) { s3 with heap:=h₁ }:=by
  refine sr (λn s'=> ∃i σ' ys H',Inv (bJ X scope cl N' C s3 H3 fp) pins σ' H' s'/\tn i s'.heap/\(∀b∈fp,H' b=none)/\W i n σ' ys H') ?_ m0 ⟨0,_,[],H3,I4,st4,fr3,w0⟩
  rintro n s5 ⟨i,σ5,ys,H5,I5,st5,fr5,w5⟩
  obtain⟨hDl,alt⟩:=turn i n σ5 ys H5 w5;rcases alt with⟨stop,qn⟩ | ⟨go,hlen,step⟩
  ·refine cG (T.done (bJ X scope cl N' C s3 H3 fp) rfl rfl rfl hc i pins s5 σ5 H5 _ I5 (stat fr5) st5 stop) λr s6 ⟨hr,I6⟩=> ?_
   subst hr;exact after H5 s6 σ5 I6 qn
  ·refine cG (T.item (bJ X scope cl N' C s3 H3 fp) rfl rfl rfl hc i pins s5 σ5 H5 _ I5 (stat fr5) st5 go) λr s6 ⟨u,hr,h6⟩=> ?_
   subst hr;refine cG h6 λ_ s7 hh_=> ?_
   obtain⟨x,H7,I7,r7,y7,st7,fr7⟩:=hh_
   have I7':=I7.pinned (stat fr7) (T.obj _ _ st7);refine cG (bG _ s7 σ5 H7 x u _ I7' r7 (step x H7 y7)) λ_ s8 hh_=> ?_
   obtain⟨σ8,H8,I8,q8⟩:=hh_;refine cG (bI _ s8 σ8 H8 _ I8 q8) λok s9 hh_=> ?_
   obtain⟨H9,I9,q9⟩:=hh_
   have again:∀{σx:St} {Hx:Hp} {sx:Jf} {ys':List V},Inv (bJ X scope cl N' C s3 H3 fp) (pins++n8 fp s7.heap) σx Hx sx->(∃m',m'<n/\W (i+1) m' σx ys' Hx) →
     ∃m,m<n/\∃i σ' ys H',Inv (bJ X scope cl N' C s3 H3 fp) pins σ' H' sx/\tn i sx.heap/\(∀b∈fp,H' b=none)/\W i m σ' ys H':=λ{σx Hx sx ys'} Ix nx=>by
    obtain⟨m',hm,wx⟩:=nx;refine⟨m',hm,i+1,σx,ys',Hx,Ix.HQ,T.keep _ _ _ st7 λb hb o e=>(Ix.pin (b,o) (Jt _ (Jt _ (iP hb e)))).1,λb hb=> ?_,wx⟩
    obtain⟨o,e,d⟩:=T.obj _ _ st7 b hb;exact(Ix.pin (b,o) (Jt _ (Jt _ (iP hb e)))).2.1
   cases ok with
   | false=>
    rw[if_neg Jy]at q9 ⊢
    exact again I9 q9
   | true=>
    rw[if_pos rfl]at q9 ⊢;refine cG (bE _ s9 σ8 H9 _ I9 q9) λv s10 hh_=> ?_
    obtain⟨y,H10,I10,r10,hD10,q10⟩:=hh_;refine cG (qc _ s10 σ8 H10 (.ref D) [y] (.ref D) [v] (λ_ H'=>H'=upd H10 D (.lst (ys++ [y]))) I10 rfl (.cons r10 .nil) ⟨D,ys,y,rfl,rfl,hD10,hlen,rfl⟩) λ_ s11 hh_=> ?_
    obtain⟨_,H11,I11,_,e11⟩:=hh_;subst e11;exact again I11 q10
 exact codeAny_compStart_list loop (T.self _ 0 _ _ _ st4 loop)
theorem tO {elt tg iter:Expr}{ifs:List Expr}{scope:Mi}{pos:Pos}{N':List Str}{src:List (Option Nat)}{wi:TI}{g:TG}{tc:TT}{te:TE}
  (hc:X.calm=true) (S:LcScope X scope N' src) (hi:PI X tg iter wi)
  (block:∀cl C s₀ H₀ fp,PG (bJ X scope cl N' C s₀ H₀ fp) tg g/\wW (bJ X scope cl N' C s₀ H₀ fp) ifs tc/\PE (bJ X scope cl N' C s₀ H₀ fp) elt te)
  (hs:∀x,JQ iter X.env x=pure x:=by intro _;rfl) :
  PE X (.ListComp elt [⟨tg,iter,ifs,0⟩] scope pos) (Dr X.K wi src g tc te):=by
 intro pins s σ H Q I h;rw[eval_ListComp];exact wr (use:=none) hc S hi block hs I h λD C H' s' ⟨m,hn⟩ inv _ q=>⟨m,hn,λh' hsb=>⟨.ref D,H',inv h' hsb,rfl,q⟩⟩
theorem C2 {elt tg iter:Expr}{ifs:List Expr}{scope:Mi}{pos py spos:Pos}{N':List Str}{src:List (Option Nat)}{wi:TI}{g:TG}{tc:TT}{te:TE}{i:Nat}{y:Str}
  (hc:X.calm=true) (S:LcScope X scope N' src) (hi:PI X tg iter wi)
  (block:∀cl C s₀ H₀ fp,PG (bJ X scope cl N' C s₀ H₀ fp) tg g/\wW (bJ X scope cl N' C s₀ H₀ fp) ifs tc/\PE (bJ X scope cl N' C s₀ H₀ fp) elt te)
  (hN:X.N.Nodup) (hiy:X.N[i]? =some y) (hy:Loc X.env.scope y) (hsw:Kj (.ListComp elt [⟨tg,iter,ifs,0⟩] scope pos) (some (.Name y py)) spos.line X.env=pure true)
  (hf:X.fn y=true\/X.env.scope.names.lookup y=some .local) (hs:∀x,JQ iter X.env x=pure x:=by intro _;rfl) :
  PS X (.Assign [.Name y py] (.ListComp elt [⟨tg,iter,ifs,0⟩] scope pos) spos) (yx (Dr X.K wi src g tc te) (Aj i)):=by
 intro pins s σ H D I h;rw[exec_Assign_Name_used _ _ _ _ hsw];refine IW (wpAny_standAt (IW ?_))
 show wpAny (model X.prog X.w) X.A (do let _ <-Pd (.ListComp elt [⟨tg,iter,ifs,0⟩] scope pos) scope X.env _ (newList []) false (eval iter X.env) (some (assign (.Name y py) X.env))) _ _ s
 refine IW (cG (wr (use:=some (assign (.Name y py) X.env)) (Qf:=λ_ s'=>SP X pins D .next s') (Q:=λv H'=>D.nx (σ.set i (some v)) H') hc S hi block hs I h λL C H' s' ⟨m,hn⟩ inv ⟨c0,c1,c2,c3,c4⟩ q=> ?_) λ_ s' hq=>Jg (Jg hq))
 have I0:Inv X pins σ H' s':=inv s'.heap (Pj ..)
 show wpAny (model X.prog X.w) X.A (assign (.Name y py) X.env (.ref L)) _ _ s'
 refine Pt (pX I0 hN hiy hy (v:=.ref L) rfl (λs2 I2 ⟨b,sb,hb⟩=> ?_) hf)
 have hbC:C≠b:=by
  rcases hb with z | z
  ·rw[z];exact c1
  ·exact λw=>c3 y b z w.symm
 refine⟨m,hn.sameBut sb hbC,λh' hsb=> ?_⟩
 exact⟨_,H',I2.turned (t':=s2.toks) (λb' o hb' e=>(hsb.2 b' hb').trans e) c0 c1 (.inr c2) c3 c4,q⟩
end
end L2
namespace Tr
open PySem PySem.Spec PyProof.Rows L2
inductive T where
 | non | bl (b:Bool) | int (i:Int) | str (x:Str) | tup (l:List T) | lst (l:List T)
 /-- the law's script: a list of ints that is only read -/
 | scr (l:List Int)
 /-- a dict: its keys,its values -/
 | dct (ks vs:List T)
def C9:T->Option Key
 | .int i=>some (.inl i)
 | .str x=>some (.inr x)
 | _=>none
def kO:List T->Option (List Key)
 | [] =>some []
 | t::l=>match C9 t,kO l with
  | some k,some r=>some (k::r)
  | _,_=>none
def aW:T->Option (List Key)
 | .tup l=>kO l
 | _=>none
inductive Rs (α:Type) where
 | ok (a:α) | err (c:Str) | bad
def Rs.bind {α β:Type}(x:Rs α)(f:α->Rs β):Rs β:=match x with
 | .ok a=>f a
 | .err c=> .err c
 | .bad=> .bad
instance:Monad Rs where
 pure:=Rs.ok
 bind:=Rs.bind
@[simp] theorem az {α β:Type} (a:α) (f:α->Rs β):(Rs.ok a >>= f)=f a:=rfl
@[simp] theorem Ho {α:Type} (a:α):(pure a:Rs α)=Rs.ok a:=rfl
@[simp] theorem G4 {α β:Type} (f:α->Rs β):((Rs.bad:Rs α) >>= f)= .bad:=rfl
@[simp] theorem G0 {α β:Type} (c:Str) (f:α->Rs β):((Rs.err c:Rs α) >>= f)= .err c:=rfl
abbrev Ow:=Addr->Prop
mutual
def Rep (K:IX)(O:Ow)(H:Hp):T->V->Prop
 | .non,v=>v= .non
 | .bl b,v=>v= .bl b
 | .int i,v=>v= .int i
 | .str x,v=>v= .str x
 | .tup l,v=> ∃a vs,v= .ref a/\¬ O a/\H a=some (.tup vs)/\Reps K O H l vs
 | .lst l,v=> ∃a vs,v= .ref a/\¬ O a/\H a=some (.lst vs)/\Reps K O H l vs
 | .scr l,v=> ∃a,v= .ref a/\¬ O a/\SqL K H a (l.map V.int)
 | .dct ks ts,v=> ∃a kvs,v= .ref a/\¬ O a/\Rd H a (.dT kvs)/\ks.map aW=kvs.map (λp=>some p.1)/\Reps K O H ts (kvs.map (·.2))
def Reps (K:IX)(O:Ow)(H:Hp):List T->List V->Prop
 | [],vs=>vs= []
 | t::r,vs=> ∃v ws,vs=v::ws/\Rep K O H t v/\Reps K O H r ws
end
def SameO (P:Ow)(H H':Hp):Prop:=∀b o,H b=some o->¬ P b->H' b=some o
theorem SameO.of {P:Ow}{H H':Hp}(h:Same H H'):SameO P H H':=λb o e _=>h b o e
theorem Rd.Iq {P:Ow}{H H':Hp}{a:Addr}{u:HO}(h:SameO P H H')(n:¬ P a)(q:Rd H a u):Rd H' a u:=q.elim (λe=> .inl (h _ _ e n)) λ⟨o,e⟩=> .inr ⟨o,h _ _ e n⟩
theorem SqL.keep {K:IX}{P:Ow}{H H':Hp}{a:Addr}{vs:List V}(h:SameO P H H')(n:¬ P a)(q:SqL K H a vs):SqL K H' a vs:=by
 rcases q with(q | ⟨o,q⟩) | q
 ·exact .inl (.inl (h _ _ q n))
 ·exact .inl (.inr ⟨o,h _ _ q n⟩)
 ·exact .inr q
mutual
theorem Rep.keep {K:IX}{O P:Ow}{H H':Hp}(h:SameO P H H')(sub:∀a,P a->O a):∀{t:T} {v:V},Rep K O H t v->Rep K O H' t v
 | .non,_,r=>by unfold Rep at r ⊢;exact r
 | .bl _,_,r=>by unfold Rep at r ⊢;exact r
 | .int _,_,r=>by unfold Rep at r ⊢;exact r
 | .str _,_,r=>by unfold Rep at r ⊢;exact r
 | .tup l,_,r=>by
  unfold Rep at r ⊢;obtain⟨a,vs,e,n,q,z⟩:=r
  exact⟨a,vs,e,n,h _ _ q (λp=>n (sub a p)),Reps.keep h sub z⟩
 | .lst l,_,r=>by
  unfold Rep at r ⊢;obtain⟨a,vs,e,n,q,z⟩:=r
  exact⟨a,vs,e,n,h _ _ q (λp=>n (sub a p)),Reps.keep h sub z⟩
 | .scr l,_,r=>by
  unfold Rep at r ⊢;obtain⟨a,e,n,q⟩:=r
  exact⟨a,e,n,SqL.keep h (λp=>n (sub a p)) q⟩
 | .dct ks ts,_,r=>by
  unfold Rep at r ⊢;obtain⟨a,kvs,e,n,q,k,z⟩:=r;exact⟨a,kvs,e,n,Rd.Iq h (λp=>n (sub a p)) q,k,Reps.keep h sub z⟩
theorem Reps.keep {K:IX}{O P:Ow}{H H':Hp}(h:SameO P H H')(sub:∀a,P a->O a):∀{l:List T} {vs:List V},Reps K O H l vs->Reps K O H' l vs
 | [],_,r=>by unfold Reps at r ⊢;exact r
 | t::l,_,r=>by
  unfold Reps at r ⊢;obtain⟨v,ws,e,p,q⟩:=r;exact⟨v,ws,e,Rep.keep h sub p,Reps.keep h sub q⟩
end
mutual
theorem Rep.less {K:IX}{O O':Ow}{H:Hp}(sub:∀a,O' a->O a):∀{t:T} {v:V},Rep K O H t v->Rep K O' H t v
 | .non,_,r=>by unfold Rep at r ⊢;exact r
 | .bl _,_,r=>by unfold Rep at r ⊢;exact r
 | .int _,_,r=>by unfold Rep at r ⊢;exact r
 | .str _,_,r=>by unfold Rep at r ⊢;exact r
 | .tup l,_,r=>by
  unfold Rep at r ⊢;obtain⟨a,vs,e,n,q,z⟩:=r
  exact⟨a,vs,e,λp=>n (sub a p),q,Reps.less sub z⟩
 | .lst l,_,r=>by
  unfold Rep at r ⊢;obtain⟨a,vs,e,n,q,z⟩:=r
  exact⟨a,vs,e,λp=>n (sub a p),q,Reps.less sub z⟩
 | .scr l,_,r=>by
  unfold Rep at r ⊢;obtain⟨a,e,n,z⟩:=r
  exact⟨a,e,λp=>n (sub a p),z⟩
 | .dct ks ts,_,r=>by
  unfold Rep at r ⊢;obtain⟨a,kvs,e,n,q,k,z⟩:=r;exact⟨a,kvs,e,λp=>n (sub a p),q,k,Reps.less sub z⟩
theorem Reps.less {K:IX}{O O':Ow}{H:Hp}(sub:∀a,O' a->O a):∀{l:List T} {vs:List V},Reps K O H l vs->Reps K O' H l vs
 | [],_,r=>by unfold Reps at r ⊢;exact r
 | t::l,_,r=>by
  unfold Reps at r ⊢;obtain⟨v,ws,e,p,q⟩:=r;exact⟨v,ws,e,Rep.less sub p,Reps.less sub q⟩
end
section
variable {K:IX}{O:Ow}{H H':Hp}{t:T}{v:V}{l:List T}{vs:List V}
theorem Rep.same (h:Same H H')(r:Rep K O H t v):Rep K O H' t v:=Rep.keep (P:=λ_=>False) (SameO.of h) (λ_ z=>z.elim) r
theorem Reps.same (h:Same H H')(r:Reps K O H l vs):Reps K O H' l vs:=Reps.keep (P:=λ_=>False) (SameO.of h) (λ_ z=>z.elim) r
theorem Rep.Il:Rep K O H .non .non:=by unfold Rep;rfl
theorem Rep.bl_ (b:Bool):Rep K O H (.bl b) (.bl b):=by unfold Rep;rfl
theorem Rep.HI (i:Int):Rep K O H (.int i) (.int i):=by unfold Rep;rfl
theorem Rep.IF (x:Str):Rep K O H (.str x) (.str x):=by unfold Rep;rfl
theorem Rep.HC:Rep K O H (.tup l) v↔ ∃a vs,v= .ref a/\¬ O a/\H a=some (.tup vs)/\Reps K O H l vs:=by unfold Rep;exact MF
theorem Rep.HD:Rep K O H (.lst l) v↔ ∃a vs,v= .ref a/\¬ O a/\H a=some (.lst vs)/\Reps K O H l vs:=by unfold Rep;exact MF
theorem Rep.HH {ks ts:List T}:Rep K O H (.dct ks ts) v↔ ∃a kvs,v= .ref a/\¬ O a/\Rd H a (.dT kvs)/\ks.map aW=kvs.map (λp=>some p.1)/\Reps K O H ts (kvs.map (·.2)):=by unfold Rep;exact MF
theorem Rep.HA {i:Int}:Rep K O H (.int i) v↔v= .int i:=by unfold Rep;exact MF
theorem Rep.HE {b:Bool}:Rep K O H (.bl b) v↔v= .bl b:=by unfold Rep;exact MF
theorem Rep.HK {b:Str}:Rep K O H (.str b) v↔v= .str b:=by unfold Rep;exact MF
theorem Rep.HP:Rep K O H .non v↔v= .non:=by unfold Rep;exact MF
theorem Reps.nil_:Reps K O H [] []:=by unfold Reps;rfl
theorem Reps.HG (r:Rep K O H t v)(q:Reps K O H l vs):Reps K O H (t::l) (v::vs):=by unfold Reps;exact⟨v,vs,rfl,r,q⟩
theorem Reps.HB:Reps K O H [] vs↔vs= []:=by unfold Reps;exact MF
theorem Reps.me:Reps K O H (t::l) vs↔ ∃v ws,vs=v::ws/\Rep K O H t v/\Reps K O H l ws:=by
 constructor
 ·intro h;unfold Reps at h;exact h
 ·intro h;unfold Reps;exact h
end
section
variable {K:IX}{O:Ow}{H H':Hp}
theorem Reps.length:∀{l:List T} {vs:List V},Reps K O H l vs->l.length=vs.length
 | [],vs,r=>by rw[Reps.HB.mp r];rfl
 | t::l,vs,r=>by
  obtain⟨v,ws,rfl,_,q⟩:=Reps.me.mp r;simp[q.length]
theorem Reps.get:∀{l:List T} {vs:List V} {i:Nat} {t:T},Reps K O H l vs->l[i]? =some t->∃v,vs[i]? =some v/\Rep K O H t v
 | [],_,_,_,_,e=>by simp at e
 | t::l,vs,i,u,r,e=>by
  obtain⟨v,ws,rfl,p,q⟩:=Reps.me.mp r
  cases i with
  | zero=>simp at e;subst e;exact⟨v,rfl,p⟩
  | succ i=>
   obtain⟨z,e1,e2⟩:=q.get (i:=i) (t:=u) (by simpa using e)
   exact⟨z,by simpa using e1,e2⟩
theorem Reps.append:∀{l m:List T} {vs ws:List V},Reps K O H l vs->Reps K O H m ws->Reps K O H (l++m) (vs++ws)
 | [],_,vs,_,r,s=>by rw[Reps.HB.mp r];exact s
 | t::l,m,vs,ws,r,s=>by
  obtain⟨v,us,rfl,p,q⟩:=Reps.me.mp r;exact Reps.HG p (q.append s)
theorem Reps.take:∀{l:List T} {vs:List V} (n:Nat),Reps K O H l vs->Reps K O H (l.take n) (vs.take n)
 | _,_,0,_=>Reps.nil_
 | [],vs,n+1,r=>by rw[Reps.HB.mp r];exact Reps.nil_
 | t::l,vs,n+1,r=>by
  obtain⟨v,us,rfl,p,q⟩:=Reps.me.mp r;exact Reps.HG p (q.take n)
theorem Reps.drop:∀{l:List T} {vs:List V} (n:Nat),Reps K O H l vs->Reps K O H (l.drop n) (vs.drop n)
 | _,_,0,r=>r
 | [],vs,n+1,r=>by rw[Reps.HB.mp r];exact Reps.nil_
 | t::l,vs,n+1,r=>by
  obtain⟨v,us,rfl,p,q⟩:=Reps.me.mp r;exact q.drop n
theorem Reps.ints:∀{ns:List Int},Reps K O H (ns.map T.int) (ns.map V.int)
 | [] =>Reps.nil_
 | n::r=>Reps.HG (Rep.HI n) Reps.ints
end
inductive OT where
 | lst (l:List T) | dct (ks ts:List T) | dd (ks:List T) (rows:List (List T×List T))
def OT.view:OT->T
 | .lst l=> .lst l
 | .dct ks ts=> .dct ks ts
 | .dd ks rows=> .dct ks (rows.map λr=> .dct r.1 r.2)
def RowsR (K:IX)(O:Ow)(H:Hp):List (List T×List T)->List Addr->Prop
 | [],as=>as= []
 | r::rs,as=> ∃b bs kvs,as=b::bs/\H b=some (.dT kvs)/\r.1.map aW=kvs.map (λp=>some p.1)/\Reps K O H r.2 (kvs.map (·.2))/\RowsR K O H rs bs
def ORep (K:IX)(O M:Ow)(H:Hp):OT->V->Prop
 | .lst l,v=> ∃a vs,v= .ref a/\(∀b,M b↔b=a)/\H a=some (.lst vs)/\Reps K O H l vs
 | .dct ks ts,v=> ∃a kvs,v= .ref a/\(∀b,M b↔b=a)/\H a=some (.dT kvs)/\ks.map aW=kvs.map (λp=>some p.1)/\Reps K O H ts (kvs.map (·.2))
 | .dd ks rows,v=> ∃a kvs as,v= .ref a/\(∀b,M b↔b=a\/b∈as)/\a∉as/\as.Nodup/\H a=some (.dT kvs)/\ks.map aW=kvs.map (λp=>some p.1)/\kvs.map (·.2)=as.map V.ref/\RowsR K O H rows as
inductive Sl where
 | em | va (t:T) | ow (o:OT)
abbrev En:=List Sl
abbrev Mn:=Nat->Ow
def Mn.u (M:Mn):Ow:=λa=> ∃i,M i a
def Mtb (H:Hp)(a:Addr):Prop:=(∃vs,H a=some (.lst vs))\/∃kvs,H a=some (.dT kvs)
theorem Mtb.some {H:Hp}{a:Addr}(h:Mtb H a):∃o,H a=some o:=h.elim (λ⟨_,e⟩=>⟨_,e⟩) λ⟨_,e⟩=>⟨_,e⟩
theorem Mtb.same {H H':Hp}(s:Same H H'){a:Addr}(h:Mtb H a):Mtb H' a:=h.elim (λ⟨vs,e⟩=> .inl ⟨vs,s _ _ e⟩) λ⟨k,e⟩=> .inr ⟨k,s _ _ e⟩
structure EnvM (K:IX)(O:Ow)(M:Mn)(H:Hp)(Z:En)(σ:L2.St):Prop where
 len:Z.length=σ.length
 val:∀(i:Nat) (t:T),Z[i]? =some (.va t)->∃v,σ[i]? =some (some v)/\Rep K O H t v
 own:∀(i:Nat) (o:OT),Z[i]? =some (.ow o)->∃v,σ[i]? =some (some v)/\ORep K O (M i) H o v
 sub:∀(i:Nat) (a:Addr),M i a->O a
 dis:∀(i j:Nat) (a:Addr),M i a->M j a->i=j
 trk:∀(a:Addr),O a->Mtb H a
theorem RowsR.same {K:IX}{O:Ow}{H H':Hp}(h:Same H H'):∀{rs:List (List T×List T)} {as:List Addr},RowsR K O H rs as->RowsR K O H' rs as
 | [],_,r=>r
 | _::_,_,⟨b,bs,kvs,e1,e2,e3,e4,e5⟩=>⟨b,bs,kvs,e1,h _ _ e2,e3,e4.same h,e5.same h⟩
theorem ORep.same {K:IX}{O M:Ow}{H H':Hp}(h:Same H H'){o:OT}{v:V}(r:ORep K O M H o v):ORep K O M H' o v:=by
 cases o with
 | lst l=>obtain⟨a,vs,e1,e2,e3,e4⟩:=r;exact⟨a,vs,e1,e2,h _ _ e3,e4.same h⟩
 | dct ks ts=>obtain⟨a,kvs,e1,e2,e3,e4,e5⟩:=r;exact⟨a,kvs,e1,e2,h _ _ e3,e4,e5.same h⟩
 | dd ks rows=>obtain⟨a,kvs,as,e1,e2,e3,e4,e5,e6,e7,e8⟩:=r;exact⟨a,kvs,as,e1,e2,e3,e4,h _ _ e5,e6,e7,e8.same h⟩
theorem EnvM.same {K:IX}{O:Ow}{M:Mn}{H H':Hp}{Z:En}{σ:L2.St}(h:Same H H')(e:EnvM K O M H Z σ):EnvM K O M H' Z σ where
 len:=e.len
 val:=λi t q=>let ⟨v,e1,e2⟩:=e.val i t q;⟨v,e1,e2.same h⟩
 own:=λi o q=>let ⟨v,e1,e2⟩:=e.own i o q;⟨v,e1,e2.same h⟩
 sub:=e.sub
 dis:=e.dis
 trk:=λa q=>(e.trk a q).same h
def EnvO (K:IX)(O:Ow)(H:Hp)(Z:En)(σ:L2.St):Prop:=∃M,EnvM K O M H Z σ
section
variable {K:IX}{O:Ow}{H H':Hp}{Z:En}{σ:L2.St}
theorem EnvO.val (e:EnvO K O H Z σ)(i:Nat)(t:T)(q:Z[i]? =some (.va t)):∃v,σ[i]? =some (some v)/\Rep K O H t v:=e.elim λ_ e=>e.val i t q
theorem EnvO.mtb (e:EnvO K O H Z σ):∀a,O a->Mtb H a:=e.elim λ_ e=>e.trk
theorem EnvO.trk (e:EnvO K O H Z σ)(a:Addr)(z:O a):∃o,H a=some o:=(e.mtb a z).some
theorem EnvO.same (h:Same H H')(e:EnvO K O H Z σ):EnvO K O H' Z σ:=e.elim λM e=>⟨M,e.same h⟩
theorem EnvO.fresh (e:EnvO K O H Z σ){p:Addr}(h:H p=none):¬ O p:=λz=>by
 obtain⟨o,q⟩:=e.trk p z;rw[h]at q;cases q
end
def Hz (h:Heap)(C e:Addr):Option Addr->Prop
 | none=> ∃oe vs,h.get? e=some oe/\oe.cls= .ref C/\oe.data= .fields vs/\vs[1]? =some .none
 | some T=>T≠e/\∃oe vs,h.get? e=some oe/\oe.cls= .ref C/\oe.data= .fields vs/\vs[1]? =some (.ref T)/\∃oT ts,h.get? T=some oT/\oT.data= .fields ts/\ts[3]? =some .none
def RzP (X:Cx)(pins:List (Addr×Obj))(P:Ow)(H:Hp)(c:Str)(ev:Je)(s':Jf):Prop:=
 ∃e T C σ' H',ev= .ref e/\X.mg c=some (.ref C)/\Inv X pins σ' H' s'/\SameO P H H'/\H' e=none/\(X.ex= []->X.s₀.heap.get? e=none)/\Hz s'.heap C e T/\(∀t,T=some t->H' t=none/\(X.ex= []->X.s₀.heap.get? t=none))/\∀p∈X.pn++pins,p.1≠e/\T≠some p.1
def Nw (K:IX)(H:Hp):Ow:=λa=>H a=none/\K.lookup a=none
theorem iO {K:IX}{P:Ow}{H H1:Hp}(h:SameO P H H1){a:Addr}(n:Nw K H1 a):P a\/Nw K H a:=by
 by_cases hp:P a
 ·exact .inl hp
 ·refine .inr ⟨?_,n.2⟩
  cases q:H a with
  | none=>rfl
  | some o=>have:=h a o q hp;rw[n.1]at this;cases this
theorem SameO.trans {K:IX}{P P1:Ow}{H H1 H2:Hp}(h:SameO P H H1)(h1:SameO P1 H1 H2)(sub:∀a,P1 a->P a\/Nw K H a):SameO P H H2:=λb o e n=>
 h1 b o (h b o e n) λz=>(sub b z).elim n λw=>by rw[w.1]at e;cases e
def XA (X:Cx)(P:Ow)(H:Hp)(c:Str):Prop:=∀pins ev s',RzP X pins P H c ev s'->X.xe ev s'
theorem XA.later {X:Cx}{P P1:Ow}{H H1:Hp}{c:Str}(h:XA X P H c)(s:SameO P H H1)(sub:∀a,P1 a->P a\/Nw X.K H a):XA X P1 H1 c:=λpins ev s' ⟨e,T,C,σ',H',a1,a2,a3,a4,a5⟩=>
 h pins ev s' ⟨e,T,C,σ',H',a1,a2,a3,s.trans a4 sub,a5⟩
abbrev vj:Ow:=λ_=>False
def Post {α:Type}(X:Cx)(H:Hp)(r:Rs α)(k:α->Hp->Prop):Prop:=match r with
 | .ok t=> ∀H',Same H H'->k t H'
 | .err c=>XA X vj H c
 | .bad=>False
theorem Post.mono {α:Type}{X:Cx}{H:Hp}{r:Rs α}{k k':α->Hp->Prop}(h:Post X H r k)(f:∀t H',Same H H'->k t H'->k' t H'):Post X H r k':=by
 cases r with
 | ok t=>exact λH' s=>f t H' s (h H' s)
 | err c=>exact h
 | bad=>exact h
theorem Post.later {α:Type}{X:Cx}{H H1:Hp}{r:Rs α}{k:α->Hp->Prop}(h:Post X H r k)(s:Same H H1):Post X H1 r k:=by
 cases r with
 | ok t=>exact λH' s'=>h H' (s.trans s')
 | err c=>exact XA.later h (SameO.of s) λ_ z=>z.elim
 | bad=>exact h
theorem Post.bind {α β:Type}{X:Cx}{H:Hp}{r:Rs α}{f:α->Rs β}{k:β->Hp->Prop}(h:Post X H (r >>= f) k):Post X H r λt H'=>Post X H' (f t) k:=by
 cases r with
 | ok t=>exact λH' s=>Post.later h s
 | err c=>exact h
 | bad=>exact h
def tP (X:Cx)(f:En->Rs T):TE:=λσ H Q=> ∃Z O,EnvO X.K O H Z σ/\Post X H (f Z) λt H'=> ∀v,Rep X.K O H' t v->Q v H'
def tPA (X:Cx)(f:En->Rs (List T)):TA:=λσ H Q=> ∃Z O,EnvO X.K O H Z σ/\Post X H (f Z) λt H'=> ∀v,Reps X.K O H' t v->Q v H'
def yc (X:Cx)(f:En->Rs Bool):TT:=λσ H Q=> ∃Z O,EnvO X.K O H Z σ/\Post X H (f Z) λb H'=>Q b H'
abbrev cN (X:Cx)(e:Expr)(f:En->Rs T):Prop:=PE X e (tP X f)
abbrev qG (X:Cx)(e:List Expr)(f:En->Rs (List T)):Prop:=PA X e (tPA X f)
abbrev uO (X:Cx)(e:Expr)(f:En->Rs Bool):Prop:=PT X e (yc X f)
theorem PE.imp {X:Cx}{e:Expr}{t t':TE}(h:PE X e t)(w:∀σ H Q,t' σ H Q->t σ H Q):PE X e t':=λpins s σ H Q I q=>h pins s σ H Q I (w σ H Q q)
theorem PA.imp {X:Cx}{e:List Expr}{t t':TA}(h:PA X e t)(w:∀σ H Q,t' σ H Q->t σ H Q):PA X e t':=λpos pins s σ H Q I q=>h pos pins s σ H Q I (w σ H Q q)
theorem PT.imp {X:Cx}{e:Expr}{t t':TT}(h:PT X e t)(w:∀σ H Q,t' σ H Q->t σ H Q):PT X e t':=λpins s σ H Q I q=>h pins s σ H Q I (w σ H Q q)
theorem PS.imp {X:Cx}{e:Stmt}{t t':TS}(h:PS X e t)(w:∀D σ H,t' D σ H->t D σ H):PS X e t':=λpins s σ H D I q=>h pins s σ H D I (w D σ H q)
theorem PSs.imp {X:Cx}{e:List Stmt}{t t':TS}(h:PSs X e t)(w:∀D σ H,t' D σ H->t D σ H):PSs X e t':=λpins s σ H D I q=>h pins s σ H D I (w D σ H q)
section
variable {X:Cx}
theorem aZ {σ:L2.St}{H:Hp}{Z:En}{O:Ow}{α:Type}{f:En->Rs T}{k:T->Rs α}{Q:α->Hp->Prop}(E:EnvO X.K O H Z σ)(h:Post X H (f Z >>= k) Q) :
  tP X f σ H λv H'=> ∃t,Rep X.K O H' t v/\Same H H'/\EnvO X.K O H' Z σ/\Post X H' (k t) Q:=
 ⟨Z,O,E,Post.mono h.bind λt H' s q v r=>⟨t,r,s,E.same s,q⟩⟩
theorem fq {σ:L2.St}{H:Hp}{Z:En}{O:Ow}{α:Type}{f:En->Rs (List T)}{k:List T->Rs α}{Q:α->Hp->Prop}(E:EnvO X.K O H Z σ)(h:Post X H (f Z >>= k) Q) :
  tPA X f σ H λv H'=> ∃t,Reps X.K O H' t v/\Same H H'/\EnvO X.K O H' Z σ/\Post X H' (k t) Q:=
 ⟨Z,O,E,Post.mono h.bind λt H' s q v r=>⟨t,r,s,E.same s,q⟩⟩
theorem k4 {σ:L2.St}{H:Hp}{Z:En}{O:Ow}{α:Type}{f:En->Rs Bool}{k:Bool->Rs α}{Q:α->Hp->Prop}(E:EnvO X.K O H Z σ)(h:Post X H (f Z >>= k) Q) :
  yc X f σ H λb H'=>Same H H'/\EnvO X.K O H' Z σ/\Post X H' (k b) Q:=
 ⟨Z,O,E,Post.mono h.bind λt H' s q=>⟨s,E.same s,q⟩⟩
def vr (i:Nat)(Z:En):Rs T:=match Z[i]? with
 | some (.va t)=> .ok t
 | _=> .bad
def cn (t:T)(_:En):Rs T:=.ok t
theorem F6 (i:Nat){x:Str}{pos:Pos}(hN:X.N[i]? =some x:=by rfl)(hv:uN X.env.scope x:=by first | exact Kz rfl | exact Ki (Kz rfl) | exact Ki (Ki rfl))(hd:(x == ("__debug__" : Str))=false:=by decide)
  (hcd:(x == ("__classdict__" : Str))=false:=by decide):cN X (.Name x pos) (vr i):=PE.imp (kG hN hv hd hcd) λσ H Q hh_=>by
 obtain⟨Z,O,E,h⟩:=hh_;unfold vr at h
 split at h
 ·rename_i t e
  obtain⟨v,e1,e2⟩:=E.val i t e;exact⟨v,e1,h H (Same.refl H) v e2⟩
 ·exact h.elim
theorem Ge {i j pos}:cN X (.Constant (.int i) j pos) (cn (.int i)):=PE.imp Ep λσ H Q ⟨Z,O,E,h⟩=>h H (Same.refl H) _ (Rep.HI i)
theorem q_bl {i j pos}:cN X (.Constant (.bool i) j pos) (cn (.bl i)):=PE.imp Gp λσ H Q ⟨Z,O,E,h⟩=>h H (Same.refl H) _ (Rep.bl_ i)
theorem Ga {j pos}:cN X (.Constant .none j pos) (cn .non):=PE.imp zc λσ H Q ⟨Z,O,E,h⟩=>h H (Same.refl H) _ Rep.Il
theorem D2 {x:Str}{i:Int}{u:Je}{pos:Pos}(hm:X.mg x=some u)(r:RelV (.int i) u)(hg:Gl X x:=by rfl)(hd:(x == ("__debug__" : Str))=false:=by decide):cN X (.Name x pos) (cn (.int i)):=
 PE.imp (BW hg hm r hd) λσ H Q ⟨Z,O,E,h⟩=>h H (Same.refl H) _ (Rep.HI i)
def ag (_:En):Rs (List T):=.ok []
def ac (f:En->Rs T)(g:En->Rs (List T))(Z:En):Rs (List T):=do
 let t <-f Z
 let r <-g Z
 .ok (t::r)
theorem D1:qG X [] ag:=PA.imp ju λσ H Q ⟨Z,O,E,h⟩=>h H (Same.refl H) _ Reps.nil_
theorem BG {e:Expr}{es:List Expr}{f:En->Rs T}{g:En->Rs (List T)}(he:cN X e f)(hr:qG X es g)(hs:Jz (e::es) X.env=(false,eval e X.env)::Jz es X.env:=by rfl):qG X (e::es) (ac f g):=by
 intro pos pins s σ H Q I h;obtain⟨Z,O,E,h⟩:=h;refine fy he hr hs pos pins s σ H Q I ?_
 obtain⟨Z1,O1,E1,h1⟩:=aZ E h;refine⟨Z1,O1,E1,Post.mono h1 λt H' s q v r=> ?_⟩
 obtain⟨t',r',s',E',q'⟩:=q v r;refine⟨Z,O,E',Post.mono q'.bind λts H2 s2 q2 vs rs=> ?_⟩
 exact q2 H2 (Same.refl H2) _ (Reps.HG (r'.same s2) rs)
end
section
variable {X:Cx}
def kw (l:List T):Rs T:=if l.length<=sizeLine then .ok (.tup l)else .bad
def kx (l:List T):Rs T:=if l.length<=sizeLine then .ok (.lst l)else .bad
def aR (f:En->Rs (List T))(Z:En):Rs T:=f Z >>= kw
def d7 (f:En->Rs (List T))(Z:En):Rs T:=f Z >>= kx
theorem aV {H:Hp}{p:Addr}(h:H p=none)(o:HO):Same H (upd H p o):=λb u q=>by rw[aF (cy q h)];exact q
theorem gQ {K:IX}{O:Ow}{H:Hp}{p:Addr}{l:List T}{vs:List V}(h:H p=none)(n:¬ O p)(r:Reps K O H l vs):Rep K O (upd H p (.tup vs)) (.tup l) (.ref p):=
 Rep.HC.mpr ⟨p,vs,rfl,n,aG,r.same (aV h _)⟩
theorem lm {K:IX}{O:Ow}{H:Hp}{p:Addr}{l:List T}{vs:List V}(h:H p=none)(n:¬ O p)(r:Reps K O H l vs):Rep K O (upd H p (.lst vs)) (.lst l) (.ref p):=
 Rep.HD.mpr ⟨p,vs,rfl,n,aG,r.same (aV h _)⟩
theorem F7 {es:List Expr}{x1:Nat}{pos:Pos}{f:En->Rs (List T)}(h:qG X es f):cN X (.Tuple es x1 pos) (aR f):=by
 intro pins s σ H Q I ⟨Z,O,E,hq⟩;refine vd h pins s σ H Q I ?_
 obtain⟨Z1,O1,E1,h1⟩:=fq E hq;refine⟨Z1,O1,E1,Post.mono h1 λts H1 s1 q vs r=> ?_⟩
 obtain⟨t',r',s',E',q'⟩:=q vs r;unfold kw at q'
 split at q'
 ·rename_i hz
  refine⟨by rw[<-r'.length];exact hz,λp hp=> ?_⟩
  exact q' _ (aV hp _) _ (gQ hp (E'.fresh hp) r')
 ·exact q'.elim
theorem Gc {es:List Expr}{pos:Pos}{f:En->Rs (List T)}(h:qG X es f):cN X (.List es pos) (d7 f):=by
 intro pins s σ H Q I ⟨Z,O,E,hq⟩;refine Eo h pins s σ H Q I ?_
 obtain⟨Z1,O1,E1,h1⟩:=fq E hq;refine⟨Z1,O1,E1,Post.mono h1 λts H1 s1 q vs r=> ?_⟩
 obtain⟨t',r',s',E',q'⟩:=q vs r;unfold kx at q'
 split at q'
 ·rename_i hz
  refine⟨by rw[<-r'.length];exact hz,λp hp=> ?_⟩
  exact q' _ (aV hp _) _ (lm hp (E'.fresh hp) r')
 ·exact q'.elim
def OpT (X:Cx)(f:Je->Je->Sem Je)(g:T->T->Rs T):Prop:=
 ∀(pins:List (Addr×Obj)) (s:Jf) (σ:L2.St) (H:Hp) (O:Ow) (x y:T) (vx vy:V) (ux uy:Je) (Q:VK),Inv X pins σ H s->(∀p,H p=none->¬ O p)->Rep X.K O H x vx->Rep X.K O H y vy->RelV vx ux->RelV vy uy →
  Post X H (g x y) (λt H'=> ∀v,Rep X.K O H' t v->Q v H')->wpAny (model X.prog X.w) X.A (f ux uy) (EP X pins σ Q) X.xe s
def o2 (g:T->T->Rs T)(fa fb:En->Rs T)(Z:En):Rs T:=do
 let x <-fa Z
 let y <-fb Z
 g x y
variable {a b c:Expr}{fa fb fc:En->Rs T}{pos:Pos}
theorem Gh {op:Operator}{g:T->T->Rs T}(ho:OpT X (KR op) g)(ha:cN X a fa)(hb:cN X b fb):cN X (.BinOp a op b pos) (o2 g fa fb):=by
 intro pins s σ H Q I ⟨Z,O,E,hq⟩
 have h1:=aZ E hq;refine wpAny_BinOp (cG (ha pins s σ H _ I h1) λv s1 hh_=> ?_)
 obtain⟨x,H1,I1,r1,t,rt,s',E',q1⟩:=hh_
 have h2:=aZ (f:=fb) E' q1;refine cG (hb pins s1 σ H1 _ I1 h2) λu s2 hh_=> ?_
 obtain⟨y,H2,I2,r2,t2,rt2,s'',E'',q2⟩:=hh_;exact ho pins s2 σ H2 O t t2 x y v u Q I2 (λp=>E''.fresh) (rt.same s'') rt2 r1 r2 q2
theorem Gg {op:Qt}{g:T->T->Rs T}(ho:OpT X (JY op) g)(ha:cN X a fa)(hb:cN X b fb)(hm:NH op b=false:=by rfl):cN X (.Compare a [op] [b] pos) (o2 g fa fb):=by
 intro pins s σ H Q I ⟨Z,O,E,hq⟩
 have h1:=aZ E hq;refine wpAny_Compare1 (cG (ha pins s σ H _ I h1) λv s1 ⟨x,H1,I1,r1,t,rt,s',E',q1⟩=> ?_) hm
 have h2:=aZ (f:=fb) E' q1;refine cG (hb pins s1 σ H1 _ I1 h2) λu s2 hh_=> ?_
 obtain⟨y,H2,I2,r2,t2,rt2,s'',E'',q2⟩:=hh_;exact ho pins s2 σ H2 O t t2 x y v u Q I2 (λp=>E''.fresh) (rt.same s'') rt2 r1 r2 q2
theorem OpT.of {f:Je->Je->Sem Je}{r:R2}(h:qH X f r){g:T->T->Rs T}
  (w:∀(H:Hp) (O:Ow) (x y:T) (vx vy:V) (Q:VK),(∀p,H p=none->¬ O p)->Rep X.K O H x vx->Rep X.K O H y vy->Post X H (g x y) (λt H'=> ∀v,Rep X.K O H' t v->Q v H')->r vx vy H Q):OpT X f g:=
 λpins s σ H O x y vx vy ux uy Q I hf rx ry r1 r2 hp=>h pins s σ H vx vy ux uy Q I r1 r2 (w H O x y vx vy Q hf rx ry hp)
def bD:T->T->Rs T
 | .int i,.int j=> .ok (.int (i - j))
 | _,_=> .bad
theorem cK:OpT X (KR .Sub) bD:=OpT.of Eu λH O x y vx vy Q hf rx ry hp=>by
 unfold bD at hp
 split at hp
 ·exact⟨_,_,Rep.HA.mp rx,Rep.HA.mp ry,hp H (Same.refl H) _ (Rep.HI _)⟩
 ·exact hp.elim
def lI:T->T->Rs T
 | .int i,.int j=>if 0<j/\j<1073741824 then .ok (.int (i / j))else .bad
 | _,_=> .bad
def lA:T->T->Rs T
 | .int i,.int j=>if 0<j then .ok (.int (i % j))else .bad
 | _,_=> .bad
theorem nr:OpT X (KR .FloorDiv) lI:=OpT.of B0 λH O x y vx vy Q hf rx ry hp=>by
 unfold lI at hp
 split at hp
 ·split at hp
  ·rename_i h
   exact⟨_,_,Rep.HA.mp rx,Rep.HA.mp ry,h,hp H (Same.refl H) _ (Rep.HI _)⟩
  ·exact hp.elim
 ·exact hp.elim
theorem kH:OpT X (KR .Mod) lA:=OpT.of Ez λH O x y vx vy Q hf rx ry hp=>by
 unfold lA at hp
 split at hp
 ·split at hp
  ·rename_i h
   exact⟨_,_,Rep.HA.mp rx,Rep.HA.mp ry,h,hp H (Same.refl H) _ (Rep.HI _)⟩
  ·exact hp.elim
 ·exact hp.elim
theorem zk:qH X (KR .Add) (λx y H Q=> ∃a b ys,x= .ref a/\y= .ref b/\SqT X.K H a []/\SqT X.K H b ys/\Q (.ref b) H):=by
 intro pins s σ H x y v u Q I rx ry h;obtain⟨a,b,ys,rfl,rfl,ha,hb,q⟩:=h;cases rx;cases ry;obtain⟨its,r1,p1,_⟩:=I.tuple ha;obtain⟨its2,r2,p2,_⟩:=I.tuple hb;obtain⟨⟨cls,dd,data,sl⟩,ho,hc,n,hd⟩:=id p1;obtain⟨⟨cls2,dd2,data2,sl2⟩,ho2,hc2,n2,hd2⟩:=id p2;simp only at hc hd hc2 hd2;subst hc hd hc2 hd2
 have e:its= []:=by cases r1;rfl
 subst e;exact HT_concat0 ho ho2 ⟨.ref b,H,I,rfl,q⟩
where
 HT_concat0 {prog:JI} {w:Kr} {A:J9} {E:Je->Jf->Prop} {s:Jf} {t b:Addr} {ws:Array Je} {n n2:Nat} {dd dd2:Option Addr} {sl sl2:Array (Option Je)} {Q:Je->Jf->Prop}
   (ho:s.heap.get? t=some { cls:=.type "tuple",dict:=dd,data:=.seq (([]:List Je).toArray) n,slots:=sl }) (ho2:s.heap.get? b=some { cls:=.type "tuple",dict:=dd2,data:=.seq ws n2,slots:=sl2 }) (h:Q (.ref b) s) :
   wpAny (model prog w) A (KR .Add (.ref t) (.ref b)) Q E s:=
  PH ⟨_,ho,rfl⟩ ⟨_,ho2,rfl⟩ NM O8 Mk L7 (L3 _ _)
   (tuple_addW0 t b _ _ n n2 dd dd2 sl sl2 (by simp)) ⟨ho,ho2,h⟩
def aS:T->T->Rs T
 | .int i,.int j=> .ok (.int (i+j))
 | .str i,.str j=>if i.length+j.length<=sizeLine then .ok (.str (i++j))else .bad
 | .tup l,.tup m=>kw (l++m)
 | .lst l,.lst m=>kx (l++m)
 | _,_=> .bad
theorem aQ:OpT X (KR .Add) aS:=by
 intro pins s σ H O x y vx vy ux uy Q I hf rx ry r1 r2 hp;unfold aS at hp
 split at hp
 ·exact EC pins s σ H vx vy ux uy Q I r1 r2 ⟨_,_,Rep.HA.mp rx,Rep.HA.mp ry,hp H (Same.refl H) _ (Rep.HI _)⟩
 ·split at hp
  ·rename_i h
   exact ve pins s σ H vx vy ux uy Q I r1 r2 ⟨_,_,Rep.HK.mp rx,Rep.HK.mp ry,h,hp H (Same.refl H) _ (Rep.IF _)⟩
  ·exact hp.elim
 ·rename_i l m
  unfold kw at hp
  split at hp
  ·rename_i h
   obtain⟨a,vs,e1,n1,q1,z1⟩:=Rep.HC.mp rx;obtain⟨b,ws,e2,n2,q2,z2⟩:=Rep.HC.mp ry
   have hl1:=z1.length
   have hl2:=z2.length;rw[Jj]at h
   cases vs with
   | nil=>
    have e:l= []:=by cases l with
     | nil=>rfl
     | cons _ _=>simp at hl1
    subst e
    exact zk pins s σ H vx vy ux uy Q I r1 r2 ⟨a,b,ws,e1,e2,SqT.of q1,SqT.of q2,hp H (Same.refl H) _ (Rep.HC.mpr ⟨b,ws,rfl,n2,q2,z2⟩)⟩
   | cons v0 vr=>
    refine B1 pins s σ H vx vy ux uy Q I r1 r2 ⟨a,b,v0::vr,ws,e1,e2,SqT.of q1,SqT.of q2,by simp,by omega,λhw=> ?_,λ_ p hpn=> ?_⟩
    ·subst hw
     have e:m= []:=by cases m with
      | nil=>rfl
      | cons _ _=>simp at hl2
     subst e;rw[Kd]at hp;exact hp H (Same.refl H) _ (Rep.HC.mpr ⟨a,_,rfl,n1,q1,z1⟩)
    ·exact hp _ (aV hpn _) _ (gQ hpn (hf p hpn) (z1.append z2))
  ·exact hp.elim
 ·rename_i l m
  unfold kx at hp
  split at hp
  ·rename_i h
   obtain⟨a,vs,e1,n1,q1,z1⟩:=Rep.HD.mp rx;obtain⟨b,ws,e2,n2,q2,z2⟩:=Rep.HD.mp ry
   have hl1:=z1.length
   have hl2:=z2.length;rw[Jj]at h;exact EB pins s σ H vx vy ux uy Q I r1 r2 ⟨a,b,vs,ws,e1,e2,q1,q2,by omega,λp hpn=>hp _ (aV hpn _) _ (lm hpn (hf p hpn) (z1.append z2))⟩
  ·exact hp.elim
 ·exact hp.elim
def vm:T->T->Rs T
 | .int i,.int j=>if (-(2 ^ 64)<i/\i<2 ^ 64)\/(-(2 ^ 64)<j/\j<2 ^ 64)then .ok (.int (i*j))else .bad
 | .lst l,.int k=>if -(2 ^ 63)<=k/\k<2 ^ 63/\l.length*k.toNat<=sizeLine then .ok (.lst (JC k.toNat l).flatten)else .bad
 | _,_=> .bad
theorem Reps.rep {K:IX}{O:Ow}{H:Hp}{l:List T}{vs:List V}(h:Reps K O H l vs):∀k:Nat,Reps K O H (JC k l).flatten (JC k vs).flatten
 | 0=>Reps.nil_
 | k+1=>by rw[KF,KF,Lj,Lj];exact h.append (h.rep k)
theorem Es:OpT X (KR .Mult) vm:=by
 intro pins s σ H O x y vx vy ux uy Q I hf rx ry r1 r2 hp;unfold vm at hp
 split at hp
 ·split at hp
  ·rename_i h
   exact Ey pins s σ H vx vy ux uy Q I r1 r2 ⟨_,_,Rep.HA.mp rx,Rep.HA.mp ry,h,hp H (Same.refl H) _ (Rep.HI _)⟩
  ·exact hp.elim
 ·split at hp
  ·rename_i l k h
   obtain⟨a,vs,e1,n1,q1,z1⟩:=Rep.HD.mp rx
   have hl1:=z1.length;exact Ew pins s σ H vx vy ux uy Q I r1 r2 ⟨a,k,vs,e1,Rep.HA.mp ry,q1,h.1,h.2.1,by rw[<-hl1];exact h.2.2,λp hpn=>hp _ (aV hpn _) _ (lm hpn (hf p hpn) (z1.rep _))⟩
  ·exact hp.elim
 ·exact hp.elim
def rQ:T->Rs T
 | .int i=> .ok (.int (-i))
 | _=> .bad
def o1 (g:T->Rs T)(fa:En->Rs T)(Z:En):Rs T:=fa Z >>= g
theorem Gb (ha:cN X a fa):cN X (.UnaryOp .USub a pos) (o1 rQ fa):=by
 intro pins s σ H Q I ⟨Z,O,E,hq⟩;refine Gn Dn ha pins s σ H Q I ?_
 obtain⟨Z1,O1,E1,h1⟩:=aZ E hq;refine⟨Z1,O1,E1,Post.mono h1 λts H1 s1 q vs r=> ?_⟩
 obtain⟨t',r',s',E',q'⟩:=q vs r;unfold rQ at q'
 split at q'
 ·exact⟨_,Rep.HA.mp r',q' H1 (Same.refl H1) _ (Rep.HI _)⟩
 ·exact q'.elim
def uJ (p:Int->Int->Bool):T->T->Rs T
 | .int i,.int j=> .ok (.bl (p i j))
 | _,_=> .bad
theorem rz {op:Qt}{p:Int->Int->Bool}(h:qH X (JY op) (C1 λi j=> .bl (p i j))):OpT X (JY op) (uJ p):=OpT.of h λH O x y vx vy Q hf rx ry hp=>by
 unfold uJ at hp
 split at hp
 ·exact⟨_,_,Rep.HA.mp rx,Rep.HA.mp ry,hp H (Same.refl H) _ (Rep.bl_ _)⟩
 ·exact hp.elim
abbrev rX:=uJ λi j=>decide (i<j)
abbrev wo:=uJ λi j=>decide (i<=j)
abbrev Fb:=uJ λi j=>decide (j<i)
theorem n9:OpT X (JY .Lt) rX:=rz Gs
theorem mH:OpT X (JY .LtE) wo:=rz Gu
theorem C5:OpT X (JY .Gt) Fb:=rz Gv
def T.isN:T->Bool
 | .non=>true
 | _=>false
theorem Rep.isN {K:IX}{O:Ow}{H:Hp}{t:T}{v:V}(r:Rep K O H t v):decide (v= .non)=t.isN:=by
 cases t with
 | non=>rw[Rep.HP.mp r];rfl
 | bl _=>rw[Rep.HE.mp r];rfl
 | int _=>rw[Rep.HA.mp r];rfl
 | str _=>rw[Rep.HK.mp r];rfl
 | tup _=>obtain⟨a,vs,e,_⟩:=Rep.HC.mp r;rw[e];rfl
 | lst _=>obtain⟨a,vs,e,_⟩:=Rep.HD.mp r;rw[e];rfl
 | scr _=>unfold Rep at r;obtain⟨a,e,_⟩:=r;rw[e];rfl
 | dct _ _=>obtain⟨a,_,e,_⟩:=Rep.HH.mp r;rw[e];rfl
def gC:T->T->Rs T
 | x,.non=> .ok (.bl x.isN)
 | _,_=> .bad
def dy:T->T->Rs T
 | x,.non=> .ok (.bl (!x.isN))
 | _,_=> .bad
theorem lr:OpT X (JY .Is) gC:=OpT.of EA λH O x y vx vy Q hf rx ry hp=>by
 unfold gC at hp
 split at hp
 ·exact⟨Rep.HP.mp ry,hp H (Same.refl H) _ (by rw[rx.isN];exact Rep.bl_ _)⟩
 ·exact hp.elim
theorem fz:OpT X (JY .IsNot) dy:=OpT.of BZ λH O x y vx vy Q hf rx ry hp=>by
 unfold dy at hp
 split at hp
 ·exact⟨Rep.HP.mp ry,hp H (Same.refl H) _ (by rw[rx.isN];exact Rep.bl_ _)⟩
 ·exact hp.elim
end
end Tr
namespace Tr
open PySem PySem.Spec PyProof.Rows L2
open PySem.SeqAt
mutual
def ReV (s:Jf):T->Je->Prop
 | .non,u=>u= .none
 | .bl b,u=>u= .bool b
 | .int i,u=> ∃t,u= .int i t
 | .str x,u=> ∃t,u= .str x t
 | .tup l,u=> ∃a its,u= .ref a/\s.heap.IsTuple a (Pz its)/\ReVs s l its
 | .lst l,u=> ∃a its,u= .ref a/\s.heap.IsList a (Pz its)/\ReVs s l its
 | .scr l,u=> ∃a its,u= .ref a/\s.heap.IsList a (Pz its)/\MK its l
 | .dct _ _,_=>False
def ReVs (s:Jf):List T->List Je->Prop
 | [],us=>us= []
 | t::r,us=> ∃u ws,us=u::ws/\ReV s t u/\ReVs s r ws
end
theorem ReVs.HB {s:Jf}{us:List Je}:ReVs s [] us↔us= []:=by unfold ReVs;exact MF
theorem ReVs.me {s:Jf}{t:T}{l:List T}{us:List Je}:ReVs s (t::l) us↔ ∃u ws,us=u::ws/\ReV s t u/\ReVs s l ws:=by
 constructor
 ·intro h;unfold ReVs at h;exact h
 ·intro h;unfold ReVs;exact h
theorem ReVs.length {s:Jf}:∀{l:List T} {us:List Je},ReVs s l us->l.length=us.length
 | [],us,r=>by rw[ReVs.HB.mp r];rfl
 | t::l,us,r=>by
  obtain⟨v,ws,rfl,_,q⟩:=ReVs.me.mp r;simp[q.length]
theorem ReVs.get {s:Jf}:∀{l:List T} {us:List Je} {i:Nat} {t:T},ReVs s l us->l[i]? =some t->∃v,us[i]? =some v/\ReV s t v
 | [],_,_,_,_,e=>by simp at e
 | t::l,vs,i,u,r,e=>by
  obtain⟨v,ws,rfl,p,q⟩:=ReVs.me.mp r
  cases i with
  | zero=>simp at e;subst e;exact⟨v,rfl,p⟩
  | succ i=>
   obtain⟨z,e1,e2⟩:=q.get (i:=i) (t:=u) (by simpa using e)
   exact⟨z,by simpa using e1,e2⟩
mutual
def T.nd:T->Bool
 | .dct _ _=>false
 | .tup l=>nds l
 | .lst l=>nds l
 | _=>true
def nds:List T->Bool
 | [] =>true
 | t::l=>t.nd&&nds l
end
theorem ub {t:T}{l:List T}(h:nds (t::l)=true):t.nd=true/\nds l=true:=by unfold nds at h;exact KY.mp h
theorem zy:∀{l:List T},(∀t∈l,t.nd=true)->nds l=true
 | [],_=>rfl
 | t::l,h=>by unfold nds;rw[h t Ja,zy λu hu=>h u (IZ _ hu)];rfl
section
variable {X:Cx}{pins:List (Addr×Obj)}{σ:L2.St}{H:Hp}{s:Jf}{O:Ow}
mutual
theorem Rep.val (I:Inv X pins σ H s):∀{t:T} {v:V} {u:Je},t.nd=true->Rep X.K O H t v->RelV v u->ReV s t u
 | .non,v,u,hn,r,q=>by cases Rep.HP.mp r;unfold ReV;exact q
 | .bl b,v,u,hn,r,q=>by cases Rep.HE.mp r;unfold ReV;exact q
 | .int b,v,u,hn,r,q=>by cases Rep.HA.mp r;unfold ReV;exact q
 | .str b,v,u,hn,r,q=>by cases Rep.HK.mp r;unfold ReV;exact q
 | .tup l,v,u,hn,r,q=>by
  obtain⟨a,vs,rfl,_,z,w⟩:=Rep.HC.mp r;cases q;obtain⟨its,rv,p,_⟩:=I.tuple (SqT.of z);unfold ReV
  exact⟨a,its,rfl,p,Reps.val I (by unfold T.nd at hn;exact hn) w rv⟩
 | .lst l,v,u,hn,r,q=>by
  obtain⟨a,vs,rfl,_,z,w⟩:=Rep.HD.mp r;cases q;obtain⟨its,rv,p,_⟩:=I.list (SqL.of z);unfold ReV
  exact⟨a,its,rfl,p.isList,Reps.val I (by unfold T.nd at hn;exact hn) w rv⟩
 | .scr l,v,u,hn,r,q=>by
  unfold Rep at r;obtain⟨a,rfl,_,z⟩:=r;cases q;obtain⟨its,rv,p,_⟩:=I.list z;unfold ReV
  exact⟨a,its,rfl,p.isList,vz rv⟩
 | .dct _ _,v,u,hn,r,q=>by cases hn
theorem Reps.val (I:Inv X pins σ H s):∀{l:List T} {vs:List V} {us:List Je},nds l=true->Reps X.K O H l vs->Vals vs us->ReVs s l us
 | [],vs,us,hn,r,q=>by
  cases Reps.HB.mp r;cases q
  exact ReVs.HB.mpr rfl
 | t::l,vs,us,hn,r,q=>by
  obtain⟨v,ws,rfl,p,z⟩:=Reps.me.mp r
  cases q with
  | cons q1 q2=>exact ReVs.me.mpr ⟨_,_,rfl,Rep.val I (ub hn).1 p q1,Reps.val I (ub hn).2 z q2⟩
end
end
mutual
def T.dep:T->Nat
 | .tup l=>deps l+1
 | .lst l=>deps l+1
 | .scr _=>1
 | _=>0
def deps:List T->Nat
 | [] =>0
 | t::l=>max t.dep (deps l)
end
def CF (i:Int):T->Bool
 | .int j=>i == j
 | .bl b=>i == (if b then 1 else 0)
 | _=>false
def kD:List Int->List T->Bool
 | [],[] =>true
 | i::r,t::l=>CF i t&&kD r l
 | _,_=>false
mutual
def a6:T->T->Bool
 | .non,.non=>true
 | .bl a,.bl b=>a == b
 | .bl a,.int b=>(if a then 1 else 0) == b
 | .int a,.bl b=>a == (if b then 1 else 0)
 | .int a,.int b=>a == b
 | .str a,.str b=>a == b
 | .tup l,.tup m=>beqTs l m
 | .lst l,.lst m=>beqTs l m
 | .lst l,.scr m=>beqTs l (m.map .int)
 | .scr l,.lst m=>kD l m
 | .scr l,.scr m=>l == m
 | _,_=>false
def beqTs:List T->List T->Bool
 | [],[] =>true
 | t::l,u::m=>a6 t u&&beqTs l m
 | _,_=>false
end
theorem pd (n:Nat)(e:Nat->Bool):(Js (n+1)).all e=(e 0&&(Js n).all λj=>e (j+1)):=by
 rw[List.range_succ_eq_map,Nx,List.all_map];rfl
theorem mm:∀(l m:List T) (e:Nat->Bool),(∀(j:Nat) t u,l[j]? =some t->m[j]? =some u->e j=a6 t u) →
  beqTs l m=((Js (min l.length m.length)).all e&&l.length == m.length)
 | [],[],_,_=>by simp[beqTs]
 | [],_::_,_,_=>by simp[beqTs]
 | _::_,[],_,_=>by simp[beqTs]
 | t::l,u::m,e,h=>by
  have ih:=mm l m (λj=>e (j+1)) λj t' u' h1 h2=>h (j+1) t' u' (by simpa using h1) (by simpa using h2)
  rw[beqTs,ih]
  have h0:=h 0 t u rfl rfl;simp only[Ji];rw[Nat.succ_min_succ,pd,h0,Bool.and_assoc]
  congr 2
  simp
theorem qF:∀{l m:List T},l.length≠m.length->beqTs l m=false
 | [],[],h=>absurd rfl h
 | [],_::_,_=>by simp[beqTs]
 | _::_,[],_=>by simp[beqTs]
 | t::l,u::m,h=>by
  rw[beqTs,qF (l:=l) (m:=m) (by intro z;exact h (by simp[z]))]
  simp
theorem jH:∀{l:List T} {i:Nat} {t:T},l[i]? =some t->t.dep<=deps l
 | [],_,_,e=>by simp at e
 | t::l,0,u,e=>by simp at e;subst e;unfold deps;exact Nat.le_max_left _ _
 | t::l,i+1,u,e=>by
  have:=jH (l:=l) (i:=i) (t:=u) (by simpa using e)
  unfold deps;exact Ka this (Nat.le_max_right _ _)
theorem jC {s:Jf}{a:Addr}{x y:List Je}(h:s.heap.IsTuple a x.toArray)(h':s.heap.IsTuple a y.toArray):x=y:=by
 obtain⟨o,e,_,n,d⟩:=h;obtain⟨o',e',_,n',d'⟩:=h';rw[e]at e';cases e';rw[d]at d';injection d' with d1 _
 simpa using congrArg NX d1
theorem dv {s:Jf}{a:Addr}{x y:List Je}(h:s.heap.IsList a x.toArray)(h':s.heap.IsList a y.toArray):x=y:=by
 obtain⟨o,e,_,n,d⟩:=h;obtain⟨o',e',_,n',d'⟩:=h';rw[e]at e';cases e';rw[d]at d';injection d' with d1 _
 simpa using congrArg NX d1
theorem x6 {s:Jf}{i:Int}{t:T}{k:Tok}(r:ReV s t (.int i k)):CF i t=true:=by
 cases t with
 | non=>unfold ReV at r;cases r
 | bl b=>unfold ReV at r;cases r
 | int j=>unfold ReV at r;obtain⟨t,e⟩:=r;injection e with e1 _;subst e1;simp[CF]
 | str x=>unfold ReV at r;obtain⟨t,e⟩:=r;cases e
 | tup l=>unfold ReV at r;obtain⟨a,its,e,_⟩:=r;cases e
 | lst l=>unfold ReV at r;obtain⟨a,its,e,_⟩:=r;cases e
 | scr l=>unfold ReV at r;obtain⟨a,its,e,_⟩:=r;cases e
 | dct _ _=>unfold ReV at r;exact r.elim
theorem o8 {s:Jf}:∀{ns:List Int} {us:List Je} {l:List T},MK us ns->ReVs s l us->kD ns l=true
 | [],us,l,h,r=>by
  cases h
  cases l with
  | nil=>rfl
  | cons t l=>obtain⟨_,_,e,_⟩:=ReVs.me.mp r;cases e
 | n::ns,us,l,h,r=>by
  cases h with
  | cons a b hh=>
   cases l with
   | nil=>have:=ReVs.HB.mp r;cases this
   | cons t l=>
    obtain⟨u,ws,e,p,q⟩:=ReVs.me.mp r;injection e with e1 e2
    subst e1 e2;rw[kD,x6 p,o8 hh q];rfl
theorem eY {s:Jf}:∀{us:List Je} {ns:List Int},MK us ns->ReVs s (ns.map T.int) us
 | _,_,.nil=>ReVs.HB.mpr rfl
 | _,_,.cons n t h=>ReVs.me.mpr ⟨_,_,rfl,by unfold ReV;exact⟨_,rfl⟩,eY h⟩
theorem jD:∀{us:List Je} {ns ms:List Int},MK us ns->MK us ms->ns=ms
 | _,_,_,.nil,.nil=>rfl
 | _,_,_,.cons n t h,.cons _ _ h'=>by rw[jD h h']
mutual
theorem ReV.refl {s:Jf}:∀{t u:T} {v:Je},ReV s t v->ReV s u v->a6 t u=true
 | .non,u,v,r,q=>by
  unfold ReV at r;subst r
  cases u <;> (unfold ReV at q) <;> first | rfl | (cases q;done) | (obtain⟨_,e⟩:=q;cases e;done) | (obtain⟨_,_,e,_⟩:=q;cases e;done)
 | .bl b,u,v,r,q=>by
  unfold ReV at r;subst r
  cases u <;> (unfold ReV at q) <;> first | (cases q;done) | (cases q;simp[a6];done) | (obtain⟨_,e⟩:=q;cases e;done) | (obtain⟨_,_,e,_⟩:=q;cases e;done)
 | .int b,u,v,r,q=>by
  unfold ReV at r;obtain⟨k,rfl⟩:=r
  cases u <;> (unfold ReV at q) <;> first | (cases q;done) | (obtain⟨_,e⟩:=q;cases e;simp[a6];done) | (obtain⟨_,e⟩:=q;cases e;done) | (obtain⟨_,_,e,_⟩:=q;cases e;done)
 | .str b,u,v,r,q=>by
  unfold ReV at r;obtain⟨k,rfl⟩:=r
  cases u <;> (unfold ReV at q) <;> first | (cases q;done) | (obtain⟨_,e⟩:=q;cases e;simp[a6];done) | (obtain⟨_,e⟩:=q;cases e;done) | (obtain⟨_,_,e,_⟩:=q;cases e;done)
 | .tup l,u,v,r,q=>by
  unfold ReV at r;obtain⟨a,its,rfl,h1,h2⟩:=r
  cases u with
  | non=>unfold ReV at q;cases q
  | dct _ _=>unfold ReV at q;exact q.elim
  | bl _=>unfold ReV at q;cases q
  | int _=>unfold ReV at q;obtain⟨_,e⟩:=q;cases e
  | str _=>unfold ReV at q;obtain⟨_,e⟩:=q;cases e
  | tup m=>
   unfold ReV at q;obtain⟨a',its',e,h1',h2'⟩:=q;injection e with e;subst e
   have:=jC h1 h1';subst this;unfold a6
   exact ReVs.refl h2 h2'
  | lst m=>unfold ReV at q;obtain⟨a',its',e,h1',h2'⟩:=q;injection e with e;subst e;exact absurd rfl (ne_of_list_tuple h1' h1)
  | scr m=>unfold ReV at q;obtain⟨a',its',e,h1',h2'⟩:=q;injection e with e;subst e;exact absurd rfl (ne_of_list_tuple h1' h1)
 | .lst l,u,v,r,q=>by
  unfold ReV at r;obtain⟨a,its,rfl,h1,h2⟩:=r
  cases u with
  | non=>unfold ReV at q;cases q
  | dct _ _=>unfold ReV at q;exact q.elim
  | bl _=>unfold ReV at q;cases q
  | int _=>unfold ReV at q;obtain⟨_,e⟩:=q;cases e
  | str _=>unfold ReV at q;obtain⟨_,e⟩:=q;cases e
  | lst m=>
   unfold ReV at q;obtain⟨a',its',e,h1',h2'⟩:=q;injection e with e;subst e
   have:=dv h1 h1';subst this;unfold a6
   exact ReVs.refl h2 h2'
  | tup m=>unfold ReV at q;obtain⟨a',its',e,h1',h2'⟩:=q;injection e with e;subst e;exact absurd rfl (ne_of_list_tuple h1 h1')
  | scr m=>
   unfold ReV at q;obtain⟨a',its',e,h1',h2'⟩:=q;injection e with e;subst e
   have:=dv h1 h1';subst this;unfold a6
   exact ReVs.refl h2 (eY h2')
 | .scr l,u,v,r,q=>by
  unfold ReV at r;obtain⟨a,its,rfl,h1,h2⟩:=r
  cases u with
  | non=>unfold ReV at q;cases q
  | dct _ _=>unfold ReV at q;exact q.elim
  | bl _=>unfold ReV at q;cases q
  | int _=>unfold ReV at q;obtain⟨_,e⟩:=q;cases e
  | str _=>unfold ReV at q;obtain⟨_,e⟩:=q;cases e
  | lst m=>
   unfold ReV at q;obtain⟨a',its',e,h1',h2'⟩:=q;injection e with e;subst e
   have:=dv h1 h1';subst this;unfold a6
   exact o8 h2 h2'
  | tup m=>unfold ReV at q;obtain⟨a',its',e,h1',h2'⟩:=q;injection e with e;subst e;exact absurd rfl (ne_of_list_tuple h1 h1')
  | scr m=>
   unfold ReV at q;obtain⟨a',its',e,h1',h2'⟩:=q;injection e with e;subst e
   have:=dv h1 h1';subst this;unfold a6
   have:=jD h2 h2'
   simp[this]
 | .dct _ _,u,v,r,q=>by unfold ReV at r;exact r.elim
theorem ReVs.refl {s:Jf}:∀{l m:List T} {us:List Je},ReVs s l us->ReVs s m us->beqTs l m=true
 | [],m,us,r,q=>by
  cases ReVs.HB.mp r
  cases m with
  | nil=>simp[beqTs]
  | cons _ _=>obtain⟨_,_,e,_⟩:=ReVs.me.mp q;cases e
 | t::l,m,us,r,q=>by
  obtain⟨v,ws,rfl,p,z⟩:=ReVs.me.mp r
  cases m with
  | nil=>cases ReVs.HB.mp q
  | cons u m=>
   obtain⟨v',ws',e,p',z'⟩:=ReVs.me.mp q;injection e with e1 e2
   subst e1 e2;rw[beqTs,ReV.refl p p',ReVs.refl z z'];rfl
end
theorem o7:∀(l:List Int) (m:List T),kD l m=beqTs (l.map T.int) m
 | [],[] =>by simp[kD,beqTs]
 | [],_::_=>by simp[kD,beqTs]
 | _::_,[] =>by simp[kD,beqTs]
 | i::l,t::m=>by
  rw[kD,Jb,beqTs,o7 l m]
  congr 1
  cases t <;> simp[CF,a6]
theorem qQ:∀(l m:List Int),(l == m)=beqTs (l.map T.int) (m.map T.int)
 | [],[] =>by simp[beqTs]
 | [],_::_=>by simp[beqTs]
 | _::_,[] =>by simp[beqTs]
 | i::l,t::m=>by
  rw[Jb,Jb,beqTs,<-qQ l m];simp[a6]
theorem gF:∀(l:List Int),deps (l.map T.int)=0
 | [] =>rfl
 | i::l=>by rw[Jb,deps,gF l];simp[T.dep]
def jS:T->T->Prop
 | .tup _,.tup _=>False
 | .lst _,.lst _=>False
 | .lst _,.scr _=>False
 | .scr _,.lst _=>False
 | .scr _,.scr _=>False
 | _,_=>True
theorem uw (A:J9)(s:Jf)(x y:T)(u v:Je)(hn:jS x y)(hu:A.units<cLine)(rx:ReV s x u)(ry:ReV s y v):EqAt A s u v (a6 x y)/\RcAt A s u v (a6 x y)/\RcNeAt A s u v (!a6 x y):=by
 match x,y,hn,rx,ry with
 | .dct _ _,_,_,rx,_=>exact(by unfold ReV at rx;exact rx:False).elim
 | _,.dct _ _,_,_,ry=>exact(by unfold ReV at ry;exact ry:False).elim
 | .non,.non,hn,rx,ry=>
  obtain rfl:u=J0:=by unfold ReV at rx;exact rx
  obtain rfl:v=J0:=by unfold ReV at ry;exact ry
  exact⟨EqAt.same _,RcAt.none_none ,RcNeAt.none_none ⟩
 | .non,.bl b2,hn,rx,ry=>
  obtain rfl:u=J0:=by unfold ReV at rx;exact rx
  obtain rfl:v=Ku b2:=by unfold ReV at ry;exact ry
  exact⟨EqAt.none_bool b2,RcAt.none_bool b2,RcNeAt.none_bool b2⟩
 | .non,.int i2,hn,rx,ry=>
  obtain rfl:u=J0:=by unfold ReV at rx;exact rx
  obtain⟨k2,rfl⟩:∃k,v=KL i2 k:=by unfold ReV at ry;exact ry
  exact⟨EqAt.none_int i2 k2,RcAt.none_int i2 k2,RcNeAt.none_int i2 k2⟩
 | .non,.str x2,hn,rx,ry=>
  obtain rfl:u=J0:=by unfold ReV at rx;exact rx
  obtain⟨k2,rfl⟩:∃k,v=KM x2 k:=by unfold ReV at ry;exact ry
  exact⟨EqAt.none_str x2 k2,RcAt.none_str x2 k2,RcNeAt.none_str x2 k2⟩
 | .non,.tup l2,hn,rx,ry=>
  obtain rfl:u=J0:=by unfold ReV at rx;exact rx
  unfold ReV at ry;obtain⟨a2,us2,rfl,h2,q2⟩:=ry
  exact⟨EqAt.none_tuple h2 hu,RcAt.none_tuple h2 hu,RcNeAt.none_tuple h2 hu⟩
 | .non,.lst l2,hn,rx,ry=>
  obtain rfl:u=J0:=by unfold ReV at rx;exact rx
  unfold ReV at ry;obtain⟨a2,us2,rfl,h2,q2⟩:=ry
  exact⟨EqAt.none_list h2 hu,RcAt.none_list h2 hu,RcNeAt.none_list h2 hu⟩
 | .non,.scr l2,hn,rx,ry=>
  obtain rfl:u=J0:=by unfold ReV at rx;exact rx
  unfold ReV at ry;obtain⟨a2,us2,rfl,h2,q2⟩:=ry
  exact⟨EqAt.none_list h2 hu,RcAt.none_list h2 hu,RcNeAt.none_list h2 hu⟩
 | .bl b1,.non,hn,rx,ry=>
  obtain rfl:u=Ku b1:=by unfold ReV at rx;exact rx
  obtain rfl:v=J0:=by unfold ReV at ry;exact ry
  exact⟨EqAt.bool_none b1,RcAt.bool_none b1,RcNeAt.bool_none b1⟩
 | .bl b1,.bl b2,hn,rx,ry=>
  obtain rfl:u=Ku b1:=by unfold ReV at rx;exact rx
  obtain rfl:v=Ku b2:=by unfold ReV at ry;exact ry
  exact⟨EqAt.bool_bool b1 b2,RcAt.bool_bool b1 b2,RcNeAt.bool_bool b1 b2⟩
 | .bl b1,.int i2,hn,rx,ry=>
  obtain rfl:u=Ku b1:=by unfold ReV at rx;exact rx
  obtain⟨k2,rfl⟩:∃k,v=KL i2 k:=by unfold ReV at ry;exact ry
  exact⟨EqAt.bool_int b1 i2 k2,RcAt.bool_int b1 i2 k2,RcNeAt.bool_int b1 i2 k2⟩
 | .bl b1,.str x2,hn,rx,ry=>
  obtain rfl:u=Ku b1:=by unfold ReV at rx;exact rx
  obtain⟨k2,rfl⟩:∃k,v=KM x2 k:=by unfold ReV at ry;exact ry
  exact⟨EqAt.bool_str b1 x2 k2,RcAt.bool_str b1 x2 k2,RcNeAt.bool_str b1 x2 k2⟩
 | .bl b1,.tup l2,hn,rx,ry=>
  obtain rfl:u=Ku b1:=by unfold ReV at rx;exact rx
  unfold ReV at ry;obtain⟨a2,us2,rfl,h2,q2⟩:=ry
  exact⟨EqAt.bool_tuple b1 h2 hu,RcAt.bool_tuple b1 h2 hu,RcNeAt.bool_tuple b1 h2 hu⟩
 | .bl b1,.lst l2,hn,rx,ry=>
  obtain rfl:u=Ku b1:=by unfold ReV at rx;exact rx
  unfold ReV at ry;obtain⟨a2,us2,rfl,h2,q2⟩:=ry
  exact⟨EqAt.bool_list b1 h2 hu,RcAt.bool_list b1 h2 hu,RcNeAt.bool_list b1 h2 hu⟩
 | .bl b1,.scr l2,hn,rx,ry=>
  obtain rfl:u=Ku b1:=by unfold ReV at rx;exact rx
  unfold ReV at ry;obtain⟨a2,us2,rfl,h2,q2⟩:=ry
  exact⟨EqAt.bool_list b1 h2 hu,RcAt.bool_list b1 h2 hu,RcNeAt.bool_list b1 h2 hu⟩
 | .int i1,.non,hn,rx,ry=>
  obtain⟨k1,rfl⟩:∃k,u=KL i1 k:=by unfold ReV at rx;exact rx
  obtain rfl:v=J0:=by unfold ReV at ry;exact ry
  exact⟨EqAt.int_none i1 k1,RcAt.int_none i1 k1,RcNeAt.int_none i1 k1⟩
 | .int i1,.bl b2,hn,rx,ry=>
  obtain⟨k1,rfl⟩:∃k,u=KL i1 k:=by unfold ReV at rx;exact rx
  obtain rfl:v=Ku b2:=by unfold ReV at ry;exact ry
  exact⟨EqAt.int_bool i1 k1 b2,RcAt.int_bool i1 k1 b2,RcNeAt.int_bool i1 k1 b2⟩
 | .int i1,.int i2,hn,rx,ry=>
  obtain⟨k1,rfl⟩:∃k,u=KL i1 k:=by unfold ReV at rx;exact rx
  obtain⟨k2,rfl⟩:∃k,v=KL i2 k:=by unfold ReV at ry;exact ry
  exact⟨EqAt.int_int i1 k1 i2 k2,RcAt.int_int i1 k1 i2 k2,RcNeAt.int_int i1 k1 i2 k2⟩
 | .int i1,.str x2,hn,rx,ry=>
  obtain⟨k1,rfl⟩:∃k,u=KL i1 k:=by unfold ReV at rx;exact rx
  obtain⟨k2,rfl⟩:∃k,v=KM x2 k:=by unfold ReV at ry;exact ry
  exact⟨EqAt.int_str i1 k1 x2 k2,RcAt.int_str i1 k1 x2 k2,RcNeAt.int_str i1 k1 x2 k2⟩
 | .int i1,.tup l2,hn,rx,ry=>
  obtain⟨k1,rfl⟩:∃k,u=KL i1 k:=by unfold ReV at rx;exact rx
  unfold ReV at ry;obtain⟨a2,us2,rfl,h2,q2⟩:=ry
  exact⟨EqAt.int_tuple i1 k1 h2 hu,RcAt.int_tuple i1 k1 h2 hu,RcNeAt.int_tuple i1 k1 h2 hu⟩
 | .int i1,.lst l2,hn,rx,ry=>
  obtain⟨k1,rfl⟩:∃k,u=KL i1 k:=by unfold ReV at rx;exact rx
  unfold ReV at ry;obtain⟨a2,us2,rfl,h2,q2⟩:=ry
  exact⟨EqAt.int_list i1 k1 h2 hu,RcAt.int_list i1 k1 h2 hu,RcNeAt.int_list i1 k1 h2 hu⟩
 | .int i1,.scr l2,hn,rx,ry=>
  obtain⟨k1,rfl⟩:∃k,u=KL i1 k:=by unfold ReV at rx;exact rx
  unfold ReV at ry;obtain⟨a2,us2,rfl,h2,q2⟩:=ry
  exact⟨EqAt.int_list i1 k1 h2 hu,RcAt.int_list i1 k1 h2 hu,RcNeAt.int_list i1 k1 h2 hu⟩
 | .str x1,.non,hn,rx,ry=>
  obtain⟨k1,rfl⟩:∃k,u=KM x1 k:=by unfold ReV at rx;exact rx
  obtain rfl:v=J0:=by unfold ReV at ry;exact ry
  exact⟨EqAt.str_none x1 k1,RcAt.str_none x1 k1,RcNeAt.str_none x1 k1⟩
 | .str x1,.bl b2,hn,rx,ry=>
  obtain⟨k1,rfl⟩:∃k,u=KM x1 k:=by unfold ReV at rx;exact rx
  obtain rfl:v=Ku b2:=by unfold ReV at ry;exact ry
  exact⟨EqAt.str_bool x1 k1 b2,RcAt.str_bool x1 k1 b2,RcNeAt.str_bool x1 k1 b2⟩
 | .str x1,.int i2,hn,rx,ry=>
  obtain⟨k1,rfl⟩:∃k,u=KM x1 k:=by unfold ReV at rx;exact rx
  obtain⟨k2,rfl⟩:∃k,v=KL i2 k:=by unfold ReV at ry;exact ry
  exact⟨EqAt.str_int x1 k1 i2 k2,RcAt.str_int x1 k1 i2 k2,RcNeAt.str_int x1 k1 i2 k2⟩
 | .str x1,.str x2,hn,rx,ry=>
  obtain⟨k1,rfl⟩:∃k,u=KM x1 k:=by unfold ReV at rx;exact rx
  obtain⟨k2,rfl⟩:∃k,v=KM x2 k:=by unfold ReV at ry;exact ry
  exact⟨EqAt.str_str x1 k1 x2 k2,RcAt.str_str x1 k1 x2 k2,RcNeAt.str_str x1 k1 x2 k2⟩
 | .str x1,.tup l2,hn,rx,ry=>
  obtain⟨k1,rfl⟩:∃k,u=KM x1 k:=by unfold ReV at rx;exact rx
  unfold ReV at ry;obtain⟨a2,us2,rfl,h2,q2⟩:=ry
  exact⟨EqAt.str_tuple x1 k1 h2 hu,RcAt.str_tuple x1 k1 h2 hu,RcNeAt.str_tuple x1 k1 h2 hu⟩
 | .str x1,.lst l2,hn,rx,ry=>
  obtain⟨k1,rfl⟩:∃k,u=KM x1 k:=by unfold ReV at rx;exact rx
  unfold ReV at ry;obtain⟨a2,us2,rfl,h2,q2⟩:=ry
  exact⟨EqAt.str_list x1 k1 h2 hu,RcAt.str_list x1 k1 h2 hu,RcNeAt.str_list x1 k1 h2 hu⟩
 | .str x1,.scr l2,hn,rx,ry=>
  obtain⟨k1,rfl⟩:∃k,u=KM x1 k:=by unfold ReV at rx;exact rx
  unfold ReV at ry;obtain⟨a2,us2,rfl,h2,q2⟩:=ry
  exact⟨EqAt.str_list x1 k1 h2 hu,RcAt.str_list x1 k1 h2 hu,RcNeAt.str_list x1 k1 h2 hu⟩
 | .tup l1,.non,hn,rx,ry=>
  unfold ReV at rx;obtain⟨a1,us1,rfl,h1,q1⟩:=rx;obtain rfl:v=J0:=by unfold ReV at ry;exact ry
  exact⟨EqAt.tuple_none h1 hu,RcAt.tuple_none h1 hu,RcNeAt.tuple_none h1 hu⟩
 | .tup l1,.bl b2,hn,rx,ry=>
  unfold ReV at rx;obtain⟨a1,us1,rfl,h1,q1⟩:=rx;obtain rfl:v=Ku b2:=by unfold ReV at ry;exact ry
  exact⟨EqAt.tuple_bool b2 h1 hu,RcAt.tuple_bool b2 h1 hu,RcNeAt.tuple_bool b2 h1 hu⟩
 | .tup l1,.int i2,hn,rx,ry=>
  unfold ReV at rx;obtain⟨a1,us1,rfl,h1,q1⟩:=rx;obtain⟨k2,rfl⟩:∃k,v=KL i2 k:=by unfold ReV at ry;exact ry
  exact⟨EqAt.tuple_int i2 k2 h1 hu,RcAt.tuple_int i2 k2 h1 hu,RcNeAt.tuple_int i2 k2 h1 hu⟩
 | .tup l1,.str x2,hn,rx,ry=>
  unfold ReV at rx;obtain⟨a1,us1,rfl,h1,q1⟩:=rx;obtain⟨k2,rfl⟩:∃k,v=KM x2 k:=by unfold ReV at ry;exact ry
  exact⟨EqAt.tuple_str x2 k2 h1 hu,RcAt.tuple_str x2 k2 h1 hu,RcNeAt.tuple_str x2 k2 h1 hu⟩
 | .tup _,.tup _,hn,_,_=>exact hn.elim
 | .tup l1,.lst l2,hn,rx,ry=>
  unfold ReV at rx;obtain⟨a1,us1,rfl,h1,q1⟩:=rx;unfold ReV at ry;obtain⟨a2,us2,rfl,h2,q2⟩:=ry
  exact⟨EqAt.tuple_list h1 h2 hu,RcAt.tuple_list h1 h2 hu,RcNeAt.tuple_list h1 h2 hu⟩
 | .tup l1,.scr l2,hn,rx,ry=>
  unfold ReV at rx;obtain⟨a1,us1,rfl,h1,q1⟩:=rx;unfold ReV at ry;obtain⟨a2,us2,rfl,h2,q2⟩:=ry
  exact⟨EqAt.tuple_list h1 h2 hu,RcAt.tuple_list h1 h2 hu,RcNeAt.tuple_list h1 h2 hu⟩
 | .lst l1,.non,hn,rx,ry=>
  unfold ReV at rx;obtain⟨a1,us1,rfl,h1,q1⟩:=rx;obtain rfl:v=J0:=by unfold ReV at ry;exact ry
  exact⟨EqAt.list_none h1 hu,RcAt.list_none h1 hu,RcNeAt.list_none h1 hu⟩
 | .lst l1,.bl b2,hn,rx,ry=>
  unfold ReV at rx;obtain⟨a1,us1,rfl,h1,q1⟩:=rx;obtain rfl:v=Ku b2:=by unfold ReV at ry;exact ry
  exact⟨EqAt.list_bool b2 h1 hu,RcAt.list_bool b2 h1 hu,RcNeAt.list_bool b2 h1 hu⟩
 | .lst l1,.int i2,hn,rx,ry=>
  unfold ReV at rx;obtain⟨a1,us1,rfl,h1,q1⟩:=rx;obtain⟨k2,rfl⟩:∃k,v=KL i2 k:=by unfold ReV at ry;exact ry
  exact⟨EqAt.list_int i2 k2 h1 hu,RcAt.list_int i2 k2 h1 hu,RcNeAt.list_int i2 k2 h1 hu⟩
 | .lst l1,.str x2,hn,rx,ry=>
  unfold ReV at rx;obtain⟨a1,us1,rfl,h1,q1⟩:=rx;obtain⟨k2,rfl⟩:∃k,v=KM x2 k:=by unfold ReV at ry;exact ry
  exact⟨EqAt.list_str x2 k2 h1 hu,RcAt.list_str x2 k2 h1 hu,RcNeAt.list_str x2 k2 h1 hu⟩
 | .lst l1,.tup l2,hn,rx,ry=>
  unfold ReV at rx;obtain⟨a1,us1,rfl,h1,q1⟩:=rx;unfold ReV at ry;obtain⟨a2,us2,rfl,h2,q2⟩:=ry
  exact⟨EqAt.list_tuple h1 h2 hu,RcAt.list_tuple h1 h2 hu,RcNeAt.list_tuple h1 h2 hu⟩
 | .lst _,.lst _,hn,_,_=>exact hn.elim
 | .lst _,.scr _,hn,_,_=>exact hn.elim
 | .scr l1,.non,hn,rx,ry=>
  unfold ReV at rx;obtain⟨a1,us1,rfl,h1,q1⟩:=rx;obtain rfl:v=J0:=by unfold ReV at ry;exact ry
  exact⟨EqAt.list_none h1 hu,RcAt.list_none h1 hu,RcNeAt.list_none h1 hu⟩
 | .scr l1,.bl b2,hn,rx,ry=>
  unfold ReV at rx;obtain⟨a1,us1,rfl,h1,q1⟩:=rx;obtain rfl:v=Ku b2:=by unfold ReV at ry;exact ry
  exact⟨EqAt.list_bool b2 h1 hu,RcAt.list_bool b2 h1 hu,RcNeAt.list_bool b2 h1 hu⟩
 | .scr l1,.int i2,hn,rx,ry=>
  unfold ReV at rx;obtain⟨a1,us1,rfl,h1,q1⟩:=rx;obtain⟨k2,rfl⟩:∃k,v=KL i2 k:=by unfold ReV at ry;exact ry
  exact⟨EqAt.list_int i2 k2 h1 hu,RcAt.list_int i2 k2 h1 hu,RcNeAt.list_int i2 k2 h1 hu⟩
 | .scr l1,.str x2,hn,rx,ry=>
  unfold ReV at rx;obtain⟨a1,us1,rfl,h1,q1⟩:=rx;obtain⟨k2,rfl⟩:∃k,v=KM x2 k:=by unfold ReV at ry;exact ry
  exact⟨EqAt.list_str x2 k2 h1 hu,RcAt.list_str x2 k2 h1 hu,RcNeAt.list_str x2 k2 h1 hu⟩
 | .scr l1,.tup l2,hn,rx,ry=>
  unfold ReV at rx;obtain⟨a1,us1,rfl,h1,q1⟩:=rx;unfold ReV at ry;obtain⟨a2,us2,rfl,h2,q2⟩:=ry
  exact⟨EqAt.list_tuple h1 h2 hu,RcAt.list_tuple h1 h2 hu,RcNeAt.list_tuple h1 h2 hu⟩
 | .scr _,.lst _,hn,_,_=>exact hn.elim
 | .scr _,.scr _,hn,_,_=>exact hn.elim
theorem Cn:∀(n:Nat) (A:J9) (s:Jf) (x y:T) (u v:Je),(x.dep<=n\/y.dep<=n)->A.units+n<cLine->ReV s x u->ReV s y v->EqAt A s u v (a6 x y)/\RcAt A s u v (a6 x y)/\RcNeAt A s u v (!a6 x y):=by
 intro n
 induction n with
 | zero=>
  intro A s x y u v hd hu rx ry
  exact uw A s x y u v (by cases x <;> cases y <;> simp_all [jS,T.dep]) (by omega) rx ry
 | succ n ih=>
  intro A s x y u v hd hu rx ry
  have hin:A.in1.units+n<cLine:=by show A.units+1+n<cLine;omega
  have items:∀(l m:List T) (us vs:List Je),(deps l<=n\/deps m<=n)->ReVs s l us->ReVs s m vs->∃e:Nat->Bool,(∀j (h1:j<us.toArray.size) (h2:j<vs.toArray.size),EqAt A.in1 s us.toArray[j] vs.toArray[j] (e j)) ∧
    (∀(j:Nat) t u,l[j]? =some t->m[j]? =some u->e j=a6 t u):=λl m us vs hd r1 r2=>by
   refine⟨λj=>a6 (l.getD j .non) (m.getD j .non),λj h1 h2=> ?_,λj t u e1 e2=>by simp[List.getD,e1,e2]⟩
   have l1:=r1.length
   have l2:=r2.length
   have h1':j<l.length:=by rw[l1];simpa using h1
   have h2':j<m.length:=by rw[l2];simpa using h2
   have e1:l[j]? =some l[j]:=by simp
   have e2:m[j]? =some m[j]:=by simp
   obtain⟨u1,z1,w1⟩:=r1.get e1;obtain⟨u2,z2,w2⟩:=r2.get e2
   have q1:us.toArray[j] =u1:=by
    have:us[j]? =some us.toArray[j]:=by simp
    rw[z1]at this;exact(JU this).symm
   have q2:vs.toArray[j] =u2:=by
    have:vs[j]? =some vs.toArray[j]:=by simp
    rw[z2]at this;exact(JU this).symm
   rw[q1,q2]
   have g1:l.getD j .non=l[j]:=by simp[List.getD,e1]
   have g2:m.getD j .non=m[j]:=by simp[List.getD,e2]
   show EqAt A.in1 s u1 u2 (a6 (l.getD j .non) (m.getD j .non))
   rw[g1,g2];refine(ih A.in1 s l[j] m[j] u1 u2 ?_ hin w1 w2).1
   rcases hd with hd | hd
   ·exact .inl (Ka (jH e1) hd)
   ·exact .inr (Ka (jH e2) hd)
  have lists:∀(l m:List T) (a b:Addr) (us vs:List Je),(deps l<=n\/deps m<=n)->ReVs s l us->ReVs s m vs->s.heap.IsList a us.toArray->s.heap.IsList b vs.toArray →
    EqAt A s (.ref a) (.ref b) (beqTs l m)/\RcAt A s (.ref a) (.ref b) (beqTs l m)/\RcNeAt A s (.ref a) (.ref b) (!beqTs l m):=λl m a b us vs hd r1 r2 h1 h2=>by
   have l1:=r1.length
   have l2:=r2.length
   have key:RcAt A s (.ref a) (.ref b) (beqTs l m)/\RcNeAt A s (.ref a) (.ref b) (!beqTs l m):=by
    by_cases hl:l.length=m.length
    ·obtain⟨e,he,hb⟩:=items l m us vs hd r1 r2
     have q:=mm l m e hb
     have q2:beqTs l m=(Js us.toArray.size).all e:=by
      rw[q,hl,Nat.min_self];simp[l2.symm,hl.symm,l1]
     rw[q2]
     have hsz:us.toArray.size=vs.toArray.size:=by simp;omega
     exact⟨RcAt.lists h1 h2 hsz (by omega) he,RcNeAt.lists h1 h2 hsz (by omega) he⟩
    ·rw[qF hl]
     have hsz:(us.toArray.size != vs.toArray.size)=true:=by simp;omega
     exact⟨RcAt.lists_lengths h1 h2 hsz (by omega),RcNeAt.lists_lengths h1 h2 hsz (by omega)⟩
   refine⟨?_,key⟩
   by_cases hab:a=b
   ·subst hab
    have:=dv h1 h2;subst this;rw[ReVs.refl r1 r2];exact EqAt.same _
   ·exact EqAt.of_refs hab key.1
  cases x with
  | tup l=>
   cases y with
   | tup m=>
    unfold ReV at rx ry;obtain⟨a,us,rfl,h1,r1⟩:=rx;obtain⟨b,vs,rfl,h2,r2⟩:=ry
    have hd':deps l<=n\/deps m<=n:=by
     simp only[T.dep]at hd;omega
    have l1:=r1.length
    have l2:=r2.length;obtain⟨e,he,hb⟩:=items l m us vs hd' r1 r2
    have q:=mm l m e hb
    have q2:beqTs l m=((Js (min us.toArray.size vs.toArray.size)).all e&&us.toArray.size == vs.toArray.size):=by
     rw[q];simp[l1,l2]
    have key:RcAt A s (.ref a) (.ref b) (beqTs l m)/\RcNeAt A s (.ref a) (.ref b) (!beqTs l m):=by
     rw[q2];exact⟨RcAt.tuples h1 h2 (by omega) he,RcNeAt.tuples h1 h2 (by omega) he⟩
    unfold a6;refine⟨?_,key⟩
    by_cases hab:a=b
    ·subst hab
     have:=jC h1 h2;subst this;rw[ReVs.refl r1 r2];exact EqAt.same _
    ·exact EqAt.of_refs hab key.1
   | _=>exact uw A s _ _ u v (by simp[jS]) (by omega) rx ry
  | lst l=>
   cases y with
   | lst m=>
    unfold ReV at rx ry;obtain⟨a,us,rfl,h1,r1⟩:=rx;obtain⟨b,vs,rfl,h2,r2⟩:=ry;unfold a6
    exact lists l m a b us vs (by simp only[T.dep]at hd;omega) r1 r2 h1 h2
   | scr m=>
    unfold ReV at rx ry;obtain⟨a,us,rfl,h1,r1⟩:=rx;obtain⟨b,vs,rfl,h2,r2⟩:=ry;unfold a6
    exact lists l (m.map T.int) a b us vs (by rw[gF];omega) r1 (eY r2) h1 h2
   | _=>exact uw A s _ _ u v (by simp[jS]) (by omega) rx ry
  | scr l=>
   cases y with
   | lst m=>
    unfold ReV at rx ry;obtain⟨a,us,rfl,h1,r1⟩:=rx;obtain⟨b,vs,rfl,h2,r2⟩:=ry;unfold a6;rw[o7]
    exact lists (l.map T.int) m a b us vs (by rw[gF];omega) (eY r1) r2 h1 h2
   | scr m=>
    unfold ReV at rx ry;obtain⟨a,us,rfl,h1,r1⟩:=rx;obtain⟨b,vs,rfl,h2,r2⟩:=ry;unfold a6;rw[qQ]
    exact lists (l.map T.int) (m.map T.int) a b us vs (by rw[gF];omega) (eY r1) (eY r2) h1 h2
   | _=>exact uw A s _ _ u v (by simp[jS]) (by omega) rx ry
  | _=>exact uw A s _ _ u v (by simp[jS]) (by omega) rx ry
mutual
def T.nf:T->T
 | .tup l=> .tup (nfs l)
 | .lst l=> .lst (nfs l)
 | .scr l=> .lst (l.map .int)
 | .non=> .non
 | .bl b=> .bl b
 | .int b=> .int b
 | .str b=> .str b
 | .dct a b=> .dct a b
def nfs:List T->List T
 | [] => []
 | t::l=>t.nf::nfs l
end
theorem ua:∀(l:List Int),nfs (l.map T.int)=l.map T.int
 | [] =>rfl
 | i::l=>by rw[Jb,nfs,ua l];simp[T.nf]
mutual
theorem lO:∀(t x:T),a6 t.nf x=a6 t x
 | .non,x=>by simp[T.nf]
 | .bl _,x=>by simp[T.nf]
 | .int _,x=>by simp[T.nf]
 | .str _,x=>by simp[T.nf]
 | .tup l,x=>by cases x <;> simp[T.nf,a6,beqTs_nf l]
 | .lst l,x=>by cases x <;> simp[T.nf,a6,beqTs_nf l]
 | .scr l,x=>by cases x <;> simp[T.nf,a6,o7,qQ]
 | .dct _ _,x=>by simp[T.nf]
theorem beqTs_nf:∀(l m:List T),beqTs (nfs l) m=beqTs l m
 | [],m=>by simp[nfs]
 | t::l,m=>by cases m <;> simp[nfs,beqTs,lO t,beqTs_nf l]
end
theorem E8 {s:Jf}{t:T}{i:Int}{k:Tok}(r:ReV s t (.int i k)):t.nf= .int i:=by
 cases t with
 | non=>unfold ReV at r;cases r
 | bl b=>unfold ReV at r;cases r
 | int j=>unfold ReV at r;obtain⟨t,e⟩:=r;injection e with e1 _;subst e1;rfl
 | str x=>unfold ReV at r;obtain⟨t,e⟩:=r;cases e
 | tup l=>unfold ReV at r;obtain⟨a,its,e,_⟩:=r;cases e
 | lst l=>unfold ReV at r;obtain⟨a,its,e,_⟩:=r;cases e
 | scr l=>unfold ReV at r;obtain⟨a,its,e,_⟩:=r;cases e
 | dct _ _=>unfold ReV at r;exact r.elim
theorem wy {s:Jf}:∀{l:List T} {us:List Je} {ns:List Int},ReVs s l us->MK us ns->nfs l=ns.map T.int
 | [],us,ns,r,h=>by cases ReVs.HB.mp r;cases h;rfl
 | t::l,us,ns,r,h=>by
  obtain⟨u,ws,rfl,p,q⟩:=ReVs.me.mp r
  cases h with
  | cons a b hh=>rw[nfs,E8 p,wy q hh];rfl
mutual
theorem ReV.nf {s:Jf}:∀{t u:T} {v:Je},ReV s t v->ReV s u v->t.nf=u.nf
 | .non,u,v,r,q=>by
  unfold ReV at r;subst r
  cases u <;> (unfold ReV at q) <;> first | rfl | (cases q;done) | (obtain⟨_,e⟩:=q;cases e;done) | (obtain⟨_,_,e,_⟩:=q;cases e;done)
 | .bl b,u,v,r,q=>by
  unfold ReV at r;subst r
  cases u <;> (unfold ReV at q) <;> first | (cases q;done) | (cases q;rfl) | (obtain⟨_,e⟩:=q;cases e;done) | (obtain⟨_,_,e,_⟩:=q;cases e;done)
 | .int b,u,v,r,q=>by
  unfold ReV at r;obtain⟨k,rfl⟩:=r
  cases u <;> (unfold ReV at q) <;> first | (cases q;done) | (obtain⟨_,e⟩:=q;cases e;done) | (obtain⟨_,e⟩:=q;cases e;rfl) | (obtain⟨_,_,e,_⟩:=q;cases e;done)
 | .str b,u,v,r,q=>by
  unfold ReV at r;obtain⟨k,rfl⟩:=r
  cases u <;> (unfold ReV at q) <;> first | (cases q;done) | (obtain⟨_,e⟩:=q;cases e;done) | (obtain⟨_,e⟩:=q;cases e;rfl) | (obtain⟨_,_,e,_⟩:=q;cases e;done)
 | .tup l,u,v,r,q=>by
  unfold ReV at r;obtain⟨a,its,rfl,h1,h2⟩:=r
  cases u with
  | non=>unfold ReV at q;cases q
  | dct _ _=>unfold ReV at q;exact q.elim
  | bl _=>unfold ReV at q;cases q
  | int _=>unfold ReV at q;obtain⟨_,e⟩:=q;cases e
  | str _=>unfold ReV at q;obtain⟨_,e⟩:=q;cases e
  | tup m=>
   unfold ReV at q;obtain⟨a',its',e,h1',h2'⟩:=q;injection e with e;subst e
   have:=jC h1 h1';subst this;unfold T.nf
   rw[ReVs.nf h2 h2']
  | lst m=>unfold ReV at q;obtain⟨a',its',e,h1',h2'⟩:=q;injection e with e;subst e;exact absurd rfl (ne_of_list_tuple h1' h1)
  | scr m=>unfold ReV at q;obtain⟨a',its',e,h1',h2'⟩:=q;injection e with e;subst e;exact absurd rfl (ne_of_list_tuple h1' h1)
 | .lst l,u,v,r,q=>by
  unfold ReV at r;obtain⟨a,its,rfl,h1,h2⟩:=r
  cases u with
  | non=>unfold ReV at q;cases q
  | dct _ _=>unfold ReV at q;exact q.elim
  | bl _=>unfold ReV at q;cases q
  | int _=>unfold ReV at q;obtain⟨_,e⟩:=q;cases e
  | str _=>unfold ReV at q;obtain⟨_,e⟩:=q;cases e
  | lst m=>
   unfold ReV at q;obtain⟨a',its',e,h1',h2'⟩:=q;injection e with e;subst e
   have:=dv h1 h1';subst this;unfold T.nf
   rw[ReVs.nf h2 h2']
  | tup m=>unfold ReV at q;obtain⟨a',its',e,h1',h2'⟩:=q;injection e with e;subst e;exact absurd rfl (ne_of_list_tuple h1 h1')
  | scr m=>
   unfold ReV at q;obtain⟨a',its',e,h1',h2'⟩:=q;injection e with e;subst e
   have:=dv h1 h1';subst this;unfold T.nf
   rw[ReVs.nf h2 (eY h2'),ua]
 | .scr l,u,v,r,q=>by
  unfold ReV at r;obtain⟨a,its,rfl,h1,h2⟩:=r
  cases u with
  | non=>unfold ReV at q;cases q
  | dct _ _=>unfold ReV at q;exact q.elim
  | bl _=>unfold ReV at q;cases q
  | int _=>unfold ReV at q;obtain⟨_,e⟩:=q;cases e
  | str _=>unfold ReV at q;obtain⟨_,e⟩:=q;cases e
  | lst m=>
   unfold ReV at q;obtain⟨a',its',e,h1',h2'⟩:=q;injection e with e;subst e
   have:=dv h1 h1';subst this
   have z:=wy h2' h2;unfold T.nf
   rw[z]
  | tup m=>unfold ReV at q;obtain⟨a',its',e,h1',h2'⟩:=q;injection e with e;subst e;exact absurd rfl (ne_of_list_tuple h1 h1')
  | scr m=>
   unfold ReV at q;obtain⟨a',its',e,h1',h2'⟩:=q;injection e with e;subst e
   have:=dv h1 h1';subst this
   rw[jD h2 h2']
 | .dct _ _,u,v,r,q=>by unfold ReV at r;exact r.elim
theorem ReVs.nf {s:Jf}:∀{l m:List T} {us:List Je},ReVs s l us->ReVs s m us->nfs l=nfs m
 | [],m,us,r,q=>by
  cases ReVs.HB.mp r
  cases m with
  | nil=>rfl
  | cons _ _=>obtain⟨_,_,e,_⟩:=ReVs.me.mp q;cases e
 | t::l,m,us,r,q=>by
  obtain⟨v,ws,rfl,p,z⟩:=ReVs.me.mp r
  cases m with
  | nil=>cases ReVs.HB.mp q
  | cons u m=>
   obtain⟨v',ws',e,p',z'⟩:=ReVs.me.mp q;injection e with e1 e2
   subst e1 e2;rw[nfs,nfs,ReV.nf p p',ReVs.nf z z']
end
section
variable {X:Cx}{a b c:Expr}{fa fb fc:En->Rs T}{pos:Pos}
def gY (x y:T):Bool:=(decide (x.dep<=60)||decide (y.dep<=60))&&(x.nd&&y.nd)
def nF (x y:T):Rs T:=if gY x y=true then .ok (.bl (a6 x y))else .bad
def jg (x y:T):Rs T:=if gY x y=true then .ok (.bl (!a6 x y))else .bad
theorem iF {x y:T}(h:x.dep<=60)(hx:x.nd=true)(hy:y.nd=true):gY x y=true:=by unfold gY;rw[decide_eq_true h,hx,hy];rfl
theorem oR {x y:T}(h:y.dep<=60)(hx:x.nd=true)(hy:y.nd=true):gY x y=true:=by unfold gY;rw[decide_eq_true h,hx,hy,Bool.or_true];rfl
theorem j4 {x y:T}(h:gY x y=true):x.nd=true/\y.nd=true:=by
 unfold gY at h;exact KY.mp (KY.mp h).2
theorem qr {x y:T}(h:gY x y=true):x.dep<=60\/y.dep<=60:=by
 unfold gY at h
 replace h:=(KY.mp h).1
 rcases Bool.or_eq_true_iff.mp h with h | h
 ·exact .inl (of_decide_eq_true h)
 ·exact .inr (of_decide_eq_true h)
theorem og (hu:X.A.units+60<cLine):OpT X (JY .Eq) nF:=by
 intro pins s σ H O x y vx vy ux uy Q I hf rx ry r1 r2 hp;unfold nF at hp
 split at hp
 ·rename_i h
  have z:=Cn 60 X.A s x y ux uy (qr h) hu (Rep.val I (j4 h).1 rx r1) (Rep.val I (j4 h).2 ry r2);exact z.2.1 _ _ _ _ ⟨.bl _,H,I,rfl,hp H (Same.refl H) _ (Rep.bl_ _)⟩
 ·exact hp.elim
theorem jv (hu:X.A.units+60<cLine):OpT X (JY .NotEq) jg:=by
 intro pins s σ H O x y vx vy ux uy Q I hf rx ry r1 r2 hp;unfold jg at hp
 split at hp
 ·rename_i h
  have z:=Cn 60 X.A s x y ux uy (qr h) hu (Rep.val I (j4 h).1 rx r1) (Rep.val I (j4 h).2 ry r2);exact z.2.2 _ _ _ _ ⟨.bl _,H,I,rfl,hp H (Same.refl H) _ (Rep.bl_ _)⟩
 ·exact hp.elim
def T.items:T->Option (List T)
 | .tup l=>some l
 | .lst l=>some l
 | .scr l=>some (l.map T.int)
 | _=>none
def jd (x:T)(l:List T):Bool:=l.any λy=>a6 y x
def FC (x y:T):Rs T:=match y.items with
 | some l=>if (x.dep<=60\/deps l<=60)/\x.nd=true/\y.nd=true then .ok (.bl (jd x l))else .bad
 | none=> .bad
def rM (x y:T):Rs T:=match y.items with
 | some l=>if (x.dep<=60\/deps l<=60)/\x.nd=true/\y.nd=true then .ok (.bl (!jd x l))else .bad
 | none=> .bad
theorem wb {A:J9}{s:Jf}{x:T}{ux:Je}(rx:ReV s x ux)(hu:A.units+60<cLine){l:List T}{us:List Je}(hd:x.dep<=60\/deps l<=60)(r:ReVs s l us) :
  ∃e:Je->Bool,(∀y∈us,EqAt A s y ux (e y))/\us.any e=jd x l:=by
 classical
 have ex:∀y∈us,∃t∈l,ReV s t y:=λy hy=>by
  obtain⟨i,hi,rfl⟩:=Ls hy
  have hl:=r.length
  have e1:l[i]? =some l[i]:=by simp
  obtain⟨u,q1,q2⟩:=r.get e1
  have:us[i]? =some us[i]:=by simp
  rw[this]at q1;cases q1;exact⟨l[i],KU _,q2⟩
 let e:Je->Bool:=λy=>decide (∃t∈l,ReV s t y/\a6 t x=true)
 have dep:∀t∈l,t.dep<=60\/x.dep<=60:=λt ht=>by
  rcases hd with h | h
  ·exact .inr h
  ·obtain⟨i,hi,rfl⟩:=Ls ht
   exact .inl (Ka (jH (i:=i) (by simp)) h)
 have uniq:∀y t t',ReV s t y->ReV s t' y->a6 t x=a6 t' x:=λy t t' z z'=>by
  rw[<-lO t,<-lO t',ReV.nf z z']
 have agree:∀y t,t∈l->ReV s t y->e y=a6 t x:=λy t h z=>by
  show decide (∃t∈l,ReV s t y/\a6 t x=true)=a6 t x
  cases q:a6 t x with
  | true=>exact decide_eq_true ⟨t,h,z,q⟩
  | false=>
   refine decide_eq_false ?_
   rintro ⟨t',h',z',q'⟩
   rw[<-uniq y t t' z z',q]at q';cases q'
 refine⟨e,λy hy=> ?_,?_⟩
 ·obtain⟨t,h,z⟩:=ex y hy
  rw[agree y t h z];exact(Cn 60 A s t x y ux (dep t h) hu z rx).1
 ·have go:∀(l':List T) (us':List Je),(∀t∈l',t∈l)->ReVs s l' us'->us'.any e=l'.any λy=>a6 y x:=by
   intro l'
   induction l' with
   | nil=>intro us' _ r';rw[ReVs.HB.mp r'];rfl
   | cons t l' ih=>
    intro us' sub r';obtain⟨u,ws,rfl,p,q⟩:=ReVs.me.mp r';rw[Lu,Lu,ih ws (λt ht=>sub t (IZ _ ht)) q,agree u t (sub t Ja) p]
  exact go l us (λ_ h=>h) r
theorem qk {s:Jf}{y:T}{u:Je}{l:List T}(r:ReV s y u)(h:y.items=some l):∃a us,u= .ref a/\ReVs s l us/\(s.heap.IsTuple a us.toArray\/s.heap.IsList a us.toArray):=by
 cases y with
 | tup m=>cases h;unfold ReV at r;obtain⟨a,us,e,h1,h2⟩:=r;exact⟨a,us,e,h2,.inl h1⟩
 | lst m=>cases h;unfold ReV at r;obtain⟨a,us,e,h1,h2⟩:=r;exact⟨a,us,e,h2,.inr h1⟩
 | scr m=>cases h;unfold ReV at r;obtain⟨a,us,e,h1,h2⟩:=r;exact⟨a,us,e,eY h2,.inr h1⟩
 | _=>cases h
theorem Gq (hu:X.A.units+61<cLine):OpT X (JY .In) FC:=by
 intro pins s σ H O x y vx vy ux uy Q I hf rx ry r1 r2 hp;unfold FC at hp
 split at hp
 ·rename_i l hl
  split at hp
  ·rename_i hd3
   obtain⟨hd,hnx,hny⟩:=hd3;obtain⟨a,us,rfl,rs,hh⟩:=qk (Rep.val I hny ry r2) hl;obtain⟨e,he,ha⟩:=wb (A:=X.A.in1) (Rep.val I hnx rx r1) (by show X.A.units+1+60<cLine;omega) hd rs
   have q:=hp H (Same.refl H) _ (Rep.bl_ (jd x l))
   have he':∀y,y∈us.toArray->EqAt X.A.in1 s y ux (e y):=λy hy=>he y (by simpa using hy)
   have ha':us.toArray.any e=jd x l:=by simpa using ha
   rcases hh with hh | hh
   ·exact in_tupleAt e hh he' (by rw[ha'];exact⟨.bl _,H,I,rfl,q⟩)
   ·exact in_listAt e hh he' (by rw[ha'];exact⟨.bl _,H,I,rfl,q⟩)
  ·exact hp.elim
 ·exact hp.elim
theorem zj (hu:X.A.units+61<cLine):OpT X (JY .NotIn) rM:=by
 intro pins s σ H O x y vx vy ux uy Q I hf rx ry r1 r2 hp;unfold rM at hp
 split at hp
 ·rename_i l hl
  split at hp
  ·rename_i hd3
   obtain⟨hd,hnx,hny⟩:=hd3;obtain⟨a,us,rfl,rs,hh⟩:=qk (Rep.val I hny ry r2) hl;obtain⟨e,he,ha⟩:=wb (A:=X.A.in1) (Rep.val I hnx rx r1) (by show X.A.units+1+60<cLine;omega) hd rs
   have q:=hp H (Same.refl H) _ (Rep.bl_ (!jd x l))
   have he':∀y,y∈us.toArray->EqAt X.A.in1 s y ux (e y):=λy hy=>he y (by simpa using hy)
   have ha':us.toArray.any e=jd x l:=by simpa using ha
   rcases hh with hh | hh
   ·exact notIn_tupleAt e hh he' (by rw[ha'];exact⟨.bl _,H,I,rfl,q⟩)
   ·exact notIn_listAt e hh he' (by rw[ha'];exact⟨.bl _,H,I,rfl,q⟩)
  ·exact hp.elim
 ·exact hp.elim
def ch (g g':T->T->Rs T)(fa fb fc:En->Rs T)(Z:En):Rs T:=do
 let x <-fa Z
 let y <-fb Z
 let z <-g x y
 match z with
 | .bl true=>do
  let w <-fc Z
  g' y w
 | .bl false=> .ok (.bl false)
 | _=> .bad
theorem BI {op op':Qt}{g g':T->T->Rs T}(ho:OpT X (JY op) g)(ho':OpT X (JY op') g')(ha:cN X a fa)(hb:cN X b fb)(hc:cN X c fc)
  (hm:Qo [op,op'] [b,c] =false:=by with_unfolding_all rfl):cN X (.Compare a [op,op'] [b,c] pos) (ch g g' fa fb fc):=by
 intro pins s σ H Q I ⟨Z,O,E,hq⟩
 have h1:=aZ E hq;refine Compare_chain (cG (ha pins s σ H _ I h1) λv s1 ⟨x,H1,I1,r1,t,rt,s',E',q1⟩=>chain_link ?_) hm
 have h2:=aZ (f:=fb) E' q1;refine cG (hb pins s1 σ H1 _ I1 h2) λu s2 hh_=> ?_
 obtain⟨y,H2,I2,r2,t2,rt2,s'',E'',q2⟩:=hh_
 refine cG (ho pins s2 σ H2 O t t2 x y v u (λv' H'=> ∃t',Rep X.K O H' t' v'/\Same H2 H'/\Post X H' (match t' with
  | .bl true=>fc Z >>= λw=>g' t2 w
  | .bl false=> .ok (.bl false)
  | _=> .bad) (λt H'=> ∀v,Rep X.K O H' t v->Q v H')) I2 (λp=>E''.fresh) (rt.same s'') rt2 r1 r2 (Post.mono q2.bind λt' H' s3 q v rv=>⟨t',rv,s3,q⟩)) λd s3 ⟨z,H3,I3,r3,t3,rt3,sm3,q3⟩=> ?_
 have E3:=E''.same sm3
 split at q3
 ·cases Rep.HE.mp rt3
  cases r3;refine Kg (ite_tt (chain_last ?_))
  have h4:=aZ (f:=fc) E3 q3;refine cG (hc pins s3 σ H3 _ I3 h4) λw' s4 ⟨z',H4,I4,r4,t4,rt4,s4',E4,q4⟩=> ?_
  exact ho' pins s4 σ H4 O t2 t4 y z' u w' Q I4 (λp=>E4.fresh) ((rt2.same sm3).same s4') rt4 r2 r4 q4
 ·cases Rep.HE.mp rt3
  cases r3;refine Kg (ite_ff ⟨.bl false,H3,I3,rfl,q3 H3 (Same.refl H3) _ (Rep.bl_ false)⟩)
 ·exact q3.elim
def tb (f:En->Rs T)(Z:En):Rs Bool:=do
 let x <-f Z
 match x with
 | .bl k=> .ok k
 | _=> .bad
def bt (f:En->Rs Bool)(Z:En):Rs T:=do
 let k <-f Z
 .ok (.bl k)
theorem DH {e:Expr}{f:En->Rs T}(h:cN X e f)(he:∀whole,isTrue e X.env whole=(do let v <-whole;standAt e.pos;holding [v] (truthy v)):=by intro _;rfl):uO X e (tb f):=by
 intro pins s σ H Q I ⟨Z,O,E,hq⟩;refine Ea h he pins s σ H Q I ?_
 obtain⟨Z1,O1,E1,h1⟩:=aZ E hq;refine⟨Z1,O1,E1,Post.mono h1 λts H1 s1 q vs r=> ?_⟩
 obtain⟨t',r',s',E',q'⟩:=q vs r
 split at q'
 ·exact⟨_,Rep.HE.mp r',q' H1 (Same.refl H1)⟩
 ·exact q'.elim
theorem DJ {op:Qt}{g:T->T->Rs T}(ho:OpT X (JY op) g)(ha:cN X a fa)(hb:cN X b fb)(hm:NH op b=false:=by rfl):uO X (.Compare a [op] [b] pos) (tb (o2 g fa fb)):=by
 intro pins s σ H Q I ⟨Z,O,E,hq⟩
 have hq':Post X H (o2 g fa fb Z) λt H'=> ∀v,Rep X.K O H' t v->∃k,v= .bl k/\Q k H':=Post.mono hq.bind λt H' s' q v r=>by
  split at q
  ·exact⟨_,Rep.HE.mp r,q H' (Same.refl H')⟩
  ·exact q.elim
 have h1:=aZ E hq';refine wpAny_isTrue_Compare1 (cG (ha pins s σ H _ I h1) λv s1 ⟨x,H1,I1,r1,t,rt,s',E',q1⟩=> ?_) hm
 have h2:=aZ (f:=fb) E' q1;refine cG (hb pins s1 σ H1 _ I1 h2) λu s2 hh_=> ?_
 obtain⟨y,H2,I2,r2,t2,rt2,s'',E'',q2⟩:=hh_;refine cG (ho pins s2 σ H2 O t t2 x y v u _ I2 (λp=>E''.fresh) (rt.same s'') rt2 r1 r2 q2) λd s3 hh_=> ?_
 obtain⟨z,H3,I3,r3,k,e,q3⟩:=hh_;subst e;cases r3;exact Kg ⟨H3,I3,q3⟩
def o9 (f g:En->Rs Bool)(Z:En):Rs Bool:=do
 let k <-f Z
 if k then g Z else .ok false
def je (f g:En->Rs Bool)(Z:En):Rs Bool:=do
 let k <-f Z
 if k then .ok true else g Z
def cL (f:En->Rs Bool)(Z:En):Rs Bool:=do
 let k <-f Z
 .ok (!k)
variable {f g:En->Rs Bool}{rest:List Expr}
abbrev Df (X:Cx)(e:Expr)(f:En->Rs Bool):Prop:=PW X e (yc X f)
theorem Bt (ha:uO X a f):Df X (.BoolOp .And [a] pos) f:=BK ha
theorem DF (ha:uO X a f):Df X (.BoolOp .Or [a] pos) f:=D8 ha
theorem DG (ha:uO X a f)(hb:Df X (.BoolOp .And (b::rest) pos) g):Df X (.BoolOp .And (a::b::rest) pos) (o9 f g):=by
 intro wh pins s σ H Q I ⟨Z,O,E,hq⟩;refine D9 ha hb wh pins s σ H Q I ?_
 obtain⟨Z1,O1,E1,h1⟩:=k4 E hq;refine⟨Z1,O1,E1,Post.mono h1 λk H1 s1 q=> ?_⟩
 obtain⟨s',E',q'⟩:=q
 cases k with
 | true=>rw[if_pos rfl];exact⟨Z,O,E',by simpa using q'⟩
 | false=>rw[if_neg Jy];exact q' H1 (Same.refl H1)
theorem FZ (ha:uO X a f)(hb:Df X (.BoolOp .Or (b::rest) pos) g):Df X (.BoolOp .Or (a::b::rest) pos) (je f g):=by
 intro wh pins s σ H Q I ⟨Z,O,E,hq⟩;refine Gj ha hb wh pins s σ H Q I ?_
 obtain⟨Z1,O1,E1,h1⟩:=k4 E hq;refine⟨Z1,O1,E1,Post.mono h1 λk H1 s1 q=> ?_⟩
 obtain⟨s',E',q'⟩:=q
 cases k with
 | true=>rw[if_pos rfl];exact q' H1 (Same.refl H1)
 | false=>rw[if_neg Jy];exact⟨Z,O,E',by simpa using q'⟩
theorem qt_w {e:Expr}(h:Df X e f):uO X e f:=h.pt
theorem DI (ha:uO X a f):uO X (.UnaryOp .Not a pos) (cL f):=by
 intro pins s σ H Q I ⟨Z,O,E,hq⟩;refine Eb ha pins s σ H Q I ?_
 obtain⟨Z1,O1,E1,h1⟩:=k4 E hq;exact⟨Z1,O1,E1,Post.mono h1 λk H1 s1 ⟨s',E',q'⟩=>q' H1 (Same.refl H1)⟩
def cD (f g:En->Rs T)(Z:En):Rs T:=do
 let x <-f Z
 match x with
 | .bl true=>g Z
 | .bl false=> .ok (.bl false)
 | _=> .bad
def AZ (f g:En->Rs T)(Z:En):Rs T:=do
 let x <-f Z
 match x with
 | .bl true=> .ok (.bl true)
 | .bl false=>g Z
 | _=> .bad
def xv:T->Rs T
 | .bl k=> .ok (.bl (!k))
 | _=> .bad
theorem F8 {op}(h:cN X a fa):cN X (.BoolOp op [a] pos) fa:=El h
theorem Gi (ha:cN X a fa)(hb:cN X (.BoolOp .And (b::rest) pos) fb):cN X (.BoolOp .And (a::b::rest) pos) (cD fa fb):=by
 intro pins s σ H Q I ⟨Z,O,E,hq⟩;refine Er ha hb pins s σ H Q I ?_
 obtain⟨Z1,O1,E1,h1⟩:=aZ E hq;refine⟨Z1,O1,E1,Post.mono h1 λts H1 s1 q vs r=> ?_⟩
 obtain⟨t',r',s',E',q'⟩:=q vs r
 split at q'
 ·exact⟨true,Rep.HE.mp r',by rw[if_pos rfl];exact⟨Z,O,E',q'⟩⟩
 ·exact⟨false,Rep.HE.mp r',by rw[if_neg Jy];exact q' H1 (Same.refl H1) _ (Rep.bl_ false)⟩
 ·exact q'.elim
theorem q_or (ha:cN X a fa)(hb:cN X (.BoolOp .Or (b::rest) pos) fb):cN X (.BoolOp .Or (a::b::rest) pos) (AZ fa fb):=by
 intro pins s σ H Q I ⟨Z,O,E,hq⟩;refine Go ha hb pins s σ H Q I ?_
 obtain⟨Z1,O1,E1,h1⟩:=aZ E hq;refine⟨Z1,O1,E1,Post.mono h1 λts H1 s1 q vs r=> ?_⟩
 obtain⟨t',r',s',E',q'⟩:=q vs r
 split at q'
 ·exact⟨true,Rep.HE.mp r',by rw[if_pos rfl];exact q' H1 (Same.refl H1) _ (Rep.bl_ true)⟩
 ·exact⟨false,Rep.HE.mp r',by rw[if_neg Jy];exact⟨Z,O,E',q'⟩⟩
 ·exact q'.elim
theorem F9 (ha:cN X a fa):cN X (.UnaryOp .Not a pos) (o1 xv fa):=by
 intro pins s σ H Q I ⟨Z,O,E,hq⟩;refine Em ha pins s σ H Q I ?_
 obtain⟨Z1,O1,E1,h1⟩:=aZ E hq;refine⟨Z1,O1,E1,Post.mono h1 λts H1 s1 q vs r=> ?_⟩
 obtain⟨t',r',s',E',q'⟩:=q vs r;unfold xv at q'
 split at q'
 ·exact⟨_,Rep.HE.mp r',q' H1 (Same.refl H1) _ (Rep.bl_ _)⟩
 ·exact q'.elim
def pj (f:En->Rs Bool)(fa fb:En->Rs T)(Z:En):Rs T:=do
 let k <-f Z
 if k then fa Z else fb Z
theorem q_if (hc:uO X c f)(ha:cN X a fa)(hb:cN X b fb):cN X (.IfExp c a b pos) (pj f fa fb):=by
 intro pins s σ H Q I ⟨Z,O,E,hq⟩;refine zd hc ha hb pins s σ H Q I ?_
 obtain⟨Z1,O1,E1,h1⟩:=k4 E hq;refine⟨Z1,O1,E1,Post.mono h1 λk H1 s1 q=> ?_⟩
 obtain⟨s',E',q'⟩:=q
 cases k with
 | true=>rw[if_pos rfl];exact⟨Z,O,E',by simpa using q'⟩
 | false=>rw[if_neg Jy];exact⟨Z,O,E',by simpa using q'⟩
end
end Tr
namespace HT
open PySem PyProof.Rows
section
variable {prog:JI}{w:Kr}{A:J9}{E:Je->Jf->Prop}{s:Jf}
theorem kg {t:Addr}{items:Array Je}{Q:Bool->Jf->Prop}(ht:Qs s.heap t items)(h:Q true s):wpAny (model prog w) A (M6 (.ref t)) Q E s:=by
 unfold M6;refine IW (L6 ht.typeIs (Jg ?_))
 exact h
theorem getItem_tuple_whole {t sl:Addr}{items:Array Je}{vl vu:Je}{lo hi:Option Int}{Q:Je->Jf->Prop}(ht:Qs s.heap t items)(hs:s.heap.IsSliceOf sl vl vu .none)(pl:O9 vl lo)(pu:O9 vu hi)
  (hw:sIx items.size 0 lo=0/\sIx items.size items.size hi=items.size) (h:Q (.ref t) s):wpAny (model prog w) A (getItem (.ref t) (.ref sl)) Q E s:=by
 obtain⟨os,hos,hcs,hds⟩:=id hs
 have hTs:s.TypeIs (.ref sl) "slice":=⟨os,hos,hcs⟩;unfold getItem
 try with_reducible refine K0 ?_
 first | refine IW (Jg ?_) | skip
 refine IW (Pv ht.typeIs (by decide) ?_)
 refine IW (JM (name:=Jm "__getitem__") ht.typeIs Kb
  (J3 Kb ht.typeIs OI ?_ (Pa _ _)))
 show wpAny _ _ (M5 (.ref t) >>= _) _ _ s
 refine IW (Pb ht ?_)
 refine IW (L6 hTs ?_)
 rw[if_pos (by decide)]
 refine IW (iz hs pl pu ?_)
 have hyes:(((sIx items.size 0 lo:Nat):Int) == 0&&(1:Int) == 1&&(sIx items.size items.size hi - sIx items.size 0 lo) == items.size)=true:=by
  rw[hw.1,hw.2];simp
 show wpAny _ _ (if (((sIx items.size 0 lo:Nat):Int) == 0&&(1:Int) == 1&&(sIx items.size items.size hi - sIx items.size 0 lo) == items.size)=true then _ else _) _ _ s
 rw[if_pos hyes]
 first
  | refine IW (kg ht ?_)
  | refine kg ht ?_
 try rw[if_pos rfl]
 first
  | exact IW (Ms (Jg ⟨_,rfl,Jg h⟩))
  | exact IW (Ms (IW (Jg (Jg ⟨_,rfl,Jg h⟩))))
end
end HT
namespace Tr
open PySem PySem.Spec PyProof.Rows L2
section
variable {X:Cx}{a b c:Expr}{fa fb fc:En->Rs T}{pos:Pos}
theorem Reps.atI {K:IX}{O:Ow}{H:Hp}{l:List T}{vs:List V}{i:Int}{t:T}(r:Reps K O H l vs)(e:L2.atI l i=some t):∃v,L2.atI vs i=some v/\Rep K O H t v:=by
 unfold L2.atI at e ⊢;rw[r.length]at e
 cases q:ixN vs.length i with
 | none=>rw[q]at e;cases e
 | some j=>
  rw[q]at e;obtain⟨v,e1,e2⟩:=r.get (i:=j) (t:=t) e;exact⟨v,e1,e2⟩
def aN (x y:T):Rs T:=match x.items,y with
 | some l,.int i=>match L2.atI l i with
  | some t=> .ok t
  | none=> .bad
 | _,_=> .bad
theorem q_ix (ha:cN X a fa)(hb:cN X b fb)(hs:wV b:=by intro _ _;rfl):cN X (.Subscript a b pos) (o2 aN fa fb):=by
 intro pins s σ H Q I ⟨Z,O,E,hq⟩
 have h1:=aZ E hq;refine Subscript_ (cG (ha pins s σ H _ I h1) λv s1 hh_=> ?_)
 obtain⟨x,H1,I1,r1,t,rt,s',E',q1⟩:=hh_
 have h2:=aZ (f:=fb) E' q1;refine cG (hb pins s1 σ H1 _ I1 h2) λu s2 hh_=> ?_
 obtain⟨y,H2,I2,r2,t2,rt2,s'',E'',q2⟩:=hh_
 have rt':=rt.same s'';unfold aN at q2
 split at q2
 ·rename_i l i hl
  split at q2
  ·rename_i z hz
   have hy:=Rep.HA.mp rt2;refine EY a b pins s2 σ H2 x y v u Q I2 r1 r2 ?_ (hs _ _)
   cases t with
   | tup m=>
    cases hl;obtain⟨p,vs,e,n,q,rr⟩:=Rep.HC.mp rt';obtain⟨w,ew,rw'⟩:=rr.atI hz
    exact .inr (.inl ⟨p,vs,i,w,e,hy,SqT.of q,ew,q2 H2 (Same.refl H2) _ rw'⟩)
   | lst m=>
    cases hl;obtain⟨p,vs,e,n,q,rr⟩:=Rep.HD.mp rt';obtain⟨w,ew,rw'⟩:=rr.atI hz
    exact .inl ⟨p,vs,i,w,e,hy,SqL.of q,ew,q2 H2 (Same.refl H2) _ rw'⟩
   | scr m=>
    cases hl;unfold Rep at rt';obtain⟨p,e,n,q⟩:=rt';obtain⟨w,ew,rw'⟩:=(Reps.ints (K:=X.K) (O:=O) (H:=H2) (ns:=m)).atI hz
    exact .inl ⟨p,_,i,w,e,hy,q,ew,q2 H2 (Same.refl H2) _ rw'⟩
   | _=>cases hl
  ·exact q2.elim
 ·exact q2.elim
def m8 (l:List T)(lo hi:Option Int):List T:=(l.drop (HT.sIx l.length 0 lo)).take (HT.sIx l.length l.length hi - HT.sIx l.length 0 lo)
theorem Reps.cut {K:IX}{O:Ow}{H:Hp}{l:List T}{vs:List V}(r:Reps K O H l vs)(lo hi:Option Int):Reps K O H (m8 l lo hi) (uI vs lo hi):=by
 unfold m8 uI;rw[r.length];exact(r.drop _).take _
theorem xW {l:List T}{lo hi:Option Int}(h:HT.sIx l.length 0 lo=0/\HT.sIx l.length l.length hi=l.length):m8 l lo hi=l:=by
 unfold m8;rw[h.1,h.2];simp
theorem sl_tup_whole:SlR X (λx lo hi H Q=> ∃a xs,x= .ref a/\SqT X.K H a xs/\(HT.sIx xs.length 0 lo=0/\HT.sIx xs.length xs.length hi=xs.length)/\Q (.ref a) H):=by
 intro pins s σ H x v vl vu lo hi sl Q I rx hs pl pu h;obtain⟨a,xs,rfl,hx,hw,q⟩:=h;cases rx;obtain⟨its,r,ht,hz⟩:=I.tuple hx
 have hlen:its.toArray.size=xs.length:=by rw[Jw];exact r.length.symm
 refine⟨"tuple",_,Kb.lookup,ht.typeIs,?_⟩
 exact HT.getItem_tuple_whole ht hs pl pu (by rw[hlen];exact hw) ⟨.ref a,H,I,rfl,q⟩
def pN (_:En):Rs (Option Int):=.ok none
def pS (f:En->Rs T)(Z:En):Rs (Option Int):=do
 let x <-f Z
 match x with
 | .int i=> .ok (some i)
 | _=> .bad
def tPO (X:Cx)(f:En->Rs (Option Int)):TO:=λσ H Q=> ∃Z O,EnvO X.K O H Z σ/\Post X H (f Z) λb H'=>Q b H'
abbrev G9 (X:Cx)(e:Option Expr)(f:En->Rs (Option Int)):Prop:=PO X e (tPO X f)
theorem BA:G9 X none pN:=by
 intro pins s σ H Q I ⟨Z,O,E,hq⟩;exact BP pins s σ H Q I (hq H (Same.refl H))
theorem Bz (ha:cN X a fa):G9 X (some a) (pS fa):=by
 intro pins s σ H Q I ⟨Z,O,E,hq⟩;refine BO ha pins s σ H Q I ?_
 obtain⟨Z1,O1,E1,h1⟩:=aZ E hq;refine⟨Z1,O1,E1,Post.mono h1 λts H1 s1 q vs r=> ?_⟩
 obtain⟨t',r',s',E',q'⟩:=q vs r
 split at q'
 ·exact⟨_,Rep.HA.mp r',q' H1 (Same.refl H1)⟩
 ·exact q'.elim
def slT (x:T)(lo hi:Option Int):Rs T:=match x with
 | .tup l=> .ok (.tup (m8 l lo hi))
 | .lst l=> .ok (.lst (m8 l lo hi))
 | _=> .bad
def sl (fe:En->Rs T)(fl fu:En->Rs (Option Int))(Z:En):Rs T:=do
 let x <-fe Z
 let l <-fl Z
 let u <-fu Z
 slT x l u
theorem sW {σ:L2.St}{H:Hp}{Z:En}{O:Ow}{α:Type}{f:En->Rs (Option Int)}{k:Option Int->Rs α}{Q:α->Hp->Prop}(E:EnvO X.K O H Z σ)(h:Post X H (f Z >>= k) Q) :
  tPO X f σ H λb H'=>Same H H'/\EnvO X.K O H' Z σ/\Post X H' (k b) Q:=
 ⟨Z,O,E,Post.mono h.bind λt H' s q=>⟨s,E.same s,q⟩⟩
theorem BH {lo hi:Option Expr}{p2:Pos}{fl fu:En->Rs (Option Int)}(ha:cN X a fa)(hl:G9 X lo fl)(hu:G9 X hi fu):cN X (.Subscript a (.Slice lo hi none p2) pos) (sl fa fl fu):=by
 intro pins s σ H Q I ⟨Z,O,E,hq⟩;refine za (sl_tup.or (sl_tup_whole.or Bk)) ha hl hu pins s σ H Q I ?_
 obtain⟨Z1,O1,E1,h1⟩:=aZ E hq;refine⟨Z1,O1,E1,Post.mono h1 λts H1 s1 q vs r=> ?_⟩
 obtain⟨t',r',s',E',q'⟩:=q vs r;obtain⟨Z2,O2,E2,h2⟩:=sW E' q';refine⟨Z2,O2,E2,Post.mono h2 λo1 H2 s2 q=> ?_⟩
 obtain⟨s2',E2',q2⟩:=q;obtain⟨Z3,O3,E3,h3⟩:=sW E2' q2;refine⟨Z3,O3,E3,Post.mono h3 λo2 H3 s3 q=> ?_⟩
 obtain⟨s3',E3',q3⟩:=q
 have rt:=(r'.same s2').same s3';unfold slT at q3
 split at q3
 ·rename_i l
  obtain⟨p,ws,e,n,q,rr⟩:=Rep.HC.mp rt
  have hlen:=rr.length
  by_cases hw:HT.sIx ws.length 0 o1=0/\HT.sIx ws.length ws.length o2=ws.length
  ·refine .inr (.inl ⟨p,ws,e,SqT.of q,hw,?_⟩)
   rw[<-hlen]at hw;refine q3 H3 (Same.refl H3) _ ?_
   rw[xW hw];exact Rep.HC.mpr ⟨p,ws,rfl,n,q,rr⟩
  ·exact .inl ⟨p,ws,e,SqT.of q,hw,λp' hp=>q3 _ (aV hp _) _ (gQ hp (E3'.fresh hp) (rr.cut o1 o2))⟩
 ·rename_i l
  obtain⟨p,ws,e,n,q,rr⟩:=Rep.HD.mp rt;exact .inr (.inr ⟨p,ws,e,SqL.of q,λp' hp=>q3 _ (aV hp _) _ (lm hp (E3'.fresh hp) (rr.cut o1 o2))⟩)
 ·exact q3.elim
def CallT (X:Cx)(f:Je)(g:List T->Rs T):Prop:=
 ∀(pins:List (Addr×Obj)) (s:Jf) (σ:L2.St) (H:Hp) (O:Ow) (ts:List T) (vs:List V) (us:List Je) (Q:VK),Inv X pins σ H s->(∀p,H p=none->¬ O p)->Reps X.K O H ts vs->Vals vs us →
  Post X H (g ts) (λt H'=> ∀v,Rep X.K O H' t v->Q v H')->wpAny (model X.prog X.w) X.A (call f us) (EP X pins σ Q) X.xe s
theorem CallT.of {f:Je}{r:List V->Hp->VK->Prop}(h:CallR X f r){g:List T->Rs T}
  (w:∀(H:Hp) (O:Ow) (ts:List T) (vs:List V) (Q:VK),(∀p,H p=none->¬ O p)->Reps X.K O H ts vs->Post X H (g ts) (λt H'=> ∀v,Rep X.K O H' t v->Q v H')->r vs H Q):CallT X f g:=
 λpins s σ H O ts vs us Q I hf rs rv hp=>h pins s σ H vs us Q I rv (w H O ts vs Q hf rs hp)
def cl (g:List T->Rs T)(fs:En->Rs (List T))(Z:En):Rs T:=fs Z >>= g
variable {e:Expr}{es:List Expr}{fs:En->Rs (List T)}{x:Str}{p:Pos}{id:String}{g:List T->Rs T}
theorem BJ (hc:CallT X (.builtin id) g)(hm:X.mg x=none)(hv:JT x=some (.builtin id))(ha:qG X (e::es) fs)(hg:Gl X x:=by rfl)(hn:x≠ "__name__":=by decide)(hdb:(x == ("__debug__" : Str))=false:=by decide)
  (he:Jz (e::es) X.env=(false,eval e X.env)::Jz es X.env:=by rfl) (hpl:(backTo pos (Jz es X.env)).any (·.1)=false:=by rfl):cN X (.Call (.Name x p) (e::es) [] pos) (cl g fs):=by
 intro pins s σ H Q I ⟨Z,O,E,hq⟩;refine Kt (gu I hg hm hv ?_ hn hdb)
 have h1:=fq E hq;exact Mv (cG (ha pos pins s σ H _ I h1) λus s1 ⟨vs,H1,I1,r1,ts,rs,s',E',q1⟩=>hc pins s1 σ H1 O ts vs us Q I1 (λp=>E'.fresh) rs r1 q1) he hpl
theorem yR {Ty:String}(hc:CallT X (.type Ty) g)(hm:X.mg x=none)(hv:JT x=some (.type Ty))(ha:qG X (e::es) fs)(hg:Gl X x:=by rfl)(hn:x≠ "__name__":=by decide)(hdb:(x == ("__debug__" : Str))=false:=by decide)
  (he:Jz (e::es) X.env=(false,eval e X.env)::Jz es X.env:=by rfl) (hpl:(backTo pos (Jz es X.env)).any (·.1)=false:=by rfl):cN X (.Call (.Name x p) (e::es) [] pos) (cl g fs):=by
 intro pins s σ H Q I ⟨Z,O,E,hq⟩;refine Kt (gu I hg hm hv ?_ hn hdb)
 have h1:=fq E hq;exact JO (cG (ha pos pins s σ H _ I h1) λus s1 ⟨vs,H1,I1,r1,ts,rs,s',E',q1⟩=>hc pins s1 σ H1 O ts vs us Q I1 (λp=>E'.fresh) rs r1 q1) he hpl
theorem Reps.one {K:IX}{O:Ow}{H:Hp}{t:T}{vs:List V}(r:Reps K O H [t] vs):∃v,vs= [v]/\Rep K O H t v:=by
 obtain⟨v,ws,rfl,p,q⟩:=Reps.me.mp r;cases Reps.HB.mp q;exact⟨v,rfl,p⟩
theorem Rep.sq {K:IX}{O:Ow}{H:Hp}{t:T}{v:V}{l:List T}(r:Rep K O H t v)(h:t.items=some l):∃a vs,v= .ref a/\¬ O a/\Reps K O H l vs/\(SqL K H a vs\/SqT K H a vs):=by
 cases t with
 | tup m=>cases h;obtain⟨a,vs,e,n,q,z⟩:=Rep.HC.mp r;exact⟨a,vs,e,n,z,.inr (SqT.of q)⟩
 | lst m=>cases h;obtain⟨a,vs,e,n,q,z⟩:=Rep.HD.mp r;exact⟨a,vs,e,n,z,.inl (SqL.of q)⟩
 | scr m=>cases h;unfold Rep at r;obtain⟨a,e,n,q⟩:=r;exact⟨a,_,e,n,Reps.ints,.inl q⟩
 | _=>cases h
def ck:List T->Rs T
 | [.str x] =>if x.length<=sizeLine then .ok (.int x.length)else .bad
 | [x] =>match x.items with
  | some l=> .ok (.int l.length)
  | none=> .bad
 | _=> .bad
theorem cM:CallT X (.builtin "len") ck:=CallT.of (call_len_seq.or sy) λH O ts vs Q hf rs hp=>by
 unfold ck at hp
 split at hp
 ·obtain⟨v,rfl,r⟩:=rs.one
  split at hp
  ·rename_i h
   exact .inr ⟨_,by rw[Rep.HK.mp r],h,hp H (Same.refl H) _ (Rep.HI _)⟩
  ·exact hp.elim
 ·obtain⟨v,rfl,r⟩:=rs.one
  split at hp
  ·rename_i l hl
   obtain⟨a,vs,rfl,n,z,q⟩:=r.sq hl;exact .inl ⟨a,vs,rfl,q,hp H (Same.refl H) _ (by rw[<-z.length];exact Rep.HI _)⟩
  ·exact hp.elim
 ·exact hp.elim
def fQ:List T->Rs T
 | [.tup l] => .ok (.tup l)
 | [.lst l] => .ok (.tup l)
 | _=> .bad
theorem g8:CallT X (.type "tuple") fQ:=CallT.of pV λH O ts vs Q hf rs hp=>by
 unfold fQ at hp
 split at hp
 ·obtain⟨v,rfl,r⟩:=rs.one
  obtain⟨a,ws,rfl,n,q,z⟩:=Rep.HC.mp r;exact⟨a,ws,rfl,.inr ⟨SqT.of q,hp H (Same.refl H) _ (Rep.HC.mpr ⟨a,ws,rfl,n,q,z⟩)⟩⟩
 ·obtain⟨v,rfl,r⟩:=rs.one
  obtain⟨a,ws,rfl,n,q,z⟩:=Rep.HD.mp r;exact⟨a,ws,rfl,.inl ⟨SqL.of q,λl hl=>hp _ (aV hl _) _ (gQ hl (hf l hl) z)⟩⟩
 ·exact hp.elim
def Af:List T->Rs T
 | [.int i] => .ok (.int i)
 | [.bl k] => .ok (.int (if k then 1 else 0))
 | _=> .bad
theorem Fs:CallT X (.type "int") Af:=CallT.of x5 λH O ts vs Q hf rs hp=>by
 unfold Af at hp
 split at hp
 ·obtain⟨v,rfl,r⟩:=rs.one
  exact .inl ⟨_,by rw[Rep.HA.mp r],hp H (Same.refl H) _ (Rep.HI _)⟩
 ·obtain⟨v,rfl,r⟩:=rs.one
  exact .inr ⟨_,by rw[Rep.HE.mp r],hp H (Same.refl H) _ (Rep.HI _)⟩
 ·exact hp.elim
def o6:List T->Option (List Bool)
 | [] =>some []
 | .bl k::r=>(o6 r).map (k:: ·)
 | _=>none
def pf:List T->Rs T
 | [.lst l] =>match o6 l with
  | some ks=> .ok (.bl (ks.all λk=>k))
  | none=> .bad
 | _=> .bad
theorem o5 {K:IX}{O:Ow}{H:Hp}:∀{l:List T} {ks:List Bool} {vs:List V} {us:List Je},o6 l=some ks->Reps K O H l vs->Vals vs us->us=ks.map Ku
 | [],ks,vs,us,e,r,v=>by cases e;cases Reps.HB.mp r;cases v;rfl
 | t::l,ks,vs,us,e,r,v=>by
  obtain⟨w,ws,rfl,p,q⟩:=Reps.me.mp r
  cases t with
  | bl k=>
   unfold o6 at e
   cases z:o6 l with
   | none=>rw[z]at e;cases e
   | some ks'=>
    rw[z]at e;cases e
    cases v with
    | cons v1 v2=>
     cases Rep.HE.mp p;cases v1
     rw[o5 z q v2];rfl
  | _=>cases e
theorem oY (hc:X.calm=true):CallT X (.builtin "all") pf:=by
 intro pins s σ H O ts vs us Q I hf rs rv hp;unfold pf at hp
 split at hp
 ·obtain⟨v,rfl,r⟩:=rs.one
  split at hp
  ·rename_i ks hk
   obtain⟨a,ws,rfl,n,q,z⟩:=Rep.HD.mp r;obtain⟨u,rfl,ru⟩:=kZ rv;cases ru;obtain⟨its,r',pl,hz⟩:=I.list (SqL.of q)
   have hits:=o5 hk z r';refine call_all_walk (LP pl.isList ?_)
   have hne:a≠s.heap.objs.size:=λe=>by
    obtain⟨o,ho,_⟩:=pl.isList;rw[e]at ho;exact absurd (Jn ho) (JK _)
   refine⟨s.heap.objs.size,_,_,_,_,_,λi=>(ks[i]?).getD true,rfl,Walks.list (A:=X.A.in1) (I.ok.hd hc) s.heap.objs.size a hne its.toArray,⟨⟨_,Jk _ rfl,rfl,rfl⟩,?_⟩,?_,?_⟩
   ·obtain⟨o,ho,hh⟩:=pl.isList
    exact⟨o,IY _ ho,hh⟩
   ·intro i v s' Q' E' hP hQ'
    subst hits
    dsimp only at hQ'
    have hP':(ks.map Ku)[i]? =some v:=by simpa using hP
    rw[JN]at hP'
    cases e:ks[i]? with
    | none=>rw[e]at hP';cases hP'
    | some k=>
     rw[e]at hP' hQ';cases hP';exact Kg hQ'
   ·intro h' tk hk'
    have hlen:its.toArray.size=ks.length:=by rw[hits];simp
    have e:((Js its.toArray.size).all λi=>(ks[i]?).getD true)=(ks.all λk=>k):=by
     rw[hlen];rw[Bool.eq_iff_iff,JH,JH]
     constructor
     ·intro h x hx
      obtain⟨i,hi,rfl⟩:=Ls hx
      have:=h i (JR.mpr hi)
      simpa [hi]using this
     ·intro h i hi
      have hi':=JR.mp hi
      have:=h ks[i] (KU hi')
      simpa [hi']using this
    rw[e]
    have I1:Inv X pins σ H { s with heap:=s.heap.push { cls:=.type "list_iterator",data:=.fields #[.ref a,.int 0 0] } }:=I.kept (t':=s.toks) λb o e=>IY _ e
    have I2:Inv X pins σ H { s with heap:=h',toks:=tk }:=by
     have:=I1.turned (h':=h') (t':=tk) (it:=s.heap.objs.size) (λb o hb e=>hk' b o (by simpa using hb) e) (I.hok.fresh (Jq _))
      (Nb I.lt) (.inr I.sz) (λx c e z=> ?_) (λp hp z=> ?_)
     ·exact this
     ·obtain⟨v,q⟩:=I.cell x c e
      exact absurd (Jv q.lt (LD z.symm)) (JK _)
     ·exact absurd (Jv (Jn (I.pin p hp).1) (LD z.symm)) (JK _)
    exact⟨.bl _,H,I2,rfl,hp H (Same.refl H) _ (Rep.bl_ _)⟩
  ·exact hp.elim
 ·exact hp.elim
end
def T.ty:T->Option String
 | .non=>some "NoneType"
 | .bl _=>some "bool"
 | .int _=>some "int"
 | .str _=>some "str"
 | .tup _=>some "tuple"
 | .lst _=>some "list"
 | .scr _=>none
 | .dct _ _=>none
def five (i b t l s:Bool)(Ty:String):Option Bool:=match Ty with
 | "int" =>some i | "bool" =>some b | "tuple" =>some t | "list" =>some l | "str" =>some s
 | _=>none
def ww (n Ty:String):Option Bool:=match n with
 | "NoneType" =>five false false false false false Ty
 | "bool" =>five true true false false false Ty
 | "int" =>five true false false false false Ty
 | "str" =>five false false false false true Ty
 | "tuple" =>five false false true false false Ty
 | "list" =>five false false false true false Ty
 | _=>none
theorem xM (K:IX){n Ty:String}{b:Bool}(h:ww n Ty=some b):PySem.W.kitOne K (.type n) (.type Ty)=some b:=by
 unfold ww at h
 split at h <;> first | (cases h;done) | (unfold five at h;split at h <;> first | (cases h;done) | (cases h;kernel_rfl))
def Ci (Ty:String)(t:T):Rs T:=match t.ty with
 | some n=>match ww n Ty with
  | some b=> .ok (.bl b)
  | none=> .bad
 | none=> .bad
theorem Rep.IU {K:IX}{O:Ow}{H:Hp}{t:T}{v:V}{n:String}(r:Rep K O H t v)(h:t.ty=some n):mq K H v (.type n):=by
 cases t with
 | non=>cases h;cases Rep.HP.mp r;exact .non
 | bl b=>cases h;cases Rep.HE.mp r;exact .bl b
 | int b=>cases h;cases Rep.HA.mp r;exact .int b
 | str b=>cases h;cases Rep.HK.mp r;exact .str b
 | tup l=>cases h;obtain⟨a,vs,rfl,_,q,_⟩:=Rep.HC.mp r;exact .tup q
 | lst l=>cases h;obtain⟨a,vs,rfl,_,q,_⟩:=Rep.HD.mp r;exact .lst q
 | scr l=>cases h
 | dct _ _=>cases h
section
variable {X:Cx}{a b c e:Expr}{es:List Expr}{fa fb fc:En->Rs T}{fs:En->Rs (List T)}{pos p p2:Pos}{x:Str}
theorem m9:JT "isinstance" =some (.builtin "isinstance"):=by decide+kernel
theorem Gd {tn:Str}{Ty:String}(hm:X.mg "isinstance" =none)(hmt:X.mg tn=none)(hv:JT tn=some (.type Ty))(ha:cN X a fa)(hg:Gl X "isinstance":=by rfl)(hgt:Gl X tn:=by rfl)
  (hn:tn≠ "__name__":=by decide) (hd:(tn == ("__debug__" : Str))=false:=by decide)
  (he:Jz [a,.Name tn p2] X.env=(false,eval a X.env)::Jz [.Name tn p2] X.env:=by rfl) (hpl:(backTo pos (Jz [.Name tn p2] X.env)).any (·.1)=false:=by rfl)
  (hs:Jz [.Name tn p2] X.env=(false,eval (.Name tn p2) X.env)::Jz [] X.env:=by rfl) :
  cN X (.Call (.Name "isinstance" p) [a,.Name tn p2] [] pos) (o1 (Ci Ty) fa):=by
 intro pins s σ H Q I ⟨Z,O,E,hq⟩;refine Kt (gu I hg hm m9 ?_ (by decide) (by decide))
 have hA:PA X [a,.Name tn p2] (k6 (tP X fa) (k6 (tC (.ty Ty)) yw)):=fy ha (fy (BX (v:=.ty Ty) hgt hmt hv rfl hn hd) ju hs) he;obtain⟨Z1,O1,E1,h1⟩:=aZ E hq;refine Mv (cG (hA pos pins s σ H (λvs H'=> ∃v t,vs= [v,.ty Ty]/\Rep X.K O H' t v/\Post X H' (Ci Ty t) (λt H'=> ∀v,Rep X.K O H' t v->Q v H')) I ?_) λus s1 ⟨vs,H1,I1,r1,v,t,e1,rt,q⟩=> ?_) he hpl
 ·refine⟨Z1,O1,E1,Post.mono h1 λts H1 s1 q vs r=> ?_⟩
  obtain⟨t',r',s',E',q'⟩:=q vs r;exact⟨vs,t',rfl,r',q'⟩
 ·subst e1
  obtain⟨u,w',rfl,ru,rw'⟩:=yo r1;cases rw';unfold Ci at q
  split at q
  ·rename_i n hn'
   split at q
   ·rename_i bb hb
    exact xL I1 ru (rt.IU hn') (xM _ hb) λtk=>⟨.bl bb,H1,I1.tok _,rfl,q H1 (Same.refl H1) _ (Rep.bl_ _)⟩
   ·exact q.elim
  ·exact q.elim
def spP (K:IX)(n:Nat)(g:List T->Rs T):Sp:=λvs H Q _=> ∃ts O,Reps K O H ts vs/\(∀a,O a->Mtb H a)/\ts.length=n ∧
 match g ts with
 | .ok t=> ∀v H',Same H H'->Rep K O H' t v->Q v H'
 | _=>False
def RzC (P:JI)(w:Kr)(mg:Str->Option Je)(outer:List Env)(H:Hp)(s:Jf)(c:Str)(ev:Je)(s':Jf):Prop:=
 ∃e T C H',ev= .ref e/\mg c=some (.ref C)/\s'.os=s.os/\NG s'.gens/\Un (se outer) [] H H' s.heap s'.heap/\HOk P w H' s'.heap/\Same H H'/\H' e=none/\s.heap.get? e=none/\Hz s'.heap C e (some T)/\H' T=none/\s.heap.get? T=none
def FnX (P:JI)(w:Kr)(K:IX)(mg:Str->Option Je)(base:Heap)(k:Nat)(f:Addr)(fd:KS)(ps:List Str)(n:Nat)(g:List T->Rs T):Prop:=
 ∀(A:J9) (outer:List Env) (s:Jf) (H:Hp) (args:Args) (us:List Je) (vs:List V) (O:Ow) (ts:List T) (c:Str) (R:Qr->Jf->Prop),Room k A->AX P w K mg base A outer s H->Pu s fd args (ps.zip us)->Vals vs us →
  Reps K O H ts vs->(∀a,O a->Mtb H a)->ts.length=n->g ts= .err c->(∀ev s',RzC P w mg outer H s c ev s'->R (.error ev) s')->codeAny (model P w) A (.call (.ref f) args) R s
structure Fz (P:JI)(w:Kr)(K:IX)(mg:Str->Option Je)(base:Heap)(k:Nat)(f:Addr)(fd:KS)(ps:List Str)(n:Nat)(g:List T->Rs T):Prop where
 h:sG P w K mg base CX0 k f fd ps (spP K n g)
 x:FnX P w K mg base k f fd ps n g
theorem zm {P:JI}{w:Kr}{H:Hp}{h:Heap}{a:Addr}{o:HO}(x:ObjOk P w H h a o):∃u,h.get? a=some u:=by
 cases o with
 | lst xs=>obtain⟨_,_,_,_,e⟩:=x;exact⟨_,e⟩
 | tup xs=>obtain⟨_,_,_,ob,e,_⟩:=x;exact⟨_,e⟩
 | dK kvs=>obtain⟨_,_,_,_,o,_,_,e,_⟩:=x;exact⟨_,e⟩
 | dT kvs=>obtain⟨_,_,_,_,o,_,_,e,_⟩:=x;exact⟨_,e⟩
 | set S n=>obtain⟨o,_,_,_,e,_⟩:=x;exact⟨_,e⟩
 | ins C dx fs=>obtain⟨_,_,_,e,_⟩:=x;exact⟨_,e⟩
 | own y=>obtain⟨_,e⟩:=x;exact⟨_,e⟩
 | xd fs=>obtain⟨_,⟨_,_,_,e,_⟩,_⟩:=x;exact⟨_,e⟩
 | rng lo hi=>obtain⟨_,_,_,e⟩:=x;exact⟨_,e⟩
 | frz ob u=>obtain⟨e,_⟩:=x;exact⟨_,e⟩
 | tbl ps=>exact⟨_,(show h.get? a=some _ from x)⟩
 | met f y=>exact⟨_,(show h.get? a=some _ from x)⟩
 | ext φ=>obtain⟨_,⟨_,e⟩,_⟩:=x;exact⟨_,e⟩
theorem t9 {X:Cx}{pins:List (Addr×Obj)}{σ:L2.St}{H:Hp}{s:Jf}(I:Inv X pins σ H s){e:Addr}(n:s.heap.get? e=none):H e=none:=by
 cases z:H e with
 | none=>rfl
 | some o=>
  obtain⟨o',ho'⟩:=zm (I.hok e o z);rw[n]at ho';cases ho'
theorem rO {X:Cx}{pins:List (Addr×Obj)}{σ:L2.St}{H:Hp}{s:Jf}(I:Inv X pins σ H s)(hex:X.ex= []){e:Addr}(n:s.heap.get? e=none):X.s₀.heap.get? e=none:=by
 cases z:X.s₀.heap.get? e with
 | none=>rfl
 | some o=>
  obtain⟨o',ho'⟩:=I.base.there e o z (by rw[hex];simp)
  rw[n]at ho';cases ho'
theorem D7 {n k:Nat}{f:Addr}{fd:KS}{ps:List Str}{g:List T->Rs T}(F:Fz X.prog X.w X.K X.mg X.base k f fd ps n g)(hr:Room k X.A)(hm:X.mg x=some (.ref f))(hk:Mt X.K (.ref f)=true)(hb:Binds X.K fd ps [])(hps:ps.length=n)
  (hl:∀Z ts,fs Z= .ok ts->ts.length=n) (ha:qG X (e::es) fs) (hg:Gl X x:=by rfl) (hdb:(x == ("__debug__" : Str))=false:=by decide) (he:Jz (e::es) X.env=(false,eval e X.env)::Jz es X.env:=by rfl) (hpl:(backTo pos (Jz es X.env)).any (·.1)=false:=by rfl) :
  cN X (.Call (.Name x p) (e::es) [] pos) (cl g fs):=by
 intro pins s σ H Q I ⟨Z,O,E,hq⟩
 have hq':Post X H (fs Z >>= g) λt H'=> ∀v,Rep X.K O H' t v->Q v H':=hq
 cases q:fs Z with
 | bad=>rw[q]at hq';exact hq'.elim
 | err c=>
  rw[q]at hq';refine v5 (E:=E0) F.h hr hg hm hk hb .nil C4 ha hdb he hpl pins s σ H Q I ⟨Z,O,E,?_⟩
  rw[q]
  exact hq'
 | ok ts=>
  rw[q]at hq'
  have hq2:Post X H (g ts) λt H'=> ∀v,Rep X.K O H' t v->Q v H':=hq'
  cases q2:g ts with
  | bad=>rw[q2]at hq2;exact hq2.elim
  | ok t=>
   rw[q2]at hq2;refine v5 (E:=E0) F.h hr hg hm hk hb .nil C4 ha hdb he hpl pins s σ H Q I ⟨Z,O,E,?_⟩
   rw[q];intro H1 s1 vs rs;rw[Kd];refine⟨ts,O,rs,(E.same s1).mtb,hl Z ts q,?_⟩
   rw[q2]
   exact λv H' s2 r=>hq2 H' (s1.trans s2) v r
  | err c=>
   rw[q2]at hq2;refine Kt (ny I hg hm ?_ hdb)
   refine OL (h₀:=X.base) I.ok.mod.kin hk (cG (ha pos pins s σ H (λvs H'=>Same H H'/\Reps X.K O H' ts vs) I ⟨Z,O,E,?_⟩) (λus s1 ⟨vs,H1,I1,r,sm,rs⟩=>⟨I1.kIn,?_⟩)) he hpl
   ·rw[q];exact λH' sm vs rs=>⟨sm,rs⟩
   ·have hlen:us.length=ps.length:=by rw[<-r.length,<-rs.length,hl Z ts q,hps]
    have hb':=hb s1 us I1.kIn (by rw[Kd];exact hlen)
    rw[Kd]at hb';refine wpAny_call (Og (F.x X.A X.stack s1 H1 ⟨us,[]⟩ us vs O ts c (λr s'=>match r with | .error ev=>X.xe ev s' | _=>False) hr I1.IG hb' r rs (E.same sm).mtb (hl Z ts q) q2 λev s' w=> ?_) λr s' hq=> ?_)
    ·obtain⟨ea,T,C,H',rfl,hmc,ho,hbare,hun,hok,sm2,hea,heo,fl,hT,hTo⟩:=w
     have I2:Inv X pins σ H' s':=I1.Iv ho hun hok hbare (λb z=>absurd z (by simp))
     exact hq2 pins _ _ ⟨ea,some T,C,σ,H',rfl,hmc,I2,λb o q _=>sm2 b o (sm b o q),hea,λhex=>rO I1 hex heo,fl,(λt zt=>by cases zt;exact⟨hT,λhex=>rO I1 hex hTo⟩),λpp hpp=>⟨λzz=>(by have:=(I1.pin pp hpp).1;rw[zz,heo]at this;cases this),λzz=>(by cases zz;have:=(I1.pin pp hpp).1;rw[hTo]at this;cases this)⟩⟩
    ·cases r with
     | error ev=>exact hq
     | ok fl=>exact hq.elim
def xc (X:Cx)(g:T->En->Rs En):TG:=λv σ H Q=> ∃Z O M t,EnvM X.K O M H Z σ/\Rep X.K O H t v/\match g t Z with
 | .ok Z'=> ∀σ',EnvM X.K O M H Z' σ'->Q σ' H
 | _=>False
abbrev AT (X:Cx)(tg:Expr)(g:T->En->Rs En):Prop:=PG X tg (xc X g)
def tPGs (X:Cx)(g:List T->En->Rs En):CJ:=λvs σ H Q=> ∃Z O M ts,EnvM X.K O M H Z σ/\Reps X.K O H ts vs/\match g ts Z with
 | .ok Z'=> ∀σ',EnvM X.K O M H Z' σ'->Q σ' H
 | _=>False
abbrev AU (X:Cx)(tg:List Expr)(g:List T->En->Rs En):Prop:=PGs X tg (tPGs X g)
theorem PG.imp {X:Cx}{e:Expr}{t t':TG}(h:PG X e t)(w:∀v σ H Q,t' v σ H Q->t v σ H Q):PG X e t':=λpins s σ H v u Q I r q=>h pins s σ H v u Q I r (w v σ H Q q)
theorem PGs.imp {X:Cx}{e:List Expr}{t t':CJ}(h:PGs X e t)(w:∀v σ H Q,t' v σ H Q->t v σ H Q):PGs X e t':=λpins s σ H v u Q I r q=>h pins s σ H v u Q I r (w v σ H Q q)
def gN (i:Nat)(t:T)(Z:En):Rs En:=if i<Z.length then .ok (Z.set i (.va t))else .bad
theorem EnvM.set {K:IX}{O:Ow}{M:Mn}{H:Hp}{Z:En}{σ:L2.St}{i:Nat}{t:T}{v:V}(E:EnvM K O M H Z σ)(hi:i<Z.length)(r:Rep K O H t v):EnvM K O M H (Z.set i (.va t)) (σ.set i (some v)) where
 len:=by rw[Kp,Kp];exact E.len
 val:=λj u e=>by
  by_cases hj:i=j
  ·subst hj
   rw[JA hi]at e
   cases e;exact⟨v,JA (by rw[<-E.len];exact hi),r⟩
  ·rw[JD hj]at e
   obtain⟨w,e1,e2⟩:=E.val j u e;exact⟨w,by rw[JD hj];exact e1,e2⟩
 own:=λj o e=>by
  by_cases hj:i=j
  ·subst hj
   rw[JA hi]at e
   cases e
  ·rw[JD hj]at e
   obtain⟨w,e1,e2⟩:=E.own j o e;exact⟨w,by rw[JD hj];exact e1,e2⟩
 sub:=E.sub
 dis:=E.dis
 trk:=E.trk
theorem BF (i:Nat)(hN:X.N.Nodup)(hi:X.N[i]? =some x:=by rfl)(hx:Loc X.env.scope x:=by first | exact Kz rfl | exact Ki rfl)(hf:X.fn x=true\/X.env.scope.names.lookup x=some .local:=by first | exact .inl rfl | exact .inr rfl | assumption):AT X (.Name x pos) (gN i):=
 PG.imp (BU hN hi hx hf) λv σ H Q hh_=>by
  obtain⟨Z,O,M,t,E,r,h⟩:=hh_;unfold gN at h
  split at h
  ·rename_i Z' e
   split at e
   ·rename_i hl
    cases e;exact h _ (E.set hl r)
   ·cases e
  ·exact h.elim
def iV (ts:List T)(Z:En):Rs En:=match ts with
 | [] => .ok Z
 | _=> .bad
def dg (g:T->En->Rs En)(gs:List T->En->Rs En)(ts:List T)(Z:En):Rs En:=match ts with
 | t::r=>do
  let Z1 <-g t Z
  gs r Z1
 | [] => .bad
theorem BE:AU X [] iV:=PGs.imp BT λvs σ H Q hh_=>by
 obtain⟨Z,O,M,ts,E,r,h⟩:=hh_;unfold iV at h
 cases ts with
 | nil=>exact⟨Reps.HB.mp r,h σ E⟩
 | cons _ _=>exact h.elim
theorem yO {g:T->En->Rs En}{gs:List T->En->Rs En}(h1:AT X e g)(h2:AU X es gs)
  (hs:(KG (e::es) X.env).map (·.2)=assign e X.env::(KG es X.env).map (·.2):=by rfl):AU X (e::es) (dg g gs):=
 PGs.imp (yZ h1 h2 hs) λvs σ H Q hh_=>by
  obtain⟨Z,O,M,ts,E,r,h⟩:=hh_
  cases ts with
  | nil=>exact h.elim
  | cons t ts=>
   obtain⟨v,ws,rfl,p,q⟩:=Reps.me.mp r;refine⟨v,ws,rfl,Z,O,M,t,E,p,?_⟩
   unfold dg at h
   cases e1:g t Z with
   | bad=>simp[e1]at h
   | err c=>simp[e1]at h
   | ok Z1=>
    intro σ1 E1;refine⟨Z1,O,M,ts,E1,q,?_⟩
    simp only[e1,az]at h
    cases e2:gs ts Z1 with
    | bad=>simp[e2]at h
    | err c=>simp[e2]at h
    | ok Z2=>
     simp only[e2]at h;exact λσ2 E2=>h σ2 E2
def gT (n:Nat)(gs:List T->En->Rs En)(t:T)(Z:En):Rs En:=match t with
 | .tup l=>if l.length=n then gs l Z else .bad
 | _=> .bad
theorem DZ {k n:Nat}{gs:List T->En->Rs En}(hc:X.calm=true)(h:AU X es gs)(hn:(KG es X.env).length=n:=by rfl)(hst:(KG es X.env).findIdx? (·.1)=none:=by rfl):AT X (.Tuple es k pos) (gT n gs):=
 PG.imp (Ej hc h hn hst) λv σ H Q hh_=>by
  obtain⟨Z,O,M,t,E,r,h⟩:=hh_;unfold gT at h
  cases t with
  | tup l=>
   obtain⟨a,vs,rfl,n',q,z⟩:=Rep.HC.mp r
   by_cases hl:l.length=n
   ·simp only[if_pos hl]at h
    exact⟨a,vs,rfl,SqT.of q,by rw[<-z.length];exact hl,Z,O,M,l,E,z,h⟩
   ·simp only[if_neg hl]at h
  | _=>exact h.elim
theorem SqL.nn {K:IX}{H:Hp}{a:Addr}{vs:List V}(q:SqL K H a vs):¬ Nw K H a:=λ⟨h1,h2⟩=>by
 rcases q with(q | ⟨o,q⟩) | ⟨o,_,_,q,_⟩
 ·rw[h1]at q;cases q
 ·rw[h1]at q;cases q
 ·rw[h2]at q;cases q
mutual
theorem Rep.more {K:IX}{O O':Ow}{H:Hp}(sub:∀a,O' a->O a\/Nw K H a):∀{t:T} {v:V},Rep K O H t v->Rep K O' H t v
 | .non,_,r=>by unfold Rep at r ⊢;exact r
 | .bl _,_,r=>by unfold Rep at r ⊢;exact r
 | .int _,_,r=>by unfold Rep at r ⊢;exact r
 | .str _,_,r=>by unfold Rep at r ⊢;exact r
 | .tup l,_,r=>by
  unfold Rep at r ⊢;obtain⟨a,vs,e,n,q,z⟩:=r
  exact⟨a,vs,e,λp=>(sub a p).elim n λw=>(by rw[w.1]at q;cases q),q,Reps.more sub z⟩
 | .lst l,_,r=>by
  unfold Rep at r ⊢;obtain⟨a,vs,e,n,q,z⟩:=r
  exact⟨a,vs,e,λp=>(sub a p).elim n λw=>(by rw[w.1]at q;cases q),q,Reps.more sub z⟩
 | .scr l,_,r=>by
  unfold Rep at r ⊢;obtain⟨a,e,n,q⟩:=r
  exact⟨a,e,λp=>(sub a p).elim n λw=>Tr.SqL.nn q w,q⟩
 | .dct ks ts,_,r=>by
  unfold Rep at r ⊢;obtain⟨a,kvs,e,n,q,k,z⟩:=r;exact⟨a,kvs,e,λp=>(sub a p).elim n λw=>(by rcases q with q | ⟨_,q⟩ <;> rw[w.1]at q <;> cases q),q,k,Reps.more sub z⟩
theorem Reps.more {K:IX}{O O':Ow}{H:Hp}(sub:∀a,O' a->O a\/Nw K H a):∀{l:List T} {vs:List V},Reps K O H l vs->Reps K O' H l vs
 | [],_,r=>by unfold Reps at r ⊢;exact r
 | t::l,_,r=>by
  unfold Reps at r ⊢;obtain⟨v,ws,e,p,q⟩:=r;exact⟨v,ws,e,Rep.more sub p,Reps.more sub q⟩
end
theorem Rep.move {K:IX}{O O' P:Ow}{H H':Hp}{t:T}{v:V}(hP:∀a,P a->O a\/Nw K H a)(hO:∀a,O' a->O a\/Nw K H a)(h:SameO P H H')(r:Rep K O H t v):Rep K O' H' t v:=
 Rep.less (O:=λa=>O' a\/P a) (λ_ z=> .inl z) (Rep.keep h (λ_ z=> .inr z) (Rep.more (λa z=>z.elim (hO a) (hP a)) r))
theorem Reps.move {K:IX}{O O' P:Ow}{H H':Hp}{t:List T}{v:List V}(hP:∀a,P a->O a\/Nw K H a)(hO:∀a,O' a->O a\/Nw K H a)(h:SameO P H H')(r:Reps K O H t v):Reps K O' H' t v:=
 Reps.less (O:=λa=>O' a\/P a) (λ_ z=> .inl z) (Reps.keep h (λ_ z=> .inr z) (Reps.more (λa z=>z.elim (hO a) (hP a)) r))
def Hb (K:IX)(O:Ow)(H:Hp)(ts:List T)(J:It):Prop:=∀(P O':Ow),(∀a,P a->O a\/Nw K H a)->(∀a,O' a->O a\/Nw K H a)->∀(i:Nat) (Hc:Hp),SameO P H Hc->(∀a,O' a->∃o,Hc a=some o) →
 (ts.length<=i->J.stop i Hc)/\(∀t,ts[i]? =some t->J.go i Hc/\∀x Hc',J.yld i Hc x Hc'->Same Hc Hc'/\Rep K O' Hc' t x)
def Hm (X:Cx)(f:En->Rs (List T)):TI:=λσ H R=> ∃Z O,EnvO X.K O H Z σ/\Post X H (f Z) λts H'=> ∀J,Hb X.K O H' ts J->R J H'
abbrev x8 (X:Cx)(tg iter:Expr)(f:En->Rs (List T)):Prop:=PI X tg iter (Hm X f)
theorem PI.imp {tg iter:Expr}{t t':TI}(h:PI X tg iter t)(w:∀σ H R,t' σ H R->t σ H R):PI X tg iter t':=λpins s σ H R I q=>h pins s σ H R I (w σ H R q)
def iL (f:En->Rs T)(Z:En):Rs (List T):=do
 let x <-f Z
 match x with
 | .lst l=> .ok l
 | _=> .bad
def iT (f:En->Rs T)(Z:En):Rs (List T):=do
 let x <-f Z
 match x with
 | .tup l=> .ok l
 | _=> .bad
theorem vV {tg:Expr}(ha:cN X a fa):x8 X tg a (iL fa):=PI.imp (BR ha) λσ H R hh_=>by
 obtain⟨Z,O,E,h⟩:=hh_;obtain⟨Z1,O1,E1,h1⟩:=aZ E h;refine⟨Z1,O1,E1,Post.mono h1 λts H1 s1 q vs r=> ?_⟩
 obtain⟨t',r',s',E',q'⟩:=q vs r
 split at q'
 ·rename_i l
  obtain⟨a,ws,rfl,n,q,z⟩:=Rep.HD.mp r';refine⟨a,rfl,⟨ws,SqL.of q⟩,q' H1 (Same.refl H1) _ λP O' hP hO i Hc hs ht=> ?_⟩
  have hnP:¬ P a:=λz=>(hP a z).elim n λw=>by rw[w.1]at q;cases q
  refine⟨λhi=>⟨ws,SqL.of (hs _ _ q hnP),by rw[<-z.length];exact hi⟩,λt ht'=> ?_⟩
  obtain⟨v,e1,e2⟩:=z.get ht';refine⟨⟨ws,v,SqL.of (hs _ _ q hnP),e1⟩,λx Hc' y=> ?_⟩
  obtain⟨e,y⟩:=y;subst e
  have:=y ws (SqL.of (hs _ _ q hnP));rw[e1]at this;cases this;exact⟨Same.refl _,e2.move hP hO hs⟩
 ·exact q'.elim
theorem DX {tg:Expr}(ha:cN X a fa):x8 X tg a (iT fa):=PI.imp (Ei ha) λσ H R hh_=>by
 obtain⟨Z,O,E,h⟩:=hh_;obtain⟨Z1,O1,E1,h1⟩:=aZ E h;refine⟨Z1,O1,E1,Post.mono h1 λts H1 s1 q vs r=> ?_⟩
 obtain⟨t',r',s',E',q'⟩:=q vs r
 split at q'
 ·rename_i l
  obtain⟨a,ws,rfl,n,q,z⟩:=Rep.HC.mp r';refine⟨a,rfl,⟨ws,SqT.of q⟩,q' H1 (Same.refl H1) _ λP O' hP hO i Hc hs ht=> ?_⟩
  have hnP:¬ P a:=λz=>(hP a z).elim n λw=>by rw[w.1]at q;cases q
  refine⟨λhi=>⟨ws,SqT.of (hs _ _ q hnP),by rw[<-z.length];exact hi⟩,λt ht'=> ?_⟩
  obtain⟨v,e1,e2⟩:=z.get ht';refine⟨⟨ws,v,SqT.of (hs _ _ q hnP),e1⟩,λx Hc' y=> ?_⟩
  obtain⟨e,y⟩:=y;subst e
  have:=y ws (SqT.of (hs _ _ q hnP));rw[e1]at this;cases this;exact⟨Same.refl _,e2.move hP hO hs⟩
 ·exact q'.elim
def rng (lo hi:Int):List T:=(Js (hi - lo).toNat).map λ(k:Nat)=>T.int (lo+(k:Int))
def vA (i:Int):Bool:=decide (-(2 ^ 62)<=i)&&decide (i<2 ^ 62)
def iR (f:En->Rs (List T))(Z:En):Rs (List T):=do
 let x <-f Z
 match x with
 | [.int j] =>if vA j then .ok (rng 0 j)else .bad
 | [.int i,.int j] =>if vA i&&vA j then .ok (rng i j)else .bad
 | _=> .bad
theorem jZ {i:Int}(h:vA i=true) : -(2 ^ 62)<=i/\i<2 ^ 62:=by
 unfold vA at h;rw[Jc]at h;exact⟨of_decide_eq_true h.1,of_decide_eq_true h.2⟩
theorem nA {K:IX}{O:Ow}{H:Hp}(lo hi:Int):Hb K O H (rng lo hi) (Itr lo (hi - lo).toNat):=λP O' hP hO i Hc hs ht=>by
 refine⟨λh=> ?_,λt h=> ?_⟩
 ·show(hi - lo).toNat<=i
  unfold rng at h;rw[Jd,J2]at h;exact h
 ·unfold rng at h
  rw[JN]at h
  by_cases hi':i<(hi - lo).toNat
  ·rw[List.getElem?_range hi']at h
   cases h;refine⟨hi',λx Hc' y=> ?_⟩
   obtain⟨e,y⟩:=y;subst e y;exact⟨Same.refl _,Rep.HI _⟩
  ·rw[My (by simpa using hi')]at h
   cases h
theorem xj {tg:Expr}(hm:X.mg "range" =none)(ha:qG X [a] fs)(hg:Gl X "range":=by rfl)(hs:Jz [a] X.env= [(false,eval a X.env)]:=by rfl):x8 X tg (.Call (.Name "range" p) [a] [] pos) (iR fs):=by
 intro pins s σ H R I ⟨Z,O,E,h⟩
 have h1:=fq E h;refine Call_ (gu I hg hm boot_range (JO (cG (ha pos pins s σ H _ I h1) λus s1 ⟨vs,H1,I1,r1,ts,rs,s',E',q1⟩=> ?_) hs rfl))
 split at q1
 ·obtain⟨v,rfl,r⟩:=rs.one
  split at q1
  ·rename_i j hj
   obtain⟨b1,b2⟩:=jZ hj;cases Rep.HA.mp r
   cases r1 with
   | cons r rr=>
    cases rr;obtain⟨t,rfl⟩:=r;exact call_range_1 (lq I1 (by omega) (by omega) b1 b2 (q1 H1 (Same.refl H1) _ (nA 0 j)))
  ·exact q1.elim
 ·obtain⟨v,ws,rfl,p1,q⟩:=Reps.me.mp rs
  obtain⟨v2,rfl,r⟩:=q.one
  split at q1
  ·rename_i i j hj
   rw[Jc]at hj;obtain⟨b1,b2⟩:=jZ hj.1;obtain⟨b3,b4⟩:=jZ hj.2;cases Rep.HA.mp p1;cases Rep.HA.mp r
   cases r1 with
   | cons r rr=>
    cases rr with
    | cons r' rr=>
     cases rr;obtain⟨t,rfl⟩:=r;obtain⟨t',rfl⟩:=r';exact call_range_2 (lq I1 b1 b2 b3 b4 (q1 H1 (Same.refl H1) _ (nA i j)))
  ·exact q1.elim
 ·exact q1.elim
theorem xi {tg:Expr}(hm:X.mg "range" =none)(ha:qG X [a,b] fs)(hg:Gl X "range":=by rfl)(hs:Jz [a,b] X.env= [(false,eval a X.env),(false,eval b X.env)]:=by rfl)(hs2:Jz [b] X.env= [(false,eval b X.env)]:=by rfl) :
  x8 X tg (.Call (.Name "range" p) [a,b] [] pos) (iR fs):=by
 intro pins s σ H R I ⟨Z,O,E,h⟩
 have h1:=fq E h;refine Call_ (gu I hg hm boot_range (JO (cG (ha pos pins s σ H _ I h1) λus s1 ⟨vs,H1,I1,r1,ts,rs,s',E',q1⟩=> ?_) (by rw[hs,hs2]) (by rw[hs2];rfl)))
 split at q1
 ·obtain⟨v,rfl,r⟩:=rs.one
  split at q1
  ·rename_i j hj
   obtain⟨b1,b2⟩:=jZ hj;cases Rep.HA.mp r
   cases r1 with
   | cons r rr=>
    cases rr;obtain⟨t,rfl⟩:=r;exact call_range_1 (lq I1 (by omega) (by omega) b1 b2 (q1 H1 (Same.refl H1) _ (nA 0 j)))
  ·exact q1.elim
 ·obtain⟨v,ws,rfl,p1,q⟩:=Reps.me.mp rs
  obtain⟨v2,rfl,r⟩:=q.one
  split at q1
  ·rename_i i j hj
   rw[Jc]at hj;obtain⟨b1,b2⟩:=jZ hj.1;obtain⟨b3,b4⟩:=jZ hj.2;cases Rep.HA.mp p1;cases Rep.HA.mp r
   cases r1 with
   | cons r rr=>
    cases rr with
    | cons r' rr=>
     cases rr;obtain⟨t,rfl⟩:=r;obtain⟨t',rfl⟩:=r';exact call_range_2 (lq I1 b1 b2 b3 b4 (q1 H1 (Same.refl H1) _ (nA i j)))
  ·exact q1.elim
 ·exact q1.elim
end
section
variable {X:Cx}{a b c e:Expr}{es:List Expr}{fa fb fc:En->Rs T}{fs:En->Rs (List T)}{pos p p2:Pos}{x:Str}
def bF (src:List (Option Nat))(Z:En):En:=src.map λo=>match o with
 | some i=>match Z[i]? with
  | some (.va t)=> .va t
  | _=> .em
 | none=> .em
def dF (tgt:T->En->Rs En)(fc:En->Rs Bool)(fe:En->Rs T):List T->En->Rs (List T)
 | [],_=> .ok []
 | t::r,Z=>do
  let Z1 <-tgt t Z
  let k <-fc Z1
  if k then do
   let y <-fe Z1
   let ys <-dF tgt fc fe r Z1
   .ok (y::ys)
  else dF tgt fc fe r Z1
def dO (fi:En->Rs (List T))(src:List (Option Nat))(tgt:T->En->Rs En)(fc:En->Rs Bool)(fe:En->Rs T)(Z:En):Rs T:=do
 let ts <-fi Z
 if ts.length<=sizeLine then match dF tgt fc fe ts (bF src Z)with
  | .ok ys=> .ok (.lst ys)
  | _=> .bad
 else .bad
def bT (_:En):Rs Bool:=.ok true
def tP0 (K:IX)(f:En->Rs T):TE:=λσ H Q=> ∃Z O,EnvO K O H Z σ/\match f Z with
 | .ok t=> ∀H',Same H H'->∀v,Rep K O H' t v->Q v H'
 | _=>False
def tPT0 (K:IX)(f:En->Rs Bool):TT:=λσ H Q=> ∃Z O,EnvO K O H Z σ/\match f Z with
 | .ok t=> ∀H',Same H H'->Q t H'
 | _=>False
theorem tP0.up {f:En->Rs T}{σ:L2.St}{H:Hp}{Q:VK}(h:tP0 X.K f σ H Q):tP X f σ H Q:=by
 obtain⟨Z,O,E,h⟩:=h;refine⟨Z,O,E,?_⟩
 cases q:f Z with
 | ok t=>rw[q]at h;exact h
 | err c=>rw[q]at h;exact h.elim
 | bad=>rw[q]at h;exact h.elim
theorem tPT0.up {f:En->Rs Bool}{σ:L2.St}{H:Hp}{Q:Bool->Hp->Prop}(h:tPT0 X.K f σ H Q):yc X f σ H Q:=by
 obtain⟨Z,O,E,h⟩:=h;refine⟨Z,O,E,?_⟩
 cases q:f Z with
 | ok t=>rw[q]at h;exact h
 | err c=>rw[q]at h;exact h.elim
 | bad=>rw[q]at h;exact h.elim
theorem BC:wW X [] (yc X bT):=λpins s σ H Q I ⟨Z,O,E,h⟩=>rn pins s σ H Q I (h H (Same.refl H))
theorem BB {f:En->Rs Bool}(h:uO X c f):wW X [c] (yc X f):=BQ h
abbrev noM:Mn:=λ_ _=>False
theorem xH {src:List (Option Nat)}{Z:En}{j:Nat}{o:OT}(e:(bF src Z)[j]? =some (.ow o)):False:=by
 unfold bF at e;rw[JN]at e
 cases q:src[j]? with
 | none=>rw[q]at e;cases e
 | some o'=>
  rw[q]at e
  cases o' with
  | none=>cases e
  | some i=>
   have e':(match Z[i]? with | some (Sl.va t)=>Sl.va t | _=>Sl.em)=Sl.ow o:=JU e
   split at e' <;> cases e'
theorem ul {K:IX}{O:Ow}{H:Hp}{Z:En}{σ:L2.St}(E:EnvO K O H Z σ)(src:List (Option Nat)):EnvM K O noM H (bF src Z) (gA src σ) where
 len:=by unfold bF gA;rw[Jd,Jd]
 val:=λj t e=>by
  unfold bF at e;unfold gA;rw[JN]at e ⊢
  cases q:src[j]? with
  | none=>rw[q]at e;cases e
  | some o=>
   rw[q]at e
   cases o with
   | none=>cases e
   | some i=>
    have e':(match Z[i]? with | some (Sl.va t)=>Sl.va t | _=>Sl.em)=Sl.va t:=JU e
    cases q2:Z[i]? with
    | none=>rw[q2]at e';cases e'
    | some z=>
     rw[q2]at e'
     cases z with
     | em=>cases e'
     | ow l=>cases e'
     | va t'=>
      cases e';obtain⟨v,e1,e2⟩:=E.val i _ q2;exact⟨v,by simp[e1],e2⟩
 own:=λj o e=>(xH e).elim
 sub:=λ_ _ z=>z.elim
 dis:=λ_ _ _ z=>z.elim
 trk:=E.mtb
theorem ORep.no {K:IX}{O:Ow}{H:Hp}{o:OT}{v:V}(r:ORep K O vj H o v):False:=by
 cases o with
 | lst l=>obtain⟨a,_,_,e,_⟩:=r;exact(e a).mpr rfl
 | dct ks ts=>obtain⟨a,_,_,e,_⟩:=r;exact(e a).mpr rfl
 | dd ks rows=>obtain⟨a,_,_,_,e,_⟩:=r;exact(e a).mpr (.inl rfl)
theorem EnvM.move {K:IX}{O O' P:Ow}{H H':Hp}{Z:En}{σ:L2.St}(E:EnvM K O noM H Z σ)(hP:∀a,P a->O a\/Nw K H a)(hO:∀a,O' a->O a\/Nw K H a)(h:SameO P H H')(trk:∀a,O' a->Mtb H' a):EnvM K O' noM H' Z σ where
 len:=E.len
 val:=λi t e=>let ⟨v,e1,e2⟩:=E.val i t e;⟨v,e1,e2.move hP hO h⟩
 own:=λi o e=>let ⟨_,_,r⟩:=E.own i o e;r.no.elim
 sub:=λ_ _ z=>z.elim
 dis:=λ_ _ _ z=>z.elim
 trk:=trk
def FB (fi:En->Rs (List T))(src:List (Option Nat))(tgt:T->En->Rs En)(fc:En->Rs Bool)(fe:En->Rs T)(Z:En):Rs (List T):=fi Z >>= λts=>if ts.length<=sizeLine then(match dF tgt fc fe ts (bF src Z)with | .ok ys=>Rs.ok ys | _=> .bad)else .bad
theorem zP {src:List (Option Nat)}{fi:En->Rs (List T)}{tgt:T->En->Rs En}{fc:En->Rs Bool}{fe:En->Rs T}{Z:En}:dO fi src tgt fc fe Z=FB fi src tgt fc fe Z >>= λl=> .ok (.lst l):=by
 unfold dO FB
 cases fi Z with
 | bad=>rfl
 | err c=>rfl
 | ok ts=>
  rw[az,az]
  by_cases hz:ts.length<=sizeLine
  ·rw[if_pos hz,if_pos hz]
   cases dF tgt fc fe ts (bF src Z) <;> rfl
  ·rw[if_neg hz,if_neg hz];rfl
theorem zN {src:List (Option Nat)}{fi:En->Rs (List T)}{tgt:T->En->Rs En}{fc:En->Rs Bool}{fe:En->Rs T}{σ:L2.St}{H:Hp}{Q:VK}{Z:En}{O:Ow}(E:EnvO X.K O H Z σ)
  (hq1:Post X H (FB fi src tgt fc fe Z) λall H1=> ∀D ys H',Nw X.K H1 D->Same H1 H'->H' D=some (.lst ys)->Reps X.K (λa=>O a\/a=D) H' all ys->Q (.ref D) H'):Dr X.K (Hm X fi) src (xc X tgt) (tPT0 X.K fc) (tP0 X.K fe) σ H Q:=by
 unfold FB at hq1;refine⟨Z,O,E,Post.mono hq1.bind λts H1 s1 q1 J hJ D hD hK=> ?_⟩
 have E1:=E.same s1
 by_cases hz:ts.length<=sizeLine
 ·rw[if_pos hz]at q1
  cases hall:dF tgt fc fe ts (bF src Z)with
  | bad=>rw[hall]at q1;exact q1.elim
  | err c=>rw[hall]at q1;exact q1.elim
  | ok all=>
   rw[hall]at q1
   have q2:∀D ys H',Nw X.K H1 D->Same H1 H'->H' D=some (.lst ys)->Reps X.K (λa=>O a\/a=D) H' all ys->Q (.ref D) H':=q1 H1 (Same.refl H1)
   have nD:Nw X.K H1 D:=⟨hD,hK⟩
   let O':Ow:=λa=>O a\/a=D
   have subO:∀a,O' a->O a\/Nw X.K H1 a:=λa z=>z.elim .inl λw=> .inr (w▸nD)
   -- the walk's word
   refine⟨λi m σ' ys H'=>m=ts.length - i/\i<=ts.length/\ys.length<=i/\H' D=some (.lst ys)/\SameO (λa=>a=D) (upd H1 D (.lst [])) H' ∧
    ∃Z' yts zs,EnvM X.K O' noM H' Z' σ'/\Reps X.K O' H' yts ys/\dF tgt fc fe (ts.drop i) Z'= .ok zs/\yts++zs=all,⟨ts.length,?_⟩,?_⟩
   ·have sN:Same H1 (upd H1 D (.lst [])):=aV hD _
    refine⟨by omega,Lc _,Jq _,aG,λb o e _=>e,bF src Z,[],all,?_,Reps.nil_,by simpa using hall,rfl⟩
    have E2:EnvM X.K O noM H1 (bF src Z) (gA src σ):=ul E1 src
    exact E2.move (P:=λa=>a=D) (λa z=> .inr (z▸nD)) subO (λb o e _=>sN b o e) λa z=>by
     rcases z with z | z
     ·exact(E1.mtb a z).same sN
     ·rw[z];exact .inl ⟨_,aG⟩
   ·rintro i m σ' ys H' ⟨rfl,hi',hyl,hDl,hsm,Z',yts,zs,E',ry,hl,hyz⟩
    refine⟨hDl,?_⟩
    have sm1:SameO (λa=>a=D) H1 H':=λb o e nb=>hsm b o (by rw[aF nb];exact e) nb
    have it:=hJ (λa=>a=D) O' (λa z=> .inr (z▸nD)) subO i H' sm1 (λa z=>(E'.trk a z).some)
    by_cases hlt:i<ts.length
    ·refine .inr ?_
     have hti:ts[i]? =some ts[i]:=by simp
     obtain⟨go,yl⟩:=it.2 ts[i] hti;refine⟨go,by omega,λxx Hc y=> ?_⟩
     obtain⟨sc,rx⟩:=yl xx Hc y
     have Ec:=E'.same sc;rw[KH hlt]at hl;unfold dF at hl;refine⟨Z',O',noM,ts[i],Ec,rx,?_⟩
     cases e1:tgt ts[i] Z' with
     | bad=>rw[e1]at hl;cases hl
     | err cc=>rw[e1]at hl;cases hl
     | ok Z1=>
      rw[e1,az]at hl;intro σ1 Eg;refine⟨Z1,O',⟨noM,Eg⟩,?_⟩
      cases e2:fc Z1 with
      | bad=>rw[e2]at hl;cases hl
      | err cc=>rw[e2]at hl;cases hl
      | ok k=>
       rw[e2,az]at hl;intro H3 s3
       have E3:=Eg.same s3
       have tot:Same H' H3:=sc.trans s3
       have D3:H3 D=some (.lst ys):=tot _ _ hDl
       have sm3:SameO (λa=>a=D) (upd H1 D (.lst [])) H3:=λb o e nb=>tot _ _ (hsm b o e nb)
       cases k with
       | false=>
        refine L2.iteF ?_
        have hl':dF tgt fc fe (ts.drop (i+1)) Z1= .ok zs:=by simpa using hl
        exact⟨ts.length - (i+1),by omega,rfl,hlt,by omega,D3,sm3,Z1,yts,zs,E3,ry.same tot,hl',hyz⟩
       | true=>
        refine L2.iteT ?_
        have hl':(fe Z1 >>= λy=>dF tgt fc fe (ts.drop (i+1)) Z1 >>= λys=>Rs.ok (y::ys))= .ok zs:=by simpa using hl
        refine⟨Z1,O',⟨noM,E3⟩,?_⟩
        cases e3:fe Z1 with
        | bad=>rw[e3]at hl';cases hl'
        | err cc=>rw[e3]at hl';cases hl'
        | ok yt=>
         rw[e3,az]at hl'
         cases e4:dF tgt fc fe (ts.drop (i+1)) Z1 with
         | bad=>rw[e4]at hl';cases hl'
         | err cc=>rw[e4]at hl';cases hl'
         | ok zs'=>
          rw[e4,az]at hl'
          have hzs:yt::zs'=zs:=by injection hl'
          intro H4 s4 v rv
          have D4:H4 D=some (.lst ys):=s4 _ _ D3
          have E4:=E3.same s4
          have tot4:Same H' H4:=tot.trans s4
          have smD:SameO (λa=>a=D) H4 (upd H4 D (.lst (ys++ [v]))):=λb o e nb=>by rw[aF nb];exact e
          have inO:∀a,a=D->O' a\/Nw X.K H4 a:=λa z=> .inl (.inr z)
          refine⟨D4,ts.length - (i+1),by omega,rfl,hlt,?_,aG,λb o e nb=>smD b o (s4 _ _ (sm3 b o e nb)) nb,Z1,yts++ [yt],zs',?_,?_,e4,?_⟩
          ·rw[Jj,KN];omega
          ·exact E4.move inO (λa z=> .inl z) smD λaa z=>by
            by_cases hz:aa=D
            ·rw[hz];exact .inl ⟨_,aG⟩
            ·unfold Mtb;rw[aF hz];exact E4.trk aa z
          ·have r1:Reps X.K O' H4 (yts++ [yt]) (ys++ [v]):=(ry.same tot4).append (Reps.HG rv Reps.nil_)
           exact r1.move inO (λa z=> .inl z) smD
          ·rw[JB,List.singleton_append,hzs];exact hyz
    ·refine .inl ⟨it.1 (by omega),?_⟩
     have hi2:i=ts.length:=by omega
     subst hi2;rw[PQ]at hl
     have hzs:zs= []:=by unfold dF at hl;injection hl with hl;exact hl.symm
     subst hzs;rw[Kd]at hyz;subst hyz
     have sF:Same H1 H':=λb o e=>sm1 b o e λz=>by rw[z,hD]at e;cases e
     exact q2 D ys H' nD sF hDl ry
 ·rw[if_neg hz]at q1
  exact q1.elim
theorem rZ {src:List (Option Nat)}{fi:En->Rs (List T)}{tgt:T->En->Rs En}{fc:En->Rs Bool}{fe:En->Rs T}{σ:L2.St}{H:Hp}{Q:VK}(h0:tP X (dO fi src tgt fc fe) σ H Q):Dr X.K (Hm X fi) src (xc X tgt) (tPT0 X.K fc) (tP0 X.K fe) σ H Q:=by
 obtain⟨Z,O,E,hq⟩:=h0;refine zN E ?_
 have e:dO fi src tgt fc fe Z=FB fi src tgt fc fe Z >>= λl=> .ok (.lst l):=zP
 rw[e]at hq
 cases q:FB fi src tgt fc fe Z with
 | bad=>rw[q]at hq;exact hq.elim
 | err c=>rw[q]at hq;exact hq
 | ok l=>
  rw[q,az]at hq;intro H1 s1 D ys H' nD sD eD rD;exact hq H' (s1.trans sD) _ (Rep.HD.mpr ⟨D,ys,rfl,λz=>(E.same s1).fresh nD.1 z,eD,rD.less λa z=> .inl z⟩)
theorem q_lc {elt tg iter:Expr}{ifs:List Expr}{scope:Mi}{N':List Str}{src:List (Option Nat)}{fi:En->Rs (List T)}{tgt:T->En->Rs En}{fc:En->Rs Bool}{fe:En->Rs T}
  (hc:X.calm=true) (S:LcScope X scope N' src) (hi:x8 X tg iter fi)
  (block:∀cl C s₀ H₀ fp,AT (bJ X scope cl N' C s₀ H₀ fp) tg tgt/\wW (bJ X scope cl N' C s₀ H₀ fp) ifs (yc (bJ X scope cl N' C s₀ H₀ fp) fc)/\cN (bJ X scope cl N' C s₀ H₀ fp) elt fe)
  (hs:∀x,JQ iter X.env x=pure x:=by intro _;rfl) :
  cN X (.ListComp elt [⟨tg,iter,ifs,0⟩] scope pos) (dO fi src tgt fc fe):=by
 have hPG:∀cl C s₀ H₀ fp,PG (bJ X scope cl N' C s₀ H₀ fp) tg (xc X tgt):=λcl C s₀ H₀ fp=>(block cl C s₀ H₀ fp).1
 have hPI:∀cl C s₀ H₀ fp,wW (bJ X scope cl N' C s₀ H₀ fp) ifs (tPT0 X.K fc):=λcl C s₀ H₀ fp pins s σ H Q I h=>(block cl C s₀ H₀ fp).2.1 pins s σ H Q I (tPT0.up (X:=bJ X scope cl N' C s₀ H₀ fp) h)
 have hPE:∀cl C s₀ H₀ fp,PE (bJ X scope cl N' C s₀ H₀ fp) elt (tP0 X.K fe):=λcl C s₀ H₀ fp pins s σ H Q I h=>(block cl C s₀ H₀ fp).2.2 pins s σ H Q I (tP0.up (X:=bJ X scope cl N' C s₀ H₀ fp) h)
 exact PE.imp (tO (g:=xc X tgt) (tc:=tPT0 X.K fc) (te:=tP0 X.K fe) hc S hi (λcl C s₀ H₀ fp=>⟨hPG cl C s₀ H₀ fp,hPI cl C s₀ H₀ fp,hPE cl C s₀ H₀ fp⟩) hs) λσ H Q h=>rZ h
inductive Fl where
 | nx (Z:En) | rt (t:T) | bk (Z:En) | ct (Z:En)
def OO (B:Ow)(M:Mn):Ow:=λa=>B a\/M.u a
structure Ev (K:IX)(B:Ow)(M:Mn)(H:Hp)(Z:En)(σ:L2.St):Prop where
 env:EnvM K (OO B M) M H Z σ
 mine:∀a,M.u a->¬ B a
theorem Ev.same {K:IX}{B:Ow}{M:Mn}{H H':Hp}{Z:En}{σ:L2.St}(h:Same H H')(e:Ev K B M H Z σ):Ev K B M H' Z σ:=⟨e.env.same h,e.mine⟩
theorem Ev.o {K:IX}{B:Ow}{M:Mn}{H:Hp}{Z:En}{σ:L2.St}(e:Ev K B M H Z σ):EnvO K (OO B M) H Z σ:=⟨M,e.env⟩
def PostF (X:Cx)(B P:Ow)(H:Hp)(r:Rs Fl)(D:sJ):Prop:=match r with
 | .ok (.nx Z')=> ∀σ' H' M',SameO P H H'->Ev X.K B M' H' Z' σ'->(∀a,M'.u a->P a\/Nw X.K H a)->D.nx σ' H'
 | .ok (.rt t)=> ∀v H',SameO P H H'->Rep X.K B H' t v->D.rt v H'
 | .ok (.bk Z')=> ∀σ' H' M',SameO P H H'->Ev X.K B M' H' Z' σ'->(∀a,M'.u a->P a\/Nw X.K H a)->D.bk σ' H'
 | .ok (.ct Z')=> ∀σ' H' M',SameO P H H'->Ev X.K B M' H' Z' σ'->(∀a,M'.u a->P a\/Nw X.K H a)->D.ct σ' H'
 | .err c=>XA X P H c
 | .bad=>False
def Hl (X:Cx)(F:En->Rs Fl):TS:=λD σ H=> ∃Z B M,Ev X.K B M H Z σ/\PostF X B M.u H (F Z) D
abbrev pi (X:Cx)(s:Stmt)(F:En->Rs Fl):Prop:=PS X s (Hl X F)
abbrev ng (X:Cx)(s:List Stmt)(F:En->Rs Fl):Prop:=PSs X s (Hl X F)
theorem PostF.later {B P P1:Ow}{H H1:Hp}{r:Rs Fl}{D:sJ}(h:PostF X B P H r D)(s:SameO P H H1)(sub:∀a,P1 a->P a\/Nw X.K H a):PostF X B P1 H1 r D:=by
 have back:∀a,P1 a\/Nw X.K H1 a->P a\/Nw X.K H a:=λa z=>z.elim (sub a) (iO s)
 cases r with
 | bad=>exact h
 | err c=>exact XA.later h s sub
 | ok f=>
  cases f with
  | nx Z'=>exact λσ' H' M' s' E' o'=>h σ' H' M' (s.trans s' sub) E' λa z=>back a (o' a z)
  | rt t=>exact λv H' s' r=>h v H' (s.trans s' sub) r
  | bk Z'=>exact λσ' H' M' s' E' o'=>h σ' H' M' (s.trans s' sub) E' λa z=>back a (o' a z)
  | ct Z'=>exact λσ' H' M' s' E' o'=>h σ' H' M' (s.trans s' sub) E' λa z=>back a (o' a z)
theorem PostF.xa {B P:Ow}{H:Hp}{c:Str}{D:sJ}(h:PostF X B P H (.err c) D):XA X vj H c:=XA.later (P:=P) h (λ_ _ e _=>e) λ_ z=>z.elim
def sN (Z:En):Rs Fl:=.ok (.nx Z)
def au (F G:En->Rs Fl)(Z:En):Rs Fl:=do
 let f <-F Z
 match f with
 | .nx Z'=>G Z'
 | f=> .ok f
theorem DN:ng X [] sN:=PSs.imp BM λD σ H ⟨Z,B,M,E,h⟩=>h σ H M (λ_ _ e _=>e) E λa z=> .inl z
theorem By {st:Stmt}{rest:List Stmt}{F G:En->Rs Fl}(h1:pi X st F)(h2:ng X rest G):ng X (st::rest) (au F G):=PSs.imp (yT h1 h2) λD σ H hh_=>by
 obtain⟨Z,B,M,E,h⟩:=hh_;refine⟨Z,B,M,E,?_⟩
 unfold au at h
 cases q:F Z with
 | bad=>rw[q]at h;exact h.elim
 | err c=>rw[q]at h;exact h
 | ok f=>
  rw[q,az]at h
  cases f with
  | nx Z'=>exact λσ' H' M' s' E' o'=>⟨Z',B,M',E',h.later s' o'⟩
  | rt t=>exact h
  | bk Z'=>exact h
  | ct Z'=>exact h
theorem DM {st:Stmt}{F:En->Rs Fl}(h:pi X st F):ng X [st] F:=BL h
def aI (f:En->Rs T)(Z:En):Rs Fl:=do
 let t <-f Z
 .ok (.rt t)
theorem DK (ha:cN X a fa):pi X (.Return (some a) pos) (aI fa):=PS.imp (Ed ha) λD σ H hh_=>by
 obtain⟨Z,B,M,E,h⟩:=hh_;refine⟨Z,OO B M,E.o,?_⟩
 unfold aI at h
 cases q:fa Z with
 | bad=>rw[q]at h;exact h.elim
 | err c=>rw[q]at h;exact PostF.xa h
 | ok t=>
  rw[q,az]at h;exact λH' s v r=>h v H' (SameO.of s) (r.less λ_ z=> .inl z)
def dY (f:En->Rs Bool)(F G:En->Rs Fl)(Z:En):Rs Fl:=do
 let k <-f Z
 if k then F Z else G Z
theorem F4 {f:En->Rs Bool}{A B:List Stmt}{F G:En->Rs Fl}(hc:uO X c f)(ha:ng X A F)(hb:ng X B G):pi X (.If c A B pos) (dY f F G):=PS.imp (Gk hc ha hb) λD σ H hh_=>by
 obtain⟨Z,B,M,E,h⟩:=hh_;refine⟨Z,OO B M,E.o,?_⟩
 unfold dY at h
 cases q:f Z with
 | bad=>rw[q]at h;exact h.elim
 | err c=>rw[q]at h;exact PostF.xa h
 | ok k=>
  rw[q,az]at h;intro H' s
  have E':Ev X.K B M H' Z σ:=E.same s
  cases k with
  | true=>refine L2.iteT ?_;exact⟨Z,B,M,E',PostF.later (by simpa using h) (SameO.of s) λa z=> .inl z⟩
  | false=>refine L2.iteF ?_;exact⟨Z,B,M,E',PostF.later (by simpa using h) (SameO.of s) λa z=> .inl z⟩
def cX (f:En->Rs T)(g:T->En->Rs En)(Z:En):Rs Fl:=do
 let t <-f Z
 match g t Z with
 | .ok Z'=> .ok (.nx Z')
 | _=> .bad
theorem yF {B:Ow}{M:Mn}{Z:En}{σ:L2.St}{H:Hp}{D:sJ}{g:T->En->Rs En}{f:En->Rs T}(E:Ev X.K B M H Z σ)(h:PostF X B M.u H (cX f g Z) D):yx (tP X f) (xc X g) D σ H:=by
 refine⟨Z,OO B M,E.o,?_⟩
 unfold cX at h
 cases q:f Z with
 | bad=>rw[q]at h;exact h.elim
 | err c=>rw[q]at h;exact PostF.xa h
 | ok t=>
  rw[q,az]at h;intro H' s v r;refine⟨Z,OO B M,M,t,E.env.same s,r,?_⟩
  cases q2:g t Z with
  | bad=>rw[q2]at h;exact h.elim
  | err c=>rw[q2]at h;exact h.elim
  | ok Z'=>
   rw[q2]at h;exact λσ' E'=>h σ' H' M (SameO.of s) ⟨E',E.mine⟩ λa z=> .inl z
theorem Bg {f:En->Rs T}{σ:L2.St}{H:Hp}{Q Q':VK}(h:tP X f σ H Q)(w:∀v H',Q v H'->Q' v H'):tP X f σ H Q':=by
 obtain⟨Z,O,E,q⟩:=h;exact⟨Z,O,E,Post.mono q λt H' _ z v r=>w v H' (z v r)⟩
theorem F3 {elt tg iter:Expr}{ifs:List Expr}{scope:Mi}{spos py:Pos}{N':List Str}{src:List (Option Nat)}{fi:En->Rs (List T)}{tgt:T->En->Rs En}{fc:En->Rs Bool}{fe:En->Rs T}(i:Nat){y:Str}
  (hc:X.calm=true) (S:LcScope X scope N' src) (hi:x8 X tg iter fi)
  (block:∀cl C s₀ H₀ fp,AT (bJ X scope cl N' C s₀ H₀ fp) tg tgt/\wW (bJ X scope cl N' C s₀ H₀ fp) ifs (yc (bJ X scope cl N' C s₀ H₀ fp) fc)/\cN (bJ X scope cl N' C s₀ H₀ fp) elt fe)
  (hN:X.N.Nodup) (hiy:X.N[i]? =some y:=by rfl) (hy:Loc X.env.scope y:=by first | exact Kz rfl | exact Ki rfl) (hsw:Kj (.ListComp elt [⟨tg,iter,ifs,0⟩] scope pos) (some (.Name y py)) spos.line X.env=pure true:=by rfl)
  (hf:X.fn y=true\/X.env.scope.names.lookup y=some .local:=by first | exact .inl rfl | exact .inr rfl | assumption) (hs:∀x,JQ iter X.env x=pure x:=by intro _;rfl) :
  pi X (.Assign [.Name y py] (.ListComp elt [⟨tg,iter,ifs,0⟩] scope pos) spos) (cX (dO fi src tgt fc fe) (gN i)):=by
 have hPG:∀cl C s₀ H₀ fp,PG (bJ X scope cl N' C s₀ H₀ fp) tg (xc X tgt):=λcl C s₀ H₀ fp=>(block cl C s₀ H₀ fp).1
 have hPI:∀cl C s₀ H₀ fp,wW (bJ X scope cl N' C s₀ H₀ fp) ifs (tPT0 X.K fc):=λcl C s₀ H₀ fp pins s σ H Q I h=>(block cl C s₀ H₀ fp).2.1 pins s σ H Q I (tPT0.up (X:=bJ X scope cl N' C s₀ H₀ fp) h)
 have hPE:∀cl C s₀ H₀ fp,PE (bJ X scope cl N' C s₀ H₀ fp) elt (tP0 X.K fe):=λcl C s₀ H₀ fp pins s σ H Q I h=>(block cl C s₀ H₀ fp).2.2 pins s σ H Q I (tP0.up (X:=bJ X scope cl N' C s₀ H₀ fp) h)
 refine PS.imp (C2 (g:=xc X tgt) (tc:=tPT0 X.K fc) (te:=tP0 X.K fe) (i:=i) hc S hi (λcl C s₀ H₀ fp=>⟨hPG cl C s₀ H₀ fp,hPI cl C s₀ H₀ fp,hPE cl C s₀ H₀ fp⟩) hN hiy hy hsw hf hs) λD σ H ⟨Z,B,M,E,h⟩=>rZ (Bg (yF E h) λv H' z=> ?_)
 obtain⟨Z',O,M',t,E',r,q⟩:=z;unfold gN at q
 split at q
 ·rename_i Z2 e
  split at e
  ·rename_i hl
   cases e;exact q _ (E'.set hl r)
  ·cases e
 ·exact q.elim
theorem DT {tg:Expr}{g:T->En->Rs En}(ha:cN X a fa)(hg:AT X tg g)(hs:O5 [tg] a pos.line X.env=pure false:=by rfl)(hw:O6 [tg] a X.env=pure none:=by rfl)
  (h1:(KG [tg] X.env).map (·.2)= [assign tg X.env]:=by rfl):pi X (.Assign [tg] a pos) (cX fa g):=PS.imp (Ee ha hg hs hw h1) λD σ H ⟨Z,B,M,E,h⟩=>yF E h
def qZ (f:En->Rs T)(Z:En):Rs Fl:=do
 let _ <-f Z
 .ok (.nx Z)
theorem Bx (ha:cN X a fa)(hs:Kj a none pos.line X.env=pure false:=by rfl):pi X (.Expr a pos) (qZ fa):=PS.imp (rj ha hs) λD σ H hh_=>by
 obtain⟨Z,B,M,E,h⟩:=hh_;refine⟨Z,OO B M,E.o,?_⟩
 unfold qZ at h
 cases q:fa Z with
 | bad=>rw[q]at h;exact h.elim
 | err c=>rw[q]at h;exact PostF.xa h
 | ok t=>
  rw[q,az]at h;exact λH' s v r=>h σ H' M (SameO.of s) (E.same s) λa z=> .inl z
def bj (g:T->En->Rs En)(F:En->Rs Fl):List T->En->Rs Fl
 | [],Z=> .ok (.nx Z)
 | t::r,Z=>do
  let Z1 <-g t Z
  let f <-F Z1
  match f with
  | .nx Z2=>bj g F r Z2
  | .ct Z2=>bj g F r Z2
  | .bk Z2=> .ok (.nx Z2)
  | .rt t=> .ok (.rt t)
def d6 (fi:En->Rs (List T))(g:T->En->Rs En)(F:En->Rs Fl)(Z:En):Rs Fl:=do
 let ts <-fi Z
 match bj g F ts Z with
 | .ok f=> .ok f
 | _=> .bad
theorem lV {α:Type}{t:Sem α}{Q:α->Jf->Prop}{s:Jf}{E:Je->Jf->Prop}{P:JI}{w:Kr}{A:J9}(h:wpAny (model P w) A t Q (λ_ _=>False) s):wpAny (model P w) A t Q E s:=Ln h (λ_ _ q=>q) λ_ _ z=>z.elim
theorem BN {tg iter:Expr}{body:List Stmt}{wi:TI}{g:TG}{tb:TS}{pos:Pos}(hc:X.calm=true)(hi:PI X tg iter wi)(hg:PG X.nox tg g)(hb:PSs X.nox body tb)
  (hs:∀x,JQ iter X.env x=pure x:=by intro _;rfl):PS X (.For tg iter body [] pos) (tFor wi g tb):=by
 intro pins s σ H D I h;refine wpAny_For (cG (hi pins s σ H _ I h) λv s1 h1=>cG h1 λitv s2 h2=> ?_) hs
 obtain⟨it,fp,tn,J,H2,e,I2,T,st2,f2,W,⟨m0,w0⟩,turn⟩:=h2;subst e
 have stat:∀{H':Hp},(∀b∈fp,H' b=none)->∀b∈fp,kS X pins H' b:=λhn b hb=>⟨hn b hb,(f2 b hb).2⟩
 refine codeAny_forLoop_any (λn s'=> ∃i σ' H',Inv X pins σ' H' s'/\tn i s'.heap/\(∀b∈fp,H' b=none)/\W i n σ' H') ?_ m0 ⟨0,σ,H2,I2,st2,λb hb=>(f2 b hb).1,w0⟩
 rintro n s3 ⟨i,σ3,H3,I3,st3,fr3,w3⟩
 rcases turn i n σ3 H3 w3 with⟨stop,qn⟩ | ⟨go,N,hN,step⟩
 ·refine lV (cG (T.done X.nox rfl rfl rfl hc i pins s3 σ3 H3 _ (I3.HF _) (stat fr3) st3 stop) λr s4 ⟨hr,I4⟩=> ?_)
  subst hr;exact MX ⟨σ3,H3,I4.HF _,qn⟩
 ·refine lV (cG (T.item X.nox rfl rfl rfl hc i pins s3 σ3 H3 _ (I3.HF _) (stat fr3) st3 go) λr s4 ⟨u,hr,h4⟩=> ?_)
  subst hr;refine lV (cG h4 λ_ s5 hh_=> ?_)
  obtain⟨x,H5,I5,r5,y5,st5,fr5⟩:=hh_
  have I5':=Inv.pinned (X:=X.nox) I5 (stat fr5) (T.obj _ _ st5);refine lV (cG (hg _ s5 σ3 H5 x u _ I5' r5 (step x H5 y5)) λ_ s6 hh_=> ?_)
  obtain⟨σ6,H6,I6,q6⟩:=hh_;refine lV (cG (hb _ s6 σ6 H6 _ I6 q6) λf s7 q7=> ?_)
  have again:∀{σ7:L2.St} {H7:Hp},Inv X.nox (pins++n8 fp s5.heap) σ7 H7 s7->N σ7 H7->∃m,m<n/\∃i σ' H',Inv X pins σ' H' s7/\tn i s7.heap/\(∀b∈fp,H' b=none)/\W i m σ' H':=λ{σ7 H7} I7 n7=>by
   obtain⟨m',hm,w7⟩:=hN σ7 H7 n7;refine⟨m',hm,i+1,σ7,H7,(Inv.HQ (X:=X.nox) I7).HF _,T.keep _ _ _ st5 λb hb o e=>(I7.pin (b,o) (Jt _ (Jt _ (iP hb e)))).1,λb hb=> ?_,w7⟩
   obtain⟨o,e,d⟩:=T.obj _ _ st5 b hb;exact(I7.pin (b,o) (Jt _ (Jt _ (iP hb e)))).2.1
  cases f with
  | next=>obtain⟨σ7,H7,I7,n7⟩:=q7;exact again I7 n7
  | cont=>obtain⟨σ7,H7,I7,n7⟩:=q7;exact again I7 n7
  | brk=>obtain⟨σ7,H7,I7,q7⟩:=q7;exact⟨σ7,H7,(Inv.HQ (X:=X.nox) I7).HF _,q7⟩
  | ret v=>obtain⟨x7,σ7,H7,I7,r7,q7⟩:=q7;exact⟨x7,σ7,H7,(Inv.HQ (X:=X.nox) I7).HF _,r7,q7⟩
theorem DP {tg iter:Expr}{body:List Stmt}{fi:En->Rs (List T)}{g:T->En->Rs En}{F:En->Rs Fl}(hc:X.calm=true)(hi:x8 X tg iter fi)(hg:AT X.nox tg g)(hb:ng X.nox body F)
  (hs:∀x,JQ iter X.env x=pure x:=by intro _;rfl):pi X (.For tg iter body [] pos) (d6 fi g F):=PS.imp (BN hc hi hg hb hs) λD σ H hh_=>by
 obtain⟨Z,B,M,E,h⟩:=hh_;refine⟨Z,OO B M,E.o,?_⟩
 unfold d6 at h
 cases q:fi Z with
 | bad=>rw[q]at h;exact h.elim
 | err c=>rw[q]at h;exact PostF.xa h
 | ok ts=>
  rw[q,az]at h
  cases qq:bj g F ts Z with
  | bad=>rw[qq]at h;exact h.elim
  | err c=>rw[qq]at h;exact h.elim
  | ok fin=>
  rw[qq]at h;intro H1 s1 J hJ
  have E1:Ev X.K B M H1 Z σ:=E.same s1
  have h1:PostF X B M.u H1 (.ok fin) D:=PostF.later h (SameO.of s1) λa z=> .inl z
  refine⟨λi m σ' H'=>m=ts.length - i/\i<=ts.length/\SameO M.u H1 H'/\∃Z' M',Ev X.K B M' H' Z' σ'/\(∀a,M'.u a->M.u a\/Nw X.K H1 a)/\bj g F (ts.drop i) Z'= .ok fin,
   ⟨ts.length,by omega,Lc _,λ_ _ e _=>e,Z,M,E1,λa z=> .inl z,by simpa using qq⟩,?_⟩
  rintro i m σ' H' ⟨rfl,hi',sm,Z',M',E',ow,hl⟩
  have it:=hJ M.u (OO B M') (λa z=> .inl (.inr z)) (λa z=>z.elim (λw=> .inl (.inl w)) λw=>(ow a w).elim (λy=> .inl (.inr y)) .inr) i H' sm (λa z=>(E'.env.trk a z).some)
  by_cases hlt:i<ts.length
  ·have hti:ts[i]? =some ts[i]:=by simp
   obtain⟨go,yl⟩:=it.2 ts[i] hti;rw[KH hlt]at hl;unfold bj at hl;refine .inr ⟨go,λσ2 H2=> ∃m',m'<ts.length - i/\(m'=ts.length - (i+1)/\i+1<=ts.length/\SameO M.u H1 H2/\∃Z2 M2,Ev X.K B M2 H2 Z2 σ2/\(∀a,M2.u a->M.u a\/Nw X.K H1 a)/\bj g F (ts.drop (i+1)) Z2= .ok fin),λσ2 H2 z=>z,λx Hc y=> ?_⟩
   obtain⟨sc,rx⟩:=yl x Hc y;refine⟨Z',OO B M',M',ts[i],E'.env.same sc,rx,?_⟩
   cases e1:g ts[i] Z' with
   | bad=>rw[e1]at hl;cases hl
   | err cc=>rw[e1]at hl;cases hl
   | ok Z1=>
    rw[e1,az]at hl;intro σ1 Eg
    have E2:Ev X.K B M' Hc Z1 σ1:=⟨Eg,E'.mine⟩;refine⟨Z1,B,M',E2,?_⟩
    have smc:SameO M.u H1 Hc:=λb o e n=>sc _ _ (sm b o e n)
    have onward:∀{σ3:L2.St} {H3:Hp} {Z3:En} {M3:Mn},SameO M'.u Hc H3->Ev X.K B M3 H3 Z3 σ3->(∀a,M3.u a->M'.u a\/Nw X.K Hc a)->bj g F (ts.drop (i+1)) Z3= .ok fin →
      ∃m',m'<ts.length - i/\(m'=ts.length - (i+1)/\i+1<=ts.length/\SameO M.u H1 H3/\∃Z2 M2,Ev X.K B M2 H3 Z2 σ3/\(∀a,M2.u a->M.u a\/Nw X.K H1 a)/\bj g F (ts.drop (i+1)) Z2= .ok fin):=
     λ{σ3 H3 Z3 M3} s3 E3 o3 p3=>⟨_,by omega,rfl,hlt,smc.trans s3 ow,Z3,M3,E3,λa z=>(o3 a z).elim (ow a) (iO smc),p3⟩
    cases e2:F Z1 with
    | bad=>rw[e2]at hl;cases hl
    | err cc=>rw[e2]at hl;cases hl
    | ok f=>
     rw[e2,az]at hl
     cases f with
     | nx Z2=>exact λσ3 H3 M3 s3 E3 o3=>onward s3 E3 o3 hl
     | ct Z2=>exact λσ3 H3 M3 s3 E3 o3=>onward s3 E3 o3 hl
     | bk Z2=>
      cases hl
      exact λσ3 H3 M3 s3 E3 o3=>h1 σ3 H3 M3 (smc.trans s3 ow) E3 λa z=>(o3 a z).elim (ow a) (iO smc)
     | rt t=>
      cases hl;exact λv H3 s3 r=>h1 v H3 (smc.trans s3 ow) r
  ·refine .inl ⟨it.1 (by omega),?_⟩
   have hi2:i=ts.length:=by omega
   subst hi2;rw[PQ]at hl;cases hl;exact h1 σ' H' M' sm E' ow
def cb (c:En->Rs Bool)(F:En->Rs Fl):Nat->En->Rs Fl
 | 0,_=> .bad
 | n+1,Z=>match c Z with
  | .ok false=> .ok (.nx Z)
  | .ok true=>match F Z with
   | .ok (.nx Z')=>cb c F n Z'
   | .ok (.ct Z')=>cb c F n Z'
   | .ok (.bk Z')=> .ok (.nx Z')
   | .ok (.rt t)=> .ok (.rt t)
   | _=> .bad
  | _=> .bad
theorem yK {c:Expr}{body:List Stmt}{fc:En->Rs Bool}{F:En->Rs Fl}(n:Nat)(hc:uO X.nox c fc)(hb:ng X.nox body F):pi X (.While c body [] pos) (cb fc F n):=by
 have base:PS X.nox (.While c body [] pos) (uX (yc X.nox fc) (Hl X.nox F)):=yU PassesOwn.never hc hb;intro pins s σ H D I ⟨Z,B,M,E,h⟩
 cases qq:cb fc F n Z with
 | bad=>rw[qq]at h;exact h.elim
 | err c=>
  exfalso
  have:∀n Z,cb fc F n Z≠ .err c:=by
   intro n
   induction n with
   | zero=>intro Z z;cases z
   | succ n ih=>
    intro Z z;unfold cb at z
    split at z
    ·cases z
    ·split at z <;> first | exact ih _ z | cases z
    ·cases z
  exact this n Z qq
 | ok fin=>
  rw[qq]at h
  have goal:uX (yc X.nox fc) (Hl X.nox F) D σ H:=by
   refine⟨λm σ' H'=>SameO M.u H H'/\∃Z' M',Ev X.K B M' H' Z' σ'/\(∀a,M'.u a->M.u a\/Nw X.K H a)/\cb fc F m Z'= .ok fin,⟨n,λ_ _ e _=>e,Z,M,E,λa z=> .inl z,qq⟩,?_⟩
   rintro m σ' H' ⟨sm,Z',M',E',ow,hl⟩
   cases m with
   | zero=>cases hl
   | succ m=>
    refine⟨Z',OO B M',E'.o,?_⟩
    unfold cb at hl
    cases e1:fc Z' with
    | bad=>rw[e1]at hl;cases hl
    | err cc=>rw[e1]at hl;cases hl
    | ok k=>
     rw[e1]at hl;intro H2 s2
     have E2:Ev X.K B M' H2 Z' σ':=E'.same s2
     have sm2:SameO M.u H H2:=λb o e n=>s2 _ _ (sm b o e n)
     cases k with
     | false=>
      cases hl;refine L2.iteF ?_
      exact h σ' H2 M' sm2 E2 ow
     | true=>
      refine L2.iteT ?_
      refine⟨λσ3 H3=>SameO M.u H H3/\∃Z3 M3,Ev X.K B M3 H3 Z3 σ3/\(∀a,M3.u a->M.u a\/Nw X.K H a)/\cb fc F m Z3= .ok fin,λσ3 H3 z=>⟨m,PP m,z⟩,Z',B,M',E2,?_⟩
      have hl':(match F Z' with | .ok (.nx Z')=>cb fc F m Z' | .ok (.ct Z')=>cb fc F m Z' | .ok (.bk Z')=> .ok (.nx Z') | .ok (.rt t)=> .ok (.rt t) | _=> .bad)= .ok fin:=hl
      cases e2:F Z' with
      | bad=>rw[e2]at hl';cases hl'
      | err cc=>rw[e2]at hl';cases hl'
      | ok f=>
       rw[e2]at hl'
       cases f with
       | nx Z2=>exact λσ3 H3 M3 s3 E3 o3=>⟨sm2.trans s3 ow,Z2,M3,E3,λa z=>(o3 a z).elim (ow a) (iO sm2),hl'⟩
       | ct Z2=>exact λσ3 H3 M3 s3 E3 o3=>⟨sm2.trans s3 ow,Z2,M3,E3,λa z=>(o3 a z).elim (ow a) (iO sm2),hl'⟩
       | bk Z2=>
        cases hl'
        exact λσ3 H3 M3 s3 E3 o3=>h σ3 H3 M3 (sm2.trans s3 ow) E3 λa z=>(o3 a z).elim (ow a) (iO sm2)
       | rt t=>
        cases hl';exact λv H3 s3 r=>h v H3 (sm2.trans s3 ow) r
  refine lV (cG (base pins s σ H D (I.HF _) goal) λf s' q=> ?_)
  cases f with
  | next=>obtain⟨σ7,H7,I7,n7⟩:=q;exact⟨σ7,H7,I7.HF _,n7⟩
  | cont=>obtain⟨σ7,H7,I7,n7⟩:=q;exact⟨σ7,H7,I7.HF _,n7⟩
  | brk=>obtain⟨σ7,H7,I7,n7⟩:=q;exact⟨σ7,H7,I7.HF _,n7⟩
  | ret v=>obtain⟨x7,σ7,H7,I7,r7,q7⟩:=q;exact⟨x7,σ7,H7,I7.HF _,r7,q7⟩
def C0 (Z:En):Rs Fl:=.ok (.ct Z)
end
def bR (F:En->Rs Fl)(Z:En):Rs T:=do
 let f <-F Z
 match f with
 | .nx _=> .ok .non
 | .rt t=> .ok t
 | _=> .bad
def aO (n:Nat)(ts:List T):En:=ts.map Sl.va++JC (n - ts.length) Sl.em
theorem xf {n:Nat}{ts:List T}{i:Nat}{o:OT}(e:(aO n ts)[i]? =some (.ow o)):False:=by
 unfold aO at e
 by_cases hi:i<ts.length
 ·rw[Lb (by simpa using hi),JN,Jo hi]at e
  cases e
 ·rw[LQ (by simpa using hi),Ma]at e
  split at e <;> cases e
theorem pY {K:IX}{O:Ow}{H:Hp}{N:List Str}{ts:List T}{vs:List V}(r:Reps K O H ts vs)(hl:ts.length<=N.length)(trk:∀a,O a->Mtb H a):Ev K O noM H (aO N.length ts) (start N vs):=by
 have hlen:=r.length
 have sub:∀a,OO O noM a->O a:=λa z=>z.elim id λ⟨_,w⟩=>w.elim
 refine⟨⟨by unfold aO L2.start;simp;omega,λi t e=> ?_,λi o e=>(xf e).elim,λ_ _ z=>z.elim,λ_ _ _ z=>z.elim,λa z=>trk a (sub a z)⟩,λa ⟨_,z⟩=>z.elim⟩
 unfold aO at e;unfold L2.start
 by_cases hi:i<ts.length
 ·rw[Lb (by simpa using hi),JN,Jo hi]at e
  have e':ts[i] =t:=by injection e with e;injection e
  obtain⟨v,e1,e2⟩:=r.get (i:=i) (t:=t) (by rw[<-e'];simp)
  refine⟨v,?_,e2.less sub⟩
  rw[Lb (by simp;omega),JN,e1];rfl
 ·rw[LQ (by simpa using hi),Ma]at e
  split at e <;> cases e
section
variable {P:JI}{w:Kr}{K:IX}{mg:Str->Option Je}{base:Heap}
theorem GW {x qual:Str}{st:Stmt}{f:Addr}{fd:KS}{N ps:List Str}{k n:Nat}{g:List T->Rs T}(Fn:L2.Fun K x qual st f fd)(S:ay N ps (ak st))(hn:ps.length=n)
  (hbody:∀(cdv:Je) (A:J9) (outer:List Env) (s:Jf) (H:Hp) (E:XK),Room k (A.deeper (envOfC qual (ak st) s.heap.objs.size f cdv)) →
   ∃F,ng (mj CX0 P w K mg base N qual (ak st) f cdv A outer s H E).nox (dX st) F/\∀ts,ts.length=n->∀t,g ts= .ok t->bR F (aO N.length ts)= .ok t):sG P w K mg base CX0 (k+1) f fd ps (spP K n g):=by
 have hpl:ps.length<=N.length:=by have:=congrArg Kn S.pre;rw[Ly]at this;omega
 refine Fn.ok S (λvs H Q E h=> ?_) (λcdv A outer s H vs Q E hr h=> ?_)
 ·obtain⟨ts,O,r,_,hl,_⟩:=h
  rw[<-r.length,hl,hn]
 ·obtain⟨ts,O,r,trk,hl,h⟩:=h
  obtain⟨F,hF,hv⟩:=hbody cdv A outer s H E hr;refine⟨_,hF,aO N.length ts,O,noM,pY r (by omega) trk,?_⟩
  have no:∀a,¬noM.u a:=λa ⟨_,z⟩=>z
  cases q:g ts with
  | bad=>rw[q]at h;exact h.elim
  | err c=>rw[q]at h;exact h.elim
  | ok t=>
   rw[q]at h
   have hb:=hv ts hl t q;unfold bR at hb
   cases q2:F (aO N.length ts)with
   | bad=>rw[q2]at hb;cases hb
   | err c=>rw[q2]at hb;cases hb
   | ok fl=>
    rw[q2,az]at hb
    have sameOf:∀H',SameO noM.u H H'->Same H H':=λH' s b o e=>s b o e (no b)
    cases fl with
    | nx Z'=>cases hb;exact λσ' H' M' s' E' o'=>h .non H' (sameOf H' s') Rep.Il
    | rt t'=>cases hb;exact λv H' s' r'=>h v H' (sameOf H' s') r'
    | bk Z'=>cases hb
    | ct Z'=>cases hb
end
end Tr
namespace Enu
open PySem
open AutoSeq1 (wpAny_loadPart')
section
variable {prog:JI}{w:Kr}{A:J9}{E:Je->Jf->Prop}{s:Jf}
theorem tupNext {it tt:Addr}{k:Nat}{its:Array Je}{x:Je}{Q:Je->Jf->Prop}(hi:s.heap.IsTupleIter it tt k)(ht:s.heap.IsTuple tt its)(hx:its[k]? =some x)
  (hQ:∀h',h'.IsTupleIter it tt (k+1)->LC it s.heap h'->Q x { s with heap:=h' }):wpAny (model prog w) A (Jx (.ref it)) Q E s:=by
 obtain⟨ob,g1,g2,g3⟩:=id hi;obtain⟨ot,k1,_,m,k3⟩:=ht;unfold Jx;refine IW (JM (name:=Jm "__next__") hi.typeIs K5 (J3 K5 hi.typeIs MV ?_ (MO _)))
 show wpAny (model prog w) _ (field (.ref it) 0 >>= _) _ _ s
 refine IW (JS g1 g3 (x:=.ref tt) rfl ?_)
 show wpAny (model prog w) _ (if (JF tt == J0)=true then _ else _) _ _ s
 rw[if_neg (show ¬((JF tt == J0)=true)by exact Jy)]
 show wpAny (model prog w) _ (field (.ref it) 1 >>= _) _ _ s
 refine IW (JS g1 g3 (x:=.int k 0) rfl ?_)
 show wpAny (model prog w) _ (seqItems? (.ref tt) >>= _) _ _ s
 refine IW (J8 k1 k3 ?_)
 simp only[hx,Ke];refine IW (Ni g1 g3 (by simp) (Jg ⟨x,rfl,Jg (hQ _ ?_ (LZ ..))⟩))
 refine⟨_,NZ _ g1 (N0 (Mb g3 _)),(Pm ..).trans g2,?_⟩
 rw[Mb g3];simp[rawInt]
theorem tupStop {it tt:Addr}{k:Nat}{its:Array Je}{Q:Je->Jf->Prop}(hh:A.handled=none)(hi:s.heap.IsTupleIter it tt k)(ht:s.heap.IsTuple tt its)(hx:its[k]? =none)
  (hE:∀h' e,OF it s.heap h'->(∃o,h'.get? e=some o/\o.cls= .type "StopIteration")->E (.ref e) { s with heap:=h' }):wpAny (model prog w) A (Jx (.ref it)) Q E s:=by
 obtain⟨ob,g1,g2,g3⟩:=id hi;obtain⟨ot,k1,_,m,k3⟩:=ht;unfold Jx;refine IW (JM (name:=Jm "__next__") hi.typeIs K5 (J3 K5 hi.typeIs MV ?_ (MO _)))
 show wpAny (model prog w) _ (field (.ref it) 0 >>= _) _ _ s
 refine IW (JS g1 g3 (x:=.ref tt) rfl ?_)
 show wpAny (model prog w) _ (if (JF tt == J0)=true then _ else _) _ _ s
 rw[if_neg (show ¬((JF tt == J0)=true)by exact Jy)]
 show wpAny (model prog w) _ (field (.ref it) 1 >>= _) _ _ s
 refine IW (JS g1 g3 (x:=.int k 0) rfl ?_)
 show wpAny (model prog w) _ (seqItems? (.ref tt) >>= _) _ _ s
 refine IW (J8 k1 k3 ?_)
 simp only[hx,Ke];refine IW (Ms (IW (Ni g1 g3 (by simp) ?_)))
 show wpAny (model prog w) _ (newExc (.type "StopIteration") [] >>= _) _ _ _
 refine IW ?_
 simp only[newTuple,newExc];refine IW (Kk ?_ (by size_fits))
 refine IW (m:=Nj _ _) (wpAny_of_eq (a:=J0) (by first | (simp only[Nj];rfl) | rfl) ?_)
 refine Kk ?_ (by size_fits)
 simp only[raiseNew];refine IW (wpAny_handled ?_)
 first | rw[hh] | rw[show A.in1.handled=none from hh]
 refine IW (Jg (wpAny_throw ?_))
 refine hE _ _ (((LZ ..).extBut.push _).push _) ⟨_,Jk _ rfl,rfl⟩
end
theorem tupDraws {prog:JI}{w:Kr}{A:J9}(hh:A.handled=none)(it tt:Addr)(hne:tt≠it)(its:Array Je) :
  Draws prog w A it [it,tt] its.size (λi v=>its[i]? =some v) (λi h=>h.IsTupleIter it tt i/\h.IsTuple tt its) where
 live:=λ_ _ st=>by obtain⟨o,ho,_⟩:=st.1;exact⟨o,ho⟩
 frame:=λ_ _ _ st hk=>by
  obtain⟨⟨o,e,r⟩,⟨o',e',r'⟩⟩:=st;exact⟨⟨o,hk it (by simp) o e,r⟩,⟨o',hk tt (by simp) o' e',r'⟩⟩
 item:=λi s Q E hi st hQ=>by
  refine tupNext st.1 st.2 (x:=its[i]) (by simp[hi]) λh' hit' hs'=> ?_
  obtain⟨o',e',r'⟩:=st.2;exact hQ _ h' s.toks (by simp[hi]) ⟨hit',⟨o',(hs'.2 tt hne).trans e',r'⟩⟩ hs'
 done:=λs Q E st hE=>tupStop hh st.1 st.2 (by simp) hE
theorem newT (l:Addr)(items:Array Je)(n:Nat)(dct:Option Addr)(sl:Array (Option Je)) :
  Meets (Builtin.«enumerate.__new__» ⟨[.type "enumerate",.ref l],[]⟩) (λ_ R s=>s.heap.get? l=some { cls:=.type "tuple",dict:=dct,data:=.seq items n,slots:=sl } ∧
   R (.ok (.ret (.ref (s.heap.push { cls:=.type "tuple_iterator",data:=.fields #[.ref l,.int 0 0] }).objs.size)))
    { s with heap:=(s.heap.push { cls:=.type "tuple_iterator",data:=.fields #[.ref l,.int 0 0] }).push { cls:=.type "enumerate",data:=.fields #[.none,.bool false,.ref s.heap.objs.size,rawInt 0,.none,.none] } }):=
 .of_wp λprog w A R s h=>by
  obtain⟨hp,g,d,tk,os⟩:=s;obtain⟨hl,h⟩:=h
  have hsub:=sub_enumerate
  have hT:Heap.IsTuple (Ny ⟨hp,g,d,tk,os⟩) l items:=⟨_,hl,rfl,n,rfl⟩
  wp_walk using Lp hl
  refine wpAny_stack_any λst=>Jg ?_
  split
  ·rename_i c _ _ _ _ _
   cases (c == Np "enumerate")
   ·wp_walk using Lp hl,K8 hT
    exact⟨_,rfl,h⟩
   ·wp_walk using Lp hl,K8 hT
    exact⟨_,rfl,h⟩
  ·wp_walk using Lp hl,K8 hT
   exact⟨_,rfl,h⟩
theorem callT {prog:JI}{w:Kr}{A:J9}{E:Je->Jf->Prop}{s:Jf}{l:Addr}{items:Array Je}{Q:Je->Jf->Prop}(hL:s.heap.IsTuple l items)
  (h:∀h',IsEnum h' (s.heap.objs.size+1) s.heap.objs.size 0 .none->h'.IsTupleIter s.heap.objs.size l 0->h'.objs.size=s.heap.objs.size+2 →
   (∀b o,s.heap.get? b=some o->h'.get? b=some o)->Q (.ref (s.heap.objs.size+1)) { s with heap:=h' }):wpAny (model prog w) A (call (.type "enumerate") [.ref l]) Q E s:=by
 obtain⟨⟨cc,dc,dd,ss⟩,hl,hc,n,hd⟩:=hL
 replace hc:cc= .type "tuple":=hc
 replace hd:dd= .seq items n:=hd
 subst hc hd;refine PJ F.called_enumerate (by decide) (F.typeCall_enumerate_1 _) (F.newCall_enumerate_1 _) (λobj=>F.args_object_init_2 obj _) F.entry_enumerate_new (newT l items n dc ss) ⟨hl,?_⟩
 have hz:(s.heap.push { cls:=.type "tuple_iterator",data:=.fields #[.ref l,.int 0 0] }).objs.size=s.heap.objs.size+1:=J6 ..
 show _/\_
 rw[hz]
 have he:IsEnum ((s.heap.push { cls:=.type "tuple_iterator",data:=.fields #[.ref l,.int 0 0] }).push
   { cls:=.type "enumerate",data:=.fields #[.none,.bool false,.ref s.heap.objs.size,rawInt 0,.none,.none] }) (s.heap.objs.size+1) s.heap.objs.size 0 .none:=by
  have q:=Jk (s.heap.push { cls:=.type "tuple_iterator",data:=.fields #[.ref l,.int 0 0] })
   (o:={ cls:=.type "enumerate",data:=.fields #[.none,.bool false,.ref s.heap.objs.size,rawInt 0,.none,.none] }) rfl
  rw[hz]at q;exact q
 refine⟨⟨_,he,rfl⟩,h _ he ⟨_,IY _ (Jk _ rfl),rfl,rfl⟩ (by rw[J6,hz]) λb o x=>IY _ (IY _ x)⟩
end Enu
namespace L2
open PySem PySem.Spec PyProof.Rows
section
variable {X:Cx}{pins:List (Addr×Obj)}{σ:L2.St}{H:Hp}{s:Jf}{h':Heap}
theorem Inv.Ii {t':Nat}{fp:List Addr}{Tp:Addr}{xs:List V}(I:Inv X pins σ H s)(hf:∀b∈fp,kS X pins H b)(k:∀b o,b∉fp->s.heap.get? b=some o->h'.get? b=some o)
  (ht:∀b∈fp,∃o,h'.get? b=some o) (hT:s.heap.objs.size<=Tp) (new:ObjOk X.prog X.w (upd H Tp (.tup xs)) h' Tp (.tup xs)):Inv X pins σ (upd H Tp (.tup xs)) { s with heap:=h',toks:=t' }:=by
 have hn:H Tp=none:=I.hok.fresh hT
 have jg:∀b o,s.heap.get? b=some o->b≠Tp:=λb o e=>KC (Jv (Jn e) hT)
 have nf:∀b u,H b=some u->b∉fp:=λb u e z=>by rw[(hf b z).1]at e;cases e
 refine I.step (g':=s.gens) (d':=s.drawn) (ch:=fp) (λb hb=>⟨(hf b hb).2.2.2.1,(hf b hb).2.1,(hf b hb).2.2.2.2.1,(hf b hb).2.2.2.2.2⟩) (λb o _ _ hc e _=>k b o hc e) (λb o _ _ hc e _=>⟨o.slots,k b o hc e⟩)
  (λb o _ e n=>by rw[aF (jg b o e)];exact n) (λb o hc e=>⟨o,k b o hc e⟩) (λb ys e=>by rw[aF (cy e hn)];exact e) (λb o u e=>by rw[aF (cy e hn)];exact e)
  (λb ps e=>⟨#[],by rw[aF (cy e hn),e];simp⟩) (λm hm=> ?_) (λb u e=> ?_) I.bare
 ·obtain⟨o,es,ep,ho,r⟩:=hm
  exact⟨o,es,ep,k _ o (λz=>(hf _ z).2.1 rfl) ho,r⟩
 ·by_cases hb:b=Tp
  ·subst hb;rw[aG]at e;cases e;exact new
  ·rw[aF hb]at e
   refine(I.hok b u e).HU (λc v hc q=>k c v ?_ q) (λc q=>by rw[aF (cy q hn)];exact q) λc ys q=>by rw[aF (cy q hn)];exact q
   rcases hc with z | z
   ·rw[z];exact nf b u e
   ·exact nf c _ z
theorem Inv.HL {t':Nat}{fp:List Addr}(I:Inv X pins σ H s)(hf:∀b∈fp,kS X pins H b)(k:∀b o,b∉fp->s.heap.get? b=some o->h'.get? b=some o):Inv X pins σ H { s with heap:=h',toks:=t' }:=by
 have nf:∀b u,H b=some u->b∉fp:=λb u e z=>by rw[(hf b z).1]at e;cases e
 refine I.step (g':=s.gens) (d':=s.drawn) (ch:=fp) (λb hb=>⟨(hf b hb).2.2.2.1,(hf b hb).2.1,(hf b hb).2.2.2.2.1,(hf b hb).2.2.2.2.2⟩) (λb o _ _ hc e _=>k b o hc e) (λb o _ _ hc e _=>⟨o.slots,k b o hc e⟩)
  (λb o _ e n=>n) (λb o hc e=>⟨o,k b o hc e⟩) (λb ys e=>e) (λb o u e=>e)
  (λb ps e=>⟨#[],by rw[e];simp⟩) (λm hm=> ?_) (λb u e=> ?_) I.bare
 ·obtain⟨o,es,ep,ho,r⟩:=hm
  exact⟨o,es,ep,k _ o (λz=>(hf _ z).2.1 rfl) ho,r⟩
 ·refine(I.hok b u e).HU (λc v hc q=>k c v ?_ q) (λc q=>q) λc ys q=>q
  rcases hc with z | z
  ·rw[z];exact nf b u e
  ·exact nf c _ z
end
def ph (K:IX)(H:Hp)(a:Addr)(tt:Bool)(xs:List V):Prop:=if tt then SqT K H a xs else SqL K H a xs
def Hw (K:IX)(a:Addr)(tt:Bool):It:=
 ⟨λi H=> ∃xs x,ph K H a tt xs/\xs[i]? =some x,λi H x H'=> ∃p v,x= .ref p/\H p=none/\H'=upd H p (.tup [.int (i:Nat),v])/\∀xs,ph K H a tt xs->xs[i]? =some v,λi H=> ∃xs,ph K H a tt xs/\xs.length<=i⟩
def itAt (tt:Bool)(h:Heap)(it a:Addr)(i:Nat):Prop:=if tt then h.IsTupleIter it a i else h.IsListIter it a i
theorem itAt.obj {tt:Bool}{h:Heap}{it a:Addr}{i:Nat}(st:itAt tt h it a i):∃o,h.get? it=some o/\∀v,o.data≠ .cell v:=by
 cases tt with
 | true=>obtain⟨o,e,c,d⟩:=(show h.IsTupleIter it a i from st);exact⟨o,e,λv z=>by rw[d]at z;cases z⟩
 | false=>obtain⟨o,e,c,d⟩:=(show h.IsListIter it a i from st);exact⟨o,e,λv z=>by rw[d]at z;cases z⟩
theorem itAt.keep {tt:Bool}{h h':Heap}{it a:Addr}{i:Nat}(st:itAt tt h it a i)(k:∀o,h.get? it=some o->h'.get? it=some o):itAt tt h' it a i:=by
 cases tt with
 | true=>obtain⟨o,e,r⟩:=(show h.IsTupleIter it a i from st);exact(show h'.IsTupleIter it a i from⟨o,k o e,r⟩)
 | false=>obtain⟨o,e,r⟩:=(show h.IsListIter it a i from st);exact(show h'.IsListIter it a i from⟨o,k o e,r⟩)
theorem xb {P:JI}{w:Kr}{K:IX}{elts:List Expr}{kk:Nat}{pos:Pos}(tt:Bool)(a e it:Addr)(hei:e≠it) :
  vK P w K (.Tuple elts kk pos) (Hw K a tt) [e,it] e (λi h=>(∃old,IsEnum h e it i old)/\itAt tt h it a i) where
 mem:=by simp
 obj:=λi h st b hb=>by
  obtain⟨⟨old,he⟩,hi⟩:=st;rcases Jh.mp hb with rfl | hb
  ·exact⟨_,he,λv z=>by have z':P9 _=ON v:=z;cases z'⟩
  ·rw[Jp.mp hb];exact hi.obj
 keep:=λi h h' st k=>by
  obtain⟨⟨old,he⟩,hi⟩:=st;exact⟨⟨old,k e (by simp) _ he⟩,hi.keep λo q=>k it (by simp) o q⟩
 item:=by
  intro X hP hw hK hc i pins s σ H E I hf st hg;subst hP hw hK;obtain⟨xs,x,hq,hx⟩:=hg;obtain⟨⟨old,he⟩,hi⟩:=st
  -- by what is walked
  have key:∀(its:List Je),Vals xs its->(∀ys,ph X.K H a tt ys->ys=xs)->∀(fp0:List Addr) (St:Nat->Heap->Prop),Draws X.prog X.w X.A.in1 it fp0 its.toArray.size (λi v=>its.toArray[i]? =some v) St->e∉fp0->it∈fp0->St i s.heap →
    (∀h',St (i+1) h'->itAt tt h' it a (i+1)) →
    wpAny (model X.prog X.w) X.A (pyNext (.ref e)) (λr s1=> ∃u,r=some u/\wpAny (model X.prog X.w) X.A (Mg (.Tuple elts kk pos) (.ref e) u) (λ_ s2=> ∃x' H',Inv X pins σ H' s2/\RelV x' u/\(Hw X.K a tt).yld i H x' H' ∧
     ((∃old,IsEnum s2.heap e it (i+1:Nat) old)/\itAt tt s2.heap it a (i+1))/\∀b∈ [e,it],H' b=none) E s1) E s:=by
   intro its rv uniq fp0 St D hef hif hst hnext;obtain⟨u,hu,ru⟩:=rv.get hx
   have hlt:i<its.toArray.size:=by
    have:=(Ju.mp hu).1
    simpa using this
   have W:=WalksT.enumerateD D e hei hef hif;refine W.item i s _ _ hlt ⟨⟨old,he⟩,hst⟩ λTp vals h1 tk hPt hTsz hTup hMid hk=>⟨.ref Tp,rfl,?_⟩
   refine W.go elts kk pos i Tp { s with heap:=h1,toks:=tk } _ _ hMid λh2 hst2 hk2=> ?_
   obtain⟨t,x',hPx,hvals⟩:=hPt;subst hvals
   have hxe:x'=u:=by
    have h1':its.toArray[i]? =some x':=hPx
    have h2':its.toArray[i]? =some u:=by simpa using hu
    rw[h1']at h2';exact JU h2'
   subst hxe
   have hTw:=W.apart i Tp h1 hMid;obtain⟨oT,eT,rT⟩:=hTup
   have eT2:h2.get? Tp=some oT:=hk2 Tp oT hTw eT
   have kAll:∀b o,b∉ [e,it]->s.heap.get? b=some o->h2.get? b=some o:=λb o hb q=>hk2 b o hb (hk b o hb q)
   obtain⟨⟨old2,he2⟩,hs2⟩:=hst2
   have hit2:=hnext h2 hs2
   have there:∀b∈ [e,it],∃o,h2.get? b=some o:=λb hb=>by
    rcases Jh.mp hb with rfl | hb
    ·exact⟨_,he2⟩
    ·rw[Jp.mp hb];obtain⟨o,q,_⟩:=hit2.obj;exact⟨o,q⟩
   have hn:H Tp=none:=I.hok.fresh hTsz
   have new:ObjOk X.prog X.w (upd H Tp (.tup [.int (i:Nat),x])) h2 Tp (.tup [.int (i:Nat),x]):=
    ⟨by show 2<=sizeLine;decide,[.int (i:Nat) t,x'],.cons ⟨t,rfl⟩ (.cons ru .nil),⟨oT,eT2,rT⟩⟩
   have I2:=I.Ii (t':=tk) hf kAll there hTsz new;refine⟨.ref Tp,_,I2,rfl,⟨Tp,x,rfl,hn,rfl,λys hy=>by rw[uniq ys hy];exact hx⟩,⟨⟨old2,he2⟩,hit2⟩,λb hb=> ?_⟩
   have hbT:b≠Tp:=λz=>by
    obtain⟨o,q⟩:∃o,s.heap.get? b=some o:=by
     rcases Jh.mp hb with rfl | hb
     ·exact⟨_,he⟩
     ·rw[Jp.mp hb];obtain⟨o,q,_⟩:=hi.obj;exact⟨o,q⟩
    exact absurd (Jv (Jn q) hTsz) (by rw[z];exact JK _)
   rw[aF hbT];exact(hf b hb).1
  have hne:∀b∈ [e,it],a≠b:=λb hb z=>by
   have hb':=(hf b hb).1;rw[<-z]at hb'
   have hbs:=hf b hb
   cases tt with
   | true=>
    have hq':SqT X.K H a xs:=hq;rcases hq' with(q | ⟨o,q⟩) | ⟨o,its,n,q,_⟩
    ·rw[hb']at q;cases q
    ·rw[hb']at q;cases q
    ·rcases hbs.2.2.2.1 with z1 | z1
     ·exact I.ok.noex a o (I.ok.mod.kin a o q) (z▸z1)
     ·exact absurd (Jv (Jn (I.ok.bs a o (I.ok.mod.kin a o q)).1) (z▸z1)) (JK _)
   | false=>
    have hq':SqL X.K H a xs:=hq;rcases hq' with(q | ⟨o,q⟩) | ⟨o,its,n,q,_⟩
    ·rw[hb']at q;cases q
    ·rw[hb']at q;cases q
    ·rcases hbs.2.2.2.1 with z1 | z1
     ·exact I.ok.noex a o (I.ok.mod.kin a o q) (z▸z1)
     ·exact absurd (Jv (Jn (I.ok.bs a o (I.ok.mod.kin a o q)).1) (z▸z1)) (JK _)
  have hea:e≠a:=λz=>hne e (by simp) z.symm
  have hia:it≠a:=λz=>hne it (by simp) z.symm
  cases tt with
  | true=>
   have hq':SqT X.K H a xs:=hq;obtain⟨its,rv,p,hz⟩:=I.tuple hq'
   exact key its rv (λys hy=>I.HR hy hq') _ _ (Enu.tupDraws (A:=X.A.in1) (I.ok.hd hc) it a (NW hia) its.toArray) (by simp[hei,hea]) (by simp) ⟨hi,p⟩ λh' z=>z.1
  | false=>
   have hq':SqL X.K H a xs:=hq;obtain⟨its,rv,p,hz⟩:=I.list hq';exact key its rv (λys hy=>I.HV hy hq') _ _ (Draws.list (A:=X.A.in1) (I.ok.hd hc) it a (NW hia) its.toArray) (by simp[hei,hea]) (by simp) ⟨hi,p.isList⟩ λh' z=>z.1
 done:=by
  intro X hP hw hK hc i pins s σ H E I hf st hg;subst hP hw hK;obtain⟨xs,hq,hx⟩:=hg;obtain⟨⟨old,he⟩,hi⟩:=st
  have fin:∀h',OF it s.heap h'->(none:Option Je)=none/\Inv X pins σ H { s with heap:=h' }:=λh' eb=>⟨rfl,I.HL (t':=s.toks) hf λb o hb q=>eb b o (λz=>hb (by simp[z])) q⟩
  cases tt with
  | true=>
   have hq':SqT X.K H a xs:=hq;obtain⟨its,rv,p,hz⟩:=I.tuple hq'
   have hl:=rv.length
   have hnone:its.toArray[i]? =none:=by simp;omega
   have hT:s.TypeIs (.ref e) "enumerate":=⟨_,he,rfl⟩;unfold pyNext;refine IW (Lx (JM (name:=Jm "__next__") hT N1 (J3 N1 hT F.entry_enumerate_next ?_ (F.args_enumerate_next_1 _))))
   show wpAny (model X.prog X.w) _ (field (.ref e) 2 >>= _) _ _ _
   refine IW (JS he rfl (x:=.ref it) rfl ?_)
   refine IW (Enu.tupStop (I.ok.hd hc) hi p hnone λh' x he' hx'=> ?_)
   obtain⟨o,ho,hcl⟩:=hx'
   exact IW (ML (T:="StopIteration") (b:=true) ⟨o,ho,hcl⟩ Nk (Jg (fin h' he')))
  | false=>
   have hq':SqL X.K H a xs:=hq;obtain⟨its,rv,p,hz⟩:=I.list hq'
   have hl:=rv.length
   have hnone:its.toArray[i]? =none:=by simp;omega
   exact wpAny_pyNext_enum_end (I.ok.hd hc) he hi p.isList hnone fin
 self:=λ_ _ _ _ _ st h=>by
  obtain⟨⟨old,he⟩,_⟩:=st;exact Pw he h
section
variable {X:Cx}{elts:List Expr}{kk:Nat}{tpos:Pos}
theorem o4:JT "enumerate" =some (.type "enumerate"):=by decide+kernel
def iEnu (K:IX)(tl:TA):TI:=λσ H R=>tl σ H λvs H1=> ∃a tt,vs= [.ref a]/\(∃xs,ph K H1 a tt xs)/\R (Hw K a tt) H1
theorem BS {l:Expr}{tl:TA}{p pos:Pos}(hg:Gl X "enumerate")(hm:X.mg "enumerate" =none)(hl:PA X [l] tl)(hs:Jz [l] X.env= [(false,eval l X.env)]:=by rfl):PI X (.Tuple elts kk tpos) (.Call (.Name "enumerate" p) [l] [] pos) (iEnu X.K tl):=by
 intro pins s σ H R I h;refine Call_ (gu I hg hm o4 (JO (cG (hl pos pins s σ H _ I h) λus s1 ⟨vs,H1,I1,r1,q1⟩=> ?_) hs rfl))
 obtain⟨a,tt,e,⟨xs,hq⟩,q⟩:=q1;subst e;obtain⟨u,rfl,ru⟩:=kZ r1;cases ru
 have fin:∀h',IsEnum h' (s1.heap.objs.size+1) s1.heap.objs.size 0 .none->itAt tt h' s1.heap.objs.size a 0->h'.objs.size=s1.heap.objs.size+2->(∀b o,s1.heap.get? b=some o->h'.get? b=some o) →
   wpAny (model X.prog X.w) X.A (pyIter (.ref (s1.heap.objs.size+1))) (PIE X pins σ (.Tuple elts kk tpos) R) X.xe { s1 with heap:=h' }:=λh' he hi hsz hk=>by
  refine Pw he ?_
  have I2:Inv X pins σ H1 { s1 with heap:=h' }:=I1.kept (t':=s1.toks) hk
  refine⟨s1.heap.objs.size+1,[s1.heap.objs.size+1,s1.heap.objs.size],_,_,H1,rfl,I2,xb tt a (s1.heap.objs.size+1) s1.heap.objs.size (Nat.succ_ne_self _),⟨⟨_,he⟩,hi⟩,λb hb=> ?_,q⟩
  rcases Jh.mp hb with rfl | hb
  ·exact I1.HZ (by omega) (I1.hok.fresh (by omega))
  ·rw[Jp.mp hb];exact I1.HZ (Jq _) (I1.hok.fresh (Jq _))
 cases tt with
 | true=>
  have hq':SqT X.K H1 a xs:=hq;obtain⟨its,rv,pl,hz⟩:=I1.tuple hq'
  exact Enu.callT pl λh' he hi hsz hk=>fin h' he hi hsz hk
 | false=>
  have hq':SqL X.K H1 a xs:=hq;obtain⟨its,rv,pl,hz⟩:=I1.list hq';exact call_enumerate_list pl.isList λh' he hi hsz hk=>fin h' he hi hsz hk
end
end L2
namespace Tr
open PySem PySem.Spec PyProof.Rows L2
section
variable {X:Cx}{a:Expr}{fa:En->Rs T}{fs:En->Rs (List T)}{p pos:Pos}
def iS (f:En->Rs T)(Z:En):Rs (List T):=do
 let x <-f Z
 match x with
 | .lst l=> .ok l
 | .tup l=> .ok l
 | _=> .bad
theorem DY {tg:Expr}(ha:cN X a fa):x8 X tg a (iS fa):=by
 intro pins s σ H R I ⟨Z,O,E,h⟩;unfold iS at h
 cases q:fa Z with
 | bad=>rw[q]at h;exact h.elim
 | err c=>exact vV ha pins s σ H R I ⟨Z,O,E,by unfold iL;rw[q]at h ⊢;exact h⟩
 | ok x=>
  rw[q,az]at h
  cases x with
  | lst l=>exact vV ha pins s σ H R I ⟨Z,O,E,by unfold iL;rw[q];exact h⟩
  | tup l=>exact DX ha pins s σ H R I ⟨Z,O,E,by unfold iT;rw[q];exact h⟩
  | _=>exact h.elim
def bv:Nat->List T->List T
 | _,[] => []
 | n,t::r=> .tup [.int n,t] ::bv (n+1) r
theorem qv:∀(l:List T) (n i:Nat),(bv n l)[i]? =(l[i]?).map λt=>T.tup [.int ((n+i:Nat):Int),t]
 | [],n,i=>by simp[bv]
 | t::l,n,0=>by simp[bv]
 | t::l,n,i+1=>by
  rw[bv,KB,qv l (n+1) i,KB]
  congr 2
  funext t
  congr 4
  omega
theorem qu:∀(l:List T) (n:Nat),(bv n l).length=l.length
 | [],n=>rfl
 | t::l,n=>by rw[bv,Ji,Ji,qu l]
def iE (f:En->Rs (List T))(Z:En):Rs (List T):=do
 let xs <-f Z
 match xs with
 | [x] =>match x.items with
  | some l=> .ok (bv 0 l)
  | none=> .bad
 | _=> .bad
theorem BD {elts:List Expr}{kk:Nat}{tpos:Pos}(hm:X.mg "enumerate" =none)(ha:qG X [a] fs)(hg:Gl X "enumerate":=by rfl)(hs:Jz [a] X.env= [(false,eval a X.env)]:=by rfl) :
  x8 X (.Tuple elts kk tpos) (.Call (.Name "enumerate" p) [a] [] pos) (iE fs):=PI.imp (BS hg hm ha hs) λσ H R hh_=>by
 obtain⟨Z,O,E,h⟩:=hh_;obtain⟨Z1,O1,E1,h1⟩:=fq E h;refine⟨Z1,O1,E1,Post.mono h1 λts H1 s1 q vs r=> ?_⟩
 obtain⟨t',r',s',E',q'⟩:=q vs r
 split at q'
 ·rename_i x0
  obtain⟨v,rfl,rv⟩:=r'.one
  split at q'
  ·rename_i l hl
   have main:∀(aa:Addr) (tt:Bool) (ws:List V),v= .ref aa->¬ O aa->Reps X.K O H1 l ws->ph X.K H1 aa tt ws->(∀P Hc,SameO P H1 Hc->¬ P aa->ph X.K Hc aa tt ws)->¬ Nw X.K H1 aa →
     ∃a tt,[v] = [V.ref a]/\(∃xs,ph X.K H1 a tt xs)/\R (Hw X.K a tt) H1:=λaa tt ws e n z sq mv nn=>by
    refine⟨aa,tt,by rw[e],⟨ws,sq⟩,q' H1 (Same.refl H1) _ λP O' hP hO i Hc hsm htr=> ?_⟩
    have hnP:¬ P aa:=λy=>(hP aa y).elim n nn
    have sqc:=mv P Hc hsm hnP;refine⟨λhi=>⟨ws,sqc,by rw[<-z.length,<-qu l 0];exact hi⟩,λt ht=> ?_⟩
    rw[qv]at ht
    cases e1:l[i]? with
    | none=>rw[e1]at ht;cases ht
    | some t0=>
     rw[e1]at ht;cases ht;obtain⟨v0,f1,f2⟩:=z.get e1;refine⟨⟨ws,v0,sqc,f1⟩,λx Hc' y=> ?_⟩
     obtain⟨pp,vv,e2,hpn,e3,hy⟩:=y
     have:=hy ws sqc;rw[f1]at this;cases this;subst e2 e3;refine⟨aV hpn _,gQ hpn (λzz=> ?_) (Reps.HG (by simpa using Rep.HI _) (Reps.HG (f2.move hP hO hsm) Reps.nil_))⟩
     obtain⟨o,w⟩:=htr pp zz;rw[hpn]at w;cases w
   cases x0 with
   | tup m=>
    cases hl;obtain⟨aa,ws,e,n,qq,z⟩:=Rep.HC.mp rv
    exact main aa true ws e n z (show SqT X.K H1 aa ws from SqT.of qq) (λP Hc hsm hn=>show SqT X.K Hc aa ws from SqT.of (hsm _ _ qq hn)) λw=>by rw[w.1]at qq;cases qq
   | lst m=>
    cases hl;obtain⟨aa,ws,e,n,qq,z⟩:=Rep.HD.mp rv
    exact main aa false ws e n z (show SqL X.K H1 aa ws from SqL.of qq) (λP Hc hsm hn=>show SqL X.K Hc aa ws from SqL.of (hsm _ _ qq hn)) λw=>by rw[w.1]at qq;cases qq
   | scr m=>
    cases hl;unfold Rep at rv;obtain⟨aa,e,n,qq⟩:=rv
    exact main aa false _ e n Reps.ints (show SqL X.K H1 aa _ from qq) (λP Hc hsm hn=>show SqL X.K Hc aa _ from Tr.SqL.keep hsm hn qq) (Tr.SqL.nn qq)
   | _=>cases hl
  ·exact q'.elim
 ·exact q'.elim
end
end Tr
namespace Tm
open PySem PyProof.Rows
theorem lX:fillsNumberSlot (.type "tuple") "mul" =pure false:=
 PySem.fillsNumberSlot_seq (id:="tuple.__mul__") (r:=some (.builtin "tuple.__rmul__")) NK.lookup (by decide+kernel) Pn.lookup (by decide+kernel)
theorem rf:seqRepeat? (.type "tuple")=pure (some (.builtin "tuple.__mul__")):=by
 unfold seqRepeat?;rw[PR (T:="tuple") (name:="__mul__") (id:="tuple.__mul__") NK.lookup (by decide+kernel),PR (T:="tuple") (name:="__rmul__") (id:="tuple.__rmul__") Pn.lookup (by decide+kernel)]
 rfl
theorem u9 (a:Int)(t:Tok)(l:Addr)(items:Array Je)(n:Nat)(dd:Option Addr)(sl:Array (Option Je)) :
  Meets (Builtin.«int.__rmul__» ⟨[.int a t,.ref l],[]⟩) (λ_ R s=>s.heap.get? l=some { cls:=.type "tuple",dict:=dd,data:=.seq items n,slots:=sl }/\R (.ok (.ret Value.notImplemented)) s):=
 .of_wp λprog w A R s h=>by obtain⟨hp,g,d,tk,os⟩:=s;obtain⟨hl,h⟩:=h;wp_walk;exact⟨_,rfl,h⟩
open AutoSeq1 (wpAny_loadPart')
theorem zB (l:Addr)(items:Array Je)(n:Nat)(dd:Option Addr)(sl:Array (Option Je))(x:Int)(u:Tok)(h1:1<x)(h2:x<2 ^ 31)(hne:items.isEmpty=false)(hz:items.size*x.toNat<=sizeLine)
  (hz2:(Nq (λa b=>a++b) #[] (JC x.toNat items)).size<=sizeLine) :
  Meets (Builtin.«tuple.__mul__» ⟨[.ref l,.int x u],[]⟩) (λ_ R s=>s.heap.get? l=some { cls:=.type "tuple",dict:=dd,data:=.seq items n,slots:=sl } ∧
   R (.ok (.ret (JF s.heap.objs.size))) { s with heap:=s.heap.push { cls:=Np "tuple",data:=Data.seq (Nq (λa b=>a++b) #[] (JC x.toNat items)) } }):=
 .of_wp λprog w A R s h=>by
  obtain⟨hp,g,d,tk,os⟩:=s;obtain⟨hl,h⟩:=h
  have hT:Qs hp l items:=⟨_,hl,rfl,n,rfl⟩
  have hx:((items.size:Nat):Int)*x=((items.size*x.toNat:Nat):Int):=by
   have e:x=((x.toNat:Nat):Int):=by omega
   rw[Int.natCast_mul,<-e]
  wp_walk using Lp hl
  rw[if_neg (by simp;omega)]
  refine IW (Pb (s:=⟨hp,g,d,tk,os⟩) hT ?_)
  dsimp only
  rw[if_neg (by rw[hne];simp;omega),if_neg (by rw[hne];simp;omega),hx,if_neg (by have:(sizeLine:Nat)<=1000000000:=(by decide);omega),if_neg (by unfold Builtin.Tuple.tupleTooMany;rw[decide_eq_true_iff];omega)]
  refine IW (m:=KO _) (Kk ?_ hz2)
  exact Jg ⟨_,rfl,h⟩
section
variable {prog:JI}{w:Kr}{A:J9}{E:Je->Jf->Prop}{s:Jf}
theorem mul_tuple {t:Addr}{vs:List Je}{k:Int}{tk:Tok}{Q:Je->Jf->Prop}(ht:Qs s.heap t vs.toArray)(h1:1<k)(h2:k<2 ^ 31)(hv:vs≠ [])(hz:vs.length*k.toNat<=sizeLine)
  (h:Q (.ref s.heap.objs.size) { s with heap:=s.heap.push { cls:=.type "tuple",data:=.seq (JC k.toNat vs).flatten.toArray } }) :
  wpAny (model prog w) A (KR .Mult (.ref t) (.int k tk)) Q E s:=by
 obtain⟨⟨cls,dd,data,sl⟩,ho,hc,n,hd⟩:=id ht;simp only at hc hd;subst hc hd
 have e:Nq (λa b=>a++b) #[] (JC k.toNat vs.toArray)=(JC k.toNat vs).flatten.toArray:=by
  have q:=L2.foldl_rep vs k.toNat []
  simpa using q
 refine Nh (T:="tuple") (U:="int") (by decide) ⟨_,ho,rfl⟩ (λs'=>Os s' k tk) lX Qc MU rf PM.lookup
  (MP MU (Os s k tk) PN (Pk _ _) (u9 k tk t vs.toArray n dd sl)
   ⟨ho,rfl,⟨_,ho,rfl⟩,MP NK ⟨_,ho,rfl⟩ F.entry_tuple_mul (F.args_tuple_mul_2 _ _) (zB t vs.toArray n dd sl k tk h1 h2 (by simpa using hv) (by simpa using hz) (by rw[e,Jw,L2.len_rep,Py];exact hz)) ⟨ho,?_⟩⟩)
 rw[e];exact h
end
end Tm
namespace Tr
open PySem PySem.Spec PyProof.Rows L2
section
variable {X:Cx}
def bK (x y:T):Rs T:=match x,y with
 | .tup l,.int k=>if 1<k/\k<2 ^ 31/\l≠ []/\l.length*k.toNat<=sizeLine then .ok (.tup (JC k.toNat l).flatten)else .bad
 | x,y=>vm x y
instance (l:List T):Decidable (l≠ []):=by cases l <;> simp <;> infer_instance
theorem dn:OpT X (KR .Mult) bK:=by
 intro pins s σ H O x y vx vy ux uy Q I hf rx ry r1 r2 hp;unfold bK at hp
 split at hp
 ·rename_i l k
  split at hp
  ·rename_i h
   obtain⟨a,vs,e1,n1,q1,z1⟩:=Rep.HC.mp rx;subst e1;cases Rep.HA.mp ry;cases r1;obtain⟨tk,rfl⟩:=r2;obtain⟨its,rv,pl,hz⟩:=I.tuple (SqT.of q1)
   have hl1:=z1.length
   have hl2:=rv.length
   have hne:its≠ []:=λz=>h.2.2.1 (List.eq_nil_of_length_eq_zero (by rw[hl1,hl2,z];rfl))
   refine Tm.mul_tuple pl h.1 h.2.1 hne (by rw[<-hl2,<-hl1];exact h.2.2.2) ?_
   have hn:=I.hok.fresh (Jq _);refine⟨.ref _,_,I.laid (t':=s.toks) (o:=.tup (JC k.toNat vs).flatten) (λb ob q=>IY _ q) (Jq _) ?_,rfl,hp _ (aV hn _) _ (gQ hn (hf _ hn) (z1.rep _))⟩
   refine⟨?_,_,rv.rep k.toNat,Qa _ _⟩
   rw[len_rep,Py,<-hl1];exact h.2.2.2
  ·exact hp.elim
 ·exact Es pins s σ H O _ _ vx vy ux uy Q I hf rx ry r1 r2 hp
end
def EL (outer:List (Str×LO))(N:List Str)(names:List (Str×LO))(N':List Str)(src:List (Option Nat)):Bool:=
 names.all (λy=>y.2 != .cell||names.lookup y.1 == some .cell)&&names.all (λy=>y.2 != .local||names.lookup y.1 == some .local)&&src.length == N'.length&&
 (Js N'.length).all (λj=>match src[j]? with
  | some (some i)=>match N'[j]? with
   | some x=>N[i]? == some x&&names.lookup x == some .free
   | none=>true
  | _=>true)&&
 names.all (λy=>y.2 != .free||(outer.lookup y.1 == some .cell||outer.lookup y.1 == some .free))
theorem LcScope.by {X:Cx}{scope:Mi}{N N':List Str}{src:List (Option Nat)}{names:List (Str×LO)}(hN:X.N=N)(hs:X.env.scope.names=names)(hk:scope.kind= .function)(h:EL names N scope.names N' src=true):LcScope X scope N' src:=by
 unfold EL at h;simp only[Jc]at h;obtain⟨⟨⟨⟨h1,h2⟩,h3⟩,h4⟩,h5⟩:=h
 have a1:=JH.mp h1
 have a2:=JH.mp h2
 have a4:=JH.mp h4
 have a5:=JH.mp h5;refine⟨hk,λy hy hl=>by have:=a1 y hy;rw[hl]at this;simpa using this,λy hy hl=> ?_,by simpa using h3,λj i x e1 e2=> ?_,λx hx=> ?_⟩
 ·have:=a2 y hy
  rw[hl]at this
  simpa using this
 ·have hj:j<N'.length:=(Ju.mp e2).1
  have:=a4 j (JR.mpr hj);rw[e1]at this;simp only[e2]at this;rw[Jc]at this;rw[hN];exact⟨by simpa using this.1,by simpa using this.2⟩
 ·have:=a5 _ hx
  simp only[bne_self_eq_false,Nz,Qd]at this
  show X.env.scope.names.lookup x=_\/X.env.scope.names.lookup x=_
  rw[hs];rcases this with z | z
  ·exact .inl (by simpa using z)
  ·exact .inr (by simpa using z)
def bN:Expr->Bool
 | .Starred .. =>false
 | _=>true
def bx:List Expr->Bool
 | [] =>true
 | e::r=>bN e&&bx r
theorem bh {e:Expr}{es:List Expr}{env:Env}(h:bN e=true):Jz (e::es) env=(false,eval e env)::Jz es env:=by
 cases e <;> first | rfl | cases h
theorem gf {pos:Pos}{env:Env}:∀{es:List Expr},bx es=true->(backTo pos (Jz es env)).any (·.1)=false
 | [],_=>rfl
 | e::r,h=>by
  unfold bx at h;rw[Jc]at h;rw[bh h.1]
  have ih:=gf (pos:=pos) (env:=env) h.2
  show(false||(backTo pos (Jz r env)).any (·.1))=false
  rw[ih];rfl
section
variable {X:Cx}{a b e:Expr}{es:List Expr}{fa:En->Rs T}{fs:En->Rs (List T)}{pos p p2:Pos}{x:Str}
theorem qa_c {f:En->Rs T}{g:En->Rs (List T)}(he:cN X e f)(hr:qG X es g)(hn:bN e=true:=by rfl):qG X (e::es) (ac f g):=BG he hr (bh hn)
theorem q_cB {id:String}{g:List T->Rs T}(hc:CallT X (.builtin id) g)(hm:X.mg x=none)(hv:JT x=some (.builtin id))(ha:qG X (e::es) fs)(hn:bx (e::es)=true:=by rfl)(hg:Gl X x:=by rfl)(h1:x≠ "__name__":=by decide)(h2:(x == ("__debug__" : Str))=false:=by decide) :
  cN X (.Call (.Name x p) (e::es) [] pos) (cl g fs):=by
 unfold bx at hn;rw[Jc]at hn;exact BJ hc hm hv ha hg h1 h2 (bh hn.1) (gf hn.2)
theorem q_cT {Ty:String}{g:List T->Rs T}(hc:CallT X (.type Ty) g)(hm:X.mg x=none)(hv:JT x=some (.type Ty))(ha:qG X (e::es) fs)(hn:bx (e::es)=true:=by rfl)(hg:Gl X x:=by rfl)(h1:x≠ "__name__":=by decide)(h2:(x == ("__debug__" : Str))=false:=by decide) :
  cN X (.Call (.Name x p) (e::es) [] pos) (cl g fs):=by
 unfold bx at hn;rw[Jc]at hn;exact yR hc hm hv ha hg h1 h2 (bh hn.1) (gf hn.2)
theorem q_c {n k:Nat}{f:Addr}{fd:KS}{ps:List Str}{g:List T->Rs T}(F:Fz X.prog X.w X.K X.mg X.base k f fd ps n g)(hr:Room k X.A)(hm:X.mg x=some (.ref f))(hk:Mt X.K (.ref f)=true)(hb:Binds X.K fd ps [])
  (hl:∀Z ts,fs Z= .ok ts->ts.length=n) (ha:qG X (e::es) fs) (hps:ps.length=n:=by rfl) (hn:bx (e::es)=true:=by rfl) (hg:Gl X x:=by rfl) (h2:(x == ("__debug__" : Str))=false:=by decide):cN X (.Call (.Name x p) (e::es) [] pos) (cl g fs):=by
 unfold bx at hn;rw[Jc]at hn;exact D7 F hr hm hk hb hps hl ha hg h2 (bh hn.1) (gf hn.2)
theorem q_is {tn:Str}{Ty:String}(hm:X.mg "isinstance" =none)(hmt:X.mg tn=none)(hv:JT tn=some (.type Ty))(ha:cN X a fa)(hn:bN a=true:=by rfl)(hg:Gl X "isinstance":=by rfl)(hgt:Gl X tn:=by rfl)
  (h1:tn≠ "__name__":=by decide) (h2:(tn == ("__debug__" : Str))=false:=by decide):cN X (.Call (.Name "isinstance" p) [a,.Name tn p2] [] pos) (o1 (Ci Ty) fa):=
 Gd hm hmt hv ha hg hgt h1 h2 (bh hn) (gf rfl) (bh rfl)
end
theorem G6 (Z:En)(ts:List T)(h:ag Z= .ok ts):ts.length=0:=by cases h;rfl
theorem G5 {n:Nat}{f:En->Rs T}{g:En->Rs (List T)}(hg:∀Z ts,g Z= .ok ts->ts.length=n)(Z:En)(ts:List T)(h:ac f g Z= .ok ts):ts.length=n+1:=by
 unfold ac at h
 cases q:f Z with
 | bad=>rw[q]at h;cases h
 | err c=>rw[q]at h;cases h
 | ok t=>
  rw[q,az]at h
  cases q2:g Z with
  | bad=>rw[q2]at h;cases h
  | err c=>rw[q2]at h;cases h
  | ok r=>
   rw[q2,az]at h;cases h;rw[Ji,hg Z r q2]
theorem jf {k:Nat}{A:J9}(h:Room k A):A.units+60<cLine:=by have:=h.un;omega
theorem Fa {k:Nat}{A:J9}(h:Room k A):A.units+61<cLine:=by have:=h.un;omega
structure Fn (K:IX)(mg:Str->Option Je)(x:Str)(st:Stmt)(ps:List Str)(f:Addr)(fd:KS):Prop where
 fn:L2.Fun K x x st f fd
 bd:Binds K fd ps []
 mg:mg x=some (.ref f)
def val (n m:Nat)(F:En->Rs Fl)(ts:List T):Rs T:=if ts.length=n then bR F (aO m ts)else .bad
theorem Dm {n m:Nat}{F:En->Rs Fl}{ts:List T}{t:T}(h:val n m F ts= .ok t):bR F (aO m ts)= .ok t:=by
 unfold val at h
 split at h
 ·exact h
 ·cases h
theorem sp_script {K:IX}{H:Hp}{a:Addr}{ns:List Int}{g:List T->Rs T}{E:XK}(hS:SqL K H a (ns.map V.int))(h:g [.scr ns] = .ok (.bl true)):spP K 1 g [.ref a] H (λv _=>v= .bl true) E:=by
 refine⟨[.scr ns],λ_=>False,Reps.HG ?_ Reps.nil_,λ_ z=>z.elim,rfl,?_⟩
 ·unfold Rep;exact⟨a,rfl,λz=>z,hS⟩
 ·rw[h];exact λv H' _ r=>Rep.HE.mp r
theorem tp {α:Type}{l:List α}{i:Nat}{z:α}(h:l[i]? =some z):l.set i z=l:=by
 obtain⟨hi,rfl⟩:=Ju.mp h
 exact N3 hi
def Mn.set (M:Mn)(i:Nat)(m:Ow):Mn:=λj=>if j=i then m else M j
theorem Mn.Ib {M:Mn}{i:Nat}{m:Ow}{a:Addr}(h:(M.set i m).u a):m a\/M.u a:=by
 obtain⟨j,h⟩:=h;unfold Mn.set at h
 by_cases z:j=i
 ·rw[if_pos z]at h;exact .inl h
 ·rw[if_neg z]at h;exact .inr ⟨j,h⟩
theorem Mn.ID {M:Mn}{i:Nat}{m:Ow}:M.set i m i=m:=by unfold Mn.set;rw[if_pos rfl]
theorem Mn.Ie {M:Mn}{i j:Nat}{m:Ow}(h:j≠i):M.set i m j=M j:=by unfold Mn.set;rw[if_neg h]
theorem RowsR.move {K:IX}{O O' P:Ow}{H H':Hp}(hP:∀a,P a->O a\/Nw K H a)(hO:∀a,O' a->O a\/Nw K H a)(h:SameO P H H'):∀{rs:List (List T×List T)} {as:List Addr},(∀b∈as,¬P b)->RowsR K O H rs as->RowsR K O' H' rs as
 | [],_,_,r=>r
 | _::_,_,hb,⟨b,bs,kvs,e1,e2,e3,e4,e5⟩=>by
  subst e1;exact⟨b,bs,kvs,rfl,h _ _ e2 (hb b Ja),e3,e4.move hP hO h,e5.move hP hO h λc hc=>hb c (IZ _ hc)⟩
theorem ORep.move {K:IX}{O O' P M:Ow}{H H':Hp}{o:OT}{v:V}(hP:∀a,P a->O a\/Nw K H a)(hO:∀a,O' a->O a\/Nw K H a)(h:SameO P H H')(hM:∀a,M a->¬ P a)(r:ORep K O M H o v):ORep K O' M H' o v:=by
 cases o with
 | lst l=>obtain⟨a,vs,e1,e2,e3,e4⟩:=r;exact⟨a,vs,e1,e2,h _ _ e3 (hM a ((e2 a).mpr rfl)),e4.move hP hO h⟩
 | dct ks ts=>obtain⟨a,kvs,e1,e2,e3,e4,e5⟩:=r;exact⟨a,kvs,e1,e2,h _ _ e3 (hM a ((e2 a).mpr rfl)),e4,e5.move hP hO h⟩
 | dd ks rows=>
  obtain⟨a,kvs,as,e1,e2,e3,e4,e5,e6,e7,e8⟩:=r;exact⟨a,kvs,as,e1,e2,e3,e4,h _ _ e5 (hM a ((e2 a).mpr (.inl rfl))),e6,e7,e8.move hP hO h λb hb=>hM b ((e2 b).mpr (.inr hb))⟩
theorem RowsR.mtb {K:IX}{O:Ow}{H:Hp}:∀{rs:List (List T×List T)} {as:List Addr},RowsR K O H rs as->∀b∈as,∃kvs,H b=some (.dT kvs)
 | [],_,r,b,hb=>by unfold RowsR at r;subst r;simp at hb
 | _::_,_,⟨b0,bs,kvs,e1,e2,e3,e4,e5⟩,b,hb=>by
  subst e1;rcases Jh.mp hb with rfl | hb
  ·exact⟨kvs,e2⟩
  ·exact e5.mtb b hb
def OT.isD:OT->Bool
 | .lst _=>false
 | _=>true
theorem ORep.kind {K:IX}{O M:Ow}{H:Hp}{o:OT}{v:V}(r:ORep K O M H o v):∀a,M a->if o.isD then ∃kvs,H a=some (.dT kvs)else ∃vs,H a=some (.lst vs):=λa z=>by
 cases o with
 | lst l=>obtain⟨b,vs,e1,e2,e3,e4⟩:=r;cases (e2 a).mp z;exact⟨vs,e3⟩
 | dct ks ts=>obtain⟨b,kvs,e1,e2,e3,e4,e5⟩:=r;cases (e2 a).mp z;exact⟨kvs,e3⟩
 | dd ks rows=>
  obtain⟨b,kvs,as,e1,e2,e3,e4,e5,e6,e7,e8⟩:=r
  rcases(e2 a).mp z with z | z
  ·cases z;exact⟨kvs,e5⟩
  ·exact e8.mtb a z
theorem ORep.mtb {K:IX}{O M:Ow}{H:Hp}{o:OT}{v:V}(r:ORep K O M H o v)(a:Addr)(z:M a):Mtb H a:=by
 have:=r.kind a z
 split at this
 ·exact .inr this
 ·exact .inl this
theorem tI {K:IX}{O:Ow}{H:Hp}:∀{rs:List (List T×List T)} {as:List Addr},(∀b∈as,¬O b)->RowsR K O H rs as->Reps K O H (rs.map λr=>T.dct r.1 r.2) (as.map V.ref)
 | [],_,_,r=>by unfold RowsR at r;subst r;exact Reps.nil_
 | _::_,_,hn,⟨b,bs,kvs,e1,e2,e3,e4,e5⟩=>by
  subst e1;exact Reps.HG (Rep.HH.mpr ⟨b,kvs,rfl,hn b Ja,.inl e2,e3,e4⟩) (tI (λc hc=>hn c (IZ _ hc)) e5)
theorem RowsR.less {K:IX}{O O':Ow}{H:Hp}(sub:∀a,O' a->O a):∀{rs:List (List T×List T)} {as:List Addr},RowsR K O H rs as->RowsR K O' H rs as
 | [],_,r=>r
 | _::_,_,⟨b,bs,kvs,e1,e2,e3,e4,e5⟩=>⟨b,bs,kvs,e1,e2,e3,e4.less sub,e5.less sub⟩
theorem ORep.rep {K:IX}{O O' M:Ow}{H:Hp}{o:OT}{v:V}(sub:∀a,O' a->O a)(hn:∀a,M a->¬ O' a)(r:ORep K O M H o v):Rep K O' H o.view v:=by
 cases o with
 | lst l=>obtain⟨a,vs,e1,e2,e3,e4⟩:=r;exact Rep.HD.mpr ⟨a,vs,e1,hn a ((e2 a).mpr rfl),e3,e4.less sub⟩
 | dct ks ts=>obtain⟨a,kvs,e1,e2,e3,e4,e5⟩:=r;exact Rep.HH.mpr ⟨a,kvs,e1,hn a ((e2 a).mpr rfl),.inl e3,e4,e5.less sub⟩
 | dd ks rows=>
  obtain⟨a,kvs,as,e1,e2,e3,e4,e5,e6,e7,e8⟩:=r;refine Rep.HH.mpr ⟨a,kvs,e1,hn a ((e2 a).mpr (.inl rfl)),.inl e5,e6,?_⟩
  rw[e7];exact tI (λb hb=>hn b ((e2 b).mpr (.inr hb))) (e8.less sub)
section
variable {K:IX}{B:Ow}{M:Mn}{H H':Hp}{Z:En}{σ:L2.St}{i:Nat}{o o':OT}{v:V}{m:Ow}
theorem Ev.new (E:Ev K B M H Z σ)(hl:i<Z.length)(hm:∀a,m a->Nw K H a)(s:Same H H')(r:ORep K (OO B (M.set i m)) m H' o v) :
  Ev K B (M.set i m) H' (Z.set i (.ow o)) (σ.set i (some v))/\∀a,(M.set i m).u a->M.u a\/Nw K H a:=by
 have hls:i<σ.length:=by rw[<-E.env.len];exact hl
 have sub:∀a,(M.set i m).u a->M.u a\/Nw K H a:=λa z=>(Mn.Ib z).elim (λw=> .inr (hm a w)) .inl
 have subO:∀a,OO B (M.set i m) a->OO B M a\/Nw K H a:=λa z=>z.elim (λw=> .inl (.inl w)) λw=>(sub a w).elim (λy=> .inl (.inr y)) .inr
 have cL:∀a,Nw K H a->¬ OO B M a:=λa w z=>by
  obtain⟨o,e⟩:=(E.env.trk a z).some;rw[w.1]at e;cases e
 refine⟨⟨⟨by rw[Kp,Kp];exact E.env.len,λj t e=> ?_,λj o' e=> ?_,λj a z=> .inr ⟨j,z⟩,λj k a z1 z2=> ?_,λa z=> ?_⟩,λa z=> ?_⟩,sub⟩
 ·by_cases hj:i=j
  ·subst hj;rw[JA hl]at e;cases e
  ·rw[JD hj]at e
   obtain⟨w,e1,e2⟩:=E.env.val j t e;exact⟨w,by rw[JD hj];exact e1,(e2.more subO).same s⟩
 ·by_cases hj:i=j
  ·subst hj
   rw[JA hl]at e
   cases e;exact⟨v,JA hls,by rw[Mn.ID];exact r⟩
  ·rw[JD hj]at e
   obtain⟨w,e1,e2⟩:=E.env.own j o' e;refine⟨w,by rw[JD hj];exact e1,?_⟩
   rw[Mn.Ie (λz=>hj z.symm)]
   exact(e2.move (P:=vj) (λ_ z=>z.elim) subO (λb u q _=>q) λ_ _ z=>z).same s
 ·unfold Mn.set at z1 z2
  by_cases hj:j=i
  ·by_cases hk:k=i
   ·exact hj.trans hk.symm
   ·rw[if_pos hj]at z1;rw[if_neg hk]at z2
    exact(cL a (hm a z1) (.inr ⟨k,z2⟩)).elim
  ·by_cases hk:k=i
   ·rw[if_neg hj]at z1;rw[if_pos hk]at z2
    exact(cL a (hm a z2) (.inr ⟨j,z1⟩)).elim
   ·rw[if_neg hj]at z1;rw[if_neg hk]at z2
    exact E.env.dis j k a z1 z2
 ·rcases z with z | z
  ·exact(E.env.trk a (.inl z)).same s
  ·rcases Mn.Ib z with w | w
   ·exact r.mtb a w
   ·exact(E.env.trk a (.inr w)).same s
 ·intro hb
  rcases Mn.Ib z with w | w
  ·exact cL a (hm a w) (.inl hb)
  ·exact E.mine a w hb
theorem Ev.put (E:Ev K B M H Z σ)(hi:Z[i]? =some (.ow o))(hs:σ[i]? =some (some v))(s:SameO (M i) H H')(r:ORep K (OO B M) (M i) H' o' v):Ev K B M H' (Z.set i (.ow o')) σ/\SameO M.u H H':=by
 have hl:i<Z.length:=(Ju.mp hi).1
 have inO:∀a,M i a->OO B M a\/Nw K H a:=λa z=> .inl (.inr ⟨i,z⟩)
 have idO:∀a,OO B M a->OO B M a\/Nw K H a:=λa z=> .inl z
 refine⟨⟨⟨by rw[Kp];exact E.env.len,λj t e=> ?_,λj o2 e=> ?_,E.env.sub,E.env.dis,λa z=> ?_⟩,E.mine⟩,λb u e n=>s b u e λz=>n ⟨i,z⟩⟩
 ·by_cases hj:i=j
  ·subst hj;rw[JA hl]at e;cases e
  ·rw[JD hj]at e
   obtain⟨w,e1,e2⟩:=E.env.val j t e;exact⟨w,e1,e2.move inO idO s⟩
 ·by_cases hj:i=j
  ·subst hj
   rw[JA hl]at e
   cases e;exact⟨v,hs,r⟩
  ·rw[JD hj]at e
   obtain⟨w,e1,e2⟩:=E.env.own j o2 e;exact⟨w,e1,e2.move inO idO s λa z y=>hj (E.env.dis i j a y z)⟩
 ·by_cases hz:M i a
  ·exact r.mtb a hz
  ·rcases E.env.trk a z with⟨vs,e⟩ | ⟨kvs,e⟩
   ·exact .inl ⟨vs,s _ _ e hz⟩
   ·exact .inr ⟨kvs,s _ _ e hz⟩
def disown (i:Nat)(Z:En):En:=match Z[i]? with
 | some (.ow o)=>Z.set i (.va o.view)
 | _=>Z
theorem EnvM.disown {O O':Ow}{Z:En}(E:EnvM K O M H Z σ)(i:Nat)(sub:∀a,O' a->O a)(hn:∀a,M i a->¬ O' a)(hin:∀j a,j≠i->M j a->O' a):EnvM K O' (M.set i vj) H (disown i Z) σ:=by
 have base:EnvM K O' (M.set i vj) H (Z.set i (match Z[i]? with | some (.ow o)=> .va o.view | some x=>x | none=> .em)) σ:=by
  refine⟨by rw[Kp];exact E.len,λj t e=> ?_,λj o e=> ?_,λj a z=> ?_,λj k a z1 z2=> ?_,λa z=>E.trk a (sub a z)⟩
  ·by_cases hj:i=j
   ·subst hj
    by_cases hl:i<Z.length
    ·rw[JA hl]at e
     cases q:Z[i]? with
     | none=>rw[q]at e;cases e
     | some z=>
      rw[q]at e
      cases z with
      | em=>cases e
      | va t'=>cases e;obtain⟨w,e1,e2⟩:=E.val i _ q;exact⟨w,e1,e2.less sub⟩
      | ow o=>cases e;obtain⟨w,e1,e2⟩:=E.own i _ q;exact⟨w,e1,e2.rep sub hn⟩
    ·rw[My (by rw[Kp];omega)]at e;cases e
   ·rw[JD hj]at e
    obtain⟨w,e1,e2⟩:=E.val j t e;exact⟨w,e1,e2.less sub⟩
  ·by_cases hj:i=j
   ·subst hj
    by_cases hl:i<Z.length
    ·rw[JA hl]at e
     cases q:Z[i]? with
     | none=>rw[q]at e;cases e
     | some z=>
      rw[q]at e
      cases z with
      | em=>cases e
      | va t'=>cases e
      | ow o=>cases e
    ·rw[My (by rw[Kp];omega)]at e;cases e
   ·rw[JD hj]at e
    obtain⟨w,e1,e2⟩:=E.own j o e;refine⟨w,e1,?_⟩
    rw[Mn.Ie (λz=>hj z.symm)]
    exact e2.move (P:=vj) (λ_ z=>z.elim) (λa z=> .inl (sub a z)) (λb u q _=>q) λ_ _ z=>z
  ·unfold Mn.set at z
   by_cases hj:j=i
   ·rw[if_pos hj]at z;exact z.elim
   ·rw[if_neg hj]at z;exact hin j a hj z
  ·unfold Mn.set at z1 z2
   by_cases hj:j=i
   ·rw[if_pos hj]at z1;exact z1.elim
   ·by_cases hk:k=i
    ·rw[if_pos hk]at z2;exact z2.elim
    ·rw[if_neg hj]at z1;rw[if_neg hk]at z2;exact E.dis j k a z1 z2
 unfold Tr.disown
 cases q:Z[i]? with
 | none=>rw[q,List.set_eq_of_length_le (List.getElem?_eq_none_iff.mp q)]at base;exact base
 | some z=>
  rw[q]at base
  cases z with
  | em=>rw[tp q]at base;exact base
  | va t=>rw[tp q]at base;exact base
  | ow o=>exact base
theorem Ev.disown (E:Ev K B M H Z σ)(i:Nat):Ev K B (M.set i vj) H (disown i Z) σ/\∀a,(M.set i vj).u a->M.u a:=by
 have sub:∀a,(M.set i vj).u a->M.u a:=λa z=>(Mn.Ib z).elim (λw=>w.elim) id
 refine⟨⟨E.env.disown i (λa z=>z.elim .inl λw=> .inr (sub a w)) (λa z y=> ?_) λj a hj z=> .inr ⟨j,by rw[Mn.Ie hj];exact z⟩,λa z=>E.mine a (sub a z)⟩,sub⟩
 rcases y with y | ⟨j,y⟩
 ·exact E.mine a ⟨i,z⟩ y
 ·unfold Mn.set at y
  by_cases hj:j=i
  ·rw[if_pos hj]at y;exact y
  ·rw[if_neg hj]at y;exact hj (E.env.dis j i a y z)
end
section
variable {X:Cx}{a:Expr}{es:List Expr}{fa:En->Rs T}{pos p2 p3:Pos}{x:Str}
theorem Ev.subO {K:IX}{B:Ow}{M:Mn}{H:Hp}{i:Nat}{m:Ow}(hm:∀a,m a->Nw K H a)(a:Addr)(z:OO B (M.set i m) a):OO B M a\/Nw K H a:=
 z.elim (λw=> .inl (.inl w)) λw=>(Mn.Ib w).elim (λy=> .inr (hm a y)) λy=> .inl (.inr y)
theorem lw {K:IX}{H H1:Hp}(s:Same H H1){a:Addr}(n:Nw K H1 a):Nw K H a:=(iO (SameO.of (P:=vj) s) n).elim (λz=>z.elim) id
def FN (X:Cx)(t:TA):TE:=λσ H Q=>t σ H λxs H1=>xs.length<=sizeLine/\∀p,Nw X.K H1 p->Q (.ref p) (upd H1 p (.lst xs))
theorem BV {t:TA}(h:PA X es t):PE X (.List es pos) (FN X t):=by
 intro pins s σ H Q I hq;refine O7 (cG (h pos pins s σ H _ I hq) λus s1 ⟨xs,H1,I1,r,z,q⟩=>⟨by rw[<-r.length];exact z,?_⟩)
 have hf:H1 s1.heap.objs.size=none:=I1.hok.fresh (Jq _)
 have hk:X.K.lookup s1.heap.objs.size=none:=by
  cases q:X.K.lookup s1.heap.objs.size with
  | none=>rfl
  | some o=>exact absurd (Jn (I1.kIn _ o q)) (JK _)
 refine⟨.ref s1.heap.objs.size,upd H1 s1.heap.objs.size (.lst xs),I1.laid (t':=s1.toks) (λb u e=>IY _ e) (Jq _) ?_,rfl,q _ ⟨hf,hk⟩⟩
 exact⟨z,us,0,r,Jk _ rfl⟩
def i8 (i:Nat)(f:En->Rs (List T))(Z:En):Rs Fl:=do
 let l <-f Z
 if i<Z.length/\l.length<=sizeLine then .ok (.nx (Z.set i (.ow (.lst l))))else .bad
theorem Bv (i:Nat){f:En->Rs (List T)}(hN:X.N.Nodup)(ha:qG X es f)(hi:X.N[i]? =some x:=by rfl)(hx:Loc X.env.scope x:=by first | exact Kz rfl | exact Ki rfl)(hs:Kj (.List es p2) (some (.Name x p3)) pos.line X.env=pure false:=by rfl)
  (hf:X.fn x=true\/X.env.scope.names.lookup x=some .local:=by first | exact .inl rfl | exact .inr rfl | assumption):pi X (.Assign [.Name x p3] (.List es p2) pos) (i8 i f):=PS.imp (ri hN hi hx (BV ha) hs hf) λD σ H hh_=>by
 obtain⟨Z,B,M,E,h⟩:=hh_;refine⟨Z,OO B M,E.o,?_⟩
 unfold i8 at h
 cases q:f Z with
 | bad=>rw[q]at h;exact h.elim
 | err c=>rw[q]at h;exact PostF.xa h
 | ok l=>
  rw[q,az]at h;intro H1 s1 vs rs
  by_cases hl:i<Z.length/\l.length<=sizeLine
  ·rw[if_pos hl]at h
   refine⟨by rw[<-rs.length];exact hl.2,λp hp=> ?_⟩
   have hm:∀a,a=p->Nw X.K H1 a:=λa z=>z▸hp
   obtain⟨E2,sub⟩:=(E.same s1).new (m:=λa=>a=p) (o:=.lst l) (v:=.ref p) (H':=upd H1 p (.lst vs)) hl.1 hm (aV hp.1 _) ⟨p,vs,rfl,λb=>MF,aG,(rs.more (Ev.subO hm)).same (aV hp.1 _)⟩
   exact h _ _ _ (SameO.of (s1.trans (aV hp.1 _))) E2 λa z=>(sub a z).imp_right (lw s1)
  ·rw[if_neg hl]at h
   exact h.elim
def iA (i:Nat)(f:En->Rs T)(Z:En):Rs Fl:=match Z[i]? with
 | some (.ow (.lst l))=>f Z >>= λt=>if l.length<sizeLine then .ok (.nx (Z.set i (.ow (.lst (l++ [t])))))else .bad
 | _=> .bad
theorem Ev.putL {K:IX}{B:Ow}{M:Mn}{H:Hp}{Z:En}{σ:L2.St}{i:Nat}{o:OT}{l':List T}{b:Addr}{vs':List V}(E:Ev K B M H Z σ)(hi:Z[i]? =some (.ow o))(hs:σ[i]? =some (some (.ref b)))(hM:∀c,M i c↔c=b)(r:Reps K (OO B M) H l' vs') :
  Ev K B M (upd H b (.lst vs')) (Z.set i (.ow (.lst l'))) σ/\SameO M.u H (upd H b (.lst vs')):=by
 have sm:SameO (M i) H (upd H b (.lst vs')):=λc u e nb=>by rw[aF (λz=>nb ((hM c).mpr z))];exact e
 exact E.put hi hs sm ⟨b,vs',rfl,hM,aG,r.move (P:=M i) (λa z=> .inl (.inr ⟨i,z⟩)) (λa z=> .inl z) sm⟩
theorem DU (i:Nat){apos cpos:Pos}(ha:cN X a fa)(hN:X.N[i]? =some x:=by rfl)(hv:uN X.env.scope x:=by first | exact Kz rfl | exact Ki (Kz rfl) | exact Ki (Ki rfl))(hn:bN a=true:=by rfl)
  (hbase:KI (.Name x p2) "append" X.env (eval (.Name x p2) X.env)=eval (.Name x p2) X.env:=by rfl) (hline:(apos.endLine == cpos.line)=true:=by rfl)
  (hd:(x == ("__debug__" : Str))=false:=by decide) (hcd:(x == ("__classdict__" : Str))=false:=by decide)
  (hsw:Kj (.Call (.Attribute (.Name x p2) "append" apos) [a] [] cpos) none pos.line X.env=pure false:=by rfl):pi X (.Expr (.Call (.Attribute (.Name x p2) "append" apos) [a] [] cpos) pos) (iA i fa):=by
 have h1:Jz [a] X.env=(false,eval a X.env)::Jz [] X.env:=bh hn;refine PS.imp (rj (C3 L8 PySem.F.slot_list_append PySem.F.type_list_append qc (kG hN hv hd hcd) (fy ha ju h1) hbase ?_ hline h1 rfl) hsw) λD σ H ⟨Z,B,M,E,h⟩=> ?_
 ·rw[h1];rfl
 unfold iA at h
 split at h
 ·rename_i l hl
  obtain⟨v0,e1,b,vs,rfl,hM,e3,e4⟩:=E.env.own i _ hl;refine⟨.ref b,e1,.inl ⟨rfl,vs,SqL.of e3⟩,Z,OO B M,E.o,?_⟩
  cases q:fa Z with
  | bad=>rw[q]at h;exact h.elim
  | err c=>rw[q]at h;exact PostF.xa h
  | ok t=>
   rw[q,az]at h
   split at h
   ·rename_i hz
    intro H1 s1 v r
    have e3':=s1 _ _ e3;refine⟨b,vs,v,rfl,rfl,e3',by rw[<-e4.length];exact hz,?_⟩
    obtain⟨g1,g2⟩:=(E.same s1).putL (l':=l++ [t]) (vs':=vs++ [v]) hl e1 hM ((e4.same s1).append (Reps.HG r Reps.nil_));exact h σ _ M (λc o e nb=>g2 c o (s1 _ _ e) nb) g1 λc z=> .inl z
   ·exact h.elim
 ·exact h.elim
def Ff (i:Nat)(l:List T)(Z:En):T->Rs Fl
 | .lst m=>if l.length+m.length<=sizeLine then .ok (.nx (Z.set i (.ow (.lst (l++m)))))else .bad
 | _=> .bad
def n5 (i:Nat)(f:En->Rs T)(Z:En):Rs Fl:=match Z[i]? with
 | some (.ow (.lst l))=>f Z >>= Ff i l Z
 | _=> .bad
theorem DQ (i:Nat){apos cpos:Pos}(ha:cN X a fa)(hN:X.N[i]? =some x:=by rfl)(hv:uN X.env.scope x:=by first | exact Kz rfl | exact Ki (Kz rfl) | exact Ki (Ki rfl))(hn:bN a=true:=by rfl)
  (hbase:KI (.Name x p2) "extend" X.env (eval (.Name x p2) X.env)=eval (.Name x p2) X.env:=by rfl) (hline:(apos.endLine == cpos.line)=true:=by rfl)
  (hd:(x == ("__debug__" : Str))=false:=by decide) (hcd:(x == ("__classdict__" : Str))=false:=by decide)
  (hsw:Kj (.Call (.Attribute (.Name x p2) "extend" apos) [a] [] cpos) none pos.line X.env=pure false:=by rfl):pi X (.Expr (.Call (.Attribute (.Name x p2) "extend" apos) [a] [] cpos) pos) (n5 i fa):=by
 have h1:Jz [a] X.env=(false,eval a X.env)::Jz [] X.env:=bh hn;refine PS.imp (rj (C3 L8 PySem.F.slot_list_extend PySem.F.type_list_extend xA (kG hN hv hd hcd) (fy ha ju h1) hbase ?_ hline h1 rfl) hsw) λD σ H ⟨Z,B,M,E,h⟩=> ?_
 ·rw[h1];rfl
 unfold n5 at h
 split at h
 ·rename_i l hl
  obtain⟨v0,e1,b,vs,rfl,hM,e3,e4⟩:=E.env.own i _ hl;refine⟨.ref b,e1,.inl ⟨rfl,vs,SqL.of e3⟩,Z,OO B M,E.o,?_⟩
  cases q:fa Z with
  | bad=>rw[q]at h;exact h.elim
  | err c=>rw[q]at h;exact PostF.xa h
  | ok t=>
   rw[q,az]at h;unfold Ff at h
   split at h
   ·rename_i m
    split at h
    ·rename_i hz
     intro H1 s1 v r;obtain⟨c,ws,rfl,nO,hc,rm⟩:=Rep.HD.mp r
     have e3':=s1 _ _ e3;refine⟨b,c,vs,ws,rfl,rfl,e3',hc,by rw[<-e4.length,<-rm.length];exact hz,?_⟩
     obtain⟨g1,g2⟩:=(E.same s1).putL (l':=l++m) (vs':=vs++ws) hl e1 hM ((e4.same s1).append rm);exact h σ _ M (λc o e nb=>g2 c o (s1 _ _ e) nb) g1 λc z=> .inl z
    ·exact h.elim
   ·exact h.elim
 ·exact h.elim
def mU (i:Nat)(F:En->Rs Fl)(Z:En):Rs Fl:=F (disown i Z)
theorem DS (i:Nat){st:Stmt}{F:En->Rs Fl}(h:pi X st F):pi X st (mU i F):=PS.imp h λD σ H hh_=>by
 obtain⟨Z,B,M,E,q⟩:=hh_;obtain⟨E',sub⟩:=E.disown i;exact⟨disown i Z,B,_,E',PostF.later q (λ_ _ e _=>e) λa z=> .inl (sub a z)⟩
mutual
def T.nk (D:Bool):T->Bool
 | .scr _=>false
 | .dct _ ts=> !D&&nks D ts
 | .lst l=>D&&nks D l
 | .tup l=>nks D l
 | _=>true
def nks (D:Bool):List T->Bool
 | [] =>true
 | t::l=>t.nk D&&nks D l
end
mutual
theorem Rep.lend {K:IX}{O O':Ow}{H:Hp}{D:Bool}(hk:∀a,O a->O' a\/if D then ∃kvs,Rd H a (.dT kvs)else ∃vs,H a=some (.lst vs)):∀{t:T} {v:V},t.nk D=true->Rep K O' H t v->Rep K O H t v
 | .non,_,_,r=>by unfold Rep at r ⊢;exact r
 | .bl _,_,_,r=>by unfold Rep at r ⊢;exact r
 | .int _,_,_,r=>by unfold Rep at r ⊢;exact r
 | .str _,_,_,r=>by unfold Rep at r ⊢;exact r
 | .tup l,_,h,r=>by
  unfold Rep at r ⊢;unfold T.nk at h;obtain⟨a,vs,e,n,q,z⟩:=r;refine⟨a,vs,e,λp=>(hk a p).elim n λw=> ?_,q,Reps.lend hk h z⟩
  split at w
  ·obtain⟨_,w | ⟨_,w⟩⟩:=w <;> rw[q]at w <;> cases w
  ·obtain⟨_,w⟩:=w;rw[q]at w;cases w
 | .lst l,_,h,r=>by
  unfold Rep at r ⊢;unfold T.nk at h;rw[Jc]at h;obtain⟨h1,h2⟩:=h;subst h1;obtain⟨a,vs,e,n,q,z⟩:=r;refine⟨a,vs,e,λp=>(hk a p).elim n λw=> ?_,q,Reps.lend hk h2 z⟩
  rw[if_pos rfl]at w;obtain⟨_,w | ⟨_,w⟩⟩:=w <;> rw[q]at w <;> cases w
 | .scr l,_,h,r=>by unfold T.nk at h;cases h
 | .dct ks ts,_,h,r=>by
  unfold Rep at r ⊢;unfold T.nk at h;rw[Jc]at h;obtain⟨h1,h2⟩:=h
  cases D with
  | true=>cases h1
  | false=>
   obtain⟨a,kvs,e,n,q,k,z⟩:=r;refine⟨a,kvs,e,λp=>(hk a p).elim n λw=> ?_,q,k,Reps.lend hk h2 z⟩
   rw[if_neg Jy]at w;obtain⟨_,w⟩:=w;rcases q with q | ⟨_,q⟩ <;> rw[q]at w <;> cases w
theorem Reps.lend {K:IX}{O O':Ow}{H:Hp}{D:Bool}(hk:∀a,O a->O' a\/if D then ∃kvs,Rd H a (.dT kvs)else ∃vs,H a=some (.lst vs)):∀{l:List T} {vs:List V},nks D l=true->Reps K O' H l vs->Reps K O H l vs
 | [],_,_,r=>by unfold Reps at r ⊢;exact r
 | t::l,_,h,r=>by
  unfold Reps at r ⊢;unfold nks at h;rw[Jc]at h;obtain⟨v,ws,e,p,q⟩:=r;exact⟨v,ws,e,Rep.lend hk h.1 p,Reps.lend hk h.2 q⟩
end
def ln (i:Nat)(f:En->Rs T)(Z:En):Rs T:=match Z[i]? with
 | some (.ow o)=>f (disown i Z) >>= λt=>if t.nk o.isD=true then .ok t else .bad
 | _=>f Z
def EJ (i:Nat)(f:En->Rs Bool)(Z:En):Rs Bool:=f (disown i Z)
theorem qI {K:IX}{O:Ow}{M:Mn}{H:Hp}{Z:En}{σ:L2.St}(E:EnvM K O M H Z σ)(i:Nat):EnvM K (λa=>O a/\¬ M i a) (M.set i vj) H (disown i Z) σ:=
 E.disown i (λa z=>z.1) (λa z y=>y.2 z) λj a hj z=>⟨E.sub j a z,λy=>hj (E.dis j i a z y)⟩
theorem q_ln (i:Nat){e:Expr}{f:En->Rs T}(h:cN X e f):cN X e (ln i f):=PE.imp h λσ H Q ⟨Z,O,⟨M,E⟩,q⟩=>by
 unfold ln at q
 split at q
 ·rename_i o hi
  refine⟨disown i Z,_,⟨_,qI E i⟩,?_⟩
  obtain⟨w,e1,r⟩:=E.own i o hi;refine Post.mono (Post.bind q) λt H' s q2 v rv=> ?_
  split at q2
  ·rename_i hk
   have kd:=(r.same s).kind;refine q2 H' (Same.refl _) v (Rep.lend (λa z=> ?_) hk rv)
   by_cases hm:M i a
   ·refine .inr ?_
    have this:=kd a hm
    by_cases hD:o.isD=true
    ·rw[if_pos hD]at this ⊢;exact this.imp λ_ z=> .inl z
    ·rw[if_neg hD]at this ⊢;exact this
   ·exact .inl ⟨z,hm⟩
  ·exact q2.elim
 ·exact⟨Z,O,⟨M,E⟩,q⟩
theorem F1 (i:Nat){e:Expr}{f:En->Rs Bool}(h:uO X e f):uO X e (EJ i f):=PT.imp h λσ H Q ⟨Z,O,⟨M,E⟩,q⟩=>⟨disown i Z,_,⟨_,qI E i⟩,q⟩
end
end Tr
namespace Tr
open PySem L2
def kf:List T->List T->List Key->Option T
 | k'::ks,v::vs,k=>if aW k'=some k then some v else kf ks vs k
 | _,_,_=>none
def gD (k v:T):List T->List T->List T×List T
 | k'::ks,v'::vs=>if aW k'=aW k then(k'::ks,v::vs)else(k'::(gD k v ks vs).1,v'::(gD k v ks vs).2)
 | _,_=>([k],[v])
def aL (x y:T):Rs T:=match x,aW y with
 | .dct ks vs,some k=>match kf ks vs k with
  | some t=> .ok t
  | none=> .bad
 | _,_=> .bad
def jc (x y:T):Rs T:=match x,aW y with
 | .dct ks vs,some k=>match kf ks vs k with
  | some t=> .ok t
  | none=> .ok .non
 | _,_=> .bad
def AF (x y:T):Rs T:=match y,aW x with
 | .dct ks vs,some k=> .ok (.bl (kf ks vs k).isSome)
 | _,_=> .bad
def oD (g:T->T->Rs T)(fa fb:En->Rs T)(Z:En):Rs T:=fa Z >>= λx=>match x with
 | .dct ks vs=>fb Z >>= g (.dct ks vs)
 | _=> .bad
def oL (g:T->T->Rs T)(fa fb:En->Rs T)(Z:En):Rs T:=fa Z >>= λx=>match x with
 | .lst l=>fb Z >>= g (.lst l)
 | _=> .bad
def FA:List T->Option (List (T×T))
 | [] =>some []
 | .tup [k,v] ::l=>match aW k,FA l with
  | some _,some r=>some ((k,v)::r)
  | _,_=>none
 | _=>none
def gZ:List (T×T)->List T×List T->List T×List T
 | [],d=>d
 | (k,v)::r,d=>gZ r (gD k v d.1 d.2)
def wK:List T->Rs T
 | [.lst l] =>match FA l with
  | some ps=>if l.length<=1000 then .ok (.dct (gZ ps ([],[])).1 (gZ ps ([],[])).2)else .bad
  | none=> .bad
 | _=> .bad
def iC:List T->Bool
 | [] =>true
 | k::l=>(aW k).isSome&&iC l
def p6 (i:Nat)(f:En->Rs T)(Z:En):Rs Fl:=f Z >>= λt=>wK [t] >>= λd=>match d with
 | .dct ks vs=>if i<Z.length then .ok (.nx (Z.set i (.ow (.dct ks vs))))else .bad
 | _=> .bad
def qX (i:Nat)(Z:En):Rs Fl:=if i<Z.length then .ok (.nx (Z.set i (.ow (.dct [] []))))else .bad
def pG (i:Nat)(fk fv:En->Rs T)(Z:En):Rs Fl:=match Z[i]? with
 | some (.ow (.dct ks vs))=>fv Z >>= λv=>fk Z >>= λk=>match aW k with
  | some _=>if ks.length<1000 then .ok (.nx (Z.set i (.ow (.dct (gD k v ks vs).1 (gD k v ks vs).2))))else .bad
  | none=> .bad
 | _=> .bad
def n4 (i j:Nat)(Z:En):Rs Fl:=match Z[j]? with
 | some (.va (.lst l))=>if i<Z.length/\iC l=true/\(l.map aW).Nodup/\l.length<=1000 then .ok (.nx (Z.set i (.ow (.dd l (l.map λ_=>(l,l.map λ_=> .non))))))else .bad
 | _=> .bad
def pI:List T->List (List T×List T)->List Key->Option (List T×List T)
 | k'::ks,r::rs,k=>if aW k'=some k then some r else pI ks rs k
 | _,_,_=>none
def pH (k:List Key)(x:List T×List T):List T->List (List T×List T)->List (List T×List T)
 | k'::ks,r::rs=>if aW k'=some k then x::rs else r::pH k x ks rs
 | _,rs=>rs
def i7 (i:Nat)(fa fb fv:En->Rs T)(Z:En):Rs Fl:=match Z[i]? with
 | some (.ow (.dd ks rows))=>fv Z >>= λv=>fa Z >>= λa=>match(aW a).bind λka=>(pI ks rows ka).map λr=>(ka,r)with
  | some (ka,r)=>fb Z >>= λb=>if (aW b).isSome=true/\r.1.length<1000 then .ok (.nx (Z.set i (.ow (.dd ks (pH ka (gD b v r.1 r.2) ks rows)))))else .bad
  | none=> .bad
 | _=> .bad
def ku:List T->Option (List Int)
 | [] =>some []
 | .int i::l=>(ku l).map (i:: ·)
 | _=>none
def gz (i:Int):List Int->Int
 | [] =>i
 | j::l=>gz (if j<i then j else i) l
def ik (i:Int):List Int->Int
 | [] =>i
 | j::l=>ik (if i<j then j else i) l
def oC:List T->Rs T
 | [.lst l] =>match ku l with
  | some (i::ns)=> .ok (.int (gz i ns))
  | _=> .bad
 | [.int i,.int j] => .ok (.int (gz i [j]))
 | _=> .bad
def xE:List T->Rs T
 | [.lst l] =>match ku l with
  | some (i::ns)=> .ok (.int (ik i ns))
  | _=> .bad
 | [.int i,.int j] => .ok (.int (ik i [j]))
 | _=> .bad
def j5 (x:T):List T->Nat->Option Nat
 | [],_=>none
 | t::l,n=>if a6 t x then some n else j5 x l (n+1)
def hZ (y x:T):Rs T:=match y with
 | .lst l=>if (x.dep<=60\/deps l<=60)/\x.nd=true/\nds l=true then match j5 x l 0 with
   | some n=> .ok (.int n)
   | none=> .bad
  else .bad
 | _=> .bad
def iD (f:En->Rs T)(Z:En):Rs (List T):=f Z >>= λx=>match x with
 | .dct ks _=> .ok ks
 | _=> .bad
def iZ (f:En->Rs (List T))(Z:En):Rs (List T):=f Z >>= λx=>match x with
 | [a,b] =>match a.items,b.items with
  | some l,some m=> .ok ((l.zip m).map λp=> .tup [p.1,p.2])
  | _,_=> .bad
 | _=> .bad
def FU:Nat:=1000000000000
end Tr
namespace Tr
open PySem PySem.Spec PyProof.Rows L2
theorem kB {h b b':Heap}:∀{l:List Env},h.FunFrames b l->(∀a∈l.filterMap (·.frame),b'.get? a=none)->h.FunFrames b' l
 | [],_,_=>trivial
 | env::rest,⟨hk,⟨L,o,hf,hn,ho,hd⟩,hr⟩,q=>by
  rw[Lr,hf]at q;exact⟨hk,⟨L,o,hf,q L Ja,ho,hd⟩,kB hr λa ha=>q a (IZ _ ha)⟩
section
variable {M:Model}{A:J9}{E:Je->Jf->Prop}{s:Jf}
structure Gone (fs:List Addr)(C e:Addr)(T:Option Addr)(h h':Heap)(T':Addr):Prop where
 flt:Hz h' C e (some T')
 new:T=some T'\/h.get? T'=none
 keep:∀b o,b∉fs->b≠e->T≠some b->h.get? b=some o->h'.get? b=some o
 slot:∀b o,b∈fs->h.get? b=some o->∃sl,h'.get? b=some { o with slots:=sl }
theorem EK {base:Heap}{env:Env}{outer:List Env}{L C e:Addr}{T:Option Addr}{Q:Unit->Jf->Prop}(hfr:A.frames=some (env::outer))(hl:s.heap.FunFrames base (env::outer))(hf:env.frame=some L)
  (F:Hz s.heap C e T) (h:∀h' T',Gone ((env::outer).filterMap (·.frame)) C e T s.heap h' T'->Q () { s with heap:=h' }):wpAny M A (leaving env (.ref e)) Q E s:=by
 generalize hB:P7 s.heap (e::(T.toList++(env::outer).filterMap (·.frame)))=B
 have bm:∀b,b∈e::(T.toList++(env::outer).filterMap (·.frame))->B.get? b=none:=λb m=>by rw[<-hB];exact Ot _ m
 have hl':s.heap.FunFrames B (env::outer):=kB hl λa ha=>bm a (IZ _ (Jt _ ha))
 have hst:B.StaysIn s.heap:=λb o q=>by rw[<-hB]at q;exact OK _ q
 have hen:B.get? e=none:=bm e Ja
 have main:∀h',Heap.Left B (env::outer) e (.ref C) s.heap h'->Q () { s with heap:=h' }:=λh' ⟨x1,x2,⟨oe,vs,T',oT,ts,he,hc,hd,h1,hnT,hTe,hT,hdT,h3⟩,x4⟩=>by
  refine h h' T' ⟨⟨hTe,oe,vs,he,hc,hd,h1,oT,ts,hT,hdT,h3⟩,?_,λb o n1 n2 n3 q=> ?_,λb o m q=> ?_⟩
  ·cases q:s.heap.get? T' with
   | none=>exact .inr rfl
   | some o=>
    left
    by_cases z:T'∈e::(T.toList++(env::outer).filterMap (·.frame))
    ·rcases Jh.mp z with z | z
     ·exact absurd z hTe
     ·rcases JG.mp z with z | z
      ·cases T with
       | none=>simp at z
       | some t=>simp at z;rw[z]
      ·obtain⟨_,o',ho',hnf⟩:=x2.mem z
       rw[hT]at ho';cases ho';exact absurd hdT (hnf ts)
    ·rw[<-hB,MQ _ q z]at hnT;cases hnT
  ·refine x1 b o ?_
   rw[<-hB];refine MQ _ q λz=> ?_
   rcases Jh.mp z with z | z
   ·exact n2 z
   ·rcases JG.mp z with z | z
    ·cases T with
     | none=>simp at z
     | some t=>simp at z;exact n3 (by rw[z])
    ·exact n1 z
  ·obtain⟨_,o',ho',hnf⟩:=hl.mem m
   rw[q]at ho';cases ho';exact x4 b o q hnf
 cases T with
 | none=>
  obtain⟨oe,vs,he,hc,hd,h1⟩:=F;refine wpAny_leaving_first hfr hl' hf he hst hen hd h1 λh' x=>main h' ?_
  rw[hc]at x;exact x
 | some t=>
  obtain⟨hte,oe,vs,he,hc,hd,h1,oT,ts,hT,hdT,h3⟩:=F;exact wpAny_leaving_next hfr hl' hf ⟨oe,vs,t,oT,ts,he,hc,hd,h1,bm t (IZ _ (JV _ (by simp))),hte,hT,hdT,h3⟩ hst hen main
end
abbrev uL:List Je:=[.type "ValueError",.type "Exception",.type "BaseException",.type "object"]
structure OwnExc (K:IX)(C:Addr)(bm:List Je):Prop where
 at_:∀h:Heap,K.In h->∃nm q N bs hdct sn sub ab col dd k0 k1 k2 k3 k5 mN,h.get? C=some (MY nm q C N bs bm hdct sn sub ab col dd k0 k1 k2 k3 k5 "ValueError.__new__")/\h.Ns N mN/\mN "__init__" =none/\OwnTail h uL bm
theorem OwnExc.base {K:IX}{C:Addr}{bm:List Je}(O:OwnExc K C bm){h:Heap}(k:K.In h):bm.contains (.type "BaseException")=true:=by
 obtain⟨_,_,_,_,_,_,_,_,_,_,_,_,_,_,_,_,_,_,_,T⟩:=O.at_ h k;exact T.hasType (by decide)
def xh (c:Str)(_:En):Rs Fl:=.err c
section
variable {X:Cx}
theorem yL {c:Str}{msg:Str}{C:Addr}{bm:List Je}{np p1 cpos pos:Pos}{j:Nat}(O:OwnExc X.K C bm)(hc:X.calm=true)(hm:X.mg c=some (.ref C))(hg:Gl X c:=by rfl)(hd:(c == ("__debug__" : Str))=false:=by decide) :
  pi X (.Raise (some (.Call (.Name c np) [.Constant (.str msg) j p1] [] cpos)) none pos) (xh c):=by
 intro pins s σ H D I ⟨Z,B,M,E,k⟩
 have k:XA X M.u H c:=k;obtain⟨nm,q,N,bs,hdct,sn,sub,ab,col,dd,k0,k1,k2,k3,k5,mN,hC,hN,hni,T⟩:=O.at_ s.heap I.kIn;refine wpAny_Raise_call_subU (C:=C) (mN:=mN) (nm:=nm) (q:=q) (N:=N) (bs:=bs) (hdct:=hdct) (sn:=sn) (sub:=sub) (ab:=ab) (col:=col) (dd:=dd) (k0:=k0) (k1:=k1) (k2:=k2) (k3:=k3) (k5:=k5) M7 (Bn:="ValueError") (by decide) M7 (O.base I.kIn) (I.ok.hd hc) (by rfl) hni (ny I hg hm ⟨rfl,?_⟩ hd)
 show wpAny _ _ (evalArgs (.ref C) true ((false,eval (.Constant (.str msg) j p1) X.env)::backTo cpos (Jz [] X.env)) []) _ _ s
 refine LS (LB (Calls.Constant_str (LK ?_)))
 refine⟨rfl,by show 1<=sizeLine;decide,hC,hN,T,λh' e hm'=>k pins _ _ ?_⟩
 obtain⟨t,ht,ht2,ht3⟩:=hm'.there
 have I':Inv X pins σ H { s with heap:=h',toks:=s.toks+1 }:=I.kept (t':=s.toks+1) λb o z=>hm'.keeps b o z
 refine⟨e,none,C,σ,H,rfl,hm,I',λb o z _=>z,?_,?_,⟨_,_,ht,rfl,rfl,rfl⟩,(λt z=>by cases z),λp hp=>⟨λz=> ?_,λz=>by cases z⟩⟩
 ·exact t9 I hm'.new
 ·exact λhex=>rO I hex hm'.new
 ·have:=(I.pin p hp).1
  rw[z,show s.heap.get? e=none from hm'.new]at this
  cases this
end
section
variable {P:JI}{w:Kr}{K:IX}{mg:Str->Option Je}{base:Heap}
theorem Fd {x qual:Str}{st:Stmt}{f:Addr}{fd:KS}{N ps:List Str}{k n:Nat}{g:List T->Rs T}(Fn:L2.Fun K x qual st f fd)(S:ay N ps (ak st))(hn:ps.length=n)
  (hbody:∀(cdv:Je) (A:J9) (outer:List Env) (s:Jf) (H:Hp) (E:XK),Room k (A.deeper (envOfC qual (ak st) s.heap.objs.size f cdv)) →
   ∃F,(∀xe,ng ((mj CX0 P w K mg base N qual (ak st) f cdv A outer s H E).HF xe) (dX st) F)/\∀ts,ts.length=n->∀c,g ts= .err c->F (aO N.length ts)= .err c):FnX P w K mg base (k+1) f fd ps n g:=by
 intro A outer s H args us vs O ts c R hr e0 hb r rs trk hl hg hR
 have hpl:ps.length<=N.length:=by have:=congrArg Kn S.pre;rw[Ly]at this;omega
 obtain⟨oc,od,kV,doc,pm,an,cdv,ct,osl,rfl,lk,hcd⟩:=Fn.ex
 have hlen:vs.length=ps.length:=by rw[<-rs.length,hl,hn]
 have KX:K.In s.heap:=e0.mod.kin.keeps λb o e=>(e0.bs b o e).1
 have lim:s.heap.NoLimit:=e0.mod.nolimit.keeps λb o e=>(e0.bs b o e).1
 have hkind:∀y∈ps.zip us,(ak st).names.lookup y.1=some .local\/((ak st).names.lookup y.1=some .cell/\((Lz (s.heap.objs.size+1) (ak st).names []).lookup y.1).isSome=true):=λ⟨n,v⟩ hy=>by
  rcases S.par n (MT hy).1 with q | q
  ·exact .inl q
  ·exact .inr ⟨q,Mj _ _ _ (.inl q)⟩
 refine Oh hr.depth (KX _ _ lk) rfl S.co S.gen rfl (OM KX hcd) (hb _ _ _ _ ?_)
 refine Na S.kind hkind λenv he s1 x=> ?_
 subst he;refine⟨lim.keeps x.toInCall.keep,codeAny_func ?_⟩
 obtain⟨F,hF,hv⟩:=hbody cdv A outer s H E0 (hr.deeper _)
 let xe:Je->Jf->Prop:=λev s'=>wpAny (model P w) (A.deeper (envOfC qual (ak st) s.heap.objs.size f cdv)) (leaving (envOfC qual (ak st) s.heap.objs.size f cdv) ev) (λ_ s''=>R (.error ev) s'') (λe' s''=>R (.error e') s'') s'
 have I:Inv ((mj CX0 P w K mg base N qual (ak st) f cdv A outer s H E0).HF xe) [] (start N vs) H s1:=(qm S hr.hd e0 hlen r x).HF _
 have no:∀a,¬noM.u a:=λa ⟨_,z⟩=>z
 refine Ln (hF xe [] s1 (start N vs) H { nx:=λ_ _=>False,rt:=λ_ _=>False,bk:=λ_ _=>False,ct:=λ_ _=>False } I ⟨aO N.length ts,O,noM,pY rs (by omega) trk,?_⟩) (λfl s' z=> ?_) λe s' hs=>hs
 rotate_left
 ·cases fl with
  | next=>obtain⟨_,_,_,z⟩:=z;exact z.elim
  | cont=>obtain⟨_,_,_,z⟩:=z;exact z.elim
  | brk=>obtain⟨_,_,_,z⟩:=z;exact z.elim
  | ret v=>obtain⟨_,_,_,_,_,z⟩:=z;exact z.elim
 rw[hv ts hl c hg];intro pins ev s' w'
 show wpAny _ _ _ _ _ _
 obtain⟨e,T,C,σ',H',rfl,hm,I',sm,he,heo,fl,hT,_⟩:=w'
 have heo:=heo rfl
 have hT:∀t,T=some t->H' t=none/\s.heap.get? t=none:=λt z=>⟨(hT t z).1,(hT t z).2 rfl⟩
 refine EK (base:=base) (outer:=outer) (L:=s.heap.objs.size) I'.ok.frames I'.stack rfl fl λh' T' g=>hR _ _ ?_
 have hex:((mj CX0 P w K mg base N qual (ak st) f cdv A outer s H E0).HF xe).ex= []:=rfl
 have Tn:H' T'=none/\s.heap.get? T'=none:=by
  rcases g.new with z | z
  ·exact hT T' z
  ·exact⟨t9 I' z,rO I' hex z⟩
 have out:∀b o,s.heap.get? b=some o->b≠s.heap.objs.size:=λb o q z=>by
  have:=Jn q;rw[z]at this;exact absurd this (JK _)
 have mem:∀b,b∈se ((envOfC qual (ak st) s.heap.objs.size f cdv)::outer)->b=s.heap.objs.size\/b∈se outer:=λb z=>by
  have z':b∈s.heap.objs.size::se outer:=z;exact Jh.mp z'
 have ne:∀b o,s.heap.get? b=some o->b≠e/\T≠some b:=λb o q=>⟨λz=>(by subst z;rw[show s.heap.get? b=none from heo]at q;cases q),λz=>(by rw[show s.heap.get? b=none from(hT b z).2]at q;cases q)⟩
 have keepH:∀b u,H' b≠none->s'.heap.get? b=some u->h'.get? b=some u:=λb u hb q=>by
  refine g.keep b u (λz=>hb (I'.H0 b z)) (λz=>hb (by rw[z];exact he)) (λz=>hb (hT b z).1) q
 refine⟨e,T',C,H',rfl,hm,I'.os,I'.bare,⟨λb o q n hb hx=> ?_,λb o q n hb hx=> ?_,λb o q n hx=>I'.base.free b o q n hx,λb o q hx=> ?_,I'.base.tups,I'.base.frzs,I'.base.tbls⟩,λa o q=> ?_,λb o q=>sm b o q (no b),he,heo,g.flt,Tn.1,Tn.2⟩
 ·exact g.keep b o (λz=>(mem b z).elim (out b o q) hb) (ne b o q).1 (ne b o q).2 (I'.base.keep b o q n hb hx)
 ·obtain⟨sl,q1⟩:=I'.base.slot b o q n hb hx
  obtain⟨sl',q2⟩:=g.slot b _ (IZ _ hb) q1;exact⟨sl',q2⟩
 ·obtain⟨o',q1⟩:=I'.base.there b o q hx
  by_cases z:b∈se ((envOfC qual (ak st) s.heap.objs.size f cdv)::outer)
  ·obtain⟨sl,q2⟩:=g.slot b o' z q1
   exact⟨_,q2⟩
  ·exact⟨o',g.keep b o' z (ne b o q).1 (ne b o q).2 q1⟩
 ·refine(I'.hok a o q).HU (λb u hb z=>keepH b u ?_ z) (λ_ z=>z) λ_ _ z=>z
  rcases hb with rfl | hb
  ·rw[q];simp
  ·rw[hb];simp
end
theorem Bc {n m:Nat}{F:En->Rs Fl}{ts:List T}{c:Str}(h:val n m F ts= .err c):F (aO m ts)= .err c:=by
 unfold val at h
 split at h
 ·unfold bR at h
  cases z:F (aO m ts)with
  | bad=>rw[z]at h;cases h
  | err c'=>rw[z]at h;cases h;rfl
  | ok f=>
   rw[z,az]at h;cases f <;> cases h
 ·cases h
section
variable {P:JI}{w:Kr}{K:IX}{mg:Str->Option Je}{base:Heap}
theorem Fe {x qual:Str}{st:Stmt}{f:Addr}{fd:KS}{N ps:List Str}{k n:Nat}{F:En->Rs Fl}(Fn:L2.Fun K x qual st f fd)(S:ay N ps (ak st))(hn:ps.length=n)
  (hbody:∀(cdv:Je) (A:J9) (outer:List Env) (s:Jf) (H:Hp) (E:XK),Room k (A.deeper (envOfC qual (ak st) s.heap.objs.size f cdv)) →
   ∀xe,ng ((mj CX0 P w K mg base N qual (ak st) f cdv A outer s H E).HF xe) (dX st) F):Fz P w K mg base (k+1) f fd ps n (val n N.length F):=
 ⟨GW Fn S hn λcdv A outer s H E hr=>⟨F,hbody cdv A outer s H E hr _,λts _ _ h=>Dm h⟩,Fd Fn S hn λcdv A outer s H E hr=>⟨F,hbody cdv A outer s H E hr,λts _ c h=>Bc h⟩⟩
end
section
variable {X:Cx}{a:Expr}{fa:En->Rs T}{pos p:Pos}{x:Str}
theorem F5:pi X (.Continue pos) C0:=PS.imp tN λD σ H ⟨Z,B,M,E,h⟩=>h σ H M (λ_ _ e _=>e) E λa z=> .inl z
end
def calmNames:List Str:=["__init__","__getattribute__","__getattr__","__class__"]
inductive OTail (h:Heap):List Je->Prop
 | base:OTail h uL
 | own {A:Addr} {c0:Je} {dd:Option Addr} {cd:ClassData} {sl:Array (Option Je)} {mA:Str->Option Je} {tl:List Je} :
   h.get? A=some { cls:=c0,dict:=dd,data:=.cls cd,slots:=sl }->h.Ns cd.ns mA->(∀n∈calmNames,mA n=none)->OTail h tl->OTail h (.ref A::tl)
theorem OTail.tail {h:Heap}{tl:List Je}(T:OTail h tl):OwnTail h uL tl:=by
 induction T with
 | base=>exact .base
 | own hA hN hq _ ih=>exact .own hA hN (hq _ (.head _)) ih
structure OX (K:IX)(C:Addr)(bm:List Je):Prop where
 at_:∀h:Heap,K.In h->∃nm q N bs hdct sn sub ab col dd k0 k1 k2 k3 k5 mN,h.get? C=some (MY nm q C N bs bm hdct sn sub ab col dd k0 k1 k2 k3 k5 "ValueError.__new__")/\h.Ns N mN/\(∀n∈calmNames,mN n=none)/\OTail h bm
theorem OX.own {K:IX}{C:Addr}{bm:List Je}(O:OX K C bm):OwnExc K C bm:=⟨λh k=>by
 obtain⟨nm,q,N,bs,hdct,sn,sub,ab,col,dd,k0,k1,k2,k3,k5,mN,h1,h2,h3,h4⟩:=O.at_ h k;exact⟨nm,q,N,bs,hdct,sn,sub,ab,col,dd,k0,k1,k2,k3,k5,mN,h1,h2,h3 _ (.head _),h4.tail⟩⟩
def yy:Je->Bool
 | .str _ _=>true
 | _=>false
theorem Gz {K:IX}{N:Addr}{ob:Je}{oe:Option Addr}{es:Array MC}{n:Nat}{oz:Array (Option Je)}(r:K.lookup N=some ⟨ob,oe,.dict es n,oz⟩)(s:(es.toList.all λe=>yy e.key)=true)
  (u0:Mw K N "__init__" =some none) (u1:Mw K N "__getattribute__" =some none) (u2:Mw K N "__getattr__" =some none) (u3:Mw K N "__class__" =some none) :
  ∀h:Heap,K.In h->∃mN,h.Ns N mN/\∀n∈calmNames,mN n=none:=λh k=>by
 refine⟨nsFind es,⟨_,es,n,k _ _ r,rfl,λe he=> ?_,λ_=>rfl⟩,λx hx=> ?_⟩
 ·have:=JH.mp s e (by simpa using he)
  cases q:e.key <;> rw[q]at this <;> first | exact⟨_,_,rfl⟩ | cases this
 ·have key:∀x,Mw K N x=some none->nsFind es x=none:=λx u=>by
   unfold Mw at u;rw[r]at u;simp only at u
   split at u
   ·cases u
   ·rename_i he
    unfold nsFind findBy;rw[<-OP,he];rfl
  unfold calmNames at hx;simp only[Jh,J1,or_false]at hx;rcases hx with rfl | rfl | rfl | rfl
  ·exact key _ u0
  ·exact key _ u1
  ·exact key _ u2
  ·exact key _ u3
section
variable {K:IX}{nm q:Str}{C N:Addr}{bs:List Je}{hdct:Bool}{sn:List Str}{sub:List Je}{ab:Bool}{col:Option Bool}{dd:Option Addr}{k0 k1 k2 k3 k5:Option Je}
variable {nm' q':Str}{D N':Addr}{bs':List Je}{hdct':Bool}{sn':List Str}{sub':List Je}{ab':Bool}{col':Option Bool}{dd':Option Addr}{k0' k1' k2' k3' k5':Option Je}
theorem BY (w:K.lookup C=some (MY nm q C N bs uL hdct sn sub ab col dd k0 k1 k2 k3 k5 "ValueError.__new__"))(ns:∀h:Heap,K.In h->∃mN,h.Ns N mN/\∀n∈calmNames,mN n=none):OX K C uL:=⟨λh k=>by
 obtain⟨mN,h1,h2⟩:=ns h k;exact⟨nm,q,N,bs,hdct,sn,sub,ab,col,dd,k0,k1,k2,k3,k5,mN,k _ _ w,h1,h2,.base⟩⟩
theorem zi (w:K.lookup C=some (MY nm q C N bs (.ref D::uL) hdct sn sub ab col dd k0 k1 k2 k3 k5 "ValueError.__new__"))(ns:∀h:Heap,K.In h->∃mN,h.Ns N mN/\∀n∈calmNames,mN n=none)
  (wD:K.lookup D=some (MY nm' q' D N' bs' uL hdct' sn' sub' ab' col' dd' k0' k1' k2' k3' k5' "ValueError.__new__")) (nsD:∀h:Heap,K.In h->∃mN,h.Ns N' mN/\∀n∈calmNames,mN n=none):OX K C (.ref D::uL):=⟨λh k=>by
 obtain⟨mN,h1,h2⟩:=ns h k;obtain⟨mD,d1,d2⟩:=nsD h k;exact⟨nm,q,N,bs,hdct,sn,sub,ab,col,dd,k0,k1,k2,k3,k5,mN,k _ _ w,h1,h2,.own (k _ _ wD) d1 d2 .base⟩⟩
end
end Tr
namespace L2
open PySem PySem.Spec PyProof.Rows
section
variable {κ:Type}[DecidableEq κ]
def iw (kvs:List (κ×V))(k:κ):Option V:=(kvs.find? λkv=>decide (kv.1=k)).map (·.2)
def df (kvs:List (κ×V))(k:κ)(v:V):List (κ×V):=
 if (kvs.any λkv=>decide (kv.1=k))=true then kvs.map (λkv=>if kv.1=k then(kv.1,v)else kv)else kvs++ [(k,v)]
theorem yp {k:κ}:iw ([]:List (κ×V)) k=none:=rfl
theorem gH {p:κ×V}{r:List (κ×V)}{k:κ}(e:p.1=k):iw (p::r) k=some p.2:=by simp[iw,LG,e]
theorem gI {p:κ×V}{r:List (κ×V)}{k:κ}(e:¬ p.1=k):iw (p::r) k=iw r k:=by simp[iw,LG,e]
theorem sR (k:κ):∀kvs:List (κ×V),(kvs.any λkv=>decide (kv.1=k))=(iw kvs k).isSome
 | [] =>rfl
 | p::r=>by
  rw[Lu]
  by_cases e:p.1=k
  ·simp only[gH e,decide_eq_true e,Bool.true_or,OR]
  ·rw[gI e,decide_eq_false e,Nz];exact sR k r
theorem fg (kvs:List (κ×V))(k:κ)(v:V):(df kvs k v).length<=kvs.length+1:=by
 unfold df;split
 ·rw[Jd];omega
 ·rw[Jj,Ji,N4];omega
theorem RelO.HS {o:Option V}{u:Option Je}(r:RelO o u):o.isSome=u.isSome:=by
 cases o with
 | none=>cases u with
  | none=>rfl
  | some _=>exact(show False from r).elim
 | some _=>cases u with
  | none=>exact(show False from r).elim
  | some _=>rfl
theorem RelO.getD {o:Option V}{u:Option Je}{d:V}{d':Je}(r:RelO o u)(rd:RelV d d'):RelV (o.getD d) (u.getD d'):=by
 cases o with
 | none=>cases u with
  | none=>exact rd
  | some _=>exact(show False from r).elim
 | some _=>cases u with
  | none=>exact(show False from r).elim
  | some _=>exact r
theorem KV.val {kvs:List (κ×V)}{vs:List (κ×Je)}(r:KV kvs vs)(k:κ):RelO (iw kvs k) (valueAt vs k):=by
 unfold KV at r
 induction r with
 | nil=>exact Lh
 | @cons p q ps qs h t ih=>
  obtain⟨h1,h2⟩:=h
  by_cases e:p.1=k
  ·have e':q.1=k:=h1.symm.trans e
   have b:valueAt (q::qs) k=some q.2:=by simp[valueAt,LG,e']
   rw[gH e,b];exact h2
  ·have e':¬ q.1=k:=λz=>e (h1.trans z)
   have b:valueAt (q::qs) k=valueAt qs k:=by simp[valueAt,LG,e']
   rw[gI e,b];exact ih
theorem KV.any {kvs:List (κ×V)}{vs:List (κ×Je)}(r:KV kvs vs)(k:κ):(kvs.any λkv=>decide (kv.1=k))=vs.any λkv=>decide (kv.1=k):=by
 unfold KV at r
 induction r with
 | nil=>rfl
 | cons h t ih=>rw[Lu,Lu,ih,h.1]
theorem KV.IC {kvs:List (κ×V)}{vs:List (κ×Je)}(r:KV kvs vs)(k:κ){y:V}{u:Je}(ry:RelV y u) :
  KV (kvs.map λkv=>if kv.1=k then(kv.1,y)else kv) (vs.map λkv=>if kv.1=k then(kv.1,u)else kv):=by
 unfold KV at r ⊢
 induction r with
 | nil=>exact .nil
 | @cons p q ps qs h t ih=>
  rw[Jb,Jb];refine .cons ?_ ih
  obtain⟨h1,h2⟩:=h
  by_cases e:p.1=k
  ·rw[if_pos e,if_pos (h1.symm.trans e)];exact⟨h1,ry⟩
  ·rw[if_neg e,if_neg (λz=>e (h1.trans z))];exact⟨h1,h2⟩
theorem KV.put {kvs:List (κ×V)}{vs:List (κ×Je)}(r:KV kvs vs)(k:κ){y:V}{u:Je}(ry:RelV y u):KV (df kvs k y) (stored vs k u):=by
 unfold df stored;rw[r.any k]
 by_cases e:(vs.any λkv=>decide (kv.1=k))=true
 ·rw[if_pos e,if_pos e];exact r.IC k ry
 ·rw[if_neg e,if_neg e];exact Paired.snoc r ⟨rfl,ry⟩
theorem KV.length {kvs:List (κ×V)}{vs:List (κ×Je)}(r:KV kvs vs):kvs.length=vs.length:=L9 r
end
theorem uo {P:JI}{w:Kr}{k:Key}{u:Je}(r:RelV (kV k) u):(cH P w).is k u=true:=by
 cases k with
 | inl i=>obtain⟨t,e⟩:=(show ∃t,u=KL i t from r);subst e;exact ue P w i t
 | inr x=>obtain⟨t,e⟩:=(show ∃t,u=KM x t from r);subst e;exact ud P w x t
theorem ql {P:JI}{w:Kr}:∀{ks:List Key} {us:List Je},Vals (ks.map kV) us->ItemsAre (cH P w) ks us
 | [],_,r=>by rw[L5]at r;cases r;exact .nil
 | k::ks,_,r=>by
  rw[Jb]at r
  cases r with
  | cons h t=>exact .cons (uo h) (ql t)
abbrev KT (H:Hp):List (List Key×V)->List (List Key×Addr×Je)->Prop:=Qq λp q=>p.1=q.1/\H q.2.1=some (.tup (p.1.map kV))/\RelV p.2 q.2.2
theorem KT.val {H:Hp}{kvs:List (List Key×V)}{xs:List (List Key×Addr×Je)}(r:KT H kvs xs)(k:List Key):RelO (iw kvs k) ((atKey xs k).map (·.2)):=by
 induction r with
 | nil=>exact Lh
 | @cons p q ps qs h t ih=>
  obtain⟨h1,_,h2⟩:=h
  by_cases e:p.1=k
  ·have e':q.1=k:=h1.symm.trans e
   have b:atKey (q::qs) k=some q.2:=by simp[atKey,LG,e']
   rw[gH e,b];exact h2
  ·have e':¬ q.1=k:=λz=>e (h1.trans z)
   have b:atKey (q::qs) k=atKey qs k:=by simp[atKey,LG,e']
   rw[gI e,b];exact ih
theorem KT.IC {H:Hp}{kvs:List (List Key×V)}{xs:List (List Key×Addr×Je)}(r:KT H kvs xs)(k:List Key){y:V}{u:Je}(ry:RelV y u) :
  KT H (kvs.map λkv=>if kv.1=k then(kv.1,y)else kv) (xs.map (putAt k u)):=by
 induction r with
 | nil=>exact .nil
 | @cons p q ps qs h t ih=>
  rw[Jb,Jb];refine .cons ?_ ih
  obtain⟨h1,h2,h3⟩:=h;unfold putAt
  by_cases e:p.1=k
  ·rw[if_pos e,if_pos (h1.symm.trans e)];exact⟨h1,h2,ry⟩
  ·rw[if_neg e,if_neg (λz=>e (h1.trans z))];exact⟨h1,h2,h3⟩
theorem KT.put {H:Hp}{kvs:List (List Key×V)}{xs:List (List Key×Addr×Je)}(r:KT H kvs xs)(k:List Key){b:Addr}{y:V}{u:Je}(hb:H b=some (.tup (k.map kV)))(ry:RelV y u) :
  KT H (df kvs k y) (storedH xs k b u):=by
 have e:(kvs.any λkv=>decide (kv.1=k))=(atKey xs k).isSome:=by
  rw[sR,(r.val k).HS,Po]
 unfold df storedH;rw[e]
 by_cases q:(atKey xs k).isSome=true
 ·rw[if_pos q,if_pos q];exact r.IC k ry
 ·rw[if_neg q,if_neg q];exact Paired.snoc r ⟨rfl,hb,ry⟩
theorem KT.keeps {H H':Hp}{kvs:List (List Key×V)}{xs:List (List Key×Addr×Je)}(r:KT H kvs xs)(ht:∀b ys,H b=some (.tup ys)->H' b=some (.tup ys)):KT H' kvs xs:=
 Paired.IB r λ_ _ z=>⟨z.1,ht _ _ z.2.1,z.2.2⟩
section
variable {P:JI}{w:Kr}{H:Hp}{h:Heap}{a:Addr}
theorem n6 {u:HO}(ok:HOk P w H h)(e:Rd H a u):ObjOk P w H h a u:=e.ok ok
theorem qy {kvs:List (Key×V)}(ok:HOk P w H h)(e:Rd H a (.dK kvs)):kvs.length<=sizeLine/\(a == Lm)=false/\∃vs,KV kvs vs/\h.DictOf (cH P w) a vs:=
 show ObjOk P w H h a (.dK kvs)from n6 ok e
theorem G1 {kvs:List (Key×V)}(ok:HOk P w H h)(e:H a=some (.dK kvs)):kvs.length<=sizeLine/\(a == Lm)=false/\∃vs,KV kvs vs/\h.DictOf (cH P w) a vs:=qy ok (.inl e)
theorem kN {ks:List Key}(ok:HOk P w H h)(e:H a=some (.tup (ks.map kV))):(MD (cH P w)).is h ks a:=by
 obtain⟨_,its,r,o,h1,h2,n,h3⟩:=(show ObjOk P w H h a (.tup (ks.map kV))from ok a _ e)
 exact⟨o,its.toArray,n,h1,h2,h3,by simpa using ql r⟩
theorem qw {kvs:List (List Key×V)}(ok:HOk P w H h)(e:Rd H a (.dT kvs)):kvs.length<=sizeLine/\(a == Lm)=false ∧
  ∃xs,KT H kvs xs/\h.DictOfH (MD (cH P w)) a xs:=by
 obtain⟨z,y,xs,r,o,es,ep,h1,h2,h3,h4,h5⟩:=(show ObjOk P w H h a (.dT kvs)from n6 ok e)
 refine⟨z,y,xs,r,o,es,ep,h1,h2,h3,h4,λx hx=> ?_,h5⟩
 have all:∀{l:List (List Key×V)} {m:List (List Key×Addr×Je)},KT H l m->∀x∈m,(MD (cH P w)).is h x.1 x.2.1:=by
  intro l m q
  induction q with
  | nil=>intro x hx;exact nomatch hx
  | @cons p q ps qs hq t ih=>
   intro x hx;rcases Jh.mp hx with e | hx
   ·subst e
    exact kN ok (by rw[<-hq.1];exact hq.2.1)
   ·exact ih x hx
 exact all r x hx
theorem wI {kvs:List (List Key×V)}(ok:HOk P w H h)(e:H a=some (.dT kvs)):kvs.length<=sizeLine/\(a == Lm)=false ∧
  ∃xs,KT H kvs xs/\h.DictOfH (MD (cH P w)) a xs:=qw ok (.inl e)
end
def DGet (H:Hp)(a:Addr)(y:V)(r:Option V):Prop:=
 (∃kvs k,Rd H a (.dK kvs)/\y=kV k/\r=iw kvs k)\/∃kvs k b,Rd H a (.dT kvs)/\y= .ref b/\H b=some (.tup (k.map kV))/\r=iw kvs k
def DPut (H:Hp)(a:Addr)(y v:V)(H':Hp):Prop:=
 (∃kvs k,H a=some (.dK kvs)/\y=kV k/\kvs.length<sizeLine/\H'=upd H a (.dK (df kvs k v))) ∨
 ∃kvs k b,H a=some (.dT kvs)/\y= .ref b/\H b=some (.tup (k.map kV))/\kvs.length<sizeLine/\H'=upd H a (.dT (df kvs k v))
theorem DGet.t {H:Hp}{a b:Addr}{kvs:List (List Key×V)}{k:List Key}(e:H a=some (.dT kvs))(eb:H b=some (.tup (k.map kV))):DGet H a (.ref b) (iw kvs k):=.inr ⟨kvs,k,b,.inl e,rfl,eb,rfl⟩
theorem DPut.t {H:Hp}{a b:Addr}{kvs:List (List Key×V)}{k:List Key}{v:V}(e:H a=some (.dT kvs))(eb:H b=some (.tup (k.map kV)))(hl:kvs.length<sizeLine) :
  DPut H a (.ref b) v (upd H a (.dT (df kvs k v))):=.inr ⟨kvs,k,b,e,rfl,eb,hl,rfl⟩
section
variable {X:Cx}{pins:List (Addr×Obj)}{σ:St}{H:Hp}{s:Jf}{a:Addr}{y v:V}{u r:Je}{o:Option V}{A:J9}{E:Je->Jf->Prop}
theorem Inv.big (I:Inv X pins σ H s):Lm<s.heap.objs.size:=by
 have h:J7<s.heap.objs.size:=(I.mod.glob.keeps I.bk).lt;exact Nat.lt_trans (by decide) h
theorem xV {Q:Je->Jf->Prop}(hu:A.units+1<cLine)(I:Inv X pins σ H s)(g:DGet H a y (some v))(ry:RelV y u)(h:∀w' s',Inv X pins σ H s'->RelV v w'->Q w' s') :
  wpAny (model X.prog X.w) A (getItem (.ref a) u) Q E s:=by
 rcases g with⟨kvs,k,e,ey,l⟩ | ⟨kvs,k,b,e,ey,eb,l⟩
 ·subst ey
  obtain⟨z,hd,vs,rel,dd⟩:=qy I.hok e;obtain⟨w',hw,rw'⟩:=RelO.some_of (v:=v) (o:=valueAt vs k) (by rw[l];exact rel.val k)
  exact wpAny_getItem_of (uo ry) dd.mapOf hw (h w' _ (I.tok _) rw')
 ·subst ey
  cases (show u=JF b from ry)
  obtain⟨z,hd,xs,rel,dd⟩:=qw I.hok e;obtain⟨w',hw,rw'⟩:=RelO.some_of (v:=v) (o:=(atKey xs k).map (·.2)) (by rw[l];exact rel.val k)
  obtain⟨p,hp,hp2⟩:=KD.mp hw;refine wpAny_getItem_heap (K9 hu) (kN I.hok eb) dd hp ?_
  rw[hp2];exact h w' _ (I.tok _) rw'
theorem d_in {Q:Je->Jf->Prop}(hu:A.units+1<cLine)(I:Inv X pins σ H s)(g:DGet H a y o)(ry:RelV y u)(h:∀s',Inv X pins σ H s'->Q (.bool o.isSome) s') :
  wpAny (model X.prog X.w) A (JY .In u (.ref a)) Q E s:=by
 rcases g with⟨kvs,k,e,ey,l⟩ | ⟨kvs,k,b,e,ey,eb,l⟩
 ·subst ey
  obtain⟨z,hd,vs,rel,dd⟩:=qy I.hok e;refine wpAny_in_of (uo ry) hd dd.mapOf ?_
  rw[<-(rel.val k).HS,<-l];exact h _ (I.tok _)
 ·subst ey
  cases (show u=JF b from ry)
  obtain⟨z,hd,xs,rel,dd⟩:=qw I.hok e;refine wpAny_in_heap (K9 hu) (kN I.hok eb) hd dd ?_
  have q:=(rel.val k).HS;rw[Po]at q;rw[<-q,<-l];exact h _ (I.tok _)
theorem lM {h':Heap}{t':Nat}{ob:HO}(I:Inv X pins σ H s)(mu:Ha (H a))(hs:LC a s.heap h')(he:∃q,h'.get? a=some q)(new:ObjOk X.prog X.w (upd H a ob) h' a ob) :
  Inv X pins σ (upd H a ob) { s with heap:=h',toks:=t' }:=
 I.write (x:=a) (e:=a) mu (.inl rfl) (λb q hb z=>(hs.2 b hb).trans z) he new
theorem Fp {P:JI}{w:Kr}{H':Hp}{h':Heap}{kvs:List (Key×V)}{vs:List (Key×Je)}(z:kvs.length<=sizeLine)(hd:(a == Lm)=false)(rel:KV kvs vs)(dd:h'.DictOf (cH P w) a vs) :
  ObjOk P w H' h' a (.dK kvs):=⟨z,hd,vs,rel,dd⟩
theorem xU {H':Hp}{Q:Unit->Jf->Prop}(hu:A.units+1<cLine)(I:Inv X pins σ H s)(g:DPut H a y v H')(ry:RelV y u)(rv:RelV v r)(h:∀s',Inv X pins σ H' s'->Q () s') :
  wpAny (model X.prog X.w) A (setItem (.ref a) u r) Q E s:=by
 rcases g with⟨kvs,k,e,ey,l,eH⟩ | ⟨kvs,k,b,e,ey,eb,l,eH⟩
 ·subst ey eH
  obtain⟨z,hd,vs,rel,dd⟩:=G1 I.hok e
  have hz:vs.length<=sizeLine:=by rw[<-rel.length];exact z
  have hl:(df kvs k v).length<=sizeLine:=by have:=fg kvs k v;omega
  refine wpAny_setItem_pairs (hsz:=hz) (uo ry) dd λh' dd' hs=>h _ ?_
  have he:∃q,h'.get? a=some q:=let ⟨q,_,_,hq,_⟩:=dd';⟨q,hq⟩
  exact lM I (by rw[e];exact Lh) hs he (Fp hl hd (rel.put k rv) dd')
 ·subst ey eH
  cases (show u=JF b from ry)
  obtain⟨z,hd,xs,rel,dd⟩:=wI I.hok e
  have hz:xs.length<=sizeLine:=by rw[<-L9 rel];exact z
  have hl:(df kvs k v).length<=sizeLine:=by have:=fg kvs k v;omega
  refine wpAny_setItem_heap (hsz:=hz) (K9 hu) (kN I.hok eb) dd λh' dd' hs=>h _ ?_
  obtain⟨q,es,ep,hq,h2,h3,h4,_,h5⟩:=dd';refine lM I (by rw[e];exact Lh) hs ⟨q,hq⟩ ⟨hl,hd,_,(rel.put k eb rv).keeps λc ys ec=> ?_,q,es,ep,hq,h2,h3,h4,h5⟩
  rw[aF (jz ec e (λz=>nomatch z))]
  exact ec
end
def x9 (i:Expr):Prop:=∀ov iv,OJ i false ov iv=operate [ov,iv] (getItem ov iv)
theorem Bi {prog:JI}{w:Kr}{A:J9}{E:Je->Jf->Prop}{s:Jf}{env:Env}{value slice:Expr}{pos:Pos}{T id:String}{Q:Je->Jf->Prop}
  (hl:Nt (.type T) "__getitem__" =pure (some (.builtin id))) (hs:x9 slice)
  (h:wpAny (model prog w) A (eval value env) (λo s₁=>wpAny (model prog w) A (eval slice env) (λi s₂=>s₂.TypeIs o T/\wpAny (model prog w) A (getItem o i) Q E s₂) E s₁) E s) :
  wpAny (model prog w) A (eval (.Subscript value slice pos) env) Q E s:=by
 refine Subscript_ (Ln h (λo s₁ h₁=>Ln h₁ (λi s₂ h₂=> ?_) λ_ _ x=>x) λ_ _ x=>x)
 obtain⟨hT,h₂⟩:=h₂;unfold Pc;refine IW ?_
 rw[getitemInPython_of_ne hT.not_modules];refine IW (wpAny_specialOf hT hl ?_)
 have fin:wpAny (model prog w) A (OJ slice false o i) (λr s₃=>wpAny (model prog w) A (letTemporaryGo value o r >>= λ_=>pure r) Q E s₃) E s₂:=by
  rw[hs o i];exact wpAny_operating (Ln h₂ (λr s₃ h₃=>IW (wpAny_letTemporaryGo (Jg h₃))) λ_ _ x=>x)
 first
  | exact Jg (IW fin)
  | exact IW (Jg (IW fin))
  | exact IW fin
theorem uD {X:Cx}{pins:List (Addr×Obj)}{σ:St}{H:Hp}{s:Jf}{a:Addr}{y:V}{o:Option V}(I:Inv X pins σ H s)(g:DGet H a y o):s.TypeIs (.ref a) "dict":=by
 rcases g with⟨kvs,k,e,_,_⟩ | ⟨kvs,k,b,e,_,_,_⟩
 ·obtain⟨_,_,vs,_,dd⟩:=qy I.hok e
  exact dd.typeIs
 ·obtain⟨_,_,xs,_,dd⟩:=qw I.hok e
  exact dd.typeIs
def FP (td ty:TE):TE:=λσ H Q=>td σ H λx H1=>ty σ H1 λy H2=> ∃a v,x= .ref a/\DGet H2 a y (some v)/\Q v H2
def FT (td ty tv:TE):TS:=λD σ H=>tv σ H λv H1=>td σ H1 λx H2=>ty σ H2 λy H3=> ∃a H4,x= .ref a/\DPut H3 a y v H4/\D.nx σ H4
section
variable {X:Cx}{o i e value:Expr}{pos pos' tpos:Pos}{td ty tv:TE}
theorem vZ (hu:X.A.units+1<cLine)(ho:PE X o td)(hi:PE X i ty)(hs:x9 i):PE X (.Subscript o i pos) (FP td ty):=by
 intro pins s σ H Q I h;refine Bi PySem.F.slot_dict_getitem.lookup hs (cG (ho pins s σ H _ I h) λu s1 ⟨x,H1,I1,rx,q1⟩=>cG (hi pins s1 σ H1 _ I1 q1) λiv s2 hh_=> ?_)
 obtain⟨y,H2,I2,ry,a,v,ex,g,q2⟩:=hh_;subst ex;obtain rfl:u=JF a:=rx;exact⟨uD I2 g,xV hu I2 g ry λw' s3 I3 rw'=>⟨v,H2,I3,rw',q2⟩⟩
theorem vW (hu:X.A.units+1<cLine)(ho:PE X o td)(hi:PE X i ty)(hv:PE X value tv)(hs:Kj value (some (.Subscript o i pos')) pos.line X.env=pure false) :
  PS X (.Assign [.Subscript o i pos'] value pos) (FT td ty tv):=by
 intro pins s σ H D I h;refine wpAny_Assign_Subscript (cG (hv pins s σ H _ I h) λr s1 ⟨v,H1,I1,rv,q1⟩=>cG (ho pins s1 σ H1 _ I1 q1) λu s2 ⟨x,H2,I2,rx,q2⟩=>cG (hi pins s2 σ H2 _ I2 q2) λiv s3 ⟨y,H3,I3,ry,a,H4,ex,g,q3⟩=> ?_) hs
 subst ex;obtain rfl:u=JF a:=rx;exact xU hu I3 g ry rv λs4 I4=>⟨σ,H4,I4,q3⟩
end
theorem oX {P:JI}{w:Kr}{H:Hp}(h:Heap)(hb:Lm<h.objs.size):ObjOk P w H (h.push { cls:=.type "dict",data:=.dict #[] }) h.objs.size (.dT []):=
 ⟨Lc _,beq_eq_false_iff_ne.mpr (NW (KC hb)),[],.nil,_,#[],0,Jk _ rfl,⟨rfl,rfl,rfl⟩,rfl,rfl,K1⟩
structure M1 (X:Cx)(o:Expr)(m:Str)(apos:Pos)(e:Expr)(cpos:Pos):Prop where
 base:KI o m X.env (eval o X.env)=eval o X.env
 few:((backTo cpos (Jz [e] X.env)).all (λx=> !x.1)&&(backToKw cpos (Qm [] X.env)).all (λx=>x.1.isSome)
  &&decide (([e]:List Expr).length+([]:List Qn).length+(if ([]:List Qn).isEmpty then 0 else 1)<30))=true
 line:(apos.endLine == cpos.line)=true
 trees:backTo cpos (Jz [e] X.env)= [(false,eval e X.env)]
structure M2 (X:Cx)(o:Expr)(m:Str)(apos:Pos)(e f:Expr)(cpos:Pos):Prop where
 base:KI o m X.env (eval o X.env)=eval o X.env
 few:((backTo cpos (Jz [e,f] X.env)).all (λx=> !x.1)&&(backToKw cpos (Qm [] X.env)).all (λx=>x.1.isSome)
  &&decide (([e,f]:List Expr).length+([]:List Qn).length+(if ([]:List Qn).isEmpty then 0 else 1)<30))=true
 line:(apos.endLine == cpos.line)=true
 trees:backTo cpos (Jz [e,f] X.env)= [(false,eval e X.env),(false,eval f X.env)]
def IsD (H:Hp)(a:Addr):Prop:=(∃kvs,Rd H a (.dK kvs))\/∃kvs,Rd H a (.dT kvs)
theorem E7 {X:Cx}{pins:List (Addr×Obj)}{σ:St}{H:Hp}{s:Jf}{a:Addr}(I:Inv X pins σ H s)(d:IsD H a) :
  s.TypeIs (.ref a) "dict"/\(∀b,JF a= .ref b->∃ob,s.heap.get? b=some ob/\ob.dict=none)/\(a == Lm)=false:=by
 rcases d with⟨kvs,e⟩ | ⟨kvs,e⟩
 ·obtain⟨_,hd,vs,_,dd⟩:=qy I.hok e
  refine⟨dd.typeIs,λb q=> ?_,hd⟩
  cases q;obtain⟨ob,_,_,h1,h2,_⟩:=dd;exact⟨ob,h1,h2.2.1⟩
 ·obtain⟨_,hd,xs,_,dd⟩:=qw I.hok e
  refine⟨dd.typeIs,λb q=> ?_,hd⟩
  cases q;obtain⟨ob,_,_,h1,h2,_⟩:=dd;exact⟨ob,h1,h2.2.1⟩
section
variable {X:Cx}{pins:List (Addr×Obj)}{σ:St}{H:Hp}{s:Jf}{a:Addr}{y d:V}{u r:Je}{o:Option V}{A:J9}{E:Je->Jf->Prop}
theorem Fq {Q:Je->Jf->Prop}(hu:A.units+1<cLine)(I:Inv X pins σ H s)(g:DGet H a y o)(ry:RelV y u)(h:∀w' s',Inv X pins σ H s'->RelV (o.getD .non) w'->Q w' s') :
  wpAny (model X.prog X.w) A (call (.builtin "dict.get") [.ref a,u]) Q E s:=by
 rcases g with⟨kvs,k,e,ey,l⟩ | ⟨kvs,k,b,e,ey,eb,l⟩
 ·subst ey
  obtain⟨z,hd,vs,rel,dd⟩:=qy I.hok e;refine call_meetsIn Mx dd.typeIs NN (Nv _ _) (meets_dict_get (cH X.prog X.w) a (uo ry) hd) ⟨_,dd.mapOf,h _ _ (I.tok _) ?_⟩
  rw[l];exact(rel.val k).getD rfl
 ·subst ey
  cases (show u=JF b from ry)
  obtain⟨z,hd,xs,rel,dd⟩:=qw I.hok e;refine call_meetsIn Mx dd.typeIs NN (Nv _ _) (meetsH_dict_get (MD (cH X.prog X.w)) a b hd) ⟨K9 hu,k,xs,kN I.hok eb,dd,h _ _ (I.tok _) ?_⟩
  rw[l];exact(rel.val k).getD rfl
end
def Du (td ty:TE):TE:=λσ H Q=>td σ H λx H1=> ∃a,x= .ref a/\IsD H1 a/\ty σ H1 λy H2=> ∃o,DGet H2 a y o/\Q (o.getD .non) H2
section
variable {X:Cx}{o e f:Expr}{apos cpos:Pos}{td ty tx:TE}
theorem zg (hu:X.A.units+1<cLine)(ho:PE X o td)(he:PE X e ty)(m:M1 X o "get" apos e cpos):PE X (.Call (.Attribute o "get" apos) [e] [] cpos) (Du td ty):=by
 intro pins s σ H Q I h;refine wpAny_Call_method m.base m.few m.line PySem.F.plainAttrs_dict Mx PySem.F.type_dict_get (cG (ho pins s σ H _ I h) λu s1 hh_=> ?_)
 obtain⟨x,H1,I1,rx,a,ex,d,q1⟩:=hh_;subst ex;obtain rfl:u=JF a:=rx;obtain⟨t1,t2,_⟩:=E7 I1 d;refine⟨t1,t2,?_⟩
 rw[m.trees];refine Ml rfl (LS (LB (cG (he pins s1 σ H1 _ I1 q1) λiv s2 ⟨y,H2,I2,ry,ov,g,q2⟩=>LK ?_)))
 exact Fq hu I2 g ry λw' s3 I3 rw'=>⟨_,H2,I3,rw',q2⟩
end
end L2
namespace Tr
open PySem PySem.Spec PyProof.Rows L2
theorem DGet.Iz {H:Hp}{a b:Addr}{kvs:List (List Key×V)}{k:List Key}(e:Rd H a (.dT kvs))(eb:H b=some (.tup (k.map kV))):DGet H a (.ref b) (iw kvs k):=.inr ⟨kvs,k,b,e,rfl,eb,rfl⟩
theorem im {k:Nat}{A:J9}(h:Room k A):A.units+1<cLine:=by have:=h.un;omega
theorem oM {K:IX}{O:Ow}{H:Hp}:∀{l:List T} {vs:List V} {k:List Key},kO l=some k->Reps K O H l vs->vs=k.map kV
 | [],vs,k,h,r=>by cases Reps.HB.mp r;cases h;rfl
 | t::l,vs,k,h,r=>by
  obtain⟨v,ws,rfl,p,q⟩:=Reps.me.mp r;unfold kO at h
  cases e1:C9 t with
  | none=>rw[e1]at h;cases h
  | some a=>
   cases e2:kO l with
   | none=>rw[e1,e2]at h;cases h
   | some b=>
    rw[e1,e2]at h;cases h;rw[oM e2 q,Jb]
    congr 1
    cases t with
    | int i=>cases e1;exact Rep.HA.mp p
    | str x=>cases e1;exact Rep.HK.mp p
    | _=>cases e1
theorem gB {K:IX}{O:Ow}{H:Hp}{y:T}{v:V}{k:List Key}(h:aW y=some k)(r:Rep K O H y v):∃b,v= .ref b/\H b=some (.tup (k.map kV)):=by
 cases y with
 | tup l=>
  obtain⟨a,vs,e1,_,e3,e4⟩:=Rep.HC.mp r;rw[oM h e4]at e3
  exact⟨a,e1,e3⟩
 | _=>cases h
theorem lK {K:IX}{O:Ow}{H:Hp}{k:List Key}:∀{ks ts:List T} {kvs:List (List Key×V)},ks.map aW=kvs.map (λp=>some p.1)->Reps K O H ts (kvs.map (·.2))->match kf ks ts k with
  | some t=> ∃v,iw kvs k=some v/\Rep K O H t v
  | none=>iw kvs k=none
 | [],ts,kvs,h,r=>by
  cases kvs with
  | nil=>unfold kf;exact yp
  | cons _ _=>cases h
 | k'::ks,ts,kvs,h,r=>by
  cases kvs with
  | nil=>cases h
  | cons p kvs=>
   rw[Jb,Jb]at h;injection h with h1 h2
   rw[Jb]at r
   cases ts with
   | nil=>have:=Reps.HB.mp r;cases this
   | cons t ts=>
    obtain⟨v,ws,e,q1,q2⟩:=Reps.me.mp r;injection e with e1 e2
    subst e1 e2;unfold kf
    by_cases hk:aW k'=some k
    ·rw[if_pos hk]
     rw[h1]at hk;injection hk with hk
     exact⟨_,gH hk,q1⟩
    ·rw[if_neg hk]
     have hk2:¬ p.1=k:=λz=>hk (by rw[h1,z])
     rw[gI hk2];exact lK h2 q2
theorem rg {κ:Type}[DecidableEq κ]{k:κ}{p:κ×V}{r:List (κ×V)}{v:V}(h:¬ p.1=k):df (p::r) k v=p::df r k v:=by
 unfold df;rw[Lu,decide_eq_false h,Nz]
 by_cases q:(r.any λkv=>decide (kv.1=k))=true
 ·rw[if_pos q,if_pos q,Jb,if_neg h]
 ·rw[if_neg q,if_neg q];rfl
theorem rh {κ:Type}[DecidableEq κ]{k:κ}{p:κ×V}{r:List (κ×V)}{v:V}(h:p.1=k)(hn:∀q∈r,q.1≠k):df (p::r) k v=(p.1,v)::r:=by
 unfold df;rw[Lu,decide_eq_true h,Bool.true_or,if_pos rfl,Jb,if_pos h]
 congr 1
 conv=>rhs;rw[<-NA r]
 exact JE λq hq=>if_neg (hn q hq)
theorem lJ {K:IX}{O:Ow}{H:Hp}{kT vT:T}{k:List Key}{v:V}(hk:aW kT=some k)(hv:Rep K O H vT v):∀{ks ts:List T} {kvs:List (List Key×V)},ks.map aW=kvs.map (λp=>some p.1)->Reps K O H ts (kvs.map (·.2))->(kvs.map (·.1)).Nodup →
  (gD kT vT ks ts).1.map aW=(df kvs k v).map (λp=>some p.1)/\Reps K O H (gD kT vT ks ts).2 ((df kvs k v).map (·.2))
 | [],ts,kvs,h,r,_=>by
  cases kvs with
  | nil=>
   unfold gD;refine⟨?_,Reps.HG hv Reps.nil_⟩
   simp[df,hk]
  | cons _ _=>cases h
 | k'::ks,ts,kvs,h,r,hn=>by
  cases kvs with
  | nil=>cases h
  | cons p kvs=>
   rw[Jb,Jb]at h;injection h with h1 h2
   rw[Jb]at r;rw[Jb]at hn;obtain⟨n1,n2⟩:=JL.mp hn
   cases ts with
   | nil=>have:=Reps.HB.mp r;cases this
   | cons t ts=>
    obtain⟨v',ws,e,q1,q2⟩:=Reps.me.mp r;injection e with e1 e2
    subst e1 e2;unfold gD
    by_cases hz:aW k'=aW kT
    ·rw[if_pos hz]
     have hp:p.1=k:=by rw[hz,hk]at h1;injection h1 with h1;exact h1.symm
     rw[rh hp λq hq z=>n1 (by rw[hp,<-z];exact List.mem_map_of_mem hq)]
     exact⟨by rw[Jb,Jb,h1,h2],Reps.HG hv q2⟩
    ·rw[if_neg hz]
     have hp:¬ p.1=k:=λz=>hz (by rw[h1,z,hk])
     obtain⟨a1,a2⟩:=lJ hk hv h2 q2 n2;rw[rg hp];exact⟨by rw[Jb,Jb,h1,a1],Reps.HG q1 a2⟩
theorem CL {H:Hp}{kvs:List (List Key×V)}{xs:List (List Key×Addr×Je)}(rel:KT H kvs xs):kvs.map (·.1)=xs.map (·.1):=by
 induction rel with
 | nil=>rfl
 | cons h t ih=>rw[Jb,Jb,ih,h.1]
theorem uG {X:Cx}{pins:List (Addr×Obj)}{σ:L2.St}{H:Hp}{s:Jf}{a:Addr}{kvs:List (List Key×V)}(I:Inv X pins σ H s)(e:H a=some (.dT kvs)):(kvs.map (·.1)).Nodup/\kvs.length<=sizeLine:=by
 obtain⟨z,_,xs,rel,_,_,_,_,_,_,_,_,hn⟩:=wI I.hok e;rw[CL rel];exact⟨hn,z⟩
section
variable {X:Cx}{a b:Expr}{fa fb:En->Rs T}{pos:Pos}
theorem Gf (hu:X.A.units+1<cLine)(ha:cN X a fa)(hb:cN X b fb)(hs:x9 b:=by intro _ _;rfl):cN X (.Subscript a b pos) (o2 aL fa fb):=by
 refine PE.imp (vZ hu ha hb hs) λσ H Q ⟨Z,O,E,hq⟩=> ?_
 obtain⟨Z1,O1,E1,h1⟩:=aZ E hq;refine⟨Z1,O1,E1,Post.mono h1 λt H1 s1 q v r=> ?_⟩
 obtain⟨t',r',s',E',q'⟩:=q v r;obtain⟨Z2,O2,E2,h2⟩:=aZ (f:=fb) E' q';refine⟨Z2,O2,E2,Post.mono h2 λt2 H2 s2 q2 v2 r2=> ?_⟩
 obtain⟨t2',r2',s2',E2',q2'⟩:=q2 v2 r2
 have r'':=r'.same s2';unfold aL at q2'
 split at q2'
 ·rename_i ks vs k hk
  split at q2'
  ·rename_i x hx
   obtain⟨a,kvs,e1,e2,e3,e4,e5⟩:=Rep.HH.mp r'';obtain⟨b,f1,f2⟩:=gB hk r2'
   have g:=lK (k:=k) e4 e5;rw[hx]at g;obtain⟨w,g1,g2⟩:=g;exact⟨a,w,e1,by rw[f1,<-g1];exact DGet.Iz e3 f2,q2' H2 (Same.refl H2) w g2⟩
  ·exact q2'.elim
 ·exact q2'.elim
end
end Tr
namespace Tr
open PySem PySem.Spec PyProof.Rows L2
open PySem.SeqAt
theorem zE {A:J9}{s:Jf}{x:T}{ux:Je}(rx:ReV s x ux)(hu:A.units+60<cLine){l:List T}{us:List Je}(hd:x.dep<=60\/deps l<=60)(r:ReVs s l us) :
  ∃e:Je->Bool,(∀y∈us,EqAt A s y ux (e y))/\us.map e=l.map λt=>a6 t x:=by
 classical
 have ex:∀y∈us,∃t∈l,ReV s t y:=λy hy=>by
  obtain⟨i,hi,rfl⟩:=Ls hy
  have hl:=r.length
  have e1:l[i]? =some l[i]:=by simp
  obtain⟨u,q1,q2⟩:=r.get e1
  have:us[i]? =some us[i]:=by simp
  rw[this]at q1;cases q1;exact⟨l[i],KU _,q2⟩
 let e:Je->Bool:=λy=>decide (∃t∈l,ReV s t y/\a6 t x=true)
 have dep:∀t∈l,t.dep<=60\/x.dep<=60:=λt ht=>by
  rcases hd with h | h
  ·exact .inr h
  ·obtain⟨i,hi,rfl⟩:=Ls ht
   exact .inl (Ka (jH (i:=i) (by simp)) h)
 have uniq:∀y t t',ReV s t y->ReV s t' y->a6 t x=a6 t' x:=λy t t' z z'=>by
  rw[<-lO t,<-lO t',ReV.nf z z']
 have agree:∀y t,t∈l->ReV s t y->e y=a6 t x:=λy t h z=>by
  show decide (∃t∈l,ReV s t y/\a6 t x=true)=a6 t x
  cases q:a6 t x with
  | true=>exact decide_eq_true ⟨t,h,z,q⟩
  | false=>
   refine decide_eq_false ?_
   rintro ⟨t',h',z',q'⟩
   rw[<-uniq y t t' z z',q]at q';cases q'
 refine⟨e,λy hy=> ?_,?_⟩
 ·obtain⟨t,h,z⟩:=ex y hy
  rw[agree y t h z];exact(Cn 60 A s t x y ux (dep t h) hu z rx).1
 ·have go:∀(l':List T) (us':List Je),(∀t∈l',t∈l)->ReVs s l' us'->us'.map e=l'.map λy=>a6 y x:=by
   intro l'
   induction l' with
   | nil=>intro us' _ r';rw[ReVs.HB.mp r'];rfl
   | cons t l' ih=>
    intro us' sub r';obtain⟨u,ws,rfl,p,q⟩:=ReVs.me.mp r';rw[Jb,Jb,ih ws (λt ht=>sub t (IZ _ ht)) q,agree u t (sub t Ja) p]
  exact go l us (λ_ h=>h) r
theorem oS {x:T}:∀{l:List T} {n k:Nat},j5 x l n=some k->n<=k/\(l.map λt=>a6 t x)[k - n]? =some true/\∀m,m<k - n->(l.map λt=>a6 t x)[m]? =some false
 | [],n,k,h=>by cases h
 | t::l,n,k,h=>by
  unfold j5 at h
  cases q:a6 t x with
  | true=>
   rw[q,if_pos rfl]at h;cases h;refine⟨Jq _,?_,λm hm=>by omega⟩
   rw[N5,Jb,q];rfl
  | false=>
   rw[q,if_neg (by decide)]at h
   obtain⟨h1,h2,h3⟩:=oS h
   have e:k - n=(k - (n+1))+1:=by omega
   refine⟨by omega,?_,λm hm=> ?_⟩
   ·rw[e,Jb,KB];exact h2
   ·cases m with
    | zero=>rw[Jb,q];rfl
    | succ m=>rw[Jb,KB];exact h3 m (by omega)
section
variable {X:Cx}{a b:Expr}{fa fb:En->Rs T}{pos apos cpos:Pos}
theorem yP (hu:X.A.units+61<cLine)(ha:cN X a fa)(hb:cN X b fb)(hn:bN b=true:=by rfl)
  (hbase:KI a "index" X.env (eval a X.env)=eval a X.env:=by rfl) (hline:(apos.endLine == cpos.line)=true:=by rfl):cN X (.Call (.Attribute a "index" apos) [b] [] cpos) (oL hZ fa fb):=by
 have hs:Jz [b] X.env=(false,eval b X.env)::Jz [] X.env:=bh hn;intro pins s σ H Q I ⟨Z,O,E,hq⟩;refine NT hbase (by rw[hs];rfl) hline rfl (cG (ha pins s σ H _ I (aZ E hq)) λv s1 hh_=> ?_)
 obtain⟨x,H1,I1,r1,t,rt,s',E',q1⟩:=hh_
 cases t with
 | lst l=>
  obtain⟨c,vs,e1,e2,e3,e4⟩:=Rep.HD.mp rt;subst e1;obtain rfl:v=JF c:=r1;obtain⟨h1,h2⟩:=yr I1 (show RelV (.ref c) (.ref c)from rfl) (.inl ⟨rfl,vs,SqL.of e3⟩)
  refine⟨_,_,L8,PySem.F.slot_list_index,PySem.F.type_list_index,h1,h2,?_⟩
  rw[hs];refine Ml rfl (LS (LB (cG (hb pins s1 σ H1 _ I1 (aZ (f:=fb) E' q1)) λu s2 ⟨y,H2,I2,r2,t2,rt2,s'',E'',q2⟩=>LK ?_)))
  unfold hZ at q2
  split at q2
  ·rename_i l' heq
   cases heq
   split at q2
   ·rename_i hd3
    obtain⟨hd,hnx,hny⟩:=hd3
    split at q2
    ·rename_i k hk
     have rv:=Rep.val I2 (show(T.lst l).nd=true by unfold T.nd;exact hny) (rt.same s'') (show RelV (.ref c) (.ref c)from rfl)
     unfold ReV at rv;obtain⟨c',us,ec,hl,rs⟩:=rv;cases ec;obtain⟨⟨cls,dd,data,sl⟩,ho,hc,n,hdd⟩:=id hl;simp only at hc hdd;subst hc hdd;obtain⟨e,he,ha⟩:=zE (A:=X.A.in1) (Rep.val I2 hnx rt2 r2) (by show X.A.units+1+60<cLine;omega) hd rs
     obtain⟨_,k1,k2⟩:=oS hk;rw[Nc]at k1 k2;rw[<-ha]at k1 k2
     have hkl:k<us.length:=by have:=(Ju.mp k1).1;rwa [Jd]at this
     have hz:us.length<=sizeLine:=by
      have z:=(I2.HW (s'' _ _ e3)).1
      have h3:=rs.length
      have h4:=e4.length;omega
     refine MP F.slot_list_index ⟨_,ho,rfl⟩ F.entry_list_index (F.args_list_index_2 _ _) (list_indexAt c us.toArray n dd sl u e k (by simpa using hkl) (by rw[Lw]at hz;omega) ?_ ?_) ⟨ho,λy hy=>he y (by simpa using hy),?_⟩
     ·have:=(Ju.mp k1).2
      rw[MG]at this
      simpa using this
     ·intro m hm hmk
      have:=(Ju.mp (k2 m hmk)).2
      rw[MG]at this
      simpa using this
     ·exact⟨.int _,H2,I2.tok _,⟨_,rfl⟩,q2 H2 (Same.refl H2) _ (Rep.HI _)⟩
    ·exact q2.elim
   ·exact q2.elim
  ·rename_i hno
   exact(hno l rfl).elim
 | _=>exact q1.elim
theorem D6 (hu:X.A.units+1<cLine)(ha:cN X a fa)(hb:cN X b fb)(hn:bN b=true:=by rfl)
  (hbase:KI a "get" X.env (eval a X.env)=eval a X.env:=by rfl) (hline:(apos.endLine == cpos.line)=true:=by rfl):cN X (.Call (.Attribute a "get" apos) [b] [] cpos) (oD jc fa fb):=by
 have hs:Jz [b] X.env=(false,eval b X.env)::Jz [] X.env:=bh hn;refine PE.imp (zg hu ha hb ⟨hbase,by rw[hs];rfl,hline,by rw[hs];rfl⟩) λσ H Q ⟨Z,O,E,hq⟩=> ?_
 obtain⟨Z1,O1,E1,h1⟩:=aZ E hq;refine⟨Z1,O1,E1,Post.mono h1 λt H1 s1 q v r=> ?_⟩
 obtain⟨t',r',s',E',q'⟩:=q v r
 cases t' with
 | dct ks vs=>
  obtain⟨c,kvs,e1,e2,e3,e4,e5⟩:=Rep.HH.mp r';refine⟨c,e1,.inr ⟨kvs,e3⟩,?_⟩
  obtain⟨Z2,O2,E2,h2⟩:=aZ (f:=fb) E' q';refine⟨Z2,O2,E2,Post.mono h2 λt2 H2 s2 q2 v2 r2=> ?_⟩
  obtain⟨t2',r2',s2',E2',q2'⟩:=q2 v2 r2;unfold jc at q2'
  split at q2'
  ·rename_i ks' vs' k heq hk
   cases heq;obtain⟨b,f1,f2⟩:=gB hk r2'
   have g:=lK (k:=k) e4 (e5.same s2');refine⟨iw kvs k,by rw[f1];exact DGet.Iz (Rd.Iq (P:=vj) (SameO.of s2') (λz=>z) e3) f2,?_⟩
   cases hx:kf ks vs k with
   | some z=>
    rw[hx]at g q2';obtain⟨w,g1,g2⟩:=g;rw[g1]
    exact q2' H2 (Same.refl H2) w g2
   | none=>
    rw[hx]at g q2';rw[g];exact q2' H2 (Same.refl H2) .non Rep.Il
  ·exact q2'.elim
 | _=>exact q'.elim
theorem Et (hu:X.A.units+1<cLine):OpT X (JY .In) AF:=by
 intro pins s σ H O x y vx vy ux uy Q I hf rx ry r1 r2 hp;unfold AF at hp
 split at hp
 ·rename_i ks vs k hk
  obtain⟨c,kvs,e1,e2,e3,e4,e5⟩:=Rep.HH.mp ry;obtain⟨b,f1,f2⟩:=gB hk rx;subst e1 f1;obtain rfl:uy=JF c:=r2
  have g:=lK (k:=k) e4 e5
  have hsome:(kf ks vs k).isSome=(iw kvs k).isSome:=by
   cases hx:kf ks vs k with
   | some z=>rw[hx]at g;obtain⟨w,g1,_⟩:=g;rw[g1];rfl
   | none=>rw[hx]at g;rw[g];rfl
  refine d_in hu I (DGet.Iz e3 f2) r1 λs' I'=>⟨.bl _,H,I',rfl,?_⟩
  rw[<-hsome];exact hp H (Same.refl H) _ (Rep.bl_ _)
 ·exact hp.elim
end
end Tr
namespace Tr
open PySem PySem.Spec PyProof.Rows L2
section
variable {X:Cx}{a b c:Expr}{fa fb fc:En->Rs T}{pos p2 p3 p4:Pos}{x:Str}
def Dt (X:Cx):TE:=λ_ H Q=> ∀p,Nw X.K H p->Q (.ref p) (upd H p (.dT []))
theorem ze:PE X (.Dict [] [] pos) (Dt X):=λpins s σ H Q I h=>by
 have hk:X.K.lookup s.heap.objs.size=none:=by
  cases q:X.K.lookup s.heap.objs.size with
  | none=>rfl
  | some o=>exact absurd (Jn (I.kIn _ o q)) (JK _)
 exact wpAny_Dict_empty ⟨.ref s.heap.objs.size,_,I.laid (a:=s.heap.objs.size) (o:=.dT []) (t':=s.toks) (λ_ _ q=>IY _ q) (Jq _) (oX s.heap I.big),rfl,h _ ⟨I.hok.fresh (Jq _),hk⟩⟩
theorem yN (i:Nat)(hN:X.N.Nodup)(hi:X.N[i]? =some x:=by rfl)(hx:Loc X.env.scope x:=by first | exact Kz rfl | exact Ki rfl)(hs:Kj (.Dict [] [] p2) (some (.Name x p3)) pos.line X.env=pure false:=by rfl)
  (hf:X.fn x=true\/X.env.scope.names.lookup x=some .local:=by first | exact .inl rfl | exact .inr rfl | assumption):pi X (.Assign [.Name x p3] (.Dict [] [] p2) pos) (qX i):=PS.imp (ri hN hi hx ze hs hf) λD σ H hh_=>by
 obtain⟨Z,B,M,E,h⟩:=hh_;unfold qX at h;intro p hp
 by_cases hl:i<Z.length
 ·rw[if_pos hl]at h
  have hm:∀a,a=p->Nw X.K H a:=λa z=>z▸hp
  obtain⟨E2,sub⟩:=E.new (m:=λa=>a=p) (o:=.dct [] []) (v:=.ref p) (H':=upd H p (.dT [])) hl hm (aV hp.1 _) ⟨p,[],rfl,λb=>MF,aG,rfl,Reps.nil_⟩
  exact h _ _ _ (SameO.of (aV hp.1 _)) E2 sub
 ·rw[if_neg hl]at h
  exact h.elim
theorem DL (i:Nat)(hu:X.A.units+1<cLine)(hb:cN X b fb)(hc:cN X c fc)(hN:X.N[i]? =some x:=by rfl)(hv:uN X.env.scope x:=by first | exact Kz rfl | exact Ki (Kz rfl) | exact Ki (Ki rfl))
  (hd:(x == ("__debug__" : Str))=false:=by decide) (hcd:(x == ("__classdict__" : Str))=false:=by decide)
  (hs:Kj c (some (.Subscript (.Name x p2) b p3)) pos.line X.env=pure false:=by rfl):pi X (.Assign [.Subscript (.Name x p2) b p3] c pos) (pG i fb fc):=by
 intro pins s σ H D I ⟨Z,B,M,E,h⟩;refine vW hu (kG hN hv hd hcd) hb hc hs pins s σ H D I ?_
 unfold pG at h
 split at h
 ·rename_i ks vs hl
  obtain⟨v0,e1,d,kvs,rfl,hM,e3,e4,e5⟩:=E.env.own i _ hl;obtain⟨nd,nz⟩:=uG I e3;refine⟨Z,OO B M,E.o,?_⟩
  cases q:fc Z with
  | bad=>rw[q]at h;exact h.elim
  | err c=>rw[q]at h;exact PostF.xa h
  | ok vT=>
   rw[q,az]at h;intro H1 s1 v r;refine⟨.ref d,e1,Z,OO B M,(E.same s1).o,?_⟩
   have h1:=h.later (SameO.of s1) (P1:=M.u) λa z=> .inl z
   cases q2:fb Z with
   | bad=>rw[q2]at h1;exact h1.elim
   | err c=>rw[q2]at h1;exact PostF.xa h1
   | ok kT=>
    rw[q2,az]at h1;intro H2 s2 y ry
    cases q3:aW kT with
    | none=>rw[q3]at h1;exact h1.elim
    | some k=>
     rw[q3]at h1
     have h2:=h1.later (SameO.of s2) (P1:=M.u) λa z=> .inl z
     have hlen:ks.length=kvs.length:=by have:=congrArg Kn e4;simpa using this
     by_cases hz:ks.length<1000
     ·simp only[if_pos hz]at h2
      obtain⟨kb,f1,f2⟩:=gB q3 ry
      have e3':=s2 _ _ (s1 _ _ e3);obtain⟨g1,g2⟩:=lJ q3 (r.same s2) e4 ((e5.same s1).same s2) nd;refine⟨d,upd H2 d (.dT (df kvs k v)),rfl,by rw[f1];exact DPut.t e3' f2 (by rw[Lw];omega),?_⟩
      have sm:SameO (M i) H2 (upd H2 d (.dT (df kvs k v))):=λc u e nb=>by rw[aF (λz=>nb ((hM c).mpr z))];exact e
      obtain⟨g3,g4⟩:=((E.same s1).same s2).put (o':=.dct (gD kT vT ks vs).1 (gD kT vT ks vs).2) hl e1 sm ⟨d,_,rfl,hM,aG,g1,g2.move (P:=M i) (λa z=> .inl (.inr ⟨i,z⟩)) (λa z=> .inl z) sm⟩
      exact h2 σ _ M g4 g3 λc z=> .inl z
     ·simp only[if_neg hz]at h2
      exact h2.elim
 ·exact h.elim
theorem sQ {k:List Key}:∀{kvs:List (List Key×V)} {as:List Addr} {v:V},kvs.map (·.2)=as.map V.ref->iw kvs k=some v->∃b∈as,v= .ref b
 | [],as,v,_,h=>by cases h
 | p::kvs,as,v,e,h=>by
  cases as with
  | nil=>cases e
  | cons b0 bs=>
   rw[Jb,Jb]at e;injection e with e1 e2
   by_cases hk:p.1=k
   ·rw[gH hk]at h
    cases h;exact⟨b0,Ja,e1⟩
   ·rw[gI hk]at h
    obtain⟨b,hb,e⟩:=sQ e2 h;exact⟨b,IZ _ hb,e⟩
theorem tL {K:IX}{O:Ow}{H:Hp}{k:List Key}{r:List T×List T}:∀{ks:List T} {rows:List (List T×List T)} {kvs:List (List Key×V)} {as:List Addr},ks.map aW=kvs.map (λp=>some p.1)->kvs.map (·.2)=as.map V.ref->RowsR K O H rows as->pI ks rows k=some r →
  ∃b kv,iw kvs k=some (.ref b)/\b∈as/\H b=some (.dT kv)/\r.1.map aW=kv.map (λp=>some p.1)/\Reps K O H r.2 (kv.map (·.2))
 | [],rows,kvs,as,h1,h2,h3,h=>by unfold pI at h;cases h
 | k'::ks,rows,kvs,as,h1,h2,h3,h=>by
  cases rows with
  | nil=>unfold pI at h;cases h
  | cons r0 rows=>
   cases kvs with
   | nil=>cases h1
   | cons p kvs=>
    rw[Jb,Jb]at h1;injection h1 with h1 h1'
    obtain⟨b0,bs,kv0,rfl,e2,e3,e4,e5⟩:=h3;rw[Jb,Jb]at h2;injection h2 with h2 h2'
    unfold pI at h
    by_cases hk:aW k'=some k
    ·rw[if_pos hk]at h
     cases h;rw[h1]at hk;injection hk with hk
     exact⟨b0,kv0,by rw[gH hk,h2],Ja,e2,e3,e4⟩
    ·rw[if_neg hk]at h
     have hk2:¬ p.1=k:=λz=>hk (by rw[h1,z])
     obtain⟨b,kv,g1,g2,g3⟩:=tL h1' h2' e5 h;exact⟨b,kv,by rw[gI hk2];exact g1,IZ _ g2,g3⟩
theorem tH {K:IX}{O:Ow}{H H':Hp}{k:List Key}{xr:List T×List T}{b:Addr}{kv':List (List Key×V)}(hO:O b)(hS:SameO (λc=>c=b) H H')(hb:H' b=some (.dT kv'))(hx1:xr.1.map aW=kv'.map (λp=>some p.1))(hx2:Reps K O H' xr.2 (kv'.map (·.2))) :
  ∀{ks:List T} {rows:List (List T×List T)} {kvs:List (List Key×V)} {as:List Addr},ks.map aW=kvs.map (λp=>some p.1)->kvs.map (·.2)=as.map V.ref->RowsR K O H rows as->as.Nodup->iw kvs k=some (.ref b)->RowsR K O H' (pH k xr ks rows) as
 | [],rows,kvs,as,h1,h2,h3,hn,h=>by
  cases kvs with
  | nil=>cases h
  | cons _ _=>cases h1
 | k'::ks,rows,kvs,as,h1,h2,h3,hn,h=>by
  have inO:∀a,a=b->O a\/Nw K H a:=λa z=> .inl (z▸hO)
  cases kvs with
  | nil=>cases h1
  | cons p kvs=>
   rw[Jb,Jb]at h1;injection h1 with h1 h1'
   cases rows with
   | nil=>unfold RowsR at h3;subst h3;cases h2
   | cons r0 rows=>
    obtain⟨b0,bs,kv0,rfl,e2,e3,e4,e5⟩:=h3;rw[Jb,Jb]at h2;injection h2 with h2 h2'
    obtain⟨n1,n2⟩:=JL.mp hn;unfold pH
    by_cases hk:aW k'=some k
    ·rw[if_pos hk]
     rw[h1]at hk;injection hk with hk
     rw[gH hk,h2]at h;cases h;exact⟨b,bs,kv',rfl,hb,hx1,hx2,e5.move (P:=λc=>c=b) inO (λa z=> .inl z) hS λc hc z=>n1 (z▸hc)⟩
    ·rw[if_neg hk]
     have hk2:¬ p.1=k:=λz=>hk (by rw[h1,z])
     rw[gI hk2]at h;obtain⟨b',hb',e'⟩:=sQ h2' h;cases e'
     have hne:b0≠b:=λz=>n1 (z▸hb')
     exact⟨b0,bs,kv0,rfl,hS _ _ e2 hne,e3,e4.move (P:=λc=>c=b) inO (λa z=> .inl z) hS,tH hO hS hb hx1 hx2 h1' h2' e5 n2 h⟩
theorem Bu (i:Nat)(hu:X.A.units+1<cLine)(ha:cN X a fa)(hb:cN X b fb)(hc:cN X c fc)(hsl:x9 a:=by intro _ _;rfl)(hN:X.N[i]? =some x:=by rfl)(hv:uN X.env.scope x:=by first | exact Kz rfl | exact Ki (Kz rfl) | exact Ki (Ki rfl))
  (hd:(x == ("__debug__" : Str))=false:=by decide) (hcd:(x == ("__classdict__" : Str))=false:=by decide)
  (hs:Kj c (some (.Subscript (.Subscript (.Name x p2) a p3) b p4)) pos.line X.env=pure false:=by rfl):pi X (.Assign [.Subscript (.Subscript (.Name x p2) a p3) b p4] c pos) (i7 i fa fb fc):=by
 intro pins s σ H D I ⟨Z,B,M,E,h⟩;refine vW hu (vZ hu (kG hN hv hd hcd) ha hsl) hb hc hs pins s σ H D I ?_
 unfold i7 at h
 split at h
 ·rename_i ks rows hl
  obtain⟨v0,e1,d,kvs,as,rfl,hM,na,nas,e5,e6,e7,e8⟩:=E.env.own i _ hl;refine⟨Z,OO B M,E.o,?_⟩
  cases q:fc Z with
  | bad=>rw[q]at h;exact h.elim
  | err c=>rw[q]at h;exact PostF.xa h
  | ok vT=>
   rw[q,az]at h;intro H1 s1 v r;refine⟨.ref d,e1,Z,OO B M,(E.same s1).o,?_⟩
   have h1:=h.later (SameO.of s1) (P1:=M.u) λa z=> .inl z
   cases q2:fa Z with
   | bad=>rw[q2]at h1;exact h1.elim
   | err c=>rw[q2]at h1;exact PostF.xa h1
   | ok aT=>
    rw[q2,az]at h1;intro H2 s2 y ry
    have h2:=h1.later (SameO.of s2) (P1:=M.u) λa z=> .inl z
    have E2:=(E.same s1).same s2
    have s12:=s1.trans s2
    split at h2
    ·rename_i ka rr hk
     obtain⟨ka',q3,hk⟩:=Option.bind_eq_some_iff.mp hk;obtain⟨r',q4,hk⟩:=KD.mp hk;cases hk;obtain⟨rb,kv,g1,g2,g3,g4,g5⟩:=tL e6 e7 e8 q4;obtain⟨ndr,nzr⟩:=uG I g3;obtain⟨ab,f1,f2⟩:=gB q3 ry;refine⟨d,.ref rb,rfl,by rw[f1,<-g1];exact DGet.t (s12 _ _ e5) f2,Z,OO B M,E2.o,?_⟩
     cases q5:fb Z with
     | bad=>rw[q5]at h2;exact h2.elim
     | err c=>rw[q5]at h2;exact PostF.xa h2
     | ok bT=>
      rw[q5,az]at h2;intro H3 s3 y2 ry2
      have h3:=h2.later (SameO.of s3) (P1:=M.u) λa z=> .inl z
      have s13:=s12.trans s3
      have E3:=E2.same s3
      have hlen:rr.1.length=kv.length:=by have:=congrArg Kn g4;simpa using this
      by_cases hz:(aW bT).isSome=true/\rr.1.length<1000
      ·rw[if_pos hz]at h3
       obtain⟨kb,q6⟩:=Li.mp hz.1;obtain⟨bb,f3,f4⟩:=gB q6 ry2;obtain⟨u1,u2⟩:=lJ q6 ((r.same s2).same s3) g4 (g5.same s13) ndr;refine⟨rb,upd H3 rb (.dT (df kv kb v)),rfl,by rw[f3];exact DPut.t (s13 _ _ g3) f4 (by rw[Lw];omega),?_⟩
       have mrb:M i rb:=(hM rb).mpr (.inr g2)
       have hOb:OO B M rb:=.inr ⟨i,mrb⟩
       have sm1:SameO (λc=>c=rb) H3 (upd H3 rb (.dT (df kv kb v))):=λc u e nb=>by rw[aF nb];exact e
       have sm:SameO (M i) H3 (upd H3 rb (.dT (df kv kb v))):=λc u e nb=>sm1 c u e λz=>nb (z▸mrb)
       have inO:∀a,a=rb->OO B M a\/Nw X.K H3 a:=λa z=> .inl (z▸hOb)
       have dne:d≠rb:=λz=>na (z▸g2)
       obtain⟨g6,g7⟩:=E3.put (o':=.dd ks (pH ka (gD bT vT rr.1 rr.2) ks rows)) hl e1 sm ⟨d,kvs,as,rfl,hM,na,nas,sm1 _ _ (s13 _ _ e5) dne,e6,e7,tH hOb sm1 aG u1 (u2.move (P:=λc=>c=rb) inO (λa z=> .inl z) sm1) e6 e7 (e8.same s13) nas g1⟩
       exact h3 σ _ M g7 g6 λc z=> .inl z
      ·rw[if_neg hz]at h3
       exact h3.elim
    ·exact h2.elim
 ·exact h.elim
end
end Tr
namespace PySem
open Sem (wp)
namespace F
theorem lk_list_keys:Nt (.type "list") "keys" =pure none:=by rw[MZ,LH];kernel_rfl
theorem lk_list_getattr:Nt (.type "list") "__getattr__" =pure none:=by rw[MZ,LH];kernel_rfl
end F
section
variable {prog:JI}{w:Kr}{A:J9}{E:Je->Jf->Prop}{h:Heap}{g:Array GenState}{d:Drawn}{t:Nat}{os:OsState}{a:Addr}{its:Array Je}{n:Nat}
theorem m3 {tk:Tok}{Q:Fin->Jf->Prop}(hx:h.get? a=some { cls:=.type "list",data:=.seq its n })(hh:A.handled=none)
  (hq:∀h' tk' e,MW h h' e (.ref a) "keys"->E (.ref e) ⟨h',g,d,tk',os⟩) :
  wpAny (model prog w) A (Builtin.«object.__getattribute__» ⟨[.ref a,.str "keys" tk],[]⟩) Q E ⟨h,g,d,t,os⟩:=by
 have hT:(⟨h,g,d,t,os⟩:Jf).TypeIs (.ref a) "list":=⟨_,hx,rfl⟩
 have f4:=F.lk_list_keys
 repeat (any_goals (first | assumption | wp_step))
 exact Oy hh (λh' tk e hx=>hq h' tk e hx) (attrMsg_fits (by decide+kernel) (by rw[Lw];decide))
theorem oJ {tk:Tok}{R:Qr->Jf->Prop}(hx:h.get? a=some { cls:=.type "list",data:=.seq its n })(hh:A.handled=none)
  (hq:∀h' tk' e,MW h h' e (.ref a) "keys"->R (.error (.ref e)) ⟨h',g,d,tk',os⟩) :
  codeAny (model prog w) A (.call (.builtin "list.__getattribute__") ⟨[.ref a,.str "keys" tk],[]⟩) R ⟨h,g,d,t,os⟩:=
 Oz Ll.plain F.entry_list_ga (Ll.check _ _ _ _ _ _ _ _ (show(⟨h,g,d,t,os⟩:Jf).TypeIs (.ref a) "list" from⟨_,hx,rfl⟩) (F.args_list_getattribute_2 _ _) (m3 hx hh hq))
theorem oK {Q:Option Je->Jf->Prop}(hx:h.get? a=some { cls:=.type "list",data:=.seq its n })(hh:A.handled=none)
  (hq:∀h' tk',(∀b o,h.get? b=some o->h'.get? b=some o)->Q none ⟨h',g,d,tk',os⟩):wpAny (model prog w) A (getAttr? (.ref a) "keys") Q E ⟨h,g,d,t,os⟩:=by
 have hT:∀tk,(⟨h,g,d,tk,os⟩:Jf).TypeIs (.ref a) "list":=λ_=>⟨_,hx,rfl⟩
 have f1:=Pe
 have f2:=Ll.lookup
 have f3:=Ll.bind (.ref a)
 have f5:=F.lk_list_getattr;unfold getAttr? getAttrBy? getAttrBy
 repeat (any_goals (first | assumption | exact hT _ | wp_step))
 refine oJ hx hh λh' tk' e hx'=> ?_
 obtain⟨t',u',he⟩:=hx'.there
 repeat (any_goals (first | assumption | exact hT _ | wp_step))
 exact hq _ _ hx'.keeps
end
end PySem
namespace PySem.F
theorem entry_dict_update_loop:entryFor table "dict.update.loop" =some Builtin.«dict.update.loop»:=entryFor_of_tree (by kernel_rfl)
theorem plain_dict_update_loop:plainId "dict.update.loop" =true:=by decide+kernel
end PySem.F
namespace Tr
open PySem PySem.Spec PyProof.Rows L2
def d9 (kvs:List (List Key×V)):List (List Key×V)->List (List Key×V)
 | [] =>kvs
 | p::ps=>d9 (df kvs p.1 p.2) ps
def PairsAt (H:Hp):List V->List (List Key×V)->Prop
 | [],ps=>ps= []
 | x::xs,ps=> ∃b kb p r,ps=p::r/\x= .ref b/\H b=some (.tup [.ref kb,p.2])/\H kb=some (.tup (p.1.map kV))/\PairsAt H xs r
theorem PairsAt.upd {H:Hp}{d:Addr}{kvs:List (List Key×V)}{o:HO}(hd:H d=some (.dT kvs)):∀{xs:List V} {ps:List (List Key×V)},PairsAt H xs ps->PairsAt (L2.upd H d o) xs ps
 | [],_,h=>h
 | x::xs,_,⟨b,kb,p,r,e1,e2,e3,e4,e5⟩=>⟨b,kb,p,r,e1,e2,by rw[aF (jz e3 hd (λz=>nomatch z))];exact e3,by rw[aF (jz e4 hd (λz=>nomatch z))];exact e4,e5.upd hd⟩
theorem jO {H:Hp}{d:Addr}{a b:HO}:upd (upd H d a) d b=upd H d b:=by
 funext c
 by_cases h:c=d
 ·rw[h,aG,aG]
 ·rw[aF h,aF h,aF h]
section
variable {X:Cx}{pins:List (Addr×Obj)}{σ:L2.St}{A:J9}{res:Je}{R:Qr->Jf->Prop}{d l it:Addr}{xs:List V}
theorem xT (hh:A.handled=none)(hu:A.units+3<cLine):∀(k i:Nat) (s:Jf) (H:Hp) (kvs ps:List (List Key×V)),xs.length - i=k->i<=xs.length->H l=some (.lst xs)->H d=some (.dT kvs)->kvs.length+(xs.length - i)<=1000->Inv X pins σ H s->s.heap.IsListIter it l i->kS X pins H it->PairsAt H (xs.drop i) ps →
  (∀s',Inv X pins σ (upd H d (.dT (d9 kvs ps))) s'->R (.ok (.ret res)) s')->codeAny (model X.prog X.w) A (.builtin "dict.update.loop" ⟨[.ref d,.ref it,rawInt i,res],[]⟩) R s:=by
 intro k
 induction k with
 | zero=>
  intro i s H kvs ps hk hi hl hd hz I hit hf hp hR;refine M0 F.entry_dict_update_loop ?_
  rw[LU F.plain_dict_update_loop _];obtain⟨z,its,n,r,hlen,e⟩:=I.HW hl
  have hL:s.heap.IsList l its.toArray:=⟨_,e,rfl,n,rfl⟩
  show wpAny _ A.in1 (pyNext (.ref it) >>= _) _ _ s
  refine IW (Of hh hit hL (by simp;omega) λh' hm=> ?_)
  show wpAny _ _ (Nm d [] >>= _) _ _ _
  refine IW (Jg (Jg ?_))
  have hnil:xs.drop i= []:=LA (by omega)
  rw[hnil]at hp;unfold PairsAt at hp;subst hp
  have e2:upd H d (.dT (d9 kvs []))=H:=by
   funext b
   by_cases hb:b=d
   ·rw[hb,aG,hd];rfl
   ·rw[aF hb]
  rw[e2]at hR
  exact hR _ (I.HL (fp:=[it]) (t':=s.toks) (λb hb=>by rw[Jp.mp hb];exact hf) λb o hb eb=>hm b o (λz=>hb (by rw[z];exact Jp.mpr rfl)) eb)
 | succ k ih=>
  intro i s H kvs ps hk hi hl hd hz I hit hf hp hR;refine M0 F.entry_dict_update_loop ?_
  rw[LU F.plain_dict_update_loop _];obtain⟨z,its,n,r,hlen,e⟩:=I.HW hl
  have hL:s.heap.IsList l its.toArray:=⟨_,e,rfl,n,rfl⟩
  have hlt:i<xs.length:=by omega
  have hlt':i<its.length:=by omega
  show wpAny _ A.in1 (pyNext (.ref it) >>= _) _ _ s
  refine IW (NR hit hL (x:=its[i]) (by simp[hlt']) λh' hit' hm=> ?_)
  have I1:Inv X pins σ H { s with heap:=h' }:=I.HL (fp:=[it]) (t':=s.toks) (λb hb=>by rw[Jp.mp hb];exact hf) λb o hb eb=>(hm.2 b (λz=>hb (by rw[z];exact Jp.mpr rfl))).trans eb
  have hdrop:xs.drop i=xs[i] ::xs.drop (i+1):=KH hlt;rw[hdrop]at hp;obtain⟨b,kb,p,r',rfl,ex,hb,hkb,hp'⟩:=hp
  have rx:RelV xs[i] its[i]:=by
   obtain⟨u,q1,q2⟩:=r.get (Jo hlt)
   rw[Jo hlt']at q1
   cases q1;exact q2
  rw[ex]at rx
  have eu:its[i] =JF b:=rx;rw[eu];obtain⟨z2,its2,r2,ob,hob1,hob2,nb,hob3⟩:=(show ObjOk X.prog X.w H h' b (.tup [.ref kb,p.2])from I1.hok b _ hb)
  obtain⟨u1,us1,q1,rfl⟩:∃u1 us1,RelV (V.ref kb) u1/\its2=u1::us1:=by cases r2 with | cons a b=>exact⟨_,_,a,rfl⟩
  cases r2 with
  | cons ra rb=>
   obtain⟨u2,q2,rfl⟩:∃u2,RelV p.2 u2/\us1= [u2]:=by cases rb with | cons a b=>cases b;exact⟨_,a,rfl⟩
   obtain rfl:u1=JF kb:=q1
   show wpAny _ A.in1 (holding [JF b] _ >>= _) _ _ _
   refine IW (K0 ?_)
   refine IW (wpAny_tryCatch ?_)
   unfold NO;refine IW (L6 (s:={ s with heap:=h' }) (T:="tuple") ⟨ob,hob1,hob2⟩ ?_)
   rw[if_pos (by decide)]
   refine IW (J8 (s:={ s with heap:=h' }) hob1 hob3 (Jg ?_))
   show wpAny _ _ (holding [JF kb,u2] (dictSet d (.ref kb) u2)) _ _ _
   refine K0 ?_
   obtain⟨zz,hds,xs2,rel,dd⟩:=wI I1.hok hd
   have hzl:xs2.length<=sizeLine:=by rw[<-L9 rel];exact zz
   have hkl:kvs.length<sizeLine:=by rw[Lw];omega
   have hl2:(df kvs p.1 p.2).length<=sizeLine:=by have:=fg kvs p.1 p.2;omega
   refine Pf (hsz:=hzl) (K9 (by show A.units+1<cLine;omega)) (kN I1.hok hkb) dd λh2 dd2 hs2=> ?_
   obtain⟨q,es,ep,hq,h22,h3,h4,_,h5⟩:=dd2
   have I2:Inv X pins σ (upd H d (.dT (df kvs p.1 p.2))) { s with heap:=h2,toks:=s.toks+(MD (cH X.prog X.w)).draws p.1 }:=
    lM (s:={ s with heap:=h' }) I1 (by rw[hd];exact Lh) hs2 ⟨q,hq⟩ ⟨hl2,hds,_,(rel.put p.1 hkb q2).keeps λc ys ec=>by rw[aF (jz ec hd (λz=>nomatch z))];exact ec,q,es,ep,hq,h22,h3,h4,h5⟩
   have hld:l≠d:=jz hl hd (λz=>nomatch z)
   have hitd:it≠d:=λz=>by have:=hf.1;rw[z,hd]at this;cases this
   have hcast:(i:Int)+1=((i+1:Nat):Int):=by omega
   refine Jg ⟨NI F.plain_dict_update_loop _,?_⟩
   rw[hcast];refine ih (i+1) _ (upd H d (.dT (df kvs p.1 p.2))) (df kvs p.1 p.2) r' (by omega) (by omega) (by rw[aF hld];exact hl) aG (by have:=fg kvs p.1 p.2;omega) I2 ?_ ⟨by rw[aF hitd];exact hf.1,hf.2⟩ (hp'.upd hd) λs' I'=> ?_
   ·obtain⟨oi,ho1,ho2,ho3⟩:=hit'
    exact⟨oi,(hs2.2 it hitd).trans ho1,ho2,ho3⟩
   ·rw[jO]at I'
    exact hR s' I'
end
theorem PairsAt.same {H H':Hp}(s:Same H H'):∀{xs:List V} {ps:List (List Key×V)},PairsAt H xs ps->PairsAt H' xs ps
 | [],_,h=>h
 | x::xs,_,⟨b,kb,p,r,e1,e2,e3,e4,e5⟩=>⟨b,kb,p,r,e1,e2,s _ _ e3,s _ _ e4,e5.same s⟩
section
variable {X:Cx}{pins:List (Addr×Obj)}{σ:L2.St}{A:J9}{E:Je->Jf->Prop}{H:Hp}{s:Jf}{l:Addr}{xs:List V}{ps:List (List Key×V)}
theorem uF {Q:Je->Jf->Prop}(hh:A.handled=none)(hu:A.units+8<cLine)(I:Inv X pins σ H s)(hl:H l=some (.lst xs))(hz:xs.length<=1000)(hp:PairsAt H xs ps)
  (h:∀p s',Nw X.K H p->Inv X pins σ (upd H p (.dT (d9 [] ps))) s'->Q (.ref p) s'):wpAny (model X.prog X.w) A (call (.type "dict") [.ref l]) Q E s:=by
 have hk:X.K.lookup s.heap.objs.size=none:=by
  cases q:X.K.lookup s.heap.objs.size with
  | none=>rfl
  | some o=>exact absurd (Jn (I.kIn _ o q)) (JK _)
 have hn:H s.heap.objs.size=none:=I.hok.fresh (Jq _)
 have hlp:l≠s.heap.objs.size:=λz=>by rw[z,hn]at hl;cases hl
 refine callType_codes (Q₁:=λobj s₁=>obj= .ref s.heap.objs.size/\s₁= { s with heap:=s.heap.push { cls:=.type "dict",data:=.dict #[] } }) PU (Ou _) Pp (P3 _ ⟨rfl,rfl⟩) ?_
 rintro obj s₁ ⟨rfl,rfl⟩
 have I1:Inv X pins σ (upd H s.heap.objs.size (.dT [])) { s with heap:=s.heap.push { cls:=.type "dict",data:=.dict #[] } }:=I.laid (a:=s.heap.objs.size) (o:=.dT []) (t':=s.toks) (λ_ _ q=>IY _ q) (Jq _) (oX s.heap I.big)
 have hT:({ s with heap:=s.heap.push { cls:=.type "dict",data:=.dict #[] } }:Jf).TypeIs (.ref s.heap.objs.size) "dict":=⟨_,Jk _ rfl,rfl⟩
 have hl1:upd H s.heap.objs.size (.dT []) l=some (.lst xs):=by rw[aF hlp];exact hl
 obtain⟨z,its,n,r,hlen,e⟩:=I1.HW hl1;refine⟨hT,OS _ _,?_⟩
 unfold Builtin.«dict.__init__»;refine IW ?_
 unfold Nn;refine IW (ME hT ?_)
 show wpAny _ _ (pure (s.heap.objs.size,[JF l])) _ _ _
 refine Jg ?_
 show wpAny _ _ (Lq "dict.__init__" s.heap.objs.size (.ref l) [] .none) _ _ _
 unfold Lq;refine IW (L6 (T:="list") ⟨_,e,rfl⟩ ?_)
 rw[if_pos (by decide)]
 refine IW (oK e hh λh' tk' kp=> ?_)
 have I2:Inv X pins σ (upd H s.heap.objs.size (.dT [])) { s with heap:=h',toks:=tk' }:=I1.kept (t':=tk') kp
 rw[if_pos (by rfl)]
 refine IW (Ms ?_)
 have eL:({ s with heap:=h',toks:=tk' }:Jf).heap.IsList l its.toArray:=⟨_,kp _ _ e,rfl,n,rfl⟩
 refine IW (LP eL ?_)
 have I3:Inv X pins σ (upd H s.heap.objs.size (.dT [])) { s with heap:=h'.push { cls:=.type "list_iterator",data:=.fields #[.ref l,.int 0 0] },toks:=tk' }:=I2.kept (t':=tk') λb u q=>IY _ q
 have hpl:s.heap.objs.size<h'.objs.size:=Jn (kp _ _ (Jk _ rfl))
 have hni:upd H s.heap.objs.size (.dT []) h'.objs.size=none:=by
  rw[aF (Nb hpl)];exact I.hok.fresh (L4 hpl)
 have hp1:PairsAt (upd H s.heap.objs.size (.dT [])) xs ps:=hp.same (aV hn _);refine Jg ⟨NI F.plain_dict_update_loop _,?_⟩
 refine xT (A:=A.in1) (X:=X) (pins:=pins) (σ:=σ) (l:=l) (xs:=xs) (it:=h'.objs.size) hh (by show A.units+1+3<cLine;omega) xs.length 0 _ (upd H s.heap.objs.size (.dT [])) [] ps (by omega) (Lc _) hl1 aG (by simp;omega) I3 ⟨_,Jk _ rfl,rfl,rfl⟩ (I2.HZ (Jq _) hni) hp1 λs' I'=> ?_
 rw[jO]at I';exact⟨rfl,h _ _ ⟨hn,hk⟩ I'⟩
end
theorem GT {k:Nat}{A:J9}(h:Room k A):A.units+8<cLine:=by have:=h.un;omega
theorem vi {kvs:List (List Key×V)}{k:List Key}{v:V}(h:(kvs.map (·.1)).Nodup):((df kvs k v).map (·.1)).Nodup:=by
 unfold df
 by_cases a:(kvs.any λkv=>decide (kv.1=k))=true
 ·rw[if_pos a,J4]
  have:((λx=>x.1)∘λkv:List Key×V=>if kv.1=k then(kv.1,v)else kv)=λx=>x.1:=by
   funext x
   show(if x.1=k then(x.1,v)else x).1=x.1
   by_cases e:x.1=k
   ·rw[if_pos e]
   ·rw[if_neg e]
  rw[this];exact h
 ·rw[if_neg a,JX,Kf]
  refine⟨h,by simp,λx hx y hy=> ?_⟩
  simp only[Jb,L5,Jp]at hy;subst hy;intro z;subst z;obtain⟨p,hp,e⟩:=Jl.mp hx;exact a (MH.mpr ⟨p,hp,decide_eq_true e⟩)
def G8 (K:IX)(O:Ow)(H:Hp):List (T×T)->List (List Key×V)->Prop
 | [],ps=>ps= []
 | a::l,ps=> ∃p r,ps=p::r/\aW a.1=some p.1/\Rep K O H a.2 p.2/\G8 K O H l r
theorem mi {K:IX}{O:Ow}{H:Hp}:∀{l:List (T×T)} {ps:List (List Key×V)} {ks ts:List T} {kvs:List (List Key×V)},G8 K O H l ps->ks.map aW=kvs.map (λp=>some p.1)->Reps K O H ts (kvs.map (·.2))->(kvs.map (·.1)).Nodup →
  (gZ l (ks,ts)).1.map aW=(d9 kvs ps).map (λp=>some p.1)/\Reps K O H (gZ l (ks,ts)).2 ((d9 kvs ps).map (·.2))
 | [],ps,ks,ts,kvs,h,h1,h2,hn=>by unfold G8 at h;subst h;exact⟨h1,h2⟩
 | (a,b)::l,ps,ks,ts,kvs,h,h1,h2,hn=>by
  obtain⟨p,r,rfl,e1,e2,e3⟩:=h;obtain⟨g1,g2⟩:=lJ (vT:=b) e1 e2 h1 h2 hn
  show(gZ l (gD a b ks ts)).1.map aW=(d9 (df kvs p.1 p.2) r).map (λp=>some p.1)/\Reps K O H (gZ l (gD a b ks ts)).2 ((d9 (df kvs p.1 p.2) r).map (·.2))
  exact mi (l:=l) e3 g1 g2 (vi hn)
theorem vX {K:IX}{O:Ow}{H:Hp}:∀{l:List T} {tps:List (T×T)} {xs:List V},FA l=some tps->Reps K O H l xs->∃ps,PairsAt H xs ps/\G8 K O H tps ps
 | [],tps,xs,h,r=>by cases Reps.HB.mp r;cases h;exact⟨[],rfl,rfl⟩
 | t::l,tps,xs,h,r=>by
  obtain⟨v,ws,rfl,p,q⟩:=Reps.me.mp r;unfold FA at h
  split at h
  ·rename_i heq;cases heq
  ·rename_i k v' l' heq
   cases heq
   split at h
   ·rename_i kk rr hk hr
    cases h;obtain⟨ps,g1,g2⟩:=vX hr q;obtain⟨b,vs,e1,e2,e3,e4⟩:=Rep.HC.mp p;obtain⟨u1,us1,rfl,f1,f2⟩:=Reps.me.mp e4;obtain⟨u2,us2,rfl,f3,f4⟩:=Reps.me.mp f2;cases Reps.HB.mp f4;obtain⟨kb,f5,f6⟩:=gB hk f1;subst f5;exact⟨(kk,u2)::ps,⟨b,kb,(kk,u2),ps,rfl,e1,e3,f6,g1⟩,⟨(kk,u2),ps,rfl,hk,f3,g2⟩⟩
   ·cases h
  ·cases h
section
variable {X:Cx}{e:Expr}{f:En->Rs T}{x y:Str}{p pos p2 p3:Pos}
def Ds (X:Cx)(f:En->Rs T):TE:=λσ H Q=>tP X f σ H λv H'=> ∃a xs ps,v= .ref a/\H' a=some (.lst xs)/\xs.length<=1000/\PairsAt H' xs ps/\∀q,Nw X.K H' q->Q (.ref q) (upd H' q (.dT (d9 [] ps)))
theorem zf (hu:X.A.units+8<cLine)(hc:X.calm=true)(hm:X.mg "dict" =none)(ha:cN X e f)(hg:Gl X "dict")(hs:bN e=true):PE X (.Call (.Name "dict" p) [e] [] pos) (Ds X f):=by
 have h1:Jz [e] X.env=(false,eval e X.env)::Jz [] X.env:=bh hs;intro pins s σ H Q I hq;refine Kt (gu I hg hm (show JT "dict" =some (.type "dict")by decide+kernel) ?_ (by decide) (by decide))
 refine JO (cG (fy (te:=tP X f) ha ju h1 pos pins s σ H (λxs H'=> ∃v,xs= [v]/\∃a xs ps,v= .ref a/\H' a=some (.lst xs)/\xs.length<=1000/\PairsAt H' xs ps/\∀q,Nw X.K H' q->Q (.ref q) (upd H' q (.dT (d9 [] ps)))) I ?_) λus s1 hh=> ?_) h1 rfl
 ·obtain⟨Z,O,E,h⟩:=hq
  exact⟨Z,O,E,Post.mono h λt H' _ g v r=>⟨v,rfl,g v r⟩⟩
 ·obtain⟨vs,H1,I1,r1,v,rfl,a,xs,ps,ev,e1,e2,e3,e4⟩:=hh
  subst ev;obtain⟨u,rfl,ru⟩:=r1.one;obtain rfl:u=JF a:=ru;exact uF (I1.ok.hd hc) hu I1 e1 e2 e3 λq s' nw I'=>⟨.ref q,_,I',rfl,e4 q nw⟩
theorem Bw (i:Nat)(hu:X.A.units+8<cLine)(hc:X.calm=true)(hm:X.mg "dict" =none)(hN:X.N.Nodup)(ha:cN X e f)(hst:bN e=true:=by rfl)(hg:Gl X "dict":=by rfl)(hi:X.N[i]? =some x:=by rfl)(hx:Loc X.env.scope x:=by first | exact Kz rfl | exact Ki rfl)(hs:Kj (.Call (.Name "dict" p) [e] [] p2) (some (.Name x p3)) pos.line X.env=pure false:=by rfl)
  (hf:X.fn x=true\/X.env.scope.names.lookup x=some .local:=by first | exact .inl rfl | exact .inr rfl | assumption):pi X (.Assign [.Name x p3] (.Call (.Name "dict" p) [e] [] p2) pos) (p6 i f):=PS.imp (ri hN hi hx (zf hu hc hm ha hg hst) hs hf) λD σ H hh_=>by
 obtain⟨Z,B,M,E,h⟩:=hh_;refine⟨Z,OO B M,E.o,?_⟩
 unfold p6 at h
 cases q:f Z with
 | bad=>rw[q]at h;exact h.elim
 | err c=>rw[q]at h;exact PostF.xa h
 | ok t=>
  rw[q,az]at h;intro H1 s1 v r
  have h1:=h.later (SameO.of s1) (P1:=M.u) λa z=> .inl z
  cases t with
  | lst l=>
   obtain⟨a,xs,rfl,e2,e3,e4⟩:=Rep.HD.mp r;unfold wK at h1
   split at h1
   ·rename_i l' heq
    cases heq
    split at h1
    ·rename_i tps hps
     by_cases hz:l.length<=1000
     ·rw[if_pos hz,az]at h1
      obtain⟨ps,g1,g2⟩:=vX hps e4;refine⟨a,xs,ps,rfl,e3,by rw[<-e4.length];exact hz,g1,λnd nw=> ?_⟩
      by_cases hl:i<Z.length
      ·simp only[if_pos hl]at h1
       have hm:∀a,a=nd->Nw X.K H1 a:=λa z=>z▸nw
       obtain⟨k1,k2⟩:=mi (ks:=[]) (ts:=[]) (kvs:=[]) g2 rfl Reps.nil_ K1;obtain⟨E2,sub⟩:=(E.same s1).new (m:=λa=>a=nd) (o:=.dct (gZ tps ([],[])).1 (gZ tps ([],[])).2) (v:=.ref nd) (H':=upd H1 nd (.dT (d9 [] ps))) hl hm (aV nw.1 _) ⟨nd,_,rfl,λb=>MF,aG,k1,(k2.more (Ev.subO hm)).same (aV nw.1 _)⟩
       exact h1 _ _ _ (SameO.of (aV nw.1 _)) E2 sub
      ·simp only[if_neg hl]at h1;exact h1.elim
     ·rw[if_neg hz]at h1;exact h1.elim
    ·exact h1.elim
   ·rename_i hno
    exact(hno l rfl).elim
  | _=>exact h1.elim
end
theorem kK {K:IX}{O:Ow}{H:Hp}:∀{l:List T} {ns:List Int} {xs:List V} {us:List Je},ku l=some ns->Reps K O H l xs->Vals xs us->MK us ns
 | [],ns,xs,us,h,r,v=>by cases Reps.HB.mp r;cases v;cases h;exact .nil
 | t::l,ns,xs,us,h,r,v=>by
  obtain⟨w,ws,rfl,p,q⟩:=Reps.me.mp r
  cases v with
  | cons v1 v2=>
   cases t with
   | int i=>
    unfold ku at h;obtain⟨m,h1,rfl⟩:=KD.mp h;cases Rep.HA.mp p;obtain⟨k,rfl⟩:=v1
    exact .cons _ _ (kK h1 q v2)
   | _=>cases h
theorem qe:∀(l:List Int) (i:Int),gz i l∈i::l/\∀a∈i::l,gz i l<=a
 | [],i=>⟨Ja,λa h=>by cases Jp.mp h;exact Kl _⟩
 | j::l,i=>by
  obtain⟨h1,h2⟩:=qe l (if j<i then j else i)
  unfold gz
  have h3:=h2 _ Ja;refine⟨?_,λa ha=> ?_⟩
  ·rcases Jh.mp h1 with e | e
   ·rw[e]
    by_cases h:j<i
    ·rw[if_pos h];simp
    ·rw[if_neg h];simp
   ·exact IZ _ (IZ _ e)
  ·rcases Jh.mp ha with rfl | ha
   ·by_cases h:j<a
    ·rw[if_pos h]at h3 ⊢;omega
    ·rw[if_neg h]at h3 ⊢;omega
   ·rcases Jh.mp ha with rfl | ha
    ·by_cases h:a<i
     ·rw[if_pos h]at h3 ⊢;omega
     ·rw[if_neg h]at h3 ⊢;omega
    ·exact h2 a (IZ _ ha)
theorem qf:∀(l:List Int) (i:Int),ik i l∈i::l/\∀a∈i::l,a<=ik i l
 | [],i=>⟨Ja,λa h=>by cases Jp.mp h;exact Kl _⟩
 | j::l,i=>by
  obtain⟨h1,h2⟩:=qf l (if i<j then j else i)
  unfold ik
  have h3:=h2 _ Ja;refine⟨?_,λa ha=> ?_⟩
  ·rcases Jh.mp h1 with e | e
   ·rw[e]
    by_cases h:i<j
    ·rw[if_pos h];simp
    ·rw[if_neg h];simp
   ·exact IZ _ (IZ _ e)
  ·rcases Jh.mp ha with rfl | ha
   ·by_cases h:a<j
    ·rw[if_pos h]at h3 ⊢;omega
    ·rw[if_neg h]at h3 ⊢;omega
   ·rcases Jh.mp ha with rfl | ha
    ·by_cases h:i<a
     ·rw[if_pos h]at h3 ⊢;omega
     ·rw[if_neg h]at h3 ⊢;omega
    ·exact h2 a (IZ _ ha)
section
variable {X:Cx}
theorem vG (hc:X.calm=true):CallT X (.builtin "min") oC:=by
 intro pins s σ H O ts vs us Q I hf rs rv hp;unfold oC at hp
 split at hp
 ·rename_i l
  obtain⟨v,rfl,r⟩:=rs.one
  split at hp
  ·rename_i i ns hk
   obtain⟨a,ws,rfl,n,q,z⟩:=Rep.HD.mp r;obtain⟨u,rfl,ru⟩:=kZ rv;cases ru;obtain⟨its,r',pl,hz⟩:=I.list (SqL.of q)
   have hi:=kK hk z r';obtain⟨xs,e⟩:=hi.allInts.items
   have hns:i::ns=xs.toList.map (·.1):=by rw[<-hi.numsOf,<-nums_intItems,<-e]
   have hl:s.heap.IsList a (intItems xs):=by rw[<-e];exact pl.isList
   have hsz:0<xs.size:=by
    have h3:=congrArg Kn hns;rw[Ji,Jd]at h3;rw[<-J5];omega
   refine min_intList (I.ok.hd hc) hl hsz λv h' tk hv hk'=> ?_
   obtain⟨t,rfl⟩:=intItems_at hv;obtain⟨h1,h2⟩:=argBest_lt (numAt xs) (xs.size - 1);refine⟨.int _,H,I.kept (t':=tk) hk',⟨_,rfl⟩,?_⟩
   have eM:numAt xs (argBest (λi j=>decide (numAt xs i<numAt xs j)) (xs.size - 1))=gz i ns:=by
    obtain⟨g1,g2⟩:=qe ns i
    have m1:numAt xs (argBest (λi j=>decide (numAt xs i<numAt xs j)) (xs.size - 1))∈i::ns:=by
     rw[hns,numAt_eq];exact PySem.getD_mem (by rw[Jd,J5];omega)
    have k1:=g2 _ m1;rw[hns]at g1;obtain⟨j,hj,ej⟩:=mem_getD g1;rw[Jd,J5]at hj;rw[<-numAt_eq]at ej
    have k2:=h2 j (by omega)
    rw[ej]at k2;exact Qe k2 k1
   rw[eM];exact hp H (Same.refl H) _ (Rep.HI _)
  ·exact hp.elim
 ·rename_i i j
  obtain⟨v,ws,rfl,p,q⟩:=Reps.me.mp rs;obtain⟨v2,rfl,p2⟩:=q.one;cases Rep.HA.mp p;cases Rep.HA.mp p2;refine xY hc pins s σ H _ us Q I rv ⟨i,j,rfl,?_⟩
  exact hp H (Same.refl H) _ (Rep.HI _)
 ·exact hp.elim
theorem Fr (hc:X.calm=true):CallT X (.builtin "max") xE:=by
 intro pins s σ H O ts vs us Q I hf rs rv hp;unfold xE at hp
 split at hp
 ·rename_i l
  obtain⟨v,rfl,r⟩:=rs.one
  split at hp
  ·rename_i i ns hk
   obtain⟨a,ws,rfl,n,q,z⟩:=Rep.HD.mp r;obtain⟨u,rfl,ru⟩:=kZ rv;cases ru;obtain⟨its,r',pl,hz⟩:=I.list (SqL.of q)
   have hi:=kK hk z r';obtain⟨xs,e⟩:=hi.allInts.items
   have hns:i::ns=xs.toList.map (·.1):=by rw[<-hi.numsOf,<-nums_intItems,<-e]
   have hl:s.heap.IsList a (intItems xs):=by rw[<-e];exact pl.isList
   have hsz:0<xs.size:=by
    have h3:=congrArg Kn hns;rw[Ji,Jd]at h3;rw[<-J5];omega
   refine max_intList (I.ok.hd hc) hl hsz λv h' tk hv hk'=> ?_
   obtain⟨t,rfl⟩:=intItems_at hv;obtain⟨h1,h2⟩:=argBest_gt (numAt xs) (xs.size - 1);refine⟨.int _,H,I.kept (t':=tk) hk',⟨_,rfl⟩,?_⟩
   have eM:numAt xs (argBest (λi j=>decide (numAt xs i > numAt xs j)) (xs.size - 1))=ik i ns:=by
    obtain⟨g1,g2⟩:=qf ns i
    have m1:numAt xs (argBest (λi j=>decide (numAt xs i > numAt xs j)) (xs.size - 1))∈i::ns:=by
     rw[hns,numAt_eq];exact PySem.getD_mem (by rw[Jd,J5];omega)
    have k1:=g2 _ m1;rw[hns]at g1;obtain⟨j,hj,ej⟩:=mem_getD g1;rw[Jd,J5]at hj;rw[<-numAt_eq]at ej
    have k2:=h2 j (by omega)
    rw[ej]at k2;exact Qe k1 k2
   rw[eM];exact hp H (Same.refl H) _ (Rep.HI _)
  ·exact hp.elim
 ·rename_i i j
  obtain⟨v,ws,rfl,p,q⟩:=Reps.me.mp rs;obtain⟨v2,rfl,p2⟩:=q.one;cases Rep.HA.mp p;cases Rep.HA.mp p2;refine xZ hc pins s σ H _ us Q I rv ⟨i,j,rfl,?_⟩
  exact hp H (Same.refl H) _ (Rep.HI _)
 ·exact hp.elim
end
end Tr
namespace Tr
def gx:List T->Option (List (List Int))
 | [] =>some []
 | .tup l::r=>match ku l,gx r with
  | some ns,some k=>if ns= []then none else some (ns::k)
  | _,_=>none
 | _=>none
def FD:List T->Rs T
 | [.lst l,.tup m] =>if iC l=true/\l.length=m.length/\1<=l.length/\l.length<=1000 then .ok (.dct (gZ (l.zip m) ([],[])).1 (gZ (l.zip m) ([],[])).2)else .bad
 | _=> .bad
end Tr
namespace PySem
open Sem (wp)
namespace F
theorem zk_keys:Nt (.type "zip") "keys" =pure none:=by rw[MZ,LH];kernel_rfl
theorem zk_ga:Nt (.type "zip") "__getattr__" =pure none:=by rw[MZ,LH];kernel_rfl
theorem zk_entry:entryFor table "zip.__getattribute__" =some Builtin.«object.__getattribute__»:=
 entryFor_alias (id':="object.__getattribute__") (by kernel_rfl) (by first | rfl | decide+kernel | (unfold String.splitOn;simp+decide [String.splitOnAux])) (by decide+kernel) (by kernel_rfl)
end F
abbrev zO (h:Heap)(z ti to:Addr)(f0 f1:Je):Prop:=h.get? z=some { cls:=.type "zip",dict:=none,data:=.fields #[f0,f1,.bool false,.ref ti,.ref to],slots:=#[] }
section
variable {prog:JI}{w:Kr}{A:J9}{E:Je->Jf->Prop}{h:Heap}{g:Array GenState}{d:Drawn}{t:Nat}{os:OsState}{z ti to:Addr}{f0 f1:Je}
theorem zk1 {tk:Tok}{Q:Fin->Jf->Prop}(hx:zO h z ti to f0 f1)(hh:A.handled=none)(hq:∀h' tk' e,MW h h' e (.ref z) "keys"->E (.ref e) ⟨h',g,d,tk',os⟩) :
  wpAny (model prog w) A (Builtin.«object.__getattribute__» ⟨[.ref z,.str "keys" tk],[]⟩) Q E ⟨h,g,d,t,os⟩:=by
 have hT:(⟨h,g,d,t,os⟩:Jf).TypeIs (.ref z) "zip":=⟨_,hx,rfl⟩
 have f4:=F.zk_keys
 repeat (any_goals (first | assumption | wp_step))
 exact Oy hh (λh' tk e hx=>hq h' tk e hx) (attrMsg_fits (by decide+kernel) (by rw[Lw];decide))
theorem zk2 {tk:Tok}{R:Qr->Jf->Prop}(hx:zO h z ti to f0 f1)(hh:A.handled=none)(hq:∀h' tk' e,MW h h' e (.ref z) "keys"->R (.error (.ref e)) ⟨h',g,d,tk',os⟩) :
  codeAny (model prog w) A (.call (.builtin "zip.__getattribute__") ⟨[.ref z,.str "keys" tk],[]⟩) R ⟨h,g,d,t,os⟩:=
 Oz Lv.plain F.zk_entry (Lv.check _ _ _ _ _ _ _ _ (show(⟨h,g,d,t,os⟩:Jf).TypeIs (.ref z) "zip" from⟨_,hx,rfl⟩) (F.args_zip_getattribute_2 _ _) (zk1 hx hh hq))
theorem zk3 {Q:Option Je->Jf->Prop}(hx:zO h z ti to f0 f1)(hh:A.handled=none)(hq:∀h' tk',(∀b o,h.get? b=some o->h'.get? b=some o)->Q none ⟨h',g,d,tk',os⟩):wpAny (model prog w) A (getAttr? (.ref z) "keys") Q E ⟨h,g,d,t,os⟩:=by
 have hT:∀tk,(⟨h,g,d,tk,os⟩:Jf).TypeIs (.ref z) "zip":=λ_=>⟨_,hx,rfl⟩
 have f1:=Pe
 have f2:=Lv.lookup
 have f3:=Lv.bind (.ref z)
 have f5:=F.zk_ga;unfold getAttr? getAttrBy? getAttrBy
 repeat (any_goals (first | assumption | exact hT _ | wp_step))
 refine zk2 hx hh λh' tk' e hx'=> ?_
 obtain⟨t',u',he⟩:=hx'.there
 repeat (any_goals (first | assumption | exact hT _ | wp_step))
 exact hq _ _ hx'.keeps
end
structure Zp (h:Heap)(n l1 t2 k:Nat)(xs ys:Array Je):Prop where
 b1:l1<n
 b2:t2<n
 pr:LI h (n+2) (.ref n) (.ref (n+1))
 i1:h.IsListIter n l1 k
 i2:h.IsTupleIter (n+1) t2 k
 s1:h.IsList l1 xs
 s2:h.IsTuple t2 ys
theorem ig {h h':Heap}{a:Addr}{xs:Array Je}(x:h.IsTuple a xs)(e:∀o,h.get? a=some o->h'.get? a=some o):h'.IsTuple a xs:=let ⟨o,ho,r⟩:=x;⟨o,e _ ho,r⟩
theorem Zp.keep {h h':Heap}{n l1 t2 k:Nat}{xs ys:Array Je}(q:Zp h n l1 t2 k xs ys)(e:∀c o,c<n+3->h.get? c=some o->h'.get? c=some o):Zp h' n l1 t2 k xs ys where
 b1:=q.b1
 b2:=q.b2
 pr:=e _ _ (by omega) q.pr
 i1:=q.i1.at λo=>e _ o (by omega)
 i2:=q.i2.at λo=>e _ o (by omega)
 s1:=q.s1.at λo=>e _ o (by have:=q.b1;omega)
 s2:=ig q.s2 λo=>e _ o (by have:=q.b2;omega)
section
variable {prog:JI}{w:Kr}{A:J9}{E:Je->Jf->Prop}{s:Jf}{n l1 t2 k:Nat}{xs ys:Array Je}{x y:Je}
theorem sP {a:Addr}{Q:Option Obj->Jf->Prop}(q:Q (s.heap.get? a) s):wpAny (model prog w) A (loadIfAlive a) Q E s:=λΓ p _=>by
 show Sem.wp _ _ (Sem.loadIfAlive a pure) _ _ _ _
 rw[Sem.wp_loadIfAlive];exact q
end
section
variable {prog:JI}{w:Kr}{A:J9}{E:Je->Jf->Prop}{s:Jf}{n l1 t2 k:Nat}{xs ys:Array Je}{x y:Je}
theorem bU {a b:Nat}(h:a<b\/b<a):a≠b:=by omega
theorem Zp.one {h h':Heap}(q:Zp h n l1 t2 k xs ys)(i:h'.IsListIter n l1 (k+1))(e:LC n h h'):h'.IsTupleIter (n+1) t2 k/\h'.IsList l1 xs/\h'.IsTuple t2 ys/\LI h' (n+2) (.ref n) (.ref (n+1)):=by
 have b1:=q.b1
 have b2:=q.b2;exact⟨q.i2.at λo g=>e.extBut _ _ (bU (by omega)) g,q.s1.at λo g=>e.extBut _ _ (bU (by omega)) g,ig q.s2 λo g=>e.extBut _ _ (bU (by omega)) g,e.extBut _ _ (bU (by omega)) q.pr⟩
theorem sM {T:Addr}{ob:Obj}{f:Bool}{Q:Bool->Jf->Prop}(kz:zO s.heap (n+4) (n+2) (n+3) (rawInt T) (.bool f))(kT:s.heap.get? T=some ob)
  (hk:∀h',zO h' (n+4) (n+2) (n+3) (rawInt T) (.bool true)->(∀c o,c≠n+4->s.heap.get? c=some o->h'.get? c=some o)->h'.objs.size=s.heap.objs.size->Q false { s with heap:=h' }):wpAny (model prog w) A (Jr (.ref (n+4))) Q E s:=by
 unfold Jr;refine IW (JS kz rfl (x:=rawInt T) rfl ?_)
 show wpAny _ _ (loadIfAlive (Int.toNat (T:Int)) >>= _) _ _ _
 rw[Ke];refine IW (sP ?_)
 rw[kT]
 show wpAny _ _ (field (.ref (n+4)) 1 >>= _) _ _ _
 refine IW (JS kz rfl (x:=.bool f) rfl ?_)
 cases f with
 | true=>
  rw[if_neg (by decide)]
  exact Jg (hk _ kz (λ_ _ _ e=>e) rfl)
 | false=>
  rw[if_pos (by decide)]
  refine IW (Km kz (by simp) λh₁ kz₁ hs₁=>Jg (hk h₁ kz₁ (λc o c1 e=>hs₁.extBut _ _ c1 e) hs₁.1))
theorem yn {T:Addr}{ob:Obj}{f:Bool}{Q:Je->Jf->Prop}(q:Zp s.heap n l1 t2 k xs ys)(kz:zO s.heap (n+4) (n+2) (n+3) (rawInt T) (.bool f))(kT:s.heap.get? T=some ob)(hx:xs[k]? =some x)(hy:ys[k]? =some y)
  (kq:∀h' p,s.heap.objs.size<=p->LI h' p x y->zO h' (n+4) (n+2) (n+3) (rawInt T) (.bool true)->Zp h' n l1 t2 (k+1) xs ys->(∀c o,c≠n->c≠n+1->c≠n+4->s.heap.get? c=some o->h'.get? c=some o)->Q (.ref p) { s with heap:=h' }) :
  wpAny (model prog w) A (Builtin.«zip.__next__» ⟨[.ref (n+4)],[]⟩) (λfin s'=> ∃v,fin= .done (.ret v)/\Q v s') E s:=by
 have b1:=q.b1
 have b2:=q.b2
 show wpAny _ _ (field (.ref (n+4)) 2 >>= _) _ _ _
 refine IW (JS kz rfl (x:=.bool false) rfl ?_)
 show wpAny _ _ (field (.ref (n+4)) 3 >>= _) _ _ _
 refine IW (JS kz rfl (x:=.ref (n+2)) rfl ?_)
 refine IW (J8 q.pr rfl ?_)
 show wpAny _ _ (Jr (.ref (n+4)) >>= _) _ _ _
 refine IW (sM kz kT λh₁ kz₁ e₁ z₁=> ?_)
 have q₁:Zp h₁ n l1 t2 k xs ys:=q.keep λc o hc g=>e₁ c o (by omega) g
 simp only[KQ,if_false,OU,Lk,LW];refine IW (IW (IW (K0 ?_)))
 show wpAny _ _ (Jx (.ref n) >>= _) _ _ _
 refine IW (Mm q₁.i1 q₁.s1 hx λh₂ g₂ e₂=>Jg ?_)
 obtain⟨r1,r2,r3,r4⟩:=q₁.one g₂ e₂;refine Jg (IW (IW (K0 ?_)))
 show wpAny _ _ (Jx (.ref (n+1)) >>= _) _ _ _
 refine IW (Enu.tupNext r1 r3 hy λh₃ g₃ e₃=>Jg (Jg (Jg ?_)))
 show wpAny _ _ (newTuple [x,y] >>= _) _ _ _
 refine IW (OC (Jg ⟨_,rfl,?_⟩))
 have z₃:h₃.objs.size=s.heap.objs.size:=by rw[e₃.1,e₂.1,z₁]
 have up:∀c o,c≠n->c≠n+1->h₁.get? c=some o->(h₃.push { cls:=.type "tuple",data:=.seq #[x,y] }).get? c=some o:=λc o c1 c2 g=>IY _ (e₃.extBut _ _ c2 (e₂.extBut _ _ c1 g))
 refine kq _ h₃.objs.size (LD z₃.symm) (Jk _ rfl) (up _ _ (bU (by omega)) (bU (by omega)) kz₁) ⟨b1,b2,up _ _ (bU (by omega)) (bU (by omega)) q₁.pr,?_,?_,?_,?_⟩ λc o c1 c2 c4 g=>up c o c1 c2 (e₁ c o c4 g)
 ·exact g₂.at λo g=>IY _ (e₃.extBut _ _ (bU (by omega)) g)
 ·exact g₃.at λo g=>IY _ g
 ·exact q₁.s1.at λo g=>up _ o (bU (by omega)) (bU (by omega)) g
 ·exact ig q₁.s2 λo g=>up _ o (bU (by omega)) (bU (by omega)) g
theorem w8 {a b:Je}{Q:Je->Jf->Prop}(q:Zp s.heap n l1 t2 k xs ys)(kz:zO s.heap (n+4) (n+2) (n+3) .none (.bool false))(ho:LI s.heap (n+3) a b)(hx:xs[k]? =some x)(hy:ys[k]? =some y)
  (kq:∀h' p,s.heap.objs.size<=p->LI h' p x y->zO h' (n+4) (n+2) (n+3) (rawInt p) (.bool false)->Zp h' n l1 t2 (k+1) xs ys->(∀c o,c≠n->c≠n+1->c≠n+3->c≠n+4->s.heap.get? c=some o->h'.get? c=some o)->Q (.ref p) { s with heap:=h' }) :
  wpAny (model prog w) A (Builtin.«zip.__next__» ⟨[.ref (n+4)],[]⟩) (λfin s'=> ∃v,fin= .done (.ret v)/\Q v s') E s:=by
 have b1:=q.b1
 have b2:=q.b2
 show wpAny _ _ (field (.ref (n+4)) 2 >>= _) _ _ _
 refine IW (JS kz rfl (x:=.bool false) rfl ?_)
 show wpAny _ _ (field (.ref (n+4)) 3 >>= _) _ _ _
 refine IW (JS kz rfl (x:=.ref (n+2)) rfl ?_)
 refine IW (J8 q.pr rfl ?_)
 show wpAny _ _ (Jr (.ref (n+4)) >>= _) _ _ _
 have fr:wpAny (model prog w) A (Jr (.ref (n+4))) (λv s'=>v=true/\s'=s) E s:=by
  unfold Jr;exact IW (JS kz rfl (x:=.none) rfl (Jg ⟨rfl,rfl⟩))
 refine IW (Ln fr (λv s' hv=> ?_) λ_ _ z=>z)
 obtain⟨rfl,rfl⟩:=hv;simp only[if_true];refine IW (Ms (IW (JS kz rfl (x:=.ref (n+3)) rfl (IW (Km kz (by simp) λh₁ kz₁ e₁=> ?_)))))
 replace kz₁:zO h₁ (n+4) (n+2) (n+3) .ellipsis (.bool false):=kz₁
 have q₁:Zp h₁ n l1 t2 k xs ys:=q.keep λc o hc g=>e₁.extBut c o (bU (by omega)) g
 simp only[NL,N6,Lk,LW];refine IW (IW (IW (Mh ?_)))
 show wpAny _ _ (Jx (.ref n) >>= _) _ _ _
 refine IW (Mm q₁.i1 q₁.s1 hx λh₂ g₂ e₂=>Jg ?_)
 obtain⟨r1,r2,r3,r4⟩:=q₁.one g₂ e₂
 have o₂:LI h₂ (n+3) a b:=e₂.extBut _ _ (bU (by omega)) (e₁.extBut _ _ (bU (by omega)) ho)
 refine IW (J8 o₂ rfl (IW (Lf o₂ λh₃ o₃ e₃=>IW (NJ (Jg ?_)))))
 replace o₃:LI h₃ (n+3) x b:=o₃
 refine IW (IW (Mh ?_))
 show wpAny _ _ (Jx (.ref (n+1)) >>= _) _ _ _
 refine IW (Enu.tupNext (r1.at λo g=>e₃.extBut _ _ (bU (by omega)) g) (ig r3 λo g=>e₃.extBut _ _ (bU (by omega)) g) hy λh₄ g₄ e₄=>Jg ?_)
 have o₄:LI h₄ (n+3) x b:=e₄.extBut _ _ (bU (by omega)) o₃
 refine IW (J8 o₄ rfl (IW (Lf o₄ λh₅ o₅ e₅=>IW (NJ (Jg (Jg ?_))))))
 replace o₅:LI h₅ (n+3) x y:=o₅
 refine IW (J8 o₅ rfl (IW (OC ?_)))
 have z₅:h₅.objs.size=s'.heap.objs.size:=by rw[e₅.1,e₄.1,e₃.1,e₂.1,e₁.1]
 have up:∀c o,c≠n->c≠n+1->c≠n+3->h₁.get? c=some o->h₅.get? c=some o:=λc o c1 c2 c3 g=>e₅.extBut _ _ c3 (e₄.extBut _ _ c2 (e₃.extBut _ _ c3 (e₂.extBut _ _ c1 g)))
 show wpAny _ _ (Kw (.ref (n+4)) (.ref h₅.objs.size) >>= _) _ _ _
 have z5:zO (h₅.push { cls:=.type "tuple",data:=.seq #[x,y] }) (n+4) (n+2) (n+3) .ellipsis (.bool false):=IY _ (up _ _ (bU (by omega)) (bU (by omega)) (bU (by omega)) kz₁)
 have hn:n+4<h₅.objs.size:=Jn (up _ _ (bU (by omega)) (bU (by omega)) (bU (by omega)) kz₁)
 refine IW ?_
 unfold Kw;refine IW (Km z5 (by simp) λh₇ z₇ e₇=> ?_)
 replace z₇:zO h₇ (n+4) (n+2) (n+3) (rawInt h₅.objs.size) (.bool false):=z₇
 refine Km z₇ (by simp) λh₈ z₈ e₈=>Jg ⟨_,rfl,?_⟩
 replace z₈:zO h₈ (n+4) (n+2) (n+3) (rawInt h₅.objs.size) (.bool false):=z₈
 have up8:∀c o,c≠n+4->h₅.get? c=some o->h₈.get? c=some o:=λc o c1 g=>e₈.extBut _ _ c1 (e₇.extBut _ _ c1 (IY _ g))
 refine kq h₈ h₅.objs.size (LD z₅.symm) (e₈.extBut _ _ (bU (by omega)) (e₇.extBut _ _ (bU (by omega)) (Jk _ rfl))) z₈ ⟨b1,b2,up8 _ _ (bU (by omega)) (up _ _ (bU (by omega)) (bU (by omega)) (bU (by omega)) q₁.pr),?_,?_,?_,?_⟩ λc o c1 c2 c3 c4 g=>up8 c o c4 (up c o c1 c2 c3 (e₁.extBut _ _ c4 g))
 ·exact g₂.at λo g=>up8 _ _ (bU (by omega)) (e₅.extBut _ _ (bU (by omega)) (e₄.extBut _ _ (bU (by omega)) (e₃.extBut _ _ (bU (by omega)) g)))
 ·exact g₄.at λo g=>up8 _ _ (bU (by omega)) (e₅.extBut _ _ (bU (by omega)) g)
 ·exact q₁.s1.at λo g=>up8 _ _ (bU (by omega)) (up _ o (bU (by omega)) (bU (by omega)) (bU (by omega)) g)
 ·exact ig q₁.s2 λo g=>up8 _ _ (bU (by omega)) (up _ o (bU (by omega)) (bU (by omega)) (bU (by omega)) g)
theorem yk {T:Addr}{ob:Obj}{f:Bool}{Q:Fin->Jf->Prop}(hh:A.handled=none)(q:Zp s.heap n l1 t2 k xs ys)(kz:zO s.heap (n+4) (n+2) (n+3) (rawInt T) (.bool f))(kT:s.heap.get? T=some ob)(hx:xs[k]? =none)
  (ke:∀h' e,(∀c o,c≠n->c≠n+4->s.heap.get? c=some o->h'.get? c=some o)->(∃o,h'.get? e=some o/\o.cls= .type "StopIteration")->E (.ref e) { s with heap:=h' }) :
  wpAny (model prog w) A (Builtin.«zip.__next__» ⟨[.ref (n+4)],[]⟩) Q E s:=by
 show wpAny _ _ (field (.ref (n+4)) 2 >>= _) _ _ _
 refine IW (JS kz rfl (x:=.bool false) rfl ?_)
 show wpAny _ _ (field (.ref (n+4)) 3 >>= _) _ _ _
 refine IW (JS kz rfl (x:=.ref (n+2)) rfl ?_)
 refine IW (J8 q.pr rfl ?_)
 show wpAny _ _ (Jr (.ref (n+4)) >>= _) _ _ _
 refine IW (sM kz kT λh₁ kz₁ e₁ z₁=> ?_)
 have q₁:Zp h₁ n l1 t2 k xs ys:=q.keep λc o hc g=>e₁ c o (by omega) g
 simp only[KQ,if_false,OU,Lk,LW];refine IW (IW (IW (K0 ?_)))
 show wpAny _ _ (Jx (.ref n) >>= _) _ _ _
 exact IW (Ol hh q₁.i1 q₁.s1 hx λh₂ e e₂ he=>ke h₂ e (λc o c1 c4 g=>e₂ _ _ c1 (e₁ c o c4 g)) he)
theorem A6 {T:Addr}{ob:Obj}{f:Bool}{Q:Option Je->Jf->Prop}(q:Zp s.heap n l1 t2 k xs ys)(kz:zO s.heap (n+4) (n+2) (n+3) (rawInt T) (.bool f))(kT:s.heap.get? T=some ob)(hx:xs[k]? =some x)(hy:ys[k]? =some y)
  (kq:∀h' p,s.heap.objs.size<=p->LI h' p x y->zO h' (n+4) (n+2) (n+3) (rawInt T) (.bool true)->Zp h' n l1 t2 (k+1) xs ys->(∀c o,c≠n->c≠n+1->c≠n+4->s.heap.get? c=some o->h'.get? c=some o)->Q (some (.ref p)) { s with heap:=h' }) :
  wpAny (model prog w) A (pyNext (.ref (n+4))) Q E s:=by
 have hy':s.TypeIs (.ref (n+4)) "zip":=⟨_,kz,rfl⟩;unfold pyNext;exact IW (Lx (JM (name:=Jm "__next__") hy' Kx (J3 Kx hy' LY (yn q kz kT hx hy λh' p a1 a2 a3 a4 a5=>Jg (kq h' p a1 a2 a3 a4 a5)) (LL _))))
theorem yj {a b:Je}{Q:Option Je->Jf->Prop}(q:Zp s.heap n l1 t2 k xs ys)(kz:zO s.heap (n+4) (n+2) (n+3) .none (.bool false))(ho:LI s.heap (n+3) a b)(hx:xs[k]? =some x)(hy:ys[k]? =some y)
  (kq:∀h' p,s.heap.objs.size<=p->LI h' p x y->zO h' (n+4) (n+2) (n+3) (rawInt p) (.bool false)->Zp h' n l1 t2 (k+1) xs ys->(∀c o,c≠n->c≠n+1->c≠n+3->c≠n+4->s.heap.get? c=some o->h'.get? c=some o)->Q (some (.ref p)) { s with heap:=h' }) :
  wpAny (model prog w) A (pyNext (.ref (n+4))) Q E s:=by
 have hy':s.TypeIs (.ref (n+4)) "zip":=⟨_,kz,rfl⟩;unfold pyNext;exact IW (Lx (JM (name:=Jm "__next__") hy' Kx (J3 Kx hy' LY (w8 q kz ho hx hy λh' p a1 a2 a3 a4 a5=>Jg (kq h' p a1 a2 a3 a4 a5)) (LL _))))
theorem A5 {T:Addr}{ob:Obj}{f:Bool}{Q:Option Je->Jf->Prop}(hh:A.handled=none)(q:Zp s.heap n l1 t2 k xs ys)(kz:zO s.heap (n+4) (n+2) (n+3) (rawInt T) (.bool f))(kT:s.heap.get? T=some ob)(hx:xs[k]? =none)
  (kq:∀h',(∀c o,c≠n->c≠n+4->s.heap.get? c=some o->h'.get? c=some o)->Q none { s with heap:=h' }):wpAny (model prog w) A (pyNext (.ref (n+4))) Q E s:=by
 have hy':s.TypeIs (.ref (n+4)) "zip":=⟨_,kz,rfl⟩;unfold pyNext;refine IW (Lx (JM (name:=Jm "__next__") hy' Kx (J3 Kx hy' LY (yk hh q kz kT hx λh' e a1 he=> ?_) (LL _))))
 obtain⟨o,ho,hc⟩:=he;exact IW (ML (T:="StopIteration") (b:=true) ⟨o,ho,hc⟩ Nk (Jg (kq _ a1)))
theorem A7 {f0 f1:Je}{Q:Je->Jf->Prop}(kz:zO s.heap (n+4) (n+2) (n+3) f0 f1)(h:Q (.ref (n+4)) s):wpAny (model prog w) A (pyIter (.ref (n+4))) Q E s:=by
 have hy':s.TypeIs (.ref (n+4)) "zip":=⟨_,kz,rfl⟩;refine Px hy' Qg (J3 Qg hy' F.entry_zip_iter ?_ (F.args_zip_iter_1 _))
 show wpAny _ _ (ret (.ref (n+4))) _ _ s
 exact Jg ⟨_,rfl,"zip",_,hy',Kx.lookup,h⟩
end
abbrev FF (h:Heap)(l t:Addr):Heap:=h.push { cls:=.type "list_iterator",data:=.fields #[.ref l,.int 0 0] }
abbrev Hj (h:Heap)(l t:Addr):Heap:=(FF h l t).push { cls:=.type "tuple_iterator",data:=.fields #[.ref t,.int 0 0] }
abbrev Hi (h:Heap)(l t:Addr):Heap:=(Hj h l t).push { cls:=.type "tuple",data:=.seq #[.ref h.objs.size,.ref (FF h l t).objs.size] }
abbrev Hh (h:Heap)(l t:Addr):Heap:=(Hi h l t).push { cls:=.type "tuple",data:=.seq #[.none,.none] }
abbrev CP (h:Heap)(l t:Addr):Heap:=(Hh h l t).push { cls:=.type "zip",data:=.fields #[.none,.bool false,.bool false,.ref (Hj h l t).objs.size,.ref (Hi h l t).objs.size] }
theorem xC (l t:Addr)(xs ys:Array Je):Meets (Builtin.«zip.__new__» ⟨[.type "zip",.ref l,.ref t],[]⟩) (λ_ R s=>s.heap.IsList l xs/\s.heap.IsTuple t ys/\R (.ok (.ret (.ref (Hh s.heap l t).objs.size))) { s with heap:=CP s.heap l t }):=
 .of_wp λprog w A R s q=>by
  obtain⟨hp,g,d,tk,os⟩:=s;obtain⟨a1,a2,q⟩:=q
  have k0:=sub_zip
  have k1:Heap.IsList (Ny ⟨hp,g,d,tk,os⟩) l xs:=a1
  have k2:Heap.IsTuple (Ny ⟨FF hp l t,g,d,tk,os⟩) t ys:=ig a2 λo e=>IY _ e
  wp_walk using LP k1,K8 k2
  exact⟨_,rfl,q⟩
section
variable {prog:JI}{w:Kr}{A:J9}{E:Je->Jf->Prop}{s:Jf}
theorem A8 {l t:Addr}{xs ys:Array Je}{Q:Je->Jf->Prop}(a1:s.heap.IsList l xs)(a2:s.heap.IsTuple t ys)
  (q:∀h',Zp h' s.heap.objs.size l t 0 xs ys->zO h' (s.heap.objs.size+4) (s.heap.objs.size+2) (s.heap.objs.size+3) .none (.bool false)->LI h' (s.heap.objs.size+3) .none .none->h'.objs.size=s.heap.objs.size+5 →
   (∀c o,s.heap.get? c=some o->h'.get? c=some o)->Q (.ref (s.heap.objs.size+4)) { s with heap:=h' }) :
  wpAny (model prog w) A (call (.type "zip") [.ref l,.ref t]) Q E s:=by
 refine PJ F.called_zip (by decide) (PV _ _) (Qh _ _) (λobj=>Ov obj _ _) Qi (xC l t xs ys) ⟨a1,a2,?_⟩
 have z1:(FF s.heap l t).objs.size=s.heap.objs.size+1:=J6 ..
 have z2:(Hj s.heap l t).objs.size=s.heap.objs.size+2:=by rw[J6,z1]
 have z3:(Hi s.heap l t).objs.size=s.heap.objs.size+3:=by rw[J6,z2]
 have z4:(Hh s.heap l t).objs.size=s.heap.objs.size+4:=by rw[J6,z3]
 have z5:(CP s.heap l t).objs.size=s.heap.objs.size+5:=by rw[J6,z4]
 have g5:(CP s.heap l t).get? (Hh s.heap l t).objs.size=some _:=Jk _ rfl
 have g4:(CP s.heap l t).get? (Hi s.heap l t).objs.size=some _:=IY _ (Jk _ rfl)
 have g3:(CP s.heap l t).get? (Hj s.heap l t).objs.size=some _:=IY _ (IY _ (Jk _ rfl))
 have g2:(CP s.heap l t).get? (FF s.heap l t).objs.size=some _:=IY _ (IY _ (IY _ (Jk _ rfl)))
 have g1:(CP s.heap l t).get? s.heap.objs.size=some _:=IY _ (IY _ (IY _ (IY _ (Jk _ rfl))))
 have up:∀c o,s.heap.get? c=some o->(CP s.heap l t).get? c=some o:=λc o e=>IY _ (IY _ (IY _ (IY _ (IY _ e))))
 show _/\_
 rw[z2,z3,z4]at g5;rw[z1,z2]at g3;rw[z3]at g4;rw[z1]at g2;rw[z4]
 have lt1:l<s.heap.objs.size:=by obtain⟨o,e,_⟩:=a1;exact Jn e
 have lt2:t<s.heap.objs.size:=by obtain⟨o,e,_⟩:=a2;exact Jn e
 exact⟨⟨_,g5,rfl⟩,q _ ⟨lt1,lt2,g3,⟨_,g1,rfl,rfl⟩,⟨_,g2,rfl,rfl⟩,a1.at λo e=>up _ o e,ig a2 λo e=>up _ o e⟩ g5 g4 z5 up⟩
end
end PySem
namespace Tr
open PySem PySem.Spec PyProof.Rows L2
def ZAt (H:Hp):List V->List V->List (List Key×V)->Prop
 | [],[],ps=>ps= []
 | x::xs,y::ys,ps=> ∃kb p r,ps=p::r/\x= .ref kb/\H kb=some (.tup (p.1.map kV))/\p.2=y/\ZAt H xs ys r
 | _,_,_=>False
theorem ZAt.mono {H H':Hp}(h:∀b vs,H b=some (.tup vs)->H' b=some (.tup vs)):∀{xs ys:List V} {ps:List (List Key×V)},ZAt H xs ys ps->ZAt H' xs ys ps
 | [],[],_,z=>z
 | [],_::_,_,z=>z
 | _::_,[],_,z=>z
 | x::xs,y::ys,_,⟨kb,p,r,e1,e2,e3,e4,e5⟩=>⟨kb,p,r,e1,e2,h _ _ e3,e4,e5.mono h⟩
theorem ZAt.len {H:Hp}:∀{xs ys:List V} {ps:List (List Key×V)},ZAt H xs ys ps->xs.length=ys.length
 | [],[],_,_=>rfl
 | [],_::_,_,z=>z.elim
 | _::_,[],_,z=>z.elim
 | x::xs,y::ys,_,⟨kb,p,r,e1,e2,e3,e4,e5⟩=>by rw[Ji,Ji,e5.len]
section
variable {X:Cx}{pins:List (Addr×Obj)}{σ:L2.St}{A:J9}{res:Je}{R:Qr->Jf->Prop}{d it:Addr}
theorem wJ {Ex:Heap->Prop}{i:Nat}{s:Jf}{H:Hp}{kvs:List (List Key×V)}{kb:Addr}{kk:List Key}{v:V}(hu:A.units+3<cLine)(hd:H d=some (.dT kvs))(hz:kvs.length<1000)(hk:H kb=some (.tup (kk.map kV)))
  (hn:∀{Q:Option Je->Jf->Prop} {E:Je->Jf->Prop},(∀h' p u2,Inv X pins σ H { s with heap:=h' }->LI h' p (.ref kb) u2->RelV v u2->Ex h'->Q (some (.ref p)) { s with heap:=h' })->wpAny (model X.prog X.w) A.in1 (pyNext (.ref it)) Q E s)
  (nx:∀h' h2 tk,Ex h'->(∀c,c≠d->h2.get? c=h'.get? c)->Inv X pins σ (upd H d (.dT (df kvs kk v))) { s with heap:=h2,toks:=tk }->codeAny (model X.prog X.w) A (.builtin "dict.update.loop" ⟨[.ref d,.ref it,rawInt ((i+1:Nat):Int),res],[]⟩) R { s with heap:=h2,toks:=tk }) :
  codeAny (model X.prog X.w) A (.builtin "dict.update.loop" ⟨[.ref d,.ref it,rawInt (i:Nat),res],[]⟩) R s:=by
 refine M0 F.entry_dict_update_loop ?_
 rw[LU F.plain_dict_update_loop _]
 show wpAny _ A.in1 (pyNext (.ref it) >>= _) _ _ s
 refine IW (hn λh' p u2 I1 hp q2 hx=> ?_)
 show wpAny _ A.in1 (holding [JF p] _ >>= _) _ _ _
 refine IW (K0 (IW (wpAny_tryCatch ?_)))
 unfold NO;refine IW (L6 (s:={ s with heap:=h' }) (T:="tuple") ⟨_,hp,rfl⟩ ?_)
 rw[if_pos (by decide)]
 refine IW (J8 (s:={ s with heap:=h' }) hp rfl (Jg ?_))
 show wpAny _ _ (holding [JF kb,u2] (dictSet d (.ref kb) u2)) _ _ _
 refine K0 ?_
 obtain⟨zz,hds,xs2,rel,dd⟩:=wI I1.hok hd
 have hzl:xs2.length<=sizeLine:=by rw[<-L9 rel];exact zz
 have hkl:kvs.length<sizeLine:=by rw[Lw];omega
 have hl2:(df kvs kk v).length<=sizeLine:=by have:=fg kvs kk v;omega
 refine Pf (hsz:=hzl) (K9 (by show A.units+1<cLine;omega)) (kN I1.hok hk) dd λh2 dd2 hs2=> ?_
 obtain⟨q,es,ep,hq,h22,h3,h4,_,h5⟩:=dd2
 have I2:Inv X pins σ (upd H d (.dT (df kvs kk v))) { s with heap:=h2,toks:=s.toks+(MD (cH X.prog X.w)).draws kk }:=
  lM (s:={ s with heap:=h' }) I1 (by rw[hd];exact Lh) hs2 ⟨q,hq⟩ ⟨hl2,hds,_,(rel.put kk hk q2).keeps λc ys ec=>by rw[aF (jz ec hd (λz=>nomatch z))];exact ec,q,es,ep,hq,h22,h3,h4,h5⟩
 have hcast:(i:Int)+1=((i+1:Nat):Int):=by omega
 refine Jg ⟨NI F.plain_dict_update_loop _,?_⟩
 rw[hcast];exact nx h' h2 _ hx (λc hc=>hs2.2 c hc) I2
theorem Fo {s:Jf}{i:Nat}(hn:∀{Q:Option Je->Jf->Prop} {E:Je->Jf->Prop},(∀h',R (.ok (.ret res)) { s with heap:=h' }->Q none { s with heap:=h' })->wpAny (model X.prog X.w) A.in1 (pyNext (.ref it)) Q E s) :
  codeAny (model X.prog X.w) A (.builtin "dict.update.loop" ⟨[.ref d,.ref it,rawInt (i:Nat),res],[]⟩) R s:=by
 refine M0 F.entry_dict_update_loop ?_
 rw[LU F.plain_dict_update_loop _]
 show wpAny _ A.in1 (pyNext (.ref it) >>= _) _ _ s
 refine IW (hn λh' hr=> ?_)
 show wpAny _ _ (Nm d [] >>= _) _ _ _
 exact IW (Jg (Jg hr))
theorem Ba {n l1 t2:Nat}{us ws:Array Je}{xs ys:List V}{T:Addr}(hh:A.handled=none)(hu:A.units+3<cLine)(rx:Vals xs us.toList)(ry:Vals ys ws.toList)(hTn:n+4<T)(hTd:T≠d):∀(k i:Nat) (s:Jf) (H:Hp) (kvs ps:List (List Key×V)) (f:Bool) (ob:Obj),xs.length - i=k->i<=xs.length->H d=some (.dT kvs)->kvs.length+(xs.length - i)<=1000 →
  Inv X pins σ H s->Zp s.heap n l1 t2 i us ws->zO s.heap (n+4) (n+2) (n+3) (rawInt T) (.bool f)->s.heap.get? T=some ob->(∀j:Nat,j<5->kS X pins H (n+j))->l1≠d->t2≠d->ZAt H (xs.drop i) (ys.drop i) ps →
  (∀s',Inv X pins σ (upd H d (.dT (d9 kvs ps))) s'->R (.ok (.ret res)) s')->codeAny (model X.prog X.w) A (.builtin "dict.update.loop" ⟨[.ref d,.ref (n+4),rawInt i,res],[]⟩) R s:=by
 have lenx:=rx.length
 have leny:=ry.length;intro k
 induction k with
 | zero=>
  intro i s H kvs ps f ob hk hi hd hz I q kz kT hf hl1 ht2 hp hR
  have hnil:xs.drop i= []:=LA (by omega)
  have hny:ys.drop i= []:=by
   have:=hp.len;rw[hnil]at this;exact List.length_eq_zero_iff.mp this.symm
  rw[hnil,hny]at hp;unfold ZAt at hp;subst hp
  have e2:upd H d (.dT (d9 kvs []))=H:=by
   funext b
   by_cases hb:b=d
   ·rw[hb,aG,hd];rfl
   ·rw[aF hb]
  rw[e2]at hR;refine Fo λ{Q E} hq=>A5 hh q kz kT (by rw[NP];rw[<-J5];omega) λh' e=>hq h' (hR _ ?_)
  exact I.HL (fp:=[n,n+4]) (t':=s.toks) (λb hb=>by
   simp only[Jh,J1,or_false]at hb;rcases hb with rfl | rfl
   ·exact hf 0 (by omega)
   ·exact hf 4 (by omega)) λb o hb eb=>e b o (λz=>hb (by rw[z];simp)) (λz=>hb (by rw[z];simp)) eb
 | succ k ih=>
  intro i s H kvs ps f ob hk hi hd hz I q kz kT hf hl1 ht2 hp hR
  have hlt:i<xs.length:=by omega
  have hdx:xs.drop i=xs[i] ::xs.drop (i+1):=KH hlt
  have hyl:i<ys.length:=by
   have:=hp.len;rw[K6,K6]at this;omega
  have hdy:ys.drop i=ys[i] ::ys.drop (i+1):=KH hyl;rw[hdx,hdy]at hp;obtain⟨kb,p,r,rfl,ex,hkb,ep,hp'⟩:=hp;obtain⟨u1,q1,q2⟩:=rx.get (Jo hlt)
  obtain⟨u2,q3,q4⟩:=ry.get (Jo hyl)
  rw[Mz]at q1 q3
  rw[ex]at q2;obtain rfl:u1=JF kb:=q2;rw[<-ep]at q4
  have hd0:∀j:Nat,j<5->n+j≠d:=λj hj z=>by have:=(hf j hj).1;rw[z,hd]at this;cases this
  refine wJ (pins:=pins) (σ:=σ) (Ex:=λh'=>Zp h' n l1 t2 (i+1) us ws/\zO h' (n+4) (n+2) (n+3) (rawInt T) (.bool true)/\h'.get? T=some ob) hu hd (by omega) hkb (λ{Q E} hq=>A6 q kz kT q1 q3 λh' b _ a2 a3 a4 a5=>hq h' b u2 ?_ a2 q4 ⟨a4,a3,a5 _ _ (bU (by omega)) (bU (by omega)) (bU (by omega)) kT⟩) λh1 h2 tk hx3 e2 I2=> ?_
  ·exact I.HL (fp:=[n,n+1,n+4]) (t':=s.toks) (λb hb=>by
    simp only[Jh,J1,or_false]at hb;rcases hb with rfl | rfl | rfl
    ·exact hf 0 (by omega)
    ·exact hf 1 (by omega)
    ·exact hf 4 (by omega)) λb o hb eb=>a5 b o (λz=>hb (by rw[z];simp)) (λz=>hb (by rw[z];simp)) (λz=>hb (by rw[z];simp)) eb
  ·obtain⟨x1,x2,x3⟩:=hx3
   have lt1:=x1.b1
   have lt2:=x1.b2
   have x1':Zp h2 n l1 t2 (i+1) us ws:=⟨x1.b1,x1.b2,(e2 _ (hd0 2 (by omega))).trans x1.pr,x1.i1.at λo g=>(e2 _ (hd0 0 (by omega))).trans g,x1.i2.at λo g=>(e2 _ (hd0 1 (by omega))).trans g,x1.s1.at λo g=>(e2 _ hl1).trans g,ig x1.s2 λo g=>(e2 _ ht2).trans g⟩
   refine ih (i+1) _ (upd H d (.dT (df kvs p.1 p.2))) (df kvs p.1 p.2) r true ob (by omega) (by omega) aG (by have:=fg kvs p.1 p.2;omega) I2 x1' ((e2 _ (hd0 4 (by omega))).trans x2) ((e2 _ hTd).trans x3) (λj hj=>⟨by rw[aF (hd0 j hj)];exact(hf j hj).1,(hf j hj).2⟩) hl1 ht2 (hp'.mono λb vs e=>by rw[aF (jz e hd (λz=>nomatch z))];exact e) λs' I'=> ?_
   rw[jO]at I';exact hR s' I'
end
section
variable {X:Cx}{pins:List (Addr×Obj)}{σ:L2.St}{A:J9}{E:Je->Jf->Prop}{H:Hp}{s:Jf}{n l1 t2:Nat}{us ws:Array Je}{xs ys:List V}{ps:List (List Key×V)}
theorem Cz {Q:Je->Jf->Prop}(hh:A.handled=none)(hu:A.units+8<cLine)(I:Inv X pins σ H s)(q:Zp s.heap n l1 t2 0 us ws)(kz:zO s.heap (n+4) (n+2) (n+3) .none (.bool false))(ko:LI s.heap (n+3) .none .none)
  (hf:∀j:Nat,j<5->kS X pins H (n+j)) (rx:Vals xs us.toList) (ry:Vals ys ws.toList) (h1:1<=xs.length) (hz:xs.length<=1000) (hp:ZAt H xs ys ps)
  (h:∀p s',Nw X.K H p->Inv X pins σ (upd H p (.dT (d9 [] ps))) s'->Q (.ref p) s'):wpAny (model X.prog X.w) A (call (.type "dict") [.ref (n+4)]) Q E s:=by
 have hk:X.K.lookup s.heap.objs.size=none:=by
  cases q:X.K.lookup s.heap.objs.size with
  | none=>rfl
  | some o=>exact absurd (Jn (I.kIn _ o q)) (JK _)
 have hn:H s.heap.objs.size=none:=I.hok.fresh (Jq _)
 have z4:n+4<s.heap.objs.size:=Jn kz
 have b1:=q.b1
 have b2:=q.b2;refine callType_codes (Q₁:=λobj s₁=>obj= .ref s.heap.objs.size/\s₁= { s with heap:=s.heap.push { cls:=.type "dict",data:=.dict #[] } }) PU (Ou _) Pp (P3 _ ⟨rfl,rfl⟩) ?_
 rintro obj s₁ ⟨rfl,rfl⟩
 have I1:Inv X pins σ (upd H s.heap.objs.size (.dT [])) { s with heap:=s.heap.push { cls:=.type "dict",data:=.dict #[] } }:=I.laid (a:=s.heap.objs.size) (o:=.dT []) (t':=s.toks) (λ_ _ q=>IY _ q) (Jq _) (oX s.heap I.big)
 have hT:({ s with heap:=s.heap.push { cls:=.type "dict",data:=.dict #[] } }:Jf).TypeIs (.ref s.heap.objs.size) "dict":=⟨_,Jk _ rfl,rfl⟩
 have kz1:zO (s.heap.push { cls:=.type "dict",data:=.dict #[] }) (n+4) (n+2) (n+3) .none (.bool false):=IY _ kz
 refine⟨hT,OS _ _,?_⟩
 unfold Builtin.«dict.__init__»;refine IW ?_
 unfold Nn;refine IW (ME hT ?_)
 show wpAny _ _ (pure (s.heap.objs.size,[JF (n+4)])) _ _ _
 refine Jg ?_
 show wpAny _ _ (Lq "dict.__init__" s.heap.objs.size (.ref (n+4)) [] .none) _ _ _
 unfold Lq;refine IW (L6 (T:="zip") ⟨_,kz1,rfl⟩ ?_)
 rw[if_pos (by decide)]
 refine IW (zk3 kz1 hh λh' tk' kp=> ?_)
 have I2:Inv X pins σ (upd H s.heap.objs.size (.dT [])) { s with heap:=h',toks:=tk' }:=I1.kept (t':=tk') kp
 have up:∀c o,s.heap.get? c=some o->h'.get? c=some o:=λc o e=>kp c o (IY _ e)
 rw[if_pos (by rfl)]
 refine IW (Ms ?_)
 have kz2:zO h' (n+4) (n+2) (n+3) .none (.bool false):=up _ _ kz;refine IW (A7 (s:={ s with heap:=h',toks:=tk' }) kz2 ?_)
 refine Jg ⟨NI F.plain_dict_update_loop _,?_⟩
 have q2:Zp h' n l1 t2 0 us ws:=q.keep λc o _ e=>up c o e
 have hsz:s.heap.objs.size<h'.objs.size:=Jn (kp _ _ (Jk _ rfl))
 have hf2:∀j:Nat,j<5->kS X pins (upd H s.heap.objs.size (.dT [])) (n+j):=λj hj=>⟨by rw[aF (bU (by omega))];exact(hf j hj).1,(hf j hj).2⟩
 obtain⟨x,xs',rfl⟩:∃x xs',xs=x::xs':=by
  cases xs with
  | nil=>simp at h1
  | cons x xs'=>exact⟨x,xs',rfl⟩
 obtain⟨y,ys',rfl⟩:∃y ys',ys=y::ys':=by
  cases ys with
  | nil=>exact hp.elim
  | cons y ys'=>exact⟨y,ys',rfl⟩
 obtain⟨kb,p,r,rfl,ex,hkb,ep,hp'⟩:=hp;obtain⟨u1,v1,v2⟩:=rx.get (i:=0) rfl;obtain⟨u2,v3,v4⟩:=ry.get (i:=0) rfl;rw[Mz]at v1 v3
 rw[ex]at v2;obtain rfl:u1=JF kb:=v2;rw[<-ep]at v4;rw[Ji]at hz
 have tupk:∀(o:List (List Key×V)) b vs,H b=some (.tup vs)->upd H s.heap.objs.size (.dT o) b=some (.tup vs):=λo b vs e=>by rw[aF (λz=>by rw[z,hn]at e;cases e)];exact e
 refine wJ (A:=A.in1) (X:=X) (pins:=pins) (σ:=σ) (i:=0) (kvs:=[]) (Ex:=λh1=>Zp h1 n l1 t2 1 us ws/\∃T ob,h'.objs.size<=T/\zO h1 (n+4) (n+2) (n+3) (rawInt T) (.bool false)/\h1.get? T=some ob) (by show A.units+1+3<cLine;omega) aG (by simp) (tupk _ _ _ hkb)
  (λ{Q E} hq=>yj q2 kz2 (up _ _ ko) v1 v3 λh1 b a1 a2 a3 a4 a5=>hq h1 b u2 ?_ a2 v4 ⟨a4,b,_,a1,a3,a2⟩) λh1 h2 tk hx3 e2 I3=> ?_
 ·exact I2.HL (fp:=[n,n+1,n+3,n+4]) (t':=tk') (λb hb=>by
   simp only[Jh,J1,or_false]at hb;rcases hb with rfl | rfl | rfl | rfl
   ·exact hf2 0 (by omega)
   ·exact hf2 1 (by omega)
   ·exact hf2 3 (by omega)
   ·exact hf2 4 (by omega)) λb o hb eb=>a5 b o (λz=>hb (by rw[z];simp)) (λz=>hb (by rw[z];simp)) (λz=>hb (by rw[z];simp)) (λz=>hb (by rw[z];simp)) eb
 ·obtain⟨x1,T,ob,hTs,x2,x3⟩:=hx3
  have hd0:∀j:Nat,j<5->n+j≠s.heap.objs.size:=λj hj=>bU (by omega)
  have x1':Zp h2 n l1 t2 1 us ws:=⟨x1.b1,x1.b2,(e2 _ (hd0 2 (by omega))).trans x1.pr,x1.i1.at λo g=>(e2 _ (hd0 0 (by omega))).trans g,x1.i2.at λo g=>(e2 _ (hd0 1 (by omega))).trans g,x1.s1.at λo g=>(e2 _ (bU (by omega))).trans g,ig x1.s2 λo g=>(e2 _ (bU (by omega))).trans g⟩
  rw[jO]at I3;refine Ba (A:=A.in1) (X:=X) (pins:=pins) (σ:=σ) (xs:=x::xs') (ys:=y::ys') (T:=T) hh (by show A.units+1+3<cLine;omega) rx ry (by omega) (bU (by omega)) xs'.length 1 _ (upd H s.heap.objs.size (.dT (df [] p.1 p.2))) (df [] p.1 p.2) r false ob (by rw[Ji];omega) (by rw[Ji];omega) aG (by rw[Ji];show 1+_<=1000;omega) I3 x1' ((e2 _ (hd0 4 (by omega))).trans x2) ((e2 _ (bU (by omega))).trans x3) (λj hj=>⟨by rw[aF (hd0 j hj)];exact(hf j hj).1,(hf j hj).2⟩) (bU (by omega)) (bU (by omega)) (hp'.mono (tupk _)) λs' I'=> ?_
  rw[jO]at I';exact⟨rfl,h _ _ ⟨hn,hk⟩ I'⟩
theorem CQ {K:IX}{O:Ow}{H:Hp}:∀{l m:List T} {xs ys:List V},iC l=true->l.length=m.length->Reps K O H l xs->Reps K O H m ys->∃ps,ZAt H xs ys ps/\G8 K O H (l.zip m) ps
 | [],[],xs,ys,_,_,r1,r2=>by cases Reps.HB.mp r1;cases Reps.HB.mp r2;exact⟨[],rfl,rfl⟩
 | [],_::_,_,_,_,h,_,_=>by simp at h
 | _::_,[],_,_,_,h,_,_=>by simp at h
 | a::l,b::m,xs,ys,hk,h,r1,r2=>by
  obtain⟨v,vs,rfl,p1,q1⟩:=Reps.me.mp r1;obtain⟨w,ws,rfl,p2,q2⟩:=Reps.me.mp r2;unfold iC at hk;rw[Jc]at hk;obtain⟨kk,ek⟩:=Li.mp hk.1;obtain⟨ps,g1,g2⟩:=CQ hk.2 (by simpa using h) q1 q2
  obtain⟨kb,f5,f6⟩:=gB ek p1;exact⟨(kk,w)::ps,⟨kb,(kk,w),ps,rfl,f5,f6,rfl,g1⟩,⟨(kk,w),ps,rfl,ek,p2,g2⟩⟩
end
section
variable {X:Cx}{a b:Expr}{fs:En->Rs (List T)}{p p1 p2 pos:Pos}
theorem D5 (hu:X.A.units+8<cLine)(hc:X.calm=true)(hm:X.mg "dict" =none)(hmz:X.mg "zip" =none)(ha:qG X [a,b] fs)(hst:bx [a,b] =true:=by rfl)(hg:Gl X "dict":=by rfl)(hgz:Gl X "zip":=by rfl) :
  cN X (.Call (.Name "dict" p) [.Call (.Name "zip" p1) [a,b] [] p2] [] pos) (cl FD fs):=by
 intro pins s σ H Q I ⟨Z,O,Ev,hq⟩
 have e1:Jz [K4 (.Name "zip" p1) [a,b] [] p2] X.env=(false,eval (.Call (.Name "zip" p1) [a,b] [] p2) X.env)::Jz [] X.env:=bh rfl;unfold bx at hst;rw[Jc]at hst
 have e2:Jz [a,b] X.env=(false,eval a X.env)::Jz [b] X.env:=bh hst.1;refine Kt (gu I hg hm (show JT "dict" =some (.type "dict")by decide+kernel) ?_ (by decide) (by decide))
 refine JO ?_ e1 rfl
 rw[e1];refine LB ?_
 refine Kt (gu I hgz hmz (show JT "zip" =some (.type "zip")by decide+kernel) ?_ (by decide) (by decide))
 refine JO (cG (ha p2 pins s σ H _ I (fq Ev hq)) λus s1 ⟨vs,H1,I1,r1,ts,rs,s',E',q1⟩=> ?_) e2 (gf hst.2)
 unfold FD at q1
 split at q1
 ·rename_i l m
  by_cases hz:iC l=true/\l.length=m.length/\1<=l.length/\l.length<=1000
  ·rw[if_pos hz]at q1
   obtain⟨v1,vs1,rfl,ra,rb⟩:=Reps.me.mp rs;obtain⟨v2,rfl,rc⟩:=rb.one;obtain⟨c1,xs,rfl,_,hx,rx⟩:=Rep.HD.mp ra;obtain⟨c2,ys,rfl,_,hy,ry⟩:=Rep.HC.mp rc
   cases r1 with
   | cons w1 w2=>
    obtain⟨u2,rfl,w3⟩:=Vals.one w2;cases w1;obtain rfl:u2=JF c2:=w3;obtain⟨z,its,n,rv,hlen,e⟩:=I1.HW hx;obtain⟨z2,its2,r2,ob,hob1,hob2,nb,hob3⟩:=(show ObjOk X.prog X.w H1 s1.heap c2 (.tup ys)from I1.hok c2 _ hy)
    refine A8 (xs:=its.toArray) (ys:=its2.toArray) ⟨_,e,rfl,n,rfl⟩ ⟨ob,hob1,hob2,nb,hob3⟩ λh' g1 g2 g3 g4 g5=> ?_
    refine LK ?_
    have I2:Inv X pins σ H1 { s1 with heap:=h' }:=I1.kept (t':=s1.toks) g5
    obtain⟨ps,k1,k2⟩:=CQ hz.1 hz.2.1 rx ry;refine Cz (I2.ok.hd hc) hu I2 g1 g2 g3 (λj hj=>I1.HZ (by omega) (I1.hok.fresh (by omega))) rv r2 (by rw[<-rx.length];exact hz.2.2.1) (by rw[<-rx.length];exact hz.2.2.2) k1 λq s' nw I'=>⟨.ref q,_,I',rfl,q1 _ (aV nw.1 _) _ ?_⟩
    obtain⟨d1,d2⟩:=mi (ks:=[]) (ts:=[]) (kvs:=[]) k2 rfl Reps.nil_ K1;exact Rep.HH.mpr ⟨q,_,rfl,E'.fresh nw.1,.inl aG,d1,d2.same (aV nw.1 _)⟩
  ·rw[if_neg hz]at q1;exact q1.elim
 ·exact q1.elim
end
end Tr
namespace Tr
open PySem
def qY (i j:Nat)(src:List (Option Nat))(tgt:T->En->Rs En)(fc:En->Rs Bool)(fe:En->Rs T)(Z:En):Rs Fl:=match Z[i]? with
 | some (.ow (.dct _ _))=>match dO (iD (vr i)) src tgt fc fe (disown i Z)with
  | .ok t=>if t.nk true=true/\j<Z.length then .ok (.nx (Z.set j (.va t)))else .bad
  | _=> .bad
 | _=> .bad
end Tr
namespace PySem
open Sem (wp)
section
variable {prog:JI}{w:Kr}{A:J9}{E:Je->Jf->Prop}{s:Jf}{d it:Addr}{ob:Obj}{es:Array MC}{ep i:Nat}
theorem B9 {Q:Je->Jf->Prop}(k0:(d == Lm)=false)(k1:s.heap.get? d=some ob)(k2:ob.ExactDict)(k3:ob.data= .dict es ep)
  (q:Q (.ref s.heap.objs.size) { s with heap:=s.heap.push { cls:=.type "dict_keyiterator",data:=.fields #[.ref d,.int 0 0,.int es.size 0,.int ep 0] } }):wpAny (model prog w) A (pyIter (.ref d)) Q E s:=by
 have ty:s.TypeIs (.ref d) "dict":=⟨ob,k1,k2.1⟩;refine Px ty PX (J3 PX ty F.entry_dict_iter ?_ (F.args_dict_iter_1 _))
 unfold Builtin.«dict.__iter__» Builtin.Dict.dictSlotNone;refine IW (IW (ME ty ?_))
 show wpAny _ _ (pure (JF d)) _ _ s
 refine Jg ?_
 show wpAny _ _ (NV d >>= _) _ _ s
 unfold NV;rw[if_neg (by rw[k0];exact Jy)]
 refine IW (Jg (IW (Nu k1 k3 (IW (Om k1 k3 ?_)))))
 refine IW (Kk (Jg ⟨_,rfl,"dict_keyiterator",_,⟨_,Jk _ rfl,rfl⟩,Ky.lookup,?_⟩))
 simpa [rawInt]using q
theorem Ca {e:MC}{Q:Option Je->Jf->Prop}(ki:s.heap.IsKeyIter it d i es.size ep)(k1:s.heap.get? d=some ob)(k3:ob.data= .dict es ep)(ke:es[i]? =some e)
  (q:∀h',h'.IsKeyIter it d (i+1) es.size ep->LC it s.heap h'->Q (some e.key) { s with heap:=h' }):wpAny (model prog w) A (pyNext (.ref it)) Q E s:=by
 obtain⟨oi,g1,g2,g3⟩:=id ki;unfold pyNext;refine IW (Lx (JM (name:=Jm "__next__") ki.typeIs Ky (J3 Ky ki.typeIs MI ?_ (MA _))))
 refine IW (Jg (IW (IW ?_)))
 first | refine IW (KW ki.typeIs (Jg ?_)) | refine IW (Lo ki.typeIs (Jg ?_))
 refine IW (wpAny_fieldsOf g1 g3 ?_)
 have own:MM "dict_keyiterator" =false:=by decide
 simp only[own,KQ,if_false]
 show wpAny _ _ (if (JF d == J0)=true then _ else _) _ _ s
 rw[if_neg (show ¬((JF d == J0)=true)from Jy)]
 refine IW (Jg (IW (Nu k1 k3 ?_)))
 rw[if_neg (by simp)]
 refine IW (Jg (IW (Om k1 k3 ?_)))
 rw[if_neg (by simp)]
 refine Jg ?_
 simp only[show ¬((i:Int)<0)from by omega,if_false,Ke,ke]
 refine IW ?_
 first | refine IW (KW ki.typeIs (Jg ?_)) | refine IW (Lo ki.typeIs (Jg ?_))
 refine IW (On ki.typeIs ?_)
 show wpAny _ _ (setField (.ref it) 1 (rawInt ((i:Int)+1)) >>= _) _ _ s
 refine IW (Ni g1 g3 (by simp) ?_)
 have ki':(s.heap.update it (Obj.mapFields (·.setIfInBounds 1 (rawInt ((i:Int)+1))))).IsKeyIter it d (i+1) es.size ep:=
  ⟨_,NZ _ g1 (N0 (Mb g3 _)),(Pm ..).trans g2,by rw[Mb g3];simp[rawInt]⟩
 refine IW (K0 (IW (On (s:={ s with heap:=s.heap.update it (Obj.mapFields (·.setIfInBounds 1 (rawInt ((i:Int)+1)))) }) ki'.typeIs ?_)))
 show wpAny _ _ (pure e.key) _ _ _
 exact Jg (Jg ⟨_,rfl,Jg (q _ ki' (LZ ..))⟩)
theorem EM {Q:Option Je->Jf->Prop}(hh:A.handled=none)(ki:s.heap.IsKeyIter it d i es.size ep)(k1:s.heap.get? d=some ob)(k3:ob.data= .dict es ep)(ke:es.size<=i)
  (q:∀h',OF it s.heap h'->Q none { s with heap:=h' }):wpAny (model prog w) A (pyNext (.ref it)) Q E s:=by
 obtain⟨oi,g1,g2,g3⟩:=id ki;unfold pyNext;refine IW (Lx (JM (name:=Jm "__next__") ki.typeIs Ky (J3 Ky ki.typeIs MI ?_ (MA _))))
 refine IW (Jg (IW (IW ?_)))
 first | refine IW (KW ki.typeIs (Jg ?_)) | refine IW (Lo ki.typeIs (Jg ?_))
 refine IW (wpAny_fieldsOf g1 g3 ?_)
 have own:MM "dict_keyiterator" =false:=by decide
 simp only[own,KQ,if_false]
 show wpAny _ _ (if (JF d == J0)=true then _ else _) _ _ s
 rw[if_neg (show ¬((JF d == J0)=true)from Jy)]
 refine IW (Jg (IW (Nu k1 k3 ?_)))
 rw[if_neg (by simp)]
 refine IW (Jg (IW (Om k1 k3 ?_)))
 rw[if_neg (by simp)]
 refine Jg ?_
 simp only[show ¬((i:Int)<0)from by omega,if_false,Ke,NP ke]
 refine IW ?_
 first | refine IW (KW ki.typeIs (Jg ?_)) | refine IW (Lo ki.typeIs (Jg ?_))
 show wpAny _ _ (setField (.ref it) 0 .none >>= _) _ _ s
 refine IW (Ni g1 g3 (by simp) ?_)
 show wpAny _ _ (newExc (.type "StopIteration") [] >>= _) _ _ _
 refine IW ?_
 simp only[newExc,newTuple];refine IW (Kk ?_ (by size_fits))
 refine IW (m:=Nj _ _) (wpAny_of_eq (a:=J0) (by first | rfl | (simp only[Nj];rfl)) (Kk ?_ (by size_fits)))
 simp only[raiseNew];refine IW (wpAny_handled ?_)
 rw[show A.in1.handled=none from hh]
 refine IW (Jg (wpAny_throw ?_))
 refine IW (ML (T:="StopIteration") (b:=true) ⟨_,Jk _ rfl,rfl⟩ Nk ?_)
 exact Jg (q _ (((LZ ..).extBut.push _).push _))
end
end PySem
namespace Tr
open PySem PySem.Spec PyProof.Rows L2
section
variable {X:Cx}{pins:List (Addr×Obj)}{σ:L2.St}{H:Hp}{s:Jf}{d:Addr}{ob:Obj}{kvs:List (List Key×V)}{es:Array MC}{ep:Nat}
theorem vt (I:Inv X pins σ H s)(hd:H d=some (.dT kvs))(ho:s.heap.get? d=some ob):Inv X pins σ (upd H d (.frz ob (.dT kvs))) s:=by
 have x:ObjOk X.prog X.w H s.heap d (.dT kvs):=I.hok d _ hd
 have ne:∀b (u:HO),H b=some u->(∀k,u≠ .dT k)->b≠d:=λb u e hu z=>by rw[z,hd]at e;cases e;exact hu _ rfl
 exact lM (h':=s.heap) (t':=s.toks) (ob:=.frz ob (.dT kvs)) I (by rw[hd];exact Lh) (Pj ..) ⟨ob,ho⟩ ⟨ho,x.HU (λb u _ e=>e) (λb e=>by rw[aF (ne b _ e (λ_ z=>nomatch z))];exact e) λb xs e=>by rw[aF (ne b _ e (λ_ z=>nomatch z))];exact e⟩
theorem Ae (I:Inv X pins σ H s)(hd:H d=some (.frz ob (.dT kvs)))(h0:∀o u,X.H₀ d≠some (.frz o u)):Inv X pins σ (upd H d (.dT kvs)) s:=by
 have ne:∀b,H b=none->b≠d:=λb e z=>by rw[z,hd]at e;cases e
 have ne2:∀b (u:HO),H b=some u->(∀o k,u≠ .frz o k)->b≠d:=λb u e hu z=>by rw[z,hd]at e;cases e;exact hu _ _ rfl
 have up:∀b (u:HO),H b=some u->b≠d->upd H d (.dT kvs) b=some u:=λb u e z=>by rw[aF z];exact e
 have un:∀b,H b=none->upd H d (.dT kvs) b=none:=λb e=>by rw[aF (ne b e)];exact e
 have x:ObjOk X.prog X.w H s.heap d (.frz ob (.dT kvs)):=I.hok d _ hd
 have ow:∀c b,H b=some (.own c)->upd H d (.dT kvs) b=some (.own c):=λc b e=>up b _ e (ne2 b _ e (λ_ _ z=>nomatch z))
 have tu:∀b xs,H b=some (.tup xs)->upd H d (.dT kvs) b=some (.tup xs):=λb xs e=>up b _ e (ne2 b _ e (λ_ _ z=>nomatch z))
 refine⟨I.ok,I.os,I.bare,⟨I.base.keep,I.base.slot,λb o e n hx=>un b (I.base.free b o e n hx),I.base.there,λb xs e=>tu b xs (I.base.tups b xs e),λb o u e=> ?_,λb ps e=> ?_⟩,I.loc,I.cell,un _ I.free,λy c e=>un _ (I.freeC y c e),λp hp=> ?_,λa u e=> ?_,I.len⟩
 ·exact up b _ (I.base.frzs b o u e) λz=>h0 o u (z▸e)
 ·obtain⟨more,q⟩:=I.base.tbls b ps e
  exact⟨more,up b _ q (ne2 b _ q (λ_ _ z=>nomatch z))⟩
 ·obtain⟨p1,p2,p3⟩:=I.pin p hp
  exact⟨p1,un _ p2,p3⟩
 ·by_cases ha:a=d
  ·subst ha
   rw[aG]at e;cases e;exact x.2.HU (λb u _ e=>e) (ow a) tu
  ·rw[aF ha]at e
   exact(I.hok a u e).HU (λb u _ e=>e) (ow a) tu
def Hy (d:Addr)(ob:Obj)(es:Array MC):It where
 go:=λi H=> ∃kvs,H d=some (.frz ob (.dT kvs))/\i<kvs.length
 yld:=λi H x H'=>H'=H/\∃e b,es[i]? =some e/\e.key= .ref b/\x= .ref b
 stop:=λi H=> ∃kvs,H d=some (.frz ob (.dT kvs))/\kvs.length<=i
theorem sd {P:JI}{w:Kr}{h:Heap}(x:ObjOk P w H h d (.frz ob (.dT kvs)))(hx:ob.data= .dict es ep):h.get? d=some ob/\ob.ExactDict/\(d == Lm)=false/\es.size=kvs.length/\∀(i:Nat) p,kvs[i]? =some p->∃e b,es[i]? =some e/\e.key= .ref b/\H b=some (.tup (p.1.map kV)):=by
 obtain⟨e1,z,y,xs,r,o',es',ep',e2,ex,e3,e4,nd⟩:=x;rw[e1]at e2;cases e2;rw[hx]at e3;cases e3
 have hl:es.size=xs.length:=by rw[<-J5,e4,Jd]
 refine⟨e1,ex,y,by rw[hl,L9 r],λi p hp=> ?_⟩
 have key:∀{ks:List (List Key×V)} {xs:List (List Key×Addr×Je)},Qq (λ(p:List Key×V) (q:List Key×Addr×Je)=>p.1=q.1/\H q.2.1=some (.tup (p.1.map kV))/\RelV p.2 q.2.2) ks xs->∀{i:Nat} {p},ks[i]? =some p->∃q,xs[i]? =some q/\H q.2.1=some (.tup (p.1.map kV)):=by
  intro ks xs r
  induction r with
  | nil=>intro i p h;simp at h
  | cons a _ ih=>
   intro i p h
   cases i with
   | zero=>simp only[NB,Mo]at h ⊢;subst h;exact⟨_,rfl,a.2.1⟩
   | succ i=>simp only[KB]at h ⊢;exact ih h
 obtain⟨q,hq,hb⟩:=key r hp;refine⟨entryOfKey (MD (cH P w)) q,q.2.1,?_,rfl,hb⟩
 rw[<-Mz,e4,JN,hq]
 rfl
theorem uW {P:JI}{w:Kr}{K:IX}{tg:Expr}{it:Addr}(hx:ob.data= .dict es ep):vK P w K tg (Hy d ob es) [it] it (λi h=>h.IsKeyIter it d i es.size ep) where
 mem:=by simp
 obj:=λi h st b hb=>by
  have e:b=it:=by simpa using hb
  subst e;obtain⟨o,e,c,d⟩:=st;exact⟨o,e,λv z=>by rw[d]at z;cases z⟩
 keep:=λi h h' st k=>st.at λo e=>k it (by simp) o e
 item:=by
  intro X hP hw hK hc i pins s σ H E I hf st hg;subst hP hw hK;obtain⟨kvs,hq,hi⟩:=hg;obtain⟨f0,f1,f2,f3,f4,f5⟩:=hf it (by simp)
  obtain⟨e1,ex,_,sz,at_⟩:=sd (I.hok d _ hq) hx;obtain⟨e,b,ge,ek,_⟩:=at_ i kvs[i] (Jo hi)
  refine Ca st e1 hx ge λh' st' sb=> ?_
  have I1:Inv X pins σ H { s with heap:=h' }:=I.turned (t':=s.toks) (λb o hb e=>(sb.2 b hb).trans e) f0 f1 f3 f4 f5
  obtain⟨o,eo,c,dd⟩:=id st';exact⟨e.key,rfl,wz (s:={ s with heap:=h' }) eo c dd (by decide) ⟨.ref b,H,I1,ek,⟨rfl,e,b,ge,ek,rfl⟩,st',λb hb=>(hf b hb).1⟩⟩
 done:=by
  intro X hP hw hK hc i pins s σ H E I hf st hg;subst hP hw hK;obtain⟨kvs,hq,hi⟩:=hg;obtain⟨f0,f1,f2,f3,f4,f5⟩:=hf it (by simp)
  obtain⟨e1,ex,_,sz,_⟩:=sd (I.hok d _ hq) hx;exact EM (I.ok.hd hc) st e1 hx (by omega) λh' eb=>⟨rfl,I.turned (t':=s.toks) (λb o hb e=>eb b o hb e) f0 f1 f3 f4 f5⟩
 self:=λ_ _ _ _ _ st h=>wpAny_pyIter_keyiter st h
def iDF (d:Addr)(ob:Obj)(es:Array MC)(te:TE):TI:=λσ H R=>te σ H λx H1=>x= .ref d/\(∃kvs,H1 d=some (.frz ob (.dT kvs)))/\R (Hy d ob es) H1
theorem yY {tg l:Expr}{te:TE}(hx:ob.data= .dict es ep)(hl:PE X l te):PI X tg l (iDF d ob es te):=by
 intro pins s σ H R I h;refine cG (hl pins s σ H _ I h) λv s1 hh_=> ?_
 obtain⟨x,H1,I1,r1,q1⟩:=hh_;obtain⟨e,⟨kvs,hq⟩,q⟩:=q1;subst e;obtain rfl:v=JF d:=r1;obtain⟨e1,ex,y,sz,_⟩:=sd (I1.hok d _ hq) hx;refine B9 y e1 ex hx ⟨s1.heap.objs.size,[s1.heap.objs.size],_,_,H1,rfl,I1.kept (t':=s1.toks) λb o e=>IY _ e,uW hx,⟨_,Jk _ rfl,rfl,rfl⟩,λb hb=> ?_,q⟩
 have e:b=s1.heap.objs.size:=by simpa using hb
 subst e;exact I1.HZ (Jq _) (I1.hok.fresh (Jq _))
end
theorem mI {K:IX}{O:Ow}{H:Hp}:∀{l:List T} {kk:List Key},kO l=some kk->Reps K O H l (kk.map kV)
 | [],kk,h=>by cases h;exact Reps.nil_
 | t::l,kk,h=>by
  unfold kO at h
  split at h
  ·rename_i k r hk hr
   cases h;refine Reps.HG ?_ (mI hr)
   cases t with
   | int i=>cases hk;exact Rep.HI i
   | str x=>cases hk;exact Rep.IF x
   | _=>cases hk
  ·cases h
theorem zR {K:IX}{O:Ow}{H:Hp}{t:T}{kk:List Key}{b:Addr}(h:aW t=some kk)(hb:H b=some (.tup (kk.map kV)))(n:¬ O b):Rep K O H t (.ref b):=by
 cases t with
 | tup l=>exact Rep.HC.mpr ⟨b,_,rfl,n,hb,mI h⟩
 | _=>cases h
section
variable {X:Cx}{d:Addr}{ob:Obj}{kvs:List (List Key×V)}{es:Array MC}{ep:Nat}
theorem Ac {K:IX}{O:Ow}{H:Hp}{ks:List T}(hd:H d=some (.frz ob (.dT kvs)))(hk:ks.map aW=kvs.map (λp=>some p.1))(nO:¬ O d)(tr:∀a vs,H a=some (.tup vs)->¬ O a)
  (at_:∀(i:Nat) p,kvs[i]? =some p->∃e b,es[i]? =some e/\e.key= .ref b/\H b=some (.tup (p.1.map kV))):Hb K O H ks (Hy d ob es):=λP O' hP hO i Hc hs ht=>by
 have hl:ks.length=kvs.length:=by have:=congrArg Kn hk;rwa [Jd,Jd]at this
 have hnP:¬ P d:=λz=>(hP d z).elim nO λw=>by rw[w.1]at hd;cases hd
 have hd':Hc d=some (.frz ob (.dT kvs)):=hs _ _ hd hnP;refine⟨λhi=>⟨kvs,hd',by omega⟩,λt ht'=> ?_⟩
 have hi:i<kvs.length:=by rw[<-hl];exact(Ju.mp ht').1
 refine⟨⟨kvs,hd',hi⟩,λx Hc' y=> ?_⟩
 obtain⟨rfl,e,b,ge,ek,rfl⟩:=y;obtain⟨e2,b2,ge2,ek2,hb⟩:=at_ i kvs[i] (Jo hi)
 rw[ge]at ge2;cases ge2;rw[ek]at ek2;cases ek2
 have kt:aW t=some kvs[i].1:=by
  have:=congrArg (λl=>l[i]?) hk
  simp only[JN,ht',Jo hi,N7,Mo]at this
  exact this
 exact⟨Same.refl _,(zR kt hb (tr b _ hb)).move hP hO hs⟩
def tPIF (X:Cx)(d:Addr)(ob:Obj)(es:Array MC)(i:Nat):TI:=λσ H R=>σ[i]? =some (some (.ref d))/\(∃kvs,H d=some (.frz ob (.dT kvs)))/\R (Hy d ob es) H
theorem DO {elt tg:Expr}{ifs:List Expr}{scope:Mi}{spos py pos pn:Pos}{N':List Str}{src:List (Option Nat)}{tgt:T->En->Rs En}{fc:En->Rs Bool}{fe:En->Rs T}(i j:Nat){y D:Str}
  (hc:X.calm=true) (S:LcScope X scope N' src)
  (block:∀cl C s₀ H₀ fp,AT (bJ X scope cl N' C s₀ H₀ fp) tg tgt/\wW (bJ X scope cl N' C s₀ H₀ fp) ifs (yc (bJ X scope cl N' C s₀ H₀ fp) fc)/\cN (bJ X scope cl N' C s₀ H₀ fp) elt fe)
  (hN:X.N.Nodup) (hD:X.N[i]? =some D:=by rfl) (hDv:uN X.env.scope D:=by first | exact Kz rfl | exact Ki (Kz rfl) | exact Ki (Ki rfl)) (hDd:(D == ("__debug__" : Str))=false:=by decide) (hDc:(D == ("__classdict__" : Str))=false:=by decide)
  (hiy:X.N[j]? =some y:=by rfl) (hy:Loc X.env.scope y:=by first | exact Kz rfl | exact Ki rfl) (hsw:Kj (.ListComp elt [⟨tg,.Name D pn,ifs,0⟩] scope pos) (some (.Name y py)) spos.line X.env=pure true:=by rfl)
  (hf:X.fn y=true\/X.env.scope.names.lookup y=some .local:=by first | exact .inl rfl | exact .inr rfl | assumption) (hs:∀x,JQ (.Name D pn) X.env x=pure x:=by intro _;rfl) :
  pi X (.Assign [.Name y py] (.ListComp elt [⟨tg,.Name D pn,ifs,0⟩] scope pos) spos) (qY i j src tgt fc fe):=by
 intro pins s σ H E0 I ⟨Z,B,M,E,h⟩;unfold qY at h
 split at h
 ·rename_i ks ts hi
  obtain⟨v,sv,r⟩:=E.env.own i _ hi;obtain⟨d,kvs,rfl,hM,hd,hk,rt⟩:=r
  cases qt:dO (iD (vr i)) src tgt fc fe (disown i Z)with
  | bad=>rw[qt]at h;exact h.elim
  | err c=>rw[qt]at h;exact h.elim
  | ok t=>
  rw[qt]at h
  dsimp only at h
  by_cases hh:t.nk true=true/\j<Z.length
  ·rw[if_pos hh]at h
   obtain⟨z0,y0,xs0,r0,ob,es,ep,ho,hex,hdat,he,hnd⟩:=(show ObjOk X.prog X.w H s.heap d (.dT kvs)from I.hok d _ hd)
   have h0:∀o u,X.H₀ d≠some (.frz o u):=λo u e=>by
    have:=I.base.frzs d o u e;rw[hd]at this;cases this
   have I1:=vt I hd ho
   have hPG:∀cl C s₀ H₀ fp,PG (bJ X scope cl N' C s₀ H₀ fp) tg (xc X tgt):=λcl C s₀ H₀ fp=>(block cl C s₀ H₀ fp).1
   have hPI:∀cl C s₀ H₀ fp,wW (bJ X scope cl N' C s₀ H₀ fp) ifs (tPT0 X.K fc):=λcl C s₀ H₀ fp pins s σ H Q I h=>(block cl C s₀ H₀ fp).2.1 pins s σ H Q I (tPT0.up (X:=bJ X scope cl N' C s₀ H₀ fp) h)
   have hPE:∀cl C s₀ H₀ fp,PE (bJ X scope cl N' C s₀ H₀ fp) elt (tP0 X.K fe):=λcl C s₀ H₀ fp pins s σ H Q I h=>(block cl C s₀ H₀ fp).2.2 pins s σ H Q I (tP0.up (X:=bJ X scope cl N' C s₀ H₀ fp) h)
   have hPI2:PI X tg (.Name D pn) (tPIF X d ob es i):=PI.imp (yY (d:=d) (ob:=ob) hdat (kG hD hDv hDd hDc)) λσ H R ⟨a,b,c⟩=>⟨_,a,rfl,b,c⟩
   have rule:=C2 (g:=xc X tgt) (tc:=tPT0 X.K fc) (te:=tP0 X.K fe) (i:=j) (y:=y) (py:=py) (spos:=spos) (pos:=pos) hc S hPI2 (λcl C s₀ H₀ fp=>⟨hPG cl C s₀ H₀ fp,hPI cl C s₀ H₀ fp,hPE cl C s₀ H₀ fp⟩) hN hiy hy hsw hf hs
   have sO:SameO (λa=>a=d) H (upd H d (.frz ob (.dT kvs))):=λb o e nb=>by rw[aF nb];exact e
   have Md:M i d:=(hM d).mpr rfl
   have Od:OO B M d:=.inr ⟨i,Md⟩;refine cG (rule pins s σ (upd H d (.frz ob (.dT kvs))) { nx:=λσ' H'=>H' d=some (.frz ob (.dT kvs))/\E0.nx σ' (upd H' d (.dT kvs)),rt:=λ_ _=>False } I1 ?_) λf s' hf=> ?_
   ·-- the Pd,with the dict standing still
    have rdE:∀{u:T} {v:V},Rep X.K (OO B M) H u v->Rep X.K (λa=>OO B M a/\¬ M i a) (upd H d (.frz ob (.dT kvs))) u v:=λr=>(Rep.keep sO (λa z=>by rw[z];exact Od) r).less λa z=>z.1
    have E1:EnvM X.K (λa=>OO B M a/\¬ M i a) (M.set i vj) (upd H d (.frz ob (.dT kvs))) (disown i Z) σ:=by
     have ed:disown i Z=Z.set i (.va (.dct ks ts)):=by unfold disown;rw[hi];rfl
     have il:i<Z.length:=(Ju.mp hi).1
     rw[ed];refine⟨by rw[Kp];exact E.env.len,λk u e=> ?_,λk o e=> ?_,λk a z=> ?_,λk k' a z1 z2=> ?_,λa z=> ?_⟩
     ·by_cases hk':i=k
      ·subst hk'
       rw[JA il]at e
       cases e;exact⟨.ref d,sv,Rep.HH.mpr ⟨d,kvs,rfl,λz=>z.2 Md,.inr ⟨ob,aG⟩,hk,(Reps.keep sO (λa z=>by rw[z];exact Od) rt).less λa z=>z.1⟩⟩
      ·rw[JD hk']at e
       obtain⟨v,e1,e2⟩:=E.env.val k u e;exact⟨v,e1,rdE e2⟩
     ·by_cases hk':i=k
      ·subst hk'
       rw[JA il]at e
       cases e
      ·rw[JD hk']at e
       obtain⟨v,e1,e2⟩:=E.env.own k o e;refine⟨v,e1,?_⟩
       have em:M.set i vj k=M k:=by unfold Mn.set;rw[if_neg λz=>hk' z.symm]
       rw[em];exact e2.move (P:=λa=>a=d) (λa z=> .inl (by rw[z];exact Od)) (λa z=> .inl z.1) sO λa z w=>hk' (E.env.dis k i a z (by rw[w];exact Md)).symm
     ·unfold Mn.set at z
      split at z
      ·exact z.elim
      ·rename_i hk'
       exact⟨E.env.sub k a z,λw=>hk' (E.env.dis k i a z w)⟩
     ·unfold Mn.set at z1 z2
      split at z1
      ·exact z1.elim
      ·split at z2
       ·exact z2.elim
       ·exact E.env.dis k k' a z1 z2
     ·have ne:a≠d:=λw=>z.2 (by rw[w];exact Md)
      rcases E.env.trk a z.1 with⟨vs,q⟩ | ⟨k',q⟩
      ·exact .inl ⟨vs,by rw[aF ne];exact q⟩
      ·exact .inr ⟨k',by rw[aF ne];exact q⟩
    have fk:iD (vr i) (disown i Z)= .ok ks:=by
     have:vr i (disown i Z)= .ok (.dct ks ts):=by
      unfold vr disown;rw[hi];simp only[JA (Ju.mp hi).1]
      rfl
     unfold iD;rw[this]
     rfl
    have qt':dO (λ_=> .ok ks) src tgt fc fe (disown i Z)= .ok t:=by
     rw[<-qt];unfold dO;rw[fk]
    have rd:=rZ (X:=X) (fi:=λ_=> .ok ks) (src:=src) (tgt:=tgt) (fc:=fc) (fe:=fe) (σ:=σ) (H:=upd H d (.frz ob (.dT kvs))) (Q:=λv H'=>H' d=some (.frz ob (.dT kvs))/\E0.nx (σ.set j (some v)) (upd H' d (.dT kvs))) ⟨disown i Z,_,⟨_,E1⟩,by
     rw[qt'];intro H' sm v rv
     have hd':H' d=some (.frz ob (.dT kvs)):=sm _ _ aG;refine⟨hd',?_⟩
     have sm2:Same H (upd H' d (.dT kvs)):=λb o e=>by
      by_cases hb:b=d
      ·subst hb;rw[aG,<-hd];exact e
      ·rw[aF hb];exact sm b o (by rw[aF hb];exact e)
     have rl:Rep X.K (OO B M) H' t v:=Rep.lend (D:=true) (λa z=>by
      by_cases hm:M i a
      ·refine .inr ?_
       rw[if_pos rfl,(hM a).mp hm];exact⟨kvs,.inr ⟨ob,hd'⟩⟩
      ·exact .inl ⟨z,hm⟩) hh.1 rv
     have r2:Rep X.K (OO B M) (upd H' d (.dT kvs)) t v:=Rep.keep (P:=λa=>a=d) (λb o e nb=>by rw[aF nb];exact e) (λa z=>by rw[z];exact Od) rl
     exact h _ _ M (SameO.of sm2) ⟨(E.env.same sm2).set hh.2 r2,E.mine⟩ λa z=> .inl z⟩
    obtain⟨Z',O',⟨M',E'⟩,P'⟩:=rd;refine⟨sv,⟨kvs,aG⟩,P' _ (Same.refl _) _ (Ac aG hk (λz=> ?_) (λa vs q z=> ?_) (sd (I1.hok d _ aG) hdat).2.2.2.2)⟩
    ·rcases E'.trk d z with⟨_,q⟩ | ⟨_,q⟩ <;> rw[aG]at q <;> cases q
    ·rcases E'.trk a z with⟨_,w⟩ | ⟨_,w⟩ <;> rw[q]at w <;> cases w
   ·cases f with
    | next=>
     obtain⟨σ',H',I',e1,e2⟩:=hf
     exact⟨σ',_,Ae I' e1 h0,e2⟩
    | brk=>obtain⟨_,_,_,z⟩:=hf;exact z.elim
    | cont=>obtain⟨_,_,_,z⟩:=hf;exact z.elim
    | ret u=>obtain⟨_,_,_,_,_,z⟩:=hf;exact z.elim
  ·rw[if_neg hh]at h;exact h.elim
 ·exact h.elim
end
end Tr
namespace PySem
open Sem (wp)
open L2 (itAt)
def sqAt (tt:Bool)(h:Heap)(a:Addr)(xs:Array Je):Prop:=if tt then h.IsTuple a xs else h.IsList a xs
theorem sqAt.keep {tt:Bool}{h h':Heap}{a:Addr}{xs:Array Je}(q:sqAt tt h a xs)(k:∀o,h.get? a=some o->h'.get? a=some o):sqAt tt h' a xs:=by
 cases tt with
 | true=>exact ig (show h.IsTuple a xs from q) k
 | false=>exact Heap.IsList.at (show h.IsList a xs from q) k
section
variable {prog:JI}{w:Kr}{A:J9}{E:Je->Jf->Prop}{s:Jf}
theorem rK {tt:Bool}{it a:Addr}{k:Nat}{xs:Array Je}{x:Je}{Q:Je->Jf->Prop}(hi:itAt tt s.heap it a k)(hs:sqAt tt s.heap a xs)(hx:xs[k]? =some x)
  (hQ:∀h',itAt tt h' it a (k+1)->LC it s.heap h'->Q x { s with heap:=h' }):wpAny (model prog w) A (Jx (.ref it)) Q E s:=by
 cases tt with
 | true=>exact Enu.tupNext hi hs hx hQ
 | false=>exact Mm hi hs hx hQ
theorem zq {tt:Bool}{it a:Addr}{k:Nat}{xs:Array Je}{Q:Je->Jf->Prop}(hh:A.handled=none)(hi:itAt tt s.heap it a k)(hs:sqAt tt s.heap a xs)(hx:xs[k]? =none)
  (hE:∀h' e,OF it s.heap h'->(∃o,h'.get? e=some o/\o.cls= .type "StopIteration")->E (.ref e) { s with heap:=h' }):wpAny (model prog w) A (Jx (.ref it)) Q E s:=by
 cases tt with
 | true=>exact Enu.tupStop hh hi hs hx hE
 | false=>exact Ol hh hi hs hx hE
structure Zw (h:Heap)(n a1 a2:Nat)(t1 t2:Bool)(k:Nat):Prop where
 pr:LI h (n+2) (.ref n) (.ref (n+1))
 ow:∃a b,LI h (n+3) a b
 i1:itAt t1 h n a1 k
 i2:itAt t2 h (n+1) a2 k
variable {n a1 a2 k:Nat}{t1 t2:Bool}{xs ys:Array Je}{x y:Je}
theorem Zw.keep {h h':Heap}(q:Zw h n a1 a2 t1 t2 k)(e:∀c o,n<=c->c<n+4->h.get? c=some o->h'.get? c=some o):Zw h' n a1 a2 t1 t2 k where
 pr:=e _ _ (by omega) (by omega) q.pr
 ow:=let ⟨a,b,z⟩:=q.ow;⟨a,b,e _ _ (by omega) (by omega) z⟩
 i1:=q.i1.keep λo=>e _ o (by omega) (by omega)
 i2:=q.i2.keep λo=>e _ o (by omega) (by omega)
theorem A2 {Q:Je->Jf->Prop}(q:Zw s.heap n a1 a2 t1 t2 k)(kz:zO s.heap (n+4) (n+2) (n+3) .none (.bool false))(s1:sqAt t1 s.heap a1 xs)(s2:sqAt t2 s.heap a2 ys)(b1:a1<n\/n+4<a1)(b2:a2<n\/n+4<a2)(hx:xs[k]? =some x)(hy:ys[k]? =some y)
  (kq:∀h' p,s.heap.objs.size<=p->LI h' p x y->zO h' (n+4) (n+2) (n+3) (rawInt p) (.bool false)->Zw h' n a1 a2 t1 t2 (k+1)->(∀c o,c≠n->c≠n+1->c≠n+3->c≠n+4->s.heap.get? c=some o->h'.get? c=some o)->Q (.ref p) { s with heap:=h' }) :
  wpAny (model prog w) A (Builtin.«zip.__next__» ⟨[.ref (n+4)],[]⟩) (λfin s'=> ∃v,fin= .done (.ret v)/\Q v s') E s:=by
 obtain⟨oa,ob,ho⟩:=q.ow
 show wpAny _ _ (field (.ref (n+4)) 2 >>= _) _ _ _
 refine IW (JS kz rfl (x:=.bool false) rfl ?_)
 show wpAny _ _ (field (.ref (n+4)) 3 >>= _) _ _ _
 refine IW (JS kz rfl (x:=.ref (n+2)) rfl ?_)
 refine IW (J8 q.pr rfl ?_)
 show wpAny _ _ (Jr (.ref (n+4)) >>= _) _ _ _
 have fr:wpAny (model prog w) A (Jr (.ref (n+4))) (λv s'=>v=true/\s'=s) E s:=by
  unfold Jr;exact IW (JS kz rfl (x:=.none) rfl (Jg ⟨rfl,rfl⟩))
 refine IW (Ln fr (λv s' hv=> ?_) λ_ _ z=>z)
 obtain⟨rfl,rfl⟩:=hv;simp only[if_true];refine IW (Ms (IW (JS kz rfl (x:=.ref (n+3)) rfl (IW (Km kz (by simp) λh₁ kz₁ e₁=> ?_)))))
 replace kz₁:zO h₁ (n+4) (n+2) (n+3) .ellipsis (.bool false):=kz₁
 have q₁:Zw h₁ n a1 a2 t1 t2 k:=q.keep λc o _ hc g=>e₁.extBut c o (bU (by omega)) g
 simp only[NL,N6,Lk,LW];refine IW (IW (IW (Mh ?_)))
 show wpAny _ _ (Jx (.ref n) >>= _) _ _ _
 refine IW (rK q₁.i1 (s1.keep λo g=>e₁.extBut _ _ (bU (by omega)) g) hx λh₂ g₂ e₂=>Jg ?_)
 have o₂:LI h₂ (n+3) oa ob:=e₂.extBut _ _ (bU (by omega)) (e₁.extBut _ _ (bU (by omega)) ho)
 refine IW (J8 o₂ rfl (IW (Lf o₂ λh₃ o₃ e₃=>IW (NJ (Jg ?_)))))
 replace o₃:LI h₃ (n+3) x ob:=o₃
 refine IW (IW (Mh ?_))
 show wpAny _ _ (Jx (.ref (n+1)) >>= _) _ _ _
 refine IW (rK (q₁.i2.keep λo g=>e₃.extBut _ _ (bU (by omega)) (e₂.extBut _ _ (bU (by omega)) g)) (s2.keep λo g=>e₃.extBut _ _ (bU (by omega)) (e₂.extBut _ _ (bU (by omega)) (e₁.extBut _ _ (bU (by omega)) g))) hy λh₄ g₄ e₄=>Jg ?_)
 have o₄:LI h₄ (n+3) x ob:=e₄.extBut _ _ (bU (by omega)) o₃
 refine IW (J8 o₄ rfl (IW (Lf o₄ λh₅ o₅ e₅=>IW (NJ (Jg (Jg ?_))))))
 replace o₅:LI h₅ (n+3) x y:=o₅
 refine IW (J8 o₅ rfl (IW (OC ?_)))
 have z₅:h₅.objs.size=s'.heap.objs.size:=by rw[e₅.1,e₄.1,e₃.1,e₂.1,e₁.1]
 have up:∀c o,c≠n->c≠n+1->c≠n+3->h₁.get? c=some o->h₅.get? c=some o:=λc o c1 c2 c3 g=>e₅.extBut _ _ c3 (e₄.extBut _ _ c2 (e₃.extBut _ _ c3 (e₂.extBut _ _ c1 g)))
 show wpAny _ _ (Kw (.ref (n+4)) (.ref h₅.objs.size) >>= _) _ _ _
 have z5:zO (h₅.push { cls:=.type "tuple",data:=.seq #[x,y] }) (n+4) (n+2) (n+3) .ellipsis (.bool false):=IY _ (up _ _ (bU (by omega)) (bU (by omega)) (bU (by omega)) kz₁)
 have hn:n+4<h₅.objs.size:=Jn (up _ _ (bU (by omega)) (bU (by omega)) (bU (by omega)) kz₁)
 refine IW ?_
 unfold Kw;refine IW (Km z5 (by simp) λh₇ z₇ e₇=> ?_)
 replace z₇:zO h₇ (n+4) (n+2) (n+3) (rawInt h₅.objs.size) (.bool false):=z₇
 refine Km z₇ (by simp) λh₈ z₈ e₈=>Jg ⟨_,rfl,?_⟩
 replace z₈:zO h₈ (n+4) (n+2) (n+3) (rawInt h₅.objs.size) (.bool false):=z₈
 have up8:∀c o,c≠n+4->h₅.get? c=some o->h₈.get? c=some o:=λc o c1 g=>e₈.extBut _ _ c1 (e₇.extBut _ _ c1 (IY _ g))
 refine kq h₈ h₅.objs.size (LD z₅.symm) (e₈.extBut _ _ (bU (by omega)) (e₇.extBut _ _ (bU (by omega)) (Jk _ rfl))) z₈ ⟨up8 _ _ (bU (by omega)) (up _ _ (bU (by omega)) (bU (by omega)) (bU (by omega)) q₁.pr),⟨x,y,up8 _ _ (bU (by omega)) o₅⟩,?_,?_⟩ λc o c1 c2 c3 c4 g=>up8 c o c4 (up c o c1 c2 c3 (e₁.extBut _ _ c4 g))
 ·exact g₂.keep λo g=>up8 _ _ (bU (by omega)) (e₅.extBut _ _ (bU (by omega)) (e₄.extBut _ _ (bU (by omega)) (e₃.extBut _ _ (bU (by omega)) g)))
 ·exact g₄.keep λo g=>up8 _ _ (bU (by omega)) (e₅.extBut _ _ (bU (by omega)) g)
theorem Dh {Q:Fin->Jf->Prop}(hh:A.handled=none)(q:Zw s.heap n a1 a2 t1 t2 k)(kz:zO s.heap (n+4) (n+2) (n+3) .none (.bool false))(s1:sqAt t1 s.heap a1 xs)(s2:sqAt t2 s.heap a2 ys)(b1:a1<n\/n+4<a1)(b2:a2<n\/n+4<a2)(hend:xs[k]? =none\/ys[k]? =none)
  (ke:∀h' e,(∀c o,c≠n->c≠n+1->c≠n+3->c≠n+4->s.heap.get? c=some o->h'.get? c=some o)->(∃o,h'.get? e=some o/\o.cls= .type "StopIteration")->E (.ref e) { s with heap:=h' }) :
  wpAny (model prog w) A (Builtin.«zip.__next__» ⟨[.ref (n+4)],[]⟩) Q E s:=by
 show wpAny _ _ (field (.ref (n+4)) 2 >>= _) _ _ _
 refine IW (JS kz rfl (x:=.bool false) rfl ?_)
 show wpAny _ _ (field (.ref (n+4)) 3 >>= _) _ _ _
 refine IW (JS kz rfl (x:=.ref (n+2)) rfl ?_)
 refine IW (J8 q.pr rfl ?_)
 show wpAny _ _ (Jr (.ref (n+4)) >>= _) _ _ _
 have fr:wpAny (model prog w) A (Jr (.ref (n+4))) (λv s'=>v=true/\s'=s) E s:=by
  unfold Jr;exact IW (JS kz rfl (x:=.none) rfl (Jg ⟨rfl,rfl⟩))
 refine IW (Ln fr (λv s' hv=> ?_) λ_ _ z=>z)
 obtain⟨rfl,rfl⟩:=hv;simp only[if_true];refine IW (Ms (IW (JS kz rfl (x:=.ref (n+3)) rfl (IW (Km kz (by simp) λh₁ kz₁ e₁=> ?_)))))
 replace kz₁:zO h₁ (n+4) (n+2) (n+3) .ellipsis (.bool false):=kz₁
 have q₁:Zw h₁ n a1 a2 t1 t2 k:=q.keep λc o _ hc g=>e₁.extBut c o (bU (by omega)) g
 simp only[NL,N6,Lk,LW];refine IW (IW (IW (Mh ?_)))
 show wpAny _ _ (Jx (.ref n) >>= _) _ _ _
 cases hx:xs[k]? with
 | none=>
  refine IW (zq hh q₁.i1 (s1.keep λo g=>e₁.extBut _ _ (bU (by omega)) g) hx λh₂ e e₂ he=> ?_)
  obtain⟨oe,hoe,hce⟩:=he
  have hz₂:zO h₂ (n+4) (n+2) (n+3) .ellipsis (.bool false):=e₂ _ _ (bU (by omega)) kz₁
  have hez:e≠n+4:=λx=>by subst x;rw[hz₂]at hoe;cases hoe;simp at hce
  exact Km hz₂ (by simp) λh₃ _ hs₃=>ke h₃ e (λc o c1 c2 c3 c4 g=>hs₃.extBut _ _ c4 (e₂ _ _ c1 (e₁.extBut _ _ c4 g))) ⟨oe,hs₃.extBut _ _ hez hoe,hce⟩
 | some x=>
  have hy:ys[k]? =none:=by
   rcases hend with h | h
   ·rw[hx]at h;cases h
   ·exact h
  obtain⟨oa,ob,ho⟩:=q.ow;refine IW (rK q₁.i1 (s1.keep λo g=>e₁.extBut _ _ (bU (by omega)) g) hx λh₂ g₂ e₂=>Jg ?_)
  have o₂:LI h₂ (n+3) oa ob:=e₂.extBut _ _ (bU (by omega)) (e₁.extBut _ _ (bU (by omega)) ho)
  refine IW (J8 o₂ rfl (IW (Lf o₂ λh₃ o₃ e₃=>IW (NJ (Jg ?_)))))
  refine IW (IW (Mh ?_))
  show wpAny _ _ (Jx (.ref (n+1)) >>= _) _ _ _
  refine IW (zq hh (q₁.i2.keep λo g=>e₃.extBut _ _ (bU (by omega)) (e₂.extBut _ _ (bU (by omega)) g)) (s2.keep λo g=>e₃.extBut _ _ (bU (by omega)) (e₂.extBut _ _ (bU (by omega)) (e₁.extBut _ _ (bU (by omega)) g))) hy λh₄ e e₄ he=> ?_)
  obtain⟨oe,hoe,hce⟩:=he
  have hz₄:zO h₄ (n+4) (n+2) (n+3) .ellipsis (.bool false):=e₄ _ _ (bU (by omega)) (e₃.extBut _ _ (bU (by omega)) (e₂.extBut _ _ (bU (by omega)) kz₁))
  have hez:e≠n+4:=λx=>by subst x;rw[hz₄]at hoe;cases hoe;simp at hce
  exact Km hz₄ (by simp) λh₅ _ hs₅=>ke h₅ e (λc o c1 c2 c3 c4 g=>hs₅.extBut _ _ c4 (e₄ _ _ c2 (e₃.extBut _ _ c3 (e₂.extBut _ _ c1 (e₁.extBut _ _ c4 g))))) ⟨oe,hs₅.extBut _ _ hez hoe,hce⟩
abbrev Di (h:Heap)(t1:Bool)(a1:Addr):Heap:=h.push { cls:=.type (if t1 then "tuple_iterator" else "list_iterator"),data:=.fields #[.ref a1,.int 0 0] }
end
section
variable {prog:JI}{w:Kr}{A:J9}{E:Je->Jf->Prop}{s:Jf}
theorem Ad {tt:Bool}{a:Addr}{xs:Array Je}{Q:Je->Jf->Prop}(q:sqAt tt s.heap a xs)(h:Q (.ref s.heap.objs.size) { s with heap:=Di s.heap tt a }):wpAny (model prog w) A (pyIter (.ref a)) Q E s:=by
 cases tt with
 | true=>exact K8 (show s.heap.IsTuple a xs from q) h
 | false=>exact LP (show s.heap.IsList a xs from q) h
end
abbrev Hg (h:Heap)(t1 t2:Bool)(l t:Addr):Heap:=Di (Di h t1 l) t2 t
abbrev Hf (h:Heap)(t1 t2:Bool)(l t:Addr):Heap:=(Hg h t1 t2 l t).push { cls:=.type "tuple",data:=.seq #[.ref h.objs.size,.ref (Di h t1 l).objs.size] }
abbrev He (h:Heap)(t1 t2:Bool)(l t:Addr):Heap:=(Hf h t1 t2 l t).push { cls:=.type "tuple",data:=.seq #[.none,.none] }
abbrev CN (h:Heap)(t1 t2:Bool)(l t:Addr):Heap:=(He h t1 t2 l t).push { cls:=.type "zip",data:=.fields #[.none,.bool false,.bool false,.ref (Hg h t1 t2 l t).objs.size,.ref (Hf h t1 t2 l t).objs.size] }
theorem zF (t1 t2:Bool)(l t:Addr)(xs ys:Array Je):Meets (Builtin.«zip.__new__» ⟨[.type "zip",.ref l,.ref t],[]⟩) (λ_ R s=>sqAt t1 s.heap l xs/\sqAt t2 s.heap t ys/\R (.ok (.ret (.ref (He s.heap t1 t2 l t).objs.size))) { s with heap:=CN s.heap t1 t2 l t }):=
 .of_wp λprog w A R s q=>by
  obtain⟨hp,g,d,tk,os⟩:=s;obtain⟨a1,a2,q⟩:=q
  have k0:=sub_zip
  have k1:sqAt t1 (Ny ⟨hp,g,d,tk,os⟩) l xs:=a1
  have k2:sqAt t2 (Ny ⟨Di hp t1 l,g,d,tk,os⟩) t ys:=sqAt.keep a2 λo e=>IY _ e
  wp_walk using Ad k1,Ad k2
  exact⟨_,rfl,q⟩
section
variable {prog:JI}{w:Kr}{A:J9}{E:Je->Jf->Prop}{s:Jf}
theorem A3 {t1 t2:Bool}{l t:Addr}{xs ys:Array Je}{Q:Je->Jf->Prop}(a1:sqAt t1 s.heap l xs)(a2:sqAt t2 s.heap t ys)
  (q:∀h',Zw h' s.heap.objs.size l t t1 t2 0->zO h' (s.heap.objs.size+4) (s.heap.objs.size+2) (s.heap.objs.size+3) .none (.bool false)->h'.objs.size=s.heap.objs.size+5 →
   (∀c o,s.heap.get? c=some o->h'.get? c=some o)->Q (.ref (s.heap.objs.size+4)) { s with heap:=h' }) :
  wpAny (model prog w) A (call (.type "zip") [.ref l,.ref t]) Q E s:=by
 refine PJ F.called_zip (by decide) (PV _ _) (Qh _ _) (λobj=>Ov obj _ _) Qi (zF t1 t2 l t xs ys) ⟨a1,a2,?_⟩
 have z1:(Di s.heap t1 l).objs.size=s.heap.objs.size+1:=J6 ..
 have z2:(Hg s.heap t1 t2 l t).objs.size=s.heap.objs.size+2:=by rw[J6,z1]
 have z3:(Hf s.heap t1 t2 l t).objs.size=s.heap.objs.size+3:=by rw[J6,z2]
 have z4:(He s.heap t1 t2 l t).objs.size=s.heap.objs.size+4:=by rw[J6,z3]
 have z5:(CN s.heap t1 t2 l t).objs.size=s.heap.objs.size+5:=by rw[J6,z4]
 have g5:(CN s.heap t1 t2 l t).get? (He s.heap t1 t2 l t).objs.size=some _:=Jk _ rfl
 have g4:(CN s.heap t1 t2 l t).get? (Hf s.heap t1 t2 l t).objs.size=some _:=IY _ (Jk _ rfl)
 have g3:(CN s.heap t1 t2 l t).get? (Hg s.heap t1 t2 l t).objs.size=some _:=IY _ (IY _ (Jk _ rfl))
 have g2:(CN s.heap t1 t2 l t).get? (Di s.heap t1 l).objs.size=some _:=IY _ (IY _ (IY _ (Jk _ rfl)))
 have g1:(CN s.heap t1 t2 l t).get? s.heap.objs.size=some _:=IY _ (IY _ (IY _ (IY _ (Jk _ rfl))))
 have up:∀c o,s.heap.get? c=some o->(CN s.heap t1 t2 l t).get? c=some o:=λc o e=>IY _ (IY _ (IY _ (IY _ (IY _ e))))
 show _/\_
 rw[z2,z3,z4]at g5;rw[z1,z2]at g3;rw[z3]at g4;rw[z1]at g2;rw[z4];refine⟨⟨_,g5,rfl⟩,q _ ⟨g3,⟨_,_,g4⟩,?_,?_⟩ g5 z5 up⟩
 ·cases t1 with
  | true=>exact⟨_,g1,rfl,rfl⟩
  | false=>exact⟨_,g1,rfl,rfl⟩
 ·cases t2 with
  | true=>exact⟨_,g2,rfl,rfl⟩
  | false=>exact⟨_,g2,rfl,rfl⟩
end
end PySem
namespace L2
open PySem PySem.Spec PyProof.Rows
def Itz (K:IX)(a1 a2:Addr)(t1 t2:Bool):It:=
 ⟨λi H=> ∃xs x ys y,(ph K H a1 t1 xs/\xs[i]? =some x)/\ph K H a2 t2 ys/\ys[i]? =some y,λi H x H'=> ∃p v u,x= .ref p/\H p=none/\H'=upd H p (.tup [v,u])/\(∀xs,ph K H a1 t1 xs->xs[i]? =some v)/\∀ys,ph K H a2 t2 ys->ys[i]? =some u,
  λi H=> ∃xs ys,ph K H a1 t1 xs/\ph K H a2 t2 ys/\(xs.length<=i\/ys.length<=i)⟩
section
variable {X:Cx}{pins:List (Addr×Obj)}{σ:L2.St}{H:Hp}{s:Jf}
theorem iy {tt:Bool}{a:Addr}{xs:List V}(I:Inv X pins σ H s)(q:ph X.K H a tt xs):∃its:List Je,Vals xs its/\sqAt tt s.heap a its.toArray/\∀ys,ph X.K H a tt ys->ys=xs:=by
 cases tt with
 | true=>
  have q':SqT X.K H a xs:=q;obtain⟨its,rv,p,hz⟩:=I.tuple q'
  exact⟨its,rv,p,λys hy=>I.HR hy q'⟩
 | false=>
  have q':SqL X.K H a xs:=q;obtain⟨its,rv,p,hz⟩:=I.list q';exact⟨its,rv,p.isList,λys hy=>I.HV hy q'⟩
theorem tf {tt:Bool}{a b:Addr}{xs:List V}(I:Inv X pins σ H s)(q:ph X.K H a tt xs)(hb:kS X pins H b):a≠b:=λz=>by
 have hb':=hb.1;rw[<-z]at hb'
 cases tt with
 | true=>
  have hq':SqT X.K H a xs:=q;rcases hq' with(q | ⟨o,q⟩) | ⟨o,its,n,q,_⟩
  ·rw[hb']at q;cases q
  ·rw[hb']at q;cases q
  ·rcases hb.2.2.2.1 with z1 | z1
   ·exact I.ok.noex a o (I.ok.mod.kin a o q) (z▸z1)
   ·exact absurd (Jv (Jn (I.ok.bs a o (I.ok.mod.kin a o q)).1) (z▸z1)) (JK _)
 | false=>
  have hq':SqL X.K H a xs:=q;rcases hq' with(q | ⟨o,q⟩) | ⟨o,its,n,q,_⟩
  ·rw[hb']at q;cases q
  ·rw[hb']at q;cases q
  ·rcases hb.2.2.2.1 with z1 | z1
   ·exact I.ok.noex a o (I.ok.mod.kin a o q) (z▸z1)
   ·exact absurd (Jv (Jn (I.ok.bs a o (I.ok.mod.kin a o q)).1) (z▸z1)) (JK _)
end
theorem five {n b:Nat}:b∈ [n+4,n,n+1,n+2,n+3] ↔n<=b/\b<n+5:=by
 simp only[Jh,J1,or_false];omega
theorem yu {P:JI}{w:Kr}{K:IX}{elts:List Expr}{kk:Nat}{pos:Pos}(t1 t2:Bool)(a1 a2 n:Nat) :
  vK P w K (.Tuple elts kk pos) (Itz K a1 a2 t1 t2) [n+4,n,n+1,n+2,n+3] (n+4) (λi h=>zO h (n+4) (n+2) (n+3) .none (.bool false)/\Zw h n a1 a2 t1 t2 i) where
 mem:=by simp
 obj:=λi h st b hb=>by
  obtain⟨kz,q⟩:=st;simp only[Jh,J1,or_false]at hb;rcases hb with rfl | rfl | rfl | rfl | rfl
  ·exact⟨_,kz,λv z=>by have z':P9 _=ON v:=z;cases z'⟩
  ·exact q.i1.obj
  ·exact q.i2.obj
  ·exact⟨_,q.pr,λv z=>by have z':Data.seq _ _=ON v:=z;cases z'⟩
  ·obtain⟨a,b,e⟩:=q.ow
   exact⟨_,e,λv z=>by have z':Data.seq _ _=ON v:=z;cases z'⟩
 keep:=λi h h' st k=>by
  obtain⟨kz,q⟩:=st;exact⟨k _ (by simp) _ kz,q.keep λc o c1 c2 g=>k c (five.mpr ⟨c1,by omega⟩) o g⟩
 item:=by
  intro X hP hw hK hc i pins s σ H E I hf st hg;subst hP hw hK;obtain⟨xs,x,ys,y,⟨hq1,hx⟩,hq2,hy⟩:=hg;obtain⟨kz,q⟩:=st;obtain⟨its1,r1,p1,u1⟩:=iy I hq1;obtain⟨its2,r2,p2,u2⟩:=iy I hq2;obtain⟨v1,e1,rv1⟩:=r1.get hx;obtain⟨v2,e2,rv2⟩:=r2.get hy
  have ap:∀{tt:Bool} {a:Nat} {zs:List V},ph X.K H a tt zs->a<n\/n+4<a:=λ{tt a zs} hq=>by
   refine Ng λhh=> ?_
   exact tf I hq (hf a (five.mpr ⟨by omega,by omega⟩)) rfl
  have hT:s.TypeIs (.ref (n+4)) "zip":=⟨_,kz,rfl⟩
  have lt:n+4<s.heap.objs.size:=Jn kz;unfold pyNext;refine IW (Lx (JM (name:=Jm "__next__") hT Kx (J3 Kx hT LY (A2 q kz p1 p2 (ap hq1) (ap hq2) (by simpa using e1) (by simpa using e2) λh1 Tp hsz hTp hz1 q1 hk=>Jg ⟨.ref Tp,rfl,?_⟩) (LL _))))
  refine wpAny_letOwnedTupleGo_zip (s:={ s with heap:=h1 }) hz1 λh2 hz2 hs2=> ?_
  have kAll:∀b o,b∉ [n+4,n,n+1,n+2,n+3]->s.heap.get? b=some o->h2.get? b=some o:=λb o hb g=>by
   have hb':¬ (n<=b/\b<n+5):=λz=>hb (five.mpr z)
   exact hs2.extBut _ _ (bU (by omega)) (hk b o (bU (by omega)) (bU (by omega)) (bU (by omega)) (bU (by omega)) g)
  have q2:Zw h2 n a1 a2 t1 t2 (i+1):=q1.keep λc o c1 c2 g=>hs2.extBut _ _ (bU (by omega)) g
  have hTp2:LI h2 Tp v1 v2:=hs2.extBut _ _ (bU (by omega)) hTp
  have there:∀b∈ [n+4,n,n+1,n+2,n+3],∃o,h2.get? b=some o:=λb hb=>by
   simp only[Jh,J1,or_false]at hb;rcases hb with rfl | rfl | rfl | rfl | rfl
   ·exact⟨_,hz2⟩
   ·obtain⟨o,e,_⟩:=q2.i1.obj;exact⟨o,e⟩
   ·obtain⟨o,e,_⟩:=q2.i2.obj;exact⟨o,e⟩
   ·exact⟨_,q2.pr⟩
   ·obtain⟨a,b,e⟩:=q2.ow;exact⟨_,e⟩
  have hn:H Tp=none:=I.hok.fresh hsz
  have new:ObjOk X.prog X.w (upd H Tp (.tup [x,y])) h2 Tp (.tup [x,y]):=⟨by show 2<=sizeLine;decide,[v1,v2],.cons rv1 (.cons rv2 .nil),⟨_,hTp2,rfl,_,rfl⟩⟩
  have I2:=I.Ii (t':=s.toks) hf kAll there hsz new;refine⟨.ref Tp,_,I2,rfl,⟨Tp,x,y,rfl,hn,rfl,λzs hz=>by rw[u1 zs hz];exact hx,λzs hz=>by rw[u2 zs hz];exact hy⟩,⟨hz2,q2⟩,λb hb=> ?_⟩
  have hb':=five.mp hb
  have hbT:b≠Tp:=bU (by omega)
  rw[aF hbT];exact(hf b hb).1
 done:=by
  intro X hP hw hK hc i pins s σ H E I hf st hg;subst hP hw hK;obtain⟨xs,ys,hq1,hq2,hx⟩:=hg;obtain⟨kz,q⟩:=st;obtain⟨its1,r1,p1,u1⟩:=iy I hq1;obtain⟨its2,r2,p2,u2⟩:=iy I hq2
  have l1:=r1.length
  have l2:=r2.length
  have ap:∀{tt:Bool} {a:Nat} {zs:List V},ph X.K H a tt zs->a<n\/n+4<a:=λ{tt a zs} hq=>by
   refine Ng λhh=> ?_
   exact tf I hq (hf a (five.mpr ⟨by omega,by omega⟩)) rfl
  have hT:s.TypeIs (.ref (n+4)) "zip":=⟨_,kz,rfl⟩
  have hend:its1.toArray[i]? =none\/its2.toArray[i]? =none:=by
   rcases hx with h | h
   ·left;simp;omega
   ·right;simp;omega
  unfold pyNext;refine IW (Lx (JM (name:=Jm "__next__") hT Kx (J3 Kx hT LY (Dh (I.ok.hd hc) q kz p1 p2 (ap hq1) (ap hq2) hend λh' e kp he=> ?_) (LL _))))
  obtain⟨o,ho,hcl⟩:=he;refine IW (ML (T:="StopIteration") (b:=true) ⟨o,ho,hcl⟩ Nk (Jg ⟨rfl,I.HL (t':=s.toks) hf λ(b:Nat) o hb g=> ?_⟩))
  have hb':¬ (n<=b/\b<n+5):=λz=>hb (five.mpr z)
  exact kp b o (bU (by omega)) (bU (by omega)) (bU (by omega)) (bU (by omega)) g
 self:=λ_ _ _ _ _ st h=>P4 st.1 h
end L2
namespace L2
open PySem PySem.Spec PyProof.Rows
open Tr (bx bh gf)
section
variable {X:Cx}{elts:List Expr}{kk:Nat}{tpos:Pos}
def iZip (K:IX)(tl:TA):TI:=λσ H R=>tl σ H λvs H1=> ∃a1 a2 t1 t2,vs= [.ref a1,.ref a2]/\(∃xs,ph K H1 a1 t1 xs)/\(∃ys,ph K H1 a2 t2 ys)/\R (Itz K a1 a2 t1 t2) H1
theorem Eh {l m:Expr}{tl:TA}{p pos:Pos}(hg:Gl X "zip")(hm:X.mg "zip" =none)(hl:PA X [l,m] tl)(hst:bx [l,m] =true:=by rfl):PI X (.Tuple elts kk tpos) (.Call (.Name "zip" p) [l,m] [] pos) (iZip X.K tl):=by
 intro pins s σ H R I h;unfold bx at hst;rw[Jc]at hst;refine Call_ (gu I hg hm (show JT "zip" =some (.type "zip")by decide+kernel) (JO (cG (hl pos pins s σ H _ I h) λus s1 ⟨vs,H1,I1,r1,q1⟩=> ?_) (bh hst.1) (gf hst.2)))
 obtain⟨a1,a2,t1,t2,e,⟨xs,hq1⟩,⟨ys,hq2⟩,q⟩:=q1;subst e
 cases r1 with
 | cons w1 w2=>
  obtain⟨u2,rfl,w3⟩:=Vals.one w2;cases w1;obtain rfl:u2=JF a2:=w3;obtain⟨its1,_,p1,_⟩:=iy I1 hq1;obtain⟨its2,_,p2,_⟩:=iy I1 hq2;refine A3 p1 p2 λh' g1 g2 g3 g4=> ?_
  refine P4 (s:={ s1 with heap:=h' }) g2 ?_
  have I2:Inv X pins σ H1 { s1 with heap:=h' }:=I1.kept (t':=s1.toks) g4
  refine⟨s1.heap.objs.size+4,[s1.heap.objs.size+4,s1.heap.objs.size,s1.heap.objs.size+1,s1.heap.objs.size+2,s1.heap.objs.size+3],_,_,H1,rfl,I2,yu t1 t2 a1 a2 s1.heap.objs.size,⟨g2,g1⟩,λb hb=> ?_,q⟩
  have hb':=five.mp hb;exact I1.HZ hb'.1 (I1.hok.fresh hb'.1)
end
end L2
namespace Tr
open PySem PySem.Spec PyProof.Rows L2
theorem A9 (l m:List T)(i:Nat):((l.zip m).map λp=>T.tup [p.1,p.2])[i]? =match l[i]?,m[i]? with
  | some a,some b=>some (T.tup [a,b])
  | _,_=>none:=by
 rw[JN]
 unfold List.zip;rw[List.getElem?_zipWith]
 cases l[i]? <;> cases m[i]? <;> rfl
def Wk (K:IX)(O:Ow)(H1:Hp)(l:List T)(v:V):Prop:=∃(aa:Addr) (tt:Bool) (ws:List V),v= .ref aa/\¬ O aa/\Reps K O H1 l ws/\ph K H1 aa tt ws/\(∀P Hc,SameO P H1 Hc->¬ P aa->ph K Hc aa tt ws)/\¬ Nw K H1 aa
theorem CS {K:IX}{O:Ow}{H1:Hp}{x:T}{l:List T}{v:V}(hl:x.items=some l)(rv:Rep K O H1 x v):Wk K O H1 l v:=by
 cases x with
 | tup m=>
  cases hl;obtain⟨aa,ws,e,n,qq,z⟩:=Rep.HC.mp rv
  exact⟨aa,true,ws,e,n,z,(show SqT K H1 aa ws from SqT.of qq),(λP Hc hsm hn=>show SqT K Hc aa ws from SqT.of (hsm _ _ qq hn)),λw=>by rw[w.1]at qq;cases qq⟩
 | lst m=>
  cases hl;obtain⟨aa,ws,e,n,qq,z⟩:=Rep.HD.mp rv
  exact⟨aa,false,ws,e,n,z,(show SqL K H1 aa ws from SqL.of qq),(λP Hc hsm hn=>show SqL K Hc aa ws from SqL.of (hsm _ _ qq hn)),λw=>by rw[w.1]at qq;cases qq⟩
 | scr m=>
  cases hl;unfold Rep at rv;obtain⟨aa,e,n,qq⟩:=rv
  exact⟨aa,false,_,e,n,Reps.ints,(show SqL K H1 aa _ from qq),(λP Hc hsm hn=>show SqL K Hc aa _ from Tr.SqL.keep hsm hn qq),(Tr.SqL.nn qq)⟩
 | _=>cases hl
section
variable {X:Cx}{a b:Expr}{fs:En->Rs (List T)}{p pos:Pos}
theorem DV {elts:List Expr}{kk:Nat}{tpos:Pos}(hm:X.mg "zip" =none)(ha:qG X [a,b] fs)(hg:Gl X "zip":=by rfl)(hst:bx [a,b] =true:=by rfl) :
  x8 X (.Tuple elts kk tpos) (.Call (.Name "zip" p) [a,b] [] pos) (iZ fs):=PI.imp (Eh hg hm ha hst) λσ H R hh_=>by
 obtain⟨Z,O,E,h⟩:=hh_;obtain⟨Z1,O1,E1,h1⟩:=fq E h;refine⟨Z1,O1,E1,Post.mono h1 λts H1 s1 q vs r=> ?_⟩
 obtain⟨t',r',s',E',q'⟩:=q vs r
 split at q'
 ·rename_i x0 y0
  obtain⟨v,vs1,rfl,rv,rb⟩:=Reps.me.mp r';obtain⟨v2,rfl,rv2⟩:=rb.one
  split at q'
  ·rename_i l m hl hm
   obtain⟨a1,t1,w1,e1,n1,z1,sq1,mv1,nn1⟩:=CS hl rv;obtain⟨a2,t2,w2,e2,n2,z2,sq2,mv2,nn2⟩:=CS hm rv2;refine⟨a1,a2,t1,t2,by rw[e1,e2],⟨w1,sq1⟩,⟨w2,sq2⟩,q' H1 (Same.refl H1) _ λP O' hP hO i Hc hsm htr=> ?_⟩
   have sc1:=mv1 P Hc hsm λy=>(hP a1 y).elim n1 nn1
   have sc2:=mv2 P Hc hsm λy=>(hP a2 y).elim n2 nn2
   refine⟨λhi=>⟨w1,w2,sc1,sc2,?_⟩,λt ht=> ?_⟩
   ·rw[Jd,List.length_zip]at hi
    rw[<-z1.length,<-z2.length];omega
   ·rw[A9]at ht
    split at ht
    ·rename_i t1' t2' f1 f2
     cases ht;obtain⟨v0,g1,g2⟩:=z1.get f1;obtain⟨v3,g3,g4⟩:=z2.get f2;refine⟨⟨w1,v0,w2,v3,⟨sc1,g1⟩,sc2,g3⟩,λx Hc' y=> ?_⟩
     obtain⟨pp,vv,uu,e2,hpn,e3,hy,hy2⟩:=y
     have k1:=hy w1 sc1
     have k2:=hy2 w2 sc2;rw[g1]at k1;cases k1;rw[g3]at k2;cases k2;subst e2 e3;refine⟨aV hpn _,gQ hpn (λzz=> ?_) (Reps.HG (g2.move hP hO hsm) (Reps.HG (g4.move hP hO hsm) Reps.nil_))⟩
     obtain⟨o,w⟩:=htr pp zz;rw[hpn]at w;cases w
    ·cases ht
  ·exact q'.elim
 ·exact q'.elim
end
end Tr
namespace Tr
def FE (g g' g2:T->T->Rs T)(fa fb fc fd:En->Rs T)(Z:En):Rs T:=do
 let x <-fa Z
 let y <-fb Z
 let z <-g x y
 match z with
 | .bl true=>do
  let w <-fc Z
  let z2 <-g' y w
  match z2 with
  | .bl true=>do
   let u <-fd Z
   g2 w u
  | .bl false=> .ok (.bl false)
  | _=> .bad
 | .bl false=> .ok (.bl false)
 | _=> .bad
end Tr
namespace Tr
open PySem PySem.Spec PyProof.Rows L2
section
variable {X:Cx}{a b c d:Expr}{fa fb fc fd:En->Rs T}{pos:Pos}
theorem yQ {op op' op2:Qt}{g g' g2:T->T->Rs T}(ho:OpT X (JY op) g)(ho':OpT X (JY op') g')(ho2:OpT X (JY op2) g2)(ha:cN X a fa)(hb:cN X b fb)(hc:cN X c fc)(hd:cN X d fd)
  (hm:Qo [op,op',op2] [b,c,d] =false:=by with_unfolding_all rfl):cN X (.Compare a [op,op',op2] [b,c,d] pos) (FE g g' g2 fa fb fc fd):=by
 intro pins s σ H Q I ⟨Z,O,E,hq⟩
 have h1:=aZ E hq;refine Compare_chain (cG (ha pins s σ H _ I h1) λv s1 ⟨x,H1,I1,r1,t,rt,s',E',q1⟩=>chain_link ?_) hm
 have h2:=aZ (f:=fb) E' q1;refine cG (hb pins s1 σ H1 _ I1 h2) λu s2 hh_=> ?_
 obtain⟨y,H2,I2,r2,t2,rt2,s'',E'',q2⟩:=hh_
 refine cG (ho pins s2 σ H2 O t t2 x y v u (λv' H'=> ∃t',Rep X.K O H' t' v'/\Same H2 H'/\Post X H' (match t' with
  | .bl true=>fc Z >>= λw=>g' t2 w >>= λz2=>match z2 with
   | .bl true=>fd Z >>= λu=>g2 w u
   | .bl false=> .ok (.bl false)
   | _=> .bad
  | .bl false=> .ok (.bl false)
  | _=> .bad) (λt H'=> ∀v,Rep X.K O H' t v->Q v H')) I2 (λp=>E''.fresh) (rt.same s'') rt2 r1 r2 (Post.mono q2.bind λt' H' s3 q v rv=>⟨t',rv,s3,q⟩)) λdd s3 ⟨z,H3,I3,r3,t3,rt3,sm3,q3⟩=> ?_
 have E3:=E''.same sm3
 split at q3
 ·cases Rep.HE.mp rt3
  cases r3;refine Kg (ite_tt (chain_link ?_))
  have h4:=aZ (f:=fc) E3 q3;refine cG (hc pins s3 σ H3 _ I3 h4) λw' s4 ⟨z',H4,I4,r4,t4,rt4,s4',E4,q4⟩=> ?_
  refine cG (ho' pins s4 σ H4 O t2 t4 y z' u w' (λv' H'=> ∃t',Rep X.K O H' t' v'/\Same H4 H'/\Post X H' (match t' with
   | .bl true=>fd Z >>= λu=>g2 t4 u
   | .bl false=> .ok (.bl false)
   | _=> .bad) (λt H'=> ∀v,Rep X.K O H' t v->Q v H')) I4 (λp=>E4.fresh) ((rt2.same sm3).same s4') rt4 r2 r4 (Post.mono q4.bind λt' H' s3 q v rv=>⟨t',rv,s3,q⟩)) λdd s5 ⟨z5,H5,I5,r5,t5,rt5,sm5,q5⟩=> ?_
  have E5:=E4.same sm5
  split at q5
  ·cases Rep.HE.mp rt5
   cases r5;refine Kg (ite_tt (chain_last ?_))
   have h6:=aZ (f:=fd) E5 q5;refine cG (hd pins s5 σ H5 _ I5 h6) λw2 s6 hh_=> ?_
   obtain⟨z6,H6,I6,r6,t6,rt6,s6',E6,q6⟩:=hh_;exact ho2 pins s6 σ H6 O t4 t6 z' z6 w' w2 Q I6 (λp=>E6.fresh) ((rt4.same sm5).same s6') rt6 r4 r6 q6
  ·cases Rep.HE.mp rt5
   cases r5;refine Kg (ite_ff ⟨.bl false,H5,I5,rfl,q5 H5 (Same.refl H5) _ (Rep.bl_ false)⟩)
  ·exact q5.elim
 ·cases Rep.HE.mp rt3
  cases r3;refine Kg (ite_ff ⟨.bl false,H3,I3,rfl,q3 H3 (Same.refl H3) _ (Rep.bl_ false)⟩)
 ·exact q3.elim
end
structure QE (X:Cx)(e:Expr)(f:En->Rs T):Prop where
 h:cN X e f
structure QA (X:Cx)(e:List Expr)(f:En->Rs (List T)):Prop where
 h:qG X e f
structure QT (X:Cx)(e:Expr)(f:En->Rs Bool):Prop where
 h:uO X e f
structure QW (X:Cx)(e:Expr)(f:En->Rs Bool):Prop where
 h:Df X e f
structure QS (X:Cx)(e:Stmt)(f:En->Rs Fl):Prop where
 h:pi X e f
structure A0 (X:Cx)(e:List Stmt)(f:En->Rs Fl):Prop where
 h:ng X e f
structure QG (X:Cx)(e:Expr)(f:T->En->Rs En):Prop where
 h:AT X e f
structure Hv (X:Cx)(e:List Expr)(f:List T->En->Rs En):Prop where
 h:AU X e f
structure QI (X:Cx)(t e:Expr)(f:En->Rs (List T)):Prop where
 h:x8 X t e f
structure QO (X:Cx)(e:Option Expr)(f:En->Rs (Option Int)):Prop where
 h:G9 X e f
structure G7 (X:Cx)(e:List Expr)(f:En->Rs Bool):Prop where
 h:wW X e (yc X f)
theorem ad {X:Cx}(i:Nat){x:Str}{pos:Pos}(hN:(Cx.N X)[i]? =some x:=by rfl)(hv:uN (K7 (Cx.env X)) x:=by first | exact Kz rfl | exact Ki (Kz rfl) | exact Ki (Ki rfl))(hd:(x == Jm "__debug__")=false:=by decide)(hcd:(x == Jm "__classdict__")=false:=by decide):QE X (JP x pos) (vr i):=
 ⟨F6 (i:=i) (hN:=hN) (hv:=hv) (hd:=hd) (hcd:=hcd)⟩
theorem ai {X:Cx}{i:Int}{j:Nat}{pos:Pos}:QE X (OV (Const.int i) j pos) (cn (T.int i)):=
 ⟨Ge ⟩
theorem d8 {X:Cx}{i:Bool}{j:Nat}{pos:Pos}:QE X (OV (Const.bool i) j pos) (cn (T.bl i)):=
 ⟨q_bl ⟩
theorem bS {X:Cx}{j:Nat}{pos:Pos}:QE X (OV Const.none j pos) (cn T.non):=
 ⟨Ga ⟩
theorem A4 {X:Cx}{x:Str}{i:Int}{u:Je}{pos:Pos}(hm:Cx.mg X x=some u)(r:L2.RelV (V.int i) u)(hg:Gl X x:=by rfl)(hd:(x == Jm "__debug__")=false:=by decide):QE X (JP x pos) (cn (T.int i)):=
 ⟨D2 (hm:=hm) (r:=r) (hg:=hg) (hd:=hd)⟩
theorem ae {X:Cx}:QA X [] ag:=
 ⟨D1 ⟩
theorem af {X:Cx}{e:Expr}{es:List Expr}{f:En->Rs T}{g:En->Rs (List T)}(he:QE X e f)(hr:QA X es g)(hn:bN e=true:=by rfl):QA X (e::es) (ac f g):=
 ⟨qa_c (he:=he.h) (hr:=hr.h) (hn:=hn)⟩
theorem bf {X:Cx}{es:List Expr}{x1:Nat}{pos:Pos}{f:En->Rs (List T)}(h:QA X es f):QE X (Expr.Tuple es x1 pos) (aR f):=
 ⟨F7 (h:=h.h)⟩
theorem gq {X:Cx}{es:List Expr}{pos:Pos}{f:En->Rs (List T)}(h:QA X es f):QE X (Expr.List es pos) (d7 f):=
 ⟨Gc (h:=h.h)⟩
theorem aq {X:Cx}{a b:Expr}{fa fb:En->Rs T}{pos:Pos}{op:Operator}{g:T->T->Rs T}(ho:OpT X (KR op) g)(ha:QE X a fa)(hb:QE X b fb):QE X (Expr.BinOp a op b pos) (o2 g fa fb):=
 ⟨Gh (ho:=ho) (ha:=ha.h) (hb:=hb.h)⟩
theorem fP {X:Cx}{a b:Expr}{fa fb:En->Rs T}{pos:Pos}{op:Qt}{g:T->T->Rs T}(ho:OpT X (JY op) g)(ha:QE X a fa)(hb:QE X b fb)(hm:NH op b=false:=by rfl):QE X (PB a [op] [b] pos) (o2 g fa fb):=
 ⟨Gg (ho:=ho) (ha:=ha.h) (hb:=hb.h) (hm:=hm)⟩
theorem qL {X:Cx}{a:Expr}{fa:En->Rs T}{pos:Pos}(ha:QE X a fa):QE X (PC UnaryOp.USub a pos) (o1 rQ fa):=
 ⟨Gb (ha:=ha.h)⟩
theorem sL {X:Cx}{a b c:Expr}{fa fb fc:En->Rs T}{pos:Pos}{op op':Qt}{g g':T->T->Rs T}(ho:OpT X (JY op) g)(ho':OpT X (JY op') g')(ha:QE X a fa)(hb:QE X b fb)(hc:QE X c fc)(hm:Qo [op,op'] [b,c] =false:=by with_unfolding_all rfl):QE X (PB a [op,op'] [b,c] pos) (ch g g' fa fb fc):=
 ⟨BI (ho:=ho) (ho':=ho') (ha:=ha.h) (hb:=hb.h) (hc:=hc.h) (hm:=hm)⟩
theorem bX {X:Cx}{e:Expr}{f:En->Rs T}(h:QE X e f)(he:∀(whole:Sem Je),PySem.isTrue e (Cx.env X) whole=(do let v <-whole;standAt (Expr.pos e);holding [v] (truthy v)):=by intro _;rfl):QT X e (tb f):=
 ⟨DH (h:=h.h) (he:=he)⟩
theorem aP {X:Cx}{a b:Expr}{fa fb:En->Rs T}{pos:Pos}{op:Qt}{g:T->T->Rs T}(ho:OpT X (JY op) g)(ha:QE X a fa)(hb:QE X b fb)(hm:NH op b=false:=by rfl):QT X (PB a [op] [b] pos) (tb (o2 g fa fb)):=
 ⟨DJ (ho:=ho) (ha:=ha.h) (hb:=hb.h) (hm:=hm)⟩
theorem sK {X:Cx}{a:Expr}{pos:Pos}{f:En->Rs Bool}(ha:QT X a f):QW X (Ld Oo [a] pos) f:=
 ⟨Bt (ha:=ha.h)⟩
theorem fo {X:Cx}{a:Expr}{pos:Pos}{f:En->Rs Bool}(ha:QT X a f):QW X (Ld OW [a] pos) f:=
 ⟨DF (ha:=ha.h)⟩
theorem vM {X:Cx}{a b:Expr}{pos:Pos}{f g:En->Rs Bool}{rest:List Expr}(ha:QT X a f)(hb:QW X (Ld Oo (b::rest) pos) g):QW X (Ld Oo (a::b::rest) pos) (o9 f g):=
 ⟨DG (ha:=ha.h) (hb:=hb.h)⟩
theorem gG {X:Cx}{a b:Expr}{pos:Pos}{f g:En->Rs Bool}{rest:List Expr}(ha:QT X a f)(hb:QW X (Ld OW (b::rest) pos) g):QW X (Ld OW (a::b::rest) pos) (je f g):=
 ⟨FZ (ha:=ha.h) (hb:=hb.h)⟩
theorem io {X:Cx}{f:En->Rs Bool}{e:Expr}(h:QW X e f):QT X e f:=
 ⟨qt_w (h:=h.h)⟩
theorem ci {X:Cx}{a:Expr}{pos:Pos}{f:En->Rs Bool}(ha:QT X a f):QT X (PC UnaryOp.Not a pos) (cL f):=
 ⟨DI (ha:=ha.h)⟩
theorem dZ {X:Cx}{a:Expr}{fa:En->Rs T}{pos:Pos}{op:BoolOp}(h:QE X a fa):QE X (Ld op [a] pos) fa:=
 ⟨F8 (h:=h.h)⟩
theorem dI {X:Cx}{a b:Expr}{fa fb:En->Rs T}{pos:Pos}{rest:List Expr}(ha:QE X a fa)(hb:QE X (Ld Oo (b::rest) pos) fb):QE X (Ld Oo (a::b::rest) pos) (cD fa fb):=
 ⟨Gi (ha:=ha.h) (hb:=hb.h)⟩
theorem CO {X:Cx}{a b:Expr}{fa fb:En->Rs T}{pos:Pos}{rest:List Expr}(ha:QE X a fa)(hb:QE X (Ld OW (b::rest) pos) fb):QE X (Ld OW (a::b::rest) pos) (AZ fa fb):=
 ⟨q_or (ha:=ha.h) (hb:=hb.h)⟩
theorem uQ {X:Cx}{a:Expr}{fa:En->Rs T}{pos:Pos}(ha:QE X a fa):QE X (PC UnaryOp.Not a pos) (o1 xv fa):=
 ⟨F9 (ha:=ha.h)⟩
theorem mt {X:Cx}{a b c:Expr}{fa fb:En->Rs T}{pos:Pos}{f:En->Rs Bool}(hc:QT X c f)(ha:QE X a fa)(hb:QE X b fb):QE X (Expr.IfExp c a b pos) (pj f fa fb):=
 ⟨q_if (hc:=hc.h) (ha:=ha.h) (hb:=hb.h)⟩
theorem aB {X:Cx}{a b:Expr}{fa fb:En->Rs T}{pos:Pos}(ha:QE X a fa)(hb:QE X b fb)(hs:wV b:=by intro _ _;rfl):QE X (K2 a b pos) (o2 aN fa fb):=
 ⟨q_ix (ha:=ha.h) (hb:=hb.h) (hs:=hs)⟩
theorem ir {X:Cx}:QO X none pN:=
 ⟨BA ⟩
theorem iq {X:Cx}{a:Expr}{fa:En->Rs T}(ha:QE X a fa):QO X (some a) (pS fa):=
 ⟨Bz (ha:=ha.h)⟩
theorem iu {X:Cx}{a:Expr}{fa:En->Rs T}{pos:Pos}{lo hi:Option Expr}{p2:Pos}{fl fu:En->Rs (Option Int)}(ha:QE X a fa)(hl:QO X lo fl)(hu:QO X hi fu):QE X (K2 a (Expr.Slice lo hi none p2) pos) (sl fa fl fu):=
 ⟨BH (ha:=ha.h) (hl:=hl.h) (hu:=hu.h)⟩
theorem cx {X:Cx}{e:Expr}{es:List Expr}{fs:En->Rs (List T)}{pos p:Pos}{x:Str}{id:String}{g:List T->Rs T}(hc:CallT X (Value.builtin id) g)(hm:Cx.mg X x=none)(hv:JT x=some (Value.builtin id))(ha:QA X (e::es) fs)(hn:bx (e::es)=true:=by rfl)(hg:Gl X x:=by rfl)(h1:x≠Jm "__name__":=by decide)(h2:(x == Jm "__debug__")=false:=by decide):QE X (K4 (JP x p) (e::es) [] pos) (cl g fs):=
 ⟨q_cB (hc:=hc) (hm:=hm) (hv:=hv) (ha:=ha.h) (hn:=hn) (hg:=hg) (h1:=h1) (h2:=h2)⟩
theorem mw {X:Cx}{e:Expr}{es:List Expr}{fs:En->Rs (List T)}{pos p:Pos}{x:Str}{Ty:String}{g:List T->Rs T}(hc:CallT X (Np Ty) g)(hm:Cx.mg X x=none)(hv:JT x=some (Np Ty))(ha:QA X (e::es) fs)(hn:bx (e::es)=true:=by rfl)(hg:Gl X x:=by rfl)(h1:x≠Jm "__name__":=by decide)(h2:(x == Jm "__debug__")=false:=by decide):QE X (K4 (JP x p) (e::es) [] pos) (cl g fs):=
 ⟨q_cT (hc:=hc) (hm:=hm) (hv:=hv) (ha:=ha.h) (hn:=hn) (hg:=hg) (h1:=h1) (h2:=h2)⟩
theorem zq_c {X:Cx}{e:Expr}{es:List Expr}{fs:En->Rs (List T)}{pos p:Pos}{x:Str}{n k:Nat}{f:Addr}{fd:KS}{ps:List Str}{g:List T->Rs T}(F:Fz (Cx.prog X) (Cx.w X) (Cx.K X) (Cx.mg X) (Cx.base X) k f fd ps n g)(hr:Room k (Cx.A X))(hm:Cx.mg X x=some (JF f))(hk:W.keepIn (Cx.K X) (JF f)=true)(hb:L2.Binds (Cx.K X) fd ps [])(hl:∀(Z:En) (ts:List T),fs Z=Rs.ok ts->Kn ts=n)(ha:QA X (e::es) fs)(hps:Kn ps=n:=by rfl)(hn:bx (e::es)=true:=by rfl)(hg:Gl X x:=by rfl)(h2:(x == Jm "__debug__")=false:=by decide):QE X (K4 (JP x p) (e::es) [] pos) (cl g fs):=
 ⟨q_c (F:=F) (hr:=hr) (hm:=hm) (hk:=hk) (hb:=hb) (hl:=hl) (ha:=ha.h) (hps:=hps) (hn:=hn) (hg:=hg) (h2:=h2)⟩
theorem yi {X:Cx}{a:Expr}{fa:En->Rs T}{pos p p2:Pos}{tn:Str}{Ty:String}(hm:Cx.mg X (Jm "isinstance")=none)(hmt:Cx.mg X tn=none)(hv:JT tn=some (Np Ty))(ha:QE X a fa)(hn:bN a=true:=by rfl)(hg:Gl X (Jm "isinstance"):=by rfl)(hgt:Gl X tn:=by rfl)(h1:tn≠Jm "__name__":=by decide)(h2:(tn == Jm "__debug__")=false:=by decide):QE X (K4 (JP (Jm "isinstance") p) [a,JP tn p2] [] pos) (o1 (Ci Ty) fa):=
 ⟨q_is (hm:=hm) (hmt:=hmt) (hv:=hv) (ha:=ha.h) (hn:=hn) (hg:=hg) (hgt:=hgt) (h1:=h1) (h2:=h2)⟩
theorem ah {X:Cx}{pos:Pos}{x:Str}(i:Nat)(hN:JJ (Cx.N X))(hi:(Cx.N X)[i]? =some x:=by rfl)(hx:L2.Loc (K7 (Cx.env X)) x:=by first | exact Kz rfl | exact Ki rfl)(hf:Cx.fn X x=true\/L1 x (NC (K7 (Cx.env X)))=some NameKind.local:=by first | exact .inl rfl | exact .inr rfl | assumption):QG X (JP x pos) (gN i):=
 ⟨BF (i:=i) (hN:=hN) (hi:=hi) (hx:=hx) (hf:=hf)⟩
theorem ca {X:Cx}:Hv X [] iV:=
 ⟨BE ⟩
theorem aD {X:Cx}{e:Expr}{es:List Expr}{g:T->En->Rs En}{gs:List T->En->Rs En}(h1:QG X e g)(h2:Hv X es gs)(hs:List.map (λx=>Prod.snd x) (KG (e::es) (Cx.env X))=assign e (Cx.env X)::List.map (λx=>Prod.snd x) (KG es (Cx.env X)):=by rfl):Hv X (e::es) (dg g gs):=
 ⟨yO (h1:=h1.h) (h2:=h2.h) (hs:=hs)⟩
theorem cP {X:Cx}{es:List Expr}{pos:Pos}{k n:Nat}{gs:List T->En->Rs En}(hc:Cx.calm X=true)(h:Hv X es gs)(hn:Kn (KG es (Cx.env X))=n:=by rfl)(hst:List.findIdx? (λx=>Prod.fst x) (KG es (Cx.env X))=none:=by rfl):QG X (Expr.Tuple es k pos) (gT n gs):=
 ⟨DZ (hc:=hc) (h:=h.h) (hn:=hn) (hst:=hst)⟩
theorem dH {X:Cx}{a:Expr}{fs:En->Rs (List T)}{pos p:Pos}{tg:Expr}(hm:Cx.mg X (Jm "range")=none)(ha:QA X [a] fs)(hg:Gl X (Jm "range"):=by rfl)(hs:Jz [a] (Cx.env X)= [(false,eval a (Cx.env X))]:=by rfl):QI X tg (K4 (JP (Jm "range") p) [a] [] pos) (iR fs):=
 ⟨xj (hm:=hm) (ha:=ha.h) (hg:=hg) (hs:=hs)⟩
theorem kE {X:Cx}{a b:Expr}{fs:En->Rs (List T)}{pos p:Pos}{tg:Expr}(hm:Cx.mg X (Jm "range")=none)(ha:QA X [a,b] fs)(hg:Gl X (Jm "range"):=by rfl)(hs:Jz [a,b] (Cx.env X)= [(false,eval a (Cx.env X)),(false,eval b (Cx.env X))]:=by rfl)(hs2:Jz [b] (Cx.env X)= [(false,eval b (Cx.env X))]:=by rfl):QI X tg (K4 (JP (Jm "range") p) [a,b] [] pos) (iR fs):=
 ⟨xi (hm:=hm) (ha:=ha.h) (hg:=hg) (hs:=hs) (hs2:=hs2)⟩
theorem bM {X:Cx}:G7 X [] bT:=
 ⟨BC ⟩
theorem kX {X:Cx}{c:Expr}{f:En->Rs Bool}(h:QT X c f):G7 X [c] f:=
 ⟨BB (h:=h.h)⟩
theorem fN {X:Cx}{pos:Pos}{elt tg iter:Expr}{ifs:List Expr}{scope:Mi}{N':List Str}{src:List (Option Nat)}{fi:En->Rs (List T)}{tgt:T->En->Rs En}{fc:En->Rs Bool}{fe:En->Rs T}(hc:Cx.calm X=true)(S:LcScope X scope N' src)(hi:QI X tg iter fi)(block:∀(cl:List (Str×Addr)) (C:Addr) (s₀:Jf) (H₀:Hp) (fp:List Addr),QG (bJ X scope cl N' C s₀ H₀ fp) tg tgt/\G7 (bJ X scope cl N' C s₀ H₀ fp) ifs fc/\QE (bJ X scope cl N' C s₀ H₀ fp) elt fe)(hs:∀(x:Je),JQ iter (Cx.env X) x=pure x:=by intro _;rfl):QE X (OY elt [{ target:=tg,iter:=iter,ifs:=ifs,is_async:=0 }] scope pos) (dO fi src tgt fc fe):=
 ⟨q_lc (hc:=hc) (S:=S) (hi:=hi.h) (block:=λa1 a2 a3 a4 a5=>⟨(block a1 a2 a3 a4 a5).1.h,(block a1 a2 a3 a4 a5).2.1.h,(block a1 a2 a3 a4 a5).2.2.h⟩) (hs:=hs)⟩
theorem bc {X:Cx}:A0 X [] sN:=
 ⟨DN ⟩
theorem aj {X:Cx}{st:Stmt}{rest:List Stmt}{F G:En->Rs Fl}(h1:QS X st F)(h2:A0 X rest G):A0 X (st::rest) (au F G):=
 ⟨By (h1:=h1.h) (h2:=h2.h)⟩
theorem al {X:Cx}{st:Stmt}{F:En->Rs Fl}(h:QS X st F):A0 X [st] F:=
 ⟨DM (h:=h.h)⟩
theorem ar {X:Cx}{a:Expr}{fa:En->Rs T}{pos:Pos}(ha:QE X a fa):QS X (Stmt.Return (some a) pos) (aI fa):=
 ⟨DK (ha:=ha.h)⟩
theorem bB {X:Cx}{c:Expr}{pos:Pos}{f:En->Rs Bool}{A B:List Stmt}{F G:En->Rs Fl}(hc:QT X c f)(ha:A0 X A F)(hb:A0 X B G):QS X (Stmt.If c A B pos) (dY f F G):=
 ⟨F4 (hc:=hc.h) (ha:=ha.h) (hb:=hb.h)⟩
theorem uP {X:Cx}{pos:Pos}{elt tg iter:Expr}{ifs:List Expr}{scope:Mi}{spos py:Pos}{N':List Str}{src:List (Option Nat)}{fi:En->Rs (List T)}{tgt:T->En->Rs En}{fc:En->Rs Bool}{fe:En->Rs T}(i:Nat){y:Str}(hc:Cx.calm X=true)(S:LcScope X scope N' src)(hi:QI X tg iter fi)(block:∀(cl:List (Str×Addr)) (C:Addr) (s₀:Jf) (H₀:Hp) (fp:List Addr),QG (bJ X scope cl N' C s₀ H₀ fp) tg tgt/\G7 (bJ X scope cl N' C s₀ H₀ fp) ifs fc/\QE (bJ X scope cl N' C s₀ H₀ fp) elt fe)(hN:JJ (Cx.N X))(hiy:(Cx.N X)[i]? =some y:=by rfl)(hy:L2.Loc (K7 (Cx.env X)) y:=by first | exact Kz rfl | exact Ki rfl)(hsw:Kj (OY elt [{ target:=tg,iter:=iter,ifs:=ifs,is_async:=0 }] scope pos) (some (JP y py)) (LM spos) (Cx.env X)=pure true:=by rfl)(hf:Cx.fn X y=true\/L1 y (NC (K7 (Cx.env X)))=some NameKind.local:=by first | exact .inl rfl | exact .inr rfl | assumption)(hs:∀(x:Je),JQ iter (Cx.env X) x=pure x:=by intro _;rfl):QS X (Mq [JP y py] (OY elt [{ target:=tg,iter:=iter,ifs:=ifs,is_async:=0 }] scope pos) spos) (cX (dO fi src tgt fc fe) (gN i)):=
 ⟨F3 (i:=i) (hc:=hc) (S:=S) (hi:=hi.h) (block:=λa1 a2 a3 a4 a5=>⟨(block a1 a2 a3 a4 a5).1.h,(block a1 a2 a3 a4 a5).2.1.h,(block a1 a2 a3 a4 a5).2.2.h⟩) (hN:=hN) (hiy:=hiy) (hy:=hy) (hsw:=hsw) (hf:=hf) (hs:=hs)⟩
theorem aJ {X:Cx}{a:Expr}{fa:En->Rs T}{pos:Pos}{tg:Expr}{g:T->En->Rs En}(ha:QE X a fa)(hg:QG X tg g)(hs:O5 [tg] a (LM pos) (Cx.env X)=pure false:=by rfl)(hw:O6 [tg] a (Cx.env X)=pure none:=by rfl)(h1:List.map (λx=>Prod.snd x) (KG [tg] (Cx.env X))= [assign tg (Cx.env X)]:=by rfl):QS X (Mq [tg] a pos) (cX fa g):=
 ⟨DT (ha:=ha.h) (hg:=hg.h) (hs:=hs) (hw:=hw) (h1:=h1)⟩
theorem cO {X:Cx}{a:Expr}{fa:En->Rs T}{pos:Pos}(ha:QE X a fa)(hs:Kj a none (LM pos) (Cx.env X)=pure false:=by rfl):QS X (Stmt.Expr a pos) (qZ fa):=
 ⟨Bx (ha:=ha.h) (hs:=hs)⟩
theorem bY {X:Cx}{pos:Pos}{tg iter:Expr}{body:List Stmt}{fi:En->Rs (List T)}{g:T->En->Rs En}{F:En->Rs Fl}(hc:Cx.calm X=true)(hi:QI X tg iter fi)(hg:QG (Cx.nox X) tg g)(hb:A0 (Cx.nox X) body F)(hs:∀(x:Je),JQ iter (Cx.env X) x=pure x:=by intro _;rfl):QS X (Stmt.For tg iter body [] pos) (d6 fi g F):=
 ⟨DP (hc:=hc) (hi:=hi.h) (hg:=hg.h) (hb:=hb.h) (hs:=hs)⟩
theorem wX {X:Cx}{pos:Pos}{c:Expr}{body:List Stmt}{fc:En->Rs Bool}{F:En->Rs Fl}(n:Nat)(hc:QT (Cx.nox X) c fc)(hb:A0 (Cx.nox X) body F):QS X (Stmt.While c body [] pos) (cb fc F n):=
 ⟨yK (n:=n) (hc:=hc.h) (hb:=hb.h)⟩
theorem bP {X:Cx}{a:Expr}{fa:En->Rs T}{tg:Expr}(ha:QE X a fa):QI X tg a (iS fa):=
 ⟨DY (ha:=ha.h)⟩
theorem gd {X:Cx}{a:Expr}{fs:En->Rs (List T)}{p pos:Pos}{elts:List Expr}{kk:Nat}{tpos:Pos}(hm:Cx.mg X (Jm "enumerate")=none)(ha:QA X [a] fs)(hg:Gl X (Jm "enumerate"):=by rfl)(hs:Jz [a] (Cx.env X)= [(false,eval a (Cx.env X))]:=by rfl):QI X (Expr.Tuple elts kk tpos) (K4 (JP (Jm "enumerate") p) [a] [] pos) (iE fs):=
 ⟨BD (hm:=hm) (ha:=ha.h) (hg:=hg) (hs:=hs)⟩
theorem ip {X:Cx}{es:List Expr}{pos p2 p3:Pos}{x:Str}(i:Nat){f:En->Rs (List T)}(hN:JJ (Cx.N X))(ha:QA X es f)(hi:(Cx.N X)[i]? =some x:=by rfl)(hx:L2.Loc (K7 (Cx.env X)) x:=by first | exact Kz rfl | exact Ki rfl)(hs:Kj (Expr.List es p2) (some (JP x p3)) (LM pos) (Cx.env X)=pure false:=by rfl)(hf:Cx.fn X x=true\/L1 x (NC (K7 (Cx.env X)))=some NameKind.local:=by first | exact .inl rfl | exact .inr rfl | assumption):QS X (Mq [JP x p3] (Expr.List es p2) pos) (i8 i f):=
 ⟨Bv (i:=i) (hN:=hN) (ha:=ha.h) (hi:=hi) (hx:=hx) (hs:=hs) (hf:=hf)⟩
theorem hV {X:Cx}{a:Expr}{fa:En->Rs T}{pos p2:Pos}{x:Str}(i:Nat){apos cpos:Pos}(ha:QE X a fa)(hN:(Cx.N X)[i]? =some x:=by rfl)(hv:uN (K7 (Cx.env X)) x:=by first | exact Kz rfl | exact Ki (Kz rfl) | exact Ki (Ki rfl))(hn:bN a=true:=by rfl)(hbase:KI (JP x p2) (Jm "append") (Cx.env X) (eval (JP x p2) (Cx.env X))=eval (JP x p2) (Cx.env X):=by rfl)(hline:(OG apos == LM cpos)=true:=by rfl)(hd:(x == Jm "__debug__")=false:=by decide)(hcd:(x == Jm "__classdict__")=false:=by decide)(hsw:Kj (K4 (LX (JP x p2) (Jm "append") apos) [a] [] cpos) none (LM pos) (Cx.env X)=pure false:=by rfl):QS X (Stmt.Expr (K4 (LX (JP x p2) (Jm "append") apos) [a] [] cpos) pos) (iA i fa):=
 ⟨DU (i:=i) (ha:=ha.h) (hN:=hN) (hv:=hv) (hn:=hn) (hbase:=hbase) (hline:=hline) (hd:=hd) (hcd:=hcd) (hsw:=hsw)⟩
theorem qJ {X:Cx}{a:Expr}{fa:En->Rs T}{pos p2:Pos}{x:Str}(i:Nat){apos cpos:Pos}(ha:QE X a fa)(hN:(Cx.N X)[i]? =some x:=by rfl)(hv:uN (K7 (Cx.env X)) x:=by first | exact Kz rfl | exact Ki (Kz rfl) | exact Ki (Ki rfl))(hn:bN a=true:=by rfl)(hbase:KI (JP x p2) (Jm "extend") (Cx.env X) (eval (JP x p2) (Cx.env X))=eval (JP x p2) (Cx.env X):=by rfl)(hline:(OG apos == LM cpos)=true:=by rfl)(hd:(x == Jm "__debug__")=false:=by decide)(hcd:(x == Jm "__classdict__")=false:=by decide)(hsw:Kj (K4 (LX (JP x p2) (Jm "extend") apos) [a] [] cpos) none (LM pos) (Cx.env X)=pure false:=by rfl):QS X (Stmt.Expr (K4 (LX (JP x p2) (Jm "extend") apos) [a] [] cpos) pos) (n5 i fa):=
 ⟨DQ (i:=i) (ha:=ha.h) (hN:=hN) (hv:=hv) (hn:=hn) (hbase:=hbase) (hline:=hline) (hd:=hd) (hcd:=hcd) (hsw:=hsw)⟩
theorem iI {X:Cx}(i:Nat){st:Stmt}{F:En->Rs Fl}(h:QS X st F):QS X st (mU i F):=
 ⟨DS (i:=i) (h:=h.h)⟩
theorem jh {X:Cx}(i:Nat){e:Expr}{f:En->Rs T}(h:QE X e f):QE X e (ln i f):=
 ⟨q_ln (i:=i) (h:=h.h)⟩
theorem Dj {X:Cx}(i:Nat){e:Expr}{f:En->Rs Bool}(h:QT X e f):QT X e (EJ i f):=
 ⟨F1 (i:=i) (h:=h.h)⟩
theorem Dk {X:Cx}{pos:Pos}:QS X (Stmt.Continue pos) C0:=
 ⟨F5 ⟩
theorem jN {X:Cx}{c:Str}{msg:Str}{C:Addr}{bm:List Je}{np p1 cpos pos:Pos}{j:Nat}(O:OX X.K C bm)(hm:X.mg c=some (.ref C))(hc:X.calm=true:=by rfl)(hg:Gl X c:=by rfl)(hd:(c == ("__debug__" : Str))=false:=by decide) :
  QS X (.Raise (some (.Call (.Name c np) [.Constant (.str msg) j p1] [] cpos)) none pos) (xh c):=⟨yL O.own hc hm hg hd⟩
theorem vR {P:JI}{w:Kr}{K:IX}{mg:Str->Option Je}{base:Heap}{x qual:Str}{st:Stmt}{f:Addr}{fd:KS}{N ps:List Str}{k n:Nat}{F:En->Rs Fl}(Fn:L2.Fun K x qual st f fd)(S:ay N ps (ak st))(hn:ps.length=n)
  (hbody:∀(cdv:Je) (A:J9) (outer:List Env) (s:Jf) (H:Hp) (E:XK),Room k (A.deeper (envOfC qual (ak st) s.heap.objs.size f cdv)) →
   ∀xe,A0 ((mj CX0 P w K mg base N qual (ak st) f cdv A outer s H E).HF xe) (dX st) F):Fz P w K mg base (k+1) f fd ps n (val n N.length F):=Fe Fn S hn λcdv A outer s H E hr xe=>(hbody cdv A outer s H E hr xe).h
theorem bo {X:Cx}{a b:Expr}{fa fb:En->Rs T}{pos:Pos}(hu:MB (Cx.A X)+1<cLine)(ha:QE X a fa)(hb:QE X b fb)(hs:x9 b:=by intro _ _;rfl):QE X (K2 a b pos) (o2 aL fa fb):=
 ⟨Gf (hu:=hu) (ha:=ha.h) (hb:=hb.h) (hs:=hs)⟩
theorem vQ {X:Cx}{a b:Expr}{fa fb:En->Rs T}{apos cpos:Pos}(hu:MB (Cx.A X)+1<cLine)(ha:QE X a fa)(hb:QE X b fb)(hn:bN b=true:=by rfl)(hbase:KI a (Jm "get") (Cx.env X) (eval a (Cx.env X))=eval a (Cx.env X):=by rfl)(hline:(OG apos == LM cpos)=true:=by rfl):QE X (K4 (LX a (Jm "get") apos) [b] [] cpos) (oD jc fa fb):=
 ⟨D6 (hu:=hu) (ha:=ha.h) (hb:=hb.h) (hn:=hn) (hbase:=hbase) (hline:=hline)⟩
theorem w4 {X:Cx}{a b:Expr}{fa fb:En->Rs T}{apos cpos:Pos}(hu:MB (Cx.A X)+61<cLine)(ha:QE X a fa)(hb:QE X b fb)(hn:bN b=true:=by rfl)(hbase:KI a (Jm "index") (Cx.env X) (eval a (Cx.env X))=eval a (Cx.env X):=by rfl)(hline:(OG apos == LM cpos)=true:=by rfl):QE X (K4 (LX a (Jm "index") apos) [b] [] cpos) (oL hZ fa fb):=
 ⟨yP (hu:=hu) (ha:=ha.h) (hb:=hb.h) (hn:=hn) (hbase:=hbase) (hline:=hline)⟩
theorem wZ {X:Cx}{pos p2 p3:Pos}{x:Str}(i:Nat)(hN:JJ (Cx.N X))(hi:(Cx.N X)[i]? =some x:=by rfl)(hx:L2.Loc (K7 (Cx.env X)) x:=by first | exact Kz rfl | exact Ki rfl)(hs:Kj (Expr.Dict [] [] p2) (some (JP x p3)) (LM pos) (Cx.env X)=pure false:=by rfl)(hf:Cx.fn X x=true\/L1 x (NC (K7 (Cx.env X)))=some NameKind.local:=by first | exact .inl rfl | exact .inr rfl | assumption):QS X (Mq [JP x p3] (Expr.Dict [] [] p2) pos) (qX i):=
 ⟨yN (i:=i) (hN:=hN) (hi:=hi) (hx:=hx) (hs:=hs) (hf:=hf)⟩
theorem yh {X:Cx}{e:Expr}{f:En->Rs T}{x:Str}{p pos p2 p3:Pos}(i:Nat)(hu:MB (Cx.A X)+8<cLine)(hc:Cx.calm X=true)(hm:Cx.mg X (Jm "dict")=none)(hN:JJ (Cx.N X))(ha:QE X e f)(hst:bN e=true:=by rfl)(hg:Gl X (Jm "dict"):=by rfl)(hi:(Cx.N X)[i]? =some x:=by rfl)(hx:L2.Loc (K7 (Cx.env X)) x:=by first | exact Kz rfl | exact Ki rfl)(hs:Kj (K4 (JP (Jm "dict") p) [e] [] p2) (some (JP x p3)) (LM pos) (Cx.env X)=pure false:=by rfl)(hf:Cx.fn X x=true\/L1 x (NC (K7 (Cx.env X)))=some NameKind.local:=by first | exact .inl rfl | exact .inr rfl | assumption):QS X (Mq [JP x p3] (K4 (JP (Jm "dict") p) [e] [] p2) pos) (p6 i f):=
 ⟨Bw (i:=i) (hu:=hu) (hc:=hc) (hm:=hm) (hN:=hN) (ha:=ha.h) (hst:=hst) (hg:=hg) (hi:=hi) (hx:=hx) (hs:=hs) (hf:=hf)⟩
theorem vN {X:Cx}{b c:Expr}{fb fc:En->Rs T}{pos p2 p3:Pos}{x:Str}(i:Nat)(hu:MB (Cx.A X)+1<cLine)(hb:QE X b fb)(hc:QE X c fc)(hN:(Cx.N X)[i]? =some x:=by rfl)(hv:uN (K7 (Cx.env X)) x:=by first | exact Kz rfl | exact Ki (Kz rfl) | exact Ki (Ki rfl))(hd:(x == Jm "__debug__")=false:=by decide)(hcd:(x == Jm "__classdict__")=false:=by decide)(hs:Kj c (some (K2 (JP x p2) b p3)) (LM pos) (Cx.env X)=pure false:=by rfl):QS X (Mq [K2 (JP x p2) b p3] c pos) (pG i fb fc):=
 ⟨DL (i:=i) (hu:=hu) (hb:=hb.h) (hc:=hc.h) (hN:=hN) (hv:=hv) (hd:=hd) (hcd:=hcd) (hs:=hs)⟩
theorem nI {X:Cx}{a b c:Expr}{fa fb fc:En->Rs T}{pos p2 p3 p4:Pos}{x:Str}(i:Nat)(hu:MB (Cx.A X)+1<cLine)(ha:QE X a fa)(hb:QE X b fb)(hc:QE X c fc)(hsl:x9 a:=by intro _ _;rfl)(hN:(Cx.N X)[i]? =some x:=by rfl)(hv:uN (K7 (Cx.env X)) x:=by first | exact Kz rfl | exact Ki (Kz rfl) | exact Ki (Ki rfl))(hd:(x == Jm "__debug__")=false:=by decide)(hcd:(x == Jm "__classdict__")=false:=by decide)(hs:Kj c (some (K2 (K2 (JP x p2) a p3) b p4)) (LM pos) (Cx.env X)=pure false:=by rfl):QS X (Mq [K2 (K2 (JP x p2) a p3) b p4] c pos) (i7 i fa fb fc):=
 ⟨Bu (i:=i) (hu:=hu) (ha:=ha.h) (hb:=hb.h) (hc:=hc.h) (hsl:=hsl) (hN:=hN) (hv:=hv) (hd:=hd) (hcd:=hcd) (hs:=hs)⟩
end Tr
namespace Tr
open PySem PySem.Spec L2
theorem LcScope.byN {X:Cx}{scope:Mi}{N N':List Str}{src:List (Option Nat)}(hN:X.N=N)(hk:scope.kind= .function)(h:EL scope.names N scope.names N' src=true)
  (hf:(scope.names.all λy=>y.2 != .free||(X.env.scope.names.lookup y.1 == some .cell||X.env.scope.names.lookup y.1 == some .free))=true):LcScope X scope N' src:=by
 have z:=LcScope.by (X:={ X with env:={ X.env with scope:=scope } }) hN rfl hk h
 refine⟨hk,z.cel,z.loc,z.len,z.from_,λx hx=> ?_⟩
 have:=JH.mp hf _ hx;simp only[bne_self_eq_false,Nz,Qd]at this
 show X.env.scope.names.lookup x=_\/X.env.scope.names.lookup x=_
 rcases this with z | z
 ·exact .inl (by simpa using z)
 ·exact .inr (by simpa using z)
end Tr
namespace Tr
open PySem PySem.Spec PyProof.Rows L2 PySem.W
def Am (h:Heap):Frag:=(Js h.objs.size).filterMap λa=>(h.get? a).map λo=>(a,o)
theorem Al (h:Heap):(Am h).In h:=by
 have key:∀(l:List Nat) (a:Addr) (o:Obj),(l.filterMap λa=>(h.get? a).map λo=>(a,o)).lookup a=some o->h.get? a=some o:=by
  intro l
  induction l with
  | nil=>intro a o e;cases e
  | cons b r ih=>
   intro a o e
   cases hb:h.get? b with
   | none=>rw[List.filterMap_cons_none (by rw[hb];rfl)]at e;exact ih a o e
   | some ob=>
    rw[List.filterMap_cons_some (b:=(b,ob)) (by rw[hb];rfl),Kq]at e
    cases q:a == b with
    | true=>rw[q]at e;cases e;rw[eq_of_beq q];exact hb
    | false=>rw[q]at e;exact ih a o e
 exact λa o e=>key _ a o e
def obF (K:Frag)(n:Str):Option (Str×Str×Ql×FuncBody×Mi×Addr×List (Str×Addr)×Je×Addr×Bool×Bool):=match nsIn K J7 n with
 | some (some (.ref f))=>match K.lookup f with
  | some ⟨_,_,.func d,_⟩=>some (d.name,d.qualname,d.params,d.body,d.scope,d.globals,d.closure,d.defaults,d.builtins,codeIn K d.code n,keepIn K (.ref f))
  | _=>none
 | _=>none
def exF (n:Str)(st:Stmt):Option (Str×Str×Ql×FuncBody×Mi×Addr×List (Str×Addr)×Je×Addr×Bool×Bool):=
 some (n,n,iW st,.stmts (dX st),ak st,J7,[],.none,Oq,true,true)
theorem Db {K:Frag}{n:Str}{st:Stmt}(e:obF K n=exF n st):∃f fd,nsIn K J7 n=some (some (.ref f))/\L2.Fun K n n st f fd:=by
 unfold obF at e
 split at e
 ·rename_i f hf
  split at e
  ·rename_i oc od d sl hl
   cases d;unfold exF at e;simp only[Mo,Prod.mk.injEq]at e;obtain⟨h1,h2,h3,h4,h5,h6,h7,h8,h9,h10,h11⟩:=e;subst h1 h2 h3 h4 h5 h6 h7 h8 h9;exact⟨f,_,hf,Fc hl h10 h11⟩
  ·cases e
 ·cases e
def Gy (K:Frag)(N:Addr)(n:Str):Bool:=match nsIn K N n with | some none=>true | _=>false
theorem oA {K:Frag}{N:Addr}{n:Str}(e:Gy K N n=true):nsIn K N n=some none:=by
 unfold Gy at e
 split at e
 ·assumption
 ·cases e
def Hs (K:Frag)(n:Str):Option Int:=match nsIn K J7 n with | some (some (.int i _))=>some i | _=>none
theorem EG {K:Frag}{n:Str}{i:Int}(e:Hs K n=some i):∃t,nsIn K J7 n=some (some (.int i t)):=by
 unfold Hs at e
 split at e
 ·rename_i i' t h;cases e;exact⟨t,h⟩
 ·cases e
def vS:List Je->Bool
 | [.type a,.type b,.type c,.type d] =>a == "ValueError" &&b == "Exception" &&c == "BaseException" &&d == "object"
 | _=>false
theorem nJ:∀{l:List Je},vS l=true->l=uL:=by
 intro l e;unfold vS at e
 split at e
 ·simp only[Jc,beq_iff_eq]at e
  obtain⟨⟨⟨h1,h2⟩,h3⟩,h4⟩:=e;subst h1 h2 h3 h4;rfl
 ·cases e
def yq (D:Option Addr)(m:List Je):Bool:=match D with
 | none=>vS m
 | some D=>match m with
  | .ref E::m=>E == D&&vS m
  | _=>false
def B3 (K:Frag)(D:Option Addr)(n:Str):Option Addr:=match nsIn K J7 n with
 | some (some (.ref C))=>match K.lookup C with
  | some ⟨.type t,_,.cls c,⟨[_,_,_,_,some (.builtin b),_]⟩⟩=>match c.mro,K.lookup c.ns with
   | .ref E::m,some ⟨_,_,.dict es _,_⟩=>
    if (t == "type" &&b == "ValueError.__new__" && !c.hasDel&&(es.toList.all λe=>yy e.key)&&calmNames.all (Gy K c.ns)&&E == C&&yq D m)=true then some C else none
   | _,_=>none
  | _=>none
 | _=>none
theorem jw {K:Frag}{D:Option Addr}{n:Str}{C:Addr}(e:B3 K D n=some C):nsIn K J7 n=some (some (.ref C)) ∧
  ∃nm q N bs bm hd sn su ab co dd k0 k1 k2 k3 k5,yq D bm=true/\K.lookup C=some (MY nm q C N bs bm hd sn su ab co dd k0 k1 k2 k3 k5 "ValueError.__new__")/\∀h:Heap,K.In h->∃mN,h.Ns N mN/\∀n∈calmNames,mN n=none:=by
 unfold B3 at e
 split at e
 ·rename_i C' hC
  split at e
  ·rename_i t dd c k0 k1 k2 k3 b k5 hl
   split at e
   ·rename_i E m ob oe es ep oz hm hN
    split at e
    ·rename_i hq
     cases e;simp only[Jc,beq_iff_eq,Pq]at hq;obtain⟨⟨⟨⟨⟨⟨h1,h2⟩,h3⟩,h4⟩,h5⟩,h6⟩,h7⟩:=hq
     have z:=JH.mp h5;refine⟨hC,c.name,c.qualname,c.ns,c.bases,m,c.hasDict,c.slotNames,c.subclasses,c.abstract,c.collection,dd,k0,k1,k2,k3,k5,h7,?_,Gz hN h4 (oA (z _ (.head _))) (oA (z _ (.tail _ (.head _)))) (oA (z _ (.tail _ (.tail _ (.head _))))) (oA (z _ (.tail _ (.tail _ (.tail _ (.head _))))))⟩
     rw[hl];cases c;simp only at hm h3;subst h1 h2 hm h3 h6
     rfl
    ·cases e
   ·cases e
  ·cases e
 ·cases e
theorem ox0 {K:Frag}{C:Addr}{n:Str}(e:B3 K none n=some C):OX K C uL:=by
 obtain⟨_,_,_,_,_,_,_,_,_,_,_,_,_,_,_,_,_,hu,hl,hn⟩:=jw e;cases nJ hu;exact BY hl hn
theorem Hq {K:Frag}{C D:Addr}{n m:Str}(e:B3 K (some D) n=some C)(d:B3 K none m=some D):OX K C (.ref D::uL):=by
 obtain⟨_,_,_,_,_,bm,_,_,_,_,_,_,_,_,_,_,_,hu,hl,hn⟩:=jw e;obtain⟨_,_,_,_,_,_,_,_,_,_,_,_,_,_,_,_,_,hu',hl',hn'⟩:=jw d;cases nJ hu';unfold yq at hu;simp only at hu
 split at hu
 ·rw[Jc]at hu
  cases eq_of_beq hu.1;cases nJ hu.2;exact zi hl hn hl' hn'
 ·cases hu
def vI {α:Type}:List (Option α)->Option (List α)
 | [] =>some []
 | none::_=>none
 | some a::r=>match vI r with | some l=>some (a::l) | none=>none
theorem j7 {α:Type}{o:Option α}{r:List (Option α)}{l:List α}(e:vI (o::r)=some l):∃a l',o=some a/\l=a::l'/\vI r=some l':=by
 cases o with
 | none=>cases e
 | some a=>
  unfold vI at e
  split at e
  ·rename_i l' h;cases e;exact⟨a,l',rfl,rfl,h⟩
  ·cases e
theorem AQ {α:Type}{l:List α}(e:vI ([]:List (Option α))=some l):l= []:=by cases e;rfl
def rN:List Addr->Bool
 | [] =>true
 | a::r=>(r.all λb=> !(a == b))&&rN r
theorem p8:∀{l:List Addr},rN l=true->l.Nodup
 | [],_=> .nil
 | a::r,h=>by
  unfold rN at h;rw[Jc]at h;refine JL.mpr ⟨λhm=> ?_,p8 h.2⟩
  have:=JH.mp h.1 a hm
  simp at this
def Hr (K:Frag):List Str->Bool
 | [] =>true
 | m::es=>match B3 K none m with
  | some D=>match vI (es.map (B3 K (some D)))with | some l=>rN (l++ [D]) | none=>false
  | none=>false
theorem EF {K:Frag}{m:Str}{es:List Str}(e:Hr K (m::es)=true):∃D l,B3 K none m=some D/\vI (es.map (B3 K (some D)))=some l/\(l++ [D]).Nodup:=by
 rw[Hr]at e
 split at e
 ·rename_i D hD
  split at e
  ·rename_i l hl;exact⟨D,l,hD,hl,p8 e⟩
  ·cases e
 ·cases e
structure yb where
 tab:List (Str×Nat)
 zs:List Str
 cs:List (Str×Int)
 es:List Str
def pR (S:yb)(K:Frag):=(S.tab.map (λp=>obF K p.1),S.zs.all (Gy K J7),S.cs.map (λc=>Hs K c.1),Hr K S.es)
def pw (S:yb)(top:Nat->Stmt):=(S.tab.map (λp=>exF p.1 (top p.2)),true,S.cs.map (λc=>some c.2),true)
def hookK (S:yb)(top:Nat->Stmt):Hook:=
 ⟨_,λs=>pR S (Am s.heap),λ_=>pw S top,λ_ h=> ∃K:Frag,K.In h/\pR S K=pw S top,λ_ s e=>⟨_,Al s.heap,e⟩,λ_ _ _ ⟨K,a,b⟩ k=>⟨K,a.keeps k,b⟩⟩
section
variable {S:yb}{top:Nat->Stmt}{K:Frag}{h:Heap}{mg:Str->Option Je}
theorem rW {α β:Type}{f g:α->β}:∀{l:List α} (j:Nat) {a:α},l.map f=l.map g->l[j]? =some a->f a=g a
 | [],_,_,_,q=>by cases q
 | b::l,0,a,e,q=>by cases q;exact(N8.inj e).1
 | b::l,j+1,a,e,q=>rW (l:=l) j (N8.inj e).2 q
theorem cg (j:Nat){n:Str}{i:Nat}{ps:List Str}(X:K.In h)(G:h.Ns J7 mg)(e:pR S K=pw S top)(q:S.tab[j]? =some (n,i))
  (hb:∀(kV doc pm:Je) (an:Option Addr) (cdv ct:Je) (us:List Je),us.length=ps.length->bindArgs (fnOf n n (iW (top i)) (dX (top i)) (ak (top i)) .none kV doc pm an cdv ct) ⟨us,[]⟩=pure (ps.zip us)) :
  ∃f fd,Fn K mg n (top i) ps f fd:=by
 obtain⟨f,fd,h1,h2⟩:=Db (rW j (congrArg (·.1) e) q)
 exact⟨f,fd,h2,h2.binds hb,mg_of X G h1⟩
theorem GL (j:Nat){n:Str}{i:Nat}{x:Str}{fa:Addr}(X:K.In h)(G:h.Ns J7 mg)(e:pR S K=pw S top)(q:S.tab[j]? =some (n,i))(hfa:mg n=some (.ref fa))
  (hb:∀(kV doc pm:Je) (an:Option Addr) (cdv ct u:Je),bindArgs (fnOf n n (iW (top i)) (dX (top i)) (ak (top i)) .none kV doc pm an cdv ct) ⟨[u],[]⟩=pure [(x,u)]) :
  ∃fd,Fn K mg n (top i) [x] fa fd/\∀(s:Jf) (u:Je),Pu s fd ⟨[u],[]⟩ [(x,u)]:=by
 obtain⟨f,fd,h1,h2⟩:=Db (rW j (congrArg (·.1) e) q)
 have z:=hfa.symm.trans (mg_of X G h1);cases z
 have hh:=h2;obtain⟨oc,od,kV,doc,pm,an,cdv,ct,osl,rfl,lk,hcd⟩:=hh.ex;exact⟨_,⟨h2,.all λus hl=>match us,hl with | [u],_=>hb kV doc pm an cdv ct u,mg_of X G h1⟩,λs u=> .of_eq (hb kV doc pm an cdv ct u)⟩
theorem gv (j:Nat){n:Str}(X:K.In h)(G:h.Ns J7 mg)(e:pR S K=pw S top)(q:S.zs[j]? =some n):mg n=none:=
 mg_none_of X G (oA (JH.mp (congrArg (·.2.1) e:S.zs.all (Gy K J7)=true) n (Ks q)))
theorem qi (j:Nat){n:Str}{i:Int}(X:K.In h)(G:h.Ns J7 mg)(e:pR S K=pw S top)(q:S.cs[j]? =some (n,i)):∃t,mg n=some (.int i t):=by
 obtain⟨t,ht⟩:=EG (rW (f:=λc=>Hs K c.1) (g:=λc=>some c.2) j (congrArg (·.2.2.1) e) q)
 exact⟨t,mg_of X G ht⟩
theorem GP (e:pR S K=pw S top):Hr K S.es=true:=congrArg (·.2.2.2) e
end
theorem left_of {p q:JI}{loose:List Str}{Xt:Jf->Bool}{α:Type}{Yf:Jf->α}{Ya:Kr->α}{N:Nat}{g0:Bool}
  (e:opening p=plainProg p.main.scope.names) (hN:Nat.ble 600 N=true) (f:∀s,fenceModules? p s=some s)
  (h:∀(w:Kr) (os:OsState),(topFrom treeTable p w N ⟨boot_heap w.params,⟨[]⟩,boot_drawn,boot_toks,os⟩).map (λs=>(openSeen q loose (Qp p.main.body) Xt g0 s,Yf s))=some (openGood q loose,Ya w)) :
  LeftO p q loose Xt Yf Ya N g0:=λw=>by
 obtain⟨⟨h0,gs,d,k,os⟩,e1,e2⟩:=KD.mp (boot_open e hN f w);simp only[Prod.mk.injEq]at e2;obtain⟨rfl,rfl,rfl,rfl⟩:=e2;unfold openEnds;rw[e1];exact h w os
theorem walk_k {l:OpenLaw}{n k:Nat}{q:JI}{loose:List Str}{XP:(Str->Option Je)->Heap->Prop}{d:DefRec}{S:yb}{top:Nat->Stmt}{CX:A1}{sp:Frag->Sp}{x:Str}
  (hn:l.most=some n) (hn2:n<=sizeLine) (hdf:d.params.defaults= []) (hr:Room k callerA)
  (F:∀(w:Kr) (K:Frag) (mg:Str->Option Je) (fa:Addr) (h:Heap),K.In h->pR S K=pw S top->h.Ns J7 mg->mg d.name=some (.ref fa) →
   ∃fd:KS,(∀(s:Jf) (u:Je),Pu s fd ⟨[u],[]⟩ [(x,u)])/\∀base:Heap,K.In base->base.Ns J7 mg->sG l.prog w K mg base CX k fa fd [x] (sp K))
  (hsp:∀(K:Frag) (H:Hp) (a:Addr) (ns:List Int),ns.length<=n->Fy H->SqL K H a (ns.map V.int)->sp K [.ref a] H (λv _=>v= .bl true) λ_ _ _=>False)
  (hCX:∀(H:Hp) (s:Jf) (e:Je) (s':Jf),CX [] H s (λ_ _ _=>False) e s'->False) :
  WalkO q loose XP (hookK S top).says l.row.toRowW d [] (λf vs=>PySem.call f vs):=by
 refine Att.attach_call hn hdf λw s₀ s₁ mg mb fa o pm cd doc a vs ns G Y ho hd hcd hmg hobj hints hlen hg=> ?_
 obtain⟨K,KX,e⟩:=Y;obtain⟨fd,hb,hF⟩:=F w K mg fa _ KX e G.T.g hmg;exact zQ KX G.T.g G.T.b G.T.builtins G.T.nolimit hg hobj hints (Ka hlen hn2) hr hF hb (λH hO hS=>hsp K H a ns hlen hO hS) λH e s'=>hCX H s₁ e s'
structure Cl (P:JI)(w:Kr)(K:Frag)(mg:Str->Option Je)(base:Heap)(k:Nat)(x:Str)(n:Nat)(m:List T->Rs T):Prop where
 ex:∃f fd ps,mg x=some (.ref f)/\keepIn K (.ref f)=true/\Binds K fd ps []/\ps.length=n/\Fz P w K mg base k f fd ps n m
abbrev f9 (K:Frag)(mg:Str->Option Je)(x:Str)(st:Stmt)(ps:List Str):Prop:=∃f fd,Fn K mg x st ps f fd
section
variable {P:JI}{w:Kr}{K:Frag}{mg:Str->Option Je}{base:Heap}{x:Str}{st:Stmt}{N ps:List Str}{k n:Nat}{F:En->Rs Fl}
theorem a7 (H:f9 K mg x st ps)(S:ay N ps (ak st))(hn:ps.length=n)
  (hbody:∀(f:Addr) (cdv:Je) (A:J9) (outer:List Env) (s:Jf) (H:Hp) (E:XK),Room k (A.deeper (envOfC x (ak st) s.heap.objs.size f cdv)) →
   ∀xe,A0 ((mj CX0 P w K mg base N x (ak st) f cdv A outer s H E).HF xe) (dX st) F):Cl P w K mg base (k+1) x n (val n N.length F):=by
 obtain⟨f,fd,h⟩:=H;exact⟨f,fd,ps,h.mg,h.fn.kp,h.bd,hn,vR h.fn S hn (hbody f)⟩
end
section
variable {X:Cx}{e:Expr}{es:List Expr}{fs:En->Rs (List T)}{pos p:Pos}{x:Str}{n k k':Nat}{g:List T->Rs T}
theorem aH (c:Cl X.prog X.w X.K X.mg X.base k x n g)(hr:Room k' X.A)(ha:QA X (e::es) fs)(hk:k<=k':=by decide)(hl:∀(Z:En) (ts:List T),fs Z= .ok ts->ts.length=n:=by repeat first | exact G6 | refine G5 ?_)
  (hn:bx (e::es)=true:=by rfl) (hg:Gl X x:=by rfl) (h2:(x == Jm "__debug__")=false:=by decide):QE X (.Call (.Name x p) (e::es) [] pos) (cl g fs):=by
 obtain⟨f,fd,ps,h1,h3,h4,h5,h6⟩:=c.ex;exact zq_c h6 (hr.mono hk) h1 h3 h4 hl ha h5 hn hg h2
theorem pq {i:Int}(h:∃t,X.mg x=some (.int i t))(hg:Gl X x:=by rfl)(hd:(x == Jm "__debug__")=false:=by decide):QE X (.Name x pos) (cn (.int i)):=by
 obtain⟨t,h⟩:=h;exact A4 h ⟨_,rfl⟩ hg hd
end
end Tr
namespace Tr
open PySem PySem.Spec PyProof.Rows L2
theorem PairsAt.snoc {H:Hp}{b kb:Addr}{p:List Key×V}(h1:H b=some (.tup [.ref kb,p.2]))(h2:H kb=some (.tup (p.1.map kV))):∀{xs:List V} {ps:List (List Key×V)},PairsAt H xs ps->PairsAt H (xs++ [.ref b]) (ps++ [p])
 | [],_,h=>by
  unfold PairsAt at h;subst h
  exact⟨b,kb,p,[],rfl,rfl,h1,h2,rfl⟩
 | x::xs,_,⟨b',kb',p',r,e1,e2,e3,e4,e5⟩=>by
  subst e1;exact⟨b',kb',p',r++ [p],rfl,e2,e3,e4,e5.snoc h1 h2⟩
theorem PairsAt.move {H H':Hp}{D:Addr}{zs:List V}(hD:H D=some (.lst zs))(s:SameO (λa=>a=D) H H'):∀{xs:List V} {ps:List (List Key×V)},PairsAt H xs ps->PairsAt H' xs ps
 | [],_,h=>h
 | x::xs,_,⟨b,kb,p,r,e1,e2,e3,e4,e5⟩=>⟨b,kb,p,r,e1,e2,s _ _ e3 (jz e3 hD (λz=>nomatch z)),s _ _ e4 (jz e4 hD (λz=>nomatch z)),e5.move hD s⟩
theorem PairsAt.len {H:Hp}:∀{xs:List V} {ps:List (List Key×V)},PairsAt H xs ps->xs.length=ps.length
 | [],_,h=>by unfold PairsAt at h;subst h;rfl
 | x::xs,_,⟨b,kb,p,r,e1,e2,e3,e4,e5⟩=>by subst e1;rw[Ji,Ji,e5.len]
section
variable {X:Cx}
theorem uk {src:List (Option Nat)}{wi:TI}{te:TE}{σ:L2.St}{H:Hp}{Q:VK}{Z:En}{O:Ow}{l:List T}{kk:List (List Key)}(E:EnvO X.K O H Z σ)(hwi:∀R,(∀H1,Same H H1->∀J,Hb X.K O H1 l J->R J H1)->wi σ H R)(hz:l.length<=1000)(hk:l.map aW=kk.map some)(hs:0<src.length)
  (Acc:Hp->Addr->List V->Prop) (a0:∀H1 D,Same H H1->Nw X.K H1 D->Acc (upd H1 D (.lst [])) D [])
  (am:∀H1 H2 D vs ys,Acc H1 D vs->H1 D=some (.lst ys)->SameO (λa=>a=D) H1 H2->Acc H2 D vs)
  (hte:∀t∈l,∀σ' H' O' D vs ys (Q':VK),EnvM X.K O' noM H' ((bF src Z).set 0 (.va t)) σ'->Acc H' D vs->H' D=some (.lst ys)->(∀v H'',Same H' H''->Acc H'' D (vs++ [v])->Q' v H'')->te σ' H' Q')
  (hq:∀H1 D ys ps H',Same H H1->Nw X.K H1 D->Same H1 H'->H' D=some (.lst ys)->PairsAt H' ys ps->ps.map (·.1)=kk->Acc H' D (ps.map (·.2))->Q (.ref D) H') :
  Dr X.K wi src (xc X (gN 0)) sV (Bf (k6 (sU 0) (k6 te yw))) σ H Q:=by
 refine hwi _ λH1 s1 J hJ D hD hK=> ?_
 have nD:Nw X.K H1 D:=⟨hD,hK⟩
 have E1:=E.same s1
 have lk:l.length=kk.length:=by have:=congrArg Kn hk;rwa [Jd,Jd]at this
 have hlen:0<(bF src Z).length:=by unfold bF;rw[Jd];exact hs
 let O':Ow:=λa=>O a\/a=D
 have subO:∀a,O' a->O a\/Nw X.K H1 a:=λa z=>z.elim .inl λw=> .inr (w▸nD)
 refine⟨λi m σ' ys H'=>m=l.length - i/\i<=l.length/\ys.length=i/\H' D=some (.lst ys)/\SameO (λa=>a=D) (upd H1 D (.lst [])) H' ∧
  ∃s0 ps,EnvM X.K O' noM H' ((bF src Z).set 0 s0) σ'/\PairsAt H' ys ps/\ps.map (·.1)=kk.take i/\Acc H' D (ps.map (·.2)),⟨l.length,?_⟩,?_⟩
 ·have sN:Same H1 (upd H1 D (.lst [])):=aV hD _
  refine⟨by omega,Lc _,rfl,aG,λb o e _=>e,(bF src Z)[0],[],?_,rfl,rfl,a0 H1 D s1 nD⟩
  rw[N3]
  exact(ul E1 src).move (P:=λa=>a=D) (λa z=> .inr (z▸nD)) subO (λb o e _=>sN b o e) λa z=>by
   rcases z with z | z
   ·exact(E1.mtb a z).same sN
   ·rw[z];exact .inl ⟨_,aG⟩
 ·rintro i m σ' ys H' ⟨rfl,hi',hyl,hDl,hsm,s0,ps,E',hp,hkk,hacc⟩
  refine⟨hDl,?_⟩
  have sm1:SameO (λa=>a=D) H1 H':=λb o e nb=>hsm b o (by rw[aF nb];exact e) nb
  have it:=hJ (λa=>a=D) O' (λa z=> .inr (z▸nD)) subO i H' sm1 (λa z=>(E'.trk a z).some)
  by_cases hlt:i<l.length
  ·refine .inr ?_
   obtain⟨go,yl⟩:=it.2 l[i] (by simp)
   refine⟨go,by rw[hyl,Lw];omega,λxx Hc y=> ?_⟩
   obtain⟨sc,rx⟩:=yl xx Hc y
   have Ec:=E'.same sc
   have eg:gN 0 l[i] ((bF src Z).set 0 s0)= .ok ((bF src Z).set 0 (.va l[i])):=by unfold gN;rw[if_pos (by rw[Kp];exact hlen),PD]
   refine⟨(bF src Z).set 0 s0,O',noM,l[i],Ec,rx,?_⟩
   rw[eg];intro σ1 Eg;unfold sV
   dsimp only
   rw[if_pos rfl];obtain⟨kv,ekv,rkv⟩:=Eg.val 0 l[i] (by rw[JA hlen])
   refine⟨kv,ekv,?_⟩
   have aC:Acc Hc D (ps.map (·.2)):=am H' Hc D _ ys hacc hDl λb o e _=>sc b o e
   have DC:Hc D=some (.lst ys):=sc _ _ hDl;refine hte l[i] (KU hlt) σ1 Hc O' D _ ys _ Eg aC DC λv H4 s4 acc4=>⟨by show 2<=sizeLine;rw[Lw];omega,λp hpn=> ?_⟩
   have D4:H4 D=some (.lst ys):=s4 _ _ DC
   have pD:p≠D:=λz=>by rw[z,D4]at hpn;cases hpn
   have E4:=Eg.same s4
   have ki:kk[i]'(by omega)=kk[i]'(by omega):=rfl
   have hki:aW l[i] =some (kk[i]'(by omega)):=by
    have:=congrArg (λz=>z[i]?) hk
    simp only[JN,Jo hlt,Jo (show i<kk.length by omega),N7]at this
    exact JU this
   obtain⟨kb,rfl,hkb⟩:=gB hki (rkv.same s4)
   have s46:SameO (λa=>a=D) H4 (upd (upd H4 p (.tup [.ref kb,v])) D (.lst (ys++ [.ref p]))):=λb o e nb=>by
    rw[aF nb,aF (λz=>by rw[z,hpn]at e;cases e)];exact e
   refine⟨by rw[aF (NW pD)];exact D4,l.length - (i+1),by omega,rfl,hlt,?_,aG,λb o e nb=>s46 b o (s4 _ _ (sc _ _ (hsm b o e nb))) nb,.va l[i],ps++ [(kk[i]'(by omega),v)],?_,?_,?_,?_⟩
   ·rw[Jj,hyl];rfl
   ·exact E4.move (λa z=> .inl (.inr z)) (λa z=> .inl z) s46 λaa z=>by
     by_cases hz:aa=D
     ·rw[hz];exact .inl ⟨_,aG⟩
     ·exact(E4.trk aa z).elim (λ⟨vs,e⟩=> .inl ⟨vs,s46 _ _ e hz⟩) λ⟨vs,e⟩=> .inr ⟨vs,s46 _ _ e hz⟩
   ·refine((hp.same (sc.trans s4)).move D4 s46).snoc (kb:=kb) (p:=(kk[i]'(by omega),v)) ?_ ?_
    ·rw[aF pD,aG]
    ·exact s46 _ _ hkb (jz hkb D4 (λz=>nomatch z))
   ·rw[JX,hkk]
    show kk.take i++ [kk[i]'(by omega)] =kk.take (i+1)
    rw[List.take_append_getElem]
   ·rw[JX]
    exact am H4 _ D _ ys acc4 D4 s46
  ·refine .inl ⟨it.1 (by omega),?_⟩
   have sF:Same H1 H':=λb o e=>sm1 b o e λz=>by rw[z,hD]at e;cases e
   exact hq H1 D ys ps H' s1 nD sF hDl hp (by rw[hkk,NQ (by omega)]) hacc
def qN (K:IX)(t:TE):TE:=λσ H Q=>t σ H λv H'=> ∃a xs ps,v= .ref a/\H' a=some (.lst xs)/\xs.length<=1000/\PairsAt H' xs ps/\∀q,Nw K H' q->Q (.ref q) (upd H' q (.dT (d9 [] ps)))
theorem tQ {e:Expr}{t:TE}{p pos:Pos}(hu:X.A.units+8<cLine)(hc:X.calm=true)(hm:X.mg "dict" =none)(ha:PE X e t)(hg:Gl X "dict")(hs:bN e=true):PE X (.Call (.Name "dict" p) [e] [] pos) (qN X.K t):=by
 have h1:Jz [e] X.env=(false,eval e X.env)::Jz [] X.env:=bh hs;intro pins s σ H Q I hq;refine Kt (gu I hg hm (show JT "dict" =some (.type "dict")by decide+kernel) ?_ (by decide) (by decide))
 refine JO (cG (fy (te:=t) ha ju h1 pos pins s σ H (λzs H'=>match zs with | [v] => ∃a xs ps,v= .ref a/\H' a=some (.lst xs)/\xs.length<=1000/\PairsAt H' xs ps/\∀q,Nw X.K H' q->Q (.ref q) (upd H' q (.dT (d9 [] ps))) | _=>False) I ?_) λus s1 hh=> ?_) h1 rfl
 ·exact hq
 ·obtain⟨vs,H1,I1,r1,hv⟩:=hh
  match vs,hv,r1 with
  | [v],hv,r1=>
  obtain⟨a,xs,ps,ev,e1,e2,e3,e4⟩:=hv;subst ev;obtain⟨u,rfl,ru⟩:=r1.one;obtain rfl:u=JF a:=ru;exact uF (I1.ok.hd hc) hu I1 e1 e2 e3 λq s' nw I'=>⟨.ref q,_,I',rfl,e4 q nw⟩
end
theorem lT:∀(ps kvs:List (List Key×V)),((kvs++ps).map (·.1)).Nodup->d9 kvs ps=kvs++ps
 | [],kvs,_=>by rw[d9,Kd]
 | p::ps,kvs,h=>by
  have e:df kvs p.1 p.2=kvs++ [p]:=by
   unfold df;rw[if_neg];intro z;obtain⟨q,hq,e⟩:=MH.mp z
   have e:=of_decide_eq_true e;rw[JX,Kf]at h;exact h.2.2 q.1 (Jl.mpr ⟨q,hq,rfl⟩) p.1 (by simp) e
  rw[d9,e,lT ps (kvs++ [p]) (by rw[JB];exact h),JB]
  rfl
def gU (kk:List (List Key)):List (List Key×V):=kk.map λk=>(k,V.non)
theorem DA {kk:List (List Key)}:∀{ps:List (List Key×V)},ps.map (·.1)=kk->(∀v∈ps.map (·.2),v=V.non)->ps=gU kk:=by
 intro ps h1 h2;subst h1;unfold gU;rw[J4]
 conv=>lhs;rw[<-NA ps]
 exact JE λp hp=>Prod.ext rfl (h2 p.2 (Jl.mpr ⟨p,hp,rfl⟩))
section
variable {X:Cx}
def tPI0 (K:IX)(f:En->Rs (List T)):TI:=λσ H R=> ∃Z O,EnvO K O H Z σ/\match f Z with
 | .ok ts=> ∀H',Same H H'->∀J,Hb K O H' ts J->R J H'
 | _=>False
theorem tPI0.up {f:En->Rs (List T)}{σ:L2.St}{H:Hp}{R:It->Hp->Prop}(h:tPI0 X.K f σ H R):Hm X f σ H R:=by
 obtain⟨Z,O,E,h⟩:=h;refine⟨Z,O,E,?_⟩
 cases q:f Z with
 | ok t=>rw[q]at h;exact h
 | err c=>rw[q]at h;exact h.elim
 | bad=>rw[q]at h;exact h.elim
def uY (X:Cx)(src:List (Option Nat)):TE:=qN X.K (Dr X.K (tPI0 X.K (iS (vr 1))) src (xc X (gN 0)) sV (Bf (k6 (sU 0) (k6 (tC .non) yw))))
theorem Ek {eb tb ib:Expr}{p q1 pc lp pos:Pos}{jj:Nat}{sc:Mi}{N':List Str}{src:List (Option Nat)}{x1}(hu:X.A.units+8<cLine)(hc:X.calm=true)(hm:X.mg "dict" =none)(hg:Gl X "dict")(S:LcScope X sc N' src)(hi:x8 X tb ib (iS (vr 1)))
  (blk:∀cl C s₀ H₀ fp,AT (bJ X sc cl N' C s₀ H₀ fp) tb (gN 0)/\PE (bJ X sc cl N' C s₀ H₀ fp) eb (sU 0)/\bN eb=true) (hs:∀x,JQ ib X.env x=pure x) :
  PE X (.Call (.Name "dict" p) [.ListComp (.Tuple [eb,.Constant .none jj pc] x1 q1) [⟨tb,ib,[],0⟩] sc lp] [] pos) (uY X src):=
 PE.imp (tQ hu hc hm (tO hc S hi (λcl C s₀ H₀ fp=>⟨(blk cl C s₀ H₀ fp).1,rn,vd (fy (blk cl C s₀ H₀ fp).2.1 (fy zc ju (bh rfl)) (bh (blk cl C s₀ H₀ fp).2.2))⟩) hs) hg rfl) λσ H Q h=>tPI0.up h
theorem yH {src:List (Option Nat)}{σ:L2.St}{H:Hp}{Q:VK}{Z:En}{O:Ow}{l:List T}{kk:List (List Key)}(E:EnvO X.K O H Z σ)(hf:iS (vr 1) Z= .ok l)(hz:l.length<=1000)(hk:l.map aW=kk.map some)(hn:kk.Nodup)(hs:0<src.length)
  (hq:∀d H',Same H H'->Nw X.K H d->H' d=some (.dT (gU kk))->Q (.ref d) H'):uY X src σ H Q:=by
 have lk:l.length=kk.length:=by have:=congrArg Kn hk;rwa [Jd,Jd]at this
 unfold uY qN;refine uk (X:=X) (te:=tC .non) E (λR h=>⟨Z,O,E,by rw[hf];exact h⟩) hz hk hs (λ_ _ vs=> ∀v∈vs,v=V.non) (λ_ _ _ _ v h=>nomatch h) (λ_ _ _ _ _ h _ _=>h) (λt ht σ' H' O' D vs ys Q' _ acc _ k=>k _ H' (Same.refl H') λv hv=> ?_) λH1 D ys ps H' s1 nD s2 hD hp h1 h2=> ?_
 ·rcases JG.mp hv with z | z
  ·exact acc v z
  ·exact Jp.mp z
 ·have e:ps=gU kk:=DA h1 h2
  refine⟨D,ys,ps,rfl,hD,by rw[hp.len,e];unfold gU;rw[Jd];omega,hp,λq nq=> ?_⟩
  have e2:d9 [] ps=gU kk:=by rw[lT ps [] (by rw[Ko,h1];exact hn),Ko,e]
  rw[e2];exact hq q _ ((s1.trans s2).trans (aV nq.1 _)) (lw (s1.trans s2) nq) aG
theorem tM {K:IX}{O:Ow}{H:Hp}:∀(l:List T) (kk:List (List Key)),l.length=kk.length->Reps K O H (l.map λ_=>T.non) ((gU kk).map (·.2))
 | [],[],_=>Reps.nil_
 | _::l,_::kk,h=>Reps.HG Rep.Il (tM l kk (by simpa using h))
 | [],_::_,h=>by simp at h
 | _::_,[],h=>by simp at h
theorem tJ {K:IX}{O:Ow}{H:Hp}{l:List T}{kk:List (List Key)}(hk:l.map aW=kk.map some):∀{m:List T} {ds:List Addr},m.length=ds.length->(∀d∈ds,H d=some (.dT (gU kk)))->RowsR K O H (m.map λ_=>(l,l.map λ_=>T.non)) ds
 | [],[],_,_=>rfl
 | _::m,d::ds,h,hd=>⟨d,ds,gU kk,rfl,hd d Ja,by unfold gU;rw[J4];exact hk,tM l kk (by have:=congrArg Kn hk;rwa [Jd,Jd]at this),tJ hk (by simpa using h) λe he=>hd e (IZ _ he)⟩
 | [],_::_,h,_=>by simp at h
 | _::_,[],h,_=>by simp at h
theorem wu:∀{l:List T},iC l=true->∃kk:List (List Key),l.map aW=kk.map some
 | [],_=>⟨[],rfl⟩
 | t::l,h=>by
  unfold iC at h;rw[Jc]at h;obtain⟨kk,e⟩:=wu h.2;obtain⟨k,ek⟩:=Li.mp h.1;exact⟨k::kk,by rw[Jb,Jb,ek,e]⟩
theorem yM (i j:Nat){x:Str}{ea r ta ia:Expr}{p q1 lp p2 p3 pos:Pos}{x1}{sc:Mi}{N':List Str}{src:List (Option Nat)}(hu:X.A.units+8<cLine)(hc:X.calm=true)(hm:X.mg "dict" =none)(hN:X.N.Nodup)
  (S:LcScope X sc N' [none,some j]) (hi:x8 X ta ia (iS (vr j))) (hsr:0<src.length)
  (blk:∀cl C s₀ H₀ fp,AT (bJ X sc cl N' C s₀ H₀ fp) ta (gN 0)/\PE (bJ X sc cl N' C s₀ H₀ fp) ea (sU 0)/\PE (bJ X sc cl N' C s₀ H₀ fp) r (uY X src)) (h1:bN ea=true:=by rfl) (h2:bN r=true:=by rfl)
  (hs:∀x,JQ ia X.env x=pure x:=by intro _;rfl) (hg:Gl X "dict":=by rfl) (hix:X.N[i]? =some x:=by rfl) (hx:Loc X.env.scope x:=by first | exact Kz rfl | exact Ki rfl)
  (hsw:Kj (.Call (.Name "dict" p) [.ListComp (.Tuple [ea,r] x1 q1) [⟨ta,ia,[],0⟩] sc lp] [] p2) (some (.Name x p3)) pos.line X.env=pure false:=by rfl)
  (hf:X.fn x=true\/X.env.scope.names.lookup x=some .local:=by first | exact .inl rfl | exact .inr rfl | assumption) :
  pi X (.Assign [.Name x p3] (.Call (.Name "dict" p) [.ListComp (.Tuple [ea,r] x1 q1) [⟨ta,ia,[],0⟩] sc lp] [] p2) pos) (n4 i j):=
 PS.imp (ri hN hix hx (tQ hu hc hm (tO (g:=xc X (gN 0)) (tc:=sV) (te:=Bf (k6 (sU 0) (k6 (uY X src) yw))) hc S hi (λcl C s₀ H₀ fp=>⟨(blk cl C s₀ H₀ fp).1,rn,vd (fy (blk cl C s₀ H₀ fp).2.1 (fy (blk cl C s₀ H₀ fp).2.2 ju (bh h2)) (bh h1))⟩) hs) hg rfl) hsw hf) λD σ H hh_=>by
  obtain⟨Z,B,M,E,h⟩:=hh_;unfold n4 at h
  cases qj:Z[j]? with
  | none=>rw[qj]at h;exact h.elim
  | some z=>
   rw[qj]at h
   match z,h,qj with
   | .va (.lst l),h,qj=>
    dsimp only at h
    by_cases hh:i<Z.length/\iC l=true/\(l.map aW).Nodup/\l.length<=1000
    ·rw[if_pos hh]at h
     obtain⟨hl,hky,hnd,hz⟩:=hh;obtain⟨kk,hk⟩:=wu hky
     have lk:l.length=kk.length:=by have:=congrArg Kn hk;rwa [Jd,Jd]at this
     have hn:kk.Nodup:=by
      rw[hk]at hnd;exact(Pr.mp hnd).imp λh z=>h (by rw[z])
     have fj:iS (vr j) Z= .ok l:=by unfold iS vr;rw[qj];rfl
     have hlc:bF [none,some j] Z= [.em,.va (.lst l)]:=by unfold bF;simp[qj]
     unfold yx qN
     refine uk (X:=X) (te:=uY X src) E.o (λR h=>⟨Z,OO B M,E.o,by rw[fj];exact h⟩) hz hk (by simp)
      (λH' D vs=>H D=none/\Same H H'/\∃ds:List Addr,vs=ds.map V.ref/\ds.Nodup/\∀d∈ds,Nw X.K H d/\H' d=some (.dT (gU kk)))
      (λH1 D s1 nD=>⟨(lw s1 nD).1,s1.trans (aV nD.1 _),[],rfl,K1,λd h=>nomatch h⟩)
      (λH1 H2 D vs ys ⟨c1,c2,ds,c3,c4,c5⟩ hD s=>⟨c1,(λb o e=>s b o (c2 b o e) (λz=>by rw[z,c1]at e;cases e)),ds,c3,c4,λd hd=>⟨(c5 d hd).1,s _ _ (c5 d hd).2 (jz (c5 d hd).2 hD (λz=>nomatch z))⟩⟩)
      (λt ht σ' H' O' D vs ys Q' E' ⟨c1,c2,ds,c3,c4,c5⟩ hD k=>yH (l:=l) (kk:=kk) ⟨noM,E'⟩ (by rw[hlc];rfl) hz hk hn hsr λd H'' s' nd hd=> ?_) λH1 D ys ps H' s1 nD s2 hD hp e1 ⟨c1,c2,ds,c3,c4,c5⟩=> ?_
     ·refine k _ H'' s' ⟨c1,c2.trans s',ds++ [d],by rw[c3,JX];rfl,?_,λe he=> ?_⟩
      ·refine Kf.mpr ⟨c4,by simp,λu hu w hw=> ?_⟩
       rw[Jp.mp hw];intro z
       have:=(c5 u hu).2;rw[z,nd.1]at this;cases this
      ·rcases JG.mp he with z | z
       ·exact⟨(c5 e z).1,s' _ _ (c5 e z).2⟩
       ·rw[Jp.mp z]
        exact⟨lw c2 nd,hd⟩
     ·have hpl:ps.length=kk.length:=by rw[<-e1,Jd]
      refine⟨D,ys,ps,rfl,hD,by rw[hp.len];omega,hp,λq nq=> ?_⟩
      have e2:d9 [] ps=ps:=by rw[lT ps [] (by rw[Ko,e1];exact hn),Ko]
      rw[e2]
      have qd:q∉ds:=λz=>by have:=(c5 q z).2;rw[nq.1]at this;cases this
      have dl:ds.length=ps.length:=by have:=congrArg Kn c3;rw[Jd,Jd]at this;exact this.symm
      have hm':∀b,b=q\/b∈ds->Nw X.K H b:=λb z=>z.elim (λw=>w▸lw c2 nq) λw=>(c5 b w).1
      have sF:Same H (upd H' q (.dT ps)):=c2.trans (aV nq.1 _);obtain⟨E2,sub⟩:=E.new (m:=λb=>b=q\/b∈ds) (o:=.dd l (l.map λ_=>(l,l.map λ_=> .non))) (v:=.ref q) (H':=upd H' q (.dT ps)) hl hm' sF ⟨q,ps,ds,rfl,λb=>MF,qd,c4,aG,by rw[hk,<-e1,J4];rfl,c3,tJ hk (by omega) λd hd=>by rw[aF (show d≠q from λz=>qd (z▸hd))];exact(c5 d hd).2⟩
      exact h _ _ _ (SameO.of sF) E2 sub
    ·rw[if_neg hh]at h;exact h.elim
   | .em,h,_=>exact h.elim
   | .ow _,h,_=>exact h.elim
   | .va .non,h,_=>exact h.elim
   | .va (.bl _),h,_=>exact h.elim
   | .va (.int _),h,_=>exact h.elim
   | .va (.str _),h,_=>exact h.elim
   | .va (.tup _),h,_=>exact h.elim
   | .va (.scr _),h,_=>exact h.elim
   | .va (.dct _ _),h,_=>exact h.elim
end
theorem wY {X:Cx}(i j:Nat){x:Str}{ea r ta ia:Expr}{p q1 lp p2 p3 pos:Pos}{x1}{sc:Mi}{N':List Str}{src:List (Option Nat)}(hu:X.A.units+8<cLine)(hc:X.calm=true)(hm:X.mg "dict" =none)(hN:X.N.Nodup)
  (S:LcScope X sc N' [none,some j]) (hi:QI X ta ia (iS (vr j))) (hsr:0<src.length)
  (blk:∀cl C s₀ H₀ fp,QG (bJ X sc cl N' C s₀ H₀ fp) ta (gN 0)/\PE (bJ X sc cl N' C s₀ H₀ fp) ea (sU 0)/\PE (bJ X sc cl N' C s₀ H₀ fp) r (uY X src)) (h1:bN ea=true:=by rfl) (h2:bN r=true:=by rfl)
  (hs:∀x,JQ ia X.env x=pure x:=by intro _;rfl) (hg:Gl X "dict":=by rfl) (hix:X.N[i]? =some x:=by rfl) (hx:Loc X.env.scope x:=by first | exact Kz rfl | exact Ki rfl)
  (hsw:Kj (.Call (.Name "dict" p) [.ListComp (.Tuple [ea,r] x1 q1) [⟨ta,ia,[],0⟩] sc lp] [] p2) (some (.Name x p3)) pos.line X.env=pure false:=by rfl)
  (hf:X.fn x=true\/X.env.scope.names.lookup x=some .local:=by first | exact .inl rfl | exact .inr rfl | assumption) :
  QS X (.Assign [.Name x p3] (.Call (.Name "dict" p) [.ListComp (.Tuple [ea,r] x1 q1) [⟨ta,ia,[],0⟩] sc lp] [] p2) pos) (n4 i j):=
 ⟨yM i j hu hc hm hN S hi.h hsr (λcl C s₀ H₀ fp=>⟨(blk cl C s₀ H₀ fp).1.h,(blk cl C s₀ H₀ fp).2⟩) h1 h2 hs hg hix hx hsw hf⟩
theorem vP {X:Cx}{a b:Expr}{fs:En->Rs (List T)}{p p1 p2 pos:Pos}(hu:X.A.units+8<cLine)(hc:X.calm=true)(hm:X.mg "dict" =none)(hmz:X.mg "zip" =none)(ha:QA X [a,b] fs)(hst:bx [a,b] =true:=by rfl)(hg:Gl X "dict":=by rfl)(hgz:Gl X "zip":=by rfl) :
  QE X (.Call (.Name "dict" p) [.Call (.Name "zip" p1) [a,b] [] p2] [] pos) (cl FD fs):=⟨D5 hu hc hm hmz ha.h hst hg hgz⟩
theorem vO {X:Cx}{elt tg:Expr}{ifs:List Expr}{scope:Mi}{spos py pos pn:Pos}{N':List Str}{src:List (Option Nat)}{tgt:T->En->Rs En}{fc:En->Rs Bool}{fe:En->Rs T}(i j:Nat){y D:Str}
  (hc:X.calm=true) (S:LcScope X scope N' src) (block:∀cl C s₀ H₀ fp,QG (bJ X scope cl N' C s₀ H₀ fp) tg tgt/\G7 (bJ X scope cl N' C s₀ H₀ fp) ifs fc/\QE (bJ X scope cl N' C s₀ H₀ fp) elt fe)
  (hN:X.N.Nodup) (hD:X.N[i]? =some D:=by rfl) (hDv:uN X.env.scope D:=by first | exact Kz rfl | exact Ki (Kz rfl) | exact Ki (Ki rfl)) (hDd:(D == ("__debug__" : Str))=false:=by decide) (hDc:(D == ("__classdict__" : Str))=false:=by decide)
  (hiy:X.N[j]? =some y:=by rfl) (hy:Loc X.env.scope y:=by first | exact Kz rfl | exact Ki rfl) (hsw:Kj (.ListComp elt [⟨tg,.Name D pn,ifs,0⟩] scope pos) (some (.Name y py)) spos.line X.env=pure true:=by rfl)
  (hf:X.fn y=true\/X.env.scope.names.lookup y=some .local:=by first | exact .inl rfl | exact .inr rfl | assumption) (hs:∀x,JQ (.Name D pn) X.env x=pure x:=by intro _;rfl) :
  QS X (.Assign [.Name y py] (.ListComp elt [⟨tg,.Name D pn,ifs,0⟩] scope pos) spos) (qY i j src tgt fc fe):=
 ⟨DO i j hc S (λa b c d e=>⟨(block a b c d e).1.h,(block a b c d e).2.1.h,(block a b c d e).2.2.h⟩) hN hD hDv hDd hDc hiy hy hsw hf hs⟩
theorem qK {X:Cx}{a b:Expr}{fs:En->Rs (List T)}{p pos:Pos}{elts:List Expr}{kk:Nat}{tpos:Pos}(hm:X.mg "zip" =none)(ha:QA X [a,b] fs)(hg:Gl X "zip":=by rfl)(hst:bx [a,b] =true:=by rfl) :
  QI X (.Tuple elts kk tpos) (.Call (.Name "zip" p) [a,b] [] pos) (iZ fs):=⟨DV hm ha.h hg hst⟩
theorem w6 {X:Cx}{a b c d:Expr}{fa fb fc fd:En->Rs T}{pos:Pos}{op op' op2:Qt}{g g' g2:T->T->Rs T}(ho:OpT X (JY op) g)(ho':OpT X (JY op') g')(ho2:OpT X (JY op2) g2)(ha:QE X a fa)(hb:QE X b fb)(hc:QE X c fc)(hd:QE X d fd)
  (hm:Qo [op,op',op2] [b,c,d] =false:=by with_unfolding_all rfl):QE X (.Compare a [op,op',op2] [b,c,d] pos) (FE g g' g2 fa fb fc fd):=⟨yQ ho ho' ho2 ha.h hb.h hc.h hd.h hm⟩
end Tr
namespace G
open PySem PySem.Spec PyProof.Rows L2 Tr
def top (i:Nat):Stmt:=PySem.Challenge.pw_farclocks_k54_whole_spans.main.body.getD i (.Pass ⟨0,0,0,0⟩)
structure Bl (mg:Str->Option Je):Prop where
 b_all:mg "all" =none
 b_bool:mg "bool" =none
 b_dict:mg "dict" =none
 b_enumerate:mg "enumerate" =none
 b_int:mg "int" =none
 b_isinstance:mg "isinstance" =none
 b_len:mg "len" =none
 b_max:mg "max" =none
 b_min:mg "min" =none
 b_range:mg "range" =none
 b_tuple:mg "tuple" =none
 b_zip:mg "zip" =none
structure Cs (mg:Str->Option Je):Prop where
 MOST_CLOCKS:∃t,mg "MOST_CLOCKS" =some (.int 4 t)
 MOST_LETTERS:∃t,mg "MOST_LETTERS" =some (.int 8 t)
 MOST_READINGS:∃t,mg "MOST_READINGS" =some (.int 4 t)
 LAST_READING:∃t,mg "LAST_READING" =some (.int 99 t)
 SLOWEST:∃t,mg "SLOWEST" =some (.int 9 t)
 LONGEST:∃t,mg "LONGEST" =some (.int 999 t)
theorem sB:JT "bool" =some (.type "bool"):=by decide+kernel
theorem mP:JT "int" =some (.type "int"):=by decide+kernel
theorem cu:JT "tuple" =some (.type "tuple"):=by decide+kernel
structure Xs (K:IX)(mg:Str->Option Je)(C_NoRecord C_NoEvent C_NoNumber C_NoWorld C_ClockError:Addr):Prop where
 m_NoRecord:mg "NoRecord" =some (.ref C_NoRecord)
 m_NoEvent:mg "NoEvent" =some (.ref C_NoEvent)
 m_NoNumber:mg "NoNumber" =some (.ref C_NoNumber)
 m_NoWorld:mg "NoWorld" =some (.ref C_NoWorld)
 m_ClockError:mg "ClockError" =some (.ref C_ClockError)
 o_NoRecord:OX K C_NoRecord (.ref C_ClockError::uL)
 o_NoEvent:OX K C_NoEvent (.ref C_ClockError::uL)
 o_NoNumber:OX K C_NoNumber (.ref C_ClockError::uL)
 o_NoWorld:OX K C_NoWorld (.ref C_ClockError::uL)
 o_ClockError:OX K C_ClockError uL
 d:[C_NoRecord,C_NoEvent,C_NoNumber,C_NoWorld,C_ClockError].Nodup
end G
namespace G
open PySem Tr
def gp:En->Rs Fl:=
 (au (dY (tb (o2 nF (vr 0) (d7 ag))) (aI (o2 bK (cn (.int 7)) (vr 1))) sN) (aI (o2 aS (o2 aN (vr 0) (o2 lA (vr 1) (cl ck (ac (vr 0) ag)))) (o2 bK (cn (.int 6553)) (o2 lI (vr 1) (cl ck (ac (vr 0) ag)))))))
def gg:List T->Rs T:=val 2 2 gp
def fJ:En->Rs Fl:=
 (au (cX (o2 lA (o2 aS (o2 bK (o2 lA (cl gg (ac (vr 0) (ac (vr 1) ag))) (cn (.int 2147483563))) (cn (.int 69069))) (o2 bK (cn (.int 104723)) (o2 aS (vr 1) (cn (.int 1))))) (cn (.int 2147483563))) (gN 3)) (au (cX (o2 lA (o2 aS (o2 bK (vr 3) (vr 3)) (o2 lI (vr 3) (cn (.int 3)))) (cn (.int 2147483399))) (gN 3)) (aI (o2 lA (o2 lI (o2 lA (o2 aS (o2 bK (vr 3) (vr 3)) (o2 lI (vr 3) (cn (.int 7)))) (cn (.int 2147483647))) (cn (.int 11))) (vr 2)))))
def aE:List T->Rs T:=val 3 4 fJ
def gc:En->Rs Fl:=
 (au (cX (d7 ag) (gN 1)) (au (d6 (iE (ac (vr 0) ag)) (gT 2 (dg (gN 2) (dg (gN 3) iV))) (cX (o2 aS (vr 1) (dO (iR (ac (cl ck (ac (o2 aN (vr 3) (cn (.int 2))) ag)) ag)) [none,some 2] (gN 0) bT (aR (ac (vr 1) (ac (vr 0) ag))))) (gN 1))) (aI (vr 1))))
def cr:List T->Rs T:=val 1 4 gc
def db:En->Rs Fl:=
 (au (cX (cl cr (ac (vr 2) ag)) (gN 3)) (au (dY (tb (o2 rX (cl ck (ac (vr 3) ag)) (cn (.int 2)))) (aI (cn .non)) sN) (au (cX (cl aE (ac (vr 0) (ac (vr 1) (ac (cl ck (ac (vr 3) ag)) ag)))) (gN 4)) (au (cX (o2 lA (o2 aS (o2 aS (vr 4) (cn (.int 1))) (cl aE (ac (vr 0) (ac (o2 aS (vr 1) (cn (.int 1))) (ac (o2 bD (cl ck (ac (vr 3) ag)) (cn (.int 1))) ag))))) (cl ck (ac (vr 3) ag))) (gN 5)) (au (cX (cl aE (ac (vr 0) (ac (o2 aS (vr 1) (cn (.int 2))) (ac (cn (.int 8)) ag)))) (gN 6)) (au (cX (pj (tb (o2 nF (cl aE (ac (vr 0) (ac (o2 aS (vr 1) (cn (.int 3))) (ac (cn (.int 3)) ag)))) (cn (.int 0)))) (cn .non) (o2 aS (vr 6) (cl aE (ac (vr 0) (ac (o2 aS (vr 1) (cn (.int 4))) (ac (cn (.int 9)) ag)))))) (gN 7)) (aI (aR (ac (o2 aN (vr 3) (vr 4)) (ac (o2 aN (vr 3) (vr 5)) (ac (vr 6) (ac (vr 7) ag))))))))))))
def dD:List T->Rs T:=val 3 8 db
def fK:En->Rs Fl:=
 (au (cX (o2 aS (cn (.int 1)) (cl aE (ac (vr 0) (ac (vr 1) (ac (cn (.int 3)) ag))))) (gN 2)) (au (cX (aR (ac (cl aE (ac (vr 0) (ac (o2 aS (vr 1) (cn (.int 2))) (ac (cn (.int 6)) ag)))) ag)) (gN 3)) (au (d6 (iR (ac (cl aE (ac (vr 0) (ac (o2 aS (vr 1) (cn (.int 1))) (ac (cn (.int 3)) ag)))) ag)) (gN 4) (cX (o2 aS (vr 3) (aR (ac (o2 aS (o2 aS (o2 aN (vr 3) (o1 rQ (cn (.int 1)))) (cn (.int 1))) (cl aE (ac (vr 0) (ac (o2 aS (o2 aS (vr 1) (cn (.int 3))) (vr 4)) (ac (cn (.int 5)) ag))))) ag))) (gN 3))) (aI (aR (ac (vr 2) (ac (o2 aS (vr 2) (cl aE (ac (vr 0) (ac (o2 aS (vr 1) (cn (.int 6))) (ac (cn (.int 3)) ag))))) (ac (vr 3) ag))))))))
def cS:List T->Rs T:=val 2 5 fK
def eI:En->Rs Fl:=
 (au (cX (cl fQ (ac (dO (iR (ac (o2 aS (cn (.int 1)) (cl aE (ac (vr 0) (ac (vr 1) (ac (cn (.int 3)) ag))))) ag)) [none,some 0,some 1] (gN 0) bT (cl cS (ac (vr 1) (ac (o2 aS (o2 aS (vr 2) (cn (.int 1))) (o2 bK (cn (.int 8)) (vr 0))) ag)))) ag)) (gN 3)) (au (cX (d7 ag) (gN 4)) (au (d6 (iR (ac (cl aE (ac (vr 0) (ac (o2 aS (vr 1) (cn (.int 30))) (ac (o2 aS (vr 2) (cn (.int 1))) ag)))) ag)) (gN 5) (au (cX (cl dD (ac (vr 0) (ac (o2 aS (o2 aS (vr 1) (cn (.int 31))) (o2 bK (cn (.int 6)) (vr 5))) (ac (vr 3) ag)))) (gN 6)) (cX (o2 aS (vr 4) (o2 bK (d7 (ac (vr 6) ag)) (cl Af (ac (o2 dy (vr 6) (cn .non)) ag)))) (gN 4)))) (aI (aR (ac (vr 3) (ac (cl fQ (ac (vr 4) ag)) ag)))))))
def fZ:List T->Rs T:=val 3 7 eI
def j8:En->Rs Fl:=
 (aI (cD (o1 (Ci "tuple") (vr 0)) (ch wo wo (vr 1) (cl ck (ac (vr 0) ag)) (vr 2))))
def aM:List T->Rs T:=val 3 3 j8
def kW:En->Rs Fl:=
 (aI (cD (o1 (Ci "int") (vr 0)) (o1 xv (o1 (Ci "bool") (vr 0)))))
def fR:List T->Rs T:=val 1 1 kW
def gk:En->Rs Fl:=
 (aI (cD (cl fR (ac (vr 0) ag)) (ch wo wo (vr 1) (vr 0) (vr 2))))
def aY:List T->Rs T:=val 3 3 gk
def iH:En->Rs Fl:=
 (aI (cD (cl aY (ac (vr 0) (ac (cn (.int 1)) (ac (cn (.int 9)) ag)))) (cl aY (ac (vr 1) (ac (vr 0) (ac (cn (.int 9)) ag))))))
def gE:List T->Rs T:=val 2 2 iH
def nH:En->Rs Fl:=
 (aI (cl pf (ac (dO (iR (ac (o2 bD (cl ck (ac (vr 0) ag)) (cn (.int 1))) ag)) [none,some 0] (gN 0) bT (o2 rX (o2 aN (vr 1) (vr 0)) (o2 aN (vr 1) (o2 aS (vr 0) (cn (.int 1)))))) ag)))
def jX:List T->Rs T:=val 1 1 nH
def dj:En->Rs Fl:=
 (au (dY (cL (tb (cl aM (ac (vr 0) (ac (cn (.int 1)) (ac (cn (.int 4)) ag)))))) (aI (cn (.bl false))) sN) (aI (cD (cl pf (ac (dO (iS (vr 0)) [none] (gN 0) bT (cl aY (ac (vr 0) (ac (cn (.int 0)) (ac (cn (.int 99)) ag))))) ag)) (cl jX (ac (vr 0) ag)))))
def cf:List T->Rs T:=val 1 1 dj
def fV:En->Rs Fl:=
 (aI (cD (cl aM (ac (vr 0) (ac (cn (.int 3)) (ac (cn (.int 3)) ag)))) (cD (cl gE (ac (o2 aN (vr 0) (cn (.int 0))) (ac (o2 aN (vr 0) (cn (.int 1))) ag))) (cl cf (ac (o2 aN (vr 0) (cn (.int 2))) ag)))))
def dL:List T->Rs T:=val 1 1 fV
def fH:En->Rs Fl:=
 (aI (cD (cl aM (ac (vr 0) (ac (cn (.int 1)) (ac (cn (.int 4)) ag)))) (cl pf (ac (dO (iS (vr 0)) [none] (gN 0) bT (cl dL (ac (vr 0) ag))) ag))))
def dS:List T->Rs T:=val 1 1 fH
def fT:En->Rs Fl:=
 (au (dY (je (cL (tb (cl aM (ac (vr 1) (ac (cn (.int 2)) (ac (cn (.int 2)) ag)))))) (cL (tb (cl aY (ac (o2 aN (vr 1) (cn (.int 0))) (ac (cn (.int 0)) (ac (o2 bD (cl ck (ac (vr 0) ag)) (cn (.int 1))) ag))))))) (aI (cn (.bl false))) sN) (aI (cl aY (ac (o2 aN (vr 1) (cn (.int 1))) (ac (cn (.int 0)) (ac (o2 bD (cl ck (ac (o2 aN (o2 aN (vr 0) (o2 aN (vr 1) (cn (.int 0)))) (cn (.int 2))) ag)) (cn (.int 1))) ag))))))
def cY:List T->Rs T:=val 2 2 fT
def fU:En->Rs Fl:=
 (aI (cD (cl aY (ac (vr 0) (ac (cn (.int 0)) (ac (cn (.int 999)) ag)))) (AZ (o2 gC (vr 1) (cn .non)) (cl aY (ac (vr 1) (ac (vr 0) (ac (cn (.int 999)) ag)))))))
def eV:List T->Rs T:=val 2 2 fU
def dm:En->Rs Fl:=
 (au (dY (je (cL (tb (cl aM (ac (vr 1) (ac (cn (.int 4)) (ac (cn (.int 4)) ag)))))) (cL (tb (cl eV (ac (o2 aN (vr 1) (cn (.int 2))) (ac (o2 aN (vr 1) (cn (.int 3))) ag)))))) (aI (cn (.bl false))) sN) (aI (cD (cl cY (ac (vr 0) (ac (o2 aN (vr 1) (cn (.int 0))) ag))) (cD (cl cY (ac (vr 0) (ac (o2 aN (vr 1) (cn (.int 1))) ag))) (o2 jg (o2 aN (vr 1) (cn (.int 0))) (o2 aN (vr 1) (cn (.int 1))))))))
def cq:List T->Rs T:=val 2 2 dm
def eF:En->Rs Fl:=
 (aI (cD (cl aM (ac (vr 1) (ac (cn (.int 0)) (ac (cn (.int 8)) ag)))) (cl pf (ac (dO (iS (vr 1)) [none,some 0] (gN 0) bT (cl cq (ac (vr 1) (ac (vr 0) ag)))) ag))))
def dC:List T->Rs T:=val 2 2 eF
def fh:En->Rs Fl:=
 (aI (cD (cl aM (ac (vr 0) (ac (cn (.int 2)) (ac (cn (.int 2)) ag)))) (cD (cl dS (ac (o2 aN (vr 0) (cn (.int 0))) ag)) (cl dC (ac (o2 aN (vr 0) (cn (.int 0))) (ac (o2 aN (vr 0) (cn (.int 1))) ag))))))
def dJ:List T->Rs T:=val 1 1 fh
def eC:En->Rs Fl:=
 (dY (cL (tb (cl dJ (ac (vr 0) ag)))) (xh "NoRecord") sN)
def br:List T->Rs T:=val 1 1 eC
def jK:En->Rs Fl:=
 (au (qZ (cl br (ac (vr 0) ag))) (au (i8 1 ag) (au (d6 (iE (ac (o2 aN (vr 0) (cn (.int 0))) ag)) (gT 2 (dg (gN 2) (dg (gN 3) iV))) (n5 1 (dO (iR (ac (cl ck (ac (o2 aN (vr 3) (cn (.int 2))) ag)) ag)) [none,some 2] (gN 0) bT (aR (ac (vr 1) (ac (vr 0) ag)))))) (mU 1 (aI (vr 1))))))
def cQ:List T->Rs T:=val 1 4 jK
def gm:En->Rs Fl:=
 (au (cX (oD jc (vr 0) (o2 aN (vr 1) (cn (.int 1)))) (gN 3)) (aI (AZ (o2 gC (vr 3) (cn .non)) (o2 rX (o2 aS (o2 aN (vr 2) (cn (.int 0))) (o2 aN (vr 1) (cn (.int 2)))) (o2 aN (vr 3) (cn (.int 0)))))))
def dM:List T->Rs T:=val 3 4 gm
def g9:En->Rs Fl:=
 (au (p6 2 (dO (iS (vr 1)) [none] (gN 0) bT (aR (ac (vr 0) (ac (aR (ac (cn (.int 0)) (ac (d7 ag) ag))) ag))))) (au (cX (cn (.bl true)) (gN 3)) (au (cb (tb (vr 3)) (au (cX (cn (.bl false)) (gN 3)) (d6 (iE (ac (vr 0) ag)) (gT 2 (dg (gN 4) (dg (gN 5) iV))) (au (cX (ln 2 (oD jc (vr 2) (o2 aN (vr 5) (cn (.int 0))))) (gN 6)) (au (dY (je (tb (o2 gC (vr 6) (cn .non))) (cL (EJ 2 (tb (cl dM (ac (vr 2) (ac (vr 5) (ac (vr 6) ag)))))))) C0 sN) (au (cX (o2 aS (o2 aN (vr 6) (cn (.int 1))) (d7 (ac (vr 4) ag))) (gN 7)) (au (cX (dO (iS (vr 7)) [none,some 0] (gN 0) bT (o2 aN (o2 aN (vr 1) (vr 0)) (cn (.int 0)))) (gN 8)) (au (dY (tb (o2 FC (o2 aN (vr 5) (cn (.int 1))) (vr 8))) (aI (aR (ac (cn .non) (ac (sl (vr 7) (pS (oL hZ (vr 8) (o2 aN (vr 5) (cn (.int 1))))) pN) ag)))) sN) (au (pG 2 (o2 aN (vr 5) (cn (.int 1))) (aR (ac (o2 aS (o2 aN (vr 6) (cn (.int 0))) (o2 aN (vr 5) (cn (.int 2)))) (ac (vr 7) ag)))) (cX (cn (.bl true)) (gN 3)))))))))) FU) (mU 2 (aI (aR (ac (vr 2) (ac (cn .non) ag))))))))
def gV:List T->Rs T:=val 2 9 g9
def di:En->Rs Fl:=
 (au (cX (cl cQ (ac (vr 0) ag)) (gN 2)) (au (cX (o2 aN (cl gV (ac (vr 1) (ac (vr 2) ag))) (cn (.int 0))) (gN 3)) (au (dY (tb (o2 gC (vr 3) (cn .non))) (aI (cn .non)) sN) (aI (cl fQ (ac (dO (iS (vr 2)) [none,some 3] (gN 0) bT (o2 aN (o2 aL (vr 1) (vr 0)) (cn (.int 0)))) ag))))))
def dR:List T->Rs T:=val 2 4 di
def cW:En->Rs Fl:=
 (au (cX (o2 aN (vr 1) (cn (.int 2))) (gN 2)) (au (i8 3 ag) (au (d6 (iR (ac (o2 bD (cl ck (ac (vr 2) ag)) (cn (.int 1))) ag)) (gN 4) (au (cX (aR (ac (vr 0) (ac (vr 4) ag))) (gN 5)) (au (cX (aR (ac (vr 0) (ac (o2 aS (vr 4) (cn (.int 1))) ag))) (gN 6)) (au (cX (o2 bD (o2 aN (vr 2) (o2 aS (vr 4) (cn (.int 1)))) (o2 aN (vr 2) (vr 4))) (gN 7)) (au (iA 3 (aR (ac (vr 5) (ac (vr 6) (ac (o2 bK (vr 7) (o2 aN (vr 1) (cn (.int 1)))) ag))))) (iA 3 (aR (ac (vr 6) (ac (vr 5) (ac (o2 bK (o1 rQ (vr 7)) (o2 aN (vr 1) (cn (.int 0)))) ag)))))))))) (mU 3 (aI (vr 3))))))
def cR:List T->Rs T:=val 2 8 cW
def cE:En->Rs Fl:=
 (au (i8 1 (ac (aR (ac (o2 aN (vr 0) (cn (.int 1))) (ac (o2 aN (vr 0) (cn (.int 0))) (ac (o1 rQ (o2 aN (vr 0) (cn (.int 2)))) ag)))) ag)) (au (dY (tb (o2 dy (o2 aN (vr 0) (cn (.int 3))) (cn .non))) (iA 1 (aR (ac (o2 aN (vr 0) (cn (.int 0))) (ac (o2 aN (vr 0) (cn (.int 1))) (ac (o2 aN (vr 0) (cn (.int 3))) ag))))) sN) (mU 1 (aI (vr 1)))))
def cC:List T->Rs T:=val 1 2 cE
def jM:En->Rs Fl:=
 (au (qZ (cl br (ac (vr 0) ag))) (au (i8 1 ag) (au (d6 (iE (ac (o2 aN (vr 0) (cn (.int 0))) ag)) (gT 2 (dg (gN 2) (dg (gN 3) iV))) (n5 1 (cl cR (ac (vr 2) (ac (vr 3) ag))))) (au (d6 (iS (o2 aN (vr 0) (cn (.int 1)))) (gN 4) (n5 1 (cl cC (ac (vr 4) ag)))) (mU 1 (aI (vr 1)))))))
def fB:List T->Rs T:=val 1 5 jM
def sH:En->Rs Fl:=
 (aI (cl dR (ac (vr 0) (ac (cl fB (ac (vr 0) ag)) ag))))
def jW:List T->Rs T:=val 1 1 sH
def jJ:En->Rs Fl:=
 (aI (o2 dy (cl jW (ac (vr 0) ag)) (cn .non)))
def ce:List T->Rs T:=val 1 1 jJ
def fF:En->Rs Fl:=
 (dY (cL (tb (cl ce (ac (vr 0) ag)))) (xh "NoWorld") sN)
def bO:List T->Rs T:=val 1 1 fF
def fG:En->Rs Fl:=
 (dY (cL (tb (cl cY (ac (o2 aN (vr 0) (cn (.int 0))) (ac (vr 1) ag))))) (xh "NoEvent") sN)
def fA:List T->Rs T:=val 2 2 fG
def eE:En->Rs Fl:=
 (au (qZ (cl br (ac (vr 0) ag))) (au (qZ (cl fA (ac (vr 0) (ac (vr 1) ag)))) (qZ (cl fA (ac (vr 0) (ac (vr 2) ag))))))
def fY:List T->Rs T:=val 3 3 eE
def mr:En->Rs Fl:=
 (aI (pj (tb (o2 AF (vr 1) (vr 0))) (o2 aN (o2 aL (vr 0) (vr 1)) (cn (.int 0))) (cn .non)))
def eZ:List T->Rs T:=val 2 2 mr
def iY:En->Rs Fl:=
 (aI (o2 aN (cl gV (ac (cl fB (ac (vr 0) ag)) (ac (d7 (ac (vr 1) ag)) ag))) (cn (.int 0))))
def dq:List T->Rs T:=val 2 2 iY
def dQ:En->Rs Fl:=
 (au (qZ (cl fY (ac (vr 0) (ac (vr 1) (ac (vr 2) ag))))) (au (qZ (cl bO (ac (vr 0) ag))) (aI (cl eZ (ac (cl dq (ac (vr 0) (ac (vr 1) ag))) (ac (vr 2) ag))))))
def cA:List T->Rs T:=val 3 3 dQ
def dB:En->Rs Fl:=
 (au (cX (cl cA (ac (vr 0) (ac (vr 2) (ac (vr 1) ag)))) (gN 3)) (aI (pj (tb (o2 gC (vr 3) (cn .non))) (cn .non) (o1 rQ (vr 3)))))
def eO:List T->Rs T:=val 3 4 dB
def dP:En->Rs Fl:=
 (aI (aR (ac (cl eO (ac (vr 0) (ac (vr 1) (ac (vr 2) ag)))) (ac (cl cA (ac (vr 0) (ac (vr 1) (ac (vr 2) ag)))) ag))))
def cz:List T->Rs T:=val 3 3 dP
def cV:En->Rs Fl:=
 (au (cX (cl cz (ac (vr 0) (ac (o2 aN (vr 1) (cn (.int 0))) (ac (o2 aN (vr 1) (cn (.int 1))) ag)))) (gN 2)) (au (cX (pj (je (tb (o2 gC (o2 aN (vr 2) (cn (.int 1))) (cn .non))) (tb (o2 Fb (o2 aN (vr 2) (cn (.int 1))) (cn (.int 999))))) (cn .non) (o2 aN (vr 2) (cn (.int 1)))) (gN 3)) (aI (aR (ac (o2 aN (vr 1) (cn (.int 0))) (ac (o2 aN (vr 1) (cn (.int 1))) (ac (cl oC (ac (o2 aN (vr 2) (cn (.int 0))) (ac (cn (.int 999)) ag))) (ac (vr 3) ag))))))))
def bn:List T->Rs T:=val 2 4 cV
def hG:En->Rs Fl:=
 (au (qZ (cl bO (ac (vr 0) ag))) (aI (aR (ac (o2 aN (vr 0) (cn (.int 0))) (ac (cl fQ (ac (dO (iS (o2 aN (vr 0) (cn (.int 1)))) [none,some 0] (gN 0) bT (cl bn (ac (vr 1) (ac (vr 0) ag)))) ag)) ag)))))
def eU:List T->Rs T:=val 1 1 hG
def cF:En->Rs Fl:=
 (au (qX 5) (au (d6 (iE (ac (vr 2) ag)) (gT 2 (dg (gN 6) (dg (gN 7) iV))) (au (qY 5 8 [none,some 5,some 4,some 7] (gN 0) (tb (o2 dy (o2 aL (o2 aL (vr 2) (vr 0)) (vr 3)) (cn .non))) (o2 aS (o2 aL (vr 1) (vr 0)) (o2 aL (o2 aL (vr 2) (vr 0)) (vr 3)))) (au (qY 5 9 [none,some 5,some 4,some 7] (gN 0) (tb (o2 dy (o2 aL (o2 aL (vr 2) (vr 3)) (vr 0)) (cn .non))) (o2 bD (o2 aL (vr 1) (vr 0)) (o2 aL (o2 aL (vr 2) (vr 3)) (vr 0)))) (au (cX (pj (tb (o2 jg (vr 9) (d7 ag))) (cl xE (ac (vr 9) ag)) (pj (tb (o2 jg (vr 8) (d7 ag))) (o2 bD (cl oC (ac (vr 8) ag)) (cn (.int 5))) (cn (.int 0)))) (gN 10)) (au (cX (pj (tb (o2 jg (vr 8) (d7 ag))) (cl oC (ac (vr 8) ag)) (o2 aS (vr 10) (cn (.int 5)))) (gN 11)) (pG 5 (vr 7) (o2 aS (vr 10) (cl aE (ac (vr 0) (ac (o2 aS (vr 1) (vr 6)) (ac (o2 aS (o2 bD (vr 11) (vr 10)) (cn (.int 1))) ag))))))))))) (aI (cl fQ (ac (ln 5 (dO (iS (vr 2)) [none,some 5] (gN 0) bT (o2 aL (vr 1) (vr 0)))) ag)))))
def dt:List T->Rs T:=val 5 12 cF
def jI:En->Rs Fl:=
 (aI (o2 nF (cl eU (ac (vr 0) ag)) (vr 0)))
def ff:List T->Rs T:=val 1 1 jI
def hU:En->Rs Fl:=
 (au (qZ (cl bO (ac (vr 0) ag))) (au (cX (cl cQ (ac (vr 0) ag)) (gN 1)) (au (i8 2 ag) (au (d6 (iS (vr 1)) (gN 3) (au (cX (cl dq (ac (vr 0) (ac (vr 3) ag))) (gN 4)) (iA 2 (cl fQ (ac (dO (iS (vr 1)) [none,some 4] (gN 0) bT (cl eZ (ac (vr 1) (ac (vr 0) ag)))) ag))))) (aI (ln 2 (cl fQ (ac (vr 2) ag))))))))
def dN:List T->Rs T:=val 1 5 hU
def eJ:En->Rs Fl:=
 (au (i8 1 ag) (au (d6 (iE (ac (o2 aN (vr 0) (cn (.int 0))) ag)) (gT 2 (dg (gN 2) (dg (gT 3 (dg (gN 3) (dg (gN 4) (dg (gN 5) iV)))) iV))) (d6 (iR (ac (cn (.int 1)) (ac (cl ck (ac (vr 5) ag)) ag))) (gN 6) (au (cX (o2 bD (o2 aN (vr 5) (vr 6)) (o2 aN (vr 5) (o2 bD (vr 6) (cn (.int 1))))) (gN 7)) (au (iA 1 (aR (ac (aR (ac (vr 2) (ac (o2 bD (vr 6) (cn (.int 1))) ag))) (ac (aR (ac (vr 2) (ac (vr 6) ag))) (ac (o2 bK (vr 4) (vr 7)) ag))))) (iA 1 (aR (ac (aR (ac (vr 2) (ac (vr 6) ag))) (ac (aR (ac (vr 2) (ac (o2 bD (vr 6) (cn (.int 1))) ag))) (ac (o2 bD (cn (.int 0)) (o2 bK (vr 3) (vr 7))) ag))))))))) (au (d6 (iS (o2 aN (vr 0) (cn (.int 1)))) (gT 4 (dg (gN 8) (dg (gN 9) (dg (gN 10) (dg (gN 11) iV))))) (au (iA 1 (aR (ac (vr 9) (ac (vr 8) (ac (o2 bD (cn (.int 0)) (vr 10)) ag))))) (dY (tb (o2 dy (vr 11) (cn .non))) (iA 1 (aR (ac (vr 8) (ac (vr 9) (ac (vr 11) ag))))) sN))) (mU 1 (aI (vr 1))))))
def dE:List T->Rs T:=val 1 12 eJ
def fI:En->Rs Fl:=
 (au (n4 2 0) (au (d6 (iS (vr 0)) (gN 3) (i7 2 (vr 3) (vr 3) (cn (.int 0)))) (au (d6 (iS (vr 1)) (gT 3 (dg (gN 3) (dg (gN 4) (dg (gN 5) iV)))) (dY (je (tb (o2 gC (ln 2 (o2 aL (o2 aL (vr 2) (vr 3)) (vr 4))) (cn .non))) (tb (o2 rX (vr 5) (ln 2 (o2 aL (o2 aL (vr 2) (vr 3)) (vr 4)))))) (i7 2 (vr 3) (vr 4) (vr 5)) sN)) (au (d6 (iS (vr 0)) (gN 6) (d6 (iS (vr 0)) (gN 3) (d6 (iS (vr 0)) (gN 4) (dY (o9 (tb (o2 dy (ln 2 (o2 aL (o2 aL (vr 2) (vr 3)) (vr 6))) (cn .non))) (tb (o2 dy (ln 2 (o2 aL (o2 aL (vr 2) (vr 6)) (vr 4))) (cn .non)))) (au (cX (o2 aS (ln 2 (o2 aL (o2 aL (vr 2) (vr 3)) (vr 6))) (ln 2 (o2 aL (o2 aL (vr 2) (vr 6)) (vr 4)))) (gN 7)) (dY (je (tb (o2 gC (ln 2 (o2 aL (o2 aL (vr 2) (vr 3)) (vr 4))) (cn .non))) (tb (o2 rX (vr 7) (ln 2 (o2 aL (o2 aL (vr 2) (vr 3)) (vr 4)))))) (i7 2 (vr 3) (vr 4) (vr 7)) sN)) sN)))) (mU 2 (aI (pj (tb (o2 nF (dO (iS (vr 0)) [none,some 2] (gN 0) (tb (o2 rX (o2 aL (o2 aL (vr 1) (vr 0)) (vr 0)) (cn (.int 0)))) (vr 0)) (d7 ag))) (vr 2) (cn .non))))))))
def gy:List T->Rs T:=val 2 8 fI
def gn:En->Rs Fl:=
 (au (cX (cl ck (ac (cl cQ (ac (vr 0) ag)) ag)) (gN 2)) (aI (cD (cl aM (ac (vr 1) (ac (vr 2) (ac (vr 2) ag)))) (cl pf (ac (dO (iS (vr 1)) [none] (gN 0) bT (cl fR (ac (vr 0) ag))) ag)))))
def hY:List T->Rs T:=val 2 3 gn
def sI:En->Rs Fl:=
 (aI (o2 wo (o2 bD (o2 aL (vr 1) (o2 aN (vr 0) (cn (.int 1)))) (o2 aL (vr 1) (o2 aN (vr 0) (cn (.int 0))))) (o2 aN (vr 0) (cn (.int 2)))))
def nu:List T->Rs T:=val 2 2 sI
def jL:En->Rs Fl:=
 (au (cX (cl FD (ac (cl cQ (ac (vr 0) ag)) (ac (vr 1) ag))) (gN 2)) (aI (dO (iE (ac (cl fB (ac (vr 0) ag)) ag)) [none,none,some 2] (gT 2 (dg (gN 0) (dg (gN 1) iV))) (cL (tb (cl nu (ac (vr 1) (ac (vr 2) ag))))) (vr 0))))
def lC:List T->Rs T:=val 2 3 jL
def kU:En->Rs Fl:=
 (aI (cD (cl hY (ac (vr 0) (ac (vr 1) ag))) (o2 nF (cl lC (ac (vr 0) (ac (vr 1) ag))) (d7 ag))))
def gW:List T->Rs T:=val 2 2 kU
def da:En->Rs Fl:=
 (dY (cL (tb (cl aY (ac (vr 1) (ac (cn (.int 0)) (ac (o2 bD (vr 0) (cn (.int 1))) ag)))))) (xh "NoNumber") sN)
def bZ:List T->Rs T:=val 2 2 da
def lP:En->Rs Fl:=
 (au (qZ (cl br (ac (vr 0) ag))) (au (qZ (cl bZ (ac (cl ck (ac (o2 aN (vr 0) (cn (.int 0))) ag)) (ac (vr 1) ag)))) (au (qZ (cl bO (ac (vr 0) ag))) (au (cX (cl ck (ac (o2 aN (o2 aN (o2 aN (vr 0) (cn (.int 0))) (vr 1)) (cn (.int 2))) ag)) (gN 2)) (aI (dO (iR (ac (cn (.int 1)) (ac (vr 2) ag))) [none,some 0,some 1] (gN 0) bT (cl cz (ac (vr 1) (ac (aR (ac (vr 2) (ac (o2 bD (vr 0) (cn (.int 1))) ag))) (ac (aR (ac (vr 2) (ac (vr 0) ag))) ag))))))))))
def cI:List T->Rs T:=val 2 3 lP
def ef:En->Rs Fl:=
 (au (dY (tb (o2 jg (cl cQ (ac (vr 0) ag)) (cl cQ (ac (vr 1) ag)))) (aI (cn (.bl false))) sN) (au (dY (je (cL (tb (cl ce (ac (vr 0) ag)))) (cL (tb (cl ce (ac (vr 1) ag))))) (aI (cD (o1 xv (cl ce (ac (vr 0) ag))) (o1 xv (cl ce (ac (vr 1) ag))))) sN) (aI (o2 nF (cl dN (ac (vr 0) ag)) (cl dN (ac (vr 1) ag))))))
def fX:List T->Rs T:=val 2 2 ef
def eG:En->Rs Fl:=
 (aI (o2 rM (cn (.bl false)) (dO (iZ (ac (vr 0) (ac (vr 1) ag))) [none,none,none,none] (gT 2 (dg (gT 2 (dg (gN 0) (dg (gN 1) iV))) (dg (gT 2 (dg (gN 2) (dg (gN 3) iV))) iV))) bT (FE wo wo wo (vr 2) (vr 0) (vr 1) (vr 3)))))
def bi:List T->Rs T:=val 2 2 eG
def dh:En->Rs Fl:=
 (au (qZ (cl br (ac (vr 0) ag))) (au (cX (o2 aN (vr 0) (cn (.int 1))) (gN 2)) (au (qZ (cl bZ (ac (cl ck (ac (vr 2) ag)) (ac (vr 1) ag)))) (aI (aR (ac (o2 aN (vr 0) (cn (.int 0))) (ac (o2 aS (sl (vr 2) pN (pS (vr 1))) (sl (vr 2) (pS (o2 aS (vr 1) (cn (.int 1)))) pN)) ag)))))))
def bV:List T->Rs T:=val 2 3 dh
def AW:En->Rs Fl:=
 (au (cX (cl fZ (ac (vr 0) (ac (cn (.int 0)) (ac (cn (.int 5)) ag)))) (gN 1)) (au (dY (cL (tb (cl ce (ac (vr 1) ag)))) (aI (cn (.bl true))) sN) (au (cX (cl cr (ac (o2 aN (vr 1) (cn (.int 0))) ag)) (gN 2)) (au (cX (cl eU (ac (vr 1) ag)) (gN 3)) (au (dY (je (cL (tb (cl fX (ac (vr 1) (ac (vr 3) ag))))) (cL (tb (cl ff (ac (vr 3) ag))))) (aI (cn (.bl false))) sN) (au (dY (tb (o2 jg (cl ff (ac (vr 1) ag)) (o2 nF (vr 3) (vr 1)))) (aI (cn (.bl false))) sN) (au (dY (tb (o2 jg (cl dN (ac (vr 3) ag)) (cl dN (ac (vr 1) ag)))) (aI (cn (.bl false))) sN) (au (d6 (iZ (ac (o2 aN (vr 1) (cn (.int 1))) (ac (o2 aN (vr 3) (cn (.int 1))) ag))) (gT 2 (dg (gN 4) (dg (gN 5) iV))) (au (dY (je (tb (o2 jg (sl (vr 5) pN (pS (cn (.int 2)))) (sl (vr 4) pN (pS (cn (.int 2)))))) (tb (o2 rX (o2 aN (vr 5) (cn (.int 2))) (o2 aN (vr 4) (cn (.int 2)))))) (aI (cn (.bl false))) sN) (dY (o9 (tb (o2 dy (o2 aN (vr 4) (cn (.int 3))) (cn .non))) (je (tb (o2 gC (o2 aN (vr 5) (cn (.int 3))) (cn .non))) (tb (o2 Fb (o2 aN (vr 5) (cn (.int 3))) (o2 aN (vr 4) (cn (.int 3))))))) (aI (cn (.bl false))) sN))) (au (cX (cl dt (ac (vr 0) (ac (cn (.int 80)) (ac (vr 2) (ac (cl dE (ac (vr 1) ag)) (ac (cl gy (ac (vr 2) (ac (cl dE (ac (vr 1) ag)) ag))) ag)))))) (gN 6)) (au (dY (cL (tb (cl gW (ac (vr 1) (ac (vr 6) ag))))) (aI (cn (.bl false))) sN) (au (cX (cl FD (ac (vr 2) (ac (vr 6) ag))) (gN 7)) (au (d6 (iE (ac (o2 aN (vr 1) (cn (.int 0))) ag)) (gT 2 (dg (gN 8) (dg (gT 3 (dg (gN 9) (dg (gN 10) (dg (gN 11) iV)))) iV))) (au (cX (cl cI (ac (vr 1) (ac (vr 8) ag))) (gN 12)) (au (cX (dO (iZ (ac (vr 11) (ac (sl (vr 11) (pS (cn (.int 1))) pN) ag))) [none,none,some 9,some 10] (gT 2 (dg (gN 0) (dg (gN 1) iV))) bT (aR (ac (o2 bK (o2 bD (vr 1) (vr 0)) (vr 2)) (ac (o2 bK (o2 bD (vr 1) (vr 0)) (vr 3)) ag)))) (gN 13)) (au (dY (je (tb (o2 jg (cl ck (ac (vr 12) ag)) (cl ck (ac (vr 13) ag)))) (cL (tb (cl bi (ac (vr 12) (ac (vr 13) ag)))))) (aI (cn (.bl false))) sN) (au (dY (tb (o2 jg (cl cI (ac (aR (ac (o2 aN (vr 1) (cn (.int 0))) (ac (aR ag) ag))) (ac (vr 8) ag))) (vr 13))) (aI (cn (.bl false))) sN) (au (dY (tb (o2 jg (cl cI (ac (vr 3) (ac (vr 8) ag))) (vr 12))) (aI (cn (.bl false))) sN) (au (cX (dO (iR (ac (cn (.int 1)) (ac (cl ck (ac (vr 11) ag)) ag))) [none,some 7,some 8] (gN 0) bT (o2 bD (o2 aL (vr 1) (aR (ac (vr 2) (ac (vr 0) ag)))) (o2 aL (vr 1) (aR (ac (vr 2) (ac (o2 bD (vr 0) (cn (.int 1))) ag)))))) (gN 14)) (au (dY (cL (tb (cl bi (ac (dO (iS (vr 14)) [none] (gN 0) bT (aR (ac (vr 0) (ac (vr 0) ag)))) (ac (vr 12) ag))))) (aI (cn (.bl false))) sN) (d6 (iR (ac (cl ck (ac (o2 aN (vr 1) (cn (.int 1))) ag)) ag)) (gN 15) (dY (cL (tb (cl bi (ac (vr 12) (ac (cl cI (ac (cl bV (ac (vr 1) (ac (vr 15) ag))) (ac (vr 8) ag))) ag))))) (aI (cn (.bl false))) sN)))))))))) (aI (cn (.bl true)))))))))))))))
def m_law:List T->Rs T:=val 1 16 AW
end G
namespace G
open PySem PySem.Spec PyProof.Rows L2 Tr
section
variable {P:JI}{w:Kr}{K:IX}{mg:Str->Option Je}{base:Heap}
abbrev lg:Stmt:=top 64
theorem qW:ay ["_law_script","_law_k"] ["_law_script","_law_k"] (ak lg):=⟨rfl,rfl,rfl,by decide+kernel,rfl,by decide+kernel,by decide+kernel⟩
theorem rJ (F:f9 K mg "_law_cell" lg ["_law_script","_law_k"])(B:Bl mg):Cl P w K mg base 1 "_law_cell" 2 gg:=
 a7 F qW rfl λf cdv A outer s H E hr xe=>(aj (bB (aP (og (jf hr)) (ad 0) (gq ae)) (al (ar (aq dn ai (ad 1)))) bc) (al (ar (aq aQ (aB (ad 0) (aq kH (ad 1) (cx cM B.b_len KJ (af (ad 0) ae)))) (aq dn ai (aq nr (ad 1) (cx cM B.b_len KJ (af (ad 0) ae))))))))
abbrev kn:Stmt:=top 65
theorem aaK:ay ["_law_script","_law_k","_law_many","_law_cell_here"] ["_law_script","_law_k","_law_many"] (ak kn):=⟨rfl,rfl,rfl,by decide+kernel,rfl,by decide+kernel,by decide+kernel⟩
theorem pP (F:f9 K mg "_law_drawn" kn ["_law_script","_law_k","_law_many"])(aaX:Cl P w K mg base 1 "_law_cell" 2 gg):Cl P w K mg base 2 "_law_drawn" 3 aE:=
 a7 F aaK rfl λf cdv A outer s H E hr xe=>(by(refine @aj _ _ _ _ _ ?_ ?_;(focus exact(aJ (aq kH (aq aQ (aq dn (aq kH (aH aaX hr (af (ad 0) (af (ad 1) ae))) ai) ai) (aq dn ai (aq aQ (ad 1) ai))) ai) (ah 3 aaK.nd)));refine @aj _ _ _ _ _ ?_ ?_;(focus exact(aJ (aq kH (aq aQ (aq dn (ad 3) (ad 3)) (aq nr (ad 3) ai)) ai) (ah 3 aaK.nd)));exact al (ar (aq kH (aq nr (aq kH (aq aQ (aq dn (ad 3) (ad 3)) (aq nr (ad 3) ai)) ai) ai) (ad 2)))))
abbrev gP:Stmt:=top 68
theorem aak:ay ["_law_clocks","_law_found","_law_number","_law_clock_here"] ["_law_clocks"] (ak gP):=⟨rfl,rfl,rfl,by decide+kernel,rfl,by decide+kernel,by decide+kernel⟩
theorem ox (F:f9 K mg "_law_events" gP ["_law_clocks"])(B:Bl mg):Cl P w K mg base 1 "_law_events" 1 cr:=
 a7 F aak rfl λf cdv A outer s H E hr xe=>(by(refine @aj _ _ _ _ _ ?_ ?_;(focus exact(aJ (gq ae) (ah 1 aak.nd)));refine @aj _ _ _ _ _ ?_ ?_;(focus exact(bY rfl (gd B.b_enumerate (af (ad 0) ae)) (cP rfl (aD (ah 2 aak.nd) (aD (ah 3 aak.nd) ca))) (al (aJ (aq aQ (ad 1) (fN (N':=["_law_place","_law_number"]) (src:=[none,some 2]) rfl (LcScope.by (N:=["_law_clocks","_law_found","_law_number","_law_clock_here"]) (names:=(ak gP).names) rfl rfl rfl (by decide+kernel)) (dH B.b_range (af (cx cM B.b_len KJ (af (aB (ad 3) ai) ae)) ae)) (λ_ _ _ _ _=>⟨(ah 0 (show JJ (["_law_place","_law_number"]:List Str)by decide+kernel)),bM,(bf (af (ad 1) (af (ad 0) ae)))⟩))) (ah 1 aak.nd)))));exact al (ar (ad 1))))
abbrev jr:Stmt:=top 67
theorem aad:ay ["_law_script","_law_at","_law_clocks","_law_row","_law_place","_law_other","_law_least","_law_most"] ["_law_script","_law_at","_law_clocks"] (ak jr):=⟨rfl,rfl,rfl,by decide+kernel,rfl,by decide+kernel,by decide+kernel⟩
theorem ou (F:f9 K mg "_law_letter" jr ["_law_script","_law_at","_law_clocks"])(aah:Cl P w K mg base 1 "_law_events" 1 cr)(aa0:Cl P w K mg base 2 "_law_drawn" 3 aE)(B:Bl mg):Cl P w K mg base 3 "_law_letter" 3 dD:=
 a7 F aad rfl λf cdv A outer s H E hr xe=>(by(refine @aj _ _ _ _ _ ?_ ?_;(focus exact(aJ (aH aah hr (af (ad 2) ae)) (ah 3 aad.nd)));refine @aj _ _ _ _ _ ?_ ?_;(focus exact(bB (aP n9 (cx cM B.b_len KJ (af (ad 3) ae)) ai) (al (ar bS)) bc));refine @aj _ _ _ _ _ ?_ ?_;(focus exact(aJ (aH aa0 hr (af (ad 0) (af (ad 1) (af (cx cM B.b_len KJ (af (ad 3) ae)) ae)))) (ah 4 aad.nd)));refine @aj _ _ _ _ _ ?_ ?_;(focus exact(aJ (aq kH (aq aQ (aq aQ (ad 4) ai) (aH aa0 hr (af (ad 0) (af (aq aQ (ad 1) ai) (af (aq cK (cx cM B.b_len KJ (af (ad 3) ae)) ai) ae))))) (cx cM B.b_len KJ (af (ad 3) ae))) (ah 5 aad.nd)));refine @aj _ _ _ _ _ ?_ ?_;(focus exact(aJ (aH aa0 hr (af (ad 0) (af (aq aQ (ad 1) ai) (af ai ae)))) (ah 6 aad.nd)));refine @aj _ _ _ _ _ ?_ ?_;(focus exact(aJ (mt (aP (og (jf hr)) (aH aa0 hr (af (ad 0) (af (aq aQ (ad 1) ai) (af ai ae)))) ai) bS (aq aQ (ad 6) (aH aa0 hr (af (ad 0) (af (aq aQ (ad 1) ai) (af ai ae)))))) (ah 7 aad.nd)));exact al (ar (bf (af (aB (ad 3) (ad 4)) (af (aB (ad 3) (ad 5)) (af (ad 6) (af (ad 7) ae))))))))
abbrev kr:Stmt:=top 66
theorem aao:ay ["_law_script","_law_at","_law_slow","_law_readings","_law_k"] ["_law_script","_law_at"] (ak kr):=⟨rfl,rfl,rfl,by decide+kernel,rfl,by decide+kernel,by decide+kernel⟩
theorem pQ (F:f9 K mg "_law_clock" kr ["_law_script","_law_at"])(aa0:Cl P w K mg base 2 "_law_drawn" 3 aE)(B:Bl mg):Cl P w K mg base 3 "_law_clock" 2 cS:=
 a7 F aao rfl λf cdv A outer s H E hr xe=>(by(refine @aj _ _ _ _ _ ?_ ?_;(focus exact(aJ (aq aQ ai (aH aa0 hr (af (ad 0) (af (ad 1) (af ai ae))))) (ah 2 aao.nd)));refine @aj _ _ _ _ _ ?_ ?_;(focus exact(aJ (bf (af (aH aa0 hr (af (ad 0) (af (aq aQ (ad 1) ai) (af ai ae)))) ae)) (ah 3 aao.nd)));refine @aj _ _ _ _ _ ?_ ?_;(focus exact(bY rfl (dH B.b_range (af (aH aa0 hr (af (ad 0) (af (aq aQ (ad 1) ai) (af ai ae)))) ae)) (ah 4 aao.nd) (al (aJ (aq aQ (ad 3) (bf (af (aq aQ (aq aQ (aB (ad 3) (qL ai)) ai) (aH aa0 hr (af (ad 0) (af (aq aQ (aq aQ (ad 1) ai) (ad 4)) (af ai ae))))) ae))) (ah 3 aao.nd)))));exact al (ar (bf (af (ad 2) (af (aq aQ (ad 2) (aH aa0 hr (af (ad 0) (af (aq aQ (ad 1) ai) (af ai ae))))) (af (ad 3) ae)))))))
abbrev gO:Stmt:=top 69
theorem aae:ay ["_law_script","_law_at","_law_most","_law_clocks","_law_letters","_law_k","_law_letter_here"] ["_law_script","_law_at","_law_most"] (ak gO):=⟨rfl,rfl,rfl,by decide+kernel,rfl,by decide+kernel,by decide+kernel⟩
theorem oq (F:f9 K mg "_law_record" gO ["_law_script","_law_at","_law_most"])(aa0:Cl P w K mg base 2 "_law_drawn" 3 aE)(aaL:Cl P w K mg base 3 "_law_letter" 3 dD)(aaS:Cl P w K mg base 3 "_law_clock" 2 cS)(B:Bl mg):Cl P w K mg base 4 "_law_record" 3 fZ:=
 a7 F aae rfl λf cdv A outer s H E hr xe=>(by(refine @aj _ _ _ _ _ ?_ ?_;(focus exact(aJ (mw g8 B.b_tuple cu (af (fN (N':=["_law_k","_law_script","_law_at"]) (src:=[none,some 0,some 1]) rfl (LcScope.by (N:=["_law_script","_law_at","_law_most","_law_clocks","_law_letters","_law_k","_law_letter_here"]) (names:=(ak gO).names) rfl rfl rfl (by decide+kernel)) (dH B.b_range (af (aq aQ ai (aH aa0 hr (af (ad 0) (af (ad 1) (af ai ae))))) ae)) (λ_ _ _ _ _=>⟨(ah 0 (show JJ (["_law_k","_law_script","_law_at"]:List Str)by decide+kernel)),bM,(aH aaS hr (af (ad 1) (af (aq aQ (aq aQ (ad 2) ai) (aq dn ai (ad 0))) ae)))⟩)) ae)) (ah 3 aae.nd)));refine @aj _ _ _ _ _ ?_ ?_;(focus exact(aJ (gq ae) (ah 4 aae.nd)));refine @aj _ _ _ _ _ ?_ ?_;(focus exact(bY rfl (dH B.b_range (af (aH aa0 hr (af (ad 0) (af (aq aQ (ad 1) ai) (af (aq aQ (ad 2) ai) ae)))) ae)) (ah 5 aae.nd) (aj (aJ (aH aaL hr (af (ad 0) (af (aq aQ (aq aQ (ad 1) ai) (aq dn ai (ad 5))) (af (ad 3) ae)))) (ah 6 aae.nd)) (al (aJ (aq aQ (ad 4) (aq dn (gq (af (ad 6) ae)) (mw Fs B.b_int mP (af (fP fz (ad 6) bS) ae)))) (ah 4 aae.nd))))));exact al (ar (bf (af (ad 3) (af (mw g8 B.b_tuple cu (af (ad 4) ae)) ae))))))
abbrev nR:Stmt:=top 15
theorem u8:ay ["thing","least","most"] ["thing","least","most"] (ak nR):=⟨rfl,rfl,rfl,by decide+kernel,rfl,by decide+kernel,by decide+kernel⟩
theorem vh (F:f9 K mg "is_long" nR ["thing","least","most"])(B:Bl mg):Cl P w K mg base 1 "is_long" 3 aM:=
 a7 F u8 rfl λf cdv A outer s H E hr xe=>(al (ar (dI (yi B.b_isinstance B.b_tuple cu (ad 0)) (dZ (sL mH mH (ad 1) (cx cM B.b_len KJ (af (ad 0) ae)) (ad 2))))))
abbrev mB:Stmt:=top 13
theorem tD:ay ["thing"] ["thing"] (ak mB):=⟨rfl,rfl,rfl,by decide+kernel,rfl,by decide+kernel,by decide+kernel⟩
theorem tT (F:f9 K mg "is_whole" mB ["thing"])(B:Bl mg):Cl P w K mg base 1 "is_whole" 1 fR:=
 a7 F tD rfl λf cdv A outer s H E hr xe=>(al (ar (dI (yi B.b_isinstance B.b_int mP (ad 0)) (dZ (uQ (yi B.b_isinstance B.b_bool sB (ad 0)))))))
abbrev k7:Stmt:=top 14
theorem qR:ay ["thing","least","most"] ["thing","least","most"] (ak k7):=⟨rfl,rfl,rfl,by decide+kernel,rfl,by decide+kernel,by decide+kernel⟩
theorem rA (F:f9 K mg "is_within" k7 ["thing","least","most"])(aat:Cl P w K mg base 1 "is_whole" 1 fR):Cl P w K mg base 2 "is_within" 3 aY:=
 a7 F qR rfl λf cdv A outer s H E hr xe=>(al (ar (dI (aH aat hr (af (ad 0) ae)) (dZ (sL mH mH (ad 1) (ad 0) (ad 2))))))
abbrev nQ:Stmt:=top 18
theorem u7:ay ["slow","fast"] ["slow","fast"] (ak nQ):=⟨rfl,rfl,rfl,by decide+kernel,rfl,by decide+kernel,by decide+kernel⟩
theorem vg (F:f9 K mg "is_pace" nQ ["slow","fast"])(aa2:Cl P w K mg base 2 "is_within" 3 aY)(C:Cs mg):Cl P w K mg base 3 "is_pace" 2 gE:=
 a7 F u7 rfl λf cdv A outer s H E hr xe=>(al (ar (dI (aH aa2 hr (af (ad 0) (af ai (af (pq C.SLOWEST) ae)))) (dZ (aH aa2 hr (af (ad 1) (af (ad 0) (af (pq C.SLOWEST) ae))))))))
abbrev nM:Stmt:=top 16
theorem yD:ay ["numbers"] ["numbers"] (ak nM):=⟨rfl,rfl,rfl,by decide+kernel,rfl,by decide+kernel,by decide+kernel⟩
theorem zo (F:f9 K mg "rises" nM ["numbers"])(B:Bl mg):Cl P w K mg base 1 "rises" 1 jX:=
 a7 F yD rfl λf cdv A outer s H E hr xe=>(al (ar (cx (oY rfl) B.b_all P6 (af (fN (N':=["k","numbers"]) (src:=[none,some 0]) rfl (LcScope.by (N:=["numbers"]) (names:=(ak nM).names) rfl rfl rfl (by decide+kernel)) (dH B.b_range (af (aq cK (cx cM B.b_len KJ (af (ad 0) ae)) ai) ae)) (λ_ _ _ _ _=>⟨(ah 0 (show JJ (["k","numbers"]:List Str)by decide+kernel)),bM,(fP n9 (aB (ad 1) (ad 0)) (aB (ad 1) (aq aQ (ad 0) ai)))⟩)) ae))))
abbrev gt:Stmt:=top 17
theorem mT:ay ["thing"] ["thing"] (ak gt):=⟨rfl,rfl,rfl,by decide+kernel,rfl,by decide+kernel,by decide+kernel⟩
theorem mZ (F:f9 K mg "are_readings" gt ["thing"])(aa1:Cl P w K mg base 1 "is_long" 3 aM)(ab9:Cl P w K mg base 1 "rises" 1 jX)(aa2:Cl P w K mg base 2 "is_within" 3 aY)(B:Bl mg)(C:Cs mg):Cl P w K mg base 3 "are_readings" 1 cf:=
 a7 F mT rfl λf cdv A outer s H E hr xe=>(aj (bB (ci (bX (aH aa1 hr (af (ad 0) (af ai (af (pq C.MOST_READINGS) ae)))))) (al (ar d8)) bc) (al (ar (dI (cx (oY rfl) B.b_all P6 (af (fN (N':=["part"]) (src:=[none]) rfl (LcScope.by (N:=["thing"]) (names:=(ak gt).names) rfl rfl rfl (by decide+kernel)) (bP (ad 0)) (λ_ _ _ _ _=>⟨(ah 0 (show JJ (["part"]:List Str)by decide+kernel)),bM,(aH aa2 hr (af (ad 0) (af ai (af (pq C.LAST_READING) ae))))⟩)) ae)) (dZ (aH ab9 hr (af (ad 0) ae)))))))
abbrev mF:Stmt:=top 19
theorem tG:ay ["thing"] ["thing"] (ak mF):=⟨rfl,rfl,rfl,by decide+kernel,rfl,by decide+kernel,by decide+kernel⟩
theorem tW (F:f9 K mg "is_clock" mF ["thing"])(aa1:Cl P w K mg base 1 "is_long" 3 aM)(ab5:Cl P w K mg base 3 "is_pace" 2 gE)(aaG:Cl P w K mg base 3 "are_readings" 1 cf):Cl P w K mg base 4 "is_clock" 1 dL:=
 a7 F tG rfl λf cdv A outer s H E hr xe=>(al (ar (dI (aH aa1 hr (af (ad 0) (af ai (af ai ae)))) (dI (aH ab5 hr (af (aB (ad 0) ai) (af (aB (ad 0) ai) ae))) (dZ (aH aaG hr (af (aB (ad 0) ai) ae)))))))
abbrev ii:Stmt:=top 20
theorem pF:ay ["thing"] ["thing"] (ak ii):=⟨rfl,rfl,rfl,by decide+kernel,rfl,by decide+kernel,by decide+kernel⟩
theorem pM (F:f9 K mg "are_clocks" ii ["thing"])(aa1:Cl P w K mg base 1 "is_long" 3 aM)(ab2:Cl P w K mg base 4 "is_clock" 1 dL)(B:Bl mg)(C:Cs mg):Cl P w K mg base 5 "are_clocks" 1 dS:=
 a7 F pF rfl λf cdv A outer s H E hr xe=>(al (ar (dI (aH aa1 hr (af (ad 0) (af ai (af (pq C.MOST_CLOCKS) ae)))) (dZ (cx (oY rfl) B.b_all P6 (af (fN (N':=["part"]) (src:=[none]) rfl (LcScope.by (N:=["thing"]) (names:=(ak ii).names) rfl rfl rfl (by decide+kernel)) (bP (ad 0)) (λ_ _ _ _ _=>⟨(ah 0 (show JJ (["part"]:List Str)by decide+kernel)),bM,(aH ab2 hr (af (ad 0) ae))⟩)) ae))))))
abbrev mC:Stmt:=top 21
theorem tE:ay ["clocks","thing"] ["clocks","thing"] (ak mC):=⟨rfl,rfl,rfl,by decide+kernel,rfl,by decide+kernel,by decide+kernel⟩
theorem tU (F:f9 K mg "is_event" mC ["clocks","thing"])(aa2:Cl P w K mg base 2 "is_within" 3 aY)(aa1:Cl P w K mg base 1 "is_long" 3 aM)(B:Bl mg):Cl P w K mg base 3 "is_event" 2 cY:=
 a7 F tE rfl λf cdv A outer s H E hr xe=>(aj (bB (io (gG (ci (bX (aH aa1 hr (af (ad 1) (af ai (af ai ae)))))) (fo (ci (bX (aH aa2 hr (af (aB (ad 1) ai) (af ai (af (aq cK (cx cM B.b_len KJ (af (ad 0) ae)) ai) ae))))))))) (al (ar d8)) bc) (al (ar (aH aa2 hr (af (aB (ad 1) ai) (af ai (af (aq cK (cx cM B.b_len KJ (af (aB (aB (ad 0) (aB (ad 1) ai)) ai) ae)) ai) ae)))))))
abbrev mE:Stmt:=top 22
theorem tF:ay ["least","most"] ["least","most"] (ak mE):=⟨rfl,rfl,rfl,by decide+kernel,rfl,by decide+kernel,by decide+kernel⟩
theorem tV (F:f9 K mg "is_delay" mE ["least","most"])(aa2:Cl P w K mg base 2 "is_within" 3 aY)(C:Cs mg):Cl P w K mg base 3 "is_delay" 2 eV:=
 a7 F tF rfl λf cdv A outer s H E hr xe=>(al (ar (dI (aH aa2 hr (af (ad 0) (af ai (af (pq C.LONGEST) ae)))) (dZ (CO (fP lr (ad 1) bS) (dZ (aH aa2 hr (af (ad 1) (af (ad 0) (af (pq C.LONGEST) ae))))))))))
abbrev la:Stmt:=top 23
theorem qU:ay ["clocks","thing"] ["clocks","thing"] (ak la):=⟨rfl,rfl,rfl,by decide+kernel,rfl,by decide+kernel,by decide+kernel⟩
theorem rE (F:f9 K mg "is_letter" la ["clocks","thing"])(aam:Cl P w K mg base 3 "is_event" 2 cY)(aa1:Cl P w K mg base 1 "is_long" 3 aM)(ab3:Cl P w K mg base 3 "is_delay" 2 eV):Cl P w K mg base 4 "is_letter" 2 cq:=
 a7 F qU rfl λf cdv A outer s H E hr xe=>(aj (bB (io (gG (ci (bX (aH aa1 hr (af (ad 1) (af ai (af ai ae)))))) (fo (ci (bX (aH ab3 hr (af (aB (ad 1) ai) (af (aB (ad 1) ai) ae)))))))) (al (ar d8)) bc) (al (ar (dI (aH aam hr (af (ad 0) (af (aB (ad 1) ai) ae))) (dI (aH aam hr (af (ad 0) (af (aB (ad 1) ai) ae))) (dZ (fP (jv (jf hr)) (aB (ad 1) ai) (aB (ad 1) ai))))))))
abbrev gL:Stmt:=top 24
theorem nY:ay ["clocks","thing"] ["clocks","thing"] (ak gL):=⟨rfl,rfl,rfl,by decide+kernel,rfl,by decide+kernel,by decide+kernel⟩
theorem on (F:f9 K mg "are_letters" gL ["clocks","thing"])(aa1:Cl P w K mg base 1 "is_long" 3 aM)(aaY:Cl P w K mg base 4 "is_letter" 2 cq)(B:Bl mg)(C:Cs mg):Cl P w K mg base 5 "are_letters" 2 dC:=
 a7 F nY rfl λf cdv A outer s H E hr xe=>(al (ar (dI (aH aa1 hr (af (ad 1) (af ai (af (pq C.MOST_LETTERS) ae)))) (dZ (cx (oY rfl) B.b_all P6 (af (fN (N':=["part","clocks"]) (src:=[none,some 0]) rfl (LcScope.by (N:=["clocks","thing"]) (names:=(ak gL).names) rfl rfl rfl (by decide+kernel)) (bP (ad 1)) (λ_ _ _ _ _=>⟨(ah 0 (show JJ (["part","clocks"]:List Str)by decide+kernel)),bM,(aH aaY hr (af (ad 1) (af (ad 0) ae)))⟩)) ae))))))
abbrev k8:Stmt:=top 25
theorem qS:ay ["thing"] ["thing"] (ak k8):=⟨rfl,rfl,rfl,by decide+kernel,rfl,by decide+kernel,by decide+kernel⟩
theorem rB (F:f9 K mg "is_record" k8 ["thing"])(aa1:Cl P w K mg base 1 "is_long" 3 aM)(aaT:Cl P w K mg base 5 "are_clocks" 1 dS)(aaM:Cl P w K mg base 5 "are_letters" 2 dC):Cl P w K mg base 6 "is_record" 1 dJ:=
 a7 F qS rfl λf cdv A outer s H E hr xe=>(al (ar (dI (aH aa1 hr (af (ad 0) (af ai (af ai ae)))) (dI (aH aaT hr (af (aB (ad 0) ai) ae)) (dZ (aH aaM hr (af (aB (ad 0) ai) (af (aB (ad 0) ai) ae))))))))
abbrev jm:Stmt:=top 26
theorem nV:ay ["thing"] ["thing"] (ak jm):=⟨rfl,rfl,rfl,by decide+kernel,rfl,by decide+kernel,by decide+kernel⟩
theorem oj (F:f9 K mg "need_record" jm ["thing"])(aaZ:Cl P w K mg base 6 "is_record" 1 dJ){C_NoRecord C_NoEvent C_NoNumber C_NoWorld C_ClockError:Addr}(S:Xs K mg C_NoRecord C_NoEvent C_NoNumber C_NoWorld C_ClockError):Cl P w K mg base 7 "need_record" 1 br:=
 a7 F nV rfl λf cdv A outer s H E hr xe=>(al (bB (ci (bX (aH aaZ hr (af (ad 0) ae)))) (al (jN S.o_NoRecord S.m_NoRecord)) bc))
abbrev lR:Stmt:=top 29
theorem aaW:ay ["record","told","number","clock"] ["record"] (ak lR):=⟨rfl,rfl,rfl,by decide+kernel,rfl,by decide+kernel,by decide+kernel⟩
theorem xo (F:f9 K mg "events" lR ["record"])(aa3:Cl P w K mg base 7 "need_record" 1 br)(B:Bl mg):Cl P w K mg base 8 "events" 1 cQ:=
 a7 F aaW rfl λf cdv A outer s H E hr xe=>(by(refine @aj _ _ _ _ _ ?_ ?_;(focus exact(cO (aH aa3 hr (af (ad 0) ae))));refine @aj _ _ _ _ _ ?_ ?_;(focus exact(ip 1 aaW.nd ae));refine @aj _ _ _ _ _ ?_ ?_;(focus exact(bY rfl (gd B.b_enumerate (af (aB (ad 0) ai) ae)) (cP rfl (aD (ah 2 aaW.nd) (aD (ah 3 aaW.nd) ca))) (al (qJ 1 (fN (N':=["k","number"]) (src:=[none,some 2]) rfl (LcScope.by (N:=["record","told","number","clock"]) (names:=(ak lR).names) rfl rfl rfl (by decide+kernel)) (dH B.b_range (af (cx cM B.b_len KJ (af (aB (ad 3) ai) ae)) ae)) (λ_ _ _ _ _=>⟨(ah 0 (show JJ (["k","number"]:List Str)by decide+kernel)),bM,(bf (af (ad 1) (af (ad 0) ae)))⟩))))));exact al (iI 1 (ar (ad 1)))))
abbrev ld:Stmt:=top 40
theorem ab6:ay ["best","bound","ahead","known"] ["best","bound","ahead"] (ak ld):=⟨rfl,rfl,rfl,by decide+kernel,rfl,by decide+kernel,by decide+kernel⟩
theorem rF (F:f9 K mg "is_better" ld ["best","bound","ahead"]):Cl P w K mg base 1 "is_better" 3 dM:=
 a7 F ab6 rfl λf cdv A outer s H E hr xe=>(aj (aJ (vQ (im hr) (ad 0) (aB (ad 1) ai)) (ah 3 ab6.nd)) (al (ar (CO (fP lr (ad 3) bS) (dZ (fP n9 (aq aQ (aB (ad 2) ai) (aB (ad 1) ai)) (aB (ad 3) ai)))))))
abbrev jQ:Stmt:=top 39
theorem aac:ay ["limits","starts","best","moved","number","bound","ahead","walk","passed"] ["limits","starts"] (ak jQ):=⟨rfl,rfl,rfl,by decide+kernel,rfl,by decide+kernel,by decide+kernel⟩
theorem xn (F:f9 K mg "settle" jQ ["limits","starts"])(ab0:Cl P w K mg base 1 "is_better" 3 dM)(B:Bl mg):Cl P w K mg base 2 "settle" 2 gV:=
 a7 F aac rfl λf cdv A outer s H E hr xe=>(by(refine @aj _ _ _ _ _ ?_ ?_;(focus exact(yh 2 (GT hr) rfl B.b_dict aac.nd (fN (N':=["event"]) (src:=[none]) rfl (LcScope.by (N:=["limits","starts","best","moved","number","bound","ahead","walk","passed"]) (names:=(ak jQ).names) rfl rfl rfl (by decide+kernel)) (bP (ad 1)) (λ_ _ _ _ _=>⟨(ah 0 (show JJ (["event"]:List Str)by decide+kernel)),bM,(bf (af (ad 0) (af (bf (af ai (af (gq ae) ae))) ae)))⟩))));refine @aj _ _ _ _ _ ?_ ?_;(focus exact(aJ d8 (ah 3 aac.nd)));refine @aj _ _ _ _ _ ?_ ?_;(focus exact(wX FU (bX (ad 3)) (aj (aJ d8 (ah 3 aac.nd)) (al (bY rfl (gd B.b_enumerate (af (ad 0) ae)) (cP rfl (aD (ah 4 aac.nd) (aD (ah 5 aac.nd) ca))) (by(refine @aj _ _ _ _ _ ?_ ?_;(focus exact(aJ (jh 2 (vQ (im hr) (ad 2) (aB (ad 5) ai))) (ah 6 aac.nd)));refine @aj _ _ _ _ _ ?_ ?_;(focus exact(bB (io (gG (aP lr (ad 6) bS) (fo (ci (Dj 2 (bX (aH ab0 hr (af (ad 2) (af (ad 5) (af (ad 6) ae)))))))))) (al Dk) bc));refine @aj _ _ _ _ _ ?_ ?_;(focus exact(aJ (aq aQ (aB (ad 6) ai) (gq (af (ad 4) ae))) (ah 7 aac.nd)));refine @aj _ _ _ _ _ ?_ ?_;(focus exact(uP 8 (N':=["step","limits"]) (src:=[none,some 0]) rfl (LcScope.by (N:=["limits","starts","best","moved","number","bound","ahead","walk","passed"]) (names:=(ak jQ).names) rfl rfl rfl (by decide+kernel)) (bP (ad 7)) (λ_ _ _ _ _=>⟨(ah 0 (show JJ (["step","limits"]:List Str)by decide+kernel)),bM,(aB (aB (ad 1) (ad 0)) ai)⟩) aac.nd));refine @aj _ _ _ _ _ ?_ ?_;(focus exact(bB (aP (Gq (Fa hr)) (aB (ad 5) ai) (ad 8)) (al (ar (bf (af bS (af (iu (ad 7) (iq (w4 (Fa hr) (ad 8) (aB (ad 5) ai))) ir) ae))))) bc));refine @aj _ _ _ _ _ ?_ ?_;(focus exact(vN 2 (im hr) (aB (ad 5) ai) (bf (af (aq aQ (aB (ad 6) ai) (aB (ad 5) ai)) (af (ad 7) ae)))));exact al (aJ d8 (ah 3 aac.nd)))))))));exact al (iI 2 (ar (bf (af (ad 2) (af bS ae)))))))
abbrev ft:Stmt:=top 42
theorem aav:ay ["record","limits","places","best"] ["record","limits"] (ak ft):=⟨rfl,rfl,rfl,by decide+kernel,rfl,by decide+kernel,by decide+kernel⟩
theorem lv (F:f9 K mg "greatest_world" ft ["record","limits"])(aaa:Cl P w K mg base 8 "events" 1 cQ)(aaH:Cl P w K mg base 2 "settle" 2 gV)(B:Bl mg):Cl P w K mg base 9 "greatest_world" 2 dR:=
 a7 F aav rfl λf cdv A outer s H E hr xe=>(by(refine @aj _ _ _ _ _ ?_ ?_;(focus exact(aJ (aH aaa hr (af (ad 0) ae)) (ah 2 aav.nd)));refine @aj _ _ _ _ _ ?_ ?_;(focus exact(aJ (aB (aH aaH hr (af (ad 1) (af (ad 2) ae))) ai) (ah 3 aav.nd)));refine @aj _ _ _ _ _ ?_ ?_;(focus exact(bB (aP lr (ad 3) bS) (al (ar bS)) bc));exact al (ar (mw g8 B.b_tuple cu (af (fN (N':=["event","best"]) (src:=[none,some 3]) rfl (LcScope.by (N:=["record","limits","places","best"]) (names:=(ak ft).names) rfl rfl rfl (by decide+kernel)) (bP (ad 2)) (λ_ _ _ _ _=>⟨(ah 0 (show JJ (["event","best"]:List Str)by decide+kernel)),bM,(aB (bo (im hr) (ad 1) (ad 0)) ai)⟩)) ae)))))
abbrev gK:Stmt:=top 31
theorem aa7:ay ["number","clock","readings","told","k","first","second","steps"] ["number","clock"] (ak gK):=⟨rfl,rfl,rfl,by decide+kernel,rfl,by decide+kernel,by decide+kernel⟩
theorem kJ (F:f9 K mg "bounds_of_clock" gK ["number","clock"])(B:Bl mg):Cl P w K mg base 1 "bounds_of_clock" 2 cR:=
 a7 F aa7 rfl λf cdv A outer s H E hr xe=>(by(refine @aj _ _ _ _ _ ?_ ?_;(focus exact(aJ (aB (ad 1) ai) (ah 2 aa7.nd)));refine @aj _ _ _ _ _ ?_ ?_;(focus exact(ip 3 aa7.nd ae));refine @aj _ _ _ _ _ ?_ ?_;(focus exact(bY rfl (dH B.b_range (af (aq cK (cx cM B.b_len KJ (af (ad 2) ae)) ai) ae)) (ah 4 aa7.nd) (by(refine @aj _ _ _ _ _ ?_ ?_;(focus exact(aJ (bf (af (ad 0) (af (ad 4) ae))) (ah 5 aa7.nd)));refine @aj _ _ _ _ _ ?_ ?_;(focus exact(aJ (bf (af (ad 0) (af (aq aQ (ad 4) ai) ae))) (ah 6 aa7.nd)));refine @aj _ _ _ _ _ ?_ ?_;(focus exact(aJ (aq cK (aB (ad 2) (aq aQ (ad 4) ai)) (aB (ad 2) (ad 4))) (ah 7 aa7.nd)));refine @aj _ _ _ _ _ ?_ ?_;(focus exact(hV 3 (bf (af (ad 5) (af (ad 6) (af (aq dn (ad 7) (aB (ad 1) ai)) ae))))));exact al (hV 3 (bf (af (ad 6) (af (ad 5) (af (aq dn (qL (ad 7)) (aB (ad 1) ai)) ae)))))))));exact al (iI 3 (ar (ad 3)))))
abbrev gw:Stmt:=top 32
theorem aaF:ay ["letter","told"] ["letter"] (ak gw):=⟨rfl,rfl,rfl,by decide+kernel,rfl,by decide+kernel,by decide+kernel⟩
theorem j9 (F:f9 K mg "bounds_of_letter" gw ["letter"]):Cl P w K mg base 1 "bounds_of_letter" 1 cC:=
 a7 F aaF rfl λf cdv A outer s H E hr xe=>(by(refine @aj _ _ _ _ _ ?_ ?_;(focus exact(ip 1 aaF.nd (af (bf (af (aB (ad 0) ai) (af (aB (ad 0) ai) (af (qL (aB (ad 0) ai)) ae)))) ae)));refine @aj _ _ _ _ _ ?_ ?_;(focus exact(bB (aP fz (aB (ad 0) ai) bS) (al (hV 1 (bf (af (aB (ad 0) ai) (af (aB (ad 0) ai) (af (aB (ad 0) ai) ae)))))) bc));exact al (iI 1 (ar (ad 1)))))
abbrev pZ:Stmt:=top 33
theorem aaJ:ay ["record","told","number","clock","letter"] ["record"] (ak pZ):=⟨rfl,rfl,rfl,by decide+kernel,rfl,by decide+kernel,by decide+kernel⟩
theorem xq (F:f9 K mg "bounds" pZ ["record"])(aa3:Cl P w K mg base 7 "need_record" 1 br)(aaw:Cl P w K mg base 1 "bounds_of_clock" 2 cR)(aaq:Cl P w K mg base 1 "bounds_of_letter" 1 cC)(B:Bl mg):Cl P w K mg base 8 "bounds" 1 fB:=
 a7 F aaJ rfl λf cdv A outer s H E hr xe=>(by(refine @aj _ _ _ _ _ ?_ ?_;(focus exact(cO (aH aa3 hr (af (ad 0) ae))));refine @aj _ _ _ _ _ ?_ ?_;(focus exact(ip 1 aaJ.nd ae));refine @aj _ _ _ _ _ ?_ ?_;(focus exact(bY rfl (gd B.b_enumerate (af (aB (ad 0) ai) ae)) (cP rfl (aD (ah 2 aaJ.nd) (aD (ah 3 aaJ.nd) ca))) (al (qJ 1 (aH aaw hr (af (ad 2) (af (ad 3) ae)))))));refine @aj _ _ _ _ _ ?_ ?_;(focus exact(bY rfl (bP (aB (ad 0) ai)) (ah 4 aaJ.nd) (al (qJ 1 (aH aaq hr (af (ad 4) ae))))));exact al (iI 1 (ar (ad 1)))))
abbrev sY:Stmt:=top 43
theorem yC:ay ["record"] ["record"] (ak sY):=⟨rfl,rfl,rfl,by decide+kernel,rfl,by decide+kernel,by decide+kernel⟩
theorem zl (F:f9 K mg "world" sY ["record"])(aaA:Cl P w K mg base 9 "greatest_world" 2 dR)(aan:Cl P w K mg base 8 "bounds" 1 fB):Cl P w K mg base 10 "world" 1 jW:=
 a7 F yC rfl λf cdv A outer s H E hr xe=>(al (ar (aH aaA hr (af (ad 0) (af (aH aan hr (af (ad 0) ae)) ae)))))
abbrev lf:Stmt:=top 44
theorem qV:ay ["record"] ["record"] (ak lf):=⟨rfl,rfl,rfl,by decide+kernel,rfl,by decide+kernel,by decide+kernel⟩
theorem rG (F:f9 K mg "has_world" lf ["record"])(aba:Cl P w K mg base 10 "world" 1 jW):Cl P w K mg base 11 "has_world" 1 ce:=
 a7 F qV rfl λf cdv A outer s H E hr xe=>(al (ar (fP fz (aH aba hr (af (ad 0) ae)) bS)))
abbrev kl:Stmt:=top 45
theorem pC:ay ["record"] ["record"] (ak kl):=⟨rfl,rfl,rfl,by decide+kernel,rfl,by decide+kernel,by decide+kernel⟩
theorem pK (F:f9 K mg "need_world" kl ["record"])(aa8:Cl P w K mg base 11 "has_world" 1 ce){C_NoRecord C_NoEvent C_NoNumber C_NoWorld C_ClockError:Addr}(S:Xs K mg C_NoRecord C_NoEvent C_NoNumber C_NoWorld C_ClockError):Cl P w K mg base 12 "need_world" 1 bO:=
 a7 F pC rfl λf cdv A outer s H E hr xe=>(al (bB (ci (bX (aH aa8 hr (af (ad 0) ae)))) (al (jN S.o_NoWorld S.m_NoWorld)) bc))
abbrev km:Stmt:=top 27
theorem pE:ay ["record","thing"] ["record","thing"] (ak km):=⟨rfl,rfl,rfl,by decide+kernel,rfl,by decide+kernel,by decide+kernel⟩
theorem pL (F:f9 K mg "need_event" km ["record","thing"])(aam:Cl P w K mg base 3 "is_event" 2 cY){C_NoRecord C_NoEvent C_NoNumber C_NoWorld C_ClockError:Addr}(S:Xs K mg C_NoRecord C_NoEvent C_NoNumber C_NoWorld C_ClockError):Cl P w K mg base 4 "need_event" 2 fA:=
 a7 F pE rfl λf cdv A outer s H E hr xe=>(al (bB (ci (bX (aH aam hr (af (aB (ad 0) ai) (af (ad 1) ae))))) (al (jN S.o_NoEvent S.m_NoEvent)) bc))
abbrev jo:Stmt:=top 47
theorem nX:ay ["record","one","other"] ["record","one","other"] (ak jo):=⟨rfl,rfl,rfl,by decide+kernel,rfl,by decide+kernel,by decide+kernel⟩
theorem om (F:f9 K mg "need_events" jo ["record","one","other"])(aa3:Cl P w K mg base 7 "need_record" 1 br)(aaD:Cl P w K mg base 4 "need_event" 2 fA):Cl P w K mg base 8 "need_events" 3 fY:=
 a7 F nX rfl λf cdv A outer s H E hr xe=>(by(refine @aj _ _ _ _ _ ?_ ?_;(focus exact(cO (aH aa3 hr (af (ad 0) ae))));refine @aj _ _ _ _ _ ?_ ?_;(focus exact(cO (aH aaD hr (af (ad 0) (af (ad 1) ae)))));exact al (cO (aH aaD hr (af (ad 0) (af (ad 2) ae))))))
abbrev nN:Stmt:=top 49
theorem u6:ay ["walks","other"] ["walks","other"] (ak nN):=⟨rfl,rfl,rfl,by decide+kernel,rfl,by decide+kernel,by decide+kernel⟩
theorem vf (F:f9 K mg "most_of" nN ["walks","other"]):Cl P w K mg base 1 "most_of" 2 eZ:=
 a7 F u6 rfl λf cdv A outer s H E hr xe=>(al (ar (mt (aP (Et (im hr)) (ad 1) (ad 0)) (aB (bo (im hr) (ad 0) (ad 1)) ai) bS)))
abbrev kj:Stmt:=top 48
theorem pB:ay ["record","one"] ["record","one"] (ak kj):=⟨rfl,rfl,rfl,by decide+kernel,rfl,by decide+kernel,by decide+kernel⟩
theorem pJ (F:f9 K mg "walks_from" kj ["record","one"])(aaH:Cl P w K mg base 2 "settle" 2 gV)(aan:Cl P w K mg base 8 "bounds" 1 fB):Cl P w K mg base 9 "walks_from" 2 dq:=
 a7 F pB rfl λf cdv A outer s H E hr xe=>(al (ar (aB (aH aaH hr (af (aH aan hr (af (ad 0) ae)) (af (gq (af (ad 1) ae)) ae))) ai)))
abbrev i6:Stmt:=top 50
theorem mS:ay ["record","one","other"] ["record","one","other"] (ak i6):=⟨rfl,rfl,rfl,by decide+kernel,rfl,by decide+kernel,by decide+kernel⟩
theorem mY (F:f9 K mg "most_between" i6 ["record","one","other"])(aaN:Cl P w K mg base 8 "need_events" 3 fY)(aa6:Cl P w K mg base 12 "need_world" 1 bO)(aaC:Cl P w K mg base 1 "most_of" 2 eZ)(aal:Cl P w K mg base 9 "walks_from" 2 dq):Cl P w K mg base 13 "most_between" 3 cA:=
 a7 F mS rfl λf cdv A outer s H E hr xe=>(by(refine @aj _ _ _ _ _ ?_ ?_;(focus exact(cO (aH aaN hr (af (ad 0) (af (ad 1) (af (ad 2) ae))))));refine @aj _ _ _ _ _ ?_ ?_;(focus exact(cO (aH aa6 hr (af (ad 0) ae))));exact al (ar (aH aaC hr (af (aH aal hr (af (ad 0) (af (ad 1) ae))) (af (ad 2) ae))))))
abbrev ix:Stmt:=top 51
theorem aaU:ay ["record","one","other","most"] ["record","one","other"] (ak ix):=⟨rfl,rfl,rfl,by decide+kernel,rfl,by decide+kernel,by decide+kernel⟩
theorem lU (F:f9 K mg "least_between" ix ["record","one","other"])(aaf:Cl P w K mg base 13 "most_between" 3 cA):Cl P w K mg base 14 "least_between" 3 eO:=
 a7 F aaU rfl λf cdv A outer s H E hr xe=>(aj (aJ (aH aaf hr (af (ad 0) (af (ad 2) (af (ad 1) ae)))) (ah 3 aaU.nd)) (al (ar (mt (aP lr (ad 3) bS) bS (qL (ad 3))))))
abbrev i5:Stmt:=top 54
theorem mQ:ay ["record","one","other"] ["record","one","other"] (ak i5):=⟨rfl,rfl,rfl,by decide+kernel,rfl,by decide+kernel,by decide+kernel⟩
theorem mX (F:f9 K mg "span_between" i5 ["record","one","other"])(aaE:Cl P w K mg base 14 "least_between" 3 eO)(aaf:Cl P w K mg base 13 "most_between" 3 cA):Cl P w K mg base 15 "span_between" 3 cz:=
 a7 F mQ rfl λf cdv A outer s H E hr xe=>(al (ar (bf (af (aH aaE hr (af (ad 0) (af (ad 1) (af (ad 2) ae)))) (af (aH aaf hr (af (ad 0) (af (ad 1) (af (ad 2) ae)))) ae)))))
abbrev gJ:Stmt:=top 56
theorem aar:ay ["record","letter","span","most"] ["record","letter"] (ak gJ):=⟨rfl,rfl,rfl,by decide+kernel,rfl,by decide+kernel,by decide+kernel⟩
theorem kI (F:f9 K mg "narrowed_letter" gJ ["record","letter"])(aag:Cl P w K mg base 15 "span_between" 3 cz)(B:Bl mg)(C:Cs mg):Cl P w K mg base 16 "narrowed_letter" 2 bn:=
 a7 F aar rfl λf cdv A outer s H E hr xe=>(by(refine @aj _ _ _ _ _ ?_ ?_;(focus exact(aJ (aH aag hr (af (ad 0) (af (aB (ad 1) ai) (af (aB (ad 1) ai) ae)))) (ah 2 aar.nd)));refine @aj _ _ _ _ _ ?_ ?_;(focus exact(aJ (mt (io (gG (aP lr (aB (ad 2) ai) bS) (fo (aP C5 (aB (ad 2) ai) (pq C.LONGEST))))) bS (aB (ad 2) ai)) (ah 3 aar.nd)));exact al (ar (bf (af (aB (ad 1) ai) (af (aB (ad 1) ai) (af (cx (vG rfl) B.b_min boot_min (af (aB (ad 2) ai) (af (pq C.LONGEST) ae))) (af (ad 3) ae))))))))
abbrev jp:Stmt:=top 57
theorem tw:ay ["record"] ["record"] (ak jp):=⟨rfl,rfl,rfl,by decide+kernel,rfl,by decide+kernel,by decide+kernel⟩
theorem tR (F:f9 K mg "narrowed" jp ["record"])(aa6:Cl P w K mg base 12 "need_world" 1 bO)(aax:Cl P w K mg base 16 "narrowed_letter" 2 bn)(B:Bl mg):Cl P w K mg base 17 "narrowed" 1 eU:=
 a7 F tw rfl λf cdv A outer s H E hr xe=>(aj (cO (aH aa6 hr (af (ad 0) ae))) (al (ar (bf (af (aB (ad 0) ai) (af (mw g8 B.b_tuple cu (af (fN (N':=["letter","record"]) (src:=[none,some 0]) rfl (LcScope.by (N:=["record"]) (names:=(ak jp).names) rfl rfl rfl (by decide+kernel)) (bP (aB (ad 0) ai)) (λ_ _ _ _ _=>⟨(ah 0 (show JJ (["letter","record"]:List Str)by decide+kernel)),bM,(aH aax hr (af (ad 1) (af (ad 0) ae)))⟩)) ae)) ae))))))
abbrev cm:Stmt:=top 72
theorem aa5:ay ["_law_script","_law_at","_law_places","_law_row","_law_table_here","_law_times","_law_k","_law_event","_law_highs","_law_lows","_law_low","_law_high"] ["_law_script","_law_at","_law_places","_law_row","_law_table_here"] (ak cm):=⟨rfl,rfl,rfl,by decide+kernel,rfl,by decide+kernel,by decide+kernel⟩
theorem kc (F:f9 K mg "_law_drawn_world" cm ["_law_script","_law_at","_law_places","_law_row","_law_table_here"])(aa0:Cl P w K mg base 2 "_law_drawn" 3 aE)(B:Bl mg):Cl P w K mg base 3 "_law_drawn_world" 5 dt:=
 a7 F aa5 rfl λf cdv A outer s H E hr xe=>(by(refine @aj _ _ _ _ _ ?_ ?_;(focus exact(wZ 5 aa5.nd));refine @aj _ _ _ _ _ ?_ ?_;(focus exact(bY rfl (gd B.b_enumerate (af (ad 2) ae)) (cP rfl (aD (ah 6 aa5.nd) (aD (ah 7 aa5.nd) ca))) (by(refine @aj _ _ _ _ _ ?_ ?_;(focus exact(vO 5 8 (N':=["_law_one","_law_times","_law_table_here","_law_event"]) (src:=[none,some 5,some 4,some 7]) rfl (LcScope.by (N:=["_law_script","_law_at","_law_places","_law_row","_law_table_here","_law_times","_law_k","_law_event","_law_highs","_law_lows","_law_low","_law_high"]) (names:=(ak cm).names) rfl rfl rfl (by decide+kernel))  (λ_ _ _ _ _=>⟨(ah 0 (show JJ (["_law_one","_law_times","_law_table_here","_law_event"]:List Str)by decide+kernel)),(kX (aP fz (bo (im hr) (bo (im hr) (ad 2) (ad 0)) (ad 3)) bS)),(aq aQ (bo (im hr) (ad 1) (ad 0)) (bo (im hr) (bo (im hr) (ad 2) (ad 0)) (ad 3)))⟩) aa5.nd));refine @aj _ _ _ _ _ ?_ ?_;(focus exact(vO 5 9 (N':=["_law_one","_law_times","_law_table_here","_law_event"]) (src:=[none,some 5,some 4,some 7]) rfl (LcScope.by (N:=["_law_script","_law_at","_law_places","_law_row","_law_table_here","_law_times","_law_k","_law_event","_law_highs","_law_lows","_law_low","_law_high"]) (names:=(ak cm).names) rfl rfl rfl (by decide+kernel))  (λ_ _ _ _ _=>⟨(ah 0 (show JJ (["_law_one","_law_times","_law_table_here","_law_event"]:List Str)by decide+kernel)),(kX (aP fz (bo (im hr) (bo (im hr) (ad 2) (ad 3)) (ad 0)) bS)),(aq cK (bo (im hr) (ad 1) (ad 0)) (bo (im hr) (bo (im hr) (ad 2) (ad 3)) (ad 0)))⟩) aa5.nd));refine @aj _ _ _ _ _ ?_ ?_;(focus exact(aJ (mt (aP (jv (jf hr)) (ad 9) (gq ae)) (cx (Fr rfl) B.b_max boot_max (af (ad 9) ae)) (mt (aP (jv (jf hr)) (ad 8) (gq ae)) (aq cK (cx (vG rfl) B.b_min boot_min (af (ad 8) ae)) ai) ai)) (ah 10 aa5.nd)));refine @aj _ _ _ _ _ ?_ ?_;(focus exact(aJ (mt (aP (jv (jf hr)) (ad 8) (gq ae)) (cx (vG rfl) B.b_min boot_min (af (ad 8) ae)) (aq aQ (ad 10) ai)) (ah 11 aa5.nd)));exact al (vN 5 (im hr) (ad 7) (aq aQ (ad 10) (aH aa0 hr (af (ad 0) (af (aq aQ (ad 1) (ad 6)) (af (aq aQ (aq cK (ad 11) (ad 10)) ai) ae))))))))));exact al (ar (mw g8 B.b_tuple cu (af (jh 5 (fN (N':=["_law_event","_law_times"]) (src:=[none,some 5]) rfl (LcScope.by (N:=["_law_script","_law_at","_law_places","_law_row","_law_table_here","_law_times","_law_k","_law_event","_law_highs","_law_lows","_law_low","_law_high"]) (names:=(ak cm).names) rfl rfl rfl (by decide+kernel)) (bP (ad 2)) (λ_ _ _ _ _=>⟨(ah 0 (show JJ (["_law_event","_law_times"]:List Str)by decide+kernel)),bM,(bo (im hr) (ad 1) (ad 0))⟩))) ae)))))
abbrev k9:Stmt:=top 58
theorem qT:ay ["record"] ["record"] (ak k9):=⟨rfl,rfl,rfl,by decide+kernel,rfl,by decide+kernel,by decide+kernel⟩
theorem rC (F:f9 K mg "is_narrow" k9 ["record"])(aau:Cl P w K mg base 17 "narrowed" 1 eU):Cl P w K mg base 18 "is_narrow" 1 ff:=
 a7 F qT rfl λf cdv A outer s H E hr xe=>(al (ar (fP (og (jf hr)) (aH aau hr (af (ad 0) ae)) (ad 0))))
abbrev jq:Stmt:=top 52
theorem aay:ay ["record","places","told","one","walks"] ["record"] (ak jq):=⟨rfl,rfl,rfl,by decide+kernel,rfl,by decide+kernel,by decide+kernel⟩
theorem tX (F:f9 K mg "all_most" jq ["record"])(aa6:Cl P w K mg base 12 "need_world" 1 bO)(aaa:Cl P w K mg base 8 "events" 1 cQ)(aal:Cl P w K mg base 9 "walks_from" 2 dq)(aaC:Cl P w K mg base 1 "most_of" 2 eZ)(B:Bl mg):Cl P w K mg base 13 "all_most" 1 dN:=
 a7 F aay rfl λf cdv A outer s H E hr xe=>(by(refine @aj _ _ _ _ _ ?_ ?_;(focus exact(cO (aH aa6 hr (af (ad 0) ae))));refine @aj _ _ _ _ _ ?_ ?_;(focus exact(aJ (aH aaa hr (af (ad 0) ae)) (ah 1 aay.nd)));refine @aj _ _ _ _ _ ?_ ?_;(focus exact(ip 2 aay.nd ae));refine @aj _ _ _ _ _ ?_ ?_;(focus exact(bY rfl (bP (ad 1)) (ah 3 aay.nd) (aj (aJ (aH aal hr (af (ad 0) (af (ad 3) ae))) (ah 4 aay.nd)) (al (hV 2 (mw g8 B.b_tuple cu (af (fN (N':=["other","walks"]) (src:=[none,some 4]) rfl (LcScope.by (N:=["record","places","told","one","walks"]) (names:=(ak jq).names) rfl rfl rfl (by decide+kernel)) (bP (ad 1)) (λ_ _ _ _ _=>⟨(ah 0 (show JJ (["other","walks"]:List Str)by decide+kernel)),bM,(aH aaC hr (af (ad 1) (af (ad 0) ae)))⟩)) ae)))))));exact al (ar (jh 2 (mw g8 B.b_tuple cu (af (ad 2) ae))))))
abbrev jt:Stmt:=top 70
theorem aa4:ay ["_law_record_here","_law_found","_law_number","_law_slow","_law_fast","_law_readings","_law_k","_law_steps","_law_one","_law_other","_law_least","_law_most"] ["_law_record_here"] (ak jt):=⟨rfl,rfl,rfl,by decide+kernel,rfl,by decide+kernel,by decide+kernel⟩
theorem oy (F:f9 K mg "_law_bounds" jt ["_law_record_here"])(B:Bl mg):Cl P w K mg base 1 "_law_bounds" 1 dE:=
 a7 F aa4 rfl λf cdv A outer s H E hr xe=>(by(refine @aj _ _ _ _ _ ?_ ?_;(focus exact(ip 1 aa4.nd ae));refine @aj _ _ _ _ _ ?_ ?_;(focus exact(bY rfl (gd B.b_enumerate (af (aB (ad 0) ai) ae)) (cP rfl (aD (ah 2 aa4.nd) (aD (cP rfl (aD (ah 3 aa4.nd) (aD (ah 4 aa4.nd) (aD (ah 5 aa4.nd) ca)))) ca))) (al (bY rfl (kE B.b_range (af ai (af (cx cM B.b_len KJ (af (ad 5) ae)) ae))) (ah 6 aa4.nd) (by(refine @aj _ _ _ _ _ ?_ ?_;(focus exact(aJ (aq cK (aB (ad 5) (ad 6)) (aB (ad 5) (aq cK (ad 6) ai))) (ah 7 aa4.nd)));refine @aj _ _ _ _ _ ?_ ?_;(focus exact(hV 1 (bf (af (bf (af (ad 2) (af (aq cK (ad 6) ai) ae))) (af (bf (af (ad 2) (af (ad 6) ae))) (af (aq dn (ad 4) (ad 7)) ae))))));exact al (hV 1 (bf (af (bf (af (ad 2) (af (ad 6) ae))) (af (bf (af (ad 2) (af (aq cK (ad 6) ai) ae))) (af (aq cK ai (aq dn (ad 3) (ad 7))) ae)))))))))));refine @aj _ _ _ _ _ ?_ ?_;(focus exact(bY rfl (bP (aB (ad 0) ai)) (cP rfl (aD (ah 8 aa4.nd) (aD (ah 9 aa4.nd) (aD (ah 10 aa4.nd) (aD (ah 11 aa4.nd) ca))))) (aj (hV 1 (bf (af (ad 9) (af (ad 8) (af (aq cK ai (ad 10)) ae))))) (al (bB (aP fz (ad 11) bS) (al (hV 1 (bf (af (ad 8) (af (ad 9) (af (ad 11) ae)))))) bc)))));exact al (iI 1 (ar (ad 1)))))
abbrev fW:Stmt:=top 71
theorem aa9:ay ["_law_places","_law_row","_law_far","_law_one","_law_other","_law_most","_law_middle","_law_whole"] ["_law_places","_law_row"] (ak fW):=⟨rfl,rfl,rfl,by decide+kernel,rfl,by decide+kernel,by decide+kernel⟩
theorem pO (F:f9 K mg "_law_table" fW ["_law_places","_law_row"])(B:Bl mg):Cl P w K mg base 1 "_law_table" 2 gy:=
 a7 F aa9 rfl λf cdv A outer s H E hr xe=>(by(refine @aj _ _ _ _ _ ?_ ?_;(focus exact(wY 2 0 (N':=["_law_one","_law_places"]) (src:=[none]) (GT hr) rfl B.b_dict aa9.nd (LcScope.by (N:=["_law_places","_law_row","_law_far","_law_one","_law_other","_law_most","_law_middle","_law_whole"]) (names:=(ak fW).names) rfl rfl rfl (by decide+kernel)) (bP (ad 0)) (by decide) (λ_ _ _ _ _=>⟨(ah 0 (show JJ (["_law_one","_law_places"]:List Str)by decide+kernel)),pv 0,Ek (GT hr) rfl B.b_dict rfl (LcScope.byN (N:=["_law_one","_law_places"]) (N':=["_law_other"]) rfl rfl (by decide+kernel) rfl) (bP (ad 1)).h (λ_ _ _ _ _=>⟨(ah 0 (show JJ (["_law_other"]:List Str)by decide+kernel)).h,pv 0,rfl⟩) (λ_=>rfl)⟩)));refine @aj _ _ _ _ _ ?_ ?_;(focus exact(bY rfl (bP (ad 0)) (ah 3 aa9.nd) (al (nI 2 (im hr) (ad 3) (ad 3) ai))));refine @aj _ _ _ _ _ ?_ ?_;(focus exact(bY rfl (bP (ad 1)) (cP rfl (aD (ah 3 aa9.nd) (aD (ah 4 aa9.nd) (aD (ah 5 aa9.nd) ca)))) (al (bB (io (gG (aP lr (jh 2 (bo (im hr) (bo (im hr) (ad 2) (ad 3)) (ad 4))) bS) (fo (aP n9 (ad 5) (jh 2 (bo (im hr) (bo (im hr) (ad 2) (ad 3)) (ad 4))))))) (al (nI 2 (im hr) (ad 3) (ad 4) (ad 5))) bc))));refine @aj _ _ _ _ _ ?_ ?_;(focus exact(bY rfl (bP (ad 0)) (ah 6 aa9.nd) (al (bY rfl (bP (ad 0)) (ah 3 aa9.nd) (al (bY rfl (bP (ad 0)) (ah 4 aa9.nd) (al (bB (io (vM (aP fz (jh 2 (bo (im hr) (bo (im hr) (ad 2) (ad 3)) (ad 6))) bS) (sK (aP fz (jh 2 (bo (im hr) (bo (im hr) (ad 2) (ad 6)) (ad 4))) bS)))) (aj (aJ (aq aQ (jh 2 (bo (im hr) (bo (im hr) (ad 2) (ad 3)) (ad 6))) (jh 2 (bo (im hr) (bo (im hr) (ad 2) (ad 6)) (ad 4)))) (ah 7 aa9.nd)) (al (bB (io (gG (aP lr (jh 2 (bo (im hr) (bo (im hr) (ad 2) (ad 3)) (ad 4))) bS) (fo (aP n9 (ad 7) (jh 2 (bo (im hr) (bo (im hr) (ad 2) (ad 3)) (ad 4))))))) (al (nI 2 (im hr) (ad 3) (ad 4) (ad 7))) bc))) bc))))))));exact al (iI 2 (ar (mt (aP (og (jf hr)) (fN (N':=["_law_one","_law_far"]) (src:=[none,some 2]) rfl (LcScope.by (N:=["_law_places","_law_row","_law_far","_law_one","_law_other","_law_most","_law_middle","_law_whole"]) (names:=(ak fW).names) rfl rfl rfl (by decide+kernel)) (bP (ad 0)) (λ_ _ _ _ _=>⟨(ah 0 (show JJ (["_law_one","_law_far"]:List Str)by decide+kernel)),(kX (aP n9 (bo (im hr) (bo (im hr) (ad 1) (ad 0)) (ad 0)) ai)),(ad 0)⟩)) (gq ae)) (ad 2) bS)))))
abbrev iN:Stmt:=top 34
theorem ab7:ay ["record","thing","many"] ["record","thing"] (ak iN):=⟨rfl,rfl,rfl,by decide+kernel,rfl,by decide+kernel,by decide+kernel⟩
theorem rH (F:f9 K mg "are_times" iN ["record","thing"])(aaa:Cl P w K mg base 8 "events" 1 cQ)(aa1:Cl P w K mg base 1 "is_long" 3 aM)(aat:Cl P w K mg base 1 "is_whole" 1 fR)(B:Bl mg):Cl P w K mg base 9 "are_times" 2 hY:=
 a7 F ab7 rfl λf cdv A outer s H E hr xe=>(aj (aJ (cx cM B.b_len KJ (af (aH aaa hr (af (ad 0) ae)) ae)) (ah 2 ab7.nd)) (al (ar (dI (aH aa1 hr (af (ad 1) (af (ad 2) (af (ad 2) ae)))) (dZ (cx (oY rfl) B.b_all P6 (af (fN (N':=["part"]) (src:=[none]) rfl (LcScope.by (N:=["record","thing","many"]) (names:=(ak iN).names) rfl rfl rfl (by decide+kernel)) (bP (ad 1)) (λ_ _ _ _ _=>⟨(ah 0 (show JJ (["part"]:List Str)by decide+kernel)),bM,(aH aat hr (af (ad 0) ae))⟩)) ae)))))))
abbrev sZ:Stmt:=top 35
theorem yE:ay ["bound","time_of"] ["bound","time_of"] (ak sZ):=⟨rfl,rfl,rfl,by decide+kernel,rfl,by decide+kernel,by decide+kernel⟩
theorem zp (F:f9 K mg "holds" sZ ["bound","time_of"]):Cl P w K mg base 1 "holds" 2 nu:=
 a7 F yE rfl λf cdv A outer s H E hr xe=>(al (ar (fP mH (aq cK (bo (im hr) (ad 1) (aB (ad 0) ai)) (bo (im hr) (ad 1) (aB (ad 0) ai))) (aB (ad 0) ai))))
abbrev lS:Stmt:=top 36
theorem abc:ay ["record","times","time_of"] ["record","times"] (ak lS):=⟨rfl,rfl,rfl,by decide+kernel,rfl,by decide+kernel,by decide+kernel⟩
theorem xp (F:f9 K mg "broken" lS ["record","times"])(aaa:Cl P w K mg base 8 "events" 1 cQ)(aan:Cl P w K mg base 8 "bounds" 1 fB)(abb:Cl P w K mg base 1 "holds" 2 nu)(B:Bl mg):Cl P w K mg base 9 "broken" 2 lC:=
 a7 F abc rfl λf cdv A outer s H E hr xe=>(aj (aJ (vP (GT hr) rfl B.b_dict B.b_zip (af (aH aaa hr (af (ad 0) ae)) (af (ad 1) ae))) (ah 2 abc.nd)) (al (ar (fN (N':=["number","bound","time_of"]) (src:=[none,none,some 2]) rfl (LcScope.by (N:=["record","times","time_of"]) (names:=(ak lS).names) rfl rfl rfl (by decide+kernel)) (gd B.b_enumerate (af (aH aan hr (af (ad 0) ae)) ae)) (λ_ _ _ _ _=>⟨(cP rfl (aD (ah 0 (show JJ (["number","bound","time_of"]:List Str)by decide+kernel)) (aD (ah 1 (show JJ (["number","bound","time_of"]:List Str)by decide+kernel)) ca))),(kX (ci (bX (aH abb hr (af (ad 1) (af (ad 2) ae)))))),(ad 0)⟩)))))
abbrev mz:Stmt:=top 37
theorem tz:ay ["record","thing"] ["record","thing"] (ak mz):=⟨rfl,rfl,rfl,by decide+kernel,rfl,by decide+kernel,by decide+kernel⟩
theorem tS (F:f9 K mg "is_world" mz ["record","thing"])(ab1:Cl P w K mg base 9 "are_times" 2 hY)(ab8:Cl P w K mg base 9 "broken" 2 lC):Cl P w K mg base 10 "is_world" 2 gW:=
 a7 F tz rfl λf cdv A outer s H E hr xe=>(al (ar (dI (aH ab1 hr (af (ad 0) (af (ad 1) ae))) (dZ (fP (og (jf hr)) (aH ab8 hr (af (ad 0) (af (ad 1) ae))) (gq ae))))))
abbrev jn:Stmt:=top 28
theorem nW:ay ["many","thing"] ["many","thing"] (ak jn):=⟨rfl,rfl,rfl,by decide+kernel,rfl,by decide+kernel,by decide+kernel⟩
theorem ol (F:f9 K mg "need_number" jn ["many","thing"])(aa2:Cl P w K mg base 2 "is_within" 3 aY){C_NoRecord C_NoEvent C_NoNumber C_NoWorld C_ClockError:Addr}(S:Xs K mg C_NoRecord C_NoEvent C_NoNumber C_NoWorld C_ClockError):Cl P w K mg base 3 "need_number" 2 bZ:=
 a7 F nW rfl λf cdv A outer s H E hr xe=>(al (bB (ci (bX (aH aa2 hr (af (ad 1) (af ai (af (aq cK (ad 0) ai) ae)))))) (al (jN S.o_NoNumber S.m_NoNumber)) bc))
abbrev nL:Stmt:=top 55
theorem abd:ay ["record","clock","many"] ["record","clock"] (ak nL):=⟨rfl,rfl,rfl,by decide+kernel,rfl,by decide+kernel,by decide+kernel⟩
theorem zn (F:f9 K mg "spans" nL ["record","clock"])(aa3:Cl P w K mg base 7 "need_record" 1 br)(aai:Cl P w K mg base 3 "need_number" 2 bZ)(aa6:Cl P w K mg base 12 "need_world" 1 bO)(aag:Cl P w K mg base 15 "span_between" 3 cz)(B:Bl mg):Cl P w K mg base 16 "spans" 2 cI:=
 a7 F abd rfl λf cdv A outer s H E hr xe=>(by(refine @aj _ _ _ _ _ ?_ ?_;(focus exact(cO (aH aa3 hr (af (ad 0) ae))));refine @aj _ _ _ _ _ ?_ ?_;(focus exact(cO (aH aai hr (af (cx cM B.b_len KJ (af (aB (ad 0) ai) ae)) (af (ad 1) ae)))));refine @aj _ _ _ _ _ ?_ ?_;(focus exact(cO (aH aa6 hr (af (ad 0) ae))));refine @aj _ _ _ _ _ ?_ ?_;(focus exact(aJ (cx cM B.b_len KJ (af (aB (aB (aB (ad 0) ai) (ad 1)) ai) ae)) (ah 2 abd.nd)));exact al (ar (fN (N':=["k","record","clock"]) (src:=[none,some 0,some 1]) rfl (LcScope.by (N:=["record","clock","many"]) (names:=(ak nL).names) rfl rfl rfl (by decide+kernel)) (kE B.b_range (af ai (af (ad 2) ae))) (λ_ _ _ _ _=>⟨(ah 0 (show JJ (["k","record","clock"]:List Str)by decide+kernel)),bM,(aH aag hr (af (ad 1) (af (bf (af (ad 2) (af (aq cK (ad 0) ai) ae))) (af (bf (af (ad 2) (af (ad 0) ae))) ae))))⟩)))))
abbrev jl:Stmt:=top 62
theorem nU:ay ["one","other"] ["one","other"] (ak jl):=⟨rfl,rfl,rfl,by decide+kernel,rfl,by decide+kernel,by decide+kernel⟩
theorem oh (F:f9 K mg "same_worlds" jl ["one","other"])(aaa:Cl P w K mg base 8 "events" 1 cQ)(aaj:Cl P w K mg base 13 "all_most" 1 dN)(aa8:Cl P w K mg base 11 "has_world" 1 ce):Cl P w K mg base 14 "same_worlds" 2 fX:=
 a7 F nU rfl λf cdv A outer s H E hr xe=>(by(refine @aj _ _ _ _ _ ?_ ?_;(focus exact(bB (aP (jv (jf hr)) (aH aaa hr (af (ad 0) ae)) (aH aaa hr (af (ad 1) ae))) (al (ar d8)) bc));refine @aj _ _ _ _ _ ?_ ?_;(focus exact(bB (io (gG (ci (bX (aH aa8 hr (af (ad 0) ae)))) (fo (ci (bX (aH aa8 hr (af (ad 1) ae))))))) (al (ar (dI (uQ (aH aa8 hr (af (ad 0) ae))) (dZ (uQ (aH aa8 hr (af (ad 1) ae))))))) bc));exact al (ar (fP (og (jf hr)) (aH aaj hr (af (ad 0) ae)) (aH aaj hr (af (ad 1) ae))))))
abbrev gM:Stmt:=top 73
theorem nZ:ay ["_law_inner","_law_outer"] ["_law_inner","_law_outer"] (ak gM):=⟨rfl,rfl,rfl,by decide+kernel,rfl,by decide+kernel,by decide+kernel⟩
theorem oo (F:f9 K mg "_law_within" gM ["_law_inner","_law_outer"])(B:Bl mg):Cl P w K mg base 1 "_law_within" 2 bi:=
 a7 F nZ rfl λf cdv A outer s H E hr xe=>(al (ar (fP (zj (Fa hr)) d8 (fN (N':=["_law_mine","_law_yours","_law_low","_law_high"]) (src:=[none,none,none,none]) rfl (LcScope.by (N:=["_law_inner","_law_outer"]) (names:=(ak gM).names) rfl rfl rfl (by decide+kernel)) (qK B.b_zip (af (ad 0) (af (ad 1) ae))) (λ_ _ _ _ _=>⟨(cP rfl (aD (cP rfl (aD (ah 0 (show JJ (["_law_mine","_law_yours","_law_low","_law_high"]:List Str)by decide+kernel)) (aD (ah 1 (show JJ (["_law_mine","_law_yours","_law_low","_law_high"]:List Str)by decide+kernel)) ca))) (aD (cP rfl (aD (ah 2 (show JJ (["_law_mine","_law_yours","_law_low","_law_high"]:List Str)by decide+kernel)) (aD (ah 3 (show JJ (["_law_mine","_law_yours","_law_low","_law_high"]:List Str)by decide+kernel)) ca))) ca))),bM,(w6 mH mH mH (ad 2) (ad 0) (ad 1) (ad 3))⟩)))))
abbrev hW:Stmt:=top 60
theorem aaQ:ay ["record","number","letters"] ["record","number"] (ak hW):=⟨rfl,rfl,rfl,by decide+kernel,rfl,by decide+kernel,by decide+kernel⟩
theorem lu (F:f9 K mg "without_letter" hW ["record","number"])(aa3:Cl P w K mg base 7 "need_record" 1 br)(aai:Cl P w K mg base 3 "need_number" 2 bZ)(B:Bl mg):Cl P w K mg base 8 "without_letter" 2 bV:=
 a7 F aaQ rfl λf cdv A outer s H E hr xe=>(by(refine @aj _ _ _ _ _ ?_ ?_;(focus exact(cO (aH aa3 hr (af (ad 0) ae))));refine @aj _ _ _ _ _ ?_ ?_;(focus exact(aJ (aB (ad 0) ai) (ah 2 aaQ.nd)));refine @aj _ _ _ _ _ ?_ ?_;(focus exact(cO (aH aai hr (af (cx cM B.b_len KJ (af (ad 2) ae)) (af (ad 1) ae)))));exact al (ar (bf (af (aB (ad 0) ai) (af (aq aQ (iu (ad 2) ir (iq (ad 1))) (iu (ad 2) (iq (aq aQ (ad 1) ai)) ir)) ae))))))
abbrev nP:Stmt:=top 74
theorem aab:ay ["_law_script","_law_record_here","_law_row","_law_new","_law_old","_law_letter_here","_law_times","_law_told","_law_clock_here","_law_slow","_law_fast","_law_readings","_law_some","_law_bare","_law_gone","_law_number"] ["_law_script"] (ak nP):=⟨rfl,rfl,rfl,by decide+kernel,rfl,by decide+kernel,by decide+kernel⟩
theorem EE {f:Addr}{fd:KS}(abe:Fn K mg "law" nP ["_law_script"] f fd)(aaO:Cl P w K mg base 4 "_law_record" 3 fZ)(aah:Cl P w K mg base 1 "_law_events" 1 cr)(aau:Cl P w K mg base 17 "narrowed" 1 eU)(aas:Cl P w K mg base 3 "_law_drawn_world" 5 dt)(aa8:Cl P w K mg base 11 "has_world" 1 ce)(aaI:Cl P w K mg base 18 "is_narrow" 1 ff)(aaj:Cl P w K mg base 13 "all_most" 1 dN)(aaz:Cl P w K mg base 1 "_law_bounds" 1 dE)(aaV:Cl P w K mg base 1 "_law_table" 2 gy)(ab4:Cl P w K mg base 10 "is_world" 2 gW)(aaR:Cl P w K mg base 16 "spans" 2 cI)(aaP:Cl P w K mg base 14 "same_worlds" 2 fX)(aap:Cl P w K mg base 1 "_law_within" 2 bi)(aaB:Cl P w K mg base 8 "without_letter" 2 bV)(B:Bl mg):Fz P w K mg base 19 f fd ["_law_script"] 1 m_law:=
 vR abe.fn aab rfl λcdv A outer s H E hr xe=>(by(refine @aj _ _ _ _ _ ?_ ?_;(focus exact(aJ (aH aaO hr (af (ad 0) (af ai (af ai ae)))) (ah 1 aab.nd)));refine @aj _ _ _ _ _ ?_ ?_;(focus exact(bB (ci (bX (aH aa8 hr (af (ad 1) ae)))) (al (ar d8)) bc));refine @aj _ _ _ _ _ ?_ ?_;(focus exact(aJ (aH aah hr (af (aB (ad 1) ai) ae)) (ah 2 aab.nd)));refine @aj _ _ _ _ _ ?_ ?_;(focus exact(aJ (aH aau hr (af (ad 1) ae)) (ah 3 aab.nd)));refine @aj _ _ _ _ _ ?_ ?_;(focus exact(bB (io (gG (ci (bX (aH aaP hr (af (ad 1) (af (ad 3) ae))))) (fo (ci (bX (aH aaI hr (af (ad 3) ae))))))) (al (ar d8)) bc));refine @aj _ _ _ _ _ ?_ ?_;(focus exact(bB (aP (jv (jf hr)) (aH aaI hr (af (ad 1) ae)) (fP (og (jf hr)) (ad 3) (ad 1))) (al (ar d8)) bc));refine @aj _ _ _ _ _ ?_ ?_;(focus exact(bB (aP (jv (jf hr)) (aH aaj hr (af (ad 3) ae)) (aH aaj hr (af (ad 1) ae))) (al (ar d8)) bc));refine @aj _ _ _ _ _ ?_ ?_;(focus exact(bY rfl (qK B.b_zip (af (aB (ad 1) ai) (af (aB (ad 3) ai) ae))) (cP rfl (aD (ah 4 aab.nd) (aD (ah 5 aab.nd) ca))) (aj (bB (io (gG (aP (jv (jf hr)) (iu (ad 5) ir (iq ai)) (iu (ad 4) ir (iq ai))) (fo (aP n9 (aB (ad 5) ai) (aB (ad 4) ai))))) (al (ar d8)) bc) (al (bB (io (vM (aP fz (aB (ad 4) ai) bS) (sK (io (gG (aP lr (aB (ad 5) ai) bS) (fo (aP C5 (aB (ad 5) ai) (aB (ad 4) ai)))))))) (al (ar d8)) bc)))));refine @aj _ _ _ _ _ ?_ ?_;(focus exact(aJ (aH aas hr (af (ad 0) (af ai (af (ad 2) (af (aH aaz hr (af (ad 1) ae)) (af (aH aaV hr (af (ad 2) (af (aH aaz hr (af (ad 1) ae)) ae))) ae)))))) (ah 6 aab.nd)));refine @aj _ _ _ _ _ ?_ ?_;(focus exact(bB (ci (bX (aH ab4 hr (af (ad 1) (af (ad 6) ae))))) (al (ar d8)) bc));refine @aj _ _ _ _ _ ?_ ?_;(focus exact(aJ (vP (GT hr) rfl B.b_dict B.b_zip (af (ad 2) (af (ad 6) ae))) (ah 7 aab.nd)));refine @aj _ _ _ _ _ ?_ ?_;(focus exact(bY rfl (gd B.b_enumerate (af (aB (ad 1) ai) ae)) (cP rfl (aD (ah 8 aab.nd) (aD (cP rfl (aD (ah 9 aab.nd) (aD (ah 10 aab.nd) (aD (ah 11 aab.nd) ca)))) ca))) (by(refine @aj _ _ _ _ _ ?_ ?_;(focus exact(aJ (aH aaR hr (af (ad 1) (af (ad 8) ae))) (ah 12 aab.nd)));refine @aj _ _ _ _ _ ?_ ?_;(focus exact(uP 13 (N':=["_law_here","_law_later","_law_slow","_law_fast"]) (src:=[none,none,some 9,some 10]) rfl (LcScope.by (N:=["_law_script","_law_record_here","_law_row","_law_new","_law_old","_law_letter_here","_law_times","_law_told","_law_clock_here","_law_slow","_law_fast","_law_readings","_law_some","_law_bare","_law_gone","_law_number"]) (names:=(ak nP).names) rfl rfl rfl (by decide+kernel)) (qK B.b_zip (af (ad 11) (af (iu (ad 11) (iq ai) ir) ae))) (λ_ _ _ _ _=>⟨(cP rfl (aD (ah 0 (show JJ (["_law_here","_law_later","_law_slow","_law_fast"]:List Str)by decide+kernel)) (aD (ah 1 (show JJ (["_law_here","_law_later","_law_slow","_law_fast"]:List Str)by decide+kernel)) ca))),bM,(bf (af (aq dn (aq cK (ad 1) (ad 0)) (ad 2)) (af (aq dn (aq cK (ad 1) (ad 0)) (ad 3)) ae)))⟩) aab.nd));refine @aj _ _ _ _ _ ?_ ?_;(focus exact(bB (io (gG (aP (jv (jf hr)) (cx cM B.b_len KJ (af (ad 12) ae)) (cx cM B.b_len KJ (af (ad 13) ae))) (fo (ci (bX (aH aap hr (af (ad 12) (af (ad 13) ae)))))))) (al (ar d8)) bc));refine @aj _ _ _ _ _ ?_ ?_;(focus exact(bB (aP (jv (jf hr)) (aH aaR hr (af (bf (af (aB (ad 1) ai) (af (bf ae) ae))) (af (ad 8) ae))) (ad 13)) (al (ar d8)) bc));refine @aj _ _ _ _ _ ?_ ?_;(focus exact(bB (aP (jv (jf hr)) (aH aaR hr (af (ad 3) (af (ad 8) ae))) (ad 12)) (al (ar d8)) bc));refine @aj _ _ _ _ _ ?_ ?_;(focus exact(uP 14 (N':=["_law_place","_law_told","_law_clock_here"]) (src:=[none,some 7,some 8]) rfl (LcScope.by (N:=["_law_script","_law_record_here","_law_row","_law_new","_law_old","_law_letter_here","_law_times","_law_told","_law_clock_here","_law_slow","_law_fast","_law_readings","_law_some","_law_bare","_law_gone","_law_number"]) (names:=(ak nP).names) rfl rfl rfl (by decide+kernel)) (kE B.b_range (af ai (af (cx cM B.b_len KJ (af (ad 11) ae)) ae))) (λ_ _ _ _ _=>⟨(ah 0 (show JJ (["_law_place","_law_told","_law_clock_here"]:List Str)by decide+kernel)),bM,(aq cK (bo (im hr) (ad 1) (bf (af (ad 2) (af (ad 0) ae)))) (bo (im hr) (ad 1) (bf (af (ad 2) (af (aq cK (ad 0) ai) ae)))))⟩) aab.nd));refine @aj _ _ _ _ _ ?_ ?_;(focus exact(bB (ci (bX (aH aap hr (af (fN (N':=["_law_long"]) (src:=[none]) rfl (LcScope.by (N:=["_law_script","_law_record_here","_law_row","_law_new","_law_old","_law_letter_here","_law_times","_law_told","_law_clock_here","_law_slow","_law_fast","_law_readings","_law_some","_law_bare","_law_gone","_law_number"]) (names:=(ak nP).names) rfl rfl rfl (by decide+kernel)) (bP (ad 14)) (λ_ _ _ _ _=>⟨(ah 0 (show JJ (["_law_long"]:List Str)by decide+kernel)),bM,(bf (af (ad 0) (af (ad 0) ae)))⟩)) (af (ad 12) ae))))) (al (ar d8)) bc));exact al (bY rfl (dH B.b_range (af (cx cM B.b_len KJ (af (aB (ad 1) ai) ae)) ae)) (ah 15 aab.nd) (al (bB (ci (bX (aH aap hr (af (ad 12) (af (aH aaR hr (af (aH aaB hr (af (ad 1) (af (ad 15) ae))) (af (ad 8) ae))) ae))))) (al (ar d8)) bc)))))));exact al (ar d8)))
end
@[elab_as_elim] theorem fO {α:Type} {p:List α->Prop} (h:∀a0,p [a0]):∀us:List α,us.length=1->p us
 | [a0],_=>h a0
@[elab_as_elim] theorem dG {α:Type} {p:List α->Prop} (h:∀a0 a1,p [a0,a1]):∀us:List α,us.length=2->p us
 | [a0,a1],_=>h a0 a1
@[elab_as_elim] theorem kA {α:Type} {p:List α->Prop} (h:∀a0 a1 a2,p [a0,a1,a2]):∀us:List α,us.length=3->p us
 | [a0,a1,a2],_=>h a0 a1 a2
@[elab_as_elim] theorem GD {α:Type} {p:List α->Prop} (h:∀a0 a1 a2 a3 a4,p [a0,a1,a2,a3,a4]):∀us:List α,us.length=5->p us
 | [a0,a1,a2,a3,a4],_=>h a0 a1 a2 a3 a4
def asks:yb:=⟨([("_law_cell",64),("_law_drawn",65),("_law_events",68),("_law_letter",67),("_law_clock",66),("_law_record",69),("is_long",15),("is_whole",13),("is_within",14),("is_pace",18),("rises",16),("are_readings",17),("is_clock",19),("are_clocks",20),("is_event",21)]:List (Str×Nat))++([("is_delay",22),("is_letter",23),("are_letters",24),("is_record",25),("need_record",26),("events",29),("is_better",40),("settle",39),("greatest_world",42),("bounds_of_clock",31),("bounds_of_letter",32),("bounds",33),("world",43),("has_world",44),("need_world",45)]:List (Str×Nat))++([("need_event",27),("need_events",47),("most_of",49),("walks_from",48),("most_between",50),("least_between",51),("span_between",54),("narrowed_letter",56),("narrowed",57),("_law_drawn_world",72),("is_narrow",58),("all_most",52),("_law_bounds",70),("_law_table",71),("are_times",34)]:List (Str×Nat))++([("holds",35),("broken",36),("is_world",37),("need_number",28),("spans",55),("same_worlds",62),("_law_within",73),("without_letter",60),("law",74)]:List (Str×Nat)),(["all","bool","dict","enumerate","int","isinstance","len","max","min","range","tuple","zip"]:List Str),[("MOST_CLOCKS",4),("MOST_LETTERS",8),("MOST_READINGS",4),("LAST_READING",99),("SLOWEST",9),("LONGEST",999)],["ClockError","NoRecord","NoEvent","NoNumber","NoWorld"]⟩
theorem all_ok {l:PySem.W.OpenLaw}{w:Kr}{K:IX}{h:Heap}{mg:Str->Option Je}{fa:Addr}(X:K.In h)(e:pR asks K=pw asks top)(G:h.Ns J7 mg)(hfa:mg "law" =some (.ref fa)) :
  ∃fd:KS,(∀(s:Jf) (v:Je),Pu s fd ⟨[v],[]⟩ [("_law_script",v)])/\∀base:Heap,K.In base->base.Ns J7 mg->sG l.prog w K mg base CX0 19 fa fd ["_law_script"] (spP K 1 m_law):=by
 have B:Bl mg:=⟨gv 0 X G e rfl,gv 1 X G e rfl,gv 2 X G e rfl,gv 3 X G e rfl,gv 4 X G e rfl,gv 5 X G e rfl,gv 6 X G e rfl,gv 7 X G e rfl,gv 8 X G e rfl,gv 9 X G e rfl,gv 10 X G e rfl,gv 11 X G e rfl⟩
 have C:Cs mg:=⟨qi 0 X G e rfl,qi 1 X G e rfl,qi 2 X G e rfl,qi 3 X G e rfl,qi 4 X G e rfl,qi 5 X G e rfl⟩;obtain⟨C_ClockError,ls,xD,xl,nd⟩:=EF (GP e);obtain⟨C_NoRecord,ls0,x_NoRecord,rfl,xl0⟩:=j7 xl;obtain⟨C_NoEvent,ls1,x_NoEvent,rfl,xl1⟩:=j7 xl0;obtain⟨C_NoNumber,ls2,x_NoNumber,rfl,xl2⟩:=j7 xl1;obtain⟨C_NoWorld,ls3,x_NoWorld,rfl,xl3⟩:=j7 xl2;cases AQ xl3
 have S:Xs K mg C_NoRecord C_NoEvent C_NoNumber C_NoWorld C_ClockError:=⟨MN X G (jw x_NoRecord).1,MN X G (jw x_NoEvent).1,MN X G (jw x_NoNumber).1,MN X G (jw x_NoWorld).1,MN X G (jw xD).1,Hq x_NoRecord xD,Hq x_NoEvent xD,Hq x_NoNumber xD,Hq x_NoWorld xD,ox0 xD,nd⟩
 have gp:=cg (n:="_law_cell") (i:=64) (ps:=["_law_script","_law_k"]) 0 X G e rfl λ_ _ _ _ _ _ us hl=>dG (λ_ _=>rfl) us hl
 have fJ:=cg (n:="_law_drawn") (i:=65) (ps:=["_law_script","_law_k","_law_many"]) 1 X G e rfl λ_ _ _ _ _ _ us hl=>kA (λ_ _ _=>rfl) us hl
 have gc:=cg (n:="_law_events") (i:=68) (ps:=["_law_clocks"]) 2 X G e rfl λ_ _ _ _ _ _ us hl=>fO (λ_=>rfl) us hl
 have db:=cg (n:="_law_letter") (i:=67) (ps:=["_law_script","_law_at","_law_clocks"]) 3 X G e rfl λ_ _ _ _ _ _ us hl=>kA (λ_ _ _=>rfl) us hl
 have fK:=cg (n:="_law_clock") (i:=66) (ps:=["_law_script","_law_at"]) 4 X G e rfl λ_ _ _ _ _ _ us hl=>dG (λ_ _=>rfl) us hl
 have eI:=cg (n:="_law_record") (i:=69) (ps:=["_law_script","_law_at","_law_most"]) 5 X G e rfl λ_ _ _ _ _ _ us hl=>kA (λ_ _ _=>rfl) us hl
 have j8:=cg (n:="is_long") (i:=15) (ps:=["thing","least","most"]) 6 X G e rfl λ_ _ _ _ _ _ us hl=>kA (λ_ _ _=>rfl) us hl
 have kW:=cg (n:="is_whole") (i:=13) (ps:=["thing"]) 7 X G e rfl λ_ _ _ _ _ _ us hl=>fO (λ_=>rfl) us hl
 have gk:=cg (n:="is_within") (i:=14) (ps:=["thing","least","most"]) 8 X G e rfl λ_ _ _ _ _ _ us hl=>kA (λ_ _ _=>rfl) us hl
 have iH:=cg (n:="is_pace") (i:=18) (ps:=["slow","fast"]) 9 X G e rfl λ_ _ _ _ _ _ us hl=>dG (λ_ _=>rfl) us hl
 have nH:=cg (n:="rises") (i:=16) (ps:=["numbers"]) 10 X G e rfl λ_ _ _ _ _ _ us hl=>fO (λ_=>rfl) us hl
 have dj:=cg (n:="are_readings") (i:=17) (ps:=["thing"]) 11 X G e rfl λ_ _ _ _ _ _ us hl=>fO (λ_=>rfl) us hl
 have fV:=cg (n:="is_clock") (i:=19) (ps:=["thing"]) 12 X G e rfl λ_ _ _ _ _ _ us hl=>fO (λ_=>rfl) us hl
 have fH:=cg (n:="are_clocks") (i:=20) (ps:=["thing"]) 13 X G e rfl λ_ _ _ _ _ _ us hl=>fO (λ_=>rfl) us hl
 have fT:=cg (n:="is_event") (i:=21) (ps:=["clocks","thing"]) 14 X G e rfl λ_ _ _ _ _ _ us hl=>dG (λ_ _=>rfl) us hl
 have fU:=cg (n:="is_delay") (i:=22) (ps:=["least","most"]) 15 X G e rfl λ_ _ _ _ _ _ us hl=>dG (λ_ _=>rfl) us hl
 have dm:=cg (n:="is_letter") (i:=23) (ps:=["clocks","thing"]) 16 X G e rfl λ_ _ _ _ _ _ us hl=>dG (λ_ _=>rfl) us hl
 have eF:=cg (n:="are_letters") (i:=24) (ps:=["clocks","thing"]) 17 X G e rfl λ_ _ _ _ _ _ us hl=>dG (λ_ _=>rfl) us hl
 have fh:=cg (n:="is_record") (i:=25) (ps:=["thing"]) 18 X G e rfl λ_ _ _ _ _ _ us hl=>fO (λ_=>rfl) us hl
 have eC:=cg (n:="need_record") (i:=26) (ps:=["thing"]) 19 X G e rfl λ_ _ _ _ _ _ us hl=>fO (λ_=>rfl) us hl
 have jK:=cg (n:="events") (i:=29) (ps:=["record"]) 20 X G e rfl λ_ _ _ _ _ _ us hl=>fO (λ_=>rfl) us hl
 have gm:=cg (n:="is_better") (i:=40) (ps:=["best","bound","ahead"]) 21 X G e rfl λ_ _ _ _ _ _ us hl=>kA (λ_ _ _=>rfl) us hl
 have g9:=cg (n:="settle") (i:=39) (ps:=["limits","starts"]) 22 X G e rfl λ_ _ _ _ _ _ us hl=>dG (λ_ _=>rfl) us hl
 have di:=cg (n:="greatest_world") (i:=42) (ps:=["record","limits"]) 23 X G e rfl λ_ _ _ _ _ _ us hl=>dG (λ_ _=>rfl) us hl
 have cW:=cg (n:="bounds_of_clock") (i:=31) (ps:=["number","clock"]) 24 X G e rfl λ_ _ _ _ _ _ us hl=>dG (λ_ _=>rfl) us hl
 have cE:=cg (n:="bounds_of_letter") (i:=32) (ps:=["letter"]) 25 X G e rfl λ_ _ _ _ _ _ us hl=>fO (λ_=>rfl) us hl
 have jM:=cg (n:="bounds") (i:=33) (ps:=["record"]) 26 X G e rfl λ_ _ _ _ _ _ us hl=>fO (λ_=>rfl) us hl
 have sH:=cg (n:="world") (i:=43) (ps:=["record"]) 27 X G e rfl λ_ _ _ _ _ _ us hl=>fO (λ_=>rfl) us hl
 have jJ:=cg (n:="has_world") (i:=44) (ps:=["record"]) 28 X G e rfl λ_ _ _ _ _ _ us hl=>fO (λ_=>rfl) us hl
 have fF:=cg (n:="need_world") (i:=45) (ps:=["record"]) 29 X G e rfl λ_ _ _ _ _ _ us hl=>fO (λ_=>rfl) us hl
 have fG:=cg (n:="need_event") (i:=27) (ps:=["record","thing"]) 30 X G e rfl λ_ _ _ _ _ _ us hl=>dG (λ_ _=>rfl) us hl
 have eE:=cg (n:="need_events") (i:=47) (ps:=["record","one","other"]) 31 X G e rfl λ_ _ _ _ _ _ us hl=>kA (λ_ _ _=>rfl) us hl
 have mr:=cg (n:="most_of") (i:=49) (ps:=["walks","other"]) 32 X G e rfl λ_ _ _ _ _ _ us hl=>dG (λ_ _=>rfl) us hl
 have iY:=cg (n:="walks_from") (i:=48) (ps:=["record","one"]) 33 X G e rfl λ_ _ _ _ _ _ us hl=>dG (λ_ _=>rfl) us hl
 have dQ:=cg (n:="most_between") (i:=50) (ps:=["record","one","other"]) 34 X G e rfl λ_ _ _ _ _ _ us hl=>kA (λ_ _ _=>rfl) us hl
 have dB:=cg (n:="least_between") (i:=51) (ps:=["record","one","other"]) 35 X G e rfl λ_ _ _ _ _ _ us hl=>kA (λ_ _ _=>rfl) us hl
 have dP:=cg (n:="span_between") (i:=54) (ps:=["record","one","other"]) 36 X G e rfl λ_ _ _ _ _ _ us hl=>kA (λ_ _ _=>rfl) us hl
 have cV:=cg (n:="narrowed_letter") (i:=56) (ps:=["record","letter"]) 37 X G e rfl λ_ _ _ _ _ _ us hl=>dG (λ_ _=>rfl) us hl
 have hG:=cg (n:="narrowed") (i:=57) (ps:=["record"]) 38 X G e rfl λ_ _ _ _ _ _ us hl=>fO (λ_=>rfl) us hl
 have cF:=cg (n:="_law_drawn_world") (i:=72) (ps:=["_law_script","_law_at","_law_places","_law_row","_law_table_here"]) 39 X G e rfl λ_ _ _ _ _ _ us hl=>GD (λ_ _ _ _ _=>rfl) us hl
 have jI:=cg (n:="is_narrow") (i:=58) (ps:=["record"]) 40 X G e rfl λ_ _ _ _ _ _ us hl=>fO (λ_=>rfl) us hl
 have hU:=cg (n:="all_most") (i:=52) (ps:=["record"]) 41 X G e rfl λ_ _ _ _ _ _ us hl=>fO (λ_=>rfl) us hl
 have eJ:=cg (n:="_law_bounds") (i:=70) (ps:=["_law_record_here"]) 42 X G e rfl λ_ _ _ _ _ _ us hl=>fO (λ_=>rfl) us hl
 have fI:=cg (n:="_law_table") (i:=71) (ps:=["_law_places","_law_row"]) 43 X G e rfl λ_ _ _ _ _ _ us hl=>dG (λ_ _=>rfl) us hl
 have gn:=cg (n:="are_times") (i:=34) (ps:=["record","thing"]) 44 X G e rfl λ_ _ _ _ _ _ us hl=>dG (λ_ _=>rfl) us hl
 have sI:=cg (n:="holds") (i:=35) (ps:=["bound","time_of"]) 45 X G e rfl λ_ _ _ _ _ _ us hl=>dG (λ_ _=>rfl) us hl
 have jL:=cg (n:="broken") (i:=36) (ps:=["record","times"]) 46 X G e rfl λ_ _ _ _ _ _ us hl=>dG (λ_ _=>rfl) us hl
 have kU:=cg (n:="is_world") (i:=37) (ps:=["record","thing"]) 47 X G e rfl λ_ _ _ _ _ _ us hl=>dG (λ_ _=>rfl) us hl
 have da:=cg (n:="need_number") (i:=28) (ps:=["many","thing"]) 48 X G e rfl λ_ _ _ _ _ _ us hl=>dG (λ_ _=>rfl) us hl
 have lP:=cg (n:="spans") (i:=55) (ps:=["record","clock"]) 49 X G e rfl λ_ _ _ _ _ _ us hl=>dG (λ_ _=>rfl) us hl
 have ef:=cg (n:="same_worlds") (i:=62) (ps:=["one","other"]) 50 X G e rfl λ_ _ _ _ _ _ us hl=>dG (λ_ _=>rfl) us hl
 have eG:=cg (n:="_law_within") (i:=73) (ps:=["_law_inner","_law_outer"]) 51 X G e rfl λ_ _ _ _ _ _ us hl=>dG (λ_ _=>rfl) us hl
 have dh:=cg (n:="without_letter") (i:=60) (ps:=["record","number"]) 52 X G e rfl λ_ _ _ _ _ _ us hl=>dG (λ_ _=>rfl) us hl
 obtain⟨fd53,abe,bnd⟩:=GL (n:="law") (i:=74) (x:="_law_script") 53 X G e rfl hfa λ_ _ _ _ _ _ _=>rfl
 refine⟨fd53,bnd,λbase _ _=> ?_⟩
 have aaX:=rJ (P:=l.prog) (w:=w) (base:=base) gp B
 have aa0:=pP (P:=l.prog) (w:=w) (base:=base) fJ aaX
 have aah:=ox (P:=l.prog) (w:=w) (base:=base) gc B
 have aaL:=ou (P:=l.prog) (w:=w) (base:=base) db aah aa0 B
 have aaS:=pQ (P:=l.prog) (w:=w) (base:=base) fK aa0 B
 have aaO:=oq (P:=l.prog) (w:=w) (base:=base) eI aa0 aaL aaS B
 have aa1:=vh (P:=l.prog) (w:=w) (base:=base) j8 B
 have aat:=tT (P:=l.prog) (w:=w) (base:=base) kW B
 have aa2:=rA (P:=l.prog) (w:=w) (base:=base) gk aat
 have ab5:=vg (P:=l.prog) (w:=w) (base:=base) iH aa2 C
 have ab9:=zo (P:=l.prog) (w:=w) (base:=base) nH B
 have aaG:=mZ (P:=l.prog) (w:=w) (base:=base) dj aa1 ab9 aa2 B C
 have ab2:=tW (P:=l.prog) (w:=w) (base:=base) fV aa1 ab5 aaG
 have aaT:=pM (P:=l.prog) (w:=w) (base:=base) fH aa1 ab2 B C
 have aam:=tU (P:=l.prog) (w:=w) (base:=base) fT aa2 aa1 B
 have ab3:=tV (P:=l.prog) (w:=w) (base:=base) fU aa2 C
 have aaY:=rE (P:=l.prog) (w:=w) (base:=base) dm aam aa1 ab3
 have aaM:=on (P:=l.prog) (w:=w) (base:=base) eF aa1 aaY B C
 have aaZ:=rB (P:=l.prog) (w:=w) (base:=base) fh aa1 aaT aaM
 have aa3:=oj (P:=l.prog) (w:=w) (base:=base) eC aaZ S
 have aaa:=xo (P:=l.prog) (w:=w) (base:=base) jK aa3 B
 have ab0:=rF (P:=l.prog) (w:=w) (base:=base) gm
 have aaH:=xn (P:=l.prog) (w:=w) (base:=base) g9 ab0 B
 have aaA:=lv (P:=l.prog) (w:=w) (base:=base) di aaa aaH B
 have aaw:=kJ (P:=l.prog) (w:=w) (base:=base) cW B
 have aaq:=j9 (P:=l.prog) (w:=w) (base:=base) cE
 have aan:=xq (P:=l.prog) (w:=w) (base:=base) jM aa3 aaw aaq B
 have aba:=zl (P:=l.prog) (w:=w) (base:=base) sH aaA aan
 have aa8:=rG (P:=l.prog) (w:=w) (base:=base) jJ aba
 have aa6:=pK (P:=l.prog) (w:=w) (base:=base) fF aa8 S
 have aaD:=pL (P:=l.prog) (w:=w) (base:=base) fG aam S
 have aaN:=om (P:=l.prog) (w:=w) (base:=base) eE aa3 aaD
 have aaC:=vf (P:=l.prog) (w:=w) (base:=base) mr
 have aal:=pJ (P:=l.prog) (w:=w) (base:=base) iY aaH aan
 have aaf:=mY (P:=l.prog) (w:=w) (base:=base) dQ aaN aa6 aaC aal
 have aaE:=lU (P:=l.prog) (w:=w) (base:=base) dB aaf
 have aag:=mX (P:=l.prog) (w:=w) (base:=base) dP aaE aaf
 have aax:=kI (P:=l.prog) (w:=w) (base:=base) cV aag B C
 have aau:=tR (P:=l.prog) (w:=w) (base:=base) hG aa6 aax B
 have aas:=kc (P:=l.prog) (w:=w) (base:=base) cF aa0 B
 have aaI:=rC (P:=l.prog) (w:=w) (base:=base) jI aau
 have aaj:=tX (P:=l.prog) (w:=w) (base:=base) hU aa6 aaa aal aaC B
 have aaz:=oy (P:=l.prog) (w:=w) (base:=base) eJ B
 have aaV:=pO (P:=l.prog) (w:=w) (base:=base) fI B
 have ab1:=rH (P:=l.prog) (w:=w) (base:=base) gn aaa aa1 aat B
 have abb:=zp (P:=l.prog) (w:=w) (base:=base) sI
 have ab8:=xp (P:=l.prog) (w:=w) (base:=base) jL aaa aan abb B
 have ab4:=tS (P:=l.prog) (w:=w) (base:=base) kU ab1 ab8
 have aai:=ol (P:=l.prog) (w:=w) (base:=base) da aa2 S
 have aaR:=zn (P:=l.prog) (w:=w) (base:=base) lP aa3 aai aa6 aag B
 have aaP:=oh (P:=l.prog) (w:=w) (base:=base) ef aaa aaj aa8
 have aap:=oo (P:=l.prog) (w:=w) (base:=base) eG B
 have aaB:=lu (P:=l.prog) (w:=w) (base:=base) dh aa3 aai B;exact(EE (P:=l.prog) (w:=w) (base:=base) abe aaO aah aau aas aa8 aaI aaj aaz aaV ab4 aaR aaP aap aaB B).h
def vw:JI:=PySem.W.view PySem.Challenge.pw_farclocks_k54_whole_spans [74]
def lse:List Str:=(["ClockError","NoRecord","NoEvent","NoNumber","NoWorld","MOST_CLOCKS","MOST_LETTERS","MOST_READINGS","LAST_READING","SLOWEST","LONGEST","is_whole","is_within","is_long","rises","are_readings","is_pace","is_clock","are_clocks","is_event"]:List Str)++(["is_delay","is_letter","are_letters","is_record","need_record","need_event","need_number","events","bounds_of_clock","bounds_of_letter","bounds","are_times","holds","broken","is_world","settle","is_better","greatest_world","world","has_world"]:List Str)++(["need_world","need_events","walks_from","most_of","most_between","least_between","all_most","span_between","spans","narrowed_letter","narrowed","is_narrow","without_letter","same_worlds","_law_cell","_law_drawn","_law_clock","_law_letter","_law_events","_law_record"]:List Str)++(["_law_bounds","_law_table","_law_drawn_world","_law_within"]:List Str)
def lhs (w:Kr)(h:Heap)(d:Drawn)(t:Nat)(os:OsState):=(PySem.W.topFrom treeTable PySem.Challenge.pw_farclocks_k54_whole_spans w 9000 ⟨h,⟨[]⟩,d,t,os⟩).map (λs=>(PySem.W.openSeen vw lse (Qp PySem.Challenge.pw_farclocks_k54_whole_spans.main.body) (λ_=>true) true s,pR asks (Am s.heap)))
def rhs (w:Kr):=some (PySem.W.openGood vw lse,pw asks top)
theorem lhs_r:lhs=lhs:=rfl
theorem rhs_r:rhs=rhs:=rfl
end G
namespace Tr
open PySem
mutual
def T.pl:T->Bool
 | .scr _=>false
 | .dct _ _=>false
 | .tup l=>plS l
 | .lst l=>plS l
 | _=>true
def plS:List T->Bool
 | [] =>true
 | t::l=>t.pl&&plS l
end
theorem jR:∀{l:List T} {t:T},plS l=true->t∈l->t.pl=true
 | [],_,_,h=>by cases h
 | u::l,t,h,m=>by
  unfold plS at h;rw[Jc]at h;rcases Jh.mp m with rfl | m
  ·exact h.1
  ·exact jR h.2 m
mutual
theorem T.HJ:∀(t:T),t.pl=true->t.nd=true
 | .non,_=>rfl
 | .bl _,_=>rfl
 | .int _,_=>rfl
 | .str _,_=>rfl
 | .scr _,h=>by cases h
 | .dct _ _,h=>by cases h
 | .tup l,h=>by unfold T.pl at h;unfold T.nd;exact plS_nds l h
 | .lst l,h=>by unfold T.pl at h;unfold T.nd;exact plS_nds l h
theorem plS_nds:∀(l:List T),plS l=true->nds l=true
 | [],_=>rfl
 | t::l,h=>by
  unfold plS at h;rw[Jc]at h;unfold nds;rw[T.HJ t h.1,plS_nds l h.2];rfl
end
theorem vo {fe:En->Rs T}{h:T->T}:∀(ts:List T) (Z:En),0<Z.length->(∀t∈ts,fe (Z.set 0 (.va t))= .ok (h t))->dF (gN 0) bT fe ts Z= .ok (ts.map h)
 | [],_,_,_=>rfl
 | t::r,Z,hl,hf=>by
  unfold dF
  have e1:gN 0 t Z= .ok (Z.set 0 (.va t)):=by unfold gN;rw[if_pos hl]
  have ih:=vo r (Z.set 0 (.va t)) (by rw[Kp];exact hl) (λu hu=>by rw[PD];exact hf u (IZ _ hu))
  simp only[e1,az,bT,if_true,hf t Ja,ih,Jb]
theorem qg {fc:En->Rs Bool}{fe:En->Rs T}{p:T->Bool}{h:T->T}:∀(ts:List T) (Z:En),0<Z.length->(∀t∈ts,fc (Z.set 0 (.va t))= .ok (p t)/\(p t=true->fe (Z.set 0 (.va t))= .ok (h t)))->dF (gN 0) fc fe ts Z= .ok ((ts.filter p).map h)
 | [],_,_,_=>rfl
 | t::r,Z,hl,hf=>by
  unfold dF
  have e1:gN 0 t Z= .ok (Z.set 0 (.va t)):=by unfold gN;rw[if_pos hl]
  have ih:=qg r (Z.set 0 (.va t)) (by rw[Kp];exact hl) (λu hu=>by rw[PD];exact hf u (IZ _ hu))
  obtain⟨h1,h2⟩:=hf t Ja;simp only[e1,az,h1]
  cases q:p t with
  | true=>simp only[if_true,h2 q,az,ih,PY,q,Jb]
  | false=>simp only[KQ,if_false,ih,PY,q]
theorem qA (p:T->Bool):∀l:List T,o6 (l.map λt=>T.bl (p t))=some (l.map p)
 | [] =>rfl
 | t::l=>by rw[Jb,o6,qA p l];rfl
theorem all_map (p:T->Bool)(l:List T):pf [.lst (l.map λt=>T.bl (p t))] = .ok (.bl (l.all p)):=by
 simp only[pf,qA,List.all_map]
 rfl
theorem kR {α:Type}{l:List α}{k:Nat}{t:α}(h:l[k]? =some t):L2.atI l (k:Int)=some t:=by
 have hk:k<l.length:=(Ju.mp h).1
 unfold L2.atI L2.ixN;rw[if_pos (by omega),if_pos (by omega),Ke]
 exact h
theorem ax {n k:Nat}(h:n<=k)(hk:k<=1000:=by decide):n<=sizeLine:=by unfold sizeLine;omega
section
variable {f fa fb fc:En->Rs T}{fs:En->Rs (List T)}{b c:En->Rs Bool}{F G:En->Rs Fl}{Z Z' Z1 Z2:En}{t u r:T}{ts l m:List T}
theorem aA {g:T->T->Rs T}{x:Rs T}(ha:fa Z= .ok t)(hb:fb Z= .ok u)(hg:g t u=x):o2 g fa fb Z=x:=by unfold o2;rw[ha,hb];exact hg
theorem k_o1 {g:T->Rs T}{x:Rs T}(ha:fa Z= .ok t)(hg:g t=x):o1 g fa Z=x:=by unfold o1;rw[ha];exact hg
theorem GJ {g:T->T->Rs T}{x:Rs T}{ks vs:List T}(ha:fa Z= .ok (.dct ks vs))(hb:fb Z= .ok u)(hg:g (.dct ks vs) u=x):oD g fa fb Z=x:=by unfold oD;rw[ha];show(fb Z >>= g (.dct ks vs))=_;rw[hb];exact hg
theorem k_oL {g:T->T->Rs T}{x:Rs T}{ks:List T}(ha:fa Z= .ok (.lst ks))(hb:fb Z= .ok u)(hg:g (.lst ks) u=x):oL g fa fb Z=x:=by unfold oL;rw[ha];show(fb Z >>= g (.lst ks))=_;rw[hb];exact hg
theorem ao (h:f Z= .ok t)(hs:fs Z= .ok ts):ac f fs Z= .ok (t::ts):=by unfold ac;rw[h,hs];rfl
theorem aK {g:List T->Rs T}{x:Rs T}(h:fs Z= .ok ts)(hg:g ts=x):cl g fs Z=x:=by unfold cl;rw[h];exact hg
theorem bw {k:Bool}(h:f Z= .ok (.bl k)):tb f Z= .ok k:=by unfold tb;rw[h];rfl
theorem gh {k:Bool}(h:b Z= .ok k):cL b Z= .ok (!k):=by unfold cL;rw[h];rfl
theorem zV (h:b Z= .ok true):je b c Z= .ok true:=by unfold je;rw[h];rfl
theorem lD {x:Rs Bool}(h:b Z= .ok false)(h2:c Z=x):je b c Z=x:=by unfold je;rw[h];exact h2
theorem Aa (h:b Z= .ok false):o9 b c Z= .ok false:=by unfold o9;rw[h];rfl
theorem vq {x:Rs Bool}(h:b Z= .ok true)(h2:c Z=x):o9 b c Z=x:=by unfold o9;rw[h];exact h2
theorem z9 (h:fa Z= .ok (.bl true)):cD fa fb Z=fb Z:=by unfold cD;rw[h];rfl
theorem Ce (h:fa Z= .ok (.bl false)):cD fa fb Z= .ok (.bl false):=by unfold cD;rw[h];rfl
theorem Cd {p q:Bool}(h:fa Z= .ok (.bl p))(h2:p=true->fb Z= .ok (.bl q)):cD fa fb Z= .ok (.bl (p&&q)):=by
 cases p with
 | true=>rw[z9 h,h2 rfl];rfl
 | false=>rw[Ce h];rfl
theorem EU (h:fa Z= .ok (.bl true)):AZ fa fb Z= .ok (.bl true):=by unfold AZ;rw[h];rfl
theorem EV (h:fa Z= .ok (.bl false)):AZ fa fb Z=fb Z:=by unfold AZ;rw[h];rfl
theorem ja {p:Bool}(h:b Z= .ok p):pj b fa fb Z=if p then fa Z else fb Z:=by unfold pj;rw[h];rfl
theorem cp {g:T->En->Rs En}(h:f Z= .ok t)(hg:g t Z= .ok Z'):cX f g Z= .ok (.nx Z'):=by unfold cX;rw[h];show(match g t Z with | .ok Z'=>Rs.ok (Fl.nx Z') | _=> .bad)=_;rw[hg]
theorem aw (h:F Z= .ok (.nx Z')):au F G Z=G Z':=by unfold au;rw[h];rfl
theorem l8 (h:F Z= .ok (.rt t)):au F G Z= .ok (.rt t):=by unfold au;rw[h];rfl
theorem zU (h:F Z= .ok (.ct Z')):au F G Z= .ok (.ct Z'):=by unfold au;rw[h];rfl
theorem jb (h:b Z= .ok true):dY b F G Z=F Z:=by unfold dY;rw[h];rfl
theorem cJ (h:b Z= .ok false):dY b F G Z=G Z:=by unfold dY;rw[h];rfl
theorem bQ (h:f Z= .ok t):aI f Z= .ok (.rt t):=by unfold aI;rw[h];rfl
theorem lF (h:f Z= .ok t):qZ f Z= .ok (.nx Z):=by unfold qZ;rw[h];rfl
theorem ee {fi:En->Rs (List T)}{g:T->En->Rs En}{x:Fl}(h:fi Z= .ok ts)(h2:bj g F ts Z= .ok x):d6 fi g F Z= .ok x:=by unfold d6;rw[h];show(match bj g F ts Z with | .ok f=>Rs.ok f | _=> .bad)=_;rw[h2]
theorem du {g:T->En->Rs En}(h:g t Z= .ok Z1)(h2:F Z1= .ok (.nx Z2)):bj g F (t::ts) Z=bj g F ts Z2:=by rw[bj,h];show(F Z1 >>= _)=_;rw[h2];rfl
theorem Cb {g:T->En->Rs En}(h:g t Z= .ok Z1)(h2:F Z1= .ok (.ct Z2)):bj g F (t::ts) Z=bj g F ts Z2:=by rw[bj,h];show(F Z1 >>= _)=_;rw[h2];rfl
theorem wv {g:T->En->Rs En}(h:g t Z= .ok Z1)(h2:F Z1= .ok (.rt r)):bj g F (t::ts) Z= .ok (.rt r):=by rw[bj,h];show(F Z1 >>= _)=_;rw[h2];rfl
theorem zT {n:Nat}(h:c Z= .ok false):cb c F (n+1) Z= .ok (.nx Z):=by unfold cb;rw[h]
theorem um {n:Nat}(h:c Z= .ok true)(h2:F Z= .ok (.nx Z')):cb c F (n+1) Z=cb c F n Z':=by rw[cb,h];simp only[h2]
theorem zS {n:Nat}(h:c Z= .ok true)(h2:F Z= .ok (.rt t)):cb c F (n+1) Z= .ok (.rt t):=by rw[cb,h];simp only[h2]
theorem bz {n m:Nat}(hl:ts.length=n)(h:F (aO m ts)= .ok (.rt t)):val n m F ts= .ok t:=by unfold val;rw[if_pos hl];unfold bR;rw[h];rfl
theorem l7 {n m:Nat}(hl:ts.length=n)(h:F (aO m ts)= .ok (.nx Z)):val n m F ts= .ok .non:=by unfold val;rw[if_pos hl];unfold bR;rw[h];rfl
theorem m4 {fi:En->Rs (List T)}{src:List (Option Nat)}{fe:En->Rs T}{h:T->T}(hi:fi Z= .ok ts)(hs:ts.length<=sizeLine)(hn:0<src.length)(hf:∀t∈ts,fe ((bF src Z).set 0 (.va t))= .ok (h t)) :
  dO fi src (gN 0) bT fe Z= .ok (.lst (ts.map h)):=by
 have e:=vo (fe:=fe) (h:=h) ts (bF src Z) (by unfold bF;rw[Jd];exact hn) hf
 unfold dO;rw[hi,az,if_pos hs,e]
theorem zX {fi:En->Rs (List T)}{src:List (Option Nat)}{fc:En->Rs Bool}{fe:En->Rs T}{p:T->Bool}{h:T->T}(hi:fi Z= .ok ts)(hs:ts.length<=sizeLine)(hn:0<src.length)
  (hf:∀t∈ts,fc ((bF src Z).set 0 (.va t))= .ok (p t)/\(p t=true->fe ((bF src Z).set 0 (.va t))= .ok (h t))):dO fi src (gN 0) fc fe Z= .ok (.lst ((ts.filter p).map h)):=by
 have e:=qg (fc:=fc) (fe:=fe) (p:=p) (h:=h) ts (bF src Z) (by unfold bF;rw[Jd];exact hn) hf
 unfold dO;rw[hi,az,if_pos hs,e]
theorem de (h:fs Z= .ok ts)(hl:ts.length<=sizeLine):aR fs Z= .ok (.tup ts):=by unfold aR;rw[h];show kw ts=_;unfold kw;rw[if_pos hl]
theorem lE (h:fs Z= .ok ts)(hl:ts.length<=sizeLine):d7 fs Z= .ok (.lst ts):=by unfold d7;rw[h];show kx ts=_;unfold kx;rw[if_pos hl]
theorem zW {f:En->Rs (List T)}{i:Nat}(h:f Z= .ok l)(hi:i<Z.length)(hl:l.length<=1000):i8 i f Z= .ok (.nx (Z.set i (.ow (.lst l)))):=by
 unfold i8;rw[h,az,if_pos ⟨hi,ax hl (by omega)⟩]
theorem r8 {i:Nat}(hi:i<Z.length):i8 i ag Z= .ok (.nx (Z.set i (.ow (.lst [])))):=zW rfl hi (Lc _)
theorem mJ {i:Nat}(h:f Z= .ok t)(hi:Z[i]? =some (.ow (.lst l)))(hl:l.length<=1000):iA i f Z= .ok (.nx (Z.set i (.ow (.lst (l++ [t]))))):=by
 unfold iA;rw[hi];simp only[h,az];rw[if_pos (by unfold sizeLine;omega)]
theorem zZ {i:Nat}(h:f Z= .ok (.lst m))(hi:Z[i]? =some (.ow (.lst l)))(hl:l.length+m.length<=1000):n5 i f Z= .ok (.nx (Z.set i (.ow (.lst (l++m))))):=by
 unfold n5;rw[hi];simp only[h,az,Ff];rw[if_pos (by unfold sizeLine;omega)]
theorem GO (h:f Z= .ok (.tup l)):iS f Z= .ok l:=by unfold iS;rw[h];rfl
theorem oO (h:f Z= .ok (.lst l)):iS f Z= .ok l:=by unfold iS;rw[h];rfl
theorem k_iE (h:fs Z= .ok [.tup l]):iE fs Z= .ok (bv 0 l):=by unfold iE;rw[h];rfl
theorem zY (h:fs Z= .ok [.lst l]):iE fs Z= .ok (bv 0 l):=by unfold iE;rw[h];rfl
theorem GM {n:Nat}(e:l[n]? =some t):aN (.tup l) (.int (n:Int))= .ok t:=by show(match L2.atI l _ with | some t=>Rs.ok t | none=> .bad)=_;rw[kR e]
theorem EW {n:Nat}(e:l[n]? =some t):aN (.lst l) (.int (n:Int))= .ok t:=by show(match L2.atI l _ with | some t=>Rs.ok t | none=> .bad)=_;rw[kR e]
theorem xK {n:Nat}(h:fa Z= .ok (.tup l))(h2:fb Z= .ok (.int (n:Int)))(e:l[n]? =some t):o2 aN fa fb Z= .ok t:=aA h h2 (GM e)
theorem GN {n:Nat}(h:fa Z= .ok (.lst l))(h2:fb Z= .ok (.int (n:Int)))(e:l[n]? =some t):o2 aN fa fb Z= .ok t:=aA h h2 (EW e)
theorem GH {fe:En->Rs T}{fl fu:En->Rs (Option Int)}{lo hi:Option Int}(h:fe Z= .ok (.tup l))(h1:fl Z= .ok lo)(h2:fu Z= .ok hi):sl fe fl fu Z= .ok (.tup (m8 l lo hi)):=by
 unfold sl;rw[h,h1,h2];rfl
theorem GG {fe:En->Rs T}{fl fu:En->Rs (Option Int)}{lo hi:Option Int}(h:fe Z= .ok (.lst l))(h1:fl Z= .ok lo)(h2:fu Z= .ok hi):sl fe fl fu Z= .ok (.lst (m8 l lo hi)):=by
 unfold sl;rw[h,h1,h2];rfl
theorem ET {i:Int}(h:f Z= .ok (.int i)):pS f Z= .ok (some i):=by unfold pS;rw[h];rfl
theorem AH (l:List T)(n:Nat):m8 l none (some (n:Int))=l.take n:=by
 unfold m8;rw[HT.sIx_none,HT.sIx_nat,List.drop_zero,Nc,List.take_eq_take_iff];omega
theorem uH (l:List T)(n:Nat):m8 l (some (n:Int)) none=l.drop n:=by
 unfold m8;rw[HT.sIx_none,HT.sIx_nat]
 by_cases h:n<=l.length
 ·rw[Nat.min_eq_left h]
  exact NQ (by rw[K6];omega)
 ·rw[Nat.min_eq_right (by omega),LA (Jq _),LA (by omega),List.take_nil]
theorem Cc {i:Nat}{o:OT}(hi:Z[i]? =some (.ow o))(h:f (disown i Z)= .ok t)(hk:t.nk o.isD=true):ln i f Z= .ok t:=by
 unfold ln;rw[hi];simp only[h,az,hk,if_true]
theorem GK {i:Nat}{k:Bool}(h:b (disown i Z)= .ok k):EJ i b Z= .ok k:=h
theorem z8 {i:Nat}{x:Rs Fl}(h:F (disown i Z)=x):mU i F Z=x:=h
end
theorem mk2 (a b:T):kw [a,b] = .ok (.tup [a,b]):=by unfold kw;rw[if_pos (ax (k:=1000) (by simp only[Ji,N4];omega))]
theorem lj (n:Nat):(rng 0 n).length=n:=by unfold rng;rw[Jd,J2];omega
end Tr
namespace G
open PySem Tr
def Ht:T->Bool
 | .int _=>true
 | _=>false
theorem wH (t:T)(h:t.pl=true):fR [t] = .ok (.bl (Ht t)):=by
 cases t <;> first | rfl | (simp[T.pl]at h;done)
def aU (t:T)(a b:Int):Bool:=match t with
 | .int i=>decide (a<=i)&&decide (i<=b)
 | _=>false
theorem fD (t:T)(a b:Int)(h:t.pl=true):aY [t,.int a,.int b] = .ok (.bl (aU t a b)):=by
 have w:=wH t h
 cases t with
 | int i=>
  simp[aY,val,bR,gk,aO,aI,cD,vr,ch,cl,ac,ag,uJ,aU,w,Ht]
  cases decide (a<=i) <;> rfl
 | scr _=>simp[T.pl]at h
 | dct _ _=>simp[T.pl]at h
 | _=>simp[aY,val,bR,gk,aO,aI,cD,vr,ch,cl,ac,ag,aU,w,Ht]
def eX (t:T)(a b:Nat):Bool:=match t with
 | .tup l=>decide (a<=l.length)&&decide (l.length<=b)
 | _=>false
theorem jF (t:T)(a b:Nat)(h:t.pl=true):aM [t,.int a,.int b] = .ok (.bl (eX t a b)):=by
 cases t with
 | tup l=>
  simp[aM,val,bR,j8,aO,aI,cD,o1,vr,Ci,T.ty,ww,ch,cl,ac,ag,ck,T.items,uJ,eX]
  cases decide (a<=l.length) <;> rfl
 | scr _=>simp[T.pl]at h
 | dct _ _=>simp[T.pl]at h
 | _=>rfl
def mW (x y:T):Bool:=aU x 1 9&&(match x with
 | .int i=>aU y i 9
 | _=>false)
theorem Fi (x y:T)(hx:x.pl=true)(hy:y.pl=true):gE [x,y] = .ok (.bl (mW x y)):=by
 have w:=fD x 1 9 hx;unfold mW
 cases q:aU x 1 9 with
 | false=>rw[q]at w;simp[gE,val,bR,iH,aO,aI,cD,vr,cn,cl,ac,ag,w]
 | true=>
  rw[q]at w
  cases x with
  | int i=>simp[gE,val,bR,iH,aO,aI,cD,vr,cn,cl,ac,ag,w,fD y i 9 hy]
  | _=>cases q
def ni:List Int->Bool
 | a::b::r=>decide (a<b)&&ni (b::r)
 | _=>true
theorem Bp (a b:Int)(r:List Int):ni (a::b::r)=(decide (a<b)&&ni (b::r)):=rfl
theorem pe {fe:En->Rs T}{p:T->Bool}{l:List T}{fi:En->Rs (List T)}{src:List (Option Nat)}{Z:En}(hi:fi Z= .ok l)(hs:l.length<=sizeLine)(hn:0<src.length)(hf:∀t∈l,fe ((bF src Z).set 0 (.va t))= .ok (.bl (p t))) :
  cl pf (ac (dO fi src (gN 0) bT fe) ag) Z= .ok (.bl (l.all p)):=by
 have e:=vo (fe:=fe) (h:=λt=>T.bl (p t)) l (bF src Z) (by unfold bF;rw[Jd];exact hn) hf
 simp only[cl,ac,ag,dO,hi,az,if_pos hs,e,all_map]
def l5 (l:List T):T->Bool
 | .int k=>match L2.atI l k,L2.atI l (k+1)with
  | some (.int a),some (.int b)=>decide (a<b)
  | _,_=>false
 | _=>false
theorem nh {t:T}{j:Int}(h:t∈rng 0 j):∃k:Nat,t= .int k/\(k:Int)<j:=by
 unfold rng at h;obtain⟨k,hk,e⟩:=Jl.mp h;rw[JR]at hk;exact⟨k,by rw[<-e];simp,by omega⟩
theorem DB:(l:List Int)->l.length<=4->(rng 0 ((l.length:Int) - 1)).all (l5 (l.map .int))=ni l
 | [],_=>rfl
 | [a],_=>rfl
 | [a,b],_=>by simp[rng,N9,l5,L2.atI,L2.ixN,ni]
 | [a,b,c],_=>by simp[rng,N9,l5,L2.atI,L2.ixN,ni]
 | [a,b,c,d],_=>by simp[rng,N9,l5,L2.atI,L2.ixN,ni,Bool.and_assoc]
 | a::b::c::d::e::r,h=>absurd h (by simp only[Ji];omega)
theorem Cp (l:List Int)(h:l.length<=4):jX [.tup (l.map .int)] = .ok (.bl (ni l)):=by
 have hr:iR (ac (o2 bD (cl ck (ac (vr 0) ag)) (cn (.int 1))) ag) [.va (.tup (l.map .int))] = .ok (rng 0 ((l.length:Int) - 1)):=by
  have:vA ((l.length:Int) - 1)=true:=by unfold vA;rw[Jc];exact⟨decide_eq_true (by omega),decide_eq_true (by omega)⟩
  simp[iR,ac,ag,o2,cl,vr,cn,ck,T.items,bD,this]
 have hs:(rng 0 ((l.length:Int) - 1)).length<=sizeLine:=by
  unfold rng sizeLine;rw[Jd,J2];omega
 have e:=pe (fe:=o2 rX (o2 aN (vr 1) (vr 0)) (o2 aN (vr 1) (o2 aS (vr 0) (cn (.int 1))))) (p:=l5 (l.map .int)) (src:=[none,some 0]) hr hs (by decide) (λt ht=>by
  obtain⟨k,rfl,hk⟩:=nh ht
  have h1:(l.map T.int)[k]? =some (.int (l[k]'(by omega))):=by simp
  have h2:(l.map T.int)[k+1]? =some (.int (l[k+1]'(by omega))):=by rw[JN,Jo (by omega)];rfl
  have g1:=kR h1
  have g2:L2.atI (l.map T.int) ((k:Int)+1)=some (.int (l[k+1]'(by omega))):=kR h2
  simp[o2,vr,bF,cn,aS,aN,T.items,g1,g2,uJ,l5])
 rw[DB l h]at e;simp only[jX,val,KN,if_true,nH,bR,aI,aO]
 show(do let f <-(do let t <-cl pf _ [.va (.tup (l.map .int))];Rs.ok (Fl.rt t));_)=_
 rw[e]
 rfl
def jx:List T->Option (List Int)
 | [] =>some []
 | .int i::l=>match jx l with
  | some m=>some (i::m)
  | none=>none
 | _::_=>none
def cU (t:T):Bool:=eX t 1 4&&(match t with
 | .tup l=>l.all (λu=>aU u 0 99)&&(match jx l with | some m=>ni m | none=>false)
 | _=>false)
theorem oB:∀{l:List T} {m:List Int},jx l=some m->l=m.map .int
 | [],m,h=>by cases h;rfl
 | t::l,m,h=>by
  cases t with
  | int i=>
   unfold jx at h
   cases q:jx l with
   | none=>rw[q]at h;cases h
   | some m'=>rw[q]at h;cases h;rw[Jb,<-oB q]
  | _=>cases h
theorem rL:∀{l:List T} {a b:Int},(l.all λu=>aU u a b)=true->∃m,jx l=some m
 | [],_,_,_=>⟨[],rfl⟩
 | t::l,a,b,h=>by
  rw[Nx,Jc]at h
  cases t with
  | int i=>
   obtain⟨m,e⟩:=rL h.2
   exact⟨i::m,by unfold jx;rw[e]⟩
  | _=>exact absurd h.1 (by simp[aU])
theorem dA {t:T}{a b:Nat}(h:eX t a b=true):∃l,t= .tup l/\a<=l.length/\l.length<=b:=by
 cases t with
 | tup l=>unfold eX at h;rw[Jc]at h;exact⟨l,rfl,of_decide_eq_true h.1,of_decide_eq_true h.2⟩
 | _=>cases h
theorem small {n k:Nat}(h:n<=k)(hk:k<=1000:=by decide):n<=sizeLine:=by unfold sizeLine;omega
theorem vB (t:T)(h:t.pl=true):cf [t] = .ok (.bl (cU t)):=by
 have w:aM [t,.int 1,.int 4] = .ok (.bl (eX t 1 4)):=jF t 1 4 h;unfold cU
 cases q:eX t 1 4 with
 | false=>rw[q]at w;simp[cf,val,bR,dj,aO,au,dY,cL,tb,sN,aI,cl,vr,cn,ac,ag,w]
 | true=>
  rw[q]at w;obtain⟨l,rfl,h1,h2⟩:=dA q
  have hp:∀u∈l,u.pl=true:=λu hu=>jR (by unfold T.pl at h;exact h) hu
  have e:=pe (fe:=cl aY (ac (vr 0) (ac (cn (.int 0)) (ac (cn (.int 99)) ag)))) (p:=λu=>aU u 0 99) (src:=[none]) (fi:=iS (vr 0)) (Z:=[.va (.tup l)]) rfl (small h2) (by decide) (λu hu=>by
   simp[cl,ac,ag,vr,cn,bF,fD u 0 99 (hp u hu)])
  have w':cl aM (ac (vr 0) (ac (cn (.int 1)) (ac (cn (.int 4)) ag))) [.va (.tup l)] = .ok (.bl true):=w
  show cf _= .ok (.bl (true&&(l.all (λu=>aU u 0 99)&&(match jx l with | some m=>ni m | none=>false))))
  cases qa:l.all λu=>aU u 0 99 with
  | false=>
   rw[qa]at e
   simp[cf,val,bR,dj,aO,au,dY,cL,tb,sN,aI,cD,e,w']
  | true=>
   rw[qa]at e;obtain⟨m,em⟩:=rL qa
   have el:=oB em
   have er:=Cp m (by rw[el,Jd]at h2;exact h2)
   rw[<-el]at er
   have er':cl jX (ac (vr 0) ag) [.va (.tup l)] = .ok (.bl (ni m)):=er;simp[cf,val,bR,dj,aO,au,dY,cL,tb,sN,aI,cD,e,w',er',em]
def at_ (t:T)(k:Nat):T:=match t.items with
 | some l=>l.getD k .non
 | none=> .non
def bH (t:T):Bool:=eX t 3 3&&(match t with
 | .tup [x,y,r] =>mW x y&&cU r
 | _=>false)
theorem Ct (t:T)(h:t.pl=true):dL [t] = .ok (.bl (bH t)):=by
 have w:aM [t,.int 3,.int 3] = .ok (.bl (eX t 3 3)):=jF t 3 3 h;unfold bH
 cases q:eX t 3 3 with
 | false=>rw[q]at w;simp[dL,val,bR,fV,aO,aI,cD,cl,vr,cn,ac,ag,w]
 | true=>
  rw[q]at w;obtain⟨l,rfl,h1,h2⟩:=dA q
  match l,h1,h2 with
  | [x,y,r],_,_=>
   simp[T.pl,plS]at h;obtain⟨px,py,pr⟩:=h
   have g0:aN (.tup [x,y,r]) (.int 0)= .ok x:=rfl
   have g1:aN (.tup [x,y,r]) (.int 1)= .ok y:=rfl
   have g2:aN (.tup [x,y,r]) (.int 2)= .ok r:=rfl
   have ep:=Fi x y px py
   have er:=vB r pr
   cases qp:mW x y with
   | false=>rw[qp]at ep;simp[dL,val,bR,fV,aO,aI,cD,cl,vr,cn,ac,ag,o2,w,g0,g1,ep,qp]
   | true=>rw[qp]at ep;simp[dL,val,bR,fV,aO,aI,cD,cl,vr,cn,ac,ag,o2,w,g0,g1,g2,ep,er,qp]
def bq (t:T):Bool:=eX t 1 4&&(match t with
 | .tup l=>l.all bH
 | _=>false)
theorem AA (t:T)(h:t.pl=true):dS [t] = .ok (.bl (bq t)):=by
 have w:aM [t,.int 1,.int 4] = .ok (.bl (eX t 1 4)):=jF t 1 4 h;unfold bq
 cases q:eX t 1 4 with
 | false=>rw[q]at w;simp[dS,val,bR,fH,aO,aI,cD,cl,vr,cn,ac,ag,w]
 | true=>
  rw[q]at w;obtain⟨l,rfl,h1,h2⟩:=dA q
  have hp:∀u∈l,u.pl=true:=λu hu=>jR (by unfold T.pl at h;exact h) hu
  have e:=pe (fe:=cl dL (ac (vr 0) ag)) (p:=bH) (src:=[none]) (fi:=iS (vr 0)) (Z:=[.va (.tup l)]) rfl (small h2) (by decide) (λu hu=>by
   simp[cl,ac,ag,vr,cn,bF,Ct u (hp u hu)])
  have w':cl aM (ac (vr 0) (ac (cn (.int 1)) (ac (cn (.int 4)) ag))) [.va (.tup l)] = .ok (.bl true):=w;simp[dS,val,bR,fH,aO,aI,cD,e,w']
def dw (x y:T):Bool:=aU x 0 999&&(match x,y with
 | _,.non=>true
 | .int i,_=>aU y i 999
 | _,_=>false)
theorem Cr (x y:T)(hx:x.pl=true)(hy:y.pl=true):eV [x,y] = .ok (.bl (dw x y)):=by
 have w:=fD x 0 999 hx;unfold dw
 cases q:aU x 0 999 with
 | false=>rw[q]at w;simp[eV,val,bR,fU,aO,aI,cD,vr,cn,cl,ac,ag,w]
 | true=>
  rw[q]at w
  cases x with
  | int i=>
   have e:=fD y i 999 hy
   cases y with
   | non=>simp[eV,val,bR,fU,aO,aI,cD,AZ,vr,cn,cl,ac,ag,o2,gC,T.isN,w]
   | _=>simp[eV,val,bR,fU,aO,aI,cD,AZ,vr,cn,cl,ac,ag,o2,gC,T.isN,w,e]
  | _=>cases q
def reads (cs:List T)(c:Int):Nat:=if 0<=c then(match cs[c.toNat]? with
 | some (.tup [_,_,.tup r])=>r.length
 | _=>0)else 0
def aX (cs:List T)(t:T):Bool:=match t with
 | .tup [.int c,.int k] =>decide (0<=c)&&decide (c<cs.length)&&(decide (0<=k)&&decide (k<reads cs c))
 | _=>false
theorem mM {t:T}(h:bH t=true):∃x y r,t= .tup [x,y,.tup r]:=by
 unfold bH at h;rw[Jc]at h;obtain⟨h1,h2⟩:=h;obtain⟨l,rfl,h3,h4⟩:=dA h1
 match l,h3,h4,h2 with
 | [x,y,r],_,_,h2=>
  simp only[Jc]at h2;obtain⟨_,h5⟩:=h2;unfold cU at h5;rw[Jc]at h5;obtain⟨m,rfl,_⟩:=dA h5.1;exact⟨x,y,m,rfl⟩
theorem cj {t:T}{a b:Int}(h:aU t a b=true):∃i,t= .int i/\a<=i/\i<=b:=by
 cases t with
 | int i=>unfold aU at h;rw[Jc]at h;exact⟨i,rfl,of_decide_eq_true h.1,of_decide_eq_true h.2⟩
 | _=>cases h
theorem si (cs:List T)(t:T)(hc:bq (.tup cs)=true)(h:t.pl=true):cY [.tup cs,t] = .ok (.bl (aX cs t)):=by
 have w:aM [t,.int 2,.int 2] = .ok (.bl (eX t 2 2)):=jF t 2 2 h
 cases q:eX t 2 2 with
 | false=>
  rw[q]at w
  have:aX cs t=false:=by
   unfold aX;split
   ·cases q
   ·rfl
  simp[cY,val,bR,fT,aO,au,dY,je,cL,tb,sN,aI,cl,vr,cn,ac,ag,w,this]
 | true=>
  rw[q]at w;obtain⟨l,rfl,h1,h2⟩:=dA q
  match l,h1,h2 with
  | [x,y],_,_=>
   simp[T.pl,plS]at h;obtain⟨px,py⟩:=h
   have g0:aN (.tup [x,y]) (.int 0)= .ok x:=rfl
   have g1:aN (.tup [x,y]) (.int 1)= .ok y:=rfl
   have gl:ck [.tup cs] = .ok (.int cs.length):=rfl
   have e1:=fD x 0 ((cs.length:Int) - 1) px
   cases q1:aU x 0 ((cs.length:Int) - 1)with
   | false=>
    rw[q1]at e1
    have:aX cs (.tup [x,y])=false:=by
     cases x with
     | int c=>
      cases y with
      | int k=>
       simp only[aU,Oa,decide_eq_false_iff_not]at q1;simp only[aX,Oa,decide_eq_false_iff_not]
       omega
      | _=>rfl
     | _=>rfl
    simp[cY,val,bR,fT,aO,au,dY,je,cL,tb,sN,aI,cl,vr,cn,ac,ag,o2,bD,w,g0,gl,e1,this]
   | true=>
    rw[q1]at e1;obtain⟨c,rfl,c1,c2⟩:=cj q1;obtain⟨n,rfl⟩:=Kh c1
    have hn:n<cs.length:=by omega
    have hcl:bH cs[n] =true:=by
     unfold bq at hc;rw[Jc]at hc;exact JH.mp hc.2 _ (KU hn)
    obtain⟨a,b,r,er⟩:=mM hcl
    have g2:aN (.tup cs) (.int (n:Int))= .ok (.tup [a,b,.tup r]):=by
     simp only[aN,T.items];rw[kR (Jo hn),er]
    have g3:aN (.tup [a,b,.tup r]) (.int 2)= .ok (.tup r):=rfl
    have gr:ck [.tup r] = .ok (.int r.length):=rfl
    have e2:=fD y 0 ((r.length:Int) - 1) py
    have:aX cs (.tup [.int n,y])=aU y 0 ((r.length:Int) - 1):=by
     have er2:reads cs (n:Int)=r.length:=by
      unfold reads;rw[if_pos c1,Ke,Jo hn,er]
     cases y with
     | int k=>
      simp only[aX,aU,er2];rw[decide_eq_true c1,decide_eq_true (show(n:Int)<cs.length by omega)]
      simp only[Mc]
      congr 1
      exact decide_eq_decide.mpr (by omega)
     | _=>rfl
    simp[cY,val,bR,fT,aO,au,dY,je,cL,tb,sN,aI,cl,vr,cn,ac,ag,o2,bD,w,g0,g1,g2,g3,gl,gr,e1,e2,this]
def bu (cs:List T)(t:T):Bool:=match t with
 | .tup [a,b,x,y] =>dw x y&&(aX cs a&&(aX cs b&& !a6 a b))
 | _=>false
theorem dk {cs:List T}{t:T}(h:aX cs t=true):∃c k:Int,t= .tup [.int c,.int k]:=by
 unfold aX at h
 split at h
 ·exact⟨_,_,rfl⟩
 ·cases h
theorem Ax (cs:List T)(t:T)(hc:bq (.tup cs)=true)(h:t.pl=true):cq [.tup cs,t] = .ok (.bl (bu cs t)):=by
 have w:aM [t,.int 4,.int 4] = .ok (.bl (eX t 4 4)):=jF t 4 4 h
 cases q:eX t 4 4 with
 | false=>
  rw[q]at w
  have:bu cs t=false:=by
   unfold bu;split
   ·cases q
   ·rfl
  simp[cq,val,bR,dm,aO,au,dY,je,cL,tb,sN,aI,cl,vr,cn,ac,ag,w,this]
 | true=>
  rw[q]at w;obtain⟨l,rfl,h1,h2⟩:=dA q
  match l,h1,h2 with
  | [a,b,x,y],_,_=>
   simp[T.pl,plS]at h;obtain⟨pa,pb,px,py⟩:=h
   have g0:aN (.tup [a,b,x,y]) (.int 0)= .ok a:=rfl
   have g1:aN (.tup [a,b,x,y]) (.int 1)= .ok b:=rfl
   have g2:aN (.tup [a,b,x,y]) (.int 2)= .ok x:=rfl
   have g3:aN (.tup [a,b,x,y]) (.int 3)= .ok y:=rfl
   have e1:=Cr x y px py
   have e2:=si cs a hc pa
   have e3:=si cs b hc pb
   show _=Rs.ok (T.bl (dw x y&&(aX cs a&&(aX cs b&& !a6 a b))))
   cases q1:dw x y with
   | false=>
    rw[q1]at e1
    simp[cq,val,bR,dm,aO,au,dY,je,cL,tb,sN,aI,cl,vr,cn,ac,ag,o2,w,g2,g3,e1]
   | true=>
    rw[q1]at e1
    cases q2:aX cs a with
    | false=>
     rw[q2]at e2
     simp[cq,val,bR,dm,aO,au,dY,je,cL,tb,sN,aI,cD,cl,vr,cn,ac,ag,o2,w,g0,g2,g3,e1,e2]
    | true=>
     rw[q2]at e2
     cases q3:aX cs b with
     | false=>
      rw[q3]at e3
      simp[cq,val,bR,dm,aO,au,dY,je,cL,tb,sN,aI,cD,cl,vr,cn,ac,ag,o2,w,g0,g1,g2,g3,e1,e2,e3]
     | true=>
      rw[q3]at e3;obtain⟨c,k,rfl⟩:=dk q2
      have f:gY (.tup [.int c,.int k]) b=true:=iF (by simp[T.dep,deps]) rfl (T.HJ _ pb)
      have g4:jg (.tup [.int c,.int k]) b= .ok (.bl (!a6 (.tup [.int c,.int k]) b)):=by unfold jg;rw[if_pos f]
      simp[cq,val,bR,dm,aO,au,dY,je,cL,tb,sN,aI,cD,cl,vr,cn,ac,ag,o2,w,g0,g1,g2,g3,g4,e1,e2,e3]
def jY (cs:List T)(t:T):Bool:=eX t 0 8&&(match t with
 | .tup l=>l.all (bu cs)
 | _=>false)
theorem xP (cs:List T)(t:T)(hc:bq (.tup cs)=true)(h:t.pl=true):dC [.tup cs,t] = .ok (.bl (jY cs t)):=by
 have w:aM [t,.int 0,.int 8] = .ok (.bl (eX t 0 8)):=jF t 0 8 h;unfold jY
 cases q:eX t 0 8 with
 | false=>rw[q]at w;simp[dC,val,bR,eF,aO,aI,cD,cl,vr,cn,ac,ag,w]
 | true=>
  rw[q]at w;obtain⟨l,rfl,h1,h2⟩:=dA q
  have hp:∀u∈l,u.pl=true:=λu hu=>jR (by unfold T.pl at h;exact h) hu
  have e:=pe (fe:=cl cq (ac (vr 1) (ac (vr 0) ag))) (p:=bu cs) (src:=[none,some 0]) (fi:=iS (vr 1)) (Z:=[.va (.tup cs),.va (.tup l)]) rfl (small h2) (by decide) (λu hu=>by
   simp[cl,ac,ag,vr,cn,bF,Ax cs u hc (hp u hu)])
  have w':cl aM (ac (vr 1) (ac (cn (.int 0)) (ac (cn (.int 8)) ag))) [.va (.tup cs),.va (.tup l)] = .ok (.bl true):=w;simp[dC,val,bR,eF,aO,aI,cD,e,w']
def mK (t:T):Bool:=match t with
 | .tup [.tup cs,ls] =>bq (.tup cs)&&jY cs ls
 | _=>false
theorem Av (t:T)(h:t.pl=true):dJ [t] = .ok (.bl (mK t)):=by
 have w:aM [t,.int 2,.int 2] = .ok (.bl (eX t 2 2)):=jF t 2 2 h
 cases q:eX t 2 2 with
 | false=>
  rw[q]at w
  have:mK t=false:=by
   unfold mK;split
   ·cases q
   ·rfl
  simp[dJ,val,bR,fh,aO,aI,cD,cl,vr,cn,ac,ag,w,this]
 | true=>
  rw[q]at w;obtain⟨l,rfl,h1,h2⟩:=dA q
  match l,h1,h2 with
  | [x,y],_,_=>
   simp[T.pl,plS]at h;obtain⟨px,py⟩:=h
   have g0:aN (.tup [x,y]) (.int 0)= .ok x:=rfl
   have g1:aN (.tup [x,y]) (.int 1)= .ok y:=rfl
   have e1:=AA x px
   cases q1:bq x with
   | false=>
    rw[q1]at e1
    have:mK (.tup [x,y])=false:=by
     cases x with
     | tup cs=>show(bq (.tup cs)&&_)=false;rw[q1];rfl
     | _=>rfl
    simp[dJ,val,bR,fh,aO,aI,cD,cl,vr,cn,ac,ag,o2,w,g0,e1,this]
   | true=>
    rw[q1]at e1
    cases x with
    | tup cs=>
     have e2:=xP cs y q1 py
     have:mK (.tup [.tup cs,y])=jY cs y:=by show(bq (.tup cs)&&_)=_;rw[q1];rfl
     simp[dJ,val,bR,fh,aO,aI,cD,cl,vr,cn,ac,ag,o2,w,g0,g1,e1,e2,this]
    | _=>cases q1
theorem gF:∀m:List Int,deps (m.map .int)=0
 | [] =>rfl
 | a::m=>by rw[Jb,deps,gF m];rfl
def m7 (i n:Nat):List T:=(rng 0 n).map λt=>T.tup [.int i,t]
def DE:T->Nat
 | .tup [_,_,.tup r] =>r.length
 | _=>0
def f8:Nat->List T->List T
 | _,[] => []
 | i,c::r=>m7 i (DE c)++f8 (i+1) r
theorem gj {t:T}(h:bH t=true):∃x y r,t= .tup [x,y,.tup r]/\1<=r.length/\r.length<=4:=by
 obtain⟨x,y,r,rfl⟩:=mM h
 have:cU (.tup r)=true:=by
  have h':(mW x y&&cU (.tup r))=true:=h;rw[Jc]at h';exact h'.2
 unfold cU at this;rw[Jc]at this;obtain⟨l,e,h1,h2⟩:=dA this.1;cases e;exact⟨x,y,r,rfl,h1,h2⟩
theorem iG (i n:Nat):(m7 i n).length=n:=by unfold m7;rw[Jd,lj]
abbrev evF:En->Rs Fl:=cX (o2 aS (vr 1) (dO (iR (ac (cl ck (ac (o2 aN (vr 3) (cn (.int 2))) ag)) ag)) [none,some 2] (gN 0) bT (aR (ac (vr 1) (ac (vr 0) ag))))) (gN 1)
abbrev evG:T->En->Rs En:=gT 2 (dg (gN 2) (dg (gN 3) iV))
theorem E9 {f:En->Rs (List T)}{Z:En}{j:Int}(h:f Z= .ok [.int j])(h0:0<=j)(h1:j<=100000):iR f Z= .ok (rng 0 j):=by
 have e:vA j=true:=by unfold vA;rw[Jc];exact⟨decide_eq_true (by omega),decide_eq_true (by omega)⟩
 unfold iR;rw[h]
 show(if vA j=true then _ else _)=_
 rw[e];rfl
theorem wU (l m:List T)(h:(l++m).length<=1000):aS (.lst l) (.lst m)= .ok (.lst (l++m)):=by
 show kx (l++m)=_
 unfold kx;rw[if_pos (ax h)]
theorem wT (l m:List T)(h:(l++m).length<=1000):aS (.tup l) (.tup m)= .ok (.tup (l++m)):=by
 show kw (l++m)=_
 unfold kw;rw[if_pos (ax h)]
theorem GY (c0 acc x y:T)(r:List T)(i:Nat)(h:r.length<=4) :
  dO (iR (ac (cl ck (ac (o2 aN (vr 3) (cn (.int 2))) ag)) ag)) [none,some 2] (gN 0) bT (aR (ac (vr 1) (ac (vr 0) ag))) [.va c0,.va acc,.va (.int i),.va (.tup [x,y,.tup r])] = .ok (.lst (m7 i r.length)):=
 m4 (E9 (j:=(r.length:Int)) rfl (by omega) (by omega)) (ax (k:=4) (by rw[lj];exact h)) (by simp) λt _=>mk2 _ _
theorem Cm (c0 x y:T)(acc r:List T)(i:Nat)(h:r.length<=4)(ha:acc.length<=100):evF [.va c0,.va (.lst acc),.va (.int i),.va (.tup [x,y,.tup r])] = .ok (.nx [.va c0,.va (.lst (acc++m7 i r.length)),.va (.int i),.va (.tup [x,y,.tup r])]):=
 cp (aA (t:=.lst acc) rfl (GY c0 (.lst acc) x y r i h) (wU _ _ (by rw[Jj,iG];omega))) rfl
theorem wB:∀(cs:List T) (c0:T) (acc:List T) (i:Nat) (s2 s3:Sl),(∀c∈cs,bH c=true)->acc.length+4*cs.length<=100 →
  ∃y2 y3,bj evG evF (bv i cs) [.va c0,.va (.lst acc),s2,s3] = .ok (.nx [.va c0,.va (.lst (acc++f8 i cs)),y2,y3])
 | [],c0,acc,i,s2,s3,_,_=>⟨s2,s3,by simp[bv,bj,f8]⟩
 | c::cs,c0,acc,i,s2,s3,hc,hl=>by
  obtain⟨x,y,r,rfl,r1,r2⟩:=gj (hc c Ja);rw[Ji]at hl;obtain⟨z2,z3,ih⟩:=wB cs c0 (acc++m7 i r.length) (i+1) (.va (.int i)) (.va (.tup [x,y,.tup r])) (λc h=>hc c (IZ _ h)) (by rw[Jj,iG];omega)
  refine⟨z2,z3,?_⟩
  rw[bv,du (Z1:=[.va c0,.va (.lst acc),.va (.int i),.va (.tup [x,y,.tup r])]) rfl (Cm c0 x y acc r i r2 (by omega)),ih,f8,JB]
  rfl
theorem bW {cs:List T}(hc:bq (.tup cs)=true):(∀c∈cs,bH c=true)/\1<=cs.length/\cs.length<=4:=by
 unfold bq at hc;rw[Jc]at hc;obtain⟨l,e,h1,h2⟩:=dA hc.1;cases e;exact⟨λc h=>JH.mp hc.2 c h,h1,h2⟩
theorem uB (cs:List T)(hc:bq (.tup cs)=true):cr [.tup cs] = .ok (.lst (f8 0 cs)):=by
 obtain⟨ha,h1,h2⟩:=bW hc;obtain⟨y2,y3,e⟩:=wB cs (.tup cs) [] 0 .em .em ha (by simp;omega)
 rw[Ko]at e;refine bz rfl ?_
 unfold gc;rw[aw (Z':=[.va (.tup cs),.va (.lst []),.em,.em]) rfl,aw ((ee (ts:=bv 0 cs) rfl e))]
 rfl
theorem B4 {n k:Nat}(h:k<n):T.int (k:Int)∈rng 0 (n:Int):=by
 unfold rng;exact Jl.mpr ⟨k,JR.mpr (by omega),by simp⟩
theorem p7 (cs:List T)(c:Nat):reads cs (c:Int)=DE (cs.getD c .non):=by
 unfold reads;rw[if_pos (by omega),Ke,LR]
 cases cs[c]? with
 | none=>rfl
 | some t=>
  cases t with
  | tup l=>
   match l with
   | [] =>rfl
   | [_] =>rfl
   | [_,_] =>rfl
   | [_,_,z] =>cases z <;> rfl
   | _::_::z::_::_=>cases z <;> rfl
  | _=>rfl
theorem ug {g:T->En->Rs En}{F:En->Rs Fl}{p:T->Bool}(J:En->Prop):∀(ts:List T),(∀t∈ts,∀Z,J Z->∃Z1,g t Z= .ok Z1/\(p t=true->∃Z2,F Z1= .ok (.nx Z2)/\J Z2)/\(p t=false->F Z1= .ok (.rt (.bl false)))) →
  ∀Z,J Z->(ts.all p=true->∃Z',bj g F ts Z= .ok (.nx Z')/\J Z')/\(ts.all p=false->bj g F ts Z= .ok (.rt (.bl false)))
 | [],_,Z,hj=>⟨λ_=>⟨Z,rfl,hj⟩,λh=>(by cases h)⟩
 | t::ts,hs,Z,hj=>by
  obtain⟨Z1,h1,h2,h3⟩:=hs t Ja Z hj;rw[Nx]
  cases q:p t with
  | false=>exact⟨λh=>(by cases h),λ_=>wv h1 (h3 q)⟩
  | true=>
   obtain⟨Z2,e2,j2⟩:=h2 q;rw[du h1 e2,Mc];exact ug J ts (λt ht=>hs t (IZ _ ht)) Z2 j2
mutual
def sm (n:Nat):T->Bool
 | .dct _ _=>false
 | .scr _=>false
 | .tup l=>decide (l.length<=n)&&sms n l
 | .lst l=>decide (l.length<=n)&&sms n l
 | _=>true
def sms (n:Nat):List T->Bool
 | [] =>true
 | t::l=>sm n t&&sms n l
end
mutual
theorem CZ {n:Nat}:∀(t:T),sm n t=true->t.pl=true
 | .scr _,h=>by simp[sm]at h
 | .dct _ _,h=>by simp[sm]at h
 | .tup l,h=>by rw[sm,Jc]at h;rw[T.pl];exact sms_pl l h.2
 | .lst l,h=>by rw[sm,Jc]at h;rw[T.pl];exact sms_pl l h.2
 | .non,_=>by simp[T.pl]
 | .bl _,_=>by simp[T.pl]
 | .int _,_=>by simp[T.pl]
 | .str _,_=>by simp[T.pl]
theorem sms_pl {n:Nat}:∀(l:List T),sms n l=true->plS l=true
 | [],_=>by simp[plS]
 | t::l,h=>by rw[sms,Jc]at h;rw[plS,CZ t h.1,sms_pl l h.2];rfl
end
theorem vU {n:Nat}:∀{l:List T},sms n l=true↔ ∀t∈l,sm n t=true
 | [] =>by simp[sms]
 | t::l=>by rw[sms,Jc,vU (l:=l)];simp
theorem sm_tup {n:Nat}{l:List T}:sm n (.tup l)=true↔l.length<=n/\∀t∈l,sm n t=true:=by rw[sm,Jc,vU,decide_eq_true_iff]
theorem kM {i j:Int}(h:0<j):lA (.int i) (.int j)= .ok (.int (i % j)):=by show(if _ then _ else _)=_;rw[if_pos h]
theorem nE {i j:Int}(h:0<j)(h2:j<1073741824):lI (.int i) (.int j)= .ok (.int (i / j)):=by show(if _ then _ else _)=_;rw[if_pos ⟨h,h2⟩]
theorem jA {i j:Int}(h : -18446744073709551616<i)(h2:i<18446744073709551616):bK (.int i) (.int j)= .ok (.int (i*j)):=by
 show vm (.int i) (.int j)=_
 show(if _ then _ else _)=_
 rw[if_pos (.inl ⟨by omega,by omega⟩)]
theorem zA {i j:Int}(h : -18446744073709551616<j)(h2:j<18446744073709551616):bK (.int i) (.int j)= .ok (.int (i*j)):=by
 show vm (.int i) (.int j)=_
 show(if _ then _ else _)=_
 rw[if_pos (.inr ⟨by omega,by omega⟩)]
theorem Fk (ns:List Int)(k:Nat)(hn:ns.length<=63):∃c,gg [.scr ns,.int k] = .ok (.int c):=by
 have e0:o2 nF (vr 0) (d7 ag) [.va (.scr ns),.va (.int k)] = .ok (.bl (kD ns [])):=by
  refine aA (t:=.scr ns) (u:=.lst []) rfl (lE (ts:=[]) rfl (ax (k:=0) (Jq _))) ?_
  unfold nF;rw[if_pos (iF (by simp[T.dep]) rfl rfl)]
  rfl
 cases ns with
 | nil=>
  refine⟨7*k,bz rfl ?_⟩
  unfold gp
  refine l8 ((jb (bw e0)).trans (bQ (aA (t:=.int 7) (u:=.int k) rfl rfl (jA (by omega) (by omega)))))
 | cons a r=>
  have hl:(0:Int)<((a::r).length:Nat):=by simp only[Ji];omega
  have hl2:(((a::r).length:Nat):Int)<1073741824:=by simp only[Ji]at hn ⊢;omega
  have hi:k % (a::r).length<(a::r).length:=Nat.mod_lt _ (by simp)
  have g0:o2 lA (vr 1) (cl ck (ac (vr 0) ag)) [.va (.scr (a::r)),.va (.int k)] = .ok (.int ((k % (a::r).length:Nat):Int)):=by
   refine aA (t:=.int k) (u:=.int ((a::r).length:Nat)) rfl ?_ (by rw[kM hl];rfl)
   refine aK (ts:=[.scr (a::r)]) rfl ?_
   show Rs.ok (T.int (((a::r).map T.int).length:Nat))=_
   rw[Jd]
  have g1:aN (.scr (a::r)) (.int ((k % (a::r).length:Nat):Int))= .ok (.int (a::r)[k % (a::r).length]):=by
   have e:((a::r).map T.int)[k % (a::r).length]? =some (.int (a::r)[k % (a::r).length]):=by rw[JN,Jo hi];rfl
   show(match L2.atI ((a::r).map T.int) ((k % (a::r).length:Nat):Int)with | some t=>Rs.ok t | none=> .bad)=_
   rw[kR e]
  have g2:o2 lI (vr 1) (cl ck (ac (vr 0) ag)) [.va (.scr (a::r)),.va (.int k)] = .ok (.int ((k:Int) / ((a::r).length:Nat))):=by
   refine aA (t:=.int k) (u:=.int ((a::r).length:Nat)) rfl ?_ (nE hl hl2)
   refine aK (ts:=[.scr (a::r)]) rfl ?_
   show Rs.ok (T.int (((a::r).map T.int).length:Nat))=_
   rw[Jd]
  refine⟨(a::r)[k % (a::r).length] +6553*((k:Int) / ((a::r).length:Nat)),bz rfl ?_⟩
  unfold gp
  show au _ _ [.va (.scr (a::r)),.va (.int k)] =_
  refine(aw (Z':=[.va (.scr (a::r)),.va (.int k)]) ((cJ (bw e0)).trans rfl)).trans ?_
  exact bQ (aA (aA (t:=.scr (a::r)) rfl g0 g1) (aA (t:=.int 6553) rfl g2 (jA (by omega) (by omega))) rfl)
theorem dW (ns:List Int)(k:Nat)(m:Int)(hn:ns.length<=63)(hm:0<m):∃r,aE [.scr ns,.int k,.int m] = .ok (.int r)/\0<=r/\r<m:=by
 obtain⟨c,hc⟩:=Fk ns k hn
 have b1:∀x:Int,0<=x % 2147483563/\x % 2147483563<2147483563:=λx=>⟨Ob _ (by omega),Nd _ (by omega)⟩
 have b2:∀x:Int,0<=x % 2147483399/\x % 2147483399<2147483399:=λx=>⟨Ob _ (by omega),Nd _ (by omega)⟩
 generalize hx:(c % 2147483563*69069+104723*((k:Int)+1)) % 2147483563=x
 have hx':=b1 (c % 2147483563*69069+104723*((k:Int)+1));rw[hx]at hx'
 generalize hy:(x*x+x / 3) % 2147483399=y
 have hy':=b2 (x*x+x / 3);rw[hy]at hy';refine⟨(y*y+y / 7) % 2147483647 / 11 % m,bz rfl ?_,Ob _ (by omega),Nd _ hm⟩
 show fJ [.va (.scr ns),.va (.int k),.va (.int m),.em] =_
 unfold fJ
 have s1:cX (o2 lA (o2 aS (o2 bK (o2 lA (cl gg (ac (vr 0) (ac (vr 1) ag))) (cn (.int 2147483563))) (cn (.int 69069))) (o2 bK (cn (.int 104723)) (o2 aS (vr 1) (cn (.int 1))))) (cn (.int 2147483563))) (gN 3) [.va (.scr ns),.va (.int k),.va (.int m),.em] = .ok (.nx [.va (.scr ns),.va (.int k),.va (.int m),.va (.int x)]):=by
  refine cp (t:=.int x) (aA (u:=.int 2147483563) (aA (aA (u:=.int 69069) (aA (u:=.int 2147483563) (aK (ts:=[.scr ns,.int k]) rfl hc) rfl (kM (by omega))) rfl (zA (by omega) (by omega))) (aA (t:=.int 104723) (u:=.int ((k:Int)+1)) rfl rfl (jA (by omega) (by omega))) rfl) rfl ?_) rfl
  rw[kM (by omega),hx]
 have s2:cX (o2 lA (o2 aS (o2 bK (vr 3) (vr 3)) (o2 lI (vr 3) (cn (.int 3)))) (cn (.int 2147483399))) (gN 3) [.va (.scr ns),.va (.int k),.va (.int m),.va (.int x)] = .ok (.nx [.va (.scr ns),.va (.int k),.va (.int m),.va (.int y)]):=by
  refine cp (t:=.int y) (aA (u:=.int 2147483399) (aA (aA (t:=.int x) (u:=.int x) rfl rfl (jA (by omega) (by omega))) (aA (t:=.int x) (u:=.int 3) rfl rfl (nE (by omega) (by omega))) rfl) rfl ?_) rfl
  rw[kM (by omega),hy]
 rw[aw s1,aw s2];exact bQ (aA (u:=.int m) (aA (u:=.int 11) (aA (u:=.int 2147483647) (aA (aA (t:=.int y) (u:=.int y) rfl rfl (jA (by omega) (by omega))) (aA (t:=.int y) (u:=.int 7) rfl rfl (nE (by omega) (by omega))) rfl) rfl (kM (by omega))) rfl (nE (by omega) (by omega))) rfl (kM hm))
theorem eQ {ns:List Int}{k:Nat}{m r:Int}{f g h:En->Rs T}{Z:En}(e:aE [.scr ns,.int k,.int m] = .ok (.int r))(h1:f Z= .ok (.scr ns))(h2:g Z= .ok (.int k))(h3:h Z= .ok (.int m)) :
  cl aE (ac f (ac g (ac h ag))) Z= .ok (.int r):=aK (ao h1 (ao h2 (ao h3 rfl))) e
theorem tK:∀(l:List Int) (z y:Int),ni (l++ [z])=true->z<y->ni (l++ [z] ++ [y])=true
 | [],z,y,_,h=>by simp[ni,h]
 | [a],z,y,h,hy=>by
  simp[ni]at h ⊢
  omega
 | a::b::l,z,y,h,hy=>by
  have h':ni (a::b::(l++ [z]))=true:=h;rw[Bp,Jc]at h'
  have ih:=tK (b::l) z y h'.2 hy
  show ni (a::b::(l++ [z] ++ [y]))=true
  rw[Bp,h'.1];exact ih
theorem gS:∀l:List Int,jx (l.map .int)=some l
 | [] =>rfl
 | a::l=>by rw[Jb,jx,gS l]
def RdOk (l:List Int):Prop:=∃(l':List Int) (z:Int),l=l'++ [z]/\ni l=true/\(∀x∈l,0<=x/\x<=5*l.length)/\z<=5*l.length
abbrev clF:En->Rs Fl:=cX (o2 aS (vr 3) (aR (ac (o2 aS (o2 aS (o2 aN (vr 3) (o1 rQ (cn (.int 1)))) (cn (.int 1))) (cl aE (ac (vr 0) (ac (o2 aS (o2 aS (vr 1) (cn (.int 3))) (vr 4)) (ac (cn (.int 5)) ag))))) ag))) (gN 3)
theorem Cf (l:List T)(z:T):aN (.tup (l++ [z])) (.int (-1))= .ok z:=by
 have e:L2.atI (l++ [z]) (-1)=some z:=by
  unfold L2.atI L2.ixN;simp;rw[if_pos (by omega)]
  have q:(-1+((l.length:Int)+1)).toNat=l.length:=by omega
  show(l++ [z])[(-1+((l.length:Int)+1)).toNat]? =some z
  rw[q];simp
 show(match L2.atI (l++ [z]) (-1)with | some t=>Rs.ok t | none=> .bad)=_
 rw[e]
theorem CB (ns:List Int)(hn:ns.length<=63)(a j:Nat)(s:T)(l:List Int)(h:RdOk l)(hl:l.length<=3):∃l2,clF [.va (.scr ns),.va (.int a),.va s,.va (.tup (l.map .int)),.va (.int j)] = .ok (.nx [.va (.scr ns),.va (.int a),.va s,.va (.tup (l2.map .int)),.va (.int j)])/\RdOk l2/\l2.length=l.length+1:=by
 obtain⟨l',z,rfl,h1,h2,h3⟩:=h;obtain⟨d,ed,d0,d1⟩:=dW ns (a+3+j) 5 hn (by omega)
 refine⟨l'++ [z] ++ [z+1+d],?_,⟨l'++ [z],z+1+d,rfl,tK l' z _ h1 (by omega),?_,?_⟩,by simp⟩
 ·refine cp (t:=.tup ((l'++ [z] ++ [z+1+d]).map .int)) (aA (t:=.tup ((l'++ [z]).map .int)) (u:=.tup [.int (z+1+d)]) rfl (de (ts:=[.int (z+1+d)]) (ao (aA (t:=.int (z+1)) (u:=.int d) (aA (t:=.int z) (u:=.int 1) (aA (t:=.tup ((l'++ [z]).map .int)) (u:=.int (-1)) rfl rfl ?_) rfl rfl) (eQ (k:=a+3+j) ed rfl ?_ rfl) rfl) rfl) (ax (k:=1) (by simp))) ?_) rfl
  ·rw[JX];exact Cf _ _
  ·refine aA (t:=.int ((a:Int)+3)) (u:=.int j) (aA (t:=.int a) (u:=.int 3) rfl rfl rfl) rfl ?_
   show Rs.ok (T.int ((a:Int)+3+j))=_
   congr 2
  ·rw[JX (l₁:=l'++ [z])]
   exact wT _ _ (by rw[Jj,Jd];simp at hl ⊢;omega)
 ·intro x hx
  rcases JG.mp hx with hx | hx
  ·have:=h2 x hx
   simp only[Jj,KN]at this ⊢;omega
  ·rw[Jp]at hx
   subst hx
   have hz:=h2 z (by simp)
   simp only[Jj,KN]at h3 ⊢;omega
 ·simp only[Jj,KN]at h3 ⊢
  omega
theorem wO (ns:List Int)(hn:ns.length<=63)(a:Nat)(s:T):∀(js:List Nat) (l:List Int) (s4:Sl),RdOk l->l.length+js.length<=4->∃l2 s5,bj (gN 4) clF (js.map λ(j:Nat)=>T.int j) [.va (.scr ns),.va (.int a),.va s,.va (.tup (l.map .int)),s4] = .ok (.nx [.va (.scr ns),.va (.int a),.va s,.va (.tup (l2.map .int)),s5])/\RdOk l2/\l2.length=l.length+js.length
 | [],l,s4,h,_=>⟨l,s4,rfl,h,rfl⟩
 | j::js,l,s4,h,hl=>by
  rw[Ji]at hl;obtain⟨l2,e2,h2,n2⟩:=CB ns hn a j s l h (by omega)
  obtain⟨l3,s5,e3,h3,n3⟩:=wO ns hn a s js l2 (.va (.int j)) h2 (by omega)
  refine⟨l3,s5,?_,h3,by rw[n3,n2,Ji];omega⟩
  rw[Jb,du (Z1:=[.va (.scr ns),.va (.int a),.va s,.va (.tup (l.map .int)),.va (.int j)]) rfl e2];exact e3
theorem re (n:Nat):rng 0 (n:Int)=(Js n).map λ(j:Nat)=>T.int j:=by
 unfold rng;simp
theorem RdOk.reads {l:List Int}(h:RdOk l)(hl:l.length<=4):cU (.tup (l.map .int))=true:=by
 obtain⟨l',z,rfl,h1,h2,h3⟩:=h;unfold cU;rw[Jc];refine⟨?_,?_⟩
 ·simp[eX];simp at hl;omega
 ·show(((l'++ [z]).map T.int).all (λu=>aU u 0 99)&&(match jx ((l'++ [z]).map T.int)with | some m=>ni m | none=>false))=true
  rw[gS]
  show(_&&ni (l'++ [z]))=true
  rw[h1,ND,JH];intro t ht;obtain⟨x,hx,rfl⟩:=Jl.mp ht
  have:=h2 x hx;simp only[aU,Jc,decide_eq_true_eq];omega
theorem Bj (n:Nat)(l:List Int)(h:l.length<=n):sm n (.tup (l.map .int))=true:=sm_tup.mpr ⟨by rw[Jd];exact h,λt ht=>by obtain⟨x,_,rfl⟩:=Jl.mp ht;simp[sm]⟩
theorem Az (ns:List Int)(hn:ns.length<=63)(a:Nat):∃c,cS [.scr ns,.int a] = .ok c/\bH c=true/\sm 8 c=true:=by
 obtain⟨d1,e1,p1,q1⟩:=dW ns a 3 hn (by omega)
 obtain⟨d2,e2,p2,q2⟩:=dW ns (a+2) 6 hn (by omega)
 obtain⟨d3,e3,p3,q3⟩:=dW ns (a+1) 3 hn (by omega)
 obtain⟨d4,e4,p4,q4⟩:=dW ns (a+6) 3 hn (by omega)
 obtain⟨n3,rfl⟩:=Kh p3;obtain⟨l,s5,el,hl,nl⟩:=wO ns hn a (.int (1+d1)) (Js n3) [d2] .em ⟨[],d2,rfl,rfl,λx hx=>by rw[Jp]at hx;subst hx;simp;omega,by simp;omega⟩ (by simp;omega)
 have nl':l.length<=4:=by rw[nl];simp;omega
 have hr:=hl.reads nl';refine⟨.tup [.int (1+d1),.int (1+d1+d4),.tup (l.map .int)],bz rfl ?_,?_,?_⟩
 ·show fK [.va (.scr ns),.va (.int a),.em,.em,.em] =_
  unfold fK;rw[aw (Z':=[.va (.scr ns),.va (.int a),.va (.int (1+d1)),.em,.em]) (cp (t:=.int (1+d1)) (aA (t:=.int 1) rfl (eQ e1 rfl rfl rfl) rfl) rfl)];rw[aw (Z':=[.va (.scr ns),.va (.int a),.va (.int (1+d1)),.va (.tup ([d2].map .int)),.em]) (cp (t:=.tup [.int d2]) (de (ts:=[.int d2]) (ao (eQ (k:=a+2) e2 rfl rfl rfl) rfl) (ax (k:=1) (by simp))) rfl)]
  rw[aw ((ee (E9 (ao (eQ (k:=a+1) e3 rfl rfl rfl) rfl) (by omega) (by omega)) (by rw[re];exact el)))]
  exact bQ (de (ao (t:=.int (1+d1)) rfl (ao (aA (t:=.int (1+d1)) rfl (eQ (k:=a+6) e4 rfl rfl rfl) rfl) (ao (t:=.tup (l.map .int)) rfl rfl))) (ax (k:=3) (by simp)))
 ·show(true&&(mW (.int (1+d1)) (.int (1+d1+d4))&&cU _))=true
  rw[hr];simp only[mW,aU,Mc,ND,Jc,decide_eq_true_eq];omega
 ·refine sm_tup.mpr ⟨by simp,λt ht=> ?_⟩
  rcases Jh.mp ht with rfl | ht
  ·simp[sm]
  ·rcases Jh.mp ht with rfl | ht
   ·simp[sm]
   ·rw[Jp]at ht;subst ht;exact Bj 8 l (by omega)
theorem nt {y:T}:∀(cs:List T) (i:Nat),y∈f8 i cs->∃c k:Nat,y= .tup [.int c,.int k]/\i<=c/\c<i+cs.length/\k<DE (cs.getD (c - i) .non)
 | [],i,h=>by cases h
 | x::cs,i,h=>by
  rw[f8]at h;rcases JG.mp h with h | h
  ·unfold m7 at h
   obtain⟨t,ht,rfl⟩:=Jl.mp h;obtain⟨j,rfl,hj⟩:=nh ht;refine⟨i,j,rfl,Jq _,by rw[Ji];omega,?_⟩
   rw[N5]
   show j<DE x
   omega
  ·obtain⟨c,k,e,h1,h2,h3⟩:=nt cs (i+1) h
   refine⟨c,k,e,by omega,by rw[Ji];omega,?_⟩
   have:c - i=(c - (i+1))+1:=by omega
   rw[this];exact h3
theorem wC {cs:List T}{y:T}(h:y∈f8 0 cs):aX cs y=true:=by
 obtain⟨c,k,rfl,_,h2,h3⟩:=nt cs 0 h
 show(decide ((0:Int)<=(c:Int))&&decide ((c:Int)<(cs.length:Int))&&(decide ((0:Int)<=(k:Int))&&decide ((k:Int)<(reads cs (c:Int):Int))))=true
 rw[Nc]at h3;rw[p7];simp only[Jc,decide_eq_true_eq];omega
theorem lW:∀(cs:List T) (i:Nat),(f8 i cs).Nodup
 | [],i=>K1
 | x::cs,i=>by
  rw[f8,Kf];refine⟨?_,lW cs (i+1),?_⟩
  ·unfold m7 rng
   rw[J4];rw[M9,Pr];refine List.nodup_range.imp ?_
   intro a b hab e
   simp at e
   exact hab (by omega)
  ·intro a ha b hb e
   subst e;unfold m7 at ha;obtain⟨t,ht,rfl⟩:=Jl.mp ha;obtain⟨c,k,e,h1,_,_⟩:=nt cs (i+1) hb
   simp at e
   omega
theorem zv {l:List T}(h:l.Nodup){i j:Nat}(hi:i<l.length)(hj:j<l.length)(hij:i≠j):l[i] ≠l[j]:=by
 rw[M9,List.pairwise_iff_getElem]at h;rcases Nat.lt_or_ge i j with q | q
 ·exact h i j hi hj q
 ·exact λe=>h j i hj hi (by omega) e.symm
theorem sh:∀(cs:List T) (i:Nat),(∀c∈cs,bH c=true)->(f8 i cs).length<=4*cs.length
 | [],i,_=>Jq _
 | x::cs,i,h=>by
  obtain⟨a,b,r,rfl,_,h2⟩:=gj (h x Ja)
  have:=sh cs (i+1) λc hc=>h c (IZ _ hc)
  rw[f8,Jj,iG,Ji]
  show r.length+_<=_
  omega
theorem As {cs:List T}{a b:T}(ha:aX cs a=true)(hb:aX cs b=true)(h:a≠b):a6 a b=false:=by
 obtain⟨c,k,rfl⟩:=dk ha;obtain⟨c',k',rfl⟩:=dk hb;rw[Bool.eq_false_iff];intro e;simp[a6,beqTs]at e;exact h (by rw[e.1,e.2])
theorem tj {cs:List T}{a:T}(ha:aX cs a=true):sm 8 a=true:=by
 obtain⟨c,k,rfl⟩:=dk ha;simp[sm,sms]
theorem Ab {l:List T}{i:Nat}(h:i<l.length):aN (.lst l) (.int (i:Int))= .ok l[i]:=by
 show(match L2.atI l (i:Int)with | some t=>Rs.ok t | none=> .bad)=_
 rw[kR (Jo h)]
theorem Fh (a b:Int):nF (.int a) (.int b)= .ok (.bl (a == b)):=by
 unfold nF;rw[if_pos (iF (by simp[T.dep]) rfl rfl)]
 rfl
theorem xR (ns:List Int)(hn:ns.length<=63)(a:Nat)(cs:List T)(hc:bq (.tup cs)=true):∃r,dD [.scr ns,.int a,.tup cs] = .ok r/\(r= .non\/(bu cs r=true/\sm 8 r=true)):=by
 obtain⟨ha,h1,h4⟩:=bW hc
 have hlen:=sh cs 0 ha
 have er:=uB cs hc
 have gl:∀s4 s5 s6 s7:Sl,cl ck (ac (vr 3) ag) [.va (.scr ns),.va (.int a),.va (.tup cs),.va (.lst (f8 0 cs)),s4,s5,s6,s7] = .ok (.int ((f8 0 cs).length:Nat)):=λ_ _ _ _=>rfl
 have s1:cX (cl cr (ac (vr 2) ag)) (gN 3) [.va (.scr ns),.va (.int a),.va (.tup cs),.em,.em,.em,.em,.em] = .ok (.nx [.va (.scr ns),.va (.int a),.va (.tup cs),.va (.lst (f8 0 cs)),.em,.em,.em,.em]):=cp (aK (ts:=[.tup cs]) rfl er) rfl
 have lt:o2 rX (cl ck (ac (vr 3) ag)) (cn (.int 2)) [.va (.scr ns),.va (.int a),.va (.tup cs),.va (.lst (f8 0 cs)),.em,.em,.em,.em] = .ok (.bl (decide (((f8 0 cs).length:Int)<2))):=aA (t:=.int ((f8 0 cs).length:Nat)) (u:=.int 2) (gl _ _ _ _) rfl rfl
 by_cases hs:(f8 0 cs).length<2
 ·refine⟨.non,bz rfl ?_,.inl rfl⟩
  show db [.va (.scr ns),.va (.int a),.va (.tup cs),.em,.em,.em,.em,.em] =_
  unfold db;rw[aw s1];rw[decide_eq_true (by omega)]at lt
  exact l8 ((jb (bw lt)).trans rfl)
 ·rw[decide_eq_false (by omega)]at lt
  generalize hN:(f8 0 cs).length=n at*
  obtain⟨d1,e1,p1,q1⟩:=dW ns a (n:Int) hn (by omega)
  obtain⟨d2,e2,p2,q2⟩:=dW ns (a+1) ((n:Int) - 1) hn (by omega)
  obtain⟨d3,e3,p3,q3⟩:=dW ns (a+2) 8 hn (by omega)
  obtain⟨d4,e4,p4,q4⟩:=dW ns (a+3) 3 hn (by omega)
  obtain⟨d5,e5,p5,q5⟩:=dW ns (a+4) 9 hn (by omega)
  obtain⟨i,rfl⟩:=Kh p1;obtain⟨d2,rfl⟩:=Kh p2
  have hi:i<(f8 0 cs).length:=by omega
  have hj:(i+1+d2) % n<(f8 0 cs).length:=by rw[hN];exact Nat.mod_lt _ (by omega)
  have hij:i≠(i+1+d2) % n:=by
   rcases Nat.lt_or_ge (i+1+d2) n with q | q
   ·rw[PZ q];omega
   ·have:(i+1+d2) % n=i+1+d2 - n:=by
     rw[Nat.mod_eq_sub_mod q,PZ (by omega)]
    rw[this];omega
  have eA:=wC (KU hi)
  have eB:=wC (KU hj)
  have eN:(f8 0 cs)[i] ≠(f8 0 cs)[(i+1+d2) % n]:=zv (lW cs 0) hi hj hij
  generalize hA:(f8 0 cs)[i] =A at*
  generalize hB:(f8 0 cs)[(i+1+d2) % n] =B at*
  let y:T:=if d4 == 0 then .non else .int (d3+d5)
  refine⟨.tup [A,B,.int d3,y],bz rfl ?_,.inr ⟨?_,?_⟩⟩
  ·show db [.va (.scr ns),.va (.int a),.va (.tup cs),.em,.em,.em,.em,.em] =_
   unfold db;rw[aw s1];rw[aw (Z':=[.va (.scr ns),.va (.int a),.va (.tup cs),.va (.lst (f8 0 cs)),.em,.em,.em,.em]) ((cJ (bw lt)).trans rfl)];rw[aw (Z':=[.va (.scr ns),.va (.int a),.va (.tup cs),.va (.lst (f8 0 cs)),.va (.int (i:Nat)),.em,.em,.em]) (cp (eQ e1 rfl rfl (gl _ _ _ _)) rfl)];rw[aw (Z':=[.va (.scr ns),.va (.int a),.va (.tup cs),.va (.lst (f8 0 cs)),.va (.int (i:Nat)),.va (.int ((i+1+d2) % n:Nat)),.em,.em]) (cp (t:=.int ((i+1+d2) % n:Nat)) (aA (t:=.int ((i:Int)+1+d2)) (u:=.int n) (aA (t:=.int ((i:Int)+1)) (u:=.int d2) rfl (eQ (k:=a+1) e2 rfl rfl (aA (t:=.int n) (u:=.int 1) (gl _ _ _ _) rfl rfl)) rfl) (gl _ _ _ _) (kM (by omega))) rfl)]
   rw[aw (Z':=[.va (.scr ns),.va (.int a),.va (.tup cs),.va (.lst (f8 0 cs)),.va (.int (i:Nat)),.va (.int ((i+1+d2) % n:Nat)),.va (.int d3),.em]) (cp (eQ (k:=a+2) e3 rfl rfl rfl) rfl)]
   have ey:pj (tb (o2 nF (cl aE (ac (vr 0) (ac (o2 aS (vr 1) (cn (.int 3))) (ac (cn (.int 3)) ag)))) (cn (.int 0)))) (cn .non) (o2 aS (vr 6) (cl aE (ac (vr 0) (ac (o2 aS (vr 1) (cn (.int 4))) (ac (cn (.int 9)) ag))))) [.va (.scr ns),.va (.int a),.va (.tup cs),.va (.lst (f8 0 cs)),.va (.int (i:Nat)),.va (.int ((i+1+d2) % n:Nat)),.va (.int d3),.em] = .ok y:=by
    rw[ja (bw (aA (u:=.int 0) (eQ (k:=a+3) e4 rfl rfl rfl) rfl (Fh _ _)))]
    show _=Rs.ok (if d4 == 0 then T.non else .int (d3+d5))
    cases d4 == 0 with
    | true=>rfl
    | false=>exact aA (t:=.int d3) rfl (eQ (k:=a+4) e5 rfl rfl rfl) rfl
   rw[aw (Z':=[.va (.scr ns),.va (.int a),.va (.tup cs),.va (.lst (f8 0 cs)),.va (.int (i:Nat)),.va (.int ((i+1+d2) % n:Nat)),.va (.int d3),.va y]) (cp ey rfl)];refine bQ (de (ao (t:=A) (aA (t:=.lst (f8 0 cs)) (u:=.int (i:Nat)) rfl rfl ?_) (ao (t:=B) (aA (t:=.lst (f8 0 cs)) (u:=.int ((i+1+d2) % n:Nat)) rfl rfl ?_) (ao (t:=.int d3) rfl (ao (t:=y) rfl rfl)))) (ax (k:=4) (by simp)))
   ·rw[<-hA];exact Ab hi
   ·rw[<-hB];exact Ab hj
  ·show(dw (.int d3) y&&(aX cs A&&(aX cs B&& !a6 A B)))=true
   rw[eA,eB,As eA eB eN]
   have:dw (.int d3) y=true:=by
    show(aU (.int d3) 0 999&&(match(T.int d3),(if d4 == 0 then T.non else .int (d3+d5))with | _,.non=>true | .int i,_=>aU (if d4 == 0 then T.non else .int (d3+d5)) i 999 | _,_=>false))=true
    cases d4 == 0 with
    | true=>simp[aU];omega
    | false=>simp[aU];omega
   rw[this];rfl
  ·refine sm_tup.mpr ⟨by simp,λt ht=> ?_⟩
   have hy:sm 8 y=true:=by show sm 8 (if d4 == 0 then T.non else .int (d3+d5))=true;cases d4 == 0 <;> simp[sm]
   simp only[Jh,J1,or_false]at ht;rcases ht with rfl | rfl | rfl | rfl
   ·exact tj eA
   ·exact tj eB
   ·simp[sm]
   ·exact hy
def Gx:Rs T->T
 | .ok t=>t
 | _=> .non
theorem v9 (l:List T)(k:Int)(h : -(2 ^ 63)<=k/\k<2 ^ 63/\l.length*k.toNat<=sizeLine):bK (.lst l) (.int k)= .ok (.lst (JC k.toNat l).flatten):=by
 show vm (.lst l) (.int k)=_
 unfold vm;exact if_pos h
theorem mul_one (x:T)(b:Bool):bK (.lst [x]) (.int (if b then 1 else 0))= .ok (.lst (if b then [x]else [])):=by
 cases b with
 | true=>exact v9 [x] 1 ⟨by decide,by decide,ax (k:=1) (by simp)⟩
 | false=>exact v9 [x] 0 ⟨by decide,by decide,ax (k:=1) (by simp)⟩
abbrev leF:En->Rs Fl:=au (cX (cl dD (ac (vr 0) (ac (o2 aS (o2 aS (vr 1) (cn (.int 31))) (o2 bK (cn (.int 6)) (vr 5))) (ac (vr 3) ag)))) (gN 6)) (cX (o2 aS (vr 4) (o2 bK (d7 (ac (vr 6) ag)) (cl Af (ac (o2 dy (vr 6) (cn .non)) ag)))) (gN 4))
def ya (cs ls:List T):Prop:=∀t∈ls,bu cs t=true/\sm 8 t=true
theorem B7 (ns:List Int)(hn:ns.length<=63)(a j:Nat)(m:T)(cs ls:List T)(hc:bq (.tup cs)=true)(h:ya cs ls)(hl:ls.length<=100)(s6:Sl) :
  ∃ls2 s7,leF [.va (.scr ns),.va (.int a),.va m,.va (.tup cs),.va (.lst ls),.va (.int j),s6] = .ok (.nx [.va (.scr ns),.va (.int a),.va m,.va (.tup cs),.va (.lst ls2),.va (.int j),s7])/\ya cs ls2/\ls2.length<=ls.length+1:=by
 obtain⟨r,er,hr⟩:=xR ns hn (a+31+6*j) cs hc
 have e1:∀G,au (cX (cl dD (ac (vr 0) (ac (o2 aS (o2 aS (vr 1) (cn (.int 31))) (o2 bK (cn (.int 6)) (vr 5))) (ac (vr 3) ag)))) (gN 6)) G [.va (.scr ns),.va (.int a),.va m,.va (.tup cs),.va (.lst ls),.va (.int j),s6] =G [.va (.scr ns),.va (.int a),.va m,.va (.tup cs),.va (.lst ls),.va (.int j),.va r]:=λG=>by
  refine aw (cp (t:=r) (aK (ts:=[.scr ns,.int (a+31+6*j:Nat),.tup cs]) (ao (t:=.scr ns) rfl (ao (t:=.int (a+31+6*j:Nat)) (aA (t:=.int ((a:Int)+31)) (u:=.int (6*(j:Int))) rfl (aA (t:=.int 6) (u:=.int j) rfl rfl (jA (by omega) (by omega))) rfl) (ao (t:=.tup cs) rfl rfl))) er) rfl)
 have e2:cl Af (ac (o2 dy (vr 6) (cn .non)) ag) [.va (.scr ns),.va (.int a),.va m,.va (.tup cs),.va (.lst ls),.va (.int j),.va r] = .ok (.int (if !r.isN then 1 else 0)):=aK (ts:=[.bl (!r.isN)]) rfl rfl
 refine⟨ls++(if !r.isN then [r]else []),.va r,?_,?_,?_⟩
 ·refine(e1 _).trans (cp (aA (t:=.lst ls) (u:=.lst (if !r.isN then [r]else [])) rfl (aA (t:=.lst [r]) (lE (ts:=[r]) rfl (ax (k:=1) (by simp))) e2 (mul_one _ _)) (wU _ _ ?_)) rfl)
  rw[Jj];cases r.isN <;> simp <;> omega
 ·intro t ht
  rcases JG.mp ht with ht | ht
  ·exact h t ht
  ·rcases hr with rfl | hr
   ·cases ht
   ·cases q:r.isN with
    | true=>rw[q]at ht;cases ht
    | false=>
     rw[q]at ht;rw[show t=r by simpa using ht]
     exact hr
 ·rw[Jj]
  cases r.isN <;> simp
theorem wn (ns:List Int)(hn:ns.length<=63)(a:Nat)(m:T)(cs:List T)(hc:bq (.tup cs)=true):∀(js:List Nat) (ls:List T) (s5 s6:Sl),ya cs ls->ls.length+js.length<=100 →
  ∃ls2 t5 t6,bj (gN 5) leF (js.map λ(j:Nat)=>T.int j) [.va (.scr ns),.va (.int a),.va m,.va (.tup cs),.va (.lst ls),s5,s6] = .ok (.nx [.va (.scr ns),.va (.int a),.va m,.va (.tup cs),.va (.lst ls2),t5,t6])/\ya cs ls2/\ls2.length<=ls.length+js.length
 | [],ls,s5,s6,h,_=>⟨ls,s5,s6,rfl,h,Jq _⟩
 | j::js,ls,s5,s6,h,hl=>by
  rw[Ji]at hl;obtain⟨l2,s7,e2,h2,n2⟩:=B7 ns hn a j m cs ls hc h (by omega) s6
  obtain⟨l3,t5,t6,e3,h3,n3⟩:=wn ns hn a m cs hc js l2 (.va (.int j)) s7 h2 (by omega)
  refine⟨l3,t5,t6,?_,h3,by rw[Ji];omega⟩
  rw[Jb,du (Z1:=[.va (.scr ns),.va (.int a),.va m,.va (.tup cs),.va (.lst ls),.va (.int j),s6]) rfl e2];exact e3
theorem Fj (ns:List Int)(hn:ns.length<=63)(a m:Nat)(hm:m<=8):∃cs ls,fZ [.scr ns,.int a,.int m] = .ok (.tup [.tup cs,.tup ls])/\bq (.tup cs)=true/\cs.length<=3/\(∀c∈cs,sm 8 c=true)/\ya cs ls/\ls.length<=m:=by
 obtain⟨d1,e1,p1,q1⟩:=dW ns a 3 hn (by omega)
 obtain⟨d2,e2,p2,q2⟩:=dW ns (a+30) ((m:Int)+1) hn (by omega)
 obtain⟨d1,rfl⟩:=Kh p1;obtain⟨d2,rfl⟩:=Kh p2
 let hcl:T->T:=λt=>match t with
  | .int k=>Gx (cS [.scr ns,.int ((a:Int)+1+8*k)])
  | _=> .non
 have hh:∀t∈rng 0 ((1+d1:Nat):Int),∃k:Nat,t= .int k/\cS [.scr ns,.int ((a+1+8*k:Nat):Int)] = .ok (hcl t)/\bH (hcl t)=true/\sm 8 (hcl t)=true:=λt ht=>by
  obtain⟨k,rfl,_⟩:=nh ht;obtain⟨c,ec,h1,h2⟩:=Az ns hn (a+1+8*k)
  have e:hcl (.int k)=c:=by
   show Gx (cS [.scr ns,.int ((a+1+8*k:Nat):Int)])=c
   rw[ec];rfl
  exact⟨k,rfl,by rw[e];exact ec,by rw[e];exact h1,by rw[e];exact h2⟩
 generalize hcs:(rng 0 ((1+d1:Nat):Int)).map hcl=cs
 have lc:cs.length=1+d1:=by rw[<-hcs,Jd,lj]
 have hc:bq (.tup cs)=true:=by
  show(eX (.tup cs) 1 4&&cs.all bH)=true
  rw[Jc,JH];refine⟨by simp[eX];omega,λc h=> ?_⟩
  rw[<-hcs]at h;obtain⟨t,ht,rfl⟩:=Jl.mp h;obtain⟨_,_,_,h1,_⟩:=hh t ht;exact h1
 have hsm:∀c∈cs,sm 8 c=true:=λc h=>by
  rw[<-hcs]at h;obtain⟨t,ht,rfl⟩:=Jl.mp h;obtain⟨_,_,_,_,h1⟩:=hh t ht;exact h1
 obtain⟨ls,t5,t6,el,hl,nl⟩:=wn ns hn a (.int m) cs hc (Js d2) [] .em .em (λt h=>by cases h) (by simp;omega)
 refine⟨cs,ls,bz rfl ?_,hc,by omega,hsm,hl,by simp at nl;omega⟩
 show eI [.va (.scr ns),.va (.int a),.va (.int m),.em,.em,.em,.em] =_
 unfold eI
 have s1:cX (cl fQ (ac (dO (iR (ac (o2 aS (cn (.int 1)) (cl aE (ac (vr 0) (ac (vr 1) (ac (cn (.int 3)) ag))))) ag)) [none,some 0,some 1] (gN 0) bT (cl cS (ac (vr 1) (ac (o2 aS (o2 aS (vr 2) (cn (.int 1))) (o2 bK (cn (.int 8)) (vr 0))) ag)))) ag)) (gN 3) [.va (.scr ns),.va (.int a),.va (.int m),.em,.em,.em,.em] = .ok (.nx [.va (.scr ns),.va (.int a),.va (.int m),.va (.tup cs),.em,.em,.em]):=by
  refine cp (t:=.tup cs) (aK (ts:=[.lst cs]) (ao (t:=.lst cs) ?_ rfl) rfl) rfl
  rw[<-hcs];refine m4 (ts:=rng 0 ((1+d1:Nat):Int)) (h:=hcl) (E9 (ao (t:=.int ((1+d1:Nat):Int)) (aA (t:=.int 1) (u:=.int d1) rfl (eQ e1 rfl rfl rfl) rfl) rfl) (by omega) (by omega)) (ax (k:=3) (by rw[lj];omega)) (by simp) λt ht=> ?_
  obtain⟨k,rfl,ek,_,_⟩:=hh t ht;refine aK (ts:=[.scr ns,.int ((a+1+8*k:Nat):Int)]) (ao (t:=.scr ns) rfl (ao (aA (t:=.int ((a:Int)+1)) (u:=.int (8*(k:Int))) rfl (aA (t:=.int 8) (u:=.int k) rfl rfl (jA (by omega) (by omega))) rfl) rfl)) ek
 rw[aw s1];rw[aw (Z':=[.va (.scr ns),.va (.int a),.va (.int m),.va (.tup cs),.va (.lst []),.em,.em]) (cp (lE (ts:=[]) rfl (ax (k:=0) (by simp))) rfl)]
 rw[aw ((ee (E9 (ao (eQ (k:=a+30) e2 rfl rfl (aA (t:=.int m) (u:=.int 1) rfl rfl rfl)) rfl) (by omega) (by omega)) (by rw[re];exact el)))]
 exact bQ (de (ao (t:=.tup cs) rfl (ao (t:=.tup ls) rfl rfl)) (ax (k:=2) (by simp)))
theorem dU {cs:List T}{t:T}(h:bu cs t=true):∃a b x y,t= .tup [a,b,x,y]/\dw x y=true/\aX cs a=true/\aX cs b=true/\a6 a b=false:=by
 unfold bu at h
 split at h
 ·simp only[Jc,Pq]at h
  exact⟨_,_,_,_,rfl,h.1,h.2.1,h.2.2.1,h.2.2.2⟩
 ·cases h
theorem DD {cs ls:List T}(hc:bq (.tup cs)=true)(hs:∀c∈cs,sm 8 c=true)(hl:ya cs ls)(hn:ls.length<=8):mK (.tup [.tup cs,.tup ls])=true/\sm 8 (.tup [.tup cs,.tup ls])=true:=by
 refine⟨?_,?_⟩
 ·show(bq (.tup cs)&&(eX (.tup ls) 0 8&&ls.all (bu cs)))=true
  rw[hc,Mc,Jc,JH];exact⟨by simp[eX];exact hn,λt ht=>(hl t ht).1⟩
 ·refine sm_tup.mpr ⟨by simp,λt ht=> ?_⟩
  simp only[Jh,J1,or_false]at ht;rcases ht with rfl | rfl
  ·exact sm_tup.mpr ⟨by have:=(bW hc).2.2;omega,hs⟩
  ·exact sm_tup.mpr ⟨hn,λt ht=>(hl t ht).2⟩
end G
namespace Tr
open PySem
section
variable {f fa fb:En->Rs T}{fs:En->Rs (List T)}{b c:En->Rs Bool}{F G:En->Rs Fl}{Z Z' Z1 Z2:En}{t u r:T}{ts l m:List T}
mutual
theorem mn:∀(t:T),t.pl=true->a6 t t=true
 | .non,_=>rfl
 | .bl a,_=>by simp[a6]
 | .int a,_=>by simp[a6]
 | .str a,_=>by simp[a6]
 | .tup l,h=>by rw[a6];exact beqTs_refl l (by unfold T.pl at h;exact h)
 | .lst l,h=>by rw[a6];exact beqTs_refl l (by unfold T.pl at h;exact h)
 | .scr _,h=>by simp[T.pl]at h
theorem beqTs_refl:∀(l:List T),plS l=true->beqTs l l=true
 | [],_=>rfl
 | t::l,h=>by
  unfold plS at h;rw[Jc]at h;rw[beqTs,mn t h.1,beqTs_refl l h.2];rfl
end
theorem jU (hp:t.pl=true)(hd:t.dep<=60):jg t t= .ok (.bl false):=by
 unfold jg;rw[if_pos (iF hd (T.HJ _ hp) (T.HJ _ hp)),mn t hp];rfl
theorem wE (hp:t.pl=true)(hd:t.dep<=60):nF t t= .ok (.bl true):=by
 unfold nF;rw[if_pos (iF hd (T.HJ _ hp) (T.HJ _ hp)),mn t hp]
theorem j6 {n:Nat}:∀{l:List T},(∀t∈l,t.dep<=n)->deps l<=n
 | [],_=>by unfold deps;omega
 | t::l,h=>by
  unfold deps
  have:=j6 (l:=l) λu hu=>h u (IZ _ hu)
  have:=h t Ja;omega
theorem gR:∀{l:List T},(∀t∈l,t.pl=true)->plS l=true
 | [],_=>rfl
 | t::l,h=>by unfold plS;rw[h t Ja,gR λu hu=>h u (IZ _ hu)];rfl
end
end Tr
namespace G
open PySem Tr
def dr (r:List Int)(k:Nat):Int:=r.getD (k+1) 0 - r.getD k 0
def pr (n:Nat)(x y:Int)(r:List Int)(k:Nat):List T:=
 [.tup [.tup [.int n,.int k],.tup [.int n,.int ((k+1:Nat):Int)],.int (dr r k*y)],.tup [.tup [.int n,.int ((k+1:Nat):Int)],.tup [.int n,.int k],.int (-dr r k*x)]]
def cB (n:Nat)(x y:Int)(r:List Int):List T:=(Js (r.length - 1)).flatMap (pr n x y r)
abbrev AM (n:Nat)(x y:Int)(r:List Int)(acc:List T)(s4 s5 s6 s7:Sl):En:=[.va (.int n),.va (.tup [.int x,.int y,.tup (r.map .int)]),.va (.tup (r.map .int)),.ow (.lst acc),s4,s5,s6,s7]
abbrev bcF:En->Rs Fl:=(au (cX (aR (ac (vr 0) (ac (vr 4) ag))) (gN 5)) (au (cX (aR (ac (vr 0) (ac (o2 aS (vr 4) (cn (.int 1))) ag))) (gN 6)) (au (cX (o2 bD (o2 aN (vr 2) (o2 aS (vr 4) (cn (.int 1)))) (o2 aN (vr 2) (vr 4))) (gN 7)) (au (iA 3 (aR (ac (vr 5) (ac (vr 6) (ac (o2 bK (vr 7) (o2 aN (vr 1) (cn (.int 1)))) ag))))) (iA 3 (aR (ac (vr 6) (ac (vr 5) (ac (o2 bK (o1 rQ (vr 7)) (o2 aN (vr 1) (cn (.int 0)))) ag)))))))))
theorem nB {r:List Int}{k:Nat}(h:k<r.length):(r.map T.int)[k]? =some (.int (r.getD k 0)):=by
 rw[JN,Jo h]
 simp[h]
theorem CH (n:Nat)(x y:Int)(r:List Int)(acc:List T)(k:Nat)(s5 s6 s7:Sl)(hk:k+1<r.length)(hx:0<=x/\x<=9)(hy:0<=y/\y<=9)(ha:acc.length<=100) :
  bcF (AM n x y r acc (.va (.int k)) s5 s6 s7)= .ok (.nx (AM n x y r (acc++pr n x y r k) (.va (.int k)) (.va (.tup [.int n,.int k])) (.va (.tup [.int n,.int ((k+1:Nat):Int)])) (.va (.int (dr r k))))):=by
 have h2:([T.int n,T.int k]:List T).length<=sizeLine:=ax (k:=2) (by simp)
 have ek:((k:Int)+1)=((k+1:Nat):Int):=by omega
 refine(aw (Z':=AM n x y r acc (.va (.int k)) (.va (.tup [.int n,.int k])) s6 s7) (cp (de rfl (ax (k:=2) (by simp))) rfl)).trans ?_
 refine(aw (Z':=AM n x y r acc (.va (.int k)) (.va (.tup [.int n,.int k])) (.va (.tup [.int n,.int ((k+1:Nat):Int)])) s7) (cp (de (ao rfl (ao (t:=.int ((k+1:Nat):Int)) (aA (t:=.int k) (u:=.int 1) rfl rfl (congrArg (λz=>Rs.ok (T.int z)) ek)) rfl)) (ax (k:=2) (by simp))) rfl)).trans ?_
 refine(aw (Z':=AM n x y r acc (.va (.int k)) (.va (.tup [.int n,.int k])) (.va (.tup [.int n,.int ((k+1:Nat):Int)])) (.va (.int (dr r k)))) (cp (t:=.int (dr r k)) (aA (t:=.int (r.getD (k+1) 0)) (u:=.int (r.getD k 0)) (xK (n:=k+1) rfl (aA (t:=.int k) (u:=.int 1) rfl rfl (congrArg (λz=>Rs.ok (T.int z)) ek)) (nB hk)) (xK (n:=k) rfl rfl (nB (by omega))) rfl) rfl)).trans ?_
 refine(aw (Z':=AM n x y r (acc++ [.tup [.tup [.int n,.int k],.tup [.int n,.int ((k+1:Nat):Int)],.int (dr r k*y)]]) (.va (.int k)) (.va (.tup [.int n,.int k])) (.va (.tup [.int n,.int ((k+1:Nat):Int)])) (.va (.int (dr r k)))) (mJ (l:=acc) (de (ao rfl (ao rfl (ao (aA (t:=.int (dr r k)) (u:=.int y) rfl rfl (zA (by omega) (by omega))) rfl))) (ax (k:=3) (by simp))) rfl (by omega))).trans ?_
 refine(mJ (l:=acc++ [.tup [.tup [.int n,.int k],.tup [.int n,.int ((k+1:Nat):Int)],.int (dr r k*y)]]) (de (ao rfl (ao rfl (ao (aA (t:=.int (-dr r k)) (u:=.int x) rfl rfl (zA (by omega) (by omega))) rfl))) (ax (k:=3) (by simp))) rfl (by rw[Jj];simp;omega)).trans ?_
 rw[JB]
 rfl
theorem wS (n:Nat)(x y:Int)(r:List Int)(hx:0<=x/\x<=9)(hy:0<=y/\y<=9):∀(js:List Nat) (acc:List T) (s4 s5 s6 s7:Sl),(∀k∈js,k+1<r.length)->acc.length+2*js.length<=100 →
  ∃t4 t5 t6 t7,bj (gN 4) bcF (js.map λ(k:Nat)=>T.int k) (AM n x y r acc s4 s5 s6 s7)= .ok (.nx (AM n x y r (acc++js.flatMap (pr n x y r)) t4 t5 t6 t7))
 | [],acc,s4,s5,s6,s7,_,_=>⟨s4,s5,s6,s7,by simp[bj]⟩
 | k::js,acc,s4,s5,s6,s7,hk,hl=>by
  rw[Ji]at hl
  have e:=CH n x y r acc k s5 s6 s7 (hk k Ja) hx hy (by omega)
  obtain⟨t4,t5,t6,t7,ih⟩:=wS n x y r hx hy js (acc++pr n x y r k) (.va (.int k)) (.va (.tup [.int n,.int k])) (.va (.tup [.int n,.int ((k+1:Nat):Int)])) (.va (.int (dr r k))) (λj hj=>hk j (IZ _ hj)) (by rw[Jj];simp[pr];omega)
  refine⟨t4,t5,t6,t7,?_⟩
  rw[Jb,du (Z1:=AM n x y r acc (.va (.int k)) s5 s6 s7) rfl e,ih,LN,JB]
theorem AD (n:Nat)(x y:Int)(r:List Int)(hx:0<=x/\x<=9)(hy:0<=y/\y<=9)(h1:1<=r.length)(h4:r.length<=4):cR [.int n,.tup [.int x,.int y,.tup (r.map .int)]] = .ok (.lst (cB n x y r)):=by
 refine bz rfl ?_
 show cW [.va (.int n),.va (.tup [.int x,.int y,.tup (r.map .int)]),.em,.em,.em,.em,.em,.em] =_
 unfold cW;rw[aw (Z':=[.va (.int n),.va (.tup [.int x,.int y,.tup (r.map .int)]),.va (.tup (r.map .int)),.em,.em,.em,.em,.em]) (cp (t:=.tup (r.map .int)) rfl rfl)];rw[aw (Z':=AM n x y r [] .em .em .em .em) rfl];obtain⟨t4,t5,t6,t7,e⟩:=wS n x y r hx hy (Js (r.length - 1)) [] .em .em .em .em (λk hk=>by have:=JR.mp hk;omega) (by simp;omega)
 have e1:iR (ac (o2 bD (cl ck (ac (vr 2) ag)) (cn (.int 1))) ag) (AM n x y r [] .em .em .em .em)= .ok (rng 0 ((r.length - 1:Nat):Int)):=by
  refine E9 (j:=((r.length - 1:Nat):Int)) (ao (aA (t:=.int (r.length:Nat)) (u:=.int 1) (aK (ts:=[.tup (r.map .int)]) rfl (by show Rs.ok (T.int ((r.map T.int).length:Nat))=_;rw[Jd])) rfl (congrArg (λz=>Rs.ok (T.int z)) (by omega))) rfl) (by omega) (by omega)
 rw[aw ((ee (ts:=(Js (r.length - 1)).map λ(k:Nat)=>T.int k) (by rw[e1,re]) e))]
 rfl
theorem fS {t:T}(h:bH t=true):∃(x y:Int) (r:List Int),t= .tup [.int x,.int y,.tup (r.map .int)]/\(0<=x/\x<=9)/\(0<=y/\y<=9)/\1<=r.length/\r.length<=4:=by
 obtain⟨x,y,r,rfl,h1,h4⟩:=gj h
 have h':(mW x y&&cU (.tup r))=true:=h;rw[Jc]at h';obtain⟨hp,hr⟩:=h';unfold mW at hp;rw[Jc]at hp;obtain⟨i,rfl,i1,i2⟩:=cj hp.1;obtain⟨j,rfl,j1,j2⟩:=cj (t:=y) (a:=i) (b:=9) hp.2;unfold cU at hr;rw[Jc]at hr
 have hr2:((r.all λu=>aU u 0 99)&&(match jx r with | some m=>ni m | none=>false))=true:=hr.2
 rw[Jc]at hr2;obtain⟨m,em⟩:=rL hr2.1
 have e:=oB em;subst e;rw[Jd]at h1 h4;exact⟨i,j,m,rfl,⟨by omega,by omega⟩,⟨by omega,by omega⟩,h1,h4⟩
def xB (n:Nat)(t:T):List T:=match t with
 | .tup [.int x,.int y,.tup r] =>match jx r with
  | some m=>cB n x y m
  | none=> []
 | _=> []
def bC:Nat->List T->List T
 | _,[] => []
 | i,c::r=>xB i c++bC (i+1) r
def lB (t:T):List T:=match t with
 | .tup [a,b,.int le,mo] => .tup [b,a,.int (-le)] ::(if mo.isN then []else [.tup [a,b,mo]])
 | _=> []
def uM (cs ls:List T):List T:=bC 0 cs++ls.flatMap lB
theorem kY (n:Nat)(x y:Int)(r:List Int):xB n (.tup [.int x,.int y,.tup (r.map .int)])=cB n x y r:=by
 unfold xB;simp only[gS]
theorem Fv (n:Nat)(x y:Int)(r:List Int):(cB n x y r).length=2*(r.length - 1):=by
 unfold cB;rw[List.length_flatMap]
 have:∀l:List Nat,(l.map λk=>(pr n x y r k).length).sum=2*l.length:=by
  intro l
  induction l with
  | nil=>rfl
  | cons a l ih=>rw[Jb,KZ,ih,Ji];simp[pr];omega
 rw[this,J2]
theorem uS {n:Nat}{t:T}(h:bH t=true):(xB n t).length<=6:=by
 obtain⟨x,y,r,rfl,_,_,h1,h4⟩:=fS h;rw[kY,Fv];omega
theorem sC:∀{cs:List T} {i:Nat},(∀c∈cs,bH c=true)->(bC i cs).length<=6*cs.length
 | [],i,_=>by simp[bC]
 | c::cs,i,h=>by
  rw[bC,Jj,Ji]
  have:=uS (n:=i) (h c Ja)
  have:=sC (cs:=cs) (i:=i+1) λc hc=>h c (IZ _ hc)
  omega
theorem vp (t:T):(lB t).length<=2:=by
 unfold lB;split
 ·rename_i a b le mo
  cases mo.isN <;> simp
 ·simp
theorem wt:∀(ls:List T),(ls.flatMap lB).length<=2*ls.length
 | [] =>by simp
 | t::ls=>by
  rw[LN,Jj,Ji]
  have:=vp t
  have:=wt ls;omega
theorem ie {cs:List T}{t:T}(h:bu cs t=true):∃(a b mo:T) (le:Int),t= .tup [a,b,.int le,mo]/\aX cs a=true/\aX cs b=true:=by
 obtain⟨a,b,x,y,rfl,hd,ha,hb,_⟩:=dU h;unfold dw at hd;rw[Jc]at hd;obtain⟨i,rfl,_⟩:=cj hd.1;exact⟨a,b,y,i,rfl,ha,hb⟩
theorem xS {cs:List T}{t:T}(h:bu cs t=true):cC [t] = .ok (.lst (lB t)):=by
 obtain⟨a,b,mo,le,rfl,_,_⟩:=ie h;refine bz rfl ?_
 show cE [.va (.tup [a,b,.int le,mo]),.em] =_
 unfold cE;rw[aw (Z':=[.va (.tup [a,b,.int le,mo]),.ow (.lst [.tup [b,a,.int (-le)]])]) (zW (l:=[.tup [b,a,.int (-le)]]) (ao (de (ao rfl (ao rfl (ao rfl rfl))) (ax (k:=3) (by simp))) rfl) (by simp) (by simp))]
 have e:∀(Z:En) l,Z= [.va (.tup [a,b,.int le,mo]),.ow (.lst l)]->o2 dy (o2 aN (vr 0) (cn (.int 3))) (cn .non) Z= .ok (.bl (!mo.isN)):=λZ l z=>by subst z;rfl
 have e2:lB (.tup [a,b,.int le,mo])= .tup [b,a,.int (-le)] ::(if mo.isN then []else [.tup [a,b,mo]]):=rfl
 rw[e2]
 cases q:mo.isN with
 | true=>
  rw[aw (Z':=[.va (.tup [a,b,.int le,mo]),.ow (.lst [.tup [b,a,.int (-le)]])]) ((cJ (bw (by rw[e _ _ rfl,q];rfl))).trans rfl)]
  rfl
 | false=>
  rw[aw (Z':=[.va (.tup [a,b,.int le,mo]),.ow (.lst ([.tup [b,a,.int (-le)]] ++ [.tup [a,b,mo]]))]) ((jb (bw (by rw[e _ _ rfl,q];rfl))).trans (mJ (l:=[.tup [b,a,.int (-le)]]) (de (ao rfl (ao rfl (ao rfl rfl))) (ax (k:=3) (by simp))) rfl (by simp)))]
  rfl
abbrev bdF:En->Rs Fl:=n5 1 (cl cR (ac (vr 2) (ac (vr 3) ag)))
abbrev bdG:T->En->Rs En:=gT 2 (dg (gN 2) (dg (gN 3) iV))
theorem wR (R:T)(s4:Sl):∀(cs:List T) (acc:List T) (i:Nat) (s2 s3:Sl),(∀c∈cs,bH c=true)->acc.length+6*cs.length<=100 →
  ∃y2 y3,bj bdG bdF (bv i cs) [.va R,.ow (.lst acc),s2,s3,s4] = .ok (.nx [.va R,.ow (.lst (acc++bC i cs)),y2,y3,s4])
 | [],acc,i,s2,s3,_,_=>⟨s2,s3,by simp[bv,bj,bC]⟩
 | c::cs,acc,i,s2,s3,hc,hl=>by
  have h0:=hc c Ja
  have hx:=uS (n:=i) h0;obtain⟨x,y,r,rfl,a1,a2,a3,a4⟩:=fS h0;rw[Ji]at hl;rw[kY]at hx
  have st:bdF [.va R,.ow (.lst acc),.va (.int i),.va (.tup [.int x,.int y,.tup (r.map .int)]),s4] = .ok (.nx [.va R,.ow (.lst (acc++cB i x y r)),.va (.int i),.va (.tup [.int x,.int y,.tup (r.map .int)]),s4]):=
   zZ (l:=acc) (aK (ts:=[.int i,.tup [.int x,.int y,.tup (r.map .int)]]) rfl (AD i x y r a1 a2 a3 a4)) rfl (by omega)
  obtain⟨z2,z3,ih⟩:=wR R s4 cs (acc++cB i x y r) (i+1) (.va (.int i)) (.va (.tup [.int x,.int y,.tup (r.map .int)])) (λc h=>hc c (IZ _ h)) (by rw[Jj];omega)
  refine⟨z2,z3,?_⟩
  rw[bv,du (Z1:=[.va R,.ow (.lst acc),.va (.int i),.va (.tup [.int x,.int y,.tup (r.map .int)]),s4]) rfl st,ih,bC,kY,JB]
abbrev blF:En->Rs Fl:=n5 1 (cl cC (ac (vr 4) ag))
theorem wQ (R:T)(cs:List T)(s2 s3:Sl):∀(ls:List T) (acc:List T) (s4:Sl),(∀t∈ls,bu cs t=true)->acc.length+2*ls.length<=100 →
  ∃y4,bj (gN 4) blF ls [.va R,.ow (.lst acc),s2,s3,s4] = .ok (.nx [.va R,.ow (.lst (acc++ls.flatMap lB)),s2,s3,y4])
 | [],acc,s4,_,_=>⟨s4,by simp[bj]⟩
 | t::ls,acc,s4,hl,hn=>by
  rw[Ji]at hn
  have:=vp t
  have st:blF [.va R,.ow (.lst acc),s2,s3,.va t] = .ok (.nx [.va R,.ow (.lst (acc++lB t)),s2,s3,.va t]):=zZ (l:=acc) (aK (ts:=[t]) rfl (xS (hl t Ja))) rfl (by omega)
  obtain⟨y4,ih⟩:=wQ R cs s2 s3 ls (acc++lB t) (.va t) (λu h=>hl u (IZ _ h)) (by rw[Jj];omega)
  refine⟨y4,?_⟩
  rw[du (Z1:=[.va R,.ow (.lst acc),s2,s3,.va t]) rfl st,ih,LN,JB]
theorem jy {R:T}(hp:R.pl=true)(h:mK R=true):br [R] = .ok .non:=by
 refine l7 (Z:=[.va R]) rfl ?_
 show eC [.va R] =_
 unfold eC;exact(cJ ((gh (k:=true) (bw (aK (ts:=[R]) rfl (by rw[Av R hp,h])))))).trans rfl
structure Good (cs ls:List T):Prop where
 c:bq (.tup cs)=true
 l:∀t∈ls,bu cs t=true
 n:ls.length<=8
 p:(T.tup [.tup cs,.tup ls]).pl=true
theorem Good.ok {cs ls:List T}(g:Good cs ls):mK (.tup [.tup cs,.tup ls])=true:=by
 show(bq (.tup cs)&&(eX (.tup ls) 0 8&&ls.all (bu cs)))=true
 rw[g.c,Mc,Jc,JH];exact⟨by simp[eX];exact g.n,g.l⟩
theorem AB {cs ls:List T}(g:Good cs ls):fB [.tup [.tup cs,.tup ls]] = .ok (.lst (uM cs ls)):=by
 obtain⟨hc,c1,c4⟩:=bW g.c
 have hn:=g.n;refine bz rfl ?_
 show jM [.va (.tup [.tup cs,.tup ls]),.em,.em,.em,.em] =_
 unfold jM;rw[aw (lF (t:=.non) (aK (ts:=[.tup [.tup cs,.tup ls]]) rfl (jy g.p g.ok)))];rw[aw (Z':=[.va (.tup [.tup cs,.tup ls]),.ow (.lst []),.em,.em,.em]) (r8 (by simp))]
 obtain⟨y2,y3,e⟩:=wR (.tup [.tup cs,.tup ls]) .em cs [] 0 .em .em hc (by simp;omega)
 rw[aw ((ee (ts:=bv 0 cs) rfl e))]
 have:=sC (i:=0) hc;obtain⟨y4,e2⟩:=wQ (.tup [.tup cs,.tup ls]) cs y2 y3 ls ([] ++bC 0 cs) .em g.l (by rw[Ko];omega)
 rw[aw ((ee (ts:=ls) rfl e2))]
 rfl
abbrev ye (R:T)(acc:List T)(n:Nat)(x y:Int)(r:List Int)(s6 s7 s8 s9 s10 s11:Sl):En:=[.va R,.ow (.lst acc),.va (.int n),.va (.int x),.va (.int y),.va (.tup (r.map .int)),s6,s7,s8,s9,s10,s11]
abbrev lkF:En->Rs Fl:=(au (cX (o2 bD (o2 aN (vr 5) (vr 6)) (o2 aN (vr 5) (o2 bD (vr 6) (cn (.int 1))))) (gN 7)) (au (iA 1 (aR (ac (aR (ac (vr 2) (ac (o2 bD (vr 6) (cn (.int 1))) ag))) (ac (aR (ac (vr 2) (ac (vr 6) ag))) (ac (o2 bK (vr 4) (vr 7)) ag))))) (iA 1 (aR (ac (aR (ac (vr 2) (ac (vr 6) ag))) (ac (aR (ac (vr 2) (ac (o2 bD (vr 6) (cn (.int 1))) ag))) (ac (o2 bD (cn (.int 0)) (o2 bK (vr 3) (vr 7))) ag)))))))
theorem B5 (R:T)(n:Nat)(x y:Int)(r:List Int)(acc:List T)(k:Nat)(s7 s8 s9 s10 s11:Sl)(hk:k+1<r.length)(hx:0<=x/\x<=9)(hy:0<=y/\y<=9)(ha:acc.length<=100) :
  lkF (ye R acc n x y r (.va (.int ((k+1:Nat):Int))) s7 s8 s9 s10 s11)= .ok (.nx (ye R (acc++pr n x y r k) n x y r (.va (.int ((k+1:Nat):Int))) (.va (.int (dr r k))) s8 s9 s10 s11)):=by
 have sb:∀acc s7,o2 bD (vr 6) (cn (.int 1)) (ye R acc n x y r (.va (.int ((k+1:Nat):Int))) s7 s8 s9 s10 s11)= .ok (.int k):=λacc s7=>aA (t:=.int ((k+1:Nat):Int)) (u:=.int 1) rfl rfl (congrArg (λz=>Rs.ok (T.int z)) (by omega))
 refine(aw (Z':=ye R acc n x y r (.va (.int ((k+1:Nat):Int))) (.va (.int (dr r k))) s8 s9 s10 s11) (cp (t:=.int (dr r k)) (aA (t:=.int (r.getD (k+1) 0)) (u:=.int (r.getD k 0)) (xK (n:=k+1) rfl rfl (nB hk)) (xK (n:=k) rfl (sb acc s7) (nB (by omega))) rfl) rfl)).trans ?_
 refine(aw (Z':=ye R (acc++ [.tup [.tup [.int n,.int k],.tup [.int n,.int ((k+1:Nat):Int)],.int (dr r k*y)]]) n x y r (.va (.int ((k+1:Nat):Int))) (.va (.int (dr r k))) s8 s9 s10 s11) (mJ (l:=acc) (de (ao (de (ao rfl (ao (sb _ _) rfl)) (ax (k:=2) (by simp))) (ao (de rfl (ax (k:=2) (by simp))) (ao (aA (t:=.int y) (u:=.int (dr r k)) rfl rfl ((jA (by omega) (by omega)).trans (by rw[Oc]))) rfl))) (ax (k:=3) (by simp))) rfl (by omega))).trans ?_
 refine(mJ (l:=acc++ [.tup [.tup [.int n,.int k],.tup [.int n,.int ((k+1:Nat):Int)],.int (dr r k*y)]]) (t:=.tup [.tup [.int n,.int ((k+1:Nat):Int)],.tup [.int n,.int k],.int (-dr r k*x)]) (de (ao (de rfl (ax (k:=2) (by simp))) (ao (de (ao rfl (ao (sb _ _) rfl)) (ax (k:=2) (by simp))) (ao (aA (t:=.int 0) (u:=.int (x*dr r k)) rfl (aA (t:=.int x) (u:=.int (dr r k)) rfl rfl (jA (by omega) (by omega))) (congrArg (λz=>Rs.ok (T.int z)) (by rw[NF,Oc x,PF]))) rfl))) (ax (k:=3) (by simp))) rfl (by rw[Jj];simp;omega)).trans ?_
 rw[JB]
 rfl
theorem wj (R:T)(n:Nat)(x y:Int)(r:List Int)(s8 s9 s10 s11:Sl)(hx:0<=x/\x<=9)(hy:0<=y/\y<=9):∀(js:List Nat) (acc:List T) (s6 s7:Sl),(∀k∈js,k+1<r.length)->acc.length+2*js.length<=100 →
  ∃t6 t7,bj (gN 6) lkF (js.map λ(k:Nat)=>T.int ((k+1:Nat):Int)) (ye R acc n x y r s6 s7 s8 s9 s10 s11)= .ok (.nx (ye R (acc++js.flatMap (pr n x y r)) n x y r t6 t7 s8 s9 s10 s11))
 | [],acc,s6,s7,_,_=>⟨s6,s7,by simp[bj]⟩
 | k::js,acc,s6,s7,hk,hl=>by
  rw[Ji]at hl
  have e:=B5 R n x y r acc k s7 s8 s9 s10 s11 (hk k Ja) hx hy (by omega)
  obtain⟨t6,t7,ih⟩:=wj R n x y r s8 s9 s10 s11 hx hy js (acc++pr n x y r k) (.va (.int ((k+1:Nat):Int))) (.va (.int (dr r k))) (λj hj=>hk j (IZ _ hj)) (by rw[Jj];simp[pr];omega)
  refine⟨t6,t7,?_⟩
  rw[Jb,du (Z1:=ye R acc n x y r (.va (.int ((k+1:Nat):Int))) s7 s8 s9 s10 s11) rfl e,ih,LN,JB]
theorem q0 (n:Nat)(h:1<=n):rng 1 (n:Int)=(Js (n - 1)).map λ(k:Nat)=>T.int ((k+1:Nat):Int):=by
 unfold rng
 have:((n:Int) - 1).toNat=n - 1:=by omega
 rw[this];exact JE λk _=>congrArg T.int (by omega)
theorem iR2 {f:En->Rs (List T)}{Z:En}{i j:Int}(h:f Z= .ok [.int i,.int j])(h0:0<=i)(h1:i<=100000)(h2:0<=j)(h3:j<=100000):iR f Z= .ok (rng i j):=by
 unfold iR;rw[h]
 have e:(vA i&&vA j)=true:=by unfold vA;simp;omega
 show(if (vA i&&vA j)=true then _ else _)=_
 rw[e];rfl
abbrev GE:En->Rs Fl:=(d6 (iR (ac (cn (.int 1)) (ac (cl ck (ac (vr 5) ag)) ag))) (gN 6) lkF)
abbrev lcG:T->En->Rs En:=gT 2 (dg (gN 2) (dg (gT 3 (dg (gN 3) (dg (gN 4) (dg (gN 5) iV)))) iV))
theorem wq (R:T)(s8 s9 s10 s11:Sl):∀(cs:List T) (acc:List T) (i:Nat) (s2 s3 s4 s5 s6 s7:Sl),(∀c∈cs,bH c=true)->acc.length+6*cs.length<=90 →
  ∃y2 y3 y4 y5 y6 y7,bj lcG GE (bv i cs) [.va R,.ow (.lst acc),s2,s3,s4,s5,s6,s7,s8,s9,s10,s11] = .ok (.nx [.va R,.ow (.lst (acc++bC i cs)),y2,y3,y4,y5,y6,y7,s8,s9,s10,s11])
 | [],acc,i,s2,s3,s4,s5,s6,s7,_,_=>⟨s2,s3,s4,s5,s6,s7,by simp[bv,bj,bC]⟩
 | c::cs,acc,i,s2,s3,s4,s5,s6,s7,hc,hl=>by
  have h0:=hc c Ja
  have hx:=uS (n:=i) h0;obtain⟨x,y,r,rfl,a1,a2,a3,a4⟩:=fS h0;rw[Ji]at hl;rw[kY]at hx;obtain⟨t6,t7,e⟩:=wj R i x y r s8 s9 s10 s11 a1 a2 (Js (r.length - 1)) acc s6 s7 (λk hk=>by have:=JR.mp hk;omega) (by rw[J2];omega)
  have e1:iR (ac (cn (.int 1)) (ac (cl ck (ac (vr 5) ag)) ag)) (ye R acc i x y r s6 s7 s8 s9 s10 s11)= .ok (rng 1 (r.length:Nat)):=
   iR2 (i:=1) (j:=(r.length:Nat)) (ao rfl (ao (aK (ts:=[.tup (r.map .int)]) rfl (by show Rs.ok (T.int ((r.map T.int).length:Nat))=_;rw[Jd])) rfl)) (by omega) (by omega) (by omega) (by omega)
  have st:GE (ye R acc i x y r s6 s7 s8 s9 s10 s11)= .ok (.nx (ye R (acc++cB i x y r) i x y r t6 t7 s8 s9 s10 s11)):=(ee (ts:=(Js (r.length - 1)).map λ(k:Nat)=>T.int ((k+1:Nat):Int)) (by rw[e1,q0 _ a3]) e)
  obtain⟨z2,z3,z4,z5,z6,z7,ih⟩:=wq R s8 s9 s10 s11 cs (acc++cB i x y r) (i+1) (.va (.int i)) (.va (.int x)) (.va (.int y)) (.va (.tup (r.map .int))) t6 t7 (λc h=>hc c (IZ _ h)) (by rw[Jj];omega)
  refine⟨z2,z3,z4,z5,z6,z7,?_⟩
  rw[bv,du (Z1:=ye R acc i x y r s6 s7 s8 s9 s10 s11) rfl st,ih,bC,kY,JB]
abbrev llF:En->Rs Fl:=(au (iA 1 (aR (ac (vr 9) (ac (vr 8) (ac (o2 bD (cn (.int 0)) (vr 10)) ag))))) (dY (tb (o2 dy (vr 11) (cn .non))) (iA 1 (aR (ac (vr 8) (ac (vr 9) (ac (vr 11) ag))))) sN))
abbrev llG:T->En->Rs En:=gT 4 (dg (gN 8) (dg (gN 9) (dg (gN 10) (dg (gN 11) iV))))
theorem wg (R:T)(cs:List T)(s2 s3 s4 s5 s6 s7:Sl):∀(ls:List T) (acc:List T) (s8 s9 s10 s11:Sl),(∀t∈ls,bu cs t=true)->acc.length+2*ls.length<=100 →
  ∃y8 y9 y10 y11,bj llG llF ls [.va R,.ow (.lst acc),s2,s3,s4,s5,s6,s7,s8,s9,s10,s11] = .ok (.nx [.va R,.ow (.lst (acc++ls.flatMap lB)),s2,s3,s4,s5,s6,s7,y8,y9,y10,y11])
 | [],acc,s8,s9,s10,s11,_,_=>⟨s8,s9,s10,s11,by simp[bj]⟩
 | t::ls,acc,s8,s9,s10,s11,hl,hn=>by
  rw[Ji]at hn
  have hlb:=vp t;obtain⟨a,b,mo,le,rfl,_,_⟩:=ie (hl t Ja)
  have e2:lB (.tup [a,b,.int le,mo])= .tup [b,a,.int (-le)] ::(if mo.isN then []else [.tup [a,b,mo]]):=rfl
  have e:∀l,o2 dy (vr 11) (cn .non) [.va R,.ow (.lst l),s2,s3,s4,s5,s6,s7,.va a,.va b,.va (.int le),.va mo] = .ok (.bl (!mo.isN)):=λl=>rfl
  have st:llF [.va R,.ow (.lst acc),s2,s3,s4,s5,s6,s7,.va a,.va b,.va (.int le),.va mo] = .ok (.nx [.va R,.ow (.lst (acc++lB (.tup [a,b,.int le,mo]))),s2,s3,s4,s5,s6,s7,.va a,.va b,.va (.int le),.va mo]):=by
   refine(aw (Z':=[.va R,.ow (.lst (acc++ [.tup [b,a,.int (-le)]])),s2,s3,s4,s5,s6,s7,.va a,.va b,.va (.int le),.va mo]) (mJ (l:=acc) (t:=.tup [b,a,.int (-le)]) (de (ao rfl (ao rfl (ao (aA (t:=.int 0) (u:=.int le) rfl rfl (congrArg (λz=>Rs.ok (T.int z)) (PF le))) rfl))) (ax (k:=3) (by simp))) rfl (by omega))).trans ?_
   rw[e2]
   cases q:mo.isN with
   | true=>exact(cJ (bw (by rw[e,q];rfl))).trans rfl
   | false=>
    refine(jb (bw (by rw[e,q];rfl))).trans ((mJ (l:=acc++ [.tup [b,a,.int (-le)]]) (t:=.tup [a,b,mo]) (de (ao rfl (ao rfl (ao rfl rfl))) (ax (k:=3) (by simp))) rfl (by rw[Jj];simp;omega)).trans ?_)
    rw[JB]
    rfl
  obtain⟨y8,y9,y10,y11,ih⟩:=wg R cs s2 s3 s4 s5 s6 s7 ls (acc++lB (.tup [a,b,.int le,mo])) (.va a) (.va b) (.va (.int le)) (.va mo) (λu h=>hl u (IZ _ h)) (by rw[Jj];omega)
  refine⟨y8,y9,y10,y11,?_⟩
  rw[du (Z1:=[.va R,.ow (.lst acc),s2,s3,s4,s5,s6,s7,.va a,.va b,.va (.int le),.va mo]) rfl st,ih,LN,JB]
theorem xQ {cs ls:List T}(hcs:bq (.tup cs)=true)(hls:∀t∈ls,bu cs t=true)(hn:ls.length<=8):dE [.tup [.tup cs,.tup ls]] = .ok (.lst (uM cs ls)):=by
 obtain⟨hc,c1,c4⟩:=bW hcs;refine bz rfl ?_
 show eJ [.va (.tup [.tup cs,.tup ls]),.em,.em,.em,.em,.em,.em,.em,.em,.em,.em,.em] =_
 unfold eJ;rw[aw (Z':=[.va (.tup [.tup cs,.tup ls]),.ow (.lst []),.em,.em,.em,.em,.em,.em,.em,.em,.em,.em]) (r8 (by simp))]
 obtain⟨y2,y3,y4,y5,y6,y7,e⟩:=wq (.tup [.tup cs,.tup ls]) .em .em .em .em cs [] 0 .em .em .em .em .em .em hc (by simp;omega)
 rw[aw ((ee (ts:=bv 0 cs) rfl e))]
 have:=sC (i:=0) hc;obtain⟨y8,y9,y10,y11,e2⟩:=wg (.tup [.tup cs,.tup ls]) cs y2 y3 y4 y5 y6 y7 ls ([] ++bC 0 cs) .em .em .em .em hls (by rw[Ko];omega)
 rw[aw ((ee (ts:=ls) rfl e2))]
 rfl
theorem ij {l:List T}:(T.tup l).pl=plS l:=by unfold T.pl;rfl
theorem Good.parts {cs ls:List T}(g:Good cs ls):(T.tup cs).pl=true/\∀t∈ls,t.pl=true:=by
 have:=g.p;rw[ij]at this;unfold plS at this;rw[Jc]at this
 have h2:=this.2;unfold plS at h2;rw[Jc,ij]at h2;exact⟨this.1,λt ht=>jR h2.1 ht⟩
theorem Dc {cs:List T}{y:T}(h:aX cs y=true):y.pl=true/\y.dep<=1:=by
 obtain⟨c,k,rfl⟩:=dk h;exact⟨rfl,by simp[T.dep,deps]⟩
theorem GB {cs:List T}{a b x y:T}(h:bu cs (.tup [a,b,x,y])=true):y.pl=true/\y.dep=0:=by
 obtain⟨a',b',x',y',e,hd,_⟩:=dU h;cases e;unfold dw at hd;rw[Jc]at hd;obtain⟨i,rfl,_⟩:=cj hd.1
 cases y with
 | non=>exact⟨rfl,rfl⟩
 | int j=>exact⟨rfl,rfl⟩
 | bl j=>exact⟨rfl,rfl⟩
 | str j=>exact⟨rfl,rfl⟩
 | tup j=>cases hd.2
 | lst j=>cases hd.2
 | scr j=>cases hd.2
 | dct _ _=>cases hd.2
theorem Dw {t:T}(h:sm 8 t=true):t.pl=true:=CZ t h
abbrev peF:En->Rs Fl:=n5 1 (dO (iR (ac (cl ck (ac (o2 aN (vr 3) (cn (.int 2))) ag)) ag)) [none,some 2] (gN 0) bT (aR (ac (vr 1) (ac (vr 0) ag))))
theorem tO (c0 s1:Sl)(x y:T)(r:List T)(i:Nat)(h:r.length<=4) :
  dO (iR (ac (cl ck (ac (o2 aN (vr 3) (cn (.int 2))) ag)) ag)) [none,some 2] (gN 0) bT (aR (ac (vr 1) (ac (vr 0) ag))) [c0,s1,.va (.int i),.va (.tup [x,y,.tup r])] = .ok (.lst (m7 i r.length)):=
 m4 (E9 (j:=(r.length:Int)) rfl (by omega) (by omega)) (ax (k:=4) (by rw[lj];exact h)) (by simp) λt _=>mk2 _ _
theorem vY:∀(cs:List T) (c0:T) (acc:List T) (i:Nat) (s2 s3:Sl),(∀c∈cs,bH c=true)->acc.length+4*cs.length<=100 →
  ∃y2 y3,bj evG peF (bv i cs) [.va c0,.ow (.lst acc),s2,s3] = .ok (.nx [.va c0,.ow (.lst (acc++f8 i cs)),y2,y3])
 | [],c0,acc,i,s2,s3,_,_=>⟨s2,s3,by simp[bv,bj,f8]⟩
 | c::cs,c0,acc,i,s2,s3,hc,hl=>by
  obtain⟨x,y,r,rfl,r1,r2⟩:=gj (hc c Ja);rw[Ji]at hl
  have st:peF [.va c0,.ow (.lst acc),.va (.int i),.va (.tup [x,y,.tup r])] = .ok (.nx [.va c0,.ow (.lst (acc++m7 i r.length)),.va (.int i),.va (.tup [x,y,.tup r])]):=zZ (l:=acc) (tO _ _ x y r i r2) rfl (by rw[iG];omega)
  obtain⟨z2,z3,ih⟩:=vY cs c0 (acc++m7 i r.length) (i+1) (.va (.int i)) (.va (.tup [x,y,.tup r])) (λc h=>hc c (IZ _ h)) (by rw[Jj,iG];omega)
  refine⟨z2,z3,?_⟩
  rw[bv,du (Z1:=[.va c0,.ow (.lst acc),.va (.int i),.va (.tup [x,y,.tup r])]) rfl st,ih,f8,JB]
  rfl
theorem zh {cs ls:List T}(g:Good cs ls):cQ [.tup [.tup cs,.tup ls]] = .ok (.lst (f8 0 cs)):=by
 obtain⟨hc,c1,c4⟩:=bW g.c;refine bz rfl ?_
 show jK [.va (.tup [.tup cs,.tup ls]),.em,.em,.em] =_
 unfold jK;rw[aw (lF (t:=.non) (aK (ts:=[.tup [.tup cs,.tup ls]]) rfl (jy g.p g.ok)))];rw[aw (Z':=[.va (.tup [.tup cs,.tup ls]),.ow (.lst []),.em,.em]) (r8 (by simp))]
 obtain⟨y2,y3,e⟩:=vY cs (.tup [.tup cs,.tup ls]) [] 0 .em .em hc (by simp;omega)
 rw[aw ((ee (ts:=bv 0 cs) rfl e))]
 rfl
theorem v8 {cs ls:List T}{t:T}(g:Good cs ls)(ht:t.pl=true)(h:aX cs t=true):fA [.tup [.tup cs,.tup ls],t] = .ok .non:=by
 refine l7 (Z:=[.va (.tup [.tup cs,.tup ls]),.va t]) rfl ?_
 show fG [.va (.tup [.tup cs,.tup ls]),.va t] =_
 unfold fG;exact(cJ ((gh (k:=true) (bw (aK (ts:=[.tup cs,t]) rfl (by rw[si cs t g.c ht,h])))))).trans rfl
theorem lZ {g:T->En->Rs En}{F:En->Rs Fl}(J:En->Prop){ts:List T}(h:∀t∈ts,∀Z,J Z->∃Z1 Z2,g t Z= .ok Z1/\F Z1= .ok (.nx Z2)/\J Z2){Z:En}(hj:J Z):∃Z',bj g F ts Z= .ok (.nx Z')/\J Z':=
 (ug (p:=λ_=>true) J ts (λt ht Z hj=>by
  obtain⟨Z1,Z2,a,b,c⟩:=h t ht Z hj;exact⟨Z1,a,λ_=>⟨Z2,b,c⟩,λh=>by cases h⟩) Z hj).1 (by simp)
theorem p2 {a b:En->Rs T}{t u:T}{Z:En}(ha:a Z= .ok t)(hb:b Z= .ok u):aR (ac a (ac b ag)) Z= .ok (.tup [t,u]):=de (ao ha (ao hb rfl)) (ax (k:=2) (by simp))
theorem jP {l:List T}:fQ [.lst l] = .ok (.tup l):=rfl
theorem CG {cs ls:List T}(g:Good cs ls):(uM cs ls).length<=60:=by
 unfold uM;rw[Jj];obtain⟨hc,c1,c4⟩:=bW g.c
 have:=sC (i:=0) hc
 have:=wt ls
 have:=g.n;omega
end G
namespace Gr
variable {ν:Type}[DecidableEq ν]
abbrev bL (ν:Type):=List (ν×ν×Int)
inductive Wk (L:bL ν):ν->ν->Int->Prop
 | nil (a:ν):Wk L a a 0
 | step {a b c:ν} {m s:Int}:(a,b,m)∈L->Wk L b c s->Wk L a c (m+s)
theorem Wk.one {L:bL ν}{a b:ν}{m:Int}(h:(a,b,m)∈L):Wk L a b m:=by
 have:=Wk.step h (Wk.nil (L:=L) b)
 rwa [Int.add_zero]at this
theorem Wk.app {L:bL ν}{a b c:ν}{s t:Int}(h:Wk L a b s)(k:Wk L b c t):Wk L a c (s+t):=by
 induction h with
 | nil a=>rwa [Int.zero_add]
 | step e _ ih=>rw[Int.add_assoc];exact .step e (ih k)
theorem Wk.mono {L M:bL ν}(h:∀x∈L,x∈M){a b:ν}{s:Int}(w:Wk L a b s):Wk M a b s:=by
 induction w with
 | nil a=>exact .nil a
 | step e _ ih=>exact .step (h _ e) ih
def Holds (L:bL ν)(t:ν->Int):Prop:=∀a b m,(a,b,m)∈L->t b - t a<=m
theorem Holds.walk {L:bL ν}{t:ν->Int}(h:Holds L t){a b:ν}{s:Int}(w:Wk L a b s):t b - t a<=s:=by
 induction w with
 | nil a=>omega
 | step e _ ih=>have:=h _ _ _ e;omega
def NoNeg (L:bL ν):Prop:=∀a s,Wk L a a s->0<=s
theorem Holds.Iu {L:bL ν}{t:ν->Int}(h:Holds L t):NoNeg L:=λa s w=>by have:=h.walk w;omega
theorem NoNeg.mono {L M:bL ν}(h:∀x∈L,x∈M)(n:NoNeg M):NoNeg L:=λa s w=>n a s (w.mono h)
def Ch (L:bL ν):ν->List Nat->ν->Prop
 | a,[],b=>a=b
 | a,k::r,b=> ∃c m,L[k]? =some (a,c,m)/\Ch L c r b
def most (L:bL ν)(k:Nat):Int:=match L[k]? with
 | some x=>x.2.2
 | none=>0
def fM (L:bL ν):List Nat->Int
 | [] =>0
 | k::r=>most L k+fM L r
theorem lN (L:bL ν):∀(p q:List Nat),fM L (p++q)=fM L p+fM L q
 | [],q=>by simp[fM]
 | k::p,q=>by rw[List.cons_append,fM,fM,lN L p q];omega
theorem Ch.wk {L:bL ν}:∀{ks:List Nat} {a b:ν},Ch L a ks b->Wk L a b (fM L ks)
 | [],a,b,h=>by cases h;exact .nil a
 | k::r,a,b,⟨c,m,e,h⟩=>by
  have:fM L (k::r)=m+fM L r:=by rw[fM,most,e]
  rw[this];exact .step (Ks e) h.wk
theorem Ch.app {L:bL ν}:∀{p q:List Nat} {a b c:ν},Ch L a p b->Ch L b q c->Ch L a (p++q) c
 | [],q,a,b,c,h,k=>by cases h;exact k
 | x::p,q,a,b,c,⟨d,m,e,h⟩,k=>⟨d,m,e,Ch.app h k⟩
theorem Ch.lt {L:bL ν}:∀{ks:List Nat} {a b:ν},Ch L a ks b->∀k∈ks,k<L.length
 | [],_,_,_,k,hk=>by simp at hk
 | x::r,a,b,⟨c,m,e,h⟩,k,hk=>by
  rcases Jh.mp hk with rfl | hk
  ·exact(Ju.mp e).1
  ·exact h.lt k hk
theorem Ch.snoc {L:bL ν}{p:List Nat}{k:Nat}{a b c:ν}{m:Int}(h:Ch L a p b)(e:L[k]? =some (b,c,m)):Ch L a (p++ [k]) c:=h.app ⟨c,m,e,rfl⟩
def src (L:bL ν)(k:Nat):Option ν:=(L[k]?).map (·.1)
abbrev cv (ν:Type):=ν->Option (Int×List Nat)
def put (b:cv ν)(v:ν)(x:Int×List Nat):cv ν:=λu=>if u=v then some x else b u
theorem fw {b:cv ν}{v:ν}{x:Int×List Nat}:put b v x v=some x:=by unfold put;rw[if_pos rfl]
theorem kF {b:cv ν}{u v:ν}{x:Int×List Nat}(h:u≠v):put b v x u=b u:=by unfold put;rw[if_neg h]
def fL (L:bL ν)(ks:List Nat):List ν:=ks.filterMap (src L)
def fE (b:cv ν)(v:ν)(d:Int):Bool:=match b v with
 | none=>true
 | some x=>decide (d<x.1)
def iB (L:bL ν)(b:cv ν)(k:Nat)(x:ν×ν×Int):Sum (Option (cv ν)) (List Nat):=match b x.1 with
 | none=> .inl none
 | some (d,w)=>if fE b x.2.1 (d+x.2.2)=true then
   if x.2.1∈fL L (w++ [k])then .inr ((w++ [k]).drop ((fL L (w++ [k])).idxOf x.2.1))else .inl (some (put b x.2.1 (d+x.2.2,w++ [k])))
  else .inl none
def i0 (L:bL ν):Nat->bL ν->cv ν->Bool->Sum (cv ν×Bool) (List Nat)
 | _,[],b,mv=> .inl (b,mv)
 | k,x::r,b,mv=>match iB L b k x with
  | .inr q=> .inr q
  | .inl none=>i0 L (k+1) r b mv
  | .inl (some b')=>i0 L (k+1) r b' true
def settle (L:bL ν):Nat->cv ν->Option (Sum (cv ν) (List Nat))
 | 0,_=>none
 | n+1,b=>match i0 L 0 L b false with
  | .inr q=>some (.inr q)
  | .inl (b',true)=>settle L n b'
  | .inl (b',false)=>some (.inl b')
theorem rp (L:bL ν)(p q:List Nat):fL L (p++q)=fL L p++fL L q:=by unfold fL;rw[List.filterMap_append]
theorem ro {L:bL ν}{k:Nat}{x:ν×ν×Int}(e:L[k]? =some x):fL L [k] = [x.1]:=by unfold fL src;simp[e]
theorem Ch.HN {L:bL ν}{k:Nat}{r:List Nat}{a b:ν}(h:Ch L a (k::r) b):fL L (k::r)=a::fL L r:=by
 obtain⟨c,m,e,_⟩:=h;rw[show k::r= [k] ++r from rfl,rp,ro e];rfl
theorem Ch.cut {L:bL ν}{v:ν}:∀{ks:List Nat} {a b:ν},Ch L a ks b->v∈fL L ks->Ch L a (ks.take ((fL L ks).idxOf v)) v/\Ch L v (ks.drop ((fL L ks).idxOf v)) b/\(fL L ks).idxOf v<ks.length
 | [],a,b,_,hv=>by simp[fL]at hv
 | k::r,a,b,h,hv=>by
  rw[h.HN]at hv ⊢
  have h0:=h;obtain⟨c,m,e,h⟩:=h
  by_cases z:a=v
  ·subst z
   rw[List.idxOf_cons_self];exact⟨rfl,h0,by simp⟩
  ·have hv':v∈fL L r:=by
    rcases Jh.mp hv with q | q
    ·exact absurd q.symm z
    ·exact q
   obtain⟨h1,h2,h3⟩:=h.cut hv'
   have ei:(a::fL L r).idxOf v=(fL L r).idxOf v+1:=by
    rw[Qj]
    have:(a == v)=false:=by rw[beq_eq_false_iff_ne];exact z
    rw[this];rfl
   rw[ei];exact⟨⟨c,m,e,h1⟩,h2,by simpa using h3⟩
structure Kept (L:bL ν)(S:List ν)(b:cv ν):Prop where
 walk:∀v d w,b v=some (d,w)->∃s∈S,Ch L s w v/\fM L w=d/\v∉fL L w/\(fL L w).Nodup/\∀p q u,w=p++q->Ch L s p u->∃d' w',b u=some (d',w')/\d'<=fM L p
 start:∀s∈S,∃d w,b s=some (d,w)/\d<=0
theorem Kept.put {L:bL ν}{S:List ν}{b:cv ν}(K:Kept L S b){k:Nat}{a c:ν}{m d:Int}{w:List Nat}(e:L[k]? =some (a,c,m))(ha:b a=some (d,w))(hb:fE b c (d+m)=true)(hn:c∉fL L (w++ [k])) :
  Kept L S (put b c (d+m,w++ [k])):=by
 have low:∀u d' w',b u=some (d',w')->∃d'' w'',Gr.put b c (d+m,w++ [k]) u=some (d'',w'')/\d''<=d':=λu d' w' h=>by
  by_cases z:u=c
  ·subst z
   refine⟨_,_,fw,?_⟩
   unfold fE at hb;rw[h]at hb
   have:=of_decide_eq_true hb;omega
  ·exact⟨d',w',by rw[kF z];exact h,Kl _⟩
 obtain⟨s,hs,h1,h2,h3,h4,h5⟩:=K.walk a d w ha
 have hch:Ch L s (w++ [k]) c:=h1.snoc e
 have hcost:fM L (w++ [k])=d+m:=by rw[lN,h2,fM,fM,most,e];simp
 refine⟨λv d' w' h=> ?_,λs' hs'=> ?_⟩
 ·by_cases z:v=c
  ·subst z
   rw[fw]at h;cases h;refine⟨s,hs,hch,hcost,hn,?_,λp q u hpq hp=> ?_⟩
   ·rw[rp,ro e]
    exact Kf.mpr ⟨h4,by simp,λx hx y hy=>by simp at hy;subst hy;exact λz=>h3 (z▸hx)⟩
   ·by_cases hq:q= []
    ·subst hq
     rw[Kd]at hpq;subst hpq
     have:u=v:=by
      clear low hb hn h5
      have aux:∀{ks:List Nat} {x y z:ν},Ch L x ks y->Ch L x ks z->y=z:=by
       intro ks
       induction ks with
       | nil=>intro x y z h1 h2;cases h1;cases h2;rfl
       | cons k r ih=>
        rintro x y z ⟨c1,m1,e1,r1⟩ ⟨c2,m2,e2,r2⟩
        rw[e1]at e2;cases e2;exact ih r1 r2
      exact aux hp hch
     subst this;exact⟨_,_,fw,by rw[hcost];exact Kl _⟩
    ·have hw:∃q',w=p++q':=by
      refine⟨q.dropLast,?_⟩
      have:=congrArg List.dropLast hpq;rw[List.dropLast_concat,List.dropLast_append_of_ne_nil hq]at this;exact this
     obtain⟨q',hw⟩:=hw;obtain⟨d1,w1,e1,l1⟩:=h5 p q' u hw hp;obtain⟨d2,w2,e2,l2⟩:=low u d1 w1 e1;exact⟨d2,w2,e2,by omega⟩
  ·rw[kF z]at h
   obtain⟨s',hs',g1,g2,g3,g4,g5⟩:=K.walk v d' w' h;refine⟨s',hs',g1,g2,g3,g4,λp q u hpq hp=> ?_⟩
   obtain⟨d1,w1,e1,l1⟩:=g5 p q u hpq hp;obtain⟨d2,w2,e2,l2⟩:=low u d1 w1 e1;exact⟨d2,w2,e2,by omega⟩
 ·obtain⟨d1,w1,e1,l1⟩:=K.start s' hs'
  obtain⟨d2,w2,e2,l2⟩:=low s' d1 w1 e1;exact⟨d2,w2,e2,by omega⟩
def Bar (L:bL ν)(q:List Nat):Prop:=q≠ []/\(∃a,Ch L a q a)/\fM L q<0/\(fL L q).Nodup
theorem Ch.Ia {L:bL ν}:∀{ks:List Nat} {a b:ν} (i:Nat),Ch L a ks b->fL L (ks.drop i)=(fL L ks).drop i
 | [],_,_,i,_=>by simp[fL]
 | k::r,a,b,0,_=>rfl
 | k::r,a,b,i+1,h=>by
  have:=h;obtain⟨c,m,e,h'⟩:=this;rw[h.HN,OH,OH,h'.Ia i]
theorem Kept.round {L:bL ν}{S:List ν}{b:cv ν}(K:Kept L S b){k:Nat}{a c:ν}{m d:Int}{w:List Nat}(e:L[k]? =some (a,c,m))(ha:b a=some (d,w))(hb:fE b c (d+m)=true)(hn:c∈fL L (w++ [k])) :
  Bar L ((w++ [k]).drop ((fL L (w++ [k])).idxOf c)):=by
 obtain⟨s,hs,h1,h2,h3,h4,h5⟩:=K.walk a d w ha
 have hch:Ch L s (w++ [k]) c:=h1.snoc e
 have hcost:fM L (w++ [k])=d+m:=by rw[lN,h2,fM,fM,most,e];simp
 obtain⟨c1,c2,c3⟩:=hch.cut hn
 generalize hi:(fL L (w++ [k])).idxOf c=i at c1 c2 c3
 refine⟨λz=> ?_,⟨c,c2⟩,?_,?_⟩
 ·have:=congrArg Kn z
  rw[K6]at this
  simp at this c3
  omega
 ·have hsum:fM L ((w++ [k]).take i)+fM L ((w++ [k]).drop i)=d+m:=by rw[<-lN,Oe,hcost]
  have hiw:i<=w.length:=by simp at c3;omega
  have ht:(w++ [k]).take i=w.take i:=by rw[List.take_append_of_le_length hiw]
  rw[ht]at c1 hsum;obtain⟨d1,w1,e1,l1⟩:=h5 (w.take i) (w.drop i) c (Oe i w).symm c1;unfold fE at hb;rw[e1]at hb
  have:=of_decide_eq_true hb;simp only at this;omega
 ·rw[hch.Ia,rp,ro e]
  refine(List.drop_sublist _ _).nodup (Kf.mpr ⟨h4,by simp,λx hx y hy=> ?_⟩)
  rw[Jp.mp hy];exact λz=>h3 (by have z:x=a:=z;rw[<-z];exact hx)
def size (L:bL ν):Nat:=(L.map λx=>x.2.2.natAbs).sum
theorem kh {f:Nat->Nat}:∀{ks rs:List Nat},ks.Nodup->(∀k∈ks,k∈rs)->(ks.map f).sum<=(rs.map f).sum
 | [],rs,_,_=>by simp
 | k::ks,rs,hn,hs=>by
  have hk:k∈rs:=hs k Ja;rw[JL]at hn
  have hp:=List.perm_cons_erase hk
  have e:(rs.map f).sum=f k+((rs.erase k).map f).sum:=by
   have:=(hp.map f).sum_nat
   rwa [Jb,KZ]at this
  rw[e,Jb,KZ]
  have:=kh (f:=f) hn.2 (rs:=rs.erase k) λj hj=>by
   have h1:=hs j (IZ _ hj);exact(Ox (λ(z:j=k)=>hn.1 (z▸hj))).mpr h1
  omega
theorem uZ (L:bL ν):size L=((Js L.length).map λk=>(most L k).natAbs).sum:=by
 unfold size
 congr 1
 apply P0
 ·simp
 ·intro i h1 h2
  simp only[MG,OZ];unfold most;rw[Jo (by simpa using h1)]
theorem wM (L:bL ν):∀(ks:List Nat),(fM L ks).natAbs<=(ks.map λk=>(most L k).natAbs).sum
 | [] =>by simp[fM]
 | k::r=>by
  have:=wM L r;rw[fM,Jb,KZ];omega
theorem Ch.nodup {L:bL ν}:∀{ks:List Nat} {a b:ν},Ch L a ks b->(fL L ks).Nodup->ks.Nodup
 | [],_,_,_,_=>K1
 | k::r,a,b,h,hn=>by
  have h0:=h;rw[h.HN,JL]at hn;obtain⟨c,m,e,h⟩:=h;rw[JL];refine⟨λhk=>hn.1 ?_,h.nodup hn.2⟩
  unfold fL src;exact KP.mpr ⟨k,hk,by rw[e];rfl⟩
theorem Ch.small {L:bL ν}{ks:List Nat}{a b:ν}(h:Ch L a ks b)(hn:(fL L ks).Nodup):(fM L ks).natAbs<=size L:=by
 rw[uZ];exact Ka (wM L ks) (kh (h.nodup hn) λk hk=>JR.mpr (h.lt k hk))
def val (M:Nat)(b:cv ν)(v:ν):Nat:=match b v with
 | none=>2*M+1
 | some x=>(x.1+M).toNat
def left (M:Nat)(b:cv ν)(L:bL ν):Nat:=(L.map λx=>val M b x.2.1).sum
theorem wm {M:Nat}{b b':cv ν}:∀{L:bL ν},(∀x∈L,val M b' x.2.1<=val M b x.2.1)->left M b' L<=left M b L
 | [],_=>by simp[left]
 | x::L,h=>by
  have h1:=h x Ja
  have h2:=wm (L:=L) λy hy=>h y (IZ _ hy)
  unfold left at h2 ⊢;rw[Jb,KZ,Jb,KZ];omega
theorem wl {M:Nat}{b b':cv ν}{x:ν×ν×Int}:∀{L:bL ν},x∈L->(∀x∈L,val M b' x.2.1<=val M b x.2.1)->val M b' x.2.1<val M b x.2.1->left M b' L<left M b L
 | [],hx,_,_=>by simp at hx
 | y::L,hx,h,hl=>by
  have h1:=h y Ja
  have h2:=wm (L:=L) λy hy=>h y (IZ _ hy)
  unfold left at h2 ⊢;rw[Jb,KZ,Jb,KZ];rcases Jh.mp hx with rfl | hx
  ·omega
  ·have h3:=wl (L:=L) hx (λy hy=>h y (IZ _ hy)) hl
   unfold left at h3;omega
theorem zJ {L:bL ν}{S:List ν}{b:cv ν}(K:Kept L S b){k:Nat}{a c:ν}{m d:Int}{w:List Nat}(e:L[k]? =some (a,c,m))(ha:b a=some (d,w))(hb:fE b c (d+m)=true)(hn:c∉fL L (w++ [k])) :
  left (size L) (put b c (d+m,w++ [k])) L<left (size L) b L:=by
 have K':=K.put e ha hb hn;obtain⟨s,hs,h1,h2,h3,h4,h5⟩:=K'.walk c (d+m) (w++ [k]) fw
 have sm:=h1.small h4;rw[h2]at sm
 have lt:val (size L) (put b c (d+m,w++ [k])) c<val (size L) b c:=by
  unfold val fE at*;rw[fw]
  cases z:b c with
  | none=>simp only;omega
  | some y=>
   rw[z]at hb
   have hb:=of_decide_eq_true hb;simp only;omega
 refine wl (x:=(a,c,m)) (Ks e) (λy _=> ?_) lt
 by_cases z:y.2.1=c
 ·rw[z];exact L4 lt
 ·unfold val;rw[kF z];exact Jq _
def AS (b:cv ν)(x:ν×ν×Int):Prop:=∀d w,b x.1=some (d,w)->∃d' w',b x.2.1=some (d',w')/\d'<=d+x.2.2
theorem yz {b:cv ν}{x:ν×ν×Int}(h:∀d w,b x.1=some (d,w)->fE b x.2.1 (d+x.2.2)=false):AS b x:=λd w e=>by
 have:=h d w e;unfold fE at this
 cases z:b x.2.1 with
 | none=>rw[z]at this;cases this
 | some y=>
  rw[z]at this
  have:=of_decide_eq_false this;exact⟨y.1,y.2,rfl,by omega⟩
theorem jk {L:bL ν}{S:List ν}:∀(r:bL ν) (k:Nat) (b:cv ν) (mv:Bool),L.drop k=r->Kept L S b->match i0 L k r b mv with
  | .inr q=>Bar L q
  | .inl (b',mv')=>Kept L S b'/\(mv'=false->mv=false/\b'=b/\∀x∈r,AS b x)/\left (size L) b' L<=left (size L) b L/\(mv'=true->mv=true\/left (size L) b' L<left (size L) b L)
 | [],k,b,mv,_,K=>⟨K,λh=>⟨h,rfl,λx hx=>by simp at hx⟩,Jq _,λh=> .inl h⟩
 | x::r,k,b,mv,hr,K=>by
  have e:L[k]? =some x:=by
   have:=congrArg (·[0]?) hr
   simpa using this
  have hr':L.drop (k+1)=r:=by
   have:=congrArg (List.drop 1) hr
   simpa [List.drop_drop,NY]using this
  rw[i0];obtain⟨a,c,m⟩:=x;unfold iB
  cases z:b a with
  | none=>
   simp only[z]
   have ih:=jk r (k+1) b mv hr' K
   revert ih
   generalize i0 L (k+1) r b mv=R
   cases R with
   | inr q=>exact id
   | inl p=>
    obtain⟨b',mv'⟩:=p
    rintro ⟨i1,i2,i3,i4⟩
    refine⟨i1,λh=> ?_,i3,i4⟩
    obtain⟨j1,j2,j3⟩:=i2 h;refine⟨j1,j2,λx hx=> ?_⟩
    rcases Jh.mp hx with rfl | hx
    ·intro d w q;rw[z]at q;cases q
    ·exact j3 x hx
  | some y=>
   obtain⟨d,w⟩:=y;simp only[z]
   by_cases hb:fE b c (d+m)=true
   ·rw[if_pos hb]
    by_cases hn:c∈fL L (w++ [k])
    ·rw[if_pos hn]
     exact K.round e z hb hn
    ·rw[if_neg hn]
     have K':=K.put e z hb hn
     have lt:=zJ K e z hb hn
     have ih:=jk r (k+1) (put b c (d+m,w++ [k])) true hr' K'
     revert ih
     simp only
     generalize i0 L (k+1) r (put b c (d+m,w++ [k])) true=R
     cases R with
     | inr q=>exact id
     | inl p=>
      obtain⟨b',mv'⟩:=p
      rintro ⟨i1,i2,i3,i4⟩
      refine⟨i1,λh=> ?_,by omega,λ_=> .inr (by omega)⟩
      obtain⟨j1,_⟩:=i2 h;cases j1
   ·rw[if_neg hb]
    have ih:=jk r (k+1) b mv hr' K
    revert ih
    simp only
    generalize i0 L (k+1) r b mv=R
    cases R with
    | inr q=>exact id
    | inl p=>
     obtain⟨b',mv'⟩:=p
     rintro ⟨i1,i2,i3,i4⟩
     refine⟨i1,λh=> ?_,i3,i4⟩
     obtain⟨j1,j2,j3⟩:=i2 h;refine⟨j1,j2,λx hx=> ?_⟩
     rcases Jh.mp hx with rfl | hx
     ·refine yz λd' w' q=> ?_
      simp only at q;rw[z]at q;cases q
      simpa using hb
     ·exact j3 x hx
structure Settled (L:bL ν)(S:List ν)(b:cv ν):Prop where
 walk:∀v d w,b v=some (d,w)->∃s∈S,Ch L s w v/\fM L w=d/\v∉fL L w/\(fL L w).Nodup
 least:∀s∈S,∀v t,Wk L s v t->∃d w,b v=some (d,w)/\d<=t
theorem u4 {L:bL ν}{S:List ν}{b:cv ν}(K:Kept L S b)(h:∀x∈L,AS b x):Settled L S b where
 walk:=λv d w e=>by
  obtain⟨s,h1,h2,h3,h4,h5,_⟩:=K.walk v d w e;exact⟨s,h1,h2,h3,h4,h5⟩
 least:=by
  have go:∀{u v:ν} {t:Int},Wk L u v t->∀d w,b u=some (d,w)->∃d' w',b v=some (d',w')/\d'<=d+t:=by
   intro u v t hw
   induction hw with
   | nil a=>exact λd w e=>⟨d,w,e,by omega⟩
   | step e _ ih=>
    intro d w q;obtain⟨d1,w1,e1,l1⟩:=h _ e d w q;obtain⟨d2,w2,e2,l2⟩:=ih d1 w1 e1;exact⟨d2,w2,e2,by simp only at l1;omega⟩
  intro s hs v t hw;obtain⟨d,w,e,l⟩:=K.start s hs;obtain⟨d2,w2,e2,l2⟩:=go hw d w e;exact⟨d2,w2,e2,by omega⟩
theorem p0 {L:bL ν}{S:List ν}:∀(n:Nat) (b:cv ν),Kept L S b->left (size L) b L<n->∃r,settle L n b=some r/\match r with
  | .inr q=>Bar L q
  | .inl b'=>Settled L S b'
 | 0,b,K,h=>by omega
 | n+1,b,K,h=>by
  have s:=jk (S:=S) L 0 b false rfl K;rw[settle]
  revert s
  generalize i0 L 0 L b false=R
  cases R with
  | inr q=>exact λs=>⟨_,rfl,s⟩
  | inl p=>
   obtain⟨b',mv'⟩:=p
   rintro ⟨i1,i2,i3,i4⟩
   cases mv' with
   | false=>
    obtain⟨_,j2,j3⟩:=i2 rfl;subst j2
    exact⟨_,rfl,u4 i1 j3⟩
   | true=>
    rcases i4 rfl with z | z
    ·cases z
    ·exact p0 n b' i1 (by omega)
def start (S:List ν):cv ν:=λv=>if v∈S then some (0,[])else none
theorem oN (L:bL ν)(S:List ν):Kept L S (start S) where
 walk:=λv d w e=>by
  unfold start at e
  split at e
  ·rename_i h
   cases e;refine⟨v,h,rfl,rfl,by simp[fL],by simp[fL],λp q u hpq hp=> ?_⟩
   obtain⟨rfl,rfl⟩:=List.append_eq_nil_iff.mp hpq.symm;cases hp;exact⟨0,[],by unfold start;rw[if_pos h],by simp[fM]⟩
  ·cases e
 start:=λs hs=>⟨0,[],by unfold start;rw[if_pos hs],Kl _⟩
theorem zK (L:bL ν)(S:List ν):left (size L) (start S) L<=L.length*(2*size L+1):=by
 unfold left
 have:∀M:bL ν,(M.map λx=>val (size L) (start S) x.2.1).sum<=M.length*(2*size L+1):=by
  intro M
  induction M with
  | nil=>simp
  | cons x M ih=>
   rw[Jb,KZ,Ji,Nat.succ_mul]
   have:val (size L) (start S) x.2.1<=2*size L+1:=by
    unfold val start;split
    ·exact Jq _
    ·rename_i h
     split at h
     ·cases h;simp;omega
     ·cases h
   omega
 exact this L
theorem u5 (L:bL ν)(S:List ν){n:Nat}(h:L.length*(2*size L+1)<n):∃r,settle L n (start S)=some r/\match r with
  | .inr q=>Bar L q
  | .inl b'=>Settled L S b':=p0 n (start S) (oN L S) (O0 (zK L S) h)
theorem Bar.neg {L:bL ν}{q:List Nat}(h:Bar L q):¬ NoNeg L:=λn=>by
 obtain⟨_,⟨a,ha⟩,hc,_⟩:=h
 have:=n a _ ha.wk;omega
theorem Settled.holds {L:bL ν}{S:List ν}{b:cv ν}(h:Settled L S b)(hS:∀x∈L,x.1∈S/\x.2.1∈S){t:ν->Int}(ht:∀v∈S,∃w,b v=some (t v,w)):Holds L t:=λa c m hx=>by
 obtain⟨ha,hc⟩:=hS _ hx;obtain⟨w,e⟩:=ht a ha;obtain⟨s,hs,h1,h2,_⟩:=h.walk a _ _ e;obtain⟨d,w',e',l⟩:=h.least s hs c _ (h1.wk.app (.one hx));obtain⟨w2,e2⟩:=ht c hc;rw[e2]at e';cases e';omega
inductive Pth (L:bL ν):ν->List ν->ν->Int->Prop
 | one {a b:ν} {m:Int}:(a,b,m)∈L->Pth L a [] b m
 | cons {a x b:ν} {ms:List ν} {m s:Int}:(a,x,m)∈L->Pth L x ms b s->Pth L a (x::ms) b (m+s)
theorem Pth.cut {L:bL ν}{x:ν}{q:List ν}:∀{p:List ν} {a b:ν} {s:Int},Pth L a (p++x::q) b s->∃s1 s2,Pth L a p x s1/\Pth L x q b s2/\s=s1+s2
 | [],a,b,s,h=>by
  cases h with
  | cons e h=>exact⟨_,_,.one e,h,rfl⟩
 | y::p,a,b,s,h=>by
  cases h with
  | cons e h=>
   obtain⟨s1,s2,h1,h2,h3⟩:=Pth.cut h;exact⟨_,s2,.cons e h1,h2,by omega⟩
def Fx (L:bL ν)(u v:ν)(s:Int):Prop:=(u=v/\s=0)\/(u≠v/\∃ms,Pth L u ms v s/\ms.Nodup/\u∉ms/\v∉ms)
def AV (L:bL ν):Prop:=∃x ms s,Pth L x ms x s/\ms.Nodup/\x∉ms/\s<0
theorem Wk.simple {L:bL ν}{u v:ν}{s:Int}(w:Wk L u v s):AV L\/∃s',s'<=s/\Fx L u v s':=by
 induction w with
 | nil a=>exact .inr ⟨0,Kl _,.inl ⟨rfl,rfl⟩⟩
 | @step a b c m s e w ih=>
  rcases ih with ih | ⟨s',hs,ih⟩
  ·exact .inl ih
  by_cases hab:a=b
  ·subst hab
   by_cases hm:m<0
   ·exact .inl ⟨a,[],m,.one e,K1,by simp,hm⟩
   ·exact .inr ⟨s',by omega,ih⟩
  rcases ih with⟨rfl,rfl⟩ | ⟨hbc,ms,hp,hn,hb,hc⟩
  ·exact .inr ⟨m,by omega,.inr ⟨hab,[],.one e,K1,by simp,by simp⟩⟩
  by_cases hac:a=c
  ·subst hac
   by_cases hm:m+s'<0
   ·exact .inl ⟨a,b::ms,m+s',.cons e hp,JL.mpr ⟨hb,hn⟩,by simp[hab,hc],hm⟩
   ·exact .inr ⟨0,by omega,.inl ⟨rfl,rfl⟩⟩
  by_cases ham:a∈ms
  ·obtain⟨p,q,rfl⟩:=O4 ham
   obtain⟨s1,s2,h1,h2,h3⟩:=hp.cut;rw[Kf]at hn;obtain⟨n1,n2,n3⟩:=hn;rw[JL]at n2
   have hap:a∉p:=λz=>n3 a z a Ja rfl
   by_cases hm:m+s1<0
   ·refine .inl ⟨a,b::p,m+s1,.cons e h1,JL.mpr ⟨λz=>hb (JV _ z),n1⟩,by simp[hab,hap],hm⟩
   ·exact .inr ⟨s2,by omega,.inr ⟨hac,q,h2,n2.2,n2.1,λz=>hc (Jt _ (IZ _ z))⟩⟩
  ·refine .inr ⟨m+s',by omega,.inr ⟨hac,b::ms,.cons e hp,JL.mpr ⟨hb,hn⟩,by simp[hab,ham],?_⟩⟩
   simp only[Jh,not_or];exact⟨λz=>hbc z.symm,hc⟩
abbrev cZ (ν:Type):=ν->ν->Option Int
def jE (f:cZ ν)(a b:ν)(x:Int):cZ ν:=λu v=>if u=a/\v=b then some x else f u v
def m6 (f:cZ ν)(a b:ν)(x:Int):cZ ν:=match f a b with
 | none=>jE f a b x
 | some y=>if x<y then jE f a b x else f
def lG (mid one other:ν)(f:cZ ν):cZ ν:=match f one mid,f mid other with
 | some x,some y=>m6 f one other (x+y)
 | _,_=>f
def sT (P:List ν):cZ ν:=λu v=>if u∈P/\u=v then some 0 else none
def yv (P:List ν)(L:bL ν):cZ ν:=L.foldl (λf x=>m6 f x.1 x.2.1 x.2.2) (sT P)
def lH (mid one:ν)(P:List ν)(f:cZ ν):cZ ν:=P.foldl (λf other=>lG mid one other f) f
def oQ (mid:ν)(Q P:List ν)(f:cZ ν):cZ ν:=Q.foldl (λf one=>lH mid one P f) f
def ut (M P:List ν)(f:cZ ν):cZ ν:=M.foldl (λf mid=>oQ mid P P f) f
def table (P:List ν)(L:bL ν):cZ ν:=ut P P (yv P L)
def Le (f g:cZ ν):Prop:=∀u v x,g u v=some x->∃y,f u v=some y/\y<=x
theorem Le.refl (f:cZ ν):Le f f:=λu v x h=>⟨x,h,Kl _⟩
theorem Le.trans {f g h:cZ ν}(a:Le f g)(b:Le g h):Le f h:=λu v x e=>by
 obtain⟨y,e1,l1⟩:=b u v x e;obtain⟨z,e2,l2⟩:=a u v y e1;exact⟨z,e2,by omega⟩
theorem md {f:cZ ν}{a b:ν}{x:Int}:jE f a b x a b=some x:=by unfold jE;rw[if_pos ⟨rfl,rfl⟩]
theorem sf (f:cZ ν)(a b:ν)(x:Int):Le (m6 f a b x) f:=λu v y e=>by
 unfold m6
 cases q:f a b with
 | none=>
  by_cases z:u=a/\v=b
  ·obtain⟨rfl,rfl⟩:=z;rw[q]at e;cases e
  ·exact⟨y,by simp only;unfold jE;rw[if_neg z];exact e,Kl _⟩
 | some y0=>
  simp only;split
  ·by_cases z:u=a/\v=b
   ·obtain⟨rfl,rfl⟩:=z;rw[q]at e;cases e
    exact⟨x,md,by omega⟩
   ·exact⟨y,by unfold jE;rw[if_neg z];exact e,Kl _⟩
  ·exact⟨y,e,Kl _⟩
theorem wA (f:cZ ν)(a b:ν)(x:Int):∃y,m6 f a b x a b=some y/\y<=x:=by
 unfold m6
 cases q:f a b with
 | none=>exact⟨x,md,Kl _⟩
 | some y0=>
  simp only;split
  ·exact⟨x,md,Kl _⟩
  ·exact⟨y0,q,by omega⟩
theorem oU {L:bL ν}{f:cZ ν}{a b:ν}{x:Int}(h:∀u v y,f u v=some y->Wk L u v y)(hx:Wk L a b x):∀u v y,m6 f a b x u v=some y->Wk L u v y:=λu v y e=>by
 have key:jE f a b x u v=some y->Wk L u v y:=λe'=>by
  unfold jE at e'
  by_cases z:u=a/\v=b
  ·rw[if_pos z]at e';injection e' with e';rw[z.1,z.2,<-e'];exact hx
  ·rw[if_neg z]at e';exact h u v y e'
 unfold m6 at e
 cases q:f a b with
 | none=>rw[q]at e;exact key e
 | some y0=>
  rw[q]at e;simp only at e
  split at e
  ·exact key e
  ·exact h u v y e
theorem uq (mid one other:ν)(f:cZ ν):Le (lG mid one other f) f:=by
 unfold lG;split
 ·exact sf _ _ _ _
 ·exact Le.refl f
theorem Ak {mid one other:ν}{f:cZ ν}{x y:Int}(h1:f one mid=some x)(h2:f mid other=some y):∃z,lG mid one other f one other=some z/\z<=x+y:=by
 unfold lG;rw[h1,h2];exact wA _ _ _ _
theorem j0 {α:Type}(step:cZ ν->α->cZ ν)(hs:∀f a,Le (step f a) f):∀(l:List α) (f:cZ ν),Le (l.foldl step f) f
 | [],f=>Le.refl f
 | a::l,f=>(j0 step hs l (step f a)).trans (hs f a)
theorem oP (mid one:ν)(P:List ν)(f:cZ ν):Le (lH mid one P f) f:=j0 _ (λf o=>uq mid one o f) P f
theorem ur (mid:ν)(Q P:List ν)(f:cZ ν):Le (oQ mid Q P f) f:=j0 _ (λf o=>oP mid o P f) Q f
theorem Ao (M P:List ν)(f:cZ ν):Le (ut M P f) f:=j0 _ (λf o=>ur o P P f) M f
theorem nC {α:Type}(step:cZ ν->α->cZ ν)(hs:∀f a,Le (step f a) f):∀(l:List α) (f:cZ ν) (a:α),a∈l->∃g,Le g f/\Le (l.foldl step f) (step g a)
 | [],f,a,h=>by simp at h
 | b::l,f,a,h=>by
  rcases Jh.mp h with rfl | h
  ·exact⟨f,Le.refl f,j0 step hs l (step f a)⟩
  ·obtain⟨g,h1,h2⟩:=nC step hs l (step f b) a h
   exact⟨g,h1.trans (hs f b),h2⟩
theorem An {mid u v:ν}{P:List ν}{f:cZ ν}{x y:Int}(hu:u∈P)(hv:v∈P)(h1:f u mid=some x)(h2:f mid v=some y):∃z,oQ mid P P f u v=some z/\z<=x+y:=by
 obtain⟨g,g1,g2⟩:=nC (λf one=>lH mid one P f) (λf o=>oP mid o P f) P f u hu
 obtain⟨g',g3,g4⟩:=nC (λf other=>lG mid u other f) (λf o=>uq mid u o f) P g v hv
 have l:Le g' f:=g3.trans g1;obtain⟨x',e1,l1⟩:=l _ _ _ h1;obtain⟨y',e2,l2⟩:=l _ _ _ h2;obtain⟨z,e3,l3⟩:=Ak e1 e2;obtain⟨z',e4,l4⟩:=(g2.trans g4) _ _ _ e3;exact⟨z',e4,by omega⟩
def Up (L:bL ν)(M:List ν)(f:cZ ν):Prop:=∀u v ms s,Pth L u ms v s->ms.Nodup->(∀x∈ms,x∈M)->∃y,f u v=some y/\y<=s
theorem Pth.ends {L:bL ν}{P:List ν}(hL:∀x∈L,x.1∈P/\x.2.1∈P){u v:ν}{ms:List ν}{s:Int}(h:Pth L u ms v s):u∈P/\v∈P/\∀x∈ms,x∈P:=by
 induction h with
 | one e=>exact⟨(hL _ e).1,(hL _ e).2,by simp⟩
 | cons e _ ih=>exact⟨(hL _ e).1,ih.2.1,λx hx=>by
   rcases Jh.mp hx with rfl | hx
   ·exact ih.1
   ·exact ih.2.2 x hx⟩
theorem Up.mid {L:bL ν}{P M:List ν}{f:cZ ν}(hL:∀x∈L,x.1∈P/\x.2.1∈P)(h:Up L M f)(k:ν):Up L (k::M) (oQ k P P f):=λu v ms s hp hn hm=>by
 by_cases hk:k∈ms
 ·obtain⟨p,q,rfl⟩:=O4 hk
  obtain⟨s1,s2,h1,h2,h3⟩:=hp.cut;rw[Kf]at hn;obtain⟨n1,n2,n3⟩:=hn;rw[JL]at n2
  have hp':∀x∈p,x∈M:=λx hx=>by
   rcases Jh.mp (hm x (JV _ hx))with rfl | z
   ·exact absurd rfl (n3 x hx x Ja)
   ·exact z
  have hq':∀x∈q,x∈M:=λx hx=>by
   rcases Jh.mp (hm x (Jt _ (IZ _ hx)))with rfl | z
   ·exact absurd hx n2.1
   ·exact z
  obtain⟨y1,e1,l1⟩:=h u k p s1 h1 n1 hp';obtain⟨y2,e2,l2⟩:=h k v q s2 h2 n2.2 hq';obtain⟨z,e3,l3⟩:=An (P:=P) (h1.ends hL).1 (h2.ends hL).2.1 e1 e2;exact⟨z,e3,by omega⟩
 ·obtain⟨y,e,l⟩:=h u v ms s hp hn λx hx=>by
   rcases Jh.mp (hm x hx)with rfl | z
   ·exact absurd hx hk
   ·exact z
  obtain⟨z,e2,l2⟩:=ur k P P f u v y e;exact⟨z,e2,by omega⟩
theorem Up.IH {L:bL ν}{P:List ν}(hL:∀x∈L,x.1∈P/\x.2.1∈P):∀(Q M:List ν) (f:cZ ν),Up L M f->∃M',(∀x,x∈Q\/x∈M->x∈M')/\Up L M' (ut Q P f)
 | [],M,f,h=>⟨M,λx hx=>hx.elim (λz=>by simp at z) id,h⟩
 | k::Q,M,f,h=>by
  obtain⟨M',h1,h2⟩:=Up.IH hL Q (k::M) (oQ k P P f) (h.mid hL k);refine⟨M',λx hx=>h1 x ?_,h2⟩
  rcases hx with hx | hx
  ·rcases Jh.mp hx with rfl | hx
   ·exact .inr Ja
   ·exact .inl hx
  ·exact .inr (IZ _ hx)
theorem Be {P:List ν}{L:bL ν}:Up L [] (yv P L):=λu v ms s hp hn hm=>by
 have:ms= []:=by
  cases ms with
  | nil=>rfl
  | cons x r=>exact absurd (hm x Ja) (by simp)
 subst this
 cases hp with
 | one e=>
  obtain⟨g,h1,h2⟩:=nC (λ(f:cZ ν) (x:ν×ν×Int)=>m6 f x.1 x.2.1 x.2.2) (λf x=>sf f _ _ _) L (sT P) _ e
  obtain⟨y,e1,l1⟩:=wA g u v s;obtain⟨z,e2,l2⟩:=h2 u v y e1;exact⟨z,e2,by omega⟩
theorem gX {α:Type}{L:bL ν}(step:cZ ν->α->cZ ν):∀(l:List α) (f:cZ ν),(∀f,∀a∈l,(∀u v y,f u v=some y->Wk L u v y)->∀u v y,step f a u v=some y->Wk L u v y)->(∀u v y,f u v=some y->Wk L u v y)->∀u v y,l.foldl step f u v=some y->Wk L u v y
 | [],f,_,h=>h
 | a::l,f,hs,h=>gX step l (step f a) (λf b hb=>hs f b (IZ _ hb)) (hs f a Ja h)
theorem my (P:List ν)(L:bL ν):∀u v y,table P L u v=some y->Wk L u v y:=by
 unfold table ut;refine gX _ P _ (λf m _ h=> ?_) ?_
 ·unfold oQ
  refine gX _ P _ (λf o _ h=> ?_) h
  unfold lH;refine gX _ P _ (λf v _ h=> ?_) h
  unfold lG
  cases e1:f o m with
  | none=>exact h
  | some x=>
   cases e2:f m v with
   | none=>exact h
   | some y=>exact oU h ((h _ _ _ e1).app (h _ _ _ e2))
 ·unfold yv
  refine gX _ L _ (λf x hx h=>oU h (.one hx)) λu v y e=> ?_
  unfold sT at e
  split at e
  ·rename_i z;obtain⟨_,rfl⟩:=z;cases e;exact .nil u
  ·cases e
theorem sS {P:List ν}{L:bL ν}(hL:∀x∈L,x.1∈P/\x.2.1∈P):∀u v ms s,Pth L u ms v s->ms.Nodup->∃y,table P L u v=some y/\y<=s:=λu v ms s hp hn=>by
 obtain⟨M',h1,h2⟩:=Up.IH hL P [] (yv P L) Be;exact h2 u v ms s hp hn λx hx=>h1 x (.inl ((hp.ends hL).2.2 x hx))
theorem nK {P:List ν}{L:bL ν}{u:ν}(hu:u∈P):∃y,table P L u u=some y/\y<=0:=by
 have h0:sT P u u=some 0:=by unfold sT;rw[if_pos ⟨hu,rfl⟩]
 have h1:Le (table P L) (sT P):=(Ao P P _).trans (j0 _ (λf x=>sf f _ _ _) L _)
 exact h1 u u 0 h0
structure bA (L:bL ν)(P:List ν)(f:cZ ν):Prop where
 is:∀u v d,f u v=some d->Wk L u v d
 le:∀u∈P,∀v t,Wk L u v t->∃d,f u v=some d/\d<=t
theorem lQ {P:List ν}{L:bL ν}{u:ν}{y:Int}(h:table P L u u=some y)(hy:y<0):¬ NoNeg L:=λn=>by
 have:=n u y (my P L u u y h);omega
theorem ji {P:List ν}{L:bL ν}(hL:∀x∈L,x.1∈P/\x.2.1∈P)(h:∀u∈P,∀y,table P L u u=some y->0<=y):NoNeg L/\bA L P (table P L):=by
 have nc:¬ AV L:=λ⟨x,ms,s,hp,hn,_,hs⟩=>by
  obtain⟨y,e,l⟩:=sS hL x x ms s hp hn
  have:=h x (hp.ends hL).1 y e;omega
 have le:∀u∈P,∀v t,Wk L u v t->∃d,table P L u v=some d/\d<=t:=λu hu v t w=>by
  rcases w.simple with z | ⟨s',hs,z⟩
  ·exact absurd z nc
  ·rcases z with⟨rfl,rfl⟩ | ⟨_,ms,hp,hn,_⟩
   ·obtain⟨y,e,l⟩:=nK (L:=L) hu
    exact⟨y,e,by omega⟩
   ·obtain⟨y,e,l⟩:=sS hL u v ms s' hp hn
    exact⟨y,e,by omega⟩
 refine⟨λa s w=> ?_,λu v d e=>my P L u v d e,le⟩
 by_cases ha:a∈P
 ·obtain⟨d,e,l⟩:=le a ha a s w
  have:=h a ha d e;omega
 ·cases w with
  | nil=>exact Kl _
  | step e _=>exact absurd (hL _ e).1 ha
end Gr
namespace G
open PySem Tr Gr
structure N2 where
 c:Int
 k:Int
deriving DecidableEq
theorem N2.ext':∀{u v:N2},u.c=v.c->u.k=v.k->u=v
 | ⟨_,_⟩,⟨_,_⟩,rfl,rfl=>rfl
def en (v:N2):T:=.tup [.int v.c,.int v.k]
def eB (x:N2×N2×Int):T:=.tup [en x.1,en x.2.1,.int x.2.2]
def eN (ks:List Nat):List T:=ks.map λk=> .int (k:Nat)
def eW (x:Int×List Nat):T:=.tup [.int x.1,.lst (eN x.2)]
def ky (v:N2):List L2.Key:=[.inl v.c,.inl v.k]
theorem bp (v:N2):aW (en v)=some (ky v):=rfl
theorem iU {u v:N2}(h:some (ky u)=some (ky v)):u=v:=by
 injection h with h
 injection h with h1 h2
 injection h2 with h2 _
 injection h1 with h1
 injection h2 with h2
 exact N2.ext' h1 h2
theorem oV {u v:N2}(h:en u=en v):u=v:=iU (by rw[<-bp u,<-bp v,h])
theorem AL (u v:N2):a6 (en u) (en v)=decide (u=v):=by
 unfold en a6 beqTs a6 beqTs beqTs
 by_cases h:u=v
 ·subst h;simp[a6]
 ·have:¬ (u.c=v.c/\u.k=v.k):=λz=>h (N2.ext' z.1 z.2)
  simp[h,a6];exact λz=>λy=>this ⟨z,y⟩
theorem lL (g:N2->T)(v:N2):∀(ns:List N2),kf (ns.map en) (ns.map g) (ky v)=if v∈ns then some (g v)else none
 | [] =>rfl
 | u::ns=>by
  rw[Jb,Jb,kf,bp]
  by_cases h:u=v
  ·subst h;rw[if_pos rfl,if_pos Ja]
  ·rw[if_neg (λz=>h (iU z)),lL g v ns]
   have:(v∈u::ns)↔v∈ns:=by rw[Jh];exact⟨λz=>z.elim (λy=>absurd y.symm h) id,.inr⟩
   simp only[this]
theorem jG (x:T)(v:N2)(g:N2->T):∀(ns:List N2),v∉ns->gD (en v) x (ns.map en) (ns.map g)=(ns.map en++ [en v],ns.map g++ [x])
 | [],_=>rfl
 | u::ns,h=>by
  rw[Jh,not_or]at h;rw[Jb,Jb,gD,bp,bp,if_neg (λz=>h.1 (iU z).symm),jG x v g ns h.2]
  rfl
theorem sk (x:T)(v:N2)(g:N2->T):∀(ns:List N2),ns.Nodup->v∈ns->gD (en v) x (ns.map en) (ns.map g)=(ns.map en,ns.map λu=>if u=v then x else g u)
 | [],_,h=>by simp at h
 | u::ns,hn,h=>by
  rw[JL]at hn;rw[Jb,Jb,Jb,gD,bp,bp]
  by_cases z:u=v
  ·subst z
   rw[if_pos rfl,if_pos rfl]
   congr 2
   exact JE λw hw=>by rw[if_neg (λ(y:w=u)=>hn.1 (y▸hw))]
  ·rw[if_neg (λy=>z (iU y)),if_neg z]
   have h':v∈ns:=(Jh.mp h).elim (λy=>absurd y.symm z) id
   rw[sk x v g ns hn.2 h']
theorem jT {α:Type}[DecidableEq α]:∀{l m:List α},l.Nodup->(∀x∈l,x∈m)->l.length<=m.length
 | [],_,_,_=>Lc _
 | x::l,m,hn,h=>by
  rw[JL]at hn
  have hx:=h x Ja
  have:=jT (m:=m.erase x) hn.2 λy hy=>(Ox (λ(z:y=x)=>hn.1 (z▸hy))).mpr (h y (IZ _ hy))
  rw[List.length_erase_of_mem hx]at this
  have:0<m.length:=List.length_pos_of_mem hx;rw[Ji];omega
def oW (o:Option (Int×List Nat)):T:=match o with
 | some x=>eW x
 | none=> .non
structure DR (P ns:List N2)(b:cv N2):Prop where
 nd:ns.Nodup
 mem:∀v,v∈ns↔(b v).isSome=true
 sub:∀v∈ns,v∈P
def dV (ns:List N2)(b:cv N2):List T:=ns.map λv=>oW (b v)
theorem DR.get {P ns:List N2}{b:cv N2}(D:DR P ns b)(v:N2):kf (ns.map en) (dV ns b) (ky v)=(b v).map eW:=by
 unfold dV;rw[lL (λv=>oW (b v))]
 have:=D.mem v
 cases q:b v with
 | none=>rw[q]at this;rw[if_neg (λz=>by simpa using this.mp z)];rfl
 | some x=>rw[q]at this;rw[if_pos (this.mpr rfl)];rfl
theorem DR.put {P ns:List N2}{b:cv N2}(D:DR P ns b){v:N2}(hv:v∈P)(y:Int×List Nat):∃ns',DR P ns' (Gr.put b v y)/\gD (en v) (eW y) (ns.map en) (dV ns b)=(ns'.map en,dV ns' (Gr.put b v y)):=by
 by_cases h:v∈ns
 ·refine⟨ns,⟨D.nd,λu=> ?_,D.sub⟩,?_⟩
  ·by_cases z:u=v
   ·subst z;rw[fw];exact⟨λ_=>rfl,λ_=>h⟩
   ·rw[kF z];exact D.mem u
  ·unfold dV
   rw[sk _ _ _ _ D.nd h]
   congr 1
   refine JE λu _=> ?_
   by_cases z:u=v
   ·subst z;rw[if_pos rfl,fw];rfl
   ·rw[if_neg z,kF z]
 ·refine⟨ns++ [v],⟨?_,λu=> ?_,λu hu=> ?_⟩,?_⟩
  ·exact Kf.mpr ⟨D.nd,by simp,λx hx y hy=>by simp at hy;subst hy;exact λz=>h (z▸hx)⟩
  ·rw[JG,Jp]
   by_cases z:u=v
   ·subst z;rw[fw];exact⟨λ_=>rfl,λ_=> .inr rfl⟩
   ·rw[kF z,<-D.mem u];exact⟨λw=>w.elim id λy=>absurd y z,.inl⟩
  ·rcases JG.mp hu with w | w
   ·exact D.sub u w
   ·rw[Jp.mp w];exact hv
  ·unfold dV
   rw[jG _ _ _ _ h,JX,JX]
   congr 1
   congr 1
   ·refine JE λu hu=> ?_
    rw[kF (λ(z:u=v)=>h (z▸hu))]
   ·simp[fw,oW]
theorem AC {P ns:List N2}{b:cv N2}(D:DR P ns b)(x:N2×N2×Int)(d:Int)(w:List Nat) :
  dM [.dct (ns.map en) (dV ns b),eB x,eW (d,w)] = .ok (.bl (fE b x.2.1 (d+x.2.2))):=by
 refine bz rfl ?_
 show gm [.va (.dct (ns.map en) (dV ns b)),.va (eB x),.va (eW (d,w)),.em] =_
 unfold gm
 have g:oD jc (vr 0) (o2 aN (vr 1) (cn (.int 1))) [.va (.dct (ns.map en) (dV ns b)),.va (eB x),.va (eW (d,w)),.em] = .ok (oW (b x.2.1)):=by
  refine GJ (ks:=ns.map en) (vs:=dV ns b) (u:=en x.2.1) rfl rfl ?_
  unfold jc;rw[bp];simp only[D.get];cases b x.2.1 <;> rfl
 rw[aw (cp (t:=oW (b x.2.1)) (Z':=[.va (.dct (ns.map en) (dV ns b)),.va (eB x),.va (eW (d,w)),.va (oW (b x.2.1))]) g rfl)];refine bQ ?_
 unfold fE
 cases q:b x.2.1 with
 | none=>exact EU (aA (t:=.non) (u:=.non) rfl rfl rfl)
 | some y=>exact(EV (aA (t:=eW y) (u:=.non) rfl rfl rfl)).trans (aA (t:=.int (d+x.2.2)) (u:=.int y.1) rfl rfl rfl)
abbrev AY:En->Rs Fl:=(au (cX (ln 2 (oD jc (vr 2) (o2 aN (vr 5) (cn (.int 0))))) (gN 6)) (au (dY (je (tb (o2 gC (vr 6) (cn .non))) (cL (EJ 2 (tb (cl dM (ac (vr 2) (ac (vr 5) (ac (vr 6) ag)))))))) C0 sN) (au (cX (o2 aS (o2 aN (vr 6) (cn (.int 1))) (d7 (ac (vr 4) ag))) (gN 7)) (au (cX (dO (iS (vr 7)) [none,some 0] (gN 0) bT (o2 aN (o2 aN (vr 1) (vr 0)) (cn (.int 0)))) (gN 8)) (au (dY (tb (o2 FC (o2 aN (vr 5) (cn (.int 1))) (vr 8))) (aI (aR (ac (cn .non) (ac (sl (vr 7) (pS (oL hZ (vr 8) (o2 aN (vr 5) (cn (.int 1))))) pN) ag)))) sN) (au (pG 2 (o2 aN (vr 5) (cn (.int 1))) (aR (ac (o2 aS (o2 aN (vr 6) (cn (.int 0))) (o2 aN (vr 5) (cn (.int 2)))) (ac (vr 7) ag)))) (cX (cn (.bl true)) (gN 3))))))))
abbrev Hn:T->En->Rs En:=gT 2 (dg (gN 4) (dg (gN 5) iV))
def eL (L:bL N2):T:=.lst (L.map eB)
def yA (L:bL N2)(t:T):T:=match t with
 | .int j=>match L[j.toNat]? with
  | some x=>en x.1
  | none=> .non
 | _=> .non
theorem v6 {L:bL N2}:∀{ks:List Nat} {a b:N2},Ch L a ks b->(eN ks).map (yA L)=(fL L ks).map en
 | [],_,_,_=>rfl
 | k::r,a,b,h=>by
  rw[h.HN];obtain⟨c,m,e,h⟩:=h
  show yA L (.int k)::(eN r).map (yA L)=en a::(fL L r).map en
  rw[v6 h]
  congr 1
  unfold yA;simp only[Ke,e]
theorem AO (v:N2):∀(l:List N2),jd (en v) (l.map en)=decide (v∈l)
 | [] =>rfl
 | u::l=>by
  have ih:=AO v l;unfold jd at ih ⊢;rw[Jb,Lu,ih,AL]
  by_cases h:u=v
  ·subst h;simp
  ·have h':¬ v=u:=λz=>h z.symm
   simp[h,h']
theorem uv (v:N2):∀(l:List N2) (n:Nat),v∈l->j5 (en v) (l.map en) n=some (n+l.idxOf v)
 | [],n,h=>by simp at h
 | u::l,n,h=>by
  rw[Jb,j5,AL,Qj]
  by_cases z:u=v
  ·subst z;simp
  ·have h':v∈l:=(Jh.mp h).elim (λy=>absurd y.symm z) id
   have zb:(u == v)=false:=by rw[beq_eq_false_iff_ne];exact z
   rw[zb,decide_eq_false z,if_neg Jy,uv v l (n+1) h'];simp only[cond_false]
   congr 1
   omega
theorem C6 (v:N2):(en v).nd=true:=rfl
theorem rS {α:Type}(f:α->T)(h:∀a,(f a).nd=true):∀l:List α,nds (l.map f)=true
 | [] =>rfl
 | a::l=>by rw[Jb,nds,h a,rS f h l];rfl
theorem AG (v:N2):(en v).dep<=60:=by show(T.tup [.int v.c,.int v.k]).dep<=60;simp[T.dep,deps]
theorem GR (v:N2)(l:List N2):FC (en v) (.lst (l.map en))= .ok (.bl (decide (v∈l))):=by
 show(if (_\/_)/\_/\(T.lst (l.map en)).nd=true then _ else _)=_
 rw[if_pos ⟨.inl (AG v),rfl,rS en C6 l⟩,AO]
theorem Ag (v:N2)(l:List N2)(h:v∈l):hZ (.lst (l.map en)) (en v)= .ok (.int ((l.idxOf v:Nat):Int)):=by
 unfold hZ;simp only;rw[if_pos ⟨.inl (AG v),rfl,rS en C6 l⟩,uv v l 0 h,Nf]
theorem Fm (p q:List Nat):eN (p++q)=eN p++eN q:=by unfold eN;rw[JX]
theorem zw (D:Bool):∀ks:List Nat,nks D (eN ks)=true
 | [] =>rfl
 | k::r=>by show nks D (.int k::eN r)=true;unfold nks;rw[zw D r];rfl
theorem Ch.len {L:bL N2}{ks:List Nat}{a b:N2}(h:Ch L a ks b)(hn:(fL L ks).Nodup):ks.length<=L.length:=by
 have:=jT (h.nodup hn) (m:=Js L.length) λk hk=>JR.mpr (h.lt k hk)
 rwa [J2]at this
def De (L:bL N2)(P ns:List N2)(b:cv N2)(k:Nat)(x:N2×N2×Int)(st:T)(mv:Bool)(s6 s7 s8:Sl):Sum (Option (cv N2)) (List Nat)->Prop
 | .inl none=> ∃s6' s7' s8',AY [.va (eL L),.va st,.ow (.dct (ns.map en) (dV ns b)),.va (.bl mv),.va (.int k),.va (eB x),s6,s7,s8] = .ok (.ct [.va (eL L),.va st,.ow (.dct (ns.map en) (dV ns b)),.va (.bl mv),.va (.int k),.va (eB x),s6',s7',s8'])
 | .inl (some b')=> ∃ns' s6' s7' s8',DR P ns' b'/\AY [.va (eL L),.va st,.ow (.dct (ns.map en) (dV ns b)),.va (.bl mv),.va (.int k),.va (eB x),s6,s7,s8] = .ok (.nx [.va (eL L),.va st,.ow (.dct (ns'.map en) (dV ns' b')),.va (.bl true),.va (.int k),.va (eB x),s6',s7',s8'])
 | .inr q=>AY [.va (eL L),.va st,.ow (.dct (ns.map en) (dV ns b)),.va (.bl mv),.va (.int k),.va (eB x),s6,s7,s8] = .ok (.rt (.tup [.non,.lst (eN q)]))
theorem Bo {L:bL N2}{S P ns:List N2}{b:cv N2}{k:Nat}{x:N2×N2×Int}(K:Kept L S b)(D:DR P ns b)(hL:L.length<=500)(hP:P.length<1000)(e:L[k]? =some x)(hx:x.2.1∈P)(st:T)(mv:Bool)(s6 s7 s8:Sl) :
  De L P ns b k x st mv s6 s7 s8 (iB L b k x):=by
 obtain⟨a,c,m⟩:=x;unfold De
 generalize hks:ns.map en=ks
 generalize hvs:dV ns b=vs
 have get:∀s7 s8,ln 2 (oD jc (vr 2) (o2 aN (vr 5) (cn (.int 0)))) [.va (eL L),.va st,.ow (.dct ks vs),.va (.bl mv),.va (.int k),.va (eB (a,c,m)),s6,s7,s8] = .ok (oW (b a)):=λs7 s8=>by
  refine Cc (o:=.dct ks vs) rfl (GJ (ks:=ks) (vs:=vs) (u:=en a) rfl rfl ?_) ?_
  ·unfold jc
   rw[bp,<-hks,<-hvs];simp only[D.get];cases b a <;> rfl
  ·cases b a with
   | none=>rfl
   | some y=>show nks true [.int y.1,.lst (eN y.2)] =true;simp[nks,T.nk,zw]
 have s1:∀G,au (cX (ln 2 (oD jc (vr 2) (o2 aN (vr 5) (cn (.int 0))))) (gN 6)) G [.va (eL L),.va st,.ow (.dct ks vs),.va (.bl mv),.va (.int k),.va (eB (a,c,m)),s6,s7,s8] =G [.va (eL L),.va st,.ow (.dct ks vs),.va (.bl mv),.va (.int k),.va (eB (a,c,m)),.va (oW (b a)),s7,s8]:=λG=>
  aw (cp (t:=oW (b a)) (get s7 s8) rfl)
 cases qa:b a with
 | none=>
  rw[show iB L b k (a,c,m)= .inl none from by unfold iB;simp only[qa]]
  simp only;refine⟨.va .non,s7,s8,?_⟩
  unfold AY;rw[s1,qa]
  exact zU (jb (F:=C0) (zV (bw (aA (t:=.non) (u:=.non) rfl rfl rfl))))
 | some y=>
  obtain⟨d,w⟩:=y
  have bt:∀s7 s8,EJ 2 (tb (cl dM (ac (vr 2) (ac (vr 5) (ac (vr 6) ag))))) [.va (eL L),.va st,.ow (.dct ks vs),.va (.bl mv),.va (.int k),.va (eB (a,c,m)),.va (eW (d,w)),s7,s8] = .ok (fE b c (d+m)):=λs7 s8=>by
   refine GK (bw (aK (ts:=[.dct ks vs,eB (a,c,m),eW (d,w)]) rfl ?_))
   rw[<-hks,<-hvs];exact AC D (a,c,m) d w
  have nn:tb (o2 gC (vr 6) (cn .non)) [.va (eL L),.va st,.ow (.dct ks vs),.va (.bl mv),.va (.int k),.va (eB (a,c,m)),.va (eW (d,w)),s7,s8] = .ok false:=bw (aA (t:=eW (d,w)) (u:=.non) rfl rfl rfl)
  have cond:=lD nn (gh (bt s7 s8))
  have s1':∀G,au (cX (ln 2 (oD jc (vr 2) (o2 aN (vr 5) (cn (.int 0))))) (gN 6)) G [.va (eL L),.va st,.ow (.dct ks vs),.va (.bl mv),.va (.int k),.va (eB (a,c,m)),s6,s7,s8] =G [.va (eL L),.va st,.ow (.dct ks vs),.va (.bl mv),.va (.int k),.va (eB (a,c,m)),.va (eW (d,w)),s7,s8]:=λG=>by rw[s1 G,qa];rfl
  cases hb:fE b c (d+m)with
  | false=>
   rw[show iB L b k (a,c,m)= .inl none from by unfold iB;simp only[qa,hb];rfl]
   simp only;rw[hb]at cond;refine⟨.va (eW (d,w)),s7,s8,?_⟩
   unfold AY;rw[s1']
   exact zU (jb (F:=C0) cond)
  | true=>
   rw[hb]at cond;obtain⟨s,hs,h1,h2,h3,h4,h5⟩:=K.walk a d w qa
   have hch:Ch L s (w++ [k]) c:=h1.snoc e
   have hwl:w.length<=500:=Ka (Ch.len h1 h4) hL
   have s2:∀G,au (dY (je (tb (o2 gC (vr 6) (cn .non))) (cL (EJ 2 (tb (cl dM (ac (vr 2) (ac (vr 5) (ac (vr 6) ag)))))))) C0 sN) G [.va (eL L),.va st,.ow (.dct ks vs),.va (.bl mv),.va (.int k),.va (eB (a,c,m)),.va (eW (d,w)),s7,s8] =G [.va (eL L),.va st,.ow (.dct ks vs),.va (.bl mv),.va (.int k),.va (eB (a,c,m)),.va (eW (d,w)),s7,s8]:=λG=>
    aw (Z':=[.va (eL L),.va st,.ow (.dct ks vs),.va (.bl mv),.va (.int k),.va (eB (a,c,m)),.va (eW (d,w)),s7,s8]) ((cJ (F:=C0) (G:=sN) cond).trans rfl)
   have wk:o2 aS (o2 aN (vr 6) (cn (.int 1))) (d7 (ac (vr 4) ag)) [.va (eL L),.va st,.ow (.dct ks vs),.va (.bl mv),.va (.int k),.va (eB (a,c,m)),.va (eW (d,w)),s7,s8] = .ok (.lst (eN (w++ [k]))):=by
    refine aA (t:=.lst (eN w)) (u:=.lst (eN [k])) rfl (lE (ts:=[.int k]) rfl (ax (k:=1) (by simp))) ?_
    show kx (eN w++eN [k])=_
    rw[<-Fm];unfold kx;rw[if_pos (ax (k:=1000) (by unfold eN;rw[Jd,Jj];simp;omega))]
   have s3:∀G,au (cX (o2 aS (o2 aN (vr 6) (cn (.int 1))) (d7 (ac (vr 4) ag))) (gN 7)) G [.va (eL L),.va st,.ow (.dct ks vs),.va (.bl mv),.va (.int k),.va (eB (a,c,m)),.va (eW (d,w)),s7,s8] =G [.va (eL L),.va st,.ow (.dct ks vs),.va (.bl mv),.va (.int k),.va (eB (a,c,m)),.va (eW (d,w)),.va (.lst (eN (w++ [k]))),s8]:=λG=>aw (cp wk rfl)
   have ps:dO (iS (vr 7)) [none,some 0] (gN 0) bT (o2 aN (o2 aN (vr 1) (vr 0)) (cn (.int 0))) [.va (eL L),.va st,.ow (.dct ks vs),.va (.bl mv),.va (.int k),.va (eB (a,c,m)),.va (eW (d,w)),.va (.lst (eN (w++ [k]))),s8] = .ok (.lst ((fL L (w++ [k])).map en)):=by
    rw[<-v6 hch];refine m4 (ts:=eN (w++ [k])) (oO rfl) (ax (k:=1000) (by unfold eN;rw[Jd,Jj];simp;omega)) (by simp) λt ht=> ?_
    unfold eN at ht;obtain⟨j,hj,rfl⟩:=Jl.mp ht
    have hjl:=hch.lt j hj;refine aA (t:=eB L[j]) (u:=.int 0) (GN (l:=L.map eB) (n:=j) rfl rfl (by rw[JN,Jo hjl];rfl)) rfl ?_
    unfold yA;simp only[Ke,Jo hjl]
    rfl
   have s4:∀G,au (cX (dO (iS (vr 7)) [none,some 0] (gN 0) bT (o2 aN (o2 aN (vr 1) (vr 0)) (cn (.int 0)))) (gN 8)) G [.va (eL L),.va st,.ow (.dct ks vs),.va (.bl mv),.va (.int k),.va (eB (a,c,m)),.va (eW (d,w)),.va (.lst (eN (w++ [k]))),s8] =G [.va (eL L),.va st,.ow (.dct ks vs),.va (.bl mv),.va (.int k),.va (eB (a,c,m)),.va (eW (d,w)),.va (.lst (eN (w++ [k]))),.va (.lst ((fL L (w++ [k])).map en))]:=λG=>aw (cp ps rfl)
   have inn:tb (o2 FC (o2 aN (vr 5) (cn (.int 1))) (vr 8)) [.va (eL L),.va st,.ow (.dct ks vs),.va (.bl mv),.va (.int k),.va (eB (a,c,m)),.va (eW (d,w)),.va (.lst (eN (w++ [k]))),.va (.lst ((fL L (w++ [k])).map en))] = .ok (decide (c∈fL L (w++ [k]))):=
    bw (aA (t:=en c) (u:=.lst ((fL L (w++ [k])).map en)) rfl rfl (GR c _))
   by_cases hn:c∈fL L (w++ [k])
   ·rw[show iB L b k (a,c,m)= .inr ((w++ [k]).drop ((fL L (w++ [k])).idxOf c))from by unfold iB;simp only[qa,hb,if_pos hn,if_true]]
    simp only;unfold AY;rw[s1',s2,s3,s4];rw[decide_eq_true hn]at inn;refine l8 ((jb inn).trans (bQ ?_))
    have sle:sl (vr 7) (pS (oL hZ (vr 8) (o2 aN (vr 5) (cn (.int 1))))) pN [.va (eL L),.va st,.ow (.dct ks vs),.va (.bl mv),.va (.int k),.va (eB (a,c,m)),.va (eW (d,w)),.va (.lst (eN (w++ [k]))),.va (.lst ((fL L (w++ [k])).map en))] = .ok (.lst (eN ((w++ [k]).drop ((fL L (w++ [k])).idxOf c)))):=by
     rw[GG (l:=eN (w++ [k])) (lo:=some (((fL L (w++ [k])).idxOf c:Nat):Int)) (hi:=none) rfl (ET (k_oL (ks:=(fL L (w++ [k])).map en) (u:=en c) rfl rfl (Ag c _ hn))) rfl,uH];unfold eN;rw[List.map_drop]
    exact(de (ts:=[.non,.lst (eN ((w++ [k]).drop ((fL L (w++ [k])).idxOf c)))]) (ao rfl (ao sle rfl)) (ax (k:=2) (by simp)))
   ·rw[show iB L b k (a,c,m)= .inl (some (Gr.put b c (d+m,w++ [k])))from by unfold iB;simp only[qa,hb,if_neg hn,if_true]]
    simp only;rw[decide_eq_false hn]at inn;obtain⟨ns',D',hd⟩:=D.put hx (d+m,w++ [k]);refine⟨ns',.va (eW (d,w)),.va (.lst (eN (w++ [k]))),.va (.lst ((fL L (w++ [k])).map en)),D',?_⟩
    unfold AY;rw[s1',s2,s3,s4];rw[aw (Z':=[.va (eL L),.va st,.ow (.dct ks vs),.va (.bl mv),.va (.int k),.va (eB (a,c,m)),.va (eW (d,w)),.va (.lst (eN (w++ [k]))),.va (.lst ((fL L (w++ [k])).map en))]) ((cJ (G:=sN) inn).trans rfl)]
    have pt:pG 2 (o2 aN (vr 5) (cn (.int 1))) (aR (ac (o2 aS (o2 aN (vr 6) (cn (.int 0))) (o2 aN (vr 5) (cn (.int 2)))) (ac (vr 7) ag))) [.va (eL L),.va st,.ow (.dct ks vs),.va (.bl mv),.va (.int k),.va (eB (a,c,m)),.va (eW (d,w)),.va (.lst (eN (w++ [k]))),.va (.lst ((fL L (w++ [k])).map en))]
      = .ok (.nx [.va (eL L),.va st,.ow (.dct (ns'.map en) (dV ns' (Gr.put b c (d+m,w++ [k])))),.va (.bl mv),.va (.int k),.va (eB (a,c,m)),.va (eW (d,w)),.va (.lst (eN (w++ [k]))),.va (.lst ((fL L (w++ [k])).map en))]):=by
     have ev:aR (ac (o2 aS (o2 aN (vr 6) (cn (.int 0))) (o2 aN (vr 5) (cn (.int 2)))) (ac (vr 7) ag)) [.va (eL L),.va st,.ow (.dct ks vs),.va (.bl mv),.va (.int k),.va (eB (a,c,m)),.va (eW (d,w)),.va (.lst (eN (w++ [k]))),.va (.lst ((fL L (w++ [k])).map en))] = .ok (eW (d+m,w++ [k])):=
      de (ts:=[.int (d+m),.lst (eN (w++ [k]))]) rfl (ax (k:=2) (by simp))
     have ek:o2 aN (vr 5) (cn (.int 1)) [.va (eL L),.va st,.ow (.dct ks vs),.va (.bl mv),.va (.int k),.va (eB (a,c,m)),.va (eW (d,w)),.va (.lst (eN (w++ [k]))),.va (.lst ((fL L (w++ [k])).map en))] = .ok (en c):=rfl
     show(aR _ _ >>= λv=>o2 aN (vr 5) (cn (.int 1)) _ >>= λkk=>match aW kk with | some _=>if ks.length<1000 then Rs.ok (Fl.nx _)else .bad | none=> .bad)=_
     rw[ev,az,ek,az,bp]
     have hlen:ks.length<1000:=by rw[<-hks,Jd];exact O0 (jT D.nd D.sub) hP
     simp only[if_pos hlen]
     have hd1:gD (en c) (eW (d+m,w++ [k])) ks vs=(ns'.map en,dV ns' (Gr.put b c (d+m,w++ [k]))):=by rw[<-hks,<-hvs];exact hd
     rw[hd1]
     rfl
    rw[aw pt];exact cp (t:=.bl true) rfl rfl
def yd (L:bL N2)(st:T)(ns:List N2)(b:cv N2)(mv:Bool)(s4 s5 s6 s7 s8:Sl):En:=[.va (eL L),.va st,.ow (.dct (ns.map en) (dV ns b)),.va (.bl mv),s4,s5,s6,s7,s8]
def AR (L:bL N2)(P:List N2)(st:T)(X:Rs Fl):Sum (cv N2×Bool) (List Nat)->Prop
 | .inr q=>X= .ok (.rt (.tup [.non,.lst (eN q)]))
 | .inl (b',mv')=> ∃ns' s4 s5 s6 s7 s8,DR P ns' b'/\X= .ok (.nx (yd L st ns' b' mv' s4 s5 s6 s7 s8))
theorem qP {L:bL N2}{S P:List N2}(hL:L.length<=500)(hP:P.length<1000)(hx:∀x∈L,x.2.1∈P)(st:T):∀(r:bL N2) (k:Nat) (b:cv N2) (mv:Bool) (ns:List N2) (s4 s5 s6 s7 s8:Sl),L.drop k=r->Kept L S b->DR P ns b →
  AR L P st (bj Hn AY (bv k (r.map eB)) (yd L st ns b mv s4 s5 s6 s7 s8)) (i0 L k r b mv)
 | [],k,b,mv,ns,s4,s5,s6,s7,s8,_,K,D=>⟨ns,s4,s5,s6,s7,s8,D,rfl⟩
 | x::r,k,b,mv,ns,s4,s5,s6,s7,s8,hr,K,D=>by
  have e:L[k]? =some x:=by
   have:=congrArg (·[0]?) hr
   simpa using this
  have hr':L.drop (k+1)=r:=by
   have:=congrArg (List.drop 1) hr
   simpa [List.drop_drop,NY]using this
  have tg:Hn (.tup [.int k,eB x]) (yd L st ns b mv s4 s5 s6 s7 s8)= .ok [.va (eL L),.va st,.ow (.dct (ns.map en) (dV ns b)),.va (.bl mv),.va (.int k),.va (eB x),s6,s7,s8]:=rfl
  have tn:=Bo K D hL hP e (hx x (Ks e)) st mv s6 s7 s8;rw[i0,Jb,bv]
  cases q:iB L b k x with
  | inr w=>
   rw[q]at tn;simp only;unfold AR
   exact wv tg tn
  | inl o=>
   rw[q]at tn
   cases o with
   | none=>
    obtain⟨s6',s7',s8',tn⟩:=tn;simp only;rw[Cb tg tn]
    exact qP hL hP hx st r (k+1) b mv ns _ _ _ _ _ hr' K D
   | some b'=>
    obtain⟨ns',s6',s7',s8',D',tn⟩:=tn;simp only;rw[du tg tn];refine qP (S:=S) hL hP hx st r (k+1) b' true ns' _ _ _ _ _ hr' ?_ D'
    -- what is kept stays so
    obtain⟨a,c,m⟩:=x;unfold iB at q
    cases qa:b a with
    | none=>simp only[qa]at q;cases q
    | some y=>
     obtain⟨d,w⟩:=y;simp only[qa]at q
     split at q
     ·rename_i hb
      split at q
      ·cases q
      ·rename_i hn
       cases q;exact K.put e qa hb hn
     ·cases q
abbrev wF:En->Rs Fl:=au (cX (cn (.bl false)) (gN 3)) (d6 (iE (ac (vr 0) ag)) Hn AY)
def SetP (L:bL N2)(P:List N2)(st:T)(X:Rs Fl):Sum (cv N2) (List Nat)->Prop
 | .inr q=>X= .ok (.rt (.tup [.non,.lst (eN q)]))
 | .inl b'=> ∃ns' s4 s5 s6 s7 s8,DR P ns' b'/\X= .ok (.nx (yd L st ns' b' false s4 s5 s6 s7 s8))
theorem tq {L:bL N2}{S P:List N2}(hL:L.length<=500)(hP:P.length<1000)(hx:∀x∈L,x.2.1∈P)(st:T):∀(n:Nat) (b:cv N2) (ns:List N2) (s4 s5 s6 s7 s8:Sl) (r:Sum (cv N2) (List Nat)),Kept L S b->DR P ns b->Gr.settle L n b=some r →
  SetP L P st (cb (tb (vr 3)) wF (n+1) (yd L st ns b true s4 s5 s6 s7 s8)) r
 | 0,_,_,_,_,_,_,_,_,_,_,h=>by cases h
 | n+1,b,ns,s4,s5,s6,s7,s8,r,K,D,h=>by
  have sw:=qP hL hP hx st L 0 b false ns s4 s5 s6 s7 s8 rfl K D
  have ok:=jk (S:=S) L 0 b false rfl K
  have body:∀X,bj Hn AY (bv 0 (L.map eB)) (yd L st ns b false s4 s5 s6 s7 s8)= .ok X->wF (yd L st ns b true s4 s5 s6 s7 s8)= .ok X:=λX hX=>by
   show au _ _ _=_
   rw[aw (Z':=yd L st ns b false s4 s5 s6 s7 s8) (cp (t:=.bl false) rfl rfl)];exact ee (ts:=bv 0 (L.map eB)) (zY rfl) hX
  have tt:tb (vr 3) (yd L st ns b true s4 s5 s6 s7 s8)= .ok true:=rfl;rw[Gr.settle]at h
  revert sw ok h
  generalize i0 L 0 L b false=R
  intro h sw ok
  cases R with
  | inr q=>
   simp only at h;cases h
   exact zS tt (body _ sw)
  | inl p=>
   obtain⟨b',mv'⟩:=p;obtain⟨ns',t4,t5,t6,t7,t8,D',sw⟩:=sw;obtain⟨K',_⟩:=ok
   cases mv' with
   | true=>
    simp only at h
    have ih:=tq hL hP hx st n b' ns' t4 t5 t6 t7 t8 r K' D' h;rw[um tt (body _ sw)]
    exact ih
   | false=>
    simp only at h;cases h;refine⟨ns',t4,t5,t6,t7,t8,D',?_⟩
    rw[um tt (body _ sw)];exact zT rfl
theorem iJ {c:En->Rs Bool}{F:En->Rs Fl}{x:Fl}:∀{n m:Nat} {Z:En},n<=m->cb c F n Z= .ok x->cb c F m Z= .ok x
 | 0,_,_,_,h=>by cases h
 | n+1,0,_,hl,_=>absurd hl (by omega)
 | n+1,m+1,Z,hl,h=>by
  unfold cb at h ⊢
  cases q:c Z with
  | bad=>rw[q]at h;cases h
  | err _=>rw[q]at h;cases h
  | ok k=>
   rw[q]at h
   cases k with
   | false=>exact h
   | true=>
    simp only at h ⊢
    cases q2:F Z with
    | bad=>rw[q2]at h;cases h
    | err _=>rw[q2]at h;cases h
    | ok f=>
     rw[q2]at h
     cases f with
     | nx Z'=>exact iJ (by omega) h
     | ct Z'=>exact iJ (by omega) h
     | bk Z'=>exact h
     | rt t=>exact h
theorem yV (w:T):∀S:List N2,FA (S.map λv=> .tup [en v,w])=some (S.map λv=>(en v,w))
 | [] =>rfl
 | v::S=>by rw[Jb,FA,bp,yV w S];rfl
theorem uC (w:T):∀(S ns:List N2) (g:N2->T),(ns++S).Nodup->(∀v∈S,g v=w)->gZ (S.map λv=>(en v,w)) (ns.map en,ns.map g)=((ns++S).map en,(ns++S).map g)
 | [],ns,g,_,_=>by rw[Kd];rfl
 | v::S,ns,g,hn,hg=>by
  have hv:v∉ns:=λz=>by
   rw[Kf]at hn;exact hn.2.2 v z v Ja rfl
  rw[Jb,gZ,jG _ _ _ _ hv]
  have e1:ns.map en++ [en v] =(ns++ [v]).map en:=by rw[JX];rfl
  have e2:ns.map g++ [w] =(ns++ [v]).map g:=by rw[JX,<-hg v Ja];rfl
  rw[e1,e2,uC w S (ns++ [v]) g (by rw[JB];exact hn) λu hu=>hg u (IZ _ hu),JB]
  rfl
theorem Cw (w:T)(S:List N2)(hn:S.Nodup)(hl:S.length<=1000):wK [.lst (S.map λv=> .tup [en v,w])] = .ok (.dct (S.map en) (S.map λ_=>w)):=by
 unfold wK;simp only[yV];rw[if_pos (by rw[Jd];exact hl)]
 have:=uC w S [] (λ_=>w) (by simpa using hn) (λ_ _=>rfl)
 rw[Ko]at this;rw[show(([]:List T),([]:List T))=(([]:List N2).map en,([]:List N2).map λ_=>w)from rfl,this]
def eS (S:List N2):T:=.lst (S.map en)
def CK (L:bL N2)(P:List N2)(X:Rs T):Sum (cv N2) (List Nat)->Prop
 | .inr q=>X= .ok (.tup [.non,.lst (eN q)])
 | .inl b'=> ∃ns',DR P ns' b'/\X= .ok (.tup [.dct (ns'.map en) (dV ns' b'),.non])
structure Hd (L:bL N2)(P:List N2):Prop where
 len:L.length<=500
 size:size L<=100000000
 ends:∀x∈L,x.1∈P/\x.2.1∈P
 pl:P.length<1000
def SOk (L:bL N2)(S:List N2):Sum (cv N2) (List Nat)->Prop
 | .inr q=>Bar L q
 | .inl b'=>Settled L S b'
theorem uA {L:bL N2}{S P:List N2}(F:Hd L P)(hS:S.Nodup)(hSP:∀v∈S,v∈P):∃r,CK L P (gV [eL L,eS S]) r/\SOk L S r:=by
 have bound:L.length*(2*size L+1)<1000000000000 - 1:=by
  have h1:=F.len
  have h2:=F.size
  have:L.length*(2*size L+1)<=500*(2*100000000+1):=Nat.mul_le_mul h1 (by omega)
  omega
 obtain⟨r,hr,ok⟩:=u5 L S bound
 have ok':SOk L S r:=by cases r <;> exact ok
 refine⟨r,?_,ok'⟩
 have hSl:S.length<=1000:=Ka (jT hS hSP) (by have:=F.pl;omega)
 have D0:DR P S (Gr.start S):=⟨hS,λv=>by unfold Gr.start;by_cases h:v∈S <;> simp[h],hSP⟩
 have dv0:dV S (Gr.start S)=S.map λ_=>eW (0,[]):=JE λv hv=>by unfold Gr.start;rw[if_pos hv];rfl
 have w:=tq F.len F.pl (λx hx=>(F.ends x hx).2) (eS S) _ (Gr.start S) S .em .em .em .em .em r (oN L S) D0 hr
 have lc:dO (iS (vr 1)) [none] (gN 0) bT (aR (ac (vr 0) (ac (aR (ac (cn (.int 0)) (ac (d7 ag) ag))) ag))) [.va (eL L),.va (eS S),.em,.em,.em,.em,.em,.em,.em] = .ok (.lst (S.map λv=> .tup [en v,eW (0,[])])):=by
  have:=m4 (fi:=iS (vr 1)) (src:=[none]) (fe:=aR (ac (vr 0) (ac (aR (ac (cn (.int 0)) (ac (d7 ag) ag))) ag))) (h:=λt=> .tup [t,eW (0,[])]) (Z:=[.va (eL L),.va (eS S),.em,.em,.em,.em,.em,.em,.em]) (ts:=S.map en) (oO rfl) (ax (k:=1000) (by rw[Jd];exact hSl)) (by simp) λt _=>
   de (ts:=[t,eW (0,[])]) (ao rfl (ao (de (ts:=[.int 0,.lst []]) (ao rfl (ao (lE (ts:=[]) rfl (Lc _)) rfl)) (ax (k:=2) (by simp))) rfl)) (ax (k:=2) (by simp))
  rw[this,J4];rfl
 have n0:p6 2 (dO (iS (vr 1)) [none] (gN 0) bT (aR (ac (vr 0) (ac (aR (ac (cn (.int 0)) (ac (d7 ag) ag))) ag)))) [.va (eL L),.va (eS S),.em,.em,.em,.em,.em,.em,.em] = .ok (.nx [.va (eL L),.va (eS S),.ow (.dct (S.map en) (dV S (Gr.start S))),.em,.em,.em,.em,.em,.em]):=by
  unfold p6;rw[lc,az,Cw _ S hS hSl,az,dv0]
  rfl
 have main:∀G X,cb (tb (vr 3)) wF FU (yd L (eS S) S (Gr.start S) true .em .em .em .em .em)= .ok X->g9 [.va (eL L),.va (eS S),.em,.em,.em,.em,.em,.em,.em] =G->(au (cb (tb (vr 3)) wF FU) (mU 2 (aI (aR (ac (vr 2) (ac (cn .non) ag)))))) (yd L (eS S) S (Gr.start S) true .em .em .em .em .em)=G:=λG X _ h=>by
  rw[<-h];unfold g9;rw[aw n0,aw (Z':=yd L (eS S) S (Gr.start S) true .em .em .em .em .em) (cp (t:=.bl true) rfl rfl)]
 cases r with
 | inr q=>
  have w':=iJ (m:=FU) (by unfold FU;omega) w
  refine bz rfl ?_
  show g9 [.va (eL L),.va (eS S),.em,.em,.em,.em,.em,.em,.em] =_
  rw[<-main _ _ w' rfl]
  exact l8 w'
 | inl b'=>
  obtain⟨ns',s4,s5,s6,s7,s8,D',w⟩:=w
  have w':=iJ (m:=FU) (by unfold FU;omega) w
  refine⟨ns',D',bz rfl ?_⟩
  show g9 [.va (eL L),.va (eS S),.em,.em,.em,.em,.em,.em,.em] =_
  rw[<-main _ _ w' rfl,aw w'];exact z8 (bQ (de (ts:=[.dct (ns'.map en) (dV ns' b'),.non]) rfl (ax (k:=2) (by simp))))
theorem oG {α:Type}{f:α->T}{p:α->Prop}:∀{l:List T},(∀t∈l,∃x,t=f x/\p x)->∃L:List α,l=L.map f/\∀x∈L,p x
 | [],_=>⟨[],rfl,λ_ h=>nomatch h⟩
 | t::l,h=>by
  obtain⟨x,e,hx⟩:=h t Ja;obtain⟨L,e2,h2⟩:=oG (l:=l) λu hu=>h u (IZ _ hu)
  exact⟨x::L,by rw[e,e2];rfl,λy hy=>(Jh.mp hy).elim (λz=>z▸hx) (h2 y)⟩
theorem oZ {t:T}(h:bH t=true):∃(x y:Int) (r:List Int),t= .tup [.int x,.int y,.tup (r.map .int)]/\(0<=x/\x<=9)/\(0<=y/\y<=9)/\∀k,0<=r.getD k 0/\r.getD k 0<=99:=by
 obtain⟨x,y,r,rfl,h1,h2,h3,h4⟩:=fS h;refine⟨x,y,r,rfl,h1,h2,λk=> ?_⟩
 have h':(mW (.int x) (.int y)&&cU (.tup (r.map .int)))=true:=h;rw[Jc]at h'
 have hr:=h'.2;unfold cU at hr;rw[Jc]at hr
 have hr2:(((r.map T.int).all λu=>aU u 0 99)&&(match jx (r.map .int)with | some m=>ni m | none=>false))=true:=hr.2
 rw[Jc]at hr2
 by_cases hk:k<r.length
 ·have:=JH.mp hr2.1 (.int r[k]) (Jl.mpr ⟨_,KU hk,rfl⟩)
  obtain⟨i,e,a,b⟩:=cj this;cases e;simp[hk];exact⟨a,b⟩
 ·simp[hk]
theorem rV {cs:List T}{i:Nat}:∀{cs0:List T} {c k:Nat},i<=c->c<i+cs0.length->k<DE (cs0.getD (c - i) .non)->T.tup [.int c,.int k] ∈f8 i cs0:=by
 intro cs0
 induction cs0 generalizing i with
 | nil=>intro c k h1 h2;simp at h2;omega
 | cons a r ih=>
  intro c k h1 h2 h3;rw[f8,JG]
  by_cases e:c=i
  ·subst e
   rw[N5]at h3
   have h3':k<DE a:=h3;exact .inl (Jl.mpr ⟨.int k,B4 h3',rfl⟩)
  ·refine .inr (ih (by omega) (by rw[Ji]at h2;omega) ?_)
   rw[show c - i=(c - (i+1))+1 by omega]at h3
   exact h3
theorem mf {cs:List T}{t:T}(h:aX cs t=true):t∈f8 0 cs:=by
 obtain⟨c,k,rfl⟩:=dk h;unfold aX at h;simp only[Jc,decide_eq_true_eq]at h;obtain⟨⟨h1,h2⟩,h3,h4⟩:=h;obtain⟨c,rfl⟩:=Kh h1;obtain⟨k,rfl⟩:=Kh h3;rw[p7]at h4;exact rV (cs:=cs) (Lc _) (by omega) (by rw[Nc];omega)
theorem At {cs:List T}{t:T}(h:t∈f8 0 cs):∃v:N2,t=en v/\True:=by
 obtain⟨c,k,rfl,_⟩:=nt cs 0 h;exact⟨⟨c,k⟩,rfl,trivial⟩
def big (x:N2×N2×Int):Prop:=x.2.2.natAbs<=999
theorem p9 {a b:Int}(ha : -99<=a/\a<=99)(hb:0<=b/\b<=9):(a*b).natAbs<=999:=by
 rw[Int.natAbs_mul]
 have h1:a.natAbs<=99:=by omega
 have h2:b.natAbs<=9:=by omega
 exact Ka (Nat.mul_le_mul h1 h2) (by decide)
theorem Dd {cs0:List T}:∀{cs:List T} {i:Nat},(∀c∈cs,bH c=true)->(∀c k:Nat,i<=c->c<i+cs.length->k<DE (cs.getD (c - i) .non)->T.tup [.int c,.int k] ∈f8 0 cs0) →
  ∀t∈bC i cs,∃x,t=eB x/\(en x.1∈f8 0 cs0/\en x.2.1∈f8 0 cs0/\big x)
 | [],_,_,_,t,h=>by simp[bC]at h
 | c::cs,i,hc,hm,t,h=>by
  rw[bC,JG]at h;rcases h with h | h
  ·obtain⟨x,y,r,rfl,hx,hy,hr⟩:=oZ (hc c Ja)
   have hm0:∀k,k<r.length->T.tup [.int i,.int k] ∈f8 0 cs0:=λk hk=>hm i k (Jq _) (by simp) (by rw[N5];show k<(r.map T.int).length;rw[Jd];exact hk)
   rw[kY]at h;unfold cB at h;obtain⟨k,hk,hp⟩:=JW.mp h
   have hk:=JR.mp hk
   have d : -99<=dr r k/\dr r k<=99:=by have:=hr k;have:=hr (k+1);unfold dr;omega
   unfold pr at hp;simp only[Jh,J1,or_false]at hp;rcases hp with rfl | rfl
   ·exact⟨(⟨i,k⟩,⟨i,((k+1:Nat):Int)⟩,dr r k*y),rfl,hm0 k (by omega),hm0 (k+1) (by omega),p9 d hy⟩
   ·exact⟨(⟨i,((k+1:Nat):Int)⟩,⟨i,k⟩,-dr r k*x),rfl,hm0 (k+1) (by omega),hm0 k (by omega),p9 (by omega) hx⟩
  ·exact Dd (cs:=cs) (i:=i+1) (λc h=>hc c (IZ _ h)) (λc k h1 h2 h3=>hm c k (by omega) (by rw[Ji];omega) (by rw[show c - i=(c - (i+1))+1 by omega];exact h3)) t h
theorem GF {cs:List T}{u:T}(hu:bu cs u=true):∀t∈lB u,∃x,t=eB x/\(en x.1∈f8 0 cs/\en x.2.1∈f8 0 cs/\big x):=by
 intro t ht;obtain⟨a,b,x,y,rfl,hd,ha,hb,_⟩:=dU hu
 have ma:=mf ha
 have mb:=mf hb;obtain⟨va,rfl,_⟩:=At ma;obtain⟨vb,rfl,_⟩:=At mb;unfold dw at hd;rw[Jc]at hd;obtain⟨i,rfl,i1,i2⟩:=cj hd.1
 have e2:lB (.tup [en va,en vb,.int i,y])= .tup [en vb,en va,.int (-i)] ::(if y.isN then []else [.tup [en va,en vb,y]]):=rfl
 rw[e2]at ht;rcases Jh.mp ht with rfl | ht
 ·exact⟨(vb,va,-i),rfl,mb,ma,by unfold big;simp only;omega⟩
 ·cases q:y.isN with
  | true=>rw[q]at ht;simp at ht
  | false=>
   rw[q]at ht
   have ht:t= .tup [en va,en vb,y]:=by simpa using ht
   have hw:aU y i 999=true:=by
    cases y with
    | non=>cases q
    | _=>exact hd.2
   obtain⟨j,rfl,j1,j2⟩:=cj hw;exact⟨(va,vb,j),ht,ma,mb,by unfold big;simp only;omega⟩
structure Rd (cs ls:List T)(L:bL N2)(P:List N2):Prop where
 g:Good cs ls
 b:uM cs ls=L.map eB
 e:f8 0 cs=P.map en
 f:Hd L P
 nd:P.Nodup
 pl:P.length<=16
 ll:L.length<=60
 bg:∀x∈L,big x
theorem Bm {L:bL N2}(h:∀x∈L,big x):size L<=999*L.length:=by
 unfold size
 induction L with
 | nil=>simp
 | cons x L ih=>
  rw[Jb,KZ,Ji]
  have:=ih λy hy=>h y (IZ _ hy)
  have:=h x Ja;unfold big at this;omega
theorem zu {P:List N2}(h:(P.map en).Nodup):P.Nodup:=by
 induction P with
 | nil=>exact K1
 | cons a r ih=>
  rw[Jb,JL]at h;exact JL.mpr ⟨λz=>h.1 (Jl.mpr ⟨a,z,rfl⟩),ih h.2⟩
theorem n6 {cs ls:List T}(g:Good cs ls):∃L P,Rd cs ls L P:=by
 obtain⟨hc,c1,c4⟩:=bW g.c;obtain⟨P,eP,_⟩:=oG (f:=en) (p:=λ_=>True) (l:=f8 0 cs) λt ht=>At ht
 have key:∀t∈uM cs ls,∃x,t=eB x/\(en x.1∈f8 0 cs/\en x.2.1∈f8 0 cs/\big x):=λt ht=>by
  unfold uM at ht;rw[JG]at ht;rcases ht with h | h
  ·exact Dd hc (λc k h1 h2 h3=>rV (cs:=cs) h1 h2 h3) t h
  ·obtain⟨u,hu,h⟩:=JW.mp h
   exact GF (g.l u hu) t h
 obtain⟨L,eL,hL⟩:=oG key
 have mem:∀v:N2,en v∈f8 0 cs->v∈P:=λv hv=>by
  rw[eP]at hv;obtain⟨u,hu,e⟩:=Jl.mp hv;rw[<-oV e];exact hu
 have hl:=CG g;rw[eL,Jd]at hl
 have hp:=sh cs 0 hc;rw[eP,Jd]at hp
 have hs:=Bm λx hx=>(hL x hx).2.2
 exact⟨L,P,g,eL,eP,⟨by omega,by omega,λx hx=>⟨mem _ (hL x hx).1,mem _ (hL x hx).2.1⟩,by omega⟩,zu (eP▸lW cs 0),by omega,hl,λx hx=>(hL x hx).2.2⟩
def run (L:bL N2):N2->List Nat->Option N2
 | a,[] =>some a
 | a,k::r=>match L[k]? with
  | some x=>if x.1=a then run L x.2.1 r else none
  | none=>none
section
variable {cs ls:List T}{L:bL N2}{P:List N2}
theorem Rd.ev (R:Rd cs ls L P){v:N2}(h:v∈P):aX cs (en v)=true:=wC (by rw[R.e];exact Jl.mpr ⟨v,h,rfl⟩)
theorem Rd.bounds (R:Rd cs ls L P):fB [.tup [.tup cs,.tup ls]] = .ok (eL L):=by rw[AB R.g,R.b];rfl
theorem Rd.IE (R:Rd cs ls L P){a b:N2}(ha:a∈P)(hb:b∈P):fY [.tup [.tup cs,.tup ls],en a,en b] = .ok .non:=by
 refine l7 (Z:=[.va (.tup [.tup cs,.tup ls]),.va (en a),.va (en b)]) rfl ?_
 show eE [.va (.tup [.tup cs,.tup ls]),.va (en a),.va (en b)] =_
 unfold eE;rw[aw (lF (t:=.non) (aK (ts:=[.tup [.tup cs,.tup ls]]) rfl (jy R.g.p R.g.ok)))];rw[aw (lF (t:=.non) (aK (ts:=[.tup [.tup cs,.tup ls],en a]) rfl (v8 R.g rfl (R.ev ha))))];exact lF (t:=.non) (aK (ts:=[.tup [.tup cs,.tup ls],en b]) rfl (v8 R.g rfl (R.ev hb)))
end
section
variable {cs ls:List T}{L:bL N2}{P:List N2}
theorem Rd.events (R:Rd cs ls L P):cQ [.tup [.tup cs,.tup ls]] = .ok (eS P):=by rw[zh R.g,R.e];rfl
theorem vC {ns:List N2}{b:cv N2}(D:DR P ns b){v:N2}{x:Int×List Nat}(e:b v=some x):aL (.dct (ns.map en) (dV ns b)) (en v)= .ok (eW x):=by
 unfold aL;simp only[bp];rw[D.get,e];rfl
theorem AE {ns:List N2}{b:cv N2}(D:DR P ns b)(v:N2):AF (en v) (.dct (ns.map en) (dV ns b))= .ok (.bl (b v).isSome):=by
 unfold AF;simp only[bp];rw[D.get];cases b v <;> rfl
def iK (P:List N2)(t:N2->Int):T:=.tup (P.map λv=> .int (t v))
def Hk (b:cv N2)(v:N2):Int:=match b v with
 | some x=>x.1
 | none=>0
def atT (t:N2->Int)(u:T):T:=match u with
 | .tup [.int c,.int k] => .int (t ⟨c,k⟩)
 | _=> .non
theorem Rd.IK (R:Rd cs ls L P):(¬NoNeg L/\jW [(.tup [.tup cs,.tup ls])] = .ok .non)\/(NoNeg L/\∃t b,Settled L P b/\(∀v∈P,∃w,b v=some (t v,w))/\jW [(.tup [.tup cs,.tup ls])] = .ok (iK P t)):=by
 obtain⟨r,hr,ok⟩:=uA R.f R.nd (λv h=>h)
 have wrap:∀{w:T},dR [(.tup [.tup cs,.tup ls]),eL L] = .ok w->jW [(.tup [.tup cs,.tup ls])] = .ok w:=λ{w} e=>bz rfl (bQ (aK (ts:=[(.tup [.tup cs,.tup ls]),eL L]) (ao rfl (ao (aK (ts:=[(.tup [.tup cs,.tup ls])]) rfl R.bounds) rfl)) e))
 have begin_:∀{x z:T} {y:Rs Fl},gV [eL L,eS P] = .ok (.tup [x,z])->((au (dY (tb (o2 gC (vr 3) (cn .non))) (aI (cn .non)) sN) (aI (cl fQ (ac (dO (iS (vr 2)) [none,some 3] (gN 0) bT (o2 aN (o2 aL (vr 1) (vr 0)) (cn (.int 0)))) ag)))) [.va (.tup [.tup cs,.tup ls]),.va (eL L),.va (eS P),.va x] =y)->di [.va (.tup [.tup cs,.tup ls]),.va (eL L),.em,.em] =y:=λ{x z y} hs hy=>by
  unfold di;rw[aw (Z':=[.va (.tup [.tup cs,.tup ls]),.va (eL L),.va (eS P),.em]) (cp (aK (ts:=[(.tup [.tup cs,.tup ls])]) rfl R.events) rfl)];rw[aw (Z':=[.va (.tup [.tup cs,.tup ls]),.va (eL L),.va (eS P),.va x]) (cp (aA (u:=.int 0) (aK (ts:=[eL L,eS P]) rfl hs) rfl rfl) rfl)];exact hy
 cases r with
 | inr q=>exact .inl ⟨λn=>absurd n (Bar.neg ok),wrap (bz rfl (begin_ hr (l8 ((jb (bw (aA (t:=.non) (u:=.non) rfl rfl rfl))).trans rfl))))⟩
 | inl b=>
  obtain⟨ns,D,hr⟩:=hr
  have ok:Settled L P b:=ok
  have htm:∀v∈P,∃w,b v=some (Hk b v,w):=λv hv=>by
   obtain⟨d,w,e,_⟩:=ok.least v hv v 0 (.nil v);exact⟨w,by unfold Hk;rw[e]⟩
  refine .inr ⟨(ok.holds R.f.ends htm).Iu,Hk b,b,ok,htm,wrap (bz rfl (begin_ hr ?_))⟩
  generalize Hk b=tm at htm
  have lc:dO (iS (vr 2)) [none,some 3] (gN 0) bT (o2 aN (o2 aL (vr 1) (vr 0)) (cn (.int 0))) [.va (.tup [.tup cs,.tup ls]),.va (eL L),.va (eS P),.va (.dct (ns.map en) (dV ns b))] = .ok (.lst ((P.map en).map (atT tm))):=
   m4 (ts:=P.map en) (oO rfl) (ax (k:=16) (by rw[Jd];exact R.pl)) (by simp) λt ht=>by
    obtain⟨v,hv,rfl⟩:=Jl.mp ht;obtain⟨w,e⟩:=htm v hv;exact aA (t:=eW (tm v,w)) (u:=.int 0) (aA (t:=.dct (ns.map en) (dV ns b)) (u:=en v) rfl rfl (vC D e)) rfl rfl
  rw[J4]at lc;rw[aw (Z':=[.va (.tup [.tup cs,.tup ls]),.va (eL L),.va (eS P),.va (.dct (ns.map en) (dV ns b))]) ((cJ (bw (aA (t:=.dct (ns.map en) (dV ns b)) (u:=.non) rfl rfl rfl))).trans rfl)];exact bQ (aK (ao lc rfl) rfl)
theorem Rd.Im (R:Rd cs ls L P):∃hw:Bool,ce [(.tup [.tup cs,.tup ls])] = .ok (.bl hw)/\(hw=true↔NoNeg L):=by
 rcases R.IK with⟨n,e⟩ | ⟨n,t,b,_,_,e⟩
 ·exact⟨false,bz rfl (bQ (aA (t:=.non) (u:=.non) (aK (ts:=[(.tup [.tup cs,.tup ls])]) rfl e) rfl rfl)),λz=>(by cases z),λz=>absurd z n⟩
 ·exact⟨true,bz rfl (bQ (aA (t:=iK P t) (u:=.non) (aK (ts:=[(.tup [.tup cs,.tup ls])]) rfl e) rfl rfl)),λ_=>n,λ_=>rfl⟩
theorem Rd.Ih (R:Rd cs ls L P)(n:NoNeg L):bO [.tup [.tup cs,.tup ls]] = .ok .non:=by
 obtain⟨hw,e,i⟩:=R.Im;rw[i.mpr n]at e;refine l7 (Z:=[.va (.tup [.tup cs,.tup ls])]) rfl ?_
 show fF [.va (.tup [.tup cs,.tup ls])] =_
 unfold fF;exact(cJ (gh (k:=true) (bw (aK (ts:=[.tup [.tup cs,.tup ls]]) rfl e)))).trans rfl
theorem Rd.from_ (R:Rd cs ls L P)(n:NoNeg L){a:N2}(ha:a∈P):∃b ns,Settled L [a] b/\DR P ns b/\dq [.tup [.tup cs,.tup ls],en a] = .ok (.dct (ns.map en) (dV ns b)):=by
 obtain⟨r,hr,ok⟩:=uA (S:=[a]) R.f (by simp) (λv h=>by rw[Jp.mp h];exact ha)
 cases r with
 | inr q=>exact absurd n (Bar.neg ok)
 | inl b=>
  obtain⟨ns,D,hr⟩:=hr;refine⟨b,ns,ok,D,bz rfl (bQ (aA (u:=.int 0) (aK (ts:=[eL L,eS [a]]) (ao (aK (ts:=[.tup [.tup cs,.tup ls]]) rfl R.bounds) (ao (lE (ts:=[en a]) rfl (ax (k:=1) (by simp))) rfl)) hr) rfl rfl))⟩
def zC (o:Option (Int×List Nat)):T:=match o with
 | some x=> .int x.1
 | none=> .non
theorem Rd.IQ (R:Rd cs ls L P)(n:NoNeg L){a c:N2}(ha:a∈P)(hc:c∈P):∃b,Settled L [a] b/\cA [.tup [.tup cs,.tup ls],en a,en c] = .ok (zC (b c)):=by
 obtain⟨b,ns,S,D,e⟩:=R.from_ n ha;refine⟨b,S,bz rfl ?_⟩
 show dQ [.va (.tup [.tup cs,.tup ls]),.va (en a),.va (en c)] =_
 unfold dQ;rw[aw (lF (t:=.non) (aK (ts:=[.tup [.tup cs,.tup ls],en a,en c]) rfl (R.IE ha hc)))];rw[aw (lF (t:=.non) (aK (ts:=[.tup [.tup cs,.tup ls]]) rfl (R.Ih n)))];refine bQ (aK (ts:=[.dct (ns.map en) (dV ns b),en c]) (ao (aK (ts:=[.tup [.tup cs,.tup ls],en a]) rfl e) rfl) (bz rfl ?_))
 refine bQ ((ja (p:=(b c).isSome) (bw (aA (t:=en c) (u:=.dct (ns.map en) (dV ns b)) rfl rfl (AE D c)))).trans ?_)
 cases q:b c with
 | none=>rfl
 | some x=>exact aA (t:=eW x) (u:=.int 0) (aA (t:=.dct (ns.map en) (dV ns b)) (u:=en c) rfl rfl (vC D q)) rfl rfl
end
def oI (o:Option Int):T:=match o with
 | some x=> .int x
 | none=> .non
def gx (P:List N2)(f:cZ N2):List (List T×List T):=P.map λu=>(P.map en,P.map λv=>oI (f u v))
def eR (P:List N2)(f:cZ N2):T:=.dct (P.map en) (P.map λu=> .dct (P.map en) (P.map λv=>oI (f u v)))
abbrev iM (P:List N2)(L:bL N2)(f:cZ N2)(s3 s4 s5 s6 s7:Sl):En:=[.va (eS P),.va (eL L),.ow (.dd (P.map en) (gx P f)),s3,s4,s5,s6,s7]
abbrev Dq (P:List N2)(L:bL N2)(f:cZ N2)(s3 s4 s5 s6 s7:Sl):En:=[.va (eS P),.va (eL L),.va (eR P f),s3,s4,s5,s6,s7]
section
variable {P:List N2}{L:bL N2}{f:cZ N2}
theorem vD (s3 s4 s5 s6 s7:Sl):disown 2 (iM P L f s3 s4 s5 s6 s7)=Dq P L f s3 s4 s5 s6 s7:=by
 show [Sl.va (eS P),.va (eL L),.va (OT.view (.dd (P.map en) (gx P f))),s3,s4,s5,s6,s7] =_
 have e:OT.view (.dd (P.map en) (gx P f))=eR P f:=by
  show T.dct (P.map en) ((gx P f).map λr=>T.dct r.1 r.2)=_
  unfold gx eR;rw[J4]
  rfl
 rw[e]
theorem qM {u v:N2}{a b c:En->Rs T}{Z:En}(hc:c Z= .ok (eR P f))(ha:a Z= .ok (en u))(hb:b Z= .ok (en v))(hu:u∈P)(hv:v∈P):o2 aL (o2 aL c a) b Z= .ok (oI (f u v)):=by
 refine aA (t:=.dct (P.map en) (P.map λw=>oI (f u w))) (u:=en v) (aA (t:=eR P f) (u:=en u) hc ha ?_) hb ?_
 ·show(match kf (P.map en) (P.map λu=>T.dct (P.map en) (P.map λv=>oI (f u v))) (ky u)with | some t=>Rs.ok t | none=> .bad)=_
  rw[lL (λu=>T.dct (P.map en) (P.map λv=>oI (f u v))),if_pos hu]
 ·show(match kf (P.map en) (P.map λw=>oI (f u w)) (ky v)with | some t=>Rs.ok t | none=> .bad)=_
  rw[lL (λw=>oI (f u w)),if_pos hv]
theorem zI {u v:N2}{a b:En->Rs T}{s3 s4 s5 s6 s7:Sl}(ha:a (Dq P L f s3 s4 s5 s6 s7)= .ok (en u))(hb:b (Dq P L f s3 s4 s5 s6 s7)= .ok (en v))(hu:u∈P)(hv:v∈P):ln 2 (o2 aL (o2 aL (vr 2) a) b) (iM P L f s3 s4 s5 s6 s7)= .ok (oI (f u v)):=
 Cc (o:=.dd (P.map en) (gx P f)) rfl (by rw[vD];exact qM rfl ha hb hu hv) (by cases f u v <;> rfl)
theorem yJ (g:N2->List T×List T)(u:N2):∀(Q:List N2),u∈Q->pI (Q.map en) (Q.map g) (ky u)=some (g u)
 | w::Q,h=>by
  rw[Jb,Jb,pI,bp]
  by_cases e:w=u
  ·subst e;rw[if_pos rfl]
  ·rw[if_neg (λz=>e (iU z)),yJ g u Q ((Jh.mp h).elim (λz=>absurd z.symm e) id)]
theorem yG (g:N2->List T×List T)(u:N2)(x:List T×List T):∀(Q:List N2),Q.Nodup->pH (ky u) x (Q.map en) (Q.map g)=Q.map λw=>if w=u then x else g w
 | [],_=>rfl
 | w::Q,h=>by
  rw[JL]at h;rw[Jb,Jb,pH,bp,Jb]
  by_cases e:w=u
  ·subst e
   rw[if_pos rfl,if_pos rfl]
   congr 1
   exact JE λz hz=>by rw[if_neg (λ(y:z=w)=>h.1 (y▸hz))]
  ·rw[if_neg (λz=>e (iU z)),if_neg e,yG g u x Q h.2]
theorem yS (nd:P.Nodup)(pl:P.length<1000){u v:N2}{x:Int}{a b c:En->Rs T}{s3 s4 s5 s6 s7:Sl}(ha:a (iM P L f s3 s4 s5 s6 s7)= .ok (en u))(hb:b (iM P L f s3 s4 s5 s6 s7)= .ok (en v))(hc:c (iM P L f s3 s4 s5 s6 s7)= .ok (.int x))(hu:u∈P)(hv:v∈P) :
  i7 2 a b c (iM P L f s3 s4 s5 s6 s7)= .ok (.nx (iM P L (jE f u v x) s3 s4 s5 s6 s7)):=by
 unfold i7
 show(c (iM P L f s3 s4 s5 s6 s7) >>= λw=>a (iM P L f s3 s4 s5 s6 s7) >>= λz=>match(aW z).bind λka=>(pI (P.map en) (gx P f) ka).map λr=>(ka,r)with
  | some (ka,r)=>b (iM P L f s3 s4 s5 s6 s7) >>= λy=>if (aW y).isSome=true/\r.1.length<1000 then Rs.ok (Fl.nx ((iM P L f s3 s4 s5 s6 s7).set 2 (.ow (.dd (P.map en) (pH ka (gD y w r.1 r.2) (P.map en) (gx P f))))))else .bad
  | none=> .bad)=_
 rw[hc,az,ha,az,bp]
 have e1:pI (P.map en) (gx P f) (ky u)=some (P.map en,P.map λv=>oI (f u v)):=yJ (λu=>(P.map en,P.map λv=>oI (f u v))) u P hu
 simp only[Option.bind_some,e1,N7];rw[hb,az,bp,if_pos ⟨rfl,by rw[Jd];exact pl⟩,sk (.int x) v (λv=>oI (f u v)) P nd hv]
 have e2:=yG (λu=>(P.map en,P.map λv=>oI (f u v))) u (P.map en,P.map λw=>if w=v then T.int x else oI (f u w)) P nd
 have e3:(P.map λw=>if w=u then(P.map en,P.map λw=>if w=v then T.int x else oI (f u w))else(P.map en,P.map λv=>oI (f w v)))=gx P (jE f u v x):=by
  unfold gx jE;refine JE λw _=> ?_
  by_cases e:w=u
  ·subst e
   rw[if_pos rfl]
   congr 1
   refine JE λz _=> ?_
   by_cases h:z=v
   ·rw[if_pos h,if_pos ⟨rfl,h⟩];rfl
   ·rw[if_neg h,if_neg (λq=>h q.2)]
  ·rw[if_neg e]
   congr 1
   exact JE λz _=>by rw[if_neg (λq=>e q.1)]
 show Rs.ok (Fl.nx [.va (eS P),.va (eL L),.ow (.dd (P.map en) (pH (ky u) (P.map en,P.map λw=>if w=v then T.int x else oI (f u w)) (P.map en) (gx P f))),s3,s4,s5,s6,s7])=_
 rw[show pH (ky u) (P.map en,P.map λw=>if w=v then T.int x else oI (f u w)) (P.map en) (gx P f)=gx P (jE f u v x)from e2.trans e3]
theorem Ah (nd:P.Nodup)(pl:P.length<1000){u v:N2}{x:Int}{a b c:En->Rs T}{s3 s4 s5 s6 s7:Sl}(ha:a (iM P L f s3 s4 s5 s6 s7)= .ok (en u))(hb:b (iM P L f s3 s4 s5 s6 s7)= .ok (en v))(ha':a (Dq P L f s3 s4 s5 s6 s7)= .ok (en u))(hb':b (Dq P L f s3 s4 s5 s6 s7)= .ok (en v))(hc:c (iM P L f s3 s4 s5 s6 s7)= .ok (.int x))(hu:u∈P)(hv:v∈P) :
  dY (je (tb (o2 gC (ln 2 (o2 aL (o2 aL (vr 2) a) b)) (cn .non))) (tb (o2 rX c (ln 2 (o2 aL (o2 aL (vr 2) a) b))))) (i7 2 a b c) sN (iM P L f s3 s4 s5 s6 s7)= .ok (.nx (iM P L (m6 f u v x) s3 s4 s5 s6 s7)):=by
 have g:=zI (P:=P) (L:=L) (f:=f) ha' hb' hu hv
 have p:=yS (P:=P) (L:=L) (f:=f) nd pl ha hb hc hu hv;unfold m6
 cases q:f u v with
 | none=>
  rw[q]at g
  exact(jb (zV (bw (aA (t:=.non) (u:=.non) g rfl rfl)))).trans p
 | some y=>
  rw[q]at g
  have c2:tb (o2 rX c (ln 2 (o2 aL (o2 aL (vr 2) a) b))) (iM P L f s3 s4 s5 s6 s7)= .ok (decide (x<y)):=bw (aA (t:=.int x) (u:=.int y) hc g rfl)
  by_cases h:x<y
  ·rw[decide_eq_true h]at c2
   simp only[if_pos h];exact(jb (lD (bw (aA (t:=.int y) (u:=.non) g rfl rfl)) c2)).trans p
  ·rw[decide_eq_false h]at c2
   simp only[if_neg h];exact(cJ (lD (bw (aA (t:=.int y) (u:=.non) g rfl rfl)) c2)).trans rfl
end
section
variable {P:List N2}{L:bL N2}
theorem oH:∀(P:List N2),iC (P.map en)=true
 | [] =>rfl
 | u::P=>by
  have:=oH P;simp[iC,bp,this]
theorem EQ (nd:P.Nodup):((P.map en).map aW).Nodup:=by
 rw[J4];exact nd.map _ λa b h e=>h (iU e)
theorem Do (nd:P.Nodup)(pl:P.length<=1000):n4 2 0 [.va (eS P),.va (eL L),.em,.em,.em,.em,.em,.em] = .ok (.nx (iM P L (λ_ _=>none) .em .em .em .em .em)):=by
 show(if (2:Nat)<8/\iC (P.map en)=true/\((P.map en).map aW).Nodup/\(P.map en).length<=1000 then Rs.ok (Fl.nx [.va (eS P),.va (eL L),.ow (.dd (P.map en) ((P.map en).map λ_=>(P.map en,(P.map en).map λ_=>T.non))),.em,.em,.em,.em,.em])else .bad)=_
 rw[if_pos ⟨by omega,oH P,EQ nd,by rw[Jd];exact pl⟩,J4,J4]
 rfl
theorem CY (nd:P.Nodup)(pl:P.length<1000):∀(Q:List N2) (f:cZ N2) (s3 s4 s5 s6 s7:Sl),(∀u∈Q,u∈P)->∃s3',
  bj (gN 3) (i7 2 (vr 3) (vr 3) (cn (.int 0))) (Q.map en) (iM P L f s3 s4 s5 s6 s7)= .ok (.nx (iM P L (Q.foldl (λf u=>jE f u u 0) f) s3' s4 s5 s6 s7))
 | [],f,s3,s4,s5,s6,s7,_=>⟨s3,rfl⟩
 | u::Q,f,s3,s4,s5,s6,s7,h=>by
  have hu:=h u Ja;rw[Jb,du (Z1:=iM P L f (.va (en u)) s4 s5 s6 s7) rfl (yS nd pl (u:=u) (v:=u) (x:=0) rfl rfl rfl hu hu)];exact CY nd pl Q _ _ _ _ _ _ λw hw=>h w (IZ _ hw)
theorem qo:∀(Q:List N2) (f:cZ N2) (u v:N2),Q.foldl (λf u=>jE f u u 0) f u v=if u∈Q/\u=v then some 0 else f u v
 | [],f,u,v=>by rw[if_neg (λh=>nomatch h.1)];rfl
 | w::Q,f,u,v=>by
  rw[Qb,qo Q]
  by_cases e:u=v
  ·subst e
   by_cases m:u∈Q
   ·rw[if_pos ⟨m,rfl⟩,if_pos ⟨IZ _ m,rfl⟩]
   ·rw[if_neg (λz=>m z.1)]
    unfold jE
    by_cases q:u=w
    ·subst q;rw[if_pos ⟨rfl,rfl⟩,if_pos ⟨Ja,rfl⟩]
    ·rw[if_neg (λz=>q z.1),if_neg (λz=>(Jh.mp z.1).elim q m)]
  ·rw[if_neg (λz=>e z.2),if_neg (λz=>e z.2)]
   unfold jE;rw[if_neg (λz=>e (z.1.trans z.2.symm))]
theorem xO (P:List N2):P.foldl (λf u=>jE f u u 0) (λ_ _=>none)=sT P:=by
 funext u v
 rw[qo]
 rfl
theorem CW (nd:P.Nodup)(pl:P.length<1000):∀(M:bL N2) (f:cZ N2) (s3 s4 s5 s6 s7:Sl),(∀x∈M,x.1∈P/\x.2.1∈P)->∃s3' s4' s5',
  bj (gT 3 (dg (gN 3) (dg (gN 4) (dg (gN 5) iV)))) (dY (je (tb (o2 gC (ln 2 (o2 aL (o2 aL (vr 2) (vr 3)) (vr 4))) (cn .non))) (tb (o2 rX (vr 5) (ln 2 (o2 aL (o2 aL (vr 2) (vr 3)) (vr 4)))))) (i7 2 (vr 3) (vr 4) (vr 5)) sN) (M.map eB) (iM P L f s3 s4 s5 s6 s7)= .ok (.nx (iM P L (M.foldl (λf x=>m6 f x.1 x.2.1 x.2.2) f) s3' s4' s5' s6 s7))
 | [],f,s3,s4,s5,s6,s7,_=>⟨s3,s4,s5,rfl⟩
 | x::M,f,s3,s4,s5,s6,s7,h=>by
  have hx:=h x Ja;rw[Jb,du (Z1:=iM P L f (.va (en x.1)) (.va (en x.2.1)) (.va (.int x.2.2)) s6 s7) rfl (Ah nd pl (u:=x.1) (v:=x.2.1) (x:=x.2.2) rfl rfl rfl rfl rfl hx.1 hx.2)];exact CW nd pl M _ _ _ _ _ _ λw hw=>h w (IZ _ hw)
abbrev FJ:En->Rs Fl:=(dY (o9 (tb (o2 dy (ln 2 (o2 aL (o2 aL (vr 2) (vr 3)) (vr 6))) (cn .non))) (tb (o2 dy (ln 2 (o2 aL (o2 aL (vr 2) (vr 6)) (vr 4))) (cn .non)))) (au (cX (o2 aS (ln 2 (o2 aL (o2 aL (vr 2) (vr 3)) (vr 6))) (ln 2 (o2 aL (o2 aL (vr 2) (vr 6)) (vr 4)))) (gN 7)) (dY (je (tb (o2 gC (ln 2 (o2 aL (o2 aL (vr 2) (vr 3)) (vr 4))) (cn .non))) (tb (o2 rX (vr 7) (ln 2 (o2 aL (o2 aL (vr 2) (vr 3)) (vr 4)))))) (i7 2 (vr 3) (vr 4) (vr 7)) sN)) sN)
theorem Bd (nd:P.Nodup)(pl:P.length<1000){mid one other:N2}(hm:mid∈P)(h1:one∈P)(h2:other∈P)(f:cZ N2)(s5 s7:Sl):∃s7',
  FJ (iM P L f (.va (en one)) (.va (en other)) s5 (.va (en mid)) s7)= .ok (.nx (iM P L (lG mid one other f) (.va (en one)) (.va (en other)) s5 (.va (en mid)) s7')):=by
 have ga:∀s7,ln 2 (o2 aL (o2 aL (vr 2) (vr 3)) (vr 6)) (iM P L f (.va (en one)) (.va (en other)) s5 (.va (en mid)) s7)= .ok (oI (f one mid)):=λs7=>zI rfl rfl h1 hm
 have gb:∀s7,ln 2 (o2 aL (o2 aL (vr 2) (vr 6)) (vr 4)) (iM P L f (.va (en one)) (.va (en other)) s5 (.va (en mid)) s7)= .ok (oI (f mid other)):=λs7=>zI rfl rfl hm h2
 unfold lG FJ
 cases qa:f one mid with
 | none=>
  have ga:=ga s7;rw[qa]at ga
  exact⟨s7,(cJ (Aa (bw (aA (t:=.non) (u:=.non) ga rfl rfl)))).trans rfl⟩
 | some x=>
  have ga:=ga s7;rw[qa]at ga
  have c1:=bw (aA (g:=dy) (t:=.int x) (u:=.non) (fb:=cn .non) ga rfl rfl)
  cases qb:f mid other with
  | none=>
   have gb:=gb s7;rw[qb]at gb
   exact⟨s7,(cJ (vq c1 (bw (aA (t:=.non) (u:=.non) gb rfl rfl)))).trans rfl⟩
  | some y=>
   have gb:=gb s7;rw[qb]at gb;refine⟨.va (.int (x+y)),(jb (vq c1 (bw (aA (t:=.int y) (u:=.non) gb rfl rfl)))).trans ?_⟩
   rw[aw (cp (Z':=iM P L f (.va (en one)) (.va (en other)) s5 (.va (en mid)) (.va (.int (x+y)))) (aA (t:=.int x) (u:=.int y) ga gb rfl) rfl)];exact Ah nd pl (u:=one) (v:=other) (x:=x+y) rfl rfl rfl rfl rfl h1 h2
theorem CV (nd:P.Nodup)(pl:P.length<1000){mid one:N2}(hm:mid∈P)(h1:one∈P):∀(Q:List N2) (f:cZ N2) (s4 s5 s7:Sl),(∀u∈Q,u∈P)->∃s4' s7',
  bj (gN 4) FJ (Q.map en) (iM P L f (.va (en one)) s4 s5 (.va (en mid)) s7)= .ok (.nx (iM P L (lH mid one Q f) (.va (en one)) s4' s5 (.va (en mid)) s7'))
 | [],f,s4,s5,s7,_=>⟨s4,s7,rfl⟩
 | u::Q,f,s4,s5,s7,h=>by
  have hu:=h u Ja;obtain⟨s7',e⟩:=Bd (L:=L) nd pl hm h1 hu f s5 s7;rw[Jb,du (Z1:=iM P L f (.va (en one)) (.va (en u)) s5 (.va (en mid)) s7) rfl e];exact CV nd pl hm h1 Q _ _ _ _ λw hw=>h w (IZ _ hw)
theorem CU (nd:P.Nodup)(pl:P.length<1000){mid:N2}(hm:mid∈P):∀(Q:List N2) (f:cZ N2) (s3 s4 s5 s7:Sl),(∀u∈Q,u∈P)->∃s3' s4' s7',
  bj (gN 3) (d6 (iS (vr 0)) (gN 4) FJ) (Q.map en) (iM P L f s3 s4 s5 (.va (en mid)) s7)= .ok (.nx (iM P L (oQ mid Q P f) s3' s4' s5 (.va (en mid)) s7'))
 | [],f,s3,s4,s5,s7,_=>⟨s3,s4,s7,rfl⟩
 | u::Q,f,s3,s4,s5,s7,h=>by
  have hu:=h u Ja;obtain⟨s4',s7',e⟩:=CV (L:=L) nd pl hm hu P f s4 s5 s7 λ_ z=>z
  rw[Jb,du (Z1:=iM P L f (.va (en u)) s4 s5 (.va (en mid)) s7) rfl (ee (ts:=P.map en) rfl e)];exact CU nd pl hm Q _ _ _ _ _ λw hw=>h w (IZ _ hw)
theorem CT (nd:P.Nodup)(pl:P.length<1000):∀(Q:List N2) (f:cZ N2) (s3 s4 s5 s6 s7:Sl),(∀u∈Q,u∈P)->∃s3' s4' s6' s7',
  bj (gN 6) (d6 (iS (vr 0)) (gN 3) (d6 (iS (vr 0)) (gN 4) FJ)) (Q.map en) (iM P L f s3 s4 s5 s6 s7)= .ok (.nx (iM P L (ut Q P f) s3' s4' s5 s6' s7'))
 | [],f,s3,s4,s5,s6,s7,_=>⟨s3,s4,s6,s7,rfl⟩
 | u::Q,f,s3,s4,s5,s6,s7,h=>by
  have hu:=h u Ja;obtain⟨s3',s4',s7',e⟩:=CU (L:=L) nd pl hu P f s3 s4 s5 s7 λ_ z=>z
  rw[Jb,du (Z1:=iM P L f s3 s4 s5 (.va (en u)) s7) rfl (ee (ts:=P.map en) rfl e)];exact CT nd pl Q _ _ _ _ _ _ λw hw=>h w (IZ _ hw)
def CM (P:List N2)(f:cZ N2):Prop:=∀u∈P,∀y,f u u=some y->0<=y
theorem Dp (hd:∀u∈P,∃y,table P L u u=some y)(pl:P.length<1000)(s3 s4 s5 s6 s7:Sl) :
  ∃t,((CM P (table P L)/\t=eR P (table P L))\/(¬CM P (table P L)/\t= .non))/\mU 2 (aI (pj (tb (o2 nF (dO (iS (vr 0)) [none,some 2] (gN 0) (tb (o2 rX (o2 aL (o2 aL (vr 1) (vr 0)) (vr 0)) (cn (.int 0)))) (vr 0)) (d7 ag))) (vr 2) (cn .non))) (iM P L (table P L) s3 s4 s5 s6 s7)= .ok (.rt t):=by
 generalize hf:table P L=f
 rw[hf]at hd
 have lc:dO (iS (vr 0)) [none,some 2] (gN 0) (tb (o2 rX (o2 aL (o2 aL (vr 1) (vr 0)) (vr 0)) (cn (.int 0)))) (vr 0) (Dq P L f s3 s4 s5 s6 s7)= .ok (.lst (((P.map en).filter λt=>P.any λu=>decide (aW t=some (ky u))&&(match f u u with | some y=>decide (y<0) | none=>false)).map id)):=by
  refine zX (ts:=P.map en) rfl (ax (k:=1000) (by rw[Jd];omega)) (by simp) λt ht=> ?_
  obtain⟨u,hu,rfl⟩:=Jl.mp ht;obtain⟨y,hy⟩:=hd u hu;refine⟨?_,λ_=>rfl⟩
  have e:(P.any λw=>decide (aW (en u)=some (ky w))&&(match f w w with | some y=>decide (y<0) | none=>false))=decide (y<0):=by
   by_cases h:y<0
   ·rw[decide_eq_true h]
    exact MH.mpr ⟨u,hu,by rw[hy];simp[h,bp]⟩
   ·rw[decide_eq_false h,Mp]
    intro w hw
    by_cases q:w=u
    ·subst q;rw[hy];simp[h]
    ·rw[decide_eq_false (λz=>q (iU ((bp u).symm.trans z)).symm)];simp
  rw[e]
  have g:=qM (P:=P) (f:=f) (u:=u) (v:=u) (Z:=[.va (en u),.va (eR P f)]) (c:=vr 1) (a:=vr 0) (b:=vr 0) rfl rfl rfl hu hu;rw[hy]at g;exact bw (aA (t:=.int y) (u:=.int 0) g rfl rfl)
 rw[NA]at lc
 generalize hp:(λt=>P.any λu=>decide (aW t=some (ky u))&&(match f u u with | some y=>decide (y<0) | none=>false))=p at lc
 have pu:∀u∈P,∀y,f u u=some y->p (en u)=decide (y<0):=by
  intro u hu y hy;rw[<-hp]
  show(P.any λw=>decide (aW (en u)=some (ky w))&&(match f w w with | some y=>decide (y<0) | none=>false))=decide (y<0)
  by_cases h:y<0
  ·rw[decide_eq_true h]
   exact MH.mpr ⟨u,hu,by rw[hy];simp[h,bp]⟩
  ·rw[decide_eq_false h,Mp]
   intro w hw
   by_cases q:w=u
   ·subst q;rw[hy];simp[h]
   ·rw[decide_eq_false (λz=>q (iU ((bp u).symm.trans z)).symm)];simp
 have iff:(P.map en).filter p= [] ↔CM P f:=by
  rw[List.filter_eq_nil_iff]
  constructor
  ·intro h u hu y hy
   have:=h (en u) (Jl.mpr ⟨u,hu,rfl⟩);rw[pu u hu y hy]at this
   simpa using this
  ·intro h t ht
   obtain⟨u,hu,rfl⟩:=Jl.mp ht;obtain⟨y,hy⟩:=hd u hu;rw[pu u hu y hy]
   have:=h u hu y hy
   simpa using this
 have nd:nds ((P.map en).filter p)=true:=zy λt ht=>by
  obtain⟨u,_,rfl⟩:=Jl.mp (MS.mp ht).1
  rfl
 have eq:o2 nF (dO (iS (vr 0)) [none,some 2] (gN 0) (tb (o2 rX (o2 aL (o2 aL (vr 1) (vr 0)) (vr 0)) (cn (.int 0)))) (vr 0)) (d7 ag) (Dq P L f s3 s4 s5 s6 s7)= .ok (.bl (a6 (.lst ((P.map en).filter p)) (.lst []))):=
  aA (u:=.lst []) lc (lE rfl (ax (k:=1) (by simp))) (by unfold nF;rw[if_pos (oR (by simp[T.dep,deps]) (by simpa [T.nd]using nd) rfl)])
 by_cases D:CM P f
 ·refine⟨eR P f,.inl ⟨D,rfl⟩,?_⟩
  rw[iff.mpr D]at eq;refine z8 ?_
  rw[vD];exact bQ ((ja (p:=true) (bw eq)).trans rfl)
 ·refine⟨.non,.inr ⟨D,rfl⟩,?_⟩
  have:(P.map en).filter p≠ []:=λz=>D (iff.mp z)
  cases q:(P.map en).filter p with
  | nil=>exact absurd q this
  | cons a l=>
   rw[q]at eq;refine z8 ?_
   rw[vD];exact bQ ((ja (p:=false) (bw (eq.trans (by simp[a6,beqTs])))).trans rfl)
theorem Co (nd:P.Nodup)(pl:P.length<1000)(hL:∀x∈L,x.1∈P/\x.2.1∈P) :
  ∃t,((NoNeg L/\bA L P (table P L)/\t=eR P (table P L))\/(¬NoNeg L/\t= .non))/\gy [eS P,eL L] = .ok t:=by
 obtain⟨a3,e1⟩:=CY (L:=L) nd pl P (λ_ _=>none) .em .em .em .em .em λ_ z=>z
 rw[xO]at e1;obtain⟨b3,b4,b5,e2⟩:=CW (L:=L) nd pl L (sT P) a3 .em .em .em .em hL;obtain⟨c3,c4,c6,c7,e3⟩:=CT (L:=L) nd pl P (yv P L) b3 b4 b5 .em .em λ_ z=>z
 obtain⟨t,ht,e4⟩:=Dp (P:=P) (L:=L) (λu hu=>let ⟨y,h,_⟩:=nK (L:=L) hu;⟨y,h⟩) pl c3 c4 b5 c6 c7
 refine⟨t,ht.elim (λh=> .inl ?_) (λh=> .inr ⟨λn=>h.1 λu hu y hy=> ?_,h.2⟩),bz rfl ?_⟩
 ·have:=ji hL h.1
  exact⟨this.1,this.2,h.2⟩
 ·exact Int.not_lt.mp λz=>lQ hy z n
 ·show fI [.va (eS P),.va (eL L),.em,.em,.em,.em,.em,.em] =_
  unfold fI;rw[aw (Do nd (by omega)),aw (ee (ts:=P.map en) rfl e1),aw (ee (ts:=L.map eB) rfl e2)]
  exact(aw (ee (ts:=P.map en) rfl e3)).trans e4
end
theorem GA (b:Bool):jg (.bl b) (.bl b)= .ok (.bl false):=jU rfl (by simp[T.dep])
section
variable {cs ls:List T}{L:bL N2}{P:List N2}{ns:List Int}
theorem wa {a:N2}{b:cv N2}{f:cZ N2}(S:Settled L [a] b)(F:bA L P f)(ha:a∈P)(c:N2):zC (b c)=oI (f a c):=by
 cases q:b c with
 | none=>
  cases e:f a c with
  | none=>rfl
  | some y=>
   obtain⟨d,w,z,_⟩:=S.least a (by simp) c y (F.is a c y e)
   rw[q]at z;cases z
 | some x=>
  obtain⟨d,w⟩:=x;obtain⟨s,hs,h1,h2,_⟩:=S.walk c d w q;rw[Jp.mp hs]at h1
  have wk:Wk L a c d:=h2▸h1.wk;obtain⟨y,e,hy⟩:=F.le a ha c d wk;obtain⟨d',w',z,hd⟩:=S.least a (by simp) c y (F.is a c y e)
  rw[q]at z;cases z;rw[e]
  show T.int d= .int y
  congr 1
  omega
theorem Rd.Ir (R:Rd cs ls L P)(n:NoNeg L){f:cZ N2}(F:bA L P f){a c:N2}(ha:a∈P)(hc:c∈P):cA [(.tup [.tup cs,.tup ls]),en a,en c] = .ok (oI (f a c)):=by
 obtain⟨b,S,e⟩:=R.IQ n ha hc;rw[e,wa S F ha]
def ngI (o:Option Int):T:=match o with
 | some x=> .int (0 - x)
 | none=> .non
theorem Rd.Iw (R:Rd cs ls L P)(n:NoNeg L){f:cZ N2}(F:bA L P f){a c:N2}(ha:a∈P)(hc:c∈P):eO [(.tup [.tup cs,.tup ls]),en a,en c] = .ok (ngI (f c a)):=by
 refine bz rfl ?_
 show dB [.va (.tup [.tup cs,.tup ls]),.va (en a),.va (en c),.em] =_
 unfold dB;rw[aw (Z':=[.va (.tup [.tup cs,.tup ls]),.va (en a),.va (en c),.va (oI (f c a))]) (cp (aK (ts:=[(.tup [.tup cs,.tup ls]),en c,en a]) rfl (R.Ir n F hc ha)) rfl)]
 cases f c a with
 | none=>exact bQ ((ja (p:=true) (bw (aA (t:=.non) (u:=.non) rfl rfl rfl))).trans rfl)
 | some x=>
  refine bQ ((ja (p:=false) (bw (aA (t:=.int x) (u:=.non) rfl rfl rfl))).trans ((k_o1 (t:=.int x) rfl rfl).trans ?_))
  show Rs.ok (T.int (-x))= .ok (.int (0 - x))
  rw[PF]
theorem Gm (o:Option Int):(oI o).pl=true:=by cases o <;> rfl
theorem vk {D:Bool}:∀{l:List T},(∀t∈l,t.nk D=true)->nks D l=true
 | [],_=>rfl
 | t::l,h=>by unfold nks;rw[h t Ja,vk λu hu=>h u (IZ _ hu)];rfl
end
section
variable {cs ls:List T}{L:bL N2}{P:List N2}{ns:List Int}
def mV (P:List N2)(f:cZ N2)(u:N2):T:=.tup (P.map λv=>oI (f u v))
def pz (P:List N2)(f:cZ N2):T:=.tup (P.map (mV P f))
theorem Ef (P:List N2)(f:cZ N2)(u:N2):(mV P f u).pl=true:=by
 unfold mV;rw[ij];exact gR λt ht=>by obtain⟨v,_,rfl⟩:=Jl.mp ht;exact Gm _
theorem yW (P:List N2)(f:cZ N2):(pz P f).pl=true:=by
 unfold pz;rw[ij];exact gR λt ht=>by obtain⟨v,_,rfl⟩:=Jl.mp ht;exact Ef _ _ _
theorem EH (D:Bool)(P:List N2)(f:cZ N2):(pz P f).nk D=true:=by
 show nks D (P.map (mV P f))=true
 refine vk λt ht=> ?_
 obtain⟨u,_,rfl⟩:=Jl.mp ht
 show nks D (P.map λv=>oI (f u v))=true
 refine vk λt ht=> ?_
 obtain⟨v,_,rfl⟩:=Jl.mp ht;cases f u v <;> rfl
theorem wL (P:List N2)(f:cZ N2):(pz P f).dep<=60:=by
 have h0:∀o:Option Int,(oI o).dep<=1:=λo=>by cases o <;> simp[oI,T.dep]
 have h1:∀u,(mV P f u).dep<=2:=λu=>by
  unfold mV T.dep
  have:deps (P.map λv=>oI (f u v))<=1:=j6 λt ht=>by obtain⟨v,_,rfl⟩:=Jl.mp ht;exact h0 _
  omega
 unfold pz T.dep
 have:deps (P.map (mV P f))<=2:=j6 λt ht=>by obtain⟨v,_,rfl⟩:=Jl.mp ht;exact h1 _
 omega
theorem Aw {b:cv N2}{ms:List N2}(D:DR P ms b)(c:N2):eZ [.dct (ms.map en) (dV ms b),en c] = .ok (zC (b c)):=by
 refine bz rfl ?_
 refine bQ ((ja (p:=(b c).isSome) (bw (aA (t:=en c) (u:=.dct (ms.map en) (dV ms b)) rfl rfl (AE D c)))).trans ?_)
 cases q:b c with
 | none=>rfl
 | some x=>exact aA (t:=eW x) (u:=.int 0) (aA (t:=.dct (ms.map en) (dV ms b)) (u:=en c) rfl rfl (vC D q)) rfl rfl
def deO (f:cZ N2)(u:N2)(t:T):T:=match t with
 | .tup [.int c,.int k] =>oI (f u ⟨c,k⟩)
 | _=> .non
theorem Cy (P:List N2)(f:cZ N2)(u:N2):(P.map en).map (deO f u)=P.map λv=>oI (f u v):=by rw[J4];rfl
abbrev amF:En->Rs Fl:=(au (cX (cl dq (ac (vr 0) (ac (vr 3) ag))) (gN 4)) (iA 2 (cl fQ (ac (dO (iS (vr 1)) [none,some 4] (gN 0) bT (cl eZ (ac (vr 1) (ac (vr 0) ag)))) ag))))
theorem Rd.Ik (R:Rd cs ls L P)(n:NoNeg L){f:cZ N2}(F:bA L P f):∀(Q:List N2) (acc:List T) (s3 s4:Sl),(∀u∈Q,u∈P)->acc.length+Q.length<=1000->∃s3' s4',
  bj (gN 3) amF (Q.map en) [.va (.tup [.tup cs,.tup ls]),.va (eS P),.ow (.lst acc),s3,s4] = .ok (.nx [.va (.tup [.tup cs,.tup ls]),.va (eS P),.ow (.lst (acc++Q.map (mV P f))),s3',s4'])
 | [],acc,s3,s4,_,_=>⟨s3,s4,by simp only[L5,Kd];rfl⟩
 | u::Q,acc,s3,s4,h,hl=>by
  have hu:=h u Ja;rw[Ji]at hl;obtain⟨b,ms,S,D,e⟩:=R.from_ n hu
  have lc:dO (iS (vr 1)) [none,some 4] (gN 0) bT (cl eZ (ac (vr 1) (ac (vr 0) ag))) [.va (.tup [.tup cs,.tup ls]),.va (eS P),.ow (.lst acc),.va (en u),.va (.dct (ms.map en) (dV ms b))] = .ok (.lst ((P.map en).map (deO f u))):=
   m4 (ts:=P.map en) (oO rfl) (ax (k:=16) (by rw[Jd];exact R.pl)) (by simp) λt ht=>by
    obtain⟨v,hv,rfl⟩:=Jl.mp ht;refine(aK (ts:=[.dct (ms.map en) (dV ms b),en v]) rfl (Aw D v)).trans ?_
    rw[wa S F hu];rfl
  rw[Cy]at lc
  have st:amF [.va (.tup [.tup cs,.tup ls]),.va (eS P),.ow (.lst acc),.va (en u),s4] = .ok (.nx [.va (.tup [.tup cs,.tup ls]),.va (eS P),.ow (.lst (acc++ [mV P f u])),.va (en u),.va (.dct (ms.map en) (dV ms b))]):=by
   refine(aw (Z':=[.va (.tup [.tup cs,.tup ls]),.va (eS P),.ow (.lst acc),.va (en u),.va (.dct (ms.map en) (dV ms b))]) (cp (aK (ts:=[(.tup [.tup cs,.tup ls]),en u]) rfl e) rfl)).trans ?_
   exact mJ (l:=acc) (aK (ao lc rfl) jP) rfl (by omega)
  obtain⟨a,c,ih⟩:=R.Ik n F Q (acc++ [mV P f u]) (.va (en u)) (.va (.dct (ms.map en) (dV ms b))) (λw hw=>h w (IZ _ hw)) (by rw[Jj];simp only[Ji,N4];omega)
  refine⟨a,c,?_⟩
  rw[Jb,du (Z1:=[.va (.tup [.tup cs,.tup ls]),.va (eS P),.ow (.lst acc),.va (en u),s4]) rfl st,ih,JB]
  rfl
theorem Rd.Io (R:Rd cs ls L P)(n:NoNeg L){f:cZ N2}(F:bA L P f):dN [(.tup [.tup cs,.tup ls])] = .ok (pz P f):=by
 refine bz rfl ?_
 show hU [.va (.tup [.tup cs,.tup ls]),.em,.em,.em,.em] =_
 unfold hU;rw[aw (lF (t:=.non) (aK (ts:=[(.tup [.tup cs,.tup ls])]) rfl (R.Ih n)))];rw[aw (Z':=[.va (.tup [.tup cs,.tup ls]),.va (eS P),.em,.em,.em]) (cp (aK (ts:=[(.tup [.tup cs,.tup ls])]) rfl R.events) rfl)];rw[aw (Z':=[.va (.tup [.tup cs,.tup ls]),.va (eS P),.ow (.lst []),.em,.em]) (r8 (by simp))]
 obtain⟨a,c,e⟩:=R.Ik n F P [] .em .em (λ_ z=>z) (by have:=R.pl;simp;omega)
 rw[aw (ee (ts:=P.map en) (oO rfl) e),Ko];exact bQ (Cc (o:=.lst (P.map (mV P f))) rfl (aK (ts:=[.lst (P.map (mV P f))]) rfl jP) (EH _ P f))
end
theorem gi {f:En->Rs T}{l:List T}{t:T}{Z:En}{i:Int}(n:Nat)(h:f Z= .ok (.tup l))(e:l[n]? =some t)(hi:i=(n:Nat):=by rfl):o2 aN f (cn (.int i)) Z= .ok t:=by subst hi;exact xK h rfl e
theorem iQ {g:T->En->Rs En}{fc:En->Rs Bool}{fe:En->Rs T}{p:T->Bool}{h:T->T}(I:En->Prop):∀(ts:List T) (Z:En),I Z->(∀t∈ts,∀Z,I Z->∃Z1,g t Z= .ok Z1/\I Z1/\fc Z1= .ok (p t)/\fe Z1= .ok (h t))->dF g fc fe ts Z= .ok ((ts.filter p).map h)
 | [],_,_,_=>rfl
 | t::r,Z,hI,hf=>by
  obtain⟨Z1,e1,i1,e2,e3⟩:=hf t Ja Z hI
  have ih:=iQ I r Z1 i1 λu hu=>hf u (IZ _ hu)
  unfold dF
  cases q:p t with
  | true=>simp only[e1,az,e2,q,if_true,e3,ih,Me q,Jb]
  | false=>simp only[e1,az,e2,q,KQ,if_false,ih,Mf (show ¬p t=true by rw[q];decide)]
theorem qx (g:N2->T):∀(S ns:List N2),(ns++S).Nodup->gZ ((S.map en).zip (S.map g)) (ns.map en,ns.map g)=((ns++S).map en,(ns++S).map g)
 | [],ns,_=>by rw[Kd];rfl
 | v::S,ns,hn=>by
  have hv:v∉ns:=λz=>by
   rw[Kf]at hn;exact hn.2.2 v z v Ja rfl
  rw[Jb,Jb,List.zip_cons_cons,gZ,jG _ _ _ _ hv]
  have e1:ns.map en++ [en v] =(ns++ [v]).map en:=by rw[JX];rfl
  have e2:ns.map g++ [g v] =(ns++ [v]).map g:=by rw[JX];rfl
  rw[e1,e2,qx g S (ns++ [v]) (by rw[JB];exact hn),JB]
  rfl
def kC (P:List N2)(t:N2->Int):T:=.dct (P.map en) (P.map λv=> .int (t v))
def hB (t:N2->Int)(x:N2×N2×Int):Bool:=decide (t x.2.1 - t x.1<=x.2.2)
def Hu (t:N2->Int)(u:T):Bool:=match u with
 | .tup [_,.tup [.tup [.int a,.int b],.tup [.int c,.int d],.int m]] => !hB t (⟨a,b⟩,⟨c,d⟩,m)
 | _=>false
def brH (u:T):T:=match u with
 | .tup [i,_] =>i
 | _=> .non
def CD (t:N2->Int)(L:bL N2):List T:=((bv 0 (L.map eB)).filter (Hu t)).map brH
theorem AK (t:N2->Int)(i:T)(x:N2×N2×Int):Hu t (.tup [i,eB x])= !hB t x:=rfl
theorem Au {t:T}:∀{l:List T} {i:Nat},t∈bv i l->∃k u,u∈l/\t= .tup [.int (k:Nat),u]
 | [],i,h=>by simp[bv]at h
 | u::l,i,h=>by
  rw[bv,Jh]at h;rcases h with rfl | h
  ·exact⟨i,u,Ja,rfl⟩
  ·obtain⟨k,w,hw,e⟩:=Au h
   exact⟨k,w,IZ _ hw,e⟩
theorem sA (t:N2->Int):∀(L:bL N2) (i:Nat),((bv i (L.map eB)).filter (Hu t))= [] ↔L.all (hB t)=true
 | [],i=>by simp[bv]
 | x::L,i=>by
  rw[Jb,bv,Nx,Jc,<-sA t L (i+1)]
  cases q:hB t x with
  | true=>rw[Mf (by rw[AK,q];decide)];simp
  | false=>rw[Me (by rw[AK,q];rfl)];simp
theorem holds_all {L:bL N2}{t:N2->Int}:L.all (hB t)=true↔Holds L t:=by
 rw[JH];refine⟨λh a b m hm=>by have:=h _ hm;exact of_decide_eq_true this,λh x hx=>decide_eq_true (h _ _ _ hx)⟩
theorem uz:∀(l:List T) (i:Nat),(bv i l).length=l.length
 | [],_=>rfl
 | t::l,i=>by rw[bv,Ji,Ji,uz l (i+1)]
theorem CC {t:N2->Int}{L:bL N2}{u:T}(h:u∈CD t L):∃k:Nat,u= .int (k:Nat):=by
 obtain⟨w,hw,rfl⟩:=Jl.mp h;obtain⟨k,y,_,rfl⟩:=Au (MS.mp hw).1;exact⟨k,rfl⟩
theorem Fw (t:N2->Int)(L:bL N2):nF (.lst (CD t L)) (.lst [])= .ok (.bl (L.all (hB t))):=by
 have pl:(T.lst (CD t L)).pl=true:=by
  unfold T.pl;exact gR λu hu=>by obtain⟨k,rfl⟩:=CC hu;rfl
 unfold nF;rw[if_pos (oR (by simp[T.dep,deps]) (T.HJ _ pl) (T.HJ _ (by rfl)))]
 cases q:L.all (hB t)with
 | true=>
  unfold CD
  rw[(sA t L 0).mpr q];rfl
 | false=>
  have:CD t L≠ []:=λz=>by
   unfold CD at z;rw[(sA t L 0).mp (List.map_eq_nil_iff.mp z)]at q;cases q
  cases e:CD t L with
  | nil=>exact absurd e this
  | cons a l=>simp[a6,beqTs]
def EZ (n:Nat)(u:T):Bool:=eX u n n&&(match u with
 | .tup l=>l.all Ht
 | _=>false)
theorem FI (P:List N2)(t:N2->Int):EZ P.length (iK P t)=true:=by
 unfold EZ iK;simp only[Jc];refine⟨by simp[eX],JH.mpr λu hu=> ?_⟩
 obtain⟨v,_,rfl⟩:=Jl.mp hu
 rfl
theorem FH (P:List N2)(t:N2->Int):(iK P t).pl=true:=by
 unfold iK;rw[ij];exact gR λu hu=>by obtain⟨v,_,rfl⟩:=Jl.mp hu;rfl
section
variable {cs ls:List T}{L:bL N2}{P:List N2}
theorem Rd.pos (R:Rd cs ls L P):0<P.length:=by
 obtain⟨hcl,c1,_⟩:=bW R.g.c
 have e:=congrArg Kn R.e;rw[Jd]at e;rw[<-e]
 cases cs with
 | nil=>simp at c1
 | cons c cs=>
  obtain⟨x,y,r,rfl,r1,_⟩:=gj (hcl c Ja);rw[f8,Jj,iG]
  show 0<r.length+_
  omega
theorem Rd.dz (R:Rd cs ls L P)(t:N2->Int):FD [eS P,iK P t] = .ok (kC P t):=by
 have h0:=R.pos
 have h1:=R.pl
 show(if iC (P.map en)=true/\(P.map en).length=(P.map λv=>T.int (t v)).length/\1<=(P.map en).length/\(P.map en).length<=1000 then _ else _)=_
 rw[if_pos ⟨oH P,by rw[Jd,Jd],by rw[Jd];omega,by rw[Jd];omega⟩]
 have:=qx (λv=> .int (t v)) P [] (by simpa using R.nd)
 rw[Ko]at this;rw[show(([]:List T),([]:List T))=(([]:List N2).map en,([]:List N2).map λv=>T.int (t v))from rfl,this]
 rfl
theorem uE {t:N2->Int}{v:N2}{a b:En->Rs T}{Z:En}(ha:a Z= .ok (kC P t))(hb:b Z= .ok (en v))(hv:v∈P):o2 aL a b Z= .ok (.int (t v)):=by
 refine aA (t:=kC P t) (u:=en v) ha hb ?_
 show(match kf (P.map en) (P.map λv=>T.int (t v)) (ky v)with | some t=>Rs.ok t | none=> .bad)=_
 rw[lL (λv=>T.int (t v)),if_pos hv]
theorem Cq {t:N2->Int}{x:N2×N2×Int}(h1:x.1∈P)(h2:x.2.1∈P):nu [eB x,kC P t] = .ok (.bl (hB t x)):=by
 refine bz rfl (bQ ?_)
 show o2 wo (o2 bD (o2 aL (vr 1) (o2 aN (vr 0) (cn (.int 1)))) (o2 aL (vr 1) (o2 aN (vr 0) (cn (.int 0))))) (o2 aN (vr 0) (cn (.int 2))) [.va (eB x),.va (kC P t)] =_
 exact aA (t:=.int (t x.2.1 - t x.1)) (u:=.int x.2.2) (aA (t:=.int (t x.2.1)) (u:=.int (t x.1)) (uE (P:=P) rfl (gi 1 rfl rfl) h2) (uE (P:=P) rfl (gi 0 rfl rfl) h1) rfl) (gi 2 rfl rfl) rfl
theorem Rd.IA (R:Rd cs ls L P)(t:N2->Int):lC [(.tup [.tup cs,.tup ls]),iK P t] = .ok (.lst (CD t L)):=by
 refine bz rfl ?_
 show jL [.va (.tup [.tup cs,.tup ls]),.va (iK P t),.em] =_
 unfold jL;rw[aw (Z':=[.va (.tup [.tup cs,.tup ls]),.va (iK P t),.va (kC P t)]) (cp (aK (ts:=[eS P,iK P t]) (ao (aK (ts:=[(.tup [.tup cs,.tup ls])]) rfl R.events) rfl) (R.dz t)) rfl)];refine bQ ?_
 unfold dO;rw[zY (l:=L.map eB) (ao (aK (ts:=[(.tup [.tup cs,.tup ls])]) rfl R.bounds) rfl),az,if_pos (ax (k:=60) (by rw[uz,Jd];exact R.ll))]
 rw[show bF [none,none,some 2] [.va (.tup [.tup cs,.tup ls]),.va (iK P t),.va (kC P t)] = [.em,.em,.va (kC P t)]from rfl,iQ (p:=Hu t) (h:=brH) (λZ=> ∃a b,Z= [a,b,.va (kC P t)]) _ _ ⟨_,_,rfl⟩ λu hu Z hh_=>by
  obtain⟨a,b,e⟩:=hh_;subst e;obtain⟨k,w,hw,rfl⟩:=Au hu;obtain⟨x,hx,rfl⟩:=Jl.mp hw
  have hh:=R.f.ends x hx;exact⟨[.va (.int (k:Nat)),.va (eB x),.va (kC P t)],rfl,⟨_,_,rfl⟩,(gh (bw (aK (ts:=[eB x,kC P t]) rfl (Cq hh.1 hh.2)))),rfl⟩]
 rfl
theorem Rd.IR (R:Rd cs ls L P){u:T}(hu:u.pl=true):hY [(.tup [.tup cs,.tup ls]),u] = .ok (.bl (EZ P.length u)):=by
 refine bz rfl ?_
 show gn [.va (.tup [.tup cs,.tup ls]),.va u,.em] =_
 unfold gn;rw[aw (Z':=[.va (.tup [.tup cs,.tup ls]),.va u,.va (.int (P.length:Nat))]) (cp (aK (ts:=[eS P]) (ao (aK (ts:=[(.tup [.tup cs,.tup ls])]) rfl R.events) rfl) (by show Rs.ok (T.int ((P.map en).length:Nat))=_;rw[Jd])) rfl)]
 refine bQ (Cd (aK (ts:=[u,.int (P.length:Nat),.int (P.length:Nat)]) rfl (jF u P.length P.length hu)) λh=> ?_)
 obtain⟨l,rfl,_,hl⟩:=dA h;exact pe (GO rfl) (ax (k:=16) (by have:=R.pl;omega)) (by simp) λv hv=>aK (ts:=[v]) rfl (wH v (by rw[ij]at hu;exact jR hu hv))
theorem Rd.isw (R:Rd cs ls L P)(t:N2->Int):gW [(.tup [.tup cs,.tup ls]),iK P t] = .ok (.bl (L.all (hB t))):=by
 refine bz rfl (bQ ?_)
 refine(z9 (aK (ts:=[(.tup [.tup cs,.tup ls]),iK P t]) rfl (by rw[R.IR (FH P t),FI]))).trans ?_
 exact aA (t:=.lst (CD t L)) (u:=.lst []) (aK (ts:=[(.tup [.tup cs,.tup ls]),iK P t]) rfl (R.IA t)) (lE rfl (ax (k:=1) (by simp))) (Fw t L)
end
def lY (x:Int):Int:=if x<999 then x else 999
theorem GC (x:Int):oC [.int x,.int 999] = .ok (.int (lY x)):=by
 show Rs.ok (T.int (if (999:Int)<x then 999 else x))=_
 unfold lY
 congr 2
 split <;> split <;> omega
def mO (o:Option Int):T:=match o with
 | some x=>if 999<x then .non else .int x
 | none=> .non
theorem Fu {f:En->Rs T}{Z:En}{o:Option Int}(h:f Z= .ok (oI o)):pj (je (tb (o2 gC f (cn .non))) (tb (o2 Fb f (cn (.int 999))))) (cn .non) f Z= .ok (mO o):=by
 cases o with
 | none=>exact(ja (p:=true) (zV (bw (aA (t:=.non) (u:=.non) h rfl rfl)))).trans rfl
 | some x=>
  have c:je (tb (o2 gC f (cn .non))) (tb (o2 Fb f (cn (.int 999)))) Z= .ok (decide (999<x)):=lD (bw (aA (t:=.int x) (u:=.non) h rfl rfl)) (bw (aA (t:=.int x) (u:=.int 999) h rfl rfl));rw[ja c];unfold mO
  by_cases hx:999<x
  ·simp only[hx,decide_true,if_true];rfl
  ·simp only[hx,decide_false,if_false];rw[if_neg (by decide)];exact h
def mG (f:cZ N2)(a c:N2):T:=.tup [ngI (f c a),oI (f a c)]
def lx (f:cZ N2)(a c:N2)(d:Int):T:=.tup [en a,en c,.int (lY (0 - d)),mO (f a c)]
theorem Ft (o:Option Int):(mO o).pl=true/\(mO o).dep=0:=by
 unfold mO
 cases o with
 | none=>exact⟨rfl,rfl⟩
 | some x=>dsimp only;split <;> exact⟨rfl,rfl⟩
theorem EI (f:cZ N2)(a c:N2)(d:Int):(lx f a c d).pl=true/\(lx f a c d).dep<=5:=by
 have h:=Ft (f a c);refine⟨?_,?_⟩
 ·unfold lx;rw[ij];simp[plS,h.1,en,ij,T.pl]
 ·simp[lx,T.dep,deps,h.2,en]
theorem uR {x:T}{c:T}:∀{cs:List T} {i j:Nat},cs[j]? =some c->x∈xB (i+j) c->x∈bC i cs
 | [],i,j,e,_=>by simp at e
 | c'::cs,i,0,e,h=>by
  simp only[NB,Mo]at e
  subst e
  exact JV _ h
 | c'::cs,i,j+1,e,h=>by
  rw[KB]at e
  exact Jt _ (uR (i:=i+1) e (by rw[show i+1+j=i+(j+1)by omega];exact h))
theorem kP {x y:N2×N2×Int}(h:eB x=eB y):x=y:=by
 obtain⟨a,b,m⟩:=x;obtain⟨a',b',m'⟩:=y;unfold eB at h
 have h':=T.tup.inj h;simp only[MR,T.int.injEq,and_true]at h';rw[oV h'.1,oV h'.2.1,h'.2.2]
section
variable {cs ls:List T}{L:bL N2}{P:List N2}{f:cZ N2}
theorem Rd.inL (R:Rd cs ls L P){x:N2×N2×Int}(h:eB x∈uM cs ls):x∈L:=by
 rw[R.b]at h;obtain⟨y,hy,e⟩:=Jl.mp h;rw[<-kP e];exact hy
theorem Rd.inP (R:Rd cs ls L P){v:N2}(h:aX cs (en v)=true):v∈P:=by
 have:=mf h;rw[R.e]at this;obtain⟨u,hu,e⟩:=Jl.mp this;rw[<-oV e];exact hu
structure Ck (cs:List T)(i:Nat)(x y:Int)(r:List Int):Prop where
 at_:cs[i]? =some (.tup [.int x,.int y,.tup (r.map .int)])
 one:1<=r.length
 four:r.length<=4
theorem Rd.ckP (R:Rd cs ls L P){i:Nat}{x y:Int}{r:List Int}(C:Ck cs i x y r){k:Nat}(hk:k<r.length):(⟨i,(k:Nat)⟩:N2)∈P:=by
 refine R.inP (wC (rV (cs:=cs) (i:=0) (Lc _) ?_ ?_))
 ·have:=(Ju.mp C.at_).1;omega
 ·rw[LR,Nc,C.at_]
  show k<(r.map T.int).length
  rw[Jd];exact hk
theorem Rd.ckL (R:Rd cs ls L P){i:Nat}{x y:Int}{r:List Int}(C:Ck cs i x y r){k:Nat}(hk:k+1<r.length):((⟨i,((k+1:Nat):Int)⟩:N2),(⟨i,(k:Nat)⟩:N2),-dr r k*x)∈L:=by
 refine R.inL (JV _ (uR (i:=0) (j:=i) C.at_ ?_))
 rw[Nf,kY];exact JW.mpr ⟨k,JR.mpr (by omega),by unfold pr;exact IZ _ Ja⟩
theorem Rd.span (R:Rd cs ls L P)(n:NoNeg L)(F:bA L P f){a c:N2}(ha:a∈P)(hc:c∈P):cz [(.tup [.tup cs,.tup ls]),en a,en c] = .ok (mG f a c):=by
 refine bz rfl ?_
 show dP [.va (.tup [.tup cs,.tup ls]),.va (en a),.va (en c)] =_
 unfold dP;exact bQ (p2 (aK (ts:=[(.tup [.tup cs,.tup ls]),en a,en c]) rfl (R.Iw n F ha hc)) (aK (ts:=[(.tup [.tup cs,.tup ls]),en a,en c]) rfl (R.Ir n F ha hc)))
def yB (f:cZ N2)(i m:Nat):List T:=(Js (m - 1)).map λk=>mG f ⟨i,(k:Nat)⟩ ⟨i,((k+1:Nat):Int)⟩
theorem zx {n:Nat}{t:T}(ht:t.pl=true)(h:aU t 0 ((n:Int) - 1)=true):bZ [.int (n:Nat),t] = .ok .non:=by
 refine l7 (Z:=[.va (.int (n:Nat)),.va t]) rfl ?_
 show da [.va (.int (n:Nat)),.va t] =_
 unfold da;exact(cJ ((gh (k:=true) (bw (aK (ts:=[t,.int 0,.int ((n:Int) - 1)]) rfl (by rw[fD t _ _ ht,h])))))).trans rfl
theorem w_at {n k:Nat}(h:k<n):aU (.int (k:Nat)) 0 ((n:Int) - 1)=true:=by
 show(decide ((0:Int)<=k)&&decide ((k:Int)<=n - 1))=true
 rw[decide_eq_true (by omega),decide_eq_true (by omega)];rfl
theorem Dv {t:T}{Z:En}(h0:vr 0 Z= .ok (.tup [.tup cs,.tup ls]))(h1:vr 1 Z= .ok t){x:Rs T}(h:bZ [.int (cs.length:Nat),t] =x):cl bZ (ac (cl ck (ac (o2 aN (vr 0) (cn (.int 0))) ag)) (ac (vr 1) ag)) Z=x:=
 aK (ts:=[.int (cs.length:Nat),t]) (ao (aK (ts:=[.tup cs]) (ao (gi 0 h0 rfl) rfl) rfl) (ao h1 rfl)) h
theorem Rd.spans (R:Rd cs ls L P)(n:NoNeg L)(F:bA L P f){i:Nat}{x y:Int}{r:List Int}(C:Ck cs i x y r):cI [(.tup [.tup cs,.tup ls]),.int (i:Nat)] = .ok (.lst (yB f i r.length)):=by
 refine bz rfl ?_
 show lP [.va (.tup [.tup cs,.tup ls]),.va (.int (i:Nat)),.em] =_
 unfold lP
 have hi:=(Ju.mp C.at_).1
 rw[aw (lF (t:=.non) (aK (ts:=[(.tup [.tup cs,.tup ls])]) rfl (jy R.g.p R.g.ok)))];rw[aw (lF (t:=.non) (Dv (cs:=cs) (ls:=ls) rfl rfl (zx rfl (w_at hi))))];rw[aw (lF (t:=.non) (aK (ts:=[(.tup [.tup cs,.tup ls])]) rfl (R.Ih n)))]
 have e3:o2 aN (o2 aN (o2 aN (vr 0) (cn (.int 0))) (vr 1)) (cn (.int 2)) [.va (.tup [.tup cs,.tup ls]),.va (.int (i:Nat)),.em] = .ok (.tup (r.map .int)):=
  gi 2 (xK (gi 0 rfl rfl) rfl C.at_) rfl
 rw[aw (Z':=[.va (.tup [.tup cs,.tup ls]),.va (.int (i:Nat)),.va (.int (r.length:Nat))]) (cp (aK (ts:=[.tup (r.map .int)]) (ao e3 rfl) (by show Rs.ok (T.int ((r.map T.int).length:Nat))=_;rw[Jd])) rfl)]
 have e4:=iR2 (f:=ac (cn (.int 1)) (ac (vr 2) ag)) (Z:=[.va (.tup [.tup cs,.tup ls]),.va (.int (i:Nat)),.va (.int (r.length:Nat))]) (i:=1) (j:=(r.length:Nat)) rfl (by omega) (by omega) (by omega) (by have:=C.four;omega)
 rw[q0 _ C.one]at e4;refine bQ ?_
 have lc:=m4 (src:=[none,some 0,some 1]) (fe:=cl cz (ac (vr 1) (ac (aR (ac (vr 2) (ac (o2 bD (vr 0) (cn (.int 1))) ag))) (ac (aR (ac (vr 2) (ac (vr 0) ag))) ag)))) (h:=λt=>match t with
  | .int k=>mG f ⟨i,k - 1⟩ ⟨i,k⟩
  | _=> .non) e4 (ax (k:=4) (by rw[Jd,J2];have:=C.four;omega)) (by simp) λt ht=>by
   obtain⟨k,hk,rfl⟩:=Jl.mp ht
   have hk:=JR.mp hk
   show _=Rs.ok (mG f ⟨i,((k+1:Nat):Int) - 1⟩ ⟨i,((k+1:Nat):Int)⟩)
   rw[show((k+1:Nat):Int) - 1=(k:Nat)by omega]
   exact aK (ts:=[(.tup [.tup cs,.tup ls]),en ⟨i,(k:Nat)⟩,en ⟨i,((k+1:Nat):Int)⟩]) (ao rfl (ao (p2 rfl (aA (t:=.int ((k+1:Nat):Int)) (u:=.int 1) rfl rfl (by show Rs.ok (T.int (((k+1:Nat):Int) - 1))=_;rw[show((k+1:Nat):Int) - 1=(k:Nat)by omega]))) (ao (p2 rfl rfl) rfl))) (R.span n F (R.ckP C (by omega)) (R.ckP C (by omega)))
 rw[lc,J4];unfold yB;refine congrArg (λl=>Rs.ok (T.lst l)) (JE λk _=> ?_)
 show mG f ⟨i,((k+1:Nat):Int) - 1⟩ ⟨i,((k+1:Nat):Int)⟩=_
 rw[show((k+1:Nat):Int) - 1=(k:Nat)by omega]
theorem Rd.nar (R:Rd cs ls L P)(n:NoNeg L)(F:bA L P f){a c:N2}(ha:a∈P)(hc:c∈P)(x y:T){d:Int}(hd:f c a=some d):bn [(.tup [.tup cs,.tup ls]),.tup [en a,en c,x,y]] = .ok (lx f a c d):=by
 refine bz rfl ?_
 show cV [.va (.tup [.tup cs,.tup ls]),.va (.tup [en a,en c,x,y]),.em,.em] =_
 unfold cV;rw[aw (Z':=[.va (.tup [.tup cs,.tup ls]),.va (.tup [en a,en c,x,y]),.va (mG f a c),.em]) (cp (aK (ts:=[(.tup [.tup cs,.tup ls]),en a,en c]) (ao rfl (ao (gi 0 rfl rfl) (ao (gi 1 rfl rfl) rfl))) (R.span n F ha hc)) rfl)];rw[aw (Z':=[.va (.tup [.tup cs,.tup ls]),.va (.tup [en a,en c,x,y]),.va (mG f a c),.va (mO (f a c))]) (cp (Fu (f:=o2 aN (vr 2) (cn (.int 1))) (gi 1 rfl rfl)) rfl)];refine bQ (de (ao (gi 0 rfl rfl) (ao (gi 1 rfl rfl) (ao (aK (ts:=[.int (0 - d),.int 999]) (ao (gi (l:=[ngI (f c a),oI (f a c)]) 0 rfl (by rw[hd];rfl)) rfl) (GC _)) rfl))) (ax (k:=4) (by simp)))
def zr (R:T)(t:T):T:=Gx (bn [R,t])
theorem uc {R:T}{cs ls:List T}(hR:R=(.tup [.tup cs,.tup ls]))(hl:ls.length<=8)(h:bO [R] = .ok .non)(hn:∀t∈ls,∃z,bn [R,t] = .ok z):eU [R] = .ok (.tup [.tup cs,.tup (ls.map (zr R))]):=by
 subst hR;refine bz rfl ?_
 show hG [.va (.tup [.tup cs,.tup ls])] =_
 unfold hG;rw[aw (lF (t:=.non) (aK (ts:=[(.tup [.tup cs,.tup ls])]) rfl h))];refine bQ (p2 (gi 0 rfl rfl) (aK (ao (m4 (h:=zr (.tup [.tup cs,.tup ls])) (GO (gi 1 rfl rfl)) (ax (k:=8) hl) (by simp) λt ht=> ?_) rfl) jP))
 obtain⟨z,hz⟩:=hn t ht;refine(aK (ts:=[(.tup [.tup cs,.tup ls]),t]) rfl hz).trans ?_
 unfold zr;rw[hz];rfl
end
section
variable {cs ls:List T}{L:bL N2}{P:List N2}{f:cZ N2}{ns:List Int}
theorem uj (F:bA L P f){a b:N2}(ha:a∈P){t:N2->Int}(h:Holds L t){d:Int}(w:Wk L a b d)(hd:t b - t a=d):f a b=some d:=by
 obtain⟨y,e,hy⟩:=F.le a ha b d w
 have:=h.walk (F.is a b y e);rw[e,show y=d by omega]
end
theorem rY:∀(ns:List Int) (i:Int),gz i ns<=i/\∀x∈ns,gz i ns<=x
 | [],i=>⟨Kl _,λx h=>by cases h⟩
 | j::ns,i=>by
  have h:=rY ns (if j<i then j else i)
  rw[gz];refine⟨?_,λx hx=> ?_⟩
  ·have:=h.1;split at this <;> omega
  ·rcases Jh.mp hx with rfl | hx
   ·have:=h.1;split at this <;> omega
   ·exact h.2 x hx
theorem uh:∀(ns:List Int) (i:Int),gz i ns=i\/gz i ns∈ns
 | [],i=> .inl rfl
 | j::ns,i=>by
  rw[gz];rcases uh ns (if j<i then j else i)with h | h
  ·rw[h]
   split
   ·exact .inr Ja
   ·exact .inl rfl
  ·exact .inr (IZ _ h)
theorem wf:∀(ns:List Int) (i:Int),i<=ik i ns/\∀x∈ns,x<=ik i ns
 | [],i=>⟨Kl _,λx h=>by cases h⟩
 | j::ns,i=>by
  have h:=wf ns (if i<j then j else i)
  rw[ik];refine⟨?_,λx hx=> ?_⟩
  ·refine Int.le_trans ?_ h.1;split <;> omega
  ·rcases Jh.mp hx with rfl | hx
   ·refine Int.le_trans ?_ h.1;split <;> omega
   ·exact h.2 x hx
theorem ui:∀(ns:List Int) (i:Int),ik i ns=i\/ik i ns∈ns
 | [],i=> .inl rfl
 | j::ns,i=>by
  rw[ik];rcases ui ns (if i<j then j else i)with h | h
  ·rw[h]
   split
   ·first | exact .inr Ja | exact .inl rfl
   ·first | exact .inl rfl | exact .inr Ja
  ·exact .inr (IZ _ h)
theorem kL:∀l:List Int,ku (l.map .int)=some l
 | [] =>rfl
 | x::l=>by rw[Jb,ku,kL l];rfl
def deN (t:T):N2:=match t with
 | .tup [.int c,.int k] =>⟨c,k⟩
 | _=>⟨0,0⟩
theorem iX (u:N2):deN (en u)=u:=rfl
def li (g:N2->Option Int)(t:T):Bool:=(g (deN t)).isSome
def nS (g:N2->Option Int)(t:T):T:=match g (deN t)with
 | some x=> .int x
 | none=> .non
theorem sg (g:N2->Option Int):∀Q:List N2,((Q.map en).filter (li g)).map (nS g)=(Q.filterMap g).map .int
 | [] =>rfl
 | u::Q=>by
  have ih:=sg g Q;rw[Jb,Lr]
  cases q:g u with
  | none=>rw[Mf (by unfold li;rw[iX,q];decide)];exact ih
  | some x=>
   rw[Me (by unfold li;rw[iX,q];rfl),Jb,ih]
   show nS g (en u)::_=T.int x::_
   unfold nS;rw[iX,q]
theorem Da {i j:Nat}{src:List (Option Nat)}{tgt:T->En->Rs En}{fc:En->Rs Bool}{fe:En->Rs T}{Z:En}{ks ts:List T}{t:T}(hi:Z[i]? =some (.ow (.dct ks ts)))(h:dO (iD (vr i)) src tgt fc fe (disown i Z)= .ok t)(hk:t.nk true=true)(hj:j<Z.length):qY i j src tgt fc fe Z= .ok (.nx (Z.set j (.va t))):=by
 unfold qY;rw[hi]
 dsimp only
 rw[h]
 dsimp only
 rw[if_pos ⟨hk,hj⟩]
theorem rP (l:List Int):(T.lst (l.map .int)).nk true=true:=by
 show(true&&nks true (l.map .int))=true
 rw[Mc]
 induction l with
 | nil=>rfl
 | cons x l ih=>exact ih
theorem rR (l:List Int):jg (.lst (l.map .int)) (.lst [])= .ok (.bl (!l.isEmpty)):=by
 have pl:(T.lst (l.map .int)).pl=true:=by unfold T.pl;exact gR λu hu=>by obtain⟨k,_,rfl⟩:=Jl.mp hu;rfl
 unfold jg;rw[if_pos (oR (by simp[T.dep,deps]) (T.HJ _ pl) (T.HJ _ (by rfl)))]
 cases l with
 | nil=>rfl
 | cons a l=>simp[a6,beqTs]
section
variable {L:bL N2}{P:List N2}{f:cZ N2}{ns:List Int}
def pk (f:cZ N2)(t:N2->Int)(v u:N2):Option Int:=(f u v).map λx=>t u+x
def pU (f:cZ N2)(t:N2->Int)(v u:N2):Option Int:=(f v u).map λx=>t u - x
def Dg (f:cZ N2)(Q:List N2)(t:N2->Int):Prop:=∀u∈Q,∀w∈Q,∀d,f u w=some d->t w - t u<=d
def oE (lo hi:List Int):Int:=match lo with
 | x::l=>ik x l
 | [] =>match hi with
  | x::l=>gz x l - 5
  | [] =>0
def yg (lo hi:List Int):Int:=match hi with
 | x::l=>gz x l
 | [] =>oE lo hi+5
theorem C8 {Q:List N2}{t:N2->Int}{v:N2}(F:bA L P f)(hv:v∈P)(hQ:∀u∈Q,u∈P)(h:Dg f Q t) :
  oE (Q.filterMap (pU f t v)) (Q.filterMap (pk f t v))<=yg (Q.filterMap (pU f t v)) (Q.filterMap (pk f t v))/\(∀x∈Q.filterMap (pU f t v),x<=oE (Q.filterMap (pU f t v)) (Q.filterMap (pk f t v)))/\∀x∈Q.filterMap (pk f t v),yg (Q.filterMap (pU f t v)) (Q.filterMap (pk f t v))<=x:=by
 have key:∀x∈Q.filterMap (pU f t v),∀y∈Q.filterMap (pk f t v),x<=y:=λx hx y hy=>by
  obtain⟨u,hu,eu⟩:=KP.mp hx;obtain⟨w,hw,ew⟩:=KP.mp hy;unfold pU at eu;unfold pk at ew;obtain⟨p,hp,rfl⟩:=KD.mp eu;obtain⟨q,hq,rfl⟩:=KD.mp ew;obtain⟨d,hd,hle⟩:=F.le w (hQ w hw) u _ ((F.is w v q hq).app (F.is v u p hp))
  have:=h w hw u hu d hd;omega
 generalize Q.filterMap (pU f t v)=lo at key
 generalize Q.filterMap (pk f t v)=hi at key
 cases lo with
 | nil=>
  cases hi with
  | nil=>exact⟨by show(0:Int)<=0+5;omega,(λx h=>by cases h),λx h=>by cases h⟩
  | cons y hi=>
   have m:=rY hi y;refine⟨by show gz y hi - 5<=gz y hi;omega,(λx h=>by cases h),λx hx=> ?_⟩
   show gz y hi<=x
   rcases Jh.mp hx with rfl | hx
   ·exact m.1
   ·exact m.2 x hx
 | cons x lo=>
  have mx:=wf lo x
  have up:∀z∈x::lo,z<=ik x lo:=λz hz=>by
   rcases Jh.mp hz with rfl | hz
   ·exact mx.1
   ·exact mx.2 z hz
  cases hi with
  | nil=>exact⟨by show ik x lo<=ik x lo+5;omega,up,λx h=>by cases h⟩
  | cons y hi=>
   have m:=rY hi y;refine⟨?_,up,λz hz=> ?_⟩
   ·show ik x lo<=gz y hi
    have h1:ik x lo∈x::lo:=(ui lo x).elim (λe=>by rw[e];exact Ja) λe=>IZ _ e
    have h2:gz y hi∈y::hi:=(uh hi y).elim (λe=>by rw[e];exact Ja) λe=>IZ _ e
    exact key _ h1 _ h2
   ·show gz y hi<=z
    rcases Jh.mp hz with rfl | hz
    ·exact m.1
    ·exact m.2 z hz
theorem Ap {Q:List N2}{t:N2->Int}{v:N2}(n:NoNeg L)(F:bA L P f)(hv:v∈P)(hq:v∉Q)(hQ:∀u∈Q,u∈P)(h:Dg f Q t){x:Int}(h1:oE (Q.filterMap (pU f t v)) (Q.filterMap (pk f t v))<=x)(h2:x<=yg (Q.filterMap (pU f t v)) (Q.filterMap (pk f t v))) :
  Dg f (Q++ [v]) (λu=>if u=v then x else t u):=by
 obtain⟨_,l1,l2⟩:=C8 F hv hQ h;intro u hu w hw d hd
 have nv:∀u∈Q,u≠v:=λu hu z=>hq (z▸hu)
 show(if w=v then x else t w) - (if u=v then x else t u)<=d
 rcases JG.mp hu with hu | hu <;> rcases JG.mp hw with hw | hw
 ·rw[if_neg (nv u hu),if_neg (nv w hw)];exact h u hu w hw d hd
 ·rw[Jp.mp hw]at hd ⊢
  rw[if_neg (nv u hu),if_pos rfl]
  have:=l2 (t u+d) (KP.mpr ⟨u,hu,by unfold pk;rw[hd];rfl⟩)
  omega
 ·rw[Jp.mp hu]at hd ⊢
  rw[if_neg (nv w hw),if_pos rfl]
  have:=l1 (t w - d) (KP.mpr ⟨w,hw,by unfold pU;rw[hd];rfl⟩)
  omega
 ·rw[Jp.mp hu,Jp.mp hw]at hd
  rw[Jp.mp hu,Jp.mp hw]
  have:=n v d (F.is v v d hd);omega
theorem vE {Q:List N2}{t:N2->Int}{v:N2}{a b:En->Rs T}{Z:En}(ha:a Z= .ok (.dct (Q.map en) (Q.map λv=> .int (t v))))(hb:b Z= .ok (en v))(hv:v∈Q):o2 aL a b Z= .ok (.int (t v)):=uE (P:=Q) ha hb hv
theorem uf (x:Int)(l:List Int):oC [.lst ((x::l).map .int)] = .ok (.int (gz x l)):=by
 show(match ku ((x::l).map .int)with | some (i::ns)=>Rs.ok (T.int (gz i ns)) | _=> .bad)=_
 rw[kL]
theorem zG (x:Int)(l:List Int):xE [.lst ((x::l).map .int)] = .ok (.int (ik x l)):=by
 show(match ku ((x::l).map .int)with | some (i::ns)=>Rs.ok (T.int (ik i ns)) | _=> .bad)=_
 rw[kL]
theorem GI {i:Nat}{fk fv:En->Rs T}{Z:En}{ks vs:List T}{k v:T}{kk:List L2.Key}(hi:Z[i]? =some (.ow (.dct ks vs)))(hv:fv Z= .ok v)(hk:fk Z= .ok k)(e:aW k=some kk)(hl:ks.length<1000):pG i fk fv Z= .ok (.nx (Z.set i (.ow (.dct (gD k v ks vs).1 (gD k v ks vs).2)))):=by
 unfold pG;rw[hi]
 dsimp only
 rw[hv,az,hk,az,e]
 dsimp only
 rw[if_pos hl]
abbrev DW:En->Rs Fl:=(au (qY 5 8 [none,some 5,some 4,some 7] (gN 0) (tb (o2 dy (o2 aL (o2 aL (vr 2) (vr 0)) (vr 3)) (cn .non))) (o2 aS (o2 aL (vr 1) (vr 0)) (o2 aL (o2 aL (vr 2) (vr 0)) (vr 3)))) (au (qY 5 9 [none,some 5,some 4,some 7] (gN 0) (tb (o2 dy (o2 aL (o2 aL (vr 2) (vr 3)) (vr 0)) (cn .non))) (o2 bD (o2 aL (vr 1) (vr 0)) (o2 aL (o2 aL (vr 2) (vr 3)) (vr 0)))) (au (cX (pj (tb (o2 jg (vr 9) (d7 ag))) (cl xE (ac (vr 9) ag)) (pj (tb (o2 jg (vr 8) (d7 ag))) (o2 bD (cl oC (ac (vr 8) ag)) (cn (.int 5))) (cn (.int 0)))) (gN 10)) (au (cX (pj (tb (o2 jg (vr 8) (d7 ag))) (cl oC (ac (vr 8) ag)) (o2 aS (vr 10) (cn (.int 5)))) (gN 11)) (pG 5 (vr 7) (o2 aS (vr 10) (cl aE (ac (vr 0) (ac (o2 aS (vr 1) (vr 6)) (ac (o2 aS (o2 bD (vr 11) (vr 10)) (cn (.int 1))) ag))))))))))
theorem Cu (hn:ns.length<=63)(n:NoNeg L)(F:bA L P f)(pl:P.length<=16){Q:List N2}{t:N2->Int}{v:N2}(hv:v∈P)(hq:v∉Q)(hQ:∀u∈Q,u∈P)(hl:Q.length<=16)(h:Dg f Q t)(a k:Nat)(row:T)(s8 s9 s10 s11:Sl):∃x b8 b9 b10 b11,Dg f (Q++ [v]) (λu=>if u=v then x else t u) ∧
  DW [.va (.scr ns),.va (.int (a:Nat)),.va (eS P),.va row,.va (eR P f),.ow (.dct (Q.map en) (Q.map λv=> .int (t v))),.va (.int (k:Nat)),.va (en v),s8,s9,s10,s11] = .ok (.nx [.va (.scr ns),.va (.int (a:Nat)),.va (eS P),.va row,.va (eR P f),.ow (.dct ((Q++ [v]).map en) ((Q++ [v]).map λu=> .int (if u=v then x else t u))),.va (.int (k:Nat)),.va (en v),b8,b9,b10,b11]):=by
 obtain⟨lh,_,_⟩:=C8 F hv hQ h
 have lch:dO (iD (vr 5)) [none,some 5,some 4,some 7] (gN 0) (tb (o2 dy (o2 aL (o2 aL (vr 2) (vr 0)) (vr 3)) (cn .non))) (o2 aS (o2 aL (vr 1) (vr 0)) (o2 aL (o2 aL (vr 2) (vr 0)) (vr 3))) (disown 5 [.va (.scr ns),.va (.int (a:Nat)),.va (eS P),.va row,.va (eR P f),.ow (.dct (Q.map en) (Q.map λv=> .int (t v))),.va (.int (k:Nat)),.va (en v),s8,s9,s10,s11])= .ok (.lst ((Q.filterMap (pk f t v)).map .int)):=by
  rw[<-sg (pk f t v) Q];refine zX (ts:=Q.map en) rfl (ax (k:=16) (by rw[Jd];exact hl)) (by simp) λu0 hu0=> ?_
  obtain⟨u,hu,rfl⟩:=Jl.mp hu0
  have e:=qM (P:=P) (f:=f) (u:=u) (v:=v) (a:=vr 0) (b:=vr 3) (c:=vr 2) (Z:=[.va (en u),.va (.dct (Q.map en) (Q.map λv=> .int (t v))),.va (eR P f),.va (en v)]) rfl rfl rfl (hQ u hu) hv
  have e2:=vE (Q:=Q) (t:=t) (v:=u) (a:=vr 1) (b:=vr 0) (Z:=[.va (en u),.va (.dct (Q.map en) (Q.map λv=> .int (t v))),.va (eR P f),.va (en v)]) rfl rfl hu
  refine⟨?_,λhp=> ?_⟩
  ·show _=Rs.ok (li (pk f t v) (en u))
   refine bw ((aA (u:=.non) e rfl rfl).trans ?_)
   unfold li pk;rw[iX];cases f u v <;> rfl
  ·show _=Rs.ok (nS (pk f t v) (en u))
   unfold li pk at hp;rw[iX]at hp
   cases q:f u v with
   | none=>rw[q]at hp;cases hp
   | some d=>
    rw[q]at e;unfold nS pk;rw[iX,q];exact aA (t:=.int (t u)) (u:=.int d) e2 e rfl
 have lcl:dO (iD (vr 5)) [none,some 5,some 4,some 7] (gN 0) (tb (o2 dy (o2 aL (o2 aL (vr 2) (vr 3)) (vr 0)) (cn .non))) (o2 bD (o2 aL (vr 1) (vr 0)) (o2 aL (o2 aL (vr 2) (vr 3)) (vr 0))) (disown 5 [.va (.scr ns),.va (.int (a:Nat)),.va (eS P),.va row,.va (eR P f),.ow (.dct (Q.map en) (Q.map λv=> .int (t v))),.va (.int (k:Nat)),.va (en v),.va (.lst ((Q.filterMap (pk f t v)).map .int)),s9,s10,s11])= .ok (.lst ((Q.filterMap (pU f t v)).map .int)):=by
  rw[<-sg (pU f t v) Q];refine zX (ts:=Q.map en) rfl (ax (k:=16) (by rw[Jd];exact hl)) (by simp) λu0 hu0=> ?_
  obtain⟨u,hu,rfl⟩:=Jl.mp hu0
  have e:=qM (P:=P) (f:=f) (u:=v) (v:=u) (a:=vr 3) (b:=vr 0) (c:=vr 2) (Z:=[.va (en u),.va (.dct (Q.map en) (Q.map λv=> .int (t v))),.va (eR P f),.va (en v)]) rfl rfl rfl hv (hQ u hu)
  have e2:=vE (Q:=Q) (t:=t) (v:=u) (a:=vr 1) (b:=vr 0) (Z:=[.va (en u),.va (.dct (Q.map en) (Q.map λv=> .int (t v))),.va (eR P f),.va (en v)]) rfl rfl hu
  refine⟨?_,λhp=> ?_⟩
  ·show _=Rs.ok (li (pU f t v) (en u))
   refine bw ((aA (u:=.non) e rfl rfl).trans ?_)
   unfold li pU;rw[iX];cases f v u <;> rfl
  ·show _=Rs.ok (nS (pU f t v) (en u))
   unfold li pU at hp;rw[iX]at hp
   cases q:f v u with
   | none=>rw[q]at hp;cases hp
   | some d=>
    rw[q]at e;unfold nS pU;rw[iX,q];exact aA (t:=.int (t u)) (u:=.int d) e2 e rfl
 have fm:∀{x:Int},oE (Q.filterMap (pU f t v)) (Q.filterMap (pk f t v))<=x->x<=yg (Q.filterMap (pU f t v)) (Q.filterMap (pk f t v))->Dg f (Q++ [v]) (λu=>if u=v then x else t u):=λ{x} h1 h2=>Ap n F hv hq hQ h h1 h2
 generalize Q.filterMap (pk f t v)=hi at lch lcl fm lh
 generalize Q.filterMap (pU f t v)=lo at lcl fm lh
 unfold DW;rw[aw (Z':=[.va (.scr ns),.va (.int (a:Nat)),.va (eS P),.va row,.va (eR P f),.ow (.dct (Q.map en) (Q.map λv=> .int (t v))),.va (.int (k:Nat)),.va (en v),.va (.lst (hi.map .int)),s9,s10,s11]) (Da rfl lch (rP _) (by simp))]
 rw[aw (Z':=[.va (.scr ns),.va (.int (a:Nat)),.va (eS P),.va row,.va (eR P f),.ow (.dct (Q.map en) (Q.map λv=> .int (t v))),.va (.int (k:Nat)),.va (en v),.va (.lst (hi.map .int)),.va (.lst (lo.map .int)),s10,s11]) (Da rfl lcl (rP _) (by simp))]
 have nil_:∀(Z:En),d7 ag Z= .ok (.lst []):=λZ=>lE rfl (ax (k:=1) (by simp))
 have e10:(pj (tb (o2 jg (vr 9) (d7 ag))) (cl xE (ac (vr 9) ag)) (pj (tb (o2 jg (vr 8) (d7 ag))) (o2 bD (cl oC (ac (vr 8) ag)) (cn (.int 5))) (cn (.int 0)))) [.va (.scr ns),.va (.int (a:Nat)),.va (eS P),.va row,.va (eR P f),.ow (.dct (Q.map en) (Q.map λv=> .int (t v))),.va (.int (k:Nat)),.va (en v),.va (.lst (hi.map .int)),.va (.lst (lo.map .int)),s10,s11] = .ok (.int (oE lo hi)):=by
  rw[ja (bw (aA (t:=.lst (lo.map .int)) (u:=.lst []) rfl (nil_ _) (rR lo)))]
  cases lo with
  | cons x l=>exact aK (ts:=[.lst ((x::l).map .int)]) rfl (zG x l)
  | nil=>
   show pj _ _ _ _=_
   rw[ja (bw (aA (t:=.lst (hi.map .int)) (u:=.lst []) rfl (nil_ _) (rR hi)))]
   cases hi with
   | cons x l=>exact aA (t:=.int (gz x l)) (u:=.int 5) (aK (ts:=[.lst ((x::l).map .int)]) rfl (uf x l)) rfl rfl
   | nil=>rfl
 rw[aw (Z':=[.va (.scr ns),.va (.int (a:Nat)),.va (eS P),.va row,.va (eR P f),.ow (.dct (Q.map en) (Q.map λv=> .int (t v))),.va (.int (k:Nat)),.va (en v),.va (.lst (hi.map .int)),.va (.lst (lo.map .int)),.va (.int (oE lo hi)),s11]) (cp e10 rfl)]
 have e11:(pj (tb (o2 jg (vr 8) (d7 ag))) (cl oC (ac (vr 8) ag)) (o2 aS (vr 10) (cn (.int 5)))) [.va (.scr ns),.va (.int (a:Nat)),.va (eS P),.va row,.va (eR P f),.ow (.dct (Q.map en) (Q.map λv=> .int (t v))),.va (.int (k:Nat)),.va (en v),.va (.lst (hi.map .int)),.va (.lst (lo.map .int)),.va (.int (oE lo hi)),s11] = .ok (.int (yg lo hi)):=by
  rw[ja (bw (aA (t:=.lst (hi.map .int)) (u:=.lst []) rfl (nil_ _) (rR hi)))]
  cases hi with
  | cons x l=>exact aK (ts:=[.lst ((x::l).map .int)]) rfl (uf x l)
  | nil=>rfl
 rw[aw (Z':=[.va (.scr ns),.va (.int (a:Nat)),.va (eS P),.va row,.va (eR P f),.ow (.dct (Q.map en) (Q.map λv=> .int (t v))),.va (.int (k:Nat)),.va (en v),.va (.lst (hi.map .int)),.va (.lst (lo.map .int)),.va (.int (oE lo hi)),.va (.int (yg lo hi))]) (cp e11 rfl)]
 obtain⟨r,er,r0,r1⟩:=dW ns (a+k) (yg lo hi - oE lo hi+1) hn (by omega)
 refine⟨oE lo hi+r,.va (.lst (hi.map .int)),.va (.lst (lo.map .int)),.va (.int (oE lo hi)),.va (.int (yg lo hi)),fm (by omega) (by omega),?_⟩
 have pv:o2 aS (vr 10) (cl aE (ac (vr 0) (ac (o2 aS (vr 1) (vr 6)) (ac (o2 aS (o2 bD (vr 11) (vr 10)) (cn (.int 1))) ag)))) [.va (.scr ns),.va (.int (a:Nat)),.va (eS P),.va row,.va (eR P f),.ow (.dct (Q.map en) (Q.map λv=> .int (t v))),.va (.int (k:Nat)),.va (en v),.va (.lst (hi.map .int)),.va (.lst (lo.map .int)),.va (.int (oE lo hi)),.va (.int (yg lo hi))] = .ok (.int (oE lo hi+r)):=
  aA (t:=.int (oE lo hi)) (u:=.int r) rfl (aK (ts:=[.scr ns,.int ((a+k:Nat):Int),.int (yg lo hi - oE lo hi+1)]) (ao rfl (ao (aA (t:=.int (a:Nat)) (u:=.int (k:Nat)) rfl rfl rfl) (ao (aA (t:=.int (yg lo hi - oE lo hi)) (u:=.int 1) (aA (t:=.int (yg lo hi)) (u:=.int (oE lo hi)) rfl rfl rfl) rfl rfl) rfl))) er) rfl
 have mp:(Q.map λv=>T.int (t v))=Q.map λu=> .int (if u=v then oE lo hi+r else t u):=JE λu hu=>by rw[if_neg (show ¬u=v from λz=>hq (z▸hu))]
 rw[GI rfl pv rfl (bp v) (by rw[Jd];omega),jG _ _ _ _ hq,mp]
 rw[JX,JX]
 show Rs.ok (Fl.nx [_,_,_,_,_,.ow (.dct (Q.map en++ [en v]) ((Q.map λu=>T.int (if u=v then oE lo hi+r else t u))++ [.int (oE lo hi+r)])),_,_,_,_,_,_])=Rs.ok (Fl.nx [_,_,_,_,_,.ow (.dct (Q.map en++ [en v]) ((Q.map λu=>T.int (if u=v then oE lo hi+r else t u))++ [.int (if v=v then oE lo hi+r else t v)])),_,_,_,_,_,_])
 rw[if_pos rfl]
theorem Cv (hn:ns.length<=63)(n:NoNeg L)(F:bA L P f)(pl:P.length<=16)(a:Nat)(row:T):∀(rest Q:List N2) (t:N2->Int) (k:Nat) (s6 s7 s8 s9 s10 s11:Sl),(Q++rest).Nodup->(∀u∈Q++rest,u∈P)->(Q++rest).length<=16->Dg f Q t->∃t' b6 b7 b8 b9 b10 b11,Dg f (Q++rest) t' ∧
  bj (gT 2 (dg (gN 6) (dg (gN 7) iV))) DW (bv k (rest.map en)) [.va (.scr ns),.va (.int (a:Nat)),.va (eS P),.va row,.va (eR P f),.ow (.dct (Q.map en) (Q.map λv=> .int (t v))),s6,s7,s8,s9,s10,s11] = .ok (.nx [.va (.scr ns),.va (.int (a:Nat)),.va (eS P),.va row,.va (eR P f),.ow (.dct ((Q++rest).map en) ((Q++rest).map λv=> .int (t' v))),b6,b7,b8,b9,b10,b11]):=by
 intro rest
 induction rest with
 | nil=>
  intro Q t k s6 s7 s8 s9 s10 s11 _ _ _ h;refine⟨t,s6,s7,s8,s9,s10,s11,by rw[Kd];exact h,?_⟩
  rw[Kd]
  rfl
 | cons v rest ih=>
  intro Q t k s6 s7 s8 s9 s10 s11 nd hP hl h
  have hq:v∉Q:=λz=>by
   rw[Kf]at nd;exact nd.2.2 v z v Ja rfl
  have asc:Q++v::rest=Q++ [v] ++rest:=by rw[JB];rfl
  obtain⟨x,b8,b9,b10,b11,h1,e1⟩:=Cu (ns:=ns) hn n F pl (hP v (Jt _ Ja)) hq (λu hu=>hP u (JV _ hu)) (by rw[Jj]at hl;omega) h a k row s8 s9 s10 s11
  rw[asc]at nd hP hl ⊢;obtain⟨t',c6,c7,c8,c9,c10,c11,h2,e2⟩:=ih (Q++ [v]) _ (k+1) (.va (.int (k:Nat))) (.va (en v)) b8 b9 b10 b11 nd hP hl h1;refine⟨t',c6,c7,c8,c9,c10,c11,h2,?_⟩
  rw[Jb,bv,du (Z1:=[.va (.scr ns),.va (.int (a:Nat)),.va (eS P),.va row,.va (eR P f),.ow (.dct (Q.map en) (Q.map λv=> .int (t v))),.va (.int (k:Nat)),.va (en v),s8,s9,s10,s11]) rfl e1,e2]
theorem Ay (hn:ns.length<=63)(n:NoNeg L)(F:bA L P f)(pl:P.length<=16)(nd:P.Nodup)(hL:∀x∈L,x.1∈P/\x.2.1∈P)(a:Nat)(row:T):∃t,Holds L t/\dt [.scr ns,.int (a:Nat),eS P,row,eR P f] = .ok (iK P t):=by
 obtain⟨t,b6,b7,b8,b9,b10,b11,h,e⟩:=Cv (ns:=ns) hn n F pl a row P [] (λ_=>0) 0 .em .em .em .em .em .em (by simpa using nd) (λu hu=>by simpa using hu) (by simpa using pl) (λu hu=>by cases hu)
 rw[Ko]at h e;refine⟨t,λu v m hm=> ?_,bz rfl ?_⟩
 ·have hp:=hL _ hm
  obtain⟨d,hd,hle⟩:=F.le u hp.1 v m (Wk.one hm)
  have:=h u hp.1 v hp.2 d hd;omega
 ·show cF [.va (.scr ns),.va (.int (a:Nat)),.va (eS P),.va row,.va (eR P f),.em,.em,.em,.em,.em,.em,.em] =_
  unfold cF;rw[aw (Z':=[.va (.scr ns),.va (.int (a:Nat)),.va (eS P),.va row,.va (eR P f),.ow (.dct [] []),.em,.em,.em,.em,.em,.em]) rfl];refine(aw (ee (zY (l:=P.map en) rfl) e)).trans ?_
  refine bQ (aK (ts:=[.lst (P.map λv=> .int (t v))]) (ao (Cc (o:=.dct (P.map en) (P.map λv=> .int (t v))) rfl ?_ ?_) rfl) jP)
  ·refine(m4 (ts:=P.map en) (h:=atT t) (oO rfl) (ax (k:=16) (by rw[Jd];exact pl)) (by simp) λu0 hu0=> ?_).trans (by rw[J4];rfl)
   obtain⟨u,hu,rfl⟩:=Jl.mp hu0;exact vE (Q:=P) (t:=t) (v:=u) rfl rfl hu
  ·have:(P.map λv=>T.int (t v))=(P.map t).map .int:=by rw[J4];rfl
   rw[this];exact rP _
end
theorem xz {n:Int}{t:T}(ht:t.pl=true)(h:aU t 0 (n - 1)=true):bZ [.int n,t] = .ok .non:=by
 refine l7 (Z:=[.va (.int n),.va t]) rfl ?_
 show da [.va (.int n),.va t] =_
 unfold da;exact(cJ (gh (k:=true) (bw (aK (ts:=[t,.int 0,.int (n - 1)]) rfl (by rw[fD _ _ _ ht,h]))))).trans rfl
theorem rk {a b:T}(ha:a.pl=true)(hb:b.pl=true):(T.tup [a,b]).pl=true:=by simp[T.pl,plS,ha,hb]
theorem vF {l:List T}{n:Nat}{f:En->Rs T}{g:En->Rs T}{Z:En}(h:f Z= .ok (.tup l))(hg:g Z= .ok (.int n)):sl f pN (pS g) Z= .ok (.tup (l.take n)):=by
 rw[<-AH];exact GH h rfl (ET hg)
theorem AI {l:List T}{n:Nat}{f:En->Rs T}{g:En->Rs T}{Z:En}(h:f Z= .ok (.tup l))(hg:g Z= .ok (.int n)):sl f (pS g) pN Z= .ok (.tup (l.drop n)):=by
 rw[<-uH];exact GH h (ET hg) rfl
theorem CA {l:List T}{n:Nat}{f:En->Rs T}{g:En->Rs T}{Z:En}(h:f Z= .ok (.tup l))(hg:g Z= .ok (.int n)):sl f (pS (o2 aS g (cn (.int 1)))) pN Z= .ok (.tup (l.drop (n+1))):=
 AI h (aA (t:=.int n) (u:=.int 1) hg rfl rfl)
def rq (l:List T)(n:Nat):List T:=l.take n++l.drop (n+1)
theorem v7 (l:List T)(n:Nat):(rq l n).length<=l.length:=by unfold rq;rw[Jj,Ly,K6];omega
theorem xm {cs ls:List T}{n:Nat}(g:Good cs ls)(hn:n<ls.length):bV [.tup [.tup cs,.tup ls],.int n] = .ok (.tup [.tup cs,.tup (rq ls n)]):=by
 have hl:=g.n;refine bz rfl ?_
 show dh [.va (.tup [.tup cs,.tup ls]),.va (.int n),.em] =_
 unfold dh;rw[aw (lF (t:=.non) (aK (ts:=[.tup [.tup cs,.tup ls]]) rfl (jy g.p g.ok)))];rw[aw (Z':=[.va (.tup [.tup cs,.tup ls]),.va (.int n),.va (.tup ls)]) ((cp (t:=.tup ls) rfl rfl))]
 have w:aU (.int n) 0 ((ls.length:Int) - 1)=true:=by unfold aU;simp;omega
 rw[aw (lF (t:=.non) (aK (ts:=[.int (ls.length:Int),.int n]) rfl (xz rfl w)))];exact bQ (de (ao (t:=.tup cs) rfl (ao (t:=.tup (rq ls n)) (aA (t:=.tup (ls.take n)) (u:=.tup (ls.drop (n+1))) (vF rfl rfl) (CA rfl rfl) (wT _ _ (by have:=v7 ls n;unfold rq at this;omega))) rfl)) (ax (k:=2) (by simp)))
theorem nG {n:Nat}{l:List T}(h:∀t∈l,t.dep<=n):(T.tup l).dep<=n+1:=by unfold T.dep;have:=j6 h;omega
theorem xX {c:T}(h:bH c=true):c.dep<=2:=by
 obtain⟨x,y,r,rfl,_⟩:=fS h;refine nG λt ht=> ?_
 simp only[Jh,J1,or_false]at ht;rcases ht with rfl | rfl | rfl
 ·simp[T.dep]
 ·simp[T.dep]
 ·exact nG (n:=0) λt ht=>by obtain⟨i,_,rfl⟩:=Jl.mp ht;simp[T.dep]
theorem vn {cs:List T}{t:T}(h:bu cs t=true):t.dep<=2:=by
 obtain⟨a,b,x,y,rfl,hd,ha,hb,_⟩:=dU h;obtain⟨m1,m2⟩:=GB h
 have:=(Dc ha).2
 have:=(Dc hb).2
 have hx:x.dep<=2:=by
  unfold dw at hd;rw[Jc]at hd;obtain⟨i,rfl,_⟩:=cj hd.1;simp[T.dep]
 unfold T.dep deps deps deps deps deps;obtain⟨a',b',mo,le,e,_⟩:=ie h;cases e;simp only[T.dep];omega
theorem Bq {cs ls:List T}(g:Good cs ls):(T.tup cs).dep<=3/\(T.tup ls).dep<=3:=⟨nG λt ht=>xX ((bW g.c).1 t ht),nG λt ht=>vn (g.l t ht)⟩
theorem yI:∀{r:List Int} {k:Nat},ni r=true->k+1<r.length->0<=dr r k
 | [],k,_,h=>by simp at h
 | [a],k,_,h=>by simp at h
 | a::b::r,0,h,_=>by
  rw[Bp,Jc]at h
  have:=of_decide_eq_true h.1
  show 0<=b - a
  omega
 | a::b::r,k+1,h,hk=>by
  rw[Bp,Jc]at h;exact yI (r:=b::r) (k:=k) h.2 (by simpa using hk)
theorem o0 {t:T}(h:bH t=true):∃(x y:Int) (r:List Int),t= .tup [.int x,.int y,.tup (r.map .int)]/\(0<=x/\x<=9)/\x<=y/\(∀k,0<=r.getD k 0/\r.getD k 0<=99)/\∀k,k+1<r.length->0<=dr r k:=by
 obtain⟨x,y,r,rfl,h1,h2,h3⟩:=oZ h;refine⟨x,y,r,rfl,h1,?_,h3,?_⟩
 ·have h':(mW (.int x) (.int y)&&cU (.tup (r.map .int)))=true:=h
  rw[Jc]at h'
  have hp:(aU (.int x) 1 9&&aU (.int y) x 9)=true:=h'.1;rw[Jc]at hp;obtain⟨i,e,a,b⟩:=cj hp.2;cases e;exact a
 ·have h':(mW (.int x) (.int y)&&cU (.tup (r.map .int)))=true:=h
  rw[Jc]at h'
  have hr:=h'.2;unfold cU at hr;rw[Jc]at hr
  have hr2:(((r.map T.int).all λu=>aU u 0 99)&&(match jx (r.map .int)with | some m=>ni m | none=>false))=true:=hr.2
  rw[Jc,gS]at hr2;exact λk hk=>yI hr2.2 hk
theorem AN {u:T}:∀{cs:List T} {i:Nat},u∈bC i cs->∃j c,cs[j]? =some c/\u∈xB (i+j) c
 | [],i,h=>by simp[bC]at h
 | c::cs,i,h=>by
  rw[bC,JG]at h;rcases h with h | h
  ·exact⟨0,c,rfl,h⟩
  ·obtain⟨j,d,e,hd⟩:=AN h
   exact⟨j+1,d,e,by rw[show i+(j+1)=i+1+j by omega];exact hd⟩
theorem zD {cs:List T}{a b mo:T}{le:Int}(h:bu cs (.tup [a,b,.int le,mo])=true):(mo= .non\/∃m,mo= .int m)/\0<=le/\le<=999:=by
 obtain⟨a',b',x',y',e,hd,_⟩:=dU h;cases e;unfold dw at hd;rw[Jc]at hd;obtain⟨i,ei,h1,h2⟩:=cj hd.1;cases ei;refine⟨?_,h1,h2⟩
 cases mo with
 | non=>exact .inl rfl
 | int j=>exact .inr ⟨j,rfl⟩
 | _=>cases hd.2
section
variable {cs ls:List T}{L:bL N2}{P:List N2}
theorem Rd.same {ms:List T}{M:bL N2}{Q:List N2}(R:Rd cs ls L P)(S:Rd cs ms M Q):Q=P:=by
 have:P.map en=Q.map en:=by rw[<-R.e,<-S.e]
 clear R S
 induction P generalizing Q with
 | nil=>cases Q with
  | nil=>rfl
  | cons a Q=>simp at this
 | cons v P ih=>cases Q with
  | nil=>simp at this
  | cons a Q=>
   rw[Jb,Jb,MR]at this;rw[oV this.1,ih this.2]
end
section
variable {L M:bL N2}{P:List N2}{f:cZ N2}{t:N2->Int}
theorem uT (F:bA L P f)(h1:∀x∈M,x.1∈P/\∃d,f x.1 x.2.1=some d/\d<=x.2.2){u v:N2}{s:Int}(w:Wk M u v s):u∈P->∃d,f u v=some d/\d<=s:=by
 induction w with
 | nil a=>intro ha;exact F.le a ha a 0 (.nil a)
 | @step a b c m s hx w ih=>
  intro ha;obtain⟨_,d1,e1,l1⟩:=h1 _ hx
  dsimp only at l1
  have w1:=F.is a b d1 e1
  by_cases hb:b∈P
  ·obtain⟨d2,e2,l2⟩:=ih hb
   obtain⟨d,e,l⟩:=F.le a ha c _ (w1.app (F.is b c d2 e2));exact⟨d,e,by omega⟩
  ·cases w with
   | nil _=>exact⟨d1,e1,by omega⟩
   | step hy _=>exact absurd (h1 _ hy).1 hb
theorem Dl (h2:∀x∈L,∃m,m<=x.2.2/\(x.1,x.2.1,m)∈M){u v:N2}{s:Int}(w:Wk L u v s):∃s',s'<=s/\Wk M u v s':=by
 induction w with
 | nil a=>exact⟨0,Kl _,.nil a⟩
 | @step a b c m s hx w ih=>
  obtain⟨s',l,w'⟩:=ih;obtain⟨m',l',hx'⟩:=h2 _ hx;exact⟨m'+s',by dsimp only at l';omega,.step hx' w'⟩
theorem xG (F:bA L P f)(hL:∀x∈L,x.1∈P)(h1:∀x∈M,x.1∈P/\∃d,f x.1 x.2.1=some d/\d<=x.2.2)(h2:∀x∈L,∃m,m<=x.2.2/\(x.1,x.2.1,m)∈M):bA M P f where
 is:=λu v d e=>by
  have w:=F.is u v d e
  by_cases hu:u∈P
  ·obtain⟨s',l,w'⟩:=Dl h2 w
   obtain⟨d',e',l'⟩:=uT F h1 w' hu;rw[e]at e';cases e'
   have:s'=d:=by omega
   rw[<-this];exact w'
  ·cases w with
   | nil _=>exact .nil _
   | step hy _=>exact absurd (hL _ hy) hu
 le:=λu hu v s w=>uT F h1 w hu
end
section
variable {cs ls:List T}{L:bL N2}{P:List N2}{f:cZ N2}{t:N2->Int}
structure LtF (cs:List T)(L:bL N2)(P:List N2)(f:cZ N2)(u:T)(a c:N2)(le:Int)(mo:T)(d:Int):Prop where
 eq:u= .tup [en a,en c,.int le,mo]
 ha:a∈P
 hc:c∈P
 ea:aX cs (en a)=true
 ec:aX cs (en c)=true
 ne:a6 (en a) (en c)=false
 l0:0<=le
 l9:le<=999
 mc:mo= .non\/∃q,mo= .int q/\q<=999/\(a,c,q)∈L
 inL:(c,a,-le)∈L
 hd:f c a=some d
 dl:d<=-le
theorem Rd.Ic (R:Rd cs ls L P)(F:bA L P f){u:T}(hu:u∈ls):∃a c le mo d,LtF cs L P f u a c le mo d:=by
 have hl:=R.g.l u hu;obtain⟨a,b,x,mo,rfl,hd,ea,eb,hne⟩:=dU hl;obtain⟨_,_,mo',le,e,_⟩:=ie hl;simp only[T.tup.injEq,MR,and_true]at e;obtain⟨rfl,rfl,rfl,rfl⟩:=e;obtain⟨c1,k1,rfl⟩:=dk ea;obtain⟨c2,k2,rfl⟩:=dk eb;obtain⟨mc,l0,l9⟩:=zD hl
 have inL:((⟨c2,k2⟩:N2),(⟨c1,k1⟩:N2),-le)∈L:=R.inL (Jt _ (JW.mpr ⟨_,hu,Ja⟩));obtain⟨d,hd',dl⟩:=F.le _ (R.inP (v:=⟨c2,k2⟩) eb) _ _ (Wk.one inL);refine⟨⟨c1,k1⟩,⟨c2,k2⟩,le,mo,d,rfl,R.inP (v:=⟨c1,k1⟩) ea,R.inP (v:=⟨c2,k2⟩) eb,ea,eb,hne,l0,l9,?_,inL,hd',dl⟩
 rcases mc with rfl | ⟨q,rfl⟩
 ·exact .inl rfl
 ·refine .inr ⟨q,rfl,?_,R.inL (Jt _ (JW.mpr ⟨_,hu,IZ _ Ja⟩))⟩
  unfold dw at hd;rw[Jc]at hd;obtain⟨i,e,_,h9⟩:=cj hd.2;cases e;exact h9
theorem Rd.nwt (R:Rd cs ls L P)(n:NoNeg L)(F:bA L P f){u:T}{a c:N2}{le d:Int}{mo:T}(h:LtF cs L P f u a c le mo d):bn [(.tup [.tup cs,.tup ls]),u] = .ok (lx f a c d)/\zr (.tup [.tup cs,.tup ls]) u=lx f a c d:=by
 have e:=R.nar n F h.ha h.hc (.int le) mo h.hd;rw[<-h.eq]at e;exact⟨e,by unfold zr;rw[e];rfl⟩
theorem wP {o:Option Int}{y:Int}(h:mO o= .int y):o=some y/\y<=999:=by
 unfold mO at h
 cases o with
 | none=>cases h
 | some x=>
  dsimp only at h
  split at h
  ·cases h
  ·cases h
   exact⟨rfl,by omega⟩
theorem AJ (o:Option Int):mO o= .non\/∃y,mO o= .int y:=by
 unfold mO
 cases o with
 | none=>exact .inl rfl
 | some x=>
  dsimp only
  split
  ·exact .inl rfl
  ·exact .inr ⟨_,rfl⟩
theorem LtF.new (n:NoNeg L)(F:bA L P f){u:T}{a c:N2}{le d:Int}{mo:T}(h:LtF cs L P f u a c le mo d):bu cs (lx f a c d)=true:=by
 have m0:0<=lY (0 - d)/\lY (0 - d)<=999/\lY (0 - d)<=0 - d:=by have:=h.dl;have:=h.l0;unfold lY;split <;> omega
 show(dw (.int (lY (0 - d))) (mO (f a c))&&(aX cs (en a)&&(aX cs (en c)&& !a6 (en a) (en c))))=true
 rw[h.ea,h.ec,h.ne];simp only[Bool.not_false,ND];rcases AJ (f a c)with q | ⟨y,q⟩
 ·rw[q]
  show(aU (.int (lY (0 - d))) 0 999&&true)=true
  simp only[aU,ND,Jc,decide_eq_true_eq];omega
 ·rw[q]
  obtain⟨e,y9⟩:=wP q
  have:=n a _ ((F.is _ _ _ e).app (F.is _ _ _ h.hd))
  show(aU (.int (lY (0 - d))) 0 999&&aU (.int y) (lY (0 - d)) 999)=true
  simp only[aU,Jc,decide_eq_true_eq];omega
def eK (cs ls:List T):List T:=ls.map (zr (.tup [.tup cs,.tup ls]))
theorem Rd.new (R:Rd cs ls L P)(n:NoNeg L)(F:bA L P f):Good cs (eK cs ls):=by
 refine⟨R.g.c,λu hu=> ?_,by unfold eK;rw[Jd];exact R.g.n,rk R.g.parts.1 ?_⟩
 ·obtain⟨w,hw,rfl⟩:=Jl.mp hu
  obtain⟨a,c,le,mo,d,h⟩:=R.Ic F hw;rw[(R.nwt n F h).2];exact h.new n F
 ·rw[ij]
  refine gR λu hu=> ?_
  obtain⟨w,hw,rfl⟩:=Jl.mp hu;obtain⟨a,c,le,mo,d,h⟩:=R.Ic F hw;rw[(R.nwt n F h).2];exact(EI f a c d).1
theorem Rd.clk (R:Rd cs ls L P){x:N2×N2×Int}(h:eB x∈bC 0 cs):x∈L:=R.inL (JV _ h)
theorem Rd.newT (R:Rd cs ls L P)(n:NoNeg L)(F:bA L P f):∃M,Rd cs (eK cs ls) M P/\NoNeg M/\bA M P f:=by
 obtain⟨M,Q,S0⟩:=n6 (R.new n F);obtain rfl:=R.same S0
 have h1:∀x∈M,x.1∈Q/\∃d,f x.1 x.2.1=some d/\d<=x.2.2:=λx hx=>by
  refine⟨(S0.f.ends x hx).1,?_⟩
  have hb:eB x∈uM cs (eK cs ls):=by rw[S0.b];exact Jl.mpr ⟨x,hx,rfl⟩
  rcases JG.mp hb with hb | hb
  ·exact F.le _ (S0.f.ends x hx).1 _ _ (Wk.one (R.clk hb))
  ·obtain⟨w,hw,hx'⟩:=JW.mp hb
   obtain⟨u,hu,rfl⟩:=Jl.mp hw;obtain⟨a,c,le,mo,d,h⟩:=R.Ic F hu;rw[(R.nwt n F h).2]at hx'
   have hx2:eB x∈T.tup [en c,en a,.int (-(lY (0 - d)))] ::(if (mO (f a c)).isN then []else [.tup [en a,en c,mO (f a c)]]):=hx'
   rcases Jh.mp hx2 with e | e
   ·have:=kP (y:=(c,a,-(lY (0 - d)))) e
    subst this;refine⟨d,h.hd,?_⟩
    dsimp only
    unfold lY
    split <;> omega
   ·rcases AJ (f a c)with q | ⟨y,q⟩
    ·rw[q]at e
     rw[if_pos (show T.non.isN=true from rfl)]at e
     cases e
    ·rw[q]at e
     rw[if_neg (show ¬(T.int y).isN=true from Jy)]at e
     have:=kP (y:=(a,c,y)) (Jp.mp e);subst this;exact⟨y,(wP q).1,Kl _⟩
 have h2:∀x∈L,∃m,m<=x.2.2/\(x.1,x.2.1,m)∈M:=λx hx=>by
  have hb:eB x∈uM cs ls:=by rw[R.b];exact Jl.mpr ⟨x,hx,rfl⟩
  rcases JG.mp hb with hb | hb
  ·exact⟨x.2.2,Kl _,S0.clk hb⟩
  ·obtain⟨u,hu,hx'⟩:=JW.mp hb
   obtain⟨a,c,le,mo,d,h⟩:=R.Ic F hu
   have hn:lx f a c d∈eK cs ls:=Jl.mpr ⟨u,hu,(R.nwt n F h).2⟩;rw[h.eq]at hx'
   have hx2:eB x∈T.tup [en c,en a,.int (-le)] ::(if mo.isN then []else [.tup [en a,en c,mo]]):=hx'
   rcases Jh.mp hx2 with e | e
   ·have:=kP (y:=(c,a,-le)) e
    subst this;refine⟨-(lY (0 - d)),?_,S0.inL (x:=(c,a,-(lY (0 - d)))) (Jt _ (JW.mpr ⟨_,hn,Ja⟩))⟩
    have:=h.dl
    have:=h.l9
    dsimp only
    unfold lY
    split <;> omega
   ·rcases h.mc with rfl | ⟨q,rfl,q9,_⟩
    ·rw[if_pos (show T.non.isN=true from rfl)]at e
     cases e
    ·rw[if_neg (show ¬(T.int q).isN=true from Jy)]at e
     have:=kP (y:=(a,c,q)) (Jp.mp e);subst this;obtain⟨y,ey,ly⟩:=F.le a h.ha c q (Wk.one hx)
     have hcap:mO (f a c)= .int y:=by rw[ey];unfold mO;dsimp only;rw[if_neg (by omega)]
     refine⟨y,ly,S0.inL (x:=(a,c,y)) (Jt _ (JW.mpr ⟨_,hn,?_⟩))⟩
     show eB (a,c,y)∈T.tup [en c,en a,.int (-(lY (0 - d)))] ::(if (mO (f a c)).isN then []else [.tup [en a,en c,mO (f a c)]])
     rw[hcap,if_neg (show ¬(T.int y).isN=true from Jy)]
     exact IZ _ Ja
 have F':=xG F (λx hx=>(R.f.ends x hx).1) h1 h2
 refine⟨M,S0,?_,F'⟩
 intro a s w
 by_cases ha:a∈Q
 ·obtain⟨d,e,l⟩:=uT F h1 w ha
  have:=n a d (F.is _ _ _ e);omega
 ·cases w with
  | nil _=>exact Kl _
  | step hy _=>exact absurd (h1 _ hy).1 ha
end
theorem xu {l:List T}(h:∀u∈l,u= .bl true):rM (.bl false) (.lst l)= .ok (.bl true):=by
 have hp:(T.lst l).pl=true:=by
  unfold T.pl;exact gR λu hu=>by rw[h u hu];rfl
 have ha:jd (.bl false) l=false:=by
  unfold jd;rw[Mp];intro u hu;rw[h u hu]
  decide
 show(if ((T.bl false).dep<=60\/deps l<=60)/\(T.bl false).nd=true/\(T.lst l).nd=true then Rs.ok (T.bl (!jd (.bl false) l))else .bad)=_
 rw[if_pos ⟨.inl (by simp[T.dep]),rfl,T.HJ _ hp⟩,ha]
 rfl
def pT (a b:Nat->Int)(k:Nat):T:=.tup [.int (a k),.int (b k)]
theorem GQ {g g' g2:T->T->Rs T}{fa fb fc fd:En->Rs T}{Z:En}{x y w u:T}{z:Rs T}(ha:fa Z= .ok x)(hb:fb Z= .ok y)(h1:g x y= .ok (.bl true))(hc:fc Z= .ok w)(h2:g' y w= .ok (.bl true))(hd:fd Z= .ok u)(h3:g2 w u=z):FE g g' g2 fa fb fc fd Z=z:=by
 unfold FE;rw[ha,az,hb,az,h1,az]
 show(fc Z >>= _)=_
 rw[hc,az,h2,az]
 show(fd Z >>= _)=_
 rw[hd,az,h3]
theorem zL {i j:Int}(h:i<=j):wo (.int i) (.int j)= .ok (.bl true):=by
 show Rs.ok (T.bl (decide (i<=j)))=_
 rw[decide_eq_true h]
theorem mh {a b c d:Nat->Int}{m:Nat}(hm:m<=4)(h:∀k,k<m->c k<=a k/\a k<=b k/\b k<=d k):bi [.lst ((Js m).map (pT a b)),.lst ((Js m).map (pT c d))] = .ok (.bl true):=by
 refine bz rfl ?_
 show eG [.va (.lst ((Js m).map (pT a b))),.va (.lst ((Js m).map (pT c d)))] =_
 unfold eG
 have hz:iZ (ac (vr 0) (ac (vr 1) ag)) [.va (.lst ((Js m).map (pT a b))),.va (.lst ((Js m).map (pT c d)))] = .ok ((Js m).map λk=> .tup [pT a b k,pT c d k]):=by
  show Rs.ok ((((Js m).map (pT a b)).zip ((Js m).map (pT c d))).map λp=>T.tup [p.1,p.2])=_
  rw[List.zip_map',J4]
  rfl
 have q:=iQ (g:=(gT 2 (dg (gT 2 (dg (gN 0) (dg (gN 1) iV))) (dg (gT 2 (dg (gN 2) (dg (gN 3) iV))) iV)))) (fc:=bT) (fe:=FE wo wo wo (vr 2) (vr 0) (vr 1) (vr 3)) (p:=λ_=>true) (h:=λ_=> .bl true) (λZ=> ∃a b c d,Z= [a,b,c,d]) ((Js m).map λk=> .tup [pT a b k,pT c d k]) (bF [none,none,none,none] [.va (.lst ((Js m).map (pT a b))),.va (.lst ((Js m).map (pT c d)))]) ⟨_,_,_,_,rfl⟩ λu hu Z' hI=>by
  obtain⟨k,hk,rfl⟩:=Jl.mp hu;obtain⟨h1,h2,h3⟩:=h k (JR.mp hk);obtain⟨_,_,_,_,rfl⟩:=hI;refine⟨[.va (.int (a k)),.va (.int (b k)),.va (.int (c k)),.va (.int (d k))],rfl,⟨_,_,_,_,rfl⟩,rfl,GQ (x:=.int (c k)) (y:=.int (a k)) (w:=.int (b k)) (u:=.int (d k)) rfl rfl (zL h1) rfl (zL h2) rfl (zL h3)⟩
 refine bQ (aA (t:=.bl false) (u:=.lst ((((Js m).map λk=>T.tup [pT a b k,pT c d k]).filter λ_=>true).map λ_=> .bl true)) rfl ?_ (xu λu hu=> ?_))
 ·unfold dO
  rw[hz,az,if_pos (ax (k:=4) (by rw[Jd,J2];exact hm)),q]
 ·obtain⟨_,_,rfl⟩:=Jl.mp hu
  rfl
section
variable {cs ls:List T}{L:bL N2}{P:List N2}{f:cZ N2}{t:N2->Int}
theorem Rd.HX (R:Rd cs ls L P)(n:NoNeg L)(F:bA L P f):eU [(.tup [.tup cs,.tup ls])] = .ok (.tup [.tup cs,.tup (eK cs ls)]):=
 uc rfl R.g.n (R.Ih n) λu hu=>by
  obtain⟨a,c,le,mo,d,h⟩:=R.Ic F hu;exact⟨_,(R.nwt n F h).1⟩
theorem Rd.IS (R:Rd cs ls L P)(n:NoNeg L)(F:bA L P f){M:bL N2}(S:Rd cs (eK cs ls) M P)(n':NoNeg M)(F':bA M P f):eK cs (eK cs ls)=eK cs ls:=by
 show(eK cs ls).map (zr (.tup [.tup cs,.tup (eK cs ls)]))=eK cs ls
 conv=>rhs;rw[<-NA (eK cs ls)]
 refine JE λu hu=> ?_
 obtain⟨w,hw,rfl⟩:=Jl.mp hu;obtain⟨a,c,le,mo,d,h⟩:=R.Ic F hw;rw[(R.nwt n F h).2]
 have:=S.nar n' F' h.ha h.hc (.int (lY (0 - d))) (mO (f a c)) h.hd
 show Gx (bn [(.tup [.tup cs,.tup (eK cs ls)]),lx f a c d])=_
 show Gx (bn [(.tup [.tup cs,.tup (eK cs ls)]),.tup [en a,en c,.int (lY (0 - d)),mO (f a c)]])=_
 rw[this]
 rfl
theorem Rd.IP (R:Rd cs ls L P):(T.tup [.tup cs,.tup ls]).dep<=60:=by
 have h:=Bq R.g
 have:deps [.tup cs,.tup ls]<=3:=by simp only[deps];omega
 unfold T.dep;omega
theorem Rd.IL (R:Rd cs ls L P)(n:NoNeg L)(F:bA L P f){M:bL N2}(S:Rd cs (eK cs ls) M P):∃b,nF (.tup [.tup cs,.tup (eK cs ls)]) (.tup [.tup cs,.tup ls])= .ok (.bl b)/\ff [(.tup [.tup cs,.tup ls])] = .ok (.bl b):=by
 have q:nF (.tup [.tup cs,.tup (eK cs ls)]) (.tup [.tup cs,.tup ls])= .ok (.bl (a6 (.tup [.tup cs,.tup (eK cs ls)]) (.tup [.tup cs,.tup ls]))):=by
  unfold nF;rw[if_pos (iF S.IP (T.HJ _ S.g.p) (T.HJ _ R.g.p))]
 exact⟨_,q,bz rfl (bQ (aA (t:=.tup [.tup cs,.tup (eK cs ls)]) (u:=(.tup [.tup cs,.tup ls])) (aK (ts:=[(.tup [.tup cs,.tup ls])]) rfl (R.HX n F)) rfl q))⟩
theorem GZ (P:List N2):(eS P).pl=true:=by
 show(T.lst (P.map en)).pl=true
 unfold T.pl;exact gR λu hu=>by obtain⟨v,_,rfl⟩:=Jl.mp hu;rfl
theorem Fg (P:List N2):(eS P).dep<=60:=by
 show(T.lst (P.map en)).dep<=60
 have:deps (P.map en)<=5:=j6 λu hu=>by obtain⟨v,_,rfl⟩:=Jl.mp hu;simp[en,T.dep,deps]
 unfold T.dep;omega
theorem Dx {ms:List T}{M:bL N2}(R:Rd cs ls L P)(n:NoNeg L)(F:bA L P f)(S:Rd cs ms M P)(n':NoNeg M)(F':bA M P f):fX [(.tup [.tup cs,.tup ls]),(.tup [.tup cs,.tup ms])] = .ok (.bl true):=by
 obtain⟨h1,e1,i1⟩:=R.Im;obtain⟨h2,e2,i2⟩:=S.Im;obtain rfl:=i1.mpr n;obtain rfl:=i2.mpr n';refine bz rfl ?_
 show ef [.va (.tup [.tup cs,.tup ls]),.va (.tup [.tup cs,.tup ms])] =_
 unfold ef;rw[aw (Z':=[.va (.tup [.tup cs,.tup ls]),.va (.tup [.tup cs,.tup ms])]) ((cJ (bw (aA (t:=eS P) (u:=eS P) (aK (ts:=[(.tup [.tup cs,.tup ls])]) rfl R.events) (aK (ts:=[(.tup [.tup cs,.tup ms])]) rfl S.events) (jU (GZ P) (Fg P))))).trans rfl)];rw[aw (Z':=[.va (.tup [.tup cs,.tup ls]),.va (.tup [.tup cs,.tup ms])]) ((cJ (lD (gh (k:=true) (bw (aK (ts:=[(.tup [.tup cs,.tup ls])]) rfl e1))) (gh (k:=true) (bw (aK (ts:=[(.tup [.tup cs,.tup ms])]) rfl e2))))).trans rfl)]
 exact bQ (aA (t:=pz P f) (u:=pz P f) (aK (ts:=[(.tup [.tup cs,.tup ls])]) rfl (R.Io n F)) (aK (ts:=[(.tup [.tup cs,.tup ms])]) rfl (S.Io n' F')) (wE (yW P f) (wL P f)))
end
section
variable {cs ls:List T}{L:bL N2}{P:List N2}{f:cZ N2}{t:N2->Int}{i:Nat}{x y:Int}{r:List Int}
def we (f:cZ N2)(i k:Nat):Int:=0 - (f ⟨i,((k+1:Nat):Int)⟩ ⟨i,(k:Nat)⟩).getD 0
def yf (f:cZ N2)(i k:Nat):Int:=(f ⟨i,(k:Nat)⟩ ⟨i,((k+1:Nat):Int)⟩).getD 0
theorem Rd.ckH (R:Rd cs ls L P)(C:Ck cs i x y r){k:Nat}(hk:k+1<r.length):((⟨i,(k:Nat)⟩:N2),(⟨i,((k+1:Nat):Int)⟩:N2),dr r k*y)∈L:=by
 refine R.inL (JV _ (uR (i:=0) (j:=i) C.at_ ?_))
 rw[Nf,kY];exact JW.mpr ⟨k,JR.mpr (by omega),by unfold pr;exact Ja⟩
theorem Rd.sp (R:Rd cs ls L P)(F:bA L P f)(C:Ck cs i x y r){k:Nat}(hk:k+1<r.length):f ⟨i,((k+1:Nat):Int)⟩ ⟨i,(k:Nat)⟩=some (0 - we f i k)/\f ⟨i,(k:Nat)⟩ ⟨i,((k+1:Nat):Int)⟩=some (yf f i k)/\dr r k*x<=we f i k/\yf f i k<=dr r k*y:=by
 obtain⟨d1,e1,l1⟩:=F.le _ (R.ckP C hk) _ _ (Wk.one (R.ckL C hk));obtain⟨d2,e2,l2⟩:=F.le _ (R.ckP C (k:=k) (by omega)) _ _ (Wk.one (R.ckH C hk))
 rw[NF]at l1
 have q1:we f i k=0 - d1:=by unfold we;rw[e1];rfl
 have q2:yf f i k=d2:=by unfold yf;rw[e2];rfl
 exact⟨by rw[e1,q1,show 0 - (0 - d1)=d1 by omega],by rw[e2,q2],by omega,by omega⟩
theorem Rd.IM (R:Rd cs ls L P)(n:NoNeg L)(F:bA L P f)(C:Ck cs i x y r){k:Nat}(hk:k+1<r.length):we f i k<=yf f i k:=by
 obtain⟨e1,e2,_⟩:=R.sp F C hk
 have:=n _ _ ((F.is _ _ _ e1).app (F.is _ _ _ e2));omega
theorem Rd.HY (R:Rd cs ls L P)(n:NoNeg L)(F:bA L P f)(C:Ck cs i x y r):cI [(.tup [.tup cs,.tup ls]),.int (i:Nat)] = .ok (.lst ((Js (r.length - 1)).map (pT (we f i) (yf f i)))):=by
 rw[R.spans n F C];unfold yB;refine congrArg (λl=>Rs.ok (T.lst l)) (JE λk hk=> ?_)
 have hk':=JR.mp hk;obtain⟨e1,e2,_⟩:=R.sp F C (k:=k) (by omega)
 unfold mG;rw[e1,e2]
 show T.tup [.int (0 - (0 - we f i k)),.int (yf f i k)] =_
 rw[show 0 - (0 - we f i k)=we f i k by omega]
 rfl
theorem ym (r:List Int):(((r.map T.int).zip ((r.map T.int).drop 1)).map λp=>T.tup [p.1,p.2])=(Js (r.length - 1)).map λk=>T.tup [.int (r.getD k 0),.int (r.getD (k+1) 0)]:=by
 refine P0 ?_ λk h1 h2=> ?_
 ·simp
 ·simp only[Jd,J2]at h2
  simp only[MG,List.getElem_zip,List.getElem_drop,OZ,LR]
  rw[Jo (by omega),Jo (by omega)]
  simp[NY]
def cw (b:Bool)(cs:List T)(v:N2):Int:=match cs[v.c.toNat]? with
 | some (.tup [.int x,.int y,.tup r])=>(if b then y else x)*((jx r).getD []).getD v.k.toNat 0
 | _=>0
theorem qz (b:Bool)(e:cs[i]? =some (.tup [.int x,.int y,.tup (r.map .int)]))(k:Nat):cw b cs ⟨i,(k:Nat)⟩=(if b then y else x)*r.getD k 0:=by
 unfold cw;simp only[Ke,e,gS,Option.getD_some]
theorem Rd.cw0 (R:Rd cs [] L P)(b:Bool):Holds L (cw b cs):=λu v m hx=>by
 have hb:eB (u,v,m)∈uM cs []:=by rw[R.b];exact Jl.mpr ⟨_,hx,rfl⟩
 unfold uM at hb;rw[List.flatMap_nil,Kd]at hb;obtain⟨j,c,hj,hu⟩:=AN hb;rw[Nf]at hu;obtain⟨x,y,r,rfl,_,xy,_,dd⟩:=o0 ((bW R.g.c).1 _ (Ks hj));rw[kY]at hu;obtain⟨k,hk,hu⟩:=JW.mp hu
 have hk':=JR.mp hk
 have d0:=dd k (by omega)
 have c1:=qz b hj k
 have c2:=qz b hj (k+1)
 have fx:x<=(if b then y else x)/\(if b then y else x)<=y:=by cases b <;> simp[xy]
 revert fx c1 c2
 generalize (if b then y else x)=z
 intro c1 c2 fx
 have m1:=MJ fx.1 d0
 have m2:=MJ fx.2 d0
 have ed:z*r.getD (k+1) 0 - z*r.getD k 0=dr r k*z:=by unfold dr;rw[<-Int.mul_sub,Oc]
 unfold pr at hu;simp only[Jh,J1,or_false]at hu;rcases hu with hu | hu
 ·have:=kP (y:=(⟨j,k⟩,⟨j,((k+1:Nat):Int)⟩,dr r k*y)) hu
  cases this;rw[c1,c2];omega
 ·have:=kP (y:=(⟨j,((k+1:Nat):Int)⟩,⟨j,k⟩,-dr r k*x)) hu
  cases this;rw[c1,c2,NF];omega
theorem Rd.bare (R:Rd cs [] L P)(F:bA L P f)(C:Ck cs i x y r){k:Nat}(hk:k+1<r.length):we f i k=dr r k*x/\yf f i k=dr r k*y:=by
 have ed:∀z:Int,z*r.getD (k+1) 0 - z*r.getD k 0=dr r k*z:=λz=>by unfold dr;rw[<-Int.mul_sub,Oc]
 have a1:=uj F (R.ckP C hk) (R.cw0 false) (Wk.one (R.ckL C hk)) (by
  rw[qz false C.at_ k,qz false C.at_ (k+1),NF]
  have:=ed x
  show x*r.getD k 0 - x*r.getD (k+1) 0=_
  omega)
 have a2:=uj F (R.ckP C (k:=k) (by omega)) (R.cw0 true) (Wk.one (R.ckH C hk)) (by
  rw[qz true C.at_ k,qz true C.at_ (k+1)];exact ed y)
 unfold we yf;rw[a1,a2,NF];exact⟨by show 0 - -(dr r k*x)=_;omega,rfl⟩
theorem G3 (R:Rd cs ls L P):∃L0 f0,Rd cs [] L0 P/\NoNeg L0/\bA L0 P f0:=by
 have g0:Good cs []:=⟨R.g.c,λt ht=>(by cases ht),by simp,rk R.g.parts.1 rfl⟩
 obtain⟨L0,Q,S⟩:=n6 g0;obtain rfl:=R.same S
 have n:=(S.cw0 true).Iu;exact⟨L0,_,S,n,(ji S.f.ends λu _ y h=>Int.not_lt.mp λz=>lQ h z n).2⟩
theorem B6 (R:Rd cs ls L P)(F:bA L P f){ms:List T}{M:bL N2}{g:cZ N2}(S:Rd cs ms M P)(G:bA M P g)(h:∀u∈ms,u∈ls)(C:Ck cs i x y r){k:Nat}(hk:k+1<r.length):we g i k<=we f i k/\yf f i k<=yf g i k:=by
 have sub:∀z∈M,z∈L:=λz hz=>by
  have hb:eB z∈uM cs ms:=by rw[S.b];exact Jl.mpr ⟨_,hz,rfl⟩
  refine R.inL ?_
  unfold uM at hb ⊢;rcases JG.mp hb with q | q
  ·exact JV _ q
  ·obtain⟨u,hu,q⟩:=JW.mp q
   exact Jt _ (JW.mpr ⟨u,h u hu,q⟩)
 obtain⟨a1,a2,_⟩:=R.sp F C hk;obtain⟨b1,b2,_⟩:=S.sp G C hk;obtain⟨d1,e1,l1⟩:=F.le _ (R.ckP C hk) _ _ ((G.is _ _ _ b1).mono sub);obtain⟨d2,e2,l2⟩:=F.le _ (R.ckP C (k:=k) (by omega)) _ _ ((G.is _ _ _ b2).mono sub)
 rw[a1]at e1;rw[a2]at e2;cases e1;cases e2;omega
end
section
variable {cs ls:List T}{L:bL N2}{P:List N2}{f:cZ N2}{ns:List Int}{t:N2->Int}{i:Nat}{x y:Int}{r:List Int}
abbrev W7:En->Rs Fl:=(au (dY (je (tb (o2 jg (sl (vr 5) pN (pS (cn (.int 2)))) (sl (vr 4) pN (pS (cn (.int 2)))))) (tb (o2 rX (o2 aN (vr 5) (cn (.int 2))) (o2 aN (vr 4) (cn (.int 2)))))) (aI (cn (.bl false))) sN) (dY (o9 (tb (o2 dy (o2 aN (vr 4) (cn (.int 3))) (cn .non))) (je (tb (o2 gC (o2 aN (vr 5) (cn (.int 3))) (cn .non))) (tb (o2 Fb (o2 aN (vr 5) (cn (.int 3))) (o2 aN (vr 4) (cn (.int 3))))))) (aI (cn (.bl false))) sN))
theorem Rd.w7 (R:Rd cs ls L P)(F:bA L P f){u:T}{a c:N2}{le d:Int}{mo:T}(h:LtF cs L P f u a c le mo d)(s6 s7 s8 s9 s10 s11 s12 s13 s14 s15:Sl):W7 [.va (.scr ns),.va (.tup [.tup cs,.tup ls]),.va (eS P),.va (.tup [.tup cs,.tup (eK cs ls)]),.va (.tup [en a,en c,.int le,mo]),.va (lx f a c d),s6,s7,s8,s9,s10,s11,s12,s13,s14,s15] = .ok (.nx [.va (.scr ns),.va (.tup [.tup cs,.tup ls]),.va (eS P),.va (.tup [.tup cs,.tup (eK cs ls)]),.va (.tup [en a,en c,.int le,mo]),.va (lx f a c d),s6,s7,s8,s9,s10,s11,s12,s13,s14,s15]):=by
 have h1:=h.dl
 have h9:=h.l9
 have m0:le<=lY (0 - d):=by unfold lY;split <;> omega
 unfold W7;rw[aw (Z':=[.va (.scr ns),.va (.tup [.tup cs,.tup ls]),.va (eS P),.va (.tup [.tup cs,.tup (eK cs ls)]),.va (.tup [en a,en c,.int le,mo]),.va (lx f a c d),s6,s7,s8,s9,s10,s11,s12,s13,s14,s15]) ((cJ (lD (bw (aA (t:=.tup [en a,en c]) (u:=.tup [en a,en c]) (vF (l:=[en a,en c,.int (lY (0 - d)),mO (f a c)]) (n:=2) rfl rfl) (vF (l:=[en a,en c,.int le,mo]) (n:=2) rfl rfl) (jU rfl (by simp[T.dep,deps,en])))) (bw (k:=false) (aA (t:=.int (lY (0 - d))) (u:=.int le) (gi (l:=[en a,en c,.int (lY (0 - d)),mO (f a c)]) 2 rfl rfl) (gi (l:=[en a,en c,.int le,mo]) 2 rfl rfl) (by show Rs.ok (T.bl (decide (lY (0 - d)<le)))=_;rw[decide_eq_false (by omega)]))))).trans rfl)]
 rcases h.mc with rfl | ⟨q,rfl,q9,hq⟩
 ·exact(cJ (Aa (bw (aA (t:=.non) (u:=.non) (gi (l:=[en a,en c,.int le,.non]) 3 rfl rfl) rfl rfl)))).trans rfl
 ·obtain⟨z,ez,lz⟩:=F.le a h.ha c q (Wk.one hq)
  have hcap:mO (f a c)= .int z:=by rw[ez];unfold mO;dsimp only;rw[if_neg (by omega)]
  have i3:∀{Z:En},vr 5 Z= .ok (lx f a c d)->o2 aN (vr 5) (cn (.int 3)) Z= .ok (.int z):=λhh=>by rw[<-hcap];exact gi (l:=[en a,en c,.int (lY (0 - d)),mO (f a c)]) 3 hh rfl
  refine(cJ (vq (bw (aA (t:=.int q) (u:=.non) (gi (l:=[en a,en c,.int le,.int q]) 3 rfl rfl) rfl rfl)) (lD (bw (aA (t:=.int z) (u:=.non) (i3 rfl) rfl rfl)) (bw (k:=false) (aA (t:=.int z) (u:=.int q) (i3 rfl) (gi (l:=[en a,en c,.int le,.int q]) 3 rfl rfl) ?_))))).trans rfl
  show Rs.ok (T.bl (decide (z > q)))=_
  rw[decide_eq_false (by omega)]
theorem Rd.f7 (R:Rd cs ls L P)(n:NoNeg L)(F:bA L P f)(s4 s5 s6 s7 s8 s9 s10 s11 s12 s13 s14 s15:Sl):∃a4 a5,(d6 (iZ (ac (o2 aN (vr 1) (cn (.int 1))) (ac (o2 aN (vr 3) (cn (.int 1))) ag))) (gT 2 (dg (gN 4) (dg (gN 5) iV))) (au (dY (je (tb (o2 jg (sl (vr 5) pN (pS (cn (.int 2)))) (sl (vr 4) pN (pS (cn (.int 2)))))) (tb (o2 rX (o2 aN (vr 5) (cn (.int 2))) (o2 aN (vr 4) (cn (.int 2)))))) (aI (cn (.bl false))) sN) (dY (o9 (tb (o2 dy (o2 aN (vr 4) (cn (.int 3))) (cn .non))) (je (tb (o2 gC (o2 aN (vr 5) (cn (.int 3))) (cn .non))) (tb (o2 Fb (o2 aN (vr 5) (cn (.int 3))) (o2 aN (vr 4) (cn (.int 3))))))) (aI (cn (.bl false))) sN))) [.va (.scr ns),.va (.tup [.tup cs,.tup ls]),.va (eS P),.va (.tup [.tup cs,.tup (eK cs ls)]),s4,s5,s6,s7,s8,s9,s10,s11,s12,s13,s14,s15] = .ok (.nx [.va (.scr ns),.va (.tup [.tup cs,.tup ls]),.va (eS P),.va (.tup [.tup cs,.tup (eK cs ls)]),a4,a5,s6,s7,s8,s9,s10,s11,s12,s13,s14,s15]):=by
 have hz:∀l:List T,((l.zip (l.map (zr (.tup [.tup cs,.tup ls])))).map λp=>T.tup [p.1,p.2])=l.map λu=> .tup [u,zr (.tup [.tup cs,.tup ls]) u]:=λl=>by
  have:=List.zip_map' (f:=id) (g:=zr (.tup [.tup cs,.tup ls])) (l:=l);rw[NA]at this;rw[this,J4]
  rfl
 obtain⟨Z',loop,a4,a5,rfl⟩:=lZ (g:=(gT 2 (dg (gN 4) (dg (gN 5) iV)))) (F:=W7) (λZ=> ∃a4 a5,Z= [.va (.scr ns),.va (.tup [.tup cs,.tup ls]),.va (eS P),.va (.tup [.tup cs,.tup (eK cs ls)]),a4,a5,s6,s7,s8,s9,s10,s11,s12,s13,s14,s15]) (ts:=ls.map λu=> .tup [u,zr (.tup [.tup cs,.tup ls]) u])
  (λv hv Z hh=>by
   obtain⟨a4,a5,rfl⟩:=hh;obtain⟨u,hu,rfl⟩:=Jl.mp hv;obtain⟨a,c,le,mo,d,h⟩:=R.Ic F hu;rw[(R.nwt n F h).2]
   have e:=R.w7 (ns:=ns) F h s6 s7 s8 s9 s10 s11 s12 s13 s14 s15;rw[<-h.eq]at e;exact⟨_,_,rfl,e,_,_,rfl⟩) (Z:=[.va (.scr ns),.va (.tup [.tup cs,.tup ls]),.va (eS P),.va (.tup [.tup cs,.tup (eK cs ls)]),s4,s5,s6,s7,s8,s9,s10,s11,s12,s13,s14,s15]) ⟨_,_,rfl⟩
 refine⟨_,_,ee ?_ loop⟩
 rw[<-hz ls];unfold iZ;rw[ao (gi (l:=[.tup cs,.tup ls]) 1 rfl rfl) (ao (gi (l:=[.tup cs,.tup (eK cs ls)]) 1 rfl rfl) rfl)]
 rfl
def G2 (x y:Int)(u:T):T:=match u with
 | .tup [.int a,.int b] => .tup [.int ((b - a)*x),.int ((b - a)*y)]
 | _=> .non
theorem B8 (hr:∀k,0<=r.getD k 0/\r.getD k 0<=99)(h4:r.length<=4){Z:En}(e1:vr 11 Z= .ok (.tup (r.map .int)))(e9:Z[9]? =some (.va (.int x)))(e10:Z[10]? =some (.va (.int y))):(dO (iZ (ac (vr 11) (ac (sl (vr 11) (pS (cn (.int 1))) pN) ag))) [none,none,some 9,some 10] (gT 2 (dg (gN 0) (dg (gN 1) iV))) bT (aR (ac (o2 bK (o2 bD (vr 1) (vr 0)) (vr 2)) (ac (o2 bK (o2 bD (vr 1) (vr 0)) (vr 3)) ag)))) Z= .ok (.lst ((Js (r.length - 1)).map (pT (λk=>dr r k*x) (λk=>dr r k*y)))):=by
 have hz:iZ (ac (vr 11) (ac (sl (vr 11) (pS (cn (.int 1))) pN) ag)) Z= .ok ((Js (r.length - 1)).map λk=>T.tup [.int (r.getD k 0),.int (r.getD (k+1) 0)]):=by
  unfold iZ;rw[ao e1 (ao (AI (n:=1) (l:=r.map .int) e1 rfl) rfl),<-ym r]
  rfl
 have q:=iQ (g:=gT 2 (dg (gN 0) (dg (gN 1) iV))) (fc:=bT) (fe:=(aR (ac (o2 bK (o2 bD (vr 1) (vr 0)) (vr 2)) (ac (o2 bK (o2 bD (vr 1) (vr 0)) (vr 3)) ag)))) (p:=λ_=>true) (h:=G2 x y) (λZ=> ∃a b,Z= [a,b,.va (.int x),.va (.int y)]) ((Js (r.length - 1)).map λk=>T.tup [.int (r.getD k 0),.int (r.getD (k+1) 0)]) (bF [none,none,some 9,some 10] Z) (by
   unfold bF;simp only[Jb,L5,e9,e10];exact⟨_,_,rfl⟩) λu hu Z' hI=>by
  obtain⟨k,hk,rfl⟩:=Jl.mp hu;obtain⟨a,b,rfl⟩:=hI
  have b1:=hr k
  have b2:=hr (k+1);refine⟨[.va (.int (r.getD k 0)),.va (.int (r.getD (k+1) 0)),.va (.int x),.va (.int y)],rfl,⟨_,_,rfl⟩,rfl,?_⟩
  have s1:∀z:T,o2 bD (vr 1) (vr 0) [.va (.int (r.getD k 0)),.va (.int (r.getD (k+1) 0)),.va (.int x),.va (.int y)] = .ok (.int (r.getD (k+1) 0 - r.getD k 0)):=λ_=>aA (t:=.int (r.getD (k+1) 0)) (u:=.int (r.getD k 0)) rfl rfl rfl
  exact p2 (aA (t:=.int (r.getD (k+1) 0 - r.getD k 0)) (u:=.int x) (s1 .non) rfl (jA (by omega) (by omega))) (aA (t:=.int (r.getD (k+1) 0 - r.getD k 0)) (u:=.int y) (s1 .non) rfl (jA (by omega) (by omega)))
 unfold dO;rw[hz,az,if_pos (ax (k:=4) (by rw[Jd,J2];omega)),q,List.filter_eq_self.mpr (λ_ _=>rfl),J4]
 rfl
def GU (t:N2->Int)(i:Nat)(u:T):T:=match u with
 | .int k=> .int (t ⟨i,k⟩ - t ⟨i,k - 1⟩)
 | _=> .non
theorem Rd.Ip (R:Rd cs ls L P)(C:Ck cs i x y r){Z:En}(e1:vr 11 Z= .ok (.tup (r.map .int)))(e7:Z[7]? =some (.va (kC P t)))(e8:Z[8]? =some (.va (.int (i:Nat)))):(dO (iR (ac (cn (.int 1)) (ac (cl ck (ac (vr 11) ag)) ag))) [none,some 7,some 8] (gN 0) bT (o2 bD (o2 aL (vr 1) (aR (ac (vr 2) (ac (vr 0) ag)))) (o2 aL (vr 1) (aR (ac (vr 2) (ac (o2 bD (vr 0) (cn (.int 1))) ag)))))) Z= .ok (.lst ((Js (r.length - 1)).map λk=> .int (t ⟨i,((k+1:Nat):Int)⟩ - t ⟨i,(k:Nat)⟩))):=by
 have h4:=C.four
 have hi:iR (ac (cn (.int 1)) (ac (cl ck (ac (vr 11) ag)) ag)) Z= .ok (rng 1 (r.length:Nat)):=iR2 (i:=1) (j:=(r.length:Nat)) (ao rfl (ao (aK (ts:=[.tup (r.map .int)]) (ao e1 rfl) (by show Rs.ok (T.int ((r.map T.int).length:Nat))=_;rw[Jd])) rfl)) (by omega) (by omega) (by omega) (by omega)
 rw[q0 _ C.one]at hi
 have q:=m4 (src:=[none,some 7,some 8]) (fe:=(o2 bD (o2 aL (vr 1) (aR (ac (vr 2) (ac (vr 0) ag)))) (o2 aL (vr 1) (aR (ac (vr 2) (ac (o2 bD (vr 0) (cn (.int 1))) ag)))))) (h:=GU t i) hi (ax (k:=4) (by rw[Jd,J2];omega)) (by simp) λu hu=>by
  obtain⟨k,hk,rfl⟩:=Jl.mp hu
  have hk:=JR.mp hk
  have en_:(bF [none,some 7,some 8] Z).set 0 (.va (.int ((k+1:Nat):Int)))= [.va (.int ((k+1:Nat):Int)),.va (kC P t),.va (.int (i:Nat))]:=by
   unfold bF;simp only[Jb,L5,e7,e8]
   rfl
  rw[en_];refine aA (t:=.int (t ⟨i,((k+1:Nat):Int)⟩)) (u:=.int (t ⟨i,((k+1:Nat):Int) - 1⟩)) (uE (P:=P) rfl (p2 rfl rfl) (R.ckP C (by omega))) (uE (P:=P) rfl (p2 rfl (aA (t:=.int ((k+1:Nat):Int)) (u:=.int 1) rfl rfl rfl)) ?_) rfl
  rw[show((k+1:Nat):Int) - 1=(k:Nat)by omega]
  exact R.ckP C (by omega)
 rw[q,J4];refine congrArg (λl=>Rs.ok (T.lst l)) (JE λk _=> ?_)
 show T.int (t ⟨i,((k+1:Nat):Int)⟩ - t ⟨i,((k+1:Nat):Int) - 1⟩)=_
 rw[show((k+1:Nat):Int) - 1=(k:Nat)by omega]
def FG (u:T):T:=.tup [u,u]
theorem zM {a:Nat->Int}{m:Nat}(hm:m<=4){Z:En}(h:vr 14 Z= .ok (.lst ((Js m).map λk=> .int (a k)))):(dO (iS (vr 14)) [none] (gN 0) bT (aR (ac (vr 0) (ac (vr 0) ag)))) Z= .ok (.lst ((Js m).map (pT a a))):=by
 rw[m4 (h:=FG) (oO h) (ax (k:=4) (by rw[Jd,J2];exact hm)) (by simp) λu hu=>p2 rfl rfl,J4]
 rfl
abbrev WC:En->Rs Fl:=(au (cX (cl cI (ac (vr 1) (ac (vr 8) ag))) (gN 12)) (au (cX (dO (iZ (ac (vr 11) (ac (sl (vr 11) (pS (cn (.int 1))) pN) ag))) [none,none,some 9,some 10] (gT 2 (dg (gN 0) (dg (gN 1) iV))) bT (aR (ac (o2 bK (o2 bD (vr 1) (vr 0)) (vr 2)) (ac (o2 bK (o2 bD (vr 1) (vr 0)) (vr 3)) ag)))) (gN 13)) (au (dY (je (tb (o2 jg (cl ck (ac (vr 12) ag)) (cl ck (ac (vr 13) ag)))) (cL (tb (cl bi (ac (vr 12) (ac (vr 13) ag)))))) (aI (cn (.bl false))) sN) (au (dY (tb (o2 jg (cl cI (ac (aR (ac (o2 aN (vr 1) (cn (.int 0))) (ac (aR ag) ag))) (ac (vr 8) ag))) (vr 13))) (aI (cn (.bl false))) sN) (au (dY (tb (o2 jg (cl cI (ac (vr 3) (ac (vr 8) ag))) (vr 12))) (aI (cn (.bl false))) sN) (au (cX (dO (iR (ac (cn (.int 1)) (ac (cl ck (ac (vr 11) ag)) ag))) [none,some 7,some 8] (gN 0) bT (o2 bD (o2 aL (vr 1) (aR (ac (vr 2) (ac (vr 0) ag)))) (o2 aL (vr 1) (aR (ac (vr 2) (ac (o2 bD (vr 0) (cn (.int 1))) ag)))))) (gN 14)) (au (dY (cL (tb (cl bi (ac (dO (iS (vr 14)) [none] (gN 0) bT (aR (ac (vr 0) (ac (vr 0) ag)))) (ac (vr 12) ag))))) (aI (cn (.bl false))) sN) (d6 (iR (ac (cl ck (ac (o2 aN (vr 1) (cn (.int 1))) ag)) ag)) (gN 15) (dY (cL (tb (cl bi (ac (vr 12) (ac (cl cI (ac (cl bV (ac (vr 1) (ac (vr 15) ag))) (ac (vr 8) ag))) ag))))) (aI (cn (.bl false))) sN)))))))))
theorem Bb {sp ba go pp:T}{m:Nat}(hl:ls.length<=8)(e12:cI [(.tup [.tup cs,.tup ls]),.int (i:Nat)] = .ok sp)(e13:∀Z:En,vr 11 Z= .ok (.tup (r.map .int))->Z[9]? =some (.va (.int x))->Z[10]? =some (.va (.int y))->(dO (iZ (ac (vr 11) (ac (sl (vr 11) (pS (cn (.int 1))) pN) ag))) [none,none,some 9,some 10] (gT 2 (dg (gN 0) (dg (gN 1) iV))) bT (aR (ac (o2 bK (o2 bD (vr 1) (vr 0)) (vr 2)) (ac (o2 bK (o2 bD (vr 1) (vr 0)) (vr 3)) ag)))) Z= .ok ba)
  (l1:ck [sp] = .ok (.int (m:Nat))) (l2:ck [ba] = .ok (.int (m:Nat))) (w1:bi [sp,ba] = .ok (.bl true)) (e0:cI [.tup [.tup cs,.tup []],.int (i:Nat)] = .ok ba) (nb:jg ba ba= .ok (.bl false)) (en_:cI [(.tup [.tup cs,.tup (eK cs ls)]),.int (i:Nat)] = .ok sp) (ns_:jg sp sp= .ok (.bl false))
  (eg:∀Z:En,vr 11 Z= .ok (.tup (r.map .int))->Z[7]? =some (.va (kC P t))->Z[8]? =some (.va (.int (i:Nat)))->(dO (iR (ac (cn (.int 1)) (ac (cl ck (ac (vr 11) ag)) ag))) [none,some 7,some 8] (gN 0) bT (o2 bD (o2 aL (vr 1) (aR (ac (vr 2) (ac (vr 0) ag)))) (o2 aL (vr 1) (aR (ac (vr 2) (ac (o2 bD (vr 0) (cn (.int 1))) ag)))))) Z= .ok go) (ep:∀Z:En,vr 14 Z= .ok go->(dO (iS (vr 14)) [none] (gN 0) bT (aR (ac (vr 0) (ac (vr 0) ag)))) Z= .ok pp) (w2:bi [pp,sp] = .ok (.bl true))
  (w3:∀j:Nat,j<ls.length->∃RJ sj,bV [(.tup [.tup cs,.tup ls]),.int (j:Nat)] = .ok RJ/\cI [RJ,.int (i:Nat)] = .ok sj/\bi [sp,sj] = .ok (.bl true)) (s4 s5 s12 s13 s14 s15:Sl):∃a12 a13 a14 a15,WC [.va (.scr ns),.va (.tup [.tup cs,.tup ls]),.va (eS P),.va (.tup [.tup cs,.tup (eK cs ls)]),s4,s5,.va (iK P t),.va (kC P t),.va (.int (i:Nat)),.va (.int x),.va (.int y),.va (.tup (r.map .int)),s12,s13,s14,s15] = .ok (.nx [.va (.scr ns),.va (.tup [.tup cs,.tup ls]),.va (eS P),.va (.tup [.tup cs,.tup (eK cs ls)]),s4,s5,.va (iK P t),.va (kC P t),.va (.int (i:Nat)),.va (.int x),.va (.int y),.va (.tup (r.map .int)),a12,a13,a14,a15]):=by
 unfold WC;rw[aw (Z':=[.va (.scr ns),.va (.tup [.tup cs,.tup ls]),.va (eS P),.va (.tup [.tup cs,.tup (eK cs ls)]),s4,s5,.va (iK P t),.va (kC P t),.va (.int (i:Nat)),.va (.int x),.va (.int y),.va (.tup (r.map .int)),.va sp,s13,s14,s15]) (cp (aK (ts:=[(.tup [.tup cs,.tup ls]),.int (i:Nat)]) rfl e12) rfl)];rw[aw (Z':=[.va (.scr ns),.va (.tup [.tup cs,.tup ls]),.va (eS P),.va (.tup [.tup cs,.tup (eK cs ls)]),s4,s5,.va (iK P t),.va (kC P t),.va (.int (i:Nat)),.va (.int x),.va (.int y),.va (.tup (r.map .int)),.va sp,.va ba,s14,s15]) (cp (e13 _ rfl rfl rfl) rfl)]
 rw[aw (Z':=[.va (.scr ns),.va (.tup [.tup cs,.tup ls]),.va (eS P),.va (.tup [.tup cs,.tup (eK cs ls)]),s4,s5,.va (iK P t),.va (kC P t),.va (.int (i:Nat)),.va (.int x),.va (.int y),.va (.tup (r.map .int)),.va sp,.va ba,s14,s15]) ((cJ (lD (bw (aA (t:=.int (m:Nat)) (u:=.int (m:Nat)) (aK (ts:=[sp]) rfl l1) (aK (ts:=[ba]) rfl l2) (jU rfl (by simp[T.dep])))) (gh (k:=true) (bw (aK (ts:=[sp,ba]) rfl w1))))).trans rfl)]
 rw[aw (Z':=[.va (.scr ns),.va (.tup [.tup cs,.tup ls]),.va (eS P),.va (.tup [.tup cs,.tup (eK cs ls)]),s4,s5,.va (iK P t),.va (kC P t),.va (.int (i:Nat)),.va (.int x),.va (.int y),.va (.tup (r.map .int)),.va sp,.va ba,s14,s15]) ((cJ (bw (aA (t:=ba) (u:=ba) (aK (ts:=[.tup [.tup cs,.tup []],.int (i:Nat)]) (ao (p2 (gi (l:=[.tup cs,.tup ls]) 0 rfl rfl) (de rfl (ax (k:=0) (by simp)))) rfl) e0) rfl nb))).trans rfl)]
 rw[aw (Z':=[.va (.scr ns),.va (.tup [.tup cs,.tup ls]),.va (eS P),.va (.tup [.tup cs,.tup (eK cs ls)]),s4,s5,.va (iK P t),.va (kC P t),.va (.int (i:Nat)),.va (.int x),.va (.int y),.va (.tup (r.map .int)),.va sp,.va ba,s14,s15]) ((cJ (bw (aA (t:=sp) (u:=sp) (aK (ts:=[(.tup [.tup cs,.tup (eK cs ls)]),.int (i:Nat)]) rfl en_) rfl ns_))).trans rfl)];rw[aw (Z':=[.va (.scr ns),.va (.tup [.tup cs,.tup ls]),.va (eS P),.va (.tup [.tup cs,.tup (eK cs ls)]),s4,s5,.va (iK P t),.va (kC P t),.va (.int (i:Nat)),.va (.int x),.va (.int y),.va (.tup (r.map .int)),.va sp,.va ba,.va go,s15]) (cp (eg _ rfl rfl rfl) rfl)]
 rw[aw (Z':=[.va (.scr ns),.va (.tup [.tup cs,.tup ls]),.va (eS P),.va (.tup [.tup cs,.tup (eK cs ls)]),s4,s5,.va (iK P t),.va (kC P t),.va (.int (i:Nat)),.va (.int x),.va (.int y),.va (.tup (r.map .int)),.va sp,.va ba,.va go,s15]) ((cJ (gh (k:=true) (bw (aK (ts:=[pp,sp]) (ao (ep _ rfl) rfl) w2)))).trans rfl)]
 obtain⟨Z',loop,a15,rfl⟩:=lZ (g:=gN 15) (F:=(dY (cL (tb (cl bi (ac (vr 12) (ac (cl cI (ac (cl bV (ac (vr 1) (ac (vr 15) ag))) (ac (vr 8) ag))) ag))))) (aI (cn (.bl false))) sN)) (λZ=> ∃a15,Z= [.va (.scr ns),.va (.tup [.tup cs,.tup ls]),.va (eS P),.va (.tup [.tup cs,.tup (eK cs ls)]),s4,s5,.va (iK P t),.va (kC P t),.va (.int (i:Nat)),.va (.int x),.va (.int y),.va (.tup (r.map .int)),.va sp,.va ba,.va go,a15]) (ts:=rng 0 (ls.length:Nat))
  (λu hu Z hh=>by
   obtain⟨a15,rfl⟩:=hh;obtain⟨j,rfl,hj⟩:=nh hu;obtain⟨RJ,sj,q1,q2,q3⟩:=w3 j (by omega)
   exact⟨[.va (.scr ns),.va (.tup [.tup cs,.tup ls]),.va (eS P),.va (.tup [.tup cs,.tup (eK cs ls)]),s4,s5,.va (iK P t),.va (kC P t),.va (.int (i:Nat)),.va (.int x),.va (.int y),.va (.tup (r.map .int)),.va sp,.va ba,.va go,.va (.int (j:Nat))],[.va (.scr ns),.va (.tup [.tup cs,.tup ls]),.va (eS P),.va (.tup [.tup cs,.tup (eK cs ls)]),s4,s5,.va (iK P t),.va (kC P t),.va (.int (i:Nat)),.va (.int x),.va (.int y),.va (.tup (r.map .int)),.va sp,.va ba,.va go,.va (.int (j:Nat))],rfl,(cJ (gh (k:=true) (bw (aK (ts:=[sp,sj]) (ao rfl (ao (aK (ts:=[RJ,.int (i:Nat)]) (ao (aK (ts:=[(.tup [.tup cs,.tup ls]),.int (j:Nat)]) rfl q1) rfl) q2) rfl)) q3)))).trans rfl,_,rfl⟩) (Z:=[.va (.scr ns),.va (.tup [.tup cs,.tup ls]),.va (eS P),.va (.tup [.tup cs,.tup (eK cs ls)]),s4,s5,.va (iK P t),.va (kC P t),.va (.int (i:Nat)),.va (.int x),.va (.int y),.va (.tup (r.map .int)),.va sp,.va ba,.va go,s15]) ⟨_,rfl⟩
 exact⟨_,_,_,_,ee (E9 (j:=(ls.length:Nat)) (ao (aK (ts:=[.tup ls]) (ao (gi (l:=[.tup cs,.tup ls]) 1 rfl rfl) rfl) rfl) rfl) (by omega) (by omega)) loop⟩
theorem C7 (a b:Nat->Int)(m:Nat):jg (.lst ((Js m).map (pT a b))) (.lst ((Js m).map (pT a b)))= .ok (.bl false):=by
 refine jU ?_ ?_
 ·unfold T.pl
  exact gR λu hu=>by obtain⟨k,_,rfl⟩:=Jl.mp hu;rfl
 ·have:deps ((Js m).map (pT a b))<=5:=j6 λu hu=>by obtain⟨k,_,rfl⟩:=Jl.mp hu;simp[pT,T.dep,deps]
  unfold T.dep;omega
theorem zH (a b:Nat->Int)(m:Nat):ck [.lst ((Js m).map (pT a b))] = .ok (.int (m:Nat)):=by
 show Rs.ok (T.int (((Js m).map (pT a b)).length:Nat))=_
 rw[Jd,J2]
theorem nj {l:List T}{j:Nat}{u:T}(h:u∈rq l j):u∈l:=by
 unfold rq at h;exact(JG.mp h).elim List.mem_of_mem_take List.mem_of_mem_drop
theorem Rd.wc (R:Rd cs ls L P)(n:NoNeg L)(F:bA L P f){M:bL N2}(S:Rd cs (eK cs ls) M P)(n':NoNeg M)(F':bA M P f)(h:Holds L t)(C:Ck cs i x y r)(s4 s5 s12 s13 s14 s15:Sl):∃a12 a13 a14 a15,WC [.va (.scr ns),.va (.tup [.tup cs,.tup ls]),.va (eS P),.va (.tup [.tup cs,.tup (eK cs ls)]),s4,s5,.va (iK P t),.va (kC P t),.va (.int (i:Nat)),.va (.int x),.va (.int y),.va (.tup (r.map .int)),s12,s13,s14,s15] = .ok (.nx [.va (.scr ns),.va (.tup [.tup cs,.tup ls]),.va (eS P),.va (.tup [.tup cs,.tup (eK cs ls)]),s4,s5,.va (iK P t),.va (kC P t),.va (.int (i:Nat)),.va (.int x),.va (.int y),.va (.tup (r.map .int)),a12,a13,a14,a15]):=by
 obtain⟨L0,f0,S0,n0,F0⟩:=G3 R
 have h4:=C.four;obtain⟨x',y',r',ec,_,_,hr,_⟩:=o0 ((bW R.g.c).1 _ (Ks C.at_));simp only[T.tup.injEq,MR,T.int.injEq,and_true]at ec;obtain⟨rfl,rfl,er⟩:=ec
 have er':r=r':=by
  have:=congrArg jx er;rw[gS,gS]at this;exact JU this
 subst er'
 have e0:cI [.tup [.tup cs,.tup []],.int (i:Nat)] = .ok (.lst ((Js (r.length - 1)).map (pT (λk=>dr r k*x) (λk=>dr r k*y)))):=by
  rw[S0.HY n0 F0 C];refine congrArg (λl=>Rs.ok (T.lst l)) (JE λk hk=> ?_)
  have hk':=JR.mp hk;obtain⟨a,b⟩:=S0.bare F0 C (k:=k) (by omega)
  unfold pT;rw[a,b]
 refine Bb (sp:=(.lst ((Js (r.length - 1)).map (pT (we f i) (yf f i))))) (ba:=(.lst ((Js (r.length - 1)).map (pT (λk=>dr r k*x) (λk=>dr r k*y))))) (go:=(.lst ((Js (r.length - 1)).map λk=> .int (t ⟨i,((k+1:Nat):Int)⟩ - t ⟨i,(k:Nat)⟩)))) (pp:=.lst ((Js (r.length - 1)).map (pT (λk=>t ⟨i,((k+1:Nat):Int)⟩ - t ⟨i,(k:Nat)⟩) (λk=>t ⟨i,((k+1:Nat):Int)⟩ - t ⟨i,(k:Nat)⟩)))) (m:=r.length - 1) R.g.n (R.HY n F C) (λZ a b c=>B8 hr h4 a b c) (zH _ _ _) (zH _ _ _) (mh (by omega) λk hk=> ?_) e0 (C7 _ _ _) (S.HY n' F' C) (C7 _ _ _) (λZ a b c=>R.Ip C a b c) (λZ a=>zM (by omega) a) (mh (by omega) λk hk=> ?_) (λj hj=> ?_) s4 s5 s12 s13 s14 s15
 ·obtain⟨_,_,a,b⟩:=R.sp F C (k:=k) (by omega)
  exact⟨a,R.IM n F C (by omega),b⟩
 ·obtain⟨a,b,_,_⟩:=R.sp F C (k:=k) (by omega)
  have p:=h.walk (F.is _ _ _ a)
  have q:=h.walk (F.is _ _ _ b);omega
 ·have g2:Good cs (rq ls j):=⟨R.g.c,λu hu=>R.g.l u (nj hu),Ka (v7 ls j) R.g.n,rk R.g.parts.1 (by rw[ij];exact gR λu hu=>R.g.parts.2 u (nj hu))⟩
  obtain⟨M2,Q,S2⟩:=n6 g2;obtain rfl:=R.same S2
  have n2:NoNeg M2:=NoNeg.mono (λz hz=>by
   have hb:eB z∈uM cs (rq ls j):=by rw[S2.b];exact Jl.mpr ⟨_,hz,rfl⟩
   refine R.inL ?_
   unfold uM at hb ⊢;rcases JG.mp hb with q | q
   ·exact JV _ q
   ·obtain⟨u,hu,q⟩:=JW.mp q
    exact Jt _ (JW.mpr ⟨u,nj hu,q⟩)) n
  have F2:=(ji S2.f.ends λu _ y h=>Int.not_lt.mp λz=>lQ h z n2).2
  refine⟨_,_,xm R.g hj,S2.HY n2 F2 C,mh (by omega) λk hk=> ?_⟩
  obtain⟨a,b⟩:=B6 R F S2 F2 (λu hu=>nj hu) C (k:=k) (by omega)
  exact⟨a,R.IM n F C (by omega),b⟩
end
theorem wG {u:T}:∀{l:List T} {i:Nat},u∈bv i l->∃k v,l[k]? =some v/\u= .tup [.int ((i+k:Nat):Int),v]
 | [],i,h=>by cases h
 | a::l,i,h=>by
  rw[bv]at h;rcases Jh.mp h with rfl | h
  ·exact⟨0,a,rfl,rfl⟩
  ·obtain⟨k,v,e1,e2⟩:=wG h
   exact⟨k+1,v,e1,by rw[e2,show i+1+k=i+(k+1)by omega]⟩
theorem pure_law (ns:List Int)(hn:ns.length<=63):m_law [.scr ns] = .ok (.bl true):=by
 obtain⟨cs,ls,er,hc,c3,hs,hl,l6⟩:=Fj ns hn 0 5 (by omega)
 obtain⟨hR,mR⟩:=DD hc hs hl (by omega)
 have g:Good cs ls:=⟨hc,λt ht=>(hl t ht).1,by omega,Dw mR⟩
 obtain⟨L,P,R⟩:=n6 g
 have hpl:=R.pl;refine bz rfl ?_
 show AW [.va (.scr ns),.em,.em,.em,.em,.em,.em,.em,.em,.em,.em,.em,.em,.em,.em,.em] =_
 unfold AW;rw[aw (Z':=[.va (.scr ns),.va (.tup [.tup cs,.tup ls]),.em,.em,.em,.em,.em,.em,.em,.em,.em,.em,.em,.em,.em,.em]) (cp (aK (ts:=[.scr ns,.int ((0:Nat):Int),.int ((5:Nat):Int)]) rfl er) rfl)];obtain⟨hw,eh,ih⟩:=R.Im
 cases hw with
 | false=>exact l8 ((jb (gh (k:=false) (bw (aK (ts:=[(.tup [.tup cs,.tup ls])]) rfl eh)))).trans rfl)
 | true=>
 have n:NoNeg L:=ih.mp rfl;rw[aw (Z':=[.va (.scr ns),.va (.tup [.tup cs,.tup ls]),.em,.em,.em,.em,.em,.em,.em,.em,.em,.em,.em,.em,.em,.em]) ((cJ (gh (k:=true) (bw (aK (ts:=[(.tup [.tup cs,.tup ls])]) rfl eh)))).trans rfl)]
 have le_:cr [.tup cs] = .ok (eS P):=by rw[uB cs hc,R.e];rfl
 rw[aw (Z':=[.va (.scr ns),.va (.tup [.tup cs,.tup ls]),.va (eS P),.em,.em,.em,.em,.em,.em,.em,.em,.em,.em,.em,.em,.em]) (cp (aK (ts:=[.tup cs]) (ao (gi (l:=[.tup cs,.tup ls]) 0 rfl rfl) rfl) le_) rfl)];obtain⟨tbl,htb,et⟩:=Co (L:=L) R.nd (by omega) R.f.ends
 rcases htb with⟨_,F,rfl⟩ | ⟨n',_⟩
 rotate_left
 ·exact absurd n n'
 obtain⟨t,g1,ew1⟩:=Ay (ns:=ns) hn n F hpl R.nd R.f.ends 80 (eL L)
 have ib:gW [(.tup [.tup cs,.tup ls]),iK P t] = .ok (.bl true):=by rw[R.isw,holds_all.mpr g1]
 revert F et ew1
 generalize table P L=f
 intro F et ew1;obtain⟨M,S,n',F'⟩:=R.newT n F;obtain⟨b,q1,q2⟩:=R.IL n F S
 have in2:ff [(.tup [.tup cs,.tup (eK cs ls)])] = .ok (.bl true):=by
  have e:=S.HX n' F';rw[R.IS n F S n' F']at e;exact bz rfl (bQ (aA (t:=(.tup [.tup cs,.tup (eK cs ls)])) (u:=(.tup [.tup cs,.tup (eK cs ls)])) (aK (ts:=[(.tup [.tup cs,.tup (eK cs ls)])]) rfl e) rfl (wE S.g.p S.IP)))
 have sw:=Dx R n F S n' F'
 have am1:=R.Io n F
 have am2:=S.Io n' F';rw[aw (Z':=[.va (.scr ns),.va (.tup [.tup cs,.tup ls]),.va (eS P),.va (.tup [.tup cs,.tup (eK cs ls)]),.em,.em,.em,.em,.em,.em,.em,.em,.em,.em,.em,.em]) (cp (aK (ts:=[(.tup [.tup cs,.tup ls])]) rfl (R.HX n F)) rfl)];rw[aw (Z':=[.va (.scr ns),.va (.tup [.tup cs,.tup ls]),.va (eS P),.va (.tup [.tup cs,.tup (eK cs ls)]),.em,.em,.em,.em,.em,.em,.em,.em,.em,.em,.em,.em]) ((cJ (lD (gh (k:=true) (bw (aK (ts:=[(.tup [.tup cs,.tup ls]),(.tup [.tup cs,.tup (eK cs ls)])]) rfl sw))) (gh (k:=true) (bw (aK (ts:=[(.tup [.tup cs,.tup (eK cs ls)])]) rfl in2))))).trans rfl)]
 rw[aw (Z':=[.va (.scr ns),.va (.tup [.tup cs,.tup ls]),.va (eS P),.va (.tup [.tup cs,.tup (eK cs ls)]),.em,.em,.em,.em,.em,.em,.em,.em,.em,.em,.em,.em]) ((cJ (bw (aA (t:=.bl b) (u:=.bl b) (aK (ts:=[(.tup [.tup cs,.tup ls])]) rfl q2) (aA (t:=(.tup [.tup cs,.tup (eK cs ls)])) (u:=(.tup [.tup cs,.tup ls])) rfl rfl q1) (GA b)))).trans rfl)];rw[aw (Z':=[.va (.scr ns),.va (.tup [.tup cs,.tup ls]),.va (eS P),.va (.tup [.tup cs,.tup (eK cs ls)]),.em,.em,.em,.em,.em,.em,.em,.em,.em,.em,.em,.em]) ((cJ (bw (aA (t:=pz P f) (u:=pz P f) (aK (ts:=[(.tup [.tup cs,.tup (eK cs ls)])]) rfl am2) (aK (ts:=[(.tup [.tup cs,.tup ls])]) rfl am1) (jU (yW P f) (wL P f))))).trans rfl)]
 obtain⟨a4,a5,e7⟩:=R.f7 (ns:=ns) n F .em .em .em .em .em .em .em .em .em .em .em .em;rw[aw e7]
 have lb:dE [(.tup [.tup cs,.tup ls])] = .ok (eL L):=by rw[xQ hc g.l g.n,R.b];rfl
 rw[aw (Z':=[.va (.scr ns),.va (.tup [.tup cs,.tup ls]),.va (eS P),.va (.tup [.tup cs,.tup (eK cs ls)]),a4,a5,.va (iK P t),.em,.em,.em,.em,.em,.em,.em,.em,.em]) (cp (aK (ts:=[.scr ns,.int ((80:Nat):Int),eS P,eL L,eR P f]) (ao rfl (ao rfl (ao rfl (ao (aK (ts:=[(.tup [.tup cs,.tup ls])]) rfl lb) (ao (aK (ts:=[eS P,eL L]) (ao rfl (ao (aK (ts:=[(.tup [.tup cs,.tup ls])]) rfl lb) rfl)) et) rfl))))) ew1) rfl)]
 rw[aw (Z':=[.va (.scr ns),.va (.tup [.tup cs,.tup ls]),.va (eS P),.va (.tup [.tup cs,.tup (eK cs ls)]),a4,a5,.va (iK P t),.em,.em,.em,.em,.em,.em,.em,.em,.em]) ((cJ (gh (k:=true) (bw (aK (ts:=[(.tup [.tup cs,.tup ls]),iK P t]) rfl ib)))).trans rfl)];rw[aw (Z':=[.va (.scr ns),.va (.tup [.tup cs,.tup ls]),.va (eS P),.va (.tup [.tup cs,.tup (eK cs ls)]),a4,a5,.va (iK P t),.va (kC P t),.em,.em,.em,.em,.em,.em,.em,.em]) (cp (aK (ts:=[eS P,iK P t]) rfl (R.dz t)) rfl)]
 obtain⟨Z',loop,a8,a9,a10,a11,a12,a13,a14,a15,rfl⟩:=lZ (g:=(gT 2 (dg (gN 8) (dg (gT 3 (dg (gN 9) (dg (gN 10) (dg (gN 11) iV)))) iV)))) (F:=WC) (λZ=> ∃a8 a9 a10 a11 a12 a13 a14 a15,Z= [.va (.scr ns),.va (.tup [.tup cs,.tup ls]),.va (eS P),.va (.tup [.tup cs,.tup (eK cs ls)]),a4,a5,.va (iK P t),.va (kC P t),a8,a9,a10,a11,a12,a13,a14,a15]) (ts:=bv 0 cs)
  (λu hu Z hh=>by
   obtain⟨a8,a9,a10,a11,a12,a13,a14,a15,rfl⟩:=hh;obtain⟨i,v,hi,rfl⟩:=wG hu;rw[Nf];obtain⟨x,y,r,rfl,_,_,r1,r4⟩:=fS ((bW hc).1 v (Ks hi));obtain⟨b12,b13,b14,b15,e⟩:=R.wc (ns:=ns) n F S n' F' g1 ⟨hi,r1,r4⟩ a4 a5 a12 a13 a14 a15;exact⟨_,_,rfl,e,_,_,_,_,_,_,_,_,rfl⟩) (Z:=[.va (.scr ns),.va (.tup [.tup cs,.tup ls]),.va (eS P),.va (.tup [.tup cs,.tup (eK cs ls)]),a4,a5,.va (iK P t),.va (kC P t),.em,.em,.em,.em,.em,.em,.em,.em]) ⟨_,_,_,_,_,_,_,_,rfl⟩
 rw[aw (ee (k_iE (l:=cs) (ao (gi (l:=[.tup cs,.tup ls]) 0 rfl rfl) rfl)) loop)];exact bQ rfl
end G
end
lay_quick G.lhs G.rhs
name_quick lhsz for G.lhs by G.lhs_r
name_quick rhsz for G.rhs by G.rhs_r
open PySem PySem.W PyProof.Rows
set_option maxRecDepth 100000 in
set_option maxHeartbeats 0 in
theorem G.IJ (w : Kr) (os : OsState) : PySem.W.Fast.lhsz w (boot_heap w.params) boot_drawn boot_toks os = PySem.W.Fast.rhsz w := by kernel_rfl
set_option maxRecDepth 100000 in
set_option maxHeartbeats 0 in
theorem PySem.Challenge.cw_farclocks_k54_whole_spans_holds : PySem.Challenge.rw_farclocks_k54_whole_spans.Holds := by
  w_on; o_law
  refine holds_open (q := G.vw) (loose := G.lse) (Xt := λ_ => true) (XP := λ_ _ => True) (Yf := (Tr.hookK G.asks G.top).obs) (Ya := (Tr.hookK G.asks G.top).val) (YP := (Tr.hookK G.asks G.top).says) (N := 9000) (Tr.left_of (by rfl) (by rfl) (λ_ => rfl) λw os => ?hl) (Tr.hookK G.asks G.top).of (Tr.hookK G.asks G.top).keeps (λ_ _ => trivial) (λ_ _ _ _ _ => trivial) (by rfl) (by rfl) (by rfl) (λs _ => recFacts_of (s := s) rfl) (by rfl) (by assumption) (by decide +kernel) ⟨rfl, rfl, rfl, rfl, rfl, by decide +kernel⟩ ?hw ?hc
  case hl => exact ((congrFun (congrFun (congrFun (congrFun (congrFun PySem.W.Fast.lhsz_eq w) _) _) _) os).trans (G.IJ w os)).trans (congrFun PySem.W.Fast.rhsz_eq w).symm
  case hw => w_witness2
  case hc => exact Tr.walk_k (n := 63) (k := 19) (x := "_law_script") (CX := L2.CX0) (sp := λK => Tr.spP K 1 G.m_law) rfl (by decide) rfl ⟨rfl, by decide, by decide⟩ (λw K mg fa h X e g hf => G.all_ok X e g hf) (λK H a ns hl _ hS => Tr.sp_script hS (G.pure_law ns hl)) λ_ _ _ _ z => z
