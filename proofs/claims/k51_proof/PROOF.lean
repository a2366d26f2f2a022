import PyProof.Rows.All
import Wide.All
import OpenK.AllK
import Wide.FinOn
import Lean
import PyProof.EqAt
import PyProof.EqKinds
import PyProof.TupleCall
import PyProof.ExcClass3
import PyProof.StationsW
import PyProof.ExcBaseAll.ValueError
import PyProof.ExcArgsOwn
import PyProof.IsiBase
import PyProof.IsiH_tuple
import PyProof.ExcAttrAll.ValueError
import PyProof.Rows.RuleN_isinstance
import PyProof.MeetsSeq
import PyProof.RulesAs
import PyProof.IsiH_list
import PyProof.AttrMiss
import KE.KDictOf
import PyProof.Rows.SumAny
import PyProof.Rows.MinMaxN
import PyProof.Rows.SortShellK
import PyProof.Rows.SortWalk
import PyProof.ZipIter
import PyProof.WalksMore
import PyProof.DictWalks
import PyProof.AutoSeq1
import PyProof.Rows.Range3
import PyProof.CollectWalk
import KE.KSortTup
import PyProof.EnumMake
import PyProof.ListRange
import PySem.Challenge.RW_farclocks_k51_whole_needs
noncomputable section
open PySem.Challenge renaming pw_farclocks_k51_whole_needs→Jk,rw_farclocks_k51_whole_needs→MC
open PySem.Builtin.SmallTypes renaming ownedTupleIsFree→J7,nextOf→Kh
open List renaming eraseIdx_append_of_length_le→Lk,take_succ_eq_append_getElem→JM,getD_eq_getElem?_getD→Kd,getElem?_append_right→KY,nodup_iff_pairwise_ne→Mb,getElem?_eq_some_iff→IC,getElem?_append_left→Ki,drop_eq_getElem_cons→K2,getElem?_eq_getElem→Ir,getElem?_take_of_lt→Mv,getElem?_cons_succ→JJ,getElem?_replicate→Lg,eraseIdx_cons_zero→MJ,getElem?_set_self→IP,range_succ_eq_map→KA,drop_eq_nil_of_le→Ls,mem_append_right→Iy,getElem?_eq_none→Jt,length_singleton→JW,take_append_drop→LF,getElem?_toArray→M5,mem_cons_of_mem→Ia,getElem?_set_ne→IL,mem_append_left→Ja,mem_of_getElem?→Jg,mem_of_mem_take→J1,mem_of_mem_drop→K1,mem_erase_of_ne→Nu,map_congr_left→Ju,replicate_succ→JP,filterMap_cons→Kp,getElem_of_mem→Kr,getElem?_range→K6,length_reverse→LW,mem_map_of_mem→ND,drop_succ_cons→NI,mem_cons_self→Ie,length_append→Ih,mem_singleton→Iv,mem_filterMap→Mf,append_of_mem→Mi,filterMap_map→NR,size_toArray→Iq,getElem?_map→IF,append_assoc→IW,length_range→Jx,nodup_append→JQ,flatten_cons→Kl,flatMap_cons→KQ,reverse_cons→Lu,ext_getElem?→Oh,map_inj_left→Om,length_cons→Io,not_mem_nil→IM,all_eq_true→IR,length_take→Jb,lookup_cons→Jv,getElem_mem→JK,length_drop→Ku,filter_cons→Kv,cons_append→LI,mem_flatMap→LJ,getElem_map→MP,drop_length→OF,any_eq_true→OH,take_length→OJ,mem_reverse→OK,length_map→Ig,mem_append→IB,nodup_cons→IT,append_nil→JE,length_set→JF,map_append→JG,nil_append→JX,find?_cons→KJ,mem_filter→Lf,of_mem_zip→LU,length_nil→M7,range_succ→Nd,filter_map→Ng,forIn_cons→OW,idxOf_cons→O6,replicate→IE,mem_range→Ji,nodup_nil→Kz,take_zero→Ny,map_cons→Ic,mem_cons→Ij,sum_cons→J2,any_cons→Ks,all_cons→NV,mem_map→ID,map_map→J3,map_nil→LC,set_set→LD,toArray→Ox,length→KG,lookup→Lv,map_id→O0,range→Iw,Nodup→Jo,foldl→Mw,cons→Na,getD→NW
open PySem.AutoListH renaming list___mul___list_int_3→NT
open PyProof.Rows renaming slot_tuple_getitem→IH,callWith_builtin1→Lz,get?_update_seq→OP,callWith_type1→IS,subscriptTail_builtinR→MY,entry_tuple_getitem→L1,args_tuple_getitem→Mk,slicePart_none→Mp,tupleItemsOf_→ML,subscriptTail→Ob,Subscript_→Os,IntsAre→L3,AllBare→MK,IsTup→Pf
open PySem.F renaming args_tuple_iterator_next_1→LM,entry_tuple_iterator_next→LX,slot_tuple_iterator_next→Kc,excBase_ValueError→L9,slot_list_getattribute→Km,args_tuple_add_2→K7,entry_tuple_add→Lc,plainAttrs_list→Ld,args_enumerate_next_1→Li,args_dict_get_2→MD,slot_tuple_add→Lp,entry_enumerate_next→Lr,entry_dict_get→MR,slot_enumerate_next→JH,slot_dict_get→LB,slot_enumerate_iter→M9,plain_extend_loop→Kt,entry_extend_loop→NF,args_int_rmul_2→Of,slot_tuple_rmul→Oi,slot_tuple_mul→MO,slot_int_index→OC,entry_int_rmul→OD,slot_int_rmul→LV,fills_int_mul→OV
open PySem.Builtin.Slice renaming slicePartIndex→ON,sliceApplied→Kb,slicePlaces→Je,sliceAdjust→JD,sliceFields→Mm
open PySem.Builtin.List renaming listExtendWith→J6,listTooLong→Kk,listSameRef→Mt,listItems→MS
open PySem.Builtin.Tuple renaming tupleItemsOf→KW,tupleIsExact→L8,tupleExact→IZ
open PySem.Calls renaming Name_function_global→Ma,callWith_builtin→Lq,evalArgs_plain→KZ,spliced_cons→Kg,spliced_nil→J5
open PySem renaming wpAny_newFunctionEnv_cells→Mc,wpAny_binaryOp_repeat_ref→Mq,wpAny_getItem_list_slice→MB,wpAny_callSpecial?_slot→Jn,wpAny_pyNext_list_item→MV,wpAny_pyNext_range_end→MW,wpAny_pyIter_rangeiter→MX,wpAny_Call_method_late→MZ,builtinLookup_eq_fast→KN,wpAny_pyNext_list_end→Nh,codeAny_call_function→Nj,mem_of_lookup→J8,call_enumerate_list→NM,wpAny_Call_Name_kw→Jj,tupleKind_room_in1→KC,wpAny_pyIter_tuple→Lm,wpAny_setField_rec→Ml,wpAny_pyIter_range→N6,wpAny_List_spliced→N7,wpAny_newObj_type→Jh,wpAny_truthy_bool→Jp,foldedSetIterable→Jy,wpAny_pyIter_list→Mz,wpAny_sequenceKey→MA,wpAny_assign_Name→On,wpAny_pyIter_enum→Ot,wpAny_call_entry→JL,noFill_tuple_add→MQ,seqSlot_of→OG,wpAny_execs_cons→OL,wpAny_isInstance→OM,wpAny_loadPart'→Kn,letOwnedTupleGo→Ll,wpAny_execs_nil→L0,typeLookup_type→L5,codeAny_builtin→L6,wpAny_updateSeq→L7,pushCells_keeps→Nl,wpAny_specialOf→Nm,wpAny_passesOwn→O7,importedModules→Pc,wpAny_seqItems→Mr,attributeBase→JU,wpAny_holding→Ln,plainId_quiet→LO,behindInMarks→MM,swapsWithSole→N4,swappedStores→N5,seq_tuple_add→N8,evalPart_none→Oa,wpAny_attempt→Oc,bootBuiltins→IU,wpAny_typeOf→Lb,codeAny_mono→Ni,concat_meets→Oz,mainGlobals→Jf,wpAny_field→Jz,sizeLine_eq→KM,sliceBounds→Lx,excClassObj→L4,IsRangeIter→NJ,keywordEach→NK,subscripted→NL,wpAny_bind→HY,wpAny_pure→Ik,assignEach→JS,sysModules→KS,typeLookup→KU,wpAny_mono→La,call_meets→LP,builtinsNs→Np,typeIs_int→Nq,wpAny_rule→Nr,compareOp→Jd,swapsWith→JY,cellsFrom→Kw,tupleKind→My,pushCells→Nk,Arguments→O8,slicePick→O9,lastMarks→Pa,updateSeq→Pb,starEach→IA,FuncData→JT,binaryOp→JZ,boot_len→Ka,NameKind→KR,Program→IJ,BindsTo→Oo,Keyword→Oq,Shared→Ib,Around→Jl,IsPart→N9,IsPair→Pe,Paired→Pg,Value→H0,World→JA,Scope→LZ,CmpOp→Ph
open Int renaming eq_ofNat_of_zero_le→Jc,emod_lt_of_pos→Mj,toNat_natCast→Jw,emod_nonneg→Nf,ediv_one→M4,le_refl→JR,neg_neg→OY
open PySem.Builtin.Range renaming rangeSize→Ko,small→NA
open PySem.Builtin.Dict renaming updateFrom→ME
open PySem.Heap renaming get?_push_of_some→Ii,get?_update_other→Jr,get?_update_self→KI,get?_push_size→Iz,size_update→LH,NewAttrErr→O4,size_push→Ky,IsSliceOf→Pd,lt_size→Im,SameBut→KD,update→LY
open PySem.W renaming cellsFrom_some→Lo,hideAll_none→Nt,hideAll_get→LQ,of_hideAll→NN,callWith_K→NO,codeRec_of→NP,methodObj→Ms,kitx_list→Od,kitx_dict→Oe,plainGet→OA,kia_one→JC,instObj→M0,hideAll→OQ,keepIn→Kx,lookIn→Nv,codeIn→Nx,mg_of→LL,Frag→HX,fnOf→Ly,nsIn→LA
open PyProof renaming noPylong_small→MT
open Option renaming map_eq_some_iff→MU,isSome_some→NU,isSome_map→Oj,getD_none→OB,some→Jq
open Bool renaming and_eq_false_iff→LG,and_eq_true_iff→J0,false_ne_true→IK,false_eq_true→Lh,not_eq_true'→Ol,and_eq_true→HZ,eq_iff_iff→M6,or_eq_true→OZ,true_and→LN,false_or→NY,and_true→N3
open PySem.Around renaming under_plainId→K0,units→Mh
open Array renaming length_toList→LS,find?_toList→NQ,toList→Me
open PySem.Heap.SameBut renaming update→Nz
open Nat renaming lt_of_lt_of_le→Iu,lt_of_le_of_lt→Mg,lt_succ_of_lt→Lw,le_of_succ_le→Mx,le_of_not_lt→MN,lt_succ_self→OE,mod_eq_of_lt→OI,min_eq_left→O5,lt_irrefl→IG,le_trans→IQ,ne_of_lt→Js,ne_of_gt→Kf,le_of_lt→KF,le_of_eq→K8,sub_self→K9,sub_zero→M8,add_comm→Ou,mul_comm→Ov,zero_add→Oy,le_refl→Il,zero_le→Kq
open PySem.Heap.IsSliceOf renaming new→Md
open PySem.Obj renaming data_mapFields→NX,mapSeq→Ke
open Option.some renaming injEq→Mu,inj→IX
open ForInStep renaming yield→KH
open List.cons renaming injEq→LR
open PySem.Expr renaming Subscript→K3,Attribute→K4,Constant→MH,ListComp→N1,Compare→Nb,UnaryOp→Nc,BoolOp→Kj,Name→IV,Call→JO
open PySem.NameKind renaming free→IY,cell→JI
open Prod.mk renaming injEq→MF,inj→OR
open PySem.Paired renaming length→MG
open PySem.Str renaming ofString→Ip
open PySem.Stmt renaming Assign→MI
open PySem.Scope renaming names→NG
open PySem.Pos renaming endLine→NH,line→Lj
open PySem.Data renaming fields→OS
open PySem.IsRange renaming new→OU
open PySem.Value renaming none→Jm,bool→JB,type→J4,ref→II,int→JN,str→JV
open False renaming elim→KO
open True renaming intro→KP
open PySem.BoolOp renaming And→Nn,Or→NZ
open PySem.Env renaming scope→KL
open PyProof.Rows.IsTup renaming new→NS
open Ne renaming symm→K5
open Iff renaming rfl→Mo
open Sum renaming inl→NB,inr→NC
open Prod renaming mk→Og
open Or renaming inr→J9,inl→KB
set_option Elab.async false
set_option linter.all false
set_option maxRecDepth 100000
set_option maxHeartbeats 8000000
noncomputable section
abbrev iV (x:PySem.Str):Prop:=(x == PySem.Str.ofString "__debug__")=false
namespace L2
open PySem PySem.Spec PyProof.Rows
abbrev Key:=Sum Int Str
def pL:Key->H0->Bool
 | .inl k,v=>Value.isInt k v
 | .inr x,v=>Value.isStrOf x v
def keyH (w:JA):Key->Int
 | .inl k=>hashInt k
 | .inr x=>hashStr w x
theorem cD:∀{k:Key} {v:H0},pL k v=true->(∃i t,k=NB i/\v=JN i t)\/(∃x t,k=NC x/\v=JV x t)
 | .inl i,v,h=>by
  obtain⟨t,e⟩:=Value.isInt_shape (k:=i) (v:=v) h
  exact .inl ⟨i,t,rfl,e⟩
 | .inr x,v,h=>by
  obtain⟨t,e⟩:=Value.isStrOf_shape (x:=x) (v:=v) h;exact .inr ⟨x,t,rfl,e⟩
theorem xt (i:Int)(t:Tok):pL (.inl i) (.int i t)=true:=by simp[pL,Value.isInt]
theorem xr (x:Str)(t:Tok):pL (.inr x) (.str x t)=true:=by simp[pL,Value.isStrOf]
theorem D5 (a b:Int):decide ((NB a:Key)=NB b)=(a == b):=by
 by_cases e:a=b
 ·subst e;simp
 ·have h:¬ (NB a:Key)=NB b:=λq=>e (NB.inj q)
  rw[decide_eq_false h];exact(beq_eq_false_iff_ne.mpr e).symm
theorem DZ (a b:Str):decide ((NC a:Key)=NC b)=decide (a=b):=by
 by_cases e:a=b
 ·subst e;simp
 ·have h:¬ (NC a:Key)=NC b:=λq=>e (NC.inj q)
  rw[decide_eq_false h,decide_eq_false e]
theorem D2 (a:Int)(b:Str):decide ((NB a:Key)=NC b)=false:=decide_eq_false (λq=>nomatch q)
theorem D1 (a:Str)(b:Int):decide ((NC a:Key)=NB b)=false:=decide_eq_false (λq=>nomatch q)
def cL (prog:IJ)(w:JA):PySem.KeyKind prog w Key where
 is:=pL
 hash:=keyH w
 inj:=λv a b ha hb=>by
  rcases cD ha with⟨i,t,rfl,rfl⟩ | ⟨x,t,rfl,rfl⟩
  ·rcases cD hb with⟨j,u,rfl,e⟩ | ⟨y,u,rfl,e⟩
   ·injection e with e1 _;rw[e1]
   ·exact nomatch e
  ·rcases cD hb with⟨j,u,rfl,e⟩ | ⟨y,u,rfl,e⟩
   ·exact nomatch e
   ·injection e with e1 _;rw[e1]
 byValue:=λk v h=>by
  rcases cD h with⟨i,t,rfl,rfl⟩ | ⟨x,t,rfl,rfl⟩ <;> rfl
 pyHash:=λhv h=>by
  rcases cD hv with⟨i,t,rfl,rfl⟩ | ⟨x,t,rfl,rfl⟩
  ·exact wpAny_pyHash_int h
  ·exact wpAny_pyHash_str h
 eqBool:=λhu hv h=>by
  rcases cD hu with⟨i,t,rfl,rfl⟩ | ⟨x,t,rfl,rfl⟩
  ·rcases cD hv with⟨j,u,rfl,rfl⟩ | ⟨y,u,rfl,rfl⟩
   ·rw[D5]at h;exact wpAny_eqBool_int h
   ·rw[D2]at h;exact SeqAt.EqAt.int_str i t y u _ _ _ _ h
  ·rcases cD hv with⟨j,u,rfl,rfl⟩ | ⟨y,u,rfl,rfl⟩
   ·rw[D1]at h;exact SeqAt.EqAt.str_int x t j u _ _ _ _ h
   ·rw[DZ]at h;exact wpAny_eqBool_str h
 «strs»:=λk x t v h=>by
  rcases cD h with⟨i,u,rfl,e⟩ | ⟨y,u,rfl,e⟩
  ·exact nomatch e
  ·injection e with e1 _
   subst e1;cases v <;> rfl
theorem tJ (prog:IJ)(w:JA)(i:Int)(t:Tok):(cL prog w).is (.inl i) (.int i t)=true:=xt i t
theorem tI (prog:IJ)(w:JA)(x:Str)(t:Tok):(cL prog w).is (.inr x) (.str x t)=true:=xr x t
inductive V where
 | non | bl (b:Bool) | int (i:Int) | str (x:Str) | byt (b:Array UInt8) | flt (b:UInt64) | ref (a:Addr) | ty (n:String)
 deriving DecidableEq
def RelV:V->H0->Prop
 | .non,u=>u=Jm
 | .bl b,u=>u=JB b
 | .int i,u=> ∃t,u=JN i t
 | .str x,u=> ∃t,u=JV x t
 | .byt b,u=> ∃t,u=Value.bytes b t
 | .flt b,u=> ∃t,u=Value.float b t
 | .ref a,u=>u=II a
 | .ty n,u=>u=J4 n
abbrev Vals:List V->List H0->Prop:=Pg RelV
theorem Vals.length {xs:List V}{us:List H0}(r:Vals xs us):xs.length=us.length:=MG r
theorem Vals.get:∀{xs:List V} {us:List H0} {i:Nat} {x:V},Vals xs us->xs[i]? =some x->∃u,us[i]? =some u/\RelV x u
 | _,_,_,_,.nil,e=>by simp at e
 | _,_,0,_,.cons r _,e=>by simp at e;subst e;exact⟨_,rfl,r⟩
 | _,_,i+1,x,.cons _ t,e=>by
  obtain⟨u,h1,h2⟩:=Vals.get (i:=i) (x:=x) t (by simpa using e)
  exact⟨u,by simpa using h1,h2⟩
theorem Vals.append:∀{xs ys:List V} {us ws:List H0},Vals xs us->Vals ys ws->Vals (xs++ys) (us++ws)
 | _,_,_,_,.nil,s=>s
 | _,_,_,_,.cons r t,s=> .cons r (Vals.append t s)
theorem Vals.take:∀{xs:List V} {us:List H0} (n:Nat),Vals xs us->Vals (xs.take n) (us.take n)
 | _,_,0,_=> .nil
 | _,_,_+1,.nil=> .nil
 | _,_,n+1,.cons r t=> .cons r (Vals.take n t)
theorem Vals.drop:∀{xs:List V} {us:List H0} (n:Nat),Vals xs us->Vals (xs.drop n) (us.drop n)
 | _,_,0,r=>r
 | _,_,_+1,.nil=> .nil
 | _,_,n+1,.cons _ t=>Vals.drop n t
def RelO:Option V->Option H0->Prop
 | some v,some u=>RelV v u
 | none,none=>True
 | _,_=>False
def KV {κ:Type}:List (κ×V)->List (κ×H0)->Prop:=Pg λ(p:κ×V) (q:κ×H0)=>p.1=q.1/\RelV p.2 q.2
def kV:Key->V
 | .inl i=> .int i
 | .inr x=> .str x
inductive HO where
 /-- a list -/
 | lst (xs:List V)
 /-- a tuple (never changes) -/
 | tup (xs:List V)
 /-- a dict whose keys are ints and texts;one whose keys are tuples of ints and texts (the empty one is both) -/
 | dK (kvs:List (Key×V)) | dT (kvs:List (List Key×V))
 /-- a set of ints: its members,its size -/
 | set (S:Int->Bool) (n:Nat)
 /-- an instance of the class at C,its dict at dx,its attributes -/
 | ins (C dx:Addr) (fs:List (Str×V))
 /-- the dict of the instance at x -/
 | own (x:Addr)
 /-- the dict of an exception -/
 | xd (fs:List (Str×V))
 /-- a bound method,f of x -/
 | met (f x:Addr)
 /-- a range object lo,lo+1,.. below hi -/
 | rng (lo hi:Int)
 /-- a thing that is known to the object (the script;a dict while a loop walks it): read,never written while it is so -/
 | frz (o:Obj) (u:HO)
 /-- a code object's table -/
 | tbl (ps:Array H0)
 /-- any other thing,by what is true of its one object (a def of one's own: SetO a S n:=HO.ext λh=> ..) -/
 | ext (φ:Heap->Prop)
abbrev Hp:=Addr->Option HO
def upd (H:Hp)(a:Addr)(o:HO):Hp:=λb=>if b=a then some o else H b
theorem bx {H:Hp}{a:Addr}{o:HO}:upd H a o a=some o:=by unfold upd;rw[if_pos rfl]
theorem aY {H:Hp}{a b:Addr}{o:HO}(h:b≠a):upd H a o b=H b:=by unfold upd;rw[if_neg h]
theorem qo {H:Hp}{a:Addr}{o u:HO}:upd (upd H a o) a u=upd H a u:=by
 funext b;unfold upd;split <;> rfl
theorem tG {H:Hp}{a b:Addr}{o u:HO}(h:H a=some o)(h':H b=some u)(d:o≠u):a≠b:=by
 intro e;subst e;rw[h]at h';exact d (IX h')
theorem cf {H:Hp}{a b:Addr}{o:HO}(h:H a=some o)(h':H b=none):a≠b:=by
 intro e;subst e;rw[h]at h';cases h'
section
variable (P:IJ)(w:JA)
def ObjOk (H:Hp)(h:Heap)(a:Addr):HO->Prop
 | .lst xs=>xs.length<=sizeLine/\∃(its:List H0) (n:Nat),Vals xs its/\h.get? a=some { cls:=.type "list",data:=.seq its.toArray n }
 | .tup xs=>xs.length<=sizeLine/\∃its:List H0,Vals xs its/\Pf h a its.toArray
 | .dK kvs=>kvs.length<=sizeLine/\(a == KS)=false/\∃vs,KV kvs vs/\h.DictOf (cL P w) a vs
 | .dT kvs=>kvs.length<=sizeLine/\(a == KS)=false/\∃xs:List (List Key×Addr×H0),
   Pg (λ(p:List Key×V) (q:List Key×Addr×H0)=>p.1=q.1/\H q.2.1=some (.tup (p.1.map kV))/\RelV p.2 q.2.2) kvs xs ∧
   ∃o es ep,h.get? a=some o/\o.ExactDict/\o.data= .dict es ep/\es.toList=xs.map (entryOfKey (My (cL P w)))/\(xs.map (·.1)).Nodup
 | .set S n=>h.SetOf (intKind P w) a S n
 | .ins C dx fs=>H dx=some (.own a)/\fs.length<=1000/\dx≠a/\h.get? a=some (M0 C dx) ∧
   ∃mA,h.Ns1 dx mA/\(∀f,RelO (fs.lookup f) (mA f))/\PySem.Within mA (fs.map (·.1))
 | .own _=> ∃o,h.get? a=some o
 | .xd fs=> ∃mA,h.Ns1 a mA/\∀f,RelO (fs.lookup f) (mA f)
 | .rng lo hi=> ∃t u v,h.get? a=some { cls:=.type "range",data:=.fields #[.int lo t,.int hi u,.int 1 v] }
 | .frz o u=>h.get? a=some o/\ObjOk H h a u
 | .tbl ps=>h.get? a=some { cls:=.none,data:=.fields ps }
 | .met f x=>h.get? a=some (Ms (.ref f) (.ref x))
 | .ext φ=>φ h/\(∃o,h.get? a=some o)/\∀h1 h2:Heap,φ h1->(∀o,h1.get? a=some o->h2.get? a=some o)->φ h2
def HOk (H:Hp)(h:Heap):Prop:=∀a o,H a=some o->ObjOk P w H h a o
end
section
variable {P:IJ}{w:JA}{H H':Hp}{h h':Heap}{a:Addr}{o:HO}
theorem ObjOk.lt (x:ObjOk P w H h a o):a<h.objs.size:=by
 cases o with
 | lst xs=>obtain⟨_,_,_,_,e⟩:=x;exact Im e
 | tup xs=>obtain⟨_,_,_,p⟩:=x;exact p.lt
 | dK kvs=>obtain⟨_,_,_,_,o,_,_,e,_⟩:=x;exact Im e
 | dT kvs=>obtain⟨_,_,_,_,o,_,_,e,_⟩:=x;exact Im e
 | set S n=>obtain⟨o,_,_,_,e,_⟩:=x;exact Im e
 | ins C dx fs=>obtain⟨_,_,_,e,_⟩:=x;exact Im e
 | own y=>obtain⟨_,e⟩:=x;exact Im e
 | xd fs=>obtain⟨_,⟨_,_,_,e,_⟩,_⟩:=x;exact Im e
 | rng lo hi=>obtain⟨_,_,_,e⟩:=x;exact Im e
 | frz ob u=>obtain⟨e,_⟩:=x;exact Im e
 | tbl ps=>exact Im (show h.get? a=some _ from x)
 | met f y=>exact Im (show h.get? a=some _ from x)
 | ext φ=>obtain⟨_,⟨_,e⟩,_⟩:=x;exact Im e
theorem Paired.HA {α β:Type}{F G:α->β->Prop}:∀{l₁:List α} {l₂:List β},Pg F l₁ l₂->(∀a b,F a b->G a b)->Pg G l₁ l₂
 | _,_,.nil,_=> .nil
 | _,_,.cons r t,f=> .cons (f _ _ r) (Paired.HA t f)
theorem ObjOk.G2 (x:ObjOk P w H h a o)(k:∀b u,(b=a\/H b=some (.own a))->h.get? b=some u->h'.get? b=some u)
  (ho:∀b,H b=some (.own a)->H' b=some (.own a)) (ht:∀b xs,H b=some (.tup xs)->H' b=some (.tup xs)):ObjOk P w H' h' a o:=by
 induction o with
 | lst xs=>obtain⟨z,its,n,r,e⟩:=x;exact⟨z,its,n,r,k _ _ (.inl rfl) e⟩
 | tup xs=>obtain⟨z,its,r,ob,e,c⟩:=x;exact⟨z,its,r,ob,k _ _ (.inl rfl) e,c⟩
 | dK kvs=>obtain⟨z,y,vs,r,ob,es,ep,e,c⟩:=x;exact⟨z,y,vs,r,ob,es,ep,k _ _ (.inl rfl) e,c⟩
 | dT kvs=>
  obtain⟨z,y,xs,r,ob,es,ep,e,c⟩:=x
  exact⟨z,y,xs,Paired.HA r λp q z=>⟨z.1,ht _ _ z.2.1,z.2.2⟩,ob,es,ep,k _ _ (.inl rfl) e,c⟩
 | set S n=>obtain⟨ob,es,ep,t,e,c⟩:=x;exact⟨ob,es,ep,t,k _ _ (.inl rfl) e,c⟩
 | ins C dx fs=>
  obtain⟨d,z,ne,e,mA,⟨od,es,ep,e2,c⟩,r⟩:=x
  exact⟨ho _ d,z,ne,k _ _ (.inl rfl) e,mA,⟨od,es,ep,k _ _ (.inr d) e2,c⟩,r⟩
 | own y=>obtain⟨ob,e⟩:=x;exact⟨ob,k _ _ (.inl rfl) e⟩
 | xd fs=>obtain⟨mA,⟨od,es,ep,e,c⟩,r⟩:=x;exact⟨mA,⟨od,es,ep,k _ _ (.inl rfl) e,c⟩,r⟩
 | rng lo hi=>obtain⟨t,u,v,e⟩:=x;exact⟨t,u,v,k _ _ (.inl rfl) e⟩
 | frz ob u ih=>obtain⟨e,q⟩:=x;exact⟨k _ _ (.inl rfl) e,ih q⟩
 | tbl ps=>
  have e:h.get? a=some { cls:=.none,data:=.fields ps }:=x
  show h'.get? a=some { cls:=.none,data:=.fields ps }
  exact k a _ (.inl rfl) e
 | met f y=>
  have e:h.get? a=some (Ms (.ref f) (.ref y)):=x
  show h'.get? a=some (Ms (.ref f) (.ref y))
  exact k a _ (.inl rfl) e
 | ext φ=>obtain⟨p,⟨o,e⟩,st⟩:=x;exact⟨st _ _ p λo q=>k _ _ (.inl rfl) q,⟨o,k _ _ (.inl rfl) e⟩,st⟩
theorem HOk.lt (x:HOk P w H h)(e:H a=some o):a<h.objs.size:=(x a o e).lt
theorem HOk.fresh (x:HOk P w H h)(e:h.objs.size<=a):H a=none:=by
 cases q:H a with
 | none=>rfl
 | some u=>exact absurd (Iu (x.lt q) e) (IG _)
theorem HOk.kept (x:HOk P w H h)(k:∀b u,h.get? b=some u->h'.get? b=some u):HOk P w H h':=λa o e=>
 (x a o e).G2 (λb u _ q=>k b u q) (λ_ q=>q) λ_ _ q=>q
theorem HOk.laid (x:HOk P w H h)(k:∀b u,h.get? b=some u->h'.get? b=some u)(hp:h.objs.size<=a)(new:ObjOk P w (upd H a o) h' a o):HOk P w (upd H a o) h':=λb u e=>by
 have hn:=x.fresh hp
 by_cases hb:b=a
 ·subst hb;rw[bx]at e;cases e;exact new
 ·rw[aY hb]at e
  exact(x b u e).G2 (λc v _ q=>k c v q) (λc q=>by rw[aY (cf q hn)];exact q) λc xs q=>by rw[aY (cf q hn)];exact q
end
def Rd (H:Hp)(a:Addr)(u:HO):Prop:=H a=some u\/∃o,H a=some (.frz o u)
theorem Rd.ok {P:IJ}{w:JA}{H:Hp}{h:Heap}{a:Addr}{u:HO}(r:Rd H a u)(x:HOk P w H h):ObjOk P w H h a u:=by
 rcases r with r | ⟨o,r⟩
 ·exact x a u r
 ·obtain⟨_,q⟩:=x a _ r
  exact q
def Gw:Option HO->Prop
 | some (.lst _)=>True
 | some (.dK _)=>True
 | some (.dT _)=>True
 | some (.set _ _)=>True
 | some (.ins _ _ _)=>True
 | some (.ext _)=>True
 | _=>False
section
variable {P:IJ}{w:JA}{H:Hp}{h h':Heap}{x e:Addr}{o':HO}
theorem HOk.write (ok:HOk P w H h)(mu:Gw (H x))(he:e=x\/H e=some (.own x))(k:∀b u,b≠e->h.get? b=some u->h'.get? b=some u)(heo:∃u,h'.get? e=some u)
  (new:ObjOk P w (upd H x o') h' x o'):HOk P w (upd H x o') h':=λb u q=>by
 have nown:∀c y,H c=some (.own y)->c≠x:=λc y r z=>by subst z;rw[r]at mu;exact mu
 have ntup:∀c xs,H c=some (.tup xs)->c≠x:=λc xs r z=>by subst z;rw[r]at mu;exact mu
 by_cases hb:b=x
 ·subst hb;rw[bx]at q;cases q;exact new
 ·rw[aY hb]at q
  by_cases hbe:b=e
  ·have q':H b=some (.own x):=by
    rcases he with z | z
    ·exact absurd (hbe.trans z) hb
    ·rw[hbe];exact z
   rw[q]at q';cases q';obtain⟨v,hv⟩:=heo;exact⟨v,by rw[hbe];exact hv⟩
  ·refine(ok b u q).G2 (λc v hc r=>k c v ?_ r) (λc r=>by rw[aY (nown c b r)];exact r) λc xs r=>by rw[aY (ntup c xs r)];exact r
   rcases hc with rfl | hc
   ·exact hbe
   ·rintro rfl
    rcases he with z | z
    ·exact nown c b hc z
    ·rw[hc]at z;cases z;exact hb rfl
end
structure Un (fs ex:List Addr)(H H':Hp)(h h':Heap):Prop where
 keep:∀b o,h.get? b=some o->H b=none->b∉fs->b∉ex->h'.get? b=some o
 slot:∀b o,h.get? b=some o->H b=none->b∈fs->b∉ex->∃sl,h'.get? b=some { o with slots:=sl }
 free:∀b o,h.get? b=some o->H b=none->b∉ex->H' b=none
 there:∀b o,h.get? b=some o->b∉ex->∃o',h'.get? b=some o'
 tups:∀b xs,H b=some (.tup xs)->H' b=some (.tup xs)
 frzs:∀b o u,H b=some (.frz o u)->H' b=some (.frz o u)
 tbls:∀b ps,H b=some (.tbl ps)->∃more,H' b=some (.tbl (ps++more))
section
variable {fs fs' ex ex':List Addr}{H H1 H2:Hp}{h h1 h2 h':Heap}{a x e:Addr}{o:HO}
theorem Un.any (u:Un fs ex H H1 h h1){b:Addr}{ob:Obj}(q:h.get? b=some ob)(n:H b=none)(hx:b∉ex):∃sl,h1.get? b=some { ob with slots:=sl }:=by
 by_cases hb:b∈fs
 ·exact u.slot b ob q n hb hx
 ·exact⟨ob.slots,u.keep b ob q n hb hx⟩
theorem Un.kept (k:∀b u,h.get? b=some u->h'.get? b=some u):Un fs ex H H h h':=
 ⟨λb ob q _ _ _=>k b ob q,λb ob q _ _ _=>⟨ob.slots,k b ob q⟩,λ_ _ _ n _=>n,λb ob q _=>⟨ob,k b ob q⟩,λ_ _ q=>q,λ_ _ _ q=>q,λ_ ps q=>⟨#[],by rw[q];simp⟩⟩
theorem Un.refl:Un fs ex H H h h:=Un.kept λ_ _ q=>q
theorem Un.laid (k:∀b u,h.get? b=some u->h'.get? b=some u)(hp:h.objs.size<=a)(hn:H a=none):Un fs ex H (upd H a o) h h' where
 keep:=λb u q _ _ _=>k b u q
 slot:=λb u q _ _ _=>⟨u.slots,k b u q⟩
 free:=λb u q n _=>by rw[aY (Js (Iu (Im q) hp))];exact n
 there:=λb u q _=>⟨u,k b u q⟩
 tups:=λb xs q=>by rw[aY (cf q hn)];exact q
 frzs:=λb u xs q=>by rw[aY (cf q hn)];exact q
 tbls:=λb ps q=>⟨#[],by rw[aY (cf q hn),q];simp⟩
theorem Un.write (mu:Gw (H x))(he:e=x\/H e=some (.own x))(k:∀b u,b≠e->h.get? b=some u->h'.get? b=some u)(heo:∃u,h'.get? e=some u):Un fs ex H (upd H x o) h h':=by
 have hx:∀b,H b=none->b≠x:=λb n z=>by subst z;rw[n]at mu;exact mu
 have hb:∀b,H b=none->b≠e:=λb n z=>by
  subst z;rcases he with r | r
  ·exact hx b n r
  ·rw[n]at r;cases r
 have hm:∀b u,H b=some u->¬ Gw (some u)->b≠x:=λb u q nm z=>by subst z;rw[q]at mu;exact nm mu
 refine⟨λb u q n _ _=>k b u (hb b n) q,λb u q n _ _=>⟨u.slots,k b u (hb b n) q⟩,λb u q n _=>by rw[aY (hx b n)];exact n,λb u q _=> ?_,
  λb xs q=>by rw[aY (hm b _ q λz=>z)];exact q,λb u xs q=>by rw[aY (hm b _ q λz=>z)];exact q,λb ps q=>⟨#[],by rw[aY (hm b _ q λz=>z),q];simp⟩⟩
 by_cases hbe:b=e
 ·subst hbe;exact heo
 ·exact⟨u,k b u hbe q⟩
end
def trk (h:Heap)(H:Hp):List Addr:=(Iw h.objs.size).filter λa=>(H a).isSome
def rE (h:Heap)(H:Hp):Heap:=OQ h (trk h H)
theorem xA (h:Heap)(H:Hp):(rE h H).objs.size=h.objs.size:=PySem.W.hideAll_size _ _
theorem zD {h:Heap}{H:Hp}{b:Addr}{o:Obj}(e:h.get? b=some o)(n:H b=none):(rE h H).get? b=some o:=
 LQ _ e λhm=>by
  have q:(H b).isSome=true:=(Lf.mp hm).2;rw[n]at q;simp at q
theorem Bx {h:Heap}{H:Hp}{b:Addr}{o:Obj}(e:(rE h H).get? b=some o):h.get? b=some o/\H b=none:=by
 have e':h.get? b=some o:=NN (trk h H) e;refine⟨e',?_⟩
 cases q:H b with
 | none=>rfl
 | some x=>
  have hm:b∈trk h H:=Lf.mpr ⟨Ji.mpr (Im e'),by simp[q]⟩
  have z:(rE h H).get? b=none:=Nt (trk h H) hm;rw[z]at e;cases e
def B8 (g h:Heap)(L:Addr):List (Addr×Obj):=(Iw h.objs.size).filterMap λa=>if a=L\/(g.get? a).isSome=true then none else(h.get? a).map λo=>(a,o)
def cP (g h:Heap)(L d:Addr):List (Addr×Obj):=(B8 g h L).filter λp=>decide (p.1≠d)
structure Mod (K:HX)(mg:Str->Option H0)(base:Heap):Prop where
 kin:K.In base
 glob:base.Ns Jf mg
 blt:∃mb,base.Ns Np mb/\∀x:Str,x≠ "__name__"->mb x=IU x
 nolimit:base.NoLimit
structure Cx where
 prog:IJ
 w:JA
 K:HX
 mg:Str->Option H0
 base:Heap
 A:Jl
 N:List Str
 s₀:Ib
 H₀:Hp
 env:Env
 outer:List Env
 stack:List Env
 ex:List Addr
 fn:Str->Bool
 calm:Bool
 pn:List (Addr×Obj)
 xe:H0->Ib->Prop
def rF (l:List Env):List Addr:=l.filterMap (·.frame)
abbrev Cx.fs (X:Cx):List Addr:=rF X.outer
def Ae (sc:LZ)(x:Str):Prop:=sc.names.lookup x=some .local\/sc.names.lookup x=some .cell\/sc.names.lookup x=some .free
def Loc (sc:LZ)(x:Str):Prop:=sc.names.lookup x=some .local\/sc.names.lookup x=some .cell
def Look (env:Env)(h:Heap)(m:Str->Option H0)(x:Str)(u:H0):Prop:=
 (env.kindOf x=some .local/\m x=some u)\/((env.kindOf x=some .cell\/env.kindOf x=some .free)/\∃c,env.cells.lookup x=some c/\h.IsCell c (some u))
structure Cx.Ok (X:Cx):Prop where
 mod:Mod X.K X.mg X.base
 kind:X.env.scope.kind= .function
 glob:X.env.globals=Jf
 blt:X.env.builtins=Np
 above:X.s₀.heap.objs.size<=X.env.locals
 inj:∀x y c,X.env.cells.lookup x=some c->X.env.cells.lookup y=some c->x=y
 has:∀x,(X.env.kindOf x=some .cell\/X.env.kindOf x=some .free)->∃c,X.env.cells.lookup x=some c
 cab:∀x c,X.fn x=true->X.env.cells.lookup x=some c->X.s₀.heap.objs.size<=c
 hd:X.calm=true->X.A.handled=none
 frames:X.A.frames=some X.stack
 stk:X.stack=X.outer\/(X.stack=X.env::X.outer/\X.env.frame=some X.env.locals)
 exf:∀b∈X.ex,b≠X.env.locals/\∀x c,X.env.cells.lookup x=some c->c≠b
 bs:∀b o,X.base.get? b=some o->X.s₀.heap.get? b=some o/\X.H₀ b=none
 bsz:X.base.objs.size<=X.s₀.heap.objs.size
 noex:∀b o,X.base.get? b=some o->b∉X.ex
 exfs:∀b∈X.ex,b∉X.fs
 funs:X.s₀.heap.FunFrames X.base X.outer
 frf:∀b∈X.fs,X.H₀ b=none
structure Inv (X:Cx)(pins:List (Addr×Obj))(σ:List (Option V))(H:Hp)(s:Ib):Prop where
 ok:X.Ok
 os:s.os=X.s₀.os
 bare:MK s.gens
 base:Un X.fs X.ex X.H₀ H X.s₀.heap s.heap
 loc:∃m,s.heap.Ns X.env.locals m/\∀(i:Nat) (x:Str) (v:V),X.N[i]? =some x->σ[i]? =some (some v)->Ae X.env.scope x->∃u,RelV v u/\Look X.env s.heap m x u
 cell:∀x c,X.env.cells.lookup x=some c->∃v,s.heap.IsCell c v
 free:H X.env.locals=none
 freeC:∀x c,X.env.cells.lookup x=some c->H c=none
 pin:∀p∈X.pn++pins,s.heap.get? p.1=some p.2/\H p.1=none/\p.1≠X.env.locals/\p.1∉X.fs/\∀v,p.2.data≠ .cell v
 hok:HOk X.prog X.w H s.heap
 len:σ.length=X.N.length
section
variable {X:Cx}{pins:List (Addr×Obj)}{σ:List (Option V)}{H H':Hp}{s:Ib}{h':Heap}
theorem Cx.Ok.HW (ok:X.Ok){b:Addr}{o:Obj}(e:X.base.get? b=some o):b∉X.fs:=λhb=>by
 have:=(ok.funs.mem hb).1;rw[e]at this;cases this
theorem Inv.bs (I:Inv X pins σ H s):∀b o,X.base.get? b=some o->s.heap.get? b=some o/\H b=none:=λb o e=>
 ⟨I.base.keep b o (I.ok.bs b o e).1 (I.ok.bs b o e).2 (I.ok.HW e) (I.ok.noex b o e),I.base.free b o (I.ok.bs b o e).1 (I.ok.bs b o e).2 (I.ok.noex b o e)⟩
theorem Inv.bk (I:Inv X pins σ H s):∀b o,X.base.get? b=some o->s.heap.get? b=some o:=λb o e=>(I.bs b o e).1
theorem Inv.mod (I:Inv X pins σ H s):Mod X.K X.mg X.base:=I.ok.mod
theorem Inv.kIn (I:Inv X pins σ H s):X.K.In s.heap:=I.ok.mod.kin.keeps I.bk
theorem Inv.lt (I:Inv X pins σ H s):X.env.locals<s.heap.objs.size:=let ⟨_,hn,_⟩:=I.loc;hn.lt
theorem Inv.sz (I:Inv X pins σ H s):X.s₀.heap.objs.size<=s.heap.objs.size:=IQ I.ok.above (KF I.lt)
theorem Inv.HR (I:Inv X pins σ H s){a:Addr}(h:s.heap.objs.size<=a):a∉X.fs:=λhb=>by
 obtain⟨_,o,ho,_⟩:=I.ok.funs.mem hb;exact absurd (Iu (Im ho) (IQ I.sz h)) (IG _)
theorem Inv.cne (I:Inv X pins σ H s):∀x c,X.env.cells.lookup x=some c->c≠X.env.locals:=λx c e z=>by
 obtain⟨v,o,ho,hd⟩:=I.cell x c e;obtain⟨m,⟨o',es,ep,ho',hd',_⟩,_⟩:=I.loc;rw[z,ho']at ho;cases ho;rw[hd']at hd;cases hd
theorem Inv.funs (I:Inv X pins σ H s):s.heap.FunFrames X.base X.outer:=by
 have all:∀(l:List Env),(∀b∈rF l,b∈X.fs)->X.s₀.heap.FunFrames X.base l->s.heap.FunFrames X.base l:=by
  intro l
  induction l with
  | nil=>intro _ _;trivial
  | cons env r ih=>
   intro hs hl;obtain⟨hk,⟨L,o,hf,hn,ho,hd⟩,hr⟩:=hl
   have hL:L∈X.fs:=hs L (by unfold rF;rw[Kp,hf];exact Ie)
   obtain⟨sl,e⟩:=I.base.slot L o ho (I.ok.frf L hL) hL λz=>I.ok.exfs L z hL
   exact⟨hk,⟨L,_,hf,hn,e,hd⟩,ih (λb hb=>hs b (by unfold rF;rw[Kp,hf];exact Ia _ hb)) hr⟩
 exact all X.outer (λ_ hb=>hb) I.ok.funs
theorem Inv.stack (I:Inv X pins σ H s):s.heap.FunFrames X.base X.stack:=by
 rcases I.ok.stk with e | ⟨e,hf⟩
 ·rw[e];exact I.funs
 ·rw[e]
  obtain⟨m,hn,_⟩:=I.loc;refine .cons (by rw[I.ok.kind];decide) hf hn ?_ I.funs
  exact Heap.get?_none_of_le (IQ I.ok.bsz I.ok.above)
theorem Inv.He (I:Inv X pins σ H s):∀b∈rF X.stack,b∈X.env.locals::X.fs:=λb hb=>by
 rcases I.ok.stk with e | ⟨e,hf⟩
 ·rw[e]at hb;exact Ia _ hb
 ·rw[e]at hb
  unfold rF at hb;rw[Kp,hf]at hb;exact hb
theorem Inv.G4 (I:Inv X pins σ H s):∀b∈rF X.stack,H b=none:=λb hb=>by
 rcases Ij.mp (I.He b hb)with e | hb
 ·rw[e];exact I.free
 ·obtain⟨_,o,ho,_⟩:=I.ok.funs.mem hb
  exact I.base.free b o ho (I.ok.frf b hb) λz=>I.ok.exfs b z hb
theorem Inv.step {g':Array GenState}{t':Nat}{d':Drawn}{ch:List Addr}(I:Inv X pins σ H s)
  (hch:∀b∈ch,(b∈X.ex\/X.s₀.heap.objs.size<=b)/\b≠X.env.locals/\(∀x c,X.env.cells.lookup x=some c->c≠b)/\∀p∈X.pn++pins,p.1≠b)
  (keep:∀b o,b≠X.env.locals->b∉X.fs->b∉ch->s.heap.get? b=some o->H b=none->h'.get? b=some o)
  (slot:∀b o,b≠X.env.locals->b∈X.fs->b∉ch->s.heap.get? b=some o->H b=none->∃sl,h'.get? b=some { o with slots:=sl }) (free:∀b o,b∉ch->s.heap.get? b=some o->H b=none->H' b=none)
  (there:∀b o,b∉ch->s.heap.get? b=some o->∃o',h'.get? b=some o')
  (tups:∀b xs,H b=some (.tup xs)->H' b=some (.tup xs)) (frzs:∀b o u,H b=some (.frz o u)->H' b=some (.frz o u)) (tbls:∀b ps,H b=some (.tbl ps)->∃more,H' b=some (.tbl (ps++more)))
  (ns:∀m,s.heap.Ns X.env.locals m->h'.Ns X.env.locals m) (hok:HOk X.prog X.w H' h') (hg:MK g') :
  Inv X pins σ H' { s with heap:=h',gens:=g',drawn:=d',toks:=t' }:=by
 have neL:∀b o,X.s₀.heap.get? b=some o->b≠X.env.locals:=λb o e=>Js (Iu (Im e) I.ok.above)
 have neC:∀b o,X.s₀.heap.get? b=some o->b∉X.ex->b∉ch:=λb o e hx hb=>by
  rcases(hch b hb).1 with z | z
  ·exact hx z
  ·exact absurd (Iu (Im e) z) (IG _)
 have cellK:∀x c,X.env.cells.lookup x=some c->∀v,s.heap.IsCell c v->h'.IsCell c v:=λx c e v hh_=>by
  obtain⟨o,ho,hd⟩:=hh_
  have nch:c∉ch:=λz=>(hch c z).2.2.1 x c e rfl
  by_cases hc:c∈X.fs
  ·obtain⟨sl,q⟩:=slot c o (I.cne x c e) hc nch ho (I.freeC x c e)
   exact⟨_,q,hd⟩
  ·exact⟨o,keep c o (I.cne x c e) hc nch ho (I.freeC x c e),hd⟩
 refine⟨I.ok,I.os,hg,⟨λb o e n hb hx=> ?_,λb o e n hb hx=> ?_,λb o e n hx=> ?_,λb o e hx=> ?_,λb xs e=>tups b xs (I.base.tups b xs e),λb o xs e=>frzs b o xs (I.base.frzs b o xs e),λb ps e=> ?_⟩,?_,λx c e=> ?_,?_,λx c e=> ?_,λp hp=> ?_,hok,I.len⟩
 ·exact keep b o (neL b o e) hb (neC b o e hx) (I.base.keep b o e n hb hx) (I.base.free b o e n hx)
 ·obtain⟨sl,e1⟩:=I.base.slot b o e n hb hx
  obtain⟨sl',e2⟩:=slot b _ (neL b o e) hb (neC b o e hx) e1 (I.base.free b o e n hx);exact⟨sl',e2⟩
 ·obtain⟨o',e1⟩:=I.base.there b o e hx
  exact free b o' (neC b o e hx) e1 (I.base.free b o e n hx)
 ·obtain⟨o',e1⟩:=I.base.there b o e hx
  exact there b o' (neC b o e hx) e1
 ·obtain⟨m1,e1⟩:=I.base.tbls b ps e
  obtain⟨m2,e2⟩:=tbls b _ e1;exact⟨m1++m2,by rw[e2,Array.append_assoc]⟩
 ·obtain⟨m,hn,hl⟩:=I.loc
  refine⟨m,ns m hn,λi x v e1 e2 e3=> ?_⟩
  obtain⟨u,r,l⟩:=hl i x v e1 e2 e3;refine⟨u,r,?_⟩
  rcases l with l | ⟨k,c,e,z⟩
  ·exact .inl l
  ·exact .inr ⟨k,c,e,cellK x c e _ z⟩
 ·obtain⟨v,z⟩:=I.cell x c e
  exact⟨v,cellK x c e v z⟩
 ·obtain⟨m,⟨o,_,_,ho,_⟩,_⟩:=I.loc
  exact free _ o (λz=>(hch _ z).2.1 rfl) ho I.free
 ·obtain⟨v,o,ho,hd⟩:=I.cell x c e
  exact free c o (λz=>(hch c z).2.2.1 x c e rfl) ho (I.freeC x c e)
 ·obtain⟨e,n,ne,nf,d⟩:=I.pin p hp
  have nch:p.1∉ch:=λz=>(hch p.1 z).2.2.2 p hp rfl
  exact⟨keep p.1 p.2 ne nf nch e n,free p.1 p.2 nch e n,ne,nf,d⟩
theorem Inv.un {t':Nat}(I:Inv X pins σ H s)(u:Un X.fs [] H H' s.heap h')(hok:HOk X.prog X.w H' h'):Inv X pins σ H' { s with heap:=h',toks:=t' }:=by
 obtain⟨m,⟨o,es,ep,ho,r⟩,_⟩:=id I.loc;obtain⟨sl,hL⟩:=u.any ho I.free (by simp)
 exact I.step (g':=s.gens) (d':=s.drawn) (ch:=[]) (λ_ z=>nomatch z) (λb o _ hb _ e n=>u.keep b o e n hb (by simp)) (λb o _ hb _ e n=>u.slot b o e n hb (by simp)) (λb o _ e n=>u.free b o e n (by simp)) (λb o _ e=>u.there b o e (by simp)) u.tups u.frzs u.tbls (λm' hm=>by
  obtain⟨o',es',ep',ho',r'⟩:=hm;rw[ho]at ho';cases ho';exact⟨_,es',ep',hL,r'⟩) hok I.bare
theorem Inv.call {g':Array GenState}{t':Nat}{d':Drawn}{ch:List Addr}(I:Inv X pins σ H s)(u:Un (rF X.stack) ch H H' s.heap h')(hok:HOk X.prog X.w H' h')(hg:MK g')
  (hch:∀b∈ch,(b∈X.ex\/X.s₀.heap.objs.size<=b)/\b≠X.env.locals/\(∀x c,X.env.cells.lookup x=some c->c≠b)/\∀p∈X.pn++pins,p.1≠b) :
  Inv X pins σ H' { s with heap:=h',gens:=g',drawn:=d',toks:=t' }:=by
 obtain⟨m,⟨o,es,ep,ho,r⟩,_⟩:=id I.loc;obtain⟨sl,hL⟩:=u.any ho I.free λz=>(hch _ z).2.1 rfl
 exact I.step (ch:=ch) hch (λb o hL hb hc e n=>u.keep b o e n (λz=>(Ij.mp (I.He b z)).elim hL hb) hc) (λb o _ _ hc e n=>u.any e n hc) (λb o hc e n=>u.free b o e n hc) (λb o hc e=>u.there b o e hc) u.tups u.frzs u.tbls (λm' hm=>by
  obtain⟨o',es',ep',ho',r'⟩:=hm;rw[ho]at ho';cases ho';exact⟨_,es',ep',hL,r'⟩) hok hg
theorem Inv.turned {t':Nat}{it:Addr}(I:Inv X pins σ H s)(k:∀b o,b≠it->s.heap.get? b=some o->h'.get? b=some o)(hn:H it=none)(hL:it≠X.env.locals)
  (h1:it∈X.ex\/X.s₀.heap.objs.size<=it) (h2:∀x c,X.env.cells.lookup x=some c->c≠it) (h3:∀p∈X.pn++pins,p.1≠it):Inv X pins σ H { s with heap:=h',toks:=t' }:=by
 have nit:∀b u,H b=some u->b≠it:=λb u e z=>by rw[z,hn]at e;cases e
 refine I.step (g':=s.gens) (d':=s.drawn) (ch:=[it]) (λb hb=> ?_) (λb o _ _ hc e _=>k b o (λz=>hc (by simp[z])) e) (λb o _ _ hc e _=>⟨o.slots,k b o (λz=>hc (by simp[z])) e⟩) (λ_ _ _ _ n=>n)
  (λb o hc e=>⟨o,k b o (λz=>hc (by simp[z])) e⟩) (λ_ _ e=>e) (λ_ _ _ e=>e) (λb ps e=>⟨#[],by rw[e];simp⟩) (λm hm=> ?_) (λb u e=> ?_) I.bare
 ·have e:b=it:=by simpa using hb
  subst e;exact⟨h1,hL,h2,h3⟩
 ·obtain⟨o,es,ep,ho,r⟩:=hm
  exact⟨o,es,ep,k _ o (K5 hL) ho,r⟩
 ·refine(I.hok b u e).G2 (λc v hc q=>k c v ?_ q) (λ_ q=>q) λ_ _ q=>q
  rcases hc with z | z
  ·rw[z];exact nit b u e
  ·exact nit c _ z
theorem Inv.tok (I:Inv X pins σ H s)(t:Nat):Inv X pins σ H { s with toks:=t }:=I.un (h':=s.heap) (t':=t) Un.refl I.hok
theorem Inv.kept {t':Nat}(I:Inv X pins σ H s)(k:∀b u,s.heap.get? b=some u->h'.get? b=some u):Inv X pins σ H { s with heap:=h',toks:=t' }:=I.un (Un.kept k) (I.hok.kept k)
theorem Inv.laid {a:Addr}{o:HO}{t':Nat}(I:Inv X pins σ H s)(k:∀b u,s.heap.get? b=some u->h'.get? b=some u)(hp:s.heap.objs.size<=a)(new:ObjOk X.prog X.w (upd H a o) h' a o) :
  Inv X pins σ (upd H a o) { s with heap:=h',toks:=t' }:=I.un (Un.laid k hp (I.hok.fresh hp)) (I.hok.laid k hp new)
theorem Inv.write {x e:Addr}{o:HO}{t':Nat}(I:Inv X pins σ H s)(mu:Gw (H x))(he:e=x\/H e=some (.own x))(k:∀b u,b≠e->s.heap.get? b=some u->h'.get? b=some u)(heo:∃u,h'.get? e=some u)
  (new:ObjOk X.prog X.w (upd H x o) h' x o):Inv X pins σ (upd H x o) { s with heap:=h',toks:=t' }:=I.un (Un.write mu he k heo) (I.hok.write mu he k heo new)
theorem Inv.Hj {pins':List (Addr×Obj)}(I:Inv X pins σ H s)(h:∀p∈pins',s.heap.get? p.1=some p.2/\H p.1=none/\p.1≠X.env.locals/\p.1∉X.fs/\∀v,p.2.data≠ .cell v):Inv X pins' σ H s:=
 ⟨I.ok,I.os,I.bare,I.base,I.loc,I.cell,I.free,I.freeC,λp hp=>(IB.mp hp).elim (λz=>I.pin p (Ja _ z)) (h p),I.hok,I.len⟩
theorem tj {N:List Str}(hN:N.Nodup){i j:Nat}{x:Str}(a:N[i]? =some x)(b:N[j]? =some x):i=j:=by
 obtain⟨h1,e1⟩:=IC.mp a
 obtain⟨h2,e2⟩:=IC.mp b
 exact(List.getElem_inj hN).mp (e1.trans e2.symm)
theorem pw {M:Model}{A:Jl}{E:H0->Ib->Prop}{i:Nat}{x:Str}{v:V}{u:H0}{Q:Unit->Ib->Prop}(I:Inv X pins σ H s)(hN:X.N.Nodup)(hi:X.N[i]? =some x)(hx:Loc X.env.scope x)(r:RelV v u)
  (h:∀s',Inv X pins (σ.set i (some v)) H s'->(∃a,KD a s.heap s'.heap/\(a=X.env.locals\/X.env.cells.lookup x=some a))->Q () s') (hf:X.fn x=true\/X.env.scope.names.lookup x=some .local:=by first | exact .inl rfl | exact .inr rfl | assumption):wpAny M A (storeName X.env x u) Q E s:=by
 obtain⟨m,hn,hl⟩:=id I.loc
 have hcls:(X.env.scope.kind == .class||(X.env.scope.kind == .module&&X.env.locals != X.env.globals))=false:=by rw[I.ok.kind];rfl
 have hiσ:i<σ.length:=by rw[I.len];exact(IC.mp hi).1
 have cne:=I.cne
 have tracked:∀{a:Addr} {h':Heap},(∃o,s.heap.get? a=some o/\H a=none)->KD a s.heap h'->HOk X.prog X.w H h':=λ{a h'} ha hs b ob e=>by
  obtain⟨_,_,hfree⟩:=ha;refine(I.hok b ob e).G2 (λc w' hc q=>(hs.2 c ?_).trans q) (λ_ q=>q) λ_ _ q=>q
  rintro rfl
  rcases hc with rfl | hc
  ·rw[hfree]at e;cases e
  ·rw[hfree]at hc;cases hc
 rcases hx with hk | hk
 ·refine wpAny_storeName_local hk hn (λh' hn' hs=> ?_) hcls
  obtain⟨oL,_,_,hoL,_⟩:=id hn;refine h _ ⟨I.ok,I.os,I.bare,⟨λb o e n hb hx=> ?_,λb o e n hb hx=> ?_,I.base.free,λb o e hx=> ?_,I.base.tups,I.base.frzs,I.base.tbls⟩,⟨_,hn',λj y v' e1 e2 e3=> ?_⟩,λy c e=> ?_,I.free,I.freeC,λp hp=> ?_,tracked ⟨oL,hoL,I.free⟩ hs,by simpa using I.len⟩ ⟨_,hs,.inl rfl⟩
  ·exact(hs.2 b (Js (Iu (Im e) I.ok.above))).trans (I.base.keep b o e n hb hx)
  ·obtain⟨sl,e1⟩:=I.base.slot b o e n hb hx
   exact⟨sl,(hs.2 b (Js (Iu (Im e) I.ok.above))).trans e1⟩
  ·obtain⟨o',e1⟩:=I.base.there b o e hx
   exact⟨o',(hs.2 b (Js (Iu (Im e) I.ok.above))).trans e1⟩
  ·by_cases hj:j=i
   ·subst hj
    rw[hi]at e1;cases e1;rw[IP hiσ]at e2
    cases e2;exact⟨u,r,.inl ⟨hk,by simp⟩⟩
   ·rw[IL (K5 hj)]at e2
    obtain⟨u',r',q⟩:=hl j y v' e1 e2 e3;refine⟨u',r',?_⟩
    rcases q with⟨k,e⟩ | ⟨k,c,e,z⟩
    ·refine .inl ⟨k,?_⟩
     have:y≠x:=λe=>hj (tj hN e1 (e▸hi))
     simp[this,e]
    ·exact .inr ⟨k,c,e,z.sameBut hs (cne y c e)⟩
  ·obtain⟨w',z⟩:=I.cell y c e
   exact⟨w',z.sameBut hs (cne y c e)⟩
  ·obtain⟨e,n,ne,nf,d⟩:=I.pin p hp
   exact⟨(hs.2 p.1 ne).trans e,n,ne,nf,d⟩
 ·have hfn:X.fn x=true:=by
   rcases hf with z | z
   ·exact z
   ·rw[z]at hk;cases hk
  obtain⟨c,hc⟩:=I.ok.has x (.inl hk);obtain⟨w',z⟩:=I.cell x c hc;refine wpAny_storeName_cell I.ok.kind hk hc z (λh' hc' hs=> ?_)
  obtain⟨oc,hoc,hocd⟩:=id z;refine h { s with heap:=h' } ⟨I.ok,I.os,I.bare,⟨λb o e n hb hx=> ?_,λb o e n hb hx=> ?_,I.base.free,λb o e hx=> ?_,I.base.tups,I.base.frzs,I.base.tbls⟩,⟨m,hn.sameBut hs (K5 (cne x c hc)),λj y v' e1 e2 e3=> ?_⟩,λy c' e=> ?_,I.free,I.freeC,λp hp=> ?_,tracked ⟨oc,hoc,I.freeC x c hc⟩ hs,by simpa using I.len⟩ ⟨c,hs,.inr hc⟩
  ·exact(hs.2 b (Js (Iu (Im e) (I.ok.cab x c hfn hc)))).trans (I.base.keep b o e n hb hx)
  ·obtain⟨sl,e1⟩:=I.base.slot b o e n hb hx
   exact⟨sl,(hs.2 b (Js (Iu (Im e) (I.ok.cab x c hfn hc)))).trans e1⟩
  ·obtain⟨o',e1⟩:=I.base.there b o e hx
   exact⟨o',(hs.2 b (Js (Iu (Im e) (I.ok.cab x c hfn hc)))).trans e1⟩
  ·by_cases hj:j=i
   ·subst hj
    rw[hi]at e1;cases e1;rw[IP hiσ]at e2
    cases e2;exact⟨u,r,.inr ⟨.inl hk,c,hc,hc'⟩⟩
   ·rw[IL (K5 hj)]at e2
    obtain⟨u',r',q⟩:=hl j y v' e1 e2 e3;refine⟨u',r',?_⟩
    rcases q with q | ⟨k,c',e,z'⟩
    ·exact .inl q
    ·refine .inr ⟨k,c',e,z'.sameBut hs ?_⟩
     rintro rfl
     exact hj (tj hN e1 (I.ok.inj _ _ _ e hc▸hi))
  ·by_cases hcc:c'=c
   ·subst hcc;exact⟨_,hc'⟩
   ·obtain⟨w2,z2⟩:=I.cell y c' e
    exact⟨w2,z2.sameBut hs hcc⟩
  ·obtain⟨e,n,ne,nf,d⟩:=I.pin p hp
   refine⟨(hs.2 p.1 ?_).trans e,n,ne,nf,d⟩
   intro q;rw[q,hoc]at e
   have q':oc=p.2:=IX e;exact d w' (by rw[<-q'];exact hocd)
theorem sr {M:Model}{A:Jl}{E:H0->Ib->Prop}{i:Nat}{x:Str}{v:V}{u:H0}{Q:Unit->Ib->Prop}(I:Inv X pins σ H s)(hN:X.N.Nodup)(hi:X.N[i]? =some x)(hx:Loc X.env.scope x)(r:RelV v u)
  (h:∀s',Inv X pins (σ.set i (some v)) H s'->Q () s') (hf:X.fn x=true\/X.env.scope.names.lookup x=some .local:=by first | exact .inl rfl | exact .inr rfl | assumption):wpAny M A (storeName X.env x u) Q E s:=
 pw I hN hi hx r (λs' I' _=>h s' I') hf
theorem Inv.Hw {s':Ib}{ch:List Addr}(I:Inv X pins σ H s)(ho:s'.os=s.os)(u:Un (rF X.stack) ch H H' s.heap s'.heap)(hok:HOk X.prog X.w H' s'.heap)(hg:MK s'.gens)
  (hch:∀b∈ch,(b∈X.ex\/X.s₀.heap.objs.size<=b)/\b≠X.env.locals/\(∀x c,X.env.cells.lookup x=some c->c≠b)/\∀p∈X.pn++pins,p.1≠b):Inv X pins σ H' s':=by
 obtain⟨h',g',d',t',o'⟩:=s'
 have e:o'=s.os:=ho;subst e;exact I.call (g':=g') (t':=t') (d':=d') u hok hg hch
end
abbrev XK:=H0->Option Addr->Hp->Prop
abbrev St:=List (Option V)
abbrev VK:=V->Hp->Prop
abbrev TE:=St->Hp->VK->Prop
abbrev TT:=St->Hp->(Bool->Hp->Prop)->Prop
abbrev TA:=St->Hp->(List V->Hp->Prop)->Prop
structure r9 where
 nx:St->Hp->Prop
 rt:VK
 bk:St->Hp->Prop:=λ_ _=>False
 ct:St->Hp->Prop:=λ_ _=>False
abbrev TS:=r9->St->Hp->Prop
def EP (X:Cx)(pins:List (Addr×Obj))(σ:St)(Q:VK)(u:H0)(s':Ib):Prop:=∃v H',Inv X pins σ H' s'/\RelV v u/\Q v H'
def TP (X:Cx)(pins:List (Addr×Obj))(σ:St)(Q:Bool->Hp->Prop)(b:Bool)(s':Ib):Prop:=∃H',Inv X pins σ H' s'/\Q b H'
def AP (X:Cx)(pins:List (Addr×Obj))(σ:St)(Q:List V->Hp->Prop)(us:List H0)(s':Ib):Prop:=∃vs H',Inv X pins σ H' s'/\Vals vs us/\Q vs H'
def SP (X:Cx)(pins:List (Addr×Obj))(D:r9)(f:Flow)(s':Ib):Prop:=
 match f with
 | .next=> ∃σ' H',Inv X pins σ' H' s'/\D.nx σ' H'
 | .brk=> ∃σ' H',Inv X pins σ' H' s'/\D.bk σ' H'
 | .cont=> ∃σ' H',Inv X pins σ' H' s'/\D.ct σ' H'
 | .ret u=> ∃v σ' H',Inv X pins σ' H' s'/\RelV v u/\D.rt v H'
def PE (X:Cx)(e:Expr)(t:TE):Prop:=
 ∀(pins:List (Addr×Obj)) (s:Ib) (σ:St) (H:Hp) (Q:VK),Inv X pins σ H s->t σ H Q->wpAny (model X.prog X.w) X.A (eval e X.env) (EP X pins σ Q) X.xe s
def PT (X:Cx)(e:Expr)(t:TT):Prop:=
 ∀(pins:List (Addr×Obj)) (s:Ib) (σ:St) (H:Hp) (Q:Bool->Hp->Prop),Inv X pins σ H s->t σ H Q->wpAny (model X.prog X.w) X.A (isTrue e X.env (eval e X.env)) (TP X pins σ Q) X.xe s
def PW (X:Cx)(e:Expr)(t:TT):Prop:=
 ∀(whole:Sem H0) (pins:List (Addr×Obj)) (s:Ib) (σ:St) (H:Hp) (Q:Bool->Hp->Prop),Inv X pins σ H s->t σ H Q->wpAny (model X.prog X.w) X.A (isTrue e X.env whole) (TP X pins σ Q) X.xe s
theorem PW.pt {X:Cx}{e:Expr}{t:TT}(h:PW X e t):PT X e t:=h _
def PA (X:Cx)(es:List Expr)(t:TA):Prop:=
 ∀(pos:Pos) (pins:List (Addr×Obj)) (s:Ib) (σ:St) (H:Hp) (Q:List V->Hp->Prop),Inv X pins σ H s->t σ H Q->wpAny (model X.prog X.w) X.A (spliced (backTo pos (IA es X.env))) (AP X pins σ Q) X.xe s
def PS (X:Cx)(st:Stmt)(t:TS):Prop:=
 ∀(pins:List (Addr×Obj)) (s:Ib) (σ:St) (H:Hp) (D:r9),Inv X pins σ H s->t D σ H->wpAny (model X.prog X.w) X.A (exec st X.env) (SP X pins D) X.xe s
def PSs (X:Cx)(st:List Stmt)(t:TS):Prop:=
 ∀(pins:List (Addr×Obj)) (s:Ib) (σ:St) (H:Hp) (D:r9),Inv X pins σ H s->t D σ H->wpAny (model X.prog X.w) X.A (execs st X.env) (SP X pins D) X.xe s
theorem cp {α:Type}{t:Sem α}{Q Q':α->Ib->Prop}{M:Model}{A:Jl}{E:H0->Ib->Prop}{s:Ib}(h:wpAny M A t Q E s)(hQ:∀a s,Q a s->Q' a s):wpAny M A t Q' E s:=La h hQ λ_ _ x=>x
section
variable {X:Cx}
def tVar (i:Nat):TE:=λσ H Q=> ∃v,σ[i]? =some (some v)/\Q v H
def tC (v:V):TE:=λ_ H Q=>Q v H
theorem qI {i:Nat}{x:Str}{pos:Pos}(hN:X.N[i]? =some x)(hv:Ae X.env.scope x)(hd:iV x:=by decide)(hcd:(x == ("__classdict__" : Str))=false:=by decide):PE X (.Name x pos) (tVar i):=by
 intro pins s σ H Q I h;obtain⟨v,e,h⟩:=h;obtain⟨m,hn,hl⟩:=I.loc;obtain⟨u,r,l⟩:=hl i x v hN e hv
 have fin:EP X pins σ Q u s:=⟨v,H,I,r,h⟩;rcases l with⟨hk,hm⟩ | ⟨hk,c,hc,hcell⟩
 ·exact wpAny_Name (wpAny_loadName_local I.ok.kind hk hn hm fin) hd
 ·rcases hk with hk | hk
  ·exact wpAny_Name (wpAny_loadName_cell I.ok.kind hk hc hcell fin) hd
  ·exact wpAny_Name (wpAny_loadName_free I.ok.kind hk hc hcell fin hcd) hd
theorem yK {i j pos}:PE X (.Constant (.int i) j pos) (tC (.int i)):=λ_ _ _ H _ I h=>wpAny_Constant_int ⟨.int i,H,I.tok _,⟨_,rfl⟩,h⟩
theorem FG {b j pos}:PE X (.Constant (.bool b) j pos) (tC (.bl b)):=λ_ _ _ H _ I h=>Constant_bool ⟨.bl b,H,I,rfl,h⟩
theorem DD {j pos}:PE X (.Constant .none j pos) (tC .non):=λ_ _ _ H _ I h=>Constant_none ⟨.non,H,I,rfl,h⟩
def Gl (X:Cx)(x:Str):Prop:=X.env.kindOf x=some .globalImplicit
theorem kQ {E:H0->Ib->Prop}{pins:List (Addr×Obj)}{s:Ib}{σ:St}{H:Hp}{x:Str}{u:H0}{pos:Pos}{Q:H0->Ib->Prop}(I:Inv X pins σ H s)(hg:Gl X x)(hm:X.mg x=some u)(h:Q u s)
  (hd:iV x:=by decide):wpAny (model X.prog X.w) X.A (eval (.Name x pos) X.env) Q E s:=
 Ma I.ok.kind hg (Calls.loadGlobal_global (by rw[I.ok.glob];exact I.mod.glob.keeps I.bk) hm h) hd
theorem fF {E:H0->Ib->Prop}{pins:List (Addr×Obj)}{s:Ib}{σ:St}{H:Hp}{x:Str}{u:H0}{pos:Pos}{Q:H0->Ib->Prop}(I:Inv X pins σ H s)(hg:Gl X x)(hm:X.mg x=none)(hv:IU x=some u)(h:Q u s)
  (hn:x≠ "__name__":=by decide) (hd:iV x:=by decide):wpAny (model X.prog X.w) X.A (eval (.Name x pos) X.env) Q E s:=by
 obtain⟨mb,h1,h2⟩:=I.mod.blt;exact Ma I.ok.kind hg (Calls.loadGlobal_builtin (by rw[I.ok.glob];exact I.mod.glob.keeps I.bk) hm (by rw[I.ok.blt];exact h1.keeps I.bk) ((h2 x hn).trans hv) h) hd
theorem Bq {x:Str}{v:V}{u:H0}{pos:Pos}(hg:Gl X x)(hm:X.mg x=some u)(r:RelV v u)(hd:iV x:=by decide):PE X (.Name x pos) (tC v):=
 λ_ _ _ H _ I h=>kQ I hg hm ⟨v,H,I,r,h⟩ hd
theorem Bs {x:Str}{v:V}{u:H0}{pos:Pos}(hg:Gl X x)(hm:X.mg x=none)(hv:IU x=some u)(r:RelV v u)(hn:x≠ "__name__":=by decide)(hd:iV x:=by decide):PE X (.Name x pos) (tC v):=
 λ_ _ _ H _ I h=>fF I hg hm hv ⟨v,H,I,r,h⟩ hn hd
variable {a b:Expr}{ta tb:TE}{pos:Pos}
def tB (t:TE):TT:=λσ H Q=>t σ H λx H1=> ∃c,x= .bl c/\Q c H1
theorem Ds {e:Expr}{t:TE}(h:PE X e t)(he:∀whole,isTrue e X.env whole=(do let v <-whole;standAt e.pos;holding [v] (truthy v)):=by intro _;rfl):PT X e (tB t):=by
 intro pins s σ H Q I hw;refine isTrue_plain (cp (h pins s σ H _ I hw) λv s1 ⟨x,H1,I1,r1,q1⟩=> ?_) (he _)
 obtain⟨d,rfl,q⟩:=q1;cases r1;exact Jp ⟨H1,I1,q⟩
variable {tA tB':TT}{cP:List Expr}
def tAnd (t u:TT):TT:=λσ H Q=>t σ H λc H1=>if c=true then u σ H1 Q else Q false H1
def tOr (t u:TT):TT:=λσ H Q=>t σ H λc H1=>if c=true then Q true H1 else u σ H1 Q
def tNot (t:TT):TT:=λσ H Q=>t σ H λc H1=>Q (!c) H1
theorem A9 (ha:PT X a tA):PW X (.BoolOp .And [a] pos) tA:=by
 intro wh pins s σ H Q I h;refine isTrue_and (cp (ha pins s σ H Q I h) λc s1 e=> ?_)
 cases c with
 | true=>exact isTrue_and_nil e
 | false=>exact e
theorem Dq (ha:PT X a tA):PW X (.BoolOp .Or [a] pos) tA:=by
 intro wh pins s σ H Q I h;refine isTrue_or (cp (ha pins s σ H Q I h) λc s1 e=> ?_)
 cases c with
 | false=>exact isTrue_or_nil e
 | true=>exact e
theorem Dr (ha:PT X a tA)(hb:PW X (.BoolOp .And (b::cP) pos) tB'):PW X (.BoolOp .And (a::b::cP) pos) (tAnd tA tB'):=by
 intro wh pins s σ H Q I h;refine isTrue_and (cp (ha pins s σ H _ I h) λc s1 hh_=> ?_)
 obtain⟨H1,I1,q1⟩:=hh_
 cases c with
 | true=>exact hb wh pins s1 σ H1 Q I1 q1
 | false=>exact⟨H1,I1,q1⟩
theorem FA (ha:PT X a tA)(hb:PW X (.BoolOp .Or (b::cP) pos) tB'):PW X (.BoolOp .Or (a::b::cP) pos) (tOr tA tB'):=by
 intro wh pins s σ H Q I h;refine isTrue_or (cp (ha pins s σ H _ I h) λc s1 hh_=> ?_)
 obtain⟨H1,I1,q1⟩:=hh_
 cases c with
 | true=>exact⟨H1,I1,q1⟩
 | false=>exact hb wh pins s1 σ H1 Q I1 q1
theorem Dt (ha:PT X a tA):PT X (.UnaryOp .Not a pos) (tNot tA):=by
 intro pins s σ H Q I h;exact isTrue_not (ha pins s σ H (λc H1=>Q (!c) H1) I h)
def EY (ta tb:TE):TE:=λσ H Q=>ta σ H λx H1=> ∃c,x= .bl c/\if c=true then tb σ H1 Q else Q (.bl false) H1
def tOrV (ta tb:TE):TE:=λσ H Q=>ta σ H λx H1=> ∃c,x= .bl c/\if c=true then Q (.bl true) H1 else tb σ H1 Q
def EN (ta:TE):TE:=λσ H Q=>ta σ H λx H1=> ∃c,x= .bl c/\Q (.bl (!c)) H1
theorem DB {op}{t:TE}(h:PE X a t):PE X (.BoolOp op [a] pos) t:=λpins s σ H Q I hw=>BoolOp_one (h pins s σ H Q I hw)
theorem DF (ha:PE X a ta)(hb:PE X (.BoolOp .And (b::cP) pos) tb):PE X (.BoolOp .And (a::b::cP) pos) (EY ta tb):=by
 intro pins s σ H Q I h;refine BoolOp_and (cp (ha pins s σ H _ I h) λv s1 hh_=> ?_)
 obtain⟨x,H1,I1,r1,q1⟩:=hh_;obtain⟨c,rfl,q1⟩:=q1;cases r1;refine Jp ?_
 cases c with
 | true=>exact hb pins s1 σ H1 Q I1 q1
 | false=>exact⟨.bl false,H1,I1,rfl,q1⟩
theorem FF (ha:PE X a ta)(hb:PE X (.BoolOp .Or (b::cP) pos) tb):PE X (.BoolOp .Or (a::b::cP) pos) (tOrV ta tb):=by
 intro pins s σ H Q I h;refine BoolOp_or (cp (ha pins s σ H _ I h) λv s1 hh_=> ?_)
 obtain⟨x,H1,I1,r1,q1⟩:=hh_;obtain⟨c,rfl,q1⟩:=q1;cases r1;refine Jp ?_
 cases c with
 | false=>exact hb pins s1 σ H1 Q I1 q1
 | true=>exact⟨.bl true,H1,I1,rfl,q1⟩
theorem DC (ha:PE X a ta):PE X (.UnaryOp .Not a pos) (EN ta):=by
 intro pins s σ H Q I h;refine UnaryOp_ (cp (ha pins s σ H _ I h) λv s1 hh_=> ?_)
 obtain⟨x,H1,I1,r1,q1⟩:=hh_;obtain⟨c,rfl,q1⟩:=q1;cases r1;exact not_of (Jp ⟨.bl (!c),H1,I1,rfl,q1⟩)
def tIf (t:TT)(ta tb:TE):TE:=λσ H Q=>t σ H λc H1=>if c=true then ta σ H1 Q else tb σ H1 Q
theorem yL {c:Expr}(hc:PT X c tA)(ha:PE X a ta)(hb:PE X b tb):PE X (.IfExp c a b pos) (tIf tA ta tb):=by
 intro pins s σ H Q I h;refine wpAny_IfExp (cp (hc pins s σ H _ I h) λd s1 hh_=> ?_)
 obtain⟨H1,I1,q1⟩:=hh_
 cases d with
 | true=>exact ha pins s1 σ H1 Q I1 q1
 | false=>exact hb pins s1 σ H1 Q I1 q1
end
def SqL (K:HX)(H:Hp)(a:Addr)(xs:List V):Prop:=
 Rd H a (.lst xs) ∨
  ∃(o:Obj) (its:Array H0) (n:Nat),K.lookup a=some o/\o.cls= .type "list"/\o.dict=none/\o.data= .seq its n/\its.size<=sizeLine/\Vals xs its.toList
def SqT (K:HX)(H:Hp)(a:Addr)(xs:List V):Prop:=
 Rd H a (.tup xs) ∨
  ∃(o:Obj) (its:Array H0) (n:Nat),K.lookup a=some o/\o.cls= .type "tuple"/\o.data= .seq its n/\its.size<=sizeLine/\Vals xs its.toList
def absV:H0->Option V
 | .none=>some .non
 | .bool b=>some (.bl b)
 | .int i _=>some (.int i)
 | .str x _=>some (.str x)
 | .bytes b _=>some (.byt b)
 | .float b _=>some (.flt b)
 | .ref a=>some (.ref a)
 | .type n=>some (.ty n)
 | _=>none
theorem RelV.abs {x:V}{u:H0}(r:RelV x u):absV u=some x:=by
 cases x with
 | non=>cases r;rfl
 | bl _=>cases r;rfl
 | int _=>obtain⟨t,rfl⟩:=r;rfl
 | str _=>obtain⟨t,rfl⟩:=r;rfl
 | byt _=>obtain⟨t,rfl⟩:=r;rfl
 | flt _=>obtain⟨t,rfl⟩:=r;rfl
 | ref _=>cases r;rfl
 | ty _=>cases r;rfl
theorem RelV.inj {x y:V}{u:H0}(r:RelV x u)(q:RelV y u):x=y:=IX (r.abs.symm.trans q.abs)
theorem Vals.inj:∀{xs ys:List V} {us:List H0},Vals xs us->Vals ys us->xs=ys
 | _,_,_,.nil,.nil=>rfl
 | _,_,_,.cons r t,.cons r' t'=>by rw[r.inj r',Vals.inj t t']
section
variable {X:Cx}{pins:List (Addr×Obj)}{σ:St}{H:Hp}{s:Ib}{a:Addr}{xs ys:List V}
theorem SqL.of {K:HX}(h:H a=some (.lst xs)):SqL K H a xs:=.inl (.inl h)
theorem SqT.of {K:HX}(h:H a=some (.tup xs)):SqT K H a xs:=.inl (.inl h)
theorem Inv.list (I:Inv X pins σ H s)(h:SqL X.K H a xs):∃its:List H0,Vals xs its/\PlainL s.heap a its.toArray/\xs.length<=sizeLine:=by
 rcases h with h | ⟨o,its,n,hk,hc,hd,hs,hz,r⟩
 ·obtain⟨z,its,n,r,e⟩:=h.ok I.hok
  exact⟨its,r,⟨_,n,e,rfl,rfl,rfl⟩,z⟩
 ·refine⟨its.toList,r,⟨o,n,I.kIn a o hk,hc,hd,by simpa using hs⟩,?_⟩
  have e:=r.length;simp only[LS]at e;omega
theorem Inv.tuple (I:Inv X pins σ H s)(h:SqT X.K H a xs):∃its:List H0,Vals xs its/\Pf s.heap a its.toArray/\xs.length<=sizeLine:=by
 rcases h with h | ⟨o,its,n,hk,hc,hs,hz,r⟩
 ·obtain⟨z,its,r,p⟩:=h.ok I.hok
  exact⟨its,r,p,z⟩
 ·refine⟨its.toList,r,⟨o,I.kIn a o hk,hc,n,by simpa using hs⟩,?_⟩
  have e:=r.length;simp only[LS]at e;omega
theorem Inv.G8 (I:Inv X pins σ H s)(h:SqL X.K H a xs)(h':SqL X.K H a ys):xs=ys:=by
 obtain⟨its,r,⟨o,n,e,_,_,d⟩,_⟩:=I.list h;obtain⟨its',r',⟨o',n',e',_,_,d'⟩,_⟩:=I.list h';rw[e]at e';cases e';rw[d]at d';injection d' with d1 _
 have:its=its':=by simpa using congrArg Me d1
 subst this;exact r.inj r'
theorem Inv.G3 (I:Inv X pins σ H s)(h:SqT X.K H a xs)(h':SqT X.K H a ys):xs=ys:=by
 obtain⟨its,r,⟨o,e,_,n,d⟩,_⟩:=I.tuple h;obtain⟨its',r',⟨o',e',_,n',d'⟩,_⟩:=I.tuple h';rw[e]at e';cases e';rw[d]at d';injection d' with d1 _
 have:its=its':=by simpa using congrArg Me d1
 subst this;exact r.inj r'
end
abbrev Cx.FM (X:Cx)(E:H0->Ib->Prop):Cx:={ X with xe:=E }
abbrev Cx.nox (X:Cx):Cx:=X.FM λ_ _=>False
theorem Cx.Ok.FM {X:Cx}(ok:X.Ok)(E:H0->Ib->Prop):(X.FM E).Ok:=
 ⟨ok.mod,ok.kind,ok.glob,ok.blt,ok.above,ok.inj,ok.has,ok.cab,ok.hd,ok.frames,ok.stk,ok.exf,ok.bs,ok.bsz,ok.noex,ok.exfs,ok.funs,ok.frf⟩
theorem Cx.Ok.GT {X:Cx}{E:H0->Ib->Prop}(ok:(X.FM E).Ok):X.Ok:=
 ⟨ok.mod,ok.kind,ok.glob,ok.blt,ok.above,ok.inj,ok.has,ok.cab,ok.hd,ok.frames,ok.stk,ok.exf,ok.bs,ok.bsz,ok.noex,ok.exfs,ok.funs,ok.frf⟩
section
variable {X:Cx}{pins:List (Addr×Obj)}{σ:St}{H:Hp}{s:Ib}{E:H0->Ib->Prop}
theorem Inv.FM (I:Inv X pins σ H s)(E:H0->Ib->Prop):Inv (X.FM E) pins σ H s:=⟨I.ok.FM E,I.os,I.bare,I.base,I.loc,I.cell,I.free,I.freeC,I.pin,I.hok,I.len⟩
theorem Inv.GT (I:Inv (X.FM E) pins σ H s):Inv X pins σ H s:=⟨I.ok.GT,I.os,I.bare,I.base,I.loc,I.cell,I.free,I.freeC,I.pin,I.hok,I.len⟩
theorem SP.GT {D:r9}{f:Flow}{s':Ib}(h:SP (X.FM E) pins D f s'):SP X pins D f s':=by
 cases f with
 | next=>obtain⟨σ',H',I,q⟩:=h;exact⟨σ',H',I.GT,q⟩
 | brk=>obtain⟨σ',H',I,q⟩:=h;exact⟨σ',H',I.GT,q⟩
 | cont=>obtain⟨σ',H',I,q⟩:=h;exact⟨σ',H',I.GT,q⟩
 | ret u=>obtain⟨v,σ',H',I,r,q⟩:=h;exact⟨v,σ',H',I.GT,r,q⟩
theorem PSs.nox {st:List Stmt}{t:TS}(h:PSs X.nox st t):PSs X st t:=λpins s σ H D I hw=>
 La (h pins s σ H D (I.FM _) hw) (λ_ _ q=>q.GT) λ_ _ z=>KO z
end
section
variable {X:Cx}{st:Stmt}{cP:List Stmt}{t u:TS}{e:Expr}{te:TE}{pos:Pos}
def EO:TS:=λD σ H=>D.nx σ H
def tSeq (t u:TS):TS:=λD σ H=>t { D with nx:=u D } σ H
theorem Bb:PSs X [] EO:=λ_ _ σ H _ I h=>L0 ⟨σ,H,I,h⟩
theorem yB (h1:PS X st t)(h2:PSs X cP u):PSs X (st::cP) (tSeq t u):=by
 intro pins s σ H D I h;refine OL (cp (h1 pins s σ H { D with nx:=u D } I h) λf s1 q=> ?_)
 cases f with
 | next=>
  obtain⟨σ',H',I',q⟩:=q
  exact h2 pins s1 σ' H' D I' q
 | ret v=>exact q
 | brk=>exact q
 | cont=>exact q
theorem Ba (h1:PS X st t):PSs X [st] t:=by
 intro pins s σ H D I h;refine OL (cp (h1 pins s σ H D I h) λf s1 q=> ?_)
 cases f with
 | next=>exact L0 q
 | ret v=>exact q
 | brk=>exact q
 | cont=>exact q
def EX:TS:=λD σ H=>D.ct σ H
theorem sR:PS X (.Continue pos) EX:=λ_ _ σ H _ I h=>wpAny_Continue ⟨σ,H,I,h⟩
theorem Inv.quiet {pins:List (Addr×Obj)}{σ:St}{H:Hp}{s:Ib}(I:Inv X pins σ H s):interactive X.env=false:=by simp[interactive,I.ok.kind]
def EU (te:TE):TS:=λD σ H=>te σ H λ_ H1=>D.nx σ H1
theorem qH (he:PE X e te)(hs:JY e none pos.line X.env=pure false:=by rfl):PS X (.Expr e pos) (EU te):=by
 intro pins s σ H D I h;exact wpAny_Expr_any (cp (he pins s σ H _ I h) λv s1 ⟨x,H1,I1,r1,q1⟩=>⟨σ,H1,I1,q1⟩) I.quiet hs
def tRet (te:TE):TS:=λD σ H=>te σ H D.rt
theorem Du (he:PE X e te):PS X (.Return (some e) pos) (tRet te):=by
 intro pins s σ H D I h;exact wpAny_Return_some (cp (he pins s σ H _ I h) λv s1 ⟨x,H1,I1,r1,q1⟩=>⟨x,σ,H1,I1,r1,q1⟩)
def tIfS (c:TT)(t u:TS):TS:=λD σ H=>c σ H λb H1=>if b=true then t D σ H1 else u D σ H1
theorem FD {c:Expr}{a b:List Stmt}{tc:TT}(hc:PT X c tc)(ha:PSs X a t)(hb:PSs X b u):PS X (.If c a b pos) (tIfS tc t u):=by
 intro pins s σ H D I h;refine wpAny_If (cp (hc pins s σ H _ I h) λd s1 hh_=> ?_)
 obtain⟨H1,I1,q1⟩:=hh_
 cases d with
 | true=>exact ha pins s1 σ H1 D I1 q1
 | false=>exact hb pins s1 σ H1 D I1 q1
end
abbrev TG:=V->St->Hp->(St->Hp->Prop)->Prop
abbrev B9:=List V->St->Hp->(St->Hp->Prop)->Prop
def PG (X:Cx)(target:Expr)(t:TG):Prop:=
 ∀(pins:List (Addr×Obj)) (s:Ib) (σ:St) (H:Hp) (v:V) (u:H0) (Q:St->Hp->Prop),Inv X pins σ H s->RelV v u->t v σ H Q →
  wpAny (model X.prog X.w) X.A (assign target X.env u) (λ_ s'=> ∃σ' H',Inv X pins σ' H' s'/\Q σ' H') X.xe s
def PGs (X:Cx)(ts:List Expr)(t:B9):Prop:=
 ∀(pins:List (Addr×Obj)) (s:Ib) (σ:St) (H:Hp) (vs:List V) (us:List H0) (Q:St->Hp->Prop),Inv X pins σ H s->Vals vs us->t vs σ H Q →
  wpAny (model X.prog X.w) X.A (assignInOrder ((JS ts X.env).map (·.2)) us) (λ_ s'=> ∃σ' H',Inv X pins σ' H' s'/\Q σ' H') X.xe s
section
variable {X:Cx}{pos:Pos}
def zE (i:Nat):TG:=λv σ H Q=>Q (σ.set i (some v)) H
theorem Bo {i:Nat}{x:Str}(hN:X.N.Nodup)(hi:X.N[i]? =some x)(hx:Loc X.env.scope x)(hf:X.fn x=true\/X.env.scope.names.lookup x=some .local:=by first | exact .inl rfl | exact .inr rfl | assumption):PG X (.Name x pos) (zE i):=by
 intro pins s σ H v u Q I r h;exact On (sr I hN hi hx r (λs' I'=>⟨_,H,I',h⟩) hf)
def gNil:B9:=λvs σ H Q=>vs= []/\Q σ H
def Gh (t:TG)(u:B9):B9:=λvs σ H Q=> ∃v r,vs=v::r/\t v σ H λσ' H'=>u r σ' H' Q
theorem Bm:PGs X [] gNil:=by
 intro pins s σ H vs us Q I r h;obtain⟨e,h⟩:=h;subst e;cases r;exact assignInOrder_nil ⟨σ,H,I,h⟩
theorem yH {e:Expr}{es:List Expr}{t:TG}{u:B9}(h1:PG X e t)(h2:PGs X es u)
  (hs:(JS (e::es) X.env).map (·.2)=assign e X.env::(JS es X.env).map (·.2):=by rfl):PGs X (e::es) (Gh t u):=by
 intro pins s σ H vs us Q I r h;obtain⟨v,vr,e1,h⟩:=h;subst e1
 cases r with
 | cons r rr=>
  rw[hs];refine assignInOrder_cons (cp (h1 pins s σ H _ _ _ I r h) λ_ s1 hh_=> ?_)
  obtain⟨σ1,H1,I1,q1⟩:=hh_;exact h2 pins s1 σ1 H1 _ _ Q I1 rr q1
def gTup (K:HX)(n:Nat)(t:B9):TG:=λv σ H Q=> ∃a xs,v= .ref a/\SqT K H a xs/\xs.length=n/\t xs σ H Q
theorem Dz {es:List Expr}{k:Nat}{t:B9}{n:Nat}(hc:X.calm=true)(h:PGs X es t)
  (hn:(JS es X.env).length=n:=by rfl) (hst:(JS es X.env).findIdx? (·.1)=none:=by rfl):PG X (.Tuple es k pos) (gTup X.K n t):=by
 intro pins s σ H v u Q I r hw;obtain⟨a,xs,e1,hq,hl,hw⟩:=hw;subst e1;cases r;obtain⟨its,rv,ht,hz⟩:=I.tuple hq;refine assign_Tuple_tuple (I.ok.hd hc) ht (by simp[hn,<-hl,rv.length]) hst λh' hx=> ?_
 have I1:Inv X pins σ H { s with heap:=h' }:=I.kept (t':=s.toks) λb o e=>hx b o (Js (Im e)) e
 exact h pins _ σ H xs _ Q I1 (by simpa using rv) hw
def AD (te:TE)(g:TG):TS:=λD σ H=>te σ H λx H1=>g x σ H1 D.nx
theorem Dv {tg e:Expr}{te:TE}{g:TG}(he:PE X e te)(hg:PG X tg g)(hs:N4 [tg] e pos.line X.env=pure false:=by rfl)(hw:N5 [tg] e X.env=pure none:=by rfl)
  (h1:(JS [tg] X.env).map (·.2)= [assign tg X.env]:=by rfl):PS X (.Assign [tg] e pos) (AD te g):=by
 intro pins s σ H D I h;refine wpAny_Assign_stores (cp (he pins s σ H _ I h) λv s1 ⟨x,H1,I1,r1,q1⟩=> ?_) hs hw
 rw[h1];exact cp (hg pins s1 σ H1 x v _ I1 r1 q1) λ_ s2 q=>q
theorem yD {i:Nat}{x:Str}{e:Expr}{te:TE}{pos':Pos}(hN:X.N.Nodup)(hi:X.N[i]? =some x)(hx:Loc X.env.scope x)(he:PE X e te)(hs:JY e (some (.Name x pos')) pos.line X.env=pure false:=by rfl)(hf:X.fn x=true\/X.env.scope.names.lookup x=some .local:=by first | exact .inl rfl | exact .inr rfl | assumption) :
  PS X (.Assign [.Name x pos'] e pos) (AD te (zE i)):=by
 intro pins s σ H D I h;refine wpAny_Assign_Name (cp (he pins s σ H _ I h) λv s1 ⟨y,H1,I1,r1,q1⟩=> ?_) hs
 exact sr I1 hN hi hx r1 (λs2 I2=>⟨_,H1,I2,q1⟩) hf
end
section
variable {X:Cx}{pos:Pos}
def uv (c:TT)(tb:TS):TS:=λD σ H=> ∃W:Nat->St->Hp->Prop,(∃m,W m σ H)/\∀m σ H,W m σ H →
 c σ H λb H1=>if b=true then ∃N:St->Hp->Prop,(∀σ' H',N σ' H'->∃m',m'<m/\W m' σ' H')/\tb { D with nx:=N,ct:=N,bk:=D.nx } σ H1 else D.nx σ H1
theorem yC {c:Expr}{body:List Stmt}{tc:TT}{tb:TS}(hp:PassesOwn (model X.prog X.w) X.A X.env X.xe)(hc:PT X c tc)(hb:PSs X body tb):PS X (.While c body [] pos) (uv tc tb):=by
 intro pins s σ H D I h;obtain⟨W,⟨m0,w0⟩,turn⟩:=h;refine wpAny_While (codeAny_whileLoop (λn s'=> ∃σ' H',Inv X pins σ' H' s'/\W n σ' H') ?_ m0 ⟨σ,H,I,w0⟩)
 rintro n s1 ⟨σ1,H1,I1,w1⟩
 refine O7 hp (cp (hc pins s1 σ1 H1 _ I1 (turn n σ1 H1 w1)) λb s2 hh_=> ?_)
 obtain⟨H2,I2,q2⟩:=hh_
 cases b with
 | true=>
  obtain⟨N,hN,q2⟩:=q2;rw[if_pos rfl];refine O7 hp (cp (hb pins s2 σ1 H2 _ I2 q2) λf s3 q3=> ?_)
  cases f with
  | next=>
   obtain⟨σ3,H3,I3,n3⟩:=q3;obtain⟨m',hm,w3⟩:=hN σ3 H3 n3
   exact⟨m',hm,σ3,H3,I3,w3⟩
  | cont=>
   obtain⟨σ3,H3,I3,n3⟩:=q3;obtain⟨m',hm,w3⟩:=hN σ3 H3 n3
   exact⟨m',hm,σ3,H3,I3,w3⟩
  | brk=>exact q3
  | ret v=>exact q3
 | false=>
  rw[if_neg IK];exact L0 ⟨σ1,H2,I2,q2⟩
end
structure It where
 go:Nat->Hp->Prop
 yld:Nat->Hp->V->Hp->Prop
 stop:Nat->Hp->Prop
def oE (X:Cx)(pins:List (Addr×Obj))(H:Hp)(b:Addr):Prop:=
 H b=none/\b≠X.env.locals/\b∉X.fs/\(b∈X.ex\/X.s₀.heap.objs.size<=b)/\(∀x c,X.env.cells.lookup x=some c->c≠b)/\∀p∈X.pn++pins,p.1≠b
theorem Inv.Hd {X:Cx}{pins:List (Addr×Obj)}{σ:St}{H H':Hp}{s:Ib}{b:Addr}(I:Inv X pins σ H s)(hb:s.heap.objs.size<=b)(hn:H' b=none):oE X pins H' b:=by
 refine⟨hn,Kf (Iu I.lt hb),I.HR hb,.inr (IQ I.sz hb),λx c e z=> ?_,λp hp z=> ?_⟩
 ·obtain⟨v,q⟩:=I.cell x c e
  exact absurd (Iu q.lt (by rw[z];exact hb)) (IG _)
 ·exact absurd (Iu (Im (I.pin p hp).1) (by rw[z];exact hb)) (IG _)
structure xR (P:IJ)(w:JA)(K:HX)(tg:Expr)(J:It)(fp:List Addr)(it:Addr)(tn:Nat->Heap->Prop):Prop where
 mem:it∈fp
 obj:∀i h,tn i h->∀b∈fp,∃o,h.get? b=some o/\∀v,o.data≠ .cell v
 keep:∀i h h',tn i h->(∀b∈fp,∀o,h.get? b=some o->h'.get? b=some o)->tn i h'
 item:∀(X:Cx),X.prog=P->X.w=w->X.K=K->X.calm=true->∀(i:Nat) (pins:List (Addr×Obj)) (s:Ib) (σ:St) (H:Hp) (E:H0->Ib->Prop),Inv X pins σ H s->(∀b∈fp,oE X pins H b)->tn i s.heap->J.go i H →
  wpAny (model P w) X.A (pyNext (.ref it)) (λr s1=> ∃u,r=some u ∧
   wpAny (model P w) X.A (Ll tg (.ref it) u) (λ_ s2=> ∃x H',Inv X pins σ H' s2/\RelV x u/\J.yld i H x H'/\tn (i+1) s2.heap/\∀b∈fp,H' b=none) E s1) E s
 done:∀(X:Cx),X.prog=P->X.w=w->X.K=K->X.calm=true->∀(i:Nat) (pins:List (Addr×Obj)) (s:Ib) (σ:St) (H:Hp) (E:H0->Ib->Prop),Inv X pins σ H s->(∀b∈fp,oE X pins H b)->tn i s.heap->J.stop i H →
  wpAny (model P w) X.A (pyNext (.ref it)) (λr s1=>r=none/\Inv X pins σ H s1) E s
 self:∀(A:Jl) (i:Nat) (s:Ib) (Q:H0->Ib->Prop) (E:H0->Ib->Prop),tn i s.heap->Q (.ref it) s->wpAny (model P w) A (pyIter (.ref it)) Q E s
abbrev TI:=St->Hp->(It->Hp->Prop)->Prop
def GL (X:Cx)(pins:List (Addr×Obj))(σ:St)(tg:Expr)(R:It->Hp->Prop)(itv:H0)(s2:Ib):Prop:=
 ∃(it:Addr) (fp:List Addr) (tn:Nat->Heap->Prop) (J:It) (H':Hp),itv= .ref it/\Inv X pins σ H' s2/\xR X.prog X.w X.K tg J fp it tn/\tn 0 s2.heap/\(∀b∈fp,oE X pins H' b)/\R J H'
def PI (X:Cx)(tg iter:Expr)(wi:TI):Prop:=
 ∀(pins:List (Addr×Obj)) (s:Ib) (σ:St) (H:Hp) (R:It->Hp->Prop),Inv X pins σ H s->wi σ H R →
  wpAny (model X.prog X.w) X.A (eval iter X.env) (λv s1=>wpAny (model X.prog X.w) X.A (pyIter v) (GL X pins σ tg R) X.xe s1) X.xe s
theorem v5 {M:Model}{A:Jl}{E:H0->Ib->Prop}{s:Ib}{tg:Expr}{it:Addr}{u:H0}{o:Obj}{n:String}{vs:Array H0}{Q:Unit->Ib->Prop}(ho:s.heap.get? it=some o)(hc:o.cls= .type n)(hd:o.data= .fields vs)
  (hn:["enumerate","zip","dict_itemiterator","dict_reverseitemiterator","odict_iterator","itertools.zip_longest","itertools.pairwise"].contains n=false) (hQ:Q () s):wpAny M A (Ll tg (.ref it) u) Q E s:=by
 unfold Ll
 cases tg <;> first
  | exact Ik hQ
  | (cases u <;> first
    | exact Ik hQ
    | (refine HY (wpAny_load ho ?_)
       rw[hc,hd]
       show wpAny M A (if (["enumerate","zip","dict_itemiterator","dict_reverseitemiterator","odict_iterator","itertools.zip_longest","itertools.pairwise"].contains n&&vs[0]? == some (rawInt _))=true then _ else _) Q E s
       rw[if_neg (by intro h;rw[hn,Bool.false_and]at h;cases h)]
       exact Ik hQ))
def Itl (K:HX)(a:Addr):It:=
 ⟨λi H=> ∃xs x,SqL K H a xs/\xs[i]? =some x,λi H x H'=>H'=H/\∀xs,SqL K H a xs->xs[i]? =some x,λi H=> ∃xs,SqL K H a xs/\xs.length<=i⟩
def Itt (K:HX)(a:Addr):It:=
 ⟨λi H=> ∃xs x,SqT K H a xs/\xs[i]? =some x,λi H x H'=>H'=H/\∀xs,SqT K H a xs->xs[i]? =some x,λi H=> ∃xs,SqT K H a xs/\xs.length<=i⟩
def Itr (lo:Int)(n:Nat):It:=⟨λi _=>i<n,λi H x H'=>H'=H/\x= .int (lo+i),λi _=>n<=i⟩
theorem wL {P:IJ}{w:JA}{K:HX}{tg:Expr}(a it:Addr):xR P w K tg (Itl K a) [it] it (λi h=>h.IsListIter it a i) where
 mem:=by simp
 obj:=λi h st b hb=>by
  have e:b=it:=by simpa using hb
  subst e;obtain⟨o,e,c,d⟩:=st;exact⟨o,e,λv z=>by rw[d]at z;cases z⟩
 keep:=λi h h' st k=>st.at λo e=>k it (by simp) o e
 item:=by
  intro X hP hw hK hc i pins s σ H E I hf st hg;subst hP hw hK;obtain⟨xs,x,hq,hx⟩:=hg;obtain⟨its,rv,p,hz⟩:=I.list hq;obtain⟨u,hu,ru⟩:=rv.get hx;obtain⟨f0,f1,f2,f3,f4,f5⟩:=hf it (by simp)
  refine MV st p.isList (x:=u) (by simpa using hu) λh' st' sb=> ?_
  have I1:Inv X pins σ H { s with heap:=h' }:=I.turned (t':=s.toks) (λb o hb e=>(sb.2 b hb).trans e) f0 f1 f3 f4 f5
  obtain⟨o,e,c,d⟩:=id st';exact⟨u,rfl,v5 (s:={ s with heap:=h' }) e c d (by decide) ⟨x,H,I1,ru,⟨rfl,λys hy=>by rw[I.G8 hy hq];exact hx⟩,st',λb hb=>(hf b hb).1⟩⟩
 done:=by
  intro X hP hw hK hc i pins s σ H E I hf st hg;subst hP hw hK;obtain⟨xs,hq,hx⟩:=hg;obtain⟨its,rv,p,hz⟩:=I.list hq;obtain⟨f0,f1,f2,f3,f4,f5⟩:=hf it (by simp)
  have hl:=rv.length;exact Nh (I.ok.hd hc) st p.isList (by simp;omega) λh' eb=>⟨rfl,I.turned (t':=s.toks) (λb o hb e=>eb b o hb e) f0 f1 f3 f4 f5⟩
 self:=λ_ _ _ _ _ st h=>wpAny_pyIter_listiter st h
theorem uq {P:IJ}{w:JA}{K:HX}{tg:Expr}(a it:Addr):xR P w K tg (Itt K a) [it] it (λi h=>h.IsTupleIter it a i) where
 mem:=by simp
 obj:=λi h st b hb=>by
  have e:b=it:=by simpa using hb
  subst e;obtain⟨o,e,c,d⟩:=st;exact⟨o,e,λv z=>by rw[d]at z;cases z⟩
 keep:=λi h h' st k=>st.at λo e=>k it (by simp) o e
 item:=by
  intro X hP hw hK hc i pins s σ H E I hf st hg;subst hP hw hK;obtain⟨xs,x,hq,hx⟩:=hg;obtain⟨its,rv,p,hz⟩:=I.tuple hq;obtain⟨u,hu,ru⟩:=rv.get hx;obtain⟨f0,f1,f2,f3,f4,f5⟩:=hf it (by simp)
  refine wpAny_pyNext_tuple_item st (show s.heap.IsTuple a its.toArray from p) (x:=u) (by simpa using hu) λh' st' sb=> ?_
  have I1:Inv X pins σ H { s with heap:=h' }:=I.turned (t':=s.toks) (λb o hb e=>(sb.2 b hb).trans e) f0 f1 f3 f4 f5
  obtain⟨o,e,c,d⟩:=id st';exact⟨u,rfl,v5 (s:={ s with heap:=h' }) e c d (by decide) ⟨x,H,I1,ru,⟨rfl,λys hy=>by rw[I.G3 hy hq];exact hx⟩,st',λb hb=>(hf b hb).1⟩⟩
 done:=by
  intro X hP hw hK hc i pins s σ H E I hf st hg;subst hP hw hK;obtain⟨xs,hq,hx⟩:=hg;obtain⟨its,rv,p,hz⟩:=I.tuple hq;obtain⟨f0,f1,f2,f3,f4,f5⟩:=hf it (by simp)
  have hl:=rv.length;exact wpAny_pyNext_tuple_end (I.ok.hd hc) st (show s.heap.IsTuple a its.toArray from p) (by simp;omega) λh' eb=>⟨rfl,I.turned (t':=s.toks) (λb o hb e=>eb b o hb e) f0 f1 f3 f4 f5⟩
 self:=λ_ _ _ _ _ st h=>wpAny_pyIter_tupleiter st h
theorem ur {P:IJ}{w:JA}{K:HX}{tg:Expr}(it:Addr)(lo:Int)(n:Nat):xR P w K tg (Itr lo n) [it] it (λi h=>NJ h it (lo+(i:Nat)*1) ((n:Int) - (i:Nat)) 1) where
 mem:=by simp
 obj:=λi h st b hb=>by
  have e:b=it:=by simpa using hb
  subst e
  exact⟨_,st,λv z=>by
   have z':OS _=Data.cell v:=z;cases z'⟩
 keep:=λi h h' st k=>k it (by simp) _ st
 item:=by
  intro X hP hw hK hc i pins s σ H E I hf st hg;subst hP hw hK;obtain⟨f0,f1,f2,f3,f4,f5⟩:=hf it (by simp)
  have W:=Walks.range (prog:=X.prog) (w:=X.w) (I.ok.hd hc) it lo 1 n;refine W.item i s _ _ hg st λv h' tk hv st' kk=> ?_
  obtain⟨t,rfl⟩:=hv
  have I1:Inv X pins σ H { s with heap:=h',toks:=tk }:=I.turned (λb o hb e=>kk b o (by simpa using hb) e) f0 f1 f3 f4 f5
  refine⟨_,rfl,v5 (s:={ s with heap:=h',toks:=tk }) (n:="range_iterator") st' rfl rfl (by decide) ⟨.int (lo+i),H,I1,⟨t,?_⟩,⟨rfl,rfl⟩,st',λb hb=>(hf b hb).1⟩⟩
  rw[Int.mul_one]
 done:=by
  intro X hP hw hK hc i pins s σ H E I hf st hg;subst hP hw hK;obtain⟨f0,f1,f2,f3,f4,f5⟩:=hf it (by simp)
  exact MW (I.ok.hd hc) st (by have:n<=i:=hg;omega) λh' eb=>⟨rfl,I.turned (t':=s.toks) (λb o hb e=>eb b o hb e) f0 f1 f3 f4 f5⟩
 self:=λ_ _ _ _ _ st h=>MX st h
section
variable {X:Cx}{tg:Expr}
def Gg (K:HX)(tl:TE):TI:=λσ H R=>tl σ H λx H1=> ∃a,x= .ref a/\(∃xs,SqL K H1 a xs)/\R (Itl K a) H1
def iTup (K:HX)(tl:TE):TI:=λσ H R=>tl σ H λx H1=> ∃a,x= .ref a/\(∃xs,SqT K H1 a xs)/\R (Itt K a) H1
theorem Bj {l:Expr}{tl:TE}(hl:PE X l tl):PI X tg l (Gg X.K tl):=by
 intro pins s σ H R I h;refine cp (hl pins s σ H _ I h) λv s1 hh_=> ?_
 obtain⟨x,H1,I1,r1,q1⟩:=hh_;obtain⟨a,e,⟨xs,hq⟩,q⟩:=q1;subst e;cases r1;obtain⟨its,rv,p,hz⟩:=I1.list hq;refine Mz p.isList ?_
 refine⟨s1.heap.objs.size,[s1.heap.objs.size],_,_,H1,rfl,I1.kept (t':=s1.toks) λb o e=>Ii _ e,wL a _,⟨_,Iz _ rfl,rfl,rfl⟩,λb hb=> ?_,q⟩
 have e:b=s1.heap.objs.size:=by simpa using hb
 subst e;exact I1.Hd (Il _) (I1.hok.fresh (Il _))
theorem Dy {l:Expr}{tl:TE}(hl:PE X l tl):PI X tg l (iTup X.K tl):=by
 intro pins s σ H R I h;refine cp (hl pins s σ H _ I h) λv s1 hh_=> ?_
 obtain⟨x,H1,I1,r1,q1⟩:=hh_;obtain⟨a,e,⟨xs,hq⟩,q⟩:=q1;subst e;cases r1;obtain⟨its,rv,p,hz⟩:=I1.tuple hq;refine Lm (show s1.heap.IsTuple a its.toArray from p) ?_
 refine⟨s1.heap.objs.size,[s1.heap.objs.size],_,_,H1,rfl,I1.kept (t':=s1.toks) λb o e=>Ii _ e,uq a _,⟨_,Iz _ rfl,rfl,rfl⟩,λb hb=> ?_,q⟩
 have e:b=s1.heap.objs.size:=by simpa using hb
 subst e;exact I1.Hd (Il _) (I1.hok.fresh (Il _))
theorem sQ {pins:List (Addr×Obj)}{σ:St}{H:Hp}{s:Ib}{R:It->Hp->Prop}{E:H0->Ib->Prop}{lo hi:Int}{t u v:Tok}{tk:Nat}(I:Inv X pins σ H s)(h1 : -(2 ^ 62)<=lo)(h2:lo<2 ^ 62)(h3 : -(2 ^ 62)<=hi)(h4:hi<2 ^ 62)
  (q:R (Itr lo (hi - lo).toNat) H):wpAny (model X.prog X.w) X.A (pyIter (.ref s.heap.objs.size)) (GL X pins σ tg R) E { s with heap:=s.heap.push { cls:=.type "range",data:=.fields #[.int lo t,.int hi u,.int 1 v] },toks:=tk }:=by
 refine N6 (OU ..) (small_one h1 h2 h3 h4) ?_
 have I1:Inv X pins σ H { s with heap:=s.heap.push { cls:=.type "range",data:=.fields #[.int lo t,.int hi u,.int 1 v] },toks:=tk }:=I.kept λb o e=>Ii _ e
 refine⟨(s.heap.push { cls:=.type "range",data:=.fields #[.int lo t,.int hi u,.int 1 v] }).objs.size,[(s.heap.push { cls:=.type "range",data:=.fields #[.int lo t,.int hi u,.int 1 v] }).objs.size],_,_,H,rfl,
  I1.kept (t':=tk) λb o e=>Ii _ e,ur _ lo (hi - lo).toNat,?_,λb hb=> ?_,q⟩
 ·have e1:lo+((0:Nat):Int)*1=lo:=by simp
  have e2:(((hi - lo).toNat:Nat):Int) - ((0:Nat):Int)=Ko lo hi 1:=by rw[rangeSize_one];split <;> omega
  show NJ _ _ (lo+((0:Nat):Int)*1) ((((hi - lo).toNat:Nat):Int) - ((0:Nat):Int)) 1
  rw[e1,e2];exact Iz _ rfl
 ·have e:b=(s.heap.push { cls:=.type "range",data:=.fields #[.int lo t,.int hi u,.int 1 v] }).objs.size:=by simpa using hb
  subst e;exact I1.Hd (Il _) (I1.hok.fresh (Il _))
def tFor (wi:TI)(g:TG)(tb:TS):TS:=λD σ H=>wi σ H λJ H1=> ∃W:Nat->Nat->St->Hp->Prop,(∃m,W 0 m σ H1)/\∀i m σ H,W i m σ H →
 (J.stop i H/\D.nx σ H)\/(J.go i H/\∃N:St->Hp->Prop,(∀σ' H',N σ' H'->∃m',m'<m/\W (i+1) m' σ' H')/\∀x H',J.yld i H x H'->g x σ H' λσ2 H2=>tb { D with nx:=N,ct:=N,bk:=D.nx } σ2 H2)
def m5 (fp:List Addr)(h:Heap):List (Addr×Obj):=fp.filterMap λb=>(h.get? b).map λo=>(b,o)
theorem gS {fp:List Addr}{h:Heap}{b:Addr}{o:Obj}(hb:b∈fp)(e:h.get? b=some o):(b,o)∈m5 fp h:=Mf.mpr ⟨b,hb,by rw[e];rfl⟩
theorem xf {fp:List Addr}{h:Heap}{p:Addr×Obj}(hp:p∈m5 fp h):p.1∈fp/\h.get? p.1=some p.2:=by
 obtain⟨b,hb,e⟩:=Mf.mp hp
 cases q:h.get? b with
 | none=>rw[q]at e;cases e
 | some o=>
  rw[q]at e
  have e':(b,o)=p:=IX e;subst e';exact⟨hb,q⟩
theorem Inv.pinned {pins:List (Addr×Obj)}{σ:St}{H:Hp}{s:Ib}{fp:List Addr}(I:Inv X pins σ H s)(hf:∀b∈fp,oE X pins H b)(ho:∀b∈fp,∃o,s.heap.get? b=some o/\∀v,o.data≠ .cell v):Inv X (pins++m5 fp s.heap) σ H s:=
 I.Hj λp hp=>(IB.mp hp).elim (λz=>I.pin p (Iy _ z)) λz=>by
  obtain⟨hb,e⟩:=xf z;obtain⟨f0,f1,f2,_⟩:=hf p.1 hb;obtain⟨o,e',d⟩:=ho p.1 hb;rw[e]at e';cases e';exact⟨e,f0,f1,f2,d⟩
theorem Inv.GY {pins pl:List (Addr×Obj)}{σ:St}{H:Hp}{s:Ib}(I:Inv X (pins++pl) σ H s):Inv X pins σ H s:=I.Hj λp hp=>I.pin p (Iy _ (Ja _ hp))
end
abbrev R2:=V->V->Hp->VK->Prop
def qj (X:Cx)(f:H0->H0->Sem H0)(r:R2):Prop:=
 ∀(pins:List (Addr×Obj)) (s:Ib) (σ:St) (H:Hp) (x y:V) (v u:H0) (Q:VK),Inv X pins σ H s->RelV x v->RelV y u->r x y H Q →
  wpAny (model X.prog X.w) X.A (f v u) (EP X pins σ Q) X.xe s
def UnR (X:Cx)(f:H0->Sem H0)(r:V->Hp->VK->Prop):Prop:=
 ∀(pins:List (Addr×Obj)) (s:Ib) (σ:St) (H:Hp) (x:V) (v:H0) (Q:VK),Inv X pins σ H s->RelV x v->r x H Q →
  wpAny (model X.prog X.w) X.A (f v) (EP X pins σ Q) X.xe s
def CallR (X:Cx)(f:H0)(r:List V->Hp->VK->Prop):Prop:=
 ∀(pins:List (Addr×Obj)) (s:Ib) (σ:St) (H:Hp) (xs:List V) (us:List H0) (Q:VK),Inv X pins σ H s->Vals xs us->r xs H Q →
  wpAny (model X.prog X.w) X.A (call f us) (EP X pins σ Q) X.xe s
def tUn (r:V->Hp->VK->Prop)(ta:TE):TE:=λσ H Q=>ta σ H λx H1=>r x H1 Q
def rI (C:Int->Int->Prop)(g:Int->Int->V):R2:=λx y H Q=> ∃i j,x= .int i/\y= .int j/\C i j/\Q (g i j) H
def Cm (g:Int->Int->V):R2:=λx y H Q=> ∃i j,x= .int i/\y= .int j/\Q (g i j) H
def rU (g:Int->V):V->Hp->VK->Prop:=λx H Q=> ∃i,x= .int i/\Q (g i) H
section
variable {X:Cx}{a b c:Expr}{ta tb tc:TE}{pos:Pos}
theorem Cn {op:UnaryOp}{r:V->Hp->VK->Prop}(ho:UnR X (unaryOp op) r)(ha:PE X a ta):PE X (.UnaryOp op a pos) (tUn r ta):=by
 intro pins s σ H Q I h;exact UnaryOp_ (cp (ha pins s σ H _ I h) λv s1 ⟨x,H1,I1,r1,q1⟩=>ho pins s1 σ H1 x v Q I1 r1 q1)
theorem opI {f:H0->H0->Sem H0}{C:Int->Int->Prop}{g:Int->Int->Int}
  (rule:∀(i j:Int) (t u:Tok) (s:Ib) (Q:H0->Ib->Prop) (E:H0->Ib->Prop),C i j->Q (.int (g i j) s.toks) { s with toks:=s.toks+1 }->wpAny (model X.prog X.w) X.A (f (.int i t) (.int j u)) Q E s) :
  qj X f (rI C λi j=> .int (g i j)):=by
 intro pins s σ H x y v u Q I rx ry h;obtain⟨i,j,rfl,rfl,hc,q⟩:=h;obtain⟨t,rfl⟩:=rx;obtain⟨t',rfl⟩:=ry;exact rule i j t t' s _ _ hc ⟨.int (g i j),H,I.tok _,⟨_,rfl⟩,q⟩
theorem FN {f:H0->H0->Sem H0}{g:Int->Int->Int}
  (rule:∀(i j:Int) (t u:Tok) (s:Ib) (Q:H0->Ib->Prop) (E:H0->Ib->Prop),Q (.int (g i j) s.toks) { s with toks:=s.toks+1 }->wpAny (model X.prog X.w) X.A (f (.int i t) (.int j u)) Q E s) :
  qj X f (Cm λi j=> .int (g i j)):=by
 intro pins s σ H x y v u Q I rx ry h;obtain⟨i,j,rfl,rfl,q⟩:=h;obtain⟨t,rfl⟩:=rx;obtain⟨t',rfl⟩:=ry;exact rule i j t t' s _ _ ⟨.int (g i j),H,I.tok _,⟨_,rfl⟩,q⟩
theorem DO {f:H0->H0->Sem H0}{g:Int->Int->Bool}
  (rule:∀(i j:Int) (t u:Tok) (s:Ib) (Q:H0->Ib->Prop) (E:H0->Ib->Prop),Q (.bool (g i j)) s->wpAny (model X.prog X.w) X.A (f (.int i t) (.int j u)) Q E s) :
  qj X f (Cm λi j=> .bl (g i j)):=by
 intro pins s σ H x y v u Q I rx ry h;obtain⟨i,j,rfl,rfl,q⟩:=h;obtain⟨t,rfl⟩:=rx;obtain⟨t',rfl⟩:=ry;exact rule i j t t' s _ _ ⟨.bl (g i j),H,I,rfl,q⟩
def CDiv (i j:Int):Prop:=0<j/\j<1073741824
def CMul (i j:Int):Prop:=(-(2 ^ 64)<i/\i<2 ^ 64)\/(-(2 ^ 64)<j/\j<2 ^ 64)
theorem CMul.ok {i j:Int}(h:CMul i j):IntMulOk i j:=by
 rcases h with⟨h1,h2⟩ | ⟨h1,h2⟩
 ·exact .of_left (intBits_le_64 h1 h2)
 ·exact .of_right (intBits_le_64 h1 h2)
theorem DN:qj X (JZ .Add) (Cm λi j=> .int (i+j)):=FN λ_ _ _ _ _ _ _ q=>add_int q
theorem DH:qj X (JZ .Sub) (Cm λi j=> .int (i - j)):=FN λ_ _ _ _ _ _ _ q=>sub_int q
theorem DJ:qj X (JZ .Mult) (rI CMul λi j=> .int (i*j)):=opI λ_ _ _ _ _ _ _ hc q=>mul_int q hc.ok
theorem Bv:qj X (JZ .FloorDiv) (rI CDiv λi j=> .int (i / j)):=opI λi j _ _ _ _ _ hc q=>by
 have h1:(0:Int)<j:=hc.1
 have h2:j<1073741824:=hc.2;exact floordiv_int (by omega) (by rw[Int.fdiv_eq_ediv_of_nonneg i (by omega)];exact q) (.inl (MT (by omega)))
theorem DK:qj X (JZ .Mod) (rI (λ_ j=>0<j) λi j=> .int (i % j)):=opI λi j _ _ _ _ _ hc q=>by
 have h1:(0:Int)<j:=hc;exact mod_int' (by omega) (by rw[Int.fmod_eq_emod_of_nonneg i (by omega)];exact q)
theorem unI {f:H0->Sem H0}{g:Int->Int}
  (rule:∀(i:Int) (t:Tok) (s:Ib) (Q:H0->Ib->Prop) (E:H0->Ib->Prop),Q (.int (g i) s.toks) { s with toks:=s.toks+1 }->wpAny (model X.prog X.w) X.A (f (.int i t)) Q E s) :
  UnR X f (rU λi=> .int (g i)):=by
 intro pins s σ H x v Q I rx h;obtain⟨i,rfl,q⟩:=h;obtain⟨t,rfl⟩:=rx;exact rule i t s _ _ ⟨.int (g i),H,I.tok _,⟨_,rfl⟩,q⟩
theorem yc:UnR X (unaryOp .USub) (rU λi=> .int (-i)):=unI λ_ _ _ _ _ q=>neg_int q
end
section
variable {X:Cx}{a b c:Expr}{ta tb tc:TE}{pos:Pos}
theorem zL {pins:List (Addr×Obj)}{σ:St}{H:Hp}{s:Ib}{Q:VK}{k k':Bool}(I:Inv X pins σ H s)(q:Q (.bl k) H)(e:k=k'):EP X pins σ Q (.bool k') s:=by
 subst e;exact⟨.bl k,H,I,rfl,q⟩
theorem FJ:qj X (Jd .Lt) (Cm λi j=> .bl (decide (i<j))):=DO λ_ _ _ _ _ _ _ q=>lt_int q
theorem FK:qj X (Jd .LtE) (Cm λi j=> .bl (decide (i<=j))):=DO λ_ _ _ _ _ _ _ q=>le_int q
theorem FL:qj X (Jd .Gt) (Cm λi j=> .bl (decide (j<i))):=DO λ_ _ _ _ _ _ _ q=>gt_int q
theorem DL:qj X (Jd .Is) (λx y H Q=>y= .non/\Q (.bl (decide (x= .non))) H):=by
 intro pins s σ H x y v u Q I rx ry h;obtain⟨rfl,q⟩:=h;cases ry;refine is_none_gen (zL I q ?_)
 cases x <;> first
  | (cases rx;rfl)
  | (obtain⟨t,rfl⟩:=rx;rfl)
theorem Bu:qj X (Jd .IsNot) (λx y H Q=>y= .non/\Q (.bl (!decide (x= .non))) H):=by
 intro pins s σ H x y v u Q I rx ry h;obtain⟨rfl,q⟩:=h;cases ry;refine isnot_none_gen (zL I q ?_)
 cases x <;> first
  | (cases rx;rfl)
  | (obtain⟨t,rfl⟩:=rx;rfl)
theorem nT:(sizeLine:Nat)<2 ^ 63:=by rw[KM];decide
theorem uI:qj X (JZ .Add) (λx y H Q=> ∃i j,x= .str i/\y= .str j/\i.length+j.length<=sizeLine/\Q (.str (i++j)) H):=by
 intro pins s σ H x y v u Q I rx ry h;obtain⟨i,j,rfl,rfl,hz,q⟩:=h;obtain⟨t,rfl⟩:=rx;obtain⟨t',rfl⟩:=ry;exact add_str (λt' tk=>⟨.str (i++j),H,I.tok _,⟨_,rfl⟩,q⟩) hz
theorem mK {x:V}{us:List H0}(r:Vals [x] us):∃u,us= [u]/\RelV x u:=by
 cases r with
 | cons r1 r2=>cases r2;exact⟨_,rfl,r1⟩
theorem EK {x y:V}{us:List H0}(r:Vals [x,y] us):∃u w',us= [u,w']/\RelV x u/\RelV y w':=by
 cases r with
 | cons r1 r2=>
  cases r2 with
  | cons r3 r4=>cases r4;exact⟨_,_,rfl,r1,r3⟩
theorem xO:CallR X (.type "int") (λxs H Q=>(∃i,xs= [.int i]/\Q (.int i) H)\/∃k,xs= [.bl k]/\Q (.int (if k then 1 else 0)) H):=by
 intro pins s σ H xs us Q I r h;rcases h with⟨i,rfl,q⟩ | ⟨k,rfl,q⟩
 ·obtain⟨u,rfl,t,rfl⟩:=mK r
  exact call_int_int ⟨.int i,H,I,⟨_,rfl⟩,q⟩
 ·obtain⟨u,rfl,r1⟩:=mK r
  cases r1;exact call_int_bool ⟨.int (if k then 1 else 0),H,I.tok _,⟨_,rfl⟩,q⟩
end
structure ObjM (h:Heap)(x dx C:Addr)(mA:Str->Option H0):Prop where
 obj:h.get? x=some (M0 C dx)
 ns:h.Ns1 dx mA
 ne:dx≠x
theorem xn {h:Heap}{dx:Addr}{mA:Str->Option H0}(n:h.Ns1 dx mA):∃od,h.get? dx=some od/\∀name,Nv name od=some (mA name):=by
 obtain⟨o,es,ep,ho,hd,hk,_,hm⟩:=n;refine⟨o,ho,λname=> ?_⟩
 have e:=hm name;unfold nsFind findBy at e;rw[<-NQ]at e
 unfold Nv;rw[hd]
 dsimp only
 split
 ·rename_i y q
  rw[q]at e;exact congrArg some e
 ·rename_i q
  rw[q]at e
  have a:es.toList.any (·.refKey)=false:=by
   rw[List.any_eq_false];intro y hy;obtain⟨z,t,hkey⟩:=hk y (Array.mem_toList_iff.mp hy);simp[DictEntry.refKey,hkey]
  have a':¬ es.toList.any (·.refKey)=true:=by rw[a];exact IK
  rw[if_neg a'];exact congrArg some e
theorem ObjM.look {h:Heap}{x dx C:Addr}{mA:Str->Option H0}(I:ObjM h x dx C mA):∃od,PySem.W.InstAt h x (M0 C dx) C (some od)/\∀name,Nv name od=some (mA name):=
 let ⟨od,ho,hl⟩:=xn I.ns
 ⟨od,⟨I.obj,rfl,rfl,ho⟩,hl⟩
theorem RelO.some_of {v:V}{o:Option H0}(r:RelO (some v) o):∃u,o=some u/\RelV v u:=by
 cases o with
 | none=>exact(show False from r).elim
 | some u=>exact⟨u,rfl,r⟩
section
variable {P:IJ}{w:JA}{H H':Hp}{h h':Heap}{a C dx:Addr}{fs fs':List (Str×V)}
theorem BL (hok:HOk P w H h)(e:H a=some (.ins C dx fs)):∃mA,ObjM h a dx C mA/\(∀f,RelO (fs.lookup f) (mA f))/\PySem.Within mA (fs.map (·.1))/\fs.length<=1000/\H dx=some (.own a):=by
 obtain⟨d,z,ne,ob,mA,n,r,q⟩:=(show ObjOk P w H h a (.ins C dx fs)from hok a _ e)
 exact⟨mA,⟨ob,n,ne⟩,r,q,z,d⟩
end
structure Cls (K:HX)(C:Addr):Prop where
 pg:OA K C Str.empty=true
 hd:PySem.W.hasDictIn K C=true
 po:PySem.W.plainOver K C=true
 sa:PySem.W.findIn K (.ref C) "__setattr__" =some (some (.builtin "object.__setattr__"))
theorem Cls.get {K:HX}{C:Addr}(c:Cls K C)(f:Str):OA K C f=true:=c.pg
section
variable {X:Cx}{pins:List (Addr×Obj)}{σ:St}{H:Hp}{s:Ib}{A:Jl}{E:H0->Ib->Prop}{Q:H0->Ib->Prop}{c:H0}{b:Bool}
inductive lJ (K:HX) (H:Hp):V->H0->Prop where
 | non:lJ K H .non (.type "NoneType")
 | bl (x:Bool):lJ K H (.bl x) (.type "bool")
 | int (i:Int):lJ K H (.int i) (.type "int")
 | str (x:Str):lJ K H (.str x) (.type "str")
 | flt (x:UInt64):lJ K H (.flt x) (.type "float")
 | lst {a:Addr} {xs:List V} (e:H a=some (.lst xs)):lJ K H (.ref a) (.type "list")
 | frz {a:Addr} {o:Obj} {xs:List V} (e:H a=some (.frz o (.lst xs))):lJ K H (.ref a) (.type "list")
 | tup {a:Addr} {xs:List V} (e:H a=some (.tup xs)):lJ K H (.ref a) (.type "tuple")
 | dK {a:Addr} {kvs:List (Key×V)} (e:H a=some (.dK kvs)):lJ K H (.ref a) (.type "dict")
 | dT {a:Addr} {kvs:List (List Key×V)} (e:H a=some (.dT kvs)):lJ K H (.ref a) (.type "dict")
 | ins {a C dx:Addr} {fs:List (Str×V)} (e:H a=some (.ins C dx fs)) (cl:Cls K C) (ha:PySem.W.findIn K (.ref C) "__class__" =some (some (.builtin "object.__class__")))
   (hn:PySem.W.specialIn K (.builtin "object.__class__") "__get__" =some (some (.builtin "getset_descriptor.__get__"))) (htk:PySem.W.takesIn K (.builtin "object.__class__")=some true)
   (hm:PySem.W.mroIn K C (.type "object")=some true):lJ K H (.ref a) (.ref C)
theorem xv {x:V}{u t:H0}(I:Inv X pins σ H s)(rx:RelV x u)(ty:lJ X.K H x t)(e:PySem.W.kitOne X.K t c=some b)(h:∀tk,Q (.bool b) { s with toks:=tk }) :
  wpAny (model X.prog X.w) A (call (.builtin "isinstance") [u,c]) Q E s:=by
 cases ty with
 | non=>cases (show u=Jm from rx);exact JC PySem.W.kitx_none I.kIn KP e (λz=>nomatch z) h
 | bl y=>cases (show u=JB y from rx);exact JC PySem.W.kitx_bool I.kIn KP e (λz=>nomatch z) h
 | int i=>obtain⟨t,q⟩:=(show ∃t,u=JN i t from rx);cases q;exact JC PySem.W.kitx_int I.kIn KP e (λz=>nomatch z) h
 | str y=>obtain⟨t,q⟩:=(show ∃t,u=JV y t from rx);cases q;exact JC PySem.W.kitx_str I.kIn KP e (λz=>nomatch z) h
 | flt y=>obtain⟨t,q⟩:=(show ∃t,u=Value.float y t from rx);cases q;exact JC PySem.W.kitx_float I.kIn KP e (λz=>nomatch z) h
 | @lst a xs ea=>
  cases (show u=II a from rx)
  obtain⟨_,_,n,_,h1⟩:=(show ObjOk X.prog X.w H s.heap a (.lst xs)from I.hok a _ ea)
  exact JC Od I.kIn ⟨_,h1,rfl⟩ e (λz=>nomatch z) h
 | @frz a ob xs ea=>
  cases (show u=II a from rx)
  obtain⟨_,_,_,n,_,h1⟩:=(show ObjOk X.prog X.w H s.heap a (.frz ob (.lst xs))from I.hok a _ ea)
  exact JC Od I.kIn ⟨_,h1,rfl⟩ e (λz=>nomatch z) h
 | @tup a xs ea=>
  cases (show u=II a from rx)
  obtain⟨_,_,_,p⟩:=(show ObjOk X.prog X.w H s.heap a (.tup xs)from I.hok a _ ea)
  obtain⟨o,h1,h2,_⟩:=p
  exact JC PySem.W.kitx_tuple I.kIn ⟨o,h1,h2⟩ e (λz=>nomatch z) h
 | @dK a kvs ea=>
  cases (show u=II a from rx)
  obtain⟨_,_,vs,_,p⟩:=(show ObjOk X.prog X.w H s.heap a (.dK kvs)from I.hok a _ ea)
  obtain⟨o,es,ep,h1,h2,_⟩:=p
  exact JC Oe I.kIn ⟨o,h1,h2.1⟩ e (λz=>nomatch z) h
 | @dT a kvs ea=>
  cases (show u=II a from rx)
  obtain⟨_,_,xs,_,o,es,ep,h1,h2,_⟩:=(show ObjOk X.prog X.w H s.heap a (.dT kvs)from I.hok a _ ea)
  exact JC Oe I.kIn ⟨o,h1,h2.1⟩ e (λz=>nomatch z) h
 | @ins a C dx fs ea cl ha hn htk hm=>
  cases (show u=II a from rx)
  obtain⟨mA,O,_⟩:=BL I.hok ea;obtain⟨od,J,_⟩:=O.look;exact JC (PySem.W.kitx_own (cl.get _) cl.hd ha hn htk hm) I.kIn J e (λz=>nomatch z) h
end
structure Room (k:Nat)(A:Jl):Prop where
 hd:A.handled=none
 dp:A.depth+3*k+5<recursionLimit
 un:A.units+16*k+200<cLine
theorem Room.mono {j k:Nat}{A:Jl}(r:Room k A)(h:j<=k):Room j A:=⟨r.hd,by have:=r.dp;omega,by have:=r.un;omega⟩
theorem Room.deeper {k:Nat}{A:Jl}(r:Room (k+1) A)(env:Env):Room k (A.deeper env):=
 ⟨r.hd,by have:=r.dp;show A.depth+1+3*k+5<_;omega,by have:=r.un;show A.units+3+16*k+200<_;omega⟩
theorem Room.depth {k:Nat}{A:Jl}(r:Room k A):A.depth<recursionLimit:=by have:=r.dp;omega
def CQ:TA:=λ_ H Q=>Q [] H
def yf (ta:TE)(tr:TA):TA:=λσ H Q=>ta σ H λx H1=>tr σ H1 λxs H2=>Q (x::xs) H2
section
variable {X:Cx}{e:Expr}{es:List Expr}{te:TE}{t:TA}{pos:Pos}
theorem m6:PA X [] CQ:=λ_ _ _ _ H Q I h=>J5 ⟨[],H,I,.nil,h⟩
theorem jm (ha:PE X e te)(hr:PA X es t)(hs:IA (e::es) X.env=(false,eval e X.env)::IA es X.env:=by rfl):PA X (e::es) (yf te t):=by
 intro pos pins s σ H Q I h;rw[hs]
 show wpAny _ _ (spliced ((false,eval e X.env)::backTo pos (IA es X.env))) _ _ s
 refine Kg (cp (ha pins s σ H _ I h) λu s1 hh_=> ?_)
 obtain⟨x,H1,I1,r1,q1⟩:=hh_;exact cp (hr pos pins s1 σ H1 _ I1 q1) λus s2 ⟨xs,H2,I2,r2,q2⟩=>⟨x::xs,H2,I2,.cons r1 r2,q2⟩
def tTup (t:TA):TE:=λσ H Q=>t σ H λxs H1=>xs.length<=sizeLine/\∀p,H1 p=none->Q (.ref p) (upd H1 p (.tup xs))
def tLst (t:TA):TE:=λσ H Q=>t σ H λxs H1=>xs.length<=sizeLine/\∀p,H1 p=none->Q (.ref p) (upd H1 p (.lst xs))
theorem DA {x1}(h:PA X es t):PE X (.Tuple es x1 pos) (tTup t):=by
 intro pins s σ H Q I hq;refine wpAny_Tuple_spliced (cp (h pos pins s σ H _ I hq) λus s1 ⟨xs,H1,I1,r,z,q⟩=>⟨by rw[<-r.length];exact z,?_⟩)
 have hf:H1 s1.heap.objs.size=none:=I1.hok.fresh (Il _);refine⟨.ref s1.heap.objs.size,upd H1 s1.heap.objs.size (.tup xs),I1.laid (t':=s1.toks) (λb u e=>Ii _ e) (Il _) ?_,rfl,q _ hf⟩
 exact⟨z,us,r,⟨_,Iz _ rfl,rfl,_,rfl⟩⟩
theorem DE (h:PA X es t):PE X (.List es pos) (tLst t):=by
 intro pins s σ H Q I hq;refine N7 (cp (h pos pins s σ H _ I hq) λus s1 ⟨xs,H1,I1,r,z,q⟩=>⟨by rw[<-r.length];exact z,?_⟩)
 have hf:H1 s1.heap.objs.size=none:=I1.hok.fresh (Il _);refine⟨.ref s1.heap.objs.size,upd H1 s1.heap.objs.size (.lst xs),I1.laid (t':=s1.toks) (λb u e=>Ii _ e) (Il _) ?_,rfl,q _ hf⟩
 exact⟨z,us,0,r,Iz _ rfl⟩
end
abbrev Sp:=List V->Hp->VK->XK->Prop
abbrev Aq:=List Env->Hp->Ib->XK->H0->Ib->Prop
structure Aj (P:IJ)(w:JA)(K:HX)(mg:Str->Option H0)(base:Heap)(A:Jl)(outer:List Env)(s:Ib)(H:Hp):Prop where
 frames:A.frames=some outer
 mod:Mod K mg base
 bs:∀b o,base.get? b=some o->s.heap.get? b=some o/\H b=none
 bsz:base.objs.size<=s.heap.objs.size
 funs:s.heap.FunFrames base outer
 frf:∀b∈rF outer,H b=none
 hok:HOk P w H s.heap
 bare:MK s.gens
def CE (outer:List Env)(P:IJ)(w:JA)(H:Hp)(s:Ib)(Q:VK)(u:H0)(s':Ib):Prop:=
 ∃v H',s'.os=s.os/\MK s'.gens/\Un (rF outer) [] H H' s.heap s'.heap/\HOk P w H' s'.heap/\RelV v u/\Q v H'
def CR (CX:Aq)(outer:List Env)(P:IJ)(w:JA)(H:Hp)(s:Ib)(Q:VK)(E:XK)(r:Result)(s':Ib):Prop:=
 match r with
 | .ok (.ret u)=>CE outer P w H s Q u s'
 | .ok _=>False
 | .error e=>CX outer H s E e s'
structure pk (P:IJ)(w:JA)(K:HX)(mg:Str->Option H0)(base:Heap)(CX:Aq)(k:Nat)(f:Addr)(fd:JT)(ps:List Str)(sp:Sp):Prop where
 len:∀vs H Q E,sp vs H Q E->vs.length=ps.length
 run:∀(A:Jl) (outer:List Env) (s:Ib) (H:Hp) (args:Args) (us:List H0) (vs:List V) (Q:VK) (E:XK),Room k A->Aj P w K mg base A outer s H->Oo s fd args (ps.zip us)->Vals vs us->sp vs H Q E →
  codeAny (model P w) A (.call (.ref f) args) (CR CX outer P w H s Q E) s
section
variable {X:Cx}{pins:List (Addr×Obj)}{σ:St}{H:Hp}{s s':Ib}
theorem Inv.HP (I:Inv X pins σ H s):Aj X.prog X.w X.K X.mg X.base X.A X.stack s H:=
 ⟨I.ok.frames,I.ok.mod,I.bs,IQ I.ok.bsz I.sz,I.stack,I.G4,I.hok,I.bare⟩
theorem Inv.after {Q:VK}{u:H0}(I:Inv X pins σ H s)(h:CE X.stack X.prog X.w H s Q u s'):EP X pins σ Q u s':=by
 obtain⟨v,H',os,bare,un,hok,r,q⟩:=h;obtain⟨hh,g,d,t,os'⟩:=s';obtain rfl:os'=s.os:=os;exact⟨v,H',I.call (h':=hh) (g':=g) (d':=d) (t':=t) (ch:=[]) un hok bare (λb z=>absurd z (by simp)),r,q⟩
end
def Ci (sp:Sp)(dvs:List V)(E:XK)(t:TA):TE:=λσ H Q=>t σ H λvs H1=>sp (vs++dvs) H1 Q E
def Binds (K:HX)(fd:JT)(ps:List Str)(ds:List H0):Prop:=
 ∀(s:Ib) (us:List H0),K.In s.heap->(us++ds).length=ps.length->Oo s fd ⟨us,[]⟩ (ps.zip (us++ds))
theorem Binds.all {K:HX}{fd:JT}{ps:List Str}(h:∀us:List H0,us.length=ps.length->bindArgs fd ⟨us,[]⟩=pure (ps.zip us)):Binds K fd ps []:=λs us _ hl=>by
 rw[JE]at hl ⊢;exact .of_eq (h us hl)
def rZ (CX:Aq)(X:Cx)(E:XK):Prop:=∀(pins:List (Addr×Obj)) (σ:St) (H:Hp) (s:Ib) (e:H0) (s':Ib),Inv X pins σ H s->CX X.stack H s E e s'->X.xe e s'
section
variable {X:Cx}{CX:Aq}{k:Nat}{f C:Addr}{fd:JT}{ps:List Str}{sp:Sp}{dvs:List V}{ds:List H0}{E:XK}{x m:Str}{p pos apos:Pos}{e o:Expr}{es:List Expr}{ta:TE}{t:TA}
theorem yq {pins:List (Addr×Obj)}{σ:St}{H:Hp}{s:Ib}{Q:VK}{us:List H0}{vs:List V}(F:pk X.prog X.w X.K X.mg X.base CX k f fd ps sp)(hr:Room k X.A)(hb:Binds X.K fd ps ds)(hd:Vals dvs ds)(hx:rZ CX X E)
  (I:Inv X pins σ H s) (r:Vals vs us) (h:sp (vs++dvs) H Q E):wpAny (model X.prog X.w) X.A (call (.ref f) us) (EP X pins σ Q) X.xe s:=by
 have r2:Vals (vs++dvs) (us++ds):=r.append hd
 have hl:(us++ds).length=ps.length:=by rw[<-r2.length];exact F.len _ _ _ _ h
 refine wpAny_call (Ni (F.run X.A X.stack s H ⟨us,[]⟩ (us++ds) (vs++dvs) Q E hr I.HP (hb s us I.kIn hl) r2 h) λr s' hq=> ?_)
 cases r with
 | error e=>exact hx pins σ H s e s' I hq
 | ok fl=>
  cases fl with
  | ret u=>exact I.after hq
  | next=>exact KO hq
  | brk=>exact KO hq
  | cont=>exact KO hq
theorem vD (F:pk X.prog X.w X.K X.mg X.base CX k f fd ps sp)(hr:Room k X.A)(hg:Gl X x)(hm:X.mg x=some (.ref f))(hk:Kx X.K (.ref f)=true)(hb:Binds X.K fd ps ds)(hd:Vals dvs ds)(hx:rZ CX X E)
  (ha:PA X (e::es) t) (hdb:iV x:=by decide) (he:IA (e::es) X.env=(false,eval e X.env)::IA es X.env:=by rfl) (hpl:(backTo pos (IA es X.env)).any (·.1)=false:=by rfl) :
  PE X (.Call (.Name x p) (e::es) [] pos) (Ci sp dvs E t):=by
 intro pins s σ H Q I h;refine Jj (kQ I hg hm ?_ hdb)
 refine NO (h₀:=X.base) I.ok.mod.kin hk (cp (ha pos pins s σ H _ I h) λus s1 ⟨vs,H1,I1,r,q⟩=>⟨I1.kIn,?_⟩) he hpl
 exact yq F hr hb hd hx I1 r q
theorem yO (F:pk X.prog X.w X.K X.mg X.base CX k f fd ps sp)(hr:Room k X.A)(hg:Gl X x)(hm:X.mg x=some (.ref f))(hk:Kx X.K (.ref f)=true)(hb:Binds X.K fd ps ds)(hd:Vals dvs ds)(hx:rZ CX X E)
  (hdb:iV x:=by decide):PE X (.Call (.Name x p) [] [] pos) (Ci sp dvs E CQ):=by
 intro pins s σ H Q I h;refine Jj (kQ I hg hm ?_ hdb)
 exact PySem.W.callWith_K0 I.kIn hk (yq (us:=[]) F hr hb hd hx I .nil h)
end
def PK (X:Cx)(kws:List Oq)(t:TA):Prop:=
 ∀(pos:Pos) (pins:List (Addr×Obj)) (s:Ib) (σ:St) (H:Hp) (Q:List V->Hp->Prop),Inv X pins σ H s->t σ H Q->wpAny (model X.prog X.w) X.A (evalAll ((backToKw pos (NK kws X.env)).map (·.2))) (AP X pins σ Q) X.xe s
structure aD (N P:List Str)(sc:LZ):Prop where
 kind:sc.kind= .function
 co:sc.isCoroutine=false
 gen:sc.isGenerator=false
 nd:N.Nodup
 pre:N.take P.length=P
 par:∀x∈P,sc.names.lookup x=some .local\/sc.names.lookup x=some .cell
 nofree:∀y∈sc.names,y.2≠ .free
theorem qd {kindOf:Str->Option KR}{x:Str}:∀{binds:List (Str×H0)} {m:Str->Option H0},(∀v,(x,v)∉binds)->bindL kindOf binds m x=m x
 | [],_,_=>rfl
 | (n,v)::r,m,h=>by
  unfold bindL;rw[qd λw hw=>h w (Ia _ hw)]
  split
  ·have:x≠n:=by rintro rfl;exact h v Ie
   simp[this]
  ·rfl
theorem qf {kindOf:Str->Option KR}{x:Str}:∀{binds:List (Str×H0)} {m:Str->Option H0},(∀v,(x,v)∉binds)->bindC kindOf binds m x=m x
 | [],_,_=>rfl
 | (n,v)::r,m,h=>by
  unfold bindC;rw[qf λw hw=>h w (Ia _ hw)]
  split
  ·rfl
  ·have:x≠n:=by rintro rfl;exact h v Ie
   simp[this]
theorem qe {kindOf:Str->Option KR}{x:Str}{v:H0}:∀{P:List Str} {vs:List H0} {i:Nat} {m:Str->Option H0},P.Nodup->P[i]? =some x->vs[i]? =some v->kindOf x=some .local →
  bindL kindOf (P.zip vs) m x=some v
 | [],_,_,_,_,h,_,_=>by simp at h
 | _::_,[],_,_,_,_,h,_=>by simp at h
 | p::P,w::vs,0,m,nd,h1,h2,hk=>by
  simp at h1 h2;subst h1;subst h2
  show bindL kindOf ((p,w)::P.zip vs) m p=_
  unfold bindL;rw[qd λv hv=>(IT.mp nd).1 (LU hv).1,if_pos hk]
  simp
 | p::P,w::vs,i+1,m,nd,h1,h2,hk=>by
  show bindL kindOf ((p,w)::P.zip vs) m x=_
  unfold bindL;exact qe (i:=i) (IT.mp nd).2 (by simpa using h1) (by simpa using h2) hk
theorem qg {kindOf:Str->Option KR}{x:Str}{v:H0}:∀{P:List Str} {vs:List H0} {i:Nat} {m:Str->Option H0},P.Nodup->P[i]? =some x->vs[i]? =some v->kindOf x≠some .local →
  bindC kindOf (P.zip vs) m x=some v
 | [],_,_,_,_,h,_,_=>by simp at h
 | _::_,[],_,_,_,_,h,_=>by simp at h
 | p::P,w::vs,0,m,nd,h1,h2,hk=>by
  simp at h1 h2;subst h1;subst h2
  show bindC kindOf ((p,w)::P.zip vs) m p=_
  unfold bindC;rw[qf λv hv=>(IT.mp nd).1 (LU hv).1,if_neg hk]
  simp
 | p::P,w::vs,i+1,m,nd,h1,h2,hk=>by
  show bindC kindOf ((p,w)::P.zip vs) m x=_
  unfold bindC;exact qg (i:=i) (IT.mp nd).2 (by simpa using h1) (by simpa using h2) hk
def start (N:List Str)(vs:List V):St:=vs.map some++IE (N.length - vs.length) none
def lF (CX:Aq)(P:IJ)(w:JA)(K:HX)(mg:Str->Option H0)(base:Heap)(N:List Str)(qual:Str)(scope:LZ)(f:Addr)(cd:H0)(A:Jl)(outer:List Env)(s:Ib)(H:Hp)(E:XK):Cx where
 prog:=P
 w:=w
 K:=K
 mg:=mg
 base:=base
 A:=A.deeper (envOfC qual scope s.heap.objs.size f cd)
 N:=N
 s₀:=s
 H₀:=H
 env:=envOfC qual scope s.heap.objs.size f cd
 outer:=outer
 stack:=envOfC qual scope s.heap.objs.size f cd::outer
 ex:=[]
 calm:=true
 fn:=λ_=>true
 pn:=[]
 xe:=λe s'=>wpAny (model P w) (A.deeper (envOfC qual scope s.heap.objs.size f cd)) (leaving (envOfC qual scope s.heap.objs.size f cd) e) (λ_ s''=>CX outer H s E e s'') (λe' s''=>CX outer H s E e' s'') s'
theorem uf {sc:LZ}{n:Nat}{x:Str}(h:sc.names.lookup x=some .cell):∃c,(Kw n sc.names []).lookup x=some c:=by
 have q:=Lo sc.names n [] (.inl h);exact Option.isSome_iff_exists.mp q
theorem pQ {CX:Aq}{P:IJ}{w:JA}{K:HX}{mg:Str->Option H0}{base:Heap}{N ps:List Str}{qual:Str}{scope:LZ}{f:Addr}{cd:H0}{A:Jl}{outer:List Env}{s s1:Ib}{H:Hp}{E:XK}{us:List H0}{vs:List V}
  (S:aD N ps scope) (hd:A.handled=none) (e0:Aj P w K mg base A outer s H) (hl:vs.length=ps.length) (r:Vals vs us)
  (x:InCallC s s.heap.objs.size (bindL (envOfC qual scope s.heap.objs.size f cd).kindOf (ps.zip us) λ_=>none) (Kw (s.heap.objs.size+1) scope.names []) (bindC (envOfC qual scope s.heap.objs.size f cd).kindOf (ps.zip us) λ_=>none) s1) :
  Inv (lF CX P w K mg base N qual scope f cd A outer s H E) [] (start N vs) H s1:=by
 have hpl:ps.length<=N.length:=by have:=congrArg KG S.pre;rw[Jb]at this;omega
 obtain⟨h1,tk,rfl,hk⟩:=x.done
 have noA:∀b:Addr,b∉(lF CX P w K mg base N qual scope f cd A outer s H E).ex:=λb z=>absurd (show b∈([]:List Addr)from z) (by simp)
 refine⟨⟨e0.mod,S.kind,rfl,rfl,Il _,λy z c h1 h2=> ?_,λy hy=> ?_,λy c _ h=> ?_,λ_=>hd,Around.frames_deeper e0.frames,.inr ⟨rfl,rfl⟩,λb z=>absurd z (noA b),e0.bs,e0.bsz,λb _ _=>noA b,λb z=>absurd z (noA b),e0.funs,e0.frf⟩,
  rfl,e0.bare,Un.kept hk,⟨_,x.toInCall.ns,λi y v h1 h2 h3=> ?_⟩,λy c h=>⟨_,x.cell y c h⟩,e0.hok.fresh (Il _),λy c h=> ?_,λp hp=>absurd (show p∈([]:List (Addr×Obj))from hp) (by simp),e0.hok.kept hk,?_⟩
 ·exact name_of_addr x.apart (J8 h1) (J8 h2)
 ·have hy:scope.names.lookup y=some .cell\/scope.names.lookup y=some .free:=hy
  rcases hy with hy | hy
  ·exact uf hy
  ·exact absurd rfl (S.nofree _ (J8 hy))
 ·exact KF (x.above y c (J8 h))
 ·have hi:i<vs.length:=by
   unfold start at h2
   by_cases hi:i<vs.length
   ·exact hi
   ·rw[KY (by simpa using hi)]at h2
    rw[Lg]at h2
    split at h2 <;> cases h2
  have ha:vs[i]? =some v:=by
   unfold start at h2;rw[Ki (by simpa using hi),IF]at h2
   cases e:vs[i]? with
   | none=>rw[e]at h2;cases h2
   | some a=>rw[e]at h2;cases h2;rfl
  obtain⟨u,hu,rv⟩:=r.get ha
  have hp:ps[i]? =some y:=by
   rw[<-S.pre,Mv (by omega)];exact h1
  have ndP:ps.Nodup:=by rw[<-S.pre];exact S.nd.sublist (List.take_sublist _ _)
  refine⟨u,rv,?_⟩
  rcases S.par y (Jg hp)with k | k
  ·exact .inl ⟨k,qe ndP hp hu k⟩
  ·obtain⟨c,e⟩:=uf (n:=s.heap.objs.size+1) k
   refine .inr ⟨.inl k,c,e,?_⟩
   have q:=x.cell y c e;rw[qg ndP hp hu (by show scope.names.lookup y≠_;rw[k];decide)]at q
   exact q
 ·exact e0.hok.fresh (KF (x.above y c (J8 h)))
 ·unfold start
  show _=N.length
  rw[Ih,Ig,List.length_replicate];omega
theorem Gj {CX:Aq}{P:IJ}{w:JA}{K:HX}{mg:Str->Option H0}{base:Heap}{k:Nat}{f:Addr}{name qual:Str}{params:O8}{body:List Stmt}{scope:LZ}{dV kV doc pm cdv ct oc:H0}{an od:Option Addr}
  {osl:Array (Option H0)} {N ps:List Str} {sp:Sp} (lk:K.lookup f=some ⟨oc,od,.func (Ly name qual params body scope dV kV doc pm an cdv ct),osl⟩) (hcd:Nx K cdv qual=true) (S:aD N ps scope)
  (len:∀vs H Q E,sp vs H Q E->vs.length=ps.length)
  (hbody:∀(A:Jl) (outer:List Env) (s:Ib) (H:Hp) (vs:List V) (Q:VK) (E:XK),Room k (A.deeper (envOfC qual scope s.heap.objs.size f cdv))->sp vs H Q E →
   ∃t,PSs (lF CX P w K mg base N qual scope f cdv A outer s H E) body t/\t { nx:=λ_ H'=>Q .non H',rt:=Q } (start N vs) H) :
  pk P w K mg base CX (k+1) f (Ly name qual params body scope dV kV doc pm an cdv ct) ps sp:=by
 refine⟨len,λA outer s H args us vs Q E hr e0 hb r hsp=> ?_⟩
 have hl:=len _ _ _ _ hsp
 have KX:K.In s.heap:=e0.mod.kin.keeps λb o e=>(e0.bs b o e).1
 have lim:s.heap.NoLimit:=e0.mod.nolimit.keeps λb o e=>(e0.bs b o e).1
 have hkind:∀y∈ps.zip us,scope.names.lookup y.1=some .local\/(scope.names.lookup y.1=some .cell/\((Kw (s.heap.objs.size+1) scope.names []).lookup y.1).isSome=true):=λ⟨n,v⟩ hy=>by
  rcases S.par n (LU hy).1 with q | q
  ·exact .inl q
  ·exact .inr ⟨q,Lo _ _ _ (.inl q)⟩
 refine Nj hr.depth (KX _ _ lk) rfl S.co S.gen rfl (NP KX hcd) (hb _ _ _ _ ?_)
 refine Mc S.kind hkind λenv he s1 x=> ?_
 subst he;refine⟨lim.keeps x.toInCall.keep,codeAny_func ?_⟩
 obtain⟨t,ht,hq⟩:=hbody A outer s H vs Q E (hr.deeper _) hsp
 have I:Inv (lF CX P w K mg base N qual scope f cdv A outer s H E) [] (start N vs) H s1:=pQ S hr.hd e0 hl r x;refine La (ht [] s1 (start N vs) H _ I hq) (λfl s' hs=> ?_) λe s' hs=>hs
 have fin:∀{σ':St} {H':Hp} {v:V} {u:H0},Inv (lF CX P w K mg base N qual scope f cdv A outer s H E) [] σ' H' s'->RelV v u->Q v H'->CE outer P w H s Q u s':=
  λ{σ' H' v u} J rv q=>⟨v,H',J.os,J.bare,J.base,J.hok,rv,q⟩
 cases fl with
 | ret u=>
  obtain⟨v,σ',H',J,rv,q⟩:=hs
  exact fin J rv q
 | next=>
  obtain⟨σ',H',J,q⟩:=hs
  exact fin (v:=V.non) (u:=Jm) J rfl q
 | brk=>
  obtain⟨_,_,_,q⟩:=hs
  exact KO q
 | cont=>
  obtain⟨_,_,_,q⟩:=hs;exact KO q
end L2
namespace HT
open PySem PyProof.Rows
section
variable {prog:IJ}{w:JA}{A:Jl}{E:H0->Ib->Prop}{s:Ib}
theorem cat_tup {t b:Addr}{vs ws:List H0}{Q:H0->Ib->Prop}(ht:Pf s.heap t vs.toArray)(hb:Pf s.heap b ws.toArray)(hv:vs≠ [])
  (h1:ws= []->Q (.ref t) s) (h2:ws≠ []->Q (.ref s.heap.objs.size) { s with heap:=s.heap.push { cls:=.type "tuple",data:=.seq (vs++ws).toArray } })
  (hsz:vs.length+ws.length<=sizeLine):wpAny (model prog w) A (JZ .Add (.ref t) (.ref b)) Q E s:=by
 obtain⟨⟨cls,dd,data,sl⟩,ho,hc,n,hd⟩:=id ht;obtain⟨⟨cls2,dd2,data2,sl2⟩,ho2,hc2,n2,hd2⟩:=id hb;simp only at hc hd hc2 hd2;subst hc hd hc2 hd2
 have e:vs.toArray++ws.toArray=(vs++ws).toArray:=by simp
 by_cases hw:ws= []
 ·exact Oz ⟨_,ho,rfl⟩ ⟨_,ho2,rfl⟩ MQ N8 Lp Lc (K7 _ _)
   (tuple_addW1 t b vs.toArray ws.toArray n n2 dd dd2 sl sl2 (by simpa using hv) (by simp[hw])) ⟨ho,ho2,h1 hw⟩
 ·refine Oz ⟨_,ho,rfl⟩ ⟨_,ho2,rfl⟩ MQ N8 Lp Lc (K7 _ _)
   (tuple_addW2 t b vs.toArray ws.toArray n n2 dd dd2 sl sl2 (by simpa using hv) (by simpa using hw) (by rw[Iq,Iq];exact hsz)) ⟨ho,ho2,?_⟩
  rw[e];exact h2 hw
def sIx (n d:Nat):Option Int->Nat
 | none=>d
 | some v=>if v<0 then(v+(n:Int)).toNat else min v.toNat n
theorem sIx_none (n d:Nat):sIx n d none=d:=rfl
theorem sIx_nat (n d k:Nat):sIx n d (some (k:Int))=min k n:=by
 show(if (k:Int)<0 then((k:Int)+(n:Int)).toNat else min (k:Int).toNat n)=min k n
 rw[if_neg (by omega),Jw]
theorem CY (n d:Nat)(hd:d<=n)(o:Option Int):sIx n d o<=n:=by
 cases o with
 | none=>exact hd
 | some v=>
  show(if v<0 then(v+(n:Int)).toNat else min v.toNat n)<=n
  by_cases hv:v<0
  ·rw[if_pos hv];omega
  ·rw[if_neg hv];exact Nat.min_le_right _ _
theorem wq (v:Int)(n d:Nat):(if v<0 then max (v+(n:Int)) 0 else min v (n:Int))=((sIx n d (some v):Nat):Int):=by
 show(if v<0 then max (v+(n:Int)) 0 else min v (n:Int))=(((if v<0 then(v+(n:Int)).toNat else min v.toNat n):Nat):Int)
 by_cases hv:v<0
 ·simp only[if_pos hv];omega
 ·simp only[if_neg hv];omega
theorem vg (lo hi:Option Int)(n:Nat):JD lo hi 1 (n:Int)=(((sIx n 0 lo:Nat):Int),((sIx n n hi:Nat):Int)):=by
 have h1:¬ ((1:Int)<0):=by omega
 unfold JD;simp only[h1,if_false];refine Prod.ext ?_ ?_
 ·cases lo with
  | none=>rfl
  | some v=>exact wq v n 0
 ·cases hi with
  | none=>rfl
  | some v=>exact wq v n n
theorem uG (i j:Nat):Je (i:Int) (j:Int) 1=j - i:=by
 unfold Je
 have h1:(1:Int) > 0:=by omega
 simp only[h1,if_true,M4]
 split <;> omega
theorem mT {v:H0}{o:Option Int}{Q:Option Int->Ib->Prop}(p:N9 v o)(h:Q o s):wpAny (model prog w) A (ON v) Q E s:=by
 cases p with
 | none=>exact Mp h
 | int i t=>exact slicePart_int h
theorem gF {sl:Addr}{vl vu:H0}{lo hi:Option Int}{n:Nat}{Q:Int×Int×Nat->Ib->Prop}(hs:s.heap.IsSliceOf sl vl vu .none)(pl:N9 vl lo)(pu:N9 vu hi)
  (h:Q (((sIx n 0 lo:Nat):Int),1,sIx n n hi - sIx n 0 lo) s):wpAny (model prog w) A (Kb (.ref sl) (pure (n:Int))) Q E s:=by
 obtain⟨os,hos,hcs,hds⟩:=id hs;unfold Kb Mm;refine HY (HY (Jz hos hds (x:=vl) rfl (HY (Jz hos hds (x:=vu) rfl (HY (Jz hos hds (x:=.none) rfl (Ik ?_)))))))
 refine HY (Mp ?_)
 show wpAny _ _ (if ((1:Int) == 0)=true then _ else _) _ _ s
 rw[if_neg (by decide)]
 refine HY (mT pl (HY (mT pu (HY (Ik ?_)))))
 show wpAny _ _ (match JD lo hi 1 (n:Int)with | (lo,hi)=>pure (lo,(1:Int),Je lo hi 1)) _ _ s
 rw[vg lo hi n]
 show wpAny _ _ (pure (((sIx n 0 lo:Nat):Int),(1:Int),Je ((sIx n 0 lo:Nat):Int) ((sIx n n hi:Nat):Int) 1)) _ _ s
 rw[uG];exact Ik h
theorem yG (xs:Array H0)(i k:Nat):((Iw k).filterMap λ(m:Nat)=>xs[((i:Int)+(m:Int)*1).toNat]?).toArray=((xs.toList.drop i).take k).toArray:=by
 have e:(λ(m:Nat)=>xs[((i:Int)+(m:Int)*1).toNat]?)=λm=>xs[i+m]?:=by
  funext m
  have:((i:Int)+(m:Int)*1).toNat=i+m:=by omega
  rw[this]
 rw[e]
 have:=pick_run xs i k;rw[NR]at this
 have e2:((λx=>xs[x]?)∘λx=>i+x)=λm=>xs[i+m]?:=rfl
 rw[e2]at this;rw[this]
theorem getItem_tuple_cut {t sl:Addr}{items:Array H0}{vl vu:H0}{lo hi:Option Int}{Q:H0->Ib->Prop}(ht:Pf s.heap t items)(hs:s.heap.IsSliceOf sl vl vu .none)(pl:N9 vl lo)(pu:N9 vu hi)
  (hw:¬ (sIx items.size 0 lo=0/\sIx items.size items.size hi=items.size))
  (h:Q (.ref s.heap.objs.size) { s with heap:=s.heap.push { cls:=.type "tuple",data:=.seq ((items.toList.drop (sIx items.size 0 lo)).take (sIx items.size items.size hi - sIx items.size 0 lo)).toArray } })
  (hsz:items.size<=sizeLine):wpAny (model prog w) A (getItem (.ref t) (.ref sl)) Q E s:=by
 have htake:sizeOk (.seq ((items.toList.drop (sIx items.size 0 lo)).take (sIx items.size items.size hi - sIx items.size 0 lo)).toArray):=by
  show((items.toList.drop (sIx items.size 0 lo)).take (sIx items.size items.size hi - sIx items.size 0 lo)).toArray.size<=sizeLine
  rw[Iq,Jb,Ku,LS];omega
 have hj:sIx items.size items.size hi<=items.size:=CY _ _ (Il _) hi;obtain⟨os,hos,hcs,hds⟩:=id hs
 have hTs:s.TypeIs (.ref sl) "slice":=⟨os,hos,hcs⟩;unfold getItem
 try with_reducible refine Ln ?_
 first | refine HY (Ik ?_) | skip
 refine HY (MA ht.typeIs (by decide) ?_)
 refine HY (Jn (name:=Ip "__getitem__") ht.typeIs IH
  (JL IH ht.typeIs L1 ?_ (Mk _ _)))
 show wpAny _ _ (KW (.ref t) >>= _) _ _ s
 refine HY (ML ht ?_)
 refine HY (Lb hTs ?_)
 rw[if_pos (by decide)]
 refine HY (gF hs pl pu ?_)
 have hno:¬ ((((sIx items.size 0 lo:Nat):Int) == 0&&(1:Int) == 1&&(sIx items.size items.size hi - sIx items.size 0 lo) == items.size)=true):=by
  intro q;rw[HZ,HZ]at q
  have q1:((sIx items.size 0 lo:Nat):Int)=0:=eq_of_beq q.1.1
  have q2:sIx items.size items.size hi - sIx items.size 0 lo=items.size:=eq_of_beq q.2;exact hw ⟨by omega,by omega⟩
 show wpAny _ _ (if (((sIx items.size 0 lo:Nat):Int) == 0&&(1:Int) == 1&&(sIx items.size items.size hi - sIx items.size 0 lo) == items.size)=true then _ else _) _ _ s
 rw[if_neg hno,yG]
 first
  | exact HY (m:=IZ _) (Jh (Ik ⟨_,rfl,Ik h⟩) htake)
  | exact HY (m:=IZ _) (Jh (HY (Ik (Ik ⟨_,rfl,Ik h⟩))) htake)
  | exact HY (HY (m:=IZ _) (Jh (Ik (Ik ⟨_,rfl,Ik h⟩)) htake))
  | exact HY (HY (m:=IZ _) (Jh (Ik ⟨_,rfl,Ik h⟩) htake))
end
end HT
namespace L2
open PySem PySem.Spec PyProof.Rows
abbrev TO:=St->Hp->(Option Int->Hp->Prop)->Prop
def PO (X:Cx)(e:Option Expr)(t:TO):Prop:=
 ∀(pins:List (Addr×Obj)) (s:Ib) (σ:St) (H:Hp) (Q:Option Int->Hp->Prop),Inv X pins σ H s->t σ H Q →
  wpAny (model X.prog X.w) X.A (evalPart e X.env) (λu s'=> ∃o H',Inv X pins σ H' s'/\N9 u o/\Q o H') X.xe s
def AB:TO:=λ_ H Q=>Q none H
def EM (t:TE):TO:=λσ H Q=>t σ H λx H1=> ∃i,x= .int i/\Q (some i) H1
theorem uZ {ns:List Int}:∀{us:List H0},Vals (ns.map V.int) us->L3 us ns:=by
 induction ns with
 | nil=>intro us r;rw[LC]at r;cases r;exact .nil
 | cons n ns ih=>
  intro us r;rw[Ic]at r
  cases r with
  | cons r1 r2=>
   obtain⟨t,e⟩:=r1;subst e;exact .cons n t (ih r2)
section
variable {X:Cx}{e:Expr}{te:TE}{lo hi:Option Expr}{tl th:TO}{pos p2:Pos}
theorem Bf:PO X none AB:=by
 intro pins s σ H Q I h;rw[Oa];exact Ik ⟨none,H,I,.none,h⟩
theorem Be (h:PE X e te):PO X (some e) (EM te):=by
 intro pins s σ H Q I hw;rw[evalPart_some];refine cp (h pins s σ H _ I hw) λu s1 hh_=> ?_
 obtain⟨x,H1,I1,r1,q1⟩:=hh_;obtain⟨i,rfl,q⟩:=q1;obtain⟨t,rfl⟩:=r1;exact⟨some i,H1,I1,.int i t,q⟩
def SlR (X:Cx)(r:V->Option Int->Option Int->Hp->VK->Prop):Prop:=
 ∀(pins:List (Addr×Obj)) (s:Ib) (σ:St) (H:Hp) (x:V) (v vl vu:H0) (lo hi:Option Int) (sl:Addr) (Q:VK),Inv X pins σ H s->RelV x v->s.heap.IsSliceOf sl vl vu .none->N9 vl lo->N9 vu hi->r x lo hi H Q →
  ∃T id,KU (.type T) "__getitem__" =pure (some (.builtin id))/\s.TypeIs v T/\wpAny (model X.prog X.w) X.A (getItem v (.ref sl)) (EP X pins σ Q) X.xe s
theorem SlR.or {r r':V->Option Int->Option Int->Hp->VK->Prop}(h:SlR X r)(h':SlR X r'):SlR X (λx lo hi H Q=>r x lo hi H Q\/r' x lo hi H Q):=by
 intro pins s σ H x v vl vu lo hi sl Q I rx hs pl pu q;rcases q with q | q
 ·exact h pins s σ H x v vl vu lo hi sl Q I rx hs pl pu q
 ·exact h' pins s σ H x v vl vu lo hi sl Q I rx hs pl pu q
def tSl (r:V->Option Int->Option Int->Hp->VK->Prop)(te:TE)(tl th:TO):TE:=λσ H Q=>te σ H λx H1=>tl σ H1 λl H2=>th σ H2 λu H3=>r x l u H3 Q
theorem yI {r:V->Option Int->Option Int->Hp->VK->Prop}(hr:SlR X r)(he:PE X e te)(hl:PO X lo tl)(hu:PO X hi th):PE X (.Subscript e (.Slice lo hi none p2) pos) (tSl r te tl th):=by
 intro pins s σ H Q I h;refine Os (cp (he pins s σ H _ I h) λv s1 hh_=> ?_)
 obtain⟨x,H1,I1,r1,q1⟩:=hh_;refine wpAny_Slice (cp (hl pins s1 σ H1 _ I1 q1) λvl s2 ⟨l,H2,I2,pl,q2⟩=>cp (hu pins s2 σ H2 _ I2 q2) λvu s3 hh_=> ?_)
 obtain⟨u,H3,I3,pu,q3⟩:=hh_;rw[Oa];refine Ik ?_
 have I4:Inv X pins σ H3 { s3 with heap:=s3.heap.push { cls:=.type "slice",data:=.fields #[vl,vu,.none] } }:=I3.kept (t':=s3.toks) λb ob q=>Ii _ q
 obtain⟨T,id,hT,ht,hg⟩:=hr pins { s3 with heap:=s3.heap.push { cls:=.type "slice",data:=.fields #[vl,vu,.none] } } σ H3 x v vl vu l u s3.heap.objs.size Q I4 r1 (Md ..) pl pu q3
 show wpAny (model X.prog X.w) X.A (Ob e (.Slice lo hi none p2) v (.ref s3.heap.objs.size)) (EP X pins σ Q) X.xe { s3 with heap:=s3.heap.push { cls:=.type "slice",data:=.fields #[vl,vu,.none] } }
 exact tail_any (ops:=[.ref s3.heap.objs.size,v]) ht hT hg (by with_unfolding_all rfl)
def ud (xs:List V)(lo hi:Option Int):List V:=(xs.drop (HT.sIx xs.length 0 lo)).take (HT.sIx xs.length xs.length hi - HT.sIx xs.length 0 lo)
theorem lV (xs:List V)(lo hi:Option Int):(ud xs lo hi).length<=xs.length:=by
 unfold ud;rw[Jb,Ku];omega
def rSlT (K:HX):V->Option Int->Option Int->Hp->VK->Prop:=λx lo hi H Q=> ∃a xs,x= .ref a/\SqT K H a xs ∧
 ¬(HT.sIx xs.length 0 lo=0/\HT.sIx xs.length xs.length hi=xs.length)/\∀p,H p=none->Q (.ref p) (upd H p (.tup (ud xs lo hi)))
theorem sl_tup:SlR X (rSlT X.K):=by
 intro pins s σ H x v vl vu lo hi sl Q I rx hs pl pu h;obtain⟨a,xs,rfl,hx,hw,q⟩:=h;cases rx;obtain⟨its,r,ht,hz⟩:=I.tuple hx
 have hlen:its.toArray.size=xs.length:=by rw[Iq];exact r.length.symm
 refine⟨"tuple",_,IH.lookup,ht.typeIs,?_⟩
 refine HT.getItem_tuple_cut ht hs pl pu (by rw[hlen];exact hw) ?_ (by rw[hlen];exact hz)
 rw[hlen];refine⟨.ref s.heap.objs.size,_,I.laid (t':=s.toks) (o:=.tup (ud xs lo hi)) (λb ob q=>Ii _ q) (Il _) ?_,rfl,q _ (I.hok.fresh (Il _))⟩
 exact⟨IQ (lV xs lo hi) hz,_,(r.drop (HT.sIx xs.length 0 lo)).take (HT.sIx xs.length xs.length hi - HT.sIx xs.length 0 lo),NS _ _⟩
def Fc (K:HX):R2:=λx y H Q=> ∃a b xs ys,x= .ref a/\y= .ref b/\SqT K H a xs/\SqT K H b ys/\xs≠ []/\xs.length+ys.length<=sizeLine ∧
 (ys= []->Q (.ref a) H)/\(ys≠ []->∀p,H p=none->Q (.ref p) (upd H p (.tup (xs++ys))))
theorem Vals.Da {xs:List V}{us:List H0}(r:Vals xs us):us= [] ↔xs= []:=by
 cases r with
 | nil=>simp
 | cons _ _=>simp
theorem Bw:qj X (JZ .Add) (Fc X.K):=by
 intro pins s σ H x y v u Q I rx ry h;obtain⟨a,b,xs,ys,rfl,rfl,ha,hb,hx,hz,q1,q2⟩:=h;cases rx;cases ry;obtain⟨its,r1,p1,_⟩:=I.tuple ha;obtain⟨its2,r2,p2,_⟩:=I.tuple hb;refine HT.cat_tup p1 p2 (λz=>hx (r1.Da.mp z)) (λz=>⟨.ref a,H,I,rfl,q1 (r2.Da.mp z)⟩) (λz=> ?_) (by rw[<-r1.length,<-r2.length];exact hz)
 refine⟨.ref s.heap.objs.size,_,I.laid (t':=s.toks) (o:=.tup (xs++ys)) (λb ob q=>Ii _ q) (Il _) ?_,rfl,q2 (λw=>z (r2.Da.mpr w)) _ (I.hok.fresh (Il _))⟩
 exact⟨by rw[Ih];exact hz,_,r1.append r2,NS _ _⟩
end
def ixN (n:Nat)(i:Int):Option Nat:=if 0<=i then(if i<n then some i.toNat else none)else if -(n:Int)<=i then some (i+n).toNat else none
def atI {α:Type}(xs:List α)(i:Int):Option α:=(ixN xs.length i).bind λj=>xs[j]?
theorem BJ {n:Nat}{i:Int}{j:Nat}(h:ixN n i=some j):seqIndex? i n=some j/\j<n/\-(n:Int)<=i/\i<n:=by
 unfold ixN at h
 by_cases h0:0<=i
 ·rw[if_pos h0]at h
  by_cases h1:i<n
  ·rw[if_pos h1]at h
   have e:i.toNat=j:=IX h;exact⟨by rw[seqIndex_of h0 h1,e],by omega,by omega,h1⟩
  ·rw[if_neg h1]at h;cases h
 ·rw[if_neg h0]at h
  by_cases h1 : -(n:Int)<=i
  ·rw[if_pos h1]at h
   have e:(i+n).toNat=j:=IX h;exact⟨by rw[seqIndex_neg (by omega) h1,e],by omega,h1,by omega⟩
  ·rw[if_neg h1]at h;cases h
theorem rX {α:Type}{xs:List α}{i:Int}{v:α}(h:atI xs i=some v):∃j,seqIndex? i xs.length=some j/\xs[j]? =some v/\j<xs.length/\-(xs.length:Int)<=i/\i<xs.length:=by
 unfold atI at h
 cases e:ixN xs.length i with
 | none=>rw[e]at h;cases h
 | some j=>
  rw[e]at h;obtain⟨h1,h2,h3,h4⟩:=BJ e;exact⟨j,h1,h,h2,h3,h4⟩
def wC (b:Expr):Prop:=∀o i,NL b false o i=operate [o,i] (getItem o i)
def IxR (X:Cx)(r:R2):Prop:=
 ∀(value slice:Expr) (pins:List (Addr×Obj)) (s:Ib) (σ:St) (H:Hp) (x y:V) (v u:H0) (Q:VK),Inv X pins σ H s->RelV x v->RelV y u->r x y H Q →
  NL slice false v u=operate [v,u] (getItem v u)->wpAny (model X.prog X.w) X.A (Ob value slice v u) (EP X pins σ Q) X.xe s
def MtR (X:Cx)(id:String)(r:V->List V->Hp->VK->Prop):Prop:=
 ∀(pins:List (Addr×Obj)) (s:Ib) (σ:St) (H:Hp) (x:V) (xs:List V) (v:H0) (us:List H0) (Q:VK),Inv X pins σ H s->RelV x v->Vals xs us->r x xs H Q →
  wpAny (model X.prog X.w) X.A (call (.builtin id) (v::us)) (EP X pins σ Q) X.xe s
section
variable {X:Cx}{a b:Expr}{ta tb:TE}{pos:Pos}
theorem IxR.or {r r':R2}(h:IxR X r)(h':IxR X r'):IxR X (λx y H Q=>r x y H Q\/r' x y H Q):=by
 intro value slice pins s σ H x y v u Q I rx ry q hs;rcases q with q | q
 ·exact h value slice pins s σ H x y v u Q I rx ry q hs
 ·exact h' value slice pins s σ H x y v u Q I rx ry q hs
def Fb (K:HX):R2:=λx y H Q=> ∃p xs i v,x= .ref p/\y= .int i/\SqL K H p xs/\atI xs i=some v/\Q v H
def E8 (K:HX):R2:=λx y H Q=> ∃p xs i v,x= .ref p/\y= .int i/\SqT K H p xs/\atI xs i=some v/\Q v H
def E9:R2:=λx y H Q=> ∃z i c,x= .str z/\y= .int i/\z.length<=sizeLine/\atI z.cps.toList i=some c/\Q (.str ⟨#[c]⟩) H
theorem ix_list:IxR X (Fb X.K):=by
 intro value slice pins s σ H x y v u Q I rx ry h hs;obtain⟨p,xs,i,z,rfl,rfl,hq,he,q⟩:=h;cases rx;obtain⟨t,rfl⟩:=ry;obtain⟨its,r,pl,hz⟩:=I.list hq;obtain⟨j,h1,h2,h3,h4,h5⟩:=rX he;obtain⟨w,ew,rw'⟩:=r.get h2
 have hl:=r.length
 have hn:=nT
 have fin:EP X pins σ Q w s:=⟨z,H,I,rw',q⟩
 by_cases h0:0<=i
 ·have hj:i.toNat=j:=by
   rw[seqIndex_of h0 h5]at h1;exact IX h1
  exact item_listR pl.isList h0 (by omega) (by rw[hj];simpa using ew) fin hs
 ·have hj:(i+(its.toArray.size:Int)).toNat=j:=by
   rw[seqIndex_neg (by omega) h4]at h1
   rw[Iq,<-hl];exact IX h1
  exact MY (x:=w) pl.isList.typeIs slot_list_getitem.lookup
   (wpAny_getItem_list_neg (Q:=λr s'=>r=w/\EP X pins σ Q r s') pl.isList (by omega) (by rw[Iq] <;> omega) (by omega) (by rw[hj];simpa using ew) ⟨rfl,fin⟩) hs
theorem ix_tup:IxR X (E8 X.K):=by
 intro value slice pins s σ H x y v u Q I rx ry h hs;obtain⟨p,xs,i,z,rfl,rfl,hq,he,q⟩:=h;cases rx;obtain⟨t,rfl⟩:=ry;obtain⟨its,r,pl,hz⟩:=I.tuple hq;obtain⟨j,h1,h2,h3,h4,h5⟩:=rX he;obtain⟨w,ew,rw'⟩:=r.get h2
 have hl:=r.length
 have hn:=nT
 have fin:EP X pins σ Q w s:=⟨z,H,I,rw',q⟩
 exact MY (x:=w) pl.typeIs slot_tuple_getitem.lookup
  (getItem_tuple (j:=j) (Q:=λr s'=>r=w/\EP X pins σ Q r s') pl (by omega) (by omega) (by rw[Iq,<-hl];exact h1) (by simpa using ew) ⟨rfl,fin⟩) hs
theorem Eb:IxR X E9:=by
 intro value slice pins s σ H x y v u Q I rx ry h hs;obtain⟨z,i,c,rfl,rfl,hz,he,q⟩:=h;obtain⟨t,rfl⟩:=rx;obtain⟨t',rfl⟩:=ry;obtain⟨j,h1,h2,h3,h4,h5⟩:=rX he
 have hl:z.cps.toList.length=z.length:=by simp[Str.length]
 rw[hl]at h1 h4 h5
 have hn:=nT
 exact tail_any (typeIs_str s z t) slot_str_getitem.lookup (getItem_str (c:=c) (by
  have e1:decide (i< -(2 ^ 63:Int))=false:=decide_eq_false (by omega)
  have e2:decide (i ≥ 2 ^ 63)=false:=decide_eq_false (by omega)
  rw[e1,e2,Bool.or_false]) (by rw[h1];simpa using h2) ⟨.str ⟨#[c]⟩,H,I.tok _,⟨_,rfl⟩,q⟩) hs
def rIx (K:HX):R2:=λx y H Q=>Fb K x y H Q\/E8 K x y H Q\/E9 x y H Q
theorem Ed:IxR X (rIx X.K):=ix_list.or (ix_tup.or Eb)
theorem qr (lo hi:Option Int)(n:Nat):(Lx lo hi none n).1=((HT.sIx n 0 lo:Nat):Int)/\(Lx lo hi none n).2.1=((HT.sIx n n hi:Nat):Int)/\(Lx lo hi none n).2.2=1:=by
 refine⟨?_,?_,rfl⟩
 ·cases lo with
  | none=>simp[Lx,HT.sIx]
  | some i=>
   simp only[Lx,HT.sIx,OB,show(1:Int) > 0 by decide,if_true]
   by_cases h:i<0
   ·simp only[h,if_true] <;> omega
   ·simp only[h,if_false] <;> omega
 ·cases hi with
  | none=>simp[Lx,HT.sIx]
  | some i=>
   simp only[Lx,HT.sIx,OB,show(1:Int) > 0 by decide,if_true]
   by_cases h:i<0
   ·simp only[h,if_true] <;> omega
   ·simp only[h,if_false] <;> omega
theorem oM (its:List H0)(lo hi:Option Int):O9 its.toArray lo hi none=((its.drop (HT.sIx its.length 0 lo)).take (HT.sIx its.length its.length hi - HT.sIx its.length 0 lo)).toArray:=by
 obtain⟨h1,h2,h3⟩:=qr lo hi its.toArray.size;unfold O9;rw[h1,h2,h3];simp only[sliceRange_one,pick_run,Iq] <;> rfl
def rSlL (K:HX):V->Option Int->Option Int->Hp->VK->Prop:=λx lo hi H Q=> ∃a xs,x= .ref a/\SqL K H a xs/\∀p,H p=none->Q (.ref p) (upd H p (.lst (ud xs lo hi)))
theorem AH:SlR X (rSlL X.K):=by
 intro pins s σ H x v vl vu lo hi sl Q I rx hs pl pu h;obtain⟨a,xs,rfl,hx,q⟩:=h;cases rx;obtain⟨its,r,ht,hz⟩:=I.list hx
 have hlen:=r.length;refine⟨"list",_,slot_list_getitem.lookup,ht.isList.typeIs,?_⟩
 refine MB ht.isList hs pl pu .none (by simp) ?_ (by rw[Iq] <;> omega)
 rw[oM,<-hlen];refine⟨.ref s.heap.objs.size,_,I.laid (t':=s.toks) (o:=.lst (ud xs lo hi)) (λb ob q=>Ii _ q) (Il _) ?_,rfl,q _ (I.hok.fresh (Il _))⟩
 exact⟨IQ (lV xs lo hi) hz,_,0,(r.drop (HT.sIx xs.length 0 lo)).take (HT.sIx xs.length xs.length hi - HT.sIx xs.length 0 lo),Iz _ rfl⟩
theorem call_len_seq:CallR X (.builtin "len") (λxs H Q=> ∃p ys,xs= [.ref p]/\(SqL X.K H p ys\/SqT X.K H p ys)/\Q (.int ys.length) H):=by
 intro pins s σ H xs us Q I r h;obtain⟨p,ys,rfl,hq,q⟩:=h;obtain⟨u,rfl,rx⟩:=mK r;cases rx
 have hn:=nT;rcases hq with hq | hq
 ·obtain⟨its,r',pl,hz⟩:=I.list hq
  have hlen:=r'.length;exact Calls.call_len_list pl.isList (by simp only[Iq] <;> omega) ⟨.int ys.length,H,I.tok _,⟨s.toks+1,by rw[Iq,hlen]⟩,q⟩
 ·obtain⟨its,r',pl,hz⟩:=I.tuple hq
  have hlen:=r'.length;exact len_tuple pl (by simp only[Iq] <;> omega) ⟨.int ys.length,H,I.tok _,⟨s.toks+1,by rw[Iq,hlen]⟩,q⟩
theorem rS:CallR X (.builtin "len") (λxs H Q=> ∃z,xs= [.str z]/\z.length<=sizeLine/\Q (.int z.length) H):=by
 intro pins s σ H xs us Q I r h;obtain⟨z,rfl,hz,q⟩:=h;obtain⟨u,rfl,t,rfl⟩:=mK r
 have hn:=nT;exact len_str (by omega) ⟨.int z.length,H,I.tok _,⟨_,rfl⟩,q⟩
theorem CallR.or {f:H0}{r r':List V->Hp->VK->Prop}(h:CallR X f r)(h':CallR X f r'):CallR X f (λxs H Q=>r xs H Q\/r' xs H Q):=by
 intro pins s σ H xs us Q I rs q;rcases q with q | q
 ·exact h pins s σ H xs us Q I rs q
 ·exact h' pins s σ H xs us Q I rs q
theorem ph:CallR X (.type "tuple") (λxs H Q=> ∃p ys,xs= [.ref p]/\((SqL X.K H p ys/\∀l,H l=none->Q (.ref l) (upd H l (.tup ys)))\/(SqT X.K H p ys/\Q (.ref p) H))):=by
 intro pins s σ H xs us Q I r h;obtain⟨p,ys,rfl,h⟩:=h;obtain⟨u,rfl,rx⟩:=mK r;cases rx;rcases h with⟨hq,q⟩ | ⟨hq,q⟩
 ·obtain⟨its,r',pl,hz⟩:=I.list hq
  have hlen:=r'.length;refine call_tuple_list pl.isList (λh' kp=> ?_) (by simp only[Iq] <;> omega)
  have I1:Inv X pins σ H { s with heap:=h' }:=I.kept (t':=s.toks) kp
  have I2:Inv X pins σ (upd H h'.objs.size (.tup ys)) { s with heap:=h'.push { cls:=.type "tuple",data:=.seq its.toArray } }:=
   I1.laid (t':=s.toks) (λb o e=>Ii _ e) (Il _) (show ObjOk X.prog X.w _ _ _ (.tup ys)from⟨hz,its,r',NS _ _⟩)
  exact⟨.ref h'.objs.size,_,I2,rfl,q _ (I1.hok.fresh (Il _))⟩
 ·obtain⟨its,r',pl,hz⟩:=I.tuple hq
  exact call_tuple_same pl ⟨.ref p,H,I,rfl,q⟩
def tyV (K:HX)(T:String)(x:V)(H:Hp):Prop:=match x with
 | .str _=>T= "str"
 | .int _=>T= "int"
 | .ref p=>(T= "list"/\∃xs,SqL K H p xs)\/(T= "tuple"/\∃o,K.lookup p=some o/\o.cls= .type "tuple"/\o.dict=none) ∨
   (T= "dict"/\((∃kvs,H p=some (.dK kvs))\/∃kvs,H p=some (.dT kvs)))\/(T= "set"/\∃S n,H p=some (.set S n))
 | _=>False
theorem yd {pins:List (Addr×Obj)}{σ:St}{H:Hp}{s:Ib}{T:String}{x:V}{v:H0}(I:Inv X pins σ H s)(r:RelV x v)(ty:tyV X.K T x H) :
  s.TypeIs v T/\∀a,v= .ref a->∃ob,s.heap.get? a=some ob/\ob.dict=none:=by
 cases x with
 | str z=>
  obtain⟨t,rfl⟩:=r;cases (show T= "str" from ty)
  exact⟨typeIs_str s z t,λ_ e=>nomatch e⟩
 | int i=>
  obtain⟨t,rfl⟩:=r;cases (show T= "int" from ty)
  exact⟨Nq s i t,λ_ e=>nomatch e⟩
 | ref p=>
  cases r;rcases ty with⟨rfl,xs,hq⟩ | ⟨rfl,o,hk,hc,hd⟩ | ⟨rfl,hk⟩ | ⟨rfl,S,n,hk⟩
  ·obtain⟨its,_,pl,_⟩:=I.list hq
   refine⟨pl.isList.typeIs,λa e=> ?_⟩
   cases e;obtain⟨o,n,e,c,hd,_⟩:=pl;exact⟨o,e,hd⟩
  ·refine⟨⟨o,I.kIn p o hk,hc⟩,λa e=> ?_⟩
   cases e;exact⟨o,I.kIn _ o hk,hd⟩
  ·have z:∃o,s.heap.get? p=some o/\o.ExactDict:=by
    rcases hk with⟨kvs,hk⟩ | ⟨kvs,hk⟩
    ·obtain⟨_,_,_,_,o,_,_,e,ex,_⟩:=I.hok p _ hk
     exact⟨o,e,ex⟩
    ·obtain⟨_,_,_,_,o,_,_,e,ex,_⟩:=I.hok p _ hk
     exact⟨o,e,ex⟩
   obtain⟨o,e,ex⟩:=z;refine⟨⟨o,e,ex.1⟩,λa e2=> ?_⟩
   cases e2;exact⟨o,e,ex.2.1⟩
  ·obtain⟨o,_,_,_,e,ex,_⟩:=I.hok p _ hk
   refine⟨⟨o,e,ex.1⟩,λa e2=> ?_⟩
   cases e2
   exact⟨o,e,ex.2.1⟩
 | _=>exact KO ty
def tBM (K:HX)(T:String)(r:V->List V->Hp->VK->Prop)(to:TE)(t:TA):TE:=λσ H Q=>to σ H λx H1=>tyV K T x H1/\t σ H1 λxs H2=>r x xs H2 Q
variable {o e:Expr}{es:List Expr}{to:TE}{t:TA}{name:Str}{apos cpos:Pos}{T id:String}{r:V->List V->Hp->VK->Prop}
theorem Co (pa:PlainAttrs T)(slot:Slot T name id)(hty:typeOf (.builtin id)=pure (.type "method_descriptor"))(hm:MtR X id r)(ho:PE X o to)(ha:PA X (e::es) t)
  (hbase:JU o name X.env (eval o X.env)=eval o X.env:=by rfl)
  (hfew:((backTo cpos (IA (e::es) X.env)).all (λx=> !x.1)&&(backToKw cpos (NK [] X.env)).all (λx=>x.1.isSome)
   &&decide ((e::es).length+([]:List Oq).length+(if ([]:List Oq).isEmpty then 0 else 1)<30))=true:=by rfl)
  (hline:(apos.endLine == cpos.line)=true:=by rfl) (hs:IA (e::es) X.env=(false,eval e X.env)::IA es X.env:=by rfl) (hplain:(backTo cpos (IA es X.env)).any (·.1)=false:=by rfl) :
  PE X (.Call (.Attribute o name apos) (e::es) [] cpos) (tBM X.K T r to t):=by
 intro pins s σ H Q I h;refine MZ hbase hfew hline rfl (cp (ho pins s σ H _ I h) λv s1 hh_=> ?_)
 obtain⟨x,H1,I1,r1,ty,q1⟩:=hh_;obtain⟨h1,h2⟩:=yd I1 r1 ty;refine⟨T,id,pa,slot,hty,h1,h2,?_⟩
 have hA:=ha cpos pins s1 σ H1 _ I1 q1;rw[hs]at hA ⊢;refine Lq (by show(false||(backTo cpos (IA es X.env)).any (·.1))=false;rw[hplain] <;> rfl) (KZ ?_)
 exact cp hA λus s2 ⟨vs,H2,I2,r2,q2⟩=>hm pins s2 σ H2 x vs v us Q I2 r1 r2 q2
end
def MtM (X:Cx)(id:String)(r:V->List V->Hp->VK->Prop):Prop:=
 ∀(pins:List (Addr×Obj)) (s:Ib) (σ:St) (H:Hp) (x:V) (xs:List V) (v:H0) (us:List H0) (Q:VK),Inv X pins σ H s->RelV x v->Vals xs us->r x xs H Q →
  wpAny (model X.prog X.w) X.A (call (.builtin id) (v::us)) (EP X pins σ Q) X.xe s
theorem Vals.one:∀{x:V} {us:List H0},Vals [x] us->∃u,us= [u]/\RelV x u
 | _,_,.cons r .nil=>⟨_,rfl,r⟩
theorem Vals.reverse {xs:List V}{us:List H0}(h:Vals xs us):Vals xs.reverse us.reverse:=by
 induction h with
 | nil=>exact .nil
 | cons r t ih=>rw[Lu,Lu];exact Vals.append ih (.cons r .nil)
theorem Vals.rep {xs:List V}{us:List H0}(h:Vals xs us):∀k:Nat,Vals (IE k xs).flatten (IE k us).flatten
 | 0=> .nil
 | k+1=>by
  rw[JP,JP,Kl,Kl];exact Vals.append h (Vals.rep h k)
theorem foldl_rep (its:List H0):∀(k:Nat) (acc:List H0),
  Mw (λx1 x2=>x1++x2) acc.toArray (IE k its.toArray)=(acc++(IE k its).flatten).toArray
 | 0,acc=>by simp
 | k+1,acc=>by
  have e:acc.toArray++its.toArray=(acc++its).toArray:=by simp
  have e2:(acc++its)++(IE k its).flatten=acc++(IE (k+1) its).flatten:=by
   rw[JP,Kl,IW]
  rw[<-e2,<-foldl_rep its k (acc++its),<-e,JP,List.foldl_cons]
section
variable {X:Cx}{pins:List (Addr×Obj)}{σ:St}{H:Hp}{s:Ib}{l b:Addr}{xs ys zs:List V}
theorem Inv.HK {its its':List H0}{n:Nat}{f:Array H0->Array H0}{t':Nat}(I:Inv X pins σ H s)(hH:H l=some (.lst xs))
  (e:s.heap.get? l=some { cls:=.type "list",data:=.seq its.toArray n }) (hf:f its.toArray=its'.toArray) (hv:Vals ys its') (hz:ys.length<=sizeLine) :
  Inv X pins σ (upd H l (.lst ys)) { s with heap:=s.heap.update l (Ke f),toks:=t' }:=by
 have q:=PySem.IsL.update e f;rw[hf]at q;refine I.write (x:=l) (e:=l) (by rw[hH];exact trivial) (.inl rfl) (λb' u hb hu=>(Jr s.heap (Ke f) (K5 hb)).trans hu) ⟨_,q⟩ ?_
 exact⟨hz,its',_,hv,q⟩
theorem Inv.HE {its:List H0}{t':Nat}(I:Inv X pins σ H s)(hv:Vals ys its)(hz:ys.length<=sizeLine) :
  Inv X pins σ (upd H s.heap.objs.size (.lst ys)) { s with heap:=s.heap.push { cls:=.type "list",data:=.seq its.toArray },toks:=t' }:=
 I.laid (λ_ _ q=>Ii _ q) (Il _) ⟨hz,its,0,hv,Iz _ rfl⟩
theorem Inv.fresh (I:Inv X pins σ H s):H s.heap.objs.size=none:=I.hok.fresh (Il _)
theorem Inv.G1 (I:Inv X pins σ H s)(hH:H l=some (.lst xs)):xs.length<=sizeLine/\∃(its:List H0) (n:Nat),Vals xs its/\xs.length=its.length/\s.heap.get? l=some { cls:=.type "list",data:=.seq its.toArray n }:=by
 obtain⟨z,its,n,r,e⟩:=I.hok l _ hH;exact⟨z,its,n,r,r.length,e⟩
theorem ti {n:Nat}(h:n<=sizeLine):Kk n=false:=by
 unfold Kk;exact decide_eq_false (by omega)
end
section
variable {X:Cx}
def AM:V->List V->Hp->VK->Prop:=λx vs H Q=> ∃l xs y,x= .ref l/\vs= [y]/\H l=some (.lst xs)/\xs.length<sizeLine/\Q .non (upd H l (.lst (xs++ [y])))
theorem pJ:MtM X "list.append" AM:=by
 intro pins s σ H x vs v us Q I rx rv h;obtain⟨l,xs,y,rfl,rfl,hH,hz,q⟩:=h;cases rx;obtain⟨u,rfl,ru⟩:=rv.one;obtain⟨z,its,n,r,hl,e⟩:=I.G1 hH;refine LP F.slot_list_append ⟨_,e,rfl⟩ F.entry_list_append (F.args_list_append_2 _ _) (PySem.list_append l its.toArray n u (by rw[Iq];omega)) ⟨e,?_⟩
 refine⟨.non,_,I.HK (its':=its++ [u]) hH e (by simp) (r.append (.cons ru .nil)) ?_,rfl,q⟩
 rw[Ih,JW];omega
def AL:V->List V->Hp->VK->Prop:=λx vs H Q=> ∃l b xs zs,x= .ref l/\vs= [.ref b]/\H l=some (.lst xs)/\H b=some (.lst zs)/\xs.length+zs.length<=sizeLine/\Q .non (upd H l (.lst (xs++zs)))
theorem xk:MtM X "list.extend" AL:=by
 intro pins s σ H x vs v us Q I rx rv h;obtain⟨l,b,xs,zs,rfl,rfl,hH,hB,hz,q⟩:=h;cases rx;obtain⟨u,rfl,ru⟩:=rv.one;cases ru;obtain⟨z,its,n,r,hl,e⟩:=I.G1 hH;obtain⟨z2,its2,n2,r2,hl2,e2⟩:=I.G1 hB
 have hsz:its.toArray.size+its2.toArray.size<=sizeLine:=by rw[Iq,Iq];omega
 have hlong:¬ (!its.toArray.isEmpty&&Kk (its.toArray.size+its2.toArray.size))=true:=by
  rw[ti hsz,Bool.and_false];exact IK
 refine LP F.slot_list_extend ⟨_,e,rfl⟩ F.entry_list_extend (F.args_list_extend_2 _ _)
  (AutoSeq1.list_extend_list_list_0 l its.toArray n b its2.toArray n2 hlong (by rw[Iq];omega) (by omega)) ⟨e,e2,?_⟩
 refine⟨.non,_,I.HK (its':=its++its2) hH e (by simp) (r.append r2) ?_,rfl,q⟩
 rw[Ih];omega
def rCat:R2:=λx y H Q=> ∃l b xs zs,x= .ref l/\y= .ref b/\H l=some (.lst xs)/\H b=some (.lst zs)/\xs.length+zs.length<=sizeLine/\∀p,H p=none->Q (.ref p) (upd H p (.lst (xs++zs)))
theorem DM:qj X (JZ .Add) rCat:=by
 intro pins s σ H x y v u Q I rx ry h;obtain⟨l,b,xs,zs,rfl,rfl,hH,hB,hz,q⟩:=h;cases rx;cases ry;obtain⟨z,its,n,r,hl,e⟩:=I.G1 hH;obtain⟨z2,its2,n2,r2,hl2,e2⟩:=I.G1 hB;refine PySem.P.add_list e e2 ?_ (by rw[Iq,Iq];omega)
 have ea:its.toArray++its2.toArray=(its++its2).toArray:=by simp
 rw[ea];exact⟨.ref _,_,I.HE (t':=s.toks) (r.append r2) (by rw[Ih];omega),rfl,q _ I.fresh⟩
def rRep:R2:=λx y H Q=> ∃l k xs,x= .ref l/\y= .int k/\H l=some (.lst xs)/\-(2 ^ 63)<=k/\k<2 ^ 63/\xs.length*k.toNat<=sizeLine ∧
 ∀p,H p=none->Q (.ref p) (upd H p (.lst (IE k.toNat xs).flatten))
theorem len_rep {α:Type}(xs:List α)(k:Nat):(IE k xs).flatten.length=k*xs.length:=by
 induction k with
 | zero=>simp
 | succ k ih=>rw[JP,Kl,Ih,ih,Nat.succ_mul,Ou]
theorem DI:qj X (JZ .Mult) rRep:=by
 intro pins s σ H x y v u Q I rx ry h;obtain⟨l,k,xs,rfl,rfl,hH,h1,h2,hz,q⟩:=h;cases rx;obtain⟨t,rfl⟩:=ry;obtain⟨z,its,n,r,hl,e⟩:=I.G1 hH
 have hlen:its.toArray.size*k.toNat<=sizeLine:=by rw[Iq,<-hl];exact hz
 have hcap:¬ its.toArray.size*k.toNat > (2 ^ 63 - 1) / 8:=by
  have:(sizeLine:Nat)<=(2 ^ 63 - 1) / 8:=by decide
  omega
 have hfit:¬ (!Builtin.List.listFitsIndex k)=true:=by
  rw[fitsIndex_both h1 h2];exact IK
 have hlong:¬ Kk (its.toArray.size*k.toNat)=true:=by
  rw[ti hlen];exact IK
 have hnew:Mw (λx1 x2=>x1++x2) #[] (IE (if its.toArray.isEmpty=true then 0 else k.toNat) its.toArray)=(IE k.toNat its).flatten.toArray:=by
  have f0:∀m:Nat,Mw (λx1 x2=>x1++x2) #[] (IE m its.toArray)=(IE m its).flatten.toArray:=λm=>by
   have:=foldl_rep its m [];rw[JX]at this;exact this
  rw[f0]
  cases its with
  | nil=>simp
  | cons a r'=>rw[if_neg (by simp)]
 refine Mq (T:="list") (U:="int") (by decide) ⟨_,e,rfl⟩ (λs'=>Nq s' k t) noFill_list_mul OV LV repeat_list OC.lookup
  (LP LV (Nq s k t) OD (Of _ _) (int___rmul___int_list k t l its.toArray n)
   ⟨e,rfl,⟨_,e,rfl⟩,LP F.slot_list_mul ⟨_,e,rfl⟩ F.entry_list_mul (F.args_list_mul_2 _ _) (NT l its.toArray n k t hfit hcap hlong) ⟨e,?_⟩⟩)
 rw[hnew];exact⟨.ref _,_,I.HE (t':=s.toks) (r.rep k.toNat) (by rw[len_rep,Ov];exact hz),rfl,q _ I.fresh⟩
end
end L2
namespace Att
open PySem PySem.W PySem.Calls PyProof.Rows
theorem md {P:Params}{h:Heap}:∀(ns:List Int) (vs:List H0),WellAll P h vs (ns.map WData.int)->L3 vs ns:=by
 intro ns
 induction ns with
 | nil=>
  intro vs w;rw[LC]at w;cases w
  exact .nil
 | cons n ns ih=>
  intro vs w;rw[Ic]at w
  cases w with
  | cons a b=>
   cases a;exact .cons _ _ (ih _ b)
theorem wR {l:OpenLaw}{n:Nat}(hn:l.most=some n){P:Params}{h:Heap}{args:List WData}{vals:List H0}
  (hpre:l.row.toRowW.claim.pre args=true) (hwl:WellAll P h vals args) :
  ∃a vs ns,vals= [II a]/\args= [WData.list (ns.map WData.int)]/\h.get? a=some { cls:=.type "list",data:=.seq vs.toArray }/\L3 vs ns/\ns.length<=n:=by
 have hsh:WShape.hasAll [] args [.list .int] =true:=(pre_splitW hpre).1
 have hc:l.pre.holds [] { args:=args }=true:=(pre_splitW hpre).2;obtain⟨d,r,rfl,h1,h2⟩:=hasAllW_cons hsh;obtain rfl:=hasAllW_nil h2;obtain⟨xs,rfl,h3⟩:=hasW_list h1;obtain⟨ns,rfl⟩:=items_int h3
 have hlen:ns.length<=n:=by
  unfold OpenLaw.pre at hc
  have h4:(WTm.not (.lt (.lit (.int (n:Int))) (.len (.arg 0)))).holds [] { args:=[.list (ns.map .int)] }=true:=by
   have h4:=(holds_andW hc).1;rw[hn]at h4;exact h4
  have h5:=condW_of h4 (w_not (w_lt w_lit (w_len_list (w_arg rfl))));rw[Ig]at h5;refine MN λq=> ?_
  have q':(n:Int)<((ns.length:Nat):Int):=by omega
  first
   | (rw[decide_eq_true q']at h5;exact absurd h5 (by decide))
   | (simp at h5;omega)
 cases hwl with
 | cons w1 w2=>
  cases w2
  cases w1 with
  | list ho hall=>exact⟨_,_,ns,rfl,rfl,ho,md ns _ hall,hlen⟩
theorem w6 (l:OpenLaw)(args:List WData):l.row.toRowW.claim.post args (.bool true) args=true:=
 postW_of (r:=l.row.toRowW) (X:=(true == true))
  (show WShape.has [] (.bool true) .bool=true by first | rfl | decide | simp[WShape.has,WShape.arms,WShape.armsAll])
  (show(WTm.eq .res (.lit (.bool true))).value [] { args:=args,res:=some (.bool true),after:=args }=some (.bool (true == true))from w_eq_bool (w_res rfl) w_lit) rfl
theorem attach_call {l:OpenLaw}{n:Nat}{q:IJ}{loose:List Str}{XP:(Str->Option H0)->Heap->Prop}{YP:JA->Heap->Prop}{d:DefRec}
  (hn:l.most=some n) (hdf:d.params.defaults= [])
  (call:∀(w:JA) (s₀ s₁:Ib) (mg mb:Str->Option H0) (fa:Addr) (o:Obj) (pm cd doc:H0) (a:Addr) (vs:List H0) (ns:List Int),
   Ground q loose [] XP w s₀ mg mb s₁.heap->YP w s₁.heap →
   s₁.heap.get? fa=some o->o.data= .func (docDef d.name d.params d.body d.scope pm cd doc)->s₁.heap.CodeRec cd d.name->mg d.name=some (.ref fa) →
   s₁.heap.get? a=some { cls:=.type "list",data:=.seq vs.toArray }->L3 vs ns->ns.length<=n->s₁.gens= #[] →
   codeAny (model l.prog w) callerA (.call (.ref fa) ⟨[.ref a],[]⟩) (λr s'=>r= .ok (.ret (.bool true))/\OldK s₁.heap s'.heap/\s'.os=s₁.os/\MK s'.gens) s₁) :
  WalkO q loose XP YP l.row.toRowW d [] (λf vs=>PySem.call f vs):=by
 intro w s₀ s₁ mg mb G Y fa o pm cd doc dV kV ho hd hcd hD hmg hg args vals as hpre hlay hrd hwl hlo;obtain rfl:dV= .none:=Dflts.none hD hdf;obtain rfl:kV= .none:=Dflts.noKw hD;obtain⟨a,vs,ns,rfl,rfl,hobj,hints,hlen⟩:=wR hn hpre hwl;refine enter_call (Ni (call w s₀ s₁ mg mb fa o pm cd doc a vs ns G Y ho (fd_plain hd) hcd hmg hobj hints hlen hg) λr s' hq=> ?_)
 obtain⟨rfl,h2,h3,h4⟩:=hq;exact⟨.inl ⟨.bool true,.bool true,[],rfl,λ_=>rfl,.bool true,w6 l _,λ_=>⟨List.Pairwise.nil,λ_ hm=>(nomatch hm)⟩⟩,h2,h3,h4⟩
end Att
namespace L2
open PySem PySem.Spec PyProof.Rows
theorem pv:∀{vs:List H0} {ns:List Int},L3 vs ns->Vals (ns.map V.int) vs
 | _,_,.nil=> .nil
 | _,_,.cons n t h=> .cons ⟨t,rfl⟩ (pv h)
def EC (H:Hp):Prop:=∀b,H b=none\/∃o xs,H b=some (.frz o (.lst xs))
theorem zk {P:IJ}{w:JA}{K:HX}{mg mb:Str->Option H0}{CX:Aq}{k:Nat}{fa a:Addr}{fd:JT}{x:Str}{sp:Sp}{s₁:Ib}{vs:List H0}{ns:List Int}
  (KX:K.In s₁.heap) (hns:s₁.heap.Ns Jf mg) (hb:s₁.heap.Ns Np mb) (hbb:∀x:Str,x≠ "__name__"->mb x=IU x) (hlim:s₁.heap.NoLimit) (hg:s₁.gens= #[])
  (ha:s₁.heap.get? a=some { cls:=.type "list",data:=.seq vs.toArray }) (hi:L3 vs ns) (hl:ns.length<=sizeLine) (hr:Room k callerA)
  (F:∀base:Heap,K.In base->base.Ns Jf mg->pk P w K mg base CX k fa fd [x] sp) (hbind:∀(s:Ib) (u:H0),Oo s fd ⟨[u],[]⟩ [(x,u)])
  (hsp:∀H:Hp,EC H->SqL K H a (ns.map V.int)->sp [.ref a] H (λv _=>v= .bl true) λ_ _ _=>False)
  (hCX:∀H e s',CX [] H s₁ (λ_ _ _=>False) e s'->False) :
  codeAny (model P w) callerA (.call (.ref fa) ⟨[.ref a],[]⟩) (λr s'=>r= .ok (.ret (.bool true))/\OldK s₁.heap s'.heap/\s'.os=s₁.os/\MK s'.gens) s₁:=by
 have rv:=pv hi
 have lenV:=hi.length
 -- from an abstract heap in which nothing but the script may be tracked
 have core:∀H:Hp,EC H->SqL K H a (ns.map V.int)->HOk P w H s₁.heap->(∀b,H b≠none->b=a)->(H a≠none->K.lookup a=none) →
   codeAny (model P w) callerA (.call (.ref fa) ⟨[.ref a],[]⟩) (λr s'=>r= .ok (.ret (.bool true))/\OldK s₁.heap s'.heap/\s'.os=s₁.os/\MK s'.gens) s₁:=by
  intro H hO hS hok hA hK
  have base_of:∀{b:Addr} {o:Obj},s₁.heap.get? b=some o->H b=none->(rE s₁.heap H).get? b=some o:=λe n=>zD e n
  have noA:∀{b:Addr} {o:Obj} {es:Array DictEntry} {ep:Nat},s₁.heap.get? b=some o->o.data= .dict es ep->H b=none:=λ{b o es ep} e d=>by
   cases q:H b with
   | none=>rfl
   | some u=>
    have e':b=a:=hA b (by rw[q];simp)
    subst e';rw[ha]at e;cases e
    have d':Data.seq vs.toArray _=Data.dict es ep:=d;cases d'
  have nsK:∀{b:Addr} {m:Str->Option H0},s₁.heap.Ns b m->(rE s₁.heap H).Ns b m:=λ{b m} ⟨o,es,ep,e,d,r⟩=>⟨o,es,ep,base_of e (noA e d),d,r⟩
  have hKb:K.In (rE s₁.heap H):=λb o e=>base_of (KX b o e) (by
   cases q:H b with
   | none=>rfl
   | some u=>
    have e':b=a:=hA b (by rw[q];simp)
    subst e';rw[hK (by rw[q];simp)]at e;cases e)
  have hM:Mod K mg (rE s₁.heap H):=⟨hKb,nsK hns,⟨mb,nsK hb,hbb⟩,let ⟨mc,h1,h2⟩:=hlim;⟨mc,nsK h1,h2⟩⟩
  have e0:Aj P w K mg (rE s₁.heap H) callerA [] s₁ H:=⟨rfl,hM,λb o e=>Bx e,K8 (xA _ _),trivial,λb hb=>absurd (show b∈([]:List Addr)from hb) (by simp),hok,.of_eq hg⟩
  refine Ni ((F _ hKb (nsK hns)).run callerA [] s₁ H ⟨[.ref a],[]⟩ [.ref a] [.ref a] _ _ hr e0 (hbind s₁ (.ref a)) (.cons rfl .nil) (hsp H hO hS)) λr s' h=> ?_
  cases r with
  | error e=>exact(hCX H e s' h).elim
  | ok fl=>
   cases fl with
   | next=>exact KO h
   | brk=>exact KO h
   | cont=>exact KO h
   | ret u=>
    obtain⟨v,H',os,bare,un,hok',r',q⟩:=h
    have q':v= .bl true:=q;subst q';obtain rfl:u=JB true:=r';refine⟨rfl,OldK.of_keep λb o e=> ?_,os,bare⟩
    cases q:H b with
    | none=>exact un.keep b o e q (by intro z;exact absurd (show b∈([]:List Addr)from z) (by simp)) (by simp)
    | some u=>
     rcases hO b with z | ⟨ob,xs,z⟩
     ·rw[q]at z;cases z
     ·have z2:=un.frzs b ob _ z
      obtain⟨e1,_⟩:=hok b _ z;obtain⟨e2,_⟩:=hok' b _ z2;rw[e]at e1;cases e1;exact e2
 cases hk:K.lookup a with
 | some o=>
  -- the script is one of the module's own objects
  have e:=KX a o hk;rw[ha]at e;cases e
  refine core (λ_=>none) (λ_=> .inl rfl) (.inr ⟨_,vs.toArray,_,hk,rfl,rfl,rfl,by rw[Iq,lenV];exact hl,by simpa using rv⟩) (λb u z=>by have z':(none:Option HO)=some u:=z;cases z') (λb z=>absurd rfl z) λz=>absurd rfl z
 | none=>
  refine core (λb=>if b=a then some (.frz { cls:=.type "list",data:=.seq vs.toArray } (.lst (ns.map V.int)))else none) (λb=> ?_) (.inl (.inr ⟨{ cls:=.type "list",data:=.seq vs.toArray },if_pos rfl⟩)) (λb u z=> ?_) (λb z=> ?_) λ_=>hk
  ·by_cases hb:b=a
   ·exact .inr ⟨_,_,if_pos hb⟩
   ·exact .inl (if_neg hb)
  ·by_cases hb:b=a
   ·have z':=(if_pos hb).symm.trans z
    cases z';subst hb;exact⟨ha,by rw[Ig];exact hl,vs,_,rv,ha⟩
   ·have z':=(if_neg hb).symm.trans z
    cases z'
  ·by_cases hb:b=a
   ·exact hb
   ·exact absurd (if_neg hb) z
def gW (s:Stmt):O8:=match s with
 | .FunctionDef _ a _ _ _ _ _ _ _ _=>a
 | _=> { posonlyargs:=[],args:=[],vararg:=none,kwonlyargs:=[],kw_defaults:=[],kwarg:=none,defaults:=[] }
def dC (s:Stmt):List Stmt:=match s with
 | .FunctionDef _ _ b _ _ _ _ _ _ _=>b
 | _=> []
def ak (s:Stmt):LZ:=match s with
 | .FunctionDef _ _ _ _ _ _ sc _ _ _=>sc
 | _=> { kind:=.function,names:=[],isGenerator:=false,isCoroutine:=false }
abbrev CX0:Aq:=λ_ _ _ _ _ _=>False
abbrev E0:XK:=λ_ _ _=>False
theorem yP {X:Cx}:rZ CX0 X E0:=λ_ _ _ _ _ _ _ h=>h.elim
structure Fun (K:HX)(x qual:Str)(st:Stmt)(f:Addr)(fd:JT):Prop where
 ex:∃(oc:H0) (od:Option Addr) (kV doc pm:H0) (an:Option Addr) (cdv ct:H0) (osl:Array (Option H0)),
  fd=Ly x qual (gW st) (dC st) (ak st) .none kV doc pm an cdv ct/\K.lookup f=some ⟨oc,od,.func fd,osl⟩/\Nx K cdv qual=true
 kp:Kx K (.ref f)=true
section
variable {P:IJ}{w:JA}{K:HX}{mg:Str->Option H0}{base:Heap}
theorem Fun.ok {x qual:Str}{st:Stmt}{f:Addr}{fd:JT}{N ps:List Str}{k:Nat}{sp:Sp}(F:Fun K x qual st f fd)(S:aD N ps (ak st))(len:∀vs H Q E,sp vs H Q E->vs.length=ps.length)
  (hbody:∀(cdv:H0) (A:Jl) (outer:List Env) (s:Ib) (H:Hp) (vs:List V) (Q:VK) (E:XK),Room k (A.deeper (envOfC qual (ak st) s.heap.objs.size f cdv))->sp vs H Q E →
   ∃t,PSs (lF CX0 P w K mg base N qual (ak st) f cdv A outer s H E).nox (dC st) t/\t { nx:=λ_ H'=>Q .non H',rt:=Q } (start N vs) H):pk P w K mg base CX0 (k+1) f fd ps sp:=by
 obtain⟨oc,od,kV,doc,pm,an,cdv,ct,osl,rfl,lk,hcd⟩:=F.ex;refine Gj lk hcd S len λA outer s H vs Q E hr hsp=> ?_
 obtain⟨t,h,q⟩:=hbody cdv A outer s H vs Q E hr hsp;exact⟨t,h.nox,q⟩
theorem Fun.binds {x qual:Str}{st:Stmt}{f:Addr}{fd:JT}{ps:List Str}(F:Fun K x qual st f fd)
  (h:∀(kV doc pm:H0) (an:Option Addr) (cdv ct:H0) (us:List H0),us.length=ps.length->bindArgs (Ly x qual (gW st) (dC st) (ak st) .none kV doc pm an cdv ct) ⟨us,[]⟩=pure (ps.zip us)):Binds K fd ps []:=by
 obtain⟨oc,od,kV,doc,pm,an,cdv,ct,osl,rfl,lk,hcd⟩:=F.ex;exact .all (h kV doc pm an cdv ct)
theorem Eh {x qual:Str}{st:Stmt}{f:Addr}{oc:H0}{od an:Option Addr}{osl:Array (Option H0)}{kV doc pm cdv ct:H0}(l:K.lookup f=some ⟨oc,od,.func (Ly x qual (gW st) (dC st) (ak st) .none kV doc pm an cdv ct),osl⟩)
  (c:Nx K cdv qual=true) (k:Kx K (.ref f)=true):Fun K x qual st f (Ly x qual (gW st) (dC st) (ak st) .none kV doc pm an cdv ct):=⟨⟨oc,od,kV,doc,pm,an,cdv,ct,osl,rfl,l,c⟩,k⟩
end
theorem iteF {A B:Prop}(h:B):if false=true then A else B:=by
 rw[if_neg IK];exact h
theorem iteT {A B:Prop}(h:A):if true=true then A else B:=by
 rw[if_pos rfl];exact h
def Same (H H':Hp):Prop:=∀b o,H b=some o->H' b=some o
theorem Same.refl (H:Hp):Same H H:=λ_ _ h=>h
theorem Same.trans {H H1 H2:Hp}(a:Same H H1)(b:Same H1 H2):Same H H2:=λc o h=>b c o (a c o h)
theorem km {env:Env}:∀(names:List (Str×KR)) (acc:List (Str×Addr)),
  (∀x,(x,IY)∈names->∃c,env.cells.lookup x=some c) →
  (∀x c,acc.lookup x=some c->env.cells.lookup x=some c) →
  ∃cl,(forIn (m:=Sem) names acc (λx cs=>(if (x.2 == IY)=true then do let a <-cellOf env x.1;pure (KH ((x.1,a)::cs))else pure (KH cs))))=pure cl ∧
   (∀x c,cl.lookup x=some c->env.cells.lookup x=some c) ∧
   (∀x,(x,IY)∈names->∃c,cl.lookup x=some c)/\(∀x c,acc.lookup x=some c->∃c',cl.lookup x=some c')
 | [],acc,_,h=>⟨acc,rfl,h,λx hx=>by simp at hx,λx c e=>⟨c,e⟩⟩
 | (n,k)::r,acc,hf,h=>by
  by_cases hk:k=IY
  ·subst hk
   obtain⟨c,hc⟩:=hf n (by simp)
   have h':∀x c',((n,c)::acc).lookup x=some c'->env.cells.lookup x=some c':=λx c' e=>by
    rw[Jv]at e
    cases q:x == n with
    | true=>
     rw[q]at e
     have e2:c=c':=IX e
     have e3:x=n:=by simpa using q
     rw[<-e2,e3];exact hc
    | false=>rw[q]at e;exact h x c' e
   obtain⟨cl,e1,e2,e3,e4⟩:=km r ((n,c)::acc) (λx hx=>hf x (Ia _ hx)) h'
   refine⟨cl,?_,e2,λx hx=> ?_,λx c' e=> ?_⟩
   ·rw[OW]
    simp only[beq_self_eq_true,if_true,cellOf,hc,pure_bind];exact e1
   ·rcases Ij.mp hx with z | z
    ·have z1:x=n:=by injection z
     subst z1;exact e4 x c (by simp[Jv])
    ·exact e3 x z
   ·cases q:x == n with
    | true=>exact e4 x c (by simp[Jv,q])
    | false=>exact e4 x c' (by simp[Jv,q,e])
  ·have hb:(k == IY)=false:=by simpa using hk
   obtain⟨cl,e1,e2,e3,e4⟩:=km r acc (λx hx=>hf x (Ia _ hx)) h
   refine⟨cl,?_,e2,λx hx=> ?_,e4⟩
   ·rw[OW]
    simp only[hb,Lh,if_false,pure_bind];exact e1
   ·rcases Ij.mp hx with z | z
    ·have z1:IY=k:=by injection z
     exact absurd z1.symm hk
    ·exact e3 x z
theorem u9 {env:Env}{scope:LZ}(hf:∀x,(x,IY)∈scope.names->∃c,env.cells.lookup x=some c) :
  ∃cl,closureFor scope env=pure cl/\(∀x c,cl.lookup x=some c->env.cells.lookup x=some c)/\(∀x,(x,IY)∈scope.names->∃c,cl.lookup x=some c):=by
 obtain⟨cl,e1,e2,e3,_⟩:=km scope.names [] hf (λx c e=>by simp at e)
 refine⟨cl,?_,e2,e3⟩
 unfold closureFor;refine Eq.trans ?_ (congrArg (λz=>z >>= pure) e1|>.trans (by simp))
 rfl
theorem rR {pr:IJ}{wd:JA}{Ar:Jl}{Rz:Result->Ib->Prop}{s0:Ib}{el tg it0:Expr}{cs:List Expr}{sc:LZ}{ps:Pos}{itv av:H0}{ev:Env}(W:Nat->Ib->Prop)
  (go:∀k st,W k st->wpAny (model pr wd) Ar (pyNext itv) (λr s1=>match r with
   | none=>Rz (.ok .next) s1
   | some v=>wpAny (model pr wd) Ar (Ll tg itv v) (λ_ s2=>wpAny (model pr wd) Ar (assign tg ev v) (λ_ s3=>
     wpAny (model pr wd) Ar (forIn cs true λc b=>if b=true then do let z <-isTrue c ev (eval c ev);pure (KH z)else pure (KH b)) (λz s4=>
      if z=true then wpAny (model pr wd) Ar (eval el ev) (λy s5=>
       wpAny (model pr wd) Ar (call (.builtin "list.append") [av,y]) (λ_ s6=> ∃m,m<k/\W m s6) (λ_ _=>False) s5) (λ_ _=>False) s4
      else ∃m,m<k/\W m s4) (λ_ _=>False) s3) (λ_ _=>False) s2) (λ_ _=>False) s1) (λ_ _=>False) st)
  (k:Nat) (hk:W k s0):codeAny (model pr wd) Ar (.compLoop (.ListComp el [⟨tg,it0,cs,0⟩] sc ps) 0 itv av ev) Rz s0:=by
 refine codeAny_loop rfl W (λk st hw=> ?_) k hk
 show wpAny (model pr wd) Ar ((compTurn (.ListComp el [⟨tg,it0,cs,0⟩] sc ps) 0 itv av ev).onRaise (λz=>do noteFrame z ev;theTreesLotGoes z)) _ _ st
 refine wpAny_noted ?_
 rw[compTurn_list]
 have no:∀{α:Type} {t:Sem α} {Q Q':α->Ib->Prop} {E':H0->Ib->Prop} {x:Ib},wpAny (model pr wd) Ar t Q (λ_ _=>False) x->(∀y z,Q y z->Q' y z)->wpAny (model pr wd) Ar t Q' E' x:=λh f=>La h f λ_ _ z=>z.elim
 refine HY (wpAny_standAt (HY (no (go k st hw) λr s1 g1=> ?_)))
 cases r with
 | none=>exact Ik g1
 | some v=>
  refine HY (no g1 λ_ s2 g2=>HY (no g2 λ_ s3 g3=>HY (no g3 λz s4 g4=> ?_)))
  cases z with
  | false=>exact Ik (And.intro rfl g4)
  | true=>exact HY (HY (no g4 λy s5 g5=>HY (no g5 λ_ s6 g6=>Ik (Ik (And.intro rfl g6)))))
def cO (X:Cx)(scope:LZ)(cl:List (Str×Addr))(N':List Str)(C:Addr)(s₀:Ib)(H₀:Hp)(fp:List Addr):Cx:=
 { X with N:=N',s₀:=s₀,H₀:=H₀,env:=compEnvC scope cl C X.env,outer:=X.stack,stack:=X.stack,ex:=fp,fn:=λx=>scope.names.lookup x == some .cell,xe:=λ_ _=>False }
def fN (src:List (Option Nat))(σ:St):St:=src.map λo=>match o with
 | some i=>(σ[i]?).join
 | none=>none
theorem iW {env:Env}:∀{names:List (Str×KR)} {x:Str} {k:KR},
  (names.map λ(n,k)=>if (k == IY&&env.scope.kind == .function&&env.kindOf n == some .cell)then(n,JI)else(n,k)).lookup x=some k →
  ∃k',names.lookup x=some k'/\(k=k'\/k'= .free)
 | [],_,_,h=>by simp at h
 | (n,k0)::r,x,k,h=>by
  have ih:=@iW env r x k
  have h':Lv x ((if (k0 == IY&&env.scope.kind == .function&&env.kindOf n == some .cell)=true then(n,JI)else(n,k0))::(r.map λ(n,k)=>if (k == IY&&env.scope.kind == .function&&env.kindOf n == some .cell)then(n,JI)else(n,k)))=some k:=h
  by_cases hc:(k0 == IY&&env.scope.kind == .function&&env.kindOf n == some .cell)=true
  ·rw[if_pos hc]at h'
   rw[Jv]at h' ⊢
   cases hx:x == n with
   | true=>
    refine⟨k0,rfl,.inr ?_⟩
    have:=J0.mp hc|>.1
    have:=J0.mp this|>.1
    simpa using this
   | false=>rw[hx]at h';exact ih h'
  ·rw[if_neg hc]at h'
   rw[Jv]at h' ⊢
   cases hx:x == n with
   | true=>rw[hx]at h';exact⟨k0,rfl,.inl (IX h').symm⟩
   | false=>rw[hx]at h';exact ih h'
theorem jq {names:List (Str×KR)}{x:Str}{k:KR}(h:names.lookup x=some k):(x,k)∈names:=J8 h
theorem ia {env:Env}:∀{names:List (Str×KR)} {x:Str},names.lookup x=some .free →
  (names.map λ(n,k)=>if (k == IY&&env.scope.kind == .function&&env.kindOf n == some .cell)then(n,JI)else(n,k)).lookup x=some .cell ∨
  (names.map λ(n,k)=>if (k == IY&&env.scope.kind == .function&&env.kindOf n == some .cell)then(n,JI)else(n,k)).lookup x=some .free
 | [],_,h=>by simp at h
 | (n,k0)::r,x,h=>by
  have ih:=@ia env r x
  show Lv x ((if (k0 == IY&&env.scope.kind == .function&&env.kindOf n == some .cell)=true then(n,JI)else(n,k0))::_)=_\/Lv x ((if (k0 == IY&&env.scope.kind == .function&&env.kindOf n == some .cell)=true then(n,JI)else(n,k0))::_)=_
  rw[Jv]at h
  by_cases hc:(k0 == IY&&env.scope.kind == .function&&env.kindOf n == some .cell)=true
  ·rw[if_pos hc]
   rw[Jv]
   cases hx:x == n with
   | true=>exact .inl rfl
   | false=>rw[hx]at h;exact ih h
  ·rw[if_neg hc]
   rw[Jv]
   cases hx:x == n with
   | true=>rw[hx]at h;exact .inr h
   | false=>rw[hx]at h;exact ih h
section
variable {X:Cx}
structure LcScope (X:Cx)(scope:LZ)(N':List Str)(src:List (Option Nat)):Prop where
 kind:scope.kind= .function
 cel:∀y∈scope.names,y.2= .cell->scope.names.lookup y.1=some .cell
 loc:∀y∈scope.names,y.2= .local->scope.names.lookup y.1=some .local
 len:src.length=N'.length
 from_:∀(j i:Nat) (x:Str),src[j]? =some (some i)->N'[j]? =some x->X.N[i]? =some x/\scope.names.lookup x=some .free
 free:∀x,(x,IY)∈scope.names->X.env.kindOf x=some .cell\/X.env.kindOf x=some .free
def ET (K:HX)(wi:TI)(src:List (Option Nat))(g:TG)(tc:TT)(te:TE):TE:=λσ H Q=>wi σ H λJ H1=> ∀D,H1 D=none->K.lookup D=none →
 ∃W:Nat->Nat->St->List V->Hp->Prop,(∃m,W 0 m (fN src σ) [] (upd H1 D (.lst [])))/\∀i m σ ys H,W i m σ ys H->H D=some (.lst ys) ∧
  ((J.stop i H/\Q (.ref D) H)\/(J.go i H/\ys.length<sizeLine/\∀x H',J.yld i H x H'->g x σ H' λσ2 H2=>tc σ2 H2 λb H3=>
   if b=true then te σ2 H3 λv H4=>H4 D=some (.lst ys)/\∃m',m'<m/\W (i+1) m' σ2 (ys++ [v]) (upd H4 D (.lst (ys++ [v])))else ∃m',m'<m/\W (i+1) m' σ2 ys H3))
def xY (X:Cx)(ifs:List Expr)(t:TT):Prop:=
 ∀(pins:List (Addr×Obj)) (s:Ib) (σ:St) (H:Hp) (Q:Bool->Hp->Prop),Inv X pins σ H s->t σ H Q →
  wpAny (model X.prog X.w) X.A (forIn ifs true λc r=>if r=true then do let ok <-isTrue c X.env (eval c X.env);pure (KH ok)else pure (KH r)) (TP X pins σ Q) X.xe s
def EL:TT:=λ_ H Q=>Q true H
theorem Bh:xY X [] EL:=λ_ _ _ H _ I h=>wpAny_tests_nil ⟨H,I,h⟩
theorem Bg {c:Expr}{t:TT}(h:PT X c t):xY X [c] t:=λpins s σ H Q I q=>wpAny_tests_one (h pins s σ H Q I q)
theorem lG:∀(names:List (Str×KR)) (h:Heap) (acc:List (Str×Addr)),(∀x y c,acc.lookup x=some c->acc.lookup y=some c->x=y)->(∀x c,acc.lookup x=some c->c<h.objs.size) →
  (∀x c,(Kw h.objs.size names acc).lookup x=some c->acc.lookup x=some c\/(h.objs.size<=c/\(Nk h names).IsCell c none)) ∧
  (∀x y c,(Kw h.objs.size names acc).lookup x=some c->(Kw h.objs.size names acc).lookup y=some c->x=y) ∧
  (∀x,(x,JI)∉names->(Kw h.objs.size names acc).lookup x=acc.lookup x) ∧
  (∀x,((x,JI)∈names\/∃c,acc.lookup x=some c)->∃c,(Kw h.objs.size names acc).lookup x=some c) ∧
  (∀x c,(x,JI)∈names->(Kw h.objs.size names acc).lookup x=some c->h.objs.size<=c)
 | [],h,acc,hi,_=>⟨λ_ _ e=> .inl e,hi,λ_ _=>rfl,λx e=>e.elim (λz=>absurd z IM) id,λ_ _ z=>absurd z IM⟩
 | (n,k)::r,h,acc,hi,hl=>by
  unfold Kw Nk
  by_cases hk:k= .cell
  ·subst hk
   rw[if_pos (by rfl),if_pos (by rfl)]
   have hz:(h.push { cls:=.type "cell",data:=.cell none }).objs.size=h.objs.size+1:=Ky ..
   have lk:∀x,((n,h.objs.size)::acc).lookup x=if x=n then some h.objs.size else acc.lookup x:=λx=>by
    rw[Jv]
    by_cases e:x=n
    ·rw[if_pos e,beq_iff_eq.mpr e]
    ·rw[if_neg e,beq_eq_false_iff_ne.mpr e]
   obtain⟨c1,c2,c3,c4,c5⟩:=lG r (h.push { cls:=.type "cell",data:=.cell none }) ((n,h.objs.size)::acc) (λx y c e1 e2=>by
     rw[lk]at e1 e2
     by_cases q1:x=n
     ·by_cases q2:y=n
      ·rw[q1,q2]
      ·rw[if_pos q1]at e1;rw[if_neg q2]at e2
       cases e1;exact absurd (hl _ _ e2) (IG _)
     ·rw[if_neg q1]at e1
      by_cases q2:y=n
      ·rw[if_pos q2]at e2
       cases e2;exact absurd (hl _ _ e1) (IG _)
      ·rw[if_neg q2]at e2;exact hi x y c e1 e2) (λx c e=>by
     rw[lk]at e;rw[hz]
     by_cases q:x=n
     ·rw[if_pos q]at e;cases e;exact OE _
     ·rw[if_neg q]at e;exact Lw (hl x c e))
   rw[hz]at c1 c2 c3 c4 c5;refine⟨λx c e=> ?_,c2,λx hx=> ?_,λx hx=> ?_,λx c hx e=> ?_⟩
   ·rcases c1 x c e with z | z
    ·rw[lk]at z
     by_cases q:x=n
     ·rw[if_pos q]at z;cases z
      exact .inr ⟨Il _,_,Nl r _ _ _ (Iz _ rfl),rfl⟩
     ·rw[if_neg q]at z;exact .inl z
    ·exact .inr ⟨Mx z.1,z.2⟩
   ·rw[c3 x λz=>hx (Ia _ z),lk,if_neg λz=>hx (by rw[z];exact Ie)]
   ·refine c4 x ?_
    rcases hx with hx | hx
    ·rcases Ij.mp hx with z | z
     ·cases z
      exact .inr ⟨_,by rw[lk,if_pos rfl]⟩
     ·exact .inl z
    ·by_cases q:x=n
     ·exact .inr ⟨_,by rw[lk,if_pos q]⟩
     ·exact .inr (by rw[lk,if_neg q];exact hx)
   ·rcases Ij.mp hx with z | z
    ·have q:x=n:=(OR z).1
     rcases c1 x c e with y | y
     ·rw[lk,if_pos q]at y;cases y;exact Il _
     ·exact Mx y.1
    ·exact Mx (c5 x c z e)
  ·have hb:¬ (k == JI)=true:=λz=>hk (by simpa using z)
   rw[if_neg hb,if_neg hb];obtain⟨c1,c2,c3,c4,c5⟩:=lG r h acc hi hl;exact⟨c1,c2,λx hx=>c3 x λz=>hx (Ia _ z),λx hx=>c4 x (hx.imp (λz=>(Ij.mp z).resolve_left λz=>hk (OR z).2.symm) id),λx c hx=>c5 x c ((Ij.mp hx).resolve_left λz=>hk (OR z).2.symm)⟩
theorem xi {M:Model}{A:Jl}{E:H0->Ib->Prop}{s:Ib}{scope:LZ}{globals:Addr}{cl:List (Str×Addr)}{qual:Str}{env:Env}{Q:Env->Ib->Prop}
  (q:Q (newEnv scope s.heap.objs.size globals (Kw (s.heap.objs.size+1) scope.names cl) qual none .none (some env) Np) { s with heap:=Nk (s.heap.push { cls:=.type "dict",data:=.dict #[] }) scope.names }) :
  wpAny M A (newFunctionEnv scope globals cl [] qual none .none (some env)) Q E s:=by
 simp only[newFunctionEnv,NU,if_true];refine HY (wpAny_alloc (HY (wpAny_layCells _ (λname kind cells=>by cases hkc:kind == JI <;> simp[hkc]) _ _ _ _ ?_)))
 rw[show({ s with heap:=s.heap.push { cls:=.type "dict",data:=.dict #[] } }:Ib).heap.objs.size=s.heap.objs.size+1 from Ky ..]
 rw[List.forIn_nil];exact HY (Ik (Ik q))
theorem vR {elt tg iter:Expr}{ifs:List Expr}{scope:LZ}{pos fpos:Pos}{N':List Str}{src:List (Option Nat)}{wi:TI}{g:TG}{tc:TT}{te:TE}{use:Option (H0->Sem Unit)}{Qf:H0->Ib->Prop}
  {pins:List (Addr×Obj)} {s:Ib} {σ:St} {H:Hp} {Q:VK}
  (hc:X.calm=true) (S:LcScope X scope N' src) (hi:PI X tg iter wi)
  (block:∀cl C s₀ H₀ fp,PG (cO X scope cl N' C s₀ H₀ fp) tg g/\xY (cO X scope cl N' C s₀ H₀ fp) ifs tc/\PE (cO X scope cl N' C s₀ H₀ fp) elt te)
  (hs:∀x,Jy iter X.env x=pure x) (I:Inv X pins σ H s) (h:ET X.K wi src g tc te σ H Q)
  (hend:∀(D C:Addr) (H':Hp) (s':Ib),(∃m,s'.heap.Ns C m)->(∀h',KD C s'.heap h'->Inv X pins σ H' { s' with heap:=h' })->(H' C=none/\C≠X.env.locals/\X.s₀.heap.objs.size<=C/\(∀x c,X.env.cells.lookup x=some c->c≠C)/\∀p∈X.pn++pins,p.1≠C)->Q (.ref D) H' →
   compPost (model X.prog X.w) X.A X.xe use Qf (.ref D) C (.ok .next) s') :
  wpAny (model X.prog X.w) X.A (comprehension (.ListComp elt [⟨tg,iter,ifs,0⟩] scope pos) scope X.env fpos (newList []) false (eval iter X.env) use) Qf X.xe s:=by
 have hcell:∀x,(x,IY)∈scope.names->∃c,X.env.cells.lookup x=some c:=λx hx=>I.ok.has x (S.free x hx)
 obtain⟨cl0,hcl,cl01,cl02⟩:=u9 (env:=X.env) (scope:=scope) hcell;refine wpAny_comprehension_free (use:=use) rfl hs hcl S.kind S.loc (cp (hi pins s σ H _ I h) λv s1 h1=>cp h1 λitv s2 h2=> ?_)
 obtain⟨it,fp,tn,J,H2,e,I2,T,st2,f2,hq⟩:=h2;subst e
 -- the new list
 refine Jh ?_
 have hD:H2 s2.heap.objs.size=none:=I2.hok.fresh (Il _)
 have hDK:X.K.lookup s2.heap.objs.size=none:=by
  cases q:X.K.lookup s2.heap.objs.size with
  | none=>rfl
  | some o=>exact absurd (Im (I2.kIn _ o q)) (IG _)
 obtain⟨W,⟨m0,w0⟩,turn⟩:=hq s2.heap.objs.size hD hDK
 have I3:=I2.HE (its:=[]) (ys:=[]) (t':=s2.toks) .nil (Kq _)
 generalize hs3:({ s2 with heap:=s2.heap.push { cls:=.type "list",data:=.seq ([]:List H0).toArray },toks:=s2.toks }:Ib)=s3 at I3
 generalize hH3:upd H2 s2.heap.objs.size (.lst [])=H3 at I3 w0
 have hDsz:s2.heap.objs.size<s3.heap.objs.size:=by rw[<-hs3];simp[Ky]
 have fr3:∀b∈fp,H3 b=none:=λb hb=>by
  obtain⟨o,eo,_⟩:=T.obj _ _ st2 b hb;rw[<-hH3,aY (Js (Im eo))];exact(f2 b hb).1
 have st3:tn 0 s3.heap:=T.keep _ _ _ st2 λb hb o e=>by rw[<-hs3];exact Ii _ e
 have f3:∀b∈fp,oE X pins H3 b:=λb hb=>⟨fr3 b hb,(f2 b hb).2⟩
 have D3:H3 s2.heap.objs.size=some (.lst []):=by rw[<-hH3];exact bx
 generalize s2.heap.objs.size=D at*
 clear hs3 hH3 hD hDK
 -- the block's frame
 refine xi ?_
 have old:∀b o,s3.heap.get? b=some o->(Nk (s3.heap.push { cls:=.type "dict",data:=.dict #[] }) scope.names).get? b=some o:=λb o e=>Nl _ _ b o (Ii _ e)
 have hns₁:(Nk (s3.heap.push { cls:=.type "dict",data:=.dict #[] }) scope.names).Ns s3.heap.objs.size (λ_=>none):=(Heap.Ns.new s3.heap (.type "dict")).keeps (Nl _ _)
 have hz3:(s3.heap.push { cls:=.type "dict",data:=.dict #[] }).objs.size=s3.heap.objs.size+1:=Ky ..
 have lt0:∀x c,cl0.lookup x=some c->c<s3.heap.objs.size:=λx c e=>let ⟨_,ic⟩:=I3.cell x c (cl01 x c e);ic.lt
 obtain⟨c1,c2,c3,c4,c5⟩:=lG scope.names (s3.heap.push { cls:=.type "dict",data:=.dict #[] }) cl0 (λx y c e1 e2=>I3.ok.inj x y c (cl01 x c e1) (cl01 y c e2)) λx c e=>by rw[hz3];exact Lw (lt0 x c e)
 rw[hz3]at c1 c2 c3 c4 c5
 generalize hcl':Kw (s3.heap.objs.size+1) scope.names cl0=cl at*
 generalize hh₁:Nk (s3.heap.push { cls:=.type "dict",data:=.dict #[] }) scope.names=h₁ at*
 have below:∀b o,s3.heap.get? b=some o->b≠s3.heap.objs.size:=λb o e=>Js (Im e)
 -- a cell of the block's: one from around,or a new one
 have cl1:∀x c,cl.lookup x=some c->X.env.cells.lookup x=some c\/(s3.heap.objs.size<c/\h₁.IsCell c none):=λx c e=>(c1 x c e).imp (cl01 x c) id
 generalize hC:s3.heap.objs.size=C at*
 have stk:∀b,b≠X.env.locals->b∉X.fs->b∉rF X.stack:=λb h1 h2 z=>(Ij.mp (I3.He b z)).elim h1 h2
 have apart:∀b∈fp,∀x c,cl.lookup x=some c->c≠b:=λb hb x c e=>by
  rcases cl1 x c e with z | z
  ·exact(f3 b hb).2.2.2.2.1 x c z
  ·obtain⟨o,eo,_⟩:=T.obj _ _ st3 b hb
   have h1:=Im eo;rw[hC]at h1;exact Kf (Nat.lt_trans h1 z.1)
 have I4:Inv (cO X scope cl N' C s3 H3 fp) pins (fN src σ) H3 { s3 with heap:=h₁ }:=by
  refine⟨⟨I3.ok.mod,S.kind,I3.ok.glob,I3.ok.blt,K8 hC,c2,λx hx=> ?_,λx c hx e=>KF (hC▸c5 x c (jq (beq_iff_eq.mp hx)) e),I3.ok.hd,I3.ok.frames,.inl rfl,
    λb hb=>⟨?_,λx c e=>apart b hb x c e⟩,I3.bs,IQ I3.ok.bsz I3.sz,λb o e z=> ?_,λb hb=>stk b (f3 b hb).2.1 (f3 b hb).2.2.1,I3.stack,I3.G4⟩,
   rfl,I3.bare,Un.kept old,⟨_,hns₁,λj x v e1 e2 e3=> ?_⟩,λx c e=> ?_,I3.hok.fresh (K8 hC),λx c e=>(cl1 x c e).elim (I3.freeC x c) λz=>I3.hok.fresh (by rw[hC];exact KF z.1),λp hp=> ?_,I3.hok.kept old,?_⟩
  ·have key:∀k,(relabel scope X.env).names.lookup x=some k->(k= .cell\/k= .free)->∃c,cl.lookup x=some c:=λk e hk=>by
    obtain⟨k',e',z⟩:=iW e
    have hk':k'= .cell\/k'= .free:=z.elim (λz=>z▸hk) .inr
    rcases hk' with q | q
    ·exact c4 x (.inl (q▸jq e'))
    ·exact c4 x (.inr (cl02 x (q▸jq e')))
   rcases hx with hx | hx
   ·exact key _ hx (.inl rfl)
   ·exact key _ hx (.inr rfl)
  ·obtain⟨o,eo,_⟩:=T.obj _ _ st3 b hb
   show b≠C
   exact below b o eo
  ·have z':b∈fp:=z
   obtain⟨_,_,_,z1,_⟩:=f3 b z';rcases z1 with z1 | z1
   ·exact I3.ok.noex b o e z1
   ·exact absurd (Iu (Im (I3.ok.bs b o e).1) z1) (IG _)
  ·unfold fN at e2
   rw[IF]at e2
   cases q:src[j]? with
   | none=>rw[q]at e2;simp at e2
   | some o=>
    rw[q]at e2
    cases o with
    | none=>simp at e2
    | some i=>
     have e2':(σ[i]?).join=some v:=by simpa using e2
     have e2'':σ[i]? =some (some v):=by
      cases q2:σ[i]? with
      | none=>rw[q2]at e2';simp at e2'
      | some z=>rw[q2]at e2';simp at e2';rw[e2']
     obtain⟨hN,hfree⟩:=S.from_ j i x q e1
     have hm:=jq hfree
     have hk:=S.free x hm;obtain⟨m,hn,hl⟩:=I3.loc
     have hv:Ae X.env.scope x:=by
      rcases hk with z | z
      ·exact .inr (.inl z)
      ·exact .inr (.inr z)
     obtain⟨u,r,l⟩:=hl i x v hN e2'' hv;refine⟨u,r,.inr ⟨?_,?_⟩⟩
     ·exact ia hfree
     ·rcases l with⟨z,_⟩ | ⟨_,c,ec,ic⟩
      ·rcases hk with z' | z' <;> rw[z']at z <;> cases z
      ·obtain⟨c',ec0⟩:=cl02 x hm
       have ec':cl.lookup x=some c':=(c3 x λz=>by have:=S.cel _ z rfl;rw[hfree]at this;cases this).trans ec0
       have:=cl01 x c' ec0;rw[ec]at this;cases this;obtain⟨o,ho,hd⟩:=ic;exact⟨c,ec',o,old _ _ ho,hd⟩
  ·rcases cl1 x c e with z | z
   ·obtain⟨v,o,ho,hd⟩:=I3.cell x c z
    exact⟨v,o,old _ _ ho,hd⟩
   ·exact⟨none,z.2⟩
  ·obtain⟨e,n,ne,nf,d⟩:=I3.pin p hp
   exact⟨old _ _ e,n,below _ _ e,stk _ ne nf,d⟩
  ·show(fN src σ).length=N'.length
   unfold fN;rw[Ig];exact S.len
 obtain⟨bG,bI,bE⟩:=block cl C s3 H3 fp
 have stat:∀{H':Hp},(∀b∈fp,H' b=none)->∀b∈fp,oE (cO X scope cl N' C s3 H3 fp) pins H' b:=λhn b hb=>by
  obtain⟨o,eo,_⟩:=T.obj _ _ st3 b hb;exact⟨hn b hb,below b o eo,stk b (f3 b hb).2.1 (f3 b hb).2.2.1,.inl hb,apart b hb,(f3 b hb).2.2.2.2.2⟩
 have st4:tn 0 h₁:=T.keep _ _ _ st3 λb hb o e=>old b o e
 -- behind the block
 have after:∀(H':Hp) (s':Ib) (σ':St),Inv (cO X scope cl N' C s3 H3 fp) pins σ' H' s'->Q (.ref D) H' →
   compPost (model X.prog X.w) X.A X.xe use Qf (.ref D) C (.ok .next) s':=λH' s' σ' I' q=>by
  obtain⟨m,hn,_⟩:=id I'.loc
  have fC:X.s₀.heap.objs.size<=C:=by rw[<-hC];exact I3.sz
  have ltC:∀b o,s3.heap.get? b=some o->b<C:=λb o e=>by rw[<-hC];exact Im e
  refine hend D C H' s' ⟨m,hn⟩ (λh' hsb=> ?_) ⟨I'.free,?_,fC,λx c e z=> ?_,λp hp z=> ?_⟩ q
  rotate_left
  ·have:=I3.lt;rw[hC]at this;exact Kf this
  ·obtain⟨v,ic⟩:=I3.cell x c e
   have:=ic.lt;rw[hC,z]at this;exact IG _ this
  ·have:=ltC _ _ (I3.pin p hp).1;rw[z]at this;exact IG _ this
  have u:Un (rF X.stack) fp H3 H' s3.heap s'.heap:=I'.base
  have lift:∀b o,s3.heap.get? b=some o->∀o',s'.heap.get? b=some o'->h'.get? b=some o':=λb o e o' e'=>hsb.extBut b o' (below b o e) e'
  have u':Un (rF X.stack) fp H3 H' s3.heap h':=
   ⟨λb o e n hb hx=>lift b o e o (u.keep b o e n hb hx),λb o e n hb hx=>by
     obtain⟨sl,z⟩:=u.slot b o e n hb hx;exact⟨sl,lift b o e _ z⟩,u.free,λb o e hx=>by
     obtain⟨o',z⟩:=u.there b o e hx;exact⟨o',lift b o e _ z⟩,u.tups,u.frzs,u.tbls⟩
  have hCn:H' C=none:=I'.free
  have hok':HOk X.prog X.w H' h':=λb ob e=>by
   refine(I'.hok b ob e).G2 (λc w' hc' q'=>(hsb.2 c ?_).trans q') (λ_ q=>q) λ_ _ q=>q
   rintro rfl
   rcases hc' with rfl | hc'
   ·rw[hCn]at e;cases e
   ·rw[hCn]at hc';cases hc'
  have I5:Inv X pins σ H' { s' with heap:=h' }:=I3.Hw (s':={ s' with heap:=h' }) (ch:=fp) I'.os u' hok' I'.bare λb hb=>⟨(f3 b hb).2.2.2.1,(f3 b hb).2.1,(f3 b hb).2.2.2.2.1,(f3 b hb).2.2.2.2.2⟩
  exact I5
 have loop:codeAny (model X.prog X.w) X.A (.compLoop (.ListComp elt [⟨tg,iter,ifs,0⟩] scope pos) 0 (.ref it) (.ref D) (compEnvC scope cl C X.env))
   (compPost (model X.prog X.w) X.A X.xe use Qf (.ref D) C) { s3 with heap:=h₁ }:=by
  refine rR (λn s'=> ∃i σ' ys H',Inv (cO X scope cl N' C s3 H3 fp) pins σ' H' s'/\tn i s'.heap/\(∀b∈fp,H' b=none)/\W i n σ' ys H') ?_ m0 ⟨0,_,[],H3,I4,st4,fr3,w0⟩
  rintro n s5 ⟨i,σ5,ys,H5,I5,st5,fr5,w5⟩
  obtain⟨hDl,alt⟩:=turn i n σ5 ys H5 w5;rcases alt with⟨stop,qn⟩ | ⟨go,hlen,step⟩
  ·refine cp (T.done (cO X scope cl N' C s3 H3 fp) rfl rfl rfl hc i pins s5 σ5 H5 _ I5 (stat fr5) st5 stop) λr s6 ⟨hr,I6⟩=> ?_
   subst hr;exact after H5 s6 σ5 I6 qn
  ·refine cp (T.item (cO X scope cl N' C s3 H3 fp) rfl rfl rfl hc i pins s5 σ5 H5 _ I5 (stat fr5) st5 go) λr s6 ⟨u,hr,h6⟩=> ?_
   subst hr;refine cp h6 λ_ s7 hh_=> ?_
   obtain⟨x,H7,I7,r7,y7,st7,fr7⟩:=hh_
   have I7':=I7.pinned (stat fr7) (T.obj _ _ st7);refine cp (bG _ s7 σ5 H7 x u _ I7' r7 (step x H7 y7)) λ_ s8 hh_=> ?_
   obtain⟨σ8,H8,I8,q8⟩:=hh_;refine cp (bI _ s8 σ8 H8 _ I8 q8) λok s9 hh_=> ?_
   obtain⟨H9,I9,q9⟩:=hh_
   have again:∀{σx:St} {Hx:Hp} {sx:Ib} {ys':List V},Inv (cO X scope cl N' C s3 H3 fp) (pins++m5 fp s7.heap) σx Hx sx->(∃m',m'<n/\W (i+1) m' σx ys' Hx) →
     ∃m,m<n/\∃i σ' ys H',Inv (cO X scope cl N' C s3 H3 fp) pins σ' H' sx/\tn i sx.heap/\(∀b∈fp,H' b=none)/\W i m σ' ys H':=λ{σx Hx sx ys'} Ix nx=>by
    obtain⟨m',hm,wx⟩:=nx;refine⟨m',hm,i+1,σx,ys',Hx,Ix.GY,T.keep _ _ _ st7 λb hb o e=>(Ix.pin (b,o) (Iy _ (Iy _ (gS hb e)))).1,λb hb=> ?_,wx⟩
    obtain⟨o,e,d⟩:=T.obj _ _ st7 b hb;exact(Ix.pin (b,o) (Iy _ (Iy _ (gS hb e)))).2.1
   cases ok with
   | false=>
    rw[if_neg IK]at q9 ⊢
    exact again I9 q9
   | true=>
    rw[if_pos rfl]at q9 ⊢;refine cp (bE _ s9 σ8 H9 _ I9 q9) λv s10 hh_=> ?_
    obtain⟨y,H10,I10,r10,hD10,q10⟩:=hh_;refine cp (pJ _ s10 σ8 H10 (.ref D) [y] (.ref D) [v] (λ_ H'=>H'=upd H10 D (.lst (ys++ [y]))) I10 rfl (.cons r10 .nil) ⟨D,ys,y,rfl,rfl,hD10,hlen,rfl⟩) λ_ s11 hh_=> ?_
    obtain⟨_,H11,I11,_,e11⟩:=hh_;subst e11;exact again I11 q10
 exact codeAny_compStart_list loop (T.self _ 0 _ _ _ st4 loop)
theorem yJ {elt tg iter:Expr}{ifs:List Expr}{scope:LZ}{pos:Pos}{N':List Str}{src:List (Option Nat)}{wi:TI}{g:TG}{tc:TT}{te:TE}
  (hc:X.calm=true) (S:LcScope X scope N' src) (hi:PI X tg iter wi)
  (block:∀cl C s₀ H₀ fp,PG (cO X scope cl N' C s₀ H₀ fp) tg g/\xY (cO X scope cl N' C s₀ H₀ fp) ifs tc/\PE (cO X scope cl N' C s₀ H₀ fp) elt te)
  (hs:∀x,Jy iter X.env x=pure x:=by intro _;rfl) :
  PE X (.ListComp elt [⟨tg,iter,ifs,0⟩] scope pos) (ET X.K wi src g tc te):=by
 intro pins s σ H Q I h;rw[eval_ListComp];exact vR (use:=none) hc S hi block hs I h λD C H' s' ⟨m,hn⟩ inv _ q=>⟨m,hn,λh' hsb=>⟨.ref D,H',inv h' hsb,rfl,q⟩⟩
theorem FC {elt tg iter:Expr}{ifs:List Expr}{scope:LZ}{pos py spos:Pos}{N':List Str}{src:List (Option Nat)}{wi:TI}{g:TG}{tc:TT}{te:TE}{i:Nat}{y:Str}
  (hc:X.calm=true) (S:LcScope X scope N' src) (hi:PI X tg iter wi)
  (block:∀cl C s₀ H₀ fp,PG (cO X scope cl N' C s₀ H₀ fp) tg g/\xY (cO X scope cl N' C s₀ H₀ fp) ifs tc/\PE (cO X scope cl N' C s₀ H₀ fp) elt te)
  (hN:X.N.Nodup) (hiy:X.N[i]? =some y) (hy:Loc X.env.scope y) (hsw:JY (.ListComp elt [⟨tg,iter,ifs,0⟩] scope pos) (some (.Name y py)) spos.line X.env=pure true)
  (hf:X.fn y=true\/X.env.scope.names.lookup y=some .local) (hs:∀x,Jy iter X.env x=pure x:=by intro _;rfl) :
  PS X (.Assign [.Name y py] (.ListComp elt [⟨tg,iter,ifs,0⟩] scope pos) spos) (AD (ET X.K wi src g tc te) (zE i)):=by
 intro pins s σ H D I h;rw[exec_Assign_Name_used _ _ _ _ hsw];refine HY (wpAny_standAt (HY ?_))
 show wpAny (model X.prog X.w) X.A (do let _ <-comprehension (.ListComp elt [⟨tg,iter,ifs,0⟩] scope pos) scope X.env _ (newList []) false (eval iter X.env) (some (assign (.Name y py) X.env))) _ _ s
 refine HY (cp (vR (use:=some (assign (.Name y py) X.env)) (Qf:=λ_ s'=>SP X pins D .next s') (Q:=λv H'=>D.nx (σ.set i (some v)) H') hc S hi block hs I h λL C H' s' ⟨m,hn⟩ inv ⟨c0,c1,c2,c3,c4⟩ q=> ?_) λ_ s' hq=>Ik (Ik hq))
 have I0:Inv X pins σ H' s':=inv s'.heap (Heap.SameBut.refl ..)
 show wpAny (model X.prog X.w) X.A (assign (.Name y py) X.env (.ref L)) _ _ s'
 refine On (pw I0 hN hiy hy (v:=.ref L) rfl (λs2 I2 ⟨b,sb,hb⟩=> ?_) hf)
 have hbC:C≠b:=by
  rcases hb with z | z
  ·rw[z];exact c1
  ·exact λw=>c3 y b z w.symm
 refine⟨m,hn.sameBut sb hbC,λh' hsb=> ?_⟩
 exact⟨_,H',I2.turned (t':=s2.toks) (λb' o hb' e=>(hsb.2 b' hb').trans e) c0 c1 (.inr c2) c3 c4,q⟩
end
end L2
namespace Tr
open PySem PySem.Spec PyProof.Rows L2
inductive T where
 | non | bl (b:Bool) | int (i:Int) | str (x:Str) | tup (l:List T) | lst (l:List T)
 /-- the law's script: a list of ints that is only read -/
 | scr (l:List Int)
 /-- a dict: its keys,its values -/
 | dct (ks vs:List T)
def Ct:T->Option Key
 | .int i=>some (.inl i)
 | .str x=>some (.inr x)
 | _=>none
def n4:List T->Option (List Key)
 | [] =>some []
 | t::l=>match Ct t,n4 l with
  | some k,some r=>some (k::r)
  | _,_=>none
def cC:T->Option (List Key)
 | .tup l=>n4 l
 | _=>none
inductive Rs (α:Type) where
 | ok (a:α) | err (c:Str) | bad
def Rs.bind {α β:Type}(x:Rs α)(f:α->Rs β):Rs β:=match x with
 | .ok a=>f a
 | .err c=> .err c
 | .bad=> .bad
instance:Monad Rs where
 pure:=Rs.ok
 bind:=Rs.bind
@[simp] theorem aI {α β:Type} (a:α) (f:α->Rs β):(Rs.ok a >>= f)=f a:=rfl
@[simp] theorem GC {α:Type} (a:α):(pure a:Rs α)=Rs.ok a:=rfl
@[simp] theorem Gp {α β:Type} (f:α->Rs β):((Rs.bad:Rs α) >>= f)= .bad:=rfl
@[simp] theorem Gm {α β:Type} (c:Str) (f:α->Rs β):((Rs.err c:Rs α) >>= f)= .err c:=rfl
abbrev Ow:=Addr->Prop
mutual
def Rep (K:HX)(O:Ow)(H:Hp):T->V->Prop
 | .non,v=>v= .non
 | .bl b,v=>v= .bl b
 | .int i,v=>v= .int i
 | .str x,v=>v= .str x
 | .tup l,v=> ∃a vs,v= .ref a/\¬ O a/\H a=some (.tup vs)/\Reps K O H l vs
 | .lst l,v=> ∃a vs,v= .ref a/\¬ O a/\H a=some (.lst vs)/\Reps K O H l vs
 | .scr l,v=> ∃a,v= .ref a/\¬ O a/\SqL K H a (l.map V.int)
 | .dct ks ts,v=> ∃a kvs,v= .ref a/\¬ O a/\Rd H a (.dT kvs)/\ks.map cC=kvs.map (λp=>some p.1)/\Reps K O H ts (kvs.map (·.2))
def Reps (K:HX)(O:Ow)(H:Hp):List T->List V->Prop
 | [],vs=>vs= []
 | t::r,vs=> ∃v ws,vs=v::ws/\Rep K O H t v/\Reps K O H r ws
end
def SameO (P:Ow)(H H':Hp):Prop:=∀b o,H b=some o->¬ P b->H' b=some o
theorem SameO.of {P:Ow}{H H':Hp}(h:Same H H'):SameO P H H':=λb o e _=>h b o e
theorem Rd.Hu {P:Ow}{H H':Hp}{a:Addr}{u:HO}(h:SameO P H H')(n:¬ P a)(q:Rd H a u):Rd H' a u:=q.elim (λe=> .inl (h _ _ e n)) λ⟨o,e⟩=> .inr ⟨o,h _ _ e n⟩
theorem SqL.keep {K:HX}{P:Ow}{H H':Hp}{a:Addr}{vs:List V}(h:SameO P H H')(n:¬ P a)(q:SqL K H a vs):SqL K H' a vs:=by
 rcases q with(q | ⟨o,q⟩) | q
 ·exact .inl (.inl (h _ _ q n))
 ·exact .inl (.inr ⟨o,h _ _ q n⟩)
 ·exact .inr q
mutual
theorem Rep.keep {K:HX}{O P:Ow}{H H':Hp}(h:SameO P H H')(sub:∀a,P a->O a):∀{t:T} {v:V},Rep K O H t v->Rep K O H' t v
 | .non,_,r=>by unfold Rep at r ⊢;exact r
 | .bl _,_,r=>by unfold Rep at r ⊢;exact r
 | .int _,_,r=>by unfold Rep at r ⊢;exact r
 | .str _,_,r=>by unfold Rep at r ⊢;exact r
 | .tup l,_,r=>by
  unfold Rep at r ⊢;obtain⟨a,vs,e,n,q,z⟩:=r
  exact⟨a,vs,e,n,h _ _ q (λp=>n (sub a p)),Reps.keep h sub z⟩
 | .lst l,_,r=>by
  unfold Rep at r ⊢;obtain⟨a,vs,e,n,q,z⟩:=r
  exact⟨a,vs,e,n,h _ _ q (λp=>n (sub a p)),Reps.keep h sub z⟩
 | .scr l,_,r=>by
  unfold Rep at r ⊢;obtain⟨a,e,n,q⟩:=r
  exact⟨a,e,n,SqL.keep h (λp=>n (sub a p)) q⟩
 | .dct ks ts,_,r=>by
  unfold Rep at r ⊢;obtain⟨a,kvs,e,n,q,k,z⟩:=r;exact⟨a,kvs,e,n,Rd.Hu h (λp=>n (sub a p)) q,k,Reps.keep h sub z⟩
theorem Reps.keep {K:HX}{O P:Ow}{H H':Hp}(h:SameO P H H')(sub:∀a,P a->O a):∀{l:List T} {vs:List V},Reps K O H l vs->Reps K O H' l vs
 | [],_,r=>by unfold Reps at r ⊢;exact r
 | t::l,_,r=>by
  unfold Reps at r ⊢;obtain⟨v,ws,e,p,q⟩:=r;exact⟨v,ws,e,Rep.keep h sub p,Reps.keep h sub q⟩
end
mutual
theorem Rep.less {K:HX}{O O':Ow}{H:Hp}(sub:∀a,O' a->O a):∀{t:T} {v:V},Rep K O H t v->Rep K O' H t v
 | .non,_,r=>by unfold Rep at r ⊢;exact r
 | .bl _,_,r=>by unfold Rep at r ⊢;exact r
 | .int _,_,r=>by unfold Rep at r ⊢;exact r
 | .str _,_,r=>by unfold Rep at r ⊢;exact r
 | .tup l,_,r=>by
  unfold Rep at r ⊢;obtain⟨a,vs,e,n,q,z⟩:=r
  exact⟨a,vs,e,λp=>n (sub a p),q,Reps.less sub z⟩
 | .lst l,_,r=>by
  unfold Rep at r ⊢;obtain⟨a,vs,e,n,q,z⟩:=r
  exact⟨a,vs,e,λp=>n (sub a p),q,Reps.less sub z⟩
 | .scr l,_,r=>by
  unfold Rep at r ⊢;obtain⟨a,e,n,z⟩:=r
  exact⟨a,e,λp=>n (sub a p),z⟩
 | .dct ks ts,_,r=>by
  unfold Rep at r ⊢;obtain⟨a,kvs,e,n,q,k,z⟩:=r;exact⟨a,kvs,e,λp=>n (sub a p),q,k,Reps.less sub z⟩
theorem Reps.less {K:HX}{O O':Ow}{H:Hp}(sub:∀a,O' a->O a):∀{l:List T} {vs:List V},Reps K O H l vs->Reps K O' H l vs
 | [],_,r=>by unfold Reps at r ⊢;exact r
 | t::l,_,r=>by
  unfold Reps at r ⊢;obtain⟨v,ws,e,p,q⟩:=r;exact⟨v,ws,e,Rep.less sub p,Reps.less sub q⟩
end
section
variable {K:HX}{O:Ow}{H H':Hp}{t:T}{v:V}{l:List T}{vs:List V}
theorem Rep.same (h:Same H H')(r:Rep K O H t v):Rep K O H' t v:=Rep.keep (P:=λ_=>False) (SameO.of h) (λ_ z=>z.elim) r
theorem Reps.same (h:Same H H')(r:Reps K O H l vs):Reps K O H' l vs:=Reps.keep (P:=λ_=>False) (SameO.of h) (λ_ z=>z.elim) r
theorem Rep.HG:Rep K O H .non .non:=by unfold Rep;rfl
theorem Rep.bl_ (b:Bool):Rep K O H (.bl b) (.bl b):=by unfold Rep;rfl
theorem Rep.GS (i:Int):Rep K O H (.int i) (.int i):=by unfold Rep;rfl
theorem Rep.HV (x:Str):Rep K O H (.str x) (.str x):=by unfold Rep;rfl
theorem Rep.Fk:Rep K O H (.tup l) v↔ ∃a vs,v= .ref a/\¬ O a/\H a=some (.tup vs)/\Reps K O H l vs:=by unfold Rep;exact Mo
theorem Rep.Do:Rep K O H (.lst l) v↔ ∃a vs,v= .ref a/\¬ O a/\H a=some (.lst vs)/\Reps K O H l vs:=by unfold Rep;exact Mo
theorem Rep.GQ {ks ts:List T}:Rep K O H (.dct ks ts) v↔ ∃a kvs,v= .ref a/\¬ O a/\Rd H a (.dT kvs)/\ks.map cC=kvs.map (λp=>some p.1)/\Reps K O H ts (kvs.map (·.2)):=by unfold Rep;exact Mo
theorem Rep.AC {i:Int}:Rep K O H (.int i) v↔v= .int i:=by unfold Rep;exact Mo
theorem Rep.FB {b:Bool}:Rep K O H (.bl b) v↔v= .bl b:=by unfold Rep;exact Mo
theorem Rep.GR {b:Str}:Rep K O H (.str b) v↔v= .str b:=by unfold Rep;exact Mo
theorem Rep.GV:Rep K O H .non v↔v= .non:=by unfold Rep;exact Mo
theorem Reps.GP:Reps K O H [] []:=by unfold Reps;rfl
theorem Reps.FS (r:Rep K O H t v)(q:Reps K O H l vs):Reps K O H (t::l) (v::vs):=by unfold Reps;exact⟨v,vs,rfl,r,q⟩
theorem Reps.Da:Reps K O H [] vs↔vs= []:=by unfold Reps;exact Mo
theorem Reps.me:Reps K O H (t::l) vs↔ ∃v ws,vs=v::ws/\Rep K O H t v/\Reps K O H l ws:=by
 constructor
 ·intro h;unfold Reps at h;exact h
 ·intro h;unfold Reps;exact h
end
section
variable {K:HX}{O:Ow}{H H':Hp}
theorem Reps.length:∀{l:List T} {vs:List V},Reps K O H l vs->l.length=vs.length
 | [],vs,r=>by rw[Reps.Da.mp r];rfl
 | t::l,vs,r=>by
  obtain⟨v,ws,rfl,_,q⟩:=Reps.me.mp r;simp[q.length]
theorem Reps.get:∀{l:List T} {vs:List V} {i:Nat} {t:T},Reps K O H l vs->l[i]? =some t->∃v,vs[i]? =some v/\Rep K O H t v
 | [],_,_,_,_,e=>by simp at e
 | t::l,vs,i,u,r,e=>by
  obtain⟨v,ws,rfl,p,q⟩:=Reps.me.mp r
  cases i with
  | zero=>simp at e;subst e;exact⟨v,rfl,p⟩
  | succ i=>
   obtain⟨z,e1,e2⟩:=q.get (i:=i) (t:=u) (by simpa using e)
   exact⟨z,by simpa using e1,e2⟩
theorem Reps.append:∀{l m:List T} {vs ws:List V},Reps K O H l vs->Reps K O H m ws->Reps K O H (l++m) (vs++ws)
 | [],_,vs,_,r,s=>by rw[Reps.Da.mp r];exact s
 | t::l,m,vs,ws,r,s=>by
  obtain⟨v,us,rfl,p,q⟩:=Reps.me.mp r;exact Reps.FS p (q.append s)
theorem Reps.take:∀{l:List T} {vs:List V} (n:Nat),Reps K O H l vs->Reps K O H (l.take n) (vs.take n)
 | _,_,0,_=>Reps.GP
 | [],vs,n+1,r=>by rw[Reps.Da.mp r];exact Reps.GP
 | t::l,vs,n+1,r=>by
  obtain⟨v,us,rfl,p,q⟩:=Reps.me.mp r;exact Reps.FS p (q.take n)
theorem Reps.drop:∀{l:List T} {vs:List V} (n:Nat),Reps K O H l vs->Reps K O H (l.drop n) (vs.drop n)
 | _,_,0,r=>r
 | [],vs,n+1,r=>by rw[Reps.Da.mp r];exact Reps.GP
 | t::l,vs,n+1,r=>by
  obtain⟨v,us,rfl,p,q⟩:=Reps.me.mp r;exact q.drop n
theorem Reps.ints:∀{ns:List Int},Reps K O H (ns.map T.int) (ns.map V.int)
 | [] =>Reps.GP
 | n::r=>Reps.FS (Rep.GS n) Reps.ints
end
inductive OT where
 | lst (l:List T) | dct (ks ts:List T) | dd (ks:List T) (rows:List (List T×List T))
def OT.view:OT->T
 | .lst l=> .lst l
 | .dct ks ts=> .dct ks ts
 | .dd ks rows=> .dct ks (rows.map λr=> .dct r.1 r.2)
def RowsR (K:HX)(O:Ow)(H:Hp):List (List T×List T)->List Addr->Prop
 | [],as=>as= []
 | r::rs,as=> ∃b bs kvs,as=b::bs/\H b=some (.dT kvs)/\r.1.map cC=kvs.map (λp=>some p.1)/\Reps K O H r.2 (kvs.map (·.2))/\RowsR K O H rs bs
def ORep (K:HX)(O M:Ow)(H:Hp):OT->V->Prop
 | .lst l,v=> ∃a vs,v= .ref a/\(∀b,M b↔b=a)/\H a=some (.lst vs)/\Reps K O H l vs
 | .dct ks ts,v=> ∃a kvs,v= .ref a/\(∀b,M b↔b=a)/\H a=some (.dT kvs)/\ks.map cC=kvs.map (λp=>some p.1)/\Reps K O H ts (kvs.map (·.2))
 | .dd ks rows,v=> ∃a kvs as,v= .ref a/\(∀b,M b↔b=a\/b∈as)/\a∉as/\as.Nodup/\H a=some (.dT kvs)/\ks.map cC=kvs.map (λp=>some p.1)/\kvs.map (·.2)=as.map V.ref/\RowsR K O H rows as
inductive Sl where
 | em | va (t:T) | ow (o:OT)
abbrev En:=List Sl
abbrev Mn:=Nat->Ow
def Mn.u (M:Mn):Ow:=λa=> ∃i,M i a
def Mtb (H:Hp)(a:Addr):Prop:=(∃vs,H a=some (.lst vs))\/∃kvs,H a=some (.dT kvs)
theorem Mtb.some {H:Hp}{a:Addr}(h:Mtb H a):∃o,H a=some o:=h.elim (λ⟨_,e⟩=>⟨_,e⟩) λ⟨_,e⟩=>⟨_,e⟩
theorem Mtb.same {H H':Hp}(s:Same H H'){a:Addr}(h:Mtb H a):Mtb H' a:=h.elim (λ⟨vs,e⟩=> .inl ⟨vs,s _ _ e⟩) λ⟨k,e⟩=> .inr ⟨k,s _ _ e⟩
structure EnvM (K:HX)(O:Ow)(M:Mn)(H:Hp)(Z:En)(σ:L2.St):Prop where
 len:Z.length=σ.length
 val:∀(i:Nat) (t:T),Z[i]? =some (.va t)->∃v,σ[i]? =some (some v)/\Rep K O H t v
 own:∀(i:Nat) (o:OT),Z[i]? =some (.ow o)->∃v,σ[i]? =some (some v)/\ORep K O (M i) H o v
 sub:∀(i:Nat) (a:Addr),M i a->O a
 dis:∀(i j:Nat) (a:Addr),M i a->M j a->i=j
 trk:∀(a:Addr),O a->Mtb H a
theorem RowsR.same {K:HX}{O:Ow}{H H':Hp}(h:Same H H'):∀{rs:List (List T×List T)} {as:List Addr},RowsR K O H rs as->RowsR K O H' rs as
 | [],_,r=>r
 | _::_,_,⟨b,bs,kvs,e1,e2,e3,e4,e5⟩=>⟨b,bs,kvs,e1,h _ _ e2,e3,e4.same h,e5.same h⟩
theorem ORep.same {K:HX}{O M:Ow}{H H':Hp}(h:Same H H'){o:OT}{v:V}(r:ORep K O M H o v):ORep K O M H' o v:=by
 cases o with
 | lst l=>obtain⟨a,vs,e1,e2,e3,e4⟩:=r;exact⟨a,vs,e1,e2,h _ _ e3,e4.same h⟩
 | dct ks ts=>obtain⟨a,kvs,e1,e2,e3,e4,e5⟩:=r;exact⟨a,kvs,e1,e2,h _ _ e3,e4,e5.same h⟩
 | dd ks rows=>obtain⟨a,kvs,as,e1,e2,e3,e4,e5,e6,e7,e8⟩:=r;exact⟨a,kvs,as,e1,e2,e3,e4,h _ _ e5,e6,e7,e8.same h⟩
theorem EnvM.same {K:HX}{O:Ow}{M:Mn}{H H':Hp}{Z:En}{σ:L2.St}(h:Same H H')(e:EnvM K O M H Z σ):EnvM K O M H' Z σ where
 len:=e.len
 val:=λi t q=>let ⟨v,e1,e2⟩:=e.val i t q;⟨v,e1,e2.same h⟩
 own:=λi o q=>let ⟨v,e1,e2⟩:=e.own i o q;⟨v,e1,e2.same h⟩
 sub:=e.sub
 dis:=e.dis
 trk:=λa q=>(e.trk a q).same h
def EnvO (K:HX)(O:Ow)(H:Hp)(Z:En)(σ:L2.St):Prop:=∃M,EnvM K O M H Z σ
section
variable {K:HX}{O:Ow}{H H':Hp}{Z:En}{σ:L2.St}
theorem EnvO.val (e:EnvO K O H Z σ)(i:Nat)(t:T)(q:Z[i]? =some (.va t)):∃v,σ[i]? =some (some v)/\Rep K O H t v:=e.elim λ_ e=>e.val i t q
theorem EnvO.mtb (e:EnvO K O H Z σ):∀a,O a->Mtb H a:=e.elim λ_ e=>e.trk
theorem EnvO.trk (e:EnvO K O H Z σ)(a:Addr)(z:O a):∃o,H a=some o:=(e.mtb a z).some
theorem EnvO.same (h:Same H H')(e:EnvO K O H Z σ):EnvO K O H' Z σ:=e.elim λM e=>⟨M,e.same h⟩
theorem EnvO.fresh (e:EnvO K O H Z σ){p:Addr}(h:H p=none):¬ O p:=λz=>by
 obtain⟨o,q⟩:=e.trk p z;rw[h]at q;cases q
end
def GO (h:Heap)(C e:Addr):Option Addr->Prop
 | none=> ∃oe vs,h.get? e=some oe/\oe.cls= .ref C/\oe.data= .fields vs/\vs[1]? =some .none
 | some T=>T≠e/\∃oe vs,h.get? e=some oe/\oe.cls= .ref C/\oe.data= .fields vs/\vs[1]? =some (.ref T)/\∃oT ts,h.get? T=some oT/\oT.data= .fields ts/\ts[3]? =some .none
def RzP (X:Cx)(pins:List (Addr×Obj))(P:Ow)(H:Hp)(c:Str)(ev:H0)(s':Ib):Prop:=
 ∃e T C σ' H',ev= .ref e/\X.mg c=some (.ref C)/\Inv X pins σ' H' s'/\SameO P H H'/\H' e=none/\(X.ex= []->X.s₀.heap.get? e=none)/\GO s'.heap C e T/\(∀t,T=some t->H' t=none/\(X.ex= []->X.s₀.heap.get? t=none))/\∀p∈X.pn++pins,p.1≠e/\T≠some p.1
def Nw (K:HX)(H:Hp):Ow:=λa=>H a=none/\K.lookup a=none
theorem gR {K:HX}{P:Ow}{H H1:Hp}(h:SameO P H H1){a:Addr}(n:Nw K H1 a):P a\/Nw K H a:=by
 by_cases hp:P a
 ·exact .inl hp
 ·refine .inr ⟨?_,n.2⟩
  cases q:H a with
  | none=>rfl
  | some o=>have:=h a o q hp;rw[n.1]at this;cases this
theorem SameO.trans {K:HX}{P P1:Ow}{H H1 H2:Hp}(h:SameO P H H1)(h1:SameO P1 H1 H2)(sub:∀a,P1 a->P a\/Nw K H a):SameO P H H2:=λb o e n=>
 h1 b o (h b o e n) λz=>(sub b z).elim n λw=>by rw[w.1]at e;cases e
def XA (X:Cx)(P:Ow)(H:Hp)(c:Str):Prop:=∀pins ev s',RzP X pins P H c ev s'->X.xe ev s'
theorem XA.later {X:Cx}{P P1:Ow}{H H1:Hp}{c:Str}(h:XA X P H c)(s:SameO P H H1)(sub:∀a,P1 a->P a\/Nw X.K H a):XA X P1 H1 c:=λpins ev s' ⟨e,T,C,σ',H',a1,a2,a3,a4,a5⟩=>
 h pins ev s' ⟨e,T,C,σ',H',a1,a2,a3,s.trans a4 sub,a5⟩
abbrev xg:Ow:=λ_=>False
def Post {α:Type}(X:Cx)(H:Hp)(r:Rs α)(k:α->Hp->Prop):Prop:=match r with
 | .ok t=> ∀H',Same H H'->k t H'
 | .err c=>XA X xg H c
 | .bad=>False
theorem Post.mono {α:Type}{X:Cx}{H:Hp}{r:Rs α}{k k':α->Hp->Prop}(h:Post X H r k)(f:∀t H',Same H H'->k t H'->k' t H'):Post X H r k':=by
 cases r with
 | ok t=>exact λH' s=>f t H' s (h H' s)
 | err c=>exact h
 | bad=>exact h
theorem Post.later {α:Type}{X:Cx}{H H1:Hp}{r:Rs α}{k:α->Hp->Prop}(h:Post X H r k)(s:Same H H1):Post X H1 r k:=by
 cases r with
 | ok t=>exact λH' s'=>h H' (s.trans s')
 | err c=>exact XA.later h (SameO.of s) λ_ z=>z.elim
 | bad=>exact h
theorem Post.bind {α β:Type}{X:Cx}{H:Hp}{r:Rs α}{f:α->Rs β}{k:β->Hp->Prop}(h:Post X H (r >>= f) k):Post X H r λt H'=>Post X H' (f t) k:=by
 cases r with
 | ok t=>exact λH' s=>Post.later h s
 | err c=>exact h
 | bad=>exact h
def tP (X:Cx)(f:En->Rs T):TE:=λσ H Q=> ∃Z O,EnvO X.K O H Z σ/\Post X H (f Z) λt H'=> ∀v,Rep X.K O H' t v->Q v H'
def tPA (X:Cx)(f:En->Rs (List T)):TA:=λσ H Q=> ∃Z O,EnvO X.K O H Z σ/\Post X H (f Z) λt H'=> ∀v,Reps X.K O H' t v->Q v H'
def ye (X:Cx)(f:En->Rs Bool):TT:=λσ H Q=> ∃Z O,EnvO X.K O H Z σ/\Post X H (f Z) λb H'=>Q b H'
abbrev cE (X:Cx)(e:Expr)(f:En->Rs T):Prop:=PE X e (tP X f)
abbrev qi (X:Cx)(e:List Expr)(f:En->Rs (List T)):Prop:=PA X e (tPA X f)
abbrev ug (X:Cx)(e:Expr)(f:En->Rs Bool):Prop:=PT X e (ye X f)
theorem PE.imp {X:Cx}{e:Expr}{t t':TE}(h:PE X e t)(w:∀σ H Q,t' σ H Q->t σ H Q):PE X e t':=λpins s σ H Q I q=>h pins s σ H Q I (w σ H Q q)
theorem PA.imp {X:Cx}{e:List Expr}{t t':TA}(h:PA X e t)(w:∀σ H Q,t' σ H Q->t σ H Q):PA X e t':=λpos pins s σ H Q I q=>h pos pins s σ H Q I (w σ H Q q)
theorem PT.imp {X:Cx}{e:Expr}{t t':TT}(h:PT X e t)(w:∀σ H Q,t' σ H Q->t σ H Q):PT X e t':=λpins s σ H Q I q=>h pins s σ H Q I (w σ H Q q)
theorem PS.imp {X:Cx}{e:Stmt}{t t':TS}(h:PS X e t)(w:∀D σ H,t' D σ H->t D σ H):PS X e t':=λpins s σ H D I q=>h pins s σ H D I (w D σ H q)
theorem PSs.imp {X:Cx}{e:List Stmt}{t t':TS}(h:PSs X e t)(w:∀D σ H,t' D σ H->t D σ H):PSs X e t':=λpins s σ H D I q=>h pins s σ H D I (w D σ H q)
section
variable {X:Cx}
theorem a6 {σ:L2.St}{H:Hp}{Z:En}{O:Ow}{α:Type}{f:En->Rs T}{k:T->Rs α}{Q:α->Hp->Prop}(E:EnvO X.K O H Z σ)(h:Post X H (f Z >>= k) Q) :
  tP X f σ H λv H'=> ∃t,Rep X.K O H' t v/\Same H H'/\EnvO X.K O H' Z σ/\Post X H' (k t) Q:=
 ⟨Z,O,E,Post.mono h.bind λt H' s q v r=>⟨t,r,s,E.same s,q⟩⟩
theorem et {σ:L2.St}{H:Hp}{Z:En}{O:Ow}{α:Type}{f:En->Rs (List T)}{k:List T->Rs α}{Q:α->Hp->Prop}(E:EnvO X.K O H Z σ)(h:Post X H (f Z >>= k) Q) :
  tPA X f σ H λv H'=> ∃t,Reps X.K O H' t v/\Same H H'/\EnvO X.K O H' Z σ/\Post X H' (k t) Q:=
 ⟨Z,O,E,Post.mono h.bind λt H' s q v r=>⟨t,r,s,E.same s,q⟩⟩
theorem kB {σ:L2.St}{H:Hp}{Z:En}{O:Ow}{α:Type}{f:En->Rs Bool}{k:Bool->Rs α}{Q:α->Hp->Prop}(E:EnvO X.K O H Z σ)(h:Post X H (f Z >>= k) Q) :
  ye X f σ H λb H'=>Same H H'/\EnvO X.K O H' Z σ/\Post X H' (k b) Q:=
 ⟨Z,O,E,Post.mono h.bind λt H' s q=>⟨s,E.same s,q⟩⟩
noncomputable def vr (i:Nat)(Z:En):Rs T:=match Z[i]? with
 | some (.va t)=> .ok t
 | _=> .bad
def cn (t:T)(_:En):Rs T:=.ok t
theorem Fi (i:Nat){x:Str}{pos:Pos}(hN:X.N[i]? =some x:=by rfl)(hv:Ae X.env.scope x:=by first | exact KB rfl | exact J9 (KB rfl) | exact J9 (J9 rfl))(hd:iV x:=by decide)
  (hcd:(x == ("__classdict__" : Str))=false:=by decide):cE X (.Name x pos) (vr i):=PE.imp (qI hN hv hd hcd) λσ H Q hh_=>by
 obtain⟨Z,O,E,h⟩:=hh_;unfold vr at h
 split at h
 ·rename_i t e
  obtain⟨v,e1,e2⟩:=E.val i t e;exact⟨v,e1,h H (Same.refl H) v e2⟩
 ·exact h.elim
theorem Fv {i j pos}:cE X (.Constant (.int i) j pos) (cn (.int i)):=PE.imp yK λσ H Q ⟨Z,O,E,h⟩=>h H (Same.refl H) _ (Rep.GS i)
theorem q_bl {i j pos}:cE X (.Constant (.bool i) j pos) (cn (.bl i)):=PE.imp FG λσ H Q ⟨Z,O,E,h⟩=>h H (Same.refl H) _ (Rep.bl_ i)
theorem Fq {j pos}:cE X (.Constant .none j pos) (cn .non):=PE.imp DD λσ H Q ⟨Z,O,E,h⟩=>h H (Same.refl H) _ Rep.HG
theorem Dm {x:Str}{i:Int}{u:H0}{pos:Pos}(hm:X.mg x=some u)(r:RelV (.int i) u)(hg:Gl X x:=by rfl)(hd:iV x:=by decide):cE X (.Name x pos) (cn (.int i)):=
 PE.imp (Bq hg hm r hd) λσ H Q ⟨Z,O,E,h⟩=>h H (Same.refl H) _ (Rep.GS i)
def ai (_:En):Rs (List T):=.ok []
def ae (f:En->Rs T)(g:En->Rs (List T))(Z:En):Rs (List T):=do
 let t <-f Z
 let r <-g Z
 .ok (t::r)
theorem Dl:qi X [] ai:=PA.imp m6 λσ H Q ⟨Z,O,E,h⟩=>h H (Same.refl H) _ Reps.GP
theorem A1 {e:Expr}{es:List Expr}{f:En->Rs T}{g:En->Rs (List T)}(he:cE X e f)(hr:qi X es g)(hs:IA (e::es) X.env=(false,eval e X.env)::IA es X.env:=by rfl):qi X (e::es) (ae f g):=by
 intro pos pins s σ H Q I h;obtain⟨Z,O,E,h⟩:=h;refine jm he hr hs pos pins s σ H Q I ?_
 obtain⟨Z1,O1,E1,h1⟩:=a6 E h;refine⟨Z1,O1,E1,Post.mono h1 λt H' s q v r=> ?_⟩
 obtain⟨t',r',s',E',q'⟩:=q v r;refine⟨Z,O,E',Post.mono q'.bind λts H2 s2 q2 vs rs=> ?_⟩
 exact q2 H2 (Same.refl H2) _ (Reps.FS (r'.same s2) rs)
end
section
variable {X:Cx}
def jR (l:List T):Rs T:=if l.length<=sizeLine then .ok (.tup l)else .bad
def jS (l:List T):Rs T:=if l.length<=sizeLine then .ok (.lst l)else .bad
def aO (f:En->Rs (List T))(Z:En):Rs T:=f Z >>= jR
def ff (f:En->Rs (List T))(Z:En):Rs T:=f Z >>= jS
theorem bc {H:Hp}{p:Addr}(h:H p=none)(o:HO):Same H (upd H p o):=λb u q=>by rw[aY (cf q h)];exact q
theorem fW {K:HX}{O:Ow}{H:Hp}{p:Addr}{l:List T}{vs:List V}(h:H p=none)(n:¬ O p)(r:Reps K O H l vs):Rep K O (upd H p (.tup vs)) (.tup l) (.ref p):=
 Rep.Fk.mpr ⟨p,vs,rfl,n,bx,r.same (bc h _)⟩
theorem gG {K:HX}{O:Ow}{H:Hp}{p:Addr}{l:List T}{vs:List V}(h:H p=none)(n:¬ O p)(r:Reps K O H l vs):Rep K O (upd H p (.lst vs)) (.lst l) (.ref p):=
 Rep.Do.mpr ⟨p,vs,rfl,n,bx,r.same (bc h _)⟩
theorem Fj {es:List Expr}{x1:Nat}{pos:Pos}{f:En->Rs (List T)}(h:qi X es f):cE X (.Tuple es x1 pos) (aO f):=by
 intro pins s σ H Q I ⟨Z,O,E,hq⟩;refine DA h pins s σ H Q I ?_
 obtain⟨Z1,O1,E1,h1⟩:=et E hq;refine⟨Z1,O1,E1,Post.mono h1 λts H1 s1 q vs r=> ?_⟩
 obtain⟨t',r',s',E',q'⟩:=q vs r;unfold jR at q'
 split at q'
 ·rename_i hz
  refine⟨by rw[<-r'.length];exact hz,λp hp=> ?_⟩
  exact q' _ (bc hp _) _ (fW hp (E'.fresh hp) r')
 ·exact q'.elim
theorem Ft {es:List Expr}{pos:Pos}{f:En->Rs (List T)}(h:qi X es f):cE X (.List es pos) (ff f):=by
 intro pins s σ H Q I ⟨Z,O,E,hq⟩;refine DE h pins s σ H Q I ?_
 obtain⟨Z1,O1,E1,h1⟩:=et E hq;refine⟨Z1,O1,E1,Post.mono h1 λts H1 s1 q vs r=> ?_⟩
 obtain⟨t',r',s',E',q'⟩:=q vs r;unfold jS at q'
 split at q'
 ·rename_i hz
  refine⟨by rw[<-r'.length];exact hz,λp hp=> ?_⟩
  exact q' _ (bc hp _) _ (gG hp (E'.fresh hp) r')
 ·exact q'.elim
def OpT (X:Cx)(f:H0->H0->Sem H0)(g:T->T->Rs T):Prop:=
 ∀(pins:List (Addr×Obj)) (s:Ib) (σ:L2.St) (H:Hp) (O:Ow) (x y:T) (vx vy:V) (ux uy:H0) (Q:VK),Inv X pins σ H s->(∀p,H p=none->¬ O p)->Rep X.K O H x vx->Rep X.K O H y vy->RelV vx ux->RelV vy uy →
  Post X H (g x y) (λt H'=> ∀v,Rep X.K O H' t v->Q v H')->wpAny (model X.prog X.w) X.A (f ux uy) (EP X pins σ Q) X.xe s
def o2 (g:T->T->Rs T)(fa fb:En->Rs T)(Z:En):Rs T:=do
 let x <-fa Z
 let y <-fb Z
 g x y
variable {a b c:Expr}{fa fb fc:En->Rs T}{pos:Pos}
theorem Fy {op:Operator}{g:T->T->Rs T}(ho:OpT X (JZ op) g)(ha:cE X a fa)(hb:cE X b fb):cE X (.BinOp a op b pos) (o2 g fa fb):=by
 intro pins s σ H Q I ⟨Z,O,E,hq⟩
 have h1:=a6 E hq;refine wpAny_BinOp (cp (ha pins s σ H _ I h1) λv s1 hh_=> ?_)
 obtain⟨x,H1,I1,r1,t,rt,s',E',q1⟩:=hh_
 have h2:=a6 (f:=fb) E' q1;refine cp (hb pins s1 σ H1 _ I1 h2) λu s2 hh_=> ?_
 obtain⟨y,H2,I2,r2,t2,rt2,s'',E'',q2⟩:=hh_;exact ho pins s2 σ H2 O t t2 x y v u Q I2 (λp=>E''.fresh) (rt.same s'') rt2 r1 r2 q2
theorem Fx {op:Ph}{g:T->T->Rs T}(ho:OpT X (Jd op) g)(ha:cE X a fa)(hb:cE X b fb)(hm:MM op b=false:=by rfl):cE X (.Compare a [op] [b] pos) (o2 g fa fb):=by
 intro pins s σ H Q I ⟨Z,O,E,hq⟩
 have h1:=a6 E hq;refine wpAny_Compare1 (cp (ha pins s σ H _ I h1) λv s1 ⟨x,H1,I1,r1,t,rt,s',E',q1⟩=> ?_) hm
 have h2:=a6 (f:=fb) E' q1;refine cp (hb pins s1 σ H1 _ I1 h2) λu s2 hh_=> ?_
 obtain⟨y,H2,I2,r2,t2,rt2,s'',E'',q2⟩:=hh_;exact ho pins s2 σ H2 O t t2 x y v u Q I2 (λp=>E''.fresh) (rt.same s'') rt2 r1 r2 q2
theorem OpT.of {f:H0->H0->Sem H0}{r:R2}(h:qj X f r){g:T->T->Rs T}
  (w:∀(H:Hp) (O:Ow) (x y:T) (vx vy:V) (Q:VK),(∀p,H p=none->¬ O p)->Rep X.K O H x vx->Rep X.K O H y vy->Post X H (g x y) (λt H'=> ∀v,Rep X.K O H' t v->Q v H')->r vx vy H Q):OpT X f g:=
 λpins s σ H O x y vx vy ux uy Q I hf rx ry r1 r2 hp=>h pins s σ H vx vy ux uy Q I r1 r2 (w H O x y vx vy Q hf rx ry hp)
def iu:T->T->Rs T
 | .int i,.int j=> .ok (.int (i - j))
 | _,_=> .bad
theorem iI:OpT X (JZ .Sub) iu:=OpT.of DH λH O x y vx vy Q hf rx ry hp=>by
 unfold iu at hp
 split at hp
 ·exact⟨_,_,Rep.AC.mp rx,Rep.AC.mp ry,hp H (Same.refl H) _ (Rep.GS _)⟩
 ·exact hp.elim
def kU:T->T->Rs T
 | .int i,.int j=>if 0<j/\j<1073741824 then .ok (.int (i / j))else .bad
 | _,_=> .bad
def kO:T->T->Rs T
 | .int i,.int j=>if 0<j then .ok (.int (i % j))else .bad
 | _,_=> .bad
theorem mw:OpT X (JZ .FloorDiv) kU:=OpT.of Bv λH O x y vx vy Q hf rx ry hp=>by
 unfold kU at hp
 split at hp
 ·split at hp
  ·rename_i h
   exact⟨_,_,Rep.AC.mp rx,Rep.AC.mp ry,h,hp H (Same.refl H) _ (Rep.GS _)⟩
  ·exact hp.elim
 ·exact hp.elim
theorem j0:OpT X (JZ .Mod) kO:=OpT.of DK λH O x y vx vy Q hf rx ry hp=>by
 unfold kO at hp
 split at hp
 ·split at hp
  ·rename_i h
   exact⟨_,_,Rep.AC.mp rx,Rep.AC.mp ry,h,hp H (Same.refl H) _ (Rep.GS _)⟩
  ·exact hp.elim
 ·exact hp.elim
theorem yT:qj X (JZ .Add) (λx y H Q=> ∃a b ys,x= .ref a/\y= .ref b/\SqT X.K H a []/\SqT X.K H b ys/\Q (.ref b) H):=by
 intro pins s σ H x y v u Q I rx ry h;obtain⟨a,b,ys,rfl,rfl,ha,hb,q⟩:=h;cases rx;cases ry;obtain⟨its,r1,p1,_⟩:=I.tuple ha;obtain⟨its2,r2,p2,_⟩:=I.tuple hb;obtain⟨⟨cls,dd,data,sl⟩,ho,hc,n,hd⟩:=id p1;obtain⟨⟨cls2,dd2,data2,sl2⟩,ho2,hc2,n2,hd2⟩:=id p2;simp only at hc hd hc2 hd2;subst hc hd hc2 hd2
 have e:its= []:=by cases r1;rfl
 subst e;exact HT_concat0 ho ho2 ⟨.ref b,H,I,rfl,q⟩
where
 HT_concat0 {prog:IJ} {w:JA} {A:Jl} {E:H0->Ib->Prop} {s:Ib} {t b:Addr} {ws:Array H0} {n n2:Nat} {dd dd2:Option Addr} {sl sl2:Array (Option H0)} {Q:H0->Ib->Prop}
   (ho:s.heap.get? t=some { cls:=.type "tuple",dict:=dd,data:=.seq (([]:List H0).toArray) n,slots:=sl }) (ho2:s.heap.get? b=some { cls:=.type "tuple",dict:=dd2,data:=.seq ws n2,slots:=sl2 }) (h:Q (.ref b) s) :
   wpAny (model prog w) A (JZ .Add (.ref t) (.ref b)) Q E s:=
  Oz ⟨_,ho,rfl⟩ ⟨_,ho2,rfl⟩ MQ N8 Lp Lc (K7 _ _)
   (tuple_addW0 t b _ _ n n2 dd dd2 sl sl2 (by simp)) ⟨ho,ho2,h⟩
def aX:T->T->Rs T
 | .int i,.int j=> .ok (.int (i+j))
 | .str i,.str j=>if i.length+j.length<=sizeLine then .ok (.str (i++j))else .bad
 | .tup l,.tup m=>jR (l++m)
 | .lst l,.lst m=>jS (l++m)
 | _,_=> .bad
theorem aS:OpT X (JZ .Add) aX:=by
 intro pins s σ H O x y vx vy ux uy Q I hf rx ry r1 r2 hp;unfold aX at hp
 split at hp
 ·exact DN pins s σ H vx vy ux uy Q I r1 r2 ⟨_,_,Rep.AC.mp rx,Rep.AC.mp ry,hp H (Same.refl H) _ (Rep.GS _)⟩
 ·split at hp
  ·rename_i h
   exact uI pins s σ H vx vy ux uy Q I r1 r2 ⟨_,_,Rep.GR.mp rx,Rep.GR.mp ry,h,hp H (Same.refl H) _ (Rep.HV _)⟩
  ·exact hp.elim
 ·rename_i l m
  unfold jR at hp
  split at hp
  ·rename_i h
   obtain⟨a,vs,e1,n1,q1,z1⟩:=Rep.Fk.mp rx;obtain⟨b,ws,e2,n2,q2,z2⟩:=Rep.Fk.mp ry
   have hl1:=z1.length
   have hl2:=z2.length;rw[Ih]at h
   cases vs with
   | nil=>
    have e:l= []:=by cases l with
     | nil=>rfl
     | cons _ _=>simp at hl1
    subst e
    exact yT pins s σ H vx vy ux uy Q I r1 r2 ⟨a,b,ws,e1,e2,SqT.of q1,SqT.of q2,hp H (Same.refl H) _ (Rep.Fk.mpr ⟨b,ws,rfl,n2,q2,z2⟩)⟩
   | cons v0 vr=>
    refine Bw pins s σ H vx vy ux uy Q I r1 r2 ⟨a,b,v0::vr,ws,e1,e2,SqT.of q1,SqT.of q2,by simp,by omega,λhw=> ?_,λ_ p hpn=> ?_⟩
    ·subst hw
     have e:m= []:=by cases m with
      | nil=>rfl
      | cons _ _=>simp at hl2
     subst e;rw[JE]at hp;exact hp H (Same.refl H) _ (Rep.Fk.mpr ⟨a,_,rfl,n1,q1,z1⟩)
    ·exact hp _ (bc hpn _) _ (fW hpn (hf p hpn) (z1.append z2))
  ·exact hp.elim
 ·rename_i l m
  unfold jS at hp
  split at hp
  ·rename_i h
   obtain⟨a,vs,e1,n1,q1,z1⟩:=Rep.Do.mp rx;obtain⟨b,ws,e2,n2,q2,z2⟩:=Rep.Do.mp ry
   have hl1:=z1.length
   have hl2:=z2.length;rw[Ih]at h;exact DM pins s σ H vx vy ux uy Q I r1 r2 ⟨a,b,vs,ws,e1,e2,q1,q2,by omega,λp hpn=>hp _ (bc hpn _) _ (gG hpn (hf p hpn) (z1.append z2))⟩
  ·exact hp.elim
 ·exact hp.elim
def uT:T->T->Rs T
 | .int i,.int j=>if (-(2 ^ 64)<i/\i<2 ^ 64)\/(-(2 ^ 64)<j/\j<2 ^ 64)then .ok (.int (i*j))else .bad
 | .lst l,.int k=>if -(2 ^ 63)<=k/\k<2 ^ 63/\l.length*k.toNat<=sizeLine then .ok (.lst (IE k.toNat l).flatten)else .bad
 | _,_=> .bad
theorem Reps.rep {K:HX}{O:Ow}{H:Hp}{l:List T}{vs:List V}(h:Reps K O H l vs):∀k:Nat,Reps K O H (IE k l).flatten (IE k vs).flatten
 | 0=>Reps.GP
 | k+1=>by rw[JP,JP,Kl,Kl];exact h.append (h.rep k)
theorem DG:OpT X (JZ .Mult) uT:=by
 intro pins s σ H O x y vx vy ux uy Q I hf rx ry r1 r2 hp;unfold uT at hp
 split at hp
 ·split at hp
  ·rename_i h
   exact DJ pins s σ H vx vy ux uy Q I r1 r2 ⟨_,_,Rep.AC.mp rx,Rep.AC.mp ry,h,hp H (Same.refl H) _ (Rep.GS _)⟩
  ·exact hp.elim
 ·split at hp
  ·rename_i l k h
   obtain⟨a,vs,e1,n1,q1,z1⟩:=Rep.Do.mp rx
   have hl1:=z1.length;exact DI pins s σ H vx vy ux uy Q I r1 r2 ⟨a,k,vs,e1,Rep.AC.mp ry,q1,h.1,h.2.1,by rw[<-hl1];exact h.2.2,λp hpn=>hp _ (bc hpn _) _ (gG hpn (hf p hpn) (z1.rep _))⟩
  ·exact hp.elim
 ·exact hp.elim
def lx:T->Rs T
 | .int i=> .ok (.int (-i))
 | _=> .bad
def o1 (g:T->Rs T)(fa:En->Rs T)(Z:En):Rs T:=fa Z >>= g
theorem Fs (ha:cE X a fa):cE X (.UnaryOp .USub a pos) (o1 lx fa):=by
 intro pins s σ H Q I ⟨Z,O,E,hq⟩;refine Cn yc ha pins s σ H Q I ?_
 obtain⟨Z1,O1,E1,h1⟩:=a6 E hq;refine⟨Z1,O1,E1,Post.mono h1 λts H1 s1 q vs r=> ?_⟩
 obtain⟨t',r',s',E',q'⟩:=q vs r;unfold lx at q'
 split at q'
 ·exact⟨_,Rep.AC.mp r',q' H1 (Same.refl H1) _ (Rep.GS _)⟩
 ·exact q'.elim
def ue (p:Int->Int->Bool):T->T->Rs T
 | .int i,.int j=> .ok (.bl (p i j))
 | _,_=> .bad
theorem qM {op:Ph}{p:Int->Int->Bool}(h:qj X (Jd op) (Cm λi j=> .bl (p i j))):OpT X (Jd op) (ue p):=OpT.of h λH O x y vx vy Q hf rx ry hp=>by
 unfold ue at hp
 split at hp
 ·exact⟨_,_,Rep.AC.mp rx,Rep.AC.mp ry,hp H (Same.refl H) _ (Rep.bl_ _)⟩
 ·exact hp.elim
abbrev Cr:=ue λi j=>decide (i<j)
abbrev xX:=ue λi j=>decide (i<=j)
abbrev gtT:=ue λi j=>decide (j<i)
theorem vF:OpT X (Jd .Lt) Cr:=qM FJ
theorem m7:OpT X (Jd .LtE) xX:=qM FK
theorem FI:OpT X (Jd .Gt) gtT:=qM FL
def T.isN:T->Bool
 | .non=>true
 | _=>false
theorem Rep.isN {K:HX}{O:Ow}{H:Hp}{t:T}{v:V}(r:Rep K O H t v):decide (v= .non)=t.isN:=by
 cases t with
 | non=>rw[Rep.GV.mp r];rfl
 | bl _=>rw[Rep.FB.mp r];rfl
 | int _=>rw[Rep.AC.mp r];rfl
 | str _=>rw[Rep.GR.mp r];rfl
 | tup _=>obtain⟨a,vs,e,_⟩:=Rep.Fk.mp r;rw[e];rfl
 | lst _=>obtain⟨a,vs,e,_⟩:=Rep.Do.mp r;rw[e];rfl
 | scr _=>unfold Rep at r;obtain⟨a,e,_⟩:=r;rw[e];rfl
 | dct _ _=>obtain⟨a,_,e,_⟩:=Rep.GQ.mp r;rw[e];rfl
def lA:T->T->Rs T
 | x,.non=> .ok (.bl x.isN)
 | _,_=> .bad
def jO:T->T->Rs T
 | x,.non=> .ok (.bl (!x.isN))
 | _,_=> .bad
theorem sT:OpT X (Jd .Is) lA:=OpT.of DL λH O x y vx vy Q hf rx ry hp=>by
 unfold lA at hp
 split at hp
 ·exact⟨Rep.GV.mp ry,hp H (Same.refl H) _ (by rw[rx.isN];exact Rep.bl_ _)⟩
 ·exact hp.elim
theorem kK:OpT X (Jd .IsNot) jO:=OpT.of Bu λH O x y vx vy Q hf rx ry hp=>by
 unfold jO at hp
 split at hp
 ·exact⟨Rep.GV.mp ry,hp H (Same.refl H) _ (by rw[rx.isN];exact Rep.bl_ _)⟩
 ·exact hp.elim
end
end Tr
namespace Tr
open PySem PySem.Spec PyProof.Rows L2
open PySem.SeqAt
mutual
def ReV (s:Ib):T->H0->Prop
 | .non,u=>u= .none
 | .bl b,u=>u= .bool b
 | .int i,u=> ∃t,u= .int i t
 | .str x,u=> ∃t,u= .str x t
 | .tup l,u=> ∃a its,u= .ref a/\s.heap.IsTuple a (Ox its)/\ReVs s l its
 | .lst l,u=> ∃a its,u= .ref a/\s.heap.IsList a (Ox its)/\ReVs s l its
 | .scr l,u=> ∃a its,u= .ref a/\s.heap.IsList a (Ox its)/\L3 its l
 | .dct _ _,_=>False
def ReVs (s:Ib):List T->List H0->Prop
 | [],us=>us= []
 | t::r,us=> ∃u ws,us=u::ws/\ReV s t u/\ReVs s r ws
end
theorem ReVs.Da {s:Ib}{us:List H0}:ReVs s [] us↔us= []:=by unfold ReVs;exact Mo
theorem ReVs.me {s:Ib}{t:T}{l:List T}{us:List H0}:ReVs s (t::l) us↔ ∃u ws,us=u::ws/\ReV s t u/\ReVs s l ws:=by
 constructor
 ·intro h;unfold ReVs at h;exact h
 ·intro h;unfold ReVs;exact h
theorem ReVs.length {s:Ib}:∀{l:List T} {us:List H0},ReVs s l us->l.length=us.length
 | [],us,r=>by rw[ReVs.Da.mp r];rfl
 | t::l,us,r=>by
  obtain⟨v,ws,rfl,_,q⟩:=ReVs.me.mp r;simp[q.length]
theorem ReVs.get {s:Ib}:∀{l:List T} {us:List H0} {i:Nat} {t:T},ReVs s l us->l[i]? =some t->∃v,us[i]? =some v/\ReV s t v
 | [],_,_,_,_,e=>by simp at e
 | t::l,vs,i,u,r,e=>by
  obtain⟨v,ws,rfl,p,q⟩:=ReVs.me.mp r
  cases i with
  | zero=>simp at e;subst e;exact⟨v,rfl,p⟩
  | succ i=>
   obtain⟨z,e1,e2⟩:=q.get (i:=i) (t:=u) (by simpa using e)
   exact⟨z,by simpa using e1,e2⟩
mutual
def T.nd:T->Bool
 | .dct _ _=>false
 | .tup l=>nds l
 | .lst l=>nds l
 | _=>true
def nds:List T->Bool
 | [] =>true
 | t::l=>t.nd&&nds l
end
theorem tH {t:T}{l:List T}(h:nds (t::l)=true):t.nd=true/\nds l=true:=by unfold nds at h;exact J0.mp h
section
variable {X:Cx}{pins:List (Addr×Obj)}{σ:L2.St}{H:Hp}{s:Ib}{O:Ow}
mutual
theorem Rep.val (I:Inv X pins σ H s):∀{t:T} {v:V} {u:H0},t.nd=true->Rep X.K O H t v->RelV v u->ReV s t u
 | .non,v,u,hn,r,q=>by cases Rep.GV.mp r;unfold ReV;exact q
 | .bl b,v,u,hn,r,q=>by cases Rep.FB.mp r;unfold ReV;exact q
 | .int b,v,u,hn,r,q=>by cases Rep.AC.mp r;unfold ReV;exact q
 | .str b,v,u,hn,r,q=>by cases Rep.GR.mp r;unfold ReV;exact q
 | .tup l,v,u,hn,r,q=>by
  obtain⟨a,vs,rfl,_,z,w⟩:=Rep.Fk.mp r;cases q;obtain⟨its,rv,p,_⟩:=I.tuple (SqT.of z);unfold ReV
  exact⟨a,its,rfl,p,Reps.val I (by unfold T.nd at hn;exact hn) w rv⟩
 | .lst l,v,u,hn,r,q=>by
  obtain⟨a,vs,rfl,_,z,w⟩:=Rep.Do.mp r;cases q;obtain⟨its,rv,p,_⟩:=I.list (SqL.of z);unfold ReV
  exact⟨a,its,rfl,p.isList,Reps.val I (by unfold T.nd at hn;exact hn) w rv⟩
 | .scr l,v,u,hn,r,q=>by
  unfold Rep at r;obtain⟨a,rfl,_,z⟩:=r;cases q;obtain⟨its,rv,p,_⟩:=I.list z;unfold ReV
  exact⟨a,its,rfl,p.isList,uZ rv⟩
 | .dct _ _,v,u,hn,r,q=>by cases hn
theorem Reps.val (I:Inv X pins σ H s):∀{l:List T} {vs:List V} {us:List H0},nds l=true->Reps X.K O H l vs->Vals vs us->ReVs s l us
 | [],vs,us,hn,r,q=>by
  cases Reps.Da.mp r;cases q
  exact ReVs.Da.mpr rfl
 | t::l,vs,us,hn,r,q=>by
  obtain⟨v,ws,rfl,p,z⟩:=Reps.me.mp r
  cases q with
  | cons q1 q2=>exact ReVs.me.mpr ⟨_,_,rfl,Rep.val I (tH hn).1 p q1,Reps.val I (tH hn).2 z q2⟩
end
end
mutual
def T.dep:T->Nat
 | .tup l=>deps l+1
 | .lst l=>deps l+1
 | .scr _=>1
 | _=>0
def deps:List T->Nat
 | [] =>0
 | t::l=>max t.dep (deps l)
end
def B4 (i:Int):T->Bool
 | .int j=>i == j
 | .bl b=>i == (if b then 1 else 0)
 | _=>false
def jU:List Int->List T->Bool
 | [],[] =>true
 | i::r,t::l=>B4 i t&&jU r l
 | _,_=>false
mutual
def aT:T->T->Bool
 | .non,.non=>true
 | .bl a,.bl b=>a == b
 | .bl a,.int b=>(if a then 1 else 0) == b
 | .int a,.bl b=>a == (if b then 1 else 0)
 | .int a,.int b=>a == b
 | .str a,.str b=>a == b
 | .tup l,.tup m=>beqTs l m
 | .lst l,.lst m=>beqTs l m
 | .lst l,.scr m=>beqTs l (m.map .int)
 | .scr l,.lst m=>jU l m
 | .scr l,.scr m=>l == m
 | _,_=>false
def beqTs:List T->List T->Bool
 | [],[] =>true
 | t::l,u::m=>aT t u&&beqTs l m
 | _,_=>false
end
theorem oC (n:Nat)(e:Nat->Bool):(Iw (n+1)).all e=(e 0&&(Iw n).all λj=>e (j+1)):=by
 rw[KA,NV,List.all_map];rfl
theorem lI:∀(l m:List T) (e:Nat->Bool),(∀(j:Nat) t u,l[j]? =some t->m[j]? =some u->e j=aT t u) →
  beqTs l m=((Iw (min l.length m.length)).all e&&l.length == m.length)
 | [],[],_,_=>by simp[beqTs]
 | [],_::_,_,_=>by simp[beqTs]
 | _::_,[],_,_=>by simp[beqTs]
 | t::l,u::m,e,h=>by
  have ih:=lI l m (λj=>e (j+1)) λj t' u' h1 h2=>h (j+1) t' u' (by simpa using h1) (by simpa using h2)
  rw[beqTs,ih]
  have h0:=h 0 t u rfl rfl;simp only[Io];rw[Nat.succ_min_succ,oC,h0,Bool.and_assoc]
  congr 2
  simp
theorem qh:∀{l m:List T},l.length≠m.length->beqTs l m=false
 | [],[],h=>absurd rfl h
 | [],_::_,_=>by simp[beqTs]
 | _::_,[],_=>by simp[beqTs]
 | t::l,u::m,h=>by
  rw[beqTs,qh (l:=l) (m:=m) (by intro z;exact h (by simp[z]))]
  simp
theorem i7:∀{l:List T} {i:Nat} {t:T},l[i]? =some t->t.dep<=deps l
 | [],_,_,e=>by simp at e
 | t::l,0,u,e=>by simp at e;subst e;unfold deps;exact Nat.le_max_left _ _
 | t::l,i+1,u,e=>by
  have:=i7 (l:=l) (i:=i) (t:=u) (by simpa using e)
  unfold deps;exact IQ this (Nat.le_max_right _ _)
theorem iY {s:Ib}{a:Addr}{x y:List H0}(h:s.heap.IsTuple a x.toArray)(h':s.heap.IsTuple a y.toArray):x=y:=by
 obtain⟨o,e,_,n,d⟩:=h;obtain⟨o',e',_,n',d'⟩:=h';rw[e]at e';cases e';rw[d]at d';injection d' with d1 _
 simpa using congrArg Me d1
theorem cX {s:Ib}{a:Addr}{x y:List H0}(h:s.heap.IsList a x.toArray)(h':s.heap.IsList a y.toArray):x=y:=by
 obtain⟨o,e,_,n,d⟩:=h;obtain⟨o',e',_,n',d'⟩:=h';rw[e]at e';cases e';rw[d]at d';injection d' with d1 _
 simpa using congrArg Me d1
theorem xP {s:Ib}{i:Int}{t:T}{k:Tok}(r:ReV s t (.int i k)):B4 i t=true:=by
 cases t with
 | non=>unfold ReV at r;cases r
 | bl b=>unfold ReV at r;cases r
 | int j=>unfold ReV at r;obtain⟨t,e⟩:=r;injection e with e1 _;subst e1;simp[B4]
 | str x=>unfold ReV at r;obtain⟨t,e⟩:=r;cases e
 | tup l=>unfold ReV at r;obtain⟨a,its,e,_⟩:=r;cases e
 | lst l=>unfold ReV at r;obtain⟨a,its,e,_⟩:=r;cases e
 | scr l=>unfold ReV at r;obtain⟨a,its,e,_⟩:=r;cases e
 | dct _ _=>unfold ReV at r;exact r.elim
theorem oB {s:Ib}:∀{ns:List Int} {us:List H0} {l:List T},L3 us ns->ReVs s l us->jU ns l=true
 | [],us,l,h,r=>by
  cases h
  cases l with
  | nil=>rfl
  | cons t l=>obtain⟨_,_,e,_⟩:=ReVs.me.mp r;cases e
 | n::ns,us,l,h,r=>by
  cases h with
  | cons a b hh=>
   cases l with
   | nil=>have:=ReVs.Da.mp r;cases this
   | cons t l=>
    obtain⟨u,ws,e,p,q⟩:=ReVs.me.mp r;injection e with e1 e2
    subst e1 e2;rw[jU,xP p,oB hh q];rfl
theorem dX {s:Ib}:∀{us:List H0} {ns:List Int},L3 us ns->ReVs s (ns.map T.int) us
 | _,_,.nil=>ReVs.Da.mpr rfl
 | _,_,.cons n t h=>ReVs.me.mpr ⟨_,_,rfl,by unfold ReV;exact⟨_,rfl⟩,dX h⟩
theorem iZ:∀{us:List H0} {ns ms:List Int},L3 us ns->L3 us ms->ns=ms
 | _,_,_,.nil,.nil=>rfl
 | _,_,_,.cons n t h,.cons _ _ h'=>by rw[iZ h h']
mutual
theorem ReV.refl {s:Ib}:∀{t u:T} {v:H0},ReV s t v->ReV s u v->aT t u=true
 | .non,u,v,r,q=>by
  unfold ReV at r;subst r
  cases u <;> (unfold ReV at q) <;> first | rfl | (cases q;done) | (obtain⟨_,e⟩:=q;cases e;done) | (obtain⟨_,_,e,_⟩:=q;cases e;done)
 | .bl b,u,v,r,q=>by
  unfold ReV at r;subst r
  cases u <;> (unfold ReV at q) <;> first | (cases q;done) | (cases q;simp[aT];done) | (obtain⟨_,e⟩:=q;cases e;done) | (obtain⟨_,_,e,_⟩:=q;cases e;done)
 | .int b,u,v,r,q=>by
  unfold ReV at r;obtain⟨k,rfl⟩:=r
  cases u <;> (unfold ReV at q) <;> first | (cases q;done) | (obtain⟨_,e⟩:=q;cases e;simp[aT];done) | (obtain⟨_,e⟩:=q;cases e;done) | (obtain⟨_,_,e,_⟩:=q;cases e;done)
 | .str b,u,v,r,q=>by
  unfold ReV at r;obtain⟨k,rfl⟩:=r
  cases u <;> (unfold ReV at q) <;> first | (cases q;done) | (obtain⟨_,e⟩:=q;cases e;simp[aT];done) | (obtain⟨_,e⟩:=q;cases e;done) | (obtain⟨_,_,e,_⟩:=q;cases e;done)
 | .tup l,u,v,r,q=>by
  unfold ReV at r;obtain⟨a,its,rfl,h1,h2⟩:=r
  cases u with
  | non=>unfold ReV at q;cases q
  | dct _ _=>unfold ReV at q;exact q.elim
  | bl _=>unfold ReV at q;cases q
  | int _=>unfold ReV at q;obtain⟨_,e⟩:=q;cases e
  | str _=>unfold ReV at q;obtain⟨_,e⟩:=q;cases e
  | tup m=>
   unfold ReV at q;obtain⟨a',its',e,h1',h2'⟩:=q;injection e with e;subst e
   have:=iY h1 h1';subst this;unfold aT
   exact ReVs.refl h2 h2'
  | lst m=>unfold ReV at q;obtain⟨a',its',e,h1',h2'⟩:=q;injection e with e;subst e;exact absurd rfl (ne_of_list_tuple h1' h1)
  | scr m=>unfold ReV at q;obtain⟨a',its',e,h1',h2'⟩:=q;injection e with e;subst e;exact absurd rfl (ne_of_list_tuple h1' h1)
 | .lst l,u,v,r,q=>by
  unfold ReV at r;obtain⟨a,its,rfl,h1,h2⟩:=r
  cases u with
  | non=>unfold ReV at q;cases q
  | dct _ _=>unfold ReV at q;exact q.elim
  | bl _=>unfold ReV at q;cases q
  | int _=>unfold ReV at q;obtain⟨_,e⟩:=q;cases e
  | str _=>unfold ReV at q;obtain⟨_,e⟩:=q;cases e
  | lst m=>
   unfold ReV at q;obtain⟨a',its',e,h1',h2'⟩:=q;injection e with e;subst e
   have:=cX h1 h1';subst this;unfold aT
   exact ReVs.refl h2 h2'
  | tup m=>unfold ReV at q;obtain⟨a',its',e,h1',h2'⟩:=q;injection e with e;subst e;exact absurd rfl (ne_of_list_tuple h1 h1')
  | scr m=>
   unfold ReV at q;obtain⟨a',its',e,h1',h2'⟩:=q;injection e with e;subst e
   have:=cX h1 h1';subst this;unfold aT
   exact ReVs.refl h2 (dX h2')
 | .scr l,u,v,r,q=>by
  unfold ReV at r;obtain⟨a,its,rfl,h1,h2⟩:=r
  cases u with
  | non=>unfold ReV at q;cases q
  | dct _ _=>unfold ReV at q;exact q.elim
  | bl _=>unfold ReV at q;cases q
  | int _=>unfold ReV at q;obtain⟨_,e⟩:=q;cases e
  | str _=>unfold ReV at q;obtain⟨_,e⟩:=q;cases e
  | lst m=>
   unfold ReV at q;obtain⟨a',its',e,h1',h2'⟩:=q;injection e with e;subst e
   have:=cX h1 h1';subst this;unfold aT
   exact oB h2 h2'
  | tup m=>unfold ReV at q;obtain⟨a',its',e,h1',h2'⟩:=q;injection e with e;subst e;exact absurd rfl (ne_of_list_tuple h1 h1')
  | scr m=>
   unfold ReV at q;obtain⟨a',its',e,h1',h2'⟩:=q;injection e with e;subst e
   have:=cX h1 h1';subst this;unfold aT
   have:=iZ h2 h2'
   simp[this]
 | .dct _ _,u,v,r,q=>by unfold ReV at r;exact r.elim
theorem ReVs.refl {s:Ib}:∀{l m:List T} {us:List H0},ReVs s l us->ReVs s m us->beqTs l m=true
 | [],m,us,r,q=>by
  cases ReVs.Da.mp r
  cases m with
  | nil=>simp[beqTs]
  | cons _ _=>obtain⟨_,_,e,_⟩:=ReVs.me.mp q;cases e
 | t::l,m,us,r,q=>by
  obtain⟨v,ws,rfl,p,z⟩:=ReVs.me.mp r
  cases m with
  | nil=>cases ReVs.Da.mp q
  | cons u m=>
   obtain⟨v',ws',e,p',z'⟩:=ReVs.me.mp q;injection e with e1 e2
   subst e1 e2;rw[beqTs,ReV.refl p p',ReVs.refl z z'];rfl
end
theorem oA:∀(l:List Int) (m:List T),jU l m=beqTs (l.map T.int) m
 | [],[] =>by simp[jU,beqTs]
 | [],_::_=>by simp[jU,beqTs]
 | _::_,[] =>by simp[jU,beqTs]
 | i::l,t::m=>by
  rw[jU,Ic,beqTs,oA l m]
  congr 1
  cases t <;> simp[B4,aT]
theorem qu:∀(l m:List Int),(l == m)=beqTs (l.map T.int) (m.map T.int)
 | [],[] =>by simp[beqTs]
 | [],_::_=>by simp[beqTs]
 | _::_,[] =>by simp[beqTs]
 | i::l,t::m=>by
  rw[Ic,Ic,beqTs,<-qu l m];simp[aT]
theorem fP:∀(l:List Int),deps (l.map T.int)=0
 | [] =>rfl
 | i::l=>by rw[Ic,deps,fP l];simp[T.dep]
def jn:T->T->Prop
 | .tup _,.tup _=>False
 | .lst _,.lst _=>False
 | .lst _,.scr _=>False
 | .scr _,.lst _=>False
 | .scr _,.scr _=>False
 | _,_=>True
theorem tZ (A:Jl)(s:Ib)(x y:T)(u v:H0)(hn:jn x y)(hu:A.units<cLine)(rx:ReV s x u)(ry:ReV s y v):EqAt A s u v (aT x y)/\RcAt A s u v (aT x y)/\RcNeAt A s u v (!aT x y):=by
 match x,y,hn,rx,ry with
 | .dct _ _,_,_,rx,_=>exact(by unfold ReV at rx;exact rx:False).elim
 | _,.dct _ _,_,_,ry=>exact(by unfold ReV at ry;exact ry:False).elim
 | .non,.non,hn,rx,ry=>
  obtain rfl:u=Jm:=by unfold ReV at rx;exact rx
  obtain rfl:v=Jm:=by unfold ReV at ry;exact ry
  exact⟨EqAt.same _,RcAt.none_none ,RcNeAt.none_none ⟩
 | .non,.bl b2,hn,rx,ry=>
  obtain rfl:u=Jm:=by unfold ReV at rx;exact rx
  obtain rfl:v=JB b2:=by unfold ReV at ry;exact ry
  exact⟨EqAt.none_bool b2,RcAt.none_bool b2,RcNeAt.none_bool b2⟩
 | .non,.int i2,hn,rx,ry=>
  obtain rfl:u=Jm:=by unfold ReV at rx;exact rx
  obtain⟨k2,rfl⟩:∃k,v=JN i2 k:=by unfold ReV at ry;exact ry
  exact⟨EqAt.none_int i2 k2,RcAt.none_int i2 k2,RcNeAt.none_int i2 k2⟩
 | .non,.str x2,hn,rx,ry=>
  obtain rfl:u=Jm:=by unfold ReV at rx;exact rx
  obtain⟨k2,rfl⟩:∃k,v=JV x2 k:=by unfold ReV at ry;exact ry
  exact⟨EqAt.none_str x2 k2,RcAt.none_str x2 k2,RcNeAt.none_str x2 k2⟩
 | .non,.tup l2,hn,rx,ry=>
  obtain rfl:u=Jm:=by unfold ReV at rx;exact rx
  unfold ReV at ry;obtain⟨a2,us2,rfl,h2,q2⟩:=ry
  exact⟨EqAt.none_tuple h2 hu,RcAt.none_tuple h2 hu,RcNeAt.none_tuple h2 hu⟩
 | .non,.lst l2,hn,rx,ry=>
  obtain rfl:u=Jm:=by unfold ReV at rx;exact rx
  unfold ReV at ry;obtain⟨a2,us2,rfl,h2,q2⟩:=ry
  exact⟨EqAt.none_list h2 hu,RcAt.none_list h2 hu,RcNeAt.none_list h2 hu⟩
 | .non,.scr l2,hn,rx,ry=>
  obtain rfl:u=Jm:=by unfold ReV at rx;exact rx
  unfold ReV at ry;obtain⟨a2,us2,rfl,h2,q2⟩:=ry
  exact⟨EqAt.none_list h2 hu,RcAt.none_list h2 hu,RcNeAt.none_list h2 hu⟩
 | .bl b1,.non,hn,rx,ry=>
  obtain rfl:u=JB b1:=by unfold ReV at rx;exact rx
  obtain rfl:v=Jm:=by unfold ReV at ry;exact ry
  exact⟨EqAt.bool_none b1,RcAt.bool_none b1,RcNeAt.bool_none b1⟩
 | .bl b1,.bl b2,hn,rx,ry=>
  obtain rfl:u=JB b1:=by unfold ReV at rx;exact rx
  obtain rfl:v=JB b2:=by unfold ReV at ry;exact ry
  exact⟨EqAt.bool_bool b1 b2,RcAt.bool_bool b1 b2,RcNeAt.bool_bool b1 b2⟩
 | .bl b1,.int i2,hn,rx,ry=>
  obtain rfl:u=JB b1:=by unfold ReV at rx;exact rx
  obtain⟨k2,rfl⟩:∃k,v=JN i2 k:=by unfold ReV at ry;exact ry
  exact⟨EqAt.bool_int b1 i2 k2,RcAt.bool_int b1 i2 k2,RcNeAt.bool_int b1 i2 k2⟩
 | .bl b1,.str x2,hn,rx,ry=>
  obtain rfl:u=JB b1:=by unfold ReV at rx;exact rx
  obtain⟨k2,rfl⟩:∃k,v=JV x2 k:=by unfold ReV at ry;exact ry
  exact⟨EqAt.bool_str b1 x2 k2,RcAt.bool_str b1 x2 k2,RcNeAt.bool_str b1 x2 k2⟩
 | .bl b1,.tup l2,hn,rx,ry=>
  obtain rfl:u=JB b1:=by unfold ReV at rx;exact rx
  unfold ReV at ry;obtain⟨a2,us2,rfl,h2,q2⟩:=ry
  exact⟨EqAt.bool_tuple b1 h2 hu,RcAt.bool_tuple b1 h2 hu,RcNeAt.bool_tuple b1 h2 hu⟩
 | .bl b1,.lst l2,hn,rx,ry=>
  obtain rfl:u=JB b1:=by unfold ReV at rx;exact rx
  unfold ReV at ry;obtain⟨a2,us2,rfl,h2,q2⟩:=ry
  exact⟨EqAt.bool_list b1 h2 hu,RcAt.bool_list b1 h2 hu,RcNeAt.bool_list b1 h2 hu⟩
 | .bl b1,.scr l2,hn,rx,ry=>
  obtain rfl:u=JB b1:=by unfold ReV at rx;exact rx
  unfold ReV at ry;obtain⟨a2,us2,rfl,h2,q2⟩:=ry
  exact⟨EqAt.bool_list b1 h2 hu,RcAt.bool_list b1 h2 hu,RcNeAt.bool_list b1 h2 hu⟩
 | .int i1,.non,hn,rx,ry=>
  obtain⟨k1,rfl⟩:∃k,u=JN i1 k:=by unfold ReV at rx;exact rx
  obtain rfl:v=Jm:=by unfold ReV at ry;exact ry
  exact⟨EqAt.int_none i1 k1,RcAt.int_none i1 k1,RcNeAt.int_none i1 k1⟩
 | .int i1,.bl b2,hn,rx,ry=>
  obtain⟨k1,rfl⟩:∃k,u=JN i1 k:=by unfold ReV at rx;exact rx
  obtain rfl:v=JB b2:=by unfold ReV at ry;exact ry
  exact⟨EqAt.int_bool i1 k1 b2,RcAt.int_bool i1 k1 b2,RcNeAt.int_bool i1 k1 b2⟩
 | .int i1,.int i2,hn,rx,ry=>
  obtain⟨k1,rfl⟩:∃k,u=JN i1 k:=by unfold ReV at rx;exact rx
  obtain⟨k2,rfl⟩:∃k,v=JN i2 k:=by unfold ReV at ry;exact ry
  exact⟨EqAt.int_int i1 k1 i2 k2,RcAt.int_int i1 k1 i2 k2,RcNeAt.int_int i1 k1 i2 k2⟩
 | .int i1,.str x2,hn,rx,ry=>
  obtain⟨k1,rfl⟩:∃k,u=JN i1 k:=by unfold ReV at rx;exact rx
  obtain⟨k2,rfl⟩:∃k,v=JV x2 k:=by unfold ReV at ry;exact ry
  exact⟨EqAt.int_str i1 k1 x2 k2,RcAt.int_str i1 k1 x2 k2,RcNeAt.int_str i1 k1 x2 k2⟩
 | .int i1,.tup l2,hn,rx,ry=>
  obtain⟨k1,rfl⟩:∃k,u=JN i1 k:=by unfold ReV at rx;exact rx
  unfold ReV at ry;obtain⟨a2,us2,rfl,h2,q2⟩:=ry
  exact⟨EqAt.int_tuple i1 k1 h2 hu,RcAt.int_tuple i1 k1 h2 hu,RcNeAt.int_tuple i1 k1 h2 hu⟩
 | .int i1,.lst l2,hn,rx,ry=>
  obtain⟨k1,rfl⟩:∃k,u=JN i1 k:=by unfold ReV at rx;exact rx
  unfold ReV at ry;obtain⟨a2,us2,rfl,h2,q2⟩:=ry
  exact⟨EqAt.int_list i1 k1 h2 hu,RcAt.int_list i1 k1 h2 hu,RcNeAt.int_list i1 k1 h2 hu⟩
 | .int i1,.scr l2,hn,rx,ry=>
  obtain⟨k1,rfl⟩:∃k,u=JN i1 k:=by unfold ReV at rx;exact rx
  unfold ReV at ry;obtain⟨a2,us2,rfl,h2,q2⟩:=ry
  exact⟨EqAt.int_list i1 k1 h2 hu,RcAt.int_list i1 k1 h2 hu,RcNeAt.int_list i1 k1 h2 hu⟩
 | .str x1,.non,hn,rx,ry=>
  obtain⟨k1,rfl⟩:∃k,u=JV x1 k:=by unfold ReV at rx;exact rx
  obtain rfl:v=Jm:=by unfold ReV at ry;exact ry
  exact⟨EqAt.str_none x1 k1,RcAt.str_none x1 k1,RcNeAt.str_none x1 k1⟩
 | .str x1,.bl b2,hn,rx,ry=>
  obtain⟨k1,rfl⟩:∃k,u=JV x1 k:=by unfold ReV at rx;exact rx
  obtain rfl:v=JB b2:=by unfold ReV at ry;exact ry
  exact⟨EqAt.str_bool x1 k1 b2,RcAt.str_bool x1 k1 b2,RcNeAt.str_bool x1 k1 b2⟩
 | .str x1,.int i2,hn,rx,ry=>
  obtain⟨k1,rfl⟩:∃k,u=JV x1 k:=by unfold ReV at rx;exact rx
  obtain⟨k2,rfl⟩:∃k,v=JN i2 k:=by unfold ReV at ry;exact ry
  exact⟨EqAt.str_int x1 k1 i2 k2,RcAt.str_int x1 k1 i2 k2,RcNeAt.str_int x1 k1 i2 k2⟩
 | .str x1,.str x2,hn,rx,ry=>
  obtain⟨k1,rfl⟩:∃k,u=JV x1 k:=by unfold ReV at rx;exact rx
  obtain⟨k2,rfl⟩:∃k,v=JV x2 k:=by unfold ReV at ry;exact ry
  exact⟨EqAt.str_str x1 k1 x2 k2,RcAt.str_str x1 k1 x2 k2,RcNeAt.str_str x1 k1 x2 k2⟩
 | .str x1,.tup l2,hn,rx,ry=>
  obtain⟨k1,rfl⟩:∃k,u=JV x1 k:=by unfold ReV at rx;exact rx
  unfold ReV at ry;obtain⟨a2,us2,rfl,h2,q2⟩:=ry
  exact⟨EqAt.str_tuple x1 k1 h2 hu,RcAt.str_tuple x1 k1 h2 hu,RcNeAt.str_tuple x1 k1 h2 hu⟩
 | .str x1,.lst l2,hn,rx,ry=>
  obtain⟨k1,rfl⟩:∃k,u=JV x1 k:=by unfold ReV at rx;exact rx
  unfold ReV at ry;obtain⟨a2,us2,rfl,h2,q2⟩:=ry
  exact⟨EqAt.str_list x1 k1 h2 hu,RcAt.str_list x1 k1 h2 hu,RcNeAt.str_list x1 k1 h2 hu⟩
 | .str x1,.scr l2,hn,rx,ry=>
  obtain⟨k1,rfl⟩:∃k,u=JV x1 k:=by unfold ReV at rx;exact rx
  unfold ReV at ry;obtain⟨a2,us2,rfl,h2,q2⟩:=ry
  exact⟨EqAt.str_list x1 k1 h2 hu,RcAt.str_list x1 k1 h2 hu,RcNeAt.str_list x1 k1 h2 hu⟩
 | .tup l1,.non,hn,rx,ry=>
  unfold ReV at rx;obtain⟨a1,us1,rfl,h1,q1⟩:=rx;obtain rfl:v=Jm:=by unfold ReV at ry;exact ry
  exact⟨EqAt.tuple_none h1 hu,RcAt.tuple_none h1 hu,RcNeAt.tuple_none h1 hu⟩
 | .tup l1,.bl b2,hn,rx,ry=>
  unfold ReV at rx;obtain⟨a1,us1,rfl,h1,q1⟩:=rx;obtain rfl:v=JB b2:=by unfold ReV at ry;exact ry
  exact⟨EqAt.tuple_bool b2 h1 hu,RcAt.tuple_bool b2 h1 hu,RcNeAt.tuple_bool b2 h1 hu⟩
 | .tup l1,.int i2,hn,rx,ry=>
  unfold ReV at rx;obtain⟨a1,us1,rfl,h1,q1⟩:=rx;obtain⟨k2,rfl⟩:∃k,v=JN i2 k:=by unfold ReV at ry;exact ry
  exact⟨EqAt.tuple_int i2 k2 h1 hu,RcAt.tuple_int i2 k2 h1 hu,RcNeAt.tuple_int i2 k2 h1 hu⟩
 | .tup l1,.str x2,hn,rx,ry=>
  unfold ReV at rx;obtain⟨a1,us1,rfl,h1,q1⟩:=rx;obtain⟨k2,rfl⟩:∃k,v=JV x2 k:=by unfold ReV at ry;exact ry
  exact⟨EqAt.tuple_str x2 k2 h1 hu,RcAt.tuple_str x2 k2 h1 hu,RcNeAt.tuple_str x2 k2 h1 hu⟩
 | .tup _,.tup _,hn,_,_=>exact hn.elim
 | .tup l1,.lst l2,hn,rx,ry=>
  unfold ReV at rx;obtain⟨a1,us1,rfl,h1,q1⟩:=rx;unfold ReV at ry;obtain⟨a2,us2,rfl,h2,q2⟩:=ry
  exact⟨EqAt.tuple_list h1 h2 hu,RcAt.tuple_list h1 h2 hu,RcNeAt.tuple_list h1 h2 hu⟩
 | .tup l1,.scr l2,hn,rx,ry=>
  unfold ReV at rx;obtain⟨a1,us1,rfl,h1,q1⟩:=rx;unfold ReV at ry;obtain⟨a2,us2,rfl,h2,q2⟩:=ry
  exact⟨EqAt.tuple_list h1 h2 hu,RcAt.tuple_list h1 h2 hu,RcNeAt.tuple_list h1 h2 hu⟩
 | .lst l1,.non,hn,rx,ry=>
  unfold ReV at rx;obtain⟨a1,us1,rfl,h1,q1⟩:=rx;obtain rfl:v=Jm:=by unfold ReV at ry;exact ry
  exact⟨EqAt.list_none h1 hu,RcAt.list_none h1 hu,RcNeAt.list_none h1 hu⟩
 | .lst l1,.bl b2,hn,rx,ry=>
  unfold ReV at rx;obtain⟨a1,us1,rfl,h1,q1⟩:=rx;obtain rfl:v=JB b2:=by unfold ReV at ry;exact ry
  exact⟨EqAt.list_bool b2 h1 hu,RcAt.list_bool b2 h1 hu,RcNeAt.list_bool b2 h1 hu⟩
 | .lst l1,.int i2,hn,rx,ry=>
  unfold ReV at rx;obtain⟨a1,us1,rfl,h1,q1⟩:=rx;obtain⟨k2,rfl⟩:∃k,v=JN i2 k:=by unfold ReV at ry;exact ry
  exact⟨EqAt.list_int i2 k2 h1 hu,RcAt.list_int i2 k2 h1 hu,RcNeAt.list_int i2 k2 h1 hu⟩
 | .lst l1,.str x2,hn,rx,ry=>
  unfold ReV at rx;obtain⟨a1,us1,rfl,h1,q1⟩:=rx;obtain⟨k2,rfl⟩:∃k,v=JV x2 k:=by unfold ReV at ry;exact ry
  exact⟨EqAt.list_str x2 k2 h1 hu,RcAt.list_str x2 k2 h1 hu,RcNeAt.list_str x2 k2 h1 hu⟩
 | .lst l1,.tup l2,hn,rx,ry=>
  unfold ReV at rx;obtain⟨a1,us1,rfl,h1,q1⟩:=rx;unfold ReV at ry;obtain⟨a2,us2,rfl,h2,q2⟩:=ry
  exact⟨EqAt.list_tuple h1 h2 hu,RcAt.list_tuple h1 h2 hu,RcNeAt.list_tuple h1 h2 hu⟩
 | .lst _,.lst _,hn,_,_=>exact hn.elim
 | .lst _,.scr _,hn,_,_=>exact hn.elim
 | .scr l1,.non,hn,rx,ry=>
  unfold ReV at rx;obtain⟨a1,us1,rfl,h1,q1⟩:=rx;obtain rfl:v=Jm:=by unfold ReV at ry;exact ry
  exact⟨EqAt.list_none h1 hu,RcAt.list_none h1 hu,RcNeAt.list_none h1 hu⟩
 | .scr l1,.bl b2,hn,rx,ry=>
  unfold ReV at rx;obtain⟨a1,us1,rfl,h1,q1⟩:=rx;obtain rfl:v=JB b2:=by unfold ReV at ry;exact ry
  exact⟨EqAt.list_bool b2 h1 hu,RcAt.list_bool b2 h1 hu,RcNeAt.list_bool b2 h1 hu⟩
 | .scr l1,.int i2,hn,rx,ry=>
  unfold ReV at rx;obtain⟨a1,us1,rfl,h1,q1⟩:=rx;obtain⟨k2,rfl⟩:∃k,v=JN i2 k:=by unfold ReV at ry;exact ry
  exact⟨EqAt.list_int i2 k2 h1 hu,RcAt.list_int i2 k2 h1 hu,RcNeAt.list_int i2 k2 h1 hu⟩
 | .scr l1,.str x2,hn,rx,ry=>
  unfold ReV at rx;obtain⟨a1,us1,rfl,h1,q1⟩:=rx;obtain⟨k2,rfl⟩:∃k,v=JV x2 k:=by unfold ReV at ry;exact ry
  exact⟨EqAt.list_str x2 k2 h1 hu,RcAt.list_str x2 k2 h1 hu,RcNeAt.list_str x2 k2 h1 hu⟩
 | .scr l1,.tup l2,hn,rx,ry=>
  unfold ReV at rx;obtain⟨a1,us1,rfl,h1,q1⟩:=rx;unfold ReV at ry;obtain⟨a2,us2,rfl,h2,q2⟩:=ry
  exact⟨EqAt.list_tuple h1 h2 hu,RcAt.list_tuple h1 h2 hu,RcNeAt.list_tuple h1 h2 hu⟩
 | .scr _,.lst _,hn,_,_=>exact hn.elim
 | .scr _,.scr _,hn,_,_=>exact hn.elim
theorem BP:∀(n:Nat) (A:Jl) (s:Ib) (x y:T) (u v:H0),(x.dep<=n\/y.dep<=n)->A.units+n<cLine->ReV s x u->ReV s y v->EqAt A s u v (aT x y)/\RcAt A s u v (aT x y)/\RcNeAt A s u v (!aT x y):=by
 intro n
 induction n with
 | zero=>
  intro A s x y u v hd hu rx ry
  exact tZ A s x y u v (by cases x <;> cases y <;> simp_all [jn,T.dep]) (by omega) rx ry
 | succ n ih=>
  intro A s x y u v hd hu rx ry
  have hin:A.in1.units+n<cLine:=by show A.units+1+n<cLine;omega
  have items:∀(l m:List T) (us vs:List H0),(deps l<=n\/deps m<=n)->ReVs s l us->ReVs s m vs->∃e:Nat->Bool,(∀j (h1:j<us.toArray.size) (h2:j<vs.toArray.size),EqAt A.in1 s us.toArray[j] vs.toArray[j] (e j)) ∧
    (∀(j:Nat) t u,l[j]? =some t->m[j]? =some u->e j=aT t u):=λl m us vs hd r1 r2=>by
   refine⟨λj=>aT (l.getD j .non) (m.getD j .non),λj h1 h2=> ?_,λj t u e1 e2=>by simp[NW,e1,e2]⟩
   have l1:=r1.length
   have l2:=r2.length
   have h1':j<l.length:=by rw[l1];simpa using h1
   have h2':j<m.length:=by rw[l2];simpa using h2
   have e1:l[j]? =some l[j]:=by simp
   have e2:m[j]? =some m[j]:=by simp
   obtain⟨u1,z1,w1⟩:=r1.get e1;obtain⟨u2,z2,w2⟩:=r2.get e2
   have q1:us.toArray[j] =u1:=by
    have:us[j]? =some us.toArray[j]:=by simp
    rw[z1]at this;exact(IX this).symm
   have q2:vs.toArray[j] =u2:=by
    have:vs[j]? =some vs.toArray[j]:=by simp
    rw[z2]at this;exact(IX this).symm
   rw[q1,q2]
   have g1:l.getD j .non=l[j]:=by simp[NW,e1]
   have g2:m.getD j .non=m[j]:=by simp[NW,e2]
   show EqAt A.in1 s u1 u2 (aT (l.getD j .non) (m.getD j .non))
   rw[g1,g2];refine(ih A.in1 s l[j] m[j] u1 u2 ?_ hin w1 w2).1
   rcases hd with hd | hd
   ·exact .inl (IQ (i7 e1) hd)
   ·exact .inr (IQ (i7 e2) hd)
  have lists:∀(l m:List T) (a b:Addr) (us vs:List H0),(deps l<=n\/deps m<=n)->ReVs s l us->ReVs s m vs->s.heap.IsList a us.toArray->s.heap.IsList b vs.toArray →
    EqAt A s (.ref a) (.ref b) (beqTs l m)/\RcAt A s (.ref a) (.ref b) (beqTs l m)/\RcNeAt A s (.ref a) (.ref b) (!beqTs l m):=λl m a b us vs hd r1 r2 h1 h2=>by
   have l1:=r1.length
   have l2:=r2.length
   have key:RcAt A s (.ref a) (.ref b) (beqTs l m)/\RcNeAt A s (.ref a) (.ref b) (!beqTs l m):=by
    by_cases hl:l.length=m.length
    ·obtain⟨e,he,hb⟩:=items l m us vs hd r1 r2
     have q:=lI l m e hb
     have q2:beqTs l m=(Iw us.toArray.size).all e:=by
      rw[q,hl,Nat.min_self];simp[l2.symm,hl.symm,l1]
     rw[q2]
     have hsz:us.toArray.size=vs.toArray.size:=by simp;omega
     exact⟨RcAt.lists h1 h2 hsz (by omega) he,RcNeAt.lists h1 h2 hsz (by omega) he⟩
    ·rw[qh hl]
     have hsz:(us.toArray.size != vs.toArray.size)=true:=by simp;omega
     exact⟨RcAt.lists_lengths h1 h2 hsz (by omega),RcNeAt.lists_lengths h1 h2 hsz (by omega)⟩
   refine⟨?_,key⟩
   by_cases hab:a=b
   ·subst hab
    have:=cX h1 h2;subst this;rw[ReVs.refl r1 r2];exact EqAt.same _
   ·exact EqAt.of_refs hab key.1
  cases x with
  | tup l=>
   cases y with
   | tup m=>
    unfold ReV at rx ry;obtain⟨a,us,rfl,h1,r1⟩:=rx;obtain⟨b,vs,rfl,h2,r2⟩:=ry
    have hd':deps l<=n\/deps m<=n:=by
     simp only[T.dep]at hd;omega
    have l1:=r1.length
    have l2:=r2.length;obtain⟨e,he,hb⟩:=items l m us vs hd' r1 r2
    have q:=lI l m e hb
    have q2:beqTs l m=((Iw (min us.toArray.size vs.toArray.size)).all e&&us.toArray.size == vs.toArray.size):=by
     rw[q];simp[l1,l2]
    have key:RcAt A s (.ref a) (.ref b) (beqTs l m)/\RcNeAt A s (.ref a) (.ref b) (!beqTs l m):=by
     rw[q2];exact⟨RcAt.tuples h1 h2 (by omega) he,RcNeAt.tuples h1 h2 (by omega) he⟩
    unfold aT;refine⟨?_,key⟩
    by_cases hab:a=b
    ·subst hab
     have:=iY h1 h2;subst this;rw[ReVs.refl r1 r2];exact EqAt.same _
    ·exact EqAt.of_refs hab key.1
   | _=>exact tZ A s _ _ u v (by simp[jn]) (by omega) rx ry
  | lst l=>
   cases y with
   | lst m=>
    unfold ReV at rx ry;obtain⟨a,us,rfl,h1,r1⟩:=rx;obtain⟨b,vs,rfl,h2,r2⟩:=ry;unfold aT
    exact lists l m a b us vs (by simp only[T.dep]at hd;omega) r1 r2 h1 h2
   | scr m=>
    unfold ReV at rx ry;obtain⟨a,us,rfl,h1,r1⟩:=rx;obtain⟨b,vs,rfl,h2,r2⟩:=ry;unfold aT
    exact lists l (m.map T.int) a b us vs (by rw[fP];omega) r1 (dX r2) h1 h2
   | _=>exact tZ A s _ _ u v (by simp[jn]) (by omega) rx ry
  | scr l=>
   cases y with
   | lst m=>
    unfold ReV at rx ry;obtain⟨a,us,rfl,h1,r1⟩:=rx;obtain⟨b,vs,rfl,h2,r2⟩:=ry;unfold aT;rw[oA]
    exact lists (l.map T.int) m a b us vs (by rw[fP];omega) (dX r1) r2 h1 h2
   | scr m=>
    unfold ReV at rx ry;obtain⟨a,us,rfl,h1,r1⟩:=rx;obtain⟨b,vs,rfl,h2,r2⟩:=ry;unfold aT;rw[qu]
    exact lists (l.map T.int) (m.map T.int) a b us vs (by rw[fP];omega) (dX r1) (dX r2) h1 h2
   | _=>exact tZ A s _ _ u v (by simp[jn]) (by omega) rx ry
  | _=>exact tZ A s _ _ u v (by simp[jn]) (by omega) rx ry
mutual
def T.nf:T->T
 | .tup l=> .tup (nfs l)
 | .lst l=> .lst (nfs l)
 | .scr l=> .lst (l.map .int)
 | .non=> .non
 | .bl b=> .bl b
 | .int b=> .int b
 | .str b=> .str b
 | .dct a b=> .dct a b
def nfs:List T->List T
 | [] => []
 | t::l=>t.nf::nfs l
end
theorem tF:∀(l:List Int),nfs (l.map T.int)=l.map T.int
 | [] =>rfl
 | i::l=>by rw[Ic,nfs,tF l];simp[T.nf]
mutual
theorem kZ:∀(t x:T),aT t.nf x=aT t x
 | .non,x=>by simp[T.nf]
 | .bl _,x=>by simp[T.nf]
 | .int _,x=>by simp[T.nf]
 | .str _,x=>by simp[T.nf]
 | .tup l,x=>by cases x <;> simp[T.nf,aT,beqTs_nf l]
 | .lst l,x=>by cases x <;> simp[T.nf,aT,beqTs_nf l]
 | .scr l,x=>by cases x <;> simp[T.nf,aT,oA,qu]
 | .dct _ _,x=>by simp[T.nf]
theorem beqTs_nf:∀(l m:List T),beqTs (nfs l) m=beqTs l m
 | [],m=>by simp[nfs]
 | t::l,m=>by cases m <;> simp[nfs,beqTs,kZ t,beqTs_nf l]
end
theorem Ef {s:Ib}{t:T}{i:Int}{k:Tok}(r:ReV s t (.int i k)):t.nf= .int i:=by
 cases t with
 | non=>unfold ReV at r;cases r
 | bl b=>unfold ReV at r;cases r
 | int j=>unfold ReV at r;obtain⟨t,e⟩:=r;injection e with e1 _;subst e1;rfl
 | str x=>unfold ReV at r;obtain⟨t,e⟩:=r;cases e
 | tup l=>unfold ReV at r;obtain⟨a,its,e,_⟩:=r;cases e
 | lst l=>unfold ReV at r;obtain⟨a,its,e,_⟩:=r;cases e
 | scr l=>unfold ReV at r;obtain⟨a,its,e,_⟩:=r;cases e
 | dct _ _=>unfold ReV at r;exact r.elim
theorem vY {s:Ib}:∀{l:List T} {us:List H0} {ns:List Int},ReVs s l us->L3 us ns->nfs l=ns.map T.int
 | [],us,ns,r,h=>by cases ReVs.Da.mp r;cases h;rfl
 | t::l,us,ns,r,h=>by
  obtain⟨u,ws,rfl,p,q⟩:=ReVs.me.mp r
  cases h with
  | cons a b hh=>rw[nfs,Ef p,vY q hh];rfl
mutual
theorem ReV.nf {s:Ib}:∀{t u:T} {v:H0},ReV s t v->ReV s u v->t.nf=u.nf
 | .non,u,v,r,q=>by
  unfold ReV at r;subst r
  cases u <;> (unfold ReV at q) <;> first | rfl | (cases q;done) | (obtain⟨_,e⟩:=q;cases e;done) | (obtain⟨_,_,e,_⟩:=q;cases e;done)
 | .bl b,u,v,r,q=>by
  unfold ReV at r;subst r
  cases u <;> (unfold ReV at q) <;> first | (cases q;done) | (cases q;rfl) | (obtain⟨_,e⟩:=q;cases e;done) | (obtain⟨_,_,e,_⟩:=q;cases e;done)
 | .int b,u,v,r,q=>by
  unfold ReV at r;obtain⟨k,rfl⟩:=r
  cases u <;> (unfold ReV at q) <;> first | (cases q;done) | (obtain⟨_,e⟩:=q;cases e;done) | (obtain⟨_,e⟩:=q;cases e;rfl) | (obtain⟨_,_,e,_⟩:=q;cases e;done)
 | .str b,u,v,r,q=>by
  unfold ReV at r;obtain⟨k,rfl⟩:=r
  cases u <;> (unfold ReV at q) <;> first | (cases q;done) | (obtain⟨_,e⟩:=q;cases e;done) | (obtain⟨_,e⟩:=q;cases e;rfl) | (obtain⟨_,_,e,_⟩:=q;cases e;done)
 | .tup l,u,v,r,q=>by
  unfold ReV at r;obtain⟨a,its,rfl,h1,h2⟩:=r
  cases u with
  | non=>unfold ReV at q;cases q
  | dct _ _=>unfold ReV at q;exact q.elim
  | bl _=>unfold ReV at q;cases q
  | int _=>unfold ReV at q;obtain⟨_,e⟩:=q;cases e
  | str _=>unfold ReV at q;obtain⟨_,e⟩:=q;cases e
  | tup m=>
   unfold ReV at q;obtain⟨a',its',e,h1',h2'⟩:=q;injection e with e;subst e
   have:=iY h1 h1';subst this;unfold T.nf
   rw[ReVs.nf h2 h2']
  | lst m=>unfold ReV at q;obtain⟨a',its',e,h1',h2'⟩:=q;injection e with e;subst e;exact absurd rfl (ne_of_list_tuple h1' h1)
  | scr m=>unfold ReV at q;obtain⟨a',its',e,h1',h2'⟩:=q;injection e with e;subst e;exact absurd rfl (ne_of_list_tuple h1' h1)
 | .lst l,u,v,r,q=>by
  unfold ReV at r;obtain⟨a,its,rfl,h1,h2⟩:=r
  cases u with
  | non=>unfold ReV at q;cases q
  | dct _ _=>unfold ReV at q;exact q.elim
  | bl _=>unfold ReV at q;cases q
  | int _=>unfold ReV at q;obtain⟨_,e⟩:=q;cases e
  | str _=>unfold ReV at q;obtain⟨_,e⟩:=q;cases e
  | lst m=>
   unfold ReV at q;obtain⟨a',its',e,h1',h2'⟩:=q;injection e with e;subst e
   have:=cX h1 h1';subst this;unfold T.nf
   rw[ReVs.nf h2 h2']
  | tup m=>unfold ReV at q;obtain⟨a',its',e,h1',h2'⟩:=q;injection e with e;subst e;exact absurd rfl (ne_of_list_tuple h1 h1')
  | scr m=>
   unfold ReV at q;obtain⟨a',its',e,h1',h2'⟩:=q;injection e with e;subst e
   have:=cX h1 h1';subst this;unfold T.nf
   rw[ReVs.nf h2 (dX h2'),tF]
 | .scr l,u,v,r,q=>by
  unfold ReV at r;obtain⟨a,its,rfl,h1,h2⟩:=r
  cases u with
  | non=>unfold ReV at q;cases q
  | dct _ _=>unfold ReV at q;exact q.elim
  | bl _=>unfold ReV at q;cases q
  | int _=>unfold ReV at q;obtain⟨_,e⟩:=q;cases e
  | str _=>unfold ReV at q;obtain⟨_,e⟩:=q;cases e
  | lst m=>
   unfold ReV at q;obtain⟨a',its',e,h1',h2'⟩:=q;injection e with e;subst e
   have:=cX h1 h1';subst this
   have z:=vY h2' h2;unfold T.nf
   rw[z]
  | tup m=>unfold ReV at q;obtain⟨a',its',e,h1',h2'⟩:=q;injection e with e;subst e;exact absurd rfl (ne_of_list_tuple h1 h1')
  | scr m=>
   unfold ReV at q;obtain⟨a',its',e,h1',h2'⟩:=q;injection e with e;subst e
   have:=cX h1 h1';subst this
   rw[iZ h2 h2']
 | .dct _ _,u,v,r,q=>by unfold ReV at r;exact r.elim
theorem ReVs.nf {s:Ib}:∀{l m:List T} {us:List H0},ReVs s l us->ReVs s m us->nfs l=nfs m
 | [],m,us,r,q=>by
  cases ReVs.Da.mp r
  cases m with
  | nil=>rfl
  | cons _ _=>obtain⟨_,_,e,_⟩:=ReVs.me.mp q;cases e
 | t::l,m,us,r,q=>by
  obtain⟨v,ws,rfl,p,z⟩:=ReVs.me.mp r
  cases m with
  | nil=>cases ReVs.Da.mp q
  | cons u m=>
   obtain⟨v',ws',e,p',z'⟩:=ReVs.me.mp q;injection e with e1 e2
   subst e1 e2;rw[nfs,nfs,ReV.nf p p',ReVs.nf z z']
end
section
variable {X:Cx}{a b c:Expr}{fa fb fc:En->Rs T}{pos:Pos}
def fZ (x y:T):Bool:=(decide (x.dep<=60)||decide (y.dep<=60))&&(x.nd&&y.nd)
def oJ (x y:T):Rs T:=if fZ x y=true then .ok (.bl (aT x y))else .bad
def jQ (x y:T):Rs T:=if fZ x y=true then .ok (.bl (!aT x y))else .bad
theorem eK {x y:T}(h:x.dep<=60)(hx:x.nd=true)(hy:y.nd=true):fZ x y=true:=by unfold fZ;rw[decide_eq_true h,hx,hy];rfl
theorem zK {x y:T}(h:y.dep<=60)(hx:x.nd=true)(hy:y.nd=true):fZ x y=true:=by unfold fZ;rw[decide_eq_true h,hx,hy,Bool.or_true];rfl
theorem jx {x y:T}(h:fZ x y=true):x.nd=true/\y.nd=true:=by
 unfold fZ at h;exact J0.mp (J0.mp h).2
theorem pT {x y:T}(h:fZ x y=true):x.dep<=60\/y.dep<=60:=by
 unfold fZ at h
 replace h:=(J0.mp h).1
 rcases Bool.or_eq_true_iff.mp h with h | h
 ·exact .inl (of_decide_eq_true h)
 ·exact .inr (of_decide_eq_true h)
theorem m8 (hu:X.A.units+60<cLine):OpT X (Jd .Eq) oJ:=by
 intro pins s σ H O x y vx vy ux uy Q I hf rx ry r1 r2 hp;unfold oJ at hp
 split at hp
 ·rename_i h
  have z:=BP 60 X.A s x y ux uy (pT h) hu (Rep.val I (jx h).1 rx r1) (Rep.val I (jx h).2 ry r2);exact z.2.1 _ _ _ _ ⟨.bl _,H,I,rfl,hp H (Same.refl H) _ (Rep.bl_ _)⟩
 ·exact hp.elim
theorem iK (hu:X.A.units+60<cLine):OpT X (Jd .NotEq) jQ:=by
 intro pins s σ H O x y vx vy ux uy Q I hf rx ry r1 r2 hp;unfold jQ at hp
 split at hp
 ·rename_i h
  have z:=BP 60 X.A s x y ux uy (pT h) hu (Rep.val I (jx h).1 rx r1) (Rep.val I (jx h).2 ry r2);exact z.2.2 _ _ _ _ ⟨.bl _,H,I,rfl,hp H (Same.refl H) _ (Rep.bl_ _)⟩
 ·exact hp.elim
def T.items:T->Option (List T)
 | .tup l=>some l
 | .lst l=>some l
 | .scr l=>some (l.map T.int)
 | _=>none
def gi (x:T)(l:List T):Bool:=l.any λy=>aT y x
def EH (x y:T):Rs T:=match y.items with
 | some l=>if (x.dep<=60\/deps l<=60)/\x.nd=true/\y.nd=true then .ok (.bl (gi x l))else .bad
 | none=> .bad
def cF (x y:T):Rs T:=match y.items with
 | some l=>if (x.dep<=60\/deps l<=60)/\x.nd=true/\y.nd=true then .ok (.bl (!gi x l))else .bad
 | none=> .bad
theorem vJ {A:Jl}{s:Ib}{x:T}{ux:H0}(rx:ReV s x ux)(hu:A.units+60<cLine){l:List T}{us:List H0}(hd:x.dep<=60\/deps l<=60)(r:ReVs s l us) :
  ∃e:H0->Bool,(∀y∈us,EqAt A s y ux (e y))/\us.any e=gi x l:=by
 classical
 have ex:∀y∈us,∃t∈l,ReV s t y:=λy hy=>by
  obtain⟨i,hi,rfl⟩:=Kr hy
  have hl:=r.length
  have e1:l[i]? =some l[i]:=by simp
  obtain⟨u,q1,q2⟩:=r.get e1
  have:us[i]? =some us[i]:=by simp
  rw[this]at q1;cases q1;exact⟨l[i],JK _,q2⟩
 let e:H0->Bool:=λy=>decide (∃t∈l,ReV s t y/\aT t x=true)
 have dep:∀t∈l,t.dep<=60\/x.dep<=60:=λt ht=>by
  rcases hd with h | h
  ·exact .inr h
  ·obtain⟨i,hi,rfl⟩:=Kr ht
   exact .inl (IQ (i7 (i:=i) (by simp)) h)
 have uniq:∀y t t',ReV s t y->ReV s t' y->aT t x=aT t' x:=λy t t' z z'=>by
  rw[<-kZ t,<-kZ t',ReV.nf z z']
 have agree:∀y t,t∈l->ReV s t y->e y=aT t x:=λy t h z=>by
  show decide (∃t∈l,ReV s t y/\aT t x=true)=aT t x
  cases q:aT t x with
  | true=>exact decide_eq_true ⟨t,h,z,q⟩
  | false=>
   refine decide_eq_false ?_
   rintro ⟨t',h',z',q'⟩
   rw[<-uniq y t t' z z',q]at q';cases q'
 refine⟨e,λy hy=> ?_,?_⟩
 ·obtain⟨t,h,z⟩:=ex y hy
  rw[agree y t h z];exact(BP 60 A s t x y ux (dep t h) hu z rx).1
 ·have go:∀(l':List T) (us':List H0),(∀t∈l',t∈l)->ReVs s l' us'->us'.any e=l'.any λy=>aT y x:=by
   intro l'
   induction l' with
   | nil=>intro us' _ r';rw[ReVs.Da.mp r'];rfl
   | cons t l' ih=>
    intro us' sub r';obtain⟨u,ws,rfl,p,q⟩:=ReVs.me.mp r';rw[Ks,Ks,ih ws (λt ht=>sub t (Ia _ ht)) q,agree u t (sub t Ie) p]
  exact go l us (λ_ h=>h) r
theorem pO {s:Ib}{y:T}{u:H0}{l:List T}(r:ReV s y u)(h:y.items=some l):∃a us,u= .ref a/\ReVs s l us/\(s.heap.IsTuple a us.toArray\/s.heap.IsList a us.toArray):=by
 cases y with
 | tup m=>cases h;unfold ReV at r;obtain⟨a,us,e,h1,h2⟩:=r;exact⟨a,us,e,h2,.inl h1⟩
 | lst m=>cases h;unfold ReV at r;obtain⟨a,us,e,h1,h2⟩:=r;exact⟨a,us,e,h2,.inr h1⟩
 | scr m=>cases h;unfold ReV at r;obtain⟨a,us,e,h1,h2⟩:=r;exact⟨a,us,e,dX h2,.inr h1⟩
 | _=>cases h
theorem FH (hu:X.A.units+61<cLine):OpT X (Jd .In) EH:=by
 intro pins s σ H O x y vx vy ux uy Q I hf rx ry r1 r2 hp;unfold EH at hp
 split at hp
 ·rename_i l hl
  split at hp
  ·rename_i hd3
   obtain⟨hd,hnx,hny⟩:=hd3;obtain⟨a,us,rfl,rs,hh⟩:=pO (Rep.val I hny ry r2) hl;obtain⟨e,he,ha⟩:=vJ (A:=X.A.in1) (Rep.val I hnx rx r1) (by show X.A.units+1+60<cLine;omega) hd rs
   have q:=hp H (Same.refl H) _ (Rep.bl_ (gi x l))
   have he':∀y,y∈us.toArray->EqAt X.A.in1 s y ux (e y):=λy hy=>he y (by simpa using hy)
   have ha':us.toArray.any e=gi x l:=by simpa using ha
   rcases hh with hh | hh
   ·exact in_tupleAt e hh he' (by rw[ha'];exact⟨.bl _,H,I,rfl,q⟩)
   ·exact in_listAt e hh he' (by rw[ha'];exact⟨.bl _,H,I,rfl,q⟩)
  ·exact hp.elim
 ·exact hp.elim
theorem iJ (hu:X.A.units+61<cLine):OpT X (Jd .NotIn) cF:=by
 intro pins s σ H O x y vx vy ux uy Q I hf rx ry r1 r2 hp;unfold cF at hp
 split at hp
 ·rename_i l hl
  split at hp
  ·rename_i hd3
   obtain⟨hd,hnx,hny⟩:=hd3;obtain⟨a,us,rfl,rs,hh⟩:=pO (Rep.val I hny ry r2) hl;obtain⟨e,he,ha⟩:=vJ (A:=X.A.in1) (Rep.val I hnx rx r1) (by show X.A.units+1+60<cLine;omega) hd rs
   have q:=hp H (Same.refl H) _ (Rep.bl_ (!gi x l))
   have he':∀y,y∈us.toArray->EqAt X.A.in1 s y ux (e y):=λy hy=>he y (by simpa using hy)
   have ha':us.toArray.any e=gi x l:=by simpa using ha
   rcases hh with hh | hh
   ·exact notIn_tupleAt e hh he' (by rw[ha'];exact⟨.bl _,H,I,rfl,q⟩)
   ·exact notIn_listAt e hh he' (by rw[ha'];exact⟨.bl _,H,I,rfl,q⟩)
  ·exact hp.elim
 ·exact hp.elim
def ch (g g':T->T->Rs T)(fa fb fc:En->Rs T)(Z:En):Rs T:=do
 let x <-fa Z
 let y <-fb Z
 let z <-g x y
 match z with
 | .bl true=>do
  let w <-fc Z
  g' y w
 | .bl false=> .ok (.bl false)
 | _=> .bad
theorem A4 {op op':Ph}{g g':T->T->Rs T}(ho:OpT X (Jd op) g)(ho':OpT X (Jd op') g')(ha:cE X a fa)(hb:cE X b fb)(hc:cE X c fc)
  (hm:Pa [op,op'] [b,c] =false:=by with_unfolding_all rfl):cE X (.Compare a [op,op'] [b,c] pos) (ch g g' fa fb fc):=by
 intro pins s σ H Q I ⟨Z,O,E,hq⟩
 have h1:=a6 E hq;refine Compare_chain (cp (ha pins s σ H _ I h1) λv s1 ⟨x,H1,I1,r1,t,rt,s',E',q1⟩=>chain_link ?_) hm
 have h2:=a6 (f:=fb) E' q1;refine cp (hb pins s1 σ H1 _ I1 h2) λu s2 hh_=> ?_
 obtain⟨y,H2,I2,r2,t2,rt2,s'',E'',q2⟩:=hh_
 refine cp (ho pins s2 σ H2 O t t2 x y v u (λv' H'=> ∃t',Rep X.K O H' t' v'/\Same H2 H'/\Post X H' (match t' with
  | .bl true=>fc Z >>= λw=>g' t2 w
  | .bl false=> .ok (.bl false)
  | _=> .bad) (λt H'=> ∀v,Rep X.K O H' t v->Q v H')) I2 (λp=>E''.fresh) (rt.same s'') rt2 r1 r2 (Post.mono q2.bind λt' H' s3 q v rv=>⟨t',rv,s3,q⟩)) λd s3 ⟨z,H3,I3,r3,t3,rt3,sm3,q3⟩=> ?_
 have E3:=E''.same sm3
 split at q3
 ·cases Rep.FB.mp rt3
  cases r3;refine Jp (ite_tt (chain_last ?_))
  have h4:=a6 (f:=fc) E3 q3;refine cp (hc pins s3 σ H3 _ I3 h4) λw' s4 ⟨z',H4,I4,r4,t4,rt4,s4',E4,q4⟩=> ?_
  exact ho' pins s4 σ H4 O t2 t4 y z' u w' Q I4 (λp=>E4.fresh) ((rt2.same sm3).same s4') rt4 r2 r4 q4
 ·cases Rep.FB.mp rt3
  cases r3;refine Jp (ite_ff ⟨.bl false,H3,I3,rfl,q3 H3 (Same.refl H3) _ (Rep.bl_ false)⟩)
 ·exact q3.elim
def tb (f:En->Rs T)(Z:En):Rs Bool:=do
 let x <-f Z
 match x with
 | .bl k=> .ok k
 | _=> .bad
def bt (f:En->Rs Bool)(Z:En):Rs T:=do
 let k <-f Z
 .ok (.bl k)
theorem C4 {e:Expr}{f:En->Rs T}(h:cE X e f)(he:∀whole,isTrue e X.env whole=(do let v <-whole;standAt e.pos;holding [v] (truthy v)):=by intro _;rfl):ug X e (tb f):=by
 intro pins s σ H Q I ⟨Z,O,E,hq⟩;refine Ds h he pins s σ H Q I ?_
 obtain⟨Z1,O1,E1,h1⟩:=a6 E hq;refine⟨Z1,O1,E1,Post.mono h1 λts H1 s1 q vs r=> ?_⟩
 obtain⟨t',r',s',E',q'⟩:=q vs r
 split at q'
 ·exact⟨_,Rep.FB.mp r',q' H1 (Same.refl H1)⟩
 ·exact q'.elim
theorem C6 {op:Ph}{g:T->T->Rs T}(ho:OpT X (Jd op) g)(ha:cE X a fa)(hb:cE X b fb)(hm:MM op b=false:=by rfl):ug X (.Compare a [op] [b] pos) (tb (o2 g fa fb)):=by
 intro pins s σ H Q I ⟨Z,O,E,hq⟩
 have hq':Post X H (o2 g fa fb Z) λt H'=> ∀v,Rep X.K O H' t v->∃k,v= .bl k/\Q k H':=Post.mono hq.bind λt H' s' q v r=>by
  split at q
  ·exact⟨_,Rep.FB.mp r,q H' (Same.refl H')⟩
  ·exact q.elim
 have h1:=a6 E hq';refine wpAny_isTrue_Compare1 (cp (ha pins s σ H _ I h1) λv s1 ⟨x,H1,I1,r1,t,rt,s',E',q1⟩=> ?_) hm
 have h2:=a6 (f:=fb) E' q1;refine cp (hb pins s1 σ H1 _ I1 h2) λu s2 hh_=> ?_
 obtain⟨y,H2,I2,r2,t2,rt2,s'',E'',q2⟩:=hh_;refine cp (ho pins s2 σ H2 O t t2 x y v u _ I2 (λp=>E''.fresh) (rt.same s'') rt2 r1 r2 q2) λd s3 hh_=> ?_
 obtain⟨z,H3,I3,r3,k,e,q3⟩:=hh_;subst e;cases r3;exact Jp ⟨H3,I3,q3⟩
theorem yu {op op':Ph}{g g':T->T->Rs T}(ho:OpT X (Jd op) g)(ho':OpT X (Jd op') g')(ha:cE X a fa)(hb:cE X b fb)(hc:cE X c fc)
  (hm:Pa [op,op'] [b,c] =false:=by with_unfolding_all rfl):ug X (.Compare a [op,op'] [b,c] pos) (tb (ch g g' fa fb fc)):=by
 intro pins s σ H Q I ⟨Z,O,E,hq⟩
 have hq':Post X H (ch g g' fa fb fc Z) λt H'=> ∀v,Rep X.K O H' t v->∃k,v= .bl k/\Q k H':=Post.mono hq.bind λt H' s' q v r=>by
  split at q
  ·exact⟨_,Rep.FB.mp r,q H' (Same.refl H')⟩
  ·exact q.elim
 have h1:=a6 E hq';refine isTrue_chain (cp (ha pins s σ H _ I h1) λv s1 ⟨x,H1,I1,r1,t,rt,s',E',q1⟩=>test_link ?_) hm
 have h2:=a6 (f:=fb) E' q1;refine cp (hb pins s1 σ H1 _ I1 h2) λu s2 hh_=> ?_
 obtain⟨y,H2,I2,r2,t2,rt2,s'',E'',q2⟩:=hh_
 refine cp (ho pins s2 σ H2 O t t2 x y v u (λv' H'=> ∃t',Rep X.K O H' t' v'/\Same H2 H'/\Post X H' (match t' with
  | .bl true=>fc Z >>= λw=>g' t2 w
  | .bl false=> .ok (.bl false)
  | _=> .bad) (λt H'=> ∀v,Rep X.K O H' t v->∃k,v= .bl k/\Q k H')) I2 (λp=>E''.fresh) (rt.same s'') rt2 r1 r2 (Post.mono q2.bind λt' H' s3 q v rv=>⟨t',rv,s3,q⟩)) λd s3 ⟨z,H3,I3,r3,t3,rt3,sm3,q3⟩=> ?_
 have E3:=E''.same sm3
 split at q3
 ·cases Rep.FB.mp rt3
  cases r3;refine Jp (ite_tt (test_last ?_))
  have h4:=a6 (f:=fc) E3 q3;refine cp (hc pins s3 σ H3 _ I3 h4) λw' s4 ⟨z',H4,I4,r4,t4,rt4,s4',E4,q4⟩=> ?_
  refine cp (ho' pins s4 σ H4 O t2 t4 y z' u w' _ I4 (λp=>E4.fresh) ((rt2.same sm3).same s4') rt4 r2 r4 q4) λd' s5 ⟨z2,H5,I5,r5,k2,e2,q5⟩=> ?_
  subst e2;cases r5;exact Jp ⟨H5,I5,q5⟩
 ·cases Rep.FB.mp rt3
  cases r3;obtain⟨k,e,q⟩:=q3 H3 (Same.refl H3) _ (Rep.bl_ false);cases e;exact Jp (ite_ff ⟨H3,I3,q⟩)
 ·exact q3.elim
def k4 (f g:En->Rs Bool)(Z:En):Rs Bool:=do
 let k <-f Z
 if k then g Z else .ok false
def ka (f g:En->Rs Bool)(Z:En):Rs Bool:=do
 let k <-f Z
 if k then .ok true else g Z
def cM (f:En->Rs Bool)(Z:En):Rs Bool:=do
 let k <-f Z
 .ok (!k)
variable {f g:En->Rs Bool}{cP:List Expr}
abbrev CF (X:Cx)(e:Expr)(f:En->Rs Bool):Prop:=PW X e (ye X f)
theorem AN (ha:ug X a f):CF X (.BoolOp .And [a] pos) f:=A9 ha
theorem C2 (ha:ug X a f):CF X (.BoolOp .Or [a] pos) f:=Dq ha
theorem C3 (ha:ug X a f)(hb:CF X (.BoolOp .And (b::cP) pos) g):CF X (.BoolOp .And (a::b::cP) pos) (k4 f g):=by
 intro wh pins s σ H Q I ⟨Z,O,E,hq⟩;refine Dr ha hb wh pins s σ H Q I ?_
 obtain⟨Z1,O1,E1,h1⟩:=kB E hq;refine⟨Z1,O1,E1,Post.mono h1 λk H1 s1 q=> ?_⟩
 obtain⟨s',E',q'⟩:=q
 cases k with
 | true=>rw[if_pos rfl];exact⟨Z,O,E',by simpa using q'⟩
 | false=>rw[if_neg IK];exact q' H1 (Same.refl H1)
theorem Fd (ha:ug X a f)(hb:CF X (.BoolOp .Or (b::cP) pos) g):CF X (.BoolOp .Or (a::b::cP) pos) (ka f g):=by
 intro wh pins s σ H Q I ⟨Z,O,E,hq⟩;refine FA ha hb wh pins s σ H Q I ?_
 obtain⟨Z1,O1,E1,h1⟩:=kB E hq;refine⟨Z1,O1,E1,Post.mono h1 λk H1 s1 q=> ?_⟩
 obtain⟨s',E',q'⟩:=q
 cases k with
 | true=>rw[if_pos rfl];exact q' H1 (Same.refl H1)
 | false=>rw[if_neg IK];exact⟨Z,O,E',by simpa using q'⟩
theorem qt_w {e:Expr}(h:CF X e f):ug X e f:=h.pt
theorem C5 (ha:ug X a f):ug X (.UnaryOp .Not a pos) (cM f):=by
 intro pins s σ H Q I ⟨Z,O,E,hq⟩;refine Dt ha pins s σ H Q I ?_
 obtain⟨Z1,O1,E1,h1⟩:=kB E hq;exact⟨Z1,O1,E1,Post.mono h1 λk H1 s1 ⟨s',E',q'⟩=>q' H1 (Same.refl H1)⟩
def bS (f g:En->Rs T)(Z:En):Rs T:=do
 let x <-f Z
 match x with
 | .bl true=>g Z
 | .bl false=> .ok (.bl false)
 | _=> .bad
def Am (f g:En->Rs T)(Z:En):Rs T:=do
 let x <-f Z
 match x with
 | .bl true=> .ok (.bl true)
 | .bl false=>g Z
 | _=> .bad
def qW:T->Rs T
 | .bl k=> .ok (.bl (!k))
 | _=> .bad
theorem Fo {op}(h:cE X a fa):cE X (.BoolOp op [a] pos) fa:=DB h
theorem Fz (ha:cE X a fa)(hb:cE X (.BoolOp .And (b::cP) pos) fb):cE X (.BoolOp .And (a::b::cP) pos) (bS fa fb):=by
 intro pins s σ H Q I ⟨Z,O,E,hq⟩;refine DF ha hb pins s σ H Q I ?_
 obtain⟨Z1,O1,E1,h1⟩:=a6 E hq;refine⟨Z1,O1,E1,Post.mono h1 λts H1 s1 q vs r=> ?_⟩
 obtain⟨t',r',s',E',q'⟩:=q vs r
 split at q'
 ·exact⟨true,Rep.FB.mp r',by rw[if_pos rfl];exact⟨Z,O,E',q'⟩⟩
 ·exact⟨false,Rep.FB.mp r',by rw[if_neg IK];exact q' H1 (Same.refl H1) _ (Rep.bl_ false)⟩
 ·exact q'.elim
theorem q_or (ha:cE X a fa)(hb:cE X (.BoolOp .Or (b::cP) pos) fb):cE X (.BoolOp .Or (a::b::cP) pos) (Am fa fb):=by
 intro pins s σ H Q I ⟨Z,O,E,hq⟩;refine FF ha hb pins s σ H Q I ?_
 obtain⟨Z1,O1,E1,h1⟩:=a6 E hq;refine⟨Z1,O1,E1,Post.mono h1 λts H1 s1 q vs r=> ?_⟩
 obtain⟨t',r',s',E',q'⟩:=q vs r
 split at q'
 ·exact⟨true,Rep.FB.mp r',by rw[if_pos rfl];exact q' H1 (Same.refl H1) _ (Rep.bl_ true)⟩
 ·exact⟨false,Rep.FB.mp r',by rw[if_neg IK];exact⟨Z,O,E',q'⟩⟩
 ·exact q'.elim
theorem Fp (ha:cE X a fa):cE X (.UnaryOp .Not a pos) (o1 qW fa):=by
 intro pins s σ H Q I ⟨Z,O,E,hq⟩;refine DC ha pins s σ H Q I ?_
 obtain⟨Z1,O1,E1,h1⟩:=a6 E hq;refine⟨Z1,O1,E1,Post.mono h1 λts H1 s1 q vs r=> ?_⟩
 obtain⟨t',r',s',E',q'⟩:=q vs r;unfold qW at q'
 split at q'
 ·exact⟨_,Rep.FB.mp r',q' H1 (Same.refl H1) _ (Rep.bl_ _)⟩
 ·exact q'.elim
def Cw (f:En->Rs Bool)(fa fb:En->Rs T)(Z:En):Rs T:=do
 let k <-f Z
 if k then fa Z else fb Z
theorem q_if (hc:ug X c f)(ha:cE X a fa)(hb:cE X b fb):cE X (.IfExp c a b pos) (Cw f fa fb):=by
 intro pins s σ H Q I ⟨Z,O,E,hq⟩;refine yL hc ha hb pins s σ H Q I ?_
 obtain⟨Z1,O1,E1,h1⟩:=kB E hq;refine⟨Z1,O1,E1,Post.mono h1 λk H1 s1 q=> ?_⟩
 obtain⟨s',E',q'⟩:=q
 cases k with
 | true=>rw[if_pos rfl];exact⟨Z,O,E',by simpa using q'⟩
 | false=>rw[if_neg IK];exact⟨Z,O,E',by simpa using q'⟩
end
end Tr
namespace HT
open PySem PyProof.Rows
section
variable {prog:IJ}{w:JA}{A:Jl}{E:H0->Ib->Prop}{s:Ib}
theorem jG {t:Addr}{items:Array H0}{Q:Bool->Ib->Prop}(ht:Pf s.heap t items)(h:Q true s):wpAny (model prog w) A (L8 (.ref t)) Q E s:=by
 unfold L8;refine HY (Lb ht.typeIs (Ik ?_))
 exact h
theorem getItem_tuple_whole {t sl:Addr}{items:Array H0}{vl vu:H0}{lo hi:Option Int}{Q:H0->Ib->Prop}(ht:Pf s.heap t items)(hs:s.heap.IsSliceOf sl vl vu .none)(pl:N9 vl lo)(pu:N9 vu hi)
  (hw:sIx items.size 0 lo=0/\sIx items.size items.size hi=items.size) (h:Q (.ref t) s):wpAny (model prog w) A (getItem (.ref t) (.ref sl)) Q E s:=by
 obtain⟨os,hos,hcs,hds⟩:=id hs
 have hTs:s.TypeIs (.ref sl) "slice":=⟨os,hos,hcs⟩;unfold getItem
 try with_reducible refine Ln ?_
 first | refine HY (Ik ?_) | skip
 refine HY (MA ht.typeIs (by decide) ?_)
 refine HY (Jn (name:=Ip "__getitem__") ht.typeIs IH
  (JL IH ht.typeIs L1 ?_ (Mk _ _)))
 show wpAny _ _ (KW (.ref t) >>= _) _ _ s
 refine HY (ML ht ?_)
 refine HY (Lb hTs ?_)
 rw[if_pos (by decide)]
 refine HY (gF hs pl pu ?_)
 have hyes:(((sIx items.size 0 lo:Nat):Int) == 0&&(1:Int) == 1&&(sIx items.size items.size hi - sIx items.size 0 lo) == items.size)=true:=by
  rw[hw.1,hw.2];simp
 show wpAny _ _ (if (((sIx items.size 0 lo:Nat):Int) == 0&&(1:Int) == 1&&(sIx items.size items.size hi - sIx items.size 0 lo) == items.size)=true then _ else _) _ _ s
 rw[if_pos hyes]
 first
  | refine HY (jG ht ?_)
  | refine jG ht ?_
 try rw[if_pos rfl]
 first
  | exact HY (Nr (Ik ⟨_,rfl,Ik h⟩))
  | exact HY (Nr (HY (Ik (Ik ⟨_,rfl,Ik h⟩))))
theorem la {sl:Addr}{t:Tok}{n:Nat}{Q:Int×Int×Nat->Ib->Prop}(hs:s.heap.IsSliceOf sl .none .none (.int (-1) t))
  (h:Q ((n:Int) - 1,-1,n) s):wpAny (model prog w) A (Kb (.ref sl) (pure (n:Int))) Q E s:=by
 obtain⟨os,hos,hcs,hds⟩:=id hs;unfold Kb Mm;refine HY (HY (Jz hos hds (x:=.none) rfl (HY (Jz hos hds (x:=.none) rfl (HY (Jz hos hds (x:=.int (-1) t) rfl (Ik ?_)))))))
 refine HY (slicePart_int ?_)
 show wpAny _ _ (if ((-1:Int) == 0)=true then _ else _) _ _ s
 rw[if_neg (by decide)]
 refine HY (Mp (HY (Mp (HY (Ik ?_)))))
 show wpAny _ _ (match JD none none (-1) (n:Int)with | (lo,hi)=>pure (lo,(-1:Int),Je lo hi (-1))) _ _ s
 have e1:JD none none (-1) (n:Int)=((n:Int) - 1,-1):=by simp[JD]
 have e2:Je ((n:Int) - 1) (-1) (-1)=n:=by
  unfold Je;simp only[show ¬((-1:Int) > 0)by decide,if_false,OY,M4]
  split <;> omega
 rw[e1]
 show wpAny _ _ (pure ((n:Int) - 1,(-1:Int),Je ((n:Int) - 1) (-1) (-1))) _ _ s
 rw[e2];exact Ik h
theorem sS (xs:List H0):((Iw xs.length).filterMap λ(m:Nat)=>xs.toArray[(((xs.length:Int) - 1)+(m:Int)*(-1)).toNat]?)=xs.reverse:=by
 apply Oh
 intro i
 have key:∀m∈Iw xs.length,xs.toArray[(((xs.length:Int) - 1)+(m:Int)*(-1)).toNat]? =some (xs.reverse.getD m .none):=λm hm=>by
  have hm':m<xs.length:=Ji.mp hm
  have e:(((xs.length:Int) - 1)+(m:Int)*(-1)).toNat=xs.length - 1 - m:=by omega
  rw[e,M5,Ir (by omega)]
  have:m<xs.reverse.length:=by simpa using hm'
  simp[NW,Ir this,List.getElem_reverse]
 have hmap:((Iw xs.length).filterMap λ(m:Nat)=>xs.toArray[(((xs.length:Int) - 1)+(m:Int)*(-1)).toNat]?)=(Iw xs.length).map λm=>xs.reverse.getD m .none:=by
  have gen:∀(r:List Nat) (f:Nat->Option H0) (g:Nat->H0),(∀m∈r,f m=some (g m))->r.filterMap f=r.map g:=by
   intro r f g
   induction r with
   | nil=>intro _;rfl
   | cons m r ih=>
    intro h;rw[Kp,h m Ie,Ic,ih λm' hm'=>h m' (Ia _ hm')]
  exact gen _ _ _ key
 rw[hmap];rw[IF]
 by_cases hi:i<xs.length
 ·have hr:i<xs.reverse.length:=by simpa using hi
  rw[K6 hi]
  simp[NW,Ir hr]
 ·rw[Jt (by simpa using hi),Jt (by simpa using hi)]
  rfl
theorem slicePick_rev (xs:List H0):O9 xs.toArray none none (some (-1))=xs.reverse.toArray:=by
 have e:O9 xs.toArray none none (some (-1))=((sliceRange ((xs.toArray.size:Int) - 1) (-1) (-1)).filterMap (xs.toArray[·]?)).toArray:=rfl
 rw[e,<-sS xs,Iq];unfold sliceRange
 have c:(if ((xs.length:Int) - 1) > -1 then(((xs.length:Int) - 1) - (-1) - (-1) - 1) / (-(-1:Int))else 0).toNat=xs.length:=by
  rw[OY,M4]
  split <;> omega
 show(((Iw (if ((xs.length:Int) - 1) > -1 then(((xs.length:Int) - 1) - (-1) - (-1) - 1) / (-(-1:Int))else 0).toNat).map λ(k:Nat)=>(((xs.length:Int) - 1)+(-1)*(k:Int)).toNat).filterMap (xs.toArray[·]?)).toArray=_
 rw[c,NR]
 congr 2
 funext k
 show xs.toArray[(((xs.length:Int) - 1)+(-1)*(k:Int)).toNat]? =_
 rw[Int.mul_comm]
theorem getItem_tuple_rev {u sl:Addr}{items:List H0}{t:Tok}{Q:H0->Ib->Prop}(ht:Pf s.heap u items.toArray)(hs:s.heap.IsSliceOf sl .none .none (.int (-1) t))
  (h:Q (.ref s.heap.objs.size) { s with heap:=s.heap.push { cls:=.type "tuple",data:=.seq items.reverse.toArray } })
  (hsz:items.length<=sizeLine):wpAny (model prog w) A (getItem (.ref u) (.ref sl)) Q E s:=by
 have htake:sizeOk (.seq items.reverse.toArray):=by
  show items.reverse.toArray.size<=sizeLine
  simpa using hsz
 obtain⟨os,hos,hcs,hds⟩:=id hs
 have hTs:s.TypeIs (.ref sl) "slice":=⟨os,hos,hcs⟩;unfold getItem
 try with_reducible refine Ln ?_
 first | refine HY (Ik ?_) | skip
 refine HY (MA ht.typeIs (by decide) ?_)
 refine HY (Jn (name:=Ip "__getitem__") ht.typeIs IH
  (JL IH ht.typeIs L1 ?_ (Mk _ _)))
 show wpAny _ _ (KW (.ref u) >>= _) _ _ s
 refine HY (ML ht ?_)
 refine HY (Lb hTs ?_)
 rw[if_pos (by decide)]
 refine HY (la (n:=items.toArray.size) hs ?_)
 show wpAny _ _ (if ((((items.toArray.size:Nat):Int) - 1) == 0&&(-1:Int) == 1&&items.toArray.size == items.toArray.size)=true then _ else _) _ _ s
 rw[if_neg (by simp)]
 have e:((Iw items.toArray.size).filterMap λ(m:Nat)=>items.toArray[((((items.toArray.size:Nat):Int) - 1)+(m:Int)*(-1)).toNat]?)=items.reverse:=by
  rw[Iq];exact sS items
 rw[e]
 first
  | exact HY (m:=IZ _) (Jh (Ik ⟨_,rfl,Ik h⟩) htake)
  | exact HY (m:=IZ _) (Jh (HY (Ik (Ik ⟨_,rfl,Ik h⟩))) htake)
  | exact HY (HY (m:=IZ _) (Jh (Ik (Ik ⟨_,rfl,Ik h⟩)) htake))
  | exact HY (HY (m:=IZ _) (Jh (Ik ⟨_,rfl,Ik h⟩) htake))
end
end HT
namespace Tr
open PySem PySem.Spec PyProof.Rows L2
section
variable {X:Cx}{a b c:Expr}{fa fb fc:En->Rs T}{pos:Pos}
theorem Reps.atI {K:HX}{O:Ow}{H:Hp}{l:List T}{vs:List V}{i:Int}{t:T}(r:Reps K O H l vs)(e:L2.atI l i=some t):∃v,L2.atI vs i=some v/\Rep K O H t v:=by
 unfold L2.atI at e ⊢;rw[r.length]at e
 cases q:ixN vs.length i with
 | none=>rw[q]at e;cases e
 | some j=>
  rw[q]at e;obtain⟨v,e1,e2⟩:=r.get (i:=j) (t:=t) e;exact⟨v,e1,e2⟩
def aP (x y:T):Rs T:=match x.items,y with
 | some l,.int i=>match L2.atI l i with
  | some t=> .ok t
  | none=> .bad
 | _,_=> .bad
theorem q_ix (ha:cE X a fa)(hb:cE X b fb)(hs:wC b:=by intro _ _;rfl):cE X (.Subscript a b pos) (o2 aP fa fb):=by
 intro pins s σ H Q I ⟨Z,O,E,hq⟩
 have h1:=a6 E hq;refine Os (cp (ha pins s σ H _ I h1) λv s1 hh_=> ?_)
 obtain⟨x,H1,I1,r1,t,rt,s',E',q1⟩:=hh_
 have h2:=a6 (f:=fb) E' q1;refine cp (hb pins s1 σ H1 _ I1 h2) λu s2 hh_=> ?_
 obtain⟨y,H2,I2,r2,t2,rt2,s'',E'',q2⟩:=hh_
 have rt':=rt.same s'';unfold aP at q2
 split at q2
 ·rename_i l i hl
  split at q2
  ·rename_i z hz
   have hy:=Rep.AC.mp rt2;refine Ed a b pins s2 σ H2 x y v u Q I2 r1 r2 ?_ (hs _ _)
   cases t with
   | tup m=>
    cases hl;obtain⟨p,vs,e,n,q,rr⟩:=Rep.Fk.mp rt';obtain⟨w,ew,rw'⟩:=rr.atI hz
    exact .inr (.inl ⟨p,vs,i,w,e,hy,SqT.of q,ew,q2 H2 (Same.refl H2) _ rw'⟩)
   | lst m=>
    cases hl;obtain⟨p,vs,e,n,q,rr⟩:=Rep.Do.mp rt';obtain⟨w,ew,rw'⟩:=rr.atI hz
    exact .inl ⟨p,vs,i,w,e,hy,SqL.of q,ew,q2 H2 (Same.refl H2) _ rw'⟩
   | scr m=>
    cases hl;unfold Rep at rt';obtain⟨p,e,n,q⟩:=rt';obtain⟨w,ew,rw'⟩:=(Reps.ints (K:=X.K) (O:=O) (H:=H2) (ns:=m)).atI hz
    exact .inl ⟨p,_,i,w,e,hy,q,ew,q2 H2 (Same.refl H2) _ rw'⟩
   | _=>cases hl
  ·exact q2.elim
 ·exact q2.elim
def jF (l:List T)(lo hi:Option Int):List T:=(l.drop (HT.sIx l.length 0 lo)).take (HT.sIx l.length l.length hi - HT.sIx l.length 0 lo)
theorem Reps.cut {K:HX}{O:Ow}{H:Hp}{l:List T}{vs:List V}(r:Reps K O H l vs)(lo hi:Option Int):Reps K O H (jF l lo hi) (ud vs lo hi):=by
 unfold jF ud;rw[r.length];exact(r.drop _).take _
theorem xM {l:List T}{lo hi:Option Int}(h:HT.sIx l.length 0 lo=0/\HT.sIx l.length l.length hi=l.length):jF l lo hi=l:=by
 unfold jF;rw[h.1,h.2];simp
theorem sl_tup_whole:SlR X (λx lo hi H Q=> ∃a xs,x= .ref a/\SqT X.K H a xs/\(HT.sIx xs.length 0 lo=0/\HT.sIx xs.length xs.length hi=xs.length)/\Q (.ref a) H):=by
 intro pins s σ H x v vl vu lo hi sl Q I rx hs pl pu h;obtain⟨a,xs,rfl,hx,hw,q⟩:=h;cases rx;obtain⟨its,r,ht,hz⟩:=I.tuple hx
 have hlen:its.toArray.size=xs.length:=by rw[Iq];exact r.length.symm
 refine⟨"tuple",_,IH.lookup,ht.typeIs,?_⟩
 exact HT.getItem_tuple_whole ht hs pl pu (by rw[hlen];exact hw) ⟨.ref a,H,I,rfl,q⟩
def pN (_:En):Rs (Option Int):=.ok none
def pS (f:En->Rs T)(Z:En):Rs (Option Int):=do
 let x <-f Z
 match x with
 | .int i=> .ok (some i)
 | _=> .bad
def tPO (X:Cx)(f:En->Rs (Option Int)):TO:=λσ H Q=> ∃Z O,EnvO X.K O H Z σ/\Post X H (f Z) λb H'=>Q b H'
abbrev Gv (X:Cx)(e:Option Expr)(f:En->Rs (Option Int)):Prop:=PO X e (tPO X f)
theorem AV:Gv X none pN:=by
 intro pins s σ H Q I ⟨Z,O,E,hq⟩;exact Bf pins s σ H Q I (hq H (Same.refl H))
theorem AU (ha:cE X a fa):Gv X (some a) (pS fa):=by
 intro pins s σ H Q I ⟨Z,O,E,hq⟩;refine Be ha pins s σ H Q I ?_
 obtain⟨Z1,O1,E1,h1⟩:=a6 E hq;refine⟨Z1,O1,E1,Post.mono h1 λts H1 s1 q vs r=> ?_⟩
 obtain⟨t',r',s',E',q'⟩:=q vs r
 split at q'
 ·exact⟨_,Rep.AC.mp r',q' H1 (Same.refl H1)⟩
 ·exact q'.elim
def slT (x:T)(lo hi:Option Int):Rs T:=match x with
 | .tup l=> .ok (.tup (jF l lo hi))
 | .lst l=> .ok (.lst (jF l lo hi))
 | _=> .bad
def sl (fe:En->Rs T)(fl fu:En->Rs (Option Int))(Z:En):Rs T:=do
 let x <-fe Z
 let l <-fl Z
 let u <-fu Z
 slT x l u
theorem sk {σ:L2.St}{H:Hp}{Z:En}{O:Ow}{α:Type}{f:En->Rs (Option Int)}{k:Option Int->Rs α}{Q:α->Hp->Prop}(E:EnvO X.K O H Z σ)(h:Post X H (f Z >>= k) Q) :
  tPO X f σ H λb H'=>Same H H'/\EnvO X.K O H' Z σ/\Post X H' (k b) Q:=
 ⟨Z,O,E,Post.mono h.bind λt H' s q=>⟨s,E.same s,q⟩⟩
theorem A2 {lo hi:Option Expr}{p2:Pos}{fl fu:En->Rs (Option Int)}(ha:cE X a fa)(hl:Gv X lo fl)(hu:Gv X hi fu):cE X (.Subscript a (.Slice lo hi none p2) pos) (sl fa fl fu):=by
 intro pins s σ H Q I ⟨Z,O,E,hq⟩;refine yI (sl_tup.or (sl_tup_whole.or AH)) ha hl hu pins s σ H Q I ?_
 obtain⟨Z1,O1,E1,h1⟩:=a6 E hq;refine⟨Z1,O1,E1,Post.mono h1 λts H1 s1 q vs r=> ?_⟩
 obtain⟨t',r',s',E',q'⟩:=q vs r;obtain⟨Z2,O2,E2,h2⟩:=sk E' q';refine⟨Z2,O2,E2,Post.mono h2 λo1 H2 s2 q=> ?_⟩
 obtain⟨s2',E2',q2⟩:=q;obtain⟨Z3,O3,E3,h3⟩:=sk E2' q2;refine⟨Z3,O3,E3,Post.mono h3 λo2 H3 s3 q=> ?_⟩
 obtain⟨s3',E3',q3⟩:=q
 have rt:=(r'.same s2').same s3';unfold slT at q3
 split at q3
 ·rename_i l
  obtain⟨p,ws,e,n,q,rr⟩:=Rep.Fk.mp rt
  have hlen:=rr.length
  by_cases hw:HT.sIx ws.length 0 o1=0/\HT.sIx ws.length ws.length o2=ws.length
  ·refine .inr (.inl ⟨p,ws,e,SqT.of q,hw,?_⟩)
   rw[<-hlen]at hw;refine q3 H3 (Same.refl H3) _ ?_
   rw[xM hw];exact Rep.Fk.mpr ⟨p,ws,rfl,n,q,rr⟩
  ·exact .inl ⟨p,ws,e,SqT.of q,hw,λp' hp=>q3 _ (bc hp _) _ (fW hp (E3'.fresh hp) (rr.cut o1 o2))⟩
 ·rename_i l
  obtain⟨p,ws,e,n,q,rr⟩:=Rep.Do.mp rt;exact .inr (.inr ⟨p,ws,e,SqL.of q,λp' hp=>q3 _ (bc hp _) _ (gG hp (E3'.fresh hp) (rr.cut o1 o2))⟩)
 ·exact q3.elim
def wW:T->Rs T
 | .tup l=> .ok (.tup l.reverse)
 | .lst l=> .ok (.lst l.reverse)
 | _=> .bad
theorem Reps.reverse {K:HX}{O:Ow}{H:Hp}:∀{l:List T} {vs:List V},Reps K O H l vs->Reps K O H l.reverse vs.reverse
 | [],vs,r=>by rw[Reps.Da.mp r];exact Reps.GP
 | t::l,vs,r=>by
  obtain⟨v,us,rfl,p,q⟩:=Reps.me.mp r;rw[Lu,Lu];exact q.reverse.append (Reps.FS p Reps.GP)
theorem Fm {j:Nat}{p1 p2 p3:Pos}(ha:cE X a fa):cE X (.Subscript a (.Slice none none (some (.UnaryOp .USub (.Constant (.int 1) j p1) p2)) p3) pos) (o1 wW fa):=by
 intro pins s σ H Q I ⟨Z,O,E,hq⟩
 have h1:=a6 E hq;refine Os (cp (ha pins s σ H _ I h1) λv s1 hh_=> ?_)
 obtain⟨x,H1,I1,r1,t,rt,s',E',q1⟩:=hh_;refine wpAny_Slice ?_
 rw[Oa];refine Ik (Ik ?_)
 rw[evalPart_some];refine cp (Cn yc yK pins s1 σ H1 (λw' H'=>w'= .int (-1)/\H'=H1) I1 ⟨1,rfl,rfl,rfl⟩) λsv s2 hh_=> ?_
 obtain⟨w',H2,I2,r2,e1,e2⟩:=hh_;subst e1 e2;obtain⟨tk,rfl⟩:=r2
 have I4:Inv X pins σ H2 { s2 with heap:=s2.heap.push { cls:=.type "slice",data:=.fields #[.none,.none,.int (-1) tk] } }:=I2.kept (t':=s2.toks) λb ob q=>Ii _ q
 unfold wW at q1
 split at q1
 ·rename_i l
  obtain⟨p,ws,e,n,q,rr⟩:=Rep.Fk.mp rt;subst e;cases r1;obtain⟨its,r,ht,hz⟩:=I4.tuple (SqT.of q)
  have hs:Pd (s2.heap.push { cls:=.type "slice",data:=.fields #[.none,.none,.int (-1) tk] }) s2.heap.objs.size .none .none (.int (-1) tk):=Md ..;refine tail_any (ops:=[.ref p,.ref s2.heap.objs.size]) ht.typeIs IH.lookup ?_ (by with_unfolding_all rfl)
  refine HT.getItem_tuple_rev ht hs ?_ (by rw[<-r.length];exact hz)
  refine⟨.ref _,_,I4.laid (t':=s2.toks) (o:=.tup ws.reverse) (λb ob q=>Ii _ q) (Il _) ?_,rfl,?_⟩
  ·exact⟨by rw[LW];exact hz,_,r.reverse,NS _ _⟩
  ·have hn:=I4.hok.fresh (Il _)
   exact q1 _ (bc hn _) _ (fW hn (E'.fresh hn) rr.reverse)
 ·rename_i l
  obtain⟨p,ws,e,n,q,rr⟩:=Rep.Do.mp rt;subst e;cases r1;obtain⟨its,r,ht,hz⟩:=I4.list (SqL.of q)
  have hs:Pd (s2.heap.push { cls:=.type "slice",data:=.fields #[.none,.none,.int (-1) tk] }) s2.heap.objs.size .none .none (.int (-1) tk):=Md ..;refine tail_any (ops:=[.ref p,.ref s2.heap.objs.size]) ht.isList.typeIs slot_list_getitem.lookup ?_ (by with_unfolding_all rfl)
  refine MB ht.isList hs .none .none (.int (-1) tk) (by simp) ?_ (by rw[Iq,<-r.length];exact hz)
  rw[HT.slicePick_rev];refine⟨.ref _,_,I4.laid (t':=s2.toks) (o:=.lst ws.reverse) (λb ob q=>Ii _ q) (Il _) ?_,rfl,?_⟩
  ·exact⟨by rw[LW];exact hz,_,0,r.reverse,Iz _ rfl⟩
  ·have hn:=I4.hok.fresh (Il _)
   exact q1 _ (bc hn _) _ (gG hn (E'.fresh hn) rr.reverse)
 ·exact q1.elim
def CallT (X:Cx)(f:H0)(g:List T->Rs T):Prop:=
 ∀(pins:List (Addr×Obj)) (s:Ib) (σ:L2.St) (H:Hp) (O:Ow) (ts:List T) (vs:List V) (us:List H0) (Q:VK),Inv X pins σ H s->(∀p,H p=none->¬ O p)->Reps X.K O H ts vs->Vals vs us →
  Post X H (g ts) (λt H'=> ∀v,Rep X.K O H' t v->Q v H')->wpAny (model X.prog X.w) X.A (call f us) (EP X pins σ Q) X.xe s
theorem CallT.of {f:H0}{r:List V->Hp->VK->Prop}(h:CallR X f r){g:List T->Rs T}
  (w:∀(H:Hp) (O:Ow) (ts:List T) (vs:List V) (Q:VK),(∀p,H p=none->¬ O p)->Reps X.K O H ts vs->Post X H (g ts) (λt H'=> ∀v,Rep X.K O H' t v->Q v H')->r vs H Q):CallT X f g:=
 λpins s σ H O ts vs us Q I hf rs rv hp=>h pins s σ H vs us Q I rv (w H O ts vs Q hf rs hp)
def cl (g:List T->Rs T)(fs:En->Rs (List T))(Z:En):Rs T:=fs Z >>= g
variable {e:Expr}{es:List Expr}{fs:En->Rs (List T)}{x:Str}{p:Pos}{id:String}{g:List T->Rs T}
theorem A5 (hc:CallT X (.builtin id) g)(hm:X.mg x=none)(hv:IU x=some (.builtin id))(ha:qi X (e::es) fs)(hg:Gl X x:=by rfl)(hn:x≠ "__name__":=by decide)(hdb:iV x:=by decide)
  (he:IA (e::es) X.env=(false,eval e X.env)::IA es X.env:=by rfl) (hpl:(backTo pos (IA es X.env)).any (·.1)=false:=by rfl):cE X (.Call (.Name x p) (e::es) [] pos) (cl g fs):=by
 intro pins s σ H Q I ⟨Z,O,E,hq⟩;refine Jj (fF I hg hm hv ?_ hn hdb)
 have h1:=et E hq;exact Lz (cp (ha pos pins s σ H _ I h1) λus s1 ⟨vs,H1,I1,r1,ts,rs,s',E',q1⟩=>hc pins s1 σ H1 O ts vs us Q I1 (λp=>E'.fresh) rs r1 q1) he hpl
theorem yA {Ty:String}(hc:CallT X (.type Ty) g)(hm:X.mg x=none)(hv:IU x=some (.type Ty))(ha:qi X (e::es) fs)(hg:Gl X x:=by rfl)(hn:x≠ "__name__":=by decide)(hdb:iV x:=by decide)
  (he:IA (e::es) X.env=(false,eval e X.env)::IA es X.env:=by rfl) (hpl:(backTo pos (IA es X.env)).any (·.1)=false:=by rfl):cE X (.Call (.Name x p) (e::es) [] pos) (cl g fs):=by
 intro pins s σ H Q I ⟨Z,O,E,hq⟩;refine Jj (fF I hg hm hv ?_ hn hdb)
 have h1:=et E hq;exact IS (cp (ha pos pins s σ H _ I h1) λus s1 ⟨vs,H1,I1,r1,ts,rs,s',E',q1⟩=>hc pins s1 σ H1 O ts vs us Q I1 (λp=>E'.fresh) rs r1 q1) he hpl
theorem Reps.one {K:HX}{O:Ow}{H:Hp}{t:T}{vs:List V}(r:Reps K O H [t] vs):∃v,vs= [v]/\Rep K O H t v:=by
 obtain⟨v,ws,rfl,p,q⟩:=Reps.me.mp r;cases Reps.Da.mp q;exact⟨v,rfl,p⟩
theorem Rep.sq {K:HX}{O:Ow}{H:Hp}{t:T}{v:V}{l:List T}(r:Rep K O H t v)(h:t.items=some l):∃a vs,v= .ref a/\¬ O a/\Reps K O H l vs/\(SqL K H a vs\/SqT K H a vs):=by
 cases t with
 | tup m=>cases h;obtain⟨a,vs,e,n,q,z⟩:=Rep.Fk.mp r;exact⟨a,vs,e,n,z,.inr (SqT.of q)⟩
 | lst m=>cases h;obtain⟨a,vs,e,n,q,z⟩:=Rep.Do.mp r;exact⟨a,vs,e,n,z,.inl (SqL.of q)⟩
 | scr m=>cases h;unfold Rep at r;obtain⟨a,e,n,q⟩:=r;exact⟨a,_,e,n,Reps.ints,.inl q⟩
 | _=>cases h
def cQ:List T->Rs T
 | [.str x] =>if x.length<=sizeLine then .ok (.int x.length)else .bad
 | [x] =>match x.items with
  | some l=> .ok (.int l.length)
  | none=> .bad
 | _=> .bad
theorem cZ:CallT X (.builtin "len") cQ:=CallT.of (call_len_seq.or rS) λH O ts vs Q hf rs hp=>by
 unfold cQ at hp
 split at hp
 ·obtain⟨v,rfl,r⟩:=rs.one
  split at hp
  ·rename_i h
   exact .inr ⟨_,by rw[Rep.GR.mp r],h,hp H (Same.refl H) _ (Rep.GS _)⟩
  ·exact hp.elim
 ·obtain⟨v,rfl,r⟩:=rs.one
  split at hp
  ·rename_i l hl
   obtain⟨a,vs,rfl,n,z,q⟩:=r.sq hl;exact .inl ⟨a,vs,rfl,q,hp H (Same.refl H) _ (by rw[<-z.length];exact Rep.GS _)⟩
  ·exact hp.elim
 ·exact hp.elim
def fD:List T->Rs T
 | [.tup l] => .ok (.tup l)
 | [.lst l] => .ok (.tup l)
 | _=> .bad
theorem gM:CallT X (.type "tuple") fD:=CallT.of ph λH O ts vs Q hf rs hp=>by
 unfold fD at hp
 split at hp
 ·obtain⟨v,rfl,r⟩:=rs.one
  obtain⟨a,ws,rfl,n,q,z⟩:=Rep.Fk.mp r;exact⟨a,ws,rfl,.inr ⟨SqT.of q,hp H (Same.refl H) _ (Rep.Fk.mpr ⟨a,ws,rfl,n,q,z⟩)⟩⟩
 ·obtain⟨v,rfl,r⟩:=rs.one
  obtain⟨a,ws,rfl,n,q,z⟩:=Rep.Do.mp r;exact⟨a,ws,rfl,.inl ⟨SqL.of q,λl hl=>hp _ (bc hl _) _ (fW hl (hf l hl) z)⟩⟩
 ·exact hp.elim
def zB:List T->Rs T
 | [.int i] => .ok (.int i)
 | [.bl k] => .ok (.int (if k then 1 else 0))
 | _=> .bad
theorem Ew:CallT X (.type "int") zB:=CallT.of xO λH O ts vs Q hf rs hp=>by
 unfold zB at hp
 split at hp
 ·obtain⟨v,rfl,r⟩:=rs.one
  exact .inl ⟨_,by rw[Rep.AC.mp r],hp H (Same.refl H) _ (Rep.GS _)⟩
 ·obtain⟨v,rfl,r⟩:=rs.one
  exact .inr ⟨_,by rw[Rep.FB.mp r],hp H (Same.refl H) _ (Rep.GS _)⟩
 ·exact hp.elim
def oy:List T->Option (List Bool)
 | [] =>some []
 | .bl k::r=>(oy r).map (k:: ·)
 | _=>none
def pj:List T->Rs T
 | [.lst l] =>match oy l with
  | some ks=> .ok (.bl (ks.all λk=>k))
  | none=> .bad
 | _=> .bad
theorem ox {K:HX}{O:Ow}{H:Hp}:∀{l:List T} {ks:List Bool} {vs:List V} {us:List H0},oy l=some ks->Reps K O H l vs->Vals vs us->us=ks.map JB
 | [],ks,vs,us,e,r,v=>by cases e;cases Reps.Da.mp r;cases v;rfl
 | t::l,ks,vs,us,e,r,v=>by
  obtain⟨w,ws,rfl,p,q⟩:=Reps.me.mp r
  cases t with
  | bl k=>
   unfold oy at e
   cases z:oy l with
   | none=>rw[z]at e;cases e
   | some ks'=>
    rw[z]at e;cases e
    cases v with
    | cons v1 v2=>
     cases Rep.FB.mp p;cases v1
     rw[ox z q v2];rfl
  | _=>cases e
theorem rQ (hc:X.calm=true):CallT X (.builtin "all") pj:=by
 intro pins s σ H O ts vs us Q I hf rs rv hp;unfold pj at hp
 split at hp
 ·obtain⟨v,rfl,r⟩:=rs.one
  split at hp
  ·rename_i ks hk
   obtain⟨a,ws,rfl,n,q,z⟩:=Rep.Do.mp r;obtain⟨u,rfl,ru⟩:=mK rv;cases ru;obtain⟨its,r',pl,hz⟩:=I.list (SqL.of q)
   have hits:=ox hk z r';refine call_all_walk (Mz pl.isList ?_)
   have hne:a≠s.heap.objs.size:=λe=>by
    obtain⟨o,ho,_⟩:=pl.isList;rw[e]at ho;exact absurd (Im ho) (IG _)
   refine⟨s.heap.objs.size,_,_,_,_,_,λi=>(ks[i]?).getD true,rfl,Walks.list (A:=X.A.in1) (I.ok.hd hc) s.heap.objs.size a hne its.toArray,⟨⟨_,Iz _ rfl,rfl,rfl⟩,?_⟩,?_,?_⟩
   ·obtain⟨o,ho,hh⟩:=pl.isList
    exact⟨o,Ii _ ho,hh⟩
   ·intro i v s' Q' E' hP hQ'
    subst hits
    dsimp only at hQ'
    have hP':(ks.map JB)[i]? =some v:=by simpa using hP
    rw[IF]at hP'
    cases e:ks[i]? with
    | none=>rw[e]at hP';cases hP'
    | some k=>
     rw[e]at hP' hQ';cases hP';exact Jp hQ'
   ·intro h' tk hk'
    have hlen:its.toArray.size=ks.length:=by rw[hits];simp
    have e:((Iw its.toArray.size).all λi=>(ks[i]?).getD true)=(ks.all λk=>k):=by
     rw[hlen];rw[M6,IR,IR]
     constructor
     ·intro h x hx
      obtain⟨i,hi,rfl⟩:=Kr hx
      have:=h i (Ji.mpr hi)
      simpa [hi]using this
     ·intro h i hi
      have hi':=Ji.mp hi
      have:=h ks[i] (JK hi')
      simpa [hi']using this
    rw[e]
    have I1:Inv X pins σ H { s with heap:=s.heap.push { cls:=.type "list_iterator",data:=.fields #[.ref a,.int 0 0] } }:=I.kept (t':=s.toks) λb o e=>Ii _ e
    have I2:Inv X pins σ H { s with heap:=h',toks:=tk }:=by
     have:=I1.turned (h':=h') (t':=tk) (it:=s.heap.objs.size) (λb o hb e=>hk' b o (by simpa using hb) e) (I.hok.fresh (Il _))
      (Kf I.lt) (.inr I.sz) (λx c e z=> ?_) (λp hp z=> ?_)
     ·exact this
     ·obtain⟨v,q⟩:=I.cell x c e
      exact absurd (Iu q.lt (K8 z.symm)) (IG _)
     ·exact absurd (Iu (Im (I.pin p hp).1) (K8 z.symm)) (IG _)
    exact⟨.bl _,H,I2,rfl,hp H (Same.refl H) _ (Rep.bl_ _)⟩
  ·exact hp.elim
 ·exact hp.elim
end
def T.ty:T->Option String
 | .non=>some "NoneType"
 | .bl _=>some "bool"
 | .int _=>some "int"
 | .str _=>some "str"
 | .tup _=>some "tuple"
 | .lst _=>some "list"
 | .scr _=>none
 | .dct _ _=>none
def tX (i b t l s:Bool)(Ty:String):Option Bool:=match Ty with
 | "int" =>some i | "bool" =>some b | "tuple" =>some t | "list" =>some l | "str" =>some s
 | _=>none
def vX (n Ty:String):Option Bool:=match n with
 | "NoneType" =>tX false false false false false Ty
 | "bool" =>tX true true false false false Ty
 | "int" =>tX true false false false false Ty
 | "str" =>tX false false false false true Ty
 | "tuple" =>tX false false true false false Ty
 | "list" =>tX false false false true false Ty
 | _=>none
theorem xw (K:HX){n Ty:String}{b:Bool}(h:vX n Ty=some b):PySem.W.kitOne K (.type n) (.type Ty)=some b:=by
 unfold vX at h
 split at h <;> first | (cases h;done) | (unfold tX at h;split at h <;> first | (cases h;done) | (cases h;kernel_rfl))
def BK (Ty:String)(t:T):Rs T:=match t.ty with
 | some n=>match vX n Ty with
  | some b=> .ok (.bl b)
  | none=> .bad
 | none=> .bad
theorem Rep.HS {K:HX}{O:Ow}{H:Hp}{t:T}{v:V}{n:String}(r:Rep K O H t v)(h:t.ty=some n):lJ K H v (.type n):=by
 cases t with
 | non=>cases h;cases Rep.GV.mp r;exact .non
 | bl b=>cases h;cases Rep.FB.mp r;exact .bl b
 | int b=>cases h;cases Rep.AC.mp r;exact .int b
 | str b=>cases h;cases Rep.GR.mp r;exact .str b
 | tup l=>cases h;obtain⟨a,vs,rfl,_,q,_⟩:=Rep.Fk.mp r;exact .tup q
 | lst l=>cases h;obtain⟨a,vs,rfl,_,q,_⟩:=Rep.Do.mp r;exact .lst q
 | scr l=>cases h
 | dct _ _=>cases h
section
variable {X:Cx}{a b c e:Expr}{es:List Expr}{fa fb fc:En->Rs T}{fs:En->Rs (List T)}{pos p p2:Pos}{x:Str}
theorem mh:IU "isinstance" =some (.builtin "isinstance"):=by decide+kernel
theorem Fu {tn:Str}{Ty:String}(hm:X.mg "isinstance" =none)(hmt:X.mg tn=none)(hv:IU tn=some (.type Ty))(ha:cE X a fa)(hg:Gl X "isinstance":=by rfl)(hgt:Gl X tn:=by rfl)
  (hn:tn≠ "__name__":=by decide) (hd:iV tn:=by decide)
  (he:IA [a,.Name tn p2] X.env=(false,eval a X.env)::IA [.Name tn p2] X.env:=by rfl) (hpl:(backTo pos (IA [.Name tn p2] X.env)).any (·.1)=false:=by rfl)
  (hs:IA [.Name tn p2] X.env=(false,eval (.Name tn p2) X.env)::IA [] X.env:=by rfl) :
  cE X (.Call (.Name "isinstance" p) [a,.Name tn p2] [] pos) (o1 (BK Ty) fa):=by
 intro pins s σ H Q I ⟨Z,O,E,hq⟩;refine Jj (fF I hg hm mh ?_ (by decide) (by decide))
 have hA:PA X [a,.Name tn p2] (yf (tP X fa) (yf (tC (.ty Ty)) CQ)):=jm ha (jm (Bs (v:=.ty Ty) hgt hmt hv rfl hn hd) m6 hs) he;obtain⟨Z1,O1,E1,h1⟩:=a6 E hq;refine Lz (cp (hA pos pins s σ H (λvs H'=> ∃v t,vs= [v,.ty Ty]/\Rep X.K O H' t v/\Post X H' (BK Ty t) (λt H'=> ∀v,Rep X.K O H' t v->Q v H')) I ?_) λus s1 ⟨vs,H1,I1,r1,v,t,e1,rt,q⟩=> ?_) he hpl
 ·refine⟨Z1,O1,E1,Post.mono h1 λts H1 s1 q vs r=> ?_⟩
  obtain⟨t',r',s',E',q'⟩:=q vs r;exact⟨vs,t',rfl,r',q'⟩
 ·subst e1
  obtain⟨u,w',rfl,ru,rw'⟩:=EK r1;cases rw';unfold BK at q
  split at q
  ·rename_i n hn'
   split at q
   ·rename_i bb hb
    exact xv I1 ru (rt.HS hn') (xw _ hb) λtk=>⟨.bl bb,H1,I1.tok _,rfl,q H1 (Same.refl H1) _ (Rep.bl_ _)⟩
   ·exact q.elim
  ·exact q.elim
def spP (K:HX)(n:Nat)(g:List T->Rs T):Sp:=λvs H Q _=> ∃ts O,Reps K O H ts vs/\(∀a,O a->Mtb H a)/\ts.length=n ∧
 match g ts with
 | .ok t=> ∀v H',Same H H'->Rep K O H' t v->Q v H'
 | _=>False
def RzC (P:IJ)(w:JA)(mg:Str->Option H0)(outer:List Env)(H:Hp)(s:Ib)(c:Str)(ev:H0)(s':Ib):Prop:=
 ∃e T C H',ev= .ref e/\mg c=some (.ref C)/\s'.os=s.os/\MK s'.gens/\Un (rF outer) [] H H' s.heap s'.heap/\HOk P w H' s'.heap/\Same H H'/\H' e=none/\s.heap.get? e=none/\GO s'.heap C e (some T)/\H' T=none/\s.heap.get? T=none
def FnX (P:IJ)(w:JA)(K:HX)(mg:Str->Option H0)(base:Heap)(k:Nat)(f:Addr)(fd:JT)(ps:List Str)(n:Nat)(g:List T->Rs T):Prop:=
 ∀(A:Jl) (outer:List Env) (s:Ib) (H:Hp) (args:Args) (us:List H0) (vs:List V) (O:Ow) (ts:List T) (c:Str) (R:Result->Ib->Prop),Room k A->Aj P w K mg base A outer s H->Oo s fd args (ps.zip us)->Vals vs us →
  Reps K O H ts vs->(∀a,O a->Mtb H a)->ts.length=n->g ts= .err c->(∀ev s',RzC P w mg outer H s c ev s'->R (.error ev) s')->codeAny (model P w) A (.call (.ref f) args) R s
structure CH (P:IJ)(w:JA)(K:HX)(mg:Str->Option H0)(base:Heap)(k:Nat)(f:Addr)(fd:JT)(ps:List Str)(n:Nat)(g:List T->Rs T):Prop where
 h:pk P w K mg base CX0 k f fd ps (spP K n g)
 x:FnX P w K mg base k f fd ps n g
theorem yV {P:IJ}{w:JA}{H:Hp}{h:Heap}{a:Addr}{o:HO}(x:ObjOk P w H h a o):∃u,h.get? a=some u:=by
 cases o with
 | lst xs=>obtain⟨_,_,_,_,e⟩:=x;exact⟨_,e⟩
 | tup xs=>obtain⟨_,_,_,ob,e,_⟩:=x;exact⟨_,e⟩
 | dK kvs=>obtain⟨_,_,_,_,o,_,_,e,_⟩:=x;exact⟨_,e⟩
 | dT kvs=>obtain⟨_,_,_,_,o,_,_,e,_⟩:=x;exact⟨_,e⟩
 | set S n=>obtain⟨o,_,_,_,e,_⟩:=x;exact⟨_,e⟩
 | ins C dx fs=>obtain⟨_,_,_,e,_⟩:=x;exact⟨_,e⟩
 | own y=>obtain⟨_,e⟩:=x;exact⟨_,e⟩
 | xd fs=>obtain⟨_,⟨_,_,_,e,_⟩,_⟩:=x;exact⟨_,e⟩
 | rng lo hi=>obtain⟨_,_,_,e⟩:=x;exact⟨_,e⟩
 | frz ob u=>obtain⟨e,_⟩:=x;exact⟨_,e⟩
 | tbl ps=>exact⟨_,(show h.get? a=some _ from x)⟩
 | met f y=>exact⟨_,(show h.get? a=some _ from x)⟩
 | ext φ=>obtain⟨_,⟨_,e⟩,_⟩:=x;exact⟨_,e⟩
theorem tp {X:Cx}{pins:List (Addr×Obj)}{σ:L2.St}{H:Hp}{s:Ib}(I:Inv X pins σ H s){e:Addr}(n:s.heap.get? e=none):H e=none:=by
 cases z:H e with
 | none=>rfl
 | some o=>
  obtain⟨o',ho'⟩:=yV (I.hok e o z);rw[n]at ho';cases ho'
theorem qY {X:Cx}{pins:List (Addr×Obj)}{σ:L2.St}{H:Hp}{s:Ib}(I:Inv X pins σ H s)(hex:X.ex= []){e:Addr}(n:s.heap.get? e=none):X.s₀.heap.get? e=none:=by
 cases z:X.s₀.heap.get? e with
 | none=>rfl
 | some o=>
  obtain⟨o',ho'⟩:=I.base.there e o z (by rw[hex];simp)
  rw[n]at ho';cases ho'
theorem Dp {n k:Nat}{f:Addr}{fd:JT}{ps:List Str}{g:List T->Rs T}(F:CH X.prog X.w X.K X.mg X.base k f fd ps n g)(hr:Room k X.A)(hm:X.mg x=some (.ref f))(hk:Kx X.K (.ref f)=true)(hb:Binds X.K fd ps [])(hps:ps.length=n)
  (hl:∀Z ts,fs Z= .ok ts->ts.length=n) (ha:qi X (e::es) fs) (hg:Gl X x:=by rfl) (hdb:iV x:=by decide) (he:IA (e::es) X.env=(false,eval e X.env)::IA es X.env:=by rfl) (hpl:(backTo pos (IA es X.env)).any (·.1)=false:=by rfl) :
  cE X (.Call (.Name x p) (e::es) [] pos) (cl g fs):=by
 intro pins s σ H Q I ⟨Z,O,E,hq⟩
 have hq':Post X H (fs Z >>= g) λt H'=> ∀v,Rep X.K O H' t v->Q v H':=hq
 cases q:fs Z with
 | bad=>rw[q]at hq';exact hq'.elim
 | err c=>
  rw[q]at hq';refine vD (E:=E0) F.h hr hg hm hk hb .nil yP ha hdb he hpl pins s σ H Q I ⟨Z,O,E,?_⟩
  rw[q]
  exact hq'
 | ok ts=>
  rw[q]at hq'
  have hq2:Post X H (g ts) λt H'=> ∀v,Rep X.K O H' t v->Q v H':=hq'
  cases q2:g ts with
  | bad=>rw[q2]at hq2;exact hq2.elim
  | ok t=>
   rw[q2]at hq2;refine vD (E:=E0) F.h hr hg hm hk hb .nil yP ha hdb he hpl pins s σ H Q I ⟨Z,O,E,?_⟩
   rw[q];intro H1 s1 vs rs;rw[JE];refine⟨ts,O,rs,(E.same s1).mtb,hl Z ts q,?_⟩
   rw[q2]
   exact λv H' s2 r=>hq2 H' (s1.trans s2) v r
  | err c=>
   rw[q2]at hq2;refine Jj (kQ I hg hm ?_ hdb)
   refine NO (h₀:=X.base) I.ok.mod.kin hk (cp (ha pos pins s σ H (λvs H'=>Same H H'/\Reps X.K O H' ts vs) I ⟨Z,O,E,?_⟩) (λus s1 ⟨vs,H1,I1,r,sm,rs⟩=>⟨I1.kIn,?_⟩)) he hpl
   ·rw[q];exact λH' sm vs rs=>⟨sm,rs⟩
   ·have hlen:us.length=ps.length:=by rw[<-r.length,<-rs.length,hl Z ts q,hps]
    have hb':=hb s1 us I1.kIn (by rw[JE];exact hlen)
    rw[JE]at hb';refine wpAny_call (Ni (F.x X.A X.stack s1 H1 ⟨us,[]⟩ us vs O ts c (λr s'=>match r with | .error ev=>X.xe ev s' | _=>False) hr I1.HP hb' r rs (E.same sm).mtb (hl Z ts q) q2 λev s' w=> ?_) λr s' hq=> ?_)
    ·obtain⟨ea,T,C,H',rfl,hmc,ho,hbare,hun,hok,sm2,hea,heo,fl,hT,hTo⟩:=w
     have I2:Inv X pins σ H' s':=I1.Hw ho hun hok hbare (λb z=>absurd z (by simp))
     exact hq2 pins _ _ ⟨ea,some T,C,σ,H',rfl,hmc,I2,λb o q _=>sm2 b o (sm b o q),hea,λhex=>qY I1 hex heo,fl,(λt zt=>by cases zt;exact⟨hT,λhex=>qY I1 hex hTo⟩),λpp hpp=>⟨λzz=>(by have:=(I1.pin pp hpp).1;rw[zz,heo]at this;cases this),λzz=>(by cases zz;have:=(I1.pin pp hpp).1;rw[hTo]at this;cases this)⟩⟩
    ·cases r with
     | error ev=>exact hq
     | ok fl=>exact hq.elim
def Cg (X:Cx)(g:T->En->Rs En):TG:=λv σ H Q=> ∃Z O M t,EnvM X.K O M H Z σ/\Rep X.K O H t v/\match g t Z with
 | .ok Z'=> ∀σ',EnvM X.K O M H Z' σ'->Q σ' H
 | _=>False
abbrev CG (X:Cx)(tg:Expr)(g:T->En->Rs En):Prop:=PG X tg (Cg X g)
def tPGs (X:Cx)(g:List T->En->Rs En):B9:=λvs σ H Q=> ∃Z O M ts,EnvM X.K O M H Z σ/\Reps X.K O H ts vs/\match g ts Z with
 | .ok Z'=> ∀σ',EnvM X.K O M H Z' σ'->Q σ' H
 | _=>False
abbrev Ah (X:Cx)(tg:List Expr)(g:List T->En->Rs En):Prop:=PGs X tg (tPGs X g)
theorem PG.imp {X:Cx}{e:Expr}{t t':TG}(h:PG X e t)(w:∀v σ H Q,t' v σ H Q->t v σ H Q):PG X e t':=λpins s σ H v u Q I r q=>h pins s σ H v u Q I r (w v σ H Q q)
theorem PGs.imp {X:Cx}{e:List Expr}{t t':B9}(h:PGs X e t)(w:∀v σ H Q,t' v σ H Q->t v σ H Q):PGs X e t':=λpins s σ H v u Q I r q=>h pins s σ H v u Q I r (w v σ H Q q)
def gN (i:Nat)(t:T)(Z:En):Rs En:=if i<Z.length then .ok (Z.set i (.va t))else .bad
theorem EnvM.set {K:HX}{O:Ow}{M:Mn}{H:Hp}{Z:En}{σ:L2.St}{i:Nat}{t:T}{v:V}(E:EnvM K O M H Z σ)(hi:i<Z.length)(r:Rep K O H t v):EnvM K O M H (Z.set i (.va t)) (σ.set i (some v)) where
 len:=by rw[JF,JF];exact E.len
 val:=λj u e=>by
  by_cases hj:i=j
  ·subst hj
   rw[IP hi]at e
   cases e;exact⟨v,IP (by rw[<-E.len];exact hi),r⟩
  ·rw[IL hj]at e
   obtain⟨w,e1,e2⟩:=E.val j u e;exact⟨w,by rw[IL hj];exact e1,e2⟩
 own:=λj o e=>by
  by_cases hj:i=j
  ·subst hj
   rw[IP hi]at e
   cases e
  ·rw[IL hj]at e
   obtain⟨w,e1,e2⟩:=E.own j o e;exact⟨w,by rw[IL hj];exact e1,e2⟩
 sub:=E.sub
 dis:=E.dis
 trk:=E.trk
theorem A0 (i:Nat)(hN:X.N.Nodup)(hi:X.N[i]? =some x:=by rfl)(hx:Loc X.env.scope x:=by first | exact KB rfl | exact J9 rfl)(hf:X.fn x=true\/X.env.scope.names.lookup x=some .local:=by first | exact .inl rfl | exact .inr rfl | assumption):CG X (.Name x pos) (gN i):=
 PG.imp (Bo hN hi hx hf) λv σ H Q hh_=>by
  obtain⟨Z,O,M,t,E,r,h⟩:=hh_;unfold gN at h
  split at h
  ·rename_i Z' e
   split at e
   ·rename_i hl
    cases e;exact h _ (E.set hl r)
   ·cases e
  ·exact h.elim
def vZ (ts:List T)(Z:En):Rs En:=match ts with
 | [] => .ok Z
 | _=> .bad
def lC (g:T->En->Rs En)(gs:List T->En->Rs En)(ts:List T)(Z:En):Rs En:=match ts with
 | t::r=>do
  let Z1 <-g t Z
  gs r Z1
 | [] => .bad
theorem AZ:Ah X [] vZ:=PGs.imp Bm λvs σ H Q hh_=>by
 obtain⟨Z,O,M,ts,E,r,h⟩:=hh_;unfold vZ at h
 cases ts with
 | nil=>exact⟨Reps.Da.mp r,h σ E⟩
 | cons _ _=>exact h.elim
theorem yx {g:T->En->Rs En}{gs:List T->En->Rs En}(h1:CG X e g)(h2:Ah X es gs)
  (hs:(JS (e::es) X.env).map (·.2)=assign e X.env::(JS es X.env).map (·.2):=by rfl):Ah X (e::es) (lC g gs):=
 PGs.imp (yH h1 h2 hs) λvs σ H Q hh_=>by
  obtain⟨Z,O,M,ts,E,r,h⟩:=hh_
  cases ts with
  | nil=>exact h.elim
  | cons t ts=>
   obtain⟨v,ws,rfl,p,q⟩:=Reps.me.mp r;refine⟨v,ws,rfl,Z,O,M,t,E,p,?_⟩
   unfold lC at h
   cases e1:g t Z with
   | bad=>simp[e1]at h
   | err c=>simp[e1]at h
   | ok Z1=>
    intro σ1 E1;refine⟨Z1,O,M,ts,E1,q,?_⟩
    simp only[e1,aI]at h
    cases e2:gs ts Z1 with
    | bad=>simp[e2]at h
    | err c=>simp[e2]at h
    | ok Z2=>
     simp only[e2]at h;exact λσ2 E2=>h σ2 E2
def gT (n:Nat)(gs:List T->En->Rs En)(t:T)(Z:En):Rs En:=match t with
 | .tup l=>if l.length=n then gs l Z else .bad
 | _=> .bad
theorem Dk {k n:Nat}{gs:List T->En->Rs En}(hc:X.calm=true)(h:Ah X es gs)(hn:(JS es X.env).length=n:=by rfl)(hst:(JS es X.env).findIdx? (·.1)=none:=by rfl):CG X (.Tuple es k pos) (gT n gs):=
 PG.imp (Dz hc h hn hst) λv σ H Q hh_=>by
  obtain⟨Z,O,M,t,E,r,h⟩:=hh_;unfold gT at h
  cases t with
  | tup l=>
   obtain⟨a,vs,rfl,n',q,z⟩:=Rep.Fk.mp r
   by_cases hl:l.length=n
   ·simp only[if_pos hl]at h
    exact⟨a,vs,rfl,SqT.of q,by rw[<-z.length];exact hl,Z,O,M,l,E,z,h⟩
   ·simp only[if_neg hl]at h
  | _=>exact h.elim
theorem SqL.nn {K:HX}{H:Hp}{a:Addr}{vs:List V}(q:SqL K H a vs):¬ Nw K H a:=λ⟨h1,h2⟩=>by
 rcases q with(q | ⟨o,q⟩) | ⟨o,_,_,q,_⟩
 ·rw[h1]at q;cases q
 ·rw[h1]at q;cases q
 ·rw[h2]at q;cases q
mutual
theorem Rep.more {K:HX}{O O':Ow}{H:Hp}(sub:∀a,O' a->O a\/Nw K H a):∀{t:T} {v:V},Rep K O H t v->Rep K O' H t v
 | .non,_,r=>by unfold Rep at r ⊢;exact r
 | .bl _,_,r=>by unfold Rep at r ⊢;exact r
 | .int _,_,r=>by unfold Rep at r ⊢;exact r
 | .str _,_,r=>by unfold Rep at r ⊢;exact r
 | .tup l,_,r=>by
  unfold Rep at r ⊢;obtain⟨a,vs,e,n,q,z⟩:=r
  exact⟨a,vs,e,λp=>(sub a p).elim n λw=>(by rw[w.1]at q;cases q),q,Reps.more sub z⟩
 | .lst l,_,r=>by
  unfold Rep at r ⊢;obtain⟨a,vs,e,n,q,z⟩:=r
  exact⟨a,vs,e,λp=>(sub a p).elim n λw=>(by rw[w.1]at q;cases q),q,Reps.more sub z⟩
 | .scr l,_,r=>by
  unfold Rep at r ⊢;obtain⟨a,e,n,q⟩:=r
  exact⟨a,e,λp=>(sub a p).elim n λw=>Tr.SqL.nn q w,q⟩
 | .dct ks ts,_,r=>by
  unfold Rep at r ⊢;obtain⟨a,kvs,e,n,q,k,z⟩:=r;exact⟨a,kvs,e,λp=>(sub a p).elim n λw=>(by rcases q with q | ⟨_,q⟩ <;> rw[w.1]at q <;> cases q),q,k,Reps.more sub z⟩
theorem Reps.more {K:HX}{O O':Ow}{H:Hp}(sub:∀a,O' a->O a\/Nw K H a):∀{l:List T} {vs:List V},Reps K O H l vs->Reps K O' H l vs
 | [],_,r=>by unfold Reps at r ⊢;exact r
 | t::l,_,r=>by
  unfold Reps at r ⊢;obtain⟨v,ws,e,p,q⟩:=r;exact⟨v,ws,e,Rep.more sub p,Reps.more sub q⟩
end
theorem Rep.move {K:HX}{O O' P:Ow}{H H':Hp}{t:T}{v:V}(hP:∀a,P a->O a\/Nw K H a)(hO:∀a,O' a->O a\/Nw K H a)(h:SameO P H H')(r:Rep K O H t v):Rep K O' H' t v:=
 Rep.less (O:=λa=>O' a\/P a) (λ_ z=> .inl z) (Rep.keep h (λ_ z=> .inr z) (Rep.more (λa z=>z.elim (hO a) (hP a)) r))
theorem Reps.move {K:HX}{O O' P:Ow}{H H':Hp}{t:List T}{v:List V}(hP:∀a,P a->O a\/Nw K H a)(hO:∀a,O' a->O a\/Nw K H a)(h:SameO P H H')(r:Reps K O H t v):Reps K O' H' t v:=
 Reps.less (O:=λa=>O' a\/P a) (λ_ z=> .inl z) (Reps.keep h (λ_ z=> .inr z) (Reps.more (λa z=>z.elim (hO a) (hP a)) r))
def ItT (K:HX)(O:Ow)(H:Hp)(ts:List T)(J:It):Prop:=∀(P O':Ow),(∀a,P a->O a\/Nw K H a)->(∀a,O' a->O a\/Nw K H a)->∀(i:Nat) (Hc:Hp),SameO P H Hc->(∀a,O' a->∃o,Hc a=some o) →
 (ts.length<=i->J.stop i Hc)/\(∀t,ts[i]? =some t->J.go i Hc/\∀x Hc',J.yld i Hc x Hc'->Same Hc Hc'/\Rep K O' Hc' t x)
def tPI (X:Cx)(f:En->Rs (List T)):TI:=λσ H R=> ∃Z O,EnvO X.K O H Z σ/\Post X H (f Z) λts H'=> ∀J,ItT X.K O H' ts J->R J H'
abbrev Ap (X:Cx)(tg iter:Expr)(f:En->Rs (List T)):Prop:=PI X tg iter (tPI X f)
theorem PI.imp {tg iter:Expr}{t t':TI}(h:PI X tg iter t)(w:∀σ H R,t' σ H R->t σ H R):PI X tg iter t':=λpins s σ H R I q=>h pins s σ H R I (w σ H R q)
def iL (f:En->Rs T)(Z:En):Rs (List T):=do
 let x <-f Z
 match x with
 | .lst l=> .ok l
 | _=> .bad
def iT (f:En->Rs T)(Z:En):Rs (List T):=do
 let x <-f Z
 match x with
 | .tup l=> .ok l
 | _=> .bad
theorem vA {tg:Expr}(ha:cE X a fa):Ap X tg a (iL fa):=PI.imp (Bj ha) λσ H R hh_=>by
 obtain⟨Z,O,E,h⟩:=hh_;obtain⟨Z1,O1,E1,h1⟩:=a6 E h;refine⟨Z1,O1,E1,Post.mono h1 λts H1 s1 q vs r=> ?_⟩
 obtain⟨t',r',s',E',q'⟩:=q vs r
 split at q'
 ·rename_i l
  obtain⟨a,ws,rfl,n,q,z⟩:=Rep.Do.mp r';refine⟨a,rfl,⟨ws,SqL.of q⟩,q' H1 (Same.refl H1) _ λP O' hP hO i Hc hs ht=> ?_⟩
  have hnP:¬ P a:=λz=>(hP a z).elim n λw=>by rw[w.1]at q;cases q
  refine⟨λhi=>⟨ws,SqL.of (hs _ _ q hnP),by rw[<-z.length];exact hi⟩,λt ht'=> ?_⟩
  obtain⟨v,e1,e2⟩:=z.get ht';refine⟨⟨ws,v,SqL.of (hs _ _ q hnP),e1⟩,λx Hc' y=> ?_⟩
  obtain⟨e,y⟩:=y;subst e
  have:=y ws (SqL.of (hs _ _ q hnP));rw[e1]at this;cases this;exact⟨Same.refl _,e2.move hP hO hs⟩
 ·exact q'.elim
theorem Di {tg:Expr}(ha:cE X a fa):Ap X tg a (iT fa):=PI.imp (Dy ha) λσ H R hh_=>by
 obtain⟨Z,O,E,h⟩:=hh_;obtain⟨Z1,O1,E1,h1⟩:=a6 E h;refine⟨Z1,O1,E1,Post.mono h1 λts H1 s1 q vs r=> ?_⟩
 obtain⟨t',r',s',E',q'⟩:=q vs r
 split at q'
 ·rename_i l
  obtain⟨a,ws,rfl,n,q,z⟩:=Rep.Fk.mp r';refine⟨a,rfl,⟨ws,SqT.of q⟩,q' H1 (Same.refl H1) _ λP O' hP hO i Hc hs ht=> ?_⟩
  have hnP:¬ P a:=λz=>(hP a z).elim n λw=>by rw[w.1]at q;cases q
  refine⟨λhi=>⟨ws,SqT.of (hs _ _ q hnP),by rw[<-z.length];exact hi⟩,λt ht'=> ?_⟩
  obtain⟨v,e1,e2⟩:=z.get ht';refine⟨⟨ws,v,SqT.of (hs _ _ q hnP),e1⟩,λx Hc' y=> ?_⟩
  obtain⟨e,y⟩:=y;subst e
  have:=y ws (SqT.of (hs _ _ q hnP));rw[e1]at this;cases this;exact⟨Same.refl _,e2.move hP hO hs⟩
 ·exact q'.elim
def rng (lo hi:Int):List T:=(Iw (hi - lo).toNat).map λ(k:Nat)=>T.int (lo+(k:Int))
def mz (i:Int):Bool:=decide (-(2 ^ 62)<=i)&&decide (i<2 ^ 62)
def iR (f:En->Rs (List T))(Z:En):Rs (List T):=do
 let x <-f Z
 match x with
 | [.int j] =>if mz j then .ok (rng 0 j)else .bad
 | [.int i,.int j] =>if mz i&&mz j then .ok (rng i j)else .bad
 | _=> .bad
theorem gh {i:Int}(h:mz i=true) : -(2 ^ 62)<=i/\i<2 ^ 62:=by
 unfold mz at h;rw[HZ]at h;exact⟨of_decide_eq_true h.1,of_decide_eq_true h.2⟩
theorem vW {K:HX}{O:Ow}{H:Hp}(lo hi:Int):ItT K O H (rng lo hi) (Itr lo (hi - lo).toNat):=λP O' hP hO i Hc hs ht=>by
 refine⟨λh=> ?_,λt h=> ?_⟩
 ·show(hi - lo).toNat<=i
  unfold rng at h;rw[Ig,Jx]at h;exact h
 ·unfold rng at h
  rw[IF]at h
  by_cases hi':i<(hi - lo).toNat
  ·rw[K6 hi']at h
   cases h;refine⟨hi',λx Hc' y=> ?_⟩
   obtain⟨e,y⟩:=y;subst e y;exact⟨Same.refl _,Rep.GS _⟩
  ·rw[Jt (by simpa using hi')]at h
   cases h
theorem wZ {tg:Expr}(hm:X.mg "range" =none)(ha:qi X [a] fs)(hg:Gl X "range":=by rfl)(hs:IA [a] X.env= [(false,eval a X.env)]:=by rfl):Ap X tg (.Call (.Name "range" p) [a] [] pos) (iR fs):=by
 intro pins s σ H R I ⟨Z,O,E,h⟩
 have h1:=et E h;refine Call_ (fF I hg hm boot_range (IS (cp (ha pos pins s σ H _ I h1) λus s1 ⟨vs,H1,I1,r1,ts,rs,s',E',q1⟩=> ?_) hs rfl))
 split at q1
 ·obtain⟨v,rfl,r⟩:=rs.one
  split at q1
  ·rename_i j hj
   obtain⟨b1,b2⟩:=gh hj;cases Rep.AC.mp r
   cases r1 with
   | cons r rr=>
    cases rr;obtain⟨t,rfl⟩:=r;exact call_range_1 (sQ I1 (by omega) (by omega) b1 b2 (q1 H1 (Same.refl H1) _ (vW 0 j)))
  ·exact q1.elim
 ·obtain⟨v,ws,rfl,p1,q⟩:=Reps.me.mp rs
  obtain⟨v2,rfl,r⟩:=q.one
  split at q1
  ·rename_i i j hj
   rw[HZ]at hj;obtain⟨b1,b2⟩:=gh hj.1;obtain⟨b3,b4⟩:=gh hj.2;cases Rep.AC.mp p1;cases Rep.AC.mp r
   cases r1 with
   | cons r rr=>
    cases rr with
    | cons r' rr=>
     cases rr;obtain⟨t,rfl⟩:=r;obtain⟨t',rfl⟩:=r';exact call_range_2 (sQ I1 b1 b2 b3 b4 (q1 H1 (Same.refl H1) _ (vW i j)))
  ·exact q1.elim
 ·exact q1.elim
end
section
variable {X:Cx}{a b c e:Expr}{es:List Expr}{fa fb fc:En->Rs T}{fs:En->Rs (List T)}{pos p p2:Pos}{x:Str}
def cj (src:List (Option Nat))(Z:En):En:=src.map λo=>match o with
 | some i=>match Z[i]? with
  | some (.va t)=> .va t
  | _=> .em
 | none=> .em
def dg (tgt:T->En->Rs En)(fc:En->Rs Bool)(fe:En->Rs T):List T->En->Rs (List T)
 | [],_=> .ok []
 | t::r,Z=>do
  let Z1 <-tgt t Z
  let k <-fc Z1
  if k then do
   let y <-fe Z1
   let ys <-dg tgt fc fe r Z1
   .ok (y::ys)
  else dg tgt fc fe r Z1
def fA (fi:En->Rs (List T))(src:List (Option Nat))(tgt:T->En->Rs En)(fc:En->Rs Bool)(fe:En->Rs T)(Z:En):Rs T:=do
 let ts <-fi Z
 if ts.length<=sizeLine then match dg tgt fc fe ts (cj src Z)with
  | .ok ys=> .ok (.lst ys)
  | _=> .bad
 else .bad
def bT (_:En):Rs Bool:=.ok true
def tP0 (K:HX)(f:En->Rs T):TE:=λσ H Q=> ∃Z O,EnvO K O H Z σ/\match f Z with
 | .ok t=> ∀H',Same H H'->∀v,Rep K O H' t v->Q v H'
 | _=>False
def tPT0 (K:HX)(f:En->Rs Bool):TT:=λσ H Q=> ∃Z O,EnvO K O H Z σ/\match f Z with
 | .ok t=> ∀H',Same H H'->Q t H'
 | _=>False
theorem tP0.up {f:En->Rs T}{σ:L2.St}{H:Hp}{Q:VK}(h:tP0 X.K f σ H Q):tP X f σ H Q:=by
 obtain⟨Z,O,E,h⟩:=h;refine⟨Z,O,E,?_⟩
 cases q:f Z with
 | ok t=>rw[q]at h;exact h
 | err c=>rw[q]at h;exact h.elim
 | bad=>rw[q]at h;exact h.elim
theorem tPT0.up {f:En->Rs Bool}{σ:L2.St}{H:Hp}{Q:Bool->Hp->Prop}(h:tPT0 X.K f σ H Q):ye X f σ H Q:=by
 obtain⟨Z,O,E,h⟩:=h;refine⟨Z,O,E,?_⟩
 cases q:f Z with
 | ok t=>rw[q]at h;exact h
 | err c=>rw[q]at h;exact h.elim
 | bad=>rw[q]at h;exact h.elim
theorem AX:xY X [] (ye X bT):=λpins s σ H Q I ⟨Z,O,E,h⟩=>Bh pins s σ H Q I (h H (Same.refl H))
theorem AW {f:En->Rs Bool}(h:ug X c f):xY X [c] (ye X f):=Bg h
abbrev noM:Mn:=λ_ _=>False
theorem xq {src:List (Option Nat)}{Z:En}{j:Nat}{o:OT}(e:(cj src Z)[j]? =some (.ow o)):False:=by
 unfold cj at e;rw[IF]at e
 cases q:src[j]? with
 | none=>rw[q]at e;cases e
 | some o'=>
  rw[q]at e
  cases o' with
  | none=>cases e
  | some i=>
   have e':(match Z[i]? with | some (Sl.va t)=>Sl.va t | _=>Sl.em)=Sl.ow o:=IX e
   split at e' <;> cases e'
theorem zj {K:HX}{O:Ow}{H:Hp}{Z:En}{σ:L2.St}(E:EnvO K O H Z σ)(src:List (Option Nat)):EnvM K O noM H (cj src Z) (fN src σ) where
 len:=by unfold cj fN;rw[Ig,Ig]
 val:=λj t e=>by
  unfold cj at e;unfold fN;rw[IF]at e ⊢
  cases q:src[j]? with
  | none=>rw[q]at e;cases e
  | some o=>
   rw[q]at e
   cases o with
   | none=>cases e
   | some i=>
    have e':(match Z[i]? with | some (Sl.va t)=>Sl.va t | _=>Sl.em)=Sl.va t:=IX e
    cases q2:Z[i]? with
    | none=>rw[q2]at e';cases e'
    | some z=>
     rw[q2]at e'
     cases z with
     | em=>cases e'
     | ow l=>cases e'
     | va t'=>
      cases e';obtain⟨v,e1,e2⟩:=E.val i _ q2;exact⟨v,by simp[e1],e2⟩
 own:=λj o e=>(xq e).elim
 sub:=λ_ _ z=>z.elim
 dis:=λ_ _ _ z=>z.elim
 trk:=E.mtb
theorem ORep.no {K:HX}{O:Ow}{H:Hp}{o:OT}{v:V}(r:ORep K O xg H o v):False:=by
 cases o with
 | lst l=>obtain⟨a,_,_,e,_⟩:=r;exact(e a).mpr rfl
 | dct ks ts=>obtain⟨a,_,_,e,_⟩:=r;exact(e a).mpr rfl
 | dd ks rows=>obtain⟨a,_,_,_,e,_⟩:=r;exact(e a).mpr (.inl rfl)
theorem EnvM.move {K:HX}{O O' P:Ow}{H H':Hp}{Z:En}{σ:L2.St}(E:EnvM K O noM H Z σ)(hP:∀a,P a->O a\/Nw K H a)(hO:∀a,O' a->O a\/Nw K H a)(h:SameO P H H')(trk:∀a,O' a->Mtb H' a):EnvM K O' noM H' Z σ where
 len:=E.len
 val:=λi t e=>let ⟨v,e1,e2⟩:=E.val i t e;⟨v,e1,e2.move hP hO h⟩
 own:=λi o e=>let ⟨_,_,r⟩:=E.own i o e;r.no.elim
 sub:=λ_ _ z=>z.elim
 dis:=λ_ _ _ z=>z.elim
 trk:=trk
def EG (fi:En->Rs (List T))(src:List (Option Nat))(tgt:T->En->Rs En)(fc:En->Rs Bool)(fe:En->Rs T)(Z:En):Rs (List T):=fi Z >>= λts=>if ts.length<=sizeLine then(match dg tgt fc fe ts (cj src Z)with | .ok ys=>Rs.ok ys | _=> .bad)else .bad
theorem zi {src:List (Option Nat)}{fi:En->Rs (List T)}{tgt:T->En->Rs En}{fc:En->Rs Bool}{fe:En->Rs T}{Z:En}:fA fi src tgt fc fe Z=EG fi src tgt fc fe Z >>= λl=> .ok (.lst l):=by
 unfold fA EG
 cases fi Z with
 | bad=>rfl
 | err c=>rfl
 | ok ts=>
  rw[aI,aI]
  by_cases hz:ts.length<=sizeLine
  ·rw[if_pos hz,if_pos hz]
   cases dg tgt fc fe ts (cj src Z) <;> rfl
  ·rw[if_neg hz,if_neg hz];rfl
theorem zh {src:List (Option Nat)}{fi:En->Rs (List T)}{tgt:T->En->Rs En}{fc:En->Rs Bool}{fe:En->Rs T}{σ:L2.St}{H:Hp}{Q:VK}{Z:En}{O:Ow}(E:EnvO X.K O H Z σ)
  (hq1:Post X H (EG fi src tgt fc fe Z) λall H1=> ∀D ys H',Nw X.K H1 D->Same H1 H'->H' D=some (.lst ys)->Reps X.K (λa=>O a\/a=D) H' all ys->Q (.ref D) H'):ET X.K (tPI X fi) src (Cg X tgt) (tPT0 X.K fc) (tP0 X.K fe) σ H Q:=by
 unfold EG at hq1;refine⟨Z,O,E,Post.mono hq1.bind λts H1 s1 q1 J hJ D hD hK=> ?_⟩
 have E1:=E.same s1
 by_cases hz:ts.length<=sizeLine
 ·rw[if_pos hz]at q1
  cases hall:dg tgt fc fe ts (cj src Z)with
  | bad=>rw[hall]at q1;exact q1.elim
  | err c=>rw[hall]at q1;exact q1.elim
  | ok all=>
   rw[hall]at q1
   have q2:∀D ys H',Nw X.K H1 D->Same H1 H'->H' D=some (.lst ys)->Reps X.K (λa=>O a\/a=D) H' all ys->Q (.ref D) H':=q1 H1 (Same.refl H1)
   have nD:Nw X.K H1 D:=⟨hD,hK⟩
   let O':Ow:=λa=>O a\/a=D
   have subO:∀a,O' a->O a\/Nw X.K H1 a:=λa z=>z.elim .inl λw=> .inr (w▸nD)
   -- the walk's word
   refine⟨λi m σ' ys H'=>m=ts.length - i/\i<=ts.length/\ys.length<=i/\H' D=some (.lst ys)/\SameO (λa=>a=D) (upd H1 D (.lst [])) H' ∧
    ∃Z' yts zs,EnvM X.K O' noM H' Z' σ'/\Reps X.K O' H' yts ys/\dg tgt fc fe (ts.drop i) Z'= .ok zs/\yts++zs=all,⟨ts.length,?_⟩,?_⟩
   ·have sN:Same H1 (upd H1 D (.lst [])):=bc hD _
    refine⟨by omega,Kq _,Il _,bx,λb o e _=>e,cj src Z,[],all,?_,Reps.GP,by simpa using hall,rfl⟩
    have E2:EnvM X.K O noM H1 (cj src Z) (fN src σ):=zj E1 src
    exact E2.move (P:=λa=>a=D) (λa z=> .inr (z▸nD)) subO (λb o e _=>sN b o e) λa z=>by
     rcases z with z | z
     ·exact(E1.mtb a z).same sN
     ·rw[z];exact .inl ⟨_,bx⟩
   ·rintro i m σ' ys H' ⟨rfl,hi',hyl,hDl,hsm,Z',yts,zs,E',ry,hl,hyz⟩
    refine⟨hDl,?_⟩
    have sm1:SameO (λa=>a=D) H1 H':=λb o e nb=>hsm b o (by rw[aY nb];exact e) nb
    have it:=hJ (λa=>a=D) O' (λa z=> .inr (z▸nD)) subO i H' sm1 (λa z=>(E'.trk a z).some)
    by_cases hlt:i<ts.length
    ·refine .inr ?_
     have hti:ts[i]? =some ts[i]:=by simp
     obtain⟨go,yl⟩:=it.2 ts[i] hti;refine⟨go,by omega,λxx Hc y=> ?_⟩
     obtain⟨sc,rx⟩:=yl xx Hc y
     have Ec:=E'.same sc;rw[K2 hlt]at hl;unfold dg at hl;refine⟨Z',O',noM,ts[i],Ec,rx,?_⟩
     cases e1:tgt ts[i] Z' with
     | bad=>rw[e1]at hl;cases hl
     | err cc=>rw[e1]at hl;cases hl
     | ok Z1=>
      rw[e1,aI]at hl;intro σ1 Eg;refine⟨Z1,O',⟨noM,Eg⟩,?_⟩
      cases e2:fc Z1 with
      | bad=>rw[e2]at hl;cases hl
      | err cc=>rw[e2]at hl;cases hl
      | ok k=>
       rw[e2,aI]at hl;intro H3 s3
       have E3:=Eg.same s3
       have tot:Same H' H3:=sc.trans s3
       have D3:H3 D=some (.lst ys):=tot _ _ hDl
       have sm3:SameO (λa=>a=D) (upd H1 D (.lst [])) H3:=λb o e nb=>tot _ _ (hsm b o e nb)
       cases k with
       | false=>
        refine L2.iteF ?_
        have hl':dg tgt fc fe (ts.drop (i+1)) Z1= .ok zs:=by simpa using hl
        exact⟨ts.length - (i+1),by omega,rfl,hlt,by omega,D3,sm3,Z1,yts,zs,E3,ry.same tot,hl',hyz⟩
       | true=>
        refine L2.iteT ?_
        have hl':(fe Z1 >>= λy=>dg tgt fc fe (ts.drop (i+1)) Z1 >>= λys=>Rs.ok (y::ys))= .ok zs:=by simpa using hl
        refine⟨Z1,O',⟨noM,E3⟩,?_⟩
        cases e3:fe Z1 with
        | bad=>rw[e3]at hl';cases hl'
        | err cc=>rw[e3]at hl';cases hl'
        | ok yt=>
         rw[e3,aI]at hl'
         cases e4:dg tgt fc fe (ts.drop (i+1)) Z1 with
         | bad=>rw[e4]at hl';cases hl'
         | err cc=>rw[e4]at hl';cases hl'
         | ok zs'=>
          rw[e4,aI]at hl'
          have hzs:yt::zs'=zs:=by injection hl'
          intro H4 s4 v rv
          have D4:H4 D=some (.lst ys):=s4 _ _ D3
          have E4:=E3.same s4
          have tot4:Same H' H4:=tot.trans s4
          have smD:SameO (λa=>a=D) H4 (upd H4 D (.lst (ys++ [v]))):=λb o e nb=>by rw[aY nb];exact e
          have inO:∀a,a=D->O' a\/Nw X.K H4 a:=λa z=> .inl (.inr z)
          refine⟨D4,ts.length - (i+1),by omega,rfl,hlt,?_,bx,λb o e nb=>smD b o (s4 _ _ (sm3 b o e nb)) nb,Z1,yts++ [yt],zs',?_,?_,e4,?_⟩
          ·rw[Ih,JW];omega
          ·exact E4.move inO (λa z=> .inl z) smD λaa z=>by
            by_cases hz:aa=D
            ·rw[hz];exact .inl ⟨_,bx⟩
            ·unfold Mtb;rw[aY hz];exact E4.trk aa z
          ·have r1:Reps X.K O' H4 (yts++ [yt]) (ys++ [v]):=(ry.same tot4).append (Reps.FS rv Reps.GP)
           exact r1.move inO (λa z=> .inl z) smD
          ·rw[IW,List.singleton_append,hzs];exact hyz
    ·refine .inl ⟨it.1 (by omega),?_⟩
     have hi2:i=ts.length:=by omega
     subst hi2;rw[OF]at hl
     have hzs:zs= []:=by unfold dg at hl;injection hl with hl;exact hl.symm
     subst hzs;rw[JE]at hyz;subst hyz
     have sF:Same H1 H':=λb o e=>sm1 b o e λz=>by rw[z,hD]at e;cases e
     exact q2 D ys H' nD sF hDl ry
 ·rw[if_neg hz]at q1
  exact q1.elim
theorem vP {src:List (Option Nat)}{fi:En->Rs (List T)}{tgt:T->En->Rs En}{fc:En->Rs Bool}{fe:En->Rs T}{σ:L2.St}{H:Hp}{Q:VK}(h0:tP X (fA fi src tgt fc fe) σ H Q):ET X.K (tPI X fi) src (Cg X tgt) (tPT0 X.K fc) (tP0 X.K fe) σ H Q:=by
 obtain⟨Z,O,E,hq⟩:=h0;refine zh E ?_
 have e:fA fi src tgt fc fe Z=EG fi src tgt fc fe Z >>= λl=> .ok (.lst l):=zi
 rw[e]at hq
 cases q:EG fi src tgt fc fe Z with
 | bad=>rw[q]at hq;exact hq.elim
 | err c=>rw[q]at hq;exact hq
 | ok l=>
  rw[q,aI]at hq;intro H1 s1 D ys H' nD sD eD rD;exact hq H' (s1.trans sD) _ (Rep.Do.mpr ⟨D,ys,rfl,λz=>(E.same s1).fresh nD.1 z,eD,rD.less λa z=> .inl z⟩)
theorem q_lc {elt tg iter:Expr}{ifs:List Expr}{scope:LZ}{N':List Str}{src:List (Option Nat)}{fi:En->Rs (List T)}{tgt:T->En->Rs En}{fc:En->Rs Bool}{fe:En->Rs T}
  (hc:X.calm=true) (S:LcScope X scope N' src) (hi:Ap X tg iter fi)
  (block:∀cl C s₀ H₀ fp,CG (cO X scope cl N' C s₀ H₀ fp) tg tgt/\xY (cO X scope cl N' C s₀ H₀ fp) ifs (ye (cO X scope cl N' C s₀ H₀ fp) fc)/\cE (cO X scope cl N' C s₀ H₀ fp) elt fe)
  (hs:∀x,Jy iter X.env x=pure x:=by intro _;rfl) :
  cE X (.ListComp elt [⟨tg,iter,ifs,0⟩] scope pos) (fA fi src tgt fc fe):=by
 have hPG:∀cl C s₀ H₀ fp,PG (cO X scope cl N' C s₀ H₀ fp) tg (Cg X tgt):=λcl C s₀ H₀ fp=>(block cl C s₀ H₀ fp).1
 have hPI:∀cl C s₀ H₀ fp,xY (cO X scope cl N' C s₀ H₀ fp) ifs (tPT0 X.K fc):=λcl C s₀ H₀ fp pins s σ H Q I h=>(block cl C s₀ H₀ fp).2.1 pins s σ H Q I (tPT0.up (X:=cO X scope cl N' C s₀ H₀ fp) h)
 have hPE:∀cl C s₀ H₀ fp,PE (cO X scope cl N' C s₀ H₀ fp) elt (tP0 X.K fe):=λcl C s₀ H₀ fp pins s σ H Q I h=>(block cl C s₀ H₀ fp).2.2 pins s σ H Q I (tP0.up (X:=cO X scope cl N' C s₀ H₀ fp) h)
 exact PE.imp (yJ (g:=Cg X tgt) (tc:=tPT0 X.K fc) (te:=tP0 X.K fe) hc S hi (λcl C s₀ H₀ fp=>⟨hPG cl C s₀ H₀ fp,hPI cl C s₀ H₀ fp,hPE cl C s₀ H₀ fp⟩) hs) λσ H Q h=>vP h
inductive Fl where
 | nx (Z:En) | rt (t:T) | bk (Z:En) | ct (Z:En)
def OO (B:Ow)(M:Mn):Ow:=λa=>B a\/M.u a
structure Ev (K:HX)(B:Ow)(M:Mn)(H:Hp)(Z:En)(σ:L2.St):Prop where
 env:EnvM K (OO B M) M H Z σ
 mine:∀a,M.u a->¬ B a
theorem Ev.same {K:HX}{B:Ow}{M:Mn}{H H':Hp}{Z:En}{σ:L2.St}(h:Same H H')(e:Ev K B M H Z σ):Ev K B M H' Z σ:=⟨e.env.same h,e.mine⟩
theorem Ev.o {K:HX}{B:Ow}{M:Mn}{H:Hp}{Z:En}{σ:L2.St}(e:Ev K B M H Z σ):EnvO K (OO B M) H Z σ:=⟨M,e.env⟩
def PostF (X:Cx)(B P:Ow)(H:Hp)(r:Rs Fl)(D:r9):Prop:=match r with
 | .ok (.nx Z')=> ∀σ' H' M',SameO P H H'->Ev X.K B M' H' Z' σ'->(∀a,M'.u a->P a\/Nw X.K H a)->D.nx σ' H'
 | .ok (.rt t)=> ∀v H',SameO P H H'->Rep X.K B H' t v->D.rt v H'
 | .ok (.bk Z')=> ∀σ' H' M',SameO P H H'->Ev X.K B M' H' Z' σ'->(∀a,M'.u a->P a\/Nw X.K H a)->D.bk σ' H'
 | .ok (.ct Z')=> ∀σ' H' M',SameO P H H'->Ev X.K B M' H' Z' σ'->(∀a,M'.u a->P a\/Nw X.K H a)->D.ct σ' H'
 | .err c=>XA X P H c
 | .bad=>False
def Gz (X:Cx)(F:En->Rs Fl):TS:=λD σ H=> ∃Z B M,Ev X.K B M H Z σ/\PostF X B M.u H (F Z) D
abbrev r6 (X:Cx)(s:Stmt)(F:En->Rs Fl):Prop:=PS X s (Gz X F)
abbrev mi (X:Cx)(s:List Stmt)(F:En->Rs Fl):Prop:=PSs X s (Gz X F)
theorem PostF.later {B P P1:Ow}{H H1:Hp}{r:Rs Fl}{D:r9}(h:PostF X B P H r D)(s:SameO P H H1)(sub:∀a,P1 a->P a\/Nw X.K H a):PostF X B P1 H1 r D:=by
 have back:∀a,P1 a\/Nw X.K H1 a->P a\/Nw X.K H a:=λa z=>z.elim (sub a) (gR s)
 cases r with
 | bad=>exact h
 | err c=>exact XA.later h s sub
 | ok f=>
  cases f with
  | nx Z'=>exact λσ' H' M' s' E' o'=>h σ' H' M' (s.trans s' sub) E' λa z=>back a (o' a z)
  | rt t=>exact λv H' s' r=>h v H' (s.trans s' sub) r
  | bk Z'=>exact λσ' H' M' s' E' o'=>h σ' H' M' (s.trans s' sub) E' λa z=>back a (o' a z)
  | ct Z'=>exact λσ' H' M' s' E' o'=>h σ' H' M' (s.trans s' sub) E' λa z=>back a (o' a z)
theorem PostF.xa {B P:Ow}{H:Hp}{c:Str}{D:r9}(h:PostF X B P H (.err c) D):XA X xg H c:=XA.later (P:=P) h (λ_ _ e _=>e) λ_ z=>z.elim
def sN (Z:En):Rs Fl:=.ok (.nx Z)
def aC (F G:En->Rs Fl)(Z:En):Rs Fl:=do
 let f <-F Z
 match f with
 | .nx Z'=>G Z'
 | f=> .ok f
theorem Dc:mi X [] sN:=PSs.imp Bb λD σ H ⟨Z,B,M,E,h⟩=>h σ H M (λ_ _ e _=>e) E λa z=> .inl z
theorem AS {st:Stmt}{cP:List Stmt}{F G:En->Rs Fl}(h1:r6 X st F)(h2:mi X cP G):mi X (st::cP) (aC F G):=PSs.imp (yB h1 h2) λD σ H hh_=>by
 obtain⟨Z,B,M,E,h⟩:=hh_;refine⟨Z,B,M,E,?_⟩
 unfold aC at h
 cases q:F Z with
 | bad=>rw[q]at h;exact h.elim
 | err c=>rw[q]at h;exact h
 | ok f=>
  rw[q,aI]at h
  cases f with
  | nx Z'=>exact λσ' H' M' s' E' o'=>⟨Z',B,M',E',h.later s' o'⟩
  | rt t=>exact h
  | bk Z'=>exact h
  | ct Z'=>exact h
theorem C9 {st:Stmt}{F:En->Rs Fl}(h:r6 X st F):mi X [st] F:=Ba h
def aK (f:En->Rs T)(Z:En):Rs Fl:=do
 let t <-f Z
 .ok (.rt t)
theorem C7 (ha:cE X a fa):r6 X (.Return (some a) pos) (aK fa):=PS.imp (Du ha) λD σ H hh_=>by
 obtain⟨Z,B,M,E,h⟩:=hh_;refine⟨Z,OO B M,E.o,?_⟩
 unfold aK at h
 cases q:fa Z with
 | bad=>rw[q]at h;exact h.elim
 | err c=>rw[q]at h;exact PostF.xa h
 | ok t=>
  rw[q,aI]at h;exact λH' s v r=>h v H' (SameO.of s) (r.less λ_ z=> .inl z)
def eX (f:En->Rs Bool)(F G:En->Rs Fl)(Z:En):Rs Fl:=do
 let k <-f Z
 if k then F Z else G Z
theorem Fg {f:En->Rs Bool}{A B:List Stmt}{F G:En->Rs Fl}(hc:ug X c f)(ha:mi X A F)(hb:mi X B G):r6 X (.If c A B pos) (eX f F G):=PS.imp (FD hc ha hb) λD σ H hh_=>by
 obtain⟨Z,B,M,E,h⟩:=hh_;refine⟨Z,OO B M,E.o,?_⟩
 unfold eX at h
 cases q:f Z with
 | bad=>rw[q]at h;exact h.elim
 | err c=>rw[q]at h;exact PostF.xa h
 | ok k=>
  rw[q,aI]at h;intro H' s
  have E':Ev X.K B M H' Z σ:=E.same s
  cases k with
  | true=>refine L2.iteT ?_;exact⟨Z,B,M,E',PostF.later (by simpa using h) (SameO.of s) λa z=> .inl z⟩
  | false=>refine L2.iteF ?_;exact⟨Z,B,M,E',PostF.later (by simpa using h) (SameO.of s) λa z=> .inl z⟩
def cu (f:En->Rs T)(g:T->En->Rs En)(Z:En):Rs Fl:=do
 let t <-f Z
 match g t Z with
 | .ok Z'=> .ok (.nx Z')
 | _=> .bad
theorem yp {B:Ow}{M:Mn}{Z:En}{σ:L2.St}{H:Hp}{D:r9}{g:T->En->Rs En}{f:En->Rs T}(E:Ev X.K B M H Z σ)(h:PostF X B M.u H (cu f g Z) D):AD (tP X f) (Cg X g) D σ H:=by
 refine⟨Z,OO B M,E.o,?_⟩
 unfold cu at h
 cases q:f Z with
 | bad=>rw[q]at h;exact h.elim
 | err c=>rw[q]at h;exact PostF.xa h
 | ok t=>
  rw[q,aI]at h;intro H' s v r;refine⟨Z,OO B M,M,t,E.env.same s,r,?_⟩
  cases q2:g t Z with
  | bad=>rw[q2]at h;exact h.elim
  | err c=>rw[q2]at h;exact h.elim
  | ok Z'=>
   rw[q2]at h;exact λσ' E'=>h σ' H' M (SameO.of s) ⟨E',E.mine⟩ λa z=> .inl z
theorem AA {f:En->Rs T}{σ:L2.St}{H:Hp}{Q Q':VK}(h:tP X f σ H Q)(w:∀v H',Q v H'->Q' v H'):tP X f σ H Q':=by
 obtain⟨Z,O,E,q⟩:=h;exact⟨Z,O,E,Post.mono q λt H' _ z v r=>w v H' (z v r)⟩
theorem Ff {elt tg iter:Expr}{ifs:List Expr}{scope:LZ}{spos py:Pos}{N':List Str}{src:List (Option Nat)}{fi:En->Rs (List T)}{tgt:T->En->Rs En}{fc:En->Rs Bool}{fe:En->Rs T}(i:Nat){y:Str}
  (hc:X.calm=true) (S:LcScope X scope N' src) (hi:Ap X tg iter fi)
  (block:∀cl C s₀ H₀ fp,CG (cO X scope cl N' C s₀ H₀ fp) tg tgt/\xY (cO X scope cl N' C s₀ H₀ fp) ifs (ye (cO X scope cl N' C s₀ H₀ fp) fc)/\cE (cO X scope cl N' C s₀ H₀ fp) elt fe)
  (hN:X.N.Nodup) (hiy:X.N[i]? =some y:=by rfl) (hy:Loc X.env.scope y:=by first | exact KB rfl | exact J9 rfl) (hsw:JY (.ListComp elt [⟨tg,iter,ifs,0⟩] scope pos) (some (.Name y py)) spos.line X.env=pure true:=by rfl)
  (hf:X.fn y=true\/X.env.scope.names.lookup y=some .local:=by first | exact .inl rfl | exact .inr rfl | assumption) (hs:∀x,Jy iter X.env x=pure x:=by intro _;rfl) :
  r6 X (.Assign [.Name y py] (.ListComp elt [⟨tg,iter,ifs,0⟩] scope pos) spos) (cu (fA fi src tgt fc fe) (gN i)):=by
 have hPG:∀cl C s₀ H₀ fp,PG (cO X scope cl N' C s₀ H₀ fp) tg (Cg X tgt):=λcl C s₀ H₀ fp=>(block cl C s₀ H₀ fp).1
 have hPI:∀cl C s₀ H₀ fp,xY (cO X scope cl N' C s₀ H₀ fp) ifs (tPT0 X.K fc):=λcl C s₀ H₀ fp pins s σ H Q I h=>(block cl C s₀ H₀ fp).2.1 pins s σ H Q I (tPT0.up (X:=cO X scope cl N' C s₀ H₀ fp) h)
 have hPE:∀cl C s₀ H₀ fp,PE (cO X scope cl N' C s₀ H₀ fp) elt (tP0 X.K fe):=λcl C s₀ H₀ fp pins s σ H Q I h=>(block cl C s₀ H₀ fp).2.2 pins s σ H Q I (tP0.up (X:=cO X scope cl N' C s₀ H₀ fp) h)
 refine PS.imp (FC (g:=Cg X tgt) (tc:=tPT0 X.K fc) (te:=tP0 X.K fe) (i:=i) hc S hi (λcl C s₀ H₀ fp=>⟨hPG cl C s₀ H₀ fp,hPI cl C s₀ H₀ fp,hPE cl C s₀ H₀ fp⟩) hN hiy hy hsw hf hs) λD σ H ⟨Z,B,M,E,h⟩=>vP (AA (yp E h) λv H' z=> ?_)
 obtain⟨Z',O,M',t,E',r,q⟩:=z;unfold gN at q
 split at q
 ·rename_i Z2 e
  split at e
  ·rename_i hl
   cases e;exact q _ (E'.set hl r)
  ·cases e
 ·exact q.elim
theorem Dg {tg:Expr}{g:T->En->Rs En}(ha:cE X a fa)(hg:CG X tg g)(hs:N4 [tg] a pos.line X.env=pure false:=by rfl)(hw:N5 [tg] a X.env=pure none:=by rfl)
  (h1:(JS [tg] X.env).map (·.2)= [assign tg X.env]:=by rfl):r6 X (.Assign [tg] a pos) (cu fa g):=PS.imp (Dv ha hg hs hw h1) λD σ H ⟨Z,B,M,E,h⟩=>yp E h
def oR (f:En->Rs T)(Z:En):Rs Fl:=do
 let _ <-f Z
 .ok (.nx Z)
theorem AR (ha:cE X a fa)(hs:JY a none pos.line X.env=pure false:=by rfl):r6 X (.Expr a pos) (oR fa):=PS.imp (qH ha hs) λD σ H hh_=>by
 obtain⟨Z,B,M,E,h⟩:=hh_;refine⟨Z,OO B M,E.o,?_⟩
 unfold oR at h
 cases q:fa Z with
 | bad=>rw[q]at h;exact h.elim
 | err c=>rw[q]at h;exact PostF.xa h
 | ok t=>
  rw[q,aI]at h;exact λH' s v r=>h σ H' M (SameO.of s) (E.same s) λa z=> .inl z
def br (g:T->En->Rs En)(F:En->Rs Fl):List T->En->Rs Fl
 | [],Z=> .ok (.nx Z)
 | t::r,Z=>do
  let Z1 <-g t Z
  let f <-F Z1
  match f with
  | .nx Z2=>br g F r Z2
  | .ct Z2=>br g F r Z2
  | .bk Z2=> .ok (.nx Z2)
  | .rt t=> .ok (.rt t)
def ij (fi:En->Rs (List T))(g:T->En->Rs En)(F:En->Rs Fl)(Z:En):Rs Fl:=do
 let ts <-fi Z
 match br g F ts Z with
 | .ok f=> .ok f
 | _=> .bad
theorem lh {α:Type}{t:Sem α}{Q:α->Ib->Prop}{s:Ib}{E:H0->Ib->Prop}{P:IJ}{w:JA}{A:Jl}(h:wpAny (model P w) A t Q (λ_ _=>False) s):wpAny (model P w) A t Q E s:=La h (λ_ _ q=>q) λ_ _ z=>z.elim
theorem Bc {tg iter:Expr}{body:List Stmt}{wi:TI}{g:TG}{tb:TS}{pos:Pos}(hc:X.calm=true)(hi:PI X tg iter wi)(hg:PG X.nox tg g)(hb:PSs X.nox body tb)
  (hs:∀x,Jy iter X.env x=pure x:=by intro _;rfl):PS X (.For tg iter body [] pos) (tFor wi g tb):=by
 intro pins s σ H D I h;refine wpAny_For (cp (hi pins s σ H _ I h) λv s1 h1=>cp h1 λitv s2 h2=> ?_) hs
 obtain⟨it,fp,tn,J,H2,e,I2,T,st2,f2,W,⟨m0,w0⟩,turn⟩:=h2;subst e
 have stat:∀{H':Hp},(∀b∈fp,H' b=none)->∀b∈fp,oE X pins H' b:=λhn b hb=>⟨hn b hb,(f2 b hb).2⟩
 refine codeAny_forLoop_any (λn s'=> ∃i σ' H',Inv X pins σ' H' s'/\tn i s'.heap/\(∀b∈fp,H' b=none)/\W i n σ' H') ?_ m0 ⟨0,σ,H2,I2,st2,λb hb=>(f2 b hb).1,w0⟩
 rintro n s3 ⟨i,σ3,H3,I3,st3,fr3,w3⟩
 rcases turn i n σ3 H3 w3 with⟨stop,qn⟩ | ⟨go,N,hN,step⟩
 ·refine lh (cp (T.done X.nox rfl rfl rfl hc i pins s3 σ3 H3 _ (I3.FM _) (stat fr3) st3 stop) λr s4 ⟨hr,I4⟩=> ?_)
  subst hr;exact L0 ⟨σ3,H3,I4.FM _,qn⟩
 ·refine lh (cp (T.item X.nox rfl rfl rfl hc i pins s3 σ3 H3 _ (I3.FM _) (stat fr3) st3 go) λr s4 ⟨u,hr,h4⟩=> ?_)
  subst hr;refine lh (cp h4 λ_ s5 hh_=> ?_)
  obtain⟨x,H5,I5,r5,y5,st5,fr5⟩:=hh_
  have I5':=Inv.pinned (X:=X.nox) I5 (stat fr5) (T.obj _ _ st5);refine lh (cp (hg _ s5 σ3 H5 x u _ I5' r5 (step x H5 y5)) λ_ s6 hh_=> ?_)
  obtain⟨σ6,H6,I6,q6⟩:=hh_;refine lh (cp (hb _ s6 σ6 H6 _ I6 q6) λf s7 q7=> ?_)
  have again:∀{σ7:L2.St} {H7:Hp},Inv X.nox (pins++m5 fp s5.heap) σ7 H7 s7->N σ7 H7->∃m,m<n/\∃i σ' H',Inv X pins σ' H' s7/\tn i s7.heap/\(∀b∈fp,H' b=none)/\W i m σ' H':=λ{σ7 H7} I7 n7=>by
   obtain⟨m',hm,w7⟩:=hN σ7 H7 n7;refine⟨m',hm,i+1,σ7,H7,(Inv.GY (X:=X.nox) I7).FM _,T.keep _ _ _ st5 λb hb o e=>(I7.pin (b,o) (Iy _ (Iy _ (gS hb e)))).1,λb hb=> ?_,w7⟩
   obtain⟨o,e,d⟩:=T.obj _ _ st5 b hb;exact(I7.pin (b,o) (Iy _ (Iy _ (gS hb e)))).2.1
  cases f with
  | next=>obtain⟨σ7,H7,I7,n7⟩:=q7;exact again I7 n7
  | cont=>obtain⟨σ7,H7,I7,n7⟩:=q7;exact again I7 n7
  | brk=>obtain⟨σ7,H7,I7,q7⟩:=q7;exact⟨σ7,H7,(Inv.GY (X:=X.nox) I7).FM _,q7⟩
  | ret v=>obtain⟨x7,σ7,H7,I7,r7,q7⟩:=q7;exact⟨x7,σ7,H7,(Inv.GY (X:=X.nox) I7).FM _,r7,q7⟩
theorem Dd {tg iter:Expr}{body:List Stmt}{fi:En->Rs (List T)}{g:T->En->Rs En}{F:En->Rs Fl}(hc:X.calm=true)(hi:Ap X tg iter fi)(hg:CG X.nox tg g)(hb:mi X.nox body F)
  (hs:∀x,Jy iter X.env x=pure x:=by intro _;rfl):r6 X (.For tg iter body [] pos) (ij fi g F):=PS.imp (Bc hc hi hg hb hs) λD σ H hh_=>by
 obtain⟨Z,B,M,E,h⟩:=hh_;refine⟨Z,OO B M,E.o,?_⟩
 unfold ij at h
 cases q:fi Z with
 | bad=>rw[q]at h;exact h.elim
 | err c=>rw[q]at h;exact PostF.xa h
 | ok ts=>
  rw[q,aI]at h
  cases qq:br g F ts Z with
  | bad=>rw[qq]at h;exact h.elim
  | err c=>rw[qq]at h;exact h.elim
  | ok fin=>
  rw[qq]at h;intro H1 s1 J hJ
  have E1:Ev X.K B M H1 Z σ:=E.same s1
  have h1:PostF X B M.u H1 (.ok fin) D:=PostF.later h (SameO.of s1) λa z=> .inl z
  refine⟨λi m σ' H'=>m=ts.length - i/\i<=ts.length/\SameO M.u H1 H'/\∃Z' M',Ev X.K B M' H' Z' σ'/\(∀a,M'.u a->M.u a\/Nw X.K H1 a)/\br g F (ts.drop i) Z'= .ok fin,
   ⟨ts.length,by omega,Kq _,λ_ _ e _=>e,Z,M,E1,λa z=> .inl z,by simpa using qq⟩,?_⟩
  rintro i m σ' H' ⟨rfl,hi',sm,Z',M',E',ow,hl⟩
  have it:=hJ M.u (OO B M') (λa z=> .inl (.inr z)) (λa z=>z.elim (λw=> .inl (.inl w)) λw=>(ow a w).elim (λy=> .inl (.inr y)) .inr) i H' sm (λa z=>(E'.env.trk a z).some)
  by_cases hlt:i<ts.length
  ·have hti:ts[i]? =some ts[i]:=by simp
   obtain⟨go,yl⟩:=it.2 ts[i] hti;rw[K2 hlt]at hl;unfold br at hl;refine .inr ⟨go,λσ2 H2=> ∃m',m'<ts.length - i/\(m'=ts.length - (i+1)/\i+1<=ts.length/\SameO M.u H1 H2/\∃Z2 M2,Ev X.K B M2 H2 Z2 σ2/\(∀a,M2.u a->M.u a\/Nw X.K H1 a)/\br g F (ts.drop (i+1)) Z2= .ok fin),λσ2 H2 z=>z,λx Hc y=> ?_⟩
   obtain⟨sc,rx⟩:=yl x Hc y;refine⟨Z',OO B M',M',ts[i],E'.env.same sc,rx,?_⟩
   cases e1:g ts[i] Z' with
   | bad=>rw[e1]at hl;cases hl
   | err cc=>rw[e1]at hl;cases hl
   | ok Z1=>
    rw[e1,aI]at hl;intro σ1 Eg
    have E2:Ev X.K B M' Hc Z1 σ1:=⟨Eg,E'.mine⟩;refine⟨Z1,B,M',E2,?_⟩
    have smc:SameO M.u H1 Hc:=λb o e n=>sc _ _ (sm b o e n)
    have onward:∀{σ3:L2.St} {H3:Hp} {Z3:En} {M3:Mn},SameO M'.u Hc H3->Ev X.K B M3 H3 Z3 σ3->(∀a,M3.u a->M'.u a\/Nw X.K Hc a)->br g F (ts.drop (i+1)) Z3= .ok fin →
      ∃m',m'<ts.length - i/\(m'=ts.length - (i+1)/\i+1<=ts.length/\SameO M.u H1 H3/\∃Z2 M2,Ev X.K B M2 H3 Z2 σ3/\(∀a,M2.u a->M.u a\/Nw X.K H1 a)/\br g F (ts.drop (i+1)) Z2= .ok fin):=
     λ{σ3 H3 Z3 M3} s3 E3 o3 p3=>⟨_,by omega,rfl,hlt,smc.trans s3 ow,Z3,M3,E3,λa z=>(o3 a z).elim (ow a) (gR smc),p3⟩
    cases e2:F Z1 with
    | bad=>rw[e2]at hl;cases hl
    | err cc=>rw[e2]at hl;cases hl
    | ok f=>
     rw[e2,aI]at hl
     cases f with
     | nx Z2=>exact λσ3 H3 M3 s3 E3 o3=>onward s3 E3 o3 hl
     | ct Z2=>exact λσ3 H3 M3 s3 E3 o3=>onward s3 E3 o3 hl
     | bk Z2=>
      cases hl
      exact λσ3 H3 M3 s3 E3 o3=>h1 σ3 H3 M3 (smc.trans s3 ow) E3 λa z=>(o3 a z).elim (ow a) (gR smc)
     | rt t=>
      cases hl;exact λv H3 s3 r=>h1 v H3 (smc.trans s3 ow) r
  ·refine .inl ⟨it.1 (by omega),?_⟩
   have hi2:i=ts.length:=by omega
   subst hi2;rw[OF]at hl;cases hl;exact h1 σ' H' M' sm E' ow
def bN (c:En->Rs Bool)(F:En->Rs Fl):Nat->En->Rs Fl
 | 0,_=> .bad
 | n+1,Z=>match c Z with
  | .ok false=> .ok (.nx Z)
  | .ok true=>match F Z with
   | .ok (.nx Z')=>bN c F n Z'
   | .ok (.ct Z')=>bN c F n Z'
   | .ok (.bk Z')=> .ok (.nx Z')
   | .ok (.rt t)=> .ok (.rt t)
   | _=> .bad
  | _=> .bad
theorem yv {c:Expr}{body:List Stmt}{fc:En->Rs Bool}{F:En->Rs Fl}(n:Nat)(hc:ug X.nox c fc)(hb:mi X.nox body F):r6 X (.While c body [] pos) (bN fc F n):=by
 have base:PS X.nox (.While c body [] pos) (uv (ye X.nox fc) (Gz X.nox F)):=yC PassesOwn.never hc hb;intro pins s σ H D I ⟨Z,B,M,E,h⟩
 cases qq:bN fc F n Z with
 | bad=>rw[qq]at h;exact h.elim
 | err c=>
  exfalso
  have:∀n Z,bN fc F n Z≠ .err c:=by
   intro n
   induction n with
   | zero=>intro Z z;cases z
   | succ n ih=>
    intro Z z;unfold bN at z
    split at z
    ·cases z
    ·split at z <;> first | exact ih _ z | cases z
    ·cases z
  exact this n Z qq
 | ok fin=>
  rw[qq]at h
  have goal:uv (ye X.nox fc) (Gz X.nox F) D σ H:=by
   refine⟨λm σ' H'=>SameO M.u H H'/\∃Z' M',Ev X.K B M' H' Z' σ'/\(∀a,M'.u a->M.u a\/Nw X.K H a)/\bN fc F m Z'= .ok fin,⟨n,λ_ _ e _=>e,Z,M,E,λa z=> .inl z,qq⟩,?_⟩
   rintro m σ' H' ⟨sm,Z',M',E',ow,hl⟩
   cases m with
   | zero=>cases hl
   | succ m=>
    refine⟨Z',OO B M',E'.o,?_⟩
    unfold bN at hl
    cases e1:fc Z' with
    | bad=>rw[e1]at hl;cases hl
    | err cc=>rw[e1]at hl;cases hl
    | ok k=>
     rw[e1]at hl;intro H2 s2
     have E2:Ev X.K B M' H2 Z' σ':=E'.same s2
     have sm2:SameO M.u H H2:=λb o e n=>s2 _ _ (sm b o e n)
     cases k with
     | false=>
      cases hl;refine L2.iteF ?_
      exact h σ' H2 M' sm2 E2 ow
     | true=>
      refine L2.iteT ?_
      refine⟨λσ3 H3=>SameO M.u H H3/\∃Z3 M3,Ev X.K B M3 H3 Z3 σ3/\(∀a,M3.u a->M.u a\/Nw X.K H a)/\bN fc F m Z3= .ok fin,λσ3 H3 z=>⟨m,OE m,z⟩,Z',B,M',E2,?_⟩
      have hl':(match F Z' with | .ok (.nx Z')=>bN fc F m Z' | .ok (.ct Z')=>bN fc F m Z' | .ok (.bk Z')=> .ok (.nx Z') | .ok (.rt t)=> .ok (.rt t) | _=> .bad)= .ok fin:=hl
      cases e2:F Z' with
      | bad=>rw[e2]at hl';cases hl'
      | err cc=>rw[e2]at hl';cases hl'
      | ok f=>
       rw[e2]at hl'
       cases f with
       | nx Z2=>exact λσ3 H3 M3 s3 E3 o3=>⟨sm2.trans s3 ow,Z2,M3,E3,λa z=>(o3 a z).elim (ow a) (gR sm2),hl'⟩
       | ct Z2=>exact λσ3 H3 M3 s3 E3 o3=>⟨sm2.trans s3 ow,Z2,M3,E3,λa z=>(o3 a z).elim (ow a) (gR sm2),hl'⟩
       | bk Z2=>
        cases hl'
        exact λσ3 H3 M3 s3 E3 o3=>h σ3 H3 M3 (sm2.trans s3 ow) E3 λa z=>(o3 a z).elim (ow a) (gR sm2)
       | rt t=>
        cases hl';exact λv H3 s3 r=>h v H3 (sm2.trans s3 ow) r
  refine lh (cp (base pins s σ H D (I.FM _) goal) λf s' q=> ?_)
  cases f with
  | next=>obtain⟨σ7,H7,I7,n7⟩:=q;exact⟨σ7,H7,I7.FM _,n7⟩
  | cont=>obtain⟨σ7,H7,I7,n7⟩:=q;exact⟨σ7,H7,I7.FM _,n7⟩
  | brk=>obtain⟨σ7,H7,I7,n7⟩:=q;exact⟨σ7,H7,I7.FM _,n7⟩
  | ret v=>obtain⟨x7,σ7,H7,I7,r7,q7⟩:=q;exact⟨x7,σ7,H7,I7.FM _,r7,q7⟩
def Ck (Z:En):Rs Fl:=.ok (.ct Z)
end
def bD (F:En->Rs Fl)(Z:En):Rs T:=do
 let f <-F Z
 match f with
 | .nx _=> .ok .non
 | .rt t=> .ok t
 | _=> .bad
def aQ (n:Nat)(ts:List T):En:=ts.map Sl.va++IE (n - ts.length) Sl.em
theorem wQ {n:Nat}{ts:List T}{i:Nat}{o:OT}(e:(aQ n ts)[i]? =some (.ow o)):False:=by
 unfold aQ at e
 by_cases hi:i<ts.length
 ·rw[Ki (by simpa using hi),IF,Ir hi]at e
  cases e
 ·rw[KY (by simpa using hi),Lg]at e
  split at e <;> cases e
theorem pz {K:HX}{O:Ow}{H:Hp}{N:List Str}{ts:List T}{vs:List V}(r:Reps K O H ts vs)(hl:ts.length<=N.length)(trk:∀a,O a->Mtb H a):Ev K O noM H (aQ N.length ts) (start N vs):=by
 have hlen:=r.length
 have sub:∀a,OO O noM a->O a:=λa z=>z.elim id λ⟨_,w⟩=>w.elim
 refine⟨⟨by unfold aQ L2.start;simp;omega,λi t e=> ?_,λi o e=>(wQ e).elim,λ_ _ z=>z.elim,λ_ _ _ z=>z.elim,λa z=>trk a (sub a z)⟩,λa ⟨_,z⟩=>z.elim⟩
 unfold aQ at e;unfold L2.start
 by_cases hi:i<ts.length
 ·rw[Ki (by simpa using hi),IF,Ir hi]at e
  have e':ts[i] =t:=by injection e with e;injection e
  obtain⟨v,e1,e2⟩:=r.get (i:=i) (t:=t) (by rw[<-e'];simp)
  refine⟨v,?_,e2.less sub⟩
  rw[Ki (by simp;omega),IF,e1];rfl
 ·rw[KY (by simpa using hi),Lg]at e
  split at e <;> cases e
section
variable {P:IJ}{w:JA}{K:HX}{mg:Str->Option H0}{base:Heap}
theorem Gi {x qual:Str}{st:Stmt}{f:Addr}{fd:JT}{N ps:List Str}{k n:Nat}{g:List T->Rs T}(Fn:L2.Fun K x qual st f fd)(S:aD N ps (ak st))(hn:ps.length=n)
  (hbody:∀(cdv:H0) (A:Jl) (outer:List Env) (s:Ib) (H:Hp) (E:XK),Room k (A.deeper (envOfC qual (ak st) s.heap.objs.size f cdv)) →
   ∃F,mi (lF CX0 P w K mg base N qual (ak st) f cdv A outer s H E).nox (dC st) F/\∀ts,ts.length=n->∀t,g ts= .ok t->bD F (aQ N.length ts)= .ok t):pk P w K mg base CX0 (k+1) f fd ps (spP K n g):=by
 have hpl:ps.length<=N.length:=by have:=congrArg KG S.pre;rw[Jb]at this;omega
 refine Fn.ok S (λvs H Q E h=> ?_) (λcdv A outer s H vs Q E hr h=> ?_)
 ·obtain⟨ts,O,r,_,hl,_⟩:=h
  rw[<-r.length,hl,hn]
 ·obtain⟨ts,O,r,trk,hl,h⟩:=h
  obtain⟨F,hF,hv⟩:=hbody cdv A outer s H E hr;refine⟨_,hF,aQ N.length ts,O,noM,pz r (by omega) trk,?_⟩
  have no:∀a,¬noM.u a:=λa ⟨_,z⟩=>z
  cases q:g ts with
  | bad=>rw[q]at h;exact h.elim
  | err c=>rw[q]at h;exact h.elim
  | ok t=>
   rw[q]at h
   have hb:=hv ts hl t q;unfold bD at hb
   cases q2:F (aQ N.length ts)with
   | bad=>rw[q2]at hb;cases hb
   | err c=>rw[q2]at hb;cases hb
   | ok fl=>
    rw[q2,aI]at hb
    have sameOf:∀H',SameO noM.u H H'->Same H H':=λH' s b o e=>s b o e (no b)
    cases fl with
    | nx Z'=>cases hb;exact λσ' H' M' s' E' o'=>h .non H' (sameOf H' s') Rep.HG
    | rt t'=>cases hb;exact λv H' s' r'=>h v H' (sameOf H' s') r'
    | bk Z'=>cases hb
    | ct Z'=>cases hb
end
end Tr
namespace Enu
open PySem
open AutoSeq1 (wpAny_loadPart')
section
variable {prog:IJ}{w:JA}{A:Jl}{E:H0->Ib->Prop}{s:Ib}
theorem Ax {it tt:Addr}{k:Nat}{its:Array H0}{x:H0}{Q:H0->Ib->Prop}(hi:s.heap.IsTupleIter it tt k)(ht:s.heap.IsTuple tt its)(hx:its[k]? =some x)
  (hQ:∀h',h'.IsTupleIter it tt (k+1)->KD it s.heap h'->Q x { s with heap:=h' }):wpAny (model prog w) A (Kh (.ref it)) Q E s:=by
 obtain⟨ob,g1,g2,g3⟩:=id hi;obtain⟨ot,k1,_,m,k3⟩:=ht;unfold Kh;refine HY (Jn (name:=Ip "__next__") hi.typeIs Kc (JL Kc hi.typeIs LX ?_ (LM _)))
 show wpAny (model prog w) _ (field (.ref it) 0 >>= _) _ _ s
 refine HY (Jz g1 g3 (x:=.ref tt) rfl ?_)
 show wpAny (model prog w) _ (if (II tt == Jm)=true then _ else _) _ _ s
 rw[if_neg (show ¬((II tt == Jm)=true)by exact IK)]
 show wpAny (model prog w) _ (field (.ref it) 1 >>= _) _ _ s
 refine HY (Jz g1 g3 (x:=.int k 0) rfl ?_)
 show wpAny (model prog w) _ (seqItems? (.ref tt) >>= _) _ _ s
 refine HY (Mr k1 k3 ?_)
 simp only[hx,Jw];refine HY (wpAny_setField g1 g3 (by simp) (Ik ⟨x,rfl,Ik (hQ _ ?_ (Nz ..))⟩))
 refine⟨_,KI _ g1 (Obj.isFreed_of_fields (NX g3 _)),(Obj.cls_mapFields ..).trans g2,?_⟩
 rw[NX g3];simp[rawInt]
theorem tupStop {it tt:Addr}{k:Nat}{its:Array H0}{Q:H0->Ib->Prop}(hh:A.handled=none)(hi:s.heap.IsTupleIter it tt k)(ht:s.heap.IsTuple tt its)(hx:its[k]? =none)
  (hE:∀h' e,Heap.ExtBut it s.heap h'->(∃o,h'.get? e=some o/\o.cls= .type "StopIteration")->E (.ref e) { s with heap:=h' }):wpAny (model prog w) A (Kh (.ref it)) Q E s:=by
 obtain⟨ob,g1,g2,g3⟩:=id hi;obtain⟨ot,k1,_,m,k3⟩:=ht;unfold Kh;refine HY (Jn (name:=Ip "__next__") hi.typeIs Kc (JL Kc hi.typeIs LX ?_ (LM _)))
 show wpAny (model prog w) _ (field (.ref it) 0 >>= _) _ _ s
 refine HY (Jz g1 g3 (x:=.ref tt) rfl ?_)
 show wpAny (model prog w) _ (if (II tt == Jm)=true then _ else _) _ _ s
 rw[if_neg (show ¬((II tt == Jm)=true)by exact IK)]
 show wpAny (model prog w) _ (field (.ref it) 1 >>= _) _ _ s
 refine HY (Jz g1 g3 (x:=.int k 0) rfl ?_)
 show wpAny (model prog w) _ (seqItems? (.ref tt) >>= _) _ _ s
 refine HY (Mr k1 k3 ?_)
 simp only[hx,Jw];refine HY (Nr (HY (wpAny_setField g1 g3 (by simp) ?_)))
 show wpAny (model prog w) _ (newExc (.type "StopIteration") [] >>= _) _ _ _
 refine HY ?_
 simp only[newTuple,newExc];refine HY (Jh ?_ (by size_fits))
 refine HY (m:=firstArgMember _ _) (wpAny_of_eq (a:=Jm) (by first | (simp only[firstArgMember];rfl) | rfl) ?_)
 refine Jh ?_ (by size_fits)
 simp only[raiseNew];refine HY (wpAny_handled ?_)
 first | rw[hh] | rw[show A.in1.handled=none from hh]
 refine HY (Ik (wpAny_throw ?_))
 refine hE _ _ (((Nz ..).extBut.push _).push _) ⟨_,Iz _ rfl,rfl⟩
end
theorem tupDraws {prog:IJ}{w:JA}{A:Jl}(hh:A.handled=none)(it tt:Addr)(hne:tt≠it)(its:Array H0) :
  Draws prog w A it [it,tt] its.size (λi v=>its[i]? =some v) (λi h=>h.IsTupleIter it tt i/\h.IsTuple tt its) where
 live:=λ_ _ st=>by obtain⟨o,ho,_⟩:=st.1;exact⟨o,ho⟩
 frame:=λ_ _ _ st hk=>by
  obtain⟨⟨o,e,r⟩,⟨o',e',r'⟩⟩:=st;exact⟨⟨o,hk it (by simp) o e,r⟩,⟨o',hk tt (by simp) o' e',r'⟩⟩
 item:=λi s Q E hi st hQ=>by
  refine Ax st.1 st.2 (x:=its[i]) (by simp[hi]) λh' hit' hs'=> ?_
  obtain⟨o',e',r'⟩:=st.2;exact hQ _ h' s.toks (by simp[hi]) ⟨hit',⟨o',(hs'.2 tt hne).trans e',r'⟩⟩ hs'
 done:=λs Q E st hE=>tupStop hh st.1 st.2 (by simp) hE
theorem newT (l:Addr)(items:Array H0)(n:Nat)(dct:Option Addr)(sl:Array (Option H0)) :
  Meets (Builtin.«enumerate.__new__» ⟨[.type "enumerate",.ref l],[]⟩) (λ_ R s=>s.heap.get? l=some { cls:=.type "tuple",dict:=dct,data:=.seq items n,slots:=sl } ∧
   R (.ok (.ret (.ref (s.heap.push { cls:=.type "tuple_iterator",data:=.fields #[.ref l,.int 0 0] }).objs.size)))
    { s with heap:=(s.heap.push { cls:=.type "tuple_iterator",data:=.fields #[.ref l,.int 0 0] }).push { cls:=.type "enumerate",data:=.fields #[.none,.bool false,.ref s.heap.objs.size,rawInt 0,.none,.none] } }):=
 .of_wp λprog w A R s h=>by
  obtain⟨hp,g,d,tk,os⟩:=s;obtain⟨hl,h⟩:=h
  have hsub:=sub_enumerate
  have hT:Heap.IsTuple (Shared.heap ⟨hp,g,d,tk,os⟩) l items:=⟨_,hl,rfl,n,rfl⟩
  wp_walk using Kn hl
  refine wpAny_stack_any λst=>Ik ?_
  split
  ·rename_i c _ _ _ _ _
   cases (c == J4 "enumerate")
   ·wp_walk using Kn hl,Lm hT
    exact⟨_,rfl,h⟩
   ·wp_walk using Kn hl,Lm hT
    exact⟨_,rfl,h⟩
  ·wp_walk using Kn hl,Lm hT
   exact⟨_,rfl,h⟩
theorem callT {prog:IJ}{w:JA}{A:Jl}{E:H0->Ib->Prop}{s:Ib}{l:Addr}{items:Array H0}{Q:H0->Ib->Prop}(hL:s.heap.IsTuple l items)
  (h:∀h',IsEnum h' (s.heap.objs.size+1) s.heap.objs.size 0 .none->h'.IsTupleIter s.heap.objs.size l 0->h'.objs.size=s.heap.objs.size+2 →
   (∀b o,s.heap.get? b=some o->h'.get? b=some o)->Q (.ref (s.heap.objs.size+1)) { s with heap:=h' }):wpAny (model prog w) A (call (.type "enumerate") [.ref l]) Q E s:=by
 obtain⟨⟨cc,dc,dd,ss⟩,hl,hc,n,hd⟩:=hL
 replace hc:cc= .type "tuple":=hc
 replace hd:dd= .seq items n:=hd
 subst hc hd;refine callType_new F.called_enumerate (by decide) (F.typeCall_enumerate_1 _) (F.newCall_enumerate_1 _) (λobj=>F.args_object_init_2 obj _) F.entry_enumerate_new (newT l items n dc ss) ⟨hl,?_⟩
 have hz:(s.heap.push { cls:=.type "tuple_iterator",data:=.fields #[.ref l,.int 0 0] }).objs.size=s.heap.objs.size+1:=Ky ..
 show _/\_
 rw[hz]
 have he:IsEnum ((s.heap.push { cls:=.type "tuple_iterator",data:=.fields #[.ref l,.int 0 0] }).push
   { cls:=.type "enumerate",data:=.fields #[.none,.bool false,.ref s.heap.objs.size,rawInt 0,.none,.none] }) (s.heap.objs.size+1) s.heap.objs.size 0 .none:=by
  have q:=Iz (s.heap.push { cls:=.type "tuple_iterator",data:=.fields #[.ref l,.int 0 0] })
   (o:={ cls:=.type "enumerate",data:=.fields #[.none,.bool false,.ref s.heap.objs.size,rawInt 0,.none,.none] }) rfl
  rw[hz]at q;exact q
 refine⟨⟨_,he,rfl⟩,h _ he ⟨_,Ii _ (Iz _ rfl),rfl,rfl⟩ (by rw[Ky,hz]) λb o x=>Ii _ (Ii _ x)⟩
end Enu
namespace L2
open PySem PySem.Spec PyProof.Rows
section
variable {X:Cx}{pins:List (Addr×Obj)}{σ:L2.St}{H:Hp}{s:Ib}{h':Heap}
theorem Inv.Hs {t':Nat}{fp:List Addr}{Tp:Addr}{xs:List V}(I:Inv X pins σ H s)(hf:∀b∈fp,oE X pins H b)(k:∀b o,b∉fp->s.heap.get? b=some o->h'.get? b=some o)
  (ht:∀b∈fp,∃o,h'.get? b=some o) (hT:s.heap.objs.size<=Tp) (new:ObjOk X.prog X.w (upd H Tp (.tup xs)) h' Tp (.tup xs)):Inv X pins σ (upd H Tp (.tup xs)) { s with heap:=h',toks:=t' }:=by
 have hn:H Tp=none:=I.hok.fresh hT
 have jQ:∀b o,s.heap.get? b=some o->b≠Tp:=λb o e=>Js (Iu (Im e) hT)
 have nf:∀b u,H b=some u->b∉fp:=λb u e z=>by rw[(hf b z).1]at e;cases e
 refine I.step (g':=s.gens) (d':=s.drawn) (ch:=fp) (λb hb=>⟨(hf b hb).2.2.2.1,(hf b hb).2.1,(hf b hb).2.2.2.2.1,(hf b hb).2.2.2.2.2⟩) (λb o _ _ hc e _=>k b o hc e) (λb o _ _ hc e _=>⟨o.slots,k b o hc e⟩)
  (λb o _ e n=>by rw[aY (jQ b o e)];exact n) (λb o hc e=>⟨o,k b o hc e⟩) (λb ys e=>by rw[aY (cf e hn)];exact e) (λb o u e=>by rw[aY (cf e hn)];exact e)
  (λb ps e=>⟨#[],by rw[aY (cf e hn),e];simp⟩) (λm hm=> ?_) (λb u e=> ?_) I.bare
 ·obtain⟨o,es,ep,ho,r⟩:=hm
  exact⟨o,es,ep,k _ o (λz=>(hf _ z).2.1 rfl) ho,r⟩
 ·by_cases hb:b=Tp
  ·subst hb;rw[bx]at e;cases e;exact new
  ·rw[aY hb]at e
   refine(I.hok b u e).G2 (λc v hc q=>k c v ?_ q) (λc q=>by rw[aY (cf q hn)];exact q) λc ys q=>by rw[aY (cf q hn)];exact q
   rcases hc with z | z
   ·rw[z];exact nf b u e
   ·exact nf c _ z
theorem Inv.G5 {t':Nat}{fp:List Addr}(I:Inv X pins σ H s)(hf:∀b∈fp,oE X pins H b)(k:∀b o,b∉fp->s.heap.get? b=some o->h'.get? b=some o):Inv X pins σ H { s with heap:=h',toks:=t' }:=by
 have nf:∀b u,H b=some u->b∉fp:=λb u e z=>by rw[(hf b z).1]at e;cases e
 refine I.step (g':=s.gens) (d':=s.drawn) (ch:=fp) (λb hb=>⟨(hf b hb).2.2.2.1,(hf b hb).2.1,(hf b hb).2.2.2.2.1,(hf b hb).2.2.2.2.2⟩) (λb o _ _ hc e _=>k b o hc e) (λb o _ _ hc e _=>⟨o.slots,k b o hc e⟩)
  (λb o _ e n=>n) (λb o hc e=>⟨o,k b o hc e⟩) (λb ys e=>e) (λb o u e=>e)
  (λb ps e=>⟨#[],by rw[e];simp⟩) (λm hm=> ?_) (λb u e=> ?_) I.bare
 ·obtain⟨o,es,ep,ho,r⟩:=hm
  exact⟨o,es,ep,k _ o (λz=>(hf _ z).2.1 rfl) ho,r⟩
 ·refine(I.hok b u e).G2 (λc v hc q=>k c v ?_ q) (λc q=>q) λc ys q=>q
  rcases hc with z | z
  ·rw[z];exact nf b u e
  ·exact nf c _ z
end
def An (K:HX)(H:Hp)(a:Addr)(tt:Bool)(xs:List V):Prop:=if tt then SqT K H a xs else SqL K H a xs
def GN (K:HX)(a:Addr)(tt:Bool):It:=
 ⟨λi H=> ∃xs x,An K H a tt xs/\xs[i]? =some x,λi H x H'=> ∃p v,x= .ref p/\H p=none/\H'=upd H p (.tup [.int (i:Nat),v])/\∀xs,An K H a tt xs->xs[i]? =some v,λi H=> ∃xs,An K H a tt xs/\xs.length<=i⟩
def itAt (tt:Bool)(h:Heap)(it a:Addr)(i:Nat):Prop:=if tt then h.IsTupleIter it a i else h.IsListIter it a i
theorem itAt.obj {tt:Bool}{h:Heap}{it a:Addr}{i:Nat}(st:itAt tt h it a i):∃o,h.get? it=some o/\∀v,o.data≠ .cell v:=by
 cases tt with
 | true=>obtain⟨o,e,c,d⟩:=(show h.IsTupleIter it a i from st);exact⟨o,e,λv z=>by rw[d]at z;cases z⟩
 | false=>obtain⟨o,e,c,d⟩:=(show h.IsListIter it a i from st);exact⟨o,e,λv z=>by rw[d]at z;cases z⟩
theorem itAt.keep {tt:Bool}{h h':Heap}{it a:Addr}{i:Nat}(st:itAt tt h it a i)(k:∀o,h.get? it=some o->h'.get? it=some o):itAt tt h' it a i:=by
 cases tt with
 | true=>obtain⟨o,e,r⟩:=(show h.IsTupleIter it a i from st);exact(show h'.IsTupleIter it a i from⟨o,k o e,r⟩)
 | false=>obtain⟨o,e,r⟩:=(show h.IsListIter it a i from st);exact(show h'.IsListIter it a i from⟨o,k o e,r⟩)
theorem wM {P:IJ}{w:JA}{K:HX}{elts:List Expr}{kk:Nat}{pos:Pos}(tt:Bool)(a e it:Addr)(hei:e≠it) :
  xR P w K (.Tuple elts kk pos) (GN K a tt) [e,it] e (λi h=>(∃old,IsEnum h e it i old)/\itAt tt h it a i) where
 mem:=by simp
 obj:=λi h st b hb=>by
  obtain⟨⟨old,he⟩,hi⟩:=st;rcases Ij.mp hb with rfl | hb
  ·exact⟨_,he,λv z=>by have z':OS _=Data.cell v:=z;cases z'⟩
  ·rw[Iv.mp hb];exact hi.obj
 keep:=λi h h' st k=>by
  obtain⟨⟨old,he⟩,hi⟩:=st;exact⟨⟨old,k e (by simp) _ he⟩,hi.keep λo q=>k it (by simp) o q⟩
 item:=by
  intro X hP hw hK hc i pins s σ H E I hf st hg;subst hP hw hK;obtain⟨xs,x,hq,hx⟩:=hg;obtain⟨⟨old,he⟩,hi⟩:=st
  -- by what is walked
  have key:∀(its:List H0),Vals xs its->(∀ys,An X.K H a tt ys->ys=xs)->∀(fp0:List Addr) (St:Nat->Heap->Prop),Draws X.prog X.w X.A.in1 it fp0 its.toArray.size (λi v=>its.toArray[i]? =some v) St->e∉fp0->it∈fp0->St i s.heap →
    (∀h',St (i+1) h'->itAt tt h' it a (i+1)) →
    wpAny (model X.prog X.w) X.A (pyNext (.ref e)) (λr s1=> ∃u,r=some u/\wpAny (model X.prog X.w) X.A (Ll (.Tuple elts kk pos) (.ref e) u) (λ_ s2=> ∃x' H',Inv X pins σ H' s2/\RelV x' u/\(GN X.K a tt).yld i H x' H' ∧
     ((∃old,IsEnum s2.heap e it (i+1:Nat) old)/\itAt tt s2.heap it a (i+1))/\∀b∈ [e,it],H' b=none) E s1) E s:=by
   intro its rv uniq fp0 St D hef hif hst hnext;obtain⟨u,hu,ru⟩:=rv.get hx
   have hlt:i<its.toArray.size:=by
    have:=(IC.mp hu).1
    simpa using this
   have W:=WalksT.enumerateD D e hei hef hif;refine W.item i s _ _ hlt ⟨⟨old,he⟩,hst⟩ λTp vals h1 tk hPt hTsz hTup hMid hk=>⟨.ref Tp,rfl,?_⟩
   refine W.go elts kk pos i Tp { s with heap:=h1,toks:=tk } _ _ hMid λh2 hst2 hk2=> ?_
   obtain⟨t,x',hPx,hvals⟩:=hPt;subst hvals
   have hxe:x'=u:=by
    have h1':its.toArray[i]? =some x':=hPx
    have h2':its.toArray[i]? =some u:=by simpa using hu
    rw[h1']at h2';exact IX h2'
   subst hxe
   have hTw:=W.apart i Tp h1 hMid;obtain⟨oT,eT,rT⟩:=hTup
   have eT2:h2.get? Tp=some oT:=hk2 Tp oT hTw eT
   have kAll:∀b o,b∉ [e,it]->s.heap.get? b=some o->h2.get? b=some o:=λb o hb q=>hk2 b o hb (hk b o hb q)
   obtain⟨⟨old2,he2⟩,hs2⟩:=hst2
   have hit2:=hnext h2 hs2
   have there:∀b∈ [e,it],∃o,h2.get? b=some o:=λb hb=>by
    rcases Ij.mp hb with rfl | hb
    ·exact⟨_,he2⟩
    ·rw[Iv.mp hb];obtain⟨o,q,_⟩:=hit2.obj;exact⟨o,q⟩
   have hn:H Tp=none:=I.hok.fresh hTsz
   have new:ObjOk X.prog X.w (upd H Tp (.tup [.int (i:Nat),x])) h2 Tp (.tup [.int (i:Nat),x]):=
    ⟨by show 2<=sizeLine;decide,[.int (i:Nat) t,x'],.cons ⟨t,rfl⟩ (.cons ru .nil),⟨oT,eT2,rT⟩⟩
   have I2:=I.Hs (t':=tk) hf kAll there hTsz new;refine⟨.ref Tp,_,I2,rfl,⟨Tp,x,rfl,hn,rfl,λys hy=>by rw[uniq ys hy];exact hx⟩,⟨⟨old2,he2⟩,hit2⟩,λb hb=> ?_⟩
   have hbT:b≠Tp:=λz=>by
    obtain⟨o,q⟩:∃o,s.heap.get? b=some o:=by
     rcases Ij.mp hb with rfl | hb
     ·exact⟨_,he⟩
     ·rw[Iv.mp hb];obtain⟨o,q,_⟩:=hi.obj;exact⟨o,q⟩
    exact absurd (Iu (Im q) hTsz) (by rw[z];exact IG _)
   rw[aY hbT];exact(hf b hb).1
  have hne:∀b∈ [e,it],a≠b:=λb hb z=>by
   have hb':=(hf b hb).1;rw[<-z]at hb'
   have hbs:=hf b hb
   cases tt with
   | true=>
    have hq':SqT X.K H a xs:=hq;rcases hq' with(q | ⟨o,q⟩) | ⟨o,its,n,q,_⟩
    ·rw[hb']at q;cases q
    ·rw[hb']at q;cases q
    ·rcases hbs.2.2.2.1 with z1 | z1
     ·exact I.ok.noex a o (I.ok.mod.kin a o q) (z▸z1)
     ·exact absurd (Iu (Im (I.ok.bs a o (I.ok.mod.kin a o q)).1) (z▸z1)) (IG _)
   | false=>
    have hq':SqL X.K H a xs:=hq;rcases hq' with(q | ⟨o,q⟩) | ⟨o,its,n,q,_⟩
    ·rw[hb']at q;cases q
    ·rw[hb']at q;cases q
    ·rcases hbs.2.2.2.1 with z1 | z1
     ·exact I.ok.noex a o (I.ok.mod.kin a o q) (z▸z1)
     ·exact absurd (Iu (Im (I.ok.bs a o (I.ok.mod.kin a o q)).1) (z▸z1)) (IG _)
  have hea:e≠a:=λz=>hne e (by simp) z.symm
  have hia:it≠a:=λz=>hne it (by simp) z.symm
  cases tt with
  | true=>
   have hq':SqT X.K H a xs:=hq;obtain⟨its,rv,p,hz⟩:=I.tuple hq'
   exact key its rv (λys hy=>I.G3 hy hq') _ _ (Enu.tupDraws (A:=X.A.in1) (I.ok.hd hc) it a (K5 hia) its.toArray) (by simp[hei,hea]) (by simp) ⟨hi,p⟩ λh' z=>z.1
  | false=>
   have hq':SqL X.K H a xs:=hq;obtain⟨its,rv,p,hz⟩:=I.list hq';exact key its rv (λys hy=>I.G8 hy hq') _ _ (Draws.list (A:=X.A.in1) (I.ok.hd hc) it a (K5 hia) its.toArray) (by simp[hei,hea]) (by simp) ⟨hi,p.isList⟩ λh' z=>z.1
 done:=by
  intro X hP hw hK hc i pins s σ H E I hf st hg;subst hP hw hK;obtain⟨xs,hq,hx⟩:=hg;obtain⟨⟨old,he⟩,hi⟩:=st
  have fin:∀h',Heap.ExtBut it s.heap h'->(none:Option H0)=none/\Inv X pins σ H { s with heap:=h' }:=λh' eb=>⟨rfl,I.G5 (t':=s.toks) hf λb o hb q=>eb b o (λz=>hb (by simp[z])) q⟩
  cases tt with
  | true=>
   have hq':SqT X.K H a xs:=hq;obtain⟨its,rv,p,hz⟩:=I.tuple hq'
   have hl:=rv.length
   have hnone:its.toArray[i]? =none:=by simp;omega
   have hT:s.TypeIs (.ref e) "enumerate":=⟨_,he,rfl⟩;unfold pyNext;refine HY (Oc (Jn (name:=Ip "__next__") hT JH (JL JH hT Lr ?_ (Li _))))
   show wpAny (model X.prog X.w) _ (field (.ref e) 2 >>= _) _ _ _
   refine HY (Jz he rfl (x:=.ref it) rfl ?_)
   refine HY (Enu.tupStop (I.ok.hd hc) hi p hnone λh' x he' hx'=> ?_)
   obtain⟨o,ho,hcl⟩:=hx'
   exact HY (OM (T:="StopIteration") (b:=true) ⟨o,ho,hcl⟩ isSubtype_stop (Ik (fin h' he')))
  | false=>
   have hq':SqL X.K H a xs:=hq;obtain⟨its,rv,p,hz⟩:=I.list hq'
   have hl:=rv.length
   have hnone:its.toArray[i]? =none:=by simp;omega
   exact wpAny_pyNext_enum_end (I.ok.hd hc) he hi p.isList hnone fin
 self:=λ_ _ _ _ _ st h=>by
  obtain⟨⟨old,he⟩,_⟩:=st;exact Ot he h
section
variable {X:Cx}{elts:List Expr}{kk:Nat}{tpos:Pos}
theorem ou:IU "enumerate" =some (.type "enumerate"):=by decide+kernel
def iEnu (K:HX)(tl:TA):TI:=λσ H R=>tl σ H λvs H1=> ∃a tt,vs= [.ref a]/\(∃xs,An K H1 a tt xs)/\R (GN K a tt) H1
theorem Bk {l:Expr}{tl:TA}{p pos:Pos}(hg:Gl X "enumerate")(hm:X.mg "enumerate" =none)(hl:PA X [l] tl)(hs:IA [l] X.env= [(false,eval l X.env)]:=by rfl):PI X (.Tuple elts kk tpos) (.Call (.Name "enumerate" p) [l] [] pos) (iEnu X.K tl):=by
 intro pins s σ H R I h;refine Call_ (fF I hg hm ou (IS (cp (hl pos pins s σ H _ I h) λus s1 ⟨vs,H1,I1,r1,q1⟩=> ?_) hs rfl))
 obtain⟨a,tt,e,⟨xs,hq⟩,q⟩:=q1;subst e;obtain⟨u,rfl,ru⟩:=mK r1;cases ru
 have fin:∀h',IsEnum h' (s1.heap.objs.size+1) s1.heap.objs.size 0 .none->itAt tt h' s1.heap.objs.size a 0->h'.objs.size=s1.heap.objs.size+2->(∀b o,s1.heap.get? b=some o->h'.get? b=some o) →
   wpAny (model X.prog X.w) X.A (pyIter (.ref (s1.heap.objs.size+1))) (GL X pins σ (.Tuple elts kk tpos) R) X.xe { s1 with heap:=h' }:=λh' he hi hsz hk=>by
  refine Ot he ?_
  have I2:Inv X pins σ H1 { s1 with heap:=h' }:=I1.kept (t':=s1.toks) hk
  refine⟨s1.heap.objs.size+1,[s1.heap.objs.size+1,s1.heap.objs.size],_,_,H1,rfl,I2,wM tt a (s1.heap.objs.size+1) s1.heap.objs.size (Nat.succ_ne_self _),⟨⟨_,he⟩,hi⟩,λb hb=> ?_,q⟩
  rcases Ij.mp hb with rfl | hb
  ·exact I1.Hd (by omega) (I1.hok.fresh (by omega))
  ·rw[Iv.mp hb];exact I1.Hd (Il _) (I1.hok.fresh (Il _))
 cases tt with
 | true=>
  have hq':SqT X.K H1 a xs:=hq;obtain⟨its,rv,pl,hz⟩:=I1.tuple hq'
  exact Enu.callT pl λh' he hi hsz hk=>fin h' he hi hsz hk
 | false=>
  have hq':SqL X.K H1 a xs:=hq;obtain⟨its,rv,pl,hz⟩:=I1.list hq';exact NM pl.isList λh' he hi hsz hk=>fin h' he hi hsz hk
end
end L2
namespace Tr
open PySem PySem.Spec PyProof.Rows L2
section
variable {X:Cx}{a:Expr}{fa:En->Rs T}{fs:En->Rs (List T)}{p pos:Pos}
def iS (f:En->Rs T)(Z:En):Rs (List T):=do
 let x <-f Z
 match x with
 | .lst l=> .ok l
 | .tup l=> .ok l
 | _=> .bad
theorem Dj {tg:Expr}(ha:cE X a fa):Ap X tg a (iS fa):=by
 intro pins s σ H R I ⟨Z,O,E,h⟩;unfold iS at h
 cases q:fa Z with
 | bad=>rw[q]at h;exact h.elim
 | err c=>exact vA ha pins s σ H R I ⟨Z,O,E,by unfold iL;rw[q]at h ⊢;exact h⟩
 | ok x=>
  rw[q,aI]at h
  cases x with
  | lst l=>exact vA ha pins s σ H R I ⟨Z,O,E,by unfold iL;rw[q];exact h⟩
  | tup l=>exact Di ha pins s σ H R I ⟨Z,O,E,by unfold iT;rw[q];exact h⟩
  | _=>exact h.elim
def bB:Nat->List T->List T
 | _,[] => []
 | n,t::r=> .tup [.int n,t] ::bB (n+1) r
theorem pY:∀(l:List T) (n i:Nat),(bB n l)[i]? =(l[i]?).map λt=>T.tup [.int ((n+i:Nat):Int),t]
 | [],n,i=>by simp[bB]
 | t::l,n,0=>by simp[bB]
 | t::l,n,i+1=>by
  rw[bB,JJ,pY l (n+1) i,JJ]
  congr 2
  funext t
  congr 4
  omega
theorem pX:∀(l:List T) (n:Nat),(bB n l).length=l.length
 | [],n=>rfl
 | t::l,n=>by rw[bB,Io,Io,pX l]
def iE (f:En->Rs (List T))(Z:En):Rs (List T):=do
 let xs <-f Z
 match xs with
 | [x] =>match x.items with
  | some l=> .ok (bB 0 l)
  | none=> .bad
 | _=> .bad
theorem AY {elts:List Expr}{kk:Nat}{tpos:Pos}(hm:X.mg "enumerate" =none)(ha:qi X [a] fs)(hg:Gl X "enumerate":=by rfl)(hs:IA [a] X.env= [(false,eval a X.env)]:=by rfl) :
  Ap X (.Tuple elts kk tpos) (.Call (.Name "enumerate" p) [a] [] pos) (iE fs):=PI.imp (Bk hg hm ha hs) λσ H R hh_=>by
 obtain⟨Z,O,E,h⟩:=hh_;obtain⟨Z1,O1,E1,h1⟩:=et E h;refine⟨Z1,O1,E1,Post.mono h1 λts H1 s1 q vs r=> ?_⟩
 obtain⟨t',r',s',E',q'⟩:=q vs r
 split at q'
 ·rename_i x0
  obtain⟨v,rfl,rv⟩:=r'.one
  split at q'
  ·rename_i l hl
   have main:∀(aa:Addr) (tt:Bool) (ws:List V),v= .ref aa->¬ O aa->Reps X.K O H1 l ws->An X.K H1 aa tt ws->(∀P Hc,SameO P H1 Hc->¬ P aa->An X.K Hc aa tt ws)->¬ Nw X.K H1 aa →
     ∃a tt,[v] = [V.ref a]/\(∃xs,An X.K H1 a tt xs)/\R (GN X.K a tt) H1:=λaa tt ws e n z sq mv nn=>by
    refine⟨aa,tt,by rw[e],⟨ws,sq⟩,q' H1 (Same.refl H1) _ λP O' hP hO i Hc hsm htr=> ?_⟩
    have hnP:¬ P aa:=λy=>(hP aa y).elim n nn
    have sqc:=mv P Hc hsm hnP;refine⟨λhi=>⟨ws,sqc,by rw[<-z.length,<-pX l 0];exact hi⟩,λt ht=> ?_⟩
    rw[pY]at ht
    cases e1:l[i]? with
    | none=>rw[e1]at ht;cases ht
    | some t0=>
     rw[e1]at ht;cases ht;obtain⟨v0,f1,f2⟩:=z.get e1;refine⟨⟨ws,v0,sqc,f1⟩,λx Hc' y=> ?_⟩
     obtain⟨pp,vv,e2,hpn,e3,hy⟩:=y
     have:=hy ws sqc;rw[f1]at this;cases this;subst e2 e3;refine⟨bc hpn _,fW hpn (λzz=> ?_) (Reps.FS (by simpa using Rep.GS _) (Reps.FS (f2.move hP hO hsm) Reps.GP))⟩
     obtain⟨o,w⟩:=htr pp zz;rw[hpn]at w;cases w
   cases x0 with
   | tup m=>
    cases hl;obtain⟨aa,ws,e,n,qq,z⟩:=Rep.Fk.mp rv
    exact main aa true ws e n z (show SqT X.K H1 aa ws from SqT.of qq) (λP Hc hsm hn=>show SqT X.K Hc aa ws from SqT.of (hsm _ _ qq hn)) λw=>by rw[w.1]at qq;cases qq
   | lst m=>
    cases hl;obtain⟨aa,ws,e,n,qq,z⟩:=Rep.Do.mp rv
    exact main aa false ws e n z (show SqL X.K H1 aa ws from SqL.of qq) (λP Hc hsm hn=>show SqL X.K Hc aa ws from SqL.of (hsm _ _ qq hn)) λw=>by rw[w.1]at qq;cases qq
   | scr m=>
    cases hl;unfold Rep at rv;obtain⟨aa,e,n,qq⟩:=rv
    exact main aa false _ e n Reps.ints (show SqL X.K H1 aa _ from qq) (λP Hc hsm hn=>show SqL X.K Hc aa _ from Tr.SqL.keep hsm hn qq) (Tr.SqL.nn qq)
   | _=>cases hl
  ·exact q'.elim
 ·exact q'.elim
end
end Tr
namespace Tm
open PySem PyProof.Rows
theorem lp:fillsNumberSlot (.type "tuple") "mul" =pure false:=
 PySem.fillsNumberSlot_seq (id:="tuple.__mul__") (r:=some (.builtin "tuple.__rmul__")) MO.lookup (by decide+kernel) Oi.lookup (by decide+kernel)
theorem qE:seqRepeat? (.type "tuple")=pure (some (.builtin "tuple.__mul__")):=by
 unfold seqRepeat?;rw[OG (T:="tuple") (name:="__mul__") (id:="tuple.__mul__") MO.lookup (by decide+kernel),OG (T:="tuple") (name:="__rmul__") (id:="tuple.__rmul__") Oi.lookup (by decide+kernel)]
 rfl
theorem uF (a:Int)(t:Tok)(l:Addr)(items:Array H0)(n:Nat)(dd:Option Addr)(sl:Array (Option H0)) :
  Meets (Builtin.«int.__rmul__» ⟨[.int a t,.ref l],[]⟩) (λ_ R s=>s.heap.get? l=some { cls:=.type "tuple",dict:=dd,data:=.seq items n,slots:=sl }/\R (.ok (.ret Value.notImplemented)) s):=
 .of_wp λprog w A R s h=>by obtain⟨hp,g,d,tk,os⟩:=s;obtain⟨hl,h⟩:=h;wp_walk;exact⟨_,rfl,h⟩
open AutoSeq1 (wpAny_loadPart')
theorem za (l:Addr)(items:Array H0)(n:Nat)(dd:Option Addr)(sl:Array (Option H0))(x:Int)(u:Tok)(h1:1<x)(h2:x<2 ^ 31)(hne:items.isEmpty=false)(hz:items.size*x.toNat<=sizeLine)
  (hz2:(Mw (λa b=>a++b) #[] (IE x.toNat items)).size<=sizeLine) :
  Meets (Builtin.«tuple.__mul__» ⟨[.ref l,.int x u],[]⟩) (λ_ R s=>s.heap.get? l=some { cls:=.type "tuple",dict:=dd,data:=.seq items n,slots:=sl } ∧
   R (.ok (.ret (II s.heap.objs.size))) { s with heap:=s.heap.push { cls:=J4 "tuple",data:=Data.seq (Mw (λa b=>a++b) #[] (IE x.toNat items)) } }):=
 .of_wp λprog w A R s h=>by
  obtain⟨hp,g,d,tk,os⟩:=s;obtain⟨hl,h⟩:=h
  have hT:Pf hp l items:=⟨_,hl,rfl,n,rfl⟩
  have hx:((items.size:Nat):Int)*x=((items.size*x.toNat:Nat):Int):=by
   have e:x=((x.toNat:Nat):Int):=by omega
   rw[Int.natCast_mul,<-e]
  wp_walk using Kn hl
  rw[if_neg (by simp;omega)]
  refine HY (ML (s:=⟨hp,g,d,tk,os⟩) hT ?_)
  dsimp only
  rw[if_neg (by rw[hne];simp;omega),if_neg (by rw[hne];simp;omega),hx,if_neg (by have:(sizeLine:Nat)<=1000000000:=(by decide);omega),if_neg (by unfold Builtin.Tuple.tupleTooMany;rw[decide_eq_true_iff];omega)]
  refine HY (m:=IZ _) (Jh ?_ hz2)
  exact Ik ⟨_,rfl,h⟩
section
variable {prog:IJ}{w:JA}{A:Jl}{E:H0->Ib->Prop}{s:Ib}
theorem mul_tuple {t:Addr}{vs:List H0}{k:Int}{tk:Tok}{Q:H0->Ib->Prop}(ht:Pf s.heap t vs.toArray)(h1:1<k)(h2:k<2 ^ 31)(hv:vs≠ [])(hz:vs.length*k.toNat<=sizeLine)
  (h:Q (.ref s.heap.objs.size) { s with heap:=s.heap.push { cls:=.type "tuple",data:=.seq (IE k.toNat vs).flatten.toArray } }) :
  wpAny (model prog w) A (JZ .Mult (.ref t) (.int k tk)) Q E s:=by
 obtain⟨⟨cls,dd,data,sl⟩,ho,hc,n,hd⟩:=id ht;simp only at hc hd;subst hc hd
 have e:Mw (λa b=>a++b) #[] (IE k.toNat vs.toArray)=(IE k.toNat vs).flatten.toArray:=by
  have q:=L2.foldl_rep vs k.toNat []
  simpa using q
 refine Mq (T:="tuple") (U:="int") (by decide) ⟨_,ho,rfl⟩ (λs'=>Nq s' k tk) lp OV LV qE OC.lookup
  (LP LV (Nq s k tk) OD (Of _ _) (uF k tk t vs.toArray n dd sl)
   ⟨ho,rfl,⟨_,ho,rfl⟩,LP MO ⟨_,ho,rfl⟩ F.entry_tuple_mul (F.args_tuple_mul_2 _ _) (za t vs.toArray n dd sl k tk h1 h2 (by simpa using hv) (by simpa using hz) (by rw[e,Iq,L2.len_rep,Ov];exact hz)) ⟨ho,?_⟩⟩)
 rw[e];exact h
end
end Tm
namespace Tr
open PySem PySem.Spec PyProof.Rows L2
section
variable {X:Cx}
def cq (x y:T):Rs T:=match x,y with
 | .tup l,.int k=>if 1<k/\k<2 ^ 31/\l≠ []/\l.length*k.toNat<=sizeLine then .ok (.tup (IE k.toNat l).flatten)else .bad
 | x,y=>uT x y
instance (l:List T):Decidable (l≠ []):=by cases l <;> simp <;> infer_instance
theorem dw:OpT X (JZ .Mult) cq:=by
 intro pins s σ H O x y vx vy ux uy Q I hf rx ry r1 r2 hp;unfold cq at hp
 split at hp
 ·rename_i l k
  split at hp
  ·rename_i h
   obtain⟨a,vs,e1,n1,q1,z1⟩:=Rep.Fk.mp rx;subst e1;cases Rep.AC.mp ry;cases r1;obtain⟨tk,rfl⟩:=r2;obtain⟨its,rv,pl,hz⟩:=I.tuple (SqT.of q1)
   have hl1:=z1.length
   have hl2:=rv.length
   have hne:its≠ []:=λz=>h.2.2.1 (List.eq_nil_of_length_eq_zero (by rw[hl1,hl2,z];rfl))
   refine Tm.mul_tuple pl h.1 h.2.1 hne (by rw[<-hl2,<-hl1];exact h.2.2.2) ?_
   have hn:=I.hok.fresh (Il _);refine⟨.ref _,_,I.laid (t':=s.toks) (o:=.tup (IE k.toNat vs).flatten) (λb ob q=>Ii _ q) (Il _) ?_,rfl,hp _ (bc hn _) _ (fW hn (hf _ hn) (z1.rep _))⟩
   refine⟨?_,_,rv.rep k.toNat,NS _ _⟩
   rw[len_rep,Ov,<-hl1];exact h.2.2.2
  ·exact hp.elim
 ·exact DG pins s σ H O _ _ vx vy ux uy Q I hf rx ry r1 r2 hp
end
def FY (outer:List (Str×KR))(N:List Str)(names:List (Str×KR))(N':List Str)(src:List (Option Nat)):Bool:=
 names.all (λy=>y.2 != .cell||names.lookup y.1 == some .cell)&&names.all (λy=>y.2 != .local||names.lookup y.1 == some .local)&&src.length == N'.length&&
 (Iw N'.length).all (λj=>match src[j]? with
  | some (some i)=>match N'[j]? with
   | some x=>N[i]? == some x&&names.lookup x == some .free
   | none=>true
  | _=>true)&&
 names.all (λy=>y.2 != .free||(outer.lookup y.1 == some .cell||outer.lookup y.1 == some .free))
theorem LcScope.by {X:Cx}{scope:LZ}{N N':List Str}{src:List (Option Nat)}{names:List (Str×KR)}(hN:X.N=N)(hs:X.env.scope.names=names)(hk:scope.kind= .function)(h:FY names N scope.names N' src=true):LcScope X scope N' src:=by
 unfold FY at h;simp only[HZ]at h;obtain⟨⟨⟨⟨h1,h2⟩,h3⟩,h4⟩,h5⟩:=h
 have a1:=IR.mp h1
 have a2:=IR.mp h2
 have a4:=IR.mp h4
 have a5:=IR.mp h5;refine⟨hk,λy hy hl=>by have:=a1 y hy;rw[hl]at this;simpa using this,λy hy hl=> ?_,by simpa using h3,λj i x e1 e2=> ?_,λx hx=> ?_⟩
 ·have:=a2 y hy
  rw[hl]at this
  simpa using this
 ·have hj:j<N'.length:=(IC.mp e2).1
  have:=a4 j (Ji.mpr hj);rw[e1]at this;simp only[e2]at this;rw[HZ]at this;rw[hN];exact⟨by simpa using this.1,by simpa using this.2⟩
 ·have:=a5 _ hx
  simp only[bne_self_eq_false,NY,OZ]at this
  show X.env.scope.names.lookup x=_\/X.env.scope.names.lookup x=_
  rw[hs];rcases this with z | z
  ·exact .inl (by simpa using z)
  ·exact .inr (by simpa using z)
def cw:Expr->Bool
 | .Starred .. =>false
 | _=>true
def bj:List Expr->Bool
 | [] =>true
 | e::r=>cw e&&bj r
theorem bA {e:Expr}{es:List Expr}{env:Env}(h:cw e=true):IA (e::es) env=(false,eval e env)::IA es env:=by
 cases e <;> first | rfl | cases h
theorem fQ {pos:Pos}{env:Env}:∀{es:List Expr},bj es=true->(backTo pos (IA es env)).any (·.1)=false
 | [],_=>rfl
 | e::r,h=>by
  unfold bj at h;rw[HZ]at h;rw[bA h.1]
  have ih:=fQ (pos:=pos) (env:=env) h.2
  show(false||(backTo pos (IA r env)).any (·.1))=false
  rw[ih];rfl
section
variable {X:Cx}{a b e:Expr}{es:List Expr}{fa:En->Rs T}{fs:En->Rs (List T)}{pos p p2:Pos}{x:Str}
theorem qa_c {f:En->Rs T}{g:En->Rs (List T)}(he:cE X e f)(hr:qi X es g)(hn:cw e=true:=by rfl):qi X (e::es) (ae f g):=A1 he hr (bA hn)
theorem q_cB {id:String}{g:List T->Rs T}(hc:CallT X (.builtin id) g)(hm:X.mg x=none)(hv:IU x=some (.builtin id))(ha:qi X (e::es) fs)(hn:bj (e::es)=true:=by rfl)(hg:Gl X x:=by rfl)(h1:x≠ "__name__":=by decide)(h2:iV x:=by decide) :
  cE X (.Call (.Name x p) (e::es) [] pos) (cl g fs):=by
 unfold bj at hn;rw[HZ]at hn;exact A5 hc hm hv ha hg h1 h2 (bA hn.1) (fQ hn.2)
theorem q_cT {Ty:String}{g:List T->Rs T}(hc:CallT X (.type Ty) g)(hm:X.mg x=none)(hv:IU x=some (.type Ty))(ha:qi X (e::es) fs)(hn:bj (e::es)=true:=by rfl)(hg:Gl X x:=by rfl)(h1:x≠ "__name__":=by decide)(h2:iV x:=by decide) :
  cE X (.Call (.Name x p) (e::es) [] pos) (cl g fs):=by
 unfold bj at hn;rw[HZ]at hn;exact yA hc hm hv ha hg h1 h2 (bA hn.1) (fQ hn.2)
theorem q_c {n k:Nat}{f:Addr}{fd:JT}{ps:List Str}{g:List T->Rs T}(F:CH X.prog X.w X.K X.mg X.base k f fd ps n g)(hr:Room k X.A)(hm:X.mg x=some (.ref f))(hk:Kx X.K (.ref f)=true)(hb:Binds X.K fd ps [])
  (hl:∀Z ts,fs Z= .ok ts->ts.length=n) (ha:qi X (e::es) fs) (hps:ps.length=n:=by rfl) (hn:bj (e::es)=true:=by rfl) (hg:Gl X x:=by rfl) (h2:iV x:=by decide):cE X (.Call (.Name x p) (e::es) [] pos) (cl g fs):=by
 unfold bj at hn;rw[HZ]at hn;exact Dp F hr hm hk hb hps hl ha hg h2 (bA hn.1) (fQ hn.2)
theorem q_is {tn:Str}{Ty:String}(hm:X.mg "isinstance" =none)(hmt:X.mg tn=none)(hv:IU tn=some (.type Ty))(ha:cE X a fa)(hn:cw a=true:=by rfl)(hg:Gl X "isinstance":=by rfl)(hgt:Gl X tn:=by rfl)
  (h1:tn≠ "__name__":=by decide) (h2:iV tn:=by decide):cE X (.Call (.Name "isinstance" p) [a,.Name tn p2] [] pos) (o1 (BK Ty) fa):=
 Fu hm hmt hv ha hg hgt h1 h2 (bA hn) (fQ rfl) (bA rfl)
end
theorem Gu (Z:En)(ts:List T)(h:ai Z= .ok ts):ts.length=0:=by cases h;rfl
theorem Gs {n:Nat}{f:En->Rs T}{g:En->Rs (List T)}(hg:∀Z ts,g Z= .ok ts->ts.length=n)(Z:En)(ts:List T)(h:ae f g Z= .ok ts):ts.length=n+1:=by
 unfold ae at h
 cases q:f Z with
 | bad=>rw[q]at h;cases h
 | err c=>rw[q]at h;cases h
 | ok t=>
  rw[q,aI]at h
  cases q2:g Z with
  | bad=>rw[q2]at h;cases h
  | err c=>rw[q2]at h;cases h
  | ok r=>
   rw[q2,aI]at h;cases h;rw[Io,hg Z r q2]
theorem il {k:Nat}{A:Jl}(h:Room k A):A.units+60<cLine:=by have:=h.un;omega
theorem u4 {k:Nat}{A:Jl}(h:Room k A):A.units+61<cLine:=by have:=h.un;omega
structure Fn (K:HX)(mg:Str->Option H0)(x:Str)(st:Stmt)(ps:List Str)(f:Addr)(fd:JT):Prop where
 fn:L2.Fun K x x st f fd
 bd:Binds K fd ps []
 mg:mg x=some (.ref f)
def val (n m:Nat)(F:En->Rs Fl)(ts:List T):Rs T:=if ts.length=n then bD F (aQ m ts)else .bad
theorem CN {n m:Nat}{F:En->Rs Fl}{ts:List T}{t:T}(h:val n m F ts= .ok t):bD F (aQ m ts)= .ok t:=by
 unfold val at h
 split at h
 ·exact h
 ·cases h
theorem sp_script {K:HX}{H:Hp}{a:Addr}{ns:List Int}{g:List T->Rs T}{E:XK}(hS:SqL K H a (ns.map V.int))(h:g [.scr ns] = .ok (.bl true)):spP K 1 g [.ref a] H (λv _=>v= .bl true) E:=by
 refine⟨[.scr ns],λ_=>False,Reps.FS ?_ Reps.GP,λ_ z=>z.elim,rfl,?_⟩
 ·unfold Rep;exact⟨a,rfl,λz=>z,hS⟩
 ·rw[h];exact λv H' _ r=>Rep.FB.mp r
theorem sC {α:Type}{l:List α}{i:Nat}{z:α}(h:l[i]? =some z):l.set i z=l:=by
 obtain⟨hi,rfl⟩:=IC.mp h
 exact List.set_getElem_self hi
def Mn.set (M:Mn)(i:Nat)(m:Ow):Mn:=λj=>if j=i then m else M j
theorem Mn.Hb {M:Mn}{i:Nat}{m:Ow}{a:Addr}(h:(M.set i m).u a):m a\/M.u a:=by
 obtain⟨j,h⟩:=h;unfold Mn.set at h
 by_cases z:j=i
 ·rw[if_pos z]at h;exact .inl h
 ·rw[if_neg z]at h;exact .inr ⟨j,h⟩
theorem Mn.HB {M:Mn}{i:Nat}{m:Ow}:M.set i m i=m:=by unfold Mn.set;rw[if_pos rfl]
theorem Mn.Hf {M:Mn}{i j:Nat}{m:Ow}(h:j≠i):M.set i m j=M j:=by unfold Mn.set;rw[if_neg h]
theorem RowsR.move {K:HX}{O O' P:Ow}{H H':Hp}(hP:∀a,P a->O a\/Nw K H a)(hO:∀a,O' a->O a\/Nw K H a)(h:SameO P H H'):∀{rs:List (List T×List T)} {as:List Addr},(∀b∈as,¬P b)->RowsR K O H rs as->RowsR K O' H' rs as
 | [],_,_,r=>r
 | _::_,_,hb,⟨b,bs,kvs,e1,e2,e3,e4,e5⟩=>by
  subst e1;exact⟨b,bs,kvs,rfl,h _ _ e2 (hb b Ie),e3,e4.move hP hO h,e5.move hP hO h λc hc=>hb c (Ia _ hc)⟩
theorem ORep.move {K:HX}{O O' P M:Ow}{H H':Hp}{o:OT}{v:V}(hP:∀a,P a->O a\/Nw K H a)(hO:∀a,O' a->O a\/Nw K H a)(h:SameO P H H')(hM:∀a,M a->¬ P a)(r:ORep K O M H o v):ORep K O' M H' o v:=by
 cases o with
 | lst l=>obtain⟨a,vs,e1,e2,e3,e4⟩:=r;exact⟨a,vs,e1,e2,h _ _ e3 (hM a ((e2 a).mpr rfl)),e4.move hP hO h⟩
 | dct ks ts=>obtain⟨a,kvs,e1,e2,e3,e4,e5⟩:=r;exact⟨a,kvs,e1,e2,h _ _ e3 (hM a ((e2 a).mpr rfl)),e4,e5.move hP hO h⟩
 | dd ks rows=>
  obtain⟨a,kvs,as,e1,e2,e3,e4,e5,e6,e7,e8⟩:=r;exact⟨a,kvs,as,e1,e2,e3,e4,h _ _ e5 (hM a ((e2 a).mpr (.inl rfl))),e6,e7,e8.move hP hO h λb hb=>hM b ((e2 b).mpr (.inr hb))⟩
theorem RowsR.mtb {K:HX}{O:Ow}{H:Hp}:∀{rs:List (List T×List T)} {as:List Addr},RowsR K O H rs as->∀b∈as,∃kvs,H b=some (.dT kvs)
 | [],_,r,b,hb=>by unfold RowsR at r;subst r;simp at hb
 | _::_,_,⟨b0,bs,kvs,e1,e2,e3,e4,e5⟩,b,hb=>by
  subst e1;rcases Ij.mp hb with rfl | hb
  ·exact⟨kvs,e2⟩
  ·exact e5.mtb b hb
def OT.isD:OT->Bool
 | .lst _=>false
 | _=>true
theorem ORep.kind {K:HX}{O M:Ow}{H:Hp}{o:OT}{v:V}(r:ORep K O M H o v):∀a,M a->if o.isD then ∃kvs,H a=some (.dT kvs)else ∃vs,H a=some (.lst vs):=λa z=>by
 cases o with
 | lst l=>obtain⟨b,vs,e1,e2,e3,e4⟩:=r;cases (e2 a).mp z;exact⟨vs,e3⟩
 | dct ks ts=>obtain⟨b,kvs,e1,e2,e3,e4,e5⟩:=r;cases (e2 a).mp z;exact⟨kvs,e3⟩
 | dd ks rows=>
  obtain⟨b,kvs,as,e1,e2,e3,e4,e5,e6,e7,e8⟩:=r
  rcases(e2 a).mp z with z | z
  ·cases z;exact⟨kvs,e5⟩
  ·exact e8.mtb a z
theorem ORep.mtb {K:HX}{O M:Ow}{H:Hp}{o:OT}{v:V}(r:ORep K O M H o v)(a:Addr)(z:M a):Mtb H a:=by
 have:=r.kind a z
 split at this
 ·exact .inr this
 ·exact .inl this
theorem sM {K:HX}{O:Ow}{H:Hp}:∀{rs:List (List T×List T)} {as:List Addr},(∀b∈as,¬O b)->RowsR K O H rs as->Reps K O H (rs.map λr=>T.dct r.1 r.2) (as.map V.ref)
 | [],_,_,r=>by unfold RowsR at r;subst r;exact Reps.GP
 | _::_,_,hn,⟨b,bs,kvs,e1,e2,e3,e4,e5⟩=>by
  subst e1;exact Reps.FS (Rep.GQ.mpr ⟨b,kvs,rfl,hn b Ie,.inl e2,e3,e4⟩) (sM (λc hc=>hn c (Ia _ hc)) e5)
theorem RowsR.less {K:HX}{O O':Ow}{H:Hp}(sub:∀a,O' a->O a):∀{rs:List (List T×List T)} {as:List Addr},RowsR K O H rs as->RowsR K O' H rs as
 | [],_,r=>r
 | _::_,_,⟨b,bs,kvs,e1,e2,e3,e4,e5⟩=>⟨b,bs,kvs,e1,e2,e3,e4.less sub,e5.less sub⟩
theorem ORep.rep {K:HX}{O O' M:Ow}{H:Hp}{o:OT}{v:V}(sub:∀a,O' a->O a)(hn:∀a,M a->¬ O' a)(r:ORep K O M H o v):Rep K O' H o.view v:=by
 cases o with
 | lst l=>obtain⟨a,vs,e1,e2,e3,e4⟩:=r;exact Rep.Do.mpr ⟨a,vs,e1,hn a ((e2 a).mpr rfl),e3,e4.less sub⟩
 | dct ks ts=>obtain⟨a,kvs,e1,e2,e3,e4,e5⟩:=r;exact Rep.GQ.mpr ⟨a,kvs,e1,hn a ((e2 a).mpr rfl),.inl e3,e4,e5.less sub⟩
 | dd ks rows=>
  obtain⟨a,kvs,as,e1,e2,e3,e4,e5,e6,e7,e8⟩:=r;refine Rep.GQ.mpr ⟨a,kvs,e1,hn a ((e2 a).mpr (.inl rfl)),.inl e5,e6,?_⟩
  rw[e7];exact sM (λb hb=>hn b ((e2 b).mpr (.inr hb))) (e8.less sub)
section
variable {K:HX}{B:Ow}{M:Mn}{H H':Hp}{Z:En}{σ:L2.St}{i:Nat}{o o':OT}{v:V}{m:Ow}
theorem Ev.new (E:Ev K B M H Z σ)(hl:i<Z.length)(hm:∀a,m a->Nw K H a)(s:Same H H')(r:ORep K (OO B (M.set i m)) m H' o v) :
  Ev K B (M.set i m) H' (Z.set i (.ow o)) (σ.set i (some v))/\∀a,(M.set i m).u a->M.u a\/Nw K H a:=by
 have hls:i<σ.length:=by rw[<-E.env.len];exact hl
 have sub:∀a,(M.set i m).u a->M.u a\/Nw K H a:=λa z=>(Mn.Hb z).elim (λw=> .inr (hm a w)) .inl
 have subO:∀a,OO B (M.set i m) a->OO B M a\/Nw K H a:=λa z=>z.elim (λw=> .inl (.inl w)) λw=>(sub a w).elim (λy=> .inl (.inr y)) .inr
 have cM:∀a,Nw K H a->¬ OO B M a:=λa w z=>by
  obtain⟨o,e⟩:=(E.env.trk a z).some;rw[w.1]at e;cases e
 refine⟨⟨⟨by rw[JF,JF];exact E.env.len,λj t e=> ?_,λj o' e=> ?_,λj a z=> .inr ⟨j,z⟩,λj k a z1 z2=> ?_,λa z=> ?_⟩,λa z=> ?_⟩,sub⟩
 ·by_cases hj:i=j
  ·subst hj;rw[IP hl]at e;cases e
  ·rw[IL hj]at e
   obtain⟨w,e1,e2⟩:=E.env.val j t e;exact⟨w,by rw[IL hj];exact e1,(e2.more subO).same s⟩
 ·by_cases hj:i=j
  ·subst hj
   rw[IP hl]at e
   cases e;exact⟨v,IP hls,by rw[Mn.HB];exact r⟩
  ·rw[IL hj]at e
   obtain⟨w,e1,e2⟩:=E.env.own j o' e;refine⟨w,by rw[IL hj];exact e1,?_⟩
   rw[Mn.Hf (λz=>hj z.symm)]
   exact(e2.move (P:=xg) (λ_ z=>z.elim) subO (λb u q _=>q) λ_ _ z=>z).same s
 ·unfold Mn.set at z1 z2
  by_cases hj:j=i
  ·by_cases hk:k=i
   ·exact hj.trans hk.symm
   ·rw[if_pos hj]at z1;rw[if_neg hk]at z2
    exact(cM a (hm a z1) (.inr ⟨k,z2⟩)).elim
  ·by_cases hk:k=i
   ·rw[if_neg hj]at z1;rw[if_pos hk]at z2
    exact(cM a (hm a z2) (.inr ⟨j,z1⟩)).elim
   ·rw[if_neg hj]at z1;rw[if_neg hk]at z2
    exact E.env.dis j k a z1 z2
 ·rcases z with z | z
  ·exact(E.env.trk a (.inl z)).same s
  ·rcases Mn.Hb z with w | w
   ·exact r.mtb a w
   ·exact(E.env.trk a (.inr w)).same s
 ·intro hb
  rcases Mn.Hb z with w | w
  ·exact cM a (hm a w) (.inl hb)
  ·exact E.mine a w hb
theorem Ev.put (E:Ev K B M H Z σ)(hi:Z[i]? =some (.ow o))(hs:σ[i]? =some (some v))(s:SameO (M i) H H')(r:ORep K (OO B M) (M i) H' o' v):Ev K B M H' (Z.set i (.ow o')) σ/\SameO M.u H H':=by
 have hl:i<Z.length:=(IC.mp hi).1
 have inO:∀a,M i a->OO B M a\/Nw K H a:=λa z=> .inl (.inr ⟨i,z⟩)
 have idO:∀a,OO B M a->OO B M a\/Nw K H a:=λa z=> .inl z
 refine⟨⟨⟨by rw[JF];exact E.env.len,λj t e=> ?_,λj o2 e=> ?_,E.env.sub,E.env.dis,λa z=> ?_⟩,E.mine⟩,λb u e n=>s b u e λz=>n ⟨i,z⟩⟩
 ·by_cases hj:i=j
  ·subst hj;rw[IP hl]at e;cases e
  ·rw[IL hj]at e
   obtain⟨w,e1,e2⟩:=E.env.val j t e;exact⟨w,e1,e2.move inO idO s⟩
 ·by_cases hj:i=j
  ·subst hj
   rw[IP hl]at e
   cases e;exact⟨v,hs,r⟩
  ·rw[IL hj]at e
   obtain⟨w,e1,e2⟩:=E.env.own j o2 e;exact⟨w,e1,e2.move inO idO s λa z y=>hj (E.env.dis i j a y z)⟩
 ·by_cases hz:M i a
  ·exact r.mtb a hz
  ·rcases E.env.trk a z with⟨vs,e⟩ | ⟨kvs,e⟩
   ·exact .inl ⟨vs,s _ _ e hz⟩
   ·exact .inr ⟨kvs,s _ _ e hz⟩
def disown (i:Nat)(Z:En):En:=match Z[i]? with
 | some (.ow o)=>Z.set i (.va o.view)
 | _=>Z
theorem EnvM.disown {O O':Ow}{Z:En}(E:EnvM K O M H Z σ)(i:Nat)(sub:∀a,O' a->O a)(hn:∀a,M i a->¬ O' a)(hin:∀j a,j≠i->M j a->O' a):EnvM K O' (M.set i xg) H (disown i Z) σ:=by
 have base:EnvM K O' (M.set i xg) H (Z.set i (match Z[i]? with | some (.ow o)=> .va o.view | some x=>x | none=> .em)) σ:=by
  refine⟨by rw[JF];exact E.len,λj t e=> ?_,λj o e=> ?_,λj a z=> ?_,λj k a z1 z2=> ?_,λa z=>E.trk a (sub a z)⟩
  ·by_cases hj:i=j
   ·subst hj
    by_cases hl:i<Z.length
    ·rw[IP hl]at e
     cases q:Z[i]? with
     | none=>rw[q]at e;cases e
     | some z=>
      rw[q]at e
      cases z with
      | em=>cases e
      | va t'=>cases e;obtain⟨w,e1,e2⟩:=E.val i _ q;exact⟨w,e1,e2.less sub⟩
      | ow o=>cases e;obtain⟨w,e1,e2⟩:=E.own i _ q;exact⟨w,e1,e2.rep sub hn⟩
    ·rw[Jt (by rw[JF];omega)]at e;cases e
   ·rw[IL hj]at e
    obtain⟨w,e1,e2⟩:=E.val j t e;exact⟨w,e1,e2.less sub⟩
  ·by_cases hj:i=j
   ·subst hj
    by_cases hl:i<Z.length
    ·rw[IP hl]at e
     cases q:Z[i]? with
     | none=>rw[q]at e;cases e
     | some z=>
      rw[q]at e
      cases z with
      | em=>cases e
      | va t'=>cases e
      | ow o=>cases e
    ·rw[Jt (by rw[JF];omega)]at e;cases e
   ·rw[IL hj]at e
    obtain⟨w,e1,e2⟩:=E.own j o e;refine⟨w,e1,?_⟩
    rw[Mn.Hf (λz=>hj z.symm)]
    exact e2.move (P:=xg) (λ_ z=>z.elim) (λa z=> .inl (sub a z)) (λb u q _=>q) λ_ _ z=>z
  ·unfold Mn.set at z
   by_cases hj:j=i
   ·rw[if_pos hj]at z;exact z.elim
   ·rw[if_neg hj]at z;exact hin j a hj z
  ·unfold Mn.set at z1 z2
   by_cases hj:j=i
   ·rw[if_pos hj]at z1;exact z1.elim
   ·by_cases hk:k=i
    ·rw[if_pos hk]at z2;exact z2.elim
    ·rw[if_neg hj]at z1;rw[if_neg hk]at z2;exact E.dis j k a z1 z2
 unfold Tr.disown
 cases q:Z[i]? with
 | none=>rw[q,List.set_eq_of_length_le (List.getElem?_eq_none_iff.mp q)]at base;exact base
 | some z=>
  rw[q]at base
  cases z with
  | em=>rw[sC q]at base;exact base
  | va t=>rw[sC q]at base;exact base
  | ow o=>exact base
theorem Ev.disown (E:Ev K B M H Z σ)(i:Nat):Ev K B (M.set i xg) H (disown i Z) σ/\∀a,(M.set i xg).u a->M.u a:=by
 have sub:∀a,(M.set i xg).u a->M.u a:=λa z=>(Mn.Hb z).elim (λw=>w.elim) id
 refine⟨⟨E.env.disown i (λa z=>z.elim .inl λw=> .inr (sub a w)) (λa z y=> ?_) λj a hj z=> .inr ⟨j,by rw[Mn.Hf hj];exact z⟩,λa z=>E.mine a (sub a z)⟩,sub⟩
 rcases y with y | ⟨j,y⟩
 ·exact E.mine a ⟨i,z⟩ y
 ·unfold Mn.set at y
  by_cases hj:j=i
  ·rw[if_pos hj]at y;exact y
  ·rw[if_neg hj]at y;exact hj (E.env.dis j i a y z)
end
section
variable {X:Cx}{a:Expr}{es:List Expr}{fa:En->Rs T}{pos p2 p3:Pos}{x:Str}
theorem Ev.subO {K:HX}{B:Ow}{M:Mn}{H:Hp}{i:Nat}{m:Ow}(hm:∀a,m a->Nw K H a)(a:Addr)(z:OO B (M.set i m) a):OO B M a\/Nw K H a:=
 z.elim (λw=> .inl (.inl w)) λw=>(Mn.Hb w).elim (λy=> .inr (hm a y)) λy=> .inl (.inr y)
theorem Bz {K:HX}{H H1:Hp}(s:Same H H1){a:Addr}(n:Nw K H1 a):Nw K H a:=(gR (SameO.of (P:=xg) s) n).elim (λz=>z.elim) id
def ER (X:Cx)(t:TA):TE:=λσ H Q=>t σ H λxs H1=>xs.length<=sizeLine/\∀p,Nw X.K H1 p->Q (.ref p) (upd H1 p (.lst xs))
theorem Bp {t:TA}(h:PA X es t):PE X (.List es pos) (ER X t):=by
 intro pins s σ H Q I hq;refine N7 (cp (h pos pins s σ H _ I hq) λus s1 ⟨xs,H1,I1,r,z,q⟩=>⟨by rw[<-r.length];exact z,?_⟩)
 have hf:H1 s1.heap.objs.size=none:=I1.hok.fresh (Il _)
 have hk:X.K.lookup s1.heap.objs.size=none:=by
  cases q:X.K.lookup s1.heap.objs.size with
  | none=>rfl
  | some o=>exact absurd (Im (I1.kIn _ o q)) (IG _)
 refine⟨.ref s1.heap.objs.size,upd H1 s1.heap.objs.size (.lst xs),I1.laid (t':=s1.toks) (λb u e=>Ii _ e) (Il _) ?_,rfl,q _ ⟨hf,hk⟩⟩
 exact⟨z,us,0,r,Iz _ rfl⟩
def iG (i:Nat)(f:En->Rs (List T))(Z:En):Rs Fl:=do
 let l <-f Z
 if i<Z.length/\l.length<=sizeLine then .ok (.nx (Z.set i (.ow (.lst l))))else .bad
theorem AO (i:Nat){f:En->Rs (List T)}(hN:X.N.Nodup)(ha:qi X es f)(hi:X.N[i]? =some x:=by rfl)(hx:Loc X.env.scope x:=by first | exact KB rfl | exact J9 rfl)(hs:JY (.List es p2) (some (.Name x p3)) pos.line X.env=pure false:=by rfl)
  (hf:X.fn x=true\/X.env.scope.names.lookup x=some .local:=by first | exact .inl rfl | exact .inr rfl | assumption):r6 X (.Assign [.Name x p3] (.List es p2) pos) (iG i f):=PS.imp (yD hN hi hx (Bp ha) hs hf) λD σ H hh_=>by
 obtain⟨Z,B,M,E,h⟩:=hh_;refine⟨Z,OO B M,E.o,?_⟩
 unfold iG at h
 cases q:f Z with
 | bad=>rw[q]at h;exact h.elim
 | err c=>rw[q]at h;exact PostF.xa h
 | ok l=>
  rw[q,aI]at h;intro H1 s1 vs rs
  by_cases hl:i<Z.length/\l.length<=sizeLine
  ·rw[if_pos hl]at h
   refine⟨by rw[<-rs.length];exact hl.2,λp hp=> ?_⟩
   have hm:∀a,a=p->Nw X.K H1 a:=λa z=>z▸hp
   obtain⟨E2,sub⟩:=(E.same s1).new (m:=λa=>a=p) (o:=.lst l) (v:=.ref p) (H':=upd H1 p (.lst vs)) hl.1 hm (bc hp.1 _) ⟨p,vs,rfl,λb=>Mo,bx,(rs.more (Ev.subO hm)).same (bc hp.1 _)⟩
   exact h _ _ _ (SameO.of (s1.trans (bc hp.1 _))) E2 λa z=>(sub a z).imp_right (Bz s1)
  ·rw[if_neg hl]at h
   exact h.elim
def l5 (i:Nat)(f:En->Rs T)(Z:En):Rs Fl:=match Z[i]? with
 | some (.ow (.lst l))=>f Z >>= λt=>if l.length<sizeLine then .ok (.nx (Z.set i (.ow (.lst (l++ [t])))))else .bad
 | _=> .bad
theorem Ev.putL {K:HX}{B:Ow}{M:Mn}{H:Hp}{Z:En}{σ:L2.St}{i:Nat}{o:OT}{l':List T}{b:Addr}{vs':List V}(E:Ev K B M H Z σ)(hi:Z[i]? =some (.ow o))(hs:σ[i]? =some (some (.ref b)))(hM:∀c,M i c↔c=b)(r:Reps K (OO B M) H l' vs') :
  Ev K B M (upd H b (.lst vs')) (Z.set i (.ow (.lst l'))) σ/\SameO M.u H (upd H b (.lst vs')):=by
 have sm:SameO (M i) H (upd H b (.lst vs')):=λc u e nb=>by rw[aY (λz=>nb ((hM c).mpr z))];exact e
 exact E.put hi hs sm ⟨b,vs',rfl,hM,bx,r.move (P:=M i) (λa z=> .inl (.inr ⟨i,z⟩)) (λa z=> .inl z) sm⟩
theorem Dh (i:Nat){apos cpos:Pos}(ha:cE X a fa)(hN:X.N[i]? =some x:=by rfl)(hv:Ae X.env.scope x:=by first | exact KB rfl | exact J9 (KB rfl) | exact J9 (J9 rfl))(hn:cw a=true:=by rfl)
  (hbase:JU (.Name x p2) "append" X.env (eval (.Name x p2) X.env)=eval (.Name x p2) X.env:=by rfl) (hline:(apos.endLine == cpos.line)=true:=by rfl)
  (hd:iV x:=by decide) (hcd:(x == ("__classdict__" : Str))=false:=by decide)
  (hsw:JY (.Call (.Attribute (.Name x p2) "append" apos) [a] [] cpos) none pos.line X.env=pure false:=by rfl):r6 X (.Expr (.Call (.Attribute (.Name x p2) "append" apos) [a] [] cpos) pos) (l5 i fa):=by
 have h1:IA [a] X.env=(false,eval a X.env)::IA [] X.env:=bA hn;refine PS.imp (qH (Co Ld PySem.F.slot_list_append PySem.F.type_list_append pJ (qI hN hv hd hcd) (jm ha m6 h1) hbase ?_ hline h1 rfl) hsw) λD σ H ⟨Z,B,M,E,h⟩=> ?_
 ·rw[h1];rfl
 unfold l5 at h
 split at h
 ·rename_i l hl
  obtain⟨v0,e1,b,vs,rfl,hM,e3,e4⟩:=E.env.own i _ hl;refine⟨.ref b,e1,.inl ⟨rfl,vs,SqL.of e3⟩,Z,OO B M,E.o,?_⟩
  cases q:fa Z with
  | bad=>rw[q]at h;exact h.elim
  | err c=>rw[q]at h;exact PostF.xa h
  | ok t=>
   rw[q,aI]at h
   split at h
   ·rename_i hz
    intro H1 s1 v r
    have e3':=s1 _ _ e3;refine⟨b,vs,v,rfl,rfl,e3',by rw[<-e4.length];exact hz,?_⟩
    obtain⟨g1,g2⟩:=(E.same s1).putL (l':=l++ [t]) (vs':=vs++ [v]) hl e1 hM ((e4.same s1).append (Reps.FS r Reps.GP));exact h σ _ M (λc o e nb=>g2 c o (s1 _ _ e) nb) g1 λc z=> .inl z
   ·exact h.elim
 ·exact h.elim
def Ek (i:Nat)(l:List T)(Z:En):T->Rs Fl
 | .lst m=>if l.length+m.length<=sizeLine then .ok (.nx (Z.set i (.ow (.lst (l++m)))))else .bad
 | _=> .bad
def m4 (i:Nat)(f:En->Rs T)(Z:En):Rs Fl:=match Z[i]? with
 | some (.ow (.lst l))=>f Z >>= Ek i l Z
 | _=> .bad
theorem De (i:Nat){apos cpos:Pos}(ha:cE X a fa)(hN:X.N[i]? =some x:=by rfl)(hv:Ae X.env.scope x:=by first | exact KB rfl | exact J9 (KB rfl) | exact J9 (J9 rfl))(hn:cw a=true:=by rfl)
  (hbase:JU (.Name x p2) "extend" X.env (eval (.Name x p2) X.env)=eval (.Name x p2) X.env:=by rfl) (hline:(apos.endLine == cpos.line)=true:=by rfl)
  (hd:iV x:=by decide) (hcd:(x == ("__classdict__" : Str))=false:=by decide)
  (hsw:JY (.Call (.Attribute (.Name x p2) "extend" apos) [a] [] cpos) none pos.line X.env=pure false:=by rfl):r6 X (.Expr (.Call (.Attribute (.Name x p2) "extend" apos) [a] [] cpos) pos) (m4 i fa):=by
 have h1:IA [a] X.env=(false,eval a X.env)::IA [] X.env:=bA hn;refine PS.imp (qH (Co Ld PySem.F.slot_list_extend PySem.F.type_list_extend xk (qI hN hv hd hcd) (jm ha m6 h1) hbase ?_ hline h1 rfl) hsw) λD σ H ⟨Z,B,M,E,h⟩=> ?_
 ·rw[h1];rfl
 unfold m4 at h
 split at h
 ·rename_i l hl
  obtain⟨v0,e1,b,vs,rfl,hM,e3,e4⟩:=E.env.own i _ hl;refine⟨.ref b,e1,.inl ⟨rfl,vs,SqL.of e3⟩,Z,OO B M,E.o,?_⟩
  cases q:fa Z with
  | bad=>rw[q]at h;exact h.elim
  | err c=>rw[q]at h;exact PostF.xa h
  | ok t=>
   rw[q,aI]at h;unfold Ek at h
   split at h
   ·rename_i m
    split at h
    ·rename_i hz
     intro H1 s1 v r;obtain⟨c,ws,rfl,nO,hc,rm⟩:=Rep.Do.mp r
     have e3':=s1 _ _ e3;refine⟨b,c,vs,ws,rfl,rfl,e3',hc,by rw[<-e4.length,<-rm.length];exact hz,?_⟩
     obtain⟨g1,g2⟩:=(E.same s1).putL (l':=l++m) (vs':=vs++ws) hl e1 hM ((e4.same s1).append rm);exact h σ _ M (λc o e nb=>g2 c o (s1 _ _ e) nb) g1 λc z=> .inl z
    ·exact h.elim
   ·exact h.elim
 ·exact h.elim
def qC (i:Nat)(F:En->Rs Fl)(Z:En):Rs Fl:=F (disown i Z)
theorem Df (i:Nat){st:Stmt}{F:En->Rs Fl}(h:r6 X st F):r6 X st (qC i F):=PS.imp h λD σ H hh_=>by
 obtain⟨Z,B,M,E,q⟩:=hh_;obtain⟨E',sub⟩:=E.disown i;exact⟨disown i Z,B,_,E',PostF.later q (λ_ _ e _=>e) λa z=> .inl (sub a z)⟩
mutual
def T.nk (D:Bool):T->Bool
 | .scr _=>false
 | .dct _ ts=> !D&&nks D ts
 | .lst l=>D&&nks D l
 | .tup l=>nks D l
 | _=>true
def nks (D:Bool):List T->Bool
 | [] =>true
 | t::l=>t.nk D&&nks D l
end
mutual
theorem Rep.lend {K:HX}{O O':Ow}{H:Hp}{D:Bool}(hk:∀a,O a->O' a\/if D then ∃kvs,Rd H a (.dT kvs)else ∃vs,H a=some (.lst vs)):∀{t:T} {v:V},t.nk D=true->Rep K O' H t v->Rep K O H t v
 | .non,_,_,r=>by unfold Rep at r ⊢;exact r
 | .bl _,_,_,r=>by unfold Rep at r ⊢;exact r
 | .int _,_,_,r=>by unfold Rep at r ⊢;exact r
 | .str _,_,_,r=>by unfold Rep at r ⊢;exact r
 | .tup l,_,h,r=>by
  unfold Rep at r ⊢;unfold T.nk at h;obtain⟨a,vs,e,n,q,z⟩:=r;refine⟨a,vs,e,λp=>(hk a p).elim n λw=> ?_,q,Reps.lend hk h z⟩
  split at w
  ·obtain⟨_,w | ⟨_,w⟩⟩:=w <;> rw[q]at w <;> cases w
  ·obtain⟨_,w⟩:=w;rw[q]at w;cases w
 | .lst l,_,h,r=>by
  unfold Rep at r ⊢;unfold T.nk at h;rw[HZ]at h;obtain⟨h1,h2⟩:=h;subst h1;obtain⟨a,vs,e,n,q,z⟩:=r;refine⟨a,vs,e,λp=>(hk a p).elim n λw=> ?_,q,Reps.lend hk h2 z⟩
  rw[if_pos rfl]at w;obtain⟨_,w | ⟨_,w⟩⟩:=w <;> rw[q]at w <;> cases w
 | .scr l,_,h,r=>by unfold T.nk at h;cases h
 | .dct ks ts,_,h,r=>by
  unfold Rep at r ⊢;unfold T.nk at h;rw[HZ]at h;obtain⟨h1,h2⟩:=h
  cases D with
  | true=>cases h1
  | false=>
   obtain⟨a,kvs,e,n,q,k,z⟩:=r;refine⟨a,kvs,e,λp=>(hk a p).elim n λw=> ?_,q,k,Reps.lend hk h2 z⟩
   rw[if_neg IK]at w;obtain⟨_,w⟩:=w;rcases q with q | ⟨_,q⟩ <;> rw[q]at w <;> cases w
theorem Reps.lend {K:HX}{O O':Ow}{H:Hp}{D:Bool}(hk:∀a,O a->O' a\/if D then ∃kvs,Rd H a (.dT kvs)else ∃vs,H a=some (.lst vs)):∀{l:List T} {vs:List V},nks D l=true->Reps K O' H l vs->Reps K O H l vs
 | [],_,_,r=>by unfold Reps at r ⊢;exact r
 | t::l,_,h,r=>by
  unfold Reps at r ⊢;unfold nks at h;rw[HZ]at h;obtain⟨v,ws,e,p,q⟩:=r;exact⟨v,ws,e,Rep.lend hk h.1 p,Reps.lend hk h.2 q⟩
end
def ln (i:Nat)(f:En->Rs T)(Z:En):Rs T:=match Z[i]? with
 | some (.ow o)=>f (disown i Z) >>= λt=>if t.nk o.isD=true then .ok t else .bad
 | _=>f Z
def DV (i:Nat)(f:En->Rs Bool)(Z:En):Rs Bool:=f (disown i Z)
theorem ql {K:HX}{O:Ow}{M:Mn}{H:Hp}{Z:En}{σ:L2.St}(E:EnvM K O M H Z σ)(i:Nat):EnvM K (λa=>O a/\¬ M i a) (M.set i xg) H (disown i Z) σ:=
 E.disown i (λa z=>z.1) (λa z y=>y.2 z) λj a hj z=>⟨E.sub j a z,λy=>hj (E.dis j i a z y)⟩
theorem q_ln (i:Nat){e:Expr}{f:En->Rs T}(h:cE X e f):cE X e (ln i f):=PE.imp h λσ H Q ⟨Z,O,⟨M,E⟩,q⟩=>by
 unfold ln at q
 split at q
 ·rename_i o hi
  refine⟨disown i Z,_,⟨_,ql E i⟩,?_⟩
  obtain⟨w,e1,r⟩:=E.own i o hi;refine Post.mono (Post.bind q) λt H' s q2 v rv=> ?_
  split at q2
  ·rename_i hk
   have kd:=(r.same s).kind;refine q2 H' (Same.refl _) v (Rep.lend (λa z=> ?_) hk rv)
   by_cases hm:M i a
   ·refine .inr ?_
    have this:=kd a hm
    by_cases hD:o.isD=true
    ·rw[if_pos hD]at this ⊢;exact this.imp λ_ z=> .inl z
    ·rw[if_neg hD]at this ⊢;exact this
   ·exact .inl ⟨z,hm⟩
  ·exact q2.elim
 ·exact⟨Z,O,⟨M,E⟩,q⟩
theorem Fe (i:Nat){e:Expr}{f:En->Rs Bool}(h:ug X e f):ug X e (DV i f):=PT.imp h λσ H Q ⟨Z,O,⟨M,E⟩,q⟩=>⟨disown i Z,_,⟨_,ql E i⟩,q⟩
end
end Tr
namespace Tr
open PySem L2
def lE:List T->List T->List Key->Option T
 | k'::ks,v::vs,k=>if cC k'=some k then some v else lE ks vs k
 | _,_,_=>none
def gV (k v:T):List T->List T->List T×List T
 | k'::ks,v'::vs=>if cC k'=cC k then(k'::ks,v::vs)else(k'::(gV k v ks vs).1,v'::(gV k v ks vs).2)
 | _,_=>([k],[v])
def pf (x y:T):Rs T:=match x,cC y with
 | .dct ks vs,some k=>match lE ks vs k with
  | some t=> .ok t
  | none=> .bad
 | _,_=> .bad
def ig (x y:T):Rs T:=match x,cC y with
 | .dct ks vs,some k=>match lE ks vs k with
  | some t=> .ok t
  | none=> .ok .non
 | _,_=> .bad
def xH (x y:T):Rs T:=match y,cC x with
 | .dct ks vs,some k=> .ok (.bl (lE ks vs k).isSome)
 | _,_=> .bad
def oD (g:T->T->Rs T)(fa fb:En->Rs T)(Z:En):Rs T:=fa Z >>= λx=>match x with
 | .dct ks vs=>fb Z >>= g (.dct ks vs)
 | _=> .bad
def oL (g:T->T->Rs T)(fa fb:En->Rs T)(Z:En):Rs T:=fa Z >>= λx=>match x with
 | .lst l=>fb Z >>= g (.lst l)
 | _=> .bad
def EE:List T->Option (List (T×T))
 | [] =>some []
 | .tup [k,v] ::l=>match cC k,EE l with
  | some _,some r=>some ((k,v)::r)
  | _,_=>none
 | _=>none
def i6:List (T×T)->List T×List T->List T×List T
 | [],d=>d
 | (k,v)::r,d=>i6 r (gV k v d.1 d.2)
def wg:List T->Rs T
 | [.lst l] =>match EE l with
  | some ps=>if l.length<=1000 then .ok (.dct (i6 ps ([],[])).1 (i6 ps ([],[])).2)else .bad
  | none=> .bad
 | _=> .bad
def pC (i:Nat)(f:En->Rs T)(Z:En):Rs Fl:=f Z >>= λt=>wg [t] >>= λd=>match d with
 | .dct ks vs=>if i<Z.length then .ok (.nx (Z.set i (.ow (.dct ks vs))))else .bad
 | _=> .bad
def wU (i:Nat)(fk fv:En->Rs T)(Z:En):Rs Fl:=match Z[i]? with
 | some (.ow (.dct ks vs))=>fv Z >>= λv=>fk Z >>= λk=>match cC k with
  | some _=>if ks.length<1000 then .ok (.nx (Z.set i (.ow (.dct (gV k v ks vs).1 (gV k v ks vs).2))))else .bad
  | none=> .bad
 | _=> .bad
def jy (x:T):List T->Nat->Option Nat
 | [],_=>none
 | t::l,n=>if aT t x then some n else jy x l (n+1)
def gf (y x:T):Rs T:=match y with
 | .lst l=>if (x.dep<=60\/deps l<=60)/\x.nd=true/\nds l=true then match jy x l 0 with
   | some n=> .ok (.int n)
   | none=> .bad
  else .bad
 | _=> .bad
def lR (f:En->Rs (List T))(Z:En):Rs T:=f Z >>= λx=>match x with
 | [.int i,.int j] =>if mz i&&mz j&&decide ((j - i).toNat<=1000)then .ok (.lst (rng i j))else .bad
 | [.int j] =>if mz j&&decide (j.toNat<=1000)then .ok (.lst (rng 0 j))else .bad
 | _=> .bad
def Gf (f:En->Rs (List T))(Z:En):Rs (List T):=f Z >>= λx=>match x with
 | [.int i,.int j,.int (-1)] =>if mz i&&mz j then .ok ((Iw (i - j).toNat).map λ(k:Nat)=>T.int (i - (k:Int)))else .bad
 | _=> .bad
def FU:Nat:=1000000000000
end Tr
namespace Tr
open PySem PySem.Spec PyProof.Rows L2
theorem jT {h b b':Heap}:∀{l:List Env},h.FunFrames b l->(∀a∈l.filterMap (·.frame),b'.get? a=none)->h.FunFrames b' l
 | [],_,_=>trivial
 | env::cP,⟨hk,⟨L,o,hf,hn,ho,hd⟩,hr⟩,q=>by
  rw[Kp,hf]at q;exact⟨hk,⟨L,o,hf,q L Ie,ho,hd⟩,jT hr λa ha=>q a (Ia _ ha)⟩
section
variable {M:Model}{A:Jl}{E:H0->Ib->Prop}{s:Ib}
structure Gone (fs:List Addr)(C e:Addr)(T:Option Addr)(h h':Heap)(T':Addr):Prop where
 flt:GO h' C e (some T')
 new:T=some T'\/h.get? T'=none
 keep:∀b o,b∉fs->b≠e->T≠some b->h.get? b=some o->h'.get? b=some o
 slot:∀b o,b∈fs->h.get? b=some o->∃sl,h'.get? b=some { o with slots:=sl }
theorem DX {base:Heap}{env:Env}{outer:List Env}{L C e:Addr}{T:Option Addr}{Q:Unit->Ib->Prop}(hfr:A.frames=some (env::outer))(hl:s.heap.FunFrames base (env::outer))(hf:env.frame=some L)
  (F:GO s.heap C e T) (h:∀h' T',Gone ((env::outer).filterMap (·.frame)) C e T s.heap h' T'->Q () { s with heap:=h' }):wpAny M A (leaving env (.ref e)) Q E s:=by
 generalize hB:OQ s.heap (e::(T.toList++(env::outer).filterMap (·.frame)))=B
 have bm:∀b,b∈e::(T.toList++(env::outer).filterMap (·.frame))->B.get? b=none:=λb m=>by rw[<-hB];exact Nt _ m
 have hl':s.heap.FunFrames B (env::outer):=jT hl λa ha=>bm a (Ia _ (Iy _ ha))
 have hst:B.StaysIn s.heap:=λb o q=>by rw[<-hB]at q;exact NN _ q
 have hen:B.get? e=none:=bm e Ie
 have main:∀h',Heap.Left B (env::outer) e (.ref C) s.heap h'->Q () { s with heap:=h' }:=λh' ⟨x1,x2,⟨oe,vs,T',oT,ts,he,hc,hd,h1,hnT,hTe,hT,hdT,h3⟩,x4⟩=>by
  refine h h' T' ⟨⟨hTe,oe,vs,he,hc,hd,h1,oT,ts,hT,hdT,h3⟩,?_,λb o n1 n2 n3 q=> ?_,λb o m q=> ?_⟩
  ·cases q:s.heap.get? T' with
   | none=>exact .inr rfl
   | some o=>
    left
    by_cases z:T'∈e::(T.toList++(env::outer).filterMap (·.frame))
    ·rcases Ij.mp z with z | z
     ·exact absurd z hTe
     ·rcases IB.mp z with z | z
      ·cases T with
       | none=>simp at z
       | some t=>simp at z;rw[z]
      ·obtain⟨_,o',ho',hnf⟩:=x2.mem z
       rw[hT]at ho';cases ho';exact absurd hdT (hnf ts)
    ·rw[<-hB,LQ _ q z]at hnT;cases hnT
  ·refine x1 b o ?_
   rw[<-hB];refine LQ _ q λz=> ?_
   rcases Ij.mp z with z | z
   ·exact n2 z
   ·rcases IB.mp z with z | z
    ·cases T with
     | none=>simp at z
     | some t=>simp at z;exact n3 (by rw[z])
    ·exact n1 z
  ·obtain⟨_,o',ho',hnf⟩:=hl.mem m
   rw[q]at ho';cases ho';exact x4 b o q hnf
 cases T with
 | none=>
  obtain⟨oe,vs,he,hc,hd,h1⟩:=F;refine wpAny_leaving_first hfr hl' hf he hst hen hd h1 λh' x=>main h' ?_
  rw[hc]at x;exact x
 | some t=>
  obtain⟨hte,oe,vs,he,hc,hd,h1,oT,ts,hT,hdT,h3⟩:=F;exact wpAny_leaving_next hfr hl' hf ⟨oe,vs,t,oT,ts,he,hc,hd,h1,bm t (Ia _ (Ja _ (by simp))),hte,hT,hdT,h3⟩ hst hen main
end
abbrev uj:List H0:=[.type "ValueError",.type "Exception",.type "BaseException",.type "object"]
structure OwnExc (K:HX)(C:Addr)(bm:List H0):Prop where
 at_:∀h:Heap,K.In h->∃nm q N bs hdct sn sub ab col dd k0 k1 k2 k3 k5 mN,h.get? C=some (L4 nm q C N bs bm hdct sn sub ab col dd k0 k1 k2 k3 k5 "ValueError.__new__")/\h.Ns N mN/\mN "__init__" =none/\OwnTail h uj bm
theorem OwnExc.base {K:HX}{C:Addr}{bm:List H0}(O:OwnExc K C bm){h:Heap}(k:K.In h):bm.contains (.type "BaseException")=true:=by
 obtain⟨_,_,_,_,_,_,_,_,_,_,_,_,_,_,_,_,_,_,_,T⟩:=O.at_ h k;exact T.hasType (by decide)
def wV (c:Str)(_:En):Rs Fl:=.err c
section
variable {X:Cx}
theorem yw {c:Str}{msg:Str}{C:Addr}{bm:List H0}{np p1 cpos pos:Pos}{j:Nat}(O:OwnExc X.K C bm)(hc:X.calm=true)(hm:X.mg c=some (.ref C))(hg:Gl X c:=by rfl)(hd:iV c:=by decide) :
  r6 X (.Raise (some (.Call (.Name c np) [.Constant (.str msg) j p1] [] cpos)) none pos) (wV c):=by
 intro pins s σ H D I ⟨Z,B,M,E,k⟩
 have k:XA X M.u H c:=k;obtain⟨nm,q,N,bs,hdct,sn,sub,ab,col,dd,k0,k1,k2,k3,k5,mN,hC,hN,hni,T⟩:=O.at_ s.heap I.kIn;refine wpAny_Raise_call_subU (C:=C) (mN:=mN) (nm:=nm) (q:=q) (N:=N) (bs:=bs) (hdct:=hdct) (sn:=sn) (sub:=sub) (ab:=ab) (col:=col) (dd:=dd) (k0:=k0) (k1:=k1) (k2:=k2) (k3:=k3) (k5:=k5) L9 (Bn:="ValueError") (by decide) L9 (O.base I.kIn) (I.ok.hd hc) (by rfl) hni (kQ I hg hm ⟨rfl,?_⟩ hd)
 show wpAny _ _ (evalArgs (.ref C) true ((false,eval (.Constant (.str msg) j p1) X.env)::backTo cpos (IA [] X.env)) []) _ _ s
 refine KZ (Kg (Calls.Constant_str (J5 ?_)))
 refine⟨rfl,by show 1<=sizeLine;decide,hC,hN,T,λh' e hm'=>k pins _ _ ?_⟩
 obtain⟨t,ht,ht2,ht3⟩:=hm'.there
 have I':Inv X pins σ H { s with heap:=h',toks:=s.toks+1 }:=I.kept (t':=s.toks+1) λb o z=>hm'.keeps b o z
 refine⟨e,none,C,σ,H,rfl,hm,I',λb o z _=>z,?_,?_,⟨_,_,ht,rfl,rfl,rfl⟩,(λt z=>by cases z),λp hp=>⟨λz=> ?_,λz=>by cases z⟩⟩
 ·exact tp I hm'.new
 ·exact λhex=>qY I hex hm'.new
 ·have:=(I.pin p hp).1
  rw[z,show s.heap.get? e=none from hm'.new]at this
  cases this
end
section
variable {P:IJ}{w:JA}{K:HX}{mg:Str->Option H0}{base:Heap}
theorem Ei {x qual:Str}{st:Stmt}{f:Addr}{fd:JT}{N ps:List Str}{k n:Nat}{g:List T->Rs T}(Fn:L2.Fun K x qual st f fd)(S:aD N ps (ak st))(hn:ps.length=n)
  (hbody:∀(cdv:H0) (A:Jl) (outer:List Env) (s:Ib) (H:Hp) (E:XK),Room k (A.deeper (envOfC qual (ak st) s.heap.objs.size f cdv)) →
   ∃F,(∀xe,mi ((lF CX0 P w K mg base N qual (ak st) f cdv A outer s H E).FM xe) (dC st) F)/\∀ts,ts.length=n->∀c,g ts= .err c->F (aQ N.length ts)= .err c):FnX P w K mg base (k+1) f fd ps n g:=by
 intro A outer s H args us vs O ts c R hr e0 hb r rs trk hl hg hR
 have hpl:ps.length<=N.length:=by have:=congrArg KG S.pre;rw[Jb]at this;omega
 obtain⟨oc,od,kV,doc,pm,an,cdv,ct,osl,rfl,lk,hcd⟩:=Fn.ex
 have hlen:vs.length=ps.length:=by rw[<-rs.length,hl,hn]
 have KX:K.In s.heap:=e0.mod.kin.keeps λb o e=>(e0.bs b o e).1
 have lim:s.heap.NoLimit:=e0.mod.nolimit.keeps λb o e=>(e0.bs b o e).1
 have hkind:∀y∈ps.zip us,(ak st).names.lookup y.1=some .local\/((ak st).names.lookup y.1=some .cell/\((Kw (s.heap.objs.size+1) (ak st).names []).lookup y.1).isSome=true):=λ⟨n,v⟩ hy=>by
  rcases S.par n (LU hy).1 with q | q
  ·exact .inl q
  ·exact .inr ⟨q,Lo _ _ _ (.inl q)⟩
 refine Nj hr.depth (KX _ _ lk) rfl S.co S.gen rfl (NP KX hcd) (hb _ _ _ _ ?_)
 refine Mc S.kind hkind λenv he s1 x=> ?_
 subst he;refine⟨lim.keeps x.toInCall.keep,codeAny_func ?_⟩
 obtain⟨F,hF,hv⟩:=hbody cdv A outer s H E0 (hr.deeper _)
 let xe:H0->Ib->Prop:=λev s'=>wpAny (model P w) (A.deeper (envOfC qual (ak st) s.heap.objs.size f cdv)) (leaving (envOfC qual (ak st) s.heap.objs.size f cdv) ev) (λ_ s''=>R (.error ev) s'') (λe' s''=>R (.error e') s'') s'
 have I:Inv ((lF CX0 P w K mg base N qual (ak st) f cdv A outer s H E0).FM xe) [] (start N vs) H s1:=(pQ S hr.hd e0 hlen r x).FM _
 have no:∀a,¬noM.u a:=λa ⟨_,z⟩=>z
 refine La (hF xe [] s1 (start N vs) H { nx:=λ_ _=>False,rt:=λ_ _=>False,bk:=λ_ _=>False,ct:=λ_ _=>False } I ⟨aQ N.length ts,O,noM,pz rs (by omega) trk,?_⟩) (λfl s' z=> ?_) λe s' hs=>hs
 rotate_left
 ·cases fl with
  | next=>obtain⟨_,_,_,z⟩:=z;exact z.elim
  | cont=>obtain⟨_,_,_,z⟩:=z;exact z.elim
  | brk=>obtain⟨_,_,_,z⟩:=z;exact z.elim
  | ret v=>obtain⟨_,_,_,_,_,z⟩:=z;exact z.elim
 rw[hv ts hl c hg];intro pins ev s' w'
 show wpAny _ _ _ _ _ _
 obtain⟨e,T,C,σ',H',rfl,hm,I',sm,he,heo,fl,hT,_⟩:=w'
 have heo:=heo rfl
 have hT:∀t,T=some t->H' t=none/\s.heap.get? t=none:=λt z=>⟨(hT t z).1,(hT t z).2 rfl⟩
 refine DX (base:=base) (outer:=outer) (L:=s.heap.objs.size) I'.ok.frames I'.stack rfl fl λh' T' g=>hR _ _ ?_
 have hex:((lF CX0 P w K mg base N qual (ak st) f cdv A outer s H E0).FM xe).ex= []:=rfl
 have Tn:H' T'=none/\s.heap.get? T'=none:=by
  rcases g.new with z | z
  ·exact hT T' z
  ·exact⟨tp I' z,qY I' hex z⟩
 have out:∀b o,s.heap.get? b=some o->b≠s.heap.objs.size:=λb o q z=>by
  have:=Im q;rw[z]at this;exact absurd this (IG _)
 have mem:∀b,b∈rF ((envOfC qual (ak st) s.heap.objs.size f cdv)::outer)->b=s.heap.objs.size\/b∈rF outer:=λb z=>by
  have z':b∈s.heap.objs.size::rF outer:=z;exact Ij.mp z'
 have ne:∀b o,s.heap.get? b=some o->b≠e/\T≠some b:=λb o q=>⟨λz=>(by subst z;rw[show s.heap.get? b=none from heo]at q;cases q),λz=>(by rw[show s.heap.get? b=none from(hT b z).2]at q;cases q)⟩
 have keepH:∀b u,H' b≠none->s'.heap.get? b=some u->h'.get? b=some u:=λb u hb q=>by
  refine g.keep b u (λz=>hb (I'.G4 b z)) (λz=>hb (by rw[z];exact he)) (λz=>hb (hT b z).1) q
 refine⟨e,T',C,H',rfl,hm,I'.os,I'.bare,⟨λb o q n hb hx=> ?_,λb o q n hb hx=> ?_,λb o q n hx=>I'.base.free b o q n hx,λb o q hx=> ?_,I'.base.tups,I'.base.frzs,I'.base.tbls⟩,λa o q=> ?_,λb o q=>sm b o q (no b),he,heo,g.flt,Tn.1,Tn.2⟩
 ·exact g.keep b o (λz=>(mem b z).elim (out b o q) hb) (ne b o q).1 (ne b o q).2 (I'.base.keep b o q n hb hx)
 ·obtain⟨sl,q1⟩:=I'.base.slot b o q n hb hx
  obtain⟨sl',q2⟩:=g.slot b _ (Ia _ hb) q1;exact⟨sl',q2⟩
 ·obtain⟨o',q1⟩:=I'.base.there b o q hx
  by_cases z:b∈rF ((envOfC qual (ak st) s.heap.objs.size f cdv)::outer)
  ·obtain⟨sl,q2⟩:=g.slot b o' z q1
   exact⟨_,q2⟩
  ·exact⟨o',g.keep b o' z (ne b o q).1 (ne b o q).2 q1⟩
 ·refine(I'.hok a o q).G2 (λb u hb z=>keepH b u ?_ z) (λ_ z=>z) λ_ _ z=>z
  rcases hb with rfl | hb
  ·rw[q];simp
  ·rw[hb];simp
end
theorem Aw {n m:Nat}{F:En->Rs Fl}{ts:List T}{c:Str}(h:val n m F ts= .err c):F (aQ m ts)= .err c:=by
 unfold val at h
 split at h
 ·unfold bD at h
  cases z:F (aQ m ts)with
  | bad=>rw[z]at h;cases h
  | err c'=>rw[z]at h;cases h;rfl
  | ok f=>
   rw[z,aI]at h;cases f <;> cases h
 ·cases h
section
variable {P:IJ}{w:JA}{K:HX}{mg:Str->Option H0}{base:Heap}
theorem Ej {x qual:Str}{st:Stmt}{f:Addr}{fd:JT}{N ps:List Str}{k n:Nat}{F:En->Rs Fl}(Fn:L2.Fun K x qual st f fd)(S:aD N ps (ak st))(hn:ps.length=n)
  (hbody:∀(cdv:H0) (A:Jl) (outer:List Env) (s:Ib) (H:Hp) (E:XK),Room k (A.deeper (envOfC qual (ak st) s.heap.objs.size f cdv)) →
   ∀xe,mi ((lF CX0 P w K mg base N qual (ak st) f cdv A outer s H E).FM xe) (dC st) F):CH P w K mg base (k+1) f fd ps n (val n N.length F):=
 ⟨Gi Fn S hn λcdv A outer s H E hr=>⟨F,hbody cdv A outer s H E hr _,λts _ _ h=>CN h⟩,Ei Fn S hn λcdv A outer s H E hr=>⟨F,hbody cdv A outer s H E hr,λts _ c h=>Aw h⟩⟩
end
section
variable {X:Cx}{a:Expr}{fa:En->Rs T}{pos p:Pos}{x:Str}
theorem Fh:r6 X (.Continue pos) Ck:=PS.imp sR λD σ H ⟨Z,B,M,E,h⟩=>h σ H M (λ_ _ e _=>e) E λa z=> .inl z
end
def calmNames:List Str:=["__init__","__getattribute__","__getattr__","__class__"]
inductive OTail (h:Heap):List H0->Prop
 | base:OTail h uj
 | own {A:Addr} {c0:H0} {dd:Option Addr} {cd:ClassData} {sl:Array (Option H0)} {mA:Str->Option H0} {tl:List H0} :
   h.get? A=some { cls:=c0,dict:=dd,data:=.cls cd,slots:=sl }->h.Ns cd.ns mA->(∀n∈calmNames,mA n=none)->OTail h tl->OTail h (.ref A::tl)
theorem OTail.tail {h:Heap}{tl:List H0}(T:OTail h tl):OwnTail h uj tl:=by
 induction T with
 | base=>exact .base
 | own hA hN hq _ ih=>exact .own hA hN (hq _ (.head _)) ih
structure OX (K:HX)(C:Addr)(bm:List H0):Prop where
 at_:∀h:Heap,K.In h->∃nm q N bs hdct sn sub ab col dd k0 k1 k2 k3 k5 mN,h.get? C=some (L4 nm q C N bs bm hdct sn sub ab col dd k0 k1 k2 k3 k5 "ValueError.__new__")/\h.Ns N mN/\(∀n∈calmNames,mN n=none)/\OTail h bm
theorem OX.own {K:HX}{C:Addr}{bm:List H0}(O:OX K C bm):OwnExc K C bm:=⟨λh k=>by
 obtain⟨nm,q,N,bs,hdct,sn,sub,ab,col,dd,k0,k1,k2,k3,k5,mN,h1,h2,h3,h4⟩:=O.at_ h k;exact⟨nm,q,N,bs,hdct,sn,sub,ab,col,dd,k0,k1,k2,k3,k5,mN,h1,h2,h3 _ (.head _),h4.tail⟩⟩
def yg:H0->Bool
 | .str _ _=>true
 | _=>false
theorem FP {K:HX}{N:Addr}{ob:H0}{oe:Option Addr}{es:Array DictEntry}{n:Nat}{oz:Array (Option H0)}(r:K.lookup N=some ⟨ob,oe,.dict es n,oz⟩)(s:(es.toList.all λe=>yg e.key)=true)
  (u0:LA K N "__init__" =some none) (u1:LA K N "__getattribute__" =some none) (u2:LA K N "__getattr__" =some none) (u3:LA K N "__class__" =some none) :
  ∀h:Heap,K.In h->∃mN,h.Ns N mN/\∀n∈calmNames,mN n=none:=λh k=>by
 refine⟨nsFind es,⟨_,es,n,k _ _ r,rfl,λe he=> ?_,λ_=>rfl⟩,λx hx=> ?_⟩
 ·have:=IR.mp s e (by simpa using he)
  cases q:e.key <;> rw[q]at this <;> first | exact⟨_,_,rfl⟩ | cases this
 ·have key:∀x,LA K N x=some none->nsFind es x=none:=λx u=>by
   unfold LA at u;rw[r]at u;simp only at u
   split at u
   ·cases u
   ·rename_i he
    unfold nsFind findBy;rw[<-NQ,he];rfl
  unfold calmNames at hx;simp only[Ij,IM,or_false]at hx;rcases hx with rfl | rfl | rfl | rfl
  ·exact key _ u0
  ·exact key _ u1
  ·exact key _ u2
  ·exact key _ u3
section
variable {K:HX}{nm q:Str}{C N:Addr}{bs:List H0}{hdct:Bool}{sn:List Str}{sub:List H0}{ab:Bool}{col:Option Bool}{dd:Option Addr}{k0 k1 k2 k3 k5:Option H0}
variable {nm' q':Str}{D N':Addr}{bs':List H0}{hdct':Bool}{sn':List Str}{sub':List H0}{ab':Bool}{col':Option Bool}{dd':Option Addr}{k0' k1' k2' k3' k5':Option H0}
theorem Bt (w:K.lookup C=some (L4 nm q C N bs uj hdct sn sub ab col dd k0 k1 k2 k3 k5 "ValueError.__new__"))(ns:∀h:Heap,K.In h->∃mN,h.Ns N mN/\∀n∈calmNames,mN n=none):OX K C uj:=⟨λh k=>by
 obtain⟨mN,h1,h2⟩:=ns h k;exact⟨nm,q,N,bs,hdct,sn,sub,ab,col,dd,k0,k1,k2,k3,k5,mN,k _ _ w,h1,h2,.base⟩⟩
theorem yR (w:K.lookup C=some (L4 nm q C N bs (.ref D::uj) hdct sn sub ab col dd k0 k1 k2 k3 k5 "ValueError.__new__"))(ns:∀h:Heap,K.In h->∃mN,h.Ns N mN/\∀n∈calmNames,mN n=none)
  (wD:K.lookup D=some (L4 nm' q' D N' bs' uj hdct' sn' sub' ab' col' dd' k0' k1' k2' k3' k5' "ValueError.__new__")) (nsD:∀h:Heap,K.In h->∃mN,h.Ns N' mN/\∀n∈calmNames,mN n=none):OX K C (.ref D::uj):=⟨λh k=>by
 obtain⟨mN,h1,h2⟩:=ns h k;obtain⟨mD,d1,d2⟩:=nsD h k;exact⟨nm,q,N,bs,hdct,sn,sub,ab,col,dd,k0,k1,k2,k3,k5,mN,k _ _ w,h1,h2,.own (k _ _ wD) d1 d2 .base⟩⟩
end
theorem yr (i j:Int):rng i j=((Iw (j - i).toNat).map λ(k:Nat)=>i+(k:Int)).map T.int:=by unfold rng;rw[J3];rfl
theorem vm:∀{xs:List V} {us:List H0},xs.length=us.length->(∀(m:Nat) (u:H0),us[m]? =some u->∃x,xs[m]? =some x/\RelV x u)->Vals xs us
 | [],[],_,_=> .nil
 | [],_::_,h,_=>by cases h
 | _::_,[],h,_=>by cases h
 | x::xs,u::us,h,k=>by
  obtain⟨y,e,r⟩:=k 0 u rfl;cases e;exact .cons r (vm (by simpa using h) λm v hv=>k (m+1) v hv)
theorem vL {X:Cx}{pins:List (Addr×Obj)}{σ:L2.St}{H1:Hp}{s1:Ib}{O:Ow}{Q:VK}{i j:Int}{t t' t2:Tok}{tk0:Nat}(hc:X.A.handled=none)(I1:Inv X pins σ H1 s1)(c1 : -(2 ^ 62)<=i)(c2:i<2 ^ 62)(c3 : -(2 ^ 62)<=j)(c4:j<2 ^ 62)(k3:(j - i).toNat<=1000)(fr:∀p,H1 p=none->¬ O p)
  (q1:∀H',Same H1 H'->∀v,Rep X.K O H' (.lst (rng i j)) v->Q v H') :
  wpAny (model X.prog X.w) X.A (call (.type "list") [.ref s1.heap.objs.size]) (EP X pins σ Q) X.xe { s1 with heap:=s1.heap.push { cls:=.type "range",data:=.fields #[.int i t,.int j t',.int 1 t2] },toks:=tk0 }:=by
 refine call_list_range (n:=(j - i).toNat) hc (OU ..) (small_one c1 c2 c3 c4) (by rw[rangeSize_one];split <;> omega) (by omega) λh' tk acc' c' kp hS hacc=> ?_
 have I2:Inv X pins σ H1 { s1 with heap:=s1.heap.push { cls:=.type "range",data:=.fields #[.int i t,.int j t',.int 1 t2] },toks:=tk0 }:=I1.kept λb o e=>Ii _ e
 have hn:H1 (s1.heap.push { cls:=.type "range",data:=.fields #[.int i t,.int j t',.int 1 t2] }).objs.size=none:=I2.hok.fresh (Il _)
 have hv:Vals (((Iw (j - i).toNat).map λ(k:Nat)=>i+(k:Int)).map V.int) acc'.toList:=by
  refine vm ?_ ?_
  ·simp[hacc.1]
  ·intro m u hu
   have hu':acc'[m]? =some u:=by simpa using hu
   obtain⟨tk,rfl⟩:=hacc.2 m u hu'
   have hm:m<(j - i).toNat:=by
    have:=(Array.getElem?_eq_some_iff.mp hu').1
    rw[hacc.1]at this;exact this
   refine⟨.int (i+(m:Int)),by simp[hm],⟨tk,?_⟩⟩
   rw[Int.mul_one]
 have I3:Inv X pins σ (upd H1 _ (.lst _)) { s1 with heap:=h',toks:=tk }:=I2.laid (t':=tk) (o:=.lst (((Iw (j - i).toNat).map λ(k:Nat)=>i+(k:Int)).map V.int)) kp (Il _) ⟨by rw[Ig,Ig,Jx,KM];omega,acc'.toList,c',hv,by simpa using hS⟩
 refine⟨.ref _,_,I3,rfl,q1 _ (bc hn _) _ ?_⟩
 rw[yr];exact gG hn (fr _ hn) Reps.ints
theorem yy {X:Cx}{a:Expr}{es:List Expr}{fs:En->Rs (List T)}{p1 p2 pos pos2:Pos}(hc:X.calm=true)(h1:X.mg "list" =none)(h2:X.mg "range" =none)(ha:qi X (a::es) fs)(g1:Gl X "list":=by rfl)(g2:Gl X "range":=by rfl)
  (hn:bj (a::es)=true:=by rfl)
  (he2:IA [.Call (.Name "range" p2) (a::es) [] pos2] X.env=(false,eval (.Call (.Name "range" p2) (a::es) [] pos2) X.env)::IA [] X.env:=by rfl) (hpl2:(backTo pos (IA [] X.env)).any (·.1)=false:=by rfl) :
  cE X (.Call (.Name "list" p1) [.Call (.Name "range" p2) (a::es) [] pos2] [] pos) (lR fs):=by
 unfold bj at hn;rw[HZ]at hn;intro pins s σ H Q I ⟨Z,O,E,hq⟩
 have hz:=et E hq
 have b1:IU ("list" : Str)=some (.type "list"):=by decide+kernel
 have b2:IU ("range" : Str)=some (.type "range"):=by decide+kernel
 refine Jj (fF I g1 h1 b1 ?_ (by decide) (by decide))
 refine IS ?_ he2 hpl2
 rw[he2]
 show wpAny _ _ (spliced ((false,eval (.Call (.Name "range" p2) (a::es) [] pos2) X.env)::backTo pos (IA [] X.env))) _ _ s
 refine Kg ?_
 refine Jj (fF I g2 h2 b2 ?_ (by decide) (by decide))
 refine IS (cp (ha pos2 pins s σ H _ I hz) λus s1 ⟨vs,H1,I1,r1,ts,rs,sm,E1,q1⟩=> ?_) (bA hn.1) (fQ hn.2)
 split at q1
 ·rename_i i j
  split at q1
  ·rename_i hk
   rw[HZ,HZ]at hk;obtain⟨⟨k1,k2⟩,k3⟩:=hk;obtain⟨c1,c2⟩:=gh k1;obtain⟨c3,c4⟩:=gh k2
   have k3:=of_decide_eq_true k3;obtain⟨v,ws,rfl,r2,q⟩:=Reps.me.mp rs;obtain⟨v2,rfl,r3⟩:=q.one;cases Rep.AC.mp r2;cases Rep.AC.mp r3
   cases r1 with
   | cons ra rr=>
    cases rr with
    | cons rb rr=>
     cases rr;obtain⟨t,rfl⟩:=ra;obtain⟨t',rfl⟩:=rb;exact call_range_2 (J5 (vL (I.ok.hd hc) I1 c1 c2 c3 c4 k3 (λp=>E1.fresh) q1))
  ·exact q1.elim
 ·rename_i j
  split at q1
  ·rename_i hk
   rw[HZ]at hk;obtain⟨k2,k3⟩:=hk;obtain⟨c3,c4⟩:=gh k2
   have k3:=of_decide_eq_true k3;obtain⟨v,rfl,r2⟩:=rs.one;cases Rep.AC.mp r2
   cases r1 with
   | cons ra rr=>
    cases rr;obtain⟨t,rfl⟩:=ra;exact call_range_1 (J5 (vL (I.ok.hd hc) I1 (by omega) (by omega) c3 c4 (by rw[Int.sub_zero];exact k3) (λp=>E1.fresh) q1))
  ·exact q1.elim
 ·exact q1.elim
end Tr
namespace L2
open PySem PySem.Spec PyProof.Rows
section
variable {κ:Type}[DecidableEq κ]
def jB (kvs:List (κ×V))(k:κ):Option V:=(kvs.find? λkv=>decide (kv.1=k)).map (·.2)
def d9 (kvs:List (κ×V))(k:κ)(v:V):List (κ×V):=
 if (kvs.any λkv=>decide (kv.1=k))=true then kvs.map (λkv=>if kv.1=k then(kv.1,v)else kv)else kvs++ [(k,v)]
theorem ya {k:κ}:jB ([]:List (κ×V)) k=none:=rfl
theorem kx {p:κ×V}{r:List (κ×V)}{k:κ}(e:p.1=k):jB (p::r) k=some p.2:=by simp[jB,KJ,e]
theorem kA {p:κ×V}{r:List (κ×V)}{k:κ}(e:¬ p.1=k):jB (p::r) k=jB r k:=by simp[jB,KJ,e]
theorem sg (k:κ):∀kvs:List (κ×V),(kvs.any λkv=>decide (kv.1=k))=(jB kvs k).isSome
 | [] =>rfl
 | p::r=>by
  rw[Ks]
  by_cases e:p.1=k
  ·simp only[kx e,decide_eq_true e,Bool.true_or,NU]
  ·rw[kA e,decide_eq_false e,NY];exact sg k r
theorem gg (kvs:List (κ×V))(k:κ)(v:V):(d9 kvs k v).length<=kvs.length+1:=by
 unfold d9;split
 ·rw[Ig];omega
 ·rw[Ih,Io,M7];omega
theorem RelO.GZ {o:Option V}{u:Option H0}(r:RelO o u):o.isSome=u.isSome:=by
 cases o with
 | none=>cases u with
  | none=>rfl
  | some _=>exact(show False from r).elim
 | some _=>cases u with
  | none=>exact(show False from r).elim
  | some _=>rfl
theorem RelO.getD {o:Option V}{u:Option H0}{d:V}{d':H0}(r:RelO o u)(rd:RelV d d'):RelV (o.getD d) (u.getD d'):=by
 cases o with
 | none=>cases u with
  | none=>exact rd
  | some _=>exact(show False from r).elim
 | some _=>cases u with
  | none=>exact(show False from r).elim
  | some _=>exact r
theorem KV.val {kvs:List (κ×V)}{vs:List (κ×H0)}(r:KV kvs vs)(k:κ):RelO (jB kvs k) (valueAt vs k):=by
 unfold KV at r
 induction r with
 | nil=>exact KP
 | @cons p q ps qs h t ih=>
  obtain⟨h1,h2⟩:=h
  by_cases e:p.1=k
  ·have e':q.1=k:=h1.symm.trans e
   have b:valueAt (q::qs) k=some q.2:=by simp[valueAt,KJ,e']
   rw[kx e,b];exact h2
  ·have e':¬ q.1=k:=λz=>e (h1.trans z)
   have b:valueAt (q::qs) k=valueAt qs k:=by simp[valueAt,KJ,e']
   rw[kA e,b];exact ih
theorem KV.any {kvs:List (κ×V)}{vs:List (κ×H0)}(r:KV kvs vs)(k:κ):(kvs.any λkv=>decide (kv.1=k))=vs.any λkv=>decide (kv.1=k):=by
 unfold KV at r
 induction r with
 | nil=>rfl
 | cons h t ih=>rw[Ks,Ks,ih,h.1]
theorem KV.HC {kvs:List (κ×V)}{vs:List (κ×H0)}(r:KV kvs vs)(k:κ){y:V}{u:H0}(ry:RelV y u) :
  KV (kvs.map λkv=>if kv.1=k then(kv.1,y)else kv) (vs.map λkv=>if kv.1=k then(kv.1,u)else kv):=by
 unfold KV at r ⊢
 induction r with
 | nil=>exact .nil
 | @cons p q ps qs h t ih=>
  rw[Ic,Ic];refine .cons ?_ ih
  obtain⟨h1,h2⟩:=h
  by_cases e:p.1=k
  ·rw[if_pos e,if_pos (h1.symm.trans e)];exact⟨h1,ry⟩
  ·rw[if_neg e,if_neg (λz=>e (h1.trans z))];exact⟨h1,h2⟩
theorem KV.put {kvs:List (κ×V)}{vs:List (κ×H0)}(r:KV kvs vs)(k:κ){y:V}{u:H0}(ry:RelV y u):KV (d9 kvs k y) (stored vs k u):=by
 unfold d9 stored;rw[r.any k]
 by_cases e:(vs.any λkv=>decide (kv.1=k))=true
 ·rw[if_pos e,if_pos e];exact r.HC k ry
 ·rw[if_neg e,if_neg e];exact Paired.snoc r ⟨rfl,ry⟩
theorem KV.length {kvs:List (κ×V)}{vs:List (κ×H0)}(r:KV kvs vs):kvs.length=vs.length:=MG r
end
theorem tT {P:IJ}{w:JA}{k:Key}{u:H0}(r:RelV (kV k) u):(cL P w).is k u=true:=by
 cases k with
 | inl i=>obtain⟨t,e⟩:=(show ∃t,u=JN i t from r);subst e;exact tJ P w i t
 | inr x=>obtain⟨t,e⟩:=(show ∃t,u=JV x t from r);subst e;exact tI P w x t
theorem pP {P:IJ}{w:JA}:∀{ks:List Key} {us:List H0},Vals (ks.map kV) us->ItemsAre (cL P w) ks us
 | [],_,r=>by rw[LC]at r;cases r;exact .nil
 | k::ks,_,r=>by
  rw[Ic]at r
  cases r with
  | cons h t=>exact .cons (tT h) (pP t)
abbrev KT (H:Hp):List (List Key×V)->List (List Key×Addr×H0)->Prop:=Pg λp q=>p.1=q.1/\H q.2.1=some (.tup (p.1.map kV))/\RelV p.2 q.2.2
theorem KT.val {H:Hp}{kvs:List (List Key×V)}{xs:List (List Key×Addr×H0)}(r:KT H kvs xs)(k:List Key):RelO (jB kvs k) ((atKey xs k).map (·.2)):=by
 induction r with
 | nil=>exact KP
 | @cons p q ps qs h t ih=>
  obtain⟨h1,_,h2⟩:=h
  by_cases e:p.1=k
  ·have e':q.1=k:=h1.symm.trans e
   have b:atKey (q::qs) k=some q.2:=by simp[atKey,KJ,e']
   rw[kx e,b];exact h2
  ·have e':¬ q.1=k:=λz=>e (h1.trans z)
   have b:atKey (q::qs) k=atKey qs k:=by simp[atKey,KJ,e']
   rw[kA e,b];exact ih
theorem KT.HC {H:Hp}{kvs:List (List Key×V)}{xs:List (List Key×Addr×H0)}(r:KT H kvs xs)(k:List Key){y:V}{u:H0}(ry:RelV y u) :
  KT H (kvs.map λkv=>if kv.1=k then(kv.1,y)else kv) (xs.map (putAt k u)):=by
 induction r with
 | nil=>exact .nil
 | @cons p q ps qs h t ih=>
  rw[Ic,Ic];refine .cons ?_ ih
  obtain⟨h1,h2,h3⟩:=h;unfold putAt
  by_cases e:p.1=k
  ·rw[if_pos e,if_pos (h1.symm.trans e)];exact⟨h1,h2,ry⟩
  ·rw[if_neg e,if_neg (λz=>e (h1.trans z))];exact⟨h1,h2,h3⟩
theorem KT.put {H:Hp}{kvs:List (List Key×V)}{xs:List (List Key×Addr×H0)}(r:KT H kvs xs)(k:List Key){b:Addr}{y:V}{u:H0}(hb:H b=some (.tup (k.map kV)))(ry:RelV y u) :
  KT H (d9 kvs k y) (storedH xs k b u):=by
 have e:(kvs.any λkv=>decide (kv.1=k))=(atKey xs k).isSome:=by
  rw[sg,(r.val k).GZ,Oj]
 unfold d9 storedH;rw[e]
 by_cases q:(atKey xs k).isSome=true
 ·rw[if_pos q,if_pos q];exact r.HC k ry
 ·rw[if_neg q,if_neg q];exact Paired.snoc r ⟨rfl,hb,ry⟩
theorem KT.keeps {H H':Hp}{kvs:List (List Key×V)}{xs:List (List Key×Addr×H0)}(r:KT H kvs xs)(ht:∀b ys,H b=some (.tup ys)->H' b=some (.tup ys)):KT H' kvs xs:=
 Paired.HA r λ_ _ z=>⟨z.1,ht _ _ z.2.1,z.2.2⟩
section
variable {P:IJ}{w:JA}{H:Hp}{h:Heap}{a:Addr}
theorem pE {u:HO}(ok:HOk P w H h)(e:Rd H a u):ObjOk P w H h a u:=e.ok ok
theorem qb {kvs:List (Key×V)}(ok:HOk P w H h)(e:Rd H a (.dK kvs)):kvs.length<=sizeLine/\(a == KS)=false/\∃vs,KV kvs vs/\h.DictOf (cL P w) a vs:=
 show ObjOk P w H h a (.dK kvs)from pE ok e
theorem Gn {kvs:List (Key×V)}(ok:HOk P w H h)(e:H a=some (.dK kvs)):kvs.length<=sizeLine/\(a == KS)=false/\∃vs,KV kvs vs/\h.DictOf (cL P w) a vs:=qb ok (.inl e)
theorem lz {ks:List Key}(ok:HOk P w H h)(e:H a=some (.tup (ks.map kV))):(My (cL P w)).is h ks a:=by
 obtain⟨_,its,r,o,h1,h2,n,h3⟩:=(show ObjOk P w H h a (.tup (ks.map kV))from ok a _ e)
 exact⟨o,its.toArray,n,h1,h2,h3,by simpa using pP r⟩
theorem pZ {kvs:List (List Key×V)}(ok:HOk P w H h)(e:Rd H a (.dT kvs)):kvs.length<=sizeLine/\(a == KS)=false ∧
  ∃xs,KT H kvs xs/\h.DictOfH (My (cL P w)) a xs:=by
 obtain⟨z,y,xs,r,o,es,ep,h1,h2,h3,h4,h5⟩:=(show ObjOk P w H h a (.dT kvs)from pE ok e)
 refine⟨z,y,xs,r,o,es,ep,h1,h2,h3,h4,λx hx=> ?_,h5⟩
 have all:∀{l:List (List Key×V)} {m:List (List Key×Addr×H0)},KT H l m->∀x∈m,(My (cL P w)).is h x.1 x.2.1:=by
  intro l m q
  induction q with
  | nil=>intro x hx;exact nomatch hx
  | @cons p q ps qs hq t ih=>
   intro x hx;rcases Ij.mp hx with e | hx
   ·subst e
    exact lz ok (by rw[<-hq.1];exact hq.2.1)
   ·exact ih x hx
 exact all r x hx
theorem z8 {kvs:List (List Key×V)}(ok:HOk P w H h)(e:H a=some (.dT kvs)):kvs.length<=sizeLine/\(a == KS)=false ∧
  ∃xs,KT H kvs xs/\h.DictOfH (My (cL P w)) a xs:=pZ ok (.inl e)
end
def DGet (H:Hp)(a:Addr)(y:V)(r:Option V):Prop:=
 (∃kvs k,Rd H a (.dK kvs)/\y=kV k/\r=jB kvs k)\/∃kvs k b,Rd H a (.dT kvs)/\y= .ref b/\H b=some (.tup (k.map kV))/\r=jB kvs k
def DPut (H:Hp)(a:Addr)(y v:V)(H':Hp):Prop:=
 (∃kvs k,H a=some (.dK kvs)/\y=kV k/\kvs.length<sizeLine/\H'=upd H a (.dK (d9 kvs k v))) ∨
 ∃kvs k b,H a=some (.dT kvs)/\y= .ref b/\H b=some (.tup (k.map kV))/\kvs.length<sizeLine/\H'=upd H a (.dT (d9 kvs k v))
theorem DPut.t {H:Hp}{a b:Addr}{kvs:List (List Key×V)}{k:List Key}{v:V}(e:H a=some (.dT kvs))(eb:H b=some (.tup (k.map kV)))(hl:kvs.length<sizeLine) :
  DPut H a (.ref b) v (upd H a (.dT (d9 kvs k v))):=.inr ⟨kvs,k,b,e,rfl,eb,hl,rfl⟩
section
variable {X:Cx}{pins:List (Addr×Obj)}{σ:St}{H:Hp}{s:Ib}{a:Addr}{y v:V}{u r:H0}{o:Option V}{A:Jl}{E:H0->Ib->Prop}
theorem Inv.big (I:Inv X pins σ H s):KS<s.heap.objs.size:=by
 have h:Jf<s.heap.objs.size:=(I.mod.glob.keeps I.bk).lt;exact Nat.lt_trans (by decide) h
theorem xK {Q:H0->Ib->Prop}(hu:A.units+1<cLine)(I:Inv X pins σ H s)(g:DGet H a y (some v))(ry:RelV y u)(h:∀w' s',Inv X pins σ H s'->RelV v w'->Q w' s') :
  wpAny (model X.prog X.w) A (getItem (.ref a) u) Q E s:=by
 rcases g with⟨kvs,k,e,ey,l⟩ | ⟨kvs,k,b,e,ey,eb,l⟩
 ·subst ey
  obtain⟨z,hd,vs,rel,dd⟩:=qb I.hok e;obtain⟨w',hw,rw'⟩:=RelO.some_of (v:=v) (o:=valueAt vs k) (by rw[l];exact rel.val k)
  exact wpAny_getItem_of (tT ry) dd.mapOf hw (h w' _ (I.tok _) rw')
 ·subst ey
  cases (show u=II b from ry)
  obtain⟨z,hd,xs,rel,dd⟩:=pZ I.hok e;obtain⟨w',hw,rw'⟩:=RelO.some_of (v:=v) (o:=(atKey xs k).map (·.2)) (by rw[l];exact rel.val k)
  obtain⟨p,hp,hp2⟩:=MU.mp hw;refine wpAny_getItem_heap (KC hu) (lz I.hok eb) dd hp ?_
  rw[hp2];exact h w' _ (I.tok _) rw'
theorem d_in {Q:H0->Ib->Prop}(hu:A.units+1<cLine)(I:Inv X pins σ H s)(g:DGet H a y o)(ry:RelV y u)(h:∀s',Inv X pins σ H s'->Q (.bool o.isSome) s') :
  wpAny (model X.prog X.w) A (Jd .In u (.ref a)) Q E s:=by
 rcases g with⟨kvs,k,e,ey,l⟩ | ⟨kvs,k,b,e,ey,eb,l⟩
 ·subst ey
  obtain⟨z,hd,vs,rel,dd⟩:=qb I.hok e;refine wpAny_in_of (tT ry) hd dd.mapOf ?_
  rw[<-(rel.val k).GZ,<-l];exact h _ (I.tok _)
 ·subst ey
  cases (show u=II b from ry)
  obtain⟨z,hd,xs,rel,dd⟩:=pZ I.hok e;refine wpAny_in_heap (KC hu) (lz I.hok eb) hd dd ?_
  have q:=(rel.val k).GZ;rw[Oj]at q;rw[<-q,<-l];exact h _ (I.tok _)
theorem rP {h':Heap}{t':Nat}{ob:HO}(I:Inv X pins σ H s)(mu:Gw (H a))(hs:KD a s.heap h')(he:∃q,h'.get? a=some q)(new:ObjOk X.prog X.w (upd H a ob) h' a ob) :
  Inv X pins σ (upd H a ob) { s with heap:=h',toks:=t' }:=
 I.write (x:=a) (e:=a) mu (.inl rfl) (λb q hb z=>(hs.2 b hb).trans z) he new
theorem Et {P:IJ}{w:JA}{H':Hp}{h':Heap}{kvs:List (Key×V)}{vs:List (Key×H0)}(z:kvs.length<=sizeLine)(hd:(a == KS)=false)(rel:KV kvs vs)(dd:h'.DictOf (cL P w) a vs) :
  ObjOk P w H' h' a (.dK kvs):=⟨z,hd,vs,rel,dd⟩
theorem xJ {H':Hp}{Q:Unit->Ib->Prop}(hu:A.units+1<cLine)(I:Inv X pins σ H s)(g:DPut H a y v H')(ry:RelV y u)(rv:RelV v r)(h:∀s',Inv X pins σ H' s'->Q () s') :
  wpAny (model X.prog X.w) A (setItem (.ref a) u r) Q E s:=by
 rcases g with⟨kvs,k,e,ey,l,eH⟩ | ⟨kvs,k,b,e,ey,eb,l,eH⟩
 ·subst ey eH
  obtain⟨z,hd,vs,rel,dd⟩:=Gn I.hok e
  have hz:vs.length<=sizeLine:=by rw[<-rel.length];exact z
  have hl:(d9 kvs k v).length<=sizeLine:=by have:=gg kvs k v;omega
  refine wpAny_setItem_pairs (hsz:=hz) (tT ry) dd λh' dd' hs=>h _ ?_
  have he:∃q,h'.get? a=some q:=let ⟨q,_,_,hq,_⟩:=dd';⟨q,hq⟩
  exact rP I (by rw[e];exact KP) hs he (Et hl hd (rel.put k rv) dd')
 ·subst ey eH
  cases (show u=II b from ry)
  obtain⟨z,hd,xs,rel,dd⟩:=z8 I.hok e
  have hz:xs.length<=sizeLine:=by rw[<-MG rel];exact z
  have hl:(d9 kvs k v).length<=sizeLine:=by have:=gg kvs k v;omega
  refine wpAny_setItem_heap (hsz:=hz) (KC hu) (lz I.hok eb) dd λh' dd' hs=>h _ ?_
  obtain⟨q,es,ep,hq,h2,h3,h4,_,h5⟩:=dd';refine rP I (by rw[e];exact KP) hs ⟨q,hq⟩ ⟨hl,hd,_,(rel.put k eb rv).keeps λc ys ec=> ?_,q,es,ep,hq,h2,h3,h4,h5⟩
  rw[aY (tG ec e (λz=>nomatch z))]
  exact ec
end
def Cb (i:Expr):Prop:=∀ov iv,NL i false ov iv=operate [ov,iv] (getItem ov iv)
theorem AE {prog:IJ}{w:JA}{A:Jl}{E:H0->Ib->Prop}{s:Ib}{env:Env}{value slice:Expr}{pos:Pos}{T id:String}{Q:H0->Ib->Prop}
  (hl:KU (.type T) "__getitem__" =pure (some (.builtin id))) (hs:Cb slice)
  (h:wpAny (model prog w) A (eval value env) (λo s₁=>wpAny (model prog w) A (eval slice env) (λi s₂=>s₂.TypeIs o T/\wpAny (model prog w) A (getItem o i) Q E s₂) E s₁) E s) :
  wpAny (model prog w) A (eval (.Subscript value slice pos) env) Q E s:=by
 refine Os (La h (λo s₁ h₁=>La h₁ (λi s₂ h₂=> ?_) λ_ _ x=>x) λ_ _ x=>x)
 obtain⟨hT,h₂⟩:=h₂;unfold Ob;refine HY ?_
 rw[getitemInPython_of_ne hT.not_modules];refine HY (Nm hT hl ?_)
 have fin:wpAny (model prog w) A (NL slice false o i) (λr s₃=>wpAny (model prog w) A (letTemporaryGo value o r >>= λ_=>pure r) Q E s₃) E s₂:=by
  rw[hs o i];exact wpAny_operating (La h₂ (λr s₃ h₃=>HY (wpAny_letTemporaryGo (Ik h₃))) λ_ _ x=>x)
 first
  | exact Ik (HY fin)
  | exact HY (Ik (HY fin))
  | exact HY fin
theorem ub {X:Cx}{pins:List (Addr×Obj)}{σ:St}{H:Hp}{s:Ib}{a:Addr}{y:V}{o:Option V}(I:Inv X pins σ H s)(g:DGet H a y o):s.TypeIs (.ref a) "dict":=by
 rcases g with⟨kvs,k,e,_,_⟩ | ⟨kvs,k,b,e,_,_,_⟩
 ·obtain⟨_,_,vs,_,dd⟩:=qb I.hok e
  exact dd.typeIs
 ·obtain⟨_,_,xs,_,dd⟩:=pZ I.hok e
  exact dd.typeIs
def EV (td ty:TE):TE:=λσ H Q=>td σ H λx H1=>ty σ H1 λy H2=> ∃a v,x= .ref a/\DGet H2 a y (some v)/\Q v H2
def E5 (td ty tv:TE):TS:=λD σ H=>tv σ H λv H1=>td σ H1 λx H2=>ty σ H2 λy H3=> ∃a H4,x= .ref a/\DPut H3 a y v H4/\D.nx σ H4
section
variable {X:Cx}{o i e value:Expr}{pos pos' tpos:Pos}{td ty tv:TE}
theorem Br (hu:X.A.units+1<cLine)(ho:PE X o td)(hi:PE X i ty)(hs:Cb i):PE X (.Subscript o i pos) (EV td ty):=by
 intro pins s σ H Q I h;refine AE PySem.F.slot_dict_getitem.lookup hs (cp (ho pins s σ H _ I h) λu s1 ⟨x,H1,I1,rx,q1⟩=>cp (hi pins s1 σ H1 _ I1 q1) λiv s2 hh_=> ?_)
 obtain⟨y,H2,I2,ry,a,v,ex,g,q2⟩:=hh_;subst ex;obtain rfl:u=II a:=rx;exact⟨ub I2 g,xK hu I2 g ry λw' s3 I3 rw'=>⟨v,H2,I3,rw',q2⟩⟩
theorem Bd (hu:X.A.units+1<cLine)(ho:PE X o td)(hi:PE X i ty)(hv:PE X value tv)(hs:JY value (some (.Subscript o i pos')) pos.line X.env=pure false) :
  PS X (.Assign [.Subscript o i pos'] value pos) (E5 td ty tv):=by
 intro pins s σ H D I h;refine wpAny_Assign_Subscript (cp (hv pins s σ H _ I h) λr s1 ⟨v,H1,I1,rv,q1⟩=>cp (ho pins s1 σ H1 _ I1 q1) λu s2 ⟨x,H2,I2,rx,q2⟩=>cp (hi pins s2 σ H2 _ I2 q2) λiv s3 ⟨y,H3,I3,ry,a,H4,ex,g,q3⟩=> ?_) hs
 subst ex;obtain rfl:u=II a:=rx;exact xJ hu I3 g ry rv λs4 I4=>⟨σ,H4,I4,q3⟩
end
theorem z9 {P:IJ}{w:JA}{H:Hp}(h:Heap)(hb:KS<h.objs.size):ObjOk P w H (h.push { cls:=.type "dict",data:=.dict #[] }) h.objs.size (.dT []):=
 ⟨Kq _,beq_eq_false_iff_ne.mpr (K5 (Js hb)),[],.nil,_,#[],0,Iz _ rfl,⟨rfl,rfl,rfl⟩,rfl,rfl,Kz⟩
structure M1 (X:Cx)(o:Expr)(m:Str)(apos:Pos)(e:Expr)(cpos:Pos):Prop where
 base:JU o m X.env (eval o X.env)=eval o X.env
 few:((backTo cpos (IA [e] X.env)).all (λx=> !x.1)&&(backToKw cpos (NK [] X.env)).all (λx=>x.1.isSome)
  &&decide (([e]:List Expr).length+([]:List Oq).length+(if ([]:List Oq).isEmpty then 0 else 1)<30))=true
 line:(apos.endLine == cpos.line)=true
 trees:backTo cpos (IA [e] X.env)= [(false,eval e X.env)]
structure M2 (X:Cx)(o:Expr)(m:Str)(apos:Pos)(e f:Expr)(cpos:Pos):Prop where
 base:JU o m X.env (eval o X.env)=eval o X.env
 few:((backTo cpos (IA [e,f] X.env)).all (λx=> !x.1)&&(backToKw cpos (NK [] X.env)).all (λx=>x.1.isSome)
  &&decide (([e,f]:List Expr).length+([]:List Oq).length+(if ([]:List Oq).isEmpty then 0 else 1)<30))=true
 line:(apos.endLine == cpos.line)=true
 trees:backTo cpos (IA [e,f] X.env)= [(false,eval e X.env),(false,eval f X.env)]
def IsD (H:Hp)(a:Addr):Prop:=(∃kvs,Rd H a (.dK kvs))\/∃kvs,Rd H a (.dT kvs)
theorem Ee {X:Cx}{pins:List (Addr×Obj)}{σ:St}{H:Hp}{s:Ib}{a:Addr}(I:Inv X pins σ H s)(d:IsD H a) :
  s.TypeIs (.ref a) "dict"/\(∀b,II a= .ref b->∃ob,s.heap.get? b=some ob/\ob.dict=none)/\(a == KS)=false:=by
 rcases d with⟨kvs,e⟩ | ⟨kvs,e⟩
 ·obtain⟨_,hd,vs,_,dd⟩:=qb I.hok e
  refine⟨dd.typeIs,λb q=> ?_,hd⟩
  cases q;obtain⟨ob,_,_,h1,h2,_⟩:=dd;exact⟨ob,h1,h2.2.1⟩
 ·obtain⟨_,hd,xs,_,dd⟩:=pZ I.hok e
  refine⟨dd.typeIs,λb q=> ?_,hd⟩
  cases q;obtain⟨ob,_,_,h1,h2,_⟩:=dd;exact⟨ob,h1,h2.2.1⟩
section
variable {X:Cx}{pins:List (Addr×Obj)}{σ:St}{H:Hp}{s:Ib}{a:Addr}{y d:V}{u r:H0}{o:Option V}{A:Jl}{E:H0->Ib->Prop}
theorem Eu {Q:H0->Ib->Prop}(hu:A.units+1<cLine)(I:Inv X pins σ H s)(g:DGet H a y o)(ry:RelV y u)(h:∀w' s',Inv X pins σ H s'->RelV (o.getD .non) w'->Q w' s') :
  wpAny (model X.prog X.w) A (call (.builtin "dict.get") [.ref a,u]) Q E s:=by
 rcases g with⟨kvs,k,e,ey,l⟩ | ⟨kvs,k,b,e,ey,eb,l⟩
 ·subst ey
  obtain⟨z,hd,vs,rel,dd⟩:=qb I.hok e;refine call_meetsIn LB dd.typeIs MR (MD _ _) (meets_dict_get (cL X.prog X.w) a (tT ry) hd) ⟨_,dd.mapOf,h _ _ (I.tok _) ?_⟩
  rw[l];exact(rel.val k).getD rfl
 ·subst ey
  cases (show u=II b from ry)
  obtain⟨z,hd,xs,rel,dd⟩:=pZ I.hok e;refine call_meetsIn LB dd.typeIs MR (MD _ _) (meetsH_dict_get (My (cL X.prog X.w)) a b hd) ⟨KC hu,k,xs,lz I.hok eb,dd,h _ _ (I.tok _) ?_⟩
  rw[l];exact(rel.val k).getD rfl
end
def CT (td ty:TE):TE:=λσ H Q=>td σ H λx H1=> ∃a,x= .ref a/\IsD H1 a/\ty σ H1 λy H2=> ∃o,DGet H2 a y o/\Q (o.getD .non) H2
section
variable {X:Cx}{o e f:Expr}{apos cpos:Pos}{td ty tx:TE}
theorem yN (hu:X.A.units+1<cLine)(ho:PE X o td)(he:PE X e ty)(m:M1 X o "get" apos e cpos):PE X (.Call (.Attribute o "get" apos) [e] [] cpos) (CT td ty):=by
 intro pins s σ H Q I h;refine wpAny_Call_method m.base m.few m.line PySem.F.plainAttrs_dict LB PySem.F.type_dict_get (cp (ho pins s σ H _ I h) λu s1 hh_=> ?_)
 obtain⟨x,H1,I1,rx,a,ex,d,q1⟩:=hh_;subst ex;obtain rfl:u=II a:=rx;obtain⟨t1,t2,_⟩:=Ee I1 d;refine⟨t1,t2,?_⟩
 rw[m.trees];refine Lq rfl (KZ (Kg (cp (he pins s1 σ H1 _ I1 q1) λiv s2 ⟨y,H2,I2,ry,ov,g,q2⟩=>J5 ?_)))
 exact Eu hu I2 g ry λw' s3 I3 rw'=>⟨_,H2,I3,rw',q2⟩
end
end L2
namespace Tr
open PySem PySem.Spec PyProof.Rows L2
theorem DGet.HF {H:Hp}{a b:Addr}{kvs:List (List Key×V)}{k:List Key}(e:Rd H a (.dT kvs))(eb:H b=some (.tup (k.map kV))):DGet H a (.ref b) (jB kvs k):=.inr ⟨kvs,k,b,e,rfl,eb,rfl⟩
theorem Cy {k:Nat}{A:Jl}(h:Room k A):A.units+1<cLine:=by have:=h.un;omega
theorem nZ {K:HX}{O:Ow}{H:Hp}:∀{l:List T} {vs:List V} {k:List Key},n4 l=some k->Reps K O H l vs->vs=k.map kV
 | [],vs,k,h,r=>by cases Reps.Da.mp r;cases h;rfl
 | t::l,vs,k,h,r=>by
  obtain⟨v,ws,rfl,p,q⟩:=Reps.me.mp r;unfold n4 at h
  cases e1:Ct t with
  | none=>rw[e1]at h;cases h
  | some a=>
   cases e2:n4 l with
   | none=>rw[e1,e2]at h;cases h
   | some b=>
    rw[e1,e2]at h;cases h;rw[nZ e2 q,Ic]
    congr 1
    cases t with
    | int i=>cases e1;exact Rep.AC.mp p
    | str x=>cases e1;exact Rep.GR.mp p
    | _=>cases e1
theorem kR {K:HX}{O:Ow}{H:Hp}{y:T}{v:V}{k:List Key}(h:cC y=some k)(r:Rep K O H y v):∃b,v= .ref b/\H b=some (.tup (k.map kV)):=by
 cases y with
 | tup l=>
  obtain⟨a,vs,e1,_,e3,e4⟩:=Rep.Fk.mp r;rw[nZ h e4]at e3
  exact⟨a,e1,e3⟩
 | _=>cases h
theorem kX {K:HX}{O:Ow}{H:Hp}{k:List Key}:∀{ks ts:List T} {kvs:List (List Key×V)},ks.map cC=kvs.map (λp=>some p.1)->Reps K O H ts (kvs.map (·.2))->match lE ks ts k with
  | some t=> ∃v,jB kvs k=some v/\Rep K O H t v
  | none=>jB kvs k=none
 | [],ts,kvs,h,r=>by
  cases kvs with
  | nil=>unfold lE;exact ya
  | cons _ _=>cases h
 | k'::ks,ts,kvs,h,r=>by
  cases kvs with
  | nil=>cases h
  | cons p kvs=>
   rw[Ic,Ic]at h;injection h with h1 h2
   rw[Ic]at r
   cases ts with
   | nil=>have:=Reps.Da.mp r;cases this
   | cons t ts=>
    obtain⟨v,ws,e,q1,q2⟩:=Reps.me.mp r;injection e with e1 e2
    subst e1 e2;unfold lE
    by_cases hk:cC k'=some k
    ·rw[if_pos hk]
     rw[h1]at hk;injection hk with hk
     exact⟨_,kx hk,q1⟩
    ·rw[if_neg hk]
     have hk2:¬ p.1=k:=λz=>hk (by rw[h1,z])
     rw[kA hk2];exact kX h2 q2
theorem qF {κ:Type}[DecidableEq κ]{k:κ}{p:κ×V}{r:List (κ×V)}{v:V}(h:¬ p.1=k):d9 (p::r) k v=p::d9 r k v:=by
 unfold d9;rw[Ks,decide_eq_false h,NY]
 by_cases q:(r.any λkv=>decide (kv.1=k))=true
 ·rw[if_pos q,if_pos q,Ic,if_neg h]
 ·rw[if_neg q,if_neg q];rfl
theorem qG {κ:Type}[DecidableEq κ]{k:κ}{p:κ×V}{r:List (κ×V)}{v:V}(h:p.1=k)(hn:∀q∈r,q.1≠k):d9 (p::r) k v=(p.1,v)::r:=by
 unfold d9;rw[Ks,decide_eq_true h,Bool.true_or,if_pos rfl,Ic,if_pos h]
 congr 1
 conv=>rhs;rw[<-O0 r]
 exact Ju λq hq=>if_neg (hn q hq)
theorem oo {K:HX}{O:Ow}{H:Hp}{kT vT:T}{k:List Key}{v:V}(hk:cC kT=some k)(hv:Rep K O H vT v):∀{ks ts:List T} {kvs:List (List Key×V)},ks.map cC=kvs.map (λp=>some p.1)->Reps K O H ts (kvs.map (·.2))->(kvs.map (·.1)).Nodup →
  (gV kT vT ks ts).1.map cC=(d9 kvs k v).map (λp=>some p.1)/\Reps K O H (gV kT vT ks ts).2 ((d9 kvs k v).map (·.2))
 | [],ts,kvs,h,r,_=>by
  cases kvs with
  | nil=>
   unfold gV;refine⟨?_,Reps.FS hv Reps.GP⟩
   simp[d9,hk]
  | cons _ _=>cases h
 | k'::ks,ts,kvs,h,r,hn=>by
  cases kvs with
  | nil=>cases h
  | cons p kvs=>
   rw[Ic,Ic]at h;injection h with h1 h2
   rw[Ic]at r;rw[Ic]at hn;obtain⟨n1,n2⟩:=IT.mp hn
   cases ts with
   | nil=>have:=Reps.Da.mp r;cases this
   | cons t ts=>
    obtain⟨v',ws,e,q1,q2⟩:=Reps.me.mp r;injection e with e1 e2
    subst e1 e2;unfold gV
    by_cases hz:cC k'=cC kT
    ·rw[if_pos hz]
     have hp:p.1=k:=by rw[hz,hk]at h1;injection h1 with h1;exact h1.symm
     rw[qG hp λq hq z=>n1 (by rw[hp,<-z];exact ND hq)]
     exact⟨by rw[Ic,Ic,h1,h2],Reps.FS hv q2⟩
    ·rw[if_neg hz]
     have hp:¬ p.1=k:=λz=>hz (by rw[h1,z,hk])
     obtain⟨a1,a2⟩:=oo hk hv h2 q2 n2;rw[qF hp];exact⟨by rw[Ic,Ic,h1,a1],Reps.FS q1 a2⟩
theorem Cc {H:Hp}{kvs:List (List Key×V)}{xs:List (List Key×Addr×H0)}(rel:KT H kvs xs):kvs.map (·.1)=xs.map (·.1):=by
 induction rel with
 | nil=>rfl
 | cons h t ih=>rw[Ic,Ic,ih,h.1]
theorem Ab {X:Cx}{pins:List (Addr×Obj)}{σ:L2.St}{H:Hp}{s:Ib}{a:Addr}{kvs:List (List Key×V)}(I:Inv X pins σ H s)(e:H a=some (.dT kvs)):(kvs.map (·.1)).Nodup/\kvs.length<=sizeLine:=by
 obtain⟨z,_,xs,rel,_,_,_,_,_,_,_,_,hn⟩:=z8 I.hok e;rw[Cc rel];exact⟨hn,z⟩
section
variable {X:Cx}{a b:Expr}{fa fb:En->Rs T}{pos:Pos}
theorem Fw (hu:X.A.units+1<cLine)(ha:cE X a fa)(hb:cE X b fb)(hs:Cb b:=by intro _ _;rfl):cE X (.Subscript a b pos) (o2 pf fa fb):=by
 refine PE.imp (Br hu ha hb hs) λσ H Q ⟨Z,O,E,hq⟩=> ?_
 obtain⟨Z1,O1,E1,h1⟩:=a6 E hq;refine⟨Z1,O1,E1,Post.mono h1 λt H1 s1 q v r=> ?_⟩
 obtain⟨t',r',s',E',q'⟩:=q v r;obtain⟨Z2,O2,E2,h2⟩:=a6 (f:=fb) E' q';refine⟨Z2,O2,E2,Post.mono h2 λt2 H2 s2 q2 v2 r2=> ?_⟩
 obtain⟨t2',r2',s2',E2',q2'⟩:=q2 v2 r2
 have r'':=r'.same s2';unfold pf at q2'
 split at q2'
 ·rename_i ks vs k hk
  split at q2'
  ·rename_i x hx
   obtain⟨a,kvs,e1,e2,e3,e4,e5⟩:=Rep.GQ.mp r'';obtain⟨b,f1,f2⟩:=kR hk r2'
   have g:=kX (k:=k) e4 e5;rw[hx]at g;obtain⟨w,g1,g2⟩:=g;exact⟨a,w,e1,by rw[f1,<-g1];exact DGet.HF e3 f2,q2' H2 (Same.refl H2) w g2⟩
  ·exact q2'.elim
 ·exact q2'.elim
end
end Tr
namespace Tr
open PySem PySem.Spec PyProof.Rows L2
open PySem.SeqAt
theorem zd {A:Jl}{s:Ib}{x:T}{ux:H0}(rx:ReV s x ux)(hu:A.units+60<cLine){l:List T}{us:List H0}(hd:x.dep<=60\/deps l<=60)(r:ReVs s l us) :
  ∃e:H0->Bool,(∀y∈us,EqAt A s y ux (e y))/\us.map e=l.map λt=>aT t x:=by
 classical
 have ex:∀y∈us,∃t∈l,ReV s t y:=λy hy=>by
  obtain⟨i,hi,rfl⟩:=Kr hy
  have hl:=r.length
  have e1:l[i]? =some l[i]:=by simp
  obtain⟨u,q1,q2⟩:=r.get e1
  have:us[i]? =some us[i]:=by simp
  rw[this]at q1;cases q1;exact⟨l[i],JK _,q2⟩
 let e:H0->Bool:=λy=>decide (∃t∈l,ReV s t y/\aT t x=true)
 have dep:∀t∈l,t.dep<=60\/x.dep<=60:=λt ht=>by
  rcases hd with h | h
  ·exact .inr h
  ·obtain⟨i,hi,rfl⟩:=Kr ht
   exact .inl (IQ (i7 (i:=i) (by simp)) h)
 have uniq:∀y t t',ReV s t y->ReV s t' y->aT t x=aT t' x:=λy t t' z z'=>by
  rw[<-kZ t,<-kZ t',ReV.nf z z']
 have agree:∀y t,t∈l->ReV s t y->e y=aT t x:=λy t h z=>by
  show decide (∃t∈l,ReV s t y/\aT t x=true)=aT t x
  cases q:aT t x with
  | true=>exact decide_eq_true ⟨t,h,z,q⟩
  | false=>
   refine decide_eq_false ?_
   rintro ⟨t',h',z',q'⟩
   rw[<-uniq y t t' z z',q]at q';cases q'
 refine⟨e,λy hy=> ?_,?_⟩
 ·obtain⟨t,h,z⟩:=ex y hy
  rw[agree y t h z];exact(BP 60 A s t x y ux (dep t h) hu z rx).1
 ·have go:∀(l':List T) (us':List H0),(∀t∈l',t∈l)->ReVs s l' us'->us'.map e=l'.map λy=>aT y x:=by
   intro l'
   induction l' with
   | nil=>intro us' _ r';rw[ReVs.Da.mp r'];rfl
   | cons t l' ih=>
    intro us' sub r';obtain⟨u,ws,rfl,p,q⟩:=ReVs.me.mp r';rw[Ic,Ic,ih ws (λt ht=>sub t (Ia _ ht)) q,agree u t (sub t Ie) p]
  exact go l us (λ_ h=>h) r
theorem oh {x:T}:∀{l:List T} {n k:Nat},jy x l n=some k->n<=k/\(l.map λt=>aT t x)[k - n]? =some true/\∀m,m<k - n->(l.map λt=>aT t x)[m]? =some false
 | [],n,k,h=>by cases h
 | t::l,n,k,h=>by
  unfold jy at h
  cases q:aT t x with
  | true=>
   rw[q,if_pos rfl]at h;cases h;refine⟨Il _,?_,λm hm=>by omega⟩
   rw[K9,Ic,q];rfl
  | false=>
   rw[q,if_neg (by decide)]at h
   obtain⟨h1,h2,h3⟩:=oh h
   have e:k - n=(k - (n+1))+1:=by omega
   refine⟨by omega,?_,λm hm=> ?_⟩
   ·rw[e,Ic,JJ];exact h2
   ·cases m with
    | zero=>rw[Ic,q];rfl
    | succ m=>rw[Ic,JJ];exact h3 m (by omega)
section
variable {X:Cx}{a b:Expr}{fa fb:En->Rs T}{pos apos cpos:Pos}
theorem yz (hu:X.A.units+61<cLine)(ha:cE X a fa)(hb:cE X b fb)(hn:cw b=true:=by rfl)
  (hbase:JU a "index" X.env (eval a X.env)=eval a X.env:=by rfl) (hline:(apos.endLine == cpos.line)=true:=by rfl):cE X (.Call (.Attribute a "index" apos) [b] [] cpos) (oL gf fa fb):=by
 have hs:IA [b] X.env=(false,eval b X.env)::IA [] X.env:=bA hn;intro pins s σ H Q I ⟨Z,O,E,hq⟩;refine MZ hbase (by rw[hs];rfl) hline rfl (cp (ha pins s σ H _ I (a6 E hq)) λv s1 hh_=> ?_)
 obtain⟨x,H1,I1,r1,t,rt,s',E',q1⟩:=hh_
 cases t with
 | lst l=>
  obtain⟨c,vs,e1,e2,e3,e4⟩:=Rep.Do.mp rt;subst e1;obtain rfl:v=II c:=r1;obtain⟨h1,h2⟩:=yd I1 (show RelV (.ref c) (.ref c)from rfl) (.inl ⟨rfl,vs,SqL.of e3⟩)
  refine⟨_,_,Ld,PySem.F.slot_list_index,PySem.F.type_list_index,h1,h2,?_⟩
  rw[hs];refine Lq rfl (KZ (Kg (cp (hb pins s1 σ H1 _ I1 (a6 (f:=fb) E' q1)) λu s2 ⟨y,H2,I2,r2,t2,rt2,s'',E'',q2⟩=>J5 ?_)))
  unfold gf at q2
  split at q2
  ·rename_i l' heq
   cases heq
   split at q2
   ·rename_i hd3
    obtain⟨hd,hnx,hny⟩:=hd3
    split at q2
    ·rename_i k hk
     have rv:=Rep.val I2 (show(T.lst l).nd=true by unfold T.nd;exact hny) (rt.same s'') (show RelV (.ref c) (.ref c)from rfl)
     unfold ReV at rv;obtain⟨c',us,ec,hl,rs⟩:=rv;cases ec;obtain⟨⟨cls,dd,data,sl⟩,ho,hc,n,hdd⟩:=id hl;simp only at hc hdd;subst hc hdd;obtain⟨e,he,ha⟩:=zd (A:=X.A.in1) (Rep.val I2 hnx rt2 r2) (by show X.A.units+1+60<cLine;omega) hd rs
     obtain⟨_,k1,k2⟩:=oh hk;rw[M8]at k1 k2;rw[<-ha]at k1 k2
     have hkl:k<us.length:=by have:=(IC.mp k1).1;rwa [Ig]at this
     have hz:us.length<=sizeLine:=by
      have z:=(I2.G1 (s'' _ _ e3)).1
      have h3:=rs.length
      have h4:=e4.length;omega
     refine LP F.slot_list_index ⟨_,ho,rfl⟩ F.entry_list_index (F.args_list_index_2 _ _) (list_indexAt c us.toArray n dd sl u e k (by simpa using hkl) (by rw[KM]at hz;omega) ?_ ?_) ⟨ho,λy hy=>he y (by simpa using hy),?_⟩
     ·have:=(IC.mp k1).2
      rw[MP]at this
      simpa using this
     ·intro m hm hmk
      have:=(IC.mp (k2 m hmk)).2
      rw[MP]at this
      simpa using this
     ·exact⟨.int _,H2,I2.tok _,⟨_,rfl⟩,q2 H2 (Same.refl H2) _ (Rep.GS _)⟩
    ·exact q2.elim
   ·exact q2.elim
  ·rename_i hno
   exact(hno l rfl).elim
 | _=>exact q1.elim
theorem Dn (hu:X.A.units+1<cLine)(ha:cE X a fa)(hb:cE X b fb)(hn:cw b=true:=by rfl)
  (hbase:JU a "get" X.env (eval a X.env)=eval a X.env:=by rfl) (hline:(apos.endLine == cpos.line)=true:=by rfl):cE X (.Call (.Attribute a "get" apos) [b] [] cpos) (oD ig fa fb):=by
 have hs:IA [b] X.env=(false,eval b X.env)::IA [] X.env:=bA hn;refine PE.imp (yN hu ha hb ⟨hbase,by rw[hs];rfl,hline,by rw[hs];rfl⟩) λσ H Q ⟨Z,O,E,hq⟩=> ?_
 obtain⟨Z1,O1,E1,h1⟩:=a6 E hq;refine⟨Z1,O1,E1,Post.mono h1 λt H1 s1 q v r=> ?_⟩
 obtain⟨t',r',s',E',q'⟩:=q v r
 cases t' with
 | dct ks vs=>
  obtain⟨c,kvs,e1,e2,e3,e4,e5⟩:=Rep.GQ.mp r';refine⟨c,e1,.inr ⟨kvs,e3⟩,?_⟩
  obtain⟨Z2,O2,E2,h2⟩:=a6 (f:=fb) E' q';refine⟨Z2,O2,E2,Post.mono h2 λt2 H2 s2 q2 v2 r2=> ?_⟩
  obtain⟨t2',r2',s2',E2',q2'⟩:=q2 v2 r2;unfold ig at q2'
  split at q2'
  ·rename_i ks' vs' k heq hk
   cases heq;obtain⟨b,f1,f2⟩:=kR hk r2'
   have g:=kX (k:=k) e4 (e5.same s2');refine⟨jB kvs k,by rw[f1];exact DGet.HF (Rd.Hu (P:=xg) (SameO.of s2') (λz=>z) e3) f2,?_⟩
   cases hx:lE ks vs k with
   | some z=>
    rw[hx]at g q2';obtain⟨w,g1,g2⟩:=g;rw[g1]
    exact q2' H2 (Same.refl H2) w g2
   | none=>
    rw[hx]at g q2';rw[g];exact q2' H2 (Same.refl H2) .non Rep.HG
  ·exact q2'.elim
 | _=>exact q'.elim
theorem yS (hu:X.A.units+1<cLine):OpT X (Jd .In) xH:=by
 intro pins s σ H O x y vx vy ux uy Q I hf rx ry r1 r2 hp;unfold xH at hp
 split at hp
 ·rename_i ks vs k hk
  obtain⟨c,kvs,e1,e2,e3,e4,e5⟩:=Rep.GQ.mp ry;obtain⟨b,f1,f2⟩:=kR hk rx;subst e1 f1;obtain rfl:uy=II c:=r2
  have g:=kX (k:=k) e4 e5
  have hsome:(lE ks vs k).isSome=(jB kvs k).isSome:=by
   cases hx:lE ks vs k with
   | some z=>rw[hx]at g;obtain⟨w,g1,_⟩:=g;rw[g1];rfl
   | none=>rw[hx]at g;rw[g];rfl
  refine d_in hu I (DGet.HF e3 f2) r1 λs' I'=>⟨.bl _,H,I',rfl,?_⟩
  rw[<-hsome];exact hp H (Same.refl H) _ (Rep.bl_ _)
 ·exact hp.elim
end
end Tr
namespace Tr
open PySem PySem.Spec PyProof.Rows L2
section
variable {X:Cx}{a b c:Expr}{fa fb fc:En->Rs T}{pos p2 p3 p4:Pos}{x:Str}
theorem C8 (i:Nat)(hu:X.A.units+1<cLine)(hb:cE X b fb)(hc:cE X c fc)(hN:X.N[i]? =some x:=by rfl)(hv:Ae X.env.scope x:=by first | exact KB rfl | exact J9 (KB rfl) | exact J9 (J9 rfl))
  (hd:iV x:=by decide) (hcd:(x == ("__classdict__" : Str))=false:=by decide)
  (hs:JY c (some (.Subscript (.Name x p2) b p3)) pos.line X.env=pure false:=by rfl):r6 X (.Assign [.Subscript (.Name x p2) b p3] c pos) (wU i fb fc):=by
 intro pins s σ H D I ⟨Z,B,M,E,h⟩;refine Bd hu (qI hN hv hd hcd) hb hc hs pins s σ H D I ?_
 unfold wU at h
 split at h
 ·rename_i ks vs hl
  obtain⟨v0,e1,d,kvs,rfl,hM,e3,e4,e5⟩:=E.env.own i _ hl;obtain⟨nd,nz⟩:=Ab I e3;refine⟨Z,OO B M,E.o,?_⟩
  cases q:fc Z with
  | bad=>rw[q]at h;exact h.elim
  | err c=>rw[q]at h;exact PostF.xa h
  | ok vT=>
   rw[q,aI]at h;intro H1 s1 v r;refine⟨.ref d,e1,Z,OO B M,(E.same s1).o,?_⟩
   have h1:=h.later (SameO.of s1) (P1:=M.u) λa z=> .inl z
   cases q2:fb Z with
   | bad=>rw[q2]at h1;exact h1.elim
   | err c=>rw[q2]at h1;exact PostF.xa h1
   | ok kT=>
    rw[q2,aI]at h1;intro H2 s2 y ry
    cases q3:cC kT with
    | none=>rw[q3]at h1;exact h1.elim
    | some k=>
     rw[q3]at h1
     have h2:=h1.later (SameO.of s2) (P1:=M.u) λa z=> .inl z
     have hlen:ks.length=kvs.length:=by have:=congrArg KG e4;simpa using this
     by_cases hz:ks.length<1000
     ·simp only[if_pos hz]at h2
      obtain⟨kb,f1,f2⟩:=kR q3 ry
      have e3':=s2 _ _ (s1 _ _ e3);obtain⟨g1,g2⟩:=oo q3 (r.same s2) e4 ((e5.same s1).same s2) nd;refine⟨d,upd H2 d (.dT (d9 kvs k v)),rfl,by rw[f1];exact DPut.t e3' f2 (by rw[KM];omega),?_⟩
      have sm:SameO (M i) H2 (upd H2 d (.dT (d9 kvs k v))):=λc u e nb=>by rw[aY (λz=>nb ((hM c).mpr z))];exact e
      obtain⟨g3,g4⟩:=((E.same s1).same s2).put (o':=.dct (gV kT vT ks vs).1 (gV kT vT ks vs).2) hl e1 sm ⟨d,_,rfl,hM,bx,g1,g2.move (P:=M i) (λa z=> .inl (.inr ⟨i,z⟩)) (λa z=> .inl z) sm⟩
      exact h2 σ _ M g4 g3 λc z=> .inl z
     ·simp only[if_neg hz]at h2
      exact h2.elim
 ·exact h.elim
end
end Tr
namespace PySem
open Sem (wp)
namespace F
theorem lk_list_keys:KU (.type "list") "keys" =pure none:=by rw[L5,KN];kernel_rfl
theorem lk_list_getattr:KU (.type "list") "__getattr__" =pure none:=by rw[L5,KN];kernel_rfl
end F
section
variable {prog:IJ}{w:JA}{A:Jl}{E:H0->Ib->Prop}{h:Heap}{g:Array GenState}{d:Drawn}{t:Nat}{os:OsState}{a:Addr}{its:Array H0}{n:Nat}
theorem l9 {tk:Tok}{Q:Fin->Ib->Prop}(hx:h.get? a=some { cls:=.type "list",data:=.seq its n })(hh:A.handled=none)
  (hq:∀h' tk' e,O4 h h' e (.ref a) "keys"->E (.ref e) ⟨h',g,d,tk',os⟩) :
  wpAny (model prog w) A (Builtin.«object.__getattribute__» ⟨[.ref a,.str "keys" tk],[]⟩) Q E ⟨h,g,d,t,os⟩:=by
 have hT:(⟨h,g,d,t,os⟩:Ib).TypeIs (.ref a) "list":=⟨_,hx,rfl⟩
 have f4:=F.lk_list_keys
 repeat (any_goals (first | assumption | wp_step))
 exact wpAny_raiseAttrError hh (λh' tk e hx=>hq h' tk e hx) (attrMsg_fits (by decide+kernel) (by rw[KM];decide))
theorem nX {tk:Tok}{R:Result->Ib->Prop}(hx:h.get? a=some { cls:=.type "list",data:=.seq its n })(hh:A.handled=none)
  (hq:∀h' tk' e,O4 h h' e (.ref a) "keys"->R (.error (.ref e)) ⟨h',g,d,tk',os⟩) :
  codeAny (model prog w) A (.call (.builtin "list.__getattribute__") ⟨[.ref a,.str "keys" tk],[]⟩) R ⟨h,g,d,t,os⟩:=
 codeAny_call_builtin Km.plain F.entry_list_ga (Km.check _ _ _ _ _ _ _ _ (show(⟨h,g,d,t,os⟩:Ib).TypeIs (.ref a) "list" from⟨_,hx,rfl⟩) (F.args_list_getattribute_2 _ _) (l9 hx hh hq))
theorem nY {Q:Option H0->Ib->Prop}(hx:h.get? a=some { cls:=.type "list",data:=.seq its n })(hh:A.handled=none)
  (hq:∀h' tk',(∀b o,h.get? b=some o->h'.get? b=some o)->Q none ⟨h',g,d,tk',os⟩):wpAny (model prog w) A (getAttr? (.ref a) "keys") Q E ⟨h,g,d,t,os⟩:=by
 have hT:∀tk,(⟨h,g,d,tk,os⟩:Ib).TypeIs (.ref a) "list":=λ_=>⟨_,hx,rfl⟩
 have f1:=sub_AttributeError
 have f2:=Km.lookup
 have f3:=Km.bind (.ref a)
 have f5:=F.lk_list_getattr;unfold getAttr? getAttrBy? getAttrBy
 repeat (any_goals (first | assumption | exact hT _ | wp_step))
 refine nX hx hh λh' tk' e hx'=> ?_
 obtain⟨t',u',he⟩:=hx'.there
 repeat (any_goals (first | assumption | exact hT _ | wp_step))
 exact hq _ _ hx'.keeps
end
end PySem
namespace PySem.F
theorem entry_dict_update_loop:entryFor table "dict.update.loop" =some Builtin.«dict.update.loop»:=entryFor_of_tree (by kernel_rfl)
theorem plain_dict_update_loop:plainId "dict.update.loop" =true:=by decide+kernel
end PySem.F
namespace Tr
open PySem PySem.Spec PyProof.Rows L2
def iH (kvs:List (List Key×V)):List (List Key×V)->List (List Key×V)
 | [] =>kvs
 | p::ps=>iH (d9 kvs p.1 p.2) ps
def PairsAt (H:Hp):List V->List (List Key×V)->Prop
 | [],ps=>ps= []
 | x::xs,ps=> ∃b kb p r,ps=p::r/\x= .ref b/\H b=some (.tup [.ref kb,p.2])/\H kb=some (.tup (p.1.map kV))/\PairsAt H xs r
theorem PairsAt.upd {H:Hp}{d:Addr}{kvs:List (List Key×V)}{o:HO}(hd:H d=some (.dT kvs)):∀{xs:List V} {ps:List (List Key×V)},PairsAt H xs ps->PairsAt (L2.upd H d o) xs ps
 | [],_,h=>h
 | x::xs,_,⟨b,kb,p,r,e1,e2,e3,e4,e5⟩=>⟨b,kb,p,r,e1,e2,by rw[aY (tG e3 hd (λz=>nomatch z))];exact e3,by rw[aY (tG e4 hd (λz=>nomatch z))];exact e4,e5.upd hd⟩
theorem qo {H:Hp}{d:Addr}{a b:HO}:upd (upd H d a) d b=upd H d b:=by
 funext c
 by_cases h:c=d
 ·rw[h,bx,bx]
 ·rw[aY h,aY h,aY h]
section
variable {X:Cx}{pins:List (Addr×Obj)}{σ:L2.St}{A:Jl}{res:H0}{R:Result->Ib->Prop}{d l it:Addr}{xs:List V}
theorem xI (hh:A.handled=none)(hu:A.units+3<cLine):∀(k i:Nat) (s:Ib) (H:Hp) (kvs ps:List (List Key×V)),xs.length - i=k->i<=xs.length->H l=some (.lst xs)->H d=some (.dT kvs)->kvs.length+(xs.length - i)<=1000->Inv X pins σ H s->s.heap.IsListIter it l i->oE X pins H it->PairsAt H (xs.drop i) ps →
  (∀s',Inv X pins σ (upd H d (.dT (iH kvs ps))) s'->R (.ok (.ret res)) s')->codeAny (model X.prog X.w) A (.builtin "dict.update.loop" ⟨[.ref d,.ref it,rawInt i,res],[]⟩) R s:=by
 intro k
 induction k with
 | zero=>
  intro i s H kvs ps hk hi hl hd hz I hit hf hp hR;refine L6 F.entry_dict_update_loop ?_
  rw[K0 F.plain_dict_update_loop _];obtain⟨z,its,n,r,hlen,e⟩:=I.G1 hl
  have hL:s.heap.IsList l its.toArray:=⟨_,e,rfl,n,rfl⟩
  show wpAny _ A.in1 (pyNext (.ref it) >>= _) _ _ s
  refine HY (Nh hh hit hL (by simp;omega) λh' hm=> ?_)
  show wpAny _ _ (Builtin.Dict.addKeywords d [] >>= _) _ _ _
  refine HY (Ik (Ik ?_))
  have hnil:xs.drop i= []:=Ls (by omega)
  rw[hnil]at hp;unfold PairsAt at hp;subst hp
  have e2:upd H d (.dT (iH kvs []))=H:=by
   funext b
   by_cases hb:b=d
   ·rw[hb,bx,hd];rfl
   ·rw[aY hb]
  rw[e2]at hR
  exact hR _ (I.G5 (fp:=[it]) (t':=s.toks) (λb hb=>by rw[Iv.mp hb];exact hf) λb o hb eb=>hm b o (λz=>hb (by rw[z];exact Iv.mpr rfl)) eb)
 | succ k ih=>
  intro i s H kvs ps hk hi hl hd hz I hit hf hp hR;refine L6 F.entry_dict_update_loop ?_
  rw[K0 F.plain_dict_update_loop _];obtain⟨z,its,n,r,hlen,e⟩:=I.G1 hl
  have hL:s.heap.IsList l its.toArray:=⟨_,e,rfl,n,rfl⟩
  have hlt:i<xs.length:=by omega
  have hlt':i<its.length:=by omega
  show wpAny _ A.in1 (pyNext (.ref it) >>= _) _ _ s
  refine HY (MV hit hL (x:=its[i]) (by simp[hlt']) λh' hit' hm=> ?_)
  have I1:Inv X pins σ H { s with heap:=h' }:=I.G5 (fp:=[it]) (t':=s.toks) (λb hb=>by rw[Iv.mp hb];exact hf) λb o hb eb=>(hm.2 b (λz=>hb (by rw[z];exact Iv.mpr rfl))).trans eb
  have hdrop:xs.drop i=xs[i] ::xs.drop (i+1):=K2 hlt;rw[hdrop]at hp;obtain⟨b,kb,p,r',rfl,ex,hb,hkb,hp'⟩:=hp
  have rx:RelV xs[i] its[i]:=by
   obtain⟨u,q1,q2⟩:=r.get (Ir hlt)
   rw[Ir hlt']at q1
   cases q1;exact q2
  rw[ex]at rx
  have eu:its[i] =II b:=rx;rw[eu];obtain⟨z2,its2,r2,ob,hob1,hob2,nb,hob3⟩:=(show ObjOk X.prog X.w H h' b (.tup [.ref kb,p.2])from I1.hok b _ hb)
  obtain⟨u1,us1,q1,rfl⟩:∃u1 us1,RelV (V.ref kb) u1/\its2=u1::us1:=by cases r2 with | cons a b=>exact⟨_,_,a,rfl⟩
  cases r2 with
  | cons ra rb=>
   obtain⟨u2,q2,rfl⟩:∃u2,RelV p.2 u2/\us1= [u2]:=by cases rb with | cons a b=>cases b;exact⟨_,a,rfl⟩
   obtain rfl:u1=II kb:=q1
   show wpAny _ A.in1 (holding [II b] _ >>= _) _ _ _
   refine HY (Ln ?_)
   refine HY (wpAny_tryCatch ?_)
   unfold Builtin.Dict.pairItems;refine HY (Lb (s:={ s with heap:=h' }) (T:="tuple") ⟨ob,hob1,hob2⟩ ?_)
   rw[if_pos (by decide)]
   refine HY (Mr (s:={ s with heap:=h' }) hob1 hob3 (Ik ?_))
   show wpAny _ _ (holding [II kb,u2] (dictSet d (.ref kb) u2)) _ _ _
   refine Ln ?_
   obtain⟨zz,hds,xs2,rel,dd⟩:=z8 I1.hok hd
   have hzl:xs2.length<=sizeLine:=by rw[<-MG rel];exact zz
   have hkl:kvs.length<sizeLine:=by rw[KM];omega
   have hl2:(d9 kvs p.1 p.2).length<=sizeLine:=by have:=gg kvs p.1 p.2;omega
   refine wpAny_dictSet_heap (hsz:=hzl) (KC (by show A.units+1<cLine;omega)) (lz I1.hok hkb) dd λh2 dd2 hs2=> ?_
   obtain⟨q,es,ep,hq,h22,h3,h4,_,h5⟩:=dd2
   have I2:Inv X pins σ (upd H d (.dT (d9 kvs p.1 p.2))) { s with heap:=h2,toks:=s.toks+(My (cL X.prog X.w)).draws p.1 }:=
    rP (s:={ s with heap:=h' }) I1 (by rw[hd];exact KP) hs2 ⟨q,hq⟩ ⟨hl2,hds,_,(rel.put p.1 hkb q2).keeps λc ys ec=>by rw[aY (tG ec hd (λz=>nomatch z))];exact ec,q,es,ep,hq,h22,h3,h4,h5⟩
   have hld:l≠d:=tG hl hd (λz=>nomatch z)
   have hitd:it≠d:=λz=>by have:=hf.1;rw[z,hd]at this;cases this
   have hcast:(i:Int)+1=((i+1:Nat):Int):=by omega
   refine Ik ⟨LO F.plain_dict_update_loop _,?_⟩
   rw[hcast];refine ih (i+1) _ (upd H d (.dT (d9 kvs p.1 p.2))) (d9 kvs p.1 p.2) r' (by omega) (by omega) (by rw[aY hld];exact hl) bx (by have:=gg kvs p.1 p.2;omega) I2 ?_ ⟨by rw[aY hitd];exact hf.1,hf.2⟩ (hp'.upd hd) λs' I'=> ?_
   ·obtain⟨oi,ho1,ho2,ho3⟩:=hit'
    exact⟨oi,(hs2.2 it hitd).trans ho1,ho2,ho3⟩
   ·rw[qo]at I'
    exact hR s' I'
end
theorem PairsAt.same {H H':Hp}(s:Same H H'):∀{xs:List V} {ps:List (List Key×V)},PairsAt H xs ps->PairsAt H' xs ps
 | [],_,h=>h
 | x::xs,_,⟨b,kb,p,r,e1,e2,e3,e4,e5⟩=>⟨b,kb,p,r,e1,e2,s _ _ e3,s _ _ e4,e5.same s⟩
section
variable {X:Cx}{pins:List (Addr×Obj)}{σ:L2.St}{A:Jl}{E:H0->Ib->Prop}{H:Hp}{s:Ib}{l:Addr}{xs:List V}{ps:List (List Key×V)}
theorem Aa {Q:H0->Ib->Prop}(hh:A.handled=none)(hu:A.units+8<cLine)(I:Inv X pins σ H s)(hl:H l=some (.lst xs))(hz:xs.length<=1000)(hp:PairsAt H xs ps)
  (h:∀p s',Nw X.K H p->Inv X pins σ (upd H p (.dT (iH [] ps))) s'->Q (.ref p) s'):wpAny (model X.prog X.w) A (call (.type "dict") [.ref l]) Q E s:=by
 have hk:X.K.lookup s.heap.objs.size=none:=by
  cases q:X.K.lookup s.heap.objs.size with
  | none=>rfl
  | some o=>exact absurd (Im (I.kIn _ o q)) (IG _)
 have hn:H s.heap.objs.size=none:=I.hok.fresh (Il _)
 have hlp:l≠s.heap.objs.size:=λz=>by rw[z,hn]at hl;cases hl
 refine callType_codes (Q₁:=λobj s₁=>obj= .ref s.heap.objs.size/\s₁= { s with heap:=s.heap.push { cls:=.type "dict",data:=.dict #[] } }) F.kt_called_dict (F.kt_typeCall_dict_1 _) F.entry_dict_init (kt_code_dict_new _ ⟨rfl,rfl⟩) ?_
 rintro obj s₁ ⟨rfl,rfl⟩
 have I1:Inv X pins σ (upd H s.heap.objs.size (.dT [])) { s with heap:=s.heap.push { cls:=.type "dict",data:=.dict #[] } }:=I.laid (a:=s.heap.objs.size) (o:=.dT []) (t':=s.toks) (λ_ _ q=>Ii _ q) (Il _) (z9 s.heap I.big)
 have hT:({ s with heap:=s.heap.push { cls:=.type "dict",data:=.dict #[] } }:Ib).TypeIs (.ref s.heap.objs.size) "dict":=⟨_,Iz _ rfl,rfl⟩
 have hl1:upd H s.heap.objs.size (.dT []) l=some (.lst xs):=by rw[aY hlp];exact hl
 obtain⟨z,its,n,r,hlen,e⟩:=I1.G1 hl1;refine⟨hT,F.args_dict_init_2 _ _,?_⟩
 unfold Builtin.«dict.__init__»;refine HY ?_
 unfold Builtin.Dict.selfAndRest;refine HY (wpAny_notOrdered_dict hT ?_)
 show wpAny _ _ (pure (s.heap.objs.size,[II l])) _ _ _
 refine Ik ?_
 show wpAny _ _ (ME "dict.__init__" s.heap.objs.size (.ref l) [] .none) _ _ _
 unfold ME;refine HY (Lb (T:="list") ⟨_,e,rfl⟩ ?_)
 rw[if_pos (by decide)]
 refine HY (nY e hh λh' tk' kp=> ?_)
 have I2:Inv X pins σ (upd H s.heap.objs.size (.dT [])) { s with heap:=h',toks:=tk' }:=I1.kept (t':=tk') kp
 rw[if_pos (by rfl)]
 refine HY (Nr ?_)
 have eL:({ s with heap:=h',toks:=tk' }:Ib).heap.IsList l its.toArray:=⟨_,kp _ _ e,rfl,n,rfl⟩
 refine HY (Mz eL ?_)
 have I3:Inv X pins σ (upd H s.heap.objs.size (.dT [])) { s with heap:=h'.push { cls:=.type "list_iterator",data:=.fields #[.ref l,.int 0 0] },toks:=tk' }:=I2.kept (t':=tk') λb u q=>Ii _ q
 have hpl:s.heap.objs.size<h'.objs.size:=Im (kp _ _ (Iz _ rfl))
 have hni:upd H s.heap.objs.size (.dT []) h'.objs.size=none:=by
  rw[aY (Kf hpl)];exact I.hok.fresh (KF hpl)
 have hp1:PairsAt (upd H s.heap.objs.size (.dT [])) xs ps:=hp.same (bc hn _);refine Ik ⟨LO F.plain_dict_update_loop _,?_⟩
 refine xI (A:=A.in1) (X:=X) (pins:=pins) (σ:=σ) (l:=l) (xs:=xs) (it:=h'.objs.size) hh (by show A.units+1+3<cLine;omega) xs.length 0 _ (upd H s.heap.objs.size (.dT [])) [] ps (by omega) (Kq _) hl1 bx (by simp;omega) I3 ⟨_,Iz _ rfl,rfl,rfl⟩ (I2.Hd (Il _) hni) hp1 λs' I'=> ?_
 rw[qo]at I';exact⟨rfl,h _ _ ⟨hn,hk⟩ I'⟩
end
theorem hu8 {k:Nat}{A:Jl}(h:Room k A):A.units+8<cLine:=by have:=h.un;omega
theorem uN {kvs:List (List Key×V)}{k:List Key}{v:V}(h:(kvs.map (·.1)).Nodup):((d9 kvs k v).map (·.1)).Nodup:=by
 unfold d9
 by_cases a:(kvs.any λkv=>decide (kv.1=k))=true
 ·rw[if_pos a,J3]
  have:((λx=>x.1)∘λkv:List Key×V=>if kv.1=k then(kv.1,v)else kv)=λx=>x.1:=by
   funext x
   show(if x.1=k then(x.1,v)else x).1=x.1
   by_cases e:x.1=k
   ·rw[if_pos e]
   ·rw[if_neg e]
  rw[this];exact h
 ·rw[if_neg a,JG,JQ]
  refine⟨h,by simp,λx hx y hy=> ?_⟩
  simp only[Ic,LC,Iv]at hy;subst hy;intro z;subst z;obtain⟨p,hp,e⟩:=ID.mp hx;exact a (OH.mpr ⟨p,hp,decide_eq_true e⟩)
def GK (K:HX)(O:Ow)(H:Hp):List (T×T)->List (List Key×V)->Prop
 | [],ps=>ps= []
 | a::l,ps=> ∃p r,ps=p::r/\cC a.1=some p.1/\Rep K O H a.2 p.2/\GK K O H l r
theorem p0 {K:HX}{O:Ow}{H:Hp}:∀{l:List (T×T)} {ps:List (List Key×V)} {ks ts:List T} {kvs:List (List Key×V)},GK K O H l ps->ks.map cC=kvs.map (λp=>some p.1)->Reps K O H ts (kvs.map (·.2))->(kvs.map (·.1)).Nodup →
  (i6 l (ks,ts)).1.map cC=(iH kvs ps).map (λp=>some p.1)/\Reps K O H (i6 l (ks,ts)).2 ((iH kvs ps).map (·.2))
 | [],ps,ks,ts,kvs,h,h1,h2,hn=>by unfold GK at h;subst h;exact⟨h1,h2⟩
 | (a,b)::l,ps,ks,ts,kvs,h,h1,h2,hn=>by
  obtain⟨p,r,rfl,e1,e2,e3⟩:=h;obtain⟨g1,g2⟩:=oo (vT:=b) e1 e2 h1 h2 hn
  show(i6 l (gV a b ks ts)).1.map cC=(iH (d9 kvs p.1 p.2) r).map (λp=>some p.1)/\Reps K O H (i6 l (gV a b ks ts)).2 ((iH (d9 kvs p.1 p.2) r).map (·.2))
  exact p0 (l:=l) e3 g1 g2 (uN hn)
theorem vB {K:HX}{O:Ow}{H:Hp}:∀{l:List T} {tps:List (T×T)} {xs:List V},EE l=some tps->Reps K O H l xs->∃ps,PairsAt H xs ps/\GK K O H tps ps
 | [],tps,xs,h,r=>by cases Reps.Da.mp r;cases h;exact⟨[],rfl,rfl⟩
 | t::l,tps,xs,h,r=>by
  obtain⟨v,ws,rfl,p,q⟩:=Reps.me.mp r;unfold EE at h
  split at h
  ·rename_i heq;cases heq
  ·rename_i k v' l' heq
   cases heq
   split at h
   ·rename_i kk rr hk hr
    cases h;obtain⟨ps,g1,g2⟩:=vB hr q;obtain⟨b,vs,e1,e2,e3,e4⟩:=Rep.Fk.mp p;obtain⟨u1,us1,rfl,f1,f2⟩:=Reps.me.mp e4;obtain⟨u2,us2,rfl,f3,f4⟩:=Reps.me.mp f2;cases Reps.Da.mp f4;obtain⟨kb,f5,f6⟩:=kR hk f1;subst f5;exact⟨(kk,u2)::ps,⟨b,kb,(kk,u2),ps,rfl,e1,e3,f6,g1⟩,⟨(kk,u2),ps,rfl,hk,f3,g2⟩⟩
   ·cases h
  ·cases h
section
variable {X:Cx}{e:Expr}{f:En->Rs T}{x y:Str}{p pos p2 p3:Pos}
def CS (X:Cx)(f:En->Rs T):TE:=λσ H Q=>tP X f σ H λv H'=> ∃a xs ps,v= .ref a/\H' a=some (.lst xs)/\xs.length<=1000/\PairsAt H' xs ps/\∀q,Nw X.K H' q->Q (.ref q) (upd H' q (.dT (iH [] ps)))
theorem yM (hu:X.A.units+8<cLine)(hc:X.calm=true)(hm:X.mg "dict" =none)(ha:cE X e f)(hg:Gl X "dict")(hs:cw e=true):PE X (.Call (.Name "dict" p) [e] [] pos) (CS X f):=by
 have h1:IA [e] X.env=(false,eval e X.env)::IA [] X.env:=bA hs;intro pins s σ H Q I hq;refine Jj (fF I hg hm (show IU "dict" =some (.type "dict")by decide+kernel) ?_ (by decide) (by decide))
 refine IS (cp (jm (te:=tP X f) ha m6 h1 pos pins s σ H (λxs H'=> ∃v,xs= [v]/\∃a xs ps,v= .ref a/\H' a=some (.lst xs)/\xs.length<=1000/\PairsAt H' xs ps/\∀q,Nw X.K H' q->Q (.ref q) (upd H' q (.dT (iH [] ps)))) I ?_) λus s1 hh=> ?_) h1 rfl
 ·obtain⟨Z,O,E,h⟩:=hq
  exact⟨Z,O,E,Post.mono h λt H' _ g v r=>⟨v,rfl,g v r⟩⟩
 ·obtain⟨vs,H1,I1,r1,v,rfl,a,xs,ps,ev,e1,e2,e3,e4⟩:=hh
  subst ev;obtain⟨u,rfl,ru⟩:=r1.one;obtain rfl:u=II a:=ru;exact Aa (I1.ok.hd hc) hu I1 e1 e2 e3 λq s' nw I'=>⟨.ref q,_,I',rfl,e4 q nw⟩
theorem AQ (i:Nat)(hu:X.A.units+8<cLine)(hc:X.calm=true)(hm:X.mg "dict" =none)(hN:X.N.Nodup)(ha:cE X e f)(hst:cw e=true:=by rfl)(hg:Gl X "dict":=by rfl)(hi:X.N[i]? =some x:=by rfl)(hx:Loc X.env.scope x:=by first | exact KB rfl | exact J9 rfl)(hs:JY (.Call (.Name "dict" p) [e] [] p2) (some (.Name x p3)) pos.line X.env=pure false:=by rfl)
  (hf:X.fn x=true\/X.env.scope.names.lookup x=some .local:=by first | exact .inl rfl | exact .inr rfl | assumption):r6 X (.Assign [.Name x p3] (.Call (.Name "dict" p) [e] [] p2) pos) (pC i f):=PS.imp (yD hN hi hx (yM hu hc hm ha hg hst) hs hf) λD σ H hh_=>by
 obtain⟨Z,B,M,E,h⟩:=hh_;refine⟨Z,OO B M,E.o,?_⟩
 unfold pC at h
 cases q:f Z with
 | bad=>rw[q]at h;exact h.elim
 | err c=>rw[q]at h;exact PostF.xa h
 | ok t=>
  rw[q,aI]at h;intro H1 s1 v r
  have h1:=h.later (SameO.of s1) (P1:=M.u) λa z=> .inl z
  cases t with
  | lst l=>
   obtain⟨a,xs,rfl,e2,e3,e4⟩:=Rep.Do.mp r;unfold wg at h1
   split at h1
   ·rename_i l' heq
    cases heq
    split at h1
    ·rename_i tps hps
     by_cases hz:l.length<=1000
     ·rw[if_pos hz,aI]at h1
      obtain⟨ps,g1,g2⟩:=vB hps e4;refine⟨a,xs,ps,rfl,e3,by rw[<-e4.length];exact hz,g1,λnd nw=> ?_⟩
      by_cases hl:i<Z.length
      ·simp only[if_pos hl]at h1
       have hm:∀a,a=nd->Nw X.K H1 a:=λa z=>z▸nw
       obtain⟨k1,k2⟩:=p0 (ks:=[]) (ts:=[]) (kvs:=[]) g2 rfl Reps.GP Kz;obtain⟨E2,sub⟩:=(E.same s1).new (m:=λa=>a=nd) (o:=.dct (i6 tps ([],[])).1 (i6 tps ([],[])).2) (v:=.ref nd) (H':=upd H1 nd (.dT (iH [] ps))) hl hm (bc nw.1 _) ⟨nd,_,rfl,λb=>Mo,bx,k1,(k2.more (Ev.subO hm)).same (bc nw.1 _)⟩
       exact h1 _ _ _ (SameO.of (bc nw.1 _)) E2 sub
      ·simp only[if_neg hl]at h1;exact h1.elim
     ·rw[if_neg hz]at h1;exact h1.elim
    ·exact h1.elim
   ·rename_i hno
    exact(hno l rfl).elim
  | _=>exact h1.elim
end
end Tr
namespace Tr
def fX:List Int->List Int->Bool
 | [],[] =>false
 | [],_::_=>true
 | _::_,[] =>false
 | a::l,b::m=>if a=b then fX l m else decide (a<b)
theorem tL:∀l,fX l l=false
 | [] =>rfl
 | a::l=>by unfold fX;rw[if_pos rfl];exact tL l
theorem ro:∀a b c,fX a b=true->fX b c=true->fX a c=true
 | [],[],_,h,_=>absurd h (by simp[fX])
 | _::_,[],_,h,_=>absurd h (by simp[fX])
 | [],_::_,[],_,h=>absurd h (by simp[fX])
 | [],_::_,_::_,_,_=>rfl
 | _::_,_::_,[],_,h=>absurd h (by simp[fX])
 | x::a,y::b,z::c,h,g=>by
  unfold fX at h g ⊢
  by_cases e:x=y
  ·subst e
   rw[if_pos rfl]at h
   by_cases e2:x=z
   ·rw[if_pos e2]at g ⊢;exact ro a b c h g
   ·rw[if_neg e2]at g ⊢;exact g
  ·rw[if_neg e]at h
   by_cases e2:y=z
   ·subst e2;rw[if_neg e];exact h
   ·rw[if_neg e2]at g
    have h1:=of_decide_eq_true h
    have h2:=of_decide_eq_true g;rw[if_neg (by omega)]
    exact decide_eq_true (by omega)
theorem nV:∀a b,fX a b=false->fX b a=false->a=b
 | [],[],_,_=>rfl
 | [],_::_,h,_=>absurd h (by simp[fX])
 | _::_,[],_,h=>absurd h (by simp[fX])
 | x::a,y::b,h,g=>by
  unfold fX at h g
  by_cases e:x=y
  ·subst e
   rw[if_pos rfl]at h g;rw[nV a b h g]
  ·rw[if_neg e]at h
   rw[if_neg (λz=>e z.symm)]at g
   have h1:=of_decide_eq_false h
   have h2:=of_decide_eq_false g;omega
theorem ze (a b c:List Int)(h:fX a c=true):fX a b=true\/fX b c=true:=by
 cases h1:fX a b with
 | true=>exact .inl rfl
 | false=>
  cases h2:fX b a with
  | true=>exact .inr (ro _ _ _ h2 h)
  | false=>rw[<-nV _ _ h1 h2];exact .inr h
end Tr
namespace Tr
open PySem PySem.Spec PyProof.Rows L2
structure RK where
 V:Heap->H0->List Int->Prop
 inj:∀{h v a b},V h v a->V h v b->a=b
 on:∀{h h':Heap} {v a},V h v a->(∀b o,h.get? b=some o->h'.get? b=some o)->V h' v a
 fst:∀{h v a},V h v a->∃ad xs n o m t,v= .ref ad/\h.get? ad=some o/\o.cls= .type "tuple"/\o.data= .seq xs n/\xs[0]? =some (.int m t)
 lt:∀{prog w A s E x y a b} {Q:Bool->Ib->Prop},A.units+60<cLine->V s.heap x a->V s.heap y b->Q (fX a b) s->wpAny (model prog w) A (keyLt' (tuples' true) x y) Q E s
variable (R:RK)
open Classical in
def RK.key (h:Heap)(v:H0):Option (List Int):=if e:∃ns,R.V h v ns then some e.choose else none
variable {R:RK}
def RK.kind (R:RK)(h:Heap):PyProof.Rows.KeyKind:={ α:=List Int,blt:=fX,irrefl:=tL,trans:=ro,negTrans:=ze,total:=nV,keyOf:=R.key h,dflt:=[] }
def RK.row (R:RK)(h:Heap)(v:H0):List Int:=(R.key h v).getD []
end Tr
namespace PySem
open Sem (wp)
section
variable {prog:IJ}{w:JA}{A:Jl}{E:H0->Ib->Prop}{s:Ib}{n l1 t2 k:Nat}{xs ys:Array H0}{x y:H0}
theorem sf {a:Addr}{Q:Option Obj->Ib->Prop}(q:Q (s.heap.get? a) s):wpAny (model prog w) A (loadIfAlive a) Q E s:=λΓ p _=>by
 show Sem.wp _ _ (Sem.loadIfAlive a pure) _ _ _ _
 rw[Sem.wp_loadIfAlive];exact q
end
section
variable {prog:IJ}{w:JA}{A:Jl}{E:H0->Ib->Prop}{s:Ib}{n l1 t2 k:Nat}{xs ys:Array H0}{x y:H0}
theorem nad {a b:Nat}(h:a<b\/b<a):a≠b:=by omega
end
end PySem
namespace L2
open PySem PySem.Spec PyProof.Rows
theorem tX {n b:Nat}:b∈ [n+4,n,n+1,n+2,n+3] ↔n<=b/\b<n+5:=by
 simp only[Ij,IM,or_false];omega
end L2
namespace Tr
open PySem PySem.Spec PyProof.Rows L2
def Wk (K:HX)(O:Ow)(H1:Hp)(l:List T)(v:V):Prop:=∃(aa:Addr) (tt:Bool) (ws:List V),v= .ref aa/\¬ O aa/\Reps K O H1 l ws/\An K H1 aa tt ws/\(∀P Hc,SameO P H1 Hc->¬ P aa->An K Hc aa tt ws)/\¬ Nw K H1 aa
end Tr
namespace Tr
open PySem
def c0 (g:List T->Rs T)(_:En):Rs T:=match g []with
 | .ok t=> .ok t
 | _=> .bad
def tM:List T->Rs T
 | [.lst l] =>if l.length<=1000 then .ok (.lst (bB 0 l))else .bad
 | _=> .bad
end Tr
namespace Tr
open PySem PySem.Spec PyProof.Rows L2
section
variable {X:Cx}{a b:Expr}{pos p2 p3:Pos}{x:Str}
theorem q_c0 {k:Nat}{f:Addr}{fd:JT}{ps:List Str}{g:List T->Rs T}{p:Pos}(F:CH X.prog X.w X.K X.mg X.base k f fd ps 0 g)(hr:Room k X.A)(hm:X.mg x=some (.ref f))(hk:Kx X.K (.ref f)=true)(hb:Binds X.K fd ps [])
  (hg:Gl X x:=by rfl) (hdb:iV x:=by decide):cE X (.Call (.Name x p) [] [] pos) (c0 g):=by
 intro pins s σ H Q I ⟨Z,O,E,hq⟩;unfold c0 at hq
 cases q2:g []with
 | bad=>rw[q2]at hq;exact hq.elim
 | err c=>rw[q2]at hq;exact hq.elim
 | ok t=>
  rw[q2]at hq;refine yO (E:=E0) F.h hr hg hm hk hb .nil yP hdb pins s σ H Q I ?_
  refine⟨[],O,Reps.GP,E.mtb,rfl,?_⟩
  rw[q2];exact λv H' s2 r=>hq H' s2 v r
end
end Tr
namespace L2
open PySem PySem.Spec PyProof.Rows
theorem lQ (a b:Int):Ko a b (-1)=if a > b then a - b else 0:=by
 unfold Ko;simp only[show ¬((-1:Int) > 0)by decide,if_false,OY,M4]
 split <;> omega
theorem AF {a b:Int}(ha : -(2 ^ 62)<=a)(ha':a<2 ^ 62)(hb : -(2 ^ 62)<=b)(hb':b<2 ^ 62):NA a b (-1)=true:=by
 unfold NA;rw[lQ];simp only[Builtin.Range.rangeFitsLong,HZ,OZ,decide_eq_true_eq,beq_iff_eq,show ¬((-1:Int) > 0)by decide,if_false]
 split <;> omega
def Itm (lo:Int)(n:Nat):It:=⟨λi _=>i<n,λi H x H'=>H'=H/\x= .int (lo - i),λi _=>n<=i⟩
theorem sh {P:IJ}{w:JA}{K:HX}{tg:Expr}(it:Addr)(lo:Int)(n:Nat):xR P w K tg (Itm lo n) [it] it (λi h=>NJ h it (lo+(i:Nat)*(-1)) ((n:Int) - (i:Nat)) (-1)) where
 mem:=by simp
 obj:=λi h st b hb=>by
  have e:b=it:=by simpa using hb
  subst e
  exact⟨_,st,λv z=>by
   have z':OS _=Data.cell v:=z;cases z'⟩
 keep:=λi h h' st k=>k it (by simp) _ st
 item:=by
  intro X hP hw hK hc i pins s σ H E I hf st hg;subst hP hw hK;obtain⟨f0,f1,f2,f3,f4,f5⟩:=hf it (by simp)
  have W:=Walks.range (prog:=X.prog) (w:=X.w) (I.ok.hd hc) it lo (-1) n;refine W.item i s _ _ hg st λv h' tk hv st' kk=> ?_
  obtain⟨t,rfl⟩:=hv
  have I1:Inv X pins σ H { s with heap:=h',toks:=tk }:=I.turned (λb o hb e=>kk b o (by simpa using hb) e) f0 f1 f3 f4 f5
  refine⟨_,rfl,v5 (s:={ s with heap:=h',toks:=tk }) (n:="range_iterator") st' rfl rfl (by decide) ⟨.int (lo - i),H,I1,⟨t,?_⟩,⟨rfl,rfl⟩,st',λb hb=>(hf b hb).1⟩⟩
  congr 1
  omega
 done:=by
  intro X hP hw hK hc i pins s σ H E I hf st hg;subst hP hw hK;obtain⟨f0,f1,f2,f3,f4,f5⟩:=hf it (by simp)
  exact MW (I.ok.hd hc) st (by have:n<=i:=hg;omega) λh' eb=>⟨rfl,I.turned (t':=s.toks) (λb o hb e=>eb b o hb e) f0 f1 f3 f4 f5⟩
 self:=λ_ _ _ _ _ st h=>MX st h
section
variable {X:Cx}{tg:Expr}
theorem wX {pins:List (Addr×Obj)}{σ:St}{H:Hp}{s:Ib}{R:It->Hp->Prop}{E:H0->Ib->Prop}{lo hi:Int}{t u v:Tok}{tk:Nat}(I:Inv X pins σ H s)(h1 : -(2 ^ 62)<=lo)(h2:lo<2 ^ 62)(h3 : -(2 ^ 62)<=hi)(h4:hi<2 ^ 62)
  (q:R (Itm lo (lo - hi).toNat) H):wpAny (model X.prog X.w) X.A (pyIter (.ref s.heap.objs.size)) (GL X pins σ tg R) E { s with heap:=s.heap.push { cls:=.type "range",data:=.fields #[.int lo t,.int hi u,.int (-1) v] },toks:=tk }:=by
 refine N6 (OU ..) (AF h1 h2 h3 h4) ?_
 have I1:Inv X pins σ H { s with heap:=s.heap.push { cls:=.type "range",data:=.fields #[.int lo t,.int hi u,.int (-1) v] },toks:=tk }:=I.kept λb o e=>Ii _ e
 refine⟨(s.heap.push { cls:=.type "range",data:=.fields #[.int lo t,.int hi u,.int (-1) v] }).objs.size,[(s.heap.push { cls:=.type "range",data:=.fields #[.int lo t,.int hi u,.int (-1) v] }).objs.size],_,_,H,rfl,
  I1.kept (t':=tk) λb o e=>Ii _ e,sh _ lo (lo - hi).toNat,?_,λb hb=> ?_,q⟩
 ·have e1:lo+((0:Nat):Int)*(-1)=lo:=by simp
  have e2:(((lo - hi).toNat:Nat):Int) - ((0:Nat):Int)=Ko lo hi (-1):=by rw[lQ];split <;> omega
  show NJ _ _ (lo+((0:Nat):Int)*(-1)) ((((lo - hi).toNat:Nat):Int) - ((0:Nat):Int)) (-1)
  rw[e1,e2];exact Iz _ rfl
 ·have e:b=(s.heap.push { cls:=.type "range",data:=.fields #[.int lo t,.int hi u,.int (-1) v] }).objs.size:=by simpa using hb
  subst e;exact I1.Hd (Il _) (I1.hok.fresh (Il _))
end
end L2
namespace Tr
open PySem PySem.Spec PyProof.Rows L2
section
variable {X:Cx}{a b c:Expr}{fs:En->Rs (List T)}{p pos:Pos}
theorem Gd {K:HX}{O:Ow}{H:Hp}(lo:Int)(n:Nat):ItT K O H ((Iw n).map λ(k:Nat)=>T.int (lo - (k:Int))) (Itm lo n):=λP O' hP hO i Hc hs ht=>by
 refine⟨λh=> ?_,λt h=> ?_⟩
 ·show n<=i
  rw[Ig,Jx]at h;exact h
 ·rw[IF]at h
  by_cases hi':i<n
  ·rw[K6 hi']at h
   cases h;refine⟨hi',λx Hc' y=> ?_⟩
   obtain⟨e,y⟩:=y;subst e y;exact⟨Same.refl _,Rep.GS _⟩
  ·rw[Jt (by simpa using hi')]at h
   cases h
theorem wY {tg:Expr}(hm:X.mg "range" =none)(ha:qi X [a,b,c] fs)(hg:Gl X "range":=by rfl)(hn:bj [a,b,c] =true:=by rfl):Ap X tg (.Call (.Name "range" p) [a,b,c] [] pos) (Gf fs):=by
 unfold bj at hn;rw[HZ]at hn;intro pins s σ H R I ⟨Z,O,E,h⟩
 have h1:=et E h;refine Call_ (fF I hg hm boot_range (IS (cp (ha pos pins s σ H _ I h1) λus s1 ⟨vs,H1,I1,r1,ts,rs,s',E',q1⟩=> ?_) (bA hn.1) (fQ hn.2)))
 split at q1
 ·rename_i i j
  by_cases hj:(mz i&&mz j)=true
  ·rw[if_pos hj]at q1
   rw[HZ]at hj;obtain⟨b1,b2⟩:=gh hj.1;obtain⟨b3,b4⟩:=gh hj.2;obtain⟨v,ws,rfl,p1,q⟩:=Reps.me.mp rs;obtain⟨v2,ws2,rfl,p2,q2⟩:=Reps.me.mp q;obtain⟨v3,rfl,p3⟩:=q2.one;cases Rep.AC.mp p1;cases Rep.AC.mp p2;cases Rep.AC.mp p3
   cases r1 with
   | cons r rr=>
    cases rr with
    | cons r' rr=>
     cases rr with
     | cons r'' rr=>
      cases rr;obtain⟨t,rfl⟩:=r;obtain⟨t',rfl⟩:=r';obtain⟨t'',rfl⟩:=r'';refine call_range_3 (by decide) (wX I1 b1 b2 b3 b4 (q1 H1 (Same.refl H1) _ (Gd i _))) (KB (MT ?_))
      omega
  ·rw[if_neg hj]at q1;exact q1.elim
 ·exact q1.elim
end
end Tr
namespace PySem
open Sem (wp)
open L2 (itAt)
structure PW (prog:IJ)(w:JA)(A:Jl)(I:Addr)(T:String)(fp wr:List Addr)(n:Nat)(R:Nat->H0->H0->Prop)(St:Nat->Option Addr->Heap->Prop):Prop where
 sub:∀b∈wr,b∈fp
 ty:∀i o (s:Ib),St i o s.heap->s.TypeIs (.ref I) T
 frame:∀i o h h',St i o h->(∀b∈fp,∀ob,h.get? b=some ob->h'.get? b=some ob)->St i o h'
 item:∀i o (s:Ib) (Q:Option H0->Ib->Prop) (E:H0->Ib->Prop),i<n->St i o s.heap->(∀t,o=some t->∃ob,s.heap.get? t=some ob) →
  (∀p h' tk x y,R i x y->s.heap.objs.size<=p->Pe h' p x y->St (i+1) (some (o.getD p)) h'->(∀b ob,b∉wr->s.heap.get? b=some ob->h'.get? b=some ob)->Q (some (.ref p)) { s with heap:=h',toks:=tk })->wpAny (model prog w) A (pyNext (.ref I)) Q E s
 done:∀o (s:Ib) (Q:Option H0->Ib->Prop) (E:H0->Ib->Prop),St n o s.heap->(∀t,o=some t->∃ob,s.heap.get? t=some ob)->(∀h' tk,(∀b ob,b∉wr->s.heap.get? b=some ob->h'.get? b=some ob)->Q none { s with heap:=h',toks:=tk })->wpAny (model prog w) A (pyNext (.ref I)) Q E s
 self:∀i o (s:Ib) (Q:H0->Ib->Prop) (E:H0->Ib->Prop),St i o s.heap->Q (.ref I) s->wpAny (model prog w) A (pyIter (.ref I)) Q E s
abbrev du (ps:List Addr)(c:Nat):Obj:={ cls:=.type "list",dict:=none,data:=.seq (ps.map II).toArray c,slots:=#[] }
section
variable {prog:IJ}{w:JA}{A:Jl}{RR:Result->Ib->Prop}{I:Addr}{T:String}{fp wr:List Addr}{n:Nat}{R:Nat->H0->H0->Prop}{St:Nat->Option Addr->Heap->Prop}
theorem A6 (W:PW prog w A.in1 I T fp wr n R St)(hn:n<=sizeLine)(S N0:Nat)(hSf:S∉fp)(hSN:S<N0)(hw:∀b:Nat,b∈wr->b<N0)(res:H0) :
  ∀(k i:Nat) (s:Ib) (ps:List Addr) (c:Nat),n - i=k->i<=n->St i ps.head? s.heap->N0<=s.heap.objs.size->s.heap.get? S=some (du ps c)->ps.length=i->(∀(j:Nat) (p:Nat),ps[j]? =some p->N0<=p/\∃x y,R j x y/\Pe s.heap p x y) →
  (∀h' tk ps' c',(∀b ob,b≠S->b∉wr->s.heap.get? b=some ob->h'.get? b=some ob)->h'.get? S=some (du ps' c')->ps'.length=n->(∀(j:Nat) (p:Nat),ps'[j]? =some p->N0<=p/\∃x y,R j x y/\Pe h' p x y)->RR (.ok (.ret res)) { s with heap:=h',toks:=tk }) →
  codeAny (model prog w) A (.builtin "list.extend.loop" ⟨[.ref S,.ref I,res],[]⟩) RR s:=by
 have hSw:S∉wr:=λh=>hSf (W.sub _ h)
 intro k
 induction k with
 | zero=>
  intro i s ps c hk hi hst hN hS hl hp hR
  have hin:i=n:=by omega
  subst hin;refine L6 NF ?_
  rw[K0 Kt _]
  show wpAny _ A.in1 (pyNext (.ref I) >>= _) _ _ s
  have alive:∀t,ps.head?=some t->∃ob,s.heap.get? t=some ob:=λt ht=>by
   obtain⟨_,x,y,_,hx⟩:=hp 0 t (by rw[<-List.head?_eq_getElem?];exact ht)
   exact⟨_,hx⟩
  refine HY (W.done ps.head? s _ _ hst alive λh' tk kp=> ?_)
  exact Ik (hR h' tk ps c (λb ob _ hb e=>kp b ob hb e) (kp S _ hSw hS) hl λj p hj=>by
   obtain⟨a,x,y,r,z⟩:=hp j p hj
   exact⟨a,x,y,r,kp p _ (λm=>IG _ (Iu (hw p m) a)) z⟩)
 | succ k ih=>
  intro i s ps c hk hi hst hN hS hl hp hR
  have hlt:i<n:=by omega
  refine L6 NF ?_
  rw[K0 Kt _]
  show wpAny _ A.in1 (pyNext (.ref I) >>= _) _ _ s
  have alive:∀t,ps.head?=some t->∃ob,s.heap.get? t=some ob:=λt ht=>by
   obtain⟨_,x,y,_,hx⟩:=hp 0 t (by rw[<-List.head?_eq_getElem?];exact ht)
   exact⟨_,hx⟩
  refine HY (W.item i ps.head? s _ _ hlt hst alive λp h' tk x y r hsz ip st' kp=> ?_)
  have hS':=kp S _ hSw hS
  have hSl:S<s.heap.objs.size:=Im hS
  have hpS:p≠S:=λz=>by rw[z]at hsz;exact IG _ (Iu hSl hsz)
  show wpAny _ A.in1 (Pb S (·.push (.ref p)) >>= _) _ _ _
  refine HY ?_
  have hd:(ps++ [p]).head?=some (ps.head?.getD p):=by cases ps <;> rfl
  have hlen:(ps.map II).toArray.size=i:=by rw[Iq,Ig,hl]
  obtain⟨c2,hS2⟩:∃c2,(h'.update S (Ke (·.push (.ref p)))).get? S=some (du (ps++ [p]) c2):=by
   have g:=OP (show h'.get? S=some (PyProof.Rows.seqObj "list" (ps.map II).toArray c)from hS') (·.push (.ref p))
   have e:(ps.map II).toArray.push (II p)=((ps++ [p]).map II).toArray:=by rw[JG,Ic,LC,List.push_toArray]
   rw[e]at g;exact⟨_,g⟩
  refine L7 hS' rfl (Ik ⟨LO Kt _,ih (i+1) { s with heap:=h'.update S (Ke (·.push (.ref p))),toks:=tk } (ps++ [p]) c2 (by omega) hlt (by
   rw[hd];exact W.frame _ _ _ _ st' λb hb ob e=>(Jr _ _ (λh:S=b=>hSf (by rw[h];exact hb))).trans e) (by rw[LH];exact IQ hN (KF (Mg hsz (Im ip)))) hS2 (by rw[Ih];simp[hl]) (λj q hj=> ?_) λh'' tk'' ps' c' kp' hS'' hl' hp'=> ?_⟩)
   (by rw[hlen];omega) (by show((ps.map II).toArray.push (.ref p)).size<=sizeLine+1;rw[Array.size_push,hlen];omega)
  ·rw[List.getElem?_append]at hj
   split at hj
   ·rename_i hjl
    obtain⟨a,x',y',r',z⟩:=hp j q hj
    have hqS:q≠S:=λz=>by rw[z]at a;exact IG _ (Iu hSN a)
    exact⟨a,x',y',r',(Jr _ _ (K5 hqS)).trans (kp q _ (λm=>IG _ (Iu (hw q m) a)) z)⟩
   ·rename_i hjl
    have hj0:j=i:=by
     have:=(IC.mp hj).1
     simp at this;omega
    subst hj0;rw[hl,K9]at hj;cases hj;exact⟨IQ hN hsz,x,y,r,(Jr _ _ (K5 hpS)).trans ip⟩
  ·exact hR h'' tk'' ps' c' (λb ob hb hbw e=>kp' b ob hb hbw ((Jr _ _ (K5 hb)).trans (kp b ob hbw e))) hS'' hl' hp'
theorem w4 (W:PW prog w A.in1 I T fp wr n R St)(hn:n<=sizeLine){s:Ib}{S c0:Nat}(hSf:S∉fp)(hIf:I∈fp)(hw:∀b:Nat,b∈wr->b<s.heap.objs.size)(res:H0)(hst:St 0 none s.heap)(hS:s.heap.get? S=some (du [] c0))
  (t1:(J4 T == J4 "list")=false) (t2:(J4 T == J4 "tuple")=false) (nl:KU (.type T) "__len__" =pure none) (nh:KU (.type T) "__length_hint__" =pure none)
  (hR:∀h' tk ps c',(∀b ob,b≠S->b∉wr->s.heap.get? b=some ob->h'.get? b=some ob)->h'.get? S=some (du ps c')->ps.length=n->(∀(j:Nat) (p:Nat),ps[j]? =some p->s.heap.objs.size<=p/\∃x y,R j x y/\Pe h' p x y)->RR (.ok (.ret res)) { s with heap:=h',toks:=tk }) :
  wpAny (model prog w) A.in1 (J6 (.ref S) (.ref I) res)
   (λfin s'=>match fin with | .done f=>RR (.ok f) s' | .again c'=>c'.quiet=true/\codeAny (model prog w) A c' RR s') (λe s'=>RR (.error e) s') s:=by
 have hSI:S≠I:=λe=>hSf (e▸hIf)
 unfold J6;refine HY (Lb (W.ty 0 none s hst) ?_)
 have h1:Mt (.ref S) (.ref I)=false:=by simp[Mt,hSI]
 simp only[h1,t1,t2,Bool.or_false,Lh,if_false];refine HY (W.self 0 none _ _ _ hst ?_)
 refine HY (Ln ?_)
 unfold Builtin.List.listLengthHint;refine HY (Nm (W.ty 0 none s hst) nl ?_)
 show wpAny _ A.in1 (specialOf (II I) (Ip "__length_hint__") >>= _) _ _ _
 refine HY (Nm (W.ty 0 none s hst) nh ?_)
 refine Ik ?_
 have hSl:S<s.heap.objs.size:=Im hS
 have key:∀(h:Heap) (c₁:Nat),h.objs.size=s.heap.objs.size->(∀b o,b≠S->s.heap.get? b=some o->h.get? b=some o)->h.get? S=some (du [] c₁)->codeAny (model prog w) A (.builtin "list.extend.loop" ⟨[.ref S,.ref I,res],[]⟩) RR { s with heap:=h }:=λh c₁ hz hk hS₁=>
  A6 W hn S s.heap.objs.size hSf hSl hw res n 0 { s with heap:=h } [] c₁ rfl (Kq _) (W.frame _ _ _ _ hst λb hb ob e=>hk b ob (λz=>hSf (z▸hb)) e) (K8 hz.symm) hS₁ rfl (λj p hj=>by cases hj)
   λh' tk ps c' kp a b c=>hR h' tk ps c' (λb ob hb hbw e=>kp b ob hb hbw (hk b ob hb e)) a b c
 refine wpAny_ite_split (λ_=> ?_) (λ_=>Ik ⟨LO Kt _,key s.heap c0 rfl (λb o _ e=>e) hS⟩)
 refine HY (Nr ?_)
 refine HY ?_
 show wpAny _ A.in1 (Pb S (·.push .none) >>= λ_=>Pb S (·.pop)) _ _ _
 refine HY (L7 hS rfl ?_)
 have hS₂:=KI (Ke (·.push Jm)) hS rfl
 refine L7 hS₂ rfl ?_
 have hS₃:=KI (Ke (·.pop)) hS₂ rfl
 refine Ik ⟨LO Kt _,key _ _ (by rw[LH,LH]) (λb o hb e=>(Jr _ _ (K5 hb)).trans ((Jr _ _ (K5 hb)).trans e)) hS₃⟩
end
end PySem
namespace L2
open PySem PySem.Spec PyProof.Rows
def BF (n:Nat)(H:Hp)(f:Addr->Option HO):Hp:=λa=>if (a:Nat)<n then H a else f a
section
variable {X:Cx}{pins:List (Addr×Obj)}{σ:List (Option V)}{H:Hp}{s:Ib}{h':Heap}{f:Addr->Option HO}
theorem rq {n:Nat}{a:Addr}(h:(a:Nat)<n):BF n H f a=H a:=by unfold BF;rw[if_pos h]
theorem rz {n:Nat}{a:Addr}(h:n<=(a:Nat)):BF n H f a=f a:=by unfold BF;rw[if_neg (Nat.not_lt.mpr h)]
theorem Inv.tlt (I:Inv X pins σ H s){b:Addr}{o:HO}(e:H b=some o):(b:Nat)<s.heap.objs.size:=(I.hok b o e).lt
theorem Inv.GE (I:Inv X pins σ H s){b:Addr}{o:HO}(e:H b=some o):BF s.heap.objs.size H f b=some o:=by rw[rq (I.tlt e)];exact e
theorem Inv.HQ {t':Nat}(I:Inv X pins σ H s)(k:∀b u,s.heap.get? b=some u->h'.get? b=some u)(hf:∀a o,s.heap.objs.size<=(a:Nat)->f a=some o->ObjOk X.prog X.w (BF s.heap.objs.size H f) h' a o) :
  Inv X pins σ (BF s.heap.objs.size H f) { s with heap:=h',toks:=t' }:=by
 refine I.un ⟨λb u q _ _ _=>k b u q,λb u q _ _ _=>⟨u.slots,k b u q⟩,λb u q n _=>by rw[rq (Im q)];exact n,λb u q _=>⟨u,k b u q⟩,λb xs q=>I.GE q,λb o u q=>I.GE q,λb ps q=>⟨#[],by rw[I.GE q];simp⟩⟩ λb u e=> ?_
 by_cases hb:(b:Nat)<s.heap.objs.size
 ·rw[rq hb]at e
  exact(I.hok b u e).G2 (λc v _ q=>k c v q) (λc q=>I.GE q) λc xs q=>I.GE q
 ·rw[rz (MN hb)]at e
  exact hf b u (MN hb) e
end
end L2
namespace Tr
open PySem PySem.Spec PyProof.Rows L2
section
variable {X:Cx}{a b:Expr}{fs:En->Rs (List T)}{p p1 p2 pos:Pos}
theorem vz {K:HX}{O:Ow}{H:Hp}:∀{l:List T} {vs:List V} {j:Nat} {t:T},Reps K O H l vs->l[j]? =some t->∃v,vs[j]? =some v/\Rep K O H t v
 | [],_,_,_,_,e=>by cases e
 | _::_,_,0,_,r,e=>by obtain⟨v,ws,rfl,p,q⟩:=Reps.me.mp r;cases e;exact⟨v,rfl,p⟩
 | _::_,_,j+1,_,r,e=>by obtain⟨v,ws,rfl,p,q⟩:=Reps.me.mp r;obtain⟨u,h1,h2⟩:=vz q (by simpa using e);exact⟨u,by simpa using h1,h2⟩
end
end Tr
namespace PySem
open Sem (wp)
namespace F
theorem enum_no_len:KU (.type "enumerate") "__len__" =pure none:=by rw[L5,KN];kernel_rfl
theorem enum_no_hint:KU (.type "enumerate") "__length_hint__" =pure none:=by rw[L5,KN];kernel_rfl
end F
abbrev eO (h:Heap)(e it:Addr)(f0 f1:H0)(i:Int)(old:H0):Prop:=h.get? e=some { cls:=.type "enumerate",dict:=none,data:=.fields #[f0,f1,.ref it,rawInt i,.none,old],slots:=#[] }
section
variable {prog:IJ}{w:JA}{A:Jl}{E:H0->Ib->Prop}{s:Ib}{e it l:Addr}{i:Nat}{items:Array H0}{x old:H0}
theorem BU {T:Addr}{ob:Obj}{f:Bool}{j:Int}{Q:Bool->Ib->Prop}(kz:eO s.heap e it (rawInt T) (.bool f) j old)(kT:s.heap.get? T=some ob)
  (hk:∀h',eO h' e it (rawInt T) (.bool true) j old->(∀c o,c≠e->s.heap.get? c=some o->h'.get? c=some o)->Q false { s with heap:=h' }):wpAny (model prog w) A (J7 (.ref e)) Q E s:=by
 unfold J7;refine HY (Jz kz rfl (x:=rawInt T) rfl ?_)
 show wpAny _ _ (loadIfAlive (Int.toNat (T:Int)) >>= _) _ _ _
 rw[Jw];refine HY (sf ?_)
 rw[kT]
 show wpAny _ _ (field (.ref e) 1 >>= _) _ _ _
 refine HY (Jz kz rfl (x:=.bool f) rfl ?_)
 cases f with
 | true=>
  rw[if_neg (by decide)]
  exact Ik (hk _ kz λ_ _ _ e=>e)
 | false=>
  rw[if_pos (by decide)]
  refine HY (Ml kz (by simp) λh₁ kz₁ hs₁=>Ik (hk h₁ kz₁ λc o c1 e=>hs₁.extBut _ _ c1 e))
theorem BS {T:Addr}{ob:Obj}{f:Bool}{Q:H0->Ib->Prop}(he:eO s.heap e it (rawInt T) (.bool f) i old)(kT:s.heap.get? T=some ob)(hTe:T≠e)(hTi:T≠it)(hit:s.heap.IsListIter it l i)(hl:s.heap.IsList l items)(hx:items[i]? =some x)(hne:e≠it)(hle:l≠e)(hli:l≠it)
  (hQ:∀h' p tk t,s.heap.objs.size<=p->Pe h' p (.int i t) x->eO h' e it (rawInt T) (.bool true) ((i:Int)+1) old->h'.IsListIter it l (i+1)->(∀b o,b≠e->b≠it->s.heap.get? b=some o->h'.get? b=some o)->Q (.ref p) { s with heap:=h',toks:=tk }) :
  wpAny (model prog w) A (Builtin.«enumerate.__next__» ⟨[.ref e],[]⟩) (λfin s'=> ∃v,fin= .done (.ret v)/\Q v s') E s:=by
 obtain⟨hp,g,d,tk,os⟩:=s
 show wpAny _ _ (field (.ref e) 2 >>= _) _ _ _
 refine HY (Jz he rfl (x:=.ref it) rfl ?_)
 refine HY (wpAny_nextOf_list_item hit hl hx λh₁ hit₁ hs₁=> ?_)
 replace hs₁:KD it hp h₁:=hs₁
 have he₁:eO h₁ e it (rawInt T) (.bool f) i old:=(hs₁.2 e hne).trans he
 show wpAny _ _ (field (.ref e) 3 >>= _) _ _ ⟨h₁,g,d,tk,os⟩
 refine HY (Jz he₁ rfl (x:=rawInt i) rfl ?_)
 show wpAny _ _ (field (.ref e) 4 >>= _) _ _ ⟨h₁,g,d,tk,os⟩
 refine HY (Jz he₁ rfl (x:=.none) rfl ?_)
 show wpAny _ _ (mkInt i >>= _) _ _ ⟨h₁,g,d,tk,os⟩
 refine HY (wpAny_mkInt ?_)
 show wpAny _ _ (setField (.ref e) 3 (rawInt ((i:Int)+1)) >>= _) _ _ ⟨h₁,g,d,tk+1,os⟩
 refine HY (Ml he₁ (by simp) λh₂ he₂ hs₂=> ?_)
 replace hs₂:KD e h₁ h₂:=hs₂
 replace he₂:eO h₂ e it (rawInt T) (.bool f) ((i:Int)+1) old:=he₂
 show wpAny _ _ (setField (.ref e) 4 .none >>= _) _ _ ⟨h₂,g,d,tk+1,os⟩
 refine HY (Ml he₂ (by simp) λh₃ he₃ hs₃=> ?_)
 replace hs₃:KD e h₂ h₃:=hs₃
 replace he₃:eO h₃ e it (rawInt T) (.bool f) ((i:Int)+1) old:=he₃
 show wpAny _ _ (newTuple [.int i tk,x] >>= _) _ _ ⟨h₃,g,d,tk+1,os⟩
 refine HY (wpAny_newTuple ?_)
 have hsz:h₃.objs.size=hp.objs.size:=by rw[hs₃.1,hs₂.1,hs₁.1]
 have up:∀b o,b≠e->b≠it->hp.get? b=some o->(h₃.push { cls:=.type "tuple",data:=.seq #[.int i tk,x] }).get? b=some o:=λb o hbe hbi hb=>Ii _ (hs₃.extBut b o hbe (hs₂.extBut b o hbe (hs₁.extBut b o hbi hb)))
 have he₄:eO (h₃.push { cls:=.type "tuple",data:=.seq #[.int i tk,x] }) e it (rawInt T) (.bool f) ((i:Int)+1) old:=Ii _ he₃
 have hel:e<h₃.objs.size:=Im he₃
 show wpAny _ _ (J7 (.ref e) >>= _) _ _ ⟨h₃.push { cls:=.type "tuple",data:=.seq #[.int i tk,x] },g,d,tk+1,os⟩
 refine HY (BU he₄ (up T ob hTe hTi kT) λh₅ he₅ kp=> ?_)
 simp only[Lh,if_false];refine Ik ⟨_,rfl,hQ h₅ h₃.objs.size (tk+1) tk (K8 hsz.symm) (kp _ _ (Kf hel) (Iz _ rfl)) he₅ ?_ λb o hbe hbi hb=>kp b o hbe (up b o hbe hbi hb)⟩
 obtain⟨o,ho,r⟩:=(hit₁.extBut hs₂.extBut (K5 hne)).extBut hs₃.extBut (K5 hne);exact⟨o,kp _ _ (K5 hne) (Ii _ ho),r⟩
theorem BR {f0 f1:H0}{j:Int}{Q:Fin->Ib->Prop}(hh:A.handled=none)(he:eO s.heap e it f0 f1 j old)(hit:s.heap.IsListIter it l i)(hl:s.heap.IsList l items)(hx:items[i]? =none)
  (ke:∀h' ex,(∀b o,b≠it->s.heap.get? b=some o->h'.get? b=some o)->(∃o,h'.get? ex=some o/\o.cls= .type "StopIteration")->E (.ref ex) { s with heap:=h' }) :
  wpAny (model prog w) A (Builtin.«enumerate.__next__» ⟨[.ref e],[]⟩) Q E s:=by
 show wpAny _ _ (field (.ref e) 2 >>= _) _ _ _
 refine HY (Jz he rfl (x:=.ref it) rfl ?_)
 exact HY (wpAny_nextOf_list_end hh hit hl hx λh' ex e₂ hs=>ke h' ex (λb o hb g=>e₂ _ _ hb g) hs)
def ES (e it l:Addr)(items:Array H0)(k:Nat)(o:Option Addr)(h:Heap):Prop:=
 h.IsListIter it l k/\h.IsList l items/\match o with
  | none=> ∃old,eO h e it .none (.bool false) k old
  | some T=>T≠e/\T≠it/\∃f old,eO h e it (rawInt T) (.bool f) k old
theorem wb {k:Nat}{o:Option Addr}(q:ES e it l items k o s.heap):s.TypeIs (.ref e) "enumerate":=by
 cases o with
 | none=>obtain⟨_,z⟩:=q.2.2;exact⟨_,z,rfl⟩
 | some T=>obtain⟨_,_,_,_,z⟩:=q.2.2;exact⟨_,z,rfl⟩
theorem FW {h h':Heap}{k:Nat}(q:h.IsListIter it l k)(up:∀o,h.get? it=some o->h'.get? it=some o):h'.IsListIter it l k:=let ⟨o,ho,r⟩:=q;⟨o,up o ho,r⟩
theorem A8 (hh:A.handled=none)(hne:e≠it)(hle:l≠e)(hli:l≠it) :
  PW prog w A e "enumerate" [e,it,l] [e,it] items.size (λi x y=>(∃t,x= .int i t)/\items[i]? =some y) (ES e it l items) where
 sub:=λb hb=>by simp only[Ij,IM,or_false]at hb ⊢;rcases hb with rfl | rfl <;> simp
 ty:=λi o s q=>wb q
 frame:=λi o h h' ⟨q,s1,z⟩ up=>by
  refine⟨FW q λob g=>up it (by simp) ob g,s1.at λob g=>up l (by simp) ob g,?_⟩
  cases o with
  | none=>obtain⟨old,z⟩:=z;exact⟨old,up e (by simp) _ z⟩
  | some T=>obtain⟨a,b,f,old,z⟩:=z;exact⟨a,b,f,old,up e (by simp) _ z⟩
 item:=λi o s Q E hi ⟨q,s1,z⟩ al kq=>by
  have hx:items[i]? =some items[i]:=Array.getElem?_eq_getElem hi
  have hy':s.TypeIs (.ref e) "enumerate":=wb (o:=o) ⟨q,s1,z⟩
  have le:e<s.heap.objs.size:=by
   cases o with
   | none=>obtain⟨_,z⟩:=z;exact Im z
   | some T=>obtain⟨_,_,_,_,z⟩:=z;exact Im z
  have li:it<s.heap.objs.size:=by obtain⟨o,ho,_⟩:=q;exact Im ho
  have nw:∀{b:Addr},b∉ [e,it]->b≠e/\b≠it:=λ{b} hb=>by
   simp only[Ij,IM,or_false,not_or]at hb;exact hb
  cases o with
  | none=>
   obtain⟨old,z⟩:=z;refine wpAny_pyNext_enum_item z q s1 hx hne λh' a b c d k=> ?_
   refine kq s.heap.objs.size h' (s.toks+1) _ _ ⟨⟨_,rfl⟩,hx⟩ (Il _) c ⟨b,s1.at λob g=>k _ _ hle hli g,Kf le,Kf li,false,items[i],?_⟩ λb ob hb g=>k b ob (nw hb).1 (nw hb).2 g
   have e1:((i+1:Nat):Int)=(i:Int)+1:=by omega
   rw[e1];exact a
  | some T=>
   obtain⟨t1,t2,f,old,z⟩:=z;obtain⟨ob,hT⟩:=al T rfl;unfold pyNext;refine HY (Oc (Jn (name:=Ip "__next__") hy' JH (JL JH hy' Lr (BS z hT t1 t2 q s1 hx hne hle hli λh' p tk t hs ip zo li' kp=>Ik ?_) (Li _))))
   refine kq p h' tk _ _ ⟨⟨_,rfl⟩,hx⟩ hs ip ⟨li',s1.at λob g=>kp _ _ hle hli g,t1,t2,true,old,?_⟩ λb ob hb g=>kp b ob (nw hb).1 (nw hb).2 g
   have e1:((i+1:Nat):Int)=(i:Int)+1:=by omega
   rw[e1];exact zo
 done:=λo s Q E ⟨q,s1,z⟩ al kq=>by
  have hy':s.TypeIs (.ref e) "enumerate":=wb (o:=o) ⟨q,s1,z⟩
  obtain⟨f0,f1,old,z⟩:∃f0 f1 old,eO s.heap e it f0 f1 items.size old:=by
   cases o with
   | none=>obtain⟨old,z⟩:=z;exact⟨_,_,old,z⟩
   | some T=>obtain⟨_,_,f,old,z⟩:=z;exact⟨_,_,old,z⟩
  unfold pyNext;refine HY (Oc (Jn (name:=Ip "__next__") hy' JH (JL JH hy' Lr (BR hh z q s1 (Array.getElem?_eq_none (Il _)) λh' ex kp he=> ?_) (Li _))))
  obtain⟨o,ho,hc⟩:=he;refine HY (OM (T:="StopIteration") (b:=true) ⟨o,ho,hc⟩ isSubtype_stop (Ik (kq h' s.toks λb ob hb g=> ?_)))
  simp only[Ij,IM,or_false,not_or]at hb;exact kp b ob hb.2 g
 self:=λi o s Q E q h=>by
  have hy':s.TypeIs (.ref e) "enumerate":=wb q;refine wpAny_pyIter_slot hy' M9 (JL M9 hy' F.entry_enumerate_iter ?_ (F.args_enumerate_iter_1 _))
  show wpAny _ _ (ret (.ref e)) _ _ s
  exact Ik ⟨_,rfl,"enumerate",_,hy',JH.lookup,h⟩
end
section
variable {prog:IJ}{w:JA}{A:Jl}{I:Addr}{T:String}{fp wr:List Addr}{n:Nat}{R:Nat->H0->H0->Prop}{St:Nat->Option Addr->Heap->Prop}{E:H0->Ib->Prop}{s:Ib}
theorem A7 {Q:H0->Ib->Prop}(W:PW prog w A.in1.in1 I T fp wr n R St)(hn:n<=sizeLine)(hfp:∀b:Nat,b∈fp->b<s.heap.objs.size)(hI:I∈fp)(hst:St 0 none s.heap)
  (t1:(J4 T == J4 "list")=false) (t2:(J4 T == J4 "tuple")=false) (nl:KU (.type T) "__len__" =pure none) (nh:KU (.type T) "__length_hint__" =pure none)
  (hQ:∀h' tk (ps:List Addr) c,(∀b ob,b∉wr->s.heap.get? b=some ob->h'.get? b=some ob)->h'.get? s.heap.objs.size=some (du ps c)->ps.length=n->(∀(j:Nat) (p:Nat),ps[j]? =some p->s.heap.objs.size<p/\∃x y,R j x y/\Pe h' p x y)->Q (.ref s.heap.objs.size) { s with heap:=h',toks:=tk }) :
  wpAny (model prog w) A (call (.type "list") [.ref I]) Q E s:=by
 have hSf:s.heap.objs.size∉fp:=λhm=>IG _ (hfp _ hm)
 refine callType_codes (Q₁:=λobj s₁=>obj= .ref s.heap.objs.size/\s₁= { s with heap:=s.heap.push { cls:=.type "list",data:=.seq #[] } }) F.called_list (F.typeCall_list_1 _) F.entry_list_init
  (code_list_new _ ⟨rfl,rfl⟩) λobj s₁ h₁=> ?_
 obtain⟨rfl,rfl⟩:=h₁
 have hS:(s.heap.push (du [] 0)).get? s.heap.objs.size=some (du [] 0):=Iz _ rfl
 refine⟨⟨_,hS,rfl⟩,F.args_list_init_2 _ _,?_⟩
 show wpAny _ _ (do let old <-MS (.ref s.heap.objs.size);Builtin.List.listUpdate (.ref s.heap.objs.size) (λ_=> #[]);letGo old.toList.reverse;J6 (.ref s.heap.objs.size) (.ref I) .none) _ _ { s with heap:=s.heap.push (du [] 0) }
 refine HY ?_
 unfold MS;refine HY (Mr hS rfl (Ik ?_))
 show wpAny _ _ (Pb s.heap.objs.size (λ_=> #[]) >>= λ_=>letGo (#[]:Array H0).toList.reverse >>= λ_=>J6 (.ref s.heap.objs.size) (.ref I) .none) _ _ _
 refine HY (L7 hS rfl ?_)
 have hS₂:(LY (s.heap.push (du [] 0)) s.heap.objs.size (Ke λ_=>(#[]:Array H0))).get? s.heap.objs.size=some (du [] 0):=KI (Ke (λ_=>(#[]:Array H0))) hS rfl
 have up:∀b ob,s.heap.get? b=some ob->(LY (s.heap.push (du [] 0)) s.heap.objs.size (Ke λ_=>(#[]:Array H0))).get? b=some ob:=λb ob e=>(Jr _ _ (Kf (Im e))).trans (Ii _ e)
 have sz:(LY (s.heap.push (du [] 0)) s.heap.objs.size (Ke λ_=>(#[]:Array H0))).objs.size=s.heap.objs.size+1:=by rw[LH,Ky]
 refine HY (wpAny_letGo ?_)
 refine w4 (A:=A.in1) (RR:=wants (λr s₂=>r= .none/\Q (.ref s.heap.objs.size) s₂) E) (s:={ s with heap:=LY (s.heap.push (du [] 0)) s.heap.objs.size (Ke λ_=>(#[]:Array H0)) }) W hn hSf hI (λb hb=> ?_) _ (W.frame _ _ _ _ hst λb _ ob e=>up b ob e) hS₂ t1 t2 nl nh λh' tk ps c' kp hS' hl hp=> ?_
 ·show b<(LY (s.heap.push (du [] 0)) s.heap.objs.size (Ke λ_=>(#[]:Array H0))).objs.size
  rw[sz];exact Lw (hfp b (W.sub b hb))
 refine⟨rfl,hQ h' tk ps c' (λb ob hb e=>kp b ob (Js (Im e)) hb (up b ob e)) hS' hl λj p hj=> ?_⟩
 obtain⟨a,r⟩:=hp j p hj
 have a':(LY (s.heap.push (du [] 0)) s.heap.objs.size (Ke λ_=>(#[]:Array H0))).objs.size<=p:=a
 rw[sz]at a';exact⟨a',r⟩
end
end PySem
namespace Tr
open PySem PySem.Spec PyProof.Rows L2
section
variable {X:Cx}{a:Expr}{fs:En->Rs (List T)}{p p1 p2 pos:Pos}
theorem kW:∀(l:List T) (i j:Nat),(bB i l)[j]? =(l[j]?).map λt=>T.tup [.int ((i+j:Nat):Int),t]
 | [],i,j=>by unfold bB;simp
 | t::l,i,0=>by unfold bB;simp
 | t::l,i,j+1=>by
  unfold bB;rw[JJ,JJ,kW l (i+1) j,show i+1+j=i+(j+1)by omega]
theorem vt {K:HX}{O:Ow}{H:Hp}:∀{l:List T} {vs:List V},l.length=vs.length->(∀(j:Nat) t v,l[j]? =some t->vs[j]? =some v->Rep K O H t v)->Reps K O H l vs
 | [],[],_,_=>Reps.GP
 | [],_::_,h,_=>by cases h
 | _::_,[],h,_=>by cases h
 | t::l,v::vs,h,g=>Reps.FS (g 0 t v rfl rfl) (vt (by simpa using h) λj t v a b=>g (j+1) t v a b)
theorem vn:∀{xs:List V} {us:List H0} {j:Nat} {u:H0},Vals xs us->us[j]? =some u->∃x,xs[j]? =some x/\RelV x u
 | _,_,_,_,.nil,e=>by cases e
 | _,_,0,_,.cons r _,e=>by cases e;exact⟨_,rfl,r⟩
 | _,_,j+1,_,.cons _ q,e=>by obtain⟨x,h1,h2⟩:=vn q (by simpa using e);exact⟨x,by simpa using h1,h2⟩
def nR (r:Addr)(ps:List Addr)(ws:List V):Addr->Option HO:=λa=>by
 classical exact if a=r then some (.lst (ps.map V.ref))else if h:∃j:Nat,ps[j]? =some a then some (.tup [.int (h.choose:Nat),ws.getD h.choose .non])else none
theorem A3 (hc:X.calm=true)(hm:X.mg "list" =none)(hme:X.mg "enumerate" =none)(ha:qi X [a] fs)(hst:bj [a] =true:=by rfl)(hg:Gl X "list":=by rfl)(hge:Gl X "enumerate":=by rfl) :
  cE X (.Call (.Name "list" p) [.Call (.Name "enumerate" p1) [a] [] p2] [] pos) (cl tM fs):=by
 intro pins s σ H Q I ⟨Z,O,Ev,hq⟩
 have e1:IA [JO (.Name "enumerate" p1) [a] [] p2] X.env=(false,eval (.Call (.Name "enumerate" p1) [a] [] p2) X.env)::IA [] X.env:=bA rfl;unfold bj at hst;rw[HZ]at hst
 have e2:IA [a] X.env=(false,eval a X.env)::IA [] X.env:=bA hst.1;refine Jj (fF I hg hm (show IU "list" =some (.type "list")by decide+kernel) ?_ (by decide) (by decide))
 refine IS ?_ e1 rfl
 rw[e1];refine Kg ?_
 refine Jj (fF I hge hme (show IU "enumerate" =some (.type "enumerate")by decide+kernel) ?_ (by decide) (by decide))
 refine IS (cp (ha p2 pins s σ H _ I (et Ev hq)) λus s1 ⟨vs,H1,I1,r1,ts,rs,s',E',q1⟩=> ?_) e2 rfl
 unfold tM at q1
 split at q1
 ·rename_i l
  by_cases hz:l.length<=1000
  ·rw[if_pos hz]at q1
   obtain⟨v1,rfl,ra⟩:=rs.one;obtain⟨c1,ws,rfl,n1,hx,rx⟩:=Rep.Do.mp ra;obtain⟨u1,rfl,z1⟩:=Vals.one r1;obtain rfl:u1=II c1:=z1;obtain⟨z,its,n,rv,hlen,eo⟩:=I1.G1 hx
   have lt1:c1<s1.heap.objs.size:=Im eo
   have hil:its.toArray.size=l.length:=by rw[Iq,<-hlen];exact rx.length.symm
   refine NM (items:=its.toArray) ⟨_,eo,rfl,n,rfl⟩ λh' g1 g2 g3 g4=> ?_
   refine J5 ?_
   refine A7 (s:={ s1 with heap:=h' }) (A8 (items:=its.toArray) (l:=c1) (show X.A.in1.in1.handled=none from I1.ok.hd hc) (nad (by omega)) (Js (Lw lt1)) (Js lt1)) (by rw[hil,KM];omega) ?_ (by simp) ⟨g2,⟨_,g4 _ _ eo,rfl,n,rfl⟩,_,g1⟩ (by decide) (by decide) F.enum_no_len F.enum_no_hint λh2 tk ps c kp hS hl2 hps=> ?_
   ·intro b hb
    show b<h'.objs.size
    rw[g3];simp only[Ij,IM,or_false]at hb;rcases hb with rfl | rfl | rfl
    ·omega
    ·omega
    ·exact Iu lt1 (by omega)
   have keep1:∀b ob,s1.heap.get? b=some ob->h2.get? b=some ob:=λb ob e=>kp b ob (λhb=>by
    have:=Im e;simp only[Ij,IM,or_false]at hb;rcases hb with rfl | rfl
    ·exact absurd this (by show ¬(s1.heap.objs.size+1<s1.heap.objs.size);omega)
    ·exact absurd this (IG _)) (g4 b ob e)
   have hSn:s1.heap.objs.size<=h'.objs.size:=by rw[g3];omega
   have pair:∀(j:Nat) (q:Nat),ps[j]? =some q->s1.heap.objs.size<=q/\h'.objs.size<q/\∃t y x,its[j]? =some y/\ws[j]? =some x/\RelV x y/\Pe h2 q (.int j t) y:=λj q hj=>by
    obtain⟨hq,x,y,⟨⟨t,rfl⟩,hy⟩,ip⟩:=hps j q hj;rw[M5]at hy
    obtain⟨v,hv,rv'⟩:=vn rv hy
    have hq':h'.objs.size<q:=hq;exact⟨by omega,hq',t,y,v,hy,hv,rv',ip⟩
   have nps:∀q:Nat,∀j:Nat,ps[j]? =some q->q≠h'.objs.size:=λq j hj=>Kf (pair j q hj).2.1
   -- one place,one pair
   have one:∀(j j' q:Nat),ps[j]? =some q->ps[j']? =some q->j=j':=λj j' q h1 h3=>by
    obtain⟨_,_,t,y,x,_,_,_,ip⟩:=pair j q h1;obtain⟨_,_,t',y',x',_,_,_,ip'⟩:=pair j' q h3
    have pp:=IX (ip.symm.trans ip');injection pp with _ _ pd
    injection pd with px
    have px':=congrArg Me px;simp only[LR,JN.injEq,and_true]at px';omega
   have at_:∀(j q:Nat),ps[j]? =some q->nR h'.objs.size ps ws q=some (.tup [.int (j:Nat),ws.getD j .non]):=λj q hj=>by
    unfold nR;rw[if_neg (nps q j hj)]
    have hex:∃j:Nat,ps[j]? =some q:=⟨j,hj⟩;rw[dif_pos hex,one _ _ q hex.choose_spec hj]
   have I3:Inv X pins σ (BF s1.heap.objs.size H1 (nR h'.objs.size ps ws)) { s1 with heap:=h2,toks:=tk }:=by
    refine I1.HQ keep1 λc' o hc' e=> ?_
    by_cases cr:c'=h'.objs.size
    ·unfold nR at e
     rw[if_pos cr]at e;cases e;subst cr;refine⟨?_,ps.map II,c,?_,hS⟩
     ·rw[Ig,hl2,hil,KM];omega
     ·clear hps hl2 hS pair nps one at_ kp keep1
      induction ps with
      | nil=>exact .nil
      | cons q ps ih=>exact .cons rfl ih
    ·by_cases hex:∃j:Nat,ps[j]? =some c'
     ·obtain⟨j,hj⟩:=hex
      rw[at_ j c' hj]at e;cases e;obtain⟨_,_,t,y,x,hy,hx',rv',ip⟩:=pair j c' hj
      have ex:ws.getD j .non=x:=by rw[Kd,hx'];rfl
      rw[ex];exact⟨by show 2<=sizeLine;rw[KM];omega,[.int j t,y],.cons ⟨t,rfl⟩ (.cons rv' .nil),⟨_,ip,rfl,0,rfl⟩⟩
     ·unfold nR at e
      rw[if_neg cr,dif_neg hex]at e;cases e
   have sm:Same H1 (BF s1.heap.objs.size H1 (nR h'.objs.size ps ws)):=λc o e=>I1.GE e
   have fr:∀c:Addr,s1.heap.objs.size<=(c:Nat)->¬ O c:=λc hc'=>E'.fresh (I1.hok.fresh hc')
   refine⟨.ref h'.objs.size,_,I3,rfl,q1 _ sm _ ?_⟩
   refine Rep.Do.mpr ⟨h'.objs.size,ps.map V.ref,rfl,fr _ hSn,?_,?_⟩
   ·rw[rz hSn];unfold nR;rw[if_pos rfl]
   ·refine vt ?_ λj t v ht hv=> ?_
    ·rw[Ig,hl2,hil]
     have:∀(l:List T) (i:Nat),(bB i l).length=l.length:=λl=>by
      induction l with
      | nil=>intro i;unfold bB;rfl
      | cons t l ih=>intro i;unfold bB;rw[Io,Io,ih]
     exact this l 0
    ·rw[kW]at ht
     rw[IF]at hv
     cases hj:ps[j]? with
     | none=>rw[hj]at hv;cases hv
     | some q=>
      rw[hj]at hv;cases hv
      cases hlj:l[j]? with
      | none=>rw[hlj]at ht;cases ht
      | some u=>
       rw[hlj]at ht;cases ht;obtain⟨hq,_,t,y,x,hy,hx',rv',ip⟩:=pair j q hj;obtain⟨x2,hx2,rx2⟩:=vz rx hlj;rw[hx']at hx2;cases hx2;rw[Oy];refine Rep.Fk.mpr ⟨q,[.int (j:Nat),x],rfl,fr q hq,?_,Reps.FS (Rep.GS _) (Reps.FS (rx2.same sm) Reps.GP)⟩
       rw[rz hq,at_ j q hj,Kd,hx']
       rfl
  ·rw[if_neg hz]at q1;exact q1.elim
 ·exact q1.elim
end
structure QE (X:Cx)(e:Expr)(f:En->Rs T):Prop where
 h:cE X e f
structure QA (X:Cx)(e:List Expr)(f:En->Rs (List T)):Prop where
 h:qi X e f
structure QT (X:Cx)(e:Expr)(f:En->Rs Bool):Prop where
 h:ug X e f
structure QW (X:Cx)(e:Expr)(f:En->Rs Bool):Prop where
 h:CF X e f
structure QS (X:Cx)(e:Stmt)(f:En->Rs Fl):Prop where
 h:r6 X e f
structure Ao (X:Cx)(e:List Stmt)(f:En->Rs Fl):Prop where
 h:mi X e f
structure QG (X:Cx)(e:Expr)(f:T->En->Rs En):Prop where
 h:CG X e f
structure GJ (X:Cx)(e:List Expr)(f:List T->En->Rs En):Prop where
 h:Ah X e f
structure QI (X:Cx)(t e:Expr)(f:En->Rs (List T)):Prop where
 h:Ap X t e f
structure QO (X:Cx)(e:Option Expr)(f:En->Rs (Option Int)):Prop where
 h:Gv X e f
structure GI (X:Cx)(e:List Expr)(f:En->Rs Bool):Prop where
 h:xY X e (ye X f)
theorem af {X:Cx}(i:Nat){x:Str}{pos:Pos}(hN:(Cx.N X)[i]? =some x:=by rfl)(hv:Ae (KL (Cx.env X)) x:=by first | exact KB rfl | exact J9 (KB rfl) | exact J9 (J9 rfl))(hd:iV x:=by decide)(hcd:(x == Ip "__classdict__")=false:=by decide):QE X (IV x pos) (vr i):=
 ⟨Fi (i:=i) (hN:=hN) (hv:=hv) (hd:=hd) (hcd:=hcd)⟩
theorem aj {X:Cx}{i:Int}{j:Nat}{pos:Pos}:QE X (MH (Const.int i) j pos) (cn (T.int i)):=
 ⟨Fv ⟩
theorem dE {X:Cx}{i:Bool}{j:Nat}{pos:Pos}:QE X (MH (Const.bool i) j pos) (cn (T.bl i)):=
 ⟨q_bl ⟩
theorem df {X:Cx}{j:Nat}{pos:Pos}:QE X (MH Const.none j pos) (cn T.non):=
 ⟨Fq ⟩
theorem Au {X:Cx}{x:Str}{i:Int}{u:H0}{pos:Pos}(hm:Cx.mg X x=some u)(r:L2.RelV (V.int i) u)(hg:Gl X x:=by rfl)(hd:iV x:=by decide):QE X (IV x pos) (cn (T.int i)):=
 ⟨Dm (hm:=hm) (r:=r) (hg:=hg) (hd:=hd)⟩
theorem ah {X:Cx}:QA X [] ai:=
 ⟨Dl ⟩
theorem ag {X:Cx}{e:Expr}{es:List Expr}{f:En->Rs T}{g:En->Rs (List T)}(he:QE X e f)(hr:QA X es g)(hn:cw e=true:=by rfl):QA X (e::es) (ae f g):=
 ⟨qa_c (he:=he.h) (hr:=hr.h) (hn:=hn)⟩
theorem aL {X:Cx}{es:List Expr}{x1:Nat}{pos:Pos}{f:En->Rs (List T)}(h:QA X es f):QE X (Expr.Tuple es x1 pos) (aO f):=
 ⟨Fj (h:=h.h)⟩
theorem eZ {X:Cx}{es:List Expr}{pos:Pos}{f:En->Rs (List T)}(h:QA X es f):QE X (Expr.List es pos) (ff f):=
 ⟨Ft (h:=h.h)⟩
theorem aB {X:Cx}{a b:Expr}{fa fb:En->Rs T}{pos:Pos}{op:Operator}{g:T->T->Rs T}(ho:OpT X (JZ op) g)(ha:QE X a fa)(hb:QE X b fb):QE X (Expr.BinOp a op b pos) (o2 g fa fb):=
 ⟨Fy (ho:=ho) (ha:=ha.h) (hb:=hb.h)⟩
theorem ej {X:Cx}{a b:Expr}{fa fb:En->Rs T}{pos:Pos}{op:Ph}{g:T->T->Rs T}(ho:OpT X (Jd op) g)(ha:QE X a fa)(hb:QE X b fb)(hm:MM op b=false:=by rfl):QE X (Nb a [op] [b] pos) (o2 g fa fb):=
 ⟨Fx (ho:=ho) (ha:=ha.h) (hb:=hb.h) (hm:=hm)⟩
theorem k7 {X:Cx}{a:Expr}{fa:En->Rs T}{pos:Pos}(ha:QE X a fa):QE X (Nc UnaryOp.USub a pos) (o1 lx fa):=
 ⟨Fs (ha:=ha.h)⟩
theorem se {X:Cx}{a b c:Expr}{fa fb fc:En->Rs T}{pos:Pos}{op op':Ph}{g g':T->T->Rs T}(ho:OpT X (Jd op) g)(ho':OpT X (Jd op') g')(ha:QE X a fa)(hb:QE X b fb)(hc:QE X c fc)(hm:Pa [op,op'] [b,c] =false:=by with_unfolding_all rfl):QE X (Nb a [op,op'] [b,c] pos) (ch g g' fa fb fc):=
 ⟨A4 (ho:=ho) (ho':=ho') (ha:=ha.h) (hb:=hb.h) (hc:=hc.h) (hm:=hm)⟩
theorem bF {X:Cx}{e:Expr}{f:En->Rs T}(h:QE X e f)(he:∀(whole:Sem H0),PySem.isTrue e (Cx.env X) whole=(do let v <-whole;standAt (Expr.pos e);holding [v] (truthy v)):=by intro _;rfl):QT X e (tb f):=
 ⟨C4 (h:=h.h) (he:=he)⟩
theorem bf {X:Cx}{a b:Expr}{fa fb:En->Rs T}{pos:Pos}{op:Ph}{g:T->T->Rs T}(ho:OpT X (Jd op) g)(ha:QE X a fa)(hb:QE X b fb)(hm:MM op b=false:=by rfl):QT X (Nb a [op] [b] pos) (tb (o2 g fa fb)):=
 ⟨C6 (ho:=ho) (ha:=ha.h) (hb:=hb.h) (hm:=hm)⟩
theorem wH {X:Cx}{a b c:Expr}{fa fb fc:En->Rs T}{pos:Pos}{op op':Ph}{g g':T->T->Rs T}(ho:OpT X (Jd op) g)(ho':OpT X (Jd op') g')(ha:QE X a fa)(hb:QE X b fb)(hc:QE X c fc)(hm:Pa [op,op'] [b,c] =false:=by with_unfolding_all rfl):QT X (Nb a [op,op'] [b,c] pos) (tb (ch g g' fa fb fc)):=
 ⟨yu (ho:=ho) (ho':=ho') (ha:=ha.h) (hb:=hb.h) (hc:=hc.h) (hm:=hm)⟩
theorem mH {X:Cx}{a:Expr}{pos:Pos}{f:En->Rs Bool}(ha:QT X a f):QW X (Kj Nn [a] pos) f:=
 ⟨AN (ha:=ha.h)⟩
theorem ee {X:Cx}{a:Expr}{pos:Pos}{f:En->Rs Bool}(ha:QT X a f):QW X (Kj NZ [a] pos) f:=
 ⟨C2 (ha:=ha.h)⟩
theorem mj {X:Cx}{a b:Expr}{pos:Pos}{f g:En->Rs Bool}{cP:List Expr}(ha:QT X a f)(hb:QW X (Kj Nn (b::cP) pos) g):QW X (Kj Nn (a::b::cP) pos) (k4 f g):=
 ⟨C3 (ha:=ha.h) (hb:=hb.h)⟩
theorem fB {X:Cx}{a b:Expr}{pos:Pos}{f g:En->Rs Bool}{cP:List Expr}(ha:QT X a f)(hb:QW X (Kj NZ (b::cP) pos) g):QW X (Kj NZ (a::b::cP) pos) (ka f g):=
 ⟨Fd (ha:=ha.h) (hb:=hb.h)⟩
theorem f9 {X:Cx}{f:En->Rs Bool}{e:Expr}(h:QW X e f):QT X e f:=
 ⟨qt_w (h:=h.h)⟩
theorem ck {X:Cx}{a:Expr}{pos:Pos}{f:En->Rs Bool}(ha:QT X a f):QT X (Nc UnaryOp.Not a pos) (cM f):=
 ⟨C5 (ha:=ha.h)⟩
theorem de {X:Cx}{a:Expr}{fa:En->Rs T}{pos:Pos}{op:BoolOp}(h:QE X a fa):QE X (Kj op [a] pos) fa:=
 ⟨Fo (h:=h.h)⟩
theorem cS {X:Cx}{a b:Expr}{fa fb:En->Rs T}{pos:Pos}{cP:List Expr}(ha:QE X a fa)(hb:QE X (Kj Nn (b::cP) pos) fb):QE X (Kj Nn (a::b::cP) pos) (bS fa fb):=
 ⟨Fz (ha:=ha.h) (hb:=hb.h)⟩
theorem Ce {X:Cx}{a b:Expr}{fa fb:En->Rs T}{pos:Pos}{cP:List Expr}(ha:QE X a fa)(hb:QE X (Kj NZ (b::cP) pos) fb):QE X (Kj NZ (a::b::cP) pos) (Am fa fb):=
 ⟨q_or (ha:=ha.h) (hb:=hb.h)⟩
theorem um {X:Cx}{a:Expr}{fa:En->Rs T}{pos:Pos}(ha:QE X a fa):QE X (Nc UnaryOp.Not a pos) (o1 qW fa):=
 ⟨Fp (ha:=ha.h)⟩
theorem x6 {X:Cx}{a b c:Expr}{fa fb:En->Rs T}{pos:Pos}{f:En->Rs Bool}(hc:QT X c f)(ha:QE X a fa)(hb:QE X b fb):QE X (Expr.IfExp c a b pos) (Cw f fa fb):=
 ⟨q_if (hc:=hc.h) (ha:=ha.h) (hb:=hb.h)⟩
theorem aE {X:Cx}{a b:Expr}{fa fb:En->Rs T}{pos:Pos}(ha:QE X a fa)(hb:QE X b fb)(hs:wC b:=by intro _ _;rfl):QE X (K3 a b pos) (o2 aP fa fb):=
 ⟨q_ix (ha:=ha.h) (hb:=hb.h) (hs:=hs)⟩
theorem eg {X:Cx}:QO X none pN:=
 ⟨AV ⟩
theorem ef {X:Cx}{a:Expr}{fa:En->Rs T}(ha:QE X a fa):QO X (some a) (pS fa):=
 ⟨AU (ha:=ha.h)⟩
theorem eh {X:Cx}{a:Expr}{fa:En->Rs T}{pos:Pos}{lo hi:Option Expr}{p2:Pos}{fl fu:En->Rs (Option Int)}(ha:QE X a fa)(hl:QO X lo fl)(hu:QO X hi fu):QE X (K3 a (Expr.Slice lo hi none p2) pos) (sl fa fl fu):=
 ⟨A2 (ha:=ha.h) (hl:=hl.h) (hu:=hu.h)⟩
theorem CL {X:Cx}{a:Expr}{fa:En->Rs T}{pos:Pos}{j:Nat}{p1 p2 p3:Pos}(ha:QE X a fa):QE X (K3 a (Expr.Slice none none (some (Nc UnaryOp.USub (MH (Const.int 1) j p1) p2)) p3) pos) (o1 wW fa):=
 ⟨Fm (ha:=ha.h)⟩
theorem dj {X:Cx}{e:Expr}{es:List Expr}{fs:En->Rs (List T)}{pos p:Pos}{x:Str}{id:String}{g:List T->Rs T}(hc:CallT X (Value.builtin id) g)(hm:Cx.mg X x=none)(hv:IU x=some (Value.builtin id))(ha:QA X (e::es) fs)(hn:bj (e::es)=true:=by rfl)(hg:Gl X x:=by rfl)(h1:x≠Ip "__name__":=by decide)(h2:iV x:=by decide):QE X (JO (IV x p) (e::es) [] pos) (cl g fs):=
 ⟨q_cB (hc:=hc) (hm:=hm) (hv:=hv) (ha:=ha.h) (hn:=hn) (hg:=hg) (h1:=h1) (h2:=h2)⟩
theorem mJ {X:Cx}{e:Expr}{es:List Expr}{fs:En->Rs (List T)}{pos p:Pos}{x:Str}{Ty:String}{g:List T->Rs T}(hc:CallT X (J4 Ty) g)(hm:Cx.mg X x=none)(hv:IU x=some (J4 Ty))(ha:QA X (e::es) fs)(hn:bj (e::es)=true:=by rfl)(hg:Gl X x:=by rfl)(h1:x≠Ip "__name__":=by decide)(h2:iV x:=by decide):QE X (JO (IV x p) (e::es) [] pos) (cl g fs):=
 ⟨q_cT (hc:=hc) (hm:=hm) (hv:=hv) (ha:=ha.h) (hn:=hn) (hg:=hg) (h1:=h1) (h2:=h2)⟩
theorem zq_c {X:Cx}{e:Expr}{es:List Expr}{fs:En->Rs (List T)}{pos p:Pos}{x:Str}{n k:Nat}{f:Addr}{fd:JT}{ps:List Str}{g:List T->Rs T}(F:CH (Cx.prog X) (Cx.w X) (Cx.K X) (Cx.mg X) (Cx.base X) k f fd ps n g)(hr:Room k (Cx.A X))(hm:Cx.mg X x=some (II f))(hk:W.keepIn (Cx.K X) (II f)=true)(hb:L2.Binds (Cx.K X) fd ps [])(hl:∀(Z:En) (ts:List T),fs Z=Rs.ok ts->KG ts=n)(ha:QA X (e::es) fs)(hps:KG ps=n:=by rfl)(hn:bj (e::es)=true:=by rfl)(hg:Gl X x:=by rfl)(h2:iV x:=by decide):QE X (JO (IV x p) (e::es) [] pos) (cl g fs):=
 ⟨q_c (F:=F) (hr:=hr) (hm:=hm) (hk:=hk) (hb:=hb) (hl:=hl) (ha:=ha.h) (hps:=hps) (hn:=hn) (hg:=hg) (h2:=h2)⟩
theorem x5 {X:Cx}{a:Expr}{fa:En->Rs T}{pos p p2:Pos}{tn:Str}{Ty:String}(hm:Cx.mg X (Ip "isinstance")=none)(hmt:Cx.mg X tn=none)(hv:IU tn=some (J4 Ty))(ha:QE X a fa)(hn:cw a=true:=by rfl)(hg:Gl X (Ip "isinstance"):=by rfl)(hgt:Gl X tn:=by rfl)(h1:tn≠Ip "__name__":=by decide)(h2:iV tn:=by decide):QE X (JO (IV (Ip "isinstance") p) [a,IV tn p2] [] pos) (o1 (BK Ty) fa):=
 ⟨q_is (hm:=hm) (hmt:=hmt) (hv:=hv) (ha:=ha.h) (hn:=hn) (hg:=hg) (hgt:=hgt) (h1:=h1) (h2:=h2)⟩
theorem aq {X:Cx}{pos:Pos}{x:Str}(i:Nat)(hN:Jo (Cx.N X))(hi:(Cx.N X)[i]? =some x:=by rfl)(hx:L2.Loc (KL (Cx.env X)) x:=by first | exact KB rfl | exact J9 rfl)(hf:Cx.fn X x=true\/Lv x (NG (KL (Cx.env X)))=some NameKind.local:=by first | exact .inl rfl | exact .inr rfl | assumption):QG X (IV x pos) (gN i):=
 ⟨A0 (i:=i) (hN:=hN) (hi:=hi) (hx:=hx) (hf:=hf)⟩
theorem gC {X:Cx}:GJ X [] vZ:=
 ⟨AZ ⟩
theorem bX {X:Cx}{e:Expr}{es:List Expr}{g:T->En->Rs En}{gs:List T->En->Rs En}(h1:QG X e g)(h2:GJ X es gs)(hs:List.map (λx=>Prod.snd x) (JS (e::es) (Cx.env X))=assign e (Cx.env X)::List.map (λx=>Prod.snd x) (JS es (Cx.env X)):=by rfl):GJ X (e::es) (lC g gs):=
 ⟨yx (h1:=h1.h) (h2:=h2.h) (hs:=hs)⟩
theorem jk {X:Cx}{es:List Expr}{pos:Pos}{k n:Nat}{gs:List T->En->Rs En}(hc:Cx.calm X=true)(h:GJ X es gs)(hn:KG (JS es (Cx.env X))=n:=by rfl)(hst:List.findIdx? (λx=>Prod.fst x) (JS es (Cx.env X))=none:=by rfl):QG X (Expr.Tuple es k pos) (gT n gs):=
 ⟨Dk (hc:=hc) (h:=h.h) (hn:=hn) (hst:=hst)⟩
theorem dQ {X:Cx}{a:Expr}{fs:En->Rs (List T)}{pos p:Pos}{tg:Expr}(hm:Cx.mg X (Ip "range")=none)(ha:QA X [a] fs)(hg:Gl X (Ip "range"):=by rfl)(hs:IA [a] (Cx.env X)= [(false,eval a (Cx.env X))]:=by rfl):QI X tg (JO (IV (Ip "range") p) [a] [] pos) (iR fs):=
 ⟨wZ (hm:=hm) (ha:=ha.h) (hg:=hg) (hs:=hs)⟩
theorem bZ {X:Cx}:GI X [] bT:=
 ⟨AX ⟩
theorem mI {X:Cx}{c:Expr}{f:En->Rs Bool}(h:QT X c f):GI X [c] f:=
 ⟨AW (h:=h.h)⟩
theorem fq {X:Cx}{pos:Pos}{elt tg iter:Expr}{ifs:List Expr}{scope:LZ}{N':List Str}{src:List (Option Nat)}{fi:En->Rs (List T)}{tgt:T->En->Rs En}{fc:En->Rs Bool}{fe:En->Rs T}(hc:Cx.calm X=true)(S:LcScope X scope N' src)(hi:QI X tg iter fi)(block:∀(cl:List (Str×Addr)) (C:Addr) (s₀:Ib) (H₀:Hp) (fp:List Addr),QG (cO X scope cl N' C s₀ H₀ fp) tg tgt/\GI (cO X scope cl N' C s₀ H₀ fp) ifs fc/\QE (cO X scope cl N' C s₀ H₀ fp) elt fe)(hs:∀(x:H0),Jy iter (Cx.env X) x=pure x:=by intro _;rfl):QE X (N1 elt [{ target:=tg,iter:=iter,ifs:=ifs,is_async:=0 }] scope pos) (fA fi src tgt fc fe):=
 ⟨q_lc (hc:=hc) (S:=S) (hi:=hi.h) (block:=λa1 a2 a3 a4 a5=>⟨(block a1 a2 a3 a4 a5).1.h,(block a1 a2 a3 a4 a5).2.1.h,(block a1 a2 a3 a4 a5).2.2.h⟩) (hs:=hs)⟩
theorem bh {X:Cx}:Ao X [] sN:=
 ⟨Dc ⟩
theorem ao {X:Cx}{st:Stmt}{cP:List Stmt}{F G:En->Rs Fl}(h1:QS X st F)(h2:Ao X cP G):Ao X (st::cP) (aC F G):=
 ⟨AS (h1:=h1.h) (h2:=h2.h)⟩
theorem ar {X:Cx}{st:Stmt}{F:En->Rs Fl}(h:QS X st F):Ao X [st] F:=
 ⟨C9 (h:=h.h)⟩
theorem ay {X:Cx}{a:Expr}{fa:En->Rs T}{pos:Pos}(ha:QE X a fa):QS X (Stmt.Return (some a) pos) (aK fa):=
 ⟨C7 (ha:=ha.h)⟩
theorem bK {X:Cx}{c:Expr}{pos:Pos}{f:En->Rs Bool}{A B:List Stmt}{F G:En->Rs Fl}(hc:QT X c f)(ha:Ao X A F)(hb:Ao X B G):QS X (Stmt.If c A B pos) (eX f F G):=
 ⟨Fg (hc:=hc.h) (ha:=ha.h) (hb:=hb.h)⟩
theorem CJ {X:Cx}{pos:Pos}{elt tg iter:Expr}{ifs:List Expr}{scope:LZ}{spos py:Pos}{N':List Str}{src:List (Option Nat)}{fi:En->Rs (List T)}{tgt:T->En->Rs En}{fc:En->Rs Bool}{fe:En->Rs T}(i:Nat){y:Str}(hc:Cx.calm X=true)(S:LcScope X scope N' src)(hi:QI X tg iter fi)(block:∀(cl:List (Str×Addr)) (C:Addr) (s₀:Ib) (H₀:Hp) (fp:List Addr),QG (cO X scope cl N' C s₀ H₀ fp) tg tgt/\GI (cO X scope cl N' C s₀ H₀ fp) ifs fc/\QE (cO X scope cl N' C s₀ H₀ fp) elt fe)(hN:Jo (Cx.N X))(hiy:(Cx.N X)[i]? =some y:=by rfl)(hy:L2.Loc (KL (Cx.env X)) y:=by first | exact KB rfl | exact J9 rfl)(hsw:JY (N1 elt [{ target:=tg,iter:=iter,ifs:=ifs,is_async:=0 }] scope pos) (some (IV y py)) (Lj spos) (Cx.env X)=pure true:=by rfl)(hf:Cx.fn X y=true\/Lv y (NG (KL (Cx.env X)))=some NameKind.local:=by first | exact .inl rfl | exact .inr rfl | assumption)(hs:∀(x:H0),Jy iter (Cx.env X) x=pure x:=by intro _;rfl):QS X (MI [IV y py] (N1 elt [{ target:=tg,iter:=iter,ifs:=ifs,is_async:=0 }] scope pos) spos) (cu (fA fi src tgt fc fe) (gN i)):=
 ⟨Ff (i:=i) (hc:=hc) (S:=S) (hi:=hi.h) (block:=λa1 a2 a3 a4 a5=>⟨(block a1 a2 a3 a4 a5).1.h,(block a1 a2 a3 a4 a5).2.1.h,(block a1 a2 a3 a4 a5).2.2.h⟩) (hN:=hN) (hiy:=hiy) (hy:=hy) (hsw:=hsw) (hf:=hf) (hs:=hs)⟩
theorem aG {X:Cx}{a:Expr}{fa:En->Rs T}{pos:Pos}{tg:Expr}{g:T->En->Rs En}(ha:QE X a fa)(hg:QG X tg g)(hs:N4 [tg] a (Lj pos) (Cx.env X)=pure false:=by rfl)(hw:N5 [tg] a (Cx.env X)=pure none:=by rfl)(h1:List.map (λx=>Prod.snd x) (JS [tg] (Cx.env X))= [assign tg (Cx.env X)]:=by rfl):QS X (MI [tg] a pos) (cu fa g):=
 ⟨Dg (ha:=ha.h) (hg:=hg.h) (hs:=hs) (hw:=hw) (h1:=h1)⟩
theorem cv {X:Cx}{a:Expr}{fa:En->Rs T}{pos:Pos}(ha:QE X a fa)(hs:JY a none (Lj pos) (Cx.env X)=pure false:=by rfl):QS X (Stmt.Expr a pos) (oR fa):=
 ⟨AR (ha:=ha.h) (hs:=hs)⟩
theorem dN {X:Cx}{pos:Pos}{tg iter:Expr}{body:List Stmt}{fi:En->Rs (List T)}{g:T->En->Rs En}{F:En->Rs Fl}(hc:Cx.calm X=true)(hi:QI X tg iter fi)(hg:QG (Cx.nox X) tg g)(hb:Ao (Cx.nox X) body F)(hs:∀(x:H0),Jy iter (Cx.env X) x=pure x:=by intro _;rfl):QS X (Stmt.For tg iter body [] pos) (ij fi g F):=
 ⟨Dd (hc:=hc) (hi:=hi.h) (hg:=hg.h) (hb:=hb.h) (hs:=hs)⟩
theorem wI {X:Cx}{pos:Pos}{c:Expr}{body:List Stmt}{fc:En->Rs Bool}{F:En->Rs Fl}(n:Nat)(hc:QT (Cx.nox X) c fc)(hb:Ao (Cx.nox X) body F):QS X (Stmt.While c body [] pos) (bN fc F n):=
 ⟨yv (n:=n) (hc:=hc.h) (hb:=hb.h)⟩
theorem cm {X:Cx}{a:Expr}{fa:En->Rs T}{tg:Expr}(ha:QE X a fa):QI X tg a (iS fa):=
 ⟨Dj (ha:=ha.h)⟩
theorem ku {X:Cx}{a:Expr}{fs:En->Rs (List T)}{p pos:Pos}{elts:List Expr}{kk:Nat}{tpos:Pos}(hm:Cx.mg X (Ip "enumerate")=none)(ha:QA X [a] fs)(hg:Gl X (Ip "enumerate"):=by rfl)(hs:IA [a] (Cx.env X)= [(false,eval a (Cx.env X))]:=by rfl):QI X (Expr.Tuple elts kk tpos) (JO (IV (Ip "enumerate") p) [a] [] pos) (iE fs):=
 ⟨AY (hm:=hm) (ha:=ha.h) (hg:=hg) (hs:=hs)⟩
theorem iq {X:Cx}{es:List Expr}{pos p2 p3:Pos}{x:Str}(i:Nat){f:En->Rs (List T)}(hN:Jo (Cx.N X))(ha:QA X es f)(hi:(Cx.N X)[i]? =some x:=by rfl)(hx:L2.Loc (KL (Cx.env X)) x:=by first | exact KB rfl | exact J9 rfl)(hs:JY (Expr.List es p2) (some (IV x p3)) (Lj pos) (Cx.env X)=pure false:=by rfl)(hf:Cx.fn X x=true\/Lv x (NG (KL (Cx.env X)))=some NameKind.local:=by first | exact .inl rfl | exact .inr rfl | assumption):QS X (MI [IV x p3] (Expr.List es p2) pos) (iG i f):=
 ⟨AO (i:=i) (hN:=hN) (ha:=ha.h) (hi:=hi) (hx:=hx) (hs:=hs) (hf:=hf)⟩
theorem ml {X:Cx}{a:Expr}{fa:En->Rs T}{pos p2:Pos}{x:Str}(i:Nat){apos cpos:Pos}(ha:QE X a fa)(hN:(Cx.N X)[i]? =some x:=by rfl)(hv:Ae (KL (Cx.env X)) x:=by first | exact KB rfl | exact J9 (KB rfl) | exact J9 (J9 rfl))(hn:cw a=true:=by rfl)(hbase:JU (IV x p2) (Ip "append") (Cx.env X) (eval (IV x p2) (Cx.env X))=eval (IV x p2) (Cx.env X):=by rfl)(hline:(NH apos == Lj cpos)=true:=by rfl)(hd:iV x:=by decide)(hcd:(x == Ip "__classdict__")=false:=by decide)(hsw:JY (JO (K4 (IV x p2) (Ip "append") apos) [a] [] cpos) none (Lj pos) (Cx.env X)=pure false:=by rfl):QS X (Stmt.Expr (JO (K4 (IV x p2) (Ip "append") apos) [a] [] cpos) pos) (l5 i fa):=
 ⟨Dh (i:=i) (ha:=ha.h) (hN:=hN) (hv:=hv) (hn:=hn) (hbase:=hbase) (hline:=hline) (hd:=hd) (hcd:=hcd) (hsw:=hsw)⟩
theorem qm {X:Cx}{a:Expr}{fa:En->Rs T}{pos p2:Pos}{x:Str}(i:Nat){apos cpos:Pos}(ha:QE X a fa)(hN:(Cx.N X)[i]? =some x:=by rfl)(hv:Ae (KL (Cx.env X)) x:=by first | exact KB rfl | exact J9 (KB rfl) | exact J9 (J9 rfl))(hn:cw a=true:=by rfl)(hbase:JU (IV x p2) (Ip "extend") (Cx.env X) (eval (IV x p2) (Cx.env X))=eval (IV x p2) (Cx.env X):=by rfl)(hline:(NH apos == Lj cpos)=true:=by rfl)(hd:iV x:=by decide)(hcd:(x == Ip "__classdict__")=false:=by decide)(hsw:JY (JO (K4 (IV x p2) (Ip "extend") apos) [a] [] cpos) none (Lj pos) (Cx.env X)=pure false:=by rfl):QS X (Stmt.Expr (JO (K4 (IV x p2) (Ip "extend") apos) [a] [] cpos) pos) (m4 i fa):=
 ⟨De (i:=i) (ha:=ha.h) (hN:=hN) (hv:=hv) (hn:=hn) (hbase:=hbase) (hline:=hline) (hd:=hd) (hcd:=hcd) (hsw:=hsw)⟩
theorem kr {X:Cx}(i:Nat){st:Stmt}{F:En->Rs Fl}(h:QS X st F):QS X st (qC i F):=
 ⟨Df (i:=i) (h:=h.h)⟩
theorem Cf {X:Cx}(i:Nat){e:Expr}{f:En->Rs T}(h:QE X e f):QE X e (ln i f):=
 ⟨q_ln (i:=i) (h:=h.h)⟩
theorem CI {X:Cx}(i:Nat){e:Expr}{f:En->Rs Bool}(h:QT X e f):QT X e (DV i f):=
 ⟨Fe (i:=i) (h:=h.h)⟩
theorem CK {X:Cx}{pos:Pos}:QS X (Stmt.Continue pos) Ck:=
 ⟨Fh ⟩
theorem wJ {X:Cx}{a:Expr}{es:List Expr}{fs:En->Rs (List T)}{p1 p2 pos pos2:Pos}(hc:Cx.calm X=true)(h1:Cx.mg X (Ip "list")=none)(h2:Cx.mg X (Ip "range")=none)(ha:QA X (a::es) fs)(g1:Gl X (Ip "list"):=by rfl)(g2:Gl X (Ip "range"):=by rfl)(hn:bj (a::es)=true:=by rfl)(he2:IA [JO (IV (Ip "range") p2) (a::es) [] pos2] (Cx.env X)=(false,eval (JO (IV (Ip "range") p2) (a::es) [] pos2) (Cx.env X))::IA [] (Cx.env X):=by rfl)(hpl2:(List.any (backTo pos (IA [] (Cx.env X))) λx=>Prod.fst x)=false:=by rfl):QE X (JO (IV (Ip "list") p1) [JO (IV (Ip "range") p2) (a::es) [] pos2] [] pos) (lR fs):=
 ⟨yy (hc:=hc) (h1:=h1) (h2:=h2) (ha:=ha.h) (g1:=g1) (g2:=g2) (hn:=hn) (he2:=he2) (hpl2:=hpl2)⟩
theorem jj {X:Cx}{c:Str}{msg:Str}{C:Addr}{bm:List H0}{np p1 cpos pos:Pos}{j:Nat}(O:OX X.K C bm)(hm:X.mg c=some (.ref C))(hc:X.calm=true:=by rfl)(hg:Gl X c:=by rfl)(hd:iV c:=by decide) :
  QS X (.Raise (some (.Call (.Name c np) [.Constant (.str msg) j p1] [] cpos)) none pos) (wV c):=⟨yw O.own hc hm hg hd⟩
theorem vj {P:IJ}{w:JA}{K:HX}{mg:Str->Option H0}{base:Heap}{x qual:Str}{st:Stmt}{f:Addr}{fd:JT}{N ps:List Str}{k n:Nat}{F:En->Rs Fl}(Fn:L2.Fun K x qual st f fd)(S:aD N ps (ak st))(hn:ps.length=n)
  (hbody:∀(cdv:H0) (A:Jl) (outer:List Env) (s:Ib) (H:Hp) (E:XK),Room k (A.deeper (envOfC qual (ak st) s.heap.objs.size f cdv)) →
   ∀xe,Ao ((lF CX0 P w K mg base N qual (ak st) f cdv A outer s H E).FM xe) (dC st) F):CH P w K mg base (k+1) f fd ps n (val n N.length F):=Ej Fn S hn λcdv A outer s H E hr xe=>(hbody cdv A outer s H E hr xe).h
theorem uo {X:Cx}{a b:Expr}{fa fb:En->Rs T}{pos:Pos}(hu:Mh (Cx.A X)+1<cLine)(ha:QE X a fa)(hb:QE X b fb)(hs:Cb b:=by intro _ _;rfl):QE X (K3 a b pos) (o2 pf fa fb):=
 ⟨Fw (hu:=hu) (ha:=ha.h) (hb:=hb.h) (hs:=hs)⟩
theorem vi {X:Cx}{a b:Expr}{fa fb:En->Rs T}{apos cpos:Pos}(hu:Mh (Cx.A X)+1<cLine)(ha:QE X a fa)(hb:QE X b fb)(hn:cw b=true:=by rfl)(hbase:JU a (Ip "get") (Cx.env X) (eval a (Cx.env X))=eval a (Cx.env X):=by rfl)(hline:(NH apos == Lj cpos)=true:=by rfl):QE X (JO (K4 a (Ip "get") apos) [b] [] cpos) (oD ig fa fb):=
 ⟨Dn (hu:=hu) (ha:=ha.h) (hb:=hb.h) (hn:=hn) (hbase:=hbase) (hline:=hline)⟩
theorem wK {X:Cx}{a b:Expr}{fa fb:En->Rs T}{apos cpos:Pos}(hu:Mh (Cx.A X)+61<cLine)(ha:QE X a fa)(hb:QE X b fb)(hn:cw b=true:=by rfl)(hbase:JU a (Ip "index") (Cx.env X) (eval a (Cx.env X))=eval a (Cx.env X):=by rfl)(hline:(NH apos == Lj cpos)=true:=by rfl):QE X (JO (K4 a (Ip "index") apos) [b] [] cpos) (oL gf fa fb):=
 ⟨yz (hu:=hu) (ha:=ha.h) (hb:=hb.h) (hn:=hn) (hbase:=hbase) (hline:=hline)⟩
theorem xZ {X:Cx}{e:Expr}{f:En->Rs T}{x:Str}{p pos p2 p3:Pos}(i:Nat)(hu:Mh (Cx.A X)+8<cLine)(hc:Cx.calm X=true)(hm:Cx.mg X (Ip "dict")=none)(hN:Jo (Cx.N X))(ha:QE X e f)(hst:cw e=true:=by rfl)(hg:Gl X (Ip "dict"):=by rfl)(hi:(Cx.N X)[i]? =some x:=by rfl)(hx:L2.Loc (KL (Cx.env X)) x:=by first | exact KB rfl | exact J9 rfl)(hs:JY (JO (IV (Ip "dict") p) [e] [] p2) (some (IV x p3)) (Lj pos) (Cx.env X)=pure false:=by rfl)(hf:Cx.fn X x=true\/Lv x (NG (KL (Cx.env X)))=some NameKind.local:=by first | exact .inl rfl | exact .inr rfl | assumption):QS X (MI [IV x p3] (JO (IV (Ip "dict") p) [e] [] p2) pos) (pC i f):=
 ⟨AQ (i:=i) (hu:=hu) (hc:=hc) (hm:=hm) (hN:=hN) (ha:=ha.h) (hst:=hst) (hg:=hg) (hi:=hi) (hx:=hx) (hs:=hs) (hf:=hf)⟩
theorem As {X:Cx}{b c:Expr}{fb fc:En->Rs T}{pos p2 p3:Pos}{x:Str}(i:Nat)(hu:Mh (Cx.A X)+1<cLine)(hb:QE X b fb)(hc:QE X c fc)(hN:(Cx.N X)[i]? =some x:=by rfl)(hv:Ae (KL (Cx.env X)) x:=by first | exact KB rfl | exact J9 (KB rfl) | exact J9 (J9 rfl))(hd:iV x:=by decide)(hcd:(x == Ip "__classdict__")=false:=by decide)(hs:JY c (some (K3 (IV x p2) b p3)) (Lj pos) (Cx.env X)=pure false:=by rfl):QS X (MI [K3 (IV x p2) b p3] c pos) (wU i fb fc):=
 ⟨C8 (i:=i) (hu:=hu) (hb:=hb.h) (hc:=hc.h) (hN:=hN) (hv:=hv) (hd:=hd) (hcd:=hcd) (hs:=hs)⟩
end Tr
namespace Tr
open PySem PySem.Spec PyProof.Rows L2 PySem.W
def zH (h:Heap):Frag:=(Iw h.objs.size).filterMap λa=>(h.get? a).map λo=>(a,o)
theorem zG (h:Heap):(zH h).In h:=by
 have key:∀(l:List Nat) (a:Addr) (o:Obj),(l.filterMap λa=>(h.get? a).map λo=>(a,o)).lookup a=some o->h.get? a=some o:=by
  intro l
  induction l with
  | nil=>intro a o e;cases e
  | cons b r ih=>
   intro a o e
   cases hb:h.get? b with
   | none=>rw[List.filterMap_cons_none (by rw[hb];rfl)]at e;exact ih a o e
   | some ob=>
    rw[List.filterMap_cons_some (b:=(b,ob)) (by rw[hb];rfl),Jv]at e
    cases q:a == b with
    | true=>rw[q]at e;cases e;rw[eq_of_beq q];exact hb
    | false=>rw[q]at e;exact ih a o e
 exact λa o e=>key _ a o e
def obF (K:Frag)(n:Str):Option (Str×Str×O8×FuncBody×LZ×Addr×List (Str×Addr)×H0×Addr×Bool×Bool):=match nsIn K Jf n with
 | some (some (.ref f))=>match K.lookup f with
  | some ⟨_,_,.func d,_⟩=>some (d.name,d.qualname,d.params,d.body,d.scope,d.globals,d.closure,d.defaults,d.builtins,codeIn K d.code n,keepIn K (.ref f))
  | _=>none
 | _=>none
def exF (n:Str)(st:Stmt):Option (Str×Str×O8×FuncBody×LZ×Addr×List (Str×Addr)×H0×Addr×Bool×Bool):=
 some (n,n,gW st,.stmts (dC st),ak st,Jf,[],.none,Np,true,true)
theorem Cz {K:Frag}{n:Str}{st:Stmt}(e:obF K n=exF n st):∃f fd,nsIn K Jf n=some (some (.ref f))/\L2.Fun K n n st f fd:=by
 unfold obF at e
 split at e
 ·rename_i f hf
  split at e
  ·rename_i oc od d sl hl
   cases d;unfold exF at e;simp only[Mu,MF]at e;obtain⟨h1,h2,h3,h4,h5,h6,h7,h8,h9,h10,h11⟩:=e;subst h1 h2 h3 h4 h5 h6 h7 h8 h9;exact⟨f,_,hf,Eh hl h10 h11⟩
  ·cases e
 ·cases e
def FO (K:Frag)(N:Addr)(n:Str):Bool:=match nsIn K N n with | some none=>true | _=>false
theorem nC {K:Frag}{N:Addr}{n:Str}(e:FO K N n=true):nsIn K N n=some none:=by
 unfold FO at e
 split at e
 ·assumption
 ·cases e
def GG (K:Frag)(n:Str):Option Int:=match nsIn K Jf n with | some (some (.int i _))=>some i | _=>none
theorem DS {K:Frag}{n:Str}{i:Int}(e:GG K n=some i):∃t,nsIn K Jf n=some (some (.int i t)):=by
 unfold GG at e
 split at e
 ·rename_i i' t h;cases e;exact⟨t,h⟩
 ·cases e
def vo:List H0->Bool
 | [.type a,.type b,.type c,.type d] =>a == "ValueError" &&b == "Exception" &&c == "BaseException" &&d == "object"
 | _=>false
theorem mM:∀{l:List H0},vo l=true->l=uj:=by
 intro l e;unfold vo at e
 split at e
 ·simp only[HZ,beq_iff_eq]at e
  obtain⟨⟨⟨h1,h2⟩,h3⟩,h4⟩:=e;subst h1 h2 h3 h4;rfl
 ·cases e
def yb (D:Option Addr)(m:List H0):Bool:=match D with
 | none=>vo m
 | some D=>match m with
  | .ref E::m=>E == D&&vo m
  | _=>false
def By (K:Frag)(D:Option Addr)(n:Str):Option Addr:=match nsIn K Jf n with
 | some (some (.ref C))=>match K.lookup C with
  | some ⟨.type t,_,.cls c,⟨[_,_,_,_,some (.builtin b),_]⟩⟩=>match c.mro,K.lookup c.ns with
   | .ref E::m,some ⟨_,_,.dict es _,_⟩=>
    if (t == "type" &&b == "ValueError.__new__" && !c.hasDel&&(es.toList.all λe=>yg e.key)&&calmNames.all (FO K c.ns)&&E == C&&yb D m)=true then some C else none
   | _,_=>none
  | _=>none
 | _=>none
theorem iM {K:Frag}{D:Option Addr}{n:Str}{C:Addr}(e:By K D n=some C):nsIn K Jf n=some (some (.ref C)) ∧
  ∃nm q N bs bm hd sn su ab co dd k0 k1 k2 k3 k5,yb D bm=true/\K.lookup C=some (L4 nm q C N bs bm hd sn su ab co dd k0 k1 k2 k3 k5 "ValueError.__new__")/\∀h:Heap,K.In h->∃mN,h.Ns N mN/\∀n∈calmNames,mN n=none:=by
 unfold By at e
 split at e
 ·rename_i C' hC
  split at e
  ·rename_i t dd c k0 k1 k2 k3 b k5 hl
   split at e
   ·rename_i E m ob oe es ep oz hm hN
    split at e
    ·rename_i hq
     cases e;simp only[HZ,beq_iff_eq,Ol]at hq;obtain⟨⟨⟨⟨⟨⟨h1,h2⟩,h3⟩,h4⟩,h5⟩,h6⟩,h7⟩:=hq
     have z:=IR.mp h5;refine⟨hC,c.name,c.qualname,c.ns,c.bases,m,c.hasDict,c.slotNames,c.subclasses,c.abstract,c.collection,dd,k0,k1,k2,k3,k5,h7,?_,FP hN h4 (nC (z _ (.head _))) (nC (z _ (.tail _ (.head _)))) (nC (z _ (.tail _ (.tail _ (.head _))))) (nC (z _ (.tail _ (.tail _ (.tail _ (.head _))))))⟩
     rw[hl];cases c;simp only at hm h3;subst h1 h2 hm h3 h6
     rfl
    ·cases e
   ·cases e
  ·cases e
 ·cases e
theorem ox0 {K:Frag}{C:Addr}{n:Str}(e:By K none n=some C):OX K C uj:=by
 obtain⟨_,_,_,_,_,_,_,_,_,_,_,_,_,_,_,_,_,hu,hl,hn⟩:=iM e;cases mM hu;exact Bt hl hn
theorem GD {K:Frag}{C D:Addr}{n m:Str}(e:By K (some D) n=some C)(d:By K none m=some D):OX K C (.ref D::uj):=by
 obtain⟨_,_,_,_,_,bm,_,_,_,_,_,_,_,_,_,_,_,hu,hl,hn⟩:=iM e;obtain⟨_,_,_,_,_,_,_,_,_,_,_,_,_,_,_,_,_,hu',hl',hn'⟩:=iM d;cases mM hu';unfold yb at hu;simp only at hu
 split at hu
 ·rw[HZ]at hu
  cases eq_of_beq hu.1;cases mM hu.2;exact yR hl hn hl' hn'
 ·cases hu
def vf {α:Type}:List (Option α)->Option (List α)
 | [] =>some []
 | none::_=>none
 | some a::r=>match vf r with | some l=>some (a::l) | none=>none
theorem jA {α:Type}{o:Option α}{r:List (Option α)}{l:List α}(e:vf (o::r)=some l):∃a l',o=some a/\l=a::l'/\vf r=some l':=by
 cases o with
 | none=>cases e
 | some a=>
  unfold vf at e
  split at e
  ·rename_i l' h;cases e;exact⟨a,l',rfl,rfl,h⟩
  ·cases e
theorem Ad {α:Type}{l:List α}(e:vf ([]:List (Option α))=some l):l= []:=by cases e;rfl
def qX:List Addr->Bool
 | [] =>true
 | a::r=>(r.all λb=> !(a == b))&&qX r
theorem pG:∀{l:List Addr},qX l=true->l.Nodup
 | [],_=> .nil
 | a::r,h=>by
  unfold qX at h;rw[HZ]at h;refine IT.mpr ⟨λhm=> ?_,pG h.2⟩
  have:=IR.mp h.1 a hm
  simp at this
def GF (K:Frag):List Str->Bool
 | [] =>true
 | m::es=>match By K none m with
  | some D=>match vf (es.map (By K (some D)))with | some l=>qX (l++ [D]) | none=>false
  | none=>false
theorem DQ {K:Frag}{m:Str}{es:List Str}(e:GF K (m::es)=true):∃D l,By K none m=some D/\vf (es.map (By K (some D)))=some l/\(l++ [D]).Nodup:=by
 rw[GF]at e
 split at e
 ·rename_i D hD
  split at e
  ·rename_i l hl;exact⟨D,l,hD,hl,pG e⟩
  ·cases e
 ·cases e
structure xV where
 tab:List (Str×Nat)
 zs:List Str
 cs:List (Str×Int)
 es:List Str
def o5 (S:xV)(K:Frag):=(S.tab.map (λp=>obF K p.1),S.zs.all (FO K Jf),S.cs.map (λc=>GG K c.1),GF K S.es)
def oK (S:xV)(top:Nat->Stmt):=(S.tab.map (λp=>exF p.1 (top p.2)),true,S.cs.map (λc=>some c.2),true)
def hookK (S:xV)(top:Nat->Stmt):Hook:=
 ⟨_,λs=>o5 S (zH s.heap),λ_=>oK S top,λ_ h=> ∃K:Frag,K.In h/\o5 S K=oK S top,λ_ s e=>⟨_,zG s.heap,e⟩,λ_ _ _ ⟨K,a,b⟩ k=>⟨K,a.keeps k,b⟩⟩
section
variable {S:xV}{top:Nat->Stmt}{K:Frag}{h:Heap}{mg:Str->Option H0}
theorem rn {α β:Type}{f g:α->β}:∀{l:List α} (j:Nat) {a:α},l.map f=l.map g->l[j]? =some a->f a=g a
 | [],_,_,_,q=>by cases q
 | b::l,0,a,e,q=>by cases q;exact(Na.inj e).1
 | b::l,j+1,a,e,q=>rn (l:=l) j (Na.inj e).2 q
theorem bU (j:Nat){n:Str}{i:Nat}{ps:List Str}(X:K.In h)(G:h.Ns Jf mg)(e:o5 S K=oK S top)(q:S.tab[j]? =some (n,i))
  (hb:∀(kV doc pm:H0) (an:Option Addr) (cdv ct:H0) (us:List H0),us.length=ps.length->bindArgs (fnOf n n (gW (top i)) (dC (top i)) (ak (top i)) .none kV doc pm an cdv ct) ⟨us,[]⟩=pure (ps.zip us)) :
  ∃f fd,Fn K mg n (top i) ps f fd:=by
 obtain⟨f,fd,h1,h2⟩:=Cz (rn j (congrArg (·.1) e) q)
 exact⟨f,fd,h2,h2.binds hb,mg_of X G h1⟩
theorem F7 (j:Nat){n:Str}{i:Nat}{x:Str}{fa:Addr}(X:K.In h)(G:h.Ns Jf mg)(e:o5 S K=oK S top)(q:S.tab[j]? =some (n,i))(hfa:mg n=some (.ref fa))
  (hb:∀(kV doc pm:H0) (an:Option Addr) (cdv ct u:H0),bindArgs (fnOf n n (gW (top i)) (dC (top i)) (ak (top i)) .none kV doc pm an cdv ct) ⟨[u],[]⟩=pure [(x,u)]) :
  ∃fd,Fn K mg n (top i) [x] fa fd/\∀(s:Ib) (u:H0),Oo s fd ⟨[u],[]⟩ [(x,u)]:=by
 obtain⟨f,fd,h1,h2⟩:=Cz (rn j (congrArg (·.1) e) q)
 have z:=hfa.symm.trans (mg_of X G h1);cases z
 have hh:=h2;obtain⟨oc,od,kV,doc,pm,an,cdv,ct,osl,rfl,lk,hcd⟩:=hh.ex;exact⟨_,⟨h2,.all λus hl=>match us,hl with | [u],_=>hb kV doc pm an cdv ct u,mg_of X G h1⟩,λs u=> .of_eq (hb kV doc pm an cdv ct u)⟩
theorem gu (j:Nat){n:Str}(X:K.In h)(G:h.Ns Jf mg)(e:o5 S K=oK S top)(q:S.zs[j]? =some n):mg n=none:=
 mg_none_of X G (nC (IR.mp (congrArg (·.2.1) e:S.zs.all (FO K Jf)=true) n (Jg q)))
theorem pM (j:Nat){n:Str}{i:Int}(X:K.In h)(G:h.Ns Jf mg)(e:o5 S K=oK S top)(q:S.cs[j]? =some (n,i)):∃t,mg n=some (.int i t):=by
 obtain⟨t,ht⟩:=DS (rn (f:=λc=>GG K c.1) (g:=λc=>some c.2) j (congrArg (·.2.2.1) e) q)
 exact⟨t,mg_of X G ht⟩
theorem Ga (e:o5 S K=oK S top):GF K S.es=true:=congrArg (·.2.2.2) e
end
theorem left_of {p q:IJ}{loose:List Str}{Xt:Ib->Bool}{α:Type}{Yf:Ib->α}{Ya:JA->α}{N:Nat}{g0:Bool}
  (e:opening p=plainProg p.main.scope.names) (hN:Nat.ble 600 N=true) (f:∀s,fenceModules? p s=some s)
  (h:∀(w:JA) (os:OsState),(topFrom treeTable p w N ⟨boot_heap w.params,⟨[]⟩,boot_drawn,boot_toks,os⟩).map (λs=>(openSeen q loose (Pc p.main.body) Xt g0 s,Yf s))=some (openGood q loose,Ya w)) :
  LeftO p q loose Xt Yf Ya N g0:=λw=>by
 obtain⟨⟨h0,gs,d,k,os⟩,e1,e2⟩:=MU.mp (boot_open e hN f w);simp only[MF]at e2;obtain⟨rfl,rfl,rfl,rfl⟩:=e2;unfold openEnds;rw[e1];exact h w os
theorem walk_k {l:OpenLaw}{n k:Nat}{q:IJ}{loose:List Str}{XP:(Str->Option H0)->Heap->Prop}{d:DefRec}{S:xV}{top:Nat->Stmt}{CX:Aq}{sp:Frag->Sp}{x:Str}
  (hn:l.most=some n) (hn2:n<=sizeLine) (hdf:d.params.defaults= []) (hr:Room k callerA)
  (F:∀(w:JA) (K:Frag) (mg:Str->Option H0) (fa:Addr) (h:Heap),K.In h->o5 S K=oK S top->h.Ns Jf mg->mg d.name=some (.ref fa) →
   ∃fd:JT,(∀(s:Ib) (u:H0),Oo s fd ⟨[u],[]⟩ [(x,u)])/\∀base:Heap,K.In base->base.Ns Jf mg->pk l.prog w K mg base CX k fa fd [x] (sp K))
  (hsp:∀(K:Frag) (H:Hp) (a:Addr) (ns:List Int),ns.length<=n->EC H->SqL K H a (ns.map V.int)->sp K [.ref a] H (λv _=>v= .bl true) λ_ _ _=>False)
  (hCX:∀(H:Hp) (s:Ib) (e:H0) (s':Ib),CX [] H s (λ_ _ _=>False) e s'->False) :
  WalkO q loose XP (hookK S top).says l.row.toRowW d [] (λf vs=>PySem.call f vs):=by
 refine Att.attach_call hn hdf λw s₀ s₁ mg mb fa o pm cd doc a vs ns G Y ho hd hcd hmg hobj hints hlen hg=> ?_
 obtain⟨K,KX,e⟩:=Y;obtain⟨fd,hb,hF⟩:=F w K mg fa _ KX e G.T.g hmg;exact zk KX G.T.g G.T.b G.T.builtins G.T.nolimit hg hobj hints (IQ hlen hn2) hr hF hb (λH hO hS=>hsp K H a ns hlen hO hS) λH e s'=>hCX H s₁ e s'
structure Cl (P:IJ)(w:JA)(K:Frag)(mg:Str->Option H0)(base:Heap)(k:Nat)(x:Str)(n:Nat)(m:List T->Rs T):Prop where
 ex:∃f fd ps,mg x=some (.ref f)/\keepIn K (.ref f)=true/\Binds K fd ps []/\ps.length=n/\CH P w K mg base k f fd ps n m
abbrev fM (K:Frag)(mg:Str->Option H0)(x:Str)(st:Stmt)(ps:List Str):Prop:=∃f fd,Fn K mg x st ps f fd
section
variable {P:IJ}{w:JA}{K:Frag}{mg:Str->Option H0}{base:Heap}{x:Str}{st:Stmt}{N ps:List Str}{k n:Nat}{F:En->Rs Fl}
theorem a8 (H:fM K mg x st ps)(S:aD N ps (ak st))(hn:ps.length=n)
  (hbody:∀(f:Addr) (cdv:H0) (A:Jl) (outer:List Env) (s:Ib) (H:Hp) (E:XK),Room k (A.deeper (envOfC x (ak st) s.heap.objs.size f cdv)) →
   ∀xe,Ao ((lF CX0 P w K mg base N x (ak st) f cdv A outer s H E).FM xe) (dC st) F):Cl P w K mg base (k+1) x n (val n N.length F):=by
 obtain⟨f,fd,h⟩:=H;exact⟨f,fd,ps,h.mg,h.fn.kp,h.bd,hn,vj h.fn S hn (hbody f)⟩
end
section
variable {X:Cx}{e:Expr}{es:List Expr}{fs:En->Rs (List T)}{pos p:Pos}{x:Str}{n k k':Nat}{g:List T->Rs T}
theorem aH (c:Cl X.prog X.w X.K X.mg X.base k x n g)(hr:Room k' X.A)(ha:QA X (e::es) fs)(hk:k<=k':=by decide)(hl:∀(Z:En) (ts:List T),fs Z= .ok ts->ts.length=n:=by repeat first | exact Gu | refine Gs ?_)
  (hn:bj (e::es)=true:=by rfl) (hg:Gl X x:=by rfl) (h2:iV x:=by decide):QE X (.Call (.Name x p) (e::es) [] pos) (cl g fs):=by
 obtain⟨f,fd,ps,h1,h3,h4,h5,h6⟩:=c.ex;exact zq_c h6 (hr.mono hk) h1 h3 h4 hl ha h5 hn hg h2
theorem sd {i:Int}(h:∃t,X.mg x=some (.int i t))(hg:Gl X x:=by rfl)(hd:iV x:=by decide):QE X (.Name x pos) (cn (.int i)):=by
 obtain⟨t,h⟩:=h;exact Au h ⟨_,rfl⟩ hg hd
end
end Tr
namespace Tr
open PySem PySem.Spec PyProof.Rows L2
theorem EJ {X:Cx}{k k':Nat}{x:Str}{g:List T->Rs T}{p pos:Pos}(c:Cl X.prog X.w X.K X.mg X.base k x 0 g)(hr:Room k' X.A)(hk:k<=k':=by decide)(hg:Gl X x:=by rfl)(h2:iV x:=by decide):QE X (.Call (.Name x p) [] [] pos) (c0 g):=by
 obtain⟨f,fd,ps,h1,h3,h4,h5,h6⟩:=c.ex;exact⟨q_c0 h6 (hr.mono hk) h1 h3 h4 hg h2⟩
theorem fL {N P:List Str}{sc:LZ}(h1:sc.kind= .function:=by rfl)(h2:sc.isCoroutine=false:=by rfl)(h3:sc.isGenerator=false:=by rfl)(h4:N.Nodup:=by decide+kernel)(h5:N.take P.length=P:=by rfl)
  (h6:∀x∈P,sc.names.lookup x=some .local\/sc.names.lookup x=some .cell:=by decide+kernel) (h7:∀y∈sc.names,y.2≠ .free:=by decide+kernel):aD N P sc:=⟨h1,h2,h3,h4,h5,h6,h7⟩
theorem x3 {X:Cx}{a:Expr}{fs:En->Rs (List T)}{p p1 p2 pos:Pos}(hc:X.calm=true)(hm:X.mg "list" =none)(hme:X.mg "enumerate" =none)(ha:QA X [a] fs)(hst:bj [a] =true:=by rfl)(hg:Gl X "list":=by rfl)(hge:Gl X "enumerate":=by rfl) :
  QE X (.Call (.Name "list" p) [.Call (.Name "enumerate" p1) [a] [] p2] [] pos) (cl tM fs):=⟨A3 hc hm hme ha.h hst hg hge⟩
theorem uk {X:Cx}{a b c:Expr}{fs:En->Rs (List T)}{p pos:Pos}{tg:Expr}(hm:X.mg "range" =none)(ha:QA X [a,b,c] fs)(hg:Gl X "range":=by rfl)(hn:bj [a,b,c] =true:=by rfl):QI X tg (.Call (.Name "range" p) [a,b,c] [] pos) (Gf fs):=⟨wY hm ha.h hg hn⟩
end Tr
namespace G
open PySem PySem.Spec PyProof.Rows L2 Tr
def top (i:Nat):Stmt:=Jk.main.body.getD i (.Pass ⟨0,0,0,0⟩)
structure Bl (mg:Str->Option H0):Prop where
 b_all:mg "all" =none
 b_bool:mg "bool" =none
 b_dict:mg "dict" =none
 b_enumerate:mg "enumerate" =none
 b_int:mg "int" =none
 b_isinstance:mg "isinstance" =none
 b_len:mg "len" =none
 b_list:mg "list" =none
 b_range:mg "range" =none
 b_tuple:mg "tuple" =none
structure Cs (mg:Str->Option H0):Prop where
 MOST_CLOCKS:∃t,mg "MOST_CLOCKS" =some (.int 4 t)
 MOST_LETTERS:∃t,mg "MOST_LETTERS" =some (.int 8 t)
 MOST_READINGS:∃t,mg "MOST_READINGS" =some (.int 4 t)
 LAST_READING:∃t,mg "LAST_READING" =some (.int 99 t)
 SLOWEST:∃t,mg "SLOWEST" =some (.int 9 t)
 LONGEST:∃t,mg "LONGEST" =some (.int 999 t)
theorem rV:IU "bool" =some (.type "bool"):=by decide+kernel
theorem lX:IU "int" =some (.type "int"):=by decide+kernel
theorem cH:IU "tuple" =some (.type "tuple"):=by decide+kernel
structure Xs (K:HX)(mg:Str->Option H0)(C_NoRecord C_NoEvent C_NoNumber C_NoWorld C_ClockError:Addr):Prop where
 m_NoRecord:mg "NoRecord" =some (.ref C_NoRecord)
 m_NoEvent:mg "NoEvent" =some (.ref C_NoEvent)
 m_NoNumber:mg "NoNumber" =some (.ref C_NoNumber)
 m_NoWorld:mg "NoWorld" =some (.ref C_NoWorld)
 m_ClockError:mg "ClockError" =some (.ref C_ClockError)
 o_NoRecord:OX K C_NoRecord (.ref C_ClockError::uj)
 o_NoEvent:OX K C_NoEvent (.ref C_ClockError::uj)
 o_NoNumber:OX K C_NoNumber (.ref C_ClockError::uj)
 o_NoWorld:OX K C_NoWorld (.ref C_ClockError::uj)
 o_ClockError:OX K C_ClockError uj
 d:[C_NoRecord,C_NoEvent,C_NoNumber,C_NoWorld,C_ClockError].Nodup
end G
namespace G
open PySem Tr
def qk:En->Rs Fl:=
 (aK (bS (o1 (BK "tuple") (vr 0)) (ch xX xX (vr 1) (cl cQ (ae (vr 0) ai)) (vr 2))))
def aR:List T->Rs T:=val 3 3 qk
def vh:En->Rs Fl:=
 (aK (bS (o1 (BK "int") (vr 0)) (o1 qW (o1 (BK "bool") (vr 0)))))
def gU:List T->Rs T:=val 1 1 vh
def jg:En->Rs Fl:=
 (aK (bS (cl gU (ae (vr 0) ai)) (ch xX xX (vr 1) (vr 0) (vr 2))))
def aV:List T->Rs T:=val 3 3 jg
def lK:En->Rs Fl:=
 (aK (bS (cl aV (ae (vr 0) (ae (cn (.int 1)) (ae (cn (.int 9)) ai)))) (cl aV (ae (vr 1) (ae (vr 0) (ae (cn (.int 9)) ai))))))
def fO:List T->Rs T:=val 2 2 lK
def wG:En->Rs Fl:=
 (aK (cl pj (ae (fA (iR (ae (o2 iu (cl cQ (ae (vr 0) ai)) (cn (.int 1))) ai)) [none,some 0] (gN 0) bT (o2 Cr (o2 aP (vr 1) (vr 0)) (o2 aP (vr 1) (o2 aX (vr 0) (cn (.int 1)))))) ai)))
def jt:List T->Rs T:=val 1 1 wG
def eR:En->Rs Fl:=
 (aC (eX (cM (tb (cl aR (ae (vr 0) (ae (cn (.int 1)) (ae (cn (.int 4)) ai)))))) (aK (cn (.bl false))) sN) (aK (bS (cl pj (ae (fA (iS (vr 0)) [none] (gN 0) bT (cl aV (ae (vr 0) (ae (cn (.int 0)) (ae (cn (.int 99)) ai))))) ai)) (cl jt (ae (vr 0) ai)))))
def bP:List T->Rs T:=val 1 1 eR
def g9:En->Rs Fl:=
 (aK (bS (cl aR (ae (vr 0) (ae (cn (.int 3)) (ae (cn (.int 3)) ai)))) (bS (cl fO (ae (o2 aP (vr 0) (cn (.int 0))) (ae (o2 aP (vr 0) (cn (.int 1))) ai))) (cl bP (ae (o2 aP (vr 0) (cn (.int 2))) ai)))))
def dn:List T->Rs T:=val 1 1 g9
def hG:En->Rs Fl:=
 (aK (bS (cl aR (ae (vr 0) (ae (cn (.int 1)) (ae (cn (.int 4)) ai)))) (cl pj (ae (fA (iS (vr 0)) [none] (gN 0) bT (cl dn (ae (vr 0) ai))) ai))))
def dA:List T->Rs T:=val 1 1 hG
def g7:En->Rs Fl:=
 (aC (eX (ka (cM (tb (cl aR (ae (vr 1) (ae (cn (.int 2)) (ae (cn (.int 2)) ai)))))) (cM (tb (cl aV (ae (o2 aP (vr 1) (cn (.int 0))) (ae (cn (.int 0)) (ae (o2 iu (cl cQ (ae (vr 0) ai)) (cn (.int 1))) ai))))))) (aK (cn (.bl false))) sN) (aK (cl aV (ae (o2 aP (vr 1) (cn (.int 1))) (ae (cn (.int 0)) (ae (o2 iu (cl cQ (ae (o2 aP (o2 aP (vr 0) (o2 aP (vr 1) (cn (.int 0)))) (cn (.int 2))) ai)) (cn (.int 1))) ai))))))
def cG:List T->Rs T:=val 2 2 g7
def g8:En->Rs Fl:=
 (aK (bS (cl aV (ae (vr 0) (ae (cn (.int 0)) (ae (cn (.int 999)) ai)))) (Am (o2 lA (vr 1) (cn .non)) (cl aV (ae (vr 1) (ae (vr 0) (ae (cn (.int 999)) ai)))))))
def dR:List T->Rs T:=val 2 2 g8
def d8:En->Rs Fl:=
 (aC (eX (ka (cM (tb (cl aR (ae (vr 1) (ae (cn (.int 4)) (ae (cn (.int 4)) ai)))))) (cM (tb (cl dR (ae (o2 aP (vr 1) (cn (.int 2))) (ae (o2 aP (vr 1) (cn (.int 3))) ai)))))) (aK (cn (.bl false))) sN) (aK (bS (cl cG (ae (vr 0) (ae (o2 aP (vr 1) (cn (.int 0))) ai))) (bS (cl cG (ae (vr 0) (ae (o2 aP (vr 1) (cn (.int 1))) ai))) (o2 jQ (o2 aP (vr 1) (cn (.int 0))) (o2 aP (vr 1) (cn (.int 1))))))))
def bW:List T->Rs T:=val 2 2 d8
def gz:En->Rs Fl:=
 (aK (bS (cl aR (ae (vr 1) (ae (cn (.int 0)) (ae (cn (.int 8)) ai)))) (cl pj (ae (fA (iS (vr 1)) [none,some 0] (gN 0) bT (cl bW (ae (vr 1) (ae (vr 0) ai)))) ai))))
def c9:List T->Rs T:=val 2 2 gz
def gj:En->Rs Fl:=
 (aK (bS (cl aR (ae (vr 0) (ae (cn (.int 2)) (ae (cn (.int 2)) ai)))) (bS (cl dA (ae (o2 aP (vr 0) (cn (.int 0))) ai)) (cl c9 (ae (o2 aP (vr 0) (cn (.int 0))) (ae (o2 aP (vr 0) (cn (.int 1))) ai))))))
def dk:List T->Rs T:=val 1 1 gj
def dJ:En->Rs Fl:=
 (eX (cM (tb (cl dk (ae (vr 0) ai)))) (wV "NoRecord") sN)
def a7:List T->Rs T:=val 1 1 dJ
def oF:En->Rs Fl:=
 (aC (oR (cl a7 (ae (vr 0) ai))) (aC (iG 1 ai) (aC (ij (iE (ae (o2 aP (vr 0) (cn (.int 0))) ai)) (gT 2 (lC (gN 2) (lC (gN 3) vZ))) (m4 1 (fA (iR (ae (cl cQ (ae (o2 aP (vr 3) (cn (.int 2))) ai)) ai)) [none,some 2] (gN 0) bT (aO (ae (vr 1) (ae (vr 0) ai)))))) (qC 1 (aK (vr 1))))))
def c7:List T->Rs T:=val 1 4 oF
def jh:En->Rs Fl:=
 (aC (cu (oD ig (vr 0) (o2 aP (vr 1) (cn (.int 1)))) (gN 3)) (aK (Am (o2 lA (vr 3) (cn .non)) (o2 Cr (o2 aX (o2 aP (vr 2) (cn (.int 0))) (o2 aP (vr 1) (cn (.int 2)))) (o2 aP (vr 3) (cn (.int 0)))))))
def dq:List T->Rs T:=val 3 4 jh
def jf:En->Rs Fl:=
 (aC (pC 2 (fA (iS (vr 1)) [none] (gN 0) bT (aO (ae (vr 0) (ae (aO (ae (cn (.int 0)) (ae (ff ai) ai))) ai))))) (aC (cu (cn (.bl true)) (gN 3)) (aC (bN (tb (vr 3)) (aC (cu (cn (.bl false)) (gN 3)) (ij (iE (ae (vr 0) ai)) (gT 2 (lC (gN 4) (lC (gN 5) vZ))) (aC (cu (ln 2 (oD ig (vr 2) (o2 aP (vr 5) (cn (.int 0))))) (gN 6)) (aC (eX (ka (tb (o2 lA (vr 6) (cn .non))) (cM (DV 2 (tb (cl dq (ae (vr 2) (ae (vr 5) (ae (vr 6) ai)))))))) Ck sN) (aC (cu (o2 aX (o2 aP (vr 6) (cn (.int 1))) (ff (ae (vr 4) ai))) (gN 7)) (aC (cu (fA (iS (vr 7)) [none,some 0] (gN 0) bT (o2 aP (o2 aP (vr 1) (vr 0)) (cn (.int 0)))) (gN 8)) (aC (eX (tb (o2 EH (o2 aP (vr 5) (cn (.int 1))) (vr 8))) (aK (aO (ae (cn .non) (ae (sl (vr 7) (pS (oL gf (vr 8) (o2 aP (vr 5) (cn (.int 1))))) pN) ai)))) sN) (aC (wU 2 (o2 aP (vr 5) (cn (.int 1))) (aO (ae (o2 aX (o2 aP (vr 6) (cn (.int 0))) (o2 aP (vr 5) (cn (.int 2)))) (ae (vr 7) ai)))) (cu (cn (.bl true)) (gN 3)))))))))) FU) (qC 2 (aK (aO (ae (vr 2) (ae (cn .non) ai))))))))
def eF:List T->Rs T:=val 2 9 jf
def fg:En->Rs Fl:=
 (aC (cu (cl c7 (ae (vr 0) ai)) (gN 2)) (aC (cu (o2 aP (cl eF (ae (vr 1) (ae (vr 2) ai))) (cn (.int 0))) (gN 3)) (aC (eX (tb (o2 lA (vr 3) (cn .non))) (aK (cn .non)) sN) (aK (cl fD (ae (fA (iS (vr 2)) [none,some 3] (gN 0) bT (o2 aP (o2 pf (vr 1) (vr 0)) (cn (.int 0)))) ai))))))
def dz:List T->Rs T:=val 2 4 fg
def eQ:En->Rs Fl:=
 (aC (cu (o2 aP (vr 1) (cn (.int 2))) (gN 2)) (aC (iG 3 ai) (aC (ij (iR (ae (o2 iu (cl cQ (ae (vr 2) ai)) (cn (.int 1))) ai)) (gN 4) (aC (cu (aO (ae (vr 0) (ae (vr 4) ai))) (gN 5)) (aC (cu (aO (ae (vr 0) (ae (o2 aX (vr 4) (cn (.int 1))) ai))) (gN 6)) (aC (cu (o2 iu (o2 aP (vr 2) (o2 aX (vr 4) (cn (.int 1)))) (o2 aP (vr 2) (vr 4))) (gN 7)) (aC (l5 3 (aO (ae (vr 5) (ae (vr 6) (ae (o2 cq (vr 7) (o2 aP (vr 1) (cn (.int 1)))) ai))))) (l5 3 (aO (ae (vr 6) (ae (vr 5) (ae (o2 cq (o1 lx (vr 7)) (o2 aP (vr 1) (cn (.int 0)))) ai)))))))))) (qC 3 (aK (vr 3))))))
def cy:List T->Rs T:=val 2 8 eQ
def dW:En->Rs Fl:=
 (aC (iG 1 (ae (aO (ae (o2 aP (vr 0) (cn (.int 1))) (ae (o2 aP (vr 0) (cn (.int 0))) (ae (o1 lx (o2 aP (vr 0) (cn (.int 2)))) ai)))) ai)) (aC (eX (tb (o2 jO (o2 aP (vr 0) (cn (.int 3))) (cn .non))) (l5 1 (aO (ae (o2 aP (vr 0) (cn (.int 0))) (ae (o2 aP (vr 0) (cn (.int 1))) (ae (o2 aP (vr 0) (cn (.int 3))) ai))))) sN) (qC 1 (aK (vr 1)))))
def cg:List T->Rs T:=val 1 2 dW
def oG:En->Rs Fl:=
 (aC (oR (cl a7 (ae (vr 0) ai))) (aC (iG 1 ai) (aC (ij (iE (ae (o2 aP (vr 0) (cn (.int 0))) ai)) (gT 2 (lC (gN 2) (lC (gN 3) vZ))) (m4 1 (cl cy (ae (vr 2) (ae (vr 3) ai))))) (aC (ij (iS (o2 aP (vr 0) (cn (.int 1)))) (gN 4) (m4 1 (cl cg (ae (vr 4) ai)))) (qC 1 (aK (vr 1)))))))
def dt:List T->Rs T:=val 1 5 oG
def Cd:En->Rs Fl:=
 (aK (cl dz (ae (vr 0) (ae (cl dt (ae (vr 0) ai)) ai))))
def jr:List T->Rs T:=val 1 1 Cd
def ui:En->Rs Fl:=
 (aK (o2 jO (cl jr (ae (vr 0) ai)) (cn .non)))
def aW:List T->Rs T:=val 1 1 ui
def gY:En->Rs Fl:=
 (eX (cM (tb (cl aW (ae (vr 0) ai)))) (wV "NoWorld") sN)
def bp:List T->Rs T:=val 1 1 gY
def pq:En->Rs Fl:=
 (aK (lR (ae (cl cQ (ae (o2 aP (vr 0) (cn (.int 1))) ai)) ai)))
def bM:List T->Rs T:=val 1 1 pq
def r8:En->Rs Fl:=
 (aK (o2 aP (cl eF (ae (cl dt (ae (vr 0) ai)) (ae (ff (ae (vr 1) ai)) ai))) (cn (.int 0))))
def cW:List T->Rs T:=val 2 2 r8
def xU:En->Rs Fl:=
 (aK (Cw (tb (o2 xH (vr 1) (vr 0))) (o2 aP (o2 pf (vr 0) (vr 1)) (cn (.int 0))) (cn .non)))
def dY:List T->Rs T:=val 2 2 xU
def ko:En->Rs Fl:=
 (aC (oR (cl bp (ae (vr 0) ai))) (aC (cu (cl c7 (ae (vr 0) ai)) (gN 1)) (aC (iG 2 ai) (aC (ij (iS (vr 1)) (gN 3) (aC (cu (cl cW (ae (vr 0) (ae (vr 3) ai))) (gN 4)) (l5 2 (cl fD (ae (fA (iS (vr 1)) [none,some 4] (gN 0) bT (cl dY (ae (vr 1) (ae (vr 0) ai)))) ai))))) (aK (ln 2 (cl fD (ae (vr 2) ai))))))))
def bq:List T->Rs T:=val 1 5 ko
def dI:En->Rs Fl:=
 (aC (eX (tb (o2 jQ (cl c7 (ae (vr 0) ai)) (cl c7 (ae (vr 1) ai)))) (aK (cn (.bl false))) sN) (aC (eX (ka (cM (tb (cl aW (ae (vr 0) ai)))) (cM (tb (cl aW (ae (vr 1) ai))))) (aK (bS (o1 qW (cl aW (ae (vr 0) ai))) (o1 qW (cl aW (ae (vr 1) ai))))) sN) (aK (o2 oJ (cl bq (ae (vr 0) ai)) (cl bq (ae (vr 1) ai))))))
def aw:List T->Rs T:=val 2 2 dI
def uh:En->Rs Fl:=
 (aK (aO (ae (o2 aP (vr 0) (cn (.int 0))) (ae (cl fD (ae (fA (iS (vr 1)) [none,some 0] (gN 0) bT (o2 aP (o2 aP (vr 1) (cn (.int 1))) (vr 0))) ai)) ai))))
def cx:List T->Rs T:=val 2 2 uh
def xT:En->Rs Fl:=
 (aK (fA (iS (vr 0)) [none,some 1] (gN 0) (tb (o2 jQ (vr 0) (vr 1))) (vr 0)))
def dy:List T->Rs T:=val 2 2 xT
def dU:En->Rs Fl:=
 (aC (oR (cl bp (ae (vr 0) ai))) (aC (cu (cl bM (ae (vr 0) ai)) (gN 1)) (aK (fA (iS (vr 1)) [none,some 0,some 1] (gN 0) (tb (cl aw (ae (cl cx (ae (vr 1) (ae (cl dy (ae (vr 2) (ae (vr 0) ai))) ai))) (ae (vr 1) ai)))) (vr 0)))))
def aN:List T->Rs T:=val 1 2 dU
def fG:En->Rs Fl:=
 (aC (oR (cl bp (ae (vr 0) ai))) (aC (cu (vr 0) (gN 1)) (aC (ij (Gf (ae (o2 iu (cl cQ (ae (o2 aP (vr 0) (cn (.int 1))) ai)) (cn (.int 1))) (ae (o1 lx (cn (.int 1))) (ae (o1 lx (cn (.int 1))) ai)))) (gN 2) (aC (cu (cl cx (ae (vr 1) (ae (cl dy (ae (cl bM (ae (vr 1) ai)) (ae (vr 2) ai))) ai))) (gN 3)) (eX (tb (cl aw (ae (vr 3) (ae (vr 0) ai)))) (cu (vr 3) (gN 1)) sN))) (aK (vr 1)))))
def bR:List T->Rs T:=val 1 4 fG
def eU:En->Rs Fl:=
 (aC (cu (o2 aX (fA (iS (aO (ae (aO (ae (cn (.int 0)) (ae (cn (.int 1)) ai))) (ae (aO (ae (cn (.int 3)) (ae (cn (.int 4)) ai))) (ae (aO (ae (cn (.int 0)) (ae (cn (.int 1)) (ae (cn (.int 2)) ai)))) (ae (aO (ae (cn (.int 0)) (ae (cn (.int 2)) ai))) ai)))))) [none] (gN 0) bT (aO (ae (aO (ae (aO (ae (cn (.int 1)) (ae (cn (.int 1)) (ae (vr 0) ai)))) ai)) (ae (aO ai) ai)))) (ff (ae (aO (ae (aO (ae (aO (ae (cn (.int 1)) (ae (cn (.int 2)) (ae (aO (ae (cn (.int 0)) (ae (cn (.int 1)) ai))) ai)))) ai)) (ae (aO ai) ai))) ai))) (gN 0)) (aC (cu (aO (ae (aO (ae (aO (ae (cn (.int 1)) (ae (cn (.int 1)) (ae (aO (ae (cn (.int 0)) ai)) ai)))) (ae (aO (ae (cn (.int 1)) (ae (cn (.int 1)) (ae (aO (ae (cn (.int 0)) ai)) ai)))) ai))) (ae (o2 cq (aO (ae (aO (ae (aO (ae (cn (.int 0)) (ae (cn (.int 0)) ai))) (ae (aO (ae (cn (.int 1)) (ae (cn (.int 0)) ai))) (ae (cn (.int 1)) (ae (cn (.int 4)) ai))))) ai)) (cn (.int 2))) ai))) (gN 1)) (aC (eX (ka (tb (o2 jQ (cl aN (ae (vr 1) ai)) (ff (ae (cn (.int 0)) (ae (cn (.int 1)) ai))))) (tb (o2 jQ (cl bR (ae (vr 1) ai)) (aO (ae (o2 aP (vr 1) (cn (.int 0))) (ae (sl (o2 aP (vr 1) (cn (.int 1))) pN (pS (cn (.int 1)))) ai)))))) (aK (cn (.bl false))) sN) (aC (cu (o2 aX (fA (iS (vr 0)) [none,some 0] (gN 0) bT (cl aw (ae (o2 aP (vr 1) (cn (.int 0))) (ae (vr 0) ai)))) (fA (iS (vr 0)) [none,some 0] (gN 0) bT (cl aw (ae (vr 0) (ae (o2 aP (vr 1) (cn (.int 0))) ai))))) (gN 2)) (aK (o2 oJ (vr 2) (o2 cq (ff (ae (cn (.bl true)) (ae (cn (.bl true)) (ae (cn (.bl false)) (ae (cn (.bl false)) (ae (cn (.bl false)) ai)))))) (cn (.int 2)))))))))
def cz:List T->Rs T:=val 0 3 eU
def ji:En->Rs Fl:=
 (aC (eX (tb (o2 oJ (vr 0) (ff ai))) (aK (o2 cq (cn (.int 7)) (vr 1))) sN) (aK (o2 aX (o2 aP (vr 0) (o2 kO (vr 1) (cl cQ (ae (vr 0) ai)))) (o2 cq (cn (.int 6553)) (o2 kU (vr 1) (cl cQ (ae (vr 0) ai)))))))
def fw:List T->Rs T:=val 2 2 ji
def hU:En->Rs Fl:=
 (aC (cu (o2 kO (o2 aX (o2 cq (o2 kO (cl fw (ae (vr 0) (ae (vr 1) ai))) (cn (.int 2147483563))) (cn (.int 69069))) (o2 cq (cn (.int 104723)) (o2 aX (vr 1) (cn (.int 1))))) (cn (.int 2147483563))) (gN 3)) (aC (cu (o2 kO (o2 aX (o2 cq (vr 3) (vr 3)) (o2 kU (vr 3) (cn (.int 3)))) (cn (.int 2147483399))) (gN 3)) (aK (o2 kO (o2 kU (o2 kO (o2 aX (o2 cq (vr 3) (vr 3)) (o2 kU (vr 3) (cn (.int 7)))) (cn (.int 2147483647))) (cn (.int 11))) (vr 2)))))
def aF:List T->Rs T:=val 3 4 hU
def jV:En->Rs Fl:=
 (aC (cu (ff ai) (gN 1)) (aC (ij (iE (ae (vr 0) ai)) (gT 2 (lC (gN 2) (lC (gN 3) vZ))) (cu (o2 aX (vr 1) (fA (iR (ae (cl cQ (ae (o2 aP (vr 3) (cn (.int 2))) ai)) ai)) [none,some 2] (gN 0) bT (aO (ae (vr 1) (ae (vr 0) ai))))) (gN 1))) (aK (vr 1))))
def dH:List T->Rs T:=val 1 4 jV
def dM:En->Rs Fl:=
 (aC (cu (cl dH (ae (vr 2) ai)) (gN 3)) (aC (eX (tb (o2 Cr (cl cQ (ae (vr 3) ai)) (cn (.int 2)))) (aK (cn .non)) sN) (aC (cu (cl aF (ae (vr 0) (ae (vr 1) (ae (cl cQ (ae (vr 3) ai)) ai)))) (gN 4)) (aC (cu (o2 kO (o2 aX (o2 aX (vr 4) (cn (.int 1))) (cl aF (ae (vr 0) (ae (o2 aX (vr 1) (cn (.int 1))) (ae (o2 iu (cl cQ (ae (vr 3) ai)) (cn (.int 1))) ai))))) (cl cQ (ae (vr 3) ai))) (gN 5)) (aC (cu (cl aF (ae (vr 0) (ae (o2 aX (vr 1) (cn (.int 2))) (ae (cn (.int 8)) ai)))) (gN 6)) (aC (cu (Cw (tb (o2 oJ (cl aF (ae (vr 0) (ae (o2 aX (vr 1) (cn (.int 3))) (ae (cn (.int 3)) ai)))) (cn (.int 0)))) (cn .non) (o2 aX (vr 6) (cl aF (ae (vr 0) (ae (o2 aX (vr 1) (cn (.int 4))) (ae (cn (.int 9)) ai)))))) (gN 7)) (aK (aO (ae (o2 aP (vr 3) (vr 4)) (ae (o2 aP (vr 3) (vr 5)) (ae (vr 6) (ae (vr 7) ai))))))))))))
def da:List T->Rs T:=val 3 8 dM
def hV:En->Rs Fl:=
 (aC (cu (o2 aX (cn (.int 1)) (cl aF (ae (vr 0) (ae (vr 1) (ae (cn (.int 3)) ai))))) (gN 2)) (aC (cu (aO (ae (cl aF (ae (vr 0) (ae (o2 aX (vr 1) (cn (.int 2))) (ae (cn (.int 6)) ai)))) ai)) (gN 3)) (aC (ij (iR (ae (cl aF (ae (vr 0) (ae (o2 aX (vr 1) (cn (.int 1))) (ae (cn (.int 3)) ai)))) ai)) (gN 4) (cu (o2 aX (vr 3) (aO (ae (o2 aX (o2 aX (o2 aP (vr 3) (o1 lx (cn (.int 1)))) (cn (.int 1))) (cl aF (ae (vr 0) (ae (o2 aX (o2 aX (vr 1) (cn (.int 3))) (vr 4)) (ae (cn (.int 5)) ai))))) ai))) (gN 3))) (aK (aO (ae (vr 2) (ae (o2 aX (vr 2) (cl aF (ae (vr 0) (ae (o2 aX (vr 1) (cn (.int 6))) (ae (cn (.int 3)) ai))))) (ae (vr 3) ai))))))))
def cA:List T->Rs T:=val 2 5 hV
def gB:En->Rs Fl:=
 (aC (cu (cl fD (ae (fA (iR (ae (o2 aX (cn (.int 1)) (cl aF (ae (vr 0) (ae (vr 1) (ae (cn (.int 3)) ai))))) ai)) [none,some 0,some 1] (gN 0) bT (cl cA (ae (vr 1) (ae (o2 aX (o2 aX (vr 2) (cn (.int 1))) (o2 cq (cn (.int 8)) (vr 0))) ai)))) ai)) (gN 3)) (aC (cu (ff ai) (gN 4)) (aC (ij (iR (ae (cl aF (ae (vr 0) (ae (o2 aX (vr 1) (cn (.int 30))) (ae (o2 aX (vr 2) (cn (.int 1))) ai)))) ai)) (gN 5) (aC (cu (cl da (ae (vr 0) (ae (o2 aX (o2 aX (vr 1) (cn (.int 31))) (o2 cq (cn (.int 6)) (vr 5))) (ae (vr 3) ai)))) (gN 6)) (cu (o2 aX (vr 4) (o2 cq (ff (ae (vr 6) ai)) (cl zB (ae (o2 jO (vr 6) (cn .non)) ai)))) (gN 4)))) (aK (aO (ae (vr 3) (ae (cl fD (ae (vr 4) ai)) ai)))))))
def dG:List T->Rs T:=val 3 7 gB
def gZ:En->Rs Fl:=
 (eX (cM (tb (cl cG (ae (o2 aP (vr 0) (cn (.int 0))) (ae (vr 1) ai))))) (wV "NoEvent") sN)
def eG:List T->Rs T:=val 2 2 gZ
def gx:En->Rs Fl:=
 (aC (oR (cl a7 (ae (vr 0) ai))) (aC (oR (cl eG (ae (vr 0) (ae (vr 1) ai)))) (oR (cl eG (ae (vr 0) (ae (vr 2) ai))))))
def fj:List T->Rs T:=val 3 3 gx
def f7:En->Rs Fl:=
 (aC (oR (cl fj (ae (vr 0) (ae (vr 1) (ae (vr 2) ai))))) (aC (oR (cl bp (ae (vr 0) ai))) (aK (cl dY (ae (cl cW (ae (vr 0) (ae (vr 1) ai))) (ae (vr 2) ai))))))
def bO:List T->Rs T:=val 3 3 f7
def fH:En->Rs Fl:=
 (aC (cu (cl bO (ae (vr 0) (ae (vr 2) (ae (vr 1) ai)))) (gN 3)) (aK (Cw (tb (o2 lA (vr 3) (cn .non))) (cn .non) (o1 lx (vr 3)))))
def dO:List T->Rs T:=val 3 4 fH
def fz:En->Rs Fl:=
 (aC (oR (cl a7 (ae (vr 0) ai))) (aK (vr 0)))
def dZ:List T->Rs T:=val 1 1 fz
def gv:En->Rs Fl:=
 (aC (oR (cl a7 (ae (vr 0) ai))) (aK (cl dZ (ae (aO (ae (o2 aP (vr 0) (cn (.int 0))) (ae (o2 aX (o2 aP (vr 0) (cn (.int 1))) (aO (ae (vr 1) ai))) ai))) ai))))
def bV:List T->Rs T:=val 2 2 gv
def gw:En->Rs Fl:=
 (eX (cM (tb (cl aV (ae (vr 1) (ae (cn (.int 0)) (ae (o2 iu (vr 0) (cn (.int 1))) ai)))))) (wV "NoNumber") sN)
def fh:List T->Rs T:=val 2 2 gw
def gy:En->Rs Fl:=
 (aC (cu (cl dt (ae (vr 0) ai)) (gN 2)) (aC (oR (cl fh (ae (cl cQ (ae (vr 2) ai)) (ae (vr 1) ai)))) (aC (oR (cl bp (ae (vr 0) ai))) (aC (cu (o2 aP (vr 2) (vr 1)) (gN 3)) (aC (cu (o2 aP (cl eF (ae (o2 aX (sl (vr 2) pN (pS (vr 1))) (sl (vr 2) (pS (o2 aX (vr 1) (cn (.int 1)))) pN)) (ae (ff (ae (o2 aP (vr 3) (cn (.int 0))) ai)) ai))) (cn (.int 0))) (gN 4)) (aK (bS (o2 xH (o2 aP (vr 3) (cn (.int 1))) (vr 4)) (o2 xX (o2 aP (o2 pf (vr 4) (o2 aP (vr 3) (cn (.int 1)))) (cn (.int 0))) (o2 aP (vr 3) (cn (.int 2)))))))))))
def dF:List T->Rs T:=val 2 5 gy
def gA:En->Rs Fl:=
 (aC (cu (cl dG (ae (vr 0) (ae (cn (.int 0)) (ae (cn (.int 5)) ai)))) (gN 1)) (aC (cu (aO (ae (o2 aP (vr 1) (cn (.int 0))) (ae (sl (o2 aP (cl dG (ae (vr 0) (ae (cn (.int 100)) (ae (cn (.int 5)) ai)))) (cn (.int 1))) pN (pS (cn (.int 2)))) ai))) (gN 2)) (aC (cu (aO (ae (o2 aP (vr 1) (cn (.int 0))) (ae (o1 wW (o2 aP (vr 1) (cn (.int 1)))) ai))) (gN 3)) (aC (eX (ka (cM (tb (cl aw (ae (vr 1) (ae (vr 3) ai))))) (cM (tb (cl aw (ae (vr 1) (ae (vr 1) ai)))))) (aK (cn (.bl false))) sN) (aC (eX (cM (tb (cl aW (ae (vr 1) ai)))) (aK (cl aw (ae (vr 1) (ae (aO (ae (o2 aP (vr 1) (cn (.int 0))) (ae (o2 aX (o2 aP (vr 1) (cn (.int 1))) (sl (o2 aP (vr 1) (cn (.int 1))) pN (pS (cn (.int 1))))) ai))) ai)))) sN) (aC (cu (cl bR (ae (vr 1) ai)) (gN 4)) (aC (eX (ka (cM (tb (cl aw (ae (vr 1) (ae (vr 4) ai))))) (ka (tb (o2 jQ (cl aN (ae (vr 4) ai)) (ff ai))) (tb (o2 jQ (cl bq (ae (vr 4) ai)) (cl bq (ae (vr 1) ai)))))) (aK (cn (.bl false))) sN) (aC (eX (ka (tb (o2 jQ (fA (iS (o2 aP (vr 4) (cn (.int 1)))) [none,some 1] (gN 0) (tb (o2 cF (vr 0) (o2 aP (vr 1) (cn (.int 1))))) (vr 0)) (ff ai))) (tb (o2 jQ (o2 aP (vr 4) (cn (.int 0))) (o2 aP (vr 1) (cn (.int 0)))))) (aK (cn (.bl false))) sN) (aC (ij (iS (sl (sl (cl tM (ae (cl dt (ae (vr 1) ai)) ai)) (pS (cl aF (ae (vr 0) (ae (cn (.int 190)) (ae (cn (.int 9)) ai))))) pN) pN (pS (cn (.int 4))))) (gT 2 (lC (gN 5) (lC (gT 3 (lC (gN 6) (lC (gN 7) (lC (gN 8) vZ)))) vZ))) (aC (cu (cl bO (ae (vr 1) (ae (vr 6) (ae (vr 7) ai)))) (gN 9)) (eX (ka (tb (o2 gtT (vr 9) (vr 8))) (k4 (tb (o2 Cr (vr 9) (vr 8))) (cM (tb (cl dF (ae (vr 1) (ae (vr 5) ai))))))) (aK (cn (.bl false))) sN))) (aC (eX (k4 (tb (o2 jQ (o2 aP (vr 1) (cn (.int 1))) (aO ai))) (tb (o2 cF (cn (.int 0)) (cl aN (ae (aO (ae (o2 aP (vr 1) (cn (.int 0))) (ae (o2 aX (o2 aP (vr 1) (cn (.int 1))) (sl (o2 aP (vr 1) (cn (.int 1))) pN (pS (cn (.int 1))))) ai))) ai))))) (aK (cn (.bl false))) sN) (aC (cu (cl c7 (ae (vr 1) ai)) (gN 10)) (aC (cu (o2 aP (vr 10) (cl aF (ae (vr 0) (ae (cn (.int 200)) (ae (cl cQ (ae (vr 10) ai)) ai))))) (gN 6)) (aC (cu (o2 aP (vr 10) (cl aF (ae (vr 0) (ae (cn (.int 201)) (ae (cl cQ (ae (vr 10) ai)) ai))))) (gN 7)) (aC (cu (cl dO (ae (vr 1) (ae (vr 6) (ae (vr 7) ai)))) (gN 11)) (aC (eX (k4 (tb (o2 jQ (vr 6) (vr 7))) (k4 (tb (o2 jO (vr 11) (cn .non))) (tb (ch xX xX (cn (.int 0)) (vr 11) (cn (.int 998)))))) (aC (cu (cl bV (ae (vr 1) (ae (aO (ae (vr 6) (ae (vr 7) (ae (vr 11) (ae (cn .non) ai))))) ai))) (gN 12)) (aC (eX (ka (cM (tb (cl aw (ae (vr 1) (ae (vr 12) ai))))) (tb (o2 cF (cl cQ (ae (o2 aP (vr 1) (cn (.int 1))) ai)) (cl aN (ae (vr 12) ai))))) (aK (cn (.bl false))) sN) (aC (cu (cl bV (ae (vr 1) (ae (aO (ae (vr 6) (ae (vr 7) (ae (o2 aX (vr 11) (cn (.int 1))) (ae (cn .non) ai))))) ai))) (gN 12)) (eX (tb (cl aw (ae (vr 1) (ae (vr 12) ai)))) (aK (cn (.bl false))) sN)))) sN) (aC (ij (iS (o2 aP (vr 2) (cn (.int 1)))) (gN 13) (eX (ka (tb (o2 cF (o2 aP (vr 13) (cn (.int 0))) (vr 10))) (tb (o2 cF (o2 aP (vr 13) (cn (.int 1))) (vr 10)))) (aK (cn (.bl true))) sN)) (aC (cu (bS (cl aW (ae (vr 2) ai)) (o2 oJ (cl bq (ae (vr 2) ai)) (cl bq (ae (vr 1) ai)))) (gN 14)) (aK (bS (o2 oJ (cl aw (ae (vr 1) (ae (vr 2) ai))) (vr 14)) (o2 oJ (cl aw (ae (vr 2) (ae (vr 1) ai))) (vr 14)))))))))))))))))))))
def fm:List T->Rs T:=val 1 15 gA
def Gx:En->Rs Fl:=
 (aK (bS (c0 cz) (cl fm (ae (vr 0) ai))))
def m_law:List T->Rs T:=val 1 1 Gx
end G
namespace G
open PySem PySem.Spec PyProof.Rows L2 Tr
section
variable (P:IJ)(w:JA){K:HX}{mg:Str->Option H0}(base:Heap)
abbrev mS:Stmt:=top 15
abbrev uQ:List Str:=["thing","least","most"]
theorem uE:aD uQ ["thing","least","most"] (ak mS):=fL
theorem uM (F:fM K mg "is_long" mS ["thing","least","most"])(B:Bl mg):Cl P w K mg base 1 "is_long" 3 aR:=
 a8 F uE rfl λf c A o s H E hr x=>(ar (ay (cS (x5 B.b_isinstance B.b_tuple cH (af 0)) (de (se m7 m7 (af 1) (dj cZ B.b_len Ka (ag (af 0) ah)) (af 2))))))
abbrev lM:Stmt:=top 13
abbrev tu:List Str:=["thing"]
theorem sH:aD tu ["thing"] (ak lM):=fL
theorem sU (F:fM K mg "is_whole" lM ["thing"])(B:Bl mg):Cl P w K mg base 1 "is_whole" 1 gU:=
 a8 F sH rfl λf c A o s H E hr x=>(ar (ay (cS (x5 B.b_isinstance B.b_int lX (af 0)) (de (um (x5 B.b_isinstance B.b_bool rV (af 0)))))))
abbrev kC:Stmt:=top 14
abbrev qZ:List Str:=["thing","least","most"]
theorem qw:aD qZ ["thing","least","most"] (ak kC):=fL
theorem qO (F:fM K mg "is_within" kC ["thing","least","most"])(aaZ:Cl P w K mg base 1 "is_whole" 1 gU):Cl P w K mg base 2 "is_within" 3 aV:=
 a8 F qw rfl λf c A o s H E hr x=>(ar (ay (cS (aH aaZ hr (ag (af 0) ah)) (de (se m7 m7 (af 1) (af 0) (af 2))))))
abbrev mQ:Stmt:=top 18
abbrev uP:List Str:=["slow","fast"]
theorem uD:aD uP ["slow","fast"] (ak mQ):=fL
theorem uL (F:fM K mg "is_pace" mQ ["slow","fast"])(aa3:Cl P w K mg base 2 "is_within" 3 aV)(C:Cs mg):Cl P w K mg base 3 "is_pace" 2 fO:=
 a8 F uD rfl λf c A o s H E hr x=>(ar (ay (cS (aH aa3 hr (ag (af 0) (ag aj (ag (sd C.SLOWEST) ah)))) (de (aH aa3 hr (ag (af 1) (ag (af 0) (ag (sd C.SLOWEST) ah))))))))
abbrev mO:Stmt:=top 16
abbrev tq:List Str:=["numbers"]
theorem yo:aD tq ["numbers"] (ak mO):=fL
theorem yW (F:fM K mg "rises" mO ["numbers"])(B:Bl mg):Cl P w K mg base 1 "rises" 1 jt:=
 a8 F yo rfl λf c A o s H E hr x=>(ar (ay (dj (rQ rfl) B.b_all boot_all (ag (fq (N':=["k","numbers"]) (src:=[none,some 0]) rfl (LcScope.by (N:=tq) (names:=(ak mO).names) rfl rfl rfl (by decide+kernel)) (dQ B.b_range (ag (aB iI (dj cZ B.b_len Ka (ag (af 0) ah)) aj) ah)) (λ_ _ _ _ _=>⟨(aq 0 (show Jo (["k","numbers"]:List Str)by decide+kernel)),bZ,(ej vF (aE (af 1) (af 0)) (aE (af 1) (aB aS (af 0) aj)))⟩)) ah))))
abbrev fE:Stmt:=top 17
abbrev hZ:List Str:=["thing"]
theorem l0:aD hZ ["thing"] (ak fE):=fL
theorem l7 (F:fM K mg "are_readings" fE ["thing"])(aa5:Cl P w K mg base 1 "is_long" 3 aR)(ab4:Cl P w K mg base 1 "rises" 1 jt)(aa3:Cl P w K mg base 2 "is_within" 3 aV)(B:Bl mg)(C:Cs mg):Cl P w K mg base 3 "are_readings" 1 bP:=
 a8 F l0 rfl λf c A o s H E hr x=>(ao (bK (ck (bF (aH aa5 hr (ag (af 0) (ag aj (ag (sd C.MOST_READINGS) ah)))))) (ar (ay dE)) bh) (ar (ay (cS (dj (rQ rfl) B.b_all boot_all (ag (fq (N':=["part"]) (src:=[none]) rfl (LcScope.by (N:=hZ) (names:=(ak fE).names) rfl rfl rfl (by decide+kernel)) (cm (af 0)) (λ_ _ _ _ _=>⟨(aq 0 (show Jo (["part"]:List Str)by decide+kernel)),bZ,(aH aa3 hr (ag (af 0) (ag aj (ag (sd C.LAST_READING) ah))))⟩)) ah)) (de (aH ab4 hr (ag (af 0) ah)))))))
abbrev lP:Stmt:=top 19
abbrev tE:List Str:=["thing"]
theorem sL:aD tE ["thing"] (ak lP):=fL
theorem sX (F:fM K mg "is_clock" lP ["thing"])(aa5:Cl P w K mg base 1 "is_long" 3 aR)(ab2:Cl P w K mg base 3 "is_pace" 2 fO)(aaG:Cl P w K mg base 3 "are_readings" 1 bP):Cl P w K mg base 4 "is_clock" 1 dn:=
 a8 F sL rfl λf c A o s H E hr x=>(ar (ay (cS (aH aa5 hr (ag (af 0) (ag aj (ag aj ah)))) (cS (aH ab2 hr (ag (aE (af 0) aj) (ag (aE (af 0) aj) ah))) (de (aH aaG hr (ag (aE (af 0) aj) ah)))))))
abbrev gn:Stmt:=top 20
abbrev jP:List Str:=["thing"]
theorem oQ:aD jP ["thing"] (ak gn):=fL
theorem oY (F:fM K mg "are_clocks" gn ["thing"])(aa5:Cl P w K mg base 1 "is_long" 3 aR)(ab0:Cl P w K mg base 4 "is_clock" 1 dn)(B:Bl mg)(C:Cs mg):Cl P w K mg base 5 "are_clocks" 1 dA:=
 a8 F oQ rfl λf c A o s H E hr x=>(ar (ay (cS (aH aa5 hr (ag (af 0) (ag aj (ag (sd C.MOST_CLOCKS) ah)))) (de (dj (rQ rfl) B.b_all boot_all (ag (fq (N':=["part"]) (src:=[none]) rfl (LcScope.by (N:=jP) (names:=(ak gn).names) rfl rfl rfl (by decide+kernel)) (cm (af 0)) (λ_ _ _ _ _=>⟨(aq 0 (show Jo (["part"]:List Str)by decide+kernel)),bZ,(aH ab0 hr (ag (af 0) ah))⟩)) ah))))))
abbrev lN:Stmt:=top 21
abbrev tw:List Str:=["clocks","thing"]
theorem sI:aD tw ["clocks","thing"] (ak lN):=fL
theorem sV (F:fM K mg "is_event" lN ["clocks","thing"])(aa3:Cl P w K mg base 2 "is_within" 3 aV)(aa5:Cl P w K mg base 1 "is_long" 3 aR)(B:Bl mg):Cl P w K mg base 3 "is_event" 2 cG:=
 a8 F sI rfl λf c A o s H E hr x=>(ao (bK (f9 (fB (ck (bF (aH aa5 hr (ag (af 1) (ag aj (ag aj ah)))))) (ee (ck (bF (aH aa3 hr (ag (aE (af 1) aj) (ag aj (ag (aB iI (dj cZ B.b_len Ka (ag (af 0) ah)) aj) ah))))))))) (ar (ay dE)) bh) (ar (ay (aH aa3 hr (ag (aE (af 1) aj) (ag aj (ag (aB iI (dj cZ B.b_len Ka (ag (aE (aE (af 0) (aE (af 1) aj)) aj) ah)) aj) ah)))))))
abbrev lO:Stmt:=top 22
abbrev tD:List Str:=["least","most"]
theorem sJ:aD tD ["least","most"] (ak lO):=fL
theorem sW (F:fM K mg "is_delay" lO ["least","most"])(aa3:Cl P w K mg base 2 "is_within" 3 aV)(C:Cs mg):Cl P w K mg base 3 "is_delay" 2 dR:=
 a8 F sJ rfl λf c A o s H E hr x=>(ar (ay (cS (aH aa3 hr (ag (af 0) (ag aj (ag (sd C.LONGEST) ah)))) (de (Ce (ej sT (af 1) df) (de (aH aa3 hr (ag (af 1) (ag (af 0) (ag (sd C.LONGEST) ah))))))))))
abbrev kE:Stmt:=top 23
abbrev rf:List Str:=["clocks","thing"]
theorem qy:aD rf ["clocks","thing"] (ak kE):=fL
theorem qQ (F:fM K mg "is_letter" kE ["clocks","thing"])(aan:Cl P w K mg base 3 "is_event" 2 cG)(aa5:Cl P w K mg base 1 "is_long" 3 aR)(ab1:Cl P w K mg base 3 "is_delay" 2 dR):Cl P w K mg base 4 "is_letter" 2 bW:=
 a8 F qy rfl λf c A o s H E hr x=>(ao (bK (f9 (fB (ck (bF (aH aa5 hr (ag (af 1) (ag aj (ag aj ah)))))) (ee (ck (bF (aH ab1 hr (ag (aE (af 1) aj) (ag (aE (af 1) aj) ah)))))))) (ar (ay dE)) bh) (ar (ay (cS (aH aan hr (ag (af 0) (ag (aE (af 1) aj) ah))) (cS (aH aan hr (ag (af 0) (ag (aE (af 1) aj) ah))) (de (ej (iK (il hr)) (aE (af 1) aj) (aE (af 1) aj))))))))
abbrev fS:Stmt:=top 24
abbrev iN:List Str:=["clocks","thing"]
theorem mZ:aD iN ["clocks","thing"] (ak fS):=fL
theorem nt (F:fM K mg "are_letters" fS ["clocks","thing"])(aa5:Cl P w K mg base 1 "is_long" 3 aR)(aaU:Cl P w K mg base 4 "is_letter" 2 bW)(B:Bl mg)(C:Cs mg):Cl P w K mg base 5 "are_letters" 2 c9:=
 a8 F mZ rfl λf c A o s H E hr x=>(ar (ay (cS (aH aa5 hr (ag (af 1) (ag aj (ag (sd C.MOST_LETTERS) ah)))) (de (dj (rQ rfl) B.b_all boot_all (ag (fq (N':=["part","clocks"]) (src:=[none,some 0]) rfl (LcScope.by (N:=iN) (names:=(ak fS).names) rfl rfl rfl (by decide+kernel)) (cm (af 1)) (λ_ _ _ _ _=>⟨(aq 0 (show Jo (["part","clocks"]:List Str)by decide+kernel)),bZ,(aH aaU hr (ag (af 1) (ag (af 0) ah)))⟩)) ah))))))
abbrev kD:Stmt:=top 25
abbrev q0:List Str:=["thing"]
theorem qx:aD q0 ["thing"] (ak kD):=fL
theorem qP (F:fM K mg "is_record" kD ["thing"])(aa5:Cl P w K mg base 1 "is_long" 3 aR)(aaQ:Cl P w K mg base 5 "are_clocks" 1 dA)(aaI:Cl P w K mg base 5 "are_letters" 2 c9):Cl P w K mg base 6 "is_record" 1 dk:=
 a8 F qx rfl λf c A o s H E hr x=>(ar (ay (cS (aH aa5 hr (ag (af 0) (ag aj (ag aj ah)))) (cS (aH aaQ hr (ag (aE (af 0) aj) ah)) (de (aH aaI hr (ag (aE (af 0) aj) (ag (aE (af 0) aj) ah))))))))
abbrev iy:Stmt:=top 26
abbrev nK:List Str:=["thing"]
theorem mW:aD nK ["thing"] (ak iy):=fL
theorem ni (F:fM K mg "need_record" iy ["thing"])(aaV:Cl P w K mg base 6 "is_record" 1 dk){C_NoRecord C_NoEvent C_NoNumber C_NoWorld C_ClockError:Addr}(S:Xs K mg C_NoRecord C_NoEvent C_NoNumber C_NoWorld C_ClockError):Cl P w K mg base 7 "need_record" 1 a7:=
 a8 F mW rfl λf c A o s H E hr x=>(ar (bK (ck (bF (aH aaV hr (ag (af 0) ah)))) (ar (jj S.o_NoRecord S.m_NoRecord)) bh))
abbrev k9:Stmt:=top 29
abbrev pH:List Str:=["record","told","number","clock"]
theorem aaT:aD pH ["record"] (ak k9):=fL
theorem xb (F:fM K mg "events" k9 ["record"])(aa4:Cl P w K mg base 7 "need_record" 1 a7)(B:Bl mg):Cl P w K mg base 8 "events" 1 c7:=
 a8 F aaT rfl λf c A o s H E hr x=>(by(apply ao;exact(cv (aH aa4 hr (ag (af 0) ah)));apply ao;exact(iq 1 aaT.nd ah);apply ao;exact(dN rfl (ku B.b_enumerate (ag (aE (af 0) aj) ah)) (jk rfl (bX (aq 2 aaT.nd) (bX (aq 3 aaT.nd) gC))) (ar (qm 1 (fq (N':=["k","number"]) (src:=[none,some 2]) rfl (LcScope.by (N:=pH) (names:=(ak k9).names) rfl rfl rfl (by decide+kernel)) (dQ B.b_range (ag (dj cZ B.b_len Ka (ag (aE (af 3) aj) ah)) ah)) (λ_ _ _ _ _=>⟨(aq 0 (show Jo (["k","number"]:List Str)by decide+kernel)),bZ,(aL (ag (af 1) (ag (af 0) ah)))⟩)))));exact ar (kr 1 (ay (af 1)))))
abbrev kF:Stmt:=top 36
abbrev rg:List Str:=["best","bound","ahead","known"]
theorem ab3:aD rg ["best","bound","ahead"] (ak kF):=fL
theorem qR (F:fM K mg "is_better" kF ["best","bound","ahead"]):Cl P w K mg base 1 "is_better" 3 dq:=
 a8 F ab3 rfl λf c A o s H E hr x=>(ao (aG (vi (Cy hr) (af 0) (aE (af 1) aj)) (aq 3 ab3.nd)) (ar (ay (Ce (ej sT (af 3) df) (de (ej vF (aB aS (aE (af 2) aj) (aE (af 1) aj)) (aE (af 3) aj)))))))
abbrev jl:Stmt:=top 35
abbrev lq:List Str:=["limits","starts","best","moved","number","bound","ahead","walk","passed"]
theorem aae:aD lq ["limits","starts"] (ak jl):=fL
theorem w9 (F:fM K mg "settle" jl ["limits","starts"])(aaW:Cl P w K mg base 1 "is_better" 3 dq)(B:Bl mg):Cl P w K mg base 2 "settle" 2 eF:=
 a8 F aae rfl λf c A o s H E hr x=>(by(apply ao;exact(xZ 2 (hu8 hr) rfl B.b_dict aae.nd (fq (N':=["event"]) (src:=[none]) rfl (LcScope.by (N:=lq) (names:=(ak jl).names) rfl rfl rfl (by decide+kernel)) (cm (af 1)) (λ_ _ _ _ _=>⟨(aq 0 (show Jo (["event"]:List Str)by decide+kernel)),bZ,(aL (ag (af 0) (ag (aL (ag aj (ag (eZ ah) ah))) ah)))⟩)));apply ao;exact(aG dE (aq 3 aae.nd));apply ao;exact(wI FU (bF (af 3)) (ao (aG dE (aq 3 aae.nd)) (ar (dN rfl (ku B.b_enumerate (ag (af 0) ah)) (jk rfl (bX (aq 4 aae.nd) (bX (aq 5 aae.nd) gC))) (by(apply ao;exact(aG (Cf 2 (vi (Cy hr) (af 2) (aE (af 5) aj))) (aq 6 aae.nd));apply ao;exact(bK (f9 (fB (bf sT (af 6) df) (ee (ck (CI 2 (bF (aH aaW hr (ag (af 2) (ag (af 5) (ag (af 6) ah)))))))))) (ar CK) bh);apply ao;exact(aG (aB aS (aE (af 6) aj) (eZ (ag (af 4) ah))) (aq 7 aae.nd));apply ao;exact(CJ 8 (N':=["step","limits"]) (src:=[none,some 0]) rfl (LcScope.by (N:=lq) (names:=(ak jl).names) rfl rfl rfl (by decide+kernel)) (cm (af 7)) (λ_ _ _ _ _=>⟨(aq 0 (show Jo (["step","limits"]:List Str)by decide+kernel)),bZ,(aE (aE (af 1) (af 0)) aj)⟩) aae.nd);apply ao;exact(bK (bf (FH (u4 hr)) (aE (af 5) aj) (af 8)) (ar (ay (aL (ag df (ag (eh (af 7) (ef (wK (u4 hr) (af 8) (aE (af 5) aj))) eg) ah))))) bh);apply ao;exact(As 2 (Cy hr) (aE (af 5) aj) (aL (ag (aB aS (aE (af 6) aj) (aE (af 5) aj)) (ag (af 7) ah))));exact ar (aG dE (aq 3 aae.nd))))))));exact ar (kr 2 (ay (aL (ag (af 2) (ag df ah)))))))
abbrev ez:Stmt:=top 38
abbrev gc:List Str:=["record","limits","places","best"]
theorem aat:aD gc ["record","limits"] (ak ez):=fL
theorem kL (F:fM K mg "greatest_world" ez ["record","limits"])(aaa:Cl P w K mg base 8 "events" 1 c7)(aao:Cl P w K mg base 2 "settle" 2 eF)(B:Bl mg):Cl P w K mg base 9 "greatest_world" 2 dz:=
 a8 F aat rfl λf c A o s H E hr x=>(by(apply ao;exact(aG (aH aaa hr (ag (af 0) ah)) (aq 2 aat.nd));apply ao;exact(aG (aE (aH aao hr (ag (af 1) (ag (af 2) ah))) aj) (aq 3 aat.nd));apply ao;exact(bK (bf sT (af 3) df) (ar (ay df)) bh);exact ar (ay (mJ gM B.b_tuple cH (ag (fq (N':=["event","best"]) (src:=[none,some 3]) rfl (LcScope.by (N:=gc) (names:=(ak ez).names) rfl rfl rfl (by decide+kernel)) (cm (af 2)) (λ_ _ _ _ _=>⟨(aq 0 (show Jo (["event","best"]:List Str)by decide+kernel)),bZ,(aE (uo (Cy hr) (af 1) (af 0)) aj)⟩)) ah)))))
abbrev fR:Stmt:=top 31
abbrev kg:List Str:=["number","clock","readings","told","k","first","second","steps"]
theorem aa9:aD kg ["number","clock"] (ak fR):=fL
theorem kc (F:fM K mg "bounds_of_clock" fR ["number","clock"])(B:Bl mg):Cl P w K mg base 1 "bounds_of_clock" 2 cy:=
 a8 F aa9 rfl λf c A o s H E hr x=>(by(apply ao;exact(aG (aE (af 1) aj) (aq 2 aa9.nd));apply ao;exact(iq 3 aa9.nd ah);apply ao;exact(dN rfl (dQ B.b_range (ag (aB iI (dj cZ B.b_len Ka (ag (af 2) ah)) aj) ah)) (aq 4 aa9.nd) (by(apply ao;exact(aG (aL (ag (af 0) (ag (af 4) ah))) (aq 5 aa9.nd));apply ao;exact(aG (aL (ag (af 0) (ag (aB aS (af 4) aj) ah))) (aq 6 aa9.nd));apply ao;exact(aG (aB iI (aE (af 2) (aB aS (af 4) aj)) (aE (af 2) (af 4))) (aq 7 aa9.nd));apply ao;exact(ml 3 (aL (ag (af 5) (ag (af 6) (ag (aB dw (af 7) (aE (af 1) aj)) ah)))));exact ar (ml 3 (aL (ag (af 6) (ag (af 5) (ag (aB dw (k7 (af 7)) (aE (af 1) aj)) ah))))))));exact ar (kr 3 (ay (af 3)))))
abbrev fI:Stmt:=top 32
abbrev jE:List Str:=["letter","told"]
theorem aaE:aD jE ["letter"] (ak fI):=fL
theorem jD (F:fM K mg "bounds_of_letter" fI ["letter"]):Cl P w K mg base 1 "bounds_of_letter" 1 cg:=
 a8 F aaE rfl λf c A o s H E hr x=>(by(apply ao;exact(iq 1 aaE.nd (ag (aL (ag (aE (af 0) aj) (ag (aE (af 0) aj) (ag (k7 (aE (af 0) aj)) ah)))) ah));apply ao;exact(bK (bf kK (aE (af 0) aj) df) (ar (ml 1 (aL (ag (aE (af 0) aj) (ag (aE (af 0) aj) (ag (aE (af 0) aj) ah)))))) bh);exact ar (kr 1 (ay (af 1)))))
abbrev pA:Stmt:=top 33
abbrev xh:List Str:=["record","told","number","clock","letter"]
theorem aaH:aD xh ["record"] (ak pA):=fL
theorem xc (F:fM K mg "bounds" pA ["record"])(aa4:Cl P w K mg base 7 "need_record" 1 a7)(aau:Cl P w K mg base 1 "bounds_of_clock" 2 cy)(aar:Cl P w K mg base 1 "bounds_of_letter" 1 cg)(B:Bl mg):Cl P w K mg base 8 "bounds" 1 dt:=
 a8 F aaH rfl λf c A o s H E hr x=>(by(apply ao;exact(cv (aH aa4 hr (ag (af 0) ah)));apply ao;exact(iq 1 aaH.nd ah);apply ao;exact(dN rfl (ku B.b_enumerate (ag (aE (af 0) aj) ah)) (jk rfl (bX (aq 2 aaH.nd) (bX (aq 3 aaH.nd) gC))) (ar (qm 1 (aH aau hr (ag (af 2) (ag (af 3) ah))))));apply ao;exact(dN rfl (cm (aE (af 0) aj)) (aq 4 aaH.nd) (ar (qm 1 (aH aar hr (ag (af 4) ah)))));exact ar (kr 1 (ay (af 1)))))
abbrev sy:Stmt:=top 39
abbrev yZ:List Str:=["record"]
theorem yn:aD yZ ["record"] (ak sy):=fL
theorem yU (F:fM K mg "world" sy ["record"])(aaz:Cl P w K mg base 9 "greatest_world" 2 dz)(aad:Cl P w K mg base 8 "bounds" 1 dt):Cl P w K mg base 10 "world" 1 jr:=
 a8 F yn rfl λf c A o s H E hr x=>(ar (ay (aH aaz hr (ag (af 0) (ag (aH aad hr (ag (af 0) ah)) ah)))))
abbrev kH:Stmt:=top 40
abbrev ri:List Str:=["record"]
theorem qA:aD ri ["record"] (ak kH):=fL
theorem qT (F:fM K mg "has_world" kH ["record"])(ab5:Cl P w K mg base 10 "world" 1 jr):Cl P w K mg base 11 "has_world" 1 aW:=
 a8 F qA rfl λf c A o s H E hr x=>(ar (ay (ej kK (aH ab5 hr (ag (af 0) ah)) df)))
abbrev jK:Stmt:=top 41
abbrev o7:List Str:=["record"]
theorem oO:aD o7 ["record"] (ak jK):=fL
theorem oV (F:fM K mg "need_world" jK ["record"])(aa8:Cl P w K mg base 11 "has_world" 1 aW){C_NoRecord C_NoEvent C_NoNumber C_NoWorld C_ClockError:Addr}(S:Xs K mg C_NoRecord C_NoEvent C_NoNumber C_NoWorld C_ClockError):Cl P w K mg base 12 "need_world" 1 bp:=
 a8 F oO rfl λf c A o s H E hr x=>(ar (bK (ck (bF (aH aa8 hr (ag (af 0) ah)))) (ar (jj S.o_NoWorld S.m_NoWorld)) bh))
abbrev iD:Stmt:=top 51
abbrev nP:List Str:=["record"]
theorem m3:aD nP ["record"] (ak iD):=fL
theorem nu (F:fM K mg "all_letters" iD ["record"])(B:Bl mg):Cl P w K mg base 1 "all_letters" 1 bM:=
 a8 F m3 rfl λf c A o s H E hr x=>(ar (ay (wJ rfl B.b_list B.b_range (ag (dj cZ B.b_len Ka (ag (aE (af 0) aj) ah)) ah))))
abbrev jJ:Stmt:=top 44
abbrev o6:List Str:=["record","one"]
theorem oN:aD o6 ["record","one"] (ak jJ):=fL
theorem oU (F:fM K mg "walks_from" jJ ["record","one"])(aao:Cl P w K mg base 2 "settle" 2 eF)(aad:Cl P w K mg base 8 "bounds" 1 dt):Cl P w K mg base 9 "walks_from" 2 cW:=
 a8 F oN rfl λf c A o s H E hr x=>(ar (ay (aE (aH aao hr (ag (aH aad hr (ag (af 0) ah)) (ag (eZ (ag (af 1) ah)) ah))) aj)))
abbrev mP:Stmt:=top 45
abbrev uO:List Str:=["walks","other"]
theorem uC:aD uO ["walks","other"] (ak mP):=fL
theorem uK (F:fM K mg "most_of" mP ["walks","other"]):Cl P w K mg base 1 "most_of" 2 dY:=
 a8 F uC rfl λf c A o s H E hr x=>(ar (ay (x6 (bf (yS (Cy hr)) (af 1) (af 0)) (aE (uo (Cy hr) (af 0) (af 1)) aj) df)))
abbrev iC:Stmt:=top 48
abbrev lS:List Str:=["record","places","told","one","walks"]
theorem aaw:aD lS ["record"] (ak iC):=fL
theorem sY (F:fM K mg "all_most" iC ["record"])(aa6:Cl P w K mg base 12 "need_world" 1 bp)(aaa:Cl P w K mg base 8 "events" 1 c7)(aal:Cl P w K mg base 9 "walks_from" 2 cW)(aaA:Cl P w K mg base 1 "most_of" 2 dY)(B:Bl mg):Cl P w K mg base 13 "all_most" 1 bq:=
 a8 F aaw rfl λf c A o s H E hr x=>(by(apply ao;exact(cv (aH aa6 hr (ag (af 0) ah)));apply ao;exact(aG (aH aaa hr (ag (af 0) ah)) (aq 1 aaw.nd));apply ao;exact(iq 2 aaw.nd ah);apply ao;exact(dN rfl (cm (af 1)) (aq 3 aaw.nd) (ao (aG (aH aal hr (ag (af 0) (ag (af 3) ah))) (aq 4 aaw.nd)) (ar (ml 2 (mJ gM B.b_tuple cH (ag (fq (N':=["other","walks"]) (src:=[none,some 4]) rfl (LcScope.by (N:=lS) (names:=(ak iC).names) rfl rfl rfl (by decide+kernel)) (cm (af 1)) (λ_ _ _ _ _=>⟨(aq 0 (show Jo (["other","walks"]:List Str)by decide+kernel)),bZ,(aH aaA hr (ag (af 1) (ag (af 0) ah)))⟩)) ah))))));exact ar (ay (Cf 2 (mJ gM B.b_tuple cH (ag (af 2) ah))))))
abbrev ix:Stmt:=top 56
abbrev nJ:List Str:=["one","other"]
theorem mV:aD nJ ["one","other"] (ak ix):=fL
theorem ng (F:fM K mg "same_worlds" ix ["one","other"])(aaa:Cl P w K mg base 8 "events" 1 c7)(aab:Cl P w K mg base 13 "all_most" 1 bq)(aa8:Cl P w K mg base 11 "has_world" 1 aW):Cl P w K mg base 14 "same_worlds" 2 aw:=
 a8 F mV rfl λf c A o s H E hr x=>(by(apply ao;exact(bK (bf (iK (il hr)) (aH aaa hr (ag (af 0) ah)) (aH aaa hr (ag (af 1) ah))) (ar (ay dE)) bh);apply ao;exact(bK (f9 (fB (ck (bF (aH aa8 hr (ag (af 0) ah)))) (ee (ck (bF (aH aa8 hr (ag (af 1) ah))))))) (ar (ay (cS (um (aH aa8 hr (ag (af 0) ah))) (de (um (aH aa8 hr (ag (af 1) ah))))))) bh);exact ar (ay (ej (m8 (il hr)) (aH aab hr (ag (af 0) ah)) (aH aab hr (ag (af 1) ah))))))
abbrev gP:Stmt:=top 52
abbrev kN:List Str:=["record","numbers"]
theorem qv:aD kN ["record","numbers"] (ak gP):=fL
theorem qN (F:fM K mg "with_only" gP ["record","numbers"])(B:Bl mg):Cl P w K mg base 1 "with_only" 2 cx:=
 a8 F qv rfl λf c A o s H E hr x=>(ar (ay (aL (ag (aE (af 0) aj) (ag (mJ gM B.b_tuple cH (ag (fq (N':=["number","record"]) (src:=[none,some 0]) rfl (LcScope.by (N:=kN) (names:=(ak gP).names) rfl rfl rfl (by decide+kernel)) (cm (af 1)) (λ_ _ _ _ _=>⟨(aq 0 (show Jo (["number","record"]:List Str)by decide+kernel)),bZ,(aE (aE (af 1) aj) (af 0))⟩)) ah)) ah)))))
abbrev jX:Stmt:=top 53
abbrev nG:List Str:=["numbers","number"]
theorem uB:aD nG ["numbers","number"] (ak jX):=fL
theorem uJ (F:fM K mg "without" jX ["numbers","number"]):Cl P w K mg base 1 "without" 2 dy:=
 a8 F uB rfl λf c A o s H E hr x=>(ar (ay (fq (N':=["other","number"]) (src:=[none,some 1]) rfl (LcScope.by (N:=nG) (names:=(ak jX).names) rfl rfl rfl (by decide+kernel)) (cm (af 0)) (λ_ _ _ _ _=>⟨(aq 0 (show Jo (["other","number"]:List Str)by decide+kernel)),(mI (bf (iK (il hr)) (af 0) (af 1))),(af 0)⟩))))
abbrev dD:Stmt:=top 54
abbrev fJ:List Str:=["record","numbers"]
theorem aaF:aD fJ ["record"] (ak dD):=fL
theorem jC (F:fM K mg "needless_letters" dD ["record"])(aa6:Cl P w K mg base 12 "need_world" 1 bp)(aaj:Cl P w K mg base 1 "all_letters" 1 bM)(aa1:Cl P w K mg base 14 "same_worlds" 2 aw)(aaq:Cl P w K mg base 1 "with_only" 2 cx)(aaB:Cl P w K mg base 1 "without" 2 dy):Cl P w K mg base 15 "needless_letters" 1 aN:=
 a8 F aaF rfl λf c A o s H E hr x=>(by(apply ao;exact(cv (aH aa6 hr (ag (af 0) ah)));apply ao;exact(aG (aH aaj hr (ag (af 0) ah)) (aq 1 aaF.nd));exact ar (ay (fq (N':=["number","record","numbers"]) (src:=[none,some 0,some 1]) rfl (LcScope.by (N:=fJ) (names:=(ak dD).names) rfl rfl rfl (by decide+kernel)) (cm (af 1)) (λ_ _ _ _ _=>⟨(aq 0 (show Jo (["number","record","numbers"]:List Str)by decide+kernel)),(mI (bF (aH aa1 hr (ag (aH aaq hr (ag (af 1) (ag (aH aaB hr (ag (af 2) (ag (af 0) ah))) ah))) (ag (af 1) ah))))),(af 0)⟩)))))
abbrev gD:Stmt:=top 55
abbrev lr:List Str:=["record","least","number","less"]
theorem aai:aD lr ["record"] (ak gD):=fL
theorem lb (F:fM K mg "least_letters" gD ["record"])(aa6:Cl P w K mg base 12 "need_world" 1 bp)(aaq:Cl P w K mg base 1 "with_only" 2 cx)(aa1:Cl P w K mg base 14 "same_worlds" 2 aw)(aaB:Cl P w K mg base 1 "without" 2 dy)(aaj:Cl P w K mg base 1 "all_letters" 1 bM)(B:Bl mg):Cl P w K mg base 15 "least_letters" 1 bR:=
 a8 F aai rfl λf c A o s H E hr x=>(by(apply ao;exact(cv (aH aa6 hr (ag (af 0) ah)));apply ao;exact(aG (af 0) (aq 1 aai.nd));apply ao;exact(dN rfl (uk B.b_range (ag (aB iI (dj cZ B.b_len Ka (ag (aE (af 0) aj) ah)) aj) (ag (k7 aj) (ag (k7 aj) ah)))) (aq 2 aai.nd) (ao (aG (aH aaq hr (ag (af 1) (ag (aH aaB hr (ag (aH aaj hr (ag (af 1) ah)) (ag (af 2) ah))) ah))) (aq 3 aai.nd)) (ar (bK (bF (aH aa1 hr (ag (af 3) (ag (af 0) ah)))) (ar (aG (af 3) (aq 1 aai.nd))) bh))));exact ar (ay (af 1))))
theorem jd {X:Cx}{j1 j2 j3 j4 j5 j6 j7 j8 j9 j10 j11 j12 j13 j14:Nat}{p1 p2 p3 p4 p5 p6 p7 p8 p9 p10 p11 p12 p13 p14:Pos}:QE X (.Tuple [(.Tuple [(.Constant (.int 0) j1 p1),(.Constant (.int 1) j2 p2)] j3 p3),(.Tuple [(.Constant (.int 3) j4 p4),(.Constant (.int 4) j5 p5)] j6 p6),(.Tuple [(.Constant (.int 0) j7 p7),(.Constant (.int 1) j8 p8),(.Constant (.int 2) j9 p9)] j10 p10),(.Tuple [(.Constant (.int 0) j11 p11),(.Constant (.int 2) j12 p12)] j13 p13)] j14 p14) (aO (ae (aO (ae (cn (.int 0)) (ae (cn (.int 1)) ai))) (ae (aO (ae (cn (.int 3)) (ae (cn (.int 4)) ai))) (ae (aO (ae (cn (.int 0)) (ae (cn (.int 1)) (ae (cn (.int 2)) ai)))) (ae (aO (ae (cn (.int 0)) (ae (cn (.int 2)) ai))) ai))))):=by
 refine @aL X _ _ _ _ ?_
 refine @ag X _ _ _ _ ?_ ?_ rfl
 ·refine @aL X _ _ _ _ ?_
  refine @ag X _ _ _ _ ?_ ?_ rfl
  ·exact aj
  refine @ag X _ _ _ _ ?_ ?_ rfl
  ·exact aj
  exact ah
 refine @ag X _ _ _ _ ?_ ?_ rfl
 ·refine @aL X _ _ _ _ ?_
  refine @ag X _ _ _ _ ?_ ?_ rfl
  ·exact aj
  refine @ag X _ _ _ _ ?_ ?_ rfl
  ·exact aj
  exact ah
 refine @ag X _ _ _ _ ?_ ?_ rfl
 ·refine @aL X _ _ _ _ ?_
  refine @ag X _ _ _ _ ?_ ?_ rfl
  ·exact aj
  refine @ag X _ _ _ _ ?_ ?_ rfl
  ·exact aj
  refine @ag X _ _ _ _ ?_ ?_ rfl
  ·exact aj
  exact ah
 refine @ag X _ _ _ _ ?_ ?_ rfl
 ·refine @aL X _ _ _ _ ?_
  refine @ag X _ _ _ _ ?_ ?_ rfl
  ·exact aj
  refine @ag X _ _ _ _ ?_ ?_ rfl
  ·exact aj
  exact ah
 exact ah
theorem jc {X:Cx}{j1 j2 j3 j4 j5 j6 j7 j8 j9:Nat}{p1 p2 p3 p4 p5 p6 p7 p8 p9 p10:Pos}:QE X (.List [(.Tuple [(.Tuple [(.Tuple [(.Constant (.int 1) j1 p1),(.Constant (.int 2) j2 p2),(.Tuple [(.Constant (.int 0) j3 p3),(.Constant (.int 1) j4 p4)] j5 p5)] j6 p6)] j7 p7),(.Tuple [] j8 p8)] j9 p9)] p10) (ff (ae (aO (ae (aO (ae (aO (ae (cn (.int 1)) (ae (cn (.int 2)) (ae (aO (ae (cn (.int 0)) (ae (cn (.int 1)) ai))) ai)))) ai)) (ae (aO ai) ai))) ai)):=by
 refine @eZ X _ _ _ ?_
 refine @ag X _ _ _ _ ?_ ?_ rfl
 ·refine @aL X _ _ _ _ ?_
  refine @ag X _ _ _ _ ?_ ?_ rfl
  ·refine @aL X _ _ _ _ ?_
   refine @ag X _ _ _ _ ?_ ?_ rfl
   ·refine @aL X _ _ _ _ ?_
    refine @ag X _ _ _ _ ?_ ?_ rfl
    ·exact aj
    refine @ag X _ _ _ _ ?_ ?_ rfl
    ·exact aj
    refine @ag X _ _ _ _ ?_ ?_ rfl
    ·refine @aL X _ _ _ _ ?_
     refine @ag X _ _ _ _ ?_ ?_ rfl
     ·exact aj
     refine @ag X _ _ _ _ ?_ ?_ rfl
     ·exact aj
     exact ah
    exact ah
   exact ah
  refine @ag X _ _ _ _ ?_ ?_ rfl
  ·refine @aL X _ _ _ _ ?_
   exact ah
  exact ah
 exact ah
theorem jb {X:Cx}{j1 j2 j3 j4 j5 j6 j7 j8 j9 j10:Nat}{p1 p2 p3 p4 p5 p6 p7 p8 p9 p10:Pos}:QE X (.Tuple [(.Tuple [(.Tuple [(.Constant (.int 0) j1 p1),(.Constant (.int 0) j2 p2)] j3 p3),(.Tuple [(.Constant (.int 1) j4 p4),(.Constant (.int 0) j5 p5)] j6 p6),(.Constant (.int 1) j7 p7),(.Constant (.int 4) j8 p8)] j9 p9)] j10 p10) (aO (ae (aO (ae (aO (ae (cn (.int 0)) (ae (cn (.int 0)) ai))) (ae (aO (ae (cn (.int 1)) (ae (cn (.int 0)) ai))) (ae (cn (.int 1)) (ae (cn (.int 4)) ai))))) ai)):=by
 refine @aL X _ _ _ _ ?_
 refine @ag X _ _ _ _ ?_ ?_ rfl
 ·refine @aL X _ _ _ _ ?_
  refine @ag X _ _ _ _ ?_ ?_ rfl
  ·refine @aL X _ _ _ _ ?_
   refine @ag X _ _ _ _ ?_ ?_ rfl
   ·exact aj
   refine @ag X _ _ _ _ ?_ ?_ rfl
   ·exact aj
   exact ah
  refine @ag X _ _ _ _ ?_ ?_ rfl
  ·refine @aL X _ _ _ _ ?_
   refine @ag X _ _ _ _ ?_ ?_ rfl
   ·exact aj
   refine @ag X _ _ _ _ ?_ ?_ rfl
   ·exact aj
   exact ah
  refine @ag X _ _ _ _ ?_ ?_ rfl
  ·exact aj
  refine @ag X _ _ _ _ ?_ ?_ rfl
  ·exact aj
  exact ah
 exact ah
theorem ja {X:Cx}{j1 j2 j3 j4 j5 j6 j7 j8 j9 j10 j11:Nat}{p1 p2 p3 p4 p5 p6 p7 p8 p9 p10 p11:Pos}:QE X (.Tuple [(.Tuple [(.Constant (.int 1) j1 p1),(.Constant (.int 1) j2 p2),(.Tuple [(.Constant (.int 0) j3 p3)] j4 p4)] j5 p5),(.Tuple [(.Constant (.int 1) j6 p6),(.Constant (.int 1) j7 p7),(.Tuple [(.Constant (.int 0) j8 p8)] j9 p9)] j10 p10)] j11 p11) (aO (ae (aO (ae (cn (.int 1)) (ae (cn (.int 1)) (ae (aO (ae (cn (.int 0)) ai)) ai)))) (ae (aO (ae (cn (.int 1)) (ae (cn (.int 1)) (ae (aO (ae (cn (.int 0)) ai)) ai)))) ai))):=by
 refine @aL X _ _ _ _ ?_
 refine @ag X _ _ _ _ ?_ ?_ rfl
 ·refine @aL X _ _ _ _ ?_
  refine @ag X _ _ _ _ ?_ ?_ rfl
  ·exact aj
  refine @ag X _ _ _ _ ?_ ?_ rfl
  ·exact aj
  refine @ag X _ _ _ _ ?_ ?_ rfl
  ·refine @aL X _ _ _ _ ?_
   refine @ag X _ _ _ _ ?_ ?_ rfl
   ·exact aj
   exact ah
  exact ah
 refine @ag X _ _ _ _ ?_ ?_ rfl
 ·refine @aL X _ _ _ _ ?_
  refine @ag X _ _ _ _ ?_ ?_ rfl
  ·exact aj
  refine @ag X _ _ _ _ ?_ ?_ rfl
  ·exact aj
  refine @ag X _ _ _ _ ?_ ?_ rfl
  ·refine @aL X _ _ _ _ ?_
   refine @ag X _ _ _ _ ?_ ?_ rfl
   ·exact aj
   exact ah
  exact ah
 exact ah
theorem i9 {X:Cx}{j1 j2 j3 j4 j5:Nat}{p1 p2 p3 p4 p5 p6:Pos}:QE X (.List [(.Constant (.bool true) j1 p1),(.Constant (.bool true) j2 p2),(.Constant (.bool false) j3 p3),(.Constant (.bool false) j4 p4),(.Constant (.bool false) j5 p5)] p6) (ff (ae (cn (.bl true)) (ae (cn (.bl true)) (ae (cn (.bl false)) (ae (cn (.bl false)) (ae (cn (.bl false)) ai)))))):=by
 refine @eZ X _ _ _ ?_
 refine @ag X _ _ _ _ ?_ ?_ rfl
 ·exact dE
 refine @ag X _ _ _ _ ?_ ?_ rfl
 ·exact dE
 refine @ag X _ _ _ _ ?_ ?_ rfl
 ·exact dE
 refine @ag X _ _ _ _ ?_ ?_ rfl
 ·exact dE
 refine @ag X _ _ _ _ ?_ ?_ rfl
 ·exact dE
 exact ah
abbrev cb:Stmt:=top 67
abbrev cV:List Str:=["_law_some","_law_twice","_law_told"]
theorem aak:aD cV [] (ak cb):=fL
theorem kf (F:fM K mg "_law_known_ones" cb [])(aa7:Cl P w K mg base 15 "needless_letters" 1 aN)(aac:Cl P w K mg base 15 "least_letters" 1 bR)(aa1:Cl P w K mg base 14 "same_worlds" 2 aw):Cl P w K mg base 16 "_law_known_ones" 0 cz:=
 a8 F aak rfl λf c A o s H E hr x=>(by(apply ao;exact(aG (aB aS (fq (N':=["_law_row"]) (src:=[none]) rfl (LcScope.by (N:=cV) (names:=(ak cb).names) rfl rfl rfl (by decide+kernel)) (cm jd) (λ_ _ _ _ _=>⟨(aq 0 (show Jo (["_law_row"]:List Str)by decide+kernel)),bZ,(aL (ag (aL (ag (aL (ag aj (ag aj (ag (af 0) ah)))) ah)) (ag (aL ah) ah)))⟩)) jc) (aq 0 aak.nd));apply ao;exact(aG (aL (ag ja (ag (aB dw jb aj) ah))) (aq 1 aak.nd));apply ao;exact(bK (f9 (fB (bf (iK (il hr)) (aH aa7 hr (ag (af 1) ah)) (eZ (ag aj (ag aj ah)))) (ee (bf (iK (il hr)) (aH aac hr (ag (af 1) ah)) (aL (ag (aE (af 1) aj) (ag (eh (aE (af 1) aj) eg (ef aj)) ah))))))) (ar (ay dE)) bh);apply ao;exact(aG (aB aS (fq (N':=["_law_other","_law_some"]) (src:=[none,some 0]) rfl (LcScope.by (N:=cV) (names:=(ak cb).names) rfl rfl rfl (by decide+kernel)) (cm (af 0)) (λ_ _ _ _ _=>⟨(aq 0 (show Jo (["_law_other","_law_some"]:List Str)by decide+kernel)),bZ,(aH aa1 hr (ag (aE (af 1) aj) (ag (af 0) ah)))⟩)) (fq (N':=["_law_other","_law_some"]) (src:=[none,some 0]) rfl (LcScope.by (N:=cV) (names:=(ak cb).names) rfl rfl rfl (by decide+kernel)) (cm (af 0)) (λ_ _ _ _ _=>⟨(aq 0 (show Jo (["_law_other","_law_some"]:List Str)by decide+kernel)),bZ,(aH aa1 hr (ag (af 0) (ag (aE (af 1) aj) ah)))⟩))) (aq 2 aak.nd));exact ar (ay (ej (m8 (il hr)) (af 2) (aB dw i9 aj)))))
abbrev kI:Stmt:=top 61
abbrev rj:List Str:=["_law_script","_law_k"]
theorem qB:aD rj ["_law_script","_law_k"] (ak kI):=fL
theorem qU (F:fM K mg "_law_cell" kI ["_law_script","_law_k"])(B:Bl mg):Cl P w K mg base 1 "_law_cell" 2 fw:=
 a8 F qB rfl λf c A o s H E hr x=>(ao (bK (bf (m8 (il hr)) (af 0) (eZ ah)) (ar (ay (aB dw aj (af 1)))) bh) (ar (ay (aB aS (aE (af 0) (aB j0 (af 1) (dj cZ B.b_len Ka (ag (af 0) ah)))) (aB dw aj (aB mw (af 1) (dj cZ B.b_len Ka (ag (af 0) ah))))))))
abbrev jM:Stmt:=top 62
abbrev o9:List Str:=["_law_script","_law_k","_law_many","_law_cell_here"]
theorem aaJ:aD o9 ["_law_script","_law_k","_law_many"] (ak jM):=fL
theorem oZ (F:fM K mg "_law_drawn" jM ["_law_script","_law_k","_law_many"])(aaX:Cl P w K mg base 1 "_law_cell" 2 fw):Cl P w K mg base 2 "_law_drawn" 3 aF:=
 a8 F aaJ rfl λf c A o s H E hr x=>(by(apply ao;exact(aG (aB j0 (aB aS (aB dw (aB j0 (aH aaX hr (ag (af 0) (ag (af 1) ah))) aj) aj) (aB dw aj (aB aS (af 1) aj))) aj) (aq 3 aaJ.nd));apply ao;exact(aG (aB j0 (aB aS (aB dw (af 3) (af 3)) (aB mw (af 3) aj)) aj) (aq 3 aaJ.nd));exact ar (ay (aB j0 (aB mw (aB j0 (aB aS (aB dw (af 3) (af 3)) (aB mw (af 3) aj)) aj) aj) (af 2)))))
abbrev fV:Stmt:=top 65
abbrev iQ:List Str:=["_law_clocks","_law_found","_law_number","_law_clock_here"]
theorem aam:aD iQ ["_law_clocks"] (ak fV):=fL
theorem nB (F:fM K mg "_law_events" fV ["_law_clocks"])(B:Bl mg):Cl P w K mg base 1 "_law_events" 1 dH:=
 a8 F aam rfl λf c A o s H E hr x=>(by(apply ao;exact(aG (eZ ah) (aq 1 aam.nd));apply ao;exact(dN rfl (ku B.b_enumerate (ag (af 0) ah)) (jk rfl (bX (aq 2 aam.nd) (bX (aq 3 aam.nd) gC))) (ar (aG (aB aS (af 1) (fq (N':=["_law_place","_law_number"]) (src:=[none,some 2]) rfl (LcScope.by (N:=iQ) (names:=(ak fV).names) rfl rfl rfl (by decide+kernel)) (dQ B.b_range (ag (dj cZ B.b_len Ka (ag (aE (af 3) aj) ah)) ah)) (λ_ _ _ _ _=>⟨(aq 0 (show Jo (["_law_place","_law_number"]:List Str)by decide+kernel)),bZ,(aL (ag (af 1) (ag (af 0) ah)))⟩))) (aq 1 aam.nd))));exact ar (ay (af 1))))
abbrev iF:Stmt:=top 64
abbrev nQ:List Str:=["_law_script","_law_at","_law_clocks","_law_row","_law_place","_law_other","_law_least","_law_most"]
theorem aaf:aD nQ ["_law_script","_law_at","_law_clocks"] (ak iF):=fL
theorem nA (F:fM K mg "_law_letter" iF ["_law_script","_law_at","_law_clocks"])(aaK:Cl P w K mg base 1 "_law_events" 1 dH)(aa0:Cl P w K mg base 2 "_law_drawn" 3 aF)(B:Bl mg):Cl P w K mg base 3 "_law_letter" 3 da:=
 a8 F aaf rfl λf c A o s H E hr x=>(by(apply ao;exact(aG (aH aaK hr (ag (af 2) ah)) (aq 3 aaf.nd));apply ao;exact(bK (bf vF (dj cZ B.b_len Ka (ag (af 3) ah)) aj) (ar (ay df)) bh);apply ao;exact(aG (aH aa0 hr (ag (af 0) (ag (af 1) (ag (dj cZ B.b_len Ka (ag (af 3) ah)) ah)))) (aq 4 aaf.nd));apply ao;exact(aG (aB j0 (aB aS (aB aS (af 4) aj) (aH aa0 hr (ag (af 0) (ag (aB aS (af 1) aj) (ag (aB iI (dj cZ B.b_len Ka (ag (af 3) ah)) aj) ah))))) (dj cZ B.b_len Ka (ag (af 3) ah))) (aq 5 aaf.nd));apply ao;exact(aG (aH aa0 hr (ag (af 0) (ag (aB aS (af 1) aj) (ag aj ah)))) (aq 6 aaf.nd));apply ao;exact(aG (x6 (bf (m8 (il hr)) (aH aa0 hr (ag (af 0) (ag (aB aS (af 1) aj) (ag aj ah)))) aj) df (aB aS (af 6) (aH aa0 hr (ag (af 0) (ag (aB aS (af 1) aj) (ag aj ah)))))) (aq 7 aaf.nd));exact ar (ay (aL (ag (aE (af 3) (af 4)) (ag (aE (af 3) (af 5)) (ag (af 6) (ag (af 7) ah))))))))
abbrev jN:Stmt:=top 63
abbrev pe:List Str:=["_law_script","_law_at","_law_slow","_law_readings","_law_k"]
theorem aap:aD pe ["_law_script","_law_at"] (ak jN):=fL
theorem o4 (F:fM K mg "_law_clock" jN ["_law_script","_law_at"])(aa0:Cl P w K mg base 2 "_law_drawn" 3 aF)(B:Bl mg):Cl P w K mg base 3 "_law_clock" 2 cA:=
 a8 F aap rfl λf c A o s H E hr x=>(by(apply ao;exact(aG (aB aS aj (aH aa0 hr (ag (af 0) (ag (af 1) (ag aj ah))))) (aq 2 aap.nd));apply ao;exact(aG (aL (ag (aH aa0 hr (ag (af 0) (ag (aB aS (af 1) aj) (ag aj ah)))) ah)) (aq 3 aap.nd));apply ao;exact(dN rfl (dQ B.b_range (ag (aH aa0 hr (ag (af 0) (ag (aB aS (af 1) aj) (ag aj ah)))) ah)) (aq 4 aap.nd) (ar (aG (aB aS (af 3) (aL (ag (aB aS (aB aS (aE (af 3) (k7 aj)) aj) (aH aa0 hr (ag (af 0) (ag (aB aS (aB aS (af 1) aj) (af 4)) (ag aj ah))))) ah))) (aq 3 aap.nd))));exact ar (ay (aL (ag (af 2) (ag (aB aS (af 2) (aH aa0 hr (ag (af 0) (ag (aB aS (af 1) aj) (ag aj ah))))) (ag (af 3) ah)))))))
abbrev fU:Stmt:=top 66
abbrev iP:List Str:=["_law_script","_law_at","_law_most","_law_clocks","_law_letters","_law_k","_law_letter_here"]
theorem aag:aD iP ["_law_script","_law_at","_law_most"] (ak fU):=fL
theorem ny (F:fM K mg "_law_record" fU ["_law_script","_law_at","_law_most"])(aa0:Cl P w K mg base 2 "_law_drawn" 3 aF)(aaL:Cl P w K mg base 3 "_law_letter" 3 da)(aaR:Cl P w K mg base 3 "_law_clock" 2 cA)(B:Bl mg):Cl P w K mg base 4 "_law_record" 3 dG:=
 a8 F aag rfl λf c A o s H E hr x=>(by(apply ao;exact(aG (mJ gM B.b_tuple cH (ag (fq (N':=["_law_k","_law_script","_law_at"]) (src:=[none,some 0,some 1]) rfl (LcScope.by (N:=iP) (names:=(ak fU).names) rfl rfl rfl (by decide+kernel)) (dQ B.b_range (ag (aB aS aj (aH aa0 hr (ag (af 0) (ag (af 1) (ag aj ah))))) ah)) (λ_ _ _ _ _=>⟨(aq 0 (show Jo (["_law_k","_law_script","_law_at"]:List Str)by decide+kernel)),bZ,(aH aaR hr (ag (af 1) (ag (aB aS (aB aS (af 2) aj) (aB dw aj (af 0))) ah)))⟩)) ah)) (aq 3 aag.nd));apply ao;exact(aG (eZ ah) (aq 4 aag.nd));apply ao;exact(dN rfl (dQ B.b_range (ag (aH aa0 hr (ag (af 0) (ag (aB aS (af 1) aj) (ag (aB aS (af 2) aj) ah)))) ah)) (aq 5 aag.nd) (ao (aG (aH aaL hr (ag (af 0) (ag (aB aS (aB aS (af 1) aj) (aB dw aj (af 5))) (ag (af 3) ah)))) (aq 6 aag.nd)) (ar (aG (aB aS (af 4) (aB dw (eZ (ag (af 6) ah)) (mJ Ew B.b_int lX (ag (ej kK (af 6) df) ah)))) (aq 4 aag.nd)))));exact ar (ay (aL (ag (af 3) (ag (mJ gM B.b_tuple cH (ag (af 4) ah)) ah))))))
abbrev jL:Stmt:=top 27
abbrev o8:List Str:=["record","thing"]
theorem oP:aD o8 ["record","thing"] (ak jL):=fL
theorem oX (F:fM K mg "need_event" jL ["record","thing"])(aan:Cl P w K mg base 3 "is_event" 2 cG){C_NoRecord C_NoEvent C_NoNumber C_NoWorld C_ClockError:Addr}(S:Xs K mg C_NoRecord C_NoEvent C_NoNumber C_NoWorld C_ClockError):Cl P w K mg base 4 "need_event" 2 eG:=
 a8 F oP rfl λf c A o s H E hr x=>(ar (bK (ck (bF (aH aan hr (ag (aE (af 0) aj) (ag (af 1) ah))))) (ar (jj S.o_NoEvent S.m_NoEvent)) bh))
abbrev iA:Stmt:=top 43
abbrev nM:List Str:=["record","one","other"]
theorem mY:aD nM ["record","one","other"] (ak iA):=fL
theorem nq (F:fM K mg "need_events" iA ["record","one","other"])(aa4:Cl P w K mg base 7 "need_record" 1 a7)(aaC:Cl P w K mg base 4 "need_event" 2 eG):Cl P w K mg base 8 "need_events" 3 fj:=
 a8 F mY rfl λf c A o s H E hr x=>(by(apply ao;exact(cv (aH aa4 hr (ag (af 0) ah)));apply ao;exact(cv (aH aaC hr (ag (af 0) (ag (af 1) ah))));exact ar (cv (aH aaC hr (ag (af 0) (ag (af 2) ah))))))
abbrev hY:Stmt:=top 46
abbrev l8:List Str:=["record","one","other"]
theorem lZ:aD l8 ["record","one","other"] (ak hY):=fL
theorem l6 (F:fM K mg "most_between" hY ["record","one","other"])(aaM:Cl P w K mg base 8 "need_events" 3 fj)(aa6:Cl P w K mg base 12 "need_world" 1 bp)(aaA:Cl P w K mg base 1 "most_of" 2 dY)(aal:Cl P w K mg base 9 "walks_from" 2 cW):Cl P w K mg base 13 "most_between" 3 bO:=
 a8 F lZ rfl λf c A o s H E hr x=>(by(apply ao;exact(cv (aH aaM hr (ag (af 0) (ag (af 1) (ag (af 2) ah)))));apply ao;exact(cv (aH aa6 hr (ag (af 0) ah)));exact ar (ay (aH aaA hr (ag (aH aal hr (ag (af 0) (ag (af 1) ah))) (ag (af 2) ah))))))
abbrev gE:Stmt:=top 47
abbrev lu:List Str:=["record","one","other","most"]
theorem aaS:aD lu ["record","one","other"] (ak gE):=fL
theorem lg (F:fM K mg "least_between" gE ["record","one","other"])(aah:Cl P w K mg base 13 "most_between" 3 bO):Cl P w K mg base 14 "least_between" 3 dO:=
 a8 F aaS rfl λf c A o s H E hr x=>(ao (aG (aH aah hr (ag (af 0) (ag (af 2) (ag (af 1) ah)))) (aq 3 aaS.nd)) (ar (ay (x6 (bf sT (af 3) df) df (k7 (af 3))))))
abbrev kG:Stmt:=top 58
abbrev rh:List Str:=["thing"]
theorem qz:aD rh ["thing"] (ak kG):=fL
theorem qS (F:fM K mg "if_record" kG ["thing"])(aa4:Cl P w K mg base 7 "need_record" 1 a7):Cl P w K mg base 8 "if_record" 1 dZ:=
 a8 F qz rfl λf c A o s H E hr x=>(ao (cv (aH aa4 hr (ag (af 0) ah))) (ar (ay (af 0))))
abbrev iw:Stmt:=top 59
abbrev nH:List Str:=["record","letter"]
theorem mU:aD nH ["record","letter"] (ak iw):=fL
theorem m9 (F:fM K mg "with_letter" iw ["record","letter"])(aa4:Cl P w K mg base 7 "need_record" 1 a7)(aaY:Cl P w K mg base 8 "if_record" 1 dZ):Cl P w K mg base 9 "with_letter" 2 bV:=
 a8 F mU rfl λf c A o s H E hr x=>(ao (cv (aH aa4 hr (ag (af 0) ah))) (ar (ay (aH aaY hr (ag (aL (ag (aE (af 0) aj) (ag (aB aS (aE (af 0) aj) (aL (ag (af 1) ah))) ah))) ah)))))
abbrev iz:Stmt:=top 28
abbrev nL:List Str:=["many","thing"]
theorem mX:aD nL ["many","thing"] (ak iz):=fL
theorem nj (F:fM K mg "need_number" iz ["many","thing"])(aa3:Cl P w K mg base 2 "is_within" 3 aV){C_NoRecord C_NoEvent C_NoNumber C_NoWorld C_ClockError:Addr}(S:Xs K mg C_NoRecord C_NoEvent C_NoNumber C_NoWorld C_ClockError):Cl P w K mg base 3 "need_number" 2 fh:=
 a8 F mX rfl λf c A o s H E hr x=>(ar (bK (ck (bF (aH aa3 hr (ag (af 1) (ag aj (ag (aB iI (af 0) aj) ah)))))) (ar (jj S.o_NoNumber S.m_NoNumber)) bh))
abbrev iB:Stmt:=top 50
abbrev nN:List Str:=["record","number","limits","bound","walks"]
theorem aas:aD nN ["record","number"] (ak iB):=fL
theorem nr (F:fM K mg "is_needless" iB ["record","number"])(aad:Cl P w K mg base 8 "bounds" 1 dt)(aaN:Cl P w K mg base 3 "need_number" 2 fh)(aa6:Cl P w K mg base 12 "need_world" 1 bp)(aao:Cl P w K mg base 2 "settle" 2 eF)(B:Bl mg):Cl P w K mg base 13 "is_needless" 2 dF:=
 a8 F aas rfl λf c A o s H E hr x=>(by(apply ao;exact(aG (aH aad hr (ag (af 0) ah)) (aq 2 aas.nd));apply ao;exact(cv (aH aaN hr (ag (dj cZ B.b_len Ka (ag (af 2) ah)) (ag (af 1) ah))));apply ao;exact(cv (aH aa6 hr (ag (af 0) ah)));apply ao;exact(aG (aE (af 2) (af 1)) (aq 3 aas.nd));apply ao;exact(aG (aE (aH aao hr (ag (aB aS (eh (af 2) eg (ef (af 1))) (eh (af 2) (ef (aB aS (af 1) aj)) eg)) (ag (eZ (ag (aE (af 3) aj) ah)) ah))) aj) (aq 4 aas.nd));exact ar (ay (cS (ej (yS (Cy hr)) (aE (af 3) aj) (af 4)) (de (ej m7 (aE (uo (Cy hr) (af 4) (aE (af 3) aj)) aj) (aE (af 3) aj)))))))
abbrev fT:Stmt:=top 68
abbrev iO:List Str:=["_law_script","_law_record_here","_law_other","_law_turned","_law_left","_law_number","_law_one","_law_last","_law_most","_law_told","_law_row","_law_least","_law_more","_law_letter_here","_law_same"]
theorem aa2:aD iO ["_law_script"] (ak fT):=fL
theorem nv (F:fM K mg "_law_stands" fT ["_law_script"])(aax:Cl P w K mg base 4 "_law_record" 3 dG)(aac:Cl P w K mg base 15 "least_letters" 1 bR)(aaa:Cl P w K mg base 8 "events" 1 c7)(aaD:Cl P w K mg base 14 "least_between" 3 dO)(aa8:Cl P w K mg base 11 "has_world" 1 aW)(aa1:Cl P w K mg base 14 "same_worlds" 2 aw)(aah:Cl P w K mg base 13 "most_between" 3 bO)(aa0:Cl P w K mg base 2 "_law_drawn" 3 aF)(aay:Cl P w K mg base 9 "with_letter" 2 bV)(aa7:Cl P w K mg base 15 "needless_letters" 1 aN)(aab:Cl P w K mg base 13 "all_most" 1 bq)(aad:Cl P w K mg base 8 "bounds" 1 dt)(aaO:Cl P w K mg base 13 "is_needless" 2 dF)(B:Bl mg):Cl P w K mg base 16 "_law_stands" 1 fm:=
 a8 F aa2 rfl λf c A o s H E hr x=>(by(apply ao;exact(aG (aH aax hr (ag (af 0) (ag aj (ag aj ah)))) (aq 1 aa2.nd));apply ao;exact(aG (aL (ag (aE (af 1) aj) (ag (eh (aE (aH aax hr (ag (af 0) (ag aj (ag aj ah)))) aj) eg (ef aj)) ah))) (aq 2 aa2.nd));apply ao;exact(aG (aL (ag (aE (af 1) aj) (ag (CL (aE (af 1) aj)) ah))) (aq 3 aa2.nd));apply ao;exact(bK (f9 (fB (ck (bF (aH aa1 hr (ag (af 1) (ag (af 3) ah))))) (ee (ck (bF (aH aa1 hr (ag (af 1) (ag (af 1) ah)))))))) (ar (ay dE)) bh);apply ao;exact(bK (ck (bF (aH aa8 hr (ag (af 1) ah)))) (ar (ay (aH aa1 hr (ag (af 1) (ag (aL (ag (aE (af 1) aj) (ag (aB aS (aE (af 1) aj) (eh (aE (af 1) aj) eg (ef aj))) ah))) ah))))) bh);apply ao;exact(aG (aH aac hr (ag (af 1) ah)) (aq 4 aa2.nd));apply ao;exact(bK (f9 (fB (ck (bF (aH aa1 hr (ag (af 1) (ag (af 4) ah))))) (fB (bf (iK (il hr)) (aH aa7 hr (ag (af 4) ah)) (eZ ah)) (ee (bf (iK (il hr)) (aH aab hr (ag (af 4) ah)) (aH aab hr (ag (af 1) ah))))))) (ar (ay dE)) bh);apply ao;exact(bK (f9 (fB (bf (iK (il hr)) (fq (N':=["_law_letter_here","_law_record_here"]) (src:=[none,some 1]) rfl (LcScope.by (N:=iO) (names:=(ak fT).names) rfl rfl rfl (by decide+kernel)) (cm (aE (af 4) aj)) (λ_ _ _ _ _=>⟨(aq 0 (show Jo (["_law_letter_here","_law_record_here"]:List Str)by decide+kernel)),(mI (bf (iJ (u4 hr)) (af 0) (aE (af 1) aj))),(af 0)⟩)) (eZ ah)) (ee (bf (iK (il hr)) (aE (af 4) aj) (aE (af 1) aj))))) (ar (ay dE)) bh);apply ao;exact(dN rfl (cm (eh (eh (x3 rfl B.b_list B.b_enumerate (ag (aH aad hr (ag (af 1) ah)) ah)) (ef (aH aa0 hr (ag (af 0) (ag aj (ag aj ah))))) eg) eg (ef aj))) (jk rfl (bX (aq 5 aa2.nd) (bX (jk rfl (bX (aq 6 aa2.nd) (bX (aq 7 aa2.nd) (bX (aq 8 aa2.nd) gC)))) gC))) (ao (aG (aH aah hr (ag (af 1) (ag (af 6) (ag (af 7) ah)))) (aq 9 aa2.nd)) (ar (bK (f9 (fB (bf FI (af 9) (af 8)) (ee (f9 (mj (bf vF (af 9) (af 8)) (mH (ck (bF (aH aaO hr (ag (af 1) (ag (af 5) ah))))))))))) (ar (ay dE)) bh))));apply ao;exact(bK (f9 (mj (bf (iK (il hr)) (aE (af 1) aj) (aL ah)) (mH (bf (iJ (u4 hr)) aj (aH aa7 hr (ag (aL (ag (aE (af 1) aj) (ag (aB aS (aE (af 1) aj) (eh (aE (af 1) aj) eg (ef aj))) ah))) ah)))))) (ar (ay dE)) bh);apply ao;exact(aG (aH aaa hr (ag (af 1) ah)) (aq 10 aa2.nd));apply ao;exact(aG (aE (af 10) (aH aa0 hr (ag (af 0) (ag aj (ag (dj cZ B.b_len Ka (ag (af 10) ah)) ah))))) (aq 6 aa2.nd));apply ao;exact(aG (aE (af 10) (aH aa0 hr (ag (af 0) (ag aj (ag (dj cZ B.b_len Ka (ag (af 10) ah)) ah))))) (aq 7 aa2.nd));apply ao;exact(aG (aH aaD hr (ag (af 1) (ag (af 6) (ag (af 7) ah)))) (aq 11 aa2.nd));apply ao;exact(bK (f9 (mj (bf (iK (il hr)) (af 6) (af 7)) (mj (bf kK (af 11) df) (mH (wH m7 m7 aj (af 11) aj))))) (by(apply ao;exact(aG (aH aay hr (ag (af 1) (ag (aL (ag (af 6) (ag (af 7) (ag (af 11) (ag df ah))))) ah))) (aq 12 aa2.nd));apply ao;exact(bK (f9 (fB (ck (bF (aH aa1 hr (ag (af 1) (ag (af 12) ah))))) (ee (bf (iJ (u4 hr)) (dj cZ B.b_len Ka (ag (aE (af 1) aj) ah)) (aH aa7 hr (ag (af 12) ah)))))) (ar (ay dE)) bh);apply ao;exact(aG (aH aay hr (ag (af 1) (ag (aL (ag (af 6) (ag (af 7) (ag (aB aS (af 11) aj) (ag df ah))))) ah))) (aq 12 aa2.nd));exact ar (bK (bF (aH aa1 hr (ag (af 1) (ag (af 12) ah)))) (ar (ay dE)) bh))) bh);apply ao;exact(dN rfl (cm (aE (af 2) aj)) (aq 13 aa2.nd) (ar (bK (f9 (fB (bf (iJ (u4 hr)) (aE (af 13) aj) (af 10)) (ee (bf (iJ (u4 hr)) (aE (af 13) aj) (af 10))))) (ar (ay dE)) bh)));apply ao;exact(aG (cS (aH aa8 hr (ag (af 2) ah)) (de (ej (m8 (il hr)) (aH aab hr (ag (af 2) ah)) (aH aab hr (ag (af 1) ah))))) (aq 14 aa2.nd));exact ar (ay (cS (ej (m8 (il hr)) (aH aa1 hr (ag (af 1) (ag (af 2) ah))) (af 14)) (de (ej (m8 (il hr)) (aH aa1 hr (ag (af 2) (ag (af 1) ah))) (af 14)))))))
abbrev yi:Stmt:=top 69
abbrev DT:List Str:=["_law_script"]
theorem CW:aD DT ["_law_script"] (ak yi):=fL
theorem DP {f:Addr}{fd:JT}(ab6:Fn K mg "law" yi ["_law_script"] f fd)(aav:Cl P w K mg base 16 "_law_known_ones" 0 cz)(aaP:Cl P w K mg base 16 "_law_stands" 1 fm):CH P w K mg base 17 f fd ["_law_script"] 1 m_law:=
 vj ab6.fn CW rfl λc A o s H E hr x=>(ar (ay (cS (EJ aav hr) (de (aH aaP hr (ag (af 0) ah))))))
end
@[elab_as_elim] theorem FX {α:Type} {p:List α->Prop} (h:p []):∀us:List α,us.length=0->p us
 | [],_=>h
@[elab_as_elim] theorem d6 {α:Type} {p:List α->Prop} (h:∀a0,p [a0]):∀us:List α,us.length=1->p us
 | [a0],_=>h a0
@[elab_as_elim] theorem eJ {α:Type} {p:List α->Prop} (h:∀a0 a1,p [a0,a1]):∀us:List α,us.length=2->p us
 | [a0,a1],_=>h a0 a1
@[elab_as_elim] theorem kP {α:Type} {p:List α->Prop} (h:∀a0 a1 a2,p [a0,a1,a2]):∀us:List α,us.length=3->p us
 | [a0,a1,a2],_=>h a0 a1 a2
def asks:xV:=⟨([("is_long",15),("is_whole",13),("is_within",14),("is_pace",18),("rises",16),("are_readings",17),("is_clock",19),("are_clocks",20),("is_event",21),("is_delay",22),("is_letter",23),("are_letters",24),("is_record",25),("need_record",26),("events",29)]:List (Str×Nat))++([("is_better",36),("settle",35),("greatest_world",38),("bounds_of_clock",31),("bounds_of_letter",32),("bounds",33),("world",39),("has_world",40),("need_world",41),("all_letters",51),("walks_from",44),("most_of",45),("all_most",48),("same_worlds",56),("with_only",52)]:List (Str×Nat))++([("without",53),("needless_letters",54),("least_letters",55),("_law_known_ones",67),("_law_cell",61),("_law_drawn",62),("_law_events",65),("_law_letter",64),("_law_clock",63),("_law_record",66),("need_event",27),("need_events",43),("most_between",46),("least_between",47),("if_record",58)]:List (Str×Nat))++([("with_letter",59),("need_number",28),("is_needless",50),("_law_stands",68),("law",69)]:List (Str×Nat)),(["all","bool","dict","enumerate","int","isinstance","len","list","range","tuple"]:List Str),[("MOST_CLOCKS",4),("MOST_LETTERS",8),("MOST_READINGS",4),("LAST_READING",99),("SLOWEST",9),("LONGEST",999)],["ClockError","NoRecord","NoEvent","NoNumber","NoWorld"]⟩
theorem all_ok {l:PySem.W.OpenLaw}{w:JA}{K:HX}{h:Heap}{mg:Str->Option H0}{fa:Addr}(X:K.In h)(e:o5 asks K=oK asks top)(G:h.Ns Jf mg)(hfa:mg "law" =some (.ref fa)) :
  ∃fd:JT,(∀(s:Ib) (v:H0),Oo s fd ⟨[v],[]⟩ [("_law_script",v)])/\∀base:Heap,K.In base->base.Ns Jf mg->pk l.prog w K mg base CX0 17 fa fd ["_law_script"] (spP K 1 m_law):=by
 have B:Bl mg:=⟨gu 0 X G e rfl,gu 1 X G e rfl,gu 2 X G e rfl,gu 3 X G e rfl,gu 4 X G e rfl,gu 5 X G e rfl,gu 6 X G e rfl,gu 7 X G e rfl,gu 8 X G e rfl,gu 9 X G e rfl⟩
 have C:Cs mg:=⟨pM 0 X G e rfl,pM 1 X G e rfl,pM 2 X G e rfl,pM 3 X G e rfl,pM 4 X G e rfl,pM 5 X G e rfl⟩;obtain⟨C_ClockError,ls,xD,xl,nd⟩:=DQ (Ga e);obtain⟨C_NoRecord,ls0,x_NoRecord,rfl,xl0⟩:=jA xl;obtain⟨C_NoEvent,ls1,x_NoEvent,rfl,xl1⟩:=jA xl0;obtain⟨C_NoNumber,ls2,x_NoNumber,rfl,xl2⟩:=jA xl1;obtain⟨C_NoWorld,ls3,x_NoWorld,rfl,xl3⟩:=jA xl2;cases Ad xl3
 have S:Xs K mg C_NoRecord C_NoEvent C_NoNumber C_NoWorld C_ClockError:=⟨LL X G (iM x_NoRecord).1,LL X G (iM x_NoEvent).1,LL X G (iM x_NoNumber).1,LL X G (iM x_NoWorld).1,LL X G (iM xD).1,GD x_NoRecord xD,GD x_NoEvent xD,GD x_NoNumber xD,GD x_NoWorld xD,ox0 xD,nd⟩;obtain⟨fd49,ab6,bnd⟩:=F7 (n:="law") (i:=69) (x:="_law_script") 49 X G e rfl hfa λ_ _ _ _ _ _ _=>rfl
 refine⟨fd49,bnd,λbase _ _=> ?_⟩
 have aa5:=uM l.prog w base (bU 0 X G e rfl λ_ _ _ _ _ _ us hl=>kP (λ_ _ _=>rfl) us hl) B
 have aaZ:=sU l.prog w base (bU 1 X G e rfl λ_ _ _ _ _ _ us hl=>d6 (λ_=>rfl) us hl) B
 have aa3:=qO l.prog w base (bU 2 X G e rfl λ_ _ _ _ _ _ us hl=>kP (λ_ _ _=>rfl) us hl) aaZ
 have ab2:=uL l.prog w base (bU 3 X G e rfl λ_ _ _ _ _ _ us hl=>eJ (λ_ _=>rfl) us hl) aa3 C
 have ab4:=yW l.prog w base (bU 4 X G e rfl λ_ _ _ _ _ _ us hl=>d6 (λ_=>rfl) us hl) B
 have aaG:=l7 l.prog w base (bU 5 X G e rfl λ_ _ _ _ _ _ us hl=>d6 (λ_=>rfl) us hl) aa5 ab4 aa3 B C
 have ab0:=sX l.prog w base (bU 6 X G e rfl λ_ _ _ _ _ _ us hl=>d6 (λ_=>rfl) us hl) aa5 ab2 aaG
 have aaQ:=oY l.prog w base (bU 7 X G e rfl λ_ _ _ _ _ _ us hl=>d6 (λ_=>rfl) us hl) aa5 ab0 B C
 have aan:=sV l.prog w base (bU 8 X G e rfl λ_ _ _ _ _ _ us hl=>eJ (λ_ _=>rfl) us hl) aa3 aa5 B
 have ab1:=sW l.prog w base (bU 9 X G e rfl λ_ _ _ _ _ _ us hl=>eJ (λ_ _=>rfl) us hl) aa3 C
 have aaU:=qQ l.prog w base (bU 10 X G e rfl λ_ _ _ _ _ _ us hl=>eJ (λ_ _=>rfl) us hl) aan aa5 ab1
 have aaI:=nt l.prog w base (bU 11 X G e rfl λ_ _ _ _ _ _ us hl=>eJ (λ_ _=>rfl) us hl) aa5 aaU B C
 have aaV:=qP l.prog w base (bU 12 X G e rfl λ_ _ _ _ _ _ us hl=>d6 (λ_=>rfl) us hl) aa5 aaQ aaI
 have aa4:=ni l.prog w base (bU 13 X G e rfl λ_ _ _ _ _ _ us hl=>d6 (λ_=>rfl) us hl) aaV S
 have aaa:=xb l.prog w base (bU 14 X G e rfl λ_ _ _ _ _ _ us hl=>d6 (λ_=>rfl) us hl) aa4 B
 have aaW:=qR l.prog w base (bU 15 X G e rfl λ_ _ _ _ _ _ us hl=>kP (λ_ _ _=>rfl) us hl)
 have aao:=w9 l.prog w base (bU 16 X G e rfl λ_ _ _ _ _ _ us hl=>eJ (λ_ _=>rfl) us hl) aaW B
 have aaz:=kL l.prog w base (bU 17 X G e rfl λ_ _ _ _ _ _ us hl=>eJ (λ_ _=>rfl) us hl) aaa aao B
 have aau:=kc l.prog w base (bU 18 X G e rfl λ_ _ _ _ _ _ us hl=>eJ (λ_ _=>rfl) us hl) B
 have aar:=jD l.prog w base (bU 19 X G e rfl λ_ _ _ _ _ _ us hl=>d6 (λ_=>rfl) us hl)
 have aad:=xc l.prog w base (bU 20 X G e rfl λ_ _ _ _ _ _ us hl=>d6 (λ_=>rfl) us hl) aa4 aau aar B
 have ab5:=yU l.prog w base (bU 21 X G e rfl λ_ _ _ _ _ _ us hl=>d6 (λ_=>rfl) us hl) aaz aad
 have aa8:=qT l.prog w base (bU 22 X G e rfl λ_ _ _ _ _ _ us hl=>d6 (λ_=>rfl) us hl) ab5
 have aa6:=oV l.prog w base (bU 23 X G e rfl λ_ _ _ _ _ _ us hl=>d6 (λ_=>rfl) us hl) aa8 S
 have aaj:=nu l.prog w base (bU 24 X G e rfl λ_ _ _ _ _ _ us hl=>d6 (λ_=>rfl) us hl) B
 have aal:=oU l.prog w base (bU 25 X G e rfl λ_ _ _ _ _ _ us hl=>eJ (λ_ _=>rfl) us hl) aao aad
 have aaA:=uK l.prog w base (bU 26 X G e rfl λ_ _ _ _ _ _ us hl=>eJ (λ_ _=>rfl) us hl)
 have aab:=sY l.prog w base (bU 27 X G e rfl λ_ _ _ _ _ _ us hl=>d6 (λ_=>rfl) us hl) aa6 aaa aal aaA B
 have aa1:=ng l.prog w base (bU 28 X G e rfl λ_ _ _ _ _ _ us hl=>eJ (λ_ _=>rfl) us hl) aaa aab aa8
 have aaq:=qN l.prog w base (bU 29 X G e rfl λ_ _ _ _ _ _ us hl=>eJ (λ_ _=>rfl) us hl) B
 have aaB:=uJ l.prog w base (bU 30 X G e rfl λ_ _ _ _ _ _ us hl=>eJ (λ_ _=>rfl) us hl)
 have aa7:=jC l.prog w base (bU 31 X G e rfl λ_ _ _ _ _ _ us hl=>d6 (λ_=>rfl) us hl) aa6 aaj aa1 aaq aaB
 have aac:=lb l.prog w base (bU 32 X G e rfl λ_ _ _ _ _ _ us hl=>d6 (λ_=>rfl) us hl) aa6 aaq aa1 aaB aaj B
 have aav:=kf l.prog w base (bU 33 X G e rfl λ_ _ _ _ _ _ us hl=>FX rfl us hl) aa7 aac aa1
 have aaX:=qU l.prog w base (bU 34 X G e rfl λ_ _ _ _ _ _ us hl=>eJ (λ_ _=>rfl) us hl) B
 have aa0:=oZ l.prog w base (bU 35 X G e rfl λ_ _ _ _ _ _ us hl=>kP (λ_ _ _=>rfl) us hl) aaX
 have aaK:=nB l.prog w base (bU 36 X G e rfl λ_ _ _ _ _ _ us hl=>d6 (λ_=>rfl) us hl) B
 have aaL:=nA l.prog w base (bU 37 X G e rfl λ_ _ _ _ _ _ us hl=>kP (λ_ _ _=>rfl) us hl) aaK aa0 B
 have aaR:=o4 l.prog w base (bU 38 X G e rfl λ_ _ _ _ _ _ us hl=>eJ (λ_ _=>rfl) us hl) aa0 B
 have aax:=ny l.prog w base (bU 39 X G e rfl λ_ _ _ _ _ _ us hl=>kP (λ_ _ _=>rfl) us hl) aa0 aaL aaR B
 have aaC:=oX l.prog w base (bU 40 X G e rfl λ_ _ _ _ _ _ us hl=>eJ (λ_ _=>rfl) us hl) aan S
 have aaM:=nq l.prog w base (bU 41 X G e rfl λ_ _ _ _ _ _ us hl=>kP (λ_ _ _=>rfl) us hl) aa4 aaC
 have aah:=l6 l.prog w base (bU 42 X G e rfl λ_ _ _ _ _ _ us hl=>kP (λ_ _ _=>rfl) us hl) aaM aa6 aaA aal
 have aaD:=lg l.prog w base (bU 43 X G e rfl λ_ _ _ _ _ _ us hl=>kP (λ_ _ _=>rfl) us hl) aah
 have aaY:=qS l.prog w base (bU 44 X G e rfl λ_ _ _ _ _ _ us hl=>d6 (λ_=>rfl) us hl) aa4
 have aay:=m9 l.prog w base (bU 45 X G e rfl λ_ _ _ _ _ _ us hl=>eJ (λ_ _=>rfl) us hl) aa4 aaY
 have aaN:=nj l.prog w base (bU 46 X G e rfl λ_ _ _ _ _ _ us hl=>eJ (λ_ _=>rfl) us hl) aa3 S
 have aaO:=nr l.prog w base (bU 47 X G e rfl λ_ _ _ _ _ _ us hl=>eJ (λ_ _=>rfl) us hl) aad aaN aa6 aao B
 have aaP:=nv l.prog w base (bU 48 X G e rfl λ_ _ _ _ _ _ us hl=>d6 (λ_=>rfl) us hl) aax aac aaa aaD aa8 aa1 aah aa0 aay aa7 aab aad aaO B
 exact(DP l.prog w base ab6 aav aaP).h
def vw:IJ:=PySem.W.view Jk [69]
def lse:List Str:=(["ClockError","NoRecord","NoEvent","NoNumber","NoWorld","MOST_CLOCKS","MOST_LETTERS","MOST_READINGS","LAST_READING","SLOWEST","LONGEST","is_whole","is_within","is_long","rises","are_readings","is_pace","is_clock","are_clocks","is_event"]:List Str)++(["is_delay","is_letter","are_letters","is_record","need_record","need_event","need_number","events","bounds_of_clock","bounds_of_letter","bounds","settle","is_better","greatest_world","world","has_world","need_world","need_events","walks_from","most_of"]:List Str)++(["most_between","least_between","all_most","is_needless","all_letters","with_only","without","needless_letters","least_letters","same_worlds","if_record","with_letter","_law_cell","_law_drawn","_law_clock","_law_letter","_law_events","_law_record","_law_known_ones","_law_stands"]:List Str)
def lhs (w:JA)(h:Heap)(d:Drawn)(t:Nat)(os:OsState):=(PySem.W.topFrom treeTable Jk w 9000 ⟨h,⟨[]⟩,d,t,os⟩).map (λs=>(PySem.W.openSeen vw lse (Pc Jk.main.body) (λ_=>true) true s,o5 asks (zH s.heap)))
def rhs (w:JA):=some (PySem.W.openGood vw lse,oK asks top)
theorem lhs_r:lhs=lhs:=rfl
theorem rhs_r:rhs=rhs:=rfl
end G
namespace Tr
open PySem
abbrev RR (cs ls:List T):T:=.tup [.tup cs,.tup ls]
mutual
def T.pl:T->Bool
 | .scr _=>false
 | .dct _ _=>false
 | .tup l=>plS l
 | .lst l=>plS l
 | _=>true
def plS:List T->Bool
 | [] =>true
 | t::l=>t.pl&&plS l
end
theorem gQ:∀{l:List T} {t:T},plS l=true->t∈l->t.pl=true
 | [],_,_,h=>by cases h
 | u::l,t,h,m=>by
  unfold plS at h;rw[HZ]at h;rcases Ij.mp m with rfl | m
  ·exact h.1
  ·exact gQ h.2 m
mutual
theorem T.GM:∀(t:T),t.pl=true->t.nd=true
 | .non,_=>rfl
 | .bl _,_=>rfl
 | .int _,_=>rfl
 | .str _,_=>rfl
 | .scr _,h=>by cases h
 | .dct _ _,h=>by cases h
 | .tup l,h=>by unfold T.pl at h;unfold T.nd;exact plS_nds l h
 | .lst l,h=>by unfold T.pl at h;unfold T.nd;exact plS_nds l h
theorem plS_nds:∀(l:List T),plS l=true->nds l=true
 | [],_=>rfl
 | t::l,h=>by
  unfold plS at h;rw[HZ]at h;unfold nds;rw[T.GM t h.1,plS_nds l h.2];rfl
end
theorem uU {fe:En->Rs T}{h:T->T}:∀(ts:List T) (Z:En),0<Z.length->(∀t∈ts,fe (Z.set 0 (.va t))= .ok (h t))->dg (gN 0) bT fe ts Z= .ok (ts.map h)
 | [],_,_,_=>rfl
 | t::r,Z,hl,hf=>by
  unfold dg
  have e1:gN 0 t Z= .ok (Z.set 0 (.va t)):=by unfold gN;rw[if_pos hl]
  have ih:=uU r (Z.set 0 (.va t)) (by rw[JF];exact hl) (λu hu=>by rw[LD];exact hf u (Ia _ hu))
  simp only[e1,aI,bT,if_true,hf t Ie,ih,Ic]
theorem pK {fc:En->Rs Bool}{fe:En->Rs T}{p:T->Bool}{h:T->T}:∀(ts:List T) (Z:En),0<Z.length->(∀t∈ts,fc (Z.set 0 (.va t))= .ok (p t)/\(p t=true->fe (Z.set 0 (.va t))= .ok (h t)))->dg (gN 0) fc fe ts Z= .ok ((ts.filter p).map h)
 | [],_,_,_=>rfl
 | t::r,Z,hl,hf=>by
  unfold dg
  have e1:gN 0 t Z= .ok (Z.set 0 (.va t)):=by unfold gN;rw[if_pos hl]
  have ih:=pK r (Z.set 0 (.va t)) (by rw[JF];exact hl) (λu hu=>by rw[LD];exact hf u (Ia _ hu))
  obtain⟨h1,h2⟩:=hf t Ie;simp only[e1,aI,h1]
  cases q:p t with
  | true=>simp only[if_true,h2 q,aI,ih,Kv,q,Ic]
  | false=>simp only[Lh,if_false,ih,Kv,q]
theorem qc (p:T->Bool):∀l:List T,oy (l.map λt=>T.bl (p t))=some (l.map p)
 | [] =>rfl
 | t::l=>by rw[Ic,oy,qc p l];rfl
theorem all_map (p:T->Bool)(l:List T):pj [.lst (l.map λt=>T.bl (p t))] = .ok (.bl (l.all p)):=by
 simp only[pj,qc,List.all_map]
 rfl
theorem kn {α:Type}{l:List α}{k:Nat}{t:α}(h:l[k]? =some t):L2.atI l (k:Int)=some t:=by
 have hk:k<l.length:=(IC.mp h).1
 unfold L2.atI L2.ixN;rw[if_pos (by omega),if_pos (by omega),Jw]
 exact h
theorem ax {n k:Nat}(h:n<=k)(hk:k<=1000:=by decide):n<=sizeLine:=by unfold sizeLine;omega
section
variable {f fa fb fc:En->Rs T}{fs:En->Rs (List T)}{b c:En->Rs Bool}{F G:En->Rs Fl}{Z Z' Z1 Z2:En}{t u r:T}{ts l m:List T}
theorem aA {g:T->T->Rs T}{x:Rs T}(ha:fa Z= .ok t)(hb:fb Z= .ok u)(hg:g t u=x):o2 g fa fb Z=x:=by unfold o2;rw[ha,hb];exact hg
theorem xu {g:T->Rs T}{x:Rs T}(ha:fa Z= .ok t)(hg:g t=x):o1 g fa Z=x:=by unfold o1;rw[ha];exact hg
theorem F3 {g:T->T->Rs T}{x:Rs T}{ks vs:List T}(ha:fa Z= .ok (.dct ks vs))(hb:fb Z= .ok u)(hg:g (.dct ks vs) u=x):oD g fa fb Z=x:=by unfold oD;rw[ha];show(fb Z >>= g (.dct ks vs))=_;rw[hb];exact hg
theorem k_oL {g:T->T->Rs T}{x:Rs T}{ks:List T}(ha:fa Z= .ok (.lst ks))(hb:fb Z= .ok u)(hg:g (.lst ks) u=x):oL g fa fb Z=x:=by unfold oL;rw[ha];show(fb Z >>= g (.lst ks))=_;rw[hb];exact hg
theorem au (h:f Z= .ok t)(hs:fs Z= .ok ts):ae f fs Z= .ok (t::ts):=by unfold ae;rw[h,hs];rfl
theorem aJ {g:List T->Rs T}{x:Rs T}(h:fs Z= .ok ts)(hg:g ts=x):cl g fs Z=x:=by unfold cl;rw[h];exact hg
theorem bu {k:Bool}(h:f Z= .ok (.bl k)):tb f Z= .ok k:=by unfold tb;rw[h];rfl
theorem d7 {k:Bool}(h:b Z= .ok k):cM b Z= .ok (!k):=by unfold cM;rw[h];rfl
theorem zv (h:b Z= .ok true):ka b c Z= .ok true:=by unfold ka;rw[h];rfl
theorem gJ {x:Rs Bool}(h:b Z= .ok false)(h2:c Z=x):ka b c Z=x:=by unfold ka;rw[h];exact h2
theorem rC (h:b Z= .ok false):k4 b c Z= .ok false:=by unfold k4;rw[h];rfl
theorem ki {x:Rs Bool}(h:b Z= .ok true)(h2:c Z=x):k4 b c Z=x:=by unfold k4;rw[h];exact h2
theorem n8 (h:fa Z= .ok (.bl true)):bS fa fb Z=fb Z:=by unfold bS;rw[h];rfl
theorem vV (h:fa Z= .ok (.bl false)):bS fa fb Z= .ok (.bl false):=by unfold bS;rw[h];rfl
theorem D8 (h:fa Z= .ok (.bl true)):Am fa fb Z= .ok (.bl true):=by unfold Am;rw[h];rfl
theorem D9 (h:fa Z= .ok (.bl false)):Am fa fb Z=fb Z:=by unfold Am;rw[h];rfl
theorem zw {k:Bool}(h:fa Z= .ok (.bl k)):o1 qW fa Z= .ok (.bl (!k)):=xu h rfl
theorem tS {p:Bool}(h:b Z= .ok p):Cw b fa fb Z=if p then fa Z else fb Z:=by unfold Cw;rw[h];rfl
theorem bL {g:T->En->Rs En}(h:f Z= .ok t)(hg:g t Z= .ok Z'):cu f g Z= .ok (.nx Z'):=by unfold cu;rw[h];show(match g t Z with | .ok Z'=>Rs.ok (Fl.nx Z') | _=> .bad)=_;rw[hg]
theorem az (h:F Z= .ok (.nx Z')):aC F G Z=G Z':=by unfold aC;rw[h];rfl
theorem gq (h:F Z= .ok (.rt t)):aC F G Z= .ok (.rt t):=by unfold aC;rw[h];rfl
theorem zu (h:F Z= .ok (.ct Z')):aC F G Z= .ok (.ct Z'):=by unfold aC;rw[h];rfl
theorem D6 {c:Str}(h:F Z= .err c):aC F G Z= .err c:=by unfold aC;rw[h];rfl
theorem fK (h:b Z= .ok true):eX b F G Z=F Z:=by unfold eX;rw[h];rfl
theorem cJ (h:b Z= .ok false):eX b F G Z=G Z:=by unfold eX;rw[h];rfl
theorem bQ (h:f Z= .ok t):aK f Z= .ok (.rt t):=by unfold aK;rw[h];rfl
theorem D7 {c:Str}(h:f Z= .err c):aK f Z= .err c:=by unfold aK;rw[h];rfl
theorem kS (h:f Z= .ok t):oR f Z= .ok (.nx Z):=by unfold oR;rw[h];rfl
theorem F9 {c:Str}(h:f Z= .err c):oR f Z= .err c:=by unfold oR;rw[h];rfl
theorem gK {fi:En->Rs (List T)}{g:T->En->Rs En}{x:Fl}(h:fi Z= .ok ts)(h2:br g F ts Z= .ok x):ij fi g F Z= .ok x:=by unfold ij;rw[h];show(match br g F ts Z with | .ok f=>Rs.ok f | _=> .bad)=_;rw[h2]
theorem e9 {g:T->En->Rs En}(h:g t Z= .ok Z1)(h2:F Z1= .ok (.nx Z2)):br g F (t::ts) Z=br g F ts Z2:=by rw[br,h];show(F Z1 >>= _)=_;rw[h2];rfl
theorem BG {g:T->En->Rs En}(h:g t Z= .ok Z1)(h2:F Z1= .ok (.ct Z2)):br g F (t::ts) Z=br g F ts Z2:=by rw[br,h];show(F Z1 >>= _)=_;rw[h2];rfl
theorem my {g:T->En->Rs En}(h:g t Z= .ok Z1)(h2:F Z1= .ok (.rt r)):br g F (t::ts) Z= .ok (.rt r):=by rw[br,h];show(F Z1 >>= _)=_;rw[h2];rfl
theorem zq {n:Nat}(h:c Z= .ok false):bN c F (n+1) Z= .ok (.nx Z):=by unfold bN;rw[h]
theorem tO {n:Nat}(h:c Z= .ok true)(h2:F Z= .ok (.nx Z')):bN c F (n+1) Z=bN c F n Z':=by rw[bN,h];simp only[h2]
theorem zp {n:Nat}(h:c Z= .ok true)(h2:F Z= .ok (.rt t)):bN c F (n+1) Z= .ok (.rt t):=by rw[bN,h];simp only[h2]
theorem bz {n m:Nat}(hl:ts.length=n)(h:F (aQ m ts)= .ok (.rt t)):val n m F ts= .ok t:=by unfold val;rw[if_pos hl];unfold bD;rw[h];rfl
theorem uV {n m:Nat}{c:Str}(hl:ts.length=n)(h:F (aQ m ts)= .err c):val n m F ts= .err c:=by unfold val;rw[if_pos hl];unfold bD;rw[h];rfl
theorem n6 {n m:Nat}(hl:ts.length=n)(h:F (aQ m ts)= .ok (.nx Z)):val n m F ts= .ok .non:=by unfold val;rw[if_pos hl];unfold bD;rw[h];rfl
theorem rB {fi:En->Rs (List T)}{src:List (Option Nat)}{fe:En->Rs T}{h:T->T}(hi:fi Z= .ok ts)(hs:ts.length<=sizeLine)(hn:0<src.length)(hf:∀t∈ts,fe ((cj src Z).set 0 (.va t))= .ok (h t)) :
  fA fi src (gN 0) bT fe Z= .ok (.lst (ts.map h)):=by
 have e:=uU (fe:=fe) (h:=h) ts (cj src Z) (by unfold cj;rw[Ig];exact hn) hf
 unfold fA;rw[hi,aI,if_pos hs,e]
theorem zy {fi:En->Rs (List T)}{src:List (Option Nat)}{fc:En->Rs Bool}{fe:En->Rs T}{p:T->Bool}{h:T->T}(hi:fi Z= .ok ts)(hs:ts.length<=sizeLine)(hn:0<src.length)
  (hf:∀t∈ts,fc ((cj src Z).set 0 (.va t))= .ok (p t)/\(p t=true->fe ((cj src Z).set 0 (.va t))= .ok (h t))):fA fi src (gN 0) fc fe Z= .ok (.lst ((ts.filter p).map h)):=by
 have e:=pK (fc:=fc) (fe:=fe) (p:=p) (h:=h) ts (cj src Z) (by unfold cj;rw[Ig];exact hn) hf
 unfold fA;rw[hi,aI,if_pos hs,e]
theorem bJ (h:fs Z= .ok ts)(hl:ts.length<=sizeLine):aO fs Z= .ok (.tup ts):=by unfold aO;rw[h];show jR ts=_;unfold jR;rw[if_pos hl]
theorem ie (h:fs Z= .ok ts)(hl:ts.length<=sizeLine):ff fs Z= .ok (.lst ts):=by unfold ff;rw[h];show jS ts=_;unfold jS;rw[if_pos hl]
theorem zx {f:En->Rs (List T)}{i:Nat}(h:f Z= .ok l)(hi:i<Z.length)(hl:l.length<=1000):iG i f Z= .ok (.nx (Z.set i (.ow (.lst l)))):=by
 unfold iG;rw[h,aI,if_pos ⟨hi,ax hl (by omega)⟩]
theorem uW {i:Nat}(hi:i<Z.length):iG i ai Z= .ok (.nx (Z.set i (.ow (.lst [])))):=zx rfl hi (Kq _)
theorem vU {i:Nat}(h:f Z= .ok t)(hi:Z[i]? =some (.ow (.lst l)))(hl:l.length<=1000):l5 i f Z= .ok (.nx (Z.set i (.ow (.lst (l++ [t]))))):=by
 unfold l5;rw[hi];simp only[h,aI];rw[if_pos (by unfold sizeLine;omega)]
theorem zA {i:Nat}(h:f Z= .ok (.lst m))(hi:Z[i]? =some (.ow (.lst l)))(hl:l.length+m.length<=1000):m4 i f Z= .ok (.nx (Z.set i (.ow (.lst (l++m))))):=by
 unfold m4;rw[hi];simp only[h,aI,Ek];rw[if_pos (by unfold sizeLine;omega)]
theorem BH (h:f Z= .ok (.tup l)):iS f Z= .ok l:=by unfold iS;rw[h];rfl
theorem iX (h:f Z= .ok (.lst l)):iS f Z= .ok l:=by unfold iS;rw[h];rfl
theorem F8 (h:fs Z= .ok [.lst l]):iE fs Z= .ok (bB 0 l):=by unfold iE;rw[h];rfl
theorem cI {n:Nat}(e:l[n]? =some t):aP (.tup l) (.int (n:Int))= .ok t:=by show(match L2.atI l _ with | some t=>Rs.ok t | none=> .bad)=_;rw[kn e]
theorem uX {n:Nat}(e:l[n]? =some t):aP (.lst l) (.int (n:Int))= .ok t:=by show(match L2.atI l _ with | some t=>Rs.ok t | none=> .bad)=_;rw[kn e]
theorem Ea {n:Nat}(h:fa Z= .ok (.tup l))(h2:fb Z= .ok (.int (n:Int)))(e:l[n]? =some t):o2 aP fa fb Z= .ok t:=aA h h2 (cI e)
theorem Cv {n:Nat}(h:fa Z= .ok (.lst l))(h2:fb Z= .ok (.int (n:Int)))(e:l[n]? =some t):o2 aP fa fb Z= .ok t:=aA h h2 (uX e)
theorem zr {fe:En->Rs T}{fl fu:En->Rs (Option Int)}{lo hi:Option Int}(h:fe Z= .ok (.tup l))(h1:fl Z= .ok lo)(h2:fu Z= .ok hi):sl fe fl fu Z= .ok (.tup (jF l lo hi)):=by
 unfold sl;rw[h,h1,h2];rfl
theorem tQ {fe:En->Rs T}{fl fu:En->Rs (Option Int)}{lo hi:Option Int}(h:fe Z= .ok (.lst l))(h1:fl Z= .ok lo)(h2:fu Z= .ok hi):sl fe fl fu Z= .ok (.lst (jF l lo hi)):=by
 unfold sl;rw[h,h1,h2];rfl
theorem tR {i:Int}(h:f Z= .ok (.int i)):pS f Z= .ok (some i):=by unfold pS;rw[h];rfl
theorem i8 (l:List T)(n:Nat):jF l none (some (n:Int))=l.take n:=by
 unfold jF;rw[HT.sIx_none,HT.sIx_nat,List.drop_zero,M8,List.take_eq_take_iff];omega
theorem uc (l:List T)(n:Nat):jF l (some (n:Int)) none=l.drop n:=by
 unfold jF;rw[HT.sIx_none,HT.sIx_nat]
 by_cases h:n<=l.length
 ·rw[O5 h]
  exact List.take_of_length_le (by rw[Ku];omega)
 ·rw[Nat.min_eq_right (by omega),Ls (Il _),Ls (by omega),List.take_nil]
theorem F6 {i:Nat}{o:OT}(hi:Z[i]? =some (.ow o))(h:f (disown i Z)= .ok t)(hk:t.nk o.isD=true):ln i f Z= .ok t:=by
 unfold ln;rw[hi];simp only[h,aI,hk,if_true]
theorem F5 {i:Nat}{k:Bool}(h:b (disown i Z)= .ok k):DV i b Z= .ok k:=h
theorem Gb {i:Nat}{x:Rs Fl}(h:F (disown i Z)=x):qC i F Z=x:=h
end
theorem mk2 (a b:T):jR [a,b] = .ok (.tup [a,b]):=by unfold jR;rw[if_pos (ax (k:=1000) (by simp only[Io,M7];omega))]
theorem kJ (n:Nat):(rng 0 n).length=n:=by unfold rng;rw[Ig,Jx];omega
end Tr
namespace Gr
variable {ν:Type}[DecidableEq ν]
abbrev bw (ν:Type):=List (ν×ν×Int)
inductive Wk (L:bw ν):ν->ν->Int->Prop
 | nil (a:ν):Wk L a a 0
 | step {a b c:ν} {m s:Int}:(a,b,m)∈L->Wk L b c s->Wk L a c (m+s)
theorem Wk.one {L:bw ν}{a b:ν}{m:Int}(h:(a,b,m)∈L):Wk L a b m:=by
 have:=Wk.step h (Wk.nil (L:=L) b)
 rwa [Int.add_zero]at this
theorem Wk.app {L:bw ν}{a b c:ν}{s t:Int}(h:Wk L a b s)(k:Wk L b c t):Wk L a c (s+t):=by
 induction h with
 | nil a=>rwa [Int.zero_add]
 | step e _ ih=>rw[Int.add_assoc];exact .step e (ih k)
theorem Wk.mono {L M:bw ν}(h:∀x∈L,x∈M){a b:ν}{s:Int}(w:Wk L a b s):Wk M a b s:=by
 induction w with
 | nil a=>exact .nil a
 | step e _ ih=>exact .step (h _ e) ih
def Holds (L:bw ν)(t:ν->Int):Prop:=∀a b m,(a,b,m)∈L->t b - t a<=m
theorem Holds.walk {L:bw ν}{t:ν->Int}(h:Holds L t){a b:ν}{s:Int}(w:Wk L a b s):t b - t a<=s:=by
 induction w with
 | nil a=>omega
 | step e _ ih=>have:=h _ _ _ e;omega
def NoNeg (L:bw ν):Prop:=∀a s,Wk L a a s->0<=s
theorem Holds.Ha {L:bw ν}{t:ν->Int}(h:Holds L t):NoNeg L:=λa s w=>by have:=h.walk w;omega
theorem NoNeg.mono {L M:bw ν}(h:∀x∈L,x∈M)(n:NoNeg M):NoNeg L:=λa s w=>n a s (w.mono h)
def Ch (L:bw ν):ν->List Nat->ν->Prop
 | a,[],b=>a=b
 | a,k::r,b=> ∃c m,L[k]? =some (a,c,m)/\Ch L c r b
def most (L:bw ν)(k:Nat):Int:=match L[k]? with
 | some x=>x.2.2
 | none=>0
def c8 (L:bw ν):List Nat->Int
 | [] =>0
 | k::r=>most L k+c8 L r
theorem je (L:bw ν):∀(p q:List Nat),c8 L (p++q)=c8 L p+c8 L q
 | [],q=>by simp[c8]
 | k::p,q=>by rw[LI,c8,c8,je L p q];omega
theorem Ch.wk {L:bw ν}:∀{ks:List Nat} {a b:ν},Ch L a ks b->Wk L a b (c8 L ks)
 | [],a,b,h=>by cases h;exact .nil a
 | k::r,a,b,⟨c,m,e,h⟩=>by
  have:c8 L (k::r)=m+c8 L r:=by rw[c8,most,e]
  rw[this];exact .step (Jg e) h.wk
theorem Wk.ch {L:bw ν}{a b:ν}{s:Int}(w:Wk L a b s):∃ks,Ch L a ks b/\c8 L ks=s:=by
 induction w with
 | nil a=>exact⟨[],rfl,rfl⟩
 | step e _ ih=>
  obtain⟨ks,h1,h2⟩:=ih;obtain⟨k,hk⟩:=List.getElem?_of_mem e
  refine⟨k::ks,⟨_,_,hk,h1⟩,?_⟩
  rw[c8,most,hk,h2]
theorem Ch.app {L:bw ν}:∀{p q:List Nat} {a b c:ν},Ch L a p b->Ch L b q c->Ch L a (p++q) c
 | [],q,a,b,c,h,k=>by cases h;exact k
 | x::p,q,a,b,c,⟨d,m,e,h⟩,k=>⟨d,m,e,Ch.app h k⟩
theorem Ch.split {L:bw ν}:∀{p q:List Nat} {a c:ν},Ch L a (p++q) c->∃b,Ch L a p b/\Ch L b q c
 | [],q,a,c,h=>⟨a,rfl,h⟩
 | x::p,q,a,c,⟨d,m,e,h⟩=>by
  obtain⟨b,h1,h2⟩:=Ch.split (p:=p) h;exact⟨b,⟨d,m,e,h1⟩,h2⟩
theorem Ch.lt {L:bw ν}:∀{ks:List Nat} {a b:ν},Ch L a ks b->∀k∈ks,k<L.length
 | [],_,_,_,k,hk=>by simp at hk
 | x::r,a,b,⟨c,m,e,h⟩,k,hk=>by
  rcases Ij.mp hk with rfl | hk
  ·exact(IC.mp e).1
  ·exact h.lt k hk
theorem Ch.snoc {L:bw ν}{p:List Nat}{k:Nat}{a b c:ν}{m:Int}(h:Ch L a p b)(e:L[k]? =some (b,c,m)):Ch L a (p++ [k]) c:=h.app ⟨c,m,e,rfl⟩
def src (L:bw ν)(k:Nat):Option ν:=(L[k]?).map (·.1)
abbrev bY (ν:Type):=ν->Option (Int×List Nat)
def put (b:bY ν)(v:ν)(x:Int×List Nat):bY ν:=λu=>if u=v then some x else b u
theorem eC {b:bY ν}{v:ν}{x:Int×List Nat}:put b v x v=some x:=by unfold put;rw[if_pos rfl]
theorem jZ {b:bY ν}{u v:ν}{x:Int×List Nat}(h:u≠v):put b v x u=b u:=by unfold put;rw[if_neg h]
def eV (L:bw ν)(ks:List Nat):List ν:=ks.filterMap (src L)
def eM (b:bY ν)(v:ν)(d:Int):Bool:=match b v with
 | none=>true
 | some x=>decide (d<x.1)
def gH (L:bw ν)(b:bY ν)(k:Nat)(x:ν×ν×Int):Sum (Option (bY ν)) (List Nat):=match b x.1 with
 | none=> .inl none
 | some (d,w)=>if eM b x.2.1 (d+x.2.2)=true then
   if x.2.1∈eV L (w++ [k])then .inr ((w++ [k]).drop ((eV L (w++ [k])).idxOf x.2.1))else .inl (some (put b x.2.1 (d+x.2.2,w++ [k])))
  else .inl none
def hW (L:bw ν):Nat->bw ν->bY ν->Bool->Sum (bY ν×Bool) (List Nat)
 | _,[],b,mv=> .inl (b,mv)
 | k,x::r,b,mv=>match gH L b k x with
  | .inr q=> .inr q
  | .inl none=>hW L (k+1) r b mv
  | .inl (some b')=>hW L (k+1) r b' true
def settle (L:bw ν):Nat->bY ν->Option (Sum (bY ν) (List Nat))
 | 0,_=>none
 | n+1,b=>match hW L 0 L b false with
  | .inr q=>some (.inr q)
  | .inl (b',true)=>settle L n b'
  | .inl (b',false)=>some (.inl b')
theorem qK (L:bw ν)(p q:List Nat):eV L (p++q)=eV L p++eV L q:=by unfold eV;rw[List.filterMap_append]
theorem qJ {L:bw ν}{k:Nat}{x:ν×ν×Int}(e:L[k]? =some x):eV L [k] = [x.1]:=by unfold eV src;simp[e]
theorem Ch.GW {L:bw ν}{k:Nat}{r:List Nat}{a b:ν}(h:Ch L a (k::r) b):eV L (k::r)=a::eV L r:=by
 obtain⟨c,m,e,_⟩:=h;rw[show k::r= [k] ++r from rfl,qK,qJ e];rfl
theorem Ch.cut {L:bw ν}{v:ν}:∀{ks:List Nat} {a b:ν},Ch L a ks b->v∈eV L ks->Ch L a (ks.take ((eV L ks).idxOf v)) v/\Ch L v (ks.drop ((eV L ks).idxOf v)) b/\(eV L ks).idxOf v<ks.length
 | [],a,b,_,hv=>by simp[eV]at hv
 | k::r,a,b,h,hv=>by
  rw[h.GW]at hv ⊢
  have h0:=h;obtain⟨c,m,e,h⟩:=h
  by_cases z:a=v
  ·subst z
   rw[List.idxOf_cons_self];exact⟨rfl,h0,by simp⟩
  ·have hv':v∈eV L r:=by
    rcases Ij.mp hv with q | q
    ·exact absurd q.symm z
    ·exact q
   obtain⟨h1,h2,h3⟩:=h.cut hv'
   have ei:(a::eV L r).idxOf v=(eV L r).idxOf v+1:=by
    rw[O6]
    have:(a == v)=false:=by rw[beq_eq_false_iff_ne];exact z
    rw[this];rfl
   rw[ei];exact⟨⟨c,m,e,h1⟩,h2,by simpa using h3⟩
structure Kept (L:bw ν)(S:List ν)(b:bY ν):Prop where
 walk:∀v d w,b v=some (d,w)->∃s∈S,Ch L s w v/\c8 L w=d/\v∉eV L w/\(eV L w).Nodup/\∀p q u,w=p++q->Ch L s p u->∃d' w',b u=some (d',w')/\d'<=c8 L p
 start:∀s∈S,∃d w,b s=some (d,w)/\d<=0
theorem Kept.put {L:bw ν}{S:List ν}{b:bY ν}(K:Kept L S b){k:Nat}{a c:ν}{m d:Int}{w:List Nat}(e:L[k]? =some (a,c,m))(ha:b a=some (d,w))(hb:eM b c (d+m)=true)(hn:c∉eV L (w++ [k])) :
  Kept L S (put b c (d+m,w++ [k])):=by
 have low:∀u d' w',b u=some (d',w')->∃d'' w'',Gr.put b c (d+m,w++ [k]) u=some (d'',w'')/\d''<=d':=λu d' w' h=>by
  by_cases z:u=c
  ·subst z
   refine⟨_,_,eC,?_⟩
   unfold eM at hb;rw[h]at hb
   have:=of_decide_eq_true hb;omega
  ·exact⟨d',w',by rw[jZ z];exact h,JR _⟩
 obtain⟨s,hs,h1,h2,h3,h4,h5⟩:=K.walk a d w ha
 have hch:Ch L s (w++ [k]) c:=h1.snoc e
 have hcost:c8 L (w++ [k])=d+m:=by rw[je,h2,c8,c8,most,e];simp
 refine⟨λv d' w' h=> ?_,λs' hs'=> ?_⟩
 ·by_cases z:v=c
  ·subst z
   rw[eC]at h;cases h;refine⟨s,hs,hch,hcost,hn,?_,λp q u hpq hp=> ?_⟩
   ·rw[qK,qJ e]
    exact JQ.mpr ⟨h4,by simp,λx hx y hy=>by simp at hy;subst hy;exact λz=>h3 (z▸hx)⟩
   ·by_cases hq:q= []
    ·subst hq
     rw[JE]at hpq;subst hpq
     have:u=v:=by
      clear low hb hn h5
      have aux:∀{ks:List Nat} {x y z:ν},Ch L x ks y->Ch L x ks z->y=z:=by
       intro ks
       induction ks with
       | nil=>intro x y z h1 h2;cases h1;cases h2;rfl
       | cons k r ih=>
        rintro x y z ⟨c1,m1,e1,r1⟩ ⟨c2,m2,e2,r2⟩
        rw[e1]at e2;cases e2;exact ih r1 r2
      exact aux hp hch
     subst this;exact⟨_,_,eC,by rw[hcost];exact JR _⟩
    ·have hw:∃q',w=p++q':=by
      refine⟨q.dropLast,?_⟩
      have:=congrArg List.dropLast hpq;rw[List.dropLast_concat,List.dropLast_append_of_ne_nil hq]at this;exact this
     obtain⟨q',hw⟩:=hw;obtain⟨d1,w1,e1,l1⟩:=h5 p q' u hw hp;obtain⟨d2,w2,e2,l2⟩:=low u d1 w1 e1;exact⟨d2,w2,e2,by omega⟩
  ·rw[jZ z]at h
   obtain⟨s',hs',g1,g2,g3,g4,g5⟩:=K.walk v d' w' h;refine⟨s',hs',g1,g2,g3,g4,λp q u hpq hp=> ?_⟩
   obtain⟨d1,w1,e1,l1⟩:=g5 p q u hpq hp;obtain⟨d2,w2,e2,l2⟩:=low u d1 w1 e1;exact⟨d2,w2,e2,by omega⟩
 ·obtain⟨d1,w1,e1,l1⟩:=K.start s' hs'
  obtain⟨d2,w2,e2,l2⟩:=low s' d1 w1 e1;exact⟨d2,w2,e2,by omega⟩
def Bar (L:bw ν)(q:List Nat):Prop:=q≠ []/\(∃a,Ch L a q a)/\c8 L q<0/\(eV L q).Nodup
theorem Ch.G7 {L:bw ν}:∀{ks:List Nat} {a b:ν} (i:Nat),Ch L a ks b->eV L (ks.drop i)=(eV L ks).drop i
 | [],_,_,i,_=>by simp[eV]
 | k::r,a,b,0,_=>rfl
 | k::r,a,b,i+1,h=>by
  have:=h;obtain⟨c,m,e,h'⟩:=this;rw[h.GW,NI,NI,h'.G7 i]
theorem Kept.round {L:bw ν}{S:List ν}{b:bY ν}(K:Kept L S b){k:Nat}{a c:ν}{m d:Int}{w:List Nat}(e:L[k]? =some (a,c,m))(ha:b a=some (d,w))(hb:eM b c (d+m)=true)(hn:c∈eV L (w++ [k])) :
  Bar L ((w++ [k]).drop ((eV L (w++ [k])).idxOf c)):=by
 obtain⟨s,hs,h1,h2,h3,h4,h5⟩:=K.walk a d w ha
 have hch:Ch L s (w++ [k]) c:=h1.snoc e
 have hcost:c8 L (w++ [k])=d+m:=by rw[je,h2,c8,c8,most,e];simp
 obtain⟨c1,c2,c3⟩:=hch.cut hn
 generalize hi:(eV L (w++ [k])).idxOf c=i at c1 c2 c3
 refine⟨λz=> ?_,⟨c,c2⟩,?_,?_⟩
 ·have:=congrArg KG z
  rw[Ku]at this
  simp at this c3
  omega
 ·have hsum:c8 L ((w++ [k]).take i)+c8 L ((w++ [k]).drop i)=d+m:=by rw[<-je,LF,hcost]
  have hiw:i<=w.length:=by simp at c3;omega
  have ht:(w++ [k]).take i=w.take i:=by rw[List.take_append_of_le_length hiw]
  rw[ht]at c1 hsum;obtain⟨d1,w1,e1,l1⟩:=h5 (w.take i) (w.drop i) c (LF i w).symm c1;unfold eM at hb;rw[e1]at hb
  have:=of_decide_eq_true hb;simp only at this;omega
 ·rw[hch.G7,qK,qJ e]
  refine(List.drop_sublist _ _).nodup (JQ.mpr ⟨h4,by simp,λx hx y hy=> ?_⟩)
  rw[Iv.mp hy];exact λz=>h3 (by have z:x=a:=z;rw[<-z];exact hx)
def size (L:bw ν):Nat:=(L.map λx=>x.2.2.natAbs).sum
theorem jI {f:Nat->Nat}:∀{ks rs:List Nat},ks.Nodup->(∀k∈ks,k∈rs)->(ks.map f).sum<=(rs.map f).sum
 | [],rs,_,_=>by simp
 | k::ks,rs,hn,hs=>by
  have hk:k∈rs:=hs k Ie;rw[IT]at hn
  have hp:=List.perm_cons_erase hk
  have e:(rs.map f).sum=f k+((rs.erase k).map f).sum:=by
   have:=(hp.map f).sum_nat
   rwa [Ic,J2]at this
  rw[e,Ic,J2]
  have:=jI (f:=f) hn.2 (rs:=rs.erase k) λj hj=>by
   have h1:=hs j (Ia _ hj);exact(Nu (λ(z:j=k)=>hn.1 (z▸hj))).mpr h1
  omega
theorem uw (L:bw ν):size L=((Iw L.length).map λk=>(most L k).natAbs).sum:=by
 unfold size
 congr 1
 apply List.ext_getElem
 ·simp
 ·intro i h1 h2
  simp only[MP,List.getElem_range];unfold most;rw[Ir (by simpa using h1)]
theorem wo (L:bw ν):∀(ks:List Nat),(c8 L ks).natAbs<=(ks.map λk=>(most L k).natAbs).sum
 | [] =>by simp[c8]
 | k::r=>by
  have:=wo L r;rw[c8,Ic,J2];omega
theorem Ch.nodup {L:bw ν}:∀{ks:List Nat} {a b:ν},Ch L a ks b->(eV L ks).Nodup->ks.Nodup
 | [],_,_,_,_=>Kz
 | k::r,a,b,h,hn=>by
  have h0:=h;rw[h.GW,IT]at hn;obtain⟨c,m,e,h⟩:=h;rw[IT];refine⟨λhk=>hn.1 ?_,h.nodup hn.2⟩
  unfold eV src;exact Mf.mpr ⟨k,hk,by rw[e];rfl⟩
theorem Ch.small {L:bw ν}{ks:List Nat}{a b:ν}(h:Ch L a ks b)(hn:(eV L ks).Nodup):(c8 L ks).natAbs<=size L:=by
 rw[uw];exact IQ (wo L ks) (jI (h.nodup hn) λk hk=>Ji.mpr (h.lt k hk))
def val (M:Nat)(b:bY ν)(v:ν):Nat:=match b v with
 | none=>2*M+1
 | some x=>(x.1+M).toNat
def left (M:Nat)(b:bY ν)(L:bw ν):Nat:=(L.map λx=>val M b x.2.1).sum
theorem vN {M:Nat}{b b':bY ν}:∀{L:bw ν},(∀x∈L,val M b' x.2.1<=val M b x.2.1)->left M b' L<=left M b L
 | [],_=>by simp[left]
 | x::L,h=>by
  have h1:=h x Ie
  have h2:=vN (L:=L) λy hy=>h y (Ia _ hy)
  unfold left at h2 ⊢;rw[Ic,J2,Ic,J2];omega
theorem vM {M:Nat}{b b':bY ν}{x:ν×ν×Int}:∀{L:bw ν},x∈L->(∀x∈L,val M b' x.2.1<=val M b x.2.1)->val M b' x.2.1<val M b x.2.1->left M b' L<left M b L
 | [],hx,_,_=>by simp at hx
 | y::L,hx,h,hl=>by
  have h1:=h y Ie
  have h2:=vN (L:=L) λy hy=>h y (Ia _ hy)
  unfold left at h2 ⊢;rw[Ic,J2,Ic,J2];rcases Ij.mp hx with rfl | hx
  ·omega
  ·have h3:=vM (L:=L) hx (λy hy=>h y (Ia _ hy)) hl
   unfold left at h3;omega
theorem zf {L:bw ν}{S:List ν}{b:bY ν}(K:Kept L S b){k:Nat}{a c:ν}{m d:Int}{w:List Nat}(e:L[k]? =some (a,c,m))(ha:b a=some (d,w))(hb:eM b c (d+m)=true)(hn:c∉eV L (w++ [k])) :
  left (size L) (put b c (d+m,w++ [k])) L<left (size L) b L:=by
 have K':=K.put e ha hb hn;obtain⟨s,hs,h1,h2,h3,h4,h5⟩:=K'.walk c (d+m) (w++ [k]) eC
 have sm:=h1.small h4;rw[h2]at sm
 have lt:val (size L) (put b c (d+m,w++ [k])) c<val (size L) b c:=by
  unfold val eM at*;rw[eC]
  cases z:b c with
  | none=>simp only;omega
  | some y=>
   rw[z]at hb
   have hb:=of_decide_eq_true hb;simp only;omega
 refine vM (x:=(a,c,m)) (Jg e) (λy _=> ?_) lt
 by_cases z:y.2.1=c
 ·rw[z];exact KF lt
 ·unfold val;rw[jZ z];exact Il _
def Ag (b:bY ν)(x:ν×ν×Int):Prop:=∀d w,b x.1=some (d,w)->∃d' w',b x.2.1=some (d',w')/\d'<=d+x.2.2
theorem yh {b:bY ν}{x:ν×ν×Int}(h:∀d w,b x.1=some (d,w)->eM b x.2.1 (d+x.2.2)=false):Ag b x:=λd w e=>by
 have:=h d w e;unfold eM at this
 cases z:b x.2.1 with
 | none=>rw[z]at this;cases this
 | some y=>
  rw[z]at this
  have:=of_decide_eq_false this;exact⟨y.1,y.2,rfl,by omega⟩
theorem ir {L:bw ν}{S:List ν}:∀(r:bw ν) (k:Nat) (b:bY ν) (mv:Bool),L.drop k=r->Kept L S b->match hW L k r b mv with
  | .inr q=>Bar L q
  | .inl (b',mv')=>Kept L S b'/\(mv'=false->mv=false/\b'=b/\∀x∈r,Ag b x)/\left (size L) b' L<=left (size L) b L/\(mv'=true->mv=true\/left (size L) b' L<left (size L) b L)
 | [],k,b,mv,_,K=>⟨K,λh=>⟨h,rfl,λx hx=>by simp at hx⟩,Il _,λh=> .inl h⟩
 | x::r,k,b,mv,hr,K=>by
  have e:L[k]? =some x:=by
   have:=congrArg (·[0]?) hr
   simpa using this
  have hr':L.drop (k+1)=r:=by
   have:=congrArg (List.drop 1) hr
   simpa [List.drop_drop,Ou]using this
  rw[hW];obtain⟨a,c,m⟩:=x;unfold gH
  cases z:b a with
  | none=>
   simp only[z]
   have ih:=ir r (k+1) b mv hr' K
   revert ih
   generalize hW L (k+1) r b mv=R
   cases R with
   | inr q=>exact id
   | inl p=>
    obtain⟨b',mv'⟩:=p
    rintro ⟨i1,i2,i3,i4⟩
    refine⟨i1,λh=> ?_,i3,i4⟩
    obtain⟨j1,j2,j3⟩:=i2 h;refine⟨j1,j2,λx hx=> ?_⟩
    rcases Ij.mp hx with rfl | hx
    ·intro d w q;rw[z]at q;cases q
    ·exact j3 x hx
  | some y=>
   obtain⟨d,w⟩:=y;simp only[z]
   by_cases hb:eM b c (d+m)=true
   ·rw[if_pos hb]
    by_cases hn:c∈eV L (w++ [k])
    ·rw[if_pos hn]
     exact K.round e z hb hn
    ·rw[if_neg hn]
     have K':=K.put e z hb hn
     have lt:=zf K e z hb hn
     have ih:=ir r (k+1) (put b c (d+m,w++ [k])) true hr' K'
     revert ih
     simp only
     generalize hW L (k+1) r (put b c (d+m,w++ [k])) true=R
     cases R with
     | inr q=>exact id
     | inl p=>
      obtain⟨b',mv'⟩:=p
      rintro ⟨i1,i2,i3,i4⟩
      refine⟨i1,λh=> ?_,by omega,λ_=> .inr (by omega)⟩
      obtain⟨j1,_⟩:=i2 h;cases j1
   ·rw[if_neg hb]
    have ih:=ir r (k+1) b mv hr' K
    revert ih
    simp only
    generalize hW L (k+1) r b mv=R
    cases R with
    | inr q=>exact id
    | inl p=>
     obtain⟨b',mv'⟩:=p
     rintro ⟨i1,i2,i3,i4⟩
     refine⟨i1,λh=> ?_,i3,i4⟩
     obtain⟨j1,j2,j3⟩:=i2 h;refine⟨j1,j2,λx hx=> ?_⟩
     rcases Ij.mp hx with rfl | hx
     ·refine yh λd' w' q=> ?_
      simp only at q;rw[z]at q;cases q
      simpa using hb
     ·exact j3 x hx
structure Settled (L:bw ν)(S:List ν)(b:bY ν):Prop where
 walk:∀v d w,b v=some (d,w)->∃s∈S,Ch L s w v/\c8 L w=d/\v∉eV L w/\(eV L w).Nodup
 least:∀s∈S,∀v t,Wk L s v t->∃d w,b v=some (d,w)/\d<=t
theorem uz {L:bw ν}{S:List ν}{b:bY ν}(K:Kept L S b)(h:∀x∈L,Ag b x):Settled L S b where
 walk:=λv d w e=>by
  obtain⟨s,h1,h2,h3,h4,h5,_⟩:=K.walk v d w e;exact⟨s,h1,h2,h3,h4,h5⟩
 least:=by
  have go:∀{u v:ν} {t:Int},Wk L u v t->∀d w,b u=some (d,w)->∃d' w',b v=some (d',w')/\d'<=d+t:=by
   intro u v t hw
   induction hw with
   | nil a=>exact λd w e=>⟨d,w,e,by omega⟩
   | step e _ ih=>
    intro d w q;obtain⟨d1,w1,e1,l1⟩:=h _ e d w q;obtain⟨d2,w2,e2,l2⟩:=ih d1 w1 e1;exact⟨d2,w2,e2,by simp only at l1;omega⟩
  intro s hs v t hw;obtain⟨d,w,e,l⟩:=K.start s hs;obtain⟨d2,w2,e2,l2⟩:=go hw d w e;exact⟨d2,w2,e2,by omega⟩
theorem pB {L:bw ν}{S:List ν}:∀(n:Nat) (b:bY ν),Kept L S b->left (size L) b L<n->∃r,settle L n b=some r/\match r with
  | .inr q=>Bar L q
  | .inl b'=>Settled L S b'
 | 0,b,K,h=>by omega
 | n+1,b,K,h=>by
  have s:=ir (S:=S) L 0 b false rfl K;rw[settle]
  revert s
  generalize hW L 0 L b false=R
  cases R with
  | inr q=>exact λs=>⟨_,rfl,s⟩
  | inl p=>
   obtain⟨b',mv'⟩:=p
   rintro ⟨i1,i2,i3,i4⟩
   cases mv' with
   | false=>
    obtain⟨_,j2,j3⟩:=i2 rfl;subst j2
    exact⟨_,rfl,uz i1 j3⟩
   | true=>
    rcases i4 rfl with z | z
    ·cases z
    ·exact pB n b' i1 (by omega)
def start (S:List ν):bY ν:=λv=>if v∈S then some (0,[])else none
theorem n5 (L:bw ν)(S:List ν):Kept L S (start S) where
 walk:=λv d w e=>by
  unfold start at e
  split at e
  ·rename_i h
   cases e;refine⟨v,h,rfl,rfl,by simp[eV],by simp[eV],λp q u hpq hp=> ?_⟩
   obtain⟨rfl,rfl⟩:=List.append_eq_nil_iff.mp hpq.symm;cases hp;exact⟨0,[],by unfold start;rw[if_pos h],by simp[c8]⟩
  ·cases e
 start:=λs hs=>⟨0,[],by unfold start;rw[if_pos hs],JR _⟩
theorem zg (L:bw ν)(S:List ν):left (size L) (start S) L<=L.length*(2*size L+1):=by
 unfold left
 have:∀M:bw ν,(M.map λx=>val (size L) (start S) x.2.1).sum<=M.length*(2*size L+1):=by
  intro M
  induction M with
  | nil=>simp
  | cons x M ih=>
   rw[Ic,J2,Io,Nat.succ_mul]
   have:val (size L) (start S) x.2.1<=2*size L+1:=by
    unfold val start;split
    ·exact Il _
    ·rename_i h
     split at h
     ·cases h;simp;omega
     ·cases h
   omega
 exact this L
theorem uA (L:bw ν)(S:List ν){n:Nat}(h:L.length*(2*size L+1)<n):∃r,settle L n (start S)=some r/\match r with
  | .inr q=>Bar L q
  | .inl b'=>Settled L S b':=pB n (start S) (n5 L S) (Mg (zg L S) h)
theorem Bar.neg {L:bw ν}{q:List Nat}(h:Bar L q):¬ NoNeg L:=λn=>by
 obtain⟨_,⟨a,ha⟩,hc,_⟩:=h
 have:=n a _ ha.wk;omega
theorem Settled.holds {L:bw ν}{S:List ν}{b:bY ν}(h:Settled L S b)(hS:∀x∈L,x.1∈S/\x.2.1∈S){t:ν->Int}(ht:∀v∈S,∃w,b v=some (t v,w)):Holds L t:=λa c m hx=>by
 obtain⟨ha,hc⟩:=hS _ hx;obtain⟨w,e⟩:=ht a ha;obtain⟨s,hs,h1,h2,_⟩:=h.walk a _ _ e;obtain⟨d,w',e',l⟩:=h.least s hs c _ (h1.wk.app (.one hx));obtain⟨w2,e2⟩:=ht c hc;rw[e2]at e';cases e';omega
inductive Pth (L:bw ν):ν->List ν->ν->Int->Prop
 | one {a b:ν} {m:Int}:(a,b,m)∈L->Pth L a [] b m
 | cons {a x b:ν} {ms:List ν} {m s:Int}:(a,x,m)∈L->Pth L x ms b s->Pth L a (x::ms) b (m+s)
theorem Pth.cut {L:bw ν}{x:ν}{q:List ν}:∀{p:List ν} {a b:ν} {s:Int},Pth L a (p++x::q) b s->∃s1 s2,Pth L a p x s1/\Pth L x q b s2/\s=s1+s2
 | [],a,b,s,h=>by
  cases h with
  | cons e h=>exact⟨_,_,.one e,h,rfl⟩
 | y::p,a,b,s,h=>by
  cases h with
  | cons e h=>
   obtain⟨s1,s2,h1,h2,h3⟩:=Pth.cut h;exact⟨_,s2,.cons e h1,h2,by omega⟩
def EB (L:bw ν)(u v:ν)(s:Int):Prop:=(u=v/\s=0)\/(u≠v/\∃ms,Pth L u ms v s/\ms.Nodup/\u∉ms/\v∉ms)
def Ai (L:bw ν):Prop:=∃x ms s,Pth L x ms x s/\ms.Nodup/\x∉ms/\s<0
theorem Wk.simple {L:bw ν}{u v:ν}{s:Int}(w:Wk L u v s):Ai L\/∃s',s'<=s/\EB L u v s':=by
 induction w with
 | nil a=>exact .inr ⟨0,JR _,.inl ⟨rfl,rfl⟩⟩
 | @step a b c m s e w ih=>
  rcases ih with ih | ⟨s',hs,ih⟩
  ·exact .inl ih
  by_cases hab:a=b
  ·subst hab
   by_cases hm:m<0
   ·exact .inl ⟨a,[],m,.one e,Kz,by simp,hm⟩
   ·exact .inr ⟨s',by omega,ih⟩
  rcases ih with⟨rfl,rfl⟩ | ⟨hbc,ms,hp,hn,hb,hc⟩
  ·exact .inr ⟨m,by omega,.inr ⟨hab,[],.one e,Kz,by simp,by simp⟩⟩
  by_cases hac:a=c
  ·subst hac
   by_cases hm:m+s'<0
   ·exact .inl ⟨a,b::ms,m+s',.cons e hp,IT.mpr ⟨hb,hn⟩,by simp[hab,hc],hm⟩
   ·exact .inr ⟨0,by omega,.inl ⟨rfl,rfl⟩⟩
  by_cases ham:a∈ms
  ·obtain⟨p,q,rfl⟩:=Mi ham
   obtain⟨s1,s2,h1,h2,h3⟩:=hp.cut;rw[JQ]at hn;obtain⟨n1,n2,n3⟩:=hn;rw[IT]at n2
   have hap:a∉p:=λz=>n3 a z a Ie rfl
   by_cases hm:m+s1<0
   ·refine .inl ⟨a,b::p,m+s1,.cons e h1,IT.mpr ⟨λz=>hb (Ja _ z),n1⟩,by simp[hab,hap],hm⟩
   ·exact .inr ⟨s2,by omega,.inr ⟨hac,q,h2,n2.2,n2.1,λz=>hc (Iy _ (Ia _ z))⟩⟩
  ·refine .inr ⟨m+s',by omega,.inr ⟨hac,b::ms,.cons e hp,IT.mpr ⟨hb,hn⟩,by simp[hab,ham],?_⟩⟩
   simp only[Ij,not_or];exact⟨λz=>hbc z.symm,hc⟩
abbrev dS (ν:Type):=ν->ν->Option Int
def tV (f:dS ν)(a b:ν)(x:Int):dS ν:=λu v=>if u=a/\v=b then some x else f u v
def rJ (f:dS ν)(a b:ν)(x:Int):dS ν:=match f a b with
 | none=>tV f a b x
 | some y=>if x<y then tV f a b x else f
def oa (mid one other:ν)(f:dS ν):dS ν:=match f one mid,f mid other with
 | some x,some y=>rJ f one other (x+y)
 | _,_=>f
def wO (P:List ν):dS ν:=λu v=>if u∈P/\u=v then some 0 else none
def Az (P:List ν)(L:bw ν):dS ν:=L.foldl (λf x=>rJ f x.1 x.2.1 x.2.2) (wO P)
def mB (mid one:ν)(P:List ν)(f:dS ν):dS ν:=P.foldl (λf other=>oa mid one other f) f
def pR (mid:ν)(Q P:List ν)(f:dS ν):dS ν:=Q.foldl (λf one=>mB mid one P f) f
def v8 (M P:List ν)(f:dS ν):dS ν:=M.foldl (λf mid=>pR mid P P f) f
def table (P:List ν)(L:bw ν):dS ν:=v8 P P (Az P L)
def Le (f g:dS ν):Prop:=∀u v x,g u v=some x->∃y,f u v=some y/\y<=x
theorem Le.refl (f:dS ν):Le f f:=λu v x h=>⟨x,h,JR _⟩
theorem Le.trans {f g h:dS ν}(a:Le f g)(b:Le g h):Le f h:=λu v x e=>by
 obtain⟨y,e1,l1⟩:=b u v x e;obtain⟨z,e2,l2⟩:=a u v y e1;exact⟨z,e2,by omega⟩
theorem lD {f:dS ν}{a b:ν}{x:Int}:tV f a b x a b=some x:=by unfold tV;rw[if_pos ⟨rfl,rfl⟩]
theorem rH (f:dS ν)(a b:ν)(x:Int):Le (rJ f a b x) f:=λu v y e=>by
 unfold rJ
 cases q:f a b with
 | none=>
  by_cases z:u=a/\v=b
  ·obtain⟨rfl,rfl⟩:=z;rw[q]at e;cases e
  ·exact⟨y,by simp only;unfold tV;rw[if_neg z];exact e,JR _⟩
 | some y0=>
  simp only;split
  ·by_cases z:u=a/\v=b
   ·obtain⟨rfl,rfl⟩:=z;rw[q]at e;cases e
    exact⟨x,lD,by omega⟩
   ·exact⟨y,by unfold tV;rw[if_neg z];exact e,JR _⟩
  ·exact⟨y,e,JR _⟩
theorem v9 (f:dS ν)(a b:ν)(x:Int):∃y,rJ f a b x a b=some y/\y<=x:=by
 unfold rJ
 cases q:f a b with
 | none=>exact⟨x,lD,JR _⟩
 | some y0=>
  simp only;split
  ·exact⟨x,lD,JR _⟩
  ·exact⟨y0,q,by omega⟩
theorem oj {L:bw ν}{f:dS ν}{a b:ν}{x:Int}(h:∀u v y,f u v=some y->Wk L u v y)(hx:Wk L a b x):∀u v y,rJ f a b x u v=some y->Wk L u v y:=λu v y e=>by
 have key:tV f a b x u v=some y->Wk L u v y:=λe'=>by
  unfold tV at e'
  by_cases z:u=a/\v=b
  ·rw[if_pos z]at e';injection e' with e';rw[z.1,z.2,<-e'];exact hx
  ·rw[if_neg z]at e';exact h u v y e'
 unfold rJ at e
 cases q:f a b with
 | none=>rw[q]at e;exact key e
 | some y0=>
  rw[q]at e;simp only at e
  split at e
  ·exact key e
  ·exact h u v y e
theorem tU (mid one other:ν)(f:dS ν):Le (oa mid one other f) f:=by
 unfold oa;split
 ·exact rH _ _ _ _
 ·exact Le.refl f
theorem zF {mid one other:ν}{f:dS ν}{x y:Int}(h1:f one mid=some x)(h2:f mid other=some y):∃z,oa mid one other f one other=some z/\z<=x+y:=by
 unfold oa;rw[h1,h2];exact v9 _ _ _ _
theorem jw {α:Type}(step:dS ν->α->dS ν)(hs:∀f a,Le (step f a) f):∀(l:List α) (f:dS ν),Le (l.foldl step f) f
 | [],f=>Le.refl f
 | a::l,f=>(jw step hs l (step f a)).trans (hs f a)
theorem og (mid one:ν)(P:List ν)(f:dS ν):Le (mB mid one P f) f:=jw _ (λf o=>tU mid one o f) P f
theorem tW (mid:ν)(Q P:List ν)(f:dS ν):Le (pR mid Q P f) f:=jw _ (λf o=>og mid o P f) Q f
theorem zJ (M P:List ν)(f:dS ν):Le (v8 M P f) f:=jw _ (λf o=>tW o P P f) M f
theorem mC {α:Type}(step:dS ν->α->dS ν)(hs:∀f a,Le (step f a) f):∀(l:List α) (f:dS ν) (a:α),a∈l->∃g,Le g f/\Le (l.foldl step f) (step g a)
 | [],f,a,h=>by simp at h
 | b::l,f,a,h=>by
  rcases Ij.mp h with rfl | h
  ·exact⟨f,Le.refl f,jw step hs l (step f a)⟩
  ·obtain⟨g,h1,h2⟩:=mC step hs l (step f b) a h
   exact⟨g,h1.trans (hs f b),h2⟩
theorem zI {mid u v:ν}{P:List ν}{f:dS ν}{x y:Int}(hu:u∈P)(hv:v∈P)(h1:f u mid=some x)(h2:f mid v=some y):∃z,pR mid P P f u v=some z/\z<=x+y:=by
 obtain⟨g,g1,g2⟩:=mC (λf one=>mB mid one P f) (λf o=>og mid o P f) P f u hu
 obtain⟨g',g3,g4⟩:=mC (λf other=>oa mid u other f) (λf o=>tU mid u o f) P g v hv
 have l:Le g' f:=g3.trans g1;obtain⟨x',e1,l1⟩:=l _ _ _ h1;obtain⟨y',e2,l2⟩:=l _ _ _ h2;obtain⟨z,e3,l3⟩:=zF e1 e2;obtain⟨z',e4,l4⟩:=(g2.trans g4) _ _ _ e3;exact⟨z',e4,by omega⟩
def Up (L:bw ν)(M:List ν)(f:dS ν):Prop:=∀u v ms s,Pth L u ms v s->ms.Nodup->(∀x∈ms,x∈M)->∃y,f u v=some y/\y<=s
theorem Pth.ends {L:bw ν}{P:List ν}(hL:∀x∈L,x.1∈P/\x.2.1∈P){u v:ν}{ms:List ν}{s:Int}(h:Pth L u ms v s):u∈P/\v∈P/\∀x∈ms,x∈P:=by
 induction h with
 | one e=>exact⟨(hL _ e).1,(hL _ e).2,by simp⟩
 | cons e _ ih=>exact⟨(hL _ e).1,ih.2.1,λx hx=>by
   rcases Ij.mp hx with rfl | hx
   ·exact ih.1
   ·exact ih.2.2 x hx⟩
theorem Up.mid {L:bw ν}{P M:List ν}{f:dS ν}(hL:∀x∈L,x.1∈P/\x.2.1∈P)(h:Up L M f)(k:ν):Up L (k::M) (pR k P P f):=λu v ms s hp hn hm=>by
 by_cases hk:k∈ms
 ·obtain⟨p,q,rfl⟩:=Mi hk
  obtain⟨s1,s2,h1,h2,h3⟩:=hp.cut;rw[JQ]at hn;obtain⟨n1,n2,n3⟩:=hn;rw[IT]at n2
  have hp':∀x∈p,x∈M:=λx hx=>by
   rcases Ij.mp (hm x (Ja _ hx))with rfl | z
   ·exact absurd rfl (n3 x hx x Ie)
   ·exact z
  have hq':∀x∈q,x∈M:=λx hx=>by
   rcases Ij.mp (hm x (Iy _ (Ia _ hx)))with rfl | z
   ·exact absurd hx n2.1
   ·exact z
  obtain⟨y1,e1,l1⟩:=h u k p s1 h1 n1 hp';obtain⟨y2,e2,l2⟩:=h k v q s2 h2 n2.2 hq';obtain⟨z,e3,l3⟩:=zI (P:=P) (h1.ends hL).1 (h2.ends hL).2.1 e1 e2;exact⟨z,e3,by omega⟩
 ·obtain⟨y,e,l⟩:=h u v ms s hp hn λx hx=>by
   rcases Ij.mp (hm x hx)with rfl | z
   ·exact absurd hx hk
   ·exact z
  obtain⟨z,e2,l2⟩:=tW k P P f u v y e;exact⟨z,e2,by omega⟩
theorem Up.HJ {L:bw ν}{P:List ν}(hL:∀x∈L,x.1∈P/\x.2.1∈P):∀(Q M:List ν) (f:dS ν),Up L M f->∃M',(∀x,x∈Q\/x∈M->x∈M')/\Up L M' (v8 Q P f)
 | [],M,f,h=>⟨M,λx hx=>hx.elim (λz=>by simp at z) id,h⟩
 | k::Q,M,f,h=>by
  obtain⟨M',h1,h2⟩:=Up.HJ hL Q (k::M) (pR k P P f) (h.mid hL k);refine⟨M',λx hx=>h1 x ?_,h2⟩
  rcases hx with hx | hx
  ·rcases Ij.mp hx with rfl | hx
   ·exact .inr Ie
   ·exact .inl hx
  ·exact .inr (Ia _ hx)
theorem Ay {P:List ν}{L:bw ν}:Up L [] (Az P L):=λu v ms s hp hn hm=>by
 have:ms= []:=by
  cases ms with
  | nil=>rfl
  | cons x r=>exact absurd (hm x Ie) (by simp)
 subst this
 cases hp with
 | one e=>
  obtain⟨g,h1,h2⟩:=mC (λ(f:dS ν) (x:ν×ν×Int)=>rJ f x.1 x.2.1 x.2.2) (λf x=>rH f _ _ _) L (wO P) _ e
  obtain⟨y,e1,l1⟩:=v9 g u v s;obtain⟨z,e2,l2⟩:=h2 u v y e1;exact⟨z,e2,by omega⟩
theorem fY {α:Type}{L:bw ν}(step:dS ν->α->dS ν):∀(l:List α) (f:dS ν),(∀f,∀a∈l,(∀u v y,f u v=some y->Wk L u v y)->∀u v y,step f a u v=some y->Wk L u v y)->(∀u v y,f u v=some y->Wk L u v y)->∀u v y,l.foldl step f u v=some y->Wk L u v y
 | [],f,_,h=>h
 | a::l,f,hs,h=>fY step l (step f a) (λf b hb=>hs f b (Ia _ hb)) (hs f a Ie h)
theorem lL (P:List ν)(L:bw ν):∀u v y,table P L u v=some y->Wk L u v y:=by
 unfold table v8;refine fY _ P _ (λf m _ h=> ?_) ?_
 ·unfold pR
  refine fY _ P _ (λf o _ h=> ?_) h
  unfold mB;refine fY _ P _ (λf v _ h=> ?_) h
  unfold oa
  cases e1:f o m with
  | none=>exact h
  | some x=>
   cases e2:f m v with
   | none=>exact h
   | some y=>exact oj h ((h _ _ _ e1).app (h _ _ _ e2))
 ·unfold Az
  refine fY _ L _ (λf x hx h=>oj h (.one hx)) λu v y e=> ?_
  unfold wO at e
  split at e
  ·rename_i z;obtain⟨_,rfl⟩:=z;cases e;exact .nil u
  ·cases e
theorem si {P:List ν}{L:bw ν}(hL:∀x∈L,x.1∈P/\x.2.1∈P):∀u v ms s,Pth L u ms v s->ms.Nodup->∃y,table P L u v=some y/\y<=s:=λu v ms s hp hn=>by
 obtain⟨M',h1,h2⟩:=Up.HJ hL P [] (Az P L) Ay;exact h2 u v ms s hp hn λx hx=>h1 x (.inl ((hp.ends hL).2.2 x hx))
theorem uu {P:List ν}{L:bw ν}{u:ν}(hu:u∈P):∃y,table P L u u=some y/\y<=0:=by
 have h0:wO P u u=some 0:=by unfold wO;rw[if_pos ⟨hu,rfl⟩]
 have h1:Le (table P L) (wO P):=(zJ P P _).trans (jw _ (λf x=>rH f _ _ _) L _)
 exact h1 u u 0 h0
structure Least (L:bw ν)(P:List ν)(f:dS ν):Prop where
 is:∀u v d,f u v=some d->Wk L u v d
 le:∀u∈P,∀v t,Wk L u v t->∃d,f u v=some d/\d<=t
theorem wN {P:List ν}{L:bw ν}{u:ν}{y:Int}(h:table P L u u=some y)(hy:y<0):¬ NoNeg L:=λn=>by
 have:=n u y (lL P L u u y h);omega
theorem sj {P:List ν}{L:bw ν}(hL:∀x∈L,x.1∈P/\x.2.1∈P)(h:∀u∈P,∀y,table P L u u=some y->0<=y):NoNeg L/\Least L P (table P L):=by
 have nc:¬ Ai L:=λ⟨x,ms,s,hp,hn,_,hs⟩=>by
  obtain⟨y,e,l⟩:=si hL x x ms s hp hn
  have:=h x (hp.ends hL).1 y e;omega
 have le:∀u∈P,∀v t,Wk L u v t->∃d,table P L u v=some d/\d<=t:=λu hu v t w=>by
  rcases w.simple with z | ⟨s',hs,z⟩
  ·exact absurd z nc
  ·rcases z with⟨rfl,rfl⟩ | ⟨_,ms,hp,hn,_⟩
   ·obtain⟨y,e,l⟩:=uu (L:=L) hu
    exact⟨y,e,by omega⟩
   ·obtain⟨y,e,l⟩:=si hL u v ms s' hp hn
    exact⟨y,e,by omega⟩
 refine⟨λa s w=> ?_,λu v d e=>lL P L u v d e,le⟩
 by_cases ha:a∈P
 ·obtain⟨d,e,l⟩:=le a ha a s w
  have:=h a ha d e;omega
 ·cases w with
  | nil=>exact JR _
  | step e _=>exact absurd (hL _ e).1 ha
theorem Least.uniq {L:bw ν}{P:List ν}{f g:dS ν}(hf:Least L P f)(hg:Least L P g){u v:ν}(hu:u∈P):f u v=g u v:=by
 cases e:f u v with
 | none=>
  cases e2:g u v with
  | none=>rfl
  | some d=>
   obtain⟨d',q,_⟩:=hf.le u hu v d (hg.is u v d e2)
   rw[e]at q;cases q
 | some d=>
  obtain⟨d',q,l⟩:=hg.le u hu v d (hf.is u v d e);obtain⟨d2,q2,l2⟩:=hf.le u hu v d' (hg.is u v d' q);rw[e]at q2;cases q2;rw[q]
  congr 1
  omega
end Gr
namespace G
open PySem Tr
def isI:T->Bool
 | .int _=>true
 | _=>false
theorem BV (t:T)(h:t.pl=true):gU [t] = .ok (.bl (isI t)):=by
 cases t <;> first | rfl | (simp[T.pl]at h;done)
def ba (t:T)(a b:Int):Bool:=match t with
 | .int i=>decide (a<=i)&&decide (i<=b)
 | _=>false
theorem fx (t:T)(a b:Int)(h:t.pl=true):aV [t,.int a,.int b] = .ok (.bl (ba t a b)):=by
 have w:=BV t h
 cases t with
 | int i=>
  simp[aV,val,bD,jg,aQ,aK,bS,vr,ch,cl,ae,ai,ue,ba,w,isI]
  cases decide (a<=i) <;> rfl
 | scr _=>simp[T.pl]at h
 | dct _ _=>simp[T.pl]at h
 | _=>simp[aV,val,bD,jg,aQ,aK,bS,vr,ch,cl,ae,ai,ba,w,isI]
def eI (t:T)(a b:Nat):Bool:=match t with
 | .tup l=>decide (a<=l.length)&&decide (l.length<=b)
 | _=>false
theorem kj (t:T)(a b:Nat)(h:t.pl=true):aR [t,.int a,.int b] = .ok (.bl (eI t a b)):=by
 cases t with
 | tup l=>
  simp[aR,val,bD,qk,aQ,aK,bS,o1,vr,BK,T.ty,vX,ch,cl,ae,ai,cQ,T.items,ue,eI]
  cases decide (a<=l.length) <;> rfl
 | scr _=>simp[T.pl]at h
 | dct _ _=>simp[T.pl]at h
 | _=>rfl
def oS (x y:T):Bool:=ba x 1 9&&(match x with
 | .int i=>ba y i 9
 | _=>false)
theorem Eo (x y:T)(hx:x.pl=true)(hy:y.pl=true):fO [x,y] = .ok (.bl (oS x y)):=by
 have w:=fx x 1 9 hx;unfold oS
 cases q:ba x 1 9 with
 | false=>rw[q]at w;simp[fO,val,bD,lK,aQ,aK,bS,vr,cn,cl,ae,ai,w]
 | true=>
  rw[q]at w
  cases x with
  | int i=>simp[fO,val,bD,lK,aQ,aK,bS,vr,cn,cl,ae,ai,w,fx y i 9 hy]
  | _=>cases q
def oH:List Int->Bool
 | a::b::r=>decide (a<b)&&oH (b::r)
 | _=>true
theorem E6 (a b:Int)(r:List Int):oH (a::b::r)=(decide (a<b)&&oH (b::r)):=rfl
theorem rY {fe:En->Rs T}{p:T->Bool}{l:List T}{fi:En->Rs (List T)}{src:List (Option Nat)}{Z:En}(hi:fi Z= .ok l)(hs:l.length<=sizeLine)(hn:0<src.length)(hf:∀t∈l,fe ((cj src Z).set 0 (.va t))= .ok (.bl (p t))) :
  cl pj (ae (fA fi src (gN 0) bT fe) ai) Z= .ok (.bl (l.all p)):=by
 have e:=uU (fe:=fe) (h:=λt=>T.bl (p t)) l (cj src Z) (by unfold cj;rw[Ig];exact hn) hf
 simp only[cl,ae,ai,fA,hi,aI,if_pos hs,e,all_map]
def ly (l:List T):T->Bool
 | .int k=>match L2.atI l k,L2.atI l (k+1)with
  | some (.int a),some (.int b)=>decide (a<b)
  | _,_=>false
 | _=>false
theorem qD {t:T}{j:Int}(h:t∈rng 0 j):∃k:Nat,t= .int k/\(k:Int)<j:=by
 unfold rng at h;obtain⟨k,hk,e⟩:=ID.mp h;rw[Ji]at hk;exact⟨k,by rw[<-e];simp,by omega⟩
theorem CZ:(l:List Int)->l.length<=4->(rng 0 ((l.length:Int) - 1)).all (ly (l.map .int))=oH l
 | [],_=>rfl
 | [a],_=>rfl
 | [a,b],_=>by simp[rng,Nd,ly,L2.atI,L2.ixN,oH]
 | [a,b,c],_=>by simp[rng,Nd,ly,L2.atI,L2.ixN,oH]
 | [a,b,c,d],_=>by simp[rng,Nd,ly,L2.atI,L2.ixN,oH,Bool.and_assoc]
 | a::b::c::d::e::r,h=>absurd h (by simp only[Io];omega)
theorem BW (l:List Int)(h:l.length<=4):jt [.tup (l.map .int)] = .ok (.bl (oH l)):=by
 have hr:iR (ae (o2 iu (cl cQ (ae (vr 0) ai)) (cn (.int 1))) ai) [.va (.tup (l.map .int))] = .ok (rng 0 ((l.length:Int) - 1)):=by
  have:mz ((l.length:Int) - 1)=true:=by unfold mz;rw[HZ];exact⟨decide_eq_true (by omega),decide_eq_true (by omega)⟩
  simp[iR,ae,ai,o2,cl,vr,cn,cQ,T.items,iu,this]
 have hs:(rng 0 ((l.length:Int) - 1)).length<=sizeLine:=by
  unfold rng sizeLine;rw[Ig,Jx];omega
 have e:=rY (fe:=o2 Cr (o2 aP (vr 1) (vr 0)) (o2 aP (vr 1) (o2 aX (vr 0) (cn (.int 1))))) (p:=ly (l.map .int)) (src:=[none,some 0]) hr hs (by decide) (λt ht=>by
  obtain⟨k,rfl,hk⟩:=qD ht
  have h1:(l.map T.int)[k]? =some (.int (l[k]'(by omega))):=by simp
  have h2:(l.map T.int)[k+1]? =some (.int (l[k+1]'(by omega))):=by rw[IF,Ir (by omega)];rfl
  have g1:=kn h1
  have g2:L2.atI (l.map T.int) ((k:Int)+1)=some (.int (l[k+1]'(by omega))):=kn h2
  simp[o2,vr,cj,cn,aX,aP,T.items,g1,g2,ue,ly])
 rw[CZ l h]at e;simp only[jt,val,JW,if_true,wG,bD,aK,aQ]
 show(do let f <-(do let t <-cl pj _ [.va (.tup (l.map .int))];Rs.ok (Fl.rt t));_)=_
 rw[e]
 rfl
def kM:List T->Option (List Int)
 | [] =>some []
 | .int i::l=>match kM l with
  | some m=>some (i::m)
  | none=>none
 | _::_=>none
def dh (t:T):Bool:=eI t 1 4&&(match t with
 | .tup l=>l.all (λu=>ba u 0 99)&&(match kM l with | some m=>oH m | none=>false)
 | _=>false)
theorem nE:∀{l:List T} {m:List Int},kM l=some m->l=m.map .int
 | [],m,h=>by cases h;rfl
 | t::l,m,h=>by
  cases t with
  | int i=>
   unfold kM at h
   cases q:kM l with
   | none=>rw[q]at h;cases h
   | some m'=>rw[q]at h;cases h;rw[Ic,<-nE q]
  | _=>cases h
theorem qV:∀{l:List T} {a b:Int},(l.all λu=>ba u a b)=true->∃m,kM l=some m
 | [],_,_,_=>⟨[],rfl⟩
 | t::l,a,b,h=>by
  rw[NV,HZ]at h
  cases t with
  | int i=>
   obtain⟨m,e⟩:=qV h.2
   exact⟨i::m,by unfold kM;rw[e]⟩
  | _=>exact absurd h.1 (by simp[ba])
theorem dv {t:T}{a b:Nat}(h:eI t a b=true):∃l,t= .tup l/\a<=l.length/\l.length<=b:=by
 cases t with
 | tup l=>unfold eI at h;rw[HZ]at h;exact⟨l,rfl,of_decide_eq_true h.1,of_decide_eq_true h.2⟩
 | _=>cases h
theorem small {n k:Nat}(h:n<=k)(hk:k<=1000:=by decide):n<=sizeLine:=by unfold sizeLine;omega
theorem u6 (t:T)(h:t.pl=true):bP [t] = .ok (.bl (dh t)):=by
 have w:aR [t,.int 1,.int 4] = .ok (.bl (eI t 1 4)):=kj t 1 4 h;unfold dh
 cases q:eI t 1 4 with
 | false=>rw[q]at w;simp[bP,val,bD,eR,aQ,aC,eX,cM,tb,sN,aK,cl,vr,cn,ae,ai,w]
 | true=>
  rw[q]at w;obtain⟨l,rfl,h1,h2⟩:=dv q
  have hp:∀u∈l,u.pl=true:=λu hu=>gQ (by unfold T.pl at h;exact h) hu
  have e:=rY (fe:=cl aV (ae (vr 0) (ae (cn (.int 0)) (ae (cn (.int 99)) ai)))) (p:=λu=>ba u 0 99) (src:=[none]) (fi:=iS (vr 0)) (Z:=[.va (.tup l)]) rfl (small h2) (by decide) (λu hu=>by
   simp[cl,ae,ai,vr,cn,cj,fx u 0 99 (hp u hu)])
  have w':cl aR (ae (vr 0) (ae (cn (.int 1)) (ae (cn (.int 4)) ai))) [.va (.tup l)] = .ok (.bl true):=w
  show bP _= .ok (.bl (true&&(l.all (λu=>ba u 0 99)&&(match kM l with | some m=>oH m | none=>false))))
  cases qa:l.all λu=>ba u 0 99 with
  | false=>
   rw[qa]at e
   simp[bP,val,bD,eR,aQ,aC,eX,cM,tb,sN,aK,bS,e,w']
  | true=>
   rw[qa]at e;obtain⟨m,em⟩:=qV qa
   have el:=nE em
   have er:=BW m (by rw[el,Ig]at h2;exact h2)
   rw[<-el]at er
   have er':cl jt (ae (vr 0) ai) [.va (.tup l)] = .ok (.bl (oH m)):=er;simp[bP,val,bD,eR,aQ,aC,eX,cM,tb,sN,aK,bS,e,w',er',em]
def at_ (t:T)(k:Nat):T:=match t.items with
 | some l=>l.getD k .non
 | none=> .non
def bH (t:T):Bool:=eI t 3 3&&(match t with
 | .tup [x,y,r] =>oS x y&&dh r
 | _=>false)
theorem B0 (t:T)(h:t.pl=true):dn [t] = .ok (.bl (bH t)):=by
 have w:aR [t,.int 3,.int 3] = .ok (.bl (eI t 3 3)):=kj t 3 3 h;unfold bH
 cases q:eI t 3 3 with
 | false=>rw[q]at w;simp[dn,val,bD,g9,aQ,aK,bS,cl,vr,cn,ae,ai,w]
 | true=>
  rw[q]at w;obtain⟨l,rfl,h1,h2⟩:=dv q
  match l,h1,h2 with
  | [x,y,r],_,_=>
   simp[T.pl,plS]at h;obtain⟨px,py,pr⟩:=h
   have g0:aP (.tup [x,y,r]) (.int 0)= .ok x:=rfl
   have g1:aP (.tup [x,y,r]) (.int 1)= .ok y:=rfl
   have g2:aP (.tup [x,y,r]) (.int 2)= .ok r:=rfl
   have ep:=Eo x y px py
   have er:=u6 r pr
   cases qp:oS x y with
   | false=>rw[qp]at ep;simp[dn,val,bD,g9,aQ,aK,bS,cl,vr,cn,ae,ai,o2,w,g0,g1,ep,qp]
   | true=>rw[qp]at ep;simp[dn,val,bD,g9,aQ,aK,bS,cl,vr,cn,ae,ai,o2,w,g0,g1,g2,ep,er,qp]
def bo (t:T):Bool:=eI t 1 4&&(match t with
 | .tup l=>l.all bH
 | _=>false)
theorem z4 (t:T)(h:t.pl=true):dA [t] = .ok (.bl (bo t)):=by
 have w:aR [t,.int 1,.int 4] = .ok (.bl (eI t 1 4)):=kj t 1 4 h;unfold bo
 cases q:eI t 1 4 with
 | false=>rw[q]at w;simp[dA,val,bD,hG,aQ,aK,bS,cl,vr,cn,ae,ai,w]
 | true=>
  rw[q]at w;obtain⟨l,rfl,h1,h2⟩:=dv q
  have hp:∀u∈l,u.pl=true:=λu hu=>gQ (by unfold T.pl at h;exact h) hu
  have e:=rY (fe:=cl dn (ae (vr 0) ai)) (p:=bH) (src:=[none]) (fi:=iS (vr 0)) (Z:=[.va (.tup l)]) rfl (small h2) (by decide) (λu hu=>by
   simp[cl,ae,ai,vr,cn,cj,B0 u (hp u hu)])
  have w':cl aR (ae (vr 0) (ae (cn (.int 1)) (ae (cn (.int 4)) ai))) [.va (.tup l)] = .ok (.bl true):=w;simp[dA,val,bD,hG,aQ,aK,bS,e,w']
def cY (x y:T):Bool:=ba x 0 999&&(match x,y with
 | _,.non=>true
 | .int i,_=>ba y i 999
 | _,_=>false)
theorem BZ (x y:T)(hx:x.pl=true)(hy:y.pl=true):dR [x,y] = .ok (.bl (cY x y)):=by
 have w:=fx x 0 999 hx;unfold cY
 cases q:ba x 0 999 with
 | false=>rw[q]at w;simp[dR,val,bD,g8,aQ,aK,bS,vr,cn,cl,ae,ai,w]
 | true=>
  rw[q]at w
  cases x with
  | int i=>
   have e:=fx y i 999 hy
   cases y with
   | non=>simp[dR,val,bD,g8,aQ,aK,bS,Am,vr,cn,cl,ae,ai,o2,lA,T.isN,w]
   | _=>simp[dR,val,bD,g8,aQ,aK,bS,Am,vr,cn,cl,ae,ai,o2,lA,T.isN,w,e]
  | _=>cases q
def reads (cs:List T)(c:Int):Nat:=if 0<=c then(match cs[c.toNat]? with
 | some (.tup [_,_,.tup r])=>r.length
 | _=>0)else 0
def aU (cs:List T)(t:T):Bool:=match t with
 | .tup [.int c,.int k] =>decide (0<=c)&&decide (c<cs.length)&&(decide (0<=k)&&decide (k<reads cs c))
 | _=>false
theorem lW {t:T}(h:bH t=true):∃x y r,t= .tup [x,y,.tup r]:=by
 unfold bH at h;rw[HZ]at h;obtain⟨h1,h2⟩:=h;obtain⟨l,rfl,h3,h4⟩:=dv h1
 match l,h3,h4,h2 with
 | [x,y,r],_,_,h2=>
  simp only[HZ]at h2;obtain⟨_,h5⟩:=h2;unfold dh at h5;rw[HZ]at h5;obtain⟨m,rfl,_⟩:=dv h5.1;exact⟨x,y,m,rfl⟩
theorem cU {t:T}{a b:Int}(h:ba t a b=true):∃i,t= .int i/\a<=i/\i<=b:=by
 cases t with
 | int i=>unfold ba at h;rw[HZ]at h;exact⟨i,rfl,of_decide_eq_true h.1,of_decide_eq_true h.2⟩
 | _=>cases h
theorem rM (cs:List T)(t:T)(hc:bo (.tup cs)=true)(h:t.pl=true):cG [.tup cs,t] = .ok (.bl (aU cs t)):=by
 have w:aR [t,.int 2,.int 2] = .ok (.bl (eI t 2 2)):=kj t 2 2 h
 cases q:eI t 2 2 with
 | false=>
  rw[q]at w
  have:aU cs t=false:=by
   unfold aU;split
   ·cases q
   ·rfl
  simp[cG,val,bD,g7,aQ,aC,eX,ka,cM,tb,sN,aK,cl,vr,cn,ae,ai,w,this]
 | true=>
  rw[q]at w;obtain⟨l,rfl,h1,h2⟩:=dv q
  match l,h1,h2 with
  | [x,y],_,_=>
   simp[T.pl,plS]at h;obtain⟨px,py⟩:=h
   have g0:aP (.tup [x,y]) (.int 0)= .ok x:=rfl
   have g1:aP (.tup [x,y]) (.int 1)= .ok y:=rfl
   have gl:cQ [.tup cs] = .ok (.int cs.length):=rfl
   have e1:=fx x 0 ((cs.length:Int) - 1) px
   cases q1:ba x 0 ((cs.length:Int) - 1)with
   | false=>
    rw[q1]at e1
    have:aU cs (.tup [x,y])=false:=by
     cases x with
     | int c=>
      cases y with
      | int k=>
       simp only[ba,LG,decide_eq_false_iff_not]at q1;simp only[aU,LG,decide_eq_false_iff_not]
       omega
      | _=>rfl
     | _=>rfl
    simp[cG,val,bD,g7,aQ,aC,eX,ka,cM,tb,sN,aK,cl,vr,cn,ae,ai,o2,iu,w,g0,gl,e1,this]
   | true=>
    rw[q1]at e1;obtain⟨c,rfl,c1,c2⟩:=cU q1;obtain⟨n,rfl⟩:=Jc c1
    have hn:n<cs.length:=by omega
    have hcl:bH cs[n] =true:=by
     unfold bo at hc;rw[HZ]at hc;exact IR.mp hc.2 _ (JK hn)
    obtain⟨a,b,r,er⟩:=lW hcl
    have g2:aP (.tup cs) (.int (n:Int))= .ok (.tup [a,b,.tup r]):=by
     simp only[aP,T.items];rw[kn (Ir hn),er]
    have g3:aP (.tup [a,b,.tup r]) (.int 2)= .ok (.tup r):=rfl
    have gr:cQ [.tup r] = .ok (.int r.length):=rfl
    have e2:=fx y 0 ((r.length:Int) - 1) py
    have:aU cs (.tup [.int n,y])=ba y 0 ((r.length:Int) - 1):=by
     have er2:reads cs (n:Int)=r.length:=by
      unfold reads;rw[if_pos c1,Jw,Ir hn,er]
     cases y with
     | int k=>
      simp only[aU,ba,er2];rw[decide_eq_true c1,decide_eq_true (show(n:Int)<cs.length by omega)]
      simp only[LN]
      congr 1
      exact decide_eq_decide.mpr (by omega)
     | _=>rfl
    simp[cG,val,bD,g7,aQ,aC,eX,ka,cM,tb,sN,aK,cl,vr,cn,ae,ai,o2,iu,w,g0,g1,g2,g3,gl,gr,e1,e2,this]
def aZ (cs:List T)(t:T):Bool:=match t with
 | .tup [a,b,x,y] =>cY x y&&(aU cs a&&(aU cs b&& !aT a b))
 | _=>false
theorem cR {cs:List T}{t:T}(h:aU cs t=true):∃c k:Int,t= .tup [.int c,.int k]:=by
 unfold aU at h
 split at h
 ·exact⟨_,_,rfl⟩
 ·cases h
theorem zU (cs:List T)(t:T)(hc:bo (.tup cs)=true)(h:t.pl=true):bW [.tup cs,t] = .ok (.bl (aZ cs t)):=by
 have w:aR [t,.int 4,.int 4] = .ok (.bl (eI t 4 4)):=kj t 4 4 h
 cases q:eI t 4 4 with
 | false=>
  rw[q]at w
  have:aZ cs t=false:=by
   unfold aZ;split
   ·cases q
   ·rfl
  simp[bW,val,bD,d8,aQ,aC,eX,ka,cM,tb,sN,aK,cl,vr,cn,ae,ai,w,this]
 | true=>
  rw[q]at w;obtain⟨l,rfl,h1,h2⟩:=dv q
  match l,h1,h2 with
  | [a,b,x,y],_,_=>
   simp[T.pl,plS]at h;obtain⟨pa,pb,px,py⟩:=h
   have g0:aP (.tup [a,b,x,y]) (.int 0)= .ok a:=rfl
   have g1:aP (.tup [a,b,x,y]) (.int 1)= .ok b:=rfl
   have g2:aP (.tup [a,b,x,y]) (.int 2)= .ok x:=rfl
   have g3:aP (.tup [a,b,x,y]) (.int 3)= .ok y:=rfl
   have e1:=BZ x y px py
   have e2:=rM cs a hc pa
   have e3:=rM cs b hc pb
   show _=Rs.ok (T.bl (cY x y&&(aU cs a&&(aU cs b&& !aT a b))))
   cases q1:cY x y with
   | false=>
    rw[q1]at e1
    simp[bW,val,bD,d8,aQ,aC,eX,ka,cM,tb,sN,aK,cl,vr,cn,ae,ai,o2,w,g2,g3,e1]
   | true=>
    rw[q1]at e1
    cases q2:aU cs a with
    | false=>
     rw[q2]at e2
     simp[bW,val,bD,d8,aQ,aC,eX,ka,cM,tb,sN,aK,bS,cl,vr,cn,ae,ai,o2,w,g0,g2,g3,e1,e2]
    | true=>
     rw[q2]at e2
     cases q3:aU cs b with
     | false=>
      rw[q3]at e3
      simp[bW,val,bD,d8,aQ,aC,eX,ka,cM,tb,sN,aK,bS,cl,vr,cn,ae,ai,o2,w,g0,g1,g2,g3,e1,e2,e3]
     | true=>
      rw[q3]at e3;obtain⟨c,k,rfl⟩:=cR q2
      have f:fZ (.tup [.int c,.int k]) b=true:=eK (by simp[T.dep,deps]) rfl (T.GM _ pb)
      have g4:jQ (.tup [.int c,.int k]) b= .ok (.bl (!aT (.tup [.int c,.int k]) b)):=by unfold jQ;rw[if_pos f]
      simp[bW,val,bD,d8,aQ,aC,eX,ka,cM,tb,sN,aK,bS,cl,vr,cn,ae,ai,o2,w,g0,g1,g2,g3,g4,e1,e2,e3]
def jv (cs:List T)(t:T):Bool:=eI t 0 8&&(match t with
 | .tup l=>l.all (aZ cs)
 | _=>false)
theorem xE (cs:List T)(t:T)(hc:bo (.tup cs)=true)(h:t.pl=true):c9 [.tup cs,t] = .ok (.bl (jv cs t)):=by
 have w:aR [t,.int 0,.int 8] = .ok (.bl (eI t 0 8)):=kj t 0 8 h;unfold jv
 cases q:eI t 0 8 with
 | false=>rw[q]at w;simp[c9,val,bD,gz,aQ,aK,bS,cl,vr,cn,ae,ai,w]
 | true=>
  rw[q]at w;obtain⟨l,rfl,h1,h2⟩:=dv q
  have hp:∀u∈l,u.pl=true:=λu hu=>gQ (by unfold T.pl at h;exact h) hu
  have e:=rY (fe:=cl bW (ae (vr 1) (ae (vr 0) ai))) (p:=aZ cs) (src:=[none,some 0]) (fi:=iS (vr 1)) (Z:=[.va (.tup cs),.va (.tup l)]) rfl (small h2) (by decide) (λu hu=>by
   simp[cl,ae,ai,vr,cn,cj,zU cs u hc (hp u hu)])
  have w':cl aR (ae (vr 1) (ae (cn (.int 0)) (ae (cn (.int 8)) ai))) [.va (.tup cs),.va (.tup l)] = .ok (.bl true):=w;simp[c9,val,bD,gz,aQ,aK,bS,e,w']
def eY (t:T):Bool:=match t with
 | .tup [.tup cs,ls] =>bo (.tup cs)&&jv cs ls
 | _=>false
theorem t9 (t:T)(h:t.pl=true):dk [t] = .ok (.bl (eY t)):=by
 have w:aR [t,.int 2,.int 2] = .ok (.bl (eI t 2 2)):=kj t 2 2 h
 cases q:eI t 2 2 with
 | false=>
  rw[q]at w
  have:eY t=false:=by
   unfold eY;split
   ·cases q
   ·rfl
  simp[dk,val,bD,gj,aQ,aK,bS,cl,vr,cn,ae,ai,w,this]
 | true=>
  rw[q]at w;obtain⟨l,rfl,h1,h2⟩:=dv q
  match l,h1,h2 with
  | [x,y],_,_=>
   simp[T.pl,plS]at h;obtain⟨px,py⟩:=h
   have g0:aP (.tup [x,y]) (.int 0)= .ok x:=rfl
   have g1:aP (.tup [x,y]) (.int 1)= .ok y:=rfl
   have e1:=z4 x px
   cases q1:bo x with
   | false=>
    rw[q1]at e1
    have:eY (.tup [x,y])=false:=by
     cases x with
     | tup cs=>show(bo (.tup cs)&&_)=false;rw[q1];rfl
     | _=>rfl
    simp[dk,val,bD,gj,aQ,aK,bS,cl,vr,cn,ae,ai,o2,w,g0,e1,this]
   | true=>
    rw[q1]at e1
    cases x with
    | tup cs=>
     have e2:=xE cs y q1 py
     have:eY (.tup [.tup cs,y])=jv cs y:=by show(bo (.tup cs)&&_)=_;rw[q1];rfl
     simp[dk,val,bD,gj,aQ,aK,bS,cl,vr,cn,ae,ai,o2,w,g0,g1,e1,e2,this]
    | _=>cases q1
theorem fP:∀m:List Int,deps (m.map .int)=0
 | [] =>rfl
 | a::m=>by rw[Ic,deps,fP m];rfl
def mf (i n:Nat):List T:=(rng 0 n).map λt=>T.tup [.int i,t]
def C1:T->Nat
 | .tup [_,_,.tup r] =>r.length
 | _=>0
def fo:Nat->List T->List T
 | _,[] => []
 | i,c::r=>mf i (C1 c)++fo (i+1) r
theorem fy {t:T}(h:bH t=true):∃x y r,t= .tup [x,y,.tup r]/\1<=r.length/\r.length<=4:=by
 obtain⟨x,y,r,rfl⟩:=lW h
 have:dh (.tup r)=true:=by
  have h':(oS x y&&dh (.tup r))=true:=h;rw[HZ]at h';exact h'.2
 unfold dh at this;rw[HZ]at this;obtain⟨l,e,h1,h2⟩:=dv this.1;cases e;exact⟨x,y,r,rfl,h1,h2⟩
theorem gL (i n:Nat):(mf i n).length=n:=by unfold mf;rw[Ig,kJ]
abbrev evF:En->Rs Fl:=cu (o2 aX (vr 1) (fA (iR (ae (cl cQ (ae (o2 aP (vr 3) (cn (.int 2))) ai)) ai)) [none,some 2] (gN 0) bT (aO (ae (vr 1) (ae (vr 0) ai))))) (gN 1)
abbrev evG:T->En->Rs En:=gT 2 (lC (gN 2) (lC (gN 3) vZ))
theorem EI {f:En->Rs (List T)}{Z:En}{j:Int}(h:f Z= .ok [.int j])(h0:0<=j)(h1:j<=100000):iR f Z= .ok (rng 0 j):=by
 have e:mz j=true:=by unfold mz;rw[HZ];exact⟨decide_eq_true (by omega),decide_eq_true (by omega)⟩
 unfold iR;rw[h]
 show(if mz j=true then _ else _)=_
 rw[e];rfl
theorem k6 (l m:List T)(h:(l++m).length<=1000):aX (.lst l) (.lst m)= .ok (.lst (l++m)):=by
 show jS (l++m)=_
 unfold jS;rw[if_pos (ax h)]
theorem mG (l m:List T)(h:(l++m).length<=1000):aX (.tup l) (.tup m)= .ok (.tup (l++m)):=by
 show jR (l++m)=_
 unfold jR;rw[if_pos (ax h)]
theorem Gk (c0 acc x y:T)(r:List T)(i:Nat)(h:r.length<=4) :
  fA (iR (ae (cl cQ (ae (o2 aP (vr 3) (cn (.int 2))) ai)) ai)) [none,some 2] (gN 0) bT (aO (ae (vr 1) (ae (vr 0) ai))) [.va c0,.va acc,.va (.int i),.va (.tup [x,y,.tup r])] = .ok (.lst (mf i r.length)):=
 rB (EI (j:=(r.length:Int)) rfl (by omega) (by omega)) (ax (k:=4) (by rw[kJ];exact h)) (by simp) λt _=>mk2 _ _
theorem BN (c0 x y:T)(acc r:List T)(i:Nat)(h:r.length<=4)(ha:acc.length<=100):evF [.va c0,.va (.lst acc),.va (.int i),.va (.tup [x,y,.tup r])] = .ok (.nx [.va c0,.va (.lst (acc++mf i r.length)),.va (.int i),.va (.tup [x,y,.tup r])]):=
 bL (aA (t:=.lst acc) rfl (Gk c0 (.lst acc) x y r i h) (k6 _ _ (by rw[Ih,gL];omega))) rfl
theorem wa:∀(cs:List T) (c0:T) (acc:List T) (i:Nat) (s2 s3:Sl),(∀c∈cs,bH c=true)->acc.length+4*cs.length<=100 →
  ∃y2 y3,br evG evF (bB i cs) [.va c0,.va (.lst acc),s2,s3] = .ok (.nx [.va c0,.va (.lst (acc++fo i cs)),y2,y3])
 | [],c0,acc,i,s2,s3,_,_=>⟨s2,s3,by simp[bB,br,fo]⟩
 | c::cs,c0,acc,i,s2,s3,hc,hl=>by
  obtain⟨x,y,r,rfl,r1,r2⟩:=fy (hc c Ie);rw[Io]at hl;obtain⟨z2,z3,ih⟩:=wa cs c0 (acc++mf i r.length) (i+1) (.va (.int i)) (.va (.tup [x,y,.tup r])) (λc h=>hc c (Ia _ h)) (by rw[Ih,gL];omega)
  refine⟨z2,z3,?_⟩
  rw[bB,e9 (Z1:=[.va c0,.va (.lst acc),.va (.int i),.va (.tup [x,y,.tup r])]) rfl (BN c0 x y acc r i r2 (by omega)),ih,fo,IW]
  rfl
theorem c6 {cs:List T}(hc:bo (.tup cs)=true):(∀c∈cs,bH c=true)/\1<=cs.length/\cs.length<=4:=by
 unfold bo at hc;rw[HZ]at hc;obtain⟨l,e,h1,h2⟩:=dv hc.1;cases e;exact⟨λc h=>IR.mp hc.2 c h,h1,h2⟩
theorem zY (cs:List T)(hc:bo (.tup cs)=true):dH [.tup cs] = .ok (.lst (fo 0 cs)):=by
 obtain⟨ha,h1,h2⟩:=c6 hc;obtain⟨y2,y3,e⟩:=wa cs (.tup cs) [] 0 .em .em ha (by simp;omega)
 rw[JX]at e;refine bz rfl ?_
 unfold jV;rw[az (Z':=[.va (.tup cs),.va (.lst []),.em,.em]) rfl,az ((gK (ts:=bB 0 cs) rfl e))]
 rfl
theorem BC {n k:Nat}(h:k<n):T.int (k:Int)∈rng 0 (n:Int):=by
 unfold rng;exact ID.mpr ⟨k,Ji.mpr (by omega),by simp⟩
theorem pD (cs:List T)(c:Nat):reads cs (c:Int)=C1 (cs.getD c .non):=by
 unfold reads;rw[if_pos (by omega),Jw,Kd]
 cases cs[c]? with
 | none=>rfl
 | some t=>
  cases t with
  | tup l=>
   match l with
   | [] =>rfl
   | [_] =>rfl
   | [_,_] =>rfl
   | [_,_,z] =>cases z <;> rfl
   | _::_::z::_::_=>cases z <;> rfl
  | _=>rfl
theorem tK {g:T->En->Rs En}{F:En->Rs Fl}{p:T->Bool}(J:En->Prop):∀(ts:List T),(∀t∈ts,∀Z,J Z->∃Z1,g t Z= .ok Z1/\(p t=true->∃Z2,F Z1= .ok (.nx Z2)/\J Z2)/\(p t=false->F Z1= .ok (.rt (.bl false)))) →
  ∀Z,J Z->(ts.all p=true->∃Z',br g F ts Z= .ok (.nx Z')/\J Z')/\(ts.all p=false->br g F ts Z= .ok (.rt (.bl false)))
 | [],_,Z,hj=>⟨λ_=>⟨Z,rfl,hj⟩,λh=>(by cases h)⟩
 | t::ts,hs,Z,hj=>by
  obtain⟨Z1,h1,h2,h3⟩:=hs t Ie Z hj;rw[NV]
  cases q:p t with
  | false=>exact⟨λh=>(by cases h),λ_=>my h1 (h3 q)⟩
  | true=>
   obtain⟨Z2,e2,j2⟩:=h2 q;rw[e9 h1 e2,LN];exact tK J ts (λt ht=>hs t (Ia _ ht)) Z2 j2
mutual
def sm (n:Nat):T->Bool
 | .dct _ _=>false
 | .scr _=>false
 | .tup l=>decide (l.length<=n)&&sms n l
 | .lst l=>decide (l.length<=n)&&sms n l
 | _=>true
def sms (n:Nat):List T->Bool
 | [] =>true
 | t::l=>sm n t&&sms n l
end
mutual
theorem yk {n:Nat}:∀(t:T),sm n t=true->t.pl=true
 | .scr _,h=>by simp[sm]at h
 | .dct _ _,h=>by simp[sm]at h
 | .tup l,h=>by rw[sm,HZ]at h;rw[T.pl];exact sms_pl l h.2
 | .lst l,h=>by rw[sm,HZ]at h;rw[T.pl];exact sms_pl l h.2
 | .non,_=>by simp[T.pl]
 | .bl _,_=>by simp[T.pl]
 | .int _,_=>by simp[T.pl]
 | .str _,_=>by simp[T.pl]
theorem sms_pl {n:Nat}:∀(l:List T),sms n l=true->plS l=true
 | [],_=>by simp[plS]
 | t::l,h=>by rw[sms,HZ]at h;rw[plS,yk t h.1,sms_pl l h.2];rfl
end
theorem vp {n:Nat}:∀{l:List T},sms n l=true↔ ∀t∈l,sm n t=true
 | [] =>by simp[sms]
 | t::l=>by rw[sms,HZ,vp (l:=l)];simp
theorem sm_tup {n:Nat}{l:List T}:sm n (.tup l)=true↔l.length<=n/\∀t∈l,sm n t=true:=by rw[sm,HZ,vp,decide_eq_true_iff]
theorem kh {i j:Int}(h:0<j):kO (.int i) (.int j)= .ok (.int (i % j)):=by show(if _ then _ else _)=_;rw[if_pos h]
theorem mE {i j:Int}(h:0<j)(h2:j<1073741824):kU (.int i) (.int j)= .ok (.int (i / j)):=by show(if _ then _ else _)=_;rw[if_pos ⟨h,h2⟩]
theorem nS {i j:Int}(h : -18446744073709551616<i)(h2:i<18446744073709551616):cq (.int i) (.int j)= .ok (.int (i*j)):=by
 show uT (.int i) (.int j)=_
 show(if _ then _ else _)=_
 rw[if_pos (.inl ⟨by omega,by omega⟩)]
theorem y9 {i j:Int}(h : -18446744073709551616<j)(h2:j<18446744073709551616):cq (.int i) (.int j)= .ok (.int (i*j)):=by
 show uT (.int i) (.int j)=_
 show(if _ then _ else _)=_
 rw[if_pos (.inr ⟨by omega,by omega⟩)]
theorem Er (ns:List Int)(k:Nat)(hn:ns.length<=63):∃c,fw [.scr ns,.int k] = .ok (.int c):=by
 have e0:o2 oJ (vr 0) (ff ai) [.va (.scr ns),.va (.int k)] = .ok (.bl (jU ns [])):=by
  refine aA (t:=.scr ns) (u:=.lst []) rfl (ie (ts:=[]) rfl (ax (k:=0) (Il _))) ?_
  unfold oJ;rw[if_pos (eK (by simp[T.dep]) rfl rfl)]
  rfl
 cases ns with
 | nil=>
  refine⟨7*k,bz rfl ?_⟩
  unfold ji
  refine gq ((fK (bu e0)).trans (bQ (aA (t:=.int 7) (u:=.int k) rfl rfl (nS (by omega) (by omega)))))
 | cons a r=>
  have hl:(0:Int)<((a::r).length:Nat):=by simp only[Io];omega
  have hl2:(((a::r).length:Nat):Int)<1073741824:=by simp only[Io]at hn ⊢;omega
  have hi:k % (a::r).length<(a::r).length:=Nat.mod_lt _ (by simp)
  have g0:o2 kO (vr 1) (cl cQ (ae (vr 0) ai)) [.va (.scr (a::r)),.va (.int k)] = .ok (.int ((k % (a::r).length:Nat):Int)):=by
   refine aA (t:=.int k) (u:=.int ((a::r).length:Nat)) rfl ?_ (by rw[kh hl];rfl)
   refine aJ (ts:=[.scr (a::r)]) rfl ?_
   show Rs.ok (T.int (((a::r).map T.int).length:Nat))=_
   rw[Ig]
  have g1:aP (.scr (a::r)) (.int ((k % (a::r).length:Nat):Int))= .ok (.int (a::r)[k % (a::r).length]):=by
   have e:((a::r).map T.int)[k % (a::r).length]? =some (.int (a::r)[k % (a::r).length]):=by rw[IF,Ir hi];rfl
   show(match L2.atI ((a::r).map T.int) ((k % (a::r).length:Nat):Int)with | some t=>Rs.ok t | none=> .bad)=_
   rw[kn e]
  have g2:o2 kU (vr 1) (cl cQ (ae (vr 0) ai)) [.va (.scr (a::r)),.va (.int k)] = .ok (.int ((k:Int) / ((a::r).length:Nat))):=by
   refine aA (t:=.int k) (u:=.int ((a::r).length:Nat)) rfl ?_ (mE hl hl2)
   refine aJ (ts:=[.scr (a::r)]) rfl ?_
   show Rs.ok (T.int (((a::r).map T.int).length:Nat))=_
   rw[Ig]
  refine⟨(a::r)[k % (a::r).length] +6553*((k:Int) / ((a::r).length:Nat)),bz rfl ?_⟩
  unfold ji
  show aC _ _ [.va (.scr (a::r)),.va (.int k)] =_
  refine(az (Z':=[.va (.scr (a::r)),.va (.int k)]) ((cJ (bu e0)).trans rfl)).trans ?_
  exact bQ (aA (aA (t:=.scr (a::r)) rfl g0 g1) (aA (t:=.int 6553) rfl g2 (nS (by omega) (by omega))) rfl)
theorem di (ns:List Int)(k:Nat)(m:Int)(hn:ns.length<=63)(hm:0<m):∃r,aF [.scr ns,.int k,.int m] = .ok (.int r)/\0<=r/\r<m:=by
 obtain⟨c,hc⟩:=Er ns k hn
 have b1:∀x:Int,0<=x % 2147483563/\x % 2147483563<2147483563:=λx=>⟨Nf _ (by omega),Mj _ (by omega)⟩
 have b2:∀x:Int,0<=x % 2147483399/\x % 2147483399<2147483399:=λx=>⟨Nf _ (by omega),Mj _ (by omega)⟩
 generalize hx:(c % 2147483563*69069+104723*((k:Int)+1)) % 2147483563=x
 have hx':=b1 (c % 2147483563*69069+104723*((k:Int)+1));rw[hx]at hx'
 generalize hy:(x*x+x / 3) % 2147483399=y
 have hy':=b2 (x*x+x / 3);rw[hy]at hy';refine⟨(y*y+y / 7) % 2147483647 / 11 % m,bz rfl ?_,Nf _ (by omega),Mj _ hm⟩
 show hU [.va (.scr ns),.va (.int k),.va (.int m),.em] =_
 unfold hU
 have s1:cu (o2 kO (o2 aX (o2 cq (o2 kO (cl fw (ae (vr 0) (ae (vr 1) ai))) (cn (.int 2147483563))) (cn (.int 69069))) (o2 cq (cn (.int 104723)) (o2 aX (vr 1) (cn (.int 1))))) (cn (.int 2147483563))) (gN 3) [.va (.scr ns),.va (.int k),.va (.int m),.em] = .ok (.nx [.va (.scr ns),.va (.int k),.va (.int m),.va (.int x)]):=by
  refine bL (t:=.int x) (aA (u:=.int 2147483563) (aA (aA (u:=.int 69069) (aA (u:=.int 2147483563) (aJ (ts:=[.scr ns,.int k]) rfl hc) rfl (kh (by omega))) rfl (y9 (by omega) (by omega))) (aA (t:=.int 104723) (u:=.int ((k:Int)+1)) rfl rfl (nS (by omega) (by omega))) rfl) rfl ?_) rfl
  rw[kh (by omega),hx]
 have s2:cu (o2 kO (o2 aX (o2 cq (vr 3) (vr 3)) (o2 kU (vr 3) (cn (.int 3)))) (cn (.int 2147483399))) (gN 3) [.va (.scr ns),.va (.int k),.va (.int m),.va (.int x)] = .ok (.nx [.va (.scr ns),.va (.int k),.va (.int m),.va (.int y)]):=by
  refine bL (t:=.int y) (aA (u:=.int 2147483399) (aA (aA (t:=.int x) (u:=.int x) rfl rfl (nS (by omega) (by omega))) (aA (t:=.int x) (u:=.int 3) rfl rfl (mE (by omega) (by omega))) rfl) rfl ?_) rfl
  rw[kh (by omega),hy]
 rw[az s1,az s2];exact bQ (aA (u:=.int m) (aA (u:=.int 11) (aA (u:=.int 2147483647) (aA (aA (t:=.int y) (u:=.int y) rfl rfl (nS (by omega) (by omega))) (aA (t:=.int y) (u:=.int 7) rfl rfl (mE (by omega) (by omega))) rfl) rfl (kh (by omega))) rfl (mE (by omega) (by omega))) rfl (kh hm))
theorem dP {ns:List Int}{k:Nat}{m r:Int}{f g h:En->Rs T}{Z:En}(e:aF [.scr ns,.int k,.int m] = .ok (.int r))(h1:f Z= .ok (.scr ns))(h2:g Z= .ok (.int k))(h3:h Z= .ok (.int m)) :
  cl aF (ae f (ae g (ae h ai))) Z= .ok (.int r):=aJ (au h1 (au h2 (au h3 rfl))) e
theorem sO:∀(l:List Int) (z y:Int),oH (l++ [z])=true->z<y->oH (l++ [z] ++ [y])=true
 | [],z,y,_,h=>by simp[oH,h]
 | [a],z,y,h,hy=>by
  simp[oH]at h ⊢
  omega
 | a::b::l,z,y,h,hy=>by
  have h':oH (a::b::(l++ [z]))=true:=h;rw[E6,HZ]at h'
  have ih:=sO (b::l) z y h'.2 hy
  show oH (a::b::(l++ [z] ++ [y]))=true
  rw[E6,h'.1];exact ih
theorem nF:∀l:List Int,kM (l.map .int)=some l
 | [] =>rfl
 | a::l=>by rw[Ic,kM,nF l]
def RdOk (l:List Int):Prop:=∃(l':List Int) (z:Int),l=l'++ [z]/\oH l=true/\(∀x∈l,0<=x/\x<=5*l.length)/\z<=5*l.length
abbrev clF:En->Rs Fl:=cu (o2 aX (vr 3) (aO (ae (o2 aX (o2 aX (o2 aP (vr 3) (o1 lx (cn (.int 1)))) (cn (.int 1))) (cl aF (ae (vr 0) (ae (o2 aX (o2 aX (vr 1) (cn (.int 3))) (vr 4)) (ae (cn (.int 5)) ai))))) ai))) (gN 3)
theorem BI (l:List T)(z:T):aP (.tup (l++ [z])) (.int (-1))= .ok z:=by
 have e:L2.atI (l++ [z]) (-1)=some z:=by
  unfold L2.atI L2.ixN;simp;rw[if_pos (by omega)]
  have q:(-1+((l.length:Int)+1)).toNat=l.length:=by omega
  show(l++ [z])[(-1+((l.length:Int)+1)).toNat]? =some z
  rw[q];simp
 show(match L2.atI (l++ [z]) (-1)with | some t=>Rs.ok t | none=> .bad)=_
 rw[e]
theorem B3 (ns:List Int)(hn:ns.length<=63)(a j:Nat)(s:T)(l:List Int)(h:RdOk l)(hl:l.length<=3):∃l2,clF [.va (.scr ns),.va (.int a),.va s,.va (.tup (l.map .int)),.va (.int j)] = .ok (.nx [.va (.scr ns),.va (.int a),.va s,.va (.tup (l2.map .int)),.va (.int j)])/\RdOk l2/\l2.length=l.length+1:=by
 obtain⟨l',z,rfl,h1,h2,h3⟩:=h;obtain⟨d,ed,d0,d1⟩:=di ns (a+3+j) 5 hn (by omega)
 refine⟨l'++ [z] ++ [z+1+d],?_,⟨l'++ [z],z+1+d,rfl,sO l' z _ h1 (by omega),?_,?_⟩,by simp⟩
 ·refine bL (t:=.tup ((l'++ [z] ++ [z+1+d]).map .int)) (aA (t:=.tup ((l'++ [z]).map .int)) (u:=.tup [.int (z+1+d)]) rfl (bJ (ts:=[.int (z+1+d)]) (au (aA (t:=.int (z+1)) (u:=.int d) (aA (t:=.int z) (u:=.int 1) (aA (t:=.tup ((l'++ [z]).map .int)) (u:=.int (-1)) rfl rfl ?_) rfl rfl) (dP (k:=a+3+j) ed rfl ?_ rfl) rfl) rfl) (ax (k:=1) (by simp))) ?_) rfl
  ·rw[JG];exact BI _ _
  ·refine aA (t:=.int ((a:Int)+3)) (u:=.int j) (aA (t:=.int a) (u:=.int 3) rfl rfl rfl) rfl ?_
   show Rs.ok (T.int ((a:Int)+3+j))=_
   congr 2
  ·rw[JG (l₁:=l'++ [z])]
   exact mG _ _ (by rw[Ih,Ig];simp at hl ⊢;omega)
 ·intro x hx
  rcases IB.mp hx with hx | hx
  ·have:=h2 x hx
   simp only[Ih,JW]at this ⊢;omega
  ·rw[Iv]at hx
   subst hx
   have hz:=h2 z (by simp)
   simp only[Ih,JW]at h3 ⊢;omega
 ·simp only[Ih,JW]at h3 ⊢
  omega
theorem wt (ns:List Int)(hn:ns.length<=63)(a:Nat)(s:T):∀(js:List Nat) (l:List Int) (s4:Sl),RdOk l->l.length+js.length<=4->∃l2 s5,br (gN 4) clF (js.map λ(j:Nat)=>T.int j) [.va (.scr ns),.va (.int a),.va s,.va (.tup (l.map .int)),s4] = .ok (.nx [.va (.scr ns),.va (.int a),.va s,.va (.tup (l2.map .int)),s5])/\RdOk l2/\l2.length=l.length+js.length
 | [],l,s4,h,_=>⟨l,s4,rfl,h,rfl⟩
 | j::js,l,s4,h,hl=>by
  rw[Io]at hl;obtain⟨l2,e2,h2,n2⟩:=B3 ns hn a j s l h (by omega)
  obtain⟨l3,s5,e3,h3,n3⟩:=wt ns hn a s js l2 (.va (.int j)) h2 (by omega)
  refine⟨l3,s5,?_,h3,by rw[n3,n2,Io];omega⟩
  rw[Ic,e9 (Z1:=[.va (.scr ns),.va (.int a),.va s,.va (.tup (l.map .int)),.va (.int j)]) rfl e2];exact e3
theorem mm (n:Nat):rng 0 (n:Int)=(Iw n).map λ(j:Nat)=>T.int j:=by
 unfold rng;simp
theorem RdOk.reads {l:List Int}(h:RdOk l)(hl:l.length<=4):dh (.tup (l.map .int))=true:=by
 obtain⟨l',z,rfl,h1,h2,h3⟩:=h;unfold dh;rw[HZ];refine⟨?_,?_⟩
 ·simp[eI];simp at hl;omega
 ·show(((l'++ [z]).map T.int).all (λu=>ba u 0 99)&&(match kM ((l'++ [z]).map T.int)with | some m=>oH m | none=>false))=true
  rw[nF]
  show(_&&oH (l'++ [z]))=true
  rw[h1,N3,IR];intro t ht;obtain⟨x,hx,rfl⟩:=ID.mp ht
  have:=h2 x hx;simp only[ba,HZ,decide_eq_true_eq];omega
theorem AG (n:Nat)(l:List Int)(h:l.length<=n):sm n (.tup (l.map .int))=true:=sm_tup.mpr ⟨by rw[Ig];exact h,λt ht=>by obtain⟨x,_,rfl⟩:=ID.mp ht;simp[sm]⟩
theorem z0 (ns:List Int)(hn:ns.length<=63)(a:Nat):∃c,cA [.scr ns,.int a] = .ok c/\bH c=true/\sm 8 c=true:=by
 obtain⟨d1,e1,p1,q1⟩:=di ns a 3 hn (by omega)
 obtain⟨d2,e2,p2,q2⟩:=di ns (a+2) 6 hn (by omega)
 obtain⟨d3,e3,p3,q3⟩:=di ns (a+1) 3 hn (by omega)
 obtain⟨d4,e4,p4,q4⟩:=di ns (a+6) 3 hn (by omega)
 obtain⟨n3,rfl⟩:=Jc p3;obtain⟨l,s5,el,hl,nl⟩:=wt ns hn a (.int (1+d1)) (Iw n3) [d2] .em ⟨[],d2,rfl,rfl,λx hx=>by rw[Iv]at hx;subst hx;simp;omega,by simp;omega⟩ (by simp;omega)
 have nl':l.length<=4:=by rw[nl];simp;omega
 have hr:=hl.reads nl';refine⟨.tup [.int (1+d1),.int (1+d1+d4),.tup (l.map .int)],bz rfl ?_,?_,?_⟩
 ·show hV [.va (.scr ns),.va (.int a),.em,.em,.em] =_
  unfold hV;rw[az (Z':=[.va (.scr ns),.va (.int a),.va (.int (1+d1)),.em,.em]) (bL (t:=.int (1+d1)) (aA (t:=.int 1) rfl (dP e1 rfl rfl rfl) rfl) rfl)];rw[az (Z':=[.va (.scr ns),.va (.int a),.va (.int (1+d1)),.va (.tup ([d2].map .int)),.em]) (bL (t:=.tup [.int d2]) (bJ (ts:=[.int d2]) (au (dP (k:=a+2) e2 rfl rfl rfl) rfl) (ax (k:=1) (by simp))) rfl)]
  rw[az ((gK (EI (au (dP (k:=a+1) e3 rfl rfl rfl) rfl) (by omega) (by omega)) (by rw[mm];exact el)))]
  exact bQ (bJ (au (t:=.int (1+d1)) rfl (au (aA (t:=.int (1+d1)) rfl (dP (k:=a+6) e4 rfl rfl rfl) rfl) (au (t:=.tup (l.map .int)) rfl rfl))) (ax (k:=3) (by simp)))
 ·show(true&&(oS (.int (1+d1)) (.int (1+d1+d4))&&dh _))=true
  rw[hr];simp only[oS,ba,LN,N3,HZ,decide_eq_true_eq];omega
 ·refine sm_tup.mpr ⟨by simp,λt ht=> ?_⟩
  rcases Ij.mp ht with rfl | ht
  ·simp[sm]
  ·rcases Ij.mp ht with rfl | ht
   ·simp[sm]
   ·rw[Iv]at ht;subst ht;exact AG 8 l (by omega)
theorem mx {y:T}:∀(cs:List T) (i:Nat),y∈fo i cs->∃c k:Nat,y= .tup [.int c,.int k]/\i<=c/\c<i+cs.length/\k<C1 (cs.getD (c - i) .non)
 | [],i,h=>by cases h
 | x::cs,i,h=>by
  rw[fo]at h;rcases IB.mp h with h | h
  ·unfold mf at h
   obtain⟨t,ht,rfl⟩:=ID.mp h;obtain⟨j,rfl,hj⟩:=qD ht;refine⟨i,j,rfl,Il _,by rw[Io];omega,?_⟩
   rw[K9]
   show j<C1 x
   omega
  ·obtain⟨c,k,e,h1,h2,h3⟩:=mx cs (i+1) h
   refine⟨c,k,e,by omega,by rw[Io];omega,?_⟩
   have:c - i=(c - (i+1))+1:=by omega
   rw[this];exact h3
theorem zN {cs:List T}{y:T}(h:y∈fo 0 cs):aU cs y=true:=by
 obtain⟨c,k,rfl,_,h2,h3⟩:=mx cs 0 h
 show(decide ((0:Int)<=(c:Int))&&decide ((c:Int)<(cs.length:Int))&&(decide ((0:Int)<=(k:Int))&&decide ((k:Int)<(reads cs (c:Int):Int))))=true
 rw[M8]at h3;rw[pD];simp only[HZ,decide_eq_true_eq];omega
theorem lj:∀(cs:List T) (i:Nat),(fo i cs).Nodup
 | [],i=>Kz
 | x::cs,i=>by
  rw[fo,JQ];refine⟨?_,lj cs (i+1),?_⟩
  ·unfold mf rng
   rw[J3];rw[Mb,List.pairwise_map];refine List.nodup_range.imp ?_
   intro a b hab e
   simp at e
   exact hab (by omega)
  ·intro a ha b hb e
   subst e;unfold mf at ha;obtain⟨t,ht,rfl⟩:=ID.mp ha;obtain⟨c,k,e,h1,_,_⟩:=mx cs (i+1) hb
   simp at e
   omega
theorem yY {l:List T}(h:l.Nodup){i j:Nat}(hi:i<l.length)(hj:j<l.length)(hij:i≠j):l[i] ≠l[j]:=by
 rw[Mb,List.pairwise_iff_getElem]at h;rcases Nat.lt_or_ge i j with q | q
 ·exact h i j hi hj q
 ·exact λe=>h j i hj hi (by omega) e.symm
theorem rK:∀(cs:List T) (i:Nat),(∀c∈cs,bH c=true)->(fo i cs).length<=4*cs.length
 | [],i,_=>Il _
 | x::cs,i,h=>by
  obtain⟨a,b,r,rfl,_,h2⟩:=fy (h x Ie)
  have:=rK cs (i+1) λc hc=>h c (Ia _ hc)
  rw[fo,Ih,gL,Io]
  show r.length+_<=_
  omega
theorem zM {cs:List T}{a b:T}(ha:aU cs a=true)(hb:aU cs b=true)(h:a≠b):aT a b=false:=by
 obtain⟨c,k,rfl⟩:=cR ha;obtain⟨c',k',rfl⟩:=cR hb;rw[Bool.eq_false_iff];intro e;simp[aT,beqTs]at e;exact h (by rw[e.1,e.2])
theorem sA {cs:List T}{a:T}(ha:aU cs a=true):sm 8 a=true:=by
 obtain⟨c,k,rfl⟩:=cR ha;simp[sm,sms]
theorem uY {l:List T}{i:Nat}(h:i<l.length):aP (.lst l) (.int (i:Int))= .ok l[i]:=by
 show(match L2.atI l (i:Int)with | some t=>Rs.ok t | none=> .bad)=_
 rw[kn (Ir h)]
theorem Em (a b:Int):oJ (.int a) (.int b)= .ok (.bl (a == b)):=by
 unfold oJ;rw[if_pos (eK (by simp[T.dep]) rfl rfl)]
 rfl
theorem xF (ns:List Int)(hn:ns.length<=63)(a:Nat)(cs:List T)(hc:bo (.tup cs)=true):∃r,da [.scr ns,.int a,.tup cs] = .ok r/\(r= .non\/(aZ cs r=true/\sm 8 r=true)):=by
 obtain⟨ha,h1,h4⟩:=c6 hc
 have hlen:=rK cs 0 ha
 have er:=zY cs hc
 have gl:∀s4 s5 s6 s7:Sl,cl cQ (ae (vr 3) ai) [.va (.scr ns),.va (.int a),.va (.tup cs),.va (.lst (fo 0 cs)),s4,s5,s6,s7] = .ok (.int ((fo 0 cs).length:Nat)):=λ_ _ _ _=>rfl
 have s1:cu (cl dH (ae (vr 2) ai)) (gN 3) [.va (.scr ns),.va (.int a),.va (.tup cs),.em,.em,.em,.em,.em] = .ok (.nx [.va (.scr ns),.va (.int a),.va (.tup cs),.va (.lst (fo 0 cs)),.em,.em,.em,.em]):=bL (aJ (ts:=[.tup cs]) rfl er) rfl
 have lt:o2 Cr (cl cQ (ae (vr 3) ai)) (cn (.int 2)) [.va (.scr ns),.va (.int a),.va (.tup cs),.va (.lst (fo 0 cs)),.em,.em,.em,.em] = .ok (.bl (decide (((fo 0 cs).length:Int)<2))):=aA (t:=.int ((fo 0 cs).length:Nat)) (u:=.int 2) (gl _ _ _ _) rfl rfl
 by_cases hs:(fo 0 cs).length<2
 ·refine⟨.non,bz rfl ?_,.inl rfl⟩
  show dM [.va (.scr ns),.va (.int a),.va (.tup cs),.em,.em,.em,.em,.em] =_
  unfold dM;rw[az s1];rw[decide_eq_true (by omega)]at lt
  exact gq ((fK (bu lt)).trans rfl)
 ·rw[decide_eq_false (by omega)]at lt
  generalize hN:(fo 0 cs).length=n at*
  obtain⟨d1,e1,p1,q1⟩:=di ns a (n:Int) hn (by omega)
  obtain⟨d2,e2,p2,q2⟩:=di ns (a+1) ((n:Int) - 1) hn (by omega)
  obtain⟨d3,e3,p3,q3⟩:=di ns (a+2) 8 hn (by omega)
  obtain⟨d4,e4,p4,q4⟩:=di ns (a+3) 3 hn (by omega)
  obtain⟨d5,e5,p5,q5⟩:=di ns (a+4) 9 hn (by omega)
  obtain⟨i,rfl⟩:=Jc p1;obtain⟨d2,rfl⟩:=Jc p2
  have hi:i<(fo 0 cs).length:=by omega
  have hj:(i+1+d2) % n<(fo 0 cs).length:=by rw[hN];exact Nat.mod_lt _ (by omega)
  have hij:i≠(i+1+d2) % n:=by
   rcases Nat.lt_or_ge (i+1+d2) n with q | q
   ·rw[OI q];omega
   ·have:(i+1+d2) % n=i+1+d2 - n:=by
     rw[Nat.mod_eq_sub_mod q,OI (by omega)]
    rw[this];omega
  have eA:=zN (JK hi)
  have eB:=zN (JK hj)
  have eN:(fo 0 cs)[i] ≠(fo 0 cs)[(i+1+d2) % n]:=yY (lj cs 0) hi hj hij
  generalize hA:(fo 0 cs)[i] =A at*
  generalize hB:(fo 0 cs)[(i+1+d2) % n] =B at*
  let y:T:=if d4 == 0 then .non else .int (d3+d5)
  refine⟨.tup [A,B,.int d3,y],bz rfl ?_,.inr ⟨?_,?_⟩⟩
  ·show dM [.va (.scr ns),.va (.int a),.va (.tup cs),.em,.em,.em,.em,.em] =_
   unfold dM;rw[az s1];rw[az (Z':=[.va (.scr ns),.va (.int a),.va (.tup cs),.va (.lst (fo 0 cs)),.em,.em,.em,.em]) ((cJ (bu lt)).trans rfl)];rw[az (Z':=[.va (.scr ns),.va (.int a),.va (.tup cs),.va (.lst (fo 0 cs)),.va (.int (i:Nat)),.em,.em,.em]) (bL (dP e1 rfl rfl (gl _ _ _ _)) rfl)];rw[az (Z':=[.va (.scr ns),.va (.int a),.va (.tup cs),.va (.lst (fo 0 cs)),.va (.int (i:Nat)),.va (.int ((i+1+d2) % n:Nat)),.em,.em]) (bL (t:=.int ((i+1+d2) % n:Nat)) (aA (t:=.int ((i:Int)+1+d2)) (u:=.int n) (aA (t:=.int ((i:Int)+1)) (u:=.int d2) rfl (dP (k:=a+1) e2 rfl rfl (aA (t:=.int n) (u:=.int 1) (gl _ _ _ _) rfl rfl)) rfl) (gl _ _ _ _) (kh (by omega))) rfl)]
   rw[az (Z':=[.va (.scr ns),.va (.int a),.va (.tup cs),.va (.lst (fo 0 cs)),.va (.int (i:Nat)),.va (.int ((i+1+d2) % n:Nat)),.va (.int d3),.em]) (bL (dP (k:=a+2) e3 rfl rfl rfl) rfl)]
   have ey:Cw (tb (o2 oJ (cl aF (ae (vr 0) (ae (o2 aX (vr 1) (cn (.int 3))) (ae (cn (.int 3)) ai)))) (cn (.int 0)))) (cn .non) (o2 aX (vr 6) (cl aF (ae (vr 0) (ae (o2 aX (vr 1) (cn (.int 4))) (ae (cn (.int 9)) ai))))) [.va (.scr ns),.va (.int a),.va (.tup cs),.va (.lst (fo 0 cs)),.va (.int (i:Nat)),.va (.int ((i+1+d2) % n:Nat)),.va (.int d3),.em] = .ok y:=by
    rw[tS (bu (aA (u:=.int 0) (dP (k:=a+3) e4 rfl rfl rfl) rfl (Em _ _)))]
    show _=Rs.ok (if d4 == 0 then T.non else .int (d3+d5))
    cases d4 == 0 with
    | true=>rfl
    | false=>exact aA (t:=.int d3) rfl (dP (k:=a+4) e5 rfl rfl rfl) rfl
   rw[az (Z':=[.va (.scr ns),.va (.int a),.va (.tup cs),.va (.lst (fo 0 cs)),.va (.int (i:Nat)),.va (.int ((i+1+d2) % n:Nat)),.va (.int d3),.va y]) (bL ey rfl)];refine bQ (bJ (au (t:=A) (aA (t:=.lst (fo 0 cs)) (u:=.int (i:Nat)) rfl rfl ?_) (au (t:=B) (aA (t:=.lst (fo 0 cs)) (u:=.int ((i+1+d2) % n:Nat)) rfl rfl ?_) (au (t:=.int d3) rfl (au (t:=y) rfl rfl)))) (ax (k:=4) (by simp)))
   ·rw[<-hA];exact uY hi
   ·rw[<-hB];exact uY hj
  ·show(cY (.int d3) y&&(aU cs A&&(aU cs B&& !aT A B)))=true
   rw[eA,eB,zM eA eB eN]
   have:cY (.int d3) y=true:=by
    show(ba (.int d3) 0 999&&(match(T.int d3),(if d4 == 0 then T.non else .int (d3+d5))with | _,.non=>true | .int i,_=>ba (if d4 == 0 then T.non else .int (d3+d5)) i 999 | _,_=>false))=true
    cases d4 == 0 with
    | true=>simp[ba];omega
    | false=>simp[ba];omega
   rw[this];rfl
  ·refine sm_tup.mpr ⟨by simp,λt ht=> ?_⟩
   have hy:sm 8 y=true:=by show sm 8 (if d4 == 0 then T.non else .int (d3+d5))=true;cases d4 == 0 <;> simp[sm]
   simp only[Ij,IM,or_false]at ht;rcases ht with rfl | rfl | rfl | rfl
   ·exact sA eA
   ·exact sA eB
   ·simp[sm]
   ·exact hy
def okv:Rs T->T
 | .ok t=>t
 | _=> .non
theorem rl (l:List T)(k:Int)(h : -(2 ^ 63)<=k/\k<2 ^ 63/\l.length*k.toNat<=sizeLine):cq (.lst l) (.int k)= .ok (.lst (IE k.toNat l).flatten):=by
 show uT (.lst l) (.int k)=_
 unfold uT;exact if_pos h
theorem mul_one (x:T)(b:Bool):cq (.lst [x]) (.int (if b then 1 else 0))= .ok (.lst (if b then [x]else [])):=by
 cases b with
 | true=>exact rl [x] 1 ⟨by decide,by decide,ax (k:=1) (by simp)⟩
 | false=>exact rl [x] 0 ⟨by decide,by decide,ax (k:=1) (by simp)⟩
abbrev leF:En->Rs Fl:=aC (cu (cl da (ae (vr 0) (ae (o2 aX (o2 aX (vr 1) (cn (.int 31))) (o2 cq (cn (.int 6)) (vr 5))) (ae (vr 3) ai)))) (gN 6)) (cu (o2 aX (vr 4) (o2 cq (ff (ae (vr 6) ai)) (cl zB (ae (o2 jO (vr 6) (cn .non)) ai)))) (gN 4))
def xS (cs ls:List T):Prop:=∀t∈ls,aZ cs t=true/\sm 8 t=true
theorem BE (ns:List Int)(hn:ns.length<=63)(a j:Nat)(m:T)(cs ls:List T)(hc:bo (.tup cs)=true)(h:xS cs ls)(hl:ls.length<=100)(s6:Sl) :
  ∃ls2 s7,leF [.va (.scr ns),.va (.int a),.va m,.va (.tup cs),.va (.lst ls),.va (.int j),s6] = .ok (.nx [.va (.scr ns),.va (.int a),.va m,.va (.tup cs),.va (.lst ls2),.va (.int j),s7])/\xS cs ls2/\ls2.length<=ls.length+1:=by
 obtain⟨r,er,hr⟩:=xF ns hn (a+31+6*j) cs hc
 have e1:∀G,aC (cu (cl da (ae (vr 0) (ae (o2 aX (o2 aX (vr 1) (cn (.int 31))) (o2 cq (cn (.int 6)) (vr 5))) (ae (vr 3) ai)))) (gN 6)) G [.va (.scr ns),.va (.int a),.va m,.va (.tup cs),.va (.lst ls),.va (.int j),s6] =G [.va (.scr ns),.va (.int a),.va m,.va (.tup cs),.va (.lst ls),.va (.int j),.va r]:=λG=>by
  refine az (bL (t:=r) (aJ (ts:=[.scr ns,.int (a+31+6*j:Nat),.tup cs]) (au (t:=.scr ns) rfl (au (t:=.int (a+31+6*j:Nat)) (aA (t:=.int ((a:Int)+31)) (u:=.int (6*(j:Int))) rfl (aA (t:=.int 6) (u:=.int j) rfl rfl (nS (by omega) (by omega))) rfl) (au (t:=.tup cs) rfl rfl))) er) rfl)
 have e2:cl zB (ae (o2 jO (vr 6) (cn .non)) ai) [.va (.scr ns),.va (.int a),.va m,.va (.tup cs),.va (.lst ls),.va (.int j),.va r] = .ok (.int (if !r.isN then 1 else 0)):=aJ (ts:=[.bl (!r.isN)]) rfl rfl
 refine⟨ls++(if !r.isN then [r]else []),.va r,?_,?_,?_⟩
 ·refine(e1 _).trans (bL (aA (t:=.lst ls) (u:=.lst (if !r.isN then [r]else [])) rfl (aA (t:=.lst [r]) (ie (ts:=[r]) rfl (ax (k:=1) (by simp))) e2 (mul_one _ _)) (k6 _ _ ?_)) rfl)
  rw[Ih];cases r.isN <;> simp <;> omega
 ·intro t ht
  rcases IB.mp ht with ht | ht
  ·exact h t ht
  ·rcases hr with rfl | hr
   ·cases ht
   ·cases q:r.isN with
    | true=>rw[q]at ht;cases ht
    | false=>
     rw[q]at ht;rw[show t=r by simpa using ht]
     exact hr
 ·rw[Ih]
  cases r.isN <;> simp
theorem vO (ns:List Int)(hn:ns.length<=63)(a:Nat)(m:T)(cs:List T)(hc:bo (.tup cs)=true):∀(js:List Nat) (ls:List T) (s5 s6:Sl),xS cs ls->ls.length+js.length<=100 →
  ∃ls2 t5 t6,br (gN 5) leF (js.map λ(j:Nat)=>T.int j) [.va (.scr ns),.va (.int a),.va m,.va (.tup cs),.va (.lst ls),s5,s6] = .ok (.nx [.va (.scr ns),.va (.int a),.va m,.va (.tup cs),.va (.lst ls2),t5,t6])/\xS cs ls2/\ls2.length<=ls.length+js.length
 | [],ls,s5,s6,h,_=>⟨ls,s5,s6,rfl,h,Il _⟩
 | j::js,ls,s5,s6,h,hl=>by
  rw[Io]at hl;obtain⟨l2,s7,e2,h2,n2⟩:=BE ns hn a j m cs ls hc h (by omega) s6
  obtain⟨l3,t5,t6,e3,h3,n3⟩:=vO ns hn a m cs hc js l2 (.va (.int j)) s7 h2 (by omega)
  refine⟨l3,t5,t6,?_,h3,by rw[Io];omega⟩
  rw[Ic,e9 (Z1:=[.va (.scr ns),.va (.int a),.va m,.va (.tup cs),.va (.lst ls),.va (.int j),s6]) rfl e2];exact e3
theorem zZ (ns:List Int)(hn:ns.length<=63)(a m:Nat)(hm:m<=8):∃cs ls,dG [.scr ns,.int a,.int m] = .ok (RR cs ls)/\bo (.tup cs)=true/\cs.length<=3/\(∀c∈cs,sm 8 c=true)/\xS cs ls/\ls.length<=m:=by
 obtain⟨d1,e1,p1,q1⟩:=di ns a 3 hn (by omega)
 obtain⟨d2,e2,p2,q2⟩:=di ns (a+30) ((m:Int)+1) hn (by omega)
 obtain⟨d1,rfl⟩:=Jc p1;obtain⟨d2,rfl⟩:=Jc p2
 let hcl:T->T:=λt=>match t with
  | .int k=>okv (cA [.scr ns,.int ((a:Int)+1+8*k)])
  | _=> .non
 have hh:∀t∈rng 0 ((1+d1:Nat):Int),∃k:Nat,t= .int k/\cA [.scr ns,.int ((a+1+8*k:Nat):Int)] = .ok (hcl t)/\bH (hcl t)=true/\sm 8 (hcl t)=true:=λt ht=>by
  obtain⟨k,rfl,_⟩:=qD ht;obtain⟨c,ec,h1,h2⟩:=z0 ns hn (a+1+8*k)
  have e:hcl (.int k)=c:=by
   show okv (cA [.scr ns,.int ((a+1+8*k:Nat):Int)])=c
   rw[ec];rfl
  exact⟨k,rfl,by rw[e];exact ec,by rw[e];exact h1,by rw[e];exact h2⟩
 generalize hcs:(rng 0 ((1+d1:Nat):Int)).map hcl=cs
 have lc:cs.length=1+d1:=by rw[<-hcs,Ig,kJ]
 have hc:bo (.tup cs)=true:=by
  show(eI (.tup cs) 1 4&&cs.all bH)=true
  rw[HZ,IR];refine⟨by simp[eI];omega,λc h=> ?_⟩
  rw[<-hcs]at h;obtain⟨t,ht,rfl⟩:=ID.mp h;obtain⟨_,_,_,h1,_⟩:=hh t ht;exact h1
 have hsm:∀c∈cs,sm 8 c=true:=λc h=>by
  rw[<-hcs]at h;obtain⟨t,ht,rfl⟩:=ID.mp h;obtain⟨_,_,_,_,h1⟩:=hh t ht;exact h1
 obtain⟨ls,t5,t6,el,hl,nl⟩:=vO ns hn a (.int m) cs hc (Iw d2) [] .em .em (λt h=>by cases h) (by simp;omega)
 refine⟨cs,ls,bz rfl ?_,hc,by omega,hsm,hl,by simp at nl;omega⟩
 show gB [.va (.scr ns),.va (.int a),.va (.int m),.em,.em,.em,.em] =_
 unfold gB
 have s1:cu (cl fD (ae (fA (iR (ae (o2 aX (cn (.int 1)) (cl aF (ae (vr 0) (ae (vr 1) (ae (cn (.int 3)) ai))))) ai)) [none,some 0,some 1] (gN 0) bT (cl cA (ae (vr 1) (ae (o2 aX (o2 aX (vr 2) (cn (.int 1))) (o2 cq (cn (.int 8)) (vr 0))) ai)))) ai)) (gN 3) [.va (.scr ns),.va (.int a),.va (.int m),.em,.em,.em,.em] = .ok (.nx [.va (.scr ns),.va (.int a),.va (.int m),.va (.tup cs),.em,.em,.em]):=by
  refine bL (t:=.tup cs) (aJ (ts:=[.lst cs]) (au (t:=.lst cs) ?_ rfl) rfl) rfl
  rw[<-hcs];refine rB (ts:=rng 0 ((1+d1:Nat):Int)) (h:=hcl) (EI (au (t:=.int ((1+d1:Nat):Int)) (aA (t:=.int 1) (u:=.int d1) rfl (dP e1 rfl rfl rfl) rfl) rfl) (by omega) (by omega)) (ax (k:=3) (by rw[kJ];omega)) (by simp) λt ht=> ?_
  obtain⟨k,rfl,ek,_,_⟩:=hh t ht;refine aJ (ts:=[.scr ns,.int ((a+1+8*k:Nat):Int)]) (au (t:=.scr ns) rfl (au (aA (t:=.int ((a:Int)+1)) (u:=.int (8*(k:Int))) rfl (aA (t:=.int 8) (u:=.int k) rfl rfl (nS (by omega) (by omega))) rfl) rfl)) ek
 rw[az s1];rw[az (Z':=[.va (.scr ns),.va (.int a),.va (.int m),.va (.tup cs),.va (.lst []),.em,.em]) (bL (ie (ts:=[]) rfl (ax (k:=0) (by simp))) rfl)]
 rw[az ((gK (EI (au (dP (k:=a+30) e2 rfl rfl (aA (t:=.int m) (u:=.int 1) rfl rfl rfl)) rfl) (by omega) (by omega)) (by rw[mm];exact el)))]
 exact bQ (bJ (au (t:=.tup cs) rfl (au (t:=.tup ls) rfl rfl)) (ax (k:=2) (by simp)))
theorem dB {cs:List T}{t:T}(h:aZ cs t=true):∃a b x y,t= .tup [a,b,x,y]/\cY x y=true/\aU cs a=true/\aU cs b=true/\aT a b=false:=by
 unfold aZ at h
 split at h
 ·simp only[HZ,Ol]at h
  exact⟨_,_,_,_,rfl,h.1,h.2.1,h.2.2.1,h.2.2.2⟩
 ·cases h
theorem C0 {cs ls:List T}(hc:bo (.tup cs)=true)(hs:∀c∈cs,sm 8 c=true)(hl:xS cs ls)(hn:ls.length<=8):eY (RR cs ls)=true/\sm 8 (RR cs ls)=true:=by
 refine⟨?_,?_⟩
 ·show(bo (.tup cs)&&(eI (.tup ls) 0 8&&ls.all (aZ cs)))=true
  rw[hc,LN,HZ,IR];exact⟨by simp[eI];exact hn,λt ht=>(hl t ht).1⟩
 ·refine sm_tup.mpr ⟨by simp,λt ht=> ?_⟩
  simp only[Ij,IM,or_false]at ht;rcases ht with rfl | rfl
  ·exact sm_tup.mpr ⟨by have:=(c6 hc).2.2;omega,hs⟩
  ·exact sm_tup.mpr ⟨hn,λt ht=>(hl t ht).2⟩
end G
namespace Tr
open PySem
section
variable {f fa fb:En->Rs T}{fs:En->Rs (List T)}{b c:En->Rs Bool}{F G:En->Rs Fl}{Z Z' Z1 Z2:En}{t u r:T}{ts l m:List T}
mutual
theorem jz:∀(t:T),t.pl=true->aT t t=true
 | .non,_=>rfl
 | .bl a,_=>by simp[aT]
 | .int a,_=>by simp[aT]
 | .str a,_=>by simp[aT]
 | .tup l,h=>by rw[aT];exact beqTs_refl l (by unfold T.pl at h;exact h)
 | .lst l,h=>by rw[aT];exact beqTs_refl l (by unfold T.pl at h;exact h)
 | .scr _,h=>by simp[T.pl]at h
theorem beqTs_refl:∀(l:List T),plS l=true->beqTs l l=true
 | [],_=>rfl
 | t::l,h=>by
  unfold plS at h;rw[HZ]at h;rw[beqTs,jz t h.1,beqTs_refl l h.2];rfl
end
theorem gd (hp:t.pl=true)(hd:t.dep<=60):jQ t t= .ok (.bl false):=by
 unfold jQ;rw[if_pos (eK hd (T.GM _ hp) (T.GM _ hp)),jz t hp];rfl
theorem rL (hp:t.pl=true)(hd:t.dep<=60):oJ t t= .ok (.bl true):=by
 unfold oJ;rw[if_pos (eK hd (T.GM _ hp) (T.GM _ hp)),jz t hp]
theorem gp:∀{l:List T},(∀t∈l,t.pl=true)->plS l=true
 | [],_=>rfl
 | t::l,h=>by unfold plS;rw[h t Ie,gp λu hu=>h u (Ia _ hu)];rfl
end
end Tr
namespace G
open PySem Tr
def dr (r:List Int)(k:Nat):Int:=r.getD (k+1) 0 - r.getD k 0
def pr (n:Nat)(x y:Int)(r:List Int)(k:Nat):List T:=
 [.tup [.tup [.int n,.int k],.tup [.int n,.int ((k+1:Nat):Int)],.int (dr r k*y)],.tup [.tup [.int n,.int ((k+1:Nat):Int)],.tup [.int n,.int k],.int (-dr r k*x)]]
def cB (n:Nat)(x y:Int)(r:List Int):List T:=(Iw (r.length - 1)).flatMap (pr n x y r)
abbrev Ac (n:Nat)(x y:Int)(r:List Int)(acc:List T)(s4 s5 s6 s7:Sl):En:=[.va (.int n),.va (.tup [.int x,.int y,.tup (r.map .int)]),.va (.tup (r.map .int)),.ow (.lst acc),s4,s5,s6,s7]
abbrev bcF:En->Rs Fl:=(aC (cu (aO (ae (vr 0) (ae (vr 4) ai))) (gN 5)) (aC (cu (aO (ae (vr 0) (ae (o2 aX (vr 4) (cn (.int 1))) ai))) (gN 6)) (aC (cu (o2 iu (o2 aP (vr 2) (o2 aX (vr 4) (cn (.int 1)))) (o2 aP (vr 2) (vr 4))) (gN 7)) (aC (l5 3 (aO (ae (vr 5) (ae (vr 6) (ae (o2 cq (vr 7) (o2 aP (vr 1) (cn (.int 1)))) ai))))) (l5 3 (aO (ae (vr 6) (ae (vr 5) (ae (o2 cq (o1 lx (vr 7)) (o2 aP (vr 1) (cn (.int 0)))) ai)))))))))
theorem v7 {r:List Int}{k:Nat}(h:k<r.length):(r.map T.int)[k]? =some (.int (r.getD k 0)):=by
 rw[IF,Ir h]
 simp[h]
theorem B7 (n:Nat)(x y:Int)(r:List Int)(acc:List T)(k:Nat)(s5 s6 s7:Sl)(hk:k+1<r.length)(hx:0<=x/\x<=9)(hy:0<=y/\y<=9)(ha:acc.length<=100) :
  bcF (Ac n x y r acc (.va (.int k)) s5 s6 s7)= .ok (.nx (Ac n x y r (acc++pr n x y r k) (.va (.int k)) (.va (.tup [.int n,.int k])) (.va (.tup [.int n,.int ((k+1:Nat):Int)])) (.va (.int (dr r k))))):=by
 have h2:([T.int n,T.int k]:List T).length<=sizeLine:=ax (k:=2) (by simp)
 have ek:((k:Int)+1)=((k+1:Nat):Int):=by omega
 refine(az (Z':=Ac n x y r acc (.va (.int k)) (.va (.tup [.int n,.int k])) s6 s7) (bL (bJ rfl (ax (k:=2) (by simp))) rfl)).trans ?_
 refine(az (Z':=Ac n x y r acc (.va (.int k)) (.va (.tup [.int n,.int k])) (.va (.tup [.int n,.int ((k+1:Nat):Int)])) s7) (bL (bJ (au rfl (au (t:=.int ((k+1:Nat):Int)) (aA (t:=.int k) (u:=.int 1) rfl rfl (congrArg (λz=>Rs.ok (T.int z)) ek)) rfl)) (ax (k:=2) (by simp))) rfl)).trans ?_
 refine(az (Z':=Ac n x y r acc (.va (.int k)) (.va (.tup [.int n,.int k])) (.va (.tup [.int n,.int ((k+1:Nat):Int)])) (.va (.int (dr r k)))) (bL (t:=.int (dr r k)) (aA (t:=.int (r.getD (k+1) 0)) (u:=.int (r.getD k 0)) (Ea (n:=k+1) rfl (aA (t:=.int k) (u:=.int 1) rfl rfl (congrArg (λz=>Rs.ok (T.int z)) ek)) (v7 hk)) (Ea (n:=k) rfl rfl (v7 (by omega))) rfl) rfl)).trans ?_
 refine(az (Z':=Ac n x y r (acc++ [.tup [.tup [.int n,.int k],.tup [.int n,.int ((k+1:Nat):Int)],.int (dr r k*y)]]) (.va (.int k)) (.va (.tup [.int n,.int k])) (.va (.tup [.int n,.int ((k+1:Nat):Int)])) (.va (.int (dr r k)))) (vU (l:=acc) (bJ (au rfl (au rfl (au (aA (t:=.int (dr r k)) (u:=.int y) rfl rfl (y9 (by omega) (by omega))) rfl))) (ax (k:=3) (by simp))) rfl (by omega))).trans ?_
 refine(vU (l:=acc++ [.tup [.tup [.int n,.int k],.tup [.int n,.int ((k+1:Nat):Int)],.int (dr r k*y)]]) (bJ (au rfl (au rfl (au (aA (t:=.int (-dr r k)) (u:=.int x) rfl rfl (y9 (by omega) (by omega))) rfl))) (ax (k:=3) (by simp))) rfl (by rw[Ih];simp;omega)).trans ?_
 rw[IW]
 rfl
theorem wB (n:Nat)(x y:Int)(r:List Int)(hx:0<=x/\x<=9)(hy:0<=y/\y<=9):∀(js:List Nat) (acc:List T) (s4 s5 s6 s7:Sl),(∀k∈js,k+1<r.length)->acc.length+2*js.length<=100 →
  ∃t4 t5 t6 t7,br (gN 4) bcF (js.map λ(k:Nat)=>T.int k) (Ac n x y r acc s4 s5 s6 s7)= .ok (.nx (Ac n x y r (acc++js.flatMap (pr n x y r)) t4 t5 t6 t7))
 | [],acc,s4,s5,s6,s7,_,_=>⟨s4,s5,s6,s7,by simp[br]⟩
 | k::js,acc,s4,s5,s6,s7,hk,hl=>by
  rw[Io]at hl
  have e:=B7 n x y r acc k s5 s6 s7 (hk k Ie) hx hy (by omega)
  obtain⟨t4,t5,t6,t7,ih⟩:=wB n x y r hx hy js (acc++pr n x y r k) (.va (.int k)) (.va (.tup [.int n,.int k])) (.va (.tup [.int n,.int ((k+1:Nat):Int)])) (.va (.int (dr r k))) (λj hj=>hk j (Ia _ hj)) (by rw[Ih];simp[pr];omega)
  refine⟨t4,t5,t6,t7,?_⟩
  rw[Ic,e9 (Z1:=Ac n x y r acc (.va (.int k)) s5 s6 s7) rfl e,ih,KQ,IW]
theorem z7 (n:Nat)(x y:Int)(r:List Int)(hx:0<=x/\x<=9)(hy:0<=y/\y<=9)(h1:1<=r.length)(h4:r.length<=4):cy [.int n,.tup [.int x,.int y,.tup (r.map .int)]] = .ok (.lst (cB n x y r)):=by
 refine bz rfl ?_
 show eQ [.va (.int n),.va (.tup [.int x,.int y,.tup (r.map .int)]),.em,.em,.em,.em,.em,.em] =_
 unfold eQ;rw[az (Z':=[.va (.int n),.va (.tup [.int x,.int y,.tup (r.map .int)]),.va (.tup (r.map .int)),.em,.em,.em,.em,.em]) (bL (t:=.tup (r.map .int)) rfl rfl)];rw[az (Z':=Ac n x y r [] .em .em .em .em) rfl];obtain⟨t4,t5,t6,t7,e⟩:=wB n x y r hx hy (Iw (r.length - 1)) [] .em .em .em .em (λk hk=>by have:=Ji.mp hk;omega) (by simp;omega)
 have e1:iR (ae (o2 iu (cl cQ (ae (vr 2) ai)) (cn (.int 1))) ai) (Ac n x y r [] .em .em .em .em)= .ok (rng 0 ((r.length - 1:Nat):Int)):=by
  refine EI (j:=((r.length - 1:Nat):Int)) (au (aA (t:=.int (r.length:Nat)) (u:=.int 1) (aJ (ts:=[.tup (r.map .int)]) rfl (by show Rs.ok (T.int ((r.map T.int).length:Nat))=_;rw[Ig])) rfl (congrArg (λz=>Rs.ok (T.int z)) (by omega))) rfl) (by omega) (by omega)
 rw[az ((gK (ts:=(Iw (r.length - 1)).map λ(k:Nat)=>T.int k) (by rw[e1,mm]) e))]
 rfl
theorem gX {t:T}(h:bH t=true):∃(x y:Int) (r:List Int),t= .tup [.int x,.int y,.tup (r.map .int)]/\(0<=x/\x<=9)/\(0<=y/\y<=9)/\1<=r.length/\r.length<=4:=by
 obtain⟨x,y,r,rfl,h1,h4⟩:=fy h
 have h':(oS x y&&dh (.tup r))=true:=h;rw[HZ]at h';obtain⟨hp,hr⟩:=h';unfold oS at hp;rw[HZ]at hp;obtain⟨i,rfl,i1,i2⟩:=cU hp.1;obtain⟨j,rfl,j1,j2⟩:=cU (t:=y) (a:=i) (b:=9) hp.2;unfold dh at hr;rw[HZ]at hr
 have hr2:((r.all λu=>ba u 0 99)&&(match kM r with | some m=>oH m | none=>false))=true:=hr.2
 rw[HZ]at hr2;obtain⟨m,em⟩:=qV hr2.1
 have e:=nE em;subst e;rw[Ig]at h1 h4;exact⟨i,j,m,rfl,⟨by omega,by omega⟩,⟨by omega,by omega⟩,h1,h4⟩
def xB (n:Nat)(t:T):List T:=match t with
 | .tup [.int x,.int y,.tup r] =>match kM r with
  | some m=>cB n x y m
  | none=> []
 | _=> []
def bC:Nat->List T->List T
 | _,[] => []
 | i,c::r=>xB i c++bC (i+1) r
def lB (t:T):List T:=match t with
 | .tup [a,b,.int le,mo] => .tup [b,a,.int (-le)] ::(if mo.isN then []else [.tup [a,b,mo]])
 | _=> []
def xQ (cs ls:List T):List T:=bC 0 cs++ls.flatMap lB
theorem vk (n:Nat)(x y:Int)(r:List Int):xB n (.tup [.int x,.int y,.tup (r.map .int)])=cB n x y r:=by
 unfold xB;simp only[nF]
theorem Ey (n:Nat)(x y:Int)(r:List Int):(cB n x y r).length=2*(r.length - 1):=by
 unfold cB;rw[List.length_flatMap]
 have:∀l:List Nat,(l.map λk=>(pr n x y r k).length).sum=2*l.length:=by
  intro l
  induction l with
  | nil=>rfl
  | cons a l ih=>rw[Ic,J2,ih,Io];simp[pr];omega
 rw[this,Jx]
theorem x8 {n:Nat}{t:T}(h:bH t=true):(xB n t).length<=6:=by
 obtain⟨x,y,r,rfl,_,_,h1,h4⟩:=gX h;rw[vk,Ey];omega
theorem vd:∀{cs:List T} {i:Nat},(∀c∈cs,bH c=true)->(bC i cs).length<=6*cs.length
 | [],i,_=>by simp[bC]
 | c::cs,i,h=>by
  rw[bC,Ih,Io]
  have:=x8 (n:=i) (h c Ie)
  have:=vd (cs:=cs) (i:=i+1) λc hc=>h c (Ia _ hc)
  omega
theorem zl (t:T):(lB t).length<=2:=by
 unfold lB;split
 ·rename_i a b le mo
  cases mo.isN <;> simp
 ·simp
theorem vS:∀(ls:List T),(ls.flatMap lB).length<=2*ls.length
 | [] =>by simp
 | t::ls=>by
  rw[KQ,Ih,Io]
  have:=zl t
  have:=vS ls;omega
theorem lU {cs:List T}{t:T}(h:aZ cs t=true):∃(a b mo:T) (le:Int),t= .tup [a,b,.int le,mo]/\aU cs a=true/\aU cs b=true:=by
 obtain⟨a,b,x,y,rfl,hd,ha,hb,_⟩:=dB h;unfold cY at hd;rw[HZ]at hd;obtain⟨i,rfl,_⟩:=cU hd.1;exact⟨a,b,y,i,rfl,ha,hb⟩
theorem xG {cs:List T}{t:T}(h:aZ cs t=true):cg [t] = .ok (.lst (lB t)):=by
 obtain⟨a,b,mo,le,rfl,_,_⟩:=lU h;refine bz rfl ?_
 show dW [.va (.tup [a,b,.int le,mo]),.em] =_
 unfold dW;rw[az (Z':=[.va (.tup [a,b,.int le,mo]),.ow (.lst [.tup [b,a,.int (-le)]])]) (zx (l:=[.tup [b,a,.int (-le)]]) (au (bJ (au rfl (au rfl (au rfl rfl))) (ax (k:=3) (by simp))) rfl) (by simp) (by simp))]
 have e:∀(Z:En) l,Z= [.va (.tup [a,b,.int le,mo]),.ow (.lst l)]->o2 jO (o2 aP (vr 0) (cn (.int 3))) (cn .non) Z= .ok (.bl (!mo.isN)):=λZ l z=>by subst z;rfl
 have e2:lB (.tup [a,b,.int le,mo])= .tup [b,a,.int (-le)] ::(if mo.isN then []else [.tup [a,b,mo]]):=rfl
 rw[e2]
 cases q:mo.isN with
 | true=>
  rw[az (Z':=[.va (.tup [a,b,.int le,mo]),.ow (.lst [.tup [b,a,.int (-le)]])]) ((cJ (bu (by rw[e _ _ rfl,q];rfl))).trans rfl)]
  rfl
 | false=>
  rw[az (Z':=[.va (.tup [a,b,.int le,mo]),.ow (.lst ([.tup [b,a,.int (-le)]] ++ [.tup [a,b,mo]]))]) ((fK (bu (by rw[e _ _ rfl,q];rfl))).trans (vU (l:=[.tup [b,a,.int (-le)]]) (bJ (au rfl (au rfl (au rfl rfl))) (ax (k:=3) (by simp))) rfl (by simp)))]
  rfl
abbrev bdF:En->Rs Fl:=m4 1 (cl cy (ae (vr 2) (ae (vr 3) ai)))
abbrev bdG:T->En->Rs En:=gT 2 (lC (gN 2) (lC (gN 3) vZ))
theorem wA (R:T)(s4:Sl):∀(cs:List T) (acc:List T) (i:Nat) (s2 s3:Sl),(∀c∈cs,bH c=true)->acc.length+6*cs.length<=100 →
  ∃y2 y3,br bdG bdF (bB i cs) [.va R,.ow (.lst acc),s2,s3,s4] = .ok (.nx [.va R,.ow (.lst (acc++bC i cs)),y2,y3,s4])
 | [],acc,i,s2,s3,_,_=>⟨s2,s3,by simp[bB,br,bC]⟩
 | c::cs,acc,i,s2,s3,hc,hl=>by
  have h0:=hc c Ie
  have hx:=x8 (n:=i) h0;obtain⟨x,y,r,rfl,a1,a2,a3,a4⟩:=gX h0;rw[Io]at hl;rw[vk]at hx
  have st:bdF [.va R,.ow (.lst acc),.va (.int i),.va (.tup [.int x,.int y,.tup (r.map .int)]),s4] = .ok (.nx [.va R,.ow (.lst (acc++cB i x y r)),.va (.int i),.va (.tup [.int x,.int y,.tup (r.map .int)]),s4]):=
   zA (l:=acc) (aJ (ts:=[.int i,.tup [.int x,.int y,.tup (r.map .int)]]) rfl (z7 i x y r a1 a2 a3 a4)) rfl (by omega)
  obtain⟨z2,z3,ih⟩:=wA R s4 cs (acc++cB i x y r) (i+1) (.va (.int i)) (.va (.tup [.int x,.int y,.tup (r.map .int)])) (λc h=>hc c (Ia _ h)) (by rw[Ih];omega)
  refine⟨z2,z3,?_⟩
  rw[bB,e9 (Z1:=[.va R,.ow (.lst acc),.va (.int i),.va (.tup [.int x,.int y,.tup (r.map .int)]),s4]) rfl st,ih,bC,vk,IW]
abbrev blF:En->Rs Fl:=m4 1 (cl cg (ae (vr 4) ai))
theorem wy (R:T)(cs:List T)(s2 s3:Sl):∀(ls:List T) (acc:List T) (s4:Sl),(∀t∈ls,aZ cs t=true)->acc.length+2*ls.length<=100 →
  ∃y4,br (gN 4) blF ls [.va R,.ow (.lst acc),s2,s3,s4] = .ok (.nx [.va R,.ow (.lst (acc++ls.flatMap lB)),s2,s3,y4])
 | [],acc,s4,_,_=>⟨s4,by simp[br]⟩
 | t::ls,acc,s4,hl,hn=>by
  rw[Io]at hn
  have:=zl t
  have st:blF [.va R,.ow (.lst acc),s2,s3,.va t] = .ok (.nx [.va R,.ow (.lst (acc++lB t)),s2,s3,.va t]):=zA (l:=acc) (aJ (ts:=[t]) rfl (xG (hl t Ie))) rfl (by omega)
  obtain⟨y4,ih⟩:=wy R cs s2 s3 ls (acc++lB t) (.va t) (λu h=>hl u (Ia _ h)) (by rw[Ih];omega)
  refine⟨y4,?_⟩
  rw[e9 (Z1:=[.va R,.ow (.lst acc),s2,s3,.va t]) rfl st,ih,KQ,IW]
theorem iU {R:T}(hp:R.pl=true)(h:eY R=true):a7 [R] = .ok .non:=by
 refine n6 (Z:=[.va R]) rfl ?_
 show dJ [.va R] =_
 unfold dJ;exact(cJ ((d7 (k:=true) (bu (aJ (ts:=[R]) rfl (by rw[t9 R hp,h])))))).trans rfl
theorem xj {R:T}(hp:R.pl=true)(h:eY R=false):a7 [R] = .err "NoRecord":=by
 refine uV rfl ?_
 show dJ [.va R] =_
 unfold dJ;exact(fK ((d7 (k:=false) (bu (aJ (ts:=[R]) rfl (by rw[t9 R hp,h])))))).trans rfl
structure Good (cs ls:List T):Prop where
 c:bo (.tup cs)=true
 l:∀t∈ls,aZ cs t=true
 n:ls.length<=8
 p:(RR cs ls).pl=true
theorem Good.ok {cs ls:List T}(g:Good cs ls):eY (RR cs ls)=true:=by
 show(bo (.tup cs)&&(eI (.tup ls) 0 8&&ls.all (aZ cs)))=true
 rw[g.c,LN,HZ,IR];exact⟨by simp[eI];exact g.n,g.l⟩
theorem z5 {cs ls:List T}(g:Good cs ls):dt [RR cs ls] = .ok (.lst (xQ cs ls)):=by
 obtain⟨hc,c1,c4⟩:=c6 g.c
 have hn:=g.n;refine bz rfl ?_
 show oG [.va (RR cs ls),.em,.em,.em,.em] =_
 unfold oG;rw[az (kS (t:=.non) (aJ (ts:=[RR cs ls]) rfl (iU g.p g.ok)))];rw[az (Z':=[.va (RR cs ls),.ow (.lst []),.em,.em,.em]) (uW (by simp))]
 obtain⟨y2,y3,e⟩:=wA (RR cs ls) .em cs [] 0 .em .em hc (by simp;omega)
 rw[az ((gK (ts:=bB 0 cs) rfl e))]
 have:=vd (i:=0) hc;obtain⟨y4,e2⟩:=wy (RR cs ls) cs y2 y3 ls ([] ++bC 0 cs) .em g.l (by rw[JX];omega)
 rw[az ((gK (ts:=ls) rfl e2))]
 rfl
theorem eE {l:List T}:(T.tup l).pl=plS l:=by unfold T.pl;rfl
theorem Good.parts {cs ls:List T}(g:Good cs ls):(T.tup cs).pl=true/\∀t∈ls,t.pl=true:=by
 have:=g.p;rw[eE]at this;unfold plS at this;rw[HZ]at this
 have h2:=this.2;unfold plS at h2;rw[HZ,eE]at h2;exact⟨this.1,λt ht=>gQ h2.1 ht⟩
theorem Good.sub {cs ls ms:List T}(g:Good cs ls)(hm:∀t∈ms,t∈ls)(hn:ms.length<=8):Good cs ms:=⟨g.c,λt ht=>g.l t (hm t ht),hn,by
 obtain⟨h1,h2⟩:=g.parts;rw[eE];refine gp λt ht=> ?_
 simp only[Ij,IM,or_false]at ht;rcases ht with rfl | rfl
 ·exact h1
 ·rw[eE];exact gp λt ht=>h2 t (hm t ht)⟩
theorem BM {a:Nat}(h:a<=100):mz (a:Int)=true:=by unfold mz;simp;omega
theorem CA {cs:List T}{y:T}(h:aU cs y=true):y.pl=true/\y.dep<=1:=by
 obtain⟨c,k,rfl⟩:=cR h;exact⟨rfl,by simp[T.dep,deps]⟩
theorem FV {cs:List T}{a b x y:T}(h:aZ cs (.tup [a,b,x,y])=true):y.pl=true/\y.dep=0:=by
 obtain⟨a',b',x',y',e,hd,_⟩:=dB h;cases e;unfold cY at hd;rw[HZ]at hd;obtain⟨i,rfl,_⟩:=cU hd.1
 cases y with
 | non=>exact⟨rfl,rfl⟩
 | int j=>exact⟨rfl,rfl⟩
 | bl j=>exact⟨rfl,rfl⟩
 | str j=>exact⟨rfl,rfl⟩
 | tup j=>cases hd.2
 | lst j=>cases hd.2
 | scr j=>cases hd.2
 | dct _ _=>cases hd.2
theorem Bi {l:List T}{r:Int}(h0:0<=r)(h1:r<l.length):∃t∈l,aP (.lst l) (.int r)= .ok t:=by
 obtain⟨n,rfl⟩:=Jc h0
 have hn:n<l.length:=by omega
 exact⟨l[n],JK hn,uY hn⟩
theorem CV {t:T}(h:sm 8 t=true):t.pl=true:=yk t h
abbrev peF:En->Rs Fl:=m4 1 (fA (iR (ae (cl cQ (ae (o2 aP (vr 3) (cn (.int 2))) ai)) ai)) [none,some 2] (gN 0) bT (aO (ae (vr 1) (ae (vr 0) ai))))
theorem yJ (c0 s1:Sl)(x y:T)(r:List T)(i:Nat)(h:r.length<=4) :
  fA (iR (ae (cl cQ (ae (o2 aP (vr 3) (cn (.int 2))) ai)) ai)) [none,some 2] (gN 0) bT (aO (ae (vr 1) (ae (vr 0) ai))) [c0,s1,.va (.int i),.va (.tup [x,y,.tup r])] = .ok (.lst (mf i r.length)):=
 rB (EI (j:=(r.length:Int)) rfl (by omega) (by omega)) (ax (k:=4) (by rw[kJ];exact h)) (by simp) λt _=>mk2 _ _
theorem vC:∀(cs:List T) (c0:T) (acc:List T) (i:Nat) (s2 s3:Sl),(∀c∈cs,bH c=true)->acc.length+4*cs.length<=100 →
  ∃y2 y3,br evG peF (bB i cs) [.va c0,.ow (.lst acc),s2,s3] = .ok (.nx [.va c0,.ow (.lst (acc++fo i cs)),y2,y3])
 | [],c0,acc,i,s2,s3,_,_=>⟨s2,s3,by simp[bB,br,fo]⟩
 | c::cs,c0,acc,i,s2,s3,hc,hl=>by
  obtain⟨x,y,r,rfl,r1,r2⟩:=fy (hc c Ie);rw[Io]at hl
  have st:peF [.va c0,.ow (.lst acc),.va (.int i),.va (.tup [x,y,.tup r])] = .ok (.nx [.va c0,.ow (.lst (acc++mf i r.length)),.va (.int i),.va (.tup [x,y,.tup r])]):=zA (l:=acc) (yJ _ _ x y r i r2) rfl (by rw[gL];omega)
  obtain⟨z2,z3,ih⟩:=vC cs c0 (acc++mf i r.length) (i+1) (.va (.int i)) (.va (.tup [x,y,.tup r])) (λc h=>hc c (Ia _ h)) (by rw[Ih,gL];omega)
  refine⟨z2,z3,?_⟩
  rw[bB,e9 (Z1:=[.va c0,.ow (.lst acc),.va (.int i),.va (.tup [x,y,.tup r])]) rfl st,ih,fo,IW]
  rfl
theorem yQ {cs ls:List T}(g:Good cs ls):c7 [RR cs ls] = .ok (.lst (fo 0 cs)):=by
 obtain⟨hc,c1,c4⟩:=c6 g.c;refine bz rfl ?_
 show oF [.va (RR cs ls),.em,.em,.em] =_
 unfold oF;rw[az (kS (t:=.non) (aJ (ts:=[RR cs ls]) rfl (iU g.p g.ok)))];rw[az (Z':=[.va (RR cs ls),.ow (.lst []),.em,.em]) (uW (by simp))]
 obtain⟨y2,y3,e⟩:=vC cs (RR cs ls) [] 0 .em .em hc (by simp;omega)
 rw[az ((gK (ts:=bB 0 cs) rfl e))]
 rfl
theorem vG {cs ls:List T}{t:T}(g:Good cs ls)(ht:t.pl=true)(h:aU cs t=true):eG [RR cs ls,t] = .ok .non:=by
 refine n6 (Z:=[.va (RR cs ls),.va t]) rfl ?_
 show gZ [.va (RR cs ls),.va t] =_
 unfold gZ;exact(cJ ((d7 (k:=true) (bu (aJ (ts:=[.tup cs,t]) rfl (by rw[rM cs t g.c ht,h])))))).trans rfl
theorem xm {g:T->En->Rs En}{F:En->Rs Fl}(J:En->Prop){ts:List T}(h:∀t∈ts,∀Z,J Z->∃Z1 Z2,g t Z= .ok Z1/\F Z1= .ok (.nx Z2)/\J Z2){Z:En}(hj:J Z):∃Z',br g F ts Z= .ok (.nx Z')/\J Z':=
 (tK (p:=λ_=>true) J ts (λt ht Z hj=>by
  obtain⟨Z1,Z2,a,b,c⟩:=h t ht Z hj;exact⟨Z1,a,λ_=>⟨Z2,b,c⟩,λh=>by cases h⟩) Z hj).1 (by simp)
theorem p2 {a b:En->Rs T}{t u:T}{Z:En}(ha:a Z= .ok t)(hb:b Z= .ok u):aO (ae a (ae b ai)) Z= .ok (.tup [t,u]):=bJ (au ha (au hb rfl)) (ax (k:=2) (by simp))
theorem k8 {l:List T}:fD [.lst l] = .ok (.tup l):=rfl
theorem B6 {cs ls:List T}(g:Good cs ls):(xQ cs ls).length<=60:=by
 unfold xQ;rw[Ih];obtain⟨hc,c1,c4⟩:=c6 g.c
 have:=vd (i:=0) hc
 have:=vS ls
 have:=g.n;omega
end G
namespace G
open PySem Tr Gr
structure N2 where
 c:Int
 k:Int
deriving DecidableEq
theorem N2.ext':∀{u v:N2},u.c=v.c->u.k=v.k->u=v
 | ⟨_,_⟩,⟨_,_⟩,rfl,rfl=>rfl
def en (v:N2):T:=.tup [.int v.c,.int v.k]
def eB (x:N2×N2×Int):T:=.tup [en x.1,en x.2.1,.int x.2.2]
def eN (ks:List Nat):List T:=ks.map λk=> .int (k:Nat)
def eW (x:Int×List Nat):T:=.tup [.int x.1,.lst (eN x.2)]
def ky (v:N2):List L2.Key:=[.inl v.c,.inl v.k]
theorem cN (v:N2):cC (en v)=some (ky v):=rfl
theorem rA {u v:N2}(h:some (ky u)=some (ky v)):u=v:=by
 injection h with h
 injection h with h1 h2
 injection h2 with h2 _
 injection h1 with h1
 injection h2 with h2
 exact N2.ext' h1 h2
theorem zS {u v:N2}(h:en u=en v):u=v:=rA (by rw[<-cN u,<-cN v,h])
theorem rW (u v:N2):aT (en u) (en v)=decide (u=v):=by
 unfold en aT beqTs aT beqTs beqTs
 by_cases h:u=v
 ·subst h;simp[aT]
 ·have:¬ (u.c=v.c/\u.k=v.k):=λz=>h (N2.ext' z.1 z.2)
  simp[h,aT];exact λz=>λy=>this ⟨z,y⟩
theorem wj (g:N2->T)(v:N2):∀(ns:List N2),lE (ns.map en) (ns.map g) (ky v)=if v∈ns then some (g v)else none
 | [] =>rfl
 | u::ns=>by
  rw[Ic,Ic,lE,cN]
  by_cases h:u=v
  ·subst h;rw[if_pos rfl,if_pos Ie]
  ·rw[if_neg (λz=>h (rA z)),wj g v ns]
   have:(v∈u::ns)↔v∈ns:=by rw[Ij];exact⟨λz=>z.elim (λy=>absurd y.symm h) id,.inr⟩
   simp only[this]
theorem oq (x:T)(v:N2)(g:N2->T):∀(ns:List N2),v∉ns->gV (en v) x (ns.map en) (ns.map g)=(ns.map en++ [en v],ns.map g++ [x])
 | [],_=>rfl
 | u::ns,h=>by
  rw[Ij,not_or]at h;rw[Ic,Ic,gV,cN,cN,if_neg (λz=>h.1 (rA z).symm),oq x v g ns h.2]
  rfl
theorem we (x:T)(v:N2)(g:N2->T):∀(ns:List N2),ns.Nodup->v∈ns->gV (en v) x (ns.map en) (ns.map g)=(ns.map en,ns.map λu=>if u=v then x else g u)
 | [],_,h=>by simp at h
 | u::ns,hn,h=>by
  rw[IT]at hn;rw[Ic,Ic,Ic,gV,cN,cN]
  by_cases z:u=v
  ·subst z
   rw[if_pos rfl,if_pos rfl]
   congr 2
   exact Ju λw hw=>by rw[if_neg (λ(y:w=u)=>hn.1 (y▸hw))]
  ·rw[if_neg (λy=>z (rA y)),if_neg z]
   have h':v∈ns:=(Ij.mp h).elim (λy=>absurd y.symm z) id
   rw[we x v g ns hn.2 h']
theorem jo {α:Type}[DecidableEq α]:∀{l m:List α},l.Nodup->(∀x∈l,x∈m)->l.length<=m.length
 | [],_,_,_=>Kq _
 | x::l,m,hn,h=>by
  rw[IT]at hn
  have hx:=h x Ie
  have:=jo (m:=m.erase x) hn.2 λy hy=>(Nu (λ(z:y=x)=>hn.1 (z▸hy))).mpr (h y (Ia _ hy))
  rw[List.length_erase_of_mem hx]at this
  have:0<m.length:=List.length_pos_of_mem hx;rw[Io];omega
def oW (o:Option (Int×List Nat)):T:=match o with
 | some x=>eW x
 | none=> .non
structure DR (P ns:List N2)(b:bY N2):Prop where
 nd:ns.Nodup
 mem:∀v,v∈ns↔(b v).isSome=true
 sub:∀v∈ns,v∈P
def dV (ns:List N2)(b:bY N2):List T:=ns.map λv=>oW (b v)
theorem DR.get {P ns:List N2}{b:bY N2}(D:DR P ns b)(v:N2):lE (ns.map en) (dV ns b) (ky v)=(b v).map eW:=by
 unfold dV;rw[wj (λv=>oW (b v))]
 have:=D.mem v
 cases q:b v with
 | none=>rw[q]at this;rw[if_neg (λz=>by simpa using this.mp z)];rfl
 | some x=>rw[q]at this;rw[if_pos (this.mpr rfl)];rfl
theorem DR.put {P ns:List N2}{b:bY N2}(D:DR P ns b){v:N2}(hv:v∈P)(y:Int×List Nat):∃ns',DR P ns' (Gr.put b v y)/\gV (en v) (eW y) (ns.map en) (dV ns b)=(ns'.map en,dV ns' (Gr.put b v y)):=by
 by_cases h:v∈ns
 ·refine⟨ns,⟨D.nd,λu=> ?_,D.sub⟩,?_⟩
  ·by_cases z:u=v
   ·subst z;rw[eC];exact⟨λ_=>rfl,λ_=>h⟩
   ·rw[jZ z];exact D.mem u
  ·unfold dV
   rw[we _ _ _ _ D.nd h]
   congr 1
   refine Ju λu _=> ?_
   by_cases z:u=v
   ·subst z;rw[if_pos rfl,eC];rfl
   ·rw[if_neg z,jZ z]
 ·refine⟨ns++ [v],⟨?_,λu=> ?_,λu hu=> ?_⟩,?_⟩
  ·exact JQ.mpr ⟨D.nd,by simp,λx hx y hy=>by simp at hy;subst hy;exact λz=>h (z▸hx)⟩
  ·rw[IB,Iv]
   by_cases z:u=v
   ·subst z;rw[eC];exact⟨λ_=>rfl,λ_=> .inr rfl⟩
   ·rw[jZ z,<-D.mem u];exact⟨λw=>w.elim id λy=>absurd y z,.inl⟩
  ·rcases IB.mp hu with w | w
   ·exact D.sub u w
   ·rw[Iv.mp w];exact hv
  ·unfold dV
   rw[oq _ _ _ _ h,JG,JG]
   congr 1
   congr 1
   ·refine Ju λu hu=> ?_
    rw[jZ (λ(z:u=v)=>h (z▸hu))]
   ·simp[eC,oW]
theorem z6 {P ns:List N2}{b:bY N2}(D:DR P ns b)(x:N2×N2×Int)(d:Int)(w:List Nat) :
  dq [.dct (ns.map en) (dV ns b),eB x,eW (d,w)] = .ok (.bl (eM b x.2.1 (d+x.2.2))):=by
 refine bz rfl ?_
 show jh [.va (.dct (ns.map en) (dV ns b)),.va (eB x),.va (eW (d,w)),.em] =_
 unfold jh
 have g:oD ig (vr 0) (o2 aP (vr 1) (cn (.int 1))) [.va (.dct (ns.map en) (dV ns b)),.va (eB x),.va (eW (d,w)),.em] = .ok (oW (b x.2.1)):=by
  refine F3 (ks:=ns.map en) (vs:=dV ns b) (u:=en x.2.1) rfl rfl ?_
  unfold ig;rw[cN];simp only[D.get];cases b x.2.1 <;> rfl
 rw[az (bL (t:=oW (b x.2.1)) (Z':=[.va (.dct (ns.map en) (dV ns b)),.va (eB x),.va (eW (d,w)),.va (oW (b x.2.1))]) g rfl)];refine bQ ?_
 unfold eM
 cases q:b x.2.1 with
 | none=>exact D8 (aA (t:=.non) (u:=.non) rfl rfl rfl)
 | some y=>exact(D9 (aA (t:=eW y) (u:=.non) rfl rfl rfl)).trans (aA (t:=.int (d+x.2.2)) (u:=.int y.1) rfl rfl rfl)
abbrev Al:En->Rs Fl:=(aC (cu (ln 2 (oD ig (vr 2) (o2 aP (vr 5) (cn (.int 0))))) (gN 6)) (aC (eX (ka (tb (o2 lA (vr 6) (cn .non))) (cM (DV 2 (tb (cl dq (ae (vr 2) (ae (vr 5) (ae (vr 6) ai)))))))) Ck sN) (aC (cu (o2 aX (o2 aP (vr 6) (cn (.int 1))) (ff (ae (vr 4) ai))) (gN 7)) (aC (cu (fA (iS (vr 7)) [none,some 0] (gN 0) bT (o2 aP (o2 aP (vr 1) (vr 0)) (cn (.int 0)))) (gN 8)) (aC (eX (tb (o2 EH (o2 aP (vr 5) (cn (.int 1))) (vr 8))) (aK (aO (ae (cn .non) (ae (sl (vr 7) (pS (oL gf (vr 8) (o2 aP (vr 5) (cn (.int 1))))) pN) ai)))) sN) (aC (wU 2 (o2 aP (vr 5) (cn (.int 1))) (aO (ae (o2 aX (o2 aP (vr 6) (cn (.int 0))) (o2 aP (vr 5) (cn (.int 2)))) (ae (vr 7) ai)))) (cu (cn (.bl true)) (gN 3))))))))
abbrev GB:T->En->Rs En:=gT 2 (lC (gN 4) (lC (gN 5) vZ))
def eL (L:bw N2):T:=.lst (L.map eB)
def yj (L:bw N2)(t:T):T:=match t with
 | .int j=>match L[j.toNat]? with
  | some x=>en x.1
  | none=> .non
 | _=> .non
theorem vE {L:bw N2}:∀{ks:List Nat} {a b:N2},Ch L a ks b->(eN ks).map (yj L)=(eV L ks).map en
 | [],_,_,_=>rfl
 | k::r,a,b,h=>by
  rw[h.GW];obtain⟨c,m,e,h⟩:=h
  show yj L (.int k)::(eN r).map (yj L)=en a::(eV L r).map en
  rw[vE h]
  congr 1
  unfold yj;simp only[Jw,e]
theorem ve (v:N2):∀(l:List N2),gi (en v) (l.map en)=decide (v∈l)
 | [] =>rfl
 | u::l=>by
  have ih:=ve v l;unfold gi at ih ⊢;rw[Ic,Ks,ih,rW]
  by_cases h:u=v
  ·subst h;simp
  ·have h':¬ v=u:=λz=>h z.symm
   simp[h,h']
theorem tY (v:N2):∀(l:List N2) (n:Nat),v∈l->jy (en v) (l.map en) n=some (n+l.idxOf v)
 | [],n,h=>by simp at h
 | u::l,n,h=>by
  rw[Ic,jy,rW,O6]
  by_cases z:u=v
  ·subst z;simp
  ·have h':v∈l:=(Ij.mp h).elim (λy=>absurd y.symm z) id
   have zb:(u == v)=false:=by rw[beq_eq_false_iff_ne];exact z
   rw[zb,decide_eq_false z,if_neg IK,tY v l (n+1) h'];simp only[cond_false]
   congr 1
   omega
theorem Cq (v:N2):(en v).nd=true:=rfl
theorem rk {α:Type}(f:α->T)(h:∀a,(f a).nd=true):∀l:List α,nds (l.map f)=true
 | [] =>rfl
 | a::l=>by rw[Ic,nds,h a,rk f h l];rfl
theorem rO (v:N2):(en v).dep<=60:=by show(T.tup [.int v.c,.int v.k]).dep<=60;simp[T.dep,deps]
theorem Ge (v:N2)(l:List N2):EH (en v) (.lst (l.map en))= .ok (.bl (decide (v∈l))):=by
 show(if (_\/_)/\_/\(T.lst (l.map en)).nd=true then _ else _)=_
 rw[if_pos ⟨.inl (rO v),rfl,rk en Cq l⟩,ve]
theorem zC (v:N2)(l:List N2)(h:v∈l):gf (.lst (l.map en)) (en v)= .ok (.int ((l.idxOf v:Nat):Int)):=by
 unfold gf;simp only;rw[if_pos ⟨.inl (rO v),rfl,rk en Cq l⟩,tY v l 0 h,Oy]
theorem Es (p q:List Nat):eN (p++q)=eN p++eN q:=by unfold eN;rw[JG]
theorem y6 (D:Bool):∀ks:List Nat,nks D (eN ks)=true
 | [] =>rfl
 | k::r=>by show nks D (.int k::eN r)=true;unfold nks;rw[y6 D r];rfl
theorem Ch.len {L:bw N2}{ks:List Nat}{a b:N2}(h:Ch L a ks b)(hn:(eV L ks).Nodup):ks.length<=L.length:=by
 have:=jo (h.nodup hn) (m:=Iw L.length) λk hk=>Ji.mpr (h.lt k hk)
 rwa [Jx]at this
abbrev sE (L:bw N2)(st:T)(o:OT)(b:Bool)(k:Nat)(x:N2×N2×Int)(s6 s7 s8:Sl):En:=[.va (eL L),.va st,.ow o,.va (.bl b),.va (.int k),.va (eB x),s6,s7,s8]
def CD (L:bw N2)(P ns:List N2)(b:bY N2)(k:Nat)(x:N2×N2×Int)(st:T)(mv:Bool)(s6 s7 s8:Sl):Sum (Option (bY N2)) (List Nat)->Prop
 | .inl none=> ∃s6' s7' s8',Al (sE L st (.dct (ns.map en) (dV ns b)) mv k x s6 s7 s8)= .ok (.ct (sE L st (.dct (ns.map en) (dV ns b)) mv k x s6' s7' s8'))
 | .inl (some b')=> ∃ns' s6' s7' s8',DR P ns' b'/\Al (sE L st (.dct (ns.map en) (dV ns b)) mv k x s6 s7 s8)= .ok (.nx (sE L st (.dct (ns'.map en) (dV ns' b')) true k x s6' s7' s8'))
 | .inr q=>Al (sE L st (.dct (ns.map en) (dV ns b)) mv k x s6 s7 s8)= .ok (.rt (.tup [.non,.lst (eN q)]))
theorem AI {L:bw N2}{S P ns:List N2}{b:bY N2}{k:Nat}{x:N2×N2×Int}(K:Kept L S b)(D:DR P ns b)(hL:L.length<=500)(hP:P.length<1000)(e:L[k]? =some x)(hx:x.2.1∈P)(st:T)(mv:Bool)(s6 s7 s8:Sl) :
  CD L P ns b k x st mv s6 s7 s8 (gH L b k x):=by
 obtain⟨a,c,m⟩:=x;unfold CD
 generalize hks:ns.map en=ks
 generalize hvs:dV ns b=vs
 have get:∀s7 s8,ln 2 (oD ig (vr 2) (o2 aP (vr 5) (cn (.int 0)))) (sE L st (.dct ks vs) mv k (a,c,m) s6 s7 s8)= .ok (oW (b a)):=λs7 s8=>by
  refine F6 (o:=.dct ks vs) rfl (F3 (ks:=ks) (vs:=vs) (u:=en a) rfl rfl ?_) ?_
  ·unfold ig
   rw[cN,<-hks,<-hvs];simp only[D.get];cases b a <;> rfl
  ·cases b a with
   | none=>rfl
   | some y=>show nks true [.int y.1,.lst (eN y.2)] =true;simp[nks,T.nk,y6]
 have s1:∀G,aC (cu (ln 2 (oD ig (vr 2) (o2 aP (vr 5) (cn (.int 0))))) (gN 6)) G (sE L st (.dct ks vs) mv k (a,c,m) s6 s7 s8)=G (sE L st (.dct ks vs) mv k (a,c,m) (.va (oW (b a))) s7 s8):=λG=>
  az (bL (t:=oW (b a)) (get s7 s8) rfl)
 cases qa:b a with
 | none=>
  rw[show gH L b k (a,c,m)= .inl none from by unfold gH;simp only[qa]]
  simp only;refine⟨.va .non,s7,s8,?_⟩
  unfold Al;rw[s1,qa]
  exact zu (fK (F:=Ck) (zv (bu (aA (t:=.non) (u:=.non) rfl rfl rfl))))
 | some y=>
  obtain⟨d,w⟩:=y
  have bt:∀s7 s8,DV 2 (tb (cl dq (ae (vr 2) (ae (vr 5) (ae (vr 6) ai))))) (sE L st (.dct ks vs) mv k (a,c,m) (.va (eW (d,w))) s7 s8)= .ok (eM b c (d+m)):=λs7 s8=>by
   refine F5 (bu (aJ (ts:=[.dct ks vs,eB (a,c,m),eW (d,w)]) rfl ?_))
   rw[<-hks,<-hvs];exact z6 D (a,c,m) d w
  have nn:tb (o2 lA (vr 6) (cn .non)) (sE L st (.dct ks vs) mv k (a,c,m) (.va (eW (d,w))) s7 s8)= .ok false:=bu (aA (t:=eW (d,w)) (u:=.non) rfl rfl rfl)
  have cond:=gJ nn (d7 (bt s7 s8))
  have s1':∀G,aC (cu (ln 2 (oD ig (vr 2) (o2 aP (vr 5) (cn (.int 0))))) (gN 6)) G (sE L st (.dct ks vs) mv k (a,c,m) s6 s7 s8)=G (sE L st (.dct ks vs) mv k (a,c,m) (.va (eW (d,w))) s7 s8):=λG=>by rw[s1 G,qa];rfl
  cases hb:eM b c (d+m)with
  | false=>
   rw[show gH L b k (a,c,m)= .inl none from by unfold gH;simp only[qa,hb];rfl]
   simp only;rw[hb]at cond;refine⟨.va (eW (d,w)),s7,s8,?_⟩
   unfold Al;rw[s1']
   exact zu (fK (F:=Ck) cond)
  | true=>
   rw[hb]at cond;obtain⟨s,hs,h1,h2,h3,h4,h5⟩:=K.walk a d w qa
   have hch:Ch L s (w++ [k]) c:=h1.snoc e
   have hwl:w.length<=500:=IQ (Ch.len h1 h4) hL
   have s2:∀G,aC (eX (ka (tb (o2 lA (vr 6) (cn .non))) (cM (DV 2 (tb (cl dq (ae (vr 2) (ae (vr 5) (ae (vr 6) ai)))))))) Ck sN) G (sE L st (.dct ks vs) mv k (a,c,m) (.va (eW (d,w))) s7 s8)=G (sE L st (.dct ks vs) mv k (a,c,m) (.va (eW (d,w))) s7 s8):=λG=>
    az (Z':=(sE L st (.dct ks vs) mv k (a,c,m) (.va (eW (d,w))) s7 s8)) ((cJ (F:=Ck) (G:=sN) cond).trans rfl)
   have wk:o2 aX (o2 aP (vr 6) (cn (.int 1))) (ff (ae (vr 4) ai)) (sE L st (.dct ks vs) mv k (a,c,m) (.va (eW (d,w))) s7 s8)= .ok (.lst (eN (w++ [k]))):=by
    refine aA (t:=.lst (eN w)) (u:=.lst (eN [k])) rfl (ie (ts:=[.int k]) rfl (ax (k:=1) (by simp))) ?_
    show jS (eN w++eN [k])=_
    rw[<-Es];unfold jS;rw[if_pos (ax (k:=1000) (by unfold eN;rw[Ig,Ih];simp;omega))]
   have s3:∀G,aC (cu (o2 aX (o2 aP (vr 6) (cn (.int 1))) (ff (ae (vr 4) ai))) (gN 7)) G (sE L st (.dct ks vs) mv k (a,c,m) (.va (eW (d,w))) s7 s8)=G (sE L st (.dct ks vs) mv k (a,c,m) (.va (eW (d,w))) (.va (.lst (eN (w++ [k])))) s8):=λG=>az (bL wk rfl)
   have ps:fA (iS (vr 7)) [none,some 0] (gN 0) bT (o2 aP (o2 aP (vr 1) (vr 0)) (cn (.int 0))) (sE L st (.dct ks vs) mv k (a,c,m) (.va (eW (d,w))) (.va (.lst (eN (w++ [k])))) s8)= .ok (.lst ((eV L (w++ [k])).map en)):=by
    rw[<-vE hch];refine rB (ts:=eN (w++ [k])) (iX rfl) (ax (k:=1000) (by unfold eN;rw[Ig,Ih];simp;omega)) (by simp) λt ht=> ?_
    unfold eN at ht;obtain⟨j,hj,rfl⟩:=ID.mp ht
    have hjl:=hch.lt j hj;refine aA (t:=eB L[j]) (u:=.int 0) (Cv (l:=L.map eB) (n:=j) rfl rfl (by rw[IF,Ir hjl];rfl)) rfl ?_
    unfold yj;simp only[Jw,Ir hjl]
    rfl
   have s4:∀G,aC (cu (fA (iS (vr 7)) [none,some 0] (gN 0) bT (o2 aP (o2 aP (vr 1) (vr 0)) (cn (.int 0)))) (gN 8)) G (sE L st (.dct ks vs) mv k (a,c,m) (.va (eW (d,w))) (.va (.lst (eN (w++ [k])))) s8)=G (sE L st (.dct ks vs) mv k (a,c,m) (.va (eW (d,w))) (.va (.lst (eN (w++ [k])))) (.va (.lst ((eV L (w++ [k])).map en)))):=λG=>az (bL ps rfl)
   have inn:tb (o2 EH (o2 aP (vr 5) (cn (.int 1))) (vr 8)) (sE L st (.dct ks vs) mv k (a,c,m) (.va (eW (d,w))) (.va (.lst (eN (w++ [k])))) (.va (.lst ((eV L (w++ [k])).map en))))= .ok (decide (c∈eV L (w++ [k]))):=
    bu (aA (t:=en c) (u:=.lst ((eV L (w++ [k])).map en)) rfl rfl (Ge c _))
   by_cases hn:c∈eV L (w++ [k])
   ·rw[show gH L b k (a,c,m)= .inr ((w++ [k]).drop ((eV L (w++ [k])).idxOf c))from by unfold gH;simp only[qa,hb,if_pos hn,if_true]]
    simp only;unfold Al;rw[s1',s2,s3,s4];rw[decide_eq_true hn]at inn;refine gq ((fK inn).trans (bQ ?_))
    have sle:sl (vr 7) (pS (oL gf (vr 8) (o2 aP (vr 5) (cn (.int 1))))) pN (sE L st (.dct ks vs) mv k (a,c,m) (.va (eW (d,w))) (.va (.lst (eN (w++ [k])))) (.va (.lst ((eV L (w++ [k])).map en))))= .ok (.lst (eN ((w++ [k]).drop ((eV L (w++ [k])).idxOf c)))):=by
     rw[tQ (l:=eN (w++ [k])) (lo:=some (((eV L (w++ [k])).idxOf c:Nat):Int)) (hi:=none) rfl (tR (k_oL (ks:=(eV L (w++ [k])).map en) (u:=en c) rfl rfl (zC c _ hn))) rfl,uc];unfold eN;rw[List.map_drop]
    exact(bJ (ts:=[.non,.lst (eN ((w++ [k]).drop ((eV L (w++ [k])).idxOf c)))]) (au rfl (au sle rfl)) (ax (k:=2) (by simp)))
   ·rw[show gH L b k (a,c,m)= .inl (some (Gr.put b c (d+m,w++ [k])))from by unfold gH;simp only[qa,hb,if_neg hn,if_true]]
    simp only;rw[decide_eq_false hn]at inn;obtain⟨ns',D',hd⟩:=D.put hx (d+m,w++ [k]);refine⟨ns',.va (eW (d,w)),.va (.lst (eN (w++ [k]))),.va (.lst ((eV L (w++ [k])).map en)),D',?_⟩
    unfold Al;rw[s1',s2,s3,s4];rw[az (Z':=(sE L st (.dct ks vs) mv k (a,c,m) (.va (eW (d,w))) (.va (.lst (eN (w++ [k])))) (.va (.lst ((eV L (w++ [k])).map en))))) ((cJ (G:=sN) inn).trans rfl)]
    have pt:wU 2 (o2 aP (vr 5) (cn (.int 1))) (aO (ae (o2 aX (o2 aP (vr 6) (cn (.int 0))) (o2 aP (vr 5) (cn (.int 2)))) (ae (vr 7) ai))) (sE L st (.dct ks vs) mv k (a,c,m) (.va (eW (d,w))) (.va (.lst (eN (w++ [k])))) (.va (.lst ((eV L (w++ [k])).map en))))
      = .ok (.nx (sE L st (.dct (ns'.map en) (dV ns' (Gr.put b c (d+m,w++ [k])))) mv k (a,c,m) (.va (eW (d,w))) (.va (.lst (eN (w++ [k])))) (.va (.lst ((eV L (w++ [k])).map en))))):=by
     have ev:aO (ae (o2 aX (o2 aP (vr 6) (cn (.int 0))) (o2 aP (vr 5) (cn (.int 2)))) (ae (vr 7) ai)) (sE L st (.dct ks vs) mv k (a,c,m) (.va (eW (d,w))) (.va (.lst (eN (w++ [k])))) (.va (.lst ((eV L (w++ [k])).map en))))= .ok (eW (d+m,w++ [k])):=
      bJ (ts:=[.int (d+m),.lst (eN (w++ [k]))]) rfl (ax (k:=2) (by simp))
     have ek:o2 aP (vr 5) (cn (.int 1)) (sE L st (.dct ks vs) mv k (a,c,m) (.va (eW (d,w))) (.va (.lst (eN (w++ [k])))) (.va (.lst ((eV L (w++ [k])).map en))))= .ok (en c):=rfl
     show(aO _ _ >>= λv=>o2 aP (vr 5) (cn (.int 1)) _ >>= λkk=>match cC kk with | some _=>if ks.length<1000 then Rs.ok (Fl.nx _)else .bad | none=> .bad)=_
     rw[ev,aI,ek,aI,cN]
     have hlen:ks.length<1000:=by rw[<-hks,Ig];exact Mg (jo D.nd D.sub) hP
     simp only[if_pos hlen]
     have hd1:gV (en c) (eW (d+m,w++ [k])) ks vs=(ns'.map en,dV ns' (Gr.put b c (d+m,w++ [k]))):=by rw[<-hks,<-hvs];exact hd
     rw[hd1]
     rfl
    rw[az pt];exact bL (t:=.bl true) rfl rfl
def xW (L:bw N2)(st:T)(ns:List N2)(b:bY N2)(mv:Bool)(s4 s5 s6 s7 s8:Sl):En:=[.va (eL L),.va st,.ow (.dct (ns.map en) (dV ns b)),.va (.bl mv),s4,s5,s6,s7,s8]
def Af (L:bw N2)(P:List N2)(st:T)(X:Rs Fl):Sum (bY N2×Bool) (List Nat)->Prop
 | .inr q=>X= .ok (.rt (.tup [.non,.lst (eN q)]))
 | .inl (b',mv')=> ∃ns' s4 s5 s6 s7 s8,DR P ns' b'/\X= .ok (.nx (xW L st ns' b' mv' s4 s5 s6 s7 s8))
theorem qt {L:bw N2}{S P:List N2}(hL:L.length<=500)(hP:P.length<1000)(hx:∀x∈L,x.2.1∈P)(st:T):∀(r:bw N2) (k:Nat) (b:bY N2) (mv:Bool) (ns:List N2) (s4 s5 s6 s7 s8:Sl),L.drop k=r->Kept L S b->DR P ns b →
  Af L P st (br GB Al (bB k (r.map eB)) (xW L st ns b mv s4 s5 s6 s7 s8)) (hW L k r b mv)
 | [],k,b,mv,ns,s4,s5,s6,s7,s8,_,K,D=>⟨ns,s4,s5,s6,s7,s8,D,rfl⟩
 | x::r,k,b,mv,ns,s4,s5,s6,s7,s8,hr,K,D=>by
  have e:L[k]? =some x:=by
   have:=congrArg (·[0]?) hr
   simpa using this
  have hr':L.drop (k+1)=r:=by
   have:=congrArg (List.drop 1) hr
   simpa [List.drop_drop,Ou]using this
  have tg:GB (.tup [.int k,eB x]) (xW L st ns b mv s4 s5 s6 s7 s8)= .ok [.va (eL L),.va st,.ow (.dct (ns.map en) (dV ns b)),.va (.bl mv),.va (.int k),.va (eB x),s6,s7,s8]:=rfl
  have tn:=AI K D hL hP e (hx x (Jg e)) st mv s6 s7 s8;rw[hW,Ic,bB]
  cases q:gH L b k x with
  | inr w=>
   rw[q]at tn;simp only;unfold Af
   exact my tg tn
  | inl o=>
   rw[q]at tn
   cases o with
   | none=>
    obtain⟨s6',s7',s8',tn⟩:=tn;simp only;rw[BG tg tn]
    exact qt hL hP hx st r (k+1) b mv ns _ _ _ _ _ hr' K D
   | some b'=>
    obtain⟨ns',s6',s7',s8',D',tn⟩:=tn;simp only;rw[e9 tg tn];refine qt (S:=S) hL hP hx st r (k+1) b' true ns' _ _ _ _ _ hr' ?_ D'
    -- what is kept stays so
    obtain⟨a,c,m⟩:=x;unfold gH at q
    cases qa:b a with
    | none=>simp only[qa]at q;cases q
    | some y=>
     obtain⟨d,w⟩:=y;simp only[qa]at q
     split at q
     ·rename_i hb
      split at q
      ·cases q
      ·rename_i hn
       cases q;exact K.put e qa hb hn
     ·cases q
abbrev wF:En->Rs Fl:=aC (cu (cn (.bl false)) (gN 3)) (ij (iE (ae (vr 0) ai)) GB Al)
def SetP (L:bw N2)(P:List N2)(st:T)(X:Rs Fl):Sum (bY N2) (List Nat)->Prop
 | .inr q=>X= .ok (.rt (.tup [.non,.lst (eN q)]))
 | .inl b'=> ∃ns' s4 s5 s6 s7 s8,DR P ns' b'/\X= .ok (.nx (xW L st ns' b' false s4 s5 s6 s7 s8))
theorem sG {L:bw N2}{S P:List N2}(hL:L.length<=500)(hP:P.length<1000)(hx:∀x∈L,x.2.1∈P)(st:T):∀(n:Nat) (b:bY N2) (ns:List N2) (s4 s5 s6 s7 s8:Sl) (r:Sum (bY N2) (List Nat)),Kept L S b->DR P ns b->Gr.settle L n b=some r →
  SetP L P st (bN (tb (vr 3)) wF (n+1) (xW L st ns b true s4 s5 s6 s7 s8)) r
 | 0,_,_,_,_,_,_,_,_,_,_,h=>by cases h
 | n+1,b,ns,s4,s5,s6,s7,s8,r,K,D,h=>by
  have sw:=qt hL hP hx st L 0 b false ns s4 s5 s6 s7 s8 rfl K D
  have ok:=ir (S:=S) L 0 b false rfl K
  have body:∀X,br GB Al (bB 0 (L.map eB)) (xW L st ns b false s4 s5 s6 s7 s8)= .ok X->wF (xW L st ns b true s4 s5 s6 s7 s8)= .ok X:=λX hX=>by
   show aC _ _ _=_
   rw[az (Z':=xW L st ns b false s4 s5 s6 s7 s8) (bL (t:=.bl false) rfl rfl)];exact gK (ts:=bB 0 (L.map eB)) (F8 rfl) hX
  have tt:tb (vr 3) (xW L st ns b true s4 s5 s6 s7 s8)= .ok true:=rfl;rw[Gr.settle]at h
  revert sw ok h
  generalize hW L 0 L b false=R
  intro h sw ok
  cases R with
  | inr q=>
   simp only at h;cases h
   exact zp tt (body _ sw)
  | inl p=>
   obtain⟨b',mv'⟩:=p;obtain⟨ns',t4,t5,t6,t7,t8,D',sw⟩:=sw;obtain⟨K',_⟩:=ok
   cases mv' with
   | true=>
    simp only at h
    have ih:=sG hL hP hx st n b' ns' t4 t5 t6 t7 t8 r K' D' h;rw[tO tt (body _ sw)]
    exact ih
   | false=>
    simp only at h;cases h;refine⟨ns',t4,t5,t6,t7,t8,D',?_⟩
    rw[tO tt (body _ sw)];exact zq rfl
theorem gO {c:En->Rs Bool}{F:En->Rs Fl}{x:Fl}:∀{n m:Nat} {Z:En},n<=m->bN c F n Z= .ok x->bN c F m Z= .ok x
 | 0,_,_,_,h=>by cases h
 | n+1,0,_,hl,_=>absurd hl (by omega)
 | n+1,m+1,Z,hl,h=>by
  unfold bN at h ⊢
  cases q:c Z with
  | bad=>rw[q]at h;cases h
  | err _=>rw[q]at h;cases h
  | ok k=>
   rw[q]at h
   cases k with
   | false=>exact h
   | true=>
    simp only at h ⊢
    cases q2:F Z with
    | bad=>rw[q2]at h;cases h
    | err _=>rw[q2]at h;cases h
    | ok f=>
     rw[q2]at h
     cases f with
     | nx Z'=>exact gO (by omega) h
     | ct Z'=>exact gO (by omega) h
     | bk Z'=>exact h
     | rt t=>exact h
theorem yE (w:T):∀S:List N2,EE (S.map λv=> .tup [en v,w])=some (S.map λv=>(en v,w))
 | [] =>rfl
 | v::S=>by rw[Ic,EE,cN,yE w S];rfl
theorem ua (w:T):∀(S ns:List N2) (g:N2->T),(ns++S).Nodup->(∀v∈S,g v=w)->i6 (S.map λv=>(en v,w)) (ns.map en,ns.map g)=((ns++S).map en,(ns++S).map g)
 | [],ns,g,_,_=>by rw[JE];rfl
 | v::S,ns,g,hn,hg=>by
  have hv:v∉ns:=λz=>by
   rw[JQ]at hn;exact hn.2.2 v z v Ie rfl
  rw[Ic,i6,oq _ _ _ _ hv]
  have e1:ns.map en++ [en v] =(ns++ [v]).map en:=by rw[JG];rfl
  have e2:ns.map g++ [w] =(ns++ [v]).map g:=by rw[JG,<-hg v Ie];rfl
  rw[e1,e2,ua w S (ns++ [v]) g (by rw[IW];exact hn) λu hu=>hg u (Ia _ hu),IW]
  rfl
theorem B1 (w:T)(S:List N2)(hn:S.Nodup)(hl:S.length<=1000):wg [.lst (S.map λv=> .tup [en v,w])] = .ok (.dct (S.map en) (S.map λ_=>w)):=by
 unfold wg;simp only[yE];rw[if_pos (by rw[Ig];exact hl)]
 have:=ua w S [] (λ_=>w) (by simpa using hn) (λ_ _=>rfl)
 rw[JX]at this;rw[show(([]:List T),([]:List T))=(([]:List N2).map en,([]:List N2).map λ_=>w)from rfl,this]
def eS (S:List N2):T:=.lst (S.map en)
def Ca (L:bw N2)(P:List N2)(X:Rs T):Sum (bY N2) (List Nat)->Prop
 | .inr q=>X= .ok (.tup [.non,.lst (eN q)])
 | .inl b'=> ∃ns',DR P ns' b'/\X= .ok (.tup [.dct (ns'.map en) (dV ns' b'),.non])
structure ED (L:bw N2)(P:List N2):Prop where
 len:L.length<=500
 size:size L<=100000000
 ends:∀x∈L,x.1∈P/\x.2.1∈P
 pl:P.length<1000
def SOk (L:bw N2)(S:List N2):Sum (bY N2) (List Nat)->Prop
 | .inr q=>Bar L q
 | .inl b'=>Settled L S b'
theorem om {L:bw N2}{S P:List N2}(F:ED L P)(hS:S.Nodup)(hSP:∀v∈S,v∈P):∃r,Ca L P (eF [eL L,eS S]) r/\SOk L S r:=by
 have bound:L.length*(2*size L+1)<1000000000000 - 1:=by
  have h1:=F.len
  have h2:=F.size
  have:L.length*(2*size L+1)<=500*(2*100000000+1):=Nat.mul_le_mul h1 (by omega)
  omega
 obtain⟨r,hr,ok⟩:=uA L S bound
 have ok':SOk L S r:=by cases r <;> exact ok
 refine⟨r,?_,ok'⟩
 have hSl:S.length<=1000:=IQ (jo hS hSP) (by have:=F.pl;omega)
 have D0:DR P S (Gr.start S):=⟨hS,λv=>by unfold Gr.start;by_cases h:v∈S <;> simp[h],hSP⟩
 have dv0:dV S (Gr.start S)=S.map λ_=>eW (0,[]):=Ju λv hv=>by unfold Gr.start;rw[if_pos hv];rfl
 have w:=sG F.len F.pl (λx hx=>(F.ends x hx).2) (eS S) _ (Gr.start S) S .em .em .em .em .em r (n5 L S) D0 hr
 have lc:fA (iS (vr 1)) [none] (gN 0) bT (aO (ae (vr 0) (ae (aO (ae (cn (.int 0)) (ae (ff ai) ai))) ai))) [.va (eL L),.va (eS S),.em,.em,.em,.em,.em,.em,.em] = .ok (.lst (S.map λv=> .tup [en v,eW (0,[])])):=by
  have:=rB (fi:=iS (vr 1)) (src:=[none]) (fe:=aO (ae (vr 0) (ae (aO (ae (cn (.int 0)) (ae (ff ai) ai))) ai))) (h:=λt=> .tup [t,eW (0,[])]) (Z:=[.va (eL L),.va (eS S),.em,.em,.em,.em,.em,.em,.em]) (ts:=S.map en) (iX rfl) (ax (k:=1000) (by rw[Ig];exact hSl)) (by simp) λt _=>
   bJ (ts:=[t,eW (0,[])]) (au rfl (au (bJ (ts:=[.int 0,.lst []]) (au rfl (au (ie (ts:=[]) rfl (Kq _)) rfl)) (ax (k:=2) (by simp))) rfl)) (ax (k:=2) (by simp))
  rw[this,J3];rfl
 have n0:pC 2 (fA (iS (vr 1)) [none] (gN 0) bT (aO (ae (vr 0) (ae (aO (ae (cn (.int 0)) (ae (ff ai) ai))) ai)))) [.va (eL L),.va (eS S),.em,.em,.em,.em,.em,.em,.em] = .ok (.nx [.va (eL L),.va (eS S),.ow (.dct (S.map en) (dV S (Gr.start S))),.em,.em,.em,.em,.em,.em]):=by
  unfold pC;rw[lc,aI,B1 _ S hS hSl,aI,dv0]
  rfl
 have main:∀G X,bN (tb (vr 3)) wF FU (xW L (eS S) S (Gr.start S) true .em .em .em .em .em)= .ok X->jf [.va (eL L),.va (eS S),.em,.em,.em,.em,.em,.em,.em] =G->(aC (bN (tb (vr 3)) wF FU) (qC 2 (aK (aO (ae (vr 2) (ae (cn .non) ai)))))) (xW L (eS S) S (Gr.start S) true .em .em .em .em .em)=G:=λG X _ h=>by
  rw[<-h];unfold jf;rw[az n0,az (Z':=xW L (eS S) S (Gr.start S) true .em .em .em .em .em) (bL (t:=.bl true) rfl rfl)]
 cases r with
 | inr q=>
  have w':=gO (m:=FU) (by unfold FU;omega) w
  refine bz rfl ?_
  show jf [.va (eL L),.va (eS S),.em,.em,.em,.em,.em,.em,.em] =_
  rw[<-main _ _ w' rfl]
  exact gq w'
 | inl b'=>
  obtain⟨ns',s4,s5,s6,s7,s8,D',w⟩:=w
  have w':=gO (m:=FU) (by unfold FU;omega) w
  refine⟨ns',D',bz rfl ?_⟩
  show jf [.va (eL L),.va (eS S),.em,.em,.em,.em,.em,.em,.em] =_
  rw[<-main _ _ w' rfl,az w'];exact Gb (bQ (bJ (ts:=[.dct (ns'.map en) (dV ns' b'),.non]) rfl (ax (k:=2) (by simp))))
theorem nU {α:Type}{f:α->T}{p:α->Prop}:∀{l:List T},(∀t∈l,∃x,t=f x/\p x)->∃L:List α,l=L.map f/\∀x∈L,p x
 | [],_=>⟨[],rfl,λ_ h=>nomatch h⟩
 | t::l,h=>by
  obtain⟨x,e,hx⟩:=h t Ie;obtain⟨L,e2,h2⟩:=nU (l:=l) λu hu=>h u (Ia _ hu)
  exact⟨x::L,by rw[e,e2];rfl,λy hy=>(Ij.mp hy).elim (λz=>z▸hx) (h2 y)⟩
theorem vc {t:T}(h:bH t=true):∃(x y:Int) (r:List Int),t= .tup [.int x,.int y,.tup (r.map .int)]/\(0<=x/\x<=9)/\(0<=y/\y<=9)/\∀k,0<=r.getD k 0/\r.getD k 0<=99:=by
 obtain⟨x,y,r,rfl,h1,h2,h3,h4⟩:=gX h;refine⟨x,y,r,rfl,h1,h2,λk=> ?_⟩
 have h':(oS (.int x) (.int y)&&dh (.tup (r.map .int)))=true:=h;rw[HZ]at h'
 have hr:=h'.2;unfold dh at hr;rw[HZ]at hr
 have hr2:(((r.map T.int).all λu=>ba u 0 99)&&(match kM (r.map .int)with | some m=>oH m | none=>false))=true:=hr.2
 rw[HZ]at hr2
 by_cases hk:k<r.length
 ·have:=IR.mp hr2.1 (.int r[k]) (ID.mpr ⟨_,JK hk,rfl⟩)
  obtain⟨i,e,a,b⟩:=cU this;cases e;simp[hk];exact⟨a,b⟩
 ·simp[hk]
theorem vI {cs:List T}{i:Nat}:∀{cs0:List T} {c k:Nat},i<=c->c<i+cs0.length->k<C1 (cs0.getD (c - i) .non)->T.tup [.int c,.int k] ∈fo i cs0:=by
 intro cs0
 induction cs0 generalizing i with
 | nil=>intro c k h1 h2;simp at h2;omega
 | cons a r ih=>
  intro c k h1 h2 h3;rw[fo,IB]
  by_cases e:c=i
  ·subst e
   rw[K9]at h3
   have h3':k<C1 a:=h3;exact .inl (ID.mpr ⟨.int k,BC h3',rfl⟩)
  ·refine .inr (ih (by omega) (by rw[Io]at h2;omega) ?_)
   rw[show c - i=(c - (i+1))+1 by omega]at h3
   exact h3
theorem pV {cs:List T}{t:T}(h:aU cs t=true):t∈fo 0 cs:=by
 obtain⟨c,k,rfl⟩:=cR h;unfold aU at h;simp only[HZ,decide_eq_true_eq]at h;obtain⟨⟨h1,h2⟩,h3,h4⟩:=h;obtain⟨c,rfl⟩:=Jc h1;obtain⟨k,rfl⟩:=Jc h3;rw[pD]at h4;exact vI (cs:=cs) (Kq _) (by omega) (by rw[M8];omega)
theorem zO {cs:List T}{t:T}(h:t∈fo 0 cs):∃v:N2,t=en v/\True:=by
 obtain⟨c,k,rfl,_⟩:=mx cs 0 h;exact⟨⟨c,k⟩,rfl,trivial⟩
def big (x:N2×N2×Int):Prop:=x.2.2.natAbs<=999
theorem pI {a b:Int}(ha : -99<=a/\a<=99)(hb:0<=b/\b<=9):(a*b).natAbs<=999:=by
 rw[Int.natAbs_mul]
 have h1:a.natAbs<=99:=by omega
 have h2:b.natAbs<=9:=by omega
 exact IQ (Nat.mul_le_mul h1 h2) (by decide)
theorem CC {cs0:List T}:∀{cs:List T} {i:Nat},(∀c∈cs,bH c=true)->(∀c k:Nat,i<=c->c<i+cs.length->k<C1 (cs.getD (c - i) .non)->T.tup [.int c,.int k] ∈fo 0 cs0) →
  ∀t∈bC i cs,∃x,t=eB x/\(en x.1∈fo 0 cs0/\en x.2.1∈fo 0 cs0/\big x)
 | [],_,_,_,t,h=>by simp[bC]at h
 | c::cs,i,hc,hm,t,h=>by
  rw[bC,IB]at h;rcases h with h | h
  ·obtain⟨x,y,r,rfl,hx,hy,hr⟩:=vc (hc c Ie)
   have hm0:∀k,k<r.length->T.tup [.int i,.int k] ∈fo 0 cs0:=λk hk=>hm i k (Il _) (by simp) (by rw[K9];show k<(r.map T.int).length;rw[Ig];exact hk)
   rw[vk]at h;unfold cB at h;obtain⟨k,hk,hp⟩:=LJ.mp h
   have hk:=Ji.mp hk
   have d : -99<=dr r k/\dr r k<=99:=by have:=hr k;have:=hr (k+1);unfold dr;omega
   unfold pr at hp;simp only[Ij,IM,or_false]at hp;rcases hp with rfl | rfl
   ·exact⟨(⟨i,k⟩,⟨i,((k+1:Nat):Int)⟩,dr r k*y),rfl,hm0 k (by omega),hm0 (k+1) (by omega),pI d hy⟩
   ·exact⟨(⟨i,((k+1:Nat):Int)⟩,⟨i,k⟩,-dr r k*x),rfl,hm0 (k+1) (by omega),hm0 k (by omega),pI (by omega) hx⟩
  ·exact CC (cs:=cs) (i:=i+1) (λc h=>hc c (Ia _ h)) (λc k h1 h2 h3=>hm c k (by omega) (by rw[Io];omega) (by rw[show c - i=(c - (i+1))+1 by omega];exact h3)) t h
theorem FZ {cs:List T}{u:T}(hu:aZ cs u=true):∀t∈lB u,∃x,t=eB x/\(en x.1∈fo 0 cs/\en x.2.1∈fo 0 cs/\big x):=by
 intro t ht;obtain⟨a,b,x,y,rfl,hd,ha,hb,_⟩:=dB hu
 have ma:=pV ha
 have mb:=pV hb;obtain⟨va,rfl,_⟩:=zO ma;obtain⟨vb,rfl,_⟩:=zO mb;unfold cY at hd;rw[HZ]at hd;obtain⟨i,rfl,i1,i2⟩:=cU hd.1
 have e2:lB (.tup [en va,en vb,.int i,y])= .tup [en vb,en va,.int (-i)] ::(if y.isN then []else [.tup [en va,en vb,y]]):=rfl
 rw[e2]at ht;rcases Ij.mp ht with rfl | ht
 ·exact⟨(vb,va,-i),rfl,mb,ma,by unfold big;simp only;omega⟩
 ·cases q:y.isN with
  | true=>rw[q]at ht;simp at ht
  | false=>
   rw[q]at ht
   have ht:t= .tup [en va,en vb,y]:=by simpa using ht
   have hw:ba y i 999=true:=by
    cases y with
    | non=>cases q
    | _=>exact hd.2
   obtain⟨j,rfl,j1,j2⟩:=cU hw;exact⟨(va,vb,j),ht,ma,mb,by unfold big;simp only;omega⟩
structure Rd (cs ls:List T)(L:bw N2)(P:List N2):Prop where
 g:Good cs ls
 b:xQ cs ls=L.map eB
 e:fo 0 cs=P.map en
 f:ED L P
 nd:P.Nodup
 pl:P.length<=16
 ll:L.length<=60
 bg:∀x∈L,big x
theorem vq {L:bw N2}(h:∀x∈L,big x):size L<=999*L.length:=by
 unfold size
 induction L with
 | nil=>simp
 | cons x L ih=>
  rw[Ic,J2,Io]
  have:=ih λy hy=>h y (Ia _ hy)
  have:=h x Ie;unfold big at this;omega
theorem yX {P:List N2}(h:(P.map en).Nodup):P.Nodup:=by
 induction P with
 | nil=>exact Kz
 | cons a r ih=>
  rw[Ic,IT]at h;exact IT.mpr ⟨λz=>h.1 (ID.mpr ⟨a,z,rfl⟩),ih h.2⟩
theorem pE {cs ls:List T}(g:Good cs ls):∃L P,Rd cs ls L P:=by
 obtain⟨hc,c1,c4⟩:=c6 g.c;obtain⟨P,eP,_⟩:=nU (f:=en) (p:=λ_=>True) (l:=fo 0 cs) λt ht=>zO ht
 have key:∀t∈xQ cs ls,∃x,t=eB x/\(en x.1∈fo 0 cs/\en x.2.1∈fo 0 cs/\big x):=λt ht=>by
  unfold xQ at ht;rw[IB]at ht;rcases ht with h | h
  ·exact CC hc (λc k h1 h2 h3=>vI (cs:=cs) h1 h2 h3) t h
  ·obtain⟨u,hu,h⟩:=LJ.mp h
   exact FZ (g.l u hu) t h
 obtain⟨L,eL,hL⟩:=nU key
 have mem:∀v:N2,en v∈fo 0 cs->v∈P:=λv hv=>by
  rw[eP]at hv;obtain⟨u,hu,e⟩:=ID.mp hv;rw[<-zS e];exact hu
 have hl:=B6 g;rw[eL,Ig]at hl
 have hp:=rK cs 0 hc;rw[eP,Ig]at hp
 have hs:=vq λx hx=>(hL x hx).2.2
 exact⟨L,P,g,eL,eP,⟨by omega,by omega,λx hx=>⟨mem _ (hL x hx).1,mem _ (hL x hx).2.1⟩,by omega⟩,yX (eP▸lj cs 0),by omega,hl,λx hx=>(hL x hx).2.2⟩
theorem Dx {l:List T}:(T.lst l).pl=plS l:=by unfold T.pl;rfl
def run (L:bw N2):N2->List Nat->Option N2
 | a,[] =>some a
 | a,k::r=>match L[k]? with
  | some x=>if x.1=a then run L x.2.1 r else none
  | none=>none
theorem Cp (u v:N2):jQ (en u) (en v)= .ok (.bl (!decide (u=v))):=by
 unfold jQ;rw[if_pos (eK (rO u) rfl rfl),rW]
theorem Gq {L:bw N2}{k:Nat}{x:N2×N2×Int}{f g:En->Rs T}{Z:En}(hf:f Z= .ok (eL L))(hg:g Z= .ok (.int (k:Nat)))(e:L[k]? =some x):o2 aP f g Z= .ok (eB x):=
 Cv (l:=L.map eB) hf hg (by rw[IF,e];rfl)
section
variable {cs ls:List T}{L:bw N2}{P:List N2}
theorem Rd.ev (R:Rd cs ls L P){v:N2}(h:v∈P):aU cs (en v)=true:=zN (by rw[R.e];exact ID.mpr ⟨v,h,rfl⟩)
theorem Rd.bounds (R:Rd cs ls L P):dt [RR cs ls] = .ok (eL L):=by rw[z5 R.g,R.b];rfl
theorem Rd.HL (R:Rd cs ls L P){a b:N2}(ha:a∈P)(hb:b∈P):fj [RR cs ls,en a,en b] = .ok .non:=by
 refine n6 (Z:=[.va (RR cs ls),.va (en a),.va (en b)]) rfl ?_
 show gx [.va (RR cs ls),.va (en a),.va (en b)] =_
 unfold gx;rw[az (kS (t:=.non) (aJ (ts:=[RR cs ls]) rfl (iU R.g.p R.g.ok)))];rw[az (kS (t:=.non) (aJ (ts:=[RR cs ls,en a]) rfl (vG R.g rfl (R.ev ha))))];exact kS (t:=.non) (aJ (ts:=[RR cs ls,en b]) rfl (vG R.g rfl (R.ev hb)))
end
theorem DW (L:bw N2){f:En->Rs T}{Z:En}(h:f Z= .ok (eL L)):cl cQ (ae f ai) Z= .ok (.int (L.length:Nat)):=aJ (ts:=[eL L]) (au h rfl) (by show Rs.ok (T.int ((L.map eB).length:Nat))=_;rw[Ig])
section
variable {cs ls:List T}{L:bw N2}{P:List N2}
theorem Rd.events (R:Rd cs ls L P):c7 [RR cs ls] = .ok (eS P):=by rw[yQ R.g,R.e];rfl
theorem rN {ns:List N2}{b:bY N2}(D:DR P ns b){v:N2}{x:Int×List Nat}(e:b v=some x):pf (.dct (ns.map en) (dV ns b)) (en v)= .ok (eW x):=by
 unfold pf;simp only[cN];rw[D.get,e];rfl
theorem u7 {ns:List N2}{b:bY N2}(D:DR P ns b)(v:N2):xH (en v) (.dct (ns.map en) (dV ns b))= .ok (.bl (b v).isSome):=by
 unfold xH;simp only[cN];rw[D.get];cases b v <;> rfl
def tmT (P:List N2)(t:N2->Int):T:=.tup (P.map λv=> .int (t v))
def Gy (b:bY N2)(v:N2):Int:=match b v with
 | some x=>x.1
 | none=>0
def atT (t:N2->Int)(u:T):T:=match u with
 | .tup [.int c,.int k] => .int (t ⟨c,k⟩)
 | _=> .non
theorem Rd.Hv (R:Rd cs ls L P):(¬NoNeg L/\jr [(RR cs ls)] = .ok .non)\/(NoNeg L/\∃t b,Settled L P b/\(∀v∈P,∃w,b v=some (t v,w))/\jr [(RR cs ls)] = .ok (tmT P t)):=by
 obtain⟨r,hr,ok⟩:=om R.f R.nd (λv h=>h)
 have wrap:∀{w:T},dz [(RR cs ls),eL L] = .ok w->jr [(RR cs ls)] = .ok w:=λ{w} e=>bz rfl (bQ (aJ (ts:=[(RR cs ls),eL L]) (au rfl (au (aJ (ts:=[(RR cs ls)]) rfl R.bounds) rfl)) e))
 have begin_:∀{x z:T} {y:Rs Fl},eF [eL L,eS P] = .ok (.tup [x,z])->((aC (eX (tb (o2 lA (vr 3) (cn .non))) (aK (cn .non)) sN) (aK (cl fD (ae (fA (iS (vr 2)) [none,some 3] (gN 0) bT (o2 aP (o2 pf (vr 1) (vr 0)) (cn (.int 0)))) ai)))) [.va (RR cs ls),.va (eL L),.va (eS P),.va x] =y)->fg [.va (RR cs ls),.va (eL L),.em,.em] =y:=λ{x z y} hs hy=>by
  unfold fg;rw[az (Z':=[.va (RR cs ls),.va (eL L),.va (eS P),.em]) (bL (aJ (ts:=[(RR cs ls)]) rfl R.events) rfl)];rw[az (Z':=[.va (RR cs ls),.va (eL L),.va (eS P),.va x]) (bL (aA (u:=.int 0) (aJ (ts:=[eL L,eS P]) rfl hs) rfl rfl) rfl)];exact hy
 cases r with
 | inr q=>exact .inl ⟨λn=>absurd n (Bar.neg ok),wrap (bz rfl (begin_ hr (gq ((fK (bu (aA (t:=.non) (u:=.non) rfl rfl rfl))).trans rfl))))⟩
 | inl b=>
  obtain⟨ns,D,hr⟩:=hr
  have ok:Settled L P b:=ok
  have htm:∀v∈P,∃w,b v=some (Gy b v,w):=λv hv=>by
   obtain⟨d,w,e,_⟩:=ok.least v hv v 0 (.nil v);exact⟨w,by unfold Gy;rw[e]⟩
  refine .inr ⟨(ok.holds R.f.ends htm).Ha,Gy b,b,ok,htm,wrap (bz rfl (begin_ hr ?_))⟩
  generalize Gy b=tm at htm
  have lc:fA (iS (vr 2)) [none,some 3] (gN 0) bT (o2 aP (o2 pf (vr 1) (vr 0)) (cn (.int 0))) [.va (RR cs ls),.va (eL L),.va (eS P),.va (.dct (ns.map en) (dV ns b))] = .ok (.lst ((P.map en).map (atT tm))):=
   rB (ts:=P.map en) (iX rfl) (ax (k:=16) (by rw[Ig];exact R.pl)) (by simp) λt ht=>by
    obtain⟨v,hv,rfl⟩:=ID.mp ht;obtain⟨w,e⟩:=htm v hv;exact aA (t:=eW (tm v,w)) (u:=.int 0) (aA (t:=.dct (ns.map en) (dV ns b)) (u:=en v) rfl rfl (rN D e)) rfl rfl
  rw[J3]at lc;rw[az (Z':=[.va (RR cs ls),.va (eL L),.va (eS P),.va (.dct (ns.map en) (dV ns b))]) ((cJ (bu (aA (t:=.dct (ns.map en) (dV ns b)) (u:=.non) rfl rfl rfl))).trans rfl)];exact bQ (aJ (au lc rfl) rfl)
theorem Rd.Hm (R:Rd cs ls L P):∃hw:Bool,aW [(RR cs ls)] = .ok (.bl hw)/\(hw=true↔NoNeg L):=by
 rcases R.Hv with⟨n,e⟩ | ⟨n,t,b,_,_,e⟩
 ·exact⟨false,bz rfl (bQ (aA (t:=.non) (u:=.non) (aJ (ts:=[(RR cs ls)]) rfl e) rfl rfl)),λz=>(by cases z),λz=>absurd z n⟩
 ·exact⟨true,bz rfl (bQ (aA (t:=tmT P t) (u:=.non) (aJ (ts:=[(RR cs ls)]) rfl e) rfl rfl)),λ_=>n,λ_=>rfl⟩
theorem Rd.G9 (R:Rd cs ls L P)(n:NoNeg L):bp [RR cs ls] = .ok .non:=by
 obtain⟨hw,e,i⟩:=R.Hm;rw[i.mpr n]at e;refine n6 (Z:=[.va (RR cs ls)]) rfl ?_
 show gY [.va (RR cs ls)] =_
 unfold gY;exact(cJ (d7 (k:=true) (bu (aJ (ts:=[RR cs ls]) rfl e)))).trans rfl
theorem Rd.from_ (R:Rd cs ls L P)(n:NoNeg L){a:N2}(ha:a∈P):∃b ns,Settled L [a] b/\DR P ns b/\cW [RR cs ls,en a] = .ok (.dct (ns.map en) (dV ns b)):=by
 obtain⟨r,hr,ok⟩:=om (S:=[a]) R.f (by simp) (λv h=>by rw[Iv.mp h];exact ha)
 cases r with
 | inr q=>exact absurd n (Bar.neg ok)
 | inl b=>
  obtain⟨ns,D,hr⟩:=hr;refine⟨b,ns,ok,D,bz rfl (bQ (aA (u:=.int 0) (aJ (ts:=[eL L,eS [a]]) (au (aJ (ts:=[RR cs ls]) rfl R.bounds) (au (ie (ts:=[en a]) rfl (ax (k:=1) (by simp))) rfl)) hr) rfl rfl))⟩
def zc (o:Option (Int×List Nat)):T:=match o with
 | some x=> .int x.1
 | none=> .non
theorem Rd.HU (R:Rd cs ls L P)(n:NoNeg L){a c:N2}(ha:a∈P)(hc:c∈P):∃b,Settled L [a] b/\bO [RR cs ls,en a,en c] = .ok (zc (b c)):=by
 obtain⟨b,ns,S,D,e⟩:=R.from_ n ha;refine⟨b,S,bz rfl ?_⟩
 show f7 [.va (RR cs ls),.va (en a),.va (en c)] =_
 unfold f7;rw[az (kS (t:=.non) (aJ (ts:=[RR cs ls,en a,en c]) rfl (R.HL ha hc)))];rw[az (kS (t:=.non) (aJ (ts:=[RR cs ls]) rfl (R.G9 n)))];refine bQ (aJ (ts:=[.dct (ns.map en) (dV ns b),en c]) (au (aJ (ts:=[RR cs ls,en a]) rfl e) rfl) (bz rfl ?_))
 refine bQ ((tS (p:=(b c).isSome) (bu (aA (t:=en c) (u:=.dct (ns.map en) (dV ns b)) rfl rfl (u7 D c)))).trans ?_)
 cases q:b c with
 | none=>rfl
 | some x=>exact aA (t:=eW x) (u:=.int 0) (aA (t:=.dct (ns.map en) (dV ns b)) (u:=en c) rfl rfl (rN D q)) rfl rfl
end
def oI (o:Option Int):T:=match o with
 | some x=> .int x
 | none=> .non
section
variable {cs ls:List T}{L:bw N2}{P:List N2}{ns:List Int}
theorem vH {a:N2}{b:bY N2}{f:dS N2}(S:Settled L [a] b)(F:Least L P f)(ha:a∈P)(c:N2):zc (b c)=oI (f a c):=by
 cases q:b c with
 | none=>
  cases e:f a c with
  | none=>rfl
  | some y=>
   obtain⟨d,w,z,_⟩:=S.least a (by simp) c y (F.is a c y e)
   rw[q]at z;cases z
 | some x=>
  obtain⟨d,w⟩:=x;obtain⟨s,hs,h1,h2,_⟩:=S.walk c d w q;rw[Iv.mp hs]at h1
  have wk:Wk L a c d:=h2▸h1.wk;obtain⟨y,e,hy⟩:=F.le a ha c d wk;obtain⟨d',w',z,hd⟩:=S.least a (by simp) c y (F.is a c y e)
  rw[q]at z;cases z;rw[e]
  show T.int d= .int y
  congr 1
  omega
theorem Rd.Hz (R:Rd cs ls L P)(n:NoNeg L){f:dS N2}(F:Least L P f){a c:N2}(ha:a∈P)(hc:c∈P):bO [(RR cs ls),en a,en c] = .ok (oI (f a c)):=by
 obtain⟨b,S,e⟩:=R.HU n ha hc;rw[e,vH S F ha]
def EF (o:Option Int):T:=match o with
 | some x=> .int (0 - x)
 | none=> .non
theorem Rd.HI (R:Rd cs ls L P)(n:NoNeg L){f:dS N2}(F:Least L P f){a c:N2}(ha:a∈P)(hc:c∈P):dO [(RR cs ls),en a,en c] = .ok (EF (f c a)):=by
 refine bz rfl ?_
 show fH [.va (RR cs ls),.va (en a),.va (en c),.em] =_
 unfold fH;rw[az (Z':=[.va (RR cs ls),.va (en a),.va (en c),.va (oI (f c a))]) (bL (aJ (ts:=[(RR cs ls),en c,en a]) rfl (R.Hz n F hc ha)) rfl)]
 cases f c a with
 | none=>exact bQ ((tS (p:=true) (bu (aA (t:=.non) (u:=.non) rfl rfl rfl))).trans rfl)
 | some x=>
  refine bQ ((tS (p:=false) (bu (aA (t:=.int x) (u:=.non) rfl rfl rfl))).trans ((xu (t:=.int x) rfl rfl).trans ?_))
  show Rs.ok (T.int (-x))= .ok (.int (0 - x))
  rw[Int.zero_sub]
theorem FE (o:Option Int):(oI o).pl=true:=by cases o <;> rfl
theorem uR {D:Bool}:∀{l:List T},(∀t∈l,t.nk D=true)->nks D l=true
 | [],_=>rfl
 | t::l,h=>by unfold nks;rw[h t Ie,uR λu hu=>h u (Ia _ hu)];rfl
theorem kY {k:Nat}:∀{l:List T},(∀t∈l,t.dep<=k)->deps l<=k
 | [],_=>by unfold deps;omega
 | t::l,h=>by
  unfold deps;exact Nat.max_le.mpr ⟨h t Ie,kY λu hu=>h u (Ia _ hu)⟩
def jY (P:List N2)(f:dS N2)(u:N2):T:=.tup (P.map λv=>oI (f u v))
def ft (P:List N2)(f:dS N2):T:=.tup (P.map (jY P f))
theorem Dw (P:List N2)(f:dS N2)(u:N2):(jY P f u).pl=true:=by
 unfold jY;rw[eE];exact gp λt ht=>by obtain⟨v,_,rfl⟩:=ID.mp ht;exact FE _
theorem uH (P:List N2)(f:dS N2):(ft P f).pl=true:=by
 unfold ft;rw[eE];exact gp λt ht=>by obtain⟨v,_,rfl⟩:=ID.mp ht;exact Dw _ _ _
theorem DU (D:Bool)(P:List N2)(f:dS N2):(ft P f).nk D=true:=by
 show nks D (P.map (jY P f))=true
 refine uR λt ht=> ?_
 obtain⟨u,_,rfl⟩:=ID.mp ht
 show nks D (P.map λv=>oI (f u v))=true
 refine uR λt ht=> ?_
 obtain⟨v,_,rfl⟩:=ID.mp ht;cases f u v <;> rfl
theorem wm (P:List N2)(f:dS N2):(ft P f).dep<=60:=by
 have h0:∀o:Option Int,(oI o).dep<=1:=λo=>by cases o <;> simp[oI,T.dep]
 have h1:∀u,(jY P f u).dep<=2:=λu=>by
  unfold jY T.dep
  have:deps (P.map λv=>oI (f u v))<=1:=kY λt ht=>by obtain⟨v,_,rfl⟩:=ID.mp ht;exact h0 _
  omega
 unfold ft T.dep
 have:deps (P.map (jY P f))<=2:=kY λt ht=>by obtain⟨v,_,rfl⟩:=ID.mp ht;exact h1 _
 omega
theorem zT {b:bY N2}{ms:List N2}(D:DR P ms b)(c:N2):dY [.dct (ms.map en) (dV ms b),en c] = .ok (zc (b c)):=by
 refine bz rfl ?_
 refine bQ ((tS (p:=(b c).isSome) (bu (aA (t:=en c) (u:=.dct (ms.map en) (dV ms b)) rfl rfl (u7 D c)))).trans ?_)
 cases q:b c with
 | none=>rfl
 | some x=>exact aA (t:=eW x) (u:=.int 0) (aA (t:=.dct (ms.map en) (dV ms b)) (u:=en c) rfl rfl (rN D q)) rfl rfl
def deO (f:dS N2)(u:N2)(t:T):T:=match t with
 | .tup [.int c,.int k] =>oI (f u ⟨c,k⟩)
 | _=> .non
theorem B2 (P:List N2)(f:dS N2)(u:N2):(P.map en).map (deO f u)=P.map λv=>oI (f u v):=by rw[J3];rfl
abbrev amF:En->Rs Fl:=(aC (cu (cl cW (ae (vr 0) (ae (vr 3) ai))) (gN 4)) (l5 2 (cl fD (ae (fA (iS (vr 1)) [none,some 4] (gN 0) bT (cl dY (ae (vr 1) (ae (vr 0) ai)))) ai))))
theorem Rd.Hh (R:Rd cs ls L P)(n:NoNeg L){f:dS N2}(F:Least L P f):∀(Q:List N2) (acc:List T) (s3 s4:Sl),(∀u∈Q,u∈P)->acc.length+Q.length<=1000->∃s3' s4',
  br (gN 3) amF (Q.map en) [.va (RR cs ls),.va (eS P),.ow (.lst acc),s3,s4] = .ok (.nx [.va (RR cs ls),.va (eS P),.ow (.lst (acc++Q.map (jY P f))),s3',s4'])
 | [],acc,s3,s4,_,_=>⟨s3,s4,by simp only[LC,JE];rfl⟩
 | u::Q,acc,s3,s4,h,hl=>by
  have hu:=h u Ie;rw[Io]at hl;obtain⟨b,ms,S,D,e⟩:=R.from_ n hu
  have lc:fA (iS (vr 1)) [none,some 4] (gN 0) bT (cl dY (ae (vr 1) (ae (vr 0) ai))) [.va (RR cs ls),.va (eS P),.ow (.lst acc),.va (en u),.va (.dct (ms.map en) (dV ms b))] = .ok (.lst ((P.map en).map (deO f u))):=
   rB (ts:=P.map en) (iX rfl) (ax (k:=16) (by rw[Ig];exact R.pl)) (by simp) λt ht=>by
    obtain⟨v,hv,rfl⟩:=ID.mp ht;refine(aJ (ts:=[.dct (ms.map en) (dV ms b),en v]) rfl (zT D v)).trans ?_
    rw[vH S F hu];rfl
  rw[B2]at lc
  have st:amF [.va (RR cs ls),.va (eS P),.ow (.lst acc),.va (en u),s4] = .ok (.nx [.va (RR cs ls),.va (eS P),.ow (.lst (acc++ [jY P f u])),.va (en u),.va (.dct (ms.map en) (dV ms b))]):=by
   refine(az (Z':=[.va (RR cs ls),.va (eS P),.ow (.lst acc),.va (en u),.va (.dct (ms.map en) (dV ms b))]) (bL (aJ (ts:=[(RR cs ls),en u]) rfl e) rfl)).trans ?_
   exact vU (l:=acc) (aJ (au lc rfl) k8) rfl (by omega)
  obtain⟨a,c,ih⟩:=R.Hh n F Q (acc++ [jY P f u]) (.va (en u)) (.va (.dct (ms.map en) (dV ms b))) (λw hw=>h w (Ia _ hw)) (by rw[Ih];simp only[Io,M7];omega)
  refine⟨a,c,?_⟩
  rw[Ic,e9 (Z1:=[.va (RR cs ls),.va (eS P),.ow (.lst acc),.va (en u),s4]) rfl st,ih,IW]
  rfl
theorem Rd.Hl (R:Rd cs ls L P)(n:NoNeg L){f:dS N2}(F:Least L P f):bq [(RR cs ls)] = .ok (ft P f):=by
 refine bz rfl ?_
 show ko [.va (RR cs ls),.em,.em,.em,.em] =_
 unfold ko;rw[az (kS (t:=.non) (aJ (ts:=[(RR cs ls)]) rfl (R.G9 n)))];rw[az (Z':=[.va (RR cs ls),.va (eS P),.em,.em,.em]) (bL (aJ (ts:=[(RR cs ls)]) rfl R.events) rfl)];rw[az (Z':=[.va (RR cs ls),.va (eS P),.ow (.lst []),.em,.em]) (uW (by simp))]
 obtain⟨a,c,e⟩:=R.Hh n F P [] .em .em (λ_ z=>z) (by have:=R.pl;simp;omega)
 rw[az (gK (ts:=P.map en) (iX rfl) e),JX];exact bQ (F6 (o:=.lst (P.map (jY P f))) rfl (aJ (ts:=[.lst (P.map (jY P f))]) rfl k8) (DU _ P f))
end
theorem y8 {n:Int}{t:T}(ht:t.pl=true)(h:ba t 0 (n - 1)=true):fh [.int n,t] = .ok .non:=by
 refine n6 (Z:=[.va (.int n),.va t]) rfl ?_
 show gw [.va (.int n),.va t] =_
 unfold gw;exact(cJ (d7 (k:=true) (bu (aJ (ts:=[t,.int 0,.int (n - 1)]) rfl (by rw[fx _ _ _ ht,h]))))).trans rfl
def sP (t:T):Rs T:=if eY t then .ok t else .err "NoRecord"
theorem zW {t:T}(hp:t.pl=true)(h:eY t=true):dZ [t] = .ok t:=by
 refine bz rfl ?_
 show fz [.va t] =_
 unfold fz;rw[az (kS (t:=.non) (aJ (ts:=[t]) rfl (iU hp h)))];exact bQ rfl
theorem zX {t:T}(hp:t.pl=true)(h:eY t=false):dZ [t] = .err "NoRecord":=by
 refine uV rfl ?_
 show fz [.va t] =_
 unfold fz;exact D6 (F9 (aJ (ts:=[t]) rfl (xj hp h)))
theorem BY {t:T}(hp:t.pl=true):dZ [t] =sP t:=by
 unfold sP
 cases h:eY t with
 | true=>exact zW hp h
 | false=>exact zX hp h
theorem AJ {f:En->Rs T}{Z:En}{t:T}(h:f Z=sP t):aK f Z=(if eY t then .ok (.rt t)else .err "NoRecord"):=by
 unfold sP at h
 cases q:eY t with
 | true=>rw[q]at h;exact bQ h
 | false=>rw[q]at h;exact D7 h
theorem Av {n m:Nat}{F:En->Rs Fl}{ts:List T}{t:T}(hl:ts.length=n)(h:F (aQ m ts)=(if eY t then .ok (.rt t)else .err "NoRecord")):val n m F ts=sP t:=by
 unfold sP
 cases q:eY t with
 | true=>rw[q]at h;exact bz hl h
 | false=>rw[q]at h;exact uV hl h
theorem mn {a b:T}(ha:a.pl=true)(hb:b.pl=true):(T.tup [a,b]).pl=true:=by simp[T.pl,plS,ha,hb]
theorem yF {l m:List T}(h1:(T.tup l).pl=true)(h2:(T.tup m).pl=true):(T.tup (l++m)).pl=true:=by
 rw[eE]at*;exact gp λt ht=>(IB.mp ht).elim (gQ h1) (gQ h2)
theorem Good.pls {cs ls:List T}(g:Good cs ls):(T.tup ls).pl=true:=by rw[eE];exact gp g.parts.2
theorem qL {cs ls:List T}{t:T}(hc:(T.tup cs).pl=true)(hl:(T.tup ls).pl=true)(hn:ls.length<=20)(ht:t.pl=true)(ok:eY (RR cs ls)=true):bV [RR cs ls,t] =sP (.tup [.tup cs,.tup (ls++ [t])]):=by
 refine Av rfl ?_
 show gv [.va (RR cs ls),.va t] =_
 unfold gv;rw[az (kS (t:=.non) (aJ (ts:=[RR cs ls]) rfl (iU (mn hc hl) ok)))];refine AJ (aJ (ts:=[.tup [.tup cs,.tup (ls++ [t])]]) (au (bJ (au (t:=.tup cs) rfl (au (t:=.tup (ls++ [t])) (aA (t:=.tup ls) (u:=.tup [t]) rfl (bJ rfl (ax (k:=1) (by simp))) (mG _ _ (by simp;omega))) rfl)) (ax (k:=2) (by simp))) rfl) (BY (mn hc (yF hl (by simp[T.pl,plS,ht])))))
section
variable {cs ls:List T}{L M:bw N2}{P:List N2}{f:dS N2}{ns:List Int}{t:N2->Int}
theorem Rd.same {ms:List T}{M:bw N2}{Q:List N2}(R:Rd cs ls L P)(S:Rd cs ms M Q):Q=P:=by
 have:P.map en=Q.map en:=by rw[<-R.e,<-S.e]
 clear R S
 induction P generalizing Q with
 | nil=>cases Q with
  | nil=>rfl
  | cons a Q=>simp at this
 | cons v P ih=>cases Q with
  | nil=>simp at this
  | cons a Q=>
   rw[Ic,Ic,LR]at this;rw[zS this.1,ih this.2]
theorem Rd.pos (R:Rd cs ls L P):0<P.length:=by
 obtain⟨hcl,c1,_⟩:=c6 R.g.c
 have e:=congrArg KG R.e;rw[Ig]at e;rw[<-e]
 cases cs with
 | nil=>simp at c1
 | cons c cs=>
  obtain⟨x,y,r,rfl,r1,_⟩:=fy (hcl c Ie);rw[fo,Ih,gL]
  show 0<r.length+_
  omega
theorem Rd.pick (R:Rd cs ls L P)(hn:ns.length<=63)(k:Nat):∃r v,v∈P/\aF [.scr ns,.int k,.int (P.length:Nat)] = .ok (.int r)/\aP (eS P) (.int r)= .ok (en v):=by
 have:=R.pos;obtain⟨r,e,r0,r1⟩:=di ns k (P.length:Nat) hn (by omega)
 obtain⟨t,ht,e2⟩:=Bi (l:=P.map en) r0 (by rw[Ig];exact r1)
 obtain⟨v,hv,rfl⟩:=ID.mp ht;exact⟨r,v,hv,e,e2⟩
theorem x9 (F:Least L P f)(h1:∀x∈M,x.1∈P/\∃d,f x.1 x.2.1=some d/\d<=x.2.2){u v:N2}{s:Int}(w:Wk M u v s):u∈P->∃d,f u v=some d/\d<=s:=by
 induction w with
 | nil a=>intro ha;exact F.le a ha a 0 (.nil a)
 | @step a b c m s hx w ih=>
  intro ha;obtain⟨_,d1,e1,l1⟩:=h1 _ hx
  dsimp only at l1
  have w1:=F.is a b d1 e1
  by_cases hb:b∈P
  ·obtain⟨d2,e2,l2⟩:=ih hb
   obtain⟨d,e,l⟩:=F.le a ha c _ (w1.app (F.is b c d2 e2));exact⟨d,e,by omega⟩
  ·cases w with
   | nil _=>exact⟨d1,e1,by omega⟩
   | step hy _=>exact absurd (h1 _ hy).1 hb
theorem CM (h2:∀x∈L,∃m,m<=x.2.2/\(x.1,x.2.1,m)∈M){u v:N2}{s:Int}(w:Wk L u v s):∃s',s'<=s/\Wk M u v s':=by
 induction w with
 | nil a=>exact⟨0,JR _,.nil a⟩
 | @step a b c m s hx w ih=>
  obtain⟨s',l,w'⟩:=ih;obtain⟨m',l',hx'⟩:=h2 _ hx;exact⟨m'+s',by dsimp only at l';omega,.step hx' w'⟩
theorem xp (F:Least L P f)(hL:∀x∈L,x.1∈P)(h1:∀x∈M,x.1∈P/\∃d,f x.1 x.2.1=some d/\d<=x.2.2)(h2:∀x∈L,∃m,m<=x.2.2/\(x.1,x.2.1,m)∈M):Least M P f where
 is:=λu v d e=>by
  have w:=F.is u v d e
  by_cases hu:u∈P
  ·obtain⟨s',l,w'⟩:=CM h2 w
   obtain⟨d',e',l'⟩:=x9 F h1 w' hu;rw[e]at e';cases e'
   have:s'=d:=by omega
   rw[<-this];exact w'
  ·cases w with
   | nil _=>exact .nil _
   | step hy _=>exact absurd (hL _ hy) hu
 le:=λu hu v s w=>x9 F h1 w hu
theorem xy (F:Least L P f)(h1:∀x∈M,x.1∈P/\∃d,f x.1 x.2.1=some d/\d<=x.2.2)(h:Holds L t):Holds M t:=λa b m hx=>by
 obtain⟨_,d,e,l⟩:=h1 _ hx
 have:=h.walk (F.is a b d e)
 dsimp only at l
 omega
theorem wc (P:List N2):(eS P).pl=true:=by
 show(T.lst (P.map en)).pl=true
 unfold T.pl;exact gp λu hu=>by obtain⟨v,_,rfl⟩:=ID.mp hu;rfl
theorem zP (P:List N2):(eS P).dep<=60:=by
 show(T.lst (P.map en)).dep<=60
 have:deps (P.map en)<=5:=kY λu hu=>by obtain⟨v,_,rfl⟩:=ID.mp hu;simp[en,T.dep,deps]
 unfold T.dep;omega
end
end G
namespace G
open PySem Tr Gr
open Classical in
def lY (P:List N2)(L:bw N2):Option (List (Option Int)):=if NoNeg L then some (P.flatMap λu=>P.map (table P L u))else none
def ym (P:List N2)(L M:bw N2):Bool:=by classical exact decide (lY P L=lY P M)
theorem rG {α β:Type}{f g:α->α->β}{Q:List α}:∀{P:List α},(P.flatMap λu=>Q.map (f u))=(P.flatMap λu=>Q.map (g u))↔ ∀u∈P,∀v∈Q,f u v=g u v
 | [] =>by simp
 | u::P=>by
  rw[KQ,KQ]
  constructor
  ·intro e w hw v hv
   obtain⟨h1,h2⟩:=List.append_inj e (by rw[Ig,Ig])
   rcases Ij.mp hw with rfl | hw
   ·exact Om.mp h1 v hv
   ·exact(rG (P:=P)).mp h2 w hw v hv
  ·intro h
   rw[Om.mpr λv hv=>h u Ie v hv,(rG (P:=P)).mpr λw hw v hv=>h w (Ia _ hw) v hv]
section
variable {P:List N2}{L M N:bw N2}{f g:dS N2}
theorem aM (he:∀x∈L,x.1∈P/\x.2.1∈P)(n:NoNeg L):Least L P (table P L):=(sj he λu _ y h=>Int.not_lt.mp λz=>wN h z n).2
theorem jW (n:NoNeg L):lY P L=some (P.flatMap λu=>P.map (table P L u)):=by unfold lY;rw[if_pos n]
theorem gk (n:¬ NoNeg L):lY P L=none:=by unfold lY;rw[if_neg n]
theorem jH (he:∀x∈L,x.1∈P/\x.2.1∈P)(he2:∀x∈M,x.1∈P/\x.2.1∈P)(n:NoNeg L)(m:NoNeg M)(F:Least L P f)(G:Least M P g):lY P L=lY P M↔ ∀u∈P,∀v∈P,f u v=g u v:=by
 rw[jW n,jW m,Mu,rG]
 constructor
 ·intro h u hu v hv
  rw[F.uniq (aM he n) hu,G.uniq (aM he2 m) hu];exact h u hu v hv
 ·intro h u hu v hv
  rw[(aM he n).uniq F hu,(aM he2 m).uniq G hu];exact h u hu v hv
theorem gI (F:Least L P f)(G:Least M P g)(h:∀x∈L,x∈M){u v:N2}(hu:u∈P){d:Int}(e:f u v=some d):∃d',g u v=some d'/\d'<=d:=G.le u hu v d ((F.is u v d e).mono h)
theorem CP (he:∀x∈L,x.1∈P/\x.2.1∈P)(he2:∀x∈M,x.1∈P/\x.2.1∈P)(h:∀x,x∈L↔x∈M):lY P L=lY P M:=by
 by_cases n:NoNeg L
 ·have m:NoNeg M:=n.mono λx hx=>(h x).mpr hx
  refine(jH he he2 n m (aM he n) (aM he2 m)).mpr λu hu v hv=> ?_
  cases q:table P L u v with
  | none=>
   cases q2:table P M u v with
   | none=>rfl
   | some d=>obtain⟨d',e,_⟩:=gI (aM he2 m) (aM he n) (λx hx=>(h x).mpr hx) hu q2;rw[q]at e;cases e
  | some d=>
   obtain⟨d',e,l1⟩:=gI (aM he n) (aM he2 m) (λx hx=>(h x).mp hx) hu q
   obtain⟨d2,e2,l2⟩:=gI (aM he2 m) (aM he n) (λx hx=>(h x).mpr hx) hu e
   rw[q]at e2;cases e2;rw[e];congr 1;omega
 ·rw[gk n,gk λm=>n (m.mono λx hx=>(h x).mp hx)]
theorem CO (he:∀x∈N,x.1∈P/\x.2.1∈P)(h1:∀x∈L,x∈M)(h2:∀x∈M,x∈N)(e:lY P L=lY P N):lY P M=lY P N:=by
 have heM:∀x∈M,x.1∈P/\x.2.1∈P:=λx hx=>he x (h2 x hx)
 have heL:∀x∈L,x.1∈P/\x.2.1∈P:=λx hx=>heM x (h1 x hx)
 by_cases n:NoNeg N
 ·have m:NoNeg M:=n.mono h2
  have l:NoNeg L:=m.mono h1
  have e':=(jH heL he l n (aM heL l) (aM he n)).mp e;refine(jH heM he m n (aM heM m) (aM he n)).mpr λu hu v hv=> ?_
  have e0:=e' u hu v hv
  cases q:table P M u v with
  | none=>
   cases q2:table P N u v with
   | none=>rfl
   | some d=>rw[q2]at e0;obtain⟨d',z,_⟩:=gI (aM heL l) (aM heM m) h1 hu e0;rw[q]at z;cases z
  | some d=>
   obtain⟨d',z,l1⟩:=gI (aM heM m) (aM he n) h2 hu q;rw[z]at e0;obtain⟨d2,z2,l2⟩:=gI (aM heL l) (aM heM m) h1 hu e0;rw[q]at z2;cases z2;rw[z];congr 1;omega
 ·rw[gk n]at e ⊢
  refine gk λm=> ?_
  rw[jW (m.mono h1)]at e;cases e
theorem smB_iff:ym P L M=true↔lY P L=lY P M:=by unfold ym;exact decide_eq_true_iff
end
theorem Ez (a b:Option Int):aT (oI a) (oI b)=decide (a=b):=by
 cases a with
 | none=>cases b <;> simp[oI,aT]
 | some x=>
  cases b with
  | none=>simp[oI,aT]
  | some y=>simp only[oI,aT,Mu];rfl
theorem lH {α:Type}{f g:α->T}:∀(l:List α),beqTs (l.map f) (l.map g)=true↔ ∀x∈l,aT (f x) (g x)=true
 | [] =>by simp[beqTs]
 | x::l=>by rw[Ic,Ic,beqTs,HZ,lH l];simp
theorem wz (P:List N2)(f g:dS N2):aT (ft P f) (ft P g)=true↔ ∀u∈P,∀v∈P,f u v=g u v:=by
 show beqTs (P.map (jY P f)) (P.map (jY P g))=true↔_
 rw[lH];refine forall_congr' λu=>imp_congr_right λ_=> ?_
 show beqTs (P.map λv=>oI (f u v)) (P.map λv=>oI (g u v))=true↔_
 rw[lH];refine forall_congr' λv=>imp_congr_right λ_=> ?_
 rw[Ez];exact decide_eq_true_iff
theorem zR (P:List N2)(f g:dS N2):oJ (ft P f) (ft P g)= .ok (.bl (aT (ft P f) (ft P g))):=by
 unfold oJ;rw[if_pos (eK (wm P f) (T.GM _ (uH P f)) (T.GM _ (uH P g)))]
section
variable {cs ls ms:List T}{L M:bw N2}{P:List N2}
theorem Rd.Gc {ds:List T}(R:Rd cs ls L P)(S:Rd ds ms M P):aw [RR cs ls,RR ds ms] = .ok (.bl (ym P L M)):=by
 obtain⟨h1,e1,i1⟩:=R.Hm;obtain⟨h2,e2,i2⟩:=S.Hm;refine bz rfl ?_
 show dI [.va (RR cs ls),.va (RR ds ms)] =_
 unfold dI;rw[az (Z':=[.va (RR cs ls),.va (RR ds ms)]) ((cJ (bu (aA (t:=eS P) (u:=eS P) (aJ (ts:=[RR cs ls]) rfl R.events) (aJ (ts:=[RR ds ms]) rfl S.events) (gd (wc P) (zP P))))).trans rfl)]
 have a1:tb (cl aW (ae (vr 0) ai)) [.va (RR cs ls),.va (RR ds ms)] = .ok h1:=bu (aJ (ts:=[RR cs ls]) rfl e1)
 have a2:tb (cl aW (ae (vr 1) ai)) [.va (RR cs ls),.va (RR ds ms)] = .ok h2:=bu (aJ (ts:=[RR ds ms]) rfl e2)
 have r1:o1 qW (cl aW (ae (vr 0) ai)) [.va (RR cs ls),.va (RR ds ms)] = .ok (.bl (!h1)):=zw (aJ (ts:=[RR cs ls]) rfl e1)
 have r2:o1 qW (cl aW (ae (vr 1) ai)) [.va (RR cs ls),.va (RR ds ms)] = .ok (.bl (!h2)):=zw (aJ (ts:=[RR ds ms]) rfl e2)
 have no:∀{b:Bool} {X:Prop},(b=true↔X)->b=false->¬ X:=λi q x=>by rw[i.mpr x]at q;cases q
 cases h1 with
 | false=>
  have n1:=no i1 rfl;refine gq ((fK (zv (d7 (k:=false) a1))).trans (bQ ((n8 r1).trans (r2.trans ?_))))
  cases h2 with
  | false=>have n2:=no i2 rfl;rw[smB_iff.mpr (by rw[gk n1,gk n2])];rfl
  | true=>
   have n2:=i2.mp rfl
   cases q:ym P L M with
   | false=>rfl
   | true=>have:=smB_iff.mp q;rw[gk n1,jW n2]at this;cases this
 | true=>
  have n1:=i1.mp rfl
  cases h2 with
  | false=>
   have n2:=no i2 rfl;refine gq ((fK (gJ (d7 (k:=true) a1) (d7 (k:=false) a2))).trans (bQ ((vV r1).trans ?_)))
   cases q:ym P L M with
   | false=>rfl
   | true=>have:=smB_iff.mp q;rw[gk n2,jW n1]at this;cases this
  | true=>
   have n2:=i2.mp rfl;rw[az (Z':=[.va (RR cs ls),.va (RR ds ms)]) ((cJ (gJ (d7 (k:=true) a1) (d7 (k:=true) a2))).trans rfl)]
   have F:=aM R.f.ends n1
   have G:=aM S.f.ends n2;refine bQ ((aA (t:=ft P (table P L)) (u:=ft P (table P M)) (aJ (ts:=[RR cs ls]) rfl (R.Hl n1 F)) (aJ (ts:=[RR ds ms]) rfl (S.Hl n2 G)) (zR _ _ _)).trans ?_)
   have key:aT (ft P (table P L)) (ft P (table P M))=true↔ym P L M=true:=by rw[wz,smB_iff,jH R.f.ends S.f.ends n1 n2 F G]
   cases q:ym P L M with
   | true=>rw[key.mpr q]
   | false=>
    cases q2:aT (ft P (table P L)) (ft P (table P M))with
    | false=>rfl
    | true=>have:=key.mp q2;rw[q]at this;cases this
def deB (t:T):N2×N2×Int:=match t with
 | .tup [.tup [.int a,.int b],.tup [.int c,.int d],.int m] =>(⟨a,b⟩,⟨c,d⟩,m)
 | _=>(⟨0,0⟩,⟨0,0⟩,0)
def lim (cs ls:List T):bw N2:=(xQ cs ls).map deB
theorem Rd.GU (R:Rd cs ls L P):lim cs ls=L:=by
 unfold lim;rw[R.b,J3];exact(Ju λx _=>show deB (eB x)=x by obtain⟨a,b,m⟩:=x;rfl).trans (O0 L)
theorem Rd.sub (R:Rd cs ls L P)(h:∀u∈ms,u∈ls)(hn:ms.length<=8):Rd cs ms (lim cs ms) P:=by
 obtain⟨M,Q,S⟩:=pE (R.g.sub h hn);obtain rfl:=R.same S;rw[S.GU];exact S
theorem Rd.to (R:Rd cs ls L P)(g:Good cs ms):Rd cs ms (lim cs ms) P:=by
 obtain⟨M,Q,S⟩:=pE g;obtain rfl:=R.same S;rw[S.GU];exact S
theorem B5 (h:∀u∈ms,u∈ls):∀x∈xQ cs ms,x∈xQ cs ls:=λx hx=>by
 unfold xQ at hx ⊢;rcases IB.mp hx with z | z
 ·exact Ja _ z
 ·obtain⟨u,hu,z⟩:=LJ.mp z
  exact Iy _ (LJ.mpr ⟨u,h u hu,z⟩)
theorem ju (h:∀u∈ms,u∈ls):∀x∈lim cs ms,x∈lim cs ls:=λx hx=>by
 unfold lim at hx ⊢;obtain⟨y,hy,rfl⟩:=ID.mp hx;exact ID.mpr ⟨y,B5 h y hy,rfl⟩
def key (P:List N2)(cs ms:List T):=lY P (lim cs ms)
theorem Rd.G0 (R:Rd cs ls L P){as bs:List T}(ha:as.length<=8)(hb:bs.length<=8)(h1:∀u∈as,u∈ls)(h:∀u,u∈as↔u∈bs):key P cs as=key P cs bs:=
 CP (R.sub h1 ha).f.ends (R.sub (λu hu=>h1 u ((h u).mpr hu)) hb).f.ends λx=>⟨ju (λu hu=>(h u).mp hu) x,ju (λu hu=>(h u).mpr hu) x⟩
theorem Rd.Hq (R:Rd cs ls L P){as bs:List T}(hn:ls.length<=8)(h1:∀u∈as,u∈bs)(h2:∀u∈bs,u∈ls)(e:key P cs as=key P cs ls):key P cs bs=key P cs ls:=
 CO (R.sub (λu hu=>hu) hn).f.ends (ju h1) (ju h2) e
theorem Rd.G6 (R:Rd cs ls L P){as bs:List T}(ga:Good cs as)(gb:Good cs bs):∃b,aw [RR cs as,RR cs bs] = .ok (.bl b)/\(b=true↔key P cs as=key P cs bs):=⟨_,(R.to ga).Gc (R.to gb),smB_iff⟩
end
end G
namespace G
open PySem Tr Gr
def nI (k:Nat):T:=.int (k:Nat)
theorem pW {α:Type}(d:α):∀(l:List α) (j:Nat),((Iw l.length).filter λk=>k != j).map (λk=>l.getD k d)=l.eraseIdx j
 | [],j=>by simp
 | x::l,0=>by
  rw[Io,KA,Kv,Ng]
  have e:(Iw l.length).filter ((λk=>k != 0)∘Nat.succ)=Iw l.length:=List.filter_eq_self.mpr λk _=>by simp
  rw[e,if_neg (by simp),J3,MJ]
  apply Oh
  intro k;rw[IF]
  by_cases h:k<l.length
  ·rw[K6 h,Ir h]
   simp[h]
  ·rw[Jt (by simpa using h),Jt (by simpa using h)];rfl
 | x::l,j+1=>by
  rw[Io,KA,Kv,Ng,if_pos (by simp),Ic,J3,List.eraseIdx_cons_succ]
  have e:(λk=>k != j+1)∘Nat.succ=λk=>k != j:=by funext k;simp
  rw[e,<-pW d l j];simp
theorem rp {l:List T}{f:En->Rs T}{Z:En}(h:f Z= .ok (.tup l)):cl cQ (ae f ai) Z= .ok (.int (l.length:Nat)):=aJ (ts:=[.tup l]) (au h rfl) rfl
theorem CB {cs ls:List T}(h:ls.length<=8):bM [RR cs ls] = .ok (.lst ((Iw ls.length).map nI)):=by
 refine bz rfl ?_
 refine bQ ?_
 have hl:=rp (l:=ls) (f:=o2 aP (vr 0) (cn (.int 1))) (Z:=[.va (RR cs ls)]) (aA (t:=RR cs ls) (u:=.int 1) rfl rfl (cI (n:=1) rfl))
 show lR (ae (cl cQ (ae (o2 aP (vr 0) (cn (.int 1))) ai)) ai) [.va (RR cs ls)] =_
 unfold lR;rw[au hl rfl,aI]
 show(if (mz (ls.length:Nat)&&decide (((ls.length:Nat):Int).toNat<=1000))=true then Rs.ok (T.lst (rng 0 (ls.length:Nat)))else .bad)=_
 rw[if_pos (by rw[HZ];exact⟨BM (by omega),decide_eq_true (by omega)⟩),mm]
 rfl
def n9 (t:T):Nat:=match t with
 | .int k=>k.toNat
 | _=>0
theorem i5 (k:Nat):n9 (nI k)=k:=by unfold n9 nI;exact Jw k
theorem FR (a b:Nat):jQ (nI a) (nI b)= .ok (.bl (a != b)):=by
 unfold jQ nI;rw[if_pos (eK (by simp[T.dep]) rfl rfl)]
 show Rs.ok (T.bl (!((a:Int) == (b:Int))))=_
 congr 2
 by_cases h:a=b
 ·subst h;simp
 ·have:((a:Int) == (b:Int))=false:=beq_eq_false_iff_ne.mpr (by omega)
  rw[this];simp[h]
theorem pU {q:Nat->Bool}(l:List Nat):((l.map nI).filter λt=>q (n9 t)).map id=(l.filter q).map nI:=by
 rw[O0,Ng];refine congrArg _ ?_
 exact List.filter_congr λk _=>by show q (n9 (nI k))=q k;rw[i5]
theorem xC {l:List Nat}{j:Nat}(h:l.length<=1000):dy [.lst (l.map nI),nI j] = .ok (.lst ((l.filter λk=>k != j).map nI)):=by
 refine bz rfl ?_
 refine bQ ?_
 rw[<-pU (q:=λk=>k != j)]
 exact zy (ts:=l.map nI) (iX rfl) (ax (by rw[Ig];exact h) (by omega)) (by simp) λt ht=>by
  obtain⟨k,_,rfl⟩:=ID.mp ht;exact⟨bu (aA (t:=nI k) (u:=nI j) rfl rfl (by rw[FR,i5])),λ_=>rfl⟩
theorem Ep {cs ls:List T}{l:List Nat}(h:l.length<=1000)(hl:∀k∈l,k<ls.length):cx [RR cs ls,.lst (l.map nI)] = .ok (RR cs (l.map λk=>ls.getD k .non)):=by
 refine bz rfl ?_
 refine bQ ?_
 have lc:fA (iS (vr 1)) [none,some 0] (gN 0) bT (o2 aP (o2 aP (vr 1) (cn (.int 1))) (vr 0)) [.va (RR cs ls),.va (.lst (l.map nI))] = .ok (.lst ((l.map nI).map λt=>ls.getD (n9 t) .non)):=
  rB (ts:=l.map nI) (iX rfl) (ax (by rw[Ig];exact h) (by omega)) (by simp) λt ht=>by
   obtain⟨k,hk,rfl⟩:=ID.mp ht
   have:=hl k hk;rw[i5];exact Ea (l:=ls) (n:=k) (aA (t:=RR cs ls) (u:=.int 1) rfl rfl (cI (n:=1) rfl)) rfl (by rw[Ir this,Kd,Ir this];rfl)
 rw[J3]at lc
 have e:((λt=>ls.getD (n9 t) T.non)∘nI)=λk=>ls.getD k .non:=by funext k;show ls.getD (n9 (nI k)) _=_;rw[i5]
 rw[e]at lc;exact p2 (aA (t:=RR cs ls) (u:=.int 0) rfl rfl (cI (n:=0) rfl)) (aJ (au lc rfl) k8)
theorem zV {cs ls:List T}(h:ls.length<=8)(j:Nat){f g:En->Rs T}{Z:En}(hf:f Z= .ok (RR cs ls))(hg:g Z= .ok (nI j))(a:En->Rs T)(ha:a Z= .ok (.lst ((Iw ls.length).map nI))) :
  cl cx (ae f (ae (cl dy (ae a (ae g ai))) ai)) Z= .ok (RR cs (ls.eraseIdx j)):=by
 have e1:=xC (l:=Iw ls.length) (j:=j) (by rw[Jx];omega)
 have hlen:((Iw ls.length).filter λk=>k != j).length<=1000:=IQ (List.length_filter_le _ _) (by rw[Jx];omega)
 have e2:=Ep (cs:=cs) (ls:=ls) hlen λk hk=>Ji.mp (Lf.mp hk).1
 rw[pW]at e2;exact aJ (ts:=[RR cs ls,.lst (((Iw ls.length).filter λk=>k != j).map nI)]) (au hf (au (aJ (ts:=[.lst ((Iw ls.length).map nI),nI j]) (au ha (au hg rfl)) e1) rfl)) e2
section
variable {cs ls:List T}{L:bw N2}{P:List N2}
theorem u5 {l:List T}{j:Nat}:∀u∈l.eraseIdx j,u∈l:=λu hu=>List.mem_of_mem_eraseIdx hu
theorem zQ {l:List T}(j:Nat):(l.eraseIdx j).length<=l.length:=List.length_eraseIdx_le _ _
open Classical in
def uS (P:List N2)(cs ls:List T)(j:Nat):Bool:=decide (key P cs (ls.eraseIdx j)=key P cs ls)
theorem ndl_iff {j:Nat}:uS P cs ls j=true↔key P cs (ls.eraseIdx j)=key P cs ls:=by unfold uS;exact decide_eq_true_iff
theorem Rd.ger (R:Rd cs ls L P)(j:Nat):Good cs (ls.eraseIdx j):=R.g.sub u5 (IQ (zQ j) R.g.n)
theorem Rd.Hr (R:Rd cs ls L P)(j:Nat):aw [RR cs (ls.eraseIdx j),RR cs ls] = .ok (.bl (uS P cs ls j)):=by
 obtain⟨b,e,i⟩:=R.G6 (R.ger j) R.g;rw[e]
 congr 2
 cases q:uS P cs ls j with
 | true=>exact i.mpr (ndl_iff.mp q)
 | false=>
  cases b with
  | false=>rfl
  | true=>have:=ndl_iff.mpr (i.mp rfl);rw[q]at this;cases this
theorem Rd.GX (R:Rd cs ls L P)(n:NoNeg L):aN [RR cs ls] = .ok (.lst (((Iw ls.length).filter (uS P cs ls)).map nI)):=by
 refine bz rfl ?_
 show dU [.va (RR cs ls),.em] =_
 unfold dU;rw[az (kS (t:=.non) (aJ (ts:=[RR cs ls]) rfl (R.G9 n)))];rw[az (Z':=[.va (RR cs ls),.va (.lst ((Iw ls.length).map nI))]) (bL (aJ (ts:=[RR cs ls]) rfl (CB R.g.n)) rfl)];refine bQ ?_
 rw[<-pU (q:=uS P cs ls)]
 exact zy (ts:=(Iw ls.length).map nI) (iX rfl) (ax (k:=8) (by rw[Ig,Jx];exact R.g.n)) (by simp) λt ht=>by
  obtain⟨k,hk,rfl⟩:=ID.mp ht;rw[i5];exact⟨bu (aJ (ts:=[RR cs (ls.eraseIdx k),RR cs ls]) (au (zV (cs:=cs) (ls:=ls) R.g.n k (f:=vr 1) (g:=vr 0) rfl rfl (vr 2) rfl) rfl) (R.Hr k)),λ_=>rfl⟩
structure Few (P:List N2)(cs ls:List T)(m:Nat)(ks:List T):Prop where
 sub:∀u∈ks,u∈ls
 len:m+ks.length<=ls.length
 same:key P cs (ls.take m++ks)=key P cs ls
 irr:∀A x B,ks=A++x::B->∃Y:List T,(∀u∈ls.take m,u∈Y)/\(∀u∈A,u∈Y)/\(∀u∈Y,u∈ls)/\key P cs (Y++B)≠key P cs ls
theorem mL {l:List T}{m:Nat}:∀u∈l.take m,u∈l:=λu hu=>J1 hu
theorem El {l ks:List T}{m:Nat}(hm:m+1<=l.length):(l.take (m+1)++ks).eraseIdx m=l.take m++ks:=by
 rw[JM (by omega),IW,Lk (by rw[Jb];omega),Jb,O5 (by omega),K9]
 rfl
abbrev lzF:En->Rs Fl:=(aC (cu (cl cx (ae (vr 1) (ae (cl dy (ae (cl bM (ae (vr 1) ai)) (ae (vr 2) ai))) ai))) (gN 3)) (eX (tb (cl aw (ae (vr 3) (ae (vr 0) ai)))) (cu (vr 3) (gN 1)) sN))
theorem Rd.Hg (R:Rd cs ls L P):∀(m:Nat) (ks:List T) (s2 s3:Sl),Few P cs ls m ks->∃ks' s2' s3',Few P cs ls 0 ks' ∧
  br (gN 2) lzF ((Iw m).map λ(k:Nat)=>T.int ((m:Int) - 1 - (k:Int))) [.va (RR cs ls),.va (RR cs (ls.take m++ks)),s2,s3] = .ok (.nx [.va (RR cs ls),.va (RR cs ks'),s2',s3'])
 | 0,ks,s2,s3,F=>⟨ks,s2,s3,F,rfl⟩
 | m+1,ks,s2,s3,F=>by
  have hml:m+1<=ls.length:=by have:=F.len;omega
  have h8:=R.g.n
  have e0:(Iw (m+1)).map (λ(k:Nat)=>T.int (((m+1:Nat):Int) - 1 - (k:Int)))=nI m::(Iw m).map λ(k:Nat)=>T.int ((m:Int) - 1 - (k:Int)):=by
   rw[KA,Ic,J3]
   congr 1
   ·unfold nI;congr 1;omega
   ·exact Ju λk _=>by show T.int _=T.int _;congr 1;omega
  have sub1:∀u∈ls.take (m+1)++ks,u∈ls:=λu hu=>(IB.mp hu).elim (mL u) (F.sub u)
  have len1:(ls.take (m+1)++ks).length<=8:=by rw[Ih,Jb];have:=F.len;omega
  have sub0:∀u∈ls.take m++ks,u∈ls:=λu hu=>(IB.mp hu).elim (mL u) (F.sub u)
  have len0:(ls.take m++ks).length<=8:=by rw[Ih,Jb];have:=F.len;omega
  have tk:∀u∈ls.take m,u∈ls.take (m+1):=λu hu=>by rw[JM (by omega)];exact Ja _ hu
  obtain⟨b,es,ib⟩:=R.G6 (R.g.sub sub0 len0) R.g
  have st1:∀s3,(cu (cl cx (ae (vr 1) (ae (cl dy (ae (cl bM (ae (vr 1) ai)) (ae (vr 2) ai))) ai))) (gN 3)) [.va (RR cs ls),.va (RR cs (ls.take (m+1)++ks)),.va (nI m),s3] = .ok (.nx [.va (RR cs ls),.va (RR cs (ls.take (m+1)++ks)),.va (nI m),.va (RR cs (ls.take m++ks))]):=λs3=>by
   have:=zV (cs:=cs) (ls:=ls.take (m+1)++ks) len1 m (f:=vr 1) (g:=vr 2) (Z:=[.va (RR cs ls),.va (RR cs (ls.take (m+1)++ks)),.va (nI m),s3]) rfl rfl (cl bM (ae (vr 1) ai)) (aJ (ts:=[RR cs (ls.take (m+1)++ks)]) rfl (CB len1));rw[El hml]at this;exact bL this rfl
  have fin:∀ks2,Few P cs ls m ks2->lzF [.va (RR cs ls),.va (RR cs (ls.take (m+1)++ks)),.va (nI m),s3] = .ok (.nx [.va (RR cs ls),.va (RR cs (ls.take m++ks2)),.va (nI m),.va (RR cs (ls.take m++ks))])->∃ks' s2' s3',Few P cs ls 0 ks' ∧
   br (gN 2) lzF (nI m::(Iw m).map λ(k:Nat)=>T.int ((m:Int) - 1 - (k:Int))) [.va (RR cs ls),.va (RR cs (ls.take (m+1)++ks)),s2,s3] = .ok (.nx [.va (RR cs ls),.va (RR cs ks'),s2',s3']):=λks2 F2 st=>by
    obtain⟨ks',a,c,F',ih⟩:=R.Hg m ks2 (.va (nI m)) (.va (RR cs (ls.take m++ks))) F2;refine⟨ks',a,c,F',?_⟩
    have g:gN 2 (nI m) [.va (RR cs ls),.va (RR cs (ls.take (m+1)++ks)),s2,s3] = .ok [.va (RR cs ls),.va (RR cs (ls.take (m+1)++ks)),.va (nI m),s3]:=rfl;rw[e9 g st];exact ih
  rw[e0]
  cases b with
  | true=>
   refine fin ks ⟨F.sub,by have:=F.len;omega,ib.mp rfl,λA x B e=> ?_⟩ ((az (st1 s3)).trans ((fK (bu (aJ (ts:=[RR cs (ls.take m++ks),RR cs ls]) rfl es))).trans rfl))
   obtain⟨Y,y1,y2,y3,y4⟩:=F.irr A x B e
   exact⟨Y,λu hu=>y1 u (tk u hu),y2,y3,y4⟩
  | false=>
   have ne:key P cs (ls.take m++ks)≠key P cs ls:=λz=>by have:=ib.mpr z;cases this
   have ex:ls.take m++(ls[m] ::ks)=ls.take (m+1)++ks:=by rw[JM (by omega),IW];rfl
   refine fin (ls[m] ::ks) ⟨λu hu=> ?_,by rw[Io];have:=F.len;omega,by rw[ex];exact F.same,λA x B e=> ?_⟩ ((az (st1 s3)).trans ((cJ (bu (aJ (ts:=[RR cs (ls.take m++ks),RR cs ls]) rfl es))).trans (by rw[ex];rfl)))
   ·rcases Ij.mp hu with rfl | hu
    ·exact JK _
    ·exact F.sub u hu
   ·cases A with
    | nil=>
     simp only[JX,LR]at e;obtain⟨rfl,rfl⟩:=e
     exact⟨ls.take m,λu hu=>hu,(λu hu=>by cases hu),mL,ne⟩
    | cons a A=>
     simp only[LI,LR]at e;obtain⟨rfl,e⟩:=e;obtain⟨Y,y1,y2,y3,y4⟩:=F.irr A x B e;refine⟨Y,λu hu=>y1 u (tk u hu),λu hu=> ?_,y3,y4⟩
     rcases Ij.mp hu with rfl | hu
     ·exact y1 _ (by rw[JM (by omega)];exact Iy _ (Iv.mpr rfl))
     ·exact y2 u hu
theorem Rd.Ho (R:Rd cs ls L P)(n:NoNeg L):∃ks,bR [RR cs ls] = .ok (RR cs ks)/\Few P cs ls 0 ks:=by
 have F0:Few P cs ls ls.length []:=⟨λu hu=>(by cases hu),by simp,by rw[OJ,JE],λA x B e=>by simp at e⟩
 obtain⟨ks,s2,s3,F,e⟩:=R.Hg ls.length [] .em .em F0;rw[OJ,JE]at e;refine⟨ks,bz rfl ?_,F⟩
 show fG [.va (RR cs ls),.em,.em,.em] =_
 unfold fG;rw[az (kS (t:=.non) (aJ (ts:=[RR cs ls]) rfl (R.G9 n)))];rw[az (Z':=[.va (RR cs ls),.va (RR cs ls),.em,.em]) (bL rfl rfl)]
 have h8:=R.g.n
 have hr:Gf (ae (o2 iu (cl cQ (ae (o2 aP (vr 0) (cn (.int 1))) ai)) (cn (.int 1))) (ae (o1 lx (cn (.int 1))) (ae (o1 lx (cn (.int 1))) ai))) [.va (RR cs ls),.va (RR cs ls),.em,.em] = .ok ((Iw ls.length).map λ(k:Nat)=>T.int ((ls.length:Int) - 1 - (k:Int))):=by
  unfold Gf;rw[au (t:=.int ((ls.length:Int) - 1)) (aA (t:=.int (ls.length:Nat)) (u:=.int 1) (rp (l:=ls) (aA (t:=RR cs ls) (u:=.int 1) rfl rfl (cI (n:=1) rfl))) rfl rfl) (au (t:=.int (-1)) (xu (t:=.int 1) rfl rfl) (au (t:=.int (-1)) (xu (t:=.int 1) rfl rfl) rfl)),aI]
  show(if (mz ((ls.length:Int) - 1)&&mz (-1))=true then Rs.ok ((Iw ((ls.length:Int) - 1 - -1).toNat).map λ(k:Nat)=>T.int ((ls.length:Int) - 1 - (k:Int)))else .bad)=_
  have e62:mz ((ls.length:Int) - 1)=true:=by unfold mz;rw[HZ];exact⟨decide_eq_true (by omega),decide_eq_true (by omega)⟩
  rw[if_pos (by rw[e62];rfl),show((ls.length:Int) - 1 - -1).toNat=ls.length by omega]
 rw[az (gK hr e)]
 rfl
theorem Few.none (R:Rd cs ls L P){ks:List T}(F:Few P cs ls 0 ks):∀j,j<ks.length->uS P cs ks j=false:=λj hj=>by
 have same:key P cs ks=key P cs ls:=by have:=F.same;rwa [Ny,JX]at this
 have hlen:ks.length<=8:=by have:=F.len;have:=R.g.n;omega
 cases q:uS P cs ks j with
 | false=>rfl
 | true=>
  have e:=(ndl_iff.mp q).trans same
  have sp:ks=ks.take j++ks[j] ::ks.drop (j+1):=by rw[List.getElem_cons_drop,LF]
  obtain⟨Y,y1,y2,y3,y4⟩:=F.irr _ _ _ sp;rw[List.eraseIdx_eq_take_drop_succ]at e;refine absurd (R.Hq R.g.n (as:=ks.take j++ks.drop (j+1)) (λu hu=> ?_) (λu hu=> ?_) e) y4
  ·exact(IB.mp hu).elim (λz=>Ja _ (y2 u z)) λz=>Iy _ z
  ·exact(IB.mp hu).elim (y3 u) λz=>F.sub u (K1 z)
end
theorem pF {x:T}{l:List T}(hx:x.pl=true)(hd:x.dep<=60)(hl:plS l=true)(h:x∈l):cF x (.lst l)= .ok (.bl false)/\cF x (.tup l)= .ok (.bl false):=by
 have ha:gi x l=true:=by unfold gi;rw[OH];exact⟨x,h,jz x hx⟩
 have nd:∀y:T,y.pl=true->y.nd=true:=λy hy=>T.GM y hy
 constructor
 ·show(if (x.dep<=60\/deps l<=60)/\x.nd=true/\(T.lst l).nd=true then Rs.ok (T.bl (!gi x l))else .bad)=_
  rw[if_pos ⟨.inl hd,nd x hx,nd _ (by rw[Dx];exact hl)⟩,ha];rfl
 ·show(if (x.dep<=60\/deps l<=60)/\x.nd=true/\(T.tup l).nd=true then Rs.ok (T.bl (!gi x l))else .bad)=_
  rw[if_pos ⟨.inl hd,nd x hx,nd _ (by rw[eE];exact hl)⟩,ha];rfl
theorem sZ {j:Nat}{l:List Nat}(h:j∈l):cF (.int (j:Nat)) (.lst (l.map nI))= .ok (.bl false):=(pF (x:=nI j) rfl (by simp[nI,T.dep]) (gp λt ht=>by obtain⟨k,_,rfl⟩:=ID.mp ht;rfl) (ND h)).1
theorem tf (v:N2)(P:List N2):cF (en v) (eS P)= .ok (.bl (!decide (v∈P))):=by
 show(if ((en v).dep<=60\/deps (P.map en)<=60)/\(en v).nd=true/\(T.lst (P.map en)).nd=true then Rs.ok (T.bl (!gi (en v) (P.map en)))else .bad)=_
 rw[if_pos ⟨.inl (rO v),rfl,T.GM _ (wc P)⟩,ve]
theorem Ex {L:bw N2}(n:NoNeg L){k:Nat}{a b:N2}{m:Int}(e:L[k]? =some (a,b,m)){ks:List Nat}{c d:N2}(hc:c=a)(hd:d=b)(h:Ch L c ks d)(hm:c8 L ks<m):k∉ks:=λhk=>by
 obtain⟨p,q,rfl⟩:=Mi hk;obtain⟨x,h1,h2⟩:=h.split;obtain⟨y,m',e',h3⟩:=h2;rw[e]at e';cases e';subst hc hd
 have z1:=n _ _ h1.wk
 have z2:=n _ _ h3.wk;rw[je]at hm
 have z3:c8 L (k::q)=m+c8 L q:=by show most L k+c8 L q=_;unfold most;rw[e]
 omega
theorem wu {L:bw N2}{k:Nat}:∀{ks:List Nat} {c d:N2},k∉ks->Ch L c ks d->Wk (L.take k++L.drop (k+1)) c d (c8 L ks)
 | [],c,d,_,h=>by cases h;exact .nil c
 | j::ks,c,d,hk,h=>by
  obtain⟨y,m,e,h2⟩:=h
  have hj:j≠k:=λz=>hk (by rw[z];exact Ie)
  have mem:(c,y,m)∈L.take k++L.drop (k+1):=by
   rcases Nat.lt_or_gt_of_ne hj with z | z
   ·exact Ja _ (Jg (i:=j) (by rw[Mv z];exact e))
   ·exact Iy _ (Jg (i:=j - (k+1)) (by rw[List.getElem?_drop,show k+1+(j - (k+1))=j by omega];exact e))
  have z3:c8 L (j::ks)=m+c8 L ks:=by show most L j+c8 L ks=_;unfold most;rw[e]
  rw[z3];exact .step mem (wu (λz=>hk (Ia _ z)) h2)
section
variable {cs ls ms:List T}{L M:bw N2}{P:List N2}{f:dS N2}
theorem Rd.HN (R:Rd cs ls L P)(k:Nat):ED (L.take k++L.drop (k+1)) P:=by
 have sub:∀x∈L.take k++L.drop (k+1),x∈L:=λx hx=>(IB.mp hx).elim J1 K1
 have ll:=R.ll
 have hlen:(L.take k++L.drop (k+1)).length<=60:=by rw[Ih,Jb,Ku];omega
 refine⟨by omega,?_,λx hx=>R.f.ends x (sub x hx),R.f.pl⟩
 have:=vq (L:=L.take k++L.drop (k+1)) λx hx=>R.bg x (sub x hx)
 omega
theorem Rd.HD (R:Rd cs ls L P)(n:NoNeg L)(F:Least L P f){k:Nat}{a b:N2}{m d:Int}(e:L[k]? =some (a,b,m))(hf:f a b=some d)(hd:d<m):dF [RR cs ls,.int (k:Nat)] = .ok (.bl true):=by
 have hk:k<L.length:=(IC.mp e).1
 have ll:=R.ll
 have ha:a∈P:=(R.f.ends _ (Jg e)).1;obtain⟨ks,hc,hcost⟩:=(F.is a b d hf).ch
 have wk:Wk (L.take k++L.drop (k+1)) a b d:=by rw[<-hcost];exact wu (Ex n e rfl rfl hc (by omega)) hc
 have n':NoNeg (L.take k++L.drop (k+1)):=n.mono λx hx=>(IB.mp hx).elim J1 K1
 obtain⟨r,hr,ok⟩:=om (S:=[a]) (R.HN k) (by simp) (λv h=>by rw[Iv.mp h];exact ha)
 cases r with
 | inr q=>exact absurd n' (Bar.neg ok)
 | inl bb=>
  obtain⟨ms,D,hr⟩:=hr
  have ok:Settled (L.take k++L.drop (k+1)) [a] bb:=ok;obtain⟨d',w,eb,hd'⟩:=ok.least a (by simp) b d wk
  refine bz rfl ?_
  show gy [.va (RR cs ls),.va (.int (k:Nat)),.em,.em,.em] =_
  unfold gy;rw[az (Z':=[.va (RR cs ls),.va (.int (k:Nat)),.va (eL L),.em,.em]) (bL (aJ (ts:=[RR cs ls]) rfl R.bounds) rfl)]
  have w1:ba (.int (k:Nat)) 0 ((L.length:Int) - 1)=true:=by unfold ba;simp;omega
  rw[az (kS (t:=.non) (aJ (ts:=[.int (L.length:Nat),.int (k:Nat)]) (au (DW L rfl) rfl) (y8 rfl w1)))];rw[az (kS (t:=.non) (aJ (ts:=[RR cs ls]) rfl (R.G9 n)))];rw[az (Z':=[.va (RR cs ls),.va (.int (k:Nat)),.va (eL L),.va (eB (a,b,m)),.em]) (bL (Gq (L:=L) (k:=k) rfl rfl e) rfl)]
  have c1:sl (vr 2) pN (pS (vr 1)) [.va (RR cs ls),.va (.int (k:Nat)),.va (eL L),.va (eB (a,b,m)),.em] = .ok (.lst ((L.take k).map eB)):=by rw[tQ (l:=L.map eB) rfl rfl (tR rfl),i8,List.map_take]
  have c2:sl (vr 2) (pS (o2 aX (vr 1) (cn (.int 1)))) pN [.va (RR cs ls),.va (.int (k:Nat)),.va (eL L),.va (eB (a,b,m)),.em] = .ok (.lst ((L.drop (k+1)).map eB)):=by rw[tQ (l:=L.map eB) (lo:=some ((k+1:Nat):Int)) rfl (tR (aA (t:=.int (k:Nat)) (u:=.int 1) rfl rfl rfl)) rfl,uc,List.map_drop]
  have c3:aX (.lst ((L.take k).map eB)) (.lst ((L.drop (k+1)).map eB))= .ok (eL (L.take k++L.drop (k+1))):=by
   rw[k6 _ _ (by rw[Ih,Ig,Ig,Jb,Ku];omega),<-JG];rfl
  rw[az (Z':=[.va (RR cs ls),.va (.int (k:Nat)),.va (eL L),.va (eB (a,b,m)),.va (.dct (ms.map en) (dV ms bb))]) (bL (aA (u:=.int 0) (aJ (ts:=[eL (L.take k++L.drop (k+1)),eS [a]]) (au (aA c1 c2 c3) (au (ie (ts:=[en a]) (au (aA (t:=eB (a,b,m)) (u:=.int 0) rfl rfl rfl) rfl) (ax (k:=1) (by simp))) rfl)) hr) rfl rfl) rfl)]
  have i1:o2 aP (vr 3) (cn (.int 1)) [.va (RR cs ls),.va (.int (k:Nat)),.va (eL L),.va (eB (a,b,m)),.va (.dct (ms.map en) (dV ms bb))] = .ok (en b):=aA (t:=eB (a,b,m)) (u:=.int 1) rfl rfl rfl;refine bQ ((n8 (aA (t:=en b) (u:=.dct (ms.map en) (dV ms bb)) i1 rfl (by rw[u7 D b,eb];rfl))).trans (aA (t:=.int d') (u:=.int m) (aA (t:=eW (d',w)) (u:=.int 0) (aA (t:=.dct (ms.map en) (dV ms bb)) (u:=en b) rfl i1 (rN D eb)) rfl rfl) (aA (t:=eB (a,b,m)) (u:=.int 2) rfl rfl rfl) ?_))
  show Rs.ok (T.bl (decide (d'<=m)))=_
  rw[decide_eq_true (by omega)]
def ik (a c:N2)(x:Int):T:=.tup [en a,en c,.int x,.non]
theorem Rd.Hy (R:Rd cs ls L P){a c:N2}(ha:a∈P)(hc:c∈P)(hne:a≠c){x:Int}(h0:0<=x)(h1:x<=999):aZ cs (ik a c x)=true:=by
 show(cY (.int x) .non&&(aU cs (en a)&&(aU cs (en c)&& !aT (en a) (en c))))=true
 rw[R.ev ha,R.ev hc,rW,decide_eq_false hne]
 show(ba (.int x) 0 999&&true&&(true&&(true&& !false)))=true
 simp only[ba,N3,Bool.not_false,HZ,decide_eq_true_eq];exact⟨h0,h1⟩
theorem Rd.Hi (R:Rd cs ls L P)(h5:ls.length<=7){u:T}(hu:aZ cs u=true)(pu:u.pl=true):Good cs (ls++ [u]):=by
 refine⟨R.g.c,λt ht=> ?_,by rw[Ih];simpa using h5,mn R.g.parts.1 (yF R.g.pls (by rw[eE];simp[plS,pu]))⟩
 rcases IB.mp ht with h | h
 ·exact R.g.l t h
 ·rw[Iv.mp h];exact hu
theorem Rd.Ht (R:Rd cs ls L P)(h5:ls.length<=7){u:T}(hu:aZ cs u=true)(pu:u.pl=true):bV [RR cs ls,u] = .ok (RR cs (ls++ [u])):=by
 rw[qL R.g.parts.1 R.g.pls (by omega) pu R.g.ok]
 unfold sP;rw[if_pos (R.Hi h5 hu pu).ok]
theorem Rd.HH (R:Rd cs ls L P)(a c:N2)(x:Int):lim cs (ls++ [ik a c x])=L++ [(c,a,-x)]:=by
 have e:xQ cs (ls++ [ik a c x])=xQ cs ls++ [eB (c,a,-x)]:=by
  unfold xQ;rw[List.flatMap_append,<-IW]
  rfl
 unfold lim;rw[e,JG,<-R.GU]
 rfl
theorem Rd.Hn (R:Rd cs ls L P)(n:NoNeg L)(F:Least L P f){a c:N2}(ha:a∈P)(hc:c∈P){d:Int}(e:f c a=some d):NoNeg (L++ [(c,a,d)])/\lY P (L++ [(c,a,d)])=lY P L:=by
 have h1:∀x∈L++ [(c,a,d)],x.1∈P/\∃y,f x.1 x.2.1=some y/\y<=x.2.2:=λx hx=>by
  rcases IB.mp hx with h | h
  ·obtain⟨h1,h2⟩:=R.f.ends x h
   obtain⟨y,q,hy⟩:=F.le x.1 h1 x.2.1 x.2.2 (Wk.one h);exact⟨h1,y,q,hy⟩
  ·rw[Iv.mp h];exact⟨hc,d,e,JR _⟩
 have he:∀x∈L++ [(c,a,d)],x.1∈P/\x.2.1∈P:=λx hx=>by
  rcases IB.mp hx with h | h
  ·exact R.f.ends x h
  ·rw[Iv.mp h];exact⟨hc,ha⟩
 have F2:=xp F (λx hx=>(R.f.ends x hx).1) h1 λx hx=>⟨x.2.2,JR _,Ja _ hx⟩
 have n2:NoNeg (L++ [(c,a,d)]):=by
  rcases R.Hv with⟨z,_⟩ | ⟨_,t,b,S,hb,_⟩
  ·exact absurd n z
  ·exact(xy F h1 (S.holds R.f.ends hb)).Ha
 exact⟨n2,(jH he R.f.ends n2 n F2 F).mpr λ_ _ _ _=>rfl⟩
theorem Rd.Hk (R:Rd cs ls L P)(n:NoNeg L)(F:Least L P f){a c:N2}(ha:a∈P)(hc:c∈P){d d':Int}(e:f c a=some d)(hd:d'<d):lY P L≠lY P (L++ [(c,a,d')]):=λz=>by
 have he:∀x∈L++ [(c,a,d')],x.1∈P/\x.2.1∈P:=λx hx=>by
  rcases IB.mp hx with h | h
  ·exact R.f.ends x h
  ·rw[Iv.mp h];exact⟨hc,ha⟩
 by_cases m:NoNeg (L++ [(c,a,d')])
 ·have G:=aM he m
  have q:=(jH R.f.ends he n m F G).mp z c hc a ha;obtain⟨y,q2,hy⟩:=G.le c hc a d' (Wk.one (Iy _ (Iv.mpr rfl)));rw[q2,e]at q;cases q;omega
 ·rw[jW n,gk m]at z;cases z
end
inductive Ak (q:T->T->Prop):List T->List T->Prop
 | nil:Ak q [] []
 | cons {t u:T} {ts us:List T}:q t u->Ak q ts us->Ak q (t::ts) (u::us)
theorem vQ {fe:En->Rs T}:∀{ts us:List T} {Z:En},0<Z.length->Ak (λt u=> ∀s:Sl,fe ((Z.set 0 s).set 0 (.va t))= .ok u) ts us->dg (gN 0) bT fe ts Z= .ok us
 | _,_,_,_,.nil=>rfl
 | t::ts,u::us,Z,hl,.cons h r=>by
  have e1:gN 0 t Z= .ok (Z.set 0 (.va t)):=by unfold gN;rw[if_pos hl]
  have h0:fe (Z.set 0 (.va t))= .ok u:=by have:=h .em;rwa [LD]at this
  have ih:=vQ (fe:=fe) (ts:=ts) (us:=us) (Z:=Z.set 0 (.va t)) (by rw[JF];exact hl) (by
   clear e1 h0 h
   induction r with
   | nil=>exact .nil
   | cons a b ih=>exact .cons (λs=>by rw[LD,LD];have:=a s;rwa [LD]at this) ih)
  unfold dg;simp only[e1,aI,bT,if_true,h0,ih]
theorem Cu {fi:En->Rs (List T)}{src:List (Option Nat)}{fe:En->Rs T}{Z:En}{ts us:List T}(hi:fi Z= .ok ts)(hs:ts.length<=sizeLine)(hn:0<src.length)(hf:Ak (λt u=> ∀s:Sl,fe (((cj src Z).set 0 s).set 0 (.va t))= .ok u) ts us) :
  fA fi src (gN 0) bT fe Z= .ok (.lst us):=by
 have e:=vQ (fe:=fe) (Z:=cj src Z) (by unfold cj;rw[Ig];exact hn) hf
 unfold fA;rw[hi,aI,if_pos hs,e]
def cK (s f:Int)(r:List T):List T:=[.tup [.int s,.int f,.tup r]]
def LK (m n:Int):bw N2:=[(⟨0,0⟩,⟨0,1⟩,m),(⟨0,1⟩,⟨0,0⟩,n)]
def PK:List N2:=[⟨0,0⟩,⟨0,1⟩]
theorem rdK1:Rd (cK 1 1 [.int 0,.int 1]) [] (LK 1 (-1)) PK:=⟨⟨rfl,(λt ht=>by cases ht),by decide,rfl⟩,rfl,rfl,⟨by decide,by decide,by decide,by decide⟩,by decide,by decide,by decide,by unfold big;decide⟩
theorem rdK2:Rd (cK 1 1 [.int 3,.int 4]) [] (LK 1 (-1)) PK:=⟨⟨rfl,(λt ht=>by cases ht),by decide,rfl⟩,rfl,rfl,⟨by decide,by decide,by decide,by decide⟩,by decide,by decide,by decide,by unfold big;decide⟩
theorem rdK4:Rd (cK 1 1 [.int 0,.int 2]) [] (LK 2 (-2)) PK:=⟨⟨rfl,(λt ht=>by cases ht),by decide,rfl⟩,rfl,rfl,⟨by decide,by decide,by decide,by decide⟩,by decide,by decide,by decide,by unfold big;decide⟩
theorem rdK5:Rd (cK 1 2 [.int 0,.int 1]) [] (LK 2 (-1)) PK:=⟨⟨rfl,(λt ht=>by cases ht),by decide,rfl⟩,rfl,rfl,⟨by decide,by decide,by decide,by decide⟩,by decide,by decide,by decide,by unfold big;decide⟩
def LK3:bw N2:=[(⟨0,0⟩,⟨0,1⟩,1),(⟨0,1⟩,⟨0,0⟩,-1),(⟨0,1⟩,⟨0,2⟩,1),(⟨0,2⟩,⟨0,1⟩,-1)]
def PK3:List N2:=[⟨0,0⟩,⟨0,1⟩,⟨0,2⟩]
theorem E7:Rd (cK 1 1 [.int 0,.int 1,.int 2]) [] LK3 PK3:=⟨⟨rfl,(λt ht=>by cases ht),by decide,rfl⟩,rfl,rfl,⟨by decide,by decide,by decide,by decide⟩,by decide,by decide,by decide,by unfold big;decide⟩
theorem GH {m n:Int}(h : -m<=n):Holds (LK m n) (λv=>v.k*m):=λa b k hx=>by
 unfold LK at hx;simp only[Ij,IM,or_false,MF]at hx;rcases hx with⟨rfl,rfl,rfl⟩ | ⟨rfl,rfl,rfl⟩ <;> simp <;> omega
theorem BQ {m n:Int}:∀x∈LK m n,x.1∈PK/\x.2.1∈PK:=λx hx=>by
 unfold LK at hx;simp only[Ij,IM,or_false]at hx;rcases hx with rfl | rfl
 ·exact⟨show(⟨0,0⟩:N2)∈PK by decide,show(⟨0,1⟩:N2)∈PK by decide⟩
 ·exact⟨show(⟨0,1⟩:N2)∈PK by decide,show(⟨0,0⟩:N2)∈PK by decide⟩
section
variable {cs ls:List T}{L:bw N2}{P:List N2}{f:dS N2}
theorem tN {a b:N2}{t:N2->Int}{s:Int}(F:Least L P f)(ha:a∈P)(h:Holds L t)(w:Wk L a b s)(e:t b - t a=s):f a b=some s:=by
 obtain⟨y,q,hy⟩:=F.le a ha b s w
 have:=h.walk (F.is a b y q);rw[q];congr 1;omega
end
theorem GA {m n m' n':Int}(h : -m<=n)(h' : -m'<=n')(hm:m≠m'):ym PK (LK m n) (LK m' n')=false:=by
 cases q:ym PK (LK m n) (LK m' n')with
 | false=>rfl
 | true=>
  have k:=(GH h).Ha
  have k':=(GH h').Ha
  have F:=aM (P:=PK) BQ k
  have G:=aM (P:=PK) BQ k'
  have z:=(jH BQ BQ k k' F G).mp (smB_iff.mp q) ⟨0,0⟩ (by decide) ⟨0,1⟩ (by decide)
  rw[tN F (by decide) (GH h) (Wk.one (m:=m) Ie) (by simp),tN G (by decide) (GH h') (Wk.one (m:=m') Ie) (by simp)]at z
  cases z;exact absurd rfl hm
theorem EZ (P:List N2)(L:bw N2):ym P L L=true:=smB_iff.mpr rfl
theorem FT {P Q:List N2}(h:P.length≠Q.length):jQ (eS P) (eS Q)= .ok (.bl true):=by
 unfold jQ;rw[if_pos (eK (zP P) (T.GM _ (wc P)) (T.GM _ (wc Q)))]
 have len:∀{l m:List T},l.length≠m.length->beqTs l m=false:=by
  intro l
  induction l with
  | nil=>intro m h;cases m with | nil=>exact absurd rfl h | cons _ _=>simp[beqTs]
  | cons t l ih=>intro m h;cases m with | nil=>simp[beqTs] | cons u m=>rw[beqTs,ih (m:=m) (λz=>h (by simp[z]))];simp
 show Rs.ok (T.bl (!beqTs (P.map en) (Q.map en)))=_
 rw[len (by rw[Ig,Ig];exact h)];rfl
theorem Cj {cs ls ds ms:List T}{L M:bw N2}{P Q:List N2}(R:Rd cs ls L P)(S:Rd ds ms M Q)(h:P.length≠Q.length):aw [RR cs ls,RR ds ms] = .ok (.bl false):=by
 refine bz rfl ?_
 show dI [.va (RR cs ls),.va (RR ds ms)] =_
 unfold dI;exact gq ((fK (bu (aA (t:=eS P) (u:=eS Q) (aJ (ts:=[RR cs ls]) rfl R.events) (aJ (ts:=[RR ds ms]) rfl S.events) (FT h)))).trans rfl)
def cT:List T:=[.tup [.int 1,.int 1,.tup [.int 0]],.tup [.int 1,.int 1,.tup [.int 0]]]
def lT:T:=.tup [en ⟨0,0⟩,en ⟨1,0⟩,.int 1,.int 4]
def PT:List N2:=[⟨0,0⟩,⟨1,0⟩]
def LT:bw N2:=[(⟨1,0⟩,⟨0,0⟩,-1),(⟨0,0⟩,⟨1,0⟩,4),(⟨1,0⟩,⟨0,0⟩,-1),(⟨0,0⟩,⟨1,0⟩,4)]
theorem rdT:Rd cT [lT,lT] LT PT:=⟨⟨rfl,λt ht=>by
 simp only[Ij,IM,or_false]at ht;rcases ht with rfl | rfl <;> rfl,by decide,rfl⟩,rfl,rfl,⟨by decide,by decide,by decide,by decide⟩,by decide,by decide,by decide,by unfold big;decide⟩
theorem noT:NoNeg LT:=Holds.Ha (t:=λv=>v.c*4) λa b k hx=>by
 unfold LT at hx;simp only[Ij,IM,or_false,MF]at hx;rcases hx with⟨rfl,rfl,rfl⟩ | ⟨rfl,rfl,rfl⟩ | ⟨rfl,rfl,rfl⟩ | ⟨rfl,rfl,rfl⟩ <;> simp
theorem zm:key PT cT [lT] =key PT cT [lT,lT]:=rdT.G0 (by simp) (by simp) (λu hu=>by simp at hu;simp[hu]) λu=>by simp
theorem F1:key PT cT [] ≠key PT cT [lT,lT]:=λz=>by
 have e1:lim cT [lT,lT] =LT:=rdT.GU
 have e0:lim cT [] = []:=rfl;unfold key at z;rw[e0,e1]at z
 have n0:NoNeg ([]:bw N2):=noT.mono λx hx=>by cases hx
 have he0:∀x∈([]:bw N2),x.1∈PT/\x.2.1∈PT:=λx hx=>by cases hx
 have F:=aM (P:=PT) he0 n0
 have G:=aM (P:=PT) rdT.f.ends noT
 have q:=(jH he0 rdT.f.ends n0 noT F G).mp z ⟨0,0⟩ (by decide) ⟨1,0⟩ (by decide)
 obtain⟨y,q2,_⟩:=G.le ⟨0,0⟩ (by decide) ⟨1,0⟩ 4 (Wk.one (by decide))
 rw[q2]at q
 have w:=F.is _ _ _ q
 have:∀{u v:N2} {s:Int},Wk ([]:bw N2) u v s->u=v:=λw=>by
  cases w with
  | nil=>rfl
  | step h _=>cases h
 have:=this w
 simp at this
theorem FQ:aN [RR cT [lT,lT]] = .ok (.lst [.int 0,.int 1]):=by
 rw[rdT.GX noT]
 have h:∀k,k<2->uS PT cT [lT,lT] k=true:=λk hk=>ndl_iff.mpr (by
  match k,hk with
  | 0,_=>exact zm
  | 1,_=>exact zm)
 have e:(Iw [lT,lT].length).filter (uS PT cT [lT,lT])= [0,1]:=by
  show [0,1].filter _=_
  rw[Kv,if_pos (h 0 (by omega)),Kv,if_pos (h 1 (by omega))];rfl
 rw[e];rfl
theorem DY:bR [RR cT [lT,lT]] = .ok (RR cT [lT]):=by
 obtain⟨ks,e,F⟩:=rdT.Ho noT
 have same:key PT cT ks=key PT cT [lT,lT]:=by have:=F.same;rwa [Ny,JX]at this
 have all:∀u∈ks,u=lT:=λu hu=>by have:=F.sub u hu;simp at this;exact this
 have len:ks.length<=2:=by have:=F.len;simp at this;exact this
 rw[e]
 match ks,len,all,same,F with
 | [],_,_,same,_=>exact absurd same F1
 | [u],_,all,_,_=>rw[all u (by simp)]
 | [u,v],_,all,same,F=>
  have h0:=Few.none rdT F 0 (by simp)
  have e1:=all u (by simp)
  have e2:=all v (by simp)
  subst e1 e2;rw[ndl_iff.mpr zm]at h0;cases h0
theorem mF {n:Nat}{l:List T}(h:∀t∈l,t.dep<=n):(T.tup l).dep<=n+1:=by unfold T.dep;have:=kY h;omega
theorem xN {c:T}(h:bH c=true):c.dep<=2:=by
 obtain⟨x,y,r,rfl,_⟩:=gX h;refine mF λt ht=> ?_
 simp only[Ij,IM,or_false]at ht;rcases ht with rfl | rfl | rfl
 ·simp[T.dep]
 ·simp[T.dep]
 ·exact mF (n:=0) λt ht=>by obtain⟨i,_,rfl⟩:=ID.mp ht;simp[T.dep]
theorem nW {cs:List T}{t:T}(h:aZ cs t=true):t.dep<=2:=by
 obtain⟨a,b,x,y,rfl,hd,ha,hb,_⟩:=dB h;obtain⟨m1,m2⟩:=FV h
 have:=(CA ha).2
 have:=(CA hb).2
 have hx:x.dep<=2:=by
  unfold cY at hd;rw[HZ]at hd;obtain⟨i,rfl,_⟩:=cU hd.1;simp[T.dep]
 unfold T.dep deps deps deps deps deps;obtain⟨a',b',mo,le,e,_⟩:=lU h;cases e;simp only[T.dep];omega
theorem AK {cs ls:List T}(g:Good cs ls):(T.tup cs).dep<=3/\(T.tup ls).dep<=3:=⟨mF λt ht=>xN ((c6 g.c).1 t ht),mF λt ht=>nW (g.l t ht)⟩
theorem BB:cq (.tup [lT]) (.int 2)= .ok (.tup [lT,lT]):=by
 unfold cq;exact(if_pos ⟨by omega,by decide,by simp,ax (k:=2) (by decide)⟩).trans rfl
theorem lcA {Z:En}(h:cj [none,some 0] Z= [.em,.va (.lst [RR (cK 1 1 [.int 0,.int 1]) [],RR (cK 1 1 [.int 3,.int 4]) [],RR (cK 1 1 [.int 0,.int 1,.int 2]) [],RR (cK 1 1 [.int 0,.int 2]) [],RR (cK 1 2 [.int 0,.int 1]) []])])(hi:vr 0 Z= .ok (.lst [RR (cK 1 1 [.int 0,.int 1]) [],RR (cK 1 1 [.int 3,.int 4]) [],RR (cK 1 1 [.int 0,.int 1,.int 2]) [],RR (cK 1 1 [.int 0,.int 2]) [],RR (cK 1 2 [.int 0,.int 1]) []]):=by rfl):(fA (iS (vr 0)) [none,some 0] (gN 0) bT (cl aw (ae (o2 aP (vr 1) (cn (.int 0))) (ae (vr 0) ai)))) Z= .ok (.lst [.bl true,.bl true,.bl false,.bl false,.bl false]):=by
 refine Cu (iX hi) (ax (k:=5) (by simp)) (by simp) ?_
 rw[h]
 have i0:∀t:T,o2 aP (vr 1) (cn (.int 0)) [.va t,.va (.lst [RR (cK 1 1 [.int 0,.int 1]) [],RR (cK 1 1 [.int 3,.int 4]) [],RR (cK 1 1 [.int 0,.int 1,.int 2]) [],RR (cK 1 1 [.int 0,.int 2]) [],RR (cK 1 2 [.int 0,.int 1]) []])] = .ok (RR (cK 1 1 [.int 0,.int 1]) []):=λt=>aA (u:=.int 0) rfl rfl (uX (n:=0) rfl)
 have go:∀{u:T} {b:Bool},aw [RR (cK 1 1 [.int 0,.int 1]) [],u] = .ok (.bl b)->∀s:Sl,cl aw (ae (o2 aP (vr 1) (cn (.int 0))) (ae (vr 0) ai)) (([Sl.em,.va (.lst [RR (cK 1 1 [.int 0,.int 1]) [],RR (cK 1 1 [.int 3,.int 4]) [],RR (cK 1 1 [.int 0,.int 1,.int 2]) [],RR (cK 1 1 [.int 0,.int 2]) [],RR (cK 1 2 [.int 0,.int 1]) []])].set 0 s).set 0 (.va u))= .ok (.bl b):=λ{u b} hu s=>aJ (ts:=[RR (cK 1 1 [.int 0,.int 1]) [],u]) (au (i0 u) rfl) hu
 refine .cons (go ?_) (.cons (go ?_) (.cons (go ?_) (.cons (go ?_) (.cons (go ?_) .nil))))
 ·rw[rdK1.Gc rdK1,EZ]
 ·rw[rdK1.Gc rdK2,EZ]
 ·exact Cj rdK1 E7 (by decide)
 ·rw[rdK1.Gc rdK4,GA (by omega) (by omega) (by omega)]
 ·rw[rdK1.Gc rdK5,GA (by omega) (by omega) (by omega)]
theorem lcB {Z:En}(h:cj [none,some 0] Z= [.em,.va (.lst [RR (cK 1 1 [.int 0,.int 1]) [],RR (cK 1 1 [.int 3,.int 4]) [],RR (cK 1 1 [.int 0,.int 1,.int 2]) [],RR (cK 1 1 [.int 0,.int 2]) [],RR (cK 1 2 [.int 0,.int 1]) []])])(hi:vr 0 Z= .ok (.lst [RR (cK 1 1 [.int 0,.int 1]) [],RR (cK 1 1 [.int 3,.int 4]) [],RR (cK 1 1 [.int 0,.int 1,.int 2]) [],RR (cK 1 1 [.int 0,.int 2]) [],RR (cK 1 2 [.int 0,.int 1]) []]):=by rfl):(fA (iS (vr 0)) [none,some 0] (gN 0) bT (cl aw (ae (vr 0) (ae (o2 aP (vr 1) (cn (.int 0))) ai)))) Z= .ok (.lst [.bl true,.bl true,.bl false,.bl false,.bl false]):=by
 refine Cu (iX hi) (ax (k:=5) (by simp)) (by simp) ?_
 rw[h]
 have i0:∀t:T,o2 aP (vr 1) (cn (.int 0)) [.va t,.va (.lst [RR (cK 1 1 [.int 0,.int 1]) [],RR (cK 1 1 [.int 3,.int 4]) [],RR (cK 1 1 [.int 0,.int 1,.int 2]) [],RR (cK 1 1 [.int 0,.int 2]) [],RR (cK 1 2 [.int 0,.int 1]) []])] = .ok (RR (cK 1 1 [.int 0,.int 1]) []):=λt=>aA (u:=.int 0) rfl rfl (uX (n:=0) rfl)
 have go:∀{u:T} {b:Bool},aw [u,RR (cK 1 1 [.int 0,.int 1]) []] = .ok (.bl b)->∀s:Sl,cl aw (ae (vr 0) (ae (o2 aP (vr 1) (cn (.int 0))) ai)) (([Sl.em,.va (.lst [RR (cK 1 1 [.int 0,.int 1]) [],RR (cK 1 1 [.int 3,.int 4]) [],RR (cK 1 1 [.int 0,.int 1,.int 2]) [],RR (cK 1 1 [.int 0,.int 2]) [],RR (cK 1 2 [.int 0,.int 1]) []])].set 0 s).set 0 (.va u))= .ok (.bl b):=λ{u b} hu s=>aJ (ts:=[u,RR (cK 1 1 [.int 0,.int 1]) []]) (au rfl (au (i0 u) rfl)) hu
 refine .cons (go ?_) (.cons (go ?_) (.cons (go ?_) (.cons (go ?_) (.cons (go ?_) .nil))))
 ·rw[rdK1.Gc rdK1,EZ]
 ·rw[rdK2.Gc rdK1,EZ]
 ·exact Cj E7 rdK1 (by decide)
 ·rw[rdK4.Gc rdK1,GA (by omega) (by omega) (by omega)]
 ·rw[rdK5.Gc rdK1,GA (by omega) (by omega) (by omega)]
theorem BX:cz [] = .ok (.bl true):=by
 refine bz rfl ?_
 show eU [.em,.em,.em] =_
 unfold eU;refine(az (Z':=[.va (.lst [RR (cK 1 1 [.int 0,.int 1]) [],RR (cK 1 1 [.int 3,.int 4]) [],RR (cK 1 1 [.int 0,.int 1,.int 2]) [],RR (cK 1 1 [.int 0,.int 2]) [],RR (cK 1 2 [.int 0,.int 1]) []]),.em,.em]) (bL (aA (t:=.lst [RR (cK 1 1 [.int 0,.int 1]) [],RR (cK 1 1 [.int 3,.int 4]) [],RR (cK 1 1 [.int 0,.int 1,.int 2]) [],RR (cK 1 1 [.int 0,.int 2]) []]) (u:=.lst [RR (cK 1 2 [.int 0,.int 1]) []]) (rB (ts:=[.tup [.int 0,.int 1],.tup [.int 3,.int 4],.tup [.int 0,.int 1,.int 2],.tup [.int 0,.int 2]]) (h:=λr=>RR [.tup [.int 1,.int 1,r]] []) (BH (bJ (au (p2 rfl rfl) (au (p2 rfl rfl) (au (bJ rfl (ax (k:=3) (by simp))) (au (p2 rfl rfl) rfl)))) (ax (k:=4) (by simp)))) (ax (k:=4) (by simp)) (by simp) λt ht=>p2 (bJ (au (bJ rfl (ax (k:=3) (by simp))) rfl) (ax (k:=1) (by simp))) (bJ rfl (ax (k:=0) (by simp)))) (ie (au (p2 (bJ (au (bJ (au rfl (au rfl (au (p2 rfl rfl) rfl))) (ax (k:=3) (Il _))) rfl) (ax (k:=1) (Il _))) (bJ rfl (ax (k:=0) (by simp)))) rfl) (ax (k:=1) (Il _))) (k6 _ _ (by simp))) rfl)).trans ?_
 refine(az (Z':=[.va (.lst [RR (cK 1 1 [.int 0,.int 1]) [],RR (cK 1 1 [.int 3,.int 4]) [],RR (cK 1 1 [.int 0,.int 1,.int 2]) [],RR (cK 1 1 [.int 0,.int 2]) [],RR (cK 1 2 [.int 0,.int 1]) []]),.va (RR cT [lT,lT]),.em]) (bL (p2 (p2 (bJ (au rfl (au rfl (au (bJ rfl (ax (k:=1) (by simp))) rfl))) (ax (k:=3) (by simp))) (bJ (au rfl (au rfl (au (bJ rfl (ax (k:=1) (by simp))) rfl))) (ax (k:=3) (by simp)))) (aA (t:=.tup [lT]) (u:=.int 2) (bJ (au (bJ (au (p2 rfl rfl) (au (p2 rfl rfl) rfl)) (ax (k:=4) (by simp))) rfl) (ax (k:=1) (by simp))) rfl BB)) rfl)).trans ?_
 refine(az (Z':=[.va (.lst [RR (cK 1 1 [.int 0,.int 1]) [],RR (cK 1 1 [.int 3,.int 4]) [],RR (cK 1 1 [.int 0,.int 1,.int 2]) [],RR (cK 1 1 [.int 0,.int 2]) [],RR (cK 1 2 [.int 0,.int 1]) []]),.va (RR cT [lT,lT]),.em]) ((cJ (gJ (bu (aA (t:=.lst [.int 0,.int 1]) (u:=.lst [.int 0,.int 1]) (aJ (ts:=[RR cT [lT,lT]]) rfl FQ) (ie rfl (ax (k:=2) (by simp))) (gd rfl (by simp[T.dep,deps])))) (bu (aA (t:=RR cT [lT]) (u:=RR cT [lT]) (aJ (ts:=[RR cT [lT,lT]]) rfl DY) (p2 (aA (t:=RR cT [lT,lT]) (u:=.int 0) rfl rfl (cI (n:=0) rfl)) ((zr (lo:=none) (hi:=(some 1)) (aA (t:=RR cT [lT,lT]) (u:=.int 1) rfl rfl (cI (n:=1) rfl)) rfl (tR rfl)).trans rfl)) (gd rfl (by simp[T.dep,deps,cT,lT,en])))))).trans rfl)).trans ?_
 refine(az (Z':=[.va (.lst [RR (cK 1 1 [.int 0,.int 1]) [],RR (cK 1 1 [.int 3,.int 4]) [],RR (cK 1 1 [.int 0,.int 1,.int 2]) [],RR (cK 1 1 [.int 0,.int 2]) [],RR (cK 1 2 [.int 0,.int 1]) []]),.va (RR cT [lT,lT]),.va (.lst [.bl true,.bl true,.bl false,.bl false,.bl false,.bl true,.bl true,.bl false,.bl false,.bl false])]) (bL (aA (t:=.lst [.bl true,.bl true,.bl false,.bl false,.bl false]) (u:=.lst [.bl true,.bl true,.bl false,.bl false,.bl false]) (lcA rfl) (lcB rfl) (k6 _ _ (by simp))) rfl)).trans ?_
 exact(bQ (aA (t:=.lst [.bl true,.bl true,.bl false,.bl false,.bl false,.bl true,.bl true,.bl false,.bl false,.bl false]) (u:=.lst [.bl true,.bl true,.bl false,.bl false,.bl false,.bl true,.bl true,.bl false,.bl false,.bl false]) rfl (aA (t:=.lst [.bl true,.bl true,.bl false,.bl false,.bl false]) (u:=.int 2) (ie rfl (ax (k:=5) (by simp))) rfl (rl _ 2 ⟨by omega,by omega,ax (k:=10) (by simp)⟩)) (rL rfl (by simp[T.dep,deps]))))
abbrev EW (ns:List Int)(cs ls os ks:List T)(s5 s6 s7 s8 s9 s10 s11 s12 s13 s14:Sl):En:=[.va (.scr ns),.va (RR cs ls),.va (RR cs os),.va (RR cs ls.reverse),.va (RR cs ks),s5,s6,s7,s8,s9,s10,s11,s12,s13,s14]
theorem kW {u:T}:∀{l:List T} {i:Nat},u∈bB i l->∃k v,l[k]? =some v/\u= .tup [.int ((i+k:Nat):Int),v]
 | [],i,h=>by cases h
 | a::l,i,h=>by
  rw[bB]at h;rcases Ij.mp h with rfl | h
  ·exact⟨0,a,rfl,rfl⟩
  ·obtain⟨k,v,e1,e2⟩:=kW h
   exact⟨k+1,v,e1,by rw[e2,show i+1+k=i+(k+1)by omega]⟩
theorem vK {l:List T}{a b:Option Int}{u:T}(h:u∈jF l a b):u∈l:=by
 unfold jF at h;exact K1 (J1 h)
theorem EA {L:bw N2}{k:Nat}{v:T}(h:(L.map eB)[k]? =some v):∃x,L[k]? =some x/\v=eB x:=by
 rw[IF]at h
 cases q:L[k]? with
 | none=>rw[q]at h;cases h
 | some x=>rw[q]at h;cases h;exact⟨x,rfl,rfl⟩
theorem BD {L:bw N2}(h:L.length<=60):tM [eL L] = .ok (.lst (bB 0 (L.map eB))):=by
 show(if (L.map eB).length<=1000 then Rs.ok (T.lst (bB 0 (L.map eB)))else .bad)=_
 rw[if_pos (by rw[Ig];omega)]
abbrev W8:En->Rs Fl:=(aC (cu (cl bO (ae (vr 1) (ae (vr 6) (ae (vr 7) ai)))) (gN 9)) (eX (ka (tb (o2 gtT (vr 9) (vr 8))) (k4 (tb (o2 Cr (vr 9) (vr 8))) (cM (tb (cl dF (ae (vr 1) (ae (vr 5) ai))))))) (aK (cn (.bl false))) sN))
abbrev W14:En->Rs Fl:=(eX (k4 (tb (o2 jQ (vr 6) (vr 7))) (k4 (tb (o2 jO (vr 11) (cn .non))) (tb (ch xX xX (cn (.int 0)) (vr 11) (cn (.int 998)))))) (aC (cu (cl bV (ae (vr 1) (ae (aO (ae (vr 6) (ae (vr 7) (ae (vr 11) (ae (cn .non) ai))))) ai))) (gN 12)) (aC (eX (ka (cM (tb (cl aw (ae (vr 1) (ae (vr 12) ai))))) (tb (o2 cF (cl cQ (ae (o2 aP (vr 1) (cn (.int 1))) ai)) (cl aN (ae (vr 12) ai))))) (aK (cn (.bl false))) sN) (aC (cu (cl bV (ae (vr 1) (ae (aO (ae (vr 6) (ae (vr 7) (ae (o2 aX (vr 11) (cn (.int 1))) (ae (cn .non) ai))))) ai))) (gN 12)) (eX (tb (cl aw (ae (vr 1) (ae (vr 12) ai)))) (aK (cn (.bl false))) sN)))) sN)
abbrev W15:En->Rs Fl:=(eX (ka (tb (o2 cF (o2 aP (vr 13) (cn (.int 0))) (vr 10))) (tb (o2 cF (o2 aP (vr 13) (cn (.int 1))) (vr 10)))) (aK (cn (.bl true))) sN)
section
variable {cs ls os ks:List T}{L:bw N2}{P:List N2}{f:dS N2}{ns:List Int}
theorem lc7 (R:Rd cs ls L P)(hs:∀u∈ks,u∈ls){Z:En}(h4:vr 4 Z= .ok (RR cs ks))(h:cj [none,some 1] Z= [.em,.va (RR cs ls)])(hl:0+ks.length<=ls.length):(fA (iS (o2 aP (vr 4) (cn (.int 1)))) [none,some 1] (gN 0) (tb (o2 cF (vr 0) (o2 aP (vr 1) (cn (.int 1))))) (vr 0)) Z= .ok (.lst []):=by
 have h8:=R.g.n
 have e:=zy (fi:=iS (o2 aP (vr 4) (cn (.int 1)))) (src:=[none,some 1]) (fc:=tb (o2 cF (vr 0) (o2 aP (vr 1) (cn (.int 1))))) (fe:=vr 0) (p:=λ_=>false) (h:=id) (Z:=Z) (ts:=ks) (BH (aA (t:=RR cs ks) (u:=.int 1) h4 rfl (cI (n:=1) rfl))) (ax (k:=8) (by omega)) (by simp) λt ht=>by
  rw[h]
  have hp:=R.g.parts.2 t (hs t ht);obtain⟨a,b,x,y,rfl,_⟩:=dB (R.g.l t (hs t ht))
  have hd:(T.tup [a,b,x,y]).dep<=60:=IQ (nW (R.g.l _ (hs _ ht))) (by decide)
  exact⟨bu (aA (t:=.tup [a,b,x,y]) (u:=.tup ls) rfl (aA (t:=RR cs ls) (u:=.int 1) rfl rfl (cI (n:=1) rfl)) (pF hp hd (by have:=R.g.pls;rwa [eE]at this) (hs _ ht)).2),λz=>by cases z⟩
 rw[e];simp
theorem Rd.w8 (R:Rd cs ls L P)(n:NoNeg L)(F:Least L P f){k:Nat}{x:N2×N2×Int}(e:L[k]? =some x)(b9 s10 s11 s12 s13 s14:Sl):∃a9,W8 (EW ns cs ls os ks (.va (.int ((0+k:Nat):Int))) (.va (en x.1)) (.va (en x.2.1)) (.va (.int x.2.2)) b9 s10 s11 s12 s13 s14)= .ok (.nx (EW ns cs ls os ks (.va (.int ((0+k:Nat):Int))) (.va (en x.1)) (.va (en x.2.1)) (.va (.int x.2.2)) a9 s10 s11 s12 s13 s14)):=by
 obtain⟨a,b,m⟩:=x;obtain⟨ha,hb⟩:=R.f.ends _ (Jg e);obtain⟨d,hd,dm⟩:=F.le a ha b m (Wk.one (Jg e));refine⟨.va (.int d),?_⟩
 have mo:=R.Hz n F ha hb;rw[hd]at mo;refine(az (Z':=EW ns cs ls os ks (.va (.int ((0+k:Nat):Int))) (.va (en a)) (.va (en b)) (.va (.int m)) (.va (.int d)) s10 s11 s12 s13 s14) (bL (aJ (ts:=[RR cs ls,en a,en b]) rfl mo) rfl)).trans ?_
 refine(cJ (gJ (bu (aA (t:=.int d) (u:=.int m) rfl rfl (by show Rs.ok (T.bl (decide (m<d)))=_;rw[decide_eq_false (by omega)]))) ?_)).trans rfl
 by_cases h:d<m
 ·refine ki (bu (aA (t:=.int d) (u:=.int m) rfl rfl (by show Rs.ok (T.bl (decide (d<m)))=_;rw[decide_eq_true h]))) (d7 (k:=true) (bu (aJ (ts:=[RR cs ls,.int ((0+k:Nat):Int)]) rfl ?_)))
  rw[Oy];exact R.HD n F e hd h
 ·exact rC (bu (aA (t:=.int d) (u:=.int m) rfl rfl (by show Rs.ok (T.bl (decide (d<m)))=_;rw[decide_eq_false h])))
theorem BA (u:T)(l:List T)(h:plS (u::l)=true):jQ (.tup (u::l)) (.tup [])= .ok (.bl true):=by
 unfold jQ;rw[if_pos (zK (by simp[T.dep,deps]) (T.GM _ (by rw[eE];exact h)) rfl)]
 simp[aT,beqTs]
theorem Rd.s9 (R:Rd cs ls L P)(n:NoNeg L)(h5:ls.length<=5){Z:En}(h1:vr 1 Z= .ok (RR cs ls)):(eX (k4 (tb (o2 jQ (o2 aP (vr 1) (cn (.int 1))) (aO ai))) (tb (o2 cF (cn (.int 0)) (cl aN (ae (aO (ae (o2 aP (vr 1) (cn (.int 0))) (ae (o2 aX (o2 aP (vr 1) (cn (.int 1))) (sl (o2 aP (vr 1) (cn (.int 1))) pN (pS (cn (.int 1))))) ai))) ai))))) (aK (cn (.bl false))) sN) Z= .ok (.nx Z):=by
 have i1:o2 aP (vr 1) (cn (.int 1)) Z= .ok (.tup ls):=aA (t:=RR cs ls) (u:=.int 1) h1 rfl (cI (n:=1) rfl)
 have i0:o2 aP (vr 1) (cn (.int 0)) Z= .ok (.tup cs):=aA (t:=RR cs ls) (u:=.int 0) h1 rfl (cI (n:=0) rfl)
 cases hls:ls with
 | nil=>
  rw[hls]at i1
  exact(cJ (rC (bu (aA (t:=.tup []) (u:=.tup []) i1 (bJ rfl (ax (k:=0) (by simp))) (gd rfl (by simp[T.dep,deps])))))).trans rfl
 | cons u l=>
  have hu:u∈ls:=by rw[hls];exact Ie
  have gm:Good cs (ls++ [u]):=R.Hi (by omega) (R.g.l u hu) (R.g.parts.2 u hu)
  have sub:∀v∈ls++ [u],v∈ls:=λv hv=>(IB.mp hv).elim id λz=>by rw[Iv.mp z];exact hu
  have S:=R.to gm
  have n2:NoNeg (lim cs (ls++ [u])):=n.mono λx hx=>by have:=ju sub x hx;rwa [R.GU]at this
  have hlen:(ls++ [u]).length<=8:=by rw[Ih];simp;omega
  have nd:uS P cs (ls++ [u]) 0=true:=by
   refine ndl_iff.mpr (R.G0 (IQ (zQ 0) hlen) hlen (λv hv=>sub v (u5 v hv)) λv=>⟨u5 v,λhv=> ?_⟩)
   rw[hls,LI,MJ];rw[hls,LI]at hv;rcases Ij.mp hv with rfl | hv
   ·exact Iy _ (Iv.mpr rfl)
   ·exact hv
  have nin:cF (.int 0) (.lst (((Iw (ls++ [u]).length).filter (uS P cs (ls++ [u]))).map nI))= .ok (.bl false):=sZ (j:=0) (Lf.mpr ⟨Ji.mpr (by rw[Ih];simp),nd⟩)
  have c1:sl (o2 aP (vr 1) (cn (.int 1))) pN (pS (cn (.int 1))) Z= .ok (.tup [u]):=by rw[zr (l:=ls) (lo:=none) (hi:=some ((1:Nat):Int)) i1 rfl rfl,i8,hls];rfl
  have mr:aO (ae (o2 aP (vr 1) (cn (.int 0))) (ae (o2 aX (o2 aP (vr 1) (cn (.int 1))) (sl (o2 aP (vr 1) (cn (.int 1))) pN (pS (cn (.int 1))))) ai)) Z= .ok (RR cs (ls++ [u])):=p2 i0 (aA (t:=.tup ls) (u:=.tup [u]) i1 c1 (mG _ _ (by simp;omega)))
  have pls:plS (u::l)=true:=by have:=R.g.pls;rwa [eE,hls]at this
  have t1:jQ (.tup ls) (.tup [])= .ok (.bl true):=by rw[hls];exact BA u l pls
  exact(cJ (ki (bu (aA (t:=.tup ls) (u:=.tup []) i1 (bJ rfl (ax (k:=0) (by simp))) t1)) (bu (aA (t:=.int 0) rfl (aJ (ts:=[RR cs (ls++ [u])]) (au mr rfl) (S.GX n2)) nin)))).trans rfl
theorem BO (l:List T)(u:T):(l++ [u]).eraseIdx l.length=l:=by rw[Lk (Il _),K9];simp
theorem mq (a c:N2)(x:Int):(ik a c x).pl=true:=rfl
theorem Rd.w14 (R:Rd cs ls L P)(n:NoNeg L)(F:Least L P f)(h5:ls.length<=5){a c:N2}(ha:a∈P)(hc:c∈P)(s5 s8 s9 s10 s12 s13 s14:Sl):∃a12,W14 (EW ns cs ls os ks s5 (.va (en a)) (.va (en c)) s8 s9 s10 (.va (EF (f c a))) s12 s13 s14)= .ok (.nx (EW ns cs ls os ks s5 (.va (en a)) (.va (en c)) s8 s9 s10 (.va (EF (f c a))) a12 s13 s14)):=by
 by_cases hac:a=c
 ·subst hac
  exact⟨s12,(cJ (rC (bu (aA (t:=en a) (u:=en a) rfl rfl (by rw[Cp,decide_eq_true rfl];rfl))))).trans rfl⟩
 have t0:∀{Z:En},vr 6 Z= .ok (en a)->vr 7 Z= .ok (en c)->tb (o2 jQ (vr 6) (vr 7)) Z= .ok true:=λh6 h7=>bu (aA (t:=en a) (u:=en c) h6 h7 (by rw[Cp,decide_eq_false hac];rfl))
 cases q:f c a with
 | none=>exact⟨s12,(cJ (ki (t0 rfl rfl) (rC (bu (aA (t:=.non) (u:=.non) rfl rfl rfl))))).trans rfl⟩
 | some d=>
  have hch:∀{Z:En},vr 11 Z= .ok (.int (0 - d))->tb (ch xX xX (cn (.int 0)) (vr 11) (cn (.int 998))) Z= .ok (decide (0<=0 - d)&&decide (0 - d<=998)):=λ{Z} h11=>by
   refine bu ?_
   unfold ch
   show((Rs.ok (T.int 0)) >>= λx=>vr 11 Z >>= _)=_
   rw[aI,h11,aI]
   show(Rs.ok (T.bl (decide (0<=0 - d))) >>= _)=_
   rw[aI];cases decide (0<=0 - d) <;> rfl
  by_cases hx:0<=0 - d/\0 - d<=998
  ·have g1:=R.Hy ha hc hac (x:=0 - d) hx.1 (by omega)
   have g2:=R.Hy ha hc hac (x:=0 - d+1) (by omega) (by omega)
   have w1:=R.Ht (by omega) g1 (mq _ _ _)
   have w2:=R.Ht (by omega) g2 (mq _ _ _)
   have S1:=R.to (R.Hi (by omega) g1 (mq _ _ _))
   have S2:=R.to (R.Hi (by omega) g2 (mq _ _ _))
   rw[R.HH,show -(0 - d)=d by omega]at S1
   rw[R.HH,show -(0 - d+1)=d - 1 by omega]at S2
   obtain⟨n1,t1⟩:=R.Hn n F ha hc q
   have e1:aw [RR cs ls,RR cs (ls++ [ik a c (0 - d)])] = .ok (.bl true):=by rw[R.Gc S1,smB_iff.mpr t1.symm]
   have e2:aw [RR cs ls,RR cs (ls++ [ik a c (0 - d+1)])] = .ok (.bl false):=by
    rw[R.Gc S2]
    cases z:ym P L (L++ [(c,a,d - 1)])with
    | false=>rfl
    | true=>exact absurd (smB_iff.mp z) (R.Hk n F ha hc q (by omega))
   have nd:uS P cs (ls++ [ik a c (0 - d)]) ls.length=true:=ndl_iff.mpr (by
    unfold key;rw[BO,R.GU,R.HH,show -(0 - d)=d by omega];exact t1.symm)
   have nin:cF (.int (ls.length:Nat)) (.lst (((Iw (ls++ [ik a c (0 - d)]).length).filter (uS P cs (ls++ [ik a c (0 - d)]))).map nI))= .ok (.bl false):=sZ (Lf.mpr ⟨Ji.mpr (by rw[Ih];simp),nd⟩)
   refine⟨.va (RR cs (ls++ [ik a c (0 - d+1)])),(fK (ki (t0 rfl rfl) (ki (bu (aA (t:=.int (0 - d)) (u:=.non) rfl rfl rfl)) ((hch rfl).trans (by rw[decide_eq_true hx.1,decide_eq_true hx.2];rfl))))).trans ?_⟩
   refine(az (Z':=EW ns cs ls os ks s5 (.va (en a)) (.va (en c)) s8 s9 s10 (.va (.int (0 - d))) (.va (RR cs (ls++ [ik a c (0 - d)]))) s13 s14) (bL (aJ (ts:=[RR cs ls,ik a c (0 - d)]) (au rfl (au (bJ rfl (ax (k:=4) (by simp))) rfl)) w1) rfl)).trans ?_
   refine(az (Z':=EW ns cs ls os ks s5 (.va (en a)) (.va (en c)) s8 s9 s10 (.va (.int (0 - d))) (.va (RR cs (ls++ [ik a c (0 - d)]))) s13 s14) ((cJ (gJ (d7 (k:=true) (bu (aJ (ts:=[RR cs ls,RR cs (ls++ [ik a c (0 - d)])]) rfl e1))) (bu (aA (t:=.int (ls.length:Nat)) (rp (l:=ls) (aA (t:=RR cs ls) (u:=.int 1) rfl rfl (cI (n:=1) rfl))) (aJ (ts:=[RR cs (ls++ [ik a c (0 - d)])]) rfl (S1.GX n1)) nin)))).trans rfl)).trans ?_
   refine(az (Z':=EW ns cs ls os ks s5 (.va (en a)) (.va (en c)) s8 s9 s10 (.va (.int (0 - d))) (.va (RR cs (ls++ [ik a c (0 - d+1)]))) s13 s14) (bL (aJ (ts:=[RR cs ls,ik a c (0 - d+1)]) (au rfl (au (bJ (au rfl (au rfl (au (aA (t:=.int (0 - d)) (u:=.int 1) rfl rfl rfl) rfl))) (ax (k:=4) (by simp))) rfl)) w2) rfl)).trans ?_
   exact(cJ (bu (aJ (ts:=[RR cs ls,RR cs (ls++ [ik a c (0 - d+1)])]) rfl e2))).trans rfl
  ·refine⟨s12,(cJ (ki (t0 rfl rfl) (ki (bu (aA (t:=.int (0 - d)) (u:=.non) rfl rfl rfl)) ((hch rfl).trans ?_)))).trans rfl⟩
   congr 1
   rw[LG]
   by_cases z:0<=0 - d
   ·exact .inr (decide_eq_false λy=>hx ⟨z,y⟩)
   ·exact .inl (decide_eq_false z)
theorem xo {cs2:List T}{u:T}(h:aZ cs2 u=true):∃(v w:N2) (x y:T),u= .tup [en v,en w,x,y]/\cY x y=true/\aT (en v) (en w)=false:=by
 obtain⟨a,b,x,y,rfl,h1,h2,h3,h4⟩:=dB h;obtain⟨c,k,rfl⟩:=cR h2;obtain⟨c',k',rfl⟩:=cR h3;exact⟨⟨c,k⟩,⟨c',k'⟩,x,y,rfl,h1,h4⟩
theorem Rd.l15 (R:Rd cs ls L P){cs2:List T}(s5 s6 s7 s8 s9 s11 s12 s14:Sl):∀(l:List T) (s13:Sl),(∀u∈l,aZ cs2 u=true)->((∀u∈l,aZ cs u=true)/\∃s13',br (gN 13) W15 l (EW ns cs ls os ks s5 s6 s7 s8 s9 (.va (eS P)) s11 s12 s13 s14)= .ok (.nx (EW ns cs ls os ks s5 s6 s7 s8 s9 (.va (eS P)) s11 s12 s13' s14)))\/br (gN 13) W15 l (EW ns cs ls os ks s5 s6 s7 s8 s9 (.va (eS P)) s11 s12 s13 s14)= .ok (.rt (.bl true))
 | [],s13,_=> .inl ⟨λu hu=>(by cases hu),s13,rfl⟩
 | u::l,s13,h=>by
  obtain⟨v,w,x,y,rfl,h1,h2⟩:=xo (h u Ie)
  have g:gN 13 (.tup [en v,en w,x,y]) (EW ns cs ls os ks s5 s6 s7 s8 s9 (.va (eS P)) s11 s12 s13 s14)= .ok (EW ns cs ls os ks s5 s6 s7 s8 s9 (.va (eS P)) s11 s12 (.va (.tup [en v,en w,x,y])) s14):=rfl
  have a0:tb (o2 cF (o2 aP (vr 13) (cn (.int 0))) (vr 10)) (EW ns cs ls os ks s5 s6 s7 s8 s9 (.va (eS P)) s11 s12 (.va (.tup [en v,en w,x,y])) s14)= .ok (!decide (v∈P)):=bu (aA (t:=en v) (u:=eS P) (aA (t:=.tup [en v,en w,x,y]) (u:=.int 0) rfl rfl (cI (n:=0) rfl)) rfl (tf v P))
  have a1:tb (o2 cF (o2 aP (vr 13) (cn (.int 1))) (vr 10)) (EW ns cs ls os ks s5 s6 s7 s8 s9 (.va (eS P)) s11 s12 (.va (.tup [en v,en w,x,y])) s14)= .ok (!decide (w∈P)):=bu (aA (t:=en w) (u:=eS P) (aA (t:=.tup [en v,en w,x,y]) (u:=.int 1) rfl rfl (cI (n:=1) rfl)) rfl (tf w P))
  by_cases hv:v∈P
  ·rw[decide_eq_true hv]at a0
   by_cases hw:w∈P
   ·rw[decide_eq_true hw]at a1
    have st:W15 (EW ns cs ls os ks s5 s6 s7 s8 s9 (.va (eS P)) s11 s12 (.va (.tup [en v,en w,x,y])) s14)= .ok (.nx (EW ns cs ls os ks s5 s6 s7 s8 s9 (.va (eS P)) s11 s12 (.va (.tup [en v,en w,x,y])) s14)):=(cJ (gJ a0 a1)).trans rfl
    have hl:aZ cs (.tup [en v,en w,x,y])=true:=by
     show(cY x y&&(aU cs (en v)&&(aU cs (en w)&& !aT (en v) (en w))))=true
     rw[h1,R.ev hv,R.ev hw,h2];rfl
    rcases R.l15 s5 s6 s7 s8 s9 s11 s12 s14 l (.va (.tup [en v,en w,x,y])) λu hu=>h u (Ia _ hu)with⟨z,s13',ih⟩ | ih
    ·refine .inl ⟨λt ht=> ?_,s13',by rw[e9 g st];exact ih⟩
     rcases Ij.mp ht with rfl | ht
     ·exact hl
     ·exact z t ht
    ·exact .inr (by rw[e9 g st];exact ih)
   ·rw[decide_eq_false hw]at a1
    exact .inr (my g ((fK (gJ a0 a1)).trans rfl))
  ·rw[decide_eq_false hv]at a0
   exact .inr (my g ((fK (zv a0)).trans rfl))
theorem Rd.e17 (R:Rd cs ls L P)(n:NoNeg L){M:bw N2}(S:Rd cs os M P)(s5 s6 s7 s8 s9 s10 s11 s12 s13 s14:Sl):((aC (cu (bS (cl aW (ae (vr 2) ai)) (o2 oJ (cl bq (ae (vr 2) ai)) (cl bq (ae (vr 1) ai)))) (gN 14)) (aK (bS (o2 oJ (cl aw (ae (vr 1) (ae (vr 2) ai))) (vr 14)) (o2 oJ (cl aw (ae (vr 2) (ae (vr 1) ai))) (vr 14)))))) (EW ns cs ls os ks s5 s6 s7 s8 s9 s10 s11 s12 s13 s14)= .ok (.rt (.bl true)):=by
 obtain⟨h2,e2,i2⟩:=S.Hm
 have F:=aM R.f.ends n
 obtain⟨b,eb,hb1⟩:∃b,(bS (cl aW (ae (vr 2) ai)) (o2 oJ (cl bq (ae (vr 2) ai)) (cl bq (ae (vr 1) ai)))) (EW ns cs ls os ks s5 s6 s7 s8 s9 s10 s11 s12 s13 s14)= .ok (.bl b)/\(b=true↔lY P L=lY P M):=by
  cases h2 with
  | false=>
   refine⟨false,vV (aJ (ts:=[RR cs os]) rfl e2),λz=>(by cases z),λz=> ?_⟩
   have m:¬ NoNeg M:=λy=>by have:=i2.mpr y;cases this
   rw[jW n,gk m]at z;cases z
  | true=>
   have m:=i2.mp rfl
   have G:=aM S.f.ends m;refine⟨aT (ft P (table P M)) (ft P (table P L)),(n8 (aJ (ts:=[RR cs os]) rfl e2)).trans (aA (t:=ft P (table P M)) (u:=ft P (table P L)) (aJ (ts:=[RR cs os]) rfl (S.Hl m G)) (aJ (ts:=[RR cs ls]) rfl (R.Hl n F)) (zR _ _ _)),?_⟩
   rw[wz,jH R.f.ends S.f.ends n m F G];exact⟨λh u hu v hv=>(h u hu v hv).symm,λh u hu v hv=>(h u hu v hv).symm⟩
 have c1:aw [RR cs ls,RR cs os] = .ok (.bl b):=by
  rw[R.Gc S]
  congr 2
  exact M6.mpr (smB_iff.trans hb1.symm)
 have c2:aw [RR cs os,RR cs ls] = .ok (.bl b):=by
  rw[S.Gc R]
  congr 2
  exact M6.mpr (smB_iff.trans ⟨λh=>hb1.mpr h.symm,λh=>(hb1.mp h).symm⟩)
 refine(az (Z':=EW ns cs ls os ks s5 s6 s7 s8 s9 s10 s11 s12 s13 (.va (.bl b))) (bL eb rfl)).trans ?_
 exact bQ ((n8 (aA (t:=.bl b) (u:=.bl b) (aJ (ts:=[RR cs ls,RR cs os]) rfl c1) rfl (rL rfl (by simp[T.dep])))).trans (aA (t:=.bl b) (u:=.bl b) (aJ (ts:=[RR cs os,RR cs ls]) rfl c2) rfl (rL rfl (by simp[T.dep]))))
theorem CU (hn:ns.length<=63):fm [.scr ns] = .ok (.bl true):=by
 obtain⟨cs,ls,er,hc,c3,hs,hl,h5⟩:=zZ ns hn 0 5 (by omega)
 obtain⟨hR,mR⟩:=C0 hc hs hl (by omega)
 have g:Good cs ls:=⟨hc,λt ht=>(hl t ht).1,by omega,CV mR⟩
 obtain⟨L,P,R⟩:=pE g;obtain⟨cs2,ls2,er2,hc',_,hs2,hl2,_⟩:=zZ ns hn 100 5 (by omega)
 obtain⟨os,ho⟩:∃os,os=ls2.take 2:=⟨_,rfl⟩
 have ol:∀u∈os,aZ cs2 u=true/\u.pl=true:=λu hu=>by rw[ho]at hu;have:=hl2 u (J1 hu);exact⟨this.1,yk u this.2⟩
 have rv:ls.reverse.length<=8:=by rw[LW];omega
 have gr:Good cs ls.reverse:=R.g.sub (λu hu=>OK.mp hu) rv
 have s1:aw [RR cs ls,RR cs ls.reverse] = .ok (.bl true):=by
  obtain⟨b,e,i⟩:=R.G6 R.g gr;rw[e,i.mpr (R.G0 (by omega) rv (λu hu=>hu) λu=>OK.symm)]
 have s2:aw [RR cs ls,RR cs ls] = .ok (.bl true):=by rw[R.Gc R,EZ]
 refine bz rfl ?_
 show gA [.va (.scr ns),.em,.em,.em,.em,.em,.em,.em,.em,.em,.em,.em,.em,.em,.em] =_
 unfold gA;obtain⟨h,hw,iff⟩:=R.Hm
 cases h with
 | false=>
  have nn:¬ NoNeg L:=λz=>by have:=iff.mpr z;cases this
  refine(az (Z':=[.va (.scr ns),.va (RR cs ls),.em,.em,.em,.em,.em,.em,.em,.em,.em,.em,.em,.em,.em]) (bL (aJ (ts:=[.scr ns,.int 0,.int 5]) rfl er) rfl)).trans ?_
  refine(az (Z':=[.va (.scr ns),.va (RR cs ls),.va (RR cs os),.em,.em,.em,.em,.em,.em,.em,.em,.em,.em,.em,.em]) (bL (p2 (aA (t:=RR cs ls) (u:=.int 0) rfl rfl (cI (n:=0) rfl)) ((zr (lo:=none) (hi:=(some 2)) (aA (t:=RR cs2 ls2) (u:=.int 1) (aJ (ts:=[.scr ns,.int 100,.int 5]) rfl er2) rfl (cI (n:=1) rfl)) rfl (tR rfl)).trans (by rw[show(2:Int)=((2:Nat):Int)from rfl,i8];exact congrArg (λl=>Rs.ok (T.tup l)) ho.symm))) rfl)).trans ?_
  refine(az (Z':=[.va (.scr ns),.va (RR cs ls),.va (RR cs os),.va (RR cs ls.reverse),.em,.em,.em,.em,.em,.em,.em,.em,.em,.em,.em]) (bL (p2 (aA (t:=RR cs ls) (u:=.int 0) rfl rfl (cI (n:=0) rfl)) (xu (t:=.tup ls) (aA (t:=RR cs ls) (u:=.int 1) rfl rfl (cI (n:=1) rfl)) (show wW (.tup ls)= .ok (.tup ls.reverse)from rfl))) rfl)).trans ?_
  refine(az (Z':=[.va (.scr ns),.va (RR cs ls),.va (RR cs os),.va (RR cs ls.reverse),.em,.em,.em,.em,.em,.em,.em,.em,.em,.em,.em]) ((cJ (gJ (d7 (k:=true) (bu (aJ (ts:=[RR cs ls,RR cs ls.reverse]) rfl s1))) (d7 (k:=true) (bu (aJ (ts:=[RR cs ls,RR cs ls]) rfl s2))))).trans rfl)).trans ?_
  have i1:∀{Z:En},vr 1 Z= .ok (RR cs ls)->o2 aP (vr 1) (cn (.int 1)) Z= .ok (.tup ls):=λh=>aA (t:=RR cs ls) (u:=.int 1) h rfl (cI (n:=1) rfl)
  have sub:∀v∈ls++ls.take 1,v∈ls:=λv hv=>(IB.mp hv).elim id J1
  have lsum:(ls++ls.take 1).length<=8:=by rw[Ih,Jb];omega
  have sm:aw [RR cs ls,RR cs (ls++ls.take 1)] = .ok (.bl true):=by
   obtain⟨b,e,i⟩:=R.G6 R.g (R.g.sub sub lsum);rw[e,i.mpr (R.G0 (by omega) lsum (λu hu=>hu) λu=>⟨λh=>Ja _ h,sub u⟩)]
  exact gq ((fK (d7 (k:=false) (bu (aJ (ts:=[RR cs ls]) rfl hw)))).trans (bQ (aJ (ts:=[RR cs ls,RR cs (ls++ls.take 1)]) (au rfl (au (p2 (aA (t:=RR cs ls) (u:=.int 0) rfl rfl (cI (n:=0) rfl)) (aA (t:=.tup ls) (u:=.tup (ls.take 1)) (i1 rfl) (by rw[zr (l:=ls) (lo:=none) (hi:=some ((1:Nat):Int)) (i1 rfl) rfl rfl,i8]) (mG _ _ (by rw[Ih,Jb];omega)))) rfl)) sm)))
 | true=>
  have n:NoNeg L:=iff.mp rfl
  have F:=aM R.f.ends n;obtain⟨ks,el,F4⟩:=R.Ho n
  have kl:ks.length<=8:=by have:=F4.len;omega
  have S:=R.sub F4.sub kl
  have key0:key P cs ks=key P cs ls:=by have:=F4.same;rwa [Ny,JX]at this
  have nk:NoNeg (lim cs ks):=n.mono λx hx=>by have:=ju F4.sub x hx;rwa [R.GU]at this
  have s3:aw [RR cs ls,RR cs ks] = .ok (.bl true):=by
   obtain⟨b,e,i⟩:=R.G6 R.g S.g;rw[e,i.mpr key0.symm]
  have s4:aN [RR cs ks] = .ok (.lst []):=by
   rw[S.GX nk]
   have:(Iw ks.length).filter (uS P cs ks)= []:=List.filter_eq_nil_iff.mpr λk hk=>by rw[Few.none R F4 k (Ji.mp hk)];decide
   rw[this];rfl
  have s6:=R.Hl n F
  have s5:bq [RR cs ks] = .ok (ft P (table P L)):=by
   rw[S.Hl nk (aM S.f.ends nk)]
   have z:lY P (lim cs ks)=lY P L:=by have:=key0;unfold key at this;rwa [R.GU]at this
   have z2:=(jH S.f.ends R.f.ends nk n (aM S.f.ends nk) F).mp z
   congr 1
   unfold ft jY
   congr 1
   exact Ju λu hu=>by congr 1;exact Ju λv hv=>by rw[z2 u hu v hv]
  have ne_cs:jQ (.tup cs) (.tup cs)= .ok (.bl false):=gd R.g.parts.1 (IQ (AK R.g).1 (by decide))
  obtain⟨dd,ed,_,_⟩:=di ns 190 9 hn (by omega)
  obtain⟨r1,a,ha,d1,i1⟩:=R.pick hn 200;obtain⟨r2,c,hc2,d2,i2⟩:=R.pick hn 201
  have s9:=λ{Z:En} (h:vr 1 Z= .ok (RR cs ls))=>R.s9 n h5 h
  refine(az (Z':=[.va (.scr ns),.va (RR cs ls),.em,.em,.em,.em,.em,.em,.em,.em,.em,.em,.em,.em,.em]) (bL (aJ (ts:=[.scr ns,.int 0,.int 5]) rfl er) rfl)).trans ?_
  refine(az (Z':=[.va (.scr ns),.va (RR cs ls),.va (RR cs os),.em,.em,.em,.em,.em,.em,.em,.em,.em,.em,.em,.em]) (bL (p2 (aA (t:=RR cs ls) (u:=.int 0) rfl rfl (cI (n:=0) rfl)) ((zr (lo:=none) (hi:=(some 2)) (aA (t:=RR cs2 ls2) (u:=.int 1) (aJ (ts:=[.scr ns,.int 100,.int 5]) rfl er2) rfl (cI (n:=1) rfl)) rfl (tR rfl)).trans (by rw[show(2:Int)=((2:Nat):Int)from rfl,i8];exact congrArg (λl=>Rs.ok (T.tup l)) ho.symm))) rfl)).trans ?_
  refine(az (Z':=[.va (.scr ns),.va (RR cs ls),.va (RR cs os),.va (RR cs ls.reverse),.em,.em,.em,.em,.em,.em,.em,.em,.em,.em,.em]) (bL (p2 (aA (t:=RR cs ls) (u:=.int 0) rfl rfl (cI (n:=0) rfl)) (xu (t:=.tup ls) (aA (t:=RR cs ls) (u:=.int 1) rfl rfl (cI (n:=1) rfl)) (show wW (.tup ls)= .ok (.tup ls.reverse)from rfl))) rfl)).trans ?_
  refine(az (Z':=[.va (.scr ns),.va (RR cs ls),.va (RR cs os),.va (RR cs ls.reverse),.em,.em,.em,.em,.em,.em,.em,.em,.em,.em,.em]) ((cJ (gJ (d7 (k:=true) (bu (aJ (ts:=[RR cs ls,RR cs ls.reverse]) rfl s1))) (d7 (k:=true) (bu (aJ (ts:=[RR cs ls,RR cs ls]) rfl s2))))).trans rfl)).trans ?_
  refine(az (Z':=[.va (.scr ns),.va (RR cs ls),.va (RR cs os),.va (RR cs ls.reverse),.em,.em,.em,.em,.em,.em,.em,.em,.em,.em,.em]) ((cJ (d7 (k:=true) (bu (aJ (ts:=[RR cs ls]) rfl hw)))).trans rfl)).trans ?_
  refine(az (Z':=(EW ns cs ls os ks .em .em .em .em .em .em .em .em .em .em)) (bL (aJ (ts:=[RR cs ls]) rfl el) rfl)).trans ?_
  refine(az (Z':=(EW ns cs ls os ks .em .em .em .em .em .em .em .em .em .em)) ((cJ (gJ (d7 (k:=true) (bu (aJ (ts:=[RR cs ls,RR cs ks]) rfl s3))) (gJ (bu (aA (t:=.lst []) (u:=.lst []) (aJ (ts:=[RR cs ks]) rfl s4) (ie rfl (ax (k:=0) (by simp))) (gd rfl (by simp[T.dep,deps])))) (bu (aA (t:=ft P (table P L)) (u:=ft P (table P L)) (aJ (ts:=[RR cs ks]) rfl s5) (aJ (ts:=[RR cs ls]) rfl s6) (gd (uH _ _) (wm _ _))))))).trans rfl)).trans ?_
  refine(az (Z':=(EW ns cs ls os ks .em .em .em .em .em .em .em .em .em .em)) ((cJ (gJ (bu (aA (t:=.lst []) (u:=.lst []) (lc7 R F4.sub rfl rfl F4.len) (ie rfl (ax (k:=0) (by simp))) (gd rfl (by simp[T.dep,deps])))) (bu (aA (t:=.tup cs) (u:=.tup cs) (aA (t:=RR cs ks) (u:=.int 0) rfl rfl (cI (n:=0) rfl)) (aA (t:=RR cs ls) (u:=.int 0) rfl rfl (cI (n:=0) rfl)) ne_cs)))).trans rfl)).trans ?_
  obtain⟨Z',lo,b5,b6,b7,b8,b9,rfl⟩:=xm (g:=(gT 2 (lC (gN 5) (lC (gT 3 (lC (gN 6) (lC (gN 7) (lC (gN 8) vZ)))) vZ)))) (F:=W8) (λZ=> ∃b5 b6 b7 b8 b9,Z=(EW ns cs ls os ks b5 b6 b7 b8 b9 .em .em .em .em .em)) (ts:=jF (jF (bB 0 (L.map eB)) (some dd) none) none (some 4))
   (λu hu Z hh=>by
    obtain⟨b5,b6,b7,b8,b9,rfl⟩:=hh;obtain⟨k,v,e1,rfl⟩:=kW (vK (vK hu));obtain⟨x0,e2,rfl⟩:=EA e1;obtain⟨a9,st⟩:=R.w8 (ns:=ns) (os:=os) (ks:=ks) n F e2 b9 .em .em .em .em .em;exact⟨_,_,rfl,st,_,_,_,_,_,rfl⟩) (Z:=(EW ns cs ls os ks .em .em .em .em .em .em .em .em .em .em)) ⟨_,_,_,_,_,rfl⟩
  refine(az (Z':=(EW ns cs ls os ks b5 b6 b7 b8 b9 .em .em .em .em .em)) (gK (iX (tQ (lo:=none) (hi:=some 4) (tQ (lo:=some dd) (hi:=none) (aJ (ts:=[eL L]) (au (aJ (ts:=[RR cs ls]) rfl R.bounds) rfl) (BD R.ll)) (tR (aJ (ts:=[.scr ns,.int 190,.int 9]) rfl ed)) rfl) rfl (tR rfl))) lo)).trans ?_
  refine(az (Z':=(EW ns cs ls os ks b5 b6 b7 b8 b9 .em .em .em .em .em)) (s9 rfl)).trans ?_
  refine(az (Z':=(EW ns cs ls os ks b5 b6 b7 b8 b9 (.va (eS P)) .em .em .em .em)) (bL (aJ (ts:=[RR cs ls]) rfl R.events) rfl)).trans ?_
  refine(az (Z':=(EW ns cs ls os ks b5 (.va (en a)) b7 b8 b9 (.va (eS P)) .em .em .em .em)) (bL (aA (t:=eS P) (u:=.int r1) rfl (aJ (ts:=[.scr ns,.int 200,.int (P.length:Nat)]) (au rfl (au rfl (au (aJ (ts:=[eS P]) rfl (by show Rs.ok (T.int ((P.map en).length:Nat))=_;rw[Ig])) rfl))) d1) i1) rfl)).trans ?_
  refine(az (Z':=(EW ns cs ls os ks b5 (.va (en a)) (.va (en c)) b8 b9 (.va (eS P)) .em .em .em .em)) (bL (aA (t:=eS P) (u:=.int r2) rfl (aJ (ts:=[.scr ns,.int 201,.int (P.length:Nat)]) (au rfl (au rfl (au (aJ (ts:=[eS P]) rfl (by show Rs.ok (T.int ((P.map en).length:Nat))=_;rw[Ig])) rfl))) d2) i2) rfl)).trans ?_
  refine(az (Z':=(EW ns cs ls os ks b5 (.va (en a)) (.va (en c)) b8 b9 (.va (eS P)) (.va (EF (table P L c a))) .em .em .em)) (bL (aJ (ts:=[RR cs ls,en a,en c]) rfl (R.HI n F ha hc2)) rfl)).trans ?_
  obtain⟨a12,s14⟩:=R.w14 (ns:=ns) (os:=os) (ks:=ks) n F h5 ha hc2 b5 b8 b9 (.va (eS P)) .em .em .em;refine(az (Z':=(EW ns cs ls os ks b5 (.va (en a)) (.va (en c)) b8 b9 (.va (eS P)) (.va (EF (table P L c a))) a12 .em .em)) s14).trans ?_
  have pl15:∀u∈os,aZ cs2 u=true:=λu hu=>(ol u hu).1
  rcases R.l15 (ns:=ns) (os:=os) (ks:=ks) (cs2:=cs2) b5 (.va (en a)) (.va (en c)) b8 b9 (.va (EF (table P L c a))) a12 .em os .em pl15 with⟨lo15,s13,e15⟩ | e15
  ·have go:Good cs os:=⟨R.g.c,lo15,by rw[ho,Jb];omega,mn R.g.parts.1 (by rw[eE];exact gp λu hu=>(ol u hu).2)⟩
   refine(az (gK (ts:=os) (BH (aA (t:=RR cs os) (u:=.int 1) rfl rfl (cI (n:=1) rfl))) e15)).trans ?_
   exact R.e17 n (R.to go) _ _ _ _ _ _ _ _ _ _
  ·exact gq (gK (ts:=os) (BH (aA (t:=RR cs os) (u:=.int 1) rfl rfl (cI (n:=1) rfl))) e15)
theorem pure_law (ns:List Int)(hn:ns.length<=63):m_law [.scr ns] = .ok (.bl true):=bz rfl (bQ ((n8 (by show(match cz []with | .ok t=>Rs.ok t | _=> .bad)=_;rw[BX])).trans (aJ (ts:=[.scr ns]) rfl (CU hn))))
end
end G
end
lay_quick G.lhs G.rhs
name_quick lhsz for G.lhs by G.lhs_r
name_quick rhsz for G.rhs by G.rhs_r
open PySem PySem.W PyProof.Rows
set_option maxRecDepth 100000 in
set_option maxHeartbeats 0 in
theorem G.HM (w : JA) (os : OsState) : PySem.W.Fast.lhsz w (boot_heap w.params) boot_drawn boot_toks os = PySem.W.Fast.rhsz w := by kernel_rfl
set_option maxRecDepth 100000 in
set_option maxHeartbeats 0 in
theorem PySem.Challenge.cw_farclocks_k51_whole_needs_holds : PySem.Challenge.rw_farclocks_k51_whole_needs.Holds := by
  w_on; o_law
  refine holds_open (q := G.vw) (loose := G.lse) (Xt := λ_ => true) (XP := λ_ _ => True) (Yf := (Tr.hookK G.asks G.top).obs) (Ya := (Tr.hookK G.asks G.top).val) (YP := (Tr.hookK G.asks G.top).says) (N := 9000) (Tr.left_of (by rfl) (by rfl) (λ_ => rfl) λw os => ?hl) (Tr.hookK G.asks G.top).of (Tr.hookK G.asks G.top).keeps (λ_ _ => trivial) (λ_ _ _ _ _ => trivial) (by rfl) (by rfl) (by rfl) (λs _ => recFacts_of (s := s) rfl) (by rfl) (by assumption) (by decide +kernel) ⟨rfl, rfl, rfl, rfl, rfl, by decide +kernel⟩ ?hw ?hc
  case hl => exact ((congrFun (congrFun (congrFun (congrFun (congrFun PySem.W.Fast.lhsz_eq w) _) _) _) os).trans (G.HM w os)).trans (congrFun PySem.W.Fast.rhsz_eq w).symm
  case hw => w_witness2
  case hc => exact Tr.walk_k (n := 63) (k := 17) (x := "_law_script") (CX := L2.CX0) (sp := λK => Tr.spP K 1 G.m_law) rfl (by decide) rfl ⟨rfl, by decide, by decide⟩ (λw K mg fa h X e g hf => G.all_ok X e g hf) (λK H a ns hl _ hS => Tr.sp_script hS (G.pure_law ns hl)) λ_ _ _ _ z => z
