import PyProof.Rows.All
import Wide.All
import OpenK.AllK
import Wide.FinOn
import Lean
import PyProof.EqAt
import PyProof.EqKinds
import PyProof.TupleCall
import PyProof.ExcClass3
import PyProof.StationsW
import PyProof.ExcBaseAll.ValueError
import PyProof.ExcArgsOwn
import PyProof.IsiBase
import PyProof.IsiH_tuple
import PyProof.ExcAttrAll.ValueError
import PyProof.Rows.RuleN_isinstance
import PyProof.MeetsSeq
import PyProof.RulesAs
import PyProof.IsiH_list
import PyProof.AttrMiss
import KE.KDictOf
import PyProof.Rows.SumAny
import PyProof.Rows.MinMaxN
import PyProof.Rows.SortShellK
import PyProof.Rows.SortWalk
import PyProof.ZipIter
import PyProof.WalksMore
import PyProof.DictWalks
import PyProof.AutoSeq1
import PyProof.Rows.Range3
import PyProof.CollectWalk
import KE.KSortTup
import PyProof.EnumMake
import PyProof.ListRange
import PySem.Challenge.RW_farclocks_k85_whole_back
noncomputable section
open PySem.Challenge renaming pw_farclocks_k85_whole_back→Kf,rw_farclocks_k85_whole_back→Nh
open PySem.AutoListH renaming list___mul___list_int_3→Oy
open PyProof.Rows renaming slot_tuple_getitem→Kd,callWith_builtin1→Mh,callWith_type1→Kl,subscriptTail_builtinR→NC,entry_tuple_getitem→Os,args_tuple_getitem→OQ,tupleItemsOf_→OR,subscriptTail→OS,IntsAre→MH,AllBare→Nm,IsTup→P9
open PySem.F renaming args_tuple_iterator_next_1→Mv,entry_tuple_iterator_next→MC,slot_tuple_iterator_next→K5,excBase_ValueError→ML,slot_list_getattribute→Lk,args_tuple_add_2→LL,slot_list_append→LN,type_list_append→LP,plainAttrs_list→Ky,entry_tuple_add→LS,args_dict_get_2→Nc,slot_tuple_add→L5,entry_dict_get→Nu,slot_dict_get→Mi,slot_enumerate_next→NM,args_int_rmul_2→OZ,slot_tuple_rmul→O5,slot_tuple_mul→Nq,slot_int_index→Pt,entry_int_rmul→Pu,slot_int_rmul→MB,fills_int_mul→PP
open List renaming dropLast_concat_getLast→Mw,getElem?_append_right→Kp,nodup_iff_pairwise_ne→MN,getElem?_eq_some_iff→Jt,getElem?_append_left→JR,drop_eq_getElem_cons→Ks,getElem?_eq_getElem→Jv,getElem?_replicate→Kg,getElem?_cons_succ→KA,getElem?_set_self→JI,drop_eq_nil_of_le→L7,range_succ_eq_map→Nx,mem_append_right→JO,length_singleton→Kv,getElem?_eq_none→Lw,singleton_append→NJ,dropLast_eq_take→NP,take_append_drop→NQ,getElem?_reverse→NU,mem_cons_of_mem→Jk,getElem?_set_ne→JD,mem_of_getElem?→JT,mem_append_left→Kq,mem_of_mem_drop→Mu,mem_erase_of_ne→N8,mem_of_mem_take→N9,filterMap_cons→KI,replicate_succ→KM,map_congr_left→KN,getElem_of_mem→Lp,length_pos_iff→ME,getElem?_range→Oj,drop_succ_cons→On,length_reverse→Oo,mem_cons_self→Jq,length_append→Js,mem_singleton→JG,contains_cons→LX,mem_filterMap→MR,getElem?_drop→OI,getElem?_map→JA,size_toArray→JB,append_assoc→Kj,nodup_append→Kw,flatten_cons→Li,length_range→Lj,flatMap_cons→M8,length_cons→Jp,all_eq_true→JP,length_take→J5,length_drop→J6,lookup_cons→J7,not_mem_nil→KD,getElem_mem→KZ,drop_length→LI,getElem_map→Nr,cons_append→Pw,filter_cons→Px,mem_flatMap→Pz,mem_reverse→PB,length_map→Jo,mem_append→JN,nodup_cons→JX,append_nil→JZ,length_set→Km,map_append→KB,find?_cons→Lx,of_mem_zip→LV,nil_append→MA,length_nil→MD,range_succ→NR,mem_filter→PL,forIn_cons→PQ,idxOf_cons→PU,replicate→JH,mem_range→KS,nodup_nil→Me,drop_drop→Ob,map_cons→Jm,mem_cons→Ju,sum_cons→K0,any_cons→Lq,mem_map→Kb,map_map→Mq,map_nil→NI,toArray→Pl,lookup→KJ,length→K3,range→J9,Nodup→KO,foldl→M6
open PySem.Builtin.Slice renaming slicePartIndex→PD,sliceApplied→MI,slicePlaces→La,sliceAdjust→LG
open Array renaming getElem?_eq_some_iff→KF,length_toList→Mz,find?_toList→Ox,toList→NH
open PySem renaming wpAny_newFunctionEnv_cells→LC,wpAny_binaryOp_repeat_ref→MY,wpAny_callSpecial?_slot→K1,wpAny_pyNext_list_item→Nz,wpAny_pyNext_range_end→NA,wpAny_pyIter_rangeiter→NB,wpAny_Call_method_late→ND,codeAny_call_function→Mr,wpAny_pyNext_list_end→NV,wpAny_isTrue_Compare1→N0,builtinLookup_eq_fast→N1,mem_of_lookup→K4,wpAny_isSubtype_exc→Ou,wpAny_Call_Name_kw→KC,wpAny_pyIter_tuple→L1,tupleKind_room_in1→L4,wpAny_pyIter_range→OL,wpAny_List_spliced→OM,foldedSetIterable→Ke,wpAny_truthy_bool→Kx,wpAny_newObj_type→KQ,wpAny_pyIter_list→Nb,wpAny_assign_Name→O7,wpAny_sequenceKey→O8,wpAny_pyIter_enum→Pb,wpAny_loadPart_at→Pc,wpAny_call_entry→LJ,noFill_tuple_add→Nt,seqSlot_of→Pv,wpAny_execs_cons→PC,wpAny_loadPart'→Lm,wpAny_execs_nil→LZ,letOwnedTupleGo→L0,pushCells_keeps→NZ,wpAny_passesOwn→PX,typeLookup_type→P4,codeAny_builtin→P5,importedModules→P6,wpAny_seqItems→Oc,wpAny_setField→Od,attributeBase→JM,behindInMarks→L3,wpAny_holding→Nn,swapsWithSole→OJ,swappedStores→OK,seq_tuple_add→ON,bootBuiltins→Kc,codeAny_mono→LR,wpAny_typeOf→MV,Within→Pe,codeAny_func→Po,concat_meets→Pp,mainGlobals→JV,wpAny_field→Lf,keywordEach→Lz,excClassObj→LK,sliceBounds→Mc,sizeLine_eq→MF,IsRangeIter→Oq,subscripted→Ot,wpAny_bind→Jn,wpAny_pure→Jz,assignEach→KP,wpAny_mono→K7,sysModules→LB,call_meets→Md,builtinsNs→Na,wpAny_call→N4,typeIs_int→N5,typeLookup→O9,wpAny_rule→Pa,swapsWith→J4,compareOp→Kh,cellsFrom→Ll,getMethod→MG,tupleKind→M9,Arguments→NX,pushCells→NY,noteFrame→P3,starEach→Jy,FuncData→Ki,boot_len→KU,binaryOp→KY,NameKind→LA,backToKw→MW,callWith→OU,bindArgs→PF,Program→JK,BindsTo→NW,Keyword→PZ,Shared→Jl,Around→J0,IsPart→OP,Result→PY,Paired→P8,Value→Ji,World→Kn,Scope→Ma,CmpOp→P7
open PySem.Builtin.Tuple renaming tupleItemsOf→MJ,tupleIsExact→MK,tupleExact→KW
open PySem.Calls renaming Name_function_global→MM,callWith_builtin→Ls,evalArgs_plain→LF,spliced_cons→LU,Constant_str→Ov,spliced_nil→L8
open PySem.Builtin.SmallTypes renaming nextOf→Lb
open PySem.Builtin.List renaming listTooLong→Lg
open Int renaming eq_ofNat_of_zero_le→JL,emod_lt_of_pos→MU,toNat_natCast→KL,emod_nonneg→NT,le_refl→PV
open PySem.Builtin.Range renaming rangeSize→Lo,small→Of
open PySem.Builtin.Dict renaming updateFrom→Nd
open PySem.Heap renaming get?_push_of_some→Jr,get?_update_other→L6,get?_update_self→NK,get?_push_size→JF,NewAttrErr→PR,size_push→Lc,lt_size→Jx,SameBut→Mo
open PySem.W renaming cellsFrom_some→Lr,methodCall_KW→Mj,hideAll_none→Mt,hideAll_get→Ln,plainGet_of→My,callWith_K0→Og,callWith_K→Lu,of_hideAll→MO,codeRec_of→MP,emptyDict→Kt,methodObj→MZ,hasDictIn→M0,plainOver→OV,kitx_list→OW,kitx_dict→OY,plainGet→Ms,handedIn→Pq,kia_one→Kr,instObj→K2,hideAll→NF,takerIn→NG,makesIn→PH,findIn→KR,keepIn→K9,lookIn→MX,codeIn→Oa,mg_of→Ng,Frag→Jh,nsIn→LM,fnOf→Mg,isFn→Pd
open PyProof renaming noPylong_small→Nv
open Option renaming map_eq_some_iff→Ny,isSome_some→OA,getD_none→Pr,some→J8
open PySem.Obj renaming isFreed_of_fields→NL,data_mapFields→LW,mapFields→OD
open Bool renaming and_eq_false_iff→NS,and_eq_true_iff→Kk,or_eq_false_iff→N7,false_ne_true→JJ,false_eq_true→Oz,not_eq_true'→O6,and_eq_true→Jj,or_eq_true→NN,true_and→Nl,false_or→OB
open PySem.Around renaming under_plainId→N6,units→MT,under→Pf
open PySem.Heap.SameBut renaming update→Oe
open Nat renaming lt_of_lt_of_le→JE,lt_of_le_of_lt→OH,le_of_succ_le→M7,lt_succ_of_lt→O0,lt_succ_self→Np,mod_eq_of_lt→Py,lt_irrefl→JU,le_trans→J2,ne_of_lt→Ku,le_of_lt→LQ,le_of_eq→Mp,ne_of_gt→MQ,sub_self→MS,sub_zero→NO,add_comm→Ph,mul_comm→Pj,le_refl→Jw,zero_le→Ld
open Option.some renaming injEq→M5,inj→JW
open ForInStep renaming yield→Lv
open PySem.Expr renaming Attribute→LH,Subscript→Mf,Constant→Nj,ListComp→OG,Compare→Pm,UnaryOp→Pn,BoolOp→Le,Name→J3,Call→K8
open PySem.NameKind renaming free→J1,cell→Kz
open Prod.mk renaming injEq→Nf,inj→PJ
open PySem.Paired renaming length→Ni
open PySem.Str renaming ofString→JC
open PySem.Code renaming isFrame→Pg
open PySem.Stmt renaming Assign→Nk
open PySem.Scope renaming names→Ol
open PySem.Pos renaming endLine→Om,line→LY
open PySem.Value renaming float→PK,none→JY,bool→Ko,type→Mx,ref→JQ,int→KG,str→KH
open PySem.Data renaming fields→PM
open False renaming elim→K6
open True renaming intro→Lh
open PySem.BoolOp renaming And→N3,Or→OF
open PySem.Env renaming scope→Ly
open PyProof.Rows.IsTup renaming new→PN
open Ne renaming symm→LD
open Iff renaming rfl→L9
open Sum renaming inl→Oh,inr→Oi
open Prod renaming mk→O4
open Or renaming inr→JS,inl→Ka
set_option Elab.async false
set_option linter.all false
set_option maxRecDepth 100000
set_option maxHeartbeats 8000000
noncomputable section
abbrev eF (x:PySem.Str):Prop:=(x == PySem.Str.ofString "__debug__")=false
namespace L2
open PySem PySem.Spec PyProof.Rows
abbrev Key:=Sum Int Str
def pk:Key->Ji->Bool
 | .inl k,v=>Value.isInt k v
 | .inr x,v=>Value.isStrOf x v
def keyH (w:Kn):Key->Int
 | .inl k=>hashInt k
 | .inr x=>hashStr w x
theorem cf:∀{k:Key} {v:Ji},pk k v=true->(∃i t,k=Oh i/\v=KG i t)\/(∃x t,k=Oi x/\v=KH x t)
 | .inl i,v,h=>by
  obtain⟨t,e⟩:=Value.isInt_shape (k:=i) (v:=v) h
  exact .inl ⟨i,t,rfl,e⟩
 | .inr x,v,h=>by
  obtain⟨t,e⟩:=Value.isStrOf_shape (x:=x) (v:=v) h;exact .inr ⟨x,t,rfl,e⟩
theorem xR (i:Int)(t:Tok):pk (.inl i) (.int i t)=true:=by simp[pk,Value.isInt]
theorem xQ (x:Str)(t:Tok):pk (.inr x) (.str x t)=true:=by simp[pk,Value.isStrOf]
theorem EW (a b:Int):decide ((Oh a:Key)=Oh b)=(a == b):=by
 by_cases e:a=b
 ·subst e;simp
 ·have h:¬ (Oh a:Key)=Oh b:=λq=>e (Oh.inj q)
  rw[decide_eq_false h];exact(beq_eq_false_iff_ne.mpr e).symm
theorem ET (a b:Str):decide ((Oi a:Key)=Oi b)=decide (a=b):=by
 by_cases e:a=b
 ·subst e;simp
 ·have h:¬ (Oi a:Key)=Oi b:=λq=>e (Oi.inj q)
  rw[decide_eq_false h,decide_eq_false e]
theorem EV (a:Int)(b:Str):decide ((Oh a:Key)=Oi b)=false:=decide_eq_false (λq=>nomatch q)
theorem EU (a:Str)(b:Int):decide ((Oi a:Key)=Oh b)=false:=decide_eq_false (λq=>nomatch q)
def cq (prog:JK)(w:Kn):PySem.KeyKind prog w Key where
 is:=pk
 hash:=keyH w
 inj:=λv a b ha hb=>by
  rcases cf ha with⟨i,t,rfl,rfl⟩ | ⟨x,t,rfl,rfl⟩
  ·rcases cf hb with⟨j,u,rfl,e⟩ | ⟨y,u,rfl,e⟩
   ·injection e with e1 _;rw[e1]
   ·exact nomatch e
  ·rcases cf hb with⟨j,u,rfl,e⟩ | ⟨y,u,rfl,e⟩
   ·exact nomatch e
   ·injection e with e1 _;rw[e1]
 byValue:=λk v h=>by
  rcases cf h with⟨i,t,rfl,rfl⟩ | ⟨x,t,rfl,rfl⟩ <;> rfl
 pyHash:=λhv h=>by
  rcases cf hv with⟨i,t,rfl,rfl⟩ | ⟨x,t,rfl,rfl⟩
  ·exact wpAny_pyHash_int h
  ·exact wpAny_pyHash_str h
 eqBool:=λhu hv h=>by
  rcases cf hu with⟨i,t,rfl,rfl⟩ | ⟨x,t,rfl,rfl⟩
  ·rcases cf hv with⟨j,u,rfl,rfl⟩ | ⟨y,u,rfl,rfl⟩
   ·rw[EW]at h;exact wpAny_eqBool_int h
   ·rw[EV]at h;exact SeqAt.EqAt.int_str i t y u _ _ _ _ h
  ·rcases cf hv with⟨j,u,rfl,rfl⟩ | ⟨y,u,rfl,rfl⟩
   ·rw[EU]at h;exact SeqAt.EqAt.str_int x t j u _ _ _ _ h
   ·rw[ET]at h;exact wpAny_eqBool_str h
 «strs»:=λk x t v h=>by
  rcases cf h with⟨i,u,rfl,e⟩ | ⟨y,u,rfl,e⟩
  ·exact nomatch e
  ·injection e with e1 _
   subst e1;cases v <;> rfl
theorem sL (prog:JK)(w:Kn)(i:Int)(t:Tok):(cq prog w).is (.inl i) (.int i t)=true:=xR i t
theorem sJ (prog:JK)(w:Kn)(x:Str)(t:Tok):(cq prog w).is (.inr x) (.str x t)=true:=xQ x t
inductive V where
 | non | bl (b:Bool) | int (i:Int) | str (x:Str) | byt (b:Array UInt8) | flt (b:UInt64) | ref (a:Addr) | ty (n:String)
 deriving DecidableEq
def RelV:V->Ji->Prop
 | .non,u=>u=JY
 | .bl b,u=>u=Ko b
 | .int i,u=> ∃t,u=KG i t
 | .str x,u=> ∃t,u=KH x t
 | .byt b,u=> ∃t,u=Value.bytes b t
 | .flt b,u=> ∃t,u=PK b t
 | .ref a,u=>u=JQ a
 | .ty n,u=>u=Mx n
abbrev Vals:List V->List Ji->Prop:=P8 RelV
theorem Vals.length {xs:List V}{us:List Ji}(r:Vals xs us):xs.length=us.length:=Ni r
theorem Vals.get:∀{xs:List V} {us:List Ji} {i:Nat} {x:V},Vals xs us->xs[i]? =some x->∃u,us[i]? =some u/\RelV x u
 | _,_,_,_,.nil,e=>by simp at e
 | _,_,0,_,.cons r _,e=>by simp at e;subst e;exact⟨_,rfl,r⟩
 | _,_,i+1,x,.cons _ t,e=>by
  obtain⟨u,h1,h2⟩:=Vals.get (i:=i) (x:=x) t (by simpa using e)
  exact⟨u,by simpa using h1,h2⟩
theorem Vals.append:∀{xs ys:List V} {us ws:List Ji},Vals xs us->Vals ys ws->Vals (xs++ys) (us++ws)
 | _,_,_,_,.nil,s=>s
 | _,_,_,_,.cons r t,s=> .cons r (Vals.append t s)
theorem Vals.take:∀{xs:List V} {us:List Ji} (n:Nat),Vals xs us->Vals (xs.take n) (us.take n)
 | _,_,0,_=> .nil
 | _,_,_+1,.nil=> .nil
 | _,_,n+1,.cons r t=> .cons r (Vals.take n t)
theorem Vals.drop:∀{xs:List V} {us:List Ji} (n:Nat),Vals xs us->Vals (xs.drop n) (us.drop n)
 | _,_,0,r=>r
 | _,_,_+1,.nil=> .nil
 | _,_,n+1,.cons _ t=>Vals.drop n t
def RelO:Option V->Option Ji->Prop
 | some v,some u=>RelV v u
 | none,none=>True
 | _,_=>False
def KV {κ:Type}:List (κ×V)->List (κ×Ji)->Prop:=P8 λ(p:κ×V) (q:κ×Ji)=>p.1=q.1/\RelV p.2 q.2
def kV:Key->V
 | .inl i=> .int i
 | .inr x=> .str x
inductive HO where
 /-- a list -/
 | lst (xs:List V)
 /-- a tuple (never changes) -/
 | tup (xs:List V)
 /-- a dict whose keys are ints and texts;one whose keys are tuples of ints and texts (the empty one is both) -/
 | dK (kvs:List (Key×V)) | dT (kvs:List (List Key×V))
 /-- a set of ints: its members,its size -/
 | set (S:Int->Bool) (n:Nat)
 /-- an instance of the class at C,its dict at dx,its attributes -/
 | ins (C dx:Addr) (fs:List (Str×V))
 /-- the dict of the instance at x -/
 | own (x:Addr)
 /-- the dict of an exception -/
 | xd (fs:List (Str×V))
 /-- a bound method,f of x -/
 | met (f x:Addr)
 /-- a range object lo,lo+1,.. below hi -/
 | rng (lo hi:Int)
 /-- a thing that is known to the object (the script;a dict while a loop walks it): read,never written while it is so -/
 | frz (o:Obj) (u:HO)
 /-- a code object's table -/
 | tbl (ps:Array Ji)
 /-- any other thing,by what is true of its one object (a def of one's own: SetO a S n:=HO.ext λh=> ..) -/
 | ext (φ:Heap->Prop)
abbrev Hp:=Addr->Option HO
def upd (H:Hp)(a:Addr)(o:HO):Hp:=λb=>if b=a then some o else H b
theorem aQ {H:Hp}{a:Addr}{o:HO}:upd H a o a=some o:=by unfold upd;rw[if_pos rfl]
theorem aG {H:Hp}{a b:Addr}{o:HO}(h:b≠a):upd H a o b=H b:=by unfold upd;rw[if_neg h]
theorem pY {H:Hp}{a:Addr}{o u:HO}:upd (upd H a o) a u=upd H a u:=by
 funext b;unfold upd;split <;> rfl
theorem nr {H:Hp}{a b:Addr}{o u:HO}(h:H a=some o)(h':H b=some u)(d:o≠u):a≠b:=by
 intro e;subst e;rw[h]at h';exact d (JW h')
theorem bR {H:Hp}{a b:Addr}{o:HO}(h:H a=some o)(h':H b=none):a≠b:=by
 intro e;subst e;rw[h]at h';cases h'
section
variable (P:JK)(w:Kn)
def ObjOk (H:Hp)(h:Heap)(a:Addr):HO->Prop
 | .lst xs=>xs.length<=sizeLine/\∃(its:List Ji) (n:Nat),Vals xs its/\h.get? a=some { cls:=.type "list",data:=.seq its.toArray n }
 | .tup xs=>xs.length<=sizeLine/\∃its:List Ji,Vals xs its/\P9 h a its.toArray
 | .dK kvs=>kvs.length<=sizeLine/\(a == LB)=false/\∃vs,KV kvs vs/\h.DictOf (cq P w) a vs
 | .dT kvs=>kvs.length<=sizeLine/\(a == LB)=false/\∃xs:List (List Key×Addr×Ji),
   P8 (λ(p:List Key×V) (q:List Key×Addr×Ji)=>p.1=q.1/\H q.2.1=some (.tup (p.1.map kV))/\RelV p.2 q.2.2) kvs xs ∧
   ∃o es ep,h.get? a=some o/\o.ExactDict/\o.data= .dict es ep/\es.toList=xs.map (entryOfKey (M9 (cq P w)))/\(xs.map (·.1)).Nodup
 | .set S n=>h.SetOf (intKind P w) a S n
 | .ins C dx fs=>H dx=some (.own a)/\fs.length<=1000/\dx≠a/\h.get? a=some (K2 C dx) ∧
   ∃mA,h.Ns1 dx mA/\(∀f,RelO (fs.lookup f) (mA f))/\Pe mA (fs.map (·.1))
 | .own _=> ∃o,h.get? a=some o
 | .xd fs=> ∃mA,h.Ns1 a mA/\∀f,RelO (fs.lookup f) (mA f)
 | .rng lo hi=> ∃t u v,h.get? a=some { cls:=.type "range",data:=.fields #[.int lo t,.int hi u,.int 1 v] }
 | .frz o u=>h.get? a=some o/\ObjOk H h a u
 | .tbl ps=>h.get? a=some { cls:=.none,data:=.fields ps }
 | .met f x=>h.get? a=some (MZ (.ref f) (.ref x))
 | .ext φ=>φ h/\(∃o,h.get? a=some o)/\∀h1 h2:Heap,φ h1->(∀o,h1.get? a=some o->h2.get? a=some o)->φ h2
def HOk (H:Hp)(h:Heap):Prop:=∀a o,H a=some o->ObjOk P w H h a o
end
section
variable {P:JK}{w:Kn}{H H':Hp}{h h':Heap}{a:Addr}{o:HO}
theorem ObjOk.lt (x:ObjOk P w H h a o):a<h.objs.size:=by
 cases o with
 | lst xs=>obtain⟨_,_,_,_,e⟩:=x;exact Jx e
 | tup xs=>obtain⟨_,_,_,p⟩:=x;exact p.lt
 | dK kvs=>obtain⟨_,_,_,_,o,_,_,e,_⟩:=x;exact Jx e
 | dT kvs=>obtain⟨_,_,_,_,o,_,_,e,_⟩:=x;exact Jx e
 | set S n=>obtain⟨o,_,_,_,e,_⟩:=x;exact Jx e
 | ins C dx fs=>obtain⟨_,_,_,e,_⟩:=x;exact Jx e
 | own y=>obtain⟨_,e⟩:=x;exact Jx e
 | xd fs=>obtain⟨_,⟨_,_,_,e,_⟩,_⟩:=x;exact Jx e
 | rng lo hi=>obtain⟨_,_,_,e⟩:=x;exact Jx e
 | frz ob u=>obtain⟨e,_⟩:=x;exact Jx e
 | tbl ps=>exact Jx (show h.get? a=some _ from x)
 | met f y=>exact Jx (show h.get? a=some _ from x)
 | ext φ=>obtain⟨_,⟨_,e⟩,_⟩:=x;exact Jx e
theorem Paired.IS {α β:Type}{F G:α->β->Prop}:∀{l₁:List α} {l₂:List β},P8 F l₁ l₂->(∀a b,F a b->G a b)->P8 G l₁ l₂
 | _,_,.nil,_=> .nil
 | _,_,.cons r t,f=> .cons (f _ _ r) (Paired.IS t f)
theorem ObjOk.Iw (x:ObjOk P w H h a o)(k:∀b u,(b=a\/H b=some (.own a))->h.get? b=some u->h'.get? b=some u)
  (ho:∀b,H b=some (.own a)->H' b=some (.own a)) (ht:∀b xs,H b=some (.tup xs)->H' b=some (.tup xs)):ObjOk P w H' h' a o:=by
 induction o with
 | lst xs=>obtain⟨z,its,n,r,e⟩:=x;exact⟨z,its,n,r,k _ _ (.inl rfl) e⟩
 | tup xs=>obtain⟨z,its,r,ob,e,c⟩:=x;exact⟨z,its,r,ob,k _ _ (.inl rfl) e,c⟩
 | dK kvs=>obtain⟨z,y,vs,r,ob,es,ep,e,c⟩:=x;exact⟨z,y,vs,r,ob,es,ep,k _ _ (.inl rfl) e,c⟩
 | dT kvs=>
  obtain⟨z,y,xs,r,ob,es,ep,e,c⟩:=x
  exact⟨z,y,xs,Paired.IS r λp q z=>⟨z.1,ht _ _ z.2.1,z.2.2⟩,ob,es,ep,k _ _ (.inl rfl) e,c⟩
 | set S n=>obtain⟨ob,es,ep,t,e,c⟩:=x;exact⟨ob,es,ep,t,k _ _ (.inl rfl) e,c⟩
 | ins C dx fs=>
  obtain⟨d,z,ne,e,mA,⟨od,es,ep,e2,c⟩,r⟩:=x
  exact⟨ho _ d,z,ne,k _ _ (.inl rfl) e,mA,⟨od,es,ep,k _ _ (.inr d) e2,c⟩,r⟩
 | own y=>obtain⟨ob,e⟩:=x;exact⟨ob,k _ _ (.inl rfl) e⟩
 | xd fs=>obtain⟨mA,⟨od,es,ep,e,c⟩,r⟩:=x;exact⟨mA,⟨od,es,ep,k _ _ (.inl rfl) e,c⟩,r⟩
 | rng lo hi=>obtain⟨t,u,v,e⟩:=x;exact⟨t,u,v,k _ _ (.inl rfl) e⟩
 | frz ob u ih=>obtain⟨e,q⟩:=x;exact⟨k _ _ (.inl rfl) e,ih q⟩
 | tbl ps=>
  have e:h.get? a=some { cls:=.none,data:=.fields ps }:=x
  show h'.get? a=some { cls:=.none,data:=.fields ps }
  exact k a _ (.inl rfl) e
 | met f y=>
  have e:h.get? a=some (MZ (.ref f) (.ref y)):=x
  show h'.get? a=some (MZ (.ref f) (.ref y))
  exact k a _ (.inl rfl) e
 | ext φ=>obtain⟨p,⟨o,e⟩,st⟩:=x;exact⟨st _ _ p λo q=>k _ _ (.inl rfl) q,⟨o,k _ _ (.inl rfl) e⟩,st⟩
theorem HOk.lt (x:HOk P w H h)(e:H a=some o):a<h.objs.size:=(x a o e).lt
theorem HOk.fresh (x:HOk P w H h)(e:h.objs.size<=a):H a=none:=by
 cases q:H a with
 | none=>rfl
 | some u=>exact absurd (JE (x.lt q) e) (JU _)
theorem HOk.kept (x:HOk P w H h)(k:∀b u,h.get? b=some u->h'.get? b=some u):HOk P w H h':=λa o e=>
 (x a o e).Iw (λb u _ q=>k b u q) (λ_ q=>q) λ_ _ q=>q
theorem HOk.laid (x:HOk P w H h)(k:∀b u,h.get? b=some u->h'.get? b=some u)(hp:h.objs.size<=a)(new:ObjOk P w (upd H a o) h' a o):HOk P w (upd H a o) h':=λb u e=>by
 have hn:=x.fresh hp
 by_cases hb:b=a
 ·subst hb;rw[aQ]at e;cases e;exact new
 ·rw[aG hb]at e
  exact(x b u e).Iw (λc v _ q=>k c v q) (λc q=>by rw[aG (bR q hn)];exact q) λc xs q=>by rw[aG (bR q hn)];exact q
end
def Rd (H:Hp)(a:Addr)(u:HO):Prop:=H a=some u\/∃o,H a=some (.frz o u)
theorem Rd.ok {P:JK}{w:Kn}{H:Hp}{h:Heap}{a:Addr}{u:HO}(r:Rd H a u)(x:HOk P w H h):ObjOk P w H h a u:=by
 rcases r with r | ⟨o,r⟩
 ·exact x a u r
 ·obtain⟨_,q⟩:=x a _ r
  exact q
def HR:Option HO->Prop
 | some (.lst _)=>True
 | some (.dK _)=>True
 | some (.dT _)=>True
 | some (.set _ _)=>True
 | some (.ins _ _ _)=>True
 | some (.ext _)=>True
 | _=>False
section
variable {P:JK}{w:Kn}{H:Hp}{h h':Heap}{x e:Addr}{o':HO}
theorem HOk.write (ok:HOk P w H h)(mu:HR (H x))(he:e=x\/H e=some (.own x))(k:∀b u,b≠e->h.get? b=some u->h'.get? b=some u)(heo:∃u,h'.get? e=some u)
  (new:ObjOk P w (upd H x o') h' x o'):HOk P w (upd H x o') h':=λb u q=>by
 have nown:∀c y,H c=some (.own y)->c≠x:=λc y r z=>by subst z;rw[r]at mu;exact mu
 have ntup:∀c xs,H c=some (.tup xs)->c≠x:=λc xs r z=>by subst z;rw[r]at mu;exact mu
 by_cases hb:b=x
 ·subst hb;rw[aQ]at q;cases q;exact new
 ·rw[aG hb]at q
  by_cases hbe:b=e
  ·have q':H b=some (.own x):=by
    rcases he with z | z
    ·exact absurd (hbe.trans z) hb
    ·rw[hbe];exact z
   rw[q]at q';cases q';obtain⟨v,hv⟩:=heo;exact⟨v,by rw[hbe];exact hv⟩
  ·refine(ok b u q).Iw (λc v hc r=>k c v ?_ r) (λc r=>by rw[aG (nown c b r)];exact r) λc xs r=>by rw[aG (ntup c xs r)];exact r
   rcases hc with rfl | hc
   ·exact hbe
   ·rintro rfl
    rcases he with z | z
    ·exact nown c b hc z
    ·rw[hc]at z;cases z;exact hb rfl
end
structure Un (fs ex:List Addr)(H H':Hp)(h h':Heap):Prop where
 keep:∀b o,h.get? b=some o->H b=none->b∉fs->b∉ex->h'.get? b=some o
 slot:∀b o,h.get? b=some o->H b=none->b∈fs->b∉ex->∃sl,h'.get? b=some { o with slots:=sl }
 free:∀b o,h.get? b=some o->H b=none->b∉ex->H' b=none
 there:∀b o,h.get? b=some o->b∉ex->∃o',h'.get? b=some o'
 tups:∀b xs,H b=some (.tup xs)->H' b=some (.tup xs)
 frzs:∀b o u,H b=some (.frz o u)->H' b=some (.frz o u)
 tbls:∀b ps,H b=some (.tbl ps)->∃more,H' b=some (.tbl (ps++more))
section
variable {fs fs' ex ex':List Addr}{H H1 H2:Hp}{h h1 h2 h':Heap}{a x e:Addr}{o:HO}
theorem Un.any (u:Un fs ex H H1 h h1){b:Addr}{ob:Obj}(q:h.get? b=some ob)(n:H b=none)(hx:b∉ex):∃sl,h1.get? b=some { ob with slots:=sl }:=by
 by_cases hb:b∈fs
 ·exact u.slot b ob q n hb hx
 ·exact⟨ob.slots,u.keep b ob q n hb hx⟩
theorem Un.kept (k:∀b u,h.get? b=some u->h'.get? b=some u):Un fs ex H H h h':=
 ⟨λb ob q _ _ _=>k b ob q,λb ob q _ _ _=>⟨ob.slots,k b ob q⟩,λ_ _ _ n _=>n,λb ob q _=>⟨ob,k b ob q⟩,λ_ _ q=>q,λ_ _ _ q=>q,λ_ ps q=>⟨#[],by rw[q];simp⟩⟩
theorem Un.refl:Un fs ex H H h h:=Un.kept λ_ _ q=>q
theorem Un.laid (k:∀b u,h.get? b=some u->h'.get? b=some u)(hp:h.objs.size<=a)(hn:H a=none):Un fs ex H (upd H a o) h h' where
 keep:=λb u q _ _ _=>k b u q
 slot:=λb u q _ _ _=>⟨u.slots,k b u q⟩
 free:=λb u q n _=>by rw[aG (Ku (JE (Jx q) hp))];exact n
 there:=λb u q _=>⟨u,k b u q⟩
 tups:=λb xs q=>by rw[aG (bR q hn)];exact q
 frzs:=λb u xs q=>by rw[aG (bR q hn)];exact q
 tbls:=λb ps q=>⟨#[],by rw[aG (bR q hn),q];simp⟩
theorem Un.write (mu:HR (H x))(he:e=x\/H e=some (.own x))(k:∀b u,b≠e->h.get? b=some u->h'.get? b=some u)(heo:∃u,h'.get? e=some u):Un fs ex H (upd H x o) h h':=by
 have hx:∀b,H b=none->b≠x:=λb n z=>by subst z;rw[n]at mu;exact mu
 have hb:∀b,H b=none->b≠e:=λb n z=>by
  subst z;rcases he with r | r
  ·exact hx b n r
  ·rw[n]at r;cases r
 have hm:∀b u,H b=some u->¬ HR (some u)->b≠x:=λb u q nm z=>by subst z;rw[q]at mu;exact nm mu
 refine⟨λb u q n _ _=>k b u (hb b n) q,λb u q n _ _=>⟨u.slots,k b u (hb b n) q⟩,λb u q n _=>by rw[aG (hx b n)];exact n,λb u q _=> ?_,
  λb xs q=>by rw[aG (hm b _ q λz=>z)];exact q,λb u xs q=>by rw[aG (hm b _ q λz=>z)];exact q,λb ps q=>⟨#[],by rw[aG (hm b _ q λz=>z),q];simp⟩⟩
 by_cases hbe:b=e
 ·subst hbe;exact heo
 ·exact⟨u,k b u hbe q⟩
end
def trk (h:Heap)(H:Hp):List Addr:=(J9 h.objs.size).filter λa=>(H a).isSome
def qW (h:Heap)(H:Hp):Heap:=NF h (trk h H)
theorem xV (h:Heap)(H:Hp):(qW h H).objs.size=h.objs.size:=PySem.W.hideAll_size _ _
theorem z0 {h:Heap}{H:Hp}{b:Addr}{o:Obj}(e:h.get? b=some o)(n:H b=none):(qW h H).get? b=some o:=
 Ln _ e λhm=>by
  have q:(H b).isSome=true:=(PL.mp hm).2;rw[n]at q;simp at q
theorem B1 {h:Heap}{H:Hp}{b:Addr}{o:Obj}(e:(qW h H).get? b=some o):h.get? b=some o/\H b=none:=by
 have e':h.get? b=some o:=MO (trk h H) e;refine⟨e',?_⟩
 cases q:H b with
 | none=>rfl
 | some x=>
  have hm:b∈trk h H:=PL.mpr ⟨KS.mpr (Jx e'),by simp[q]⟩
  have z:(qW h H).get? b=none:=Mt (trk h H) hm;rw[z]at e;cases e
def CJ (g h:Heap)(L:Addr):List (Addr×Obj):=(J9 h.objs.size).filterMap λa=>if a=L\/(g.get? a).isSome=true then none else(h.get? a).map λo=>(a,o)
def bJ (g h:Heap)(L d:Addr):List (Addr×Obj):=(CJ g h L).filter λp=>decide (p.1≠d)
structure Mod (K:Jh)(mg:Str->Option Ji)(base:Heap):Prop where
 kin:K.In base
 glob:base.Ns JV mg
 blt:∃mb,base.Ns Na mb/\∀x:Str,x≠ "__name__"->mb x=Kc x
 nolimit:base.NoLimit
structure Cx where
 prog:JK
 w:Kn
 K:Jh
 mg:Str->Option Ji
 base:Heap
 A:J0
 N:List Str
 s₀:Jl
 H₀:Hp
 env:Env
 outer:List Env
 stack:List Env
 ex:List Addr
 fn:Str->Bool
 calm:Bool
 pn:List (Addr×Obj)
 xe:Ji->Jl->Prop
def nK (l:List Env):List Addr:=l.filterMap (·.frame)
abbrev Cx.fs (X:Cx):List Addr:=nK X.outer
def lW (sc:Ma)(x:Str):Prop:=sc.names.lookup x=some .local\/sc.names.lookup x=some .cell\/sc.names.lookup x=some .free
def Loc (sc:Ma)(x:Str):Prop:=sc.names.lookup x=some .local\/sc.names.lookup x=some .cell
def Look (env:Env)(h:Heap)(m:Str->Option Ji)(x:Str)(u:Ji):Prop:=
 (env.kindOf x=some .local/\m x=some u)\/((env.kindOf x=some .cell\/env.kindOf x=some .free)/\∃c,env.cells.lookup x=some c/\h.IsCell c (some u))
structure Cx.Ok (X:Cx):Prop where
 mod:Mod X.K X.mg X.base
 kind:X.env.scope.kind= .function
 glob:X.env.globals=JV
 blt:X.env.builtins=Na
 above:X.s₀.heap.objs.size<=X.env.locals
 inj:∀x y c,X.env.cells.lookup x=some c->X.env.cells.lookup y=some c->x=y
 has:∀x,(X.env.kindOf x=some .cell\/X.env.kindOf x=some .free)->∃c,X.env.cells.lookup x=some c
 cab:∀x c,X.fn x=true->X.env.cells.lookup x=some c->X.s₀.heap.objs.size<=c
 hd:X.calm=true->X.A.handled=none
 frames:X.A.frames=some X.stack
 stk:X.stack=X.outer\/(X.stack=X.env::X.outer/\X.env.frame=some X.env.locals)
 exf:∀b∈X.ex,b≠X.env.locals/\∀x c,X.env.cells.lookup x=some c->c≠b
 bs:∀b o,X.base.get? b=some o->X.s₀.heap.get? b=some o/\X.H₀ b=none
 bsz:X.base.objs.size<=X.s₀.heap.objs.size
 noex:∀b o,X.base.get? b=some o->b∉X.ex
 exfs:∀b∈X.ex,b∉X.fs
 funs:X.s₀.heap.FunFrames X.base X.outer
 frf:∀b∈X.fs,X.H₀ b=none
structure Inv (X:Cx)(pins:List (Addr×Obj))(σ:List (Option V))(H:Hp)(s:Jl):Prop where
 ok:X.Ok
 os:s.os=X.s₀.os
 bare:Nm s.gens
 base:Un X.fs X.ex X.H₀ H X.s₀.heap s.heap
 loc:∃m,s.heap.Ns X.env.locals m/\∀(i:Nat) (x:Str) (v:V),X.N[i]? =some x->σ[i]? =some (some v)->lW X.env.scope x->∃u,RelV v u/\Look X.env s.heap m x u
 cell:∀x c,X.env.cells.lookup x=some c->∃v,s.heap.IsCell c v
 free:H X.env.locals=none
 freeC:∀x c,X.env.cells.lookup x=some c->H c=none
 pin:∀p∈X.pn++pins,s.heap.get? p.1=some p.2/\H p.1=none/\p.1≠X.env.locals/\p.1∉X.fs/\∀v,p.2.data≠ .cell v
 hok:HOk X.prog X.w H s.heap
 len:σ.length=X.N.length
section
variable {X:Cx}{pins:List (Addr×Obj)}{σ:List (Option V)}{H H':Hp}{s:Jl}{h':Heap}
theorem Cx.Ok.Je (ok:X.Ok){b:Addr}{o:Obj}(e:X.base.get? b=some o):b∉X.fs:=λhb=>by
 have:=(ok.funs.mem hb).1;rw[e]at this;cases this
theorem Inv.bs (I:Inv X pins σ H s):∀b o,X.base.get? b=some o->s.heap.get? b=some o/\H b=none:=λb o e=>
 ⟨I.base.keep b o (I.ok.bs b o e).1 (I.ok.bs b o e).2 (I.ok.Je e) (I.ok.noex b o e),I.base.free b o (I.ok.bs b o e).1 (I.ok.bs b o e).2 (I.ok.noex b o e)⟩
theorem Inv.bk (I:Inv X pins σ H s):∀b o,X.base.get? b=some o->s.heap.get? b=some o:=λb o e=>(I.bs b o e).1
theorem Inv.mod (I:Inv X pins σ H s):Mod X.K X.mg X.base:=I.ok.mod
theorem Inv.kIn (I:Inv X pins σ H s):X.K.In s.heap:=I.ok.mod.kin.keeps I.bk
theorem Inv.lt (I:Inv X pins σ H s):X.env.locals<s.heap.objs.size:=let ⟨_,hn,_⟩:=I.loc;hn.lt
theorem Inv.sz (I:Inv X pins σ H s):X.s₀.heap.objs.size<=s.heap.objs.size:=J2 I.ok.above (LQ I.lt)
theorem Inv.Jf (I:Inv X pins σ H s){a:Addr}(h:s.heap.objs.size<=a):a∉X.fs:=λhb=>by
 obtain⟨_,o,ho,_⟩:=I.ok.funs.mem hb;exact absurd (JE (Jx ho) (J2 I.sz h)) (JU _)
theorem Inv.cne (I:Inv X pins σ H s):∀x c,X.env.cells.lookup x=some c->c≠X.env.locals:=λx c e z=>by
 obtain⟨v,o,ho,hd⟩:=I.cell x c e;obtain⟨m,⟨o',es,ep,ho',hd',_⟩,_⟩:=I.loc;rw[z,ho']at ho;cases ho;rw[hd']at hd;cases hd
theorem Inv.funs (I:Inv X pins σ H s):s.heap.FunFrames X.base X.outer:=by
 have all:∀(l:List Env),(∀b∈nK l,b∈X.fs)->X.s₀.heap.FunFrames X.base l->s.heap.FunFrames X.base l:=by
  intro l
  induction l with
  | nil=>intro _ _;trivial
  | cons env r ih=>
   intro hs hl;obtain⟨hk,⟨L,o,hf,hn,ho,hd⟩,hr⟩:=hl
   have hL:L∈X.fs:=hs L (by unfold nK;rw[KI,hf];exact Jq)
   obtain⟨sl,e⟩:=I.base.slot L o ho (I.ok.frf L hL) hL λz=>I.ok.exfs L z hL
   exact⟨hk,⟨L,_,hf,hn,e,hd⟩,ih (λb hb=>hs b (by unfold nK;rw[KI,hf];exact Jk _ hb)) hr⟩
 exact all X.outer (λ_ hb=>hb) I.ok.funs
theorem Inv.stack (I:Inv X pins σ H s):s.heap.FunFrames X.base X.stack:=by
 rcases I.ok.stk with e | ⟨e,hf⟩
 ·rw[e];exact I.funs
 ·rw[e]
  obtain⟨m,hn,_⟩:=I.loc;refine .cons (by rw[I.ok.kind];decide) hf hn ?_ I.funs
  exact Heap.get?_none_of_le (J2 I.ok.bsz I.ok.above)
theorem Inv.IF (I:Inv X pins σ H s):∀b∈nK X.stack,b∈X.env.locals::X.fs:=λb hb=>by
 rcases I.ok.stk with e | ⟨e,hf⟩
 ·rw[e]at hb;exact Jk _ hb
 ·rw[e]at hb
  unfold nK at hb;rw[KI,hf]at hb;exact hb
theorem Inv.Ip (I:Inv X pins σ H s):∀b∈nK X.stack,H b=none:=λb hb=>by
 rcases Ju.mp (I.IF b hb)with e | hb
 ·rw[e];exact I.free
 ·obtain⟨_,o,ho,_⟩:=I.ok.funs.mem hb
  exact I.base.free b o ho (I.ok.frf b hb) λz=>I.ok.exfs b z hb
theorem Inv.step {g':Array GenState}{t':Nat}{d':Drawn}{ch:List Addr}(I:Inv X pins σ H s)
  (hch:∀b∈ch,(b∈X.ex\/X.s₀.heap.objs.size<=b)/\b≠X.env.locals/\(∀x c,X.env.cells.lookup x=some c->c≠b)/\∀p∈X.pn++pins,p.1≠b)
  (keep:∀b o,b≠X.env.locals->b∉X.fs->b∉ch->s.heap.get? b=some o->H b=none->h'.get? b=some o)
  (slot:∀b o,b≠X.env.locals->b∈X.fs->b∉ch->s.heap.get? b=some o->H b=none->∃sl,h'.get? b=some { o with slots:=sl }) (free:∀b o,b∉ch->s.heap.get? b=some o->H b=none->H' b=none)
  (there:∀b o,b∉ch->s.heap.get? b=some o->∃o',h'.get? b=some o')
  (tups:∀b xs,H b=some (.tup xs)->H' b=some (.tup xs)) (frzs:∀b o u,H b=some (.frz o u)->H' b=some (.frz o u)) (tbls:∀b ps,H b=some (.tbl ps)->∃more,H' b=some (.tbl (ps++more)))
  (ns:∀m,s.heap.Ns X.env.locals m->h'.Ns X.env.locals m) (hok:HOk X.prog X.w H' h') (hg:Nm g') :
  Inv X pins σ H' { s with heap:=h',gens:=g',drawn:=d',toks:=t' }:=by
 have neL:∀b o,X.s₀.heap.get? b=some o->b≠X.env.locals:=λb o e=>Ku (JE (Jx e) I.ok.above)
 have neC:∀b o,X.s₀.heap.get? b=some o->b∉X.ex->b∉ch:=λb o e hx hb=>by
  rcases(hch b hb).1 with z | z
  ·exact hx z
  ·exact absurd (JE (Jx e) z) (JU _)
 have cellK:∀x c,X.env.cells.lookup x=some c->∀v,s.heap.IsCell c v->h'.IsCell c v:=λx c e v hh_=>by
  obtain⟨o,ho,hd⟩:=hh_
  have nch:c∉ch:=λz=>(hch c z).2.2.1 x c e rfl
  by_cases hc:c∈X.fs
  ·obtain⟨sl,q⟩:=slot c o (I.cne x c e) hc nch ho (I.freeC x c e)
   exact⟨_,q,hd⟩
  ·exact⟨o,keep c o (I.cne x c e) hc nch ho (I.freeC x c e),hd⟩
 refine⟨I.ok,I.os,hg,⟨λb o e n hb hx=> ?_,λb o e n hb hx=> ?_,λb o e n hx=> ?_,λb o e hx=> ?_,λb xs e=>tups b xs (I.base.tups b xs e),λb o xs e=>frzs b o xs (I.base.frzs b o xs e),λb ps e=> ?_⟩,?_,λx c e=> ?_,?_,λx c e=> ?_,λp hp=> ?_,hok,I.len⟩
 ·exact keep b o (neL b o e) hb (neC b o e hx) (I.base.keep b o e n hb hx) (I.base.free b o e n hx)
 ·obtain⟨sl,e1⟩:=I.base.slot b o e n hb hx
  obtain⟨sl',e2⟩:=slot b _ (neL b o e) hb (neC b o e hx) e1 (I.base.free b o e n hx);exact⟨sl',e2⟩
 ·obtain⟨o',e1⟩:=I.base.there b o e hx
  exact free b o' (neC b o e hx) e1 (I.base.free b o e n hx)
 ·obtain⟨o',e1⟩:=I.base.there b o e hx
  exact there b o' (neC b o e hx) e1
 ·obtain⟨m1,e1⟩:=I.base.tbls b ps e
  obtain⟨m2,e2⟩:=tbls b _ e1;exact⟨m1++m2,by rw[e2,Array.append_assoc]⟩
 ·obtain⟨m,hn,hl⟩:=I.loc
  refine⟨m,ns m hn,λi x v e1 e2 e3=> ?_⟩
  obtain⟨u,r,l⟩:=hl i x v e1 e2 e3;refine⟨u,r,?_⟩
  rcases l with l | ⟨k,c,e,z⟩
  ·exact .inl l
  ·exact .inr ⟨k,c,e,cellK x c e _ z⟩
 ·obtain⟨v,z⟩:=I.cell x c e
  exact⟨v,cellK x c e v z⟩
 ·obtain⟨m,⟨o,_,_,ho,_⟩,_⟩:=I.loc
  exact free _ o (λz=>(hch _ z).2.1 rfl) ho I.free
 ·obtain⟨v,o,ho,hd⟩:=I.cell x c e
  exact free c o (λz=>(hch c z).2.2.1 x c e rfl) ho (I.freeC x c e)
 ·obtain⟨e,n,ne,nf,d⟩:=I.pin p hp
  have nch:p.1∉ch:=λz=>(hch p.1 z).2.2.2 p hp rfl
  exact⟨keep p.1 p.2 ne nf nch e n,free p.1 p.2 nch e n,ne,nf,d⟩
theorem Inv.un {t':Nat}(I:Inv X pins σ H s)(u:Un X.fs [] H H' s.heap h')(hok:HOk X.prog X.w H' h'):Inv X pins σ H' { s with heap:=h',toks:=t' }:=by
 obtain⟨m,⟨o,es,ep,ho,r⟩,_⟩:=id I.loc;obtain⟨sl,hL⟩:=u.any ho I.free (by simp)
 exact I.step (g':=s.gens) (d':=s.drawn) (ch:=[]) (λ_ z=>nomatch z) (λb o _ hb _ e n=>u.keep b o e n hb (by simp)) (λb o _ hb _ e n=>u.slot b o e n hb (by simp)) (λb o _ e n=>u.free b o e n (by simp)) (λb o _ e=>u.there b o e (by simp)) u.tups u.frzs u.tbls (λm' hm=>by
  obtain⟨o',es',ep',ho',r'⟩:=hm;rw[ho]at ho';cases ho';exact⟨_,es',ep',hL,r'⟩) hok I.bare
theorem Inv.call {g':Array GenState}{t':Nat}{d':Drawn}{ch:List Addr}(I:Inv X pins σ H s)(u:Un (nK X.stack) ch H H' s.heap h')(hok:HOk X.prog X.w H' h')(hg:Nm g')
  (hch:∀b∈ch,(b∈X.ex\/X.s₀.heap.objs.size<=b)/\b≠X.env.locals/\(∀x c,X.env.cells.lookup x=some c->c≠b)/\∀p∈X.pn++pins,p.1≠b) :
  Inv X pins σ H' { s with heap:=h',gens:=g',drawn:=d',toks:=t' }:=by
 obtain⟨m,⟨o,es,ep,ho,r⟩,_⟩:=id I.loc;obtain⟨sl,hL⟩:=u.any ho I.free λz=>(hch _ z).2.1 rfl
 exact I.step (ch:=ch) hch (λb o hL hb hc e n=>u.keep b o e n (λz=>(Ju.mp (I.IF b z)).elim hL hb) hc) (λb o _ _ hc e n=>u.any e n hc) (λb o hc e n=>u.free b o e n hc) (λb o hc e=>u.there b o e hc) u.tups u.frzs u.tbls (λm' hm=>by
  obtain⟨o',es',ep',ho',r'⟩:=hm;rw[ho]at ho';cases ho';exact⟨_,es',ep',hL,r'⟩) hok hg
theorem Inv.turned {t':Nat}{it:Addr}(I:Inv X pins σ H s)(k:∀b o,b≠it->s.heap.get? b=some o->h'.get? b=some o)(hn:H it=none)(hL:it≠X.env.locals)
  (h1:it∈X.ex\/X.s₀.heap.objs.size<=it) (h2:∀x c,X.env.cells.lookup x=some c->c≠it) (h3:∀p∈X.pn++pins,p.1≠it):Inv X pins σ H { s with heap:=h',toks:=t' }:=by
 have nit:∀b u,H b=some u->b≠it:=λb u e z=>by rw[z,hn]at e;cases e
 refine I.step (g':=s.gens) (d':=s.drawn) (ch:=[it]) (λb hb=> ?_) (λb o _ _ hc e _=>k b o (λz=>hc (by simp[z])) e) (λb o _ _ hc e _=>⟨o.slots,k b o (λz=>hc (by simp[z])) e⟩) (λ_ _ _ _ n=>n)
  (λb o hc e=>⟨o,k b o (λz=>hc (by simp[z])) e⟩) (λ_ _ e=>e) (λ_ _ _ e=>e) (λb ps e=>⟨#[],by rw[e];simp⟩) (λm hm=> ?_) (λb u e=> ?_) I.bare
 ·have e:b=it:=by simpa using hb
  subst e;exact⟨h1,hL,h2,h3⟩
 ·obtain⟨o,es,ep,ho,r⟩:=hm
  exact⟨o,es,ep,k _ o (LD hL) ho,r⟩
 ·refine(I.hok b u e).Iw (λc v hc q=>k c v ?_ q) (λ_ q=>q) λ_ _ q=>q
  rcases hc with z | z
  ·rw[z];exact nit b u e
  ·exact nit c _ z
theorem Inv.tok (I:Inv X pins σ H s)(t:Nat):Inv X pins σ H { s with toks:=t }:=I.un (h':=s.heap) (t':=t) Un.refl I.hok
theorem Inv.kept {t':Nat}(I:Inv X pins σ H s)(k:∀b u,s.heap.get? b=some u->h'.get? b=some u):Inv X pins σ H { s with heap:=h',toks:=t' }:=I.un (Un.kept k) (I.hok.kept k)
theorem Inv.laid {a:Addr}{o:HO}{t':Nat}(I:Inv X pins σ H s)(k:∀b u,s.heap.get? b=some u->h'.get? b=some u)(hp:s.heap.objs.size<=a)(new:ObjOk X.prog X.w (upd H a o) h' a o) :
  Inv X pins σ (upd H a o) { s with heap:=h',toks:=t' }:=I.un (Un.laid k hp (I.hok.fresh hp)) (I.hok.laid k hp new)
theorem Inv.write {x e:Addr}{o:HO}{t':Nat}(I:Inv X pins σ H s)(mu:HR (H x))(he:e=x\/H e=some (.own x))(k:∀b u,b≠e->s.heap.get? b=some u->h'.get? b=some u)(heo:∃u,h'.get? e=some u)
  (new:ObjOk X.prog X.w (upd H x o) h' x o):Inv X pins σ (upd H x o) { s with heap:=h',toks:=t' }:=I.un (Un.write mu he k heo) (I.hok.write mu he k heo new)
theorem Inv.IG {pins':List (Addr×Obj)}(I:Inv X pins σ H s)(h:∀p∈pins',s.heap.get? p.1=some p.2/\H p.1=none/\p.1≠X.env.locals/\p.1∉X.fs/\∀v,p.2.data≠ .cell v):Inv X pins' σ H s:=
 ⟨I.ok,I.os,I.bare,I.base,I.loc,I.cell,I.free,I.freeC,λp hp=>(JN.mp hp).elim (λz=>I.pin p (Kq _ z)) (h p),I.hok,I.len⟩
theorem sk {N:List Str}(hN:N.Nodup){i j:Nat}{x:Str}(a:N[i]? =some x)(b:N[j]? =some x):i=j:=by
 obtain⟨h1,e1⟩:=Jt.mp a
 obtain⟨h2,e2⟩:=Jt.mp b
 exact(List.getElem_inj hN).mp (e1.trans e2.symm)
theorem oV {M:Model}{A:J0}{E:Ji->Jl->Prop}{i:Nat}{x:Str}{v:V}{u:Ji}{Q:Unit->Jl->Prop}(I:Inv X pins σ H s)(hN:X.N.Nodup)(hi:X.N[i]? =some x)(hx:Loc X.env.scope x)(r:RelV v u)
  (h:∀s',Inv X pins (σ.set i (some v)) H s'->(∃a,Mo a s.heap s'.heap/\(a=X.env.locals\/X.env.cells.lookup x=some a))->Q () s') (hf:X.fn x=true\/X.env.scope.names.lookup x=some .local:=by first | exact .inl rfl | exact .inr rfl | assumption):wpAny M A (storeName X.env x u) Q E s:=by
 obtain⟨m,hn,hl⟩:=id I.loc
 have hcls:(X.env.scope.kind == .class||(X.env.scope.kind == .module&&X.env.locals != X.env.globals))=false:=by rw[I.ok.kind];rfl
 have hiσ:i<σ.length:=by rw[I.len];exact(Jt.mp hi).1
 have cne:=I.cne
 have tracked:∀{a:Addr} {h':Heap},(∃o,s.heap.get? a=some o/\H a=none)->Mo a s.heap h'->HOk X.prog X.w H h':=λ{a h'} ha hs b ob e=>by
  obtain⟨_,_,hfree⟩:=ha;refine(I.hok b ob e).Iw (λc w' hc q=>(hs.2 c ?_).trans q) (λ_ q=>q) λ_ _ q=>q
  rintro rfl
  rcases hc with rfl | hc
  ·rw[hfree]at e;cases e
  ·rw[hfree]at hc;cases hc
 rcases hx with hk | hk
 ·refine wpAny_storeName_local hk hn (λh' hn' hs=> ?_) hcls
  obtain⟨oL,_,_,hoL,_⟩:=id hn;refine h _ ⟨I.ok,I.os,I.bare,⟨λb o e n hb hx=> ?_,λb o e n hb hx=> ?_,I.base.free,λb o e hx=> ?_,I.base.tups,I.base.frzs,I.base.tbls⟩,⟨_,hn',λj y v' e1 e2 e3=> ?_⟩,λy c e=> ?_,I.free,I.freeC,λp hp=> ?_,tracked ⟨oL,hoL,I.free⟩ hs,by simpa using I.len⟩ ⟨_,hs,.inl rfl⟩
  ·exact(hs.2 b (Ku (JE (Jx e) I.ok.above))).trans (I.base.keep b o e n hb hx)
  ·obtain⟨sl,e1⟩:=I.base.slot b o e n hb hx
   exact⟨sl,(hs.2 b (Ku (JE (Jx e) I.ok.above))).trans e1⟩
  ·obtain⟨o',e1⟩:=I.base.there b o e hx
   exact⟨o',(hs.2 b (Ku (JE (Jx e) I.ok.above))).trans e1⟩
  ·by_cases hj:j=i
   ·subst hj
    rw[hi]at e1;cases e1;rw[JI hiσ]at e2
    cases e2;exact⟨u,r,.inl ⟨hk,by simp⟩⟩
   ·rw[JD (LD hj)]at e2
    obtain⟨u',r',q⟩:=hl j y v' e1 e2 e3;refine⟨u',r',?_⟩
    rcases q with⟨k,e⟩ | ⟨k,c,e,z⟩
    ·refine .inl ⟨k,?_⟩
     have:y≠x:=λe=>hj (sk hN e1 (e▸hi))
     simp[this,e]
    ·exact .inr ⟨k,c,e,z.sameBut hs (cne y c e)⟩
  ·obtain⟨w',z⟩:=I.cell y c e
   exact⟨w',z.sameBut hs (cne y c e)⟩
  ·obtain⟨e,n,ne,nf,d⟩:=I.pin p hp
   exact⟨(hs.2 p.1 ne).trans e,n,ne,nf,d⟩
 ·have hfn:X.fn x=true:=by
   rcases hf with z | z
   ·exact z
   ·rw[z]at hk;cases hk
  obtain⟨c,hc⟩:=I.ok.has x (.inl hk);obtain⟨w',z⟩:=I.cell x c hc;refine wpAny_storeName_cell I.ok.kind hk hc z (λh' hc' hs=> ?_)
  obtain⟨oc,hoc,hocd⟩:=id z;refine h { s with heap:=h' } ⟨I.ok,I.os,I.bare,⟨λb o e n hb hx=> ?_,λb o e n hb hx=> ?_,I.base.free,λb o e hx=> ?_,I.base.tups,I.base.frzs,I.base.tbls⟩,⟨m,hn.sameBut hs (LD (cne x c hc)),λj y v' e1 e2 e3=> ?_⟩,λy c' e=> ?_,I.free,I.freeC,λp hp=> ?_,tracked ⟨oc,hoc,I.freeC x c hc⟩ hs,by simpa using I.len⟩ ⟨c,hs,.inr hc⟩
  ·exact(hs.2 b (Ku (JE (Jx e) (I.ok.cab x c hfn hc)))).trans (I.base.keep b o e n hb hx)
  ·obtain⟨sl,e1⟩:=I.base.slot b o e n hb hx
   exact⟨sl,(hs.2 b (Ku (JE (Jx e) (I.ok.cab x c hfn hc)))).trans e1⟩
  ·obtain⟨o',e1⟩:=I.base.there b o e hx
   exact⟨o',(hs.2 b (Ku (JE (Jx e) (I.ok.cab x c hfn hc)))).trans e1⟩
  ·by_cases hj:j=i
   ·subst hj
    rw[hi]at e1;cases e1;rw[JI hiσ]at e2
    cases e2;exact⟨u,r,.inr ⟨.inl hk,c,hc,hc'⟩⟩
   ·rw[JD (LD hj)]at e2
    obtain⟨u',r',q⟩:=hl j y v' e1 e2 e3;refine⟨u',r',?_⟩
    rcases q with q | ⟨k,c',e,z'⟩
    ·exact .inl q
    ·refine .inr ⟨k,c',e,z'.sameBut hs ?_⟩
     rintro rfl
     exact hj (sk hN e1 (I.ok.inj _ _ _ e hc▸hi))
  ·by_cases hcc:c'=c
   ·subst hcc;exact⟨_,hc'⟩
   ·obtain⟨w2,z2⟩:=I.cell y c' e
    exact⟨w2,z2.sameBut hs hcc⟩
  ·obtain⟨e,n,ne,nf,d⟩:=I.pin p hp
   refine⟨(hs.2 p.1 ?_).trans e,n,ne,nf,d⟩
   intro q;rw[q,hoc]at e
   have q':oc=p.2:=JW e;exact d w' (by rw[<-q'];exact hocd)
theorem rO {M:Model}{A:J0}{E:Ji->Jl->Prop}{i:Nat}{x:Str}{v:V}{u:Ji}{Q:Unit->Jl->Prop}(I:Inv X pins σ H s)(hN:X.N.Nodup)(hi:X.N[i]? =some x)(hx:Loc X.env.scope x)(r:RelV v u)
  (h:∀s',Inv X pins (σ.set i (some v)) H s'->Q () s') (hf:X.fn x=true\/X.env.scope.names.lookup x=some .local:=by first | exact .inl rfl | exact .inr rfl | assumption):wpAny M A (storeName X.env x u) Q E s:=
 oV I hN hi hx r (λs' I' _=>h s' I') hf
theorem Inv.IH {s':Jl}{ch:List Addr}(I:Inv X pins σ H s)(ho:s'.os=s.os)(u:Un (nK X.stack) ch H H' s.heap s'.heap)(hok:HOk X.prog X.w H' s'.heap)(hg:Nm s'.gens)
  (hch:∀b∈ch,(b∈X.ex\/X.s₀.heap.objs.size<=b)/\b≠X.env.locals/\(∀x c,X.env.cells.lookup x=some c->c≠b)/\∀p∈X.pn++pins,p.1≠b):Inv X pins σ H' s':=by
 obtain⟨h',g',d',t',o'⟩:=s'
 have e:o'=s.os:=ho;subst e;exact I.call (g':=g') (t':=t') (d':=d') u hok hg hch
end
abbrev XK:=Ji->Option Addr->Hp->Prop
abbrev St:=List (Option V)
abbrev VK:=V->Hp->Prop
abbrev TE:=St->Hp->VK->Prop
abbrev TT:=St->Hp->(Bool->Hp->Prop)->Prop
abbrev TA:=St->Hp->(List V->Hp->Prop)->Prop
structure l4 where
 nx:St->Hp->Prop
 rt:VK
 bk:St->Hp->Prop:=λ_ _=>False
 ct:St->Hp->Prop:=λ_ _=>False
abbrev TS:=l4->St->Hp->Prop
def EP (X:Cx)(pins:List (Addr×Obj))(σ:St)(Q:VK)(u:Ji)(s':Jl):Prop:=∃v H',Inv X pins σ H' s'/\RelV v u/\Q v H'
def TP (X:Cx)(pins:List (Addr×Obj))(σ:St)(Q:Bool->Hp->Prop)(b:Bool)(s':Jl):Prop:=∃H',Inv X pins σ H' s'/\Q b H'
def AP (X:Cx)(pins:List (Addr×Obj))(σ:St)(Q:List V->Hp->Prop)(us:List Ji)(s':Jl):Prop:=∃vs H',Inv X pins σ H' s'/\Vals vs us/\Q vs H'
def SP (X:Cx)(pins:List (Addr×Obj))(D:l4)(f:Flow)(s':Jl):Prop:=
 match f with
 | .next=> ∃σ' H',Inv X pins σ' H' s'/\D.nx σ' H'
 | .brk=> ∃σ' H',Inv X pins σ' H' s'/\D.bk σ' H'
 | .cont=> ∃σ' H',Inv X pins σ' H' s'/\D.ct σ' H'
 | .ret u=> ∃v σ' H',Inv X pins σ' H' s'/\RelV v u/\D.rt v H'
def PE (X:Cx)(e:Expr)(t:TE):Prop:=
 ∀(pins:List (Addr×Obj)) (s:Jl) (σ:St) (H:Hp) (Q:VK),Inv X pins σ H s->t σ H Q->wpAny (model X.prog X.w) X.A (eval e X.env) (EP X pins σ Q) X.xe s
def PT (X:Cx)(e:Expr)(t:TT):Prop:=
 ∀(pins:List (Addr×Obj)) (s:Jl) (σ:St) (H:Hp) (Q:Bool->Hp->Prop),Inv X pins σ H s->t σ H Q->wpAny (model X.prog X.w) X.A (isTrue e X.env (eval e X.env)) (TP X pins σ Q) X.xe s
def PW (X:Cx)(e:Expr)(t:TT):Prop:=
 ∀(whole:Sem Ji) (pins:List (Addr×Obj)) (s:Jl) (σ:St) (H:Hp) (Q:Bool->Hp->Prop),Inv X pins σ H s->t σ H Q->wpAny (model X.prog X.w) X.A (isTrue e X.env whole) (TP X pins σ Q) X.xe s
theorem PW.pt {X:Cx}{e:Expr}{t:TT}(h:PW X e t):PT X e t:=h _
def PA (X:Cx)(es:List Expr)(t:TA):Prop:=
 ∀(pos:Pos) (pins:List (Addr×Obj)) (s:Jl) (σ:St) (H:Hp) (Q:List V->Hp->Prop),Inv X pins σ H s->t σ H Q->wpAny (model X.prog X.w) X.A (spliced (backTo pos (Jy es X.env))) (AP X pins σ Q) X.xe s
def PS (X:Cx)(st:Stmt)(t:TS):Prop:=
 ∀(pins:List (Addr×Obj)) (s:Jl) (σ:St) (H:Hp) (D:l4),Inv X pins σ H s->t D σ H->wpAny (model X.prog X.w) X.A (exec st X.env) (SP X pins D) X.xe s
def PSs (X:Cx)(st:List Stmt)(t:TS):Prop:=
 ∀(pins:List (Addr×Obj)) (s:Jl) (σ:St) (H:Hp) (D:l4),Inv X pins σ H s->t D σ H->wpAny (model X.prog X.w) X.A (execs st X.env) (SP X pins D) X.xe s
theorem bK {α:Type}{t:Sem α}{Q Q':α->Jl->Prop}{M:Model}{A:J0}{E:Ji->Jl->Prop}{s:Jl}(h:wpAny M A t Q E s)(hQ:∀a s,Q a s->Q' a s):wpAny M A t Q' E s:=K7 h hQ λ_ _ x=>x
section
variable {X:Cx}
def tVar (i:Nat):TE:=λσ H Q=> ∃v,σ[i]? =some (some v)/\Q v H
def tC (v:V):TE:=λ_ H Q=>Q v H
theorem fh {i:Nat}{x:Str}{pos:Pos}(hN:X.N[i]? =some x)(hv:lW X.env.scope x)(hd:eF x:=by decide)(hcd:(x == ("__classdict__" : Str))=false:=by decide):PE X (.Name x pos) (tVar i):=by
 intro pins s σ H Q I h;obtain⟨v,e,h⟩:=h;obtain⟨m,hn,hl⟩:=I.loc;obtain⟨u,r,l⟩:=hl i x v hN e hv
 have fin:EP X pins σ Q u s:=⟨v,H,I,r,h⟩;rcases l with⟨hk,hm⟩ | ⟨hk,c,hc,hcell⟩
 ·exact wpAny_Name (wpAny_loadName_local I.ok.kind hk hn hm fin) hd
 ·rcases hk with hk | hk
  ·exact wpAny_Name (wpAny_loadName_cell I.ok.kind hk hc hcell fin) hd
  ·exact wpAny_Name (wpAny_loadName_free I.ok.kind hk hc hcell fin hcd) hd
theorem Ew {i j pos}:PE X (.Constant (.int i) j pos) (tC (.int i)):=λ_ _ _ H _ I h=>wpAny_Constant_int ⟨.int i,H,I.tok _,⟨_,rfl⟩,h⟩
theorem GU {b j pos}:PE X (.Constant (.bool b) j pos) (tC (.bl b)):=λ_ _ _ H _ I h=>Constant_bool ⟨.bl b,H,I,rfl,h⟩
theorem Et {j pos}:PE X (.Constant .none j pos) (tC .non):=λ_ _ _ H _ I h=>Constant_none ⟨.non,H,I,rfl,h⟩
theorem Ep {x j pos}:PE X (.Constant (.str x) j pos) (tC (.str x)):=λ_ _ _ H _ I h=>Ov ⟨.str x,H,I.tok _,⟨_,rfl⟩,h⟩
def Gl (X:Cx)(x:Str):Prop:=X.env.kindOf x=some .globalImplicit
theorem gC {E:Ji->Jl->Prop}{pins:List (Addr×Obj)}{s:Jl}{σ:St}{H:Hp}{x:Str}{u:Ji}{pos:Pos}{Q:Ji->Jl->Prop}(I:Inv X pins σ H s)(hg:Gl X x)(hm:X.mg x=some u)(h:Q u s)
  (hd:eF x:=by decide):wpAny (model X.prog X.w) X.A (eval (.Name x pos) X.env) Q E s:=
 MM I.ok.kind hg (Calls.loadGlobal_global (by rw[I.ok.glob];exact I.mod.glob.keeps I.bk) hm h) hd
theorem gD {E:Ji->Jl->Prop}{pins:List (Addr×Obj)}{s:Jl}{σ:St}{H:Hp}{x:Str}{u:Ji}{pos:Pos}{Q:Ji->Jl->Prop}(I:Inv X pins σ H s)(hg:Gl X x)(hm:X.mg x=none)(hv:Kc x=some u)(h:Q u s)
  (hn:x≠ "__name__":=by decide) (hd:eF x:=by decide):wpAny (model X.prog X.w) X.A (eval (.Name x pos) X.env) Q E s:=by
 obtain⟨mb,h1,h2⟩:=I.mod.blt;exact MM I.ok.kind hg (Calls.loadGlobal_builtin (by rw[I.ok.glob];exact I.mod.glob.keeps I.bk) hm (by rw[I.ok.blt];exact h1.keeps I.bk) ((h2 x hn).trans hv) h) hd
theorem BS {x:Str}{v:V}{u:Ji}{pos:Pos}(hg:Gl X x)(hm:X.mg x=some u)(r:RelV v u)(hd:eF x:=by decide):PE X (.Name x pos) (tC v):=
 λ_ _ _ H _ I h=>gC I hg hm ⟨v,H,I,r,h⟩ hd
theorem BV {x:Str}{v:V}{u:Ji}{pos:Pos}(hg:Gl X x)(hm:X.mg x=none)(hv:Kc x=some u)(r:RelV v u)(hn:x≠ "__name__":=by decide)(hd:eF x:=by decide):PE X (.Name x pos) (tC v):=
 λ_ _ _ H _ I h=>gD I hg hm hv ⟨v,H,I,r,h⟩ hn hd
variable {a b:Expr}{ta tb:TE}{pos:Pos}
def tB (t:TE):TT:=λσ H Q=>t σ H λx H1=> ∃c,x= .bl c/\Q c H1
theorem Ef {e:Expr}{t:TE}(h:PE X e t)(he:∀whole,isTrue e X.env whole=(do let v <-whole;standAt e.pos;holding [v] (truthy v)):=by intro _;rfl):PT X e (tB t):=by
 intro pins s σ H Q I hw;refine isTrue_plain (bK (h pins s σ H _ I hw) λv s1 ⟨x,H1,I1,r1,q1⟩=> ?_) (he _)
 obtain⟨d,rfl,q⟩:=q1;cases r1;exact Kx ⟨H1,I1,q⟩
variable {tA tB':TT}{bJ:List Expr}
def tAnd (t u:TT):TT:=λσ H Q=>t σ H λc H1=>if c=true then u σ H1 Q else Q false H1
def tOr (t u:TT):TT:=λσ H Q=>t σ H λc H1=>if c=true then Q true H1 else u σ H1 Q
def tNot (t:TT):TT:=λσ H Q=>t σ H λc H1=>Q (!c) H1
theorem BG (ha:PT X a tA):PW X (.BoolOp .And [a] pos) tA:=by
 intro wh pins s σ H Q I h;refine isTrue_and (bK (ha pins s σ H Q I h) λc s1 e=> ?_)
 cases c with
 | true=>exact isTrue_and_nil e
 | false=>exact e
theorem yR (ha:PT X a tA):PW X (.BoolOp .Or [a] pos) tA:=by
 intro wh pins s σ H Q I h;refine isTrue_or (bK (ha pins s σ H Q I h) λc s1 e=> ?_)
 cases c with
 | false=>exact isTrue_or_nil e
 | true=>exact e
theorem Ee (ha:PT X a tA)(hb:PW X (.BoolOp .And (b::bJ) pos) tB'):PW X (.BoolOp .And (a::b::bJ) pos) (tAnd tA tB'):=by
 intro wh pins s σ H Q I h;refine isTrue_and (bK (ha pins s σ H _ I h) λc s1 hh_=> ?_)
 obtain⟨H1,I1,q1⟩:=hh_
 cases c with
 | true=>exact hb wh pins s1 σ H1 Q I1 q1
 | false=>exact⟨H1,I1,q1⟩
theorem C3 (ha:PT X a tA)(hb:PW X (.BoolOp .Or (b::bJ) pos) tB'):PW X (.BoolOp .Or (a::b::bJ) pos) (tOr tA tB'):=by
 intro wh pins s σ H Q I h;refine isTrue_or (bK (ha pins s σ H _ I h) λc s1 hh_=> ?_)
 obtain⟨H1,I1,q1⟩:=hh_
 cases c with
 | true=>exact⟨H1,I1,q1⟩
 | false=>exact hb wh pins s1 σ H1 Q I1 q1
theorem Eh (ha:PT X a tA):PT X (.UnaryOp .Not a pos) (tNot tA):=by
 intro pins s σ H Q I h;exact isTrue_not (ha pins s σ H (λc H1=>Q (!c) H1) I h)
def Gh (ta tb:TE):TE:=λσ H Q=>ta σ H λx H1=> ∃c,x= .bl c/\if c=true then tb σ H1 Q else Q (.bl false) H1
def tOrV (ta tb:TE):TE:=λσ H Q=>ta σ H λx H1=> ∃c,x= .bl c/\if c=true then Q (.bl true) H1 else tb σ H1 Q
def F5 (ta:TE):TE:=λσ H Q=>ta σ H λx H1=> ∃c,x= .bl c/\Q (.bl (!c)) H1
theorem Er {op}{t:TE}(h:PE X a t):PE X (.BoolOp op [a] pos) t:=λpins s σ H Q I hw=>BoolOp_one (h pins s σ H Q I hw)
theorem Ey (ha:PE X a ta)(hb:PE X (.BoolOp .And (b::bJ) pos) tb):PE X (.BoolOp .And (a::b::bJ) pos) (Gh ta tb):=by
 intro pins s σ H Q I h;refine BoolOp_and (bK (ha pins s σ H _ I h) λv s1 hh_=> ?_)
 obtain⟨x,H1,I1,r1,q1⟩:=hh_;obtain⟨c,rfl,q1⟩:=q1;cases r1;refine Kx ?_
 cases c with
 | true=>exact hb pins s1 σ H1 Q I1 q1
 | false=>exact⟨.bl false,H1,I1,rfl,q1⟩
theorem GS (ha:PE X a ta)(hb:PE X (.BoolOp .Or (b::bJ) pos) tb):PE X (.BoolOp .Or (a::b::bJ) pos) (tOrV ta tb):=by
 intro pins s σ H Q I h;refine BoolOp_or (bK (ha pins s σ H _ I h) λv s1 hh_=> ?_)
 obtain⟨x,H1,I1,r1,q1⟩:=hh_;obtain⟨c,rfl,q1⟩:=q1;cases r1;refine Kx ?_
 cases c with
 | false=>exact hb pins s1 σ H1 Q I1 q1
 | true=>exact⟨.bl true,H1,I1,rfl,q1⟩
theorem Es (ha:PE X a ta):PE X (.UnaryOp .Not a pos) (F5 ta):=by
 intro pins s σ H Q I h;refine UnaryOp_ (bK (ha pins s σ H _ I h) λv s1 hh_=> ?_)
 obtain⟨x,H1,I1,r1,q1⟩:=hh_;obtain⟨c,rfl,q1⟩:=q1;cases r1;exact not_of (Kx ⟨.bl (!c),H1,I1,rfl,q1⟩)
def tIf (t:TT)(ta tb:TE):TE:=λσ H Q=>t σ H λc H1=>if c=true then ta σ H1 Q else tb σ H1 Q
theorem y0 {c:Expr}(hc:PT X c tA)(ha:PE X a ta)(hb:PE X b tb):PE X (.IfExp c a b pos) (tIf tA ta tb):=by
 intro pins s σ H Q I h;refine wpAny_IfExp (bK (hc pins s σ H _ I h) λd s1 hh_=> ?_)
 obtain⟨H1,I1,q1⟩:=hh_
 cases d with
 | true=>exact ha pins s1 σ H1 Q I1 q1
 | false=>exact hb pins s1 σ H1 Q I1 q1
end
def SqL (K:Jh)(H:Hp)(a:Addr)(xs:List V):Prop:=
 Rd H a (.lst xs) ∨
  ∃(o:Obj) (its:Array Ji) (n:Nat),K.lookup a=some o/\o.cls= .type "list"/\o.dict=none/\o.data= .seq its n/\its.size<=sizeLine/\Vals xs its.toList
def SqT (K:Jh)(H:Hp)(a:Addr)(xs:List V):Prop:=
 Rd H a (.tup xs) ∨
  ∃(o:Obj) (its:Array Ji) (n:Nat),K.lookup a=some o/\o.cls= .type "tuple"/\o.data= .seq its n/\its.size<=sizeLine/\Vals xs its.toList
def absV:Ji->Option V
 | .none=>some .non
 | .bool b=>some (.bl b)
 | .int i _=>some (.int i)
 | .str x _=>some (.str x)
 | .bytes b _=>some (.byt b)
 | .float b _=>some (.flt b)
 | .ref a=>some (.ref a)
 | .type n=>some (.ty n)
 | _=>none
theorem RelV.abs {x:V}{u:Ji}(r:RelV x u):absV u=some x:=by
 cases x with
 | non=>cases r;rfl
 | bl _=>cases r;rfl
 | int _=>obtain⟨t,rfl⟩:=r;rfl
 | str _=>obtain⟨t,rfl⟩:=r;rfl
 | byt _=>obtain⟨t,rfl⟩:=r;rfl
 | flt _=>obtain⟨t,rfl⟩:=r;rfl
 | ref _=>cases r;rfl
 | ty _=>cases r;rfl
theorem RelV.inj {x y:V}{u:Ji}(r:RelV x u)(q:RelV y u):x=y:=JW (r.abs.symm.trans q.abs)
theorem Vals.inj:∀{xs ys:List V} {us:List Ji},Vals xs us->Vals ys us->xs=ys
 | _,_,_,.nil,.nil=>rfl
 | _,_,_,.cons r t,.cons r' t'=>by rw[r.inj r',Vals.inj t t']
section
variable {X:Cx}{pins:List (Addr×Obj)}{σ:St}{H:Hp}{s:Jl}{a:Addr}{xs ys:List V}
theorem SqL.of {K:Jh}(h:H a=some (.lst xs)):SqL K H a xs:=.inl (.inl h)
theorem SqT.of {K:Jh}(h:H a=some (.tup xs)):SqT K H a xs:=.inl (.inl h)
theorem Inv.list (I:Inv X pins σ H s)(h:SqL X.K H a xs):∃its:List Ji,Vals xs its/\PlainL s.heap a its.toArray/\xs.length<=sizeLine:=by
 rcases h with h | ⟨o,its,n,hk,hc,hd,hs,hz,r⟩
 ·obtain⟨z,its,n,r,e⟩:=h.ok I.hok
  exact⟨its,r,⟨_,n,e,rfl,rfl,rfl⟩,z⟩
 ·refine⟨its.toList,r,⟨o,n,I.kIn a o hk,hc,hd,by simpa using hs⟩,?_⟩
  have e:=r.length;simp only[Mz]at e;omega
theorem Inv.tuple (I:Inv X pins σ H s)(h:SqT X.K H a xs):∃its:List Ji,Vals xs its/\P9 s.heap a its.toArray/\xs.length<=sizeLine:=by
 rcases h with h | ⟨o,its,n,hk,hc,hs,hz,r⟩
 ·obtain⟨z,its,r,p⟩:=h.ok I.hok
  exact⟨its,r,p,z⟩
 ·refine⟨its.toList,r,⟨o,I.kIn a o hk,hc,n,by simpa using hs⟩,?_⟩
  have e:=r.length;simp only[Mz]at e;omega
theorem Inv.IC (I:Inv X pins σ H s)(h:SqL X.K H a xs)(h':SqL X.K H a ys):xs=ys:=by
 obtain⟨its,r,⟨o,n,e,_,_,d⟩,_⟩:=I.list h;obtain⟨its',r',⟨o',n',e',_,_,d'⟩,_⟩:=I.list h';rw[e]at e';cases e';rw[d]at d';injection d' with d1 _
 have:its=its':=by simpa using congrArg NH d1
 subst this;exact r.inj r'
theorem Inv.Iy (I:Inv X pins σ H s)(h:SqT X.K H a xs)(h':SqT X.K H a ys):xs=ys:=by
 obtain⟨its,r,⟨o,e,_,n,d⟩,_⟩:=I.tuple h;obtain⟨its',r',⟨o',e',_,n',d'⟩,_⟩:=I.tuple h';rw[e]at e';cases e';rw[d]at d';injection d' with d1 _
 have:its=its':=by simpa using congrArg NH d1
 subst this;exact r.inj r'
end
abbrev Cx.FB (X:Cx)(E:Ji->Jl->Prop):Cx:={ X with xe:=E }
abbrev Cx.nox (X:Cx):Cx:=X.FB λ_ _=>False
theorem Cx.Ok.FB {X:Cx}(ok:X.Ok)(E:Ji->Jl->Prop):(X.FB E).Ok:=
 ⟨ok.mod,ok.kind,ok.glob,ok.blt,ok.above,ok.inj,ok.has,ok.cab,ok.hd,ok.frames,ok.stk,ok.exf,ok.bs,ok.bsz,ok.noex,ok.exfs,ok.funs,ok.frf⟩
theorem Cx.Ok.GT {X:Cx}{E:Ji->Jl->Prop}(ok:(X.FB E).Ok):X.Ok:=
 ⟨ok.mod,ok.kind,ok.glob,ok.blt,ok.above,ok.inj,ok.has,ok.cab,ok.hd,ok.frames,ok.stk,ok.exf,ok.bs,ok.bsz,ok.noex,ok.exfs,ok.funs,ok.frf⟩
section
variable {X:Cx}{pins:List (Addr×Obj)}{σ:St}{H:Hp}{s:Jl}{E:Ji->Jl->Prop}
theorem Inv.FB (I:Inv X pins σ H s)(E:Ji->Jl->Prop):Inv (X.FB E) pins σ H s:=⟨I.ok.FB E,I.os,I.bare,I.base,I.loc,I.cell,I.free,I.freeC,I.pin,I.hok,I.len⟩
theorem Inv.GT (I:Inv (X.FB E) pins σ H s):Inv X pins σ H s:=⟨I.ok.GT,I.os,I.bare,I.base,I.loc,I.cell,I.free,I.freeC,I.pin,I.hok,I.len⟩
theorem SP.GT {D:l4}{f:Flow}{s':Jl}(h:SP (X.FB E) pins D f s'):SP X pins D f s':=by
 cases f with
 | next=>obtain⟨σ',H',I,q⟩:=h;exact⟨σ',H',I.GT,q⟩
 | brk=>obtain⟨σ',H',I,q⟩:=h;exact⟨σ',H',I.GT,q⟩
 | cont=>obtain⟨σ',H',I,q⟩:=h;exact⟨σ',H',I.GT,q⟩
 | ret u=>obtain⟨v,σ',H',I,r,q⟩:=h;exact⟨v,σ',H',I.GT,r,q⟩
theorem PSs.nox {st:List Stmt}{t:TS}(h:PSs X.nox st t):PSs X st t:=λpins s σ H D I hw=>
 K7 (h pins s σ H D (I.FB _) hw) (λ_ _ q=>q.GT) λ_ _ z=>K6 z
end
section
variable {X:Cx}{st:Stmt}{bJ:List Stmt}{t u:TS}{e:Expr}{te:TE}{pos:Pos}
def F9:TS:=λD σ H=>D.nx σ H
def tSeq (t u:TS):TS:=λD σ H=>t { D with nx:=u D } σ H
theorem vI:PSs X [] F9:=λ_ _ σ H _ I h=>LZ ⟨σ,H,I,h⟩
theorem r8 (h1:PS X st t)(h2:PSs X bJ u):PSs X (st::bJ) (tSeq t u):=by
 intro pins s σ H D I h;refine PC (bK (h1 pins s σ H { D with nx:=u D } I h) λf s1 q=> ?_)
 cases f with
 | next=>
  obtain⟨σ',H',I',q⟩:=q
  exact h2 pins s1 σ' H' D I' q
 | ret v=>exact q
 | brk=>exact q
 | cont=>exact q
theorem vH (h1:PS X st t):PSs X [st] t:=by
 intro pins s σ H D I h;refine PC (bK (h1 pins s σ H D I h) λf s1 q=> ?_)
 cases f with
 | next=>exact LZ q
 | ret v=>exact q
 | brk=>exact q
 | cont=>exact q
def Gf:TS:=λD σ H=>D.ct σ H
theorem r9:PS X (.Continue pos) Gf:=λ_ _ σ H _ I h=>wpAny_Continue ⟨σ,H,I,h⟩
theorem Inv.quiet {pins:List (Addr×Obj)}{σ:St}{H:Hp}{s:Jl}(I:Inv X pins σ H s):interactive X.env=false:=by simp[interactive,I.ok.kind]
def Gd (te:TE):TS:=λD σ H=>te σ H λ_ H1=>D.nx σ H1
theorem iZ (he:PE X e te)(hs:J4 e none pos.line X.env=pure false:=by rfl):PS X (.Expr e pos) (Gd te):=by
 intro pins s σ H D I h;exact wpAny_Expr_any (bK (he pins s σ H _ I h) λv s1 ⟨x,H1,I1,r1,q1⟩=>⟨σ,H1,I1,q1⟩) I.quiet hs
def tRet (te:TE):TS:=λD σ H=>te σ H D.rt
theorem yU (he:PE X e te):PS X (.Return (some e) pos) (tRet te):=by
 intro pins s σ H D I h;exact wpAny_Return_some (bK (he pins s σ H _ I h) λv s1 ⟨x,H1,I1,r1,q1⟩=>⟨x,σ,H1,I1,r1,q1⟩)
def tIfS (c:TT)(t u:TS):TS:=λD σ H=>c σ H λb H1=>if b=true then t D σ H1 else u D σ H1
theorem yV {c:Expr}{a b:List Stmt}{tc:TT}(hc:PT X c tc)(ha:PSs X a t)(hb:PSs X b u):PS X (.If c a b pos) (tIfS tc t u):=by
 intro pins s σ H D I h;refine wpAny_If (bK (hc pins s σ H _ I h) λd s1 hh_=> ?_)
 obtain⟨H1,I1,q1⟩:=hh_
 cases d with
 | true=>exact ha pins s1 σ H1 D I1 q1
 | false=>exact hb pins s1 σ H1 D I1 q1
end
abbrev TG:=V->St->Hp->(St->Hp->Prop)->Prop
abbrev CL:=List V->St->Hp->(St->Hp->Prop)->Prop
def PG (X:Cx)(target:Expr)(t:TG):Prop:=
 ∀(pins:List (Addr×Obj)) (s:Jl) (σ:St) (H:Hp) (v:V) (u:Ji) (Q:St->Hp->Prop),Inv X pins σ H s->RelV v u->t v σ H Q →
  wpAny (model X.prog X.w) X.A (assign target X.env u) (λ_ s'=> ∃σ' H',Inv X pins σ' H' s'/\Q σ' H') X.xe s
def PGs (X:Cx)(ts:List Expr)(t:CL):Prop:=
 ∀(pins:List (Addr×Obj)) (s:Jl) (σ:St) (H:Hp) (vs:List V) (us:List Ji) (Q:St->Hp->Prop),Inv X pins σ H s->Vals vs us->t vs σ H Q →
  wpAny (model X.prog X.w) X.A (assignInOrder ((KP ts X.env).map (·.2)) us) (λ_ s'=> ∃σ' H',Inv X pins σ' H' s'/\Q σ' H') X.xe s
section
variable {X:Cx}{pos:Pos}
def pB (i:Nat):TG:=λv σ H Q=>Q (σ.set i (some v)) H
theorem vL {i:Nat}{x:Str}(hN:X.N.Nodup)(hi:X.N[i]? =some x)(hx:Loc X.env.scope x)(hf:X.fn x=true\/X.env.scope.names.lookup x=some .local:=by first | exact .inl rfl | exact .inr rfl | assumption):PG X (.Name x pos) (pB i):=by
 intro pins s σ H v u Q I r h;exact O7 (rO I hN hi hx r (λs' I'=>⟨_,H,I',h⟩) hf)
def gNil:CL:=λvs σ H Q=>vs= []/\Q σ H
def Hu (t:TG)(u:CL):CL:=λvs σ H Q=> ∃v r,vs=v::r/\t v σ H λσ' H'=>u r σ' H' Q
theorem BR:PGs X [] gNil:=by
 intro pins s σ H vs us Q I r h;obtain⟨e,h⟩:=h;subst e;cases r;exact assignInOrder_nil ⟨σ,H,I,h⟩
theorem yY {e:Expr}{es:List Expr}{t:TG}{u:CL}(h1:PG X e t)(h2:PGs X es u)
  (hs:(KP (e::es) X.env).map (·.2)=assign e X.env::(KP es X.env).map (·.2):=by rfl):PGs X (e::es) (Hu t u):=by
 intro pins s σ H vs us Q I r h;obtain⟨v,vr,e1,h⟩:=h;subst e1
 cases r with
 | cons r rr=>
  rw[hs];refine assignInOrder_cons (bK (h1 pins s σ H _ _ _ I r h) λ_ s1 hh_=> ?_)
  obtain⟨σ1,H1,I1,q1⟩:=hh_;exact h2 pins s1 σ1 H1 _ _ Q I1 rr q1
def gTup (K:Jh)(n:Nat)(t:CL):TG:=λv σ H Q=> ∃a xs,v= .ref a/\SqT K H a xs/\xs.length=n/\t xs σ H Q
theorem Em {es:List Expr}{k:Nat}{t:CL}{n:Nat}(hc:X.calm=true)(h:PGs X es t)
  (hn:(KP es X.env).length=n:=by rfl) (hst:(KP es X.env).findIdx? (·.1)=none:=by rfl):PG X (.Tuple es k pos) (gTup X.K n t):=by
 intro pins s σ H v u Q I r hw;obtain⟨a,xs,e1,hq,hl,hw⟩:=hw;subst e1;cases r;obtain⟨its,rv,ht,hz⟩:=I.tuple hq;refine assign_Tuple_tuple (I.ok.hd hc) ht (by simp[hn,<-hl,rv.length]) hst λh' hx=> ?_
 have I1:Inv X pins σ H { s with heap:=h' }:=I.kept (t':=s.toks) λb o e=>hx b o (Ku (Jx e)) e
 exact h pins _ σ H xs _ Q I1 (by simpa using rv) hw
def A8 (te:TE)(g:TG):TS:=λD σ H=>te σ H λx H1=>g x σ H1 D.nx
theorem Ej {tg e:Expr}{te:TE}{g:TG}(he:PE X e te)(hg:PG X tg g)(hs:OJ [tg] e pos.line X.env=pure false:=by rfl)(hw:OK [tg] e X.env=pure none:=by rfl)
  (h1:(KP [tg] X.env).map (·.2)= [assign tg X.env]:=by rfl):PS X (.Assign [tg] e pos) (A8 te g):=by
 intro pins s σ H D I h;refine wpAny_Assign_stores (bK (he pins s σ H _ I h) λv s1 ⟨x,H1,I1,r1,q1⟩=> ?_) hs hw
 rw[h1];exact bK (hg pins s1 σ H1 x v _ I1 r1 q1) λ_ s2 q=>q
theorem ql {i:Nat}{x:Str}{e:Expr}{te:TE}{pos':Pos}(hN:X.N.Nodup)(hi:X.N[i]? =some x)(hx:Loc X.env.scope x)(he:PE X e te)(hs:J4 e (some (.Name x pos')) pos.line X.env=pure false:=by rfl)(hf:X.fn x=true\/X.env.scope.names.lookup x=some .local:=by first | exact .inl rfl | exact .inr rfl | assumption) :
  PS X (.Assign [.Name x pos'] e pos) (A8 te (pB i)):=by
 intro pins s σ H D I h;refine wpAny_Assign_Name (bK (he pins s σ H _ I h) λv s1 ⟨y,H1,I1,r1,q1⟩=> ?_) hs
 exact rO I1 hN hi hx r1 (λs2 I2=>⟨_,H1,I2,q1⟩) hf
end
section
variable {X:Cx}{pos:Pos}
def tZ (c:TT)(tb:TS):TS:=λD σ H=> ∃W:Nat->St->Hp->Prop,(∃m,W m σ H)/\∀m σ H,W m σ H →
 c σ H λb H1=>if b=true then ∃N:St->Hp->Prop,(∀σ' H',N σ' H'->∃m',m'<m/\W m' σ' H')/\tb { D with nx:=N,ct:=N,bk:=D.nx } σ H1 else D.nx σ H1
theorem yT {c:Expr}{body:List Stmt}{tc:TT}{tb:TS}(hp:PassesOwn (model X.prog X.w) X.A X.env X.xe)(hc:PT X c tc)(hb:PSs X body tb):PS X (.While c body [] pos) (tZ tc tb):=by
 intro pins s σ H D I h;obtain⟨W,⟨m0,w0⟩,turn⟩:=h;refine wpAny_While (codeAny_whileLoop (λn s'=> ∃σ' H',Inv X pins σ' H' s'/\W n σ' H') ?_ m0 ⟨σ,H,I,w0⟩)
 rintro n s1 ⟨σ1,H1,I1,w1⟩
 refine PX hp (bK (hc pins s1 σ1 H1 _ I1 (turn n σ1 H1 w1)) λb s2 hh_=> ?_)
 obtain⟨H2,I2,q2⟩:=hh_
 cases b with
 | true=>
  obtain⟨N,hN,q2⟩:=q2;rw[if_pos rfl];refine PX hp (bK (hb pins s2 σ1 H2 _ I2 q2) λf s3 q3=> ?_)
  cases f with
  | next=>
   obtain⟨σ3,H3,I3,n3⟩:=q3;obtain⟨m',hm,w3⟩:=hN σ3 H3 n3
   exact⟨m',hm,σ3,H3,I3,w3⟩
  | cont=>
   obtain⟨σ3,H3,I3,n3⟩:=q3;obtain⟨m',hm,w3⟩:=hN σ3 H3 n3
   exact⟨m',hm,σ3,H3,I3,w3⟩
  | brk=>exact q3
  | ret v=>exact q3
 | false=>
  rw[if_neg JJ];exact LZ ⟨σ1,H2,I2,q2⟩
end
structure It where
 go:Nat->Hp->Prop
 yld:Nat->Hp->V->Hp->Prop
 stop:Nat->Hp->Prop
def nY (X:Cx)(pins:List (Addr×Obj))(H:Hp)(b:Addr):Prop:=
 H b=none/\b≠X.env.locals/\b∉X.fs/\(b∈X.ex\/X.s₀.heap.objs.size<=b)/\(∀x c,X.env.cells.lookup x=some c->c≠b)/\∀p∈X.pn++pins,p.1≠b
theorem Inv.IE {X:Cx}{pins:List (Addr×Obj)}{σ:St}{H H':Hp}{s:Jl}{b:Addr}(I:Inv X pins σ H s)(hb:s.heap.objs.size<=b)(hn:H' b=none):nY X pins H' b:=by
 refine⟨hn,MQ (JE I.lt hb),I.Jf hb,.inr (J2 I.sz hb),λx c e z=> ?_,λp hp z=> ?_⟩
 ·obtain⟨v,q⟩:=I.cell x c e
  exact absurd (JE q.lt (by rw[z];exact hb)) (JU _)
 ·exact absurd (JE (Jx (I.pin p hp).1) (by rw[z];exact hb)) (JU _)
structure yc (P:JK)(w:Kn)(K:Jh)(tg:Expr)(J:It)(fp:List Addr)(it:Addr)(tn:Nat->Heap->Prop):Prop where
 mem:it∈fp
 obj:∀i h,tn i h->∀b∈fp,∃o,h.get? b=some o/\∀v,o.data≠ .cell v
 keep:∀i h h',tn i h->(∀b∈fp,∀o,h.get? b=some o->h'.get? b=some o)->tn i h'
 item:∀(X:Cx),X.prog=P->X.w=w->X.K=K->X.calm=true->∀(i:Nat) (pins:List (Addr×Obj)) (s:Jl) (σ:St) (H:Hp) (E:Ji->Jl->Prop),Inv X pins σ H s->(∀b∈fp,nY X pins H b)->tn i s.heap->J.go i H →
  wpAny (model P w) X.A (pyNext (.ref it)) (λr s1=> ∃u,r=some u ∧
   wpAny (model P w) X.A (L0 tg (.ref it) u) (λ_ s2=> ∃x H',Inv X pins σ H' s2/\RelV x u/\J.yld i H x H'/\tn (i+1) s2.heap/\∀b∈fp,H' b=none) E s1) E s
 done:∀(X:Cx),X.prog=P->X.w=w->X.K=K->X.calm=true->∀(i:Nat) (pins:List (Addr×Obj)) (s:Jl) (σ:St) (H:Hp) (E:Ji->Jl->Prop),Inv X pins σ H s->(∀b∈fp,nY X pins H b)->tn i s.heap->J.stop i H →
  wpAny (model P w) X.A (pyNext (.ref it)) (λr s1=>r=none/\Inv X pins σ H s1) E s
 self:∀(A:J0) (i:Nat) (s:Jl) (Q:Ji->Jl->Prop) (E:Ji->Jl->Prop),tn i s.heap->Q (.ref it) s->wpAny (model P w) A (pyIter (.ref it)) Q E s
abbrev TI:=St->Hp->(It->Hp->Prop)->Prop
def Ii (X:Cx)(pins:List (Addr×Obj))(σ:St)(tg:Expr)(R:It->Hp->Prop)(itv:Ji)(s2:Jl):Prop:=
 ∃(it:Addr) (fp:List Addr) (tn:Nat->Heap->Prop) (J:It) (H':Hp),itv= .ref it/\Inv X pins σ H' s2/\yc X.prog X.w X.K tg J fp it tn/\tn 0 s2.heap/\(∀b∈fp,nY X pins H' b)/\R J H'
def PI (X:Cx)(tg iter:Expr)(wi:TI):Prop:=
 ∀(pins:List (Addr×Obj)) (s:Jl) (σ:St) (H:Hp) (R:It->Hp->Prop),Inv X pins σ H s->wi σ H R →
  wpAny (model X.prog X.w) X.A (eval iter X.env) (λv s1=>wpAny (model X.prog X.w) X.A (pyIter v) (Ii X pins σ tg R) X.xe s1) X.xe s
theorem wH {M:Model}{A:J0}{E:Ji->Jl->Prop}{s:Jl}{tg:Expr}{it:Addr}{u:Ji}{o:Obj}{n:String}{vs:Array Ji}{Q:Unit->Jl->Prop}(ho:s.heap.get? it=some o)(hc:o.cls= .type n)(hd:o.data= .fields vs)
  (hn:["enumerate","zip","dict_itemiterator","dict_reverseitemiterator","odict_iterator","itertools.zip_longest","itertools.pairwise"].contains n=false) (hQ:Q () s):wpAny M A (L0 tg (.ref it) u) Q E s:=by
 unfold L0
 cases tg <;> first
  | exact Jz hQ
  | (cases u <;> first
    | exact Jz hQ
    | (refine Jn (wpAny_load ho ?_)
       rw[hc,hd]
       show wpAny M A (if (["enumerate","zip","dict_itemiterator","dict_reverseitemiterator","odict_iterator","itertools.zip_longest","itertools.pairwise"].contains n&&vs[0]? == some (rawInt _))=true then _ else _) Q E s
       rw[if_neg (by intro h;rw[hn,Bool.false_and]at h;cases h)]
       exact Jz hQ))
def Itl (K:Jh)(a:Addr):It:=
 ⟨λi H=> ∃xs x,SqL K H a xs/\xs[i]? =some x,λi H x H'=>H'=H/\∀xs,SqL K H a xs->xs[i]? =some x,λi H=> ∃xs,SqL K H a xs/\xs.length<=i⟩
def Itt (K:Jh)(a:Addr):It:=
 ⟨λi H=> ∃xs x,SqT K H a xs/\xs[i]? =some x,λi H x H'=>H'=H/\∀xs,SqT K H a xs->xs[i]? =some x,λi H=> ∃xs,SqT K H a xs/\xs.length<=i⟩
def Itr (lo:Int)(n:Nat):It:=⟨λi _=>i<n,λi H x H'=>H'=H/\x= .int (lo+i),λi _=>n<=i⟩
theorem xi {P:JK}{w:Kn}{K:Jh}{tg:Expr}(a it:Addr):yc P w K tg (Itl K a) [it] it (λi h=>h.IsListIter it a i) where
 mem:=by simp
 obj:=λi h st b hb=>by
  have e:b=it:=by simpa using hb
  subst e;obtain⟨o,e,c,d⟩:=st;exact⟨o,e,λv z=>by rw[d]at z;cases z⟩
 keep:=λi h h' st k=>st.at λo e=>k it (by simp) o e
 item:=by
  intro X hP hw hK hc i pins s σ H E I hf st hg;subst hP hw hK;obtain⟨xs,x,hq,hx⟩:=hg;obtain⟨its,rv,p,hz⟩:=I.list hq;obtain⟨u,hu,ru⟩:=rv.get hx;obtain⟨f0,f1,f2,f3,f4,f5⟩:=hf it (by simp)
  refine Nz st p.isList (x:=u) (by simpa using hu) λh' st' sb=> ?_
  have I1:Inv X pins σ H { s with heap:=h' }:=I.turned (t':=s.toks) (λb o hb e=>(sb.2 b hb).trans e) f0 f1 f3 f4 f5
  obtain⟨o,e,c,d⟩:=id st';exact⟨u,rfl,wH (s:={ s with heap:=h' }) e c d (by decide) ⟨x,H,I1,ru,⟨rfl,λys hy=>by rw[I.IC hy hq];exact hx⟩,st',λb hb=>(hf b hb).1⟩⟩
 done:=by
  intro X hP hw hK hc i pins s σ H E I hf st hg;subst hP hw hK;obtain⟨xs,hq,hx⟩:=hg;obtain⟨its,rv,p,hz⟩:=I.list hq;obtain⟨f0,f1,f2,f3,f4,f5⟩:=hf it (by simp)
  have hl:=rv.length;exact NV (I.ok.hd hc) st p.isList (by simp;omega) λh' eb=>⟨rfl,I.turned (t':=s.toks) (λb o hb e=>eb b o hb e) f0 f1 f3 f4 f5⟩
 self:=λ_ _ _ _ _ st h=>wpAny_pyIter_listiter st h
theorem tW {P:JK}{w:Kn}{K:Jh}{tg:Expr}(a it:Addr):yc P w K tg (Itt K a) [it] it (λi h=>h.IsTupleIter it a i) where
 mem:=by simp
 obj:=λi h st b hb=>by
  have e:b=it:=by simpa using hb
  subst e;obtain⟨o,e,c,d⟩:=st;exact⟨o,e,λv z=>by rw[d]at z;cases z⟩
 keep:=λi h h' st k=>st.at λo e=>k it (by simp) o e
 item:=by
  intro X hP hw hK hc i pins s σ H E I hf st hg;subst hP hw hK;obtain⟨xs,x,hq,hx⟩:=hg;obtain⟨its,rv,p,hz⟩:=I.tuple hq;obtain⟨u,hu,ru⟩:=rv.get hx;obtain⟨f0,f1,f2,f3,f4,f5⟩:=hf it (by simp)
  refine wpAny_pyNext_tuple_item st (show s.heap.IsTuple a its.toArray from p) (x:=u) (by simpa using hu) λh' st' sb=> ?_
  have I1:Inv X pins σ H { s with heap:=h' }:=I.turned (t':=s.toks) (λb o hb e=>(sb.2 b hb).trans e) f0 f1 f3 f4 f5
  obtain⟨o,e,c,d⟩:=id st';exact⟨u,rfl,wH (s:={ s with heap:=h' }) e c d (by decide) ⟨x,H,I1,ru,⟨rfl,λys hy=>by rw[I.Iy hy hq];exact hx⟩,st',λb hb=>(hf b hb).1⟩⟩
 done:=by
  intro X hP hw hK hc i pins s σ H E I hf st hg;subst hP hw hK;obtain⟨xs,hq,hx⟩:=hg;obtain⟨its,rv,p,hz⟩:=I.tuple hq;obtain⟨f0,f1,f2,f3,f4,f5⟩:=hf it (by simp)
  have hl:=rv.length;exact wpAny_pyNext_tuple_end (I.ok.hd hc) st (show s.heap.IsTuple a its.toArray from p) (by simp;omega) λh' eb=>⟨rfl,I.turned (t':=s.toks) (λb o hb e=>eb b o hb e) f0 f1 f3 f4 f5⟩
 self:=λ_ _ _ _ _ st h=>wpAny_pyIter_tupleiter st h
theorem tY {P:JK}{w:Kn}{K:Jh}{tg:Expr}(it:Addr)(lo:Int)(n:Nat):yc P w K tg (Itr lo n) [it] it (λi h=>Oq h it (lo+(i:Nat)*1) ((n:Int) - (i:Nat)) 1) where
 mem:=by simp
 obj:=λi h st b hb=>by
  have e:b=it:=by simpa using hb
  subst e
  exact⟨_,st,λv z=>by
   have z':PM _=Data.cell v:=z;cases z'⟩
 keep:=λi h h' st k=>k it (by simp) _ st
 item:=by
  intro X hP hw hK hc i pins s σ H E I hf st hg;subst hP hw hK;obtain⟨f0,f1,f2,f3,f4,f5⟩:=hf it (by simp)
  have W:=Walks.range (prog:=X.prog) (w:=X.w) (I.ok.hd hc) it lo 1 n;refine W.item i s _ _ hg st λv h' tk hv st' kk=> ?_
  obtain⟨t,rfl⟩:=hv
  have I1:Inv X pins σ H { s with heap:=h',toks:=tk }:=I.turned (λb o hb e=>kk b o (by simpa using hb) e) f0 f1 f3 f4 f5
  refine⟨_,rfl,wH (s:={ s with heap:=h',toks:=tk }) (n:="range_iterator") st' rfl rfl (by decide) ⟨.int (lo+i),H,I1,⟨t,?_⟩,⟨rfl,rfl⟩,st',λb hb=>(hf b hb).1⟩⟩
  rw[Int.mul_one]
 done:=by
  intro X hP hw hK hc i pins s σ H E I hf st hg;subst hP hw hK;obtain⟨f0,f1,f2,f3,f4,f5⟩:=hf it (by simp)
  exact NA (I.ok.hd hc) st (by have:n<=i:=hg;omega) λh' eb=>⟨rfl,I.turned (t':=s.toks) (λb o hb e=>eb b o hb e) f0 f1 f3 f4 f5⟩
 self:=λ_ _ _ _ _ st h=>NB st h
section
variable {X:Cx}{tg:Expr}
def Ht (K:Jh)(tl:TE):TI:=λσ H R=>tl σ H λx H1=> ∃a,x= .ref a/\(∃xs,SqL K H1 a xs)/\R (Itl K a) H1
def iTup (K:Jh)(tl:TE):TI:=λσ H R=>tl σ H λx H1=> ∃a,x= .ref a/\(∃xs,SqT K H1 a xs)/\R (Itt K a) H1
theorem BP {l:Expr}{tl:TE}(hl:PE X l tl):PI X tg l (Ht X.K tl):=by
 intro pins s σ H R I h;refine bK (hl pins s σ H _ I h) λv s1 hh_=> ?_
 obtain⟨x,H1,I1,r1,q1⟩:=hh_;obtain⟨a,e,⟨xs,hq⟩,q⟩:=q1;subst e;cases r1;obtain⟨its,rv,p,hz⟩:=I1.list hq;refine Nb p.isList ?_
 refine⟨s1.heap.objs.size,[s1.heap.objs.size],_,_,H1,rfl,I1.kept (t':=s1.toks) λb o e=>Jr _ e,xi a _,⟨_,JF _ rfl,rfl,rfl⟩,λb hb=> ?_,q⟩
 have e:b=s1.heap.objs.size:=by simpa using hb
 subst e;exact I1.IE (Jw _) (I1.hok.fresh (Jw _))
theorem El {l:Expr}{tl:TE}(hl:PE X l tl):PI X tg l (iTup X.K tl):=by
 intro pins s σ H R I h;refine bK (hl pins s σ H _ I h) λv s1 hh_=> ?_
 obtain⟨x,H1,I1,r1,q1⟩:=hh_;obtain⟨a,e,⟨xs,hq⟩,q⟩:=q1;subst e;cases r1;obtain⟨its,rv,p,hz⟩:=I1.tuple hq;refine L1 (show s1.heap.IsTuple a its.toArray from p) ?_
 refine⟨s1.heap.objs.size,[s1.heap.objs.size],_,_,H1,rfl,I1.kept (t':=s1.toks) λb o e=>Jr _ e,tW a _,⟨_,JF _ rfl,rfl,rfl⟩,λb hb=> ?_,q⟩
 have e:b=s1.heap.objs.size:=by simpa using hb
 subst e;exact I1.IE (Jw _) (I1.hok.fresh (Jw _))
theorem kf {pins:List (Addr×Obj)}{σ:St}{H:Hp}{s:Jl}{R:It->Hp->Prop}{E:Ji->Jl->Prop}{lo hi:Int}{t u v:Tok}{tk:Nat}(I:Inv X pins σ H s)(h1 : -(2 ^ 62)<=lo)(h2:lo<2 ^ 62)(h3 : -(2 ^ 62)<=hi)(h4:hi<2 ^ 62)
  (q:R (Itr lo (hi - lo).toNat) H):wpAny (model X.prog X.w) X.A (pyIter (.ref s.heap.objs.size)) (Ii X pins σ tg R) E { s with heap:=s.heap.push { cls:=.type "range",data:=.fields #[.int lo t,.int hi u,.int 1 v] },toks:=tk }:=by
 refine OL (IsRange.new ..) (small_one h1 h2 h3 h4) ?_
 have I1:Inv X pins σ H { s with heap:=s.heap.push { cls:=.type "range",data:=.fields #[.int lo t,.int hi u,.int 1 v] },toks:=tk }:=I.kept λb o e=>Jr _ e
 refine⟨(s.heap.push { cls:=.type "range",data:=.fields #[.int lo t,.int hi u,.int 1 v] }).objs.size,[(s.heap.push { cls:=.type "range",data:=.fields #[.int lo t,.int hi u,.int 1 v] }).objs.size],_,_,H,rfl,
  I1.kept (t':=tk) λb o e=>Jr _ e,tY _ lo (hi - lo).toNat,?_,λb hb=> ?_,q⟩
 ·have e1:lo+((0:Nat):Int)*1=lo:=by simp
  have e2:(((hi - lo).toNat:Nat):Int) - ((0:Nat):Int)=Lo lo hi 1:=by rw[rangeSize_one];split <;> omega
  show Oq _ _ (lo+((0:Nat):Int)*1) ((((hi - lo).toNat:Nat):Int) - ((0:Nat):Int)) 1
  rw[e1,e2];exact JF _ rfl
 ·have e:b=(s.heap.push { cls:=.type "range",data:=.fields #[.int lo t,.int hi u,.int 1 v] }).objs.size:=by simpa using hb
  subst e;exact I1.IE (Jw _) (I1.hok.fresh (Jw _))
def tFor (wi:TI)(g:TG)(tb:TS):TS:=λD σ H=>wi σ H λJ H1=> ∃W:Nat->Nat->St->Hp->Prop,(∃m,W 0 m σ H1)/\∀i m σ H,W i m σ H →
 (J.stop i H/\D.nx σ H)\/(J.go i H/\∃N:St->Hp->Prop,(∀σ' H',N σ' H'->∃m',m'<m/\W (i+1) m' σ' H')/\∀x H',J.yld i H x H'->g x σ H' λσ2 H2=>tb { D with nx:=N,ct:=N,bk:=D.nx } σ2 H2)
def mT (fp:List Addr)(h:Heap):List (Addr×Obj):=fp.filterMap λb=>(h.get? b).map λo=>(b,o)
theorem gz {fp:List Addr}{h:Heap}{b:Addr}{o:Obj}(hb:b∈fp)(e:h.get? b=some o):(b,o)∈mT fp h:=MR.mpr ⟨b,hb,by rw[e];rfl⟩
theorem xF {fp:List Addr}{h:Heap}{p:Addr×Obj}(hp:p∈mT fp h):p.1∈fp/\h.get? p.1=some p.2:=by
 obtain⟨b,hb,e⟩:=MR.mp hp
 cases q:h.get? b with
 | none=>rw[q]at e;cases e
 | some o=>
  rw[q]at e
  have e':(b,o)=p:=JW e;subst e';exact⟨hb,q⟩
theorem Inv.pinned {pins:List (Addr×Obj)}{σ:St}{H:Hp}{s:Jl}{fp:List Addr}(I:Inv X pins σ H s)(hf:∀b∈fp,nY X pins H b)(ho:∀b∈fp,∃o,s.heap.get? b=some o/\∀v,o.data≠ .cell v):Inv X (pins++mT fp s.heap) σ H s:=
 I.IG λp hp=>(JN.mp hp).elim (λz=>I.pin p (JO _ z)) λz=>by
  obtain⟨hb,e⟩:=xF z;obtain⟨f0,f1,f2,_⟩:=hf p.1 hb;obtain⟨o,e',d⟩:=ho p.1 hb;rw[e]at e';cases e';exact⟨e,f0,f1,f2,d⟩
theorem Inv.Io {pins pl:List (Addr×Obj)}{σ:St}{H:Hp}{s:Jl}(I:Inv X (pins++pl) σ H s):Inv X pins σ H s:=I.IG λp hp=>I.pin p (JO _ (Kq _ hp))
end
abbrev R2:=V->V->Hp->VK->Prop
def rA (X:Cx)(f:Ji->Ji->Sem Ji)(r:R2):Prop:=
 ∀(pins:List (Addr×Obj)) (s:Jl) (σ:St) (H:Hp) (x y:V) (v u:Ji) (Q:VK),Inv X pins σ H s->RelV x v->RelV y u->r x y H Q →
  wpAny (model X.prog X.w) X.A (f v u) (EP X pins σ Q) X.xe s
def UnR (X:Cx)(f:Ji->Sem Ji)(r:V->Hp->VK->Prop):Prop:=
 ∀(pins:List (Addr×Obj)) (s:Jl) (σ:St) (H:Hp) (x:V) (v:Ji) (Q:VK),Inv X pins σ H s->RelV x v->r x H Q →
  wpAny (model X.prog X.w) X.A (f v) (EP X pins σ Q) X.xe s
def CallR (X:Cx)(f:Ji)(r:List V->Hp->VK->Prop):Prop:=
 ∀(pins:List (Addr×Obj)) (s:Jl) (σ:St) (H:Hp) (xs:List V) (us:List Ji) (Q:VK),Inv X pins σ H s->Vals xs us->r xs H Q →
  wpAny (model X.prog X.w) X.A (call f us) (EP X pins σ Q) X.xe s
def tUn (r:V->Hp->VK->Prop)(ta:TE):TE:=λσ H Q=>ta σ H λx H1=>r x H1 Q
def rI (C:Int->Int->Prop)(g:Int->Int->V):R2:=λx y H Q=> ∃i j,x= .int i/\y= .int j/\C i j/\Q (g i j) H
def DJ (g:Int->Int->V):R2:=λx y H Q=> ∃i j,x= .int i/\y= .int j/\Q (g i j) H
def rU (g:Int->V):V->Hp->VK->Prop:=λx H Q=> ∃i,x= .int i/\Q (g i) H
section
variable {X:Cx}{a b c:Expr}{ta tb tc:TE}{pos:Pos}
theorem GQ {op:UnaryOp}{r:V->Hp->VK->Prop}(ho:UnR X (unaryOp op) r)(ha:PE X a ta):PE X (.UnaryOp op a pos) (tUn r ta):=by
 intro pins s σ H Q I h;exact UnaryOp_ (bK (ha pins s σ H _ I h) λv s1 ⟨x,H1,I1,r1,q1⟩=>ho pins s1 σ H1 x v Q I1 r1 q1)
theorem opI {f:Ji->Ji->Sem Ji}{C:Int->Int->Prop}{g:Int->Int->Int}
  (rule:∀(i j:Int) (t u:Tok) (s:Jl) (Q:Ji->Jl->Prop) (E:Ji->Jl->Prop),C i j->Q (.int (g i j) s.toks) { s with toks:=s.toks+1 }->wpAny (model X.prog X.w) X.A (f (.int i t) (.int j u)) Q E s) :
  rA X f (rI C λi j=> .int (g i j)):=by
 intro pins s σ H x y v u Q I rx ry h;obtain⟨i,j,rfl,rfl,hc,q⟩:=h;obtain⟨t,rfl⟩:=rx;obtain⟨t',rfl⟩:=ry;exact rule i j t t' s _ _ hc ⟨.int (g i j),H,I.tok _,⟨_,rfl⟩,q⟩
theorem GY {f:Ji->Ji->Sem Ji}{g:Int->Int->Int}
  (rule:∀(i j:Int) (t u:Tok) (s:Jl) (Q:Ji->Jl->Prop) (E:Ji->Jl->Prop),Q (.int (g i j) s.toks) { s with toks:=s.toks+1 }->wpAny (model X.prog X.w) X.A (f (.int i t) (.int j u)) Q E s) :
  rA X f (DJ λi j=> .int (g i j)):=by
 intro pins s σ H x y v u Q I rx ry h;obtain⟨i,j,rfl,rfl,q⟩:=h;obtain⟨t,rfl⟩:=rx;obtain⟨t',rfl⟩:=ry;exact rule i j t t' s _ _ ⟨.int (g i j),H,I.tok _,⟨_,rfl⟩,q⟩
theorem GZ {f:Ji->Ji->Sem Ji}{g:Int->Int->Bool}
  (rule:∀(i j:Int) (t u:Tok) (s:Jl) (Q:Ji->Jl->Prop) (E:Ji->Jl->Prop),Q (.bool (g i j)) s->wpAny (model X.prog X.w) X.A (f (.int i t) (.int j u)) Q E s) :
  rA X f (DJ λi j=> .bl (g i j)):=by
 intro pins s σ H x y v u Q I rx ry h;obtain⟨i,j,rfl,rfl,q⟩:=h;obtain⟨t,rfl⟩:=rx;obtain⟨t',rfl⟩:=ry;exact rule i j t t' s _ _ ⟨.bl (g i j),H,I,rfl,q⟩
def CDiv (i j:Int):Prop:=0<j/\j<1073741824
def CMul (i j:Int):Prop:=(-(2 ^ 64)<i/\i<2 ^ 64)\/(-(2 ^ 64)<j/\j<2 ^ 64)
theorem CMul.ok {i j:Int}(h:CMul i j):IntMulOk i j:=by
 rcases h with⟨h1,h2⟩ | ⟨h1,h2⟩
 ·exact .of_left (intBits_le_64 h1 h2)
 ·exact .of_right (intBits_le_64 h1 h2)
theorem EG:rA X (KY .Add) (DJ λi j=> .int (i+j)):=GY λ_ _ _ _ _ _ _ q=>add_int q
theorem EA:rA X (KY .Sub) (DJ λi j=> .int (i - j)):=GY λ_ _ _ _ _ _ _ q=>sub_int q
theorem EC:rA X (KY .Mult) (rI CMul λi j=> .int (i*j)):=opI λ_ _ _ _ _ _ _ hc q=>mul_int q hc.ok
theorem BZ:rA X (KY .FloorDiv) (rI CDiv λi j=> .int (i / j)):=opI λi j _ _ _ _ _ hc q=>by
 have h1:(0:Int)<j:=hc.1
 have h2:j<1073741824:=hc.2;exact floordiv_int (by omega) (by rw[Int.fdiv_eq_ediv_of_nonneg i (by omega)];exact q) (.inl (Nv (by omega)))
theorem ED:rA X (KY .Mod) (rI (λ_ j=>0<j) λi j=> .int (i % j)):=opI λi j _ _ _ _ _ hc q=>by
 have h1:(0:Int)<j:=hc;exact mod_int' (by omega) (by rw[Int.fmod_eq_emod_of_nonneg i (by omega)];exact q)
theorem unI {f:Ji->Sem Ji}{g:Int->Int}
  (rule:∀(i:Int) (t:Tok) (s:Jl) (Q:Ji->Jl->Prop) (E:Ji->Jl->Prop),Q (.int (g i) s.toks) { s with toks:=s.toks+1 }->wpAny (model X.prog X.w) X.A (f (.int i t)) Q E s) :
  UnR X f (rU λi=> .int (g i)):=by
 intro pins s σ H x v Q I rx h;obtain⟨i,rfl,q⟩:=h;obtain⟨t,rfl⟩:=rx;exact rule i t s _ _ ⟨.int (g i),H,I.tok _,⟨_,rfl⟩,q⟩
theorem DB:UnR X (unaryOp .USub) (rU λi=> .int (-i)):=unI λ_ _ _ _ _ q=>neg_int q
end
section
variable {X:Cx}{a b c:Expr}{ta tb tc:TE}{pos:Pos}
theorem Aa {pins:List (Addr×Obj)}{σ:St}{H:Hp}{s:Jl}{Q:VK}{k k':Bool}(I:Inv X pins σ H s)(q:Q (.bl k) H)(e:k=k'):EP X pins σ Q (.bool k') s:=by
 subst e;exact⟨.bl k,H,I,rfl,q⟩
theorem GW:rA X (Kh .Lt) (DJ λi j=> .bl (decide (i<j))):=GZ λ_ _ _ _ _ _ _ q=>lt_int q
theorem GX:rA X (Kh .LtE) (DJ λi j=> .bl (decide (i<=j))):=GZ λ_ _ _ _ _ _ _ q=>le_int q
theorem EE:rA X (Kh .Is) (λx y H Q=>y= .non/\Q (.bl (decide (x= .non))) H):=by
 intro pins s σ H x y v u Q I rx ry h;obtain⟨rfl,q⟩:=h;cases ry;refine is_none_gen (Aa I q ?_)
 cases x <;> first
  | (cases rx;rfl)
  | (obtain⟨t,rfl⟩:=rx;rfl)
theorem BY:rA X (Kh .IsNot) (λx y H Q=>y= .non/\Q (.bl (!decide (x= .non))) H):=by
 intro pins s σ H x y v u Q I rx ry h;obtain⟨rfl,q⟩:=h;cases ry;refine isnot_none_gen (Aa I q ?_)
 cases x <;> first
  | (cases rx;rfl)
  | (obtain⟨t,rfl⟩:=rx;rfl)
theorem nv:(sizeLine:Nat)<2 ^ 63:=by rw[MF];decide
theorem uu:rA X (KY .Add) (λx y H Q=> ∃i j,x= .str i/\y= .str j/\i.length+j.length<=sizeLine/\Q (.str (i++j)) H):=by
 intro pins s σ H x y v u Q I rx ry h;obtain⟨i,j,rfl,rfl,hz,q⟩:=h;obtain⟨t,rfl⟩:=rx;obtain⟨t',rfl⟩:=ry;exact add_str (λt' tk=>⟨.str (i++j),H,I.tok _,⟨_,rfl⟩,q⟩) hz
theorem mz {x:V}{us:List Ji}(r:Vals [x] us):∃u,us= [u]/\RelV x u:=by
 cases r with
 | cons r1 r2=>cases r2;exact⟨_,rfl,r1⟩
theorem F1 {x y:V}{us:List Ji}(r:Vals [x,y] us):∃u w',us= [u,w']/\RelV x u/\RelV y w':=by
 cases r with
 | cons r1 r2=>
  cases r2 with
  | cons r3 r4=>cases r4;exact⟨_,_,rfl,r1,r3⟩
theorem ya:CallR X (.type "int") (λxs H Q=>(∃i,xs= [.int i]/\Q (.int i) H)\/∃k,xs= [.bl k]/\Q (.int (if k then 1 else 0)) H):=by
 intro pins s σ H xs us Q I r h;rcases h with⟨i,rfl,q⟩ | ⟨k,rfl,q⟩
 ·obtain⟨u,rfl,t,rfl⟩:=mz r
  exact call_int_int ⟨.int i,H,I,⟨_,rfl⟩,q⟩
 ·obtain⟨u,rfl,r1⟩:=mz r
  cases r1;exact call_int_bool ⟨.int (if k then 1 else 0),H,I.tok _,⟨_,rfl⟩,q⟩
end
structure ObjM (h:Heap)(x dx C:Addr)(mA:Str->Option Ji):Prop where
 obj:h.get? x=some (K2 C dx)
 ns:h.Ns1 dx mA
 ne:dx≠x
theorem xN {h:Heap}{dx:Addr}{mA:Str->Option Ji}(n:h.Ns1 dx mA):∃od,h.get? dx=some od/\∀name,MX name od=some (mA name):=by
 obtain⟨o,es,ep,ho,hd,hk,_,hm⟩:=n;refine⟨o,ho,λname=> ?_⟩
 have e:=hm name;unfold nsFind findBy at e;rw[<-Ox]at e
 unfold MX;rw[hd]
 dsimp only
 split
 ·rename_i y q
  rw[q]at e;exact congrArg some e
 ·rename_i q
  rw[q]at e
  have a:es.toList.any (·.refKey)=false:=by
   rw[List.any_eq_false];intro y hy;obtain⟨z,t,hkey⟩:=hk y (Array.mem_toList_iff.mp hy);simp[DictEntry.refKey,hkey]
  have a':¬ es.toList.any (·.refKey)=true:=by rw[a];exact JJ
  rw[if_neg a'];exact congrArg some e
theorem ObjM.look {h:Heap}{x dx C:Addr}{mA:Str->Option Ji}(I:ObjM h x dx C mA):∃od,PySem.W.InstAt h x (K2 C dx) C (some od)/\∀name,MX name od=some (mA name):=
 let ⟨od,ho,hl⟩:=xN I.ns
 ⟨od,⟨I.obj,rfl,rfl,ho⟩,hl⟩
section
variable {prog:JK}{w:Kn}{A:J0}{E:Ji->Jl->Prop}{s:Jl}{K:Jh}{x dx C f:Addr}{mA:Str->Option Ji}{name:Str}{v:Ji}
theorem mn {expr:Bool}{Q:Ji->Jl->Prop}(X:K.In s.heap)(I:ObjM s.heap x dx C mA)(hg:Ms K C name=true)(hh:M0 K C=true)
  (ha:KR K (.ref C) name=some none) (hv:mA name=some v) (hv':Pq v=true) (h:Q v { s with toks:=s.toks+1 }) :
  wpAny (model prog w) A (getAttr (.ref x) name expr) Q E s:=by
 obtain⟨od,J,hl⟩:=I.look;exact PySem.W.get_value X J (My hg).1 (PySem.W.findObj_own hh ha rfl (by rw[hl,hv])) hv' h
theorem z4 {pl:Sem Bool}{Q:Ji×List Ji->Jl->Prop}(X:K.In s.heap)(I:ObjM s.heap x dx C mA)(hg:Ms K C name=true)
  (hf:KR K (.ref C) name=some (some (.ref f))) (ht:Pd K (.ref f)=true) (hv:mA name=none) (h:Q (.ref f,[.ref x]) s) :
  wpAny (model prog w) A (MG (.ref x) name pl) Q E s:=by
 obtain⟨od,J,hl⟩:=I.look;exact PySem.W.method_fn X J (My hg).1 (My hg).2 hf (beq_iff_eq.mp ht) (by show(MX name od).map (·.isSome)=some false;rw[hl,hv];rfl) h
theorem Be {ns:List Str}{Q:Unit->Jl->Prop}(X:K.In s.heap)(I:ObjM s.heap x dx C mA)
  (hs:KR K (.ref C) "__setattr__" =some (some (.builtin "object.__setattr__"))) (hp:OV K C=true) (ht:NG K C name=some none) (hh:M0 K C=true)
  (hw:Pe mA ns) (hsz:ns.length<=sizeLine)
  (h:∀h',ObjM h' x dx C (λy=>if y=name then some v else mA y)->Mo dx s.heap h'->Q () { s with heap:=h',toks:=s.toks+2 }) :
  wpAny (model prog w) A (setAttr (.ref x) name v) Q E s:=by
 obtain⟨od,J,hl⟩:=I.look;refine PySem.W.set_plain X J hs (PySem.W.osa_open (s:={ s with toks:=s.toks+1 }) (r:=none) X J hp ht λb=> ?_)
 obtain⟨cd,hc,hd'⟩:=PySem.W.any_some hh
 have hx:s.heap.get? x=some ⟨.ref C,some dx,.plain,#[]⟩:=I.obj;refine Jn (Jz (Jn (Jn (wpAny_loadPart hx (Jn (PySem.W.Looks.here (s:={ s with toks:=s.toks+1 }) (PySem.W.looks_clsIn X hc) ?_))))))
 rw[hd'];refine Jz (a:=some dx) (Jn (Jz (Jn ?_)))
 refine wpAny_nsSet1 (s:={ s with toks:=s.toks+1 }) I.ns λh' hn2 hs2=> ?_
 obtain⟨oD,esD,epD,hoD,hdD,hcD⟩:=hn2.count (PySem.Within.cons name v hw);refine Jn (wpAny_lookBehind hoD (by rw[hdD];exact pastItsLine_dict (J2 hcD (by rw[Jp];omega))) ?_)
 exact Jz (h _ ⟨(hs2.2 _ (LD I.ne)).trans I.obj,hn2,I.ne⟩ hs2)
theorem zr {R:PY->Jl->Prop}{vs:List Ji}{kw:List (Str×Ji)}(X:K.In s.heap)(hm:PH K C=true)
  (hi:KR K (.ref C) "__init__" =some (some (.ref f))) (hf:PySem.W.typeIn K (.ref f)=some (.type "function"))
  (h:codeAny (model prog w) (A.under (.builtin "type.__call__" ⟨.ref C::vs,kw⟩)) (.call (.ref f) ⟨.ref (s.heap.objs.size+1)::vs,kw⟩) (PySem.W.InitBack (s.heap.objs.size+1) R)
   { s with heap:=(s.heap.push Kt).push (K2 C s.heap.objs.size) }) :
  codeAny (model prog w) A (.call (.ref C) ⟨vs,kw⟩) R s:=by
 obtain⟨hh,g,d,t,os⟩:=s;exact PySem.W.make_core (PySem.W.makes_of X hm) (PySem.W.looks_findIn X hi) (λself=>PySem.W.bind_fn X self hf) (.inl rfl) h
end
def putF (f:Str)(v:V):List (Str×V)->List (Str×V)
 | [] => [(f,v)]
 | (g,x)::r=>if g=f then(g,v)::r else(g,x)::putF f v r
theorem lq (f g:Str)(v:V):∀fs:List (Str×V),(putF f v fs).lookup g=if g=f then some v else fs.lookup g
 | [] =>by
  show KJ g [(f,v)] =_
  by_cases h:g=f
  ·have hb:(g == f)=true:=beq_iff_eq.mpr h
   simp only[KJ,hb,if_pos h]
  ·have hb:(g == f)=false:=beq_eq_false_iff_ne.mpr h
   simp only[KJ,hb,if_neg h]
 | (k,x)::r=>by
  have ih:=lq f g v r;rw[show putF f v ((k,x)::r)=(if k=f then(k,v)::r else(k,x)::putF f v r)from rfl]
  by_cases hk:k=f
  ·rw[if_pos hk]
   by_cases h:g=k
   ·have hb:(g == k)=true:=beq_iff_eq.mpr h
    simp only[KJ,hb,if_pos (h.trans hk)]
   ·have hb:(g == k)=false:=beq_eq_false_iff_ne.mpr h
    simp only[KJ,hb,if_neg (λe:g=f=>h (e.trans hk.symm))]
  ·rw[if_neg hk]
   by_cases h:g=k
   ·have hb:(g == k)=true:=beq_iff_eq.mpr h
    simp only[KJ,hb,if_neg (λe:g=f=>hk (h.symm.trans e))]
   ·have hb:(g == k)=false:=beq_eq_false_iff_ne.mpr h
    simp only[KJ,hb];exact ih
theorem kP (f:Str)(v:V):∀fs:List (Str×V),f∈(putF f v fs).map (·.1)/\∀g,g∈fs.map (·.1)->g∈(putF f v fs).map (·.1)
 | [] =>⟨by simp[putF],λg h=>by simp at h⟩
 | (k,x)::r=>by
  obtain⟨i1,i2⟩:=kP f v r;rw[show putF f v ((k,x)::r)=(if k=f then(k,v)::r else(k,x)::putF f v r)from rfl]
  by_cases hk:k=f
  ·rw[if_pos hk]
   subst hk;exact⟨by simp,λg h=>by simpa using h⟩
  ·rw[if_neg hk]
   refine⟨?_,λg h=> ?_⟩
   ·rw[Jm]
    exact Jk _ i1
   ·rw[Jm]at h ⊢
    rcases Ju.mp h with e | e
    ·exact Ju.mpr (.inl e)
    ·exact Jk _ (i2 g e)
theorem lu (f:Str)(v:V):∀fs:List (Str×V),(putF f v fs).length<=fs.length+1
 | [] =>by simp[putF]
 | (k,x)::r=>by
  have ih:=lu f v r;rw[show putF f v ((k,x)::r)=(if k=f then(k,v)::r else(k,x)::putF f v r)from rfl]
  by_cases hk:k=f
  ·rw[if_pos hk,Jp,Jp];omega
  ·rw[if_neg hk,Jp,Jp];omega
theorem RelO.some_of {v:V}{o:Option Ji}(r:RelO (some v) o):∃u,o=some u/\RelV v u:=by
 cases o with
 | none=>exact(show False from r).elim
 | some u=>exact⟨u,rfl,r⟩
theorem RelO.none_of {o:Option Ji}(r:RelO none o):o=none:=by
 cases o with
 | none=>rfl
 | some u=>exact(show False from r).elim
theorem xW {v:V}{u:Ji}(r:RelV v u):Pq u=true:=by
 cases v with
 | non=>cases (show u=JY from r);rfl
 | bl b=>cases (show u=Ko b from r);rfl
 | int i=>obtain⟨t,e⟩:=(show ∃t,u=KG i t from r);cases e;rfl
 | str x=>obtain⟨t,e⟩:=(show ∃t,u=KH x t from r);cases e;rfl
 | byt b=>obtain⟨t,e⟩:=(show ∃t,u=Value.bytes b t from r);cases e;rfl
 | flt b=>obtain⟨t,e⟩:=(show ∃t,u=PK b t from r);cases e;rfl
 | ref a=>cases (show u=JQ a from r);rfl
 | ty n=>cases (show u=Mx n from r);rfl
section
variable {P:JK}{w:Kn}{H H':Hp}{h h':Heap}{a C dx:Addr}{fs fs':List (Str×V)}
theorem ml (hok:HOk P w H h)(e:H a=some (.ins C dx fs)):∃mA,ObjM h a dx C mA/\(∀f,RelO (fs.lookup f) (mA f))/\Pe mA (fs.map (·.1))/\fs.length<=1000/\H dx=some (.own a):=by
 obtain⟨d,z,ne,ob,mA,n,r,q⟩:=(show ObjOk P w H h a (.ins C dx fs)from hok a _ e)
 exact⟨mA,⟨ob,n,ne⟩,r,q,z,d⟩
end
structure Cls (K:Jh)(C:Addr):Prop where
 pg:Ms K C Str.empty=true
 hd:M0 K C=true
 po:OV K C=true
 sa:KR K (.ref C) "__setattr__" =some (some (.builtin "object.__setattr__"))
theorem Cls.get {K:Jh}{C:Addr}(c:Cls K C)(f:Str):Ms K C f=true:=c.pg
def NoAttr (K:Jh)(C:Addr)(f:Str):Prop:=KR K (.ref C) f=some none
theorem NoAttr.IZ {K:Jh}{C:Addr}{f:Str}(n:NoAttr K C f):NG K C f=some none:=by
 unfold NG;rw[show KR K (.ref C) f=some none from n]
 rfl
structure tJ (K:Jh)(C:Addr)(m:Str)(f:Addr):Prop where
 at_:KR K (.ref C) m=some (some (.ref f))
 fn:Pd K (.ref f)=true
 kp:K9 K (.ref f)=true
section
variable {X:Cx}{pins:List (Addr×Obj)}{σ:St}{H:Hp}{s:Jl}{a C dx:Addr}{fs:List (Str×V)}{f:Str}{v:V}{A:J0}{E:Ji->Jl->Prop}
theorem uS {b:Bool}{Q:Ji->Jl->Prop}(I:Inv X pins σ H s)(e:H a=some (.ins C dx fs))(c:Cls X.K C)(n:NoAttr X.K C f)(l:fs.lookup f=some v)
  (h:∀u s',Inv X pins σ H s'->RelV v u->Q u s'):wpAny (model X.prog X.w) A (getAttr (.ref a) f b) Q E s:=by
 obtain⟨mA,O,r,_,_,_⟩:=ml I.hok e;obtain⟨u,hu,ru⟩:=RelO.some_of (v:=v) (o:=mA f) (by rw[<-l];exact r f)
 exact mn I.kIn O (c.get f) c.hd n hu (xW ru) (h u _ (I.tok _) ru)
theorem jO {m:Str}{g:Addr}{pl:Sem Bool}{Q:Ji×List Ji->Jl->Prop}(I:Inv X pins σ H s)(e:H a=some (.ins C dx fs))(c:Cls X.K C)(k:tJ X.K C m g)(l:fs.lookup m=none)
  (h:Q (.ref g,[.ref a]) s):wpAny (model X.prog X.w) A (MG (.ref a) m pl) Q E s:=by
 obtain⟨mA,O,r,_,_,_⟩:=ml I.hok e
 have hn:mA m=none:=RelO.none_of (by rw[<-l];exact r m)
 exact z4 I.kIn O (c.get m) k.at_ k.fn hn h
theorem ue {y:V}{u:Ji}{Q:Unit->Jl->Prop}(I:Inv X pins σ H s)(e:H a=some (.ins C dx fs))(c:Cls X.K C)(n:NoAttr X.K C f)(hl:fs.length<1000)(ry:RelV y u)
  (h:∀s',Inv X pins σ (upd H a (.ins C dx (putF f y fs))) s'->Q () s'):wpAny (model X.prog X.w) A (setAttr (.ref a) f u) Q E s:=by
 obtain⟨mA,O,r,wi,_,ho⟩:=ml I.hok e
 have hz:(fs.map (·.1)).length<=sizeLine:=by rw[Jo,MF];omega
 refine Be I.kIn O c.sa c.po n.IZ c.hd wi hz λh' O' sb=>h _ ?_
 have hd:∃o,h'.get? dx=some o:=let ⟨o,_,_,e',_⟩:=O'.ns;⟨o,e'⟩
 refine I.write (x:=a) (e:=dx) (by rw[e];exact Lh) (.inr ho) (λb q hb z=>(sb.2 b hb).trans z) hd ?_
 refine⟨by rw[aG O.ne];exact ho,?_,O.ne,O'.obj,_,O'.ns,λg=> ?_,λg hg=> ?_⟩
 ·have:=lu f y fs;omega
 ·show RelO ((putF f y fs).lookup g) (if g=f then some u else mA g)
  rw[lq]
  by_cases q:g=f
  ·rw[if_pos q,if_pos q];exact ry
  ·rw[if_neg q,if_neg q];exact r g
 ·by_cases q:g=f
  ·rw[q];exact(kP f y fs).1
  ·refine(kP f y fs).2 g (wi g λz=>hg ?_)
   show(if g=f then some u else mA g)=none
   rw[if_neg q];exact z
theorem Inv.made (I:Inv X pins σ H s):Inv X pins σ (upd (upd H s.heap.objs.size (.own (s.heap.objs.size+1))) (s.heap.objs.size+1) (.ins C s.heap.objs.size []))
  { s with heap:=(s.heap.push Kt).push (K2 C s.heap.objs.size) }:=by
 have e1:(s.heap.push Kt).get? s.heap.objs.size=some Kt:=JF s.heap rfl
 have e2:((s.heap.push Kt).push (K2 C s.heap.objs.size)).get? (s.heap.objs.size+1)=some (K2 C s.heap.objs.size):=by
  have:=JF (s.heap.push Kt) (o:=K2 C s.heap.objs.size) rfl
  rwa [Lc]at this
 have e3:(s.heap.push Kt).Ns s.heap.objs.size (λ_=>none):=⟨Kt,#[],_,e1,rfl,(λe he=>absurd he (by simp)),λ_=>rfl⟩
 have I1:=I.laid (a:=s.heap.objs.size) (o:=.own (s.heap.objs.size+1)) (h':=s.heap.push Kt) (t':=s.toks) (λb u q=>Jr _ q) (Jw _) ⟨_,e1⟩
 refine I1.laid (a:=s.heap.objs.size+1) (o:=.ins C s.heap.objs.size []) (t':=s.toks) (λb u q=>Jr _ q) (Mp (Lc _ _)) ?_
 have ne:s.heap.objs.size≠s.heap.objs.size+1:=Ku (Np _);refine⟨by rw[aG ne,aQ],Ld _,ne,e2,λ_=>none,(Heap.Ns1.of_empty e3).at λo q=>Jr _ q,λ_=>Lh,λy hy=>absurd rfl hy⟩
theorem CI {prog:JK}{w:Kn}{env:Env}{e:Expr}{f:Str}{pos:Pos}{s:Jl}{Q:Ji->Jl->Prop}(hb:JM e f env (eval e env)=eval e env)
  (h:wpAny (model prog w) A (eval e env) (λo s₁=>wpAny (model prog w) A (getAttr o f true) Q E s₁) E s):wpAny (model prog w) A (eval (.Attribute e f pos) env) Q E s:=
 Attribute_any_ h (by rw[arm_eval_Attribute,hb])
end
def tFld (K:Jh)(ta:TE)(f:Str):TE:=λσ H Q=>ta σ H λx H1=> ∃a C dx fs v,x= .ref a/\H1 a=some (.ins C dx fs)/\Cls K C/\NoAttr K C f/\fs.lookup f=some v/\Q v H1
def sFld (K:Jh)(ta tv:TE)(f:Str):TS:=λD σ H=>tv σ H λy H1=>ta σ H1 λx H2=> ∃a C dx fs,x= .ref a/\H2 a=some (.ins C dx fs)/\Cls K C/\NoAttr K C f/\fs.length<1000 ∧
 D.nx σ (upd H2 a (.ins C dx (putF f y fs)))
section
variable {X:Cx}{o e value:Expr}{f:Str}{pos pos' tpos:Pos}{ta tv:TE}
theorem uo (he:PE X e ta)(hb:JM e f X.env (eval e X.env)=eval e X.env):PE X (.Attribute e f pos) (tFld X.K ta f):=by
 intro pins s σ H Q I h;refine CI hb (bK (he pins s σ H _ I h) λu s1 hh_=> ?_)
 obtain⟨x,H1,I1,rx,a,C,dx,fs,v,ex,ea,c,n,l,q⟩:=hh_;subst ex;obtain rfl:u=JQ a:=rx;exact uS I1 ea c n l λu' s2 I2 ru=>⟨v,H1,I2,ru,q⟩
theorem Ei (ha:PE X o ta)(hv:PE X value tv)(hs:J4 value (some (.Attribute o f pos')) pos.line X.env=pure false):PS X (.Assign [.Attribute o f pos'] value pos) (sFld X.K ta tv f):=by
 intro pins s σ H D I h;refine plainObj_wpAny_Assign_Attribute (bK (hv pins s σ H _ I h) λu s1 ⟨y,H1,I1,ry,q⟩=>bK (ha pins s1 σ H1 _ I1 q) λov s2 ⟨x,H2,I2,rx,a,C,dx,fs,ex,ea,c,n,l,q2⟩=> ?_) hs
 subst ex;obtain rfl:ov=JQ a:=rx;exact ue I2 ea c n l ry λs3 I3=>⟨σ,_,I3,q2⟩
end
section
variable {X:Cx}{pins:List (Addr×Obj)}{σ:St}{H:Hp}{s:Jl}{A:J0}{E:Ji->Jl->Prop}{Q:Ji->Jl->Prop}{c:Ji}{b:Bool}
inductive kZ (K:Jh) (H:Hp):V->Ji->Prop where
 | non:kZ K H .non (.type "NoneType")
 | bl (x:Bool):kZ K H (.bl x) (.type "bool")
 | int (i:Int):kZ K H (.int i) (.type "int")
 | str (x:Str):kZ K H (.str x) (.type "str")
 | flt (x:UInt64):kZ K H (.flt x) (.type "float")
 | lst {a:Addr} {xs:List V} (e:H a=some (.lst xs)):kZ K H (.ref a) (.type "list")
 | frz {a:Addr} {o:Obj} {xs:List V} (e:H a=some (.frz o (.lst xs))):kZ K H (.ref a) (.type "list")
 | tup {a:Addr} {xs:List V} (e:H a=some (.tup xs)):kZ K H (.ref a) (.type "tuple")
 | dK {a:Addr} {kvs:List (Key×V)} (e:H a=some (.dK kvs)):kZ K H (.ref a) (.type "dict")
 | dT {a:Addr} {kvs:List (List Key×V)} (e:H a=some (.dT kvs)):kZ K H (.ref a) (.type "dict")
 | ins {a C dx:Addr} {fs:List (Str×V)} (e:H a=some (.ins C dx fs)) (cl:Cls K C) (ha:KR K (.ref C) "__class__" =some (some (.builtin "object.__class__")))
   (hn:PySem.W.specialIn K (.builtin "object.__class__") "__get__" =some (some (.builtin "getset_descriptor.__get__"))) (htk:PySem.W.takesIn K (.builtin "object.__class__")=some true)
   (hm:PySem.W.mroIn K C (.type "object")=some true):kZ K H (.ref a) (.ref C)
theorem xT {x:V}{u t:Ji}(I:Inv X pins σ H s)(rx:RelV x u)(ty:kZ X.K H x t)(e:PySem.W.kitOne X.K t c=some b)(h:∀tk,Q (.bool b) { s with toks:=tk }) :
  wpAny (model X.prog X.w) A (call (.builtin "isinstance") [u,c]) Q E s:=by
 cases ty with
 | non=>cases (show u=JY from rx);exact Kr PySem.W.kitx_none I.kIn Lh e (λz=>nomatch z) h
 | bl y=>cases (show u=Ko y from rx);exact Kr PySem.W.kitx_bool I.kIn Lh e (λz=>nomatch z) h
 | int i=>obtain⟨t,q⟩:=(show ∃t,u=KG i t from rx);cases q;exact Kr PySem.W.kitx_int I.kIn Lh e (λz=>nomatch z) h
 | str y=>obtain⟨t,q⟩:=(show ∃t,u=KH y t from rx);cases q;exact Kr PySem.W.kitx_str I.kIn Lh e (λz=>nomatch z) h
 | flt y=>obtain⟨t,q⟩:=(show ∃t,u=PK y t from rx);cases q;exact Kr PySem.W.kitx_float I.kIn Lh e (λz=>nomatch z) h
 | @lst a xs ea=>
  cases (show u=JQ a from rx)
  obtain⟨_,_,n,_,h1⟩:=(show ObjOk X.prog X.w H s.heap a (.lst xs)from I.hok a _ ea)
  exact Kr OW I.kIn ⟨_,h1,rfl⟩ e (λz=>nomatch z) h
 | @frz a ob xs ea=>
  cases (show u=JQ a from rx)
  obtain⟨_,_,_,n,_,h1⟩:=(show ObjOk X.prog X.w H s.heap a (.frz ob (.lst xs))from I.hok a _ ea)
  exact Kr OW I.kIn ⟨_,h1,rfl⟩ e (λz=>nomatch z) h
 | @tup a xs ea=>
  cases (show u=JQ a from rx)
  obtain⟨_,_,_,p⟩:=(show ObjOk X.prog X.w H s.heap a (.tup xs)from I.hok a _ ea)
  obtain⟨o,h1,h2,_⟩:=p
  exact Kr PySem.W.kitx_tuple I.kIn ⟨o,h1,h2⟩ e (λz=>nomatch z) h
 | @dK a kvs ea=>
  cases (show u=JQ a from rx)
  obtain⟨_,_,vs,_,p⟩:=(show ObjOk X.prog X.w H s.heap a (.dK kvs)from I.hok a _ ea)
  obtain⟨o,es,ep,h1,h2,_⟩:=p
  exact Kr OY I.kIn ⟨o,h1,h2.1⟩ e (λz=>nomatch z) h
 | @dT a kvs ea=>
  cases (show u=JQ a from rx)
  obtain⟨_,_,xs,_,o,es,ep,h1,h2,_⟩:=(show ObjOk X.prog X.w H s.heap a (.dT kvs)from I.hok a _ ea)
  exact Kr OY I.kIn ⟨o,h1,h2.1⟩ e (λz=>nomatch z) h
 | @ins a C dx fs ea cl ha hn htk hm=>
  cases (show u=JQ a from rx)
  obtain⟨mA,O,_⟩:=ml I.hok ea;obtain⟨od,J,_⟩:=O.look;exact Kr (PySem.W.kitx_own (cl.get _) cl.hd ha hn htk hm) I.kIn J e (λz=>nomatch z) h
end
structure Room (k:Nat)(A:J0):Prop where
 hd:A.handled=none
 dp:A.depth+3*k+5<recursionLimit
 un:A.units+16*k+200<cLine
theorem Room.mono {j k:Nat}{A:J0}(r:Room k A)(h:j<=k):Room j A:=⟨r.hd,by have:=r.dp;omega,by have:=r.un;omega⟩
theorem Room.deeper {k:Nat}{A:J0}(r:Room (k+1) A)(env:Env):Room k (A.deeper env):=
 ⟨r.hd,by have:=r.dp;show A.depth+1+3*k+5<_;omega,by have:=r.un;show A.units+3+16*k+200<_;omega⟩
theorem uH {A:J0}{C:Addr}{us:List Ji}{kw:List (Str×Ji)}:(A.under (.builtin "type.__call__" ⟨.ref C::us,kw⟩)).depth=A.depth+1:=by
 first | rfl | simp[Pf,Code.weight,Code.isCreation,Code.isGuard,Code.isCaller,Code.frames,Pg,guardIds]
theorem uG {A:J0}{C:Addr}{us:List Ji}{kw:List (Str×Ji)}:(A.under (.builtin "type.__call__" ⟨.ref C::us,kw⟩)).units=A.units+1:=by
 first | rfl | simp[Pf,Code.cUnits,Code.frames,Pg]
theorem Room.make {k:Nat}{A:J0}(r:Room (k+1) A)(C:Addr)(us:List Ji)(kw:List (Str×Ji)):Room k (A.under (.builtin "type.__call__" ⟨.ref C::us,kw⟩)):=
 ⟨r.hd,by have:=r.dp;rw[uH];omega,by have:=r.un;rw[uG];omega⟩
theorem Room.depth {k:Nat}{A:J0}(r:Room k A):A.depth<recursionLimit:=by have:=r.dp;omega
def F7:TA:=λ_ H Q=>Q [] H
def yD (ta:TE)(tr:TA):TA:=λσ H Q=>ta σ H λx H1=>tr σ H1 λxs H2=>Q (x::xs) H2
section
variable {X:Cx}{e:Expr}{es:List Expr}{te:TE}{t:TA}{pos:Pos}
theorem il:PA X [] F7:=λ_ _ _ _ H Q I h=>L8 ⟨[],H,I,.nil,h⟩
theorem d8 (ha:PE X e te)(hr:PA X es t)(hs:Jy (e::es) X.env=(false,eval e X.env)::Jy es X.env:=by rfl):PA X (e::es) (yD te t):=by
 intro pos pins s σ H Q I h;rw[hs]
 show wpAny _ _ (spliced ((false,eval e X.env)::backTo pos (Jy es X.env))) _ _ s
 refine LU (bK (ha pins s σ H _ I h) λu s1 hh_=> ?_)
 obtain⟨x,H1,I1,r1,q1⟩:=hh_;exact bK (hr pos pins s1 σ H1 _ I1 q1) λus s2 ⟨xs,H2,I2,r2,q2⟩=>⟨x::xs,H2,I2,.cons r1 r2,q2⟩
def tTup (t:TA):TE:=λσ H Q=>t σ H λxs H1=>xs.length<=sizeLine/\∀p,H1 p=none->Q (.ref p) (upd H1 p (.tup xs))
def tLst (t:TA):TE:=λσ H Q=>t σ H λxs H1=>xs.length<=sizeLine/\∀p,H1 p=none->Q (.ref p) (upd H1 p (.lst xs))
theorem Eo {x1}(h:PA X es t):PE X (.Tuple es x1 pos) (tTup t):=by
 intro pins s σ H Q I hq;refine wpAny_Tuple_spliced (bK (h pos pins s σ H _ I hq) λus s1 ⟨xs,H1,I1,r,z,q⟩=>⟨by rw[<-r.length];exact z,?_⟩)
 have hf:H1 s1.heap.objs.size=none:=I1.hok.fresh (Jw _);refine⟨.ref s1.heap.objs.size,upd H1 s1.heap.objs.size (.tup xs),I1.laid (t':=s1.toks) (λb u e=>Jr _ e) (Jw _) ?_,rfl,q _ hf⟩
 exact⟨z,us,r,⟨_,JF _ rfl,rfl,_,rfl⟩⟩
theorem Eu (h:PA X es t):PE X (.List es pos) (tLst t):=by
 intro pins s σ H Q I hq;refine OM (bK (h pos pins s σ H _ I hq) λus s1 ⟨xs,H1,I1,r,z,q⟩=>⟨by rw[<-r.length];exact z,?_⟩)
 have hf:H1 s1.heap.objs.size=none:=I1.hok.fresh (Jw _);refine⟨.ref s1.heap.objs.size,upd H1 s1.heap.objs.size (.lst xs),I1.laid (t':=s1.toks) (λb u e=>Jr _ e) (Jw _) ?_,rfl,q _ hf⟩
 exact⟨z,us,0,r,JF _ rfl⟩
end
abbrev Sp:=List V->Hp->VK->XK->Prop
abbrev AY:=List Env->Hp->Jl->XK->Ji->Jl->Prop
structure Env0 (P:JK)(w:Kn)(K:Jh)(mg:Str->Option Ji)(base:Heap)(A:J0)(outer:List Env)(s:Jl)(H:Hp):Prop where
 frames:A.frames=some outer
 mod:Mod K mg base
 bs:∀b o,base.get? b=some o->s.heap.get? b=some o/\H b=none
 bsz:base.objs.size<=s.heap.objs.size
 funs:s.heap.FunFrames base outer
 frf:∀b∈nK outer,H b=none
 hok:HOk P w H s.heap
 bare:Nm s.gens
def CE (outer:List Env)(P:JK)(w:Kn)(H:Hp)(s:Jl)(Q:VK)(u:Ji)(s':Jl):Prop:=
 ∃v H',s'.os=s.os/\Nm s'.gens/\Un (nK outer) [] H H' s.heap s'.heap/\HOk P w H' s'.heap/\RelV v u/\Q v H'
def CR (CX:AY)(outer:List Env)(P:JK)(w:Kn)(H:Hp)(s:Jl)(Q:VK)(E:XK)(r:PY)(s':Jl):Prop:=
 match r with
 | .ok (.ret u)=>CE outer P w H s Q u s'
 | .ok _=>False
 | .error e=>CX outer H s E e s'
structure nZ (P:JK)(w:Kn)(K:Jh)(mg:Str->Option Ji)(base:Heap)(CX:AY)(k:Nat)(f:Addr)(fd:Ki)(ps:List Str)(sp:Sp):Prop where
 len:∀vs H Q E,sp vs H Q E->vs.length=ps.length
 run:∀(A:J0) (outer:List Env) (s:Jl) (H:Hp) (args:Args) (us:List Ji) (vs:List V) (Q:VK) (E:XK),Room k A->Env0 P w K mg base A outer s H->NW s fd args (ps.zip us)->Vals vs us->sp vs H Q E →
  codeAny (model P w) A (.call (.ref f) args) (CR CX outer P w H s Q E) s
theorem Env0.make {P:JK}{w:Kn}{K:Jh}{mg:Str->Option Ji}{base:Heap}{A:J0}{outer:List Env}{s:Jl}{H:Hp}(e:Env0 P w K mg base A outer s H)(C:Addr)(us:List Ji)(kw:List (Str×Ji)) :
  Env0 P w K mg base (A.under (.builtin "type.__call__" ⟨.ref C::us,kw⟩)) outer s H:=⟨by first | exact e.frames | (simpa [Pf,Code.envs,Pg,pushEnvs]using e.frames),e.mod,e.bs,e.bsz,e.funs,e.frf,e.hok,e.bare⟩
section
variable {X:Cx}{pins:List (Addr×Obj)}{σ:St}{H:Hp}{s s':Jl}
theorem Inv.IJ (I:Inv X pins σ H s):Env0 X.prog X.w X.K X.mg X.base X.A X.stack s H:=
 ⟨I.ok.frames,I.ok.mod,I.bs,J2 I.ok.bsz I.sz,I.stack,I.Ip,I.hok,I.bare⟩
theorem Inv.after {Q:VK}{u:Ji}(I:Inv X pins σ H s)(h:CE X.stack X.prog X.w H s Q u s'):EP X pins σ Q u s':=by
 obtain⟨v,H',os,bare,un,hok,r,q⟩:=h;obtain⟨hh,g,d,t,os'⟩:=s';obtain rfl:os'=s.os:=os;exact⟨v,H',I.call (h':=hh) (g':=g) (d':=d) (t':=t) (ch:=[]) un hok bare (λb z=>absurd z (by simp)),r,q⟩
end
def Gg (sp:Sp)(dvs:List V)(E:XK)(t:TA):TE:=λσ H Q=>t σ H λvs H1=>sp (vs++dvs) H1 Q E
def Binds (K:Jh)(fd:Ki)(ps:List Str)(ds:List Ji):Prop:=
 ∀(s:Jl) (us:List Ji),K.In s.heap->(us++ds).length=ps.length->NW s fd ⟨us,[]⟩ (ps.zip (us++ds))
theorem Binds.all {K:Jh}{fd:Ki}{ps:List Str}(h:∀us:List Ji,us.length=ps.length->PF fd ⟨us,[]⟩=pure (ps.zip us)):Binds K fd ps []:=λs us _ hl=>by
 rw[JZ]at hl ⊢;exact .of_eq (h us hl)
def vg (CX:AY)(X:Cx)(E:XK):Prop:=∀(pins:List (Addr×Obj)) (σ:St) (H:Hp) (s:Jl) (e:Ji) (s':Jl),Inv X pins σ H s->CX X.stack H s E e s'->X.xe e s'
section
variable {X:Cx}{CX:AY}{k:Nat}{f C:Addr}{fd:Ki}{ps:List Str}{sp:Sp}{dvs:List V}{ds:List Ji}{E:XK}{x m:Str}{p pos apos:Pos}{e o:Expr}{es:List Expr}{ta:TE}{t:TA}
theorem ui {pins:List (Addr×Obj)}{σ:St}{H:Hp}{s:Jl}{Q:VK}{us:List Ji}{vs:List V}(F:nZ X.prog X.w X.K X.mg X.base CX k f fd ps sp)(hr:Room k X.A)(hb:Binds X.K fd ps ds)(hd:Vals dvs ds)(hx:vg CX X E)
  (I:Inv X pins σ H s) (r:Vals vs us) (h:sp (vs++dvs) H Q E):wpAny (model X.prog X.w) X.A (call (.ref f) us) (EP X pins σ Q) X.xe s:=by
 have r2:Vals (vs++dvs) (us++ds):=r.append hd
 have hl:(us++ds).length=ps.length:=by rw[<-r2.length];exact F.len _ _ _ _ h
 refine N4 (LR (F.run X.A X.stack s H ⟨us,[]⟩ (us++ds) (vs++dvs) Q E hr I.IJ (hb s us I.kIn hl) r2 h) λr s' hq=> ?_)
 cases r with
 | error e=>exact hx pins σ H s e s' I hq
 | ok fl=>
  cases fl with
  | ret u=>exact I.after hq
  | next=>exact K6 hq
  | brk=>exact K6 hq
  | cont=>exact K6 hq
theorem vP (F:nZ X.prog X.w X.K X.mg X.base CX k f fd ps sp)(hr:Room k X.A)(hg:Gl X x)(hm:X.mg x=some (.ref f))(hk:K9 X.K (.ref f)=true)(hb:Binds X.K fd ps ds)(hd:Vals dvs ds)(hx:vg CX X E)
  (ha:PA X (e::es) t) (hdb:eF x:=by decide) (he:Jy (e::es) X.env=(false,eval e X.env)::Jy es X.env:=by rfl) (hpl:(backTo pos (Jy es X.env)).any (·.1)=false:=by rfl) :
  PE X (.Call (.Name x p) (e::es) [] pos) (Gg sp dvs E t):=by
 intro pins s σ H Q I h;refine KC (gC I hg hm ?_ hdb)
 refine Lu (h₀:=X.base) I.ok.mod.kin hk (bK (ha pos pins s σ H _ I h) λus s1 ⟨vs,H1,I1,r,q⟩=>⟨I1.kIn,?_⟩) he hpl
 exact ui F hr hb hd hx I1 r q
structure Mk (K:Jh)(C f:Addr):Prop where
 makes:PH K C=true
 init:KR K (.ref C) "__init__" =some (some (.ref f))
 fn:Pd K (.ref f)=true
 kp:K9 K (.ref C)=true
end
structure aA (N P:List Str)(sc:Ma):Prop where
 kind:sc.kind= .function
 co:sc.isCoroutine=false
 gen:sc.isGenerator=false
 nd:N.Nodup
 pre:N.take P.length=P
 par:∀x∈P,sc.names.lookup x=some .local\/sc.names.lookup x=some .cell
 nofree:∀y∈sc.names,y.2≠ .free
theorem pJ {kindOf:Str->Option LA}{x:Str}:∀{binds:List (Str×Ji)} {m:Str->Option Ji},(∀v,(x,v)∉binds)->bindL kindOf binds m x=m x
 | [],_,_=>rfl
 | (n,v)::r,m,h=>by
  unfold bindL;rw[pJ λw hw=>h w (Jk _ hw)]
  split
  ·have:x≠n:=by rintro rfl;exact h v Jq
   simp[this]
  ·rfl
theorem pL {kindOf:Str->Option LA}{x:Str}:∀{binds:List (Str×Ji)} {m:Str->Option Ji},(∀v,(x,v)∉binds)->bindC kindOf binds m x=m x
 | [],_,_=>rfl
 | (n,v)::r,m,h=>by
  unfold bindC;rw[pL λw hw=>h w (Jk _ hw)]
  split
  ·rfl
  ·have:x≠n:=by rintro rfl;exact h v Jq
   simp[this]
theorem pK {kindOf:Str->Option LA}{x:Str}{v:Ji}:∀{P:List Str} {vs:List Ji} {i:Nat} {m:Str->Option Ji},P.Nodup->P[i]? =some x->vs[i]? =some v->kindOf x=some .local →
  bindL kindOf (P.zip vs) m x=some v
 | [],_,_,_,_,h,_,_=>by simp at h
 | _::_,[],_,_,_,_,h,_=>by simp at h
 | p::P,w::vs,0,m,nd,h1,h2,hk=>by
  simp at h1 h2;subst h1;subst h2
  show bindL kindOf ((p,w)::P.zip vs) m p=_
  unfold bindL;rw[pJ λv hv=>(JX.mp nd).1 (LV hv).1,if_pos hk]
  simp
 | p::P,w::vs,i+1,m,nd,h1,h2,hk=>by
  show bindL kindOf ((p,w)::P.zip vs) m x=_
  unfold bindL;exact pK (i:=i) (JX.mp nd).2 (by simpa using h1) (by simpa using h2) hk
theorem pM {kindOf:Str->Option LA}{x:Str}{v:Ji}:∀{P:List Str} {vs:List Ji} {i:Nat} {m:Str->Option Ji},P.Nodup->P[i]? =some x->vs[i]? =some v->kindOf x≠some .local →
  bindC kindOf (P.zip vs) m x=some v
 | [],_,_,_,_,h,_,_=>by simp at h
 | _::_,[],_,_,_,_,h,_=>by simp at h
 | p::P,w::vs,0,m,nd,h1,h2,hk=>by
  simp at h1 h2;subst h1;subst h2
  show bindC kindOf ((p,w)::P.zip vs) m p=_
  unfold bindC;rw[pL λv hv=>(JX.mp nd).1 (LV hv).1,if_neg hk]
  simp
 | p::P,w::vs,i+1,m,nd,h1,h2,hk=>by
  show bindC kindOf ((p,w)::P.zip vs) m x=_
  unfold bindC;exact pM (i:=i) (JX.mp nd).2 (by simpa using h1) (by simpa using h2) hk
def start (N:List Str)(vs:List V):St:=vs.map some++JH (N.length - vs.length) none
def fG (CX:AY)(P:JK)(w:Kn)(K:Jh)(mg:Str->Option Ji)(base:Heap)(N:List Str)(qual:Str)(scope:Ma)(f:Addr)(cd:Ji)(A:J0)(outer:List Env)(s:Jl)(H:Hp)(E:XK):Cx where
 prog:=P
 w:=w
 K:=K
 mg:=mg
 base:=base
 A:=A.deeper (envOfC qual scope s.heap.objs.size f cd)
 N:=N
 s₀:=s
 H₀:=H
 env:=envOfC qual scope s.heap.objs.size f cd
 outer:=outer
 stack:=envOfC qual scope s.heap.objs.size f cd::outer
 ex:=[]
 calm:=true
 fn:=λ_=>true
 pn:=[]
 xe:=λe s'=>wpAny (model P w) (A.deeper (envOfC qual scope s.heap.objs.size f cd)) (leaving (envOfC qual scope s.heap.objs.size f cd) e) (λ_ s''=>CX outer H s E e s'') (λe' s''=>CX outer H s E e' s'') s'
theorem tH {sc:Ma}{n:Nat}{x:Str}(h:sc.names.lookup x=some .cell):∃c,(Ll n sc.names []).lookup x=some c:=by
 have q:=Lr sc.names n [] (.inl h);exact Option.isSome_iff_exists.mp q
theorem kR {CX:AY}{P:JK}{w:Kn}{K:Jh}{mg:Str->Option Ji}{base:Heap}{N ps:List Str}{qual:Str}{scope:Ma}{f:Addr}{cd:Ji}{A:J0}{outer:List Env}{s s1:Jl}{H:Hp}{E:XK}{us:List Ji}{vs:List V}
  (S:aA N ps scope) (hd:A.handled=none) (e0:Env0 P w K mg base A outer s H) (hl:vs.length=ps.length) (r:Vals vs us)
  (x:InCallC s s.heap.objs.size (bindL (envOfC qual scope s.heap.objs.size f cd).kindOf (ps.zip us) λ_=>none) (Ll (s.heap.objs.size+1) scope.names []) (bindC (envOfC qual scope s.heap.objs.size f cd).kindOf (ps.zip us) λ_=>none) s1) :
  Inv (fG CX P w K mg base N qual scope f cd A outer s H E) [] (start N vs) H s1:=by
 have hpl:ps.length<=N.length:=by have:=congrArg K3 S.pre;rw[J5]at this;omega
 obtain⟨h1,tk,rfl,hk⟩:=x.done
 have noA:∀b:Addr,b∉(fG CX P w K mg base N qual scope f cd A outer s H E).ex:=λb z=>absurd (show b∈([]:List Addr)from z) (by simp)
 refine⟨⟨e0.mod,S.kind,rfl,rfl,Jw _,λy z c h1 h2=> ?_,λy hy=> ?_,λy c _ h=> ?_,λ_=>hd,Around.frames_deeper e0.frames,.inr ⟨rfl,rfl⟩,λb z=>absurd z (noA b),e0.bs,e0.bsz,λb _ _=>noA b,λb z=>absurd z (noA b),e0.funs,e0.frf⟩,
  rfl,e0.bare,Un.kept hk,⟨_,x.toInCall.ns,λi y v h1 h2 h3=> ?_⟩,λy c h=>⟨_,x.cell y c h⟩,e0.hok.fresh (Jw _),λy c h=> ?_,λp hp=>absurd (show p∈([]:List (Addr×Obj))from hp) (by simp),e0.hok.kept hk,?_⟩
 ·exact name_of_addr x.apart (K4 h1) (K4 h2)
 ·have hy:scope.names.lookup y=some .cell\/scope.names.lookup y=some .free:=hy
  rcases hy with hy | hy
  ·exact tH hy
  ·exact absurd rfl (S.nofree _ (K4 hy))
 ·exact LQ (x.above y c (K4 h))
 ·have hi:i<vs.length:=by
   unfold start at h2
   by_cases hi:i<vs.length
   ·exact hi
   ·rw[Kp (by simpa using hi)]at h2
    rw[Kg]at h2
    split at h2 <;> cases h2
  have ha:vs[i]? =some v:=by
   unfold start at h2;rw[JR (by simpa using hi),JA]at h2
   cases e:vs[i]? with
   | none=>rw[e]at h2;cases h2
   | some a=>rw[e]at h2;cases h2;rfl
  obtain⟨u,hu,rv⟩:=r.get ha
  have hp:ps[i]? =some y:=by
   rw[<-S.pre,List.getElem?_take_of_lt (by omega)];exact h1
  have ndP:ps.Nodup:=by rw[<-S.pre];exact S.nd.sublist (List.take_sublist _ _)
  refine⟨u,rv,?_⟩
  rcases S.par y (JT hp)with k | k
  ·exact .inl ⟨k,pK ndP hp hu k⟩
  ·obtain⟨c,e⟩:=tH (n:=s.heap.objs.size+1) k
   refine .inr ⟨.inl k,c,e,?_⟩
   have q:=x.cell y c e;rw[pM ndP hp hu (by show scope.names.lookup y≠_;rw[k];decide)]at q
   exact q
 ·exact e0.hok.fresh (LQ (x.above y c (K4 h)))
 ·unfold start
  show _=N.length
  rw[Js,Jo,List.length_replicate];omega
theorem HB {CX:AY}{P:JK}{w:Kn}{K:Jh}{mg:Str->Option Ji}{base:Heap}{k:Nat}{f:Addr}{name qual:Str}{params:NX}{body:List Stmt}{scope:Ma}{dV kV doc pm cdv ct oc:Ji}{an od:Option Addr}
  {osl:Array (Option Ji)} {N ps:List Str} {sp:Sp} (lk:K.lookup f=some ⟨oc,od,.func (Mg name qual params body scope dV kV doc pm an cdv ct),osl⟩) (hcd:Oa K cdv qual=true) (S:aA N ps scope)
  (len:∀vs H Q E,sp vs H Q E->vs.length=ps.length)
  (hbody:∀(A:J0) (outer:List Env) (s:Jl) (H:Hp) (vs:List V) (Q:VK) (E:XK),Room k (A.deeper (envOfC qual scope s.heap.objs.size f cdv))->sp vs H Q E →
   ∃t,PSs (fG CX P w K mg base N qual scope f cdv A outer s H E) body t/\t { nx:=λ_ H'=>Q .non H',rt:=Q } (start N vs) H) :
  nZ P w K mg base CX (k+1) f (Mg name qual params body scope dV kV doc pm an cdv ct) ps sp:=by
 refine⟨len,λA outer s H args us vs Q E hr e0 hb r hsp=> ?_⟩
 have hl:=len _ _ _ _ hsp
 have KX:K.In s.heap:=e0.mod.kin.keeps λb o e=>(e0.bs b o e).1
 have lim:s.heap.NoLimit:=e0.mod.nolimit.keeps λb o e=>(e0.bs b o e).1
 have hkind:∀y∈ps.zip us,scope.names.lookup y.1=some .local\/(scope.names.lookup y.1=some .cell/\((Ll (s.heap.objs.size+1) scope.names []).lookup y.1).isSome=true):=λ⟨n,v⟩ hy=>by
  rcases S.par n (LV hy).1 with q | q
  ·exact .inl q
  ·exact .inr ⟨q,Lr _ _ _ (.inl q)⟩
 refine Mr hr.depth (KX _ _ lk) rfl S.co S.gen rfl (MP KX hcd) (hb _ _ _ _ ?_)
 refine LC S.kind hkind λenv he s1 x=> ?_
 subst he;refine⟨lim.keeps x.toInCall.keep,Po ?_⟩
 obtain⟨t,ht,hq⟩:=hbody A outer s H vs Q E (hr.deeper _) hsp
 have I:Inv (fG CX P w K mg base N qual scope f cdv A outer s H E) [] (start N vs) H s1:=kR S hr.hd e0 hl r x;refine K7 (ht [] s1 (start N vs) H _ I hq) (λfl s' hs=> ?_) λe s' hs=>hs
 have fin:∀{σ':St} {H':Hp} {v:V} {u:Ji},Inv (fG CX P w K mg base N qual scope f cdv A outer s H E) [] σ' H' s'->RelV v u->Q v H'->CE outer P w H s Q u s':=
  λ{σ' H' v u} J rv q=>⟨v,H',J.os,J.bare,J.base,J.hok,rv,q⟩
 cases fl with
 | ret u=>
  obtain⟨v,σ',H',J,rv,q⟩:=hs
  exact fin J rv q
 | next=>
  obtain⟨σ',H',J,q⟩:=hs
  exact fin (v:=V.non) (u:=JY) J rfl q
 | brk=>
  obtain⟨_,_,_,q⟩:=hs
  exact K6 q
 | cont=>
  obtain⟨_,_,_,q⟩:=hs;exact K6 q
end L2
namespace HT
open PySem PyProof.Rows
section
variable {prog:JK}{w:Kn}{A:J0}{E:Ji->Jl->Prop}{s:Jl}
theorem cat_tup {t b:Addr}{vs ws:List Ji}{Q:Ji->Jl->Prop}(ht:P9 s.heap t vs.toArray)(hb:P9 s.heap b ws.toArray)(hv:vs≠ [])
  (h1:ws= []->Q (.ref t) s) (h2:ws≠ []->Q (.ref s.heap.objs.size) { s with heap:=s.heap.push { cls:=.type "tuple",data:=.seq (vs++ws).toArray } })
  (hsz:vs.length+ws.length<=sizeLine):wpAny (model prog w) A (KY .Add (.ref t) (.ref b)) Q E s:=by
 obtain⟨⟨cls,dd,data,sl⟩,ho,hc,n,hd⟩:=id ht;obtain⟨⟨cls2,dd2,data2,sl2⟩,ho2,hc2,n2,hd2⟩:=id hb;simp only at hc hd hc2 hd2;subst hc hd hc2 hd2
 have e:vs.toArray++ws.toArray=(vs++ws).toArray:=by simp
 by_cases hw:ws= []
 ·exact Pp ⟨_,ho,rfl⟩ ⟨_,ho2,rfl⟩ Nt ON L5 LS (LL _ _)
   (tuple_addW1 t b vs.toArray ws.toArray n n2 dd dd2 sl sl2 (by simpa using hv) (by simp[hw])) ⟨ho,ho2,h1 hw⟩
 ·refine Pp ⟨_,ho,rfl⟩ ⟨_,ho2,rfl⟩ Nt ON L5 LS (LL _ _)
   (tuple_addW2 t b vs.toArray ws.toArray n n2 dd dd2 sl sl2 (by simpa using hv) (by simpa using hw) (by rw[JB,JB];exact hsz)) ⟨ho,ho2,?_⟩
  rw[e];exact h2 hw
def sIx (n d:Nat):Option Int->Nat
 | none=>d
 | some v=>if v<0 then(v+(n:Int)).toNat else min v.toNat n
theorem sIx_none (n d:Nat):sIx n d none=d:=rfl
theorem sIx_nat (n d k:Nat):sIx n d (some (k:Int))=min k n:=by
 show(if (k:Int)<0 then((k:Int)+(n:Int)).toNat else min (k:Int).toNat n)=min k n
 rw[if_neg (by omega),KL]
theorem DF (n d:Nat)(hd:d<=n)(o:Option Int):sIx n d o<=n:=by
 cases o with
 | none=>exact hd
 | some v=>
  show(if v<0 then(v+(n:Int)).toNat else min v.toNat n)<=n
  by_cases hv:v<0
  ·rw[if_pos hv];omega
  ·rw[if_neg hv];exact Nat.min_le_right _ _
theorem wW (v:Int)(n d:Nat):(if v<0 then max (v+(n:Int)) 0 else min v (n:Int))=((sIx n d (some v):Nat):Int):=by
 show(if v<0 then max (v+(n:Int)) 0 else min v (n:Int))=(((if v<0 then(v+(n:Int)).toNat else min v.toNat n):Nat):Int)
 by_cases hv:v<0
 ·simp only[if_pos hv];omega
 ·simp only[if_neg hv];omega
theorem vd (lo hi:Option Int)(n:Nat):LG lo hi 1 (n:Int)=(((sIx n 0 lo:Nat):Int),((sIx n n hi:Nat):Int)):=by
 have h1:¬ ((1:Int)<0):=by omega
 unfold LG;simp only[h1,if_false];refine Prod.ext ?_ ?_
 ·cases lo with
  | none=>rfl
  | some v=>exact wW v n 0
 ·cases hi with
  | none=>rfl
  | some v=>exact wW v n n
theorem um (i j:Nat):La (i:Int) (j:Int) 1=j - i:=by
 unfold La
 have h1:(1:Int) > 0:=by omega
 simp only[h1,if_true,Int.ediv_one]
 split <;> omega
theorem mI {v:Ji}{o:Option Int}{Q:Option Int->Jl->Prop}(p:OP v o)(h:Q o s):wpAny (model prog w) A (PD v) Q E s:=by
 cases p with
 | none=>exact slicePart_none h
 | int i t=>exact slicePart_int h
theorem gn {sl:Addr}{vl vu:Ji}{lo hi:Option Int}{n:Nat}{Q:Int×Int×Nat->Jl->Prop}(hs:s.heap.IsSliceOf sl vl vu .none)(pl:OP vl lo)(pu:OP vu hi)
  (h:Q (((sIx n 0 lo:Nat):Int),1,sIx n n hi - sIx n 0 lo) s):wpAny (model prog w) A (MI (.ref sl) (pure (n:Int))) Q E s:=by
 obtain⟨os,hos,hcs,hds⟩:=id hs;unfold MI Builtin.Slice.sliceFields;refine Jn (Jn (Lf hos hds (x:=vl) rfl (Jn (Lf hos hds (x:=vu) rfl (Jn (Lf hos hds (x:=.none) rfl (Jz ?_)))))))
 refine Jn (slicePart_none ?_)
 show wpAny _ _ (if ((1:Int) == 0)=true then _ else _) _ _ s
 rw[if_neg (by decide)]
 refine Jn (mI pl (Jn (mI pu (Jn (Jz ?_)))))
 show wpAny _ _ (match LG lo hi 1 (n:Int)with | (lo,hi)=>pure (lo,(1:Int),La lo hi 1)) _ _ s
 rw[vd lo hi n]
 show wpAny _ _ (pure (((sIx n 0 lo:Nat):Int),(1:Int),La ((sIx n 0 lo:Nat):Int) ((sIx n n hi:Nat):Int) 1)) _ _ s
 rw[um];exact Jz h
theorem yX (xs:Array Ji)(i k:Nat):((J9 k).filterMap λ(m:Nat)=>xs[((i:Int)+(m:Int)*1).toNat]?).toArray=((xs.toList.drop i).take k).toArray:=by
 have e:(λ(m:Nat)=>xs[((i:Int)+(m:Int)*1).toNat]?)=λm=>xs[i+m]?:=by
  funext m
  have:((i:Int)+(m:Int)*1).toNat=i+m:=by omega
  rw[this]
 rw[e]
 have:=pick_run xs i k;rw[List.filterMap_map]at this
 have e2:((λx=>xs[x]?)∘λx=>i+x)=λm=>xs[i+m]?:=rfl
 rw[e2]at this;rw[this]
theorem getItem_tuple_cut {t sl:Addr}{items:Array Ji}{vl vu:Ji}{lo hi:Option Int}{Q:Ji->Jl->Prop}(ht:P9 s.heap t items)(hs:s.heap.IsSliceOf sl vl vu .none)(pl:OP vl lo)(pu:OP vu hi)
  (hw:¬ (sIx items.size 0 lo=0/\sIx items.size items.size hi=items.size))
  (h:Q (.ref s.heap.objs.size) { s with heap:=s.heap.push { cls:=.type "tuple",data:=.seq ((items.toList.drop (sIx items.size 0 lo)).take (sIx items.size items.size hi - sIx items.size 0 lo)).toArray } })
  (hsz:items.size<=sizeLine):wpAny (model prog w) A (getItem (.ref t) (.ref sl)) Q E s:=by
 have htake:sizeOk (.seq ((items.toList.drop (sIx items.size 0 lo)).take (sIx items.size items.size hi - sIx items.size 0 lo)).toArray):=by
  show((items.toList.drop (sIx items.size 0 lo)).take (sIx items.size items.size hi - sIx items.size 0 lo)).toArray.size<=sizeLine
  rw[JB,J5,J6,Mz];omega
 have hj:sIx items.size items.size hi<=items.size:=DF _ _ (Jw _) hi;obtain⟨os,hos,hcs,hds⟩:=id hs
 have hTs:s.TypeIs (.ref sl) "slice":=⟨os,hos,hcs⟩;unfold getItem
 try with_reducible refine Nn ?_
 first | refine Jn (Jz ?_) | skip
 refine Jn (O8 ht.typeIs (by decide) ?_)
 refine Jn (K1 (name:=JC "__getitem__") ht.typeIs Kd
  (LJ Kd ht.typeIs Os ?_ (OQ _ _)))
 show wpAny _ _ (MJ (.ref t) >>= _) _ _ s
 refine Jn (OR ht ?_)
 refine Jn (MV hTs ?_)
 rw[if_pos (by decide)]
 refine Jn (gn hs pl pu ?_)
 have hno:¬ ((((sIx items.size 0 lo:Nat):Int) == 0&&(1:Int) == 1&&(sIx items.size items.size hi - sIx items.size 0 lo) == items.size)=true):=by
  intro q;rw[Jj,Jj]at q
  have q1:((sIx items.size 0 lo:Nat):Int)=0:=eq_of_beq q.1.1
  have q2:sIx items.size items.size hi - sIx items.size 0 lo=items.size:=eq_of_beq q.2;exact hw ⟨by omega,by omega⟩
 show wpAny _ _ (if (((sIx items.size 0 lo:Nat):Int) == 0&&(1:Int) == 1&&(sIx items.size items.size hi - sIx items.size 0 lo) == items.size)=true then _ else _) _ _ s
 rw[if_neg hno,yX]
 first
  | exact Jn (m:=KW _) (KQ (Jz ⟨_,rfl,Jz h⟩) htake)
  | exact Jn (m:=KW _) (KQ (Jn (Jz (Jz ⟨_,rfl,Jz h⟩))) htake)
  | exact Jn (Jn (m:=KW _) (KQ (Jz (Jz ⟨_,rfl,Jz h⟩)) htake))
  | exact Jn (Jn (m:=KW _) (KQ (Jz ⟨_,rfl,Jz h⟩) htake))
end
end HT
namespace L2
open PySem PySem.Spec PyProof.Rows
abbrev TO:=St->Hp->(Option Int->Hp->Prop)->Prop
def PO (X:Cx)(e:Option Expr)(t:TO):Prop:=
 ∀(pins:List (Addr×Obj)) (s:Jl) (σ:St) (H:Hp) (Q:Option Int->Hp->Prop),Inv X pins σ H s->t σ H Q →
  wpAny (model X.prog X.w) X.A (evalPart e X.env) (λu s'=> ∃o H',Inv X pins σ H' s'/\OP u o/\Q o H') X.xe s
def A7:TO:=λ_ H Q=>Q none H
def F3 (t:TE):TO:=λσ H Q=>t σ H λx H1=> ∃i,x= .int i/\Q (some i) H1
theorem uR {ns:List Int}:∀{us:List Ji},Vals (ns.map V.int) us->MH us ns:=by
 induction ns with
 | nil=>intro us r;rw[NI]at r;cases r;exact .nil
 | cons n ns ih=>
  intro us r;rw[Jm]at r
  cases r with
  | cons r1 r2=>
   obtain⟨t,e⟩:=r1;subst e;exact .cons n t (ih r2)
section
variable {X:Cx}{e:Expr}{te:TE}{lo hi:Option Expr}{tl th:TO}{pos p2:Pos}
theorem BL:PO X none A7:=by
 intro pins s σ H Q I h;rw[evalPart_none];exact Jz ⟨none,H,I,.none,h⟩
theorem BK (h:PE X e te):PO X (some e) (F3 te):=by
 intro pins s σ H Q I hw;rw[evalPart_some];refine bK (h pins s σ H _ I hw) λu s1 hh_=> ?_
 obtain⟨x,H1,I1,r1,q1⟩:=hh_;obtain⟨i,rfl,q⟩:=q1;obtain⟨t,rfl⟩:=r1;exact⟨some i,H1,I1,.int i t,q⟩
def SlR (X:Cx)(r:V->Option Int->Option Int->Hp->VK->Prop):Prop:=
 ∀(pins:List (Addr×Obj)) (s:Jl) (σ:St) (H:Hp) (x:V) (v vl vu:Ji) (lo hi:Option Int) (sl:Addr) (Q:VK),Inv X pins σ H s->RelV x v->s.heap.IsSliceOf sl vl vu .none->OP vl lo->OP vu hi->r x lo hi H Q →
  ∃T id,O9 (.type T) "__getitem__" =pure (some (.builtin id))/\s.TypeIs v T/\wpAny (model X.prog X.w) X.A (getItem v (.ref sl)) (EP X pins σ Q) X.xe s
theorem SlR.or {r r':V->Option Int->Option Int->Hp->VK->Prop}(h:SlR X r)(h':SlR X r'):SlR X (λx lo hi H Q=>r x lo hi H Q\/r' x lo hi H Q):=by
 intro pins s σ H x v vl vu lo hi sl Q I rx hs pl pu q;rcases q with q | q
 ·exact h pins s σ H x v vl vu lo hi sl Q I rx hs pl pu q
 ·exact h' pins s σ H x v vl vu lo hi sl Q I rx hs pl pu q
def tSl (r:V->Option Int->Option Int->Hp->VK->Prop)(te:TE)(tl th:TO):TE:=λσ H Q=>te σ H λx H1=>tl σ H1 λl H2=>th σ H2 λu H3=>r x l u H3 Q
theorem yZ {r:V->Option Int->Option Int->Hp->VK->Prop}(hr:SlR X r)(he:PE X e te)(hl:PO X lo tl)(hu:PO X hi th):PE X (.Subscript e (.Slice lo hi none p2) pos) (tSl r te tl th):=by
 intro pins s σ H Q I h;refine Subscript_ (bK (he pins s σ H _ I h) λv s1 hh_=> ?_)
 obtain⟨x,H1,I1,r1,q1⟩:=hh_;refine wpAny_Slice (bK (hl pins s1 σ H1 _ I1 q1) λvl s2 ⟨l,H2,I2,pl,q2⟩=>bK (hu pins s2 σ H2 _ I2 q2) λvu s3 hh_=> ?_)
 obtain⟨u,H3,I3,pu,q3⟩:=hh_;rw[evalPart_none];refine Jz ?_
 have I4:Inv X pins σ H3 { s3 with heap:=s3.heap.push { cls:=.type "slice",data:=.fields #[vl,vu,.none] } }:=I3.kept (t':=s3.toks) λb ob q=>Jr _ q
 obtain⟨T,id,hT,ht,hg⟩:=hr pins { s3 with heap:=s3.heap.push { cls:=.type "slice",data:=.fields #[vl,vu,.none] } } σ H3 x v vl vu l u s3.heap.objs.size Q I4 r1 (Heap.IsSliceOf.new ..) pl pu q3
 show wpAny (model X.prog X.w) X.A (OS e (.Slice lo hi none p2) v (.ref s3.heap.objs.size)) (EP X pins σ Q) X.xe { s3 with heap:=s3.heap.push { cls:=.type "slice",data:=.fields #[vl,vu,.none] } }
 exact tail_any (ops:=[.ref s3.heap.objs.size,v]) ht hT hg (by with_unfolding_all rfl)
def tG (xs:List V)(lo hi:Option Int):List V:=(xs.drop (HT.sIx xs.length 0 lo)).take (HT.sIx xs.length xs.length hi - HT.sIx xs.length 0 lo)
theorem lx (xs:List V)(lo hi:Option Int):(tG xs lo hi).length<=xs.length:=by
 unfold tG;rw[J5,J6];omega
def rSlT (K:Jh):V->Option Int->Option Int->Hp->VK->Prop:=λx lo hi H Q=> ∃a xs,x= .ref a/\SqT K H a xs ∧
 ¬(HT.sIx xs.length 0 lo=0/\HT.sIx xs.length xs.length hi=xs.length)/\∀p,H p=none->Q (.ref p) (upd H p (.tup (tG xs lo hi)))
theorem sl_tup:SlR X (rSlT X.K):=by
 intro pins s σ H x v vl vu lo hi sl Q I rx hs pl pu h;obtain⟨a,xs,rfl,hx,hw,q⟩:=h;cases rx;obtain⟨its,r,ht,hz⟩:=I.tuple hx
 have hlen:its.toArray.size=xs.length:=by rw[JB];exact r.length.symm
 refine⟨"tuple",_,Kd.lookup,ht.typeIs,?_⟩
 refine HT.getItem_tuple_cut ht hs pl pu (by rw[hlen];exact hw) ?_ (by rw[hlen];exact hz)
 rw[hlen];refine⟨.ref s.heap.objs.size,_,I.laid (t':=s.toks) (o:=.tup (tG xs lo hi)) (λb ob q=>Jr _ q) (Jw _) ?_,rfl,q _ (I.hok.fresh (Jw _))⟩
 exact⟨J2 (lx xs lo hi) hz,_,(r.drop (HT.sIx xs.length 0 lo)).take (HT.sIx xs.length xs.length hi - HT.sIx xs.length 0 lo),PN _ _⟩
def Gq (K:Jh):R2:=λx y H Q=> ∃a b xs ys,x= .ref a/\y= .ref b/\SqT K H a xs/\SqT K H b ys/\xs≠ []/\xs.length+ys.length<=sizeLine ∧
 (ys= []->Q (.ref a) H)/\(ys≠ []->∀p,H p=none->Q (.ref p) (upd H p (.tup (xs++ys))))
theorem Vals.Da {xs:List V}{us:List Ji}(r:Vals xs us):us= [] ↔xs= []:=by
 cases r with
 | nil=>simp
 | cons _ _=>simp
theorem B0:rA X (KY .Add) (Gq X.K):=by
 intro pins s σ H x y v u Q I rx ry h;obtain⟨a,b,xs,ys,rfl,rfl,ha,hb,hx,hz,q1,q2⟩:=h;cases rx;cases ry;obtain⟨its,r1,p1,_⟩:=I.tuple ha;obtain⟨its2,r2,p2,_⟩:=I.tuple hb;refine HT.cat_tup p1 p2 (λz=>hx (r1.Da.mp z)) (λz=>⟨.ref a,H,I,rfl,q1 (r2.Da.mp z)⟩) (λz=> ?_) (by rw[<-r1.length,<-r2.length];exact hz)
 refine⟨.ref s.heap.objs.size,_,I.laid (t':=s.toks) (o:=.tup (xs++ys)) (λb ob q=>Jr _ q) (Jw _) ?_,rfl,q2 (λw=>z (r2.Da.mpr w)) _ (I.hok.fresh (Jw _))⟩
 exact⟨by rw[Js];exact hz,_,r1.append r2,PN _ _⟩
end
def ixN (n:Nat)(i:Int):Option Nat:=if 0<=i then(if i<n then some i.toNat else none)else if -(n:Int)<=i then some (i+n).toNat else none
def atI {α:Type}(xs:List α)(i:Int):Option α:=(ixN xs.length i).bind λj=>xs[j]?
theorem Cf {n:Nat}{i:Int}{j:Nat}(h:ixN n i=some j):seqIndex? i n=some j/\j<n/\-(n:Int)<=i/\i<n:=by
 unfold ixN at h
 by_cases h0:0<=i
 ·rw[if_pos h0]at h
  by_cases h1:i<n
  ·rw[if_pos h1]at h
   have e:i.toNat=j:=JW h;exact⟨by rw[seqIndex_of h0 h1,e],by omega,by omega,h1⟩
  ·rw[if_neg h1]at h;cases h
 ·rw[if_neg h0]at h
  by_cases h1 : -(n:Int)<=i
  ·rw[if_pos h1]at h
   have e:(i+n).toNat=j:=JW h;exact⟨by rw[seqIndex_neg (by omega) h1,e],by omega,h1,by omega⟩
  ·rw[if_neg h1]at h;cases h
theorem rn {α:Type}{xs:List α}{i:Int}{v:α}(h:atI xs i=some v):∃j,seqIndex? i xs.length=some j/\xs[j]? =some v/\j<xs.length/\-(xs.length:Int)<=i/\i<xs.length:=by
 unfold atI at h
 cases e:ixN xs.length i with
 | none=>rw[e]at h;cases h
 | some j=>
  rw[e]at h;obtain⟨h1,h2,h3,h4⟩:=Cf e;exact⟨j,h1,h,h2,h3,h4⟩
def xc (b:Expr):Prop:=∀o i,Ot b false o i=operate [o,i] (getItem o i)
def IxR (X:Cx)(r:R2):Prop:=
 ∀(value slice:Expr) (pins:List (Addr×Obj)) (s:Jl) (σ:St) (H:Hp) (x y:V) (v u:Ji) (Q:VK),Inv X pins σ H s->RelV x v->RelV y u->r x y H Q →
  Ot slice false v u=operate [v,u] (getItem v u)->wpAny (model X.prog X.w) X.A (OS value slice v u) (EP X pins σ Q) X.xe s
def MtR (X:Cx)(id:String)(r:V->List V->Hp->VK->Prop):Prop:=
 ∀(pins:List (Addr×Obj)) (s:Jl) (σ:St) (H:Hp) (x:V) (xs:List V) (v:Ji) (us:List Ji) (Q:VK),Inv X pins σ H s->RelV x v->Vals xs us->r x xs H Q →
  wpAny (model X.prog X.w) X.A (call (.builtin id) (v::us)) (EP X pins σ Q) X.xe s
section
variable {X:Cx}{a b:Expr}{ta tb:TE}{pos:Pos}
theorem IxR.or {r r':R2}(h:IxR X r)(h':IxR X r'):IxR X (λx y H Q=>r x y H Q\/r' x y H Q):=by
 intro value slice pins s σ H x y v u Q I rx ry q hs;rcases q with q | q
 ·exact h value slice pins s σ H x y v u Q I rx ry q hs
 ·exact h' value slice pins s σ H x y v u Q I rx ry q hs
def Gp (K:Jh):R2:=λx y H Q=> ∃p xs i v,x= .ref p/\y= .int i/\SqL K H p xs/\atI xs i=some v/\Q v H
def Gm (K:Jh):R2:=λx y H Q=> ∃p xs i v,x= .ref p/\y= .int i/\SqT K H p xs/\atI xs i=some v/\Q v H
def Gn:R2:=λx y H Q=> ∃z i c,x= .str z/\y= .int i/\z.length<=sizeLine/\atI z.cps.toList i=some c/\Q (.str ⟨#[c]⟩) H
theorem ix_list:IxR X (Gp X.K):=by
 intro value slice pins s σ H x y v u Q I rx ry h hs;obtain⟨p,xs,i,z,rfl,rfl,hq,he,q⟩:=h;cases rx;obtain⟨t,rfl⟩:=ry;obtain⟨its,r,pl,hz⟩:=I.list hq;obtain⟨j,h1,h2,h3,h4,h5⟩:=rn he;obtain⟨w,ew,rw'⟩:=r.get h2
 have hl:=r.length
 have hn:=nv
 have fin:EP X pins σ Q w s:=⟨z,H,I,rw',q⟩
 by_cases h0:0<=i
 ·have hj:i.toNat=j:=by
   rw[seqIndex_of h0 h5]at h1;exact JW h1
  exact item_listR pl.isList h0 (by omega) (by rw[hj];simpa using ew) fin hs
 ·have hj:(i+(its.toArray.size:Int)).toNat=j:=by
   rw[seqIndex_neg (by omega) h4]at h1
   rw[JB,<-hl];exact JW h1
  exact NC (x:=w) pl.isList.typeIs slot_list_getitem.lookup
   (wpAny_getItem_list_neg (Q:=λr s'=>r=w/\EP X pins σ Q r s') pl.isList (by omega) (by rw[JB] <;> omega) (by omega) (by rw[hj];simpa using ew) ⟨rfl,fin⟩) hs
theorem ix_tup:IxR X (Gm X.K):=by
 intro value slice pins s σ H x y v u Q I rx ry h hs;obtain⟨p,xs,i,z,rfl,rfl,hq,he,q⟩:=h;cases rx;obtain⟨t,rfl⟩:=ry;obtain⟨its,r,pl,hz⟩:=I.tuple hq;obtain⟨j,h1,h2,h3,h4,h5⟩:=rn he;obtain⟨w,ew,rw'⟩:=r.get h2
 have hl:=r.length
 have hn:=nv
 have fin:EP X pins σ Q w s:=⟨z,H,I,rw',q⟩
 exact NC (x:=w) pl.typeIs slot_tuple_getitem.lookup
  (getItem_tuple (j:=j) (Q:=λr s'=>r=w/\EP X pins σ Q r s') pl (by omega) (by omega) (by rw[JB,<-hl];exact h1) (by simpa using ew) ⟨rfl,fin⟩) hs
theorem Ff:IxR X Gn:=by
 intro value slice pins s σ H x y v u Q I rx ry h hs;obtain⟨z,i,c,rfl,rfl,hz,he,q⟩:=h;obtain⟨t,rfl⟩:=rx;obtain⟨t',rfl⟩:=ry;obtain⟨j,h1,h2,h3,h4,h5⟩:=rn he
 have hl:z.cps.toList.length=z.length:=by simp[Str.length]
 rw[hl]at h1 h4 h5
 have hn:=nv
 exact tail_any (typeIs_str s z t) slot_str_getitem.lookup (getItem_str (c:=c) (by
  have e1:decide (i< -(2 ^ 63:Int))=false:=decide_eq_false (by omega)
  have e2:decide (i ≥ 2 ^ 63)=false:=decide_eq_false (by omega)
  rw[e1,e2,Bool.or_false]) (by rw[h1];simpa using h2) ⟨.str ⟨#[c]⟩,H,I.tok _,⟨_,rfl⟩,q⟩) hs
def rIx (K:Jh):R2:=λx y H Q=>Gp K x y H Q\/Gm K x y H Q\/Gn x y H Q
theorem Fg:IxR X (rIx X.K):=ix_list.or (ix_tup.or Ff)
theorem p0 (lo hi:Option Int)(n:Nat):(Mc lo hi none n).1=((HT.sIx n 0 lo:Nat):Int)/\(Mc lo hi none n).2.1=((HT.sIx n n hi:Nat):Int)/\(Mc lo hi none n).2.2=1:=by
 refine⟨?_,?_,rfl⟩
 ·cases lo with
  | none=>simp[Mc,HT.sIx]
  | some i=>
   simp only[Mc,HT.sIx,Pr,show(1:Int) > 0 by decide,if_true]
   by_cases h:i<0
   ·simp only[h,if_true] <;> omega
   ·simp only[h,if_false] <;> omega
 ·cases hi with
  | none=>simp[Mc,HT.sIx]
  | some i=>
   simp only[Mc,HT.sIx,Pr,show(1:Int) > 0 by decide,if_true]
   by_cases h:i<0
   ·simp only[h,if_true] <;> omega
   ·simp only[h,if_false] <;> omega
theorem om (its:List Ji)(lo hi:Option Int):slicePick its.toArray lo hi none=((its.drop (HT.sIx its.length 0 lo)).take (HT.sIx its.length its.length hi - HT.sIx its.length 0 lo)).toArray:=by
 obtain⟨h1,h2,h3⟩:=p0 lo hi its.toArray.size;unfold slicePick;rw[h1,h2,h3];simp only[sliceRange_one,pick_run,JB] <;> rfl
def rSlL (K:Jh):V->Option Int->Option Int->Hp->VK->Prop:=λx lo hi H Q=> ∃a xs,x= .ref a/\SqL K H a xs/\∀p,H p=none->Q (.ref p) (upd H p (.lst (tG xs lo hi)))
theorem Bc:SlR X (rSlL X.K):=by
 intro pins s σ H x v vl vu lo hi sl Q I rx hs pl pu h;obtain⟨a,xs,rfl,hx,q⟩:=h;cases rx;obtain⟨its,r,ht,hz⟩:=I.list hx
 have hlen:=r.length;refine⟨"list",_,slot_list_getitem.lookup,ht.isList.typeIs,?_⟩
 refine wpAny_getItem_list_slice ht.isList hs pl pu .none (by simp) ?_ (by rw[JB] <;> omega)
 rw[om,<-hlen];refine⟨.ref s.heap.objs.size,_,I.laid (t':=s.toks) (o:=.lst (tG xs lo hi)) (λb ob q=>Jr _ q) (Jw _) ?_,rfl,q _ (I.hok.fresh (Jw _))⟩
 exact⟨J2 (lx xs lo hi) hz,_,0,(r.drop (HT.sIx xs.length 0 lo)).take (HT.sIx xs.length xs.length hi - HT.sIx xs.length 0 lo),JF _ rfl⟩
theorem call_len_seq:CallR X (.builtin "len") (λxs H Q=> ∃p ys,xs= [.ref p]/\(SqL X.K H p ys\/SqT X.K H p ys)/\Q (.int ys.length) H):=by
 intro pins s σ H xs us Q I r h;obtain⟨p,ys,rfl,hq,q⟩:=h;obtain⟨u,rfl,rx⟩:=mz r;cases rx
 have hn:=nv;rcases hq with hq | hq
 ·obtain⟨its,r',pl,hz⟩:=I.list hq
  have hlen:=r'.length;exact Calls.call_len_list pl.isList (by simp only[JB] <;> omega) ⟨.int ys.length,H,I.tok _,⟨s.toks+1,by rw[JB,hlen]⟩,q⟩
 ·obtain⟨its,r',pl,hz⟩:=I.tuple hq
  have hlen:=r'.length;exact len_tuple pl (by simp only[JB] <;> omega) ⟨.int ys.length,H,I.tok _,⟨s.toks+1,by rw[JB,hlen]⟩,q⟩
theorem rj:CallR X (.builtin "len") (λxs H Q=> ∃z,xs= [.str z]/\z.length<=sizeLine/\Q (.int z.length) H):=by
 intro pins s σ H xs us Q I r h;obtain⟨z,rfl,hz,q⟩:=h;obtain⟨u,rfl,t,rfl⟩:=mz r
 have hn:=nv;exact len_str (by omega) ⟨.int z.length,H,I.tok _,⟨_,rfl⟩,q⟩
theorem CallR.or {f:Ji}{r r':List V->Hp->VK->Prop}(h:CallR X f r)(h':CallR X f r'):CallR X f (λxs H Q=>r xs H Q\/r' xs H Q):=by
 intro pins s σ H xs us Q I rs q;rcases q with q | q
 ·exact h pins s σ H xs us Q I rs q
 ·exact h' pins s σ H xs us Q I rs q
theorem oO:CallR X (.type "tuple") (λxs H Q=> ∃p ys,xs= [.ref p]/\((SqL X.K H p ys/\∀l,H l=none->Q (.ref l) (upd H l (.tup ys)))\/(SqT X.K H p ys/\Q (.ref p) H))):=by
 intro pins s σ H xs us Q I r h;obtain⟨p,ys,rfl,h⟩:=h;obtain⟨u,rfl,rx⟩:=mz r;cases rx;rcases h with⟨hq,q⟩ | ⟨hq,q⟩
 ·obtain⟨its,r',pl,hz⟩:=I.list hq
  have hlen:=r'.length;refine call_tuple_list pl.isList (λh' kp=> ?_) (by simp only[JB] <;> omega)
  have I1:Inv X pins σ H { s with heap:=h' }:=I.kept (t':=s.toks) kp
  have I2:Inv X pins σ (upd H h'.objs.size (.tup ys)) { s with heap:=h'.push { cls:=.type "tuple",data:=.seq its.toArray } }:=
   I1.laid (t':=s.toks) (λb o e=>Jr _ e) (Jw _) (show ObjOk X.prog X.w _ _ _ (.tup ys)from⟨hz,its,r',PN _ _⟩)
  exact⟨.ref h'.objs.size,_,I2,rfl,q _ (I1.hok.fresh (Jw _))⟩
 ·obtain⟨its,r',pl,hz⟩:=I.tuple hq
  exact call_tuple_same pl ⟨.ref p,H,I,rfl,q⟩
def tyV (K:Jh)(T:String)(x:V)(H:Hp):Prop:=match x with
 | .str _=>T= "str"
 | .int _=>T= "int"
 | .ref p=>(T= "list"/\∃xs,SqL K H p xs)\/(T= "tuple"/\∃o,K.lookup p=some o/\o.cls= .type "tuple"/\o.dict=none) ∨
   (T= "dict"/\((∃kvs,H p=some (.dK kvs))\/∃kvs,H p=some (.dT kvs)))\/(T= "set"/\∃S n,H p=some (.set S n))
 | _=>False
theorem tV {pins:List (Addr×Obj)}{σ:St}{H:Hp}{s:Jl}{T:String}{x:V}{v:Ji}(I:Inv X pins σ H s)(r:RelV x v)(ty:tyV X.K T x H) :
  s.TypeIs v T/\∀a,v= .ref a->∃ob,s.heap.get? a=some ob/\ob.dict=none:=by
 cases x with
 | str z=>
  obtain⟨t,rfl⟩:=r;cases (show T= "str" from ty)
  exact⟨typeIs_str s z t,λ_ e=>nomatch e⟩
 | int i=>
  obtain⟨t,rfl⟩:=r;cases (show T= "int" from ty)
  exact⟨N5 s i t,λ_ e=>nomatch e⟩
 | ref p=>
  cases r;rcases ty with⟨rfl,xs,hq⟩ | ⟨rfl,o,hk,hc,hd⟩ | ⟨rfl,hk⟩ | ⟨rfl,S,n,hk⟩
  ·obtain⟨its,_,pl,_⟩:=I.list hq
   refine⟨pl.isList.typeIs,λa e=> ?_⟩
   cases e;obtain⟨o,n,e,c,hd,_⟩:=pl;exact⟨o,e,hd⟩
  ·refine⟨⟨o,I.kIn p o hk,hc⟩,λa e=> ?_⟩
   cases e;exact⟨o,I.kIn _ o hk,hd⟩
  ·have z:∃o,s.heap.get? p=some o/\o.ExactDict:=by
    rcases hk with⟨kvs,hk⟩ | ⟨kvs,hk⟩
    ·obtain⟨_,_,_,_,o,_,_,e,ex,_⟩:=I.hok p _ hk
     exact⟨o,e,ex⟩
    ·obtain⟨_,_,_,_,o,_,_,e,ex,_⟩:=I.hok p _ hk
     exact⟨o,e,ex⟩
   obtain⟨o,e,ex⟩:=z;refine⟨⟨o,e,ex.1⟩,λa e2=> ?_⟩
   cases e2;exact⟨o,e,ex.2.1⟩
  ·obtain⟨o,_,_,_,e,ex,_⟩:=I.hok p _ hk
   refine⟨⟨o,e,ex.1⟩,λa e2=> ?_⟩
   cases e2
   exact⟨o,e,ex.2.1⟩
 | _=>exact K6 ty
def tBM0 (K:Jh)(T:String)(r:V->List V->Hp->VK->Prop)(to:TE):TE:=λσ H Q=>to σ H λx H1=>tyV K T x H1/\r x [] H1 Q
def tBM (K:Jh)(T:String)(r:V->List V->Hp->VK->Prop)(to:TE)(t:TA):TE:=λσ H Q=>to σ H λx H1=>tyV K T x H1/\t σ H1 λxs H2=>r x xs H2 Q
variable {o e:Expr}{es:List Expr}{to:TE}{t:TA}{name:Str}{apos cpos:Pos}{T id:String}{r:V->List V->Hp->VK->Prop}
theorem Ex (pa:PlainAttrs T)(slot:Slot T name id)(hty:typeOf (.builtin id)=pure (.type "method_descriptor"))(hm:MtR X id r)(ho:PE X o to)
  (hbase:JM o name X.env (eval o X.env)=eval o X.env:=by rfl) (hline:(apos.endLine == cpos.line)=true:=by rfl):PE X (.Call (.Attribute o name apos) [] [] cpos) (tBM0 X.K T r to):=by
 intro pins s σ H Q I h;refine wpAny_Call_method0_late hbase hline (bK (ho pins s σ H _ I h) λv s1 hh_=> ?_)
 obtain⟨x,H1,I1,r1,ty,q1⟩:=hh_;obtain⟨h1,h2⟩:=tV I1 r1 ty;exact⟨T,id,pa,slot,hty,h1,h2,Ls rfl (PySem.evalArgs_none (hm pins s1 σ H1 x [] v [] Q I1 r1 .nil q1))⟩
theorem vQ (pa:PlainAttrs T)(slot:Slot T name id)(hty:typeOf (.builtin id)=pure (.type "method_descriptor"))(hm:MtR X id r)(ho:PE X o to)(ha:PA X (e::es) t)
  (hbase:JM o name X.env (eval o X.env)=eval o X.env:=by rfl)
  (hfew:((backTo cpos (Jy (e::es) X.env)).all (λx=> !x.1)&&(MW cpos (Lz [] X.env)).all (λx=>x.1.isSome)
   &&decide ((e::es).length+([]:List PZ).length+(if ([]:List PZ).isEmpty then 0 else 1)<30))=true:=by rfl)
  (hline:(apos.endLine == cpos.line)=true:=by rfl) (hs:Jy (e::es) X.env=(false,eval e X.env)::Jy es X.env:=by rfl) (hplain:(backTo cpos (Jy es X.env)).any (·.1)=false:=by rfl) :
  PE X (.Call (.Attribute o name apos) (e::es) [] cpos) (tBM X.K T r to t):=by
 intro pins s σ H Q I h;refine ND hbase hfew hline rfl (bK (ho pins s σ H _ I h) λv s1 hh_=> ?_)
 obtain⟨x,H1,I1,r1,ty,q1⟩:=hh_;obtain⟨h1,h2⟩:=tV I1 r1 ty;refine⟨T,id,pa,slot,hty,h1,h2,?_⟩
 have hA:=ha cpos pins s1 σ H1 _ I1 q1;rw[hs]at hA ⊢;refine Ls (by show(false||(backTo cpos (Jy es X.env)).any (·.1))=false;rw[hplain] <;> rfl) (LF ?_)
 exact bK hA λus s2 ⟨vs,H2,I2,r2,q2⟩=>hm pins s2 σ H2 x vs v us Q I2 r1 r2 q2
end
def MtM (X:Cx)(id:String)(r:V->List V->Hp->VK->Prop):Prop:=
 ∀(pins:List (Addr×Obj)) (s:Jl) (σ:St) (H:Hp) (x:V) (xs:List V) (v:Ji) (us:List Ji) (Q:VK),Inv X pins σ H s->RelV x v->Vals xs us->r x xs H Q →
  wpAny (model X.prog X.w) X.A (call (.builtin id) (v::us)) (EP X pins σ Q) X.xe s
theorem Vals.one:∀{x:V} {us:List Ji},Vals [x] us->∃u,us= [u]/\RelV x u
 | _,_,.cons r .nil=>⟨_,rfl,r⟩
theorem Vals.zero:∀{us:List Ji},Vals [] us->us= []
 | _,.nil=>rfl
theorem Vals.dropLast {xs:List V}{us:List Ji}(h:Vals xs us):Vals xs.dropLast us.dropLast:=by
 induction h with
 | nil=>exact .nil
 | cons r t ih=>
  cases t with
  | nil=>exact .nil
  | cons q t'=>exact .cons r ih
theorem Vals.rep {xs:List V}{us:List Ji}(h:Vals xs us):∀k:Nat,Vals (JH k xs).flatten (JH k us).flatten
 | 0=> .nil
 | k+1=>by
  rw[KM,KM,Li,Li];exact Vals.append h (Vals.rep h k)
theorem uW {α:Type}(l:List α):l.eraseIdx (l.length - 1)=l.dropLast:=by
 induction l with
 | nil=>rfl
 | cons a r ih=>
  cases r with
  | nil=>rfl
  | cons b r=>
   have e:(a::b::r).length - 1=((b::r).length - 1)+1:=by
    have h1:(a::b::r).length=r.length+2:=rfl
    have h2:(b::r).length=r.length+1:=rfl;omega
   rw[e,List.eraseIdx_cons_succ,ih]
   all_goals rfl
theorem foldl_rep (its:List Ji):∀(k:Nat) (acc:List Ji),
  M6 (λx1 x2=>x1++x2) acc.toArray (JH k its.toArray)=(acc++(JH k its).flatten).toArray
 | 0,acc=>by simp
 | k+1,acc=>by
  have e:acc.toArray++its.toArray=(acc++its).toArray:=by simp
  have e2:(acc++its)++(JH k its).flatten=acc++(JH (k+1) its).flatten:=by
   rw[KM,Li,Kj]
  rw[<-e2,<-foldl_rep its k (acc++its),<-e,KM,List.foldl_cons]
section
variable {X:Cx}{pins:List (Addr×Obj)}{σ:St}{H:Hp}{s:Jl}{l b:Addr}{xs ys zs:List V}
theorem Inv.IR {its its':List Ji}{n:Nat}{f:Array Ji->Array Ji}{t':Nat}(I:Inv X pins σ H s)(hH:H l=some (.lst xs))
  (e:s.heap.get? l=some { cls:=.type "list",data:=.seq its.toArray n }) (hf:f its.toArray=its'.toArray) (hv:Vals ys its') (hz:ys.length<=sizeLine) :
  Inv X pins σ (upd H l (.lst ys)) { s with heap:=s.heap.update l (Obj.mapSeq f),toks:=t' }:=by
 have q:=PySem.IsL.update e f;rw[hf]at q;refine I.write (x:=l) (e:=l) (by rw[hH];exact trivial) (.inl rfl) (λb' u hb hu=>(L6 s.heap (Obj.mapSeq f) (LD hb)).trans hu) ⟨_,q⟩ ?_
 exact⟨hz,its',_,hv,q⟩
theorem Inv.IQ {its:List Ji}{t':Nat}(I:Inv X pins σ H s)(hv:Vals ys its)(hz:ys.length<=sizeLine) :
  Inv X pins σ (upd H s.heap.objs.size (.lst ys)) { s with heap:=s.heap.push { cls:=.type "list",data:=.seq its.toArray },toks:=t' }:=
 I.laid (λ_ _ q=>Jr _ q) (Jw _) ⟨hz,its,0,hv,JF _ rfl⟩
theorem Inv.fresh (I:Inv X pins σ H s):H s.heap.objs.size=none:=I.hok.fresh (Jw _)
theorem Inv.Iv (I:Inv X pins σ H s)(hH:H l=some (.lst xs)):xs.length<=sizeLine/\∃(its:List Ji) (n:Nat),Vals xs its/\xs.length=its.length/\s.heap.get? l=some { cls:=.type "list",data:=.seq its.toArray n }:=by
 obtain⟨z,its,n,r,e⟩:=I.hok l _ hH;exact⟨z,its,n,r,r.length,e⟩
theorem sj {n:Nat}(h:n<=sizeLine):Lg n=false:=by
 unfold Lg;exact decide_eq_false (by omega)
end
section
variable {X:Cx}
def Bj:V->List V->Hp->VK->Prop:=λx vs H Q=> ∃l xs y,x= .ref l/\vs= [y]/\H l=some (.lst xs)/\xs.length<sizeLine/\Q .non (upd H l (.lst (xs++ [y])))
theorem i8:MtM X "list.append" Bj:=by
 intro pins s σ H x vs v us Q I rx rv h;obtain⟨l,xs,y,rfl,rfl,hH,hz,q⟩:=h;cases rx;obtain⟨u,rfl,ru⟩:=rv.one;obtain⟨z,its,n,r,hl,e⟩:=I.Iv hH;refine Md F.slot_list_append ⟨_,e,rfl⟩ F.entry_list_append (F.args_list_append_2 _ _) (PySem.list_append l its.toArray n u (by rw[JB];omega)) ⟨e,?_⟩
 refine⟨.non,_,I.IR (its':=its++ [u]) hH e (by simp) (r.append (.cons ru .nil)) ?_,rfl,q⟩
 rw[Js,Kv];omega
def Bi:V->List V->Hp->VK->Prop:=λx vs H Q=> ∃l b xs zs,x= .ref l/\vs= [.ref b]/\H l=some (.lst xs)/\H b=some (.lst zs)/\xs.length+zs.length<=sizeLine/\Q .non (upd H l (.lst (xs++zs)))
theorem xJ:MtM X "list.extend" Bi:=by
 intro pins s σ H x vs v us Q I rx rv h;obtain⟨l,b,xs,zs,rfl,rfl,hH,hB,hz,q⟩:=h;cases rx;obtain⟨u,rfl,ru⟩:=rv.one;cases ru;obtain⟨z,its,n,r,hl,e⟩:=I.Iv hH;obtain⟨z2,its2,n2,r2,hl2,e2⟩:=I.Iv hB
 have hsz:its.toArray.size+its2.toArray.size<=sizeLine:=by rw[JB,JB];omega
 have hlong:¬ (!its.toArray.isEmpty&&Lg (its.toArray.size+its2.toArray.size))=true:=by
  rw[sj hsz,Bool.and_false];exact JJ
 refine Md F.slot_list_extend ⟨_,e,rfl⟩ F.entry_list_extend (F.args_list_extend_2 _ _)
  (AutoSeq1.list_extend_list_list_0 l its.toArray n b its2.toArray n2 hlong (by rw[JB];omega) (by omega)) ⟨e,e2,?_⟩
 refine⟨.non,_,I.IR (its':=its++its2) hH e (by simp) (r.append r2) ?_,rfl,q⟩
 rw[Js];omega
def rPop:V->List V->Hp->VK->Prop:=λx vs H Q=> ∃l xs y,x= .ref l/\vs= []/\H l=some (.lst xs)/\xs[xs.length - 1]? =some y/\Q y (upd H l (.lst xs.dropLast))
theorem EM:MtM X "list.pop" rPop:=by
 intro pins s σ H x vs v us Q I rx rv h;obtain⟨l,xs,y,rfl,rfl,hH,hy,q⟩:=h;cases rx
 have hus:=rv.zero;subst hus;obtain⟨z,its,n,r,hl,e⟩:=I.Iv hH;obtain⟨u,hu,ru⟩:=r.get hy
 have hy':its.toArray[its.toArray.size - 1]? =some u:=by
  show its.toArray[its.length - 1]? =some u
  rw[<-Array.getElem?_toList,<-hl]
  exact hu
 refine Md F.slot_list_pop ⟨_,e,rfl⟩ F.entry_list_pop (F.args_list_pop_1 _) (MeetsSeq.list_pop_last l its.toArray n u hy' (by rw[JB];omega)) ⟨e,?_⟩
 refine⟨y,_,I.IR (its':=its.dropLast) hH e ?_ r.dropLast ?_,ru,q⟩
 ·show its.toArray.eraseIdxIfInBounds (its.toArray.size - 1)=its.dropLast.toArray
  rw[JB,List.eraseIdxIfInBounds_toArray,uW]
 ·rw[List.length_dropLast]
  omega
def rCat:R2:=λx y H Q=> ∃l b xs zs,x= .ref l/\y= .ref b/\H l=some (.lst xs)/\H b=some (.lst zs)/\xs.length+zs.length<=sizeLine/\∀p,H p=none->Q (.ref p) (upd H p (.lst (xs++zs)))
theorem EF:rA X (KY .Add) rCat:=by
 intro pins s σ H x y v u Q I rx ry h;obtain⟨l,b,xs,zs,rfl,rfl,hH,hB,hz,q⟩:=h;cases rx;cases ry;obtain⟨z,its,n,r,hl,e⟩:=I.Iv hH;obtain⟨z2,its2,n2,r2,hl2,e2⟩:=I.Iv hB;refine PySem.P.add_list e e2 ?_ (by rw[JB,JB];omega)
 have ea:its.toArray++its2.toArray=(its++its2).toArray:=by simp
 rw[ea];exact⟨.ref _,_,I.IQ (t':=s.toks) (r.append r2) (by rw[Js];omega),rfl,q _ I.fresh⟩
def rRep:R2:=λx y H Q=> ∃l k xs,x= .ref l/\y= .int k/\H l=some (.lst xs)/\-(2 ^ 63)<=k/\k<2 ^ 63/\xs.length*k.toNat<=sizeLine ∧
 ∀p,H p=none->Q (.ref p) (upd H p (.lst (JH k.toNat xs).flatten))
theorem len_rep {α:Type}(xs:List α)(k:Nat):(JH k xs).flatten.length=k*xs.length:=by
 induction k with
 | zero=>simp
 | succ k ih=>rw[KM,Li,Js,ih,Nat.succ_mul,Ph]
theorem EB:rA X (KY .Mult) rRep:=by
 intro pins s σ H x y v u Q I rx ry h;obtain⟨l,k,xs,rfl,rfl,hH,h1,h2,hz,q⟩:=h;cases rx;obtain⟨t,rfl⟩:=ry;obtain⟨z,its,n,r,hl,e⟩:=I.Iv hH
 have hlen:its.toArray.size*k.toNat<=sizeLine:=by rw[JB,<-hl];exact hz
 have hcap:¬ its.toArray.size*k.toNat > (2 ^ 63 - 1) / 8:=by
  have:(sizeLine:Nat)<=(2 ^ 63 - 1) / 8:=by decide
  omega
 have hfit:¬ (!Builtin.List.listFitsIndex k)=true:=by
  rw[fitsIndex_both h1 h2];exact JJ
 have hlong:¬ Lg (its.toArray.size*k.toNat)=true:=by
  rw[sj hlen];exact JJ
 have hnew:M6 (λx1 x2=>x1++x2) #[] (JH (if its.toArray.isEmpty=true then 0 else k.toNat) its.toArray)=(JH k.toNat its).flatten.toArray:=by
  have f0:∀m:Nat,M6 (λx1 x2=>x1++x2) #[] (JH m its.toArray)=(JH m its).flatten.toArray:=λm=>by
   have:=foldl_rep its m [];rw[MA]at this;exact this
  rw[f0]
  cases its with
  | nil=>simp
  | cons a r'=>rw[if_neg (by simp)]
 refine MY (T:="list") (U:="int") (by decide) ⟨_,e,rfl⟩ (λs'=>N5 s' k t) noFill_list_mul PP MB repeat_list Pt.lookup
  (Md MB (N5 s k t) Pu (OZ _ _) (int___rmul___int_list k t l its.toArray n)
   ⟨e,rfl,⟨_,e,rfl⟩,Md F.slot_list_mul ⟨_,e,rfl⟩ F.entry_list_mul (F.args_list_mul_2 _ _) (Oy l its.toArray n k t hfit hcap hlong) ⟨e,?_⟩⟩)
 rw[hnew];exact⟨.ref _,_,I.IQ (t':=s.toks) (r.rep k.toNat) (by rw[len_rep,Pj];exact hz),rfl,q _ I.fresh⟩
end
end L2
namespace Att
open PySem PySem.W PySem.Calls PyProof.Rows
theorem lR {P:Params}{h:Heap}:∀(ns:List Int) (vs:List Ji),WellAll P h vs (ns.map WData.int)->MH vs ns:=by
 intro ns
 induction ns with
 | nil=>
  intro vs w;rw[NI]at w;cases w
  exact .nil
 | cons n ns ih=>
  intro vs w;rw[Jm]at w
  cases w with
  | cons a b=>
   cases a;exact .cons _ _ (ih _ b)
theorem xn {l:OpenLaw}{n:Nat}(hn:l.most=some n){P:Params}{h:Heap}{args:List WData}{vals:List Ji}
  (hpre:l.row.toRowW.claim.pre args=true) (hwl:WellAll P h vals args) :
  ∃a vs ns,vals= [JQ a]/\args= [WData.list (ns.map WData.int)]/\h.get? a=some { cls:=.type "list",data:=.seq vs.toArray }/\MH vs ns/\ns.length<=n:=by
 have hsh:WShape.hasAll [] args [.list .int] =true:=(pre_splitW hpre).1
 have hc:l.pre.holds [] { args:=args }=true:=(pre_splitW hpre).2;obtain⟨d,r,rfl,h1,h2⟩:=hasAllW_cons hsh;obtain rfl:=hasAllW_nil h2;obtain⟨xs,rfl,h3⟩:=hasW_list h1;obtain⟨ns,rfl⟩:=items_int h3
 have hlen:ns.length<=n:=by
  unfold OpenLaw.pre at hc
  have h4:(WTm.not (.lt (.lit (.int (n:Int))) (.len (.arg 0)))).holds [] { args:=[.list (ns.map .int)] }=true:=by
   have h4:=(holds_andW hc).1;rw[hn]at h4;exact h4
  have h5:=condW_of h4 (w_not (w_lt w_lit (w_len_list (w_arg rfl))));rw[Jo]at h5;refine Nat.le_of_not_lt λq=> ?_
  have q':(n:Int)<((ns.length:Nat):Int):=by omega
  first
   | (rw[decide_eq_true q']at h5;exact absurd h5 (by decide))
   | (simp at h5;omega)
 cases hwl with
 | cons w1 w2=>
  cases w2
  cases w1 with
  | list ho hall=>exact⟨_,_,ns,rfl,rfl,ho,lR ns _ hall,hlen⟩
theorem xw (l:OpenLaw)(args:List WData):l.row.toRowW.claim.post args (.bool true) args=true:=
 postW_of (r:=l.row.toRowW) (X:=(true == true))
  (show WShape.has [] (.bool true) .bool=true by first | rfl | decide | simp[WShape.has,WShape.arms,WShape.armsAll])
  (show(WTm.eq .res (.lit (.bool true))).value [] { args:=args,res:=some (.bool true),after:=args }=some (.bool (true == true))from w_eq_bool (w_res rfl) w_lit) rfl
theorem attach_call {l:OpenLaw}{n:Nat}{q:JK}{loose:List Str}{XP:(Str->Option Ji)->Heap->Prop}{YP:Kn->Heap->Prop}{d:DefRec}
  (hn:l.most=some n) (hdf:d.params.defaults= [])
  (call:∀(w:Kn) (s₀ s₁:Jl) (mg mb:Str->Option Ji) (fa:Addr) (o:Obj) (pm cd doc:Ji) (a:Addr) (vs:List Ji) (ns:List Int),
   Ground q loose [] XP w s₀ mg mb s₁.heap->YP w s₁.heap →
   s₁.heap.get? fa=some o->o.data= .func (docDef d.name d.params d.body d.scope pm cd doc)->s₁.heap.CodeRec cd d.name->mg d.name=some (.ref fa) →
   s₁.heap.get? a=some { cls:=.type "list",data:=.seq vs.toArray }->MH vs ns->ns.length<=n->s₁.gens= #[] →
   codeAny (model l.prog w) callerA (.call (.ref fa) ⟨[.ref a],[]⟩) (λr s'=>r= .ok (.ret (.bool true))/\OldK s₁.heap s'.heap/\s'.os=s₁.os/\Nm s'.gens) s₁) :
  WalkO q loose XP YP l.row.toRowW d [] (λf vs=>PySem.call f vs):=by
 intro w s₀ s₁ mg mb G Y fa o pm cd doc dV kV ho hd hcd hD hmg hg args vals as hpre hlay hrd hwl hlo;obtain rfl:dV= .none:=Dflts.none hD hdf;obtain rfl:kV= .none:=Dflts.noKw hD;obtain⟨a,vs,ns,rfl,rfl,hobj,hints,hlen⟩:=xn hn hpre hwl;refine enter_call (LR (call w s₀ s₁ mg mb fa o pm cd doc a vs ns G Y ho (fd_plain hd) hcd hmg hobj hints hlen hg) λr s' hq=> ?_)
 obtain⟨rfl,h2,h3,h4⟩:=hq;exact⟨.inl ⟨.bool true,.bool true,[],rfl,λ_=>rfl,.bool true,xw l _,λ_=>⟨List.Pairwise.nil,λ_ hm=>(nomatch hm)⟩⟩,h2,h3,h4⟩
end Att
namespace L2
open PySem PySem.Spec PyProof.Rows
theorem oU:∀{vs:List Ji} {ns:List Int},MH vs ns->Vals (ns.map V.int) vs
 | _,_,.nil=> .nil
 | _,_,.cons n t h=> .cons ⟨t,rfl⟩ (oU h)
def FH (H:Hp):Prop:=∀b,H b=none\/∃o xs,H b=some (.frz o (.lst xs))
theorem zD {P:JK}{w:Kn}{K:Jh}{mg mb:Str->Option Ji}{CX:AY}{k:Nat}{fa a:Addr}{fd:Ki}{x:Str}{sp:Sp}{s₁:Jl}{vs:List Ji}{ns:List Int}
  (KX:K.In s₁.heap) (hns:s₁.heap.Ns JV mg) (hb:s₁.heap.Ns Na mb) (hbb:∀x:Str,x≠ "__name__"->mb x=Kc x) (hlim:s₁.heap.NoLimit) (hg:s₁.gens= #[])
  (ha:s₁.heap.get? a=some { cls:=.type "list",data:=.seq vs.toArray }) (hi:MH vs ns) (hl:ns.length<=sizeLine) (hr:Room k callerA)
  (F:∀base:Heap,K.In base->base.Ns JV mg->nZ P w K mg base CX k fa fd [x] sp) (hbind:∀(s:Jl) (u:Ji),NW s fd ⟨[u],[]⟩ [(x,u)])
  (hsp:∀H:Hp,FH H->SqL K H a (ns.map V.int)->sp [.ref a] H (λv _=>v= .bl true) λ_ _ _=>False)
  (hCX:∀H e s',CX [] H s₁ (λ_ _ _=>False) e s'->False) :
  codeAny (model P w) callerA (.call (.ref fa) ⟨[.ref a],[]⟩) (λr s'=>r= .ok (.ret (.bool true))/\OldK s₁.heap s'.heap/\s'.os=s₁.os/\Nm s'.gens) s₁:=by
 have rv:=oU hi
 have lenV:=hi.length
 -- from an abstract heap in which nothing but the script may be tracked
 have core:∀H:Hp,FH H->SqL K H a (ns.map V.int)->HOk P w H s₁.heap->(∀b,H b≠none->b=a)->(H a≠none->K.lookup a=none) →
   codeAny (model P w) callerA (.call (.ref fa) ⟨[.ref a],[]⟩) (λr s'=>r= .ok (.ret (.bool true))/\OldK s₁.heap s'.heap/\s'.os=s₁.os/\Nm s'.gens) s₁:=by
  intro H hO hS hok hA hK
  have base_of:∀{b:Addr} {o:Obj},s₁.heap.get? b=some o->H b=none->(qW s₁.heap H).get? b=some o:=λe n=>z0 e n
  have noA:∀{b:Addr} {o:Obj} {es:Array DictEntry} {ep:Nat},s₁.heap.get? b=some o->o.data= .dict es ep->H b=none:=λ{b o es ep} e d=>by
   cases q:H b with
   | none=>rfl
   | some u=>
    have e':b=a:=hA b (by rw[q];simp)
    subst e';rw[ha]at e;cases e
    have d':Data.seq vs.toArray _=Data.dict es ep:=d;cases d'
  have nsK:∀{b:Addr} {m:Str->Option Ji},s₁.heap.Ns b m->(qW s₁.heap H).Ns b m:=λ{b m} ⟨o,es,ep,e,d,r⟩=>⟨o,es,ep,base_of e (noA e d),d,r⟩
  have hKb:K.In (qW s₁.heap H):=λb o e=>base_of (KX b o e) (by
   cases q:H b with
   | none=>rfl
   | some u=>
    have e':b=a:=hA b (by rw[q];simp)
    subst e';rw[hK (by rw[q];simp)]at e;cases e)
  have hM:Mod K mg (qW s₁.heap H):=⟨hKb,nsK hns,⟨mb,nsK hb,hbb⟩,let ⟨mc,h1,h2⟩:=hlim;⟨mc,nsK h1,h2⟩⟩
  have e0:Env0 P w K mg (qW s₁.heap H) callerA [] s₁ H:=⟨rfl,hM,λb o e=>B1 e,Mp (xV _ _),trivial,λb hb=>absurd (show b∈([]:List Addr)from hb) (by simp),hok,.of_eq hg⟩
  refine LR ((F _ hKb (nsK hns)).run callerA [] s₁ H ⟨[.ref a],[]⟩ [.ref a] [.ref a] _ _ hr e0 (hbind s₁ (.ref a)) (.cons rfl .nil) (hsp H hO hS)) λr s' h=> ?_
  cases r with
  | error e=>exact(hCX H e s' h).elim
  | ok fl=>
   cases fl with
   | next=>exact K6 h
   | brk=>exact K6 h
   | cont=>exact K6 h
   | ret u=>
    obtain⟨v,H',os,bare,un,hok',r',q⟩:=h
    have q':v= .bl true:=q;subst q';obtain rfl:u=Ko true:=r';refine⟨rfl,OldK.of_keep λb o e=> ?_,os,bare⟩
    cases q:H b with
    | none=>exact un.keep b o e q (by intro z;exact absurd (show b∈([]:List Addr)from z) (by simp)) (by simp)
    | some u=>
     rcases hO b with z | ⟨ob,xs,z⟩
     ·rw[q]at z;cases z
     ·have z2:=un.frzs b ob _ z
      obtain⟨e1,_⟩:=hok b _ z;obtain⟨e2,_⟩:=hok' b _ z2;rw[e]at e1;cases e1;exact e2
 cases hk:K.lookup a with
 | some o=>
  -- the script is one of the module's own objects
  have e:=KX a o hk;rw[ha]at e;cases e
  refine core (λ_=>none) (λ_=> .inl rfl) (.inr ⟨_,vs.toArray,_,hk,rfl,rfl,rfl,by rw[JB,lenV];exact hl,by simpa using rv⟩) (λb u z=>by have z':(none:Option HO)=some u:=z;cases z') (λb z=>absurd rfl z) λz=>absurd rfl z
 | none=>
  refine core (λb=>if b=a then some (.frz { cls:=.type "list",data:=.seq vs.toArray } (.lst (ns.map V.int)))else none) (λb=> ?_) (.inl (.inr ⟨{ cls:=.type "list",data:=.seq vs.toArray },if_pos rfl⟩)) (λb u z=> ?_) (λb z=> ?_) λ_=>hk
  ·by_cases hb:b=a
   ·exact .inr ⟨_,_,if_pos hb⟩
   ·exact .inl (if_neg hb)
  ·by_cases hb:b=a
   ·have z':=(if_pos hb).symm.trans z
    cases z';subst hb;exact⟨ha,by rw[Jo];exact hl,vs,_,rv,ha⟩
   ·have z':=(if_neg hb).symm.trans z
    cases z'
  ·by_cases hb:b=a
   ·exact hb
   ·exact absurd (if_neg hb) z
def cu (s:Stmt)(j:Nat):Stmt:=match s with
 | .ClassDef _ _ _ body _ _ _ _ _ _ _=>body.getD j (.Pass ⟨0,0,0,0⟩)
 | _=> .Pass ⟨0,0,0,0⟩
def eU (s:Stmt):NX:=match s with
 | .FunctionDef _ a _ _ _ _ _ _ _ _=>a
 | _=> { posonlyargs:=[],args:=[],vararg:=none,kwonlyargs:=[],kw_defaults:=[],kwarg:=none,defaults:=[] }
def bx (s:Stmt):List Stmt:=match s with
 | .FunctionDef _ _ b _ _ _ _ _ _ _=>b
 | _=> []
def aj (s:Stmt):Ma:=match s with
 | .FunctionDef _ _ _ _ _ _ sc _ _ _=>sc
 | _=> { kind:=.function,names:=[],isGenerator:=false,isCoroutine:=false }
abbrev CX0:AY:=λ_ _ _ _ _ _=>False
abbrev E0:XK:=λ_ _ _=>False
theorem vR {X:Cx}:vg CX0 X E0:=λ_ _ _ _ _ _ _ h=>h.elim
structure Fun (K:Jh)(x qual:Str)(st:Stmt)(f:Addr)(fd:Ki):Prop where
 ex:∃(oc:Ji) (od:Option Addr) (kV doc pm:Ji) (an:Option Addr) (cdv ct:Ji) (osl:Array (Option Ji)),
  fd=Mg x qual (eU st) (bx st) (aj st) .none kV doc pm an cdv ct/\K.lookup f=some ⟨oc,od,.func fd,osl⟩/\Oa K cdv qual=true
 kp:K9 K (.ref f)=true
section
variable {P:JK}{w:Kn}{K:Jh}{mg:Str->Option Ji}{base:Heap}
theorem Fun.ok {x qual:Str}{st:Stmt}{f:Addr}{fd:Ki}{N ps:List Str}{k:Nat}{sp:Sp}(F:Fun K x qual st f fd)(S:aA N ps (aj st))(len:∀vs H Q E,sp vs H Q E->vs.length=ps.length)
  (hbody:∀(cdv:Ji) (A:J0) (outer:List Env) (s:Jl) (H:Hp) (vs:List V) (Q:VK) (E:XK),Room k (A.deeper (envOfC qual (aj st) s.heap.objs.size f cdv))->sp vs H Q E →
   ∃t,PSs (fG CX0 P w K mg base N qual (aj st) f cdv A outer s H E).nox (bx st) t/\t { nx:=λ_ H'=>Q .non H',rt:=Q } (start N vs) H):nZ P w K mg base CX0 (k+1) f fd ps sp:=by
 obtain⟨oc,od,kV,doc,pm,an,cdv,ct,osl,rfl,lk,hcd⟩:=F.ex;refine HB lk hcd S len λA outer s H vs Q E hr hsp=> ?_
 obtain⟨t,h,q⟩:=hbody cdv A outer s H vs Q E hr hsp;exact⟨t,h.nox,q⟩
theorem Fun.binds {x qual:Str}{st:Stmt}{f:Addr}{fd:Ki}{ps:List Str}(F:Fun K x qual st f fd)
  (h:∀(kV doc pm:Ji) (an:Option Addr) (cdv ct:Ji) (us:List Ji),us.length=ps.length->PF (Mg x qual (eU st) (bx st) (aj st) .none kV doc pm an cdv ct) ⟨us,[]⟩=pure (ps.zip us)):Binds K fd ps []:=by
 obtain⟨oc,od,kV,doc,pm,an,cdv,ct,osl,rfl,lk,hcd⟩:=F.ex;exact .all (h kV doc pm an cdv ct)
theorem z6 {x qual:Str}{st:Stmt}{f:Addr}{oc:Ji}{od an:Option Addr}{osl:Array (Option Ji)}{kV doc pm cdv ct:Ji}(l:K.lookup f=some ⟨oc,od,.func (Mg x qual (eU st) (bx st) (aj st) .none kV doc pm an cdv ct),osl⟩)
  (c:Oa K cdv qual=true) (k:K9 K (.ref f)=true):Fun K x qual st f (Mg x qual (eU st) (bx st) (aj st) .none kV doc pm an cdv ct):=⟨⟨oc,od,kV,doc,pm,an,cdv,ct,osl,rfl,l,c⟩,k⟩
end
theorem iteF {A B:Prop}(h:B):if false=true then A else B:=by
 rw[if_neg JJ];exact h
theorem iteT {A B:Prop}(h:A):if true=true then A else B:=by
 rw[if_pos rfl];exact h
def Same (H H':Hp):Prop:=∀b o,H b=some o->H' b=some o
theorem Same.refl (H:Hp):Same H H:=λ_ _ h=>h
theorem Same.trans {H H1 H2:Hp}(a:Same H H1)(b:Same H1 H2):Same H H2:=λc o h=>b c o (a c o h)
theorem jR {env:Env}:∀(names:List (Str×LA)) (acc:List (Str×Addr)),
  (∀x,(x,J1)∈names->∃c,env.cells.lookup x=some c) →
  (∀x c,acc.lookup x=some c->env.cells.lookup x=some c) →
  ∃cl,(forIn (m:=Sem) names acc (λx cs=>(if (x.2 == J1)=true then do let a <-cellOf env x.1;pure (Lv ((x.1,a)::cs))else pure (Lv cs))))=pure cl ∧
   (∀x c,cl.lookup x=some c->env.cells.lookup x=some c) ∧
   (∀x,(x,J1)∈names->∃c,cl.lookup x=some c)/\(∀x c,acc.lookup x=some c->∃c',cl.lookup x=some c')
 | [],acc,_,h=>⟨acc,rfl,h,λx hx=>by simp at hx,λx c e=>⟨c,e⟩⟩
 | (n,k)::r,acc,hf,h=>by
  by_cases hk:k=J1
  ·subst hk
   obtain⟨c,hc⟩:=hf n (by simp)
   have h':∀x c',((n,c)::acc).lookup x=some c'->env.cells.lookup x=some c':=λx c' e=>by
    rw[J7]at e
    cases q:x == n with
    | true=>
     rw[q]at e
     have e2:c=c':=JW e
     have e3:x=n:=by simpa using q
     rw[<-e2,e3];exact hc
    | false=>rw[q]at e;exact h x c' e
   obtain⟨cl,e1,e2,e3,e4⟩:=jR r ((n,c)::acc) (λx hx=>hf x (Jk _ hx)) h'
   refine⟨cl,?_,e2,λx hx=> ?_,λx c' e=> ?_⟩
   ·rw[PQ]
    simp only[beq_self_eq_true,if_true,cellOf,hc,pure_bind];exact e1
   ·rcases Ju.mp hx with z | z
    ·have z1:x=n:=by injection z
     subst z1;exact e4 x c (by simp[J7])
    ·exact e3 x z
   ·cases q:x == n with
    | true=>exact e4 x c (by simp[J7,q])
    | false=>exact e4 x c' (by simp[J7,q,e])
  ·have hb:(k == J1)=false:=by simpa using hk
   obtain⟨cl,e1,e2,e3,e4⟩:=jR r acc (λx hx=>hf x (Jk _ hx)) h
   refine⟨cl,?_,e2,λx hx=> ?_,e4⟩
   ·rw[PQ]
    simp only[hb,Oz,if_false,pure_bind];exact e1
   ·rcases Ju.mp hx with z | z
    ·have z1:J1=k:=by injection z
     exact absurd z1.symm hk
    ·exact e3 x z
theorem u4 {env:Env}{scope:Ma}(hf:∀x,(x,J1)∈scope.names->∃c,env.cells.lookup x=some c) :
  ∃cl,closureFor scope env=pure cl/\(∀x c,cl.lookup x=some c->env.cells.lookup x=some c)/\(∀x,(x,J1)∈scope.names->∃c,cl.lookup x=some c):=by
 obtain⟨cl,e1,e2,e3,_⟩:=jR scope.names [] hf (λx c e=>by simp at e)
 refine⟨cl,?_,e2,e3⟩
 unfold closureFor;refine Eq.trans ?_ (congrArg (λz=>z >>= pure) e1|>.trans (by simp))
 rfl
theorem ri {pr:JK}{wd:Kn}{Ar:J0}{Rz:PY->Jl->Prop}{s0:Jl}{el tg it0:Expr}{cs:List Expr}{sc:Ma}{ps:Pos}{itv av:Ji}{ev:Env}(W:Nat->Jl->Prop)
  (go:∀k st,W k st->wpAny (model pr wd) Ar (pyNext itv) (λr s1=>match r with
   | none=>Rz (.ok .next) s1
   | some v=>wpAny (model pr wd) Ar (L0 tg itv v) (λ_ s2=>wpAny (model pr wd) Ar (assign tg ev v) (λ_ s3=>
     wpAny (model pr wd) Ar (forIn cs true λc b=>if b=true then do let z <-isTrue c ev (eval c ev);pure (Lv z)else pure (Lv b)) (λz s4=>
      if z=true then wpAny (model pr wd) Ar (eval el ev) (λy s5=>
       wpAny (model pr wd) Ar (call (.builtin "list.append") [av,y]) (λ_ s6=> ∃m,m<k/\W m s6) (λ_ _=>False) s5) (λ_ _=>False) s4
      else ∃m,m<k/\W m s4) (λ_ _=>False) s3) (λ_ _=>False) s2) (λ_ _=>False) s1) (λ_ _=>False) st)
  (k:Nat) (hk:W k s0):codeAny (model pr wd) Ar (.compLoop (.ListComp el [⟨tg,it0,cs,0⟩] sc ps) 0 itv av ev) Rz s0:=by
 refine codeAny_loop rfl W (λk st hw=> ?_) k hk
 show wpAny (model pr wd) Ar ((compTurn (.ListComp el [⟨tg,it0,cs,0⟩] sc ps) 0 itv av ev).onRaise (λz=>do P3 z ev;theTreesLotGoes z)) _ _ st
 refine wpAny_noted ?_
 rw[compTurn_list]
 have no:∀{α:Type} {t:Sem α} {Q Q':α->Jl->Prop} {E':Ji->Jl->Prop} {x:Jl},wpAny (model pr wd) Ar t Q (λ_ _=>False) x->(∀y z,Q y z->Q' y z)->wpAny (model pr wd) Ar t Q' E' x:=λh f=>K7 h f λ_ _ z=>z.elim
 refine Jn (wpAny_standAt (Jn (no (go k st hw) λr s1 g1=> ?_)))
 cases r with
 | none=>exact Jz g1
 | some v=>
  refine Jn (no g1 λ_ s2 g2=>Jn (no g2 λ_ s3 g3=>Jn (no g3 λz s4 g4=> ?_)))
  cases z with
  | false=>exact Jz (And.intro rfl g4)
  | true=>exact Jn (Jn (no g4 λy s5 g5=>Jn (no g5 λ_ s6 g6=>Jz (Jz (And.intro rfl g6)))))
def bQ (X:Cx)(scope:Ma)(cl:List (Str×Addr))(N':List Str)(C:Addr)(s₀:Jl)(H₀:Hp)(fp:List Addr):Cx:=
 { X with N:=N',s₀:=s₀,H₀:=H₀,env:=compEnvC scope cl C X.env,outer:=X.stack,stack:=X.stack,ex:=fp,fn:=λx=>scope.names.lookup x == some .cell,xe:=λ_ _=>False }
def dj (src:List (Option Nat))(σ:St):St:=src.map λo=>match o with
 | some i=>(σ[i]?).join
 | none=>none
theorem iB {env:Env}:∀{names:List (Str×LA)} {x:Str} {k:LA},
  (names.map λ(n,k)=>if (k == J1&&env.scope.kind == .function&&env.kindOf n == some .cell)then(n,Kz)else(n,k)).lookup x=some k →
  ∃k',names.lookup x=some k'/\(k=k'\/k'= .free)
 | [],_,_,h=>by simp at h
 | (n,k0)::r,x,k,h=>by
  have ih:=@iB env r x k
  have h':KJ x ((if (k0 == J1&&env.scope.kind == .function&&env.kindOf n == some .cell)=true then(n,Kz)else(n,k0))::(r.map λ(n,k)=>if (k == J1&&env.scope.kind == .function&&env.kindOf n == some .cell)then(n,Kz)else(n,k)))=some k:=h
  by_cases hc:(k0 == J1&&env.scope.kind == .function&&env.kindOf n == some .cell)=true
  ·rw[if_pos hc]at h'
   rw[J7]at h' ⊢
   cases hx:x == n with
   | true=>
    refine⟨k0,rfl,.inr ?_⟩
    have:=Kk.mp hc|>.1
    have:=Kk.mp this|>.1
    simpa using this
   | false=>rw[hx]at h';exact ih h'
  ·rw[if_neg hc]at h'
   rw[J7]at h' ⊢
   cases hx:x == n with
   | true=>rw[hx]at h';exact⟨k0,rfl,.inl (JW h').symm⟩
   | false=>rw[hx]at h';exact ih h'
theorem i9 {names:List (Str×LA)}{x:Str}{k:LA}(h:names.lookup x=some k):(x,k)∈names:=K4 h
theorem gY {env:Env}:∀{names:List (Str×LA)} {x:Str},names.lookup x=some .free →
  (names.map λ(n,k)=>if (k == J1&&env.scope.kind == .function&&env.kindOf n == some .cell)then(n,Kz)else(n,k)).lookup x=some .cell ∨
  (names.map λ(n,k)=>if (k == J1&&env.scope.kind == .function&&env.kindOf n == some .cell)then(n,Kz)else(n,k)).lookup x=some .free
 | [],_,h=>by simp at h
 | (n,k0)::r,x,h=>by
  have ih:=@gY env r x
  show KJ x ((if (k0 == J1&&env.scope.kind == .function&&env.kindOf n == some .cell)=true then(n,Kz)else(n,k0))::_)=_\/KJ x ((if (k0 == J1&&env.scope.kind == .function&&env.kindOf n == some .cell)=true then(n,Kz)else(n,k0))::_)=_
  rw[J7]at h
  by_cases hc:(k0 == J1&&env.scope.kind == .function&&env.kindOf n == some .cell)=true
  ·rw[if_pos hc]
   rw[J7]
   cases hx:x == n with
   | true=>exact .inl rfl
   | false=>rw[hx]at h;exact ih h
  ·rw[if_neg hc]
   rw[J7]
   cases hx:x == n with
   | true=>rw[hx]at h;exact .inr h
   | false=>rw[hx]at h;exact ih h
section
variable {X:Cx}
structure LcScope (X:Cx)(scope:Ma)(N':List Str)(src:List (Option Nat)):Prop where
 kind:scope.kind= .function
 cel:∀y∈scope.names,y.2= .cell->scope.names.lookup y.1=some .cell
 loc:∀y∈scope.names,y.2= .local->scope.names.lookup y.1=some .local
 len:src.length=N'.length
 from_:∀(j i:Nat) (x:Str),src[j]? =some (some i)->N'[j]? =some x->X.N[i]? =some x/\scope.names.lookup x=some .free
 free:∀x,(x,J1)∈scope.names->X.env.kindOf x=some .cell\/X.env.kindOf x=some .free
def Gb (K:Jh)(wi:TI)(src:List (Option Nat))(g:TG)(tc:TT)(te:TE):TE:=λσ H Q=>wi σ H λJ H1=> ∀D,H1 D=none->K.lookup D=none →
 ∃W:Nat->Nat->St->List V->Hp->Prop,(∃m,W 0 m (dj src σ) [] (upd H1 D (.lst [])))/\∀i m σ ys H,W i m σ ys H->H D=some (.lst ys) ∧
  ((J.stop i H/\Q (.ref D) H)\/(J.go i H/\ys.length<sizeLine/\∀x H',J.yld i H x H'->g x σ H' λσ2 H2=>tc σ2 H2 λb H3=>
   if b=true then te σ2 H3 λv H4=>H4 D=some (.lst ys)/\∃m',m'<m/\W (i+1) m' σ2 (ys++ [v]) (upd H4 D (.lst (ys++ [v])))else ∃m',m'<m/\W (i+1) m' σ2 ys H3))
def yh (X:Cx)(ifs:List Expr)(t:TT):Prop:=
 ∀(pins:List (Addr×Obj)) (s:Jl) (σ:St) (H:Hp) (Q:Bool->Hp->Prop),Inv X pins σ H s->t σ H Q →
  wpAny (model X.prog X.w) X.A (forIn ifs true λc r=>if r=true then do let ok <-isTrue c X.env (eval c X.env);pure (Lv ok)else pure (Lv r)) (TP X pins σ Q) X.xe s
def yB:TT:=λ_ H Q=>Q true H
theorem vK:yh X [] yB:=λ_ _ _ H _ I h=>wpAny_tests_nil ⟨H,I,h⟩
theorem BO {c:Expr}{t:TT}(h:PT X c t):yh X [c] t:=λpins s σ H Q I q=>wpAny_tests_one (h pins s σ H Q I q)
theorem kU:∀(names:List (Str×LA)) (h:Heap) (acc:List (Str×Addr)),(∀x y c,acc.lookup x=some c->acc.lookup y=some c->x=y)->(∀x c,acc.lookup x=some c->c<h.objs.size) →
  (∀x c,(Ll h.objs.size names acc).lookup x=some c->acc.lookup x=some c\/(h.objs.size<=c/\(NY h names).IsCell c none)) ∧
  (∀x y c,(Ll h.objs.size names acc).lookup x=some c->(Ll h.objs.size names acc).lookup y=some c->x=y) ∧
  (∀x,(x,Kz)∉names->(Ll h.objs.size names acc).lookup x=acc.lookup x) ∧
  (∀x,((x,Kz)∈names\/∃c,acc.lookup x=some c)->∃c,(Ll h.objs.size names acc).lookup x=some c) ∧
  (∀x c,(x,Kz)∈names->(Ll h.objs.size names acc).lookup x=some c->h.objs.size<=c)
 | [],h,acc,hi,_=>⟨λ_ _ e=> .inl e,hi,λ_ _=>rfl,λx e=>e.elim (λz=>absurd z KD) id,λ_ _ z=>absurd z KD⟩
 | (n,k)::r,h,acc,hi,hl=>by
  unfold Ll NY
  by_cases hk:k= .cell
  ·subst hk
   rw[if_pos (by rfl),if_pos (by rfl)]
   have hz:(h.push { cls:=.type "cell",data:=.cell none }).objs.size=h.objs.size+1:=Lc ..
   have lk:∀x,((n,h.objs.size)::acc).lookup x=if x=n then some h.objs.size else acc.lookup x:=λx=>by
    rw[J7]
    by_cases e:x=n
    ·rw[if_pos e,beq_iff_eq.mpr e]
    ·rw[if_neg e,beq_eq_false_iff_ne.mpr e]
   obtain⟨c1,c2,c3,c4,c5⟩:=kU r (h.push { cls:=.type "cell",data:=.cell none }) ((n,h.objs.size)::acc) (λx y c e1 e2=>by
     rw[lk]at e1 e2
     by_cases q1:x=n
     ·by_cases q2:y=n
      ·rw[q1,q2]
      ·rw[if_pos q1]at e1;rw[if_neg q2]at e2
       cases e1;exact absurd (hl _ _ e2) (JU _)
     ·rw[if_neg q1]at e1
      by_cases q2:y=n
      ·rw[if_pos q2]at e2
       cases e2;exact absurd (hl _ _ e1) (JU _)
      ·rw[if_neg q2]at e2;exact hi x y c e1 e2) (λx c e=>by
     rw[lk]at e;rw[hz]
     by_cases q:x=n
     ·rw[if_pos q]at e;cases e;exact Np _
     ·rw[if_neg q]at e;exact O0 (hl x c e))
   rw[hz]at c1 c2 c3 c4 c5;refine⟨λx c e=> ?_,c2,λx hx=> ?_,λx hx=> ?_,λx c hx e=> ?_⟩
   ·rcases c1 x c e with z | z
    ·rw[lk]at z
     by_cases q:x=n
     ·rw[if_pos q]at z;cases z
      exact .inr ⟨Jw _,_,NZ r _ _ _ (JF _ rfl),rfl⟩
     ·rw[if_neg q]at z;exact .inl z
    ·exact .inr ⟨M7 z.1,z.2⟩
   ·rw[c3 x λz=>hx (Jk _ z),lk,if_neg λz=>hx (by rw[z];exact Jq)]
   ·refine c4 x ?_
    rcases hx with hx | hx
    ·rcases Ju.mp hx with z | z
     ·cases z
      exact .inr ⟨_,by rw[lk,if_pos rfl]⟩
     ·exact .inl z
    ·by_cases q:x=n
     ·exact .inr ⟨_,by rw[lk,if_pos q]⟩
     ·exact .inr (by rw[lk,if_neg q];exact hx)
   ·rcases Ju.mp hx with z | z
    ·have q:x=n:=(PJ z).1
     rcases c1 x c e with y | y
     ·rw[lk,if_pos q]at y;cases y;exact Jw _
     ·exact M7 y.1
    ·exact M7 (c5 x c z e)
  ·have hb:¬ (k == Kz)=true:=λz=>hk (by simpa using z)
   rw[if_neg hb,if_neg hb];obtain⟨c1,c2,c3,c4,c5⟩:=kU r h acc hi hl;exact⟨c1,c2,λx hx=>c3 x λz=>hx (Jk _ z),λx hx=>c4 x (hx.imp (λz=>(Ju.mp z).resolve_left λz=>hk (PJ z).2.symm) id),λx c hx=>c5 x c ((Ju.mp hx).resolve_left λz=>hk (PJ z).2.symm)⟩
theorem xH {M:Model}{A:J0}{E:Ji->Jl->Prop}{s:Jl}{scope:Ma}{globals:Addr}{cl:List (Str×Addr)}{qual:Str}{env:Env}{Q:Env->Jl->Prop}
  (q:Q (newEnv scope s.heap.objs.size globals (Ll (s.heap.objs.size+1) scope.names cl) qual none .none (some env) Na) { s with heap:=NY (s.heap.push { cls:=.type "dict",data:=.dict #[] }) scope.names }) :
  wpAny M A (newFunctionEnv scope globals cl [] qual none .none (some env)) Q E s:=by
 simp only[newFunctionEnv,OA,if_true];refine Jn (wpAny_alloc (Jn (wpAny_layCells _ (λname kind cells=>by cases hkc:kind == Kz <;> simp[hkc]) _ _ _ _ ?_)))
 rw[show({ s with heap:=s.heap.push { cls:=.type "dict",data:=.dict #[] } }:Jl).heap.objs.size=s.heap.objs.size+1 from Lc ..]
 rw[List.forIn_nil];exact Jn (Jz (Jz q))
theorem we {elt tg iter:Expr}{ifs:List Expr}{scope:Ma}{pos fpos:Pos}{N':List Str}{src:List (Option Nat)}{wi:TI}{g:TG}{tc:TT}{te:TE}{use:Option (Ji->Sem Unit)}{Qf:Ji->Jl->Prop}
  {pins:List (Addr×Obj)} {s:Jl} {σ:St} {H:Hp} {Q:VK}
  (hc:X.calm=true) (S:LcScope X scope N' src) (hi:PI X tg iter wi)
  (block:∀cl C s₀ H₀ fp,PG (bQ X scope cl N' C s₀ H₀ fp) tg g/\yh (bQ X scope cl N' C s₀ H₀ fp) ifs tc/\PE (bQ X scope cl N' C s₀ H₀ fp) elt te)
  (hs:∀x,Ke iter X.env x=pure x) (I:Inv X pins σ H s) (h:Gb X.K wi src g tc te σ H Q)
  (hend:∀(D C:Addr) (H':Hp) (s':Jl),(∃m,s'.heap.Ns C m)->(∀h',Mo C s'.heap h'->Inv X pins σ H' { s' with heap:=h' })->(H' C=none/\C≠X.env.locals/\X.s₀.heap.objs.size<=C/\(∀x c,X.env.cells.lookup x=some c->c≠C)/\∀p∈X.pn++pins,p.1≠C)->Q (.ref D) H' →
   compPost (model X.prog X.w) X.A X.xe use Qf (.ref D) C (.ok .next) s') :
  wpAny (model X.prog X.w) X.A (comprehension (.ListComp elt [⟨tg,iter,ifs,0⟩] scope pos) scope X.env fpos (newList []) false (eval iter X.env) use) Qf X.xe s:=by
 have hcell:∀x,(x,J1)∈scope.names->∃c,X.env.cells.lookup x=some c:=λx hx=>I.ok.has x (S.free x hx)
 obtain⟨cl0,hcl,cl01,cl02⟩:=u4 (env:=X.env) (scope:=scope) hcell;refine wpAny_comprehension_free (use:=use) rfl hs hcl S.kind S.loc (bK (hi pins s σ H _ I h) λv s1 h1=>bK h1 λitv s2 h2=> ?_)
 obtain⟨it,fp,tn,J,H2,e,I2,T,st2,f2,hq⟩:=h2;subst e
 -- the new list
 refine KQ ?_
 have hD:H2 s2.heap.objs.size=none:=I2.hok.fresh (Jw _)
 have hDK:X.K.lookup s2.heap.objs.size=none:=by
  cases q:X.K.lookup s2.heap.objs.size with
  | none=>rfl
  | some o=>exact absurd (Jx (I2.kIn _ o q)) (JU _)
 obtain⟨W,⟨m0,w0⟩,turn⟩:=hq s2.heap.objs.size hD hDK
 have I3:=I2.IQ (its:=[]) (ys:=[]) (t':=s2.toks) .nil (Ld _)
 generalize hs3:({ s2 with heap:=s2.heap.push { cls:=.type "list",data:=.seq ([]:List Ji).toArray },toks:=s2.toks }:Jl)=s3 at I3
 generalize hH3:upd H2 s2.heap.objs.size (.lst [])=H3 at I3 w0
 have hDsz:s2.heap.objs.size<s3.heap.objs.size:=by rw[<-hs3];simp[Lc]
 have fr3:∀b∈fp,H3 b=none:=λb hb=>by
  obtain⟨o,eo,_⟩:=T.obj _ _ st2 b hb;rw[<-hH3,aG (Ku (Jx eo))];exact(f2 b hb).1
 have st3:tn 0 s3.heap:=T.keep _ _ _ st2 λb hb o e=>by rw[<-hs3];exact Jr _ e
 have f3:∀b∈fp,nY X pins H3 b:=λb hb=>⟨fr3 b hb,(f2 b hb).2⟩
 have D3:H3 s2.heap.objs.size=some (.lst []):=by rw[<-hH3];exact aQ
 generalize s2.heap.objs.size=D at*
 clear hs3 hH3 hD hDK
 -- the block's frame
 refine xH ?_
 have old:∀b o,s3.heap.get? b=some o->(NY (s3.heap.push { cls:=.type "dict",data:=.dict #[] }) scope.names).get? b=some o:=λb o e=>NZ _ _ b o (Jr _ e)
 have hns₁:(NY (s3.heap.push { cls:=.type "dict",data:=.dict #[] }) scope.names).Ns s3.heap.objs.size (λ_=>none):=(Heap.Ns.new s3.heap (.type "dict")).keeps (NZ _ _)
 have hz3:(s3.heap.push { cls:=.type "dict",data:=.dict #[] }).objs.size=s3.heap.objs.size+1:=Lc ..
 have lt0:∀x c,cl0.lookup x=some c->c<s3.heap.objs.size:=λx c e=>let ⟨_,ic⟩:=I3.cell x c (cl01 x c e);ic.lt
 obtain⟨c1,c2,c3,c4,c5⟩:=kU scope.names (s3.heap.push { cls:=.type "dict",data:=.dict #[] }) cl0 (λx y c e1 e2=>I3.ok.inj x y c (cl01 x c e1) (cl01 y c e2)) λx c e=>by rw[hz3];exact O0 (lt0 x c e)
 rw[hz3]at c1 c2 c3 c4 c5
 generalize hcl':Ll (s3.heap.objs.size+1) scope.names cl0=cl at*
 generalize hh₁:NY (s3.heap.push { cls:=.type "dict",data:=.dict #[] }) scope.names=h₁ at*
 have below:∀b o,s3.heap.get? b=some o->b≠s3.heap.objs.size:=λb o e=>Ku (Jx e)
 -- a cell of the block's: one from around,or a new one
 have cl1:∀x c,cl.lookup x=some c->X.env.cells.lookup x=some c\/(s3.heap.objs.size<c/\h₁.IsCell c none):=λx c e=>(c1 x c e).imp (cl01 x c) id
 generalize hC:s3.heap.objs.size=C at*
 have stk:∀b,b≠X.env.locals->b∉X.fs->b∉nK X.stack:=λb h1 h2 z=>(Ju.mp (I3.IF b z)).elim h1 h2
 have apart:∀b∈fp,∀x c,cl.lookup x=some c->c≠b:=λb hb x c e=>by
  rcases cl1 x c e with z | z
  ·exact(f3 b hb).2.2.2.2.1 x c z
  ·obtain⟨o,eo,_⟩:=T.obj _ _ st3 b hb
   have h1:=Jx eo;rw[hC]at h1;exact MQ (Nat.lt_trans h1 z.1)
 have I4:Inv (bQ X scope cl N' C s3 H3 fp) pins (dj src σ) H3 { s3 with heap:=h₁ }:=by
  refine⟨⟨I3.ok.mod,S.kind,I3.ok.glob,I3.ok.blt,Mp hC,c2,λx hx=> ?_,λx c hx e=>LQ (hC▸c5 x c (i9 (beq_iff_eq.mp hx)) e),I3.ok.hd,I3.ok.frames,.inl rfl,
    λb hb=>⟨?_,λx c e=>apart b hb x c e⟩,I3.bs,J2 I3.ok.bsz I3.sz,λb o e z=> ?_,λb hb=>stk b (f3 b hb).2.1 (f3 b hb).2.2.1,I3.stack,I3.Ip⟩,
   rfl,I3.bare,Un.kept old,⟨_,hns₁,λj x v e1 e2 e3=> ?_⟩,λx c e=> ?_,I3.hok.fresh (Mp hC),λx c e=>(cl1 x c e).elim (I3.freeC x c) λz=>I3.hok.fresh (by rw[hC];exact LQ z.1),λp hp=> ?_,I3.hok.kept old,?_⟩
  ·have key:∀k,(relabel scope X.env).names.lookup x=some k->(k= .cell\/k= .free)->∃c,cl.lookup x=some c:=λk e hk=>by
    obtain⟨k',e',z⟩:=iB e
    have hk':k'= .cell\/k'= .free:=z.elim (λz=>z▸hk) .inr
    rcases hk' with q | q
    ·exact c4 x (.inl (q▸i9 e'))
    ·exact c4 x (.inr (cl02 x (q▸i9 e')))
   rcases hx with hx | hx
   ·exact key _ hx (.inl rfl)
   ·exact key _ hx (.inr rfl)
  ·obtain⟨o,eo,_⟩:=T.obj _ _ st3 b hb
   show b≠C
   exact below b o eo
  ·have z':b∈fp:=z
   obtain⟨_,_,_,z1,_⟩:=f3 b z';rcases z1 with z1 | z1
   ·exact I3.ok.noex b o e z1
   ·exact absurd (JE (Jx (I3.ok.bs b o e).1) z1) (JU _)
  ·unfold dj at e2
   rw[JA]at e2
   cases q:src[j]? with
   | none=>rw[q]at e2;simp at e2
   | some o=>
    rw[q]at e2
    cases o with
    | none=>simp at e2
    | some i=>
     have e2':(σ[i]?).join=some v:=by simpa using e2
     have e2'':σ[i]? =some (some v):=by
      cases q2:σ[i]? with
      | none=>rw[q2]at e2';simp at e2'
      | some z=>rw[q2]at e2';simp at e2';rw[e2']
     obtain⟨hN,hfree⟩:=S.from_ j i x q e1
     have hm:=i9 hfree
     have hk:=S.free x hm;obtain⟨m,hn,hl⟩:=I3.loc
     have hv:lW X.env.scope x:=by
      rcases hk with z | z
      ·exact .inr (.inl z)
      ·exact .inr (.inr z)
     obtain⟨u,r,l⟩:=hl i x v hN e2'' hv;refine⟨u,r,.inr ⟨?_,?_⟩⟩
     ·exact gY hfree
     ·rcases l with⟨z,_⟩ | ⟨_,c,ec,ic⟩
      ·rcases hk with z' | z' <;> rw[z']at z <;> cases z
      ·obtain⟨c',ec0⟩:=cl02 x hm
       have ec':cl.lookup x=some c':=(c3 x λz=>by have:=S.cel _ z rfl;rw[hfree]at this;cases this).trans ec0
       have:=cl01 x c' ec0;rw[ec]at this;cases this;obtain⟨o,ho,hd⟩:=ic;exact⟨c,ec',o,old _ _ ho,hd⟩
  ·rcases cl1 x c e with z | z
   ·obtain⟨v,o,ho,hd⟩:=I3.cell x c z
    exact⟨v,o,old _ _ ho,hd⟩
   ·exact⟨none,z.2⟩
  ·obtain⟨e,n,ne,nf,d⟩:=I3.pin p hp
   exact⟨old _ _ e,n,below _ _ e,stk _ ne nf,d⟩
  ·show(dj src σ).length=N'.length
   unfold dj;rw[Jo];exact S.len
 obtain⟨bG,bI,bE⟩:=block cl C s3 H3 fp
 have stat:∀{H':Hp},(∀b∈fp,H' b=none)->∀b∈fp,nY (bQ X scope cl N' C s3 H3 fp) pins H' b:=λhn b hb=>by
  obtain⟨o,eo,_⟩:=T.obj _ _ st3 b hb;exact⟨hn b hb,below b o eo,stk b (f3 b hb).2.1 (f3 b hb).2.2.1,.inl hb,apart b hb,(f3 b hb).2.2.2.2.2⟩
 have st4:tn 0 h₁:=T.keep _ _ _ st3 λb hb o e=>old b o e
 -- behind the block
 have after:∀(H':Hp) (s':Jl) (σ':St),Inv (bQ X scope cl N' C s3 H3 fp) pins σ' H' s'->Q (.ref D) H' →
   compPost (model X.prog X.w) X.A X.xe use Qf (.ref D) C (.ok .next) s':=λH' s' σ' I' q=>by
  obtain⟨m,hn,_⟩:=id I'.loc
  have fC:X.s₀.heap.objs.size<=C:=by rw[<-hC];exact I3.sz
  have ltC:∀b o,s3.heap.get? b=some o->b<C:=λb o e=>by rw[<-hC];exact Jx e
  refine hend D C H' s' ⟨m,hn⟩ (λh' hsb=> ?_) ⟨I'.free,?_,fC,λx c e z=> ?_,λp hp z=> ?_⟩ q
  rotate_left
  ·have:=I3.lt;rw[hC]at this;exact MQ this
  ·obtain⟨v,ic⟩:=I3.cell x c e
   have:=ic.lt;rw[hC,z]at this;exact JU _ this
  ·have:=ltC _ _ (I3.pin p hp).1;rw[z]at this;exact JU _ this
  have u:Un (nK X.stack) fp H3 H' s3.heap s'.heap:=I'.base
  have lift:∀b o,s3.heap.get? b=some o->∀o',s'.heap.get? b=some o'->h'.get? b=some o':=λb o e o' e'=>hsb.extBut b o' (below b o e) e'
  have u':Un (nK X.stack) fp H3 H' s3.heap h':=
   ⟨λb o e n hb hx=>lift b o e o (u.keep b o e n hb hx),λb o e n hb hx=>by
     obtain⟨sl,z⟩:=u.slot b o e n hb hx;exact⟨sl,lift b o e _ z⟩,u.free,λb o e hx=>by
     obtain⟨o',z⟩:=u.there b o e hx;exact⟨o',lift b o e _ z⟩,u.tups,u.frzs,u.tbls⟩
  have hCn:H' C=none:=I'.free
  have hok':HOk X.prog X.w H' h':=λb ob e=>by
   refine(I'.hok b ob e).Iw (λc w' hc' q'=>(hsb.2 c ?_).trans q') (λ_ q=>q) λ_ _ q=>q
   rintro rfl
   rcases hc' with rfl | hc'
   ·rw[hCn]at e;cases e
   ·rw[hCn]at hc';cases hc'
  have I5:Inv X pins σ H' { s' with heap:=h' }:=I3.IH (s':={ s' with heap:=h' }) (ch:=fp) I'.os u' hok' I'.bare λb hb=>⟨(f3 b hb).2.2.2.1,(f3 b hb).2.1,(f3 b hb).2.2.2.2.1,(f3 b hb).2.2.2.2.2⟩
  exact I5
 have loop:codeAny (model X.prog X.w) X.A (.compLoop (.ListComp elt [⟨tg,iter,ifs,0⟩] scope pos) 0 (.ref it) (.ref D) (compEnvC scope cl C X.env))
   (compPost (model X.prog X.w) X.A X.xe use Qf (.ref D) C) { s3 with heap:=h₁ }:=by
  refine ri (λn s'=> ∃i σ' ys H',Inv (bQ X scope cl N' C s3 H3 fp) pins σ' H' s'/\tn i s'.heap/\(∀b∈fp,H' b=none)/\W i n σ' ys H') ?_ m0 ⟨0,_,[],H3,I4,st4,fr3,w0⟩
  rintro n s5 ⟨i,σ5,ys,H5,I5,st5,fr5,w5⟩
  obtain⟨hDl,alt⟩:=turn i n σ5 ys H5 w5;rcases alt with⟨stop,qn⟩ | ⟨go,hlen,step⟩
  ·refine bK (T.done (bQ X scope cl N' C s3 H3 fp) rfl rfl rfl hc i pins s5 σ5 H5 _ I5 (stat fr5) st5 stop) λr s6 ⟨hr,I6⟩=> ?_
   subst hr;exact after H5 s6 σ5 I6 qn
  ·refine bK (T.item (bQ X scope cl N' C s3 H3 fp) rfl rfl rfl hc i pins s5 σ5 H5 _ I5 (stat fr5) st5 go) λr s6 ⟨u,hr,h6⟩=> ?_
   subst hr;refine bK h6 λ_ s7 hh_=> ?_
   obtain⟨x,H7,I7,r7,y7,st7,fr7⟩:=hh_
   have I7':=I7.pinned (stat fr7) (T.obj _ _ st7);refine bK (bG _ s7 σ5 H7 x u _ I7' r7 (step x H7 y7)) λ_ s8 hh_=> ?_
   obtain⟨σ8,H8,I8,q8⟩:=hh_;refine bK (bI _ s8 σ8 H8 _ I8 q8) λok s9 hh_=> ?_
   obtain⟨H9,I9,q9⟩:=hh_
   have again:∀{σx:St} {Hx:Hp} {sx:Jl} {ys':List V},Inv (bQ X scope cl N' C s3 H3 fp) (pins++mT fp s7.heap) σx Hx sx->(∃m',m'<n/\W (i+1) m' σx ys' Hx) →
     ∃m,m<n/\∃i σ' ys H',Inv (bQ X scope cl N' C s3 H3 fp) pins σ' H' sx/\tn i sx.heap/\(∀b∈fp,H' b=none)/\W i m σ' ys H':=λ{σx Hx sx ys'} Ix nx=>by
    obtain⟨m',hm,wx⟩:=nx;refine⟨m',hm,i+1,σx,ys',Hx,Ix.Io,T.keep _ _ _ st7 λb hb o e=>(Ix.pin (b,o) (JO _ (JO _ (gz hb e)))).1,λb hb=> ?_,wx⟩
    obtain⟨o,e,d⟩:=T.obj _ _ st7 b hb;exact(Ix.pin (b,o) (JO _ (JO _ (gz hb e)))).2.1
   cases ok with
   | false=>
    rw[if_neg JJ]at q9 ⊢
    exact again I9 q9
   | true=>
    rw[if_pos rfl]at q9 ⊢;refine bK (bE _ s9 σ8 H9 _ I9 q9) λv s10 hh_=> ?_
    obtain⟨y,H10,I10,r10,hD10,q10⟩:=hh_;refine bK (i8 _ s10 σ8 H10 (.ref D) [y] (.ref D) [v] (λ_ H'=>H'=upd H10 D (.lst (ys++ [y]))) I10 rfl (.cons r10 .nil) ⟨D,ys,y,rfl,rfl,hD10,hlen,rfl⟩) λ_ s11 hh_=> ?_
    obtain⟨_,H11,I11,_,e11⟩:=hh_;subst e11;exact again I11 q10
 exact codeAny_compStart_list loop (T.self _ 0 _ _ _ st4 loop)
theorem vO {elt tg iter:Expr}{ifs:List Expr}{scope:Ma}{pos:Pos}{N':List Str}{src:List (Option Nat)}{wi:TI}{g:TG}{tc:TT}{te:TE}
  (hc:X.calm=true) (S:LcScope X scope N' src) (hi:PI X tg iter wi)
  (block:∀cl C s₀ H₀ fp,PG (bQ X scope cl N' C s₀ H₀ fp) tg g/\yh (bQ X scope cl N' C s₀ H₀ fp) ifs tc/\PE (bQ X scope cl N' C s₀ H₀ fp) elt te)
  (hs:∀x,Ke iter X.env x=pure x:=by intro _;rfl) :
  PE X (.ListComp elt [⟨tg,iter,ifs,0⟩] scope pos) (Gb X.K wi src g tc te):=by
 intro pins s σ H Q I h;rw[eval_ListComp];exact we (use:=none) hc S hi block hs I h λD C H' s' ⟨m,hn⟩ inv _ q=>⟨m,hn,λh' hsb=>⟨.ref D,H',inv h' hsb,rfl,q⟩⟩
theorem GP {elt tg iter:Expr}{ifs:List Expr}{scope:Ma}{pos py spos:Pos}{N':List Str}{src:List (Option Nat)}{wi:TI}{g:TG}{tc:TT}{te:TE}{i:Nat}{y:Str}
  (hc:X.calm=true) (S:LcScope X scope N' src) (hi:PI X tg iter wi)
  (block:∀cl C s₀ H₀ fp,PG (bQ X scope cl N' C s₀ H₀ fp) tg g/\yh (bQ X scope cl N' C s₀ H₀ fp) ifs tc/\PE (bQ X scope cl N' C s₀ H₀ fp) elt te)
  (hN:X.N.Nodup) (hiy:X.N[i]? =some y) (hy:Loc X.env.scope y) (hsw:J4 (.ListComp elt [⟨tg,iter,ifs,0⟩] scope pos) (some (.Name y py)) spos.line X.env=pure true)
  (hf:X.fn y=true\/X.env.scope.names.lookup y=some .local) (hs:∀x,Ke iter X.env x=pure x:=by intro _;rfl) :
  PS X (.Assign [.Name y py] (.ListComp elt [⟨tg,iter,ifs,0⟩] scope pos) spos) (A8 (Gb X.K wi src g tc te) (pB i)):=by
 intro pins s σ H D I h;rw[exec_Assign_Name_used _ _ _ _ hsw];refine Jn (wpAny_standAt (Jn ?_))
 show wpAny (model X.prog X.w) X.A (do let _ <-comprehension (.ListComp elt [⟨tg,iter,ifs,0⟩] scope pos) scope X.env _ (newList []) false (eval iter X.env) (some (assign (.Name y py) X.env))) _ _ s
 refine Jn (bK (we (use:=some (assign (.Name y py) X.env)) (Qf:=λ_ s'=>SP X pins D .next s') (Q:=λv H'=>D.nx (σ.set i (some v)) H') hc S hi block hs I h λL C H' s' ⟨m,hn⟩ inv ⟨c0,c1,c2,c3,c4⟩ q=> ?_) λ_ s' hq=>Jz (Jz hq))
 have I0:Inv X pins σ H' s':=inv s'.heap (Heap.SameBut.refl ..)
 show wpAny (model X.prog X.w) X.A (assign (.Name y py) X.env (.ref L)) _ _ s'
 refine O7 (oV I0 hN hiy hy (v:=.ref L) rfl (λs2 I2 ⟨b,sb,hb⟩=> ?_) hf)
 have hbC:C≠b:=by
  rcases hb with z | z
  ·rw[z];exact c1
  ·exact λw=>c3 y b z w.symm
 refine⟨m,hn.sameBut sb hbC,λh' hsb=> ?_⟩
 exact⟨_,H',I2.turned (t':=s2.toks) (λb' o hb' e=>(hsb.2 b' hb').trans e) c0 c1 (.inr c2) c3 c4,q⟩
end
end L2
namespace Tr
open PySem PySem.Spec PyProof.Rows L2
def bD (K:Jh)(c:Str):Addr:=match LM K JV c with
 | some (some (.ref C))=>C
 | _=>0
inductive T where
 | non | bl (b:Bool) | int (i:Int) | str (x:Str) | tup (l:List T) | lst (l:List T)
 /-- the law's script: a list of ints that is only read -/
 | scr (l:List Int)
 /-- a dict: its keys,its values -/
 | dct (ks vs:List T)
 /-- an instance: its class,the names of its attributes,what they are -/
 | ob (C:Str) (ns:List Str) (ts:List T)
def C6:T->Option Key
 | .int i=>some (.inl i)
 | .str x=>some (.inr x)
 | _=>none
def nG:List T->Option (List Key)
 | [] =>some []
 | t::l=>match C6 t,nG l with
  | some k,some r=>some (k::r)
  | _,_=>none
def keyOf:T->Option (List Key)
 | .tup l=>nG l
 | _=>none
inductive Rs (α:Type) where
 | ok (a:α) | err (c:Str) | bad
def Rs.bind {α β:Type}(x:Rs α)(f:α->Rs β):Rs β:=match x with
 | .ok a=>f a
 | .err c=> .err c
 | .bad=> .bad
instance:Monad Rs where
 pure:=Rs.ok
 bind:=Rs.bind
@[simp] theorem az {α β:Type} (a:α) (f:α->Rs β):(Rs.ok a >>= f)=f a:=rfl
@[simp] theorem HY {α:Type} (a:α):(pure a:Rs α)=Rs.ok a:=rfl
@[simp] theorem HL {α β:Type} (f:α->Rs β):((Rs.bad:Rs α) >>= f)= .bad:=rfl
@[simp] theorem HG {α β:Type} (c:Str) (f:α->Rs β):((Rs.err c:Rs α) >>= f)= .err c:=rfl
abbrev Ow:=Addr->Prop
mutual
def Rep (K:Jh)(O:Ow)(H:Hp):T->V->Prop
 | .non,v=>v= .non
 | .bl b,v=>v= .bl b
 | .int i,v=>v= .int i
 | .str x,v=>v= .str x
 | .tup l,v=> ∃a vs,v= .ref a/\¬ O a/\H a=some (.tup vs)/\Reps K O H l vs
 | .lst l,v=> ∃a vs,v= .ref a/\¬ O a/\H a=some (.lst vs)/\Reps K O H l vs
 | .scr l,v=> ∃a,v= .ref a/\¬ O a/\SqL K H a (l.map V.int)
 | .dct ks ts,v=> ∃a kvs,v= .ref a/\¬ O a/\Rd H a (.dT kvs)/\ks.map keyOf=kvs.map (λp=>some p.1)/\Reps K O H ts (kvs.map (·.2))
 | .ob C ns ts,v=> ∃a dx fs,v= .ref a/\¬ O a/\H a=some (.ins (bD K C) dx fs)/\fs.map (·.1)=ns/\Reps K O H ts (fs.map (·.2))
def Reps (K:Jh)(O:Ow)(H:Hp):List T->List V->Prop
 | [],vs=>vs= []
 | t::r,vs=> ∃v ws,vs=v::ws/\Rep K O H t v/\Reps K O H r ws
end
def SameO (P:Ow)(H H':Hp):Prop:=∀b o,H b=some o->¬ P b->H' b=some o
theorem SameO.of {P:Ow}{H H':Hp}(h:Same H H'):SameO P H H':=λb o e _=>h b o e
theorem Rd.IP {P:Ow}{H H':Hp}{a:Addr}{u:HO}(h:SameO P H H')(n:¬ P a)(q:Rd H a u):Rd H' a u:=q.elim (λe=> .inl (h _ _ e n)) λ⟨o,e⟩=> .inr ⟨o,h _ _ e n⟩
theorem SqL.keep {K:Jh}{P:Ow}{H H':Hp}{a:Addr}{vs:List V}(h:SameO P H H')(n:¬ P a)(q:SqL K H a vs):SqL K H' a vs:=by
 rcases q with(q | ⟨o,q⟩) | q
 ·exact .inl (.inl (h _ _ q n))
 ·exact .inl (.inr ⟨o,h _ _ q n⟩)
 ·exact .inr q
mutual
theorem Rep.keep {K:Jh}{O P:Ow}{H H':Hp}(h:SameO P H H')(sub:∀a,P a->O a):∀{t:T} {v:V},Rep K O H t v->Rep K O H' t v
 | .non,_,r=>by unfold Rep at r ⊢;exact r
 | .bl _,_,r=>by unfold Rep at r ⊢;exact r
 | .int _,_,r=>by unfold Rep at r ⊢;exact r
 | .str _,_,r=>by unfold Rep at r ⊢;exact r
 | .tup l,_,r=>by
  unfold Rep at r ⊢;obtain⟨a,vs,e,n,q,z⟩:=r
  exact⟨a,vs,e,n,h _ _ q (λp=>n (sub a p)),Reps.keep h sub z⟩
 | .lst l,_,r=>by
  unfold Rep at r ⊢;obtain⟨a,vs,e,n,q,z⟩:=r
  exact⟨a,vs,e,n,h _ _ q (λp=>n (sub a p)),Reps.keep h sub z⟩
 | .scr l,_,r=>by
  unfold Rep at r ⊢;obtain⟨a,e,n,q⟩:=r
  exact⟨a,e,n,SqL.keep h (λp=>n (sub a p)) q⟩
 | .dct ks ts,_,r=>by
  unfold Rep at r ⊢;obtain⟨a,kvs,e,n,q,k,z⟩:=r
  exact⟨a,kvs,e,n,Rd.IP h (λp=>n (sub a p)) q,k,Reps.keep h sub z⟩
 | .ob C ns ts,_,r=>by
  unfold Rep at r ⊢;obtain⟨a,dx,fs,e,n,q,k,z⟩:=r;exact⟨a,dx,fs,e,n,h _ _ q (λp=>n (sub a p)),k,Reps.keep h sub z⟩
theorem Reps.keep {K:Jh}{O P:Ow}{H H':Hp}(h:SameO P H H')(sub:∀a,P a->O a):∀{l:List T} {vs:List V},Reps K O H l vs->Reps K O H' l vs
 | [],_,r=>by unfold Reps at r ⊢;exact r
 | t::l,_,r=>by
  unfold Reps at r ⊢;obtain⟨v,ws,e,p,q⟩:=r;exact⟨v,ws,e,Rep.keep h sub p,Reps.keep h sub q⟩
end
mutual
theorem Rep.less {K:Jh}{O O':Ow}{H:Hp}(sub:∀a,O' a->O a):∀{t:T} {v:V},Rep K O H t v->Rep K O' H t v
 | .non,_,r=>by unfold Rep at r ⊢;exact r
 | .bl _,_,r=>by unfold Rep at r ⊢;exact r
 | .int _,_,r=>by unfold Rep at r ⊢;exact r
 | .str _,_,r=>by unfold Rep at r ⊢;exact r
 | .tup l,_,r=>by
  unfold Rep at r ⊢;obtain⟨a,vs,e,n,q,z⟩:=r
  exact⟨a,vs,e,λp=>n (sub a p),q,Reps.less sub z⟩
 | .lst l,_,r=>by
  unfold Rep at r ⊢;obtain⟨a,vs,e,n,q,z⟩:=r
  exact⟨a,vs,e,λp=>n (sub a p),q,Reps.less sub z⟩
 | .scr l,_,r=>by
  unfold Rep at r ⊢;obtain⟨a,e,n,z⟩:=r
  exact⟨a,e,λp=>n (sub a p),z⟩
 | .dct ks ts,_,r=>by
  unfold Rep at r ⊢;obtain⟨a,kvs,e,n,q,k,z⟩:=r
  exact⟨a,kvs,e,λp=>n (sub a p),q,k,Reps.less sub z⟩
 | .ob C ns ts,_,r=>by
  unfold Rep at r ⊢;obtain⟨a,dx,fs,e,n,q,k,z⟩:=r;exact⟨a,dx,fs,e,λp=>n (sub a p),q,k,Reps.less sub z⟩
theorem Reps.less {K:Jh}{O O':Ow}{H:Hp}(sub:∀a,O' a->O a):∀{l:List T} {vs:List V},Reps K O H l vs->Reps K O' H l vs
 | [],_,r=>by unfold Reps at r ⊢;exact r
 | t::l,_,r=>by
  unfold Reps at r ⊢;obtain⟨v,ws,e,p,q⟩:=r;exact⟨v,ws,e,Rep.less sub p,Reps.less sub q⟩
end
section
variable {K:Jh}{O:Ow}{H H':Hp}{t:T}{v:V}{l:List T}{vs:List V}
theorem Rep.same (h:Same H H')(r:Rep K O H t v):Rep K O H' t v:=Rep.keep (P:=λ_=>False) (SameO.of h) (λ_ z=>z.elim) r
theorem Reps.same (h:Same H H')(r:Reps K O H l vs):Reps K O H' l vs:=Reps.keep (P:=λ_=>False) (SameO.of h) (λ_ z=>z.elim) r
theorem Rep.IK:Rep K O H .non .non:=by unfold Rep;rfl
theorem Rep.bl_ (b:Bool):Rep K O H (.bl b) (.bl b):=by unfold Rep;rfl
theorem Rep.GM (i:Int):Rep K O H (.int i) (.int i):=by unfold Rep;rfl
theorem Rep.Jc (x:Str):Rep K O H (.str x) (.str x):=by unfold Rep;rfl
theorem Rep.Fk:Rep K O H (.tup l) v↔ ∃a vs,v= .ref a/\¬ O a/\H a=some (.tup vs)/\Reps K O H l vs:=by unfold Rep;exact L9
theorem Rep.Do:Rep K O H (.lst l) v↔ ∃a vs,v= .ref a/\¬ O a/\H a=some (.lst vs)/\Reps K O H l vs:=by unfold Rep;exact L9
theorem Rep.Il {ks ts:List T}:Rep K O H (.dct ks ts) v↔ ∃a kvs,v= .ref a/\¬ O a/\Rd H a (.dT kvs)/\ks.map keyOf=kvs.map (λp=>some p.1)/\Reps K O H ts (kvs.map (·.2)):=by unfold Rep;exact L9
theorem Rep.IB {C:Str}{ns:List Str}{ts:List T}:Rep K O H (.ob C ns ts) v↔ ∃a dx fs,v= .ref a/\¬ O a/\H a=some (.ins (bD K C) dx fs)/\fs.map (·.1)=ns/\Reps K O H ts (fs.map (·.2)):=by unfold Rep;exact L9
theorem Rep.AC {i:Int}:Rep K O H (.int i) v↔v= .int i:=by unfold Rep;exact L9
theorem Rep.FM {b:Bool}:Rep K O H (.bl b) v↔v= .bl b:=by unfold Rep;exact L9
theorem Rep.GE {b:Str}:Rep K O H (.str b) v↔v= .str b:=by unfold Rep;exact L9
theorem Rep.Ik:Rep K O H .non v↔v= .non:=by unfold Rep;exact L9
theorem Reps.Gc:Reps K O H [] []:=by unfold Reps;rfl
theorem Reps.FS (r:Rep K O H t v)(q:Reps K O H l vs):Reps K O H (t::l) (v::vs):=by unfold Reps;exact⟨v,vs,rfl,r,q⟩
theorem Reps.Da:Reps K O H [] vs↔vs= []:=by unfold Reps;exact L9
theorem Reps.me:Reps K O H (t::l) vs↔ ∃v ws,vs=v::ws/\Rep K O H t v/\Reps K O H l ws:=by
 constructor
 ·intro h;unfold Reps at h;exact h
 ·intro h;unfold Reps;exact h
end
section
variable {K:Jh}{O:Ow}{H H':Hp}
theorem Reps.length:∀{l:List T} {vs:List V},Reps K O H l vs->l.length=vs.length
 | [],vs,r=>by rw[Reps.Da.mp r];rfl
 | t::l,vs,r=>by
  obtain⟨v,ws,rfl,_,q⟩:=Reps.me.mp r;simp[q.length]
theorem Reps.get:∀{l:List T} {vs:List V} {i:Nat} {t:T},Reps K O H l vs->l[i]? =some t->∃v,vs[i]? =some v/\Rep K O H t v
 | [],_,_,_,_,e=>by simp at e
 | t::l,vs,i,u,r,e=>by
  obtain⟨v,ws,rfl,p,q⟩:=Reps.me.mp r
  cases i with
  | zero=>simp at e;subst e;exact⟨v,rfl,p⟩
  | succ i=>
   obtain⟨z,e1,e2⟩:=q.get (i:=i) (t:=u) (by simpa using e)
   exact⟨z,by simpa using e1,e2⟩
theorem Reps.append:∀{l m:List T} {vs ws:List V},Reps K O H l vs->Reps K O H m ws->Reps K O H (l++m) (vs++ws)
 | [],_,vs,_,r,s=>by rw[Reps.Da.mp r];exact s
 | t::l,m,vs,ws,r,s=>by
  obtain⟨v,us,rfl,p,q⟩:=Reps.me.mp r;exact Reps.FS p (q.append s)
theorem Reps.take:∀{l:List T} {vs:List V} (n:Nat),Reps K O H l vs->Reps K O H (l.take n) (vs.take n)
 | _,_,0,_=>Reps.Gc
 | [],vs,n+1,r=>by rw[Reps.Da.mp r];exact Reps.Gc
 | t::l,vs,n+1,r=>by
  obtain⟨v,us,rfl,p,q⟩:=Reps.me.mp r;exact Reps.FS p (q.take n)
theorem Reps.drop:∀{l:List T} {vs:List V} (n:Nat),Reps K O H l vs->Reps K O H (l.drop n) (vs.drop n)
 | _,_,0,r=>r
 | [],vs,n+1,r=>by rw[Reps.Da.mp r];exact Reps.Gc
 | t::l,vs,n+1,r=>by
  obtain⟨v,us,rfl,p,q⟩:=Reps.me.mp r;exact q.drop n
theorem Reps.ints:∀{ns:List Int},Reps K O H (ns.map T.int) (ns.map V.int)
 | [] =>Reps.Gc
 | n::r=>Reps.FS (Rep.GM n) Reps.ints
end
inductive OT where
 | lst (l:List T) | dct (ks ts:List T) | dd (ks:List T) (rows:List (List T×List T))
 /-- an instance,its attributes own lists -/
 | ob (C:Str) (ns:List Str) (ls:List (List T))
def OT.view:OT->T
 | .lst l=> .lst l
 | .dct ks ts=> .dct ks ts
 | .dd ks rows=> .dct ks (rows.map λr=> .dct r.1 r.2)
 | .ob C ns ls=> .ob C ns (ls.map T.lst)
def RowsR (K:Jh)(O:Ow)(H:Hp):List (List T×List T)->List Addr->Prop
 | [],as=>as= []
 | r::rs,as=> ∃b bs kvs,as=b::bs/\H b=some (.dT kvs)/\r.1.map keyOf=kvs.map (λp=>some p.1)/\Reps K O H r.2 (kvs.map (·.2))/\RowsR K O H rs bs
def LsR (K:Jh)(O:Ow)(H:Hp):List (List T)->List Addr->Prop
 | [],as=>as= []
 | l::ls,as=> ∃b bs vs,as=b::bs/\H b=some (.lst vs)/\Reps K O H l vs/\LsR K O H ls bs
def ORep (K:Jh)(O M:Ow)(H:Hp):OT->V->Prop
 | .lst l,v=> ∃a vs,v= .ref a/\(∀b,M b↔b=a)/\H a=some (.lst vs)/\Reps K O H l vs
 | .dct ks ts,v=> ∃a kvs,v= .ref a/\(∀b,M b↔b=a)/\H a=some (.dT kvs)/\ks.map keyOf=kvs.map (λp=>some p.1)/\Reps K O H ts (kvs.map (·.2))
 | .dd ks rows,v=> ∃a kvs as,v= .ref a/\(∀b,M b↔b=a\/b∈as)/\a∉as/\as.Nodup/\H a=some (.dT kvs)/\ks.map keyOf=kvs.map (λp=>some p.1)/\kvs.map (·.2)=as.map V.ref/\RowsR K O H rows as
 | .ob C ns ls,v=> ∃a dx as,v= .ref a/\(∀b,M b↔b=a\/b=dx\/b∈as)/\(a∉as/\dx∉as/\dx≠a/\as.Nodup)/\H a=some (.ins (bD K C) dx (ns.zip (as.map V.ref)))/\H dx=some (.own a)/\ns.length=as.length/\ns.Nodup/\LsR K O H ls as
inductive Sl where
 | em | va (t:T) | ow (o:OT)
abbrev En:=List Sl
abbrev Mn:=Nat->Ow
def Mn.u (M:Mn):Ow:=λa=> ∃i,M i a
def isO:HO->Bool
 | .ins _ _ _=>true
 | .own _=>true
 | _=>false
def Mtb (H:Hp)(a:Addr):Prop:=(∃vs,H a=some (.lst vs))\/(∃kvs,H a=some (.dT kvs))\/∃o,H a=some o/\isO o=true
theorem Mtb.some {H:Hp}{a:Addr}(h:Mtb H a):∃o,H a=some o:=by
 rcases h with⟨_,e⟩ | ⟨_,e⟩ | ⟨_,e,_⟩ <;> exact⟨_,e⟩
theorem Mtb.at {H H':Hp}{a:Addr}(s:∀o,H a=J8 o->H' a=J8 o)(h:Mtb H a):Mtb H' a:=by
 rcases h with⟨vs,e⟩ | ⟨k,e⟩ | ⟨o,e,q⟩
 ·exact .inl ⟨vs,s _ e⟩
 ·exact .inr (.inl ⟨k,s _ e⟩)
 ·exact .inr (.inr ⟨o,s _ e,q⟩)
theorem Mtb.same {H H':Hp}(s:Same H H'){a:Addr}(h:Mtb H a):Mtb H' a:=h.at λo e=>s a o e
structure EnvM (K:Jh)(O:Ow)(M:Mn)(H:Hp)(Z:En)(σ:L2.St):Prop where
 len:Z.length=σ.length
 val:∀(i:Nat) (t:T),Z[i]? =some (.va t)->∃v,σ[i]? =some (some v)/\Rep K O H t v
 own:∀(i:Nat) (o:OT),Z[i]? =some (.ow o)->∃v,σ[i]? =some (some v)/\ORep K O (M i) H o v
 sub:∀(i:Nat) (a:Addr),M i a->O a
 dis:∀(i j:Nat) (a:Addr),M i a->M j a->i=j
 trk:∀(a:Addr),O a->Mtb H a
theorem RowsR.same {K:Jh}{O:Ow}{H H':Hp}(h:Same H H'):∀{rs:List (List T×List T)} {as:List Addr},RowsR K O H rs as->RowsR K O H' rs as
 | [],_,r=>r
 | _::_,_,⟨b,bs,kvs,e1,e2,e3,e4,e5⟩=>⟨b,bs,kvs,e1,h _ _ e2,e3,e4.same h,e5.same h⟩
theorem LsR.same {K:Jh}{O:Ow}{H H':Hp}(h:Same H H'):∀{ls:List (List T)} {as:List Addr},LsR K O H ls as->LsR K O H' ls as
 | [],_,r=>r
 | _::_,_,⟨b,bs,vs,e1,e2,e3,e4⟩=>⟨b,bs,vs,e1,h _ _ e2,e3.same h,e4.same h⟩
theorem ORep.same {K:Jh}{O M:Ow}{H H':Hp}(h:Same H H'){o:OT}{v:V}(r:ORep K O M H o v):ORep K O M H' o v:=by
 cases o with
 | lst l=>obtain⟨a,vs,e1,e2,e3,e4⟩:=r;exact⟨a,vs,e1,e2,h _ _ e3,e4.same h⟩
 | dct ks ts=>obtain⟨a,kvs,e1,e2,e3,e4,e5⟩:=r;exact⟨a,kvs,e1,e2,h _ _ e3,e4,e5.same h⟩
 | dd ks rows=>obtain⟨a,kvs,as,e1,e2,e3,e4,e5,e6,e7,e8⟩:=r;exact⟨a,kvs,as,e1,e2,e3,e4,h _ _ e5,e6,e7,e8.same h⟩
 | ob C ns ls=>obtain⟨a,dx,as,e1,e2,e3,e4,e5,e6,e7,e8⟩:=r;exact⟨a,dx,as,e1,e2,e3,h _ _ e4,h _ _ e5,e6,e7,e8.same h⟩
theorem EnvM.same {K:Jh}{O:Ow}{M:Mn}{H H':Hp}{Z:En}{σ:L2.St}(h:Same H H')(e:EnvM K O M H Z σ):EnvM K O M H' Z σ where
 len:=e.len
 val:=λi t q=>let ⟨v,e1,e2⟩:=e.val i t q;⟨v,e1,e2.same h⟩
 own:=λi o q=>let ⟨v,e1,e2⟩:=e.own i o q;⟨v,e1,e2.same h⟩
 sub:=e.sub
 dis:=e.dis
 trk:=λa q=>(e.trk a q).same h
def EnvO (K:Jh)(O:Ow)(H:Hp)(Z:En)(σ:L2.St):Prop:=∃M,EnvM K O M H Z σ
section
variable {K:Jh}{O:Ow}{H H':Hp}{Z:En}{σ:L2.St}
theorem EnvO.val (e:EnvO K O H Z σ)(i:Nat)(t:T)(q:Z[i]? =some (.va t)):∃v,σ[i]? =some (some v)/\Rep K O H t v:=e.elim λ_ e=>e.val i t q
theorem EnvO.mtb (e:EnvO K O H Z σ):∀a,O a->Mtb H a:=e.elim λ_ e=>e.trk
theorem EnvO.trk (e:EnvO K O H Z σ)(a:Addr)(z:O a):∃o,H a=some o:=(e.mtb a z).some
theorem EnvO.same (h:Same H H')(e:EnvO K O H Z σ):EnvO K O H' Z σ:=e.elim λM e=>⟨M,e.same h⟩
theorem EnvO.fresh (e:EnvO K O H Z σ){p:Addr}(h:H p=none):¬ O p:=λz=>by
 obtain⟨o,q⟩:=e.trk p z;rw[h]at q;cases q
end
def HS (h:Heap)(C e:Addr):Option Addr->Prop
 | none=> ∃oe vs,h.get? e=some oe/\oe.cls= .ref C/\oe.data= .fields vs/\vs[1]? =some .none
 | some T=>T≠e/\∃oe vs,h.get? e=some oe/\oe.cls= .ref C/\oe.data= .fields vs/\vs[1]? =some (.ref T)/\∃oT ts,h.get? T=some oT/\oT.data= .fields ts/\ts[3]? =some .none
def RzP (X:Cx)(pins:List (Addr×Obj))(P:Ow)(H:Hp)(c:Str)(ev:Ji)(s':Jl):Prop:=
 ∃e T C σ' H',ev= .ref e/\X.mg c=some (.ref C)/\Inv X pins σ' H' s'/\SameO P H H'/\H' e=none/\(X.ex= []->X.s₀.heap.get? e=none)/\HS s'.heap C e T/\(∀t,T=some t->H' t=none/\(X.ex= []->X.s₀.heap.get? t=none))/\∀p∈X.pn++pins,p.1≠e/\T≠some p.1
def Nw (K:Jh)(H:Hp):Ow:=λa=>H a=none/\K.lookup a=none
theorem d9 {K:Jh}{P:Ow}{H H1:Hp}(h:SameO P H H1){a:Addr}(n:Nw K H1 a):P a\/Nw K H a:=by
 by_cases hp:P a
 ·exact .inl hp
 ·refine .inr ⟨?_,n.2⟩
  cases q:H a with
  | none=>rfl
  | some o=>have:=h a o q hp;rw[n.1]at this;cases this
theorem SameO.trans {K:Jh}{P P1:Ow}{H H1 H2:Hp}(h:SameO P H H1)(h1:SameO P1 H1 H2)(sub:∀a,P1 a->P a\/Nw K H a):SameO P H H2:=λb o e n=>
 h1 b o (h b o e n) λz=>(sub b z).elim n λw=>by rw[w.1]at e;cases e
def XA (X:Cx)(P:Ow)(H:Hp)(c:Str):Prop:=∀pins ev s',RzP X pins P H c ev s'->X.xe ev s'
theorem XA.later {X:Cx}{P P1:Ow}{H H1:Hp}{c:Str}(h:XA X P H c)(s:SameO P H H1)(sub:∀a,P1 a->P a\/Nw X.K H a):XA X P1 H1 c:=λpins ev s' ⟨e,T,C,σ',H',a1,a2,a3,a4,a5⟩=>
 h pins ev s' ⟨e,T,C,σ',H',a1,a2,a3,s.trans a4 sub,a5⟩
abbrev jI:Ow:=λ_=>False
def Post {α:Type}(X:Cx)(H:Hp)(r:Rs α)(k:α->Hp->Prop):Prop:=match r with
 | .ok t=> ∀H',Same H H'->k t H'
 | .err c=>XA X jI H c
 | .bad=>False
theorem Post.mono {α:Type}{X:Cx}{H:Hp}{r:Rs α}{k k':α->Hp->Prop}(h:Post X H r k)(f:∀t H',Same H H'->k t H'->k' t H'):Post X H r k':=by
 cases r with
 | ok t=>exact λH' s=>f t H' s (h H' s)
 | err c=>exact h
 | bad=>exact h
theorem Post.later {α:Type}{X:Cx}{H H1:Hp}{r:Rs α}{k:α->Hp->Prop}(h:Post X H r k)(s:Same H H1):Post X H1 r k:=by
 cases r with
 | ok t=>exact λH' s'=>h H' (s.trans s')
 | err c=>exact XA.later h (SameO.of s) λ_ z=>z.elim
 | bad=>exact h
theorem Post.bind {α β:Type}{X:Cx}{H:Hp}{r:Rs α}{f:α->Rs β}{k:β->Hp->Prop}(h:Post X H (r >>= f) k):Post X H r λt H'=>Post X H' (f t) k:=by
 cases r with
 | ok t=>exact λH' s=>Post.later h s
 | err c=>exact h
 | bad=>exact h
def tP (X:Cx)(f:En->Rs T):TE:=λσ H Q=> ∃Z O,EnvO X.K O H Z σ/\Post X H (f Z) λt H'=> ∀v,Rep X.K O H' t v->Q v H'
def tPA (X:Cx)(f:En->Rs (List T)):TA:=λσ H Q=> ∃Z O,EnvO X.K O H Z σ/\Post X H (f Z) λt H'=> ∀v,Reps X.K O H' t v->Q v H'
def yC (X:Cx)(f:En->Rs Bool):TT:=λσ H Q=> ∃Z O,EnvO X.K O H Z σ/\Post X H (f Z) λb H'=>Q b H'
abbrev b6 (X:Cx)(e:Expr)(f:En->Rs T):Prop:=PE X e (tP X f)
abbrev og (X:Cx)(e:List Expr)(f:En->Rs (List T)):Prop:=PA X e (tPA X f)
abbrev rC (X:Cx)(e:Expr)(f:En->Rs Bool):Prop:=PT X e (yC X f)
theorem PE.imp {X:Cx}{e:Expr}{t t':TE}(h:PE X e t)(w:∀σ H Q,t' σ H Q->t σ H Q):PE X e t':=λpins s σ H Q I q=>h pins s σ H Q I (w σ H Q q)
theorem PA.imp {X:Cx}{e:List Expr}{t t':TA}(h:PA X e t)(w:∀σ H Q,t' σ H Q->t σ H Q):PA X e t':=λpos pins s σ H Q I q=>h pos pins s σ H Q I (w σ H Q q)
theorem PT.imp {X:Cx}{e:Expr}{t t':TT}(h:PT X e t)(w:∀σ H Q,t' σ H Q->t σ H Q):PT X e t':=λpins s σ H Q I q=>h pins s σ H Q I (w σ H Q q)
theorem PS.imp {X:Cx}{e:Stmt}{t t':TS}(h:PS X e t)(w:∀D σ H,t' D σ H->t D σ H):PS X e t':=λpins s σ H D I q=>h pins s σ H D I (w D σ H q)
theorem PSs.imp {X:Cx}{e:List Stmt}{t t':TS}(h:PSs X e t)(w:∀D σ H,t' D σ H->t D σ H):PSs X e t':=λpins s σ H D I q=>h pins s σ H D I (w D σ H q)
section
variable {X:Cx}
theorem aV {σ:L2.St}{H:Hp}{Z:En}{O:Ow}{α:Type}{f:En->Rs T}{k:T->Rs α}{Q:α->Hp->Prop}(E:EnvO X.K O H Z σ)(h:Post X H (f Z >>= k) Q) :
  tP X f σ H λv H'=> ∃t,Rep X.K O H' t v/\Same H H'/\EnvO X.K O H' Z σ/\Post X H' (k t) Q:=
 ⟨Z,O,E,Post.mono h.bind λt H' s q v r=>⟨t,r,s,E.same s,q⟩⟩
theorem eh {σ:L2.St}{H:Hp}{Z:En}{O:Ow}{α:Type}{f:En->Rs (List T)}{k:List T->Rs α}{Q:α->Hp->Prop}(E:EnvO X.K O H Z σ)(h:Post X H (f Z >>= k) Q) :
  tPA X f σ H λv H'=> ∃t,Reps X.K O H' t v/\Same H H'/\EnvO X.K O H' Z σ/\Post X H' (k t) Q:=
 ⟨Z,O,E,Post.mono h.bind λt H' s q v r=>⟨t,r,s,E.same s,q⟩⟩
theorem j0 {σ:L2.St}{H:Hp}{Z:En}{O:Ow}{α:Type}{f:En->Rs Bool}{k:Bool->Rs α}{Q:α->Hp->Prop}(E:EnvO X.K O H Z σ)(h:Post X H (f Z >>= k) Q) :
  yC X f σ H λb H'=>Same H H'/\EnvO X.K O H' Z σ/\Post X H' (k b) Q:=
 ⟨Z,O,E,Post.mono h.bind λt H' s q=>⟨s,E.same s,q⟩⟩
noncomputable def vr (i:Nat)(Z:En):Rs T:=match Z[i]? with
 | some (.va t)=> .ok t
 | _=> .bad
def cn (t:T)(_:En):Rs T:=.ok t
theorem Gy (i:Nat){x:Str}{pos:Pos}(hN:X.N[i]? =some x:=by rfl)(hv:lW X.env.scope x:=by first | exact Ka rfl | exact JS (Ka rfl) | exact JS (JS rfl))(hd:eF x:=by decide)
  (hcd:(x == ("__classdict__" : Str))=false:=by decide):b6 X (.Name x pos) (vr i):=PE.imp (fh hN hv hd hcd) λσ H Q hh_=>by
 obtain⟨Z,O,E,h⟩:=hh_;unfold vr at h
 split at h
 ·rename_i t e
  obtain⟨v,e1,e2⟩:=E.val i t e;exact⟨v,e1,h H (Same.refl H) v e2⟩
 ·exact h.elim
theorem GI {i j pos}:b6 X (.Constant (.int i) j pos) (cn (.int i)):=PE.imp Ew λσ H Q ⟨Z,O,E,h⟩=>h H (Same.refl H) _ (Rep.GM i)
theorem q_bl {i j pos}:b6 X (.Constant (.bool i) j pos) (cn (.bl i)):=PE.imp GU λσ H Q ⟨Z,O,E,h⟩=>h H (Same.refl H) _ (Rep.bl_ i)
theorem GD {j pos}:b6 X (.Constant .none j pos) (cn .non):=PE.imp Et λσ H Q ⟨Z,O,E,h⟩=>h H (Same.refl H) _ Rep.IK
theorem GA {i j pos}:b6 X (.Constant (.str i) j pos) (cn (.str i)):=PE.imp Ep λσ H Q ⟨Z,O,E,h⟩=>h H (Same.refl H) _ (Rep.Jc i)
theorem D8 {x:Str}{i:Int}{u:Ji}{pos:Pos}(hm:X.mg x=some u)(r:RelV (.int i) u)(hg:Gl X x:=by rfl)(hd:eF x:=by decide):b6 X (.Name x pos) (cn (.int i)):=
 PE.imp (BS hg hm r hd) λσ H Q ⟨Z,O,E,h⟩=>h H (Same.refl H) _ (Rep.GM i)
def ai (_:En):Rs (List T):=.ok []
def ae (f:En->Rs T)(g:En->Rs (List T))(Z:En):Rs (List T):=do
 let t <-f Z
 let r <-g Z
 .ok (t::r)
theorem D7:og X [] ai:=PA.imp il λσ H Q ⟨Z,O,E,h⟩=>h H (Same.refl H) _ Reps.Gc
theorem BA {e:Expr}{es:List Expr}{f:En->Rs T}{g:En->Rs (List T)}(he:b6 X e f)(hr:og X es g)(hs:Jy (e::es) X.env=(false,eval e X.env)::Jy es X.env:=by rfl):og X (e::es) (ae f g):=by
 intro pos pins s σ H Q I h;obtain⟨Z,O,E,h⟩:=h;refine d8 he hr hs pos pins s σ H Q I ?_
 obtain⟨Z1,O1,E1,h1⟩:=aV E h;refine⟨Z1,O1,E1,Post.mono h1 λt H' s q v r=> ?_⟩
 obtain⟨t',r',s',E',q'⟩:=q v r;refine⟨Z,O,E',Post.mono q'.bind λts H2 s2 q2 vs rs=> ?_⟩
 exact q2 H2 (Same.refl H2) _ (Reps.FS (r'.same s2) rs)
end
section
variable {X:Cx}
def jt (l:List T):Rs T:=if l.length<=sizeLine then .ok (.tup l)else .bad
def ju (l:List T):Rs T:=if l.length<=sizeLine then .ok (.lst l)else .bad
def aU (f:En->Rs (List T))(Z:En):Rs T:=f Z >>= jt
def fF (f:En->Rs (List T))(Z:En):Rs T:=f Z >>= ju
theorem a9 {H:Hp}{p:Addr}(h:H p=none)(o:HO):Same H (upd H p o):=λb u q=>by rw[aG (bR q h)];exact q
theorem gq {K:Jh}{O:Ow}{H:Hp}{p:Addr}{l:List T}{vs:List V}(h:H p=none)(n:¬ O p)(r:Reps K O H l vs):Rep K O (upd H p (.tup vs)) (.tup l) (.ref p):=
 Rep.Fk.mpr ⟨p,vs,rfl,n,aQ,r.same (a9 h _)⟩
theorem ke {K:Jh}{O:Ow}{H:Hp}{p:Addr}{l:List T}{vs:List V}(h:H p=none)(n:¬ O p)(r:Reps K O H l vs):Rep K O (upd H p (.lst vs)) (.lst l) (.ref p):=
 Rep.Do.mpr ⟨p,vs,rfl,n,aQ,r.same (a9 h _)⟩
theorem Gz {es:List Expr}{x1:Nat}{pos:Pos}{f:En->Rs (List T)}(h:og X es f):b6 X (.Tuple es x1 pos) (aU f):=by
 intro pins s σ H Q I ⟨Z,O,E,hq⟩;refine Eo h pins s σ H Q I ?_
 obtain⟨Z1,O1,E1,h1⟩:=eh E hq;refine⟨Z1,O1,E1,Post.mono h1 λts H1 s1 q vs r=> ?_⟩
 obtain⟨t',r',s',E',q'⟩:=q vs r;unfold jt at q'
 split at q'
 ·rename_i hz
  refine⟨by rw[<-r'.length];exact hz,λp hp=> ?_⟩
  exact q' _ (a9 hp _) _ (gq hp (E'.fresh hp) r')
 ·exact q'.elim
theorem GG {es:List Expr}{pos:Pos}{f:En->Rs (List T)}(h:og X es f):b6 X (.List es pos) (fF f):=by
 intro pins s σ H Q I ⟨Z,O,E,hq⟩;refine Eu h pins s σ H Q I ?_
 obtain⟨Z1,O1,E1,h1⟩:=eh E hq;refine⟨Z1,O1,E1,Post.mono h1 λts H1 s1 q vs r=> ?_⟩
 obtain⟨t',r',s',E',q'⟩:=q vs r;unfold ju at q'
 split at q'
 ·rename_i hz
  refine⟨by rw[<-r'.length];exact hz,λp hp=> ?_⟩
  exact q' _ (a9 hp _) _ (ke hp (E'.fresh hp) r')
 ·exact q'.elim
def OpT (X:Cx)(f:Ji->Ji->Sem Ji)(g:T->T->Rs T):Prop:=
 ∀(pins:List (Addr×Obj)) (s:Jl) (σ:L2.St) (H:Hp) (O:Ow) (x y:T) (vx vy:V) (ux uy:Ji) (Q:VK),Inv X pins σ H s->(∀p,H p=none->¬ O p)->Rep X.K O H x vx->Rep X.K O H y vy->RelV vx ux->RelV vy uy →
  Post X H (g x y) (λt H'=> ∀v,Rep X.K O H' t v->Q v H')->wpAny (model X.prog X.w) X.A (f ux uy) (EP X pins σ Q) X.xe s
def o2 (g:T->T->Rs T)(fa fb:En->Rs T)(Z:En):Rs T:=do
 let x <-fa Z
 let y <-fb Z
 g x y
variable {a b c:Expr}{fa fb fc:En->Rs T}{pos:Pos}
theorem GN {op:Operator}{g:T->T->Rs T}(ho:OpT X (KY op) g)(ha:b6 X a fa)(hb:b6 X b fb):b6 X (.BinOp a op b pos) (o2 g fa fb):=by
 intro pins s σ H Q I ⟨Z,O,E,hq⟩
 have h1:=aV E hq;refine wpAny_BinOp (bK (ha pins s σ H _ I h1) λv s1 hh_=> ?_)
 obtain⟨x,H1,I1,r1,t,rt,s',E',q1⟩:=hh_
 have h2:=aV (f:=fb) E' q1;refine bK (hb pins s1 σ H1 _ I1 h2) λu s2 hh_=> ?_
 obtain⟨y,H2,I2,r2,t2,rt2,s'',E'',q2⟩:=hh_;exact ho pins s2 σ H2 O t t2 x y v u Q I2 (λp=>E''.fresh) (rt.same s'') rt2 r1 r2 q2
theorem GL {op:P7}{g:T->T->Rs T}(ho:OpT X (Kh op) g)(ha:b6 X a fa)(hb:b6 X b fb)(hm:L3 op b=false:=by rfl):b6 X (.Compare a [op] [b] pos) (o2 g fa fb):=by
 intro pins s σ H Q I ⟨Z,O,E,hq⟩
 have h1:=aV E hq;refine wpAny_Compare1 (bK (ha pins s σ H _ I h1) λv s1 ⟨x,H1,I1,r1,t,rt,s',E',q1⟩=> ?_) hm
 have h2:=aV (f:=fb) E' q1;refine bK (hb pins s1 σ H1 _ I1 h2) λu s2 hh_=> ?_
 obtain⟨y,H2,I2,r2,t2,rt2,s'',E'',q2⟩:=hh_;exact ho pins s2 σ H2 O t t2 x y v u Q I2 (λp=>E''.fresh) (rt.same s'') rt2 r1 r2 q2
theorem OpT.of {f:Ji->Ji->Sem Ji}{r:R2}(h:rA X f r){g:T->T->Rs T}
  (w:∀(H:Hp) (O:Ow) (x y:T) (vx vy:V) (Q:VK),(∀p,H p=none->¬ O p)->Rep X.K O H x vx->Rep X.K O H y vy->Post X H (g x y) (λt H'=> ∀v,Rep X.K O H' t v->Q v H')->r vx vy H Q):OpT X f g:=
 λpins s σ H O x y vx vy ux uy Q I hf rx ry r1 r2 hp=>h pins s σ H vx vy ux uy Q I r1 r2 (w H O x y vx vy Q hf rx ry hp)
def cV:T->T->Rs T
 | .int i,.int j=> .ok (.int (i - j))
 | _,_=> .bad
theorem dq:OpT X (KY .Sub) cV:=OpT.of EA λH O x y vx vy Q hf rx ry hp=>by
 unfold cV at hp
 split at hp
 ·exact⟨_,_,Rep.AC.mp rx,Rep.AC.mp ry,hp H (Same.refl H) _ (Rep.GM _)⟩
 ·exact hp.elim
def kq:T->T->Rs T
 | .int i,.int j=>if 0<j/\j<1073741824 then .ok (.int (i / j))else .bad
 | _,_=> .bad
def ko:T->T->Rs T
 | .int i,.int j=>if 0<j then .ok (.int (i % j))else .bad
 | _,_=> .bad
theorem md:OpT X (KY .FloorDiv) kq:=OpT.of BZ λH O x y vx vy Q hf rx ry hp=>by
 unfold kq at hp
 split at hp
 ·split at hp
  ·rename_i h
   exact⟨_,_,Rep.AC.mp rx,Rep.AC.mp ry,h,hp H (Same.refl H) _ (Rep.GM _)⟩
  ·exact hp.elim
 ·exact hp.elim
theorem jE:OpT X (KY .Mod) ko:=OpT.of ED λH O x y vx vy Q hf rx ry hp=>by
 unfold ko at hp
 split at hp
 ·split at hp
  ·rename_i h
   exact⟨_,_,Rep.AC.mp rx,Rep.AC.mp ry,h,hp H (Same.refl H) _ (Rep.GM _)⟩
  ·exact hp.elim
 ·exact hp.elim
theorem zd:rA X (KY .Add) (λx y H Q=> ∃a b ys,x= .ref a/\y= .ref b/\SqT X.K H a []/\SqT X.K H b ys/\Q (.ref b) H):=by
 intro pins s σ H x y v u Q I rx ry h;obtain⟨a,b,ys,rfl,rfl,ha,hb,q⟩:=h;cases rx;cases ry;obtain⟨its,r1,p1,_⟩:=I.tuple ha;obtain⟨its2,r2,p2,_⟩:=I.tuple hb;obtain⟨⟨cls,dd,data,sl⟩,ho,hc,n,hd⟩:=id p1;obtain⟨⟨cls2,dd2,data2,sl2⟩,ho2,hc2,n2,hd2⟩:=id p2;simp only at hc hd hc2 hd2;subst hc hd hc2 hd2
 have e:its= []:=by cases r1;rfl
 subst e;exact HT_concat0 ho ho2 ⟨.ref b,H,I,rfl,q⟩
where
 HT_concat0 {prog:JK} {w:Kn} {A:J0} {E:Ji->Jl->Prop} {s:Jl} {t b:Addr} {ws:Array Ji} {n n2:Nat} {dd dd2:Option Addr} {sl sl2:Array (Option Ji)} {Q:Ji->Jl->Prop}
   (ho:s.heap.get? t=some { cls:=.type "tuple",dict:=dd,data:=.seq (([]:List Ji).toArray) n,slots:=sl }) (ho2:s.heap.get? b=some { cls:=.type "tuple",dict:=dd2,data:=.seq ws n2,slots:=sl2 }) (h:Q (.ref b) s) :
   wpAny (model prog w) A (KY .Add (.ref t) (.ref b)) Q E s:=
  Pp ⟨_,ho,rfl⟩ ⟨_,ho2,rfl⟩ Nt ON L5 LS (LL _ _)
   (tuple_addW0 t b _ _ n n2 dd dd2 sl sl2 (by simp)) ⟨ho,ho2,h⟩
def aL:T->T->Rs T
 | .int i,.int j=> .ok (.int (i+j))
 | .str i,.str j=>if i.length+j.length<=sizeLine then .ok (.str (i++j))else .bad
 | .tup l,.tup m=>jt (l++m)
 | .lst l,.lst m=>ju (l++m)
 | _,_=> .bad
theorem aI:OpT X (KY .Add) aL:=by
 intro pins s σ H O x y vx vy ux uy Q I hf rx ry r1 r2 hp;unfold aL at hp
 split at hp
 ·exact EG pins s σ H vx vy ux uy Q I r1 r2 ⟨_,_,Rep.AC.mp rx,Rep.AC.mp ry,hp H (Same.refl H) _ (Rep.GM _)⟩
 ·split at hp
  ·rename_i h
   exact uu pins s σ H vx vy ux uy Q I r1 r2 ⟨_,_,Rep.GE.mp rx,Rep.GE.mp ry,h,hp H (Same.refl H) _ (Rep.Jc _)⟩
  ·exact hp.elim
 ·rename_i l m
  unfold jt at hp
  split at hp
  ·rename_i h
   obtain⟨a,vs,e1,n1,q1,z1⟩:=Rep.Fk.mp rx;obtain⟨b,ws,e2,n2,q2,z2⟩:=Rep.Fk.mp ry
   have hl1:=z1.length
   have hl2:=z2.length;rw[Js]at h
   cases vs with
   | nil=>
    have e:l= []:=by cases l with
     | nil=>rfl
     | cons _ _=>simp at hl1
    subst e
    exact zd pins s σ H vx vy ux uy Q I r1 r2 ⟨a,b,ws,e1,e2,SqT.of q1,SqT.of q2,hp H (Same.refl H) _ (Rep.Fk.mpr ⟨b,ws,rfl,n2,q2,z2⟩)⟩
   | cons v0 vr=>
    refine B0 pins s σ H vx vy ux uy Q I r1 r2 ⟨a,b,v0::vr,ws,e1,e2,SqT.of q1,SqT.of q2,by simp,by omega,λhw=> ?_,λ_ p hpn=> ?_⟩
    ·subst hw
     have e:m= []:=by cases m with
      | nil=>rfl
      | cons _ _=>simp at hl2
     subst e;rw[JZ]at hp;exact hp H (Same.refl H) _ (Rep.Fk.mpr ⟨a,_,rfl,n1,q1,z1⟩)
    ·exact hp _ (a9 hpn _) _ (gq hpn (hf p hpn) (z1.append z2))
  ·exact hp.elim
 ·rename_i l m
  unfold ju at hp
  split at hp
  ·rename_i h
   obtain⟨a,vs,e1,n1,q1,z1⟩:=Rep.Do.mp rx;obtain⟨b,ws,e2,n2,q2,z2⟩:=Rep.Do.mp ry
   have hl1:=z1.length
   have hl2:=z2.length;rw[Js]at h;exact EF pins s σ H vx vy ux uy Q I r1 r2 ⟨a,b,vs,ws,e1,e2,q1,q2,by omega,λp hpn=>hp _ (a9 hpn _) _ (ke hpn (hf p hpn) (z1.append z2))⟩
  ·exact hp.elim
 ·exact hp.elim
def uF:T->T->Rs T
 | .int i,.int j=>if (-(2 ^ 64)<i/\i<2 ^ 64)\/(-(2 ^ 64)<j/\j<2 ^ 64)then .ok (.int (i*j))else .bad
 | .lst l,.int k=>if -(2 ^ 63)<=k/\k<2 ^ 63/\l.length*k.toNat<=sizeLine then .ok (.lst (JH k.toNat l).flatten)else .bad
 | _,_=> .bad
theorem Reps.rep {K:Jh}{O:Ow}{H:Hp}{l:List T}{vs:List V}(h:Reps K O H l vs):∀k:Nat,Reps K O H (JH k l).flatten (JH k vs).flatten
 | 0=>Reps.Gc
 | k+1=>by rw[KM,KM,Li,Li];exact h.append (h.rep k)
theorem Ez:OpT X (KY .Mult) uF:=by
 intro pins s σ H O x y vx vy ux uy Q I hf rx ry r1 r2 hp;unfold uF at hp
 split at hp
 ·split at hp
  ·rename_i h
   exact EC pins s σ H vx vy ux uy Q I r1 r2 ⟨_,_,Rep.AC.mp rx,Rep.AC.mp ry,h,hp H (Same.refl H) _ (Rep.GM _)⟩
  ·exact hp.elim
 ·split at hp
  ·rename_i l k h
   obtain⟨a,vs,e1,n1,q1,z1⟩:=Rep.Do.mp rx
   have hl1:=z1.length;exact EB pins s σ H vx vy ux uy Q I r1 r2 ⟨a,k,vs,e1,Rep.AC.mp ry,q1,h.1,h.2.1,by rw[<-hl1];exact h.2.2,λp hpn=>hp _ (a9 hpn _) _ (ke hpn (hf p hpn) (z1.rep _))⟩
  ·exact hp.elim
 ·exact hp.elim
def ji:T->Rs T
 | .int i=> .ok (.int (-i))
 | _=> .bad
def o1 (g:T->Rs T)(fa:En->Rs T)(Z:En):Rs T:=fa Z >>= g
theorem GF (ha:b6 X a fa):b6 X (.UnaryOp .USub a pos) (o1 ji fa):=by
 intro pins s σ H Q I ⟨Z,O,E,hq⟩;refine GQ DB ha pins s σ H Q I ?_
 obtain⟨Z1,O1,E1,h1⟩:=aV E hq;refine⟨Z1,O1,E1,Post.mono h1 λts H1 s1 q vs r=> ?_⟩
 obtain⟨t',r',s',E',q'⟩:=q vs r;unfold ji at q'
 split at q'
 ·exact⟨_,Rep.AC.mp r',q' H1 (Same.refl H1) _ (Rep.GM _)⟩
 ·exact q'.elim
def uZ (p:Int->Int->Bool):T->T->Rs T
 | .int i,.int j=> .ok (.bl (p i j))
 | _,_=> .bad
theorem vX {op:P7}{p:Int->Int->Bool}(h:rA X (Kh op) (DJ λi j=> .bl (p i j))):OpT X (Kh op) (uZ p):=OpT.of h λH O x y vx vy Q hf rx ry hp=>by
 unfold uZ at hp
 split at hp
 ·exact⟨_,_,Rep.AC.mp rx,Rep.AC.mp ry,hp H (Same.refl H) _ (Rep.bl_ _)⟩
 ·exact hp.elim
abbrev FK:=uZ λi j=>decide (i<j)
abbrev Hb:=uZ λi j=>decide (i<=j)
theorem zc:OpT X (Kh .Lt) FK:=vX GW
theorem vV:OpT X (Kh .LtE) Hb:=vX GX
def T.isN:T->Bool
 | .non=>true
 | _=>false
theorem Rep.isN {K:Jh}{O:Ow}{H:Hp}{t:T}{v:V}(r:Rep K O H t v):decide (v= .non)=t.isN:=by
 cases t with
 | non=>rw[Rep.Ik.mp r];rfl
 | bl _=>rw[Rep.FM.mp r];rfl
 | int _=>rw[Rep.AC.mp r];rfl
 | str _=>rw[Rep.GE.mp r];rfl
 | tup _=>obtain⟨a,vs,e,_⟩:=Rep.Fk.mp r;rw[e];rfl
 | lst _=>obtain⟨a,vs,e,_⟩:=Rep.Do.mp r;rw[e];rfl
 | scr _=>unfold Rep at r;obtain⟨a,e,_⟩:=r;rw[e];rfl
 | dct _ _=>obtain⟨a,_,e,_⟩:=Rep.Il.mp r;rw[e];rfl
 | ob _ _ _=>obtain⟨a,_,_,e,_⟩:=Rep.IB.mp r;rw[e];rfl
def lQ:T->T->Rs T
 | x,.non=> .ok (.bl x.isN)
 | _,_=> .bad
def iq:T->T->Rs T
 | x,.non=> .ok (.bl (!x.isN))
 | _,_=> .bad
theorem vW:OpT X (Kh .Is) lQ:=OpT.of EE λH O x y vx vy Q hf rx ry hp=>by
 unfold lQ at hp
 split at hp
 ·exact⟨Rep.Ik.mp ry,hp H (Same.refl H) _ (by rw[rx.isN];exact Rep.bl_ _)⟩
 ·exact hp.elim
theorem kg:OpT X (Kh .IsNot) iq:=OpT.of BY λH O x y vx vy Q hf rx ry hp=>by
 unfold iq at hp
 split at hp
 ·exact⟨Rep.Ik.mp ry,hp H (Same.refl H) _ (by rw[rx.isN];exact Rep.bl_ _)⟩
 ·exact hp.elim
end
end Tr
namespace Tr
open PySem PySem.Spec PyProof.Rows L2
open PySem.SeqAt
mutual
def ReV (s:Jl):T->Ji->Prop
 | .non,u=>u= .none
 | .bl b,u=>u= .bool b
 | .int i,u=> ∃t,u= .int i t
 | .str x,u=> ∃t,u= .str x t
 | .tup l,u=> ∃a its,u= .ref a/\s.heap.IsTuple a (Pl its)/\ReVs s l its
 | .lst l,u=> ∃a its,u= .ref a/\s.heap.IsList a (Pl its)/\ReVs s l its
 | .scr l,u=> ∃a its,u= .ref a/\s.heap.IsList a (Pl its)/\MH its l
 | .dct _ _,_=>False
 | .ob _ _ _,_=>False
def ReVs (s:Jl):List T->List Ji->Prop
 | [],us=>us= []
 | t::r,us=> ∃u ws,us=u::ws/\ReV s t u/\ReVs s r ws
end
theorem ReVs.Da {s:Jl}{us:List Ji}:ReVs s [] us↔us= []:=by unfold ReVs;exact L9
theorem ReVs.me {s:Jl}{t:T}{l:List T}{us:List Ji}:ReVs s (t::l) us↔ ∃u ws,us=u::ws/\ReV s t u/\ReVs s l ws:=by
 constructor
 ·intro h;unfold ReVs at h;exact h
 ·intro h;unfold ReVs;exact h
theorem ReVs.length {s:Jl}:∀{l:List T} {us:List Ji},ReVs s l us->l.length=us.length
 | [],us,r=>by rw[ReVs.Da.mp r];rfl
 | t::l,us,r=>by
  obtain⟨v,ws,rfl,_,q⟩:=ReVs.me.mp r;simp[q.length]
theorem ReVs.get {s:Jl}:∀{l:List T} {us:List Ji} {i:Nat} {t:T},ReVs s l us->l[i]? =some t->∃v,us[i]? =some v/\ReV s t v
 | [],_,_,_,_,e=>by simp at e
 | t::l,vs,i,u,r,e=>by
  obtain⟨v,ws,rfl,p,q⟩:=ReVs.me.mp r
  cases i with
  | zero=>simp at e;subst e;exact⟨v,rfl,p⟩
  | succ i=>
   obtain⟨z,e1,e2⟩:=q.get (i:=i) (t:=u) (by simpa using e)
   exact⟨z,by simpa using e1,e2⟩
mutual
def T.nd:T->Bool
 | .dct _ _=>false
 | .ob _ _ _=>false
 | .tup l=>nds l
 | .lst l=>nds l
 | _=>true
def nds:List T->Bool
 | [] =>true
 | t::l=>t.nd&&nds l
end
theorem sI {t:T}{l:List T}(h:nds (t::l)=true):t.nd=true/\nds l=true:=by unfold nds at h;exact Kk.mp h
section
variable {X:Cx}{pins:List (Addr×Obj)}{σ:L2.St}{H:Hp}{s:Jl}{O:Ow}
mutual
theorem Rep.val (I:Inv X pins σ H s):∀{t:T} {v:V} {u:Ji},t.nd=true->Rep X.K O H t v->RelV v u->ReV s t u
 | .non,v,u,hn,r,q=>by cases Rep.Ik.mp r;unfold ReV;exact q
 | .bl b,v,u,hn,r,q=>by cases Rep.FM.mp r;unfold ReV;exact q
 | .int b,v,u,hn,r,q=>by cases Rep.AC.mp r;unfold ReV;exact q
 | .str b,v,u,hn,r,q=>by cases Rep.GE.mp r;unfold ReV;exact q
 | .tup l,v,u,hn,r,q=>by
  obtain⟨a,vs,rfl,_,z,w⟩:=Rep.Fk.mp r;cases q;obtain⟨its,rv,p,_⟩:=I.tuple (SqT.of z);unfold ReV
  exact⟨a,its,rfl,p,Reps.val I (by unfold T.nd at hn;exact hn) w rv⟩
 | .lst l,v,u,hn,r,q=>by
  obtain⟨a,vs,rfl,_,z,w⟩:=Rep.Do.mp r;cases q;obtain⟨its,rv,p,_⟩:=I.list (SqL.of z);unfold ReV
  exact⟨a,its,rfl,p.isList,Reps.val I (by unfold T.nd at hn;exact hn) w rv⟩
 | .scr l,v,u,hn,r,q=>by
  unfold Rep at r;obtain⟨a,rfl,_,z⟩:=r;cases q;obtain⟨its,rv,p,_⟩:=I.list z;unfold ReV
  exact⟨a,its,rfl,p.isList,uR rv⟩
 | .dct _ _,v,u,hn,r,q=>by cases hn
 | .ob _ _ _,v,u,hn,r,q=>by cases hn
theorem Reps.val (I:Inv X pins σ H s):∀{l:List T} {vs:List V} {us:List Ji},nds l=true->Reps X.K O H l vs->Vals vs us->ReVs s l us
 | [],vs,us,hn,r,q=>by
  cases Reps.Da.mp r;cases q
  exact ReVs.Da.mpr rfl
 | t::l,vs,us,hn,r,q=>by
  obtain⟨v,ws,rfl,p,z⟩:=Reps.me.mp r
  cases q with
  | cons q1 q2=>exact ReVs.me.mpr ⟨_,_,rfl,Rep.val I (sI hn).1 p q1,Reps.val I (sI hn).2 z q2⟩
end
end
mutual
def T.dep:T->Nat
 | .tup l=>deps l+1
 | .lst l=>deps l+1
 | .scr _=>1
 | _=>0
def deps:List T->Nat
 | [] =>0
 | t::l=>max t.dep (deps l)
end
def CF (i:Int):T->Bool
 | .int j=>i == j
 | .bl b=>i == (if b then 1 else 0)
 | _=>false
def jx:List Int->List T->Bool
 | [],[] =>true
 | i::r,t::l=>CF i t&&jx r l
 | _,_=>false
mutual
def a6:T->T->Bool
 | .non,.non=>true
 | .bl a,.bl b=>a == b
 | .bl a,.int b=>(if a then 1 else 0) == b
 | .int a,.bl b=>a == (if b then 1 else 0)
 | .int a,.int b=>a == b
 | .str a,.str b=>a == b
 | .tup l,.tup m=>beqTs l m
 | .lst l,.lst m=>beqTs l m
 | .lst l,.scr m=>beqTs l (m.map .int)
 | .scr l,.lst m=>jx l m
 | .scr l,.scr m=>l == m
 | _,_=>false
def beqTs:List T->List T->Bool
 | [],[] =>true
 | t::l,u::m=>a6 t u&&beqTs l m
 | _,_=>false
end
theorem nX (n:Nat)(e:Nat->Bool):(J9 (n+1)).all e=(e 0&&(J9 n).all λj=>e (j+1)):=by
 rw[Nx,List.all_cons,List.all_map];rfl
theorem kW:∀(l m:List T) (e:Nat->Bool),(∀(j:Nat) t u,l[j]? =some t->m[j]? =some u->e j=a6 t u) →
  beqTs l m=((J9 (min l.length m.length)).all e&&l.length == m.length)
 | [],[],_,_=>by simp[beqTs]
 | [],_::_,_,_=>by simp[beqTs]
 | _::_,[],_,_=>by simp[beqTs]
 | t::l,u::m,e,h=>by
  have ih:=kW l m (λj=>e (j+1)) λj t' u' h1 h2=>h (j+1) t' u' (by simpa using h1) (by simpa using h2)
  rw[beqTs,ih]
  have h0:=h 0 t u rfl rfl;simp only[Jp];rw[Nat.succ_min_succ,nX,h0,Bool.and_assoc]
  congr 2
  simp
theorem pO:∀{l m:List T},l.length≠m.length->beqTs l m=false
 | [],[],h=>absurd rfl h
 | [],_::_,_=>by simp[beqTs]
 | _::_,[],_=>by simp[beqTs]
 | t::l,u::m,h=>by
  rw[beqTs,pO (l:=l) (m:=m) (by intro z;exact h (by simp[z]))]
  simp
theorem iM:∀{l:List T} {i:Nat} {t:T},l[i]? =some t->t.dep<=deps l
 | [],_,_,e=>by simp at e
 | t::l,0,u,e=>by simp at e;subst e;unfold deps;exact Nat.le_max_left _ _
 | t::l,i+1,u,e=>by
  have:=iM (l:=l) (i:=i) (t:=u) (by simpa using e)
  unfold deps;exact J2 this (Nat.le_max_right _ _)
theorem iF {s:Jl}{a:Addr}{x y:List Ji}(h:s.heap.IsTuple a x.toArray)(h':s.heap.IsTuple a y.toArray):x=y:=by
 obtain⟨o,e,_,n,d⟩:=h;obtain⟨o',e',_,n',d'⟩:=h';rw[e]at e';cases e';rw[d]at d';injection d' with d1 _
 simpa using congrArg NH d1
theorem cD {s:Jl}{a:Addr}{x y:List Ji}(h:s.heap.IsList a x.toArray)(h':s.heap.IsList a y.toArray):x=y:=by
 obtain⟨o,e,_,n,d⟩:=h;obtain⟨o',e',_,n',d'⟩:=h';rw[e]at e';cases e';rw[d]at d';injection d' with d1 _
 simpa using congrArg NH d1
theorem yb {s:Jl}{i:Int}{t:T}{k:Tok}(r:ReV s t (.int i k)):CF i t=true:=by
 cases t with
 | non=>unfold ReV at r;cases r
 | bl b=>unfold ReV at r;cases r
 | int j=>unfold ReV at r;obtain⟨t,e⟩:=r;injection e with e1 _;subst e1;simp[CF]
 | str x=>unfold ReV at r;obtain⟨t,e⟩:=r;cases e
 | tup l=>unfold ReV at r;obtain⟨a,its,e,_⟩:=r;cases e
 | lst l=>unfold ReV at r;obtain⟨a,its,e,_⟩:=r;cases e
 | scr l=>unfold ReV at r;obtain⟨a,its,e,_⟩:=r;cases e
 | dct _ _=>unfold ReV at r;exact r.elim
 | ob _ _ _=>unfold ReV at r;exact r.elim
theorem nW {s:Jl}:∀{ns:List Int} {us:List Ji} {l:List T},MH us ns->ReVs s l us->jx ns l=true
 | [],us,l,h,r=>by
  cases h
  cases l with
  | nil=>rfl
  | cons t l=>obtain⟨_,_,e,_⟩:=ReVs.me.mp r;cases e
 | n::ns,us,l,h,r=>by
  cases h with
  | cons a b hh=>
   cases l with
   | nil=>have:=ReVs.Da.mp r;cases this
   | cons t l=>
    obtain⟨u,ws,e,p,q⟩:=ReVs.me.mp r;injection e with e1 e2
    subst e1 e2;rw[jx,yb p,nW hh q];rfl
theorem dy {s:Jl}:∀{us:List Ji} {ns:List Int},MH us ns->ReVs s (ns.map T.int) us
 | _,_,.nil=>ReVs.Da.mpr rfl
 | _,_,.cons n t h=>ReVs.me.mpr ⟨_,_,rfl,by unfold ReV;exact⟨_,rfl⟩,dy h⟩
theorem iG:∀{us:List Ji} {ns ms:List Int},MH us ns->MH us ms->ns=ms
 | _,_,_,.nil,.nil=>rfl
 | _,_,_,.cons n t h,.cons _ _ h'=>by rw[iG h h']
mutual
theorem ReV.refl {s:Jl}:∀{t u:T} {v:Ji},ReV s t v->ReV s u v->a6 t u=true
 | .non,u,v,r,q=>by
  unfold ReV at r;subst r
  cases u <;> (unfold ReV at q) <;> first | rfl | (cases q;done) | (obtain⟨_,e⟩:=q;cases e;done) | (obtain⟨_,_,e,_⟩:=q;cases e;done)
 | .bl b,u,v,r,q=>by
  unfold ReV at r;subst r
  cases u <;> (unfold ReV at q) <;> first | (cases q;done) | (cases q;simp[a6];done) | (obtain⟨_,e⟩:=q;cases e;done) | (obtain⟨_,_,e,_⟩:=q;cases e;done)
 | .int b,u,v,r,q=>by
  unfold ReV at r;obtain⟨k,rfl⟩:=r
  cases u <;> (unfold ReV at q) <;> first | (cases q;done) | (obtain⟨_,e⟩:=q;cases e;simp[a6];done) | (obtain⟨_,e⟩:=q;cases e;done) | (obtain⟨_,_,e,_⟩:=q;cases e;done)
 | .str b,u,v,r,q=>by
  unfold ReV at r;obtain⟨k,rfl⟩:=r
  cases u <;> (unfold ReV at q) <;> first | (cases q;done) | (obtain⟨_,e⟩:=q;cases e;simp[a6];done) | (obtain⟨_,e⟩:=q;cases e;done) | (obtain⟨_,_,e,_⟩:=q;cases e;done)
 | .tup l,u,v,r,q=>by
  unfold ReV at r;obtain⟨a,its,rfl,h1,h2⟩:=r
  cases u with
  | non=>unfold ReV at q;cases q
  | dct _ _=>unfold ReV at q;exact q.elim
  | ob _ _ _=>unfold ReV at q;exact q.elim
  | bl _=>unfold ReV at q;cases q
  | int _=>unfold ReV at q;obtain⟨_,e⟩:=q;cases e
  | str _=>unfold ReV at q;obtain⟨_,e⟩:=q;cases e
  | tup m=>
   unfold ReV at q;obtain⟨a',its',e,h1',h2'⟩:=q;injection e with e;subst e
   have:=iF h1 h1';subst this;unfold a6
   exact ReVs.refl h2 h2'
  | lst m=>unfold ReV at q;obtain⟨a',its',e,h1',h2'⟩:=q;injection e with e;subst e;exact absurd rfl (ne_of_list_tuple h1' h1)
  | scr m=>unfold ReV at q;obtain⟨a',its',e,h1',h2'⟩:=q;injection e with e;subst e;exact absurd rfl (ne_of_list_tuple h1' h1)
 | .lst l,u,v,r,q=>by
  unfold ReV at r;obtain⟨a,its,rfl,h1,h2⟩:=r
  cases u with
  | non=>unfold ReV at q;cases q
  | dct _ _=>unfold ReV at q;exact q.elim
  | ob _ _ _=>unfold ReV at q;exact q.elim
  | bl _=>unfold ReV at q;cases q
  | int _=>unfold ReV at q;obtain⟨_,e⟩:=q;cases e
  | str _=>unfold ReV at q;obtain⟨_,e⟩:=q;cases e
  | lst m=>
   unfold ReV at q;obtain⟨a',its',e,h1',h2'⟩:=q;injection e with e;subst e
   have:=cD h1 h1';subst this;unfold a6
   exact ReVs.refl h2 h2'
  | tup m=>unfold ReV at q;obtain⟨a',its',e,h1',h2'⟩:=q;injection e with e;subst e;exact absurd rfl (ne_of_list_tuple h1 h1')
  | scr m=>
   unfold ReV at q;obtain⟨a',its',e,h1',h2'⟩:=q;injection e with e;subst e
   have:=cD h1 h1';subst this;unfold a6
   exact ReVs.refl h2 (dy h2')
 | .scr l,u,v,r,q=>by
  unfold ReV at r;obtain⟨a,its,rfl,h1,h2⟩:=r
  cases u with
  | non=>unfold ReV at q;cases q
  | dct _ _=>unfold ReV at q;exact q.elim
  | ob _ _ _=>unfold ReV at q;exact q.elim
  | bl _=>unfold ReV at q;cases q
  | int _=>unfold ReV at q;obtain⟨_,e⟩:=q;cases e
  | str _=>unfold ReV at q;obtain⟨_,e⟩:=q;cases e
  | lst m=>
   unfold ReV at q;obtain⟨a',its',e,h1',h2'⟩:=q;injection e with e;subst e
   have:=cD h1 h1';subst this;unfold a6
   exact nW h2 h2'
  | tup m=>unfold ReV at q;obtain⟨a',its',e,h1',h2'⟩:=q;injection e with e;subst e;exact absurd rfl (ne_of_list_tuple h1 h1')
  | scr m=>
   unfold ReV at q;obtain⟨a',its',e,h1',h2'⟩:=q;injection e with e;subst e
   have:=cD h1 h1';subst this;unfold a6
   have:=iG h2 h2'
   simp[this]
 | .dct _ _,u,v,r,q=>by unfold ReV at r;exact r.elim
 | .ob _ _ _,u,v,r,q=>by unfold ReV at r;exact r.elim
theorem ReVs.refl {s:Jl}:∀{l m:List T} {us:List Ji},ReVs s l us->ReVs s m us->beqTs l m=true
 | [],m,us,r,q=>by
  cases ReVs.Da.mp r
  cases m with
  | nil=>simp[beqTs]
  | cons _ _=>obtain⟨_,_,e,_⟩:=ReVs.me.mp q;cases e
 | t::l,m,us,r,q=>by
  obtain⟨v,ws,rfl,p,z⟩:=ReVs.me.mp r
  cases m with
  | nil=>cases ReVs.Da.mp q
  | cons u m=>
   obtain⟨v',ws',e,p',z'⟩:=ReVs.me.mp q;injection e with e1 e2
   subst e1 e2;rw[beqTs,ReV.refl p p',ReVs.refl z z'];rfl
end
theorem nV:∀(l:List Int) (m:List T),jx l m=beqTs (l.map T.int) m
 | [],[] =>by simp[jx,beqTs]
 | [],_::_=>by simp[jx,beqTs]
 | _::_,[] =>by simp[jx,beqTs]
 | i::l,t::m=>by
  rw[jx,Jm,beqTs,nV l m]
  congr 1
  cases t <;> simp[CF,a6]
theorem p7:∀(l m:List Int),(l == m)=beqTs (l.map T.int) (m.map T.int)
 | [],[] =>by simp[beqTs]
 | [],_::_=>by simp[beqTs]
 | _::_,[] =>by simp[beqTs]
 | i::l,t::m=>by
  rw[Jm,Jm,beqTs,<-p7 l m];simp[a6]
theorem eX:∀(l:List Int),deps (l.map T.int)=0
 | [] =>rfl
 | i::l=>by rw[Jm,deps,eX l];simp[T.dep]
def i6:T->T->Prop
 | .tup _,.tup _=>False
 | .lst _,.lst _=>False
 | .lst _,.scr _=>False
 | .scr _,.lst _=>False
 | .scr _,.scr _=>False
 | _,_=>True
theorem tf (A:J0)(s:Jl)(x y:T)(u v:Ji)(hn:i6 x y)(hu:A.units<cLine)(rx:ReV s x u)(ry:ReV s y v):EqAt A s u v (a6 x y)/\RcAt A s u v (a6 x y)/\RcNeAt A s u v (!a6 x y):=by
 match x,y,hn,rx,ry with
 | .dct _ _,_,_,rx,_=>exact(by unfold ReV at rx;exact rx:False).elim
 | .ob _ _ _,_,_,rx,_=>exact(by unfold ReV at rx;exact rx:False).elim
 | _,.dct _ _,_,_,ry=>exact(by unfold ReV at ry;exact ry:False).elim
 | _,.ob _ _ _,_,_,ry=>exact(by unfold ReV at ry;exact ry:False).elim
 | .non,.non,hn,rx,ry=>
  obtain rfl:u=JY:=by unfold ReV at rx;exact rx
  obtain rfl:v=JY:=by unfold ReV at ry;exact ry
  exact⟨EqAt.same _,RcAt.none_none ,RcNeAt.none_none ⟩
 | .non,.bl b2,hn,rx,ry=>
  obtain rfl:u=JY:=by unfold ReV at rx;exact rx
  obtain rfl:v=Ko b2:=by unfold ReV at ry;exact ry
  exact⟨EqAt.none_bool b2,RcAt.none_bool b2,RcNeAt.none_bool b2⟩
 | .non,.int i2,hn,rx,ry=>
  obtain rfl:u=JY:=by unfold ReV at rx;exact rx
  obtain⟨k2,rfl⟩:∃k,v=KG i2 k:=by unfold ReV at ry;exact ry
  exact⟨EqAt.none_int i2 k2,RcAt.none_int i2 k2,RcNeAt.none_int i2 k2⟩
 | .non,.str x2,hn,rx,ry=>
  obtain rfl:u=JY:=by unfold ReV at rx;exact rx
  obtain⟨k2,rfl⟩:∃k,v=KH x2 k:=by unfold ReV at ry;exact ry
  exact⟨EqAt.none_str x2 k2,RcAt.none_str x2 k2,RcNeAt.none_str x2 k2⟩
 | .non,.tup l2,hn,rx,ry=>
  obtain rfl:u=JY:=by unfold ReV at rx;exact rx
  unfold ReV at ry;obtain⟨a2,us2,rfl,h2,q2⟩:=ry
  exact⟨EqAt.none_tuple h2 hu,RcAt.none_tuple h2 hu,RcNeAt.none_tuple h2 hu⟩
 | .non,.lst l2,hn,rx,ry=>
  obtain rfl:u=JY:=by unfold ReV at rx;exact rx
  unfold ReV at ry;obtain⟨a2,us2,rfl,h2,q2⟩:=ry
  exact⟨EqAt.none_list h2 hu,RcAt.none_list h2 hu,RcNeAt.none_list h2 hu⟩
 | .non,.scr l2,hn,rx,ry=>
  obtain rfl:u=JY:=by unfold ReV at rx;exact rx
  unfold ReV at ry;obtain⟨a2,us2,rfl,h2,q2⟩:=ry
  exact⟨EqAt.none_list h2 hu,RcAt.none_list h2 hu,RcNeAt.none_list h2 hu⟩
 | .bl b1,.non,hn,rx,ry=>
  obtain rfl:u=Ko b1:=by unfold ReV at rx;exact rx
  obtain rfl:v=JY:=by unfold ReV at ry;exact ry
  exact⟨EqAt.bool_none b1,RcAt.bool_none b1,RcNeAt.bool_none b1⟩
 | .bl b1,.bl b2,hn,rx,ry=>
  obtain rfl:u=Ko b1:=by unfold ReV at rx;exact rx
  obtain rfl:v=Ko b2:=by unfold ReV at ry;exact ry
  exact⟨EqAt.bool_bool b1 b2,RcAt.bool_bool b1 b2,RcNeAt.bool_bool b1 b2⟩
 | .bl b1,.int i2,hn,rx,ry=>
  obtain rfl:u=Ko b1:=by unfold ReV at rx;exact rx
  obtain⟨k2,rfl⟩:∃k,v=KG i2 k:=by unfold ReV at ry;exact ry
  exact⟨EqAt.bool_int b1 i2 k2,RcAt.bool_int b1 i2 k2,RcNeAt.bool_int b1 i2 k2⟩
 | .bl b1,.str x2,hn,rx,ry=>
  obtain rfl:u=Ko b1:=by unfold ReV at rx;exact rx
  obtain⟨k2,rfl⟩:∃k,v=KH x2 k:=by unfold ReV at ry;exact ry
  exact⟨EqAt.bool_str b1 x2 k2,RcAt.bool_str b1 x2 k2,RcNeAt.bool_str b1 x2 k2⟩
 | .bl b1,.tup l2,hn,rx,ry=>
  obtain rfl:u=Ko b1:=by unfold ReV at rx;exact rx
  unfold ReV at ry;obtain⟨a2,us2,rfl,h2,q2⟩:=ry
  exact⟨EqAt.bool_tuple b1 h2 hu,RcAt.bool_tuple b1 h2 hu,RcNeAt.bool_tuple b1 h2 hu⟩
 | .bl b1,.lst l2,hn,rx,ry=>
  obtain rfl:u=Ko b1:=by unfold ReV at rx;exact rx
  unfold ReV at ry;obtain⟨a2,us2,rfl,h2,q2⟩:=ry
  exact⟨EqAt.bool_list b1 h2 hu,RcAt.bool_list b1 h2 hu,RcNeAt.bool_list b1 h2 hu⟩
 | .bl b1,.scr l2,hn,rx,ry=>
  obtain rfl:u=Ko b1:=by unfold ReV at rx;exact rx
  unfold ReV at ry;obtain⟨a2,us2,rfl,h2,q2⟩:=ry
  exact⟨EqAt.bool_list b1 h2 hu,RcAt.bool_list b1 h2 hu,RcNeAt.bool_list b1 h2 hu⟩
 | .int i1,.non,hn,rx,ry=>
  obtain⟨k1,rfl⟩:∃k,u=KG i1 k:=by unfold ReV at rx;exact rx
  obtain rfl:v=JY:=by unfold ReV at ry;exact ry
  exact⟨EqAt.int_none i1 k1,RcAt.int_none i1 k1,RcNeAt.int_none i1 k1⟩
 | .int i1,.bl b2,hn,rx,ry=>
  obtain⟨k1,rfl⟩:∃k,u=KG i1 k:=by unfold ReV at rx;exact rx
  obtain rfl:v=Ko b2:=by unfold ReV at ry;exact ry
  exact⟨EqAt.int_bool i1 k1 b2,RcAt.int_bool i1 k1 b2,RcNeAt.int_bool i1 k1 b2⟩
 | .int i1,.int i2,hn,rx,ry=>
  obtain⟨k1,rfl⟩:∃k,u=KG i1 k:=by unfold ReV at rx;exact rx
  obtain⟨k2,rfl⟩:∃k,v=KG i2 k:=by unfold ReV at ry;exact ry
  exact⟨EqAt.int_int i1 k1 i2 k2,RcAt.int_int i1 k1 i2 k2,RcNeAt.int_int i1 k1 i2 k2⟩
 | .int i1,.str x2,hn,rx,ry=>
  obtain⟨k1,rfl⟩:∃k,u=KG i1 k:=by unfold ReV at rx;exact rx
  obtain⟨k2,rfl⟩:∃k,v=KH x2 k:=by unfold ReV at ry;exact ry
  exact⟨EqAt.int_str i1 k1 x2 k2,RcAt.int_str i1 k1 x2 k2,RcNeAt.int_str i1 k1 x2 k2⟩
 | .int i1,.tup l2,hn,rx,ry=>
  obtain⟨k1,rfl⟩:∃k,u=KG i1 k:=by unfold ReV at rx;exact rx
  unfold ReV at ry;obtain⟨a2,us2,rfl,h2,q2⟩:=ry
  exact⟨EqAt.int_tuple i1 k1 h2 hu,RcAt.int_tuple i1 k1 h2 hu,RcNeAt.int_tuple i1 k1 h2 hu⟩
 | .int i1,.lst l2,hn,rx,ry=>
  obtain⟨k1,rfl⟩:∃k,u=KG i1 k:=by unfold ReV at rx;exact rx
  unfold ReV at ry;obtain⟨a2,us2,rfl,h2,q2⟩:=ry
  exact⟨EqAt.int_list i1 k1 h2 hu,RcAt.int_list i1 k1 h2 hu,RcNeAt.int_list i1 k1 h2 hu⟩
 | .int i1,.scr l2,hn,rx,ry=>
  obtain⟨k1,rfl⟩:∃k,u=KG i1 k:=by unfold ReV at rx;exact rx
  unfold ReV at ry;obtain⟨a2,us2,rfl,h2,q2⟩:=ry
  exact⟨EqAt.int_list i1 k1 h2 hu,RcAt.int_list i1 k1 h2 hu,RcNeAt.int_list i1 k1 h2 hu⟩
 | .str x1,.non,hn,rx,ry=>
  obtain⟨k1,rfl⟩:∃k,u=KH x1 k:=by unfold ReV at rx;exact rx
  obtain rfl:v=JY:=by unfold ReV at ry;exact ry
  exact⟨EqAt.str_none x1 k1,RcAt.str_none x1 k1,RcNeAt.str_none x1 k1⟩
 | .str x1,.bl b2,hn,rx,ry=>
  obtain⟨k1,rfl⟩:∃k,u=KH x1 k:=by unfold ReV at rx;exact rx
  obtain rfl:v=Ko b2:=by unfold ReV at ry;exact ry
  exact⟨EqAt.str_bool x1 k1 b2,RcAt.str_bool x1 k1 b2,RcNeAt.str_bool x1 k1 b2⟩
 | .str x1,.int i2,hn,rx,ry=>
  obtain⟨k1,rfl⟩:∃k,u=KH x1 k:=by unfold ReV at rx;exact rx
  obtain⟨k2,rfl⟩:∃k,v=KG i2 k:=by unfold ReV at ry;exact ry
  exact⟨EqAt.str_int x1 k1 i2 k2,RcAt.str_int x1 k1 i2 k2,RcNeAt.str_int x1 k1 i2 k2⟩
 | .str x1,.str x2,hn,rx,ry=>
  obtain⟨k1,rfl⟩:∃k,u=KH x1 k:=by unfold ReV at rx;exact rx
  obtain⟨k2,rfl⟩:∃k,v=KH x2 k:=by unfold ReV at ry;exact ry
  exact⟨EqAt.str_str x1 k1 x2 k2,RcAt.str_str x1 k1 x2 k2,RcNeAt.str_str x1 k1 x2 k2⟩
 | .str x1,.tup l2,hn,rx,ry=>
  obtain⟨k1,rfl⟩:∃k,u=KH x1 k:=by unfold ReV at rx;exact rx
  unfold ReV at ry;obtain⟨a2,us2,rfl,h2,q2⟩:=ry
  exact⟨EqAt.str_tuple x1 k1 h2 hu,RcAt.str_tuple x1 k1 h2 hu,RcNeAt.str_tuple x1 k1 h2 hu⟩
 | .str x1,.lst l2,hn,rx,ry=>
  obtain⟨k1,rfl⟩:∃k,u=KH x1 k:=by unfold ReV at rx;exact rx
  unfold ReV at ry;obtain⟨a2,us2,rfl,h2,q2⟩:=ry
  exact⟨EqAt.str_list x1 k1 h2 hu,RcAt.str_list x1 k1 h2 hu,RcNeAt.str_list x1 k1 h2 hu⟩
 | .str x1,.scr l2,hn,rx,ry=>
  obtain⟨k1,rfl⟩:∃k,u=KH x1 k:=by unfold ReV at rx;exact rx
  unfold ReV at ry;obtain⟨a2,us2,rfl,h2,q2⟩:=ry
  exact⟨EqAt.str_list x1 k1 h2 hu,RcAt.str_list x1 k1 h2 hu,RcNeAt.str_list x1 k1 h2 hu⟩
 | .tup l1,.non,hn,rx,ry=>
  unfold ReV at rx;obtain⟨a1,us1,rfl,h1,q1⟩:=rx;obtain rfl:v=JY:=by unfold ReV at ry;exact ry
  exact⟨EqAt.tuple_none h1 hu,RcAt.tuple_none h1 hu,RcNeAt.tuple_none h1 hu⟩
 | .tup l1,.bl b2,hn,rx,ry=>
  unfold ReV at rx;obtain⟨a1,us1,rfl,h1,q1⟩:=rx;obtain rfl:v=Ko b2:=by unfold ReV at ry;exact ry
  exact⟨EqAt.tuple_bool b2 h1 hu,RcAt.tuple_bool b2 h1 hu,RcNeAt.tuple_bool b2 h1 hu⟩
 | .tup l1,.int i2,hn,rx,ry=>
  unfold ReV at rx;obtain⟨a1,us1,rfl,h1,q1⟩:=rx;obtain⟨k2,rfl⟩:∃k,v=KG i2 k:=by unfold ReV at ry;exact ry
  exact⟨EqAt.tuple_int i2 k2 h1 hu,RcAt.tuple_int i2 k2 h1 hu,RcNeAt.tuple_int i2 k2 h1 hu⟩
 | .tup l1,.str x2,hn,rx,ry=>
  unfold ReV at rx;obtain⟨a1,us1,rfl,h1,q1⟩:=rx;obtain⟨k2,rfl⟩:∃k,v=KH x2 k:=by unfold ReV at ry;exact ry
  exact⟨EqAt.tuple_str x2 k2 h1 hu,RcAt.tuple_str x2 k2 h1 hu,RcNeAt.tuple_str x2 k2 h1 hu⟩
 | .tup _,.tup _,hn,_,_=>exact hn.elim
 | .tup l1,.lst l2,hn,rx,ry=>
  unfold ReV at rx;obtain⟨a1,us1,rfl,h1,q1⟩:=rx;unfold ReV at ry;obtain⟨a2,us2,rfl,h2,q2⟩:=ry
  exact⟨EqAt.tuple_list h1 h2 hu,RcAt.tuple_list h1 h2 hu,RcNeAt.tuple_list h1 h2 hu⟩
 | .tup l1,.scr l2,hn,rx,ry=>
  unfold ReV at rx;obtain⟨a1,us1,rfl,h1,q1⟩:=rx;unfold ReV at ry;obtain⟨a2,us2,rfl,h2,q2⟩:=ry
  exact⟨EqAt.tuple_list h1 h2 hu,RcAt.tuple_list h1 h2 hu,RcNeAt.tuple_list h1 h2 hu⟩
 | .lst l1,.non,hn,rx,ry=>
  unfold ReV at rx;obtain⟨a1,us1,rfl,h1,q1⟩:=rx;obtain rfl:v=JY:=by unfold ReV at ry;exact ry
  exact⟨EqAt.list_none h1 hu,RcAt.list_none h1 hu,RcNeAt.list_none h1 hu⟩
 | .lst l1,.bl b2,hn,rx,ry=>
  unfold ReV at rx;obtain⟨a1,us1,rfl,h1,q1⟩:=rx;obtain rfl:v=Ko b2:=by unfold ReV at ry;exact ry
  exact⟨EqAt.list_bool b2 h1 hu,RcAt.list_bool b2 h1 hu,RcNeAt.list_bool b2 h1 hu⟩
 | .lst l1,.int i2,hn,rx,ry=>
  unfold ReV at rx;obtain⟨a1,us1,rfl,h1,q1⟩:=rx;obtain⟨k2,rfl⟩:∃k,v=KG i2 k:=by unfold ReV at ry;exact ry
  exact⟨EqAt.list_int i2 k2 h1 hu,RcAt.list_int i2 k2 h1 hu,RcNeAt.list_int i2 k2 h1 hu⟩
 | .lst l1,.str x2,hn,rx,ry=>
  unfold ReV at rx;obtain⟨a1,us1,rfl,h1,q1⟩:=rx;obtain⟨k2,rfl⟩:∃k,v=KH x2 k:=by unfold ReV at ry;exact ry
  exact⟨EqAt.list_str x2 k2 h1 hu,RcAt.list_str x2 k2 h1 hu,RcNeAt.list_str x2 k2 h1 hu⟩
 | .lst l1,.tup l2,hn,rx,ry=>
  unfold ReV at rx;obtain⟨a1,us1,rfl,h1,q1⟩:=rx;unfold ReV at ry;obtain⟨a2,us2,rfl,h2,q2⟩:=ry
  exact⟨EqAt.list_tuple h1 h2 hu,RcAt.list_tuple h1 h2 hu,RcNeAt.list_tuple h1 h2 hu⟩
 | .lst _,.lst _,hn,_,_=>exact hn.elim
 | .lst _,.scr _,hn,_,_=>exact hn.elim
 | .scr l1,.non,hn,rx,ry=>
  unfold ReV at rx;obtain⟨a1,us1,rfl,h1,q1⟩:=rx;obtain rfl:v=JY:=by unfold ReV at ry;exact ry
  exact⟨EqAt.list_none h1 hu,RcAt.list_none h1 hu,RcNeAt.list_none h1 hu⟩
 | .scr l1,.bl b2,hn,rx,ry=>
  unfold ReV at rx;obtain⟨a1,us1,rfl,h1,q1⟩:=rx;obtain rfl:v=Ko b2:=by unfold ReV at ry;exact ry
  exact⟨EqAt.list_bool b2 h1 hu,RcAt.list_bool b2 h1 hu,RcNeAt.list_bool b2 h1 hu⟩
 | .scr l1,.int i2,hn,rx,ry=>
  unfold ReV at rx;obtain⟨a1,us1,rfl,h1,q1⟩:=rx;obtain⟨k2,rfl⟩:∃k,v=KG i2 k:=by unfold ReV at ry;exact ry
  exact⟨EqAt.list_int i2 k2 h1 hu,RcAt.list_int i2 k2 h1 hu,RcNeAt.list_int i2 k2 h1 hu⟩
 | .scr l1,.str x2,hn,rx,ry=>
  unfold ReV at rx;obtain⟨a1,us1,rfl,h1,q1⟩:=rx;obtain⟨k2,rfl⟩:∃k,v=KH x2 k:=by unfold ReV at ry;exact ry
  exact⟨EqAt.list_str x2 k2 h1 hu,RcAt.list_str x2 k2 h1 hu,RcNeAt.list_str x2 k2 h1 hu⟩
 | .scr l1,.tup l2,hn,rx,ry=>
  unfold ReV at rx;obtain⟨a1,us1,rfl,h1,q1⟩:=rx;unfold ReV at ry;obtain⟨a2,us2,rfl,h2,q2⟩:=ry
  exact⟨EqAt.list_tuple h1 h2 hu,RcAt.list_tuple h1 h2 hu,RcNeAt.list_tuple h1 h2 hu⟩
 | .scr _,.lst _,hn,_,_=>exact hn.elim
 | .scr _,.scr _,hn,_,_=>exact hn.elim
theorem Cr:∀(n:Nat) (A:J0) (s:Jl) (x y:T) (u v:Ji),(x.dep<=n\/y.dep<=n)->A.units+n<cLine->ReV s x u->ReV s y v->EqAt A s u v (a6 x y)/\RcAt A s u v (a6 x y)/\RcNeAt A s u v (!a6 x y):=by
 intro n
 induction n with
 | zero=>
  intro A s x y u v hd hu rx ry
  exact tf A s x y u v (by cases x <;> cases y <;> simp_all [i6,T.dep]) (by omega) rx ry
 | succ n ih=>
  intro A s x y u v hd hu rx ry
  have hin:A.in1.units+n<cLine:=by show A.units+1+n<cLine;omega
  have items:∀(l m:List T) (us vs:List Ji),(deps l<=n\/deps m<=n)->ReVs s l us->ReVs s m vs->∃e:Nat->Bool,(∀j (h1:j<us.toArray.size) (h2:j<vs.toArray.size),EqAt A.in1 s us.toArray[j] vs.toArray[j] (e j)) ∧
    (∀(j:Nat) t u,l[j]? =some t->m[j]? =some u->e j=a6 t u):=λl m us vs hd r1 r2=>by
   refine⟨λj=>a6 (l.getD j .non) (m.getD j .non),λj h1 h2=> ?_,λj t u e1 e2=>by simp[List.getD,e1,e2]⟩
   have l1:=r1.length
   have l2:=r2.length
   have h1':j<l.length:=by rw[l1];simpa using h1
   have h2':j<m.length:=by rw[l2];simpa using h2
   have e1:l[j]? =some l[j]:=by simp
   have e2:m[j]? =some m[j]:=by simp
   obtain⟨u1,z1,w1⟩:=r1.get e1;obtain⟨u2,z2,w2⟩:=r2.get e2
   have q1:us.toArray[j] =u1:=by
    have:us[j]? =some us.toArray[j]:=by simp
    rw[z1]at this;exact(JW this).symm
   have q2:vs.toArray[j] =u2:=by
    have:vs[j]? =some vs.toArray[j]:=by simp
    rw[z2]at this;exact(JW this).symm
   rw[q1,q2]
   have g1:l.getD j .non=l[j]:=by simp[List.getD,e1]
   have g2:m.getD j .non=m[j]:=by simp[List.getD,e2]
   show EqAt A.in1 s u1 u2 (a6 (l.getD j .non) (m.getD j .non))
   rw[g1,g2];refine(ih A.in1 s l[j] m[j] u1 u2 ?_ hin w1 w2).1
   rcases hd with hd | hd
   ·exact .inl (J2 (iM e1) hd)
   ·exact .inr (J2 (iM e2) hd)
  have lists:∀(l m:List T) (a b:Addr) (us vs:List Ji),(deps l<=n\/deps m<=n)->ReVs s l us->ReVs s m vs->s.heap.IsList a us.toArray->s.heap.IsList b vs.toArray →
    EqAt A s (.ref a) (.ref b) (beqTs l m)/\RcAt A s (.ref a) (.ref b) (beqTs l m)/\RcNeAt A s (.ref a) (.ref b) (!beqTs l m):=λl m a b us vs hd r1 r2 h1 h2=>by
   have l1:=r1.length
   have l2:=r2.length
   have key:RcAt A s (.ref a) (.ref b) (beqTs l m)/\RcNeAt A s (.ref a) (.ref b) (!beqTs l m):=by
    by_cases hl:l.length=m.length
    ·obtain⟨e,he,hb⟩:=items l m us vs hd r1 r2
     have q:=kW l m e hb
     have q2:beqTs l m=(J9 us.toArray.size).all e:=by
      rw[q,hl,Nat.min_self];simp[l2.symm,hl.symm,l1]
     rw[q2]
     have hsz:us.toArray.size=vs.toArray.size:=by simp;omega
     exact⟨RcAt.lists h1 h2 hsz (by omega) he,RcNeAt.lists h1 h2 hsz (by omega) he⟩
    ·rw[pO hl]
     have hsz:(us.toArray.size != vs.toArray.size)=true:=by simp;omega
     exact⟨RcAt.lists_lengths h1 h2 hsz (by omega),RcNeAt.lists_lengths h1 h2 hsz (by omega)⟩
   refine⟨?_,key⟩
   by_cases hab:a=b
   ·subst hab
    have:=cD h1 h2;subst this;rw[ReVs.refl r1 r2];exact EqAt.same _
   ·exact EqAt.of_refs hab key.1
  cases x with
  | tup l=>
   cases y with
   | tup m=>
    unfold ReV at rx ry;obtain⟨a,us,rfl,h1,r1⟩:=rx;obtain⟨b,vs,rfl,h2,r2⟩:=ry
    have hd':deps l<=n\/deps m<=n:=by
     simp only[T.dep]at hd;omega
    have l1:=r1.length
    have l2:=r2.length;obtain⟨e,he,hb⟩:=items l m us vs hd' r1 r2
    have q:=kW l m e hb
    have q2:beqTs l m=((J9 (min us.toArray.size vs.toArray.size)).all e&&us.toArray.size == vs.toArray.size):=by
     rw[q];simp[l1,l2]
    have key:RcAt A s (.ref a) (.ref b) (beqTs l m)/\RcNeAt A s (.ref a) (.ref b) (!beqTs l m):=by
     rw[q2];exact⟨RcAt.tuples h1 h2 (by omega) he,RcNeAt.tuples h1 h2 (by omega) he⟩
    unfold a6;refine⟨?_,key⟩
    by_cases hab:a=b
    ·subst hab
     have:=iF h1 h2;subst this;rw[ReVs.refl r1 r2];exact EqAt.same _
    ·exact EqAt.of_refs hab key.1
   | _=>exact tf A s _ _ u v (by simp[i6]) (by omega) rx ry
  | lst l=>
   cases y with
   | lst m=>
    unfold ReV at rx ry;obtain⟨a,us,rfl,h1,r1⟩:=rx;obtain⟨b,vs,rfl,h2,r2⟩:=ry;unfold a6
    exact lists l m a b us vs (by simp only[T.dep]at hd;omega) r1 r2 h1 h2
   | scr m=>
    unfold ReV at rx ry;obtain⟨a,us,rfl,h1,r1⟩:=rx;obtain⟨b,vs,rfl,h2,r2⟩:=ry;unfold a6
    exact lists l (m.map T.int) a b us vs (by rw[eX];omega) r1 (dy r2) h1 h2
   | _=>exact tf A s _ _ u v (by simp[i6]) (by omega) rx ry
  | scr l=>
   cases y with
   | lst m=>
    unfold ReV at rx ry;obtain⟨a,us,rfl,h1,r1⟩:=rx;obtain⟨b,vs,rfl,h2,r2⟩:=ry;unfold a6;rw[nV]
    exact lists (l.map T.int) m a b us vs (by rw[eX];omega) (dy r1) r2 h1 h2
   | scr m=>
    unfold ReV at rx ry;obtain⟨a,us,rfl,h1,r1⟩:=rx;obtain⟨b,vs,rfl,h2,r2⟩:=ry;unfold a6;rw[p7]
    exact lists (l.map T.int) (m.map T.int) a b us vs (by rw[eX];omega) (dy r1) (dy r2) h1 h2
   | _=>exact tf A s _ _ u v (by simp[i6]) (by omega) rx ry
  | _=>exact tf A s _ _ u v (by simp[i6]) (by omega) rx ry
mutual
def T.nf:T->T
 | .tup l=> .tup (nfs l)
 | .lst l=> .lst (nfs l)
 | .scr l=> .lst (l.map .int)
 | .non=> .non
 | .bl b=> .bl b
 | .int b=> .int b
 | .str b=> .str b
 | .dct a b=> .dct a b
 | .ob a b c=> .ob a b c
def nfs:List T->List T
 | [] => []
 | t::l=>t.nf::nfs l
end
theorem sG:∀(l:List Int),nfs (l.map T.int)=l.map T.int
 | [] =>rfl
 | i::l=>by rw[Jm,nfs,sG l];simp[T.nf]
mutual
theorem kx:∀(t x:T),a6 t.nf x=a6 t x
 | .non,x=>by simp[T.nf]
 | .bl _,x=>by simp[T.nf]
 | .int _,x=>by simp[T.nf]
 | .str _,x=>by simp[T.nf]
 | .tup l,x=>by cases x <;> simp[T.nf,a6,beqTs_nf l]
 | .lst l,x=>by cases x <;> simp[T.nf,a6,beqTs_nf l]
 | .scr l,x=>by cases x <;> simp[T.nf,a6,nV,p7]
 | .dct _ _,x=>by simp[T.nf]
 | .ob _ _ _,x=>by simp[T.nf]
theorem beqTs_nf:∀(l m:List T),beqTs (nfs l) m=beqTs l m
 | [],m=>by simp[nfs]
 | t::l,m=>by cases m <;> simp[nfs,beqTs,kx t,beqTs_nf l]
end
theorem Fi {s:Jl}{t:T}{i:Int}{k:Tok}(r:ReV s t (.int i k)):t.nf= .int i:=by
 cases t with
 | non=>unfold ReV at r;cases r
 | bl b=>unfold ReV at r;cases r
 | int j=>unfold ReV at r;obtain⟨t,e⟩:=r;injection e with e1 _;subst e1;rfl
 | str x=>unfold ReV at r;obtain⟨t,e⟩:=r;cases e
 | tup l=>unfold ReV at r;obtain⟨a,its,e,_⟩:=r;cases e
 | lst l=>unfold ReV at r;obtain⟨a,its,e,_⟩:=r;cases e
 | scr l=>unfold ReV at r;obtain⟨a,its,e,_⟩:=r;cases e
 | dct _ _=>unfold ReV at r;exact r.elim
 | ob _ _ _=>unfold ReV at r;exact r.elim
theorem wG {s:Jl}:∀{l:List T} {us:List Ji} {ns:List Int},ReVs s l us->MH us ns->nfs l=ns.map T.int
 | [],us,ns,r,h=>by cases ReVs.Da.mp r;cases h;rfl
 | t::l,us,ns,r,h=>by
  obtain⟨u,ws,rfl,p,q⟩:=ReVs.me.mp r
  cases h with
  | cons a b hh=>rw[nfs,Fi p,wG q hh];rfl
mutual
theorem ReV.nf {s:Jl}:∀{t u:T} {v:Ji},ReV s t v->ReV s u v->t.nf=u.nf
 | .non,u,v,r,q=>by
  unfold ReV at r;subst r
  cases u <;> (unfold ReV at q) <;> first | rfl | (cases q;done) | (obtain⟨_,e⟩:=q;cases e;done) | (obtain⟨_,_,e,_⟩:=q;cases e;done)
 | .bl b,u,v,r,q=>by
  unfold ReV at r;subst r
  cases u <;> (unfold ReV at q) <;> first | (cases q;done) | (cases q;rfl) | (obtain⟨_,e⟩:=q;cases e;done) | (obtain⟨_,_,e,_⟩:=q;cases e;done)
 | .int b,u,v,r,q=>by
  unfold ReV at r;obtain⟨k,rfl⟩:=r
  cases u <;> (unfold ReV at q) <;> first | (cases q;done) | (obtain⟨_,e⟩:=q;cases e;done) | (obtain⟨_,e⟩:=q;cases e;rfl) | (obtain⟨_,_,e,_⟩:=q;cases e;done)
 | .str b,u,v,r,q=>by
  unfold ReV at r;obtain⟨k,rfl⟩:=r
  cases u <;> (unfold ReV at q) <;> first | (cases q;done) | (obtain⟨_,e⟩:=q;cases e;done) | (obtain⟨_,e⟩:=q;cases e;rfl) | (obtain⟨_,_,e,_⟩:=q;cases e;done)
 | .tup l,u,v,r,q=>by
  unfold ReV at r;obtain⟨a,its,rfl,h1,h2⟩:=r
  cases u with
  | non=>unfold ReV at q;cases q
  | dct _ _=>unfold ReV at q;exact q.elim
  | ob _ _ _=>unfold ReV at q;exact q.elim
  | bl _=>unfold ReV at q;cases q
  | int _=>unfold ReV at q;obtain⟨_,e⟩:=q;cases e
  | str _=>unfold ReV at q;obtain⟨_,e⟩:=q;cases e
  | tup m=>
   unfold ReV at q;obtain⟨a',its',e,h1',h2'⟩:=q;injection e with e;subst e
   have:=iF h1 h1';subst this;unfold T.nf
   rw[ReVs.nf h2 h2']
  | lst m=>unfold ReV at q;obtain⟨a',its',e,h1',h2'⟩:=q;injection e with e;subst e;exact absurd rfl (ne_of_list_tuple h1' h1)
  | scr m=>unfold ReV at q;obtain⟨a',its',e,h1',h2'⟩:=q;injection e with e;subst e;exact absurd rfl (ne_of_list_tuple h1' h1)
 | .lst l,u,v,r,q=>by
  unfold ReV at r;obtain⟨a,its,rfl,h1,h2⟩:=r
  cases u with
  | non=>unfold ReV at q;cases q
  | dct _ _=>unfold ReV at q;exact q.elim
  | ob _ _ _=>unfold ReV at q;exact q.elim
  | bl _=>unfold ReV at q;cases q
  | int _=>unfold ReV at q;obtain⟨_,e⟩:=q;cases e
  | str _=>unfold ReV at q;obtain⟨_,e⟩:=q;cases e
  | lst m=>
   unfold ReV at q;obtain⟨a',its',e,h1',h2'⟩:=q;injection e with e;subst e
   have:=cD h1 h1';subst this;unfold T.nf
   rw[ReVs.nf h2 h2']
  | tup m=>unfold ReV at q;obtain⟨a',its',e,h1',h2'⟩:=q;injection e with e;subst e;exact absurd rfl (ne_of_list_tuple h1 h1')
  | scr m=>
   unfold ReV at q;obtain⟨a',its',e,h1',h2'⟩:=q;injection e with e;subst e
   have:=cD h1 h1';subst this;unfold T.nf
   rw[ReVs.nf h2 (dy h2'),sG]
 | .scr l,u,v,r,q=>by
  unfold ReV at r;obtain⟨a,its,rfl,h1,h2⟩:=r
  cases u with
  | non=>unfold ReV at q;cases q
  | dct _ _=>unfold ReV at q;exact q.elim
  | ob _ _ _=>unfold ReV at q;exact q.elim
  | bl _=>unfold ReV at q;cases q
  | int _=>unfold ReV at q;obtain⟨_,e⟩:=q;cases e
  | str _=>unfold ReV at q;obtain⟨_,e⟩:=q;cases e
  | lst m=>
   unfold ReV at q;obtain⟨a',its',e,h1',h2'⟩:=q;injection e with e;subst e
   have:=cD h1 h1';subst this
   have z:=wG h2' h2;unfold T.nf
   rw[z]
  | tup m=>unfold ReV at q;obtain⟨a',its',e,h1',h2'⟩:=q;injection e with e;subst e;exact absurd rfl (ne_of_list_tuple h1 h1')
  | scr m=>
   unfold ReV at q;obtain⟨a',its',e,h1',h2'⟩:=q;injection e with e;subst e
   have:=cD h1 h1';subst this
   rw[iG h2 h2']
 | .dct _ _,u,v,r,q=>by unfold ReV at r;exact r.elim
 | .ob _ _ _,u,v,r,q=>by unfold ReV at r;exact r.elim
theorem ReVs.nf {s:Jl}:∀{l m:List T} {us:List Ji},ReVs s l us->ReVs s m us->nfs l=nfs m
 | [],m,us,r,q=>by
  cases ReVs.Da.mp r
  cases m with
  | nil=>rfl
  | cons _ _=>obtain⟨_,_,e,_⟩:=ReVs.me.mp q;cases e
 | t::l,m,us,r,q=>by
  obtain⟨v,ws,rfl,p,z⟩:=ReVs.me.mp r
  cases m with
  | nil=>cases ReVs.Da.mp q
  | cons u m=>
   obtain⟨v',ws',e,p',z'⟩:=ReVs.me.mp q;injection e with e1 e2
   subst e1 e2;rw[nfs,nfs,ReV.nf p p',ReVs.nf z z']
end
section
variable {X:Cx}{a b c:Expr}{fa fb fc:En->Rs T}{pos:Pos}
def fy (x y:T):Bool:=(decide (x.dep<=60)||decide (y.dep<=60))&&(x.nd&&y.nd)
def g9 (x y:T):Rs T:=if fy x y=true then .ok (.bl (a6 x y))else .bad
def fE (x y:T):Rs T:=if fy x y=true then .ok (.bl (!a6 x y))else .bad
theorem iH {x y:T}(h:x.dep<=60)(hx:x.nd=true)(hy:y.nd=true):fy x y=true:=by unfold fy;rw[decide_eq_true h,hx,hy];rfl
theorem nL {x y:T}(h:y.dep<=60)(hx:x.nd=true)(hy:y.nd=true):fy x y=true:=by unfold fy;rw[decide_eq_true h,hx,hy,Bool.or_true];rfl
theorem jd {x y:T}(h:fy x y=true):x.nd=true/\y.nd=true:=by
 unfold fy at h;exact Kk.mp (Kk.mp h).2
theorem pC {x y:T}(h:fy x y=true):x.dep<=60\/y.dep<=60:=by
 unfold fy at h
 replace h:=(Kk.mp h).1
 rcases Bool.or_eq_true_iff.mp h with h | h
 ·exact .inl (of_decide_eq_true h)
 ·exact .inr (of_decide_eq_true h)
theorem ip (hu:X.A.units+60<cLine):OpT X (Kh .Eq) g9:=by
 intro pins s σ H O x y vx vy ux uy Q I hf rx ry r1 r2 hp;unfold g9 at hp
 split at hp
 ·rename_i h
  have z:=Cr 60 X.A s x y ux uy (pC h) hu (Rep.val I (jd h).1 rx r1) (Rep.val I (jd h).2 ry r2);exact z.2.1 _ _ _ _ ⟨.bl _,H,I,rfl,hp H (Same.refl H) _ (Rep.bl_ _)⟩
 ·exact hp.elim
theorem gW (hu:X.A.units+60<cLine):OpT X (Kh .NotEq) fE:=by
 intro pins s σ H O x y vx vy ux uy Q I hf rx ry r1 r2 hp;unfold fE at hp
 split at hp
 ·rename_i h
  have z:=Cr 60 X.A s x y ux uy (pC h) hu (Rep.val I (jd h).1 rx r1) (Rep.val I (jd h).2 ry r2);exact z.2.2 _ _ _ _ ⟨.bl _,H,I,rfl,hp H (Same.refl H) _ (Rep.bl_ _)⟩
 ·exact hp.elim
def T.items:T->Option (List T)
 | .tup l=>some l
 | .lst l=>some l
 | .scr l=>some (l.map T.int)
 | _=>none
def kz (x:T)(l:List T):Bool:=l.any λy=>a6 y x
def FN (x y:T):Rs T:=match y.items with
 | some l=>if (x.dep<=60\/deps l<=60)/\x.nd=true/\y.nd=true then .ok (.bl (kz x l))else .bad
 | none=> .bad
def ir (x y:T):Rs T:=match y.items with
 | some l=>if (x.dep<=60\/deps l<=60)/\x.nd=true/\y.nd=true then .ok (.bl (!kz x l))else .bad
 | none=> .bad
theorem v8 {A:J0}{s:Jl}{x:T}{ux:Ji}(rx:ReV s x ux)(hu:A.units+60<cLine){l:List T}{us:List Ji}(hd:x.dep<=60\/deps l<=60)(r:ReVs s l us) :
  ∃e:Ji->Bool,(∀y∈us,EqAt A s y ux (e y))/\us.any e=kz x l:=by
 classical
 have ex:∀y∈us,∃t∈l,ReV s t y:=λy hy=>by
  obtain⟨i,hi,rfl⟩:=Lp hy
  have hl:=r.length
  have e1:l[i]? =some l[i]:=by simp
  obtain⟨u,q1,q2⟩:=r.get e1
  have:us[i]? =some us[i]:=by simp
  rw[this]at q1;cases q1;exact⟨l[i],KZ _,q2⟩
 let e:Ji->Bool:=λy=>decide (∃t∈l,ReV s t y/\a6 t x=true)
 have dep:∀t∈l,t.dep<=60\/x.dep<=60:=λt ht=>by
  rcases hd with h | h
  ·exact .inr h
  ·obtain⟨i,hi,rfl⟩:=Lp ht
   exact .inl (J2 (iM (i:=i) (by simp)) h)
 have uniq:∀y t t',ReV s t y->ReV s t' y->a6 t x=a6 t' x:=λy t t' z z'=>by
  rw[<-kx t,<-kx t',ReV.nf z z']
 have agree:∀y t,t∈l->ReV s t y->e y=a6 t x:=λy t h z=>by
  show decide (∃t∈l,ReV s t y/\a6 t x=true)=a6 t x
  cases q:a6 t x with
  | true=>exact decide_eq_true ⟨t,h,z,q⟩
  | false=>
   refine decide_eq_false ?_
   rintro ⟨t',h',z',q'⟩
   rw[<-uniq y t t' z z',q]at q';cases q'
 refine⟨e,λy hy=> ?_,?_⟩
 ·obtain⟨t,h,z⟩:=ex y hy
  rw[agree y t h z];exact(Cr 60 A s t x y ux (dep t h) hu z rx).1
 ·have go:∀(l':List T) (us':List Ji),(∀t∈l',t∈l)->ReVs s l' us'->us'.any e=l'.any λy=>a6 y x:=by
   intro l'
   induction l' with
   | nil=>intro us' _ r';rw[ReVs.Da.mp r'];rfl
   | cons t l' ih=>
    intro us' sub r';obtain⟨u,ws,rfl,p,q⟩:=ReVs.me.mp r';rw[Lq,Lq,ih ws (λt ht=>sub t (Jk _ ht)) q,agree u t (sub t Jq) p]
  exact go l us (λ_ h=>h) r
theorem pz {s:Jl}{y:T}{u:Ji}{l:List T}(r:ReV s y u)(h:y.items=some l):∃a us,u= .ref a/\ReVs s l us/\(s.heap.IsTuple a us.toArray\/s.heap.IsList a us.toArray):=by
 cases y with
 | tup m=>cases h;unfold ReV at r;obtain⟨a,us,e,h1,h2⟩:=r;exact⟨a,us,e,h2,.inl h1⟩
 | lst m=>cases h;unfold ReV at r;obtain⟨a,us,e,h1,h2⟩:=r;exact⟨a,us,e,h2,.inr h1⟩
 | scr m=>cases h;unfold ReV at r;obtain⟨a,us,e,h1,h2⟩:=r;exact⟨a,us,e,dy h2,.inr h1⟩
 | _=>cases h
theorem GV (hu:X.A.units+61<cLine):OpT X (Kh .In) FN:=by
 intro pins s σ H O x y vx vy ux uy Q I hf rx ry r1 r2 hp;unfold FN at hp
 split at hp
 ·rename_i l hl
  split at hp
  ·rename_i hd3
   obtain⟨hd,hnx,hny⟩:=hd3;obtain⟨a,us,rfl,rs,hh⟩:=pz (Rep.val I hny ry r2) hl;obtain⟨e,he,ha⟩:=v8 (A:=X.A.in1) (Rep.val I hnx rx r1) (by show X.A.units+1+60<cLine;omega) hd rs
   have q:=hp H (Same.refl H) _ (Rep.bl_ (kz x l))
   have he':∀y,y∈us.toArray->EqAt X.A.in1 s y ux (e y):=λy hy=>he y (by simpa using hy)
   have ha':us.toArray.any e=kz x l:=by simpa using ha
   rcases hh with hh | hh
   ·exact in_tupleAt e hh he' (by rw[ha'];exact⟨.bl _,H,I,rfl,q⟩)
   ·exact in_listAt e hh he' (by rw[ha'];exact⟨.bl _,H,I,rfl,q⟩)
  ·exact hp.elim
 ·exact hp.elim
theorem se (hu:X.A.units+61<cLine):OpT X (Kh .NotIn) ir:=by
 intro pins s σ H O x y vx vy ux uy Q I hf rx ry r1 r2 hp;unfold ir at hp
 split at hp
 ·rename_i l hl
  split at hp
  ·rename_i hd3
   obtain⟨hd,hnx,hny⟩:=hd3;obtain⟨a,us,rfl,rs,hh⟩:=pz (Rep.val I hny ry r2) hl;obtain⟨e,he,ha⟩:=v8 (A:=X.A.in1) (Rep.val I hnx rx r1) (by show X.A.units+1+60<cLine;omega) hd rs
   have q:=hp H (Same.refl H) _ (Rep.bl_ (!kz x l))
   have he':∀y,y∈us.toArray->EqAt X.A.in1 s y ux (e y):=λy hy=>he y (by simpa using hy)
   have ha':us.toArray.any e=kz x l:=by simpa using ha
   rcases hh with hh | hh
   ·exact notIn_tupleAt e hh he' (by rw[ha'];exact⟨.bl _,H,I,rfl,q⟩)
   ·exact notIn_listAt e hh he' (by rw[ha'];exact⟨.bl _,H,I,rfl,q⟩)
  ·exact hp.elim
 ·exact hp.elim
def ch (g g':T->T->Rs T)(fa fb fc:En->Rs T)(Z:En):Rs T:=do
 let x <-fa Z
 let y <-fb Z
 let z <-g x y
 match z with
 | .bl true=>do
  let w <-fc Z
  g' y w
 | .bl false=> .ok (.bl false)
 | _=> .bad
theorem BE {op op':P7}{g g':T->T->Rs T}(ho:OpT X (Kh op) g)(ho':OpT X (Kh op') g')(ha:b6 X a fa)(hb:b6 X b fb)(hc:b6 X c fc)
  (hm:lastMarks [op,op'] [b,c] =false:=by with_unfolding_all rfl):b6 X (.Compare a [op,op'] [b,c] pos) (ch g g' fa fb fc):=by
 intro pins s σ H Q I ⟨Z,O,E,hq⟩
 have h1:=aV E hq;refine Compare_chain (bK (ha pins s σ H _ I h1) λv s1 ⟨x,H1,I1,r1,t,rt,s',E',q1⟩=>chain_link ?_) hm
 have h2:=aV (f:=fb) E' q1;refine bK (hb pins s1 σ H1 _ I1 h2) λu s2 hh_=> ?_
 obtain⟨y,H2,I2,r2,t2,rt2,s'',E'',q2⟩:=hh_
 refine bK (ho pins s2 σ H2 O t t2 x y v u (λv' H'=> ∃t',Rep X.K O H' t' v'/\Same H2 H'/\Post X H' (match t' with
  | .bl true=>fc Z >>= λw=>g' t2 w
  | .bl false=> .ok (.bl false)
  | _=> .bad) (λt H'=> ∀v,Rep X.K O H' t v->Q v H')) I2 (λp=>E''.fresh) (rt.same s'') rt2 r1 r2 (Post.mono q2.bind λt' H' s3 q v rv=>⟨t',rv,s3,q⟩)) λd s3 ⟨z,H3,I3,r3,t3,rt3,sm3,q3⟩=> ?_
 have E3:=E''.same sm3
 split at q3
 ·cases Rep.FM.mp rt3
  cases r3;refine Kx (ite_tt (chain_last ?_))
  have h4:=aV (f:=fc) E3 q3;refine bK (hc pins s3 σ H3 _ I3 h4) λw' s4 ⟨z',H4,I4,r4,t4,rt4,s4',E4,q4⟩=> ?_
  exact ho' pins s4 σ H4 O t2 t4 y z' u w' Q I4 (λp=>E4.fresh) ((rt2.same sm3).same s4') rt4 r2 r4 q4
 ·cases Rep.FM.mp rt3
  cases r3;refine Kx (ite_ff ⟨.bl false,H3,I3,rfl,q3 H3 (Same.refl H3) _ (Rep.bl_ false)⟩)
 ·exact q3.elim
def tb (f:En->Rs T)(Z:En):Rs Bool:=do
 let x <-f Z
 match x with
 | .bl k=> .ok k
 | _=> .bad
def bt (f:En->Rs Bool)(Z:En):Rs T:=do
 let k <-f Z
 .ok (.bl k)
theorem DM {e:Expr}{f:En->Rs T}(h:b6 X e f)(he:∀whole,isTrue e X.env whole=(do let v <-whole;standAt e.pos;holding [v] (truthy v)):=by intro _;rfl):rC X e (tb f):=by
 intro pins s σ H Q I ⟨Z,O,E,hq⟩;refine Ef h he pins s σ H Q I ?_
 obtain⟨Z1,O1,E1,h1⟩:=aV E hq;refine⟨Z1,O1,E1,Post.mono h1 λts H1 s1 q vs r=> ?_⟩
 obtain⟨t',r',s',E',q'⟩:=q vs r
 split at q'
 ·exact⟨_,Rep.FM.mp r',q' H1 (Same.refl H1)⟩
 ·exact q'.elim
theorem DO {op:P7}{g:T->T->Rs T}(ho:OpT X (Kh op) g)(ha:b6 X a fa)(hb:b6 X b fb)(hm:L3 op b=false:=by rfl):rC X (.Compare a [op] [b] pos) (tb (o2 g fa fb)):=by
 intro pins s σ H Q I ⟨Z,O,E,hq⟩
 have hq':Post X H (o2 g fa fb Z) λt H'=> ∀v,Rep X.K O H' t v->∃k,v= .bl k/\Q k H':=Post.mono hq.bind λt H' s' q v r=>by
  split at q
  ·exact⟨_,Rep.FM.mp r,q H' (Same.refl H')⟩
  ·exact q.elim
 have h1:=aV E hq';refine N0 (bK (ha pins s σ H _ I h1) λv s1 ⟨x,H1,I1,r1,t,rt,s',E',q1⟩=> ?_) hm
 have h2:=aV (f:=fb) E' q1;refine bK (hb pins s1 σ H1 _ I1 h2) λu s2 hh_=> ?_
 obtain⟨y,H2,I2,r2,t2,rt2,s'',E'',q2⟩:=hh_;refine bK (ho pins s2 σ H2 O t t2 x y v u _ I2 (λp=>E''.fresh) (rt.same s'') rt2 r1 r2 q2) λd s3 hh_=> ?_
 obtain⟨z,H3,I3,r3,k,e,q3⟩:=hh_;subst e;cases r3;exact Kx ⟨H3,I3,q3⟩
def rq (f g:En->Rs Bool)(Z:En):Rs Bool:=do
 let k <-f Z
 if k then g Z else .ok false
def oa (f g:En->Rs Bool)(Z:En):Rs Bool:=do
 let k <-f Z
 if k then .ok true else g Z
def dM (f:En->Rs Bool)(Z:En):Rs Bool:=do
 let k <-f Z
 .ok (!k)
variable {f g:En->Rs Bool}{bJ:List Expr}
abbrev Dq (X:Cx)(e:Expr)(f:En->Rs Bool):Prop:=PW X e (yC X f)
theorem Bk (ha:rC X a f):Dq X (.BoolOp .And [a] pos) f:=BG ha
theorem DK (ha:rC X a f):Dq X (.BoolOp .Or [a] pos) f:=yR ha
theorem DL (ha:rC X a f)(hb:Dq X (.BoolOp .And (b::bJ) pos) g):Dq X (.BoolOp .And (a::b::bJ) pos) (rq f g):=by
 intro wh pins s σ H Q I ⟨Z,O,E,hq⟩;refine Ee ha hb wh pins s σ H Q I ?_
 obtain⟨Z1,O1,E1,h1⟩:=j0 E hq;refine⟨Z1,O1,E1,Post.mono h1 λk H1 s1 q=> ?_⟩
 obtain⟨s',E',q'⟩:=q
 cases k with
 | true=>rw[if_pos rfl];exact⟨Z,O,E',by simpa using q'⟩
 | false=>rw[if_neg JJ];exact q' H1 (Same.refl H1)
theorem Gs (ha:rC X a f)(hb:Dq X (.BoolOp .Or (b::bJ) pos) g):Dq X (.BoolOp .Or (a::b::bJ) pos) (oa f g):=by
 intro wh pins s σ H Q I ⟨Z,O,E,hq⟩;refine C3 ha hb wh pins s σ H Q I ?_
 obtain⟨Z1,O1,E1,h1⟩:=j0 E hq;refine⟨Z1,O1,E1,Post.mono h1 λk H1 s1 q=> ?_⟩
 obtain⟨s',E',q'⟩:=q
 cases k with
 | true=>rw[if_pos rfl];exact q' H1 (Same.refl H1)
 | false=>rw[if_neg JJ];exact⟨Z,O,E',by simpa using q'⟩
theorem qt_w {e:Expr}(h:Dq X e f):rC X e f:=h.pt
theorem DN (ha:rC X a f):rC X (.UnaryOp .Not a pos) (dM f):=by
 intro pins s σ H Q I ⟨Z,O,E,hq⟩;refine Eh ha pins s σ H Q I ?_
 obtain⟨Z1,O1,E1,h1⟩:=j0 E hq;exact⟨Z1,O1,E1,Post.mono h1 λk H1 s1 ⟨s',E',q'⟩=>q' H1 (Same.refl H1)⟩
def cm (f g:En->Rs T)(Z:En):Rs T:=do
 let x <-f Z
 match x with
 | .bl true=>g Z
 | .bl false=> .ok (.bl false)
 | _=> .bad
def AR (f g:En->Rs T)(Z:En):Rs T:=do
 let x <-f Z
 match x with
 | .bl true=> .ok (.bl true)
 | .bl false=>g Z
 | _=> .bad
def B3:T->Rs T
 | .bl k=> .ok (.bl (!k))
 | _=> .bad
theorem GB {op}(h:b6 X a fa):b6 X (.BoolOp op [a] pos) fa:=Er h
theorem GO (ha:b6 X a fa)(hb:b6 X (.BoolOp .And (b::bJ) pos) fb):b6 X (.BoolOp .And (a::b::bJ) pos) (cm fa fb):=by
 intro pins s σ H Q I ⟨Z,O,E,hq⟩;refine Ey ha hb pins s σ H Q I ?_
 obtain⟨Z1,O1,E1,h1⟩:=aV E hq;refine⟨Z1,O1,E1,Post.mono h1 λts H1 s1 q vs r=> ?_⟩
 obtain⟨t',r',s',E',q'⟩:=q vs r
 split at q'
 ·exact⟨true,Rep.FM.mp r',by rw[if_pos rfl];exact⟨Z,O,E',q'⟩⟩
 ·exact⟨false,Rep.FM.mp r',by rw[if_neg JJ];exact q' H1 (Same.refl H1) _ (Rep.bl_ false)⟩
 ·exact q'.elim
theorem q_or (ha:b6 X a fa)(hb:b6 X (.BoolOp .Or (b::bJ) pos) fb):b6 X (.BoolOp .Or (a::b::bJ) pos) (AR fa fb):=by
 intro pins s σ H Q I ⟨Z,O,E,hq⟩;refine GS ha hb pins s σ H Q I ?_
 obtain⟨Z1,O1,E1,h1⟩:=aV E hq;refine⟨Z1,O1,E1,Post.mono h1 λts H1 s1 q vs r=> ?_⟩
 obtain⟨t',r',s',E',q'⟩:=q vs r
 split at q'
 ·exact⟨true,Rep.FM.mp r',by rw[if_pos rfl];exact q' H1 (Same.refl H1) _ (Rep.bl_ true)⟩
 ·exact⟨false,Rep.FM.mp r',by rw[if_neg JJ];exact⟨Z,O,E',q'⟩⟩
 ·exact q'.elim
theorem GC (ha:b6 X a fa):b6 X (.UnaryOp .Not a pos) (o1 B3 fa):=by
 intro pins s σ H Q I ⟨Z,O,E,hq⟩;refine Es ha pins s σ H Q I ?_
 obtain⟨Z1,O1,E1,h1⟩:=aV E hq;refine⟨Z1,O1,E1,Post.mono h1 λts H1 s1 q vs r=> ?_⟩
 obtain⟨t',r',s',E',q'⟩:=q vs r;unfold B3 at q'
 split at q'
 ·exact⟨_,Rep.FM.mp r',q' H1 (Same.refl H1) _ (Rep.bl_ _)⟩
 ·exact q'.elim
def FO (f:En->Rs Bool)(fa fb:En->Rs T)(Z:En):Rs T:=do
 let k <-f Z
 if k then fa Z else fb Z
theorem q_if (hc:rC X c f)(ha:b6 X a fa)(hb:b6 X b fb):b6 X (.IfExp c a b pos) (FO f fa fb):=by
 intro pins s σ H Q I ⟨Z,O,E,hq⟩;refine y0 hc ha hb pins s σ H Q I ?_
 obtain⟨Z1,O1,E1,h1⟩:=j0 E hq;refine⟨Z1,O1,E1,Post.mono h1 λk H1 s1 q=> ?_⟩
 obtain⟨s',E',q'⟩:=q
 cases k with
 | true=>rw[if_pos rfl];exact⟨Z,O,E',by simpa using q'⟩
 | false=>rw[if_neg JJ];exact⟨Z,O,E',by simpa using q'⟩
end
end Tr
namespace HT
open PySem PyProof.Rows
section
variable {prog:JK}{w:Kn}{A:J0}{E:Ji->Jl->Prop}{s:Jl}
theorem jk {t:Addr}{items:Array Ji}{Q:Bool->Jl->Prop}(ht:P9 s.heap t items)(h:Q true s):wpAny (model prog w) A (MK (.ref t)) Q E s:=by
 unfold MK;refine Jn (MV ht.typeIs (Jz ?_))
 exact h
theorem getItem_tuple_whole {t sl:Addr}{items:Array Ji}{vl vu:Ji}{lo hi:Option Int}{Q:Ji->Jl->Prop}(ht:P9 s.heap t items)(hs:s.heap.IsSliceOf sl vl vu .none)(pl:OP vl lo)(pu:OP vu hi)
  (hw:sIx items.size 0 lo=0/\sIx items.size items.size hi=items.size) (h:Q (.ref t) s):wpAny (model prog w) A (getItem (.ref t) (.ref sl)) Q E s:=by
 obtain⟨os,hos,hcs,hds⟩:=id hs
 have hTs:s.TypeIs (.ref sl) "slice":=⟨os,hos,hcs⟩;unfold getItem
 try with_reducible refine Nn ?_
 first | refine Jn (Jz ?_) | skip
 refine Jn (O8 ht.typeIs (by decide) ?_)
 refine Jn (K1 (name:=JC "__getitem__") ht.typeIs Kd
  (LJ Kd ht.typeIs Os ?_ (OQ _ _)))
 show wpAny _ _ (MJ (.ref t) >>= _) _ _ s
 refine Jn (OR ht ?_)
 refine Jn (MV hTs ?_)
 rw[if_pos (by decide)]
 refine Jn (gn hs pl pu ?_)
 have hyes:(((sIx items.size 0 lo:Nat):Int) == 0&&(1:Int) == 1&&(sIx items.size items.size hi - sIx items.size 0 lo) == items.size)=true:=by
  rw[hw.1,hw.2];simp
 show wpAny _ _ (if (((sIx items.size 0 lo:Nat):Int) == 0&&(1:Int) == 1&&(sIx items.size items.size hi - sIx items.size 0 lo) == items.size)=true then _ else _) _ _ s
 rw[if_pos hyes]
 first
  | refine Jn (jk ht ?_)
  | refine jk ht ?_
 try rw[if_pos rfl]
 first
  | exact Jn (Pa (Jz ⟨_,rfl,Jz h⟩))
  | exact Jn (Pa (Jn (Jz (Jz ⟨_,rfl,Jz h⟩))))
end
end HT
namespace Tr
open PySem PySem.Spec PyProof.Rows L2
section
variable {X:Cx}{a b c:Expr}{fa fb fc:En->Rs T}{pos:Pos}
theorem Reps.atI {K:Jh}{O:Ow}{H:Hp}{l:List T}{vs:List V}{i:Int}{t:T}(r:Reps K O H l vs)(e:L2.atI l i=some t):∃v,L2.atI vs i=some v/\Rep K O H t v:=by
 unfold L2.atI at e ⊢;rw[r.length]at e
 cases q:ixN vs.length i with
 | none=>rw[q]at e;cases e
 | some j=>
  rw[q]at e;obtain⟨v,e1,e2⟩:=r.get (i:=j) (t:=t) e;exact⟨v,e1,e2⟩
def aR (x y:T):Rs T:=match x.items,y with
 | some l,.int i=>match L2.atI l i with
  | some t=> .ok t
  | none=> .bad
 | _,_=> .bad
theorem q_ix (ha:b6 X a fa)(hb:b6 X b fb)(hs:xc b:=by intro _ _;rfl):b6 X (.Subscript a b pos) (o2 aR fa fb):=by
 intro pins s σ H Q I ⟨Z,O,E,hq⟩
 have h1:=aV E hq;refine Subscript_ (bK (ha pins s σ H _ I h1) λv s1 hh_=> ?_)
 obtain⟨x,H1,I1,r1,t,rt,s',E',q1⟩:=hh_
 have h2:=aV (f:=fb) E' q1;refine bK (hb pins s1 σ H1 _ I1 h2) λu s2 hh_=> ?_
 obtain⟨y,H2,I2,r2,t2,rt2,s'',E'',q2⟩:=hh_
 have rt':=rt.same s'';unfold aR at q2
 split at q2
 ·rename_i l i hl
  split at q2
  ·rename_i z hz
   have hy:=Rep.AC.mp rt2;refine Fg a b pins s2 σ H2 x y v u Q I2 r1 r2 ?_ (hs _ _)
   cases t with
   | tup m=>
    cases hl;obtain⟨p,vs,e,n,q,rr⟩:=Rep.Fk.mp rt';obtain⟨w,ew,rw'⟩:=rr.atI hz
    exact .inr (.inl ⟨p,vs,i,w,e,hy,SqT.of q,ew,q2 H2 (Same.refl H2) _ rw'⟩)
   | lst m=>
    cases hl;obtain⟨p,vs,e,n,q,rr⟩:=Rep.Do.mp rt';obtain⟨w,ew,rw'⟩:=rr.atI hz
    exact .inl ⟨p,vs,i,w,e,hy,SqL.of q,ew,q2 H2 (Same.refl H2) _ rw'⟩
   | scr m=>
    cases hl;unfold Rep at rt';obtain⟨p,e,n,q⟩:=rt';obtain⟨w,ew,rw'⟩:=(Reps.ints (K:=X.K) (O:=O) (H:=H2) (ns:=m)).atI hz
    exact .inl ⟨p,_,i,w,e,hy,q,ew,q2 H2 (Same.refl H2) _ rw'⟩
   | _=>cases hl
  ·exact q2.elim
 ·exact q2.elim
def lU (l:List T)(lo hi:Option Int):List T:=(l.drop (HT.sIx l.length 0 lo)).take (HT.sIx l.length l.length hi - HT.sIx l.length 0 lo)
theorem Reps.cut {K:Jh}{O:Ow}{H:Hp}{l:List T}{vs:List V}(r:Reps K O H l vs)(lo hi:Option Int):Reps K O H (lU l lo hi) (tG vs lo hi):=by
 unfold lU tG;rw[r.length];exact(r.drop _).take _
theorem x8 {l:List T}{lo hi:Option Int}(h:HT.sIx l.length 0 lo=0/\HT.sIx l.length l.length hi=l.length):lU l lo hi=l:=by
 unfold lU;rw[h.1,h.2];simp
theorem sl_tup_whole:SlR X (λx lo hi H Q=> ∃a xs,x= .ref a/\SqT X.K H a xs/\(HT.sIx xs.length 0 lo=0/\HT.sIx xs.length xs.length hi=xs.length)/\Q (.ref a) H):=by
 intro pins s σ H x v vl vu lo hi sl Q I rx hs pl pu h;obtain⟨a,xs,rfl,hx,hw,q⟩:=h;cases rx;obtain⟨its,r,ht,hz⟩:=I.tuple hx
 have hlen:its.toArray.size=xs.length:=by rw[JB];exact r.length.symm
 refine⟨"tuple",_,Kd.lookup,ht.typeIs,?_⟩
 exact HT.getItem_tuple_whole ht hs pl pu (by rw[hlen];exact hw) ⟨.ref a,H,I,rfl,q⟩
def pN (_:En):Rs (Option Int):=.ok none
def pS (f:En->Rs T)(Z:En):Rs (Option Int):=do
 let x <-f Z
 match x with
 | .int i=> .ok (some i)
 | _=> .bad
def tPO (X:Cx)(f:En->Rs (Option Int)):TO:=λσ H Q=> ∃Z O,EnvO X.K O H Z σ/\Post X H (f Z) λb H'=>Q b H'
abbrev HQ (X:Cx)(e:Option Expr)(f:En->Rs (Option Int)):Prop:=PO X e (tPO X f)
theorem Bu:HQ X none pN:=by
 intro pins s σ H Q I ⟨Z,O,E,hq⟩;exact BL pins s σ H Q I (hq H (Same.refl H))
theorem Bt (ha:b6 X a fa):HQ X (some a) (pS fa):=by
 intro pins s σ H Q I ⟨Z,O,E,hq⟩;refine BK ha pins s σ H Q I ?_
 obtain⟨Z1,O1,E1,h1⟩:=aV E hq;refine⟨Z1,O1,E1,Post.mono h1 λts H1 s1 q vs r=> ?_⟩
 obtain⟨t',r',s',E',q'⟩:=q vs r
 split at q'
 ·exact⟨_,Rep.AC.mp r',q' H1 (Same.refl H1)⟩
 ·exact q'.elim
def slT (x:T)(lo hi:Option Int):Rs T:=match x with
 | .tup l=> .ok (.tup (lU l lo hi))
 | .lst l=> .ok (.lst (lU l lo hi))
 | _=> .bad
def sl (fe:En->Rs T)(fl fu:En->Rs (Option Int))(Z:En):Rs T:=do
 let x <-fe Z
 let l <-fl Z
 let u <-fu Z
 slT x l u
theorem rN {σ:L2.St}{H:Hp}{Z:En}{O:Ow}{α:Type}{f:En->Rs (Option Int)}{k:Option Int->Rs α}{Q:α->Hp->Prop}(E:EnvO X.K O H Z σ)(h:Post X H (f Z >>= k) Q) :
  tPO X f σ H λb H'=>Same H H'/\EnvO X.K O H' Z σ/\Post X H' (k b) Q:=
 ⟨Z,O,E,Post.mono h.bind λt H' s q=>⟨s,E.same s,q⟩⟩
theorem BB {lo hi:Option Expr}{p2:Pos}{fl fu:En->Rs (Option Int)}(ha:b6 X a fa)(hl:HQ X lo fl)(hu:HQ X hi fu):b6 X (.Subscript a (.Slice lo hi none p2) pos) (sl fa fl fu):=by
 intro pins s σ H Q I ⟨Z,O,E,hq⟩;refine yZ (sl_tup.or (sl_tup_whole.or Bc)) ha hl hu pins s σ H Q I ?_
 obtain⟨Z1,O1,E1,h1⟩:=aV E hq;refine⟨Z1,O1,E1,Post.mono h1 λts H1 s1 q vs r=> ?_⟩
 obtain⟨t',r',s',E',q'⟩:=q vs r;obtain⟨Z2,O2,E2,h2⟩:=rN E' q';refine⟨Z2,O2,E2,Post.mono h2 λo1 H2 s2 q=> ?_⟩
 obtain⟨s2',E2',q2⟩:=q;obtain⟨Z3,O3,E3,h3⟩:=rN E2' q2;refine⟨Z3,O3,E3,Post.mono h3 λo2 H3 s3 q=> ?_⟩
 obtain⟨s3',E3',q3⟩:=q
 have rt:=(r'.same s2').same s3';unfold slT at q3
 split at q3
 ·rename_i l
  obtain⟨p,ws,e,n,q,rr⟩:=Rep.Fk.mp rt
  have hlen:=rr.length
  by_cases hw:HT.sIx ws.length 0 o1=0/\HT.sIx ws.length ws.length o2=ws.length
  ·refine .inr (.inl ⟨p,ws,e,SqT.of q,hw,?_⟩)
   rw[<-hlen]at hw;refine q3 H3 (Same.refl H3) _ ?_
   rw[x8 hw];exact Rep.Fk.mpr ⟨p,ws,rfl,n,q,rr⟩
  ·exact .inl ⟨p,ws,e,SqT.of q,hw,λp' hp=>q3 _ (a9 hp _) _ (gq hp (E3'.fresh hp) (rr.cut o1 o2))⟩
 ·rename_i l
  obtain⟨p,ws,e,n,q,rr⟩:=Rep.Do.mp rt;exact .inr (.inr ⟨p,ws,e,SqL.of q,λp' hp=>q3 _ (a9 hp _) _ (ke hp (E3'.fresh hp) (rr.cut o1 o2))⟩)
 ·exact q3.elim
def CallT (X:Cx)(f:Ji)(g:List T->Rs T):Prop:=
 ∀(pins:List (Addr×Obj)) (s:Jl) (σ:L2.St) (H:Hp) (O:Ow) (ts:List T) (vs:List V) (us:List Ji) (Q:VK),Inv X pins σ H s->(∀p,H p=none->¬ O p)->Reps X.K O H ts vs->Vals vs us →
  Post X H (g ts) (λt H'=> ∀v,Rep X.K O H' t v->Q v H')->wpAny (model X.prog X.w) X.A (call f us) (EP X pins σ Q) X.xe s
theorem CallT.of {f:Ji}{r:List V->Hp->VK->Prop}(h:CallR X f r){g:List T->Rs T}
  (w:∀(H:Hp) (O:Ow) (ts:List T) (vs:List V) (Q:VK),(∀p,H p=none->¬ O p)->Reps X.K O H ts vs->Post X H (g ts) (λt H'=> ∀v,Rep X.K O H' t v->Q v H')->r vs H Q):CallT X f g:=
 λpins s σ H O ts vs us Q I hf rs rv hp=>h pins s σ H vs us Q I rv (w H O ts vs Q hf rs hp)
def cl (g:List T->Rs T)(fs:En->Rs (List T))(Z:En):Rs T:=fs Z >>= g
variable {e:Expr}{es:List Expr}{fs:En->Rs (List T)}{x:Str}{p:Pos}{id:String}{g:List T->Rs T}
theorem BF (hc:CallT X (.builtin id) g)(hm:X.mg x=none)(hv:Kc x=some (.builtin id))(ha:og X (e::es) fs)(hg:Gl X x:=by rfl)(hn:x≠ "__name__":=by decide)(hdb:eF x:=by decide)
  (he:Jy (e::es) X.env=(false,eval e X.env)::Jy es X.env:=by rfl) (hpl:(backTo pos (Jy es X.env)).any (·.1)=false:=by rfl):b6 X (.Call (.Name x p) (e::es) [] pos) (cl g fs):=by
 intro pins s σ H Q I ⟨Z,O,E,hq⟩;refine KC (gD I hg hm hv ?_ hn hdb)
 have h1:=eh E hq;exact Mh (bK (ha pos pins s σ H _ I h1) λus s1 ⟨vs,H1,I1,r1,ts,rs,s',E',q1⟩=>hc pins s1 σ H1 O ts vs us Q I1 (λp=>E'.fresh) rs r1 q1) he hpl
theorem yQ {Ty:String}(hc:CallT X (.type Ty) g)(hm:X.mg x=none)(hv:Kc x=some (.type Ty))(ha:og X (e::es) fs)(hg:Gl X x:=by rfl)(hn:x≠ "__name__":=by decide)(hdb:eF x:=by decide)
  (he:Jy (e::es) X.env=(false,eval e X.env)::Jy es X.env:=by rfl) (hpl:(backTo pos (Jy es X.env)).any (·.1)=false:=by rfl):b6 X (.Call (.Name x p) (e::es) [] pos) (cl g fs):=by
 intro pins s σ H Q I ⟨Z,O,E,hq⟩;refine KC (gD I hg hm hv ?_ hn hdb)
 have h1:=eh E hq;exact Kl (bK (ha pos pins s σ H _ I h1) λus s1 ⟨vs,H1,I1,r1,ts,rs,s',E',q1⟩=>hc pins s1 σ H1 O ts vs us Q I1 (λp=>E'.fresh) rs r1 q1) he hpl
theorem Reps.one {K:Jh}{O:Ow}{H:Hp}{t:T}{vs:List V}(r:Reps K O H [t] vs):∃v,vs= [v]/\Rep K O H t v:=by
 obtain⟨v,ws,rfl,p,q⟩:=Reps.me.mp r;cases Reps.Da.mp q;exact⟨v,rfl,p⟩
theorem Rep.sq {K:Jh}{O:Ow}{H:Hp}{t:T}{v:V}{l:List T}(r:Rep K O H t v)(h:t.items=some l):∃a vs,v= .ref a/\¬ O a/\Reps K O H l vs/\(SqL K H a vs\/SqT K H a vs):=by
 cases t with
 | tup m=>cases h;obtain⟨a,vs,e,n,q,z⟩:=Rep.Fk.mp r;exact⟨a,vs,e,n,z,.inr (SqT.of q)⟩
 | lst m=>cases h;obtain⟨a,vs,e,n,q,z⟩:=Rep.Do.mp r;exact⟨a,vs,e,n,z,.inl (SqL.of q)⟩
 | scr m=>cases h;unfold Rep at r;obtain⟨a,e,n,q⟩:=r;exact⟨a,_,e,n,Reps.ints,.inl q⟩
 | _=>cases h
def ck:List T->Rs T
 | [.str x] =>if x.length<=sizeLine then .ok (.int x.length)else .bad
 | [x] =>match x.items with
  | some l=> .ok (.int l.length)
  | none=> .bad
 | _=> .bad
theorem bY:CallT X (.builtin "len") ck:=CallT.of (call_len_seq.or rj) λH O ts vs Q hf rs hp=>by
 unfold ck at hp
 split at hp
 ·obtain⟨v,rfl,r⟩:=rs.one
  split at hp
  ·rename_i h
   exact .inr ⟨_,by rw[Rep.GE.mp r],h,hp H (Same.refl H) _ (Rep.GM _)⟩
  ·exact hp.elim
 ·obtain⟨v,rfl,r⟩:=rs.one
  split at hp
  ·rename_i l hl
   obtain⟨a,vs,rfl,n,z,q⟩:=r.sq hl;exact .inl ⟨a,vs,rfl,q,hp H (Same.refl H) _ (by rw[<-z.length];exact Rep.GM _)⟩
  ·exact hp.elim
 ·exact hp.elim
def jB:List T->Rs T
 | [.tup l] => .ok (.tup l)
 | [.lst l] => .ok (.tup l)
 | _=> .bad
theorem nR:CallT X (.type "tuple") jB:=CallT.of oO λH O ts vs Q hf rs hp=>by
 unfold jB at hp
 split at hp
 ·obtain⟨v,rfl,r⟩:=rs.one
  obtain⟨a,ws,rfl,n,q,z⟩:=Rep.Fk.mp r;exact⟨a,ws,rfl,.inr ⟨SqT.of q,hp H (Same.refl H) _ (Rep.Fk.mpr ⟨a,ws,rfl,n,q,z⟩)⟩⟩
 ·obtain⟨v,rfl,r⟩:=rs.one
  obtain⟨a,ws,rfl,n,q,z⟩:=Rep.Do.mp r;exact⟨a,ws,rfl,.inl ⟨SqL.of q,λl hl=>hp _ (a9 hl _) _ (gq hl (hf l hl) z)⟩⟩
 ·exact hp.elim
def zX:List T->Rs T
 | [.int i] => .ok (.int i)
 | [.bl k] => .ok (.int (if k then 1 else 0))
 | _=> .bad
theorem FE:CallT X (.type "int") zX:=CallT.of ya λH O ts vs Q hf rs hp=>by
 unfold zX at hp
 split at hp
 ·obtain⟨v,rfl,r⟩:=rs.one
  exact .inl ⟨_,by rw[Rep.AC.mp r],hp H (Same.refl H) _ (Rep.GM _)⟩
 ·obtain⟨v,rfl,r⟩:=rs.one
  exact .inr ⟨_,by rw[Rep.FM.mp r],hp H (Same.refl H) _ (Rep.GM _)⟩
 ·exact hp.elim
def nU:List T->Option (List Bool)
 | [] =>some []
 | .bl k::r=>(nU r).map (k:: ·)
 | _=>none
def oP:List T->Rs T
 | [.lst l] =>match nU l with
  | some ks=> .ok (.bl (ks.all λk=>k))
  | none=> .bad
 | _=> .bad
theorem nT {K:Jh}{O:Ow}{H:Hp}:∀{l:List T} {ks:List Bool} {vs:List V} {us:List Ji},nU l=some ks->Reps K O H l vs->Vals vs us->us=ks.map Ko
 | [],ks,vs,us,e,r,v=>by cases e;cases Reps.Da.mp r;cases v;rfl
 | t::l,ks,vs,us,e,r,v=>by
  obtain⟨w,ws,rfl,p,q⟩:=Reps.me.mp r
  cases t with
  | bl k=>
   unfold nU at e
   cases z:nU l with
   | none=>rw[z]at e;cases e
   | some ks'=>
    rw[z]at e;cases e
    cases v with
    | cons v1 v2=>
     cases Rep.FM.mp p;cases v1
     rw[nT z q v2];rfl
  | _=>cases e
theorem rh (hc:X.calm=true):CallT X (.builtin "all") oP:=by
 intro pins s σ H O ts vs us Q I hf rs rv hp;unfold oP at hp
 split at hp
 ·obtain⟨v,rfl,r⟩:=rs.one
  split at hp
  ·rename_i ks hk
   obtain⟨a,ws,rfl,n,q,z⟩:=Rep.Do.mp r;obtain⟨u,rfl,ru⟩:=mz rv;cases ru;obtain⟨its,r',pl,hz⟩:=I.list (SqL.of q)
   have hits:=nT hk z r';refine call_all_walk (Nb pl.isList ?_)
   have hne:a≠s.heap.objs.size:=λe=>by
    obtain⟨o,ho,_⟩:=pl.isList;rw[e]at ho;exact absurd (Jx ho) (JU _)
   refine⟨s.heap.objs.size,_,_,_,_,_,λi=>(ks[i]?).getD true,rfl,Walks.list (A:=X.A.in1) (I.ok.hd hc) s.heap.objs.size a hne its.toArray,⟨⟨_,JF _ rfl,rfl,rfl⟩,?_⟩,?_,?_⟩
   ·obtain⟨o,ho,hh⟩:=pl.isList
    exact⟨o,Jr _ ho,hh⟩
   ·intro i v s' Q' E' hP hQ'
    subst hits
    dsimp only at hQ'
    have hP':(ks.map Ko)[i]? =some v:=by simpa using hP
    rw[JA]at hP'
    cases e:ks[i]? with
    | none=>rw[e]at hP';cases hP'
    | some k=>
     rw[e]at hP' hQ';cases hP';exact Kx hQ'
   ·intro h' tk hk'
    have hlen:its.toArray.size=ks.length:=by rw[hits];simp
    have e:((J9 its.toArray.size).all λi=>(ks[i]?).getD true)=(ks.all λk=>k):=by
     rw[hlen];rw[Bool.eq_iff_iff,JP,JP]
     constructor
     ·intro h x hx
      obtain⟨i,hi,rfl⟩:=Lp hx
      have:=h i (KS.mpr hi)
      simpa [hi]using this
     ·intro h i hi
      have hi':=KS.mp hi
      have:=h ks[i] (KZ hi')
      simpa [hi']using this
    rw[e]
    have I1:Inv X pins σ H { s with heap:=s.heap.push { cls:=.type "list_iterator",data:=.fields #[.ref a,.int 0 0] } }:=I.kept (t':=s.toks) λb o e=>Jr _ e
    have I2:Inv X pins σ H { s with heap:=h',toks:=tk }:=by
     have:=I1.turned (h':=h') (t':=tk) (it:=s.heap.objs.size) (λb o hb e=>hk' b o (by simpa using hb) e) (I.hok.fresh (Jw _))
      (MQ I.lt) (.inr I.sz) (λx c e z=> ?_) (λp hp z=> ?_)
     ·exact this
     ·obtain⟨v,q⟩:=I.cell x c e
      exact absurd (JE q.lt (Mp z.symm)) (JU _)
     ·exact absurd (JE (Jx (I.pin p hp).1) (Mp z.symm)) (JU _)
    exact⟨.bl _,H,I2,rfl,hp H (Same.refl H) _ (Rep.bl_ _)⟩
  ·exact hp.elim
 ·exact hp.elim
end
def T.ty:T->Option String
 | .non=>some "NoneType"
 | .bl _=>some "bool"
 | .int _=>some "int"
 | .str _=>some "str"
 | .tup _=>some "tuple"
 | .lst _=>some "list"
 | .scr _=>none
 | .dct _ _=>none
 | .ob _ _ _=>none
def sX (i b t l s:Bool)(Ty:String):Option Bool:=match Ty with
 | "int" =>some i | "bool" =>some b | "tuple" =>some t | "list" =>some l | "str" =>some s
 | _=>none
def wB (n Ty:String):Option Bool:=match n with
 | "NoneType" =>sX false false false false false Ty
 | "bool" =>sX true true false false false Ty
 | "int" =>sX true false false false false Ty
 | "str" =>sX false false false false true Ty
 | "tuple" =>sX false false true false false Ty
 | "list" =>sX false false false true false Ty
 | _=>none
theorem xU (K:Jh){n Ty:String}{b:Bool}(h:wB n Ty=some b):PySem.W.kitOne K (.type n) (.type Ty)=some b:=by
 unfold wB at h
 split at h <;> first | (cases h;done) | (unfold sX at h;split at h <;> first | (cases h;done) | (cases h;kernel_rfl))
def Cg (Ty:String)(t:T):Rs T:=match t.ty with
 | some n=>match wB n Ty with
  | some b=> .ok (.bl b)
  | none=> .bad
 | none=> .bad
theorem Rep.Jg {K:Jh}{O:Ow}{H:Hp}{t:T}{v:V}{n:String}(r:Rep K O H t v)(h:t.ty=some n):kZ K H v (.type n):=by
 cases t with
 | non=>cases h;cases Rep.Ik.mp r;exact .non
 | bl b=>cases h;cases Rep.FM.mp r;exact .bl b
 | int b=>cases h;cases Rep.AC.mp r;exact .int b
 | str b=>cases h;cases Rep.GE.mp r;exact .str b
 | tup l=>cases h;obtain⟨a,vs,rfl,_,q,_⟩:=Rep.Fk.mp r;exact .tup q
 | lst l=>cases h;obtain⟨a,vs,rfl,_,q,_⟩:=Rep.Do.mp r;exact .lst q
 | scr l=>cases h
 | dct _ _=>cases h
 | ob _ _ _=>cases h
section
variable {X:Cx}{a b c e:Expr}{es:List Expr}{fa fb fc:En->Rs T}{fs:En->Rs (List T)}{pos p p2:Pos}{x:Str}
theorem lV:Kc "isinstance" =some (.builtin "isinstance"):=by decide+kernel
theorem GH {tn:Str}{Ty:String}(hm:X.mg "isinstance" =none)(hmt:X.mg tn=none)(hv:Kc tn=some (.type Ty))(ha:b6 X a fa)(hg:Gl X "isinstance":=by rfl)(hgt:Gl X tn:=by rfl)
  (hn:tn≠ "__name__":=by decide) (hd:eF tn:=by decide)
  (he:Jy [a,.Name tn p2] X.env=(false,eval a X.env)::Jy [.Name tn p2] X.env:=by rfl) (hpl:(backTo pos (Jy [.Name tn p2] X.env)).any (·.1)=false:=by rfl)
  (hs:Jy [.Name tn p2] X.env=(false,eval (.Name tn p2) X.env)::Jy [] X.env:=by rfl) :
  b6 X (.Call (.Name "isinstance" p) [a,.Name tn p2] [] pos) (o1 (Cg Ty) fa):=by
 intro pins s σ H Q I ⟨Z,O,E,hq⟩;refine KC (gD I hg hm lV ?_ (by decide) (by decide))
 have hA:PA X [a,.Name tn p2] (yD (tP X fa) (yD (tC (.ty Ty)) F7)):=d8 ha (d8 (BV (v:=.ty Ty) hgt hmt hv rfl hn hd) il hs) he;obtain⟨Z1,O1,E1,h1⟩:=aV E hq;refine Mh (bK (hA pos pins s σ H (λvs H'=> ∃v t,vs= [v,.ty Ty]/\Rep X.K O H' t v/\Post X H' (Cg Ty t) (λt H'=> ∀v,Rep X.K O H' t v->Q v H')) I ?_) λus s1 ⟨vs,H1,I1,r1,v,t,e1,rt,q⟩=> ?_) he hpl
 ·refine⟨Z1,O1,E1,Post.mono h1 λts H1 s1 q vs r=> ?_⟩
  obtain⟨t',r',s',E',q'⟩:=q vs r;exact⟨vs,t',rfl,r',q'⟩
 ·subst e1
  obtain⟨u,w',rfl,ru,rw'⟩:=F1 r1;cases rw';unfold Cg at q
  split at q
  ·rename_i n hn'
   split at q
   ·rename_i bb hb
    exact xT I1 ru (rt.Jg hn') (xU _ hb) λtk=>⟨.bl bb,H1,I1.tok _,rfl,q H1 (Same.refl H1) _ (Rep.bl_ _)⟩
   ·exact q.elim
  ·exact q.elim
def spP (K:Jh)(n:Nat)(g:List T->Rs T):Sp:=λvs H Q _=> ∃ts O,Reps K O H ts vs/\(∀a,O a->Mtb H a)/\ts.length=n ∧
 match g ts with
 | .ok t=> ∀v H',Same H H'->Rep K O H' t v->Q v H'
 | _=>False
def RzC (P:JK)(w:Kn)(mg:Str->Option Ji)(outer:List Env)(H:Hp)(s:Jl)(c:Str)(ev:Ji)(s':Jl):Prop:=
 ∃e T C H',ev= .ref e/\mg c=some (.ref C)/\s'.os=s.os/\Nm s'.gens/\Un (nK outer) [] H H' s.heap s'.heap/\HOk P w H' s'.heap/\Same H H'/\H' e=none/\s.heap.get? e=none/\HS s'.heap C e (some T)/\H' T=none/\s.heap.get? T=none
def FnX (P:JK)(w:Kn)(K:Jh)(mg:Str->Option Ji)(base:Heap)(k:Nat)(f:Addr)(fd:Ki)(ps:List Str)(n:Nat)(g:List T->Rs T):Prop:=
 ∀(A:J0) (outer:List Env) (s:Jl) (H:Hp) (args:Args) (us:List Ji) (vs:List V) (O:Ow) (ts:List T) (c:Str) (R:PY->Jl->Prop),Room k A->Env0 P w K mg base A outer s H->NW s fd args (ps.zip us)->Vals vs us →
  Reps K O H ts vs->(∀a,O a->Mtb H a)->ts.length=n->g ts= .err c->(∀ev s',RzC P w mg outer H s c ev s'->R (.error ev) s')->codeAny (model P w) A (.call (.ref f) args) R s
structure AX (P:JK)(w:Kn)(K:Jh)(mg:Str->Option Ji)(base:Heap)(k:Nat)(f:Addr)(fd:Ki)(ps:List Str)(n:Nat)(g:List T->Rs T):Prop where
 h:nZ P w K mg base CX0 k f fd ps (spP K n g)
 x:FnX P w K mg base k f fd ps n g
theorem zf {P:JK}{w:Kn}{H:Hp}{h:Heap}{a:Addr}{o:HO}(x:ObjOk P w H h a o):∃u,h.get? a=some u:=by
 cases o with
 | lst xs=>obtain⟨_,_,_,_,e⟩:=x;exact⟨_,e⟩
 | tup xs=>obtain⟨_,_,_,ob,e,_⟩:=x;exact⟨_,e⟩
 | dK kvs=>obtain⟨_,_,_,_,o,_,_,e,_⟩:=x;exact⟨_,e⟩
 | dT kvs=>obtain⟨_,_,_,_,o,_,_,e,_⟩:=x;exact⟨_,e⟩
 | set S n=>obtain⟨o,_,_,_,e,_⟩:=x;exact⟨_,e⟩
 | ins C dx fs=>obtain⟨_,_,_,e,_⟩:=x;exact⟨_,e⟩
 | own y=>obtain⟨_,e⟩:=x;exact⟨_,e⟩
 | xd fs=>obtain⟨_,⟨_,_,_,e,_⟩,_⟩:=x;exact⟨_,e⟩
 | rng lo hi=>obtain⟨_,_,_,e⟩:=x;exact⟨_,e⟩
 | frz ob u=>obtain⟨e,_⟩:=x;exact⟨_,e⟩
 | tbl ps=>exact⟨_,(show h.get? a=some _ from x)⟩
 | met f y=>exact⟨_,(show h.get? a=some _ from x)⟩
 | ext φ=>obtain⟨_,⟨_,e⟩,_⟩:=x;exact⟨_,e⟩
theorem kl {X:Cx}{pins:List (Addr×Obj)}{σ:L2.St}{H:Hp}{s:Jl}(I:Inv X pins σ H s){e:Addr}(n:s.heap.get? e=none):H e=none:=by
 cases z:H e with
 | none=>rfl
 | some o=>
  obtain⟨o',ho'⟩:=zf (I.hok e o z);rw[n]at ho';cases ho'
theorem fX {X:Cx}{pins:List (Addr×Obj)}{σ:L2.St}{H:Hp}{s:Jl}(I:Inv X pins σ H s)(hex:X.ex= []){e:Addr}(n:s.heap.get? e=none):X.s₀.heap.get? e=none:=by
 cases z:X.s₀.heap.get? e with
 | none=>rfl
 | some o=>
  obtain⟨o',ho'⟩:=I.base.there e o z (by rw[hex];simp)
  rw[n]at ho';cases ho'
theorem Ed {n k:Nat}{f:Addr}{fd:Ki}{ps:List Str}{g:List T->Rs T}(F:AX X.prog X.w X.K X.mg X.base k f fd ps n g)(hr:Room k X.A)(hm:X.mg x=some (.ref f))(hk:K9 X.K (.ref f)=true)(hb:Binds X.K fd ps [])(hps:ps.length=n)
  (hl:∀Z ts,fs Z= .ok ts->ts.length=n) (ha:og X (e::es) fs) (hg:Gl X x:=by rfl) (hdb:eF x:=by decide) (he:Jy (e::es) X.env=(false,eval e X.env)::Jy es X.env:=by rfl) (hpl:(backTo pos (Jy es X.env)).any (·.1)=false:=by rfl) :
  b6 X (.Call (.Name x p) (e::es) [] pos) (cl g fs):=by
 intro pins s σ H Q I ⟨Z,O,E,hq⟩
 have hq':Post X H (fs Z >>= g) λt H'=> ∀v,Rep X.K O H' t v->Q v H':=hq
 cases q:fs Z with
 | bad=>rw[q]at hq';exact hq'.elim
 | err c=>
  rw[q]at hq';refine vP (E:=E0) F.h hr hg hm hk hb .nil vR ha hdb he hpl pins s σ H Q I ⟨Z,O,E,?_⟩
  rw[q]
  exact hq'
 | ok ts=>
  rw[q]at hq'
  have hq2:Post X H (g ts) λt H'=> ∀v,Rep X.K O H' t v->Q v H':=hq'
  cases q2:g ts with
  | bad=>rw[q2]at hq2;exact hq2.elim
  | ok t=>
   rw[q2]at hq2;refine vP (E:=E0) F.h hr hg hm hk hb .nil vR ha hdb he hpl pins s σ H Q I ⟨Z,O,E,?_⟩
   rw[q];intro H1 s1 vs rs;rw[JZ];refine⟨ts,O,rs,(E.same s1).mtb,hl Z ts q,?_⟩
   rw[q2]
   exact λv H' s2 r=>hq2 H' (s1.trans s2) v r
  | err c=>
   rw[q2]at hq2;refine KC (gC I hg hm ?_ hdb)
   refine Lu (h₀:=X.base) I.ok.mod.kin hk (bK (ha pos pins s σ H (λvs H'=>Same H H'/\Reps X.K O H' ts vs) I ⟨Z,O,E,?_⟩) (λus s1 ⟨vs,H1,I1,r,sm,rs⟩=>⟨I1.kIn,?_⟩)) he hpl
   ·rw[q];exact λH' sm vs rs=>⟨sm,rs⟩
   ·have hlen:us.length=ps.length:=by rw[<-r.length,<-rs.length,hl Z ts q,hps]
    have hb':=hb s1 us I1.kIn (by rw[JZ];exact hlen)
    rw[JZ]at hb';refine N4 (LR (F.x X.A X.stack s1 H1 ⟨us,[]⟩ us vs O ts c (λr s'=>match r with | .error ev=>X.xe ev s' | _=>False) hr I1.IJ hb' r rs (E.same sm).mtb (hl Z ts q) q2 λev s' w=> ?_) λr s' hq=> ?_)
    ·obtain⟨ea,T,C,H',rfl,hmc,ho,hbare,hun,hok,sm2,hea,heo,fl,hT,hTo⟩:=w
     have I2:Inv X pins σ H' s':=I1.IH ho hun hok hbare (λb z=>absurd z (by simp))
     exact hq2 pins _ _ ⟨ea,some T,C,σ,H',rfl,hmc,I2,λb o q _=>sm2 b o (sm b o q),hea,λhex=>fX I1 hex heo,fl,(λt zt=>by cases zt;exact⟨hT,λhex=>fX I1 hex hTo⟩),λpp hpp=>⟨λzz=>(by have:=(I1.pin pp hpp).1;rw[zz,heo]at this;cases this),λzz=>(by cases zz;have:=(I1.pin pp hpp).1;rw[hTo]at this;cases this)⟩⟩
    ·cases r with
     | error ev=>exact hq
     | ok fl=>exact hq.elim
def C1 (X:Cx)(g:T->En->Rs En):TG:=λv σ H Q=> ∃Z O M t,EnvM X.K O M H Z σ/\Rep X.K O H t v/\match g t Z with
 | .ok Z'=> ∀σ',EnvM X.K O M H Z' σ'->Q σ' H
 | _=>False
abbrev Dr (X:Cx)(tg:Expr)(g:T->En->Rs En):Prop:=PG X tg (C1 X g)
def tPGs (X:Cx)(g:List T->En->Rs En):CL:=λvs σ H Q=> ∃Z O M ts,EnvM X.K O M H Z σ/\Reps X.K O H ts vs/\match g ts Z with
 | .ok Z'=> ∀σ',EnvM X.K O M H Z' σ'->Q σ' H
 | _=>False
abbrev AL (X:Cx)(tg:List Expr)(g:List T->En->Rs En):Prop:=PGs X tg (tPGs X g)
theorem PG.imp {X:Cx}{e:Expr}{t t':TG}(h:PG X e t)(w:∀v σ H Q,t' v σ H Q->t v σ H Q):PG X e t':=λpins s σ H v u Q I r q=>h pins s σ H v u Q I r (w v σ H Q q)
theorem PGs.imp {X:Cx}{e:List Expr}{t t':CL}(h:PGs X e t)(w:∀v σ H Q,t' v σ H Q->t v σ H Q):PGs X e t':=λpins s σ H v u Q I r q=>h pins s σ H v u Q I r (w v σ H Q q)
def gN (i:Nat)(t:T)(Z:En):Rs En:=if i<Z.length then .ok (Z.set i (.va t))else .bad
theorem EnvM.set {K:Jh}{O:Ow}{M:Mn}{H:Hp}{Z:En}{σ:L2.St}{i:Nat}{t:T}{v:V}(E:EnvM K O M H Z σ)(hi:i<Z.length)(r:Rep K O H t v):EnvM K O M H (Z.set i (.va t)) (σ.set i (some v)) where
 len:=by rw[Km,Km];exact E.len
 val:=λj u e=>by
  by_cases hj:i=j
  ·subst hj
   rw[JI hi]at e
   cases e;exact⟨v,JI (by rw[<-E.len];exact hi),r⟩
  ·rw[JD hj]at e
   obtain⟨w,e1,e2⟩:=E.val j u e;exact⟨w,by rw[JD hj];exact e1,e2⟩
 own:=λj o e=>by
  by_cases hj:i=j
  ·subst hj
   rw[JI hi]at e
   cases e
  ·rw[JD hj]at e
   obtain⟨w,e1,e2⟩:=E.own j o e;exact⟨w,by rw[JD hj];exact e1,e2⟩
 sub:=E.sub
 dis:=E.dis
 trk:=E.trk
theorem Bz (i:Nat)(hN:X.N.Nodup)(hi:X.N[i]? =some x:=by rfl)(hx:Loc X.env.scope x:=by first | exact Ka rfl | exact JS rfl)(hf:X.fn x=true\/X.env.scope.names.lookup x=some .local:=by first | exact .inl rfl | exact .inr rfl | assumption):Dr X (.Name x pos) (gN i):=
 PG.imp (vL hN hi hx hf) λv σ H Q hh_=>by
  obtain⟨Z,O,M,t,E,r,h⟩:=hh_;unfold gN at h
  split at h
  ·rename_i Z' e
   split at e
   ·rename_i hl
    cases e;exact h _ (E.set hl r)
   ·cases e
  ·exact h.elim
def AS (ts:List T)(Z:En):Rs En:=match ts with
 | [] => .ok Z
 | _=> .bad
def sW (g:T->En->Rs En)(gs:List T->En->Rs En)(ts:List T)(Z:En):Rs En:=match ts with
 | t::r=>do
  let Z1 <-g t Z
  gs r Z1
 | [] => .bad
theorem By:AL X [] AS:=PGs.imp BR λvs σ H Q hh_=>by
 obtain⟨Z,O,M,ts,E,r,h⟩:=hh_;unfold AS at h
 cases ts with
 | nil=>exact⟨Reps.Da.mp r,h σ E⟩
 | cons _ _=>exact h.elim
theorem yO {g:T->En->Rs En}{gs:List T->En->Rs En}(h1:Dr X e g)(h2:AL X es gs)
  (hs:(KP (e::es) X.env).map (·.2)=assign e X.env::(KP es X.env).map (·.2):=by rfl):AL X (e::es) (sW g gs):=
 PGs.imp (yY h1 h2 hs) λvs σ H Q hh_=>by
  obtain⟨Z,O,M,ts,E,r,h⟩:=hh_
  cases ts with
  | nil=>exact h.elim
  | cons t ts=>
   obtain⟨v,ws,rfl,p,q⟩:=Reps.me.mp r;refine⟨v,ws,rfl,Z,O,M,t,E,p,?_⟩
   unfold sW at h
   cases e1:g t Z with
   | bad=>simp[e1]at h
   | err c=>simp[e1]at h
   | ok Z1=>
    intro σ1 E1;refine⟨Z1,O,M,ts,E1,q,?_⟩
    simp only[e1,az]at h
    cases e2:gs ts Z1 with
    | bad=>simp[e2]at h
    | err c=>simp[e2]at h
    | ok Z2=>
     simp only[e2]at h;exact λσ2 E2=>h σ2 E2
def gT (n:Nat)(gs:List T->En->Rs En)(t:T)(Z:En):Rs En:=match t with
 | .tup l=>if l.length=n then gs l Z else .bad
 | _=> .bad
theorem D6 {k n:Nat}{gs:List T->En->Rs En}(hc:X.calm=true)(h:AL X es gs)(hn:(KP es X.env).length=n:=by rfl)(hst:(KP es X.env).findIdx? (·.1)=none:=by rfl):Dr X (.Tuple es k pos) (gT n gs):=
 PG.imp (Em hc h hn hst) λv σ H Q hh_=>by
  obtain⟨Z,O,M,t,E,r,h⟩:=hh_;unfold gT at h
  cases t with
  | tup l=>
   obtain⟨a,vs,rfl,n',q,z⟩:=Rep.Fk.mp r
   by_cases hl:l.length=n
   ·simp only[if_pos hl]at h
    exact⟨a,vs,rfl,SqT.of q,by rw[<-z.length];exact hl,Z,O,M,l,E,z,h⟩
   ·simp only[if_neg hl]at h
  | _=>exact h.elim
theorem SqL.nn {K:Jh}{H:Hp}{a:Addr}{vs:List V}(q:SqL K H a vs):¬ Nw K H a:=λ⟨h1,h2⟩=>by
 rcases q with(q | ⟨o,q⟩) | ⟨o,_,_,q,_⟩
 ·rw[h1]at q;cases q
 ·rw[h1]at q;cases q
 ·rw[h2]at q;cases q
mutual
theorem Rep.more {K:Jh}{O O':Ow}{H:Hp}(sub:∀a,O' a->O a\/Nw K H a):∀{t:T} {v:V},Rep K O H t v->Rep K O' H t v
 | .non,_,r=>by unfold Rep at r ⊢;exact r
 | .bl _,_,r=>by unfold Rep at r ⊢;exact r
 | .int _,_,r=>by unfold Rep at r ⊢;exact r
 | .str _,_,r=>by unfold Rep at r ⊢;exact r
 | .tup l,_,r=>by
  unfold Rep at r ⊢;obtain⟨a,vs,e,n,q,z⟩:=r
  exact⟨a,vs,e,λp=>(sub a p).elim n λw=>(by rw[w.1]at q;cases q),q,Reps.more sub z⟩
 | .lst l,_,r=>by
  unfold Rep at r ⊢;obtain⟨a,vs,e,n,q,z⟩:=r
  exact⟨a,vs,e,λp=>(sub a p).elim n λw=>(by rw[w.1]at q;cases q),q,Reps.more sub z⟩
 | .scr l,_,r=>by
  unfold Rep at r ⊢;obtain⟨a,e,n,q⟩:=r
  exact⟨a,e,λp=>(sub a p).elim n λw=>Tr.SqL.nn q w,q⟩
 | .dct ks ts,_,r=>by
  unfold Rep at r ⊢;obtain⟨a,kvs,e,n,q,k,z⟩:=r
  exact⟨a,kvs,e,λp=>(sub a p).elim n λw=>(by rcases q with q | ⟨_,q⟩ <;> rw[w.1]at q <;> cases q),q,k,Reps.more sub z⟩
 | .ob C ns ts,_,r=>by
  unfold Rep at r ⊢;obtain⟨a,dx,fs,e,n,q,k,z⟩:=r;exact⟨a,dx,fs,e,λp=>(sub a p).elim n λw=>(by rw[w.1]at q;cases q),q,k,Reps.more sub z⟩
theorem Reps.more {K:Jh}{O O':Ow}{H:Hp}(sub:∀a,O' a->O a\/Nw K H a):∀{l:List T} {vs:List V},Reps K O H l vs->Reps K O' H l vs
 | [],_,r=>by unfold Reps at r ⊢;exact r
 | t::l,_,r=>by
  unfold Reps at r ⊢;obtain⟨v,ws,e,p,q⟩:=r;exact⟨v,ws,e,Rep.more sub p,Reps.more sub q⟩
end
theorem Rep.move {K:Jh}{O O' P:Ow}{H H':Hp}{t:T}{v:V}(hP:∀a,P a->O a\/Nw K H a)(hO:∀a,O' a->O a\/Nw K H a)(h:SameO P H H')(r:Rep K O H t v):Rep K O' H' t v:=
 Rep.less (O:=λa=>O' a\/P a) (λ_ z=> .inl z) (Rep.keep h (λ_ z=> .inr z) (Rep.more (λa z=>z.elim (hO a) (hP a)) r))
theorem Reps.move {K:Jh}{O O' P:Ow}{H H':Hp}{t:List T}{v:List V}(hP:∀a,P a->O a\/Nw K H a)(hO:∀a,O' a->O a\/Nw K H a)(h:SameO P H H')(r:Reps K O H t v):Reps K O' H' t v:=
 Reps.less (O:=λa=>O' a\/P a) (λ_ z=> .inl z) (Reps.keep h (λ_ z=> .inr z) (Reps.more (λa z=>z.elim (hO a) (hP a)) r))
def ItT (K:Jh)(O:Ow)(H:Hp)(ts:List T)(J:It):Prop:=∀(P O':Ow),(∀a,P a->O a\/Nw K H a)->(∀a,O' a->O a\/Nw K H a)->∀(i:Nat) (Hc:Hp),SameO P H Hc->(∀a,O' a->∃o,Hc a=some o) →
 (ts.length<=i->J.stop i Hc)/\(∀t,ts[i]? =some t->J.go i Hc/\∀x Hc',J.yld i Hc x Hc'->Same Hc Hc'/\Rep K O' Hc' t x)
def tPI (X:Cx)(f:En->Rs (List T)):TI:=λσ H R=> ∃Z O,EnvO X.K O H Z σ/\Post X H (f Z) λts H'=> ∀J,ItT X.K O H' ts J->R J H'
abbrev yg (X:Cx)(tg iter:Expr)(f:En->Rs (List T)):Prop:=PI X tg iter (tPI X f)
theorem PI.imp {tg iter:Expr}{t t':TI}(h:PI X tg iter t)(w:∀σ H R,t' σ H R->t σ H R):PI X tg iter t':=λpins s σ H R I q=>h pins s σ H R I (w σ H R q)
def iL (f:En->Rs T)(Z:En):Rs (List T):=do
 let x <-f Z
 match x with
 | .lst l=> .ok l
 | _=> .bad
def iT (f:En->Rs T)(Z:En):Rs (List T):=do
 let x <-f Z
 match x with
 | .tup l=> .ok l
 | _=> .bad
theorem vF {tg:Expr}(ha:b6 X a fa):yg X tg a (iL fa):=PI.imp (BP ha) λσ H R hh_=>by
 obtain⟨Z,O,E,h⟩:=hh_;obtain⟨Z1,O1,E1,h1⟩:=aV E h;refine⟨Z1,O1,E1,Post.mono h1 λts H1 s1 q vs r=> ?_⟩
 obtain⟨t',r',s',E',q'⟩:=q vs r
 split at q'
 ·rename_i l
  obtain⟨a,ws,rfl,n,q,z⟩:=Rep.Do.mp r';refine⟨a,rfl,⟨ws,SqL.of q⟩,q' H1 (Same.refl H1) _ λP O' hP hO i Hc hs ht=> ?_⟩
  have hnP:¬ P a:=λz=>(hP a z).elim n λw=>by rw[w.1]at q;cases q
  refine⟨λhi=>⟨ws,SqL.of (hs _ _ q hnP),by rw[<-z.length];exact hi⟩,λt ht'=> ?_⟩
  obtain⟨v,e1,e2⟩:=z.get ht';refine⟨⟨ws,v,SqL.of (hs _ _ q hnP),e1⟩,λx Hc' y=> ?_⟩
  obtain⟨e,y⟩:=y;subst e
  have:=y ws (SqL.of (hs _ _ q hnP));rw[e1]at this;cases this;exact⟨Same.refl _,e2.move hP hO hs⟩
 ·exact q'.elim
theorem D2 {tg:Expr}(ha:b6 X a fa):yg X tg a (iT fa):=PI.imp (El ha) λσ H R hh_=>by
 obtain⟨Z,O,E,h⟩:=hh_;obtain⟨Z1,O1,E1,h1⟩:=aV E h;refine⟨Z1,O1,E1,Post.mono h1 λts H1 s1 q vs r=> ?_⟩
 obtain⟨t',r',s',E',q'⟩:=q vs r
 split at q'
 ·rename_i l
  obtain⟨a,ws,rfl,n,q,z⟩:=Rep.Fk.mp r';refine⟨a,rfl,⟨ws,SqT.of q⟩,q' H1 (Same.refl H1) _ λP O' hP hO i Hc hs ht=> ?_⟩
  have hnP:¬ P a:=λz=>(hP a z).elim n λw=>by rw[w.1]at q;cases q
  refine⟨λhi=>⟨ws,SqT.of (hs _ _ q hnP),by rw[<-z.length];exact hi⟩,λt ht'=> ?_⟩
  obtain⟨v,e1,e2⟩:=z.get ht';refine⟨⟨ws,v,SqT.of (hs _ _ q hnP),e1⟩,λx Hc' y=> ?_⟩
  obtain⟨e,y⟩:=y;subst e
  have:=y ws (SqT.of (hs _ _ q hnP));rw[e1]at this;cases this;exact⟨Same.refl _,e2.move hP hO hs⟩
 ·exact q'.elim
def rng (lo hi:Int):List T:=(J9 (hi - lo).toNat).map λ(k:Nat)=>T.int (lo+(k:Int))
def oM (i:Int):Bool:=decide (-(2 ^ 62)<=i)&&decide (i<2 ^ 62)
def iR (f:En->Rs (List T))(Z:En):Rs (List T):=do
 let x <-f Z
 match x with
 | [.int j] =>if oM j then .ok (rng 0 j)else .bad
 | [.int i,.int j] =>if oM i&&oM j then .ok (rng i j)else .bad
 | _=> .bad
theorem fR {i:Int}(h:oM i=true) : -(2 ^ 62)<=i/\i<2 ^ 62:=by
 unfold oM at h;rw[Jj]at h;exact⟨of_decide_eq_true h.1,of_decide_eq_true h.2⟩
theorem mj {K:Jh}{O:Ow}{H:Hp}(lo hi:Int):ItT K O H (rng lo hi) (Itr lo (hi - lo).toNat):=λP O' hP hO i Hc hs ht=>by
 refine⟨λh=> ?_,λt h=> ?_⟩
 ·show(hi - lo).toNat<=i
  unfold rng at h;rw[Jo,Lj]at h;exact h
 ·unfold rng at h
  rw[JA]at h
  by_cases hi':i<(hi - lo).toNat
  ·rw[Oj hi']at h
   cases h;refine⟨hi',λx Hc' y=> ?_⟩
   obtain⟨e,y⟩:=y;subst e y;exact⟨Same.refl _,Rep.GM _⟩
  ·rw[Lw (by simpa using hi')]at h
   cases h
theorem xv {tg:Expr}(hm:X.mg "range" =none)(ha:og X [a] fs)(hg:Gl X "range":=by rfl)(hs:Jy [a] X.env= [(false,eval a X.env)]:=by rfl):yg X tg (.Call (.Name "range" p) [a] [] pos) (iR fs):=by
 intro pins s σ H R I ⟨Z,O,E,h⟩
 have h1:=eh E h;refine Call_ (gD I hg hm boot_range (Kl (bK (ha pos pins s σ H _ I h1) λus s1 ⟨vs,H1,I1,r1,ts,rs,s',E',q1⟩=> ?_) hs rfl))
 split at q1
 ·obtain⟨v,rfl,r⟩:=rs.one
  split at q1
  ·rename_i j hj
   obtain⟨b1,b2⟩:=fR hj;cases Rep.AC.mp r
   cases r1 with
   | cons r rr=>
    cases rr;obtain⟨t,rfl⟩:=r;exact call_range_1 (kf I1 (by omega) (by omega) b1 b2 (q1 H1 (Same.refl H1) _ (mj 0 j)))
  ·exact q1.elim
 ·obtain⟨v,ws,rfl,p1,q⟩:=Reps.me.mp rs
  obtain⟨v2,rfl,r⟩:=q.one
  split at q1
  ·rename_i i j hj
   rw[Jj]at hj;obtain⟨b1,b2⟩:=fR hj.1;obtain⟨b3,b4⟩:=fR hj.2;cases Rep.AC.mp p1;cases Rep.AC.mp r
   cases r1 with
   | cons r rr=>
    cases rr with
    | cons r' rr=>
     cases rr;obtain⟨t,rfl⟩:=r;obtain⟨t',rfl⟩:=r';exact call_range_2 (kf I1 b1 b2 b3 b4 (q1 H1 (Same.refl H1) _ (mj i j)))
  ·exact q1.elim
 ·exact q1.elim
theorem xu {tg:Expr}(hm:X.mg "range" =none)(ha:og X [a,b] fs)(hg:Gl X "range":=by rfl)(hs:Jy [a,b] X.env= [(false,eval a X.env),(false,eval b X.env)]:=by rfl)(hs2:Jy [b] X.env= [(false,eval b X.env)]:=by rfl) :
  yg X tg (.Call (.Name "range" p) [a,b] [] pos) (iR fs):=by
 intro pins s σ H R I ⟨Z,O,E,h⟩
 have h1:=eh E h;refine Call_ (gD I hg hm boot_range (Kl (bK (ha pos pins s σ H _ I h1) λus s1 ⟨vs,H1,I1,r1,ts,rs,s',E',q1⟩=> ?_) (by rw[hs,hs2]) (by rw[hs2];rfl)))
 split at q1
 ·obtain⟨v,rfl,r⟩:=rs.one
  split at q1
  ·rename_i j hj
   obtain⟨b1,b2⟩:=fR hj;cases Rep.AC.mp r
   cases r1 with
   | cons r rr=>
    cases rr;obtain⟨t,rfl⟩:=r;exact call_range_1 (kf I1 (by omega) (by omega) b1 b2 (q1 H1 (Same.refl H1) _ (mj 0 j)))
  ·exact q1.elim
 ·obtain⟨v,ws,rfl,p1,q⟩:=Reps.me.mp rs
  obtain⟨v2,rfl,r⟩:=q.one
  split at q1
  ·rename_i i j hj
   rw[Jj]at hj;obtain⟨b1,b2⟩:=fR hj.1;obtain⟨b3,b4⟩:=fR hj.2;cases Rep.AC.mp p1;cases Rep.AC.mp r
   cases r1 with
   | cons r rr=>
    cases rr with
    | cons r' rr=>
     cases rr;obtain⟨t,rfl⟩:=r;obtain⟨t',rfl⟩:=r';exact call_range_2 (kf I1 b1 b2 b3 b4 (q1 H1 (Same.refl H1) _ (mj i j)))
  ·exact q1.elim
 ·exact q1.elim
end
section
variable {X:Cx}{a b c e:Expr}{es:List Expr}{fa fb fc:En->Rs T}{fs:En->Rs (List T)}{pos p p2:Pos}{x:Str}
def bO (src:List (Option Nat))(Z:En):En:=src.map λo=>match o with
 | some i=>match Z[i]? with
  | some (.va t)=> .va t
  | _=> .em
 | none=> .em
def da (tgt:T->En->Rs En)(fc:En->Rs Bool)(fe:En->Rs T):List T->En->Rs (List T)
 | [],_=> .ok []
 | t::r,Z=>do
  let Z1 <-tgt t Z
  let k <-fc Z1
  if k then do
   let y <-fe Z1
   let ys <-da tgt fc fe r Z1
   .ok (y::ys)
  else da tgt fc fe r Z1
def gE (fi:En->Rs (List T))(src:List (Option Nat))(tgt:T->En->Rs En)(fc:En->Rs Bool)(fe:En->Rs T)(Z:En):Rs T:=do
 let ts <-fi Z
 if ts.length<=sizeLine then match da tgt fc fe ts (bO src Z)with
  | .ok ys=> .ok (.lst ys)
  | _=> .bad
 else .bad
def bT (_:En):Rs Bool:=.ok true
def tP0 (K:Jh)(f:En->Rs T):TE:=λσ H Q=> ∃Z O,EnvO K O H Z σ/\match f Z with
 | .ok t=> ∀H',Same H H'->∀v,Rep K O H' t v->Q v H'
 | _=>False
def tPT0 (K:Jh)(f:En->Rs Bool):TT:=λσ H Q=> ∃Z O,EnvO K O H Z σ/\match f Z with
 | .ok t=> ∀H',Same H H'->Q t H'
 | _=>False
theorem tP0.up {f:En->Rs T}{σ:L2.St}{H:Hp}{Q:VK}(h:tP0 X.K f σ H Q):tP X f σ H Q:=by
 obtain⟨Z,O,E,h⟩:=h;refine⟨Z,O,E,?_⟩
 cases q:f Z with
 | ok t=>rw[q]at h;exact h
 | err c=>rw[q]at h;exact h.elim
 | bad=>rw[q]at h;exact h.elim
theorem tPT0.up {f:En->Rs Bool}{σ:L2.St}{H:Hp}{Q:Bool->Hp->Prop}(h:tPT0 X.K f σ H Q):yC X f σ H Q:=by
 obtain⟨Z,O,E,h⟩:=h;refine⟨Z,O,E,?_⟩
 cases q:f Z with
 | ok t=>rw[q]at h;exact h
 | err c=>rw[q]at h;exact h.elim
 | bad=>rw[q]at h;exact h.elim
theorem Bw:yh X [] (yC X bT):=λpins s σ H Q I ⟨Z,O,E,h⟩=>vK pins s σ H Q I (h H (Same.refl H))
theorem Bv {f:En->Rs Bool}(h:rC X c f):yh X [c] (yC X f):=BO h
abbrev noM:Mn:=λ_ _=>False
theorem pj {src:List (Option Nat)}{Z:En}{j:Nat}{o:OT}(e:(bO src Z)[j]? =some (.ow o)):False:=by
 unfold bO at e;rw[JA]at e
 cases q:src[j]? with
 | none=>rw[q]at e;cases e
 | some o'=>
  rw[q]at e
  cases o' with
  | none=>cases e
  | some i=>
   have e':(match Z[i]? with | some (Sl.va t)=>Sl.va t | _=>Sl.em)=Sl.ow o:=JW e
   split at e' <;> cases e'
theorem sQ {K:Jh}{O:Ow}{H:Hp}{Z:En}{σ:L2.St}(E:EnvO K O H Z σ)(src:List (Option Nat)):EnvM K O noM H (bO src Z) (dj src σ) where
 len:=by unfold bO dj;rw[Jo,Jo]
 val:=λj t e=>by
  unfold bO at e;unfold dj;rw[JA]at e ⊢
  cases q:src[j]? with
  | none=>rw[q]at e;cases e
  | some o=>
   rw[q]at e
   cases o with
   | none=>cases e
   | some i=>
    have e':(match Z[i]? with | some (Sl.va t)=>Sl.va t | _=>Sl.em)=Sl.va t:=JW e
    cases q2:Z[i]? with
    | none=>rw[q2]at e';cases e'
    | some z=>
     rw[q2]at e'
     cases z with
     | em=>cases e'
     | ow l=>cases e'
     | va t'=>
      cases e';obtain⟨v,e1,e2⟩:=E.val i _ q2;exact⟨v,by simp[e1],e2⟩
 own:=λj o e=>(pj e).elim
 sub:=λ_ _ z=>z.elim
 dis:=λ_ _ _ z=>z.elim
 trk:=E.mtb
theorem ORep.no {K:Jh}{O:Ow}{H:Hp}{o:OT}{v:V}(r:ORep K O jI H o v):False:=by
 cases o with
 | lst l=>obtain⟨a,_,_,e,_⟩:=r;exact(e a).mpr rfl
 | dct ks ts=>obtain⟨a,_,_,e,_⟩:=r;exact(e a).mpr rfl
 | dd ks rows=>obtain⟨a,_,_,_,e,_⟩:=r;exact(e a).mpr (.inl rfl)
 | ob C ns ls=>obtain⟨a,_,_,_,e,_⟩:=r;exact(e a).mpr (.inl rfl)
theorem EnvM.move {K:Jh}{O O' P:Ow}{H H':Hp}{Z:En}{σ:L2.St}(E:EnvM K O noM H Z σ)(hP:∀a,P a->O a\/Nw K H a)(hO:∀a,O' a->O a\/Nw K H a)(h:SameO P H H')(trk:∀a,O' a->Mtb H' a):EnvM K O' noM H' Z σ where
 len:=E.len
 val:=λi t e=>let ⟨v,e1,e2⟩:=E.val i t e;⟨v,e1,e2.move hP hO h⟩
 own:=λi o e=>let ⟨_,_,r⟩:=E.own i o e;r.no.elim
 sub:=λ_ _ z=>z.elim
 dis:=λ_ _ _ z=>z.elim
 trk:=trk
def FL (fi:En->Rs (List T))(src:List (Option Nat))(tgt:T->En->Rs En)(fc:En->Rs Bool)(fe:En->Rs T)(Z:En):Rs (List T):=fi Z >>= λts=>if ts.length<=sizeLine then(match da tgt fc fe ts (bO src Z)with | .ok ys=>Rs.ok ys | _=> .bad)else .bad
theorem zC {src:List (Option Nat)}{fi:En->Rs (List T)}{tgt:T->En->Rs En}{fc:En->Rs Bool}{fe:En->Rs T}{Z:En}:gE fi src tgt fc fe Z=FL fi src tgt fc fe Z >>= λl=> .ok (.lst l):=by
 unfold gE FL
 cases fi Z with
 | bad=>rfl
 | err c=>rfl
 | ok ts=>
  rw[az,az]
  by_cases hz:ts.length<=sizeLine
  ·rw[if_pos hz,if_pos hz]
   cases da tgt fc fe ts (bO src Z) <;> rfl
  ·rw[if_neg hz,if_neg hz];rfl
theorem zB {src:List (Option Nat)}{fi:En->Rs (List T)}{tgt:T->En->Rs En}{fc:En->Rs Bool}{fe:En->Rs T}{σ:L2.St}{H:Hp}{Q:VK}{Z:En}{O:Ow}(E:EnvO X.K O H Z σ)
  (hq1:Post X H (FL fi src tgt fc fe Z) λall H1=> ∀D ys H',Nw X.K H1 D->Same H1 H'->H' D=some (.lst ys)->Reps X.K (λa=>O a\/a=D) H' all ys->Q (.ref D) H'):Gb X.K (tPI X fi) src (C1 X tgt) (tPT0 X.K fc) (tP0 X.K fe) σ H Q:=by
 unfold FL at hq1;refine⟨Z,O,E,Post.mono hq1.bind λts H1 s1 q1 J hJ D hD hK=> ?_⟩
 have E1:=E.same s1
 by_cases hz:ts.length<=sizeLine
 ·rw[if_pos hz]at q1
  cases hall:da tgt fc fe ts (bO src Z)with
  | bad=>rw[hall]at q1;exact q1.elim
  | err c=>rw[hall]at q1;exact q1.elim
  | ok all=>
   rw[hall]at q1
   have q2:∀D ys H',Nw X.K H1 D->Same H1 H'->H' D=some (.lst ys)->Reps X.K (λa=>O a\/a=D) H' all ys->Q (.ref D) H':=q1 H1 (Same.refl H1)
   have nD:Nw X.K H1 D:=⟨hD,hK⟩
   let O':Ow:=λa=>O a\/a=D
   have subO:∀a,O' a->O a\/Nw X.K H1 a:=λa z=>z.elim .inl λw=> .inr (w▸nD)
   -- the walk's word
   refine⟨λi m σ' ys H'=>m=ts.length - i/\i<=ts.length/\ys.length<=i/\H' D=some (.lst ys)/\SameO (λa=>a=D) (upd H1 D (.lst [])) H' ∧
    ∃Z' yts zs,EnvM X.K O' noM H' Z' σ'/\Reps X.K O' H' yts ys/\da tgt fc fe (ts.drop i) Z'= .ok zs/\yts++zs=all,⟨ts.length,?_⟩,?_⟩
   ·have sN:Same H1 (upd H1 D (.lst [])):=a9 hD _
    refine⟨by omega,Ld _,Jw _,aQ,λb o e _=>e,bO src Z,[],all,?_,Reps.Gc,by simpa using hall,rfl⟩
    have E2:EnvM X.K O noM H1 (bO src Z) (dj src σ):=sQ E1 src
    exact E2.move (P:=λa=>a=D) (λa z=> .inr (z▸nD)) subO (λb o e _=>sN b o e) λa z=>by
     rcases z with z | z
     ·exact(E1.mtb a z).same sN
     ·rw[z];exact .inl ⟨_,aQ⟩
   ·rintro i m σ' ys H' ⟨rfl,hi',hyl,hDl,hsm,Z',yts,zs,E',ry,hl,hyz⟩
    refine⟨hDl,?_⟩
    have sm1:SameO (λa=>a=D) H1 H':=λb o e nb=>hsm b o (by rw[aG nb];exact e) nb
    have it:=hJ (λa=>a=D) O' (λa z=> .inr (z▸nD)) subO i H' sm1 (λa z=>(E'.trk a z).some)
    by_cases hlt:i<ts.length
    ·refine .inr ?_
     have hti:ts[i]? =some ts[i]:=by simp
     obtain⟨go,yl⟩:=it.2 ts[i] hti;refine⟨go,by omega,λxx Hc y=> ?_⟩
     obtain⟨sc,rx⟩:=yl xx Hc y
     have Ec:=E'.same sc;rw[Ks hlt]at hl;unfold da at hl;refine⟨Z',O',noM,ts[i],Ec,rx,?_⟩
     cases e1:tgt ts[i] Z' with
     | bad=>rw[e1]at hl;cases hl
     | err cc=>rw[e1]at hl;cases hl
     | ok Z1=>
      rw[e1,az]at hl;intro σ1 Eg;refine⟨Z1,O',⟨noM,Eg⟩,?_⟩
      cases e2:fc Z1 with
      | bad=>rw[e2]at hl;cases hl
      | err cc=>rw[e2]at hl;cases hl
      | ok k=>
       rw[e2,az]at hl;intro H3 s3
       have E3:=Eg.same s3
       have tot:Same H' H3:=sc.trans s3
       have D3:H3 D=some (.lst ys):=tot _ _ hDl
       have sm3:SameO (λa=>a=D) (upd H1 D (.lst [])) H3:=λb o e nb=>tot _ _ (hsm b o e nb)
       cases k with
       | false=>
        refine L2.iteF ?_
        have hl':da tgt fc fe (ts.drop (i+1)) Z1= .ok zs:=by simpa using hl
        exact⟨ts.length - (i+1),by omega,rfl,hlt,by omega,D3,sm3,Z1,yts,zs,E3,ry.same tot,hl',hyz⟩
       | true=>
        refine L2.iteT ?_
        have hl':(fe Z1 >>= λy=>da tgt fc fe (ts.drop (i+1)) Z1 >>= λys=>Rs.ok (y::ys))= .ok zs:=by simpa using hl
        refine⟨Z1,O',⟨noM,E3⟩,?_⟩
        cases e3:fe Z1 with
        | bad=>rw[e3]at hl';cases hl'
        | err cc=>rw[e3]at hl';cases hl'
        | ok yt=>
         rw[e3,az]at hl'
         cases e4:da tgt fc fe (ts.drop (i+1)) Z1 with
         | bad=>rw[e4]at hl';cases hl'
         | err cc=>rw[e4]at hl';cases hl'
         | ok zs'=>
          rw[e4,az]at hl'
          have hzs:yt::zs'=zs:=by injection hl'
          intro H4 s4 v rv
          have D4:H4 D=some (.lst ys):=s4 _ _ D3
          have E4:=E3.same s4
          have tot4:Same H' H4:=tot.trans s4
          have smD:SameO (λa=>a=D) H4 (upd H4 D (.lst (ys++ [v]))):=λb o e nb=>by rw[aG nb];exact e
          have inO:∀a,a=D->O' a\/Nw X.K H4 a:=λa z=> .inl (.inr z)
          refine⟨D4,ts.length - (i+1),by omega,rfl,hlt,?_,aQ,λb o e nb=>smD b o (s4 _ _ (sm3 b o e nb)) nb,Z1,yts++ [yt],zs',?_,?_,e4,?_⟩
          ·rw[Js,Kv];omega
          ·exact E4.move inO (λa z=> .inl z) smD λaa z=>by
            by_cases hz:aa=D
            ·rw[hz];exact .inl ⟨_,aQ⟩
            ·unfold Mtb;rw[aG hz];exact E4.trk aa z
          ·have r1:Reps X.K O' H4 (yts++ [yt]) (ys++ [v]):=(ry.same tot4).append (Reps.FS rv Reps.Gc)
           exact r1.move inO (λa z=> .inl z) smD
          ·rw[Kj,NJ,hzs];exact hyz
    ·refine .inl ⟨it.1 (by omega),?_⟩
     have hi2:i=ts.length:=by omega
     subst hi2;rw[LI]at hl
     have hzs:zs= []:=by unfold da at hl;injection hl with hl;exact hl.symm
     subst hzs;rw[JZ]at hyz;subst hyz
     have sF:Same H1 H':=λb o e=>sm1 b o e λz=>by rw[z,hD]at e;cases e
     exact q2 D ys H' nD sF hDl ry
 ·rw[if_neg hz]at q1
  exact q1.elim
theorem wc {src:List (Option Nat)}{fi:En->Rs (List T)}{tgt:T->En->Rs En}{fc:En->Rs Bool}{fe:En->Rs T}{σ:L2.St}{H:Hp}{Q:VK}(h0:tP X (gE fi src tgt fc fe) σ H Q):Gb X.K (tPI X fi) src (C1 X tgt) (tPT0 X.K fc) (tP0 X.K fe) σ H Q:=by
 obtain⟨Z,O,E,hq⟩:=h0;refine zB E ?_
 have e:gE fi src tgt fc fe Z=FL fi src tgt fc fe Z >>= λl=> .ok (.lst l):=zC
 rw[e]at hq
 cases q:FL fi src tgt fc fe Z with
 | bad=>rw[q]at hq;exact hq.elim
 | err c=>rw[q]at hq;exact hq
 | ok l=>
  rw[q,az]at hq;intro H1 s1 D ys H' nD sD eD rD;exact hq H' (s1.trans sD) _ (Rep.Do.mpr ⟨D,ys,rfl,λz=>(E.same s1).fresh nD.1 z,eD,rD.less λa z=> .inl z⟩)
theorem q_lc {elt tg iter:Expr}{ifs:List Expr}{scope:Ma}{N':List Str}{src:List (Option Nat)}{fi:En->Rs (List T)}{tgt:T->En->Rs En}{fc:En->Rs Bool}{fe:En->Rs T}
  (hc:X.calm=true) (S:LcScope X scope N' src) (hi:yg X tg iter fi)
  (block:∀cl C s₀ H₀ fp,Dr (bQ X scope cl N' C s₀ H₀ fp) tg tgt/\yh (bQ X scope cl N' C s₀ H₀ fp) ifs (yC (bQ X scope cl N' C s₀ H₀ fp) fc)/\b6 (bQ X scope cl N' C s₀ H₀ fp) elt fe)
  (hs:∀x,Ke iter X.env x=pure x:=by intro _;rfl) :
  b6 X (.ListComp elt [⟨tg,iter,ifs,0⟩] scope pos) (gE fi src tgt fc fe):=by
 have hPG:∀cl C s₀ H₀ fp,PG (bQ X scope cl N' C s₀ H₀ fp) tg (C1 X tgt):=λcl C s₀ H₀ fp=>(block cl C s₀ H₀ fp).1
 have hPI:∀cl C s₀ H₀ fp,yh (bQ X scope cl N' C s₀ H₀ fp) ifs (tPT0 X.K fc):=λcl C s₀ H₀ fp pins s σ H Q I h=>(block cl C s₀ H₀ fp).2.1 pins s σ H Q I (tPT0.up (X:=bQ X scope cl N' C s₀ H₀ fp) h)
 have hPE:∀cl C s₀ H₀ fp,PE (bQ X scope cl N' C s₀ H₀ fp) elt (tP0 X.K fe):=λcl C s₀ H₀ fp pins s σ H Q I h=>(block cl C s₀ H₀ fp).2.2 pins s σ H Q I (tP0.up (X:=bQ X scope cl N' C s₀ H₀ fp) h)
 exact PE.imp (vO (g:=C1 X tgt) (tc:=tPT0 X.K fc) (te:=tP0 X.K fe) hc S hi (λcl C s₀ H₀ fp=>⟨hPG cl C s₀ H₀ fp,hPI cl C s₀ H₀ fp,hPE cl C s₀ H₀ fp⟩) hs) λσ H Q h=>wc h
inductive Fl where
 | nx (Z:En) | rt (t:T) | bk (Z:En) | ct (Z:En)
def OO (B:Ow)(M:Mn):Ow:=λa=>B a\/M.u a
structure Ev (K:Jh)(B:Ow)(M:Mn)(H:Hp)(Z:En)(σ:L2.St):Prop where
 env:EnvM K (OO B M) M H Z σ
 mine:∀a,M.u a->¬ B a
theorem Ev.same {K:Jh}{B:Ow}{M:Mn}{H H':Hp}{Z:En}{σ:L2.St}(h:Same H H')(e:Ev K B M H Z σ):Ev K B M H' Z σ:=⟨e.env.same h,e.mine⟩
theorem Ev.o {K:Jh}{B:Ow}{M:Mn}{H:Hp}{Z:En}{σ:L2.St}(e:Ev K B M H Z σ):EnvO K (OO B M) H Z σ:=⟨M,e.env⟩
def PostF (X:Cx)(B P:Ow)(H:Hp)(r:Rs Fl)(D:l4):Prop:=match r with
 | .ok (.nx Z')=> ∀σ' H' M',SameO P H H'->Ev X.K B M' H' Z' σ'->(∀a,M'.u a->P a\/Nw X.K H a)->D.nx σ' H'
 | .ok (.rt t)=> ∀v H',SameO P H H'->Rep X.K B H' t v->D.rt v H'
 | .ok (.bk Z')=> ∀σ' H' M',SameO P H H'->Ev X.K B M' H' Z' σ'->(∀a,M'.u a->P a\/Nw X.K H a)->D.bk σ' H'
 | .ok (.ct Z')=> ∀σ' H' M',SameO P H H'->Ev X.K B M' H' Z' σ'->(∀a,M'.u a->P a\/Nw X.K H a)->D.ct σ' H'
 | .err c=>XA X P H c
 | .bad=>False
def HW (X:Cx)(F:En->Rs Fl):TS:=λD σ H=> ∃Z B M,Ev X.K B M H Z σ/\PostF X B M.u H (F Z) D
abbrev mw (X:Cx)(s:Stmt)(F:En->Rs Fl):Prop:=PS X s (HW X F)
abbrev jT (X:Cx)(s:List Stmt)(F:En->Rs Fl):Prop:=PSs X s (HW X F)
theorem PostF.later {B P P1:Ow}{H H1:Hp}{r:Rs Fl}{D:l4}(h:PostF X B P H r D)(s:SameO P H H1)(sub:∀a,P1 a->P a\/Nw X.K H a):PostF X B P1 H1 r D:=by
 have back:∀a,P1 a\/Nw X.K H1 a->P a\/Nw X.K H a:=λa z=>z.elim (sub a) (d9 s)
 cases r with
 | bad=>exact h
 | err c=>exact XA.later h s sub
 | ok f=>
  cases f with
  | nx Z'=>exact λσ' H' M' s' E' o'=>h σ' H' M' (s.trans s' sub) E' λa z=>back a (o' a z)
  | rt t=>exact λv H' s' r=>h v H' (s.trans s' sub) r
  | bk Z'=>exact λσ' H' M' s' E' o'=>h σ' H' M' (s.trans s' sub) E' λa z=>back a (o' a z)
  | ct Z'=>exact λσ' H' M' s' E' o'=>h σ' H' M' (s.trans s' sub) E' λa z=>back a (o' a z)
theorem PostF.xa {B P:Ow}{H:Hp}{c:Str}{D:l4}(h:PostF X B P H (.err c) D):XA X jI H c:=XA.later (P:=P) h (λ_ _ e _=>e) λ_ z=>z.elim
def sN (Z:En):Rs Fl:=.ok (.nx Z)
def aC (F G:En->Rs Fl)(Z:En):Rs Fl:=do
 let f <-F Z
 match f with
 | .nx Z'=>G Z'
 | f=> .ok f
theorem DT:jT X [] sN:=PSs.imp vI λD σ H ⟨Z,B,M,E,h⟩=>h σ H M (λ_ _ e _=>e) E λa z=> .inl z
theorem Br {st:Stmt}{bJ:List Stmt}{F G:En->Rs Fl}(h1:mw X st F)(h2:jT X bJ G):jT X (st::bJ) (aC F G):=PSs.imp (r8 h1 h2) λD σ H hh_=>by
 obtain⟨Z,B,M,E,h⟩:=hh_;refine⟨Z,B,M,E,?_⟩
 unfold aC at h
 cases q:F Z with
 | bad=>rw[q]at h;exact h.elim
 | err c=>rw[q]at h;exact h
 | ok f=>
  rw[q,az]at h
  cases f with
  | nx Z'=>exact λσ' H' M' s' E' o'=>⟨Z',B,M',E',h.later s' o'⟩
  | rt t=>exact h
  | bk Z'=>exact h
  | ct Z'=>exact h
theorem DS {st:Stmt}{F:En->Rs Fl}(h:mw X st F):jT X [st] F:=vH h
def aJ (f:En->Rs T)(Z:En):Rs Fl:=do
 let t <-f Z
 .ok (.rt t)
theorem DP (ha:b6 X a fa):mw X (.Return (some a) pos) (aJ fa):=PS.imp (yU ha) λD σ H hh_=>by
 obtain⟨Z,B,M,E,h⟩:=hh_;refine⟨Z,OO B M,E.o,?_⟩
 unfold aJ at h
 cases q:fa Z with
 | bad=>rw[q]at h;exact h.elim
 | err c=>rw[q]at h;exact PostF.xa h
 | ok t=>
  rw[q,az]at h;exact λH' s v r=>h v H' (SameO.of s) (r.less λ_ z=> .inl z)
def eO (f:En->Rs Bool)(F G:En->Rs Fl)(Z:En):Rs Fl:=do
 let k <-f Z
 if k then F Z else G Z
theorem Gw {f:En->Rs Bool}{A B:List Stmt}{F G:En->Rs Fl}(hc:rC X c f)(ha:jT X A F)(hb:jT X B G):mw X (.If c A B pos) (eO f F G):=PS.imp (yV hc ha hb) λD σ H hh_=>by
 obtain⟨Z,B,M,E,h⟩:=hh_;refine⟨Z,OO B M,E.o,?_⟩
 unfold eO at h
 cases q:f Z with
 | bad=>rw[q]at h;exact h.elim
 | err c=>rw[q]at h;exact PostF.xa h
 | ok k=>
  rw[q,az]at h;intro H' s
  have E':Ev X.K B M H' Z σ:=E.same s
  cases k with
  | true=>refine L2.iteT ?_;exact⟨Z,B,M,E',PostF.later (by simpa using h) (SameO.of s) λa z=> .inl z⟩
  | false=>refine L2.iteF ?_;exact⟨Z,B,M,E',PostF.later (by simpa using h) (SameO.of s) λa z=> .inl z⟩
def c9 (f:En->Rs T)(g:T->En->Rs En)(Z:En):Rs Fl:=do
 let t <-f Z
 match g t Z with
 | .ok Z'=> .ok (.nx Z')
 | _=> .bad
theorem yK {B:Ow}{M:Mn}{Z:En}{σ:L2.St}{H:Hp}{D:l4}{g:T->En->Rs En}{f:En->Rs T}(E:Ev X.K B M H Z σ)(h:PostF X B M.u H (c9 f g Z) D):A8 (tP X f) (C1 X g) D σ H:=by
 refine⟨Z,OO B M,E.o,?_⟩
 unfold c9 at h
 cases q:f Z with
 | bad=>rw[q]at h;exact h.elim
 | err c=>rw[q]at h;exact PostF.xa h
 | ok t=>
  rw[q,az]at h;intro H' s v r;refine⟨Z,OO B M,M,t,E.env.same s,r,?_⟩
  cases q2:g t Z with
  | bad=>rw[q2]at h;exact h.elim
  | err c=>rw[q2]at h;exact h.elim
  | ok Z'=>
   rw[q2]at h;exact λσ' E'=>h σ' H' M (SameO.of s) ⟨E',E.mine⟩ λa z=> .inl z
theorem vB {f:En->Rs T}{σ:L2.St}{H:Hp}{Q Q':VK}(h:tP X f σ H Q)(w:∀v H',Q v H'->Q' v H'):tP X f σ H Q':=by
 obtain⟨Z,O,E,q⟩:=h;exact⟨Z,O,E,Post.mono q λt H' _ z v r=>w v H' (z v r)⟩
theorem Gv {elt tg iter:Expr}{ifs:List Expr}{scope:Ma}{spos py:Pos}{N':List Str}{src:List (Option Nat)}{fi:En->Rs (List T)}{tgt:T->En->Rs En}{fc:En->Rs Bool}{fe:En->Rs T}(i:Nat){y:Str}
  (hc:X.calm=true) (S:LcScope X scope N' src) (hi:yg X tg iter fi)
  (block:∀cl C s₀ H₀ fp,Dr (bQ X scope cl N' C s₀ H₀ fp) tg tgt/\yh (bQ X scope cl N' C s₀ H₀ fp) ifs (yC (bQ X scope cl N' C s₀ H₀ fp) fc)/\b6 (bQ X scope cl N' C s₀ H₀ fp) elt fe)
  (hN:X.N.Nodup) (hiy:X.N[i]? =some y:=by rfl) (hy:Loc X.env.scope y:=by first | exact Ka rfl | exact JS rfl) (hsw:J4 (.ListComp elt [⟨tg,iter,ifs,0⟩] scope pos) (some (.Name y py)) spos.line X.env=pure true:=by rfl)
  (hf:X.fn y=true\/X.env.scope.names.lookup y=some .local:=by first | exact .inl rfl | exact .inr rfl | assumption) (hs:∀x,Ke iter X.env x=pure x:=by intro _;rfl) :
  mw X (.Assign [.Name y py] (.ListComp elt [⟨tg,iter,ifs,0⟩] scope pos) spos) (c9 (gE fi src tgt fc fe) (gN i)):=by
 have hPG:∀cl C s₀ H₀ fp,PG (bQ X scope cl N' C s₀ H₀ fp) tg (C1 X tgt):=λcl C s₀ H₀ fp=>(block cl C s₀ H₀ fp).1
 have hPI:∀cl C s₀ H₀ fp,yh (bQ X scope cl N' C s₀ H₀ fp) ifs (tPT0 X.K fc):=λcl C s₀ H₀ fp pins s σ H Q I h=>(block cl C s₀ H₀ fp).2.1 pins s σ H Q I (tPT0.up (X:=bQ X scope cl N' C s₀ H₀ fp) h)
 have hPE:∀cl C s₀ H₀ fp,PE (bQ X scope cl N' C s₀ H₀ fp) elt (tP0 X.K fe):=λcl C s₀ H₀ fp pins s σ H Q I h=>(block cl C s₀ H₀ fp).2.2 pins s σ H Q I (tP0.up (X:=bQ X scope cl N' C s₀ H₀ fp) h)
 refine PS.imp (GP (g:=C1 X tgt) (tc:=tPT0 X.K fc) (te:=tP0 X.K fe) (i:=i) hc S hi (λcl C s₀ H₀ fp=>⟨hPG cl C s₀ H₀ fp,hPI cl C s₀ H₀ fp,hPE cl C s₀ H₀ fp⟩) hN hiy hy hsw hf hs) λD σ H ⟨Z,B,M,E,h⟩=>wc (vB (yK E h) λv H' z=> ?_)
 obtain⟨Z',O,M',t,E',r,q⟩:=z;unfold gN at q
 split at q
 ·rename_i Z2 e
  split at e
  ·rename_i hl
   cases e;exact q _ (E'.set hl r)
  ·cases e
 ·exact q.elim
theorem DZ {tg:Expr}{g:T->En->Rs En}(ha:b6 X a fa)(hg:Dr X tg g)(hs:OJ [tg] a pos.line X.env=pure false:=by rfl)(hw:OK [tg] a X.env=pure none:=by rfl)
  (h1:(KP [tg] X.env).map (·.2)= [assign tg X.env]:=by rfl):mw X (.Assign [tg] a pos) (c9 fa g):=PS.imp (Ej ha hg hs hw h1) λD σ H ⟨Z,B,M,E,h⟩=>yK E h
def uh (f:En->Rs T)(Z:En):Rs Fl:=do
 let _ <-f Z
 .ok (.nx Z)
theorem Bq (ha:b6 X a fa)(hs:J4 a none pos.line X.env=pure false:=by rfl):mw X (.Expr a pos) (uh fa):=PS.imp (iZ ha hs) λD σ H hh_=>by
 obtain⟨Z,B,M,E,h⟩:=hh_;refine⟨Z,OO B M,E.o,?_⟩
 unfold uh at h
 cases q:fa Z with
 | bad=>rw[q]at h;exact h.elim
 | err c=>rw[q]at h;exact PostF.xa h
 | ok t=>
  rw[q,az]at h;exact λH' s v r=>h σ H' M (SameO.of s) (E.same s) λa z=> .inl z
def br (g:T->En->Rs En)(F:En->Rs Fl):List T->En->Rs Fl
 | [],Z=> .ok (.nx Z)
 | t::r,Z=>do
  let Z1 <-g t Z
  let f <-F Z1
  match f with
  | .nx Z2=>br g F r Z2
  | .ct Z2=>br g F r Z2
  | .bk Z2=> .ok (.nx Z2)
  | .rt t=> .ok (.rt t)
def gx (fi:En->Rs (List T))(g:T->En->Rs En)(F:En->Rs Fl)(Z:En):Rs Fl:=do
 let ts <-fi Z
 match br g F ts Z with
 | .ok f=> .ok f
 | _=> .bad
theorem kG {α:Type}{t:Sem α}{Q:α->Jl->Prop}{s:Jl}{E:Ji->Jl->Prop}{P:JK}{w:Kn}{A:J0}(h:wpAny (model P w) A t Q (λ_ _=>False) s):wpAny (model P w) A t Q E s:=K7 h (λ_ _ q=>q) λ_ _ z=>z.elim
theorem BI {tg iter:Expr}{body:List Stmt}{wi:TI}{g:TG}{tb:TS}{pos:Pos}(hc:X.calm=true)(hi:PI X tg iter wi)(hg:PG X.nox tg g)(hb:PSs X.nox body tb)
  (hs:∀x,Ke iter X.env x=pure x:=by intro _;rfl):PS X (.For tg iter body [] pos) (tFor wi g tb):=by
 intro pins s σ H D I h;refine wpAny_For (bK (hi pins s σ H _ I h) λv s1 h1=>bK h1 λitv s2 h2=> ?_) hs
 obtain⟨it,fp,tn,J,H2,e,I2,T,st2,f2,W,⟨m0,w0⟩,turn⟩:=h2;subst e
 have stat:∀{H':Hp},(∀b∈fp,H' b=none)->∀b∈fp,nY X pins H' b:=λhn b hb=>⟨hn b hb,(f2 b hb).2⟩
 refine codeAny_forLoop_any (λn s'=> ∃i σ' H',Inv X pins σ' H' s'/\tn i s'.heap/\(∀b∈fp,H' b=none)/\W i n σ' H') ?_ m0 ⟨0,σ,H2,I2,st2,λb hb=>(f2 b hb).1,w0⟩
 rintro n s3 ⟨i,σ3,H3,I3,st3,fr3,w3⟩
 rcases turn i n σ3 H3 w3 with⟨stop,qn⟩ | ⟨go,N,hN,step⟩
 ·refine kG (bK (T.done X.nox rfl rfl rfl hc i pins s3 σ3 H3 _ (I3.FB _) (stat fr3) st3 stop) λr s4 ⟨hr,I4⟩=> ?_)
  subst hr;exact LZ ⟨σ3,H3,I4.FB _,qn⟩
 ·refine kG (bK (T.item X.nox rfl rfl rfl hc i pins s3 σ3 H3 _ (I3.FB _) (stat fr3) st3 go) λr s4 ⟨u,hr,h4⟩=> ?_)
  subst hr;refine kG (bK h4 λ_ s5 hh_=> ?_)
  obtain⟨x,H5,I5,r5,y5,st5,fr5⟩:=hh_
  have I5':=Inv.pinned (X:=X.nox) I5 (stat fr5) (T.obj _ _ st5);refine kG (bK (hg _ s5 σ3 H5 x u _ I5' r5 (step x H5 y5)) λ_ s6 hh_=> ?_)
  obtain⟨σ6,H6,I6,q6⟩:=hh_;refine kG (bK (hb _ s6 σ6 H6 _ I6 q6) λf s7 q7=> ?_)
  have again:∀{σ7:L2.St} {H7:Hp},Inv X.nox (pins++mT fp s5.heap) σ7 H7 s7->N σ7 H7->∃m,m<n/\∃i σ' H',Inv X pins σ' H' s7/\tn i s7.heap/\(∀b∈fp,H' b=none)/\W i m σ' H':=λ{σ7 H7} I7 n7=>by
   obtain⟨m',hm,w7⟩:=hN σ7 H7 n7;refine⟨m',hm,i+1,σ7,H7,(Inv.Io (X:=X.nox) I7).FB _,T.keep _ _ _ st5 λb hb o e=>(I7.pin (b,o) (JO _ (JO _ (gz hb e)))).1,λb hb=> ?_,w7⟩
   obtain⟨o,e,d⟩:=T.obj _ _ st5 b hb;exact(I7.pin (b,o) (JO _ (JO _ (gz hb e)))).2.1
  cases f with
  | next=>obtain⟨σ7,H7,I7,n7⟩:=q7;exact again I7 n7
  | cont=>obtain⟨σ7,H7,I7,n7⟩:=q7;exact again I7 n7
  | brk=>obtain⟨σ7,H7,I7,q7⟩:=q7;exact⟨σ7,H7,(Inv.Io (X:=X.nox) I7).FB _,q7⟩
  | ret v=>obtain⟨x7,σ7,H7,I7,r7,q7⟩:=q7;exact⟨x7,σ7,H7,(Inv.Io (X:=X.nox) I7).FB _,r7,q7⟩
theorem DV {tg iter:Expr}{body:List Stmt}{fi:En->Rs (List T)}{g:T->En->Rs En}{F:En->Rs Fl}(hc:X.calm=true)(hi:yg X tg iter fi)(hg:Dr X.nox tg g)(hb:jT X.nox body F)
  (hs:∀x,Ke iter X.env x=pure x:=by intro _;rfl):mw X (.For tg iter body [] pos) (gx fi g F):=PS.imp (BI hc hi hg hb hs) λD σ H hh_=>by
 obtain⟨Z,B,M,E,h⟩:=hh_;refine⟨Z,OO B M,E.o,?_⟩
 unfold gx at h
 cases q:fi Z with
 | bad=>rw[q]at h;exact h.elim
 | err c=>rw[q]at h;exact PostF.xa h
 | ok ts=>
  rw[q,az]at h
  cases qq:br g F ts Z with
  | bad=>rw[qq]at h;exact h.elim
  | err c=>rw[qq]at h;exact h.elim
  | ok fin=>
  rw[qq]at h;intro H1 s1 J hJ
  have E1:Ev X.K B M H1 Z σ:=E.same s1
  have h1:PostF X B M.u H1 (.ok fin) D:=PostF.later h (SameO.of s1) λa z=> .inl z
  refine⟨λi m σ' H'=>m=ts.length - i/\i<=ts.length/\SameO M.u H1 H'/\∃Z' M',Ev X.K B M' H' Z' σ'/\(∀a,M'.u a->M.u a\/Nw X.K H1 a)/\br g F (ts.drop i) Z'= .ok fin,
   ⟨ts.length,by omega,Ld _,λ_ _ e _=>e,Z,M,E1,λa z=> .inl z,by simpa using qq⟩,?_⟩
  rintro i m σ' H' ⟨rfl,hi',sm,Z',M',E',ow,hl⟩
  have it:=hJ M.u (OO B M') (λa z=> .inl (.inr z)) (λa z=>z.elim (λw=> .inl (.inl w)) λw=>(ow a w).elim (λy=> .inl (.inr y)) .inr) i H' sm (λa z=>(E'.env.trk a z).some)
  by_cases hlt:i<ts.length
  ·have hti:ts[i]? =some ts[i]:=by simp
   obtain⟨go,yl⟩:=it.2 ts[i] hti;rw[Ks hlt]at hl;unfold br at hl;refine .inr ⟨go,λσ2 H2=> ∃m',m'<ts.length - i/\(m'=ts.length - (i+1)/\i+1<=ts.length/\SameO M.u H1 H2/\∃Z2 M2,Ev X.K B M2 H2 Z2 σ2/\(∀a,M2.u a->M.u a\/Nw X.K H1 a)/\br g F (ts.drop (i+1)) Z2= .ok fin),λσ2 H2 z=>z,λx Hc y=> ?_⟩
   obtain⟨sc,rx⟩:=yl x Hc y;refine⟨Z',OO B M',M',ts[i],E'.env.same sc,rx,?_⟩
   cases e1:g ts[i] Z' with
   | bad=>rw[e1]at hl;cases hl
   | err cc=>rw[e1]at hl;cases hl
   | ok Z1=>
    rw[e1,az]at hl;intro σ1 Eg
    have E2:Ev X.K B M' Hc Z1 σ1:=⟨Eg,E'.mine⟩;refine⟨Z1,B,M',E2,?_⟩
    have smc:SameO M.u H1 Hc:=λb o e n=>sc _ _ (sm b o e n)
    have onward:∀{σ3:L2.St} {H3:Hp} {Z3:En} {M3:Mn},SameO M'.u Hc H3->Ev X.K B M3 H3 Z3 σ3->(∀a,M3.u a->M'.u a\/Nw X.K Hc a)->br g F (ts.drop (i+1)) Z3= .ok fin →
      ∃m',m'<ts.length - i/\(m'=ts.length - (i+1)/\i+1<=ts.length/\SameO M.u H1 H3/\∃Z2 M2,Ev X.K B M2 H3 Z2 σ3/\(∀a,M2.u a->M.u a\/Nw X.K H1 a)/\br g F (ts.drop (i+1)) Z2= .ok fin):=
     λ{σ3 H3 Z3 M3} s3 E3 o3 p3=>⟨_,by omega,rfl,hlt,smc.trans s3 ow,Z3,M3,E3,λa z=>(o3 a z).elim (ow a) (d9 smc),p3⟩
    cases e2:F Z1 with
    | bad=>rw[e2]at hl;cases hl
    | err cc=>rw[e2]at hl;cases hl
    | ok f=>
     rw[e2,az]at hl
     cases f with
     | nx Z2=>exact λσ3 H3 M3 s3 E3 o3=>onward s3 E3 o3 hl
     | ct Z2=>exact λσ3 H3 M3 s3 E3 o3=>onward s3 E3 o3 hl
     | bk Z2=>
      cases hl
      exact λσ3 H3 M3 s3 E3 o3=>h1 σ3 H3 M3 (smc.trans s3 ow) E3 λa z=>(o3 a z).elim (ow a) (d9 smc)
     | rt t=>
      cases hl;exact λv H3 s3 r=>h1 v H3 (smc.trans s3 ow) r
  ·refine .inl ⟨it.1 (by omega),?_⟩
   have hi2:i=ts.length:=by omega
   subst hi2;rw[LI]at hl;cases hl;exact h1 σ' H' M' sm E' ow
def bz (c:En->Rs Bool)(F:En->Rs Fl):Nat->En->Rs Fl
 | 0,_=> .bad
 | n+1,Z=>match c Z with
  | .ok false=> .ok (.nx Z)
  | .ok true=>match F Z with
   | .ok (.nx Z')=>bz c F n Z'
   | .ok (.ct Z')=>bz c F n Z'
   | .ok (.bk Z')=> .ok (.nx Z')
   | .ok (.rt t)=> .ok (.rt t)
   | _=> .bad
  | _=> .bad
theorem yM {c:Expr}{body:List Stmt}{fc:En->Rs Bool}{F:En->Rs Fl}(n:Nat)(hc:rC X.nox c fc)(hb:jT X.nox body F):mw X (.While c body [] pos) (bz fc F n):=by
 have base:PS X.nox (.While c body [] pos) (tZ (yC X.nox fc) (HW X.nox F)):=yT PassesOwn.never hc hb;intro pins s σ H D I ⟨Z,B,M,E,h⟩
 cases qq:bz fc F n Z with
 | bad=>rw[qq]at h;exact h.elim
 | err c=>
  exfalso
  have:∀n Z,bz fc F n Z≠ .err c:=by
   intro n
   induction n with
   | zero=>intro Z z;cases z
   | succ n ih=>
    intro Z z;unfold bz at z
    split at z
    ·cases z
    ·split at z <;> first | exact ih _ z | cases z
    ·cases z
  exact this n Z qq
 | ok fin=>
  rw[qq]at h
  have goal:tZ (yC X.nox fc) (HW X.nox F) D σ H:=by
   refine⟨λm σ' H'=>SameO M.u H H'/\∃Z' M',Ev X.K B M' H' Z' σ'/\(∀a,M'.u a->M.u a\/Nw X.K H a)/\bz fc F m Z'= .ok fin,⟨n,λ_ _ e _=>e,Z,M,E,λa z=> .inl z,qq⟩,?_⟩
   rintro m σ' H' ⟨sm,Z',M',E',ow,hl⟩
   cases m with
   | zero=>cases hl
   | succ m=>
    refine⟨Z',OO B M',E'.o,?_⟩
    unfold bz at hl
    cases e1:fc Z' with
    | bad=>rw[e1]at hl;cases hl
    | err cc=>rw[e1]at hl;cases hl
    | ok k=>
     rw[e1]at hl;intro H2 s2
     have E2:Ev X.K B M' H2 Z' σ':=E'.same s2
     have sm2:SameO M.u H H2:=λb o e n=>s2 _ _ (sm b o e n)
     cases k with
     | false=>
      cases hl;refine L2.iteF ?_
      exact h σ' H2 M' sm2 E2 ow
     | true=>
      refine L2.iteT ?_
      refine⟨λσ3 H3=>SameO M.u H H3/\∃Z3 M3,Ev X.K B M3 H3 Z3 σ3/\(∀a,M3.u a->M.u a\/Nw X.K H a)/\bz fc F m Z3= .ok fin,λσ3 H3 z=>⟨m,Np m,z⟩,Z',B,M',E2,?_⟩
      have hl':(match F Z' with | .ok (.nx Z')=>bz fc F m Z' | .ok (.ct Z')=>bz fc F m Z' | .ok (.bk Z')=> .ok (.nx Z') | .ok (.rt t)=> .ok (.rt t) | _=> .bad)= .ok fin:=hl
      cases e2:F Z' with
      | bad=>rw[e2]at hl';cases hl'
      | err cc=>rw[e2]at hl';cases hl'
      | ok f=>
       rw[e2]at hl'
       cases f with
       | nx Z2=>exact λσ3 H3 M3 s3 E3 o3=>⟨sm2.trans s3 ow,Z2,M3,E3,λa z=>(o3 a z).elim (ow a) (d9 sm2),hl'⟩
       | ct Z2=>exact λσ3 H3 M3 s3 E3 o3=>⟨sm2.trans s3 ow,Z2,M3,E3,λa z=>(o3 a z).elim (ow a) (d9 sm2),hl'⟩
       | bk Z2=>
        cases hl'
        exact λσ3 H3 M3 s3 E3 o3=>h σ3 H3 M3 (sm2.trans s3 ow) E3 λa z=>(o3 a z).elim (ow a) (d9 sm2)
       | rt t=>
        cases hl';exact λv H3 s3 r=>h v H3 (sm2.trans s3 ow) r
  refine kG (bK (base pins s σ H D (I.FB _) goal) λf s' q=> ?_)
  cases f with
  | next=>obtain⟨σ7,H7,I7,n7⟩:=q;exact⟨σ7,H7,I7.FB _,n7⟩
  | cont=>obtain⟨σ7,H7,I7,n7⟩:=q;exact⟨σ7,H7,I7.FB _,n7⟩
  | brk=>obtain⟨σ7,H7,I7,n7⟩:=q;exact⟨σ7,H7,I7.FB _,n7⟩
  | ret v=>obtain⟨x7,σ7,H7,I7,r7,q7⟩:=q;exact⟨x7,σ7,H7,I7.FB _,r7,q7⟩
def C2 (Z:En):Rs Fl:=.ok (.ct Z)
end
def bp (F:En->Rs Fl)(Z:En):Rs T:=do
 let f <-F Z
 match f with
 | .nx _=> .ok .non
 | .rt t=> .ok t
 | _=> .bad
def aO (n:Nat)(ts:List T):En:=ts.map Sl.va++JH (n - ts.length) Sl.em
theorem xm {n:Nat}{ts:List T}{i:Nat}{o:OT}(e:(aO n ts)[i]? =some (.ow o)):False:=by
 unfold aO at e
 by_cases hi:i<ts.length
 ·rw[JR (by simpa using hi),JA,Jv hi]at e
  cases e
 ·rw[Kp (by simpa using hi),Kg]at e
  split at e <;> cases e
theorem oX {K:Jh}{O:Ow}{H:Hp}{N:List Str}{ts:List T}{vs:List V}(r:Reps K O H ts vs)(hl:ts.length<=N.length)(trk:∀a,O a->Mtb H a):Ev K O noM H (aO N.length ts) (start N vs):=by
 have hlen:=r.length
 have sub:∀a,OO O noM a->O a:=λa z=>z.elim id λ⟨_,w⟩=>w.elim
 refine⟨⟨by unfold aO L2.start;simp;omega,λi t e=> ?_,λi o e=>(xm e).elim,λ_ _ z=>z.elim,λ_ _ _ z=>z.elim,λa z=>trk a (sub a z)⟩,λa ⟨_,z⟩=>z.elim⟩
 unfold aO at e;unfold L2.start
 by_cases hi:i<ts.length
 ·rw[JR (by simpa using hi),JA,Jv hi]at e
  have e':ts[i] =t:=by injection e with e;injection e
  obtain⟨v,e1,e2⟩:=r.get (i:=i) (t:=t) (by rw[<-e'];simp)
  refine⟨v,?_,e2.less sub⟩
  rw[JR (by simp;omega),JA,e1];rfl
 ·rw[Kp (by simpa using hi),Kg]at e
  split at e <;> cases e
section
variable {P:JK}{w:Kn}{K:Jh}{mg:Str->Option Ji}{base:Heap}
theorem HA {x qual:Str}{st:Stmt}{f:Addr}{fd:Ki}{N ps:List Str}{k n:Nat}{g:List T->Rs T}(Fn:L2.Fun K x qual st f fd)(S:aA N ps (aj st))(hn:ps.length=n)
  (hbody:∀(cdv:Ji) (A:J0) (outer:List Env) (s:Jl) (H:Hp) (E:XK),Room k (A.deeper (envOfC qual (aj st) s.heap.objs.size f cdv)) →
   ∃F,jT (fG CX0 P w K mg base N qual (aj st) f cdv A outer s H E).nox (bx st) F/\∀ts,ts.length=n->∀t,g ts= .ok t->bp F (aO N.length ts)= .ok t):nZ P w K mg base CX0 (k+1) f fd ps (spP K n g):=by
 have hpl:ps.length<=N.length:=by have:=congrArg K3 S.pre;rw[J5]at this;omega
 refine Fn.ok S (λvs H Q E h=> ?_) (λcdv A outer s H vs Q E hr h=> ?_)
 ·obtain⟨ts,O,r,_,hl,_⟩:=h
  rw[<-r.length,hl,hn]
 ·obtain⟨ts,O,r,trk,hl,h⟩:=h
  obtain⟨F,hF,hv⟩:=hbody cdv A outer s H E hr;refine⟨_,hF,aO N.length ts,O,noM,oX r (by omega) trk,?_⟩
  have no:∀a,¬noM.u a:=λa ⟨_,z⟩=>z
  cases q:g ts with
  | bad=>rw[q]at h;exact h.elim
  | err c=>rw[q]at h;exact h.elim
  | ok t=>
   rw[q]at h
   have hb:=hv ts hl t q;unfold bp at hb
   cases q2:F (aO N.length ts)with
   | bad=>rw[q2]at hb;cases hb
   | err c=>rw[q2]at hb;cases hb
   | ok fl=>
    rw[q2,az]at hb
    have sameOf:∀H',SameO noM.u H H'->Same H H':=λH' s b o e=>s b o e (no b)
    cases fl with
    | nx Z'=>cases hb;exact λσ' H' M' s' E' o'=>h .non H' (sameOf H' s') Rep.IK
    | rt t'=>cases hb;exact λv H' s' r'=>h v H' (sameOf H' s') r'
    | bk Z'=>cases hb
    | ct Z'=>cases hb
end
end Tr
namespace Enu
open PySem
open AutoSeq1 (wpAny_loadPart')
section
variable {prog:JK}{w:Kn}{A:J0}{E:Ji->Jl->Prop}{s:Jl}
theorem A6 {it tt:Addr}{k:Nat}{its:Array Ji}{x:Ji}{Q:Ji->Jl->Prop}(hi:s.heap.IsTupleIter it tt k)(ht:s.heap.IsTuple tt its)(hx:its[k]? =some x)
  (hQ:∀h',h'.IsTupleIter it tt (k+1)->Mo it s.heap h'->Q x { s with heap:=h' }):wpAny (model prog w) A (Lb (.ref it)) Q E s:=by
 obtain⟨ob,g1,g2,g3⟩:=id hi;obtain⟨ot,k1,_,m,k3⟩:=ht;unfold Lb;refine Jn (K1 (name:=JC "__next__") hi.typeIs K5 (LJ K5 hi.typeIs MC ?_ (Mv _)))
 show wpAny (model prog w) _ (field (.ref it) 0 >>= _) _ _ s
 refine Jn (Lf g1 g3 (x:=.ref tt) rfl ?_)
 show wpAny (model prog w) _ (if (JQ tt == JY)=true then _ else _) _ _ s
 rw[if_neg (show ¬((JQ tt == JY)=true)by exact JJ)]
 show wpAny (model prog w) _ (field (.ref it) 1 >>= _) _ _ s
 refine Jn (Lf g1 g3 (x:=.int k 0) rfl ?_)
 show wpAny (model prog w) _ (seqItems? (.ref tt) >>= _) _ _ s
 refine Jn (Oc k1 k3 ?_)
 simp only[hx,KL];refine Jn (Od g1 g3 (by simp) (Jz ⟨x,rfl,Jz (hQ _ ?_ (Oe ..))⟩))
 refine⟨_,NK _ g1 (NL (LW g3 _)),(Obj.cls_mapFields ..).trans g2,?_⟩
 rw[LW g3];simp[rawInt]
theorem tupStop {it tt:Addr}{k:Nat}{its:Array Ji}{Q:Ji->Jl->Prop}(hh:A.handled=none)(hi:s.heap.IsTupleIter it tt k)(ht:s.heap.IsTuple tt its)(hx:its[k]? =none)
  (hE:∀h' e,Heap.ExtBut it s.heap h'->(∃o,h'.get? e=some o/\o.cls= .type "StopIteration")->E (.ref e) { s with heap:=h' }):wpAny (model prog w) A (Lb (.ref it)) Q E s:=by
 obtain⟨ob,g1,g2,g3⟩:=id hi;obtain⟨ot,k1,_,m,k3⟩:=ht;unfold Lb;refine Jn (K1 (name:=JC "__next__") hi.typeIs K5 (LJ K5 hi.typeIs MC ?_ (Mv _)))
 show wpAny (model prog w) _ (field (.ref it) 0 >>= _) _ _ s
 refine Jn (Lf g1 g3 (x:=.ref tt) rfl ?_)
 show wpAny (model prog w) _ (if (JQ tt == JY)=true then _ else _) _ _ s
 rw[if_neg (show ¬((JQ tt == JY)=true)by exact JJ)]
 show wpAny (model prog w) _ (field (.ref it) 1 >>= _) _ _ s
 refine Jn (Lf g1 g3 (x:=.int k 0) rfl ?_)
 show wpAny (model prog w) _ (seqItems? (.ref tt) >>= _) _ _ s
 refine Jn (Oc k1 k3 ?_)
 simp only[hx,KL];refine Jn (Pa (Jn (Od g1 g3 (by simp) ?_)))
 show wpAny (model prog w) _ (newExc (.type "StopIteration") [] >>= _) _ _ _
 refine Jn ?_
 simp only[newTuple,newExc];refine Jn (KQ ?_ (by size_fits))
 refine Jn (m:=firstArgMember _ _) (wpAny_of_eq (a:=JY) (by first | (simp only[firstArgMember];rfl) | rfl) ?_)
 refine KQ ?_ (by size_fits)
 simp only[raiseNew];refine Jn (wpAny_handled ?_)
 first | rw[hh] | rw[show A.in1.handled=none from hh]
 refine Jn (Jz (wpAny_throw ?_))
 refine hE _ _ (((Oe ..).extBut.push _).push _) ⟨_,JF _ rfl,rfl⟩
end
theorem tupDraws {prog:JK}{w:Kn}{A:J0}(hh:A.handled=none)(it tt:Addr)(hne:tt≠it)(its:Array Ji) :
  Draws prog w A it [it,tt] its.size (λi v=>its[i]? =some v) (λi h=>h.IsTupleIter it tt i/\h.IsTuple tt its) where
 live:=λ_ _ st=>by obtain⟨o,ho,_⟩:=st.1;exact⟨o,ho⟩
 frame:=λ_ _ _ st hk=>by
  obtain⟨⟨o,e,r⟩,⟨o',e',r'⟩⟩:=st;exact⟨⟨o,hk it (by simp) o e,r⟩,⟨o',hk tt (by simp) o' e',r'⟩⟩
 item:=λi s Q E hi st hQ=>by
  refine A6 st.1 st.2 (x:=its[i]) (by simp[hi]) λh' hit' hs'=> ?_
  obtain⟨o',e',r'⟩:=st.2;exact hQ _ h' s.toks (by simp[hi]) ⟨hit',⟨o',(hs'.2 tt hne).trans e',r'⟩⟩ hs'
 done:=λs Q E st hE=>tupStop hh st.1 st.2 (by simp) hE
theorem newT (l:Addr)(items:Array Ji)(n:Nat)(dct:Option Addr)(sl:Array (Option Ji)) :
  Meets (Builtin.«enumerate.__new__» ⟨[.type "enumerate",.ref l],[]⟩) (λ_ R s=>s.heap.get? l=some { cls:=.type "tuple",dict:=dct,data:=.seq items n,slots:=sl } ∧
   R (.ok (.ret (.ref (s.heap.push { cls:=.type "tuple_iterator",data:=.fields #[.ref l,.int 0 0] }).objs.size)))
    { s with heap:=(s.heap.push { cls:=.type "tuple_iterator",data:=.fields #[.ref l,.int 0 0] }).push { cls:=.type "enumerate",data:=.fields #[.none,.bool false,.ref s.heap.objs.size,rawInt 0,.none,.none] } }):=
 .of_wp λprog w A R s h=>by
  obtain⟨hp,g,d,tk,os⟩:=s;obtain⟨hl,h⟩:=h
  have hsub:=sub_enumerate
  have hT:Heap.IsTuple (Shared.heap ⟨hp,g,d,tk,os⟩) l items:=⟨_,hl,rfl,n,rfl⟩
  wp_walk using Lm hl
  refine wpAny_stack_any λst=>Jz ?_
  split
  ·rename_i c _ _ _ _ _
   cases (c == Mx "enumerate")
   ·wp_walk using Lm hl,L1 hT
    exact⟨_,rfl,h⟩
   ·wp_walk using Lm hl,L1 hT
    exact⟨_,rfl,h⟩
  ·wp_walk using Lm hl,L1 hT
   exact⟨_,rfl,h⟩
theorem callT {prog:JK}{w:Kn}{A:J0}{E:Ji->Jl->Prop}{s:Jl}{l:Addr}{items:Array Ji}{Q:Ji->Jl->Prop}(hL:s.heap.IsTuple l items)
  (h:∀h',IsEnum h' (s.heap.objs.size+1) s.heap.objs.size 0 .none->h'.IsTupleIter s.heap.objs.size l 0->h'.objs.size=s.heap.objs.size+2 →
   (∀b o,s.heap.get? b=some o->h'.get? b=some o)->Q (.ref (s.heap.objs.size+1)) { s with heap:=h' }):wpAny (model prog w) A (call (.type "enumerate") [.ref l]) Q E s:=by
 obtain⟨⟨cc,dc,dd,ss⟩,hl,hc,n,hd⟩:=hL
 replace hc:cc= .type "tuple":=hc
 replace hd:dd= .seq items n:=hd
 subst hc hd;refine callType_new F.called_enumerate (by decide) (F.typeCall_enumerate_1 _) (F.newCall_enumerate_1 _) (λobj=>F.args_object_init_2 obj _) F.entry_enumerate_new (newT l items n dc ss) ⟨hl,?_⟩
 have hz:(s.heap.push { cls:=.type "tuple_iterator",data:=.fields #[.ref l,.int 0 0] }).objs.size=s.heap.objs.size+1:=Lc ..
 show _/\_
 rw[hz]
 have he:IsEnum ((s.heap.push { cls:=.type "tuple_iterator",data:=.fields #[.ref l,.int 0 0] }).push
   { cls:=.type "enumerate",data:=.fields #[.none,.bool false,.ref s.heap.objs.size,rawInt 0,.none,.none] }) (s.heap.objs.size+1) s.heap.objs.size 0 .none:=by
  have q:=JF (s.heap.push { cls:=.type "tuple_iterator",data:=.fields #[.ref l,.int 0 0] })
   (o:={ cls:=.type "enumerate",data:=.fields #[.none,.bool false,.ref s.heap.objs.size,rawInt 0,.none,.none] }) rfl
  rw[hz]at q;exact q
 refine⟨⟨_,he,rfl⟩,h _ he ⟨_,Jr _ (JF _ rfl),rfl,rfl⟩ (by rw[Lc,hz]) λb o x=>Jr _ (Jr _ x)⟩
end Enu
namespace L2
open PySem PySem.Spec PyProof.Rows
section
variable {X:Cx}{pins:List (Addr×Obj)}{σ:L2.St}{H:Hp}{s:Jl}{h':Heap}
theorem Inv.IL {t':Nat}{fp:List Addr}{Tp:Addr}{xs:List V}(I:Inv X pins σ H s)(hf:∀b∈fp,nY X pins H b)(k:∀b o,b∉fp->s.heap.get? b=some o->h'.get? b=some o)
  (ht:∀b∈fp,∃o,h'.get? b=some o) (hT:s.heap.objs.size<=Tp) (new:ObjOk X.prog X.w (upd H Tp (.tup xs)) h' Tp (.tup xs)):Inv X pins σ (upd H Tp (.tup xs)) { s with heap:=h',toks:=t' }:=by
 have hn:H Tp=none:=I.hok.fresh hT
 have fE:∀b o,s.heap.get? b=some o->b≠Tp:=λb o e=>Ku (JE (Jx e) hT)
 have nf:∀b u,H b=some u->b∉fp:=λb u e z=>by rw[(hf b z).1]at e;cases e
 refine I.step (g':=s.gens) (d':=s.drawn) (ch:=fp) (λb hb=>⟨(hf b hb).2.2.2.1,(hf b hb).2.1,(hf b hb).2.2.2.2.1,(hf b hb).2.2.2.2.2⟩) (λb o _ _ hc e _=>k b o hc e) (λb o _ _ hc e _=>⟨o.slots,k b o hc e⟩)
  (λb o _ e n=>by rw[aG (fE b o e)];exact n) (λb o hc e=>⟨o,k b o hc e⟩) (λb ys e=>by rw[aG (bR e hn)];exact e) (λb o u e=>by rw[aG (bR e hn)];exact e)
  (λb ps e=>⟨#[],by rw[aG (bR e hn),e];simp⟩) (λm hm=> ?_) (λb u e=> ?_) I.bare
 ·obtain⟨o,es,ep,ho,r⟩:=hm
  exact⟨o,es,ep,k _ o (λz=>(hf _ z).2.1 rfl) ho,r⟩
 ·by_cases hb:b=Tp
  ·subst hb;rw[aQ]at e;cases e;exact new
  ·rw[aG hb]at e
   refine(I.hok b u e).Iw (λc v hc q=>k c v ?_ q) (λc q=>by rw[aG (bR q hn)];exact q) λc ys q=>by rw[aG (bR q hn)];exact q
   rcases hc with z | z
   ·rw[z];exact nf b u e
   ·exact nf c _ z
theorem Inv.Iz {t':Nat}{fp:List Addr}(I:Inv X pins σ H s)(hf:∀b∈fp,nY X pins H b)(k:∀b o,b∉fp->s.heap.get? b=some o->h'.get? b=some o):Inv X pins σ H { s with heap:=h',toks:=t' }:=by
 have nf:∀b u,H b=some u->b∉fp:=λb u e z=>by rw[(hf b z).1]at e;cases e
 refine I.step (g':=s.gens) (d':=s.drawn) (ch:=fp) (λb hb=>⟨(hf b hb).2.2.2.1,(hf b hb).2.1,(hf b hb).2.2.2.2.1,(hf b hb).2.2.2.2.2⟩) (λb o _ _ hc e _=>k b o hc e) (λb o _ _ hc e _=>⟨o.slots,k b o hc e⟩)
  (λb o _ e n=>n) (λb o hc e=>⟨o,k b o hc e⟩) (λb ys e=>e) (λb o u e=>e)
  (λb ps e=>⟨#[],by rw[e];simp⟩) (λm hm=> ?_) (λb u e=> ?_) I.bare
 ·obtain⟨o,es,ep,ho,r⟩:=hm
  exact⟨o,es,ep,k _ o (λz=>(hf _ z).2.1 rfl) ho,r⟩
 ·refine(I.hok b u e).Iw (λc v hc q=>k c v ?_ q) (λc q=>q) λc ys q=>q
  rcases hc with z | z
  ·rw[z];exact nf b u e
  ·exact nf c _ z
end
def AU (K:Jh)(H:Hp)(a:Addr)(tt:Bool)(xs:List V):Prop:=if tt then SqT K H a xs else SqL K H a xs
def Ij (K:Jh)(a:Addr)(tt:Bool):It:=
 ⟨λi H=> ∃xs x,AU K H a tt xs/\xs[i]? =some x,λi H x H'=> ∃p v,x= .ref p/\H p=none/\H'=upd H p (.tup [.int (i:Nat),v])/\∀xs,AU K H a tt xs->xs[i]? =some v,λi H=> ∃xs,AU K H a tt xs/\xs.length<=i⟩
def itAt (tt:Bool)(h:Heap)(it a:Addr)(i:Nat):Prop:=if tt then h.IsTupleIter it a i else h.IsListIter it a i
theorem itAt.obj {tt:Bool}{h:Heap}{it a:Addr}{i:Nat}(st:itAt tt h it a i):∃o,h.get? it=some o/\∀v,o.data≠ .cell v:=by
 cases tt with
 | true=>obtain⟨o,e,c,d⟩:=(show h.IsTupleIter it a i from st);exact⟨o,e,λv z=>by rw[d]at z;cases z⟩
 | false=>obtain⟨o,e,c,d⟩:=(show h.IsListIter it a i from st);exact⟨o,e,λv z=>by rw[d]at z;cases z⟩
theorem itAt.keep {tt:Bool}{h h':Heap}{it a:Addr}{i:Nat}(st:itAt tt h it a i)(k:∀o,h.get? it=some o->h'.get? it=some o):itAt tt h' it a i:=by
 cases tt with
 | true=>obtain⟨o,e,r⟩:=(show h.IsTupleIter it a i from st);exact(show h'.IsTupleIter it a i from⟨o,k o e,r⟩)
 | false=>obtain⟨o,e,r⟩:=(show h.IsListIter it a i from st);exact(show h'.IsListIter it a i from⟨o,k o e,r⟩)
theorem xj {P:JK}{w:Kn}{K:Jh}{elts:List Expr}{kk:Nat}{pos:Pos}(tt:Bool)(a e it:Addr)(hei:e≠it) :
  yc P w K (.Tuple elts kk pos) (Ij K a tt) [e,it] e (λi h=>(∃old,IsEnum h e it i old)/\itAt tt h it a i) where
 mem:=by simp
 obj:=λi h st b hb=>by
  obtain⟨⟨old,he⟩,hi⟩:=st;rcases Ju.mp hb with rfl | hb
  ·exact⟨_,he,λv z=>by have z':PM _=Data.cell v:=z;cases z'⟩
  ·rw[JG.mp hb];exact hi.obj
 keep:=λi h h' st k=>by
  obtain⟨⟨old,he⟩,hi⟩:=st;exact⟨⟨old,k e (by simp) _ he⟩,hi.keep λo q=>k it (by simp) o q⟩
 item:=by
  intro X hP hw hK hc i pins s σ H E I hf st hg;subst hP hw hK;obtain⟨xs,x,hq,hx⟩:=hg;obtain⟨⟨old,he⟩,hi⟩:=st
  -- by what is walked
  have key:∀(its:List Ji),Vals xs its->(∀ys,AU X.K H a tt ys->ys=xs)->∀(fp0:List Addr) (St:Nat->Heap->Prop),Draws X.prog X.w X.A.in1 it fp0 its.toArray.size (λi v=>its.toArray[i]? =some v) St->e∉fp0->it∈fp0->St i s.heap →
    (∀h',St (i+1) h'->itAt tt h' it a (i+1)) →
    wpAny (model X.prog X.w) X.A (pyNext (.ref e)) (λr s1=> ∃u,r=some u/\wpAny (model X.prog X.w) X.A (L0 (.Tuple elts kk pos) (.ref e) u) (λ_ s2=> ∃x' H',Inv X pins σ H' s2/\RelV x' u/\(Ij X.K a tt).yld i H x' H' ∧
     ((∃old,IsEnum s2.heap e it (i+1:Nat) old)/\itAt tt s2.heap it a (i+1))/\∀b∈ [e,it],H' b=none) E s1) E s:=by
   intro its rv uniq fp0 St D hef hif hst hnext;obtain⟨u,hu,ru⟩:=rv.get hx
   have hlt:i<its.toArray.size:=by
    have:=(Jt.mp hu).1
    simpa using this
   have W:=WalksT.enumerateD D e hei hef hif;refine W.item i s _ _ hlt ⟨⟨old,he⟩,hst⟩ λTp vals h1 tk hPt hTsz hTup hMid hk=>⟨.ref Tp,rfl,?_⟩
   refine W.go elts kk pos i Tp { s with heap:=h1,toks:=tk } _ _ hMid λh2 hst2 hk2=> ?_
   obtain⟨t,x',hPx,hvals⟩:=hPt;subst hvals
   have hxe:x'=u:=by
    have h1':its.toArray[i]? =some x':=hPx
    have h2':its.toArray[i]? =some u:=by simpa using hu
    rw[h1']at h2';exact JW h2'
   subst hxe
   have hTw:=W.apart i Tp h1 hMid;obtain⟨oT,eT,rT⟩:=hTup
   have eT2:h2.get? Tp=some oT:=hk2 Tp oT hTw eT
   have kAll:∀b o,b∉ [e,it]->s.heap.get? b=some o->h2.get? b=some o:=λb o hb q=>hk2 b o hb (hk b o hb q)
   obtain⟨⟨old2,he2⟩,hs2⟩:=hst2
   have hit2:=hnext h2 hs2
   have there:∀b∈ [e,it],∃o,h2.get? b=some o:=λb hb=>by
    rcases Ju.mp hb with rfl | hb
    ·exact⟨_,he2⟩
    ·rw[JG.mp hb];obtain⟨o,q,_⟩:=hit2.obj;exact⟨o,q⟩
   have hn:H Tp=none:=I.hok.fresh hTsz
   have new:ObjOk X.prog X.w (upd H Tp (.tup [.int (i:Nat),x])) h2 Tp (.tup [.int (i:Nat),x]):=
    ⟨by show 2<=sizeLine;decide,[.int (i:Nat) t,x'],.cons ⟨t,rfl⟩ (.cons ru .nil),⟨oT,eT2,rT⟩⟩
   have I2:=I.IL (t':=tk) hf kAll there hTsz new;refine⟨.ref Tp,_,I2,rfl,⟨Tp,x,rfl,hn,rfl,λys hy=>by rw[uniq ys hy];exact hx⟩,⟨⟨old2,he2⟩,hit2⟩,λb hb=> ?_⟩
   have hbT:b≠Tp:=λz=>by
    obtain⟨o,q⟩:∃o,s.heap.get? b=some o:=by
     rcases Ju.mp hb with rfl | hb
     ·exact⟨_,he⟩
     ·rw[JG.mp hb];obtain⟨o,q,_⟩:=hi.obj;exact⟨o,q⟩
    exact absurd (JE (Jx q) hTsz) (by rw[z];exact JU _)
   rw[aG hbT];exact(hf b hb).1
  have hne:∀b∈ [e,it],a≠b:=λb hb z=>by
   have hb':=(hf b hb).1;rw[<-z]at hb'
   have hbs:=hf b hb
   cases tt with
   | true=>
    have hq':SqT X.K H a xs:=hq;rcases hq' with(q | ⟨o,q⟩) | ⟨o,its,n,q,_⟩
    ·rw[hb']at q;cases q
    ·rw[hb']at q;cases q
    ·rcases hbs.2.2.2.1 with z1 | z1
     ·exact I.ok.noex a o (I.ok.mod.kin a o q) (z▸z1)
     ·exact absurd (JE (Jx (I.ok.bs a o (I.ok.mod.kin a o q)).1) (z▸z1)) (JU _)
   | false=>
    have hq':SqL X.K H a xs:=hq;rcases hq' with(q | ⟨o,q⟩) | ⟨o,its,n,q,_⟩
    ·rw[hb']at q;cases q
    ·rw[hb']at q;cases q
    ·rcases hbs.2.2.2.1 with z1 | z1
     ·exact I.ok.noex a o (I.ok.mod.kin a o q) (z▸z1)
     ·exact absurd (JE (Jx (I.ok.bs a o (I.ok.mod.kin a o q)).1) (z▸z1)) (JU _)
  have hea:e≠a:=λz=>hne e (by simp) z.symm
  have hia:it≠a:=λz=>hne it (by simp) z.symm
  cases tt with
  | true=>
   have hq':SqT X.K H a xs:=hq;obtain⟨its,rv,p,hz⟩:=I.tuple hq'
   exact key its rv (λys hy=>I.Iy hy hq') _ _ (Enu.tupDraws (A:=X.A.in1) (I.ok.hd hc) it a (LD hia) its.toArray) (by simp[hei,hea]) (by simp) ⟨hi,p⟩ λh' z=>z.1
  | false=>
   have hq':SqL X.K H a xs:=hq;obtain⟨its,rv,p,hz⟩:=I.list hq';exact key its rv (λys hy=>I.IC hy hq') _ _ (Draws.list (A:=X.A.in1) (I.ok.hd hc) it a (LD hia) its.toArray) (by simp[hei,hea]) (by simp) ⟨hi,p.isList⟩ λh' z=>z.1
 done:=by
  intro X hP hw hK hc i pins s σ H E I hf st hg;subst hP hw hK;obtain⟨xs,hq,hx⟩:=hg;obtain⟨⟨old,he⟩,hi⟩:=st
  have fin:∀h',Heap.ExtBut it s.heap h'->(none:Option Ji)=none/\Inv X pins σ H { s with heap:=h' }:=λh' eb=>⟨rfl,I.Iz (t':=s.toks) hf λb o hb q=>eb b o (λz=>hb (by simp[z])) q⟩
  cases tt with
  | true=>
   have hq':SqT X.K H a xs:=hq;obtain⟨its,rv,p,hz⟩:=I.tuple hq'
   have hl:=rv.length
   have hnone:its.toArray[i]? =none:=by simp;omega
   have hT:s.TypeIs (.ref e) "enumerate":=⟨_,he,rfl⟩;unfold pyNext;refine Jn (wpAny_attempt (K1 (name:=JC "__next__") hT NM (LJ NM hT F.entry_enumerate_next ?_ (F.args_enumerate_next_1 _))))
   show wpAny (model X.prog X.w) _ (field (.ref e) 2 >>= _) _ _ _
   refine Jn (Lf he rfl (x:=.ref it) rfl ?_)
   refine Jn (Enu.tupStop (I.ok.hd hc) hi p hnone λh' x he' hx'=> ?_)
   obtain⟨o,ho,hcl⟩:=hx'
   exact Jn (wpAny_isInstance (T:="StopIteration") (b:=true) ⟨o,ho,hcl⟩ isSubtype_stop (Jz (fin h' he')))
  | false=>
   have hq':SqL X.K H a xs:=hq;obtain⟨its,rv,p,hz⟩:=I.list hq'
   have hl:=rv.length
   have hnone:its.toArray[i]? =none:=by simp;omega
   exact wpAny_pyNext_enum_end (I.ok.hd hc) he hi p.isList hnone fin
 self:=λ_ _ _ _ _ st h=>by
  obtain⟨⟨old,he⟩,_⟩:=st;exact Pb he h
section
variable {X:Cx}{elts:List Expr}{kk:Nat}{tpos:Pos}
theorem nS:Kc "enumerate" =some (.type "enumerate"):=by decide+kernel
def iEnu (K:Jh)(tl:TA):TI:=λσ H R=>tl σ H λvs H1=> ∃a tt,vs= [.ref a]/\(∃xs,AU K H1 a tt xs)/\R (Ij K a tt) H1
theorem BQ {l:Expr}{tl:TA}{p pos:Pos}(hg:Gl X "enumerate")(hm:X.mg "enumerate" =none)(hl:PA X [l] tl)(hs:Jy [l] X.env= [(false,eval l X.env)]:=by rfl):PI X (.Tuple elts kk tpos) (.Call (.Name "enumerate" p) [l] [] pos) (iEnu X.K tl):=by
 intro pins s σ H R I h;refine Call_ (gD I hg hm nS (Kl (bK (hl pos pins s σ H _ I h) λus s1 ⟨vs,H1,I1,r1,q1⟩=> ?_) hs rfl))
 obtain⟨a,tt,e,⟨xs,hq⟩,q⟩:=q1;subst e;obtain⟨u,rfl,ru⟩:=mz r1;cases ru
 have fin:∀h',IsEnum h' (s1.heap.objs.size+1) s1.heap.objs.size 0 .none->itAt tt h' s1.heap.objs.size a 0->h'.objs.size=s1.heap.objs.size+2->(∀b o,s1.heap.get? b=some o->h'.get? b=some o) →
   wpAny (model X.prog X.w) X.A (pyIter (.ref (s1.heap.objs.size+1))) (Ii X pins σ (.Tuple elts kk tpos) R) X.xe { s1 with heap:=h' }:=λh' he hi hsz hk=>by
  refine Pb he ?_
  have I2:Inv X pins σ H1 { s1 with heap:=h' }:=I1.kept (t':=s1.toks) hk
  refine⟨s1.heap.objs.size+1,[s1.heap.objs.size+1,s1.heap.objs.size],_,_,H1,rfl,I2,xj tt a (s1.heap.objs.size+1) s1.heap.objs.size (Nat.succ_ne_self _),⟨⟨_,he⟩,hi⟩,λb hb=> ?_,q⟩
  rcases Ju.mp hb with rfl | hb
  ·exact I1.IE (by omega) (I1.hok.fresh (by omega))
  ·rw[JG.mp hb];exact I1.IE (Jw _) (I1.hok.fresh (Jw _))
 cases tt with
 | true=>
  have hq':SqT X.K H1 a xs:=hq;obtain⟨its,rv,pl,hz⟩:=I1.tuple hq'
  exact Enu.callT pl λh' he hi hsz hk=>fin h' he hi hsz hk
 | false=>
  have hq':SqL X.K H1 a xs:=hq;obtain⟨its,rv,pl,hz⟩:=I1.list hq';exact call_enumerate_list pl.isList λh' he hi hsz hk=>fin h' he hi hsz hk
end
end L2
namespace Tr
open PySem PySem.Spec PyProof.Rows L2
section
variable {X:Cx}{a:Expr}{fa:En->Rs T}{fs:En->Rs (List T)}{p pos:Pos}
def iS (f:En->Rs T)(Z:En):Rs (List T):=do
 let x <-f Z
 match x with
 | .lst l=> .ok l
 | .tup l=> .ok l
 | _=> .bad
theorem D5 {tg:Expr}(ha:b6 X a fa):yg X tg a (iS fa):=by
 intro pins s σ H R I ⟨Z,O,E,h⟩;unfold iS at h
 cases q:fa Z with
 | bad=>rw[q]at h;exact h.elim
 | err c=>exact vF ha pins s σ H R I ⟨Z,O,E,by unfold iL;rw[q]at h ⊢;exact h⟩
 | ok x=>
  rw[q,az]at h
  cases x with
  | lst l=>exact vF ha pins s σ H R I ⟨Z,O,E,by unfold iL;rw[q];exact h⟩
  | tup l=>exact D2 ha pins s σ H R I ⟨Z,O,E,by unfold iT;rw[q];exact h⟩
  | _=>exact h.elim
def cF:Nat->List T->List T
 | _,[] => []
 | n,t::r=> .tup [.int n,t] ::cF (n+1) r
theorem pF:∀(l:List T) (n i:Nat),(cF n l)[i]? =(l[i]?).map λt=>T.tup [.int ((n+i:Nat):Int),t]
 | [],n,i=>by simp[cF]
 | t::l,n,0=>by simp[cF]
 | t::l,n,i+1=>by
  rw[cF,KA,pF l (n+1) i,KA]
  congr 2
  funext t
  congr 4
  omega
theorem pE:∀(l:List T) (n:Nat),(cF n l).length=l.length
 | [],n=>rfl
 | t::l,n=>by rw[cF,Jp,Jp,pE l]
def iE (f:En->Rs (List T))(Z:En):Rs (List T):=do
 let xs <-f Z
 match xs with
 | [x] =>match x.items with
  | some l=> .ok (cF 0 l)
  | none=> .bad
 | _=> .bad
theorem Bx {elts:List Expr}{kk:Nat}{tpos:Pos}(hm:X.mg "enumerate" =none)(ha:og X [a] fs)(hg:Gl X "enumerate":=by rfl)(hs:Jy [a] X.env= [(false,eval a X.env)]:=by rfl) :
  yg X (.Tuple elts kk tpos) (.Call (.Name "enumerate" p) [a] [] pos) (iE fs):=PI.imp (BQ hg hm ha hs) λσ H R hh_=>by
 obtain⟨Z,O,E,h⟩:=hh_;obtain⟨Z1,O1,E1,h1⟩:=eh E h;refine⟨Z1,O1,E1,Post.mono h1 λts H1 s1 q vs r=> ?_⟩
 obtain⟨t',r',s',E',q'⟩:=q vs r
 split at q'
 ·rename_i x0
  obtain⟨v,rfl,rv⟩:=r'.one
  split at q'
  ·rename_i l hl
   have main:∀(aa:Addr) (tt:Bool) (ws:List V),v= .ref aa->¬ O aa->Reps X.K O H1 l ws->AU X.K H1 aa tt ws->(∀P Hc,SameO P H1 Hc->¬ P aa->AU X.K Hc aa tt ws)->¬ Nw X.K H1 aa →
     ∃a tt,[v] = [V.ref a]/\(∃xs,AU X.K H1 a tt xs)/\R (Ij X.K a tt) H1:=λaa tt ws e n z sq mv nn=>by
    refine⟨aa,tt,by rw[e],⟨ws,sq⟩,q' H1 (Same.refl H1) _ λP O' hP hO i Hc hsm htr=> ?_⟩
    have hnP:¬ P aa:=λy=>(hP aa y).elim n nn
    have sqc:=mv P Hc hsm hnP;refine⟨λhi=>⟨ws,sqc,by rw[<-z.length,<-pE l 0];exact hi⟩,λt ht=> ?_⟩
    rw[pF]at ht
    cases e1:l[i]? with
    | none=>rw[e1]at ht;cases ht
    | some t0=>
     rw[e1]at ht;cases ht;obtain⟨v0,f1,f2⟩:=z.get e1;refine⟨⟨ws,v0,sqc,f1⟩,λx Hc' y=> ?_⟩
     obtain⟨pp,vv,e2,hpn,e3,hy⟩:=y
     have:=hy ws sqc;rw[f1]at this;cases this;subst e2 e3;refine⟨a9 hpn _,gq hpn (λzz=> ?_) (Reps.FS (by simpa using Rep.GM _) (Reps.FS (f2.move hP hO hsm) Reps.Gc))⟩
     obtain⟨o,w⟩:=htr pp zz;rw[hpn]at w;cases w
   cases x0 with
   | tup m=>
    cases hl;obtain⟨aa,ws,e,n,qq,z⟩:=Rep.Fk.mp rv
    exact main aa true ws e n z (show SqT X.K H1 aa ws from SqT.of qq) (λP Hc hsm hn=>show SqT X.K Hc aa ws from SqT.of (hsm _ _ qq hn)) λw=>by rw[w.1]at qq;cases qq
   | lst m=>
    cases hl;obtain⟨aa,ws,e,n,qq,z⟩:=Rep.Do.mp rv
    exact main aa false ws e n z (show SqL X.K H1 aa ws from SqL.of qq) (λP Hc hsm hn=>show SqL X.K Hc aa ws from SqL.of (hsm _ _ qq hn)) λw=>by rw[w.1]at qq;cases qq
   | scr m=>
    cases hl;unfold Rep at rv;obtain⟨aa,e,n,qq⟩:=rv
    exact main aa false _ e n Reps.ints (show SqL X.K H1 aa _ from qq) (λP Hc hsm hn=>show SqL X.K Hc aa _ from Tr.SqL.keep hsm hn qq) (Tr.SqL.nn qq)
   | _=>cases hl
  ·exact q'.elim
 ·exact q'.elim
end
end Tr
namespace Tm
open PySem PyProof.Rows
theorem kI:fillsNumberSlot (.type "tuple") "mul" =pure false:=
 PySem.fillsNumberSlot_seq (id:="tuple.__mul__") (r:=some (.builtin "tuple.__rmul__")) Nq.lookup (by decide+kernel) O5.lookup (by decide+kernel)
theorem qi:seqRepeat? (.type "tuple")=pure (some (.builtin "tuple.__mul__")):=by
 unfold seqRepeat?;rw[Pv (T:="tuple") (name:="__mul__") (id:="tuple.__mul__") Nq.lookup (by decide+kernel),Pv (T:="tuple") (name:="__rmul__") (id:="tuple.__rmul__") O5.lookup (by decide+kernel)]
 rfl
theorem uj (a:Int)(t:Tok)(l:Addr)(items:Array Ji)(n:Nat)(dd:Option Addr)(sl:Array (Option Ji)) :
  Meets (Builtin.«int.__rmul__» ⟨[.int a t,.ref l],[]⟩) (λ_ R s=>s.heap.get? l=some { cls:=.type "tuple",dict:=dd,data:=.seq items n,slots:=sl }/\R (.ok (.ret Value.notImplemented)) s):=
 .of_wp λprog w A R s h=>by obtain⟨hp,g,d,tk,os⟩:=s;obtain⟨hl,h⟩:=h;wp_walk;exact⟨_,rfl,h⟩
open AutoSeq1 (wpAny_loadPart')
theorem zp (l:Addr)(items:Array Ji)(n:Nat)(dd:Option Addr)(sl:Array (Option Ji))(x:Int)(u:Tok)(h1:1<x)(h2:x<2 ^ 31)(hne:items.isEmpty=false)(hz:items.size*x.toNat<=sizeLine)
  (hz2:(M6 (λa b=>a++b) #[] (JH x.toNat items)).size<=sizeLine) :
  Meets (Builtin.«tuple.__mul__» ⟨[.ref l,.int x u],[]⟩) (λ_ R s=>s.heap.get? l=some { cls:=.type "tuple",dict:=dd,data:=.seq items n,slots:=sl } ∧
   R (.ok (.ret (JQ s.heap.objs.size))) { s with heap:=s.heap.push { cls:=Mx "tuple",data:=Data.seq (M6 (λa b=>a++b) #[] (JH x.toNat items)) } }):=
 .of_wp λprog w A R s h=>by
  obtain⟨hp,g,d,tk,os⟩:=s;obtain⟨hl,h⟩:=h
  have hT:P9 hp l items:=⟨_,hl,rfl,n,rfl⟩
  have hx:((items.size:Nat):Int)*x=((items.size*x.toNat:Nat):Int):=by
   have e:x=((x.toNat:Nat):Int):=by omega
   rw[Int.natCast_mul,<-e]
  wp_walk using Lm hl
  rw[if_neg (by simp;omega)]
  refine Jn (OR (s:=⟨hp,g,d,tk,os⟩) hT ?_)
  dsimp only
  rw[if_neg (by rw[hne];simp;omega),if_neg (by rw[hne];simp;omega),hx,if_neg (by have:(sizeLine:Nat)<=1000000000:=(by decide);omega),if_neg (by unfold Builtin.Tuple.tupleTooMany;rw[decide_eq_true_iff];omega)]
  refine Jn (m:=KW _) (KQ ?_ hz2)
  exact Jz ⟨_,rfl,h⟩
section
variable {prog:JK}{w:Kn}{A:J0}{E:Ji->Jl->Prop}{s:Jl}
theorem mul_tuple {t:Addr}{vs:List Ji}{k:Int}{tk:Tok}{Q:Ji->Jl->Prop}(ht:P9 s.heap t vs.toArray)(h1:1<k)(h2:k<2 ^ 31)(hv:vs≠ [])(hz:vs.length*k.toNat<=sizeLine)
  (h:Q (.ref s.heap.objs.size) { s with heap:=s.heap.push { cls:=.type "tuple",data:=.seq (JH k.toNat vs).flatten.toArray } }) :
  wpAny (model prog w) A (KY .Mult (.ref t) (.int k tk)) Q E s:=by
 obtain⟨⟨cls,dd,data,sl⟩,ho,hc,n,hd⟩:=id ht;simp only at hc hd;subst hc hd
 have e:M6 (λa b=>a++b) #[] (JH k.toNat vs.toArray)=(JH k.toNat vs).flatten.toArray:=by
  have q:=L2.foldl_rep vs k.toNat []
  simpa using q
 refine MY (T:="tuple") (U:="int") (by decide) ⟨_,ho,rfl⟩ (λs'=>N5 s' k tk) kI PP MB qi Pt.lookup
  (Md MB (N5 s k tk) Pu (OZ _ _) (uj k tk t vs.toArray n dd sl)
   ⟨ho,rfl,⟨_,ho,rfl⟩,Md Nq ⟨_,ho,rfl⟩ F.entry_tuple_mul (F.args_tuple_mul_2 _ _) (zp t vs.toArray n dd sl k tk h1 h2 (by simpa using hv) (by simpa using hz) (by rw[e,JB,L2.len_rep,Pj];exact hz)) ⟨ho,?_⟩⟩)
 rw[e];exact h
end
end Tm
namespace Tr
open PySem PySem.Spec PyProof.Rows L2
section
variable {X:Cx}
def b8 (x y:T):Rs T:=match x,y with
 | .tup l,.int k=>if 1<k/\k<2 ^ 31/\l≠ []/\l.length*k.toNat<=sizeLine then .ok (.tup (JH k.toNat l).flatten)else .bad
 | x,y=>uF x y
instance (l:List T):Decidable (l≠ []):=by cases l <;> simp <;> infer_instance
theorem di:OpT X (KY .Mult) b8:=by
 intro pins s σ H O x y vx vy ux uy Q I hf rx ry r1 r2 hp;unfold b8 at hp
 split at hp
 ·rename_i l k
  split at hp
  ·rename_i h
   obtain⟨a,vs,e1,n1,q1,z1⟩:=Rep.Fk.mp rx;subst e1;cases Rep.AC.mp ry;cases r1;obtain⟨tk,rfl⟩:=r2;obtain⟨its,rv,pl,hz⟩:=I.tuple (SqT.of q1)
   have hl1:=z1.length
   have hl2:=rv.length
   have hne:its≠ []:=λz=>h.2.2.1 (List.eq_nil_of_length_eq_zero (by rw[hl1,hl2,z];rfl))
   refine Tm.mul_tuple pl h.1 h.2.1 hne (by rw[<-hl2,<-hl1];exact h.2.2.2) ?_
   have hn:=I.hok.fresh (Jw _);refine⟨.ref _,_,I.laid (t':=s.toks) (o:=.tup (JH k.toNat vs).flatten) (λb ob q=>Jr _ q) (Jw _) ?_,rfl,hp _ (a9 hn _) _ (gq hn (hf _ hn) (z1.rep _))⟩
   refine⟨?_,_,rv.rep k.toNat,PN _ _⟩
   rw[len_rep,Pj,<-hl1];exact h.2.2.2
  ·exact hp.elim
 ·exact Ez pins s σ H O _ _ vx vy ux uy Q I hf rx ry r1 r2 hp
end
def Hd (outer:List (Str×LA))(N:List Str)(names:List (Str×LA))(N':List Str)(src:List (Option Nat)):Bool:=
 names.all (λy=>y.2 != .cell||names.lookup y.1 == some .cell)&&names.all (λy=>y.2 != .local||names.lookup y.1 == some .local)&&src.length == N'.length&&
 (J9 N'.length).all (λj=>match src[j]? with
  | some (some i)=>match N'[j]? with
   | some x=>N[i]? == some x&&names.lookup x == some .free
   | none=>true
  | _=>true)&&
 names.all (λy=>y.2 != .free||(outer.lookup y.1 == some .cell||outer.lookup y.1 == some .free))
theorem LcScope.by {X:Cx}{scope:Ma}{N N':List Str}{src:List (Option Nat)}{names:List (Str×LA)}(hN:X.N=N)(hs:X.env.scope.names=names)(hk:scope.kind= .function)(h:Hd names N scope.names N' src=true):LcScope X scope N' src:=by
 unfold Hd at h;simp only[Jj]at h;obtain⟨⟨⟨⟨h1,h2⟩,h3⟩,h4⟩,h5⟩:=h
 have a1:=JP.mp h1
 have a2:=JP.mp h2
 have a4:=JP.mp h4
 have a5:=JP.mp h5;refine⟨hk,λy hy hl=>by have:=a1 y hy;rw[hl]at this;simpa using this,λy hy hl=> ?_,by simpa using h3,λj i x e1 e2=> ?_,λx hx=> ?_⟩
 ·have:=a2 y hy
  rw[hl]at this
  simpa using this
 ·have hj:j<N'.length:=(Jt.mp e2).1
  have:=a4 j (KS.mpr hj);rw[e1]at this;simp only[e2]at this;rw[Jj]at this;rw[hN];exact⟨by simpa using this.1,by simpa using this.2⟩
 ·have:=a5 _ hx
  simp only[bne_self_eq_false,OB,NN]at this
  show X.env.scope.names.lookup x=_\/X.env.scope.names.lookup x=_
  rw[hs];rcases this with z | z
  ·exact .inl (by simpa using z)
  ·exact .inr (by simpa using z)
def bf:Expr->Bool
 | .Starred .. =>false
 | _=>true
def ba:List Expr->Bool
 | [] =>true
 | e::r=>bf e&&ba r
theorem a8 {e:Expr}{es:List Expr}{env:Env}(h:bf e=true):Jy (e::es) env=(false,eval e env)::Jy es env:=by
 cases e <;> first | rfl | cases h
theorem dH {pos:Pos}{env:Env}:∀{es:List Expr},ba es=true->(backTo pos (Jy es env)).any (·.1)=false
 | [],_=>rfl
 | e::r,h=>by
  unfold ba at h;rw[Jj]at h;rw[a8 h.1]
  have ih:=dH (pos:=pos) (env:=env) h.2
  show(false||(backTo pos (Jy r env)).any (·.1))=false
  rw[ih];rfl
section
variable {X:Cx}{a b e:Expr}{es:List Expr}{fa:En->Rs T}{fs:En->Rs (List T)}{pos p p2:Pos}{x:Str}
theorem qa_c {f:En->Rs T}{g:En->Rs (List T)}(he:b6 X e f)(hr:og X es g)(hn:bf e=true:=by rfl):og X (e::es) (ae f g):=BA he hr (a8 hn)
theorem q_cB {id:String}{g:List T->Rs T}(hc:CallT X (.builtin id) g)(hm:X.mg x=none)(hv:Kc x=some (.builtin id))(ha:og X (e::es) fs)(hn:ba (e::es)=true:=by rfl)(hg:Gl X x:=by rfl)(h1:x≠ "__name__":=by decide)(h2:eF x:=by decide) :
  b6 X (.Call (.Name x p) (e::es) [] pos) (cl g fs):=by
 unfold ba at hn;rw[Jj]at hn;exact BF hc hm hv ha hg h1 h2 (a8 hn.1) (dH hn.2)
theorem q_cT {Ty:String}{g:List T->Rs T}(hc:CallT X (.type Ty) g)(hm:X.mg x=none)(hv:Kc x=some (.type Ty))(ha:og X (e::es) fs)(hn:ba (e::es)=true:=by rfl)(hg:Gl X x:=by rfl)(h1:x≠ "__name__":=by decide)(h2:eF x:=by decide) :
  b6 X (.Call (.Name x p) (e::es) [] pos) (cl g fs):=by
 unfold ba at hn;rw[Jj]at hn;exact yQ hc hm hv ha hg h1 h2 (a8 hn.1) (dH hn.2)
theorem q_c {n k:Nat}{f:Addr}{fd:Ki}{ps:List Str}{g:List T->Rs T}(F:AX X.prog X.w X.K X.mg X.base k f fd ps n g)(hr:Room k X.A)(hm:X.mg x=some (.ref f))(hk:K9 X.K (.ref f)=true)(hb:Binds X.K fd ps [])
  (hl:∀Z ts,fs Z= .ok ts->ts.length=n) (ha:og X (e::es) fs) (hps:ps.length=n:=by rfl) (hn:ba (e::es)=true:=by rfl) (hg:Gl X x:=by rfl) (h2:eF x:=by decide):b6 X (.Call (.Name x p) (e::es) [] pos) (cl g fs):=by
 unfold ba at hn;rw[Jj]at hn;exact Ed F hr hm hk hb hps hl ha hg h2 (a8 hn.1) (dH hn.2)
theorem q_is {tn:Str}{Ty:String}(hm:X.mg "isinstance" =none)(hmt:X.mg tn=none)(hv:Kc tn=some (.type Ty))(ha:b6 X a fa)(hn:bf a=true:=by rfl)(hg:Gl X "isinstance":=by rfl)(hgt:Gl X tn:=by rfl)
  (h1:tn≠ "__name__":=by decide) (h2:eF tn:=by decide):b6 X (.Call (.Name "isinstance" p) [a,.Name tn p2] [] pos) (o1 (Cg Ty) fa):=
 GH hm hmt hv ha hg hgt h1 h2 (a8 hn) (dH rfl) (a8 rfl)
end
theorem xb (Z:En)(ts:List T)(h:ai Z= .ok ts):ts.length=0:=by cases h;rfl
theorem w9 {n:Nat}{f:En->Rs T}{g:En->Rs (List T)}(hg:∀Z ts,g Z= .ok ts->ts.length=n)(Z:En)(ts:List T)(h:ae f g Z= .ok ts):ts.length=n+1:=by
 unfold ae at h
 cases q:f Z with
 | bad=>rw[q]at h;cases h
 | err c=>rw[q]at h;cases h
 | ok t=>
  rw[q,az]at h
  cases q2:g Z with
  | bad=>rw[q2]at h;cases h
  | err c=>rw[q2]at h;cases h
  | ok r=>
   rw[q2,az]at h;cases h;rw[Jp,hg Z r q2]
theorem fx {k:Nat}{A:J0}(h:Room k A):A.units+60<cLine:=by have:=h.un;omega
theorem Cj {k:Nat}{A:J0}(h:Room k A):A.units+61<cLine:=by have:=h.un;omega
structure Fn (K:Jh)(mg:Str->Option Ji)(x:Str)(st:Stmt)(ps:List Str)(f:Addr)(fd:Ki):Prop where
 fn:L2.Fun K x x st f fd
 bd:Binds K fd ps []
 mg:mg x=some (.ref f)
def val (n m:Nat)(F:En->Rs Fl)(ts:List T):Rs T:=if ts.length=n then bp F (aO m ts)else .bad
theorem DA {n m:Nat}{F:En->Rs Fl}{ts:List T}{t:T}(h:val n m F ts= .ok t):bp F (aO m ts)= .ok t:=by
 unfold val at h
 split at h
 ·exact h
 ·cases h
theorem sp_script {K:Jh}{H:Hp}{a:Addr}{ns:List Int}{g:List T->Rs T}{E:XK}(hS:SqL K H a (ns.map V.int))(h:g [.scr ns] = .ok (.bl true)):spP K 1 g [.ref a] H (λv _=>v= .bl true) E:=by
 refine⟨[.scr ns],λ_=>False,Reps.FS ?_ Reps.Gc,λ_ z=>z.elim,rfl,?_⟩
 ·unfold Rep;exact⟨a,rfl,λz=>z,hS⟩
 ·rw[h];exact λv H' _ r=>Rep.FM.mp r
theorem rR {α:Type}{l:List α}{i:Nat}{z:α}(h:l[i]? =some z):l.set i z=l:=by
 obtain⟨hi,rfl⟩:=Jt.mp h
 exact List.set_getElem_self hi
def Mn.set (M:Mn)(i:Nat)(m:Ow):Mn:=λj=>if j=i then m else M j
theorem Mn.Im {M:Mn}{i:Nat}{m:Ow}{a:Addr}(h:(M.set i m).u a):m a\/M.u a:=by
 obtain⟨j,h⟩:=h;unfold Mn.set at h
 by_cases z:j=i
 ·rw[if_pos z]at h;exact .inl h
 ·rw[if_neg z]at h;exact .inr ⟨j,h⟩
theorem Mn.Ir {M:Mn}{i:Nat}{m:Ow}:M.set i m i=m:=by unfold Mn.set;rw[if_pos rfl]
theorem Mn.IA {M:Mn}{i j:Nat}{m:Ow}(h:j≠i):M.set i m j=M j:=by unfold Mn.set;rw[if_neg h]
theorem RowsR.move {K:Jh}{O O' P:Ow}{H H':Hp}(hP:∀a,P a->O a\/Nw K H a)(hO:∀a,O' a->O a\/Nw K H a)(h:SameO P H H'):∀{rs:List (List T×List T)} {as:List Addr},(∀b∈as,¬P b)->RowsR K O H rs as->RowsR K O' H' rs as
 | [],_,_,r=>r
 | _::_,_,hb,⟨b,bs,kvs,e1,e2,e3,e4,e5⟩=>by
  subst e1;exact⟨b,bs,kvs,rfl,h _ _ e2 (hb b Jq),e3,e4.move hP hO h,e5.move hP hO h λc hc=>hb c (Jk _ hc)⟩
theorem LsR.move {K:Jh}{O O' P:Ow}{H H':Hp}(hP:∀a,P a->O a\/Nw K H a)(hO:∀a,O' a->O a\/Nw K H a)(h:SameO P H H'):∀{rs:List (List T)} {as:List Addr},(∀b∈as,¬P b)->LsR K O H rs as->LsR K O' H' rs as
 | [],_,_,r=>r
 | _::_,_,hb,⟨b,bs,vs,e1,e2,e4,e5⟩=>by
  subst e1;exact⟨b,bs,vs,rfl,h _ _ e2 (hb b Jq),e4.move hP hO h,e5.move hP hO h λc hc=>hb c (Jk _ hc)⟩
theorem ORep.move {K:Jh}{O O' P M:Ow}{H H':Hp}{o:OT}{v:V}(hP:∀a,P a->O a\/Nw K H a)(hO:∀a,O' a->O a\/Nw K H a)(h:SameO P H H')(hM:∀a,M a->¬ P a)(r:ORep K O M H o v):ORep K O' M H' o v:=by
 cases o with
 | lst l=>obtain⟨a,vs,e1,e2,e3,e4⟩:=r;exact⟨a,vs,e1,e2,h _ _ e3 (hM a ((e2 a).mpr rfl)),e4.move hP hO h⟩
 | dct ks ts=>obtain⟨a,kvs,e1,e2,e3,e4,e5⟩:=r;exact⟨a,kvs,e1,e2,h _ _ e3 (hM a ((e2 a).mpr rfl)),e4,e5.move hP hO h⟩
 | dd ks rows=>
  obtain⟨a,kvs,as,e1,e2,e3,e4,e5,e6,e7,e8⟩:=r
  exact⟨a,kvs,as,e1,e2,e3,e4,h _ _ e5 (hM a ((e2 a).mpr (.inl rfl))),e6,e7,e8.move hP hO h λb hb=>hM b ((e2 b).mpr (.inr hb))⟩
 | ob C ns ls=>
  obtain⟨a,dx,as,e1,e2,e3,e4,e5,e6,e7,e8⟩:=r;exact⟨a,dx,as,e1,e2,e3,h _ _ e4 (hM a ((e2 a).mpr (.inl rfl))),h _ _ e5 (hM dx ((e2 dx).mpr (.inr (.inl rfl)))),e6,e7,e8.move hP hO h λb hb=>hM b ((e2 b).mpr (.inr (.inr hb)))⟩
theorem RowsR.mtb {K:Jh}{O:Ow}{H:Hp}:∀{rs:List (List T×List T)} {as:List Addr},RowsR K O H rs as->∀b∈as,∃kvs,H b=some (.dT kvs)
 | [],_,r,b,hb=>by unfold RowsR at r;subst r;simp at hb
 | _::_,_,⟨b0,bs,kvs,e1,e2,e3,e4,e5⟩,b,hb=>by
  subst e1;rcases Ju.mp hb with rfl | hb
  ·exact⟨kvs,e2⟩
  ·exact e5.mtb b hb
theorem LsR.mtb {K:Jh}{O:Ow}{H:Hp}:∀{rs:List (List T)} {as:List Addr},LsR K O H rs as->∀b∈as,∃vs,H b=some (.lst vs)
 | [],_,r,b,hb=>by unfold LsR at r;subst r;simp at hb
 | _::_,_,⟨b0,bs,kvs,e1,e2,e4,e5⟩,b,hb=>by
  subst e1;rcases Ju.mp hb with rfl | hb
  ·exact⟨kvs,e2⟩
  ·exact e5.mtb b hb
def LO (H:Hp)(a:Addr):Prop:=(∃vs,H a=some (.lst vs))\/∃o,H a=some o/\isO o=true
def OT.isD:OT->Bool
 | .lst _=>false
 | .ob _ _ _=>false
 | _=>true
theorem ORep.kind {K:Jh}{O M:Ow}{H:Hp}{o:OT}{v:V}(r:ORep K O M H o v):∀a,M a->if o.isD then ∃kvs,H a=some (.dT kvs)else LO H a:=λa z=>by
 cases o with
 | lst l=>obtain⟨b,vs,e1,e2,e3,e4⟩:=r;cases (e2 a).mp z;exact .inl ⟨vs,e3⟩
 | dct ks ts=>obtain⟨b,kvs,e1,e2,e3,e4,e5⟩:=r;cases (e2 a).mp z;exact⟨kvs,e3⟩
 | dd ks rows=>
  obtain⟨b,kvs,as,e1,e2,e3,e4,e5,e6,e7,e8⟩:=r
  rcases(e2 a).mp z with z | z
  ·cases z;exact⟨kvs,e5⟩
  ·exact e8.mtb a z
 | ob C ns ls=>
  obtain⟨b,dx,as,e1,e2,e3,e4,e5,e6,e7,e8⟩:=r
  rcases(e2 a).mp z with z | z | z
  ·cases z;exact .inr ⟨_,e4,rfl⟩
  ·cases z;exact .inr ⟨_,e5,rfl⟩
  ·exact .inl (e8.mtb a z)
theorem ORep.mtb {K:Jh}{O M:Ow}{H:Hp}{o:OT}{v:V}(r:ORep K O M H o v)(a:Addr)(z:M a):Mtb H a:=by
 have:=r.kind a z
 split at this
 ·exact .inr (.inl this)
 ·exact this.imp_right .inr
theorem rZ {K:Jh}{O:Ow}{H:Hp}:∀{rs:List (List T×List T)} {as:List Addr},(∀b∈as,¬O b)->RowsR K O H rs as->Reps K O H (rs.map λr=>T.dct r.1 r.2) (as.map V.ref)
 | [],_,_,r=>by unfold RowsR at r;subst r;exact Reps.Gc
 | _::_,_,hn,⟨b,bs,kvs,e1,e2,e3,e4,e5⟩=>by
  subst e1;exact Reps.FS (Rep.Il.mpr ⟨b,kvs,rfl,hn b Jq,.inl e2,e3,e4⟩) (rZ (λc hc=>hn c (Jk _ hc)) e5)
theorem RowsR.less {K:Jh}{O O':Ow}{H:Hp}(sub:∀a,O' a->O a):∀{rs:List (List T×List T)} {as:List Addr},RowsR K O H rs as->RowsR K O' H rs as
 | [],_,r=>r
 | _::_,_,⟨b,bs,kvs,e1,e2,e3,e4,e5⟩=>⟨b,bs,kvs,e1,e2,e3,e4.less sub,e5.less sub⟩
theorem LsR.less {K:Jh}{O O':Ow}{H:Hp}(sub:∀a,O' a->O a):∀{rs:List (List T)} {as:List Addr},LsR K O H rs as->LsR K O' H rs as
 | [],_,r=>r
 | _::_,_,⟨b,bs,kvs,e1,e2,e4,e5⟩=>⟨b,bs,kvs,e1,e2,e4.less sub,e5.less sub⟩
theorem LsR.rep {K:Jh}{O:Ow}{H:Hp}:∀{rs:List (List T)} {as:List Addr},(∀b∈as,¬O b)->LsR K O H rs as->Reps K O H (rs.map T.lst) (as.map V.ref)
 | [],_,_,r=>by unfold LsR at r;subst r;exact Reps.Gc
 | _::_,_,hn,⟨b,bs,kvs,e1,e2,e4,e5⟩=>by
  subst e1;exact Reps.FS (Rep.Do.mpr ⟨b,kvs,rfl,hn b Jq,e2,e4⟩) (LsR.rep (λc hc=>hn c (Jk _ hc)) e5)
theorem l8 {α β:Type}:∀{l:List α} {m:List β},l.length=m.length->(l.zip m).map (·.1)=l
 | [],[],_=>rfl
 | a::l,b::m,h=>by
  have h':l.length=m.length:=by simpa using h
  show a::(l.zip m).map (·.1)=_
  rw[l8 h']
theorem vp {α β:Type}:∀{l:List α} {m:List β},l.length=m.length->(l.zip m).map (·.2)=m
 | [],[],_=>rfl
 | a::l,b::m,h=>by
  have h':l.length=m.length:=by simpa using h
  show b::(l.zip m).map (·.2)=_
  rw[vp h']
theorem ORep.rep {K:Jh}{O O' M:Ow}{H:Hp}{o:OT}{v:V}(sub:∀a,O' a->O a)(hn:∀a,M a->¬ O' a)(r:ORep K O M H o v):Rep K O' H o.view v:=by
 cases o with
 | lst l=>obtain⟨a,vs,e1,e2,e3,e4⟩:=r;exact Rep.Do.mpr ⟨a,vs,e1,hn a ((e2 a).mpr rfl),e3,e4.less sub⟩
 | dct ks ts=>obtain⟨a,kvs,e1,e2,e3,e4,e5⟩:=r;exact Rep.Il.mpr ⟨a,kvs,e1,hn a ((e2 a).mpr rfl),.inl e3,e4,e5.less sub⟩
 | dd ks rows=>
  obtain⟨a,kvs,as,e1,e2,e3,e4,e5,e6,e7,e8⟩:=r;refine Rep.Il.mpr ⟨a,kvs,e1,hn a ((e2 a).mpr (.inl rfl)),.inl e5,e6,?_⟩
  rw[e7]
  exact rZ (λb hb=>hn b ((e2 b).mpr (.inr hb))) (e8.less sub)
 | ob C ns ls=>
  obtain⟨a,dx,as,e1,e2,e3,e4,e5,e6,e7,e8⟩:=r
  have hl:ns.length=(as.map V.ref).length:=by rw[Jo];exact e6
  refine Rep.IB.mpr ⟨a,dx,_,e1,hn a ((e2 a).mpr (.inl rfl)),e4,l8 hl,?_⟩
  rw[vp hl];exact(e8.less sub).rep λb hb=>hn b ((e2 b).mpr (.inr (.inr hb)))
section
variable {K:Jh}{B:Ow}{M:Mn}{H H':Hp}{Z:En}{σ:L2.St}{i:Nat}{o o':OT}{v:V}{m:Ow}
theorem Ev.new (E:Ev K B M H Z σ)(hl:i<Z.length)(hm:∀a,m a->Nw K H a)(s:Same H H')(r:ORep K (OO B (M.set i m)) m H' o v) :
  Ev K B (M.set i m) H' (Z.set i (.ow o)) (σ.set i (some v))/\∀a,(M.set i m).u a->M.u a\/Nw K H a:=by
 have hls:i<σ.length:=by rw[<-E.env.len];exact hl
 have sub:∀a,(M.set i m).u a->M.u a\/Nw K H a:=λa z=>(Mn.Im z).elim (λw=> .inr (hm a w)) .inl
 have subO:∀a,OO B (M.set i m) a->OO B M a\/Nw K H a:=λa z=>z.elim (λw=> .inl (.inl w)) λw=>(sub a w).elim (λy=> .inl (.inr y)) .inr
 have dM:∀a,Nw K H a->¬ OO B M a:=λa w z=>by
  obtain⟨o,e⟩:=(E.env.trk a z).some;rw[w.1]at e;cases e
 refine⟨⟨⟨by rw[Km,Km];exact E.env.len,λj t e=> ?_,λj o' e=> ?_,λj a z=> .inr ⟨j,z⟩,λj k a z1 z2=> ?_,λa z=> ?_⟩,λa z=> ?_⟩,sub⟩
 ·by_cases hj:i=j
  ·subst hj;rw[JI hl]at e;cases e
  ·rw[JD hj]at e
   obtain⟨w,e1,e2⟩:=E.env.val j t e;exact⟨w,by rw[JD hj];exact e1,(e2.more subO).same s⟩
 ·by_cases hj:i=j
  ·subst hj
   rw[JI hl]at e
   cases e;exact⟨v,JI hls,by rw[Mn.Ir];exact r⟩
  ·rw[JD hj]at e
   obtain⟨w,e1,e2⟩:=E.env.own j o' e;refine⟨w,by rw[JD hj];exact e1,?_⟩
   rw[Mn.IA (λz=>hj z.symm)]
   exact(e2.move (P:=jI) (λ_ z=>z.elim) subO (λb u q _=>q) λ_ _ z=>z).same s
 ·unfold Mn.set at z1 z2
  by_cases hj:j=i
  ·by_cases hk:k=i
   ·exact hj.trans hk.symm
   ·rw[if_pos hj]at z1;rw[if_neg hk]at z2
    exact(dM a (hm a z1) (.inr ⟨k,z2⟩)).elim
  ·by_cases hk:k=i
   ·rw[if_neg hj]at z1;rw[if_pos hk]at z2
    exact(dM a (hm a z2) (.inr ⟨j,z1⟩)).elim
   ·rw[if_neg hj]at z1;rw[if_neg hk]at z2
    exact E.env.dis j k a z1 z2
 ·rcases z with z | z
  ·exact(E.env.trk a (.inl z)).same s
  ·rcases Mn.Im z with w | w
   ·exact r.mtb a w
   ·exact(E.env.trk a (.inr w)).same s
 ·intro hb
  rcases Mn.Im z with w | w
  ·exact dM a (hm a w) (.inl hb)
  ·exact E.mine a w hb
theorem Ev.put (E:Ev K B M H Z σ)(hi:Z[i]? =some (.ow o))(hs:σ[i]? =some (some v))(s:SameO (M i) H H')(r:ORep K (OO B M) (M i) H' o' v):Ev K B M H' (Z.set i (.ow o')) σ/\SameO M.u H H':=by
 have hl:i<Z.length:=(Jt.mp hi).1
 have inO:∀a,M i a->OO B M a\/Nw K H a:=λa z=> .inl (.inr ⟨i,z⟩)
 have idO:∀a,OO B M a->OO B M a\/Nw K H a:=λa z=> .inl z
 refine⟨⟨⟨by rw[Km];exact E.env.len,λj t e=> ?_,λj o2 e=> ?_,E.env.sub,E.env.dis,λa z=> ?_⟩,E.mine⟩,λb u e n=>s b u e λz=>n ⟨i,z⟩⟩
 ·by_cases hj:i=j
  ·subst hj;rw[JI hl]at e;cases e
  ·rw[JD hj]at e
   obtain⟨w,e1,e2⟩:=E.env.val j t e;exact⟨w,e1,e2.move inO idO s⟩
 ·by_cases hj:i=j
  ·subst hj
   rw[JI hl]at e
   cases e;exact⟨v,hs,r⟩
  ·rw[JD hj]at e
   obtain⟨w,e1,e2⟩:=E.env.own j o2 e;exact⟨w,e1,e2.move inO idO s λa z y=>hj (E.env.dis i j a y z)⟩
 ·by_cases hz:M i a
  ·exact r.mtb a hz
  ·exact(E.env.trk a z).at λo e=>s _ _ e hz
def disown (i:Nat)(Z:En):En:=match Z[i]? with
 | some (.ow o)=>Z.set i (.va o.view)
 | _=>Z
theorem EnvM.disown {O O':Ow}{Z:En}(E:EnvM K O M H Z σ)(i:Nat)(sub:∀a,O' a->O a)(hn:∀a,M i a->¬ O' a)(hin:∀j a,j≠i->M j a->O' a):EnvM K O' (M.set i jI) H (disown i Z) σ:=by
 have base:EnvM K O' (M.set i jI) H (Z.set i (match Z[i]? with | some (.ow o)=> .va o.view | some x=>x | none=> .em)) σ:=by
  refine⟨by rw[Km];exact E.len,λj t e=> ?_,λj o e=> ?_,λj a z=> ?_,λj k a z1 z2=> ?_,λa z=>E.trk a (sub a z)⟩
  ·by_cases hj:i=j
   ·subst hj
    by_cases hl:i<Z.length
    ·rw[JI hl]at e
     cases q:Z[i]? with
     | none=>rw[q]at e;cases e
     | some z=>
      rw[q]at e
      cases z with
      | em=>cases e
      | va t'=>cases e;obtain⟨w,e1,e2⟩:=E.val i _ q;exact⟨w,e1,e2.less sub⟩
      | ow o=>cases e;obtain⟨w,e1,e2⟩:=E.own i _ q;exact⟨w,e1,e2.rep sub hn⟩
    ·rw[Lw (by rw[Km];omega)]at e;cases e
   ·rw[JD hj]at e
    obtain⟨w,e1,e2⟩:=E.val j t e;exact⟨w,e1,e2.less sub⟩
  ·by_cases hj:i=j
   ·subst hj
    by_cases hl:i<Z.length
    ·rw[JI hl]at e
     cases q:Z[i]? with
     | none=>rw[q]at e;cases e
     | some z=>
      rw[q]at e
      cases z with
      | em=>cases e
      | va t'=>cases e
      | ow o=>cases e
    ·rw[Lw (by rw[Km];omega)]at e;cases e
   ·rw[JD hj]at e
    obtain⟨w,e1,e2⟩:=E.own j o e;refine⟨w,e1,?_⟩
    rw[Mn.IA (λz=>hj z.symm)]
    exact e2.move (P:=jI) (λ_ z=>z.elim) (λa z=> .inl (sub a z)) (λb u q _=>q) λ_ _ z=>z
  ·unfold Mn.set at z
   by_cases hj:j=i
   ·rw[if_pos hj]at z;exact z.elim
   ·rw[if_neg hj]at z;exact hin j a hj z
  ·unfold Mn.set at z1 z2
   by_cases hj:j=i
   ·rw[if_pos hj]at z1;exact z1.elim
   ·by_cases hk:k=i
    ·rw[if_pos hk]at z2;exact z2.elim
    ·rw[if_neg hj]at z1;rw[if_neg hk]at z2;exact E.dis j k a z1 z2
 unfold Tr.disown
 cases q:Z[i]? with
 | none=>rw[q,List.set_eq_of_length_le (List.getElem?_eq_none_iff.mp q)]at base;exact base
 | some z=>
  rw[q]at base
  cases z with
  | em=>rw[rR q]at base;exact base
  | va t=>rw[rR q]at base;exact base
  | ow o=>exact base
theorem Ev.disown (E:Ev K B M H Z σ)(i:Nat):Ev K B (M.set i jI) H (disown i Z) σ/\∀a,(M.set i jI).u a->M.u a:=by
 have sub:∀a,(M.set i jI).u a->M.u a:=λa z=>(Mn.Im z).elim (λw=>w.elim) id
 refine⟨⟨E.env.disown i (λa z=>z.elim .inl λw=> .inr (sub a w)) (λa z y=> ?_) λj a hj z=> .inr ⟨j,by rw[Mn.IA hj];exact z⟩,λa z=>E.mine a (sub a z)⟩,sub⟩
 rcases y with y | ⟨j,y⟩
 ·exact E.mine a ⟨i,z⟩ y
 ·unfold Mn.set at y
  by_cases hj:j=i
  ·rw[if_pos hj]at y;exact y
  ·rw[if_neg hj]at y;exact hj (E.env.dis j i a y z)
end
section
variable {X:Cx}{a:Expr}{es:List Expr}{fa:En->Rs T}{pos p2 p3:Pos}{x:Str}
theorem Ev.subO {K:Jh}{B:Ow}{M:Mn}{H:Hp}{i:Nat}{m:Ow}(hm:∀a,m a->Nw K H a)(a:Addr)(z:OO B (M.set i m) a):OO B M a\/Nw K H a:=
 z.elim (λw=> .inl (.inl w)) λw=>(Mn.Im w).elim (λy=> .inr (hm a y)) λy=> .inl (.inr y)
theorem i5 {K:Jh}{H H1:Hp}(s:Same H H1){a:Addr}(n:Nw K H1 a):Nw K H a:=(d9 (SameO.of (P:=jI) s) n).elim (λz=>z.elim) id
def Ga (X:Cx)(t:TA):TE:=λσ H Q=>t σ H λxs H1=>xs.length<=sizeLine/\∀p,Nw X.K H1 p->Q (.ref p) (upd H1 p (.lst xs))
theorem vM {t:TA}(h:PA X es t):PE X (.List es pos) (Ga X t):=by
 intro pins s σ H Q I hq;refine OM (bK (h pos pins s σ H _ I hq) λus s1 ⟨xs,H1,I1,r,z,q⟩=>⟨by rw[<-r.length];exact z,?_⟩)
 have hf:H1 s1.heap.objs.size=none:=I1.hok.fresh (Jw _)
 have hk:X.K.lookup s1.heap.objs.size=none:=by
  cases q:X.K.lookup s1.heap.objs.size with
  | none=>rfl
  | some o=>exact absurd (Jx (I1.kIn _ o q)) (JU _)
 refine⟨.ref s1.heap.objs.size,upd H1 s1.heap.objs.size (.lst xs),I1.laid (t':=s1.toks) (λb u e=>Jr _ e) (Jw _) ?_,rfl,q _ ⟨hf,hk⟩⟩
 exact⟨z,us,0,r,JF _ rfl⟩
def gp (i:Nat)(f:En->Rs (List T))(Z:En):Rs Fl:=do
 let l <-f Z
 if i<Z.length/\l.length<=sizeLine then .ok (.nx (Z.set i (.ow (.lst l))))else .bad
theorem Bm (i:Nat){f:En->Rs (List T)}(hN:X.N.Nodup)(ha:og X es f)(hi:X.N[i]? =some x:=by rfl)(hx:Loc X.env.scope x:=by first | exact Ka rfl | exact JS rfl)(hs:J4 (.List es p2) (some (.Name x p3)) pos.line X.env=pure false:=by rfl)
  (hf:X.fn x=true\/X.env.scope.names.lookup x=some .local:=by first | exact .inl rfl | exact .inr rfl | assumption):mw X (.Assign [.Name x p3] (.List es p2) pos) (gp i f):=PS.imp (ql hN hi hx (vM ha) hs hf) λD σ H hh_=>by
 obtain⟨Z,B,M,E,h⟩:=hh_;refine⟨Z,OO B M,E.o,?_⟩
 unfold gp at h
 cases q:f Z with
 | bad=>rw[q]at h;exact h.elim
 | err c=>rw[q]at h;exact PostF.xa h
 | ok l=>
  rw[q,az]at h;intro H1 s1 vs rs
  by_cases hl:i<Z.length/\l.length<=sizeLine
  ·rw[if_pos hl]at h
   refine⟨by rw[<-rs.length];exact hl.2,λp hp=> ?_⟩
   have hm:∀a,a=p->Nw X.K H1 a:=λa z=>z▸hp
   obtain⟨E2,sub⟩:=(E.same s1).new (m:=λa=>a=p) (o:=.lst l) (v:=.ref p) (H':=upd H1 p (.lst vs)) hl.1 hm (a9 hp.1 _) ⟨p,vs,rfl,λb=>L9,aQ,(rs.more (Ev.subO hm)).same (a9 hp.1 _)⟩
   exact h _ _ _ (SameO.of (s1.trans (a9 hp.1 _))) E2 λa z=>(sub a z).imp_right (i5 s1)
  ·rw[if_neg hl]at h
   exact h.elim
def lF (i:Nat)(f:En->Rs T)(Z:En):Rs Fl:=match Z[i]? with
 | some (.ow (.lst l))=>f Z >>= λt=>if l.length<sizeLine then .ok (.nx (Z.set i (.ow (.lst (l++ [t])))))else .bad
 | _=> .bad
theorem Ev.putL {K:Jh}{B:Ow}{M:Mn}{H:Hp}{Z:En}{σ:L2.St}{i:Nat}{o:OT}{l':List T}{b:Addr}{vs':List V}(E:Ev K B M H Z σ)(hi:Z[i]? =some (.ow o))(hs:σ[i]? =some (some (.ref b)))(hM:∀c,M i c↔c=b)(r:Reps K (OO B M) H l' vs') :
  Ev K B M (upd H b (.lst vs')) (Z.set i (.ow (.lst l'))) σ/\SameO M.u H (upd H b (.lst vs')):=by
 have sm:SameO (M i) H (upd H b (.lst vs')):=λc u e nb=>by rw[aG (λz=>nb ((hM c).mpr z))];exact e
 exact E.put hi hs sm ⟨b,vs',rfl,hM,aQ,r.move (P:=M i) (λa z=> .inl (.inr ⟨i,z⟩)) (λa z=> .inl z) sm⟩
theorem D1 (i:Nat){apos cpos:Pos}(ha:b6 X a fa)(hN:X.N[i]? =some x:=by rfl)(hv:lW X.env.scope x:=by first | exact Ka rfl | exact JS (Ka rfl) | exact JS (JS rfl))(hn:bf a=true:=by rfl)
  (hbase:JM (.Name x p2) "append" X.env (eval (.Name x p2) X.env)=eval (.Name x p2) X.env:=by rfl) (hline:(apos.endLine == cpos.line)=true:=by rfl)
  (hd:eF x:=by decide) (hcd:(x == ("__classdict__" : Str))=false:=by decide)
  (hsw:J4 (.Call (.Attribute (.Name x p2) "append" apos) [a] [] cpos) none pos.line X.env=pure false:=by rfl):mw X (.Expr (.Call (.Attribute (.Name x p2) "append" apos) [a] [] cpos) pos) (lF i fa):=by
 have h1:Jy [a] X.env=(false,eval a X.env)::Jy [] X.env:=a8 hn;refine PS.imp (iZ (vQ Ky LN LP i8 (fh hN hv hd hcd) (d8 ha il h1) hbase ?_ hline h1 rfl) hsw) λD σ H ⟨Z,B,M,E,h⟩=> ?_
 ·rw[h1];rfl
 unfold lF at h
 split at h
 ·rename_i l hl
  obtain⟨v0,e1,b,vs,rfl,hM,e3,e4⟩:=E.env.own i _ hl;refine⟨.ref b,e1,.inl ⟨rfl,vs,SqL.of e3⟩,Z,OO B M,E.o,?_⟩
  cases q:fa Z with
  | bad=>rw[q]at h;exact h.elim
  | err c=>rw[q]at h;exact PostF.xa h
  | ok t=>
   rw[q,az]at h
   split at h
   ·rename_i hz
    intro H1 s1 v r
    have e3':=s1 _ _ e3;refine⟨b,vs,v,rfl,rfl,e3',by rw[<-e4.length];exact hz,?_⟩
    obtain⟨g1,g2⟩:=(E.same s1).putL (l':=l++ [t]) (vs':=vs++ [v]) hl e1 hM ((e4.same s1).append (Reps.FS r Reps.Gc));exact h σ _ M (λc o e nb=>g2 c o (s1 _ _ e) nb) g1 λc z=> .inl z
   ·exact h.elim
 ·exact h.elim
def Fp (i:Nat)(l:List T)(Z:En):T->Rs Fl
 | .lst m=>if l.length+m.length<=sizeLine then .ok (.nx (Z.set i (.ow (.lst (l++m)))))else .bad
 | _=> .bad
def mP (i:Nat)(f:En->Rs T)(Z:En):Rs Fl:=match Z[i]? with
 | some (.ow (.lst l))=>f Z >>= Fp i l Z
 | _=> .bad
theorem DW (i:Nat){apos cpos:Pos}(ha:b6 X a fa)(hN:X.N[i]? =some x:=by rfl)(hv:lW X.env.scope x:=by first | exact Ka rfl | exact JS (Ka rfl) | exact JS (JS rfl))(hn:bf a=true:=by rfl)
  (hbase:JM (.Name x p2) "extend" X.env (eval (.Name x p2) X.env)=eval (.Name x p2) X.env:=by rfl) (hline:(apos.endLine == cpos.line)=true:=by rfl)
  (hd:eF x:=by decide) (hcd:(x == ("__classdict__" : Str))=false:=by decide)
  (hsw:J4 (.Call (.Attribute (.Name x p2) "extend" apos) [a] [] cpos) none pos.line X.env=pure false:=by rfl):mw X (.Expr (.Call (.Attribute (.Name x p2) "extend" apos) [a] [] cpos) pos) (mP i fa):=by
 have h1:Jy [a] X.env=(false,eval a X.env)::Jy [] X.env:=a8 hn;refine PS.imp (iZ (vQ Ky PySem.F.slot_list_extend PySem.F.type_list_extend xJ (fh hN hv hd hcd) (d8 ha il h1) hbase ?_ hline h1 rfl) hsw) λD σ H ⟨Z,B,M,E,h⟩=> ?_
 ·rw[h1];rfl
 unfold mP at h
 split at h
 ·rename_i l hl
  obtain⟨v0,e1,b,vs,rfl,hM,e3,e4⟩:=E.env.own i _ hl;refine⟨.ref b,e1,.inl ⟨rfl,vs,SqL.of e3⟩,Z,OO B M,E.o,?_⟩
  cases q:fa Z with
  | bad=>rw[q]at h;exact h.elim
  | err c=>rw[q]at h;exact PostF.xa h
  | ok t=>
   rw[q,az]at h;unfold Fp at h
   split at h
   ·rename_i m
    split at h
    ·rename_i hz
     intro H1 s1 v r;obtain⟨c,ws,rfl,nO,hc,rm⟩:=Rep.Do.mp r
     have e3':=s1 _ _ e3;refine⟨b,c,vs,ws,rfl,rfl,e3',hc,by rw[<-e4.length,<-rm.length];exact hz,?_⟩
     obtain⟨g1,g2⟩:=(E.same s1).putL (l':=l++m) (vs':=vs++ws) hl e1 hM ((e4.same s1).append rm);exact h σ _ M (λc o e nb=>g2 c o (s1 _ _ e) nb) g1 λc z=> .inl z
    ·exact h.elim
   ·exact h.elim
 ·exact h.elim
def mQ (i:Nat)(F:En->Rs Fl)(Z:En):Rs Fl:=F (disown i Z)
theorem DY (i:Nat){st:Stmt}{F:En->Rs Fl}(h:mw X st F):mw X st (mQ i F):=PS.imp h λD σ H hh_=>by
 obtain⟨Z,B,M,E,q⟩:=hh_;obtain⟨E',sub⟩:=E.disown i;exact⟨disown i Z,B,_,E',PostF.later q (λ_ _ e _=>e) λa z=> .inl (sub a z)⟩
mutual
def T.nk (D:Bool):T->Bool
 | .scr _=>false
 | .dct _ ts=> !D&&nks D ts
 | .ob _ _ _=>false
 | .lst l=>D&&nks D l
 | .tup l=>nks D l
 | _=>true
def nks (D:Bool):List T->Bool
 | [] =>true
 | t::l=>t.nk D&&nks D l
end
mutual
theorem Rep.lend {K:Jh}{O O':Ow}{H:Hp}{D:Bool}(hk:∀a,O a->O' a\/if D then ∃kvs,Rd H a (.dT kvs)else LO H a):∀{t:T} {v:V},t.nk D=true->Rep K O' H t v->Rep K O H t v
 | .non,_,_,r=>by unfold Rep at r ⊢;exact r
 | .bl _,_,_,r=>by unfold Rep at r ⊢;exact r
 | .int _,_,_,r=>by unfold Rep at r ⊢;exact r
 | .str _,_,_,r=>by unfold Rep at r ⊢;exact r
 | .tup l,_,h,r=>by
  unfold Rep at r ⊢;unfold T.nk at h;obtain⟨a,vs,e,n,q,z⟩:=r;refine⟨a,vs,e,λp=>(hk a p).elim n λw=> ?_,q,Reps.lend hk h z⟩
  split at w
  ·obtain⟨_,w | ⟨_,w⟩⟩:=w <;> rw[q]at w <;> cases w
  ·rcases w with⟨_,w⟩ | ⟨_,w,y⟩ <;> rw[q]at w <;> cases w <;> cases y
 | .lst l,_,h,r=>by
  unfold Rep at r ⊢;unfold T.nk at h;rw[Jj]at h;obtain⟨h1,h2⟩:=h;subst h1;obtain⟨a,vs,e,n,q,z⟩:=r;refine⟨a,vs,e,λp=>(hk a p).elim n λw=> ?_,q,Reps.lend hk h2 z⟩
  rw[if_pos rfl]at w;obtain⟨_,w | ⟨_,w⟩⟩:=w <;> rw[q]at w <;> cases w
 | .scr l,_,h,r=>by unfold T.nk at h;cases h
 | .dct ks ts,_,h,r=>by
  unfold Rep at r ⊢;unfold T.nk at h;rw[Jj]at h;obtain⟨h1,h2⟩:=h
  cases D with
  | true=>cases h1
  | false=>
   obtain⟨a,kvs,e,n,q,k,z⟩:=r;refine⟨a,kvs,e,λp=>(hk a p).elim n λw=> ?_,q,k,Reps.lend hk h2 z⟩
   rw[if_neg JJ]at w;rcases w with⟨_,w⟩ | ⟨_,w,y⟩ <;> rcases q with q | ⟨_,q⟩ <;> rw[q]at w <;> cases w <;> cases y
 | .ob _ _ _,_,h,r=>by unfold T.nk at h;cases h
theorem Reps.lend {K:Jh}{O O':Ow}{H:Hp}{D:Bool}(hk:∀a,O a->O' a\/if D then ∃kvs,Rd H a (.dT kvs)else LO H a):∀{l:List T} {vs:List V},nks D l=true->Reps K O' H l vs->Reps K O H l vs
 | [],_,_,r=>by unfold Reps at r ⊢;exact r
 | t::l,_,h,r=>by
  unfold Reps at r ⊢;unfold nks at h;rw[Jj]at h;obtain⟨v,ws,e,p,q⟩:=r;exact⟨v,ws,e,Rep.lend hk h.1 p,Reps.lend hk h.2 q⟩
end
def ln (i:Nat)(f:En->Rs T)(Z:En):Rs T:=match Z[i]? with
 | some (.ow o)=>f (disown i Z) >>= λt=>if t.nk o.isD=true then .ok t else .bad
 | _=>f Z
def zv (i:Nat)(f:En->Rs Bool)(Z:En):Rs Bool:=f (disown i Z)
theorem pQ {K:Jh}{O:Ow}{M:Mn}{H:Hp}{Z:En}{σ:L2.St}(E:EnvM K O M H Z σ)(i:Nat):EnvM K (λa=>O a/\¬ M i a) (M.set i jI) H (disown i Z) σ:=
 E.disown i (λa z=>z.1) (λa z y=>y.2 z) λj a hj z=>⟨E.sub j a z,λy=>hj (E.dis j i a z y)⟩
theorem q_ln (i:Nat){e:Expr}{f:En->Rs T}(h:b6 X e f):b6 X e (ln i f):=PE.imp h λσ H Q ⟨Z,O,⟨M,E⟩,q⟩=>by
 unfold ln at q
 split at q
 ·rename_i o hi
  refine⟨disown i Z,_,⟨_,pQ E i⟩,?_⟩
  obtain⟨w,e1,r⟩:=E.own i o hi;refine Post.mono (Post.bind q) λt H' s q2 v rv=> ?_
  split at q2
  ·rename_i hk
   have kd:=(r.same s).kind;refine q2 H' (Same.refl _) v (Rep.lend (λa z=> ?_) hk rv)
   by_cases hm:M i a
   ·refine .inr ?_
    have this:=kd a hm
    by_cases hD:o.isD=true
    ·rw[if_pos hD]at this ⊢;exact this.imp λ_ z=> .inl z
    ·rw[if_neg hD]at this ⊢;exact this
   ·exact .inl ⟨z,hm⟩
  ·exact q2.elim
 ·exact⟨Z,O,⟨M,E⟩,q⟩
theorem Gu (i:Nat){e:Expr}{f:En->Rs Bool}(h:rC X e f):rC X e (zv i f):=PT.imp h λσ H Q ⟨Z,O,⟨M,E⟩,q⟩=>⟨disown i Z,_,⟨_,pQ E i⟩,q⟩
end
end Tr
namespace Tr
open PySem L2
def oN:List T->List T->List Key->Option T
 | k'::ks,v::vs,k=>if keyOf k'=some k then some v else oN ks vs k
 | _,_,_=>none
def gH (k v:T):List T->List T->List T×List T
 | k'::ks,v'::vs=>if keyOf k'=keyOf k then(k'::ks,v::vs)else(k'::(gH k v ks vs).1,v'::(gH k v ks vs).2)
 | _,_=>([k],[v])
def tw (x y:T):Rs T:=match x,keyOf y with
 | .dct ks vs,some k=>match oN ks vs k with
  | some t=> .ok t
  | none=> .bad
 | _,_=> .bad
def gZ (x y:T):Rs T:=match x,keyOf y with
 | .dct ks vs,some k=>match oN ks vs k with
  | some t=> .ok t
  | none=> .ok .non
 | _,_=> .bad
def oD (g:T->T->Rs T)(fa fb:En->Rs T)(Z:En):Rs T:=fa Z >>= λx=>match x with
 | .dct ks vs=>fb Z >>= g (.dct ks vs)
 | _=> .bad
def oL (g:T->T->Rs T)(fa fb:En->Rs T)(Z:En):Rs T:=fa Z >>= λx=>match x with
 | .lst l=>fb Z >>= g (.lst l)
 | _=> .bad
def FJ:List T->Option (List (T×T))
 | [] =>some []
 | .tup [k,v] ::l=>match keyOf k,FJ l with
  | some _,some r=>some ((k,v)::r)
  | _,_=>none
 | _=>none
def iK:List (T×T)->List T×List T->List T×List T
 | [],d=>d
 | (k,v)::r,d=>iK r (gH k v d.1 d.2)
def wQ:List T->Rs T
 | [.lst l] =>match FJ l with
  | some ps=>if l.length<=1000 then .ok (.dct (iK ps ([],[])).1 (iK ps ([],[])).2)else .bad
  | none=> .bad
 | _=> .bad
def o5 (i:Nat)(f:En->Rs T)(Z:En):Rs Fl:=f Z >>= λt=>wQ [t] >>= λd=>match d with
 | .dct ks vs=>if i<Z.length then .ok (.nx (Z.set i (.ow (.dct ks vs))))else .bad
 | _=> .bad
def xo (i:Nat)(fk fv:En->Rs T)(Z:En):Rs Fl:=match Z[i]? with
 | some (.ow (.dct ks vs))=>fv Z >>= λv=>fk Z >>= λk=>match keyOf k with
  | some _=>if ks.length<1000 then .ok (.nx (Z.set i (.ow (.dct (gH k v ks vs).1 (gH k v ks vs).2))))else .bad
  | none=> .bad
 | _=> .bad
def je (x:T):List T->Nat->Option Nat
 | [],_=>none
 | t::l,n=>if a6 t x then some n else je x l (n+1)
def fO (y x:T):Rs T:=match y with
 | .lst l=>if (x.dep<=60\/deps l<=60)/\x.nd=true/\nds l=true then match je x l 0 with
   | some n=> .ok (.int n)
   | none=> .bad
  else .bad
 | _=> .bad
def FP (f:En->Rs (List T))(Z:En):Rs (List T):=f Z >>= λx=>match x with
 | [.int i,.int j,.int (-1)] =>if oM i&&oM j then .ok ((J9 (i - j).toNat).map λ(k:Nat)=>T.int (i - (k:Int)))else .bad
 | _=> .bad
def FU:Nat:=1000000000000
end Tr
namespace Tr
open PySem PySem.Spec PyProof.Rows L2
theorem fY {h b b':Heap}:∀{l:List Env},h.FunFrames b l->(∀a∈l.filterMap (·.frame),b'.get? a=none)->h.FunFrames b' l
 | [],_,_=>trivial
 | env::bJ,⟨hk,⟨L,o,hf,hn,ho,hd⟩,hr⟩,q=>by
  rw[KI,hf]at q;exact⟨hk,⟨L,o,hf,q L Jq,ho,hd⟩,fY hr λa ha=>q a (Jk _ ha)⟩
section
variable {M:Model}{A:J0}{E:Ji->Jl->Prop}{s:Jl}
structure CS (fs:List Addr)(C e:Addr)(T:Option Addr)(h h':Heap)(T':Addr):Prop where
 flt:HS h' C e (some T')
 new:T=some T'\/h.get? T'=none
 keep:∀b o,b∉fs->b≠e->T≠some b->h.get? b=some o->h'.get? b=some o
 slot:∀b o,b∈fs->h.get? b=some o->∃sl,h'.get? b=some { o with slots:=sl }
theorem zA {base:Heap}{env:Env}{outer:List Env}{L C e:Addr}{T:Option Addr}{Q:Unit->Jl->Prop}(hfr:A.frames=some (env::outer))(hl:s.heap.FunFrames base (env::outer))(hf:env.frame=some L)
  (F:HS s.heap C e T) (h:∀h' T',CS ((env::outer).filterMap (·.frame)) C e T s.heap h' T'->Q () { s with heap:=h' }):wpAny M A (leaving env (.ref e)) Q E s:=by
 generalize hB:NF s.heap (e::(T.toList++(env::outer).filterMap (·.frame)))=B
 have bm:∀b,b∈e::(T.toList++(env::outer).filterMap (·.frame))->B.get? b=none:=λb m=>by rw[<-hB];exact Mt _ m
 have hl':s.heap.FunFrames B (env::outer):=fY hl λa ha=>bm a (Jk _ (JO _ ha))
 have hst:B.StaysIn s.heap:=λb o q=>by rw[<-hB]at q;exact MO _ q
 have hen:B.get? e=none:=bm e Jq
 have main:∀h',Heap.Left B (env::outer) e (.ref C) s.heap h'->Q () { s with heap:=h' }:=λh' ⟨x1,x2,⟨oe,vs,T',oT,ts,he,hc,hd,h1,hnT,hTe,hT,hdT,h3⟩,x4⟩=>by
  refine h h' T' ⟨⟨hTe,oe,vs,he,hc,hd,h1,oT,ts,hT,hdT,h3⟩,?_,λb o n1 n2 n3 q=> ?_,λb o m q=> ?_⟩
  ·cases q:s.heap.get? T' with
   | none=>exact .inr rfl
   | some o=>
    left
    by_cases z:T'∈e::(T.toList++(env::outer).filterMap (·.frame))
    ·rcases Ju.mp z with z | z
     ·exact absurd z hTe
     ·rcases JN.mp z with z | z
      ·cases T with
       | none=>simp at z
       | some t=>simp at z;rw[z]
      ·obtain⟨_,o',ho',hnf⟩:=x2.mem z
       rw[hT]at ho';cases ho';exact absurd hdT (hnf ts)
    ·rw[<-hB,Ln _ q z]at hnT;cases hnT
  ·refine x1 b o ?_
   rw[<-hB];refine Ln _ q λz=> ?_
   rcases Ju.mp z with z | z
   ·exact n2 z
   ·rcases JN.mp z with z | z
    ·cases T with
     | none=>simp at z
     | some t=>simp at z;exact n3 (by rw[z])
    ·exact n1 z
  ·obtain⟨_,o',ho',hnf⟩:=hl.mem m
   rw[q]at ho';cases ho';exact x4 b o q hnf
 cases T with
 | none=>
  obtain⟨oe,vs,he,hc,hd,h1⟩:=F;refine wpAny_leaving_first hfr hl' hf he hst hen hd h1 λh' x=>main h' ?_
  rw[hc]at x;exact x
 | some t=>
  obtain⟨hte,oe,vs,he,hc,hd,h1,oT,ts,hT,hdT,h3⟩:=F;exact wpAny_leaving_next hfr hl' hf ⟨oe,vs,t,oT,ts,he,hc,hd,h1,bm t (Jk _ (Kq _ (by simp))),hte,hT,hdT,h3⟩ hst hen main
end
abbrev u6:List Ji:=[.type "ValueError",.type "Exception",.type "BaseException",.type "object"]
structure OwnExc (K:Jh)(C:Addr)(bm:List Ji):Prop where
 at_:∀h:Heap,K.In h->∃nm q N bs hdct sn sub ab col dd k0 k1 k2 k3 k5 mN,h.get? C=some (LK nm q C N bs bm hdct sn sub ab col dd k0 k1 k2 k3 k5 "ValueError.__new__")/\h.Ns N mN/\mN "__init__" =none/\OwnTail h u6 bm
theorem OwnExc.base {K:Jh}{C:Addr}{bm:List Ji}(O:OwnExc K C bm){h:Heap}(k:K.In h):bm.contains (.type "BaseException")=true:=by
 obtain⟨_,_,_,_,_,_,_,_,_,_,_,_,_,_,_,_,_,_,_,T⟩:=O.at_ h k;exact T.hasType (by decide)
def xp (c:Str)(_:En):Rs Fl:=.err c
section
variable {X:Cx}
theorem yN {c:Str}{msg:Str}{C:Addr}{bm:List Ji}{np p1 cpos pos:Pos}{j:Nat}(O:OwnExc X.K C bm)(hc:X.calm=true)(hm:X.mg c=some (.ref C))(hg:Gl X c:=by rfl)(hd:eF c:=by decide) :
  mw X (.Raise (some (.Call (.Name c np) [.Constant (.str msg) j p1] [] cpos)) none pos) (xp c):=by
 intro pins s σ H D I ⟨Z,B,M,E,k⟩
 have k:XA X M.u H c:=k;obtain⟨nm,q,N,bs,hdct,sn,sub,ab,col,dd,k0,k1,k2,k3,k5,mN,hC,hN,hni,T⟩:=O.at_ s.heap I.kIn;refine wpAny_Raise_call_subU (C:=C) (mN:=mN) (nm:=nm) (q:=q) (N:=N) (bs:=bs) (hdct:=hdct) (sn:=sn) (sub:=sub) (ab:=ab) (col:=col) (dd:=dd) (k0:=k0) (k1:=k1) (k2:=k2) (k3:=k3) (k5:=k5) ML (Bn:="ValueError") (by decide) ML (O.base I.kIn) (I.ok.hd hc) (by rfl) hni (gC I hg hm ⟨rfl,?_⟩ hd)
 show wpAny _ _ (evalArgs (.ref C) true ((false,eval (.Constant (.str msg) j p1) X.env)::backTo cpos (Jy [] X.env)) []) _ _ s
 refine LF (LU (Ov (L8 ?_)))
 refine⟨rfl,by show 1<=sizeLine;decide,hC,hN,T,λh' e hm'=>k pins _ _ ?_⟩
 obtain⟨t,ht,ht2,ht3⟩:=hm'.there
 have I':Inv X pins σ H { s with heap:=h',toks:=s.toks+1 }:=I.kept (t':=s.toks+1) λb o z=>hm'.keeps b o z
 refine⟨e,none,C,σ,H,rfl,hm,I',λb o z _=>z,?_,?_,⟨_,_,ht,rfl,rfl,rfl⟩,(λt z=>by cases z),λp hp=>⟨λz=> ?_,λz=>by cases z⟩⟩
 ·exact kl I hm'.new
 ·exact λhex=>fX I hex hm'.new
 ·have:=(I.pin p hp).1
  rw[z,show s.heap.get? e=none from hm'.new]at this
  cases this
end
section
variable {P:JK}{w:Kn}{K:Jh}{mg:Str->Option Ji}{base:Heap}
theorem Fm {x qual:Str}{st:Stmt}{f:Addr}{fd:Ki}{N ps:List Str}{k n:Nat}{g:List T->Rs T}(Fn:L2.Fun K x qual st f fd)(S:aA N ps (aj st))(hn:ps.length=n)
  (hbody:∀(cdv:Ji) (A:J0) (outer:List Env) (s:Jl) (H:Hp) (E:XK),Room k (A.deeper (envOfC qual (aj st) s.heap.objs.size f cdv)) →
   ∃F,(∀xe,jT ((fG CX0 P w K mg base N qual (aj st) f cdv A outer s H E).FB xe) (bx st) F)/\∀ts,ts.length=n->∀c,g ts= .err c->F (aO N.length ts)= .err c):FnX P w K mg base (k+1) f fd ps n g:=by
 intro A outer s H args us vs O ts c R hr e0 hb r rs trk hl hg hR
 have hpl:ps.length<=N.length:=by have:=congrArg K3 S.pre;rw[J5]at this;omega
 obtain⟨oc,od,kV,doc,pm,an,cdv,ct,osl,rfl,lk,hcd⟩:=Fn.ex
 have hlen:vs.length=ps.length:=by rw[<-rs.length,hl,hn]
 have KX:K.In s.heap:=e0.mod.kin.keeps λb o e=>(e0.bs b o e).1
 have lim:s.heap.NoLimit:=e0.mod.nolimit.keeps λb o e=>(e0.bs b o e).1
 have hkind:∀y∈ps.zip us,(aj st).names.lookup y.1=some .local\/((aj st).names.lookup y.1=some .cell/\((Ll (s.heap.objs.size+1) (aj st).names []).lookup y.1).isSome=true):=λ⟨n,v⟩ hy=>by
  rcases S.par n (LV hy).1 with q | q
  ·exact .inl q
  ·exact .inr ⟨q,Lr _ _ _ (.inl q)⟩
 refine Mr hr.depth (KX _ _ lk) rfl S.co S.gen rfl (MP KX hcd) (hb _ _ _ _ ?_)
 refine LC S.kind hkind λenv he s1 x=> ?_
 subst he;refine⟨lim.keeps x.toInCall.keep,Po ?_⟩
 obtain⟨F,hF,hv⟩:=hbody cdv A outer s H E0 (hr.deeper _)
 let xe:Ji->Jl->Prop:=λev s'=>wpAny (model P w) (A.deeper (envOfC qual (aj st) s.heap.objs.size f cdv)) (leaving (envOfC qual (aj st) s.heap.objs.size f cdv) ev) (λ_ s''=>R (.error ev) s'') (λe' s''=>R (.error e') s'') s'
 have I:Inv ((fG CX0 P w K mg base N qual (aj st) f cdv A outer s H E0).FB xe) [] (start N vs) H s1:=(kR S hr.hd e0 hlen r x).FB _
 have no:∀a,¬noM.u a:=λa ⟨_,z⟩=>z
 refine K7 (hF xe [] s1 (start N vs) H { nx:=λ_ _=>False,rt:=λ_ _=>False,bk:=λ_ _=>False,ct:=λ_ _=>False } I ⟨aO N.length ts,O,noM,oX rs (by omega) trk,?_⟩) (λfl s' z=> ?_) λe s' hs=>hs
 rotate_left
 ·cases fl with
  | next=>obtain⟨_,_,_,z⟩:=z;exact z.elim
  | cont=>obtain⟨_,_,_,z⟩:=z;exact z.elim
  | brk=>obtain⟨_,_,_,z⟩:=z;exact z.elim
  | ret v=>obtain⟨_,_,_,_,_,z⟩:=z;exact z.elim
 rw[hv ts hl c hg];intro pins ev s' w'
 show wpAny _ _ _ _ _ _
 obtain⟨e,T,C,σ',H',rfl,hm,I',sm,he,heo,fl,hT,_⟩:=w'
 have heo:=heo rfl
 have hT:∀t,T=some t->H' t=none/\s.heap.get? t=none:=λt z=>⟨(hT t z).1,(hT t z).2 rfl⟩
 refine zA (base:=base) (outer:=outer) (L:=s.heap.objs.size) I'.ok.frames I'.stack rfl fl λh' T' g=>hR _ _ ?_
 have hex:((fG CX0 P w K mg base N qual (aj st) f cdv A outer s H E0).FB xe).ex= []:=rfl
 have Tn:H' T'=none/\s.heap.get? T'=none:=by
  rcases g.new with z | z
  ·exact hT T' z
  ·exact⟨kl I' z,fX I' hex z⟩
 have out:∀b o,s.heap.get? b=some o->b≠s.heap.objs.size:=λb o q z=>by
  have:=Jx q;rw[z]at this;exact absurd this (JU _)
 have mem:∀b,b∈nK ((envOfC qual (aj st) s.heap.objs.size f cdv)::outer)->b=s.heap.objs.size\/b∈nK outer:=λb z=>by
  have z':b∈s.heap.objs.size::nK outer:=z;exact Ju.mp z'
 have ne:∀b o,s.heap.get? b=some o->b≠e/\T≠some b:=λb o q=>⟨λz=>(by subst z;rw[show s.heap.get? b=none from heo]at q;cases q),λz=>(by rw[show s.heap.get? b=none from(hT b z).2]at q;cases q)⟩
 have keepH:∀b u,H' b≠none->s'.heap.get? b=some u->h'.get? b=some u:=λb u hb q=>by
  refine g.keep b u (λz=>hb (I'.Ip b z)) (λz=>hb (by rw[z];exact he)) (λz=>hb (hT b z).1) q
 refine⟨e,T',C,H',rfl,hm,I'.os,I'.bare,⟨λb o q n hb hx=> ?_,λb o q n hb hx=> ?_,λb o q n hx=>I'.base.free b o q n hx,λb o q hx=> ?_,I'.base.tups,I'.base.frzs,I'.base.tbls⟩,λa o q=> ?_,λb o q=>sm b o q (no b),he,heo,g.flt,Tn.1,Tn.2⟩
 ·exact g.keep b o (λz=>(mem b z).elim (out b o q) hb) (ne b o q).1 (ne b o q).2 (I'.base.keep b o q n hb hx)
 ·obtain⟨sl,q1⟩:=I'.base.slot b o q n hb hx
  obtain⟨sl',q2⟩:=g.slot b _ (Jk _ hb) q1;exact⟨sl',q2⟩
 ·obtain⟨o',q1⟩:=I'.base.there b o q hx
  by_cases z:b∈nK ((envOfC qual (aj st) s.heap.objs.size f cdv)::outer)
  ·obtain⟨sl,q2⟩:=g.slot b o' z q1
   exact⟨_,q2⟩
  ·exact⟨o',g.keep b o' z (ne b o q).1 (ne b o q).2 q1⟩
 ·refine(I'.hok a o q).Iw (λb u hb z=>keepH b u ?_ z) (λ_ z=>z) λ_ _ z=>z
  rcases hb with rfl | hb
  ·rw[q];simp
  ·rw[hb];simp
end
theorem A5 {n m:Nat}{F:En->Rs Fl}{ts:List T}{c:Str}(h:val n m F ts= .err c):F (aO m ts)= .err c:=by
 unfold val at h
 split at h
 ·unfold bp at h
  cases z:F (aO m ts)with
  | bad=>rw[z]at h;cases h
  | err c'=>rw[z]at h;cases h;rfl
  | ok f=>
   rw[z,az]at h;cases f <;> cases h
 ·cases h
section
variable {P:JK}{w:Kn}{K:Jh}{mg:Str->Option Ji}{base:Heap}
theorem Fo {x qual:Str}{st:Stmt}{f:Addr}{fd:Ki}{N ps:List Str}{k n:Nat}{F:En->Rs Fl}(Fn:L2.Fun K x qual st f fd)(S:aA N ps (aj st))(hn:ps.length=n)
  (hbody:∀(cdv:Ji) (A:J0) (outer:List Env) (s:Jl) (H:Hp) (E:XK),Room k (A.deeper (envOfC qual (aj st) s.heap.objs.size f cdv)) →
   ∀xe,jT ((fG CX0 P w K mg base N qual (aj st) f cdv A outer s H E).FB xe) (bx st) F):AX P w K mg base (k+1) f fd ps n (val n N.length F):=
 ⟨HA Fn S hn λcdv A outer s H E hr=>⟨F,hbody cdv A outer s H E hr _,λts _ _ h=>DA h⟩,Fm Fn S hn λcdv A outer s H E hr=>⟨F,hbody cdv A outer s H E hr,λts _ c h=>A5 h⟩⟩
end
section
variable {X:Cx}{k n:Nat}{f:Addr}{fd:Ki}{ps:List Str}{g:List T->Rs T}{pins:List (Addr×Obj)}{σ:L2.St}{H:Hp}{s:Jl}{us:List Ji}{vs:List V}{ts:List T}{O:Ow}{Q:VK}
theorem Gj (F:AX X.prog X.w X.K X.mg X.base k f fd ps n g)(hr:Room k X.A)(hb:Binds X.K fd ps [])(hps:ps.length=n)(I:Inv X pins σ H s)(r:Vals vs us)(rs:Reps X.K O H ts vs)(mt:∀a,O a->Mtb H a)(hl:ts.length=n)
  (hq:Post X H (g ts) λt H'=> ∀v,Rep X.K O H' t v->Q v H'):wpAny (model X.prog X.w) X.A (call (.ref f) us) (EP X pins σ Q) X.xe s:=by
 cases q2:g ts with
 | bad=>rw[q2]at hq;exact hq.elim
 | ok t=>
  rw[q2]at hq;refine ui (E:=E0) (dvs:=[]) (ds:=[]) F.h hr hb .nil vR I r ⟨ts,O,by simpa using rs,mt,hl,?_⟩
  rw[q2]
  exact λv H' s2 rr=>hq H' s2 v rr
 | err c=>
  rw[q2]at hq
  have hlen:us.length=ps.length:=by rw[<-r.length,<-rs.length,hl,hps]
  have hb':=hb s us I.kIn (by rw[JZ];exact hlen)
  rw[JZ]at hb';refine N4 (LR (F.x X.A X.stack s H ⟨us,[]⟩ us vs O ts c (λr s'=>match r with | .error ev=>X.xe ev s' | _=>False) hr I.IJ hb' r rs mt hl q2 λev s' w=> ?_) λr s' hq=> ?_)
  ·obtain⟨ea,T,C,H',rfl,hmc,ho,hbare,hun,hok,sm2,hea,heo,fl,hT,hTo⟩:=w
   have I2:Inv X pins σ H' s':=I.IH ho hun hok hbare (λb z=>absurd z (by simp))
   exact hq pins _ _ ⟨ea,some T,C,σ,H',rfl,hmc,I2,λb o q _=>sm2 b o q,hea,λhex=>fX I hex heo,fl,(λt zt=>by cases zt;exact⟨hT,λhex=>fX I hex hTo⟩),λpp hpp=>⟨λzz=>(by have:=(I.pin pp hpp).1;rw[zz,heo]at this;cases this),λzz=>(by cases zz;have:=(I.pin pp hpp).1;rw[hTo]at this;cases this)⟩⟩
  ·cases r with
   | error ev=>exact hq
   | ok fl=>exact hq.elim
end
section
variable {X:Cx}{a:Expr}{fa:En->Rs T}{pos p:Pos}{x:Str}
theorem Gx:mw X (.Continue pos) C2:=PS.imp r9 λD σ H ⟨Z,B,M,E,h⟩=>h σ H M (λ_ _ e _=>e) E λa z=> .inl z
end
def calmNames:List Str:=["__init__","__getattribute__","__getattr__","__class__"]
inductive OTail (h:Heap):List Ji->Prop
 | base:OTail h u6
 | own {A:Addr} {c0:Ji} {dd:Option Addr} {cd:ClassData} {sl:Array (Option Ji)} {mA:Str->Option Ji} {tl:List Ji} :
   h.get? A=some { cls:=c0,dict:=dd,data:=.cls cd,slots:=sl }->h.Ns cd.ns mA->(∀n∈calmNames,mA n=none)->OTail h tl->OTail h (.ref A::tl)
theorem OTail.tail {h:Heap}{tl:List Ji}(T:OTail h tl):OwnTail h u6 tl:=by
 induction T with
 | base=>exact .base
 | own hA hN hq _ ih=>exact .own hA hN (hq _ (.head _)) ih
structure OX (K:Jh)(C:Addr)(bm:List Ji):Prop where
 at_:∀h:Heap,K.In h->∃nm q N bs hdct sn sub ab col dd k0 k1 k2 k3 k5 mN,h.get? C=some (LK nm q C N bs bm hdct sn sub ab col dd k0 k1 k2 k3 k5 "ValueError.__new__")/\h.Ns N mN/\(∀n∈calmNames,mN n=none)/\OTail h bm
theorem OX.own {K:Jh}{C:Addr}{bm:List Ji}(O:OX K C bm):OwnExc K C bm:=⟨λh k=>by
 obtain⟨nm,q,N,bs,hdct,sn,sub,ab,col,dd,k0,k1,k2,k3,k5,mN,h1,h2,h3,h4⟩:=O.at_ h k;exact⟨nm,q,N,bs,hdct,sn,sub,ab,col,dd,k0,k1,k2,k3,k5,mN,h1,h2,h3 _ (.head _),h4.tail⟩⟩
section
variable {M:Model}{A:J0}{E:Ji->Jl->Prop}{s:Jl}
theorem G3 {base:Heap}{env:Env}{outer:List Env}{L C e:Addr}{T:Option Addr}{Q:Unit->Jl->Prop}(hfr:A.frames=some (env::outer))(hl:s.heap.FunFrames base (env::outer))(hf:env.frame=some L)
  (F:HS s.heap C e T) (h:∀h' T',CS ((env::outer).filterMap (·.frame)) C e T s.heap h' T'->Q () { s with heap:=h' }) :
  wpAny M A (P3 (.ref e) env) (λ_ s'=>wpAny M A (setFlight (.ref e) none) Q E s') E s:=by
 generalize hB:NF s.heap (e::(T.toList++(env::outer).filterMap (·.frame)))=B
 have bm:∀b,b∈e::(T.toList++(env::outer).filterMap (·.frame))->B.get? b=none:=λb m=>by rw[<-hB];exact Mt _ m
 have hl':s.heap.FunFrames B (env::outer):=fY hl λa ha=>bm a (Jk _ (JO _ ha))
 have hst:B.StaysIn s.heap:=λb o q=>by rw[<-hB]at q;exact MO _ q
 have hen:B.get? e=none:=bm e Jq
 have main:∀h',Heap.Left B (env::outer) e (.ref C) s.heap h'->Q () { s with heap:=h' }:=λh' ⟨x1,x2,⟨oe,vs,T',oT,ts,he,hc,hd,h1,hnT,hTe,hT,hdT,h3⟩,x4⟩=>by
  refine h h' T' ⟨⟨hTe,oe,vs,he,hc,hd,h1,oT,ts,hT,hdT,h3⟩,?_,λb o n1 n2 n3 q=> ?_,λb o m q=> ?_⟩
  ·cases q:s.heap.get? T' with
   | none=>exact .inr rfl
   | some o=>
    left
    by_cases z:T'∈e::(T.toList++(env::outer).filterMap (·.frame))
    ·rcases Ju.mp z with z | z
     ·exact absurd z hTe
     ·rcases JN.mp z with z | z
      ·cases T with
       | none=>simp at z
       | some t=>simp at z;rw[z]
      ·obtain⟨_,o',ho',hnf⟩:=x2.mem z
       rw[hT]at ho';cases ho';exact absurd hdT (hnf ts)
    ·rw[<-hB,Ln _ q z]at hnT;cases hnT
  ·refine x1 b o ?_
   rw[<-hB];refine Ln _ q λz=> ?_
   rcases Ju.mp z with z | z
   ·exact n2 z
   ·rcases JN.mp z with z | z
    ·cases T with
     | none=>simp at z
     | some t=>simp at z;exact n3 (by rw[z])
    ·exact n1 z
  ·obtain⟨_,o',ho',hnf⟩:=hl.mem m
   rw[q]at ho';cases ho';exact x4 b o q hnf
 cases T with
 | none=>
  obtain⟨oe,vs,he,hc,hd,h1⟩:=F;unfold P3;simp only[hf];refine Jn (Lf he hd h1 ?_)
  rw[if_neg (by decide)]
  refine wpAny_newEntry hfr hl' hf he hst hen hd (KF.mp h1).1 λh' x=>main h' ?_
  rw[hc]at x;exact x
 | some t=>
  obtain⟨hte,oe,vs,he,hc,hd,h1,oT,ts,hT,hdT,h3⟩:=F
  have hnT:B.get? t=none:=bm t (Jk _ (Kq _ (by simp)))
  unfold P3;simp only[hf];refine Jn (Lf he hd h1 ?_)
  rw[if_pos (show(JQ t != JY)=true from by simp)]
  refine Jn (Lf hT hdT h3 ?_)
  rw[if_neg (show ¬((JY == rawInt L)=true)from by simp[rawInt])]
  refine Jn (Od hT hdT (KF.mp h3).1 ?_)
  have other:∀b,b≠t->(s.heap.update t (OD (·.setIfInBounds 3 JY))).get? b=s.heap.get? b:=λb hb=>L6 _ _ (LD hb)
  have noRec:∀b o,s.heap.get? b=some o->(∀vs,o.data≠ .fields vs)->b≠t:=λb o hb hnf q=>by
   rw[q,hT]at hb;injection hb with hb;subst hb;exact hnf ts hdT
  refine wpAny_newEntry hfr (hl'.of_keeps λb o hb hnf=>⟨o,(other b (noRec b o hb hnf)).trans hb,rfl⟩) hf ((other e (LD hte)).trans he)
   (λb o hbo=>(other b λq=>by rw[q,hnT]at hbo;cases hbo).trans (hst b o hbo)) hen hd (KF.mp h1).1
   λh' x=>main h' ?_
  obtain⟨x1,x2,x3,x4⟩:=x;rw[hc]at x3;exact⟨x1,x2,x3,λb o hb hnf=>x4 b o ((other b (noRec b o hb hnf)).trans hb) hnf⟩
end
section
variable {X:Cx}{pins:List (Addr×Obj)}{σ:L2.St}{H:Hp}{s:Jl}{h':Heap}
theorem Inv.gone {C e T':Addr}{T:Option Addr}(I:Inv X pins σ H s)(hst:X.stack=X.env::X.outer)(hfe:X.env.frame=some X.env.locals)(hcl:∀x c,X.env.cells.lookup x≠some c)(hex:X.ex= [])
  (g:CS ((X.env::X.outer).filterMap (·.frame)) C e T s.heap h' T') (he:H e=none) (heo:X.s₀.heap.get? e=none) (hT:∀t,T=some t->H t=none/\X.s₀.heap.get? t=none) (hp:∀p∈X.pn++pins,p.1≠e/\T≠some p.1) :
  Inv X pins σ H { s with heap:=h' }:=by
 have mem:∀b,b∈(X.env::X.outer).filterMap (·.frame)↔b=X.env.locals\/b∈X.fs:=λb=>by
  rw[KI,hfe];exact Ju
 have out:∀b o,X.s₀.heap.get? b=some o->b≠X.env.locals:=λb o q z=>by
  have h1:=Jx q
  have h2:=I.ok.above;rw[z]at h1;exact absurd (JE h1 h2) (JU _)
 have ne:∀b o,X.s₀.heap.get? b=some o->b≠e/\T≠some b:=λb o q=>⟨λz=>(by subst z;rw[heo]at q;cases q),λz=>(by rw[(hT b z).2]at q;cases q)⟩
 have fr:∀b,b∈(X.env::X.outer).filterMap (·.frame)->H b=none:=λb z=>I.Ip b (by rw[hst];exact z)
 have keepH:∀b u,H b≠none->s.heap.get? b=some u->h'.get? b=some u:=λb u hb q=>by
  refine g.keep b u (λz=>hb (fr b z)) (λz=>hb (by rw[z];exact he)) (λz=>hb (hT b z).1) q
 refine⟨I.ok,I.os,I.bare,⟨λb o q n hb hx=> ?_,λb o q n hb hx=> ?_,I.base.free,λb o q hx=> ?_,I.base.tups,I.base.frzs,I.base.tbls⟩,?_,λx c z=>absurd z (hcl x c),I.free,I.freeC,λp hp'=> ?_,λa o q=> ?_,I.len⟩
 ·exact g.keep b o (λz=>((mem b).mp z).elim (out b o q) hb) (ne b o q).1 (ne b o q).2 (I.base.keep b o q n hb hx)
 ·obtain⟨sl,q1⟩:=I.base.slot b o q n hb hx
  obtain⟨sl',q2⟩:=g.slot b _ ((mem b).mpr (.inr hb)) q1;exact⟨sl',q2⟩
 ·obtain⟨o',q1⟩:=I.base.there b o q hx
  by_cases z:b∈(X.env::X.outer).filterMap (·.frame)
  ·obtain⟨sl,q2⟩:=g.slot b o' z q1
   exact⟨_,q2⟩
  ·exact⟨o',g.keep b o' z (ne b o q).1 (ne b o q).2 q1⟩
 ·obtain⟨m,⟨o,es,ep,ho,hd,r⟩,hl⟩:=I.loc
  obtain⟨sl,q2⟩:=g.slot X.env.locals o ((mem _).mpr (.inl rfl)) ho;refine⟨m,⟨_,es,ep,q2,hd,r⟩,λi x v a1 a2 a3=> ?_⟩
  obtain⟨u,ru,lk⟩:=hl i x v a1 a2 a3;refine⟨u,ru,?_⟩
  rcases lk with z | ⟨_,c,z,_⟩
  ·exact .inl z
  ·exact absurd z (hcl x c)
 ·obtain⟨b1,b2,b3,b4,b5⟩:=I.pin p hp'
  exact⟨g.keep p.1 p.2 (λz=>((mem _).mp z).elim b3 b4) (hp p hp').1 (hp p hp').2 b1,b2,b3,b4,b5⟩
 ·refine(I.hok a o q).Iw (λb u hb z=>keepH b u ?_ z) (λ_ z=>z) λ_ _ z=>z
  rcases hb with rfl | hb
  ·rw[q];simp
  ·rw[hb];simp
end
section
variable {M:Model}{A:J0}{E:Ji->Jl->Prop}{h:Heap}{g:Array GenState}{d:Drawn}{t:Nat}{os:OsState}
variable {nm q:Str}{C N:Addr}{bs bm:List Ji}{hdct:Bool}{sn:List Str}{sub:List Ji}{ab:Bool}{col:Option Bool}{dd:Option Addr}{k0 k1 k2 k3 k5:Option Ji}{newId:String}
variable {nm' q':Str}{D N':Addr}{bs' bm':List Ji}{hdct':Bool}{sn':List Str}{sub':List Ji}{ab':Bool}{col':Option Bool}{dd':Option Addr}{k0' k1' k2' k3' k5':Option Ji}{newId':String}
theorem xK {e:Addr}{oe:Obj}{Q:Bool->Jl->Prop}(hC:h.get? C=some (LK nm q C N bs bm hdct sn sub ab col dd k0 k1 k2 k3 k5 newId))(hD:h.get? D=some (LK nm' q' D N' bs' bm' hdct' sn' sub' ab' col' dd' k0' k1' k2' k3' k5' newId'))
  (he:h.get? e=some oe) (hcls:oe.cls= .ref C) (hb:bm'.contains (.type "BaseException")=true) (hin:(JQ C::bm).contains (.ref D)=true) (hq:Q true ⟨h,g,d,t,os⟩):wpAny M A (excMatches (.ref e) (.ref D)) Q E ⟨h,g,d,t,os⟩:=by
 have hcB:(JQ D::bm').contains (.type "BaseException")=true:=by rw[LX,hb,Bool.or_true]
 have f:=tc_notTuple;unfold excMatches
 repeat (first | (with_reducible refine Pc he ?_;rw[hcls]) | with_reducible refine Pc hD ?_ | (with_reducible refine Ou hD ?_;rw[hcB]) | (with_reducible refine Ou hC ?_;rw[hin]) | wp_step)
 exact hq
end
abbrev Dk (X:Cx)(e:Addr)(oe:Obj):Cx:={ X with A:=X.A.mark (some (.ref e)),calm:=false,pn:=(e,oe)::X.pn,xe:=λ_ _=>False }
section
variable {X:Cx}{pins:List (Addr×Obj)}{σ:L2.St}{H:Hp}{s:Jl}{e:Addr}{oe:Obj}
theorem wC (I:Inv X pins σ H s)(he:s.heap.get? e=some oe)(hH:H e=none)(hne:e≠X.env.locals)(hf:e∉X.fs)(hc:∀v,oe.data≠ .cell v):Inv (Dk X e oe) pins σ H s:=by
 have ok:=I.ok;refine⟨⟨ok.mod,ok.kind,ok.glob,ok.blt,ok.above,ok.inj,ok.has,ok.cab,(λz=>by cases z),?_,ok.stk,ok.exf,ok.bs,ok.bsz,ok.noex,ok.exfs,ok.funs,ok.frf⟩,I.os,I.bare,I.base,I.loc,I.cell,I.free,I.freeC,λp hp=> ?_,I.hok,I.len⟩
 ·exact ok.frames
 ·rcases Ju.mp (show p∈(e,oe)::(X.pn++pins)from hp)with z | z
  ·subst z;exact⟨he,hH,hne,hf,hc⟩
  ·exact I.pin p z
theorem Ci (ok:X.Ok)(I:Inv (Dk X e oe) pins σ H s):Inv X pins σ H s:=
 ⟨ok,I.os,I.bare,I.base,I.loc,I.cell,I.free,I.freeC,λp hp=>I.pin p (Jk _ hp),I.hok,I.len⟩
end
section
variable {X:Cx}
theorem Inv.IU {σ:L2.St}{H:Hp}{s:Jl}(pins:List (Addr×Obj))(I:Inv X pins σ H s):Inv { X with pn:=X.pn++pins } [] σ H s:=
 ⟨⟨I.ok.mod,I.ok.kind,I.ok.glob,I.ok.blt,I.ok.above,I.ok.inj,I.ok.has,I.ok.cab,I.ok.hd,I.ok.frames,I.ok.stk,I.ok.exf,I.ok.bs,I.ok.bsz,I.ok.noex,I.ok.exfs,I.ok.funs,I.ok.frf⟩,I.os,I.bare,I.base,I.loc,I.cell,I.free,I.freeC,λp hp=>I.pin p (by rw[JZ]at hp;exact hp),I.hok,I.len⟩
theorem Inv.IY {σ:L2.St}{H:Hp}{s:Jl}{pins pins1:List (Addr×Obj)}{xe:Ji->Jl->Prop}(I:Inv { X with pn:=X.pn++pins,xe:=xe } pins1 σ H s):Inv X pins σ H s:=
 ⟨⟨I.ok.mod,I.ok.kind,I.ok.glob,I.ok.blt,I.ok.above,I.ok.inj,I.ok.has,I.ok.cab,I.ok.hd,I.ok.frames,I.ok.stk,I.ok.exf,I.ok.bs,I.ok.bsz,I.ok.noex,I.ok.exfs,I.ok.funs,I.ok.frf⟩,I.os,I.bare,I.base,I.loc,I.cell,I.free,I.freeC,λp hp=>I.pin p (Kq _ hp),I.hok,I.len⟩
end
def yE:Ji->Bool
 | .str _ _=>true
 | _=>false
theorem G2 {K:Jh}{N:Addr}{ob:Ji}{oe:Option Addr}{es:Array DictEntry}{n:Nat}{oz:Array (Option Ji)}(r:K.lookup N=some ⟨ob,oe,.dict es n,oz⟩)(s:(es.toList.all λe=>yE e.key)=true)
  (u0:LM K N "__init__" =some none) (u1:LM K N "__getattribute__" =some none) (u2:LM K N "__getattr__" =some none) (u3:LM K N "__class__" =some none) :
  ∀h:Heap,K.In h->∃mN,h.Ns N mN/\∀n∈calmNames,mN n=none:=λh k=>by
 refine⟨nsFind es,⟨_,es,n,k _ _ r,rfl,λe he=> ?_,λ_=>rfl⟩,λx hx=> ?_⟩
 ·have:=JP.mp s e (by simpa using he)
  cases q:e.key <;> rw[q]at this <;> first | exact⟨_,_,rfl⟩ | cases this
 ·have key:∀x,LM K N x=some none->nsFind es x=none:=λx u=>by
   unfold LM at u;rw[r]at u;simp only at u
   split at u
   ·cases u
   ·rename_i he
    unfold nsFind findBy;rw[<-Ox,he];rfl
  unfold calmNames at hx;simp only[Ju,KD,or_false]at hx;rcases hx with rfl | rfl | rfl | rfl
  ·exact key _ u0
  ·exact key _ u1
  ·exact key _ u2
  ·exact key _ u3
section
variable {K:Jh}{nm q:Str}{C N:Addr}{bs:List Ji}{hdct:Bool}{sn:List Str}{sub:List Ji}{ab:Bool}{col:Option Bool}{dd:Option Addr}{k0 k1 k2 k3 k5:Option Ji}
variable {nm' q':Str}{D N':Addr}{bs':List Ji}{hdct':Bool}{sn':List Str}{sub':List Ji}{ab':Bool}{col':Option Bool}{dd':Option Addr}{k0' k1' k2' k3' k5':Option Ji}
theorem BW (w:K.lookup C=some (LK nm q C N bs u6 hdct sn sub ab col dd k0 k1 k2 k3 k5 "ValueError.__new__"))(ns:∀h:Heap,K.In h->∃mN,h.Ns N mN/\∀n∈calmNames,mN n=none):OX K C u6:=⟨λh k=>by
 obtain⟨mN,h1,h2⟩:=ns h k;exact⟨nm,q,N,bs,hdct,sn,sub,ab,col,dd,k0,k1,k2,k3,k5,mN,k _ _ w,h1,h2,.base⟩⟩
theorem za (w:K.lookup C=some (LK nm q C N bs (.ref D::u6) hdct sn sub ab col dd k0 k1 k2 k3 k5 "ValueError.__new__"))(ns:∀h:Heap,K.In h->∃mN,h.Ns N mN/\∀n∈calmNames,mN n=none)
  (wD:K.lookup D=some (LK nm' q' D N' bs' u6 hdct' sn' sub' ab' col' dd' k0' k1' k2' k3' k5' "ValueError.__new__")) (nsD:∀h:Heap,K.In h->∃mN,h.Ns N' mN/\∀n∈calmNames,mN n=none):OX K C (.ref D::u6):=⟨λh k=>by
 obtain⟨mN,h1,h2⟩:=ns h k;obtain⟨mD,d1,d2⟩:=nsD h k;exact⟨nm,q,N,bs,hdct,sn,sub,ab,col,dd,k0,k1,k2,k3,k5,mN,k _ _ w,h1,h2,.own (k _ _ wD) d1 d2 .base⟩⟩
end
end Tr
namespace L2
open PySem PySem.Spec PyProof.Rows
section
variable {κ:Type}[DecidableEq κ]
def jA (kvs:List (κ×V))(k:κ):Option V:=(kvs.find? λkv=>decide (kv.1=k)).map (·.2)
def dD (kvs:List (κ×V))(k:κ)(v:V):List (κ×V):=
 if (kvs.any λkv=>decide (kv.1=k))=true then kvs.map (λkv=>if kv.1=k then(kv.1,v)else kv)else kvs++ [(k,v)]
theorem yy {k:κ}:jA ([]:List (κ×V)) k=none:=rfl
theorem jY {p:κ×V}{r:List (κ×V)}{k:κ}(e:p.1=k):jA (p::r) k=some p.2:=by simp[jA,Lx,e]
theorem jZ {p:κ×V}{r:List (κ×V)}{k:κ}(e:¬ p.1=k):jA (p::r) k=jA r k:=by simp[jA,Lx,e]
theorem rL (k:κ):∀kvs:List (κ×V),(kvs.any λkv=>decide (kv.1=k))=(jA kvs k).isSome
 | [] =>rfl
 | p::r=>by
  rw[Lq]
  by_cases e:p.1=k
  ·simp only[jY e,decide_eq_true e,Bool.true_or,OA]
  ·rw[jZ e,decide_eq_false e,OB];exact rL k r
theorem fP (kvs:List (κ×V))(k:κ)(v:V):(dD kvs k v).length<=kvs.length+1:=by
 unfold dD;split
 ·rw[Jo];omega
 ·rw[Js,Jp,MD];omega
theorem RelO.II {o:Option V}{u:Option Ji}(r:RelO o u):o.isSome=u.isSome:=by
 cases o with
 | none=>cases u with
  | none=>rfl
  | some _=>exact(show False from r).elim
 | some _=>cases u with
  | none=>exact(show False from r).elim
  | some _=>rfl
theorem RelO.getD {o:Option V}{u:Option Ji}{d:V}{d':Ji}(r:RelO o u)(rd:RelV d d'):RelV (o.getD d) (u.getD d'):=by
 cases o with
 | none=>cases u with
  | none=>exact rd
  | some _=>exact(show False from r).elim
 | some _=>cases u with
  | none=>exact(show False from r).elim
  | some _=>exact r
theorem KV.val {kvs:List (κ×V)}{vs:List (κ×Ji)}(r:KV kvs vs)(k:κ):RelO (jA kvs k) (valueAt vs k):=by
 unfold KV at r
 induction r with
 | nil=>exact Lh
 | @cons p q ps qs h t ih=>
  obtain⟨h1,h2⟩:=h
  by_cases e:p.1=k
  ·have e':q.1=k:=h1.symm.trans e
   have b:valueAt (q::qs) k=some q.2:=by simp[valueAt,Lx,e']
   rw[jY e,b];exact h2
  ·have e':¬ q.1=k:=λz=>e (h1.trans z)
   have b:valueAt (q::qs) k=valueAt qs k:=by simp[valueAt,Lx,e']
   rw[jZ e,b];exact ih
theorem KV.any {kvs:List (κ×V)}{vs:List (κ×Ji)}(r:KV kvs vs)(k:κ):(kvs.any λkv=>decide (kv.1=k))=vs.any λkv=>decide (kv.1=k):=by
 unfold KV at r
 induction r with
 | nil=>rfl
 | cons h t ih=>rw[Lq,Lq,ih,h.1]
theorem KV.IT {kvs:List (κ×V)}{vs:List (κ×Ji)}(r:KV kvs vs)(k:κ){y:V}{u:Ji}(ry:RelV y u) :
  KV (kvs.map λkv=>if kv.1=k then(kv.1,y)else kv) (vs.map λkv=>if kv.1=k then(kv.1,u)else kv):=by
 unfold KV at r ⊢
 induction r with
 | nil=>exact .nil
 | @cons p q ps qs h t ih=>
  rw[Jm,Jm];refine .cons ?_ ih
  obtain⟨h1,h2⟩:=h
  by_cases e:p.1=k
  ·rw[if_pos e,if_pos (h1.symm.trans e)];exact⟨h1,ry⟩
  ·rw[if_neg e,if_neg (λz=>e (h1.trans z))];exact⟨h1,h2⟩
theorem KV.put {kvs:List (κ×V)}{vs:List (κ×Ji)}(r:KV kvs vs)(k:κ){y:V}{u:Ji}(ry:RelV y u):KV (dD kvs k y) (stored vs k u):=by
 unfold dD stored;rw[r.any k]
 by_cases e:(vs.any λkv=>decide (kv.1=k))=true
 ·rw[if_pos e,if_pos e];exact r.IT k ry
 ·rw[if_neg e,if_neg e];exact Paired.snoc r ⟨rfl,ry⟩
theorem KV.length {kvs:List (κ×V)}{vs:List (κ×Ji)}(r:KV kvs vs):kvs.length=vs.length:=Ni r
end
theorem wA {P:JK}{w:Kn}{k:Key}{u:Ji}(r:RelV (kV k) u):(cq P w).is k u=true:=by
 cases k with
 | inl i=>obtain⟨t,e⟩:=(show ∃t,u=KG i t from r);subst e;exact sL P w i t
 | inr x=>obtain⟨t,e⟩:=(show ∃t,u=KH x t from r);subst e;exact sJ P w x t
theorem pA {P:JK}{w:Kn}:∀{ks:List Key} {us:List Ji},Vals (ks.map kV) us->ItemsAre (cq P w) ks us
 | [],_,r=>by rw[NI]at r;cases r;exact .nil
 | k::ks,_,r=>by
  rw[Jm]at r
  cases r with
  | cons h t=>exact .cons (wA h) (pA t)
abbrev KT (H:Hp):List (List Key×V)->List (List Key×Addr×Ji)->Prop:=P8 λp q=>p.1=q.1/\H q.2.1=some (.tup (p.1.map kV))/\RelV p.2 q.2.2
theorem KT.val {H:Hp}{kvs:List (List Key×V)}{xs:List (List Key×Addr×Ji)}(r:KT H kvs xs)(k:List Key):RelO (jA kvs k) ((atKey xs k).map (·.2)):=by
 induction r with
 | nil=>exact Lh
 | @cons p q ps qs h t ih=>
  obtain⟨h1,_,h2⟩:=h
  by_cases e:p.1=k
  ·have e':q.1=k:=h1.symm.trans e
   have b:atKey (q::qs) k=some q.2:=by simp[atKey,Lx,e']
   rw[jY e,b];exact h2
  ·have e':¬ q.1=k:=λz=>e (h1.trans z)
   have b:atKey (q::qs) k=atKey qs k:=by simp[atKey,Lx,e']
   rw[jZ e,b];exact ih
theorem KT.IT {H:Hp}{kvs:List (List Key×V)}{xs:List (List Key×Addr×Ji)}(r:KT H kvs xs)(k:List Key){y:V}{u:Ji}(ry:RelV y u) :
  KT H (kvs.map λkv=>if kv.1=k then(kv.1,y)else kv) (xs.map (putAt k u)):=by
 induction r with
 | nil=>exact .nil
 | @cons p q ps qs h t ih=>
  rw[Jm,Jm];refine .cons ?_ ih
  obtain⟨h1,h2,h3⟩:=h;unfold putAt
  by_cases e:p.1=k
  ·rw[if_pos e,if_pos (h1.symm.trans e)];exact⟨h1,h2,ry⟩
  ·rw[if_neg e,if_neg (λz=>e (h1.trans z))];exact⟨h1,h2,h3⟩
theorem KT.put {H:Hp}{kvs:List (List Key×V)}{xs:List (List Key×Addr×Ji)}(r:KT H kvs xs)(k:List Key){b:Addr}{y:V}{u:Ji}(hb:H b=some (.tup (k.map kV)))(ry:RelV y u) :
  KT H (dD kvs k y) (storedH xs k b u):=by
 have e:(kvs.any λkv=>decide (kv.1=k))=(atKey xs k).isSome:=by
  rw[rL,(r.val k).II,Option.isSome_map]
 unfold dD storedH;rw[e]
 by_cases q:(atKey xs k).isSome=true
 ·rw[if_pos q,if_pos q];exact r.IT k ry
 ·rw[if_neg q,if_neg q];exact Paired.snoc r ⟨rfl,hb,ry⟩
theorem KT.keeps {H H':Hp}{kvs:List (List Key×V)}{xs:List (List Key×Addr×Ji)}(r:KT H kvs xs)(ht:∀b ys,H b=some (.tup ys)->H' b=some (.tup ys)):KT H' kvs xs:=
 Paired.IS r λ_ _ z=>⟨z.1,ht _ _ z.2.1,z.2.2⟩
section
variable {P:JK}{w:Kn}{H:Hp}{h:Heap}{a:Addr}
theorem vE {u:HO}(ok:HOk P w H h)(e:Rd H a u):ObjOk P w H h a u:=e.ok ok
theorem tu {kvs:List (Key×V)}(ok:HOk P w H h)(e:Rd H a (.dK kvs)):kvs.length<=sizeLine/\(a == LB)=false/\∃vs,KV kvs vs/\h.DictOf (cq P w) a vs:=
 show ObjOk P w H h a (.dK kvs)from vE ok e
theorem HJ {kvs:List (Key×V)}(ok:HOk P w H h)(e:H a=some (.dK kvs)):kvs.length<=sizeLine/\(a == LB)=false/\∃vs,KV kvs vs/\h.DictOf (cq P w) a vs:=tu ok (.inl e)
theorem nE {ks:List Key}(ok:HOk P w H h)(e:H a=some (.tup (ks.map kV))):(M9 (cq P w)).is h ks a:=by
 obtain⟨_,its,r,o,h1,h2,n,h3⟩:=(show ObjOk P w H h a (.tup (ks.map kV))from ok a _ e)
 exact⟨o,its.toArray,n,h1,h2,h3,by simpa using pA r⟩
theorem tj {kvs:List (List Key×V)}(ok:HOk P w H h)(e:Rd H a (.dT kvs)):kvs.length<=sizeLine/\(a == LB)=false ∧
  ∃xs,KT H kvs xs/\h.DictOfH (M9 (cq P w)) a xs:=by
 obtain⟨z,y,xs,r,o,es,ep,h1,h2,h3,h4,h5⟩:=(show ObjOk P w H h a (.dT kvs)from vE ok e)
 refine⟨z,y,xs,r,o,es,ep,h1,h2,h3,h4,λx hx=> ?_,h5⟩
 have all:∀{l:List (List Key×V)} {m:List (List Key×Addr×Ji)},KT H l m->∀x∈m,(M9 (cq P w)).is h x.1 x.2.1:=by
  intro l m q
  induction q with
  | nil=>intro x hx;exact nomatch hx
  | @cons p q ps qs hq t ih=>
   intro x hx;rcases Ju.mp hx with e | hx
   ·subst e
    exact nE ok (by rw[<-hq.1];exact hq.2.1)
   ·exact ih x hx
 exact all r x hx
theorem As {kvs:List (List Key×V)}(ok:HOk P w H h)(e:H a=some (.dT kvs)):kvs.length<=sizeLine/\(a == LB)=false ∧
  ∃xs,KT H kvs xs/\h.DictOfH (M9 (cq P w)) a xs:=tj ok (.inl e)
end
def DGet (H:Hp)(a:Addr)(y:V)(r:Option V):Prop:=
 (∃kvs k,Rd H a (.dK kvs)/\y=kV k/\r=jA kvs k)\/∃kvs k b,Rd H a (.dT kvs)/\y= .ref b/\H b=some (.tup (k.map kV))/\r=jA kvs k
def DPut (H:Hp)(a:Addr)(y v:V)(H':Hp):Prop:=
 (∃kvs k,H a=some (.dK kvs)/\y=kV k/\kvs.length<sizeLine/\H'=upd H a (.dK (dD kvs k v))) ∨
 ∃kvs k b,H a=some (.dT kvs)/\y= .ref b/\H b=some (.tup (k.map kV))/\kvs.length<sizeLine/\H'=upd H a (.dT (dD kvs k v))
theorem DPut.t {H:Hp}{a b:Addr}{kvs:List (List Key×V)}{k:List Key}{v:V}(e:H a=some (.dT kvs))(eb:H b=some (.tup (k.map kV)))(hl:kvs.length<sizeLine) :
  DPut H a (.ref b) v (upd H a (.dT (dD kvs k v))):=.inr ⟨kvs,k,b,e,rfl,eb,hl,rfl⟩
section
variable {X:Cx}{pins:List (Addr×Obj)}{σ:St}{H:Hp}{s:Jl}{a:Addr}{y v:V}{u r:Ji}{o:Option V}{A:J0}{E:Ji->Jl->Prop}
theorem Inv.big (I:Inv X pins σ H s):LB<s.heap.objs.size:=by
 have h:JV<s.heap.objs.size:=(I.mod.glob.keeps I.bk).lt;exact Nat.lt_trans (by decide) h
theorem x6 {Q:Ji->Jl->Prop}(hu:A.units+1<cLine)(I:Inv X pins σ H s)(g:DGet H a y (some v))(ry:RelV y u)(h:∀w' s',Inv X pins σ H s'->RelV v w'->Q w' s') :
  wpAny (model X.prog X.w) A (getItem (.ref a) u) Q E s:=by
 rcases g with⟨kvs,k,e,ey,l⟩ | ⟨kvs,k,b,e,ey,eb,l⟩
 ·subst ey
  obtain⟨z,hd,vs,rel,dd⟩:=tu I.hok e;obtain⟨w',hw,rw'⟩:=RelO.some_of (v:=v) (o:=valueAt vs k) (by rw[l];exact rel.val k)
  exact wpAny_getItem_of (wA ry) dd.mapOf hw (h w' _ (I.tok _) rw')
 ·subst ey
  cases (show u=JQ b from ry)
  obtain⟨z,hd,xs,rel,dd⟩:=tj I.hok e;obtain⟨w',hw,rw'⟩:=RelO.some_of (v:=v) (o:=(atKey xs k).map (·.2)) (by rw[l];exact rel.val k)
  obtain⟨p,hp,hp2⟩:=Ny.mp hw;refine wpAny_getItem_heap (L4 hu) (nE I.hok eb) dd hp ?_
  rw[hp2];exact h w' _ (I.tok _) rw'
theorem rg {h':Heap}{t':Nat}{ob:HO}(I:Inv X pins σ H s)(mu:HR (H a))(hs:Mo a s.heap h')(he:∃q,h'.get? a=some q)(new:ObjOk X.prog X.w (upd H a ob) h' a ob) :
  Inv X pins σ (upd H a ob) { s with heap:=h',toks:=t' }:=
 I.write (x:=a) (e:=a) mu (.inl rfl) (λb q hb z=>(hs.2 b hb).trans z) he new
theorem Fz {P:JK}{w:Kn}{H':Hp}{h':Heap}{kvs:List (Key×V)}{vs:List (Key×Ji)}(z:kvs.length<=sizeLine)(hd:(a == LB)=false)(rel:KV kvs vs)(dd:h'.DictOf (cq P w) a vs) :
  ObjOk P w H' h' a (.dK kvs):=⟨z,hd,vs,rel,dd⟩
theorem x5 {H':Hp}{Q:Unit->Jl->Prop}(hu:A.units+1<cLine)(I:Inv X pins σ H s)(g:DPut H a y v H')(ry:RelV y u)(rv:RelV v r)(h:∀s',Inv X pins σ H' s'->Q () s') :
  wpAny (model X.prog X.w) A (setItem (.ref a) u r) Q E s:=by
 rcases g with⟨kvs,k,e,ey,l,eH⟩ | ⟨kvs,k,b,e,ey,eb,l,eH⟩
 ·subst ey eH
  obtain⟨z,hd,vs,rel,dd⟩:=HJ I.hok e
  have hz:vs.length<=sizeLine:=by rw[<-rel.length];exact z
  have hl:(dD kvs k v).length<=sizeLine:=by have:=fP kvs k v;omega
  refine wpAny_setItem_pairs (hsz:=hz) (wA ry) dd λh' dd' hs=>h _ ?_
  have he:∃q,h'.get? a=some q:=let ⟨q,_,_,hq,_⟩:=dd';⟨q,hq⟩
  exact rg I (by rw[e];exact Lh) hs he (Fz hl hd (rel.put k rv) dd')
 ·subst ey eH
  cases (show u=JQ b from ry)
  obtain⟨z,hd,xs,rel,dd⟩:=As I.hok e
  have hz:xs.length<=sizeLine:=by rw[<-Ni rel];exact z
  have hl:(dD kvs k v).length<=sizeLine:=by have:=fP kvs k v;omega
  refine wpAny_setItem_heap (hsz:=hz) (L4 hu) (nE I.hok eb) dd λh' dd' hs=>h _ ?_
  obtain⟨q,es,ep,hq,h2,h3,h4,_,h5⟩:=dd';refine rg I (by rw[e];exact Lh) hs ⟨q,hq⟩ ⟨hl,hd,_,(rel.put k eb rv).keeps λc ys ec=> ?_,q,es,ep,hq,h2,h3,h4,h5⟩
  rw[aG (nr ec e (λz=>nomatch z))]
  exact ec
end
def CP (i:Expr):Prop:=∀ov iv,Ot i false ov iv=operate [ov,iv] (getItem ov iv)
theorem A9 {prog:JK}{w:Kn}{A:J0}{E:Ji->Jl->Prop}{s:Jl}{env:Env}{value slice:Expr}{pos:Pos}{T id:String}{Q:Ji->Jl->Prop}
  (hl:O9 (.type T) "__getitem__" =pure (some (.builtin id))) (hs:CP slice)
  (h:wpAny (model prog w) A (eval value env) (λo s₁=>wpAny (model prog w) A (eval slice env) (λi s₂=>s₂.TypeIs o T/\wpAny (model prog w) A (getItem o i) Q E s₂) E s₁) E s) :
  wpAny (model prog w) A (eval (.Subscript value slice pos) env) Q E s:=by
 refine Subscript_ (K7 h (λo s₁ h₁=>K7 h₁ (λi s₂ h₂=> ?_) λ_ _ x=>x) λ_ _ x=>x)
 obtain⟨hT,h₂⟩:=h₂;unfold OS;refine Jn ?_
 rw[getitemInPython_of_ne hT.not_modules];refine Jn (wpAny_specialOf hT hl ?_)
 have fin:wpAny (model prog w) A (Ot slice false o i) (λr s₃=>wpAny (model prog w) A (letTemporaryGo value o r >>= λ_=>pure r) Q E s₃) E s₂:=by
  rw[hs o i];exact wpAny_operating (K7 h₂ (λr s₃ h₃=>Jn (wpAny_letTemporaryGo (Jz h₃))) λ_ _ x=>x)
 first
  | exact Jz (Jn fin)
  | exact Jn (Jz (Jn fin))
  | exact Jn fin
theorem tD {X:Cx}{pins:List (Addr×Obj)}{σ:St}{H:Hp}{s:Jl}{a:Addr}{y:V}{o:Option V}(I:Inv X pins σ H s)(g:DGet H a y o):s.TypeIs (.ref a) "dict":=by
 rcases g with⟨kvs,k,e,_,_⟩ | ⟨kvs,k,b,e,_,_,_⟩
 ·obtain⟨_,_,vs,_,dd⟩:=tu I.hok e
  exact dd.typeIs
 ·obtain⟨_,_,xs,_,dd⟩:=tj I.hok e
  exact dd.typeIs
def Ge (td ty:TE):TE:=λσ H Q=>td σ H λx H1=>ty σ H1 λy H2=> ∃a v,x= .ref a/\DGet H2 a y (some v)/\Q v H2
def Gi (td ty tv:TE):TS:=λD σ H=>tv σ H λv H1=>td σ H1 λx H2=>ty σ H2 λy H3=> ∃a H4,x= .ref a/\DPut H3 a y v H4/\D.nx σ H4
section
variable {X:Cx}{o i e value:Expr}{pos pos' tpos:Pos}{td ty tv:TE}
theorem BU (hu:X.A.units+1<cLine)(ho:PE X o td)(hi:PE X i ty)(hs:CP i):PE X (.Subscript o i pos) (Ge td ty):=by
 intro pins s σ H Q I h;refine A9 PySem.F.slot_dict_getitem.lookup hs (bK (ho pins s σ H _ I h) λu s1 ⟨x,H1,I1,rx,q1⟩=>bK (hi pins s1 σ H1 _ I1 q1) λiv s2 hh_=> ?_)
 obtain⟨y,H2,I2,ry,a,v,ex,g,q2⟩:=hh_;subst ex;obtain rfl:u=JQ a:=rx;exact⟨tD I2 g,x6 hu I2 g ry λw' s3 I3 rw'=>⟨v,H2,I3,rw',q2⟩⟩
theorem BJ (hu:X.A.units+1<cLine)(ho:PE X o td)(hi:PE X i ty)(hv:PE X value tv)(hs:J4 value (some (.Subscript o i pos')) pos.line X.env=pure false) :
  PS X (.Assign [.Subscript o i pos'] value pos) (Gi td ty tv):=by
 intro pins s σ H D I h;refine wpAny_Assign_Subscript (bK (hv pins s σ H _ I h) λr s1 ⟨v,H1,I1,rv,q1⟩=>bK (ho pins s1 σ H1 _ I1 q1) λu s2 ⟨x,H2,I2,rx,q2⟩=>bK (hi pins s2 σ H2 _ I2 q2) λiv s3 ⟨y,H3,I3,ry,a,H4,ex,g,q3⟩=> ?_) hs
 subst ex;obtain rfl:u=JQ a:=rx;exact x5 hu I3 g ry rv λs4 I4=>⟨σ,H4,I4,q3⟩
end
theorem Au {P:JK}{w:Kn}{H:Hp}(h:Heap)(hb:LB<h.objs.size):ObjOk P w H (h.push { cls:=.type "dict",data:=.dict #[] }) h.objs.size (.dT []):=
 ⟨Ld _,beq_eq_false_iff_ne.mpr (LD (Ku hb)),[],.nil,_,#[],0,JF _ rfl,⟨rfl,rfl,rfl⟩,rfl,rfl,Me⟩
structure M1 (X:Cx)(o:Expr)(m:Str)(apos:Pos)(e:Expr)(cpos:Pos):Prop where
 base:JM o m X.env (eval o X.env)=eval o X.env
 few:((backTo cpos (Jy [e] X.env)).all (λx=> !x.1)&&(MW cpos (Lz [] X.env)).all (λx=>x.1.isSome)
  &&decide (([e]:List Expr).length+([]:List PZ).length+(if ([]:List PZ).isEmpty then 0 else 1)<30))=true
 line:(apos.endLine == cpos.line)=true
 trees:backTo cpos (Jy [e] X.env)= [(false,eval e X.env)]
structure M2 (X:Cx)(o:Expr)(m:Str)(apos:Pos)(e f:Expr)(cpos:Pos):Prop where
 base:JM o m X.env (eval o X.env)=eval o X.env
 few:((backTo cpos (Jy [e,f] X.env)).all (λx=> !x.1)&&(MW cpos (Lz [] X.env)).all (λx=>x.1.isSome)
  &&decide (([e,f]:List Expr).length+([]:List PZ).length+(if ([]:List PZ).isEmpty then 0 else 1)<30))=true
 line:(apos.endLine == cpos.line)=true
 trees:backTo cpos (Jy [e,f] X.env)= [(false,eval e X.env),(false,eval f X.env)]
def IsD (H:Hp)(a:Addr):Prop:=(∃kvs,Rd H a (.dK kvs))\/∃kvs,Rd H a (.dT kvs)
theorem Fh {X:Cx}{pins:List (Addr×Obj)}{σ:St}{H:Hp}{s:Jl}{a:Addr}(I:Inv X pins σ H s)(d:IsD H a) :
  s.TypeIs (.ref a) "dict"/\(∀b,JQ a= .ref b->∃ob,s.heap.get? b=some ob/\ob.dict=none)/\(a == LB)=false:=by
 rcases d with⟨kvs,e⟩ | ⟨kvs,e⟩
 ·obtain⟨_,hd,vs,_,dd⟩:=tu I.hok e
  refine⟨dd.typeIs,λb q=> ?_,hd⟩
  cases q;obtain⟨ob,_,_,h1,h2,_⟩:=dd;exact⟨ob,h1,h2.2.1⟩
 ·obtain⟨_,hd,xs,_,dd⟩:=tj I.hok e
  refine⟨dd.typeIs,λb q=> ?_,hd⟩
  cases q;obtain⟨ob,_,_,h1,h2,_⟩:=dd;exact⟨ob,h1,h2.2.1⟩
section
variable {X:Cx}{pins:List (Addr×Obj)}{σ:St}{H:Hp}{s:Jl}{a:Addr}{y d:V}{u r:Ji}{o:Option V}{A:J0}{E:Ji->Jl->Prop}
theorem FC {Q:Ji->Jl->Prop}(hu:A.units+1<cLine)(I:Inv X pins σ H s)(g:DGet H a y o)(ry:RelV y u)(h:∀w' s',Inv X pins σ H s'->RelV (o.getD .non) w'->Q w' s') :
  wpAny (model X.prog X.w) A (call (.builtin "dict.get") [.ref a,u]) Q E s:=by
 rcases g with⟨kvs,k,e,ey,l⟩ | ⟨kvs,k,b,e,ey,eb,l⟩
 ·subst ey
  obtain⟨z,hd,vs,rel,dd⟩:=tu I.hok e;refine call_meetsIn Mi dd.typeIs Nu (Nc _ _) (meets_dict_get (cq X.prog X.w) a (wA ry) hd) ⟨_,dd.mapOf,h _ _ (I.tok _) ?_⟩
  rw[l];exact(rel.val k).getD rfl
 ·subst ey
  cases (show u=JQ b from ry)
  obtain⟨z,hd,xs,rel,dd⟩:=tj I.hok e;refine call_meetsIn Mi dd.typeIs Nu (Nc _ _) (meetsH_dict_get (M9 (cq X.prog X.w)) a b hd) ⟨L4 hu,k,xs,nE I.hok eb,dd,h _ _ (I.tok _) ?_⟩
  rw[l];exact(rel.val k).getD rfl
end
def DD (td ty:TE):TE:=λσ H Q=>td σ H λx H1=> ∃a,x= .ref a/\IsD H1 a/\ty σ H1 λy H2=> ∃o,DGet H2 a y o/\Q (o.getD .non) H2
section
variable {X:Cx}{o e f:Expr}{apos cpos:Pos}{td ty tx:TE}
theorem y8 (hu:X.A.units+1<cLine)(ho:PE X o td)(he:PE X e ty)(m:M1 X o "get" apos e cpos):PE X (.Call (.Attribute o "get" apos) [e] [] cpos) (DD td ty):=by
 intro pins s σ H Q I h;refine wpAny_Call_method m.base m.few m.line PySem.F.plainAttrs_dict Mi PySem.F.type_dict_get (bK (ho pins s σ H _ I h) λu s1 hh_=> ?_)
 obtain⟨x,H1,I1,rx,a,ex,d,q1⟩:=hh_;subst ex;obtain rfl:u=JQ a:=rx;obtain⟨t1,t2,_⟩:=Fh I1 d;refine⟨t1,t2,?_⟩
 rw[m.trees];refine Ls rfl (LF (LU (bK (he pins s1 σ H1 _ I1 q1) λiv s2 ⟨y,H2,I2,ry,ov,g,q2⟩=>L8 ?_)))
 exact FC hu I2 g ry λw' s3 I3 rw'=>⟨_,H2,I3,rw',q2⟩
end
end L2
namespace Tr
open PySem PySem.Spec PyProof.Rows L2
theorem DGet.IX {H:Hp}{a b:Addr}{kvs:List (List Key×V)}{k:List Key}(e:Rd H a (.dT kvs))(eb:H b=some (.tup (k.map kV))):DGet H a (.ref b) (jA kvs k):=.inr ⟨kvs,k,b,e,rfl,eb,rfl⟩
theorem Ib {k:Nat}{A:J0}(h:Room k A):A.units+1<cLine:=by have:=h.un;omega
theorem nF {K:Jh}{O:Ow}{H:Hp}:∀{l:List T} {vs:List V} {k:List Key},nG l=some k->Reps K O H l vs->vs=k.map kV
 | [],vs,k,h,r=>by cases Reps.Da.mp r;cases h;rfl
 | t::l,vs,k,h,r=>by
  obtain⟨v,ws,rfl,p,q⟩:=Reps.me.mp r;unfold nG at h
  cases e1:C6 t with
  | none=>rw[e1]at h;cases h
  | some a=>
   cases e2:nG l with
   | none=>rw[e1,e2]at h;cases h
   | some b=>
    rw[e1,e2]at h;cases h;rw[nF e2 q,Jm]
    congr 1
    cases t with
    | int i=>cases e1;exact Rep.AC.mp p
    | str x=>cases e1;exact Rep.GE.mp p
    | _=>cases e1
theorem mi {K:Jh}{O:Ow}{H:Hp}{y:T}{v:V}{k:List Key}(h:keyOf y=some k)(r:Rep K O H y v):∃b,v= .ref b/\H b=some (.tup (k.map kV)):=by
 cases y with
 | tup l=>
  obtain⟨a,vs,e1,_,e3,e4⟩:=Rep.Fk.mp r;rw[nF h e4]at e3
  exact⟨a,e1,e3⟩
 | _=>cases h
theorem nQ {K:Jh}{O:Ow}{H:Hp}{k:List Key}:∀{ks ts:List T} {kvs:List (List Key×V)},ks.map keyOf=kvs.map (λp=>some p.1)->Reps K O H ts (kvs.map (·.2))->match oN ks ts k with
  | some t=> ∃v,jA kvs k=some v/\Rep K O H t v
  | none=>jA kvs k=none
 | [],ts,kvs,h,r=>by
  cases kvs with
  | nil=>unfold oN;exact yy
  | cons _ _=>cases h
 | k'::ks,ts,kvs,h,r=>by
  cases kvs with
  | nil=>cases h
  | cons p kvs=>
   rw[Jm,Jm]at h;injection h with h1 h2
   rw[Jm]at r
   cases ts with
   | nil=>have:=Reps.Da.mp r;cases this
   | cons t ts=>
    obtain⟨v,ws,e,q1,q2⟩:=Reps.me.mp r;injection e with e1 e2
    subst e1 e2;unfold oN
    by_cases hk:keyOf k'=some k
    ·rw[if_pos hk]
     rw[h1]at hk;injection hk with hk
     exact⟨_,jY hk,q1⟩
    ·rw[if_neg hk]
     have hk2:¬ p.1=k:=λz=>hk (by rw[h1,z])
     rw[jZ hk2];exact nQ h2 q2
theorem qj {κ:Type}[DecidableEq κ]{k:κ}{p:κ×V}{r:List (κ×V)}{v:V}(h:¬ p.1=k):dD (p::r) k v=p::dD r k v:=by
 unfold dD;rw[Lq,decide_eq_false h,OB]
 by_cases q:(r.any λkv=>decide (kv.1=k))=true
 ·rw[if_pos q,if_pos q,Jm,if_neg h]
 ·rw[if_neg q,if_neg q];rfl
theorem qk {κ:Type}[DecidableEq κ]{k:κ}{p:κ×V}{r:List (κ×V)}{v:V}(h:p.1=k)(hn:∀q∈r,q.1≠k):dD (p::r) k v=(p.1,v)::r:=by
 unfold dD;rw[Lq,decide_eq_true h,Bool.true_or,if_pos rfl,Jm,if_pos h]
 congr 1
 conv=>rhs;rw[<-List.map_id r]
 exact KN λq hq=>if_neg (hn q hq)
theorem nN {K:Jh}{O:Ow}{H:Hp}{kT vT:T}{k:List Key}{v:V}(hk:keyOf kT=some k)(hv:Rep K O H vT v):∀{ks ts:List T} {kvs:List (List Key×V)},ks.map keyOf=kvs.map (λp=>some p.1)->Reps K O H ts (kvs.map (·.2))->(kvs.map (·.1)).Nodup →
  (gH kT vT ks ts).1.map keyOf=(dD kvs k v).map (λp=>some p.1)/\Reps K O H (gH kT vT ks ts).2 ((dD kvs k v).map (·.2))
 | [],ts,kvs,h,r,_=>by
  cases kvs with
  | nil=>
   unfold gH;refine⟨?_,Reps.FS hv Reps.Gc⟩
   simp[dD,hk]
  | cons _ _=>cases h
 | k'::ks,ts,kvs,h,r,hn=>by
  cases kvs with
  | nil=>cases h
  | cons p kvs=>
   rw[Jm,Jm]at h;injection h with h1 h2
   rw[Jm]at r;rw[Jm]at hn;obtain⟨n1,n2⟩:=JX.mp hn
   cases ts with
   | nil=>have:=Reps.Da.mp r;cases this
   | cons t ts=>
    obtain⟨v',ws,e,q1,q2⟩:=Reps.me.mp r;injection e with e1 e2
    subst e1 e2;unfold gH
    by_cases hz:keyOf k'=keyOf kT
    ·rw[if_pos hz]
     have hp:p.1=k:=by rw[hz,hk]at h1;injection h1 with h1;exact h1.symm
     rw[qk hp λq hq z=>n1 (by rw[hp,<-z];exact List.mem_map_of_mem hq)]
     exact⟨by rw[Jm,Jm,h1,h2],Reps.FS hv q2⟩
    ·rw[if_neg hz]
     have hp:¬ p.1=k:=λz=>hz (by rw[h1,z,hk])
     obtain⟨a1,a2⟩:=nN hk hv h2 q2 n2;rw[qj hp];exact⟨by rw[Jm,Jm,h1,a1],Reps.FS q1 a2⟩
theorem CQ {H:Hp}{kvs:List (List Key×V)}{xs:List (List Key×Addr×Ji)}(rel:KT H kvs xs):kvs.map (·.1)=xs.map (·.1):=by
 induction rel with
 | nil=>rfl
 | cons h t ih=>rw[Jm,Jm,ih,h.1]
theorem Ax {X:Cx}{pins:List (Addr×Obj)}{σ:L2.St}{H:Hp}{s:Jl}{a:Addr}{kvs:List (List Key×V)}(I:Inv X pins σ H s)(e:H a=some (.dT kvs)):(kvs.map (·.1)).Nodup/\kvs.length<=sizeLine:=by
 obtain⟨z,_,xs,rel,_,_,_,_,_,_,_,_,hn⟩:=As I.hok e;rw[CQ rel];exact⟨hn,z⟩
section
variable {X:Cx}{a b:Expr}{fa fb:En->Rs T}{pos:Pos}
theorem GK (hu:X.A.units+1<cLine)(ha:b6 X a fa)(hb:b6 X b fb)(hs:CP b:=by intro _ _;rfl):b6 X (.Subscript a b pos) (o2 tw fa fb):=by
 refine PE.imp (BU hu ha hb hs) λσ H Q ⟨Z,O,E,hq⟩=> ?_
 obtain⟨Z1,O1,E1,h1⟩:=aV E hq;refine⟨Z1,O1,E1,Post.mono h1 λt H1 s1 q v r=> ?_⟩
 obtain⟨t',r',s',E',q'⟩:=q v r;obtain⟨Z2,O2,E2,h2⟩:=aV (f:=fb) E' q';refine⟨Z2,O2,E2,Post.mono h2 λt2 H2 s2 q2 v2 r2=> ?_⟩
 obtain⟨t2',r2',s2',E2',q2'⟩:=q2 v2 r2
 have r'':=r'.same s2';unfold tw at q2'
 split at q2'
 ·rename_i ks vs k hk
  split at q2'
  ·rename_i x hx
   obtain⟨a,kvs,e1,e2,e3,e4,e5⟩:=Rep.Il.mp r'';obtain⟨b,f1,f2⟩:=mi hk r2'
   have g:=nQ (k:=k) e4 e5;rw[hx]at g;obtain⟨w,g1,g2⟩:=g;exact⟨a,w,e1,by rw[f1,<-g1];exact DGet.IX e3 f2,q2' H2 (Same.refl H2) w g2⟩
  ·exact q2'.elim
 ·exact q2'.elim
end
end Tr
namespace Tr
open PySem PySem.Spec PyProof.Rows L2
open PySem.SeqAt
theorem zq {A:J0}{s:Jl}{x:T}{ux:Ji}(rx:ReV s x ux)(hu:A.units+60<cLine){l:List T}{us:List Ji}(hd:x.dep<=60\/deps l<=60)(r:ReVs s l us) :
  ∃e:Ji->Bool,(∀y∈us,EqAt A s y ux (e y))/\us.map e=l.map λt=>a6 t x:=by
 classical
 have ex:∀y∈us,∃t∈l,ReV s t y:=λy hy=>by
  obtain⟨i,hi,rfl⟩:=Lp hy
  have hl:=r.length
  have e1:l[i]? =some l[i]:=by simp
  obtain⟨u,q1,q2⟩:=r.get e1
  have:us[i]? =some us[i]:=by simp
  rw[this]at q1;cases q1;exact⟨l[i],KZ _,q2⟩
 let e:Ji->Bool:=λy=>decide (∃t∈l,ReV s t y/\a6 t x=true)
 have dep:∀t∈l,t.dep<=60\/x.dep<=60:=λt ht=>by
  rcases hd with h | h
  ·exact .inr h
  ·obtain⟨i,hi,rfl⟩:=Lp ht
   exact .inl (J2 (iM (i:=i) (by simp)) h)
 have uniq:∀y t t',ReV s t y->ReV s t' y->a6 t x=a6 t' x:=λy t t' z z'=>by
  rw[<-kx t,<-kx t',ReV.nf z z']
 have agree:∀y t,t∈l->ReV s t y->e y=a6 t x:=λy t h z=>by
  show decide (∃t∈l,ReV s t y/\a6 t x=true)=a6 t x
  cases q:a6 t x with
  | true=>exact decide_eq_true ⟨t,h,z,q⟩
  | false=>
   refine decide_eq_false ?_
   rintro ⟨t',h',z',q'⟩
   rw[<-uniq y t t' z z',q]at q';cases q'
 refine⟨e,λy hy=> ?_,?_⟩
 ·obtain⟨t,h,z⟩:=ex y hy
  rw[agree y t h z];exact(Cr 60 A s t x y ux (dep t h) hu z rx).1
 ·have go:∀(l':List T) (us':List Ji),(∀t∈l',t∈l)->ReVs s l' us'->us'.map e=l'.map λy=>a6 y x:=by
   intro l'
   induction l' with
   | nil=>intro us' _ r';rw[ReVs.Da.mp r'];rfl
   | cons t l' ih=>
    intro us' sub r';obtain⟨u,ws,rfl,p,q⟩:=ReVs.me.mp r';rw[Jm,Jm,ih ws (λt ht=>sub t (Jk _ ht)) q,agree u t (sub t Jq) p]
  exact go l us (λ_ h=>h) r
theorem nM {x:T}:∀{l:List T} {n k:Nat},je x l n=some k->n<=k/\(l.map λt=>a6 t x)[k - n]? =some true/\∀m,m<k - n->(l.map λt=>a6 t x)[m]? =some false
 | [],n,k,h=>by cases h
 | t::l,n,k,h=>by
  unfold je at h
  cases q:a6 t x with
  | true=>
   rw[q,if_pos rfl]at h;cases h;refine⟨Jw _,?_,λm hm=>by omega⟩
   rw[MS,Jm,q];rfl
  | false=>
   rw[q,if_neg (by decide)]at h
   obtain⟨h1,h2,h3⟩:=nM h
   have e:k - n=(k - (n+1))+1:=by omega
   refine⟨by omega,?_,λm hm=> ?_⟩
   ·rw[e,Jm,KA];exact h2
   ·cases m with
    | zero=>rw[Jm,q];rfl
    | succ m=>rw[Jm,KA];exact h3 m (by omega)
section
variable {X:Cx}{a b:Expr}{fa fb:En->Rs T}{pos apos cpos:Pos}
theorem yP (hu:X.A.units+61<cLine)(ha:b6 X a fa)(hb:b6 X b fb)(hn:bf b=true:=by rfl)
  (hbase:JM a "index" X.env (eval a X.env)=eval a X.env:=by rfl) (hline:(apos.endLine == cpos.line)=true:=by rfl):b6 X (.Call (.Attribute a "index" apos) [b] [] cpos) (oL fO fa fb):=by
 have hs:Jy [b] X.env=(false,eval b X.env)::Jy [] X.env:=a8 hn;intro pins s σ H Q I ⟨Z,O,E,hq⟩;refine ND hbase (by rw[hs];rfl) hline rfl (bK (ha pins s σ H _ I (aV E hq)) λv s1 hh_=> ?_)
 obtain⟨x,H1,I1,r1,t,rt,s',E',q1⟩:=hh_
 cases t with
 | lst l=>
  obtain⟨c,vs,e1,e2,e3,e4⟩:=Rep.Do.mp rt;subst e1;obtain rfl:v=JQ c:=r1;obtain⟨h1,h2⟩:=tV I1 (show RelV (.ref c) (.ref c)from rfl) (.inl ⟨rfl,vs,SqL.of e3⟩)
  refine⟨_,_,Ky,PySem.F.slot_list_index,PySem.F.type_list_index,h1,h2,?_⟩
  rw[hs];refine Ls rfl (LF (LU (bK (hb pins s1 σ H1 _ I1 (aV (f:=fb) E' q1)) λu s2 ⟨y,H2,I2,r2,t2,rt2,s'',E'',q2⟩=>L8 ?_)))
  unfold fO at q2
  split at q2
  ·rename_i l' heq
   cases heq
   split at q2
   ·rename_i hd3
    obtain⟨hd,hnx,hny⟩:=hd3
    split at q2
    ·rename_i k hk
     have rv:=Rep.val I2 (show(T.lst l).nd=true by unfold T.nd;exact hny) (rt.same s'') (show RelV (.ref c) (.ref c)from rfl)
     unfold ReV at rv;obtain⟨c',us,ec,hl,rs⟩:=rv;cases ec;obtain⟨⟨cls,dd,data,sl⟩,ho,hc,n,hdd⟩:=id hl;simp only at hc hdd;subst hc hdd;obtain⟨e,he,ha⟩:=zq (A:=X.A.in1) (Rep.val I2 hnx rt2 r2) (by show X.A.units+1+60<cLine;omega) hd rs
     obtain⟨_,k1,k2⟩:=nM hk;rw[NO]at k1 k2;rw[<-ha]at k1 k2
     have hkl:k<us.length:=by have:=(Jt.mp k1).1;rwa [Jo]at this
     have hz:us.length<=sizeLine:=by
      have z:=(I2.Iv (s'' _ _ e3)).1
      have h3:=rs.length
      have h4:=e4.length;omega
     refine Md F.slot_list_index ⟨_,ho,rfl⟩ F.entry_list_index (F.args_list_index_2 _ _) (list_indexAt c us.toArray n dd sl u e k (by simpa using hkl) (by rw[MF]at hz;omega) ?_ ?_) ⟨ho,λy hy=>he y (by simpa using hy),?_⟩
     ·have:=(Jt.mp k1).2
      rw[Nr]at this
      simpa using this
     ·intro m hm hmk
      have:=(Jt.mp (k2 m hmk)).2
      rw[Nr]at this
      simpa using this
     ·exact⟨.int _,H2,I2.tok _,⟨_,rfl⟩,q2 H2 (Same.refl H2) _ (Rep.GM _)⟩
    ·exact q2.elim
   ·exact q2.elim
  ·rename_i hno
   exact(hno l rfl).elim
 | _=>exact q1.elim
theorem D9 (hu:X.A.units+1<cLine)(ha:b6 X a fa)(hb:b6 X b fb)(hn:bf b=true:=by rfl)
  (hbase:JM a "get" X.env (eval a X.env)=eval a X.env:=by rfl) (hline:(apos.endLine == cpos.line)=true:=by rfl):b6 X (.Call (.Attribute a "get" apos) [b] [] cpos) (oD gZ fa fb):=by
 have hs:Jy [b] X.env=(false,eval b X.env)::Jy [] X.env:=a8 hn;refine PE.imp (y8 hu ha hb ⟨hbase,by rw[hs];rfl,hline,by rw[hs];rfl⟩) λσ H Q ⟨Z,O,E,hq⟩=> ?_
 obtain⟨Z1,O1,E1,h1⟩:=aV E hq;refine⟨Z1,O1,E1,Post.mono h1 λt H1 s1 q v r=> ?_⟩
 obtain⟨t',r',s',E',q'⟩:=q v r
 cases t' with
 | dct ks vs=>
  obtain⟨c,kvs,e1,e2,e3,e4,e5⟩:=Rep.Il.mp r';refine⟨c,e1,.inr ⟨kvs,e3⟩,?_⟩
  obtain⟨Z2,O2,E2,h2⟩:=aV (f:=fb) E' q';refine⟨Z2,O2,E2,Post.mono h2 λt2 H2 s2 q2 v2 r2=> ?_⟩
  obtain⟨t2',r2',s2',E2',q2'⟩:=q2 v2 r2;unfold gZ at q2'
  split at q2'
  ·rename_i ks' vs' k heq hk
   cases heq;obtain⟨b,f1,f2⟩:=mi hk r2'
   have g:=nQ (k:=k) e4 (e5.same s2');refine⟨jA kvs k,by rw[f1];exact DGet.IX (Rd.IP (P:=jI) (SameO.of s2') (λz=>z) e3) f2,?_⟩
   cases hx:oN ks vs k with
   | some z=>
    rw[hx]at g q2';obtain⟨w,g1,g2⟩:=g;rw[g1]
    exact q2' H2 (Same.refl H2) w g2
   | none=>
    rw[hx]at g q2';rw[g];exact q2' H2 (Same.refl H2) .non Rep.IK
  ·exact q2'.elim
 | _=>exact q'.elim
end
end Tr
namespace Tr
open PySem PySem.Spec PyProof.Rows L2
section
variable {X:Cx}{a b c:Expr}{fa fb fc:En->Rs T}{pos p2 p3 p4:Pos}{x:Str}
theorem DQ (i:Nat)(hu:X.A.units+1<cLine)(hb:b6 X b fb)(hc:b6 X c fc)(hN:X.N[i]? =some x:=by rfl)(hv:lW X.env.scope x:=by first | exact Ka rfl | exact JS (Ka rfl) | exact JS (JS rfl))
  (hd:eF x:=by decide) (hcd:(x == ("__classdict__" : Str))=false:=by decide)
  (hs:J4 c (some (.Subscript (.Name x p2) b p3)) pos.line X.env=pure false:=by rfl):mw X (.Assign [.Subscript (.Name x p2) b p3] c pos) (xo i fb fc):=by
 intro pins s σ H D I ⟨Z,B,M,E,h⟩;refine BJ hu (fh hN hv hd hcd) hb hc hs pins s σ H D I ?_
 unfold xo at h
 split at h
 ·rename_i ks vs hl
  obtain⟨v0,e1,d,kvs,rfl,hM,e3,e4,e5⟩:=E.env.own i _ hl;obtain⟨nd,nz⟩:=Ax I e3;refine⟨Z,OO B M,E.o,?_⟩
  cases q:fc Z with
  | bad=>rw[q]at h;exact h.elim
  | err c=>rw[q]at h;exact PostF.xa h
  | ok vT=>
   rw[q,az]at h;intro H1 s1 v r;refine⟨.ref d,e1,Z,OO B M,(E.same s1).o,?_⟩
   have h1:=h.later (SameO.of s1) (P1:=M.u) λa z=> .inl z
   cases q2:fb Z with
   | bad=>rw[q2]at h1;exact h1.elim
   | err c=>rw[q2]at h1;exact PostF.xa h1
   | ok kT=>
    rw[q2,az]at h1;intro H2 s2 y ry
    cases q3:keyOf kT with
    | none=>rw[q3]at h1;exact h1.elim
    | some k=>
     rw[q3]at h1
     have h2:=h1.later (SameO.of s2) (P1:=M.u) λa z=> .inl z
     have hlen:ks.length=kvs.length:=by have:=congrArg K3 e4;simpa using this
     by_cases hz:ks.length<1000
     ·simp only[if_pos hz]at h2
      obtain⟨kb,f1,f2⟩:=mi q3 ry
      have e3':=s2 _ _ (s1 _ _ e3);obtain⟨g1,g2⟩:=nN q3 (r.same s2) e4 ((e5.same s1).same s2) nd;refine⟨d,upd H2 d (.dT (dD kvs k v)),rfl,by rw[f1];exact DPut.t e3' f2 (by rw[MF];omega),?_⟩
      have sm:SameO (M i) H2 (upd H2 d (.dT (dD kvs k v))):=λc u e nb=>by rw[aG (λz=>nb ((hM c).mpr z))];exact e
      obtain⟨g3,g4⟩:=((E.same s1).same s2).put (o':=.dct (gH kT vT ks vs).1 (gH kT vT ks vs).2) hl e1 sm ⟨d,_,rfl,hM,aQ,g1,g2.move (P:=M i) (λa z=> .inl (.inr ⟨i,z⟩)) (λa z=> .inl z) sm⟩
      exact h2 σ _ M g4 g3 λc z=> .inl z
     ·simp only[if_neg hz]at h2
      exact h2.elim
 ·exact h.elim
end
end Tr
namespace PySem
open Sem (wp)
namespace F
theorem lk_list_keys:O9 (.type "list") "keys" =pure none:=by rw[P4,N1];kernel_rfl
theorem lk_list_getattr:O9 (.type "list") "__getattr__" =pure none:=by rw[P4,N1];kernel_rfl
end F
section
variable {prog:JK}{w:Kn}{A:J0}{E:Ji->Jl->Prop}{h:Heap}{g:Array GenState}{d:Drawn}{t:Nat}{os:OsState}{a:Addr}{its:Array Ji}{n:Nat}
theorem lP {tk:Tok}{Q:Fin->Jl->Prop}(hx:h.get? a=some { cls:=.type "list",data:=.seq its n })(hh:A.handled=none)
  (hq:∀h' tk' e,PR h h' e (.ref a) "keys"->E (.ref e) ⟨h',g,d,tk',os⟩) :
  wpAny (model prog w) A (Builtin.«object.__getattribute__» ⟨[.ref a,.str "keys" tk],[]⟩) Q E ⟨h,g,d,t,os⟩:=by
 have hT:(⟨h,g,d,t,os⟩:Jl).TypeIs (.ref a) "list":=⟨_,hx,rfl⟩
 have f4:=F.lk_list_keys
 repeat (any_goals (first | assumption | wp_step))
 exact wpAny_raiseAttrError hh (λh' tk e hx=>hq h' tk e hx) (attrMsg_fits (by decide+kernel) (by rw[MF];decide))
theorem nB {tk:Tok}{R:PY->Jl->Prop}(hx:h.get? a=some { cls:=.type "list",data:=.seq its n })(hh:A.handled=none)
  (hq:∀h' tk' e,PR h h' e (.ref a) "keys"->R (.error (.ref e)) ⟨h',g,d,tk',os⟩) :
  codeAny (model prog w) A (.call (.builtin "list.__getattribute__") ⟨[.ref a,.str "keys" tk],[]⟩) R ⟨h,g,d,t,os⟩:=
 codeAny_call_builtin Lk.plain F.entry_list_ga (Lk.check _ _ _ _ _ _ _ _ (show(⟨h,g,d,t,os⟩:Jl).TypeIs (.ref a) "list" from⟨_,hx,rfl⟩) (F.args_list_getattribute_2 _ _) (lP hx hh hq))
theorem nC {Q:Option Ji->Jl->Prop}(hx:h.get? a=some { cls:=.type "list",data:=.seq its n })(hh:A.handled=none)
  (hq:∀h' tk',(∀b o,h.get? b=some o->h'.get? b=some o)->Q none ⟨h',g,d,tk',os⟩):wpAny (model prog w) A (getAttr? (.ref a) "keys") Q E ⟨h,g,d,t,os⟩:=by
 have hT:∀tk,(⟨h,g,d,tk,os⟩:Jl).TypeIs (.ref a) "list":=λ_=>⟨_,hx,rfl⟩
 have f1:=sub_AttributeError
 have f2:=Lk.lookup
 have f3:=Lk.bind (.ref a)
 have f5:=F.lk_list_getattr;unfold getAttr? getAttrBy? getAttrBy
 repeat (any_goals (first | assumption | exact hT _ | wp_step))
 refine nB hx hh λh' tk' e hx'=> ?_
 obtain⟨t',u',he⟩:=hx'.there
 repeat (any_goals (first | assumption | exact hT _ | wp_step))
 exact hq _ _ hx'.keeps
end
end PySem
namespace PySem.F
theorem entry_dict_update_loop:entryFor table "dict.update.loop" =some Builtin.«dict.update.loop»:=entryFor_of_tree (by kernel_rfl)
theorem plain_dict_update_loop:plainId "dict.update.loop" =true:=by decide+kernel
end PySem.F
namespace Tr
open PySem PySem.Spec PyProof.Rows L2
def ij (kvs:List (List Key×V)):List (List Key×V)->List (List Key×V)
 | [] =>kvs
 | p::ps=>ij (dD kvs p.1 p.2) ps
def PairsAt (H:Hp):List V->List (List Key×V)->Prop
 | [],ps=>ps= []
 | x::xs,ps=> ∃b kb p r,ps=p::r/\x= .ref b/\H b=some (.tup [.ref kb,p.2])/\H kb=some (.tup (p.1.map kV))/\PairsAt H xs r
theorem PairsAt.upd {H:Hp}{d:Addr}{kvs:List (List Key×V)}{o:HO}(hd:H d=some (.dT kvs)):∀{xs:List V} {ps:List (List Key×V)},PairsAt H xs ps->PairsAt (L2.upd H d o) xs ps
 | [],_,h=>h
 | x::xs,_,⟨b,kb,p,r,e1,e2,e3,e4,e5⟩=>⟨b,kb,p,r,e1,e2,by rw[aG (nr e3 hd (λz=>nomatch z))];exact e3,by rw[aG (nr e4 hd (λz=>nomatch z))];exact e4,e5.upd hd⟩
theorem pY {H:Hp}{d:Addr}{a b:HO}:upd (upd H d a) d b=upd H d b:=by
 funext c
 by_cases h:c=d
 ·rw[h,aQ,aQ]
 ·rw[aG h,aG h,aG h]
section
variable {X:Cx}{pins:List (Addr×Obj)}{σ:L2.St}{A:J0}{res:Ji}{R:PY->Jl->Prop}{d l it:Addr}{xs:List V}
theorem xZ (hh:A.handled=none)(hu:A.units+3<cLine):∀(k i:Nat) (s:Jl) (H:Hp) (kvs ps:List (List Key×V)),xs.length - i=k->i<=xs.length->H l=some (.lst xs)->H d=some (.dT kvs)->kvs.length+(xs.length - i)<=1000->Inv X pins σ H s->s.heap.IsListIter it l i->nY X pins H it->PairsAt H (xs.drop i) ps →
  (∀s',Inv X pins σ (upd H d (.dT (ij kvs ps))) s'->R (.ok (.ret res)) s')->codeAny (model X.prog X.w) A (.builtin "dict.update.loop" ⟨[.ref d,.ref it,rawInt i,res],[]⟩) R s:=by
 intro k
 induction k with
 | zero=>
  intro i s H kvs ps hk hi hl hd hz I hit hf hp hR;refine P5 F.entry_dict_update_loop ?_
  rw[N6 F.plain_dict_update_loop _];obtain⟨z,its,n,r,hlen,e⟩:=I.Iv hl
  have hL:s.heap.IsList l its.toArray:=⟨_,e,rfl,n,rfl⟩
  show wpAny _ A.in1 (pyNext (.ref it) >>= _) _ _ s
  refine Jn (NV hh hit hL (by simp;omega) λh' hm=> ?_)
  show wpAny _ _ (Builtin.Dict.addKeywords d [] >>= _) _ _ _
  refine Jn (Jz (Jz ?_))
  have hnil:xs.drop i= []:=L7 (by omega)
  rw[hnil]at hp;unfold PairsAt at hp;subst hp
  have e2:upd H d (.dT (ij kvs []))=H:=by
   funext b
   by_cases hb:b=d
   ·rw[hb,aQ,hd];rfl
   ·rw[aG hb]
  rw[e2]at hR
  exact hR _ (I.Iz (fp:=[it]) (t':=s.toks) (λb hb=>by rw[JG.mp hb];exact hf) λb o hb eb=>hm b o (λz=>hb (by rw[z];exact JG.mpr rfl)) eb)
 | succ k ih=>
  intro i s H kvs ps hk hi hl hd hz I hit hf hp hR;refine P5 F.entry_dict_update_loop ?_
  rw[N6 F.plain_dict_update_loop _];obtain⟨z,its,n,r,hlen,e⟩:=I.Iv hl
  have hL:s.heap.IsList l its.toArray:=⟨_,e,rfl,n,rfl⟩
  have hlt:i<xs.length:=by omega
  have hlt':i<its.length:=by omega
  show wpAny _ A.in1 (pyNext (.ref it) >>= _) _ _ s
  refine Jn (Nz hit hL (x:=its[i]) (by simp[hlt']) λh' hit' hm=> ?_)
  have I1:Inv X pins σ H { s with heap:=h' }:=I.Iz (fp:=[it]) (t':=s.toks) (λb hb=>by rw[JG.mp hb];exact hf) λb o hb eb=>(hm.2 b (λz=>hb (by rw[z];exact JG.mpr rfl))).trans eb
  have hdrop:xs.drop i=xs[i] ::xs.drop (i+1):=Ks hlt;rw[hdrop]at hp;obtain⟨b,kb,p,r',rfl,ex,hb,hkb,hp'⟩:=hp
  have rx:RelV xs[i] its[i]:=by
   obtain⟨u,q1,q2⟩:=r.get (Jv hlt)
   rw[Jv hlt']at q1
   cases q1;exact q2
  rw[ex]at rx
  have eu:its[i] =JQ b:=rx;rw[eu];obtain⟨z2,its2,r2,ob,hob1,hob2,nb,hob3⟩:=(show ObjOk X.prog X.w H h' b (.tup [.ref kb,p.2])from I1.hok b _ hb)
  obtain⟨u1,us1,q1,rfl⟩:∃u1 us1,RelV (V.ref kb) u1/\its2=u1::us1:=by cases r2 with | cons a b=>exact⟨_,_,a,rfl⟩
  cases r2 with
  | cons ra rb=>
   obtain⟨u2,q2,rfl⟩:∃u2,RelV p.2 u2/\us1= [u2]:=by cases rb with | cons a b=>cases b;exact⟨_,a,rfl⟩
   obtain rfl:u1=JQ kb:=q1
   show wpAny _ A.in1 (holding [JQ b] _ >>= _) _ _ _
   refine Jn (Nn ?_)
   refine Jn (wpAny_tryCatch ?_)
   unfold Builtin.Dict.pairItems;refine Jn (MV (s:={ s with heap:=h' }) (T:="tuple") ⟨ob,hob1,hob2⟩ ?_)
   rw[if_pos (by decide)]
   refine Jn (Oc (s:={ s with heap:=h' }) hob1 hob3 (Jz ?_))
   show wpAny _ _ (holding [JQ kb,u2] (dictSet d (.ref kb) u2)) _ _ _
   refine Nn ?_
   obtain⟨zz,hds,xs2,rel,dd⟩:=As I1.hok hd
   have hzl:xs2.length<=sizeLine:=by rw[<-Ni rel];exact zz
   have hkl:kvs.length<sizeLine:=by rw[MF];omega
   have hl2:(dD kvs p.1 p.2).length<=sizeLine:=by have:=fP kvs p.1 p.2;omega
   refine wpAny_dictSet_heap (hsz:=hzl) (L4 (by show A.units+1<cLine;omega)) (nE I1.hok hkb) dd λh2 dd2 hs2=> ?_
   obtain⟨q,es,ep,hq,h22,h3,h4,_,h5⟩:=dd2
   have I2:Inv X pins σ (upd H d (.dT (dD kvs p.1 p.2))) { s with heap:=h2,toks:=s.toks+(M9 (cq X.prog X.w)).draws p.1 }:=
    rg (s:={ s with heap:=h' }) I1 (by rw[hd];exact Lh) hs2 ⟨q,hq⟩ ⟨hl2,hds,_,(rel.put p.1 hkb q2).keeps λc ys ec=>by rw[aG (nr ec hd (λz=>nomatch z))];exact ec,q,es,ep,hq,h22,h3,h4,h5⟩
   have hld:l≠d:=nr hl hd (λz=>nomatch z)
   have hitd:it≠d:=λz=>by have:=hf.1;rw[z,hd]at this;cases this
   have hcast:(i:Int)+1=((i+1:Nat):Int):=by omega
   refine Jz ⟨plainId_quiet F.plain_dict_update_loop _,?_⟩
   rw[hcast];refine ih (i+1) _ (upd H d (.dT (dD kvs p.1 p.2))) (dD kvs p.1 p.2) r' (by omega) (by omega) (by rw[aG hld];exact hl) aQ (by have:=fP kvs p.1 p.2;omega) I2 ?_ ⟨by rw[aG hitd];exact hf.1,hf.2⟩ (hp'.upd hd) λs' I'=> ?_
   ·obtain⟨oi,ho1,ho2,ho3⟩:=hit'
    exact⟨oi,(hs2.2 it hitd).trans ho1,ho2,ho3⟩
   ·rw[pY]at I'
    exact hR s' I'
end
theorem PairsAt.same {H H':Hp}(s:Same H H'):∀{xs:List V} {ps:List (List Key×V)},PairsAt H xs ps->PairsAt H' xs ps
 | [],_,h=>h
 | x::xs,_,⟨b,kb,p,r,e1,e2,e3,e4,e5⟩=>⟨b,kb,p,r,e1,e2,s _ _ e3,s _ _ e4,e5.same s⟩
section
variable {X:Cx}{pins:List (Addr×Obj)}{σ:L2.St}{A:J0}{E:Ji->Jl->Prop}{H:Hp}{s:Jl}{l:Addr}{xs:List V}{ps:List (List Key×V)}
theorem Aw {Q:Ji->Jl->Prop}(hh:A.handled=none)(hu:A.units+8<cLine)(I:Inv X pins σ H s)(hl:H l=some (.lst xs))(hz:xs.length<=1000)(hp:PairsAt H xs ps)
  (h:∀p s',Nw X.K H p->Inv X pins σ (upd H p (.dT (ij [] ps))) s'->Q (.ref p) s'):wpAny (model X.prog X.w) A (call (.type "dict") [.ref l]) Q E s:=by
 have hk:X.K.lookup s.heap.objs.size=none:=by
  cases q:X.K.lookup s.heap.objs.size with
  | none=>rfl
  | some o=>exact absurd (Jx (I.kIn _ o q)) (JU _)
 have hn:H s.heap.objs.size=none:=I.hok.fresh (Jw _)
 have hlp:l≠s.heap.objs.size:=λz=>by rw[z,hn]at hl;cases hl
 refine callType_codes (Q₁:=λobj s₁=>obj= .ref s.heap.objs.size/\s₁= { s with heap:=s.heap.push { cls:=.type "dict",data:=.dict #[] } }) F.kt_called_dict (F.kt_typeCall_dict_1 _) F.entry_dict_init (kt_code_dict_new _ ⟨rfl,rfl⟩) ?_
 rintro obj s₁ ⟨rfl,rfl⟩
 have I1:Inv X pins σ (upd H s.heap.objs.size (.dT [])) { s with heap:=s.heap.push { cls:=.type "dict",data:=.dict #[] } }:=I.laid (a:=s.heap.objs.size) (o:=.dT []) (t':=s.toks) (λ_ _ q=>Jr _ q) (Jw _) (Au s.heap I.big)
 have hT:({ s with heap:=s.heap.push { cls:=.type "dict",data:=.dict #[] } }:Jl).TypeIs (.ref s.heap.objs.size) "dict":=⟨_,JF _ rfl,rfl⟩
 have hl1:upd H s.heap.objs.size (.dT []) l=some (.lst xs):=by rw[aG hlp];exact hl
 obtain⟨z,its,n,r,hlen,e⟩:=I1.Iv hl1;refine⟨hT,F.args_dict_init_2 _ _,?_⟩
 unfold Builtin.«dict.__init__»;refine Jn ?_
 unfold Builtin.Dict.selfAndRest;refine Jn (wpAny_notOrdered_dict hT ?_)
 show wpAny _ _ (pure (s.heap.objs.size,[JQ l])) _ _ _
 refine Jz ?_
 show wpAny _ _ (Nd "dict.__init__" s.heap.objs.size (.ref l) [] .none) _ _ _
 unfold Nd;refine Jn (MV (T:="list") ⟨_,e,rfl⟩ ?_)
 rw[if_pos (by decide)]
 refine Jn (nC e hh λh' tk' kp=> ?_)
 have I2:Inv X pins σ (upd H s.heap.objs.size (.dT [])) { s with heap:=h',toks:=tk' }:=I1.kept (t':=tk') kp
 rw[if_pos (by rfl)]
 refine Jn (Pa ?_)
 have eL:({ s with heap:=h',toks:=tk' }:Jl).heap.IsList l its.toArray:=⟨_,kp _ _ e,rfl,n,rfl⟩
 refine Jn (Nb eL ?_)
 have I3:Inv X pins σ (upd H s.heap.objs.size (.dT [])) { s with heap:=h'.push { cls:=.type "list_iterator",data:=.fields #[.ref l,.int 0 0] },toks:=tk' }:=I2.kept (t':=tk') λb u q=>Jr _ q
 have hpl:s.heap.objs.size<h'.objs.size:=Jx (kp _ _ (JF _ rfl))
 have hni:upd H s.heap.objs.size (.dT []) h'.objs.size=none:=by
  rw[aG (MQ hpl)];exact I.hok.fresh (LQ hpl)
 have hp1:PairsAt (upd H s.heap.objs.size (.dT [])) xs ps:=hp.same (a9 hn _);refine Jz ⟨plainId_quiet F.plain_dict_update_loop _,?_⟩
 refine xZ (A:=A.in1) (X:=X) (pins:=pins) (σ:=σ) (l:=l) (xs:=xs) (it:=h'.objs.size) hh (by show A.units+1+3<cLine;omega) xs.length 0 _ (upd H s.heap.objs.size (.dT [])) [] ps (by omega) (Ld _) hl1 aQ (by simp;omega) I3 ⟨_,JF _ rfl,rfl,rfl⟩ (I2.IE (Jw _) hni) hp1 λs' I'=> ?_
 rw[pY]at I';exact⟨rfl,h _ _ ⟨hn,hk⟩ I'⟩
end
theorem hu8 {k:Nat}{A:J0}(h:Room k A):A.units+8<cLine:=by have:=h.un;omega
theorem uA {kvs:List (List Key×V)}{k:List Key}{v:V}(h:(kvs.map (·.1)).Nodup):((dD kvs k v).map (·.1)).Nodup:=by
 unfold dD
 by_cases a:(kvs.any λkv=>decide (kv.1=k))=true
 ·rw[if_pos a,Mq]
  have:((λx=>x.1)∘λkv:List Key×V=>if kv.1=k then(kv.1,v)else kv)=λx=>x.1:=by
   funext x
   show(if x.1=k then(x.1,v)else x).1=x.1
   by_cases e:x.1=k
   ·rw[if_pos e]
   ·rw[if_neg e]
  rw[this];exact h
 ·rw[if_neg a,KB,Kw]
  refine⟨h,by simp,λx hx y hy=> ?_⟩
  simp only[Jm,NI,JG]at hy;subst hy;intro z;subst z;obtain⟨p,hp,e⟩:=Kb.mp hx;exact a (List.any_eq_true.mpr ⟨p,hp,decide_eq_true e⟩)
def Ih (K:Jh)(O:Ow)(H:Hp):List (T×T)->List (List Key×V)->Prop
 | [],ps=>ps= []
 | a::l,ps=> ∃p r,ps=p::r/\keyOf a.1=some p.1/\Rep K O H a.2 p.2/\Ih K O H l r
theorem pH {K:Jh}{O:Ow}{H:Hp}:∀{l:List (T×T)} {ps:List (List Key×V)} {ks ts:List T} {kvs:List (List Key×V)},Ih K O H l ps->ks.map keyOf=kvs.map (λp=>some p.1)->Reps K O H ts (kvs.map (·.2))->(kvs.map (·.1)).Nodup →
  (iK l (ks,ts)).1.map keyOf=(ij kvs ps).map (λp=>some p.1)/\Reps K O H (iK l (ks,ts)).2 ((ij kvs ps).map (·.2))
 | [],ps,ks,ts,kvs,h,h1,h2,hn=>by unfold Ih at h;subst h;exact⟨h1,h2⟩
 | (a,b)::l,ps,ks,ts,kvs,h,h1,h2,hn=>by
  obtain⟨p,r,rfl,e1,e2,e3⟩:=h;obtain⟨g1,g2⟩:=nN (vT:=b) e1 e2 h1 h2 hn
  show(iK l (gH a b ks ts)).1.map keyOf=(ij (dD kvs p.1 p.2) r).map (λp=>some p.1)/\Reps K O H (iK l (gH a b ks ts)).2 ((ij (dD kvs p.1 p.2) r).map (·.2))
  exact pH (l:=l) e3 g1 g2 (uA hn)
theorem vJ {K:Jh}{O:Ow}{H:Hp}:∀{l:List T} {tps:List (T×T)} {xs:List V},FJ l=some tps->Reps K O H l xs->∃ps,PairsAt H xs ps/\Ih K O H tps ps
 | [],tps,xs,h,r=>by cases Reps.Da.mp r;cases h;exact⟨[],rfl,rfl⟩
 | t::l,tps,xs,h,r=>by
  obtain⟨v,ws,rfl,p,q⟩:=Reps.me.mp r;unfold FJ at h
  split at h
  ·rename_i heq;cases heq
  ·rename_i k v' l' heq
   cases heq
   split at h
   ·rename_i kk rr hk hr
    cases h;obtain⟨ps,g1,g2⟩:=vJ hr q;obtain⟨b,vs,e1,e2,e3,e4⟩:=Rep.Fk.mp p;obtain⟨u1,us1,rfl,f1,f2⟩:=Reps.me.mp e4;obtain⟨u2,us2,rfl,f3,f4⟩:=Reps.me.mp f2;cases Reps.Da.mp f4;obtain⟨kb,f5,f6⟩:=mi hk f1;subst f5;exact⟨(kk,u2)::ps,⟨b,kb,(kk,u2),ps,rfl,e1,e3,f6,g1⟩,⟨(kk,u2),ps,rfl,hk,f3,g2⟩⟩
   ·cases h
  ·cases h
section
variable {X:Cx}{e:Expr}{f:En->Rs T}{x y:Str}{p pos p2 p3:Pos}
def DC (X:Cx)(f:En->Rs T):TE:=λσ H Q=>tP X f σ H λv H'=> ∃a xs ps,v= .ref a/\H' a=some (.lst xs)/\xs.length<=1000/\PairsAt H' xs ps/\∀q,Nw X.K H' q->Q (.ref q) (upd H' q (.dT (ij [] ps)))
theorem y6 (hu:X.A.units+8<cLine)(hc:X.calm=true)(hm:X.mg "dict" =none)(ha:b6 X e f)(hg:Gl X "dict")(hs:bf e=true):PE X (.Call (.Name "dict" p) [e] [] pos) (DC X f):=by
 have h1:Jy [e] X.env=(false,eval e X.env)::Jy [] X.env:=a8 hs;intro pins s σ H Q I hq;refine KC (gD I hg hm (show Kc "dict" =some (.type "dict")by decide+kernel) ?_ (by decide) (by decide))
 refine Kl (bK (d8 (te:=tP X f) ha il h1 pos pins s σ H (λxs H'=> ∃v,xs= [v]/\∃a xs ps,v= .ref a/\H' a=some (.lst xs)/\xs.length<=1000/\PairsAt H' xs ps/\∀q,Nw X.K H' q->Q (.ref q) (upd H' q (.dT (ij [] ps)))) I ?_) λus s1 hh=> ?_) h1 rfl
 ·obtain⟨Z,O,E,h⟩:=hq
  exact⟨Z,O,E,Post.mono h λt H' _ g v r=>⟨v,rfl,g v r⟩⟩
 ·obtain⟨vs,H1,I1,r1,v,rfl,a,xs,ps,ev,e1,e2,e3,e4⟩:=hh
  subst ev;obtain⟨u,rfl,ru⟩:=r1.one;obtain rfl:u=JQ a:=ru;exact Aw (I1.ok.hd hc) hu I1 e1 e2 e3 λq s' nw I'=>⟨.ref q,_,I',rfl,e4 q nw⟩
theorem Bo (i:Nat)(hu:X.A.units+8<cLine)(hc:X.calm=true)(hm:X.mg "dict" =none)(hN:X.N.Nodup)(ha:b6 X e f)(hst:bf e=true:=by rfl)(hg:Gl X "dict":=by rfl)(hi:X.N[i]? =some x:=by rfl)(hx:Loc X.env.scope x:=by first | exact Ka rfl | exact JS rfl)(hs:J4 (.Call (.Name "dict" p) [e] [] p2) (some (.Name x p3)) pos.line X.env=pure false:=by rfl)
  (hf:X.fn x=true\/X.env.scope.names.lookup x=some .local:=by first | exact .inl rfl | exact .inr rfl | assumption):mw X (.Assign [.Name x p3] (.Call (.Name "dict" p) [e] [] p2) pos) (o5 i f):=PS.imp (ql hN hi hx (y6 hu hc hm ha hg hst) hs hf) λD σ H hh_=>by
 obtain⟨Z,B,M,E,h⟩:=hh_;refine⟨Z,OO B M,E.o,?_⟩
 unfold o5 at h
 cases q:f Z with
 | bad=>rw[q]at h;exact h.elim
 | err c=>rw[q]at h;exact PostF.xa h
 | ok t=>
  rw[q,az]at h;intro H1 s1 v r
  have h1:=h.later (SameO.of s1) (P1:=M.u) λa z=> .inl z
  cases t with
  | lst l=>
   obtain⟨a,xs,rfl,e2,e3,e4⟩:=Rep.Do.mp r;unfold wQ at h1
   split at h1
   ·rename_i l' heq
    cases heq
    split at h1
    ·rename_i tps hps
     by_cases hz:l.length<=1000
     ·rw[if_pos hz,az]at h1
      obtain⟨ps,g1,g2⟩:=vJ hps e4;refine⟨a,xs,ps,rfl,e3,by rw[<-e4.length];exact hz,g1,λnd nw=> ?_⟩
      by_cases hl:i<Z.length
      ·simp only[if_pos hl]at h1
       have hm:∀a,a=nd->Nw X.K H1 a:=λa z=>z▸nw
       obtain⟨k1,k2⟩:=pH (ks:=[]) (ts:=[]) (kvs:=[]) g2 rfl Reps.Gc Me;obtain⟨E2,sub⟩:=(E.same s1).new (m:=λa=>a=nd) (o:=.dct (iK tps ([],[])).1 (iK tps ([],[])).2) (v:=.ref nd) (H':=upd H1 nd (.dT (ij [] ps))) hl hm (a9 nw.1 _) ⟨nd,_,rfl,λb=>L9,aQ,k1,(k2.more (Ev.subO hm)).same (a9 nw.1 _)⟩
       exact h1 _ _ _ (SameO.of (a9 nw.1 _)) E2 sub
      ·simp only[if_neg hl]at h1;exact h1.elim
     ·rw[if_neg hz]at h1;exact h1.elim
    ·exact h1.elim
   ·rename_i hno
    exact(hno l rfl).elim
  | _=>exact h1.elim
end
end Tr
namespace Tr
def fq:List Int->List Int->Bool
 | [],[] =>false
 | [],_::_=>true
 | _::_,[] =>false
 | a::l,b::m=>if a=b then fq l m else decide (a<b)
theorem sP:∀l,fq l l=false
 | [] =>rfl
 | a::l=>by unfold fq;rw[if_pos rfl];exact sP l
theorem qQ:∀a b c,fq a b=true->fq b c=true->fq a c=true
 | [],[],_,h,_=>absurd h (by simp[fq])
 | _::_,[],_,h,_=>absurd h (by simp[fq])
 | [],_::_,[],_,h=>absurd h (by simp[fq])
 | [],_::_,_::_,_,_=>rfl
 | _::_,_::_,[],_,h=>absurd h (by simp[fq])
 | x::a,y::b,z::c,h,g=>by
  unfold fq at h g ⊢
  by_cases e:x=y
  ·subst e
   rw[if_pos rfl]at h
   by_cases e2:x=z
   ·rw[if_pos e2]at g ⊢;exact qQ a b c h g
   ·rw[if_neg e2]at g ⊢;exact g
  ·rw[if_neg e]at h
   by_cases e2:y=z
   ·subst e2;rw[if_neg e];exact h
   ·rw[if_neg e2]at g
    have h1:=of_decide_eq_true h
    have h2:=of_decide_eq_true g;rw[if_neg (by omega)]
    exact decide_eq_true (by omega)
theorem nA:∀a b,fq a b=false->fq b a=false->a=b
 | [],[],_,_=>rfl
 | [],_::_,h,_=>absurd h (by simp[fq])
 | _::_,[],_,h=>absurd h (by simp[fq])
 | x::a,y::b,h,g=>by
  unfold fq at h g
  by_cases e:x=y
  ·subst e
   rw[if_pos rfl]at h g;rw[nA a b h g]
  ·rw[if_neg e]at h
   rw[if_neg (λz=>e z.symm)]at g
   have h1:=of_decide_eq_false h
   have h2:=of_decide_eq_false g;omega
theorem zw (a b c:List Int)(h:fq a c=true):fq a b=true\/fq b c=true:=by
 cases h1:fq a b with
 | true=>exact .inl rfl
 | false=>
  cases h2:fq b a with
  | true=>exact .inr (qQ _ _ _ h2 h)
  | false=>rw[<-nA _ _ h1 h2];exact .inr h
end Tr
namespace Tr
open PySem PySem.Spec PyProof.Rows L2
structure RK where
 V:Heap->Ji->List Int->Prop
 inj:∀{h v a b},V h v a->V h v b->a=b
 on:∀{h h':Heap} {v a},V h v a->(∀b o,h.get? b=some o->h'.get? b=some o)->V h' v a
 fst:∀{h v a},V h v a->∃ad xs n o m t,v= .ref ad/\h.get? ad=some o/\o.cls= .type "tuple"/\o.data= .seq xs n/\xs[0]? =some (.int m t)
 lt:∀{prog w A s E x y a b} {Q:Bool->Jl->Prop},A.units+60<cLine->V s.heap x a->V s.heap y b->Q (fq a b) s->wpAny (model prog w) A (keyLt' (tuples' true) x y) Q E s
variable (R:RK)
open Classical in
def RK.key (h:Heap)(v:Ji):Option (List Int):=if e:∃ns,R.V h v ns then some e.choose else none
variable {R:RK}
def RK.kind (R:RK)(h:Heap):PyProof.Rows.KeyKind:={ α:=List Int,blt:=fq,irrefl:=sP,trans:=qQ,negTrans:=zw,total:=nA,keyOf:=R.key h,dflt:=[] }
def RK.row (R:RK)(h:Heap)(v:Ji):List Int:=(R.key h v).getD []
end Tr
namespace L2
open PySem PySem.Spec PyProof.Rows
theorem sX {n b:Nat}:b∈ [n+4,n,n+1,n+2,n+3] ↔n<=b/\b<n+5:=by
 simp only[Ju,KD,or_false];omega
end L2
namespace Tr
open PySem PySem.Spec PyProof.Rows L2
def Wk (K:Jh)(O:Ow)(H1:Hp)(l:List T)(v:V):Prop:=∃(aa:Addr) (tt:Bool) (ws:List V),v= .ref aa/\¬ O aa/\Reps K O H1 l ws/\AU K H1 aa tt ws/\(∀P Hc,SameO P H1 Hc->¬ P aa->AU K Hc aa tt ws)/\¬ Nw K H1 aa
end Tr
namespace Tr
open PySem
def c0 (g:List T->Rs T)(_:En):Rs T:=match g []with
 | .ok t=> .ok t
 | _=> .bad
end Tr
namespace L2
open PySem PySem.Spec PyProof.Rows
theorem lj (a b:Int):Lo a b (-1)=if a > b then a - b else 0:=by
 unfold Lo;simp only[show ¬((-1:Int) > 0)by decide,if_false,Int.neg_neg,Int.ediv_one]
 split <;> omega
theorem Ba {a b:Int}(ha : -(2 ^ 62)<=a)(ha':a<2 ^ 62)(hb : -(2 ^ 62)<=b)(hb':b<2 ^ 62):Of a b (-1)=true:=by
 unfold Of;rw[lj];simp only[Builtin.Range.rangeFitsLong,Jj,NN,decide_eq_true_eq,beq_iff_eq,show ¬((-1:Int) > 0)by decide,if_false]
 split <;> omega
def Itm (lo:Int)(n:Nat):It:=⟨λi _=>i<n,λi H x H'=>H'=H/\x= .int (lo - i),λi _=>n<=i⟩
theorem rM {P:JK}{w:Kn}{K:Jh}{tg:Expr}(it:Addr)(lo:Int)(n:Nat):yc P w K tg (Itm lo n) [it] it (λi h=>Oq h it (lo+(i:Nat)*(-1)) ((n:Int) - (i:Nat)) (-1)) where
 mem:=by simp
 obj:=λi h st b hb=>by
  have e:b=it:=by simpa using hb
  subst e
  exact⟨_,st,λv z=>by
   have z':PM _=Data.cell v:=z;cases z'⟩
 keep:=λi h h' st k=>k it (by simp) _ st
 item:=by
  intro X hP hw hK hc i pins s σ H E I hf st hg;subst hP hw hK;obtain⟨f0,f1,f2,f3,f4,f5⟩:=hf it (by simp)
  have W:=Walks.range (prog:=X.prog) (w:=X.w) (I.ok.hd hc) it lo (-1) n;refine W.item i s _ _ hg st λv h' tk hv st' kk=> ?_
  obtain⟨t,rfl⟩:=hv
  have I1:Inv X pins σ H { s with heap:=h',toks:=tk }:=I.turned (λb o hb e=>kk b o (by simpa using hb) e) f0 f1 f3 f4 f5
  refine⟨_,rfl,wH (s:={ s with heap:=h',toks:=tk }) (n:="range_iterator") st' rfl rfl (by decide) ⟨.int (lo - i),H,I1,⟨t,?_⟩,⟨rfl,rfl⟩,st',λb hb=>(hf b hb).1⟩⟩
  congr 1
  omega
 done:=by
  intro X hP hw hK hc i pins s σ H E I hf st hg;subst hP hw hK;obtain⟨f0,f1,f2,f3,f4,f5⟩:=hf it (by simp)
  exact NA (I.ok.hd hc) st (by have:n<=i:=hg;omega) λh' eb=>⟨rfl,I.turned (t':=s.toks) (λb o hb e=>eb b o hb e) f0 f1 f3 f4 f5⟩
 self:=λ_ _ _ _ _ st h=>NB st h
section
variable {X:Cx}{tg:Expr}
theorem xr {pins:List (Addr×Obj)}{σ:St}{H:Hp}{s:Jl}{R:It->Hp->Prop}{E:Ji->Jl->Prop}{lo hi:Int}{t u v:Tok}{tk:Nat}(I:Inv X pins σ H s)(h1 : -(2 ^ 62)<=lo)(h2:lo<2 ^ 62)(h3 : -(2 ^ 62)<=hi)(h4:hi<2 ^ 62)
  (q:R (Itm lo (lo - hi).toNat) H):wpAny (model X.prog X.w) X.A (pyIter (.ref s.heap.objs.size)) (Ii X pins σ tg R) E { s with heap:=s.heap.push { cls:=.type "range",data:=.fields #[.int lo t,.int hi u,.int (-1) v] },toks:=tk }:=by
 refine OL (IsRange.new ..) (Ba h1 h2 h3 h4) ?_
 have I1:Inv X pins σ H { s with heap:=s.heap.push { cls:=.type "range",data:=.fields #[.int lo t,.int hi u,.int (-1) v] },toks:=tk }:=I.kept λb o e=>Jr _ e
 refine⟨(s.heap.push { cls:=.type "range",data:=.fields #[.int lo t,.int hi u,.int (-1) v] }).objs.size,[(s.heap.push { cls:=.type "range",data:=.fields #[.int lo t,.int hi u,.int (-1) v] }).objs.size],_,_,H,rfl,
  I1.kept (t':=tk) λb o e=>Jr _ e,rM _ lo (lo - hi).toNat,?_,λb hb=> ?_,q⟩
 ·have e1:lo+((0:Nat):Int)*(-1)=lo:=by simp
  have e2:(((lo - hi).toNat:Nat):Int) - ((0:Nat):Int)=Lo lo hi (-1):=by rw[lj];split <;> omega
  show Oq _ _ (lo+((0:Nat):Int)*(-1)) ((((lo - hi).toNat:Nat):Int) - ((0:Nat):Int)) (-1)
  rw[e1,e2];exact JF _ rfl
 ·have e:b=(s.heap.push { cls:=.type "range",data:=.fields #[.int lo t,.int hi u,.int (-1) v] }).objs.size:=by simpa using hb
  subst e;exact I1.IE (Jw _) (I1.hok.fresh (Jw _))
end
end L2
namespace Tr
open PySem PySem.Spec PyProof.Rows L2
section
variable {X:Cx}{a b c:Expr}{fs:En->Rs (List T)}{p pos:Pos}
theorem Hr {K:Jh}{O:Ow}{H:Hp}(lo:Int)(n:Nat):ItT K O H ((J9 n).map λ(k:Nat)=>T.int (lo - (k:Int))) (Itm lo n):=λP O' hP hO i Hc hs ht=>by
 refine⟨λh=> ?_,λt h=> ?_⟩
 ·show n<=i
  rw[Jo,Lj]at h;exact h
 ·rw[JA]at h
  by_cases hi':i<n
  ·rw[Oj hi']at h
   cases h;refine⟨hi',λx Hc' y=> ?_⟩
   obtain⟨e,y⟩:=y;subst e y;exact⟨Same.refl _,Rep.GM _⟩
  ·rw[Lw (by simpa using hi')]at h
   cases h
theorem xt {tg:Expr}(hm:X.mg "range" =none)(ha:og X [a,b,c] fs)(hg:Gl X "range":=by rfl)(hn:ba [a,b,c] =true:=by rfl):yg X tg (.Call (.Name "range" p) [a,b,c] [] pos) (FP fs):=by
 unfold ba at hn;rw[Jj]at hn;intro pins s σ H R I ⟨Z,O,E,h⟩
 have h1:=eh E h;refine Call_ (gD I hg hm boot_range (Kl (bK (ha pos pins s σ H _ I h1) λus s1 ⟨vs,H1,I1,r1,ts,rs,s',E',q1⟩=> ?_) (a8 hn.1) (dH hn.2)))
 split at q1
 ·rename_i i j
  by_cases hj:(oM i&&oM j)=true
  ·rw[if_pos hj]at q1
   rw[Jj]at hj;obtain⟨b1,b2⟩:=fR hj.1;obtain⟨b3,b4⟩:=fR hj.2;obtain⟨v,ws,rfl,p1,q⟩:=Reps.me.mp rs;obtain⟨v2,ws2,rfl,p2,q2⟩:=Reps.me.mp q;obtain⟨v3,rfl,p3⟩:=q2.one;cases Rep.AC.mp p1;cases Rep.AC.mp p2;cases Rep.AC.mp p3
   cases r1 with
   | cons r rr=>
    cases rr with
    | cons r' rr=>
     cases rr with
     | cons r'' rr=>
      cases rr;obtain⟨t,rfl⟩:=r;obtain⟨t',rfl⟩:=r';obtain⟨t'',rfl⟩:=r'';refine call_range_3 (by decide) (xr I1 b1 b2 b3 b4 (q1 H1 (Same.refl H1) _ (Hr i _))) (Ka (Nv ?_))
      omega
  ·rw[if_neg hj]at q1;exact q1.elim
 ·exact q1.elim
end
end Tr
namespace PySem
open Sem (wp)
open L2 (itAt)
structure PW (prog:JK)(w:Kn)(A:J0)(I:Addr)(T:String)(fp wr:List Addr)(n:Nat)(R:Nat->Ji->Ji->Prop)(St:Nat->Option Addr->Heap->Prop):Prop where
 sub:∀b∈wr,b∈fp
 ty:∀i o (s:Jl),St i o s.heap->s.TypeIs (.ref I) T
 frame:∀i o h h',St i o h->(∀b∈fp,∀ob,h.get? b=some ob->h'.get? b=some ob)->St i o h'
 item:∀i o (s:Jl) (Q:Option Ji->Jl->Prop) (E:Ji->Jl->Prop),i<n->St i o s.heap->(∀t,o=some t->∃ob,s.heap.get? t=some ob) →
  (∀p h' tk x y,R i x y->s.heap.objs.size<=p->IsPair h' p x y->St (i+1) (some (o.getD p)) h'->(∀b ob,b∉wr->s.heap.get? b=some ob->h'.get? b=some ob)->Q (some (.ref p)) { s with heap:=h',toks:=tk })->wpAny (model prog w) A (pyNext (.ref I)) Q E s
 done:∀o (s:Jl) (Q:Option Ji->Jl->Prop) (E:Ji->Jl->Prop),St n o s.heap->(∀t,o=some t->∃ob,s.heap.get? t=some ob)->(∀h' tk,(∀b ob,b∉wr->s.heap.get? b=some ob->h'.get? b=some ob)->Q none { s with heap:=h',toks:=tk })->wpAny (model prog w) A (pyNext (.ref I)) Q E s
 self:∀i o (s:Jl) (Q:Ji->Jl->Prop) (E:Ji->Jl->Prop),St i o s.heap->Q (.ref I) s->wpAny (model prog w) A (pyIter (.ref I)) Q E s
end PySem
namespace Tr
open PySem
inductive Fx where
 | nx (Z:En) | rt (t:T) (Z:En)
def iI {α:Type}(f:Str):List Str->List α->Option α
 | n::ns,l::ls=>if n=f then some l else iI f ns ls
 | _,_=>none
def g8 (f:Str)(l':List T):List Str->List (List T)->List (List T)
 | n::ns,l::ls=>if n=f then l'::ls else l::g8 f l' ns ls
 | _,ls=>ls
def lS (c f:Str):T->Rs T
 | .ob c' ns ts=>if c'=c then(match iI f ns ts with | some t=> .ok t | none=> .bad)else .bad
 | _=> .bad
def fm (c m:Str)(g:List T->Rs T)(fo:En->Rs T)(fs:En->Rs (List T))(Z:En):Rs T:=do
 let o <-fo Z
 match o with
 | .ob c' ns ts=>if c'=c/\ns.contains m=false then fs Z >>= λl=>g (.ob c' ns ts::l)else .bad
 | _=> .bad
def xP (f:En->Rs T)(Z:En):Rs (T×En):=f Z >>= λt=> .ok (t,Z)
def rK (i:Nat)(c f:Str)(fa:En->Rs T)(Z:En):Rs (T×En):=match Z[i]? with
 | some (.ow (.ob c' ns ls))=>if c'=c then(match iI f ns ls with
  | some l=>fa Z >>= λt=>if l.length<sizeLine then .ok (.non,Z.set i (.ow (.ob c' ns (g8 f (l++ [t]) ns ls))))else .bad
  | none=> .bad)else .bad
 | _=> .bad
def tT (i:Nat)(c f:Str)(Z:En):Rs (T×En):=match Z[i]? with
 | some (.ow (.ob c' ns ls))=>if c'=c then(match iI f ns ls with
  | some l=>(match l.getLast? with
   | some t=> .ok (t,Z.set i (.ow (.ob c' ns (g8 f l.dropLast ns ls))))
   | none=> .bad)
  | none=> .bad)else .bad
 | _=> .bad
def yw (i:Nat)(Z:En):Rs (T×OT)->Rs (T×En)
 | .ok p=> .ok (p.1,Z.set i (.ow p.2))
 | .err c=> .err c
 | .bad=> .bad
def bq (i:Nat)(c m:Str)(g:List Sl->Rs (T×OT))(fs:En->Rs (List T))(Z:En):Rs (T×En):=match Z[i]? with
 | some (.ow (.ob c' ns ls))=>if c'=c/\ns.contains m=false then fs Z >>= λts=>yw i Z (g (.ow (.ob c' ns ls)::ts.map Sl.va))else .bad
 | _=> .bad
def oj (i:Nat)(g:List Sl->Rs (T×OT))(fs:En->Rs (List T))(Z:En):Rs (T×En):=match Z[i]? with
 | some (.ow o)=>fs Z >>= λts=>yw i Z (g (ts.map Sl.va++ [.ow o]))
 | _=> .bad
def dY (n:Nat)(sls:List Sl):En:=sls++JH (n - sls.length) Sl.em
def oA (j:Nat):Fx->Rs (T×OT)
 | .nx Z=>match Z[j]? with
  | some (.ow o)=> .ok (.non,o)
  | _=> .bad
 | .rt t Z=>match Z[j]? with
  | some (.ow o)=> .ok (t,o)
  | _=> .bad
def fV (n j m:Nat)(F:En->Rs Fx)(sls:List Sl):Rs (T×OT):=if sls.length=n then F (dY m sls) >>= oA j else .bad
def vY {α:Type}:Rs α->Rs α
 | .err _=> .bad
 | r=>r
def mN (Z:En):Rs Fx:=.ok (.nx Z)
def gB (F G:En->Rs Fx)(Z:En):Rs Fx:=match F Z with
 | .ok (.nx Z')=>vY (G Z')
 | r=>r
def sO (x:En->Rs (T×En))(Z:En):Rs Fx:=x Z >>= λp=> .ok (.nx p.2)
def jM (x:En->Rs (T×En))(Z:En):Rs Fx:=x Z >>= λp=> .ok (.rt p.1 p.2)
def zu (i:Nat)(x:En->Rs (T×En))(Z:En):Rs Fx:=x Z >>= λp=>if i<p.2.length then .ok (.nx (p.2.set i (.va p.1)))else .bad
def xM (f:En->Rs Bool)(F G:En->Rs Fx)(Z:En):Rs Fx:=f Z >>= λk=>if k then F Z else G Z
def B7 (c:Str)(_:En):Rs Fx:=.err c
def sM (i:Nat)(c f:Str)(fs:En->Rs (List T))(Z:En):Rs Fx:=match Z[i]? with
 | some (.ow (.ob c' ns ls))=>fs Z >>= λl=>if c'=c/\l.length<=sizeLine/\ns.length<1000 then
   .ok (.nx (Z.set i (.ow (if ns.contains f then .ob c' ns (g8 f l ns ls)else .ob c' (ns++ [f]) (ls++ [l])))))else .bad
 | _=> .bad
def nu (F:En->Rs Fx)(h:Str->Rs T)(Z:En):Rs Fx:=match F Z with
 | .err c=>(match h c with
  | .ok t=> .ok (.rt t Z)
  | _=> .bad)
 | r=>r
def qX (c:Str)(t:T)(d:Str):Rs T:=if d=c then .ok t else .bad
def ou (x:En->Rs (T×En))(Z:En):Rs Fl:=x Z >>= λp=> .ok (.nx p.2)
def lh (i:Nat)(x:En->Rs (T×En))(Z:En):Rs Fl:=match Z[i]? with
 | some (.ow (.lst _))=>vY (x Z) >>= λp=>(match p.2[i]? with
  | some (.ow (.lst l))=>if l.length<sizeLine then .ok (.nx (p.2.set i (.ow (.lst (l++ [p.1])))))else .bad
  | _=> .bad)
 | _=> .bad
def o6 (i:Nat)(c:Str)(g:List Sl->Rs (T×OT))(fs:En->Rs (List T))(Z:En):Rs Fl:=fs Z >>= λts=>vY (g (.ow (.ob c [] [])::ts.map Sl.va)) >>= λp=>match p.1 with
 | .non=>if i<Z.length then .ok (.nx (Z.set i (.ow p.2)))else .bad
 | _=> .bad
def ye (x:En->Rs (T×En))(Z:En):Rs (Bool×En):=x Z >>= λp=>match p.1 with
 | .bl b=> .ok (b,p.2)
 | _=> .bad
def vq (g:T->T->Rs T)(x:En->Rs (T×En))(f:En->Rs T)(Z:En):Rs (T×En):=x Z >>= λp=>vY (f p.2 >>= g p.1) >>= λt=> .ok (t,p.2)
def AO (f:En->Rs Bool)(Z:En):Rs (Bool×En):=f Z >>= λb=> .ok (b,Z)
def oh (x y:En->Rs (Bool×En))(Z:En):Rs (Bool×En):=x Z >>= λp=>if p.1 then .ok (true,p.2)else vY (y p.2)
def dG (i:Nat)(x:En->Rs (T×En)):List T->En->Rs (List T×En)
 | [],Z=> .ok ([],Z)
 | t::r,Z=>if i<Z.length then x (Z.set i (.va t)) >>= λp=>dG i x r p.2 >>= λq=> .ok (p.1::q.1,q.2)else .bad
def CZ (i j:Nat)(fi:En->Rs (List T))(src:List (Option Nat))(x:En->Rs (T×En))(Z:En):Rs (T×En):=match Z[i]? with
 | some (.ow o)=>fi Z >>= λts=>if ts.length<=sizeLine then(match dG 0 x ts ((bO src Z).set j (.ow o))with
  | .ok q=>(match q.2[j]? with
   | some (.ow o)=> .ok (.lst q.1,Z.set i (.ow o))
   | _=> .bad)
  | _=> .bad)else .bad
 | _=> .bad
def lE (x:En->Rs (Bool×En))(F G:En->Rs Fl)(Z:En):Rs Fl:=x Z >>= λp=>if p.1 then F p.2 else G p.2
end Tr
namespace Tr
open PySem PySem.Spec PyProof.Rows L2
abbrev one (j:Nat)(m:Ow):Mn:=noM.set j m
abbrev BM (B m:Ow):Ow:=λa=>B a\/m a
theorem one_u {j:Nat}{m:Ow}{a:Addr}:(one j m).u a↔m a:=⟨λz=>(Mn.Im z).elim id λ⟨_,w⟩=>w.elim,λz=>⟨j,by unfold one;rw[Mn.Ir];exact z⟩⟩
theorem one_oo {B:Ow}{j:Nat}{m:Ow}{a:Addr}:OO B (one j m) a↔BM B m a:=or_congr L9 one_u
section
variable {K:Jh}{B:Ow}{M:Mn}{H H':Hp}{Z:En}{σ:L2.St}{i:Nat}{o o':OT}{v:V}{m:Ow}
theorem Ev.old (E:Ev K B M H Z σ){a:Addr}(w:Nw K H a):¬ OO B M a:=λz=>by
 obtain⟨o,e⟩:=(E.env.trk a z).some;rw[w.1]at e;cases e
theorem Ev.back (E:Ev K B M H Z σ)(hi:Z[i]? =some (.ow o))(hs:σ[i]? =some (some v))(s:SameO (M i) H H')(r:ORep K (OO B (M.set i m)) m H' o' v)(hm:∀a,m a->M i a\/Nw K H a) :
  Ev K B (M.set i m) H' (Z.set i (.ow o')) σ/\SameO M.u H H'/\∀a,(M.set i m).u a->M.u a\/Nw K H a:=by
 have hl:i<Z.length:=(Jt.mp hi).1
 have sub:∀a,(M.set i m).u a->M.u a\/Nw K H a:=λa z=>(Mn.Im z).elim (λw=>(hm a w).imp_left λy=>⟨i,y⟩) .inl
 have subO:∀a,OO B (M.set i m) a->OO B M a\/Nw K H a:=λa z=>z.elim (λw=> .inl (.inl w)) λw=>(sub a w).elim (λy=> .inl (.inr y)) .inr
 have inO:∀a,M i a->OO B M a\/Nw K H a:=λa z=> .inl (.inr ⟨i,z⟩)
 refine⟨⟨⟨by rw[Km];exact E.env.len,λj t e=> ?_,λj o2 e=> ?_,λj a z=> .inr ⟨j,z⟩,λj k a z1 z2=> ?_,λa z=> ?_⟩,λa z hb=> ?_⟩,λb u e n=>s b u e λz=>n ⟨i,z⟩,sub⟩
 ·by_cases hj:i=j
  ·subst hj;rw[JI hl]at e;cases e
  ·rw[JD hj]at e
   obtain⟨w,e1,e2⟩:=E.env.val j t e;exact⟨w,e1,e2.move inO subO s⟩
 ·by_cases hj:i=j
  ·subst hj
   rw[JI hl]at e
   cases e;exact⟨v,hs,by rw[Mn.Ir];exact r⟩
  ·rw[JD hj]at e
   obtain⟨w,e1,e2⟩:=E.env.own j o2 e;refine⟨w,e1,?_⟩
   rw[Mn.IA (λz=>hj z.symm)]
   exact e2.move inO subO s λa z y=>hj (E.env.dis i j a y z)
 ·unfold Mn.set at z1 z2
  by_cases hj:j=i
  ·by_cases hk:k=i
   ·exact hj.trans hk.symm
   ·rw[if_pos hj]at z1;rw[if_neg hk]at z2
    exact(hm a z1).elim (λw=>(hk (E.env.dis k i a z2 w)).elim) λw=>(E.old w (.inr ⟨k,z2⟩)).elim
  ·by_cases hk:k=i
   ·rw[if_neg hj]at z1;rw[if_pos hk]at z2
    exact(hm a z2).elim (λw=>(hj (E.env.dis j i a z1 w)).elim) λw=>(E.old w (.inr ⟨j,z1⟩)).elim
   ·rw[if_neg hj]at z1;rw[if_neg hk]at z2
    exact E.env.dis j k a z1 z2
 ·rcases z with z | ⟨j,z⟩
  ·exact(E.env.trk a (.inl z)).at λo e=>s _ _ e λw=>E.mine a ⟨i,w⟩ z
  ·unfold Mn.set at z
   by_cases hj:j=i
   ·rw[if_pos hj]at z;exact r.mtb a z
   ·rw[if_neg hj]at z
    exact(E.env.trk a (.inr ⟨j,z⟩)).at λo e=>s _ _ e λw=>hj (E.env.dis j i a z w)
 ·rcases Mn.Im z with w | w
  ·exact(hm a w).elim (λy=>E.mine a ⟨i,y⟩ hb) λy=>E.old y (.inl hb)
  ·exact E.mine a w hb
end
section
variable {X:Cx}{a e:Expr}{es:List Expr}{fa:En->Rs T}{fs:En->Rs (List T)}{pos p2 apos cpos:Pos}{x c f:Str}
def PostX (X:Cx)(B P:Ow)(σ:L2.St)(H:Hp)(r:Rs (T×En))(Q:VK):Prop:=match r with
 | .ok p=> ∀v H' M',SameO P H H'->Ev X.K B M' H' p.2 σ->(∀a,M'.u a->P a\/Nw X.K H a)->Rep X.K (OO B M') H' p.1 v->Q v H'
 | .err c=>XA X jI H c
 | .bad=>False
def tX (X:Cx)(f:En->Rs (T×En)):TE:=λσ H Q=> ∃Z B M,Ev X.K B M H Z σ/\PostX X B M.u σ H (f Z) Q
abbrev vh (X:Cx)(e:Expr)(f:En->Rs (T×En)):Prop:=PE X e (tX X f)
theorem Dy (h:b6 X a fa):vh X a (xP fa):=PE.imp h λσ H Q hh_=>by
 obtain⟨Z,B,M,E,q⟩:=hh_;refine⟨Z,OO B M,E.o,?_⟩
 unfold xP at q
 cases z:fa Z with
 | bad=>rw[z]at q;exact q
 | err c=>rw[z]at q;exact q
 | ok t=>
  rw[z,az]at q;exact λH' s v r=>q v H' M (SameO.of s) (E.same s) (λ_ w=> .inl w) r
theorem z5 {K:Jh}{O:Ow}{H:Hp}:∀{fs:List (Str×V)} {ts:List T} {t:T},iI f (fs.map (·.1)) ts=some t->Reps K O H ts (fs.map (·.2))->∃v,fs.lookup f=some v/\Rep K O H t v
 | [],ts,t,h,_=>by cases h
 | (n,w)::fs,[],t,h,_=>by cases h
 | (n,w)::fs,u::ts,t,h,r=>by
  obtain⟨w',ws,e,p,q⟩:=Reps.me.mp r;cases e
  have h':(if n=f then some u else iI f (fs.map (·.1)) ts)=some t:=h
  rw[J7]
  by_cases z:n=f
  ·subst z
   rw[if_pos rfl]at h';cases h';exact⟨w,by rw[beq_self_eq_true],p⟩
  ·rw[if_neg z]at h'
   rw[beq_eq_false_iff_ne.mpr (LD z)];exact z5 h' q
theorem GJ (hc:Cls X.K (bD X.K c))(hn:NoAttr X.K (bD X.K c) f)(ha:b6 X a fa)(hb:JM a f X.env (eval a X.env)=eval a X.env:=by rfl):b6 X (.Attribute a f pos) (o1 (lS c f) fa):=PE.imp (uo ha hb) λσ H Q hh_=>by
 obtain⟨Z,O,E,h⟩:=hh_;refine vB (aV (k:=lS c f) E h) λv H' ⟨t,r,s,E',q⟩=> ?_
 cases t with
 | ob c' ns ts=>
  unfold lS at q
  dsimp only at q
  split at q
  ·rename_i hcc
   subst hcc;obtain⟨b,dx,fs,e1,e2,e3,e4,e5⟩:=Rep.IB.mp r;subst e4
   split at q
   ·rename_i t ht
    obtain⟨w,l1,l2⟩:=z5 ht e5;exact⟨b,_,dx,fs,w,e1,e3,hc,hn,l1,q H' (Same.refl _) w l2⟩
   ·exact q.elim
  ·exact q.elim
 | _=>exact q.elim
theorem uT {K:Jh}{O:Ow}{H:Hp}:∀{ns:List Str} {as:List Addr} {ls:List (List T)} {l:List T},iI f ns ls=some l->LsR K O H ls as->ns.length=as.length->as.Nodup →
  ∃b vs,(ns.zip (as.map V.ref)).lookup f=some (.ref b)/\b∈as/\H b=some (.lst vs)/\Reps K O H l vs/\∀(l':List T) (vs':List V),O b->Reps K O H l' vs'->LsR K O (upd H b (.lst vs')) (g8 f l' ns ls) as
 | [],as,ls,l,h,_,_,_=>by cases ls <;> cases h
 | n::ns,[],ls,l,h,_,hl,_=>by cases hl
 | n::ns,b::as,[],l,h,_,_,_=>by cases h
 | n::ns,b::as,u::ls,l,h,r,hl,nd=>by
  obtain⟨b',bs,vs,e1,e2,e3,e4⟩:=r;cases e1
  have nb:b∉as:=(JX.mp nd).1
  have h':(if n=f then some u else iI f ns ls)=some l:=h
  show ∃c ws,((n,V.ref b)::ns.zip (as.map V.ref)).lookup f=_/\_
  rw[J7]
  have keep:∀(c:Addr) (vs':List V),O c->∀{t:List T} {ws:List V},Reps K O H t ws->Reps K O (upd H c (.lst vs')) t ws:=λc vs' hc t ws q=>Reps.keep (P:=λa=>a=c) (λd o e n=>by rw[aG n];exact e) (λa z=>z▸hc) q
  by_cases z:n=f
  ·subst z
   rw[if_pos rfl]at h';cases h';refine⟨b,vs,by rw[beq_self_eq_true],Jq,e2,e3,λl' vs' ob rl=> ?_⟩
   show LsR K O _ (if n=n then l'::ls else _) _
   rw[if_pos rfl];refine⟨b,as,vs',rfl,aQ,keep _ _ ob rl,?_⟩
   clear h hl nd e3 e2
   induction ls generalizing as with
   | nil=>exact e4
   | cons w ls ih=>
    obtain⟨c,cs,ws,f1,f2,f3,f4⟩:=e4;subst f1;exact⟨c,cs,ws,rfl,by rw[aG (λy=>nb (by rw[<-y];exact Jq))];exact f2,keep _ _ ob f3,ih cs f4 λy=>nb (Jk _ y)⟩
  ·rw[if_neg z]at h'
   rw[beq_eq_false_iff_ne.mpr (LD z)];obtain⟨d,ws,g1,g2,g3,g4,g5⟩:=uT h' e4 (by simpa using hl) (JX.mp nd).2
   refine⟨d,ws,g1,Jk _ g2,g3,g4,λl' vs' od rl=> ?_⟩
   show LsR K O _ (if n=f then l'::ls else u::g8 f l' ns ls) _
   rw[if_neg z];exact⟨b,as,vs,rfl,by rw[aG (λy=>nb (by rw[y];exact g2))];exact e2,keep _ _ od e3,g5 l' vs' od rl⟩
theorem Ev.putF {K:Jh}{B:Ow}{M:Mn}{H:Hp}{Z:En}{σ:L2.St}{i:Nat}{ns:List Str}{ls:List (List T)}{l:List T}(E:Ev K B M H Z σ)(hi:Z[i]? =some (.ow (.ob c ns ls)))(hf:iI f ns ls=some l) :
  ∃p dx fs b vs,σ[i]? =some (some (.ref p))/\H p=some (.ins (bD K c) dx fs)/\fs.lookup f=some (.ref b)/\H b=some (.lst vs)/\Reps K (OO B M) H l vs/\∀(l':List T) (vs':List V),Reps K (OO B M) H l' vs' →
   Ev K B M (upd H b (.lst vs')) (Z.set i (.ow (.ob c ns (g8 f l' ns ls)))) σ/\SameO M.u H (upd H b (.lst vs')):=by
 obtain⟨v0,s0,p,dx,as,e1,e2,⟨n1,n2,n3,n4⟩,e4,e5,e6,e7,e8⟩:=E.env.own i _ hi;subst e1;obtain⟨b,vs,g1,g2,g3,g4,g5⟩:=uT hf e8 e6 n4
 have Mb:M i b:=(e2 b).mpr (.inr (.inr g2));refine⟨p,dx,_,b,vs,s0,e4,g1,g3,g4,λl' vs' rl=> ?_⟩
 have sm:SameO (M i) H (upd H b (.lst vs')):=λd u e nb=>by rw[aG (λz=>nb (by rw[z];exact Mb))];exact e
 refine E.put hi s0 sm ⟨p,dx,as,rfl,e2,⟨n1,n2,n3,n4⟩,?_,?_,e6,e7,g5 l' vs' (.inr ⟨i,Mb⟩) rl⟩
 ·rw[aG (nr e4 g3 (λz=>nomatch z))];exact e4
 ·rw[aG (nr e5 g3 (λz=>nomatch z))];exact e5
theorem F0 (i:Nat){p3:Pos}(hc:Cls X.K (bD X.K c))(hn:NoAttr X.K (bD X.K c) f)(ha:b6 X a fa)(hN:X.N[i]? =some x:=by rfl)(hv:lW X.env.scope x:=by first | exact Ka rfl | exact JS (Ka rfl) | exact JS (JS rfl))(hs:bf a=true:=by rfl)
  (hb1:JM (.Name x p2) f X.env (eval (.Name x p2) X.env)=eval (.Name x p2) X.env:=by rfl)
  (hbase:JM (.Attribute (.Name x p2) f p3) "append" X.env (eval (.Attribute (.Name x p2) f p3) X.env)=eval (.Attribute (.Name x p2) f p3) X.env:=by rfl) (hline:(apos.endLine == cpos.line)=true:=by rfl)
  (hd:eF x:=by decide) (hcd:(x == ("__classdict__" : Str))=false:=by decide):vh X (.Call (.Attribute (.Attribute (.Name x p2) f p3) "append" apos) [a] [] cpos) (rK i c f fa):=by
 have h1:Jy [a] X.env=(false,eval a X.env)::Jy [] X.env:=a8 hs;refine PE.imp (vQ Ky LN LP i8 (uo (fh hN hv hd hcd) hb1) (d8 ha il h1) hbase (by rw[h1];rfl) hline h1 rfl) λσ H Q ⟨Z,B,M,E,h⟩=> ?_
 unfold rK at h
 split at h
 ·rename_i c' ns ls hl
  split at h
  ·rename_i hcc
   subst hcc
   split at h
   ·rename_i l hf
    obtain⟨p,dx,fs,b,vs,s0,e1,e2,e3,e4,k⟩:=E.putF hl hf;refine⟨.ref p,s0,p,_,dx,fs,.ref b,rfl,e1,hc,hn,e2,.inl ⟨rfl,vs,SqL.of e3⟩,Z,OO B M,E.o,?_⟩
    cases q:fa Z with
    | bad=>rw[q]at h;exact h.elim
    | err c=>rw[q]at h;exact h
    | ok t=>
     rw[q,az]at h
     split at h
     ·rename_i hz
      intro H1 s1 v r;obtain⟨p',dx',fs',b',vs',s0',e1',e2',e3',e4',k'⟩:=(E.same s1).putF hl hf;cases s0.symm.trans s0'
      have z1:=(s1 _ _ e1).symm.trans e1';cases z1;cases e2.symm.trans e2'
      have z3:=(s1 _ _ e3).symm.trans e3';cases z3;obtain⟨g1,g2⟩:=k' (l++ [t]) (vs++ [v]) (e4'.append (Reps.FS r Reps.Gc));exact⟨b,vs,v,rfl,rfl,e3',by rw[<-e4.length];exact hz,h .non _ M (λc o e nb=>g2 c o (s1 _ _ e) nb) g1 (λc z=> .inl z) Rep.IK⟩
     ·exact h.elim
   ·exact h.elim
  ·exact h.elim
 ·exact h.elim
theorem FX (i:Nat){p3:Pos}(hc:Cls X.K (bD X.K c))(hn:NoAttr X.K (bD X.K c) f)(hN:X.N[i]? =some x:=by rfl)(hv:lW X.env.scope x:=by first | exact Ka rfl | exact JS (Ka rfl) | exact JS (JS rfl))
  (hb1:JM (.Name x p2) f X.env (eval (.Name x p2) X.env)=eval (.Name x p2) X.env:=by rfl)
  (hbase:JM (.Attribute (.Name x p2) f p3) "pop" X.env (eval (.Attribute (.Name x p2) f p3) X.env)=eval (.Attribute (.Name x p2) f p3) X.env:=by rfl) (hline:(apos.endLine == cpos.line)=true:=by rfl)
  (hd:eF x:=by decide) (hcd:(x == ("__classdict__" : Str))=false:=by decide):vh X (.Call (.Attribute (.Attribute (.Name x p2) f p3) "pop" apos) [] [] cpos) (tT i c f):=by
 refine PE.imp (Ex Ky PySem.F.slot_list_pop PySem.F.type_list_pop EM (uo (fh hN hv hd hcd) hb1) hbase hline) λσ H Q ⟨Z,B,M,E,h⟩=> ?_
 unfold tT at h
 split at h
 ·rename_i c' ns ls hl
  split at h
  ·rename_i hcc
   subst hcc
   split at h
   ·rename_i l hf
    split at h
    ·rename_i t ht
     obtain⟨p,dx,fs,b,vs,s0,e1,e2,e3,e4,k⟩:=E.putF hl hf
     have hlen:=e4.length
     have hne:l≠ []:=λz=>by rw[z]at ht;cases ht
     rw[List.getLast?_eq_getElem?]at ht
     obtain⟨w,w1,w2⟩:=e4.get ht;rw[hlen]at w1;obtain⟨g1,g2⟩:=k l.dropLast vs.dropLast (by rw[NP,NP,hlen];exact e4.take _)
     refine⟨.ref p,s0,p,_,dx,fs,.ref b,rfl,e1,hc,hn,e2,.inl ⟨rfl,vs,SqL.of e3⟩,b,vs,w,rfl,rfl,e3,w1,?_⟩
     refine h w _ M g2 g1 (λc z=> .inl z) (w2.keep (P:=λa=>a=b) (λd o e n=>by rw[aG n];exact e) λa z=> ?_)
     obtain⟨v0,s1,p',dx',as,f1,f2,f3,f4,f5,f6,f7,f8⟩:=E.env.own i _ hl;rw[f1]at s1;cases s0.symm.trans s1;cases e1.symm.trans f4;obtain⟨b2,vs2,y1,y2,_⟩:=uT hf f8 f6 f3.2.2.2;rw[e2]at y1;cases y1;exact .inr ⟨i,(f2 a).mpr (.inr (.inr (z▸y2)))⟩
    ·exact h.elim
   ·exact h.elim
  ·exact h.elim
 ·exact h.elim
end
theorem mh {m:Str}:∀{fs:List (Str×V)},(fs.map (·.1)).contains m=false->fs.lookup m=none
 | [],_=>rfl
 | (n,v)::fs,h=>by
  rw[Jm,LX,N7]at h;rw[J7,h.1];exact mh h.2
section
variable {X:Cx}{o e:Expr}{es:List Expr}{fo:En->Rs T}{fs:En->Rs (List T)}{pos p2 apos:Pos}{x c m:Str}{k n j:Nat}{f:Addr}{fd:Ki}{ps:List Str}
theorem BD {pl:Sem Bool}{g:List T->Rs T}(hc:Cls X.K (bD X.K c))(hm:tJ X.K (bD X.K c) m f)(F:AX X.prog X.w X.K X.mg X.base k f fd ps 1 g)(hr:Room k X.A)(hb:Binds X.K fd ps [])(hps:ps.length=1)(ho:b6 X o fo)
  (ht:eval (.Call (.Attribute o m apos) [] [] pos) X.env=(do
   let ov <-eval o X.env
   standAt apos.atName
   let (f,first) <-holding [ov] (MG ov m pl)
   OU pos f first (backTo pos (Jy [] X.env)) (MW pos (Lz [] X.env))):=by rfl):b6 X (.Call (.Attribute o m apos) [] [] pos) (fm c m g fo ai):=by
 intro pins s σ H Q I ⟨Z,O,E,hq⟩;refine Mj (pl:=pl) (bK (ho pins s σ H _ I (aV E hq)) λu s1 ⟨v,H1,I1,rx,t,r,sm,E1,q⟩=> ?_) ht
 cases t with
 | ob c' ns ts=>
  dsimp only at q
  split at q
  ·rename_i hcc
   obtain⟨h1,h2⟩:=hcc;subst h1;obtain⟨p,dx,fs',rfl,n,e3,e4,e5⟩:=Rep.IB.mp r;obtain rfl:u= .ref p:=rx;subst e4;refine jO I1 e3 hc hm (mh h2) ?_
   exact Og (first:=[.ref p]) I1.kIn hm.kp (Gj (us:=[.ref p]) (vs:=[.ref p]) F hr hb hps I1 (.cons rfl .nil) (Reps.FS r Reps.Gc) E1.mtb rfl q)
  ·exact q.elim
 | _=>exact q.elim
end
def spE (K:Jh)(n j:Nat)(g:List Sl->Rs (T×OT)):Sp:=λvs H Q _=> ∃sls B m v,Ev K B (one j m) H sls (vs.map some)/\sls.length=n/\vs[j]? =some v ∧
 match g sls with
 | .ok p=> ∀u H' m',SameO m H H'->ORep K (BM B m') m' H' p.2 v->(∀a,m' a->m a\/Nw K H a)->Rep K (BM B m') H' p.1 u->Q u H'
 | _=>False
def FnXE (P:JK)(w:Kn)(K:Jh)(mg:Str->Option Ji)(base:Heap)(k:Nat)(f:Addr)(fd:Ki)(ps:List Str)(n j:Nat)(g:List Sl->Rs (T×OT)):Prop:=
 ∀(A:J0) (outer:List Env) (s:Jl) (H:Hp) (args:Args) (us:List Ji) (vs:List V) (B m:Ow) (sls:List Sl) (c:Str) (R:PY->Jl->Prop),Room k A->Env0 P w K mg base A outer s H->NW s fd args (ps.zip us)->Vals vs us →
  Ev K B (one j m) H sls (vs.map some)->sls.length=n->g sls= .err c->(∀ev s',RzC P w mg outer H s c ev s'->R (.error ev) s')->codeAny (model P w) A (.call (.ref f) args) R s
structure CT (P:JK)(w:Kn)(K:Jh)(mg:Str->Option Ji)(base:Heap)(k:Nat)(f:Addr)(fd:Ki)(ps:List Str)(n j:Nat)(g:List Sl->Rs (T×OT)):Prop where
 h:nZ P w K mg base CX0 k f fd ps (spE K n j g)
 x:FnXE P w K mg base k f fd ps n j g
section
variable {K:Jh}{B:Ow}{M:Mn}{H H':Hp}{Z:En}{σ:L2.St}{i:Nat}{o o':OT}{v v0:V}{m:Ow}{ts:List T}{vs:List V}
abbrev BC (B:Ow)(M:Mn)(i:Nat):Ow:=λa=>OO B M a/\¬ M i a
theorem u7 {j:Nat}{a:Addr}:OO (BC B M i) (one j (M i)) a->OO B M a:=λz=>(one_oo.mp z).elim (λw=>w.1) λw=> .inr ⟨i,w⟩
theorem Ev.args {j:Nat}{sls:List Sl}{ws:List V}(E:Ev K B M H Z σ)(hi:Z[i]? =some (.ow o))(hs:σ[i]? =some (some v0))(hl:sls.length=ws.length)(hj:sls[j]? =some (.ow o))(hw:ws[j]? =some v0)
  (ho:∀(k:Nat) (o':OT),sls[k]? =some (Sl.ow o')->k=j) (hv:∀(k:Nat) (t:T),sls[k]? =some (Sl.va t)->∃w,ws[k]? =some w/\Rep K (OO B M) H t w):Ev K (BC B M i) (one j (M i)) H sls (ws.map some):=by
 obtain⟨v',s',r⟩:=E.env.own i o hi;rw[hs]at s';cases s';refine⟨⟨by rw[Jo];exact hl,λk t e=> ?_,λk o' e=> ?_,λk a z=> .inr ⟨k,z⟩,λk k' a z1 z2=> ?_,λa z=>E.env.trk a (u7 z)⟩,λa z y=>y.2 (one_u.mp z)⟩
 ·obtain⟨w,e1,e2⟩:=hv k t e
  exact⟨w,by rw[JA,e1];rfl,e2.less λa z=>u7 z⟩
 ·have hk:=ho k o' e
  subst hk;rw[hj]at e;cases e;refine⟨v0,by rw[JA,hw];rfl,?_⟩
  rw[show one k (M i) k=M i from Mn.Ir]
  exact r.move (P:=jI) (λ_ z=>z.elim) (λa z=> .inl (u7 z)) (λb u q _=>q) λ_ _ z=>z
 ·unfold one Mn.set at z1 z2
  by_cases h1:k=j
  ·by_cases h2:k'=j
   ·exact h1.trans h2.symm
   ·rw[if_neg h2]at z2;exact z2.elim
  ·rw[if_neg h1]at z1;exact z1.elim
theorem Ev.ret {t:T}{u:V}(E:Ev K B M H Z σ)(hi:Z[i]? =some (.ow o))(hs:σ[i]? =some (some v0))(s:SameO (M i) H H')(r:ORep K (BM (BC B M i) m) m H' o' v0)(hm:∀a,m a->M i a\/Nw K H a)(rt:Rep K (BM (BC B M i) m) H' t u) :
  Ev K B (M.set i m) H' (Z.set i (.ow o')) σ/\SameO M.u H H'/\(∀a,(M.set i m).u a->M.u a\/Nw K H a)/\Rep K (OO B (M.set i m)) H' t u:=by
 have sub:∀a,OO B (M.set i m) a->BM (BC B M i) m a:=λa z=>by
  rcases z with z | ⟨k,z⟩
  ·exact .inl ⟨.inl z,λw=>E.mine a ⟨i,w⟩ z⟩
  ·unfold Mn.set at z
   by_cases hk:k=i
   ·rw[if_pos hk]at z;exact .inr z
   ·rw[if_neg hk]at z;exact .inl ⟨.inr ⟨k,z⟩,λw=>hk (E.env.dis k i a z w)⟩
 obtain⟨g1,g2,g3⟩:=E.back hi hs s (r.move (P:=jI) (λ_ z=>z.elim) (λa z=> .inl (sub a z)) (λb u q _=>q) λ_ _ z=>z) hm
 exact⟨g1,g2,g3,rt.less sub⟩
end
section
variable {X:Cx}{k n j:Nat}{f:Addr}{fd:Ki}{ps:List Str}{g:List Sl->Rs (T×OT)}{pins:List (Addr×Obj)}{σ:L2.St}{H:Hp}{s:Jl}{us:List Ji}{vs:List V}{sls:List Sl}{B m:Ow}{Q:VK}{v:V}
def Dp (X:Cx)(B m:Ow)(v:V)(H:Hp)(r:Rs (T×OT))(Q:VK):Prop:=match r with
 | .ok p=> ∀u H' m',SameO m H H'->ORep X.K (BM B m') m' H' p.2 v->(∀a,m' a->m a\/Nw X.K H a)->Rep X.K (BM B m') H' p.1 u->Q u H'
 | .err c=>XA X jI H c
 | .bad=>False
theorem yL (F:CT X.prog X.w X.K X.mg X.base k f fd ps n j g)(hr:Room k X.A)(hb:Binds X.K fd ps [])(hps:ps.length=n)(I:Inv X pins σ H s)(r:Vals vs us)(Ea:Ev X.K B (one j m) H sls (vs.map some))(hl:sls.length=n)(hv:vs[j]? =some v)
  (hq:Dp X B m v H (g sls) Q):wpAny (model X.prog X.w) X.A (call (.ref f) us) (EP X pins σ Q) X.xe s:=by
 cases q2:g sls with
 | bad=>rw[q2]at hq;exact hq.elim
 | ok p=>
  rw[q2]at hq;refine ui (E:=E0) (dvs:=[]) (ds:=[]) F.h hr hb .nil vR I r ⟨sls,B,m,v,by simpa using Ea,hl,by simpa using hv,?_⟩
  rw[q2]
  exact hq
 | err c=>
  rw[q2]at hq
  have hlen:us.length=ps.length:=by rw[<-r.length,hps,<-hl,Ea.env.len,Jo]
  have hb':=hb s us I.kIn (by rw[JZ];exact hlen)
  rw[JZ]at hb';refine N4 (LR (F.x X.A X.stack s H ⟨us,[]⟩ us vs B m sls c (λr s'=>match r with | .error ev=>X.xe ev s' | _=>False) hr I.IJ hb' r Ea hl q2 λev s' w=> ?_) λr s' hq=> ?_)
  ·obtain⟨ea,T,C,H',rfl,hmc,ho,hbare,hun,hok,sm2,hea,heo,fl,hT,hTo⟩:=w
   have I2:Inv X pins σ H' s':=I.IH ho hun hok hbare (λb z=>absurd z (by simp))
   exact hq pins _ _ ⟨ea,some T,C,σ,H',rfl,hmc,I2,λb o q _=>sm2 b o q,hea,λhex=>fX I hex heo,fl,(λt zt=>by cases zt;exact⟨hT,λhex=>fX I hex hTo⟩),λpp hpp=>⟨λzz=>(by have:=(I.pin pp hpp).1;rw[zz,heo]at this;cases this),λzz=>(by cases zz;have:=(I.pin pp hpp).1;rw[hTo]at this;cases this)⟩⟩
  ·cases r with
   | error ev=>exact hq
   | ok fl=>exact hq.elim
theorem uk {M:Mn}{Z:En}{i:Nat}{o:OT}{v0:V}{H0:Hp}{P0:Ow}(E:Ev X.K B M H Z σ)(hi:Z[i]? =some (.ow o))(hs:σ[i]? =some (some v0)){r:Rs (T×OT)}(h:PostX X B M.u σ H (yw i Z r) Q):Dp X (BC B M i) (M i) v0 H r Q:=by
 cases r with
 | bad=>exact h
 | err c=>exact h
 | ok p=>
  intro u H' m' s r hm rt;obtain⟨g1,g2,g3,g4⟩:=E.ret hi hs s r hm rt;exact h u H' _ g2 g1 g3 g4
theorem PostX.later {P:Ow}{H1:Hp}{r:Rs (T×En)}(h:PostX X B P σ H r Q)(s:Same H H1):PostX X B P σ H1 r Q:=by
 cases r with
 | bad=>exact h
 | err c=>exact XA.later h (SameO.of s) λ_ z=>z.elim
 | ok p=>exact λv H' M' s' E' o' r'=>h v H' M' (λb o e nb=>s' b o (s _ _ e) nb) E' (λa z=>(o' a z).imp_right (i5 s)) r'
theorem uV {o:OT}{ts:List T}{k:Nat}{o':OT}(h:(Sl.ow o::ts.map Sl.va)[k]? =some (.ow o')):k=0:=by
 cases k with
 | zero=>rfl
 | succ k=>
  rw[KA,JA]at h
  cases z:ts[k]? <;> rw[z]at h <;> cases h
theorem uU {K:Jh}{O:Ow}{H:Hp}{o:OT}{v0:V}{ts:List T}{vs:List V}(r:Reps K O H ts vs){k:Nat}{t:T}(h:(Sl.ow o::ts.map Sl.va)[k]? =some (.va t)):∃w,(v0::vs)[k]? =some w/\Rep K O H t w:=by
 cases k with
 | zero=>cases h
 | succ k=>
  rw[KA,JA]at h
  cases z:ts[k]? with
  | none=>rw[z]at h;cases h
  | some u=>
   rw[z]at h;cases h;exact r.get z
end
section
variable {X:Cx}{e:Expr}{es:List Expr}{fs:En->Rs (List T)}{pos p p2 apos:Pos}{x y c m:Str}{k n:Nat}{f:Addr}{fd:Ki}{ps:List Str}{g:List Sl->Rs (T×OT)}
theorem Dz {pl:Sem Bool}(i:Nat)(hc:Cls X.K (bD X.K c))(hm:tJ X.K (bD X.K c) m f)(F:CT X.prog X.w X.K X.mg X.base k f fd ps n 0 g)(hr:Room k X.A)(hb:Binds X.K fd ps [])(hps:ps.length=n)(hl:∀Z ts,fs Z= .ok ts->ts.length+1=n)(ha:og X (e::es) fs)
  (hN:X.N[i]? =some x:=by rfl) (hv:lW X.env.scope x:=by first | exact Ka rfl | exact JS (Ka rfl) | exact JS (JS rfl)) (hd:eF x:=by decide) (hcd:(x == ("__classdict__" : Str))=false:=by decide)
  (hst:Jy (e::es) X.env=(false,eval e X.env)::Jy es X.env:=by rfl) (hpl:(backTo pos (Jy es X.env)).any (·.1)=false:=by rfl)
  (ht:eval (.Call (.Attribute (.Name x p2) m apos) (e::es) [] pos) X.env=(do
   let ov <-eval (.Name x p2) X.env
   standAt apos.atName
   let (f,first) <-holding [ov] (MG ov m pl)
   OU pos f first (backTo pos (Jy (e::es) X.env)) (MW pos (Lz [] X.env))):=by rfl) :
  vh X (.Call (.Attribute (.Name x p2) m apos) (e::es) [] pos) (bq i c m g fs):=by
 intro pins s σ H Q I ⟨Z,B,M,E,h⟩;unfold bq at h
 split at h
 ·rename_i c' ns ls hi
  split at h
  ·rename_i hcc
   obtain⟨h1,h2⟩:=hcc;subst h1;obtain⟨v0,s0,q,dx,as,e1,e2,e3,e4,e5,e6,e7,e8⟩:=E.env.own i _ hi;subst e1;refine Mj (pl:=pl) (bK (fh (pos:=p2) hN hv hd hcd pins s σ H (λv H'=>v= .ref q/\H'=H) I ⟨_,s0,rfl,rfl⟩) λu s1 ⟨v,H1,I1,rx,ev,eH⟩=> ?_) ht
   subst ev eH;obtain rfl:u= .ref q:=rx;refine jO I1 e4 hc hm (mh (by rw[l8 (by rw[Jo];exact e6)];exact h2)) ?_
   refine Lu (first:=[.ref q]) (h₀:=X.base) I.ok.mod.kin hm.kp (bK (ha pos pins s1 σ H1 (λvs H2=> ∃ts,fs Z= .ok ts/\Same H1 H2/\Reps X.K (OO B M) H2 ts vs) I1 ⟨Z,OO B M,E.o,?_⟩) λus s2 ⟨vs,H2,I2,r,ts,q1,sm,rs⟩=>⟨I2.kIn,?_⟩) hst hpl
   ·cases z:fs Z with
    | bad=>rw[z]at h;exact h.elim
    | err c=>rw[z]at h;exact h
    | ok ts=>exact λH' s' vs rs=>⟨ts,rfl,s',rs⟩
   ·rw[q1,az]at h
    have E2:=E.same sm;refine yL (us:=.ref q::us) (vs:=.ref q::vs) (v:=.ref q) F hr hb hps I2 (.cons rfl r) (E2.args (o:=.ob c' ns ls) hi s0 (by rw[Jp,Jp,Jo,rs.length]) rfl rfl (λk o' z=>uV z) λk t z=>uU rs z) ?_ rfl (uk (H0:=H1) (P0:=jI) E2 hi s0 (h.later sm))
    rw[Jp,Jo];exact hl Z ts q1
  ·exact h.elim
 ·exact h.elim
theorem A4 {pl:Sem Bool}(i:Nat)(hc:Cls X.K (bD X.K c))(hm:tJ X.K (bD X.K c) m f)(F:CT X.prog X.w X.K X.mg X.base k f fd ps 1 0 g)(hr:Room k X.A)(hb:Binds X.K fd ps [])(hps:ps.length=1)
  (hN:X.N[i]? =some x:=by rfl) (hv:lW X.env.scope x:=by first | exact Ka rfl | exact JS (Ka rfl) | exact JS (JS rfl)) (hd:eF x:=by decide) (hcd:(x == ("__classdict__" : Str))=false:=by decide)
  (ht:eval (.Call (.Attribute (.Name x p2) m apos) [] [] pos) X.env=(do
   let ov <-eval (.Name x p2) X.env
   standAt apos.atName
   let (f,first) <-holding [ov] (MG ov m pl)
   OU pos f first (backTo pos (Jy [] X.env)) (MW pos (Lz [] X.env))):=by rfl) :
  vh X (.Call (.Attribute (.Name x p2) m apos) [] [] pos) (bq i c m g ai):=by
 intro pins s σ H Q I ⟨Z,B,M,E,h⟩;unfold bq at h
 split at h
 ·rename_i c' ns ls hi
  split at h
  ·rename_i hcc
   obtain⟨h1,h2⟩:=hcc;subst h1;obtain⟨v0,s0,q,dx,as,e1,e2,e3,e4,e5,e6,e7,e8⟩:=E.env.own i _ hi;subst e1;refine Mj (pl:=pl) (bK (fh (pos:=p2) hN hv hd hcd pins s σ H (λv H'=>v= .ref q/\H'=H) I ⟨_,s0,rfl,rfl⟩) λu s1 ⟨v,H1,I1,rx,ev,eH⟩=> ?_) ht
   subst ev eH;obtain rfl:u= .ref q:=rx;refine jO I1 e4 hc hm (mh (by rw[l8 (by rw[Jo];exact e6)];exact h2)) ?_
   exact Og (first:=[.ref q]) I1.kIn hm.kp (yL (us:=[.ref q]) (vs:=[.ref q]) (v:=.ref q) F hr hb hps I1 (.cons rfl .nil) (E.args (o:=.ob c' ns ls) hi s0 rfl rfl rfl (λk o' z=>uV (ts:=[]) z) λk t z=>uU (ts:=[]) Reps.Gc z) rfl rfl (uk (H0:=H1) (P0:=jI) E hi s0 h))
  ·exact h.elim
 ·exact h.elim
def F4 (X:Cx)(i:Nat)(f:En->Rs (List T)):TA:=λσ H Q=> ∃Z B M v0,Ev X.K B M H Z σ/\σ[i]? =some (some v0)/\Post X H (f Z) λts H'=> ∀vs,Reps X.K (OO B M) H' ts vs->Q (vs++ [v0]) H'
theorem Ek (i:Nat)(hN:X.N[i]? =some x:=by rfl)(hv:lW X.env.scope x:=by first | exact Ka rfl | exact JS (Ka rfl) | exact JS (JS rfl))(hd:eF x:=by decide)(hcd:(x == ("__classdict__" : Str))=false:=by decide):PA X [.Name x p2] (F4 X i ai):=
 PA.imp (d8 (fh (pos:=p2) hN hv hd hcd) il rfl) λσ H Q ⟨Z,B,M,v0,E,s0,h⟩=>⟨v0,s0,h H (Same.refl _) [] Reps.Gc⟩
theorem BN {a:Expr}{fa:En->Rs T}{i:Nat}(ha:b6 X a fa)(hb:PA X es (F4 X i fs))(he:Jy (a::es) X.env=(false,eval a X.env)::Jy es X.env:=by rfl):PA X (a::es) (F4 X i (ae fa fs)):=
 PA.imp (d8 ha hb he) λσ H Q hh_=>by
  obtain⟨Z,B,M,v0,E,s0,h⟩:=hh_;refine⟨Z,OO B M,E.o,?_⟩
  unfold ae at h
  cases z:fa Z with
  | bad=>rw[z]at h;exact h.elim
  | err c=>rw[z]at h;exact h
  | ok t=>
   rw[z,az]at h;intro H1 s1 v r;refine⟨Z,B,M,v0,E.same s1,s0,?_⟩
   refine Post.mono (Post.bind (h.later s1)) λts H2 s2 q vs rs=> ?_
   exact q H2 (Same.refl _) (v::vs) (Reps.FS (r.same s2) rs)
theorem ES {o:OT}{ts:List T}{k:Nat}{o':OT}(h:(ts.map Sl.va++ [Sl.ow o])[k]? =some (.ow o')):k=ts.length:=by
 by_cases hk:k<ts.length
 ·rw[JR (by simpa using hk),JA,Jv hk]at h;cases h
 ·have h2:=(Jt.mp h).1
  simp at h2;omega
theorem ER {K:Jh}{O:Ow}{H:Hp}{o:OT}{v0:V}{ts:List T}{vs:List V}(r:Reps K O H ts vs){k:Nat}{t:T}(h:(ts.map Sl.va++ [Sl.ow o])[k]? =some (.va t)):∃w,(vs++ [v0])[k]? =some w/\Rep K O H t w:=by
 by_cases hk:k<ts.length
 ·rw[JR (by simpa using hk),JA]at h
  cases z:ts[k]? with
  | none=>rw[z]at h;cases h
  | some u=>
   rw[z]at h;cases h;obtain⟨w,e1,e2⟩:=r.get z;exact⟨w,by rw[JR (by rw[<-r.length];exact hk)];exact e1,e2⟩
 ·rw[Kp (by simpa using hk)]at h
  cases z:k - (ts.map Sl.va).length <;> rw[z]at h <;> cases h
theorem FY (i:Nat){j:Nat}(F:CT X.prog X.w X.K X.mg X.base k f fd ps n j g)(hr:Room k X.A)(hm:X.mg y=some (.ref f))(hk:K9 X.K (.ref f)=true)(hb:Binds X.K fd ps [])(hps:ps.length=n)(hjn:j+1=n)(hl:∀Z ts,fs Z= .ok ts->ts.length=j)(ha:PA X (e::es) (F4 X i fs))
  (hg:Gl X y:=by rfl) (hdb:eF y:=by decide) (he:Jy (e::es) X.env=(false,eval e X.env)::Jy es X.env:=by rfl) (hpl:(backTo pos (Jy es X.env)).any (·.1)=false:=by rfl) :
  vh X (.Call (.Name y p) (e::es) [] pos) (oj i g fs):=by
 intro pins s σ H Q I ⟨Z,B,M,E,h⟩;unfold oj at h
 split at h
 ·rename_i o hi
  obtain⟨v0,s0,r0⟩:=E.env.own i _ hi;refine KC (gC I hg hm ?_ hdb)
  refine Lu (h₀:=X.base) I.ok.mod.kin hk (bK (ha pos pins s σ H (λws H2=> ∃ts vs,ws=vs++ [v0]/\fs Z= .ok ts/\Same H H2/\Reps X.K (OO B M) H2 ts vs) I ⟨Z,B,M,v0,E,s0,?_⟩) λus s2 ⟨ws,H2,I2,r,ts,vs,e1,q1,sm,rs⟩=>⟨I2.kIn,?_⟩) he hpl
  ·cases z:fs Z with
   | bad=>rw[z]at h;exact h.elim
   | err c=>rw[z]at h;exact h
   | ok ts=>exact λH' s' vs rs=>⟨ts,vs,rfl,rfl,s',rs⟩
  ·subst e1
   rw[q1,az]at h
   have E2:=E.same sm
   have hj:=hl Z ts q1
   have hlen:=rs.length;subst hj;refine yL (v:=v0) F hr hb hps I2 r (E2.args (o:=o) hi s0 (by simp[hlen]) (by simp) (by rw[hlen];simp) (λk o' z=>ES z) λk t z=>ER rs z) (by simpa using hjn) (by rw[hlen];simp) (uk (H0:=H) (P0:=jI) E2 hi s0 (h.later sm))
 ·exact h.elim
end
section
variable {X:Cx}{a b e c:Expr}{es:List Expr}{fb:En->Rs T}{x y:En->Rs (T×En)}{fs:En->Rs (List T)}{pos p2 p3 apos cpos:Pos}{bJ:List Expr}
theorem FZ {B:Ow}{M:Mn}{Z:En}{σ:L2.St}{H:Hp}(E:Ev X.K B M H Z σ)(he:∀c,x Z= .err c->XA X jI H c)(hb:x Z≠ .bad) :
  tX X x σ H λv H1=> ∃p M1,x Z= .ok p/\SameO M.u H H1/\Ev X.K B M1 H1 p.2 σ/\(∀a,M1.u a->M.u a\/Nw X.K H a)/\Rep X.K (OO B M1) H1 p.1 v:=by
 refine⟨Z,B,M,E,?_⟩
 cases z:x Z with
 | bad=>exact(hb z).elim
 | err c=>exact he c z
 | ok p=>exact λv H' M' s e o r=>⟨p,M',rfl,s,e,o,r⟩
def PostXB (X:Cx)(B P:Ow)(σ:L2.St)(H:Hp)(r:Rs (Bool×En))(Q:Bool->Hp->Prop):Prop:=match r with
 | .ok p=> ∀H' M',SameO P H H'->Ev X.K B M' H' p.2 σ->(∀a,M'.u a->P a\/Nw X.K H a)->Q p.1 H'
 | .err c=>XA X jI H c
 | .bad=>False
def tXB (X:Cx)(f:En->Rs (Bool×En)):TT:=λσ H Q=> ∃Z B M,Ev X.K B M H Z σ/\PostXB X B M.u σ H (f Z) Q
abbrev FG (X:Cx)(e:Expr)(f:En->Rs (Bool×En)):Prop:=PT X e (tXB X f)
theorem A3 {f:En->Rs Bool}(h:rC X a f):FG X a (AO f):=PT.imp h λσ H Q hh_=>by
 obtain⟨Z,B,M,E,q⟩:=hh_;refine⟨Z,OO B M,E.o,?_⟩
 unfold AO at q
 cases z:f Z with
 | bad=>rw[z]at q;exact q
 | err c=>rw[z]at q;exact q
 | ok t=>
  rw[z,az]at q;exact λH' s=>q H' M (SameO.of s) (E.same s) λ_ w=> .inl w
theorem yv {op:P7}{g:T->T->Rs T}{pins:List (Addr×Obj)}{s1:Jl}{B:Ow}{M:Mn}{σ:L2.St}{H H1:Hp}{p:T×En}{M1:Mn}{v:Ji}{vx:V}{Q:VK}(ho:OpT X (Kh op) g)(hb:b6 X b fb)(I1:Inv X pins σ H1 s1)(r1:RelV vx v)(sm:SameO M.u H H1)(E1:Ev X.K B M1 H1 p.2 σ)
  (gr:∀a,M1.u a->M.u a\/Nw X.K H a) (rt:Rep X.K (OO B M1) H1 p.1 vx) (h:PostX X B M.u σ H (vY (fb p.2 >>= g p.1) >>= λt=> .ok (t,p.2)) Q) :
  wpAny (model X.prog X.w) X.A (eval b X.env) (λu s2=>wpAny (model X.prog X.w) X.A (Kh op v u) (EP X pins σ Q) X.xe s2) X.xe s1:=by
 cases z:fb p.2 with
 | bad=>rw[z]at h;exact h.elim
 | err c=>rw[z]at h;exact h.elim
 | ok t2=>
  rw[z,az]at h;refine bK (hb pins s1 σ H1 (λu H2=>Same H1 H2/\Rep X.K (OO B M1) H2 t2 u) I1 ⟨p.2,OO B M1,E1.o,by rw[z];exact λH' s u r=>⟨s,r⟩⟩) λu s2 hh_=> ?_
  obtain⟨y,H2,I2,r2,s',rt2⟩:=hh_;refine ho pins s2 σ H2 (OO B M1) p.1 t2 vx y v u Q I2 (λp=>(E1.same s').o.fresh) (rt.same s') rt2 r1 r2 ?_
  cases z2:g p.1 t2 with
  | bad=>rw[z2]at h;exact h.elim
  | err c=>rw[z2]at h;exact h.elim
  | ok t3=>
   rw[z2]at h;exact λH' s3 v r=>h v H' M1 (λb o e nb=>s3 _ _ (s' _ _ (sm b o e nb))) ((E1.same s').same s3) gr r
theorem Dx {op:P7}{g:T->T->Rs T}(ho:OpT X (Kh op) g)(ha:vh X a x)(hb:b6 X b fb)(hm:L3 op b=false:=by rfl):FG X (.Compare a [op] [b] pos) (ye (vq g x fb)):=by
 intro pins s σ H Q I ⟨Z,B,M,E,h⟩
 have h':PostX X B M.u σ H (vq g x fb Z) λv H'=> ∃k,v= .bl k/\Q k H':=by
  unfold ye at h
  cases z:vq g x fb Z with
  | bad=>rw[z]at h;exact h
  | err c=>rw[z]at h;exact h
  | ok p=>
   rw[z,az]at h;obtain⟨t,Z'⟩:=p
   cases t with
   | bl k=>exact λv H' M' s e o r=>⟨k,Rep.FM.mp r,h H' M' s e o⟩
   | _=>exact h.elim
 unfold vq at h';refine N0 (bK (ha pins s σ H _ I (FZ E (λc z=>by rw[z]at h';exact h') (λz=>by rw[z]at h';exact h'))) λv s1 ⟨vx,H1,I1,r1,p,M1,hx,sm,E1,gr,rt⟩=> ?_) hm
 rw[hx,az]at h';refine bK (yv ho hb I1 r1 sm E1 gr rt h') λu s2 q2=>bK q2 λd s3 hh_=> ?_
 obtain⟨z,H3,I3,r3,k,ez,q3⟩:=hh_;subst ez;cases r3;exact Kx ⟨H3,I3,q3⟩
theorem PostXB.later {B P P1:Ow}{σ:L2.St}{H H1:Hp}{r:Rs (Bool×En)}{Q:Bool->Hp->Prop}(h:PostXB X B P σ H (vY r) Q)(s:SameO P H H1)(sub:∀a,P1 a->P a\/Nw X.K H a):PostXB X B P1 σ H1 r Q:=by
 cases r with
 | bad=>exact h
 | err c=>exact h.elim
 | ok p=>exact λH' M' s' E' o'=>h H' M' (s.trans s' sub) E' λa z=>(o' a z).elim (sub a) (d9 s)
abbrev HP (X:Cx)(e:Expr)(f:En->Rs (Bool×En)):Prop:=PW X e (tXB X f)
variable {f g:En->Rs (Bool×En)}
theorem Dw (ha:FG X a f):HP X (.BoolOp .Or [a] pos) f:=yR ha
theorem FW (ha:FG X a f)(hb:HP X (.BoolOp .Or (b::bJ) pos) g):HP X (.BoolOp .Or (a::b::bJ) pos) (oh f g):=by
 intro wh pins s σ H Q I ⟨Z,B,M,E,h⟩;refine C3 ha hb wh pins s σ H Q I ⟨Z,B,M,E,?_⟩
 unfold oh at h
 cases z:f Z with
 | bad=>rw[z]at h;exact h
 | err c=>rw[z]at h;exact h
 | ok p=>
  rw[z,az]at h;obtain⟨k,Z'⟩:=p;intro H' M' s' E' o'
  cases k with
  | true=>rw[if_pos rfl];exact(show PostXB X B M.u σ H (.ok (true,Z')) Q by simpa using h) H' M' s' E' o'
  | false=>rw[if_neg JJ];exact⟨Z',B,M',E',PostXB.later (by simpa using h) s' o'⟩
theorem xt_w (h:HP X e f):FG X e f:=h.pt
theorem DU {A C:List Stmt}{F G:En->Rs Fl}(hc:FG X c f)(ha:jT X A F)(hb:jT X C G):mw X (.If c A C pos) (lE f F G):=PS.imp (yV hc ha hb) λD σ H hh_=>by
 obtain⟨Z,B,M,E,h⟩:=hh_;refine⟨Z,B,M,E,?_⟩
 unfold lE at h
 cases z:f Z with
 | bad=>rw[z]at h;exact h.elim
 | err c=>rw[z]at h;exact PostF.xa h
 | ok p=>
  rw[z,az]at h;obtain⟨k,Z'⟩:=p;intro H' M' s' E' o'
  cases k with
  | true=>refine L2.iteT ?_;exact⟨Z',B,M',E',PostF.later (by simpa using h) s' o'⟩
  | false=>refine L2.iteF ?_;exact⟨Z',B,M',E',PostF.later (by simpa using h) s' o'⟩
theorem DX (ha:vh X a x)(hs:J4 a none pos.line X.env=pure false:=by rfl):mw X (.Expr a pos) (ou x):=PS.imp (iZ ha hs) λD σ H hh_=>by
 obtain⟨Z,B,M,E,h⟩:=hh_;refine⟨Z,B,M,E,?_⟩
 unfold ou at h
 cases z:x Z with
 | bad=>rw[z]at h;exact h.elim
 | err c=>rw[z]at h;exact PostF.xa h
 | ok p=>rw[z,az]at h;exact λv H' M' s' E' o' r=>h σ H' M' s' E' o'
theorem Bs (i:Nat){n:Str}(ha:vh X a x)(hN:X.N[i]? =some n:=by rfl)(hv:lW X.env.scope n:=by first | exact Ka rfl | exact JS (Ka rfl) | exact JS (JS rfl))(hn:bf a=true:=by rfl)
  (hbase:JM (.Name n p2) "append" X.env (eval (.Name n p2) X.env)=eval (.Name n p2) X.env:=by rfl) (hline:(apos.endLine == cpos.line)=true:=by rfl)
  (hd:eF n:=by decide) (hcd:(n == ("__classdict__" : Str))=false:=by decide)
  (hsw:J4 (.Call (.Attribute (.Name n p2) "append" apos) [a] [] cpos) none pos.line X.env=pure false:=by rfl):mw X (.Expr (.Call (.Attribute (.Name n p2) "append" apos) [a] [] cpos) pos) (lh i x):=by
 have h1:Jy [a] X.env=(false,eval a X.env)::Jy [] X.env:=a8 hn;refine PS.imp (iZ (vQ Ky LN LP i8 (fh hN hv hd hcd) (d8 ha il h1) hbase (by rw[h1];rfl) hline h1 rfl) hsw) λD σ H ⟨Z,B,M,E,h⟩=> ?_
 unfold lh at h
 split at h
 ·rename_i l0 h0
  obtain⟨v0,e1,b,vs,rfl,hM,e3,e4⟩:=E.env.own i _ h0;refine⟨.ref b,e1,.inl ⟨rfl,vs,SqL.of e3⟩,Z,B,M,E,?_⟩
  cases z:x Z with
  | bad=>rw[z]at h;exact h.elim
  | err c=>rw[z]at h;exact h.elim
  | ok p=>
   rw[z]at h
   replace h:PostF X B M.u H (match p.2[i]? with
    | some (.ow (.lst l))=>if l.length<sizeLine then .ok (.nx (p.2.set i (.ow (.lst (l++ [p.1])))))else .bad
    | _=> .bad) D:=h
   intro v H' M' s' E' o' r
   split at h
   ·rename_i l hp
    split at h
    ·rename_i hz
     obtain⟨v1,f1,b1,vs1,rfl,hM1,f3,f4⟩:=E'.env.own i _ hp;rw[e1]at f1;cases f1;obtain⟨g1,g2⟩:=E'.putL (l':=l++ [p.1]) (vs':=vs1++ [v]) hp e1 hM1 (f4.append (Reps.FS r Reps.Gc));exact⟨b,vs1,v,rfl,rfl,f3,by rw[<-f4.length];exact hz,h σ _ M' (s'.trans g2 o') g1 o'⟩
    ·exact h.elim
   ·exact h.elim
 ·exact h.elim
end
def PostM (X:Cx)(B P:Ow)(j:Nat)(σ:L2.St)(H:Hp)(r:Rs Fx)(D:l4):Prop:=match r with
 | .ok (.nx Z')=> ∀σ' H' M',SameO P H H'->Ev X.K B M' H' Z' σ'->(∀a,M'.u a->P a\/Nw X.K H a)->σ'[j]? =σ[j]?->D.nx σ' H'
 | .ok (.rt t Z')=> ∀v σ' H' M',SameO P H H'->Ev X.K B M' H' Z' σ'->(∀a,M'.u a->P a\/Nw X.K H a)->σ'[j]? =σ[j]?->Rep X.K (OO B M') H' t v->D.rt v H'
 | .err c=>XA X jI H c
 | .bad=>False
def tPM (X:Cx)(j:Nat)(F:En->Rs Fx):TS:=λD σ H=> ∃Z B M,Ev X.K B M H Z σ/\PostM X B M.u j σ H (F Z) D
abbrev AV (X:Cx)(j:Nat)(s:Stmt)(F:En->Rs Fx):Prop:=PS X s (tPM X j F)
abbrev AW (X:Cx)(j:Nat)(s:List Stmt)(F:En->Rs Fx):Prop:=PSs X s (tPM X j F)
section
variable {X:Cx}{j:Nat}{a c:Expr}{es:List Expr}{x:En->Rs (T×En)}{fs:En->Rs (List T)}{pos p2 p3:Pos}
theorem PostM.later {B P P1:Ow}{σ σ1:L2.St}{H H1:Hp}{r:Rs Fx}{D:l4}(h:PostM X B P j σ H (vY r) D)(s:SameO P H H1)(sub:∀a,P1 a->P a\/Nw X.K H a)(hj:σ1[j]? =σ[j]?):PostM X B P1 j σ1 H1 r D:=by
 have back:∀a,P1 a\/Nw X.K H1 a->P a\/Nw X.K H a:=λa z=>z.elim (sub a) (d9 s)
 cases r with
 | bad=>exact h
 | err c=>exact h.elim
 | ok f=>
  cases f with
  | nx Z'=>exact λσ' H' M' s' E' o' k=>h σ' H' M' (s.trans s' sub) E' (λa z=>back a (o' a z)) (k.trans hj)
  | rt t Z'=>exact λv σ' H' M' s' E' o' k r=>h v σ' H' M' (s.trans s' sub) E' (λa z=>back a (o' a z)) (k.trans hj) r
theorem PostM.same {B P:Ow}{σ:L2.St}{H H1:Hp}{r:Rs Fx}{D:l4}(h:PostM X B P j σ H r D)(s:Same H H1):PostM X B P j σ H1 r D:=by
 cases r with
 | err c=>exact XA.later h (SameO.of s) λ_ z=>z.elim
 | bad=>exact h
 | ok f=>exact PostM.later (r:=.ok f) h (SameO.of s) (λa z=> .inl z) rfl
theorem G7:AW X j [] mN:=PSs.imp vI λD σ H ⟨Z,B,M,E,h⟩=>h σ H M (λ_ _ e _=>e) E (λa z=> .inl z) rfl
theorem G6 {st:Stmt}{F:En->Rs Fx}(h:AV X j st F):AW X j [st] F:=vH h
theorem EO {st:Stmt}{bJ:List Stmt}{F G:En->Rs Fx}(h1:AV X j st F)(h2:AW X j bJ G):AW X j (st::bJ) (gB F G):=PSs.imp (r8 h1 h2) λD σ H hh_=>by
 obtain⟨Z,B,M,E,h⟩:=hh_;refine⟨Z,B,M,E,?_⟩
 unfold gB at h
 cases q:F Z with
 | bad=>rw[q]at h;exact h.elim
 | err c=>rw[q]at h;exact h
 | ok f=>
  rw[q]at h
  cases f with
  | nx Z'=>exact λσ' H' M' s' E' o' k=>⟨Z',B,M',E',PostM.later h s' o' k⟩
  | rt t Z'=>exact h
theorem m_ex (ha:vh X a x)(hs:J4 a none pos.line X.env=pure false:=by rfl):AV X j (.Expr a pos) (sO x):=PS.imp (iZ ha hs) λD σ H hh_=>by
 obtain⟨Z,B,M,E,h⟩:=hh_;refine⟨Z,B,M,E,?_⟩
 unfold sO at h
 cases z:x Z with
 | bad=>rw[z]at h;exact h.elim
 | err c=>rw[z]at h;exact h
 | ok p=>rw[z,az]at h;exact λv H' M' s' E' o' r=>h σ H' M' s' E' o' rfl
theorem G5 (ha:vh X a x):AV X j (.Return (some a) pos) (jM x):=PS.imp (yU ha) λD σ H hh_=>by
 obtain⟨Z,B,M,E,h⟩:=hh_;refine⟨Z,B,M,E,?_⟩
 unfold jM at h
 cases z:x Z with
 | bad=>rw[z]at h;exact h.elim
 | err c=>rw[z]at h;exact h
 | ok p=>rw[z,az]at h;exact λv H' M' s' E' o' r=>h v σ H' M' s' E' o' rfl r
theorem m_as (i:Nat){n:Str}(hij:i≠j)(hN:X.N.Nodup)(ha:vh X a x)(hi:X.N[i]? =some n:=by rfl)(hx:Loc X.env.scope n:=by first | exact Ka rfl | exact JS rfl)(hs:J4 a (some (.Name n p3)) pos.line X.env=pure false:=by rfl)
  (hf:X.fn n=true\/X.env.scope.names.lookup n=some .local:=by first | exact .inl rfl | exact .inr rfl | assumption):AV X j (.Assign [.Name n p3] a pos) (zu i x):=PS.imp (ql hN hi hx ha hs hf) λD σ H hh_=>by
 obtain⟨Z,B,M,E,h⟩:=hh_;refine⟨Z,B,M,E,?_⟩
 unfold zu at h
 cases z:x Z with
 | bad=>rw[z]at h;exact h.elim
 | err c=>rw[z]at h;exact h
 | ok p=>
  rw[z,az]at h;intro v H' M' s' E' o' r
  by_cases hl:i<p.2.length
  ·rw[if_pos hl]at h
   exact h _ H' M' s' ⟨E'.env.set hl r,E'.mine⟩ o' (JD hij)
  ·rw[if_neg hl]at h;exact h.elim
theorem m_if {f:En->Rs Bool}{A C:List Stmt}{F G:En->Rs Fx}(hc:rC X c f)(ha:AW X j A F)(hb:AW X j C G):AV X j (.If c A C pos) (xM f F G):=PS.imp (yV hc ha hb) λD σ H hh_=>by
 obtain⟨Z,B,M,E,h⟩:=hh_;refine⟨Z,OO B M,E.o,?_⟩
 unfold xM at h
 cases q:f Z with
 | bad=>rw[q]at h;exact h.elim
 | err c=>rw[q]at h;exact h
 | ok k=>
  rw[q,az]at h;intro H' s
  have E':Ev X.K B M H' Z σ:=E.same s
  cases k with
  | true=>refine L2.iteT ?_;exact⟨Z,B,M,E',PostM.same (by simpa using h) s⟩
  | false=>refine L2.iteF ?_;exact⟨Z,B,M,E',PostM.same (by simpa using h) s⟩
theorem Ev.blank {K:Jh}{B:Ow}{M:Mn}{H:Hp}{Z:En}{σ:L2.St}(E:Ev K B M H Z σ):Ev K (OO B M) noM H (JH σ.length .em) σ:=
 ⟨⟨by simp,λi t e=>(by rw[Kg]at e;split at e <;> cases e),λi o e=>(by rw[Kg]at e;split at e <;> cases e),λ_ _ z=>z.elim,λ_ _ _ z=>z.elim,λa z=>E.env.trk a (z.elim id λ⟨_,w⟩=>w.elim)⟩,λa ⟨_,z⟩=>z.elim⟩
theorem G9 {st:Stmt}{c:Str}(h:mw X st (xp c)):AV X j st (B7 c):=PS.imp h λD σ H hh_=>by
 obtain⟨Z,B,M,E,q⟩:=hh_;refine⟨_,_,_,E.blank,?_⟩
 exact XA.later (P:=jI) q (λ_ _ e _=>e) λ_ ⟨_,z⟩=>z.elim
end
section
variable {K:Jh}
theorem o8 {f:Str}{b:Addr}:∀{ns:List Str} {as:List Addr},ns.length=as.length->ns.contains f=true->∃as1 d as2,as=as1++d::as2/\putF f (.ref b) (ns.zip (as.map V.ref))=ns.zip ((as1++b::as2).map V.ref) ∧
  ∀{O:Ow} {H:Hp} {ls:List (List T)} {l:List T} {vs:List V},H b=some (.lst vs)->Reps K O H l vs->LsR K O H ls as->LsR K O H (g8 f l ns ls) (as1++b::as2)
 | [],as,_,h=>by cases h
 | n::ns,[],hl,_=>by cases hl
 | n::ns,d::as,hl,h=>by
  by_cases z:n=f
  ·subst z
   refine⟨[],d,as,rfl,?_,λ{O H ls l vs} e1 e2 r=> ?_⟩
   ·show(if n=n then(n,V.ref b)::_ else _)=_
    rw[if_pos rfl];rfl
   ·cases ls with
    | nil=>cases (show d::as= []from r)
    | cons u ls=>
     obtain⟨b',bs,ws,f1,f2,f3,f4⟩:=r;cases f1
     show LsR K O H (if n=n then l::ls else _) _
     rw[if_pos rfl];exact⟨b,as,vs,rfl,e1,e2,f4⟩
  ·have h':ns.contains f=true:=by
    rw[LX,NN]at h;rcases h with h | h
    ·exact absurd (eq_of_beq h).symm z
    ·exact h
   obtain⟨as1,d',as2,g1,g2,g3⟩:=o8 (f:=f) (b:=b) (by simpa using hl) h'
   refine⟨d::as1,d',as2,by rw[g1];rfl,?_,λ{O H ls l vs} e1 e2 r=> ?_⟩
   ·show(if n=f then _ else(n,V.ref d)::putF f (.ref b) (ns.zip (as.map V.ref)))=_
    rw[if_neg z,g2];rfl
   ·cases ls with
    | nil=>cases (show d::as= []from r)
    | cons u ls=>
     obtain⟨b',bs,ws,f1,f2,f3,f4⟩:=r;cases f1
     show LsR K O H (if n=f then _ else u::g8 f l ns ls) _
     rw[if_neg z];exact⟨d,_,ws,rfl,f2,f3,g3 e1 e2 f4⟩
theorem vG {f:Str}{b:Addr}:∀{ns:List Str} {as:List Addr},ns.length=as.length->ns.contains f=false->putF f (.ref b) (ns.zip (as.map V.ref))=(ns++ [f]).zip ((as++ [b]).map V.ref)
 | [],[],_,_=>rfl
 | n::ns,[],hl,_=>by cases hl
 | n::ns,d::as,hl,h=>by
  rw[LX,N7]at h
  show(if n=f then _ else(n,V.ref d)::putF f (.ref b) (ns.zip (as.map V.ref)))=_
  rw[if_neg (λz=>by rw[z,beq_self_eq_true]at h;exact Bool.noConfusion h.1),vG (by simpa using hl) h.2];rfl
theorem LsR.app {O:Ow}{H:Hp}{b:Addr}{l:List T}{vs:List V}(e1:H b=some (.lst vs))(e2:Reps K O H l vs):∀{ls:List (List T)} {as:List Addr},LsR K O H ls as->LsR K O H (ls++ [l]) (as++ [b])
 | [],as,r=>by cases (show as= []from r);exact⟨b,[],vs,rfl,e1,e2,rfl⟩
 | u::ls,as,⟨d,ds,ws,f1,f2,f3,f4⟩=>by subst f1;exact⟨d,ds++ [b],ws,rfl,f2,f3,LsR.app e1 e2 f4⟩
end
section
variable {X:Cx}{j:Nat}{es:List Expr}{fs:En->Rs (List T)}{pos p2 p3 p4:Pos}
theorem G8 (i:Nat){n c f:Str}(hc:Cls X.K (bD X.K c))(hn:NoAttr X.K (bD X.K c) f)(ha:og X es fs)(hN:X.N[i]? =some n:=by rfl)(hv:lW X.env.scope n:=by first | exact Ka rfl | exact JS (Ka rfl) | exact JS (JS rfl))
  (hd:eF n:=by decide) (hcd:(n == ("__classdict__" : Str))=false:=by decide) (hs:J4 (.List es p4) (some (.Attribute (.Name n p2) f p3)) pos.line X.env=pure false:=by rfl) :
  AV X j (.Assign [.Attribute (.Name n p2) f p3] (.List es p4) pos) (sM i c f fs):=PS.imp (Ei (fh hN hv hd hcd) (vM ha) hs) λD σ H hh_=>by
 obtain⟨Z,B,M,E,h⟩:=hh_;unfold sM at h
 split at h
 ·rename_i c' ns ls hi
  refine⟨Z,OO B M,E.o,?_⟩
  cases z:fs Z with
  | bad=>rw[z]at h;exact h.elim
  | err c=>rw[z]at h;exact h
  | ok l=>
   rw[z,az]at h;intro H1 s1 vs rs
   split at h
   ·rename_i hcc
    obtain⟨h1,h2,h3⟩:=hcc;subst h1;refine⟨by rw[<-rs.length];exact h2,λb hb=> ?_⟩
    have E1:=E.same s1;obtain⟨v0,s0,p,dx,as,e1,e2,⟨n1,n2,n3,n4⟩,e4,e5,e6,e7,e8⟩:=E1.env.own i _ hi;subst e1
    have nb:∀{d:Addr} {o:HO},H1 d=some o->d≠b:=λe z=>by rw[z,hb.1]at e;cases e
    have mb:∀a,M i a->a≠b:=λa w=>nb (E1.env.trk a (.inr ⟨i,w⟩)).some.choose_spec
    have pb:p≠b:=nb e4
    have hbas:b∉as:=λw=>mb b ((e2 b).mpr (.inr (.inr w))) rfl
    have sm1:Same H1 (upd H1 b (.lst vs)):=a9 hb.1 _;refine⟨_,s0,p,_,dx,_,rfl,sm1 _ _ e4,hc,hn,by rw[List.length_zip,Jo,<-e6];simpa using h3,?_⟩
    have key:∀(ns':List Str) (as':List Addr) (ls':List (List T)),putF f (.ref b) (ns.zip (as.map V.ref))=ns'.zip (as'.map V.ref)->ns'.length=as'.length->ns'.Nodup->as'.Nodup->(∀a,a∈as'->a=b\/a∈as) →
      (∀{O:Ow} {H:Hp},H b=some (.lst vs)->Reps X.K O H l vs->LsR X.K O H ls as->LsR X.K O H ls' as')->PostM X B M.u j σ H (.ok (.nx (Z.set i (.ow (.ob c' ns' ls'))))) D->D.nx σ (upd (upd H1 b (.lst vs)) p (.ins (bD X.K c') dx (putF f (.ref b) (ns.zip (as.map V.ref))))):=λns' as' ls' k1 k2 k3 k4 k5 k6 k7=>by
     rw[k1]
     generalize hm:(λa=>a=p\/a=dx\/a∈as':Ow)=m
     have hsub:∀a,m a->M i a\/Nw X.K H1 a:=λa w=>by
      subst hm;rcases w with w | w | w
      ·exact .inl ((e2 a).mpr (.inl w))
      ·exact .inl ((e2 a).mpr (.inr (.inl w)))
      ·exact(k5 a w).elim (λy=> .inr (y▸hb)) λy=> .inl ((e2 a).mpr (.inr (.inr y)))
     have hO:∀a,OO B (M.set i m) a->OO B M a\/Nw X.K H1 a:=λa w=>w.elim (λy=> .inl (.inl y)) λy=>(Mn.Im y).elim (λq=>(hsub a q).imp_left λt=> .inr ⟨i,t⟩) λq=> .inl (.inr q)
     have sm2:SameO (λa=>a=p) (upd H1 b (.lst vs)) (upd (upd H1 b (.lst vs)) p (.ins (bD X.K c') dx (ns'.zip (as'.map V.ref)))):=λd o e ne=>by rw[aG ne];exact e
     have smi:SameO (M i) H1 (upd (upd H1 b (.lst vs)) p (.ins (bD X.K c') dx (ns'.zip (as'.map V.ref)))):=λd o e ne=>sm2 d o (sm1 _ _ e) λw=>ne ((e2 d).mpr (.inl w))
     have nin:∀a∈as',a≠p:=λa ha w=>(k5 a ha).elim (λy=>pb (w▸y)) λy=>n1 (w▸y)
     have rp:∀{t:List T} {ws:List V},Reps X.K (OO B M) H1 t ws->Reps X.K (OO B (M.set i m)) (upd (upd H1 b (.lst vs)) p (.ins (bD X.K c') dx (ns'.zip (as'.map V.ref)))) t ws:=λr=>r.move (P:=M i) (λa w=> .inl (.inr ⟨i,w⟩)) hO smi
     have smp:SameO (λa=>a=p) H1 (upd (upd H1 b (.lst vs)) p (.ins (bD X.K c') dx (ns'.zip (as'.map V.ref)))):=λd o e ne=>sm2 d o (sm1 _ _ e) ne
     have fin:=k6 (O:=OO B (M.set i m)) (H:=upd (upd H1 b (.lst vs)) p (.ins (bD X.K c') dx (ns'.zip (as'.map V.ref)))) (by rw[aG (LD pb)];exact aQ) (rp rs) (e8.move (P:=λa=>a=p) (λa w=> .inl (.inr ⟨i,(e2 a).mpr (.inl w)⟩)) hO smp λd hd w=>n1 (w▸hd))
     have ndx:dx∉as':=λw=>(k5 dx w).elim (nb e5) n2
     obtain⟨g1,g2,g3⟩:=E1.back (m:=m) (o':=.ob c' ns' ls') hi s0 smi ⟨p,dx,as',rfl,λd=>by subst hm;exact L9,⟨λw=>nin p w rfl,ndx,n3,k4⟩,aQ,by rw[aG n3];exact sm1 _ _ e5,k2,k3,fin⟩ hsub
     exact k7 σ _ _ (λd o e ne=>g2 d o (s1 _ _ e) ne) g1 (λa w=>(g3 a w).imp_right (i5 s1)) rfl
    cases hf:ns.contains f with
    | true=>
     rw[hf,if_pos rfl]at h;obtain⟨as1,d,as2,q1,q2,q3⟩:=o8 (K:=X.K) (f:=f) (b:=b) e6 hf;subst q1;refine key ns (as1++b::as2) (g8 f l ns ls) q2 (by rw[e6];simp) e7 ?_ (λa w=> ?_) (λa1 a2 a3=>q3 a1 a2 a3) h
     ·rw[Kw]at n4 ⊢
      obtain⟨m1,m2,m3⟩:=n4
      have nb1:b∉as1:=λw=>hbas (Kq _ w)
      have nb2:b∉as2:=λw=>hbas (JO _ (Jk _ w))
      refine⟨m1,JX.mpr ⟨nb2,(JX.mp m2).2⟩,λu hu w hw=> ?_⟩
      rcases Ju.mp hw with hw | hw
      ·exact λy=>nb1 (by rw[<-hw,<-y];exact hu)
      ·exact m3 u hu w (Jk _ hw)
     ·rcases JN.mp w with w | w
      ·exact .inr (Kq _ w)
      ·rcases Ju.mp w with w | w
       ·exact .inl w
       ·exact .inr (JO _ (Jk _ w))
    | false=>
     rw[hf,if_neg JJ]at h;refine key (ns++ [f]) (as++ [b]) (ls++ [l]) (vG e6 hf) (by simp[e6]) ?_ ?_ (λa w=> ?_) (λa1 a2 a3=>LsR.app a1 a2 a3) h
     ·rw[Kw]
      refine⟨e7,by simp,λu hu w hw y=> ?_⟩
      rw[JG.mp hw]at y
      have:ns.contains f=true:=by rw[List.contains_iff_mem,<-y];exact hu
      rw[hf]at this;cases this
     ·rw[Kw]
      exact⟨n4,by simp,λu hu w hw y=>hbas (by rw[<-JG.mp hw,<-y];exact hu)⟩
     ·rcases JN.mp w with w | w
      ·exact .inr w
      ·exact .inl (JG.mp w)
   ·exact h.elim
 ·exact h.elim
end
theorem mE {K:Jh}{B:Ow}{M:Mn}{H:Hp}{N:List Str}{sls:List Sl}{vs:List V}(E:Ev K B M H sls (vs.map some))(hl:sls.length<=N.length):Ev K B M H (dY N.length sls) (start N vs):=by
 have hlen:sls.length=vs.length:=by rw[E.env.len,Jo]
 have low:∀(i:Nat) (z:Sl),(dY N.length sls)[i]? =some z->z= .em\/(sls[i]? =some z/\(start N vs)[i]? =(vs.map some)[i]?):=λi z e=>by
  unfold dY at e;unfold L2.start
  by_cases hi:i<sls.length
  ·rw[JR hi]at e
   exact .inr ⟨e,JR (by rw[Jo,<-hlen];exact hi)⟩
  ·rw[Kp (by omega),Kg]at e
   split at e
   ·cases e;exact .inl rfl
   ·cases e
 refine⟨⟨by unfold dY L2.start;simp;omega,λi t e=> ?_,λi o e=> ?_,E.env.sub,E.env.dis,E.env.trk⟩,E.mine⟩
 ·rcases low i _ e with z | ⟨e1,e2⟩
  ·cases z
  ·rw[e2];exact E.env.val i t e1
 ·rcases low i _ e with z | ⟨e1,e2⟩
  ·cases z
  ·rw[e2];exact E.env.own i o e1
theorem BX {j:Nat}{f:Fx}{p:T×OT}(h:oA j f= .ok p):(∃Z,f= .nx Z/\p.1= .non/\Z[j]? =some (.ow p.2))\/∃Z,f= .rt p.1 Z/\Z[j]? =some (.ow p.2):=by
 cases f with
 | nx Z=>
  unfold oA at h
  dsimp only at h
  split at h
  ·rename_i o e;cases h;exact .inl ⟨Z,rfl,rfl,e⟩
  ·cases h
 | rt t Z=>
  unfold oA at h
  dsimp only at h
  split at h
  ·rename_i o e;cases h;exact .inr ⟨Z,rfl,e⟩
  ·cases h
section
variable {P:JK}{w:Kn}{K:Jh}{mg:Str->Option Ji}{base:Heap}
theorem Hz {x qual:Str}{st:Stmt}{f:Addr}{fd:Ki}{N ps:List Str}{k n j:Nat}{F:En->Rs Fx}(Fn:L2.Fun K x qual st f fd)(S:aA N ps (aj st))(hn:ps.length=n)
  (hbody:∀(cdv:Ji) (A:J0) (outer:List Env) (s:Jl) (H:Hp) (E:XK),Room k (A.deeper (envOfC qual (aj st) s.heap.objs.size f cdv)) →
   AW (fG CX0 P w K mg base N qual (aj st) f cdv A outer s H E).nox j (bx st) F):nZ P w K mg base CX0 (k+1) f fd ps (spE K n j (fV n j N.length F)):=by
 have hpl:ps.length<=N.length:=by have:=congrArg K3 S.pre;rw[J5]at this;omega
 refine Fn.ok S (λvs H Q E h=> ?_) (λcdv A outer s H vs Q E hr h=> ?_)
 ·obtain⟨sls,B,m,v,Ea,hl,_⟩:=h
  rw[<-Jo (as:=vs) (f:=some),<-Ea.env.len,hl,hn]
 ·obtain⟨sls,B,m,v,Ea,hl,hv,h⟩:=h
  refine⟨_,hbody cdv A outer s H E hr,dY N.length sls,B,one j m,mE Ea (by omega),?_⟩
  have hjs:(start N vs)[j]? =some (some v):=by
   unfold L2.start;rw[JR (by rw[Jo];exact(Jt.mp hv).1),JA,hv];rfl
  unfold fV at h;rw[if_pos hl]at h
  have fin:∀{p:T×OT} {Z':En} {σ':L2.St} {H':Hp} {M':Mn} {u:V},(∀u H' m',SameO m H H'->ORep K (BM B m') m' H' p.2 v->(∀a,m' a->m a\/Nw K H a)->Rep K (BM B m') H' p.1 u->Q u H')->Z'[j]? =some (.ow p.2) →
    SameO (one j m).u H H'->Ev K B M' H' Z' σ'->(∀a,M'.u a->(one j m).u a\/Nw K H a)->σ'[j]? =(start N vs)[j]?->Rep K (OO B M') H' p.1 u->Q u H':=λ{p Z' σ' H' M' u} h hj s' E' o' k r=>by
   obtain⟨v',e1,e2⟩:=E'.env.own j _ hj;rw[k,hjs]at e1;cases e1
   have sub:∀a,BM B (M' j) a->OO B M' a:=λa z=>z.imp_right λy=>⟨j,y⟩
   exact h u H' (M' j) (λb o e n=>s' b o e λz=>n (one_u.mp z)) (e2.move (P:=jI) (λ_ z=>z.elim) (λa z=> .inl (sub a z)) (λb u q _=>q) λ_ _ z=>z) (λa z=>(o' a ⟨j,z⟩).imp_left one_u.mp) (r.less sub)
  cases q:F (dY N.length sls)with
  | bad=>rw[q]at h;exact h.elim
  | err c=>rw[q]at h;exact h.elim
  | ok fl=>
   rw[q,az]at h
   cases q2:oA j fl with
   | bad=>rw[q2]at h;exact h.elim
   | err c=>rw[q2]at h;exact h.elim
   | ok p=>
    rw[q2]at h;rcases BX q2 with⟨Z',rfl,e1,e2⟩ | ⟨Z',rfl,e2⟩
    ·exact λσ' H' M' s' E' o' k=>fin h e2 s' E' o' k (by rw[e1];exact Rep.IK)
    ·exact λu σ' H' M' s' E' o' k r=>fin h e2 s' E' o' k r
theorem Cm {x qual:Str}{st:Stmt}{f:Addr}{fd:Ki}{N ps:List Str}{k:Nat}(Fn:L2.Fun K x qual st f fd)(S:aA N ps (aj st)){A:J0}{outer:List Env}{s:Jl}{H:Hp}{args:Args}{us:List Ji}{vs:List V}{c:Str}{R:PY->Jl->Prop}
  (hr:Room (k+1) A) (e0:Env0 P w K mg base A outer s H) (hb:NW s fd args (ps.zip us)) (r:Vals vs us) (hlen:vs.length=ps.length) (hR:∀ev s',RzC P w mg outer H s c ev s'->R (.error ev) s')
  (hbody:∀cdv,Room k (A.deeper (envOfC qual (aj st) s.heap.objs.size f cdv))->∀xe,∃t,PSs ((fG CX0 P w K mg base N qual (aj st) f cdv A outer s H E0).FB xe) (bx st) t ∧
   (XA ((fG CX0 P w K mg base N qual (aj st) f cdv A outer s H E0).FB xe) jI H c->t { nx:=λ_ _=>False,rt:=λ_ _=>False,bk:=λ_ _=>False,ct:=λ_ _=>False } (start N vs) H)) :
  codeAny (model P w) A (.call (.ref f) args) R s:=by
 obtain⟨oc,od,kV,doc,pm,an,cdv,ct,osl,rfl,lk,hcd⟩:=Fn.ex
 have KX:K.In s.heap:=e0.mod.kin.keeps λb o e=>(e0.bs b o e).1
 have lim:s.heap.NoLimit:=e0.mod.nolimit.keeps λb o e=>(e0.bs b o e).1
 have hkind:∀y∈ps.zip us,(aj st).names.lookup y.1=some .local\/((aj st).names.lookup y.1=some .cell/\((Ll (s.heap.objs.size+1) (aj st).names []).lookup y.1).isSome=true):=λ⟨n,v⟩ hy=>by
  rcases S.par n (LV hy).1 with q | q
  ·exact .inl q
  ·exact .inr ⟨q,Lr _ _ _ (.inl q)⟩
 refine Mr hr.depth (KX _ _ lk) rfl S.co S.gen rfl (MP KX hcd) (hb _ _ _ _ ?_)
 refine LC S.kind hkind λenv he s1 x=> ?_
 subst he;refine⟨lim.keeps x.toInCall.keep,Po ?_⟩
 let xe:Ji->Jl->Prop:=λev s'=>wpAny (model P w) (A.deeper (envOfC qual (aj st) s.heap.objs.size f cdv)) (leaving (envOfC qual (aj st) s.heap.objs.size f cdv) ev) (λ_ s''=>R (.error ev) s'') (λe' s''=>R (.error e') s'') s'
 obtain⟨t,ht,hgo⟩:=hbody cdv (hr.deeper _) xe
 have I:Inv ((fG CX0 P w K mg base N qual (aj st) f cdv A outer s H E0).FB xe) [] (start N vs) H s1:=(kR S hr.hd e0 hlen r x).FB _;refine K7 (ht [] s1 (start N vs) H _ I (hgo ?_)) (λfl s' z=> ?_) λe s' hs=>hs
 rotate_left
 ·cases fl with
  | next=>obtain⟨_,_,_,z⟩:=z;exact z.elim
  | cont=>obtain⟨_,_,_,z⟩:=z;exact z.elim
  | brk=>obtain⟨_,_,_,z⟩:=z;exact z.elim
  | ret v=>obtain⟨_,_,_,_,_,z⟩:=z;exact z.elim
 intro pins ev s' w'
 show wpAny _ _ _ _ _ _
 obtain⟨e,T,C,σ',H',rfl,hm,I',sm,he,heo,fl,hT,_⟩:=w'
 have heo:=heo rfl
 have hT:∀t,T=some t->H' t=none/\s.heap.get? t=none:=λt z=>⟨(hT t z).1,(hT t z).2 rfl⟩
 refine zA (base:=base) (outer:=outer) (L:=s.heap.objs.size) I'.ok.frames I'.stack rfl fl λh' T' g=>hR _ _ ?_
 have hex:((fG CX0 P w K mg base N qual (aj st) f cdv A outer s H E0).FB xe).ex= []:=rfl
 have Tn:H' T'=none/\s.heap.get? T'=none:=by
  rcases g.new with z | z
  ·exact hT T' z
  ·exact⟨kl I' z,fX I' hex z⟩
 have out:∀b o,s.heap.get? b=some o->b≠s.heap.objs.size:=λb o q z=>by
  have:=Jx q;rw[z]at this;exact absurd this (JU _)
 have mem:∀b,b∈nK ((envOfC qual (aj st) s.heap.objs.size f cdv)::outer)->b=s.heap.objs.size\/b∈nK outer:=λb z=>by
  have z':b∈s.heap.objs.size::nK outer:=z;exact Ju.mp z'
 have ne:∀b o,s.heap.get? b=some o->b≠e/\T≠some b:=λb o q=>⟨λz=>(by subst z;rw[show s.heap.get? b=none from heo]at q;cases q),λz=>(by rw[show s.heap.get? b=none from(hT b z).2]at q;cases q)⟩
 have keepH:∀b u,H' b≠none->s'.heap.get? b=some u->h'.get? b=some u:=λb u hb q=>by
  refine g.keep b u (λz=>hb (I'.Ip b z)) (λz=>hb (by rw[z];exact he)) (λz=>hb (hT b z).1) q
 refine⟨e,T',C,H',rfl,hm,I'.os,I'.bare,⟨λb o q n hb hx=> ?_,λb o q n hb hx=> ?_,λb o q n hx=>I'.base.free b o q n hx,λb o q hx=> ?_,I'.base.tups,I'.base.frzs,I'.base.tbls⟩,λa o q=> ?_,λb o q=>sm b o q λz=>z,he,heo,g.flt,Tn.1,Tn.2⟩
 ·exact g.keep b o (λz=>(mem b z).elim (out b o q) hb) (ne b o q).1 (ne b o q).2 (I'.base.keep b o q n hb hx)
 ·obtain⟨sl,q1⟩:=I'.base.slot b o q n hb hx
  obtain⟨sl',q2⟩:=g.slot b _ (Jk _ hb) q1;exact⟨sl',q2⟩
 ·obtain⟨o',q1⟩:=I'.base.there b o q hx
  by_cases z:b∈nK ((envOfC qual (aj st) s.heap.objs.size f cdv)::outer)
  ·obtain⟨sl,q2⟩:=g.slot b o' z q1
   exact⟨_,q2⟩
  ·exact⟨o',g.keep b o' z (ne b o q).1 (ne b o q).2 q1⟩
 ·refine(I'.hok a o q).Iw (λb u hb z=>keepH b u ?_ z) (λ_ z=>z) λ_ _ z=>z
  rcases hb with rfl | hb
  ·rw[q];simp
  ·rw[hb];simp
theorem yz {n j m:Nat}{F:En->Rs Fx}{sls:List Sl}{c:Str}(h:fV n j m F sls= .err c):F (dY m sls)= .err c:=by
 unfold fV at h
 split at h
 ·cases z:F (dY m sls)with
  | bad=>rw[z]at h;cases h
  | err c'=>rw[z]at h;cases h;rfl
  | ok f=>
   rw[z,az]at h;cases f <;> unfold oA at h <;> dsimp only at h <;> split at h <;> cases h
 ·cases h
theorem z9 {x qual:Str}{st:Stmt}{f:Addr}{fd:Ki}{N ps:List Str}{k n j:Nat}{F:En->Rs Fx}(Fn:L2.Fun K x qual st f fd)(S:aA N ps (aj st))(hn:ps.length=n)
  (hbody:∀(cdv:Ji) (A:J0) (outer:List Env) (s:Jl) (H:Hp) (E:XK),Room k (A.deeper (envOfC qual (aj st) s.heap.objs.size f cdv)) →
   ∀xe,AW ((fG CX0 P w K mg base N qual (aj st) f cdv A outer s H E).FB xe) j (bx st) F):CT P w K mg base (k+1) f fd ps n j (fV n j N.length F):=
 ⟨Hz Fn S hn λcdv A outer s H E hr=>hbody cdv A outer s H E hr _,λA outer s H args us vs B m sls c R hr e0 hb r Ea hl hg hR=>by
  have hpl:ps.length<=N.length:=by have:=congrArg K3 S.pre;rw[J5]at this;omega
  refine Cm Fn S hr e0 hb r ?_ hR λcdv hr' xe=>⟨_,hbody cdv A outer s H E0 hr' xe,λxa=>⟨dY N.length sls,B,one j m,mE Ea (by omega),?_⟩⟩
  ·rw[<-Jo (as:=vs) (f:=some),<-Ea.env.len,hl,hn]
  ·rw[yz hg];exact xa⟩
end
section
variable {X:Cx}{pins:List (Addr×Obj)}{σ:L2.St}{H:Hp}{s:Jl}{Q:VK}{us:List Ji}{vs:List V}{ts:List T}{B O:Ow}{k n:Nat}{f:Addr}{fd:Ki}{ps:List Str}{g:List Sl->Rs (T×OT)}{c:Str}
theorem xq (M:Mk X.K (bD X.K c) f)(F:CT X.prog X.w X.K X.mg X.base k f fd ps n 0 g)(hr:Room (k+1) X.A)(hb:Binds X.K fd ps [])(hn:ts.length+1=n)(hps:ps.length=n)(I:Inv X pins σ H s)(r:Vals vs us)(rs:Reps X.K O H ts vs)(mt:∀a,O a->Mtb H a){o:OT}
  (hg:g (.ow (.ob c [] [])::ts.map Sl.va)= .ok (.non,o)) (h:∀p H' m,Same H H'->ORep X.K (BM O m) m H' o (.ref p)->(∀a,m a->Nw X.K H a)->Q (.ref p) H'):wpAny (model X.prog X.w) X.A (call (.ref (bD X.K c)) us) (EP X pins σ Q) X.xe s:=by
 have nk:∀q,s.heap.objs.size<=q->X.K.lookup q=none:=λq hq=>by
  cases z:X.K.lookup q with
  | none=>rfl
  | some o=>exact absurd (Jx (I.kIn _ o z)) (Nat.not_lt.mpr hq)
 generalize hp:s.heap.objs.size+1=p
 have np:Nw X.K H p:=⟨I.hok.fresh (by omega),nk p (by omega)⟩
 generalize hd:s.heap.objs.size=dx at hp
 have nd:Nw X.K H dx:=⟨I.hok.fresh (by omega),nk dx (by omega)⟩
 have ne:dx≠p:=by omega
 have sm0:Same H (upd (upd H dx (.own p)) p (.ins (bD X.K c) dx [])):=λb o e=>by
  rw[aG (λz=>by rw[z,np.1]at e;cases e),aG (λz=>by rw[z,nd.1]at e;cases e)];exact e
 have hm:∀a,(λa=>a=p\/a=dx:Ow) a->Nw X.K H a:=λa z=>z.elim (λy=>y▸np) λy=>y▸nd
 have subO:∀a,OO O (one 0 λa=>a=p\/a=dx) a->O a\/Nw X.K H a:=λa z=>(one_oo.mp z).imp_right (hm a)
 have hlen:=rs.length
 have Ea:Ev X.K O (one 0 λa=>a=p\/a=dx) (upd (upd H dx (.own p)) p (.ins (bD X.K c) dx [])) (.ow (.ob c [] [])::ts.map Sl.va) ((V.ref p::vs).map some):=by
  refine⟨⟨by simp[hlen],λi t e=> ?_,λi o' e=> ?_,λi a z=> .inr ⟨i,z⟩,λi k a z1 z2=> ?_,λa z=> ?_⟩,λa z y=> ?_⟩
  ·obtain⟨w,e1,e2⟩:=uU (v0:=V.ref p) rs e
   exact⟨w,by rw[JA,e1];rfl,(e2.more subO).same sm0⟩
  ·have hi:=uV e
   subst hi;cases e;refine⟨.ref p,rfl,p,dx,[],rfl,λb=> ?_,⟨by simp,by simp,ne,by simp⟩,aQ,?_,rfl,by simp,rfl⟩
   ·rw[show one 0 (λa=>a=p\/a=dx) 0=_ from Mn.Ir];simp
   ·rw[aG ne];exact aQ
  ·unfold one Mn.set at z1 z2
   by_cases h1:i=0
   ·by_cases h2:k=0
    ·rw[h1,h2]
    ·rw[if_neg h2]at z2;exact z2.elim
   ·rw[if_neg h1]at z1;exact z1.elim
  ·rcases one_oo.mp z with y | y | y
   ·exact(mt a y).same sm0
   ·rw[y];exact .inr (.inr ⟨_,aQ,rfl⟩)
   ·rw[y];exact .inr (.inr ⟨_,by rw[aG ne];exact aQ,rfl⟩)
  ·obtain⟨o,e⟩:=(mt a y).some
   rw[(hm a (one_u.mp z)).1]at e;cases e
 have hq:spE X.K n 0 g (.ref p::(vs++ [])) (upd (upd H dx (.own p)) p (.ins (bD X.K c) dx [])) (λv H2=>v= .non/\Q (.ref p) H2) E0:=by
  refine⟨_,O,_,.ref p,by rw[JZ];exact Ea,by simp[hn],rfl,?_⟩
  rw[hg];intro u H' m' s' ro hm' rt;refine⟨Rep.Ik.mp rt,h p H' m' (λb o e=>s' b o (sm0 _ _ e) λz=> ?_) ro λa z=> ?_⟩
  ·rw[(hm b z).1]at e;cases e
  ·rcases hm' a z with y | y
   ·exact hm a y
   ·exact i5 sm0 y
 have I2:=Inv.made (C:=bD X.K c) I;rw[hd,hp]at I2
 have r2:Vals (V.ref p::(vs++ [])) (JQ p::(us++ [])):=.cons rfl (r.append .nil)
 have hl:(JQ p::us++ []).length=ps.length:=by rw[JZ,Jp,<-r.length,<-hlen,hps,hn]
 refine N4 (zr (f:=f) I.kIn M.makes M.init (beq_iff_eq.mp M.fn) ?_)
 rw[hd,hp]
 have hb2:=hb _ (JQ p::us) I2.kIn hl;rw[Pw]at hb2;refine LR (F.h.run _ X.stack _ _ ⟨JQ p::us,[]⟩ (JQ p::(us++ [])) _ _ E0 (hr.make (bD X.K c) us []) (I2.IJ.make (bD X.K c) us []) hb2 r2 hq) λr s' hq'=> ?_
 cases r with
 | error e=>exact hq'.elim
 | ok fl=>
  cases fl with
  | ret u=>
   obtain⟨v,H',I3,rv,ev,q3⟩:=I2.after hq';subst ev
   exact⟨rv,⟨V.ref p,H',I3,rfl,q3⟩⟩
  | next=>exact K6 hq'
  | brk=>exact K6 hq'
  | cont=>exact K6 hq'
theorem Bp (i:Nat){e:Expr}{es:List Expr}{fs:En->Rs (List T)}{n0:Str}{p pos spos p3:Pos}(M:Mk X.K (bD X.K c) f)(F:CT X.prog X.w X.K X.mg X.base k f fd ps n 0 g)(hr:Room (k+1) X.A)(hm:X.mg c=some (.ref (bD X.K c)))(hb:Binds X.K fd ps [])(hps:ps.length=n)
  (hl:∀Z ts,fs Z= .ok ts->ts.length+1=n) (hN:X.N.Nodup) (ha:og X (e::es) fs) (hi:X.N[i]? =some n0:=by rfl) (hx:Loc X.env.scope n0:=by first | exact Ka rfl | exact JS rfl)
  (hs:J4 (.Call (.Name c p) (e::es) [] pos) (some (.Name n0 p3)) spos.line X.env=pure false:=by rfl) (hf:X.fn n0=true\/X.env.scope.names.lookup n0=some .local:=by first | exact .inl rfl | exact .inr rfl | assumption)
  (hg:Gl X c:=by rfl) (hdb:eF c:=by decide) (he:Jy (e::es) X.env=(false,eval e X.env)::Jy es X.env:=by rfl) (hpl:(backTo pos (Jy es X.env)).any (·.1)=false:=by rfl) :
  mw X (.Assign [.Name n0 p3] (.Call (.Name c p) (e::es) [] pos) spos) (o6 i c g fs):=by
 let te:TE:=λσ H Q=> ∃Z B M',Ev X.K B M' H Z σ/\(∀c,fs Z= .err c->XA X jI H c)/\fs Z≠ .bad/\(∀ts,fs Z= .ok ts->∃o,g (.ow (.ob c [] [])::ts.map Sl.va)= .ok (.non,o)/\∀q H1 H' m,Same H H1->Same H1 H'->ORep X.K (BM (OO B M') m) m H' o (.ref q)->(∀a,m a->Nw X.K H1 a)->Q (.ref q) H')
 have pe:PE X (.Call (.Name c p) (e::es) [] pos) te:=by
  intro pins s σ H Q I ⟨Z,B,M',E,h1,h2,h3⟩;refine KC (gC I hg hm ?_ hdb)
  refine Lu (h₀:=X.base) I.ok.mod.kin M.kp (bK (ha pos pins s σ H (λvs H2=> ∃ts,fs Z= .ok ts/\Same H H2/\Reps X.K (OO B M') H2 ts vs) I ⟨Z,OO B M',E.o,?_⟩) λus s1 ⟨vs,H1,I1,r,ts,q1,sm,rs⟩=>⟨I1.kIn,?_⟩) he hpl
  ·cases z:fs Z with
   | bad=>exact(h2 z).elim
   | err c=>exact h1 c z
   | ok ts=>exact λH' s' vs rs=>⟨ts,rfl,s',rs⟩
  ·obtain⟨o,hgo,hq⟩:=h3 ts q1
   exact xq M F hr hb (hl Z ts q1) hps I1 r rs (E.same sm).env.trk hgo λq H' m s' ro hm'=>hq q H1 H' m sm s' ro hm'
 refine PS.imp (ql hN hi hx pe hs hf) λD σ H ⟨Z,B,M',E,h⟩=> ?_
 unfold o6 at h;refine⟨Z,B,M',E,λc z=> ?_,λz=> ?_,λts z=> ?_⟩
 ·rw[z]at h;exact PostF.xa h
 ·rw[z]at h;exact h
 ·rw[z,az]at h
  cases z2:g (.ow (.ob c [] [])::ts.map Sl.va)with
  | bad=>rw[z2]at h;exact h.elim
  | err c=>rw[z2]at h;exact h.elim
  | ok q=>
   rw[z2]at h
   replace h:PostF X B M'.u H (match q.1 with
    | .non=>if i<Z.length then .ok (.nx (Z.set i (.ow q.2)))else .bad
    | _=> .bad) D:=h
   obtain⟨t,o⟩:=q
   cases t with
   | non=>
    dsimp only at h
    refine⟨o,rfl,λq H1 H' m s1 s' ro hm'=> ?_⟩
    by_cases hl:i<Z.length
    ·rw[if_pos hl]at h
     obtain⟨E2,sub⟩:=(E.same s1).new (m:=m) (o:=o) (v:=.ref q) hl hm' s' (ro.move (P:=jI) (λ_ z=>z.elim) (λa z=> .inl (z.elim (λw=> .inl (.inl w)) λw=>(Mn.Im w).elim .inr λy=> .inl (.inr y))) (λb u q _=>q) λ_ _ z=>z)
     exact h _ _ _ (SameO.of (s1.trans s')) E2 λa z=>(sub a z).imp_right (i5 s1)
    ·rw[if_neg hl]at h;exact h.elim
   | _=>exact h.elim
end
section
variable {X:Cx}{j:Nat}
def AJ (X:Cx)(suite:List Stmt)(CE:Addr)(h:Str->Rs T):Prop:=
 ∀(c:Str) (C:Addr) (t:T),X.mg c=some (.ref C)->h c= .ok t->∃bm,OX X.K C bm/\(JQ C::bm).contains (.ref CE)=true/\∀(e:Addr) (oe:Obj),jT (Dk X e oe) suite (aJ (cn t))
theorem EN {body suite:List Stmt}{b0:Stmt}{F:En->Rs Fx}{h:Str->Rs T}{ce:Str}{CE:Addr}{bmE:List Ji}{np hpos pos:Pos}(hst:X.stack=X.env::X.outer)(hfe:X.env.frame=some X.env.locals)(hcl:∀x c,X.env.cells.lookup x≠some c)(hex:X.ex= [])
  (hm:X.mg ce=some (.ref CE)) (OE:OX X.K CE bmE)
  (hb:∀pn xe,AW { X with pn:=pn,xe:=xe } j body F) (hs:AJ X (b0::suite) CE h) (hg:Gl X ce:=by rfl) (hd:eF ce:=by decide) :
  AV X j (.Try body [.ExceptHandler (some (.Name ce np)) none (b0::suite) hpos] [] [] pos) (nu F h):=by
 intro pins s σ H D I ⟨Z,B,M,E,hq⟩;refine wpAny_Try_except ?_
 unfold nu at hq
 cases q:F Z with
 | bad=>rw[q]at hq;exact hq.elim
 | ok fl=>
  rw[q]at hq;refine K7 (hb X.pn (λ_ _=>False) pins s σ H D (I.FB _) ⟨Z,B,M,E,by rw[q];cases fl <;> exact hq⟩) (λf s1 r=> ?_) (λe s1 z=>z.elim)
  cases f with
  | next=>obtain⟨σ7,H7,I7,q7⟩:=r;exact LZ ⟨σ7,H7,I7.FB _,q7⟩
  | ret u=>obtain⟨x7,σ7,H7,I7,r7,q7⟩:=r;exact⟨x7,σ7,H7,I7.FB _,r7,q7⟩
  | brk=>obtain⟨σ7,H7,I7,q7⟩:=r;exact⟨σ7,H7,I7.FB _,q7⟩
  | cont=>obtain⟨σ7,H7,I7,q7⟩:=r;exact⟨σ7,H7,I7.FB _,q7⟩
 | err c=>
  rw[q]at hq
  cases q2:h c with
  | bad=>simp only[q2]at hq;exact hq.elim
  | err c'=>simp only[q2]at hq;exact hq.elim
  | ok t=>
   simp only[q2]at hq
   have hq':∀v H',Same H H'->Rep X.K (OO B M) H' t v->D.rt v H':=λv H' s' r=>hq v σ H' M (SameO.of s') (E.same s') (λa z=> .inl z) rfl r
   refine K7 (hb (X.pn++pins) _ [] s σ H { nx:=λ_ _=>False,rt:=λ_ _=>False,bk:=λ_ _=>False,ct:=λ_ _=>False } ((Tr.Inv.IU pins I).FB _) ⟨Z,B,M,E,?_⟩) (λfl s' z=> ?_) λ_ _ z=>z
   rotate_left
   ·cases fl with
    | next=>obtain⟨_,_,_,z⟩:=z;exact z.elim
    | cont=>obtain⟨_,_,_,z⟩:=z;exact z.elim
    | brk=>obtain⟨_,_,_,z⟩:=z;exact z.elim
    | ret v=>obtain⟨_,_,_,_,_,z⟩:=z;exact z.elim
   rw[q];intro pins1 ev s1 w;obtain⟨e,T,C,σ1,H1,rfl,hmc,I1,smn,he,heo,fl,hT,hpp⟩:=w
   have sm:Same H H1:=λb o z=>smn b o z λy=>y
   have I1:Inv X pins σ1 H1 s1:=Tr.Inv.IY (X:=X) I1
   have hpp:∀p∈X.pn++pins,p.1≠e/\T≠some p.1:=λp hp=>hpp p (Kq _ hp)
   have heo:=heo hex
   have hT:∀t,T=some t->H1 t=none/\X.s₀.heap.get? t=none:=λt z=>⟨(hT t z).1,(hT t z).2 hex⟩
   show wpAny _ _ _ _ _ _
   have hfr:X.A.frames=some (X.env::X.outer):=by rw[<-hst];exact I1.ok.frames
   have hstk:s1.heap.FunFrames X.base (X.env::X.outer):=by rw[<-hst];exact I1.stack
   refine G3 hfr hstk hfe fl λh' T' g=> ?_
   have I2:=Inv.gone I1 hst hfe hcl hex g he heo hT hpp
   have Tn:H1 T'=none/\X.s₀.heap.get? T'=none/\∀p∈X.pn++pins,p.1≠T':=by
    rcases g.new with z | z
    ·exact⟨(hT T' z).1,(hT T' z).2,λp hp y=>(hpp p hp).2 (by rw[z,y])⟩
    ·exact⟨kl I1 z,fX I1 hex z,λp hp y=>by have:=(I1.pin p hp).1;rw[y,z]at this;cases this⟩
   obtain⟨bm,OC,hin,run⟩:=hs c C t hmc q2;obtain⟨hTe,oe,ev,hoe,hoc,hod,h1,oT,ts,hoT,hdT,h3⟩:=g.flt
   have nfr:∀b o vs,h'.get? b=some o->o.data= .fields vs->b∉(X.env::X.outer).filterMap (·.frame):=λb o vs hb hd z=>by
    have:=I2.stack;rw[hst]at this;obtain⟨_,o',ho',hnf⟩:=this.mem z;rw[show h'.get? b=some o' from ho']at hb
    cases hb;exact hnf vs hd
   have hel:e≠X.env.locals:=λz=>nfr e oe ev hoe hod (by rw[KI,hfe];exact z▸Jq)
   have hef:e∉X.fs:=λz=>nfr e oe ev hoe hod (by rw[KI,hfe];exact Jk _ z)
   have hcell:∀v,oe.data≠ .cell v:=λv z=>by rw[hod]at z;cases z
   have I3:Inv (Dk X e oe) pins σ1 H1 { s1 with heap:=h' }:=wC I2 hoe he hel hef hcell
   refine wpAny_handleBy_cons (codeAny_handlers_test (gC (X:=Dk X e oe) I3 hg hm ?_ hd)) (by intro z;cases z)
   obtain⟨nm,qq,N,bs,hdct,sn,sub,ab,col,dd,k0,k1,k2,k3,k5,mN,hC,_⟩:=OC.at_ h' I3.kIn;obtain⟨nm',qq',N',bs',hdct',sn',sub',ab',col',dd',k0',k1',k2',k3',k5',mN',hD,_,_,TD⟩:=OE.at_ h' I3.kIn;refine xK hC hD hoe hoc (TD.tail.hasType (by decide)) hin (codeAny_handlers_suite ?_)
   refine wpAny_setFlight_none hoe hod h1 hoT hdT (KF.mp h3).1 ?_
   generalize hU:h'.update T' (OD (·.setIfInBounds 3 JY))=h2
   have kp:∀b,b≠T'->h2.get? b=h'.get? b:=λb hb=>by rw[<-hU];exact L6 _ _ (LD hb)
   have hT2:h2.get? T'=some (OD (·.setIfInBounds 3 JY) oT):=by rw[<-hU];exact NK _ hoT (NL (LW hdT _))
   have hoe2:h2.get? e=some oe:=(kp e (LD hTe)).trans hoe
   have g2:CS ((X.env::X.outer).filterMap (·.frame)) C e (some T') h' h2 T':=⟨⟨hTe,oe,ev,hoe2,hoc,hod,h1,_,_,hT2,LW hdT _,by simp[(KF.mp h3).1]⟩,.inl rfl,λb o _ _ n3 q=>(kp b λz=>n3 (by rw[z])).trans q,λb o m q=>⟨o.slots,(kp b λz=>nfr T' oT ts hoT hdT (z▸m)).trans q⟩⟩
   have I4:Inv X pins σ1 H1 { s1 with heap:=h2 }:=Inv.gone (s:={ s1 with heap:=h' }) I2 hst hfe hcl hex g2 he heo (λt z=>by cases z;exact⟨Tn.1,Tn.2.1⟩) λp hp=>⟨(hpp p hp).1,λz=>Tn.2.2 p hp (JW z).symm⟩
   have I5:Inv (Dk X e oe) pins σ1 H1 { s1 with heap:=h2 }:=wC I4 hoe2 he hel hef hcell
   have Eb:=(E.same sm).blank;obtain⟨Zb,hρb⟩:∃Zb:En,Zb=JH σ1.length Sl.em:=⟨_,rfl⟩
   have E1:Ev X.K (OO B M) noM H1 Zb σ1:=by
    subst hρb;exact⟨⟨by simp,λi t e=>(by rw[Kg]at e;split at e <;> cases e),λi o e=>(by rw[Kg]at e;split at e <;> cases e),λ_ _ z=>z.elim,λ_ _ _ z=>z.elim,Eb.env.trk⟩,λa ⟨_,z⟩=>z.elim⟩
   refine K7 (run e oe pins _ σ1 H1 { nx:=λ_ _=>False,rt:=λv H'=>Same H1 H'/\Rep X.K (OO B M) H' t v } I5 ⟨Zb,OO B M,noM,E1,λv H' s' r=>⟨λb o z=>s' b o z λ⟨_,y⟩=>y,r⟩⟩) (λf s4 r=> ?_) λ_ _ z=>z.elim
   cases f with
   | next=>obtain⟨_,_,_,z⟩:=r;exact z.elim
   | brk=>obtain⟨_,_,_,z⟩:=r;exact z.elim
   | cont=>obtain⟨_,_,_,z⟩:=r;exact z.elim
   | ret u=>
    obtain⟨v,σ',H',I7,rv,s',rt⟩:=r;exact⟨v,_,H',Ci I.ok I7,rv,hq' v H' (λb o y=>s' b o (sm b o y)) rt⟩
end
structure QE (X:Cx)(e:Expr)(f:En->Rs T):Prop where
 h:b6 X e f
structure QA (X:Cx)(e:List Expr)(f:En->Rs (List T)):Prop where
 h:og X e f
structure QT (X:Cx)(e:Expr)(f:En->Rs Bool):Prop where
 h:rC X e f
structure QW (X:Cx)(e:Expr)(f:En->Rs Bool):Prop where
 h:Dq X e f
structure QS (X:Cx)(e:Stmt)(f:En->Rs Fl):Prop where
 h:mw X e f
structure vf (X:Cx)(e:List Stmt)(f:En->Rs Fl):Prop where
 h:jT X e f
structure QG (X:Cx)(e:Expr)(f:T->En->Rs En):Prop where
 h:Dr X e f
structure Ig (X:Cx)(e:List Expr)(f:List T->En->Rs En):Prop where
 h:AL X e f
structure QI (X:Cx)(t e:Expr)(f:En->Rs (List T)):Prop where
 h:yg X t e f
structure QO (X:Cx)(e:Option Expr)(f:En->Rs (Option Int)):Prop where
 h:HQ X e f
structure Ie (X:Cx)(e:List Expr)(f:En->Rs Bool):Prop where
 h:yh X e (yC X f)
theorem af {X:Cx}(i:Nat){x:Str}{pos:Pos}(hN:(Cx.N X)[i]? =some x:=by rfl)(hv:lW (Ly (Cx.env X)) x:=by first | exact Ka rfl | exact JS (Ka rfl) | exact JS (JS rfl))(hd:eF x:=by decide)(hcd:(x == JC "__classdict__")=false:=by decide):QE X (J3 x pos) (vr i):=
 ⟨Gy (i:=i) (hN:=hN) (hv:=hv) (hd:=hd) (hcd:=hcd)⟩
theorem ak {X:Cx}{i:Int}{j:Nat}{pos:Pos}:QE X (Nj (Const.int i) j pos) (cn (T.int i)):=
 ⟨GI ⟩
theorem fK {X:Cx}{i:Bool}{j:Nat}{pos:Pos}:QE X (Nj (Const.bool i) j pos) (cn (T.bl i)):=
 ⟨q_bl ⟩
theorem dm {X:Cx}{j:Nat}{pos:Pos}:QE X (Nj Const.none j pos) (cn T.non):=
 ⟨GD ⟩
theorem gv {X:Cx}{i:Str}{j:Nat}{pos:Pos}:QE X (Nj (Const.str i) j pos) (cn (T.str i)):=
 ⟨GA ⟩
theorem A1 {X:Cx}{x:Str}{i:Int}{u:Ji}{pos:Pos}(hm:Cx.mg X x=some u)(r:L2.RelV (V.int i) u)(hg:Gl X x:=by rfl)(hd:eF x:=by decide):QE X (J3 x pos) (cn (T.int i)):=
 ⟨D8 (hm:=hm) (r:=r) (hg:=hg) (hd:=hd)⟩
theorem ah {X:Cx}:QA X [] ai:=
 ⟨D7 ⟩
theorem ag {X:Cx}{e:Expr}{es:List Expr}{f:En->Rs T}{g:En->Rs (List T)}(he:QE X e f)(hr:QA X es g)(hn:bf e=true:=by rfl):QA X (e::es) (ae f g):=
 ⟨qa_c (he:=he.h) (hr:=hr.h) (hn:=hn)⟩
theorem aW {X:Cx}{es:List Expr}{x1:Nat}{pos:Pos}{f:En->Rs (List T)}(h:QA X es f):QE X (Expr.Tuple es x1 pos) (aU f):=
 ⟨Gz (h:=h.h)⟩
theorem hI {X:Cx}{es:List Expr}{pos:Pos}{f:En->Rs (List T)}(h:QA X es f):QE X (Expr.List es pos) (fF f):=
 ⟨GG (h:=h.h)⟩
theorem au {X:Cx}{a b:Expr}{fa fb:En->Rs T}{pos:Pos}{op:Operator}{g:T->T->Rs T}(ho:OpT X (KY op) g)(ha:QE X a fa)(hb:QE X b fb):QE X (Expr.BinOp a op b pos) (o2 g fa fb):=
 ⟨GN (ho:=ho) (ha:=ha.h) (hb:=hb.h)⟩
theorem fU {X:Cx}{a b:Expr}{fa fb:En->Rs T}{pos:Pos}{op:P7}{g:T->T->Rs T}(ho:OpT X (Kh op) g)(ha:QE X a fa)(hb:QE X b fb)(hm:L3 op b=false:=by rfl):QE X (Pm a [op] [b] pos) (o2 g fa fb):=
 ⟨GL (ho:=ho) (ha:=ha.h) (hb:=hb.h) (hm:=hm)⟩
theorem jz {X:Cx}{a:Expr}{fa:En->Rs T}{pos:Pos}(ha:QE X a fa):QE X (Pn UnaryOp.USub a pos) (o1 ji fa):=
 ⟨GF (ha:=ha.h)⟩
theorem rH {X:Cx}{a b c:Expr}{fa fb fc:En->Rs T}{pos:Pos}{op op':P7}{g g':T->T->Rs T}(ho:OpT X (Kh op) g)(ho':OpT X (Kh op') g')(ha:QE X a fa)(hb:QE X b fb)(hc:QE X c fc)(hm:lastMarks [op,op'] [b,c] =false:=by with_unfolding_all rfl):QE X (Pm a [op,op'] [b,c] pos) (ch g g' fa fb fc):=
 ⟨BE (ho:=ho) (ho':=ho') (ha:=ha.h) (hb:=hb.h) (hc:=hc.h) (hm:=hm)⟩
theorem eM {X:Cx}{e:Expr}{f:En->Rs T}(h:QE X e f)(he:∀(whole:Sem Ji),PySem.isTrue e (Cx.env X) whole=(do let v <-whole;standAt (Expr.pos e);holding [v] (truthy v)):=by intro _;rfl):QT X e (tb f):=
 ⟨DM (h:=h.h) (he:=he)⟩
theorem bj {X:Cx}{a b:Expr}{fa fb:En->Rs T}{pos:Pos}{op:P7}{g:T->T->Rs T}(ho:OpT X (Kh op) g)(ha:QE X a fa)(hb:QE X b fb)(hm:L3 op b=false:=by rfl):QT X (Pm a [op] [b] pos) (tb (o2 g fa fb)):=
 ⟨DO (ho:=ho) (ha:=ha.h) (hb:=hb.h) (hm:=hm)⟩
theorem ym {X:Cx}{a:Expr}{pos:Pos}{f:En->Rs Bool}(ha:QT X a f):QW X (Le N3 [a] pos) f:=
 ⟨Bk (ha:=ha.h)⟩
theorem l5 {X:Cx}{a:Expr}{pos:Pos}{f:En->Rs Bool}(ha:QT X a f):QW X (Le OF [a] pos) f:=
 ⟨DK (ha:=ha.h)⟩
theorem AZ {X:Cx}{a b:Expr}{pos:Pos}{f g:En->Rs Bool}{bJ:List Expr}(ha:QT X a f)(hb:QW X (Le N3 (b::bJ) pos) g):QW X (Le N3 (a::b::bJ) pos) (rq f g):=
 ⟨DL (ha:=ha.h) (hb:=hb.h)⟩
theorem pT {X:Cx}{a b:Expr}{pos:Pos}{f g:En->Rs Bool}{bJ:List Expr}(ha:QT X a f)(hb:QW X (Le OF (b::bJ) pos) g):QW X (Le OF (a::b::bJ) pos) (oa f g):=
 ⟨Gs (ha:=ha.h) (hb:=hb.h)⟩
theorem rF {X:Cx}{f:En->Rs Bool}{e:Expr}(h:QW X e f):QT X e f:=
 ⟨qt_w (h:=h.h)⟩
theorem fI {X:Cx}{a:Expr}{pos:Pos}{f:En->Rs Bool}(ha:QT X a f):QT X (Pn UnaryOp.Not a pos) (dM f):=
 ⟨DN (ha:=ha.h)⟩
theorem dF {X:Cx}{a:Expr}{fa:En->Rs T}{pos:Pos}{op:BoolOp}(h:QE X a fa):QE X (Le op [a] pos) fa:=
 ⟨GB (h:=h.h)⟩
theorem dn {X:Cx}{a b:Expr}{fa fb:En->Rs T}{pos:Pos}{bJ:List Expr}(ha:QE X a fa)(hb:QE X (Le N3 (b::bJ) pos) fb):QE X (Le N3 (a::b::bJ) pos) (cm fa fb):=
 ⟨GO (ha:=ha.h) (hb:=hb.h)⟩
theorem CY {X:Cx}{a b:Expr}{fa fb:En->Rs T}{pos:Pos}{bJ:List Expr}(ha:QE X a fa)(hb:QE X (Le OF (b::bJ) pos) fb):QE X (Le OF (a::b::bJ) pos) (AR fa fb):=
 ⟨q_or (ha:=ha.h) (hb:=hb.h)⟩
theorem Du {X:Cx}{a:Expr}{fa:En->Rs T}{pos:Pos}(ha:QE X a fa):QE X (Pn UnaryOp.Not a pos) (o1 B3 fa):=
 ⟨GC (ha:=ha.h)⟩
theorem FV {X:Cx}{a b c:Expr}{fa fb:En->Rs T}{pos:Pos}{f:En->Rs Bool}(hc:QT X c f)(ha:QE X a fa)(hb:QE X b fb):QE X (Expr.IfExp c a b pos) (FO f fa fb):=
 ⟨q_if (hc:=hc.h) (ha:=ha.h) (hb:=hb.h)⟩
theorem aF {X:Cx}{a b:Expr}{fa fb:En->Rs T}{pos:Pos}(ha:QE X a fa)(hb:QE X b fb)(hs:xc b:=by intro _ _;rfl):QE X (Mf a b pos) (o2 aR fa fb):=
 ⟨q_ix (ha:=ha.h) (hb:=hb.h) (hs:=hs)⟩
theorem gh {X:Cx}:QO X none pN:=
 ⟨Bu ⟩
theorem gg {X:Cx}{a:Expr}{fa:En->Rs T}(ha:QE X a fa):QO X (some a) (pS fa):=
 ⟨Bt (ha:=ha.h)⟩
theorem gi {X:Cx}{a:Expr}{fa:En->Rs T}{pos:Pos}{lo hi:Option Expr}{p2:Pos}{fl fu:En->Rs (Option Int)}(ha:QE X a fa)(hl:QO X lo fl)(hu:QO X hi fu):QE X (Mf a (Expr.Slice lo hi none p2) pos) (sl fa fl fu):=
 ⟨BB (ha:=ha.h) (hl:=hl.h) (hu:=hu.h)⟩
theorem cw {X:Cx}{e:Expr}{es:List Expr}{fs:En->Rs (List T)}{pos p:Pos}{x:Str}{id:String}{g:List T->Rs T}(hc:CallT X (Value.builtin id) g)(hm:Cx.mg X x=none)(hv:Kc x=some (Value.builtin id))(ha:QA X (e::es) fs)(hn:ba (e::es)=true:=by rfl)(hg:Gl X x:=by rfl)(h1:x≠JC "__name__":=by decide)(h2:eF x:=by decide):QE X (K8 (J3 x p) (e::es) [] pos) (cl g fs):=
 ⟨q_cB (hc:=hc) (hm:=hm) (hv:=hv) (ha:=ha.h) (hn:=hn) (hg:=hg) (h1:=h1) (h2:=h2)⟩
theorem vn {X:Cx}{e:Expr}{es:List Expr}{fs:En->Rs (List T)}{pos p:Pos}{x:Str}{Ty:String}{g:List T->Rs T}(hc:CallT X (Mx Ty) g)(hm:Cx.mg X x=none)(hv:Kc x=some (Mx Ty))(ha:QA X (e::es) fs)(hn:ba (e::es)=true:=by rfl)(hg:Gl X x:=by rfl)(h1:x≠JC "__name__":=by decide)(h2:eF x:=by decide):QE X (K8 (J3 x p) (e::es) [] pos) (cl g fs):=
 ⟨q_cT (hc:=hc) (hm:=hm) (hv:=hv) (ha:=ha.h) (hn:=hn) (hg:=hg) (h1:=h1) (h2:=h2)⟩
theorem zq_c {X:Cx}{e:Expr}{es:List Expr}{fs:En->Rs (List T)}{pos p:Pos}{x:Str}{n k:Nat}{f:Addr}{fd:Ki}{ps:List Str}{g:List T->Rs T}(F:AX (Cx.prog X) (Cx.w X) (Cx.K X) (Cx.mg X) (Cx.base X) k f fd ps n g)(hr:Room k (Cx.A X))(hm:Cx.mg X x=some (JQ f))(hk:W.keepIn (Cx.K X) (JQ f)=true)(hb:L2.Binds (Cx.K X) fd ps [])(hl:∀(Z:En) (ts:List T),fs Z=Rs.ok ts->K3 ts=n)(ha:QA X (e::es) fs)(hps:K3 ps=n:=by rfl)(hn:ba (e::es)=true:=by rfl)(hg:Gl X x:=by rfl)(h2:eF x:=by decide):QE X (K8 (J3 x p) (e::es) [] pos) (cl g fs):=
 ⟨q_c (F:=F) (hr:=hr) (hm:=hm) (hk:=hk) (hb:=hb) (hl:=hl) (ha:=ha.h) (hps:=hps) (hn:=hn) (hg:=hg) (h2:=h2)⟩
theorem yr {X:Cx}{a:Expr}{fa:En->Rs T}{pos p p2:Pos}{tn:Str}{Ty:String}(hm:Cx.mg X (JC "isinstance")=none)(hmt:Cx.mg X tn=none)(hv:Kc tn=some (Mx Ty))(ha:QE X a fa)(hn:bf a=true:=by rfl)(hg:Gl X (JC "isinstance"):=by rfl)(hgt:Gl X tn:=by rfl)(h1:tn≠JC "__name__":=by decide)(h2:eF tn:=by decide):QE X (K8 (J3 (JC "isinstance") p) [a,J3 tn p2] [] pos) (o1 (Cg Ty) fa):=
 ⟨q_is (hm:=hm) (hmt:=hmt) (hv:=hv) (ha:=ha.h) (hn:=hn) (hg:=hg) (hgt:=hgt) (h1:=h1) (h2:=h2)⟩
theorem aw {X:Cx}{pos:Pos}{x:Str}(i:Nat)(hN:KO (Cx.N X))(hi:(Cx.N X)[i]? =some x:=by rfl)(hx:L2.Loc (Ly (Cx.env X)) x:=by first | exact Ka rfl | exact JS rfl)(hf:Cx.fn X x=true\/KJ x (Ol (Ly (Cx.env X)))=some NameKind.local:=by first | exact .inl rfl | exact .inr rfl | assumption):QG X (J3 x pos) (gN i):=
 ⟨Bz (i:=i) (hN:=hN) (hi:=hi) (hx:=hx) (hf:=hf)⟩
theorem jW {X:Cx}:Ig X [] AS:=
 ⟨By ⟩
theorem dw {X:Cx}{e:Expr}{es:List Expr}{g:T->En->Rs En}{gs:List T->En->Rs En}(h1:QG X e g)(h2:Ig X es gs)(hs:List.map (λx=>Prod.snd x) (KP (e::es) (Cx.env X))=assign e (Cx.env X)::List.map (λx=>Prod.snd x) (KP es (Cx.env X)):=by rfl):Ig X (e::es) (sW g gs):=
 ⟨yO (h1:=h1.h) (h2:=h2.h) (hs:=hs)⟩
theorem l7 {X:Cx}{es:List Expr}{pos:Pos}{k n:Nat}{gs:List T->En->Rs En}(hc:Cx.calm X=true)(h:Ig X es gs)(hn:K3 (KP es (Cx.env X))=n:=by rfl)(hst:List.findIdx? (λx=>Prod.fst x) (KP es (Cx.env X))=none:=by rfl):QG X (Expr.Tuple es k pos) (gT n gs):=
 ⟨D6 (hc:=hc) (h:=h.h) (hn:=hn) (hst:=hst)⟩
theorem cz {X:Cx}{a:Expr}{fs:En->Rs (List T)}{pos p:Pos}{tg:Expr}(hm:Cx.mg X (JC "range")=none)(ha:QA X [a] fs)(hg:Gl X (JC "range"):=by rfl)(hs:Jy [a] (Cx.env X)= [(false,eval a (Cx.env X))]:=by rfl):QI X tg (K8 (J3 (JC "range") p) [a] [] pos) (iR fs):=
 ⟨xv (hm:=hm) (ha:=ha.h) (hg:=hg) (hs:=hs)⟩
theorem tQ {X:Cx}{a b:Expr}{fs:En->Rs (List T)}{pos p:Pos}{tg:Expr}(hm:Cx.mg X (JC "range")=none)(ha:QA X [a,b] fs)(hg:Gl X (JC "range"):=by rfl)(hs:Jy [a,b] (Cx.env X)= [(false,eval a (Cx.env X)),(false,eval b (Cx.env X))]:=by rfl)(hs2:Jy [b] (Cx.env X)= [(false,eval b (Cx.env X))]:=by rfl):QI X tg (K8 (J3 (JC "range") p) [a,b] [] pos) (iR fs):=
 ⟨xu (hm:=hm) (ha:=ha.h) (hg:=hg) (hs:=hs) (hs2:=hs2)⟩
theorem de {X:Cx}:Ie X [] bT:=
 ⟨Bw ⟩
theorem yq {X:Cx}{c:Expr}{f:En->Rs Bool}(h:QT X c f):Ie X [c] f:=
 ⟨Bv (h:=h.h)⟩
theorem jj {X:Cx}{pos:Pos}{elt tg iter:Expr}{ifs:List Expr}{scope:Ma}{N':List Str}{src:List (Option Nat)}{fi:En->Rs (List T)}{tgt:T->En->Rs En}{fc:En->Rs Bool}{fe:En->Rs T}(hc:Cx.calm X=true)(S:LcScope X scope N' src)(hi:QI X tg iter fi)(block:∀(cl:List (Str×Addr)) (C:Addr) (s₀:Jl) (H₀:Hp) (fp:List Addr),QG (bQ X scope cl N' C s₀ H₀ fp) tg tgt/\Ie (bQ X scope cl N' C s₀ H₀ fp) ifs fc/\QE (bQ X scope cl N' C s₀ H₀ fp) elt fe)(hs:∀(x:Ji),Ke iter (Cx.env X) x=pure x:=by intro _;rfl):QE X (OG elt [{ target:=tg,iter:=iter,ifs:=ifs,is_async:=0 }] scope pos) (gE fi src tgt fc fe):=
 ⟨q_lc (hc:=hc) (S:=S) (hi:=hi.h) (block:=λa1 a2 a3 a4 a5=>⟨(block a1 a2 a3 a4 a5).1.h,(block a1 a2 a3 a4 a5).2.1.h,(block a1 a2 a3 a4 a5).2.2.h⟩) (hs:=hs)⟩
theorem bu {X:Cx}:vf X [] sN:=
 ⟨DT ⟩
theorem ao {X:Cx}{st:Stmt}{bJ:List Stmt}{F G:En->Rs Fl}(h1:QS X st F)(h2:vf X bJ G):vf X (st::bJ) (aC F G):=
 ⟨Br (h1:=h1.h) (h2:=h2.h)⟩
theorem ax {X:Cx}{st:Stmt}{F:En->Rs Fl}(h:QS X st F):vf X [st] F:=
 ⟨DS (h:=h.h)⟩
theorem aD {X:Cx}{a:Expr}{fa:En->Rs T}{pos:Pos}(ha:QE X a fa):QS X (Stmt.Return (some a) pos) (aJ fa):=
 ⟨DP (ha:=ha.h)⟩
theorem cJ {X:Cx}{c:Expr}{pos:Pos}{f:En->Rs Bool}{A B:List Stmt}{F G:En->Rs Fl}(hc:QT X c f)(ha:vf X A F)(hb:vf X B G):QS X (Stmt.If c A B pos) (eO f F G):=
 ⟨Gw (hc:=hc.h) (ha:=ha.h) (hb:=hb.h)⟩
theorem Ds {X:Cx}{pos:Pos}{elt tg iter:Expr}{ifs:List Expr}{scope:Ma}{spos py:Pos}{N':List Str}{src:List (Option Nat)}{fi:En->Rs (List T)}{tgt:T->En->Rs En}{fc:En->Rs Bool}{fe:En->Rs T}(i:Nat){y:Str}(hc:Cx.calm X=true)(S:LcScope X scope N' src)(hi:QI X tg iter fi)(block:∀(cl:List (Str×Addr)) (C:Addr) (s₀:Jl) (H₀:Hp) (fp:List Addr),QG (bQ X scope cl N' C s₀ H₀ fp) tg tgt/\Ie (bQ X scope cl N' C s₀ H₀ fp) ifs fc/\QE (bQ X scope cl N' C s₀ H₀ fp) elt fe)(hN:KO (Cx.N X))(hiy:(Cx.N X)[i]? =some y:=by rfl)(hy:L2.Loc (Ly (Cx.env X)) y:=by first | exact Ka rfl | exact JS rfl)(hsw:J4 (OG elt [{ target:=tg,iter:=iter,ifs:=ifs,is_async:=0 }] scope pos) (some (J3 y py)) (LY spos) (Cx.env X)=pure true:=by rfl)(hf:Cx.fn X y=true\/KJ y (Ol (Ly (Cx.env X)))=some NameKind.local:=by first | exact .inl rfl | exact .inr rfl | assumption)(hs:∀(x:Ji),Ke iter (Cx.env X) x=pure x:=by intro _;rfl):QS X (Nk [J3 y py] (OG elt [{ target:=tg,iter:=iter,ifs:=ifs,is_async:=0 }] scope pos) spos) (c9 (gE fi src tgt fc fe) (gN i)):=
 ⟨Gv (i:=i) (hc:=hc) (S:=S) (hi:=hi.h) (block:=λa1 a2 a3 a4 a5=>⟨(block a1 a2 a3 a4 a5).1.h,(block a1 a2 a3 a4 a5).2.1.h,(block a1 a2 a3 a4 a5).2.2.h⟩) (hN:=hN) (hiy:=hiy) (hy:=hy) (hsw:=hsw) (hf:=hf) (hs:=hs)⟩
theorem aS {X:Cx}{a:Expr}{fa:En->Rs T}{pos:Pos}{tg:Expr}{g:T->En->Rs En}(ha:QE X a fa)(hg:QG X tg g)(hs:OJ [tg] a (LY pos) (Cx.env X)=pure false:=by rfl)(hw:OK [tg] a (Cx.env X)=pure none:=by rfl)(h1:List.map (λx=>Prod.snd x) (KP [tg] (Cx.env X))= [assign tg (Cx.env X)]:=by rfl):QS X (Nk [tg] a pos) (c9 fa g):=
 ⟨DZ (ha:=ha.h) (hg:=hg.h) (hs:=hs) (hw:=hw) (h1:=h1)⟩
theorem eg {X:Cx}{a:Expr}{fa:En->Rs T}{pos:Pos}(ha:QE X a fa)(hs:J4 a none (LY pos) (Cx.env X)=pure false:=by rfl):QS X (Stmt.Expr a pos) (uh fa):=
 ⟨Bq (ha:=ha.h) (hs:=hs)⟩
theorem dE {X:Cx}{pos:Pos}{tg iter:Expr}{body:List Stmt}{fi:En->Rs (List T)}{g:T->En->Rs En}{F:En->Rs Fl}(hc:Cx.calm X=true)(hi:QI X tg iter fi)(hg:QG (Cx.nox X) tg g)(hb:vf (Cx.nox X) body F)(hs:∀(x:Ji),Ke iter (Cx.env X) x=pure x:=by intro _;rfl):QS X (Stmt.For tg iter body [] pos) (gx fi g F):=
 ⟨DV (hc:=hc) (hi:=hi.h) (hg:=hg.h) (hb:=hb.h) (hs:=hs)⟩
theorem xg {X:Cx}{pos:Pos}{c:Expr}{body:List Stmt}{fc:En->Rs Bool}{F:En->Rs Fl}(n:Nat)(hc:QT (Cx.nox X) c fc)(hb:vf (Cx.nox X) body F):QS X (Stmt.While c body [] pos) (bz fc F n):=
 ⟨yM (n:=n) (hc:=hc.h) (hb:=hb.h)⟩
theorem fJ {X:Cx}{a:Expr}{fa:En->Rs T}{tg:Expr}(ha:QE X a fa):QI X tg a (iS fa):=
 ⟨D5 (ha:=ha.h)⟩
theorem jV {X:Cx}{a:Expr}{fs:En->Rs (List T)}{p pos:Pos}{elts:List Expr}{kk:Nat}{tpos:Pos}(hm:Cx.mg X (JC "enumerate")=none)(ha:QA X [a] fs)(hg:Gl X (JC "enumerate"):=by rfl)(hs:Jy [a] (Cx.env X)= [(false,eval a (Cx.env X))]:=by rfl):QI X (Expr.Tuple elts kk tpos) (K8 (J3 (JC "enumerate") p) [a] [] pos) (iE fs):=
 ⟨Bx (hm:=hm) (ha:=ha.h) (hg:=hg) (hs:=hs)⟩
theorem gf {X:Cx}{es:List Expr}{pos p2 p3:Pos}{x:Str}(i:Nat){f:En->Rs (List T)}(hN:KO (Cx.N X))(ha:QA X es f)(hi:(Cx.N X)[i]? =some x:=by rfl)(hx:L2.Loc (Ly (Cx.env X)) x:=by first | exact Ka rfl | exact JS rfl)(hs:J4 (Expr.List es p2) (some (J3 x p3)) (LY pos) (Cx.env X)=pure false:=by rfl)(hf:Cx.fn X x=true\/KJ x (Ol (Ly (Cx.env X)))=some NameKind.local:=by first | exact .inl rfl | exact .inr rfl | assumption):QS X (Nk [J3 x p3] (Expr.List es p2) pos) (gp i f):=
 ⟨Bm (i:=i) (hN:=hN) (ha:=ha.h) (hi:=hi) (hx:=hx) (hs:=hs) (hf:=hf)⟩
theorem l6 {X:Cx}{a:Expr}{fa:En->Rs T}{pos p2:Pos}{x:Str}(i:Nat){apos cpos:Pos}(ha:QE X a fa)(hN:(Cx.N X)[i]? =some x:=by rfl)(hv:lW (Ly (Cx.env X)) x:=by first | exact Ka rfl | exact JS (Ka rfl) | exact JS (JS rfl))(hn:bf a=true:=by rfl)(hbase:JM (J3 x p2) (JC "append") (Cx.env X) (eval (J3 x p2) (Cx.env X))=eval (J3 x p2) (Cx.env X):=by rfl)(hline:(Om apos == LY cpos)=true:=by rfl)(hd:eF x:=by decide)(hcd:(x == JC "__classdict__")=false:=by decide)(hsw:J4 (K8 (LH (J3 x p2) (JC "append") apos) [a] [] cpos) none (LY pos) (Cx.env X)=pure false:=by rfl):QS X (Stmt.Expr (K8 (LH (J3 x p2) (JC "append") apos) [a] [] cpos) pos) (lF i fa):=
 ⟨D1 (i:=i) (ha:=ha.h) (hN:=hN) (hv:=hv) (hn:=hn) (hbase:=hbase) (hline:=hline) (hd:=hd) (hcd:=hcd) (hsw:=hsw)⟩
theorem pV {X:Cx}{a:Expr}{fa:En->Rs T}{pos p2:Pos}{x:Str}(i:Nat){apos cpos:Pos}(ha:QE X a fa)(hN:(Cx.N X)[i]? =some x:=by rfl)(hv:lW (Ly (Cx.env X)) x:=by first | exact Ka rfl | exact JS (Ka rfl) | exact JS (JS rfl))(hn:bf a=true:=by rfl)(hbase:JM (J3 x p2) (JC "extend") (Cx.env X) (eval (J3 x p2) (Cx.env X))=eval (J3 x p2) (Cx.env X):=by rfl)(hline:(Om apos == LY cpos)=true:=by rfl)(hd:eF x:=by decide)(hcd:(x == JC "__classdict__")=false:=by decide)(hsw:J4 (K8 (LH (J3 x p2) (JC "extend") apos) [a] [] cpos) none (LY pos) (Cx.env X)=pure false:=by rfl):QS X (Stmt.Expr (K8 (LH (J3 x p2) (JC "extend") apos) [a] [] cpos) pos) (mP i fa):=
 ⟨DW (i:=i) (ha:=ha.h) (hN:=hN) (hv:=hv) (hn:=hn) (hbase:=hbase) (hline:=hline) (hd:=hd) (hcd:=hcd) (hsw:=hsw)⟩
theorem iX {X:Cx}(i:Nat){st:Stmt}{F:En->Rs Fl}(h:QS X st F):QS X st (mQ i F):=
 ⟨DY (i:=i) (h:=h.h)⟩
theorem cp {X:Cx}(i:Nat){e:Expr}{f:En->Rs T}(h:QE X e f):QE X e (ln i f):=
 ⟨q_ln (i:=i) (h:=h.h)⟩
theorem tN {X:Cx}(i:Nat){e:Expr}{f:En->Rs Bool}(h:QT X e f):QT X e (zv i f):=
 ⟨Gu (i:=i) (h:=h.h)⟩
theorem Dt {X:Cx}{pos:Pos}:QS X (Stmt.Continue pos) C2:=
 ⟨Gx ⟩
theorem iW {X:Cx}{c:Str}{msg:Str}{C:Addr}{bm:List Ji}{np p1 cpos pos:Pos}{j:Nat}(O:OX X.K C bm)(hm:X.mg c=some (.ref C))(hc:X.calm=true:=by rfl)(hg:Gl X c:=by rfl)(hd:eF c:=by decide) :
  QS X (.Raise (some (.Call (.Name c np) [.Constant (.str msg) j p1] [] cpos)) none pos) (xp c):=⟨yN O.own hc hm hg hd⟩
theorem pW {P:JK}{w:Kn}{K:Jh}{mg:Str->Option Ji}{base:Heap}{x qual:Str}{st:Stmt}{f:Addr}{fd:Ki}{N ps:List Str}{k n:Nat}{F:En->Rs Fl}(Fn:L2.Fun K x qual st f fd)(S:aA N ps (aj st))(hn:ps.length=n)
  (hbody:∀(cdv:Ji) (A:J0) (outer:List Env) (s:Jl) (H:Hp) (E:XK),Room k (A.deeper (envOfC qual (aj st) s.heap.objs.size f cdv)) →
   ∀xe,vf ((fG CX0 P w K mg base N qual (aj st) f cdv A outer s H E).FB xe) (bx st) F):AX P w K mg base (k+1) f fd ps n (val n N.length F):=Fo Fn S hn λcdv A outer s H E hr xe=>(hbody cdv A outer s H E hr xe).h
theorem Dv {X:Cx}{a b:Expr}{fa fb:En->Rs T}{pos:Pos}(hu:MT (Cx.A X)+1<cLine)(ha:QE X a fa)(hb:QE X b fb)(hs:CP b:=by intro _ _;rfl):QE X (Mf a b pos) (o2 tw fa fb):=
 ⟨GK (hu:=hu) (ha:=ha.h) (hb:=hb.h) (hs:=hs)⟩
theorem vm {X:Cx}{a b:Expr}{fa fb:En->Rs T}{apos cpos:Pos}(hu:MT (Cx.A X)+1<cLine)(ha:QE X a fa)(hb:QE X b fb)(hn:bf b=true:=by rfl)(hbase:JM a (JC "get") (Cx.env X) (eval a (Cx.env X))=eval a (Cx.env X):=by rfl)(hline:(Om apos == LY cpos)=true:=by rfl):QE X (K8 (LH a (JC "get") apos) [b] [] cpos) (oD gZ fa fb):=
 ⟨D9 (hu:=hu) (ha:=ha.h) (hb:=hb.h) (hn:=hn) (hbase:=hbase) (hline:=hline)⟩
theorem xh {X:Cx}{a b:Expr}{fa fb:En->Rs T}{apos cpos:Pos}(hu:MT (Cx.A X)+61<cLine)(ha:QE X a fa)(hb:QE X b fb)(hn:bf b=true:=by rfl)(hbase:JM a (JC "index") (Cx.env X) (eval a (Cx.env X))=eval a (Cx.env X):=by rfl)(hline:(Om apos == LY cpos)=true:=by rfl):QE X (K8 (LH a (JC "index") apos) [b] [] cpos) (oL fO fa fb):=
 ⟨yP (hu:=hu) (ha:=ha.h) (hb:=hb.h) (hn:=hn) (hbase:=hbase) (hline:=hline)⟩
theorem yn {X:Cx}{e:Expr}{f:En->Rs T}{x:Str}{p pos p2 p3:Pos}(i:Nat)(hu:MT (Cx.A X)+8<cLine)(hc:Cx.calm X=true)(hm:Cx.mg X (JC "dict")=none)(hN:KO (Cx.N X))(ha:QE X e f)(hst:bf e=true:=by rfl)(hg:Gl X (JC "dict"):=by rfl)(hi:(Cx.N X)[i]? =some x:=by rfl)(hx:L2.Loc (Ly (Cx.env X)) x:=by first | exact Ka rfl | exact JS rfl)(hs:J4 (K8 (J3 (JC "dict") p) [e] [] p2) (some (J3 x p3)) (LY pos) (Cx.env X)=pure false:=by rfl)(hf:Cx.fn X x=true\/KJ x (Ol (Ly (Cx.env X)))=some NameKind.local:=by first | exact .inl rfl | exact .inr rfl | assumption):QS X (Nk [J3 x p3] (K8 (J3 (JC "dict") p) [e] [] p2) pos) (o5 i f):=
 ⟨Bo (i:=i) (hu:=hu) (hc:=hc) (hm:=hm) (hN:=hN) (ha:=ha.h) (hst:=hst) (hg:=hg) (hi:=hi) (hx:=hx) (hs:=hs) (hf:=hf)⟩
theorem A0 {X:Cx}{b c:Expr}{fb fc:En->Rs T}{pos p2 p3:Pos}{x:Str}(i:Nat)(hu:MT (Cx.A X)+1<cLine)(hb:QE X b fb)(hc:QE X c fc)(hN:(Cx.N X)[i]? =some x:=by rfl)(hv:lW (Ly (Cx.env X)) x:=by first | exact Ka rfl | exact JS (Ka rfl) | exact JS (JS rfl))(hd:eF x:=by decide)(hcd:(x == JC "__classdict__")=false:=by decide)(hs:J4 c (some (Mf (J3 x p2) b p3)) (LY pos) (Cx.env X)=pure false:=by rfl):QS X (Nk [Mf (J3 x p2) b p3] c pos) (xo i fb fc):=
 ⟨DQ (i:=i) (hu:=hu) (hb:=hb.h) (hc:=hc.h) (hN:=hN) (hv:=hv) (hd:=hd) (hcd:=hcd) (hs:=hs)⟩
end Tr
namespace Tr
open PySem PySem.Spec PyProof.Rows L2 PySem.W
def z8 (h:Heap):Frag:=(J9 h.objs.size).filterMap λa=>(h.get? a).map λo=>(a,o)
theorem z7 (h:Heap):(z8 h).In h:=by
 have key:∀(l:List Nat) (a:Addr) (o:Obj),(l.filterMap λa=>(h.get? a).map λo=>(a,o)).lookup a=some o->h.get? a=some o:=by
  intro l
  induction l with
  | nil=>intro a o e;cases e
  | cons b r ih=>
   intro a o e
   cases hb:h.get? b with
   | none=>rw[List.filterMap_cons_none (by rw[hb];rfl)]at e;exact ih a o e
   | some ob=>
    rw[List.filterMap_cons_some (b:=(b,ob)) (by rw[hb];rfl),J7]at e
    cases q:a == b with
    | true=>rw[q]at e;cases e;rw[eq_of_beq q];exact hb
    | false=>rw[q]at e;exact ih a o e
 exact λa o e=>key _ a o e
def obF (K:Frag)(n:Str):Option (Str×Str×NX×FuncBody×Ma×Addr×List (Str×Addr)×Ji×Addr×Bool×Bool):=match nsIn K JV n with
 | some (some (.ref f))=>match K.lookup f with
  | some ⟨_,_,.func d,_⟩=>some (d.name,d.qualname,d.params,d.body,d.scope,d.globals,d.closure,d.defaults,d.builtins,codeIn K d.code n,keepIn K (.ref f))
  | _=>none
 | _=>none
def exF (n:Str)(st:Stmt):Option (Str×Str×NX×FuncBody×Ma×Addr×List (Str×Addr)×Ji×Addr×Bool×Bool):=
 some (n,n,eU st,.stmts (bx st),aj st,JV,[],.none,Na,true,true)
theorem Dh {K:Frag}{n:Str}{st:Stmt}(e:obF K n=exF n st):∃f fd,nsIn K JV n=some (some (.ref f))/\L2.Fun K n n st f fd:=by
 unfold obF at e
 split at e
 ·rename_i f hf
  split at e
  ·rename_i oc od d sl hl
   cases d;unfold exF at e;simp only[M5,Nf]at e;obtain⟨h1,h2,h3,h4,h5,h6,h7,h8,h9,h10,h11⟩:=e;subst h1 h2 h3 h4 h5 h6 h7 h8 h9;exact⟨f,_,hf,z6 hl h10 h11⟩
  ·cases e
 ·cases e
def G0 (K:Frag)(N:Addr)(n:Str):Bool:=match nsIn K N n with | some none=>true | _=>false
theorem m7 {K:Frag}{N:Addr}{n:Str}(e:G0 K N n=true):nsIn K N n=some none:=by
 unfold G0 at e
 split at e
 ·assumption
 ·cases e
def Ia (K:Frag)(n:Str):Option Int:=match nsIn K JV n with | some (some (.int i _))=>some i | _=>none
theorem EJ {K:Frag}{n:Str}{i:Int}(e:Ia K n=some i):∃t,nsIn K JV n=some (some (.int i t)):=by
 unfold Ia at e
 split at e
 ·rename_i i' t h;cases e;exact⟨t,h⟩
 ·cases e
def vA:List Ji->Bool
 | [.type a,.type b,.type c,.type d] =>a == "ValueError" &&b == "Exception" &&c == "BaseException" &&d == "object"
 | _=>false
theorem mC:∀{l:List Ji},vA l=true->l=u6:=by
 intro l e;unfold vA at e
 split at e
 ·simp only[Jj,beq_iff_eq]at e
  obtain⟨⟨⟨h1,h2⟩,h3⟩,h4⟩:=e;subst h1 h2 h3 h4;rfl
 ·cases e
def under (D:Option Addr)(m:List Ji):Bool:=match D with
 | none=>vA m
 | some D=>match m with
  | .ref E::m=>E == D&&vA m
  | _=>false
def B2 (K:Frag)(D:Option Addr)(n:Str):Option Addr:=match nsIn K JV n with
 | some (some (.ref C))=>match K.lookup C with
  | some ⟨.type t,_,.cls c,⟨[_,_,_,_,some (.builtin b),_]⟩⟩=>match c.mro,K.lookup c.ns with
   | .ref E::m,some ⟨_,_,.dict es _,_⟩=>
    if (t == "type" &&b == "ValueError.__new__" && !c.hasDel&&(es.toList.all λe=>yE e.key)&&calmNames.all (G0 K c.ns)&&E == C&&under D m)=true then some C else none
   | _,_=>none
  | _=>none
 | _=>none
theorem jH {K:Frag}{D:Option Addr}{n:Str}{C:Addr}(e:B2 K D n=some C):nsIn K JV n=some (some (.ref C)) ∧
  ∃nm q N bs bm hd sn su ab co dd k0 k1 k2 k3 k5,under D bm=true/\K.lookup C=some (LK nm q C N bs bm hd sn su ab co dd k0 k1 k2 k3 k5 "ValueError.__new__")/\∀h:Heap,K.In h->∃mN,h.Ns N mN/\∀n∈calmNames,mN n=none:=by
 unfold B2 at e
 split at e
 ·rename_i C' hC
  split at e
  ·rename_i t dd c k0 k1 k2 k3 b k5 hl
   split at e
   ·rename_i E m ob oe es ep oz hm hN
    split at e
    ·rename_i hq
     cases e;simp only[Jj,beq_iff_eq,O6]at hq;obtain⟨⟨⟨⟨⟨⟨h1,h2⟩,h3⟩,h4⟩,h5⟩,h6⟩,h7⟩:=hq
     have z:=JP.mp h5;refine⟨hC,c.name,c.qualname,c.ns,c.bases,m,c.hasDict,c.slotNames,c.subclasses,c.abstract,c.collection,dd,k0,k1,k2,k3,k5,h7,?_,G2 hN h4 (m7 (z _ (.head _))) (m7 (z _ (.tail _ (.head _)))) (m7 (z _ (.tail _ (.tail _ (.head _))))) (m7 (z _ (.tail _ (.tail _ (.tail _ (.head _))))))⟩
     rw[hl];cases c;simp only at hm h3;subst h1 h2 hm h3 h6
     rfl
    ·cases e
   ·cases e
  ·cases e
 ·cases e
theorem ox0 {K:Frag}{C:Addr}{n:Str}(e:B2 K none n=some C):OX K C u6:=by
 obtain⟨_,_,_,_,_,_,_,_,_,_,_,_,_,_,_,_,_,hu,hl,hn⟩:=jH e;cases mC hu;exact BW hl hn
theorem ox1 {K:Frag}{C D:Addr}{n m:Str}(e:B2 K (some D) n=some C)(d:B2 K none m=some D):OX K C (.ref D::u6):=by
 obtain⟨_,_,_,_,_,bm,_,_,_,_,_,_,_,_,_,_,_,hu,hl,hn⟩:=jH e;obtain⟨_,_,_,_,_,_,_,_,_,_,_,_,_,_,_,_,_,hu',hl',hn'⟩:=jH d;cases mC hu';unfold under at hu;simp only at hu
 split at hu
 ·rw[Jj]at hu
  cases eq_of_beq hu.1;cases mC hu.2;exact za hl hn hl' hn'
 ·cases hu
def vc {α:Type}:List (Option α)->Option (List α)
 | [] =>some []
 | none::_=>none
 | some a::r=>match vc r with | some l=>some (a::l) | none=>none
theorem kY {α:Type}{o:Option α}{r:List (Option α)}{l:List α}(e:vc (o::r)=some l):∃a l',o=some a/\l=a::l'/\vc r=some l':=by
 cases o with
 | none=>cases e
 | some a=>
  unfold vc at e
  split at e
  ·rename_i l' h;cases e;exact⟨a,l',rfl,rfl,h⟩
  ·cases e
theorem AG {α:Type}{l:List α}(e:vc ([]:List (Option α))=some l):l= []:=by cases e;rfl
def qG:List Addr->Bool
 | [] =>true
 | a::r=>(r.all λb=> !(a == b))&&qG r
theorem o9:∀{l:List Addr},qG l=true->l.Nodup
 | [],_=> .nil
 | a::r,h=>by
  unfold qG at h;rw[Jj]at h;refine JX.mpr ⟨λhm=> ?_,o9 h.2⟩
  have:=JP.mp h.1 a hm
  simp at this
def HZ (K:Frag):List Str->Bool
 | [] =>true
 | m::es=>match B2 K none m with
  | some D=>match vc (es.map (B2 K (some D)))with | some l=>qG (l++ [D]) | none=>false
  | none=>false
theorem EI {K:Frag}{m:Str}{es:List Str}(e:HZ K (m::es)=true):∃D l,B2 K none m=some D/\vc (es.map (B2 K (some D)))=some l/\(l++ [D]).Nodup:=by
 rw[HZ]at e
 split at e
 ·rename_i D hD
  split at e
  ·rename_i l hl;exact⟨D,l,hD,hl,o9 e⟩
  ·cases e
 ·cases e
structure AN where
 tab:List (Str×Nat)
 zs:List Str
 cs:List (Str×Int)
 es:List Str
def uz (S:AN)(K:Frag):=(S.tab.map (λp=>obF K p.1),S.zs.all (G0 K JV),S.cs.map (λc=>Ia K c.1),HZ K S.es)
def tU (S:AN)(top:Nat->Stmt):=(S.tab.map (λp=>exF p.1 (top p.2)),true,S.cs.map (λc=>some c.2),true)
section
variable {S:AN}{top:Nat->Stmt}{K:Frag}{h:Heap}{mg:Str->Option Ji}
theorem kN {α β:Type}{f g:α->β}:∀{l:List α} (j:Nat) {a:α},l.map f=l.map g->l[j]? =some a->f a=g a
 | [],_,_,_,q=>by cases q
 | b::l,0,a,e,q=>by cases q;exact(List.cons.inj e).1
 | b::l,j+1,a,e,q=>kN (l:=l) j (List.cons.inj e).2 q
theorem cO (j:Nat){n:Str}{i:Nat}{ps:List Str}(X:K.In h)(G:h.Ns JV mg)(e:uz S K=tU S top)(q:S.tab[j]? =some (n,i))
  (hb:∀(kV doc pm:Ji) (an:Option Addr) (cdv ct:Ji) (us:List Ji),us.length=ps.length->PF (fnOf n n (eU (top i)) (bx (top i)) (aj (top i)) .none kV doc pm an cdv ct) ⟨us,[]⟩=pure (ps.zip us)) :
  ∃f fd,Fn K mg n (top i) ps f fd:=by
 obtain⟨f,fd,h1,h2⟩:=Dh (kN j (congrArg (·.1) e) q)
 exact⟨f,fd,h2,h2.binds hb,mg_of X G h1⟩
theorem Hk (j:Nat){n:Str}{i:Nat}{x:Str}{fa:Addr}(X:K.In h)(G:h.Ns JV mg)(e:uz S K=tU S top)(q:S.tab[j]? =some (n,i))(hfa:mg n=some (.ref fa))
  (hb:∀(kV doc pm:Ji) (an:Option Addr) (cdv ct u:Ji),PF (fnOf n n (eU (top i)) (bx (top i)) (aj (top i)) .none kV doc pm an cdv ct) ⟨[u],[]⟩=pure [(x,u)]) :
  ∃fd,Fn K mg n (top i) [x] fa fd/\∀(s:Jl) (u:Ji),NW s fd ⟨[u],[]⟩ [(x,u)]:=by
 obtain⟨f,fd,h1,h2⟩:=Dh (kN j (congrArg (·.1) e) q)
 have z:=hfa.symm.trans (mg_of X G h1);cases z
 have hh:=h2;obtain⟨oc,od,kV,doc,pm,an,cdv,ct,osl,rfl,lk,hcd⟩:=hh.ex;exact⟨_,⟨h2,.all λus hl=>match us,hl with | [u],_=>hb kV doc pm an cdv ct u,mg_of X G h1⟩,λs u=> .of_eq (hb kV doc pm an cdv ct u)⟩
theorem gF (j:Nat){n:Str}(X:K.In h)(G:h.Ns JV mg)(e:uz S K=tU S top)(q:S.zs[j]? =some n):mg n=none:=
 mg_none_of X G (m7 (JP.mp (congrArg (·.2.1) e:S.zs.all (G0 K JV)=true) n (JT q)))
theorem pv (j:Nat){n:Str}{i:Int}(X:K.In h)(G:h.Ns JV mg)(e:uz S K=tU S top)(q:S.cs[j]? =some (n,i)):∃t,mg n=some (.int i t):=by
 obtain⟨t,ht⟩:=EJ (kN (f:=λc=>Ia K c.1) (g:=λc=>some c.2) j (congrArg (·.2.2.1) e) q)
 exact⟨t,mg_of X G ht⟩
theorem Ho (e:uz S K=tU S top):HZ K S.es=true:=congrArg (·.2.2.2) e
end
theorem left_of {p q:JK}{loose:List Str}{Xt:Jl->Bool}{α:Type}{Yf:Jl->α}{Ya:Kn->α}{N:Nat}{g0:Bool}
  (e:opening p=plainProg p.main.scope.names) (hN:Nat.ble 600 N=true) (f:∀s,fenceModules? p s=some s)
  (h:∀(w:Kn) (os:OsState),(topFrom treeTable p w N ⟨boot_heap w.params,⟨[]⟩,boot_drawn,boot_toks,os⟩).map (λs=>(openSeen q loose (P6 p.main.body) Xt g0 s,Yf s))=some (openGood q loose,Ya w)) :
  LeftO p q loose Xt Yf Ya N g0:=λw=>by
 obtain⟨⟨h0,gs,d,k,os⟩,e1,e2⟩:=Ny.mp (boot_open e hN f w);simp only[Nf]at e2;obtain⟨rfl,rfl,rfl,rfl⟩:=e2;unfold openEnds;rw[e1];exact h w os
structure Cl (P:JK)(w:Kn)(K:Frag)(mg:Str->Option Ji)(base:Heap)(k:Nat)(x:Str)(n:Nat)(m:List T->Rs T):Prop where
 ex:∃f fd ps,mg x=some (.ref f)/\keepIn K (.ref f)=true/\Binds K fd ps []/\ps.length=n/\AX P w K mg base k f fd ps n m
abbrev g7 (K:Frag)(mg:Str->Option Ji)(x:Str)(st:Stmt)(ps:List Str):Prop:=∃f fd,Fn K mg x st ps f fd
section
variable {P:JK}{w:Kn}{K:Frag}{mg:Str->Option Ji}{base:Heap}{x:Str}{st:Stmt}{N ps:List Str}{k n:Nat}{F:En->Rs Fl}
theorem bB (H:g7 K mg x st ps)(S:aA N ps (aj st))(hn:ps.length=n)
  (hbody:∀(f:Addr) (cdv:Ji) (A:J0) (outer:List Env) (s:Jl) (H:Hp) (E:XK),Room k (A.deeper (envOfC x (aj st) s.heap.objs.size f cdv)) →
   ∀xe,vf ((fG CX0 P w K mg base N x (aj st) f cdv A outer s H E).FB xe) (bx st) F):Cl P w K mg base (k+1) x n (val n N.length F):=by
 obtain⟨f,fd,h⟩:=H;exact⟨f,fd,ps,h.mg,h.fn.kp,h.bd,hn,pW h.fn S hn (hbody f)⟩
end
section
variable {X:Cx}{e:Expr}{es:List Expr}{fs:En->Rs (List T)}{pos p:Pos}{x:Str}{n k k':Nat}{g:List T->Rs T}
theorem aX (c:Cl X.prog X.w X.K X.mg X.base k x n g)(hr:Room k' X.A)(ha:QA X (e::es) fs)(hk:k<=k':=by decide)(hl:∀(Z:En) (ts:List T),fs Z= .ok ts->ts.length=n:=by repeat first | exact xb | refine w9 ?_)
  (hn:ba (e::es)=true:=by rfl) (hg:Gl X x:=by rfl) (h2:eF x:=by decide):QE X (.Call (.Name x p) (e::es) [] pos) (cl g fs):=by
 obtain⟨f,fd,ps,h1,h3,h4,h5,h6⟩:=c.ex;exact zq_c h6 (hr.mono hk) h1 h3 h4 hl ha h5 hn hg h2
theorem rG {i:Int}(h:∃t,X.mg x=some (.int i t))(hg:Gl X x:=by rfl)(hd:eF x:=by decide):QE X (.Name x pos) (cn (.int i)):=by
 obtain⟨t,h⟩:=h;exact A1 h ⟨_,rfl⟩ hg hd
end
def G1 (K:Frag)(C:Addr)(m q:Str):Option (Str×Str×NX×FuncBody×Ma×Addr×List (Str×Addr)×Ji×Addr×Bool×Bool×Bool):=match findIn K (.ref C) m with
 | some (some (.ref f))=>match K.lookup f with
  | some ⟨_,_,.func d,_⟩=>some (d.name,d.qualname,d.params,d.body,d.scope,d.globals,d.closure,d.defaults,d.builtins,codeIn K d.code q,keepIn K (.ref f),isFn K (.ref f))
  | _=>none
 | _=>none
def HE (m q:Str)(st:Stmt):Option (Str×Str×NX×FuncBody×Ma×Addr×List (Str×Addr)×Ji×Addr×Bool×Bool×Bool):=
 some (m,q,eU st,.stmts (bx st),aj st,JV,[],.none,Na,true,true,true)
theorem B5 {K:Frag}{C:Addr}{m q:Str}{st:Stmt}(e:G1 K C m q=HE m q st):∃f fd,tJ K C m f/\L2.Fun K m q st f fd:=by
 unfold G1 at e
 split at e
 ·rename_i f hf
  split at e
  ·rename_i oc od d sl hl
   cases d;unfold HE at e;simp only[M5,Nf]at e;obtain⟨h1,h2,h3,h4,h5,h6,h7,h8,h9,h10,h11,h12⟩:=e;subst h1 h2 h3 h4 h5 h6 h7 h8 h9;exact⟨f,_,⟨hf,h12,h11⟩,z6 hl h10 h11⟩
  ·cases e
 ·cases e
def EK (K:Frag)(C:Addr)(f:Str):Bool:=match findIn K (.ref C) f with | some none=>true | _=>false
theorem B4 {K:Frag}{C:Addr}{f:Str}(e:EK K C f=true):NoAttr K C f:=by
 unfold EK at e
 split at e
 ·assumption
 ·cases e
def DE (K:Frag)(C:Addr):Bool:=match findIn K (.ref C) "__setattr__" with | some (some (.builtin b))=>b == "object.__setattr__" | _=>false
theorem Bg {K:Frag}{C:Addr}(e:DE K C=true):findIn K (.ref C) "__setattr__" =some (some (.builtin "object.__setattr__")):=by
 unfold DE at e
 split at e
 ·rename_i b h;rw[h,eq_of_beq e]
 ·cases e
def Dl (K:Frag)(C:Addr)(as:List Str):Bool:=plainGet K C Str.empty&&hasDictIn K C&&plainOver K C&&DE K C&&makesIn K C&&keepIn K (.ref C)&&as.all (EK K C)
structure CV where
 c:Str
 i:Nat
 as:List Str
 ms:List (Str×Str×Nat)
def obK (K:Frag)(A:CV):=match nsIn K JV A.c with
 | some (some (.ref C))=>some (Dl K C A.as,A.ms.map λ(m:Str×Str×Nat)=>G1 K C m.1 m.2.1)
 | _=>none
def exK (top:Nat->Stmt)(A:CV):=some (true,A.ms.map λ(m:Str×Str×Nat)=>HE m.1 m.2.1 (cu (top A.i) m.2.2))
structure oR (K:Frag)(mg:Str->Option Ji)(c:Str):Prop where
 cl:Cls K (bD K c)
 mg:mg c=some (.ref (bD K c))
 mks:makesIn K (bD K c)=true
 kp:keepIn K (.ref (bD K c))=true
abbrev lX (K:Frag)(c m q:Str)(st:Stmt)(ps:List Str):Prop:=∃f fd,tJ K (bD K c) m f/\L2.Fun K m q st f fd/\Binds K fd ps []
section
variable {K:Frag}{h:Heap}{mg:Str->Option Ji}{top:Nat->Stmt}{A:CV}
theorem Hq (X:K.In h)(G:h.Ns JV mg)(e:obK K A=exK top A):oR K mg A.c/\(∀f∈A.as,NoAttr K (bD K A.c) f)/\A.ms.map (λ(m:Str×Str×Nat)=>G1 K (bD K A.c) m.1 m.2.1)=A.ms.map (λ(m:Str×Str×Nat)=>HE m.1 m.2.1 (cu (top A.i) m.2.2)):=by
 unfold obK at e
 split at e
 ·rename_i C hC
  unfold exK at e;simp only[M5,Nf]at e;obtain⟨e1,e2⟩:=e
  have hc:bD K A.c=C:=by unfold bD;rw[hC]
  unfold Dl at e1;simp only[Jj]at e1;obtain⟨⟨⟨⟨⟨⟨h1,h2⟩,h3⟩,h4⟩,h5⟩,h6⟩,h7⟩:=e1;rw[hc];exact⟨⟨by rw[hc];exact⟨h1,h2,h3,Bg h4⟩,by rw[hc];exact mg_of X G hC,by rw[hc];exact h5,by rw[hc];exact h6⟩,λf hf=>B4 (JP.mp h7 f hf),e2⟩
 ·cases e
theorem gG (j:Nat){m q:Str}{i:Nat}{ps:List Str}(e:A.ms.map (λ(m:Str×Str×Nat)=>G1 K (bD K A.c) m.1 m.2.1)=A.ms.map (λ(m:Str×Str×Nat)=>HE m.1 m.2.1 (cu (top A.i) m.2.2)))(z:A.ms[j]? =some (m,q,i))
  (hb:∀(kV doc pm:Ji) (an:Option Addr) (cdv ct:Ji) (us:List Ji),us.length=ps.length->PF (fnOf m q (eU (cu (top A.i) i)) (bx (cu (top A.i) i)) (aj (cu (top A.i) i)) .none kV doc pm an cdv ct) ⟨us,[]⟩=pure (ps.zip us)) :
  lX K A.c m q (cu (top A.i) i) ps:=by
 obtain⟨f,fd,h1,h2⟩:=B5 (kN j e z);exact⟨f,fd,h1,h2,h2.binds hb⟩
end
structure tL where
 a:AN
 ks:List CV
def zh (S:tL)(K:Frag):=(uz S.a K,S.ks.map (obK K))
def yA (S:tL)(top:Nat->Stmt):=(tU S.a top,S.ks.map (exK top))
def hookC (S:tL)(top:Nat->Stmt):Hook:=
 ⟨_,λs=>zh S (z8 s.heap),λ_=>yA S top,λ_ h=> ∃K:Frag,K.In h/\zh S K=yA S top,λ_ s e=>⟨_,z7 s.heap,e⟩,λ_ _ _ ⟨K,a,b⟩ k=>⟨K,a.keeps k,b⟩⟩
theorem walk_c {l:OpenLaw}{n k:Nat}{q:JK}{loose:List Str}{XP:(Str->Option Ji)->Heap->Prop}{d:DefRec}{S:tL}{top:Nat->Stmt}{CX:AY}{sp:Frag->Sp}{x:Str}
  (hn:l.most=some n) (hn2:n<=sizeLine) (hdf:d.params.defaults= []) (hr:Room k callerA)
  (F:∀(w:Kn) (K:Frag) (mg:Str->Option Ji) (fa:Addr) (h:Heap),K.In h->zh S K=yA S top->h.Ns JV mg->mg d.name=some (.ref fa) →
   ∃fd:Ki,(∀(s:Jl) (u:Ji),NW s fd ⟨[u],[]⟩ [(x,u)])/\∀base:Heap,K.In base->base.Ns JV mg->nZ l.prog w K mg base CX k fa fd [x] (sp K))
  (hsp:∀(K:Frag) (H:Hp) (a:Addr) (ns:List Int),ns.length<=n->FH H->SqL K H a (ns.map V.int)->sp K [.ref a] H (λv _=>v= .bl true) λ_ _ _=>False)
  (hCX:∀(H:Hp) (s:Jl) (e:Ji) (s':Jl),CX [] H s (λ_ _ _=>False) e s'->False) :
  WalkO q loose XP (hookC S top).says l.row.toRowW d [] (λf vs=>PySem.call f vs):=by
 refine Att.attach_call hn hdf λw s₀ s₁ mg mb fa o pm cd doc a vs ns G Y ho hd hcd hmg hobj hints hlen hg=> ?_
 obtain⟨K,KX,e⟩:=Y;obtain⟨fd,hb,hF⟩:=F w K mg fa _ KX e G.T.g hmg;exact zD KX G.T.g G.T.b G.T.builtins G.T.nolimit hg hobj hints (J2 hlen hn2) hr hF hb (λH hO hS=>hsp K H a ns hlen hO hS) λH e s'=>hCX H s₁ e s'
structure Ml (P:JK)(w:Kn)(K:Frag)(mg:Str->Option Ji)(base:Heap)(k:Nat)(c m:Str)(g:List T->Rs T):Prop where
 ex:∃f fd ps,tJ K (bD K c) m f/\Binds K fd ps []/\ps.length=1/\AX P w K mg base k f fd ps 1 g
structure Mm (P:JK)(w:Kn)(K:Frag)(mg:Str->Option Ji)(base:Heap)(k:Nat)(c m:Str)(n:Nat)(g:List Sl->Rs (T×OT)):Prop where
 ex:∃f fd ps,tJ K (bD K c) m f/\Binds K fd ps []/\ps.length=n/\CT P w K mg base k f fd ps n 0 g
structure Ce (P:JK)(w:Kn)(K:Frag)(mg:Str->Option Ji)(base:Heap)(k:Nat)(x:Str)(n j:Nat)(g:List Sl->Rs (T×OT)):Prop where
 ex:∃f fd ps,mg x=some (.ref f)/\keepIn K (.ref f)=true/\Binds K fd ps []/\ps.length=n/\CT P w K mg base k f fd ps n j g
structure QX (X:Cx)(e:Expr)(f:En->Rs (T×En)):Prop where
 h:vh X e f
structure FR (X:Cx)(e:Expr)(f:En->Rs (Bool×En)):Prop where
 h:FG X e f
structure Ic (X:Cx)(e:Expr)(f:En->Rs (Bool×En)):Prop where
 h:HP X e f
structure QL (X:Cx)(i:Nat)(e:List Expr)(f:En->Rs (List T)):Prop where
 h:PA X e (F4 X i f)
structure QM (X:Cx)(j:Nat)(e:Stmt)(f:En->Rs Fx):Prop where
 h:AV X j e f
structure CO (X:Cx)(j:Nat)(e:List Stmt)(f:En->Rs Fx):Prop where
 h:AW X j e f
section
variable {P:JK}{w:Kn}{K:Frag}{mg:Str->Option Ji}{base:Heap}{x c m q:Str}{st:Stmt}{N ps:List Str}{k n j:Nat}
theorem C5 {F:En->Rs Fl}(H:lX K c m q st ps)(S:aA N ps (aj st))(hn:ps.length=1)
  (hbody:∀(f:Addr) (cdv:Ji) (A:J0) (outer:List Env) (s:Jl) (H:Hp) (E:XK),Room k (A.deeper (envOfC q (aj st) s.heap.objs.size f cdv)) →
   ∀xe,vf ((fG CX0 P w K mg base N q (aj st) f cdv A outer s H E).FB xe) (bx st) F):Ml P w K mg base (k+1) c m (val 1 N.length F):=by
 obtain⟨f,fd,h1,h2,h3⟩:=H;exact⟨f,fd,ps,h1,h3,hn,pW h2 S hn (hbody f)⟩
theorem nt {F:En->Rs Fx}(H:lX K c m q st ps)(S:aA N ps (aj st))(hn:ps.length=n)
  (hbody:∀(f:Addr) (cdv:Ji) (A:J0) (outer:List Env) (s:Jl) (H:Hp) (E:XK),Room k (A.deeper (envOfC q (aj st) s.heap.objs.size f cdv)) →
   ∀xe,CO ((fG CX0 P w K mg base N q (aj st) f cdv A outer s H E).FB xe) 0 (bx st) F):Mm P w K mg base (k+1) c m n (fV n 0 N.length F):=by
 obtain⟨f,fd,h1,h2,h3⟩:=H;exact⟨f,fd,ps,h1,h3,hn,z9 h2 S hn λcdv A outer s H E hr xe=>(hbody f cdv A outer s H E hr xe).h⟩
theorem HK {F:En->Rs Fx}(H:g7 K mg x st ps)(S:aA N ps (aj st))(hn:ps.length=n)
  (hbody:∀(f:Addr) (cdv:Ji) (A:J0) (outer:List Env) (s:Jl) (H:Hp) (E:XK),Room k (A.deeper (envOfC x (aj st) s.heap.objs.size f cdv)) →
   ∀xe,CO ((fG CX0 P w K mg base N x (aj st) f cdv A outer s H E).FB xe) j (bx st) F):Ce P w K mg base (k+1) x n j (fV n j N.length F):=by
 obtain⟨f,fd,h⟩:=H;exact⟨f,fd,ps,h.mg,h.fn.kp,h.bd,hn,z9 h.fn S hn λcdv A outer s H E hr xe=>(hbody f cdv A outer s H E hr xe).h⟩
end
section
variable {X:Cx}{a b e c o:Expr}{es bJ:List Expr}{fa fb fo:En->Rs T}{fs:En->Rs (List T)}{pos p p2 p3 p4 apos cpos spos:Pos}{x y n cn' f m:Str}{k k' l j:Nat}{g:List T->Rs T}{ge:List Sl->Rs (T×OT)}{ex ey:En->Rs (T×En)}{tx ty:En->Rs (Bool×En)}
theorem fH (h:QE X a fa):QX X a (xP fa):=⟨Dy h.h⟩
theorem mx (C:oR X.K X.mg m)(hn:NoAttr X.K (bD X.K m) f)(ha:QE X a fa)(hb:JM a f X.env (eval a X.env)=eval a X.env:=by rfl):QE X (.Attribute a f pos) (o1 (lS m f) fa):=⟨GJ C.cl hn ha.h hb⟩
theorem bW {pl:Sem Bool}(C:oR X.K X.mg n)(M:Ml X.prog X.w X.K X.mg X.base k n m g)(hr:Room k' X.A)(ho:QE X o fo)(hk:k<=k':=by decide)
  (ht:eval (.Call (.Attribute o m apos) [] [] pos) X.env=(do
   let ov <-eval o X.env
   standAt apos.atName
   let (f,first) <-holding [ov] (MG ov m pl)
   OU pos f first (backTo pos (Jy [] X.env)) (MW pos (Lz [] X.env))):=by rfl):QE X (.Call (.Attribute o m apos) [] [] pos) (fm n m g fo ai):=by
 obtain⟨f,fd,ps,h1,h2,h3,h4⟩:=M.ex;exact⟨BD (pl:=pl) C.cl h1 h4 (hr.mono hk) h2 h3 ho.h ht⟩
theorem tM (i:Nat)(C:oR X.K X.mg m)(hn:NoAttr X.K (bD X.K m) f)(ha:QE X a fa)(hN:X.N[i]? =some x:=by rfl)(hv:lW X.env.scope x:=by first | exact Ka rfl | exact JS (Ka rfl) | exact JS (JS rfl))(hs:bf a=true:=by rfl)
  (hb1:JM (.Name x p2) f X.env (eval (.Name x p2) X.env)=eval (.Name x p2) X.env:=by rfl)
  (hbase:JM (.Attribute (.Name x p2) f p3) "append" X.env (eval (.Attribute (.Name x p2) f p3) X.env)=eval (.Attribute (.Name x p2) f p3) X.env:=by rfl) (hline:(apos.endLine == cpos.line)=true:=by rfl)
  (hd:eF x:=by decide) (hcd:(x == ("__classdict__" : Str))=false:=by decide):QX X (.Call (.Attribute (.Attribute (.Name x p2) f p3) "append" apos) [a] [] cpos) (rK i m f fa):=⟨F0 i C.cl hn ha.h hN hv hs hb1 hbase hline hd hcd⟩
theorem yj (i:Nat)(C:oR X.K X.mg m)(hn:NoAttr X.K (bD X.K m) f)(hN:X.N[i]? =some x:=by rfl)(hv:lW X.env.scope x:=by first | exact Ka rfl | exact JS (Ka rfl) | exact JS (JS rfl))
  (hb1:JM (.Name x p2) f X.env (eval (.Name x p2) X.env)=eval (.Name x p2) X.env:=by rfl)
  (hbase:JM (.Attribute (.Name x p2) f p3) "pop" X.env (eval (.Attribute (.Name x p2) f p3) X.env)=eval (.Attribute (.Name x p2) f p3) X.env:=by rfl) (hline:(apos.endLine == cpos.line)=true:=by rfl)
  (hd:eF x:=by decide) (hcd:(x == ("__classdict__" : Str))=false:=by decide):QX X (.Call (.Attribute (.Attribute (.Name x p2) f p3) "pop" apos) [] [] cpos) (tT i m f):=⟨FX i C.cl hn hN hv hb1 hbase hline hd hcd⟩
theorem Ha {fs:En->Rs (List T)}{l:Nat}(h:∀(Z:En) (ts:List T),fs Z= .ok ts->ts.length=l)(Z:En)(ts:List T)(z:fs Z= .ok ts):ts.length+1=l+1:=congrArg (· +1) (h Z ts z)
theorem iV {pl:Sem Bool}(i:Nat)(C:oR X.K X.mg n)(M:Mm X.prog X.w X.K X.mg X.base k n m (l+1) ge)(hr:Room k' X.A)(ha:QA X (e::es) fs)(hk:k<=k':=by decide)(hl:∀(Z:En) (ts:List T),fs Z= .ok ts->ts.length=l:=by repeat first | exact xb | refine w9 ?_)
  (hN:X.N[i]? =some x:=by rfl) (hv:lW X.env.scope x:=by first | exact Ka rfl | exact JS (Ka rfl) | exact JS (JS rfl)) (hd:eF x:=by decide) (hcd:(x == ("__classdict__" : Str))=false:=by decide)
  (hns:ba (e::es)=true:=by rfl)
  (ht:eval (.Call (.Attribute (.Name x p2) m apos) (e::es) [] pos) X.env=(do
   let ov <-eval (.Name x p2) X.env
   standAt apos.atName
   let (f,first) <-holding [ov] (MG ov m pl)
   OU pos f first (backTo pos (Jy (e::es) X.env)) (MW pos (Lz [] X.env))):=by rfl):QX X (.Call (.Attribute (.Name x p2) m apos) (e::es) [] pos) (bq i n m ge fs):=by
 obtain⟨f,fd,ps,h1,h2,h3,h4⟩:=M.ex
 have hn2:bf e=true/\ba es=true:=Kk.mp hns;exact⟨Dz (pl:=pl) i C.cl h1 h4 (hr.mono hk) h2 h3 (Ha hl) ha.h hN hv hd hcd (a8 hn2.1) (dH hn2.2) ht⟩
theorem jU {pl:Sem Bool}(i:Nat)(C:oR X.K X.mg n)(M:Mm X.prog X.w X.K X.mg X.base k n m 1 ge)(hr:Room k' X.A)(hk:k<=k':=by decide)
  (hN:X.N[i]? =some x:=by rfl) (hv:lW X.env.scope x:=by first | exact Ka rfl | exact JS (Ka rfl) | exact JS (JS rfl)) (hd:eF x:=by decide) (hcd:(x == ("__classdict__" : Str))=false:=by decide)
  (ht:eval (.Call (.Attribute (.Name x p2) m apos) [] [] pos) X.env=(do
   let ov <-eval (.Name x p2) X.env
   standAt apos.atName
   let (f,first) <-holding [ov] (MG ov m pl)
   OU pos f first (backTo pos (Jy [] X.env)) (MW pos (Lz [] X.env))):=by rfl):QX X (.Call (.Attribute (.Name x p2) m apos) [] [] pos) (bq i n m ge ai):=by
 obtain⟨f,fd,ps,h1,h2,h3,h4⟩:=M.ex;exact⟨A4 (pl:=pl) i C.cl h1 h4 (hr.mono hk) h2 h3 hN hv hd hcd ht⟩
theorem vo (i:Nat)(hN:X.N[i]? =some x:=by rfl)(hv:lW X.env.scope x:=by first | exact Ka rfl | exact JS (Ka rfl) | exact JS (JS rfl))(hd:eF x:=by decide)(hcd:(x == ("__classdict__" : Str))=false:=by decide):QL X i [.Name x p2] ai:=⟨Ek i hN hv hd hcd⟩
theorem jX {i:Nat}(ha:QE X a fa)(hb:QL X i es fs)(hn:bf a=true:=by rfl):QL X i (a::es) (ae fa fs):=⟨BN ha.h hb.h (a8 hn)⟩
theorem yk {i:Nat}(M:Ce X.prog X.w X.K X.mg X.base k y (l+1) l ge)(hr:Room k' X.A)(ha:QL X i (e::es) fs)(hk:k<=k':=by decide)(hl:∀(Z:En) (ts:List T),fs Z= .ok ts->ts.length=l:=by repeat first | exact xb | refine w9 ?_)
  (hg:Gl X y:=by rfl) (hdb:eF y:=by decide) (hns:ba (e::es)=true:=by rfl):QX X (.Call (.Name y p) (e::es) [] pos) (oj i ge fs):=by
 obtain⟨f,fd,ps,h1,h0,h2,h3,h4⟩:=M.ex
 have hn2:bf e=true/\ba es=true:=Kk.mp hns;exact⟨FY i h4 (hr.mono hk) h1 h0 h2 h3 rfl hl ha.h hg hdb (a8 hn2.1) (dH hn2.2)⟩
theorem rE {t:En->Rs Bool}(h:QT X a t):FR X a (AO t):=⟨A3 h.h⟩
theorem pR {op:P7}{r:T->T->Rs T}(ho:OpT X (Kh op) r)(ha:QX X a ex)(hb:QE X b fb)(hm:L3 op b=false:=by rfl):FR X (.Compare a [op] [b] pos) (ye (vq r ex fb)):=⟨Dx ho ha.h hb.h hm⟩
theorem vj (ha:FR X a tx):Ic X (.BoolOp .Or [a] pos) tx:=⟨Dw ha.h⟩
theorem yi (ha:FR X a tx)(hb:Ic X (.BoolOp .Or (b::bJ) pos) ty):Ic X (.BoolOp .Or (a::b::bJ) pos) (oh tx ty):=⟨FW ha.h hb.h⟩
theorem CW (h:Ic X e tx):FR X e tx:=⟨xt_w h.h⟩
theorem pU {A C:List Stmt}{F G:En->Rs Fl}(hc:FR X c tx)(ha:vf X A F)(hb:vf X C G):QS X (.If c A C pos) (lE tx F G):=⟨DU hc.h ha.h hb.h⟩
theorem vk (ha:QX X a ex)(hs:J4 a none pos.line X.env=pure false:=by rfl):QS X (.Expr a pos) (ou ex):=⟨DX ha.h hs⟩
theorem yp (i:Nat)(ha:QX X a ex)(hN:X.N[i]? =some n:=by rfl)(hv:lW X.env.scope n:=by first | exact Ka rfl | exact JS (Ka rfl) | exact JS (JS rfl))(hn:bf a=true:=by rfl)
  (hbase:JM (.Name n p2) "append" X.env (eval (.Name n p2) X.env)=eval (.Name n p2) X.env:=by rfl) (hline:(apos.endLine == cpos.line)=true:=by rfl)
  (hd:eF n:=by decide) (hcd:(n == ("__classdict__" : Str))=false:=by decide)
  (hsw:J4 (.Call (.Attribute (.Name n p2) "append" apos) [a] [] cpos) none pos.line X.env=pure false:=by rfl):QS X (.Expr (.Call (.Attribute (.Name n p2) "append" apos) [a] [] cpos) pos) (lh i ex):=⟨Bs i ha.h hN hv hn hbase hline hd hcd hsw⟩
theorem yo (i:Nat)(hN:X.N.Nodup)(C:oR X.K X.mg m)(M:Mm X.prog X.w X.K X.mg X.base k m "__init__" (l+1) ge)(hr:Room k' X.A)(ha:QA X (e::es) fs)(hk:k+1<=k':=by decide)(hl:∀(Z:En) (ts:List T),fs Z= .ok ts->ts.length=l:=by repeat first | exact xb | refine w9 ?_)
  (hi:X.N[i]? =some n:=by rfl) (hx:Loc X.env.scope n:=by first | exact Ka rfl | exact JS rfl) (hs:J4 (.Call (.Name m p) (e::es) [] pos) (some (.Name n p3)) spos.line X.env=pure false:=by rfl) (hf:X.fn n=true\/X.env.scope.names.lookup n=some .local:=by first | exact .inl rfl | exact .inr rfl | assumption)
  (hg:Gl X m:=by rfl) (hdb:eF m:=by decide) (hns:ba (e::es)=true:=by rfl):QS X (.Assign [.Name n p3] (.Call (.Name m p) (e::es) [] pos) spos) (o6 i m ge fs):=by
 obtain⟨f,fd,ps,h1,h2,h3,h4⟩:=M.ex
 have hn2:bf e=true/\ba es=true:=Kk.mp hns;exact⟨Bp i ⟨C.mks,h1.at_,h1.fn,C.kp⟩ h4 (hr.mono hk) C.mg h2 h3 (Ha hl) hN ha.h hi hx hs hf hg hdb (a8 hn2.1) (dH hn2.2)⟩
theorem tR:CO X j [] mN:=⟨G7⟩
theorem c8 {s:Stmt}{F:En->Rs Fx}(h:QM X j s F):CO X j [s] F:=⟨G6 h.h⟩
theorem cK {s:Stmt}{ss:List Stmt}{F G:En->Rs Fx}(h1:QM X j s F)(h2:CO X j ss G):CO X j (s::ss) (gB F G):=⟨EO h1.h h2.h⟩
theorem my (ha:QX X a ex)(hs:J4 a none pos.line X.env=pure false:=by rfl):QM X j (.Expr a pos) (sO ex):=⟨m_ex ha.h hs⟩
theorem kA (ha:QX X a ex):QM X j (.Return (some a) pos) (jM ex):=⟨G5 ha.h⟩
theorem oS (i:Nat)(hN:X.N.Nodup)(ha:QX X a ex)(hij:i≠j:=by decide)(hi:X.N[i]? =some n:=by rfl)(hx:Loc X.env.scope n:=by first | exact Ka rfl | exact JS rfl)(hs:J4 a (some (.Name n p3)) pos.line X.env=pure false:=by rfl)
  (hf:X.fn n=true\/X.env.scope.names.lookup n=some .local:=by first | exact .inl rfl | exact .inr rfl | assumption):QM X j (.Assign [.Name n p3] a pos) (zu i ex):=⟨m_as i hij hN ha.h hi hx hs hf⟩
theorem rJ {t:En->Rs Bool}{A C:List Stmt}{F G:En->Rs Fx}(hc:QT X c t)(ha:CO X j A F)(hb:CO X j C G):QM X j (.If c A C pos) (xM t F G):=⟨m_if hc.h ha.h hb.h⟩
theorem yu {s:Stmt}{d:Str}(h:QS X s (xp d)):QM X j s (B7 d):=⟨G9 h.h⟩
theorem tS (i:Nat)(C:oR X.K X.mg m)(hn:NoAttr X.K (bD X.K m) f)(ha:QA X es fs)(hN:X.N[i]? =some n:=by rfl)(hv:lW X.env.scope n:=by first | exact Ka rfl | exact JS (Ka rfl) | exact JS (JS rfl))
  (hd:eF n:=by decide) (hcd:(n == ("__classdict__" : Str))=false:=by decide) (hs:J4 (.List es p4) (some (.Attribute (.Name n p2) f p3)) pos.line X.env=pure false:=by rfl) :
  QM X j (.Assign [.Attribute (.Name n p2) f p3] (.List es p4) pos) (sM i m f fs):=⟨G8 i C.cl hn ha.h hN hv hd hcd hs⟩
theorem xk {suite:List Stmt}{c:Str}{C:Addr}{bm:List Ji}{t:T}(hm:X.mg c=some (.ref C))(O:OX X.K C bm)(h:∀e oe,vf (Dk X e oe) suite (aJ (cn t))):AJ X suite C (qX c t):=λd D u hd hu=>by
 unfold qX at hu
 split at hu
 ·rename_i z
  cases hu;subst z;cases hm.symm.trans hd;exact⟨bm,O,by simp,λe oe=>(h e oe).h⟩
 ·cases hu
theorem A2 {body suite:List Stmt}{b0:Stmt}{F:En->Rs Fx}{ce:Str}{CE:Addr}{bmE:List Ji}{t:T}{np hpos:Pos}(hm:X.mg ce=some (.ref CE))(OE:OX X.K CE bmE)
  (hb:∀pn xe,CO { X with pn:=pn,xe:=xe } j body F) (hs:∀e oe,vf (Dk X e oe) (b0::suite) (aJ (Tr.cn t))) (hst:X.stack=X.env::X.outer:=by rfl) (hfe:X.env.frame=some X.env.locals:=by rfl) (hcl:∀x c,X.env.cells.lookup x≠some c) (hex:X.ex= []:=by rfl)
  (hg:Gl X ce:=by rfl) (hd:eF ce:=by decide) :
  QM X j (.Try body [.ExceptHandler (some (.Name ce np)) none (b0::suite) hpos] [] [] pos) (nu F (qX ce t)):=⟨EN hst hfe hcl hex hm OE (λpn xe=>(hb pn xe).h) (xk hm OE hs) hg hd⟩
end
end Tr
namespace Tr
open PySem PySem.Spec PyProof.Rows L2
def tX0 (K:Jh)(f:En->Rs (T×En)):TE:=λσ H Q=> ∃Z B M,Ev K B M H Z σ/\match f Z with
 | .ok p=> ∀v H' M',SameO M.u H H'->Ev K B M' H' p.2 σ->(∀a,M'.u a->M.u a\/Nw K H a)->Rep K (OO B M') H' p.1 v->Q v H'
 | _=>False
section
variable {X:Cx}{a:Expr}{pos:Pos}
theorem tX0.up {f:En->Rs (T×En)}{σ:L2.St}{H:Hp}{Q:VK}(h:tX0 X.K f σ H Q):tX X f σ H Q:=by
 obtain⟨Z,B,M,E,h⟩:=h;refine⟨Z,B,M,E,?_⟩
 cases z:f Z with
 | ok p=>rw[z]at h;exact h
 | err c=>rw[z]at h;exact h.elim
 | bad=>rw[z]at h;exact h.elim
theorem Ev.one {K:Jh}{B B':Ow}{H:Hp}{Z:En}{σ:L2.St}{j:Nat}{m:Ow}{o:OT}(hlen:Z.length=σ.length)(hv:∀(k:Nat) (t:T),Z[k]? =some (.va t)->∃v,σ[k]? =some (some v)/\Rep K (BM B m) H t v)
  (ho:∀(k:Nat) (o':OT),Z[k]? =some (.ow o')->k=j/\∃v,σ[k]? =some (some v)/\ORep K (BM B m) m H o' v) (mt:∀a,BM B m a->Mtb H a) (hm:∀a,m a->¬ B a):Ev K B (one j m) H Z σ:=by
 refine⟨⟨hlen,λk t e=> ?_,λk o' e=> ?_,λk a z=> .inr ⟨k,z⟩,λk k' a z1 z2=> ?_,λa z=>mt a (one_oo.mp z)⟩,λa z=>hm a (one_u.mp z)⟩
 ·obtain⟨v,e1,e2⟩:=hv k t e
  exact⟨v,e1,e2.less λa z=>one_oo.mp z⟩
 ·obtain⟨hk,v,e1,e2⟩:=ho k o' e
  subst hk;refine⟨v,e1,?_⟩
  rw[show Tr.one k m k=m from Mn.Ir]
  exact e2.move (P:=jI) (λ_ z=>z.elim) (λa z=> .inl (one_oo.mp z)) (λb u q _=>q) λ_ _ z=>z
 ·unfold Tr.one Mn.set at z1 z2
  by_cases h1:k=j
  ·by_cases h2:k'=j
   ·exact h1.trans h2.symm
   ·rw[if_neg h2]at z2;exact z2.elim
  ·rw[if_neg h1]at z1;exact z1.elim
theorem Ev.Jb {K:Jh}{B:Ow}{M:Mn}{H H':Hp}{Z:En}{σ:L2.St}{D:Addr}(E:Ev K B M H Z σ)(s:SameO (λa=>a=D) H H')(hD:B D)(mt:Mtb H' D):Ev K B M H' Z σ:=by
 have hP:∀a,a=D->OO B M a\/Nw K H a:=λa z=> .inl (.inl (z▸hD))
 refine⟨⟨E.env.len,λk t e=> ?_,λk o e=> ?_,E.env.sub,E.env.dis,λa z=> ?_⟩,E.mine⟩
 ·obtain⟨v,e1,e2⟩:=E.env.val k t e
  exact⟨v,e1,e2.move hP (λa z=> .inl z) s⟩
 ·obtain⟨v,e1,e2⟩:=E.env.own k o e
  exact⟨v,e1,e2.move hP (λa z=> .inl z) s λa z w=>E.mine a ⟨k,z⟩ (w▸hD)⟩
 ·by_cases hz:a=D
  ·rw[hz];exact mt
  ·exact(E.env.trk a z).at λo e=>s _ _ e hz
theorem x_lc {elt iter:Expr}{scope:Ma}{N':List Str}{src:List (Option Nat)}{fi:En->Rs (List T)}{x:En->Rs (T×En)}(i j:Nat){n:Str}{tp:Pos}(hc:X.calm=true)(S:LcScope X scope N' src)(hi:yg X (.Name n tp) iter fi)(hj0:j≠0)(hsj:src[j]? =some (some i))
  (block:∀cl C s₀ H₀ fp,PG (bQ X scope cl N' C s₀ H₀ fp) (.Name n tp) (pB 0)/\vh (bQ X scope cl N' C s₀ H₀ fp) elt x)
  (hs:∀x,Ke iter X.env x=pure x:=by intro _;rfl):vh X (.ListComp elt [⟨.Name n tp,iter,[],0⟩] scope pos) (CZ i j fi src x):=by
 refine PE.imp (vO (g:=pB 0) (tc:=yB) (te:=tX0 X.K x) hc S hi (λcl C s₀ H₀ fp=>⟨(block cl C s₀ H₀ fp).1,vK,λpins s σ H Q I h=>(block cl C s₀ H₀ fp).2 pins s σ H Q I (tX0.up (X:=bQ X scope cl N' C s₀ H₀ fp) h)⟩) hs) λσ H Q ⟨Z,B,M,E,h⟩=> ?_
 unfold CZ at h
 split at h
 ·rename_i o hown
  refine⟨Z,OO B M,E.o,?_⟩
  cases z:fi Z with
  | bad=>rw[z]at h;exact h
  | err c=>rw[z]at h;exact h
  | ok ts=>
   rw[z,az]at h;intro H1 s1 J hJ D hD hK
   split at h
   ·rename_i hz
    cases hall:dG 0 x ts ((bO src Z).set j (.ow o))with
    | bad=>rw[hall]at h;exact h.elim
    | err c=>rw[hall]at h;exact h.elim
    | ok fin=>
     rw[hall]at h;obtain⟨all,Ze⟩:=fin
     dsimp only at h
     split at h
     ·rename_i oe hoe
      have E1:=E.same s1
      have nD:Nw X.K H1 D:=⟨hD,hK⟩;obtain⟨v0,sv0,ro⟩:=E1.env.own i o hown
      have E2:EnvM X.K (OO B M) noM H1 (bO src Z) (dj src σ):=sQ E1.o src
      have sN:Same H1 (upd H1 D (.lst [])):=a9 hD _
      have sD:SameO (λa=>a=D) H1 (upd H1 D (.lst [])):=λb o e _=>sN b o e
      have notD:∀{a:Addr},OO B M a->a≠D:=λz w=>E1.old nD (w▸z)
      have PtoO:∀a,(a=D\/M i a)->OO B M a\/Nw X.K H1 a:=λa w=>w.elim (λy=> .inr (y▸nD)) λy=> .inl (.inr ⟨i,y⟩)
      have subB:∀a,(BC B M i a\/a=D)->OO B M a\/Nw X.K H1 a:=λa w=>w.elim (λy=> .inl y.1) λy=> .inr (y▸nD)
      have hsl:(dj src σ)[j]? =some (some v0):=by unfold dj;rw[JA,hsj];simp[sv0]
      refine⟨λk mm σ' ys H'=>mm=ts.length - k/\k<=ts.length/\ys.length<=k/\H' D=some (.lst ys)/\SameO (λa=>a=D\/M i a) (upd H1 D (.lst [])) H'/\σ'[j]? =some (some v0) ∧
       ∃Z' M' yts zs,Ev X.K (λa=>BC B M i a\/a=D) M' H' Z' σ'/\(∀a,M'.u a->M i a\/Nw X.K H1 a)/\Reps X.K (OO (λa=>BC B M i a\/a=D) M') H' yts ys/\dG 0 x (ts.drop k) Z'= .ok (zs,Ze)/\yts++zs=all,⟨ts.length,?_⟩,?_⟩
      ·refine⟨by omega,Ld _,Jw _,aQ,λb o e _=>e,hsl,(bO src Z).set j (.ow o),one j (M i),[],all,?_,λa z=> .inl (one_u.mp z),Reps.Gc,by simpa using hall,rfl⟩
       have hO:∀a,BM (λa=>BC B M i a\/a=D) (M i) a->OO B M a\/Nw X.K H1 a:=λa w=>w.elim (subB a) λy=> .inl (.inr ⟨i,y⟩)
       have hl0:j<(bO src Z).length:=by unfold bO;rw[Jo];exact(Jt.mp hsj).1
       refine Ev.one (B':=jI) (o:=o) (by rw[Km];exact E2.len) (λk t e=> ?_) (λk o' e=> ?_) (λa w=> ?_) λa w y=> ?_
       ·by_cases hk:j=k
        ·subst hk;rw[JI hl0]at e;cases e
        ·rw[JD hk]at e
         obtain⟨v,e1,e2⟩:=E2.val k t e;exact⟨v,e1,e2.move (P:=λa=>a=D) (λa w=> .inr (w▸nD)) hO sD⟩
       ·by_cases hk:j=k
        ·subst hk
         rw[JI hl0]at e
         cases e;exact⟨rfl,v0,hsl,ro.move (P:=λa=>a=D) (λa w=> .inr (w▸nD)) hO sD λa w=>notD (.inr ⟨i,w⟩)⟩
        ·rw[JD hk]at e
         exact(pj e).elim
       ·rcases w with(w | w) | w
        ·exact(E1.env.trk a w.1).same sN
        ·rw[w];exact .inl ⟨_,aQ⟩
        ·exact(E1.env.trk a (.inr ⟨i,w⟩)).same sN
       ·rcases y with y | y
        ·exact y.2 w
        ·exact notD (.inr ⟨i,w⟩) y
      ·rintro k mm σ' ys H' ⟨rfl,hk',hyl,hDl,hsm,hσj,Z',M',yts,zs,E',gr,ry,hl,hyz⟩
       refine⟨hDl,?_⟩
       have sm1:SameO (λa=>a=D\/M i a) H1 H':=λb o e nb=>hsm b o (by rw[aG (λw=>nb (.inl w))];exact e) nb
       have subO:∀a,OO (λa=>BC B M i a\/a=D) M' a->OO B M a\/Nw X.K H1 a:=λa w=>w.elim (subB a) λy=>(gr a y).imp_left λq=> .inr ⟨i,q⟩
       have it:=hJ (λa=>a=D\/M i a) (OO (λa=>BC B M i a\/a=D) M') PtoO subO k H' sm1 (λa z=>(E'.env.trk a z).some)
       by_cases hlt:k<ts.length
       ·refine .inr ?_
        have hti:ts[k]? =some ts[k]:=by simp
        obtain⟨go,yl⟩:=it.2 ts[k] hti;refine⟨go,by omega,λxx Hc y=> ?_⟩
        obtain⟨sc,rx⟩:=yl xx Hc y;rw[Ks hlt]at hl;unfold dG at hl;unfold pB yB;refine L2.iteT ?_
        split at hl
        ·rename_i hl0
         refine⟨Z'.set 0 (.va ts[k]),_,M',⟨(E'.same sc).env.set hl0 rx,E'.mine⟩,?_⟩
         cases e1:x (Z'.set 0 (.va ts[k]))with
         | bad=>rw[e1]at hl;cases hl
         | err cc=>rw[e1]at hl;cases hl
         | ok p=>
          rw[e1,az]at hl
          cases e2:dG 0 x (ts.drop (k+1)) p.2 with
          | bad=>rw[e2]at hl;cases hl
          | err cc=>rw[e2]at hl;cases hl
          | ok q=>
           rw[e2,az]at hl;obtain⟨qz,qe⟩:=q;cases hl;intro v H4 M4 s4 E4 o4 r4
           have nDM:¬ M'.u D:=λw=>E'.mine D w (.inr rfl)
           have D4:H4 D=some (.lst ys):=s4 _ _ (sc _ _ hDl) nDM
           have smc:SameO (λa=>a=D\/M i a) H1 Hc:=λb o e nb=>sc _ _ (sm1 b o e nb)
           have gr4:∀a,M4.u a->M i a\/Nw X.K H1 a:=λa w=>(o4 a w).elim (gr a) λy=>(d9 smc y).elim (λq=>q.elim (λt=> .inr (t▸nD)) .inl) .inr
           have smD:SameO (λa=>a=D) H4 (upd H4 D (.lst (ys++ [v]))):=λb o e nb=>by rw[aG nb];exact e
           refine⟨D4,ts.length - (k+1),by omega,rfl,hlt,?_,aQ,?_,?_,p.2,M4,yts++ [p.1],qz,E4.Jb smD (.inr rfl) (.inl ⟨_,aQ⟩),gr4,?_,e2,?_⟩
           ·rw[Js,Kv];omega
           ·intro b ob e nb
            refine smD b ob (s4 b ob (sc _ _ (hsm b ob e nb)) λw=> ?_) λw=>nb (.inl w)
            rcases gr b w with y | y
            ·exact nb (.inr y)
            ·rw[aG (λt=>nb (.inl t)),y.1]at e;cases e
           ·rw[JD (LD hj0)];exact hσj
           ·have r1:Reps X.K (OO (λa=>BC B M i a\/a=D) M4) H4 yts ys:=(ry.same sc).move (P:=M'.u) (λa w=> .inl (.inr w)) (λa w=>w.elim (λy=> .inl (.inl y)) λy=>(o4 a y).imp_left .inr) s4
            exact(r1.append (Reps.FS r4 Reps.Gc)).move (P:=λa=>a=D) (λa w=> .inl (.inl (.inr w))) (λa w=> .inl w) smD
           ·rw[Kj,NJ];exact hyz
        ·cases hl
       ·refine .inl ⟨it.1 (by omega),?_⟩
        have hk2:k=ts.length:=by omega
        subst hk2;rw[LI]at hl;unfold dG at hl;cases hl;rw[JZ]at hyz;subst hyz;obtain⟨v1,f1,ro'⟩:=E'.env.own j oe hoe;rw[hσj]at f1;cases f1
        have sMi:SameO (M i) H1 H':=λb o e nb=>sm1 b o e λw=>w.elim (λy=>by rw[y,hD]at e;cases e) nb
        have subM:∀a,BM (BC B M i) (M' j) a->OO (λa=>BC B M i a\/a=D) M' a:=λa w=>w.elim (λy=> .inl (.inl y)) λy=> .inr ⟨j,y⟩
        obtain⟨g1,g2,g3,g4⟩:=E1.ret (m:=M' j) (o':=oe) (t:=.lst yts) (u:=.ref D) hown sv0 sMi (ro'.move (P:=jI) (λ_ w=>w.elim) (λa w=> .inl (subM a w)) (λb u q _=>q) λ_ _ w=>w) (λa w=>gr a ⟨j,w⟩)
         (Rep.Do.mpr ⟨D,ys,rfl,λw=>w.elim (λy=>notD y.1 rfl) λy=>E'.mine D ⟨j,y⟩ (.inr rfl),hDl,ry.less subM⟩)
        exact h (.ref D) H' _ (λb o e nb=>g2 b o (s1 _ _ e) nb) g1 (λa w=>(g3 a w).imp_right (i5 s1)) g4
     ·exact h.elim
   ·exact h.elim
 ·exact h.elim
theorem FT {elt iter:Expr}{scope:Ma}{N':List Str}{src:List (Option Nat)}{fi:En->Rs (List T)}{x:En->Rs (T×En)}(i j:Nat){n:Str}{tp:Pos}(hc:X.calm=true)(S:LcScope X scope N' src)(hi:QI X (.Name n tp) iter fi)(hj0:j≠0)(hN:N'.Nodup)
  (block:∀cl C s₀ H₀ fp,QX (bQ X scope cl N' C s₀ H₀ fp) elt x) (hsj:src[j]? =some (some i):=by rfl) (hn0:N'[0]? =some n:=by rfl) (hl:∀cl C s₀ H₀ fp,Loc (bQ X scope cl N' C s₀ H₀ fp).env.scope n/\((bQ X scope cl N' C s₀ H₀ fp).fn n=true\/(bQ X scope cl N' C s₀ H₀ fp).env.scope.names.lookup n=some .local):=by intro _ _ _ _ _;exact⟨Ka rfl,JS rfl⟩)
  (hs:∀x,Ke iter X.env x=pure x:=by intro _;rfl):QX X (.ListComp elt [⟨.Name n tp,iter,[],0⟩] scope pos) (CZ i j fi src x):=
 ⟨x_lc i j hc S hi.h hj0 hsj (λcl C s₀ H₀ fp=>⟨vL hN hn0 (hl cl C s₀ H₀ fp).1 (hl cl C s₀ H₀ fp).2,(block cl C s₀ H₀ fp).h⟩) hs⟩
end
theorem fD {N P:List Str}{sc:Ma}(h1:sc.kind= .function:=by rfl)(h2:sc.isCoroutine=false:=by rfl)(h3:sc.isGenerator=false:=by rfl)(h4:N.Nodup:=by decide+kernel)(h5:N.take P.length=P:=by rfl)
  (h6:∀x∈P,sc.names.lookup x=some .local\/sc.names.lookup x=some .cell:=by decide+kernel) (h7:∀y∈sc.names,y.2≠ .free:=by decide+kernel):aA N P sc:=⟨h1,h2,h3,h4,h5,h6,h7⟩
theorem tO {X:Cx}{a b c:Expr}{fs:En->Rs (List T)}{p pos:Pos}{tg:Expr}(hm:X.mg "range" =none)(ha:QA X [a,b,c] fs)(hg:Gl X "range":=by rfl)(hn:ba [a,b,c] =true:=by rfl):QI X tg (.Call (.Name "range" p) [a,b,c] [] pos) (FP fs):=⟨xt hm ha.h hg hn⟩
end Tr
namespace G
open PySem PySem.Spec PyProof.Rows L2 Tr
def top (i:Nat):Stmt:=Kf.main.body.getD i (.Pass ⟨0,0,0,0⟩)
structure Bl (mg:Str->Option Ji):Prop where
 b_all:mg "all" =none
 b_bool:mg "bool" =none
 b_dict:mg "dict" =none
 b_enumerate:mg "enumerate" =none
 b_int:mg "int" =none
 b_isinstance:mg "isinstance" =none
 b_len:mg "len" =none
 b_range:mg "range" =none
 b_tuple:mg "tuple" =none
structure Cs (mg:Str->Option Ji):Prop where
 MOST_CLOCKS:∃t,mg "MOST_CLOCKS" =some (.int 4 t)
 MOST_LETTERS:∃t,mg "MOST_LETTERS" =some (.int 8 t)
 MOST_READINGS:∃t,mg "MOST_READINGS" =some (.int 4 t)
 LAST_READING:∃t,mg "LAST_READING" =some (.int 99 t)
 SLOWEST:∃t,mg "SLOWEST" =some (.int 9 t)
 LONGEST:∃t,mg "LONGEST" =some (.int 999 t)
structure b7 (K:Jh)(mg:Str->Option Ji):Prop where
 k:oR K mg "Sketch"
 a_past:NoAttr K (bD K "Sketch") "past"
 a_ahead:NoAttr K (bD K "Sketch") "ahead"
theorem rk:Kc "bool" =some (.type "bool"):=by decide+kernel
theorem lz:Kc "int" =some (.type "int"):=by decide+kernel
theorem ef:Kc "tuple" =some (.type "tuple"):=by decide+kernel
structure Xs (K:Jh)(mg:Str->Option Ji)(C_NoRecord C_NoNumber C_Nothing C_ClockError:Addr):Prop where
 m_NoRecord:mg "NoRecord" =some (.ref C_NoRecord)
 m_NoNumber:mg "NoNumber" =some (.ref C_NoNumber)
 m_Nothing:mg "Nothing" =some (.ref C_Nothing)
 m_ClockError:mg "ClockError" =some (.ref C_ClockError)
 o_NoRecord:OX K C_NoRecord (.ref C_ClockError::u6)
 o_NoNumber:OX K C_NoNumber (.ref C_ClockError::u6)
 o_Nothing:OX K C_Nothing (.ref C_ClockError::u6)
 o_ClockError:OX K C_ClockError u6
 d:[C_NoRecord,C_NoNumber,C_Nothing,C_ClockError].Nodup
end G
namespace G
open PySem Tr
def pP:En->Rs Fl:=
 (aJ (cm (o1 (Cg "tuple") (vr 0)) (ch Hb Hb (vr 1) (cl ck (ae (vr 0) ai)) (vr 2))))
def aP:List T->Rs T:=val 3 3 pP
def vi:En->Rs Fl:=
 (aJ (cm (o1 (Cg "int") (vr 0)) (o1 B3 (o1 (Cg "bool") (vr 0)))))
def gA:List T->Rs T:=val 1 1 vi
def iO:En->Rs Fl:=
 (aJ (cm (cl gA (ae (vr 0) ai)) (ch Hb Hb (vr 1) (vr 0) (vr 2))))
def aT:List T->Rs T:=val 3 3 iO
def k8:En->Rs Fl:=
 (aJ (cm (cl aT (ae (vr 0) (ae (cn (.int 1)) (ae (cn (.int 9)) ai)))) (cl aT (ae (vr 1) (ae (vr 0) (ae (cn (.int 9)) ai))))))
def eV:List T->Rs T:=val 2 2 k8
def xf:En->Rs Fl:=
 (aJ (cl oP (ae (gE (iR (ae (o2 cV (cl ck (ae (vr 0) ai)) (cn (.int 1))) ai)) [none,some 0] (gN 0) bT (o2 FK (o2 aR (vr 1) (vr 0)) (o2 aR (vr 1) (o2 aL (vr 0) (cn (.int 1)))))) ai)))
def jb:List T->Rs T:=val 1 1 xf
def dR:En->Rs Fl:=
 (aC (eO (dM (tb (cl aP (ae (vr 0) (ae (cn (.int 1)) (ae (cn (.int 4)) ai)))))) (aJ (cn (.bl false))) sN) (aJ (cm (cl oP (ae (gE (iS (vr 0)) [none] (gN 0) bT (cl aT (ae (vr 0) (ae (cn (.int 0)) (ae (cn (.int 99)) ai))))) ai)) (cl jb (ae (vr 0) ai)))))
def bA:List T->Rs T:=val 1 1 dR
def gL:En->Rs Fl:=
 (aJ (cm (cl aP (ae (vr 0) (ae (cn (.int 3)) (ae (cn (.int 3)) ai)))) (cm (cl eV (ae (o2 aR (vr 0) (cn (.int 0))) (ae (o2 aR (vr 0) (cn (.int 1))) ai))) (cl bA (ae (o2 aR (vr 0) (cn (.int 2))) ai)))))
def cR:List T->Rs T:=val 1 1 gL
def gM:En->Rs Fl:=
 (aJ (cm (cl aP (ae (vr 0) (ae (cn (.int 1)) (ae (cn (.int 4)) ai)))) (cl oP (ae (gE (iS (vr 0)) [none] (gN 0) bT (cl cR (ae (vr 0) ai))) ai))))
def cX:List T->Rs T:=val 1 1 gM
def gJ:En->Rs Fl:=
 (aC (eO (oa (dM (tb (cl aP (ae (vr 1) (ae (cn (.int 2)) (ae (cn (.int 2)) ai)))))) (dM (tb (cl aT (ae (o2 aR (vr 1) (cn (.int 0))) (ae (cn (.int 0)) (ae (o2 cV (cl ck (ae (vr 0) ai)) (cn (.int 1))) ai))))))) (aJ (cn (.bl false))) sN) (aJ (cl aT (ae (o2 aR (vr 1) (cn (.int 1))) (ae (cn (.int 0)) (ae (o2 cV (cl ck (ae (o2 aR (o2 aR (vr 0) (o2 aR (vr 1) (cn (.int 0)))) (cn (.int 2))) ai)) (cn (.int 1))) ai))))))
def cQ:List T->Rs T:=val 2 2 gJ
def gK:En->Rs Fl:=
 (aJ (cm (cl aT (ae (vr 0) (ae (cn (.int 0)) (ae (cn (.int 999)) ai)))) (AR (o2 lQ (vr 1) (cn .non)) (cl aT (ae (vr 1) (ae (vr 0) (ae (cn (.int 999)) ai)))))))
def dt:List T->Rs T:=val 2 2 gK
def dC:En->Rs Fl:=
 (aC (eO (oa (dM (tb (cl aP (ae (vr 1) (ae (cn (.int 4)) (ae (cn (.int 4)) ai)))))) (dM (tb (cl dt (ae (o2 aR (vr 1) (cn (.int 2))) (ae (o2 aR (vr 1) (cn (.int 3))) ai)))))) (aJ (cn (.bl false))) sN) (aJ (cm (cl cQ (ae (vr 0) (ae (o2 aR (vr 1) (cn (.int 0))) ai))) (cm (cl cQ (ae (vr 0) (ae (o2 aR (vr 1) (cn (.int 1))) ai))) (o2 fE (o2 aR (vr 1) (cn (.int 0))) (o2 aR (vr 1) (cn (.int 1))))))))
def bL:List T->Rs T:=val 2 2 dC
def gb:En->Rs Fl:=
 (aJ (cm (cl aP (ae (vr 1) (ae (cn (.int 0)) (ae (cn (.int 8)) ai)))) (cl oP (ae (gE (iS (vr 1)) [none,some 0] (gN 0) bT (cl bL (ae (vr 1) (ae (vr 0) ai)))) ai))))
def cH:List T->Rs T:=val 2 2 gb
def fT:En->Rs Fl:=
 (aJ (cm (cl aP (ae (vr 0) (ae (cn (.int 2)) (ae (cn (.int 2)) ai)))) (cm (cl cX (ae (o2 aR (vr 0) (cn (.int 0))) ai)) (cl cH (ae (o2 aR (vr 0) (cn (.int 0))) (ae (o2 aR (vr 0) (cn (.int 1))) ai))))))
def cP:List T->Rs T:=val 1 1 fT
def dg:En->Rs Fl:=
 (eO (dM (tb (cl cP (ae (vr 0) ai)))) (xp "NoRecord") sN)
def aM:List T->Rs T:=val 1 1 dg
def dS:En->Rs Fx:=
 (gB (sO (xP (cl aM (ae (vr 1) ai)))) (gB (sM 0 "Sketch" "past" (ae (aU (ae (cn .non) (ae (vr 1) ai))) ai)) (sM 0 "Sketch" "ahead" ai)))
def cL:List Sl->Rs (T×OT):=fV 2 0 2 dS
def lY:En->Rs Fl:=
 (aJ (o2 aR (o2 aR (o1 (lS "Sketch" "past") (vr 0)) (o1 ji (cn (.int 1)))) (cn (.int 1))))
def aq:List T->Rs T:=val 1 1 lY
def lZ:En->Rs Fl:=
 (aJ (aU (ae (o2 cV (cl ck (ae (o1 (lS "Sketch" "past") (vr 0)) ai)) (cn (.int 1))) (ae (cl ck (ae (o1 (lS "Sketch" "ahead") (vr 0)) ai)) ai))))
def aB:List T->Rs T:=val 1 1 lZ
def iU:En->Rs Fl:=
 (aC (eO (tb (o2 g9 (vr 0) (fF ai))) (aJ (o2 b8 (cn (.int 7)) (vr 1))) sN) (aJ (o2 aL (o2 aR (vr 0) (o2 ko (vr 1) (cl ck (ae (vr 0) ai)))) (o2 b8 (cn (.int 6553)) (o2 kq (vr 1) (cl ck (ae (vr 0) ai)))))))
def ej:List T->Rs T:=val 2 2 iU
def gO:En->Rs Fl:=
 (aC (c9 (o2 ko (o2 aL (o2 b8 (o2 ko (cl ej (ae (vr 0) (ae (vr 1) ai))) (cn (.int 2147483563))) (cn (.int 69069))) (o2 b8 (cn (.int 104723)) (o2 aL (vr 1) (cn (.int 1))))) (cn (.int 2147483563))) (gN 3)) (aC (c9 (o2 ko (o2 aL (o2 b8 (vr 3) (vr 3)) (o2 kq (vr 3) (cn (.int 3)))) (cn (.int 2147483399))) (gN 3)) (aJ (o2 ko (o2 kq (o2 ko (o2 aL (o2 b8 (vr 3) (vr 3)) (o2 kq (vr 3) (cn (.int 7)))) (cn (.int 2147483647))) (cn (.int 11))) (vr 2)))))
def ay:List T->Rs T:=val 3 4 gO
def jy:En->Rs Fl:=
 (aC (c9 (fF ai) (gN 1)) (aC (gx (iE (ae (vr 0) ai)) (gT 2 (sW (gN 2) (sW (gN 3) AS))) (c9 (o2 aL (vr 1) (gE (iR (ae (cl ck (ae (o2 aR (vr 3) (cn (.int 2))) ai)) ai)) [none,some 2] (gN 0) bT (aU (ae (vr 1) (ae (vr 0) ai))))) (gN 1))) (aJ (vr 1))))
def df:List T->Rs T:=val 1 4 jy
def dh:En->Rs Fl:=
 (aC (c9 (cl df (ae (vr 2) ai)) (gN 3)) (aC (eO (tb (o2 FK (cl ck (ae (vr 3) ai)) (cn (.int 2)))) (aJ (cn .non)) sN) (aC (c9 (cl ay (ae (vr 0) (ae (vr 1) (ae (cl ck (ae (vr 3) ai)) ai)))) (gN 4)) (aC (c9 (o2 ko (o2 aL (o2 aL (vr 4) (cn (.int 1))) (cl ay (ae (vr 0) (ae (o2 aL (vr 1) (cn (.int 1))) (ae (o2 cV (cl ck (ae (vr 3) ai)) (cn (.int 1))) ai))))) (cl ck (ae (vr 3) ai))) (gN 5)) (aC (c9 (cl ay (ae (vr 0) (ae (o2 aL (vr 1) (cn (.int 2))) (ae (cn (.int 8)) ai)))) (gN 6)) (aC (c9 (FO (tb (o2 g9 (cl ay (ae (vr 0) (ae (o2 aL (vr 1) (cn (.int 3))) (ae (cn (.int 3)) ai)))) (cn (.int 0)))) (cn .non) (o2 aL (vr 6) (cl ay (ae (vr 0) (ae (o2 aL (vr 1) (cn (.int 4))) (ae (cn (.int 9)) ai)))))) (gN 7)) (aJ (aU (ae (o2 aR (vr 3) (vr 4)) (ae (o2 aR (vr 3) (vr 5)) (ae (vr 6) (ae (vr 7) ai))))))))))))
def bN:List T->Rs T:=val 3 8 dh
def n5:En->Rs Fl:=
 (aC (uh (cl aM (ae (vr 0) ai))) (aC (gp 1 ai) (aC (gx (iE (ae (o2 aR (vr 0) (cn (.int 0))) ai)) (gT 2 (sW (gN 2) (sW (gN 3) AS))) (mP 1 (gE (iR (ae (cl ck (ae (o2 aR (vr 3) (cn (.int 2))) ai)) ai)) [none,some 2] (gN 0) bT (aU (ae (vr 1) (ae (vr 0) ai)))))) (mQ 1 (aJ (vr 1))))))
def iz:List T->Rs T:=val 1 4 n5
def iP:En->Rs Fl:=
 (aC (c9 (oD gZ (vr 0) (o2 aR (vr 1) (cn (.int 1)))) (gN 3)) (aJ (AR (o2 lQ (vr 3) (cn .non)) (o2 FK (o2 aL (o2 aR (vr 2) (cn (.int 0))) (o2 aR (vr 1) (cn (.int 2)))) (o2 aR (vr 3) (cn (.int 0)))))))
def cS:List T->Rs T:=val 3 4 iP
def iN:En->Rs Fl:=
 (aC (o5 2 (gE (iS (vr 1)) [none] (gN 0) bT (aU (ae (vr 0) (ae (aU (ae (cn (.int 0)) (ae (fF ai) ai))) ai))))) (aC (c9 (cn (.bl true)) (gN 3)) (aC (bz (tb (vr 3)) (aC (c9 (cn (.bl false)) (gN 3)) (gx (iE (ae (vr 0) ai)) (gT 2 (sW (gN 4) (sW (gN 5) AS))) (aC (c9 (ln 2 (oD gZ (vr 2) (o2 aR (vr 5) (cn (.int 0))))) (gN 6)) (aC (eO (oa (tb (o2 lQ (vr 6) (cn .non))) (dM (zv 2 (tb (cl cS (ae (vr 2) (ae (vr 5) (ae (vr 6) ai)))))))) C2 sN) (aC (c9 (o2 aL (o2 aR (vr 6) (cn (.int 1))) (fF (ae (vr 4) ai))) (gN 7)) (aC (c9 (gE (iS (vr 7)) [none,some 0] (gN 0) bT (o2 aR (o2 aR (vr 1) (vr 0)) (cn (.int 0)))) (gN 8)) (aC (eO (tb (o2 FN (o2 aR (vr 5) (cn (.int 1))) (vr 8))) (aJ (aU (ae (cn .non) (ae (sl (vr 7) (pS (oL fO (vr 8) (o2 aR (vr 5) (cn (.int 1))))) pN) ai)))) sN) (aC (xo 2 (o2 aR (vr 5) (cn (.int 1))) (aU (ae (o2 aL (o2 aR (vr 6) (cn (.int 0))) (o2 aR (vr 5) (cn (.int 2)))) (ae (vr 7) ai)))) (c9 (cn (.bl true)) (gN 3)))))))))) FU) (mQ 2 (aJ (aU (ae (vr 2) (ae (cn .non) ai))))))))
def iy:List T->Rs T:=val 2 9 iN
def d7:En->Rs Fl:=
 (aC (c9 (cl iz (ae (vr 0) ai)) (gN 2)) (aC (c9 (o2 aR (cl iy (ae (vr 1) (ae (vr 2) ai))) (cn (.int 0))) (gN 3)) (aC (eO (tb (o2 lQ (vr 3) (cn .non))) (aJ (cn .non)) sN) (aJ (cl jB (ae (gE (iS (vr 2)) [none,some 3] (gN 0) bT (o2 aR (o2 tw (vr 1) (vr 0)) (cn (.int 0)))) ai))))))
def cW:List T->Rs T:=val 2 4 d7
def dQ:En->Rs Fl:=
 (aC (c9 (o2 aR (vr 1) (cn (.int 2))) (gN 2)) (aC (gp 3 ai) (aC (gx (iR (ae (o2 cV (cl ck (ae (vr 2) ai)) (cn (.int 1))) ai)) (gN 4) (aC (c9 (aU (ae (vr 0) (ae (vr 4) ai))) (gN 5)) (aC (c9 (aU (ae (vr 0) (ae (o2 aL (vr 4) (cn (.int 1))) ai))) (gN 6)) (aC (c9 (o2 cV (o2 aR (vr 2) (o2 aL (vr 4) (cn (.int 1)))) (o2 aR (vr 2) (vr 4))) (gN 7)) (aC (lF 3 (aU (ae (vr 5) (ae (vr 6) (ae (o2 b8 (vr 7) (o2 aR (vr 1) (cn (.int 1)))) ai))))) (lF 3 (aU (ae (vr 6) (ae (vr 5) (ae (o2 b8 (o1 ji (vr 7)) (o2 aR (vr 1) (cn (.int 0)))) ai)))))))))) (mQ 3 (aJ (vr 3))))))
def b9:List T->Rs T:=val 2 8 dQ
def dv:En->Rs Fl:=
 (aC (gp 1 (ae (aU (ae (o2 aR (vr 0) (cn (.int 1))) (ae (o2 aR (vr 0) (cn (.int 0))) (ae (o1 ji (o2 aR (vr 0) (cn (.int 2)))) ai)))) ai)) (aC (eO (tb (o2 iq (o2 aR (vr 0) (cn (.int 3))) (cn .non))) (lF 1 (aU (ae (o2 aR (vr 0) (cn (.int 0))) (ae (o2 aR (vr 0) (cn (.int 1))) (ae (o2 aR (vr 0) (cn (.int 3))) ai))))) sN) (mQ 1 (aJ (vr 1)))))
def bU:List T->Rs T:=val 1 2 dv
def n6:En->Rs Fl:=
 (aC (uh (cl aM (ae (vr 0) ai))) (aC (gp 1 ai) (aC (gx (iE (ae (o2 aR (vr 0) (cn (.int 0))) ai)) (gT 2 (sW (gN 2) (sW (gN 3) AS))) (mP 1 (cl b9 (ae (vr 2) (ae (vr 3) ai))))) (aC (gx (iS (o2 aR (vr 0) (cn (.int 1)))) (gN 4) (mP 1 (cl bU (ae (vr 4) ai)))) (mQ 1 (aJ (vr 1)))))))
def iA:List T->Rs T:=val 1 5 n6
def CU:En->Rs Fl:=
 (aJ (cl cW (ae (vr 0) (ae (cl iA (ae (vr 0) ai)) ai))))
def ja:List T->Rs T:=val 1 1 CU
def tK:En->Rs Fl:=
 (aJ (o2 iq (cl ja (ae (vr 0) ai)) (cn .non)))
def dz:List T->Rs T:=val 1 1 tK
def fA:En->Rs Fx:=
 (gB (sO (rK 0 "Sketch" "past" (aU (ae (vr 1) (ae (vr 2) ai))))) (gB (sM 0 "Sketch" "ahead" ai) (jM (xP (cl dz (ae (vr 2) ai))))))
def bc:List Sl->Rs (T×OT):=fV 3 0 3 fA
def f9:En->Rs Fl:=
 (eO (dM (tb (cl aT (ae (vr 1) (ae (cn (.int 0)) (ae (o2 cV (vr 0) (cn (.int 1))) ai)))))) (xp "NoNumber") sN)
def cG:List T->Rs T:=val 2 2 f9
def d6:En->Rs Fl:=
 (aC (uh (cl aM (ae (vr 0) ai))) (aC (c9 (o2 aR (vr 0) (cn (.int 1))) (gN 2)) (aC (uh (cl cG (ae (cl ck (ae (vr 2) ai)) (ae (vr 1) ai)))) (aJ (aU (ae (o2 aR (vr 0) (cn (.int 0))) (ae (o2 aL (sl (vr 2) pN (pS (vr 1))) (sl (vr 2) (pS (o2 aL (vr 1) (cn (.int 1)))) pN)) ai)))))))
def bP:List T->Rs T:=val 2 3 d6
def rB:En->Rs Fx:=
 (jM (bq 0 "Sketch" "go_on" bc (ae (cn (.str "cut")) (ae (cl bP (ae (ln 0 (fm "Sketch" "record" aq (vr 0) ai)) (ae (vr 1) ai))) ai))))
def dN:List Sl->Rs (T×OT):=fV 2 0 2 rB
def eE:En->Rs Fl:=
 (aC (uh (cl aM (ae (vr 0) ai))) (aJ (vr 0)))
def cx:List T->Rs T:=val 1 1 eE
def gI:En->Rs Fl:=
 (aC (c9 (o2 aR (vr 0) (cn (.int 0))) (gN 3)) (aJ (cl cx (ae (aU (ae (o2 aL (o2 aL (sl (vr 3) pN (pS (vr 1))) (aU (ae (vr 2) ai))) (sl (vr 3) (pS (o2 aL (vr 1) (cn (.int 1)))) pN)) (ae (o2 aR (vr 0) (cn (.int 1))) ai))) ai))))
def eR:List T->Rs T:=val 3 4 gI
def fz:En->Rs Fl:=
 (aC (uh (cl aM (ae (vr 0) ai))) (aC (uh (cl cG (ae (cl ck (ae (o2 aR (vr 0) (cn (.int 0))) ai)) (ae (vr 1) ai)))) (aC (c9 (o2 aR (o2 aR (vr 0) (cn (.int 0))) (vr 1)) (gN 3)) (aJ (cl eR (ae (vr 0) (ae (vr 1) (ae (aU (ae (o2 aR (vr 3) (cn (.int 0))) (ae (o2 aR (vr 3) (cn (.int 1))) (ae (o2 aL (o2 aR (vr 3) (cn (.int 2))) (aU (ae (vr 2) ai))) ai)))) ai))))))))
def bS:List T->Rs T:=val 3 4 fz
def oQ:En->Rs Fx:=
 (jM (bq 0 "Sketch" "go_on" bc (ae (cn (.str "read")) (ae (cl bS (ae (ln 0 (fm "Sketch" "record" aq (vr 0) ai)) (ae (vr 1) (ae (vr 2) ai)))) ai))))
def cI:List Sl->Rs (T×OT):=fV 3 0 3 oQ
def fZ:En->Rs Fl:=
 (aC (uh (cl aM (ae (vr 0) ai))) (aJ (cl cx (ae (aU (ae (o2 aR (vr 0) (cn (.int 0))) (ae (o2 aL (o2 aR (vr 0) (cn (.int 1))) (aU (ae (vr 1) ai))) ai))) ai))))
def cj:List T->Rs T:=val 2 2 fZ
def n8:En->Rs Fx:=
 (jM (bq 0 "Sketch" "go_on" bc (ae (cn (.str "write")) (ae (cl cj (ae (ln 0 (fm "Sketch" "record" aq (vr 0) ai)) (ae (vr 1) ai))) ai))))
def cv:List Sl->Rs (T×OT):=fV 2 0 2 n8
def iQ:En->Rs Fx:=
 (gB (zu 3 (xP (ln 2 (fm "Sketch" "record" aq (vr 2) ai)))) (gB (zu 4 (xP (cl ay (ae (vr 0) (ae (vr 1) (ae (cn (.int 4)) ai)))))) (gB (zu 5 (xP (cl bN (ae (vr 0) (ae (o2 aL (vr 1) (cn (.int 1))) (ae (o2 aR (vr 3) (cn (.int 0))) ai)))))) (gB (zu 6 (xP (cl ay (ae (vr 0) (ae (o2 aL (vr 1) (cn (.int 7))) (ae (cl ck (ae (o2 aR (vr 3) (cn (.int 0))) ai)) ai)))))) (nu (xM (rq (tb (o2 g9 (vr 4) (cn (.int 0)))) (tb (o2 fE (o2 aR (vr 3) (cn (.int 1))) (aU ai)))) (sO (bq 2 "Sketch" "cut" dN (ae (cl ay (ae (vr 0) (ae (o2 aL (vr 1) (cn (.int 8))) (ae (cl ck (ae (o2 aR (vr 3) (cn (.int 1))) ai)) ai)))) ai))) (xM (tb (o2 g9 (vr 4) (cn (.int 1)))) (sO (bq 2 "Sketch" "read" cI (ae (vr 6) (ae (o2 aL (o2 aL (o2 aR (o2 aR (o2 aR (o2 aR (vr 3) (cn (.int 0))) (vr 6)) (cn (.int 2))) (o1 ji (cn (.int 1)))) (cn (.int 1))) (cl ay (ae (vr 0) (ae (o2 aL (vr 1) (cn (.int 8))) (ae (cn (.int 5)) ai))))) ai)))) (xM (tb (o2 iq (vr 5) (cn .non))) (sO (bq 2 "Sketch" "write" cv (ae (vr 5) ai))) mN))) (qX "NoRecord" .non))))))
def bM:List Sl->Rs (T×OT):=fV 3 2 7 iQ
def gP:En->Rs Fl:=
 (aC (c9 (o2 aL (cn (.int 1)) (cl ay (ae (vr 0) (ae (vr 1) (ae (cn (.int 3)) ai))))) (gN 2)) (aC (c9 (aU (ae (cl ay (ae (vr 0) (ae (o2 aL (vr 1) (cn (.int 2))) (ae (cn (.int 6)) ai)))) ai)) (gN 3)) (aC (gx (iR (ae (cl ay (ae (vr 0) (ae (o2 aL (vr 1) (cn (.int 1))) (ae (cn (.int 3)) ai)))) ai)) (gN 4) (c9 (o2 aL (vr 3) (aU (ae (o2 aL (o2 aL (o2 aR (vr 3) (o1 ji (cn (.int 1)))) (cn (.int 1))) (cl ay (ae (vr 0) (ae (o2 aL (o2 aL (vr 1) (cn (.int 3))) (vr 4)) (ae (cn (.int 5)) ai))))) ai))) (gN 3))) (aJ (aU (ae (vr 2) (ae (o2 aL (vr 2) (cl ay (ae (vr 0) (ae (o2 aL (vr 1) (cn (.int 6))) (ae (cn (.int 3)) ai))))) (ae (vr 3) ai))))))))
def cb:List T->Rs T:=val 2 5 gP
def gc:En->Rs Fl:=
 (aC (c9 (cl jB (ae (gE (iR (ae (o2 aL (cn (.int 1)) (cl ay (ae (vr 0) (ae (vr 1) (ae (cn (.int 3)) ai))))) ai)) [none,some 0,some 1] (gN 0) bT (cl cb (ae (vr 1) (ae (o2 aL (o2 aL (vr 2) (cn (.int 1))) (o2 b8 (cn (.int 8)) (vr 0))) ai)))) ai)) (gN 3)) (aC (c9 (fF ai) (gN 4)) (aC (gx (iR (ae (cl ay (ae (vr 0) (ae (o2 aL (vr 1) (cn (.int 30))) (ae (o2 aL (vr 2) (cn (.int 1))) ai)))) ai)) (gN 5) (aC (c9 (cl bN (ae (vr 0) (ae (o2 aL (o2 aL (vr 1) (cn (.int 31))) (o2 b8 (cn (.int 6)) (vr 5))) (ae (vr 3) ai)))) (gN 6)) (c9 (o2 aL (vr 4) (o2 b8 (fF (ae (vr 6) ai)) (cl zX (ae (o2 iq (vr 6) (cn .non)) ai)))) (gN 4)))) (aJ (aU (ae (vr 3) (ae (cl jB (ae (vr 4) ai)) ai)))))))
def ee:List T->Rs T:=val 3 7 gc
def gd:En->Rs Fx:=
 (gB (xM (tb (o2 g9 (ln 0 (cl ck (ae (o1 (lS "Sketch" "past") (vr 0)) ai))) (cn (.int 1)))) (B7 "Nothing") mN) (gB (zu 1 (tT 0 "Sketch" "past")) (gB (sO (rK 0 "Sketch" "ahead" (vr 1))) (jM (xP (o2 aR (vr 1) (cn (.int 0))))))))
def aN:List Sl->Rs (T×OT):=fV 1 0 2 gd
def fB:En->Rs Fx:=
 (gB (xM (zv 0 (tb (o2 g9 (o1 (lS "Sketch" "ahead") (vr 0)) (fF ai)))) (B7 "Nothing") mN) (gB (zu 1 (tT 0 "Sketch" "ahead")) (gB (sO (rK 0 "Sketch" "past" (vr 1))) (jM (xP (o2 aR (vr 1) (cn (.int 0))))))))
def bV:List Sl->Rs (T×OT):=fV 1 0 2 fB
def AM:En->Rs Fl:=
 (aC (o6 1 "Sketch" cL (ae (cl ee (ae (vr 0) (ae (cn (.int 0)) (ae (cn (.int 2)) ai)))) ai)) (aC (gp 2 (ae (ln 1 (fm "Sketch" "record" aq (vr 1) ai)) ai)) (aC (gx (iR (ae (o2 aL (cn (.int 2)) (cl ay (ae (vr 0) (ae (cn (.int 70)) (ae (cn (.int 7)) ai))))) ai)) (gN 3) (aC (ou (oj 1 bM (ae (vr 0) (ae (o2 aL (cn (.int 80)) (o2 b8 (cn (.int 10)) (vr 3))) ai)))) (eO (tb (o2 g9 (o2 aR (ln 1 (fm "Sketch" "counts" aB (vr 1) ai)) (cn (.int 0))) (ln 2 (cl ck (ae (vr 2) ai))))) (lF 2 (ln 1 (fm "Sketch" "record" aq (vr 1) ai))) sN))) (aC (c9 (o2 cV (ln 2 (cl ck (ae (vr 2) ai))) (cn (.int 1))) (gN 4)) (aC (eO (tb (o2 fE (ln 1 (fm "Sketch" "counts" aB (vr 1) ai)) (aU (ae (vr 4) (ae (cn (.int 0)) ai))))) (aJ (cn (.bl false))) sN) (aC (gp 5 ai) (aC (gx (FP (ae (o2 cV (vr 4) (cn (.int 1))) (ae (o1 ji (cn (.int 1))) (ae (o1 ji (cn (.int 1))) ai)))) (gN 3) (aC (lh 5 (bq 1 "Sketch" "back" aN ai)) (eO (oa (tb (o2 fE (ln 1 (fm "Sketch" "record" aq (vr 1) ai)) (ln 2 (o2 aR (vr 2) (vr 3))))) (tb (o2 fE (ln 1 (fm "Sketch" "counts" aB (vr 1) ai)) (aU (ae (vr 3) (ae (o2 cV (vr 4) (vr 3)) ai)))))) (aJ (cn (.bl false))) sN))) (aC (eO (zv 5 (tb (o2 fE (gE (iS (vr 5)) [none] (gN 0) (tb (o2 ir (vr 0) (aU (ae (cn (.str "write")) (ae (cn (.str "read")) (ae (cn (.str "cut")) ai)))))) (vr 0)) (fF ai)))) (aJ (cn (.bl false))) sN) (aC (gx (iR (ae (cn (.int 1)) (ae (o2 aL (vr 4) (cn (.int 1))) ai))) (gN 3) (aC (lE (oh (ye (vq fE (bq 1 "Sketch" "forth" bV ai) (ln 5 (o2 aR (vr 5) (o2 cV (vr 4) (vr 3)))))) (AO (tb (o2 fE (ln 1 (fm "Sketch" "record" aq (vr 1) ai)) (ln 2 (o2 aR (vr 2) (vr 3))))))) (aJ (cn (.bl false))) sN) (eO (tb (o2 fE (ln 1 (fm "Sketch" "counts" aB (vr 1) ai)) (aU (ae (vr 3) (ae (o2 cV (vr 4) (vr 3)) ai))))) (aJ (cn (.bl false))) sN))) (aC (mQ 5 (c9 (cl ay (ae (vr 0) (ae (cn (.int 71)) (ae (o2 aL (vr 4) (cn (.int 1))) ai)))) (gN 6))) (aC (lE (ye (vq fE (CZ 1 1 (iR (ae (vr 6) ai)) [none,some 1] (bq 1 "Sketch" "back" aN ai)) (sl (vr 5) pN (pS (vr 6))))) (aJ (cn (.bl false))) sN) (aC (eO (tb (o2 fE (ln 1 (fm "Sketch" "record" aq (vr 1) ai)) (ln 2 (o2 aR (vr 2) (o2 cV (vr 4) (vr 6)))))) (aJ (cn (.bl false))) sN) (aC (c9 (o2 cV (vr 4) (vr 6)) (gN 7)) (aC (ou (oj 1 bM (ae (vr 0) (ae (cn (.int 200)) ai)))) (aC (eO (tb (o2 g9 (ln 1 (fm "Sketch" "counts" aB (vr 1) ai)) (aU (ae (vr 7) (ae (vr 6) ai))))) (aJ (o2 g9 (ln 1 (fm "Sketch" "record" aq (vr 1) ai)) (ln 2 (o2 aR (vr 2) (vr 7))))) sN) (aC (lE (oh (AO (tb (o2 fE (ln 1 (fm "Sketch" "counts" aB (vr 1) ai)) (aU (ae (o2 aL (vr 7) (cn (.int 1))) (ae (cn (.int 0)) ai)))))) (ye (vq ir (bq 1 "Sketch" "back" aN ai) (aU (ae (cn (.str "write")) (ae (cn (.str "read")) (ae (cn (.str "cut")) ai))))))) (aJ (cn (.bl false))) sN) (aJ (cm (o2 g9 (ln 1 (fm "Sketch" "record" aq (vr 1) ai)) (ln 2 (o2 aR (vr 2) (vr 7)))) (o2 g9 (ln 1 (fm "Sketch" "counts" aB (vr 1) ai)) (aU (ae (vr 7) (ae (cn (.int 1)) ai))))))))))))))))))))))
def m_law:List T->Rs T:=val 1 8 AM
end G
namespace G
open PySem PySem.Spec PyProof.Rows L2 Tr
section
variable (P:JK)(w:Kn){K:Jh}{mg:Str->Option Ji}(base:Heap)
abbrev mH:Stmt:=top 15
abbrev uD:List Str:=["thing","least","most"]
theorem ug:aA uD ["thing","least","most"] (aj mH):=fD
theorem uw (F:g7 K mg "is_long" mH ["thing","least","most"])(B:Bl mg):Cl P w K mg base 1 "is_long" 3 aP:=
 bB F ug rfl λf c A o s H E hr x=>(ax (aD (dn (yr B.b_isinstance B.b_tuple ef (af 0)) (dF (rH vV vV (af 1) (cw bY B.b_len KU (ag (af 0) ah)) (af 2))))))
abbrev k9:Stmt:=top 13
abbrev sv:List Str:=["thing"]
theorem rV:aA sv ["thing"] (aj k9):=fD
theorem sf (F:g7 K mg "is_whole" k9 ["thing"])(B:Bl mg):Cl P w K mg base 1 "is_whole" 1 gA:=
 bB F rV rfl λf c A o s H E hr x=>(ax (aD (dn (yr B.b_isinstance B.b_int lz (af 0)) (dF (Du (yr B.b_isinstance B.b_bool rk (af 0)))))))
abbrev j4:Stmt:=top 14
abbrev qH:List Str:=["thing","least","most"]
theorem p8:aA qH ["thing","least","most"] (aj j4):=fD
theorem qw (F:g7 K mg "is_within" j4 ["thing","least","most"])(aaG:Cl P w K mg base 1 "is_whole" 1 gA):Cl P w K mg base 2 "is_within" 3 aT:=
 bB F p8 rfl λf c A o s H E hr x=>(ax (aD (dn (aX aaG hr (ag (af 0) ah)) (dF (rH vV vV (af 1) (af 0) (af 2))))))
abbrev mG:Stmt:=top 18
abbrev uC:List Str:=["slow","fast"]
theorem uf:aA uC ["slow","fast"] (aj mG):=fD
theorem uv (F:g7 K mg "is_pace" mG ["slow","fast"])(aa2:Cl P w K mg base 2 "is_within" 3 aT)(C:Cs mg):Cl P w K mg base 3 "is_pace" 2 eV:=
 bB F uf rfl λf c A o s H E hr x=>(ax (aD (dn (aX aa2 hr (ag (af 0) (ag ak (ag (rG C.SLOWEST) ah)))) (dF (aX aa2 hr (ag (af 1) (ag (af 0) (ag (rG C.SLOWEST) ah))))))))
abbrev mF:Stmt:=top 16
abbrev sr:List Str:=["numbers"]
theorem yJ:aA sr ["numbers"] (aj mF):=fD
theorem zg (F:g7 K mg "rises" mF ["numbers"])(B:Bl mg):Cl P w K mg base 1 "rises" 1 jb:=
 bB F yJ rfl λf c A o s H E hr x=>(ax (aD (cw (rh rfl) B.b_all boot_all (ag (jj (N':=["k","numbers"]) (src:=[none,some 0]) rfl (LcScope.by (N:=sr) (names:=(aj mF).names) rfl rfl rfl (by decide+kernel)) (cz B.b_range (ag (au dq (cw bY B.b_len KU (ag (af 0) ah)) ak) ah)) (λ_ _ _ _ _=>⟨(aw 0 (show KO (["k","numbers"]:List Str)by decide+kernel)),de,(fU zc (aF (af 1) (af 0)) (aF (af 1) (au aI (af 0) ak)))⟩)) ah))))
abbrev eG:Stmt:=top 17
abbrev gX:List Str:=["thing"]
theorem lA:aA gX ["thing"] (aj eG):=fD
theorem lH (F:g7 K mg "are_readings" eG ["thing"])(aa3:Cl P w K mg base 1 "is_long" 3 aP)(aaP:Cl P w K mg base 1 "rises" 1 jb)(aa2:Cl P w K mg base 2 "is_within" 3 aT)(B:Bl mg)(C:Cs mg):Cl P w K mg base 3 "are_readings" 1 bA:=
 bB F lA rfl λf c A o s H E hr x=>(ao (cJ (fI (eM (aX aa3 hr (ag (af 0) (ag ak (ag (rG C.MOST_READINGS) ah)))))) (ax (aD fK)) bu) (ax (aD (dn (cw (rh rfl) B.b_all boot_all (ag (jj (N':=["part"]) (src:=[none]) rfl (LcScope.by (N:=gX) (names:=(aj eG).names) rfl rfl rfl (by decide+kernel)) (fJ (af 0)) (λ_ _ _ _ _=>⟨(aw 0 (show KO (["part"]:List Str)by decide+kernel)),de,(aX aa2 hr (ag (af 0) (ag ak (ag (rG C.LAST_READING) ah))))⟩)) ah)) (dF (aX aaP hr (ag (af 0) ah)))))))
abbrev lg:Stmt:=top 19
abbrev sC:List Str:=["thing"]
theorem rY:aA sC ["thing"] (aj lg):=fD
theorem si (F:g7 K mg "is_clock" lg ["thing"])(aa3:Cl P w K mg base 1 "is_long" 3 aP)(aaK:Cl P w K mg base 3 "is_pace" 2 eV)(aal:Cl P w K mg base 3 "are_readings" 1 bA):Cl P w K mg base 4 "is_clock" 1 cR:=
 bB F rY rfl λf c A o s H E hr x=>(ax (aD (dn (aX aa3 hr (ag (af 0) (ag ak (ag ak ah)))) (dn (aX aaK hr (ag (aF (af 0) ak) (ag (aF (af 0) ak) ah))) (dF (aX aal hr (ag (aF (af 0) ak) ah)))))))
abbrev fW:Stmt:=top 20
abbrev jr:List Str:=["thing"]
theorem oo:aA jr ["thing"] (aj fW):=fD
theorem oC (F:g7 K mg "are_clocks" fW ["thing"])(aa3:Cl P w K mg base 1 "is_long" 3 aP)(aaH:Cl P w K mg base 4 "is_clock" 1 cR)(B:Bl mg)(C:Cs mg):Cl P w K mg base 5 "are_clocks" 1 cX:=
 bB F oo rfl λf c A o s H E hr x=>(ax (aD (dn (aX aa3 hr (ag (af 0) (ag ak (ag (rG C.MOST_CLOCKS) ah)))) (dF (cw (rh rfl) B.b_all boot_all (ag (jj (N':=["part"]) (src:=[none]) rfl (LcScope.by (N:=jr) (names:=(aj fW).names) rfl rfl rfl (by decide+kernel)) (fJ (af 0)) (λ_ _ _ _ _=>⟨(aw 0 (show KO (["part"]:List Str)by decide+kernel)),de,(aX aaH hr (ag (af 0) ah))⟩)) ah))))))
abbrev la:Stmt:=top 21
abbrev sy:List Str:=["clocks","thing"]
theorem rW:aA sy ["clocks","thing"] (aj la):=fD
theorem sg (F:g7 K mg "is_event" la ["clocks","thing"])(aa2:Cl P w K mg base 2 "is_within" 3 aT)(aa3:Cl P w K mg base 1 "is_long" 3 aP)(B:Bl mg):Cl P w K mg base 3 "is_event" 2 cQ:=
 bB F rW rfl λf c A o s H E hr x=>(ao (cJ (rF (pT (fI (eM (aX aa3 hr (ag (af 1) (ag ak (ag ak ah)))))) (l5 (fI (eM (aX aa2 hr (ag (aF (af 1) ak) (ag ak (ag (au dq (cw bY B.b_len KU (ag (af 0) ah)) ak) ah))))))))) (ax (aD fK)) bu) (ax (aD (aX aa2 hr (ag (aF (af 1) ak) (ag ak (ag (au dq (cw bY B.b_len KU (ag (aF (aF (af 0) (aF (af 1) ak)) ak) ah)) ak) ah)))))))
abbrev lb:Stmt:=top 22
abbrev sA:List Str:=["least","most"]
theorem rX:aA sA ["least","most"] (aj lb):=fD
theorem sh (F:g7 K mg "is_delay" lb ["least","most"])(aa2:Cl P w K mg base 2 "is_within" 3 aT)(C:Cs mg):Cl P w K mg base 3 "is_delay" 2 dt:=
 bB F rX rfl λf c A o s H E hr x=>(ax (aD (dn (aX aa2 hr (ag (af 0) (ag ak (ag (rG C.LONGEST) ah)))) (dF (CY (fU vW (af 1) dm) (dF (aX aa2 hr (ag (af 1) (ag (af 0) (ag (rG C.LONGEST) ah))))))))))
abbrev j6:Stmt:=top 23
abbrev qJ:List Str:=["clocks","thing"]
theorem qb:aA qJ ["clocks","thing"] (aj j6):=fD
theorem qy (F:g7 K mg "is_letter" j6 ["clocks","thing"])(aav:Cl P w K mg base 3 "is_event" 2 cQ)(aa3:Cl P w K mg base 1 "is_long" 3 aP)(aaI:Cl P w K mg base 3 "is_delay" 2 dt):Cl P w K mg base 4 "is_letter" 2 bL:=
 bB F qb rfl λf c A o s H E hr x=>(ao (cJ (rF (pT (fI (eM (aX aa3 hr (ag (af 1) (ag ak (ag ak ah)))))) (l5 (fI (eM (aX aaI hr (ag (aF (af 1) ak) (ag (aF (af 1) ak) ah)))))))) (ax (aD fK)) bu) (ax (aD (dn (aX aav hr (ag (af 0) (ag (aF (af 1) ak) ah))) (dn (aX aav hr (ag (af 0) (ag (aF (af 1) ak) ah))) (dF (fU (gW (fx hr)) (aF (af 1) ak) (aF (af 1) ak))))))))
abbrev eZ:Stmt:=top 24
abbrev iu:List Str:=["clocks","thing"]
theorem mM:aA iu ["clocks","thing"] (aj eZ):=fD
theorem mX (F:g7 K mg "are_letters" eZ ["clocks","thing"])(aa3:Cl P w K mg base 1 "is_long" 3 aP)(aaB:Cl P w K mg base 4 "is_letter" 2 bL)(B:Bl mg)(C:Cs mg):Cl P w K mg base 5 "are_letters" 2 cH:=
 bB F mM rfl λf c A o s H E hr x=>(ax (aD (dn (aX aa3 hr (ag (af 1) (ag ak (ag (rG C.MOST_LETTERS) ah)))) (dF (cw (rh rfl) B.b_all boot_all (ag (jj (N':=["part","clocks"]) (src:=[none,some 0]) rfl (LcScope.by (N:=iu) (names:=(aj eZ).names) rfl rfl rfl (by decide+kernel)) (fJ (af 1)) (λ_ _ _ _ _=>⟨(aw 0 (show KO (["part","clocks"]:List Str)by decide+kernel)),de,(aX aaB hr (ag (af 1) (ag (af 0) ah)))⟩)) ah))))))
abbrev j5:Stmt:=top 25
abbrev qI:List Str:=["thing"]
theorem p9:aA qI ["thing"] (aj j5):=fD
theorem qx (F:g7 K mg "is_record" j5 ["thing"])(aa3:Cl P w K mg base 1 "is_long" 3 aP)(aaw:Cl P w K mg base 5 "are_clocks" 1 cX)(aap:Cl P w K mg base 5 "are_letters" 2 cH):Cl P w K mg base 6 "is_record" 1 cP:=
 bB F p9 rfl λf c A o s H E hr x=>(ax (aD (dn (aX aa3 hr (ag (af 0) (ag ak (ag ak ah)))) (dn (aX aaw hr (ag (aF (af 0) ak) ah)) (dF (aX aap hr (ag (aF (af 0) ak) (ag (aF (af 0) ak) ah))))))))
abbrev hZ:Stmt:=top 26
abbrev ng:List Str:=["thing"]
theorem mK:aA ng ["thing"] (aj hZ):=fD
theorem mV (F:g7 K mg "need_record" hZ ["thing"])(aaC:Cl P w K mg base 6 "is_record" 1 cP){C_NoRecord C_NoNumber C_Nothing C_ClockError:Addr}(S:Xs K mg C_NoRecord C_NoNumber C_Nothing C_ClockError):Cl P w K mg base 7 "need_record" 1 aM:=
 bB F mK rfl λf c A o s H E hr x=>(ax (cJ (fI (eM (aX aaC hr (ag (af 0) ah)))) (ax (iW S.o_NoRecord S.m_NoRecord)) bu))
abbrev fg:Stmt:=cu (top 47) 0
abbrev jK:List Str:=["self","record"]
theorem jC:aA jK ["self","record"] (aj fg):=fD
theorem jG (F:lX K "Sketch" "__init__" "Sketch.__init__" fg ["self","record"])(aa1:Cl P w K mg base 7 "need_record" 1 aM)(K_Sketch:b7 K mg):Mm P w K mg base 8 "Sketch" "__init__" 2 cL:=
 nt F jC rfl λf c A o s H E hr x=>(cK (my (fH (aX aa1 hr (ag (af 1) ah)))) (cK (tS 0 K_Sketch.k K_Sketch.a_past (ag (aW (ag dm (ag (af 1) ah))) ah)) (c8 (tS 0 K_Sketch.k K_Sketch.a_ahead ah))))
abbrev gj:Stmt:=cu (top 47) 1
abbrev kK:List Str:=["self"]
theorem kC:aA kK ["self"] (aj gj):=fD
theorem kE (F:lX K "Sketch" "record" "Sketch.record" gj ["self"])(K_Sketch:b7 K mg):Ml P w K mg base 1 "Sketch" "record" aq:=
 C5 F kC rfl λf c A o s H E hr x=>(ax (aD (aF (aF (mx K_Sketch.k K_Sketch.a_past (af 0)) (jz ak)) ak)))
abbrev gk:Stmt:=cu (top 47) 9
abbrev kL:List Str:=["self"]
theorem kD:aA kL ["self"] (aj gk):=fD
theorem kF (F:lX K "Sketch" "counts" "Sketch.counts" gk ["self"])(B:Bl mg)(K_Sketch:b7 K mg):Ml P w K mg base 1 "Sketch" "counts" aB:=
 C5 F kD rfl λf c A o s H E hr x=>(ax (aD (aW (ag (au dq (cw bY B.b_len KU (ag (mx K_Sketch.k K_Sketch.a_past (af 0)) ah)) ak) (ag (cw bY B.b_len KU (ag (mx K_Sketch.k K_Sketch.a_ahead (af 0)) ah)) ah)))))
abbrev kc:Stmt:=top 49
abbrev qO:List Str:=["_law_script","_law_k"]
theorem qf:aA qO ["_law_script","_law_k"] (aj kc):=fD
theorem qE (F:g7 K mg "_law_cell" kc ["_law_script","_law_k"])(B:Bl mg):Cl P w K mg base 1 "_law_cell" 2 ej:=
 bB F qf rfl λf c A o s H E hr x=>(ao (cJ (bj (ip (fx hr)) (af 0) (hI ah)) (ax (aD (au di ak (af 1)))) bu) (ax (aD (au aI (aF (af 0) (au jE (af 1) (cw bY B.b_len KU (ag (af 0) ah)))) (au di ak (au md (af 1) (cw bY B.b_len KU (ag (af 0) ah))))))))
abbrev jn:Stmt:=top 50
abbrev oI:List Str:=["_law_script","_law_k","_law_many","_law_cell_here"]
theorem aaq:aA oI ["_law_script","_law_k","_law_many"] (aj jn):=fD
theorem oE (F:g7 K mg "_law_drawn" jn ["_law_script","_law_k","_law_many"])(aaD:Cl P w K mg base 1 "_law_cell" 2 ej):Cl P w K mg base 2 "_law_drawn" 3 ay:=
 bB F aaq rfl λf c A o s H E hr x=>(by(apply ao;exact(aS (au jE (au aI (au di (au jE (aX aaD hr (ag (af 0) (ag (af 1) ah))) ak) ak) (au di ak (au aI (af 1) ak))) ak) (aw 3 aaq.nd));apply ao;exact(aS (au jE (au aI (au di (af 3) (af 3)) (au md (af 3) ak)) ak) (aw 3 aaq.nd));exact ax (aD (au jE (au md (au jE (au aI (au di (af 3) (af 3)) (au md (af 3) ak)) ak) ak) (af 2)))))
abbrev ff:Stmt:=top 53
abbrev ix:List Str:=["_law_clocks","_law_found","_law_number","_law_clock_here"]
theorem aaa:aA ix ["_law_clocks"] (aj ff):=fD
theorem m4 (F:g7 K mg "_law_events" ff ["_law_clocks"])(B:Bl mg):Cl P w K mg base 1 "_law_events" 1 df:=
 bB F aaa rfl λf c A o s H E hr x=>(by(apply ao;exact(aS (hI ah) (aw 1 aaa.nd));apply ao;exact(dE rfl (jV B.b_enumerate (ag (af 0) ah)) (l7 rfl (dw (aw 2 aaa.nd) (dw (aw 3 aaa.nd) jW))) (ax (aS (au aI (af 1) (jj (N':=["_law_place","_law_number"]) (src:=[none,some 2]) rfl (LcScope.by (N:=ix) (names:=(aj ff).names) rfl rfl rfl (by decide+kernel)) (cz B.b_range (ag (cw bY B.b_len KU (ag (aF (af 3) ak) ah)) ah)) (λ_ _ _ _ _=>⟨(aw 0 (show KO (["_law_place","_law_number"]:List Str)by decide+kernel)),de,(aW (ag (af 1) (ag (af 0) ah)))⟩))) (aw 1 aaa.nd))));exact ax (aD (af 1))))
abbrev ib:Stmt:=top 52
abbrev ni:List Str:=["_law_script","_law_at","_law_clocks","_law_row","_law_place","_law_other","_law_least","_law_most"]
theorem aa6:aA ni ["_law_script","_law_at","_law_clocks"] (aj ib):=fD
theorem mZ (F:g7 K mg "_law_letter" ib ["_law_script","_law_at","_law_clocks"])(aar:Cl P w K mg base 1 "_law_events" 1 df)(aa0:Cl P w K mg base 2 "_law_drawn" 3 ay)(B:Bl mg):Cl P w K mg base 3 "_law_letter" 3 bN:=
 bB F aa6 rfl λf c A o s H E hr x=>(by(apply ao;exact(aS (aX aar hr (ag (af 2) ah)) (aw 3 aa6.nd));apply ao;exact(cJ (bj zc (cw bY B.b_len KU (ag (af 3) ah)) ak) (ax (aD dm)) bu);apply ao;exact(aS (aX aa0 hr (ag (af 0) (ag (af 1) (ag (cw bY B.b_len KU (ag (af 3) ah)) ah)))) (aw 4 aa6.nd));apply ao;exact(aS (au jE (au aI (au aI (af 4) ak) (aX aa0 hr (ag (af 0) (ag (au aI (af 1) ak) (ag (au dq (cw bY B.b_len KU (ag (af 3) ah)) ak) ah))))) (cw bY B.b_len KU (ag (af 3) ah))) (aw 5 aa6.nd));apply ao;exact(aS (aX aa0 hr (ag (af 0) (ag (au aI (af 1) ak) (ag ak ah)))) (aw 6 aa6.nd));apply ao;exact(aS (FV (bj (ip (fx hr)) (aX aa0 hr (ag (af 0) (ag (au aI (af 1) ak) (ag ak ah)))) ak) dm (au aI (af 6) (aX aa0 hr (ag (af 0) (ag (au aI (af 1) ak) (ag ak ah)))))) (aw 7 aa6.nd));exact ax (aD (aW (ag (aF (af 3) (af 4)) (ag (aF (af 3) (af 5)) (ag (af 6) (ag (af 7) ah))))))))
abbrev kB:Stmt:=top 28
abbrev pd:List Str:=["record","told","number","clock"]
theorem aaz:aA pd ["record"] (aj kB):=fD
theorem xC (F:g7 K mg "events" kB ["record"])(aa1:Cl P w K mg base 7 "need_record" 1 aM)(B:Bl mg):Cl P w K mg base 8 "events" 1 iz:=
 bB F aaz rfl λf c A o s H E hr x=>(by(apply ao;exact(eg (aX aa1 hr (ag (af 0) ah)));apply ao;exact(gf 1 aaz.nd ah);apply ao;exact(dE rfl (jV B.b_enumerate (ag (aF (af 0) ak) ah)) (l7 rfl (dw (aw 2 aaz.nd) (dw (aw 3 aaz.nd) jW))) (ax (pV 1 (jj (N':=["k","number"]) (src:=[none,some 2]) rfl (LcScope.by (N:=pd) (names:=(aj kB).names) rfl rfl rfl (by decide+kernel)) (cz B.b_range (ag (cw bY B.b_len KU (ag (aF (af 3) ak) ah)) ah)) (λ_ _ _ _ _=>⟨(aw 0 (show KO (["k","number"]:List Str)by decide+kernel)),de,(aW (ag (af 1) (ag (af 0) ah)))⟩)))));exact ax (iX 1 (aD (af 1)))))
abbrev j7:Stmt:=top 41
abbrev qK:List Str:=["best","bound","ahead","known"]
theorem aaL:aA qK ["best","bound","ahead"] (aj j7):=fD
theorem qA (F:g7 K mg "is_better" j7 ["best","bound","ahead"]):Cl P w K mg base 1 "is_better" 3 cS:=
 bB F aaL rfl λf c A o s H E hr x=>(ao (aS (vm (Ib hr) (af 0) (aF (af 1) ak)) (aw 3 aaL.nd)) (ax (aD (CY (fU vW (af 3) dm) (dF (fU zc (au aI (aF (af 2) ak) (aF (af 1) ak)) (aF (af 3) ak)))))))
abbrev iY:Stmt:=top 40
abbrev kJ:List Str:=["limits","starts","best","moved","number","bound","ahead","walk","passed"]
theorem aa5:aA kJ ["limits","starts"] (aj iY):=fD
theorem xA (F:g7 K mg "settle" iY ["limits","starts"])(aaE:Cl P w K mg base 1 "is_better" 3 cS)(B:Bl mg):Cl P w K mg base 2 "settle" 2 iy:=
 bB F aa5 rfl λf c A o s H E hr x=>(by(apply ao;exact(yn 2 (hu8 hr) rfl B.b_dict aa5.nd (jj (N':=["event"]) (src:=[none]) rfl (LcScope.by (N:=kJ) (names:=(aj iY).names) rfl rfl rfl (by decide+kernel)) (fJ (af 1)) (λ_ _ _ _ _=>⟨(aw 0 (show KO (["event"]:List Str)by decide+kernel)),de,(aW (ag (af 0) (ag (aW (ag ak (ag (hI ah) ah))) ah)))⟩)));apply ao;exact(aS fK (aw 3 aa5.nd));apply ao;exact(xg FU (eM (af 3)) (ao (aS fK (aw 3 aa5.nd)) (ax (dE rfl (jV B.b_enumerate (ag (af 0) ah)) (l7 rfl (dw (aw 4 aa5.nd) (dw (aw 5 aa5.nd) jW))) (by(apply ao;exact(aS (cp 2 (vm (Ib hr) (af 2) (aF (af 5) ak))) (aw 6 aa5.nd));apply ao;exact(cJ (rF (pT (bj vW (af 6) dm) (l5 (fI (tN 2 (eM (aX aaE hr (ag (af 2) (ag (af 5) (ag (af 6) ah)))))))))) (ax Dt) bu);apply ao;exact(aS (au aI (aF (af 6) ak) (hI (ag (af 4) ah))) (aw 7 aa5.nd));apply ao;exact(Ds 8 (N':=["step","limits"]) (src:=[none,some 0]) rfl (LcScope.by (N:=kJ) (names:=(aj iY).names) rfl rfl rfl (by decide+kernel)) (fJ (af 7)) (λ_ _ _ _ _=>⟨(aw 0 (show KO (["step","limits"]:List Str)by decide+kernel)),de,(aF (aF (af 1) (af 0)) ak)⟩) aa5.nd);apply ao;exact(cJ (bj (GV (Cj hr)) (aF (af 5) ak) (af 8)) (ax (aD (aW (ag dm (ag (gi (af 7) (gg (xh (Cj hr) (af 8) (aF (af 5) ak))) gh) ah))))) bu);apply ao;exact(A0 2 (Ib hr) (aF (af 5) ak) (aW (ag (au aI (aF (af 6) ak) (aF (af 5) ak)) (ag (af 7) ah))));exact ax (aS fK (aw 3 aa5.nd))))))));exact ax (iX 2 (aD (aW (ag (af 2) (ag dm ah)))))))
abbrev dI:Stmt:=top 43
abbrev fN:List Str:=["record","limits","places","best"]
theorem aaf:aA fN ["record","limits"] (aj dI):=fD
theorem ki (F:g7 K mg "greatest_world" dI ["record","limits"])(aaM:Cl P w K mg base 8 "events" 1 iz)(aaN:Cl P w K mg base 2 "settle" 2 iy)(B:Bl mg):Cl P w K mg base 9 "greatest_world" 2 cW:=
 bB F aaf rfl λf c A o s H E hr x=>(by(apply ao;exact(aS (aX aaM hr (ag (af 0) ah)) (aw 2 aaf.nd));apply ao;exact(aS (aF (aX aaN hr (ag (af 1) (ag (af 2) ah))) ak) (aw 3 aaf.nd));apply ao;exact(cJ (bj vW (af 3) dm) (ax (aD dm)) bu);exact ax (aD (vn nR B.b_tuple ef (ag (jj (N':=["event","best"]) (src:=[none,some 3]) rfl (LcScope.by (N:=fN) (names:=(aj dI).names) rfl rfl rfl (by decide+kernel)) (fJ (af 2)) (λ_ _ _ _ _=>⟨(aw 0 (show KO (["event","best"]:List Str)by decide+kernel)),de,(aF (Dv (Ib hr) (af 1) (af 0)) ak)⟩)) ah)))))
abbrev eY:Stmt:=top 36
abbrev jJ:List Str:=["number","clock","readings","told","k","first","second","steps"]
theorem aa4:aA jJ ["number","clock"] (aj eY):=fD
theorem jF (F:g7 K mg "bounds_of_clock" eY ["number","clock"])(B:Bl mg):Cl P w K mg base 1 "bounds_of_clock" 2 b9:=
 bB F aa4 rfl λf c A o s H E hr x=>(by(apply ao;exact(aS (aF (af 1) ak) (aw 2 aa4.nd));apply ao;exact(gf 3 aa4.nd ah);apply ao;exact(dE rfl (cz B.b_range (ag (au dq (cw bY B.b_len KU (ag (af 2) ah)) ak) ah)) (aw 4 aa4.nd) (by(apply ao;exact(aS (aW (ag (af 0) (ag (af 4) ah))) (aw 5 aa4.nd));apply ao;exact(aS (aW (ag (af 0) (ag (au aI (af 4) ak) ah))) (aw 6 aa4.nd));apply ao;exact(aS (au dq (aF (af 2) (au aI (af 4) ak)) (aF (af 2) (af 4))) (aw 7 aa4.nd));apply ao;exact(l6 3 (aW (ag (af 5) (ag (af 6) (ag (au di (af 7) (aF (af 1) ak)) ah)))));exact ax (l6 3 (aW (ag (af 6) (ag (af 5) (ag (au di (jz (af 7)) (aF (af 1) ak)) ah))))))));exact ax (iX 3 (aD (af 3)))))
abbrev eI:Stmt:=top 37
abbrev jh:List Str:=["letter","told"]
theorem aak:aA jh ["letter"] (aj eI):=fD
theorem jg (F:g7 K mg "bounds_of_letter" eI ["letter"]):Cl P w K mg base 1 "bounds_of_letter" 1 bU:=
 bB F aak rfl λf c A o s H E hr x=>(by(apply ao;exact(gf 1 aak.nd (ag (aW (ag (aF (af 0) ak) (ag (aF (af 0) ak) (ag (jz (aF (af 0) ak)) ah)))) ah));apply ao;exact(cJ (bj kg (aF (af 0) ak) dm) (ax (l6 1 (aW (ag (aF (af 0) ak) (ag (aF (af 0) ak) (ag (aF (af 0) ak) ah)))))) bu);exact ax (iX 1 (aD (af 1)))))
abbrev oY:Stmt:=top 38
abbrev xG:List Str:=["record","told","number","clock","letter"]
theorem aao:aA xG ["record"] (aj oY):=fD
theorem xE (F:g7 K mg "bounds" oY ["record"])(aa1:Cl P w K mg base 7 "need_record" 1 aM)(aag:Cl P w K mg base 1 "bounds_of_clock" 2 b9)(aad:Cl P w K mg base 1 "bounds_of_letter" 1 bU)(B:Bl mg):Cl P w K mg base 8 "bounds" 1 iA:=
 bB F aao rfl λf c A o s H E hr x=>(by(apply ao;exact(eg (aX aa1 hr (ag (af 0) ah)));apply ao;exact(gf 1 aao.nd ah);apply ao;exact(dE rfl (jV B.b_enumerate (ag (aF (af 0) ak) ah)) (l7 rfl (dw (aw 2 aao.nd) (dw (aw 3 aao.nd) jW))) (ax (pV 1 (aX aag hr (ag (af 2) (ag (af 3) ah))))));apply ao;exact(dE rfl (fJ (aF (af 0) ak)) (aw 4 aao.nd) (ax (pV 1 (aX aad hr (ag (af 4) ah)))));exact ax (iX 1 (aD (af 1)))))
abbrev rP:Stmt:=top 44
abbrev zk:List Str:=["record"]
theorem yI:aA zk ["record"] (aj rP):=fD
theorem ze (F:g7 K mg "world" rP ["record"])(aai:Cl P w K mg base 9 "greatest_world" 2 cW)(aaO:Cl P w K mg base 8 "bounds" 1 iA):Cl P w K mg base 10 "world" 1 ja:=
 bB F yI rfl λf c A o s H E hr x=>(ax (aD (aX aai hr (ag (af 0) (ag (aX aaO hr (ag (af 0) ah)) ah)))))
abbrev j9:Stmt:=top 45
abbrev qM:List Str:=["record"]
theorem qd:aA qM ["record"] (aj j9):=fD
theorem qC (F:g7 K mg "has_world" j9 ["record"])(aaQ:Cl P w K mg base 10 "world" 1 ja):Cl P w K mg base 11 "has_world" 1 dz:=
 bB F qd rfl λf c A o s H E hr x=>(ax (aD (fU kg (aX aaQ hr (ag (af 0) ah)) dm)))
abbrev gU:Stmt:=cu (top 47) 2
abbrev lN:List Str:=["self","word","record"]
theorem lD:aA lN ["self","word","record"] (aj gU):=fD
theorem lJ (F:lX K "Sketch" "go_on" "Sketch.go_on" gU ["self","word","record"])(aaF:Cl P w K mg base 11 "has_world" 1 dz)(K_Sketch:b7 K mg):Mm P w K mg base 12 "Sketch" "go_on" 3 bc:=
 nt F lD rfl λf c A o s H E hr x=>(cK (my (tM 0 K_Sketch.k K_Sketch.a_past (aW (ag (af 1) (ag (af 2) ah))))) (cK (tS 0 K_Sketch.k K_Sketch.a_ahead ah) (c8 (kA (fH (aX aaF hr (ag (af 2) ah)))))))
abbrev ia:Stmt:=top 27
abbrev nh:List Str:=["many","thing"]
theorem mL:aA nh ["many","thing"] (aj ia):=fD
theorem mW (F:g7 K mg "need_number" ia ["many","thing"])(aa2:Cl P w K mg base 2 "is_within" 3 aT){C_NoRecord C_NoNumber C_Nothing C_ClockError:Addr}(S:Xs K mg C_NoRecord C_NoNumber C_Nothing C_ClockError):Cl P w K mg base 3 "need_number" 2 cG:=
 bB F mL rfl λf c A o s H E hr x=>(ax (cJ (fI (eM (aX aa2 hr (ag (af 1) (ag ak (ag (au dq (af 0) ak) ah)))))) (ax (iW S.o_NoNumber S.m_NoNumber)) bu))
abbrev fL:Stmt:=top 32
abbrev km:List Str:=["record","number","letters"]
theorem aau:aA km ["record","number"] (aj fL):=fD
theorem kh (F:g7 K mg "without_letter" fL ["record","number"])(aa1:Cl P w K mg base 7 "need_record" 1 aM)(aa8:Cl P w K mg base 3 "need_number" 2 cG)(B:Bl mg):Cl P w K mg base 8 "without_letter" 2 bP:=
 bB F aau rfl λf c A o s H E hr x=>(by(apply ao;exact(eg (aX aa1 hr (ag (af 0) ah)));apply ao;exact(aS (aF (af 0) ak) (aw 2 aau.nd));apply ao;exact(eg (aX aa8 hr (ag (cw bY B.b_len KU (ag (af 2) ah)) (ag (af 1) ah))));exact ax (aD (aW (ag (aF (af 0) ak) (ag (au aI (gi (af 2) gh (gg (af 1))) (gi (af 2) (gg (au aI (af 1) ak)) gh)) ah))))))
abbrev jq:Stmt:=cu (top 47) 5
abbrev oK:List Str:=["self","number"]
theorem oq:aA oK ["self","number"] (aj jq):=fD
theorem oG (F:lX K "Sketch" "cut" "Sketch.cut" jq ["self","number"])(c_Sketch_go_on:Mm P w K mg base 12 "Sketch" "go_on" 3 bc)(aaj:Cl P w K mg base 8 "without_letter" 2 bP)(c_Sketch_record:Ml P w K mg base 1 "Sketch" "record" aq)(K_Sketch:b7 K mg):Mm P w K mg base 13 "Sketch" "cut" 2 dN:=
 nt F oq rfl λf c A o s H E hr x=>(c8 (kA (iV 0 K_Sketch.k c_Sketch_go_on hr (ag gv (ag (aX aaj hr (ag (cp 0 (bW K_Sketch.k c_Sketch_record hr (af 0))) (ag (af 1) ah))) ah)))))
abbrev j8:Stmt:=top 30
abbrev qL:List Str:=["thing"]
theorem qc:aA qL ["thing"] (aj j8):=fD
theorem qB (F:g7 K mg "if_record" j8 ["thing"])(aa1:Cl P w K mg base 7 "need_record" 1 aM):Cl P w K mg base 8 "if_record" 1 cx:=
 bB F qc rfl λf c A o s H E hr x=>(ao (eg (aX aa1 hr (ag (af 0) ah))) (ax (aD (af 0))))
abbrev jm:Stmt:=top 33
abbrev oH:List Str:=["record","number","clock","clocks"]
theorem aaJ:aA oH ["record","number","clock"] (aj jm):=fD
theorem oB (F:g7 K mg "with_clock" jm ["record","number","clock"])(aac:Cl P w K mg base 8 "if_record" 1 cx):Cl P w K mg base 9 "with_clock" 3 eR:=
 bB F aaJ rfl λf c A o s H E hr x=>(ao (aS (aF (af 0) ak) (aw 3 aaJ.nd)) (ax (aD (aX aac hr (ag (aW (ag (au aI (au aI (gi (af 3) gh (gg (af 1))) (aW (ag (af 2) ah))) (gi (af 3) (gg (au aI (af 1) ak)) gh)) (ag (aF (af 0) ak) ah))) ah)))))
abbrev gR:Stmt:=top 34
abbrev lL:List Str:=["record","clock","reading","old"]
theorem aaA:aA lL ["record","clock","reading"] (aj gR):=fD
theorem lG (F:g7 K mg "with_reading" gR ["record","clock","reading"])(aa1:Cl P w K mg base 7 "need_record" 1 aM)(aa8:Cl P w K mg base 3 "need_number" 2 cG)(aax:Cl P w K mg base 9 "with_clock" 3 eR)(B:Bl mg):Cl P w K mg base 10 "with_reading" 3 bS:=
 bB F aaA rfl λf c A o s H E hr x=>(by(apply ao;exact(eg (aX aa1 hr (ag (af 0) ah)));apply ao;exact(eg (aX aa8 hr (ag (cw bY B.b_len KU (ag (aF (af 0) ak) ah)) (ag (af 1) ah))));apply ao;exact(aS (aF (aF (af 0) ak) (af 1)) (aw 3 aaA.nd));exact ax (aD (aX aax hr (ag (af 0) (ag (af 1) (ag (aW (ag (aF (af 3) ak) (ag (aF (af 3) ak) (ag (au aI (aF (af 3) ak) (aW (ag (af 2) ah))) ah)))) ah)))))))
abbrev ie:Stmt:=cu (top 47) 4
abbrev nj:List Str:=["self","clock","reading"]
theorem mO:aA nj ["self","clock","reading"] (aj ie):=fD
theorem m5 (F:lX K "Sketch" "read" "Sketch.read" ie ["self","clock","reading"])(c_Sketch_go_on:Mm P w K mg base 12 "Sketch" "go_on" 3 bc)(aam:Cl P w K mg base 10 "with_reading" 3 bS)(c_Sketch_record:Ml P w K mg base 1 "Sketch" "record" aq)(K_Sketch:b7 K mg):Mm P w K mg base 13 "Sketch" "read" 3 cI:=
 nt F mO rfl λf c A o s H E hr x=>(c8 (kA (iV 0 K_Sketch.k c_Sketch_go_on hr (ag gv (ag (aX aam hr (ag (cp 0 (bW K_Sketch.k c_Sketch_record hr (af 0))) (ag (af 1) (ag (af 2) ah)))) ah)))))
abbrev hY:Stmt:=top 31
abbrev nc:List Str:=["record","letter"]
theorem mJ:aA nc ["record","letter"] (aj hY):=fD
theorem mU (F:g7 K mg "with_letter" hY ["record","letter"])(aa1:Cl P w K mg base 7 "need_record" 1 aM)(aac:Cl P w K mg base 8 "if_record" 1 cx):Cl P w K mg base 9 "with_letter" 2 cj:=
 bB F mJ rfl λf c A o s H E hr x=>(ao (eg (aX aa1 hr (ag (af 0) ah))) (ax (aD (aX aac hr (ag (aW (ag (aF (af 0) ak) (ag (au aI (aF (af 0) ak) (aW (ag (af 1) ah))) ah))) ah)))))
abbrev gS:Stmt:=cu (top 47) 3
abbrev lM:List Str:=["self","letter"]
theorem lC:aA lM ["self","letter"] (aj gS):=fD
theorem lI (F:lX K "Sketch" "write" "Sketch.write" gS ["self","letter"])(c_Sketch_go_on:Mm P w K mg base 12 "Sketch" "go_on" 3 bc)(aas:Cl P w K mg base 9 "with_letter" 2 cj)(c_Sketch_record:Ml P w K mg base 1 "Sketch" "record" aq)(K_Sketch:b7 K mg):Mm P w K mg base 13 "Sketch" "write" 2 cv:=
 nt F lC rfl λf c A o s H E hr x=>(c8 (kA (iV 0 K_Sketch.k c_Sketch_go_on hr (ag gv (ag (aX aas hr (ag (cp 0 (bW K_Sketch.k c_Sketch_record hr (af 0))) (ag (af 1) ah))) ah)))))
abbrev ka:Stmt:=top 55
abbrev qN:List Str:=["_law_script","_law_at","_law_sketch","_law_record_here","_law_deed","_law_letter_here","_law_clock_here"]
theorem aae:aA qN ["_law_script","_law_at","_law_sketch"] (aj ka):=fD
theorem qD (F:g7 K mg "_law_step" ka ["_law_script","_law_at","_law_sketch"])(c_Sketch_record:Ml P w K mg base 1 "Sketch" "record" aq)(aa0:Cl P w K mg base 2 "_law_drawn" 3 ay)(aa9:Cl P w K mg base 3 "_law_letter" 3 bN)(c_Sketch_cut:Mm P w K mg base 13 "Sketch" "cut" 2 dN)(c_Sketch_read:Mm P w K mg base 13 "Sketch" "read" 3 cI)(c_Sketch_write:Mm P w K mg base 13 "Sketch" "write" 2 cv)(B:Bl mg)(K_Sketch:b7 K mg){C_NoRecord C_NoNumber C_Nothing C_ClockError:Addr}(S:Xs K mg C_NoRecord C_NoNumber C_Nothing C_ClockError):Ce P w K mg base 14 "_law_step" 3 2 bM:=
 HK F aae rfl λf c A o s H E hr x=>(cK (oS 3 aae.nd (fH (cp 2 (bW K_Sketch.k c_Sketch_record hr (af 2))))) (cK (oS 4 aae.nd (fH (aX aa0 hr (ag (af 0) (ag (af 1) (ag ak ah)))))) (cK (oS 5 aae.nd (fH (aX aa9 hr (ag (af 0) (ag (au aI (af 1) ak) (ag (aF (af 3) ak) ah)))))) (cK (oS 6 aae.nd (fH (aX aa0 hr (ag (af 0) (ag (au aI (af 1) ak) (ag (cw bY B.b_len KU (ag (aF (af 3) ak) ah)) ah)))))) (c8 (A2 S.m_NoRecord S.o_NoRecord (λ_ _=>(c8 (rJ (rF (AZ (bj (ip (fx hr)) (af 4) ak) (ym (bj (gW (fx hr)) (aF (af 3) ak) (aW ah))))) (c8 (my (iV 2 K_Sketch.k c_Sketch_cut hr (ag (aX aa0 hr (ag (af 0) (ag (au aI (af 1) ak) (ag (cw bY B.b_len KU (ag (aF (af 3) ak) ah)) ah)))) ah)))) (c8 (rJ (bj (ip (fx hr)) (af 4) ak) (c8 (my (iV 2 K_Sketch.k c_Sketch_read hr (ag (af 6) (ag (au aI (au aI (aF (aF (aF (aF (af 3) ak) (af 6)) ak) (jz ak)) ak) (aX aa0 hr (ag (af 0) (ag (au aI (af 1) ak) (ag ak ah))))) ah))))) (c8 (rJ (bj kg (af 5) dm) (c8 (my (iV 2 K_Sketch.k c_Sketch_write hr (ag (af 5) ah)))) tR))))))) (λ_ _=>(ax (aD dm))) (hcl:=λ_ _ z=>by cases z)))))))
abbrev jo:Stmt:=top 51
abbrev oJ:List Str:=["_law_script","_law_at","_law_slow","_law_readings","_law_k"]
theorem aab:aA oJ ["_law_script","_law_at"] (aj jo):=fD
theorem oF (F:g7 K mg "_law_clock" jo ["_law_script","_law_at"])(aa0:Cl P w K mg base 2 "_law_drawn" 3 ay)(B:Bl mg):Cl P w K mg base 3 "_law_clock" 2 cb:=
 bB F aab rfl λf c A o s H E hr x=>(by(apply ao;exact(aS (au aI ak (aX aa0 hr (ag (af 0) (ag (af 1) (ag ak ah))))) (aw 2 aab.nd));apply ao;exact(aS (aW (ag (aX aa0 hr (ag (af 0) (ag (au aI (af 1) ak) (ag ak ah)))) ah)) (aw 3 aab.nd));apply ao;exact(dE rfl (cz B.b_range (ag (aX aa0 hr (ag (af 0) (ag (au aI (af 1) ak) (ag ak ah)))) ah)) (aw 4 aab.nd) (ax (aS (au aI (af 3) (aW (ag (au aI (au aI (aF (af 3) (jz ak)) ak) (aX aa0 hr (ag (af 0) (ag (au aI (au aI (af 1) ak) (af 4)) (ag ak ah))))) ah))) (aw 3 aab.nd))));exact ax (aD (aW (ag (af 2) (ag (au aI (af 2) (aX aa0 hr (ag (af 0) (ag (au aI (af 1) ak) (ag ak ah))))) (ag (af 3) ah)))))))
abbrev e9:Stmt:=top 54
abbrev iw:List Str:=["_law_script","_law_at","_law_most","_law_clocks","_law_letters","_law_k","_law_letter_here"]
theorem aa7:aA iw ["_law_script","_law_at","_law_most"] (aj e9):=fD
theorem mY (F:g7 K mg "_law_record" e9 ["_law_script","_law_at","_law_most"])(aa0:Cl P w K mg base 2 "_law_drawn" 3 ay)(aa9:Cl P w K mg base 3 "_law_letter" 3 bN)(aay:Cl P w K mg base 3 "_law_clock" 2 cb)(B:Bl mg):Cl P w K mg base 4 "_law_record" 3 ee:=
 bB F aa7 rfl λf c A o s H E hr x=>(by(apply ao;exact(aS (vn nR B.b_tuple ef (ag (jj (N':=["_law_k","_law_script","_law_at"]) (src:=[none,some 0,some 1]) rfl (LcScope.by (N:=iw) (names:=(aj e9).names) rfl rfl rfl (by decide+kernel)) (cz B.b_range (ag (au aI ak (aX aa0 hr (ag (af 0) (ag (af 1) (ag ak ah))))) ah)) (λ_ _ _ _ _=>⟨(aw 0 (show KO (["_law_k","_law_script","_law_at"]:List Str)by decide+kernel)),de,(aX aay hr (ag (af 1) (ag (au aI (au aI (af 2) ak) (au di ak (af 0))) ah)))⟩)) ah)) (aw 3 aa7.nd));apply ao;exact(aS (hI ah) (aw 4 aa7.nd));apply ao;exact(dE rfl (cz B.b_range (ag (aX aa0 hr (ag (af 0) (ag (au aI (af 1) ak) (ag (au aI (af 2) ak) ah)))) ah)) (aw 5 aa7.nd) (ao (aS (aX aa9 hr (ag (af 0) (ag (au aI (au aI (af 1) ak) (au di ak (af 5))) (ag (af 3) ah)))) (aw 6 aa7.nd)) (ax (aS (au aI (af 4) (au di (hI (ag (af 6) ah)) (vn FE B.b_int lz (ag (fU kg (af 6) dm) ah)))) (aw 4 aa7.nd)))));exact ax (aD (aW (ag (af 3) (ag (vn nR B.b_tuple ef (ag (af 4) ah)) ah))))))
abbrev ig:Stmt:=cu (top 47) 7
abbrev nq:List Str:=["self","step"]
theorem sc_Sketch_back:aA nq ["self"] (aj ig):=fD
theorem m6 (F:lX K "Sketch" "back" "Sketch.back" ig ["self"])(B:Bl mg)(K_Sketch:b7 K mg){C_NoRecord C_NoNumber C_Nothing C_ClockError:Addr}(S:Xs K mg C_NoRecord C_NoNumber C_Nothing C_ClockError):Mm P w K mg base 1 "Sketch" "back" 1 aN:=
 nt F sc_Sketch_back rfl λf c A o s H E hr x=>(cK (rJ (bj (ip (fx hr)) (cp 0 (cw bY B.b_len KU (ag (mx K_Sketch.k K_Sketch.a_past (af 0)) ah))) ak) (c8 (yu (iW S.o_Nothing S.m_Nothing))) tR) (cK (oS 1 sc_Sketch_back.nd (yj 0 K_Sketch.k K_Sketch.a_past)) (cK (my (tM 0 K_Sketch.k K_Sketch.a_ahead (af 1))) (c8 (kA (fH (aF (af 1) ak)))))))
abbrev gV:Stmt:=cu (top 47) 8
abbrev lO:List Str:=["self","step"]
theorem sc_Sketch_forth:aA lO ["self"] (aj gV):=fD
theorem lK (F:lX K "Sketch" "forth" "Sketch.forth" gV ["self"])(K_Sketch:b7 K mg){C_NoRecord C_NoNumber C_Nothing C_ClockError:Addr}(S:Xs K mg C_NoRecord C_NoNumber C_Nothing C_ClockError):Mm P w K mg base 1 "Sketch" "forth" 1 bV:=
 nt F sc_Sketch_forth rfl λf c A o s H E hr x=>(cK (rJ (tN 0 (bj (ip (fx hr)) (mx K_Sketch.k K_Sketch.a_ahead (af 0)) (hI ah))) (c8 (yu (iW S.o_Nothing S.m_Nothing))) tR) (cK (oS 1 sc_Sketch_forth.nd (yj 0 K_Sketch.k K_Sketch.a_ahead)) (cK (my (tM 0 K_Sketch.k K_Sketch.a_past (af 1))) (c8 (kA (fH (aF (af 1) ak)))))))
abbrev pZ:Stmt:=top 56
abbrev uB:List Str:=["_law_script","_law_sketch","_law_rows","_law_k","_law_many","_law_words","_law_back","_law_at"]
theorem aah:aA uB ["_law_script"] (aj pZ):=fD
theorem EH {f:Addr}{fd:Ki}(aaR:Fn K mg "law" pZ ["_law_script"] f fd)(c_Sketch___init__:Mm P w K mg base 8 "Sketch" "__init__" 2 cL)(c_Sketch_record:Ml P w K mg base 1 "Sketch" "record" aq)(c_Sketch_counts:Ml P w K mg base 1 "Sketch" "counts" aB)(aa0:Cl P w K mg base 2 "_law_drawn" 3 ay)(aan:Ce P w K mg base 14 "_law_step" 3 2 bM)(aat:Cl P w K mg base 4 "_law_record" 3 ee)(c_Sketch_back:Mm P w K mg base 1 "Sketch" "back" 1 aN)(c_Sketch_forth:Mm P w K mg base 1 "Sketch" "forth" 1 bV)(B:Bl mg)(K_Sketch:b7 K mg):AX P w K mg base 15 f fd ["_law_script"] 1 m_law:=
 pW aaR.fn aah rfl λc A o s H E hr x=>(by(apply ao;exact(yo 1 aah.nd K_Sketch.k c_Sketch___init__ hr (ag (aX aat hr (ag (af 0) (ag ak (ag ak ah)))) ah));apply ao;exact(gf 2 aah.nd (ag (cp 1 (bW K_Sketch.k c_Sketch_record hr (af 1))) ah));apply ao;exact(dE rfl (cz B.b_range (ag (au aI ak (aX aa0 hr (ag (af 0) (ag ak (ag ak ah))))) ah)) (aw 3 aah.nd) (ao (vk (yk aan hr (jX (af 0) (jX (au aI ak (au di ak (af 3))) (vo 1))))) (ax (cJ (bj (ip (fx hr)) (aF (cp 1 (bW K_Sketch.k c_Sketch_counts hr (af 1))) ak) (cp 2 (cw bY B.b_len KU (ag (af 2) ah)))) (ax (l6 2 (cp 1 (bW K_Sketch.k c_Sketch_record hr (af 1))))) bu))));apply ao;exact(aS (au dq (cp 2 (cw bY B.b_len KU (ag (af 2) ah))) ak) (aw 4 aah.nd));apply ao;exact(cJ (bj (gW (fx hr)) (cp 1 (bW K_Sketch.k c_Sketch_counts hr (af 1))) (aW (ag (af 4) (ag ak ah)))) (ax (aD fK)) bu);apply ao;exact(gf 5 aah.nd ah);apply ao;exact(dE rfl (tO B.b_range (ag (au dq (af 4) ak) (ag (jz ak) (ag (jz ak) ah)))) (aw 3 aah.nd) (ao (yp 5 (jU 1 K_Sketch.k c_Sketch_back hr)) (ax (cJ (rF (pT (bj (gW (fx hr)) (cp 1 (bW K_Sketch.k c_Sketch_record hr (af 1))) (cp 2 (aF (af 2) (af 3)))) (l5 (bj (gW (fx hr)) (cp 1 (bW K_Sketch.k c_Sketch_counts hr (af 1))) (aW (ag (af 3) (ag (au dq (af 4) (af 3)) ah))))))) (ax (aD fK)) bu))));apply ao;exact(cJ (tN 5 (bj (gW (fx hr)) (jj (N':=["_law_word"]) (src:=[none]) rfl (LcScope.by (N:=uB) (names:=(aj pZ).names) rfl rfl rfl (by decide+kernel)) (fJ (af 5)) (λ_ _ _ _ _=>⟨(aw 0 (show KO (["_law_word"]:List Str)by decide+kernel)),(yq (bj (se (Cj hr)) (af 0) (aW (ag gv (ag gv (ag gv ah)))))),(af 0)⟩)) (hI ah))) (ax (aD fK)) bu);apply ao;exact(dE rfl (tQ B.b_range (ag ak (ag (au aI (af 4) ak) ah))) (aw 3 aah.nd) (ao (pU (CW (yi (pR (gW (fx hr)) (jU 1 K_Sketch.k c_Sketch_forth hr) (cp 5 (aF (af 5) (au dq (af 4) (af 3))))) (vj (rE (bj (gW (fx hr)) (cp 1 (bW K_Sketch.k c_Sketch_record hr (af 1))) (cp 2 (aF (af 2) (af 3)))))))) (ax (aD fK)) bu) (ax (cJ (bj (gW (fx hr)) (cp 1 (bW K_Sketch.k c_Sketch_counts hr (af 1))) (aW (ag (af 3) (ag (au dq (af 4) (af 3)) ah)))) (ax (aD fK)) bu))));apply ao;exact(iX 5 (aS (aX aa0 hr (ag (af 0) (ag ak (ag (au aI (af 4) ak) ah)))) (aw 6 aah.nd)));apply ao;exact(pU (pR (gW (fx hr)) (FT 1 1 (N':=["_law_turn","_law_sketch"]) (src:=[none,some 1]) rfl (LcScope.by (N:=uB) (names:=(aj pZ).names) rfl rfl rfl (by decide+kernel)) (cz B.b_range (ag (af 6) ah)) (by decide) (show KO (["_law_turn","_law_sketch"]:List Str)by decide+kernel) (λ_ _ _ _ _=>(jU 1 K_Sketch.k c_Sketch_back hr))) (gi (af 5) gh (gg (af 6)))) (ax (aD fK)) bu);apply ao;exact(cJ (bj (gW (fx hr)) (cp 1 (bW K_Sketch.k c_Sketch_record hr (af 1))) (cp 2 (aF (af 2) (au dq (af 4) (af 6))))) (ax (aD fK)) bu);apply ao;exact(aS (au dq (af 4) (af 6)) (aw 7 aah.nd));apply ao;exact(vk (yk aan hr (jX (af 0) (jX ak (vo 1)))));apply ao;exact(cJ (bj (ip (fx hr)) (cp 1 (bW K_Sketch.k c_Sketch_counts hr (af 1))) (aW (ag (af 7) (ag (af 6) ah)))) (ax (aD (fU (ip (fx hr)) (cp 1 (bW K_Sketch.k c_Sketch_record hr (af 1))) (cp 2 (aF (af 2) (af 7)))))) bu);apply ao;exact(pU (CW (yi (rE (bj (gW (fx hr)) (cp 1 (bW K_Sketch.k c_Sketch_counts hr (af 1))) (aW (ag (au aI (af 7) ak) (ag ak ah))))) (vj (pR (se (Cj hr)) (jU 1 K_Sketch.k c_Sketch_back hr) (aW (ag gv (ag gv (ag gv ah)))))))) (ax (aD fK)) bu);exact ax (aD (dn (fU (ip (fx hr)) (cp 1 (bW K_Sketch.k c_Sketch_record hr (af 1))) (cp 2 (aF (af 2) (af 7)))) (dF (fU (ip (fx hr)) (cp 1 (bW K_Sketch.k c_Sketch_counts hr (af 1))) (aW (ag (af 7) (ag ak ah)))))))))
end
@[elab_as_elim] theorem dX {α:Type} {p:List α->Prop} (h:∀a0,p [a0]):∀us:List α,us.length=1->p us
 | [a0],_=>h a0
@[elab_as_elim] theorem eJ {α:Type} {p:List α->Prop} (h:∀a0 a1,p [a0,a1]):∀us:List α,us.length=2->p us
 | [a0,a1],_=>h a0 a1
@[elab_as_elim] theorem iC {α:Type} {p:List α->Prop} (h:∀a0 a1 a2,p [a0,a1,a2]):∀us:List α,us.length=3->p us
 | [a0,a1,a2],_=>h a0 a1 a2
def AE:AN:=⟨([("is_long",15),("is_whole",13),("is_within",14),("is_pace",18),("rises",16),("are_readings",17),("is_clock",19),("are_clocks",20),("is_event",21),("is_delay",22),("is_letter",23),("are_letters",24),("is_record",25),("need_record",26),("_law_cell",49)]:List (Str×Nat))++([("_law_drawn",50),("_law_events",53),("_law_letter",52),("events",28),("is_better",41),("settle",40),("greatest_world",43),("bounds_of_clock",36),("bounds_of_letter",37),("bounds",38),("world",44),("has_world",45),("need_number",27),("without_letter",32),("if_record",30)]:List (Str×Nat))++([("with_clock",33),("with_reading",34),("with_letter",31),("_law_step",55),("_law_clock",51),("_law_record",54),("law",56)]:List (Str×Nat)),(["all","bool","dict","enumerate","int","isinstance","len","range","tuple"]:List Str),[("MOST_CLOCKS",4),("MOST_LETTERS",8),("MOST_READINGS",4),("LAST_READING",99),("SLOWEST",9),("LONGEST",999)],["ClockError","NoRecord","NoNumber","Nothing"]⟩
def asks:tL:=⟨AE,[⟨"Sketch",47,["past","ahead"],[("__init__","Sketch.__init__",0),("record","Sketch.record",1),("counts","Sketch.counts",9),("go_on","Sketch.go_on",2),("cut","Sketch.cut",5),("read","Sketch.read",4),("write","Sketch.write",3),("back","Sketch.back",7),("forth","Sketch.forth",8)]⟩]⟩
theorem all_ok {l:PySem.W.OpenLaw}{w:Kn}{K:Jh}{h:Heap}{mg:Str->Option Ji}{fa:Addr}(X:K.In h)(e0:zh asks K=yA asks top)(G:h.Ns JV mg)(hfa:mg "law" =some (.ref fa)) :
  ∃fd:Ki,(∀(s:Jl) (v:Ji),NW s fd ⟨[v],[]⟩ [("_law_script",v)])/\∀base:Heap,K.In base->base.Ns JV mg->nZ l.prog w K mg base CX0 15 fa fd ["_law_script"] (spP K 1 m_law):=by
 have e:uz AE K=tU AE top:=congrArg (·.1) e0
 obtain⟨kc0,ka0,km0⟩:=Hq (A:=⟨"Sketch",47,["past","ahead"],[("__init__","Sketch.__init__",0),("record","Sketch.record",1),("counts","Sketch.counts",9),("go_on","Sketch.go_on",2),("cut","Sketch.cut",5),("read","Sketch.read",4),("write","Sketch.write",3),("back","Sketch.back",7),("forth","Sketch.forth",8)]⟩) X G (kN 0 (congrArg (·.2) e0) rfl)
 have K_Sketch:b7 K mg:=⟨kc0,ka0 _ (by decide),ka0 _ (by decide)⟩
 have B:Bl mg:=⟨gF 0 X G e rfl,gF 1 X G e rfl,gF 2 X G e rfl,gF 3 X G e rfl,gF 4 X G e rfl,gF 5 X G e rfl,gF 6 X G e rfl,gF 7 X G e rfl,gF 8 X G e rfl⟩
 have C:Cs mg:=⟨pv 0 X G e rfl,pv 1 X G e rfl,pv 2 X G e rfl,pv 3 X G e rfl,pv 4 X G e rfl,pv 5 X G e rfl⟩;obtain⟨C_ClockError,ls,xD,xl,nd⟩:=EI (Ho e);obtain⟨C_NoRecord,ls0,x_NoRecord,rfl,xl0⟩:=kY xl;obtain⟨C_NoNumber,ls1,x_NoNumber,rfl,xl1⟩:=kY xl0;obtain⟨C_Nothing,ls2,x_Nothing,rfl,xl2⟩:=kY xl1;cases AG xl2
 have S:Xs K mg C_NoRecord C_NoNumber C_Nothing C_ClockError:=⟨Ng X G (jH x_NoRecord).1,Ng X G (jH x_NoNumber).1,Ng X G (jH x_Nothing).1,Ng X G (jH xD).1,ox1 x_NoRecord xD,ox1 x_NoNumber xD,ox1 x_Nothing xD,ox0 xD,nd⟩;obtain⟨fd36,aaR,bnd⟩:=Hk (n:="law") (i:=56) (x:="_law_script") 36 X G e rfl hfa λ_ _ _ _ _ _ _=>rfl
 refine⟨fd36,bnd,λbase _ _=> ?_⟩
 have aa3:=uw l.prog w base (cO 0 X G e rfl λ_ _ _ _ _ _ us hl=>iC (λ_ _ _=>rfl) us hl) B
 have aaG:=sf l.prog w base (cO 1 X G e rfl λ_ _ _ _ _ _ us hl=>dX (λ_=>rfl) us hl) B
 have aa2:=qw l.prog w base (cO 2 X G e rfl λ_ _ _ _ _ _ us hl=>iC (λ_ _ _=>rfl) us hl) aaG
 have aaK:=uv l.prog w base (cO 3 X G e rfl λ_ _ _ _ _ _ us hl=>eJ (λ_ _=>rfl) us hl) aa2 C
 have aaP:=zg l.prog w base (cO 4 X G e rfl λ_ _ _ _ _ _ us hl=>dX (λ_=>rfl) us hl) B
 have aal:=lH l.prog w base (cO 5 X G e rfl λ_ _ _ _ _ _ us hl=>dX (λ_=>rfl) us hl) aa3 aaP aa2 B C
 have aaH:=si l.prog w base (cO 6 X G e rfl λ_ _ _ _ _ _ us hl=>dX (λ_=>rfl) us hl) aa3 aaK aal
 have aaw:=oC l.prog w base (cO 7 X G e rfl λ_ _ _ _ _ _ us hl=>dX (λ_=>rfl) us hl) aa3 aaH B C
 have aav:=sg l.prog w base (cO 8 X G e rfl λ_ _ _ _ _ _ us hl=>eJ (λ_ _=>rfl) us hl) aa2 aa3 B
 have aaI:=sh l.prog w base (cO 9 X G e rfl λ_ _ _ _ _ _ us hl=>eJ (λ_ _=>rfl) us hl) aa2 C
 have aaB:=qy l.prog w base (cO 10 X G e rfl λ_ _ _ _ _ _ us hl=>eJ (λ_ _=>rfl) us hl) aav aa3 aaI
 have aap:=mX l.prog w base (cO 11 X G e rfl λ_ _ _ _ _ _ us hl=>eJ (λ_ _=>rfl) us hl) aa3 aaB B C
 have aaC:=qx l.prog w base (cO 12 X G e rfl λ_ _ _ _ _ _ us hl=>dX (λ_=>rfl) us hl) aa3 aaw aap
 have aa1:=mV l.prog w base (cO 13 X G e rfl λ_ _ _ _ _ _ us hl=>dX (λ_=>rfl) us hl) aaC S
 have c_Sketch___init__:=jG l.prog w base (gG 0 km0 rfl λ_ _ _ _ _ _ us hl=>eJ (λ_ _=>rfl) us hl) aa1 K_Sketch
 have c_Sketch_record:=kE l.prog w base (gG 1 km0 rfl λ_ _ _ _ _ _ us hl=>dX (λ_=>rfl) us hl) K_Sketch
 have c_Sketch_counts:=kF l.prog w base (gG 2 km0 rfl λ_ _ _ _ _ _ us hl=>dX (λ_=>rfl) us hl) B K_Sketch
 have aaD:=qE l.prog w base (cO 14 X G e rfl λ_ _ _ _ _ _ us hl=>eJ (λ_ _=>rfl) us hl) B
 have aa0:=oE l.prog w base (cO 15 X G e rfl λ_ _ _ _ _ _ us hl=>iC (λ_ _ _=>rfl) us hl) aaD
 have aar:=m4 l.prog w base (cO 16 X G e rfl λ_ _ _ _ _ _ us hl=>dX (λ_=>rfl) us hl) B
 have aa9:=mZ l.prog w base (cO 17 X G e rfl λ_ _ _ _ _ _ us hl=>iC (λ_ _ _=>rfl) us hl) aar aa0 B
 have aaM:=xC l.prog w base (cO 18 X G e rfl λ_ _ _ _ _ _ us hl=>dX (λ_=>rfl) us hl) aa1 B
 have aaE:=qA l.prog w base (cO 19 X G e rfl λ_ _ _ _ _ _ us hl=>iC (λ_ _ _=>rfl) us hl)
 have aaN:=xA l.prog w base (cO 20 X G e rfl λ_ _ _ _ _ _ us hl=>eJ (λ_ _=>rfl) us hl) aaE B
 have aai:=ki l.prog w base (cO 21 X G e rfl λ_ _ _ _ _ _ us hl=>eJ (λ_ _=>rfl) us hl) aaM aaN B
 have aag:=jF l.prog w base (cO 22 X G e rfl λ_ _ _ _ _ _ us hl=>eJ (λ_ _=>rfl) us hl) B
 have aad:=jg l.prog w base (cO 23 X G e rfl λ_ _ _ _ _ _ us hl=>dX (λ_=>rfl) us hl)
 have aaO:=xE l.prog w base (cO 24 X G e rfl λ_ _ _ _ _ _ us hl=>dX (λ_=>rfl) us hl) aa1 aag aad B
 have aaQ:=ze l.prog w base (cO 25 X G e rfl λ_ _ _ _ _ _ us hl=>dX (λ_=>rfl) us hl) aai aaO
 have aaF:=qC l.prog w base (cO 26 X G e rfl λ_ _ _ _ _ _ us hl=>dX (λ_=>rfl) us hl) aaQ
 have c_Sketch_go_on:=lJ l.prog w base (gG 3 km0 rfl λ_ _ _ _ _ _ us hl=>iC (λ_ _ _=>rfl) us hl) aaF K_Sketch
 have aa8:=mW l.prog w base (cO 27 X G e rfl λ_ _ _ _ _ _ us hl=>eJ (λ_ _=>rfl) us hl) aa2 S
 have aaj:=kh l.prog w base (cO 28 X G e rfl λ_ _ _ _ _ _ us hl=>eJ (λ_ _=>rfl) us hl) aa1 aa8 B
 have c_Sketch_cut:=oG l.prog w base (gG 4 km0 rfl λ_ _ _ _ _ _ us hl=>eJ (λ_ _=>rfl) us hl) c_Sketch_go_on aaj c_Sketch_record K_Sketch
 have aac:=qB l.prog w base (cO 29 X G e rfl λ_ _ _ _ _ _ us hl=>dX (λ_=>rfl) us hl) aa1
 have aax:=oB l.prog w base (cO 30 X G e rfl λ_ _ _ _ _ _ us hl=>iC (λ_ _ _=>rfl) us hl) aac
 have aam:=lG l.prog w base (cO 31 X G e rfl λ_ _ _ _ _ _ us hl=>iC (λ_ _ _=>rfl) us hl) aa1 aa8 aax B
 have c_Sketch_read:=m5 l.prog w base (gG 5 km0 rfl λ_ _ _ _ _ _ us hl=>iC (λ_ _ _=>rfl) us hl) c_Sketch_go_on aam c_Sketch_record K_Sketch
 have aas:=mU l.prog w base (cO 32 X G e rfl λ_ _ _ _ _ _ us hl=>eJ (λ_ _=>rfl) us hl) aa1 aac
 have c_Sketch_write:=lI l.prog w base (gG 6 km0 rfl λ_ _ _ _ _ _ us hl=>eJ (λ_ _=>rfl) us hl) c_Sketch_go_on aas c_Sketch_record K_Sketch
 have aan:=qD l.prog w base (cO 33 X G e rfl λ_ _ _ _ _ _ us hl=>iC (λ_ _ _=>rfl) us hl) c_Sketch_record aa0 aa9 c_Sketch_cut c_Sketch_read c_Sketch_write B K_Sketch S
 have aay:=oF l.prog w base (cO 34 X G e rfl λ_ _ _ _ _ _ us hl=>eJ (λ_ _=>rfl) us hl) aa0 B
 have aat:=mY l.prog w base (cO 35 X G e rfl λ_ _ _ _ _ _ us hl=>iC (λ_ _ _=>rfl) us hl) aa0 aa9 aay B
 have c_Sketch_back:=m6 l.prog w base (gG 7 km0 rfl λ_ _ _ _ _ _ us hl=>dX (λ_=>rfl) us hl) B K_Sketch S
 have c_Sketch_forth:=lK l.prog w base (gG 8 km0 rfl λ_ _ _ _ _ _ us hl=>dX (λ_=>rfl) us hl) K_Sketch S
 exact(EH l.prog w base aaR c_Sketch___init__ c_Sketch_record c_Sketch_counts aa0 aan aat c_Sketch_back c_Sketch_forth B K_Sketch).h
def vw:JK:=PySem.W.view Kf [56]
def lse:List Str:=(["_wall","ClockError","NoRecord","NoNumber","Nothing","MOST_CLOCKS","MOST_LETTERS","MOST_READINGS","LAST_READING","SLOWEST","LONGEST","is_whole","is_within","is_long","rises","are_readings","is_pace","is_clock","are_clocks","is_event"]:List Str)++(["is_delay","is_letter","are_letters","is_record","need_record","need_number","events","if_record","with_letter","without_letter","with_clock","with_reading","bounds_of_clock","bounds_of_letter","bounds","settle","is_better","greatest_world","world","has_world"]:List Str)++(["Sketch","_law_cell","_law_drawn","_law_clock","_law_letter","_law_events","_law_record","_law_step"]:List Str)
def lhs (w:Kn)(h:Heap)(d:Drawn)(t:Nat)(os:OsState):=(PySem.W.topFrom treeTable Kf w 9000 ⟨h,⟨[]⟩,d,t,os⟩).map (λs=>(PySem.W.openSeen vw lse (P6 Kf.main.body) (λ_=>true) true s,zh asks (z8 s.heap)))
def rhs (w:Kn):=some (PySem.W.openGood vw lse,yA asks top)
theorem lhs_r:lhs=lhs:=rfl
theorem rhs_r:rhs=rhs:=rfl
end G
namespace Tr
open PySem
abbrev RR (cs ls:List T):T:=.tup [.tup cs,.tup ls]
mutual
def T.pl:T->Bool
 | .scr _=>false
 | .dct _ _=>false
 | .ob _ _ _=>false
 | .tup l=>plS l
 | .lst l=>plS l
 | _=>true
def plS:List T->Bool
 | [] =>true
 | t::l=>t.pl&&plS l
end
theorem eQ:∀{l:List T} {t:T},plS l=true->t∈l->t.pl=true
 | [],_,_,h=>by cases h
 | u::l,t,h,m=>by
  unfold plS at h;rw[Jj]at h;rcases Ju.mp m with rfl | m
  ·exact h.1
  ·exact eQ h.2 m
mutual
theorem T.Iu:∀(t:T),t.pl=true->t.nd=true
 | .non,_=>rfl
 | .bl _,_=>rfl
 | .int _,_=>rfl
 | .str _,_=>rfl
 | .scr _,h=>by cases h
 | .dct _ _,h=>by cases h
 | .ob _ _ _,h=>by cases h
 | .tup l,h=>by unfold T.pl at h;unfold T.nd;exact plS_nds l h
 | .lst l,h=>by unfold T.pl at h;unfold T.nd;exact plS_nds l h
theorem plS_nds:∀(l:List T),plS l=true->nds l=true
 | [],_=>rfl
 | t::l,h=>by
  unfold plS at h;rw[Jj]at h;unfold nds;rw[T.Iu t h.1,plS_nds l h.2];rfl
end
theorem uJ {fe:En->Rs T}{h:T->T}:∀(ts:List T) (Z:En),0<Z.length->(∀t∈ts,fe (Z.set 0 (.va t))= .ok (h t))->da (gN 0) bT fe ts Z= .ok (ts.map h)
 | [],_,_,_=>rfl
 | t::r,Z,hl,hf=>by
  unfold da
  have e1:gN 0 t Z= .ok (Z.set 0 (.va t)):=by unfold gN;rw[if_pos hl]
  have ih:=uJ r (Z.set 0 (.va t)) (by rw[Km];exact hl) (λu hu=>by rw[List.set_set];exact hf u (Jk _ hu))
  simp only[e1,az,bT,if_true,hf t Jq,ih,Jm]
theorem ph {fc:En->Rs Bool}{fe:En->Rs T}{p:T->Bool}{h:T->T}:∀(ts:List T) (Z:En),0<Z.length->(∀t∈ts,fc (Z.set 0 (.va t))= .ok (p t)/\(p t=true->fe (Z.set 0 (.va t))= .ok (h t)))->da (gN 0) fc fe ts Z= .ok ((ts.filter p).map h)
 | [],_,_,_=>rfl
 | t::r,Z,hl,hf=>by
  unfold da
  have e1:gN 0 t Z= .ok (Z.set 0 (.va t)):=by unfold gN;rw[if_pos hl]
  have ih:=ph r (Z.set 0 (.va t)) (by rw[Km];exact hl) (λu hu=>by rw[List.set_set];exact hf u (Jk _ hu))
  obtain⟨h1,h2⟩:=hf t Jq;simp only[e1,az,h1]
  cases q:p t with
  | true=>simp only[if_true,h2 q,az,ih,Px,q,Jm]
  | false=>simp only[Oz,if_false,ih,Px,q]
theorem pI (p:T->Bool):∀l:List T,nU (l.map λt=>T.bl (p t))=some (l.map p)
 | [] =>rfl
 | t::l=>by rw[Jm,nU,pI p l];rfl
theorem all_map (p:T->Bool)(l:List T):oP [.lst (l.map λt=>T.bl (p t))] = .ok (.bl (l.all p)):=by
 simp only[oP,pI,List.all_map]
 rfl
theorem jS {α:Type}{l:List α}{k:Nat}{t:α}(h:l[k]? =some t):L2.atI l (k:Int)=some t:=by
 have hk:k<l.length:=(Jt.mp h).1
 unfold L2.atI L2.ixN;rw[if_pos (by omega),if_pos (by omega),KL]
 exact h
theorem aE {n k:Nat}(h:n<=k)(hk:k<=1000:=by decide):n<=sizeLine:=by unfold sizeLine;omega
section
variable {f fa fb fc:En->Rs T}{fs:En->Rs (List T)}{b c:En->Rs Bool}{F G:En->Rs Fl}{Z Z' Z1 Z2:En}{t u r:T}{ts l m:List T}
theorem EX {i:Nat}(h:Z[i]? =some (.va t)):vr i Z= .ok t:=by unfold vr;rw[h]
theorem aK {g:T->T->Rs T}{x:Rs T}(ha:fa Z= .ok t)(hb:fb Z= .ok u)(hg:g t u=x):o2 g fa fb Z=x:=by unfold o2;rw[ha,hb];exact hg
theorem Ca {g:T->Rs T}{x:Rs T}(ha:fa Z= .ok t)(hg:g t=x):o1 g fa Z=x:=by unfold o1;rw[ha];exact hg
theorem Hi {g:T->T->Rs T}{x:Rs T}{ks vs:List T}(ha:fa Z= .ok (.dct ks vs))(hb:fb Z= .ok u)(hg:g (.dct ks vs) u=x):oD g fa fb Z=x:=by unfold oD;rw[ha];show(fb Z >>= g (.dct ks vs))=_;rw[hb];exact hg
theorem k_oL {g:T->T->Rs T}{x:Rs T}{ks:List T}(ha:fa Z= .ok (.lst ks))(hb:fb Z= .ok u)(hg:g (.lst ks) u=x):oL g fa fb Z=x:=by unfold oL;rw[ha];show(fb Z >>= g (.lst ks))=_;rw[hb];exact hg
theorem ar (h:f Z= .ok t)(hs:fs Z= .ok ts):ae f fs Z= .ok (t::ts):=by unfold ae;rw[h,hs];rfl
theorem bw {g:List T->Rs T}{x:Rs T}(h:fs Z= .ok ts)(hg:g ts=x):cl g fs Z=x:=by unfold cl;rw[h];exact hg
theorem cZ {k:Bool}(h:f Z= .ok (.bl k)):tb f Z= .ok k:=by unfold tb;rw[h];rfl
theorem wq {k:Bool}(h:b Z= .ok k):dM b Z= .ok (!k):=by unfold dM;rw[h];rfl
theorem Hh (h:b Z= .ok true):oa b c Z= .ok true:=by unfold oa;rw[h];rfl
theorem C9 {x:Rs Bool}(h:b Z= .ok false)(h2:c Z=x):oa b c Z=x:=by unfold oa;rw[h];exact h2
theorem Fe (h:b Z= .ok false):rq b c Z= .ok false:=by unfold rq;rw[h];rfl
theorem zU {x:Rs Bool}(h:b Z= .ok true)(h2:c Z=x):rq b c Z=x:=by unfold rq;rw[h];exact h2
theorem Fd (h:fa Z= .ok (.bl true)):cm fa fb Z=fb Z:=by unfold cm;rw[h];rfl
theorem E6 (h:fa Z= .ok (.bl true)):AR fa fb Z= .ok (.bl true):=by unfold AR;rw[h];rfl
theorem E7 (h:fa Z= .ok (.bl false)):AR fa fb Z=fb Z:=by unfold AR;rw[h];rfl
theorem Hl {p:Bool}(h:b Z= .ok p):FO b fa fb Z=if p then fa Z else fb Z:=by unfold FO;rw[h];rfl
theorem c6 {g:T->En->Rs En}(h:f Z= .ok t)(hg:g t Z= .ok Z'):c9 f g Z= .ok (.nx Z'):=by unfold c9;rw[h];show(match g t Z with | .ok Z'=>Rs.ok (Fl.nx Z') | _=> .bad)=_;rw[hg]
theorem aH (h:F Z= .ok (.nx Z')):aC F G Z=G Z':=by unfold aC;rw[h];rfl
theorem kQ (h:F Z= .ok (.rt t)):aC F G Z= .ok (.rt t):=by unfold aC;rw[h];rfl
theorem zO (h:F Z= .ok (.ct Z')):aC F G Z= .ok (.ct Z'):=by unfold aC;rw[h];rfl
theorem EY {c:Str}(h:F Z= .err c):aC F G Z= .err c:=by unfold aC;rw[h];rfl
theorem jw (h:b Z= .ok true):eO b F G Z=F Z:=by unfold eO;rw[h];rfl
theorem fw (h:b Z= .ok false):eO b F G Z=G Z:=by unfold eO;rw[h];rfl
theorem dA (h:f Z= .ok t):aJ f Z= .ok (.rt t):=by unfold aJ;rw[h];rfl
theorem EZ {c:Str}(h:f Z= .err c):aJ f Z= .err c:=by unfold aJ;rw[h];rfl
theorem sV (h:f Z= .ok t):uh f Z= .ok (.nx Z):=by unfold uh;rw[h];rfl
theorem Hn {c:Str}(h:f Z= .err c):uh f Z= .err c:=by unfold uh;rw[h];rfl
theorem iD {fi:En->Rs (List T)}{g:T->En->Rs En}{x:Fl}(h:fi Z= .ok ts)(h2:br g F ts Z= .ok x):gx fi g F Z= .ok x:=by unfold gx;rw[h];show(match br g F ts Z with | .ok f=>Rs.ok f | _=> .bad)=_;rw[h2]
theorem ft {g:T->En->Rs En}(h:g t Z= .ok Z1)(h2:F Z1= .ok (.nx Z2)):br g F (t::ts) Z=br g F ts Z2:=by rw[br,h];show(F Z1 >>= _)=_;rw[h2];rfl
theorem Cd {g:T->En->Rs En}(h:g t Z= .ok Z1)(h2:F Z1= .ok (.ct Z2)):br g F (t::ts) Z=br g F ts Z2:=by rw[br,h];show(F Z1 >>= _)=_;rw[h2];rfl
theorem Cc {g:T->En->Rs En}(h:g t Z= .ok Z1)(h2:F Z1= .ok (.rt r)):br g F (t::ts) Z= .ok (.rt r):=by rw[br,h];show(F Z1 >>= _)=_;rw[h2];rfl
theorem zM {n:Nat}(h:c Z= .ok false):bz c F (n+1) Z= .ok (.nx Z):=by unfold bz;rw[h]
theorem sT {n:Nat}(h:c Z= .ok true)(h2:F Z= .ok (.nx Z')):bz c F (n+1) Z=bz c F n Z':=by rw[bz,h];simp only[h2]
theorem zL {n:Nat}(h:c Z= .ok true)(h2:F Z= .ok (.rt t)):bz c F (n+1) Z= .ok (.rt t):=by rw[bz,h];simp only[h2]
theorem cy {n m:Nat}(hl:ts.length=n)(h:F (aO m ts)= .ok (.rt t)):val n m F ts= .ok t:=by unfold val;rw[if_pos hl];unfold bp;rw[h];rfl
theorem uL {n m:Nat}{c:Str}(hl:ts.length=n)(h:F (aO m ts)= .err c):val n m F ts= .err c:=by unfold val;rw[if_pos hl];unfold bp;rw[h];rfl
theorem zN {n m:Nat}(hl:ts.length=n)(h:F (aO m ts)= .ok (.nx Z)):val n m F ts= .ok .non:=by unfold val;rw[if_pos hl];unfold bp;rw[h];rfl
theorem xS {fi:En->Rs (List T)}{src:List (Option Nat)}{fe:En->Rs T}{h:T->T}(hi:fi Z= .ok ts)(hs:ts.length<=sizeLine)(hn:0<src.length)(hf:∀t∈ts,fe ((bO src Z).set 0 (.va t))= .ok (h t)) :
  gE fi src (gN 0) bT fe Z= .ok (.lst (ts.map h)):=by
 have e:=uJ (fe:=fe) (h:=h) ts (bO src Z) (by unfold bO;rw[Jo];exact hn) hf
 unfold gE;rw[hi,az,if_pos hs,e]
theorem Hj {fi:En->Rs (List T)}{src:List (Option Nat)}{fc:En->Rs Bool}{fe:En->Rs T}{p:T->Bool}{h:T->T}(hi:fi Z= .ok ts)(hs:ts.length<=sizeLine)(hn:0<src.length)
  (hf:∀t∈ts,fc ((bO src Z).set 0 (.va t))= .ok (p t)/\(p t=true->fe ((bO src Z).set 0 (.va t))= .ok (h t))):gE fi src (gN 0) fc fe Z= .ok (.lst ((ts.filter p).map h)):=by
 have e:=ph (fc:=fc) (fe:=fe) (p:=p) (h:=h) ts (bO src Z) (by unfold bO;rw[Jo];exact hn) hf
 unfold gE;rw[hi,az,if_pos hs,e]
theorem bF (h:fs Z= .ok ts)(hl:ts.length<=sizeLine):aU fs Z= .ok (.tup ts):=by unfold aU;rw[h];show jt ts=_;unfold jt;rw[if_pos hl]
theorem nJ (h:fs Z= .ok ts)(hl:ts.length<=sizeLine):fF fs Z= .ok (.lst ts):=by unfold fF;rw[h];show ju ts=_;unfold ju;rw[if_pos hl]
theorem uM {f:En->Rs (List T)}{i:Nat}(h:f Z= .ok l)(hi:i<Z.length)(hl:l.length<=1000):gp i f Z= .ok (.nx (Z.set i (.ow (.lst l)))):=by
 unfold gp;rw[h,az,if_pos ⟨hi,aE hl (by omega)⟩]
theorem uN {i:Nat}(hi:i<Z.length):gp i ai Z= .ok (.nx (Z.set i (.ow (.lst [])))):=uM rfl hi (Ld _)
theorem wz {i:Nat}(h:f Z= .ok t)(hi:Z[i]? =some (.ow (.lst l)))(hl:l.length<=1000):lF i f Z= .ok (.nx (Z.set i (.ow (.lst (l++ [t]))))):=by
 unfold lF;rw[hi];simp only[h,az];rw[if_pos (by unfold sizeLine;omega)]
theorem zT {i:Nat}(h:f Z= .ok (.lst m))(hi:Z[i]? =some (.ow (.lst l)))(hl:l.length+m.length<=1000):mP i f Z= .ok (.nx (Z.set i (.ow (.lst (l++m))))):=by
 unfold mP;rw[hi];simp only[h,az,Fp];rw[if_pos (by unfold sizeLine;omega)]
theorem wy (h:f Z= .ok (.lst l)):iS f Z= .ok l:=by unfold iS;rw[h];rfl
theorem Hm (h:fs Z= .ok [.lst l]):iE fs Z= .ok (cF 0 l):=by unfold iE;rw[h];rfl
theorem wu {n:Nat}(e:l[n]? =some t):aR (.tup l) (.int (n:Int))= .ok t:=by show(match L2.atI l _ with | some t=>Rs.ok t | none=> .bad)=_;rw[jS e]
theorem E9 {n:Nat}(e:l[n]? =some t):aR (.lst l) (.int (n:Int))= .ok t:=by show(match L2.atI l _ with | some t=>Rs.ok t | none=> .bad)=_;rw[jS e]
theorem qU {n:Nat}(h:fa Z= .ok (.tup l))(h2:fb Z= .ok (.int (n:Int)))(e:l[n]? =some t):o2 aR fa fb Z= .ok t:=aK h h2 (wu e)
theorem zR {n:Nat}(h:fa Z= .ok (.lst l))(h2:fb Z= .ok (.int (n:Int)))(e:l[n]? =some t):o2 aR fa fb Z= .ok t:=aK h h2 (E9 e)
theorem Hg {fe:En->Rs T}{fl fu:En->Rs (Option Int)}{lo hi:Option Int}(h:fe Z= .ok (.tup l))(h1:fl Z= .ok lo)(h2:fu Z= .ok hi):sl fe fl fu Z= .ok (.tup (lU l lo hi)):=by
 unfold sl;rw[h,h1,h2];rfl
theorem C8 {fe:En->Rs T}{fl fu:En->Rs (Option Int)}{lo hi:Option Int}(h:fe Z= .ok (.lst l))(h1:fl Z= .ok lo)(h2:fu Z= .ok hi):sl fe fl fu Z= .ok (.lst (lU l lo hi)):=by
 unfold sl;rw[h,h1,h2];rfl
theorem B9 {i:Int}(h:f Z= .ok (.int i)):pS f Z= .ok (some i):=by unfold pS;rw[h];rfl
theorem tE (l:List T)(n:Nat):lU l none (some (n:Int))=l.take n:=by
 unfold lU;rw[HT.sIx_none,HT.sIx_nat,List.drop_zero,NO,List.take_eq_take_iff];omega
theorem tF (l:List T)(n:Nat):lU l (some (n:Int)) none=l.drop n:=by
 unfold lU;rw[HT.sIx_none,HT.sIx_nat]
 by_cases h:n<=l.length
 ·rw[Nat.min_eq_left h]
  exact List.take_of_length_le (by rw[J6];omega)
 ·rw[Nat.min_eq_right (by omega),L7 (Jw _),L7 (by omega),List.take_nil]
theorem uP {i:Nat}{o:OT}(hi:Z[i]? =some (.ow o))(h:f (disown i Z)= .ok t)(hk:t.nk o.isD=true):ln i f Z= .ok t:=by
 unfold ln;rw[hi];simp only[h,az,hk,if_true]
theorem zQ {i:Nat}{k:Bool}(h:b (disown i Z)= .ok k):zv i b Z= .ok k:=h
theorem Df {i:Nat}{x:Rs Fl}(h:F (disown i Z)=x):mQ i F Z=x:=h
end
theorem mk2 (a b:T):jt [a,b] = .ok (.tup [a,b]):=by unfold jt;rw[if_pos (aE (k:=1000) (by simp only[Jp,MD];omega))]
theorem fM (n:Nat):(rng 0 n).length=n:=by unfold rng;rw[Jo,Lj];omega
section
variable {Z Z':En}{f fa fo:En->Rs T}{fs:En->Rs (List T)}{t u:T}{ts l:List T}{x:En->Rs (T×En)}{c m n a:Str}{ns:List Str}{ls:List (List T)}{i j:Nat}{F G:En->Rs Fx}{o:OT}{g:List Sl->Rs (T×OT)}{d:Str}
theorem Dc {gm:List T->Rs T}{r:Rs T}(h:fo Z= .ok (.ob c ns ts))(hm:ns.contains m=false)(hs:fs Z= .ok l)(hg:gm (.ob c ns ts::l)=r):fm c m gm fo fs Z=r:=by
 unfold fm;rw[h];show(if _ then _ else _)=_;rw[if_pos ⟨rfl,hm⟩,hs];exact hg
theorem sU (h:fa Z= .ok (.ob c ns ts))(hg:iI a ns ts=some t):o1 (lS c a) fa Z= .ok t:=Ca h (by show(if _ then _ else _)=_;rw[if_pos rfl,hg])
theorem sR (h:f Z= .ok t):xP f Z= .ok (t,Z):=by unfold xP;rw[h];rfl
theorem uK (hi:Z[i]? =some (.ow (.ob c ns ls)))(hf:iI a ns ls=some l)(h:fa Z= .ok t)(hl:l.length<=1000):rK i c a fa Z= .ok (.non,Z.set i (.ow (.ob c ns (g8 a (l++ [t]) ns ls)))):=by
 unfold rK;rw[hi];show(if _ then _ else _)=_;rw[if_pos rfl,hf];show(fa Z >>= _)=_;rw[h];show(if _ then _ else _)=_;rw[if_pos (by unfold sizeLine;omega)]
theorem zH (hi:Z[i]? =some (.ow (.ob c ns ls)))(hf:iI a ns ls=some (l++ [t])):tT i c a Z= .ok (t,Z.set i (.ow (.ob c ns (g8 a l ns ls)))):=by
 unfold tT;rw[hi];show(if _ then _ else _)=_;rw[if_pos rfl,hf];simp
theorem zG {r:Rs (T×OT)}(h:r= .ok (t,o)):yw i Z r= .ok (t,Z.set i (.ow o)):=by rw[h];rfl
theorem fQ (hi:Z[i]? =some (.ow (.ob c ns ls)))(hm:ns.contains m=false)(hs:fs Z= .ok ts)(h:g (.ow (.ob c ns ls)::ts.map Sl.va)= .ok (t,o)):bq i c m g fs Z= .ok (t,Z.set i (.ow o)):=by
 unfold bq;rw[hi];show(if _ then _ else _)=_;rw[if_pos ⟨rfl,hm⟩,hs];exact zG h
theorem sS (hi:Z[i]? =some (.ow (.ob c ns ls)))(hm:ns.contains m=false)(hs:fs Z= .ok ts)(h:g (.ow (.ob c ns ls)::ts.map Sl.va)= .err d):bq i c m g fs Z= .err d:=by
 unfold bq;rw[hi];show(if _ then _ else _)=_;rw[if_pos ⟨rfl,hm⟩,hs];show yw i Z _=_;rw[h];rfl
theorem zJ (hi:Z[i]? =some (.ow (.ob c ns ls)))(hm:ns.contains m=false)(hs:fs Z= .err d):bq i c m g fs Z= .err d:=by
 unfold bq;rw[hi];show(if _ then _ else _)=_;rw[if_pos ⟨rfl,hm⟩,hs];rfl
theorem zK (hi:Z[i]? =some (.ow o))(hs:fs Z= .ok ts){o':OT}(h:g (ts.map Sl.va++ [.ow o])= .ok (t,o')):oj i g fs Z= .ok (t,Z.set i (.ow o')):=by
 unfold oj;rw[hi];show(fs Z >>= _)=_;rw[hs];exact zG h
theorem dO {k:Fx}(h:F Z= .ok (.nx Z'))(h2:G Z'= .ok k):gB F G Z= .ok k:=by unfold gB;rw[h];show vY (G Z')=_;rw[h2];rfl
theorem nI (h:x Z= .ok (t,Z')):sO x Z= .ok (.nx Z'):=by unfold sO;rw[h];rfl
theorem zP (h:x Z= .err d):sO x Z= .err d:=by unfold sO;rw[h];rfl
theorem qT (h:x Z= .ok (t,Z')):jM x Z= .ok (.rt t Z'):=by unfold jM;rw[h];rfl
theorem Cb (h:x Z= .err d):jM x Z= .err d:=by unfold jM;rw[h];rfl
theorem pq (h:x Z= .ok (t,Z'))(hl:i<Z'.length):zu i x Z= .ok (.nx (Z'.set i (.va t))):=by unfold zu;rw[h];show(if _ then _ else _)=_;rw[if_pos hl]
theorem eK {b:En->Rs Bool}{k:Bool}(h:b Z= .ok k):xM b F G Z=if k then F Z else G Z:=by unfold xM;rw[h];rfl
theorem uO (hi:Z[i]? =some (.ow (.ob c ns ls)))(hs:fs Z= .ok l)(hl:l.length<=1000)(hn:ns.length<1000):sM i c a fs Z= .ok (.nx (Z.set i (.ow (if ns.contains a then .ob c ns (g8 a l ns ls)else .ob c (ns++ [a]) (ls++ [l]))))):=by
 unfold sM;rw[hi];show(fs Z >>= _)=_;rw[hs];show(if _ then _ else _)=_;rw[if_pos ⟨rfl,by unfold sizeLine;omega,hn⟩]
theorem qS {h:Str->Rs T}{k:Fx}(e:F Z= .ok k):nu F h Z= .ok k:=by unfold nu;rw[e]
theorem wt {h:Str->Rs T}(e:F Z= .err d)(e2:h d= .ok t):nu F h Z= .ok (.rt t Z):=by unfold nu;rw[e];simp only[e2]
theorem jN {sls:List Sl}{N M:Nat}(hl:sls.length=N)(h:F (dY M sls)= .ok (.rt t Z))(hj:Z[j]? =some (.ow o)):fV N j M F sls= .ok (t,o):=by unfold fV;rw[if_pos hl,h];show oA j (.rt t Z)=_;unfold oA;simp only[hj]
theorem wm {sls:List Sl}{N M:Nat}(hl:sls.length=N)(h:F (dY M sls)= .ok (.nx Z))(hj:Z[j]? =some (.ow o)):fV N j M F sls= .ok (.non,o):=by unfold fV;rw[if_pos hl,h];show oA j (.nx Z)=_;unfold oA;simp only[hj]
theorem wo {sls:List Sl}{N M:Nat}(hl:sls.length=N)(h:F (dY M sls)= .err d):fV N j M F sls= .err d:=by unfold fV;rw[if_pos hl,h];rfl
theorem De (h:x Z= .ok (t,Z')):ou x Z= .ok (.nx Z'):=by unfold ou;rw[h];rfl
theorem Fc {l0:List T}(h0:Z[i]? =some (.ow (.lst l0)))(h:x Z= .ok (t,Z'))(hi:Z'[i]? =some (.ow (.lst l)))(hl:l.length<=1000):lh i x Z= .ok (.nx (Z'.set i (.ow (.lst (l++ [t]))))):=by
 unfold lh;rw[h0];show(vY (x Z) >>= _)=_;rw[h];show(match Z'[i]? with | some (.ow (.lst l))=>_ | _=>_)=_;rw[hi];show(if _ then _ else _)=_;rw[if_pos (by unfold sizeLine;omega)]
theorem E8 (hs:fs Z= .ok ts)(h:g (.ow (.ob c [] [])::ts.map Sl.va)= .ok (.non,o))(hl:i<Z.length):o6 i c g fs Z= .ok (.nx (Z.set i (.ow o))):=by
 unfold o6;rw[hs];show(vY (g _) >>= _)=_;rw[h];show(if _ then _ else _)=_;rw[if_pos hl]
theorem zI {r:T->T->Rs T}{v:T}(h:x Z= .ok (t,Z'))(h2:f Z'= .ok u)(hr:r t u= .ok v):vq r x f Z= .ok (v,Z'):=by unfold vq;rw[h];show(vY (f Z' >>= _) >>= _)=_;rw[h2];show(vY (r t u) >>= _)=_;rw[hr];rfl
theorem zF {b:Bool}(h:x Z= .ok (.bl b,Z')):ye x Z= .ok (b,Z'):=by unfold ye;rw[h];rfl
theorem C7 {b:En->Rs Bool}{k:Bool}(h:b Z= .ok k):AO b Z= .ok (k,Z):=by unfold AO;rw[h];rfl
theorem wj {y z:En->Rs (Bool×En)}{p:Bool×En}(h:y Z= .ok (false,Z'))(h2:z Z'= .ok p):oh y z Z= .ok p:=by unfold oh;rw[h];show vY (z Z')=_;rw[h2];rfl
theorem zS {y:En->Rs (Bool×En)}{A B:En->Rs Fl}{b:Bool}(h:y Z= .ok (b,Z')):lE y A B Z=if b then A Z' else B Z':=by unfold lE;rw[h];rfl
theorem Hf {fi:En->Rs (List T)}{src:List (Option Nat)}{o':OT}(hi:Z[i]? =some (.ow o))(hf:fi Z= .ok ts)(hl:ts.length<=1000)(h:dG 0 x ts ((bO src Z).set j (.ow o))= .ok (l,Z'))(hj:Z'[j]? =some (.ow o')):CZ i j fi src x Z= .ok (.lst l,Z.set i (.ow o')):=by
 unfold CZ;rw[hi];show(fi Z >>= _)=_;rw[hf];show(if _ then _ else _)=_;rw[if_pos (by unfold sizeLine;omega),h];show(match Z'[j]? with | some (.ow o)=>_ | _=>_)=_;rw[hj]
end
end Tr
namespace Gr
variable {ν:Type}[DecidableEq ν]
abbrev cN (ν:Type):=List (ν×ν×Int)
inductive Wk (L:cN ν):ν->ν->Int->Prop
 | nil (a:ν):Wk L a a 0
 | step {a b c:ν} {m s:Int}:(a,b,m)∈L->Wk L b c s->Wk L a c (m+s)
theorem Wk.one {L:cN ν}{a b:ν}{m:Int}(h:(a,b,m)∈L):Wk L a b m:=by
 have:=Wk.step h (Wk.nil (L:=L) b)
 rwa [Int.add_zero]at this
theorem Wk.app {L:cN ν}{a b c:ν}{s t:Int}(h:Wk L a b s)(k:Wk L b c t):Wk L a c (s+t):=by
 induction h with
 | nil a=>rwa [Int.zero_add]
 | step e _ ih=>rw[Int.add_assoc];exact .step e (ih k)
def Holds (L:cN ν)(t:ν->Int):Prop:=∀a b m,(a,b,m)∈L->t b - t a<=m
theorem Holds.walk {L:cN ν}{t:ν->Int}(h:Holds L t){a b:ν}{s:Int}(w:Wk L a b s):t b - t a<=s:=by
 induction w with
 | nil a=>omega
 | step e _ ih=>have:=h _ _ _ e;omega
def tI (L:cN ν):Prop:=∀a s,Wk L a a s->0<=s
theorem Holds.IW {L:cN ν}{t:ν->Int}(h:Holds L t):tI L:=λa s w=>by have:=h.walk w;omega
def Ch (L:cN ν):ν->List Nat->ν->Prop
 | a,[],b=>a=b
 | a,k::r,b=> ∃c m,L[k]? =some (a,c,m)/\Ch L c r b
def most (L:cN ν)(k:Nat):Int:=match L[k]? with
 | some x=>x.2.2
 | none=>0
def dW (L:cN ν):List Nat->Int
 | [] =>0
 | k::r=>most L k+dW L r
theorem ku (L:cN ν):∀(p q:List Nat),dW L (p++q)=dW L p+dW L q
 | [],q=>by simp[dW]
 | k::p,q=>by rw[Pw,dW,dW,ku L p q];omega
theorem Ch.wk {L:cN ν}:∀{ks:List Nat} {a b:ν},Ch L a ks b->Wk L a b (dW L ks)
 | [],a,b,h=>by cases h;exact .nil a
 | k::r,a,b,⟨c,m,e,h⟩=>by
  have:dW L (k::r)=m+dW L r:=by rw[dW,most,e]
  rw[this];exact .step (JT e) h.wk
theorem Ch.app {L:cN ν}:∀{p q:List Nat} {a b c:ν},Ch L a p b->Ch L b q c->Ch L a (p++q) c
 | [],q,a,b,c,h,k=>by cases h;exact k
 | x::p,q,a,b,c,⟨d,m,e,h⟩,k=>⟨d,m,e,Ch.app h k⟩
theorem Ch.lt {L:cN ν}:∀{ks:List Nat} {a b:ν},Ch L a ks b->∀k∈ks,k<L.length
 | [],_,_,_,k,hk=>by simp at hk
 | x::r,a,b,⟨c,m,e,h⟩,k,hk=>by
  rcases Ju.mp hk with rfl | hk
  ·exact(Jt.mp e).1
  ·exact h.lt k hk
theorem Ch.snoc {L:cN ν}{p:List Nat}{k:Nat}{a b c:ν}{m:Int}(h:Ch L a p b)(e:L[k]? =some (b,c,m)):Ch L a (p++ [k]) c:=h.app ⟨c,m,e,rfl⟩
def src (L:cN ν)(k:Nat):Option ν:=(L[k]?).map (·.1)
abbrev bZ (ν:Type):=ν->Option (Int×List Nat)
def put (b:bZ ν)(v:ν)(x:Int×List Nat):bZ ν:=λu=>if u=v then some x else b u
theorem dJ {b:bZ ν}{v:ν}{x:Int×List Nat}:put b v x v=some x:=by unfold put;rw[if_pos rfl]
theorem jD {b:bZ ν}{u v:ν}{x:Int×List Nat}(h:u≠v):put b v x u=b u:=by unfold put;rw[if_neg h]
def dU (L:cN ν)(ks:List Nat):List ν:=ks.filterMap (src L)
def dP (b:bZ ν)(v:ν)(d:Int):Bool:=match b v with
 | none=>true
 | some x=>decide (d<x.1)
def gu (L:cN ν)(b:bZ ν)(k:Nat)(x:ν×ν×Int):Sum (Option (bZ ν)) (List Nat):=match b x.1 with
 | none=> .inl none
 | some (d,w)=>if dP b x.2.1 (d+x.2.2)=true then
   if x.2.1∈dU L (w++ [k])then .inr ((w++ [k]).drop ((dU L (w++ [k])).idxOf x.2.1))else .inl (some (put b x.2.1 (d+x.2.2,w++ [k])))
  else .inl none
def gQ (L:cN ν):Nat->cN ν->bZ ν->Bool->Sum (bZ ν×Bool) (List Nat)
 | _,[],b,mv=> .inl (b,mv)
 | k,x::r,b,mv=>match gu L b k x with
  | .inr q=> .inr q
  | .inl none=>gQ L (k+1) r b mv
  | .inl (some b')=>gQ L (k+1) r b' true
def settle (L:cN ν):Nat->bZ ν->Option (Sum (bZ ν) (List Nat))
 | 0,_=>none
 | n+1,b=>match gQ L 0 L b false with
  | .inr q=>some (.inr q)
  | .inl (b',true)=>settle L n b'
  | .inl (b',false)=>some (.inl b')
theorem qr (L:cN ν)(p q:List Nat):dU L (p++q)=dU L p++dU L q:=by unfold dU;rw[List.filterMap_append]
theorem qo {L:cN ν}{k:Nat}{x:ν×ν×Int}(e:L[k]? =some x):dU L [k] = [x.1]:=by unfold dU src;simp[e]
theorem Ch.Iq {L:cN ν}{k:Nat}{r:List Nat}{a b:ν}(h:Ch L a (k::r) b):dU L (k::r)=a::dU L r:=by
 obtain⟨c,m,e,_⟩:=h;rw[show k::r= [k] ++r from rfl,qr,qo e];rfl
theorem Ch.cut {L:cN ν}{v:ν}:∀{ks:List Nat} {a b:ν},Ch L a ks b->v∈dU L ks->Ch L a (ks.take ((dU L ks).idxOf v)) v/\Ch L v (ks.drop ((dU L ks).idxOf v)) b/\(dU L ks).idxOf v<ks.length
 | [],a,b,_,hv=>by simp[dU]at hv
 | k::r,a,b,h,hv=>by
  rw[h.Iq]at hv ⊢
  have h0:=h;obtain⟨c,m,e,h⟩:=h
  by_cases z:a=v
  ·subst z
   rw[List.idxOf_cons_self];exact⟨rfl,h0,by simp⟩
  ·have hv':v∈dU L r:=by
    rcases Ju.mp hv with q | q
    ·exact absurd q.symm z
    ·exact q
   obtain⟨h1,h2,h3⟩:=h.cut hv'
   have ei:(a::dU L r).idxOf v=(dU L r).idxOf v+1:=by
    rw[PU]
    have:(a == v)=false:=by rw[beq_eq_false_iff_ne];exact z
    rw[this];rfl
   rw[ei];exact⟨⟨c,m,e,h1⟩,h2,by simpa using h3⟩
structure Kept (L:cN ν)(S:List ν)(b:bZ ν):Prop where
 walk:∀v d w,b v=some (d,w)->∃s∈S,Ch L s w v/\dW L w=d/\v∉dU L w/\(dU L w).Nodup/\∀p q u,w=p++q->Ch L s p u->∃d' w',b u=some (d',w')/\d'<=dW L p
 start:∀s∈S,∃d w,b s=some (d,w)/\d<=0
theorem Kept.put {L:cN ν}{S:List ν}{b:bZ ν}(K:Kept L S b){k:Nat}{a c:ν}{m d:Int}{w:List Nat}(e:L[k]? =some (a,c,m))(ha:b a=some (d,w))(hb:dP b c (d+m)=true)(hn:c∉dU L (w++ [k])) :
  Kept L S (put b c (d+m,w++ [k])):=by
 have low:∀u d' w',b u=some (d',w')->∃d'' w'',Gr.put b c (d+m,w++ [k]) u=some (d'',w'')/\d''<=d':=λu d' w' h=>by
  by_cases z:u=c
  ·subst z
   refine⟨_,_,dJ,?_⟩
   unfold dP at hb;rw[h]at hb
   have:=of_decide_eq_true hb;omega
  ·exact⟨d',w',by rw[jD z];exact h,PV _⟩
 obtain⟨s,hs,h1,h2,h3,h4,h5⟩:=K.walk a d w ha
 have hch:Ch L s (w++ [k]) c:=h1.snoc e
 have hcost:dW L (w++ [k])=d+m:=by rw[ku,h2,dW,dW,most,e];simp
 refine⟨λv d' w' h=> ?_,λs' hs'=> ?_⟩
 ·by_cases z:v=c
  ·subst z
   rw[dJ]at h;cases h;refine⟨s,hs,hch,hcost,hn,?_,λp q u hpq hp=> ?_⟩
   ·rw[qr,qo e]
    exact Kw.mpr ⟨h4,by simp,λx hx y hy=>by simp at hy;subst hy;exact λz=>h3 (z▸hx)⟩
   ·by_cases hq:q= []
    ·subst hq
     rw[JZ]at hpq;subst hpq
     have:u=v:=by
      clear low hb hn h5
      have aux:∀{ks:List Nat} {x y z:ν},Ch L x ks y->Ch L x ks z->y=z:=by
       intro ks
       induction ks with
       | nil=>intro x y z h1 h2;cases h1;cases h2;rfl
       | cons k r ih=>
        rintro x y z ⟨c1,m1,e1,r1⟩ ⟨c2,m2,e2,r2⟩
        rw[e1]at e2;cases e2;exact ih r1 r2
      exact aux hp hch
     subst this;exact⟨_,_,dJ,by rw[hcost];exact PV _⟩
    ·have hw:∃q',w=p++q':=by
      refine⟨q.dropLast,?_⟩
      have:=congrArg List.dropLast hpq;rw[List.dropLast_concat,List.dropLast_append_of_ne_nil hq]at this;exact this
     obtain⟨q',hw⟩:=hw;obtain⟨d1,w1,e1,l1⟩:=h5 p q' u hw hp;obtain⟨d2,w2,e2,l2⟩:=low u d1 w1 e1;exact⟨d2,w2,e2,by omega⟩
  ·rw[jD z]at h
   obtain⟨s',hs',g1,g2,g3,g4,g5⟩:=K.walk v d' w' h;refine⟨s',hs',g1,g2,g3,g4,λp q u hpq hp=> ?_⟩
   obtain⟨d1,w1,e1,l1⟩:=g5 p q u hpq hp;obtain⟨d2,w2,e2,l2⟩:=low u d1 w1 e1;exact⟨d2,w2,e2,by omega⟩
 ·obtain⟨d1,w1,e1,l1⟩:=K.start s' hs'
  obtain⟨d2,w2,e2,l2⟩:=low s' d1 w1 e1;exact⟨d2,w2,e2,by omega⟩
def Bar (L:cN ν)(q:List Nat):Prop:=q≠ []/\(∃a,Ch L a q a)/\dW L q<0/\(dU L q).Nodup
theorem Ch.ID {L:cN ν}:∀{ks:List Nat} {a b:ν} (i:Nat),Ch L a ks b->dU L (ks.drop i)=(dU L ks).drop i
 | [],_,_,i,_=>by simp[dU]
 | k::r,a,b,0,_=>rfl
 | k::r,a,b,i+1,h=>by
  have:=h;obtain⟨c,m,e,h'⟩:=this;rw[h.Iq,On,On,h'.ID i]
theorem Kept.round {L:cN ν}{S:List ν}{b:bZ ν}(K:Kept L S b){k:Nat}{a c:ν}{m d:Int}{w:List Nat}(e:L[k]? =some (a,c,m))(ha:b a=some (d,w))(hb:dP b c (d+m)=true)(hn:c∈dU L (w++ [k])) :
  Bar L ((w++ [k]).drop ((dU L (w++ [k])).idxOf c)):=by
 obtain⟨s,hs,h1,h2,h3,h4,h5⟩:=K.walk a d w ha
 have hch:Ch L s (w++ [k]) c:=h1.snoc e
 have hcost:dW L (w++ [k])=d+m:=by rw[ku,h2,dW,dW,most,e];simp
 obtain⟨c1,c2,c3⟩:=hch.cut hn
 generalize hi:(dU L (w++ [k])).idxOf c=i at c1 c2 c3
 refine⟨λz=> ?_,⟨c,c2⟩,?_,?_⟩
 ·have:=congrArg K3 z
  rw[J6]at this
  simp at this c3
  omega
 ·have hsum:dW L ((w++ [k]).take i)+dW L ((w++ [k]).drop i)=d+m:=by rw[<-ku,NQ,hcost]
  have hiw:i<=w.length:=by simp at c3;omega
  have ht:(w++ [k]).take i=w.take i:=by rw[List.take_append_of_le_length hiw]
  rw[ht]at c1 hsum;obtain⟨d1,w1,e1,l1⟩:=h5 (w.take i) (w.drop i) c (NQ i w).symm c1;unfold dP at hb;rw[e1]at hb
  have:=of_decide_eq_true hb;simp only at this;omega
 ·rw[hch.ID,qr,qo e]
  refine(List.drop_sublist _ _).nodup (Kw.mpr ⟨h4,by simp,λx hx y hy=> ?_⟩)
  rw[JG.mp hy];exact λz=>h3 (by have z:x=a:=z;rw[<-z];exact hx)
def size (L:cN ν):Nat:=(L.map λx=>x.2.2.natAbs).sum
theorem jl {f:Nat->Nat}:∀{ks rs:List Nat},ks.Nodup->(∀k∈ks,k∈rs)->(ks.map f).sum<=(rs.map f).sum
 | [],rs,_,_=>by simp
 | k::ks,rs,hn,hs=>by
  have hk:k∈rs:=hs k Jq;rw[JX]at hn
  have hp:=List.perm_cons_erase hk
  have e:(rs.map f).sum=f k+((rs.erase k).map f).sum:=by
   have:=(hp.map f).sum_nat
   rwa [Jm,K0]at this
  rw[e,Jm,K0]
  have:=jl (f:=f) hn.2 (rs:=rs.erase k) λj hj=>by
   have h1:=hs j (Jk _ hj);exact(N8 (λ(z:j=k)=>hn.1 (z▸hj))).mpr h1
  omega
theorem ub (L:cN ν):size L=((J9 L.length).map λk=>(most L k).natAbs).sum:=by
 unfold size
 congr 1
 apply List.ext_getElem
 ·simp
 ·intro i h1 h2
  simp only[Nr,List.getElem_range];unfold most;rw[Jv (by simpa using h1)]
theorem wV (L:cN ν):∀(ks:List Nat),(dW L ks).natAbs<=(ks.map λk=>(most L k).natAbs).sum
 | [] =>by simp[dW]
 | k::r=>by
  have:=wV L r;rw[dW,Jm,K0];omega
theorem Ch.nodup {L:cN ν}:∀{ks:List Nat} {a b:ν},Ch L a ks b->(dU L ks).Nodup->ks.Nodup
 | [],_,_,_,_=>Me
 | k::r,a,b,h,hn=>by
  have h0:=h;rw[h.Iq,JX]at hn;obtain⟨c,m,e,h⟩:=h;rw[JX];refine⟨λhk=>hn.1 ?_,h.nodup hn.2⟩
  unfold dU src;exact MR.mpr ⟨k,hk,by rw[e];rfl⟩
theorem Ch.small {L:cN ν}{ks:List Nat}{a b:ν}(h:Ch L a ks b)(hn:(dU L ks).Nodup):(dW L ks).natAbs<=size L:=by
 rw[ub];exact J2 (wV L ks) (jl (h.nodup hn) λk hk=>KS.mpr (h.lt k hk))
def val (M:Nat)(b:bZ ν)(v:ν):Nat:=match b v with
 | none=>2*M+1
 | some x=>(x.1+M).toNat
def left (M:Nat)(b:bZ ν)(L:cN ν):Nat:=(L.map λx=>val M b x.2.1).sum
theorem wa {M:Nat}{b b':bZ ν}:∀{L:cN ν},(∀x∈L,val M b' x.2.1<=val M b x.2.1)->left M b' L<=left M b L
 | [],_=>by simp[left]
 | x::L,h=>by
  have h1:=h x Jq
  have h2:=wa (L:=L) λy hy=>h y (Jk _ hy)
  unfold left at h2 ⊢;rw[Jm,K0,Jm,K0];omega
theorem v9 {M:Nat}{b b':bZ ν}{x:ν×ν×Int}:∀{L:cN ν},x∈L->(∀x∈L,val M b' x.2.1<=val M b x.2.1)->val M b' x.2.1<val M b x.2.1->left M b' L<left M b L
 | [],hx,_,_=>by simp at hx
 | y::L,hx,h,hl=>by
  have h1:=h y Jq
  have h2:=wa (L:=L) λy hy=>h y (Jk _ hy)
  unfold left at h2 ⊢;rw[Jm,K0,Jm,K0];rcases Ju.mp hx with rfl | hx
  ·omega
  ·have h3:=v9 (L:=L) hx (λy hy=>h y (Jk _ hy)) hl
   unfold left at h3;omega
theorem zx {L:cN ν}{S:List ν}{b:bZ ν}(K:Kept L S b){k:Nat}{a c:ν}{m d:Int}{w:List Nat}(e:L[k]? =some (a,c,m))(ha:b a=some (d,w))(hb:dP b c (d+m)=true)(hn:c∉dU L (w++ [k])) :
  left (size L) (put b c (d+m,w++ [k])) L<left (size L) b L:=by
 have K':=K.put e ha hb hn;obtain⟨s,hs,h1,h2,h3,h4,h5⟩:=K'.walk c (d+m) (w++ [k]) dJ
 have sm:=h1.small h4;rw[h2]at sm
 have lt:val (size L) (put b c (d+m,w++ [k])) c<val (size L) b c:=by
  unfold val dP at*;rw[dJ]
  cases z:b c with
  | none=>simp only;omega
  | some y=>
   rw[z]at hb
   have hb:=of_decide_eq_true hb;simp only;omega
 refine v9 (x:=(a,c,m)) (JT e) (λy _=> ?_) lt
 by_cases z:y.2.1=c
 ·rw[z];exact LQ lt
 ·unfold val;rw[jD z];exact Jw _
def AK (b:bZ ν)(x:ν×ν×Int):Prop:=∀d w,b x.1=some (d,w)->∃d' w',b x.2.1=some (d',w')/\d'<=d+x.2.2
theorem yF {b:bZ ν}{x:ν×ν×Int}(h:∀d w,b x.1=some (d,w)->dP b x.2.1 (d+x.2.2)=false):AK b x:=λd w e=>by
 have:=h d w e;unfold dP at this
 cases z:b x.2.1 with
 | none=>rw[z]at this;cases this
 | some y=>
  rw[z]at this
  have:=of_decide_eq_false this;exact⟨y.1,y.2,rfl,by omega⟩
theorem hV {L:cN ν}{S:List ν}:∀(r:cN ν) (k:Nat) (b:bZ ν) (mv:Bool),L.drop k=r->Kept L S b->match gQ L k r b mv with
  | .inr q=>Bar L q
  | .inl (b',mv')=>Kept L S b'/\(mv'=false->mv=false/\b'=b/\∀x∈r,AK b x)/\left (size L) b' L<=left (size L) b L/\(mv'=true->mv=true\/left (size L) b' L<left (size L) b L)
 | [],k,b,mv,_,K=>⟨K,λh=>⟨h,rfl,λx hx=>by simp at hx⟩,Jw _,λh=> .inl h⟩
 | x::r,k,b,mv,hr,K=>by
  have e:L[k]? =some x:=by
   have:=congrArg (·[0]?) hr
   simpa using this
  have hr':L.drop (k+1)=r:=by
   have:=congrArg (List.drop 1) hr
   simpa [Ob,Ph]using this
  rw[gQ];obtain⟨a,c,m⟩:=x;unfold gu
  cases z:b a with
  | none=>
   simp only[z]
   have ih:=hV r (k+1) b mv hr' K
   revert ih
   generalize gQ L (k+1) r b mv=R
   cases R with
   | inr q=>exact id
   | inl p=>
    obtain⟨b',mv'⟩:=p
    rintro ⟨i1,i2,i3,i4⟩
    refine⟨i1,λh=> ?_,i3,i4⟩
    obtain⟨j1,j2,j3⟩:=i2 h;refine⟨j1,j2,λx hx=> ?_⟩
    rcases Ju.mp hx with rfl | hx
    ·intro d w q;rw[z]at q;cases q
    ·exact j3 x hx
  | some y=>
   obtain⟨d,w⟩:=y;simp only[z]
   by_cases hb:dP b c (d+m)=true
   ·rw[if_pos hb]
    by_cases hn:c∈dU L (w++ [k])
    ·rw[if_pos hn]
     exact K.round e z hb hn
    ·rw[if_neg hn]
     have K':=K.put e z hb hn
     have lt:=zx K e z hb hn
     have ih:=hV r (k+1) (put b c (d+m,w++ [k])) true hr' K'
     revert ih
     simp only
     generalize gQ L (k+1) r (put b c (d+m,w++ [k])) true=R
     cases R with
     | inr q=>exact id
     | inl p=>
      obtain⟨b',mv'⟩:=p
      rintro ⟨i1,i2,i3,i4⟩
      refine⟨i1,λh=> ?_,by omega,λ_=> .inr (by omega)⟩
      obtain⟨j1,_⟩:=i2 h;cases j1
   ·rw[if_neg hb]
    have ih:=hV r (k+1) b mv hr' K
    revert ih
    simp only
    generalize gQ L (k+1) r b mv=R
    cases R with
    | inr q=>exact id
    | inl p=>
     obtain⟨b',mv'⟩:=p
     rintro ⟨i1,i2,i3,i4⟩
     refine⟨i1,λh=> ?_,i3,i4⟩
     obtain⟨j1,j2,j3⟩:=i2 h;refine⟨j1,j2,λx hx=> ?_⟩
     rcases Ju.mp hx with rfl | hx
     ·refine yF λd' w' q=> ?_
      simp only at q;rw[z]at q;cases q
      simpa using hb
     ·exact j3 x hx
structure Settled (L:cN ν)(S:List ν)(b:bZ ν):Prop where
 walk:∀v d w,b v=some (d,w)->∃s∈S,Ch L s w v/\dW L w=d/\v∉dU L w/\(dU L w).Nodup
 least:∀s∈S,∀v t,Wk L s v t->∃d w,b v=some (d,w)/\d<=t
theorem uc {L:cN ν}{S:List ν}{b:bZ ν}(K:Kept L S b)(h:∀x∈L,AK b x):Settled L S b where
 walk:=λv d w e=>by
  obtain⟨s,h1,h2,h3,h4,h5,_⟩:=K.walk v d w e;exact⟨s,h1,h2,h3,h4,h5⟩
 least:=by
  have go:∀{u v:ν} {t:Int},Wk L u v t->∀d w,b u=some (d,w)->∃d' w',b v=some (d',w')/\d'<=d+t:=by
   intro u v t hw
   induction hw with
   | nil a=>exact λd w e=>⟨d,w,e,by omega⟩
   | step e _ ih=>
    intro d w q;obtain⟨d1,w1,e1,l1⟩:=h _ e d w q;obtain⟨d2,w2,e2,l2⟩:=ih d1 w1 e1;exact⟨d2,w2,e2,by simp only at l1;omega⟩
  intro s hs v t hw;obtain⟨d,w,e,l⟩:=K.start s hs;obtain⟨d2,w2,e2,l2⟩:=go hw d w e;exact⟨d2,w2,e2,by omega⟩
theorem oZ {L:cN ν}{S:List ν}:∀(n:Nat) (b:bZ ν),Kept L S b->left (size L) b L<n->∃r,settle L n b=some r/\match r with
  | .inr q=>Bar L q
  | .inl b'=>Settled L S b'
 | 0,b,K,h=>by omega
 | n+1,b,K,h=>by
  have s:=hV (S:=S) L 0 b false rfl K;rw[settle]
  revert s
  generalize gQ L 0 L b false=R
  cases R with
  | inr q=>exact λs=>⟨_,rfl,s⟩
  | inl p=>
   obtain⟨b',mv'⟩:=p
   rintro ⟨i1,i2,i3,i4⟩
   cases mv' with
   | false=>
    obtain⟨_,j2,j3⟩:=i2 rfl;subst j2
    exact⟨_,rfl,uc i1 j3⟩
   | true=>
    rcases i4 rfl with z | z
    ·cases z
    ·exact oZ n b' i1 (by omega)
def start (S:List ν):bZ ν:=λv=>if v∈S then some (0,[])else none
theorem nH (L:cN ν)(S:List ν):Kept L S (start S) where
 walk:=λv d w e=>by
  unfold start at e
  split at e
  ·rename_i h
   cases e;refine⟨v,h,rfl,rfl,by simp[dU],by simp[dU],λp q u hpq hp=> ?_⟩
   obtain⟨rfl,rfl⟩:=List.append_eq_nil_iff.mp hpq.symm;cases hp;exact⟨0,[],by unfold start;rw[if_pos h],by simp[dW]⟩
  ·cases e
 start:=λs hs=>⟨0,[],by unfold start;rw[if_pos hs],PV _⟩
theorem zy (L:cN ν)(S:List ν):left (size L) (start S) L<=L.length*(2*size L+1):=by
 unfold left
 have:∀M:cN ν,(M.map λx=>val (size L) (start S) x.2.1).sum<=M.length*(2*size L+1):=by
  intro M
  induction M with
  | nil=>simp
  | cons x M ih=>
   rw[Jm,K0,Jp,Nat.succ_mul]
   have:val (size L) (start S) x.2.1<=2*size L+1:=by
    unfold val start;split
    ·exact Jw _
    ·rename_i h
     split at h
     ·cases h;simp;omega
     ·cases h
   omega
 exact this L
theorem ud (L:cN ν)(S:List ν){n:Nat}(h:L.length*(2*size L+1)<n):∃r,settle L n (start S)=some r/\match r with
  | .inr q=>Bar L q
  | .inl b'=>Settled L S b':=oZ n (start S) (nH L S) (OH (zy L S) h)
theorem Bar.neg {L:cN ν}{q:List Nat}(h:Bar L q):¬ tI L:=λn=>by
 obtain⟨_,⟨a,ha⟩,hc,_⟩:=h
 have:=n a _ ha.wk;omega
theorem Settled.holds {L:cN ν}{S:List ν}{b:bZ ν}(h:Settled L S b)(hS:∀x∈L,x.1∈S/\x.2.1∈S){t:ν->Int}(ht:∀v∈S,∃w,b v=some (t v,w)):Holds L t:=λa c m hx=>by
 obtain⟨ha,hc⟩:=hS _ hx;obtain⟨w,e⟩:=ht a ha;obtain⟨s,hs,h1,h2,_⟩:=h.walk a _ _ e;obtain⟨d,w',e',l⟩:=h.least s hs c _ (h1.wk.app (.one hx));obtain⟨w2,e2⟩:=ht c hc;rw[e2]at e';cases e';omega
abbrev ve (ν:Type):=ν->ν->Option Int
def Hw (f:ve ν)(a b:ν)(x:Int):ve ν:=λu v=>if u=a/\v=b then some x else f u v
def HD (f:ve ν)(a b:ν)(x:Int):ve ν:=match f a b with
 | none=>Hw f a b x
 | some y=>if x<y then Hw f a b x else f
def Hv (mid one other:ν)(f:ve ν):ve ν:=match f one mid,f mid other with
 | some x,some y=>HD f one other (x+y)
 | _,_=>f
def tab0 (P:List ν):ve ν:=λu v=>if u∈P/\u=v then some 0 else none
def tab1 (P:List ν)(L:cN ν):ve ν:=L.foldl (λf x=>HD f x.1 x.2.1 x.2.2) (tab0 P)
def Ck (mid one:ν)(P:List ν)(f:ve ν):ve ν:=P.foldl (λf other=>Hv mid one other f) f
def Hy (mid:ν)(Q P:List ν)(f:ve ν):ve ν:=Q.foldl (λf one=>Ck mid one P f) f
def HC (M P:List ν)(f:ve ν):ve ν:=M.foldl (λf mid=>Hy mid P P f) f
def table (P:List ν)(L:cN ν):ve ν:=HC P P (tab1 P L)
end Gr
namespace G
open PySem Tr
def isI:T->Bool
 | .int _=>true
 | _=>false
theorem Cu (t:T)(h:t.pl=true):gA [t] = .ok (.bl (isI t)):=by
 cases t <;> first | rfl | (simp[T.pl]at h;done)
def aY (t:T)(a b:Int):Bool:=match t with
 | .int i=>decide (a<=i)&&decide (i<=b)
 | _=>false
theorem eC (t:T)(a b:Int)(h:t.pl=true):aT [t,.int a,.int b] = .ok (.bl (aY t a b)):=by
 have w:=Cu t h
 cases t with
 | int i=>
  simp[aT,val,bp,iO,aO,aJ,cm,vr,ch,cl,ae,ai,uZ,aY,w,isI]
  cases decide (a<=i) <;> rfl
 | scr _=>simp[T.pl]at h
 | dct _ _=>simp[T.pl]at h
 | ob _ _ _=>simp[T.pl]at h
 | _=>simp[aT,val,bp,iO,aO,aJ,cm,vr,ch,cl,ae,ai,aY,w,isI]
def du (t:T)(a b:Nat):Bool:=match t with
 | .tup l=>decide (a<=l.length)&&decide (l.length<=b)
 | _=>false
theorem jQ (t:T)(a b:Nat)(h:t.pl=true):aP [t,.int a,.int b] = .ok (.bl (du t a b)):=by
 cases t with
 | tup l=>
  simp[aP,val,bp,pP,aO,aJ,cm,o1,vr,Cg,T.ty,wB,ch,cl,ae,ai,ck,T.items,uZ,du]
  cases decide (a<=l.length) <;> rfl
 | scr _=>simp[T.pl]at h
 | dct _ _=>simp[T.pl]at h
 | ob _ _ _=>simp[T.pl]at h
 | _=>rfl
def ox (x y:T):Bool:=aY x 1 9&&(match x with
 | .int i=>aY y i 9
 | _=>false)
theorem Ft (x y:T)(hx:x.pl=true)(hy:y.pl=true):eV [x,y] = .ok (.bl (ox x y)):=by
 have w:=eC x 1 9 hx;unfold ox
 cases q:aY x 1 9 with
 | false=>rw[q]at w;simp[eV,val,bp,k8,aO,aJ,cm,vr,cn,cl,ae,ai,w]
 | true=>
  rw[q]at w
  cases x with
  | int i=>simp[eV,val,bp,k8,aO,aJ,cm,vr,cn,cl,ae,ai,w,eC y i 9 hy]
  | _=>cases q
def n9:List Int->Bool
 | a::b::r=>decide (a<b)&&n9 (b::r)
 | _=>true
theorem Gk (a b:Int)(r:List Int):n9 (a::b::r)=(decide (a<b)&&n9 (b::r)):=rfl
theorem rz {fe:En->Rs T}{p:T->Bool}{l:List T}{fi:En->Rs (List T)}{src:List (Option Nat)}{Z:En}(hi:fi Z= .ok l)(hs:l.length<=sizeLine)(hn:0<src.length)(hf:∀t∈l,fe ((bO src Z).set 0 (.va t))= .ok (.bl (p t))) :
  cl oP (ae (gE fi src (gN 0) bT fe) ai) Z= .ok (.bl (l.all p)):=by
 have e:=uJ (fe:=fe) (h:=λt=>T.bl (p t)) l (bO src Z) (by unfold bO;rw[Jo];exact hn) hf
 simp only[cl,ae,ai,gE,hi,az,if_pos hs,e,all_map]
def kO (l:List T):T->Bool
 | .int k=>match L2.atI l k,L2.atI l (k+1)with
  | some (.int a),some (.int b)=>decide (a<b)
  | _,_=>false
 | _=>false
theorem qg {t:T}{j:Int}(h:t∈rng 0 j):∃k:Nat,t= .int k/\(k:Int)<j:=by
 unfold rng at h;obtain⟨k,hk,e⟩:=Kb.mp h;rw[KS]at hk;exact⟨k,by rw[<-e];simp,by omega⟩
theorem DG:(l:List Int)->l.length<=4->(rng 0 ((l.length:Int) - 1)).all (kO (l.map .int))=n9 l
 | [],_=>rfl
 | [a],_=>rfl
 | [a,b],_=>by simp[rng,NR,kO,L2.atI,L2.ixN,n9]
 | [a,b,c],_=>by simp[rng,NR,kO,L2.atI,L2.ixN,n9]
 | [a,b,c,d],_=>by simp[rng,NR,kO,L2.atI,L2.ixN,n9,Bool.and_assoc]
 | a::b::c::d::e::r,h=>absurd h (by simp only[Jp];omega)
theorem Cv (l:List Int)(h:l.length<=4):jb [.tup (l.map .int)] = .ok (.bl (n9 l)):=by
 have hr:iR (ae (o2 cV (cl ck (ae (vr 0) ai)) (cn (.int 1))) ai) [.va (.tup (l.map .int))] = .ok (rng 0 ((l.length:Int) - 1)):=by
  have:oM ((l.length:Int) - 1)=true:=by unfold oM;rw[Jj];exact⟨decide_eq_true (by omega),decide_eq_true (by omega)⟩
  simp[iR,ae,ai,o2,cl,vr,cn,ck,T.items,cV,this]
 have hs:(rng 0 ((l.length:Int) - 1)).length<=sizeLine:=by
  unfold rng sizeLine;rw[Jo,Lj];omega
 have e:=rz (fe:=o2 FK (o2 aR (vr 1) (vr 0)) (o2 aR (vr 1) (o2 aL (vr 0) (cn (.int 1))))) (p:=kO (l.map .int)) (src:=[none,some 0]) hr hs (by decide) (λt ht=>by
  obtain⟨k,rfl,hk⟩:=qg ht
  have h1:(l.map T.int)[k]? =some (.int (l[k]'(by omega))):=by simp
  have h2:(l.map T.int)[k+1]? =some (.int (l[k+1]'(by omega))):=by rw[JA,Jv (by omega)];rfl
  have g1:=jS h1
  have g2:L2.atI (l.map T.int) ((k:Int)+1)=some (.int (l[k+1]'(by omega))):=jS h2
  simp[o2,vr,bO,cn,aL,aR,T.items,g1,g2,uZ,kO])
 rw[DG l h]at e;simp only[jb,val,Kv,if_true,xf,bp,aJ,aO]
 show(do let f <-(do let t <-cl oP _ [.va (.tup (l.map .int))];Rs.ok (Fl.rt t));_)=_
 rw[e]
 rfl
def kj:List T->Option (List Int)
 | [] =>some []
 | .int i::l=>match kj l with
  | some m=>some (i::m)
  | none=>none
 | _::_=>none
def cM (t:T):Bool:=du t 1 4&&(match t with
 | .tup l=>l.all (λu=>aY u 0 99)&&(match kj l with | some m=>n9 m | none=>false)
 | _=>false)
theorem m8:∀{l:List T} {m:List Int},kj l=some m->l=m.map .int
 | [],m,h=>by cases h;rfl
 | t::l,m,h=>by
  cases t with
  | int i=>
   unfold kj at h
   cases q:kj l with
   | none=>rw[q]at h;cases h
   | some m'=>rw[q]at h;cases h;rw[Jm,<-m8 q]
  | _=>cases h
theorem qF:∀{l:List T} {a b:Int},(l.all λu=>aY u a b)=true->∃m,kj l=some m
 | [],_,_,_=>⟨[],rfl⟩
 | t::l,a,b,h=>by
  rw[List.all_cons,Jj]at h
  cases t with
  | int i=>
   obtain⟨m,e⟩:=qF h.2
   exact⟨i::m,by unfold kj;rw[e]⟩
  | _=>exact absurd h.1 (by simp[aY])
theorem cT {t:T}{a b:Nat}(h:du t a b=true):∃l,t= .tup l/\a<=l.length/\l.length<=b:=by
 cases t with
 | tup l=>unfold du at h;rw[Jj]at h;exact⟨l,rfl,of_decide_eq_true h.1,of_decide_eq_true h.2⟩
 | _=>cases h
theorem small {n k:Nat}(h:n<=k)(hk:k<=1000:=by decide):n<=sizeLine:=by unfold sizeLine;omega
theorem uX (t:T)(h:t.pl=true):bA [t] = .ok (.bl (cM t)):=by
 have w:aP [t,.int 1,.int 4] = .ok (.bl (du t 1 4)):=jQ t 1 4 h;unfold cM
 cases q:du t 1 4 with
 | false=>rw[q]at w;simp[bA,val,bp,dR,aO,aC,eO,dM,tb,sN,aJ,cl,vr,cn,ae,ai,w]
 | true=>
  rw[q]at w;obtain⟨l,rfl,h1,h2⟩:=cT q
  have hp:∀u∈l,u.pl=true:=λu hu=>eQ (by unfold T.pl at h;exact h) hu
  have e:=rz (fe:=cl aT (ae (vr 0) (ae (cn (.int 0)) (ae (cn (.int 99)) ai)))) (p:=λu=>aY u 0 99) (src:=[none]) (fi:=iS (vr 0)) (Z:=[.va (.tup l)]) rfl (small h2) (by decide) (λu hu=>by
   simp[cl,ae,ai,vr,cn,bO,eC u 0 99 (hp u hu)])
  have w':cl aP (ae (vr 0) (ae (cn (.int 1)) (ae (cn (.int 4)) ai))) [.va (.tup l)] = .ok (.bl true):=w
  show bA _= .ok (.bl (true&&(l.all (λu=>aY u 0 99)&&(match kj l with | some m=>n9 m | none=>false))))
  cases qa:l.all λu=>aY u 0 99 with
  | false=>
   rw[qa]at e
   simp[bA,val,bp,dR,aO,aC,eO,dM,tb,sN,aJ,cm,e,w']
  | true=>
   rw[qa]at e;obtain⟨m,em⟩:=qF qa
   have el:=m8 em
   have er:=Cv m (by rw[el,Jo]at h2;exact h2)
   rw[<-el]at er
   have er':cl jb (ae (vr 0) ai) [.va (.tup l)] = .ok (.bl (n9 m)):=er;simp[bA,val,bp,dR,aO,aC,eO,dM,tb,sN,aJ,cm,e,w',er',em]
def at_ (t:T)(k:Nat):T:=match t.items with
 | some l=>l.getD k .non
 | none=> .non
def bo (t:T):Bool:=du t 3 3&&(match t with
 | .tup [x,y,r] =>ox x y&&cM r
 | _=>false)
theorem CA (t:T)(h:t.pl=true):cR [t] = .ok (.bl (bo t)):=by
 have w:aP [t,.int 3,.int 3] = .ok (.bl (du t 3 3)):=jQ t 3 3 h;unfold bo
 cases q:du t 3 3 with
 | false=>rw[q]at w;simp[cR,val,bp,gL,aO,aJ,cm,cl,vr,cn,ae,ai,w]
 | true=>
  rw[q]at w;obtain⟨l,rfl,h1,h2⟩:=cT q
  match l,h1,h2 with
  | [x,y,r],_,_=>
   simp[T.pl,plS]at h;obtain⟨px,py,pr⟩:=h
   have g0:aR (.tup [x,y,r]) (.int 0)= .ok x:=rfl
   have g1:aR (.tup [x,y,r]) (.int 1)= .ok y:=rfl
   have g2:aR (.tup [x,y,r]) (.int 2)= .ok r:=rfl
   have ep:=Ft x y px py
   have er:=uX r pr
   cases qp:ox x y with
   | false=>rw[qp]at ep;simp[cR,val,bp,gL,aO,aJ,cm,cl,vr,cn,ae,ai,o2,w,g0,g1,ep,qp]
   | true=>rw[qp]at ep;simp[cR,val,bp,gL,aO,aJ,cm,cl,vr,cn,ae,ai,o2,w,g0,g1,g2,ep,er,qp]
def a7 (t:T):Bool:=du t 1 4&&(match t with
 | .tup l=>l.all bo
 | _=>false)
theorem Am (t:T)(h:t.pl=true):cX [t] = .ok (.bl (a7 t)):=by
 have w:aP [t,.int 1,.int 4] = .ok (.bl (du t 1 4)):=jQ t 1 4 h;unfold a7
 cases q:du t 1 4 with
 | false=>rw[q]at w;simp[cX,val,bp,gM,aO,aJ,cm,cl,vr,cn,ae,ai,w]
 | true=>
  rw[q]at w;obtain⟨l,rfl,h1,h2⟩:=cT q
  have hp:∀u∈l,u.pl=true:=λu hu=>eQ (by unfold T.pl at h;exact h) hu
  have e:=rz (fe:=cl cR (ae (vr 0) ai)) (p:=bo) (src:=[none]) (fi:=iS (vr 0)) (Z:=[.va (.tup l)]) rfl (small h2) (by decide) (λu hu=>by
   simp[cl,ae,ai,vr,cn,bO,CA u (hp u hu)])
  have w':cl aP (ae (vr 0) (ae (cn (.int 1)) (ae (cn (.int 4)) ai))) [.va (.tup l)] = .ok (.bl true):=w;simp[cX,val,bp,gM,aO,aJ,cm,e,w']
def c7 (x y:T):Bool:=aY x 0 999&&(match x,y with
 | _,.non=>true
 | .int i,_=>aY y i 999
 | _,_=>false)
theorem Cz (x y:T)(hx:x.pl=true)(hy:y.pl=true):dt [x,y] = .ok (.bl (c7 x y)):=by
 have w:=eC x 0 999 hx;unfold c7
 cases q:aY x 0 999 with
 | false=>rw[q]at w;simp[dt,val,bp,gK,aO,aJ,cm,vr,cn,cl,ae,ai,w]
 | true=>
  rw[q]at w
  cases x with
  | int i=>
   have e:=eC y i 999 hy
   cases y with
   | non=>simp[dt,val,bp,gK,aO,aJ,cm,AR,vr,cn,cl,ae,ai,o2,lQ,T.isN,w]
   | _=>simp[dt,val,bp,gK,aO,aJ,cm,AR,vr,cn,cl,ae,ai,o2,lQ,T.isN,w,e]
  | _=>cases q
def reads (cs:List T)(c:Int):Nat:=if 0<=c then(match cs[c.toNat]? with
 | some (.tup [_,_,.tup r])=>r.length
 | _=>0)else 0
def aZ (cs:List T)(t:T):Bool:=match t with
 | .tup [.int c,.int k] =>decide (0<=c)&&decide (c<cs.length)&&(decide (0<=k)&&decide (k<reads cs c))
 | _=>false
theorem ly {t:T}(h:bo t=true):∃x y r,t= .tup [x,y,.tup r]:=by
 unfold bo at h;rw[Jj]at h;obtain⟨h1,h2⟩:=h;obtain⟨l,rfl,h3,h4⟩:=cT h1
 match l,h3,h4,h2 with
 | [x,y,r],_,_,h2=>
  simp only[Jj]at h2;obtain⟨_,h5⟩:=h2;unfold cM at h5;rw[Jj]at h5;obtain⟨m,rfl,_⟩:=cT h5.1;exact⟨x,y,m,rfl⟩
theorem cg {t:T}{a b:Int}(h:aY t a b=true):∃i,t= .int i/\a<=i/\i<=b:=by
 cases t with
 | int i=>unfold aY at h;rw[Jj]at h;exact⟨i,rfl,of_decide_eq_true h.1,of_decide_eq_true h.2⟩
 | _=>cases h
theorem wN (cs:List T)(t:T)(hc:a7 (.tup cs)=true)(h:t.pl=true):cQ [.tup cs,t] = .ok (.bl (aZ cs t)):=by
 have w:aP [t,.int 2,.int 2] = .ok (.bl (du t 2 2)):=jQ t 2 2 h
 cases q:du t 2 2 with
 | false=>
  rw[q]at w
  have:aZ cs t=false:=by
   unfold aZ;split
   ·cases q
   ·rfl
  simp[cQ,val,bp,gJ,aO,aC,eO,oa,dM,tb,sN,aJ,cl,vr,cn,ae,ai,w,this]
 | true=>
  rw[q]at w;obtain⟨l,rfl,h1,h2⟩:=cT q
  match l,h1,h2 with
  | [x,y],_,_=>
   simp[T.pl,plS]at h;obtain⟨px,py⟩:=h
   have g0:aR (.tup [x,y]) (.int 0)= .ok x:=rfl
   have g1:aR (.tup [x,y]) (.int 1)= .ok y:=rfl
   have gl:ck [.tup cs] = .ok (.int cs.length):=rfl
   have e1:=eC x 0 ((cs.length:Int) - 1) px
   cases q1:aY x 0 ((cs.length:Int) - 1)with
   | false=>
    rw[q1]at e1
    have:aZ cs (.tup [x,y])=false:=by
     cases x with
     | int c=>
      cases y with
      | int k=>
       simp only[aY,NS,decide_eq_false_iff_not]at q1;simp only[aZ,NS,decide_eq_false_iff_not]
       omega
      | _=>rfl
     | _=>rfl
    simp[cQ,val,bp,gJ,aO,aC,eO,oa,dM,tb,sN,aJ,cl,vr,cn,ae,ai,o2,cV,w,g0,gl,e1,this]
   | true=>
    rw[q1]at e1;obtain⟨c,rfl,c1,c2⟩:=cg q1;obtain⟨n,rfl⟩:=JL c1
    have hn:n<cs.length:=by omega
    have hcl:bo cs[n] =true:=by
     unfold a7 at hc;rw[Jj]at hc;exact JP.mp hc.2 _ (KZ hn)
    obtain⟨a,b,r,er⟩:=ly hcl
    have g2:aR (.tup cs) (.int (n:Int))= .ok (.tup [a,b,.tup r]):=by
     simp only[aR,T.items];rw[jS (Jv hn),er]
    have g3:aR (.tup [a,b,.tup r]) (.int 2)= .ok (.tup r):=rfl
    have gr:ck [.tup r] = .ok (.int r.length):=rfl
    have e2:=eC y 0 ((r.length:Int) - 1) py
    have:aZ cs (.tup [.int n,y])=aY y 0 ((r.length:Int) - 1):=by
     have er2:reads cs (n:Int)=r.length:=by
      unfold reads;rw[if_pos c1,KL,Jv hn,er]
     cases y with
     | int k=>
      simp only[aZ,aY,er2];rw[decide_eq_true c1,decide_eq_true (show(n:Int)<cs.length by omega)]
      simp only[Nl]
      congr 1
      exact decide_eq_decide.mpr (by omega)
     | _=>rfl
    simp[cQ,val,bp,gJ,aO,aC,eO,oa,dM,tb,sN,aJ,cl,vr,cn,ae,ai,o2,cV,w,g0,g1,g2,g3,gl,gr,e1,e2,this]
def bh (cs:List T)(t:T):Bool:=match t with
 | .tup [a,b,x,y] =>c7 x y&&(aZ cs a&&(aZ cs b&& !a6 a b))
 | _=>false
theorem cU {cs:List T}{t:T}(h:aZ cs t=true):∃c k:Int,t= .tup [.int c,.int k]:=by
 unfold aZ at h
 split at h
 ·exact⟨_,_,rfl⟩
 ·cases h
theorem Ag (cs:List T)(t:T)(hc:a7 (.tup cs)=true)(h:t.pl=true):bL [.tup cs,t] = .ok (.bl (bh cs t)):=by
 have w:aP [t,.int 4,.int 4] = .ok (.bl (du t 4 4)):=jQ t 4 4 h
 cases q:du t 4 4 with
 | false=>
  rw[q]at w
  have:bh cs t=false:=by
   unfold bh;split
   ·cases q
   ·rfl
  simp[bL,val,bp,dC,aO,aC,eO,oa,dM,tb,sN,aJ,cl,vr,cn,ae,ai,w,this]
 | true=>
  rw[q]at w;obtain⟨l,rfl,h1,h2⟩:=cT q
  match l,h1,h2 with
  | [a,b,x,y],_,_=>
   simp[T.pl,plS]at h;obtain⟨pa,pb,px,py⟩:=h
   have g0:aR (.tup [a,b,x,y]) (.int 0)= .ok a:=rfl
   have g1:aR (.tup [a,b,x,y]) (.int 1)= .ok b:=rfl
   have g2:aR (.tup [a,b,x,y]) (.int 2)= .ok x:=rfl
   have g3:aR (.tup [a,b,x,y]) (.int 3)= .ok y:=rfl
   have e1:=Cz x y px py
   have e2:=wN cs a hc pa
   have e3:=wN cs b hc pb
   show _=Rs.ok (T.bl (c7 x y&&(aZ cs a&&(aZ cs b&& !a6 a b))))
   cases q1:c7 x y with
   | false=>
    rw[q1]at e1
    simp[bL,val,bp,dC,aO,aC,eO,oa,dM,tb,sN,aJ,cl,vr,cn,ae,ai,o2,w,g2,g3,e1]
   | true=>
    rw[q1]at e1
    cases q2:aZ cs a with
    | false=>
     rw[q2]at e2
     simp[bL,val,bp,dC,aO,aC,eO,oa,dM,tb,sN,aJ,cm,cl,vr,cn,ae,ai,o2,w,g0,g2,g3,e1,e2]
    | true=>
     rw[q2]at e2
     cases q3:aZ cs b with
     | false=>
      rw[q3]at e3
      simp[bL,val,bp,dC,aO,aC,eO,oa,dM,tb,sN,aJ,cm,cl,vr,cn,ae,ai,o2,w,g0,g1,g2,g3,e1,e2,e3]
     | true=>
      rw[q3]at e3;obtain⟨c,k,rfl⟩:=cU q2
      have f:fy (.tup [.int c,.int k]) b=true:=iH (by simp[T.dep,deps]) rfl (T.Iu _ pb)
      have g4:fE (.tup [.int c,.int k]) b= .ok (.bl (!a6 (.tup [.int c,.int k]) b)):=by unfold fE;rw[if_pos f]
      simp[bL,val,bp,dC,aO,aC,eO,oa,dM,tb,sN,aJ,cm,cl,vr,cn,ae,ai,o2,w,g0,g1,g2,g3,g4,e1,e2,e3]
def jc (cs:List T)(t:T):Bool:=du t 0 8&&(match t with
 | .tup l=>l.all (bh cs)
 | _=>false)
theorem xX (cs:List T)(t:T)(hc:a7 (.tup cs)=true)(h:t.pl=true):cH [.tup cs,t] = .ok (.bl (jc cs t)):=by
 have w:aP [t,.int 0,.int 8] = .ok (.bl (du t 0 8)):=jQ t 0 8 h;unfold jc
 cases q:du t 0 8 with
 | false=>rw[q]at w;simp[cH,val,bp,gb,aO,aJ,cm,cl,vr,cn,ae,ai,w]
 | true=>
  rw[q]at w;obtain⟨l,rfl,h1,h2⟩:=cT q
  have hp:∀u∈l,u.pl=true:=λu hu=>eQ (by unfold T.pl at h;exact h) hu
  have e:=rz (fe:=cl bL (ae (vr 1) (ae (vr 0) ai))) (p:=bh cs) (src:=[none,some 0]) (fi:=iS (vr 1)) (Z:=[.va (.tup cs),.va (.tup l)]) rfl (small h2) (by decide) (λu hu=>by
   simp[cl,ae,ai,vr,cn,bO,Ag cs u hc (hp u hu)])
  have w':cl aP (ae (vr 1) (ae (cn (.int 0)) (ae (cn (.int 8)) ai))) [.va (.tup cs),.va (.tup l)] = .ok (.bl true):=w;simp[cH,val,bp,gb,aO,aJ,cm,e,w']
def dB (t:T):Bool:=match t with
 | .tup [.tup cs,ls] =>a7 (.tup cs)&&jc cs ls
 | _=>false
theorem ti (t:T)(h:t.pl=true):cP [t] = .ok (.bl (dB t)):=by
 have w:aP [t,.int 2,.int 2] = .ok (.bl (du t 2 2)):=jQ t 2 2 h
 cases q:du t 2 2 with
 | false=>
  rw[q]at w
  have:dB t=false:=by
   unfold dB;split
   ·cases q
   ·rfl
  simp[cP,val,bp,fT,aO,aJ,cm,cl,vr,cn,ae,ai,w,this]
 | true=>
  rw[q]at w;obtain⟨l,rfl,h1,h2⟩:=cT q
  match l,h1,h2 with
  | [x,y],_,_=>
   simp[T.pl,plS]at h;obtain⟨px,py⟩:=h
   have g0:aR (.tup [x,y]) (.int 0)= .ok x:=rfl
   have g1:aR (.tup [x,y]) (.int 1)= .ok y:=rfl
   have e1:=Am x px
   cases q1:a7 x with
   | false=>
    rw[q1]at e1
    have:dB (.tup [x,y])=false:=by
     cases x with
     | tup cs=>show(a7 (.tup cs)&&_)=false;rw[q1];rfl
     | _=>rfl
    simp[cP,val,bp,fT,aO,aJ,cm,cl,vr,cn,ae,ai,o2,w,g0,e1,this]
   | true=>
    rw[q1]at e1
    cases x with
    | tup cs=>
     have e2:=xX cs y q1 py
     have:dB (.tup [.tup cs,y])=jc cs y:=by show(a7 (.tup cs)&&_)=_;rw[q1];rfl
     simp[cP,val,bp,fT,aO,aJ,cm,cl,vr,cn,ae,ai,o2,w,g0,g1,e1,e2,this]
    | _=>cases q1
theorem eX:∀m:List Int,deps (m.map .int)=0
 | [] =>rfl
 | a::m=>by rw[Jm,deps,eX m];rfl
def lT (i n:Nat):List T:=(rng 0 n).map λt=>T.tup [.int i,t]
def DI:T->Nat
 | .tup [_,_,.tup r] =>r.length
 | _=>0
def et:Nat->List T->List T
 | _,[] => []
 | i,c::r=>lT i (DI c)++et (i+1) r
theorem fS {t:T}(h:bo t=true):∃x y r,t= .tup [x,y,.tup r]/\1<=r.length/\r.length<=4:=by
 obtain⟨x,y,r,rfl⟩:=ly h
 have:cM (.tup r)=true:=by
  have h':(ox x y&&cM (.tup r))=true:=h;rw[Jj]at h';exact h'.2
 unfold cM at this;rw[Jj]at this;obtain⟨l,e,h1,h2⟩:=cT this.1;cases e;exact⟨x,y,r,rfl,h1,h2⟩
theorem iJ (i n:Nat):(lT i n).length=n:=by unfold lT;rw[Jo,fM]
abbrev evF:En->Rs Fl:=c9 (o2 aL (vr 1) (gE (iR (ae (cl ck (ae (o2 aR (vr 3) (cn (.int 2))) ai)) ai)) [none,some 2] (gN 0) bT (aU (ae (vr 1) (ae (vr 0) ai))))) (gN 1)
abbrev evG:T->En->Rs En:=gT 2 (sW (gN 2) (sW (gN 3) AS))
theorem Dg {f:En->Rs (List T)}{Z:En}{j:Int}(h:f Z= .ok [.int j])(h0:0<=j)(h1:j<=100000):iR f Z= .ok (rng 0 j):=by
 have e:oM j=true:=by unfold oM;rw[Jj];exact⟨decide_eq_true (by omega),decide_eq_true (by omega)⟩
 unfold iR;rw[h]
 show(if oM j=true then _ else _)=_
 rw[e];rfl
theorem w8 (l m:List T)(h:(l++m).length<=1000):aL (.lst l) (.lst m)= .ok (.lst (l++m)):=by
 show ju (l++m)=_
 unfold ju;rw[if_pos (aE h)]
theorem jf (l m:List T)(h:(l++m).length<=1000):aL (.tup l) (.tup m)= .ok (.tup (l++m)):=by
 show jt (l++m)=_
 unfold jt;rw[if_pos (aE h)]
theorem HF (c0 acc x y:T)(r:List T)(i:Nat)(h:r.length<=4) :
  gE (iR (ae (cl ck (ae (o2 aR (vr 3) (cn (.int 2))) ai)) ai)) [none,some 2] (gN 0) bT (aU (ae (vr 1) (ae (vr 0) ai))) [.va c0,.va acc,.va (.int i),.va (.tup [x,y,.tup r])] = .ok (.lst (lT i r.length)):=
 xS (Dg (j:=(r.length:Int)) rfl (by omega) (by omega)) (aE (k:=4) (by rw[fM];exact h)) (by simp) λt _=>mk2 _ _
theorem Cq (c0 x y:T)(acc r:List T)(i:Nat)(h:r.length<=4)(ha:acc.length<=100):evF [.va c0,.va (.lst acc),.va (.int i),.va (.tup [x,y,.tup r])] = .ok (.nx [.va c0,.va (.lst (acc++lT i r.length)),.va (.int i),.va (.tup [x,y,.tup r])]):=
 c6 (aK (t:=.lst acc) rfl (HF c0 (.lst acc) x y r i h) (w8 _ _ (by rw[Js,iJ];omega))) rfl
theorem wL:∀(cs:List T) (c0:T) (acc:List T) (i:Nat) (s2 s3:Sl),(∀c∈cs,bo c=true)->acc.length+4*cs.length<=100 →
  ∃y2 y3,br evG evF (cF i cs) [.va c0,.va (.lst acc),s2,s3] = .ok (.nx [.va c0,.va (.lst (acc++et i cs)),y2,y3])
 | [],c0,acc,i,s2,s3,_,_=>⟨s2,s3,by simp[cF,br,et]⟩
 | c::cs,c0,acc,i,s2,s3,hc,hl=>by
  obtain⟨x,y,r,rfl,r1,r2⟩:=fS (hc c Jq);rw[Jp]at hl;obtain⟨z2,z3,ih⟩:=wL cs c0 (acc++lT i r.length) (i+1) (.va (.int i)) (.va (.tup [x,y,.tup r])) (λc h=>hc c (Jk _ h)) (by rw[Js,iJ];omega)
  refine⟨z2,z3,?_⟩
  rw[cF,ft (Z1:=[.va c0,.va (.lst acc),.va (.int i),.va (.tup [x,y,.tup r])]) rfl (Cq c0 x y acc r i r2 (by omega)),ih,et,Kj]
  rfl
theorem bH {cs:List T}(hc:a7 (.tup cs)=true):(∀c∈cs,bo c=true)/\1<=cs.length/\cs.length<=4:=by
 unfold a7 at hc;rw[Jj]at hc;obtain⟨l,e,h1,h2⟩:=cT hc.1;cases e;exact⟨λc h=>JP.mp hc.2 c h,h1,h2⟩
theorem Aj (cs:List T)(hc:a7 (.tup cs)=true):df [.tup cs] = .ok (.lst (et 0 cs)):=by
 obtain⟨ha,h1,h2⟩:=bH hc;obtain⟨y2,y3,e⟩:=wL cs (.tup cs) [] 0 .em .em ha (by simp;omega)
 rw[MA]at e;refine cy rfl ?_
 unfold jy;rw[aH (Z':=[.va (.tup cs),.va (.lst []),.em,.em]) rfl,aH ((iD (ts:=cF 0 cs) rfl e))]
 rfl
theorem B6 {n k:Nat}(h:k<n):T.int (k:Int)∈rng 0 (n:Int):=by
 unfold rng;exact Kb.mpr ⟨k,KS.mpr (by omega),by simp⟩
theorem o7 (cs:List T)(c:Nat):reads cs (c:Int)=DI (cs.getD c .non):=by
 unfold reads;rw[if_pos (by omega),KL,List.getD_eq_getElem?_getD]
 cases cs[c]? with
 | none=>rfl
 | some t=>
  cases t with
  | tup l=>
   match l with
   | [] =>rfl
   | [_] =>rfl
   | [_,_] =>rfl
   | [_,_,z] =>cases z <;> rfl
   | _::_::z::_::_=>cases z <;> rfl
  | _=>rfl
mutual
def sm (n:Nat):T->Bool
 | .dct _ _=>false
 | .ob _ _ _=>false
 | .scr _=>false
 | .tup l=>decide (l.length<=n)&&sms n l
 | .lst l=>decide (l.length<=n)&&sms n l
 | _=>true
def sms (n:Nat):List T->Bool
 | [] =>true
 | t::l=>sm n t&&sms n l
end
mutual
theorem yH {n:Nat}:∀(t:T),sm n t=true->t.pl=true
 | .scr _,h=>by simp[sm]at h
 | .dct _ _,h=>by simp[sm]at h
 | .ob _ _ _,h=>by simp[sm]at h
 | .tup l,h=>by rw[sm,Jj]at h;rw[T.pl];exact sms_pl l h.2
 | .lst l,h=>by rw[sm,Jj]at h;rw[T.pl];exact sms_pl l h.2
 | .non,_=>by simp[T.pl]
 | .bl _,_=>by simp[T.pl]
 | .int _,_=>by simp[T.pl]
 | .str _,_=>by simp[T.pl]
theorem sms_pl {n:Nat}:∀(l:List T),sms n l=true->plS l=true
 | [],_=>by simp[plS]
 | t::l,h=>by rw[sms,Jj]at h;rw[plS,yH t h.1,sms_pl l h.2];rfl
end
theorem vC {n:Nat}:∀{l:List T},sms n l=true↔ ∀t∈l,sm n t=true
 | [] =>by simp[sms]
 | t::l=>by rw[sms,Jj,vC (l:=l)];simp
theorem sm_tup {n:Nat}{l:List T}:sm n (.tup l)=true↔l.length<=n/\∀t∈l,sm n t=true:=by rw[sm,Jj,vC,decide_eq_true_iff]
theorem jL {i j:Int}(h:0<j):ko (.int i) (.int j)= .ok (.int (i % j)):=by show(if _ then _ else _)=_;rw[if_pos h]
theorem mr {i j:Int}(h:0<j)(h2:j<1073741824):kq (.int i) (.int j)= .ok (.int (i / j)):=by show(if _ then _ else _)=_;rw[if_pos ⟨h,h2⟩]
theorem lp {i j:Int}(h : -18446744073709551616<i)(h2:i<18446744073709551616):b8 (.int i) (.int j)= .ok (.int (i*j)):=by
 show uF (.int i) (.int j)=_
 show(if _ then _ else _)=_
 rw[if_pos (.inl ⟨by omega,by omega⟩)]
theorem zo {i j:Int}(h : -18446744073709551616<j)(h2:j<18446744073709551616):b8 (.int i) (.int j)= .ok (.int (i*j)):=by
 show uF (.int i) (.int j)=_
 show(if _ then _ else _)=_
 rw[if_pos (.inr ⟨by omega,by omega⟩)]
theorem Fw (ns:List Int)(k:Nat)(hn:ns.length<=63):∃c,ej [.scr ns,.int k] = .ok (.int c):=by
 have e0:o2 g9 (vr 0) (fF ai) [.va (.scr ns),.va (.int k)] = .ok (.bl (jx ns [])):=by
  refine aK (t:=.scr ns) (u:=.lst []) rfl (nJ (ts:=[]) rfl (aE (k:=0) (Jw _))) ?_
  unfold g9;rw[if_pos (iH (by simp[T.dep]) rfl rfl)]
  rfl
 cases ns with
 | nil=>
  refine⟨7*k,cy rfl ?_⟩
  unfold iU
  refine kQ ((jw (cZ e0)).trans (dA (aK (t:=.int 7) (u:=.int k) rfl rfl (lp (by omega) (by omega)))))
 | cons a r=>
  have hl:(0:Int)<((a::r).length:Nat):=by simp only[Jp];omega
  have hl2:(((a::r).length:Nat):Int)<1073741824:=by simp only[Jp]at hn ⊢;omega
  have hi:k % (a::r).length<(a::r).length:=Nat.mod_lt _ (by simp)
  have g0:o2 ko (vr 1) (cl ck (ae (vr 0) ai)) [.va (.scr (a::r)),.va (.int k)] = .ok (.int ((k % (a::r).length:Nat):Int)):=by
   refine aK (t:=.int k) (u:=.int ((a::r).length:Nat)) rfl ?_ (by rw[jL hl];rfl)
   refine bw (ts:=[.scr (a::r)]) rfl ?_
   show Rs.ok (T.int (((a::r).map T.int).length:Nat))=_
   rw[Jo]
  have g1:aR (.scr (a::r)) (.int ((k % (a::r).length:Nat):Int))= .ok (.int (a::r)[k % (a::r).length]):=by
   have e:((a::r).map T.int)[k % (a::r).length]? =some (.int (a::r)[k % (a::r).length]):=by rw[JA,Jv hi];rfl
   show(match L2.atI ((a::r).map T.int) ((k % (a::r).length:Nat):Int)with | some t=>Rs.ok t | none=> .bad)=_
   rw[jS e]
  have g2:o2 kq (vr 1) (cl ck (ae (vr 0) ai)) [.va (.scr (a::r)),.va (.int k)] = .ok (.int ((k:Int) / ((a::r).length:Nat))):=by
   refine aK (t:=.int k) (u:=.int ((a::r).length:Nat)) rfl ?_ (mr hl hl2)
   refine bw (ts:=[.scr (a::r)]) rfl ?_
   show Rs.ok (T.int (((a::r).map T.int).length:Nat))=_
   rw[Jo]
  refine⟨(a::r)[k % (a::r).length] +6553*((k:Int) / ((a::r).length:Nat)),cy rfl ?_⟩
  unfold iU
  show aC _ _ [.va (.scr (a::r)),.va (.int k)] =_
  refine(aH (Z':=[.va (.scr (a::r)),.va (.int k)]) ((fw (cZ e0)).trans rfl)).trans ?_
  exact dA (aK (aK (t:=.scr (a::r)) rfl g0 g1) (aK (t:=.int 6553) rfl g2 (lp (by omega) (by omega))) rfl)
theorem bX (ns:List Int)(k:Nat)(m:Int)(hn:ns.length<=63)(hm:0<m):∃r,ay [.scr ns,.int k,.int m] = .ok (.int r)/\0<=r/\r<m:=by
 obtain⟨c,hc⟩:=Fw ns k hn
 have b1:∀x:Int,0<=x % 2147483563/\x % 2147483563<2147483563:=λx=>⟨NT _ (by omega),MU _ (by omega)⟩
 have b2:∀x:Int,0<=x % 2147483399/\x % 2147483399<2147483399:=λx=>⟨NT _ (by omega),MU _ (by omega)⟩
 generalize hx:(c % 2147483563*69069+104723*((k:Int)+1)) % 2147483563=x
 have hx':=b1 (c % 2147483563*69069+104723*((k:Int)+1));rw[hx]at hx'
 generalize hy:(x*x+x / 3) % 2147483399=y
 have hy':=b2 (x*x+x / 3);rw[hy]at hy';refine⟨(y*y+y / 7) % 2147483647 / 11 % m,cy rfl ?_,NT _ (by omega),MU _ hm⟩
 show gO [.va (.scr ns),.va (.int k),.va (.int m),.em] =_
 unfold gO
 have s1:c9 (o2 ko (o2 aL (o2 b8 (o2 ko (cl ej (ae (vr 0) (ae (vr 1) ai))) (cn (.int 2147483563))) (cn (.int 69069))) (o2 b8 (cn (.int 104723)) (o2 aL (vr 1) (cn (.int 1))))) (cn (.int 2147483563))) (gN 3) [.va (.scr ns),.va (.int k),.va (.int m),.em] = .ok (.nx [.va (.scr ns),.va (.int k),.va (.int m),.va (.int x)]):=by
  refine c6 (t:=.int x) (aK (u:=.int 2147483563) (aK (aK (u:=.int 69069) (aK (u:=.int 2147483563) (bw (ts:=[.scr ns,.int k]) rfl hc) rfl (jL (by omega))) rfl (zo (by omega) (by omega))) (aK (t:=.int 104723) (u:=.int ((k:Int)+1)) rfl rfl (lp (by omega) (by omega))) rfl) rfl ?_) rfl
  rw[jL (by omega),hx]
 have s2:c9 (o2 ko (o2 aL (o2 b8 (vr 3) (vr 3)) (o2 kq (vr 3) (cn (.int 3)))) (cn (.int 2147483399))) (gN 3) [.va (.scr ns),.va (.int k),.va (.int m),.va (.int x)] = .ok (.nx [.va (.scr ns),.va (.int k),.va (.int m),.va (.int y)]):=by
  refine c6 (t:=.int y) (aK (u:=.int 2147483399) (aK (aK (t:=.int x) (u:=.int x) rfl rfl (lp (by omega) (by omega))) (aK (t:=.int x) (u:=.int 3) rfl rfl (mr (by omega) (by omega))) rfl) rfl ?_) rfl
  rw[jL (by omega),hy]
 rw[aH s1,aH s2];exact dA (aK (u:=.int m) (aK (u:=.int 11) (aK (u:=.int 2147483647) (aK (aK (t:=.int y) (u:=.int y) rfl rfl (lp (by omega) (by omega))) (aK (t:=.int y) (u:=.int 7) rfl rfl (mr (by omega) (by omega))) rfl) rfl (jL (by omega))) rfl (mr (by omega) (by omega))) rfl (jL hm))
theorem dk {ns:List Int}{k:Nat}{m r:Int}{f g h:En->Rs T}{Z:En}(e:ay [.scr ns,.int k,.int m] = .ok (.int r))(h1:f Z= .ok (.scr ns))(h2:g Z= .ok (.int k))(h3:h Z= .ok (.int m)) :
  cl ay (ae f (ae g (ae h ai))) Z= .ok (.int r):=bw (ar h1 (ar h2 (ar h3 rfl))) e
theorem r6:∀(l:List Int) (z y:Int),n9 (l++ [z])=true->z<y->n9 (l++ [z] ++ [y])=true
 | [],z,y,_,h=>by simp[n9,h]
 | [a],z,y,h,hy=>by
  simp[n9]at h ⊢
  omega
 | a::b::l,z,y,h,hy=>by
  have h':n9 (a::b::(l++ [z]))=true:=h;rw[Gk,Jj]at h'
  have ih:=r6 (b::l) z y h'.2 hy
  show n9 (a::b::(l++ [z] ++ [y]))=true
  rw[Gk,h'.1];exact ih
theorem m9:∀l:List Int,kj (l.map .int)=some l
 | [] =>rfl
 | a::l=>by rw[Jm,kj,m9 l]
def RdOk (l:List Int):Prop:=∃(l':List Int) (z:Int),l=l'++ [z]/\n9 l=true/\(∀x∈l,0<=x/\x<=5*l.length)/\z<=5*l.length
abbrev clF:En->Rs Fl:=c9 (o2 aL (vr 3) (aU (ae (o2 aL (o2 aL (o2 aR (vr 3) (o1 ji (cn (.int 1)))) (cn (.int 1))) (cl ay (ae (vr 0) (ae (o2 aL (o2 aL (vr 1) (cn (.int 3))) (vr 4)) (ae (cn (.int 5)) ai))))) ai))) (gN 3)
theorem qV (l:List T)(z:T):aR (.tup (l++ [z])) (.int (-1))= .ok z:=by
 have e:L2.atI (l++ [z]) (-1)=some z:=by
  unfold L2.atI L2.ixN;simp;rw[if_pos (by omega)]
  have q:(-1+((l.length:Int)+1)).toNat=l.length:=by omega
  show(l++ [z])[(-1+((l.length:Int)+1)).toNat]? =some z
  rw[q];simp
 show(match L2.atI (l++ [z]) (-1)with | some t=>Rs.ok t | none=> .bad)=_
 rw[e]
theorem CD (ns:List Int)(hn:ns.length<=63)(a j:Nat)(s:T)(l:List Int)(h:RdOk l)(hl:l.length<=3):∃l2,clF [.va (.scr ns),.va (.int a),.va s,.va (.tup (l.map .int)),.va (.int j)] = .ok (.nx [.va (.scr ns),.va (.int a),.va s,.va (.tup (l2.map .int)),.va (.int j)])/\RdOk l2/\l2.length=l.length+1:=by
 obtain⟨l',z,rfl,h1,h2,h3⟩:=h;obtain⟨d,ed,d0,d1⟩:=bX ns (a+3+j) 5 hn (by omega)
 refine⟨l'++ [z] ++ [z+1+d],?_,⟨l'++ [z],z+1+d,rfl,r6 l' z _ h1 (by omega),?_,?_⟩,by simp⟩
 ·refine c6 (t:=.tup ((l'++ [z] ++ [z+1+d]).map .int)) (aK (t:=.tup ((l'++ [z]).map .int)) (u:=.tup [.int (z+1+d)]) rfl (bF (ts:=[.int (z+1+d)]) (ar (aK (t:=.int (z+1)) (u:=.int d) (aK (t:=.int z) (u:=.int 1) (aK (t:=.tup ((l'++ [z]).map .int)) (u:=.int (-1)) rfl rfl ?_) rfl rfl) (dk (k:=a+3+j) ed rfl ?_ rfl) rfl) rfl) (aE (k:=1) (by simp))) ?_) rfl
  ·rw[KB];exact qV _ _
  ·refine aK (t:=.int ((a:Int)+3)) (u:=.int j) (aK (t:=.int a) (u:=.int 3) rfl rfl rfl) rfl ?_
   show Rs.ok (T.int ((a:Int)+3+j))=_
   congr 2
  ·rw[KB (l₁:=l'++ [z])]
   exact jf _ _ (by rw[Js,Jo];simp at hl ⊢;omega)
 ·intro x hx
  rcases JN.mp hx with hx | hx
  ·have:=h2 x hx
   simp only[Js,Kv]at this ⊢;omega
  ·rw[JG]at hx
   subst hx
   have hz:=h2 z (by simp)
   simp only[Js,Kv]at h3 ⊢;omega
 ·simp only[Js,Kv]at h3 ⊢
  omega
theorem wX (ns:List Int)(hn:ns.length<=63)(a:Nat)(s:T):∀(js:List Nat) (l:List Int) (s4:Sl),RdOk l->l.length+js.length<=4->∃l2 s5,br (gN 4) clF (js.map λ(j:Nat)=>T.int j) [.va (.scr ns),.va (.int a),.va s,.va (.tup (l.map .int)),s4] = .ok (.nx [.va (.scr ns),.va (.int a),.va s,.va (.tup (l2.map .int)),s5])/\RdOk l2/\l2.length=l.length+js.length
 | [],l,s4,h,_=>⟨l,s4,rfl,h,rfl⟩
 | j::js,l,s4,h,hl=>by
  rw[Jp]at hl;obtain⟨l2,e2,h2,n2⟩:=CD ns hn a j s l h (by omega)
  obtain⟨l3,s5,e3,h3,n3⟩:=wX ns hn a s js l2 (.va (.int j)) h2 (by omega)
  refine⟨l3,s5,?_,h3,by rw[n3,n2,Jp];omega⟩
  rw[Jm,ft (Z1:=[.va (.scr ns),.va (.int a),.va s,.va (.tup (l.map .int)),.va (.int j)]) rfl e2];exact e3
theorem l9 (n:Nat):rng 0 (n:Int)=(J9 n).map λ(j:Nat)=>T.int j:=by
 unfold rng;simp
theorem RdOk.reads {l:List Int}(h:RdOk l)(hl:l.length<=4):cM (.tup (l.map .int))=true:=by
 obtain⟨l',z,rfl,h1,h2,h3⟩:=h;unfold cM;rw[Jj];refine⟨?_,?_⟩
 ·simp[du];simp at hl;omega
 ·show(((l'++ [z]).map T.int).all (λu=>aY u 0 99)&&(match kj ((l'++ [z]).map T.int)with | some m=>n9 m | none=>false))=true
  rw[m9]
  show(_&&n9 (l'++ [z]))=true
  rw[h1,Bool.and_true,JP];intro t ht;obtain⟨x,hx,rfl⟩:=Kb.mp ht
  have:=h2 x hx;simp only[aY,Jj,decide_eq_true_eq];omega
theorem Bb (n:Nat)(l:List Int)(h:l.length<=n):sm n (.tup (l.map .int))=true:=sm_tup.mpr ⟨by rw[Jo];exact h,λt ht=>by obtain⟨x,_,rfl⟩:=Kb.mp ht;simp[sm]⟩
theorem Ak (ns:List Int)(hn:ns.length<=63)(a:Nat):∃c,cb [.scr ns,.int a] = .ok c/\bo c=true/\sm 8 c=true:=by
 obtain⟨d1,e1,p1,q1⟩:=bX ns a 3 hn (by omega)
 obtain⟨d2,e2,p2,q2⟩:=bX ns (a+2) 6 hn (by omega)
 obtain⟨d3,e3,p3,q3⟩:=bX ns (a+1) 3 hn (by omega)
 obtain⟨d4,e4,p4,q4⟩:=bX ns (a+6) 3 hn (by omega)
 obtain⟨n3,rfl⟩:=JL p3;obtain⟨l,s5,el,hl,nl⟩:=wX ns hn a (.int (1+d1)) (J9 n3) [d2] .em ⟨[],d2,rfl,rfl,λx hx=>by rw[JG]at hx;subst hx;simp;omega,by simp;omega⟩ (by simp;omega)
 have nl':l.length<=4:=by rw[nl];simp;omega
 have hr:=hl.reads nl';refine⟨.tup [.int (1+d1),.int (1+d1+d4),.tup (l.map .int)],cy rfl ?_,?_,?_⟩
 ·show gP [.va (.scr ns),.va (.int a),.em,.em,.em] =_
  unfold gP;rw[aH (Z':=[.va (.scr ns),.va (.int a),.va (.int (1+d1)),.em,.em]) (c6 (t:=.int (1+d1)) (aK (t:=.int 1) rfl (dk e1 rfl rfl rfl) rfl) rfl)];rw[aH (Z':=[.va (.scr ns),.va (.int a),.va (.int (1+d1)),.va (.tup ([d2].map .int)),.em]) (c6 (t:=.tup [.int d2]) (bF (ts:=[.int d2]) (ar (dk (k:=a+2) e2 rfl rfl rfl) rfl) (aE (k:=1) (by simp))) rfl)]
  rw[aH ((iD (Dg (ar (dk (k:=a+1) e3 rfl rfl rfl) rfl) (by omega) (by omega)) (by rw[l9];exact el)))]
  exact dA (bF (ar (t:=.int (1+d1)) rfl (ar (aK (t:=.int (1+d1)) rfl (dk (k:=a+6) e4 rfl rfl rfl) rfl) (ar (t:=.tup (l.map .int)) rfl rfl))) (aE (k:=3) (by simp)))
 ·show(true&&(ox (.int (1+d1)) (.int (1+d1+d4))&&cM _))=true
  rw[hr];simp only[ox,aY,Nl,Bool.and_true,Jj,decide_eq_true_eq];omega
 ·refine sm_tup.mpr ⟨by simp,λt ht=> ?_⟩
  rcases Ju.mp ht with rfl | ht
  ·simp[sm]
  ·rcases Ju.mp ht with rfl | ht
   ·simp[sm]
   ·rw[JG]at ht;subst ht;exact Bb 8 l (by omega)
theorem mf {y:T}:∀(cs:List T) (i:Nat),y∈et i cs->∃c k:Nat,y= .tup [.int c,.int k]/\i<=c/\c<i+cs.length/\k<DI (cs.getD (c - i) .non)
 | [],i,h=>by cases h
 | x::cs,i,h=>by
  rw[et]at h;rcases JN.mp h with h | h
  ·unfold lT at h
   obtain⟨t,ht,rfl⟩:=Kb.mp h;obtain⟨j,rfl,hj⟩:=qg ht;refine⟨i,j,rfl,Jw _,by rw[Jp];omega,?_⟩
   rw[MS]
   show j<DI x
   omega
  ·obtain⟨c,k,e,h1,h2,h3⟩:=mf cs (i+1) h
   refine⟨c,k,e,by omega,by rw[Jp];omega,?_⟩
   have:c - i=(c - (i+1))+1:=by omega
   rw[this];exact h3
theorem Di {cs:List T}{y:T}(h:y∈et 0 cs):aZ cs y=true:=by
 obtain⟨c,k,rfl,_,h2,h3⟩:=mf cs 0 h
 show(decide ((0:Int)<=(c:Int))&&decide ((c:Int)<(cs.length:Int))&&(decide ((0:Int)<=(k:Int))&&decide ((k:Int)<(reads cs (c:Int):Int))))=true
 rw[NO]at h3;rw[o7];simp only[Jj,decide_eq_true_eq];omega
theorem kH:∀(cs:List T) (i:Nat),(et i cs).Nodup
 | [],i=>Me
 | x::cs,i=>by
  rw[et,Kw];refine⟨?_,kH cs (i+1),?_⟩
  ·unfold lT rng
   rw[Mq];rw[MN,List.pairwise_map];refine List.nodup_range.imp ?_
   intro a b hab e
   simp at e
   exact hab (by omega)
  ·intro a ha b hb e
   subst e;unfold lT at ha;obtain⟨t,ht,rfl⟩:=Kb.mp ha;obtain⟨c,k,e,h1,_,_⟩:=mf cs (i+1) hb
   simp at e
   omega
theorem zj {l:List T}(h:l.Nodup){i j:Nat}(hi:i<l.length)(hj:j<l.length)(hij:i≠j):l[i] ≠l[j]:=by
 rw[MN,List.pairwise_iff_getElem]at h;rcases Nat.lt_or_ge i j with q | q
 ·exact h i j hi hj q
 ·exact λe=>h j i hj hi (by omega) e.symm
theorem qY:∀(cs:List T) (i:Nat),(∀c∈cs,bo c=true)->(et i cs).length<=4*cs.length
 | [],i,_=>Jw _
 | x::cs,i,h=>by
  obtain⟨a,b,r,rfl,_,h2⟩:=fS (h x Jq)
  have:=qY cs (i+1) λc hc=>h c (Jk _ hc)
  rw[et,Js,iJ,Jp]
  show r.length+_<=_
  omega
theorem Ab {cs:List T}{a b:T}(ha:aZ cs a=true)(hb:aZ cs b=true)(h:a≠b):a6 a b=false:=by
 obtain⟨c,k,rfl⟩:=cU ha;obtain⟨c',k',rfl⟩:=cU hb;rw[Bool.eq_false_iff];intro e;simp[a6,beqTs]at e;exact h (by rw[e.1,e.2])
theorem rQ {cs:List T}{a:T}(ha:aZ cs a=true):sm 8 a=true:=by
 obtain⟨c,k,rfl⟩:=cU ha;simp[sm,sms]
theorem zV {l:List T}{i:Nat}(h:i<l.length):aR (.lst l) (.int (i:Int))= .ok l[i]:=by
 show(match L2.atI l (i:Int)with | some t=>Rs.ok t | none=> .bad)=_
 rw[jS (Jv h)]
theorem jP (a b:Int):g9 (.int a) (.int b)= .ok (.bl (a == b)):=by
 unfold g9;rw[if_pos (iH (by simp[T.dep]) rfl rfl)]
 rfl
theorem pG (ns:List Int)(hn:ns.length<=63)(a:Nat)(cs:List T)(hc:a7 (.tup cs)=true):∃r,bN [.scr ns,.int a,.tup cs] = .ok r/\(r= .non\/(bh cs r=true/\sm 8 r=true)):=by
 obtain⟨ha,h1,h4⟩:=bH hc
 have hlen:=qY cs 0 ha
 have er:=Aj cs hc
 have gl:∀s4 s5 s6 s7:Sl,cl ck (ae (vr 3) ai) [.va (.scr ns),.va (.int a),.va (.tup cs),.va (.lst (et 0 cs)),s4,s5,s6,s7] = .ok (.int ((et 0 cs).length:Nat)):=λ_ _ _ _=>rfl
 have s1:c9 (cl df (ae (vr 2) ai)) (gN 3) [.va (.scr ns),.va (.int a),.va (.tup cs),.em,.em,.em,.em,.em] = .ok (.nx [.va (.scr ns),.va (.int a),.va (.tup cs),.va (.lst (et 0 cs)),.em,.em,.em,.em]):=c6 (bw (ts:=[.tup cs]) rfl er) rfl
 have lt:o2 FK (cl ck (ae (vr 3) ai)) (cn (.int 2)) [.va (.scr ns),.va (.int a),.va (.tup cs),.va (.lst (et 0 cs)),.em,.em,.em,.em] = .ok (.bl (decide (((et 0 cs).length:Int)<2))):=aK (t:=.int ((et 0 cs).length:Nat)) (u:=.int 2) (gl _ _ _ _) rfl rfl
 by_cases hs:(et 0 cs).length<2
 ·refine⟨.non,cy rfl ?_,.inl rfl⟩
  show dh [.va (.scr ns),.va (.int a),.va (.tup cs),.em,.em,.em,.em,.em] =_
  unfold dh;rw[aH s1];rw[decide_eq_true (by omega)]at lt
  exact kQ ((jw (cZ lt)).trans rfl)
 ·rw[decide_eq_false (by omega)]at lt
  generalize hN:(et 0 cs).length=n at*
  obtain⟨d1,e1,p1,q1⟩:=bX ns a (n:Int) hn (by omega)
  obtain⟨d2,e2,p2,q2⟩:=bX ns (a+1) ((n:Int) - 1) hn (by omega)
  obtain⟨d3,e3,p3,q3⟩:=bX ns (a+2) 8 hn (by omega)
  obtain⟨d4,e4,p4,q4⟩:=bX ns (a+3) 3 hn (by omega)
  obtain⟨d5,e5,p5,q5⟩:=bX ns (a+4) 9 hn (by omega)
  obtain⟨i,rfl⟩:=JL p1;obtain⟨d2,rfl⟩:=JL p2
  have hi:i<(et 0 cs).length:=by omega
  have hj:(i+1+d2) % n<(et 0 cs).length:=by rw[hN];exact Nat.mod_lt _ (by omega)
  have hij:i≠(i+1+d2) % n:=by
   rcases Nat.lt_or_ge (i+1+d2) n with q | q
   ·rw[Py q];omega
   ·have:(i+1+d2) % n=i+1+d2 - n:=by
     rw[Nat.mod_eq_sub_mod q,Py (by omega)]
    rw[this];omega
  have eA:=Di (KZ hi)
  have eB:=Di (KZ hj)
  have eN:(et 0 cs)[i] ≠(et 0 cs)[(i+1+d2) % n]:=zj (kH cs 0) hi hj hij
  generalize hA:(et 0 cs)[i] =A at*
  generalize hB:(et 0 cs)[(i+1+d2) % n] =B at*
  let y:T:=if d4 == 0 then .non else .int (d3+d5)
  refine⟨.tup [A,B,.int d3,y],cy rfl ?_,.inr ⟨?_,?_⟩⟩
  ·show dh [.va (.scr ns),.va (.int a),.va (.tup cs),.em,.em,.em,.em,.em] =_
   unfold dh;rw[aH s1];rw[aH (Z':=[.va (.scr ns),.va (.int a),.va (.tup cs),.va (.lst (et 0 cs)),.em,.em,.em,.em]) ((fw (cZ lt)).trans rfl)];rw[aH (Z':=[.va (.scr ns),.va (.int a),.va (.tup cs),.va (.lst (et 0 cs)),.va (.int (i:Nat)),.em,.em,.em]) (c6 (dk e1 rfl rfl (gl _ _ _ _)) rfl)];rw[aH (Z':=[.va (.scr ns),.va (.int a),.va (.tup cs),.va (.lst (et 0 cs)),.va (.int (i:Nat)),.va (.int ((i+1+d2) % n:Nat)),.em,.em]) (c6 (t:=.int ((i+1+d2) % n:Nat)) (aK (t:=.int ((i:Int)+1+d2)) (u:=.int n) (aK (t:=.int ((i:Int)+1)) (u:=.int d2) rfl (dk (k:=a+1) e2 rfl rfl (aK (t:=.int n) (u:=.int 1) (gl _ _ _ _) rfl rfl)) rfl) (gl _ _ _ _) (jL (by omega))) rfl)]
   rw[aH (Z':=[.va (.scr ns),.va (.int a),.va (.tup cs),.va (.lst (et 0 cs)),.va (.int (i:Nat)),.va (.int ((i+1+d2) % n:Nat)),.va (.int d3),.em]) (c6 (dk (k:=a+2) e3 rfl rfl rfl) rfl)]
   have ey:FO (tb (o2 g9 (cl ay (ae (vr 0) (ae (o2 aL (vr 1) (cn (.int 3))) (ae (cn (.int 3)) ai)))) (cn (.int 0)))) (cn .non) (o2 aL (vr 6) (cl ay (ae (vr 0) (ae (o2 aL (vr 1) (cn (.int 4))) (ae (cn (.int 9)) ai))))) [.va (.scr ns),.va (.int a),.va (.tup cs),.va (.lst (et 0 cs)),.va (.int (i:Nat)),.va (.int ((i+1+d2) % n:Nat)),.va (.int d3),.em] = .ok y:=by
    rw[Hl (cZ (aK (u:=.int 0) (dk (k:=a+3) e4 rfl rfl rfl) rfl (jP _ _)))]
    show _=Rs.ok (if d4 == 0 then T.non else .int (d3+d5))
    cases d4 == 0 with
    | true=>rfl
    | false=>exact aK (t:=.int d3) rfl (dk (k:=a+4) e5 rfl rfl rfl) rfl
   rw[aH (Z':=[.va (.scr ns),.va (.int a),.va (.tup cs),.va (.lst (et 0 cs)),.va (.int (i:Nat)),.va (.int ((i+1+d2) % n:Nat)),.va (.int d3),.va y]) (c6 ey rfl)];refine dA (bF (ar (t:=A) (aK (t:=.lst (et 0 cs)) (u:=.int (i:Nat)) rfl rfl ?_) (ar (t:=B) (aK (t:=.lst (et 0 cs)) (u:=.int ((i+1+d2) % n:Nat)) rfl rfl ?_) (ar (t:=.int d3) rfl (ar (t:=y) rfl rfl)))) (aE (k:=4) (by simp)))
   ·rw[<-hA];exact zV hi
   ·rw[<-hB];exact zV hj
  ·show(c7 (.int d3) y&&(aZ cs A&&(aZ cs B&& !a6 A B)))=true
   rw[eA,eB,Ab eA eB eN]
   have:c7 (.int d3) y=true:=by
    show(aY (.int d3) 0 999&&(match(T.int d3),(if d4 == 0 then T.non else .int (d3+d5))with | _,.non=>true | .int i,_=>aY (if d4 == 0 then T.non else .int (d3+d5)) i 999 | _,_=>false))=true
    cases d4 == 0 with
    | true=>simp[aY];omega
    | false=>simp[aY];omega
   rw[this];rfl
  ·refine sm_tup.mpr ⟨by simp,λt ht=> ?_⟩
   have hy:sm 8 y=true:=by show sm 8 (if d4 == 0 then T.non else .int (d3+d5))=true;cases d4 == 0 <;> simp[sm]
   simp only[Ju,KD,or_false]at ht;rcases ht with rfl | rfl | rfl | rfl
   ·exact rQ eA
   ·exact rQ eB
   ·simp[sm]
   ·exact hy
def okv:Rs T->T
 | .ok t=>t
 | _=> .non
theorem v5 (l:List T)(k:Int)(h : -(2 ^ 63)<=k/\k<2 ^ 63/\l.length*k.toNat<=sizeLine):b8 (.lst l) (.int k)= .ok (.lst (JH k.toNat l).flatten):=by
 show uF (.lst l) (.int k)=_
 unfold uF;exact if_pos h
theorem mul_one (x:T)(b:Bool):b8 (.lst [x]) (.int (if b then 1 else 0))= .ok (.lst (if b then [x]else [])):=by
 cases b with
 | true=>exact v5 [x] 1 ⟨by decide,by decide,aE (k:=1) (by simp)⟩
 | false=>exact v5 [x] 0 ⟨by decide,by decide,aE (k:=1) (by simp)⟩
abbrev leF:En->Rs Fl:=aC (c9 (cl bN (ae (vr 0) (ae (o2 aL (o2 aL (vr 1) (cn (.int 31))) (o2 b8 (cn (.int 6)) (vr 5))) (ae (vr 3) ai)))) (gN 6)) (c9 (o2 aL (vr 4) (o2 b8 (fF (ae (vr 6) ai)) (cl zX (ae (o2 iq (vr 6) (cn .non)) ai)))) (gN 4))
def yd (cs ls:List T):Prop:=∀t∈ls,bh cs t=true/\sm 8 t=true
theorem B8 (ns:List Int)(hn:ns.length<=63)(a j:Nat)(m:T)(cs ls:List T)(hc:a7 (.tup cs)=true)(h:yd cs ls)(hl:ls.length<=100)(s6:Sl) :
  ∃ls2 s7,leF [.va (.scr ns),.va (.int a),.va m,.va (.tup cs),.va (.lst ls),.va (.int j),s6] = .ok (.nx [.va (.scr ns),.va (.int a),.va m,.va (.tup cs),.va (.lst ls2),.va (.int j),s7])/\yd cs ls2/\ls2.length<=ls.length+1:=by
 obtain⟨r,er,hr⟩:=pG ns hn (a+31+6*j) cs hc
 have e1:∀G,aC (c9 (cl bN (ae (vr 0) (ae (o2 aL (o2 aL (vr 1) (cn (.int 31))) (o2 b8 (cn (.int 6)) (vr 5))) (ae (vr 3) ai)))) (gN 6)) G [.va (.scr ns),.va (.int a),.va m,.va (.tup cs),.va (.lst ls),.va (.int j),s6] =G [.va (.scr ns),.va (.int a),.va m,.va (.tup cs),.va (.lst ls),.va (.int j),.va r]:=λG=>by
  refine aH (c6 (t:=r) (bw (ts:=[.scr ns,.int (a+31+6*j:Nat),.tup cs]) (ar (t:=.scr ns) rfl (ar (t:=.int (a+31+6*j:Nat)) (aK (t:=.int ((a:Int)+31)) (u:=.int (6*(j:Int))) rfl (aK (t:=.int 6) (u:=.int j) rfl rfl (lp (by omega) (by omega))) rfl) (ar (t:=.tup cs) rfl rfl))) er) rfl)
 have e2:cl zX (ae (o2 iq (vr 6) (cn .non)) ai) [.va (.scr ns),.va (.int a),.va m,.va (.tup cs),.va (.lst ls),.va (.int j),.va r] = .ok (.int (if !r.isN then 1 else 0)):=bw (ts:=[.bl (!r.isN)]) rfl rfl
 refine⟨ls++(if !r.isN then [r]else []),.va r,?_,?_,?_⟩
 ·refine(e1 _).trans (c6 (aK (t:=.lst ls) (u:=.lst (if !r.isN then [r]else [])) rfl (aK (t:=.lst [r]) (nJ (ts:=[r]) rfl (aE (k:=1) (by simp))) e2 (mul_one _ _)) (w8 _ _ ?_)) rfl)
  rw[Js];cases r.isN <;> simp <;> omega
 ·intro t ht
  rcases JN.mp ht with ht | ht
  ·exact h t ht
  ·rcases hr with rfl | hr
   ·cases ht
   ·cases q:r.isN with
    | true=>rw[q]at ht;cases ht
    | false=>
     rw[q]at ht;rw[show t=r by simpa using ht]
     exact hr
 ·rw[Js]
  cases r.isN <;> simp
theorem wb (ns:List Int)(hn:ns.length<=63)(a:Nat)(m:T)(cs:List T)(hc:a7 (.tup cs)=true):∀(js:List Nat) (ls:List T) (s5 s6:Sl),yd cs ls->ls.length+js.length<=100 →
  ∃ls2 t5 t6,br (gN 5) leF (js.map λ(j:Nat)=>T.int j) [.va (.scr ns),.va (.int a),.va m,.va (.tup cs),.va (.lst ls),s5,s6] = .ok (.nx [.va (.scr ns),.va (.int a),.va m,.va (.tup cs),.va (.lst ls2),t5,t6])/\yd cs ls2/\ls2.length<=ls.length+js.length
 | [],ls,s5,s6,h,_=>⟨ls,s5,s6,rfl,h,Jw _⟩
 | j::js,ls,s5,s6,h,hl=>by
  rw[Jp]at hl;obtain⟨l2,s7,e2,h2,n2⟩:=B8 ns hn a j m cs ls hc h (by omega) s6
  obtain⟨l3,t5,t6,e3,h3,n3⟩:=wb ns hn a m cs hc js l2 (.va (.int j)) s7 h2 (by omega)
  refine⟨l3,t5,t6,?_,h3,by rw[Jp];omega⟩
  rw[Jm,ft (Z1:=[.va (.scr ns),.va (.int a),.va m,.va (.tup cs),.va (.lst ls),.va (.int j),s6]) rfl e2];exact e3
theorem Fv (ns:List Int)(hn:ns.length<=63)(a m:Nat)(hm:m<=8):∃cs ls,ee [.scr ns,.int a,.int m] = .ok (RR cs ls)/\a7 (.tup cs)=true/\cs.length<=3/\(∀c∈cs,sm 8 c=true)/\yd cs ls/\ls.length<=m:=by
 obtain⟨d1,e1,p1,q1⟩:=bX ns a 3 hn (by omega)
 obtain⟨d2,e2,p2,q2⟩:=bX ns (a+30) ((m:Int)+1) hn (by omega)
 obtain⟨d1,rfl⟩:=JL p1;obtain⟨d2,rfl⟩:=JL p2
 let hcl:T->T:=λt=>match t with
  | .int k=>okv (cb [.scr ns,.int ((a:Int)+1+8*k)])
  | _=> .non
 have hh:∀t∈rng 0 ((1+d1:Nat):Int),∃k:Nat,t= .int k/\cb [.scr ns,.int ((a+1+8*k:Nat):Int)] = .ok (hcl t)/\bo (hcl t)=true/\sm 8 (hcl t)=true:=λt ht=>by
  obtain⟨k,rfl,_⟩:=qg ht;obtain⟨c,ec,h1,h2⟩:=Ak ns hn (a+1+8*k)
  have e:hcl (.int k)=c:=by
   show okv (cb [.scr ns,.int ((a+1+8*k:Nat):Int)])=c
   rw[ec];rfl
  exact⟨k,rfl,by rw[e];exact ec,by rw[e];exact h1,by rw[e];exact h2⟩
 generalize hcs:(rng 0 ((1+d1:Nat):Int)).map hcl=cs
 have lc:cs.length=1+d1:=by rw[<-hcs,Jo,fM]
 have hc:a7 (.tup cs)=true:=by
  show(du (.tup cs) 1 4&&cs.all bo)=true
  rw[Jj,JP];refine⟨by simp[du];omega,λc h=> ?_⟩
  rw[<-hcs]at h;obtain⟨t,ht,rfl⟩:=Kb.mp h;obtain⟨_,_,_,h1,_⟩:=hh t ht;exact h1
 have hsm:∀c∈cs,sm 8 c=true:=λc h=>by
  rw[<-hcs]at h;obtain⟨t,ht,rfl⟩:=Kb.mp h;obtain⟨_,_,_,_,h1⟩:=hh t ht;exact h1
 obtain⟨ls,t5,t6,el,hl,nl⟩:=wb ns hn a (.int m) cs hc (J9 d2) [] .em .em (λt h=>by cases h) (by simp;omega)
 refine⟨cs,ls,cy rfl ?_,hc,by omega,hsm,hl,by simp at nl;omega⟩
 show gc [.va (.scr ns),.va (.int a),.va (.int m),.em,.em,.em,.em] =_
 unfold gc
 have s1:c9 (cl jB (ae (gE (iR (ae (o2 aL (cn (.int 1)) (cl ay (ae (vr 0) (ae (vr 1) (ae (cn (.int 3)) ai))))) ai)) [none,some 0,some 1] (gN 0) bT (cl cb (ae (vr 1) (ae (o2 aL (o2 aL (vr 2) (cn (.int 1))) (o2 b8 (cn (.int 8)) (vr 0))) ai)))) ai)) (gN 3) [.va (.scr ns),.va (.int a),.va (.int m),.em,.em,.em,.em] = .ok (.nx [.va (.scr ns),.va (.int a),.va (.int m),.va (.tup cs),.em,.em,.em]):=by
  refine c6 (t:=.tup cs) (bw (ts:=[.lst cs]) (ar (t:=.lst cs) ?_ rfl) rfl) rfl
  rw[<-hcs];refine xS (ts:=rng 0 ((1+d1:Nat):Int)) (h:=hcl) (Dg (ar (t:=.int ((1+d1:Nat):Int)) (aK (t:=.int 1) (u:=.int d1) rfl (dk e1 rfl rfl rfl) rfl) rfl) (by omega) (by omega)) (aE (k:=3) (by rw[fM];omega)) (by simp) λt ht=> ?_
  obtain⟨k,rfl,ek,_,_⟩:=hh t ht;refine bw (ts:=[.scr ns,.int ((a+1+8*k:Nat):Int)]) (ar (t:=.scr ns) rfl (ar (aK (t:=.int ((a:Int)+1)) (u:=.int (8*(k:Int))) rfl (aK (t:=.int 8) (u:=.int k) rfl rfl (lp (by omega) (by omega))) rfl) rfl)) ek
 rw[aH s1];rw[aH (Z':=[.va (.scr ns),.va (.int a),.va (.int m),.va (.tup cs),.va (.lst []),.em,.em]) (c6 (nJ (ts:=[]) rfl (aE (k:=0) (by simp))) rfl)]
 rw[aH ((iD (Dg (ar (dk (k:=a+30) e2 rfl rfl (aK (t:=.int m) (u:=.int 1) rfl rfl rfl)) rfl) (by omega) (by omega)) (by rw[l9];exact el)))]
 exact dA (bF (ar (t:=.tup cs) rfl (ar (t:=.tup ls) rfl rfl)) (aE (k:=2) (by simp)))
theorem cY {cs:List T}{t:T}(h:bh cs t=true):∃a b x y,t= .tup [a,b,x,y]/\c7 x y=true/\aZ cs a=true/\aZ cs b=true/\a6 a b=false:=by
 unfold bh at h
 split at h
 ·simp only[Jj,O6]at h
  exact⟨_,_,_,_,rfl,h.1,h.2.1,h.2.2.1,h.2.2.2⟩
 ·cases h
theorem DH {cs ls:List T}(hc:a7 (.tup cs)=true)(hs:∀c∈cs,sm 8 c=true)(hl:yd cs ls)(hn:ls.length<=8):dB (RR cs ls)=true/\sm 8 (RR cs ls)=true:=by
 refine⟨?_,?_⟩
 ·show(a7 (.tup cs)&&(du (.tup ls) 0 8&&ls.all (bh cs)))=true
  rw[hc,Nl,Jj,JP];exact⟨by simp[du];exact hn,λt ht=>(hl t ht).1⟩
 ·refine sm_tup.mpr ⟨by simp,λt ht=> ?_⟩
  simp only[Ju,KD,or_false]at ht;rcases ht with rfl | rfl
  ·exact sm_tup.mpr ⟨by have:=(bH hc).2.2;omega,hs⟩
  ·exact sm_tup.mpr ⟨hn,λt ht=>(hl t ht).2⟩
end G
namespace Tr
open PySem
section
variable {f fa fb:En->Rs T}{fs:En->Rs (List T)}{b c:En->Rs Bool}{F G:En->Rs Fl}{Z Z' Z1 Z2:En}{t u r:T}{ts l m:List T}
mutual
theorem kX:∀(t:T),t.pl=true->a6 t t=true
 | .non,_=>rfl
 | .bl a,_=>by simp[a6]
 | .int a,_=>by simp[a6]
 | .str a,_=>by simp[a6]
 | .tup l,h=>by rw[a6];exact beqTs_refl l (by unfold T.pl at h;exact h)
 | .lst l,h=>by rw[a6];exact beqTs_refl l (by unfold T.pl at h;exact h)
 | .scr _,h=>by simp[T.pl]at h
theorem beqTs_refl:∀(l:List T),plS l=true->beqTs l l=true
 | [],_=>rfl
 | t::l,h=>by
  unfold plS at h;rw[Jj]at h;rw[beqTs,kX t h.1,beqTs_refl l h.2];rfl
end
theorem kn (hp:t.pl=true)(hd:t.dep<=60):fE t t= .ok (.bl false):=by
 unfold fE;rw[if_pos (iH hd (T.Iu _ hp) (T.Iu _ hp)),kX t hp];rfl
theorem qZ (hp:t.pl=true)(hd:t.dep<=60):g9 t t= .ok (.bl true):=by
 unfold g9;rw[if_pos (iH hd (T.Iu _ hp) (T.Iu _ hp)),kX t hp]
theorem rf {n:Nat}:∀{l:List T},(∀t∈l,t.dep<=n)->deps l<=n
 | [],_=>by unfold deps;omega
 | t::l,h=>by
  unfold deps
  have:=rf (l:=l) λu hu=>h u (Jk _ hu)
  have:=h t Jq;omega
theorem gy:∀{l:List T},(∀t∈l,t.pl=true)->plS l=true
 | [],_=>rfl
 | t::l,h=>by unfold plS;rw[h t Jq,gy λu hu=>h u (Jk _ hu)];rfl
theorem EL {n:Nat}(hn:n<=59)(h:∀t∈l,t.pl=true/\t.dep<=n):fE (.lst l) (.lst l)= .ok (.bl false):=
 kn (by unfold T.pl;exact gy λt ht=>(h t ht).1) (by unfold T.dep;have:=rf (l:=l) (n:=n) λt ht=>(h t ht).2;omega)
end
end Tr
namespace G
open PySem Tr
def dr (r:List Int)(k:Nat):Int:=r.getD (k+1) 0 - r.getD k 0
def pr (n:Nat)(x y:Int)(r:List Int)(k:Nat):List T:=
 [.tup [.tup [.int n,.int k],.tup [.int n,.int ((k+1:Nat):Int)],.int (dr r k*y)],.tup [.tup [.int n,.int ((k+1:Nat):Int)],.tup [.int n,.int k],.int (-dr r k*x)]]
def cB (n:Nat)(x y:Int)(r:List Int):List T:=(J9 (r.length - 1)).flatMap (pr n x y r)
abbrev AD (n:Nat)(x y:Int)(r:List Int)(acc:List T)(s4 s5 s6 s7:Sl):En:=[.va (.int n),.va (.tup [.int x,.int y,.tup (r.map .int)]),.va (.tup (r.map .int)),.ow (.lst acc),s4,s5,s6,s7]
abbrev bcF:En->Rs Fl:=(aC (c9 (aU (ae (vr 0) (ae (vr 4) ai))) (gN 5)) (aC (c9 (aU (ae (vr 0) (ae (o2 aL (vr 4) (cn (.int 1))) ai))) (gN 6)) (aC (c9 (o2 cV (o2 aR (vr 2) (o2 aL (vr 4) (cn (.int 1)))) (o2 aR (vr 2) (vr 4))) (gN 7)) (aC (lF 3 (aU (ae (vr 5) (ae (vr 6) (ae (o2 b8 (vr 7) (o2 aR (vr 1) (cn (.int 1)))) ai))))) (lF 3 (aU (ae (vr 6) (ae (vr 5) (ae (o2 b8 (o1 ji (vr 7)) (o2 aR (vr 1) (cn (.int 0)))) ai)))))))))
theorem mn {r:List Int}{k:Nat}(h:k<r.length):(r.map T.int)[k]? =some (.int (r.getD k 0)):=by
 rw[JA,Jv h]
 simp[h]
theorem CH (n:Nat)(x y:Int)(r:List Int)(acc:List T)(k:Nat)(s5 s6 s7:Sl)(hk:k+1<r.length)(hx:0<=x/\x<=9)(hy:0<=y/\y<=9)(ha:acc.length<=100) :
  bcF (AD n x y r acc (.va (.int k)) s5 s6 s7)= .ok (.nx (AD n x y r (acc++pr n x y r k) (.va (.int k)) (.va (.tup [.int n,.int k])) (.va (.tup [.int n,.int ((k+1:Nat):Int)])) (.va (.int (dr r k))))):=by
 have h2:([T.int n,T.int k]:List T).length<=sizeLine:=aE (k:=2) (by simp)
 have ek:((k:Int)+1)=((k+1:Nat):Int):=by omega
 refine(aH (Z':=AD n x y r acc (.va (.int k)) (.va (.tup [.int n,.int k])) s6 s7) (c6 (bF rfl (aE (k:=2) (by simp))) rfl)).trans ?_
 refine(aH (Z':=AD n x y r acc (.va (.int k)) (.va (.tup [.int n,.int k])) (.va (.tup [.int n,.int ((k+1:Nat):Int)])) s7) (c6 (bF (ar rfl (ar (t:=.int ((k+1:Nat):Int)) (aK (t:=.int k) (u:=.int 1) rfl rfl (congrArg (λz=>Rs.ok (T.int z)) ek)) rfl)) (aE (k:=2) (by simp))) rfl)).trans ?_
 refine(aH (Z':=AD n x y r acc (.va (.int k)) (.va (.tup [.int n,.int k])) (.va (.tup [.int n,.int ((k+1:Nat):Int)])) (.va (.int (dr r k)))) (c6 (t:=.int (dr r k)) (aK (t:=.int (r.getD (k+1) 0)) (u:=.int (r.getD k 0)) (qU (n:=k+1) rfl (aK (t:=.int k) (u:=.int 1) rfl rfl (congrArg (λz=>Rs.ok (T.int z)) ek)) (mn hk)) (qU (n:=k) rfl rfl (mn (by omega))) rfl) rfl)).trans ?_
 refine(aH (Z':=AD n x y r (acc++ [.tup [.tup [.int n,.int k],.tup [.int n,.int ((k+1:Nat):Int)],.int (dr r k*y)]]) (.va (.int k)) (.va (.tup [.int n,.int k])) (.va (.tup [.int n,.int ((k+1:Nat):Int)])) (.va (.int (dr r k)))) (wz (l:=acc) (bF (ar rfl (ar rfl (ar (aK (t:=.int (dr r k)) (u:=.int y) rfl rfl (zo (by omega) (by omega))) rfl))) (aE (k:=3) (by simp))) rfl (by omega))).trans ?_
 refine(wz (l:=acc++ [.tup [.tup [.int n,.int k],.tup [.int n,.int ((k+1:Nat):Int)],.int (dr r k*y)]]) (bF (ar rfl (ar rfl (ar (aK (t:=.int (-dr r k)) (u:=.int x) rfl rfl (zo (by omega) (by omega))) rfl))) (aE (k:=3) (by simp))) rfl (by rw[Js];simp;omega)).trans ?_
 rw[Kj]
 rfl
theorem w6 (n:Nat)(x y:Int)(r:List Int)(hx:0<=x/\x<=9)(hy:0<=y/\y<=9):∀(js:List Nat) (acc:List T) (s4 s5 s6 s7:Sl),(∀k∈js,k+1<r.length)->acc.length+2*js.length<=100 →
  ∃t4 t5 t6 t7,br (gN 4) bcF (js.map λ(k:Nat)=>T.int k) (AD n x y r acc s4 s5 s6 s7)= .ok (.nx (AD n x y r (acc++js.flatMap (pr n x y r)) t4 t5 t6 t7))
 | [],acc,s4,s5,s6,s7,_,_=>⟨s4,s5,s6,s7,by simp[br]⟩
 | k::js,acc,s4,s5,s6,s7,hk,hl=>by
  rw[Jp]at hl
  have e:=CH n x y r acc k s5 s6 s7 (hk k Jq) hx hy (by omega)
  obtain⟨t4,t5,t6,t7,ih⟩:=w6 n x y r hx hy js (acc++pr n x y r k) (.va (.int k)) (.va (.tup [.int n,.int k])) (.va (.tup [.int n,.int ((k+1:Nat):Int)])) (.va (.int (dr r k))) (λj hj=>hk j (Jk _ hj)) (by rw[Js];simp[pr];omega)
  refine⟨t4,t5,t6,t7,?_⟩
  rw[Jm,ft (Z1:=AD n x y r acc (.va (.int k)) s5 s6 s7) rfl e,ih,M8,Kj]
theorem Ap (n:Nat)(x y:Int)(r:List Int)(hx:0<=x/\x<=9)(hy:0<=y/\y<=9)(h1:1<=r.length)(h4:r.length<=4):b9 [.int n,.tup [.int x,.int y,.tup (r.map .int)]] = .ok (.lst (cB n x y r)):=by
 refine cy rfl ?_
 show dQ [.va (.int n),.va (.tup [.int x,.int y,.tup (r.map .int)]),.em,.em,.em,.em,.em,.em] =_
 unfold dQ;rw[aH (Z':=[.va (.int n),.va (.tup [.int x,.int y,.tup (r.map .int)]),.va (.tup (r.map .int)),.em,.em,.em,.em,.em]) (c6 (t:=.tup (r.map .int)) rfl rfl)];rw[aH (Z':=AD n x y r [] .em .em .em .em) rfl];obtain⟨t4,t5,t6,t7,e⟩:=w6 n x y r hx hy (J9 (r.length - 1)) [] .em .em .em .em (λk hk=>by have:=KS.mp hk;omega) (by simp;omega)
 have e1:iR (ae (o2 cV (cl ck (ae (vr 2) ai)) (cn (.int 1))) ai) (AD n x y r [] .em .em .em .em)= .ok (rng 0 ((r.length - 1:Nat):Int)):=by
  refine Dg (j:=((r.length - 1:Nat):Int)) (ar (aK (t:=.int (r.length:Nat)) (u:=.int 1) (bw (ts:=[.tup (r.map .int)]) rfl (by show Rs.ok (T.int ((r.map T.int).length:Nat))=_;rw[Jo])) rfl (congrArg (λz=>Rs.ok (T.int z)) (by omega))) rfl) (by omega) (by omega)
 rw[aH ((iD (ts:=(J9 (r.length - 1)).map λ(k:Nat)=>T.int k) (by rw[e1,l9]) e))]
 rfl
theorem dZ {t:T}(h:bo t=true):∃(x y:Int) (r:List Int),t= .tup [.int x,.int y,.tup (r.map .int)]/\(0<=x/\x<=9)/\(0<=y/\y<=9)/\1<=r.length/\r.length<=4:=by
 obtain⟨x,y,r,rfl,h1,h4⟩:=fS h
 have h':(ox x y&&cM (.tup r))=true:=h;rw[Jj]at h';obtain⟨hp,hr⟩:=h';unfold ox at hp;rw[Jj]at hp;obtain⟨i,rfl,i1,i2⟩:=cg hp.1;obtain⟨j,rfl,j1,j2⟩:=cg (t:=y) (a:=i) (b:=9) hp.2;unfold cM at hr;rw[Jj]at hr
 have hr2:((r.all λu=>aY u 0 99)&&(match kj r with | some m=>n9 m | none=>false))=true:=hr.2
 rw[Jj]at hr2;obtain⟨m,em⟩:=qF hr2.1
 have e:=m8 em;subst e;rw[Jo]at h1 h4;exact⟨i,j,m,rfl,⟨by omega,by omega⟩,⟨by omega,by omega⟩,h1,h4⟩
def xB (n:Nat)(t:T):List T:=match t with
 | .tup [.int x,.int y,.tup r] =>match kj r with
  | some m=>cB n x y m
  | none=> []
 | _=> []
def bC:Nat->List T->List T
 | _,[] => []
 | i,c::r=>xB i c++bC (i+1) r
def lB (t:T):List T:=match t with
 | .tup [a,b,.int le,mo] => .tup [b,a,.int (-le)] ::(if mo.isN then []else [.tup [a,b,mo]])
 | _=> []
def FQ (cs ls:List T):List T:=bC 0 cs++ls.flatMap lB
theorem vt (n:Nat)(x y:Int)(r:List Int):xB n (.tup [.int x,.int y,.tup (r.map .int)])=cB n x y r:=by
 unfold xB;simp only[m9]
theorem FF (n:Nat)(x y:Int)(r:List Int):(cB n x y r).length=2*(r.length - 1):=by
 unfold cB;rw[List.length_flatMap]
 have:∀l:List Nat,(l.map λk=>(pr n x y r k).length).sum=2*l.length:=by
  intro l
  induction l with
  | nil=>rfl
  | cons a l ih=>rw[Jm,K0,ih,Jp];simp[pr];omega
 rw[this,Lj]
theorem yx {n:Nat}{t:T}(h:bo t=true):(xB n t).length<=6:=by
 obtain⟨x,y,r,rfl,_,_,h1,h4⟩:=dZ h;rw[vt,FF];omega
theorem u9:∀{cs:List T} {i:Nat},(∀c∈cs,bo c=true)->(bC i cs).length<=6*cs.length
 | [],i,_=>by simp[bC]
 | c::cs,i,h=>by
  rw[bC,Js,Jp]
  have:=yx (n:=i) (h c Jq)
  have:=u9 (cs:=cs) (i:=i+1) λc hc=>h c (Jk _ hc)
  omega
theorem zE (t:T):(lB t).length<=2:=by
 unfold lB;split
 ·rename_i a b le mo
  cases mo.isN <;> simp
 ·simp
theorem wg:∀(ls:List T),(ls.flatMap lB).length<=2*ls.length
 | [] =>by simp
 | t::ls=>by
  rw[M8,Js,Jp]
  have:=zE t
  have:=wg ls;omega
theorem lr {cs:List T}{t:T}(h:bh cs t=true):∃(a b mo:T) (le:Int),t= .tup [a,b,.int le,mo]/\aZ cs a=true/\aZ cs b=true:=by
 obtain⟨a,b,x,y,rfl,hd,ha,hb,_⟩:=cY h;unfold c7 at hd;rw[Jj]at hd;obtain⟨i,rfl,_⟩:=cg hd.1;exact⟨a,b,y,i,rfl,ha,hb⟩
theorem xY {cs:List T}{t:T}(h:bh cs t=true):bU [t] = .ok (.lst (lB t)):=by
 obtain⟨a,b,mo,le,rfl,_,_⟩:=lr h;refine cy rfl ?_
 show dv [.va (.tup [a,b,.int le,mo]),.em] =_
 unfold dv;rw[aH (Z':=[.va (.tup [a,b,.int le,mo]),.ow (.lst [.tup [b,a,.int (-le)]])]) (uM (l:=[.tup [b,a,.int (-le)]]) (ar (bF (ar rfl (ar rfl (ar rfl rfl))) (aE (k:=3) (by simp))) rfl) (by simp) (by simp))]
 have e:∀(Z:En) l,Z= [.va (.tup [a,b,.int le,mo]),.ow (.lst l)]->o2 iq (o2 aR (vr 0) (cn (.int 3))) (cn .non) Z= .ok (.bl (!mo.isN)):=λZ l z=>by subst z;rfl
 have e2:lB (.tup [a,b,.int le,mo])= .tup [b,a,.int (-le)] ::(if mo.isN then []else [.tup [a,b,mo]]):=rfl
 rw[e2]
 cases q:mo.isN with
 | true=>
  rw[aH (Z':=[.va (.tup [a,b,.int le,mo]),.ow (.lst [.tup [b,a,.int (-le)]])]) ((fw (cZ (by rw[e _ _ rfl,q];rfl))).trans rfl)]
  rfl
 | false=>
  rw[aH (Z':=[.va (.tup [a,b,.int le,mo]),.ow (.lst ([.tup [b,a,.int (-le)]] ++ [.tup [a,b,mo]]))]) ((jw (cZ (by rw[e _ _ rfl,q];rfl))).trans (wz (l:=[.tup [b,a,.int (-le)]]) (bF (ar rfl (ar rfl (ar rfl rfl))) (aE (k:=3) (by simp))) rfl (by simp)))]
  rfl
abbrev bdF:En->Rs Fl:=mP 1 (cl b9 (ae (vr 2) (ae (vr 3) ai)))
abbrev bdG:T->En->Rs En:=gT 2 (sW (gN 2) (sW (gN 3) AS))
theorem w4 (R:T)(s4:Sl):∀(cs:List T) (acc:List T) (i:Nat) (s2 s3:Sl),(∀c∈cs,bo c=true)->acc.length+6*cs.length<=100 →
  ∃y2 y3,br bdG bdF (cF i cs) [.va R,.ow (.lst acc),s2,s3,s4] = .ok (.nx [.va R,.ow (.lst (acc++bC i cs)),y2,y3,s4])
 | [],acc,i,s2,s3,_,_=>⟨s2,s3,by simp[cF,br,bC]⟩
 | c::cs,acc,i,s2,s3,hc,hl=>by
  have h0:=hc c Jq
  have hx:=yx (n:=i) h0;obtain⟨x,y,r,rfl,a1,a2,a3,a4⟩:=dZ h0;rw[Jp]at hl;rw[vt]at hx
  have st:bdF [.va R,.ow (.lst acc),.va (.int i),.va (.tup [.int x,.int y,.tup (r.map .int)]),s4] = .ok (.nx [.va R,.ow (.lst (acc++cB i x y r)),.va (.int i),.va (.tup [.int x,.int y,.tup (r.map .int)]),s4]):=
   zT (l:=acc) (bw (ts:=[.int i,.tup [.int x,.int y,.tup (r.map .int)]]) rfl (Ap i x y r a1 a2 a3 a4)) rfl (by omega)
  obtain⟨z2,z3,ih⟩:=w4 R s4 cs (acc++cB i x y r) (i+1) (.va (.int i)) (.va (.tup [.int x,.int y,.tup (r.map .int)])) (λc h=>hc c (Jk _ h)) (by rw[Js];omega)
  refine⟨z2,z3,?_⟩
  rw[cF,ft (Z1:=[.va R,.ow (.lst acc),.va (.int i),.va (.tup [.int x,.int y,.tup (r.map .int)]),s4]) rfl st,ih,bC,vt,Kj]
abbrev blF:En->Rs Fl:=mP 1 (cl bU (ae (vr 4) ai))
theorem wY (R:T)(cs:List T)(s2 s3:Sl):∀(ls:List T) (acc:List T) (s4:Sl),(∀t∈ls,bh cs t=true)->acc.length+2*ls.length<=100 →
  ∃y4,br (gN 4) blF ls [.va R,.ow (.lst acc),s2,s3,s4] = .ok (.nx [.va R,.ow (.lst (acc++ls.flatMap lB)),s2,s3,y4])
 | [],acc,s4,_,_=>⟨s4,by simp[br]⟩
 | t::ls,acc,s4,hl,hn=>by
  rw[Jp]at hn
  have:=zE t
  have st:blF [.va R,.ow (.lst acc),s2,s3,.va t] = .ok (.nx [.va R,.ow (.lst (acc++lB t)),s2,s3,.va t]):=zT (l:=acc) (bw (ts:=[t]) rfl (xY (hl t Jq))) rfl (by omega)
  obtain⟨y4,ih⟩:=wY R cs s2 s3 ls (acc++lB t) (.va t) (λu h=>hl u (Jk _ h)) (by rw[Js];omega)
  refine⟨y4,?_⟩
  rw[ft (Z1:=[.va R,.ow (.lst acc),s2,s3,.va t]) rfl st,ih,M8,Kj]
theorem fj {R:T}(hp:R.pl=true)(h:dB R=true):aM [R] = .ok .non:=by
 refine zN (Z:=[.va R]) rfl ?_
 show dg [.va R] =_
 unfold dg;exact(fw ((wq (k:=true) (cZ (bw (ts:=[R]) rfl (by rw[ti R hp,h])))))).trans rfl
theorem xI {R:T}(hp:R.pl=true)(h:dB R=false):aM [R] = .err "NoRecord":=by
 refine uL rfl ?_
 show dg [.va R] =_
 unfold dg;exact(jw ((wq (k:=false) (cZ (bw (ts:=[R]) rfl (by rw[ti R hp,h])))))).trans rfl
structure Good (cs ls:List T):Prop where
 c:a7 (.tup cs)=true
 l:∀t∈ls,bh cs t=true
 n:ls.length<=8
 p:(RR cs ls).pl=true
theorem Good.ok {cs ls:List T}(g:Good cs ls):dB (RR cs ls)=true:=by
 show(a7 (.tup cs)&&(du (.tup ls) 0 8&&ls.all (bh cs)))=true
 rw[g.c,Nl,Jj,JP];exact⟨by simp[du];exact g.n,g.l⟩
theorem An {cs ls:List T}(g:Good cs ls):iA [RR cs ls] = .ok (.lst (FQ cs ls)):=by
 obtain⟨hc,c1,c4⟩:=bH g.c
 have hn:=g.n;refine cy rfl ?_
 show n6 [.va (RR cs ls),.em,.em,.em,.em] =_
 unfold n6;rw[aH (sV (t:=.non) (bw (ts:=[RR cs ls]) rfl (fj g.p g.ok)))];rw[aH (Z':=[.va (RR cs ls),.ow (.lst []),.em,.em,.em]) (uN (by simp))]
 obtain⟨y2,y3,e⟩:=w4 (RR cs ls) .em cs [] 0 .em .em hc (by simp;omega)
 rw[aH ((iD (ts:=cF 0 cs) rfl e))]
 have:=u9 (i:=0) hc;obtain⟨y4,e2⟩:=wY (RR cs ls) cs y2 y3 ls ([] ++bC 0 cs) .em g.l (by rw[MA];omega)
 rw[aH ((iD (ts:=ls) rfl e2))]
 rfl
theorem iR2 {f:En->Rs (List T)}{Z:En}{i j:Int}(h:f Z= .ok [.int i,.int j])(h0:0<=i)(h1:i<=100000)(h2:0<=j)(h3:j<=100000):iR f Z= .ok (rng i j):=by
 unfold iR;rw[h]
 have e:(oM i&&oM j)=true:=by unfold oM;simp;omega
 show(if (oM i&&oM j)=true then _ else _)=_
 rw[e];rfl
theorem ik {l:List T}:(T.tup l).pl=plS l:=by unfold T.pl;rfl
theorem Good.parts {cs ls:List T}(g:Good cs ls):(T.tup cs).pl=true/\∀t∈ls,t.pl=true:=by
 have:=g.p;rw[ik]at this;unfold plS at this;rw[Jj]at this
 have h2:=this.2;unfold plS at h2;rw[Jj,ik]at h2;exact⟨this.1,λt ht=>eQ h2.1 ht⟩
theorem Good.sub {cs ls ms:List T}(g:Good cs ls)(hm:∀t∈ms,t∈ls)(hn:ms.length<=8):Good cs ms:=⟨g.c,λt ht=>g.l t (hm t ht),hn,by
 obtain⟨h1,h2⟩:=g.parts;rw[ik];refine gy λt ht=> ?_
 simp only[Ju,KD,or_false]at ht;rcases ht with rfl | rfl
 ·exact h1
 ·rw[ik];exact gy λt ht=>h2 t (hm t ht)⟩
theorem Dj {cs:List T}{y:T}(h:aZ cs y=true):y.pl=true/\y.dep<=1:=by
 obtain⟨c,k,rfl⟩:=cU h;exact⟨rfl,by simp[T.dep,deps]⟩
theorem G4 {cs:List T}{a b x y:T}(h:bh cs (.tup [a,b,x,y])=true):y.pl=true/\y.dep=0:=by
 obtain⟨a',b',x',y',e,hd,_⟩:=cY h;cases e;unfold c7 at hd;rw[Jj]at hd;obtain⟨i,rfl,_⟩:=cg hd.1
 cases y with
 | non=>exact⟨rfl,rfl⟩
 | int j=>exact⟨rfl,rfl⟩
 | bl j=>exact⟨rfl,rfl⟩
 | str j=>exact⟨rfl,rfl⟩
 | tup j=>cases hd.2
 | lst j=>cases hd.2
 | scr j=>cases hd.2
 | dct _ _=>cases hd.2
 | ob _ _ _=>cases hd.2
abbrev peF:En->Rs Fl:=mP 1 (gE (iR (ae (cl ck (ae (o2 aR (vr 3) (cn (.int 2))) ai)) ai)) [none,some 2] (gN 0) bT (aU (ae (vr 1) (ae (vr 0) ai))))
theorem vO (c0 s1:Sl)(x y:T)(r:List T)(i:Nat)(h:r.length<=4) :
  gE (iR (ae (cl ck (ae (o2 aR (vr 3) (cn (.int 2))) ai)) ai)) [none,some 2] (gN 0) bT (aU (ae (vr 1) (ae (vr 0) ai))) [c0,s1,.va (.int i),.va (.tup [x,y,.tup r])] = .ok (.lst (lT i r.length)):=
 xS (Dg (j:=(r.length:Int)) rfl (by omega) (by omega)) (aE (k:=4) (by rw[fM];exact h)) (by simp) λt _=>mk2 _ _
theorem vN:∀(cs:List T) (c0:T) (acc:List T) (i:Nat) (s2 s3:Sl),(∀c∈cs,bo c=true)->acc.length+4*cs.length<=100 →
  ∃y2 y3,br evG peF (cF i cs) [.va c0,.ow (.lst acc),s2,s3] = .ok (.nx [.va c0,.ow (.lst (acc++et i cs)),y2,y3])
 | [],c0,acc,i,s2,s3,_,_=>⟨s2,s3,by simp[cF,br,et]⟩
 | c::cs,c0,acc,i,s2,s3,hc,hl=>by
  obtain⟨x,y,r,rfl,r1,r2⟩:=fS (hc c Jq);rw[Jp]at hl
  have st:peF [.va c0,.ow (.lst acc),.va (.int i),.va (.tup [x,y,.tup r])] = .ok (.nx [.va c0,.ow (.lst (acc++lT i r.length)),.va (.int i),.va (.tup [x,y,.tup r])]):=zT (l:=acc) (vO _ _ x y r i r2) rfl (by rw[iJ];omega)
  obtain⟨z2,z3,ih⟩:=vN cs c0 (acc++lT i r.length) (i+1) (.va (.int i)) (.va (.tup [x,y,.tup r])) (λc h=>hc c (Jk _ h)) (by rw[Js,iJ];omega)
  refine⟨z2,z3,?_⟩
  rw[cF,ft (Z1:=[.va c0,.ow (.lst acc),.va (.int i),.va (.tup [x,y,.tup r])]) rfl st,ih,et,Kj]
  rfl
theorem y9 {cs ls:List T}(g:Good cs ls):iz [RR cs ls] = .ok (.lst (et 0 cs)):=by
 obtain⟨hc,c1,c4⟩:=bH g.c;refine cy rfl ?_
 show n5 [.va (RR cs ls),.em,.em,.em] =_
 unfold n5;rw[aH (sV (t:=.non) (bw (ts:=[RR cs ls]) rfl (fj g.p g.ok)))];rw[aH (Z':=[.va (RR cs ls),.ow (.lst []),.em,.em]) (uN (by simp))]
 obtain⟨y2,y3,e⟩:=vN cs (RR cs ls) [] 0 .em .em hc (by simp;omega)
 rw[aH ((iD (ts:=cF 0 cs) rfl e))]
 rfl
theorem p2 {a b:En->Rs T}{t u:T}{Z:En}(ha:a Z= .ok t)(hb:b Z= .ok u):aU (ae a (ae b ai)) Z= .ok (.tup [t,u]):=bF (ar ha (ar hb rfl)) (aE (k:=2) (by simp))
theorem CG {cs ls:List T}(g:Good cs ls):(FQ cs ls).length<=60:=by
 unfold FQ;rw[Js];obtain⟨hc,c1,c4⟩:=bH g.c
 have:=u9 (i:=0) hc
 have:=wg ls
 have:=g.n;omega
end G
namespace G
open PySem Tr Gr
structure N2 where
 c:Int
 k:Int
deriving DecidableEq
theorem N2.ext':∀{u v:N2},u.c=v.c->u.k=v.k->u=v
 | ⟨_,_⟩,⟨_,_⟩,rfl,rfl=>rfl
def en (v:N2):T:=.tup [.int v.c,.int v.k]
def eB (x:N2×N2×Int):T:=.tup [en x.1,en x.2.1,.int x.2.2]
def eN (ks:List Nat):List T:=ks.map λk=> .int (k:Nat)
def eW (x:Int×List Nat):T:=.tup [.int x.1,.lst (eN x.2)]
def ky (v:N2):List L2.Key:=[.inl v.c,.inl v.k]
theorem cE (v:N2):keyOf (en v)=some (ky v):=rfl
theorem qR {u v:N2}(h:some (ky u)=some (ky v)):u=v:=by
 injection h with h
 injection h with h1 h2
 injection h2 with h2 _
 injection h1 with h1
 injection h2 with h2
 exact N2.ext' h1 h2
theorem Fq {u v:N2}(h:en u=en v):u=v:=qR (by rw[<-cE u,<-cE v,h])
theorem AB (u v:N2):a6 (en u) (en v)=decide (u=v):=by
 unfold en a6 beqTs a6 beqTs beqTs
 by_cases h:u=v
 ·subst h;simp[a6]
 ·have:¬ (u.c=v.c/\u.k=v.k):=λz=>h (N2.ext' z.1 z.2)
  simp[h,a6];exact λz=>λy=>this ⟨z,y⟩
theorem wR (g:N2->T)(v:N2):∀(ns:List N2),oN (ns.map en) (ns.map g) (ky v)=if v∈ns then some (g v)else none
 | [] =>rfl
 | u::ns=>by
  rw[Jm,Jm,oN,cE]
  by_cases h:u=v
  ·subst h;rw[if_pos rfl,if_pos Jq]
  ·rw[if_neg (λz=>h (qR z)),wR g v ns]
   have:(v∈u::ns)↔v∈ns:=by rw[Ju];exact⟨λz=>z.elim (λy=>absurd y.symm h) id,.inr⟩
   simp only[this]
theorem nP (x:T)(v:N2)(g:N2->T):∀(ns:List N2),v∉ns->gH (en v) x (ns.map en) (ns.map g)=(ns.map en++ [en v],ns.map g++ [x])
 | [],_=>rfl
 | u::ns,h=>by
  rw[Ju,not_or]at h;rw[Jm,Jm,gH,cE,cE,if_neg (λz=>h.1 (qR z).symm),nP x v g ns h.2]
  rfl
theorem wO (x:T)(v:N2)(g:N2->T):∀(ns:List N2),ns.Nodup->v∈ns->gH (en v) x (ns.map en) (ns.map g)=(ns.map en,ns.map λu=>if u=v then x else g u)
 | [],_,h=>by simp at h
 | u::ns,hn,h=>by
  rw[JX]at hn;rw[Jm,Jm,Jm,gH,cE,cE]
  by_cases z:u=v
  ·subst z
   rw[if_pos rfl,if_pos rfl]
   congr 2
   exact KN λw hw=>by rw[if_neg (λ(y:w=u)=>hn.1 (y▸hw))]
  ·rw[if_neg (λy=>z (qR y)),if_neg z]
   have h':v∈ns:=(Ju.mp h).elim (λy=>absurd y.symm z) id
   rw[wO x v g ns hn.2 h']
theorem i7 {α:Type}[DecidableEq α]:∀{l m:List α},l.Nodup->(∀x∈l,x∈m)->l.length<=m.length
 | [],_,_,_=>Ld _
 | x::l,m,hn,h=>by
  rw[JX]at hn
  have hx:=h x Jq
  have:=i7 (m:=m.erase x) hn.2 λy hy=>(N8 (λ(z:y=x)=>hn.1 (z▸hy))).mpr (h y (Jk _ hy))
  rw[List.length_erase_of_mem hx]at this
  have:0<m.length:=List.length_pos_of_mem hx;rw[Jp];omega
def oW (o:Option (Int×List Nat)):T:=match o with
 | some x=>eW x
 | none=> .non
structure DR (P ns:List N2)(b:bZ N2):Prop where
 nd:ns.Nodup
 mem:∀v,v∈ns↔(b v).isSome=true
 sub:∀v∈ns,v∈P
def dV (ns:List N2)(b:bZ N2):List T:=ns.map λv=>oW (b v)
theorem DR.get {P ns:List N2}{b:bZ N2}(D:DR P ns b)(v:N2):oN (ns.map en) (dV ns b) (ky v)=(b v).map eW:=by
 unfold dV;rw[wR (λv=>oW (b v))]
 have:=D.mem v
 cases q:b v with
 | none=>rw[q]at this;rw[if_neg (λz=>by simpa using this.mp z)];rfl
 | some x=>rw[q]at this;rw[if_pos (this.mpr rfl)];rfl
theorem DR.put {P ns:List N2}{b:bZ N2}(D:DR P ns b){v:N2}(hv:v∈P)(y:Int×List Nat):∃ns',DR P ns' (Gr.put b v y)/\gH (en v) (eW y) (ns.map en) (dV ns b)=(ns'.map en,dV ns' (Gr.put b v y)):=by
 by_cases h:v∈ns
 ·refine⟨ns,⟨D.nd,λu=> ?_,D.sub⟩,?_⟩
  ·by_cases z:u=v
   ·subst z;rw[dJ];exact⟨λ_=>rfl,λ_=>h⟩
   ·rw[jD z];exact D.mem u
  ·unfold dV
   rw[wO _ _ _ _ D.nd h]
   congr 1
   refine KN λu _=> ?_
   by_cases z:u=v
   ·subst z;rw[if_pos rfl,dJ];rfl
   ·rw[if_neg z,jD z]
 ·refine⟨ns++ [v],⟨?_,λu=> ?_,λu hu=> ?_⟩,?_⟩
  ·exact Kw.mpr ⟨D.nd,by simp,λx hx y hy=>by simp at hy;subst hy;exact λz=>h (z▸hx)⟩
  ·rw[JN,JG]
   by_cases z:u=v
   ·subst z;rw[dJ];exact⟨λ_=>rfl,λ_=> .inr rfl⟩
   ·rw[jD z,<-D.mem u];exact⟨λw=>w.elim id λy=>absurd y z,.inl⟩
  ·rcases JN.mp hu with w | w
   ·exact D.sub u w
   ·rw[JG.mp w];exact hv
  ·unfold dV
   rw[nP _ _ _ _ h,KB,KB]
   congr 1
   congr 1
   ·refine KN λu hu=> ?_
    rw[jD (λ(z:u=v)=>h (z▸hu))]
   ·simp[dJ,oW]
theorem Ao {P ns:List N2}{b:bZ N2}(D:DR P ns b)(x:N2×N2×Int)(d:Int)(w:List Nat) :
  cS [.dct (ns.map en) (dV ns b),eB x,eW (d,w)] = .ok (.bl (dP b x.2.1 (d+x.2.2))):=by
 refine cy rfl ?_
 show iP [.va (.dct (ns.map en) (dV ns b)),.va (eB x),.va (eW (d,w)),.em] =_
 unfold iP
 have g:oD gZ (vr 0) (o2 aR (vr 1) (cn (.int 1))) [.va (.dct (ns.map en) (dV ns b)),.va (eB x),.va (eW (d,w)),.em] = .ok (oW (b x.2.1)):=by
  refine Hi (ks:=ns.map en) (vs:=dV ns b) (u:=en x.2.1) rfl rfl ?_
  unfold gZ;rw[cE];simp only[D.get];cases b x.2.1 <;> rfl
 rw[aH (c6 (t:=oW (b x.2.1)) (Z':=[.va (.dct (ns.map en) (dV ns b)),.va (eB x),.va (eW (d,w)),.va (oW (b x.2.1))]) g rfl)];refine dA ?_
 unfold dP
 cases q:b x.2.1 with
 | none=>exact E6 (aK (t:=.non) (u:=.non) rfl rfl rfl)
 | some y=>exact(E7 (aK (t:=eW y) (u:=.non) rfl rfl rfl)).trans (aK (t:=.int (d+x.2.2)) (u:=.int y.1) rfl rfl rfl)
abbrev AQ:En->Rs Fl:=(aC (c9 (ln 2 (oD gZ (vr 2) (o2 aR (vr 5) (cn (.int 0))))) (gN 6)) (aC (eO (oa (tb (o2 lQ (vr 6) (cn .non))) (dM (zv 2 (tb (cl cS (ae (vr 2) (ae (vr 5) (ae (vr 6) ai)))))))) C2 sN) (aC (c9 (o2 aL (o2 aR (vr 6) (cn (.int 1))) (fF (ae (vr 4) ai))) (gN 7)) (aC (c9 (gE (iS (vr 7)) [none,some 0] (gN 0) bT (o2 aR (o2 aR (vr 1) (vr 0)) (cn (.int 0)))) (gN 8)) (aC (eO (tb (o2 FN (o2 aR (vr 5) (cn (.int 1))) (vr 8))) (aJ (aU (ae (cn .non) (ae (sl (vr 7) (pS (oL fO (vr 8) (o2 aR (vr 5) (cn (.int 1))))) pN) ai)))) sN) (aC (xo 2 (o2 aR (vr 5) (cn (.int 1))) (aU (ae (o2 aL (o2 aR (vr 6) (cn (.int 0))) (o2 aR (vr 5) (cn (.int 2)))) (ae (vr 7) ai)))) (c9 (cn (.bl true)) (gN 3))))))))
abbrev HX:T->En->Rs En:=gT 2 (sW (gN 4) (sW (gN 5) AS))
def eL (L:cN N2):T:=.lst (L.map eB)
def yG (L:cN N2)(t:T):T:=match t with
 | .int j=>match L[j.toNat]? with
  | some x=>en x.1
  | none=> .non
 | _=> .non
theorem vS {L:cN N2}:∀{ks:List Nat} {a b:N2},Ch L a ks b->(eN ks).map (yG L)=(dU L ks).map en
 | [],_,_,_=>rfl
 | k::r,a,b,h=>by
  rw[h.Iq];obtain⟨c,m,e,h⟩:=h
  show yG L (.int k)::(eN r).map (yG L)=en a::(dU L r).map en
  rw[vS h]
  congr 1
  unfold yG;simp only[KL,e]
theorem AF (v:N2):∀(l:List N2),kz (en v) (l.map en)=decide (v∈l)
 | [] =>rfl
 | u::l=>by
  have ih:=AF v l;unfold kz at ih ⊢;rw[Jm,Lq,ih,AB]
  by_cases h:u=v
  ·subst h;simp
  ·have h':¬ v=u:=λz=>h z.symm
   simp[h,h']
theorem sY (v:N2):∀(l:List N2) (n:Nat),v∈l->je (en v) (l.map en) n=some (n+l.idxOf v)
 | [],n,h=>by simp at h
 | u::l,n,h=>by
  rw[Jm,je,AB,PU]
  by_cases z:u=v
  ·subst z;simp
  ·have h':v∈l:=(Ju.mp h).elim (λy=>absurd y.symm z) id
   have zb:(u == v)=false:=by rw[beq_eq_false_iff_ne];exact z
   rw[zb,decide_eq_false z,if_neg JJ,sY v l (n+1) h'];simp only[cond_false]
   congr 1
   omega
theorem C4 (v:N2):(en v).nd=true:=rfl
theorem qP {α:Type}(f:α->T)(h:∀a,(f a).nd=true):∀l:List α,nds (l.map f)=true
 | [] =>rfl
 | a::l=>by rw[Jm,nds,h a,qP f h l];rfl
theorem Av (v:N2):(en v).dep<=60:=by show(T.tup [.int v.c,.int v.k]).dep<=60;simp[T.dep,deps]
theorem Hs (v:N2)(l:List N2):FN (en v) (.lst (l.map en))= .ok (.bl (decide (v∈l))):=by
 show(if (_\/_)/\_/\(T.lst (l.map en)).nd=true then _ else _)=_
 rw[if_pos ⟨.inl (Av v),rfl,qP en C4 l⟩,AF]
theorem zY (v:N2)(l:List N2)(h:v∈l):fO (.lst (l.map en)) (en v)= .ok (.int ((l.idxOf v:Nat):Int)):=by
 unfold fO;simp only;rw[if_pos ⟨.inl (Av v),rfl,qP en C4 l⟩,sY v l 0 h,Nat.zero_add]
theorem Fy (p q:List Nat):eN (p++q)=eN p++eN q:=by unfold eN;rw[KB]
theorem zm (D:Bool):∀ks:List Nat,nks D (eN ks)=true
 | [] =>rfl
 | k::r=>by show nks D (.int k::eN r)=true;unfold nks;rw[zm D r];rfl
theorem Ch.len {L:cN N2}{ks:List Nat}{a b:N2}(h:Ch L a ks b)(hn:(dU L ks).Nodup):ks.length<=L.length:=by
 have:=i7 (h.nodup hn) (m:=J9 L.length) λk hk=>KS.mpr (h.lt k hk)
 rwa [Lj]at this
abbrev sE (L:cN N2)(st:T)(o:OT)(b:Bool)(k:Nat)(x:N2×N2×Int)(s6 s7 s8:Sl):En:=[.va (eL L),.va st,.ow o,.va (.bl b),.va (.int k),.va (eB x),s6,s7,s8]
def Dn (L:cN N2)(P ns:List N2)(b:bZ N2)(k:Nat)(x:N2×N2×Int)(st:T)(mv:Bool)(s6 s7 s8:Sl):Sum (Option (bZ N2)) (List Nat)->Prop
 | .inl none=> ∃s6' s7' s8',AQ (sE L st (.dct (ns.map en) (dV ns b)) mv k x s6 s7 s8)= .ok (.ct (sE L st (.dct (ns.map en) (dV ns b)) mv k x s6' s7' s8'))
 | .inl (some b')=> ∃ns' s6' s7' s8',DR P ns' b'/\AQ (sE L st (.dct (ns.map en) (dV ns b)) mv k x s6 s7 s8)= .ok (.nx (sE L st (.dct (ns'.map en) (dV ns' b')) true k x s6' s7' s8'))
 | .inr q=>AQ (sE L st (.dct (ns.map en) (dV ns b)) mv k x s6 s7 s8)= .ok (.rt (.tup [.non,.lst (eN q)]))
theorem Bf {L:cN N2}{S P ns:List N2}{b:bZ N2}{k:Nat}{x:N2×N2×Int}(K:Kept L S b)(D:DR P ns b)(hL:L.length<=500)(hP:P.length<1000)(e:L[k]? =some x)(hx:x.2.1∈P)(st:T)(mv:Bool)(s6 s7 s8:Sl) :
  Dn L P ns b k x st mv s6 s7 s8 (gu L b k x):=by
 obtain⟨a,c,m⟩:=x;unfold Dn
 generalize hks:ns.map en=ks
 generalize hvs:dV ns b=vs
 have get:∀s7 s8,ln 2 (oD gZ (vr 2) (o2 aR (vr 5) (cn (.int 0)))) (sE L st (.dct ks vs) mv k (a,c,m) s6 s7 s8)= .ok (oW (b a)):=λs7 s8=>by
  refine uP (o:=.dct ks vs) rfl (Hi (ks:=ks) (vs:=vs) (u:=en a) rfl rfl ?_) ?_
  ·unfold gZ
   rw[cE,<-hks,<-hvs];simp only[D.get];cases b a <;> rfl
  ·cases b a with
   | none=>rfl
   | some y=>show nks true [.int y.1,.lst (eN y.2)] =true;simp[nks,T.nk,zm]
 have s1:∀G,aC (c9 (ln 2 (oD gZ (vr 2) (o2 aR (vr 5) (cn (.int 0))))) (gN 6)) G (sE L st (.dct ks vs) mv k (a,c,m) s6 s7 s8)=G (sE L st (.dct ks vs) mv k (a,c,m) (.va (oW (b a))) s7 s8):=λG=>
  aH (c6 (t:=oW (b a)) (get s7 s8) rfl)
 cases qa:b a with
 | none=>
  rw[show gu L b k (a,c,m)= .inl none from by unfold gu;simp only[qa]]
  simp only;refine⟨.va .non,s7,s8,?_⟩
  unfold AQ;rw[s1,qa]
  exact zO (jw (F:=C2) (Hh (cZ (aK (t:=.non) (u:=.non) rfl rfl rfl))))
 | some y=>
  obtain⟨d,w⟩:=y
  have bt:∀s7 s8,zv 2 (tb (cl cS (ae (vr 2) (ae (vr 5) (ae (vr 6) ai))))) (sE L st (.dct ks vs) mv k (a,c,m) (.va (eW (d,w))) s7 s8)= .ok (dP b c (d+m)):=λs7 s8=>by
   refine zQ (cZ (bw (ts:=[.dct ks vs,eB (a,c,m),eW (d,w)]) rfl ?_))
   rw[<-hks,<-hvs];exact Ao D (a,c,m) d w
  have nn:tb (o2 lQ (vr 6) (cn .non)) (sE L st (.dct ks vs) mv k (a,c,m) (.va (eW (d,w))) s7 s8)= .ok false:=cZ (aK (t:=eW (d,w)) (u:=.non) rfl rfl rfl)
  have cond:=C9 nn (wq (bt s7 s8))
  have s1':∀G,aC (c9 (ln 2 (oD gZ (vr 2) (o2 aR (vr 5) (cn (.int 0))))) (gN 6)) G (sE L st (.dct ks vs) mv k (a,c,m) s6 s7 s8)=G (sE L st (.dct ks vs) mv k (a,c,m) (.va (eW (d,w))) s7 s8):=λG=>by rw[s1 G,qa];rfl
  cases hb:dP b c (d+m)with
  | false=>
   rw[show gu L b k (a,c,m)= .inl none from by unfold gu;simp only[qa,hb];rfl]
   simp only;rw[hb]at cond;refine⟨.va (eW (d,w)),s7,s8,?_⟩
   unfold AQ;rw[s1']
   exact zO (jw (F:=C2) cond)
  | true=>
   rw[hb]at cond;obtain⟨s,hs,h1,h2,h3,h4,h5⟩:=K.walk a d w qa
   have hch:Ch L s (w++ [k]) c:=h1.snoc e
   have hwl:w.length<=500:=J2 (Ch.len h1 h4) hL
   have s2:∀G,aC (eO (oa (tb (o2 lQ (vr 6) (cn .non))) (dM (zv 2 (tb (cl cS (ae (vr 2) (ae (vr 5) (ae (vr 6) ai)))))))) C2 sN) G (sE L st (.dct ks vs) mv k (a,c,m) (.va (eW (d,w))) s7 s8)=G (sE L st (.dct ks vs) mv k (a,c,m) (.va (eW (d,w))) s7 s8):=λG=>
    aH (Z':=(sE L st (.dct ks vs) mv k (a,c,m) (.va (eW (d,w))) s7 s8)) ((fw (F:=C2) (G:=sN) cond).trans rfl)
   have wk:o2 aL (o2 aR (vr 6) (cn (.int 1))) (fF (ae (vr 4) ai)) (sE L st (.dct ks vs) mv k (a,c,m) (.va (eW (d,w))) s7 s8)= .ok (.lst (eN (w++ [k]))):=by
    refine aK (t:=.lst (eN w)) (u:=.lst (eN [k])) rfl (nJ (ts:=[.int k]) rfl (aE (k:=1) (by simp))) ?_
    show ju (eN w++eN [k])=_
    rw[<-Fy];unfold ju;rw[if_pos (aE (k:=1000) (by unfold eN;rw[Jo,Js];simp;omega))]
   have s3:∀G,aC (c9 (o2 aL (o2 aR (vr 6) (cn (.int 1))) (fF (ae (vr 4) ai))) (gN 7)) G (sE L st (.dct ks vs) mv k (a,c,m) (.va (eW (d,w))) s7 s8)=G (sE L st (.dct ks vs) mv k (a,c,m) (.va (eW (d,w))) (.va (.lst (eN (w++ [k])))) s8):=λG=>aH (c6 wk rfl)
   have ps:gE (iS (vr 7)) [none,some 0] (gN 0) bT (o2 aR (o2 aR (vr 1) (vr 0)) (cn (.int 0))) (sE L st (.dct ks vs) mv k (a,c,m) (.va (eW (d,w))) (.va (.lst (eN (w++ [k])))) s8)= .ok (.lst ((dU L (w++ [k])).map en)):=by
    rw[<-vS hch];refine xS (ts:=eN (w++ [k])) (wy rfl) (aE (k:=1000) (by unfold eN;rw[Jo,Js];simp;omega)) (by simp) λt ht=> ?_
    unfold eN at ht;obtain⟨j,hj,rfl⟩:=Kb.mp ht
    have hjl:=hch.lt j hj;refine aK (t:=eB L[j]) (u:=.int 0) (zR (l:=L.map eB) (n:=j) rfl rfl (by rw[JA,Jv hjl];rfl)) rfl ?_
    unfold yG;simp only[KL,Jv hjl]
    rfl
   have s4:∀G,aC (c9 (gE (iS (vr 7)) [none,some 0] (gN 0) bT (o2 aR (o2 aR (vr 1) (vr 0)) (cn (.int 0)))) (gN 8)) G (sE L st (.dct ks vs) mv k (a,c,m) (.va (eW (d,w))) (.va (.lst (eN (w++ [k])))) s8)=G (sE L st (.dct ks vs) mv k (a,c,m) (.va (eW (d,w))) (.va (.lst (eN (w++ [k])))) (.va (.lst ((dU L (w++ [k])).map en)))):=λG=>aH (c6 ps rfl)
   have inn:tb (o2 FN (o2 aR (vr 5) (cn (.int 1))) (vr 8)) (sE L st (.dct ks vs) mv k (a,c,m) (.va (eW (d,w))) (.va (.lst (eN (w++ [k])))) (.va (.lst ((dU L (w++ [k])).map en))))= .ok (decide (c∈dU L (w++ [k]))):=
    cZ (aK (t:=en c) (u:=.lst ((dU L (w++ [k])).map en)) rfl rfl (Hs c _))
   by_cases hn:c∈dU L (w++ [k])
   ·rw[show gu L b k (a,c,m)= .inr ((w++ [k]).drop ((dU L (w++ [k])).idxOf c))from by unfold gu;simp only[qa,hb,if_pos hn,if_true]]
    simp only;unfold AQ;rw[s1',s2,s3,s4];rw[decide_eq_true hn]at inn;refine kQ ((jw inn).trans (dA ?_))
    have sle:sl (vr 7) (pS (oL fO (vr 8) (o2 aR (vr 5) (cn (.int 1))))) pN (sE L st (.dct ks vs) mv k (a,c,m) (.va (eW (d,w))) (.va (.lst (eN (w++ [k])))) (.va (.lst ((dU L (w++ [k])).map en))))= .ok (.lst (eN ((w++ [k]).drop ((dU L (w++ [k])).idxOf c)))):=by
     rw[C8 (l:=eN (w++ [k])) (lo:=some (((dU L (w++ [k])).idxOf c:Nat):Int)) (hi:=none) rfl (B9 (k_oL (ks:=(dU L (w++ [k])).map en) (u:=en c) rfl rfl (zY c _ hn))) rfl,tF];unfold eN;rw[List.map_drop]
    exact(bF (ts:=[.non,.lst (eN ((w++ [k]).drop ((dU L (w++ [k])).idxOf c)))]) (ar rfl (ar sle rfl)) (aE (k:=2) (by simp)))
   ·rw[show gu L b k (a,c,m)= .inl (some (Gr.put b c (d+m,w++ [k])))from by unfold gu;simp only[qa,hb,if_neg hn,if_true]]
    simp only;rw[decide_eq_false hn]at inn;obtain⟨ns',D',hd⟩:=D.put hx (d+m,w++ [k]);refine⟨ns',.va (eW (d,w)),.va (.lst (eN (w++ [k]))),.va (.lst ((dU L (w++ [k])).map en)),D',?_⟩
    unfold AQ;rw[s1',s2,s3,s4];rw[aH (Z':=(sE L st (.dct ks vs) mv k (a,c,m) (.va (eW (d,w))) (.va (.lst (eN (w++ [k])))) (.va (.lst ((dU L (w++ [k])).map en))))) ((fw (G:=sN) inn).trans rfl)]
    have pt:xo 2 (o2 aR (vr 5) (cn (.int 1))) (aU (ae (o2 aL (o2 aR (vr 6) (cn (.int 0))) (o2 aR (vr 5) (cn (.int 2)))) (ae (vr 7) ai))) (sE L st (.dct ks vs) mv k (a,c,m) (.va (eW (d,w))) (.va (.lst (eN (w++ [k])))) (.va (.lst ((dU L (w++ [k])).map en))))
      = .ok (.nx (sE L st (.dct (ns'.map en) (dV ns' (Gr.put b c (d+m,w++ [k])))) mv k (a,c,m) (.va (eW (d,w))) (.va (.lst (eN (w++ [k])))) (.va (.lst ((dU L (w++ [k])).map en))))):=by
     have ev:aU (ae (o2 aL (o2 aR (vr 6) (cn (.int 0))) (o2 aR (vr 5) (cn (.int 2)))) (ae (vr 7) ai)) (sE L st (.dct ks vs) mv k (a,c,m) (.va (eW (d,w))) (.va (.lst (eN (w++ [k])))) (.va (.lst ((dU L (w++ [k])).map en))))= .ok (eW (d+m,w++ [k])):=
      bF (ts:=[.int (d+m),.lst (eN (w++ [k]))]) rfl (aE (k:=2) (by simp))
     have ek:o2 aR (vr 5) (cn (.int 1)) (sE L st (.dct ks vs) mv k (a,c,m) (.va (eW (d,w))) (.va (.lst (eN (w++ [k])))) (.va (.lst ((dU L (w++ [k])).map en))))= .ok (en c):=rfl
     show(aU _ _ >>= λv=>o2 aR (vr 5) (cn (.int 1)) _ >>= λkk=>match keyOf kk with | some _=>if ks.length<1000 then Rs.ok (Fl.nx _)else .bad | none=> .bad)=_
     rw[ev,az,ek,az,cE]
     have hlen:ks.length<1000:=by rw[<-hks,Jo];exact OH (i7 D.nd D.sub) hP
     simp only[if_pos hlen]
     have hd1:gH (en c) (eW (d+m,w++ [k])) ks vs=(ns'.map en,dV ns' (Gr.put b c (d+m,w++ [k]))):=by rw[<-hks,<-hvs];exact hd
     rw[hd1]
     rfl
    rw[aH pt];exact c6 (t:=.bl true) rfl rfl
def yf (L:cN N2)(st:T)(ns:List N2)(b:bZ N2)(mv:Bool)(s4 s5 s6 s7 s8:Sl):En:=[.va (eL L),.va st,.ow (.dct (ns.map en) (dV ns b)),.va (.bl mv),s4,s5,s6,s7,s8]
def AI (L:cN N2)(P:List N2)(st:T)(X:Rs Fl):Sum (bZ N2×Bool) (List Nat)->Prop
 | .inr q=>X= .ok (.rt (.tup [.non,.lst (eN q)]))
 | .inl (b',mv')=> ∃ns' s4 s5 s6 s7 s8,DR P ns' b'/\X= .ok (.nx (yf L st ns' b' mv' s4 s5 s6 s7 s8))
theorem p6 {L:cN N2}{S P:List N2}(hL:L.length<=500)(hP:P.length<1000)(hx:∀x∈L,x.2.1∈P)(st:T):∀(r:cN N2) (k:Nat) (b:bZ N2) (mv:Bool) (ns:List N2) (s4 s5 s6 s7 s8:Sl),L.drop k=r->Kept L S b->DR P ns b →
  AI L P st (br HX AQ (cF k (r.map eB)) (yf L st ns b mv s4 s5 s6 s7 s8)) (gQ L k r b mv)
 | [],k,b,mv,ns,s4,s5,s6,s7,s8,_,K,D=>⟨ns,s4,s5,s6,s7,s8,D,rfl⟩
 | x::r,k,b,mv,ns,s4,s5,s6,s7,s8,hr,K,D=>by
  have e:L[k]? =some x:=by
   have:=congrArg (·[0]?) hr
   simpa using this
  have hr':L.drop (k+1)=r:=by
   have:=congrArg (List.drop 1) hr
   simpa [Ob,Ph]using this
  have tg:HX (.tup [.int k,eB x]) (yf L st ns b mv s4 s5 s6 s7 s8)= .ok [.va (eL L),.va st,.ow (.dct (ns.map en) (dV ns b)),.va (.bl mv),.va (.int k),.va (eB x),s6,s7,s8]:=rfl
  have tn:=Bf K D hL hP e (hx x (JT e)) st mv s6 s7 s8;rw[gQ,Jm,cF]
  cases q:gu L b k x with
  | inr w=>
   rw[q]at tn;simp only;unfold AI
   exact Cc tg tn
  | inl o=>
   rw[q]at tn
   cases o with
   | none=>
    obtain⟨s6',s7',s8',tn⟩:=tn;simp only;rw[Cd tg tn]
    exact p6 hL hP hx st r (k+1) b mv ns _ _ _ _ _ hr' K D
   | some b'=>
    obtain⟨ns',s6',s7',s8',D',tn⟩:=tn;simp only;rw[ft tg tn];refine p6 (S:=S) hL hP hx st r (k+1) b' true ns' _ _ _ _ _ hr' ?_ D'
    -- what is kept stays so
    obtain⟨a,c,m⟩:=x;unfold gu at q
    cases qa:b a with
    | none=>simp only[qa]at q;cases q
    | some y=>
     obtain⟨d,w⟩:=y;simp only[qa]at q
     split at q
     ·rename_i hb
      split at q
      ·cases q
      ·rename_i hn
       cases q;exact K.put e qa hb hn
     ·cases q
abbrev wF:En->Rs Fl:=aC (c9 (cn (.bl false)) (gN 3)) (gx (iE (ae (vr 0) ai)) HX AQ)
def SetP (L:cN N2)(P:List N2)(st:T)(X:Rs Fl):Sum (bZ N2) (List Nat)->Prop
 | .inr q=>X= .ok (.rt (.tup [.non,.lst (eN q)]))
 | .inl b'=> ∃ns' s4 s5 s6 s7 s8,DR P ns' b'/\X= .ok (.nx (yf L st ns' b' false s4 s5 s6 s7 s8))
theorem rS {L:cN N2}{S P:List N2}(hL:L.length<=500)(hP:P.length<1000)(hx:∀x∈L,x.2.1∈P)(st:T):∀(n:Nat) (b:bZ N2) (ns:List N2) (s4 s5 s6 s7 s8:Sl) (r:Sum (bZ N2) (List Nat)),Kept L S b->DR P ns b->Gr.settle L n b=some r →
  SetP L P st (bz (tb (vr 3)) wF (n+1) (yf L st ns b true s4 s5 s6 s7 s8)) r
 | 0,_,_,_,_,_,_,_,_,_,_,h=>by cases h
 | n+1,b,ns,s4,s5,s6,s7,s8,r,K,D,h=>by
  have sw:=p6 hL hP hx st L 0 b false ns s4 s5 s6 s7 s8 rfl K D
  have ok:=hV (S:=S) L 0 b false rfl K
  have body:∀X,br HX AQ (cF 0 (L.map eB)) (yf L st ns b false s4 s5 s6 s7 s8)= .ok X->wF (yf L st ns b true s4 s5 s6 s7 s8)= .ok X:=λX hX=>by
   show aC _ _ _=_
   rw[aH (Z':=yf L st ns b false s4 s5 s6 s7 s8) (c6 (t:=.bl false) rfl rfl)];exact iD (ts:=cF 0 (L.map eB)) (Hm rfl) hX
  have tt:tb (vr 3) (yf L st ns b true s4 s5 s6 s7 s8)= .ok true:=rfl;rw[Gr.settle]at h
  revert sw ok h
  generalize gQ L 0 L b false=R
  intro h sw ok
  cases R with
  | inr q=>
   simp only at h;cases h
   exact zL tt (body _ sw)
  | inl p=>
   obtain⟨b',mv'⟩:=p;obtain⟨ns',t4,t5,t6,t7,t8,D',sw⟩:=sw;obtain⟨K',_⟩:=ok
   cases mv' with
   | true=>
    simp only at h
    have ih:=rS hL hP hx st n b' ns' t4 t5 t6 t7 t8 r K' D' h;rw[sT tt (body _ sw)]
    exact ih
   | false=>
    simp only at h;cases h;refine⟨ns',t4,t5,t6,t7,t8,D',?_⟩
    rw[sT tt (body _ sw)];exact zM rfl
theorem gw {c:En->Rs Bool}{F:En->Rs Fl}{x:Fl}:∀{n m:Nat} {Z:En},n<=m->bz c F n Z= .ok x->bz c F m Z= .ok x
 | 0,_,_,_,h=>by cases h
 | n+1,0,_,hl,_=>absurd hl (by omega)
 | n+1,m+1,Z,hl,h=>by
  unfold bz at h ⊢
  cases q:c Z with
  | bad=>rw[q]at h;cases h
  | err _=>rw[q]at h;cases h
  | ok k=>
   rw[q]at h
   cases k with
   | false=>exact h
   | true=>
    simp only at h ⊢
    cases q2:F Z with
    | bad=>rw[q2]at h;cases h
    | err _=>rw[q2]at h;cases h
    | ok f=>
     rw[q2]at h
     cases f with
     | nx Z'=>exact gw (by omega) h
     | ct Z'=>exact gw (by omega) h
     | bk Z'=>exact h
     | rt t=>exact h
theorem yW (w:T):∀S:List N2,FJ (S.map λv=> .tup [en v,w])=some (S.map λv=>(en v,w))
 | [] =>rfl
 | v::S=>by rw[Jm,FJ,cE,yW w S];rfl
theorem tq (w:T):∀(S ns:List N2) (g:N2->T),(ns++S).Nodup->(∀v∈S,g v=w)->iK (S.map λv=>(en v,w)) (ns.map en,ns.map g)=((ns++S).map en,(ns++S).map g)
 | [],ns,g,_,_=>by rw[JZ];rfl
 | v::S,ns,g,hn,hg=>by
  have hv:v∉ns:=λz=>by
   rw[Kw]at hn;exact hn.2.2 v z v Jq rfl
  rw[Jm,iK,nP _ _ _ _ hv]
  have e1:ns.map en++ [en v] =(ns++ [v]).map en:=by rw[KB];rfl
  have e2:ns.map g++ [w] =(ns++ [v]).map g:=by rw[KB,<-hg v Jq];rfl
  rw[e1,e2,tq w S (ns++ [v]) g (by rw[Kj];exact hn) λu hu=>hg u (Jk _ hu),Kj]
  rfl
theorem CC (w:T)(S:List N2)(hn:S.Nodup)(hl:S.length<=1000):wQ [.lst (S.map λv=> .tup [en v,w])] = .ok (.dct (S.map en) (S.map λ_=>w)):=by
 unfold wQ;simp only[yW];rw[if_pos (by rw[Jo];exact hl)]
 have:=tq w S [] (λ_=>w) (by simpa using hn) (λ_ _=>rfl)
 rw[MA]at this;rw[show(([]:List T),([]:List T))=(([]:List N2).map en,([]:List N2).map λ_=>w)from rfl,this]
def eS (S:List N2):T:=.lst (S.map en)
def CN (L:cN N2)(P:List N2)(X:Rs T):Sum (bZ N2) (List Nat)->Prop
 | .inr q=>X= .ok (.tup [.non,.lst (eN q)])
 | .inl b'=> ∃ns',DR P ns' b'/\X= .ok (.tup [.dct (ns'.map en) (dV ns' b'),.non])
structure HU (L:cN N2)(P:List N2):Prop where
 len:L.length<=500
 size:size L<=100000000
 ends:∀x∈L,x.1∈P/\x.2.1∈P
 pl:P.length<1000
def SOk (L:cN N2)(S:List N2):Sum (bZ N2) (List Nat)->Prop
 | .inr q=>Bar L q
 | .inl b'=>Settled L S b'
theorem Af {L:cN N2}{S P:List N2}(F:HU L P)(hS:S.Nodup)(hSP:∀v∈S,v∈P):∃r,CN L P (iy [eL L,eS S]) r/\SOk L S r:=by
 have bound:L.length*(2*size L+1)<1000000000000 - 1:=by
  have h1:=F.len
  have h2:=F.size
  have:L.length*(2*size L+1)<=500*(2*100000000+1):=Nat.mul_le_mul h1 (by omega)
  omega
 obtain⟨r,hr,ok⟩:=ud L S bound
 have ok':SOk L S r:=by cases r <;> exact ok
 refine⟨r,?_,ok'⟩
 have hSl:S.length<=1000:=J2 (i7 hS hSP) (by have:=F.pl;omega)
 have D0:DR P S (Gr.start S):=⟨hS,λv=>by unfold Gr.start;by_cases h:v∈S <;> simp[h],hSP⟩
 have dv0:dV S (Gr.start S)=S.map λ_=>eW (0,[]):=KN λv hv=>by unfold Gr.start;rw[if_pos hv];rfl
 have w:=rS F.len F.pl (λx hx=>(F.ends x hx).2) (eS S) _ (Gr.start S) S .em .em .em .em .em r (nH L S) D0 hr
 have lc:gE (iS (vr 1)) [none] (gN 0) bT (aU (ae (vr 0) (ae (aU (ae (cn (.int 0)) (ae (fF ai) ai))) ai))) [.va (eL L),.va (eS S),.em,.em,.em,.em,.em,.em,.em] = .ok (.lst (S.map λv=> .tup [en v,eW (0,[])])):=by
  have:=xS (fi:=iS (vr 1)) (src:=[none]) (fe:=aU (ae (vr 0) (ae (aU (ae (cn (.int 0)) (ae (fF ai) ai))) ai))) (h:=λt=> .tup [t,eW (0,[])]) (Z:=[.va (eL L),.va (eS S),.em,.em,.em,.em,.em,.em,.em]) (ts:=S.map en) (wy rfl) (aE (k:=1000) (by rw[Jo];exact hSl)) (by simp) λt _=>
   bF (ts:=[t,eW (0,[])]) (ar rfl (ar (bF (ts:=[.int 0,.lst []]) (ar rfl (ar (nJ (ts:=[]) rfl (Ld _)) rfl)) (aE (k:=2) (by simp))) rfl)) (aE (k:=2) (by simp))
  rw[this,Mq];rfl
 have n0:o5 2 (gE (iS (vr 1)) [none] (gN 0) bT (aU (ae (vr 0) (ae (aU (ae (cn (.int 0)) (ae (fF ai) ai))) ai)))) [.va (eL L),.va (eS S),.em,.em,.em,.em,.em,.em,.em] = .ok (.nx [.va (eL L),.va (eS S),.ow (.dct (S.map en) (dV S (Gr.start S))),.em,.em,.em,.em,.em,.em]):=by
  unfold o5;rw[lc,az,CC _ S hS hSl,az,dv0]
  rfl
 have main:∀G X,bz (tb (vr 3)) wF FU (yf L (eS S) S (Gr.start S) true .em .em .em .em .em)= .ok X->iN [.va (eL L),.va (eS S),.em,.em,.em,.em,.em,.em,.em] =G->(aC (bz (tb (vr 3)) wF FU) (mQ 2 (aJ (aU (ae (vr 2) (ae (cn .non) ai)))))) (yf L (eS S) S (Gr.start S) true .em .em .em .em .em)=G:=λG X _ h=>by
  rw[<-h];unfold iN;rw[aH n0,aH (Z':=yf L (eS S) S (Gr.start S) true .em .em .em .em .em) (c6 (t:=.bl true) rfl rfl)]
 cases r with
 | inr q=>
  have w':=gw (m:=FU) (by unfold FU;omega) w
  refine cy rfl ?_
  show iN [.va (eL L),.va (eS S),.em,.em,.em,.em,.em,.em,.em] =_
  rw[<-main _ _ w' rfl]
  exact kQ w'
 | inl b'=>
  obtain⟨ns',s4,s5,s6,s7,s8,D',w⟩:=w
  have w':=gw (m:=FU) (by unfold FU;omega) w
  refine⟨ns',D',cy rfl ?_⟩
  show iN [.va (eL L),.va (eS S),.em,.em,.em,.em,.em,.em,.em] =_
  rw[<-main _ _ w' rfl,aH w'];exact Df (dA (bF (ts:=[.dct (ns'.map en) (dV ns' b'),.non]) rfl (aE (k:=2) (by simp))))
theorem ny {α:Type}{f:α->T}{p:α->Prop}:∀{l:List T},(∀t∈l,∃x,t=f x/\p x)->∃L:List α,l=L.map f/\∀x∈L,p x
 | [],_=>⟨[],rfl,λ_ h=>nomatch h⟩
 | t::l,h=>by
  obtain⟨x,e,hx⟩:=h t Jq;obtain⟨L,e2,h2⟩:=ny (l:=l) λu hu=>h u (Jk _ hu)
  exact⟨x::L,by rw[e,e2];rfl,λy hy=>(Ju.mp hy).elim (λz=>z▸hx) (h2 y)⟩
theorem u5 {t:T}(h:bo t=true):∃(x y:Int) (r:List Int),t= .tup [.int x,.int y,.tup (r.map .int)]/\(0<=x/\x<=9)/\(0<=y/\y<=9)/\∀k,0<=r.getD k 0/\r.getD k 0<=99:=by
 obtain⟨x,y,r,rfl,h1,h2,h3,h4⟩:=dZ h;refine⟨x,y,r,rfl,h1,h2,λk=> ?_⟩
 have h':(ox (.int x) (.int y)&&cM (.tup (r.map .int)))=true:=h;rw[Jj]at h'
 have hr:=h'.2;unfold cM at hr;rw[Jj]at hr
 have hr2:(((r.map T.int).all λu=>aY u 0 99)&&(match kj (r.map .int)with | some m=>n9 m | none=>false))=true:=hr.2
 rw[Jj]at hr2
 by_cases hk:k<r.length
 ·have:=JP.mp hr2.1 (.int r[k]) (Kb.mpr ⟨_,KZ hk,rfl⟩)
  obtain⟨i,e,a,b⟩:=cg this;cases e;simp[hk];exact⟨a,b⟩
 ·simp[hk]
theorem v7 {cs:List T}{i:Nat}:∀{cs0:List T} {c k:Nat},i<=c->c<i+cs0.length->k<DI (cs0.getD (c - i) .non)->T.tup [.int c,.int k] ∈et i cs0:=by
 intro cs0
 induction cs0 generalizing i with
 | nil=>intro c k h1 h2;simp at h2;omega
 | cons a r ih=>
  intro c k h1 h2 h3;rw[et,JN]
  by_cases e:c=i
  ·subst e
   rw[MS]at h3
   have h3':k<DI a:=h3;exact .inl (Kb.mpr ⟨.int k,B6 h3',rfl⟩)
  ·refine .inr (ih (by omega) (by rw[Jp]at h2;omega) ?_)
   rw[show c - i=(c - (i+1))+1 by omega]at h3
   exact h3
theorem pD {cs:List T}{t:T}(h:aZ cs t=true):t∈et 0 cs:=by
 obtain⟨c,k,rfl⟩:=cU h;unfold aZ at h;simp only[Jj,decide_eq_true_eq]at h;obtain⟨⟨h1,h2⟩,h3,h4⟩:=h;obtain⟨c,rfl⟩:=JL h1;obtain⟨k,rfl⟩:=JL h3;rw[o7]at h4;exact v7 (cs:=cs) (Ld _) (by omega) (by rw[NO];omega)
theorem Ac {cs:List T}{t:T}(h:t∈et 0 cs):∃v:N2,t=en v/\True:=by
 obtain⟨c,k,rfl,_⟩:=mf cs 0 h;exact⟨⟨c,k⟩,rfl,trivial⟩
def big (x:N2×N2×Int):Prop:=x.2.2.natAbs<=999
theorem pf {a b:Int}(ha : -99<=a/\a<=99)(hb:0<=b/\b<=9):(a*b).natAbs<=999:=by
 rw[Int.natAbs_mul]
 have h1:a.natAbs<=99:=by omega
 have h2:b.natAbs<=9:=by omega
 exact J2 (Nat.mul_le_mul h1 h2) (by decide)
theorem Dm {cs0:List T}:∀{cs:List T} {i:Nat},(∀c∈cs,bo c=true)->(∀c k:Nat,i<=c->c<i+cs.length->k<DI (cs.getD (c - i) .non)->T.tup [.int c,.int k] ∈et 0 cs0) →
  ∀t∈bC i cs,∃x,t=eB x/\(en x.1∈et 0 cs0/\en x.2.1∈et 0 cs0/\big x)
 | [],_,_,_,t,h=>by simp[bC]at h
 | c::cs,i,hc,hm,t,h=>by
  rw[bC,JN]at h;rcases h with h | h
  ·obtain⟨x,y,r,rfl,hx,hy,hr⟩:=u5 (hc c Jq)
   have hm0:∀k,k<r.length->T.tup [.int i,.int k] ∈et 0 cs0:=λk hk=>hm i k (Jw _) (by simp) (by rw[MS];show k<(r.map T.int).length;rw[Jo];exact hk)
   rw[vt]at h;unfold cB at h;obtain⟨k,hk,hp⟩:=Pz.mp h
   have hk:=KS.mp hk
   have d : -99<=dr r k/\dr r k<=99:=by have:=hr k;have:=hr (k+1);unfold dr;omega
   unfold pr at hp;simp only[Ju,KD,or_false]at hp;rcases hp with rfl | rfl
   ·exact⟨(⟨i,k⟩,⟨i,((k+1:Nat):Int)⟩,dr r k*y),rfl,hm0 k (by omega),hm0 (k+1) (by omega),pf d hy⟩
   ·exact⟨(⟨i,((k+1:Nat):Int)⟩,⟨i,k⟩,-dr r k*x),rfl,hm0 (k+1) (by omega),hm0 k (by omega),pf (by omega) hx⟩
  ·exact Dm (cs:=cs) (i:=i+1) (λc h=>hc c (Jk _ h)) (λc k h1 h2 h3=>hm c k (by omega) (by rw[Jp];omega) (by rw[show c - i=(c - (i+1))+1 by omega];exact h3)) t h
theorem He {cs:List T}{u:T}(hu:bh cs u=true):∀t∈lB u,∃x,t=eB x/\(en x.1∈et 0 cs/\en x.2.1∈et 0 cs/\big x):=by
 intro t ht;obtain⟨a,b,x,y,rfl,hd,ha,hb,_⟩:=cY hu
 have ma:=pD ha
 have mb:=pD hb;obtain⟨va,rfl,_⟩:=Ac ma;obtain⟨vb,rfl,_⟩:=Ac mb;unfold c7 at hd;rw[Jj]at hd;obtain⟨i,rfl,i1,i2⟩:=cg hd.1
 have e2:lB (.tup [en va,en vb,.int i,y])= .tup [en vb,en va,.int (-i)] ::(if y.isN then []else [.tup [en va,en vb,y]]):=rfl
 rw[e2]at ht;rcases Ju.mp ht with rfl | ht
 ·exact⟨(vb,va,-i),rfl,mb,ma,by unfold big;simp only;omega⟩
 ·cases q:y.isN with
  | true=>rw[q]at ht;simp at ht
  | false=>
   rw[q]at ht
   have ht:t= .tup [en va,en vb,y]:=by simpa using ht
   have hw:aY y i 999=true:=by
    cases y with
    | non=>cases q
    | _=>exact hd.2
   obtain⟨j,rfl,j1,j2⟩:=cg hw;exact⟨(va,vb,j),ht,ma,mb,by unfold big;simp only;omega⟩
structure Rd (cs ls:List T)(L:cN N2)(P:List N2):Prop where
 g:Good cs ls
 b:FQ cs ls=L.map eB
 e:et 0 cs=P.map en
 f:HU L P
 nd:P.Nodup
 pl:P.length<=16
 ll:L.length<=60
 bg:∀x∈L,big x
theorem Bd {L:cN N2}(h:∀x∈L,big x):size L<=999*L.length:=by
 unfold size
 induction L with
 | nil=>simp
 | cons x L ih=>
  rw[Jm,K0,Jp]
  have:=ih λy hy=>h y (Jk _ hy)
  have:=h x Jq;unfold big at this;omega
theorem zi {P:List N2}(h:(P.map en).Nodup):P.Nodup:=by
 induction P with
 | nil=>exact Me
 | cons a r ih=>
  rw[Jm,JX]at h;exact JX.mpr ⟨λz=>h.1 (Kb.mpr ⟨a,z,rfl⟩),ih h.2⟩
theorem vE {cs ls:List T}(g:Good cs ls):∃L P,Rd cs ls L P:=by
 obtain⟨hc,c1,c4⟩:=bH g.c;obtain⟨P,eP,_⟩:=ny (f:=en) (p:=λ_=>True) (l:=et 0 cs) λt ht=>Ac ht
 have key:∀t∈FQ cs ls,∃x,t=eB x/\(en x.1∈et 0 cs/\en x.2.1∈et 0 cs/\big x):=λt ht=>by
  unfold FQ at ht;rw[JN]at ht;rcases ht with h | h
  ·exact Dm hc (λc k h1 h2 h3=>v7 (cs:=cs) h1 h2 h3) t h
  ·obtain⟨u,hu,h⟩:=Pz.mp h
   exact He (g.l u hu) t h
 obtain⟨L,eL,hL⟩:=ny key
 have mem:∀v:N2,en v∈et 0 cs->v∈P:=λv hv=>by
  rw[eP]at hv;obtain⟨u,hu,e⟩:=Kb.mp hv;rw[<-Fq e];exact hu
 have hl:=CG g;rw[eL,Jo]at hl
 have hp:=qY cs 0 hc;rw[eP,Jo]at hp
 have hs:=Bd λx hx=>(hL x hx).2.2
 exact⟨L,P,g,eL,eP,⟨by omega,by omega,λx hx=>⟨mem _ (hL x hx).1,mem _ (hL x hx).2.1⟩,by omega⟩,zi (eP▸kH cs 0),by omega,hl,λx hx=>(hL x hx).2.2⟩
def run (L:cN N2):N2->List Nat->Option N2
 | a,[] =>some a
 | a,k::r=>match L[k]? with
  | some x=>if x.1=a then run L x.2.1 r else none
  | none=>none
section
variable {cs ls:List T}{L:cN N2}{P:List N2}
theorem Rd.bounds (R:Rd cs ls L P):iA [RR cs ls] = .ok (eL L):=by rw[An R.g,R.b];rfl
end
section
variable {cs ls:List T}{L:cN N2}{P:List N2}
theorem Rd.events (R:Rd cs ls L P):iz [RR cs ls] = .ok (eS P):=by rw[y9 R.g,R.e];rfl
theorem FA {ns:List N2}{b:bZ N2}(D:DR P ns b){v:N2}{x:Int×List Nat}(e:b v=some x):tw (.dct (ns.map en) (dV ns b)) (en v)= .ok (eW x):=by
 unfold tw;simp only[cE];rw[D.get,e];rfl
def tmT (P:List N2)(t:N2->Int):T:=.tup (P.map λv=> .int (t v))
def HV (b:bZ N2)(v:N2):Int:=match b v with
 | some x=>x.1
 | none=>0
def atT (t:N2->Int)(u:T):T:=match u with
 | .tup [.int c,.int k] => .int (t ⟨c,k⟩)
 | _=> .non
theorem Rd.Ja (R:Rd cs ls L P):(¬tI L/\ja [(RR cs ls)] = .ok .non)\/(tI L/\∃t b,Settled L P b/\(∀v∈P,∃w,b v=some (t v,w))/\ja [(RR cs ls)] = .ok (tmT P t)):=by
 obtain⟨r,hr,ok⟩:=Af R.f R.nd (λv h=>h)
 have wrap:∀{w:T},cW [(RR cs ls),eL L] = .ok w->ja [(RR cs ls)] = .ok w:=λ{w} e=>cy rfl (dA (bw (ts:=[(RR cs ls),eL L]) (ar rfl (ar (bw (ts:=[(RR cs ls)]) rfl R.bounds) rfl)) e))
 have begin_:∀{x z:T} {y:Rs Fl},iy [eL L,eS P] = .ok (.tup [x,z])->((aC (eO (tb (o2 lQ (vr 3) (cn .non))) (aJ (cn .non)) sN) (aJ (cl jB (ae (gE (iS (vr 2)) [none,some 3] (gN 0) bT (o2 aR (o2 tw (vr 1) (vr 0)) (cn (.int 0)))) ai)))) [.va (RR cs ls),.va (eL L),.va (eS P),.va x] =y)->d7 [.va (RR cs ls),.va (eL L),.em,.em] =y:=λ{x z y} hs hy=>by
  unfold d7;rw[aH (Z':=[.va (RR cs ls),.va (eL L),.va (eS P),.em]) (c6 (bw (ts:=[(RR cs ls)]) rfl R.events) rfl)];rw[aH (Z':=[.va (RR cs ls),.va (eL L),.va (eS P),.va x]) (c6 (aK (u:=.int 0) (bw (ts:=[eL L,eS P]) rfl hs) rfl rfl) rfl)];exact hy
 cases r with
 | inr q=>exact .inl ⟨λn=>absurd n (Bar.neg ok),wrap (cy rfl (begin_ hr (kQ ((jw (cZ (aK (t:=.non) (u:=.non) rfl rfl rfl))).trans rfl))))⟩
 | inl b=>
  obtain⟨ns,D,hr⟩:=hr
  have ok:Settled L P b:=ok
  have htm:∀v∈P,∃w,b v=some (HV b v,w):=λv hv=>by
   obtain⟨d,w,e,_⟩:=ok.least v hv v 0 (.nil v);exact⟨w,by unfold HV;rw[e]⟩
  refine .inr ⟨(ok.holds R.f.ends htm).IW,HV b,b,ok,htm,wrap (cy rfl (begin_ hr ?_))⟩
  generalize HV b=tm at htm
  have lc:gE (iS (vr 2)) [none,some 3] (gN 0) bT (o2 aR (o2 tw (vr 1) (vr 0)) (cn (.int 0))) [.va (RR cs ls),.va (eL L),.va (eS P),.va (.dct (ns.map en) (dV ns b))] = .ok (.lst ((P.map en).map (atT tm))):=
   xS (ts:=P.map en) (wy rfl) (aE (k:=16) (by rw[Jo];exact R.pl)) (by simp) λt ht=>by
    obtain⟨v,hv,rfl⟩:=Kb.mp ht;obtain⟨w,e⟩:=htm v hv;exact aK (t:=eW (tm v,w)) (u:=.int 0) (aK (t:=.dct (ns.map en) (dV ns b)) (u:=en v) rfl rfl (FA D e)) rfl rfl
  rw[Mq]at lc;rw[aH (Z':=[.va (RR cs ls),.va (eL L),.va (eS P),.va (.dct (ns.map en) (dV ns b))]) ((fw (cZ (aK (t:=.dct (ns.map en) (dV ns b)) (u:=.non) rfl rfl rfl))).trans rfl)];exact dA (bw (ar lc rfl) rfl)
theorem Rd.Jd (R:Rd cs ls L P):∃hw:Bool,dz [(RR cs ls)] = .ok (.bl hw)/\(hw=true↔tI L):=by
 rcases R.Ja with⟨n,e⟩ | ⟨n,t,b,_,_,e⟩
 ·exact⟨false,cy rfl (dA (aK (t:=.non) (u:=.non) (bw (ts:=[(RR cs ls)]) rfl e) rfl rfl)),λz=>(by cases z),λz=>absurd z n⟩
 ·exact⟨true,cy rfl (dA (aK (t:=tmT P t) (u:=.non) (bw (ts:=[(RR cs ls)]) rfl e) rfl rfl)),λ_=>n,λ_=>rfl⟩
end
theorem sH {n:Int}{t:T}(ht:t.pl=true)(h:aY t 0 (n - 1)=true):cG [.int n,t] = .ok .non:=by
 refine zN (Z:=[.va (.int n),.va t]) rfl ?_
 show f9 [.va (.int n),.va t] =_
 unfold f9;exact(fw (wq (k:=true) (cZ (bw (ts:=[t,.int 0,.int (n - 1)]) rfl (by rw[eC _ _ _ ht,h]))))).trans rfl
theorem Ah {t:T}(hp:t.pl=true)(h:dB t=true):cx [t] = .ok t:=by
 refine cy rfl ?_
 show eE [.va t] =_
 unfold eE;rw[aH (sV (t:=.non) (bw (ts:=[t]) rfl (fj hp h)))];exact dA rfl
theorem Ai {t:T}(hp:t.pl=true)(h:dB t=false):cx [t] = .err "NoRecord":=by
 refine uL rfl ?_
 show eE [.va t] =_
 unfold eE;exact EY (Hn (bw (ts:=[t]) rfl (xI hp h)))
def mR (t:T):Rs T:=if dB t then .ok t else .err "NoRecord"
theorem wM {t:T}(hp:t.pl=true):cx [t] =mR t:=by
 unfold mR
 cases h:dB t with
 | true=>exact Ah hp h
 | false=>exact Ai hp h
theorem qh {f:En->Rs T}{Z:En}{t:T}(h:f Z=mR t):aJ f Z=(if dB t then .ok (.rt t)else .err "NoRecord"):=by
 unfold mR at h
 cases q:dB t with
 | true=>rw[q]at h;exact dA h
 | false=>rw[q]at h;exact EZ h
theorem pX {n m:Nat}{F:En->Rs Fl}{ts:List T}{t:T}(hl:ts.length=n)(h:F (aO m ts)=(if dB t then .ok (.rt t)else .err "NoRecord")):val n m F ts=mR t:=by
 unfold mR
 cases q:dB t with
 | true=>rw[q]at h;exact cy hl h
 | false=>rw[q]at h;exact uL hl h
theorem i0 {a b:T}(ha:a.pl=true)(hb:b.pl=true):(T.tup [a,b]).pl=true:=by simp[T.pl,plS,ha,hb]
theorem qm {l m:List T}(h1:(T.tup l).pl=true)(h2:(T.tup m).pl=true):(T.tup (l++m)).pl=true:=by
 rw[ik]at*;exact gy λt ht=>(JN.mp ht).elim (eQ h1) (eQ h2)
theorem Good.pls {cs ls:List T}(g:Good cs ls):(T.tup ls).pl=true:=by rw[ik];exact gy g.parts.2
theorem qt {cs ls:List T}{t:T}(hc:(T.tup cs).pl=true)(hl:(T.tup ls).pl=true)(hn:ls.length<=20)(ht:t.pl=true)(ok:dB (RR cs ls)=true):cj [RR cs ls,t] =mR (.tup [.tup cs,.tup (ls++ [t])]):=by
 refine pX rfl ?_
 show fZ [.va (RR cs ls),.va t] =_
 unfold fZ;rw[aH (sV (t:=.non) (bw (ts:=[RR cs ls]) rfl (fj (i0 hc hl) ok)))];refine qh (bw (ts:=[.tup [.tup cs,.tup (ls++ [t])]]) (ar (bF (ar (t:=.tup cs) rfl (ar (t:=.tup (ls++ [t])) (aK (t:=.tup ls) (u:=.tup [t]) rfl (bF rfl (aE (k:=1) (by simp))) (jf _ _ (by simp;omega))) rfl)) (aE (k:=2) (by simp))) rfl) (wM (i0 hc (qm hl (by simp[T.pl,plS,ht])))))
theorem Ay {l:List T}{n:Nat}{f:En->Rs T}{g:En->Rs T}{Z:En}(h:f Z= .ok (.tup l))(hg:g Z= .ok (.int n)):sl f pN (pS g) Z= .ok (.tup (l.take n)):=by
 rw[<-tE];exact Hg h rfl (B9 hg)
theorem FD {l:List T}{n:Nat}{f:En->Rs T}{g:En->Rs T}{Z:En}(h:f Z= .ok (.tup l))(hg:g Z= .ok (.int n)):sl f (pS g) pN Z= .ok (.tup (l.drop n)):=by
 rw[<-tF];exact Hg h (B9 hg) rfl
theorem wU {l:List T}{n:Nat}{f:En->Rs T}{g:En->Rs T}{Z:En}(h:f Z= .ok (.tup l))(hg:g Z= .ok (.int n)):sl f (pS (o2 aL g (cn (.int 1)))) pN Z= .ok (.tup (l.drop (n+1))):=
 FD h (aK (t:=.int n) (u:=.int 1) hg rfl rfl)
def ur (l:List T)(n:Nat):List T:=l.take n++l.drop (n+1)
theorem qv (l:List T)(n:Nat):(ur l n).length<=l.length:=by unfold ur;rw[Js,J5,J6];omega
theorem xy {cs ls:List T}{n:Nat}(g:Good cs ls)(hn:n<ls.length):bP [RR cs ls,.int n] = .ok (.tup [.tup cs,.tup (ur ls n)]):=by
 have hl:=g.n;refine cy rfl ?_
 show d6 [.va (RR cs ls),.va (.int n),.em] =_
 unfold d6;rw[aH (sV (t:=.non) (bw (ts:=[RR cs ls]) rfl (fj g.p g.ok)))];rw[aH (Z':=[.va (RR cs ls),.va (.int n),.va (.tup ls)]) ((c6 (t:=.tup ls) rfl rfl))]
 have w:aY (.int n) 0 ((ls.length:Int) - 1)=true:=by unfold aY;simp;omega
 rw[aH (sV (t:=.non) (bw (ts:=[.int (ls.length:Int),.int n]) rfl (sH rfl w)))];exact dA (bF (ar (t:=.tup cs) rfl (ar (t:=.tup (ur ls n)) (aK (t:=.tup (ls.take n)) (u:=.tup (ls.drop (n+1))) (Ay rfl rfl) (wU rfl rfl) (jf _ _ (by have:=qv ls n;unfold ur at this;omega))) rfl)) (aE (k:=2) (by simp)))
def mS (l:List T)(n:Nat)(c:T):List T:=(l.take n++ [c])++l.drop (n+1)
theorem BH (l:List T)(n:Nat)(c:T):(mS l n c).length<=l.length+1:=by unfold mS;rw[Js,Js,J5,J6];simp;omega
theorem yS {l:List T}{n:Nat}{c:T}(h:(T.tup l).pl=true)(hc:c.pl=true):(T.tup (mS l n c)).pl=true:=by
 rw[ik]at*;refine gy λt ht=> ?_
 unfold mS at ht;rcases JN.mp ht with ht | ht
 ·rcases JN.mp ht with ht | ht
  ·exact eQ h (N9 ht)
  ·cases JG.mp ht;exact hc
 ·exact eQ h (Mu ht)
theorem E5 {l:List T}{n:Nat}{c:T}{f g h:En->Rs T}{Z:En}(hl:l.length<=100)(hf:f Z= .ok (.tup l))(hg:g Z= .ok (.int n))(hc:h Z= .ok c) :
  o2 aL (o2 aL (sl f pN (pS g)) (aU (ae h ai))) (sl f (pS (o2 aL g (cn (.int 1)))) pN) Z= .ok (.tup (mS l n c)):=by
 have:=BH l n c;refine aK (t:=.tup (l.take n++ [c])) (u:=.tup (l.drop (n+1))) (aK (t:=.tup (l.take n)) (u:=.tup [c]) (Ay hf hg) (bF (ar hc rfl) (aE (k:=1) (by simp))) (jf _ _ (by simp;omega))) (wU hf hg) (jf _ _ (by unfold mS at this;omega))
theorem sd {cs ls:List T}{n:Nat}{c:T}(g:Good cs ls)(hc:c.pl=true):eR [RR cs ls,.int n,c] =mR (.tup [.tup (mS cs n c),.tup ls]):=by
 obtain⟨_,_,h4⟩:=bH g.c;refine pX rfl ?_
 show gI [.va (RR cs ls),.va (.int n),.va c,.em] =_
 unfold gI;rw[aH (Z':=[.va (RR cs ls),.va (.int n),.va c,.va (.tup cs)]) (c6 (t:=.tup cs) rfl rfl)];exact qh (bw (ts:=[.tup [.tup (mS cs n c),.tup ls]]) (ar (bF (ar (t:=.tup (mS cs n c)) (E5 (by omega) rfl rfl rfl) (ar (t:=.tup ls) rfl rfl)) (aE (k:=2) (by simp))) rfl) (wM (i0 (yS g.parts.1 hc) g.pls)))
theorem w_in {n m:Nat}(h:n<m):aY (.int n) 0 ((m:Int) - 1)=true:=by unfold aY;simp;omega
theorem AA {cs ls:List T}{n:Nat}(g:Good cs ls)(hn:n<cs.length):∃(x y:Int) (r:List Int),cs[n]? =some (.tup [.int x,.int y,.tup (r.map .int)])/\1<=r.length/\r.length<=4:=by
 obtain⟨hc,_,h4⟩:=bH g.c;obtain⟨x,y,r,e,_,_,h1,h2⟩:=dZ (hc _ (KZ hn));exact⟨x,y,r,by rw[Jv hn,e],h1,h2⟩
theorem oy {cs ls:List T}{n:Nat}{x y u:T}{r:List T}(g:Good cs ls)(hn:n<cs.length)(e:cs[n]? =some (.tup [x,y,.tup r]))(hr:r.length<=4)(hx:x.pl=true)(hy:y.pl=true)(hp:(T.tup r).pl=true)(hu:u.pl=true) :
  bS [RR cs ls,.int n,u] =mR (.tup [.tup (mS cs n (.tup [x,y,.tup (r++ [u])])),.tup ls]):=by
 refine pX rfl ?_
 show fz [.va (RR cs ls),.va (.int n),.va u,.em] =_
 unfold fz;rw[aH (sV (t:=.non) (bw (ts:=[RR cs ls]) rfl (fj g.p g.ok)))];rw[aH (sV (t:=.non) (bw (ts:=[.int (cs.length:Int),.int n]) rfl (sH rfl (w_in hn))))];rw[aH (Z':=[.va (RR cs ls),.va (.int n),.va u,.va (.tup [x,y,.tup r])]) (c6 (t:=.tup [x,y,.tup r]) (qU (n:=n) (l:=cs) rfl rfl e) rfl)];refine qh (bw (ts:=[RR cs ls,.int n,.tup [x,y,.tup (r++ [u])]]) (ar rfl (ar rfl (ar (bF (ar (t:=x) rfl (ar (t:=y) rfl (ar (t:=.tup (r++ [u])) (aK (t:=.tup r) (u:=.tup [u]) rfl (bF rfl (aE (k:=1) (by simp))) (jf _ _ (by simp;omega))) rfl))) (aE (k:=3) (by simp))) rfl))) (sd g ?_))
 have:=qm hp (m:=[u]) (by simp[T.pl,plS,hu])
 simp[T.pl,plS,hx,hy]at this ⊢;exact this
theorem kr {n:Nat}{l:List T}(h:∀t∈l,t.dep<=n):(T.tup l).dep<=n+1:=by unfold T.dep;have:=rf h;omega
theorem x9 {c:T}(h:bo c=true):c.dep<=2:=by
 obtain⟨x,y,r,rfl,_⟩:=dZ h;refine kr λt ht=> ?_
 simp only[Ju,KD,or_false]at ht;rcases ht with rfl | rfl | rfl
 ·simp[T.dep]
 ·simp[T.dep]
 ·exact kr (n:=0) λt ht=>by obtain⟨i,_,rfl⟩:=Kb.mp ht;simp[T.dep]
theorem uI {cs:List T}{t:T}(h:bh cs t=true):t.dep<=2:=by
 obtain⟨a,b,x,y,rfl,hd,ha,hb,_⟩:=cY h;obtain⟨m1,m2⟩:=G4 h
 have:=(Dj ha).2
 have:=(Dj hb).2
 have hx:x.dep<=2:=by
  unfold c7 at hd;rw[Jj]at hd;obtain⟨i,rfl,_⟩:=cg hd.1;simp[T.dep]
 unfold T.dep deps deps deps deps deps;obtain⟨a',b',mo,le,e,_⟩:=lr h;cases e;simp only[T.dep];omega
theorem vD {cs ls:List T}(g:Good cs ls):(T.tup cs).dep<=3/\(T.tup ls).dep<=3:=⟨kr λt ht=>x9 ((bH g.c).1 t ht),kr λt ht=>uI (g.l t ht)⟩
theorem Bh {cs ls:List T}(h:dB (RR cs ls)=true)(hp:(RR cs ls).pl=true):Good cs ls:=by
 have h':(a7 (.tup cs)&&(du (.tup ls) 0 8&&ls.all (bh cs)))=true:=h;rw[Jj,Jj,JP]at h';exact⟨h'.1,h'.2.2,by have:=h'.2.1;simp[du]at this;exact this,hp⟩
end G
set_option maxHeartbeats 1000000
namespace G
open PySem Tr
theorem zl {D:Bool}:∀{l:List T},(∀t∈l,t.nk D=true)->nks D l=true
 | [],_=>rfl
 | t::l,h=>by unfold nks;rw[h t (.head _),zl λu hu=>h u (.tail _ hu)];rfl
theorem kM {D:Bool}{l:List T}(h:∀t∈l,t.nk D=true):(T.tup l).nk D=true:=by unfold T.nk;exact zl h
theorem Az {c:T}(h:bo c=true):c.nk false=true:=by
 obtain⟨x,y,r,rfl,_⟩:=dZ h;refine kM λt ht=> ?_
 simp at ht
 rcases ht with rfl | rfl | rfl
 ·rfl
 ·rfl
 ·exact kM λu hu=>by obtain⟨k,_,rfl⟩:=Kb.mp hu;rfl
theorem sZ {cs:List T}{t:T}(h:aZ cs t=true):t.nk false=true:=by
 obtain⟨c,k,rfl⟩:=cU h;rfl
theorem xO {cs:List T}{t:T}(h:bh cs t=true):t.nk false=true:=by
 obtain⟨a,b,x,y,rfl,hd,ha,hb,_⟩:=cY h;unfold c7 at hd;rw[Jj]at hd;obtain⟨i,rfl,_⟩:=cg hd.1;refine kM λt ht=> ?_
 simp at ht
 rcases ht with rfl | rfl | rfl | rfl
 ·exact sZ ha
 ·exact sZ hb
 ·rfl
 ·have:=hd.2
  cases t <;> first | rfl | simp[aY]at this
def GR (r:T):Prop:=∃cs ls,r=RR cs ls/\Good cs ls
theorem GR.pl {r:T}(h:GR r):r.pl=true:=by obtain⟨cs,ls,rfl,g⟩:=h;exact g.p
theorem GR.nk {r:T}(h:GR r):r.nk false=true:=by
 obtain⟨cs,ls,rfl,g⟩:=h;refine kM λt ht=> ?_
 simp at ht
 rcases ht with rfl | rfl
 ·exact kM λc hc=>Az ((bH g.c).1 c hc)
 ·exact kM λu hu=>xO (g.l u hu)
theorem GR.dep {r:T}(h:GR r):r.dep<=4:=by
 obtain⟨cs,ls,rfl,g⟩:=h;refine kr λt ht=> ?_
 simp at ht
 rcases ht with rfl | rfl
 ·exact(vD g).1
 ·exact(vD g).2
theorem GR.hw {r:T}(h:GR r):∃b,dz [r] = .ok (.bl b):=by
 obtain⟨cs,ls,rfl,g⟩:=h;obtain⟨L,P,R⟩:=vE g;obtain⟨b,e,_⟩:=R.Jd;exact⟨b,e⟩
theorem GR.need {r:T}(h:GR r):aM [r] = .ok .non:=by
 obtain⟨cs,ls,rfl,g⟩:=h;exact fj g.p g.ok
theorem GR.of {cs ls:List T}(hp:(RR cs ls).pl=true)(h:dB (RR cs ls)=true):GR (RR cs ls):=⟨cs,ls,rfl,Bh h hp⟩
abbrev sp (w r:T):T:=.tup [w,r]
abbrev SK (P A:List T):OT:=.ob "Sketch" ["past","ahead"] [P,A]
abbrev SV (P A:List T):T:=.ob "Sketch" ["past","ahead"] [.lst P,.lst A]
theorem zW (l:List T)(z:T):aR (.lst (l++ [z])) (.int (-1))= .ok z:=by
 have:=qV l z;exact this
theorem kS {α:Type}(P A:α):iI "past" ["past","ahead"] [P,A] =some P:=by unfold iI;rw[if_pos rfl]
theorem mq {α:Type}(P A:α):iI "ahead" ["past","ahead"] [P,A] =some A:=by unfold iI;rw[if_neg (by decide)];unfold iI;rw[if_pos rfl]
theorem uq (P A Q:List T):g8 "past" Q ["past","ahead"] [P,A] = [Q,A]:=by unfold g8;rw[if_pos rfl]
theorem qu (P A Q:List T):g8 "ahead" Q ["past","ahead"] [P,A] = [P,Q]:=by unfold g8;rw[if_neg (by decide)];unfold g8;rw[if_pos rfl]
theorem HH (P A:List T)(w r:T):aq [SV (P++ [sp w r]) A] = .ok r:=
 cy rfl (dA (aK (aK (sU (ns:=["past","ahead"]) (ts:=[.lst (P++ [sp w r]),.lst A]) rfl (kS _ _)) (Ca rfl rfl) (zW P (sp w r))) rfl (wu (n:=1) rfl)))
theorem Al (P A:List T):aB [SV P A] = .ok (.tup [.int ((P.length:Int) - 1),.int (A.length:Nat)]):=by
 refine cy rfl (dA (bF (ts:=[.int ((P.length:Int) - 1),.int (A.length:Nat)]) (ar (aK (t:=.int (P.length:Nat)) (u:=.int 1) (bw (ts:=[.lst P]) (ar (sU (ns:=["past","ahead"]) (ts:=[.lst P,.lst A]) rfl (kS _ _)) rfl) rfl) rfl rfl) (ar (bw (ts:=[.lst A]) (ar (sU (ns:=["past","ahead"]) (ts:=[.lst P,.lst A]) rfl (mq _ _)) rfl) rfl) rfl)) (aE (k:=2) (by simp))))
theorem Fu {r:T}(h:GR r):cL [.ow (.ob "Sketch" [] []),.va r] = .ok (.non,SK [sp .non r] []):=by
 refine wm (Z:=[.ow (SK [sp .non r] []),.va r]) rfl ?_ rfl
 show dS [.ow (.ob "Sketch" [] []),.va r] =_
 unfold dS;refine dO (Z':=[.ow (.ob "Sketch" [] []),.va r]) (nI (t:=.non) (sR (bw (ts:=[r]) rfl h.need))) ?_
 refine dO (Z':=[.ow (.ob "Sketch" ["past"] [[sp .non r]]),.va r]) ((uO (c:="Sketch") (ns:=[]) (ls:=[]) (l:=[sp .non r]) rfl (ar (bF rfl (aE (k:=2) (by simp))) rfl) (by simp) (by simp)).trans rfl) ?_
 refine(uO (c:="Sketch") (ns:=["past"]) (ls:=[[sp .non r]]) (l:=[]) rfl rfl (by simp) (by simp)).trans ?_
 rw[if_neg (by decide)];rfl
theorem e_go {P A:List T}{w:Str}{r:T}{b:Bool}(hb:dz [r] = .ok (.bl b))(hl:P.length<=1000):bc [.ow (SK P A),.va (.str w),.va r] = .ok (.bl b,SK (P++ [sp (.str w) r]) []):=by
 refine jN (Z:=[.ow (SK (P++ [sp (.str w) r]) []),.va (.str w),.va r]) rfl ?_ rfl
 show fA [.ow (SK P A),.va (.str w),.va r] =_
 unfold fA;refine dO (Z':=[.ow (SK (P++ [sp (.str w) r]) A),.va (.str w),.va r]) (nI (t:=.non) ((uK (ns:=["past","ahead"]) (ls:=[P,A]) (l:=P) (t:=sp (.str w) r) rfl (kS _ _) (bF rfl (aE (k:=2) (by simp))) hl).trans (by rw[uq];rfl))) ?_
 refine dO (Z':=[.ow (SK (P++ [sp (.str w) r]) []),.va (.str w),.va r]) ((uO (c:="Sketch") (ns:=["past","ahead"]) (ls:=[P++ [sp (.str w) r],A]) (l:=[]) rfl rfl (by simp) (by simp)).trans (by rw[if_pos (by decide),qu];rfl)) ?_
 exact qT (sR (bw (ts:=[r]) rfl hb))
section
variable {P A:List T}{w r r' t u:T}{X:En->Rs T}{Z:En}{v:Str}
theorem jv {i:Nat}(hi:Z[i]? =some (.ow (SK (P++ [sp w r]) A)))(h:GR r):ln i (fm "Sketch" "record" aq (vr i) ai) Z= .ok r:=by
 have hl:i<Z.length:=(Jt.mp hi).1
 refine uP hi (Dc (c:="Sketch") (ns:=["past","ahead"]) (ts:=[.lst (P++ [sp w r]),.lst A]) (EX ?_) (by decide) rfl (HH P A w r)) h.nk
 unfold disown;rw[hi];simp[hl];rfl
theorem pw {i:Nat}(hi:Z[i]? =some (.ow (SK P A))):ln i (fm "Sketch" "counts" aB (vr i) ai) Z= .ok (.tup [.int ((P.length:Int) - 1),.int (A.length:Nat)]):=by
 have hl:i<Z.length:=(Jt.mp hi).1
 refine uP hi (Dc (c:="Sketch") (ns:=["past","ahead"]) (ts:=[.lst P,.lst A]) (EX ?_) (by decide) rfl (Al P A)) rfl
 unfold disown;rw[hi];simp[hl];rfl
theorem Fb (hi:Z[0]? =some (.ow (SK P A)))(hx:X Z= .ok r')(h:GR r')(hl:P.length<=1000):∃b,jM (bq 0 "Sketch" "go_on" bc (ae (cn (.str v)) (ae X ai))) Z= .ok (.rt (.bl b) (Z.set 0 (.ow (SK (P++ [sp (.str v) r']) [])))):=by
 obtain⟨b,hb⟩:=h.hw;exact⟨b,qT (fQ (ns:=["past","ahead"]) (ls:=[P,A]) (ts:=[.str v,r']) hi (by decide) (ar rfl (ar hx rfl)) (e_go hb hl))⟩
theorem Dd {d:Str}(hi:Z[0]? =some (.ow (SK P A)))(hx:X Z= .err d):jM (bq 0 "Sketch" "go_on" bc (ae (cn (.str v)) (ae X ai))) Z= .err d:=by
 refine Cb (zJ (ns:=["past","ahead"]) (ls:=[P,A]) hi (by decide) ?_)
 unfold ae;rw[show cn (.str v) Z= .ok (.str v)from rfl,az,hx];rfl
theorem Ct (h:GR r)(hl:(P++ [sp w r]).length<=1000)(hx:cj [r,t] = .ok r')(h':GR r'):∃b,cv [.ow (SK (P++ [sp w r]) A),.va t] = .ok (.bl b,SK (P++ [sp w r] ++ [sp (.str "write") r']) []):=by
 obtain⟨b,hb⟩:=Fb (v:="write") (P:=P++ [sp w r]) (A:=A) (Z:=[.ow (SK (P++ [sp w r]) A),.va t]) (X:=cl cj (ae (ln 0 (fm "Sketch" "record" aq (vr 0) ai)) (ae (vr 1) ai))) rfl (bw (ar (jv rfl h) rfl) hx) h' hl;exact⟨b,jN rfl hb rfl⟩
theorem Ad {d:Str}(h:GR r)(hx:cj [r,t] = .err d):cv [.ow (SK (P++ [sp w r]) A),.va t] = .err d:=
 wo rfl (Dd (P:=P++ [sp w r]) (A:=A) (Z:=[.ow (SK (P++ [sp w r]) A),.va t]) rfl (bw (ar (jv rfl h) rfl) hx))
theorem HI (h:GR r)(hl:(P++ [sp w r]).length<=1000)(hx:bP [r,t] = .ok r')(h':GR r'):∃b,dN [.ow (SK (P++ [sp w r]) A),.va t] = .ok (.bl b,SK (P++ [sp w r] ++ [sp (.str "cut") r']) []):=by
 obtain⟨b,hb⟩:=Fb (v:="cut") (P:=P++ [sp w r]) (A:=A) (Z:=[.ow (SK (P++ [sp w r]) A),.va t]) (X:=cl bP (ae (ln 0 (fm "Sketch" "record" aq (vr 0) ai)) (ae (vr 1) ai))) rfl (bw (ar (jv rfl h) rfl) hx) h' hl;exact⟨b,jN rfl hb rfl⟩
theorem Fs (h:GR r)(hl:(P++ [sp w r]).length<=1000)(hx:bS [r,t,u] = .ok r')(h':GR r'):∃b,cI [.ow (SK (P++ [sp w r]) A),.va t,.va u] = .ok (.bl b,SK (P++ [sp w r] ++ [sp (.str "read") r']) []):=by
 obtain⟨b,hb⟩:=Fb (v:="read") (P:=P++ [sp w r]) (A:=A) (Z:=[.ow (SK (P++ [sp w r]) A),.va t,.va u]) (X:=cl bS (ae (ln 0 (fm "Sketch" "record" aq (vr 0) ai)) (ae (vr 1) (ae (vr 2) ai)))) rfl (bw (ar (jv rfl h) rfl) hx) h' hl;exact⟨b,jN rfl hb rfl⟩
theorem Cw {d:Str}(h:GR r)(hx:bS [r,t,u] = .err d):cI [.ow (SK (P++ [sp w r]) A),.va t,.va u] = .err d:=
 wo rfl (Dd (P:=P++ [sp w r]) (A:=A) (Z:=[.ow (SK (P++ [sp w r]) A),.va t,.va u]) rfl (bw (ar (jv rfl h) rfl) hx))
theorem Aq (hp:P≠ [])(hl:P.length<=1000)(ha:A.length<=1000):aN [.ow (SK (P++ [sp w r]) A)] = .ok (w,SK P (A++ [sp w r])):=by
 refine jN (Z:=[.ow (SK P (A++ [sp w r])),.va (sp w r)]) rfl ?_ rfl
 show gd [.ow (SK (P++ [sp w r]) A),.em] =_
 unfold gd
 have hn:((P++ [sp w r]).length:Int)≠1:=by
  rw[Js]
  have:P.length≠0:=λz=>hp (List.length_eq_zero_iff.mp z)
  simp;omega
 have c0:tb (o2 g9 (ln 0 (cl ck (ae (o1 (lS "Sketch" "past") (vr 0)) ai))) (cn (.int 1))) [.ow (SK (P++ [sp w r]) A),.em] = .ok false:=by
  refine cZ (aK (t:=.int ((P++ [sp w r]).length:Nat)) (u:=.int 1) (uP (o:=SK (P++ [sp w r]) A) rfl (bw (ts:=[.lst (P++ [sp w r])]) (ar (sU (ns:=["past","ahead"]) (ts:=[.lst (P++ [sp w r]),.lst A]) rfl (kS _ _)) rfl) rfl) rfl) rfl ?_)
  rw[jP,beq_eq_false_iff_ne.mpr hn]
 refine dO (Z':=[.ow (SK (P++ [sp w r]) A),.em]) ((eK c0).trans rfl) ?_
 refine dO (Z':=[.ow (SK P A),.va (sp w r)]) (pq (Z':=[.ow (SK P A),.em]) ((zH (ns:=["past","ahead"]) (ls:=[P++ [sp w r],A]) (l:=P) (t:=sp w r) rfl (kS _ _)).trans (by rw[uq];rfl)) (by simp)) ?_
 refine dO (Z':=[.ow (SK P (A++ [sp w r])),.va (sp w r)]) (nI (t:=.non) ((uK (ns:=["past","ahead"]) (ls:=[P,A]) (l:=A) (t:=sp w r) rfl (mq _ _) rfl ha).trans (by rw[qu];rfl))) ?_
 exact qT (sR (qU (n:=0) (l:=[w,r]) rfl rfl rfl))
theorem Cy (hl:P.length<=1000)(hd:∀s∈A++ [sp w r],s.pl=true):bV [.ow (SK P (A++ [sp w r]))] = .ok (w,SK (P++ [sp w r]) A):=by
 refine jN (Z:=[.ow (SK (P++ [sp w r]) A),.va (sp w r)]) rfl ?_ rfl
 show fB [.ow (SK P (A++ [sp w r])),.em] =_
 unfold fB
 have c0:zv 0 (tb (o2 g9 (o1 (lS "Sketch" "ahead") (vr 0)) (fF ai))) [.ow (SK P (A++ [sp w r])),.em] = .ok false:=by
  refine zQ (cZ (aK (t:=.lst (A++ [sp w r])) (u:=.lst []) (sU (ns:=["past","ahead"]) (ts:=[.lst P,.lst (A++ [sp w r])]) rfl (mq _ _)) (nJ rfl (by unfold sizeLine;simp)) ?_))
  unfold g9;rw[if_pos (nL (by simp[T.dep,deps]) (T.Iu _ (by unfold T.pl;exact gy hd)) rfl)]
  cases A <;> rfl
 refine dO (Z':=[.ow (SK P (A++ [sp w r])),.em]) ((eK c0).trans rfl) ?_
 refine dO (Z':=[.ow (SK P A),.va (sp w r)]) (pq (Z':=[.ow (SK P A),.em]) ((zH (ns:=["past","ahead"]) (ls:=[P,A++ [sp w r]]) (l:=A) (t:=sp w r) rfl (mq _ _)).trans (by rw[qu];rfl)) (by simp)) ?_
 refine dO (Z':=[.ow (SK (P++ [sp w r]) A),.va (sp w r)]) (nI (t:=.non) ((uK (ns:=["past","ahead"]) (ls:=[P,A]) (l:=P) (t:=sp w r) rfl (kS _ _) rfl hl).trans (by rw[uq];rfl))) ?_
 exact qT (sR (qU (n:=0) (l:=[w,r]) rfl rfl rfl))
end
end G
set_option maxHeartbeats 1000000
namespace G
open PySem Tr
abbrev stB:En->Rs Fx:=(xM (rq (tb (o2 g9 (vr 4) (cn (.int 0)))) (tb (o2 fE (o2 aR (vr 3) (cn (.int 1))) (aU ai)))) (sO (bq 2 "Sketch" "cut" dN (ae (cl ay (ae (vr 0) (ae (o2 aL (vr 1) (cn (.int 8))) (ae (cl ck (ae (o2 aR (vr 3) (cn (.int 1))) ai)) ai)))) ai))) (xM (tb (o2 g9 (vr 4) (cn (.int 1)))) (sO (bq 2 "Sketch" "read" cI (ae (vr 6) (ae (o2 aL (o2 aL (o2 aR (o2 aR (o2 aR (o2 aR (vr 3) (cn (.int 0))) (vr 6)) (cn (.int 2))) (o1 ji (cn (.int 1)))) (cn (.int 1))) (cl ay (ae (vr 0) (ae (o2 aL (vr 1) (cn (.int 8))) (ae (cn (.int 5)) ai))))) ai)))) (xM (tb (o2 iq (vr 5) (cn .non))) (sO (bq 2 "Sketch" "write" cv (ae (vr 5) ai))) mN)))
def AH (v:Str):Prop:=v= "write"\/v= "read"\/v= "cut"
def CM (P A:List T)(o:OT):Prop:=o=SK P A\/∃v r',AH v/\GR r'/\o=SK (P++ [sp (.str v) r']) []
theorem uE {l:List T}(h:(T.tup l).pl=true):fE (.tup l) (.tup [])= .ok (.bl (!l.isEmpty)):=by
 unfold fE;rw[if_pos (nL (by simp[T.dep,deps]) (T.Iu _ h) rfl)]
 cases l <;> rfl
theorem vU {l:List T}{n:Nat}{t:T}(h:t∈ur l n):t∈l:=by
 unfold ur at h;rcases JN.mp h with h | h
 ·exact N9 h
 ·exact Mu h
theorem Ae (ns:List Int)(hn:ns.length<=63)(a:Nat){P A:List T}{w r:T}(h:GR r)(hl:(P++ [sp w r]).length<=1000) :
  ∃o,bM [.va (.scr ns),.va (.int a),.ow (SK (P++ [sp w r]) A)] = .ok (.non,o)/\CM (P++ [sp w r]) A o:=by
 have hG:=h;obtain⟨cs,ls,rfl,g⟩:=h
 have hcl:=bH g.c;obtain⟨d1,e1,p1,q1⟩:=bX ns a 4 hn (by omega)
 obtain⟨t5,e5,h5⟩:=pG ns hn (a+1) cs g.c;obtain⟨d2,e2,p2,q2⟩:=bX ns (a+7) (cs.length:Int) hn (by omega)
 obtain⟨d1,rfl⟩:=JL p1;obtain⟨d2,rfl⟩:=JL p2
 let o0:OT:=SK (P++ [sp w (RR cs ls)]) A
 let E:OT->En:=λo=> [.va (.scr ns),.va (.int a),.ow o,.va (RR cs ls),.va (.int d1),.va t5,.va (.int d2)]
 have key:∀k,nu stB (qX "NoRecord" .non) (E o0)= .ok k->iQ [.va (.scr ns),.va (.int a),.ow o0,.em,.em,.em,.em] = .ok k:=λk hk=>by
  unfold iQ;refine dO (pq (t:=RR cs ls) (sR (jv rfl hG)) (by simp)) ?_
  refine dO (pq (t:=.int d1) (sR (bw (ts:=[.scr ns,.int (a:Nat),.int 4]) rfl e1)) (by simp)) ?_
  refine dO (pq (t:=t5) (sR (bw (ts:=[.scr ns,.int ((a+1:Nat):Int),.tup cs]) rfl e5)) (by simp)) ?_
  refine dO (pq (t:=.int d2) (sR (bw (ts:=[.scr ns,.int ((a+7:Nat):Int),.int (cs.length:Nat)]) rfl e2)) (by simp)) ?_
  exact hk
 have done:∀o,nu stB (qX "NoRecord" .non) (E o0)= .ok (.nx (E o))->bM [.va (.scr ns),.va (.int a),.ow o0] = .ok (.non,o):=λo hk=>wm (Z:=E o) rfl (key _ hk) rfl
 have gone:nu stB (qX "NoRecord" .non) (E o0)= .ok (.rt .non (E o0))->bM [.va (.scr ns),.va (.int a),.ow o0] = .ok (.non,o0):=λhk=>jN (Z:=E o0) rfl (key _ hk) rfl
 have c1:tb (o2 g9 (vr 4) (cn (.int 0))) (E o0)= .ok ((d1:Int) == 0):=cZ (aK rfl rfl (jP _ _))
 have c2:tb (o2 fE (o2 aR (vr 3) (cn (.int 1))) (aU ai)) (E o0)= .ok (!ls.isEmpty):=cZ (aK (t:=.tup ls) (u:=.tup []) (qU (n:=1) (l:=[.tup cs,.tup ls]) rfl rfl rfl) (bF rfl (aE (k:=1) (by simp))) (uE g.pls))
 by_cases hc:d1=0/\ls≠ []
 ·obtain⟨hd,hls⟩:=hc
  have hlen:0<ls.length:=ME.mpr hls;obtain⟨d3,e3,p3,q3⟩:=bX ns (a+8) (ls.length:Int) hn (by omega)
  obtain⟨d3,rfl⟩:=JL p3
  have h3:d3<ls.length:=by omega
  obtain⟨b,hb⟩:=HI (P:=P) (A:=A) (w:=w) (t:=.int d3) hG hl (xy g h3) ⟨cs,_,rfl,g.sub (λt ht=>vU ht) (J2 (qv _ _) g.n)⟩
  refine⟨_,done _ (qS ((eK (k:=true) ?_).trans (nI (fQ (c:="Sketch") (ns:=["past","ahead"]) (ls:=[P++ [sp w (RR cs ls)],A]) (ts:=[.int d3]) rfl (by decide) (ar (bw (ts:=[.scr ns,.int ((a+8:Nat):Int),.int (ls.length:Nat)]) rfl e3) rfl) hb)))),.inr ⟨"cut",_,.inr (.inr rfl),⟨cs,_,rfl,g.sub (λt ht=>vU ht) (J2 (qv _ _) g.n)⟩,rfl⟩⟩
  refine zU (c1.trans (by rw[hd];rfl)) (c2.trans ?_)
  cases ls
  ·exact absurd rfl hls
  ·rfl
 ·have cA:rq (tb (o2 g9 (vr 4) (cn (.int 0)))) (tb (o2 fE (o2 aR (vr 3) (cn (.int 1))) (aU ai))) (E o0)= .ok false:=by
   by_cases hd:d1=0
   ·refine zU (c1.trans (by rw[hd];rfl)) (c2.trans ?_)
    cases ls
    ·rfl
    ·exact absurd ⟨hd,by simp⟩ hc
   ·exact Fe (c1.trans (by rw[beq_eq_false_iff_ne.mpr (by omega)]))
  by_cases hd:d1=1
  ·obtain⟨x,y,rr,er,h1,h4⟩:=AA g (n:=d2) (by omega)
   obtain⟨l,z,hlz⟩:∃l z,rr=l++ [z]:=⟨rr.dropLast,rr.getLast (by intro hz;rw[hz]at h1;simp at h1),(Mw _).symm⟩
   obtain⟨d4,e4,p4,q4⟩:=bX ns (a+8) 5 hn (by omega)
   have plr:(T.tup (rr.map .int)).pl=true:=by rw[ik];exact gy λt ht=>by obtain⟨k,_,rfl⟩:=Kb.mp ht;rfl
   have hw:=oy (u:=.int (z+1+d4)) g (n:=d2) (by omega) er (by rw[Jo];exact h4) rfl rfl plr rfl
   have hargs:ae (vr 6) (ae (o2 aL (o2 aL (o2 aR (o2 aR (o2 aR (o2 aR (vr 3) (cn (.int 0))) (vr 6)) (cn (.int 2))) (o1 ji (cn (.int 1)))) (cn (.int 1))) (cl ay (ae (vr 0) (ae (o2 aL (vr 1) (cn (.int 8))) (ae (cn (.int 5)) ai))))) ai) (E o0)= .ok [.int d2,.int (z+1+d4)]:=by
    refine ar rfl (ar (aK (t:=.int (z+1)) (u:=.int d4) (aK (t:=.int z) (u:=.int 1) (aK (t:=.tup (rr.map .int)) (u:=.int (-1)) (qU (n:=2) (l:=[.int x,.int y,.tup (rr.map .int)]) (qU (n:=d2) (l:=cs) (qU (n:=0) (l:=[.tup cs,.tup ls]) rfl rfl rfl) rfl er) rfl rfl) rfl ?_) rfl rfl) (bw (ts:=[.scr ns,.int ((a+8:Nat):Int),.int 5]) rfl e4) rfl) rfl)
    rw[hlz,KB];exact qV _ _
   have cB:tb (o2 g9 (vr 4) (cn (.int 1))) (E o0)= .ok true:=(cZ (aK rfl rfl (jP _ _))).trans (by rw[hd];rfl)
   unfold mR at hw
   split at hw
   ·rename_i hrec
    have hp:(RR (mS cs d2 (.tup [.int x,.int y,.tup (rr.map .int++ [.int (z+1+d4)])])) ls).pl=true:=by
     refine i0 (yS g.parts.1 ?_) g.pls
     have:=qm plr (m:=[.int (z+1+d4)]) rfl;simp[T.pl,plS]at this ⊢;exact this
    obtain⟨b,hb⟩:=Fs (P:=P) (A:=A) (w:=w) (t:=.int d2) (u:=.int (z+1+d4)) hG hl hw (GR.of hp hrec);exact⟨_,done _ (qS ((eK cA).trans ((eK cB).trans (nI (fQ (c:="Sketch") (ns:=["past","ahead"]) (ls:=[P++ [sp w (RR cs ls)],A]) (ts:=[.int d2,.int (z+1+d4)]) rfl (by decide) hargs hb))))),.inr ⟨"read",_,.inr (.inl rfl),GR.of hp hrec,rfl⟩⟩
   ·exact⟨_,gone (wt ((eK cA).trans ((eK cB).trans (zP (sS (c:="Sketch") (ns:=["past","ahead"]) (ls:=[P++ [sp w (RR cs ls)],A]) (ts:=[.int d2,.int (z+1+d4)]) rfl (by decide) hargs (Cw hG hw))))) (by unfold qX;rw[if_pos rfl])),.inl rfl⟩
  ·have cB:tb (o2 g9 (vr 4) (cn (.int 1))) (E o0)= .ok false:=(cZ (aK rfl rfl (jP _ _))).trans (by rw[beq_eq_false_iff_ne.mpr (by omega)])
   rcases h5 with rfl | ⟨h5,hs5⟩
   ·exact⟨_,done o0 (qS ((eK cA).trans ((eK cB).trans ((eK (k:=false) (cZ rfl)).trans rfl)))),.inl rfl⟩
   ·have h5p:t5.pl=true:=yH _ hs5
    have cC:tb (o2 iq (vr 5) (cn .non)) (E o0)= .ok true:=by
     obtain⟨a',b',x',y',rfl,_⟩:=cY h5
     rfl
    have hw:=qt (t:=t5) g.parts.1 g.pls (by have:=g.n;omega) h5p g.ok
    unfold mR at hw
    split at hw
    ·rename_i hrec
     have hp:(RR cs (ls++ [t5])).pl=true:=i0 g.parts.1 (qm g.pls (by simp[T.pl,plS,h5p]))
     obtain⟨b,hb⟩:=Ct (P:=P) (A:=A) (w:=w) hG hl hw (GR.of hp hrec);exact⟨_,done _ (qS ((eK cA).trans ((eK cB).trans ((eK cC).trans (nI (fQ (c:="Sketch") (ns:=["past","ahead"]) (ls:=[P++ [sp w (RR cs ls)],A]) (ts:=[t5]) rfl (by decide) rfl hb)))))),.inr ⟨"write",_,.inl rfl,GR.of hp hrec,rfl⟩⟩
    ·exact⟨_,gone (wt ((eK cA).trans ((eK cB).trans ((eK cC).trans (zP (sS (c:="Sketch") (ns:=["past","ahead"]) (ls:=[P++ [sp w (RR cs ls)],A]) (ts:=[t5]) rfl (by decide) rfl (Ad hG hw)))))) (by unfold qX;rw[if_pos rfl])),.inl rfl⟩
end G
set_option maxHeartbeats 1000000
namespace G
open PySem Tr
def wd:T->T
 | .tup [w,_] =>w
 | _=> .non
def rc:T->T
 | .tup [_,r] =>r
 | _=> .non
structure Pk (P:List T):Prop where
 ne:P≠ []
 st:∀s∈P,s=sp (wd s) (rc s)/\GR (rc s)/\(wd s).pl=true
 w:∀(j:Nat) (s:T),P[j+1]? =some s->∃v,AH v/\wd s= .str v
 n:P.length<=50
theorem Pk.last {P:List T}(h:Pk P):∃P' s,P=P'++ [s]:=⟨P.dropLast,P.getLast h.ne,(Mw _).symm⟩
theorem Pk.one {r:T}(h:GR r):Pk [sp .non r]:=⟨by simp,λs hs=>by cases JG.mp hs;exact⟨rfl,h,rfl⟩,λj s e=>by simp at e,by simp⟩
theorem Pk.snoc {P:List T}{v:Str}{r:T}(h:Pk P)(hv:AH v)(hr:GR r)(hl:P.length<50):Pk (P++ [sp (.str v) r]):=by
 refine⟨by simp,λs hs=> ?_,λj s e=> ?_,by simp;omega⟩
 ·rcases JN.mp hs with hs | hs
  ·exact h.st s hs
  ·cases JG.mp hs;exact⟨rfl,hr,rfl⟩
 ·by_cases hj:j+1<P.length
  ·rw[JR hj]at e;exact h.w j s e
  ·rw[Kp (by omega)]at e
   have:j+1 - P.length=0:=by
    have:=(Jt.mp e).1
    simp at this;omega
   rw[this]at e;cases e;exact⟨v,hv,rfl⟩
abbrev At (P:List T)(k:Nat):OT:=SK (P.take k) ((P.drop k).reverse)
section
variable {P:List T}{Z:En}
theorem mB {j:Nat}{s:T}(e:P[j]? =some s):P.take (j+1)=P.take j++ [s]:=by
 rw[List.take_add_one,e];rfl
theorem q0 {j:Nat}{s:T}(e:P[j]? =some s):(P.drop j).reverse=(P.drop (j+1)).reverse++ [s]:=by
 obtain⟨hj,rfl⟩:=Jt.mp e
 rw[Ks hj,List.reverse_cons]
theorem Pk.back (h:Pk P){j:Nat}{s:T}(e:P[j+1]? =some s):aN [.ow (At P (j+2))] = .ok (wd s,At P (j+1)):=by
 obtain⟨h1,h2,_⟩:=h.st s (JT e)
 have hn:=h.n
 have hj:=(Jt.mp e).1
 show aN [.ow (SK (P.take (j+1+1)) ((P.drop (j+2)).reverse))] =_
 rw[mB e];unfold At;rw[q0 e]
 have:=Aq (P:=P.take (j+1)) (A:=(P.drop (j+2)).reverse) (w:=wd s) (r:=rc s) (λz=>by have:=congrArg K3 z;rw[J5,MD]at this;omega) (by rw[J5];omega) (by rw[Oo,J6];omega)
 rw[<-h1]at this;exact this
theorem Pk.forth (h:Pk P){j:Nat}{s:T}(e:P[j+1]? =some s):bV [.ow (At P (j+1))] = .ok (wd s,At P (j+2)):=by
 obtain⟨h1,h2,_⟩:=h.st s (JT e)
 have hn:=h.n
 have hj:=(Jt.mp e).1
 unfold At;rw[show j+2=j+1+1 from rfl,mB e,q0 e]
 have:=Cy (P:=P.take (j+1)) (A:=(P.drop (j+2)).reverse) (w:=wd s) (r:=rc s) (by rw[J5];omega) (λu hu=> ?_)
 ·rw[<-h1]at this
  exact this
 ·rw[<-h1,<-q0 e]at hu
  obtain⟨g1,g2,g3⟩:=h.st u (Mu (PB.mp hu));rw[g1];exact i0 g3 g2.pl
theorem Pk.IM (h:Pk P){i j:Nat}{s:T}(e:P[j]? =some s)(hi:Z[i]? =some (.ow (At P (j+1)))):ln i (fm "Sketch" "record" aq (vr i) ai) Z= .ok (rc s):=by
 obtain⟨h1,h2,_⟩:=h.st s (JT e);unfold At at hi;rw[mB e,h1]at hi;exact jv hi h2
theorem Pk.cnt (h:Pk P){i j:Nat}(hj:j<P.length)(hi:Z[i]? =some (.ow (At P (j+1)))):ln i (fm "Sketch" "counts" aB (vr i) ai) Z= .ok (.tup [.int (j:Nat),.int ((P.length - 1 - j:Nat):Int)]):=by
 have:=pw hi;rw[J5,Oo,J6]at this;rw[this]
 have a1:((min (j+1) P.length:Nat):Int) - 1=(j:Nat):=by omega
 have a2:P.length - (j+1)=P.length - 1 - j:=by omega
 rw[a1,a2]
end
abbrev rows (P:List T):List T:=P.map rc
abbrev LE (ns:List Int)(o:OT)(R:List T)(k m w b a:Sl):En:=[.va (.scr ns),.ow o,.ow (.lst R),k,m,w,b,a]
abbrev F2:En->Rs Fl:=(aC (ou (oj 1 bM (ae (vr 0) (ae (o2 aL (cn (.int 80)) (o2 b8 (cn (.int 10)) (vr 3))) ai)))) (eO (tb (o2 g9 (o2 aR (ln 1 (fm "Sketch" "counts" aB (vr 1) ai)) (cn (.int 0))) (ln 2 (cl ck (ae (vr 2) ai))))) (lF 2 (ln 1 (fm "Sketch" "record" aq (vr 1) ai))) sN))
theorem uQ {ns:List Int}{o:OT}{R:List T}{k m w b a:Sl}:ln 2 (cl ck (ae (vr 2) ai)) (LE ns o R k m w b a)= .ok (.int (R.length:Nat)):=uP (o:=.lst R) rfl (bw (ts:=[.lst R]) rfl rfl) rfl
theorem Cp (ns:List Int)(hn:ns.length<=63)(j:Nat){P:List T}(h:Pk P)(hl:P.length<50)(m w b a:Sl):∃P',Pk P'/\P'.length<=P.length+1 ∧
  F2 (LE ns (SK P []) (rows P) (.va (.int (j:Nat))) m w b a)= .ok (.nx (LE ns (SK P' []) (rows P') (.va (.int (j:Nat))) m w b a)):=by
 obtain⟨P0,s,rfl⟩:=h.last;obtain⟨h1,h2,_⟩:=h.st s (by simp)
 have hstep:=Ae ns hn (80+10*j) (P:=P0) (A:=[]) (w:=wd s) (r:=rc s) h2 (by simp at hl ⊢;omega)
 rw[<-h1]at hstep;obtain⟨o,e1,e2⟩:=hstep
 have hx:ou (oj 1 bM (ae (vr 0) (ae (o2 aL (cn (.int 80)) (o2 b8 (cn (.int 10)) (vr 3))) ai))) (LE ns (SK (P0++ [s]) []) (rows (P0++ [s])) (.va (.int (j:Nat))) m w b a)= .ok (.nx (LE ns o (rows (P0++ [s])) (.va (.int (j:Nat))) m w b a)):=by
  refine De (t:=.non) (zK (o:=SK (P0++ [s]) []) (ts:=[.scr ns,.int ((80+10*j:Nat):Int)]) rfl (ar rfl (ar (aK (t:=.int 80) (u:=.int (10*(j:Int))) rfl (aK rfl rfl (lp (by omega) (by omega))) ?_) rfl)) e1)
  show Rs.ok (T.int (80+10*(j:Int)))=_
  simp
 rcases e2 with rfl | ⟨v,r',hv,hr,rfl⟩
 ·refine⟨P0++ [s],h,by omega,?_⟩
  unfold F2;rw[aH hx];refine(fw (cZ (aK (aK (pw rfl) rfl (wu (n:=0) rfl)) uQ ?_))).trans rfl
  rw[jP,beq_eq_false_iff_ne.mpr (by simp;omega)]
 ·have hp:=h.snoc hv hr hl
  refine⟨P0++ [s] ++ [sp (.str v) r'],hp,by simp,?_⟩
  unfold F2;rw[aH hx];refine(jw (cZ (aK (aK (pw rfl) rfl (wu (n:=0) rfl)) uQ ?_))).trans ((wz (l:=rows (P0++ [s])) (t:=r') (jv (P:=P0++ [s]) (A:=[]) rfl hr) rfl (by simp at hl ⊢;omega)).trans ?_)
  ·rw[jP,beq_iff_eq.mpr (by simp;omega)]
  ·show Rs.ok (Fl.nx (LE ns _ (rows (P0++ [s])++ [r']) _ m w b a))=_
   rw[show rows (P0++ [s])++ [r'] =rows (P0++ [s] ++ [sp (.str v) r'])by simp[rc]]
theorem wK (ns:List Int)(hn:ns.length<=63)(m w b a:Sl):∀(js:List Nat) {P:List T} (k:Sl),Pk P->P.length+js.length<=40->∃P' k',Pk P'/\P'.length<=P.length+js.length ∧
  br (gN 3) F2 (js.map λ(j:Nat)=>T.int j) (LE ns (SK P []) (rows P) k m w b a)= .ok (.nx (LE ns (SK P' []) (rows P') k' m w b a))
 | [],P,k,h,_=>⟨P,k,h,by simp,rfl⟩
 | j::js,P,k,h,hl=>by
  rw[Jp]at hl;obtain⟨P1,h1,l1,e1⟩:=Cp ns hn j h (by omega) m w b a
  obtain⟨P2,k2,h2,l2,e2⟩:=wK ns hn m w b a js (.va (.int j)) h1 (by omega)
  exact⟨P2,k2,h2,by rw[Jp];omega,by rw[Jm,ft (Z1:=LE ns (SK P []) (rows P) (.va (.int j)) m w b a) rfl e1];exact e2⟩
end G
set_option maxHeartbeats 2000000
namespace G
open PySem Tr
def uY:Nat->List T
 | 0=> []
 | n+1=> .int (n:Nat)::uY n
theorem CB (n:Nat):(J9 n).map (λ(k:Nat)=>T.int ((n:Int) - 1 - (k:Int)))=uY n:=by
 induction n with
 | zero=>rfl
 | succ n ih=>
  rw[Nx,Jm,Mq,uY,<-ih];refine congr (congrArg List.cons (by congr 1;simp)) (KN λk _=> ?_)
  show T.int (((n+1:Nat):Int) - 1 - ((k+1:Nat):Int))=T.int ((n:Int) - 1 - (k:Int))
  congr 1;omega
abbrev Wd (P:List T)(j:Nat):List T:=((P.drop j).reverse).map wd
abbrev F6:En->Rs Fl:=(aC (lh 5 (bq 1 "Sketch" "back" aN ai)) (eO (oa (tb (o2 fE (ln 1 (fm "Sketch" "record" aq (vr 1) ai)) (ln 2 (o2 aR (vr 2) (vr 3))))) (tb (o2 fE (ln 1 (fm "Sketch" "counts" aB (vr 1) ai)) (aU (ae (vr 3) (ae (o2 cV (vr 4) (vr 3)) ai)))))) (aJ (cn (.bl false))) sN))
abbrev F8:En->Rs Fl:=(aC (lE (oh (ye (vq fE (bq 1 "Sketch" "forth" bV ai) (ln 5 (o2 aR (vr 5) (o2 cV (vr 4) (vr 3)))))) (AO (tb (o2 fE (ln 1 (fm "Sketch" "record" aq (vr 1) ai)) (ln 2 (o2 aR (vr 2) (vr 3))))))) (aJ (cn (.bl false))) sN) (eO (tb (o2 fE (ln 1 (fm "Sketch" "counts" aB (vr 1) ai)) (aU (ae (vr 3) (ae (o2 cV (vr 4) (vr 3)) ai))))) (aJ (cn (.bl false))) sN))
section
variable {P:List T}{ns:List Int}
theorem vZ (a b:Int):fE (.tup [.int a,.int b]) (.tup [.int a,.int b])= .ok (.bl false):=kn rfl (by simp[T.dep,deps])
theorem GR.ne {r:T}(h:GR r):fE r r= .ok (.bl false):=kn h.pl (by have:=h.dep;omega)
theorem GR.eq {r:T}(h:GR r):g9 r r= .ok (.bl true):=qZ h.pl (by have:=h.dep;omega)
theorem Pk.row (h:Pk P){Z:En}{f:En->Rs T}{j:Nat}{s:T}(e:P[j]? =some s)(hi:Z[2]? =some (.ow (.lst (rows P))))(hf:f (disown 2 Z)= .ok (.int (j:Nat))):ln 2 (o2 aR (vr 2) f) Z= .ok (rc s):=by
 have hl:2<Z.length:=(Jt.mp hi).1
 refine uP hi (zR (n:=j) (l:=rows P) (EX ?_) hf (by rw[JA,e];rfl)) (h.st s (JT e)).2.1.nk
 unfold disown;rw[hi];simp[hl];rfl
theorem Pk.cts (h:Pk P){o2f:En->Rs T}{Z:En}{j:Nat}(hj:j<P.length)(hi:Z[1]? =some (.ow (At P (j+1)))){f g:En->Rs T}(hf:f Z= .ok (.int (j:Nat)))(hg:g Z= .ok (.int ((P.length - 1 - j:Nat):Int))) :
  tb (o2 fE (ln 1 (fm "Sketch" "counts" aB (vr 1) ai)) (aU (ae f (ae g ai)))) Z= .ok false:=
 cZ (aK (h.cnt hj hi) (bF (ar hf (ar hg rfl)) (aE (k:=2) (by simp))) (vZ _ _))
theorem Co (h:Pk P)(b a:Sl){k:Nat}(hk:k+1<P.length) :
  F6 (LE ns (At P (k+2)) (rows P) (.va (.int (k:Nat))) (.va (.int ((P.length - 1:Nat):Int))) (.ow (.lst (Wd P (k+2)))) b a)= .ok (.nx (LE ns (At P (k+1)) (rows P) (.va (.int (k:Nat))) (.va (.int ((P.length - 1:Nat):Int))) (.ow (.lst (Wd P (k+1)))) b a)):=by
 obtain⟨s,e⟩:∃s,P[k+1]? =some s:=⟨_,Jv hk⟩
 obtain⟨s0,e0⟩:∃s,P[k]? =some s:=⟨_,Jv (by omega)⟩
 have hn:=h.n
 have hW:Wd P (k+1)=Wd P (k+2)++ [wd s]:=by unfold Wd;rw[q0 e,KB];rfl
 unfold F6;rw[aH (Z':=LE ns (At P (k+1)) (rows P) (.va (.int (k:Nat))) (.va (.int ((P.length - 1:Nat):Int))) (.ow (.lst (Wd P (k+1)))) b a) ?_]
 ·refine(fw (C9 (cZ (aK (h.IM e0 rfl) (h.row e0 rfl rfl) (h.st s0 (JT e0)).2.1.ne)) (h.cts (o2f:=vr 0) (j:=k) (by omega) rfl rfl ?_))).trans rfl
  show Rs.ok (T.int (((P.length - 1:Nat):Int) - (k:Nat)))=_
  congr 2;omega
 ·rw[hW]
  exact Fc (l0:=Wd P (k+2)) rfl (fQ (c:="Sketch") (ns:=["past","ahead"]) (ls:=[P.take (k+2),(P.drop (k+2)).reverse]) (ts:=[]) rfl (by decide) rfl (h.back e)) rfl (by simp;omega)
theorem wJ (h:Pk P)(b a:Sl):∀(n:Nat) (k:Sl),n<P.length->∃k',br (gN 3) F6 (uY n) (LE ns (At P (n+1)) (rows P) k (.va (.int ((P.length - 1:Nat):Int))) (.ow (.lst (Wd P (n+1)))) b a)
  = .ok (.nx (LE ns (At P 1) (rows P) k' (.va (.int ((P.length - 1:Nat):Int))) (.ow (.lst (Wd P 1))) b a))
 | 0,k,_=>⟨k,rfl⟩
 | n+1,k,hn=>by
  obtain⟨k',e⟩:=wJ h b a n (.va (.int (n:Nat))) (by omega)
  exact⟨k',by rw[uY,ft (Z1:=LE ns (At P (n+2)) (rows P) (.va (.int (n:Nat))) (.va (.int ((P.length - 1:Nat):Int))) (.ow (.lst (Wd P (n+2)))) b a) rfl (Co h b a hn)];exact e⟩
theorem HN {m:Nat}{s:T}(hP:P.length=m+1){k:Nat}(hk:k<m)(e:P[k+1]? =some s):(Wd P 1)[m - (k+1)]? =some (wd s):=by
 unfold Wd;rw[JA,NU (by rw[J6];omega),OI,J6]
 rw[show 1+(P.length - 1 - 1 - (m - (k+1)))=k+1 by omega,e];rfl
theorem Cn (h:Pk P)(b a:Sl){k:Nat}(hk:k+1<P.length) :
  F8 (LE ns (At P (k+1)) (rows P) (.va (.int ((k+1:Nat):Int))) (.va (.int ((P.length - 1:Nat):Int))) (.ow (.lst (Wd P 1))) b a)= .ok (.nx (LE ns (At P (k+2)) (rows P) (.va (.int ((k+1:Nat):Int))) (.va (.int ((P.length - 1:Nat):Int))) (.ow (.lst (Wd P 1))) b a)):=by
 obtain⟨s,e⟩:∃s,P[k+1]? =some s:=⟨_,Jv hk⟩
 have hn:=h.n;obtain⟨g1,g2,g3⟩:=h.st s (JT e);obtain⟨v,hv,hwv⟩:=h.w k s e;unfold F8;rw[aH (Z':=LE ns (At P (k+2)) (rows P) (.va (.int ((k+1:Nat):Int))) (.va (.int ((P.length - 1:Nat):Int))) (.ow (.lst (Wd P 1))) b a) ?_]
 ·refine(fw (h.cts (o2f:=vr 0) (j:=k+1) (by omega) rfl rfl ?_)).trans rfl
  show Rs.ok (T.int (((P.length - 1:Nat):Int) - ((k+1:Nat):Int)))=_
  congr 2;omega
 ·refine(zS (b:=false) (wj (zF (zI (u:=wd s) (fQ (c:="Sketch") (ns:=["past","ahead"]) (ls:=[P.take (k+1),(P.drop (k+1)).reverse]) (ts:=[]) rfl (by decide) rfl (h.forth e)) (uP (o:=.lst (Wd P 1)) rfl (zR (n:=P.length - 1 - (k+1)) (l:=Wd P 1) rfl ?_ (HN (m:=P.length - 1) (by omega) (by omega) e)) (by rw[hwv];rfl)) (by rw[hwv];exact kn rfl (by simp[T.dep])))) (C7 (cZ (aK (h.IM e rfl) (h.row e rfl rfl) g2.ne))))).trans rfl
  show Rs.ok (T.int (((P.length - 1:Nat):Int) - ((k+1:Nat):Int)))=_
  congr 2;omega
theorem wI (h:Pk P)(b a:Sl):∀(d k:Nat) (s3:Sl),k+d+1=P.length->∃k',br (gN 3) F8 ((List.range' (k+1) d).map λ(j:Nat)=>T.int (j:Nat)) (LE ns (At P (k+1)) (rows P) s3 (.va (.int ((P.length - 1:Nat):Int))) (.ow (.lst (Wd P 1))) b a)
  = .ok (.nx (LE ns (At P P.length) (rows P) k' (.va (.int ((P.length - 1:Nat):Int))) (.ow (.lst (Wd P 1))) b a))
 | 0,k,s3,hk=>⟨s3,by rw[show P.length=k+1 by omega];rfl⟩
 | d+1,k,s3,hk=>by
  obtain⟨k',e⟩:=wI h b a d (k+1) (.va (.int ((k+1:Nat):Int))) (by omega)
  exact⟨k',by rw[List.range'_succ,Jm,ft (Z1:=LE ns (At P (k+1)) (rows P) (.va (.int ((k+1:Nat):Int))) (.va (.int ((P.length - 1:Nat):Int))) (.ow (.lst (Wd P 1))) b a) rfl (Cn h b a (by omega))];exact e⟩
theorem wZ (h:Pk P)(s0:Sl):∀(ts:List T) (n:Nat) (s:Sl),ts.length+n<P.length->∃s',dG 0 (bq 1 "Sketch" "back" aN ai) ts [s,.ow (At P (n+1+ts.length))] = .ok ((Wd P (n+1)).drop (P.length - (n+1+ts.length)),[s',.ow (At P (n+1))])
 | [],n,s,hn=>⟨s,by unfold dG;rw[List.drop_of_length_le (by simp)];rfl⟩
 | t::ts,n,s,hn=>by
  rw[Jp]at hn;obtain⟨s',e⟩:=wZ h s0 ts n (.va t) (by omega)
  obtain⟨u,eu⟩:∃u,P[n+1+ts.length]? =some u:=⟨_,Jv (by omega)⟩
  refine⟨s',?_⟩
  unfold dG;rw[if_pos (by simp)]
  have hb:bq 1 "Sketch" "back" aN ai [.va t,.ow (At P (n+1+(t::ts).length))] = .ok (wd u,[.va t,.ow (At P (n+1+ts.length))]):=by
   have:=h.back (j:=n+ts.length) (s:=u) (by rw[<-eu];congr 1;omega)
   rw[show n+1+(t::ts).length=n+ts.length+2 by rw[Jp];omega,show n+1+ts.length=n+ts.length+1 by omega]
   exact fQ (c:="Sketch") (ns:=["past","ahead"]) (ls:=[P.take (n+ts.length+2),(P.drop (n+ts.length+2)).reverse]) (ts:=[]) rfl (by decide) rfl this
  show(bq 1 "Sketch" "back" aN ai [.va t,.ow (At P (n+1+(t::ts).length))] >>= _)=_
  rw[hb,az,e,az]
  show Rs.ok (wd u::_,_)=_
  congr 2
  have hlen:(Wd P (n+1)).length=P.length - (n+1):=by simp
  rw[Jp,show P.length - (n+1+(ts.length+1))=P.length - (n+1+ts.length) - 1 by omega]
  have hlt:P.length - (n+1+ts.length) - 1<(Wd P (n+1)).length:=by rw[hlen];omega
  rw[Ks hlt,show P.length - (n+1+ts.length) - 1+1=P.length - (n+1+ts.length)by omega]
  congr 1
  have:(Wd P (n+1))[P.length - (n+1+ts.length) - 1]? =some (wd u):=by
   unfold Wd;rw[JA,NU (by rw[J6];omega),OI,J6]
   rw[show n+1+(P.length - (n+1) - 1 - (P.length - (n+1+ts.length) - 1))=n+1+ts.length by omega,eu];rfl
  rw[Jv hlt]at this
  exact(JW this).symm
end
end G
set_option maxHeartbeats 4000000
namespace G
open PySem Tr
abbrev T13:En->Rs Fl:=aC (ou (oj 1 bM (ae (vr 0) (ae (cn (.int 200)) ai)))) (aC (eO (tb (o2 g9 (ln 1 (fm "Sketch" "counts" aB (vr 1) ai)) (aU (ae (vr 7) (ae (vr 6) ai))))) (aJ (o2 g9 (ln 1 (fm "Sketch" "record" aq (vr 1) ai)) (ln 2 (o2 aR (vr 2) (vr 7))))) sN) (aC (lE (oh (AO (tb (o2 fE (ln 1 (fm "Sketch" "counts" aB (vr 1) ai)) (aU (ae (o2 aL (vr 7) (cn (.int 1))) (ae (cn (.int 0)) ai)))))) (ye (vq ir (bq 1 "Sketch" "back" aN ai) (aU (ae (cn (.str "write")) (ae (cn (.str "read")) (ae (cn (.str "cut")) ai))))))) (aJ (cn (.bl false))) sN) (aJ (cm (o2 g9 (ln 1 (fm "Sketch" "record" aq (vr 1) ai)) (ln 2 (o2 aR (vr 2) (vr 7)))) (o2 g9 (ln 1 (fm "Sketch" "counts" aB (vr 1) ai)) (aU (ae (vr 7) (ae (cn (.int 1)) ai))))))))
abbrev T9:En->Rs Fl:=aC (mQ 5 (c9 (cl ay (ae (vr 0) (ae (cn (.int 71)) (ae (o2 aL (vr 4) (cn (.int 1))) ai)))) (gN 6))) (aC (lE (ye (vq fE (CZ 1 1 (iR (ae (vr 6) ai)) [none,some 1] (bq 1 "Sketch" "back" aN ai)) (sl (vr 5) pN (pS (vr 6))))) (aJ (cn (.bl false))) sN) (aC (eO (tb (o2 fE (ln 1 (fm "Sketch" "record" aq (vr 1) ai)) (ln 2 (o2 aR (vr 2) (o2 cV (vr 4) (vr 6)))))) (aJ (cn (.bl false))) sN) (aC (c9 (o2 cV (vr 4) (vr 6)) (gN 7)) T13)))
abbrev T3:En->Rs Fl:=aC (c9 (o2 cV (ln 2 (cl ck (ae (vr 2) ai))) (cn (.int 1))) (gN 4)) (aC (eO (tb (o2 fE (ln 1 (fm "Sketch" "counts" aB (vr 1) ai)) (aU (ae (vr 4) (ae (cn (.int 0)) ai))))) (aJ (cn (.bl false))) sN) (aC (gp 5 ai) (aC (gx (FP (ae (o2 cV (vr 4) (cn (.int 1))) (ae (o1 ji (cn (.int 1))) (ae (o1 ji (cn (.int 1))) ai)))) (gN 3) (aC (lh 5 (bq 1 "Sketch" "back" aN ai)) (eO (oa (tb (o2 fE (ln 1 (fm "Sketch" "record" aq (vr 1) ai)) (ln 2 (o2 aR (vr 2) (vr 3))))) (tb (o2 fE (ln 1 (fm "Sketch" "counts" aB (vr 1) ai)) (aU (ae (vr 3) (ae (o2 cV (vr 4) (vr 3)) ai)))))) (aJ (cn (.bl false))) sN))) (aC (eO (zv 5 (tb (o2 fE (gE (iS (vr 5)) [none] (gN 0) (tb (o2 ir (vr 0) (aU (ae (cn (.str "write")) (ae (cn (.str "read")) (ae (cn (.str "cut")) ai)))))) (vr 0)) (fF ai)))) (aJ (cn (.bl false))) sN) (aC (gx (iR (ae (cn (.int 1)) (ae (o2 aL (vr 4) (cn (.int 1))) ai))) (gN 3) (aC (lE (oh (ye (vq fE (bq 1 "Sketch" "forth" bV ai) (ln 5 (o2 aR (vr 5) (o2 cV (vr 4) (vr 3)))))) (AO (tb (o2 fE (ln 1 (fm "Sketch" "record" aq (vr 1) ai)) (ln 2 (o2 aR (vr 2) (vr 3))))))) (aJ (cn (.bl false))) sN) (eO (tb (o2 fE (ln 1 (fm "Sketch" "counts" aB (vr 1) ai)) (aU (ae (vr 3) (ae (o2 cV (vr 4) (vr 3)) ai))))) (aJ (cn (.bl false))) sN))) T9)))))
theorem vz {v:Str}(h:AH v):ir (.str v) (.tup [.str "write",.str "read",.str "cut"])= .ok (.bl false):=by
 rcases h with rfl | rfl | rfl <;> rfl
section
variable {P:List T}{ns:List Int}
theorem w3 {Z:En}:aU (ae (cn (.str "write")) (ae (cn (.str "read")) (ae (cn (.str "cut")) ai))) Z= .ok (.tup [.str "write",.str "read",.str "cut"]):=bF rfl (aE (k:=3) (by simp))
theorem t13 (hn:ns.length<=63)(h:Pk P)(k:Sl){j b:Nat}(hP:j+1+b=P.length)(w:Sl) :
  T13 (LE ns (At P (j+1)) (rows P) k (.va (.int ((P.length - 1:Nat):Int))) w (.va (.int (b:Nat))) (.va (.int (j:Nat))))= .ok (.rt (.bl true)):=by
 obtain⟨s,e⟩:∃s,P[j]? =some s:=⟨_,Jv (by omega)⟩
 obtain⟨g1,g2,g3⟩:=h.st s (JT e)
 have hnn:=h.n;obtain⟨o,e1,e2⟩:=Ae ns hn 200 (P:=P.take j) (A:=(P.drop (j+1)).reverse) (w:=wd s) (r:=rc s) g2 (by simp;omega)
 rw[<-g1,<-mB e]at e1 e2;unfold T13;rw[aH (Z':=LE ns o (rows P) k (.va (.int ((P.length - 1:Nat):Int))) w (.va (.int (b:Nat))) (.va (.int (j:Nat)))) (De (t:=.non) (zK (o:=At P (j+1)) (ts:=[.scr ns,.int 200]) rfl rfl e1))];rcases e2 with rfl | ⟨v,r',hv,hr,rfl⟩
 ·refine(kQ ((jw (cZ (aK (h.cnt (j:=j) (by omega) rfl) (bF rfl (aE (k:=2) (by simp))) ?_))).trans (dA (aK (h.IM e rfl) (h.row e rfl rfl) g2.eq))))
  rw[show P.length - 1 - j=b by omega]
  exact qZ rfl (by simp[T.dep,deps])
 ·have hl:((P.take (j+1)++ [sp (.str v) r']).length:Int) - 1=(j:Int)+1:=by simp;omega
  rw[aH (Z':=LE ns (SK (P.take (j+1)++ [sp (.str v) r']) []) (rows P) k (.va (.int ((P.length - 1:Nat):Int))) w (.va (.int (b:Nat))) (.va (.int (j:Nat))))
   ((fw (cZ (aK (pw rfl) (bF rfl (aE (k:=2) (by simp))) (?_:_=Rs.ok (T.bl false))))).trans rfl)]
  ·have hb:aN [.ow (SK (P.take (j+1)++ [sp (.str v) r']) [])] = .ok (.str v,SK (P.take (j+1)) [sp (.str v) r']):=
    Aq (A:=[]) (λz=>by have:=congrArg K3 z;rw[J5,MD]at this;omega) (by simp;omega) (by simp)
   rw[aH (Z':=LE ns (SK (P.take (j+1)) [sp (.str v) r']) (rows P) k (.va (.int ((P.length - 1:Nat):Int))) w (.va (.int (b:Nat))) (.va (.int (j:Nat))))
    ((zS (b:=false) (wj (C7 (cZ (aK (pw rfl) (bF (ar (t:=.int ((j:Int)+1)) rfl rfl) (aE (k:=2) (by simp))) (by rw[hl];exact vZ _ _)))) (zF (zI (fQ (c:="Sketch") (ns:=["past","ahead"]) (ls:=[P.take (j+1)++ [sp (.str v) r'],[]]) (ts:=[]) rfl (by decide) rfl hb) w3 (vz hv))))).trans rfl)]
   refine dA ((Fd (aK (jv (P:=P.take j) (A:=[sp (.str v) r']) (w:=wd s) (r:=rc s) (by rw[<-g1,<-mB e];rfl) g2) (h.row e rfl rfl) g2.eq)).trans (aK (pw (P:=P.take (j+1)) (A:=[sp (.str v) r']) rfl) (bF rfl (aE (k:=2) (by simp))) ?_))
   rw[show((P.take (j+1)).length:Int) - 1=(j:Int)by simp;omega]
   exact qZ rfl (by simp[T.dep,deps])
  ·rw[hl]
   unfold g9;rw[if_pos (nL (by simp[T.dep,deps]) rfl rfl)]
   show Rs.ok (T.bl (((j:Int)+1 == (j:Int))&&_))=_
   rw[beq_eq_false_iff_ne.mpr (by omega)];rfl
end
end G
set_option maxHeartbeats 4000000
namespace G
open PySem Tr
section
variable {P:List T}{ns:List Int}
theorem FI:At P P.length=SK P []:=by unfold At;rw[List.take_length,LI];rfl
theorem CK {b:Nat}(hb:b+1<=P.length):(Wd P 1).take b=Wd P (P.length - b):=by
 unfold Wd;rw[<-List.map_take,List.take_reverse,Ob,J6];rw[show 1+(P.length - 1 - b)=P.length - b by omega]
theorem C0 (h:Pk P){j:Nat}{t:T}(ht:t∈Wd P (j+1)):∃v,AH v/\t= .str v:=by
 obtain⟨s,hs,rfl⟩:=Kb.mp ht;obtain⟨i,hi,rfl⟩:=List.mem_iff_getElem.mp (PB.mp hs);rw[J6]at hi;refine h.w (j+i) _ ?_
 rw[List.getElem_drop];rw[show j+i+1=j+1+i by omega]
 exact Jv _
theorem HM (h:Pk P)(j:Nat):fE (.lst (Wd P (j+1))) (.lst (Wd P (j+1)))= .ok (.bl false):=EL (n:=0) (by omega) λt ht=>by obtain⟨v,_,rfl⟩:=C0 h ht;exact⟨rfl,by simp[T.dep]⟩
theorem zZ {i:Int}(h1 : -1000<=i)(h2:i<=1000):oM i=true:=by
 unfold oM
 rw[Bool.and_eq_true];exact⟨decide_eq_true (by omega),decide_eq_true (by omega)⟩
theorem Fj {f:En->Rs (List T)}{Z:En}{m:Nat}(h:f Z= .ok [.int ((m:Int) - 1),.int (-1),.int (-1)])(hm:m<=900):FP f Z= .ok (uY m):=by
 unfold FP;rw[h]
 show(if _ then Rs.ok _ else _)=_
 rw[if_pos (by rw[zZ (by omega) (by omega),zZ (by omega) (by omega)];rfl),show((m:Int) - 1 - -1).toNat=m by omega,CB]
theorem ua {f g:En->Rs T}{Z:En}{a b c:Int}(hf:f Z= .ok (.int a))(hg:g Z= .ok (.int b))(h:a - b=c):o2 cV f g Z= .ok (.int c):=aK hf hg (by show Rs.ok (T.int (a - b))=_;rw[h])
theorem t9 (hn:ns.length<=63)(h:Pk P)(k s6 s7:Sl):T9 (LE ns (At P P.length) (rows P) k (.va (.int ((P.length - 1:Nat):Int))) (.ow (.lst (Wd P 1))) s6 s7)= .ok (.rt (.bl true)):=by
 have hp:0<P.length:=ME.mpr h.ne
 have hnn:=h.n;obtain⟨d,e,p,q⟩:=bX ns 71 (((P.length - 1:Nat):Int)+1) hn (by omega)
 obtain⟨b,rfl⟩:=JL p
 have hb:b+1<=P.length:=by omega
 obtain⟨j,hj⟩:∃j,j+1+b=P.length:=⟨P.length - b - 1,by omega⟩
 unfold T9;rw[aH (Z':=LE ns (At P P.length) (rows P) k (.va (.int ((P.length - 1:Nat):Int))) (.va (.lst (Wd P 1))) (.va (.int (b:Nat))) s7) (Df (c6 (t:=.int (b:Nat)) (bw (ts:=[.scr ns,.int 71,.int (((P.length - 1:Nat):Int)+1)]) rfl e) rfl))];obtain⟨s',eb⟩:=wZ h .em (rng 0 (b:Nat)) j .em (by rw[fM];omega)
 rw[fM,hj,MS,List.drop_zero]at eb
 have hx:CZ 1 1 (iR (ae (vr 6) ai)) [none,some 1] (bq 1 "Sketch" "back" aN ai) (LE ns (At P P.length) (rows P) k (.va (.int ((P.length - 1:Nat):Int))) (.va (.lst (Wd P 1))) (.va (.int (b:Nat))) s7)
   = .ok (.lst (Wd P (j+1)),LE ns (At P (j+1)) (rows P) k (.va (.int ((P.length - 1:Nat):Int))) (.va (.lst (Wd P 1))) (.va (.int (b:Nat))) s7):=
  Hf (o:=At P P.length) rfl (Dg (j:=(b:Nat)) rfl (by omega) (by omega)) (by rw[fM];omega) eb rfl
 have hw:sl (vr 5) pN (pS (vr 6)) (LE ns (At P (j+1)) (rows P) k (.va (.int ((P.length - 1:Nat):Int))) (.va (.lst (Wd P 1))) (.va (.int (b:Nat))) s7)= .ok (.lst (Wd P (j+1))):=by
  rw[C8 (l:=Wd P 1) (lo:=none) (hi:=some (b:Nat)) rfl rfl (B9 rfl),tE,CK hb,show P.length - b=j+1 by omega]
 rw[aH (Z':=LE ns (At P (j+1)) (rows P) k (.va (.int ((P.length - 1:Nat):Int))) (.va (.lst (Wd P 1))) (.va (.int (b:Nat))) s7) ((zS (b:=false) (zF (zI hx hw (HM h j)))).trans rfl)];obtain⟨s,es⟩:∃s,P[j]? =some s:=⟨_,Jv (by omega)⟩
 have g2:=(h.st s (JT es)).2.1
 have hs0:((P.length - 1:Nat):Int) - (b:Nat)=(j:Nat):=by omega
 rw[aH (Z':=LE ns (At P (j+1)) (rows P) k (.va (.int ((P.length - 1:Nat):Int))) (.va (.lst (Wd P 1))) (.va (.int (b:Nat))) s7) ((fw (cZ (aK (h.IM es rfl) (h.row es rfl (ua rfl rfl hs0)) g2.ne))).trans rfl)];rw[aH (Z':=LE ns (At P (j+1)) (rows P) k (.va (.int ((P.length - 1:Nat):Int))) (.va (.lst (Wd P 1))) (.va (.int (b:Nat))) (.va (.int (j:Nat)))) (c6 (t:=.int (j:Nat)) (ua rfl rfl hs0) rfl)];exact t13 hn h k hj _
theorem t3 (hn:ns.length<=63)(h:Pk P)(k s4 s5 s6 s7:Sl):T3 (LE ns (SK P []) (rows P) k s4 s5 s6 s7)= .ok (.rt (.bl true)):=by
 have hp:0<P.length:=ME.mpr h.ne
 have hnn:=h.n;unfold T3;rw[aH (Z':=LE ns (At P P.length) (rows P) k (.va (.int ((P.length - 1:Nat):Int))) s5 s6 s7) (c6 (t:=.int ((P.length - 1:Nat):Int)) (aK (t:=.int ((rows P).length:Nat)) (u:=.int 1) uQ rfl (by show Rs.ok (T.int (((rows P).length:Nat) - 1:Int))=_;congr 2;rw[Jo];omega)) (by rw[FI];rfl))]
 obtain⟨m,hm⟩:∃m,P.length=m+1:=⟨P.length - 1,by omega⟩
 have hm1:P.length - 1=m:=by omega
 rw[aH (Z':=LE ns (At P P.length) (rows P) k (.va (.int ((P.length - 1:Nat):Int))) s5 s6 s7) ((fw (h.cts (o2f:=vr 0) (j:=m) (by omega) (by rw[hm];rfl) (by show Rs.ok (T.int ((P.length - 1:Nat):Int))=_;rw[hm1]) (by show Rs.ok (T.int 0)=_;rw[show P.length - 1 - m=0 by omega];rfl))).trans rfl)]
 rw[aH (Z':=LE ns (At P P.length) (rows P) k (.va (.int ((P.length - 1:Nat):Int))) (.ow (.lst (Wd P P.length))) s6 s7) ((uN (by simp)).trans (by unfold Wd;rw[LI];rfl))]
 obtain⟨k1,e6⟩:=wJ (ns:=ns) h s6 s7 m k (by omega)
 rw[<-hm]at e6;rw[aH (iD (ts:=uY m) ?_ e6)]
 rotate_left
 ·exact Fj (ar (ua (a:=((P.length - 1:Nat):Int)) (b:=1) rfl rfl (by omega)) (ar (Ca rfl rfl) (ar (Ca rfl rfl) rfl))) (by omega)
 have hall:gE (iS (vr 5)) [none] (gN 0) (tb (o2 ir (vr 0) (aU (ae (cn (.str "write")) (ae (cn (.str "read")) (ae (cn (.str "cut")) ai)))))) (vr 0) (disown 5 (LE ns (At P 1) (rows P) k1 (.va (.int ((P.length - 1:Nat):Int))) (.ow (.lst (Wd P 1))) s6 s7))= .ok (.lst []):=by
  refine(Hj (ts:=Wd P 1) (p:=λ_=>false) (h:=id) (wy rfl) (small (k:=50) (by simp;omega)) (by simp) λt ht=> ?_).trans (by simp)
  obtain⟨v,hv,rfl⟩:=C0 h ht;exact⟨cZ (aK rfl w3 (vz hv)),λ_=>rfl⟩
 rw[aH (Z':=LE ns (At P 1) (rows P) k1 (.va (.int ((P.length - 1:Nat):Int))) (.ow (.lst (Wd P 1))) s6 s7) ((fw (zQ (cZ (aK hall (nJ rfl (by unfold sizeLine;simp)) (kn rfl (by simp[T.dep,deps])))))).trans rfl)]
 obtain⟨k2,e8⟩:=wI (ns:=ns) h s6 s7 m 0 k1 (by omega)
 rw[aH (iD ?_ e8)]
 ·exact t9 hn h k2 s6 s7
 ·refine(iR2 (i:=1) (j:=((P.length - 1:Nat):Int)+1) (ar rfl (ar (aK rfl rfl rfl) rfl)) (by omega) (by omega) (by omega) (by omega)).trans ?_
  rw[hm1]
  congr 1
  unfold rng;rw[show((m:Int)+1 - 1).toNat=m by omega,List.range'_eq_map_range,Mq]
  refine KN λj _=> ?_
  show T.int (1+(j:Int))=T.int ((0+1+j:Nat):Int)
  rw[show(1+(j:Int))=((0+1+j:Nat):Int)by omega]
end
theorem pure_law (ns:List Int)(hn:ns.length<=63):m_law [.scr ns] = .ok (.bl true):=by
 refine cy rfl ?_
 show AM [.va (.scr ns),.em,.em,.em,.em,.em,.em,.em] =_
 unfold AM;obtain⟨cs,ls,e0,hc,_,hs,hl,h2⟩:=Fv ns hn 0 2 (by omega)
 obtain⟨hr,hsm⟩:=DH hc hs hl (by omega)
 have hG:GR (RR cs ls):=GR.of (yH _ hsm) hr;rw[aH (Z':=[.va (.scr ns),.ow (SK [sp .non (RR cs ls)] []),.em,.em,.em,.em,.em,.em]) (E8 (ts:=[RR cs ls]) (ar (bw (ts:=[.scr ns,.int 0,.int 2]) rfl e0) rfl) (Fu hG) (by simp))]
 rw[aH (Z':=LE ns (SK [sp .non (RR cs ls)] []) (rows [sp .non (RR cs ls)]) .em .em .em .em .em) (uM (l:=[RR cs ls]) (ar (jv (P:=[]) (A:=[]) rfl hG) rfl) (by simp) (by simp))]
 obtain⟨d,e,p,q⟩:=bX ns 70 7 hn (by omega)
 obtain⟨d,rfl⟩:=JL p;obtain⟨P,k',hP,_,e2⟩:=wK ns hn .em .em .em .em (J9 (2+d)) .em (Pk.one hG) (by simp;omega)
 rw[aH (iD (ts:=(J9 (2+d)).map λ(j:Nat)=>T.int j) ?_ e2)]
 ·exact t3 hn hP k' .em .em .em .em
 ·rw[<-l9]
  exact Dg (j:=((2+d:Nat):Int)) (ar (aK (t:=.int 2) (u:=.int (d:Nat)) rfl (bw (ts:=[.scr ns,.int 70,.int 7]) rfl e) rfl) rfl) (by omega) (by omega)
end G
end
lay_quick G.lhs G.rhs
name_quick lhsz for G.lhs by G.lhs_r
name_quick rhsz for G.rhs by G.rhs_r
open PySem PySem.W PyProof.Rows
set_option maxRecDepth 100000 in
set_option maxHeartbeats 0 in
theorem G.IV (w : Kn) (os : OsState) : PySem.W.Fast.lhsz w (boot_heap w.params) boot_drawn boot_toks os = PySem.W.Fast.rhsz w := by kernel_rfl
set_option maxRecDepth 100000 in
set_option maxHeartbeats 0 in
theorem PySem.Challenge.cw_farclocks_k85_whole_back_holds : PySem.Challenge.rw_farclocks_k85_whole_back.Holds := by
  w_on; o_law
  refine holds_open (q := G.vw) (loose := G.lse) (Xt := λ_ => true) (XP := λ_ _ => True) (Yf := (Tr.hookC G.asks G.top).obs) (Ya := (Tr.hookC G.asks G.top).val) (YP := (Tr.hookC G.asks G.top).says) (N := 9000) (Tr.left_of (by rfl) (by rfl) (λ_ => rfl) λw os => ?hl) (Tr.hookC G.asks G.top).of (Tr.hookC G.asks G.top).keeps (λ_ _ => trivial) (λ_ _ _ _ _ => trivial) (by rfl) (by rfl) (by rfl) (λs _ => recFacts_of (s := s) rfl) (by rfl) (by assumption) (by decide +kernel) ⟨rfl, rfl, rfl, rfl, rfl, by decide +kernel⟩ ?hw ?hc
  case hl => exact ((congrFun (congrFun (congrFun (congrFun (congrFun PySem.W.Fast.lhsz_eq w) _) _) _) os).trans (G.IV w os)).trans (congrFun PySem.W.Fast.rhsz_eq w).symm
  case hw => w_witness2
  case hc => exact Tr.walk_c (n := 63) (k := 15) (x := "_law_script") (CX := L2.CX0) (sp := λK => Tr.spP K 1 G.m_law) rfl (by decide) rfl ⟨rfl, by decide, by decide⟩ (λw K mg fa h X e g hf => G.all_ok X e g hf) (λK H a ns hl _ hS => Tr.sp_script hS (G.pure_law ns hl)) λ_ _ _ _ z => z
