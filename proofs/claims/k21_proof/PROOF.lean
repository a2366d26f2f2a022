import PyProof.Rows.All
import Wide.All
import OpenK.AllK
import Wide.FinOn
import Lean
import PyProof.EqAt
import PyProof.EqKinds
import PyProof.TupleCall
import PyProof.ExcClass3
import PyProof.StationsW
import PyProof.ExcBaseAll.ValueError
import PyProof.ExcArgsOwn
import PyProof.IsiBase
import PyProof.IsiH_tuple
import PyProof.ExcAttrAll.ValueError
import PyProof.Rows.RuleN_isinstance
import PyProof.MeetsSeq
import PyProof.RulesAs
import PyProof.IsiH_list
import PyProof.AttrMiss
import KE.KDictOf
import PyProof.Rows.SumAny
import PyProof.Rows.MinMaxN
import PyProof.Rows.SortShellK
import PyProof.Rows.SortWalk
import PyProof.ZipIter
import PyProof.WalksMore
import PyProof.DictWalks
import PySem.Challenge.RW_farclocks_k21_whole_worlds
set_option Elab.async false
set_option linter.all false
set_option maxRecDepth 100000
set_option maxHeartbeats 8000000
noncomputable section
namespace L2
open PySem PySem.Spec PyProof.Rows
abbrev Key:=Sum Int Str
def nJ:Key->Value->Bool
 | .inl k,v=>Value.isInt k v
 | .inr x,v=>Value.isStrOf x v
def keyH (w:World):Key->Int
 | .inl k=>hashInt k
 | .inr x=>hashStr w x
theorem cp:∀{k:Key} {v:Value},nJ k v=true->(∃i t,k=Sum.inl i/\v=Value.int i t)\/(∃x t,k=Sum.inr x/\v=Value.str x t)
 | .inl i,v,h=>by
  obtain⟨t,e⟩:=Value.isInt_shape (k:=i) (v:=v) h
  exact .inl ⟨i,t,rfl,e⟩
 | .inr x,v,h=>by
  obtain⟨t,e⟩:=Value.isStrOf_shape (x:=x) (v:=v) h;exact .inr ⟨x,t,rfl,e⟩
theorem vp (i:Int)(t:Tok):nJ (.inl i) (.int i t)=true:=by simp[nJ,Value.isInt]
theorem vo (x:Str)(t:Tok):nJ (.inr x) (.str x t)=true:=by simp[nJ,Value.isStrOf]
theorem CN (a b:Int):decide ((Sum.inl a:Key)=Sum.inl b)=(a == b):=by
 by_cases e:a=b
 ·subst e;simp
 ·have h:¬ (Sum.inl a:Key)=Sum.inl b:=λq=>e (Sum.inl.inj q)
  rw[decide_eq_false h];exact(beq_eq_false_iff_ne.mpr e).symm
theorem CJ (a b:Str):decide ((Sum.inr a:Key)=Sum.inr b)=decide (a=b):=by
 by_cases e:a=b
 ·subst e;simp
 ·have h:¬ (Sum.inr a:Key)=Sum.inr b:=λq=>e (Sum.inr.inj q)
  rw[decide_eq_false h,decide_eq_false e]
theorem CM (a:Int)(b:Str):decide ((Sum.inl a:Key)=Sum.inr b)=false:=decide_eq_false (λq=>nomatch q)
theorem CK (a:Str)(b:Int):decide ((Sum.inr a:Key)=Sum.inl b)=false:=decide_eq_false (λq=>nomatch q)
def bY (prog:Program)(w:World):PySem.KeyKind prog w Key where
 is:=nJ
 hash:=keyH w
 inj:=λv a b ha hb=>by
  rcases cp ha with⟨i,t,rfl,rfl⟩ | ⟨x,t,rfl,rfl⟩
  ·rcases cp hb with⟨j,u,rfl,e⟩ | ⟨y,u,rfl,e⟩
   ·injection e with e1 _;rw[e1]
   ·exact nomatch e
  ·rcases cp hb with⟨j,u,rfl,e⟩ | ⟨y,u,rfl,e⟩
   ·exact nomatch e
   ·injection e with e1 _;rw[e1]
 byValue:=λk v h=>by
  rcases cp h with⟨i,t,rfl,rfl⟩ | ⟨x,t,rfl,rfl⟩ <;> rfl
 pyHash:=λhv h=>by
  rcases cp hv with⟨i,t,rfl,rfl⟩ | ⟨x,t,rfl,rfl⟩
  ·exact wpAny_pyHash_int h
  ·exact wpAny_pyHash_str h
 eqBool:=λhu hv h=>by
  rcases cp hu with⟨i,t,rfl,rfl⟩ | ⟨x,t,rfl,rfl⟩
  ·rcases cp hv with⟨j,u,rfl,rfl⟩ | ⟨y,u,rfl,rfl⟩
   ·rw[CN]at h;exact wpAny_eqBool_int h
   ·rw[CM]at h;exact SeqAt.EqAt.int_str i t y u _ _ _ _ h
  ·rcases cp hv with⟨j,u,rfl,rfl⟩ | ⟨y,u,rfl,rfl⟩
   ·rw[CK]at h;exact SeqAt.EqAt.str_int x t j u _ _ _ _ h
   ·rw[CJ]at h;exact wpAny_eqBool_str h
 «strs»:=λk x t v h=>by
  rcases cp h with⟨i,u,rfl,e⟩ | ⟨y,u,rfl,e⟩
  ·exact nomatch e
  ·injection e with e1 _
   subst e1;cases v <;> rfl
theorem qY (prog:Program)(w:World)(i:Int)(t:Tok):(bY prog w).is (.inl i) (.int i t)=true:=vp i t
theorem qX (prog:Program)(w:World)(x:Str)(t:Tok):(bY prog w).is (.inr x) (.str x t)=true:=vo x t
inductive V where
 | non | bl (b:Bool) | int (i:Int) | str (x:Str) | byt (b:Array UInt8) | flt (b:UInt64) | ref (a:Addr) | ty (n:String)
 deriving DecidableEq
def RelV:V->Value->Prop
 | .non,u=>u=Value.none
 | .bl b,u=>u=Value.bool b
 | .int i,u=> ∃t,u=Value.int i t
 | .str x,u=> ∃t,u=Value.str x t
 | .byt b,u=> ∃t,u=Value.bytes b t
 | .flt b,u=> ∃t,u=Value.float b t
 | .ref a,u=>u=Value.ref a
 | .ty n,u=>u=Value.type n
abbrev Vals:List V->List Value->Prop:=Paired RelV
theorem Vals.length {xs:List V}{us:List Value}(r:Vals xs us):xs.length=us.length:=Paired.length r
theorem Vals.get:∀{xs:List V} {us:List Value} {i:Nat} {x:V},Vals xs us->xs[i]? =some x->∃u,us[i]? =some u/\RelV x u
 | _,_,_,_,.nil,e=>by simp at e
 | _,_,0,_,.cons r _,e=>by simp at e;subst e;exact⟨_,rfl,r⟩
 | _,_,i+1,x,.cons _ t,e=>by
  obtain⟨u,h1,h2⟩:=Vals.get (i:=i) (x:=x) t (by simpa using e)
  exact⟨u,by simpa using h1,h2⟩
theorem Vals.append:∀{xs ys:List V} {us ws:List Value},Vals xs us->Vals ys ws->Vals (xs++ys) (us++ws)
 | _,_,_,_,.nil,s=>s
 | _,_,_,_,.cons r t,s=> .cons r (Vals.append t s)
theorem Vals.take:∀{xs:List V} {us:List Value} (n:Nat),Vals xs us->Vals (xs.take n) (us.take n)
 | _,_,0,_=> .nil
 | _,_,_+1,.nil=> .nil
 | _,_,n+1,.cons r t=> .cons r (Vals.take n t)
theorem Vals.drop:∀{xs:List V} {us:List Value} (n:Nat),Vals xs us->Vals (xs.drop n) (us.drop n)
 | _,_,0,r=>r
 | _,_,_+1,.nil=> .nil
 | _,_,n+1,.cons _ t=>Vals.drop n t
def RelO:Option V->Option Value->Prop
 | some v,some u=>RelV v u
 | none,none=>True
 | _,_=>False
def KV {κ:Type}:List (κ×V)->List (κ×Value)->Prop:=Paired λ(p:κ×V) (q:κ×Value)=>p.1=q.1/\RelV p.2 q.2
def kV:Key->V
 | .inl i=> .int i
 | .inr x=> .str x
inductive HO where
 /-- a list -/
 | lst (xs:List V)
 /-- a tuple (never changes) -/
 | tup (xs:List V)
 /-- a dict whose keys are ints and texts;one whose keys are tuples of ints and texts (the empty one is both) -/
 | dK (kvs:List (Key×V)) | dT (kvs:List (List Key×V))
 /-- a set of ints: its members,its size -/
 | set (S:Int->Bool) (n:Nat)
 /-- an instance of the class at C,its dict at dx,its attributes -/
 | ins (C dx:Addr) (fs:List (Str×V))
 /-- the dict of the instance at x -/
 | own (x:Addr)
 /-- the dict of an exception -/
 | xd (fs:List (Str×V))
 /-- a bound method,f of x -/
 | met (f x:Addr)
 /-- a range object lo,lo+1,.. below hi -/
 | rng (lo hi:Int)
 /-- a thing that is known to the object (the script;a dict while a loop walks it): read,never written while it is so -/
 | frz (o:Obj) (u:HO)
 /-- a code object's table -/
 | tbl (ps:Array Value)
 /-- any other thing,by what is true of its one object (a def of one's own: SetO a S n:=HO.ext λh=> ..) -/
 | ext (φ:Heap->Prop)
abbrev Hp:=Addr->Option HO
def upd (H:Hp)(a:Addr)(o:HO):Hp:=λb=>if b=a then some o else H b
theorem aA {H:Hp}{a:Addr}{o:HO}:upd H a o a=some o:=by unfold upd;rw[if_pos rfl]
theorem ay {H:Hp}{a b:Addr}{o:HO}(h:b≠a):upd H a o b=H b:=by unfold upd;rw[if_neg h]
theorem ix {H:Hp}{a:Addr}{o u:HO}:upd (upd H a o) a u=upd H a u:=by
 funext b;unfold upd;split <;> rfl
theorem hG {H:Hp}{a b:Addr}{o u:HO}(h:H a=some o)(h':H b=some u)(d:o≠u):a≠b:=by
 intro e;subst e;rw[h]at h';exact d (Option.some.inj h')
theorem bO {H:Hp}{a b:Addr}{o:HO}(h:H a=some o)(h':H b=none):a≠b:=by
 intro e;subst e;rw[h]at h';cases h'
section
variable (P:Program)(w:World)
def ObjOk (H:Hp)(h:Heap)(a:Addr):HO->Prop
 | .lst xs=>xs.length<=sizeLine/\∃(its:List Value) (n:Nat),Vals xs its/\h.get? a=some { cls:=.type "list",data:=.seq its.toArray n }
 | .tup xs=>xs.length<=sizeLine/\∃its:List Value,Vals xs its/\IsTup h a its.toArray
 | .dK kvs=>kvs.length<=sizeLine/\(a == sysModules)=false/\∃vs,KV kvs vs/\h.DictOf (bY P w) a vs
 | .dT kvs=>kvs.length<=sizeLine/\(a == sysModules)=false/\∃xs:List (List Key×Addr×Value),
   Paired (λ(p:List Key×V) (q:List Key×Addr×Value)=>p.1=q.1/\H q.2.1=some (.tup (p.1.map kV))/\RelV p.2 q.2.2) kvs xs ∧
   ∃o es ep,h.get? a=some o/\o.ExactDict/\o.data= .dict es ep/\es.toList=xs.map (entryOfKey (tupleKind (bY P w)))/\(xs.map (·.1)).Nodup
 | .set S n=>h.SetOf (intKind P w) a S n
 | .ins C dx fs=>H dx=some (.own a)/\fs.length<=1000/\dx≠a/\h.get? a=some (PySem.W.instObj C dx) ∧
   ∃mA,h.Ns1 dx mA/\(∀f,RelO (fs.lookup f) (mA f))/\PySem.Within mA (fs.map (·.1))
 | .own _=> ∃o,h.get? a=some o
 | .xd fs=> ∃mA,h.Ns1 a mA/\∀f,RelO (fs.lookup f) (mA f)
 | .rng lo hi=> ∃t u v,h.get? a=some { cls:=.type "range",data:=.fields #[.int lo t,.int hi u,.int 1 v] }
 | .frz o u=>h.get? a=some o/\ObjOk H h a u
 | .tbl ps=>h.get? a=some { cls:=.none,data:=.fields ps }
 | .met f x=>h.get? a=some (PySem.W.methodObj (.ref f) (.ref x))
 | .ext φ=>φ h/\(∃o,h.get? a=some o)/\∀h1 h2:Heap,φ h1->(∀o,h1.get? a=some o->h2.get? a=some o)->φ h2
def HOk (H:Hp)(h:Heap):Prop:=∀a o,H a=some o->ObjOk P w H h a o
end
section
variable {P:Program}{w:World}{H H':Hp}{h h':Heap}{a:Addr}{o:HO}
theorem ObjOk.lt (x:ObjOk P w H h a o):a<h.objs.size:=by
 cases o with
 | lst xs=>obtain⟨_,_,_,_,e⟩:=x;exact Heap.lt_size e
 | tup xs=>obtain⟨_,_,_,p⟩:=x;exact p.lt
 | dK kvs=>obtain⟨_,_,_,_,o,_,_,e,_⟩:=x;exact Heap.lt_size e
 | dT kvs=>obtain⟨_,_,_,_,o,_,_,e,_⟩:=x;exact Heap.lt_size e
 | set S n=>obtain⟨o,_,_,_,e,_⟩:=x;exact Heap.lt_size e
 | ins C dx fs=>obtain⟨_,_,_,e,_⟩:=x;exact Heap.lt_size e
 | own y=>obtain⟨_,e⟩:=x;exact Heap.lt_size e
 | xd fs=>obtain⟨_,⟨_,_,_,e,_⟩,_⟩:=x;exact Heap.lt_size e
 | rng lo hi=>obtain⟨_,_,_,e⟩:=x;exact Heap.lt_size e
 | frz ob u=>obtain⟨e,_⟩:=x;exact Heap.lt_size e
 | tbl ps=>exact Heap.lt_size (show h.get? a=some _ from x)
 | met f y=>exact Heap.lt_size (show h.get? a=some _ from x)
 | ext φ=>obtain⟨_,⟨_,e⟩,_⟩:=x;exact Heap.lt_size e
theorem Paired.mapP {α β:Type}{F G:α->β->Prop}:∀{l₁:List α} {l₂:List β},Paired F l₁ l₂->(∀a b,F a b->G a b)->Paired G l₁ l₂
 | _,_,.nil,_=> .nil
 | _,_,.cons r t,f=> .cons (f _ _ r) (Paired.mapP t f)
theorem ObjOk.stay (x:ObjOk P w H h a o)(k:∀b u,(b=a\/H b=some (.own a))->h.get? b=some u->h'.get? b=some u)
  (ho:∀b,H b=some (.own a)->H' b=some (.own a)) (ht:∀b xs,H b=some (.tup xs)->H' b=some (.tup xs)):ObjOk P w H' h' a o:=by
 induction o with
 | lst xs=>obtain⟨z,its,n,r,e⟩:=x;exact⟨z,its,n,r,k _ _ (.inl rfl) e⟩
 | tup xs=>obtain⟨z,its,r,ob,e,c⟩:=x;exact⟨z,its,r,ob,k _ _ (.inl rfl) e,c⟩
 | dK kvs=>obtain⟨z,y,vs,r,ob,es,ep,e,c⟩:=x;exact⟨z,y,vs,r,ob,es,ep,k _ _ (.inl rfl) e,c⟩
 | dT kvs=>
  obtain⟨z,y,xs,r,ob,es,ep,e,c⟩:=x
  exact⟨z,y,xs,Paired.mapP r λp q z=>⟨z.1,ht _ _ z.2.1,z.2.2⟩,ob,es,ep,k _ _ (.inl rfl) e,c⟩
 | set S n=>obtain⟨ob,es,ep,t,e,c⟩:=x;exact⟨ob,es,ep,t,k _ _ (.inl rfl) e,c⟩
 | ins C dx fs=>
  obtain⟨d,z,ne,e,mA,⟨od,es,ep,e2,c⟩,r⟩:=x
  exact⟨ho _ d,z,ne,k _ _ (.inl rfl) e,mA,⟨od,es,ep,k _ _ (.inr d) e2,c⟩,r⟩
 | own y=>obtain⟨ob,e⟩:=x;exact⟨ob,k _ _ (.inl rfl) e⟩
 | xd fs=>obtain⟨mA,⟨od,es,ep,e,c⟩,r⟩:=x;exact⟨mA,⟨od,es,ep,k _ _ (.inl rfl) e,c⟩,r⟩
 | rng lo hi=>obtain⟨t,u,v,e⟩:=x;exact⟨t,u,v,k _ _ (.inl rfl) e⟩
 | frz ob u ih=>obtain⟨e,q⟩:=x;exact⟨k _ _ (.inl rfl) e,ih q⟩
 | tbl ps=>
  have e:h.get? a=some { cls:=.none,data:=.fields ps }:=x
  show h'.get? a=some { cls:=.none,data:=.fields ps }
  exact k a _ (.inl rfl) e
 | met f y=>
  have e:h.get? a=some (PySem.W.methodObj (.ref f) (.ref y)):=x
  show h'.get? a=some (PySem.W.methodObj (.ref f) (.ref y))
  exact k a _ (.inl rfl) e
 | ext φ=>obtain⟨p,⟨o,e⟩,st⟩:=x;exact⟨st _ _ p λo q=>k _ _ (.inl rfl) q,⟨o,k _ _ (.inl rfl) e⟩,st⟩
theorem HOk.lt (x:HOk P w H h)(e:H a=some o):a<h.objs.size:=(x a o e).lt
theorem HOk.fresh (x:HOk P w H h)(e:h.objs.size<=a):H a=none:=by
 cases q:H a with
 | none=>rfl
 | some u=>exact absurd (Nat.lt_of_lt_of_le (x.lt q) e) (Nat.lt_irrefl _)
theorem HOk.kept (x:HOk P w H h)(k:∀b u,h.get? b=some u->h'.get? b=some u):HOk P w H h':=λa o e=>
 (x a o e).stay (λb u _ q=>k b u q) (λ_ q=>q) λ_ _ q=>q
theorem HOk.laid (x:HOk P w H h)(k:∀b u,h.get? b=some u->h'.get? b=some u)(hp:h.objs.size<=a)(new:ObjOk P w (upd H a o) h' a o):HOk P w (upd H a o) h':=λb u e=>by
 have hn:=x.fresh hp
 by_cases hb:b=a
 ·subst hb;rw[aA]at e;cases e;exact new
 ·rw[ay hb]at e
  exact(x b u e).stay (λc v _ q=>k c v q) (λc q=>by rw[ay (bO q hn)];exact q) λc xs q=>by rw[ay (bO q hn)];exact q
end
def Rd (H:Hp)(a:Addr)(u:HO):Prop:=H a=some u\/∃o,H a=some (.frz o u)
theorem Rd.ok {P:Program}{w:World}{H:Hp}{h:Heap}{a:Addr}{u:HO}(r:Rd H a u)(x:HOk P w H h):ObjOk P w H h a u:=by
 rcases r with r | ⟨o,r⟩
 ·exact x a u r
 ·obtain⟨_,q⟩:=x a _ r
  exact q
def EW:Option HO->Prop
 | some (.lst _)=>True
 | some (.dK _)=>True
 | some (.dT _)=>True
 | some (.set _ _)=>True
 | some (.ins _ _ _)=>True
 | some (.ext _)=>True
 | _=>False
section
variable {P:Program}{w:World}{H:Hp}{h h':Heap}{x e:Addr}{o':HO}
theorem HOk.write (ok:HOk P w H h)(mu:EW (H x))(he:e=x\/H e=some (.own x))(k:∀b u,b≠e->h.get? b=some u->h'.get? b=some u)(heo:∃u,h'.get? e=some u)
  (new:ObjOk P w (upd H x o') h' x o'):HOk P w (upd H x o') h':=λb u q=>by
 have nown:∀c y,H c=some (.own y)->c≠x:=λc y r z=>by subst z;rw[r]at mu;exact mu
 have ntup:∀c xs,H c=some (.tup xs)->c≠x:=λc xs r z=>by subst z;rw[r]at mu;exact mu
 by_cases hb:b=x
 ·subst hb;rw[aA]at q;cases q;exact new
 ·rw[ay hb]at q
  by_cases hbe:b=e
  ·have q':H b=some (.own x):=by
    rcases he with z | z
    ·exact absurd (hbe.trans z) hb
    ·rw[hbe];exact z
   rw[q]at q';cases q';obtain⟨v,hv⟩:=heo;exact⟨v,by rw[hbe];exact hv⟩
  ·refine(ok b u q).stay (λc v hc r=>k c v ?_ r) (λc r=>by rw[ay (nown c b r)];exact r) λc xs r=>by rw[ay (ntup c xs r)];exact r
   rcases hc with rfl | hc
   ·exact hbe
   ·rintro rfl
    rcases he with z | z
    ·exact nown c b hc z
    ·rw[hc]at z;cases z;exact hb rfl
end
structure Un (fs ex:List Addr)(H H':Hp)(h h':Heap):Prop where
 keep:∀b o,h.get? b=some o->H b=none->b∉fs->b∉ex->h'.get? b=some o
 slot:∀b o,h.get? b=some o->H b=none->b∈fs->b∉ex->∃sl,h'.get? b=some { o with slots:=sl }
 free:∀b o,h.get? b=some o->H b=none->b∉ex->H' b=none
 there:∀b o,h.get? b=some o->b∉ex->∃o',h'.get? b=some o'
 tups:∀b xs,H b=some (.tup xs)->H' b=some (.tup xs)
 frzs:∀b o u,H b=some (.frz o u)->H' b=some (.frz o u)
 tbls:∀b ps,H b=some (.tbl ps)->∃more,H' b=some (.tbl (ps++more))
section
variable {fs fs' ex ex':List Addr}{H H1 H2:Hp}{h h1 h2 h':Heap}{a x e:Addr}{o:HO}
theorem Un.any (u:Un fs ex H H1 h h1){b:Addr}{ob:Obj}(q:h.get? b=some ob)(n:H b=none)(hx:b∉ex):∃sl,h1.get? b=some { ob with slots:=sl }:=by
 by_cases hb:b∈fs
 ·exact u.slot b ob q n hb hx
 ·exact⟨ob.slots,u.keep b ob q n hb hx⟩
theorem Un.kept (k:∀b u,h.get? b=some u->h'.get? b=some u):Un fs ex H H h h':=
 ⟨λb ob q _ _ _=>k b ob q,λb ob q _ _ _=>⟨ob.slots,k b ob q⟩,λ_ _ _ n _=>n,λb ob q _=>⟨ob,k b ob q⟩,λ_ _ q=>q,λ_ _ _ q=>q,λ_ ps q=>⟨#[],by rw[q];simp⟩⟩
theorem Un.refl:Un fs ex H H h h:=Un.kept λ_ _ q=>q
theorem Un.laid (k:∀b u,h.get? b=some u->h'.get? b=some u)(hp:h.objs.size<=a)(hn:H a=none):Un fs ex H (upd H a o) h h' where
 keep:=λb u q _ _ _=>k b u q
 slot:=λb u q _ _ _=>⟨u.slots,k b u q⟩
 free:=λb u q n _=>by rw[ay (Nat.ne_of_lt (Nat.lt_of_lt_of_le (Heap.lt_size q) hp))];exact n
 there:=λb u q _=>⟨u,k b u q⟩
 tups:=λb xs q=>by rw[ay (bO q hn)];exact q
 frzs:=λb u xs q=>by rw[ay (bO q hn)];exact q
 tbls:=λb ps q=>⟨#[],by rw[ay (bO q hn),q];simp⟩
theorem Un.write (mu:EW (H x))(he:e=x\/H e=some (.own x))(k:∀b u,b≠e->h.get? b=some u->h'.get? b=some u)(heo:∃u,h'.get? e=some u):Un fs ex H (upd H x o) h h':=by
 have hx:∀b,H b=none->b≠x:=λb n z=>by subst z;rw[n]at mu;exact mu
 have hb:∀b,H b=none->b≠e:=λb n z=>by
  subst z;rcases he with r | r
  ·exact hx b n r
  ·rw[n]at r;cases r
 have hm:∀b u,H b=some u->¬ EW (some u)->b≠x:=λb u q nm z=>by subst z;rw[q]at mu;exact nm mu
 refine⟨λb u q n _ _=>k b u (hb b n) q,λb u q n _ _=>⟨u.slots,k b u (hb b n) q⟩,λb u q n _=>by rw[ay (hx b n)];exact n,λb u q _=> ?_,
  λb xs q=>by rw[ay (hm b _ q λz=>z)];exact q,λb u xs q=>by rw[ay (hm b _ q λz=>z)];exact q,λb ps q=>⟨#[],by rw[ay (hm b _ q λz=>z),q];simp⟩⟩
 by_cases hbe:b=e
 ·subst hbe;exact heo
 ·exact⟨u,k b u hbe q⟩
end
def trk (h:Heap)(H:Hp):List Addr:=(List.range h.objs.size).filter λa=>(H a).isSome
def pz (h:Heap)(H:Hp):Heap:=PySem.W.hideAll h (trk h H)
theorem vC (h:Heap)(H:Hp):(pz h H).objs.size=h.objs.size:=PySem.W.hideAll_size _ _
theorem x6 {h:Heap}{H:Hp}{b:Addr}{o:Obj}(e:h.get? b=some o)(n:H b=none):(pz h H).get? b=some o:=
 PySem.W.hideAll_get _ e λhm=>by
  have q:(H b).isSome=true:=(List.mem_filter.mp hm).2;rw[n]at q;simp at q
theorem Ag {h:Heap}{H:Hp}{b:Addr}{o:Obj}(e:(pz h H).get? b=some o):h.get? b=some o/\H b=none:=by
 have e':h.get? b=some o:=PySem.W.of_hideAll (trk h H) e;refine⟨e',?_⟩
 cases q:H b with
 | none=>rfl
 | some x=>
  have hm:b∈trk h H:=List.mem_filter.mpr ⟨List.mem_range.mpr (Heap.lt_size e'),by simp[q]⟩
  have z:(pz h H).get? b=none:=PySem.W.hideAll_none (trk h H) hm;rw[z]at e;cases e
def AN (g h:Heap)(L:Addr):List (Addr×Obj):=(List.range h.objs.size).filterMap λa=>if a=L\/(g.get? a).isSome=true then none else(h.get? a).map λo=>(a,o)
def rest (g h:Heap)(L d:Addr):List (Addr×Obj):=(AN g h L).filter λp=>decide (p.1≠d)
structure Mod (K:PySem.W.Frag)(mg:Str->Option Value)(base:Heap):Prop where
 kin:K.In base
 glob:base.Ns mainGlobals mg
 blt:∃mb,base.Ns builtinsNs mb/\∀x:Str,x≠ "__name__"->mb x=bootBuiltins x
 nolimit:base.NoLimit
structure Cx where
 prog:Program
 w:World
 K:PySem.W.Frag
 mg:Str->Option Value
 base:Heap
 A:Around
 N:List Str
 s₀:Shared
 H₀:Hp
 env:Env
 outer:List Env
 stack:List Env
 ex:List Addr
 fn:Str->Bool
 calm:Bool
 pn:List (Addr×Obj)
 xe:Value->Shared->Prop
def pB (l:List Env):List Addr:=l.filterMap (·.frame)
abbrev Cx.fs (X:Cx):List Addr:=pB X.outer
def rV (sc:Scope)(x:Str):Prop:=sc.names.lookup x=some .local\/sc.names.lookup x=some .cell\/sc.names.lookup x=some .free
def Loc (sc:Scope)(x:Str):Prop:=sc.names.lookup x=some .local\/sc.names.lookup x=some .cell
def Look (env:Env)(h:Heap)(m:Str->Option Value)(x:Str)(u:Value):Prop:=
 (env.kindOf x=some .local/\m x=some u)\/((env.kindOf x=some .cell\/env.kindOf x=some .free)/\∃c,env.cells.lookup x=some c/\h.IsCell c (some u))
structure Cx.Ok (X:Cx):Prop where
 mod:Mod X.K X.mg X.base
 kind:X.env.scope.kind= .function
 glob:X.env.globals=mainGlobals
 blt:X.env.builtins=builtinsNs
 above:X.s₀.heap.objs.size<=X.env.locals
 inj:∀x y c,X.env.cells.lookup x=some c->X.env.cells.lookup y=some c->x=y
 has:∀x,(X.env.kindOf x=some .cell\/X.env.kindOf x=some .free)->∃c,X.env.cells.lookup x=some c
 cab:∀x c,X.fn x=true->X.env.cells.lookup x=some c->X.s₀.heap.objs.size<=c
 hd:X.calm=true->X.A.handled=none
 frames:X.A.frames=some X.stack
 stk:X.stack=X.outer\/(X.stack=X.env::X.outer/\X.env.frame=some X.env.locals)
 exf:∀b∈X.ex,b≠X.env.locals/\∀x c,X.env.cells.lookup x=some c->c≠b
 bs:∀b o,X.base.get? b=some o->X.s₀.heap.get? b=some o/\X.H₀ b=none
 bsz:X.base.objs.size<=X.s₀.heap.objs.size
 noex:∀b o,X.base.get? b=some o->b∉X.ex
 exfs:∀b∈X.ex,b∉X.fs
 funs:X.s₀.heap.FunFrames X.base X.outer
 frf:∀b∈X.fs,X.H₀ b=none
structure Inv (X:Cx)(pins:List (Addr×Obj))(σ:List (Option V))(H:Hp)(s:Shared):Prop where
 ok:X.Ok
 os:s.os=X.s₀.os
 bare:AllBare s.gens
 base:Un X.fs X.ex X.H₀ H X.s₀.heap s.heap
 loc:∃m,s.heap.Ns X.env.locals m/\∀(i:Nat) (x:Str) (v:V),X.N[i]? =some x->σ[i]? =some (some v)->rV X.env.scope x->∃u,RelV v u/\Look X.env s.heap m x u
 cell:∀x c,X.env.cells.lookup x=some c->∃v,s.heap.IsCell c v
 free:H X.env.locals=none
 freeC:∀x c,X.env.cells.lookup x=some c->H c=none
 pin:∀p∈X.pn++pins,s.heap.get? p.1=some p.2/\H p.1=none/\p.1≠X.env.locals/\p.1∉X.fs/\∀v,p.2.data≠ .cell v
 hok:HOk X.prog X.w H s.heap
 len:σ.length=X.N.length
section
variable {X:Cx}{pins:List (Addr×Obj)}{σ:List (Option V)}{H H':Hp}{s:Shared}{h':Heap}
theorem Cx.Ok.nofr (ok:X.Ok){b:Addr}{o:Obj}(e:X.base.get? b=some o):b∉X.fs:=λhb=>by
 have:=(ok.funs.mem hb).1;rw[e]at this;cases this
theorem Inv.bs (I:Inv X pins σ H s):∀b o,X.base.get? b=some o->s.heap.get? b=some o/\H b=none:=λb o e=>
 ⟨I.base.keep b o (I.ok.bs b o e).1 (I.ok.bs b o e).2 (I.ok.nofr e) (I.ok.noex b o e),I.base.free b o (I.ok.bs b o e).1 (I.ok.bs b o e).2 (I.ok.noex b o e)⟩
theorem Inv.bk (I:Inv X pins σ H s):∀b o,X.base.get? b=some o->s.heap.get? b=some o:=λb o e=>(I.bs b o e).1
theorem Inv.mod (I:Inv X pins σ H s):Mod X.K X.mg X.base:=I.ok.mod
theorem Inv.kIn (I:Inv X pins σ H s):X.K.In s.heap:=I.ok.mod.kin.keeps I.bk
theorem Inv.lt (I:Inv X pins σ H s):X.env.locals<s.heap.objs.size:=let ⟨_,hn,_⟩:=I.loc;hn.lt
theorem Inv.sz (I:Inv X pins σ H s):X.s₀.heap.objs.size<=s.heap.objs.size:=Nat.le_trans I.ok.above (Nat.le_of_lt I.lt)
theorem Inv.nofs (I:Inv X pins σ H s){a:Addr}(h:s.heap.objs.size<=a):a∉X.fs:=λhb=>by
 obtain⟨_,o,ho,_⟩:=I.ok.funs.mem hb;exact absurd (Nat.lt_of_lt_of_le (Heap.lt_size ho) (Nat.le_trans I.sz h)) (Nat.lt_irrefl _)
theorem Inv.cne (I:Inv X pins σ H s):∀x c,X.env.cells.lookup x=some c->c≠X.env.locals:=λx c e z=>by
 obtain⟨v,o,ho,hd⟩:=I.cell x c e;obtain⟨m,⟨o',es,ep,ho',hd',_⟩,_⟩:=I.loc;rw[z,ho']at ho;cases ho;rw[hd']at hd;cases hd
theorem Inv.funs (I:Inv X pins σ H s):s.heap.FunFrames X.base X.outer:=by
 have all:∀(l:List Env),(∀b∈pB l,b∈X.fs)->X.s₀.heap.FunFrames X.base l->s.heap.FunFrames X.base l:=by
  intro l
  induction l with
  | nil=>intro _ _;trivial
  | cons env r ih=>
   intro hs hl;obtain⟨hk,⟨L,o,hf,hn,ho,hd⟩,hr⟩:=hl
   have hL:L∈X.fs:=hs L (by unfold pB;rw[List.filterMap_cons,hf];exact List.mem_cons_self)
   obtain⟨sl,e⟩:=I.base.slot L o ho (I.ok.frf L hL) hL λz=>I.ok.exfs L z hL
   exact⟨hk,⟨L,_,hf,hn,e,hd⟩,ih (λb hb=>hs b (by unfold pB;rw[List.filterMap_cons,hf];exact List.mem_cons_of_mem _ hb)) hr⟩
 exact all X.outer (λ_ hb=>hb) I.ok.funs
theorem Inv.stack (I:Inv X pins σ H s):s.heap.FunFrames X.base X.stack:=by
 rcases I.ok.stk with e | ⟨e,hf⟩
 ·rw[e];exact I.funs
 ·rw[e]
  obtain⟨m,hn,_⟩:=I.loc;refine .cons (by rw[I.ok.kind];decide) hf hn ?_ I.funs
  exact Heap.get?_none_of_le (Nat.le_trans I.ok.bsz I.ok.above)
theorem Inv.stkSub (I:Inv X pins σ H s):∀b∈pB X.stack,b∈X.env.locals::X.fs:=λb hb=>by
 rcases I.ok.stk with e | ⟨e,hf⟩
 ·rw[e]at hb;exact List.mem_cons_of_mem _ hb
 ·rw[e]at hb
  unfold pB at hb;rw[List.filterMap_cons,hf]at hb;exact hb
theorem Inv.stkFree (I:Inv X pins σ H s):∀b∈pB X.stack,H b=none:=λb hb=>by
 rcases List.mem_cons.mp (I.stkSub b hb)with e | hb
 ·rw[e];exact I.free
 ·obtain⟨_,o,ho,_⟩:=I.ok.funs.mem hb
  exact I.base.free b o ho (I.ok.frf b hb) λz=>I.ok.exfs b z hb
theorem Inv.step {g':Array GenState}{t':Nat}{d':Drawn}{ch:List Addr}(I:Inv X pins σ H s)
  (hch:∀b∈ch,(b∈X.ex\/X.s₀.heap.objs.size<=b)/\b≠X.env.locals/\(∀x c,X.env.cells.lookup x=some c->c≠b)/\∀p∈X.pn++pins,p.1≠b)
  (keep:∀b o,b≠X.env.locals->b∉X.fs->b∉ch->s.heap.get? b=some o->H b=none->h'.get? b=some o)
  (slot:∀b o,b≠X.env.locals->b∈X.fs->b∉ch->s.heap.get? b=some o->H b=none->∃sl,h'.get? b=some { o with slots:=sl }) (free:∀b o,b∉ch->s.heap.get? b=some o->H b=none->H' b=none)
  (there:∀b o,b∉ch->s.heap.get? b=some o->∃o',h'.get? b=some o')
  (tups:∀b xs,H b=some (.tup xs)->H' b=some (.tup xs)) (frzs:∀b o u,H b=some (.frz o u)->H' b=some (.frz o u)) (tbls:∀b ps,H b=some (.tbl ps)->∃more,H' b=some (.tbl (ps++more)))
  (ns:∀m,s.heap.Ns X.env.locals m->h'.Ns X.env.locals m) (hok:HOk X.prog X.w H' h') (hg:AllBare g') :
  Inv X pins σ H' { s with heap:=h',gens:=g',drawn:=d',toks:=t' }:=by
 have neL:∀b o,X.s₀.heap.get? b=some o->b≠X.env.locals:=λb o e=>Nat.ne_of_lt (Nat.lt_of_lt_of_le (Heap.lt_size e) I.ok.above)
 have neC:∀b o,X.s₀.heap.get? b=some o->b∉X.ex->b∉ch:=λb o e hx hb=>by
  rcases(hch b hb).1 with z | z
  ·exact hx z
  ·exact absurd (Nat.lt_of_lt_of_le (Heap.lt_size e) z) (Nat.lt_irrefl _)
 have cellK:∀x c,X.env.cells.lookup x=some c->∀v,s.heap.IsCell c v->h'.IsCell c v:=λx c e v hh_=>by
  obtain⟨o,ho,hd⟩:=hh_
  have nch:c∉ch:=λz=>(hch c z).2.2.1 x c e rfl
  by_cases hc:c∈X.fs
  ·obtain⟨sl,q⟩:=slot c o (I.cne x c e) hc nch ho (I.freeC x c e)
   exact⟨_,q,hd⟩
  ·exact⟨o,keep c o (I.cne x c e) hc nch ho (I.freeC x c e),hd⟩
 refine⟨I.ok,I.os,hg,⟨λb o e n hb hx=> ?_,λb o e n hb hx=> ?_,λb o e n hx=> ?_,λb o e hx=> ?_,λb xs e=>tups b xs (I.base.tups b xs e),λb o xs e=>frzs b o xs (I.base.frzs b o xs e),λb ps e=> ?_⟩,?_,λx c e=> ?_,?_,λx c e=> ?_,λp hp=> ?_,hok,I.len⟩
 ·exact keep b o (neL b o e) hb (neC b o e hx) (I.base.keep b o e n hb hx) (I.base.free b o e n hx)
 ·obtain⟨sl,e1⟩:=I.base.slot b o e n hb hx
  obtain⟨sl',e2⟩:=slot b _ (neL b o e) hb (neC b o e hx) e1 (I.base.free b o e n hx);exact⟨sl',e2⟩
 ·obtain⟨o',e1⟩:=I.base.there b o e hx
  exact free b o' (neC b o e hx) e1 (I.base.free b o e n hx)
 ·obtain⟨o',e1⟩:=I.base.there b o e hx
  exact there b o' (neC b o e hx) e1
 ·obtain⟨m1,e1⟩:=I.base.tbls b ps e
  obtain⟨m2,e2⟩:=tbls b _ e1;exact⟨m1++m2,by rw[e2,Array.append_assoc]⟩
 ·obtain⟨m,hn,hl⟩:=I.loc
  refine⟨m,ns m hn,λi x v e1 e2 e3=> ?_⟩
  obtain⟨u,r,l⟩:=hl i x v e1 e2 e3;refine⟨u,r,?_⟩
  rcases l with l | ⟨k,c,e,z⟩
  ·exact .inl l
  ·exact .inr ⟨k,c,e,cellK x c e _ z⟩
 ·obtain⟨v,z⟩:=I.cell x c e
  exact⟨v,cellK x c e v z⟩
 ·obtain⟨m,⟨o,_,_,ho,_⟩,_⟩:=I.loc
  exact free _ o (λz=>(hch _ z).2.1 rfl) ho I.free
 ·obtain⟨v,o,ho,hd⟩:=I.cell x c e
  exact free c o (λz=>(hch c z).2.2.1 x c e rfl) ho (I.freeC x c e)
 ·obtain⟨e,n,ne,nf,d⟩:=I.pin p hp
  have nch:p.1∉ch:=λz=>(hch p.1 z).2.2.2 p hp rfl
  exact⟨keep p.1 p.2 ne nf nch e n,free p.1 p.2 nch e n,ne,nf,d⟩
theorem Inv.un {t':Nat}(I:Inv X pins σ H s)(u:Un X.fs [] H H' s.heap h')(hok:HOk X.prog X.w H' h'):Inv X pins σ H' { s with heap:=h',toks:=t' }:=by
 obtain⟨m,⟨o,es,ep,ho,r⟩,_⟩:=id I.loc;obtain⟨sl,hL⟩:=u.any ho I.free (by simp)
 exact I.step (g':=s.gens) (d':=s.drawn) (ch:=[]) (λ_ z=>nomatch z) (λb o _ hb _ e n=>u.keep b o e n hb (by simp)) (λb o _ hb _ e n=>u.slot b o e n hb (by simp)) (λb o _ e n=>u.free b o e n (by simp)) (λb o _ e=>u.there b o e (by simp)) u.tups u.frzs u.tbls (λm' hm=>by
  obtain⟨o',es',ep',ho',r'⟩:=hm;rw[ho]at ho';cases ho';exact⟨_,es',ep',hL,r'⟩) hok I.bare
theorem Inv.call {g':Array GenState}{t':Nat}{d':Drawn}{ch:List Addr}(I:Inv X pins σ H s)(u:Un (pB X.stack) ch H H' s.heap h')(hok:HOk X.prog X.w H' h')(hg:AllBare g')
  (hch:∀b∈ch,(b∈X.ex\/X.s₀.heap.objs.size<=b)/\b≠X.env.locals/\(∀x c,X.env.cells.lookup x=some c->c≠b)/\∀p∈X.pn++pins,p.1≠b) :
  Inv X pins σ H' { s with heap:=h',gens:=g',drawn:=d',toks:=t' }:=by
 obtain⟨m,⟨o,es,ep,ho,r⟩,_⟩:=id I.loc;obtain⟨sl,hL⟩:=u.any ho I.free λz=>(hch _ z).2.1 rfl
 exact I.step (ch:=ch) hch (λb o hL hb hc e n=>u.keep b o e n (λz=>(List.mem_cons.mp (I.stkSub b z)).elim hL hb) hc) (λb o _ _ hc e n=>u.any e n hc) (λb o hc e n=>u.free b o e n hc) (λb o hc e=>u.there b o e hc) u.tups u.frzs u.tbls (λm' hm=>by
  obtain⟨o',es',ep',ho',r'⟩:=hm;rw[ho]at ho';cases ho';exact⟨_,es',ep',hL,r'⟩) hok hg
theorem Inv.turned {t':Nat}{it:Addr}(I:Inv X pins σ H s)(k:∀b o,b≠it->s.heap.get? b=some o->h'.get? b=some o)(hn:H it=none)(hL:it≠X.env.locals)
  (h1:it∈X.ex\/X.s₀.heap.objs.size<=it) (h2:∀x c,X.env.cells.lookup x=some c->c≠it) (h3:∀p∈X.pn++pins,p.1≠it):Inv X pins σ H { s with heap:=h',toks:=t' }:=by
 have nit:∀b u,H b=some u->b≠it:=λb u e z=>by rw[z,hn]at e;cases e
 refine I.step (g':=s.gens) (d':=s.drawn) (ch:=[it]) (λb hb=> ?_) (λb o _ _ hc e _=>k b o (λz=>hc (by simp[z])) e) (λb o _ _ hc e _=>⟨o.slots,k b o (λz=>hc (by simp[z])) e⟩) (λ_ _ _ _ n=>n)
  (λb o hc e=>⟨o,k b o (λz=>hc (by simp[z])) e⟩) (λ_ _ e=>e) (λ_ _ _ e=>e) (λb ps e=>⟨#[],by rw[e];simp⟩) (λm hm=> ?_) (λb u e=> ?_) I.bare
 ·have e:b=it:=by simpa using hb
  subst e;exact⟨h1,hL,h2,h3⟩
 ·obtain⟨o,es,ep,ho,r⟩:=hm
  exact⟨o,es,ep,k _ o (Ne.symm hL) ho,r⟩
 ·refine(I.hok b u e).stay (λc v hc q=>k c v ?_ q) (λ_ q=>q) λ_ _ q=>q
  rcases hc with z | z
  ·rw[z];exact nit b u e
  ·exact nit c _ z
theorem Inv.tok (I:Inv X pins σ H s)(t:Nat):Inv X pins σ H { s with toks:=t }:=I.un (h':=s.heap) (t':=t) Un.refl I.hok
theorem Inv.kept {t':Nat}(I:Inv X pins σ H s)(k:∀b u,s.heap.get? b=some u->h'.get? b=some u):Inv X pins σ H { s with heap:=h',toks:=t' }:=I.un (Un.kept k) (I.hok.kept k)
theorem Inv.laid {a:Addr}{o:HO}{t':Nat}(I:Inv X pins σ H s)(k:∀b u,s.heap.get? b=some u->h'.get? b=some u)(hp:s.heap.objs.size<=a)(new:ObjOk X.prog X.w (upd H a o) h' a o) :
  Inv X pins σ (upd H a o) { s with heap:=h',toks:=t' }:=I.un (Un.laid k hp (I.hok.fresh hp)) (I.hok.laid k hp new)
theorem Inv.write {x e:Addr}{o:HO}{t':Nat}(I:Inv X pins σ H s)(mu:EW (H x))(he:e=x\/H e=some (.own x))(k:∀b u,b≠e->s.heap.get? b=some u->h'.get? b=some u)(heo:∃u,h'.get? e=some u)
  (new:ObjOk X.prog X.w (upd H x o) h' x o):Inv X pins σ (upd H x o) { s with heap:=h',toks:=t' }:=I.un (Un.write mu he k heo) (I.hok.write mu he k heo new)
theorem Inv.pins_of {pins':List (Addr×Obj)}(I:Inv X pins σ H s)(h:∀p∈pins',s.heap.get? p.1=some p.2/\H p.1=none/\p.1≠X.env.locals/\p.1∉X.fs/\∀v,p.2.data≠ .cell v):Inv X pins' σ H s:=
 ⟨I.ok,I.os,I.bare,I.base,I.loc,I.cell,I.free,I.freeC,λp hp=>(List.mem_append.mp hp).elim (λz=>I.pin p (List.mem_append_left _ z)) (h p),I.hok,I.len⟩
theorem qS {N:List Str}(hN:N.Nodup){i j:Nat}{x:Str}(a:N[i]? =some x)(b:N[j]? =some x):i=j:=by
 obtain⟨h1,e1⟩:=List.getElem?_eq_some_iff.mp a
 obtain⟨h2,e2⟩:=List.getElem?_eq_some_iff.mp b
 exact(List.getElem_inj hN).mp (e1.trans e2.symm)
theorem nh {M:Model}{A:Around}{E:Value->Shared->Prop}{i:Nat}{x:Str}{v:V}{u:Value}{Q:Unit->Shared->Prop}(I:Inv X pins σ H s)(hN:X.N.Nodup)(hi:X.N[i]? =some x)(hx:Loc X.env.scope x)(r:RelV v u)
  (h:∀s',Inv X pins (σ.set i (some v)) H s'->(∃a,Heap.SameBut a s.heap s'.heap/\(a=X.env.locals\/X.env.cells.lookup x=some a))->Q () s') (hf:X.fn x=true\/X.env.scope.names.lookup x=some .local:=by first | exact .inl rfl | exact .inr rfl | assumption):wpAny M A (storeName X.env x u) Q E s:=by
 obtain⟨m,hn,hl⟩:=id I.loc
 have hcls:(X.env.scope.kind == .class||(X.env.scope.kind == .module&&X.env.locals != X.env.globals))=false:=by rw[I.ok.kind];rfl
 have hiσ:i<σ.length:=by rw[I.len];exact(List.getElem?_eq_some_iff.mp hi).1
 have cne:=I.cne
 have tracked:∀{a:Addr} {h':Heap},(∃o,s.heap.get? a=some o/\H a=none)->Heap.SameBut a s.heap h'->HOk X.prog X.w H h':=λ{a h'} ha hs b ob e=>by
  obtain⟨_,_,hfree⟩:=ha;refine(I.hok b ob e).stay (λc w' hc q=>(hs.2 c ?_).trans q) (λ_ q=>q) λ_ _ q=>q
  rintro rfl
  rcases hc with rfl | hc
  ·rw[hfree]at e;cases e
  ·rw[hfree]at hc;cases hc
 rcases hx with hk | hk
 ·refine wpAny_storeName_local hk hn (λh' hn' hs=> ?_) hcls
  obtain⟨oL,_,_,hoL,_⟩:=id hn;refine h _ ⟨I.ok,I.os,I.bare,⟨λb o e n hb hx=> ?_,λb o e n hb hx=> ?_,I.base.free,λb o e hx=> ?_,I.base.tups,I.base.frzs,I.base.tbls⟩,⟨_,hn',λj y v' e1 e2 e3=> ?_⟩,λy c e=> ?_,I.free,I.freeC,λp hp=> ?_,tracked ⟨oL,hoL,I.free⟩ hs,by simpa using I.len⟩ ⟨_,hs,.inl rfl⟩
  ·exact(hs.2 b (Nat.ne_of_lt (Nat.lt_of_lt_of_le (Heap.lt_size e) I.ok.above))).trans (I.base.keep b o e n hb hx)
  ·obtain⟨sl,e1⟩:=I.base.slot b o e n hb hx
   exact⟨sl,(hs.2 b (Nat.ne_of_lt (Nat.lt_of_lt_of_le (Heap.lt_size e) I.ok.above))).trans e1⟩
  ·obtain⟨o',e1⟩:=I.base.there b o e hx
   exact⟨o',(hs.2 b (Nat.ne_of_lt (Nat.lt_of_lt_of_le (Heap.lt_size e) I.ok.above))).trans e1⟩
  ·by_cases hj:j=i
   ·subst hj
    rw[hi]at e1;cases e1;rw[List.getElem?_set_self hiσ]at e2
    cases e2;exact⟨u,r,.inl ⟨hk,by simp⟩⟩
   ·rw[List.getElem?_set_ne (Ne.symm hj)]at e2
    obtain⟨u',r',q⟩:=hl j y v' e1 e2 e3;refine⟨u',r',?_⟩
    rcases q with⟨k,e⟩ | ⟨k,c,e,z⟩
    ·refine .inl ⟨k,?_⟩
     have:y≠x:=λe=>hj (qS hN e1 (e▸hi))
     simp[this,e]
    ·exact .inr ⟨k,c,e,z.sameBut hs (cne y c e)⟩
  ·obtain⟨w',z⟩:=I.cell y c e
   exact⟨w',z.sameBut hs (cne y c e)⟩
  ·obtain⟨e,n,ne,nf,d⟩:=I.pin p hp
   exact⟨(hs.2 p.1 ne).trans e,n,ne,nf,d⟩
 ·have hfn:X.fn x=true:=by
   rcases hf with z | z
   ·exact z
   ·rw[z]at hk;cases hk
  obtain⟨c,hc⟩:=I.ok.has x (.inl hk);obtain⟨w',z⟩:=I.cell x c hc;refine wpAny_storeName_cell I.ok.kind hk hc z (λh' hc' hs=> ?_)
  obtain⟨oc,hoc,hocd⟩:=id z;refine h { s with heap:=h' } ⟨I.ok,I.os,I.bare,⟨λb o e n hb hx=> ?_,λb o e n hb hx=> ?_,I.base.free,λb o e hx=> ?_,I.base.tups,I.base.frzs,I.base.tbls⟩,⟨m,hn.sameBut hs (Ne.symm (cne x c hc)),λj y v' e1 e2 e3=> ?_⟩,λy c' e=> ?_,I.free,I.freeC,λp hp=> ?_,tracked ⟨oc,hoc,I.freeC x c hc⟩ hs,by simpa using I.len⟩ ⟨c,hs,.inr hc⟩
  ·exact(hs.2 b (Nat.ne_of_lt (Nat.lt_of_lt_of_le (Heap.lt_size e) (I.ok.cab x c hfn hc)))).trans (I.base.keep b o e n hb hx)
  ·obtain⟨sl,e1⟩:=I.base.slot b o e n hb hx
   exact⟨sl,(hs.2 b (Nat.ne_of_lt (Nat.lt_of_lt_of_le (Heap.lt_size e) (I.ok.cab x c hfn hc)))).trans e1⟩
  ·obtain⟨o',e1⟩:=I.base.there b o e hx
   exact⟨o',(hs.2 b (Nat.ne_of_lt (Nat.lt_of_lt_of_le (Heap.lt_size e) (I.ok.cab x c hfn hc)))).trans e1⟩
  ·by_cases hj:j=i
   ·subst hj
    rw[hi]at e1;cases e1;rw[List.getElem?_set_self hiσ]at e2
    cases e2;exact⟨u,r,.inr ⟨.inl hk,c,hc,hc'⟩⟩
   ·rw[List.getElem?_set_ne (Ne.symm hj)]at e2
    obtain⟨u',r',q⟩:=hl j y v' e1 e2 e3;refine⟨u',r',?_⟩
    rcases q with q | ⟨k,c',e,z'⟩
    ·exact .inl q
    ·refine .inr ⟨k,c',e,z'.sameBut hs ?_⟩
     rintro rfl
     exact hj (qS hN e1 (I.ok.inj _ _ _ e hc▸hi))
  ·by_cases hcc:c'=c
   ·subst hcc;exact⟨_,hc'⟩
   ·obtain⟨w2,z2⟩:=I.cell y c' e
    exact⟨w2,z2.sameBut hs hcc⟩
  ·obtain⟨e,n,ne,nf,d⟩:=I.pin p hp
   refine⟨(hs.2 p.1 ?_).trans e,n,ne,nf,d⟩
   intro q;rw[q,hoc]at e
   have q':oc=p.2:=Option.some.inj e;exact d w' (by rw[<-q'];exact hocd)
theorem qk {M:Model}{A:Around}{E:Value->Shared->Prop}{i:Nat}{x:Str}{v:V}{u:Value}{Q:Unit->Shared->Prop}(I:Inv X pins σ H s)(hN:X.N.Nodup)(hi:X.N[i]? =some x)(hx:Loc X.env.scope x)(r:RelV v u)
  (h:∀s',Inv X pins (σ.set i (some v)) H s'->Q () s') (hf:X.fn x=true\/X.env.scope.names.lookup x=some .local:=by first | exact .inl rfl | exact .inr rfl | assumption):wpAny M A (storeName X.env x u) Q E s:=
 nh I hN hi hx r (λs' I' _=>h s' I') hf
theorem Inv.call' {s':Shared}{ch:List Addr}(I:Inv X pins σ H s)(ho:s'.os=s.os)(u:Un (pB X.stack) ch H H' s.heap s'.heap)(hok:HOk X.prog X.w H' s'.heap)(hg:AllBare s'.gens)
  (hch:∀b∈ch,(b∈X.ex\/X.s₀.heap.objs.size<=b)/\b≠X.env.locals/\(∀x c,X.env.cells.lookup x=some c->c≠b)/\∀p∈X.pn++pins,p.1≠b):Inv X pins σ H' s':=by
 obtain⟨h',g',d',t',o'⟩:=s'
 have e:o'=s.os:=ho;subst e;exact I.call (g':=g') (t':=t') (d':=d') u hok hg hch
end
abbrev XK:=Value->Option Addr->Hp->Prop
abbrev St:=List (Option V)
abbrev VK:=V->Hp->Prop
abbrev TE:=St->Hp->VK->Prop
abbrev TT:=St->Hp->(Bool->Hp->Prop)->Prop
abbrev TA:=St->Hp->(List V->Hp->Prop)->Prop
structure pT where
 nx:St->Hp->Prop
 rt:VK
 bk:St->Hp->Prop:=λ_ _=>False
 ct:St->Hp->Prop:=λ_ _=>False
abbrev TS:=pT->St->Hp->Prop
def EP (X:Cx)(pins:List (Addr×Obj))(σ:St)(Q:VK)(u:Value)(s':Shared):Prop:=∃v H',Inv X pins σ H' s'/\RelV v u/\Q v H'
def TP (X:Cx)(pins:List (Addr×Obj))(σ:St)(Q:Bool->Hp->Prop)(b:Bool)(s':Shared):Prop:=∃H',Inv X pins σ H' s'/\Q b H'
def AP (X:Cx)(pins:List (Addr×Obj))(σ:St)(Q:List V->Hp->Prop)(us:List Value)(s':Shared):Prop:=∃vs H',Inv X pins σ H' s'/\Vals vs us/\Q vs H'
def SP (X:Cx)(pins:List (Addr×Obj))(D:pT)(f:Flow)(s':Shared):Prop:=
 match f with
 | .next=> ∃σ' H',Inv X pins σ' H' s'/\D.nx σ' H'
 | .brk=> ∃σ' H',Inv X pins σ' H' s'/\D.bk σ' H'
 | .cont=> ∃σ' H',Inv X pins σ' H' s'/\D.ct σ' H'
 | .ret u=> ∃v σ' H',Inv X pins σ' H' s'/\RelV v u/\D.rt v H'
def PE (X:Cx)(e:Expr)(t:TE):Prop:=
 ∀(pins:List (Addr×Obj)) (s:Shared) (σ:St) (H:Hp) (Q:VK),Inv X pins σ H s->t σ H Q->wpAny (model X.prog X.w) X.A (eval e X.env) (EP X pins σ Q) X.xe s
def PT (X:Cx)(e:Expr)(t:TT):Prop:=
 ∀(pins:List (Addr×Obj)) (s:Shared) (σ:St) (H:Hp) (Q:Bool->Hp->Prop),Inv X pins σ H s->t σ H Q->wpAny (model X.prog X.w) X.A (isTrue e X.env (eval e X.env)) (TP X pins σ Q) X.xe s
def PW (X:Cx)(e:Expr)(t:TT):Prop:=
 ∀(whole:Sem Value) (pins:List (Addr×Obj)) (s:Shared) (σ:St) (H:Hp) (Q:Bool->Hp->Prop),Inv X pins σ H s->t σ H Q->wpAny (model X.prog X.w) X.A (isTrue e X.env whole) (TP X pins σ Q) X.xe s
theorem PW.pt {X:Cx}{e:Expr}{t:TT}(h:PW X e t):PT X e t:=h _
def PA (X:Cx)(es:List Expr)(t:TA):Prop:=
 ∀(pos:Pos) (pins:List (Addr×Obj)) (s:Shared) (σ:St) (H:Hp) (Q:List V->Hp->Prop),Inv X pins σ H s->t σ H Q->wpAny (model X.prog X.w) X.A (spliced (backTo pos (starEach es X.env))) (AP X pins σ Q) X.xe s
def PS (X:Cx)(st:Stmt)(t:TS):Prop:=
 ∀(pins:List (Addr×Obj)) (s:Shared) (σ:St) (H:Hp) (D:pT),Inv X pins σ H s->t D σ H->wpAny (model X.prog X.w) X.A (exec st X.env) (SP X pins D) X.xe s
def PSs (X:Cx)(st:List Stmt)(t:TS):Prop:=
 ∀(pins:List (Addr×Obj)) (s:Shared) (σ:St) (H:Hp) (D:pT),Inv X pins σ H s->t D σ H->wpAny (model X.prog X.w) X.A (execs st X.env) (SP X pins D) X.xe s
theorem cv {α:Type}{t:Sem α}{Q Q':α->Shared->Prop}{M:Model}{A:Around}{E:Value->Shared->Prop}{s:Shared}(h:wpAny M A t Q E s)(hQ:∀a s,Q a s->Q' a s):wpAny M A t Q' E s:=wpAny_mono h hQ λ_ _ x=>x
section
variable {X:Cx}
def qg (i:Nat):TE:=λσ H Q=> ∃v,σ[i]? =some (some v)/\Q v H
def tC (v:V):TE:=λ_ H Q=>Q v H
theorem jc {i:Nat}{x:Str}{pos:Pos}(hN:X.N[i]? =some x)(hv:rV X.env.scope x)(hd:(x == ("__debug__" : Str))=false:=by decide)(hcd:(x == ("__classdict__" : Str))=false:=by decide):PE X (.Name x pos) (qg i):=by
 intro pins s σ H Q I h;obtain⟨v,e,h⟩:=h;obtain⟨m,hn,hl⟩:=I.loc;obtain⟨u,r,l⟩:=hl i x v hN e hv
 have fin:EP X pins σ Q u s:=⟨v,H,I,r,h⟩;rcases l with⟨hk,hm⟩ | ⟨hk,c,hc,hcell⟩
 ·exact wpAny_Name (wpAny_loadName_local I.ok.kind hk hn hm fin) hd
 ·rcases hk with hk | hk
  ·exact wpAny_Name (wpAny_loadName_cell I.ok.kind hk hc hcell fin) hd
  ·exact wpAny_Name (wpAny_loadName_free I.ok.kind hk hc hcell fin hcd) hd
theorem Cn {i j pos}:PE X (.Constant (.int i) j pos) (tC (.int i)):=λ_ _ _ H _ I h=>wpAny_Constant_int ⟨.int i,H,I.tok _,⟨_,rfl⟩,h⟩
theorem Ef {b j pos}:PE X (.Constant (.bool b) j pos) (tC (.bl b)):=λ_ _ _ H _ I h=>Constant_bool ⟨.bl b,H,I,rfl,h⟩
theorem wZ {j pos}:PE X (.Constant .none j pos) (tC .non):=λ_ _ _ H _ I h=>Constant_none ⟨.non,H,I,rfl,h⟩
def Gl (X:Cx)(x:Str):Prop:=X.env.kindOf x=some .globalImplicit
theorem ld {E:Value->Shared->Prop}{pins:List (Addr×Obj)}{s:Shared}{σ:St}{H:Hp}{x:Str}{u:Value}{pos:Pos}{Q:Value->Shared->Prop}(I:Inv X pins σ H s)(hg:Gl X x)(hm:X.mg x=some u)(h:Q u s)
  (hd:(x == ("__debug__" : Str))=false:=by decide):wpAny (model X.prog X.w) X.A (eval (.Name x pos) X.env) Q E s:=
 Calls.Name_function_global I.ok.kind hg (Calls.loadGlobal_global (by rw[I.ok.glob];exact I.mod.glob.keeps I.bk) hm h) hd
theorem fz {E:Value->Shared->Prop}{pins:List (Addr×Obj)}{s:Shared}{σ:St}{H:Hp}{x:Str}{u:Value}{pos:Pos}{Q:Value->Shared->Prop}(I:Inv X pins σ H s)(hg:Gl X x)(hm:X.mg x=none)(hv:bootBuiltins x=some u)(h:Q u s)
  (hn:x≠ "__name__":=by decide) (hd:(x == ("__debug__" : Str))=false:=by decide):wpAny (model X.prog X.w) X.A (eval (.Name x pos) X.env) Q E s:=by
 obtain⟨mb,h1,h2⟩:=I.mod.blt;exact Calls.Name_function_global I.ok.kind hg (Calls.loadGlobal_builtin (by rw[I.ok.glob];exact I.mod.glob.keeps I.bk) hm (by rw[I.ok.blt];exact h1.keeps I.bk) ((h2 x hn).trans hv) h) hd
theorem Aa {x:Str}{v:V}{u:Value}{pos:Pos}(hg:Gl X x)(hm:X.mg x=some u)(r:RelV v u)(hd:(x == ("__debug__" : Str))=false:=by decide):PE X (.Name x pos) (tC v):=
 λ_ _ _ H _ I h=>ld I hg hm ⟨v,H,I,r,h⟩ hd
theorem Ab {x:Str}{v:V}{u:Value}{pos:Pos}(hg:Gl X x)(hm:X.mg x=none)(hv:bootBuiltins x=some u)(r:RelV v u)(hn:x≠ "__name__":=by decide)(hd:(x == ("__debug__" : Str))=false:=by decide):PE X (.Name x pos) (tC v):=
 λ_ _ _ H _ I h=>fz I hg hm hv ⟨v,H,I,r,h⟩ hn hd
variable {a b:Expr}{ta tb:TE}{pos:Pos}
def tB (t:TE):TT:=λσ H Q=>t σ H λx H1=> ∃c,x= .bl c/\Q c H1
theorem Ca {e:Expr}{t:TE}(h:PE X e t)(he:∀whole,isTrue e X.env whole=(do let v <-whole;standAt e.pos;holding [v] (truthy v)):=by intro _;rfl):PT X e (tB t):=by
 intro pins s σ H Q I hw;refine isTrue_plain (cv (h pins s σ H _ I hw) λv s1 ⟨x,H1,I1,r1,q1⟩=> ?_) (he _)
 obtain⟨d,rfl,q⟩:=q1;cases r1;exact wpAny_truthy_bool ⟨H1,I1,q⟩
variable {tA tB':TT}{rest:List Expr}
def tAnd (t u:TT):TT:=λσ H Q=>t σ H λc H1=>if c=true then u σ H1 Q else Q false H1
def tOr (t u:TT):TT:=λσ H Q=>t σ H λc H1=>if c=true then Q true H1 else u σ H1 Q
def tNot (t:TT):TT:=λσ H Q=>t σ H λc H1=>Q (!c) H1
theorem zP (ha:PT X a tA):PW X (.BoolOp .And [a] pos) tA:=by
 intro wh pins s σ H Q I h;refine isTrue_and (cv (ha pins s σ H Q I h) λc s1 e=> ?_)
 cases c with
 | true=>exact isTrue_and_nil e
 | false=>exact e
theorem B8 (ha:PT X a tA):PW X (.BoolOp .Or [a] pos) tA:=by
 intro wh pins s σ H Q I h;refine isTrue_or (cv (ha pins s σ H Q I h) λc s1 e=> ?_)
 cases c with
 | false=>exact isTrue_or_nil e
 | true=>exact e
theorem B9 (ha:PT X a tA)(hb:PW X (.BoolOp .And (b::rest) pos) tB'):PW X (.BoolOp .And (a::b::rest) pos) (tAnd tA tB'):=by
 intro wh pins s σ H Q I h;refine isTrue_and (cv (ha pins s σ H _ I h) λc s1 hh_=> ?_)
 obtain⟨H1,I1,q1⟩:=hh_
 cases c with
 | true=>exact hb wh pins s1 σ H1 Q I1 q1
 | false=>exact⟨H1,I1,q1⟩
theorem Ea (ha:PT X a tA)(hb:PW X (.BoolOp .Or (b::rest) pos) tB'):PW X (.BoolOp .Or (a::b::rest) pos) (tOr tA tB'):=by
 intro wh pins s σ H Q I h;refine isTrue_or (cv (ha pins s σ H _ I h) λc s1 hh_=> ?_)
 obtain⟨H1,I1,q1⟩:=hh_
 cases c with
 | true=>exact⟨H1,I1,q1⟩
 | false=>exact hb wh pins s1 σ H1 Q I1 q1
theorem Cb (ha:PT X a tA):PT X (.UnaryOp .Not a pos) (tNot tA):=by
 intro pins s σ H Q I h;exact isTrue_not (ha pins s σ H (λc H1=>Q (!c) H1) I h)
def DH (ta tb:TE):TE:=λσ H Q=>ta σ H λx H1=> ∃c,x= .bl c/\if c=true then tb σ H1 Q else Q (.bl false) H1
def tOrV (ta tb:TE):TE:=λσ H Q=>ta σ H λx H1=> ∃c,x= .bl c/\if c=true then Q (.bl true) H1 else tb σ H1 Q
def Dz (ta:TE):TE:=λσ H Q=>ta σ H λx H1=> ∃c,x= .bl c/\Q (.bl (!c)) H1
theorem Cj {op}{t:TE}(h:PE X a t):PE X (.BoolOp op [a] pos) t:=λpins s σ H Q I hw=>BoolOp_one (h pins s σ H Q I hw)
theorem Co (ha:PE X a ta)(hb:PE X (.BoolOp .And (b::rest) pos) tb):PE X (.BoolOp .And (a::b::rest) pos) (DH ta tb):=by
 intro pins s σ H Q I h;refine BoolOp_and (cv (ha pins s σ H _ I h) λv s1 hh_=> ?_)
 obtain⟨x,H1,I1,r1,q1⟩:=hh_;obtain⟨c,rfl,q1⟩:=q1;cases r1;refine wpAny_truthy_bool ?_
 cases c with
 | true=>exact hb pins s1 σ H1 Q I1 q1
 | false=>exact⟨.bl false,H1,I1,rfl,q1⟩
theorem Ee (ha:PE X a ta)(hb:PE X (.BoolOp .Or (b::rest) pos) tb):PE X (.BoolOp .Or (a::b::rest) pos) (tOrV ta tb):=by
 intro pins s σ H Q I h;refine BoolOp_or (cv (ha pins s σ H _ I h) λv s1 hh_=> ?_)
 obtain⟨x,H1,I1,r1,q1⟩:=hh_;obtain⟨c,rfl,q1⟩:=q1;cases r1;refine wpAny_truthy_bool ?_
 cases c with
 | false=>exact hb pins s1 σ H1 Q I1 q1
 | true=>exact⟨.bl true,H1,I1,rfl,q1⟩
theorem Ck (ha:PE X a ta):PE X (.UnaryOp .Not a pos) (Dz ta):=by
 intro pins s σ H Q I h;refine UnaryOp_ (cv (ha pins s σ H _ I h) λv s1 hh_=> ?_)
 obtain⟨x,H1,I1,r1,q1⟩:=hh_;obtain⟨c,rfl,q1⟩:=q1;cases r1;exact not_of (wpAny_truthy_bool ⟨.bl (!c),H1,I1,rfl,q1⟩)
def tIf (t:TT)(ta tb:TE):TE:=λσ H Q=>t σ H λc H1=>if c=true then ta σ H1 Q else tb σ H1 Q
theorem w4 {c:Expr}(hc:PT X c tA)(ha:PE X a ta)(hb:PE X b tb):PE X (.IfExp c a b pos) (tIf tA ta tb):=by
 intro pins s σ H Q I h;refine wpAny_IfExp (cv (hc pins s σ H _ I h) λd s1 hh_=> ?_)
 obtain⟨H1,I1,q1⟩:=hh_
 cases d with
 | true=>exact ha pins s1 σ H1 Q I1 q1
 | false=>exact hb pins s1 σ H1 Q I1 q1
end
def SqL (K:PySem.W.Frag)(H:Hp)(a:Addr)(xs:List V):Prop:=
 Rd H a (.lst xs) ∨
  ∃(o:Obj) (its:Array Value) (n:Nat),K.lookup a=some o/\o.cls= .type "list"/\o.dict=none/\o.data= .seq its n/\its.size<=sizeLine/\Vals xs its.toList
def SqT (K:PySem.W.Frag)(H:Hp)(a:Addr)(xs:List V):Prop:=
 Rd H a (.tup xs) ∨
  ∃(o:Obj) (its:Array Value) (n:Nat),K.lookup a=some o/\o.cls= .type "tuple"/\o.data= .seq its n/\its.size<=sizeLine/\Vals xs its.toList
def absV:Value->Option V
 | .none=>some .non
 | .bool b=>some (.bl b)
 | .int i _=>some (.int i)
 | .str x _=>some (.str x)
 | .bytes b _=>some (.byt b)
 | .float b _=>some (.flt b)
 | .ref a=>some (.ref a)
 | .type n=>some (.ty n)
 | _=>none
theorem RelV.abs {x:V}{u:Value}(r:RelV x u):absV u=some x:=by
 cases x with
 | non=>cases r;rfl
 | bl _=>cases r;rfl
 | int _=>obtain⟨t,rfl⟩:=r;rfl
 | str _=>obtain⟨t,rfl⟩:=r;rfl
 | byt _=>obtain⟨t,rfl⟩:=r;rfl
 | flt _=>obtain⟨t,rfl⟩:=r;rfl
 | ref _=>cases r;rfl
 | ty _=>cases r;rfl
theorem RelV.inj {x y:V}{u:Value}(r:RelV x u)(q:RelV y u):x=y:=Option.some.inj (r.abs.symm.trans q.abs)
theorem Vals.inj:∀{xs ys:List V} {us:List Value},Vals xs us->Vals ys us->xs=ys
 | _,_,_,.nil,.nil=>rfl
 | _,_,_,.cons r t,.cons r' t'=>by rw[r.inj r',Vals.inj t t']
section
variable {X:Cx}{pins:List (Addr×Obj)}{σ:St}{H:Hp}{s:Shared}{a:Addr}{xs ys:List V}
theorem SqL.of {K:PySem.W.Frag}(h:H a=some (.lst xs)):SqL K H a xs:=.inl (.inl h)
theorem SqT.of {K:PySem.W.Frag}(h:H a=some (.tup xs)):SqT K H a xs:=.inl (.inl h)
theorem Inv.list (I:Inv X pins σ H s)(h:SqL X.K H a xs):∃its:List Value,Vals xs its/\PlainL s.heap a its.toArray/\xs.length<=sizeLine:=by
 rcases h with h | ⟨o,its,n,hk,hc,hd,hs,hz,r⟩
 ·obtain⟨z,its,n,r,e⟩:=h.ok I.hok
  exact⟨its,r,⟨_,n,e,rfl,rfl,rfl⟩,z⟩
 ·refine⟨its.toList,r,⟨o,n,I.kIn a o hk,hc,hd,by simpa using hs⟩,?_⟩
  have e:=r.length;simp only[Array.length_toList]at e;omega
theorem Inv.tuple (I:Inv X pins σ H s)(h:SqT X.K H a xs):∃its:List Value,Vals xs its/\IsTup s.heap a its.toArray/\xs.length<=sizeLine:=by
 rcases h with h | ⟨o,its,n,hk,hc,hs,hz,r⟩
 ·obtain⟨z,its,r,p⟩:=h.ok I.hok
  exact⟨its,r,p,z⟩
 ·refine⟨its.toList,r,⟨o,I.kIn a o hk,hc,n,by simpa using hs⟩,?_⟩
  have e:=r.length;simp only[Array.length_toList]at e;omega
theorem Inv.list_inj (I:Inv X pins σ H s)(h:SqL X.K H a xs)(h':SqL X.K H a ys):xs=ys:=by
 obtain⟨its,r,⟨o,n,e,_,_,d⟩,_⟩:=I.list h;obtain⟨its',r',⟨o',n',e',_,_,d'⟩,_⟩:=I.list h';rw[e]at e';cases e';rw[d]at d';injection d' with d1 _
 have:its=its':=by simpa using congrArg Array.toList d1
 subst this;exact r.inj r'
theorem Inv.tuple_inj (I:Inv X pins σ H s)(h:SqT X.K H a xs)(h':SqT X.K H a ys):xs=ys:=by
 obtain⟨its,r,⟨o,e,_,n,d⟩,_⟩:=I.tuple h;obtain⟨its',r',⟨o',e',_,n',d'⟩,_⟩:=I.tuple h';rw[e]at e';cases e';rw[d]at d';injection d' with d1 _
 have:its=its':=by simpa using congrArg Array.toList d1
 subst this;exact r.inj r'
end
abbrev Cx.wish (X:Cx)(E:Value->Shared->Prop):Cx:={ X with xe:=E }
abbrev Cx.nox (X:Cx):Cx:=X.wish λ_ _=>False
theorem Cx.Ok.wish {X:Cx}(ok:X.Ok)(E:Value->Shared->Prop):(X.wish E).Ok:=
 ⟨ok.mod,ok.kind,ok.glob,ok.blt,ok.above,ok.inj,ok.has,ok.cab,ok.hd,ok.frames,ok.stk,ok.exf,ok.bs,ok.bsz,ok.noex,ok.exfs,ok.funs,ok.frf⟩
theorem Cx.Ok.unwish {X:Cx}{E:Value->Shared->Prop}(ok:(X.wish E).Ok):X.Ok:=
 ⟨ok.mod,ok.kind,ok.glob,ok.blt,ok.above,ok.inj,ok.has,ok.cab,ok.hd,ok.frames,ok.stk,ok.exf,ok.bs,ok.bsz,ok.noex,ok.exfs,ok.funs,ok.frf⟩
section
variable {X:Cx}{pins:List (Addr×Obj)}{σ:St}{H:Hp}{s:Shared}{E:Value->Shared->Prop}
theorem Inv.wish (I:Inv X pins σ H s)(E:Value->Shared->Prop):Inv (X.wish E) pins σ H s:=⟨I.ok.wish E,I.os,I.bare,I.base,I.loc,I.cell,I.free,I.freeC,I.pin,I.hok,I.len⟩
theorem Inv.unwish (I:Inv (X.wish E) pins σ H s):Inv X pins σ H s:=⟨I.ok.unwish,I.os,I.bare,I.base,I.loc,I.cell,I.free,I.freeC,I.pin,I.hok,I.len⟩
theorem SP.unwish {D:pT}{f:Flow}{s':Shared}(h:SP (X.wish E) pins D f s'):SP X pins D f s':=by
 cases f with
 | next=>obtain⟨σ',H',I,q⟩:=h;exact⟨σ',H',I.unwish,q⟩
 | brk=>obtain⟨σ',H',I,q⟩:=h;exact⟨σ',H',I.unwish,q⟩
 | cont=>obtain⟨σ',H',I,q⟩:=h;exact⟨σ',H',I.unwish,q⟩
 | ret u=>obtain⟨v,σ',H',I,r,q⟩:=h;exact⟨v,σ',H',I.unwish,r,q⟩
theorem PSs.nox {st:List Stmt}{t:TS}(h:PSs X.nox st t):PSs X st t:=λpins s σ H D I hw=>
 wpAny_mono (h pins s σ H D (I.wish _) hw) (λ_ _ q=>q.unwish) λ_ _ z=>False.elim z
end
section
variable {X:Cx}{st:Stmt}{rest:List Stmt}{t u:TS}{e:Expr}{te:TE}{pos:Pos}
def DA:TS:=λD σ H=>D.nx σ H
def tSeq (t u:TS):TS:=λD σ H=>t { D with nx:=u D } σ H
theorem zS:PSs X [] DA:=λ_ _ σ H _ I h=>wpAny_execs_nil ⟨σ,H,I,h⟩
theorem wR (h1:PS X st t)(h2:PSs X rest u):PSs X (st::rest) (tSeq t u):=by
 intro pins s σ H D I h;refine wpAny_execs_cons (cv (h1 pins s σ H { D with nx:=u D } I h) λf s1 q=> ?_)
 cases f with
 | next=>
  obtain⟨σ',H',I',q⟩:=q
  exact h2 pins s1 σ' H' D I' q
 | ret v=>exact q
 | brk=>exact q
 | cont=>exact q
theorem zR (h1:PS X st t):PSs X [st] t:=by
 intro pins s σ H D I h;refine wpAny_execs_cons (cv (h1 pins s σ H D I h) λf s1 q=> ?_)
 cases f with
 | next=>exact wpAny_execs_nil q
 | ret v=>exact q
 | brk=>exact q
 | cont=>exact q
def DF:TS:=λD σ H=>D.ct σ H
theorem qI:PS X (.Continue pos) DF:=λ_ _ σ H _ I h=>wpAny_Continue ⟨σ,H,I,h⟩
theorem Inv.quiet {pins:List (Addr×Obj)}{σ:St}{H:Hp}{s:Shared}(I:Inv X pins σ H s):interactive X.env=false:=by simp[interactive,I.ok.kind]
def DD (te:TE):TS:=λD σ H=>te σ H λ_ H1=>D.nx σ H1
theorem oN (he:PE X e te)(hs:swapsWith e none pos.line X.env=pure false:=by rfl):PS X (.Expr e pos) (DD te):=by
 intro pins s σ H D I h;exact wpAny_Expr_any (cv (he pins s σ H _ I h) λv s1 ⟨x,H1,I1,r1,q1⟩=>⟨σ,H1,I1,q1⟩) I.quiet hs
def tRet (te:TE):TS:=λD σ H=>te σ H D.rt
theorem Cc (he:PE X e te):PS X (.Return (some e) pos) (tRet te):=by
 intro pins s σ H D I h;exact wpAny_Return_some (cv (he pins s σ H _ I h) λv s1 ⟨x,H1,I1,r1,q1⟩=>⟨x,σ,H1,I1,r1,q1⟩)
def tIfS (c:TT)(t u:TS):TS:=λD σ H=>c σ H λb H1=>if b=true then t D σ H1 else u D σ H1
theorem Eb {c:Expr}{a b:List Stmt}{tc:TT}(hc:PT X c tc)(ha:PSs X a t)(hb:PSs X b u):PS X (.If c a b pos) (tIfS tc t u):=by
 intro pins s σ H D I h;refine wpAny_If (cv (hc pins s σ H _ I h) λd s1 hh_=> ?_)
 obtain⟨H1,I1,q1⟩:=hh_
 cases d with
 | true=>exact ha pins s1 σ H1 D I1 q1
 | false=>exact hb pins s1 σ H1 D I1 q1
end
abbrev TG:=V->St->Hp->(St->Hp->Prop)->Prop
abbrev AO:=List V->St->Hp->(St->Hp->Prop)->Prop
def PG (X:Cx)(target:Expr)(t:TG):Prop:=
 ∀(pins:List (Addr×Obj)) (s:Shared) (σ:St) (H:Hp) (v:V) (u:Value) (Q:St->Hp->Prop),Inv X pins σ H s->RelV v u->t v σ H Q →
  wpAny (model X.prog X.w) X.A (assign target X.env u) (λ_ s'=> ∃σ' H',Inv X pins σ' H' s'/\Q σ' H') X.xe s
def PGs (X:Cx)(ts:List Expr)(t:AO):Prop:=
 ∀(pins:List (Addr×Obj)) (s:Shared) (σ:St) (H:Hp) (vs:List V) (us:List Value) (Q:St->Hp->Prop),Inv X pins σ H s->Vals vs us->t vs σ H Q →
  wpAny (model X.prog X.w) X.A (assignInOrder ((assignEach ts X.env).map (·.2)) us) (λ_ s'=> ∃σ' H',Inv X pins σ' H' s'/\Q σ' H') X.xe s
section
variable {X:Cx}{pos:Pos}
def x8 (i:Nat):TG:=λv σ H Q=>Q (σ.set i (some v)) H
theorem z8 {i:Nat}{x:Str}(hN:X.N.Nodup)(hi:X.N[i]? =some x)(hx:Loc X.env.scope x)(hf:X.fn x=true\/X.env.scope.names.lookup x=some .local:=by first | exact .inl rfl | exact .inr rfl | assumption):PG X (.Name x pos) (x8 i):=by
 intro pins s σ H v u Q I r h;exact wpAny_assign_Name (qk I hN hi hx r (λs' I'=>⟨_,H,I',h⟩) hf)
def gNil:AO:=λvs σ H Q=>vs= []/\Q σ H
def EI (t:TG)(u:AO):AO:=λvs σ H Q=> ∃v r,vs=v::r/\t v σ H λσ' H'=>u r σ' H' Q
theorem zZ:PGs X [] gNil:=by
 intro pins s σ H vs us Q I r h;obtain⟨e,h⟩:=h;subst e;cases r;exact assignInOrder_nil ⟨σ,H,I,h⟩
theorem wX {e:Expr}{es:List Expr}{t:TG}{u:AO}(h1:PG X e t)(h2:PGs X es u)
  (hs:(assignEach (e::es) X.env).map (·.2)=assign e X.env::(assignEach es X.env).map (·.2):=by rfl):PGs X (e::es) (EI t u):=by
 intro pins s σ H vs us Q I r h;obtain⟨v,vr,e1,h⟩:=h;subst e1
 cases r with
 | cons r rr=>
  rw[hs];refine assignInOrder_cons (cv (h1 pins s σ H _ _ _ I r h) λ_ s1 hh_=> ?_)
  obtain⟨σ1,H1,I1,q1⟩:=hh_;exact h2 pins s1 σ1 H1 _ _ Q I1 rr q1
def gTup (K:PySem.W.Frag)(n:Nat)(t:AO):TG:=λv σ H Q=> ∃a xs,v= .ref a/\SqT K H a xs/\xs.length=n/\t xs σ H Q
theorem Cg {es:List Expr}{k:Nat}{t:AO}{n:Nat}(hc:X.calm=true)(h:PGs X es t)
  (hn:(assignEach es X.env).length=n:=by rfl) (hst:(assignEach es X.env).findIdx? (·.1)=none:=by rfl):PG X (.Tuple es k pos) (gTup X.K n t):=by
 intro pins s σ H v u Q I r hw;obtain⟨a,xs,e1,hq,hl,hw⟩:=hw;subst e1;cases r;obtain⟨its,rv,ht,hz⟩:=I.tuple hq;refine assign_Tuple_tuple (I.ok.hd hc) ht (by simp[hn,<-hl,rv.length]) hst λh' hx=> ?_
 have I1:Inv X pins σ H { s with heap:=h' }:=I.kept (t':=s.toks) λb o e=>hx b o (Nat.ne_of_lt (Heap.lt_size e)) e
 exact h pins _ σ H xs _ Q I1 (by simpa using rv) hw
def wv (te:TE)(g:TG):TS:=λD σ H=>te σ H λx H1=>g x σ H1 D.nx
theorem Cd {tg e:Expr}{te:TE}{g:TG}(he:PE X e te)(hg:PG X tg g)(hs:swapsWithSole [tg] e pos.line X.env=pure false:=by rfl)(hw:swappedStores [tg] e X.env=pure none:=by rfl)
  (h1:(assignEach [tg] X.env).map (·.2)= [assign tg X.env]:=by rfl):PS X (.Assign [tg] e pos) (wv te g):=by
 intro pins s σ H D I h;refine wpAny_Assign_stores (cv (he pins s σ H _ I h) λv s1 ⟨x,H1,I1,r1,q1⟩=> ?_) hs hw
 rw[h1];exact cv (hg pins s1 σ H1 x v _ I1 r1 q1) λ_ s2 q=>q
theorem oM {i:Nat}{x:Str}{e:Expr}{te:TE}{pos':Pos}(hN:X.N.Nodup)(hi:X.N[i]? =some x)(hx:Loc X.env.scope x)(he:PE X e te)(hs:swapsWith e (some (.Name x pos')) pos.line X.env=pure false:=by rfl)(hf:X.fn x=true\/X.env.scope.names.lookup x=some .local:=by first | exact .inl rfl | exact .inr rfl | assumption) :
  PS X (.Assign [.Name x pos'] e pos) (wv te (x8 i)):=by
 intro pins s σ H D I h;refine wpAny_Assign_Name (cv (he pins s σ H _ I h) λv s1 ⟨y,H1,I1,r1,q1⟩=> ?_) hs
 exact qk I1 hN hi hx r1 (λs2 I2=>⟨_,H1,I2,q1⟩) hf
end
section
variable {X:Cx}{pos:Pos}
def r8 (c:TT)(tb:TS):TS:=λD σ H=> ∃W:Nat->St->Hp->Prop,(∃m,W m σ H)/\∀m σ H,W m σ H →
 c σ H λb H1=>if b=true then ∃N:St->Hp->Prop,(∀σ' H',N σ' H'->∃m',m'<m/\W m' σ' H')/\tb { D with nx:=N,ct:=N,bk:=D.nx } σ H1 else D.nx σ H1
theorem wS {c:Expr}{body:List Stmt}{tc:TT}{tb:TS}(hp:PassesOwn (model X.prog X.w) X.A X.env X.xe)(hc:PT X c tc)(hb:PSs X body tb):PS X (.While c body [] pos) (r8 tc tb):=by
 intro pins s σ H D I h;obtain⟨W,⟨m0,w0⟩,turn⟩:=h;refine wpAny_While (codeAny_whileLoop (λn s'=> ∃σ' H',Inv X pins σ' H' s'/\W n σ' H') ?_ m0 ⟨σ,H,I,w0⟩)
 rintro n s1 ⟨σ1,H1,I1,w1⟩
 refine wpAny_passesOwn hp (cv (hc pins s1 σ1 H1 _ I1 (turn n σ1 H1 w1)) λb s2 hh_=> ?_)
 obtain⟨H2,I2,q2⟩:=hh_
 cases b with
 | true=>
  obtain⟨N,hN,q2⟩:=q2;rw[if_pos rfl];refine wpAny_passesOwn hp (cv (hb pins s2 σ1 H2 _ I2 q2) λf s3 q3=> ?_)
  cases f with
  | next=>
   obtain⟨σ3,H3,I3,n3⟩:=q3;obtain⟨m',hm,w3⟩:=hN σ3 H3 n3
   exact⟨m',hm,σ3,H3,I3,w3⟩
  | cont=>
   obtain⟨σ3,H3,I3,n3⟩:=q3;obtain⟨m',hm,w3⟩:=hN σ3 H3 n3
   exact⟨m',hm,σ3,H3,I3,w3⟩
  | brk=>exact q3
  | ret v=>exact q3
 | false=>
  rw[if_neg Bool.false_ne_true];exact wpAny_execs_nil ⟨σ1,H2,I2,q2⟩
end
structure It where
 go:Nat->Hp->Prop
 yld:Nat->Hp->V->Hp->Prop
 stop:Nat->Hp->Prop
def jp (X:Cx)(pins:List (Addr×Obj))(H:Hp)(b:Addr):Prop:=
 H b=none/\b≠X.env.locals/\b∉X.fs/\(b∈X.ex\/X.s₀.heap.objs.size<=b)/\(∀x c,X.env.cells.lookup x=some c->c≠b)/\∀p∈X.pn++pins,p.1≠b
theorem Inv.fpOk {X:Cx}{pins:List (Addr×Obj)}{σ:St}{H H':Hp}{s:Shared}{b:Addr}(I:Inv X pins σ H s)(hb:s.heap.objs.size<=b)(hn:H' b=none):jp X pins H' b:=by
 refine⟨hn,Nat.ne_of_gt (Nat.lt_of_lt_of_le I.lt hb),I.nofs hb,.inr (Nat.le_trans I.sz hb),λx c e z=> ?_,λp hp z=> ?_⟩
 ·obtain⟨v,q⟩:=I.cell x c e
  exact absurd (Nat.lt_of_lt_of_le q.lt (by rw[z];exact hb)) (Nat.lt_irrefl _)
 ·exact absurd (Nat.lt_of_lt_of_le (Heap.lt_size (I.pin p hp).1) (by rw[z];exact hb)) (Nat.lt_irrefl _)
structure tf (P:Program)(w:World)(K:PySem.W.Frag)(tg:Expr)(J:It)(fp:List Addr)(it:Addr)(tn:Nat->Heap->Prop):Prop where
 mem:it∈fp
 obj:∀i h,tn i h->∀b∈fp,∃o,h.get? b=some o/\∀v,o.data≠ .cell v
 keep:∀i h h',tn i h->(∀b∈fp,∀o,h.get? b=some o->h'.get? b=some o)->tn i h'
 item:∀(X:Cx),X.prog=P->X.w=w->X.K=K->X.calm=true->∀(i:Nat) (pins:List (Addr×Obj)) (s:Shared) (σ:St) (H:Hp) (E:Value->Shared->Prop),Inv X pins σ H s->(∀b∈fp,jp X pins H b)->tn i s.heap->J.go i H →
  wpAny (model P w) X.A (pyNext (.ref it)) (λr s1=> ∃u,r=some u ∧
   wpAny (model P w) X.A (letOwnedTupleGo tg (.ref it) u) (λ_ s2=> ∃x H',Inv X pins σ H' s2/\RelV x u/\J.yld i H x H'/\tn (i+1) s2.heap/\∀b∈fp,H' b=none) E s1) E s
 done:∀(X:Cx),X.prog=P->X.w=w->X.K=K->X.calm=true->∀(i:Nat) (pins:List (Addr×Obj)) (s:Shared) (σ:St) (H:Hp) (E:Value->Shared->Prop),Inv X pins σ H s->(∀b∈fp,jp X pins H b)->tn i s.heap->J.stop i H →
  wpAny (model P w) X.A (pyNext (.ref it)) (λr s1=>r=none/\Inv X pins σ H s1) E s
 self:∀(A:Around) (i:Nat) (s:Shared) (Q:Value->Shared->Prop) (E:Value->Shared->Prop),tn i s.heap->Q (.ref it) s->wpAny (model P w) A (pyIter (.ref it)) Q E s
abbrev TI:=St->Hp->(It->Hp->Prop)->Prop
def PIE (X:Cx)(pins:List (Addr×Obj))(σ:St)(tg:Expr)(R:It->Hp->Prop)(itv:Value)(s2:Shared):Prop:=
 ∃(it:Addr) (fp:List Addr) (tn:Nat->Heap->Prop) (J:It) (H':Hp),itv= .ref it/\Inv X pins σ H' s2/\tf X.prog X.w X.K tg J fp it tn/\tn 0 s2.heap/\(∀b∈fp,jp X pins H' b)/\R J H'
def PI (X:Cx)(tg iter:Expr)(wi:TI):Prop:=
 ∀(pins:List (Addr×Obj)) (s:Shared) (σ:St) (H:Hp) (R:It->Hp->Prop),Inv X pins σ H s->wi σ H R →
  wpAny (model X.prog X.w) X.A (eval iter X.env) (λv s1=>wpAny (model X.prog X.w) X.A (pyIter v) (PIE X pins σ tg R) X.xe s1) X.xe s
theorem uo {M:Model}{A:Around}{E:Value->Shared->Prop}{s:Shared}{tg:Expr}{it:Addr}{u:Value}{o:Obj}{n:String}{vs:Array Value}{Q:Unit->Shared->Prop}(ho:s.heap.get? it=some o)(hc:o.cls= .type n)(hd:o.data= .fields vs)
  (hn:["enumerate","zip","dict_itemiterator","dict_reverseitemiterator","odict_iterator","itertools.zip_longest","itertools.pairwise"].contains n=false) (hQ:Q () s):wpAny M A (letOwnedTupleGo tg (.ref it) u) Q E s:=by
 unfold letOwnedTupleGo
 cases tg <;> first
  | exact wpAny_pure hQ
  | (cases u <;> first
    | exact wpAny_pure hQ
    | (refine wpAny_bind (wpAny_load ho ?_)
       rw[hc,hd]
       show wpAny M A (if (["enumerate","zip","dict_itemiterator","dict_reverseitemiterator","odict_iterator","itertools.zip_longest","itertools.pairwise"].contains n&&vs[0]? == some (rawInt _))=true then _ else _) Q E s
       rw[if_neg (by intro h;rw[hn,Bool.false_and]at h;cases h)]
       exact wpAny_pure hQ))
def Itl (K:PySem.W.Frag)(a:Addr):It:=
 ⟨λi H=> ∃xs x,SqL K H a xs/\xs[i]? =some x,λi H x H'=>H'=H/\∀xs,SqL K H a xs->xs[i]? =some x,λi H=> ∃xs,SqL K H a xs/\xs.length<=i⟩
def Itt (K:PySem.W.Frag)(a:Addr):It:=
 ⟨λi H=> ∃xs x,SqT K H a xs/\xs[i]? =some x,λi H x H'=>H'=H/\∀xs,SqT K H a xs->xs[i]? =some x,λi H=> ∃xs,SqT K H a xs/\xs.length<=i⟩
def Itr (lo:Int)(n:Nat):It:=⟨λi _=>i<n,λi H x H'=>H'=H/\x= .int (lo+i),λi _=>n<=i⟩
theorem uU {P:Program}{w:World}{K:PySem.W.Frag}{tg:Expr}(a it:Addr):tf P w K tg (Itl K a) [it] it (λi h=>h.IsListIter it a i) where
 mem:=by simp
 obj:=λi h st b hb=>by
  have e:b=it:=by simpa using hb
  subst e;obtain⟨o,e,c,d⟩:=st;exact⟨o,e,λv z=>by rw[d]at z;cases z⟩
 keep:=λi h h' st k=>st.at λo e=>k it (by simp) o e
 item:=by
  intro X hP hw hK hc i pins s σ H E I hf st hg;subst hP hw hK;obtain⟨xs,x,hq,hx⟩:=hg;obtain⟨its,rv,p,hz⟩:=I.list hq;obtain⟨u,hu,ru⟩:=rv.get hx;obtain⟨f0,f1,f2,f3,f4,f5⟩:=hf it (by simp)
  refine wpAny_pyNext_list_item st p.isList (x:=u) (by simpa using hu) λh' st' sb=> ?_
  have I1:Inv X pins σ H { s with heap:=h' }:=I.turned (t':=s.toks) (λb o hb e=>(sb.2 b hb).trans e) f0 f1 f3 f4 f5
  obtain⟨o,e,c,d⟩:=id st';exact⟨u,rfl,uo (s:={ s with heap:=h' }) e c d (by decide) ⟨x,H,I1,ru,⟨rfl,λys hy=>by rw[I.list_inj hy hq];exact hx⟩,st',λb hb=>(hf b hb).1⟩⟩
 done:=by
  intro X hP hw hK hc i pins s σ H E I hf st hg;subst hP hw hK;obtain⟨xs,hq,hx⟩:=hg;obtain⟨its,rv,p,hz⟩:=I.list hq;obtain⟨f0,f1,f2,f3,f4,f5⟩:=hf it (by simp)
  have hl:=rv.length;exact wpAny_pyNext_list_end (I.ok.hd hc) st p.isList (by simp;omega) λh' eb=>⟨rfl,I.turned (t':=s.toks) (λb o hb e=>eb b o hb e) f0 f1 f3 f4 f5⟩
 self:=λ_ _ _ _ _ st h=>wpAny_pyIter_listiter st h
theorem rY {P:Program}{w:World}{K:PySem.W.Frag}{tg:Expr}(a it:Addr):tf P w K tg (Itt K a) [it] it (λi h=>h.IsTupleIter it a i) where
 mem:=by simp
 obj:=λi h st b hb=>by
  have e:b=it:=by simpa using hb
  subst e;obtain⟨o,e,c,d⟩:=st;exact⟨o,e,λv z=>by rw[d]at z;cases z⟩
 keep:=λi h h' st k=>st.at λo e=>k it (by simp) o e
 item:=by
  intro X hP hw hK hc i pins s σ H E I hf st hg;subst hP hw hK;obtain⟨xs,x,hq,hx⟩:=hg;obtain⟨its,rv,p,hz⟩:=I.tuple hq;obtain⟨u,hu,ru⟩:=rv.get hx;obtain⟨f0,f1,f2,f3,f4,f5⟩:=hf it (by simp)
  refine wpAny_pyNext_tuple_item st (show s.heap.IsTuple a its.toArray from p) (x:=u) (by simpa using hu) λh' st' sb=> ?_
  have I1:Inv X pins σ H { s with heap:=h' }:=I.turned (t':=s.toks) (λb o hb e=>(sb.2 b hb).trans e) f0 f1 f3 f4 f5
  obtain⟨o,e,c,d⟩:=id st';exact⟨u,rfl,uo (s:={ s with heap:=h' }) e c d (by decide) ⟨x,H,I1,ru,⟨rfl,λys hy=>by rw[I.tuple_inj hy hq];exact hx⟩,st',λb hb=>(hf b hb).1⟩⟩
 done:=by
  intro X hP hw hK hc i pins s σ H E I hf st hg;subst hP hw hK;obtain⟨xs,hq,hx⟩:=hg;obtain⟨its,rv,p,hz⟩:=I.tuple hq;obtain⟨f0,f1,f2,f3,f4,f5⟩:=hf it (by simp)
  have hl:=rv.length;exact wpAny_pyNext_tuple_end (I.ok.hd hc) st (show s.heap.IsTuple a its.toArray from p) (by simp;omega) λh' eb=>⟨rfl,I.turned (t':=s.toks) (λb o hb e=>eb b o hb e) f0 f1 f3 f4 f5⟩
 self:=λ_ _ _ _ _ st h=>wpAny_pyIter_tupleiter st h
theorem rZ {P:Program}{w:World}{K:PySem.W.Frag}{tg:Expr}(it:Addr)(lo:Int)(n:Nat):tf P w K tg (Itr lo n) [it] it (λi h=>IsRangeIter h it (lo+(i:Nat)*1) ((n:Int) - (i:Nat)) 1) where
 mem:=by simp
 obj:=λi h st b hb=>by
  have e:b=it:=by simpa using hb
  subst e
  exact⟨_,st,λv z=>by
   have z':Data.fields _=Data.cell v:=z;cases z'⟩
 keep:=λi h h' st k=>k it (by simp) _ st
 item:=by
  intro X hP hw hK hc i pins s σ H E I hf st hg;subst hP hw hK;obtain⟨f0,f1,f2,f3,f4,f5⟩:=hf it (by simp)
  have W:=Walks.range (prog:=X.prog) (w:=X.w) (I.ok.hd hc) it lo 1 n;refine W.item i s _ _ hg st λv h' tk hv st' kk=> ?_
  obtain⟨t,rfl⟩:=hv
  have I1:Inv X pins σ H { s with heap:=h',toks:=tk }:=I.turned (λb o hb e=>kk b o (by simpa using hb) e) f0 f1 f3 f4 f5
  refine⟨_,rfl,uo (s:={ s with heap:=h',toks:=tk }) (n:="range_iterator") st' rfl rfl (by decide) ⟨.int (lo+i),H,I1,⟨t,?_⟩,⟨rfl,rfl⟩,st',λb hb=>(hf b hb).1⟩⟩
  rw[Int.mul_one]
 done:=by
  intro X hP hw hK hc i pins s σ H E I hf st hg;subst hP hw hK;obtain⟨f0,f1,f2,f3,f4,f5⟩:=hf it (by simp)
  exact wpAny_pyNext_range_end (I.ok.hd hc) st (by have:n<=i:=hg;omega) λh' eb=>⟨rfl,I.turned (t':=s.toks) (λb o hb e=>eb b o hb e) f0 f1 f3 f4 f5⟩
 self:=λ_ _ _ _ _ st h=>wpAny_pyIter_rangeiter st h
section
variable {X:Cx}{tg:Expr}
def EG (K:PySem.W.Frag)(tl:TE):TI:=λσ H R=>tl σ H λx H1=> ∃a,x= .ref a/\(∃xs,SqL K H1 a xs)/\R (Itl K a) H1
def iTup (K:PySem.W.Frag)(tl:TE):TI:=λσ H R=>tl σ H λx H1=> ∃a,x= .ref a/\(∃xs,SqT K H1 a xs)/\R (Itt K a) H1
theorem zX {l:Expr}{tl:TE}(hl:PE X l tl):PI X tg l (EG X.K tl):=by
 intro pins s σ H R I h;refine cv (hl pins s σ H _ I h) λv s1 hh_=> ?_
 obtain⟨x,H1,I1,r1,q1⟩:=hh_;obtain⟨a,e,⟨xs,hq⟩,q⟩:=q1;subst e;cases r1;obtain⟨its,rv,p,hz⟩:=I1.list hq;refine wpAny_pyIter_list p.isList ?_
 refine⟨s1.heap.objs.size,[s1.heap.objs.size],_,_,H1,rfl,I1.kept (t':=s1.toks) λb o e=>Heap.get?_push_of_some _ e,uU a _,⟨_,Heap.get?_push_size _ rfl,rfl,rfl⟩,λb hb=> ?_,q⟩
 have e:b=s1.heap.objs.size:=by simpa using hb
 subst e;exact I1.fpOk (Nat.le_refl _) (I1.hok.fresh (Nat.le_refl _))
theorem Cf {l:Expr}{tl:TE}(hl:PE X l tl):PI X tg l (iTup X.K tl):=by
 intro pins s σ H R I h;refine cv (hl pins s σ H _ I h) λv s1 hh_=> ?_
 obtain⟨x,H1,I1,r1,q1⟩:=hh_;obtain⟨a,e,⟨xs,hq⟩,q⟩:=q1;subst e;cases r1;obtain⟨its,rv,p,hz⟩:=I1.tuple hq;refine wpAny_pyIter_tuple (show s1.heap.IsTuple a its.toArray from p) ?_
 refine⟨s1.heap.objs.size,[s1.heap.objs.size],_,_,H1,rfl,I1.kept (t':=s1.toks) λb o e=>Heap.get?_push_of_some _ e,rY a _,⟨_,Heap.get?_push_size _ rfl,rfl,rfl⟩,λb hb=> ?_,q⟩
 have e:b=s1.heap.objs.size:=by simpa using hb
 subst e;exact I1.fpOk (Nat.le_refl _) (I1.hok.fresh (Nat.le_refl _))
theorem jF {pins:List (Addr×Obj)}{σ:St}{H:Hp}{s:Shared}{R:It->Hp->Prop}{E:Value->Shared->Prop}{lo hi:Int}{t u v:Tok}{tk:Nat}(I:Inv X pins σ H s)(h1 : -(2 ^ 62)<=lo)(h2:lo<2 ^ 62)(h3 : -(2 ^ 62)<=hi)(h4:hi<2 ^ 62)
  (q:R (Itr lo (hi - lo).toNat) H):wpAny (model X.prog X.w) X.A (pyIter (.ref s.heap.objs.size)) (PIE X pins σ tg R) E { s with heap:=s.heap.push { cls:=.type "range",data:=.fields #[.int lo t,.int hi u,.int 1 v] },toks:=tk }:=by
 refine wpAny_pyIter_range (IsRange.new ..) (small_one h1 h2 h3 h4) ?_
 have I1:Inv X pins σ H { s with heap:=s.heap.push { cls:=.type "range",data:=.fields #[.int lo t,.int hi u,.int 1 v] },toks:=tk }:=I.kept λb o e=>Heap.get?_push_of_some _ e
 refine⟨(s.heap.push { cls:=.type "range",data:=.fields #[.int lo t,.int hi u,.int 1 v] }).objs.size,[(s.heap.push { cls:=.type "range",data:=.fields #[.int lo t,.int hi u,.int 1 v] }).objs.size],_,_,H,rfl,
  I1.kept (t':=tk) λb o e=>Heap.get?_push_of_some _ e,rZ _ lo (hi - lo).toNat,?_,λb hb=> ?_,q⟩
 ·have e1:lo+((0:Nat):Int)*1=lo:=by simp
  have e2:(((hi - lo).toNat:Nat):Int) - ((0:Nat):Int)=Builtin.Range.rangeSize lo hi 1:=by rw[rangeSize_one];split <;> omega
  show IsRangeIter _ _ (lo+((0:Nat):Int)*1) ((((hi - lo).toNat:Nat):Int) - ((0:Nat):Int)) 1
  rw[e1,e2];exact Heap.get?_push_size _ rfl
 ·have e:b=(s.heap.push { cls:=.type "range",data:=.fields #[.int lo t,.int hi u,.int 1 v] }).objs.size:=by simpa using hb
  subst e;exact I1.fpOk (Nat.le_refl _) (I1.hok.fresh (Nat.le_refl _))
def tFor (wi:TI)(g:TG)(tb:TS):TS:=λD σ H=>wi σ H λJ H1=> ∃W:Nat->Nat->St->Hp->Prop,(∃m,W 0 m σ H1)/\∀i m σ H,W i m σ H →
 (J.stop i H/\D.nx σ H)\/(J.go i H/\∃N:St->Hp->Prop,(∀σ' H',N σ' H'->∃m',m'<m/\W (i+1) m' σ' H')/\∀x H',J.yld i H x H'->g x σ H' λσ2 H2=>tb { D with nx:=N,ct:=N,bk:=D.nx } σ2 H2)
def lN (fp:List Addr)(h:Heap):List (Addr×Obj):=fp.filterMap λb=>(h.get? b).map λo=>(b,o)
theorem gD {fp:List Addr}{h:Heap}{b:Addr}{o:Obj}(hb:b∈fp)(e:h.get? b=some o):(b,o)∈lN fp h:=List.mem_filterMap.mpr ⟨b,hb,by rw[e];rfl⟩
theorem ve {fp:List Addr}{h:Heap}{p:Addr×Obj}(hp:p∈lN fp h):p.1∈fp/\h.get? p.1=some p.2:=by
 obtain⟨b,hb,e⟩:=List.mem_filterMap.mp hp
 cases q:h.get? b with
 | none=>rw[q]at e;cases e
 | some o=>
  rw[q]at e
  have e':(b,o)=p:=Option.some.inj e;subst e';exact⟨hb,q⟩
theorem Inv.pinned {pins:List (Addr×Obj)}{σ:St}{H:Hp}{s:Shared}{fp:List Addr}(I:Inv X pins σ H s)(hf:∀b∈fp,jp X pins H b)(ho:∀b∈fp,∃o,s.heap.get? b=some o/\∀v,o.data≠ .cell v):Inv X (pins++lN fp s.heap) σ H s:=
 I.pins_of λp hp=>(List.mem_append.mp hp).elim (λz=>I.pin p (List.mem_append_right _ z)) λz=>by
  obtain⟨hb,e⟩:=ve z;obtain⟨f0,f1,f2,_⟩:=hf p.1 hb;obtain⟨o,e',d⟩:=ho p.1 hb;rw[e]at e';cases e';exact⟨e,f0,f1,f2,d⟩
theorem Inv.unpinned {pins pl:List (Addr×Obj)}{σ:St}{H:Hp}{s:Shared}(I:Inv X (pins++pl) σ H s):Inv X pins σ H s:=I.pins_of λp hp=>I.pin p (List.mem_append_right _ (List.mem_append_left _ hp))
end
abbrev R2:=V->V->Hp->VK->Prop
def og (X:Cx)(f:Value->Value->Sem Value)(r:R2):Prop:=
 ∀(pins:List (Addr×Obj)) (s:Shared) (σ:St) (H:Hp) (x y:V) (v u:Value) (Q:VK),Inv X pins σ H s->RelV x v->RelV y u->r x y H Q →
  wpAny (model X.prog X.w) X.A (f v u) (EP X pins σ Q) X.xe s
def UnR (X:Cx)(f:Value->Sem Value)(r:V->Hp->VK->Prop):Prop:=
 ∀(pins:List (Addr×Obj)) (s:Shared) (σ:St) (H:Hp) (x:V) (v:Value) (Q:VK),Inv X pins σ H s->RelV x v->r x H Q →
  wpAny (model X.prog X.w) X.A (f v) (EP X pins σ Q) X.xe s
def CallR (X:Cx)(f:Value)(r:List V->Hp->VK->Prop):Prop:=
 ∀(pins:List (Addr×Obj)) (s:Shared) (σ:St) (H:Hp) (xs:List V) (us:List Value) (Q:VK),Inv X pins σ H s->Vals xs us->r xs H Q →
  wpAny (model X.prog X.w) X.A (call f us) (EP X pins σ Q) X.xe s
def tUn (r:V->Hp->VK->Prop)(ta:TE):TE:=λσ H Q=>ta σ H λx H1=>r x H1 Q
def rI (C:Int->Int->Prop)(g:Int->Int->V):R2:=λx y H Q=> ∃i j,x= .int i/\y= .int j/\C i j/\Q (g i j) H
def A6 (g:Int->Int->V):R2:=λx y H Q=> ∃i j,x= .int i/\y= .int j/\Q (g i j) H
def rU (g:Int->V):V->Hp->VK->Prop:=λx H Q=> ∃i,x= .int i/\Q (g i) H
section
variable {X:Cx}{a b c:Expr}{ta tb tc:TE}{pos:Pos}
theorem Ed {op:UnaryOp}{r:V->Hp->VK->Prop}(ho:UnR X (unaryOp op) r)(ha:PE X a ta):PE X (.UnaryOp op a pos) (tUn r ta):=by
 intro pins s σ H Q I h;exact UnaryOp_ (cv (ha pins s σ H _ I h) λv s1 ⟨x,H1,I1,r1,q1⟩=>ho pins s1 σ H1 x v Q I1 r1 q1)
theorem opI {f:Value->Value->Sem Value}{C:Int->Int->Prop}{g:Int->Int->Int}
  (rule:∀(i j:Int) (t u:Tok) (s:Shared) (Q:Value->Shared->Prop) (E:Value->Shared->Prop),C i j->Q (.int (g i j) s.toks) { s with toks:=s.toks+1 }->wpAny (model X.prog X.w) X.A (f (.int i t) (.int j u)) Q E s) :
  og X f (rI C λi j=> .int (g i j)):=by
 intro pins s σ H x y v u Q I rx ry h;obtain⟨i,j,rfl,rfl,hc,q⟩:=h;obtain⟨t,rfl⟩:=rx;obtain⟨t',rfl⟩:=ry;exact rule i j t t' s _ _ hc ⟨.int (g i j),H,I.tok _,⟨_,rfl⟩,q⟩
theorem Em {f:Value->Value->Sem Value}{g:Int->Int->Int}
  (rule:∀(i j:Int) (t u:Tok) (s:Shared) (Q:Value->Shared->Prop) (E:Value->Shared->Prop),Q (.int (g i j) s.toks) { s with toks:=s.toks+1 }->wpAny (model X.prog X.w) X.A (f (.int i t) (.int j u)) Q E s) :
  og X f (A6 λi j=> .int (g i j)):=by
 intro pins s σ H x y v u Q I rx ry h;obtain⟨i,j,rfl,rfl,q⟩:=h;obtain⟨t,rfl⟩:=rx;obtain⟨t',rfl⟩:=ry;exact rule i j t t' s _ _ ⟨.int (g i j),H,I.tok _,⟨_,rfl⟩,q⟩
theorem Cz {f:Value->Value->Sem Value}{g:Int->Int->Bool}
  (rule:∀(i j:Int) (t u:Tok) (s:Shared) (Q:Value->Shared->Prop) (E:Value->Shared->Prop),Q (.bool (g i j)) s->wpAny (model X.prog X.w) X.A (f (.int i t) (.int j u)) Q E s) :
  og X f (A6 λi j=> .bl (g i j)):=by
 intro pins s σ H x y v u Q I rx ry h;obtain⟨i,j,rfl,rfl,q⟩:=h;obtain⟨t,rfl⟩:=rx;obtain⟨t',rfl⟩:=ry;exact rule i j t t' s _ _ ⟨.bl (g i j),H,I,rfl,q⟩
def CDiv (i j:Int):Prop:=0<j/\j<1073741824
def CMul (i j:Int):Prop:=(-(2 ^ 64)<i/\i<2 ^ 64)\/(-(2 ^ 64)<j/\j<2 ^ 64)
theorem CMul.ok {i j:Int}(h:CMul i j):IntMulOk i j:=by
 rcases h with⟨h1,h2⟩ | ⟨h1,h2⟩
 ·exact .of_left (intBits_le_64 h1 h2)
 ·exact .of_right (intBits_le_64 h1 h2)
theorem Cy:og X (binaryOp .Add) (A6 λi j=> .int (i+j)):=Em λ_ _ _ _ _ _ _ q=>add_int q
theorem Cq:og X (binaryOp .Sub) (A6 λi j=> .int (i - j)):=Em λ_ _ _ _ _ _ _ q=>sub_int q
theorem Ct:og X (binaryOp .Mult) (rI CMul λi j=> .int (i*j)):=opI λ_ _ _ _ _ _ _ hc q=>mul_int q hc.ok
theorem Ae:og X (binaryOp .FloorDiv) (rI CDiv λi j=> .int (i / j)):=opI λi j _ _ _ _ _ hc q=>by
 have h1:(0:Int)<j:=hc.1
 have h2:j<1073741824:=hc.2;exact floordiv_int (by omega) (by rw[Int.fdiv_eq_ediv_of_nonneg i (by omega)];exact q) (.inl (PyProof.noPylong_small (by omega)))
theorem Cu:og X (binaryOp .Mod) (rI (λ_ j=>0<j) λi j=> .int (i % j)):=opI λi j _ _ _ _ _ hc q=>by
 have h1:(0:Int)<j:=hc;exact mod_int' (by omega) (by rw[Int.fmod_eq_emod_of_nonneg i (by omega)];exact q)
theorem unI {f:Value->Sem Value}{g:Int->Int}
  (rule:∀(i:Int) (t:Tok) (s:Shared) (Q:Value->Shared->Prop) (E:Value->Shared->Prop),Q (.int (g i) s.toks) { s with toks:=s.toks+1 }->wpAny (model X.prog X.w) X.A (f (.int i t)) Q E s) :
  UnR X f (rU λi=> .int (g i)):=by
 intro pins s σ H x v Q I rx h;obtain⟨i,rfl,q⟩:=h;obtain⟨t,rfl⟩:=rx;exact rule i t s _ _ ⟨.int (g i),H,I.tok _,⟨_,rfl⟩,q⟩
theorem Bs:UnR X (unaryOp .USub) (rU λi=> .int (-i)):=unI λ_ _ _ _ _ q=>neg_int q
end
section
variable {X:Cx}{a b c:Expr}{ta tb tc:TE}{pos:Pos}
theorem yf {pins:List (Addr×Obj)}{σ:St}{H:Hp}{s:Shared}{Q:VK}{k k':Bool}(I:Inv X pins σ H s)(q:Q (.bl k) H)(e:k=k'):EP X pins σ Q (.bool k') s:=by
 subst e;exact⟨.bl k,H,I,rfl,q⟩
theorem Ej:og X (compareOp .Lt) (A6 λi j=> .bl (decide (i<j))):=Cz λ_ _ _ _ _ _ _ q=>lt_int q
theorem Ek:og X (compareOp .LtE) (A6 λi j=> .bl (decide (i<=j))):=Cz λ_ _ _ _ _ _ _ q=>le_int q
theorem El:og X (compareOp .Gt) (A6 λi j=> .bl (decide (j<i))):=Cz λ_ _ _ _ _ _ _ q=>gt_int q
theorem Cv:og X (compareOp .Is) (λx y H Q=>y= .non/\Q (.bl (decide (x= .non))) H):=by
 intro pins s σ H x y v u Q I rx ry h;obtain⟨rfl,q⟩:=h;cases ry;refine is_none_gen (yf I q ?_)
 cases x <;> first
  | (cases rx;rfl)
  | (obtain⟨t,rfl⟩:=rx;rfl)
theorem Ad:og X (compareOp .IsNot) (λx y H Q=>y= .non/\Q (.bl (!decide (x= .non))) H):=by
 intro pins s σ H x y v u Q I rx ry h;obtain⟨rfl,q⟩:=h;cases ry;refine isnot_none_gen (yf I q ?_)
 cases x <;> first
  | (cases rx;rfl)
  | (obtain⟨t,rfl⟩:=rx;rfl)
theorem l0:(sizeLine:Nat)<2 ^ 63:=by rw[sizeLine_eq];decide
theorem sr:og X (binaryOp .Add) (λx y H Q=> ∃i j,x= .str i/\y= .str j/\i.length+j.length<=sizeLine/\Q (.str (i++j)) H):=by
 intro pins s σ H x y v u Q I rx ry h;obtain⟨i,j,rfl,rfl,hz,q⟩:=h;obtain⟨t,rfl⟩:=rx;obtain⟨t',rfl⟩:=ry;exact add_str (λt' tk=>⟨.str (i++j),H,I.tok _,⟨_,rfl⟩,q⟩) hz
theorem iU {x:V}{us:List Value}(r:Vals [x] us):∃u,us= [u]/\RelV x u:=by
 cases r with
 | cons r1 r2=>cases r2;exact⟨_,rfl,r1⟩
theorem wg {x y:V}{us:List Value}(r:Vals [x,y] us):∃u w',us= [u,w']/\RelV x u/\RelV y w':=by
 cases r with
 | cons r1 r2=>
  cases r2 with
  | cons r3 r4=>cases r4;exact⟨_,_,rfl,r1,r3⟩
theorem vN (hc:X.calm=true):CallR X (.builtin "max") (λxs H Q=> ∃i j,xs= [.int i,.int j]/\Q (.int (if j > i then j else i)) H):=by
 intro pins s σ H xs us Q I r h;obtain⟨i,j,rfl,q⟩:=h;obtain⟨u,w',rfl,⟨t,rfl⟩,⟨t',rfl⟩⟩:=wg r;refine max_two_ints (I.ok.hd hc) λh' tk k=>⟨_,H,I.kept k,?_,q⟩
 by_cases hj:j > i
 ·rw[if_pos hj,if_pos hj];exact⟨_,rfl⟩
 ·rw[if_neg hj,if_neg hj];exact⟨_,rfl⟩
theorem vM (hc:X.calm=true):CallR X (.builtin "min") (λxs H Q=> ∃i j,xs= [.int i,.int j]/\Q (.int (if j<i then j else i)) H):=by
 intro pins s σ H xs us Q I r h;obtain⟨i,j,rfl,q⟩:=h;obtain⟨u,w',rfl,⟨t,rfl⟩,⟨t',rfl⟩⟩:=wg r;refine min_two_ints (I.ok.hd hc) λh' tk k=>⟨_,H,I.kept k,?_,q⟩
 by_cases hj:j<i
 ·rw[if_pos hj,if_pos hj];exact⟨_,rfl⟩
 ·rw[if_neg hj,if_neg hj];exact⟨_,rfl⟩
theorem vO:CallR X (.type "int") (λxs H Q=>(∃i,xs= [.int i]/\Q (.int i) H)\/∃k,xs= [.bl k]/\Q (.int (if k then 1 else 0)) H):=by
 intro pins s σ H xs us Q I r h;rcases h with⟨i,rfl,q⟩ | ⟨k,rfl,q⟩
 ·obtain⟨u,rfl,t,rfl⟩:=iU r
  exact call_int_int ⟨.int i,H,I,⟨_,rfl⟩,q⟩
 ·obtain⟨u,rfl,r1⟩:=iU r
  cases r1;exact call_int_bool ⟨.int (if k then 1 else 0),H,I.tok _,⟨_,rfl⟩,q⟩
end
structure ObjM (h:Heap)(x dx C:Addr)(mA:Str->Option Value):Prop where
 obj:h.get? x=some (PySem.W.instObj C dx)
 ns:h.Ns1 dx mA
 ne:dx≠x
theorem vm {h:Heap}{dx:Addr}{mA:Str->Option Value}(n:h.Ns1 dx mA):∃od,h.get? dx=some od/\∀name,PySem.W.lookIn name od=some (mA name):=by
 obtain⟨o,es,ep,ho,hd,hk,_,hm⟩:=n;refine⟨o,ho,λname=> ?_⟩
 have e:=hm name;unfold nsFind findBy at e;rw[<-Array.find?_toList]at e
 unfold PySem.W.lookIn;rw[hd]
 dsimp only
 split
 ·rename_i y q
  rw[q]at e;exact congrArg some e
 ·rename_i q
  rw[q]at e
  have a:es.toList.any (·.refKey)=false:=by
   rw[List.any_eq_false];intro y hy;obtain⟨z,t,hkey⟩:=hk y (Array.mem_toList_iff.mp hy);simp[DictEntry.refKey,hkey]
  have a':¬ es.toList.any (·.refKey)=true:=by rw[a];exact Bool.false_ne_true
  rw[if_neg a'];exact congrArg some e
theorem ObjM.look {h:Heap}{x dx C:Addr}{mA:Str->Option Value}(I:ObjM h x dx C mA):∃od,PySem.W.InstAt h x (PySem.W.instObj C dx) C (some od)/\∀name,PySem.W.lookIn name od=some (mA name):=
 let ⟨od,ho,hl⟩:=vm I.ns
 ⟨od,⟨I.obj,rfl,rfl,ho⟩,hl⟩
theorem RelO.some_of {v:V}{o:Option Value}(r:RelO (some v) o):∃u,o=some u/\RelV v u:=by
 cases o with
 | none=>exact(show False from r).elim
 | some u=>exact⟨u,rfl,r⟩
section
variable {P:Program}{w:World}{H H':Hp}{h h':Heap}{a C dx:Addr}{fs fs':List (Str×V)}
theorem Au (hok:HOk P w H h)(e:H a=some (.ins C dx fs)):∃mA,ObjM h a dx C mA/\(∀f,RelO (fs.lookup f) (mA f))/\PySem.Within mA (fs.map (·.1))/\fs.length<=1000/\H dx=some (.own a):=by
 obtain⟨d,z,ne,ob,mA,n,r,q⟩:=(show ObjOk P w H h a (.ins C dx fs)from hok a _ e)
 exact⟨mA,⟨ob,n,ne⟩,r,q,z,d⟩
end
structure Cls (K:PySem.W.Frag)(C:Addr):Prop where
 pg:PySem.W.plainGet K C Str.empty=true
 hd:PySem.W.hasDictIn K C=true
 po:PySem.W.plainOver K C=true
 sa:PySem.W.findIn K (.ref C) "__setattr__" =some (some (.builtin "object.__setattr__"))
theorem Cls.get {K:PySem.W.Frag}{C:Addr}(c:Cls K C)(f:Str):PySem.W.plainGet K C f=true:=c.pg
section
variable {X:Cx}{pins:List (Addr×Obj)}{σ:St}{H:Hp}{s:Shared}{A:Around}{E:Value->Shared->Prop}{Q:Value->Shared->Prop}{c:Value}{b:Bool}
inductive kx (K:PySem.W.Frag) (H:Hp):V->Value->Prop where
 | non:kx K H .non (.type "NoneType")
 | bl (x:Bool):kx K H (.bl x) (.type "bool")
 | int (i:Int):kx K H (.int i) (.type "int")
 | str (x:Str):kx K H (.str x) (.type "str")
 | flt (x:UInt64):kx K H (.flt x) (.type "float")
 | lst {a:Addr} {xs:List V} (e:H a=some (.lst xs)):kx K H (.ref a) (.type "list")
 | frz {a:Addr} {o:Obj} {xs:List V} (e:H a=some (.frz o (.lst xs))):kx K H (.ref a) (.type "list")
 | tup {a:Addr} {xs:List V} (e:H a=some (.tup xs)):kx K H (.ref a) (.type "tuple")
 | dK {a:Addr} {kvs:List (Key×V)} (e:H a=some (.dK kvs)):kx K H (.ref a) (.type "dict")
 | dT {a:Addr} {kvs:List (List Key×V)} (e:H a=some (.dT kvs)):kx K H (.ref a) (.type "dict")
 | ins {a C dx:Addr} {fs:List (Str×V)} (e:H a=some (.ins C dx fs)) (cl:Cls K C) (ha:PySem.W.findIn K (.ref C) "__class__" =some (some (.builtin "object.__class__")))
   (hn:PySem.W.specialIn K (.builtin "object.__class__") "__get__" =some (some (.builtin "getset_descriptor.__get__"))) (htk:PySem.W.takesIn K (.builtin "object.__class__")=some true)
   (hm:PySem.W.mroIn K C (.type "object")=some true):kx K H (.ref a) (.ref C)
theorem vt {x:V}{u t:Value}(I:Inv X pins σ H s)(rx:RelV x u)(ty:kx X.K H x t)(e:PySem.W.kitOne X.K t c=some b)(h:∀tk,Q (.bool b) { s with toks:=tk }) :
  wpAny (model X.prog X.w) A (call (.builtin "isinstance") [u,c]) Q E s:=by
 cases ty with
 | non=>cases (show u=Value.none from rx);exact PySem.W.kia_one PySem.W.kitx_none I.kIn True.intro e (λz=>nomatch z) h
 | bl y=>cases (show u=Value.bool y from rx);exact PySem.W.kia_one PySem.W.kitx_bool I.kIn True.intro e (λz=>nomatch z) h
 | int i=>obtain⟨t,q⟩:=(show ∃t,u=Value.int i t from rx);cases q;exact PySem.W.kia_one PySem.W.kitx_int I.kIn True.intro e (λz=>nomatch z) h
 | str y=>obtain⟨t,q⟩:=(show ∃t,u=Value.str y t from rx);cases q;exact PySem.W.kia_one PySem.W.kitx_str I.kIn True.intro e (λz=>nomatch z) h
 | flt y=>obtain⟨t,q⟩:=(show ∃t,u=Value.float y t from rx);cases q;exact PySem.W.kia_one PySem.W.kitx_float I.kIn True.intro e (λz=>nomatch z) h
 | @lst a xs ea=>
  cases (show u=Value.ref a from rx)
  obtain⟨_,_,n,_,h1⟩:=(show ObjOk X.prog X.w H s.heap a (.lst xs)from I.hok a _ ea)
  exact PySem.W.kia_one PySem.W.kitx_list I.kIn ⟨_,h1,rfl⟩ e (λz=>nomatch z) h
 | @frz a ob xs ea=>
  cases (show u=Value.ref a from rx)
  obtain⟨_,_,_,n,_,h1⟩:=(show ObjOk X.prog X.w H s.heap a (.frz ob (.lst xs))from I.hok a _ ea)
  exact PySem.W.kia_one PySem.W.kitx_list I.kIn ⟨_,h1,rfl⟩ e (λz=>nomatch z) h
 | @tup a xs ea=>
  cases (show u=Value.ref a from rx)
  obtain⟨_,_,_,p⟩:=(show ObjOk X.prog X.w H s.heap a (.tup xs)from I.hok a _ ea)
  obtain⟨o,h1,h2,_⟩:=p
  exact PySem.W.kia_one PySem.W.kitx_tuple I.kIn ⟨o,h1,h2⟩ e (λz=>nomatch z) h
 | @dK a kvs ea=>
  cases (show u=Value.ref a from rx)
  obtain⟨_,_,vs,_,p⟩:=(show ObjOk X.prog X.w H s.heap a (.dK kvs)from I.hok a _ ea)
  obtain⟨o,es,ep,h1,h2,_⟩:=p
  exact PySem.W.kia_one PySem.W.kitx_dict I.kIn ⟨o,h1,h2.1⟩ e (λz=>nomatch z) h
 | @dT a kvs ea=>
  cases (show u=Value.ref a from rx)
  obtain⟨_,_,xs,_,o,es,ep,h1,h2,_⟩:=(show ObjOk X.prog X.w H s.heap a (.dT kvs)from I.hok a _ ea)
  exact PySem.W.kia_one PySem.W.kitx_dict I.kIn ⟨o,h1,h2.1⟩ e (λz=>nomatch z) h
 | @ins a C dx fs ea cl ha hn htk hm=>
  cases (show u=Value.ref a from rx)
  obtain⟨mA,O,_⟩:=Au I.hok ea;obtain⟨od,J,_⟩:=O.look;exact PySem.W.kia_one (PySem.W.kitx_own (cl.get _) cl.hd ha hn htk hm) I.kIn J e (λz=>nomatch z) h
end
structure Room (k:Nat)(A:Around):Prop where
 hd:A.handled=none
 dp:A.depth+3*k+5<recursionLimit
 un:A.units+16*k+200<cLine
theorem Room.mono {j k:Nat}{A:Around}(r:Room k A)(h:j<=k):Room j A:=⟨r.hd,by have:=r.dp;omega,by have:=r.un;omega⟩
theorem Room.deeper {k:Nat}{A:Around}(r:Room (k+1) A)(env:Env):Room k (A.deeper env):=
 ⟨r.hd,by have:=r.dp;show A.depth+1+3*k+5<_;omega,by have:=r.un;show A.units+3+16*k+200<_;omega⟩
theorem Room.depth {k:Nat}{A:Around}(r:Room k A):A.depth<recursionLimit:=by have:=r.dp;omega
def wu:TA:=λ_ H Q=>Q [] H
def jv (ta:TE)(tr:TA):TA:=λσ H Q=>ta σ H λx H1=>tr σ H1 λxs H2=>Q (x::xs) H2
section
variable {X:Cx}{e:Expr}{es:List Expr}{te:TE}{t:TA}{pos:Pos}
theorem g9:PA X [] wu:=λ_ _ _ _ H Q I h=>Calls.spliced_nil ⟨[],H,I,.nil,h⟩
theorem dU (ha:PE X e te)(hr:PA X es t)(hs:starEach (e::es) X.env=(false,eval e X.env)::starEach es X.env:=by rfl):PA X (e::es) (jv te t):=by
 intro pos pins s σ H Q I h;rw[hs]
 show wpAny _ _ (spliced ((false,eval e X.env)::backTo pos (starEach es X.env))) _ _ s
 refine Calls.spliced_cons (cv (ha pins s σ H _ I h) λu s1 hh_=> ?_)
 obtain⟨x,H1,I1,r1,q1⟩:=hh_;exact cv (hr pos pins s1 σ H1 _ I1 q1) λus s2 ⟨xs,H2,I2,r2,q2⟩=>⟨x::xs,H2,I2,.cons r1 r2,q2⟩
def zi (t:TA):TE:=λσ H Q=>t σ H λxs H1=>xs.length<=sizeLine/\∀p,H1 p=none->Q (.ref p) (upd H1 p (.tup xs))
def tLst (t:TA):TE:=λσ H Q=>t σ H λxs H1=>xs.length<=sizeLine/\∀p,H1 p=none->Q (.ref p) (upd H1 p (.lst xs))
theorem sk {x1}(h:PA X es t):PE X (.Tuple es x1 pos) (zi t):=by
 intro pins s σ H Q I hq;refine wpAny_Tuple_spliced (cv (h pos pins s σ H _ I hq) λus s1 ⟨xs,H1,I1,r,z,q⟩=>⟨by rw[<-r.length];exact z,?_⟩)
 have hf:H1 s1.heap.objs.size=none:=I1.hok.fresh (Nat.le_refl _);refine⟨.ref s1.heap.objs.size,upd H1 s1.heap.objs.size (.tup xs),I1.laid (t':=s1.toks) (λb u e=>Heap.get?_push_of_some _ e) (Nat.le_refl _) ?_,rfl,q _ hf⟩
 exact⟨z,us,r,⟨_,Heap.get?_push_size _ rfl,rfl,_,rfl⟩⟩
theorem Cm (h:PA X es t):PE X (.List es pos) (tLst t):=by
 intro pins s σ H Q I hq;refine wpAny_List_spliced (cv (h pos pins s σ H _ I hq) λus s1 ⟨xs,H1,I1,r,z,q⟩=>⟨by rw[<-r.length];exact z,?_⟩)
 have hf:H1 s1.heap.objs.size=none:=I1.hok.fresh (Nat.le_refl _);refine⟨.ref s1.heap.objs.size,upd H1 s1.heap.objs.size (.lst xs),I1.laid (t':=s1.toks) (λb u e=>Heap.get?_push_of_some _ e) (Nat.le_refl _) ?_,rfl,q _ hf⟩
 exact⟨z,us,0,r,Heap.get?_push_size _ rfl⟩
end
abbrev Sp:=List V->Hp->VK->XK->Prop
abbrev yT:=List Env->Hp->Shared->XK->Value->Shared->Prop
structure yO (P:Program)(w:World)(K:PySem.W.Frag)(mg:Str->Option Value)(base:Heap)(A:Around)(outer:List Env)(s:Shared)(H:Hp):Prop where
 frames:A.frames=some outer
 mod:Mod K mg base
 bs:∀b o,base.get? b=some o->s.heap.get? b=some o/\H b=none
 bsz:base.objs.size<=s.heap.objs.size
 funs:s.heap.FunFrames base outer
 frf:∀b∈pB outer,H b=none
 hok:HOk P w H s.heap
 bare:AllBare s.gens
def CE (outer:List Env)(P:Program)(w:World)(H:Hp)(s:Shared)(Q:VK)(u:Value)(s':Shared):Prop:=
 ∃v H',s'.os=s.os/\AllBare s'.gens/\Un (pB outer) [] H H' s.heap s'.heap/\HOk P w H' s'.heap/\RelV v u/\Q v H'
def CR (CX:yT)(outer:List Env)(P:Program)(w:World)(H:Hp)(s:Shared)(Q:VK)(E:XK)(r:Result)(s':Shared):Prop:=
 match r with
 | .ok (.ret u)=>CE outer P w H s Q u s'
 | .ok _=>False
 | .error e=>CX outer H s E e s'
structure pP (P:Program)(w:World)(K:PySem.W.Frag)(mg:Str->Option Value)(base:Heap)(CX:yT)(k:Nat)(f:Addr)(fd:FuncData)(ps:List Str)(sp:Sp):Prop where
 len:∀vs H Q E,sp vs H Q E->vs.length=ps.length
 run:∀(A:Around) (outer:List Env) (s:Shared) (H:Hp) (args:Args) (us:List Value) (vs:List V) (Q:VK) (E:XK),Room k A->yO P w K mg base A outer s H->BindsTo s fd args (ps.zip us)->Vals vs us->sp vs H Q E →
  codeAny (model P w) A (.call (.ref f) args) (CR CX outer P w H s Q E) s
section
variable {X:Cx}{pins:List (Addr×Obj)}{σ:St}{H:Hp}{s s':Shared}
theorem Inv.env0 (I:Inv X pins σ H s):yO X.prog X.w X.K X.mg X.base X.A X.stack s H:=
 ⟨I.ok.frames,I.ok.mod,I.bs,Nat.le_trans I.ok.bsz I.sz,I.stack,I.stkFree,I.hok,I.bare⟩
theorem Inv.after {Q:VK}{u:Value}(I:Inv X pins σ H s)(h:CE X.stack X.prog X.w H s Q u s'):EP X pins σ Q u s':=by
 obtain⟨v,H',os,bare,un,hok,r,q⟩:=h;obtain⟨hh,g,d,t,os'⟩:=s';obtain rfl:os'=s.os:=os;exact⟨v,H',I.call (h':=hh) (g':=g) (d':=d) (t':=t) (ch:=[]) un hok bare (λb z=>absurd z (by simp)),r,q⟩
end
def DG (sp:Sp)(dvs:List V)(E:XK)(t:TA):TE:=λσ H Q=>t σ H λvs H1=>sp (vs++dvs) H1 Q E
def Binds (K:PySem.W.Frag)(fd:FuncData)(ps:List Str)(ds:List Value):Prop:=
 ∀(s:Shared) (us:List Value),K.In s.heap->(us++ds).length=ps.length->BindsTo s fd ⟨us,[]⟩ (ps.zip (us++ds))
theorem Binds.all {K:PySem.W.Frag}{fd:FuncData}{ps:List Str}(h:∀us:List Value,us.length=ps.length->bindArgs fd ⟨us,[]⟩=pure (ps.zip us)):Binds K fd ps []:=λs us _ hl=>by
 rw[List.append_nil]at hl ⊢;exact .of_eq (h us hl)
def tj (CX:yT)(X:Cx)(E:XK):Prop:=∀(pins:List (Addr×Obj)) (σ:St) (H:Hp) (s:Shared) (e:Value) (s':Shared),Inv X pins σ H s->CX X.stack H s E e s'->X.xe e s'
section
variable {X:Cx}{CX:yT}{k:Nat}{f C:Addr}{fd:FuncData}{ps:List Str}{sp:Sp}{dvs:List V}{ds:List Value}{E:XK}{x m:Str}{p pos apos:Pos}{e o:Expr}{es:List Expr}{ta:TE}{t:TA}
theorem BF {pins:List (Addr×Obj)}{σ:St}{H:Hp}{s:Shared}{Q:VK}{us:List Value}{vs:List V}(F:pP X.prog X.w X.K X.mg X.base CX k f fd ps sp)(hr:Room k X.A)(hb:Binds X.K fd ps ds)(hd:Vals dvs ds)(hx:tj CX X E)
  (I:Inv X pins σ H s) (r:Vals vs us) (h:sp (vs++dvs) H Q E):wpAny (model X.prog X.w) X.A (call (.ref f) us) (EP X pins σ Q) X.xe s:=by
 have r2:Vals (vs++dvs) (us++ds):=r.append hd
 have hl:(us++ds).length=ps.length:=by rw[<-r2.length];exact F.len _ _ _ _ h
 refine wpAny_call (codeAny_mono (F.run X.A X.stack s H ⟨us,[]⟩ (us++ds) (vs++dvs) Q E hr I.env0 (hb s us I.kIn hl) r2 h) λr s' hq=> ?_)
 cases r with
 | error e=>exact hx pins σ H s e s' I hq
 | ok fl=>
  cases fl with
  | ret u=>exact I.after hq
  | next=>exact False.elim hq
  | brk=>exact False.elim hq
  | cont=>exact False.elim hq
theorem tS (F:pP X.prog X.w X.K X.mg X.base CX k f fd ps sp)(hr:Room k X.A)(hg:Gl X x)(hm:X.mg x=some (.ref f))(hk:PySem.W.keepIn X.K (.ref f)=true)(hb:Binds X.K fd ps ds)(hd:Vals dvs ds)(hx:tj CX X E)
  (ha:PA X (e::es) t) (hdb:(x == ("__debug__" : Str))=false:=by decide) (he:starEach (e::es) X.env=(false,eval e X.env)::starEach es X.env:=by rfl) (hpl:(backTo pos (starEach es X.env)).any (·.1)=false:=by rfl) :
  PE X (.Call (.Name x p) (e::es) [] pos) (DG sp dvs E t):=by
 intro pins s σ H Q I h;refine wpAny_Call_Name_kw (ld I hg hm ?_ hdb)
 refine PySem.W.callWith_K (h₀:=X.base) I.ok.mod.kin hk (cv (ha pos pins s σ H _ I h) λus s1 ⟨vs,H1,I1,r,q⟩=>⟨I1.kIn,?_⟩) he hpl
 exact BF F hr hb hd hx I1 r q
end
structure aG (N P:List Str)(sc:Scope):Prop where
 kind:sc.kind= .function
 co:sc.isCoroutine=false
 gen:sc.isGenerator=false
 nd:N.Nodup
 pre:N.take P.length=P
 par:∀x∈P,sc.names.lookup x=some .local\/sc.names.lookup x=some .cell
 nofree:∀y∈sc.names,y.2≠ .free
theorem nY {kindOf:Str->Option NameKind}{x:Str}:∀{binds:List (Str×Value)} {m:Str->Option Value},(∀v,(x,v)∉binds)->bindL kindOf binds m x=m x
 | [],_,_=>rfl
 | (n,v)::r,m,h=>by
  unfold bindL;rw[nY λw hw=>h w (List.mem_cons_of_mem _ hw)]
  split
  ·have:x≠n:=by rintro rfl;exact h v List.mem_cons_self
   simp[this]
  ·rfl
theorem n4 {kindOf:Str->Option NameKind}{x:Str}:∀{binds:List (Str×Value)} {m:Str->Option Value},(∀v,(x,v)∉binds)->bindC kindOf binds m x=m x
 | [],_,_=>rfl
 | (n,v)::r,m,h=>by
  unfold bindC;rw[n4 λw hw=>h w (List.mem_cons_of_mem _ hw)]
  split
  ·rfl
  ·have:x≠n:=by rintro rfl;exact h v List.mem_cons_self
   simp[this]
theorem nZ {kindOf:Str->Option NameKind}{x:Str}{v:Value}:∀{P:List Str} {vs:List Value} {i:Nat} {m:Str->Option Value},P.Nodup->P[i]? =some x->vs[i]? =some v->kindOf x=some .local →
  bindL kindOf (P.zip vs) m x=some v
 | [],_,_,_,_,h,_,_=>by simp at h
 | _::_,[],_,_,_,_,h,_=>by simp at h
 | p::P,w::vs,0,m,nd,h1,h2,hk=>by
  simp at h1 h2;subst h1;subst h2
  show bindL kindOf ((p,w)::P.zip vs) m p=_
  unfold bindL;rw[nY λv hv=>(List.nodup_cons.mp nd).1 (List.of_mem_zip hv).1,if_pos hk]
  simp
 | p::P,w::vs,i+1,m,nd,h1,h2,hk=>by
  show bindL kindOf ((p,w)::P.zip vs) m x=_
  unfold bindL;exact nZ (i:=i) (List.nodup_cons.mp nd).2 (by simpa using h1) (by simpa using h2) hk
theorem n5 {kindOf:Str->Option NameKind}{x:Str}{v:Value}:∀{P:List Str} {vs:List Value} {i:Nat} {m:Str->Option Value},P.Nodup->P[i]? =some x->vs[i]? =some v->kindOf x≠some .local →
  bindC kindOf (P.zip vs) m x=some v
 | [],_,_,_,_,h,_,_=>by simp at h
 | _::_,[],_,_,_,_,h,_=>by simp at h
 | p::P,w::vs,0,m,nd,h1,h2,hk=>by
  simp at h1 h2;subst h1;subst h2
  show bindC kindOf ((p,w)::P.zip vs) m p=_
  unfold bindC;rw[n4 λv hv=>(List.nodup_cons.mp nd).1 (List.of_mem_zip hv).1,if_neg hk]
  simp
 | p::P,w::vs,i+1,m,nd,h1,h2,hk=>by
  show bindC kindOf ((p,w)::P.zip vs) m x=_
  unfold bindC;exact n5 (i:=i) (List.nodup_cons.mp nd).2 (by simpa using h1) (by simpa using h2) hk
def start (N:List Str)(vs:List V):St:=vs.map some++List.replicate (N.length - vs.length) none
def kr (CX:yT)(P:Program)(w:World)(K:PySem.W.Frag)(mg:Str->Option Value)(base:Heap)(N:List Str)(qual:Str)(scope:Scope)(f:Addr)(cd:Value)(A:Around)(outer:List Env)(s:Shared)(H:Hp)(E:XK):Cx where
 prog:=P
 w:=w
 K:=K
 mg:=mg
 base:=base
 A:=A.deeper (envOfC qual scope s.heap.objs.size f cd)
 N:=N
 s₀:=s
 H₀:=H
 env:=envOfC qual scope s.heap.objs.size f cd
 outer:=outer
 stack:=envOfC qual scope s.heap.objs.size f cd::outer
 ex:=[]
 calm:=true
 fn:=λ_=>true
 pn:=[]
 xe:=λe s'=>wpAny (model P w) (A.deeper (envOfC qual scope s.heap.objs.size f cd)) (leaving (envOfC qual scope s.heap.objs.size f cd) e) (λ_ s''=>CX outer H s E e s'') (λe' s''=>CX outer H s E e' s'') s'
theorem rR {sc:Scope}{n:Nat}{x:Str}(h:sc.names.lookup x=some .cell):∃c,(cellsFrom n sc.names []).lookup x=some c:=by
 have q:=PySem.W.cellsFrom_some sc.names n [] (.inl h);exact Option.isSome_iff_exists.mp q
theorem nQ {CX:yT}{P:Program}{w:World}{K:PySem.W.Frag}{mg:Str->Option Value}{base:Heap}{N ps:List Str}{qual:Str}{scope:Scope}{f:Addr}{cd:Value}{A:Around}{outer:List Env}{s s1:Shared}{H:Hp}{E:XK}{us:List Value}{vs:List V}
  (S:aG N ps scope) (hd:A.handled=none) (e0:yO P w K mg base A outer s H) (hl:vs.length=ps.length) (r:Vals vs us)
  (x:InCallC s s.heap.objs.size (bindL (envOfC qual scope s.heap.objs.size f cd).kindOf (ps.zip us) λ_=>none) (cellsFrom (s.heap.objs.size+1) scope.names []) (bindC (envOfC qual scope s.heap.objs.size f cd).kindOf (ps.zip us) λ_=>none) s1) :
  Inv (kr CX P w K mg base N qual scope f cd A outer s H E) [] (start N vs) H s1:=by
 have hpl:ps.length<=N.length:=by have:=congrArg List.length S.pre;rw[List.length_take]at this;omega
 obtain⟨h1,tk,rfl,hk⟩:=x.done
 have noA:∀b:Addr,b∉(kr CX P w K mg base N qual scope f cd A outer s H E).ex:=λb z=>absurd (show b∈([]:List Addr)from z) (by simp)
 refine⟨⟨e0.mod,S.kind,rfl,rfl,Nat.le_refl _,λy z c h1 h2=> ?_,λy hy=> ?_,λy c _ h=> ?_,λ_=>hd,Around.frames_deeper e0.frames,.inr ⟨rfl,rfl⟩,λb z=>absurd z (noA b),e0.bs,e0.bsz,λb _ _=>noA b,λb z=>absurd z (noA b),e0.funs,e0.frf⟩,
  rfl,e0.bare,Un.kept hk,⟨_,x.toInCall.ns,λi y v h1 h2 h3=> ?_⟩,λy c h=>⟨_,x.cell y c h⟩,e0.hok.fresh (Nat.le_refl _),λy c h=> ?_,λp hp=>absurd (show p∈([]:List (Addr×Obj))from hp) (by simp),e0.hok.kept hk,?_⟩
 ·exact name_of_addr x.apart (PySem.mem_of_lookup h1) (PySem.mem_of_lookup h2)
 ·have hy:scope.names.lookup y=some .cell\/scope.names.lookup y=some .free:=hy
  rcases hy with hy | hy
  ·exact rR hy
  ·exact absurd rfl (S.nofree _ (PySem.mem_of_lookup hy))
 ·exact Nat.le_of_lt (x.above y c (PySem.mem_of_lookup h))
 ·have hi:i<vs.length:=by
   unfold start at h2
   by_cases hi:i<vs.length
   ·exact hi
   ·rw[List.getElem?_append_right (by simpa using hi)]at h2
    rw[List.getElem?_replicate]at h2
    split at h2 <;> cases h2
  have ha:vs[i]? =some v:=by
   unfold start at h2;rw[List.getElem?_append_left (by simpa using hi),List.getElem?_map]at h2
   cases e:vs[i]? with
   | none=>rw[e]at h2;cases h2
   | some a=>rw[e]at h2;cases h2;rfl
  obtain⟨u,hu,rv⟩:=r.get ha
  have hp:ps[i]? =some y:=by
   rw[<-S.pre,List.getElem?_take_of_lt (by omega)];exact h1
  have ndP:ps.Nodup:=by rw[<-S.pre];exact S.nd.sublist (List.take_sublist _ _)
  refine⟨u,rv,?_⟩
  rcases S.par y (List.mem_of_getElem? hp)with k | k
  ·exact .inl ⟨k,nZ ndP hp hu k⟩
  ·obtain⟨c,e⟩:=rR (n:=s.heap.objs.size+1) k
   refine .inr ⟨.inl k,c,e,?_⟩
   have q:=x.cell y c e;rw[n5 ndP hp hu (by show scope.names.lookup y≠_;rw[k];decide)]at q
   exact q
 ·exact e0.hok.fresh (Nat.le_of_lt (x.above y c (PySem.mem_of_lookup h)))
 ·unfold start
  show _=N.length
  rw[List.length_append,List.length_map,List.length_replicate];omega
theorem EK {CX:yT}{P:Program}{w:World}{K:PySem.W.Frag}{mg:Str->Option Value}{base:Heap}{k:Nat}{f:Addr}{name qual:Str}{params:Arguments}{body:List Stmt}{scope:Scope}{dV kV doc pm cdv ct oc:Value}{an od:Option Addr}
  {osl:Array (Option Value)} {N ps:List Str} {sp:Sp} (lk:K.lookup f=some ⟨oc,od,.func (PySem.W.fnOf name qual params body scope dV kV doc pm an cdv ct),osl⟩) (hcd:PySem.W.codeIn K cdv qual=true) (S:aG N ps scope)
  (len:∀vs H Q E,sp vs H Q E->vs.length=ps.length)
  (hbody:∀(A:Around) (outer:List Env) (s:Shared) (H:Hp) (vs:List V) (Q:VK) (E:XK),Room k (A.deeper (envOfC qual scope s.heap.objs.size f cdv))->sp vs H Q E →
   ∃t,PSs (kr CX P w K mg base N qual scope f cdv A outer s H E) body t/\t { nx:=λ_ H'=>Q .non H',rt:=Q } (start N vs) H) :
  pP P w K mg base CX (k+1) f (PySem.W.fnOf name qual params body scope dV kV doc pm an cdv ct) ps sp:=by
 refine⟨len,λA outer s H args us vs Q E hr e0 hb r hsp=> ?_⟩
 have hl:=len _ _ _ _ hsp
 have KX:K.In s.heap:=e0.mod.kin.keeps λb o e=>(e0.bs b o e).1
 have lim:s.heap.NoLimit:=e0.mod.nolimit.keeps λb o e=>(e0.bs b o e).1
 have hkind:∀y∈ps.zip us,scope.names.lookup y.1=some .local\/(scope.names.lookup y.1=some .cell/\((cellsFrom (s.heap.objs.size+1) scope.names []).lookup y.1).isSome=true):=λ⟨n,v⟩ hy=>by
  rcases S.par n (List.of_mem_zip hy).1 with q | q
  ·exact .inl q
  ·exact .inr ⟨q,PySem.W.cellsFrom_some _ _ _ (.inl q)⟩
 refine codeAny_call_function hr.depth (KX _ _ lk) rfl S.co S.gen rfl (PySem.W.codeRec_of KX hcd) (hb _ _ _ _ ?_)
 refine wpAny_newFunctionEnv_cells S.kind hkind λenv he s1 x=> ?_
 subst he;refine⟨lim.keeps x.toInCall.keep,codeAny_func ?_⟩
 obtain⟨t,ht,hq⟩:=hbody A outer s H vs Q E (hr.deeper _) hsp
 have I:Inv (kr CX P w K mg base N qual scope f cdv A outer s H E) [] (start N vs) H s1:=nQ S hr.hd e0 hl r x;refine wpAny_mono (ht [] s1 (start N vs) H _ I hq) (λfl s' hs=> ?_) λe s' hs=>hs
 have fin:∀{σ':St} {H':Hp} {v:V} {u:Value},Inv (kr CX P w K mg base N qual scope f cdv A outer s H E) [] σ' H' s'->RelV v u->Q v H'->CE outer P w H s Q u s':=
  λ{σ' H' v u} J rv q=>⟨v,H',J.os,J.bare,J.base,J.hok,rv,q⟩
 cases fl with
 | ret u=>
  obtain⟨v,σ',H',J,rv,q⟩:=hs
  exact fin J rv q
 | next=>
  obtain⟨σ',H',J,q⟩:=hs
  exact fin (v:=V.non) (u:=Value.none) J rfl q
 | brk=>
  obtain⟨_,_,_,q⟩:=hs
  exact False.elim q
 | cont=>
  obtain⟨_,_,_,q⟩:=hs;exact False.elim q
end L2
namespace HT
open PySem PyProof.Rows
section
variable {prog:Program}{w:World}{A:Around}{E:Value->Shared->Prop}{s:Shared}
theorem cat_tup {t b:Addr}{vs ws:List Value}{Q:Value->Shared->Prop}(ht:IsTup s.heap t vs.toArray)(hb:IsTup s.heap b ws.toArray)(hv:vs≠ [])
  (h1:ws= []->Q (.ref t) s) (h2:ws≠ []->Q (.ref s.heap.objs.size) { s with heap:=s.heap.push { cls:=.type "tuple",data:=.seq (vs++ws).toArray } })
  (hsz:vs.length+ws.length<=sizeLine):wpAny (model prog w) A (binaryOp .Add (.ref t) (.ref b)) Q E s:=by
 obtain⟨⟨cls,dd,data,sl⟩,ho,hc,n,hd⟩:=id ht;obtain⟨⟨cls2,dd2,data2,sl2⟩,ho2,hc2,n2,hd2⟩:=id hb;simp only at hc hd hc2 hd2;subst hc hd hc2 hd2
 have e:vs.toArray++ws.toArray=(vs++ws).toArray:=by simp
 by_cases hw:ws= []
 ·exact concat_meets ⟨_,ho,rfl⟩ ⟨_,ho2,rfl⟩ noFill_tuple_add seq_tuple_add PySem.F.slot_tuple_add PySem.F.entry_tuple_add (PySem.F.args_tuple_add_2 _ _)
   (tuple_addW1 t b vs.toArray ws.toArray n n2 dd dd2 sl sl2 (by simpa using hv) (by simp[hw])) ⟨ho,ho2,h1 hw⟩
 ·refine concat_meets ⟨_,ho,rfl⟩ ⟨_,ho2,rfl⟩ noFill_tuple_add seq_tuple_add PySem.F.slot_tuple_add PySem.F.entry_tuple_add (PySem.F.args_tuple_add_2 _ _)
   (tuple_addW2 t b vs.toArray ws.toArray n n2 dd dd2 sl sl2 (by simpa using hv) (by simpa using hw) (by rw[List.size_toArray,List.size_toArray];exact hsz)) ⟨ho,ho2,?_⟩
  rw[e];exact h2 hw
def sIx (n d:Nat):Option Int->Nat
 | none=>d
 | some v=>if v<0 then(v+(n:Int)).toNat else min v.toNat n
theorem sIx_none (n d:Nat):sIx n d none=d:=rfl
theorem sIx_nat (n d k:Nat):sIx n d (some (k:Int))=min k n:=by
 show(if (k:Int)<0 then((k:Int)+(n:Int)).toNat else min (k:Int).toNat n)=min k n
 rw[if_neg (by omega),Int.toNat_natCast]
theorem BD (n d:Nat)(hd:d<=n)(o:Option Int):sIx n d o<=n:=by
 cases o with
 | none=>exact hd
 | some v=>
  show(if v<0 then(v+(n:Int)).toNat else min v.toNat n)<=n
  by_cases hv:v<0
  ·rw[if_pos hv];omega
  ·rw[if_neg hv];exact Nat.min_le_right _ _
theorem uF (v:Int)(n d:Nat):(if v<0 then max (v+(n:Int)) 0 else min v (n:Int))=((sIx n d (some v):Nat):Int):=by
 show(if v<0 then max (v+(n:Int)) 0 else min v (n:Int))=(((if v<0 then(v+(n:Int)).toNat else min v.toNat n):Nat):Int)
 by_cases hv:v<0
 ·simp only[if_pos hv];omega
 ·simp only[if_neg hv];omega
theorem sZ (lo hi:Option Int)(n:Nat):Builtin.Slice.sliceAdjust lo hi 1 (n:Int)=(((sIx n 0 lo:Nat):Int),((sIx n n hi:Nat):Int)):=by
 have h1:¬ ((1:Int)<0):=by omega
 unfold Builtin.Slice.sliceAdjust;simp only[h1,if_false];refine Prod.ext ?_ ?_
 ·cases lo with
  | none=>rfl
  | some v=>exact uF v n 0
 ·cases hi with
  | none=>rfl
  | some v=>exact uF v n n
theorem sj (i j:Nat):Builtin.Slice.slicePlaces (i:Int) (j:Int) 1=j - i:=by
 unfold Builtin.Slice.slicePlaces
 have h1:(1:Int) > 0:=by omega
 simp only[h1,if_true,Int.ediv_one]
 split <;> omega
theorem lI {v:Value}{o:Option Int}{Q:Option Int->Shared->Prop}(p:IsPart v o)(h:Q o s):wpAny (model prog w) A (Builtin.Slice.slicePartIndex v) Q E s:=by
 cases p with
 | none=>exact slicePart_none h
 | int i t=>exact slicePart_int h
theorem gm {sl:Addr}{vl vu:Value}{lo hi:Option Int}{n:Nat}{Q:Int×Int×Nat->Shared->Prop}(hs:s.heap.IsSliceOf sl vl vu .none)(pl:IsPart vl lo)(pu:IsPart vu hi)
  (h:Q (((sIx n 0 lo:Nat):Int),1,sIx n n hi - sIx n 0 lo) s):wpAny (model prog w) A (Builtin.Slice.sliceApplied (.ref sl) (pure (n:Int))) Q E s:=by
 obtain⟨os,hos,hcs,hds⟩:=id hs;unfold Builtin.Slice.sliceApplied Builtin.Slice.sliceFields;refine wpAny_bind (wpAny_bind (wpAny_field hos hds (x:=vl) rfl (wpAny_bind (wpAny_field hos hds (x:=vu) rfl (wpAny_bind (wpAny_field hos hds (x:=.none) rfl (wpAny_pure ?_)))))))
 refine wpAny_bind (slicePart_none ?_)
 show wpAny _ _ (if ((1:Int) == 0)=true then _ else _) _ _ s
 rw[if_neg (by decide)]
 refine wpAny_bind (lI pl (wpAny_bind (lI pu (wpAny_bind (wpAny_pure ?_)))))
 show wpAny _ _ (match Builtin.Slice.sliceAdjust lo hi 1 (n:Int)with | (lo,hi)=>pure (lo,(1:Int),Builtin.Slice.slicePlaces lo hi 1)) _ _ s
 rw[sZ lo hi n]
 show wpAny _ _ (pure (((sIx n 0 lo:Nat):Int),(1:Int),Builtin.Slice.slicePlaces ((sIx n 0 lo:Nat):Int) ((sIx n n hi:Nat):Int) 1)) _ _ s
 rw[sj];exact wpAny_pure h
theorem wV (xs:Array Value)(i k:Nat):((List.range k).filterMap λ(m:Nat)=>xs[((i:Int)+(m:Int)*1).toNat]?).toArray=((xs.toList.drop i).take k).toArray:=by
 have e:(λ(m:Nat)=>xs[((i:Int)+(m:Int)*1).toNat]?)=λm=>xs[i+m]?:=by
  funext m
  have:((i:Int)+(m:Int)*1).toNat=i+m:=by omega
  rw[this]
 rw[e]
 have:=pick_run xs i k;rw[List.filterMap_map]at this
 have e2:((λx=>xs[x]?)∘λx=>i+x)=λm=>xs[i+m]?:=rfl
 rw[e2]at this;rw[this]
theorem getItem_tuple_cut {t sl:Addr}{items:Array Value}{vl vu:Value}{lo hi:Option Int}{Q:Value->Shared->Prop}(ht:IsTup s.heap t items)(hs:s.heap.IsSliceOf sl vl vu .none)(pl:IsPart vl lo)(pu:IsPart vu hi)
  (hw:¬ (sIx items.size 0 lo=0/\sIx items.size items.size hi=items.size))
  (h:Q (.ref s.heap.objs.size) { s with heap:=s.heap.push { cls:=.type "tuple",data:=.seq ((items.toList.drop (sIx items.size 0 lo)).take (sIx items.size items.size hi - sIx items.size 0 lo)).toArray } })
  (hsz:items.size<=sizeLine):wpAny (model prog w) A (getItem (.ref t) (.ref sl)) Q E s:=by
 have htake:sizeOk (.seq ((items.toList.drop (sIx items.size 0 lo)).take (sIx items.size items.size hi - sIx items.size 0 lo)).toArray):=by
  show((items.toList.drop (sIx items.size 0 lo)).take (sIx items.size items.size hi - sIx items.size 0 lo)).toArray.size<=sizeLine
  rw[List.size_toArray,List.length_take,List.length_drop,Array.length_toList];omega
 have hj:sIx items.size items.size hi<=items.size:=BD _ _ (Nat.le_refl _) hi;obtain⟨os,hos,hcs,hds⟩:=id hs
 have hTs:s.TypeIs (.ref sl) "slice":=⟨os,hos,hcs⟩;unfold getItem
 try with_reducible refine wpAny_holding ?_
 first | refine wpAny_bind (wpAny_pure ?_) | skip
 refine wpAny_bind (wpAny_sequenceKey ht.typeIs (by decide) ?_)
 refine wpAny_bind (wpAny_callSpecial?_slot (name:=Str.ofString "__getitem__") ht.typeIs PyProof.Rows.slot_tuple_getitem
  (wpAny_call_entry PyProof.Rows.slot_tuple_getitem ht.typeIs entry_tuple_getitem ?_ (args_tuple_getitem _ _)))
 show wpAny _ _ (Builtin.Tuple.tupleItemsOf (.ref t) >>= _) _ _ s
 refine wpAny_bind (tupleItemsOf_ ht ?_)
 refine wpAny_bind (wpAny_typeOf hTs ?_)
 rw[if_pos (by decide)]
 refine wpAny_bind (gm hs pl pu ?_)
 have hno:¬ ((((sIx items.size 0 lo:Nat):Int) == 0&&(1:Int) == 1&&(sIx items.size items.size hi - sIx items.size 0 lo) == items.size)=true):=by
  intro q;rw[Bool.and_eq_true,Bool.and_eq_true]at q
  have q1:((sIx items.size 0 lo:Nat):Int)=0:=eq_of_beq q.1.1
  have q2:sIx items.size items.size hi - sIx items.size 0 lo=items.size:=eq_of_beq q.2;exact hw ⟨by omega,by omega⟩
 show wpAny _ _ (if (((sIx items.size 0 lo:Nat):Int) == 0&&(1:Int) == 1&&(sIx items.size items.size hi - sIx items.size 0 lo) == items.size)=true then _ else _) _ _ s
 rw[if_neg hno,wV]
 first
  | exact wpAny_bind (m:=Builtin.Tuple.tupleExact _) (wpAny_newObj_type (wpAny_pure ⟨_,rfl,wpAny_pure h⟩) htake)
  | exact wpAny_bind (m:=Builtin.Tuple.tupleExact _) (wpAny_newObj_type (wpAny_bind (wpAny_pure (wpAny_pure ⟨_,rfl,wpAny_pure h⟩))) htake)
  | exact wpAny_bind (wpAny_bind (m:=Builtin.Tuple.tupleExact _) (wpAny_newObj_type (wpAny_pure (wpAny_pure ⟨_,rfl,wpAny_pure h⟩)) htake))
  | exact wpAny_bind (wpAny_bind (m:=Builtin.Tuple.tupleExact _) (wpAny_newObj_type (wpAny_pure ⟨_,rfl,wpAny_pure h⟩) htake))
end
end HT
namespace L2
open PySem PySem.Spec PyProof.Rows
abbrev TO:=St->Hp->(Option Int->Hp->Prop)->Prop
def PO (X:Cx)(e:Option Expr)(t:TO):Prop:=
 ∀(pins:List (Addr×Obj)) (s:Shared) (σ:St) (H:Hp) (Q:Option Int->Hp->Prop),Inv X pins σ H s->t σ H Q →
  wpAny (model X.prog X.w) X.A (evalPart e X.env) (λu s'=> ∃o H',Inv X pins σ H' s'/\IsPart u o/\Q o H') X.xe s
def zk:TO:=λ_ H Q=>Q none H
def Dy (t:TE):TO:=λσ H Q=>t σ H λx H1=> ∃i,x= .int i/\Q (some i) H1
theorem sL {ns:List Int}:∀{us:List Value},Vals (ns.map V.int) us->IntsAre us ns:=by
 induction ns with
 | nil=>intro us r;rw[List.map_nil]at r;cases r;exact .nil
 | cons n ns ih=>
  intro us r;rw[List.map_cons]at r
  cases r with
  | cons r1 r2=>
   obtain⟨t,e⟩:=r1;subst e;exact .cons n t (ih r2)
section
variable {X:Cx}{e:Expr}{te:TE}{lo hi:Option Expr}{tl th:TO}{pos p2:Pos}
theorem zV:PO X none zk:=by
 intro pins s σ H Q I h;rw[evalPart_none];exact wpAny_pure ⟨none,H,I,.none,h⟩
theorem zU (h:PE X e te):PO X (some e) (Dy te):=by
 intro pins s σ H Q I hw;rw[evalPart_some];refine cv (h pins s σ H _ I hw) λu s1 hh_=> ?_
 obtain⟨x,H1,I1,r1,q1⟩:=hh_;obtain⟨i,rfl,q⟩:=q1;obtain⟨t,rfl⟩:=r1;exact⟨some i,H1,I1,.int i t,q⟩
def SlR (X:Cx)(r:V->Option Int->Option Int->Hp->VK->Prop):Prop:=
 ∀(pins:List (Addr×Obj)) (s:Shared) (σ:St) (H:Hp) (x:V) (v vl vu:Value) (lo hi:Option Int) (sl:Addr) (Q:VK),Inv X pins σ H s->RelV x v->s.heap.IsSliceOf sl vl vu .none->IsPart vl lo->IsPart vu hi->r x lo hi H Q →
  ∃T id,typeLookup (.type T) "__getitem__" =pure (some (.builtin id))/\s.TypeIs v T/\wpAny (model X.prog X.w) X.A (getItem v (.ref sl)) (EP X pins σ Q) X.xe s
theorem SlR.or {r r':V->Option Int->Option Int->Hp->VK->Prop}(h:SlR X r)(h':SlR X r'):SlR X (λx lo hi H Q=>r x lo hi H Q\/r' x lo hi H Q):=by
 intro pins s σ H x v vl vu lo hi sl Q I rx hs pl pu q;rcases q with q | q
 ·exact h pins s σ H x v vl vu lo hi sl Q I rx hs pl pu q
 ·exact h' pins s σ H x v vl vu lo hi sl Q I rx hs pl pu q
def tSl (r:V->Option Int->Option Int->Hp->VK->Prop)(te:TE)(tl th:TO):TE:=λσ H Q=>te σ H λx H1=>tl σ H1 λl H2=>th σ H2 λu H3=>r x l u H3 Q
theorem wY {r:V->Option Int->Option Int->Hp->VK->Prop}(hr:SlR X r)(he:PE X e te)(hl:PO X lo tl)(hu:PO X hi th):PE X (.Subscript e (.Slice lo hi none p2) pos) (tSl r te tl th):=by
 intro pins s σ H Q I h;refine Subscript_ (cv (he pins s σ H _ I h) λv s1 hh_=> ?_)
 obtain⟨x,H1,I1,r1,q1⟩:=hh_;refine wpAny_Slice (cv (hl pins s1 σ H1 _ I1 q1) λvl s2 ⟨l,H2,I2,pl,q2⟩=>cv (hu pins s2 σ H2 _ I2 q2) λvu s3 hh_=> ?_)
 obtain⟨u,H3,I3,pu,q3⟩:=hh_;rw[evalPart_none];refine wpAny_pure ?_
 have I4:Inv X pins σ H3 { s3 with heap:=s3.heap.push { cls:=.type "slice",data:=.fields #[vl,vu,.none] } }:=I3.kept (t':=s3.toks) λb ob q=>Heap.get?_push_of_some _ q
 obtain⟨T,id,hT,ht,hg⟩:=hr pins { s3 with heap:=s3.heap.push { cls:=.type "slice",data:=.fields #[vl,vu,.none] } } σ H3 x v vl vu l u s3.heap.objs.size Q I4 r1 (Heap.IsSliceOf.new ..) pl pu q3
 show wpAny (model X.prog X.w) X.A (subscriptTail e (.Slice lo hi none p2) v (.ref s3.heap.objs.size)) (EP X pins σ Q) X.xe { s3 with heap:=s3.heap.push { cls:=.type "slice",data:=.fields #[vl,vu,.none] } }
 exact tail_any (ops:=[.ref s3.heap.objs.size,v]) ht hT hg (by with_unfolding_all rfl)
def rO (xs:List V)(lo hi:Option Int):List V:=(xs.drop (HT.sIx xs.length 0 lo)).take (HT.sIx xs.length xs.length hi - HT.sIx xs.length 0 lo)
theorem kL (xs:List V)(lo hi:Option Int):(rO xs lo hi).length<=xs.length:=by
 unfold rO;rw[List.length_take,List.length_drop];omega
def rSlT (K:PySem.W.Frag):V->Option Int->Option Int->Hp->VK->Prop:=λx lo hi H Q=> ∃a xs,x= .ref a/\SqT K H a xs ∧
 ¬(HT.sIx xs.length 0 lo=0/\HT.sIx xs.length xs.length hi=xs.length)/\∀p,H p=none->Q (.ref p) (upd H p (.tup (rO xs lo hi)))
theorem sl_tup:SlR X (rSlT X.K):=by
 intro pins s σ H x v vl vu lo hi sl Q I rx hs pl pu h;obtain⟨a,xs,rfl,hx,hw,q⟩:=h;cases rx;obtain⟨its,r,ht,hz⟩:=I.tuple hx
 have hlen:its.toArray.size=xs.length:=by rw[List.size_toArray];exact r.length.symm
 refine⟨"tuple",_,PyProof.Rows.slot_tuple_getitem.lookup,ht.typeIs,?_⟩
 refine HT.getItem_tuple_cut ht hs pl pu (by rw[hlen];exact hw) ?_ (by rw[hlen];exact hz)
 rw[hlen];refine⟨.ref s.heap.objs.size,_,I.laid (t':=s.toks) (o:=.tup (rO xs lo hi)) (λb ob q=>Heap.get?_push_of_some _ q) (Nat.le_refl _) ?_,rfl,q _ (I.hok.fresh (Nat.le_refl _))⟩
 exact⟨Nat.le_trans (kL xs lo hi) hz,_,(r.drop (HT.sIx xs.length 0 lo)).take (HT.sIx xs.length xs.length hi - HT.sIx xs.length 0 lo),IsTup.new _ _⟩
def DM (K:PySem.W.Frag):R2:=λx y H Q=> ∃a b xs ys,x= .ref a/\y= .ref b/\SqT K H a xs/\SqT K H b ys/\xs≠ []/\xs.length+ys.length<=sizeLine ∧
 (ys= []->Q (.ref a) H)/\(ys≠ []->∀p,H p=none->Q (.ref p) (upd H p (.tup (xs++ys))))
theorem Vals.nil_iff {xs:List V}{us:List Value}(r:Vals xs us):us= [] ↔xs= []:=by
 cases r with
 | nil=>simp
 | cons _ _=>simp
theorem Af:og X (binaryOp .Add) (DM X.K):=by
 intro pins s σ H x y v u Q I rx ry h;obtain⟨a,b,xs,ys,rfl,rfl,ha,hb,hx,hz,q1,q2⟩:=h;cases rx;cases ry;obtain⟨its,r1,p1,_⟩:=I.tuple ha;obtain⟨its2,r2,p2,_⟩:=I.tuple hb;refine HT.cat_tup p1 p2 (λz=>hx (r1.nil_iff.mp z)) (λz=>⟨.ref a,H,I,rfl,q1 (r2.nil_iff.mp z)⟩) (λz=> ?_) (by rw[<-r1.length,<-r2.length];exact hz)
 refine⟨.ref s.heap.objs.size,_,I.laid (t':=s.toks) (o:=.tup (xs++ys)) (λb ob q=>Heap.get?_push_of_some _ q) (Nat.le_refl _) ?_,rfl,q2 (λw=>z (r2.nil_iff.mpr w)) _ (I.hok.fresh (Nat.le_refl _))⟩
 exact⟨by rw[List.length_append];exact hz,_,r1.append r2,IsTup.new _ _⟩
end
def ixN (n:Nat)(i:Int):Option Nat:=if 0<=i then(if i<n then some i.toNat else none)else if -(n:Int)<=i then some (i+n).toNat else none
def atI {α:Type}(xs:List α)(i:Int):Option α:=(ixN xs.length i).bind λj=>xs[j]?
theorem As {n:Nat}{i:Int}{j:Nat}(h:ixN n i=some j):seqIndex? i n=some j/\j<n/\-(n:Int)<=i/\i<n:=by
 unfold ixN at h
 by_cases h0:0<=i
 ·rw[if_pos h0]at h
  by_cases h1:i<n
  ·rw[if_pos h1]at h
   have e:i.toNat=j:=Option.some.inj h;exact⟨by rw[seqIndex_of h0 h1,e],by omega,by omega,h1⟩
  ·rw[if_neg h1]at h;cases h
 ·rw[if_neg h0]at h
  by_cases h1 : -(n:Int)<=i
  ·rw[if_pos h1]at h
   have e:(i+n).toNat=j:=Option.some.inj h;exact⟨by rw[seqIndex_neg (by omega) h1,e],by omega,h1,by omega⟩
  ·rw[if_neg h1]at h;cases h
theorem pM {α:Type}{xs:List α}{i:Int}{v:α}(h:atI xs i=some v):∃j,seqIndex? i xs.length=some j/\xs[j]? =some v/\j<xs.length/\-(xs.length:Int)<=i/\i<xs.length:=by
 unfold atI at h
 cases e:ixN xs.length i with
 | none=>rw[e]at h;cases h
 | some j=>
  rw[e]at h;obtain⟨h1,h2,h3,h4⟩:=As e;exact⟨j,h1,h,h2,h3,h4⟩
def uN (b:Expr):Prop:=∀o i,subscripted b false o i=operate [o,i] (getItem o i)
def IxR (X:Cx)(r:R2):Prop:=
 ∀(value slice:Expr) (pins:List (Addr×Obj)) (s:Shared) (σ:St) (H:Hp) (x y:V) (v u:Value) (Q:VK),Inv X pins σ H s->RelV x v->RelV y u->r x y H Q →
  subscripted slice false v u=operate [v,u] (getItem v u)->wpAny (model X.prog X.w) X.A (subscriptTail value slice v u) (EP X pins σ Q) X.xe s
def MtR (X:Cx)(id:String)(r:V->List V->Hp->VK->Prop):Prop:=
 ∀(pins:List (Addr×Obj)) (s:Shared) (σ:St) (H:Hp) (x:V) (xs:List V) (v:Value) (us:List Value) (Q:VK),Inv X pins σ H s->RelV x v->Vals xs us->r x xs H Q →
  wpAny (model X.prog X.w) X.A (call (.builtin id) (v::us)) (EP X pins σ Q) X.xe s
section
variable {X:Cx}{a b:Expr}{ta tb:TE}{pos:Pos}
theorem IxR.or {r r':R2}(h:IxR X r)(h':IxR X r'):IxR X (λx y H Q=>r x y H Q\/r' x y H Q):=by
 intro value slice pins s σ H x y v u Q I rx ry q hs;rcases q with q | q
 ·exact h value slice pins s σ H x y v u Q I rx ry q hs
 ·exact h' value slice pins s σ H x y v u Q I rx ry q hs
def DL (K:PySem.W.Frag):R2:=λx y H Q=> ∃p xs i v,x= .ref p/\y= .int i/\SqL K H p xs/\atI xs i=some v/\Q v H
def DJ (K:PySem.W.Frag):R2:=λx y H Q=> ∃p xs i v,x= .ref p/\y= .int i/\SqT K H p xs/\atI xs i=some v/\Q v H
def DK:R2:=λx y H Q=> ∃z i c,x= .str z/\y= .int i/\z.length<=sizeLine/\atI z.cps.toList i=some c/\Q (.str ⟨#[c]⟩) H
theorem ix_list:IxR X (DL X.K):=by
 intro value slice pins s σ H x y v u Q I rx ry h hs;obtain⟨p,xs,i,z,rfl,rfl,hq,he,q⟩:=h;cases rx;obtain⟨t,rfl⟩:=ry;obtain⟨its,r,pl,hz⟩:=I.list hq;obtain⟨j,h1,h2,h3,h4,h5⟩:=pM he;obtain⟨w,ew,rw'⟩:=r.get h2
 have hl:=r.length
 have hn:=l0
 have fin:EP X pins σ Q w s:=⟨z,H,I,rw',q⟩
 by_cases h0:0<=i
 ·have hj:i.toNat=j:=by
   rw[seqIndex_of h0 h5]at h1;exact Option.some.inj h1
  exact item_listR pl.isList h0 (by omega) (by rw[hj];simpa using ew) fin hs
 ·have hj:(i+(its.toArray.size:Int)).toNat=j:=by
   rw[seqIndex_neg (by omega) h4]at h1
   rw[List.size_toArray,<-hl];exact Option.some.inj h1
  exact subscriptTail_builtinR (x:=w) pl.isList.typeIs slot_list_getitem.lookup
   (wpAny_getItem_list_neg (Q:=λr s'=>r=w/\EP X pins σ Q r s') pl.isList (by omega) (by rw[List.size_toArray] <;> omega) (by omega) (by rw[hj];simpa using ew) ⟨rfl,fin⟩) hs
theorem ix_tup:IxR X (DJ X.K):=by
 intro value slice pins s σ H x y v u Q I rx ry h hs;obtain⟨p,xs,i,z,rfl,rfl,hq,he,q⟩:=h;cases rx;obtain⟨t,rfl⟩:=ry;obtain⟨its,r,pl,hz⟩:=I.tuple hq;obtain⟨j,h1,h2,h3,h4,h5⟩:=pM he;obtain⟨w,ew,rw'⟩:=r.get h2
 have hl:=r.length
 have hn:=l0
 have fin:EP X pins σ Q w s:=⟨z,H,I,rw',q⟩
 exact subscriptTail_builtinR (x:=w) pl.typeIs slot_tuple_getitem.lookup
  (getItem_tuple (j:=j) (Q:=λr s'=>r=w/\EP X pins σ Q r s') pl (by omega) (by omega) (by rw[List.size_toArray,<-hl];exact h1) (by simpa using ew) ⟨rfl,fin⟩) hs
theorem C0:IxR X DK:=by
 intro value slice pins s σ H x y v u Q I rx ry h hs;obtain⟨z,i,c,rfl,rfl,hz,he,q⟩:=h;obtain⟨t,rfl⟩:=rx;obtain⟨t',rfl⟩:=ry;obtain⟨j,h1,h2,h3,h4,h5⟩:=pM he
 have hl:z.cps.toList.length=z.length:=by simp[Str.length]
 rw[hl]at h1 h4 h5
 have hn:=l0
 exact tail_any (typeIs_str s z t) slot_str_getitem.lookup (getItem_str (c:=c) (by
  have e1:decide (i< -(2 ^ 63:Int))=false:=decide_eq_false (by omega)
  have e2:decide (i ≥ 2 ^ 63)=false:=decide_eq_false (by omega)
  rw[e1,e2,Bool.or_false]) (by rw[h1];simpa using h2) ⟨.str ⟨#[c]⟩,H,I.tok _,⟨_,rfl⟩,q⟩) hs
def rIx (K:PySem.W.Frag):R2:=λx y H Q=>DL K x y H Q\/DJ K x y H Q\/DK x y H Q
theorem C1:IxR X (rIx X.K):=ix_list.or (ix_tup.or C0)
theorem oo (lo hi:Option Int)(n:Nat):(sliceBounds lo hi none n).1=((HT.sIx n 0 lo:Nat):Int)/\(sliceBounds lo hi none n).2.1=((HT.sIx n n hi:Nat):Int)/\(sliceBounds lo hi none n).2.2=1:=by
 refine⟨?_,?_,rfl⟩
 ·cases lo with
  | none=>simp[sliceBounds,HT.sIx]
  | some i=>
   simp only[sliceBounds,HT.sIx,Option.getD_none,show(1:Int) > 0 by decide,if_true]
   by_cases h:i<0
   ·simp only[h,if_true] <;> omega
   ·simp only[h,if_false] <;> omega
 ·cases hi with
  | none=>simp[sliceBounds,HT.sIx]
  | some i=>
   simp only[sliceBounds,HT.sIx,Option.getD_none,show(1:Int) > 0 by decide,if_true]
   by_cases h:i<0
   ·simp only[h,if_true] <;> omega
   ·simp only[h,if_false] <;> omega
theorem mQ (its:List Value)(lo hi:Option Int):slicePick its.toArray lo hi none=((its.drop (HT.sIx its.length 0 lo)).take (HT.sIx its.length its.length hi - HT.sIx its.length 0 lo)).toArray:=by
 obtain⟨h1,h2,h3⟩:=oo lo hi its.toArray.size;unfold slicePick;rw[h1,h2,h3];simp only[sliceRange_one,pick_run,List.size_toArray] <;> rfl
def rSlL (K:PySem.W.Frag):V->Option Int->Option Int->Hp->VK->Prop:=λx lo hi H Q=> ∃a xs,x= .ref a/\SqL K H a xs/\∀p,H p=none->Q (.ref p) (upd H p (.lst (rO xs lo hi)))
theorem zn:SlR X (rSlL X.K):=by
 intro pins s σ H x v vl vu lo hi sl Q I rx hs pl pu h;obtain⟨a,xs,rfl,hx,q⟩:=h;cases rx;obtain⟨its,r,ht,hz⟩:=I.list hx
 have hlen:=r.length;refine⟨"list",_,slot_list_getitem.lookup,ht.isList.typeIs,?_⟩
 refine wpAny_getItem_list_slice ht.isList hs pl pu .none (by simp) ?_ (by rw[List.size_toArray] <;> omega)
 rw[mQ,<-hlen];refine⟨.ref s.heap.objs.size,_,I.laid (t':=s.toks) (o:=.lst (rO xs lo hi)) (λb ob q=>Heap.get?_push_of_some _ q) (Nat.le_refl _) ?_,rfl,q _ (I.hok.fresh (Nat.le_refl _))⟩
 exact⟨Nat.le_trans (kL xs lo hi) hz,_,0,(r.drop (HT.sIx xs.length 0 lo)).take (HT.sIx xs.length xs.length hi - HT.sIx xs.length 0 lo),Heap.get?_push_size _ rfl⟩
theorem call_len_seq:CallR X (.builtin "len") (λxs H Q=> ∃p ys,xs= [.ref p]/\(SqL X.K H p ys\/SqT X.K H p ys)/\Q (.int ys.length) H):=by
 intro pins s σ H xs us Q I r h;obtain⟨p,ys,rfl,hq,q⟩:=h;obtain⟨u,rfl,rx⟩:=iU r;cases rx
 have hn:=l0;rcases hq with hq | hq
 ·obtain⟨its,r',pl,hz⟩:=I.list hq
  have hlen:=r'.length;exact Calls.call_len_list pl.isList (by simp only[List.size_toArray] <;> omega) ⟨.int ys.length,H,I.tok _,⟨s.toks+1,by rw[List.size_toArray,hlen]⟩,q⟩
 ·obtain⟨its,r',pl,hz⟩:=I.tuple hq
  have hlen:=r'.length;exact len_tuple pl (by simp only[List.size_toArray] <;> omega) ⟨.int ys.length,H,I.tok _,⟨s.toks+1,by rw[List.size_toArray,hlen]⟩,q⟩
theorem pJ:CallR X (.builtin "len") (λxs H Q=> ∃z,xs= [.str z]/\z.length<=sizeLine/\Q (.int z.length) H):=by
 intro pins s σ H xs us Q I r h;obtain⟨z,rfl,hz,q⟩:=h;obtain⟨u,rfl,t,rfl⟩:=iU r
 have hn:=l0;exact len_str (by omega) ⟨.int z.length,H,I.tok _,⟨_,rfl⟩,q⟩
theorem CallR.or {f:Value}{r r':List V->Hp->VK->Prop}(h:CallR X f r)(h':CallR X f r'):CallR X f (λxs H Q=>r xs H Q\/r' xs H Q):=by
 intro pins s σ H xs us Q I rs q;rcases q with q | q
 ·exact h pins s σ H xs us Q I rs q
 ·exact h' pins s σ H xs us Q I rs q
theorem m7:CallR X (.type "tuple") (λxs H Q=> ∃p ys,xs= [.ref p]/\((SqL X.K H p ys/\∀l,H l=none->Q (.ref l) (upd H l (.tup ys)))\/(SqT X.K H p ys/\Q (.ref p) H))):=by
 intro pins s σ H xs us Q I r h;obtain⟨p,ys,rfl,h⟩:=h;obtain⟨u,rfl,rx⟩:=iU r;cases rx;rcases h with⟨hq,q⟩ | ⟨hq,q⟩
 ·obtain⟨its,r',pl,hz⟩:=I.list hq
  have hlen:=r'.length;refine call_tuple_list pl.isList (λh' kp=> ?_) (by simp only[List.size_toArray] <;> omega)
  have I1:Inv X pins σ H { s with heap:=h' }:=I.kept (t':=s.toks) kp
  have I2:Inv X pins σ (upd H h'.objs.size (.tup ys)) { s with heap:=h'.push { cls:=.type "tuple",data:=.seq its.toArray } }:=
   I1.laid (t':=s.toks) (λb o e=>Heap.get?_push_of_some _ e) (Nat.le_refl _) (show ObjOk X.prog X.w _ _ _ (.tup ys)from⟨hz,its,r',IsTup.new _ _⟩)
  exact⟨.ref h'.objs.size,_,I2,rfl,q _ (I1.hok.fresh (Nat.le_refl _))⟩
 ·obtain⟨its,r',pl,hz⟩:=I.tuple hq
  exact call_tuple_same pl ⟨.ref p,H,I,rfl,q⟩
def tyV (K:PySem.W.Frag)(T:String)(x:V)(H:Hp):Prop:=match x with
 | .str _=>T= "str"
 | .int _=>T= "int"
 | .ref p=>(T= "list"/\∃xs,SqL K H p xs)\/(T= "tuple"/\∃o,K.lookup p=some o/\o.cls= .type "tuple"/\o.dict=none) ∨
   (T= "dict"/\((∃kvs,H p=some (.dK kvs))\/∃kvs,H p=some (.dT kvs)))\/(T= "set"/\∃S n,H p=some (.set S n))
 | _=>False
theorem wm {pins:List (Addr×Obj)}{σ:St}{H:Hp}{s:Shared}{T:String}{x:V}{v:Value}(I:Inv X pins σ H s)(r:RelV x v)(ty:tyV X.K T x H) :
  s.TypeIs v T/\∀a,v= .ref a->∃ob,s.heap.get? a=some ob/\ob.dict=none:=by
 cases x with
 | str z=>
  obtain⟨t,rfl⟩:=r;cases (show T= "str" from ty)
  exact⟨typeIs_str s z t,λ_ e=>nomatch e⟩
 | int i=>
  obtain⟨t,rfl⟩:=r;cases (show T= "int" from ty)
  exact⟨typeIs_int s i t,λ_ e=>nomatch e⟩
 | ref p=>
  cases r;rcases ty with⟨rfl,xs,hq⟩ | ⟨rfl,o,hk,hc,hd⟩ | ⟨rfl,hk⟩ | ⟨rfl,S,n,hk⟩
  ·obtain⟨its,_,pl,_⟩:=I.list hq
   refine⟨pl.isList.typeIs,λa e=> ?_⟩
   cases e;obtain⟨o,n,e,c,hd,_⟩:=pl;exact⟨o,e,hd⟩
  ·refine⟨⟨o,I.kIn p o hk,hc⟩,λa e=> ?_⟩
   cases e;exact⟨o,I.kIn _ o hk,hd⟩
  ·have z:∃o,s.heap.get? p=some o/\o.ExactDict:=by
    rcases hk with⟨kvs,hk⟩ | ⟨kvs,hk⟩
    ·obtain⟨_,_,_,_,o,_,_,e,ex,_⟩:=I.hok p _ hk
     exact⟨o,e,ex⟩
    ·obtain⟨_,_,_,_,o,_,_,e,ex,_⟩:=I.hok p _ hk
     exact⟨o,e,ex⟩
   obtain⟨o,e,ex⟩:=z;refine⟨⟨o,e,ex.1⟩,λa e2=> ?_⟩
   cases e2;exact⟨o,e,ex.2.1⟩
  ·obtain⟨o,_,_,_,e,ex,_⟩:=I.hok p _ hk
   refine⟨⟨o,e,ex.1⟩,λa e2=> ?_⟩
   cases e2
   exact⟨o,e,ex.2.1⟩
 | _=>exact False.elim ty
def tBM (K:PySem.W.Frag)(T:String)(r:V->List V->Hp->VK->Prop)(to:TE)(t:TA):TE:=λσ H Q=>to σ H λx H1=>tyV K T x H1/\t σ H1 λxs H2=>r x xs H2 Q
variable {o e:Expr}{es:List Expr}{to:TE}{t:TA}{name:Str}{apos cpos:Pos}{T id:String}{r:V->List V->Hp->VK->Prop}
theorem A8 (pa:PlainAttrs T)(slot:Slot T name id)(hty:typeOf (.builtin id)=pure (.type "method_descriptor"))(hm:MtR X id r)(ho:PE X o to)(ha:PA X (e::es) t)
  (hbase:attributeBase o name X.env (eval o X.env)=eval o X.env:=by rfl)
  (hfew:((backTo cpos (starEach (e::es) X.env)).all (λx=> !x.1)&&(backToKw cpos (keywordEach [] X.env)).all (λx=>x.1.isSome)
   &&decide ((e::es).length+([]:List Keyword).length+(if ([]:List Keyword).isEmpty then 0 else 1)<30))=true:=by rfl)
  (hline:(apos.endLine == cpos.line)=true:=by rfl) (hs:starEach (e::es) X.env=(false,eval e X.env)::starEach es X.env:=by rfl) (hplain:(backTo cpos (starEach es X.env)).any (·.1)=false:=by rfl) :
  PE X (.Call (.Attribute o name apos) (e::es) [] cpos) (tBM X.K T r to t):=by
 intro pins s σ H Q I h;refine wpAny_Call_method_late hbase hfew hline rfl (cv (ho pins s σ H _ I h) λv s1 hh_=> ?_)
 obtain⟨x,H1,I1,r1,ty,q1⟩:=hh_;obtain⟨h1,h2⟩:=wm I1 r1 ty;refine⟨T,id,pa,slot,hty,h1,h2,?_⟩
 have hA:=ha cpos pins s1 σ H1 _ I1 q1;rw[hs]at hA ⊢;refine Calls.callWith_builtin (by show(false||(backTo cpos (starEach es X.env)).any (·.1))=false;rw[hplain] <;> rfl) (Calls.evalArgs_plain ?_)
 exact cv hA λus s2 ⟨vs,H2,I2,r2,q2⟩=>hm pins s2 σ H2 x vs v us Q I2 r1 r2 q2
end
def MtM (X:Cx)(id:String)(r:V->List V->Hp->VK->Prop):Prop:=
 ∀(pins:List (Addr×Obj)) (s:Shared) (σ:St) (H:Hp) (x:V) (xs:List V) (v:Value) (us:List Value) (Q:VK),Inv X pins σ H s->RelV x v->Vals xs us->r x xs H Q →
  wpAny (model X.prog X.w) X.A (call (.builtin id) (v::us)) (EP X pins σ Q) X.xe s
theorem Vals.one:∀{x:V} {us:List Value},Vals [x] us->∃u,us= [u]/\RelV x u
 | _,_,.cons r .nil=>⟨_,rfl,r⟩
theorem Vals.rep {xs:List V}{us:List Value}(h:Vals xs us):∀k:Nat,Vals (List.replicate k xs).flatten (List.replicate k us).flatten
 | 0=> .nil
 | k+1=>by
  rw[List.replicate_succ,List.replicate_succ,List.flatten_cons,List.flatten_cons];exact Vals.append h (Vals.rep h k)
theorem foldl_rep (its:List Value):∀(k:Nat) (acc:List Value),
  List.foldl (λx1 x2=>x1++x2) acc.toArray (List.replicate k its.toArray)=(acc++(List.replicate k its).flatten).toArray
 | 0,acc=>by simp
 | k+1,acc=>by
  have e:acc.toArray++its.toArray=(acc++its).toArray:=by simp
  have e2:(acc++its)++(List.replicate k its).flatten=acc++(List.replicate (k+1) its).flatten:=by
   rw[List.replicate_succ,List.flatten_cons,List.append_assoc]
  rw[<-e2,<-foldl_rep its k (acc++its),<-e,List.replicate_succ,List.foldl_cons]
section
variable {X:Cx}{pins:List (Addr×Obj)}{σ:St}{H:Hp}{s:Shared}{l b:Addr}{xs ys zs:List V}
theorem Inv.lset {its its':List Value}{n:Nat}{f:Array Value->Array Value}{t':Nat}(I:Inv X pins σ H s)(hH:H l=some (.lst xs))
  (e:s.heap.get? l=some { cls:=.type "list",data:=.seq its.toArray n }) (hf:f its.toArray=its'.toArray) (hv:Vals ys its') (hz:ys.length<=sizeLine) :
  Inv X pins σ (upd H l (.lst ys)) { s with heap:=s.heap.update l (Obj.mapSeq f),toks:=t' }:=by
 have q:=PySem.IsL.update e f;rw[hf]at q;refine I.write (x:=l) (e:=l) (by rw[hH];exact trivial) (.inl rfl) (λb' u hb hu=>(Heap.get?_update_other s.heap (Obj.mapSeq f) (Ne.symm hb)).trans hu) ⟨_,q⟩ ?_
 exact⟨hz,its',_,hv,q⟩
theorem Inv.lnew {its:List Value}{t':Nat}(I:Inv X pins σ H s)(hv:Vals ys its)(hz:ys.length<=sizeLine) :
  Inv X pins σ (upd H s.heap.objs.size (.lst ys)) { s with heap:=s.heap.push { cls:=.type "list",data:=.seq its.toArray },toks:=t' }:=
 I.laid (λ_ _ q=>Heap.get?_push_of_some _ q) (Nat.le_refl _) ⟨hz,its,0,hv,Heap.get?_push_size _ rfl⟩
theorem Inv.fresh (I:Inv X pins σ H s):H s.heap.objs.size=none:=I.hok.fresh (Nat.le_refl _)
theorem Inv.lstM (I:Inv X pins σ H s)(hH:H l=some (.lst xs)):xs.length<=sizeLine/\∃(its:List Value) (n:Nat),Vals xs its/\xs.length=its.length/\s.heap.get? l=some { cls:=.type "list",data:=.seq its.toArray n }:=by
 obtain⟨z,its,n,r,e⟩:=I.hok l _ hH;exact⟨z,its,n,r,r.length,e⟩
theorem qR {n:Nat}(h:n<=sizeLine):Builtin.List.listTooLong n=false:=by
 unfold Builtin.List.listTooLong;exact decide_eq_false (by omega)
end
section
variable {X:Cx}
def zv:V->List V->Hp->VK->Prop:=λx vs H Q=> ∃l xs y,x= .ref l/\vs= [y]/\H l=some (.lst xs)/\xs.length<sizeLine/\Q .non (upd H l (.lst (xs++ [y])))
theorem nF:MtM X "list.append" zv:=by
 intro pins s σ H x vs v us Q I rx rv h;obtain⟨l,xs,y,rfl,rfl,hH,hz,q⟩:=h;cases rx;obtain⟨u,rfl,ru⟩:=rv.one;obtain⟨z,its,n,r,hl,e⟩:=I.lstM hH;refine call_meets F.slot_list_append ⟨_,e,rfl⟩ F.entry_list_append (F.args_list_append_2 _ _) (PySem.list_append l its.toArray n u (by rw[List.size_toArray];omega)) ⟨e,?_⟩
 refine⟨.non,_,I.lset (its':=its++ [u]) hH e (by simp) (r.append (.cons ru .nil)) ?_,rfl,q⟩
 rw[List.length_append,List.length_singleton];omega
def zu:V->List V->Hp->VK->Prop:=λx vs H Q=> ∃l b xs zs,x= .ref l/\vs= [.ref b]/\H l=some (.lst xs)/\H b=some (.lst zs)/\xs.length+zs.length<=sizeLine/\Q .non (upd H l (.lst (xs++zs)))
theorem vi:MtM X "list.extend" zu:=by
 intro pins s σ H x vs v us Q I rx rv h;obtain⟨l,b,xs,zs,rfl,rfl,hH,hB,hz,q⟩:=h;cases rx;obtain⟨u,rfl,ru⟩:=rv.one;cases ru;obtain⟨z,its,n,r,hl,e⟩:=I.lstM hH;obtain⟨z2,its2,n2,r2,hl2,e2⟩:=I.lstM hB
 have hsz:its.toArray.size+its2.toArray.size<=sizeLine:=by rw[List.size_toArray,List.size_toArray];omega
 have hlong:¬ (!its.toArray.isEmpty&&Builtin.List.listTooLong (its.toArray.size+its2.toArray.size))=true:=by
  rw[qR hsz,Bool.and_false];exact Bool.false_ne_true
 refine call_meets F.slot_list_extend ⟨_,e,rfl⟩ F.entry_list_extend (F.args_list_extend_2 _ _)
  (AutoSeq1.list_extend_list_list_0 l its.toArray n b its2.toArray n2 hlong (by rw[List.size_toArray];omega) (by omega)) ⟨e,e2,?_⟩
 refine⟨.non,_,I.lset (its':=its++its2) hH e (by simp) (r.append r2) ?_,rfl,q⟩
 rw[List.length_append];omega
def rCat:R2:=λx y H Q=> ∃l b xs zs,x= .ref l/\y= .ref b/\H l=some (.lst xs)/\H b=some (.lst zs)/\xs.length+zs.length<=sizeLine/\∀p,H p=none->Q (.ref p) (upd H p (.lst (xs++zs)))
theorem Cw:og X (binaryOp .Add) rCat:=by
 intro pins s σ H x y v u Q I rx ry h;obtain⟨l,b,xs,zs,rfl,rfl,hH,hB,hz,q⟩:=h;cases rx;cases ry;obtain⟨z,its,n,r,hl,e⟩:=I.lstM hH;obtain⟨z2,its2,n2,r2,hl2,e2⟩:=I.lstM hB;refine PySem.P.add_list e e2 ?_ (by rw[List.size_toArray,List.size_toArray];omega)
 have ea:its.toArray++its2.toArray=(its++its2).toArray:=by simp
 rw[ea];exact⟨.ref _,_,I.lnew (t':=s.toks) (r.append r2) (by rw[List.length_append];omega),rfl,q _ I.fresh⟩
def rRep:R2:=λx y H Q=> ∃l k xs,x= .ref l/\y= .int k/\H l=some (.lst xs)/\-(2 ^ 63)<=k/\k<2 ^ 63/\xs.length*k.toNat<=sizeLine ∧
 ∀p,H p=none->Q (.ref p) (upd H p (.lst (List.replicate k.toNat xs).flatten))
theorem len_rep {α:Type}(xs:List α)(k:Nat):(List.replicate k xs).flatten.length=k*xs.length:=by
 induction k with
 | zero=>simp
 | succ k ih=>rw[List.replicate_succ,List.flatten_cons,List.length_append,ih,Nat.succ_mul,Nat.add_comm]
theorem Cr:og X (binaryOp .Mult) rRep:=by
 intro pins s σ H x y v u Q I rx ry h;obtain⟨l,k,xs,rfl,rfl,hH,h1,h2,hz,q⟩:=h;cases rx;obtain⟨t,rfl⟩:=ry;obtain⟨z,its,n,r,hl,e⟩:=I.lstM hH
 have hlen:its.toArray.size*k.toNat<=sizeLine:=by rw[List.size_toArray,<-hl];exact hz
 have hcap:¬ its.toArray.size*k.toNat > (2 ^ 63 - 1) / 8:=by
  have:(sizeLine:Nat)<=(2 ^ 63 - 1) / 8:=by decide
  omega
 have hfit:¬ (!Builtin.List.listFitsIndex k)=true:=by
  rw[fitsIndex_both h1 h2];exact Bool.false_ne_true
 have hlong:¬ Builtin.List.listTooLong (its.toArray.size*k.toNat)=true:=by
  rw[qR hlen];exact Bool.false_ne_true
 have hnew:List.foldl (λx1 x2=>x1++x2) #[] (List.replicate (if its.toArray.isEmpty=true then 0 else k.toNat) its.toArray)=(List.replicate k.toNat its).flatten.toArray:=by
  have f0:∀m:Nat,List.foldl (λx1 x2=>x1++x2) #[] (List.replicate m its.toArray)=(List.replicate m its).flatten.toArray:=λm=>by
   have:=foldl_rep its m [];rw[List.nil_append]at this;exact this
  rw[f0]
  cases its with
  | nil=>simp
  | cons a r'=>rw[if_neg (by simp)]
 refine wpAny_binaryOp_repeat_ref (T:="list") (U:="int") (by decide) ⟨_,e,rfl⟩ (λs'=>typeIs_int s' k t) noFill_list_mul F.fills_int_mul F.slot_int_rmul repeat_list F.slot_int_index.lookup
  (call_meets F.slot_int_rmul (typeIs_int s k t) F.entry_int_rmul (F.args_int_rmul_2 _ _) (int___rmul___int_list k t l its.toArray n)
   ⟨e,rfl,⟨_,e,rfl⟩,call_meets F.slot_list_mul ⟨_,e,rfl⟩ F.entry_list_mul (F.args_list_mul_2 _ _) (AutoListH.list___mul___list_int_3 l its.toArray n k t hfit hcap hlong) ⟨e,?_⟩⟩)
 rw[hnew];exact⟨.ref _,_,I.lnew (t':=s.toks) (r.rep k.toNat) (by rw[len_rep,Nat.mul_comm];exact hz),rfl,q _ I.fresh⟩
end
end L2
namespace Att
open PySem PySem.W PySem.Calls PyProof.Rows
theorem kU {P:Params}{h:Heap}:∀(ns:List Int) (vs:List Value),WellAll P h vs (ns.map WData.int)->IntsAre vs ns:=by
 intro ns
 induction ns with
 | nil=>
  intro vs w;rw[List.map_nil]at w;cases w
  exact .nil
 | cons n ns ih=>
  intro vs w;rw[List.map_cons]at w
  cases w with
  | cons a b=>
   cases a;exact .cons _ _ (ih _ b)
theorem uZ {l:OpenLaw}{n:Nat}(hn:l.most=some n){P:Params}{h:Heap}{args:List WData}{vals:List Value}
  (hpre:l.row.toRowW.claim.pre args=true) (hwl:WellAll P h vals args) :
  ∃a vs ns,vals= [Value.ref a]/\args= [WData.list (ns.map WData.int)]/\h.get? a=some { cls:=.type "list",data:=.seq vs.toArray }/\IntsAre vs ns/\ns.length<=n:=by
 have hsh:WShape.hasAll [] args [.list .int] =true:=(pre_splitW hpre).1
 have hc:l.pre.holds [] { args:=args }=true:=(pre_splitW hpre).2;obtain⟨d,r,rfl,h1,h2⟩:=hasAllW_cons hsh;obtain rfl:=hasAllW_nil h2;obtain⟨xs,rfl,h3⟩:=hasW_list h1;obtain⟨ns,rfl⟩:=items_int h3
 have hlen:ns.length<=n:=by
  unfold OpenLaw.pre at hc
  have h4:(WTm.not (.lt (.lit (.int (n:Int))) (.len (.arg 0)))).holds [] { args:=[.list (ns.map .int)] }=true:=by
   have h4:=(holds_andW hc).1;rw[hn]at h4;exact h4
  have h5:=condW_of h4 (w_not (w_lt w_lit (w_len_list (w_arg rfl))));rw[List.length_map]at h5;refine Nat.le_of_not_lt λq=> ?_
  have q':(n:Int)<((ns.length:Nat):Int):=by omega
  first
   | (rw[decide_eq_true q']at h5;exact absurd h5 (by decide))
   | (simp at h5;omega)
 cases hwl with
 | cons w1 w2=>
  cases w2
  cases w1 with
  | list ho hall=>exact⟨_,_,ns,rfl,rfl,ho,kU ns _ hall,hlen⟩
theorem u7 (l:OpenLaw)(args:List WData):l.row.toRowW.claim.post args (.bool true) args=true:=
 postW_of (r:=l.row.toRowW) (X:=(true == true))
  (show WShape.has [] (.bool true) .bool=true by first | rfl | decide | simp[WShape.has,WShape.arms,WShape.armsAll])
  (show(WTm.eq .res (.lit (.bool true))).value [] { args:=args,res:=some (.bool true),after:=args }=some (.bool (true == true))from w_eq_bool (w_res rfl) w_lit) rfl
theorem attach_call {l:OpenLaw}{n:Nat}{q:Program}{loose:List Str}{XP:(Str->Option Value)->Heap->Prop}{YP:World->Heap->Prop}{d:DefRec}
  (hn:l.most=some n) (hdf:d.params.defaults= [])
  (call:∀(w:World) (s₀ s₁:Shared) (mg mb:Str->Option Value) (fa:Addr) (o:Obj) (pm cd doc:Value) (a:Addr) (vs:List Value) (ns:List Int),
   Ground q loose [] XP w s₀ mg mb s₁.heap->YP w s₁.heap →
   s₁.heap.get? fa=some o->o.data= .func (docDef d.name d.params d.body d.scope pm cd doc)->s₁.heap.CodeRec cd d.name->mg d.name=some (.ref fa) →
   s₁.heap.get? a=some { cls:=.type "list",data:=.seq vs.toArray }->IntsAre vs ns->ns.length<=n->s₁.gens= #[] →
   codeAny (model l.prog w) callerA (.call (.ref fa) ⟨[.ref a],[]⟩) (λr s'=>r= .ok (.ret (.bool true))/\OldK s₁.heap s'.heap/\s'.os=s₁.os/\AllBare s'.gens) s₁) :
  WalkO q loose XP YP l.row.toRowW d [] (λf vs=>PySem.call f vs):=by
 intro w s₀ s₁ mg mb G Y fa o pm cd doc dV kV ho hd hcd hD hmg hg args vals as hpre hlay hrd hwl hlo;obtain rfl:dV= .none:=Dflts.none hD hdf;obtain rfl:kV= .none:=Dflts.noKw hD;obtain⟨a,vs,ns,rfl,rfl,hobj,hints,hlen⟩:=uZ hn hpre hwl;refine enter_call (codeAny_mono (call w s₀ s₁ mg mb fa o pm cd doc a vs ns G Y ho (fd_plain hd) hcd hmg hobj hints hlen hg) λr s' hq=> ?_)
 obtain⟨rfl,h2,h3,h4⟩:=hq;exact⟨.inl ⟨.bool true,.bool true,[],rfl,λ_=>rfl,.bool true,u7 l _,λ_=>⟨List.Pairwise.nil,λ_ hm=>(nomatch hm)⟩⟩,h2,h3,h4⟩
end Att
namespace L2
open PySem PySem.Spec PyProof.Rows
theorem ng:∀{vs:List Value} {ns:List Int},IntsAre vs ns->Vals (ns.map V.int) vs
 | _,_,.nil=> .nil
 | _,_,.cons n t h=> .cons ⟨t,rfl⟩ (ng h)
def Dq (H:Hp):Prop:=∀b,H b=none\/∃o xs,H b=some (.frz o (.lst xs))
theorem xH {P:Program}{w:World}{K:PySem.W.Frag}{mg mb:Str->Option Value}{CX:yT}{k:Nat}{fa a:Addr}{fd:FuncData}{x:Str}{sp:Sp}{s₁:Shared}{vs:List Value}{ns:List Int}
  (KX:K.In s₁.heap) (hns:s₁.heap.Ns mainGlobals mg) (hb:s₁.heap.Ns builtinsNs mb) (hbb:∀x:Str,x≠ "__name__"->mb x=bootBuiltins x) (hlim:s₁.heap.NoLimit) (hg:s₁.gens= #[])
  (ha:s₁.heap.get? a=some { cls:=.type "list",data:=.seq vs.toArray }) (hi:IntsAre vs ns) (hl:ns.length<=sizeLine) (hr:Room k callerA)
  (F:∀base:Heap,K.In base->base.Ns mainGlobals mg->pP P w K mg base CX k fa fd [x] sp) (hbind:∀(s:Shared) (u:Value),BindsTo s fd ⟨[u],[]⟩ [(x,u)])
  (hsp:∀H:Hp,Dq H->SqL K H a (ns.map V.int)->sp [.ref a] H (λv _=>v= .bl true) λ_ _ _=>False)
  (hCX:∀H e s',CX [] H s₁ (λ_ _ _=>False) e s'->False) :
  codeAny (model P w) callerA (.call (.ref fa) ⟨[.ref a],[]⟩) (λr s'=>r= .ok (.ret (.bool true))/\OldK s₁.heap s'.heap/\s'.os=s₁.os/\AllBare s'.gens) s₁:=by
 have rv:=ng hi
 have lenV:=hi.length
 -- from an abstract heap in which nothing but the script may be tracked
 have core:∀H:Hp,Dq H->SqL K H a (ns.map V.int)->HOk P w H s₁.heap->(∀b,H b≠none->b=a)->(H a≠none->K.lookup a=none) →
   codeAny (model P w) callerA (.call (.ref fa) ⟨[.ref a],[]⟩) (λr s'=>r= .ok (.ret (.bool true))/\OldK s₁.heap s'.heap/\s'.os=s₁.os/\AllBare s'.gens) s₁:=by
  intro H hO hS hok hA hK
  have base_of:∀{b:Addr} {o:Obj},s₁.heap.get? b=some o->H b=none->(pz s₁.heap H).get? b=some o:=λe n=>x6 e n
  have noA:∀{b:Addr} {o:Obj} {es:Array DictEntry} {ep:Nat},s₁.heap.get? b=some o->o.data= .dict es ep->H b=none:=λ{b o es ep} e d=>by
   cases q:H b with
   | none=>rfl
   | some u=>
    have e':b=a:=hA b (by rw[q];simp)
    subst e';rw[ha]at e;cases e
    have d':Data.seq vs.toArray _=Data.dict es ep:=d;cases d'
  have nsK:∀{b:Addr} {m:Str->Option Value},s₁.heap.Ns b m->(pz s₁.heap H).Ns b m:=λ{b m} ⟨o,es,ep,e,d,r⟩=>⟨o,es,ep,base_of e (noA e d),d,r⟩
  have hKb:K.In (pz s₁.heap H):=λb o e=>base_of (KX b o e) (by
   cases q:H b with
   | none=>rfl
   | some u=>
    have e':b=a:=hA b (by rw[q];simp)
    subst e';rw[hK (by rw[q];simp)]at e;cases e)
  have hM:Mod K mg (pz s₁.heap H):=⟨hKb,nsK hns,⟨mb,nsK hb,hbb⟩,let ⟨mc,h1,h2⟩:=hlim;⟨mc,nsK h1,h2⟩⟩
  have e0:yO P w K mg (pz s₁.heap H) callerA [] s₁ H:=⟨rfl,hM,λb o e=>Ag e,Nat.le_of_eq (vC _ _),trivial,λb hb=>absurd (show b∈([]:List Addr)from hb) (by simp),hok,.of_eq hg⟩
  refine codeAny_mono ((F _ hKb (nsK hns)).run callerA [] s₁ H ⟨[.ref a],[]⟩ [.ref a] [.ref a] _ _ hr e0 (hbind s₁ (.ref a)) (.cons rfl .nil) (hsp H hO hS)) λr s' h=> ?_
  cases r with
  | error e=>exact(hCX H e s' h).elim
  | ok fl=>
   cases fl with
   | next=>exact False.elim h
   | brk=>exact False.elim h
   | cont=>exact False.elim h
   | ret u=>
    obtain⟨v,H',os,bare,un,hok',r',q⟩:=h
    have q':v= .bl true:=q;subst q';obtain rfl:u=Value.bool true:=r';refine⟨rfl,OldK.of_keep λb o e=> ?_,os,bare⟩
    cases q:H b with
    | none=>exact un.keep b o e q (by intro z;exact absurd (show b∈([]:List Addr)from z) (by simp)) (by simp)
    | some u=>
     rcases hO b with z | ⟨ob,xs,z⟩
     ·rw[q]at z;cases z
     ·have z2:=un.frzs b ob _ z
      obtain⟨e1,_⟩:=hok b _ z;obtain⟨e2,_⟩:=hok' b _ z2;rw[e]at e1;cases e1;exact e2
 cases hk:K.lookup a with
 | some o=>
  -- the script is one of the module's own objects
  have e:=KX a o hk;rw[ha]at e;cases e
  refine core (λ_=>none) (λ_=> .inl rfl) (.inr ⟨_,vs.toArray,_,hk,rfl,rfl,rfl,by rw[List.size_toArray,lenV];exact hl,by simpa using rv⟩) (λb u z=>by have z':(none:Option HO)=some u:=z;cases z') (λb z=>absurd rfl z) λz=>absurd rfl z
 | none=>
  refine core (λb=>if b=a then some (.frz { cls:=.type "list",data:=.seq vs.toArray } (.lst (ns.map V.int)))else none) (λb=> ?_) (.inl (.inr ⟨{ cls:=.type "list",data:=.seq vs.toArray },if_pos rfl⟩)) (λb u z=> ?_) (λb z=> ?_) λ_=>hk
  ·by_cases hb:b=a
   ·exact .inr ⟨_,_,if_pos hb⟩
   ·exact .inl (if_neg hb)
  ·by_cases hb:b=a
   ·have z':=(if_pos hb).symm.trans z
    cases z';subst hb;exact⟨ha,by rw[List.length_map];exact hl,vs,_,rv,ha⟩
   ·have z':=(if_neg hb).symm.trans z
    cases z'
  ·by_cases hb:b=a
   ·exact hb
   ·exact absurd (if_neg hb) z
def gI (s:Stmt):Arguments:=match s with
 | .FunctionDef _ a _ _ _ _ _ _ _ _=>a
 | _=> { posonlyargs:=[],args:=[],vararg:=none,kwonlyargs:=[],kw_defaults:=[],kwarg:=none,defaults:=[] }
def dt (s:Stmt):List Stmt:=match s with
 | .FunctionDef _ _ b _ _ _ _ _ _ _=>b
 | _=> []
def aj (s:Stmt):Scope:=match s with
 | .FunctionDef _ _ _ _ _ _ sc _ _ _=>sc
 | _=> { kind:=.function,names:=[],isGenerator:=false,isCoroutine:=false }
abbrev CX0:yT:=λ_ _ _ _ _ _=>False
abbrev E0:XK:=λ_ _ _=>False
theorem A9 {X:Cx}:tj CX0 X E0:=λ_ _ _ _ _ _ _ h=>h.elim
structure Fun (K:PySem.W.Frag)(x qual:Str)(st:Stmt)(f:Addr)(fd:FuncData):Prop where
 ex:∃(oc:Value) (od:Option Addr) (kV doc pm:Value) (an:Option Addr) (cdv ct:Value) (osl:Array (Option Value)),
  fd=PySem.W.fnOf x qual (gI st) (dt st) (aj st) .none kV doc pm an cdv ct/\K.lookup f=some ⟨oc,od,.func fd,osl⟩/\PySem.W.codeIn K cdv qual=true
 kp:PySem.W.keepIn K (.ref f)=true
section
variable {P:Program}{w:World}{K:PySem.W.Frag}{mg:Str->Option Value}{base:Heap}
theorem Fun.ok {x qual:Str}{st:Stmt}{f:Addr}{fd:FuncData}{N ps:List Str}{k:Nat}{sp:Sp}(F:Fun K x qual st f fd)(S:aG N ps (aj st))(len:∀vs H Q E,sp vs H Q E->vs.length=ps.length)
  (hbody:∀(cdv:Value) (A:Around) (outer:List Env) (s:Shared) (H:Hp) (vs:List V) (Q:VK) (E:XK),Room k (A.deeper (envOfC qual (aj st) s.heap.objs.size f cdv))->sp vs H Q E →
   ∃t,PSs (kr CX0 P w K mg base N qual (aj st) f cdv A outer s H E).nox (dt st) t/\t { nx:=λ_ H'=>Q .non H',rt:=Q } (start N vs) H):pP P w K mg base CX0 (k+1) f fd ps sp:=by
 obtain⟨oc,od,kV,doc,pm,an,cdv,ct,osl,rfl,lk,hcd⟩:=F.ex;refine EK lk hcd S len λA outer s H vs Q E hr hsp=> ?_
 obtain⟨t,h,q⟩:=hbody cdv A outer s H vs Q E hr hsp;exact⟨t,h.nox,q⟩
theorem Fun.binds {x qual:Str}{st:Stmt}{f:Addr}{fd:FuncData}{ps:List Str}(F:Fun K x qual st f fd)
  (h:∀(kV doc pm:Value) (an:Option Addr) (cdv ct:Value) (us:List Value),us.length=ps.length->bindArgs (PySem.W.fnOf x qual (gI st) (dt st) (aj st) .none kV doc pm an cdv ct) ⟨us,[]⟩=pure (ps.zip us)):Binds K fd ps []:=by
 obtain⟨oc,od,kV,doc,pm,an,cdv,ct,osl,rfl,lk,hcd⟩:=F.ex;exact .all (h kV doc pm an cdv ct)
theorem C6 {x qual:Str}{st:Stmt}{f:Addr}{oc:Value}{od an:Option Addr}{osl:Array (Option Value)}{kV doc pm cdv ct:Value}(l:K.lookup f=some ⟨oc,od,.func (PySem.W.fnOf x qual (gI st) (dt st) (aj st) .none kV doc pm an cdv ct),osl⟩)
  (c:PySem.W.codeIn K cdv qual=true) (k:PySem.W.keepIn K (.ref f)=true):Fun K x qual st f (PySem.W.fnOf x qual (gI st) (dt st) (aj st) .none kV doc pm an cdv ct):=⟨⟨oc,od,kV,doc,pm,an,cdv,ct,osl,rfl,l,c⟩,k⟩
end
section
variable {X:Cx}
theorem pv (i:Nat){x:Str}{pos:Pos}(hN:X.N[i]? =some x:=by rfl)(hv:rV X.env.scope x:=by first | exact Or.inl rfl | exact Or.inr (Or.inl rfl) | exact Or.inr (Or.inr rfl))(hd:(x == ("__debug__" : Str))=false:=by decide)
  (hcd:(x == ("__classdict__" : Str))=false:=by decide):PE X (.Name x pos) (qg i):=jc hN hv hd hcd
end
theorem iteF {A B:Prop}(h:B):if false=true then A else B:=by
 rw[if_neg Bool.false_ne_true];exact h
theorem iteT {A B:Prop}(h:A):if true=true then A else B:=by
 rw[if_pos rfl];exact h
def Same (H H':Hp):Prop:=∀b o,H b=some o->H' b=some o
theorem Same.refl (H:Hp):Same H H:=λ_ _ h=>h
theorem Same.trans {H H1 H2:Hp}(a:Same H H1)(b:Same H1 H2):Same H H2:=λc o h=>b c o (a c o h)
theorem jn {env:Env}:∀(names:List (Str×NameKind)) (acc:List (Str×Addr)),
  (∀x,(x,NameKind.free)∈names->∃c,env.cells.lookup x=some c) →
  (∀x c,acc.lookup x=some c->env.cells.lookup x=some c) →
  ∃cl,(forIn (m:=Sem) names acc (λx cs=>(if (x.2 == NameKind.free)=true then do let a <-cellOf env x.1;pure (ForInStep.yield ((x.1,a)::cs))else pure (ForInStep.yield cs))))=pure cl ∧
   (∀x c,cl.lookup x=some c->env.cells.lookup x=some c) ∧
   (∀x,(x,NameKind.free)∈names->∃c,cl.lookup x=some c)/\(∀x c,acc.lookup x=some c->∃c',cl.lookup x=some c')
 | [],acc,_,h=>⟨acc,rfl,h,λx hx=>by simp at hx,λx c e=>⟨c,e⟩⟩
 | (n,k)::r,acc,hf,h=>by
  by_cases hk:k=NameKind.free
  ·subst hk
   obtain⟨c,hc⟩:=hf n (by simp)
   have h':∀x c',((n,c)::acc).lookup x=some c'->env.cells.lookup x=some c':=λx c' e=>by
    rw[List.lookup_cons]at e
    cases q:x == n with
    | true=>
     rw[q]at e
     have e2:c=c':=Option.some.inj e
     have e3:x=n:=by simpa using q
     rw[<-e2,e3];exact hc
    | false=>rw[q]at e;exact h x c' e
   obtain⟨cl,e1,e2,e3,e4⟩:=jn r ((n,c)::acc) (λx hx=>hf x (List.mem_cons_of_mem _ hx)) h'
   refine⟨cl,?_,e2,λx hx=> ?_,λx c' e=> ?_⟩
   ·rw[List.forIn_cons]
    simp only[beq_self_eq_true,if_true,cellOf,hc,pure_bind];exact e1
   ·rcases List.mem_cons.mp hx with z | z
    ·have z1:x=n:=by injection z
     subst z1;exact e4 x c (by simp[List.lookup_cons])
    ·exact e3 x z
   ·cases q:x == n with
    | true=>exact e4 x c (by simp[List.lookup_cons,q])
    | false=>exact e4 x c' (by simp[List.lookup_cons,q,e])
  ·have hb:(k == NameKind.free)=false:=by simpa using hk
   obtain⟨cl,e1,e2,e3,e4⟩:=jn r acc (λx hx=>hf x (List.mem_cons_of_mem _ hx)) h
   refine⟨cl,?_,e2,λx hx=> ?_,e4⟩
   ·rw[List.forIn_cons]
    simp only[hb,Bool.false_eq_true,if_false,pure_bind];exact e1
   ·rcases List.mem_cons.mp hx with z | z
    ·have z1:NameKind.free=k:=by injection z
     exact absurd z1.symm hk
    ·exact e3 x z
theorem sV {env:Env}{scope:Scope}(hf:∀x,(x,NameKind.free)∈scope.names->∃c,env.cells.lookup x=some c) :
  ∃cl,closureFor scope env=pure cl/\(∀x c,cl.lookup x=some c->env.cells.lookup x=some c)/\(∀x,(x,NameKind.free)∈scope.names->∃c,cl.lookup x=some c):=by
 obtain⟨cl,e1,e2,e3,_⟩:=jn scope.names [] hf (λx c e=>by simp at e)
 refine⟨cl,?_,e2,e3⟩
 unfold closureFor;refine Eq.trans ?_ (congrArg (λz=>z >>= pure) e1|>.trans (by simp))
 rfl
theorem pI {pr:Program}{wd:World}{Ar:Around}{Rz:Result->Shared->Prop}{s0:Shared}{el tg it0:Expr}{cs:List Expr}{sc:Scope}{ps:Pos}{itv av:Value}{ev:Env}(W:Nat->Shared->Prop)
  (go:∀k st,W k st->wpAny (model pr wd) Ar (pyNext itv) (λr s1=>match r with
   | none=>Rz (.ok .next) s1
   | some v=>wpAny (model pr wd) Ar (letOwnedTupleGo tg itv v) (λ_ s2=>wpAny (model pr wd) Ar (assign tg ev v) (λ_ s3=>
     wpAny (model pr wd) Ar (forIn cs true λc b=>if b=true then do let z <-isTrue c ev (eval c ev);pure (ForInStep.yield z)else pure (ForInStep.yield b)) (λz s4=>
      if z=true then wpAny (model pr wd) Ar (eval el ev) (λy s5=>
       wpAny (model pr wd) Ar (call (.builtin "list.append") [av,y]) (λ_ s6=> ∃m,m<k/\W m s6) (λ_ _=>False) s5) (λ_ _=>False) s4
      else ∃m,m<k/\W m s4) (λ_ _=>False) s3) (λ_ _=>False) s2) (λ_ _=>False) s1) (λ_ _=>False) st)
  (k:Nat) (hk:W k s0):codeAny (model pr wd) Ar (.compLoop (.ListComp el [⟨tg,it0,cs,0⟩] sc ps) 0 itv av ev) Rz s0:=by
 refine codeAny_loop rfl W (λk st hw=> ?_) k hk
 show wpAny (model pr wd) Ar ((compTurn (.ListComp el [⟨tg,it0,cs,0⟩] sc ps) 0 itv av ev).onRaise (λz=>do noteFrame z ev;theTreesLotGoes z)) _ _ st
 refine wpAny_noted ?_
 rw[compTurn_list]
 have no:∀{α:Type} {t:Sem α} {Q Q':α->Shared->Prop} {E':Value->Shared->Prop} {x:Shared},wpAny (model pr wd) Ar t Q (λ_ _=>False) x->(∀y z,Q y z->Q' y z)->wpAny (model pr wd) Ar t Q' E' x:=λh f=>wpAny_mono h f λ_ _ z=>z.elim
 refine wpAny_bind (wpAny_standAt (wpAny_bind (no (go k st hw) λr s1 g1=> ?_)))
 cases r with
 | none=>exact wpAny_pure g1
 | some v=>
  refine wpAny_bind (no g1 λ_ s2 g2=>wpAny_bind (no g2 λ_ s3 g3=>wpAny_bind (no g3 λz s4 g4=> ?_)))
  cases z with
  | false=>exact wpAny_pure (And.intro rfl g4)
  | true=>exact wpAny_bind (wpAny_bind (no g4 λy s5 g5=>wpAny_bind (no g5 λ_ s6 g6=>wpAny_pure (wpAny_pure (And.intro rfl g6)))))
def bn (X:Cx)(scope:Scope)(cl:List (Str×Addr))(N':List Str)(C:Addr)(s₀:Shared)(H₀:Hp)(fp:List Addr):Cx:=
 { X with N:=N',s₀:=s₀,H₀:=H₀,env:=compEnvC scope cl C X.env,outer:=X.stack,stack:=X.stack,ex:=fp,fn:=λx=>scope.names.lookup x == some .cell,xe:=λ_ _=>False }
def fG (src:List (Option Nat))(σ:St):St:=src.map λo=>match o with
 | some i=>(σ[i]?).join
 | none=>none
theorem hV {env:Env}:∀{names:List (Str×NameKind)} {x:Str} {k:NameKind},
  (names.map λ(n,k)=>if (k == NameKind.free&&env.scope.kind == .function&&env.kindOf n == some .cell)then(n,NameKind.cell)else(n,k)).lookup x=some k →
  ∃k',names.lookup x=some k'/\(k=k'\/k'= .free)
 | [],_,_,h=>by simp at h
 | (n,k0)::r,x,k,h=>by
  have ih:=@hV env r x k
  have h':List.lookup x ((if (k0 == NameKind.free&&env.scope.kind == .function&&env.kindOf n == some .cell)=true then(n,NameKind.cell)else(n,k0))::(r.map λ(n,k)=>if (k == NameKind.free&&env.scope.kind == .function&&env.kindOf n == some .cell)then(n,NameKind.cell)else(n,k)))=some k:=h
  by_cases hc:(k0 == NameKind.free&&env.scope.kind == .function&&env.kindOf n == some .cell)=true
  ·rw[if_pos hc]at h'
   rw[List.lookup_cons]at h' ⊢
   cases hx:x == n with
   | true=>
    refine⟨k0,rfl,.inr ?_⟩
    have:=Bool.and_eq_true_iff.mp hc|>.1
    have:=Bool.and_eq_true_iff.mp this|>.1
    simpa using this
   | false=>rw[hx]at h';exact ih h'
  ·rw[if_neg hc]at h'
   rw[List.lookup_cons]at h' ⊢
   cases hx:x == n with
   | true=>rw[hx]at h';exact⟨k0,rfl,.inl (Option.some.inj h').symm⟩
   | false=>rw[hx]at h';exact ih h'
theorem iC {names:List (Str×NameKind)}{x:Str}{k:NameKind}(h:names.lookup x=some k):(x,k)∈names:=PySem.mem_of_lookup h
theorem gM {env:Env}:∀{names:List (Str×NameKind)} {x:Str},names.lookup x=some .free →
  (names.map λ(n,k)=>if (k == NameKind.free&&env.scope.kind == .function&&env.kindOf n == some .cell)then(n,NameKind.cell)else(n,k)).lookup x=some .cell ∨
  (names.map λ(n,k)=>if (k == NameKind.free&&env.scope.kind == .function&&env.kindOf n == some .cell)then(n,NameKind.cell)else(n,k)).lookup x=some .free
 | [],_,h=>by simp at h
 | (n,k0)::r,x,h=>by
  have ih:=@gM env r x
  show List.lookup x ((if (k0 == NameKind.free&&env.scope.kind == .function&&env.kindOf n == some .cell)=true then(n,NameKind.cell)else(n,k0))::_)=_\/List.lookup x ((if (k0 == NameKind.free&&env.scope.kind == .function&&env.kindOf n == some .cell)=true then(n,NameKind.cell)else(n,k0))::_)=_
  rw[List.lookup_cons]at h
  by_cases hc:(k0 == NameKind.free&&env.scope.kind == .function&&env.kindOf n == some .cell)=true
  ·rw[if_pos hc]
   rw[List.lookup_cons]
   cases hx:x == n with
   | true=>exact .inl rfl
   | false=>rw[hx]at h;exact ih h
  ·rw[if_neg hc]
   rw[List.lookup_cons]
   cases hx:x == n with
   | true=>rw[hx]at h;exact .inr h
   | false=>rw[hx]at h;exact ih h
section
variable {X:Cx}
structure LcScope (X:Cx)(scope:Scope)(N':List Str)(src:List (Option Nat)):Prop where
 kind:scope.kind= .function
 cel:∀y∈scope.names,y.2= .cell->scope.names.lookup y.1=some .cell
 loc:∀y∈scope.names,y.2= .local->scope.names.lookup y.1=some .local
 len:src.length=N'.length
 from_:∀(j i:Nat) (x:Str),src[j]? =some (some i)->N'[j]? =some x->X.N[i]? =some x/\scope.names.lookup x=some .free
 free:∀x,(x,NameKind.free)∈scope.names->X.env.kindOf x=some .cell\/X.env.kindOf x=some .free
def By (K:PySem.W.Frag)(wi:TI)(src:List (Option Nat))(g:TG)(tc:TT)(te:TE):TE:=λσ H Q=>wi σ H λJ H1=> ∀D,H1 D=none->K.lookup D=none →
 ∃W:Nat->Nat->St->List V->Hp->Prop,(∃m,W 0 m (fG src σ) [] (upd H1 D (.lst [])))/\∀i m σ ys H,W i m σ ys H->H D=some (.lst ys) ∧
  ((J.stop i H/\Q (.ref D) H)\/(J.go i H/\ys.length<sizeLine/\∀x H',J.yld i H x H'->g x σ H' λσ2 H2=>tc σ2 H2 λb H3=>
   if b=true then te σ2 H3 λv H4=>H4 D=some (.lst ys)/\∃m',m'<m/\W (i+1) m' σ2 (ys++ [v]) (upd H4 D (.lst (ys++ [v])))else ∃m',m'<m/\W (i+1) m' σ2 ys H3))
def uO (X:Cx)(ifs:List Expr)(t:TT):Prop:=
 ∀(pins:List (Addr×Obj)) (s:Shared) (σ:St) (H:Hp) (Q:Bool->Hp->Prop),Inv X pins σ H s->t σ H Q →
  wpAny (model X.prog X.w) X.A (forIn ifs true λc r=>if r=true then do let ok <-isTrue c X.env (eval c X.env);pure (ForInStep.yield ok)else pure (ForInStep.yield r)) (TP X pins σ Q) X.xe s
def qh:TT:=λ_ H Q=>Q true H
theorem oO:uO X [] qh:=λ_ _ _ H _ I h=>wpAny_tests_nil ⟨H,I,h⟩
theorem zW {c:Expr}{t:TT}(h:PT X c t):uO X [c] t:=λpins s σ H Q I q=>wpAny_tests_one (h pins s σ H Q I q)
theorem ku:∀(names:List (Str×NameKind)) (h:Heap) (acc:List (Str×Addr)),(∀x y c,acc.lookup x=some c->acc.lookup y=some c->x=y)->(∀x c,acc.lookup x=some c->c<h.objs.size) →
  (∀x c,(cellsFrom h.objs.size names acc).lookup x=some c->acc.lookup x=some c\/(h.objs.size<=c/\(pushCells h names).IsCell c none)) ∧
  (∀x y c,(cellsFrom h.objs.size names acc).lookup x=some c->(cellsFrom h.objs.size names acc).lookup y=some c->x=y) ∧
  (∀x,(x,NameKind.cell)∉names->(cellsFrom h.objs.size names acc).lookup x=acc.lookup x) ∧
  (∀x,((x,NameKind.cell)∈names\/∃c,acc.lookup x=some c)->∃c,(cellsFrom h.objs.size names acc).lookup x=some c) ∧
  (∀x c,(x,NameKind.cell)∈names->(cellsFrom h.objs.size names acc).lookup x=some c->h.objs.size<=c)
 | [],h,acc,hi,_=>⟨λ_ _ e=> .inl e,hi,λ_ _=>rfl,λx e=>e.elim (λz=>absurd z List.not_mem_nil) id,λ_ _ z=>absurd z List.not_mem_nil⟩
 | (n,k)::r,h,acc,hi,hl=>by
  unfold cellsFrom pushCells
  by_cases hk:k= .cell
  ·subst hk
   rw[if_pos (by rfl),if_pos (by rfl)]
   have hz:(h.push { cls:=.type "cell",data:=.cell none }).objs.size=h.objs.size+1:=Heap.size_push ..
   have lk:∀x,((n,h.objs.size)::acc).lookup x=if x=n then some h.objs.size else acc.lookup x:=λx=>by
    rw[List.lookup_cons]
    by_cases e:x=n
    ·rw[if_pos e,beq_iff_eq.mpr e]
    ·rw[if_neg e,beq_eq_false_iff_ne.mpr e]
   obtain⟨c1,c2,c3,c4,c5⟩:=ku r (h.push { cls:=.type "cell",data:=.cell none }) ((n,h.objs.size)::acc) (λx y c e1 e2=>by
     rw[lk]at e1 e2
     by_cases q1:x=n
     ·by_cases q2:y=n
      ·rw[q1,q2]
      ·rw[if_pos q1]at e1;rw[if_neg q2]at e2
       cases e1;exact absurd (hl _ _ e2) (Nat.lt_irrefl _)
     ·rw[if_neg q1]at e1
      by_cases q2:y=n
      ·rw[if_pos q2]at e2
       cases e2;exact absurd (hl _ _ e1) (Nat.lt_irrefl _)
      ·rw[if_neg q2]at e2;exact hi x y c e1 e2) (λx c e=>by
     rw[lk]at e;rw[hz]
     by_cases q:x=n
     ·rw[if_pos q]at e;cases e;exact Nat.lt_succ_self _
     ·rw[if_neg q]at e;exact Nat.lt_succ_of_lt (hl x c e))
   rw[hz]at c1 c2 c3 c4 c5;refine⟨λx c e=> ?_,c2,λx hx=> ?_,λx hx=> ?_,λx c hx e=> ?_⟩
   ·rcases c1 x c e with z | z
    ·rw[lk]at z
     by_cases q:x=n
     ·rw[if_pos q]at z;cases z
      exact .inr ⟨Nat.le_refl _,_,pushCells_keeps r _ _ _ (Heap.get?_push_size _ rfl),rfl⟩
     ·rw[if_neg q]at z;exact .inl z
    ·exact .inr ⟨Nat.le_of_succ_le z.1,z.2⟩
   ·rw[c3 x λz=>hx (List.mem_cons_of_mem _ z),lk,if_neg λz=>hx (by rw[z];exact List.mem_cons_self)]
   ·refine c4 x ?_
    rcases hx with hx | hx
    ·rcases List.mem_cons.mp hx with z | z
     ·cases z
      exact .inr ⟨_,by rw[lk,if_pos rfl]⟩
     ·exact .inl z
    ·by_cases q:x=n
     ·exact .inr ⟨_,by rw[lk,if_pos q]⟩
     ·exact .inr (by rw[lk,if_neg q];exact hx)
   ·rcases List.mem_cons.mp hx with z | z
    ·have q:x=n:=(Prod.mk.inj z).1
     rcases c1 x c e with y | y
     ·rw[lk,if_pos q]at y;cases y;exact Nat.le_refl _
     ·exact Nat.le_of_succ_le y.1
    ·exact Nat.le_of_succ_le (c5 x c z e)
  ·have hb:¬ (k == NameKind.cell)=true:=λz=>hk (by simpa using z)
   rw[if_neg hb,if_neg hb];obtain⟨c1,c2,c3,c4,c5⟩:=ku r h acc hi hl;exact⟨c1,c2,λx hx=>c3 x λz=>hx (List.mem_cons_of_mem _ z),λx hx=>c4 x (hx.imp (λz=>(List.mem_cons.mp z).resolve_left λz=>hk (Prod.mk.inj z).2.symm) id),λx c hx=>c5 x c ((List.mem_cons.mp hx).resolve_left λz=>hk (Prod.mk.inj z).2.symm)⟩
theorem vh {M:Model}{A:Around}{E:Value->Shared->Prop}{s:Shared}{scope:Scope}{globals:Addr}{cl:List (Str×Addr)}{qual:Str}{env:Env}{Q:Env->Shared->Prop}
  (q:Q (newEnv scope s.heap.objs.size globals (cellsFrom (s.heap.objs.size+1) scope.names cl) qual none .none (some env) builtinsNs) { s with heap:=pushCells (s.heap.push { cls:=.type "dict",data:=.dict #[] }) scope.names }) :
  wpAny M A (newFunctionEnv scope globals cl [] qual none .none (some env)) Q E s:=by
 simp only[newFunctionEnv,Option.isSome_some,if_true];refine wpAny_bind (wpAny_alloc (wpAny_bind (wpAny_layCells _ (λname kind cells=>by cases hkc:kind == NameKind.cell <;> simp[hkc]) _ _ _ _ ?_)))
 rw[show({ s with heap:=s.heap.push { cls:=.type "dict",data:=.dict #[] } }:Shared).heap.objs.size=s.heap.objs.size+1 from Heap.size_push ..]
 rw[List.forIn_nil];exact wpAny_bind (wpAny_pure (wpAny_pure q))
theorem ud {elt tg iter:Expr}{ifs:List Expr}{scope:Scope}{pos fpos:Pos}{N':List Str}{src:List (Option Nat)}{wi:TI}{g:TG}{tc:TT}{te:TE}{use:Option (Value->Sem Unit)}{Qf:Value->Shared->Prop}
  {pins:List (Addr×Obj)} {s:Shared} {σ:St} {H:Hp} {Q:VK}
  (hc:X.calm=true) (S:LcScope X scope N' src) (hi:PI X tg iter wi)
  (block:∀cl C s₀ H₀ fp,PG (bn X scope cl N' C s₀ H₀ fp) tg g/\uO (bn X scope cl N' C s₀ H₀ fp) ifs tc/\PE (bn X scope cl N' C s₀ H₀ fp) elt te)
  (hs:∀x,foldedSetIterable iter X.env x=pure x) (I:Inv X pins σ H s) (h:By X.K wi src g tc te σ H Q)
  (hend:∀(D C:Addr) (H':Hp) (s':Shared),(∃m,s'.heap.Ns C m)->(∀h',Heap.SameBut C s'.heap h'->Inv X pins σ H' { s' with heap:=h' })->(H' C=none/\C≠X.env.locals/\X.s₀.heap.objs.size<=C/\(∀x c,X.env.cells.lookup x=some c->c≠C)/\∀p∈X.pn++pins,p.1≠C)->Q (.ref D) H' →
   compPost (model X.prog X.w) X.A X.xe use Qf (.ref D) C (.ok .next) s') :
  wpAny (model X.prog X.w) X.A (comprehension (.ListComp elt [⟨tg,iter,ifs,0⟩] scope pos) scope X.env fpos (newList []) false (eval iter X.env) use) Qf X.xe s:=by
 have hcell:∀x,(x,NameKind.free)∈scope.names->∃c,X.env.cells.lookup x=some c:=λx hx=>I.ok.has x (S.free x hx)
 obtain⟨cl0,hcl,cl01,cl02⟩:=sV (env:=X.env) (scope:=scope) hcell;refine wpAny_comprehension_free (use:=use) rfl hs hcl S.kind S.loc (cv (hi pins s σ H _ I h) λv s1 h1=>cv h1 λitv s2 h2=> ?_)
 obtain⟨it,fp,tn,J,H2,e,I2,T,st2,f2,hq⟩:=h2;subst e
 -- the new list
 refine wpAny_newObj_type ?_
 have hD:H2 s2.heap.objs.size=none:=I2.hok.fresh (Nat.le_refl _)
 have hDK:X.K.lookup s2.heap.objs.size=none:=by
  cases q:X.K.lookup s2.heap.objs.size with
  | none=>rfl
  | some o=>exact absurd (Heap.lt_size (I2.kIn _ o q)) (Nat.lt_irrefl _)
 obtain⟨W,⟨m0,w0⟩,turn⟩:=hq s2.heap.objs.size hD hDK
 have I3:=I2.lnew (its:=[]) (ys:=[]) (t':=s2.toks) .nil (Nat.zero_le _)
 generalize hs3:({ s2 with heap:=s2.heap.push { cls:=.type "list",data:=.seq ([]:List Value).toArray },toks:=s2.toks }:Shared)=s3 at I3
 generalize hH3:upd H2 s2.heap.objs.size (.lst [])=H3 at I3 w0
 have hDsz:s2.heap.objs.size<s3.heap.objs.size:=by rw[<-hs3];simp[Heap.size_push]
 have fr3:∀b∈fp,H3 b=none:=λb hb=>by
  obtain⟨o,eo,_⟩:=T.obj _ _ st2 b hb;rw[<-hH3,ay (Nat.ne_of_lt (Heap.lt_size eo))];exact(f2 b hb).1
 have st3:tn 0 s3.heap:=T.keep _ _ _ st2 λb hb o e=>by rw[<-hs3];exact Heap.get?_push_of_some _ e
 have f3:∀b∈fp,jp X pins H3 b:=λb hb=>⟨fr3 b hb,(f2 b hb).2⟩
 have D3:H3 s2.heap.objs.size=some (.lst []):=by rw[<-hH3];exact aA
 generalize s2.heap.objs.size=D at*
 clear hs3 hH3 hD hDK
 -- the block's frame
 refine vh ?_
 have old:∀b o,s3.heap.get? b=some o->(pushCells (s3.heap.push { cls:=.type "dict",data:=.dict #[] }) scope.names).get? b=some o:=λb o e=>pushCells_keeps _ _ b o (Heap.get?_push_of_some _ e)
 have hns₁:(pushCells (s3.heap.push { cls:=.type "dict",data:=.dict #[] }) scope.names).Ns s3.heap.objs.size (λ_=>none):=(Heap.Ns.new s3.heap (.type "dict")).keeps (pushCells_keeps _ _)
 have hz3:(s3.heap.push { cls:=.type "dict",data:=.dict #[] }).objs.size=s3.heap.objs.size+1:=Heap.size_push ..
 have lt0:∀x c,cl0.lookup x=some c->c<s3.heap.objs.size:=λx c e=>let ⟨_,ic⟩:=I3.cell x c (cl01 x c e);ic.lt
 obtain⟨c1,c2,c3,c4,c5⟩:=ku scope.names (s3.heap.push { cls:=.type "dict",data:=.dict #[] }) cl0 (λx y c e1 e2=>I3.ok.inj x y c (cl01 x c e1) (cl01 y c e2)) λx c e=>by rw[hz3];exact Nat.lt_succ_of_lt (lt0 x c e)
 rw[hz3]at c1 c2 c3 c4 c5
 generalize hcl':cellsFrom (s3.heap.objs.size+1) scope.names cl0=cl at*
 generalize hh₁:pushCells (s3.heap.push { cls:=.type "dict",data:=.dict #[] }) scope.names=h₁ at*
 have below:∀b o,s3.heap.get? b=some o->b≠s3.heap.objs.size:=λb o e=>Nat.ne_of_lt (Heap.lt_size e)
 -- a cell of the block's: one from around,or a new one
 have cl1:∀x c,cl.lookup x=some c->X.env.cells.lookup x=some c\/(s3.heap.objs.size<c/\h₁.IsCell c none):=λx c e=>(c1 x c e).imp (cl01 x c) id
 generalize hC:s3.heap.objs.size=C at*
 have stk:∀b,b≠X.env.locals->b∉X.fs->b∉pB X.stack:=λb h1 h2 z=>(List.mem_cons.mp (I3.stkSub b z)).elim h1 h2
 have apart:∀b∈fp,∀x c,cl.lookup x=some c->c≠b:=λb hb x c e=>by
  rcases cl1 x c e with z | z
  ·exact(f3 b hb).2.2.2.2.1 x c z
  ·obtain⟨o,eo,_⟩:=T.obj _ _ st3 b hb
   have h1:=Heap.lt_size eo;rw[hC]at h1;exact Nat.ne_of_gt (Nat.lt_trans h1 z.1)
 have I4:Inv (bn X scope cl N' C s3 H3 fp) pins (fG src σ) H3 { s3 with heap:=h₁ }:=by
  refine⟨⟨I3.ok.mod,S.kind,I3.ok.glob,I3.ok.blt,Nat.le_of_eq hC,c2,λx hx=> ?_,λx c hx e=>Nat.le_of_lt (hC▸c5 x c (iC (beq_iff_eq.mp hx)) e),I3.ok.hd,I3.ok.frames,.inl rfl,
    λb hb=>⟨?_,λx c e=>apart b hb x c e⟩,I3.bs,Nat.le_trans I3.ok.bsz I3.sz,λb o e z=> ?_,λb hb=>stk b (f3 b hb).2.1 (f3 b hb).2.2.1,I3.stack,I3.stkFree⟩,
   rfl,I3.bare,Un.kept old,⟨_,hns₁,λj x v e1 e2 e3=> ?_⟩,λx c e=> ?_,I3.hok.fresh (Nat.le_of_eq hC),λx c e=>(cl1 x c e).elim (I3.freeC x c) λz=>I3.hok.fresh (by rw[hC];exact Nat.le_of_lt z.1),λp hp=> ?_,I3.hok.kept old,?_⟩
  ·have key:∀k,(relabel scope X.env).names.lookup x=some k->(k= .cell\/k= .free)->∃c,cl.lookup x=some c:=λk e hk=>by
    obtain⟨k',e',z⟩:=hV e
    have hk':k'= .cell\/k'= .free:=z.elim (λz=>z▸hk) .inr
    rcases hk' with q | q
    ·exact c4 x (.inl (q▸iC e'))
    ·exact c4 x (.inr (cl02 x (q▸iC e')))
   rcases hx with hx | hx
   ·exact key _ hx (.inl rfl)
   ·exact key _ hx (.inr rfl)
  ·obtain⟨o,eo,_⟩:=T.obj _ _ st3 b hb
   show b≠C
   exact below b o eo
  ·have z':b∈fp:=z
   obtain⟨_,_,_,z1,_⟩:=f3 b z';rcases z1 with z1 | z1
   ·exact I3.ok.noex b o e z1
   ·exact absurd (Nat.lt_of_lt_of_le (Heap.lt_size (I3.ok.bs b o e).1) z1) (Nat.lt_irrefl _)
  ·unfold fG at e2
   rw[List.getElem?_map]at e2
   cases q:src[j]? with
   | none=>rw[q]at e2;simp at e2
   | some o=>
    rw[q]at e2
    cases o with
    | none=>simp at e2
    | some i=>
     have e2':(σ[i]?).join=some v:=by simpa using e2
     have e2'':σ[i]? =some (some v):=by
      cases q2:σ[i]? with
      | none=>rw[q2]at e2';simp at e2'
      | some z=>rw[q2]at e2';simp at e2';rw[e2']
     obtain⟨hN,hfree⟩:=S.from_ j i x q e1
     have hm:=iC hfree
     have hk:=S.free x hm;obtain⟨m,hn,hl⟩:=I3.loc
     have hv:rV X.env.scope x:=by
      rcases hk with z | z
      ·exact .inr (.inl z)
      ·exact .inr (.inr z)
     obtain⟨u,r,l⟩:=hl i x v hN e2'' hv;refine⟨u,r,.inr ⟨?_,?_⟩⟩
     ·exact gM hfree
     ·rcases l with⟨z,_⟩ | ⟨_,c,ec,ic⟩
      ·rcases hk with z' | z' <;> rw[z']at z <;> cases z
      ·obtain⟨c',ec0⟩:=cl02 x hm
       have ec':cl.lookup x=some c':=(c3 x λz=>by have:=S.cel _ z rfl;rw[hfree]at this;cases this).trans ec0
       have:=cl01 x c' ec0;rw[ec]at this;cases this;obtain⟨o,ho,hd⟩:=ic;exact⟨c,ec',o,old _ _ ho,hd⟩
  ·rcases cl1 x c e with z | z
   ·obtain⟨v,o,ho,hd⟩:=I3.cell x c z
    exact⟨v,o,old _ _ ho,hd⟩
   ·exact⟨none,z.2⟩
  ·obtain⟨e,n,ne,nf,d⟩:=I3.pin p hp
   exact⟨old _ _ e,n,below _ _ e,stk _ ne nf,d⟩
  ·show(fG src σ).length=N'.length
   unfold fG;rw[List.length_map];exact S.len
 obtain⟨bG,bI,bE⟩:=block cl C s3 H3 fp
 have stat:∀{H':Hp},(∀b∈fp,H' b=none)->∀b∈fp,jp (bn X scope cl N' C s3 H3 fp) pins H' b:=λhn b hb=>by
  obtain⟨o,eo,_⟩:=T.obj _ _ st3 b hb;exact⟨hn b hb,below b o eo,stk b (f3 b hb).2.1 (f3 b hb).2.2.1,.inl hb,apart b hb,(f3 b hb).2.2.2.2.2⟩
 have st4:tn 0 h₁:=T.keep _ _ _ st3 λb hb o e=>old b o e
 -- behind the block
 have after:∀(H':Hp) (s':Shared) (σ':St),Inv (bn X scope cl N' C s3 H3 fp) pins σ' H' s'->Q (.ref D) H' →
   compPost (model X.prog X.w) X.A X.xe use Qf (.ref D) C (.ok .next) s':=λH' s' σ' I' q=>by
  obtain⟨m,hn,_⟩:=id I'.loc
  have fC:X.s₀.heap.objs.size<=C:=by rw[<-hC];exact I3.sz
  have ltC:∀b o,s3.heap.get? b=some o->b<C:=λb o e=>by rw[<-hC];exact Heap.lt_size e
  refine hend D C H' s' ⟨m,hn⟩ (λh' hsb=> ?_) ⟨I'.free,?_,fC,λx c e z=> ?_,λp hp z=> ?_⟩ q
  rotate_left
  ·have:=I3.lt;rw[hC]at this;exact Nat.ne_of_gt this
  ·obtain⟨v,ic⟩:=I3.cell x c e
   have:=ic.lt;rw[hC,z]at this;exact Nat.lt_irrefl _ this
  ·have:=ltC _ _ (I3.pin p hp).1;rw[z]at this;exact Nat.lt_irrefl _ this
  have u:Un (pB X.stack) fp H3 H' s3.heap s'.heap:=I'.base
  have lift:∀b o,s3.heap.get? b=some o->∀o',s'.heap.get? b=some o'->h'.get? b=some o':=λb o e o' e'=>hsb.extBut b o' (below b o e) e'
  have u':Un (pB X.stack) fp H3 H' s3.heap h':=
   ⟨λb o e n hb hx=>lift b o e o (u.keep b o e n hb hx),λb o e n hb hx=>by
     obtain⟨sl,z⟩:=u.slot b o e n hb hx;exact⟨sl,lift b o e _ z⟩,u.free,λb o e hx=>by
     obtain⟨o',z⟩:=u.there b o e hx;exact⟨o',lift b o e _ z⟩,u.tups,u.frzs,u.tbls⟩
  have hCn:H' C=none:=I'.free
  have hok':HOk X.prog X.w H' h':=λb ob e=>by
   refine(I'.hok b ob e).stay (λc w' hc' q'=>(hsb.2 c ?_).trans q') (λ_ q=>q) λ_ _ q=>q
   rintro rfl
   rcases hc' with rfl | hc'
   ·rw[hCn]at e;cases e
   ·rw[hCn]at hc';cases hc'
  have I5:Inv X pins σ H' { s' with heap:=h' }:=I3.call' (s':={ s' with heap:=h' }) (ch:=fp) I'.os u' hok' I'.bare λb hb=>⟨(f3 b hb).2.2.2.1,(f3 b hb).2.1,(f3 b hb).2.2.2.2.1,(f3 b hb).2.2.2.2.2⟩
  exact I5
 have loop:codeAny (model X.prog X.w) X.A (.compLoop (.ListComp elt [⟨tg,iter,ifs,0⟩] scope pos) 0 (.ref it) (.ref D) (compEnvC scope cl C X.env))
   (compPost (model X.prog X.w) X.A X.xe use Qf (.ref D) C) { s3 with heap:=h₁ }:=by
  refine pI (λn s'=> ∃i σ' ys H',Inv (bn X scope cl N' C s3 H3 fp) pins σ' H' s'/\tn i s'.heap/\(∀b∈fp,H' b=none)/\W i n σ' ys H') ?_ m0 ⟨0,_,[],H3,I4,st4,fr3,w0⟩
  rintro n s5 ⟨i,σ5,ys,H5,I5,st5,fr5,w5⟩
  obtain⟨hDl,alt⟩:=turn i n σ5 ys H5 w5;rcases alt with⟨stop,qn⟩ | ⟨go,hlen,step⟩
  ·refine cv (T.done (bn X scope cl N' C s3 H3 fp) rfl rfl rfl hc i pins s5 σ5 H5 _ I5 (stat fr5) st5 stop) λr s6 ⟨hr,I6⟩=> ?_
   subst hr;exact after H5 s6 σ5 I6 qn
  ·refine cv (T.item (bn X scope cl N' C s3 H3 fp) rfl rfl rfl hc i pins s5 σ5 H5 _ I5 (stat fr5) st5 go) λr s6 ⟨u,hr,h6⟩=> ?_
   subst hr;refine cv h6 λ_ s7 hh_=> ?_
   obtain⟨x,H7,I7,r7,y7,st7,fr7⟩:=hh_
   have I7':=I7.pinned (stat fr7) (T.obj _ _ st7);refine cv (bG _ s7 σ5 H7 x u _ I7' r7 (step x H7 y7)) λ_ s8 hh_=> ?_
   obtain⟨σ8,H8,I8,q8⟩:=hh_;refine cv (bI _ s8 σ8 H8 _ I8 q8) λok s9 hh_=> ?_
   obtain⟨H9,I9,q9⟩:=hh_
   have again:∀{σx:St} {Hx:Hp} {sx:Shared} {ys':List V},Inv (bn X scope cl N' C s3 H3 fp) (pins++lN fp s7.heap) σx Hx sx->(∃m',m'<n/\W (i+1) m' σx ys' Hx) →
     ∃m,m<n/\∃i σ' ys H',Inv (bn X scope cl N' C s3 H3 fp) pins σ' H' sx/\tn i sx.heap/\(∀b∈fp,H' b=none)/\W i m σ' ys H':=λ{σx Hx sx ys'} Ix nx=>by
    obtain⟨m',hm,wx⟩:=nx;refine⟨m',hm,i+1,σx,ys',Hx,Ix.unpinned,T.keep _ _ _ st7 λb hb o e=>(Ix.pin (b,o) (List.mem_append_right _ (List.mem_append_right _ (gD hb e)))).1,λb hb=> ?_,wx⟩
    obtain⟨o,e,d⟩:=T.obj _ _ st7 b hb;exact(Ix.pin (b,o) (List.mem_append_right _ (List.mem_append_right _ (gD hb e)))).2.1
   cases ok with
   | false=>
    rw[if_neg Bool.false_ne_true]at q9 ⊢
    exact again I9 q9
   | true=>
    rw[if_pos rfl]at q9 ⊢;refine cv (bE _ s9 σ8 H9 _ I9 q9) λv s10 hh_=> ?_
    obtain⟨y,H10,I10,r10,hD10,q10⟩:=hh_;refine cv (nF _ s10 σ8 H10 (.ref D) [y] (.ref D) [v] (λ_ H'=>H'=upd H10 D (.lst (ys++ [y]))) I10 rfl (.cons r10 .nil) ⟨D,ys,y,rfl,rfl,hD10,hlen,rfl⟩) λ_ s11 hh_=> ?_
    obtain⟨_,H11,I11,_,e11⟩:=hh_;subst e11;exact again I11 q10
 exact codeAny_compStart_list loop (T.self _ 0 _ _ _ st4 loop)
theorem qJ {elt tg iter:Expr}{ifs:List Expr}{scope:Scope}{pos:Pos}{N':List Str}{src:List (Option Nat)}{wi:TI}{g:TG}{tc:TT}{te:TE}
  (hc:X.calm=true) (S:LcScope X scope N' src) (hi:PI X tg iter wi)
  (block:∀cl C s₀ H₀ fp,PG (bn X scope cl N' C s₀ H₀ fp) tg g/\uO (bn X scope cl N' C s₀ H₀ fp) ifs tc/\PE (bn X scope cl N' C s₀ H₀ fp) elt te)
  (hs:∀x,foldedSetIterable iter X.env x=pure x:=by intro _;rfl) :
  PE X (.ListComp elt [⟨tg,iter,ifs,0⟩] scope pos) (By X.K wi src g tc te):=by
 intro pins s σ H Q I h;rw[eval_ListComp];exact ud (use:=none) hc S hi block hs I h λD C H' s' ⟨m,hn⟩ inv _ q=>⟨m,hn,λh' hsb=>⟨.ref D,H',inv h' hsb,rfl,q⟩⟩
theorem A7 {elt tg iter:Expr}{ifs:List Expr}{scope:Scope}{pos py spos:Pos}{N':List Str}{src:List (Option Nat)}{wi:TI}{g:TG}{tc:TT}{te:TE}{i:Nat}{y:Str}
  (hc:X.calm=true) (S:LcScope X scope N' src) (hi:PI X tg iter wi)
  (block:∀cl C s₀ H₀ fp,PG (bn X scope cl N' C s₀ H₀ fp) tg g/\uO (bn X scope cl N' C s₀ H₀ fp) ifs tc/\PE (bn X scope cl N' C s₀ H₀ fp) elt te)
  (hN:X.N.Nodup) (hiy:X.N[i]? =some y) (hy:Loc X.env.scope y) (hsw:swapsWith (.ListComp elt [⟨tg,iter,ifs,0⟩] scope pos) (some (.Name y py)) spos.line X.env=pure true)
  (hf:X.fn y=true\/X.env.scope.names.lookup y=some .local) (hs:∀x,foldedSetIterable iter X.env x=pure x:=by intro _;rfl) :
  PS X (.Assign [.Name y py] (.ListComp elt [⟨tg,iter,ifs,0⟩] scope pos) spos) (wv (By X.K wi src g tc te) (x8 i)):=by
 intro pins s σ H D I h;rw[exec_Assign_Name_used _ _ _ _ hsw];refine wpAny_bind (wpAny_standAt (wpAny_bind ?_))
 show wpAny (model X.prog X.w) X.A (do let _ <-comprehension (.ListComp elt [⟨tg,iter,ifs,0⟩] scope pos) scope X.env _ (newList []) false (eval iter X.env) (some (assign (.Name y py) X.env))) _ _ s
 refine wpAny_bind (cv (ud (use:=some (assign (.Name y py) X.env)) (Qf:=λ_ s'=>SP X pins D .next s') (Q:=λv H'=>D.nx (σ.set i (some v)) H') hc S hi block hs I h λL C H' s' ⟨m,hn⟩ inv ⟨c0,c1,c2,c3,c4⟩ q=> ?_) λ_ s' hq=>wpAny_pure (wpAny_pure hq))
 have I0:Inv X pins σ H' s':=inv s'.heap (Heap.SameBut.refl ..)
 show wpAny (model X.prog X.w) X.A (assign (.Name y py) X.env (.ref L)) _ _ s'
 refine wpAny_assign_Name (nh I0 hN hiy hy (v:=.ref L) rfl (λs2 I2 ⟨b,sb,hb⟩=> ?_) hf)
 have hbC:C≠b:=by
  rcases hb with z | z
  ·rw[z];exact c1
  ·exact λw=>c3 y b z w.symm
 refine⟨m,hn.sameBut sb hbC,λh' hsb=> ?_⟩
 exact⟨_,H',I2.turned (t':=s2.toks) (λb' o hb' e=>(hsb.2 b' hb').trans e) c0 c1 (.inr c2) c3 c4,q⟩
end
end L2
namespace Tr
open PySem PySem.Spec PyProof.Rows L2
inductive T where
 | non | bl (b:Bool) | int (i:Int) | str (x:Str) | tup (l:List T) | lst (l:List T)
 /-- the law's script: a list of ints that is only read -/
 | scr (l:List Int)
 /-- a dict: its keys,its values -/
 | dct (ks vs:List T)
def Bc:T->Option Key
 | .int i=>some (.inl i)
 | .str x=>some (.inr x)
 | _=>none
def jl:List T->Option (List Key)
 | [] =>some []
 | t::l=>match Bc t,jl l with
  | some k,some r=>some (k::r)
  | _,_=>none
def aQ:T->Option (List Key)
 | .tup l=>jl l
 | _=>none
inductive Rs (α:Type) where
 | ok (a:α) | err (c:Str) | bad
def Rs.bind {α β:Type}(x:Rs α)(f:α->Rs β):Rs β:=match x with
 | .ok a=>f a
 | .err c=> .err c
 | .bad=> .bad
instance:Monad Rs where
 pure:=Rs.ok
 bind:=Rs.bind
@[simp] theorem ax {α β:Type} (a:α) (f:α->Rs β):(Rs.ok a >>= f)=f a:=rfl
@[simp] theorem Fe {α:Type} (a:α):(pure a:Rs α)=Rs.ok a:=rfl
@[simp] theorem EQ {α β:Type} (f:α->Rs β):((Rs.bad:Rs α) >>= f)= .bad:=rfl
@[simp] theorem EM {α β:Type} (c:Str) (f:α->Rs β):((Rs.err c:Rs α) >>= f)= .err c:=rfl
abbrev Ow:=Addr->Prop
mutual
def Rep (K:PySem.W.Frag)(O:Ow)(H:Hp):T->V->Prop
 | .non,v=>v= .non
 | .bl b,v=>v= .bl b
 | .int i,v=>v= .int i
 | .str x,v=>v= .str x
 | .tup l,v=> ∃a vs,v= .ref a/\¬ O a/\H a=some (.tup vs)/\Reps K O H l vs
 | .lst l,v=> ∃a vs,v= .ref a/\¬ O a/\H a=some (.lst vs)/\Reps K O H l vs
 | .scr l,v=> ∃a,v= .ref a/\¬ O a/\SqL K H a (l.map V.int)
 | .dct ks ts,v=> ∃a kvs,v= .ref a/\¬ O a/\Rd H a (.dT kvs)/\ks.map aQ=kvs.map (λp=>some p.1)/\Reps K O H ts (kvs.map (·.2))
def Reps (K:PySem.W.Frag)(O:Ow)(H:Hp):List T->List V->Prop
 | [],vs=>vs= []
 | t::r,vs=> ∃v ws,vs=v::ws/\Rep K O H t v/\Reps K O H r ws
end
def SameO (P:Ow)(H H':Hp):Prop:=∀b o,H b=some o->¬ P b->H' b=some o
theorem SameO.of {P:Ow}{H H':Hp}(h:Same H H'):SameO P H H':=λb o e _=>h b o e
theorem Rd.keepO {P:Ow}{H H':Hp}{a:Addr}{u:HO}(h:SameO P H H')(n:¬ P a)(q:Rd H a u):Rd H' a u:=q.elim (λe=> .inl (h _ _ e n)) λ⟨o,e⟩=> .inr ⟨o,h _ _ e n⟩
theorem SqL.keep {K:PySem.W.Frag}{P:Ow}{H H':Hp}{a:Addr}{vs:List V}(h:SameO P H H')(n:¬ P a)(q:SqL K H a vs):SqL K H' a vs:=by
 rcases q with(q | ⟨o,q⟩) | q
 ·exact .inl (.inl (h _ _ q n))
 ·exact .inl (.inr ⟨o,h _ _ q n⟩)
 ·exact .inr q
mutual
theorem Rep.keep {K:PySem.W.Frag}{O P:Ow}{H H':Hp}(h:SameO P H H')(sub:∀a,P a->O a):∀{t:T} {v:V},Rep K O H t v->Rep K O H' t v
 | .non,_,r=>by unfold Rep at r ⊢;exact r
 | .bl _,_,r=>by unfold Rep at r ⊢;exact r
 | .int _,_,r=>by unfold Rep at r ⊢;exact r
 | .str _,_,r=>by unfold Rep at r ⊢;exact r
 | .tup l,_,r=>by
  unfold Rep at r ⊢;obtain⟨a,vs,e,n,q,z⟩:=r
  exact⟨a,vs,e,n,h _ _ q (λp=>n (sub a p)),Reps.keep h sub z⟩
 | .lst l,_,r=>by
  unfold Rep at r ⊢;obtain⟨a,vs,e,n,q,z⟩:=r
  exact⟨a,vs,e,n,h _ _ q (λp=>n (sub a p)),Reps.keep h sub z⟩
 | .scr l,_,r=>by
  unfold Rep at r ⊢;obtain⟨a,e,n,q⟩:=r
  exact⟨a,e,n,SqL.keep h (λp=>n (sub a p)) q⟩
 | .dct ks ts,_,r=>by
  unfold Rep at r ⊢;obtain⟨a,kvs,e,n,q,k,z⟩:=r;exact⟨a,kvs,e,n,Rd.keepO h (λp=>n (sub a p)) q,k,Reps.keep h sub z⟩
theorem Reps.keep {K:PySem.W.Frag}{O P:Ow}{H H':Hp}(h:SameO P H H')(sub:∀a,P a->O a):∀{l:List T} {vs:List V},Reps K O H l vs->Reps K O H' l vs
 | [],_,r=>by unfold Reps at r ⊢;exact r
 | t::l,_,r=>by
  unfold Reps at r ⊢;obtain⟨v,ws,e,p,q⟩:=r;exact⟨v,ws,e,Rep.keep h sub p,Reps.keep h sub q⟩
end
mutual
theorem Rep.less {K:PySem.W.Frag}{O O':Ow}{H:Hp}(sub:∀a,O' a->O a):∀{t:T} {v:V},Rep K O H t v->Rep K O' H t v
 | .non,_,r=>by unfold Rep at r ⊢;exact r
 | .bl _,_,r=>by unfold Rep at r ⊢;exact r
 | .int _,_,r=>by unfold Rep at r ⊢;exact r
 | .str _,_,r=>by unfold Rep at r ⊢;exact r
 | .tup l,_,r=>by
  unfold Rep at r ⊢;obtain⟨a,vs,e,n,q,z⟩:=r
  exact⟨a,vs,e,λp=>n (sub a p),q,Reps.less sub z⟩
 | .lst l,_,r=>by
  unfold Rep at r ⊢;obtain⟨a,vs,e,n,q,z⟩:=r
  exact⟨a,vs,e,λp=>n (sub a p),q,Reps.less sub z⟩
 | .scr l,_,r=>by
  unfold Rep at r ⊢;obtain⟨a,e,n,z⟩:=r
  exact⟨a,e,λp=>n (sub a p),z⟩
 | .dct ks ts,_,r=>by
  unfold Rep at r ⊢;obtain⟨a,kvs,e,n,q,k,z⟩:=r;exact⟨a,kvs,e,λp=>n (sub a p),q,k,Reps.less sub z⟩
theorem Reps.less {K:PySem.W.Frag}{O O':Ow}{H:Hp}(sub:∀a,O' a->O a):∀{l:List T} {vs:List V},Reps K O H l vs->Reps K O' H l vs
 | [],_,r=>by unfold Reps at r ⊢;exact r
 | t::l,_,r=>by
  unfold Reps at r ⊢;obtain⟨v,ws,e,p,q⟩:=r;exact⟨v,ws,e,Rep.less sub p,Reps.less sub q⟩
end
section
variable {K:PySem.W.Frag}{O:Ow}{H H':Hp}{t:T}{v:V}{l:List T}{vs:List V}
theorem Rep.same (h:Same H H')(r:Rep K O H t v):Rep K O H' t v:=Rep.keep (P:=λ_=>False) (SameO.of h) (λ_ z=>z.elim) r
theorem Reps.same (h:Same H H')(r:Reps K O H l vs):Reps K O H' l vs:=Reps.keep (P:=λ_=>False) (SameO.of h) (λ_ z=>z.elim) r
theorem Rep.non_:Rep K O H .non .non:=by unfold Rep;rfl
theorem Rep.bl_ (b:Bool):Rep K O H (.bl b) (.bl b):=by unfold Rep;rfl
theorem Rep.int_ (i:Int):Rep K O H (.int i) (.int i):=by unfold Rep;rfl
theorem Rep.str_ (x:Str):Rep K O H (.str x) (.str x):=by unfold Rep;rfl
theorem Rep.tup_iff:Rep K O H (.tup l) v↔ ∃a vs,v= .ref a/\¬ O a/\H a=some (.tup vs)/\Reps K O H l vs:=by unfold Rep;exact Iff.rfl
theorem Rep.lst_iff:Rep K O H (.lst l) v↔ ∃a vs,v= .ref a/\¬ O a/\H a=some (.lst vs)/\Reps K O H l vs:=by unfold Rep;exact Iff.rfl
theorem Rep.dct_iff {ks ts:List T}:Rep K O H (.dct ks ts) v↔ ∃a kvs,v= .ref a/\¬ O a/\Rd H a (.dT kvs)/\ks.map aQ=kvs.map (λp=>some p.1)/\Reps K O H ts (kvs.map (·.2)):=by unfold Rep;exact Iff.rfl
theorem Rep.int_iff {i:Int}:Rep K O H (.int i) v↔v= .int i:=by unfold Rep;exact Iff.rfl
theorem Rep.bl_iff {b:Bool}:Rep K O H (.bl b) v↔v= .bl b:=by unfold Rep;exact Iff.rfl
theorem Rep.str_iff {b:Str}:Rep K O H (.str b) v↔v= .str b:=by unfold Rep;exact Iff.rfl
theorem Rep.non_iff:Rep K O H .non v↔v= .non:=by unfold Rep;exact Iff.rfl
theorem Reps.nil_:Reps K O H [] []:=by unfold Reps;rfl
theorem Reps.cons_ (r:Rep K O H t v)(q:Reps K O H l vs):Reps K O H (t::l) (v::vs):=by unfold Reps;exact⟨v,vs,rfl,r,q⟩
theorem Reps.nil_iff:Reps K O H [] vs↔vs= []:=by unfold Reps;exact Iff.rfl
theorem Reps.cons_iff:Reps K O H (t::l) vs↔ ∃v ws,vs=v::ws/\Rep K O H t v/\Reps K O H l ws:=by
 constructor
 ·intro h;unfold Reps at h;exact h
 ·intro h;unfold Reps;exact h
end
section
variable {K:PySem.W.Frag}{O:Ow}{H H':Hp}
theorem Reps.length:∀{l:List T} {vs:List V},Reps K O H l vs->l.length=vs.length
 | [],vs,r=>by rw[Reps.nil_iff.mp r];rfl
 | t::l,vs,r=>by
  obtain⟨v,ws,rfl,_,q⟩:=Reps.cons_iff.mp r;simp[q.length]
theorem Reps.get:∀{l:List T} {vs:List V} {i:Nat} {t:T},Reps K O H l vs->l[i]? =some t->∃v,vs[i]? =some v/\Rep K O H t v
 | [],_,_,_,_,e=>by simp at e
 | t::l,vs,i,u,r,e=>by
  obtain⟨v,ws,rfl,p,q⟩:=Reps.cons_iff.mp r
  cases i with
  | zero=>simp at e;subst e;exact⟨v,rfl,p⟩
  | succ i=>
   obtain⟨z,e1,e2⟩:=q.get (i:=i) (t:=u) (by simpa using e)
   exact⟨z,by simpa using e1,e2⟩
theorem Reps.append:∀{l m:List T} {vs ws:List V},Reps K O H l vs->Reps K O H m ws->Reps K O H (l++m) (vs++ws)
 | [],_,vs,_,r,s=>by rw[Reps.nil_iff.mp r];exact s
 | t::l,m,vs,ws,r,s=>by
  obtain⟨v,us,rfl,p,q⟩:=Reps.cons_iff.mp r;exact Reps.cons_ p (q.append s)
theorem Reps.take:∀{l:List T} {vs:List V} (n:Nat),Reps K O H l vs->Reps K O H (l.take n) (vs.take n)
 | _,_,0,_=>Reps.nil_
 | [],vs,n+1,r=>by rw[Reps.nil_iff.mp r];exact Reps.nil_
 | t::l,vs,n+1,r=>by
  obtain⟨v,us,rfl,p,q⟩:=Reps.cons_iff.mp r;exact Reps.cons_ p (q.take n)
theorem Reps.drop:∀{l:List T} {vs:List V} (n:Nat),Reps K O H l vs->Reps K O H (l.drop n) (vs.drop n)
 | _,_,0,r=>r
 | [],vs,n+1,r=>by rw[Reps.nil_iff.mp r];exact Reps.nil_
 | t::l,vs,n+1,r=>by
  obtain⟨v,us,rfl,p,q⟩:=Reps.cons_iff.mp r;exact q.drop n
theorem Reps.ints:∀{ns:List Int},Reps K O H (ns.map T.int) (ns.map V.int)
 | [] =>Reps.nil_
 | n::r=>Reps.cons_ (Rep.int_ n) Reps.ints
end
inductive OT where
 | lst (l:List T) | dct (ks ts:List T) | dd (ks:List T) (rows:List (List T×List T))
def OT.view:OT->T
 | .lst l=> .lst l
 | .dct ks ts=> .dct ks ts
 | .dd ks rows=> .dct ks (rows.map λr=> .dct r.1 r.2)
def RowsR (K:PySem.W.Frag)(O:Ow)(H:Hp):List (List T×List T)->List Addr->Prop
 | [],as=>as= []
 | r::rs,as=> ∃b bs kvs,as=b::bs/\H b=some (.dT kvs)/\r.1.map aQ=kvs.map (λp=>some p.1)/\Reps K O H r.2 (kvs.map (·.2))/\RowsR K O H rs bs
def ORep (K:PySem.W.Frag)(O M:Ow)(H:Hp):OT->V->Prop
 | .lst l,v=> ∃a vs,v= .ref a/\(∀b,M b↔b=a)/\H a=some (.lst vs)/\Reps K O H l vs
 | .dct ks ts,v=> ∃a kvs,v= .ref a/\(∀b,M b↔b=a)/\H a=some (.dT kvs)/\ks.map aQ=kvs.map (λp=>some p.1)/\Reps K O H ts (kvs.map (·.2))
 | .dd ks rows,v=> ∃a kvs as,v= .ref a/\(∀b,M b↔b=a\/b∈as)/\a∉as/\as.Nodup/\H a=some (.dT kvs)/\ks.map aQ=kvs.map (λp=>some p.1)/\kvs.map (·.2)=as.map V.ref/\RowsR K O H rows as
inductive Sl where
 | em | va (t:T) | ow (o:OT)
abbrev En:=List Sl
abbrev Mn:=Nat->Ow
def Mn.u (M:Mn):Ow:=λa=> ∃i,M i a
def Mtb (H:Hp)(a:Addr):Prop:=(∃vs,H a=some (.lst vs))\/∃kvs,H a=some (.dT kvs)
theorem Mtb.some {H:Hp}{a:Addr}(h:Mtb H a):∃o,H a=some o:=h.elim (λ⟨_,e⟩=>⟨_,e⟩) λ⟨_,e⟩=>⟨_,e⟩
theorem Mtb.same {H H':Hp}(s:Same H H'){a:Addr}(h:Mtb H a):Mtb H' a:=h.elim (λ⟨vs,e⟩=> .inl ⟨vs,s _ _ e⟩) λ⟨k,e⟩=> .inr ⟨k,s _ _ e⟩
structure EnvM (K:PySem.W.Frag)(O:Ow)(M:Mn)(H:Hp)(Z:En)(σ:L2.St):Prop where
 len:Z.length=σ.length
 val:∀(i:Nat) (t:T),Z[i]? =some (.va t)->∃v,σ[i]? =some (some v)/\Rep K O H t v
 own:∀(i:Nat) (o:OT),Z[i]? =some (.ow o)->∃v,σ[i]? =some (some v)/\ORep K O (M i) H o v
 sub:∀(i:Nat) (a:Addr),M i a->O a
 dis:∀(i j:Nat) (a:Addr),M i a->M j a->i=j
 trk:∀(a:Addr),O a->Mtb H a
theorem RowsR.same {K:PySem.W.Frag}{O:Ow}{H H':Hp}(h:Same H H'):∀{rs:List (List T×List T)} {as:List Addr},RowsR K O H rs as->RowsR K O H' rs as
 | [],_,r=>r
 | _::_,_,⟨b,bs,kvs,e1,e2,e3,e4,e5⟩=>⟨b,bs,kvs,e1,h _ _ e2,e3,e4.same h,e5.same h⟩
theorem ORep.same {K:PySem.W.Frag}{O M:Ow}{H H':Hp}(h:Same H H'){o:OT}{v:V}(r:ORep K O M H o v):ORep K O M H' o v:=by
 cases o with
 | lst l=>obtain⟨a,vs,e1,e2,e3,e4⟩:=r;exact⟨a,vs,e1,e2,h _ _ e3,e4.same h⟩
 | dct ks ts=>obtain⟨a,kvs,e1,e2,e3,e4,e5⟩:=r;exact⟨a,kvs,e1,e2,h _ _ e3,e4,e5.same h⟩
 | dd ks rows=>obtain⟨a,kvs,as,e1,e2,e3,e4,e5,e6,e7,e8⟩:=r;exact⟨a,kvs,as,e1,e2,e3,e4,h _ _ e5,e6,e7,e8.same h⟩
theorem EnvM.same {K:PySem.W.Frag}{O:Ow}{M:Mn}{H H':Hp}{Z:En}{σ:L2.St}(h:Same H H')(e:EnvM K O M H Z σ):EnvM K O M H' Z σ where
 len:=e.len
 val:=λi t q=>let ⟨v,e1,e2⟩:=e.val i t q;⟨v,e1,e2.same h⟩
 own:=λi o q=>let ⟨v,e1,e2⟩:=e.own i o q;⟨v,e1,e2.same h⟩
 sub:=e.sub
 dis:=e.dis
 trk:=λa q=>(e.trk a q).same h
def EnvO (K:PySem.W.Frag)(O:Ow)(H:Hp)(Z:En)(σ:L2.St):Prop:=∃M,EnvM K O M H Z σ
section
variable {K:PySem.W.Frag}{O:Ow}{H H':Hp}{Z:En}{σ:L2.St}
theorem EnvO.val (e:EnvO K O H Z σ)(i:Nat)(t:T)(q:Z[i]? =some (.va t)):∃v,σ[i]? =some (some v)/\Rep K O H t v:=e.elim λ_ e=>e.val i t q
theorem EnvO.mtb (e:EnvO K O H Z σ):∀a,O a->Mtb H a:=e.elim λ_ e=>e.trk
theorem EnvO.trk (e:EnvO K O H Z σ)(a:Addr)(z:O a):∃o,H a=some o:=(e.mtb a z).some
theorem EnvO.same (h:Same H H')(e:EnvO K O H Z σ):EnvO K O H' Z σ:=e.elim λM e=>⟨M,e.same h⟩
theorem EnvO.fresh (e:EnvO K O H Z σ){p:Addr}(h:H p=none):¬ O p:=λz=>by
 obtain⟨o,q⟩:=e.trk p z;rw[h]at q;cases q
end
def Fp (h:Heap)(C e:Addr):Option Addr->Prop
 | none=> ∃oe vs,h.get? e=some oe/\oe.cls= .ref C/\oe.data= .fields vs/\vs[1]? =some .none
 | some T=>T≠e/\∃oe vs,h.get? e=some oe/\oe.cls= .ref C/\oe.data= .fields vs/\vs[1]? =some (.ref T)/\∃oT ts,h.get? T=some oT/\oT.data= .fields ts/\ts[3]? =some .none
def RzP (X:Cx)(pins:List (Addr×Obj))(P:Ow)(H:Hp)(c:Str)(ev:Value)(s':Shared):Prop:=
 ∃e T C σ' H',ev= .ref e/\X.mg c=some (.ref C)/\Inv X pins σ' H' s'/\SameO P H H'/\H' e=none/\(X.ex= []->X.s₀.heap.get? e=none)/\Fp s'.heap C e T/\(∀t,T=some t->H' t=none/\(X.ex= []->X.s₀.heap.get? t=none))/\∀p∈X.pn++pins,p.1≠e/\T≠some p.1
def Nw (K:PySem.W.Frag)(H:Hp):Ow:=λa=>H a=none/\K.lookup a=none
theorem gB {K:PySem.W.Frag}{P:Ow}{H H1:Hp}(h:SameO P H H1){a:Addr}(n:Nw K H1 a):P a\/Nw K H a:=by
 by_cases hp:P a
 ·exact .inl hp
 ·refine .inr ⟨?_,n.2⟩
  cases q:H a with
  | none=>rfl
  | some o=>have:=h a o q hp;rw[n.1]at this;cases this
theorem SameO.trans {K:PySem.W.Frag}{P P1:Ow}{H H1 H2:Hp}(h:SameO P H H1)(h1:SameO P1 H1 H2)(sub:∀a,P1 a->P a\/Nw K H a):SameO P H H2:=λb o e n=>
 h1 b o (h b o e n) λz=>(sub b z).elim n λw=>by rw[w.1]at e;cases e
def XA (X:Cx)(P:Ow)(H:Hp)(c:Str):Prop:=∀pins ev s',RzP X pins P H c ev s'->X.xe ev s'
theorem XA.later {X:Cx}{P P1:Ow}{H H1:Hp}{c:Str}(h:XA X P H c)(s:SameO P H H1)(sub:∀a,P1 a->P a\/Nw X.K H a):XA X P1 H1 c:=λpins ev s' ⟨e,T,C,σ',H',a1,a2,a3,a4,a5⟩=>
 h pins ev s' ⟨e,T,C,σ',H',a1,a2,a3,s.trans a4 sub,a5⟩
abbrev sC:Ow:=λ_=>False
def Post {α:Type}(X:Cx)(H:Hp)(r:Rs α)(k:α->Hp->Prop):Prop:=match r with
 | .ok t=> ∀H',Same H H'->k t H'
 | .err c=>XA X sC H c
 | .bad=>False
theorem Post.mono {α:Type}{X:Cx}{H:Hp}{r:Rs α}{k k':α->Hp->Prop}(h:Post X H r k)(f:∀t H',Same H H'->k t H'->k' t H'):Post X H r k':=by
 cases r with
 | ok t=>exact λH' s=>f t H' s (h H' s)
 | err c=>exact h
 | bad=>exact h
theorem Post.later {α:Type}{X:Cx}{H H1:Hp}{r:Rs α}{k:α->Hp->Prop}(h:Post X H r k)(s:Same H H1):Post X H1 r k:=by
 cases r with
 | ok t=>exact λH' s'=>h H' (s.trans s')
 | err c=>exact XA.later h (SameO.of s) λ_ z=>z.elim
 | bad=>exact h
theorem Post.bind {α β:Type}{X:Cx}{H:Hp}{r:Rs α}{f:α->Rs β}{k:β->Hp->Prop}(h:Post X H (r >>= f) k):Post X H r λt H'=>Post X H' (f t) k:=by
 cases r with
 | ok t=>exact λH' s=>Post.later h s
 | err c=>exact h
 | bad=>exact h
def tP (X:Cx)(f:En->Rs T):TE:=λσ H Q=> ∃Z O,EnvO X.K O H Z σ/\Post X H (f Z) λt H'=> ∀v,Rep X.K O H' t v->Q v H'
def tPA (X:Cx)(f:En->Rs (List T)):TA:=λσ H Q=> ∃Z O,EnvO X.K O H Z σ/\Post X H (f Z) λt H'=> ∀v,Reps X.K O H' t v->Q v H'
def vV (X:Cx)(f:En->Rs Bool):TT:=λσ H Q=> ∃Z O,EnvO X.K O H Z σ/\Post X H (f Z) λb H'=>Q b H'
abbrev cz (X:Cx)(e:Expr)(f:En->Rs T):Prop:=PE X e (tP X f)
abbrev n9 (X:Cx)(e:List Expr)(f:En->Rs (List T)):Prop:=PA X e (tPA X f)
abbrev rW (X:Cx)(e:Expr)(f:En->Rs Bool):Prop:=PT X e (vV X f)
theorem PE.imp {X:Cx}{e:Expr}{t t':TE}(h:PE X e t)(w:∀σ H Q,t' σ H Q->t σ H Q):PE X e t':=λpins s σ H Q I q=>h pins s σ H Q I (w σ H Q q)
theorem PA.imp {X:Cx}{e:List Expr}{t t':TA}(h:PA X e t)(w:∀σ H Q,t' σ H Q->t σ H Q):PA X e t':=λpos pins s σ H Q I q=>h pos pins s σ H Q I (w σ H Q q)
theorem PT.imp {X:Cx}{e:Expr}{t t':TT}(h:PT X e t)(w:∀σ H Q,t' σ H Q->t σ H Q):PT X e t':=λpins s σ H Q I q=>h pins s σ H Q I (w σ H Q q)
theorem PS.imp {X:Cx}{e:Stmt}{t t':TS}(h:PS X e t)(w:∀D σ H,t' D σ H->t D σ H):PS X e t':=λpins s σ H D I q=>h pins s σ H D I (w D σ H q)
theorem PSs.imp {X:Cx}{e:List Stmt}{t t':TS}(h:PSs X e t)(w:∀D σ H,t' D σ H->t D σ H):PSs X e t':=λpins s σ H D I q=>h pins s σ H D I (w D σ H q)
section
variable {X:Cx}
theorem aY {σ:L2.St}{H:Hp}{Z:En}{O:Ow}{α:Type}{f:En->Rs T}{k:T->Rs α}{Q:α->Hp->Prop}(E:EnvO X.K O H Z σ)(h:Post X H (f Z >>= k) Q) :
  tP X f σ H λv H'=> ∃t,Rep X.K O H' t v/\Same H H'/\EnvO X.K O H' Z σ/\Post X H' (k t) Q:=
 ⟨Z,O,E,Post.mono h.bind λt H' s q v r=>⟨t,r,s,E.same s,q⟩⟩
theorem dR {σ:L2.St}{H:Hp}{Z:En}{O:Ow}{α:Type}{f:En->Rs (List T)}{k:List T->Rs α}{Q:α->Hp->Prop}(E:EnvO X.K O H Z σ)(h:Post X H (f Z >>= k) Q) :
  tPA X f σ H λv H'=> ∃t,Reps X.K O H' t v/\Same H H'/\EnvO X.K O H' Z σ/\Post X H' (k t) Q:=
 ⟨Z,O,E,Post.mono h.bind λt H' s q v r=>⟨t,r,s,E.same s,q⟩⟩
theorem ju {σ:L2.St}{H:Hp}{Z:En}{O:Ow}{α:Type}{f:En->Rs Bool}{k:Bool->Rs α}{Q:α->Hp->Prop}(E:EnvO X.K O H Z σ)(h:Post X H (f Z >>= k) Q) :
  vV X f σ H λb H'=>Same H H'/\EnvO X.K O H' Z σ/\Post X H' (k b) Q:=
 ⟨Z,O,E,Post.mono h.bind λt H' s q=>⟨s,E.same s,q⟩⟩
def vr (i:Nat)(Z:En):Rs T:=match Z[i]? with
 | some (.va t)=> .ok t
 | _=> .bad
def cn (t:T)(_:En):Rs T:=.ok t
theorem DT (i:Nat){x:Str}{pos:Pos}(hN:X.N[i]? =some x:=by rfl)(hv:rV X.env.scope x:=by first | exact Or.inl rfl | exact Or.inr (Or.inl rfl) | exact Or.inr (Or.inr rfl))(hd:(x == ("__debug__" : Str))=false:=by decide)
  (hcd:(x == ("__classdict__" : Str))=false:=by decide):cz X (.Name x pos) (vr i):=PE.imp (jc hN hv hd hcd) λσ H Q hh_=>by
 obtain⟨Z,O,E,h⟩:=hh_;unfold vr at h
 split at h
 ·rename_i t e
  obtain⟨v,e1,e2⟩:=E.val i t e;exact⟨v,e1,h H (Same.refl H) v e2⟩
 ·exact h.elim
theorem D5 {i j pos}:cz X (.Constant (.int i) j pos) (cn (.int i)):=PE.imp Cn λσ H Q ⟨Z,O,E,h⟩=>h H (Same.refl H) _ (Rep.int_ i)
theorem q_bl {i j pos}:cz X (.Constant (.bool i) j pos) (cn (.bl i)):=PE.imp Ef λσ H Q ⟨Z,O,E,h⟩=>h H (Same.refl H) _ (Rep.bl_ i)
theorem DY {j pos}:cz X (.Constant .none j pos) (cn .non):=PE.imp wZ λσ H Q ⟨Z,O,E,h⟩=>h H (Same.refl H) _ Rep.non_
theorem B4 {x:Str}{i:Int}{u:Value}{pos:Pos}(hm:X.mg x=some u)(r:RelV (.int i) u)(hg:Gl X x:=by rfl)(hd:(x == ("__debug__" : Str))=false:=by decide):cz X (.Name x pos) (cn (.int i)):=
 PE.imp (Aa hg hm r hd) λσ H Q ⟨Z,O,E,h⟩=>h H (Same.refl H) _ (Rep.int_ i)
def ag (_:En):Rs (List T):=.ok []
def ad (f:En->Rs T)(g:En->Rs (List T))(Z:En):Rs (List T):=do
 let t <-f Z
 let r <-g Z
 .ok (t::r)
theorem B3:n9 X [] ag:=PA.imp g9 λσ H Q ⟨Z,O,E,h⟩=>h H (Same.refl H) _ Reps.nil_
theorem zK {e:Expr}{es:List Expr}{f:En->Rs T}{g:En->Rs (List T)}(he:cz X e f)(hr:n9 X es g)(hs:starEach (e::es) X.env=(false,eval e X.env)::starEach es X.env:=by rfl):n9 X (e::es) (ad f g):=by
 intro pos pins s σ H Q I h;obtain⟨Z,O,E,h⟩:=h;refine dU he hr hs pos pins s σ H Q I ?_
 obtain⟨Z1,O1,E1,h1⟩:=aY E h;refine⟨Z1,O1,E1,Post.mono h1 λt H' s q v r=> ?_⟩
 obtain⟨t',r',s',E',q'⟩:=q v r;refine⟨Z,O,E',Post.mono q'.bind λts H2 s2 q2 vs rs=> ?_⟩
 exact q2 H2 (Same.refl H2) _ (Reps.cons_ (r'.same s2) rs)
end
section
variable {X:Cx}
def i5 (l:List T):Rs T:=if l.length<=sizeLine then .ok (.tup l)else .bad
def i6 (l:List T):Rs T:=if l.length<=sizeLine then .ok (.lst l)else .bad
def ba (f:En->Rs (List T))(Z:En):Rs T:=f Z >>= i5
def cV (f:En->Rs (List T))(Z:En):Rs T:=f Z >>= i6
theorem aO {H:Hp}{p:Addr}(h:H p=none)(o:HO):Same H (upd H p o):=λb u q=>by rw[ay (bO q h)];exact q
theorem fT {K:PySem.W.Frag}{O:Ow}{H:Hp}{p:Addr}{l:List T}{vs:List V}(h:H p=none)(n:¬ O p)(r:Reps K O H l vs):Rep K O (upd H p (.tup vs)) (.tup l) (.ref p):=
 Rep.tup_iff.mpr ⟨p,vs,rfl,n,aA,r.same (aO h _)⟩
theorem jE {K:PySem.W.Frag}{O:Ow}{H:Hp}{p:Addr}{l:List T}{vs:List V}(h:H p=none)(n:¬ O p)(r:Reps K O H l vs):Rep K O (upd H p (.lst vs)) (.lst l) (.ref p):=
 Rep.lst_iff.mpr ⟨p,vs,rfl,n,aA,r.same (aO h _)⟩
theorem DU {es:List Expr}{x1:Nat}{pos:Pos}{f:En->Rs (List T)}(h:n9 X es f):cz X (.Tuple es x1 pos) (ba f):=by
 intro pins s σ H Q I ⟨Z,O,E,hq⟩;refine sk h pins s σ H Q I ?_
 obtain⟨Z1,O1,E1,h1⟩:=dR E hq;refine⟨Z1,O1,E1,Post.mono h1 λts H1 s1 q vs r=> ?_⟩
 obtain⟨t',r',s',E',q'⟩:=q vs r;unfold i5 at q'
 split at q'
 ·rename_i hz
  refine⟨by rw[<-r'.length];exact hz,λp hp=> ?_⟩
  exact q' _ (aO hp _) _ (fT hp (E'.fresh hp) r')
 ·exact q'.elim
theorem D1 {es:List Expr}{pos:Pos}{f:En->Rs (List T)}(h:n9 X es f):cz X (.List es pos) (cV f):=by
 intro pins s σ H Q I ⟨Z,O,E,hq⟩;refine Cm h pins s σ H Q I ?_
 obtain⟨Z1,O1,E1,h1⟩:=dR E hq;refine⟨Z1,O1,E1,Post.mono h1 λts H1 s1 q vs r=> ?_⟩
 obtain⟨t',r',s',E',q'⟩:=q vs r;unfold i6 at q'
 split at q'
 ·rename_i hz
  refine⟨by rw[<-r'.length];exact hz,λp hp=> ?_⟩
  exact q' _ (aO hp _) _ (jE hp (E'.fresh hp) r')
 ·exact q'.elim
def OpT (X:Cx)(f:Value->Value->Sem Value)(g:T->T->Rs T):Prop:=
 ∀(pins:List (Addr×Obj)) (s:Shared) (σ:L2.St) (H:Hp) (O:Ow) (x y:T) (vx vy:V) (ux uy:Value) (Q:VK),Inv X pins σ H s->(∀p,H p=none->¬ O p)->Rep X.K O H x vx->Rep X.K O H y vy->RelV vx ux->RelV vy uy →
  Post X H (g x y) (λt H'=> ∀v,Rep X.K O H' t v->Q v H')->wpAny (model X.prog X.w) X.A (f ux uy) (EP X pins σ Q) X.xe s
def o2 (g:T->T->Rs T)(fa fb:En->Rs T)(Z:En):Rs T:=do
 let x <-fa Z
 let y <-fb Z
 g x y
variable {a b c:Expr}{fa fb fc:En->Rs T}{pos:Pos}
theorem D8 {op:Operator}{g:T->T->Rs T}(ho:OpT X (binaryOp op) g)(ha:cz X a fa)(hb:cz X b fb):cz X (.BinOp a op b pos) (o2 g fa fb):=by
 intro pins s σ H Q I ⟨Z,O,E,hq⟩
 have h1:=aY E hq;refine wpAny_BinOp (cv (ha pins s σ H _ I h1) λv s1 hh_=> ?_)
 obtain⟨x,H1,I1,r1,t,rt,s',E',q1⟩:=hh_
 have h2:=aY (f:=fb) E' q1;refine cv (hb pins s1 σ H1 _ I1 h2) λu s2 hh_=> ?_
 obtain⟨y,H2,I2,r2,t2,rt2,s'',E'',q2⟩:=hh_;exact ho pins s2 σ H2 O t t2 x y v u Q I2 (λp=>E''.fresh) (rt.same s'') rt2 r1 r2 q2
theorem D7 {op:CmpOp}{g:T->T->Rs T}(ho:OpT X (compareOp op) g)(ha:cz X a fa)(hb:cz X b fb)(hm:behindInMarks op b=false:=by rfl):cz X (.Compare a [op] [b] pos) (o2 g fa fb):=by
 intro pins s σ H Q I ⟨Z,O,E,hq⟩
 have h1:=aY E hq;refine wpAny_Compare1 (cv (ha pins s σ H _ I h1) λv s1 ⟨x,H1,I1,r1,t,rt,s',E',q1⟩=> ?_) hm
 have h2:=aY (f:=fb) E' q1;refine cv (hb pins s1 σ H1 _ I1 h2) λu s2 hh_=> ?_
 obtain⟨y,H2,I2,r2,t2,rt2,s'',E'',q2⟩:=hh_;exact ho pins s2 σ H2 O t t2 x y v u Q I2 (λp=>E''.fresh) (rt.same s'') rt2 r1 r2 q2
theorem OpT.of {f:Value->Value->Sem Value}{r:R2}(h:og X f r){g:T->T->Rs T}
  (w:∀(H:Hp) (O:Ow) (x y:T) (vx vy:V) (Q:VK),(∀p,H p=none->¬ O p)->Rep X.K O H x vx->Rep X.K O H y vy->Post X H (g x y) (λt H'=> ∀v,Rep X.K O H' t v->Q v H')->r vx vy H Q):OpT X f g:=
 λpins s σ H O x y vx vy ux uy Q I hf rx ry r1 r2 hp=>h pins s σ H vx vy ux uy Q I r1 r2 (w H O x y vx vy Q hf rx ry hp)
def bH:T->T->Rs T
 | .int i,.int j=> .ok (.int (i - j))
 | _,_=> .bad
theorem cI:OpT X (binaryOp .Sub) bH:=OpT.of Cq λH O x y vx vy Q hf rx ry hp=>by
 unfold bH at hp
 split at hp
 ·exact⟨_,_,Rep.int_iff.mp rx,Rep.int_iff.mp ry,hp H (Same.refl H) _ (Rep.int_ _)⟩
 ·exact hp.elim
def jO:T->T->Rs T
 | .int i,.int j=>if 0<j/\j<1073741824 then .ok (.int (i / j))else .bad
 | _,_=> .bad
def jL:T->T->Rs T
 | .int i,.int j=>if 0<j then .ok (.int (i % j))else .bad
 | _,_=> .bad
theorem k8:OpT X (binaryOp .FloorDiv) jO:=OpT.of Ae λH O x y vx vy Q hf rx ry hp=>by
 unfold jO at hp
 split at hp
 ·split at hp
  ·rename_i h
   exact⟨_,_,Rep.int_iff.mp rx,Rep.int_iff.mp ry,h,hp H (Same.refl H) _ (Rep.int_ _)⟩
  ·exact hp.elim
 ·exact hp.elim
theorem jd:OpT X (binaryOp .Mod) jL:=OpT.of Cu λH O x y vx vy Q hf rx ry hp=>by
 unfold jL at hp
 split at hp
 ·split at hp
  ·rename_i h
   exact⟨_,_,Rep.int_iff.mp rx,Rep.int_iff.mp ry,h,hp H (Same.refl H) _ (Rep.int_ _)⟩
  ·exact hp.elim
 ·exact hp.elim
theorem xg:og X (binaryOp .Add) (λx y H Q=> ∃a b ys,x= .ref a/\y= .ref b/\SqT X.K H a []/\SqT X.K H b ys/\Q (.ref b) H):=by
 intro pins s σ H x y v u Q I rx ry h;obtain⟨a,b,ys,rfl,rfl,ha,hb,q⟩:=h;cases rx;cases ry;obtain⟨its,r1,p1,_⟩:=I.tuple ha;obtain⟨its2,r2,p2,_⟩:=I.tuple hb;obtain⟨⟨cls,dd,data,sl⟩,ho,hc,n,hd⟩:=id p1;obtain⟨⟨cls2,dd2,data2,sl2⟩,ho2,hc2,n2,hd2⟩:=id p2;simp only at hc hd hc2 hd2;subst hc hd hc2 hd2
 have e:its= []:=by cases r1;rfl
 subst e;exact HT_concat0 ho ho2 ⟨.ref b,H,I,rfl,q⟩
where
 HT_concat0 {prog:Program} {w:World} {A:Around} {E:Value->Shared->Prop} {s:Shared} {t b:Addr} {ws:Array Value} {n n2:Nat} {dd dd2:Option Addr} {sl sl2:Array (Option Value)} {Q:Value->Shared->Prop}
   (ho:s.heap.get? t=some { cls:=.type "tuple",dict:=dd,data:=.seq (([]:List Value).toArray) n,slots:=sl }) (ho2:s.heap.get? b=some { cls:=.type "tuple",dict:=dd2,data:=.seq ws n2,slots:=sl2 }) (h:Q (.ref b) s) :
   wpAny (model prog w) A (binaryOp .Add (.ref t) (.ref b)) Q E s:=
  concat_meets ⟨_,ho,rfl⟩ ⟨_,ho2,rfl⟩ noFill_tuple_add seq_tuple_add PySem.F.slot_tuple_add PySem.F.entry_tuple_add (PySem.F.args_tuple_add_2 _ _)
   (tuple_addW0 t b _ _ n n2 dd dd2 sl sl2 (by simp)) ⟨ho,ho2,h⟩
def aH:T->T->Rs T
 | .int i,.int j=> .ok (.int (i+j))
 | .str i,.str j=>if i.length+j.length<=sizeLine then .ok (.str (i++j))else .bad
 | .tup l,.tup m=>i5 (l++m)
 | .lst l,.lst m=>i6 (l++m)
 | _,_=> .bad
theorem aK:OpT X (binaryOp .Add) aH:=by
 intro pins s σ H O x y vx vy ux uy Q I hf rx ry r1 r2 hp;unfold aH at hp
 split at hp
 ·exact Cy pins s σ H vx vy ux uy Q I r1 r2 ⟨_,_,Rep.int_iff.mp rx,Rep.int_iff.mp ry,hp H (Same.refl H) _ (Rep.int_ _)⟩
 ·split at hp
  ·rename_i h
   exact sr pins s σ H vx vy ux uy Q I r1 r2 ⟨_,_,Rep.str_iff.mp rx,Rep.str_iff.mp ry,h,hp H (Same.refl H) _ (Rep.str_ _)⟩
  ·exact hp.elim
 ·rename_i l m
  unfold i5 at hp
  split at hp
  ·rename_i h
   obtain⟨a,vs,e1,n1,q1,z1⟩:=Rep.tup_iff.mp rx;obtain⟨b,ws,e2,n2,q2,z2⟩:=Rep.tup_iff.mp ry
   have hl1:=z1.length
   have hl2:=z2.length;rw[List.length_append]at h
   cases vs with
   | nil=>
    have e:l= []:=by cases l with
     | nil=>rfl
     | cons _ _=>simp at hl1
    subst e
    exact xg pins s σ H vx vy ux uy Q I r1 r2 ⟨a,b,ws,e1,e2,SqT.of q1,SqT.of q2,hp H (Same.refl H) _ (Rep.tup_iff.mpr ⟨b,ws,rfl,n2,q2,z2⟩)⟩
   | cons v0 vr=>
    refine Af pins s σ H vx vy ux uy Q I r1 r2 ⟨a,b,v0::vr,ws,e1,e2,SqT.of q1,SqT.of q2,by simp,by omega,λhw=> ?_,λ_ p hpn=> ?_⟩
    ·subst hw
     have e:m= []:=by cases m with
      | nil=>rfl
      | cons _ _=>simp at hl2
     subst e;rw[List.append_nil]at hp;exact hp H (Same.refl H) _ (Rep.tup_iff.mpr ⟨a,_,rfl,n1,q1,z1⟩)
    ·exact hp _ (aO hpn _) _ (fT hpn (hf p hpn) (z1.append z2))
  ·exact hp.elim
 ·rename_i l m
  unfold i6 at hp
  split at hp
  ·rename_i h
   obtain⟨a,vs,e1,n1,q1,z1⟩:=Rep.lst_iff.mp rx;obtain⟨b,ws,e2,n2,q2,z2⟩:=Rep.lst_iff.mp ry
   have hl1:=z1.length
   have hl2:=z2.length;rw[List.length_append]at h;exact Cw pins s σ H vx vy ux uy Q I r1 r2 ⟨a,b,vs,ws,e1,e2,q1,q2,by omega,λp hpn=>hp _ (aO hpn _) _ (jE hpn (hf p hpn) (z1.append z2))⟩
  ·exact hp.elim
 ·exact hp.elim
def sE:T->T->Rs T
 | .int i,.int j=>if (-(2 ^ 64)<i/\i<2 ^ 64)\/(-(2 ^ 64)<j/\j<2 ^ 64)then .ok (.int (i*j))else .bad
 | .lst l,.int k=>if -(2 ^ 63)<=k/\k<2 ^ 63/\l.length*k.toNat<=sizeLine then .ok (.lst (List.replicate k.toNat l).flatten)else .bad
 | _,_=> .bad
theorem Reps.rep {K:PySem.W.Frag}{O:Ow}{H:Hp}{l:List T}{vs:List V}(h:Reps K O H l vs):∀k:Nat,Reps K O H (List.replicate k l).flatten (List.replicate k vs).flatten
 | 0=>Reps.nil_
 | k+1=>by rw[List.replicate_succ,List.replicate_succ,List.flatten_cons,List.flatten_cons];exact h.append (h.rep k)
theorem Cp:OpT X (binaryOp .Mult) sE:=by
 intro pins s σ H O x y vx vy ux uy Q I hf rx ry r1 r2 hp;unfold sE at hp
 split at hp
 ·split at hp
  ·rename_i h
   exact Ct pins s σ H vx vy ux uy Q I r1 r2 ⟨_,_,Rep.int_iff.mp rx,Rep.int_iff.mp ry,h,hp H (Same.refl H) _ (Rep.int_ _)⟩
  ·exact hp.elim
 ·split at hp
  ·rename_i l k h
   obtain⟨a,vs,e1,n1,q1,z1⟩:=Rep.lst_iff.mp rx
   have hl1:=z1.length;exact Cr pins s σ H vx vy ux uy Q I r1 r2 ⟨a,k,vs,e1,Rep.int_iff.mp ry,q1,h.1,h.2.1,by rw[<-hl1];exact h.2.2,λp hpn=>hp _ (aO hpn _) _ (jE hpn (hf p hpn) (z1.rep _))⟩
  ·exact hp.elim
 ·exact hp.elim
def pd:T->Rs T
 | .int i=> .ok (.int (-i))
 | _=> .bad
def o1 (g:T->Rs T)(fa:En->Rs T)(Z:En):Rs T:=fa Z >>= g
theorem DZ (ha:cz X a fa):cz X (.UnaryOp .USub a pos) (o1 pd fa):=by
 intro pins s σ H Q I ⟨Z,O,E,hq⟩;refine Ed Bs ha pins s σ H Q I ?_
 obtain⟨Z1,O1,E1,h1⟩:=aY E hq;refine⟨Z1,O1,E1,Post.mono h1 λts H1 s1 q vs r=> ?_⟩
 obtain⟨t',r',s',E',q'⟩:=q vs r;unfold pd at q'
 split at q'
 ·exact⟨_,Rep.int_iff.mp r',q' H1 (Same.refl H1) _ (Rep.int_ _)⟩
 ·exact q'.elim
def rP (p:Int->Int->Bool):T->T->Rs T
 | .int i,.int j=> .ok (.bl (p i j))
 | _,_=> .bad
theorem oR {op:CmpOp}{p:Int->Int->Bool}(h:og X (compareOp op) (A6 λi j=> .bl (p i j))):OpT X (compareOp op) (rP p):=OpT.of h λH O x y vx vy Q hf rx ry hp=>by
 unfold rP at hp
 split at hp
 ·exact⟨_,_,Rep.int_iff.mp rx,Rep.int_iff.mp ry,hp H (Same.refl H) _ (Rep.bl_ _)⟩
 ·exact hp.elim
abbrev rS:=rP λi j=>decide (i<j)
abbrev vY:=rP λi j=>decide (i<=j)
abbrev EH:=rP λi j=>decide (j<i)
theorem nA:OpT X (compareOp .Lt) rS:=oR Ej
theorem nB:OpT X (compareOp .LtE) vY:=oR Ek
theorem Ei:OpT X (compareOp .Gt) EH:=oR El
def T.isN:T->Bool
 | .non=>true
 | _=>false
theorem Rep.isN {K:PySem.W.Frag}{O:Ow}{H:Hp}{t:T}{v:V}(r:Rep K O H t v):decide (v= .non)=t.isN:=by
 cases t with
 | non=>rw[Rep.non_iff.mp r];rfl
 | bl _=>rw[Rep.bl_iff.mp r];rfl
 | int _=>rw[Rep.int_iff.mp r];rfl
 | str _=>rw[Rep.str_iff.mp r];rfl
 | tup _=>obtain⟨a,vs,e,_⟩:=Rep.tup_iff.mp r;rw[e];rfl
 | lst _=>obtain⟨a,vs,e,_⟩:=Rep.lst_iff.mp r;rw[e];rfl
 | scr _=>unfold Rep at r;obtain⟨a,e,_⟩:=r;rw[e];rfl
 | dct _ _=>obtain⟨a,_,e,_⟩:=Rep.dct_iff.mp r;rw[e];rfl
def gG:T->T->Rs T
 | x,.non=> .ok (.bl x.isN)
 | _,_=> .bad
def du:T->T->Rs T
 | x,.non=> .ok (.bl (!x.isN))
 | _,_=> .bad
theorem kI:OpT X (compareOp .Is) gG:=OpT.of Cv λH O x y vx vy Q hf rx ry hp=>by
 unfold gG at hp
 split at hp
 ·exact⟨Rep.non_iff.mp ry,hp H (Same.refl H) _ (by rw[rx.isN];exact Rep.bl_ _)⟩
 ·exact hp.elim
theorem e9:OpT X (compareOp .IsNot) du:=OpT.of Ad λH O x y vx vy Q hf rx ry hp=>by
 unfold du at hp
 split at hp
 ·exact⟨Rep.non_iff.mp ry,hp H (Same.refl H) _ (by rw[rx.isN];exact Rep.bl_ _)⟩
 ·exact hp.elim
end
end Tr
namespace Tr
open PySem PySem.Spec PyProof.Rows L2
open PySem.SeqAt
mutual
def ReV (s:Shared):T->Value->Prop
 | .non,u=>u= .none
 | .bl b,u=>u= .bool b
 | .int i,u=> ∃t,u= .int i t
 | .str x,u=> ∃t,u= .str x t
 | .tup l,u=> ∃a its,u= .ref a/\s.heap.IsTuple a (List.toArray its)/\ReVs s l its
 | .lst l,u=> ∃a its,u= .ref a/\s.heap.IsList a (List.toArray its)/\ReVs s l its
 | .scr l,u=> ∃a its,u= .ref a/\s.heap.IsList a (List.toArray its)/\IntsAre its l
 | .dct _ _,_=>False
def ReVs (s:Shared):List T->List Value->Prop
 | [],us=>us= []
 | t::r,us=> ∃u ws,us=u::ws/\ReV s t u/\ReVs s r ws
end
theorem ReVs.nil_iff {s:Shared}{us:List Value}:ReVs s [] us↔us= []:=by unfold ReVs;exact Iff.rfl
theorem ReVs.cons_iff {s:Shared}{t:T}{l:List T}{us:List Value}:ReVs s (t::l) us↔ ∃u ws,us=u::ws/\ReV s t u/\ReVs s l ws:=by
 constructor
 ·intro h;unfold ReVs at h;exact h
 ·intro h;unfold ReVs;exact h
theorem ReVs.length {s:Shared}:∀{l:List T} {us:List Value},ReVs s l us->l.length=us.length
 | [],us,r=>by rw[ReVs.nil_iff.mp r];rfl
 | t::l,us,r=>by
  obtain⟨v,ws,rfl,_,q⟩:=ReVs.cons_iff.mp r;simp[q.length]
theorem ReVs.get {s:Shared}:∀{l:List T} {us:List Value} {i:Nat} {t:T},ReVs s l us->l[i]? =some t->∃v,us[i]? =some v/\ReV s t v
 | [],_,_,_,_,e=>by simp at e
 | t::l,vs,i,u,r,e=>by
  obtain⟨v,ws,rfl,p,q⟩:=ReVs.cons_iff.mp r
  cases i with
  | zero=>simp at e;subst e;exact⟨v,rfl,p⟩
  | succ i=>
   obtain⟨z,e1,e2⟩:=q.get (i:=i) (t:=u) (by simpa using e)
   exact⟨z,by simpa using e1,e2⟩
mutual
def T.nd:T->Bool
 | .dct _ _=>false
 | .tup l=>nds l
 | .lst l=>nds l
 | _=>true
def nds:List T->Bool
 | [] =>true
 | t::l=>t.nd&&nds l
end
theorem qW {t:T}{l:List T}(h:nds (t::l)=true):t.nd=true/\nds l=true:=by unfold nds at h;exact Bool.and_eq_true_iff.mp h
theorem xq:∀{l:List T},(∀t∈l,t.nd=true)->nds l=true
 | [],_=>rfl
 | t::l,h=>by unfold nds;rw[h t List.mem_cons_self,xq λu hu=>h u (List.mem_cons_of_mem _ hu)];rfl
section
variable {X:Cx}{pins:List (Addr×Obj)}{σ:L2.St}{H:Hp}{s:Shared}{O:Ow}
mutual
theorem Rep.val (I:Inv X pins σ H s):∀{t:T} {v:V} {u:Value},t.nd=true->Rep X.K O H t v->RelV v u->ReV s t u
 | .non,v,u,hn,r,q=>by cases Rep.non_iff.mp r;unfold ReV;exact q
 | .bl b,v,u,hn,r,q=>by cases Rep.bl_iff.mp r;unfold ReV;exact q
 | .int b,v,u,hn,r,q=>by cases Rep.int_iff.mp r;unfold ReV;exact q
 | .str b,v,u,hn,r,q=>by cases Rep.str_iff.mp r;unfold ReV;exact q
 | .tup l,v,u,hn,r,q=>by
  obtain⟨a,vs,rfl,_,z,w⟩:=Rep.tup_iff.mp r;cases q;obtain⟨its,rv,p,_⟩:=I.tuple (SqT.of z);unfold ReV
  exact⟨a,its,rfl,p,Reps.val I (by unfold T.nd at hn;exact hn) w rv⟩
 | .lst l,v,u,hn,r,q=>by
  obtain⟨a,vs,rfl,_,z,w⟩:=Rep.lst_iff.mp r;cases q;obtain⟨its,rv,p,_⟩:=I.list (SqL.of z);unfold ReV
  exact⟨a,its,rfl,p.isList,Reps.val I (by unfold T.nd at hn;exact hn) w rv⟩
 | .scr l,v,u,hn,r,q=>by
  unfold Rep at r;obtain⟨a,rfl,_,z⟩:=r;cases q;obtain⟨its,rv,p,_⟩:=I.list z;unfold ReV
  exact⟨a,its,rfl,p.isList,sL rv⟩
 | .dct _ _,v,u,hn,r,q=>by cases hn
theorem Reps.val (I:Inv X pins σ H s):∀{l:List T} {vs:List V} {us:List Value},nds l=true->Reps X.K O H l vs->Vals vs us->ReVs s l us
 | [],vs,us,hn,r,q=>by
  cases Reps.nil_iff.mp r;cases q
  exact ReVs.nil_iff.mpr rfl
 | t::l,vs,us,hn,r,q=>by
  obtain⟨v,ws,rfl,p,z⟩:=Reps.cons_iff.mp r
  cases q with
  | cons q1 q2=>exact ReVs.cons_iff.mpr ⟨_,_,rfl,Rep.val I (qW hn).1 p q1,Reps.val I (qW hn).2 z q2⟩
end
end
mutual
def T.dep:T->Nat
 | .tup l=>deps l+1
 | .lst l=>deps l+1
 | .scr _=>1
 | _=>0
def deps:List T->Nat
 | [] =>0
 | t::l=>max t.dep (deps l)
end
def AK (i:Int):T->Bool
 | .int j=>i == j
 | .bl b=>i == (if b then 1 else 0)
 | _=>false
def i9:List Int->List T->Bool
 | [],[] =>true
 | i::r,t::l=>AK i t&&i9 r l
 | _,_=>false
mutual
def aR:T->T->Bool
 | .non,.non=>true
 | .bl a,.bl b=>a == b
 | .bl a,.int b=>(if a then 1 else 0) == b
 | .int a,.bl b=>a == (if b then 1 else 0)
 | .int a,.int b=>a == b
 | .str a,.str b=>a == b
 | .tup l,.tup m=>beqTs l m
 | .lst l,.lst m=>beqTs l m
 | .lst l,.scr m=>beqTs l (m.map .int)
 | .scr l,.lst m=>i9 l m
 | .scr l,.scr m=>l == m
 | _,_=>false
def beqTs:List T->List T->Bool
 | [],[] =>true
 | t::l,u::m=>aR t u&&beqTs l m
 | _,_=>false
end
theorem mH (n:Nat)(e:Nat->Bool):(List.range (n+1)).all e=(e 0&&(List.range n).all λj=>e (j+1)):=by
 rw[List.range_succ_eq_map,List.all_cons,List.all_map];rfl
theorem kw:∀(l m:List T) (e:Nat->Bool),(∀(j:Nat) t u,l[j]? =some t->m[j]? =some u->e j=aR t u) →
  beqTs l m=((List.range (min l.length m.length)).all e&&l.length == m.length)
 | [],[],_,_=>by simp[beqTs]
 | [],_::_,_,_=>by simp[beqTs]
 | _::_,[],_,_=>by simp[beqTs]
 | t::l,u::m,e,h=>by
  have ih:=kw l m (λj=>e (j+1)) λj t' u' h1 h2=>h (j+1) t' u' (by simpa using h1) (by simpa using h2)
  rw[beqTs,ih]
  have h0:=h 0 t u rfl rfl;simp only[List.length_cons];rw[Nat.succ_min_succ,mH,h0,Bool.and_assoc]
  congr 2
  simp
theorem n6:∀{l m:List T},l.length≠m.length->beqTs l m=false
 | [],[],h=>absurd rfl h
 | [],_::_,_=>by simp[beqTs]
 | _::_,[],_=>by simp[beqTs]
 | t::l,u::m,h=>by
  rw[beqTs,n6 (l:=l) (m:=m) (by intro z;exact h (by simp[z]))]
  simp
theorem im:∀{l:List T} {i:Nat} {t:T},l[i]? =some t->t.dep<=deps l
 | [],_,_,e=>by simp at e
 | t::l,0,u,e=>by simp at e;subst e;unfold deps;exact Nat.le_max_left _ _
 | t::l,i+1,u,e=>by
  have:=im (l:=l) (i:=i) (t:=u) (by simpa using e)
  unfold deps;exact Nat.le_trans this (Nat.le_max_right _ _)
theorem hY {s:Shared}{a:Addr}{x y:List Value}(h:s.heap.IsTuple a x.toArray)(h':s.heap.IsTuple a y.toArray):x=y:=by
 obtain⟨o,e,_,n,d⟩:=h;obtain⟨o',e',_,n',d'⟩:=h';rw[e]at e';cases e';rw[d]at d';injection d' with d1 _
 simpa using congrArg Array.toList d1
theorem cJ {s:Shared}{a:Addr}{x y:List Value}(h:s.heap.IsList a x.toArray)(h':s.heap.IsList a y.toArray):x=y:=by
 obtain⟨o,e,_,n,d⟩:=h;obtain⟨o',e',_,n',d'⟩:=h';rw[e]at e';cases e';rw[d]at d';injection d' with d1 _
 simpa using congrArg Array.toList d1
theorem vP {s:Shared}{i:Int}{t:T}{k:Tok}(r:ReV s t (.int i k)):AK i t=true:=by
 cases t with
 | non=>unfold ReV at r;cases r
 | bl b=>unfold ReV at r;cases r
 | int j=>unfold ReV at r;obtain⟨t,e⟩:=r;injection e with e1 _;subst e1;simp[AK]
 | str x=>unfold ReV at r;obtain⟨t,e⟩:=r;cases e
 | tup l=>unfold ReV at r;obtain⟨a,its,e,_⟩:=r;cases e
 | lst l=>unfold ReV at r;obtain⟨a,its,e,_⟩:=r;cases e
 | scr l=>unfold ReV at r;obtain⟨a,its,e,_⟩:=r;cases e
 | dct _ _=>unfold ReV at r;exact r.elim
theorem mG {s:Shared}:∀{ns:List Int} {us:List Value} {l:List T},IntsAre us ns->ReVs s l us->i9 ns l=true
 | [],us,l,h,r=>by
  cases h
  cases l with
  | nil=>rfl
  | cons t l=>obtain⟨_,_,e,_⟩:=ReVs.cons_iff.mp r;cases e
 | n::ns,us,l,h,r=>by
  cases h with
  | cons a b hh=>
   cases l with
   | nil=>have:=ReVs.nil_iff.mp r;cases this
   | cons t l=>
    obtain⟨u,ws,e,p,q⟩:=ReVs.cons_iff.mp r;injection e with e1 e2
    subst e1 e2;rw[i9,vP p,mG hh q];rfl
theorem dJ {s:Shared}:∀{us:List Value} {ns:List Int},IntsAre us ns->ReVs s (ns.map T.int) us
 | _,_,.nil=>ReVs.nil_iff.mpr rfl
 | _,_,.cons n t h=>ReVs.cons_iff.mpr ⟨_,_,rfl,by unfold ReV;exact⟨_,rfl⟩,dJ h⟩
theorem hZ:∀{us:List Value} {ns ms:List Int},IntsAre us ns->IntsAre us ms->ns=ms
 | _,_,_,.nil,.nil=>rfl
 | _,_,_,.cons n t h,.cons _ _ h'=>by rw[hZ h h']
mutual
theorem ReV.refl {s:Shared}:∀{t u:T} {v:Value},ReV s t v->ReV s u v->aR t u=true
 | .non,u,v,r,q=>by
  unfold ReV at r;subst r
  cases u <;> (unfold ReV at q) <;> first | rfl | (cases q;done) | (obtain⟨_,e⟩:=q;cases e;done) | (obtain⟨_,_,e,_⟩:=q;cases e;done)
 | .bl b,u,v,r,q=>by
  unfold ReV at r;subst r
  cases u <;> (unfold ReV at q) <;> first | (cases q;done) | (cases q;simp[aR];done) | (obtain⟨_,e⟩:=q;cases e;done) | (obtain⟨_,_,e,_⟩:=q;cases e;done)
 | .int b,u,v,r,q=>by
  unfold ReV at r;obtain⟨k,rfl⟩:=r
  cases u <;> (unfold ReV at q) <;> first | (cases q;done) | (obtain⟨_,e⟩:=q;cases e;simp[aR];done) | (obtain⟨_,e⟩:=q;cases e;done) | (obtain⟨_,_,e,_⟩:=q;cases e;done)
 | .str b,u,v,r,q=>by
  unfold ReV at r;obtain⟨k,rfl⟩:=r
  cases u <;> (unfold ReV at q) <;> first | (cases q;done) | (obtain⟨_,e⟩:=q;cases e;simp[aR];done) | (obtain⟨_,e⟩:=q;cases e;done) | (obtain⟨_,_,e,_⟩:=q;cases e;done)
 | .tup l,u,v,r,q=>by
  unfold ReV at r;obtain⟨a,its,rfl,h1,h2⟩:=r
  cases u with
  | non=>unfold ReV at q;cases q
  | dct _ _=>unfold ReV at q;exact q.elim
  | bl _=>unfold ReV at q;cases q
  | int _=>unfold ReV at q;obtain⟨_,e⟩:=q;cases e
  | str _=>unfold ReV at q;obtain⟨_,e⟩:=q;cases e
  | tup m=>
   unfold ReV at q;obtain⟨a',its',e,h1',h2'⟩:=q;injection e with e;subst e
   have:=hY h1 h1';subst this;unfold aR
   exact ReVs.refl h2 h2'
  | lst m=>unfold ReV at q;obtain⟨a',its',e,h1',h2'⟩:=q;injection e with e;subst e;exact absurd rfl (ne_of_list_tuple h1' h1)
  | scr m=>unfold ReV at q;obtain⟨a',its',e,h1',h2'⟩:=q;injection e with e;subst e;exact absurd rfl (ne_of_list_tuple h1' h1)
 | .lst l,u,v,r,q=>by
  unfold ReV at r;obtain⟨a,its,rfl,h1,h2⟩:=r
  cases u with
  | non=>unfold ReV at q;cases q
  | dct _ _=>unfold ReV at q;exact q.elim
  | bl _=>unfold ReV at q;cases q
  | int _=>unfold ReV at q;obtain⟨_,e⟩:=q;cases e
  | str _=>unfold ReV at q;obtain⟨_,e⟩:=q;cases e
  | lst m=>
   unfold ReV at q;obtain⟨a',its',e,h1',h2'⟩:=q;injection e with e;subst e
   have:=cJ h1 h1';subst this;unfold aR
   exact ReVs.refl h2 h2'
  | tup m=>unfold ReV at q;obtain⟨a',its',e,h1',h2'⟩:=q;injection e with e;subst e;exact absurd rfl (ne_of_list_tuple h1 h1')
  | scr m=>
   unfold ReV at q;obtain⟨a',its',e,h1',h2'⟩:=q;injection e with e;subst e
   have:=cJ h1 h1';subst this;unfold aR
   exact ReVs.refl h2 (dJ h2')
 | .scr l,u,v,r,q=>by
  unfold ReV at r;obtain⟨a,its,rfl,h1,h2⟩:=r
  cases u with
  | non=>unfold ReV at q;cases q
  | dct _ _=>unfold ReV at q;exact q.elim
  | bl _=>unfold ReV at q;cases q
  | int _=>unfold ReV at q;obtain⟨_,e⟩:=q;cases e
  | str _=>unfold ReV at q;obtain⟨_,e⟩:=q;cases e
  | lst m=>
   unfold ReV at q;obtain⟨a',its',e,h1',h2'⟩:=q;injection e with e;subst e
   have:=cJ h1 h1';subst this;unfold aR
   exact mG h2 h2'
  | tup m=>unfold ReV at q;obtain⟨a',its',e,h1',h2'⟩:=q;injection e with e;subst e;exact absurd rfl (ne_of_list_tuple h1 h1')
  | scr m=>
   unfold ReV at q;obtain⟨a',its',e,h1',h2'⟩:=q;injection e with e;subst e
   have:=cJ h1 h1';subst this;unfold aR
   have:=hZ h2 h2'
   simp[this]
 | .dct _ _,u,v,r,q=>by unfold ReV at r;exact r.elim
theorem ReVs.refl {s:Shared}:∀{l m:List T} {us:List Value},ReVs s l us->ReVs s m us->beqTs l m=true
 | [],m,us,r,q=>by
  cases ReVs.nil_iff.mp r
  cases m with
  | nil=>simp[beqTs]
  | cons _ _=>obtain⟨_,_,e,_⟩:=ReVs.cons_iff.mp q;cases e
 | t::l,m,us,r,q=>by
  obtain⟨v,ws,rfl,p,z⟩:=ReVs.cons_iff.mp r
  cases m with
  | nil=>cases ReVs.nil_iff.mp q
  | cons u m=>
   obtain⟨v',ws',e,p',z'⟩:=ReVs.cons_iff.mp q;injection e with e1 e2
   subst e1 e2;rw[beqTs,ReV.refl p p',ReVs.refl z z'];rfl
end
theorem mF:∀(l:List Int) (m:List T),i9 l m=beqTs (l.map T.int) m
 | [],[] =>by simp[i9,beqTs]
 | [],_::_=>by simp[i9,beqTs]
 | _::_,[] =>by simp[i9,beqTs]
 | i::l,t::m=>by
  rw[i9,List.map_cons,beqTs,mF l m]
  congr 1
  cases t <;> simp[AK,aR]
theorem ou:∀(l m:List Int),(l == m)=beqTs (l.map T.int) (m.map T.int)
 | [],[] =>by simp[beqTs]
 | [],_::_=>by simp[beqTs]
 | _::_,[] =>by simp[beqTs]
 | i::l,t::m=>by
  rw[List.map_cons,List.map_cons,beqTs,<-ou l m];simp[aR]
theorem fK:∀(l:List Int),deps (l.map T.int)=0
 | [] =>rfl
 | i::l=>by rw[List.map_cons,deps,fK l];simp[T.dep]
def iA:T->T->Prop
 | .tup _,.tup _=>False
 | .lst _,.lst _=>False
 | .lst _,.scr _=>False
 | .scr _,.lst _=>False
 | .scr _,.scr _=>False
 | _,_=>True
theorem rB (A:Around)(s:Shared)(x y:T)(u v:Value)(hn:iA x y)(hu:A.units<cLine)(rx:ReV s x u)(ry:ReV s y v):EqAt A s u v (aR x y)/\RcAt A s u v (aR x y)/\RcNeAt A s u v (!aR x y):=by
 match x,y,hn,rx,ry with
 | .dct _ _,_,_,rx,_=>exact(by unfold ReV at rx;exact rx:False).elim
 | _,.dct _ _,_,_,ry=>exact(by unfold ReV at ry;exact ry:False).elim
 | .non,.non,hn,rx,ry=>
  obtain rfl:u=Value.none:=by unfold ReV at rx;exact rx
  obtain rfl:v=Value.none:=by unfold ReV at ry;exact ry
  exact⟨EqAt.same _,RcAt.none_none ,RcNeAt.none_none ⟩
 | .non,.bl b2,hn,rx,ry=>
  obtain rfl:u=Value.none:=by unfold ReV at rx;exact rx
  obtain rfl:v=Value.bool b2:=by unfold ReV at ry;exact ry
  exact⟨EqAt.none_bool b2,RcAt.none_bool b2,RcNeAt.none_bool b2⟩
 | .non,.int i2,hn,rx,ry=>
  obtain rfl:u=Value.none:=by unfold ReV at rx;exact rx
  obtain⟨k2,rfl⟩:∃k,v=Value.int i2 k:=by unfold ReV at ry;exact ry
  exact⟨EqAt.none_int i2 k2,RcAt.none_int i2 k2,RcNeAt.none_int i2 k2⟩
 | .non,.str x2,hn,rx,ry=>
  obtain rfl:u=Value.none:=by unfold ReV at rx;exact rx
  obtain⟨k2,rfl⟩:∃k,v=Value.str x2 k:=by unfold ReV at ry;exact ry
  exact⟨EqAt.none_str x2 k2,RcAt.none_str x2 k2,RcNeAt.none_str x2 k2⟩
 | .non,.tup l2,hn,rx,ry=>
  obtain rfl:u=Value.none:=by unfold ReV at rx;exact rx
  unfold ReV at ry;obtain⟨a2,us2,rfl,h2,q2⟩:=ry
  exact⟨EqAt.none_tuple h2 hu,RcAt.none_tuple h2 hu,RcNeAt.none_tuple h2 hu⟩
 | .non,.lst l2,hn,rx,ry=>
  obtain rfl:u=Value.none:=by unfold ReV at rx;exact rx
  unfold ReV at ry;obtain⟨a2,us2,rfl,h2,q2⟩:=ry
  exact⟨EqAt.none_list h2 hu,RcAt.none_list h2 hu,RcNeAt.none_list h2 hu⟩
 | .non,.scr l2,hn,rx,ry=>
  obtain rfl:u=Value.none:=by unfold ReV at rx;exact rx
  unfold ReV at ry;obtain⟨a2,us2,rfl,h2,q2⟩:=ry
  exact⟨EqAt.none_list h2 hu,RcAt.none_list h2 hu,RcNeAt.none_list h2 hu⟩
 | .bl b1,.non,hn,rx,ry=>
  obtain rfl:u=Value.bool b1:=by unfold ReV at rx;exact rx
  obtain rfl:v=Value.none:=by unfold ReV at ry;exact ry
  exact⟨EqAt.bool_none b1,RcAt.bool_none b1,RcNeAt.bool_none b1⟩
 | .bl b1,.bl b2,hn,rx,ry=>
  obtain rfl:u=Value.bool b1:=by unfold ReV at rx;exact rx
  obtain rfl:v=Value.bool b2:=by unfold ReV at ry;exact ry
  exact⟨EqAt.bool_bool b1 b2,RcAt.bool_bool b1 b2,RcNeAt.bool_bool b1 b2⟩
 | .bl b1,.int i2,hn,rx,ry=>
  obtain rfl:u=Value.bool b1:=by unfold ReV at rx;exact rx
  obtain⟨k2,rfl⟩:∃k,v=Value.int i2 k:=by unfold ReV at ry;exact ry
  exact⟨EqAt.bool_int b1 i2 k2,RcAt.bool_int b1 i2 k2,RcNeAt.bool_int b1 i2 k2⟩
 | .bl b1,.str x2,hn,rx,ry=>
  obtain rfl:u=Value.bool b1:=by unfold ReV at rx;exact rx
  obtain⟨k2,rfl⟩:∃k,v=Value.str x2 k:=by unfold ReV at ry;exact ry
  exact⟨EqAt.bool_str b1 x2 k2,RcAt.bool_str b1 x2 k2,RcNeAt.bool_str b1 x2 k2⟩
 | .bl b1,.tup l2,hn,rx,ry=>
  obtain rfl:u=Value.bool b1:=by unfold ReV at rx;exact rx
  unfold ReV at ry;obtain⟨a2,us2,rfl,h2,q2⟩:=ry
  exact⟨EqAt.bool_tuple b1 h2 hu,RcAt.bool_tuple b1 h2 hu,RcNeAt.bool_tuple b1 h2 hu⟩
 | .bl b1,.lst l2,hn,rx,ry=>
  obtain rfl:u=Value.bool b1:=by unfold ReV at rx;exact rx
  unfold ReV at ry;obtain⟨a2,us2,rfl,h2,q2⟩:=ry
  exact⟨EqAt.bool_list b1 h2 hu,RcAt.bool_list b1 h2 hu,RcNeAt.bool_list b1 h2 hu⟩
 | .bl b1,.scr l2,hn,rx,ry=>
  obtain rfl:u=Value.bool b1:=by unfold ReV at rx;exact rx
  unfold ReV at ry;obtain⟨a2,us2,rfl,h2,q2⟩:=ry
  exact⟨EqAt.bool_list b1 h2 hu,RcAt.bool_list b1 h2 hu,RcNeAt.bool_list b1 h2 hu⟩
 | .int i1,.non,hn,rx,ry=>
  obtain⟨k1,rfl⟩:∃k,u=Value.int i1 k:=by unfold ReV at rx;exact rx
  obtain rfl:v=Value.none:=by unfold ReV at ry;exact ry
  exact⟨EqAt.int_none i1 k1,RcAt.int_none i1 k1,RcNeAt.int_none i1 k1⟩
 | .int i1,.bl b2,hn,rx,ry=>
  obtain⟨k1,rfl⟩:∃k,u=Value.int i1 k:=by unfold ReV at rx;exact rx
  obtain rfl:v=Value.bool b2:=by unfold ReV at ry;exact ry
  exact⟨EqAt.int_bool i1 k1 b2,RcAt.int_bool i1 k1 b2,RcNeAt.int_bool i1 k1 b2⟩
 | .int i1,.int i2,hn,rx,ry=>
  obtain⟨k1,rfl⟩:∃k,u=Value.int i1 k:=by unfold ReV at rx;exact rx
  obtain⟨k2,rfl⟩:∃k,v=Value.int i2 k:=by unfold ReV at ry;exact ry
  exact⟨EqAt.int_int i1 k1 i2 k2,RcAt.int_int i1 k1 i2 k2,RcNeAt.int_int i1 k1 i2 k2⟩
 | .int i1,.str x2,hn,rx,ry=>
  obtain⟨k1,rfl⟩:∃k,u=Value.int i1 k:=by unfold ReV at rx;exact rx
  obtain⟨k2,rfl⟩:∃k,v=Value.str x2 k:=by unfold ReV at ry;exact ry
  exact⟨EqAt.int_str i1 k1 x2 k2,RcAt.int_str i1 k1 x2 k2,RcNeAt.int_str i1 k1 x2 k2⟩
 | .int i1,.tup l2,hn,rx,ry=>
  obtain⟨k1,rfl⟩:∃k,u=Value.int i1 k:=by unfold ReV at rx;exact rx
  unfold ReV at ry;obtain⟨a2,us2,rfl,h2,q2⟩:=ry
  exact⟨EqAt.int_tuple i1 k1 h2 hu,RcAt.int_tuple i1 k1 h2 hu,RcNeAt.int_tuple i1 k1 h2 hu⟩
 | .int i1,.lst l2,hn,rx,ry=>
  obtain⟨k1,rfl⟩:∃k,u=Value.int i1 k:=by unfold ReV at rx;exact rx
  unfold ReV at ry;obtain⟨a2,us2,rfl,h2,q2⟩:=ry
  exact⟨EqAt.int_list i1 k1 h2 hu,RcAt.int_list i1 k1 h2 hu,RcNeAt.int_list i1 k1 h2 hu⟩
 | .int i1,.scr l2,hn,rx,ry=>
  obtain⟨k1,rfl⟩:∃k,u=Value.int i1 k:=by unfold ReV at rx;exact rx
  unfold ReV at ry;obtain⟨a2,us2,rfl,h2,q2⟩:=ry
  exact⟨EqAt.int_list i1 k1 h2 hu,RcAt.int_list i1 k1 h2 hu,RcNeAt.int_list i1 k1 h2 hu⟩
 | .str x1,.non,hn,rx,ry=>
  obtain⟨k1,rfl⟩:∃k,u=Value.str x1 k:=by unfold ReV at rx;exact rx
  obtain rfl:v=Value.none:=by unfold ReV at ry;exact ry
  exact⟨EqAt.str_none x1 k1,RcAt.str_none x1 k1,RcNeAt.str_none x1 k1⟩
 | .str x1,.bl b2,hn,rx,ry=>
  obtain⟨k1,rfl⟩:∃k,u=Value.str x1 k:=by unfold ReV at rx;exact rx
  obtain rfl:v=Value.bool b2:=by unfold ReV at ry;exact ry
  exact⟨EqAt.str_bool x1 k1 b2,RcAt.str_bool x1 k1 b2,RcNeAt.str_bool x1 k1 b2⟩
 | .str x1,.int i2,hn,rx,ry=>
  obtain⟨k1,rfl⟩:∃k,u=Value.str x1 k:=by unfold ReV at rx;exact rx
  obtain⟨k2,rfl⟩:∃k,v=Value.int i2 k:=by unfold ReV at ry;exact ry
  exact⟨EqAt.str_int x1 k1 i2 k2,RcAt.str_int x1 k1 i2 k2,RcNeAt.str_int x1 k1 i2 k2⟩
 | .str x1,.str x2,hn,rx,ry=>
  obtain⟨k1,rfl⟩:∃k,u=Value.str x1 k:=by unfold ReV at rx;exact rx
  obtain⟨k2,rfl⟩:∃k,v=Value.str x2 k:=by unfold ReV at ry;exact ry
  exact⟨EqAt.str_str x1 k1 x2 k2,RcAt.str_str x1 k1 x2 k2,RcNeAt.str_str x1 k1 x2 k2⟩
 | .str x1,.tup l2,hn,rx,ry=>
  obtain⟨k1,rfl⟩:∃k,u=Value.str x1 k:=by unfold ReV at rx;exact rx
  unfold ReV at ry;obtain⟨a2,us2,rfl,h2,q2⟩:=ry
  exact⟨EqAt.str_tuple x1 k1 h2 hu,RcAt.str_tuple x1 k1 h2 hu,RcNeAt.str_tuple x1 k1 h2 hu⟩
 | .str x1,.lst l2,hn,rx,ry=>
  obtain⟨k1,rfl⟩:∃k,u=Value.str x1 k:=by unfold ReV at rx;exact rx
  unfold ReV at ry;obtain⟨a2,us2,rfl,h2,q2⟩:=ry
  exact⟨EqAt.str_list x1 k1 h2 hu,RcAt.str_list x1 k1 h2 hu,RcNeAt.str_list x1 k1 h2 hu⟩
 | .str x1,.scr l2,hn,rx,ry=>
  obtain⟨k1,rfl⟩:∃k,u=Value.str x1 k:=by unfold ReV at rx;exact rx
  unfold ReV at ry;obtain⟨a2,us2,rfl,h2,q2⟩:=ry
  exact⟨EqAt.str_list x1 k1 h2 hu,RcAt.str_list x1 k1 h2 hu,RcNeAt.str_list x1 k1 h2 hu⟩
 | .tup l1,.non,hn,rx,ry=>
  unfold ReV at rx;obtain⟨a1,us1,rfl,h1,q1⟩:=rx;obtain rfl:v=Value.none:=by unfold ReV at ry;exact ry
  exact⟨EqAt.tuple_none h1 hu,RcAt.tuple_none h1 hu,RcNeAt.tuple_none h1 hu⟩
 | .tup l1,.bl b2,hn,rx,ry=>
  unfold ReV at rx;obtain⟨a1,us1,rfl,h1,q1⟩:=rx;obtain rfl:v=Value.bool b2:=by unfold ReV at ry;exact ry
  exact⟨EqAt.tuple_bool b2 h1 hu,RcAt.tuple_bool b2 h1 hu,RcNeAt.tuple_bool b2 h1 hu⟩
 | .tup l1,.int i2,hn,rx,ry=>
  unfold ReV at rx;obtain⟨a1,us1,rfl,h1,q1⟩:=rx;obtain⟨k2,rfl⟩:∃k,v=Value.int i2 k:=by unfold ReV at ry;exact ry
  exact⟨EqAt.tuple_int i2 k2 h1 hu,RcAt.tuple_int i2 k2 h1 hu,RcNeAt.tuple_int i2 k2 h1 hu⟩
 | .tup l1,.str x2,hn,rx,ry=>
  unfold ReV at rx;obtain⟨a1,us1,rfl,h1,q1⟩:=rx;obtain⟨k2,rfl⟩:∃k,v=Value.str x2 k:=by unfold ReV at ry;exact ry
  exact⟨EqAt.tuple_str x2 k2 h1 hu,RcAt.tuple_str x2 k2 h1 hu,RcNeAt.tuple_str x2 k2 h1 hu⟩
 | .tup _,.tup _,hn,_,_=>exact hn.elim
 | .tup l1,.lst l2,hn,rx,ry=>
  unfold ReV at rx;obtain⟨a1,us1,rfl,h1,q1⟩:=rx;unfold ReV at ry;obtain⟨a2,us2,rfl,h2,q2⟩:=ry
  exact⟨EqAt.tuple_list h1 h2 hu,RcAt.tuple_list h1 h2 hu,RcNeAt.tuple_list h1 h2 hu⟩
 | .tup l1,.scr l2,hn,rx,ry=>
  unfold ReV at rx;obtain⟨a1,us1,rfl,h1,q1⟩:=rx;unfold ReV at ry;obtain⟨a2,us2,rfl,h2,q2⟩:=ry
  exact⟨EqAt.tuple_list h1 h2 hu,RcAt.tuple_list h1 h2 hu,RcNeAt.tuple_list h1 h2 hu⟩
 | .lst l1,.non,hn,rx,ry=>
  unfold ReV at rx;obtain⟨a1,us1,rfl,h1,q1⟩:=rx;obtain rfl:v=Value.none:=by unfold ReV at ry;exact ry
  exact⟨EqAt.list_none h1 hu,RcAt.list_none h1 hu,RcNeAt.list_none h1 hu⟩
 | .lst l1,.bl b2,hn,rx,ry=>
  unfold ReV at rx;obtain⟨a1,us1,rfl,h1,q1⟩:=rx;obtain rfl:v=Value.bool b2:=by unfold ReV at ry;exact ry
  exact⟨EqAt.list_bool b2 h1 hu,RcAt.list_bool b2 h1 hu,RcNeAt.list_bool b2 h1 hu⟩
 | .lst l1,.int i2,hn,rx,ry=>
  unfold ReV at rx;obtain⟨a1,us1,rfl,h1,q1⟩:=rx;obtain⟨k2,rfl⟩:∃k,v=Value.int i2 k:=by unfold ReV at ry;exact ry
  exact⟨EqAt.list_int i2 k2 h1 hu,RcAt.list_int i2 k2 h1 hu,RcNeAt.list_int i2 k2 h1 hu⟩
 | .lst l1,.str x2,hn,rx,ry=>
  unfold ReV at rx;obtain⟨a1,us1,rfl,h1,q1⟩:=rx;obtain⟨k2,rfl⟩:∃k,v=Value.str x2 k:=by unfold ReV at ry;exact ry
  exact⟨EqAt.list_str x2 k2 h1 hu,RcAt.list_str x2 k2 h1 hu,RcNeAt.list_str x2 k2 h1 hu⟩
 | .lst l1,.tup l2,hn,rx,ry=>
  unfold ReV at rx;obtain⟨a1,us1,rfl,h1,q1⟩:=rx;unfold ReV at ry;obtain⟨a2,us2,rfl,h2,q2⟩:=ry
  exact⟨EqAt.list_tuple h1 h2 hu,RcAt.list_tuple h1 h2 hu,RcNeAt.list_tuple h1 h2 hu⟩
 | .lst _,.lst _,hn,_,_=>exact hn.elim
 | .lst _,.scr _,hn,_,_=>exact hn.elim
 | .scr l1,.non,hn,rx,ry=>
  unfold ReV at rx;obtain⟨a1,us1,rfl,h1,q1⟩:=rx;obtain rfl:v=Value.none:=by unfold ReV at ry;exact ry
  exact⟨EqAt.list_none h1 hu,RcAt.list_none h1 hu,RcNeAt.list_none h1 hu⟩
 | .scr l1,.bl b2,hn,rx,ry=>
  unfold ReV at rx;obtain⟨a1,us1,rfl,h1,q1⟩:=rx;obtain rfl:v=Value.bool b2:=by unfold ReV at ry;exact ry
  exact⟨EqAt.list_bool b2 h1 hu,RcAt.list_bool b2 h1 hu,RcNeAt.list_bool b2 h1 hu⟩
 | .scr l1,.int i2,hn,rx,ry=>
  unfold ReV at rx;obtain⟨a1,us1,rfl,h1,q1⟩:=rx;obtain⟨k2,rfl⟩:∃k,v=Value.int i2 k:=by unfold ReV at ry;exact ry
  exact⟨EqAt.list_int i2 k2 h1 hu,RcAt.list_int i2 k2 h1 hu,RcNeAt.list_int i2 k2 h1 hu⟩
 | .scr l1,.str x2,hn,rx,ry=>
  unfold ReV at rx;obtain⟨a1,us1,rfl,h1,q1⟩:=rx;obtain⟨k2,rfl⟩:∃k,v=Value.str x2 k:=by unfold ReV at ry;exact ry
  exact⟨EqAt.list_str x2 k2 h1 hu,RcAt.list_str x2 k2 h1 hu,RcNeAt.list_str x2 k2 h1 hu⟩
 | .scr l1,.tup l2,hn,rx,ry=>
  unfold ReV at rx;obtain⟨a1,us1,rfl,h1,q1⟩:=rx;unfold ReV at ry;obtain⟨a2,us2,rfl,h2,q2⟩:=ry
  exact⟨EqAt.list_tuple h1 h2 hu,RcAt.list_tuple h1 h2 hu,RcNeAt.list_tuple h1 h2 hu⟩
 | .scr _,.lst _,hn,_,_=>exact hn.elim
 | .scr _,.scr _,hn,_,_=>exact hn.elim
theorem Ax:∀(n:Nat) (A:Around) (s:Shared) (x y:T) (u v:Value),(x.dep<=n\/y.dep<=n)->A.units+n<cLine->ReV s x u->ReV s y v->EqAt A s u v (aR x y)/\RcAt A s u v (aR x y)/\RcNeAt A s u v (!aR x y):=by
 intro n
 induction n with
 | zero=>
  intro A s x y u v hd hu rx ry
  exact rB A s x y u v (by cases x <;> cases y <;> simp_all [iA,T.dep]) (by omega) rx ry
 | succ n ih=>
  intro A s x y u v hd hu rx ry
  have hin:A.in1.units+n<cLine:=by show A.units+1+n<cLine;omega
  have items:∀(l m:List T) (us vs:List Value),(deps l<=n\/deps m<=n)->ReVs s l us->ReVs s m vs->∃e:Nat->Bool,(∀j (h1:j<us.toArray.size) (h2:j<vs.toArray.size),EqAt A.in1 s us.toArray[j] vs.toArray[j] (e j)) ∧
    (∀(j:Nat) t u,l[j]? =some t->m[j]? =some u->e j=aR t u):=λl m us vs hd r1 r2=>by
   refine⟨λj=>aR (l.getD j .non) (m.getD j .non),λj h1 h2=> ?_,λj t u e1 e2=>by simp[List.getD,e1,e2]⟩
   have l1:=r1.length
   have l2:=r2.length
   have h1':j<l.length:=by rw[l1];simpa using h1
   have h2':j<m.length:=by rw[l2];simpa using h2
   have e1:l[j]? =some l[j]:=by simp
   have e2:m[j]? =some m[j]:=by simp
   obtain⟨u1,z1,w1⟩:=r1.get e1;obtain⟨u2,z2,w2⟩:=r2.get e2
   have q1:us.toArray[j] =u1:=by
    have:us[j]? =some us.toArray[j]:=by simp
    rw[z1]at this;exact(Option.some.inj this).symm
   have q2:vs.toArray[j] =u2:=by
    have:vs[j]? =some vs.toArray[j]:=by simp
    rw[z2]at this;exact(Option.some.inj this).symm
   rw[q1,q2]
   have g1:l.getD j .non=l[j]:=by simp[List.getD,e1]
   have g2:m.getD j .non=m[j]:=by simp[List.getD,e2]
   show EqAt A.in1 s u1 u2 (aR (l.getD j .non) (m.getD j .non))
   rw[g1,g2];refine(ih A.in1 s l[j] m[j] u1 u2 ?_ hin w1 w2).1
   rcases hd with hd | hd
   ·exact .inl (Nat.le_trans (im e1) hd)
   ·exact .inr (Nat.le_trans (im e2) hd)
  have lists:∀(l m:List T) (a b:Addr) (us vs:List Value),(deps l<=n\/deps m<=n)->ReVs s l us->ReVs s m vs->s.heap.IsList a us.toArray->s.heap.IsList b vs.toArray →
    EqAt A s (.ref a) (.ref b) (beqTs l m)/\RcAt A s (.ref a) (.ref b) (beqTs l m)/\RcNeAt A s (.ref a) (.ref b) (!beqTs l m):=λl m a b us vs hd r1 r2 h1 h2=>by
   have l1:=r1.length
   have l2:=r2.length
   have key:RcAt A s (.ref a) (.ref b) (beqTs l m)/\RcNeAt A s (.ref a) (.ref b) (!beqTs l m):=by
    by_cases hl:l.length=m.length
    ·obtain⟨e,he,hb⟩:=items l m us vs hd r1 r2
     have q:=kw l m e hb
     have q2:beqTs l m=(List.range us.toArray.size).all e:=by
      rw[q,hl,Nat.min_self];simp[l2.symm,hl.symm,l1]
     rw[q2]
     have hsz:us.toArray.size=vs.toArray.size:=by simp;omega
     exact⟨RcAt.lists h1 h2 hsz (by omega) he,RcNeAt.lists h1 h2 hsz (by omega) he⟩
    ·rw[n6 hl]
     have hsz:(us.toArray.size != vs.toArray.size)=true:=by simp;omega
     exact⟨RcAt.lists_lengths h1 h2 hsz (by omega),RcNeAt.lists_lengths h1 h2 hsz (by omega)⟩
   refine⟨?_,key⟩
   by_cases hab:a=b
   ·subst hab
    have:=cJ h1 h2;subst this;rw[ReVs.refl r1 r2];exact EqAt.same _
   ·exact EqAt.of_refs hab key.1
  cases x with
  | tup l=>
   cases y with
   | tup m=>
    unfold ReV at rx ry;obtain⟨a,us,rfl,h1,r1⟩:=rx;obtain⟨b,vs,rfl,h2,r2⟩:=ry
    have hd':deps l<=n\/deps m<=n:=by
     simp only[T.dep]at hd;omega
    have l1:=r1.length
    have l2:=r2.length;obtain⟨e,he,hb⟩:=items l m us vs hd' r1 r2
    have q:=kw l m e hb
    have q2:beqTs l m=((List.range (min us.toArray.size vs.toArray.size)).all e&&us.toArray.size == vs.toArray.size):=by
     rw[q];simp[l1,l2]
    have key:RcAt A s (.ref a) (.ref b) (beqTs l m)/\RcNeAt A s (.ref a) (.ref b) (!beqTs l m):=by
     rw[q2];exact⟨RcAt.tuples h1 h2 (by omega) he,RcNeAt.tuples h1 h2 (by omega) he⟩
    unfold aR;refine⟨?_,key⟩
    by_cases hab:a=b
    ·subst hab
     have:=hY h1 h2;subst this;rw[ReVs.refl r1 r2];exact EqAt.same _
    ·exact EqAt.of_refs hab key.1
   | _=>exact rB A s _ _ u v (by simp[iA]) (by omega) rx ry
  | lst l=>
   cases y with
   | lst m=>
    unfold ReV at rx ry;obtain⟨a,us,rfl,h1,r1⟩:=rx;obtain⟨b,vs,rfl,h2,r2⟩:=ry;unfold aR
    exact lists l m a b us vs (by simp only[T.dep]at hd;omega) r1 r2 h1 h2
   | scr m=>
    unfold ReV at rx ry;obtain⟨a,us,rfl,h1,r1⟩:=rx;obtain⟨b,vs,rfl,h2,r2⟩:=ry;unfold aR
    exact lists l (m.map T.int) a b us vs (by rw[fK];omega) r1 (dJ r2) h1 h2
   | _=>exact rB A s _ _ u v (by simp[iA]) (by omega) rx ry
  | scr l=>
   cases y with
   | lst m=>
    unfold ReV at rx ry;obtain⟨a,us,rfl,h1,r1⟩:=rx;obtain⟨b,vs,rfl,h2,r2⟩:=ry;unfold aR;rw[mF]
    exact lists (l.map T.int) m a b us vs (by rw[fK];omega) (dJ r1) r2 h1 h2
   | scr m=>
    unfold ReV at rx ry;obtain⟨a,us,rfl,h1,r1⟩:=rx;obtain⟨b,vs,rfl,h2,r2⟩:=ry;unfold aR;rw[ou]
    exact lists (l.map T.int) (m.map T.int) a b us vs (by rw[fK];omega) (dJ r1) (dJ r2) h1 h2
   | _=>exact rB A s _ _ u v (by simp[iA]) (by omega) rx ry
  | _=>exact rB A s _ _ u v (by simp[iA]) (by omega) rx ry
mutual
def T.nf:T->T
 | .tup l=> .tup (nfs l)
 | .lst l=> .lst (nfs l)
 | .scr l=> .lst (l.map .int)
 | .non=> .non
 | .bl b=> .bl b
 | .int b=> .int b
 | .str b=> .str b
 | .dct a b=> .dct a b
def nfs:List T->List T
 | [] => []
 | t::l=>t.nf::nfs l
end
theorem qU:∀(l:List Int),nfs (l.map T.int)=l.map T.int
 | [] =>rfl
 | i::l=>by rw[List.map_cons,nfs,qU l];simp[T.nf]
mutual
theorem jT:∀(t x:T),aR t.nf x=aR t x
 | .non,x=>by simp[T.nf]
 | .bl _,x=>by simp[T.nf]
 | .int _,x=>by simp[T.nf]
 | .str _,x=>by simp[T.nf]
 | .tup l,x=>by cases x <;> simp[T.nf,aR,beqTs_nf l]
 | .lst l,x=>by cases x <;> simp[T.nf,aR,beqTs_nf l]
 | .scr l,x=>by cases x <;> simp[T.nf,aR,mF,ou]
 | .dct _ _,x=>by simp[T.nf]
theorem beqTs_nf:∀(l m:List T),beqTs (nfs l) m=beqTs l m
 | [],m=>by simp[nfs]
 | t::l,m=>by cases m <;> simp[nfs,beqTs,jT t,beqTs_nf l]
end
theorem C4 {s:Shared}{t:T}{i:Int}{k:Tok}(r:ReV s t (.int i k)):t.nf= .int i:=by
 cases t with
 | non=>unfold ReV at r;cases r
 | bl b=>unfold ReV at r;cases r
 | int j=>unfold ReV at r;obtain⟨t,e⟩:=r;injection e with e1 _;subst e1;rfl
 | str x=>unfold ReV at r;obtain⟨t,e⟩:=r;cases e
 | tup l=>unfold ReV at r;obtain⟨a,its,e,_⟩:=r;cases e
 | lst l=>unfold ReV at r;obtain⟨a,its,e,_⟩:=r;cases e
 | scr l=>unfold ReV at r;obtain⟨a,its,e,_⟩:=r;cases e
 | dct _ _=>unfold ReV at r;exact r.elim
theorem um {s:Shared}:∀{l:List T} {us:List Value} {ns:List Int},ReVs s l us->IntsAre us ns->nfs l=ns.map T.int
 | [],us,ns,r,h=>by cases ReVs.nil_iff.mp r;cases h;rfl
 | t::l,us,ns,r,h=>by
  obtain⟨u,ws,rfl,p,q⟩:=ReVs.cons_iff.mp r
  cases h with
  | cons a b hh=>rw[nfs,C4 p,um q hh];rfl
mutual
theorem ReV.nf {s:Shared}:∀{t u:T} {v:Value},ReV s t v->ReV s u v->t.nf=u.nf
 | .non,u,v,r,q=>by
  unfold ReV at r;subst r
  cases u <;> (unfold ReV at q) <;> first | rfl | (cases q;done) | (obtain⟨_,e⟩:=q;cases e;done) | (obtain⟨_,_,e,_⟩:=q;cases e;done)
 | .bl b,u,v,r,q=>by
  unfold ReV at r;subst r
  cases u <;> (unfold ReV at q) <;> first | (cases q;done) | (cases q;rfl) | (obtain⟨_,e⟩:=q;cases e;done) | (obtain⟨_,_,e,_⟩:=q;cases e;done)
 | .int b,u,v,r,q=>by
  unfold ReV at r;obtain⟨k,rfl⟩:=r
  cases u <;> (unfold ReV at q) <;> first | (cases q;done) | (obtain⟨_,e⟩:=q;cases e;done) | (obtain⟨_,e⟩:=q;cases e;rfl) | (obtain⟨_,_,e,_⟩:=q;cases e;done)
 | .str b,u,v,r,q=>by
  unfold ReV at r;obtain⟨k,rfl⟩:=r
  cases u <;> (unfold ReV at q) <;> first | (cases q;done) | (obtain⟨_,e⟩:=q;cases e;done) | (obtain⟨_,e⟩:=q;cases e;rfl) | (obtain⟨_,_,e,_⟩:=q;cases e;done)
 | .tup l,u,v,r,q=>by
  unfold ReV at r;obtain⟨a,its,rfl,h1,h2⟩:=r
  cases u with
  | non=>unfold ReV at q;cases q
  | dct _ _=>unfold ReV at q;exact q.elim
  | bl _=>unfold ReV at q;cases q
  | int _=>unfold ReV at q;obtain⟨_,e⟩:=q;cases e
  | str _=>unfold ReV at q;obtain⟨_,e⟩:=q;cases e
  | tup m=>
   unfold ReV at q;obtain⟨a',its',e,h1',h2'⟩:=q;injection e with e;subst e
   have:=hY h1 h1';subst this;unfold T.nf
   rw[ReVs.nf h2 h2']
  | lst m=>unfold ReV at q;obtain⟨a',its',e,h1',h2'⟩:=q;injection e with e;subst e;exact absurd rfl (ne_of_list_tuple h1' h1)
  | scr m=>unfold ReV at q;obtain⟨a',its',e,h1',h2'⟩:=q;injection e with e;subst e;exact absurd rfl (ne_of_list_tuple h1' h1)
 | .lst l,u,v,r,q=>by
  unfold ReV at r;obtain⟨a,its,rfl,h1,h2⟩:=r
  cases u with
  | non=>unfold ReV at q;cases q
  | dct _ _=>unfold ReV at q;exact q.elim
  | bl _=>unfold ReV at q;cases q
  | int _=>unfold ReV at q;obtain⟨_,e⟩:=q;cases e
  | str _=>unfold ReV at q;obtain⟨_,e⟩:=q;cases e
  | lst m=>
   unfold ReV at q;obtain⟨a',its',e,h1',h2'⟩:=q;injection e with e;subst e
   have:=cJ h1 h1';subst this;unfold T.nf
   rw[ReVs.nf h2 h2']
  | tup m=>unfold ReV at q;obtain⟨a',its',e,h1',h2'⟩:=q;injection e with e;subst e;exact absurd rfl (ne_of_list_tuple h1 h1')
  | scr m=>
   unfold ReV at q;obtain⟨a',its',e,h1',h2'⟩:=q;injection e with e;subst e
   have:=cJ h1 h1';subst this;unfold T.nf
   rw[ReVs.nf h2 (dJ h2'),qU]
 | .scr l,u,v,r,q=>by
  unfold ReV at r;obtain⟨a,its,rfl,h1,h2⟩:=r
  cases u with
  | non=>unfold ReV at q;cases q
  | dct _ _=>unfold ReV at q;exact q.elim
  | bl _=>unfold ReV at q;cases q
  | int _=>unfold ReV at q;obtain⟨_,e⟩:=q;cases e
  | str _=>unfold ReV at q;obtain⟨_,e⟩:=q;cases e
  | lst m=>
   unfold ReV at q;obtain⟨a',its',e,h1',h2'⟩:=q;injection e with e;subst e
   have:=cJ h1 h1';subst this
   have z:=um h2' h2;unfold T.nf
   rw[z]
  | tup m=>unfold ReV at q;obtain⟨a',its',e,h1',h2'⟩:=q;injection e with e;subst e;exact absurd rfl (ne_of_list_tuple h1 h1')
  | scr m=>
   unfold ReV at q;obtain⟨a',its',e,h1',h2'⟩:=q;injection e with e;subst e
   have:=cJ h1 h1';subst this
   rw[hZ h2 h2']
 | .dct _ _,u,v,r,q=>by unfold ReV at r;exact r.elim
theorem ReVs.nf {s:Shared}:∀{l m:List T} {us:List Value},ReVs s l us->ReVs s m us->nfs l=nfs m
 | [],m,us,r,q=>by
  cases ReVs.nil_iff.mp r
  cases m with
  | nil=>rfl
  | cons _ _=>obtain⟨_,_,e,_⟩:=ReVs.cons_iff.mp q;cases e
 | t::l,m,us,r,q=>by
  obtain⟨v,ws,rfl,p,z⟩:=ReVs.cons_iff.mp r
  cases m with
  | nil=>cases ReVs.nil_iff.mp q
  | cons u m=>
   obtain⟨v',ws',e,p',z'⟩:=ReVs.cons_iff.mp q;injection e with e1 e2
   subst e1 e2;rw[nfs,nfs,ReV.nf p p',ReVs.nf z z']
end
section
variable {X:Cx}{a b c:Expr}{fa fb fc:En->Rs T}{pos:Pos}
def fY (x y:T):Bool:=(decide (x.dep<=60)||decide (y.dep<=60))&&(x.nd&&y.nd)
def kX (x y:T):Rs T:=if fY x y=true then .ok (.bl (aR x y))else .bad
def k9 (x y:T):Rs T:=if fY x y=true then .ok (.bl (!aR x y))else .bad
theorem ii {x y:T}(h:x.dep<=60)(hx:x.nd=true)(hy:y.nd=true):fY x y=true:=by unfold fY;rw[decide_eq_true h,hx,hy];rfl
theorem mm {x y:T}(h:y.dep<=60)(hx:x.nd=true)(hy:y.nd=true):fY x y=true:=by unfold fY;rw[decide_eq_true h,hx,hy,Bool.or_true];rfl
theorem iJ {x y:T}(h:fY x y=true):x.nd=true/\y.nd=true:=by
 unfold fY at h;exact Bool.and_eq_true_iff.mp (Bool.and_eq_true_iff.mp h).2
theorem nS {x y:T}(h:fY x y=true):x.dep<=60\/y.dep<=60:=by
 unfold fY at h
 replace h:=(Bool.and_eq_true_iff.mp h).1
 rcases Bool.or_eq_true_iff.mp h with h | h
 ·exact .inl (of_decide_eq_true h)
 ·exact .inr (of_decide_eq_true h)
theorem lP (hu:X.A.units+60<cLine):OpT X (compareOp .Eq) kX:=by
 intro pins s σ H O x y vx vy ux uy Q I hf rx ry r1 r2 hp;unfold kX at hp
 split at hp
 ·rename_i h
  have z:=Ax 60 X.A s x y ux uy (nS h) hu (Rep.val I (iJ h).1 rx r1) (Rep.val I (iJ h).2 ry r2);exact z.2.1 _ _ _ _ ⟨.bl _,H,I,rfl,hp H (Same.refl H) _ (Rep.bl_ _)⟩
 ·exact hp.elim
theorem ny (hu:X.A.units+60<cLine):OpT X (compareOp .NotEq) k9:=by
 intro pins s σ H O x y vx vy ux uy Q I hf rx ry r1 r2 hp;unfold k9 at hp
 split at hp
 ·rename_i h
  have z:=Ax 60 X.A s x y ux uy (nS h) hu (Rep.val I (iJ h).1 rx r1) (Rep.val I (iJ h).2 ry r2);exact z.2.2 _ _ _ _ ⟨.bl _,H,I,rfl,hp H (Same.refl H) _ (Rep.bl_ _)⟩
 ·exact hp.elim
def T.items:T->Option (List T)
 | .tup l=>some l
 | .lst l=>some l
 | .scr l=>some (l.map T.int)
 | _=>none
def io (x:T)(l:List T):Bool:=l.any λy=>aR y x
def Du (x y:T):Rs T:=match y.items with
 | some l=>if (x.dep<=60\/deps l<=60)/\x.nd=true/\y.nd=true then .ok (.bl (io x l))else .bad
 | none=> .bad
def jh (x y:T):Rs T:=match y.items with
 | some l=>if (x.dep<=60\/deps l<=60)/\x.nd=true/\y.nd=true then .ok (.bl (!io x l))else .bad
 | none=> .bad
theorem tX {A:Around}{s:Shared}{x:T}{ux:Value}(rx:ReV s x ux)(hu:A.units+60<cLine){l:List T}{us:List Value}(hd:x.dep<=60\/deps l<=60)(r:ReVs s l us) :
  ∃e:Value->Bool,(∀y∈us,EqAt A s y ux (e y))/\us.any e=io x l:=by
 classical
 have ex:∀y∈us,∃t∈l,ReV s t y:=λy hy=>by
  obtain⟨i,hi,rfl⟩:=List.getElem_of_mem hy
  have hl:=r.length
  have e1:l[i]? =some l[i]:=by simp
  obtain⟨u,q1,q2⟩:=r.get e1
  have:us[i]? =some us[i]:=by simp
  rw[this]at q1;cases q1;exact⟨l[i],List.getElem_mem _,q2⟩
 let e:Value->Bool:=λy=>decide (∃t∈l,ReV s t y/\aR t x=true)
 have dep:∀t∈l,t.dep<=60\/x.dep<=60:=λt ht=>by
  rcases hd with h | h
  ·exact .inr h
  ·obtain⟨i,hi,rfl⟩:=List.getElem_of_mem ht
   exact .inl (Nat.le_trans (im (i:=i) (by simp)) h)
 have uniq:∀y t t',ReV s t y->ReV s t' y->aR t x=aR t' x:=λy t t' z z'=>by
  rw[<-jT t,<-jT t',ReV.nf z z']
 have agree:∀y t,t∈l->ReV s t y->e y=aR t x:=λy t h z=>by
  show decide (∃t∈l,ReV s t y/\aR t x=true)=aR t x
  cases q:aR t x with
  | true=>exact decide_eq_true ⟨t,h,z,q⟩
  | false=>
   refine decide_eq_false ?_
   rintro ⟨t',h',z',q'⟩
   rw[<-uniq y t t' z z',q]at q';cases q'
 refine⟨e,λy hy=> ?_,?_⟩
 ·obtain⟨t,h,z⟩:=ex y hy
  rw[agree y t h z];exact(Ax 60 A s t x y ux (dep t h) hu z rx).1
 ·have go:∀(l':List T) (us':List Value),(∀t∈l',t∈l)->ReVs s l' us'->us'.any e=l'.any λy=>aR y x:=by
   intro l'
   induction l' with
   | nil=>intro us' _ r';rw[ReVs.nil_iff.mp r'];rfl
   | cons t l' ih=>
    intro us' sub r';obtain⟨u,ws,rfl,p,q⟩:=ReVs.cons_iff.mp r';rw[List.any_cons,List.any_cons,ih ws (λt ht=>sub t (List.mem_cons_of_mem _ ht)) q,agree u t (sub t List.mem_cons_self) p]
  exact go l us (λ_ h=>h) r
theorem nN {s:Shared}{y:T}{u:Value}{l:List T}(r:ReV s y u)(h:y.items=some l):∃a us,u= .ref a/\ReVs s l us/\(s.heap.IsTuple a us.toArray\/s.heap.IsList a us.toArray):=by
 cases y with
 | tup m=>cases h;unfold ReV at r;obtain⟨a,us,e,h1,h2⟩:=r;exact⟨a,us,e,h2,.inl h1⟩
 | lst m=>cases h;unfold ReV at r;obtain⟨a,us,e,h1,h2⟩:=r;exact⟨a,us,e,h2,.inr h1⟩
 | scr m=>cases h;unfold ReV at r;obtain⟨a,us,e,h1,h2⟩:=r;exact⟨a,us,e,dJ h2,.inr h1⟩
 | _=>cases h
theorem Eh (hu:X.A.units+61<cLine):OpT X (compareOp .In) Du:=by
 intro pins s σ H O x y vx vy ux uy Q I hf rx ry r1 r2 hp;unfold Du at hp
 split at hp
 ·rename_i l hl
  split at hp
  ·rename_i hd3
   obtain⟨hd,hnx,hny⟩:=hd3;obtain⟨a,us,rfl,rs,hh⟩:=nN (Rep.val I hny ry r2) hl;obtain⟨e,he,ha⟩:=tX (A:=X.A.in1) (Rep.val I hnx rx r1) (by show X.A.units+1+60<cLine;omega) hd rs
   have q:=hp H (Same.refl H) _ (Rep.bl_ (io x l))
   have he':∀y,y∈us.toArray->EqAt X.A.in1 s y ux (e y):=λy hy=>he y (by simpa using hy)
   have ha':us.toArray.any e=io x l:=by simpa using ha
   rcases hh with hh | hh
   ·exact in_tupleAt e hh he' (by rw[ha'];exact⟨.bl _,H,I,rfl,q⟩)
   ·exact in_listAt e hh he' (by rw[ha'];exact⟨.bl _,H,I,rfl,q⟩)
  ·exact hp.elim
 ·exact hp.elim
theorem xf (hu:X.A.units+61<cLine):OpT X (compareOp .NotIn) jh:=by
 intro pins s σ H O x y vx vy ux uy Q I hf rx ry r1 r2 hp;unfold jh at hp
 split at hp
 ·rename_i l hl
  split at hp
  ·rename_i hd3
   obtain⟨hd,hnx,hny⟩:=hd3;obtain⟨a,us,rfl,rs,hh⟩:=nN (Rep.val I hny ry r2) hl;obtain⟨e,he,ha⟩:=tX (A:=X.A.in1) (Rep.val I hnx rx r1) (by show X.A.units+1+60<cLine;omega) hd rs
   have q:=hp H (Same.refl H) _ (Rep.bl_ (!io x l))
   have he':∀y,y∈us.toArray->EqAt X.A.in1 s y ux (e y):=λy hy=>he y (by simpa using hy)
   have ha':us.toArray.any e=io x l:=by simpa using ha
   rcases hh with hh | hh
   ·exact notIn_tupleAt e hh he' (by rw[ha'];exact⟨.bl _,H,I,rfl,q⟩)
   ·exact notIn_listAt e hh he' (by rw[ha'];exact⟨.bl _,H,I,rfl,q⟩)
  ·exact hp.elim
 ·exact hp.elim
def ch (g g':T->T->Rs T)(fa fb fc:En->Rs T)(Z:En):Rs T:=do
 let x <-fa Z
 let y <-fb Z
 let z <-g x y
 match z with
 | .bl true=>do
  let w <-fc Z
  g' y w
 | .bl false=> .ok (.bl false)
 | _=> .bad
theorem zM {op op':CmpOp}{g g':T->T->Rs T}(ho:OpT X (compareOp op) g)(ho':OpT X (compareOp op') g')(ha:cz X a fa)(hb:cz X b fb)(hc:cz X c fc)
  (hm:lastMarks [op,op'] [b,c] =false:=by with_unfolding_all rfl):cz X (.Compare a [op,op'] [b,c] pos) (ch g g' fa fb fc):=by
 intro pins s σ H Q I ⟨Z,O,E,hq⟩
 have h1:=aY E hq;refine Compare_chain (cv (ha pins s σ H _ I h1) λv s1 ⟨x,H1,I1,r1,t,rt,s',E',q1⟩=>chain_link ?_) hm
 have h2:=aY (f:=fb) E' q1;refine cv (hb pins s1 σ H1 _ I1 h2) λu s2 hh_=> ?_
 obtain⟨y,H2,I2,r2,t2,rt2,s'',E'',q2⟩:=hh_
 refine cv (ho pins s2 σ H2 O t t2 x y v u (λv' H'=> ∃t',Rep X.K O H' t' v'/\Same H2 H'/\Post X H' (match t' with
  | .bl true=>fc Z >>= λw=>g' t2 w
  | .bl false=> .ok (.bl false)
  | _=> .bad) (λt H'=> ∀v,Rep X.K O H' t v->Q v H')) I2 (λp=>E''.fresh) (rt.same s'') rt2 r1 r2 (Post.mono q2.bind λt' H' s3 q v rv=>⟨t',rv,s3,q⟩)) λd s3 ⟨z,H3,I3,r3,t3,rt3,sm3,q3⟩=> ?_
 have E3:=E''.same sm3
 split at q3
 ·cases Rep.bl_iff.mp rt3
  cases r3;refine wpAny_truthy_bool (ite_tt (chain_last ?_))
  have h4:=aY (f:=fc) E3 q3;refine cv (hc pins s3 σ H3 _ I3 h4) λw' s4 ⟨z',H4,I4,r4,t4,rt4,s4',E4,q4⟩=> ?_
  exact ho' pins s4 σ H4 O t2 t4 y z' u w' Q I4 (λp=>E4.fresh) ((rt2.same sm3).same s4') rt4 r2 r4 q4
 ·cases Rep.bl_iff.mp rt3
  cases r3;refine wpAny_truthy_bool (ite_ff ⟨.bl false,H3,I3,rfl,q3 H3 (Same.refl H3) _ (Rep.bl_ false)⟩)
 ·exact q3.elim
def tb (f:En->Rs T)(Z:En):Rs Bool:=do
 let x <-f Z
 match x with
 | .bl k=> .ok k
 | _=> .bad
def bt (f:En->Rs Bool)(Z:En):Rs T:=do
 let k <-f Z
 .ok (.bl k)
theorem BM {e:Expr}{f:En->Rs T}(h:cz X e f)(he:∀whole,isTrue e X.env whole=(do let v <-whole;standAt e.pos;holding [v] (truthy v)):=by intro _;rfl):rW X e (tb f):=by
 intro pins s σ H Q I ⟨Z,O,E,hq⟩;refine Ca h he pins s σ H Q I ?_
 obtain⟨Z1,O1,E1,h1⟩:=aY E hq;refine⟨Z1,O1,E1,Post.mono h1 λts H1 s1 q vs r=> ?_⟩
 obtain⟨t',r',s',E',q'⟩:=q vs r
 split at q'
 ·exact⟨_,Rep.bl_iff.mp r',q' H1 (Same.refl H1)⟩
 ·exact q'.elim
theorem BO {op:CmpOp}{g:T->T->Rs T}(ho:OpT X (compareOp op) g)(ha:cz X a fa)(hb:cz X b fb)(hm:behindInMarks op b=false:=by rfl):rW X (.Compare a [op] [b] pos) (tb (o2 g fa fb)):=by
 intro pins s σ H Q I ⟨Z,O,E,hq⟩
 have hq':Post X H (o2 g fa fb Z) λt H'=> ∀v,Rep X.K O H' t v->∃k,v= .bl k/\Q k H':=Post.mono hq.bind λt H' s' q v r=>by
  split at q
  ·exact⟨_,Rep.bl_iff.mp r,q H' (Same.refl H')⟩
  ·exact q.elim
 have h1:=aY E hq';refine wpAny_isTrue_Compare1 (cv (ha pins s σ H _ I h1) λv s1 ⟨x,H1,I1,r1,t,rt,s',E',q1⟩=> ?_) hm
 have h2:=aY (f:=fb) E' q1;refine cv (hb pins s1 σ H1 _ I1 h2) λu s2 hh_=> ?_
 obtain⟨y,H2,I2,r2,t2,rt2,s'',E'',q2⟩:=hh_;refine cv (ho pins s2 σ H2 O t t2 x y v u _ I2 (λp=>E''.fresh) (rt.same s'') rt2 r1 r2 q2) λd s3 hh_=> ?_
 obtain⟨z,H3,I3,r3,k,e,q3⟩:=hh_;subst e;cases r3;exact wpAny_truthy_bool ⟨H3,I3,q3⟩
def k4 (f g:En->Rs Bool)(Z:En):Rs Bool:=do
 let k <-f Z
 if k then g Z else .ok false
def jU (f g:En->Rs Bool)(Z:En):Rs Bool:=do
 let k <-f Z
 if k then .ok true else g Z
def dk (f:En->Rs Bool)(Z:En):Rs Bool:=do
 let k <-f Z
 .ok (!k)
variable {f g:En->Rs Bool}{rest:List Expr}
abbrev Bi (X:Cx)(e:Expr)(f:En->Rs Bool):Prop:=PW X e (vV X f)
theorem zw (ha:rW X a f):Bi X (.BoolOp .And [a] pos) f:=zP ha
theorem BK (ha:rW X a f):Bi X (.BoolOp .Or [a] pos) f:=B8 ha
theorem BL (ha:rW X a f)(hb:Bi X (.BoolOp .And (b::rest) pos) g):Bi X (.BoolOp .And (a::b::rest) pos) (k4 f g):=by
 intro wh pins s σ H Q I ⟨Z,O,E,hq⟩;refine B9 ha hb wh pins s σ H Q I ?_
 obtain⟨Z1,O1,E1,h1⟩:=ju E hq;refine⟨Z1,O1,E1,Post.mono h1 λk H1 s1 q=> ?_⟩
 obtain⟨s',E',q'⟩:=q
 cases k with
 | true=>rw[if_pos rfl];exact⟨Z,O,E',by simpa using q'⟩
 | false=>rw[if_neg Bool.false_ne_true];exact q' H1 (Same.refl H1)
theorem DN (ha:rW X a f)(hb:Bi X (.BoolOp .Or (b::rest) pos) g):Bi X (.BoolOp .Or (a::b::rest) pos) (jU f g):=by
 intro wh pins s σ H Q I ⟨Z,O,E,hq⟩;refine Ea ha hb wh pins s σ H Q I ?_
 obtain⟨Z1,O1,E1,h1⟩:=ju E hq;refine⟨Z1,O1,E1,Post.mono h1 λk H1 s1 q=> ?_⟩
 obtain⟨s',E',q'⟩:=q
 cases k with
 | true=>rw[if_pos rfl];exact q' H1 (Same.refl H1)
 | false=>rw[if_neg Bool.false_ne_true];exact⟨Z,O,E',by simpa using q'⟩
theorem qt_w {e:Expr}(h:Bi X e f):rW X e f:=h.pt
theorem BN (ha:rW X a f):rW X (.UnaryOp .Not a pos) (dk f):=by
 intro pins s σ H Q I ⟨Z,O,E,hq⟩;refine Cb ha pins s σ H Q I ?_
 obtain⟨Z1,O1,E1,h1⟩:=ju E hq;exact⟨Z1,O1,E1,Post.mono h1 λk H1 s1 ⟨s',E',q'⟩=>q' H1 (Same.refl H1)⟩
def bM (f g:En->Rs T)(Z:En):Rs T:=do
 let x <-f Z
 match x with
 | .bl true=>g Z
 | .bl false=> .ok (.bl false)
 | _=> .bad
def yQ (f g:En->Rs T)(Z:En):Rs T:=do
 let x <-f Z
 match x with
 | .bl true=> .ok (.bl true)
 | .bl false=>g Z
 | _=> .bad
def vg:T->Rs T
 | .bl k=> .ok (.bl (!k))
 | _=> .bad
theorem DV {op}(h:cz X a fa):cz X (.BoolOp op [a] pos) fa:=Cj h
theorem D9 (ha:cz X a fa)(hb:cz X (.BoolOp .And (b::rest) pos) fb):cz X (.BoolOp .And (a::b::rest) pos) (bM fa fb):=by
 intro pins s σ H Q I ⟨Z,O,E,hq⟩;refine Co ha hb pins s σ H Q I ?_
 obtain⟨Z1,O1,E1,h1⟩:=aY E hq;refine⟨Z1,O1,E1,Post.mono h1 λts H1 s1 q vs r=> ?_⟩
 obtain⟨t',r',s',E',q'⟩:=q vs r
 split at q'
 ·exact⟨true,Rep.bl_iff.mp r',by rw[if_pos rfl];exact⟨Z,O,E',q'⟩⟩
 ·exact⟨false,Rep.bl_iff.mp r',by rw[if_neg Bool.false_ne_true];exact q' H1 (Same.refl H1) _ (Rep.bl_ false)⟩
 ·exact q'.elim
theorem q_or (ha:cz X a fa)(hb:cz X (.BoolOp .Or (b::rest) pos) fb):cz X (.BoolOp .Or (a::b::rest) pos) (yQ fa fb):=by
 intro pins s σ H Q I ⟨Z,O,E,hq⟩;refine Ee ha hb pins s σ H Q I ?_
 obtain⟨Z1,O1,E1,h1⟩:=aY E hq;refine⟨Z1,O1,E1,Post.mono h1 λts H1 s1 q vs r=> ?_⟩
 obtain⟨t',r',s',E',q'⟩:=q vs r
 split at q'
 ·exact⟨true,Rep.bl_iff.mp r',by rw[if_pos rfl];exact q' H1 (Same.refl H1) _ (Rep.bl_ true)⟩
 ·exact⟨false,Rep.bl_iff.mp r',by rw[if_neg Bool.false_ne_true];exact⟨Z,O,E',q'⟩⟩
 ·exact q'.elim
theorem DX (ha:cz X a fa):cz X (.UnaryOp .Not a pos) (o1 vg fa):=by
 intro pins s σ H Q I ⟨Z,O,E,hq⟩;refine Ck ha pins s σ H Q I ?_
 obtain⟨Z1,O1,E1,h1⟩:=aY E hq;refine⟨Z1,O1,E1,Post.mono h1 λts H1 s1 q vs r=> ?_⟩
 obtain⟨t',r',s',E',q'⟩:=q vs r;unfold vg at q'
 split at q'
 ·exact⟨_,Rep.bl_iff.mp r',q' H1 (Same.refl H1) _ (Rep.bl_ _)⟩
 ·exact q'.elim
def pU (f:En->Rs Bool)(fa fb:En->Rs T)(Z:En):Rs T:=do
 let k <-f Z
 if k then fa Z else fb Z
theorem q_if (hc:rW X c f)(ha:cz X a fa)(hb:cz X b fb):cz X (.IfExp c a b pos) (pU f fa fb):=by
 intro pins s σ H Q I ⟨Z,O,E,hq⟩;refine w4 hc ha hb pins s σ H Q I ?_
 obtain⟨Z1,O1,E1,h1⟩:=ju E hq;refine⟨Z1,O1,E1,Post.mono h1 λk H1 s1 q=> ?_⟩
 obtain⟨s',E',q'⟩:=q
 cases k with
 | true=>rw[if_pos rfl];exact⟨Z,O,E',by simpa using q'⟩
 | false=>rw[if_neg Bool.false_ne_true];exact⟨Z,O,E',by simpa using q'⟩
end
end Tr
namespace HT
open PySem PyProof.Rows
section
variable {prog:Program}{w:World}{A:Around}{E:Value->Shared->Prop}{s:Shared}
theorem iV {t:Addr}{items:Array Value}{Q:Bool->Shared->Prop}(ht:IsTup s.heap t items)(h:Q true s):wpAny (model prog w) A (Builtin.Tuple.tupleIsExact (.ref t)) Q E s:=by
 unfold Builtin.Tuple.tupleIsExact;refine wpAny_bind (wpAny_typeOf ht.typeIs (wpAny_pure ?_))
 exact h
theorem getItem_tuple_whole {t sl:Addr}{items:Array Value}{vl vu:Value}{lo hi:Option Int}{Q:Value->Shared->Prop}(ht:IsTup s.heap t items)(hs:s.heap.IsSliceOf sl vl vu .none)(pl:IsPart vl lo)(pu:IsPart vu hi)
  (hw:sIx items.size 0 lo=0/\sIx items.size items.size hi=items.size) (h:Q (.ref t) s):wpAny (model prog w) A (getItem (.ref t) (.ref sl)) Q E s:=by
 obtain⟨os,hos,hcs,hds⟩:=id hs
 have hTs:s.TypeIs (.ref sl) "slice":=⟨os,hos,hcs⟩;unfold getItem
 try with_reducible refine wpAny_holding ?_
 first | refine wpAny_bind (wpAny_pure ?_) | skip
 refine wpAny_bind (wpAny_sequenceKey ht.typeIs (by decide) ?_)
 refine wpAny_bind (wpAny_callSpecial?_slot (name:=Str.ofString "__getitem__") ht.typeIs PyProof.Rows.slot_tuple_getitem
  (wpAny_call_entry PyProof.Rows.slot_tuple_getitem ht.typeIs entry_tuple_getitem ?_ (args_tuple_getitem _ _)))
 show wpAny _ _ (Builtin.Tuple.tupleItemsOf (.ref t) >>= _) _ _ s
 refine wpAny_bind (tupleItemsOf_ ht ?_)
 refine wpAny_bind (wpAny_typeOf hTs ?_)
 rw[if_pos (by decide)]
 refine wpAny_bind (gm hs pl pu ?_)
 have hyes:(((sIx items.size 0 lo:Nat):Int) == 0&&(1:Int) == 1&&(sIx items.size items.size hi - sIx items.size 0 lo) == items.size)=true:=by
  rw[hw.1,hw.2];simp
 show wpAny _ _ (if (((sIx items.size 0 lo:Nat):Int) == 0&&(1:Int) == 1&&(sIx items.size items.size hi - sIx items.size 0 lo) == items.size)=true then _ else _) _ _ s
 rw[if_pos hyes]
 first
  | refine wpAny_bind (iV ht ?_)
  | refine iV ht ?_
 try rw[if_pos rfl]
 first
  | exact wpAny_bind (wpAny_rule (wpAny_pure ⟨_,rfl,wpAny_pure h⟩))
  | exact wpAny_bind (wpAny_rule (wpAny_bind (wpAny_pure (wpAny_pure ⟨_,rfl,wpAny_pure h⟩))))
end
end HT
namespace Tr
open PySem PySem.Spec PyProof.Rows L2
section
variable {X:Cx}{a b c:Expr}{fa fb fc:En->Rs T}{pos:Pos}
theorem Reps.atI {K:PySem.W.Frag}{O:Ow}{H:Hp}{l:List T}{vs:List V}{i:Int}{t:T}(r:Reps K O H l vs)(e:L2.atI l i=some t):∃v,L2.atI vs i=some v/\Rep K O H t v:=by
 unfold L2.atI at e ⊢;rw[r.length]at e
 cases q:ixN vs.length i with
 | none=>rw[q]at e;cases e
 | some j=>
  rw[q]at e;obtain⟨v,e1,e2⟩:=r.get (i:=j) (t:=t) e;exact⟨v,e1,e2⟩
def aP (x y:T):Rs T:=match x.items,y with
 | some l,.int i=>match L2.atI l i with
  | some t=> .ok t
  | none=> .bad
 | _,_=> .bad
theorem q_ix (ha:cz X a fa)(hb:cz X b fb)(hs:uN b:=by intro _ _;rfl):cz X (.Subscript a b pos) (o2 aP fa fb):=by
 intro pins s σ H Q I ⟨Z,O,E,hq⟩
 have h1:=aY E hq;refine Subscript_ (cv (ha pins s σ H _ I h1) λv s1 hh_=> ?_)
 obtain⟨x,H1,I1,r1,t,rt,s',E',q1⟩:=hh_
 have h2:=aY (f:=fb) E' q1;refine cv (hb pins s1 σ H1 _ I1 h2) λu s2 hh_=> ?_
 obtain⟨y,H2,I2,r2,t2,rt2,s'',E'',q2⟩:=hh_
 have rt':=rt.same s'';unfold aP at q2
 split at q2
 ·rename_i l i hl
  split at q2
  ·rename_i z hz
   have hy:=Rep.int_iff.mp rt2;refine C1 a b pins s2 σ H2 x y v u Q I2 r1 r2 ?_ (hs _ _)
   cases t with
   | tup m=>
    cases hl;obtain⟨p,vs,e,n,q,rr⟩:=Rep.tup_iff.mp rt';obtain⟨w,ew,rw'⟩:=rr.atI hz
    exact .inr (.inl ⟨p,vs,i,w,e,hy,SqT.of q,ew,q2 H2 (Same.refl H2) _ rw'⟩)
   | lst m=>
    cases hl;obtain⟨p,vs,e,n,q,rr⟩:=Rep.lst_iff.mp rt';obtain⟨w,ew,rw'⟩:=rr.atI hz
    exact .inl ⟨p,vs,i,w,e,hy,SqL.of q,ew,q2 H2 (Same.refl H2) _ rw'⟩
   | scr m=>
    cases hl;unfold Rep at rt';obtain⟨p,e,n,q⟩:=rt';obtain⟨w,ew,rw'⟩:=(Reps.ints (K:=X.K) (O:=O) (H:=H2) (ns:=m)).atI hz
    exact .inl ⟨p,_,i,w,e,hy,q,ew,q2 H2 (Same.refl H2) _ rw'⟩
   | _=>cases hl
  ·exact q2.elim
 ·exact q2.elim
def kY (l:List T)(lo hi:Option Int):List T:=(l.drop (HT.sIx l.length 0 lo)).take (HT.sIx l.length l.length hi - HT.sIx l.length 0 lo)
theorem Reps.cut {K:PySem.W.Frag}{O:Ow}{H:Hp}{l:List T}{vs:List V}(r:Reps K O H l vs)(lo hi:Option Int):Reps K O H (kY l lo hi) (rO vs lo hi):=by
 unfold kY rO;rw[r.length];exact(r.drop _).take _
theorem vL {l:List T}{lo hi:Option Int}(h:HT.sIx l.length 0 lo=0/\HT.sIx l.length l.length hi=l.length):kY l lo hi=l:=by
 unfold kY;rw[h.1,h.2];simp
theorem sl_tup_whole:SlR X (λx lo hi H Q=> ∃a xs,x= .ref a/\SqT X.K H a xs/\(HT.sIx xs.length 0 lo=0/\HT.sIx xs.length xs.length hi=xs.length)/\Q (.ref a) H):=by
 intro pins s σ H x v vl vu lo hi sl Q I rx hs pl pu h;obtain⟨a,xs,rfl,hx,hw,q⟩:=h;cases rx;obtain⟨its,r,ht,hz⟩:=I.tuple hx
 have hlen:its.toArray.size=xs.length:=by rw[List.size_toArray];exact r.length.symm
 refine⟨"tuple",_,PyProof.Rows.slot_tuple_getitem.lookup,ht.typeIs,?_⟩
 exact HT.getItem_tuple_whole ht hs pl pu (by rw[hlen];exact hw) ⟨.ref a,H,I,rfl,q⟩
def pN (_:En):Rs (Option Int):=.ok none
def pS (f:En->Rs T)(Z:En):Rs (Option Int):=do
 let x <-f Z
 match x with
 | .int i=> .ok (some i)
 | _=> .bad
def tPO (X:Cx)(f:En->Rs (Option Int)):TO:=λσ H Q=> ∃Z O,EnvO X.K O H Z σ/\Post X H (f Z) λb H'=>Q b H'
abbrev EV (X:Cx)(e:Option Expr)(f:En->Rs (Option Int)):Prop:=PO X e (tPO X f)
theorem zE:EV X none pN:=by
 intro pins s σ H Q I ⟨Z,O,E,hq⟩;exact zV pins s σ H Q I (hq H (Same.refl H))
theorem zD (ha:cz X a fa):EV X (some a) (pS fa):=by
 intro pins s σ H Q I ⟨Z,O,E,hq⟩;refine zU ha pins s σ H Q I ?_
 obtain⟨Z1,O1,E1,h1⟩:=aY E hq;refine⟨Z1,O1,E1,Post.mono h1 λts H1 s1 q vs r=> ?_⟩
 obtain⟨t',r',s',E',q'⟩:=q vs r
 split at q'
 ·exact⟨_,Rep.int_iff.mp r',q' H1 (Same.refl H1)⟩
 ·exact q'.elim
def slT (x:T)(lo hi:Option Int):Rs T:=match x with
 | .tup l=> .ok (.tup (kY l lo hi))
 | .lst l=> .ok (.lst (kY l lo hi))
 | _=> .bad
def sl (fe:En->Rs T)(fl fu:En->Rs (Option Int))(Z:En):Rs T:=do
 let x <-fe Z
 let l <-fl Z
 let u <-fu Z
 slT x l u
theorem qi {σ:L2.St}{H:Hp}{Z:En}{O:Ow}{α:Type}{f:En->Rs (Option Int)}{k:Option Int->Rs α}{Q:α->Hp->Prop}(E:EnvO X.K O H Z σ)(h:Post X H (f Z >>= k) Q) :
  tPO X f σ H λb H'=>Same H H'/\EnvO X.K O H' Z σ/\Post X H' (k b) Q:=
 ⟨Z,O,E,Post.mono h.bind λt H' s q=>⟨s,E.same s,q⟩⟩
theorem zL {lo hi:Option Expr}{p2:Pos}{fl fu:En->Rs (Option Int)}(ha:cz X a fa)(hl:EV X lo fl)(hu:EV X hi fu):cz X (.Subscript a (.Slice lo hi none p2) pos) (sl fa fl fu):=by
 intro pins s σ H Q I ⟨Z,O,E,hq⟩;refine wY (sl_tup.or (sl_tup_whole.or zn)) ha hl hu pins s σ H Q I ?_
 obtain⟨Z1,O1,E1,h1⟩:=aY E hq;refine⟨Z1,O1,E1,Post.mono h1 λts H1 s1 q vs r=> ?_⟩
 obtain⟨t',r',s',E',q'⟩:=q vs r;obtain⟨Z2,O2,E2,h2⟩:=qi E' q';refine⟨Z2,O2,E2,Post.mono h2 λo1 H2 s2 q=> ?_⟩
 obtain⟨s2',E2',q2⟩:=q;obtain⟨Z3,O3,E3,h3⟩:=qi E2' q2;refine⟨Z3,O3,E3,Post.mono h3 λo2 H3 s3 q=> ?_⟩
 obtain⟨s3',E3',q3⟩:=q
 have rt:=(r'.same s2').same s3';unfold slT at q3
 split at q3
 ·rename_i l
  obtain⟨p,ws,e,n,q,rr⟩:=Rep.tup_iff.mp rt
  have hlen:=rr.length
  by_cases hw:HT.sIx ws.length 0 o1=0/\HT.sIx ws.length ws.length o2=ws.length
  ·refine .inr (.inl ⟨p,ws,e,SqT.of q,hw,?_⟩)
   rw[<-hlen]at hw;refine q3 H3 (Same.refl H3) _ ?_
   rw[vL hw];exact Rep.tup_iff.mpr ⟨p,ws,rfl,n,q,rr⟩
  ·exact .inl ⟨p,ws,e,SqT.of q,hw,λp' hp=>q3 _ (aO hp _) _ (fT hp (E3'.fresh hp) (rr.cut o1 o2))⟩
 ·rename_i l
  obtain⟨p,ws,e,n,q,rr⟩:=Rep.lst_iff.mp rt;exact .inr (.inr ⟨p,ws,e,SqL.of q,λp' hp=>q3 _ (aO hp _) _ (jE hp (E3'.fresh hp) (rr.cut o1 o2))⟩)
 ·exact q3.elim
def CallT (X:Cx)(f:Value)(g:List T->Rs T):Prop:=
 ∀(pins:List (Addr×Obj)) (s:Shared) (σ:L2.St) (H:Hp) (O:Ow) (ts:List T) (vs:List V) (us:List Value) (Q:VK),Inv X pins σ H s->(∀p,H p=none->¬ O p)->Reps X.K O H ts vs->Vals vs us →
  Post X H (g ts) (λt H'=> ∀v,Rep X.K O H' t v->Q v H')->wpAny (model X.prog X.w) X.A (call f us) (EP X pins σ Q) X.xe s
theorem CallT.of {f:Value}{r:List V->Hp->VK->Prop}(h:CallR X f r){g:List T->Rs T}
  (w:∀(H:Hp) (O:Ow) (ts:List T) (vs:List V) (Q:VK),(∀p,H p=none->¬ O p)->Reps X.K O H ts vs->Post X H (g ts) (λt H'=> ∀v,Rep X.K O H' t v->Q v H')->r vs H Q):CallT X f g:=
 λpins s σ H O ts vs us Q I hf rs rv hp=>h pins s σ H vs us Q I rv (w H O ts vs Q hf rs hp)
def cl (g:List T->Rs T)(fs:En->Rs (List T))(Z:En):Rs T:=fs Z >>= g
variable {e:Expr}{es:List Expr}{fs:En->Rs (List T)}{x:Str}{p:Pos}{id:String}{g:List T->Rs T}
theorem zN (hc:CallT X (.builtin id) g)(hm:X.mg x=none)(hv:bootBuiltins x=some (.builtin id))(ha:n9 X (e::es) fs)(hg:Gl X x:=by rfl)(hn:x≠ "__name__":=by decide)(hdb:(x == ("__debug__" : Str))=false:=by decide)
  (he:starEach (e::es) X.env=(false,eval e X.env)::starEach es X.env:=by rfl) (hpl:(backTo pos (starEach es X.env)).any (·.1)=false:=by rfl):cz X (.Call (.Name x p) (e::es) [] pos) (cl g fs):=by
 intro pins s σ H Q I ⟨Z,O,E,hq⟩;refine wpAny_Call_Name_kw (fz I hg hm hv ?_ hn hdb)
 have h1:=dR E hq;exact PyProof.Rows.callWith_builtin1 (cv (ha pos pins s σ H _ I h1) λus s1 ⟨vs,H1,I1,r1,ts,rs,s',E',q1⟩=>hc pins s1 σ H1 O ts vs us Q I1 (λp=>E'.fresh) rs r1 q1) he hpl
theorem wP {Ty:String}(hc:CallT X (.type Ty) g)(hm:X.mg x=none)(hv:bootBuiltins x=some (.type Ty))(ha:n9 X (e::es) fs)(hg:Gl X x:=by rfl)(hn:x≠ "__name__":=by decide)(hdb:(x == ("__debug__" : Str))=false:=by decide)
  (he:starEach (e::es) X.env=(false,eval e X.env)::starEach es X.env:=by rfl) (hpl:(backTo pos (starEach es X.env)).any (·.1)=false:=by rfl):cz X (.Call (.Name x p) (e::es) [] pos) (cl g fs):=by
 intro pins s σ H Q I ⟨Z,O,E,hq⟩;refine wpAny_Call_Name_kw (fz I hg hm hv ?_ hn hdb)
 have h1:=dR E hq;exact PyProof.Rows.callWith_type1 (cv (ha pos pins s σ H _ I h1) λus s1 ⟨vs,H1,I1,r1,ts,rs,s',E',q1⟩=>hc pins s1 σ H1 O ts vs us Q I1 (λp=>E'.fresh) rs r1 q1) he hpl
theorem Reps.one {K:PySem.W.Frag}{O:Ow}{H:Hp}{t:T}{vs:List V}(r:Reps K O H [t] vs):∃v,vs= [v]/\Rep K O H t v:=by
 obtain⟨v,ws,rfl,p,q⟩:=Reps.cons_iff.mp r;cases Reps.nil_iff.mp q;exact⟨v,rfl,p⟩
theorem Rep.sq {K:PySem.W.Frag}{O:Ow}{H:Hp}{t:T}{v:V}{l:List T}(r:Rep K O H t v)(h:t.items=some l):∃a vs,v= .ref a/\¬ O a/\Reps K O H l vs/\(SqL K H a vs\/SqT K H a vs):=by
 cases t with
 | tup m=>cases h;obtain⟨a,vs,e,n,q,z⟩:=Rep.tup_iff.mp r;exact⟨a,vs,e,n,z,.inr (SqT.of q)⟩
 | lst m=>cases h;obtain⟨a,vs,e,n,q,z⟩:=Rep.lst_iff.mp r;exact⟨a,vs,e,n,z,.inl (SqL.of q)⟩
 | scr m=>cases h;unfold Rep at r;obtain⟨a,e,n,q⟩:=r;exact⟨a,_,e,n,Reps.ints,.inl q⟩
 | _=>cases h
def cF:List T->Rs T
 | [.str x] =>if x.length<=sizeLine then .ok (.int x.length)else .bad
 | [x] =>match x.items with
  | some l=> .ok (.int l.length)
  | none=> .bad
 | _=> .bad
theorem dh:CallT X (.builtin "len") cF:=CallT.of (call_len_seq.or pJ) λH O ts vs Q hf rs hp=>by
 unfold cF at hp
 split at hp
 ·obtain⟨v,rfl,r⟩:=rs.one
  split at hp
  ·rename_i h
   exact .inr ⟨_,by rw[Rep.str_iff.mp r],h,hp H (Same.refl H) _ (Rep.int_ _)⟩
  ·exact hp.elim
 ·obtain⟨v,rfl,r⟩:=rs.one
  split at hp
  ·rename_i l hl
   obtain⟨a,vs,rfl,n,z,q⟩:=r.sq hl;exact .inl ⟨a,vs,rfl,q,hp H (Same.refl H) _ (by rw[<-z.length];exact Rep.int_ _)⟩
  ·exact hp.elim
 ·exact hp.elim
def eC:List T->Rs T
 | [.tup l] => .ok (.tup l)
 | [.lst l] => .ok (.tup l)
 | _=> .bad
theorem f9:CallT X (.type "tuple") eC:=CallT.of m7 λH O ts vs Q hf rs hp=>by
 unfold eC at hp
 split at hp
 ·obtain⟨v,rfl,r⟩:=rs.one
  obtain⟨a,ws,rfl,n,q,z⟩:=Rep.tup_iff.mp r;exact⟨a,ws,rfl,.inr ⟨SqT.of q,hp H (Same.refl H) _ (Rep.tup_iff.mpr ⟨a,ws,rfl,n,q,z⟩)⟩⟩
 ·obtain⟨v,rfl,r⟩:=rs.one
  obtain⟨a,ws,rfl,n,q,z⟩:=Rep.lst_iff.mp r;exact⟨a,ws,rfl,.inl ⟨SqL.of q,λl hl=>hp _ (aO hl _) _ (fT hl (hf l hl) z)⟩⟩
 ·exact hp.elim
def xX:List T->Rs T
 | [.int i] => .ok (.int i)
 | [.bl k] => .ok (.int (if k then 1 else 0))
 | _=> .bad
theorem Dl:CallT X (.type "int") xX:=CallT.of vO λH O ts vs Q hf rs hp=>by
 unfold xX at hp
 split at hp
 ·obtain⟨v,rfl,r⟩:=rs.one
  exact .inl ⟨_,by rw[Rep.int_iff.mp r],hp H (Same.refl H) _ (Rep.int_ _)⟩
 ·obtain⟨v,rfl,r⟩:=rs.one
  exact .inr ⟨_,by rw[Rep.bl_iff.mp r],hp H (Same.refl H) _ (Rep.int_ _)⟩
 ·exact hp.elim
def mE:List T->Option (List Bool)
 | [] =>some []
 | .bl k::r=>(mE r).map (k:: ·)
 | _=>none
def mJ:List T->Rs T
 | [.lst l] =>match mE l with
  | some ks=> .ok (.bl (ks.all λk=>k))
  | none=> .bad
 | _=> .bad
theorem mC {K:PySem.W.Frag}{O:Ow}{H:Hp}:∀{l:List T} {ks:List Bool} {vs:List V} {us:List Value},mE l=some ks->Reps K O H l vs->Vals vs us->us=ks.map Value.bool
 | [],ks,vs,us,e,r,v=>by cases e;cases Reps.nil_iff.mp r;cases v;rfl
 | t::l,ks,vs,us,e,r,v=>by
  obtain⟨w,ws,rfl,p,q⟩:=Reps.cons_iff.mp r
  cases t with
  | bl k=>
   unfold mE at e
   cases z:mE l with
   | none=>rw[z]at e;cases e
   | some ks'=>
    rw[z]at e;cases e
    cases v with
    | cons v1 v2=>
     cases Rep.bl_iff.mp p;cases v1
     rw[mC z q v2];rfl
  | _=>cases e
theorem mz (hc:X.calm=true):CallT X (.builtin "all") mJ:=by
 intro pins s σ H O ts vs us Q I hf rs rv hp;unfold mJ at hp
 split at hp
 ·obtain⟨v,rfl,r⟩:=rs.one
  split at hp
  ·rename_i ks hk
   obtain⟨a,ws,rfl,n,q,z⟩:=Rep.lst_iff.mp r;obtain⟨u,rfl,ru⟩:=iU rv;cases ru;obtain⟨its,r',pl,hz⟩:=I.list (SqL.of q)
   have hits:=mC hk z r';refine call_all_walk (wpAny_pyIter_list pl.isList ?_)
   have hne:a≠s.heap.objs.size:=λe=>by
    obtain⟨o,ho,_⟩:=pl.isList;rw[e]at ho;exact absurd (Heap.lt_size ho) (Nat.lt_irrefl _)
   refine⟨s.heap.objs.size,_,_,_,_,_,λi=>(ks[i]?).getD true,rfl,Walks.list (A:=X.A.in1) (I.ok.hd hc) s.heap.objs.size a hne its.toArray,⟨⟨_,Heap.get?_push_size _ rfl,rfl,rfl⟩,?_⟩,?_,?_⟩
   ·obtain⟨o,ho,hh⟩:=pl.isList
    exact⟨o,Heap.get?_push_of_some _ ho,hh⟩
   ·intro i v s' Q' E' hP hQ'
    subst hits
    dsimp only at hQ'
    have hP':(ks.map Value.bool)[i]? =some v:=by simpa using hP
    rw[List.getElem?_map]at hP'
    cases e:ks[i]? with
    | none=>rw[e]at hP';cases hP'
    | some k=>
     rw[e]at hP' hQ';cases hP';exact wpAny_truthy_bool hQ'
   ·intro h' tk hk'
    have hlen:its.toArray.size=ks.length:=by rw[hits];simp
    have e:((List.range its.toArray.size).all λi=>(ks[i]?).getD true)=(ks.all λk=>k):=by
     rw[hlen];rw[Bool.eq_iff_iff,List.all_eq_true,List.all_eq_true]
     constructor
     ·intro h x hx
      obtain⟨i,hi,rfl⟩:=List.getElem_of_mem hx
      have:=h i (List.mem_range.mpr hi)
      simpa [hi]using this
     ·intro h i hi
      have hi':=List.mem_range.mp hi
      have:=h ks[i] (List.getElem_mem hi')
      simpa [hi']using this
    rw[e]
    have I1:Inv X pins σ H { s with heap:=s.heap.push { cls:=.type "list_iterator",data:=.fields #[.ref a,.int 0 0] } }:=I.kept (t':=s.toks) λb o e=>Heap.get?_push_of_some _ e
    have I2:Inv X pins σ H { s with heap:=h',toks:=tk }:=by
     have:=I1.turned (h':=h') (t':=tk) (it:=s.heap.objs.size) (λb o hb e=>hk' b o (by simpa using hb) e) (I.hok.fresh (Nat.le_refl _))
      (Nat.ne_of_gt I.lt) (.inr I.sz) (λx c e z=> ?_) (λp hp z=> ?_)
     ·exact this
     ·obtain⟨v,q⟩:=I.cell x c e
      exact absurd (Nat.lt_of_lt_of_le q.lt (Nat.le_of_eq z.symm)) (Nat.lt_irrefl _)
     ·exact absurd (Nat.lt_of_lt_of_le (Heap.lt_size (I.pin p hp).1) (Nat.le_of_eq z.symm)) (Nat.lt_irrefl _)
    exact⟨.bl _,H,I2,rfl,hp H (Same.refl H) _ (Rep.bl_ _)⟩
  ·exact hp.elim
 ·exact hp.elim
end
def T.ty:T->Option String
 | .non=>some "NoneType"
 | .bl _=>some "bool"
 | .int _=>some "int"
 | .str _=>some "str"
 | .tup _=>some "tuple"
 | .lst _=>some "list"
 | .scr _=>none
 | .dct _ _=>none
def five (i b t l s:Bool)(Ty:String):Option Bool:=match Ty with
 | "int" =>some i | "bool" =>some b | "tuple" =>some t | "list" =>some l | "str" =>some s
 | _=>none
def ul (n Ty:String):Option Bool:=match n with
 | "NoneType" =>five false false false false false Ty
 | "bool" =>five true true false false false Ty
 | "int" =>five true false false false false Ty
 | "str" =>five false false false false true Ty
 | "tuple" =>five false false true false false Ty
 | "list" =>five false false false true false Ty
 | _=>none
theorem vz (K:PySem.W.Frag){n Ty:String}{b:Bool}(h:ul n Ty=some b):PySem.W.kitOne K (.type n) (.type Ty)=some b:=by
 unfold ul at h
 split at h <;> first | (cases h;done) | (unfold five at h;split at h <;> first | (cases h;done) | (cases h;kernel_rfl))
def At (Ty:String)(t:T):Rs T:=match t.ty with
 | some n=>match ul n Ty with
  | some b=> .ok (.bl b)
  | none=> .bad
 | none=> .bad
theorem Rep.tyOf {K:PySem.W.Frag}{O:Ow}{H:Hp}{t:T}{v:V}{n:String}(r:Rep K O H t v)(h:t.ty=some n):kx K H v (.type n):=by
 cases t with
 | non=>cases h;cases Rep.non_iff.mp r;exact .non
 | bl b=>cases h;cases Rep.bl_iff.mp r;exact .bl b
 | int b=>cases h;cases Rep.int_iff.mp r;exact .int b
 | str b=>cases h;cases Rep.str_iff.mp r;exact .str b
 | tup l=>cases h;obtain⟨a,vs,rfl,_,q,_⟩:=Rep.tup_iff.mp r;exact .tup q
 | lst l=>cases h;obtain⟨a,vs,rfl,_,q,_⟩:=Rep.lst_iff.mp r;exact .lst q
 | scr l=>cases h
 | dct _ _=>cases h
section
variable {X:Cx}{a b c e:Expr}{es:List Expr}{fa fb fc:En->Rs T}{fs:En->Rs (List T)}{pos p p2:Pos}{x:Str}
theorem kZ:bootBuiltins "isinstance" =some (.builtin "isinstance"):=by decide+kernel
theorem D2 {tn:Str}{Ty:String}(hm:X.mg "isinstance" =none)(hmt:X.mg tn=none)(hv:bootBuiltins tn=some (.type Ty))(ha:cz X a fa)(hg:Gl X "isinstance":=by rfl)(hgt:Gl X tn:=by rfl)
  (hn:tn≠ "__name__":=by decide) (hd:(tn == ("__debug__" : Str))=false:=by decide)
  (he:starEach [a,.Name tn p2] X.env=(false,eval a X.env)::starEach [.Name tn p2] X.env:=by rfl) (hpl:(backTo pos (starEach [.Name tn p2] X.env)).any (·.1)=false:=by rfl)
  (hs:starEach [.Name tn p2] X.env=(false,eval (.Name tn p2) X.env)::starEach [] X.env:=by rfl) :
  cz X (.Call (.Name "isinstance" p) [a,.Name tn p2] [] pos) (o1 (At Ty) fa):=by
 intro pins s σ H Q I ⟨Z,O,E,hq⟩;refine wpAny_Call_Name_kw (fz I hg hm kZ ?_ (by decide) (by decide))
 have hA:PA X [a,.Name tn p2] (jv (tP X fa) (jv (tC (.ty Ty)) wu)):=dU ha (dU (Ab (v:=.ty Ty) hgt hmt hv rfl hn hd) g9 hs) he;obtain⟨Z1,O1,E1,h1⟩:=aY E hq;refine PyProof.Rows.callWith_builtin1 (cv (hA pos pins s σ H (λvs H'=> ∃v t,vs= [v,.ty Ty]/\Rep X.K O H' t v/\Post X H' (At Ty t) (λt H'=> ∀v,Rep X.K O H' t v->Q v H')) I ?_) λus s1 ⟨vs,H1,I1,r1,v,t,e1,rt,q⟩=> ?_) he hpl
 ·refine⟨Z1,O1,E1,Post.mono h1 λts H1 s1 q vs r=> ?_⟩
  obtain⟨t',r',s',E',q'⟩:=q vs r;exact⟨vs,t',rfl,r',q'⟩
 ·subst e1
  obtain⟨u,w',rfl,ru,rw'⟩:=wg r1;cases rw';unfold At at q
  split at q
  ·rename_i n hn'
   split at q
   ·rename_i bb hb
    exact vt I1 ru (rt.tyOf hn') (vz _ hb) λtk=>⟨.bl bb,H1,I1.tok _,rfl,q H1 (Same.refl H1) _ (Rep.bl_ _)⟩
   ·exact q.elim
  ·exact q.elim
def spP (K:PySem.W.Frag)(n:Nat)(g:List T->Rs T):Sp:=λvs H Q _=> ∃ts O,Reps K O H ts vs/\(∀a,O a->Mtb H a)/\ts.length=n ∧
 match g ts with
 | .ok t=> ∀v H',Same H H'->Rep K O H' t v->Q v H'
 | _=>False
def RzC (P:Program)(w:World)(mg:Str->Option Value)(outer:List Env)(H:Hp)(s:Shared)(c:Str)(ev:Value)(s':Shared):Prop:=
 ∃e T C H',ev= .ref e/\mg c=some (.ref C)/\s'.os=s.os/\AllBare s'.gens/\Un (pB outer) [] H H' s.heap s'.heap/\HOk P w H' s'.heap/\Same H H'/\H' e=none/\s.heap.get? e=none/\Fp s'.heap C e (some T)/\H' T=none/\s.heap.get? T=none
def FnX (P:Program)(w:World)(K:PySem.W.Frag)(mg:Str->Option Value)(base:Heap)(k:Nat)(f:Addr)(fd:FuncData)(ps:List Str)(n:Nat)(g:List T->Rs T):Prop:=
 ∀(A:Around) (outer:List Env) (s:Shared) (H:Hp) (args:Args) (us:List Value) (vs:List V) (O:Ow) (ts:List T) (c:Str) (R:Result->Shared->Prop),Room k A->yO P w K mg base A outer s H->BindsTo s fd args (ps.zip us)->Vals vs us →
  Reps K O H ts vs->(∀a,O a->Mtb H a)->ts.length=n->g ts= .err c->(∀ev s',RzC P w mg outer H s c ev s'->R (.error ev) s')->codeAny (model P w) A (.call (.ref f) args) R s
structure Dr (P:Program)(w:World)(K:PySem.W.Frag)(mg:Str->Option Value)(base:Heap)(k:Nat)(f:Addr)(fd:FuncData)(ps:List Str)(n:Nat)(g:List T->Rs T):Prop where
 h:pP P w K mg base CX0 k f fd ps (spP K n g)
 x:FnX P w K mg base k f fd ps n g
theorem xi {P:Program}{w:World}{H:Hp}{h:Heap}{a:Addr}{o:HO}(x:ObjOk P w H h a o):∃u,h.get? a=some u:=by
 cases o with
 | lst xs=>obtain⟨_,_,_,_,e⟩:=x;exact⟨_,e⟩
 | tup xs=>obtain⟨_,_,_,ob,e,_⟩:=x;exact⟨_,e⟩
 | dK kvs=>obtain⟨_,_,_,_,o,_,_,e,_⟩:=x;exact⟨_,e⟩
 | dT kvs=>obtain⟨_,_,_,_,o,_,_,e,_⟩:=x;exact⟨_,e⟩
 | set S n=>obtain⟨o,_,_,_,e,_⟩:=x;exact⟨_,e⟩
 | ins C dx fs=>obtain⟨_,_,_,e,_⟩:=x;exact⟨_,e⟩
 | own y=>obtain⟨_,e⟩:=x;exact⟨_,e⟩
 | xd fs=>obtain⟨_,⟨_,_,_,e,_⟩,_⟩:=x;exact⟨_,e⟩
 | rng lo hi=>obtain⟨_,_,_,e⟩:=x;exact⟨_,e⟩
 | frz ob u=>obtain⟨e,_⟩:=x;exact⟨_,e⟩
 | tbl ps=>exact⟨_,(show h.get? a=some _ from x)⟩
 | met f y=>exact⟨_,(show h.get? a=some _ from x)⟩
 | ext φ=>obtain⟨_,⟨_,e⟩,_⟩:=x;exact⟨_,e⟩
theorem qT {X:Cx}{pins:List (Addr×Obj)}{σ:L2.St}{H:Hp}{s:Shared}(I:Inv X pins σ H s){e:Addr}(n:s.heap.get? e=none):H e=none:=by
 cases z:H e with
 | none=>rfl
 | some o=>
  obtain⟨o',ho'⟩:=xi (I.hok e o z);rw[n]at ho';cases ho'
theorem o8 {X:Cx}{pins:List (Addr×Obj)}{σ:L2.St}{H:Hp}{s:Shared}(I:Inv X pins σ H s)(hex:X.ex= []){e:Addr}(n:s.heap.get? e=none):X.s₀.heap.get? e=none:=by
 cases z:X.s₀.heap.get? e with
 | none=>rfl
 | some o=>
  obtain⟨o',ho'⟩:=I.base.there e o z (by rw[hex];simp)
  rw[n]at ho';cases ho'
theorem B7 {n k:Nat}{f:Addr}{fd:FuncData}{ps:List Str}{g:List T->Rs T}(F:Dr X.prog X.w X.K X.mg X.base k f fd ps n g)(hr:Room k X.A)(hm:X.mg x=some (.ref f))(hk:PySem.W.keepIn X.K (.ref f)=true)(hb:Binds X.K fd ps [])(hps:ps.length=n)
  (hl:∀Z ts,fs Z= .ok ts->ts.length=n) (ha:n9 X (e::es) fs) (hg:Gl X x:=by rfl) (hdb:(x == ("__debug__" : Str))=false:=by decide) (he:starEach (e::es) X.env=(false,eval e X.env)::starEach es X.env:=by rfl) (hpl:(backTo pos (starEach es X.env)).any (·.1)=false:=by rfl) :
  cz X (.Call (.Name x p) (e::es) [] pos) (cl g fs):=by
 intro pins s σ H Q I ⟨Z,O,E,hq⟩
 have hq':Post X H (fs Z >>= g) λt H'=> ∀v,Rep X.K O H' t v->Q v H':=hq
 cases q:fs Z with
 | bad=>rw[q]at hq';exact hq'.elim
 | err c=>
  rw[q]at hq';refine tS (E:=E0) F.h hr hg hm hk hb .nil A9 ha hdb he hpl pins s σ H Q I ⟨Z,O,E,?_⟩
  rw[q]
  exact hq'
 | ok ts=>
  rw[q]at hq'
  have hq2:Post X H (g ts) λt H'=> ∀v,Rep X.K O H' t v->Q v H':=hq'
  cases q2:g ts with
  | bad=>rw[q2]at hq2;exact hq2.elim
  | ok t=>
   rw[q2]at hq2;refine tS (E:=E0) F.h hr hg hm hk hb .nil A9 ha hdb he hpl pins s σ H Q I ⟨Z,O,E,?_⟩
   rw[q];intro H1 s1 vs rs;rw[List.append_nil];refine⟨ts,O,rs,(E.same s1).mtb,hl Z ts q,?_⟩
   rw[q2]
   exact λv H' s2 r=>hq2 H' (s1.trans s2) v r
  | err c=>
   rw[q2]at hq2;refine wpAny_Call_Name_kw (ld I hg hm ?_ hdb)
   refine PySem.W.callWith_K (h₀:=X.base) I.ok.mod.kin hk (cv (ha pos pins s σ H (λvs H'=>Same H H'/\Reps X.K O H' ts vs) I ⟨Z,O,E,?_⟩) (λus s1 ⟨vs,H1,I1,r,sm,rs⟩=>⟨I1.kIn,?_⟩)) he hpl
   ·rw[q];exact λH' sm vs rs=>⟨sm,rs⟩
   ·have hlen:us.length=ps.length:=by rw[<-r.length,<-rs.length,hl Z ts q,hps]
    have hb':=hb s1 us I1.kIn (by rw[List.append_nil];exact hlen)
    rw[List.append_nil]at hb';refine wpAny_call (codeAny_mono (F.x X.A X.stack s1 H1 ⟨us,[]⟩ us vs O ts c (λr s'=>match r with | .error ev=>X.xe ev s' | _=>False) hr I1.env0 hb' r rs (E.same sm).mtb (hl Z ts q) q2 λev s' w=> ?_) λr s' hq=> ?_)
    ·obtain⟨ea,T,C,H',rfl,hmc,ho,hbare,hun,hok,sm2,hea,heo,fl,hT,hTo⟩:=w
     have I2:Inv X pins σ H' s':=I1.call' ho hun hok hbare (λb z=>absurd z (by simp))
     exact hq2 pins _ _ ⟨ea,some T,C,σ,H',rfl,hmc,I2,λb o q _=>sm2 b o (sm b o q),hea,λhex=>o8 I1 hex heo,fl,(λt zt=>by cases zt;exact⟨hT,λhex=>o8 I1 hex hTo⟩),λpp hpp=>⟨λzz=>(by have:=(I1.pin pp hpp).1;rw[zz,heo]at this;cases this),λzz=>(by cases zz;have:=(I1.pin pp hpp).1;rw[hTo]at this;cases this)⟩⟩
    ·cases r with
     | error ev=>exact hq
     | ok fl=>exact hq.elim
def uX (X:Cx)(g:T->En->Rs En):TG:=λv σ H Q=> ∃Z O M t,EnvM X.K O M H Z σ/\Rep X.K O H t v/\match g t Z with
 | .ok Z'=> ∀σ',EnvM X.K O M H Z' σ'->Q σ' H
 | _=>False
abbrev yK (X:Cx)(tg:Expr)(g:T->En->Rs En):Prop:=PG X tg (uX X g)
def tPGs (X:Cx)(g:List T->En->Rs En):AO:=λvs σ H Q=> ∃Z O M ts,EnvM X.K O M H Z σ/\Reps X.K O H ts vs/\match g ts Z with
 | .ok Z'=> ∀σ',EnvM X.K O M H Z' σ'->Q σ' H
 | _=>False
abbrev yL (X:Cx)(tg:List Expr)(g:List T->En->Rs En):Prop:=PGs X tg (tPGs X g)
theorem PG.imp {X:Cx}{e:Expr}{t t':TG}(h:PG X e t)(w:∀v σ H Q,t' v σ H Q->t v σ H Q):PG X e t':=λpins s σ H v u Q I r q=>h pins s σ H v u Q I r (w v σ H Q q)
theorem PGs.imp {X:Cx}{e:List Expr}{t t':AO}(h:PGs X e t)(w:∀v σ H Q,t' v σ H Q->t v σ H Q):PGs X e t':=λpins s σ H v u Q I r q=>h pins s σ H v u Q I r (w v σ H Q q)
def gN (i:Nat)(t:T)(Z:En):Rs En:=if i<Z.length then .ok (Z.set i (.va t))else .bad
theorem EnvM.set {K:PySem.W.Frag}{O:Ow}{M:Mn}{H:Hp}{Z:En}{σ:L2.St}{i:Nat}{t:T}{v:V}(E:EnvM K O M H Z σ)(hi:i<Z.length)(r:Rep K O H t v):EnvM K O M H (Z.set i (.va t)) (σ.set i (some v)) where
 len:=by rw[List.length_set,List.length_set];exact E.len
 val:=λj u e=>by
  by_cases hj:i=j
  ·subst hj
   rw[List.getElem?_set_self hi]at e
   cases e;exact⟨v,List.getElem?_set_self (by rw[<-E.len];exact hi),r⟩
  ·rw[List.getElem?_set_ne hj]at e
   obtain⟨w,e1,e2⟩:=E.val j u e;exact⟨w,by rw[List.getElem?_set_ne hj];exact e1,e2⟩
 own:=λj o e=>by
  by_cases hj:i=j
  ·subst hj
   rw[List.getElem?_set_self hi]at e
   cases e
  ·rw[List.getElem?_set_ne hj]at e
   obtain⟨w,e1,e2⟩:=E.own j o e;exact⟨w,by rw[List.getElem?_set_ne hj];exact e1,e2⟩
 sub:=E.sub
 dis:=E.dis
 trk:=E.trk
theorem zJ (i:Nat)(hN:X.N.Nodup)(hi:X.N[i]? =some x:=by rfl)(hx:Loc X.env.scope x:=by first | exact Or.inl rfl | exact Or.inr rfl)(hf:X.fn x=true\/X.env.scope.names.lookup x=some .local:=by first | exact .inl rfl | exact .inr rfl | assumption):yK X (.Name x pos) (gN i):=
 PG.imp (z8 hN hi hx hf) λv σ H Q hh_=>by
  obtain⟨Z,O,M,t,E,r,h⟩:=hh_;unfold gN at h
  split at h
  ·rename_i Z' e
   split at e
   ·rename_i hl
    cases e;exact h _ (E.set hl r)
   ·cases e
  ·exact h.elim
def iO (ts:List T)(Z:En):Rs En:=match ts with
 | [] => .ok Z
 | _=> .bad
def cT (g:T->En->Rs En)(gs:List T->En->Rs En)(ts:List T)(Z:En):Rs En:=match ts with
 | t::r=>do
  let Z1 <-g t Z
  gs r Z1
 | [] => .bad
theorem zI:yL X [] iO:=PGs.imp zZ λvs σ H Q hh_=>by
 obtain⟨Z,O,M,ts,E,r,h⟩:=hh_;unfold iO at h
 cases ts with
 | nil=>exact⟨Reps.nil_iff.mp r,h σ E⟩
 | cons _ _=>exact h.elim
theorem wN {g:T->En->Rs En}{gs:List T->En->Rs En}(h1:yK X e g)(h2:yL X es gs)
  (hs:(assignEach (e::es) X.env).map (·.2)=assign e X.env::(assignEach es X.env).map (·.2):=by rfl):yL X (e::es) (cT g gs):=
 PGs.imp (wX h1 h2 hs) λvs σ H Q hh_=>by
  obtain⟨Z,O,M,ts,E,r,h⟩:=hh_
  cases ts with
  | nil=>exact h.elim
  | cons t ts=>
   obtain⟨v,ws,rfl,p,q⟩:=Reps.cons_iff.mp r;refine⟨v,ws,rfl,Z,O,M,t,E,p,?_⟩
   unfold cT at h
   cases e1:g t Z with
   | bad=>simp[e1]at h
   | err c=>simp[e1]at h
   | ok Z1=>
    intro σ1 E1;refine⟨Z1,O,M,ts,E1,q,?_⟩
    simp only[e1,ax]at h
    cases e2:gs ts Z1 with
    | bad=>simp[e2]at h
    | err c=>simp[e2]at h
    | ok Z2=>
     simp only[e2]at h;exact λσ2 E2=>h σ2 E2
def gT (n:Nat)(gs:List T->En->Rs En)(t:T)(Z:En):Rs En:=match t with
 | .tup l=>if l.length=n then gs l Z else .bad
 | _=> .bad
theorem B2 {k n:Nat}{gs:List T->En->Rs En}(hc:X.calm=true)(h:yL X es gs)(hn:(assignEach es X.env).length=n:=by rfl)(hst:(assignEach es X.env).findIdx? (·.1)=none:=by rfl):yK X (.Tuple es k pos) (gT n gs):=
 PG.imp (Cg hc h hn hst) λv σ H Q hh_=>by
  obtain⟨Z,O,M,t,E,r,h⟩:=hh_;unfold gT at h
  cases t with
  | tup l=>
   obtain⟨a,vs,rfl,n',q,z⟩:=Rep.tup_iff.mp r
   by_cases hl:l.length=n
   ·simp only[if_pos hl]at h
    exact⟨a,vs,rfl,SqT.of q,by rw[<-z.length];exact hl,Z,O,M,l,E,z,h⟩
   ·simp only[if_neg hl]at h
  | _=>exact h.elim
theorem SqL.nn {K:PySem.W.Frag}{H:Hp}{a:Addr}{vs:List V}(q:SqL K H a vs):¬ Nw K H a:=λ⟨h1,h2⟩=>by
 rcases q with(q | ⟨o,q⟩) | ⟨o,_,_,q,_⟩
 ·rw[h1]at q;cases q
 ·rw[h1]at q;cases q
 ·rw[h2]at q;cases q
mutual
theorem Rep.more {K:PySem.W.Frag}{O O':Ow}{H:Hp}(sub:∀a,O' a->O a\/Nw K H a):∀{t:T} {v:V},Rep K O H t v->Rep K O' H t v
 | .non,_,r=>by unfold Rep at r ⊢;exact r
 | .bl _,_,r=>by unfold Rep at r ⊢;exact r
 | .int _,_,r=>by unfold Rep at r ⊢;exact r
 | .str _,_,r=>by unfold Rep at r ⊢;exact r
 | .tup l,_,r=>by
  unfold Rep at r ⊢;obtain⟨a,vs,e,n,q,z⟩:=r
  exact⟨a,vs,e,λp=>(sub a p).elim n λw=>(by rw[w.1]at q;cases q),q,Reps.more sub z⟩
 | .lst l,_,r=>by
  unfold Rep at r ⊢;obtain⟨a,vs,e,n,q,z⟩:=r
  exact⟨a,vs,e,λp=>(sub a p).elim n λw=>(by rw[w.1]at q;cases q),q,Reps.more sub z⟩
 | .scr l,_,r=>by
  unfold Rep at r ⊢;obtain⟨a,e,n,q⟩:=r
  exact⟨a,e,λp=>(sub a p).elim n λw=>Tr.SqL.nn q w,q⟩
 | .dct ks ts,_,r=>by
  unfold Rep at r ⊢;obtain⟨a,kvs,e,n,q,k,z⟩:=r;exact⟨a,kvs,e,λp=>(sub a p).elim n λw=>(by rcases q with q | ⟨_,q⟩ <;> rw[w.1]at q <;> cases q),q,k,Reps.more sub z⟩
theorem Reps.more {K:PySem.W.Frag}{O O':Ow}{H:Hp}(sub:∀a,O' a->O a\/Nw K H a):∀{l:List T} {vs:List V},Reps K O H l vs->Reps K O' H l vs
 | [],_,r=>by unfold Reps at r ⊢;exact r
 | t::l,_,r=>by
  unfold Reps at r ⊢;obtain⟨v,ws,e,p,q⟩:=r;exact⟨v,ws,e,Rep.more sub p,Reps.more sub q⟩
end
theorem Rep.move {K:PySem.W.Frag}{O O' P:Ow}{H H':Hp}{t:T}{v:V}(hP:∀a,P a->O a\/Nw K H a)(hO:∀a,O' a->O a\/Nw K H a)(h:SameO P H H')(r:Rep K O H t v):Rep K O' H' t v:=
 Rep.less (O:=λa=>O' a\/P a) (λ_ z=> .inl z) (Rep.keep h (λ_ z=> .inr z) (Rep.more (λa z=>z.elim (hO a) (hP a)) r))
theorem Reps.move {K:PySem.W.Frag}{O O' P:Ow}{H H':Hp}{t:List T}{v:List V}(hP:∀a,P a->O a\/Nw K H a)(hO:∀a,O' a->O a\/Nw K H a)(h:SameO P H H')(r:Reps K O H t v):Reps K O' H' t v:=
 Reps.less (O:=λa=>O' a\/P a) (λ_ z=> .inl z) (Reps.keep h (λ_ z=> .inr z) (Reps.more (λa z=>z.elim (hO a) (hP a)) r))
def EX (K:PySem.W.Frag)(O:Ow)(H:Hp)(ts:List T)(J:It):Prop:=∀(P O':Ow),(∀a,P a->O a\/Nw K H a)->(∀a,O' a->O a\/Nw K H a)->∀(i:Nat) (Hc:Hp),SameO P H Hc->(∀a,O' a->∃o,Hc a=some o) →
 (ts.length<=i->J.stop i Hc)/\(∀t,ts[i]? =some t->J.go i Hc/\∀x Hc',J.yld i Hc x Hc'->Same Hc Hc'/\Rep K O' Hc' t x)
def Fc (X:Cx)(f:En->Rs (List T)):TI:=λσ H R=> ∃Z O,EnvO X.K O H Z σ/\Post X H (f Z) λts H'=> ∀J,EX X.K O H' ts J->R J H'
abbrev vQ (X:Cx)(tg iter:Expr)(f:En->Rs (List T)):Prop:=PI X tg iter (Fc X f)
theorem PI.imp {tg iter:Expr}{t t':TI}(h:PI X tg iter t)(w:∀σ H R,t' σ H R->t σ H R):PI X tg iter t':=λpins s σ H R I q=>h pins s σ H R I (w σ H R q)
def iL (f:En->Rs T)(Z:En):Rs (List T):=do
 let x <-f Z
 match x with
 | .lst l=> .ok l
 | _=> .bad
def iT (f:En->Rs T)(Z:En):Rs (List T):=do
 let x <-f Z
 match x with
 | .tup l=> .ok l
 | _=> .bad
theorem tL {tg:Expr}(ha:cz X a fa):vQ X tg a (iL fa):=PI.imp (zX ha) λσ H R hh_=>by
 obtain⟨Z,O,E,h⟩:=hh_;obtain⟨Z1,O1,E1,h1⟩:=aY E h;refine⟨Z1,O1,E1,Post.mono h1 λts H1 s1 q vs r=> ?_⟩
 obtain⟨t',r',s',E',q'⟩:=q vs r
 split at q'
 ·rename_i l
  obtain⟨a,ws,rfl,n,q,z⟩:=Rep.lst_iff.mp r';refine⟨a,rfl,⟨ws,SqL.of q⟩,q' H1 (Same.refl H1) _ λP O' hP hO i Hc hs ht=> ?_⟩
  have hnP:¬ P a:=λz=>(hP a z).elim n λw=>by rw[w.1]at q;cases q
  refine⟨λhi=>⟨ws,SqL.of (hs _ _ q hnP),by rw[<-z.length];exact hi⟩,λt ht'=> ?_⟩
  obtain⟨v,e1,e2⟩:=z.get ht';refine⟨⟨ws,v,SqL.of (hs _ _ q hnP),e1⟩,λx Hc' y=> ?_⟩
  obtain⟨e,y⟩:=y;subst e
  have:=y ws (SqL.of (hs _ _ q hnP));rw[e1]at this;cases this;exact⟨Same.refl _,e2.move hP hO hs⟩
 ·exact q'.elim
theorem B0 {tg:Expr}(ha:cz X a fa):vQ X tg a (iT fa):=PI.imp (Cf ha) λσ H R hh_=>by
 obtain⟨Z,O,E,h⟩:=hh_;obtain⟨Z1,O1,E1,h1⟩:=aY E h;refine⟨Z1,O1,E1,Post.mono h1 λts H1 s1 q vs r=> ?_⟩
 obtain⟨t',r',s',E',q'⟩:=q vs r
 split at q'
 ·rename_i l
  obtain⟨a,ws,rfl,n,q,z⟩:=Rep.tup_iff.mp r';refine⟨a,rfl,⟨ws,SqT.of q⟩,q' H1 (Same.refl H1) _ λP O' hP hO i Hc hs ht=> ?_⟩
  have hnP:¬ P a:=λz=>(hP a z).elim n λw=>by rw[w.1]at q;cases q
  refine⟨λhi=>⟨ws,SqT.of (hs _ _ q hnP),by rw[<-z.length];exact hi⟩,λt ht'=> ?_⟩
  obtain⟨v,e1,e2⟩:=z.get ht';refine⟨⟨ws,v,SqT.of (hs _ _ q hnP),e1⟩,λx Hc' y=> ?_⟩
  obtain⟨e,y⟩:=y;subst e
  have:=y ws (SqT.of (hs _ _ q hnP));rw[e1]at this;cases this;exact⟨Same.refl _,e2.move hP hO hs⟩
 ·exact q'.elim
def rng (lo hi:Int):List T:=(List.range (hi - lo).toNat).map λ(k:Nat)=>T.int (lo+(k:Int))
def sM (i:Int):Bool:=decide (-(2 ^ 62)<=i)&&decide (i<2 ^ 62)
def iR (f:En->Rs (List T))(Z:En):Rs (List T):=do
 let x <-f Z
 match x with
 | [.int j] =>if sM j then .ok (rng 0 j)else .bad
 | [.int i,.int j] =>if sM i&&sM j then .ok (rng i j)else .bad
 | _=> .bad
theorem iH {i:Int}(h:sM i=true) : -(2 ^ 62)<=i/\i<2 ^ 62:=by
 unfold sM at h;rw[Bool.and_eq_true]at h;exact⟨of_decide_eq_true h.1,of_decide_eq_true h.2⟩
theorem lf {K:PySem.W.Frag}{O:Ow}{H:Hp}(lo hi:Int):EX K O H (rng lo hi) (Itr lo (hi - lo).toNat):=λP O' hP hO i Hc hs ht=>by
 refine⟨λh=> ?_,λt h=> ?_⟩
 ·show(hi - lo).toNat<=i
  unfold rng at h;rw[List.length_map,List.length_range]at h;exact h
 ·unfold rng at h
  rw[List.getElem?_map]at h
  by_cases hi':i<(hi - lo).toNat
  ·rw[List.getElem?_range hi']at h
   cases h;refine⟨hi',λx Hc' y=> ?_⟩
   obtain⟨e,y⟩:=y;subst e y;exact⟨Same.refl _,Rep.int_ _⟩
  ·rw[List.getElem?_eq_none (by simpa using hi')]at h
   cases h
theorem u6 {tg:Expr}(hm:X.mg "range" =none)(ha:n9 X [a] fs)(hg:Gl X "range":=by rfl)(hs:starEach [a] X.env= [(false,eval a X.env)]:=by rfl):vQ X tg (.Call (.Name "range" p) [a] [] pos) (iR fs):=by
 intro pins s σ H R I ⟨Z,O,E,h⟩
 have h1:=dR E h;refine Call_ (fz I hg hm boot_range (PyProof.Rows.callWith_type1 (cv (ha pos pins s σ H _ I h1) λus s1 ⟨vs,H1,I1,r1,ts,rs,s',E',q1⟩=> ?_) hs rfl))
 split at q1
 ·obtain⟨v,rfl,r⟩:=rs.one
  split at q1
  ·rename_i j hj
   obtain⟨b1,b2⟩:=iH hj;cases Rep.int_iff.mp r
   cases r1 with
   | cons r rr=>
    cases rr;obtain⟨t,rfl⟩:=r;exact call_range_1 (jF I1 (by omega) (by omega) b1 b2 (q1 H1 (Same.refl H1) _ (lf 0 j)))
  ·exact q1.elim
 ·obtain⟨v,ws,rfl,p1,q⟩:=Reps.cons_iff.mp rs
  obtain⟨v2,rfl,r⟩:=q.one
  split at q1
  ·rename_i i j hj
   rw[Bool.and_eq_true]at hj;obtain⟨b1,b2⟩:=iH hj.1;obtain⟨b3,b4⟩:=iH hj.2;cases Rep.int_iff.mp p1;cases Rep.int_iff.mp r
   cases r1 with
   | cons r rr=>
    cases rr with
    | cons r' rr=>
     cases rr;obtain⟨t,rfl⟩:=r;obtain⟨t',rfl⟩:=r';exact call_range_2 (jF I1 b1 b2 b3 b4 (q1 H1 (Same.refl H1) _ (lf i j)))
  ·exact q1.elim
 ·exact q1.elim
theorem u5 {tg:Expr}(hm:X.mg "range" =none)(ha:n9 X [a,b] fs)(hg:Gl X "range":=by rfl)(hs:starEach [a,b] X.env= [(false,eval a X.env),(false,eval b X.env)]:=by rfl)(hs2:starEach [b] X.env= [(false,eval b X.env)]:=by rfl) :
  vQ X tg (.Call (.Name "range" p) [a,b] [] pos) (iR fs):=by
 intro pins s σ H R I ⟨Z,O,E,h⟩
 have h1:=dR E h;refine Call_ (fz I hg hm boot_range (PyProof.Rows.callWith_type1 (cv (ha pos pins s σ H _ I h1) λus s1 ⟨vs,H1,I1,r1,ts,rs,s',E',q1⟩=> ?_) (by rw[hs,hs2]) (by rw[hs2];rfl)))
 split at q1
 ·obtain⟨v,rfl,r⟩:=rs.one
  split at q1
  ·rename_i j hj
   obtain⟨b1,b2⟩:=iH hj;cases Rep.int_iff.mp r
   cases r1 with
   | cons r rr=>
    cases rr;obtain⟨t,rfl⟩:=r;exact call_range_1 (jF I1 (by omega) (by omega) b1 b2 (q1 H1 (Same.refl H1) _ (lf 0 j)))
  ·exact q1.elim
 ·obtain⟨v,ws,rfl,p1,q⟩:=Reps.cons_iff.mp rs
  obtain⟨v2,rfl,r⟩:=q.one
  split at q1
  ·rename_i i j hj
   rw[Bool.and_eq_true]at hj;obtain⟨b1,b2⟩:=iH hj.1;obtain⟨b3,b4⟩:=iH hj.2;cases Rep.int_iff.mp p1;cases Rep.int_iff.mp r
   cases r1 with
   | cons r rr=>
    cases rr with
    | cons r' rr=>
     cases rr;obtain⟨t,rfl⟩:=r;obtain⟨t',rfl⟩:=r';exact call_range_2 (jF I1 b1 b2 b3 b4 (q1 H1 (Same.refl H1) _ (lf i j)))
  ·exact q1.elim
 ·exact q1.elim
end
section
variable {X:Cx}{a b c e:Expr}{es:List Expr}{fa fb fc:En->Rs T}{fs:En->Rs (List T)}{pos p p2:Pos}{x:Str}
def bp (src:List (Option Nat))(Z:En):En:=src.map λo=>match o with
 | some i=>match Z[i]? with
  | some (.va t)=> .va t
  | _=> .em
 | none=> .em
def cQ (tgt:T->En->Rs En)(fc:En->Rs Bool)(fe:En->Rs T):List T->En->Rs (List T)
 | [],_=> .ok []
 | t::r,Z=>do
  let Z1 <-tgt t Z
  let k <-fc Z1
  if k then do
   let y <-fe Z1
   let ys <-cQ tgt fc fe r Z1
   .ok (y::ys)
  else cQ tgt fc fe r Z1
def dP (fi:En->Rs (List T))(src:List (Option Nat))(tgt:T->En->Rs En)(fc:En->Rs Bool)(fe:En->Rs T)(Z:En):Rs T:=do
 let ts <-fi Z
 if ts.length<=sizeLine then match cQ tgt fc fe ts (bp src Z)with
  | .ok ys=> .ok (.lst ys)
  | _=> .bad
 else .bad
def bT (_:En):Rs Bool:=.ok true
def tP0 (K:PySem.W.Frag)(f:En->Rs T):TE:=λσ H Q=> ∃Z O,EnvO K O H Z σ/\match f Z with
 | .ok t=> ∀H',Same H H'->∀v,Rep K O H' t v->Q v H'
 | _=>False
def tPT0 (K:PySem.W.Frag)(f:En->Rs Bool):TT:=λσ H Q=> ∃Z O,EnvO K O H Z σ/\match f Z with
 | .ok t=> ∀H',Same H H'->Q t H'
 | _=>False
theorem tP0.up {f:En->Rs T}{σ:L2.St}{H:Hp}{Q:VK}(h:tP0 X.K f σ H Q):tP X f σ H Q:=by
 obtain⟨Z,O,E,h⟩:=h;refine⟨Z,O,E,?_⟩
 cases q:f Z with
 | ok t=>rw[q]at h;exact h
 | err c=>rw[q]at h;exact h.elim
 | bad=>rw[q]at h;exact h.elim
theorem tPT0.up {f:En->Rs Bool}{σ:L2.St}{H:Hp}{Q:Bool->Hp->Prop}(h:tPT0 X.K f σ H Q):vV X f σ H Q:=by
 obtain⟨Z,O,E,h⟩:=h;refine⟨Z,O,E,?_⟩
 cases q:f Z with
 | ok t=>rw[q]at h;exact h
 | err c=>rw[q]at h;exact h.elim
 | bad=>rw[q]at h;exact h.elim
theorem zG:uO X [] (vV X bT):=λpins s σ H Q I ⟨Z,O,E,h⟩=>oO pins s σ H Q I (h H (Same.refl H))
theorem zF {f:En->Rs Bool}(h:rW X c f):uO X [c] (vV X f):=zW h
abbrev noM:Mn:=λ_ _=>False
theorem vn {src:List (Option Nat)}{Z:En}{j:Nat}{o:OT}(e:(bp src Z)[j]? =some (.ow o)):False:=by
 unfold bp at e;rw[List.getElem?_map]at e
 cases q:src[j]? with
 | none=>rw[q]at e;cases e
 | some o'=>
  rw[q]at e
  cases o' with
  | none=>cases e
  | some i=>
   have e':(match Z[i]? with | some (Sl.va t)=>Sl.va t | _=>Sl.em)=Sl.ow o:=Option.some.inj e
   split at e' <;> cases e'
theorem rh {K:PySem.W.Frag}{O:Ow}{H:Hp}{Z:En}{σ:L2.St}(E:EnvO K O H Z σ)(src:List (Option Nat)):EnvM K O noM H (bp src Z) (fG src σ) where
 len:=by unfold bp fG;rw[List.length_map,List.length_map]
 val:=λj t e=>by
  unfold bp at e;unfold fG;rw[List.getElem?_map]at e ⊢
  cases q:src[j]? with
  | none=>rw[q]at e;cases e
  | some o=>
   rw[q]at e
   cases o with
   | none=>cases e
   | some i=>
    have e':(match Z[i]? with | some (Sl.va t)=>Sl.va t | _=>Sl.em)=Sl.va t:=Option.some.inj e
    cases q2:Z[i]? with
    | none=>rw[q2]at e';cases e'
    | some z=>
     rw[q2]at e'
     cases z with
     | em=>cases e'
     | ow l=>cases e'
     | va t'=>
      cases e';obtain⟨v,e1,e2⟩:=E.val i _ q2;exact⟨v,by simp[e1],e2⟩
 own:=λj o e=>(vn e).elim
 sub:=λ_ _ z=>z.elim
 dis:=λ_ _ _ z=>z.elim
 trk:=E.mtb
theorem ORep.no {K:PySem.W.Frag}{O:Ow}{H:Hp}{o:OT}{v:V}(r:ORep K O sC H o v):False:=by
 cases o with
 | lst l=>obtain⟨a,_,_,e,_⟩:=r;exact(e a).mpr rfl
 | dct ks ts=>obtain⟨a,_,_,e,_⟩:=r;exact(e a).mpr rfl
 | dd ks rows=>obtain⟨a,_,_,_,e,_⟩:=r;exact(e a).mpr (.inl rfl)
theorem EnvM.move {K:PySem.W.Frag}{O O' P:Ow}{H H':Hp}{Z:En}{σ:L2.St}(E:EnvM K O noM H Z σ)(hP:∀a,P a->O a\/Nw K H a)(hO:∀a,O' a->O a\/Nw K H a)(h:SameO P H H')(trk:∀a,O' a->Mtb H' a):EnvM K O' noM H' Z σ where
 len:=E.len
 val:=λi t e=>let ⟨v,e1,e2⟩:=E.val i t e;⟨v,e1,e2.move hP hO h⟩
 own:=λi o e=>let ⟨_,_,r⟩:=E.own i o e;r.no.elim
 sub:=λ_ _ z=>z.elim
 dis:=λ_ _ _ z=>z.elim
 trk:=trk
def Dt (fi:En->Rs (List T))(src:List (Option Nat))(tgt:T->En->Rs En)(fc:En->Rs Bool)(fe:En->Rs T)(Z:En):Rs (List T):=fi Z >>= λts=>if ts.length<=sizeLine then(match cQ tgt fc fe ts (bp src Z)with | .ok ys=>Rs.ok ys | _=> .bad)else .bad
theorem xG {src:List (Option Nat)}{fi:En->Rs (List T)}{tgt:T->En->Rs En}{fc:En->Rs Bool}{fe:En->Rs T}{Z:En}:dP fi src tgt fc fe Z=Dt fi src tgt fc fe Z >>= λl=> .ok (.lst l):=by
 unfold dP Dt
 cases fi Z with
 | bad=>rfl
 | err c=>rfl
 | ok ts=>
  rw[ax,ax]
  by_cases hz:ts.length<=sizeLine
  ·rw[if_pos hz,if_pos hz]
   cases cQ tgt fc fe ts (bp src Z) <;> rfl
  ·rw[if_neg hz,if_neg hz];rfl
theorem xF {src:List (Option Nat)}{fi:En->Rs (List T)}{tgt:T->En->Rs En}{fc:En->Rs Bool}{fe:En->Rs T}{σ:L2.St}{H:Hp}{Q:VK}{Z:En}{O:Ow}(E:EnvO X.K O H Z σ)
  (hq1:Post X H (Dt fi src tgt fc fe Z) λall H1=> ∀D ys H',Nw X.K H1 D->Same H1 H'->H' D=some (.lst ys)->Reps X.K (λa=>O a\/a=D) H' all ys->Q (.ref D) H'):By X.K (Fc X fi) src (uX X tgt) (tPT0 X.K fc) (tP0 X.K fe) σ H Q:=by
 unfold Dt at hq1;refine⟨Z,O,E,Post.mono hq1.bind λts H1 s1 q1 J hJ D hD hK=> ?_⟩
 have E1:=E.same s1
 by_cases hz:ts.length<=sizeLine
 ·rw[if_pos hz]at q1
  cases hall:cQ tgt fc fe ts (bp src Z)with
  | bad=>rw[hall]at q1;exact q1.elim
  | err c=>rw[hall]at q1;exact q1.elim
  | ok all=>
   rw[hall]at q1
   have q2:∀D ys H',Nw X.K H1 D->Same H1 H'->H' D=some (.lst ys)->Reps X.K (λa=>O a\/a=D) H' all ys->Q (.ref D) H':=q1 H1 (Same.refl H1)
   have nD:Nw X.K H1 D:=⟨hD,hK⟩
   let O':Ow:=λa=>O a\/a=D
   have subO:∀a,O' a->O a\/Nw X.K H1 a:=λa z=>z.elim .inl λw=> .inr (w▸nD)
   -- the walk's word
   refine⟨λi m σ' ys H'=>m=ts.length - i/\i<=ts.length/\ys.length<=i/\H' D=some (.lst ys)/\SameO (λa=>a=D) (upd H1 D (.lst [])) H' ∧
    ∃Z' yts zs,EnvM X.K O' noM H' Z' σ'/\Reps X.K O' H' yts ys/\cQ tgt fc fe (ts.drop i) Z'= .ok zs/\yts++zs=all,⟨ts.length,?_⟩,?_⟩
   ·have sN:Same H1 (upd H1 D (.lst [])):=aO hD _
    refine⟨by omega,Nat.zero_le _,Nat.le_refl _,aA,λb o e _=>e,bp src Z,[],all,?_,Reps.nil_,by simpa using hall,rfl⟩
    have E2:EnvM X.K O noM H1 (bp src Z) (fG src σ):=rh E1 src
    exact E2.move (P:=λa=>a=D) (λa z=> .inr (z▸nD)) subO (λb o e _=>sN b o e) λa z=>by
     rcases z with z | z
     ·exact(E1.mtb a z).same sN
     ·rw[z];exact .inl ⟨_,aA⟩
   ·rintro i m σ' ys H' ⟨rfl,hi',hyl,hDl,hsm,Z',yts,zs,E',ry,hl,hyz⟩
    refine⟨hDl,?_⟩
    have sm1:SameO (λa=>a=D) H1 H':=λb o e nb=>hsm b o (by rw[ay nb];exact e) nb
    have it:=hJ (λa=>a=D) O' (λa z=> .inr (z▸nD)) subO i H' sm1 (λa z=>(E'.trk a z).some)
    by_cases hlt:i<ts.length
    ·refine .inr ?_
     have hti:ts[i]? =some ts[i]:=by simp
     obtain⟨go,yl⟩:=it.2 ts[i] hti;refine⟨go,by omega,λxx Hc y=> ?_⟩
     obtain⟨sc,rx⟩:=yl xx Hc y
     have Ec:=E'.same sc;rw[List.drop_eq_getElem_cons hlt]at hl;unfold cQ at hl;refine⟨Z',O',noM,ts[i],Ec,rx,?_⟩
     cases e1:tgt ts[i] Z' with
     | bad=>rw[e1]at hl;cases hl
     | err cc=>rw[e1]at hl;cases hl
     | ok Z1=>
      rw[e1,ax]at hl;intro σ1 Eg;refine⟨Z1,O',⟨noM,Eg⟩,?_⟩
      cases e2:fc Z1 with
      | bad=>rw[e2]at hl;cases hl
      | err cc=>rw[e2]at hl;cases hl
      | ok k=>
       rw[e2,ax]at hl;intro H3 s3
       have E3:=Eg.same s3
       have tot:Same H' H3:=sc.trans s3
       have D3:H3 D=some (.lst ys):=tot _ _ hDl
       have sm3:SameO (λa=>a=D) (upd H1 D (.lst [])) H3:=λb o e nb=>tot _ _ (hsm b o e nb)
       cases k with
       | false=>
        refine L2.iteF ?_
        have hl':cQ tgt fc fe (ts.drop (i+1)) Z1= .ok zs:=by simpa using hl
        exact⟨ts.length - (i+1),by omega,rfl,hlt,by omega,D3,sm3,Z1,yts,zs,E3,ry.same tot,hl',hyz⟩
       | true=>
        refine L2.iteT ?_
        have hl':(fe Z1 >>= λy=>cQ tgt fc fe (ts.drop (i+1)) Z1 >>= λys=>Rs.ok (y::ys))= .ok zs:=by simpa using hl
        refine⟨Z1,O',⟨noM,E3⟩,?_⟩
        cases e3:fe Z1 with
        | bad=>rw[e3]at hl';cases hl'
        | err cc=>rw[e3]at hl';cases hl'
        | ok yt=>
         rw[e3,ax]at hl'
         cases e4:cQ tgt fc fe (ts.drop (i+1)) Z1 with
         | bad=>rw[e4]at hl';cases hl'
         | err cc=>rw[e4]at hl';cases hl'
         | ok zs'=>
          rw[e4,ax]at hl'
          have hzs:yt::zs'=zs:=by injection hl'
          intro H4 s4 v rv
          have D4:H4 D=some (.lst ys):=s4 _ _ D3
          have E4:=E3.same s4
          have tot4:Same H' H4:=tot.trans s4
          have smD:SameO (λa=>a=D) H4 (upd H4 D (.lst (ys++ [v]))):=λb o e nb=>by rw[ay nb];exact e
          have inO:∀a,a=D->O' a\/Nw X.K H4 a:=λa z=> .inl (.inr z)
          refine⟨D4,ts.length - (i+1),by omega,rfl,hlt,?_,aA,λb o e nb=>smD b o (s4 _ _ (sm3 b o e nb)) nb,Z1,yts++ [yt],zs',?_,?_,e4,?_⟩
          ·rw[List.length_append,List.length_singleton];omega
          ·exact E4.move inO (λa z=> .inl z) smD λaa z=>by
            by_cases hz:aa=D
            ·rw[hz];exact .inl ⟨_,aA⟩
            ·unfold Mtb;rw[ay hz];exact E4.trk aa z
          ·have r1:Reps X.K O' H4 (yts++ [yt]) (ys++ [v]):=(ry.same tot4).append (Reps.cons_ rv Reps.nil_)
           exact r1.move inO (λa z=> .inl z) smD
          ·rw[List.append_assoc,List.singleton_append,hzs];exact hyz
    ·refine .inl ⟨it.1 (by omega),?_⟩
     have hi2:i=ts.length:=by omega
     subst hi2;rw[List.drop_length]at hl
     have hzs:zs= []:=by unfold cQ at hl;injection hl with hl;exact hl.symm
     subst hzs;rw[List.append_nil]at hyz;subst hyz
     have sF:Same H1 H':=λb o e=>sm1 b o e λz=>by rw[z,hD]at e;cases e
     exact q2 D ys H' nD sF hDl ry
 ·rw[if_neg hz]at q1
  exact q1.elim
theorem pq {src:List (Option Nat)}{fi:En->Rs (List T)}{tgt:T->En->Rs En}{fc:En->Rs Bool}{fe:En->Rs T}{σ:L2.St}{H:Hp}{Q:VK}(h0:tP X (dP fi src tgt fc fe) σ H Q):By X.K (Fc X fi) src (uX X tgt) (tPT0 X.K fc) (tP0 X.K fe) σ H Q:=by
 obtain⟨Z,O,E,hq⟩:=h0;refine xF E ?_
 have e:dP fi src tgt fc fe Z=Dt fi src tgt fc fe Z >>= λl=> .ok (.lst l):=xG
 rw[e]at hq
 cases q:Dt fi src tgt fc fe Z with
 | bad=>rw[q]at hq;exact hq.elim
 | err c=>rw[q]at hq;exact hq
 | ok l=>
  rw[q,ax]at hq;intro H1 s1 D ys H' nD sD eD rD;exact hq H' (s1.trans sD) _ (Rep.lst_iff.mpr ⟨D,ys,rfl,λz=>(E.same s1).fresh nD.1 z,eD,rD.less λa z=> .inl z⟩)
theorem q_lc {elt tg iter:Expr}{ifs:List Expr}{scope:Scope}{N':List Str}{src:List (Option Nat)}{fi:En->Rs (List T)}{tgt:T->En->Rs En}{fc:En->Rs Bool}{fe:En->Rs T}
  (hc:X.calm=true) (S:LcScope X scope N' src) (hi:vQ X tg iter fi)
  (block:∀cl C s₀ H₀ fp,yK (bn X scope cl N' C s₀ H₀ fp) tg tgt/\uO (bn X scope cl N' C s₀ H₀ fp) ifs (vV (bn X scope cl N' C s₀ H₀ fp) fc)/\cz (bn X scope cl N' C s₀ H₀ fp) elt fe)
  (hs:∀x,foldedSetIterable iter X.env x=pure x:=by intro _;rfl) :
  cz X (.ListComp elt [⟨tg,iter,ifs,0⟩] scope pos) (dP fi src tgt fc fe):=by
 have hPG:∀cl C s₀ H₀ fp,PG (bn X scope cl N' C s₀ H₀ fp) tg (uX X tgt):=λcl C s₀ H₀ fp=>(block cl C s₀ H₀ fp).1
 have hPI:∀cl C s₀ H₀ fp,uO (bn X scope cl N' C s₀ H₀ fp) ifs (tPT0 X.K fc):=λcl C s₀ H₀ fp pins s σ H Q I h=>(block cl C s₀ H₀ fp).2.1 pins s σ H Q I (tPT0.up (X:=bn X scope cl N' C s₀ H₀ fp) h)
 have hPE:∀cl C s₀ H₀ fp,PE (bn X scope cl N' C s₀ H₀ fp) elt (tP0 X.K fe):=λcl C s₀ H₀ fp pins s σ H Q I h=>(block cl C s₀ H₀ fp).2.2 pins s σ H Q I (tP0.up (X:=bn X scope cl N' C s₀ H₀ fp) h)
 exact PE.imp (qJ (g:=uX X tgt) (tc:=tPT0 X.K fc) (te:=tP0 X.K fe) hc S hi (λcl C s₀ H₀ fp=>⟨hPG cl C s₀ H₀ fp,hPI cl C s₀ H₀ fp,hPE cl C s₀ H₀ fp⟩) hs) λσ H Q h=>pq h
inductive Fl where
 | nx (Z:En) | rt (t:T) | bk (Z:En) | ct (Z:En)
def OO (B:Ow)(M:Mn):Ow:=λa=>B a\/M.u a
structure Ev (K:PySem.W.Frag)(B:Ow)(M:Mn)(H:Hp)(Z:En)(σ:L2.St):Prop where
 env:EnvM K (OO B M) M H Z σ
 mine:∀a,M.u a->¬ B a
theorem Ev.same {K:PySem.W.Frag}{B:Ow}{M:Mn}{H H':Hp}{Z:En}{σ:L2.St}(h:Same H H')(e:Ev K B M H Z σ):Ev K B M H' Z σ:=⟨e.env.same h,e.mine⟩
theorem Ev.o {K:PySem.W.Frag}{B:Ow}{M:Mn}{H:Hp}{Z:En}{σ:L2.St}(e:Ev K B M H Z σ):EnvO K (OO B M) H Z σ:=⟨M,e.env⟩
def PostF (X:Cx)(B P:Ow)(H:Hp)(r:Rs Fl)(D:pT):Prop:=match r with
 | .ok (.nx Z')=> ∀σ' H' M',SameO P H H'->Ev X.K B M' H' Z' σ'->(∀a,M'.u a->P a\/Nw X.K H a)->D.nx σ' H'
 | .ok (.rt t)=> ∀v H',SameO P H H'->Rep X.K B H' t v->D.rt v H'
 | .ok (.bk Z')=> ∀σ' H' M',SameO P H H'->Ev X.K B M' H' Z' σ'->(∀a,M'.u a->P a\/Nw X.K H a)->D.bk σ' H'
 | .ok (.ct Z')=> ∀σ' H' M',SameO P H H'->Ev X.K B M' H' Z' σ'->(∀a,M'.u a->P a\/Nw X.K H a)->D.ct σ' H'
 | .err c=>XA X P H c
 | .bad=>False
def Fb (X:Cx)(F:En->Rs Fl):TS:=λD σ H=> ∃Z B M,Ev X.K B M H Z σ/\PostF X B M.u H (F Z) D
abbrev mL (X:Cx)(s:Stmt)(F:En->Rs Fl):Prop:=PS X s (Fb X F)
abbrev k6 (X:Cx)(s:List Stmt)(F:En->Rs Fl):Prop:=PSs X s (Fb X F)
theorem PostF.later {B P P1:Ow}{H H1:Hp}{r:Rs Fl}{D:pT}(h:PostF X B P H r D)(s:SameO P H H1)(sub:∀a,P1 a->P a\/Nw X.K H a):PostF X B P1 H1 r D:=by
 have back:∀a,P1 a\/Nw X.K H1 a->P a\/Nw X.K H a:=λa z=>z.elim (sub a) (gB s)
 cases r with
 | bad=>exact h
 | err c=>exact XA.later h s sub
 | ok f=>
  cases f with
  | nx Z'=>exact λσ' H' M' s' E' o'=>h σ' H' M' (s.trans s' sub) E' λa z=>back a (o' a z)
  | rt t=>exact λv H' s' r=>h v H' (s.trans s' sub) r
  | bk Z'=>exact λσ' H' M' s' E' o'=>h σ' H' M' (s.trans s' sub) E' λa z=>back a (o' a z)
  | ct Z'=>exact λσ' H' M' s' E' o'=>h σ' H' M' (s.trans s' sub) E' λa z=>back a (o' a z)
theorem PostF.xa {B P:Ow}{H:Hp}{c:Str}{D:pT}(h:PostF X B P H (.err c) D):XA X sC H c:=XA.later (P:=P) h (λ_ _ e _=>e) λ_ z=>z.elim
def sN (Z:En):Rs Fl:=.ok (.nx Z)
def ar (F G:En->Rs Fl)(Z:En):Rs Fl:=do
 let f <-F Z
 match f with
 | .nx Z'=>G Z'
 | f=> .ok f
theorem BS:k6 X [] sN:=PSs.imp zS λD σ H ⟨Z,B,M,E,h⟩=>h σ H M (λ_ _ e _=>e) E λa z=> .inl z
theorem zC {st:Stmt}{rest:List Stmt}{F G:En->Rs Fl}(h1:mL X st F)(h2:k6 X rest G):k6 X (st::rest) (ar F G):=PSs.imp (wR h1 h2) λD σ H hh_=>by
 obtain⟨Z,B,M,E,h⟩:=hh_;refine⟨Z,B,M,E,?_⟩
 unfold ar at h
 cases q:F Z with
 | bad=>rw[q]at h;exact h.elim
 | err c=>rw[q]at h;exact h
 | ok f=>
  rw[q,ax]at h
  cases f with
  | nx Z'=>exact λσ' H' M' s' E' o'=>⟨Z',B,M',E',h.later s' o'⟩
  | rt t=>exact h
  | bk Z'=>exact h
  | ct Z'=>exact h
theorem BR {st:Stmt}{F:En->Rs Fl}(h:mL X st F):k6 X [st] F:=zR h
def aM (f:En->Rs T)(Z:En):Rs Fl:=do
 let t <-f Z
 .ok (.rt t)
theorem BP (ha:cz X a fa):mL X (.Return (some a) pos) (aM fa):=PS.imp (Cc ha) λD σ H hh_=>by
 obtain⟨Z,B,M,E,h⟩:=hh_;refine⟨Z,OO B M,E.o,?_⟩
 unfold aM at h
 cases q:fa Z with
 | bad=>rw[q]at h;exact h.elim
 | err c=>rw[q]at h;exact PostF.xa h
 | ok t=>
  rw[q,ax]at h;exact λH' s v r=>h v H' (SameO.of s) (r.less λ_ z=> .inl z)
def eE (f:En->Rs Bool)(F G:En->Rs Fl)(Z:En):Rs Fl:=do
 let k <-f Z
 if k then F Z else G Z
theorem DQ {f:En->Rs Bool}{A B:List Stmt}{F G:En->Rs Fl}(hc:rW X c f)(ha:k6 X A F)(hb:k6 X B G):mL X (.If c A B pos) (eE f F G):=PS.imp (Eb hc ha hb) λD σ H hh_=>by
 obtain⟨Z,B,M,E,h⟩:=hh_;refine⟨Z,OO B M,E.o,?_⟩
 unfold eE at h
 cases q:f Z with
 | bad=>rw[q]at h;exact h.elim
 | err c=>rw[q]at h;exact PostF.xa h
 | ok k=>
  rw[q,ax]at h;intro H' s
  have E':Ev X.K B M H' Z σ:=E.same s
  cases k with
  | true=>refine L2.iteT ?_;exact⟨Z,B,M,E',PostF.later (by simpa using h) (SameO.of s) λa z=> .inl z⟩
  | false=>refine L2.iteF ?_;exact⟨Z,B,M,E',PostF.later (by simpa using h) (SameO.of s) λa z=> .inl z⟩
def ce (f:En->Rs T)(g:T->En->Rs En)(Z:En):Rs Fl:=do
 let t <-f Z
 match g t Z with
 | .ok Z'=> .ok (.nx Z')
 | _=> .bad
theorem wE {B:Ow}{M:Mn}{Z:En}{σ:L2.St}{H:Hp}{D:pT}{g:T->En->Rs En}{f:En->Rs T}(E:Ev X.K B M H Z σ)(h:PostF X B M.u H (ce f g Z) D):wv (tP X f) (uX X g) D σ H:=by
 refine⟨Z,OO B M,E.o,?_⟩
 unfold ce at h
 cases q:f Z with
 | bad=>rw[q]at h;exact h.elim
 | err c=>rw[q]at h;exact PostF.xa h
 | ok t=>
  rw[q,ax]at h;intro H' s v r;refine⟨Z,OO B M,M,t,E.env.same s,r,?_⟩
  cases q2:g t Z with
  | bad=>rw[q2]at h;exact h.elim
  | err c=>rw[q2]at h;exact h.elim
  | ok Z'=>
   rw[q2]at h;exact λσ' E'=>h σ' H' M (SameO.of s) ⟨E',E.mine⟩ λa z=> .inl z
theorem zj {f:En->Rs T}{σ:L2.St}{H:Hp}{Q Q':VK}(h:tP X f σ H Q)(w:∀v H',Q v H'->Q' v H'):tP X f σ H Q':=by
 obtain⟨Z,O,E,q⟩:=h;exact⟨Z,O,E,Post.mono q λt H' _ z v r=>w v H' (z v r)⟩
theorem DP {elt tg iter:Expr}{ifs:List Expr}{scope:Scope}{spos py:Pos}{N':List Str}{src:List (Option Nat)}{fi:En->Rs (List T)}{tgt:T->En->Rs En}{fc:En->Rs Bool}{fe:En->Rs T}(i:Nat){y:Str}
  (hc:X.calm=true) (S:LcScope X scope N' src) (hi:vQ X tg iter fi)
  (block:∀cl C s₀ H₀ fp,yK (bn X scope cl N' C s₀ H₀ fp) tg tgt/\uO (bn X scope cl N' C s₀ H₀ fp) ifs (vV (bn X scope cl N' C s₀ H₀ fp) fc)/\cz (bn X scope cl N' C s₀ H₀ fp) elt fe)
  (hN:X.N.Nodup) (hiy:X.N[i]? =some y:=by rfl) (hy:Loc X.env.scope y:=by first | exact Or.inl rfl | exact Or.inr rfl) (hsw:swapsWith (.ListComp elt [⟨tg,iter,ifs,0⟩] scope pos) (some (.Name y py)) spos.line X.env=pure true:=by rfl)
  (hf:X.fn y=true\/X.env.scope.names.lookup y=some .local:=by first | exact .inl rfl | exact .inr rfl | assumption) (hs:∀x,foldedSetIterable iter X.env x=pure x:=by intro _;rfl) :
  mL X (.Assign [.Name y py] (.ListComp elt [⟨tg,iter,ifs,0⟩] scope pos) spos) (ce (dP fi src tgt fc fe) (gN i)):=by
 have hPG:∀cl C s₀ H₀ fp,PG (bn X scope cl N' C s₀ H₀ fp) tg (uX X tgt):=λcl C s₀ H₀ fp=>(block cl C s₀ H₀ fp).1
 have hPI:∀cl C s₀ H₀ fp,uO (bn X scope cl N' C s₀ H₀ fp) ifs (tPT0 X.K fc):=λcl C s₀ H₀ fp pins s σ H Q I h=>(block cl C s₀ H₀ fp).2.1 pins s σ H Q I (tPT0.up (X:=bn X scope cl N' C s₀ H₀ fp) h)
 have hPE:∀cl C s₀ H₀ fp,PE (bn X scope cl N' C s₀ H₀ fp) elt (tP0 X.K fe):=λcl C s₀ H₀ fp pins s σ H Q I h=>(block cl C s₀ H₀ fp).2.2 pins s σ H Q I (tP0.up (X:=bn X scope cl N' C s₀ H₀ fp) h)
 refine PS.imp (A7 (g:=uX X tgt) (tc:=tPT0 X.K fc) (te:=tP0 X.K fe) (i:=i) hc S hi (λcl C s₀ H₀ fp=>⟨hPG cl C s₀ H₀ fp,hPI cl C s₀ H₀ fp,hPE cl C s₀ H₀ fp⟩) hN hiy hy hsw hf hs) λD σ H ⟨Z,B,M,E,h⟩=>pq (zj (wE E h) λv H' z=> ?_)
 obtain⟨Z',O,M',t,E',r,q⟩:=z;unfold gN at q
 split at q
 ·rename_i Z2 e
  split at e
  ·rename_i hl
   cases e;exact q _ (E'.set hl r)
  ·cases e
 ·exact q.elim
theorem BX {tg:Expr}{g:T->En->Rs En}(ha:cz X a fa)(hg:yK X tg g)(hs:swapsWithSole [tg] a pos.line X.env=pure false:=by rfl)(hw:swappedStores [tg] a X.env=pure none:=by rfl)
  (h1:(assignEach [tg] X.env).map (·.2)= [assign tg X.env]:=by rfl):mL X (.Assign [tg] a pos) (ce fa g):=PS.imp (Cd ha hg hs hw h1) λD σ H ⟨Z,B,M,E,h⟩=>wE E h
def BE (f:En->Rs T)(Z:En):Rs Fl:=do
 let _ <-f Z
 .ok (.nx Z)
theorem zB (ha:cz X a fa)(hs:swapsWith a none pos.line X.env=pure false:=by rfl):mL X (.Expr a pos) (BE fa):=PS.imp (oN ha hs) λD σ H hh_=>by
 obtain⟨Z,B,M,E,h⟩:=hh_;refine⟨Z,OO B M,E.o,?_⟩
 unfold BE at h
 cases q:fa Z with
 | bad=>rw[q]at h;exact h.elim
 | err c=>rw[q]at h;exact PostF.xa h
 | ok t=>
  rw[q,ax]at h;exact λH' s v r=>h σ H' M (SameO.of s) (E.same s) λa z=> .inl z
def aW (g:T->En->Rs En)(F:En->Rs Fl):List T->En->Rs Fl
 | [],Z=> .ok (.nx Z)
 | t::r,Z=>do
  let Z1 <-g t Z
  let f <-F Z1
  match f with
  | .nx Z2=>aW g F r Z2
  | .ct Z2=>aW g F r Z2
  | .bk Z2=> .ok (.nx Z2)
  | .rt t=> .ok (.rt t)
def di (fi:En->Rs (List T))(g:T->En->Rs En)(F:En->Rs Fl)(Z:En):Rs Fl:=do
 let ts <-fi Z
 match aW g F ts Z with
 | .ok f=> .ok f
 | _=> .bad
theorem j6 {α:Type}{t:Sem α}{Q:α->Shared->Prop}{s:Shared}{E:Value->Shared->Prop}{P:Program}{w:World}{A:Around}(h:wpAny (model P w) A t Q (λ_ _=>False) s):wpAny (model P w) A t Q E s:=wpAny_mono h (λ_ _ q=>q) λ_ _ z=>z.elim
theorem zT {tg iter:Expr}{body:List Stmt}{wi:TI}{g:TG}{tb:TS}{pos:Pos}(hc:X.calm=true)(hi:PI X tg iter wi)(hg:PG X.nox tg g)(hb:PSs X.nox body tb)
  (hs:∀x,foldedSetIterable iter X.env x=pure x:=by intro _;rfl):PS X (.For tg iter body [] pos) (tFor wi g tb):=by
 intro pins s σ H D I h;refine wpAny_For (cv (hi pins s σ H _ I h) λv s1 h1=>cv h1 λitv s2 h2=> ?_) hs
 obtain⟨it,fp,tn,J,H2,e,I2,T,st2,f2,W,⟨m0,w0⟩,turn⟩:=h2;subst e
 have stat:∀{H':Hp},(∀b∈fp,H' b=none)->∀b∈fp,jp X pins H' b:=λhn b hb=>⟨hn b hb,(f2 b hb).2⟩
 refine codeAny_forLoop_any (λn s'=> ∃i σ' H',Inv X pins σ' H' s'/\tn i s'.heap/\(∀b∈fp,H' b=none)/\W i n σ' H') ?_ m0 ⟨0,σ,H2,I2,st2,λb hb=>(f2 b hb).1,w0⟩
 rintro n s3 ⟨i,σ3,H3,I3,st3,fr3,w3⟩
 rcases turn i n σ3 H3 w3 with⟨stop,qn⟩ | ⟨go,N,hN,step⟩
 ·refine j6 (cv (T.done X.nox rfl rfl rfl hc i pins s3 σ3 H3 _ (I3.wish _) (stat fr3) st3 stop) λr s4 ⟨hr,I4⟩=> ?_)
  subst hr;exact wpAny_execs_nil ⟨σ3,H3,I4.wish _,qn⟩
 ·refine j6 (cv (T.item X.nox rfl rfl rfl hc i pins s3 σ3 H3 _ (I3.wish _) (stat fr3) st3 go) λr s4 ⟨u,hr,h4⟩=> ?_)
  subst hr;refine j6 (cv h4 λ_ s5 hh_=> ?_)
  obtain⟨x,H5,I5,r5,y5,st5,fr5⟩:=hh_
  have I5':=Inv.pinned (X:=X.nox) I5 (stat fr5) (T.obj _ _ st5);refine j6 (cv (hg _ s5 σ3 H5 x u _ I5' r5 (step x H5 y5)) λ_ s6 hh_=> ?_)
  obtain⟨σ6,H6,I6,q6⟩:=hh_;refine j6 (cv (hb _ s6 σ6 H6 _ I6 q6) λf s7 q7=> ?_)
  have again:∀{σ7:L2.St} {H7:Hp},Inv X.nox (pins++lN fp s5.heap) σ7 H7 s7->N σ7 H7->∃m,m<n/\∃i σ' H',Inv X pins σ' H' s7/\tn i s7.heap/\(∀b∈fp,H' b=none)/\W i m σ' H':=λ{σ7 H7} I7 n7=>by
   obtain⟨m',hm,w7⟩:=hN σ7 H7 n7;refine⟨m',hm,i+1,σ7,H7,(Inv.unpinned (X:=X.nox) I7).wish _,T.keep _ _ _ st5 λb hb o e=>(I7.pin (b,o) (List.mem_append_right _ (List.mem_append_right _ (gD hb e)))).1,λb hb=> ?_,w7⟩
   obtain⟨o,e,d⟩:=T.obj _ _ st5 b hb;exact(I7.pin (b,o) (List.mem_append_right _ (List.mem_append_right _ (gD hb e)))).2.1
  cases f with
  | next=>obtain⟨σ7,H7,I7,n7⟩:=q7;exact again I7 n7
  | cont=>obtain⟨σ7,H7,I7,n7⟩:=q7;exact again I7 n7
  | brk=>obtain⟨σ7,H7,I7,q7⟩:=q7;exact⟨σ7,H7,(Inv.unpinned (X:=X.nox) I7).wish _,q7⟩
  | ret v=>obtain⟨x7,σ7,H7,I7,r7,q7⟩:=q7;exact⟨x7,σ7,H7,(Inv.unpinned (X:=X.nox) I7).wish _,r7,q7⟩
theorem BU {tg iter:Expr}{body:List Stmt}{fi:En->Rs (List T)}{g:T->En->Rs En}{F:En->Rs Fl}(hc:X.calm=true)(hi:vQ X tg iter fi)(hg:yK X.nox tg g)(hb:k6 X.nox body F)
  (hs:∀x,foldedSetIterable iter X.env x=pure x:=by intro _;rfl):mL X (.For tg iter body [] pos) (di fi g F):=PS.imp (zT hc hi hg hb hs) λD σ H hh_=>by
 obtain⟨Z,B,M,E,h⟩:=hh_;refine⟨Z,OO B M,E.o,?_⟩
 unfold di at h
 cases q:fi Z with
 | bad=>rw[q]at h;exact h.elim
 | err c=>rw[q]at h;exact PostF.xa h
 | ok ts=>
  rw[q,ax]at h
  cases qq:aW g F ts Z with
  | bad=>rw[qq]at h;exact h.elim
  | err c=>rw[qq]at h;exact h.elim
  | ok fin=>
  rw[qq]at h;intro H1 s1 J hJ
  have E1:Ev X.K B M H1 Z σ:=E.same s1
  have h1:PostF X B M.u H1 (.ok fin) D:=PostF.later h (SameO.of s1) λa z=> .inl z
  refine⟨λi m σ' H'=>m=ts.length - i/\i<=ts.length/\SameO M.u H1 H'/\∃Z' M',Ev X.K B M' H' Z' σ'/\(∀a,M'.u a->M.u a\/Nw X.K H1 a)/\aW g F (ts.drop i) Z'= .ok fin,
   ⟨ts.length,by omega,Nat.zero_le _,λ_ _ e _=>e,Z,M,E1,λa z=> .inl z,by simpa using qq⟩,?_⟩
  rintro i m σ' H' ⟨rfl,hi',sm,Z',M',E',ow,hl⟩
  have it:=hJ M.u (OO B M') (λa z=> .inl (.inr z)) (λa z=>z.elim (λw=> .inl (.inl w)) λw=>(ow a w).elim (λy=> .inl (.inr y)) .inr) i H' sm (λa z=>(E'.env.trk a z).some)
  by_cases hlt:i<ts.length
  ·have hti:ts[i]? =some ts[i]:=by simp
   obtain⟨go,yl⟩:=it.2 ts[i] hti;rw[List.drop_eq_getElem_cons hlt]at hl;unfold aW at hl;refine .inr ⟨go,λσ2 H2=> ∃m',m'<ts.length - i/\(m'=ts.length - (i+1)/\i+1<=ts.length/\SameO M.u H1 H2/\∃Z2 M2,Ev X.K B M2 H2 Z2 σ2/\(∀a,M2.u a->M.u a\/Nw X.K H1 a)/\aW g F (ts.drop (i+1)) Z2= .ok fin),λσ2 H2 z=>z,λx Hc y=> ?_⟩
   obtain⟨sc,rx⟩:=yl x Hc y;refine⟨Z',OO B M',M',ts[i],E'.env.same sc,rx,?_⟩
   cases e1:g ts[i] Z' with
   | bad=>rw[e1]at hl;cases hl
   | err cc=>rw[e1]at hl;cases hl
   | ok Z1=>
    rw[e1,ax]at hl;intro σ1 Eg
    have E2:Ev X.K B M' Hc Z1 σ1:=⟨Eg,E'.mine⟩;refine⟨Z1,B,M',E2,?_⟩
    have smc:SameO M.u H1 Hc:=λb o e n=>sc _ _ (sm b o e n)
    have onward:∀{σ3:L2.St} {H3:Hp} {Z3:En} {M3:Mn},SameO M'.u Hc H3->Ev X.K B M3 H3 Z3 σ3->(∀a,M3.u a->M'.u a\/Nw X.K Hc a)->aW g F (ts.drop (i+1)) Z3= .ok fin →
      ∃m',m'<ts.length - i/\(m'=ts.length - (i+1)/\i+1<=ts.length/\SameO M.u H1 H3/\∃Z2 M2,Ev X.K B M2 H3 Z2 σ3/\(∀a,M2.u a->M.u a\/Nw X.K H1 a)/\aW g F (ts.drop (i+1)) Z2= .ok fin):=
     λ{σ3 H3 Z3 M3} s3 E3 o3 p3=>⟨_,by omega,rfl,hlt,smc.trans s3 ow,Z3,M3,E3,λa z=>(o3 a z).elim (ow a) (gB smc),p3⟩
    cases e2:F Z1 with
    | bad=>rw[e2]at hl;cases hl
    | err cc=>rw[e2]at hl;cases hl
    | ok f=>
     rw[e2,ax]at hl
     cases f with
     | nx Z2=>exact λσ3 H3 M3 s3 E3 o3=>onward s3 E3 o3 hl
     | ct Z2=>exact λσ3 H3 M3 s3 E3 o3=>onward s3 E3 o3 hl
     | bk Z2=>
      cases hl
      exact λσ3 H3 M3 s3 E3 o3=>h1 σ3 H3 M3 (smc.trans s3 ow) E3 λa z=>(o3 a z).elim (ow a) (gB smc)
     | rt t=>
      cases hl;exact λv H3 s3 r=>h1 v H3 (smc.trans s3 ow) r
  ·refine .inl ⟨it.1 (by omega),?_⟩
   have hi2:i=ts.length:=by omega
   subst hi2;rw[List.drop_length]at hl;cases hl;exact h1 σ' H' M' sm E' ow
def bz (c:En->Rs Bool)(F:En->Rs Fl):Nat->En->Rs Fl
 | 0,_=> .bad
 | n+1,Z=>match c Z with
  | .ok false=> .ok (.nx Z)
  | .ok true=>match F Z with
   | .ok (.nx Z')=>bz c F n Z'
   | .ok (.ct Z')=>bz c F n Z'
   | .ok (.bk Z')=> .ok (.nx Z')
   | .ok (.rt t)=> .ok (.rt t)
   | _=> .bad
  | _=> .bad
theorem wJ {c:Expr}{body:List Stmt}{fc:En->Rs Bool}{F:En->Rs Fl}(n:Nat)(hc:rW X.nox c fc)(hb:k6 X.nox body F):mL X (.While c body [] pos) (bz fc F n):=by
 have base:PS X.nox (.While c body [] pos) (r8 (vV X.nox fc) (Fb X.nox F)):=wS PassesOwn.never hc hb;intro pins s σ H D I ⟨Z,B,M,E,h⟩
 cases qq:bz fc F n Z with
 | bad=>rw[qq]at h;exact h.elim
 | err c=>
  exfalso
  have:∀n Z,bz fc F n Z≠ .err c:=by
   intro n
   induction n with
   | zero=>intro Z z;cases z
   | succ n ih=>
    intro Z z;unfold bz at z
    split at z
    ·cases z
    ·split at z <;> first | exact ih _ z | cases z
    ·cases z
  exact this n Z qq
 | ok fin=>
  rw[qq]at h
  have goal:r8 (vV X.nox fc) (Fb X.nox F) D σ H:=by
   refine⟨λm σ' H'=>SameO M.u H H'/\∃Z' M',Ev X.K B M' H' Z' σ'/\(∀a,M'.u a->M.u a\/Nw X.K H a)/\bz fc F m Z'= .ok fin,⟨n,λ_ _ e _=>e,Z,M,E,λa z=> .inl z,qq⟩,?_⟩
   rintro m σ' H' ⟨sm,Z',M',E',ow,hl⟩
   cases m with
   | zero=>cases hl
   | succ m=>
    refine⟨Z',OO B M',E'.o,?_⟩
    unfold bz at hl
    cases e1:fc Z' with
    | bad=>rw[e1]at hl;cases hl
    | err cc=>rw[e1]at hl;cases hl
    | ok k=>
     rw[e1]at hl;intro H2 s2
     have E2:Ev X.K B M' H2 Z' σ':=E'.same s2
     have sm2:SameO M.u H H2:=λb o e n=>s2 _ _ (sm b o e n)
     cases k with
     | false=>
      cases hl;refine L2.iteF ?_
      exact h σ' H2 M' sm2 E2 ow
     | true=>
      refine L2.iteT ?_
      refine⟨λσ3 H3=>SameO M.u H H3/\∃Z3 M3,Ev X.K B M3 H3 Z3 σ3/\(∀a,M3.u a->M.u a\/Nw X.K H a)/\bz fc F m Z3= .ok fin,λσ3 H3 z=>⟨m,Nat.lt_succ_self m,z⟩,Z',B,M',E2,?_⟩
      have hl':(match F Z' with | .ok (.nx Z')=>bz fc F m Z' | .ok (.ct Z')=>bz fc F m Z' | .ok (.bk Z')=> .ok (.nx Z') | .ok (.rt t)=> .ok (.rt t) | _=> .bad)= .ok fin:=hl
      cases e2:F Z' with
      | bad=>rw[e2]at hl';cases hl'
      | err cc=>rw[e2]at hl';cases hl'
      | ok f=>
       rw[e2]at hl'
       cases f with
       | nx Z2=>exact λσ3 H3 M3 s3 E3 o3=>⟨sm2.trans s3 ow,Z2,M3,E3,λa z=>(o3 a z).elim (ow a) (gB sm2),hl'⟩
       | ct Z2=>exact λσ3 H3 M3 s3 E3 o3=>⟨sm2.trans s3 ow,Z2,M3,E3,λa z=>(o3 a z).elim (ow a) (gB sm2),hl'⟩
       | bk Z2=>
        cases hl'
        exact λσ3 H3 M3 s3 E3 o3=>h σ3 H3 M3 (sm2.trans s3 ow) E3 λa z=>(o3 a z).elim (ow a) (gB sm2)
       | rt t=>
        cases hl';exact λv H3 s3 r=>h v H3 (sm2.trans s3 ow) r
  refine j6 (cv (base pins s σ H D (I.wish _) goal) λf s' q=> ?_)
  cases f with
  | next=>obtain⟨σ7,H7,I7,n7⟩:=q;exact⟨σ7,H7,I7.wish _,n7⟩
  | cont=>obtain⟨σ7,H7,I7,n7⟩:=q;exact⟨σ7,H7,I7.wish _,n7⟩
  | brk=>obtain⟨σ7,H7,I7,n7⟩:=q;exact⟨σ7,H7,I7.wish _,n7⟩
  | ret v=>obtain⟨x7,σ7,H7,I7,r7,q7⟩:=q;exact⟨x7,σ7,H7,I7.wish _,r7,q7⟩
def A5 (Z:En):Rs Fl:=.ok (.ct Z)
end
def bv (F:En->Rs Fl)(Z:En):Rs T:=do
 let f <-F Z
 match f with
 | .nx _=> .ok .non
 | .rt t=> .ok t
 | _=> .bad
def aN (n:Nat)(ts:List T):En:=ts.map Sl.va++List.replicate (n - ts.length) Sl.em
theorem uY {n:Nat}{ts:List T}{i:Nat}{o:OT}(e:(aN n ts)[i]? =some (.ow o)):False:=by
 unfold aN at e
 by_cases hi:i<ts.length
 ·rw[List.getElem?_append_left (by simpa using hi),List.getElem?_map,List.getElem?_eq_getElem hi]at e
  cases e
 ·rw[List.getElem?_append_right (by simpa using hi),List.getElem?_replicate]at e
  split at e <;> cases e
theorem nj {K:PySem.W.Frag}{O:Ow}{H:Hp}{N:List Str}{ts:List T}{vs:List V}(r:Reps K O H ts vs)(hl:ts.length<=N.length)(trk:∀a,O a->Mtb H a):Ev K O noM H (aN N.length ts) (start N vs):=by
 have hlen:=r.length
 have sub:∀a,OO O noM a->O a:=λa z=>z.elim id λ⟨_,w⟩=>w.elim
 refine⟨⟨by unfold aN L2.start;simp;omega,λi t e=> ?_,λi o e=>(uY e).elim,λ_ _ z=>z.elim,λ_ _ _ z=>z.elim,λa z=>trk a (sub a z)⟩,λa ⟨_,z⟩=>z.elim⟩
 unfold aN at e;unfold L2.start
 by_cases hi:i<ts.length
 ·rw[List.getElem?_append_left (by simpa using hi),List.getElem?_map,List.getElem?_eq_getElem hi]at e
  have e':ts[i] =t:=by injection e with e;injection e
  obtain⟨v,e1,e2⟩:=r.get (i:=i) (t:=t) (by rw[<-e'];simp)
  refine⟨v,?_,e2.less sub⟩
  rw[List.getElem?_append_left (by simp;omega),List.getElem?_map,e1];rfl
 ·rw[List.getElem?_append_right (by simpa using hi),List.getElem?_replicate]at e
  split at e <;> cases e
section
variable {P:Program}{w:World}{K:PySem.W.Frag}{mg:Str->Option Value}{base:Heap}
theorem EJ {x qual:Str}{st:Stmt}{f:Addr}{fd:FuncData}{N ps:List Str}{k n:Nat}{g:List T->Rs T}(Fn:L2.Fun K x qual st f fd)(S:aG N ps (aj st))(hn:ps.length=n)
  (hbody:∀(cdv:Value) (A:Around) (outer:List Env) (s:Shared) (H:Hp) (E:XK),Room k (A.deeper (envOfC qual (aj st) s.heap.objs.size f cdv)) →
   ∃F,k6 (kr CX0 P w K mg base N qual (aj st) f cdv A outer s H E).nox (dt st) F/\∀ts,ts.length=n->∀t,g ts= .ok t->bv F (aN N.length ts)= .ok t):pP P w K mg base CX0 (k+1) f fd ps (spP K n g):=by
 have hpl:ps.length<=N.length:=by have:=congrArg List.length S.pre;rw[List.length_take]at this;omega
 refine Fn.ok S (λvs H Q E h=> ?_) (λcdv A outer s H vs Q E hr h=> ?_)
 ·obtain⟨ts,O,r,_,hl,_⟩:=h
  rw[<-r.length,hl,hn]
 ·obtain⟨ts,O,r,trk,hl,h⟩:=h
  obtain⟨F,hF,hv⟩:=hbody cdv A outer s H E hr;refine⟨_,hF,aN N.length ts,O,noM,nj r (by omega) trk,?_⟩
  have no:∀a,¬noM.u a:=λa ⟨_,z⟩=>z
  cases q:g ts with
  | bad=>rw[q]at h;exact h.elim
  | err c=>rw[q]at h;exact h.elim
  | ok t=>
   rw[q]at h
   have hb:=hv ts hl t q;unfold bv at hb
   cases q2:F (aN N.length ts)with
   | bad=>rw[q2]at hb;cases hb
   | err c=>rw[q2]at hb;cases hb
   | ok fl=>
    rw[q2,ax]at hb
    have sameOf:∀H',SameO noM.u H H'->Same H H':=λH' s b o e=>s b o e (no b)
    cases fl with
    | nx Z'=>cases hb;exact λσ' H' M' s' E' o'=>h .non H' (sameOf H' s') Rep.non_
    | rt t'=>cases hb;exact λv H' s' r'=>h v H' (sameOf H' s') r'
    | bk Z'=>cases hb
    | ct Z'=>cases hb
end
end Tr
namespace Enu
open PySem
open AutoSeq1 (wpAny_loadPart')
section
variable {prog:Program}{w:World}{A:Around}{E:Value->Shared->Prop}{s:Shared}
theorem tupNext {it tt:Addr}{k:Nat}{its:Array Value}{x:Value}{Q:Value->Shared->Prop}(hi:s.heap.IsTupleIter it tt k)(ht:s.heap.IsTuple tt its)(hx:its[k]? =some x)
  (hQ:∀h',h'.IsTupleIter it tt (k+1)->Heap.SameBut it s.heap h'->Q x { s with heap:=h' }):wpAny (model prog w) A (Builtin.SmallTypes.nextOf (.ref it)) Q E s:=by
 obtain⟨ob,g1,g2,g3⟩:=id hi;obtain⟨ot,k1,_,m,k3⟩:=ht;unfold Builtin.SmallTypes.nextOf;refine wpAny_bind (wpAny_callSpecial?_slot (name:=Str.ofString "__next__") hi.typeIs F.slot_tuple_iterator_next (wpAny_call_entry F.slot_tuple_iterator_next hi.typeIs F.entry_tuple_iterator_next ?_ (F.args_tuple_iterator_next_1 _)))
 show wpAny (model prog w) _ (field (.ref it) 0 >>= _) _ _ s
 refine wpAny_bind (wpAny_field g1 g3 (x:=.ref tt) rfl ?_)
 show wpAny (model prog w) _ (if (Value.ref tt == Value.none)=true then _ else _) _ _ s
 rw[if_neg (show ¬((Value.ref tt == Value.none)=true)by exact Bool.false_ne_true)]
 show wpAny (model prog w) _ (field (.ref it) 1 >>= _) _ _ s
 refine wpAny_bind (wpAny_field g1 g3 (x:=.int k 0) rfl ?_)
 show wpAny (model prog w) _ (seqItems? (.ref tt) >>= _) _ _ s
 refine wpAny_bind (wpAny_seqItems k1 k3 ?_)
 simp only[hx,Int.toNat_natCast];refine wpAny_bind (wpAny_setField g1 g3 (by simp) (wpAny_pure ⟨x,rfl,wpAny_pure (hQ _ ?_ (Heap.SameBut.update ..))⟩))
 refine⟨_,Heap.get?_update_self _ g1 (Obj.isFreed_of_fields (Obj.data_mapFields g3 _)),(Obj.cls_mapFields ..).trans g2,?_⟩
 rw[Obj.data_mapFields g3];simp[rawInt]
theorem tupStop {it tt:Addr}{k:Nat}{its:Array Value}{Q:Value->Shared->Prop}(hh:A.handled=none)(hi:s.heap.IsTupleIter it tt k)(ht:s.heap.IsTuple tt its)(hx:its[k]? =none)
  (hE:∀h' e,Heap.ExtBut it s.heap h'->(∃o,h'.get? e=some o/\o.cls= .type "StopIteration")->E (.ref e) { s with heap:=h' }):wpAny (model prog w) A (Builtin.SmallTypes.nextOf (.ref it)) Q E s:=by
 obtain⟨ob,g1,g2,g3⟩:=id hi;obtain⟨ot,k1,_,m,k3⟩:=ht;unfold Builtin.SmallTypes.nextOf;refine wpAny_bind (wpAny_callSpecial?_slot (name:=Str.ofString "__next__") hi.typeIs F.slot_tuple_iterator_next (wpAny_call_entry F.slot_tuple_iterator_next hi.typeIs F.entry_tuple_iterator_next ?_ (F.args_tuple_iterator_next_1 _)))
 show wpAny (model prog w) _ (field (.ref it) 0 >>= _) _ _ s
 refine wpAny_bind (wpAny_field g1 g3 (x:=.ref tt) rfl ?_)
 show wpAny (model prog w) _ (if (Value.ref tt == Value.none)=true then _ else _) _ _ s
 rw[if_neg (show ¬((Value.ref tt == Value.none)=true)by exact Bool.false_ne_true)]
 show wpAny (model prog w) _ (field (.ref it) 1 >>= _) _ _ s
 refine wpAny_bind (wpAny_field g1 g3 (x:=.int k 0) rfl ?_)
 show wpAny (model prog w) _ (seqItems? (.ref tt) >>= _) _ _ s
 refine wpAny_bind (wpAny_seqItems k1 k3 ?_)
 simp only[hx,Int.toNat_natCast];refine wpAny_bind (wpAny_rule (wpAny_bind (wpAny_setField g1 g3 (by simp) ?_)))
 show wpAny (model prog w) _ (newExc (.type "StopIteration") [] >>= _) _ _ _
 refine wpAny_bind ?_
 simp only[newTuple,newExc];refine wpAny_bind (wpAny_newObj_type ?_ (by size_fits))
 refine wpAny_bind (m:=firstArgMember _ _) (wpAny_of_eq (a:=Value.none) (by first | (simp only[firstArgMember];rfl) | rfl) ?_)
 refine wpAny_newObj_type ?_ (by size_fits)
 simp only[raiseNew];refine wpAny_bind (wpAny_handled ?_)
 first | rw[hh] | rw[show A.in1.handled=none from hh]
 refine wpAny_bind (wpAny_pure (wpAny_throw ?_))
 refine hE _ _ (((Heap.SameBut.update ..).extBut.push _).push _) ⟨_,Heap.get?_push_size _ rfl,rfl⟩
end
theorem tupDraws {prog:Program}{w:World}{A:Around}(hh:A.handled=none)(it tt:Addr)(hne:tt≠it)(its:Array Value) :
  Draws prog w A it [it,tt] its.size (λi v=>its[i]? =some v) (λi h=>h.IsTupleIter it tt i/\h.IsTuple tt its) where
 live:=λ_ _ st=>by obtain⟨o,ho,_⟩:=st.1;exact⟨o,ho⟩
 frame:=λ_ _ _ st hk=>by
  obtain⟨⟨o,e,r⟩,⟨o',e',r'⟩⟩:=st;exact⟨⟨o,hk it (by simp) o e,r⟩,⟨o',hk tt (by simp) o' e',r'⟩⟩
 item:=λi s Q E hi st hQ=>by
  refine tupNext st.1 st.2 (x:=its[i]) (by simp[hi]) λh' hit' hs'=> ?_
  obtain⟨o',e',r'⟩:=st.2;exact hQ _ h' s.toks (by simp[hi]) ⟨hit',⟨o',(hs'.2 tt hne).trans e',r'⟩⟩ hs'
 done:=λs Q E st hE=>tupStop hh st.1 st.2 (by simp) hE
theorem newT (l:Addr)(items:Array Value)(n:Nat)(dct:Option Addr)(sl:Array (Option Value)) :
  Meets (Builtin.«enumerate.__new__» ⟨[.type "enumerate",.ref l],[]⟩) (λ_ R s=>s.heap.get? l=some { cls:=.type "tuple",dict:=dct,data:=.seq items n,slots:=sl } ∧
   R (.ok (.ret (.ref (s.heap.push { cls:=.type "tuple_iterator",data:=.fields #[.ref l,.int 0 0] }).objs.size)))
    { s with heap:=(s.heap.push { cls:=.type "tuple_iterator",data:=.fields #[.ref l,.int 0 0] }).push { cls:=.type "enumerate",data:=.fields #[.none,.bool false,.ref s.heap.objs.size,rawInt 0,.none,.none] } }):=
 .of_wp λprog w A R s h=>by
  obtain⟨hp,g,d,tk,os⟩:=s;obtain⟨hl,h⟩:=h
  have hsub:=sub_enumerate
  have hT:Heap.IsTuple (Shared.heap ⟨hp,g,d,tk,os⟩) l items:=⟨_,hl,rfl,n,rfl⟩
  wp_walk using wpAny_loadPart' hl
  refine wpAny_stack_any λst=>wpAny_pure ?_
  split
  ·rename_i c _ _ _ _ _
   cases (c == Value.type "enumerate")
   ·wp_walk using wpAny_loadPart' hl,wpAny_pyIter_tuple hT
    exact⟨_,rfl,h⟩
   ·wp_walk using wpAny_loadPart' hl,wpAny_pyIter_tuple hT
    exact⟨_,rfl,h⟩
  ·wp_walk using wpAny_loadPart' hl,wpAny_pyIter_tuple hT
   exact⟨_,rfl,h⟩
theorem callT {prog:Program}{w:World}{A:Around}{E:Value->Shared->Prop}{s:Shared}{l:Addr}{items:Array Value}{Q:Value->Shared->Prop}(hL:s.heap.IsTuple l items)
  (h:∀h',IsEnum h' (s.heap.objs.size+1) s.heap.objs.size 0 .none->h'.IsTupleIter s.heap.objs.size l 0->h'.objs.size=s.heap.objs.size+2 →
   (∀b o,s.heap.get? b=some o->h'.get? b=some o)->Q (.ref (s.heap.objs.size+1)) { s with heap:=h' }):wpAny (model prog w) A (call (.type "enumerate") [.ref l]) Q E s:=by
 obtain⟨⟨cc,dc,dd,ss⟩,hl,hc,n,hd⟩:=hL
 replace hc:cc= .type "tuple":=hc
 replace hd:dd= .seq items n:=hd
 subst hc hd;refine callType_new F.called_enumerate (by decide) (F.typeCall_enumerate_1 _) (F.newCall_enumerate_1 _) (λobj=>F.args_object_init_2 obj _) F.entry_enumerate_new (newT l items n dc ss) ⟨hl,?_⟩
 have hz:(s.heap.push { cls:=.type "tuple_iterator",data:=.fields #[.ref l,.int 0 0] }).objs.size=s.heap.objs.size+1:=Heap.size_push ..
 show _/\_
 rw[hz]
 have he:IsEnum ((s.heap.push { cls:=.type "tuple_iterator",data:=.fields #[.ref l,.int 0 0] }).push
   { cls:=.type "enumerate",data:=.fields #[.none,.bool false,.ref s.heap.objs.size,rawInt 0,.none,.none] }) (s.heap.objs.size+1) s.heap.objs.size 0 .none:=by
  have q:=Heap.get?_push_size (s.heap.push { cls:=.type "tuple_iterator",data:=.fields #[.ref l,.int 0 0] })
   (o:={ cls:=.type "enumerate",data:=.fields #[.none,.bool false,.ref s.heap.objs.size,rawInt 0,.none,.none] }) rfl
  rw[hz]at q;exact q
 refine⟨⟨_,he,rfl⟩,h _ he ⟨_,Heap.get?_push_of_some _ (Heap.get?_push_size _ rfl),rfl,rfl⟩ (by rw[Heap.size_push,hz]) λb o x=>Heap.get?_push_of_some _ (Heap.get?_push_of_some _ x)⟩
end Enu
namespace L2
open PySem PySem.Spec PyProof.Rows
section
variable {X:Cx}{pins:List (Addr×Obj)}{σ:L2.St}{H:Hp}{s:Shared}{h':Heap}
theorem Inv.turnedT {t':Nat}{fp:List Addr}{Tp:Addr}{xs:List V}(I:Inv X pins σ H s)(hf:∀b∈fp,jp X pins H b)(k:∀b o,b∉fp->s.heap.get? b=some o->h'.get? b=some o)
  (ht:∀b∈fp,∃o,h'.get? b=some o) (hT:s.heap.objs.size<=Tp) (new:ObjOk X.prog X.w (upd H Tp (.tup xs)) h' Tp (.tup xs)):Inv X pins σ (upd H Tp (.tup xs)) { s with heap:=h',toks:=t' }:=by
 have hn:H Tp=none:=I.hok.fresh hT
 have k9:∀b o,s.heap.get? b=some o->b≠Tp:=λb o e=>Nat.ne_of_lt (Nat.lt_of_lt_of_le (Heap.lt_size e) hT)
 have nf:∀b u,H b=some u->b∉fp:=λb u e z=>by rw[(hf b z).1]at e;cases e
 refine I.step (g':=s.gens) (d':=s.drawn) (ch:=fp) (λb hb=>⟨(hf b hb).2.2.2.1,(hf b hb).2.1,(hf b hb).2.2.2.2.1,(hf b hb).2.2.2.2.2⟩) (λb o _ _ hc e _=>k b o hc e) (λb o _ _ hc e _=>⟨o.slots,k b o hc e⟩)
  (λb o _ e n=>by rw[ay (k9 b o e)];exact n) (λb o hc e=>⟨o,k b o hc e⟩) (λb ys e=>by rw[ay (bO e hn)];exact e) (λb o u e=>by rw[ay (bO e hn)];exact e)
  (λb ps e=>⟨#[],by rw[ay (bO e hn),e];simp⟩) (λm hm=> ?_) (λb u e=> ?_) I.bare
 ·obtain⟨o,es,ep,ho,r⟩:=hm
  exact⟨o,es,ep,k _ o (λz=>(hf _ z).2.1 rfl) ho,r⟩
 ·by_cases hb:b=Tp
  ·subst hb;rw[aA]at e;cases e;exact new
  ·rw[ay hb]at e
   refine(I.hok b u e).stay (λc v hc q=>k c v ?_ q) (λc q=>by rw[ay (bO q hn)];exact q) λc ys q=>by rw[ay (bO q hn)];exact q
   rcases hc with z | z
   ·rw[z];exact nf b u e
   ·exact nf c _ z
theorem Inv.turnedL {t':Nat}{fp:List Addr}(I:Inv X pins σ H s)(hf:∀b∈fp,jp X pins H b)(k:∀b o,b∉fp->s.heap.get? b=some o->h'.get? b=some o):Inv X pins σ H { s with heap:=h',toks:=t' }:=by
 have nf:∀b u,H b=some u->b∉fp:=λb u e z=>by rw[(hf b z).1]at e;cases e
 refine I.step (g':=s.gens) (d':=s.drawn) (ch:=fp) (λb hb=>⟨(hf b hb).2.2.2.1,(hf b hb).2.1,(hf b hb).2.2.2.2.1,(hf b hb).2.2.2.2.2⟩) (λb o _ _ hc e _=>k b o hc e) (λb o _ _ hc e _=>⟨o.slots,k b o hc e⟩)
  (λb o _ e n=>n) (λb o hc e=>⟨o,k b o hc e⟩) (λb ys e=>e) (λb o u e=>e)
  (λb ps e=>⟨#[],by rw[e];simp⟩) (λm hm=> ?_) (λb u e=> ?_) I.bare
 ·obtain⟨o,es,ep,ho,r⟩:=hm
  exact⟨o,es,ep,k _ o (λz=>(hf _ z).2.1 rfl) ho,r⟩
 ·refine(I.hok b u e).stay (λc v hc q=>k c v ?_ q) (λc q=>q) λc ys q=>q
  rcases hc with z | z
  ·rw[z];exact nf b u e
  ·exact nf c _ z
end
def mK (K:PySem.W.Frag)(H:Hp)(a:Addr)(tt:Bool)(xs:List V):Prop:=if tt then SqT K H a xs else SqL K H a xs
def Fm (K:PySem.W.Frag)(a:Addr)(tt:Bool):It:=
 ⟨λi H=> ∃xs x,mK K H a tt xs/\xs[i]? =some x,λi H x H'=> ∃p v,x= .ref p/\H p=none/\H'=upd H p (.tup [.int (i:Nat),v])/\∀xs,mK K H a tt xs->xs[i]? =some v,λi H=> ∃xs,mK K H a tt xs/\xs.length<=i⟩
def itAt (tt:Bool)(h:Heap)(it a:Addr)(i:Nat):Prop:=if tt then h.IsTupleIter it a i else h.IsListIter it a i
theorem itAt.obj {tt:Bool}{h:Heap}{it a:Addr}{i:Nat}(st:itAt tt h it a i):∃o,h.get? it=some o/\∀v,o.data≠ .cell v:=by
 cases tt with
 | true=>obtain⟨o,e,c,d⟩:=(show h.IsTupleIter it a i from st);exact⟨o,e,λv z=>by rw[d]at z;cases z⟩
 | false=>obtain⟨o,e,c,d⟩:=(show h.IsListIter it a i from st);exact⟨o,e,λv z=>by rw[d]at z;cases z⟩
theorem itAt.keep {tt:Bool}{h h':Heap}{it a:Addr}{i:Nat}(st:itAt tt h it a i)(k:∀o,h.get? it=some o->h'.get? it=some o):itAt tt h' it a i:=by
 cases tt with
 | true=>obtain⟨o,e,r⟩:=(show h.IsTupleIter it a i from st);exact(show h'.IsTupleIter it a i from⟨o,k o e,r⟩)
 | false=>obtain⟨o,e,r⟩:=(show h.IsListIter it a i from st);exact(show h'.IsListIter it a i from⟨o,k o e,r⟩)
theorem uV {P:Program}{w:World}{K:PySem.W.Frag}{elts:List Expr}{kk:Nat}{pos:Pos}(tt:Bool)(a e it:Addr)(hei:e≠it) :
  tf P w K (.Tuple elts kk pos) (Fm K a tt) [e,it] e (λi h=>(∃old,IsEnum h e it i old)/\itAt tt h it a i) where
 mem:=by simp
 obj:=λi h st b hb=>by
  obtain⟨⟨old,he⟩,hi⟩:=st;rcases List.mem_cons.mp hb with rfl | hb
  ·exact⟨_,he,λv z=>by have z':Data.fields _=Data.cell v:=z;cases z'⟩
  ·rw[List.mem_singleton.mp hb];exact hi.obj
 keep:=λi h h' st k=>by
  obtain⟨⟨old,he⟩,hi⟩:=st;exact⟨⟨old,k e (by simp) _ he⟩,hi.keep λo q=>k it (by simp) o q⟩
 item:=by
  intro X hP hw hK hc i pins s σ H E I hf st hg;subst hP hw hK;obtain⟨xs,x,hq,hx⟩:=hg;obtain⟨⟨old,he⟩,hi⟩:=st
  -- by what is walked
  have key:∀(its:List Value),Vals xs its->(∀ys,mK X.K H a tt ys->ys=xs)->∀(fp0:List Addr) (St:Nat->Heap->Prop),Draws X.prog X.w X.A.in1 it fp0 its.toArray.size (λi v=>its.toArray[i]? =some v) St->e∉fp0->it∈fp0->St i s.heap →
    (∀h',St (i+1) h'->itAt tt h' it a (i+1)) →
    wpAny (model X.prog X.w) X.A (pyNext (.ref e)) (λr s1=> ∃u,r=some u/\wpAny (model X.prog X.w) X.A (letOwnedTupleGo (.Tuple elts kk pos) (.ref e) u) (λ_ s2=> ∃x' H',Inv X pins σ H' s2/\RelV x' u/\(Fm X.K a tt).yld i H x' H' ∧
     ((∃old,IsEnum s2.heap e it (i+1:Nat) old)/\itAt tt s2.heap it a (i+1))/\∀b∈ [e,it],H' b=none) E s1) E s:=by
   intro its rv uniq fp0 St D hef hif hst hnext;obtain⟨u,hu,ru⟩:=rv.get hx
   have hlt:i<its.toArray.size:=by
    have:=(List.getElem?_eq_some_iff.mp hu).1
    simpa using this
   have W:=WalksT.enumerateD D e hei hef hif;refine W.item i s _ _ hlt ⟨⟨old,he⟩,hst⟩ λTp vals h1 tk hPt hTsz hTup hMid hk=>⟨.ref Tp,rfl,?_⟩
   refine W.go elts kk pos i Tp { s with heap:=h1,toks:=tk } _ _ hMid λh2 hst2 hk2=> ?_
   obtain⟨t,x',hPx,hvals⟩:=hPt;subst hvals
   have hxe:x'=u:=by
    have h1':its.toArray[i]? =some x':=hPx
    have h2':its.toArray[i]? =some u:=by simpa using hu
    rw[h1']at h2';exact Option.some.inj h2'
   subst hxe
   have hTw:=W.apart i Tp h1 hMid;obtain⟨oT,eT,rT⟩:=hTup
   have eT2:h2.get? Tp=some oT:=hk2 Tp oT hTw eT
   have kAll:∀b o,b∉ [e,it]->s.heap.get? b=some o->h2.get? b=some o:=λb o hb q=>hk2 b o hb (hk b o hb q)
   obtain⟨⟨old2,he2⟩,hs2⟩:=hst2
   have hit2:=hnext h2 hs2
   have there:∀b∈ [e,it],∃o,h2.get? b=some o:=λb hb=>by
    rcases List.mem_cons.mp hb with rfl | hb
    ·exact⟨_,he2⟩
    ·rw[List.mem_singleton.mp hb];obtain⟨o,q,_⟩:=hit2.obj;exact⟨o,q⟩
   have hn:H Tp=none:=I.hok.fresh hTsz
   have new:ObjOk X.prog X.w (upd H Tp (.tup [.int (i:Nat),x])) h2 Tp (.tup [.int (i:Nat),x]):=
    ⟨by show 2<=sizeLine;decide,[.int (i:Nat) t,x'],.cons ⟨t,rfl⟩ (.cons ru .nil),⟨oT,eT2,rT⟩⟩
   have I2:=I.turnedT (t':=tk) hf kAll there hTsz new;refine⟨.ref Tp,_,I2,rfl,⟨Tp,x,rfl,hn,rfl,λys hy=>by rw[uniq ys hy];exact hx⟩,⟨⟨old2,he2⟩,hit2⟩,λb hb=> ?_⟩
   have hbT:b≠Tp:=λz=>by
    obtain⟨o,q⟩:∃o,s.heap.get? b=some o:=by
     rcases List.mem_cons.mp hb with rfl | hb
     ·exact⟨_,he⟩
     ·rw[List.mem_singleton.mp hb];obtain⟨o,q,_⟩:=hi.obj;exact⟨o,q⟩
    exact absurd (Nat.lt_of_lt_of_le (Heap.lt_size q) hTsz) (by rw[z];exact Nat.lt_irrefl _)
   rw[ay hbT];exact(hf b hb).1
  have hne:∀b∈ [e,it],a≠b:=λb hb z=>by
   have hb':=(hf b hb).1;rw[<-z]at hb'
   have hbs:=hf b hb
   cases tt with
   | true=>
    have hq':SqT X.K H a xs:=hq;rcases hq' with(q | ⟨o,q⟩) | ⟨o,its,n,q,_⟩
    ·rw[hb']at q;cases q
    ·rw[hb']at q;cases q
    ·rcases hbs.2.2.2.1 with z1 | z1
     ·exact I.ok.noex a o (I.ok.mod.kin a o q) (z▸z1)
     ·exact absurd (Nat.lt_of_lt_of_le (Heap.lt_size (I.ok.bs a o (I.ok.mod.kin a o q)).1) (z▸z1)) (Nat.lt_irrefl _)
   | false=>
    have hq':SqL X.K H a xs:=hq;rcases hq' with(q | ⟨o,q⟩) | ⟨o,its,n,q,_⟩
    ·rw[hb']at q;cases q
    ·rw[hb']at q;cases q
    ·rcases hbs.2.2.2.1 with z1 | z1
     ·exact I.ok.noex a o (I.ok.mod.kin a o q) (z▸z1)
     ·exact absurd (Nat.lt_of_lt_of_le (Heap.lt_size (I.ok.bs a o (I.ok.mod.kin a o q)).1) (z▸z1)) (Nat.lt_irrefl _)
  have hea:e≠a:=λz=>hne e (by simp) z.symm
  have hia:it≠a:=λz=>hne it (by simp) z.symm
  cases tt with
  | true=>
   have hq':SqT X.K H a xs:=hq;obtain⟨its,rv,p,hz⟩:=I.tuple hq'
   exact key its rv (λys hy=>I.tuple_inj hy hq') _ _ (Enu.tupDraws (A:=X.A.in1) (I.ok.hd hc) it a (Ne.symm hia) its.toArray) (by simp[hei,hea]) (by simp) ⟨hi,p⟩ λh' z=>z.1
  | false=>
   have hq':SqL X.K H a xs:=hq;obtain⟨its,rv,p,hz⟩:=I.list hq';exact key its rv (λys hy=>I.list_inj hy hq') _ _ (Draws.list (A:=X.A.in1) (I.ok.hd hc) it a (Ne.symm hia) its.toArray) (by simp[hei,hea]) (by simp) ⟨hi,p.isList⟩ λh' z=>z.1
 done:=by
  intro X hP hw hK hc i pins s σ H E I hf st hg;subst hP hw hK;obtain⟨xs,hq,hx⟩:=hg;obtain⟨⟨old,he⟩,hi⟩:=st
  have fin:∀h',Heap.ExtBut it s.heap h'->(none:Option Value)=none/\Inv X pins σ H { s with heap:=h' }:=λh' eb=>⟨rfl,I.turnedL (t':=s.toks) hf λb o hb q=>eb b o (λz=>hb (by simp[z])) q⟩
  cases tt with
  | true=>
   have hq':SqT X.K H a xs:=hq;obtain⟨its,rv,p,hz⟩:=I.tuple hq'
   have hl:=rv.length
   have hnone:its.toArray[i]? =none:=by simp;omega
   have hT:s.TypeIs (.ref e) "enumerate":=⟨_,he,rfl⟩;unfold pyNext;refine wpAny_bind (wpAny_attempt (wpAny_callSpecial?_slot (name:=Str.ofString "__next__") hT F.slot_enumerate_next (wpAny_call_entry F.slot_enumerate_next hT F.entry_enumerate_next ?_ (F.args_enumerate_next_1 _))))
   show wpAny (model X.prog X.w) _ (field (.ref e) 2 >>= _) _ _ _
   refine wpAny_bind (wpAny_field he rfl (x:=.ref it) rfl ?_)
   refine wpAny_bind (Enu.tupStop (I.ok.hd hc) hi p hnone λh' x he' hx'=> ?_)
   obtain⟨o,ho,hcl⟩:=hx'
   exact wpAny_bind (wpAny_isInstance (T:="StopIteration") (b:=true) ⟨o,ho,hcl⟩ isSubtype_stop (wpAny_pure (fin h' he')))
  | false=>
   have hq':SqL X.K H a xs:=hq;obtain⟨its,rv,p,hz⟩:=I.list hq'
   have hl:=rv.length
   have hnone:its.toArray[i]? =none:=by simp;omega
   exact wpAny_pyNext_enum_end (I.ok.hd hc) he hi p.isList hnone fin
 self:=λ_ _ _ _ _ st h=>by
  obtain⟨⟨old,he⟩,_⟩:=st;exact wpAny_pyIter_enum he h
section
variable {X:Cx}{elts:List Expr}{kk:Nat}{tpos:Pos}
theorem mB:bootBuiltins "enumerate" =some (.type "enumerate"):=by decide+kernel
def iEnu (K:PySem.W.Frag)(tl:TA):TI:=λσ H R=>tl σ H λvs H1=> ∃a tt,vs= [.ref a]/\(∃xs,mK K H1 a tt xs)/\R (Fm K a tt) H1
theorem zY {l:Expr}{tl:TA}{p pos:Pos}(hg:Gl X "enumerate")(hm:X.mg "enumerate" =none)(hl:PA X [l] tl)(hs:starEach [l] X.env= [(false,eval l X.env)]:=by rfl):PI X (.Tuple elts kk tpos) (.Call (.Name "enumerate" p) [l] [] pos) (iEnu X.K tl):=by
 intro pins s σ H R I h;refine Call_ (fz I hg hm mB (PyProof.Rows.callWith_type1 (cv (hl pos pins s σ H _ I h) λus s1 ⟨vs,H1,I1,r1,q1⟩=> ?_) hs rfl))
 obtain⟨a,tt,e,⟨xs,hq⟩,q⟩:=q1;subst e;obtain⟨u,rfl,ru⟩:=iU r1;cases ru
 have fin:∀h',IsEnum h' (s1.heap.objs.size+1) s1.heap.objs.size 0 .none->itAt tt h' s1.heap.objs.size a 0->h'.objs.size=s1.heap.objs.size+2->(∀b o,s1.heap.get? b=some o->h'.get? b=some o) →
   wpAny (model X.prog X.w) X.A (pyIter (.ref (s1.heap.objs.size+1))) (PIE X pins σ (.Tuple elts kk tpos) R) X.xe { s1 with heap:=h' }:=λh' he hi hsz hk=>by
  refine wpAny_pyIter_enum he ?_
  have I2:Inv X pins σ H1 { s1 with heap:=h' }:=I1.kept (t':=s1.toks) hk
  refine⟨s1.heap.objs.size+1,[s1.heap.objs.size+1,s1.heap.objs.size],_,_,H1,rfl,I2,uV tt a (s1.heap.objs.size+1) s1.heap.objs.size (Nat.succ_ne_self _),⟨⟨_,he⟩,hi⟩,λb hb=> ?_,q⟩
  rcases List.mem_cons.mp hb with rfl | hb
  ·exact I1.fpOk (by omega) (I1.hok.fresh (by omega))
  ·rw[List.mem_singleton.mp hb];exact I1.fpOk (Nat.le_refl _) (I1.hok.fresh (Nat.le_refl _))
 cases tt with
 | true=>
  have hq':SqT X.K H1 a xs:=hq;obtain⟨its,rv,pl,hz⟩:=I1.tuple hq'
  exact Enu.callT pl λh' he hi hsz hk=>fin h' he hi hsz hk
 | false=>
  have hq':SqL X.K H1 a xs:=hq;obtain⟨its,rv,pl,hz⟩:=I1.list hq';exact call_enumerate_list pl.isList λh' he hi hsz hk=>fin h' he hi hsz hk
end
end L2
namespace Tr
open PySem PySem.Spec PyProof.Rows L2
section
variable {X:Cx}{a:Expr}{fa:En->Rs T}{fs:En->Rs (List T)}{p pos:Pos}
def iS (f:En->Rs T)(Z:En):Rs (List T):=do
 let x <-f Z
 match x with
 | .lst l=> .ok l
 | .tup l=> .ok l
 | _=> .bad
theorem B1 {tg:Expr}(ha:cz X a fa):vQ X tg a (iS fa):=by
 intro pins s σ H R I ⟨Z,O,E,h⟩;unfold iS at h
 cases q:fa Z with
 | bad=>rw[q]at h;exact h.elim
 | err c=>exact tL ha pins s σ H R I ⟨Z,O,E,by unfold iL;rw[q]at h ⊢;exact h⟩
 | ok x=>
  rw[q,ax]at h
  cases x with
  | lst l=>exact tL ha pins s σ H R I ⟨Z,O,E,by unfold iL;rw[q];exact h⟩
  | tup l=>exact B0 ha pins s σ H R I ⟨Z,O,E,by unfold iT;rw[q];exact h⟩
  | _=>exact h.elim
def a7:Nat->List T->List T
 | _,[] => []
 | n,t::r=> .tup [.int n,t] ::a7 (n+1) r
theorem nV:∀(l:List T) (n i:Nat),(a7 n l)[i]? =(l[i]?).map λt=>T.tup [.int ((n+i:Nat):Int),t]
 | [],n,i=>by simp[a7]
 | t::l,n,0=>by simp[a7]
 | t::l,n,i+1=>by
  rw[a7,List.getElem?_cons_succ,nV l (n+1) i,List.getElem?_cons_succ]
  congr 2
  funext t
  congr 4
  omega
theorem nU:∀(l:List T) (n:Nat),(a7 n l).length=l.length
 | [],n=>rfl
 | t::l,n=>by rw[a7,List.length_cons,List.length_cons,nU l]
def iE (f:En->Rs (List T))(Z:En):Rs (List T):=do
 let xs <-f Z
 match xs with
 | [x] =>match x.items with
  | some l=> .ok (a7 0 l)
  | none=> .bad
 | _=> .bad
theorem zH {elts:List Expr}{kk:Nat}{tpos:Pos}(hm:X.mg "enumerate" =none)(ha:n9 X [a] fs)(hg:Gl X "enumerate":=by rfl)(hs:starEach [a] X.env= [(false,eval a X.env)]:=by rfl) :
  vQ X (.Tuple elts kk tpos) (.Call (.Name "enumerate" p) [a] [] pos) (iE fs):=PI.imp (zY hg hm ha hs) λσ H R hh_=>by
 obtain⟨Z,O,E,h⟩:=hh_;obtain⟨Z1,O1,E1,h1⟩:=dR E h;refine⟨Z1,O1,E1,Post.mono h1 λts H1 s1 q vs r=> ?_⟩
 obtain⟨t',r',s',E',q'⟩:=q vs r
 split at q'
 ·rename_i x0
  obtain⟨v,rfl,rv⟩:=r'.one
  split at q'
  ·rename_i l hl
   have main:∀(aa:Addr) (tt:Bool) (ws:List V),v= .ref aa->¬ O aa->Reps X.K O H1 l ws->mK X.K H1 aa tt ws->(∀P Hc,SameO P H1 Hc->¬ P aa->mK X.K Hc aa tt ws)->¬ Nw X.K H1 aa →
     ∃a tt,[v] = [V.ref a]/\(∃xs,mK X.K H1 a tt xs)/\R (Fm X.K a tt) H1:=λaa tt ws e n z sq mv nn=>by
    refine⟨aa,tt,by rw[e],⟨ws,sq⟩,q' H1 (Same.refl H1) _ λP O' hP hO i Hc hsm htr=> ?_⟩
    have hnP:¬ P aa:=λy=>(hP aa y).elim n nn
    have sqc:=mv P Hc hsm hnP;refine⟨λhi=>⟨ws,sqc,by rw[<-z.length,<-nU l 0];exact hi⟩,λt ht=> ?_⟩
    rw[nV]at ht
    cases e1:l[i]? with
    | none=>rw[e1]at ht;cases ht
    | some t0=>
     rw[e1]at ht;cases ht;obtain⟨v0,f1,f2⟩:=z.get e1;refine⟨⟨ws,v0,sqc,f1⟩,λx Hc' y=> ?_⟩
     obtain⟨pp,vv,e2,hpn,e3,hy⟩:=y
     have:=hy ws sqc;rw[f1]at this;cases this;subst e2 e3;refine⟨aO hpn _,fT hpn (λzz=> ?_) (Reps.cons_ (by simpa using Rep.int_ _) (Reps.cons_ (f2.move hP hO hsm) Reps.nil_))⟩
     obtain⟨o,w⟩:=htr pp zz;rw[hpn]at w;cases w
   cases x0 with
   | tup m=>
    cases hl;obtain⟨aa,ws,e,n,qq,z⟩:=Rep.tup_iff.mp rv
    exact main aa true ws e n z (show SqT X.K H1 aa ws from SqT.of qq) (λP Hc hsm hn=>show SqT X.K Hc aa ws from SqT.of (hsm _ _ qq hn)) λw=>by rw[w.1]at qq;cases qq
   | lst m=>
    cases hl;obtain⟨aa,ws,e,n,qq,z⟩:=Rep.lst_iff.mp rv
    exact main aa false ws e n z (show SqL X.K H1 aa ws from SqL.of qq) (λP Hc hsm hn=>show SqL X.K Hc aa ws from SqL.of (hsm _ _ qq hn)) λw=>by rw[w.1]at qq;cases qq
   | scr m=>
    cases hl;unfold Rep at rv;obtain⟨aa,e,n,qq⟩:=rv
    exact main aa false _ e n Reps.ints (show SqL X.K H1 aa _ from qq) (λP Hc hsm hn=>show SqL X.K Hc aa _ from Tr.SqL.keep hsm hn qq) (Tr.SqL.nn qq)
   | _=>cases hl
  ·exact q'.elim
 ·exact q'.elim
end
end Tr
namespace Tm
open PySem PyProof.Rows
theorem j8:fillsNumberSlot (.type "tuple") "mul" =pure false:=
 PySem.fillsNumberSlot_seq (id:="tuple.__mul__") (r:=some (.builtin "tuple.__rmul__")) F.slot_tuple_mul.lookup (by decide+kernel) F.slot_tuple_rmul.lookup (by decide+kernel)
theorem oG:seqRepeat? (.type "tuple")=pure (some (.builtin "tuple.__mul__")):=by
 unfold seqRepeat?;rw[PySem.seqSlot_of (T:="tuple") (name:="__mul__") (id:="tuple.__mul__") F.slot_tuple_mul.lookup (by decide+kernel),PySem.seqSlot_of (T:="tuple") (name:="__rmul__") (id:="tuple.__rmul__") F.slot_tuple_rmul.lookup (by decide+kernel)]
 rfl
theorem si (a:Int)(t:Tok)(l:Addr)(items:Array Value)(n:Nat)(dd:Option Addr)(sl:Array (Option Value)) :
  Meets (Builtin.«int.__rmul__» ⟨[.int a t,.ref l],[]⟩) (λ_ R s=>s.heap.get? l=some { cls:=.type "tuple",dict:=dd,data:=.seq items n,slots:=sl }/\R (.ok (.ret Value.notImplemented)) s):=
 .of_wp λprog w A R s h=>by obtain⟨hp,g,d,tk,os⟩:=s;obtain⟨hl,h⟩:=h;wp_walk;exact⟨_,rfl,h⟩
open AutoSeq1 (wpAny_loadPart')
theorem xu (l:Addr)(items:Array Value)(n:Nat)(dd:Option Addr)(sl:Array (Option Value))(x:Int)(u:Tok)(h1:1<x)(h2:x<2 ^ 31)(hne:items.isEmpty=false)(hz:items.size*x.toNat<=sizeLine)
  (hz2:(List.foldl (λa b=>a++b) #[] (List.replicate x.toNat items)).size<=sizeLine) :
  Meets (Builtin.«tuple.__mul__» ⟨[.ref l,.int x u],[]⟩) (λ_ R s=>s.heap.get? l=some { cls:=.type "tuple",dict:=dd,data:=.seq items n,slots:=sl } ∧
   R (.ok (.ret (Value.ref s.heap.objs.size))) { s with heap:=s.heap.push { cls:=Value.type "tuple",data:=Data.seq (List.foldl (λa b=>a++b) #[] (List.replicate x.toNat items)) } }):=
 .of_wp λprog w A R s h=>by
  obtain⟨hp,g,d,tk,os⟩:=s;obtain⟨hl,h⟩:=h
  have hT:IsTup hp l items:=⟨_,hl,rfl,n,rfl⟩
  have hx:((items.size:Nat):Int)*x=((items.size*x.toNat:Nat):Int):=by
   have e:x=((x.toNat:Nat):Int):=by omega
   rw[Int.natCast_mul,<-e]
  wp_walk using wpAny_loadPart' hl
  rw[if_neg (by simp;omega)]
  refine wpAny_bind (tupleItemsOf_ (s:=⟨hp,g,d,tk,os⟩) hT ?_)
  dsimp only
  rw[if_neg (by rw[hne];simp;omega),if_neg (by rw[hne];simp;omega),hx,if_neg (by have:(sizeLine:Nat)<=1000000000:=(by decide);omega),if_neg (by unfold Builtin.Tuple.tupleTooMany;rw[decide_eq_true_iff];omega)]
  refine wpAny_bind (m:=Builtin.Tuple.tupleExact _) (wpAny_newObj_type ?_ hz2)
  exact wpAny_pure ⟨_,rfl,h⟩
section
variable {prog:Program}{w:World}{A:Around}{E:Value->Shared->Prop}{s:Shared}
theorem mul_tuple {t:Addr}{vs:List Value}{k:Int}{tk:Tok}{Q:Value->Shared->Prop}(ht:IsTup s.heap t vs.toArray)(h1:1<k)(h2:k<2 ^ 31)(hv:vs≠ [])(hz:vs.length*k.toNat<=sizeLine)
  (h:Q (.ref s.heap.objs.size) { s with heap:=s.heap.push { cls:=.type "tuple",data:=.seq (List.replicate k.toNat vs).flatten.toArray } }) :
  wpAny (model prog w) A (binaryOp .Mult (.ref t) (.int k tk)) Q E s:=by
 obtain⟨⟨cls,dd,data,sl⟩,ho,hc,n,hd⟩:=id ht;simp only at hc hd;subst hc hd
 have e:List.foldl (λa b=>a++b) #[] (List.replicate k.toNat vs.toArray)=(List.replicate k.toNat vs).flatten.toArray:=by
  have q:=L2.foldl_rep vs k.toNat []
  simpa using q
 refine wpAny_binaryOp_repeat_ref (T:="tuple") (U:="int") (by decide) ⟨_,ho,rfl⟩ (λs'=>typeIs_int s' k tk) j8 F.fills_int_mul F.slot_int_rmul oG F.slot_int_index.lookup
  (call_meets F.slot_int_rmul (typeIs_int s k tk) F.entry_int_rmul (F.args_int_rmul_2 _ _) (si k tk t vs.toArray n dd sl)
   ⟨ho,rfl,⟨_,ho,rfl⟩,call_meets F.slot_tuple_mul ⟨_,ho,rfl⟩ F.entry_tuple_mul (F.args_tuple_mul_2 _ _) (xu t vs.toArray n dd sl k tk h1 h2 (by simpa using hv) (by simpa using hz) (by rw[e,List.size_toArray,L2.len_rep,Nat.mul_comm];exact hz)) ⟨ho,?_⟩⟩)
 rw[e];exact h
end
end Tm
namespace Tr
open PySem PySem.Spec PyProof.Rows L2
section
variable {X:Cx}
def ca (x y:T):Rs T:=match x,y with
 | .tup l,.int k=>if 1<k/\k<2 ^ 31/\l≠ []/\l.length*k.toNat<=sizeLine then .ok (.tup (List.replicate k.toNat l).flatten)else .bad
 | x,y=>sE x y
instance (l:List T):Decidable (l≠ []):=by cases l <;> simp <;> infer_instance
theorem dj:OpT X (binaryOp .Mult) ca:=by
 intro pins s σ H O x y vx vy ux uy Q I hf rx ry r1 r2 hp;unfold ca at hp
 split at hp
 ·rename_i l k
  split at hp
  ·rename_i h
   obtain⟨a,vs,e1,n1,q1,z1⟩:=Rep.tup_iff.mp rx;subst e1;cases Rep.int_iff.mp ry;cases r1;obtain⟨tk,rfl⟩:=r2;obtain⟨its,rv,pl,hz⟩:=I.tuple (SqT.of q1)
   have hl1:=z1.length
   have hl2:=rv.length
   have hne:its≠ []:=λz=>h.2.2.1 (List.eq_nil_of_length_eq_zero (by rw[hl1,hl2,z];rfl))
   refine Tm.mul_tuple pl h.1 h.2.1 hne (by rw[<-hl2,<-hl1];exact h.2.2.2) ?_
   have hn:=I.hok.fresh (Nat.le_refl _);refine⟨.ref _,_,I.laid (t':=s.toks) (o:=.tup (List.replicate k.toNat vs).flatten) (λb ob q=>Heap.get?_push_of_some _ q) (Nat.le_refl _) ?_,rfl,hp _ (aO hn _) _ (fT hn (hf _ hn) (z1.rep _))⟩
   refine⟨?_,_,rv.rep k.toNat,IsTup.new _ _⟩
   rw[len_rep,Nat.mul_comm,<-hl1];exact h.2.2.2
  ·exact hp.elim
 ·exact Cp pins s σ H O _ _ vx vy ux uy Q I hf rx ry r1 r2 hp
end
def CH (outer:List (Str×NameKind))(N:List Str)(names:List (Str×NameKind))(N':List Str)(src:List (Option Nat)):Bool:=
 names.all (λy=>y.2 != .cell||names.lookup y.1 == some .cell)&&names.all (λy=>y.2 != .local||names.lookup y.1 == some .local)&&src.length == N'.length&&
 (List.range N'.length).all (λj=>match src[j]? with
  | some (some i)=>match N'[j]? with
   | some x=>N[i]? == some x&&names.lookup x == some .free
   | none=>true
  | _=>true)&&
 names.all (λy=>y.2 != .free||(outer.lookup y.1 == some .cell||outer.lookup y.1 == some .free))
theorem LcScope.by {X:Cx}{scope:Scope}{N N':List Str}{src:List (Option Nat)}{names:List (Str×NameKind)}(hN:X.N=N)(hs:X.env.scope.names=names)(hk:scope.kind= .function)(h:CH names N scope.names N' src=true):LcScope X scope N' src:=by
 unfold CH at h;simp only[Bool.and_eq_true]at h;obtain⟨⟨⟨⟨h1,h2⟩,h3⟩,h4⟩,h5⟩:=h
 have a1:=List.all_eq_true.mp h1
 have a2:=List.all_eq_true.mp h2
 have a4:=List.all_eq_true.mp h4
 have a5:=List.all_eq_true.mp h5;refine⟨hk,λy hy hl=>by have:=a1 y hy;rw[hl]at this;simpa using this,λy hy hl=> ?_,by simpa using h3,λj i x e1 e2=> ?_,λx hx=> ?_⟩
 ·have:=a2 y hy
  rw[hl]at this
  simpa using this
 ·have hj:j<N'.length:=(List.getElem?_eq_some_iff.mp e2).1
  have:=a4 j (List.mem_range.mpr hj);rw[e1]at this;simp only[e2]at this;rw[Bool.and_eq_true]at this;rw[hN];exact⟨by simpa using this.1,by simpa using this.2⟩
 ·have:=a5 _ hx
  simp only[bne_self_eq_false,Bool.false_or,Bool.or_eq_true]at this
  show X.env.scope.names.lookup x=_\/X.env.scope.names.lookup x=_
  rw[hs];rcases this with z | z
  ·exact .inl (by simpa using z)
  ·exact .inr (by simpa using z)
def bo:Expr->Bool
 | .Starred .. =>false
 | _=>true
def bf:List Expr->Bool
 | [] =>true
 | e::r=>bo e&&bf r
theorem aU {e:Expr}{es:List Expr}{env:Env}(h:bo e=true):starEach (e::es) env=(false,eval e env)::starEach es env:=by
 cases e <;> first | rfl | cases h
theorem eZ {pos:Pos}{env:Env}:∀{es:List Expr},bf es=true->(backTo pos (starEach es env)).any (·.1)=false
 | [],_=>rfl
 | e::r,h=>by
  unfold bf at h;rw[Bool.and_eq_true]at h;rw[aU h.1]
  have ih:=eZ (pos:=pos) (env:=env) h.2
  show(false||(backTo pos (starEach r env)).any (·.1))=false
  rw[ih];rfl
section
variable {X:Cx}{a b e:Expr}{es:List Expr}{fa:En->Rs T}{fs:En->Rs (List T)}{pos p p2:Pos}{x:Str}
theorem qa_c {f:En->Rs T}{g:En->Rs (List T)}(he:cz X e f)(hr:n9 X es g)(hn:bo e=true:=by rfl):n9 X (e::es) (ad f g):=zK he hr (aU hn)
theorem q_cB {id:String}{g:List T->Rs T}(hc:CallT X (.builtin id) g)(hm:X.mg x=none)(hv:bootBuiltins x=some (.builtin id))(ha:n9 X (e::es) fs)(hn:bf (e::es)=true:=by rfl)(hg:Gl X x:=by rfl)(h1:x≠ "__name__":=by decide)(h2:(x == ("__debug__" : Str))=false:=by decide) :
  cz X (.Call (.Name x p) (e::es) [] pos) (cl g fs):=by
 unfold bf at hn;rw[Bool.and_eq_true]at hn;exact zN hc hm hv ha hg h1 h2 (aU hn.1) (eZ hn.2)
theorem q_cT {Ty:String}{g:List T->Rs T}(hc:CallT X (.type Ty) g)(hm:X.mg x=none)(hv:bootBuiltins x=some (.type Ty))(ha:n9 X (e::es) fs)(hn:bf (e::es)=true:=by rfl)(hg:Gl X x:=by rfl)(h1:x≠ "__name__":=by decide)(h2:(x == ("__debug__" : Str))=false:=by decide) :
  cz X (.Call (.Name x p) (e::es) [] pos) (cl g fs):=by
 unfold bf at hn;rw[Bool.and_eq_true]at hn;exact wP hc hm hv ha hg h1 h2 (aU hn.1) (eZ hn.2)
theorem q_c {n k:Nat}{f:Addr}{fd:FuncData}{ps:List Str}{g:List T->Rs T}(F:Dr X.prog X.w X.K X.mg X.base k f fd ps n g)(hr:Room k X.A)(hm:X.mg x=some (.ref f))(hk:PySem.W.keepIn X.K (.ref f)=true)(hb:Binds X.K fd ps [])
  (hl:∀Z ts,fs Z= .ok ts->ts.length=n) (ha:n9 X (e::es) fs) (hps:ps.length=n:=by rfl) (hn:bf (e::es)=true:=by rfl) (hg:Gl X x:=by rfl) (h2:(x == ("__debug__" : Str))=false:=by decide):cz X (.Call (.Name x p) (e::es) [] pos) (cl g fs):=by
 unfold bf at hn;rw[Bool.and_eq_true]at hn;exact B7 F hr hm hk hb hps hl ha hg h2 (aU hn.1) (eZ hn.2)
theorem q_is {tn:Str}{Ty:String}(hm:X.mg "isinstance" =none)(hmt:X.mg tn=none)(hv:bootBuiltins tn=some (.type Ty))(ha:cz X a fa)(hn:bo a=true:=by rfl)(hg:Gl X "isinstance":=by rfl)(hgt:Gl X tn:=by rfl)
  (h1:tn≠ "__name__":=by decide) (h2:(tn == ("__debug__" : Str))=false:=by decide):cz X (.Call (.Name "isinstance" p) [a,.Name tn p2] [] pos) (o1 (At Ty) fa):=
 D2 hm hmt hv ha hg hgt h1 h2 (aU hn) (eZ rfl) (aU rfl)
end
theorem ES (Z:En)(ts:List T)(h:ag Z= .ok ts):ts.length=0:=by cases h;rfl
theorem ER {n:Nat}{f:En->Rs T}{g:En->Rs (List T)}(hg:∀Z ts,g Z= .ok ts->ts.length=n)(Z:En)(ts:List T)(h:ad f g Z= .ok ts):ts.length=n+1:=by
 unfold ad at h
 cases q:f Z with
 | bad=>rw[q]at h;cases h
 | err c=>rw[q]at h;cases h
 | ok t=>
  rw[q,ax]at h
  cases q2:g Z with
  | bad=>rw[q2]at h;cases h
  | err c=>rw[q2]at h;cases h
  | ok r=>
   rw[q2,ax]at h;cases h;rw[List.length_cons,hg Z r q2]
theorem kj {k:Nat}{A:Around}(h:Room k A):A.units+60<cLine:=by have:=h.un;omega
theorem x5 {k:Nat}{A:Around}(h:Room k A):A.units+61<cLine:=by have:=h.un;omega
structure Fn (K:PySem.W.Frag)(mg:Str->Option Value)(x:Str)(st:Stmt)(ps:List Str)(f:Addr)(fd:FuncData):Prop where
 fn:L2.Fun K x x st f fd
 bd:Binds K fd ps []
 mg:mg x=some (.ref f)
def val (n m:Nat)(F:En->Rs Fl)(ts:List T):Rs T:=if ts.length=n then bv F (aN m ts)else .bad
theorem Br {n m:Nat}{F:En->Rs Fl}{ts:List T}{t:T}(h:val n m F ts= .ok t):bv F (aN m ts)= .ok t:=by
 unfold val at h
 split at h
 ·exact h
 ·cases h
theorem sp_script {K:PySem.W.Frag}{H:Hp}{a:Addr}{ns:List Int}{g:List T->Rs T}{E:XK}(hS:SqL K H a (ns.map V.int))(h:g [.scr ns] = .ok (.bl true)):spP K 1 g [.ref a] H (λv _=>v= .bl true) E:=by
 refine⟨[.scr ns],λ_=>False,Reps.cons_ ?_ Reps.nil_,λ_ z=>z.elim,rfl,?_⟩
 ·unfold Rep;exact⟨a,rfl,λz=>z,hS⟩
 ·rw[h];exact λv H' _ r=>Rep.bl_iff.mp r
theorem qu {α:Type}{l:List α}{i:Nat}{z:α}(h:l[i]? =some z):l.set i z=l:=by
 obtain⟨hi,rfl⟩:=List.getElem?_eq_some_iff.mp h
 exact List.set_getElem_self hi
def Mn.set (M:Mn)(i:Nat)(m:Ow):Mn:=λj=>if j=i then m else M j
theorem Mn.set_u {M:Mn}{i:Nat}{m:Ow}{a:Addr}(h:(M.set i m).u a):m a\/M.u a:=by
 obtain⟨j,h⟩:=h;unfold Mn.set at h
 by_cases z:j=i
 ·rw[if_pos z]at h;exact .inl h
 ·rw[if_neg z]at h;exact .inr ⟨j,h⟩
theorem Mn.set_at {M:Mn}{i:Nat}{m:Ow}:M.set i m i=m:=by unfold Mn.set;rw[if_pos rfl]
theorem Mn.set_ne {M:Mn}{i j:Nat}{m:Ow}(h:j≠i):M.set i m j=M j:=by unfold Mn.set;rw[if_neg h]
theorem RowsR.move {K:PySem.W.Frag}{O O' P:Ow}{H H':Hp}(hP:∀a,P a->O a\/Nw K H a)(hO:∀a,O' a->O a\/Nw K H a)(h:SameO P H H'):∀{rs:List (List T×List T)} {as:List Addr},(∀b∈as,¬P b)->RowsR K O H rs as->RowsR K O' H' rs as
 | [],_,_,r=>r
 | _::_,_,hb,⟨b,bs,kvs,e1,e2,e3,e4,e5⟩=>by
  subst e1;exact⟨b,bs,kvs,rfl,h _ _ e2 (hb b List.mem_cons_self),e3,e4.move hP hO h,e5.move hP hO h λc hc=>hb c (List.mem_cons_of_mem _ hc)⟩
theorem ORep.move {K:PySem.W.Frag}{O O' P M:Ow}{H H':Hp}{o:OT}{v:V}(hP:∀a,P a->O a\/Nw K H a)(hO:∀a,O' a->O a\/Nw K H a)(h:SameO P H H')(hM:∀a,M a->¬ P a)(r:ORep K O M H o v):ORep K O' M H' o v:=by
 cases o with
 | lst l=>obtain⟨a,vs,e1,e2,e3,e4⟩:=r;exact⟨a,vs,e1,e2,h _ _ e3 (hM a ((e2 a).mpr rfl)),e4.move hP hO h⟩
 | dct ks ts=>obtain⟨a,kvs,e1,e2,e3,e4,e5⟩:=r;exact⟨a,kvs,e1,e2,h _ _ e3 (hM a ((e2 a).mpr rfl)),e4,e5.move hP hO h⟩
 | dd ks rows=>
  obtain⟨a,kvs,as,e1,e2,e3,e4,e5,e6,e7,e8⟩:=r;exact⟨a,kvs,as,e1,e2,e3,e4,h _ _ e5 (hM a ((e2 a).mpr (.inl rfl))),e6,e7,e8.move hP hO h λb hb=>hM b ((e2 b).mpr (.inr hb))⟩
theorem RowsR.mtb {K:PySem.W.Frag}{O:Ow}{H:Hp}:∀{rs:List (List T×List T)} {as:List Addr},RowsR K O H rs as->∀b∈as,∃kvs,H b=some (.dT kvs)
 | [],_,r,b,hb=>by unfold RowsR at r;subst r;simp at hb
 | _::_,_,⟨b0,bs,kvs,e1,e2,e3,e4,e5⟩,b,hb=>by
  subst e1;rcases List.mem_cons.mp hb with rfl | hb
  ·exact⟨kvs,e2⟩
  ·exact e5.mtb b hb
def OT.isD:OT->Bool
 | .lst _=>false
 | _=>true
theorem ORep.kind {K:PySem.W.Frag}{O M:Ow}{H:Hp}{o:OT}{v:V}(r:ORep K O M H o v):∀a,M a->if o.isD then ∃kvs,H a=some (.dT kvs)else ∃vs,H a=some (.lst vs):=λa z=>by
 cases o with
 | lst l=>obtain⟨b,vs,e1,e2,e3,e4⟩:=r;cases (e2 a).mp z;exact⟨vs,e3⟩
 | dct ks ts=>obtain⟨b,kvs,e1,e2,e3,e4,e5⟩:=r;cases (e2 a).mp z;exact⟨kvs,e3⟩
 | dd ks rows=>
  obtain⟨b,kvs,as,e1,e2,e3,e4,e5,e6,e7,e8⟩:=r
  rcases(e2 a).mp z with z | z
  ·cases z;exact⟨kvs,e5⟩
  ·exact e8.mtb a z
theorem ORep.mtb {K:PySem.W.Frag}{O M:Ow}{H:Hp}{o:OT}{v:V}(r:ORep K O M H o v)(a:Addr)(z:M a):Mtb H a:=by
 have:=r.kind a z
 split at this
 ·exact .inr this
 ·exact .inl this
theorem qD {K:PySem.W.Frag}{O:Ow}{H:Hp}:∀{rs:List (List T×List T)} {as:List Addr},(∀b∈as,¬O b)->RowsR K O H rs as->Reps K O H (rs.map λr=>T.dct r.1 r.2) (as.map V.ref)
 | [],_,_,r=>by unfold RowsR at r;subst r;exact Reps.nil_
 | _::_,_,hn,⟨b,bs,kvs,e1,e2,e3,e4,e5⟩=>by
  subst e1;exact Reps.cons_ (Rep.dct_iff.mpr ⟨b,kvs,rfl,hn b List.mem_cons_self,.inl e2,e3,e4⟩) (qD (λc hc=>hn c (List.mem_cons_of_mem _ hc)) e5)
theorem RowsR.less {K:PySem.W.Frag}{O O':Ow}{H:Hp}(sub:∀a,O' a->O a):∀{rs:List (List T×List T)} {as:List Addr},RowsR K O H rs as->RowsR K O' H rs as
 | [],_,r=>r
 | _::_,_,⟨b,bs,kvs,e1,e2,e3,e4,e5⟩=>⟨b,bs,kvs,e1,e2,e3,e4.less sub,e5.less sub⟩
theorem ORep.rep {K:PySem.W.Frag}{O O' M:Ow}{H:Hp}{o:OT}{v:V}(sub:∀a,O' a->O a)(hn:∀a,M a->¬ O' a)(r:ORep K O M H o v):Rep K O' H o.view v:=by
 cases o with
 | lst l=>obtain⟨a,vs,e1,e2,e3,e4⟩:=r;exact Rep.lst_iff.mpr ⟨a,vs,e1,hn a ((e2 a).mpr rfl),e3,e4.less sub⟩
 | dct ks ts=>obtain⟨a,kvs,e1,e2,e3,e4,e5⟩:=r;exact Rep.dct_iff.mpr ⟨a,kvs,e1,hn a ((e2 a).mpr rfl),.inl e3,e4,e5.less sub⟩
 | dd ks rows=>
  obtain⟨a,kvs,as,e1,e2,e3,e4,e5,e6,e7,e8⟩:=r;refine Rep.dct_iff.mpr ⟨a,kvs,e1,hn a ((e2 a).mpr (.inl rfl)),.inl e5,e6,?_⟩
  rw[e7];exact qD (λb hb=>hn b ((e2 b).mpr (.inr hb))) (e8.less sub)
section
variable {K:PySem.W.Frag}{B:Ow}{M:Mn}{H H':Hp}{Z:En}{σ:L2.St}{i:Nat}{o o':OT}{v:V}{m:Ow}
theorem Ev.new (E:Ev K B M H Z σ)(hl:i<Z.length)(hm:∀a,m a->Nw K H a)(s:Same H H')(r:ORep K (OO B (M.set i m)) m H' o v) :
  Ev K B (M.set i m) H' (Z.set i (.ow o)) (σ.set i (some v))/\∀a,(M.set i m).u a->M.u a\/Nw K H a:=by
 have hls:i<σ.length:=by rw[<-E.env.len];exact hl
 have sub:∀a,(M.set i m).u a->M.u a\/Nw K H a:=λa z=>(Mn.set_u z).elim (λw=> .inr (hm a w)) .inl
 have subO:∀a,OO B (M.set i m) a->OO B M a\/Nw K H a:=λa z=>z.elim (λw=> .inl (.inl w)) λw=>(sub a w).elim (λy=> .inl (.inr y)) .inr
 have dk:∀a,Nw K H a->¬ OO B M a:=λa w z=>by
  obtain⟨o,e⟩:=(E.env.trk a z).some;rw[w.1]at e;cases e
 refine⟨⟨⟨by rw[List.length_set,List.length_set];exact E.env.len,λj t e=> ?_,λj o' e=> ?_,λj a z=> .inr ⟨j,z⟩,λj k a z1 z2=> ?_,λa z=> ?_⟩,λa z=> ?_⟩,sub⟩
 ·by_cases hj:i=j
  ·subst hj;rw[List.getElem?_set_self hl]at e;cases e
  ·rw[List.getElem?_set_ne hj]at e
   obtain⟨w,e1,e2⟩:=E.env.val j t e;exact⟨w,by rw[List.getElem?_set_ne hj];exact e1,(e2.more subO).same s⟩
 ·by_cases hj:i=j
  ·subst hj
   rw[List.getElem?_set_self hl]at e
   cases e;exact⟨v,List.getElem?_set_self hls,by rw[Mn.set_at];exact r⟩
  ·rw[List.getElem?_set_ne hj]at e
   obtain⟨w,e1,e2⟩:=E.env.own j o' e;refine⟨w,by rw[List.getElem?_set_ne hj];exact e1,?_⟩
   rw[Mn.set_ne (λz=>hj z.symm)]
   exact(e2.move (P:=sC) (λ_ z=>z.elim) subO (λb u q _=>q) λ_ _ z=>z).same s
 ·unfold Mn.set at z1 z2
  by_cases hj:j=i
  ·by_cases hk:k=i
   ·exact hj.trans hk.symm
   ·rw[if_pos hj]at z1;rw[if_neg hk]at z2
    exact(dk a (hm a z1) (.inr ⟨k,z2⟩)).elim
  ·by_cases hk:k=i
   ·rw[if_neg hj]at z1;rw[if_pos hk]at z2
    exact(dk a (hm a z2) (.inr ⟨j,z1⟩)).elim
   ·rw[if_neg hj]at z1;rw[if_neg hk]at z2
    exact E.env.dis j k a z1 z2
 ·rcases z with z | z
  ·exact(E.env.trk a (.inl z)).same s
  ·rcases Mn.set_u z with w | w
   ·exact r.mtb a w
   ·exact(E.env.trk a (.inr w)).same s
 ·intro hb
  rcases Mn.set_u z with w | w
  ·exact dk a (hm a w) (.inl hb)
  ·exact E.mine a w hb
theorem Ev.put (E:Ev K B M H Z σ)(hi:Z[i]? =some (.ow o))(hs:σ[i]? =some (some v))(s:SameO (M i) H H')(r:ORep K (OO B M) (M i) H' o' v):Ev K B M H' (Z.set i (.ow o')) σ/\SameO M.u H H':=by
 have hl:i<Z.length:=(List.getElem?_eq_some_iff.mp hi).1
 have inO:∀a,M i a->OO B M a\/Nw K H a:=λa z=> .inl (.inr ⟨i,z⟩)
 have idO:∀a,OO B M a->OO B M a\/Nw K H a:=λa z=> .inl z
 refine⟨⟨⟨by rw[List.length_set];exact E.env.len,λj t e=> ?_,λj o2 e=> ?_,E.env.sub,E.env.dis,λa z=> ?_⟩,E.mine⟩,λb u e n=>s b u e λz=>n ⟨i,z⟩⟩
 ·by_cases hj:i=j
  ·subst hj;rw[List.getElem?_set_self hl]at e;cases e
  ·rw[List.getElem?_set_ne hj]at e
   obtain⟨w,e1,e2⟩:=E.env.val j t e;exact⟨w,e1,e2.move inO idO s⟩
 ·by_cases hj:i=j
  ·subst hj
   rw[List.getElem?_set_self hl]at e
   cases e;exact⟨v,hs,r⟩
  ·rw[List.getElem?_set_ne hj]at e
   obtain⟨w,e1,e2⟩:=E.env.own j o2 e;exact⟨w,e1,e2.move inO idO s λa z y=>hj (E.env.dis i j a y z)⟩
 ·by_cases hz:M i a
  ·exact r.mtb a hz
  ·rcases E.env.trk a z with⟨vs,e⟩ | ⟨kvs,e⟩
   ·exact .inl ⟨vs,s _ _ e hz⟩
   ·exact .inr ⟨kvs,s _ _ e hz⟩
def disown (i:Nat)(Z:En):En:=match Z[i]? with
 | some (.ow o)=>Z.set i (.va o.view)
 | _=>Z
theorem EnvM.disown {O O':Ow}{Z:En}(E:EnvM K O M H Z σ)(i:Nat)(sub:∀a,O' a->O a)(hn:∀a,M i a->¬ O' a)(hin:∀j a,j≠i->M j a->O' a):EnvM K O' (M.set i sC) H (disown i Z) σ:=by
 have base:EnvM K O' (M.set i sC) H (Z.set i (match Z[i]? with | some (.ow o)=> .va o.view | some x=>x | none=> .em)) σ:=by
  refine⟨by rw[List.length_set];exact E.len,λj t e=> ?_,λj o e=> ?_,λj a z=> ?_,λj k a z1 z2=> ?_,λa z=>E.trk a (sub a z)⟩
  ·by_cases hj:i=j
   ·subst hj
    by_cases hl:i<Z.length
    ·rw[List.getElem?_set_self hl]at e
     cases q:Z[i]? with
     | none=>rw[q]at e;cases e
     | some z=>
      rw[q]at e
      cases z with
      | em=>cases e
      | va t'=>cases e;obtain⟨w,e1,e2⟩:=E.val i _ q;exact⟨w,e1,e2.less sub⟩
      | ow o=>cases e;obtain⟨w,e1,e2⟩:=E.own i _ q;exact⟨w,e1,e2.rep sub hn⟩
    ·rw[List.getElem?_eq_none (by rw[List.length_set];omega)]at e;cases e
   ·rw[List.getElem?_set_ne hj]at e
    obtain⟨w,e1,e2⟩:=E.val j t e;exact⟨w,e1,e2.less sub⟩
  ·by_cases hj:i=j
   ·subst hj
    by_cases hl:i<Z.length
    ·rw[List.getElem?_set_self hl]at e
     cases q:Z[i]? with
     | none=>rw[q]at e;cases e
     | some z=>
      rw[q]at e
      cases z with
      | em=>cases e
      | va t'=>cases e
      | ow o=>cases e
    ·rw[List.getElem?_eq_none (by rw[List.length_set];omega)]at e;cases e
   ·rw[List.getElem?_set_ne hj]at e
    obtain⟨w,e1,e2⟩:=E.own j o e;refine⟨w,e1,?_⟩
    rw[Mn.set_ne (λz=>hj z.symm)]
    exact e2.move (P:=sC) (λ_ z=>z.elim) (λa z=> .inl (sub a z)) (λb u q _=>q) λ_ _ z=>z
  ·unfold Mn.set at z
   by_cases hj:j=i
   ·rw[if_pos hj]at z;exact z.elim
   ·rw[if_neg hj]at z;exact hin j a hj z
  ·unfold Mn.set at z1 z2
   by_cases hj:j=i
   ·rw[if_pos hj]at z1;exact z1.elim
   ·by_cases hk:k=i
    ·rw[if_pos hk]at z2;exact z2.elim
    ·rw[if_neg hj]at z1;rw[if_neg hk]at z2;exact E.dis j k a z1 z2
 unfold Tr.disown
 cases q:Z[i]? with
 | none=>rw[q,List.set_eq_of_length_le (List.getElem?_eq_none_iff.mp q)]at base;exact base
 | some z=>
  rw[q]at base
  cases z with
  | em=>rw[qu q]at base;exact base
  | va t=>rw[qu q]at base;exact base
  | ow o=>exact base
theorem Ev.disown (E:Ev K B M H Z σ)(i:Nat):Ev K B (M.set i sC) H (disown i Z) σ/\∀a,(M.set i sC).u a->M.u a:=by
 have sub:∀a,(M.set i sC).u a->M.u a:=λa z=>(Mn.set_u z).elim (λw=>w.elim) id
 refine⟨⟨E.env.disown i (λa z=>z.elim .inl λw=> .inr (sub a w)) (λa z y=> ?_) λj a hj z=> .inr ⟨j,by rw[Mn.set_ne hj];exact z⟩,λa z=>E.mine a (sub a z)⟩,sub⟩
 rcases y with y | ⟨j,y⟩
 ·exact E.mine a ⟨i,z⟩ y
 ·unfold Mn.set at y
  by_cases hj:j=i
  ·rw[if_pos hj]at y;exact y
  ·rw[if_neg hj]at y;exact hj (E.env.dis j i a y z)
end
section
variable {X:Cx}{a:Expr}{es:List Expr}{fa:En->Rs T}{pos p2 p3:Pos}{x:Str}
theorem Ev.subO {K:PySem.W.Frag}{B:Ow}{M:Mn}{H:Hp}{i:Nat}{m:Ow}(hm:∀a,m a->Nw K H a)(a:Addr)(z:OO B (M.set i m) a):OO B M a\/Nw K H a:=
 z.elim (λw=> .inl (.inl w)) λw=>(Mn.set_u w).elim (λy=> .inr (hm a y)) λy=> .inl (.inr y)
theorem jI {K:PySem.W.Frag}{H H1:Hp}(s:Same H H1){a:Addr}(n:Nw K H1 a):Nw K H a:=(gB (SameO.of (P:=sC) s) n).elim (λz=>z.elim) id
def DB (X:Cx)(t:TA):TE:=λσ H Q=>t σ H λxs H1=>xs.length<=sizeLine/\∀p,Nw X.K H1 p->Q (.ref p) (upd H1 p (.lst xs))
theorem z9 {t:TA}(h:PA X es t):PE X (.List es pos) (DB X t):=by
 intro pins s σ H Q I hq;refine wpAny_List_spliced (cv (h pos pins s σ H _ I hq) λus s1 ⟨xs,H1,I1,r,z,q⟩=>⟨by rw[<-r.length];exact z,?_⟩)
 have hf:H1 s1.heap.objs.size=none:=I1.hok.fresh (Nat.le_refl _)
 have hk:X.K.lookup s1.heap.objs.size=none:=by
  cases q:X.K.lookup s1.heap.objs.size with
  | none=>rfl
  | some o=>exact absurd (Heap.lt_size (I1.kIn _ o q)) (Nat.lt_irrefl _)
 refine⟨.ref s1.heap.objs.size,upd H1 s1.heap.objs.size (.lst xs),I1.laid (t':=s1.toks) (λb u e=>Heap.get?_push_of_some _ e) (Nat.le_refl _) ?_,rfl,q _ ⟨hf,hk⟩⟩
 exact⟨z,us,0,r,Heap.get?_push_size _ rfl⟩
def g8 (i:Nat)(f:En->Rs (List T))(Z:En):Rs Fl:=do
 let l <-f Z
 if i<Z.length/\l.length<=sizeLine then .ok (.nx (Z.set i (.ow (.lst l))))else .bad
theorem zy (i:Nat){f:En->Rs (List T)}(hN:X.N.Nodup)(ha:n9 X es f)(hi:X.N[i]? =some x:=by rfl)(hx:Loc X.env.scope x:=by first | exact Or.inl rfl | exact Or.inr rfl)(hs:swapsWith (.List es p2) (some (.Name x p3)) pos.line X.env=pure false:=by rfl)
  (hf:X.fn x=true\/X.env.scope.names.lookup x=some .local:=by first | exact .inl rfl | exact .inr rfl | assumption):mL X (.Assign [.Name x p3] (.List es p2) pos) (g8 i f):=PS.imp (oM hN hi hx (z9 ha) hs hf) λD σ H hh_=>by
 obtain⟨Z,B,M,E,h⟩:=hh_;refine⟨Z,OO B M,E.o,?_⟩
 unfold g8 at h
 cases q:f Z with
 | bad=>rw[q]at h;exact h.elim
 | err c=>rw[q]at h;exact PostF.xa h
 | ok l=>
  rw[q,ax]at h;intro H1 s1 vs rs
  by_cases hl:i<Z.length/\l.length<=sizeLine
  ·rw[if_pos hl]at h
   refine⟨by rw[<-rs.length];exact hl.2,λp hp=> ?_⟩
   have hm:∀a,a=p->Nw X.K H1 a:=λa z=>z▸hp
   obtain⟨E2,sub⟩:=(E.same s1).new (m:=λa=>a=p) (o:=.lst l) (v:=.ref p) (H':=upd H1 p (.lst vs)) hl.1 hm (aO hp.1 _) ⟨p,vs,rfl,λb=>Iff.rfl,aA,(rs.more (Ev.subO hm)).same (aO hp.1 _)⟩
   exact h _ _ _ (SameO.of (s1.trans (aO hp.1 _))) E2 λa z=>(sub a z).imp_right (jI s1)
  ·rw[if_neg hl]at h
   exact h.elim
def gR (i:Nat)(f:En->Rs T)(Z:En):Rs Fl:=match Z[i]? with
 | some (.ow (.lst l))=>f Z >>= λt=>if l.length<sizeLine then .ok (.nx (Z.set i (.ow (.lst (l++ [t])))))else .bad
 | _=> .bad
theorem Ev.putL {K:PySem.W.Frag}{B:Ow}{M:Mn}{H:Hp}{Z:En}{σ:L2.St}{i:Nat}{o:OT}{l':List T}{b:Addr}{vs':List V}(E:Ev K B M H Z σ)(hi:Z[i]? =some (.ow o))(hs:σ[i]? =some (some (.ref b)))(hM:∀c,M i c↔c=b)(r:Reps K (OO B M) H l' vs') :
  Ev K B M (upd H b (.lst vs')) (Z.set i (.ow (.lst l'))) σ/\SameO M.u H (upd H b (.lst vs')):=by
 have sm:SameO (M i) H (upd H b (.lst vs')):=λc u e nb=>by rw[ay (λz=>nb ((hM c).mpr z))];exact e
 exact E.put hi hs sm ⟨b,vs',rfl,hM,aA,r.move (P:=M i) (λa z=> .inl (.inr ⟨i,z⟩)) (λa z=> .inl z) sm⟩
theorem BY (i:Nat){apos cpos:Pos}(ha:cz X a fa)(hN:X.N[i]? =some x:=by rfl)(hv:rV X.env.scope x:=by first | exact Or.inl rfl | exact Or.inr (Or.inl rfl) | exact Or.inr (Or.inr rfl))(hn:bo a=true:=by rfl)
  (hbase:attributeBase (.Name x p2) "append" X.env (eval (.Name x p2) X.env)=eval (.Name x p2) X.env:=by rfl) (hline:(apos.endLine == cpos.line)=true:=by rfl)
  (hd:(x == ("__debug__" : Str))=false:=by decide) (hcd:(x == ("__classdict__" : Str))=false:=by decide)
  (hsw:swapsWith (.Call (.Attribute (.Name x p2) "append" apos) [a] [] cpos) none pos.line X.env=pure false:=by rfl):mL X (.Expr (.Call (.Attribute (.Name x p2) "append" apos) [a] [] cpos) pos) (gR i fa):=by
 have h1:starEach [a] X.env=(false,eval a X.env)::starEach [] X.env:=aU hn;refine PS.imp (oN (A8 PySem.F.plainAttrs_list PySem.F.slot_list_append PySem.F.type_list_append nF (jc hN hv hd hcd) (dU ha g9 h1) hbase ?_ hline h1 rfl) hsw) λD σ H ⟨Z,B,M,E,h⟩=> ?_
 ·rw[h1];rfl
 unfold gR at h
 split at h
 ·rename_i l hl
  obtain⟨v0,e1,b,vs,rfl,hM,e3,e4⟩:=E.env.own i _ hl;refine⟨.ref b,e1,.inl ⟨rfl,vs,SqL.of e3⟩,Z,OO B M,E.o,?_⟩
  cases q:fa Z with
  | bad=>rw[q]at h;exact h.elim
  | err c=>rw[q]at h;exact PostF.xa h
  | ok t=>
   rw[q,ax]at h
   split at h
   ·rename_i hz
    intro H1 s1 v r
    have e3':=s1 _ _ e3;refine⟨b,vs,v,rfl,rfl,e3',by rw[<-e4.length];exact hz,?_⟩
    obtain⟨g1,g2⟩:=(E.same s1).putL (l':=l++ [t]) (vs':=vs++ [v]) hl e1 hM ((e4.same s1).append (Reps.cons_ r Reps.nil_));exact h σ _ M (λc o e nb=>g2 c o (s1 _ _ e) nb) g1 λc z=> .inl z
   ·exact h.elim
 ·exact h.elim
def C9 (i:Nat)(l:List T)(Z:En):T->Rs Fl
 | .lst m=>if l.length+m.length<=sizeLine then .ok (.nx (Z.set i (.ow (.lst (l++m)))))else .bad
 | _=> .bad
def lM (i:Nat)(f:En->Rs T)(Z:En):Rs Fl:=match Z[i]? with
 | some (.ow (.lst l))=>f Z >>= C9 i l Z
 | _=> .bad
theorem BV (i:Nat){apos cpos:Pos}(ha:cz X a fa)(hN:X.N[i]? =some x:=by rfl)(hv:rV X.env.scope x:=by first | exact Or.inl rfl | exact Or.inr (Or.inl rfl) | exact Or.inr (Or.inr rfl))(hn:bo a=true:=by rfl)
  (hbase:attributeBase (.Name x p2) "extend" X.env (eval (.Name x p2) X.env)=eval (.Name x p2) X.env:=by rfl) (hline:(apos.endLine == cpos.line)=true:=by rfl)
  (hd:(x == ("__debug__" : Str))=false:=by decide) (hcd:(x == ("__classdict__" : Str))=false:=by decide)
  (hsw:swapsWith (.Call (.Attribute (.Name x p2) "extend" apos) [a] [] cpos) none pos.line X.env=pure false:=by rfl):mL X (.Expr (.Call (.Attribute (.Name x p2) "extend" apos) [a] [] cpos) pos) (lM i fa):=by
 have h1:starEach [a] X.env=(false,eval a X.env)::starEach [] X.env:=aU hn;refine PS.imp (oN (A8 PySem.F.plainAttrs_list PySem.F.slot_list_extend PySem.F.type_list_extend vi (jc hN hv hd hcd) (dU ha g9 h1) hbase ?_ hline h1 rfl) hsw) λD σ H ⟨Z,B,M,E,h⟩=> ?_
 ·rw[h1];rfl
 unfold lM at h
 split at h
 ·rename_i l hl
  obtain⟨v0,e1,b,vs,rfl,hM,e3,e4⟩:=E.env.own i _ hl;refine⟨.ref b,e1,.inl ⟨rfl,vs,SqL.of e3⟩,Z,OO B M,E.o,?_⟩
  cases q:fa Z with
  | bad=>rw[q]at h;exact h.elim
  | err c=>rw[q]at h;exact PostF.xa h
  | ok t=>
   rw[q,ax]at h;unfold C9 at h
   split at h
   ·rename_i m
    split at h
    ·rename_i hz
     intro H1 s1 v r;obtain⟨c,ws,rfl,nO,hc,rm⟩:=Rep.lst_iff.mp r
     have e3':=s1 _ _ e3;refine⟨b,c,vs,ws,rfl,rfl,e3',hc,by rw[<-e4.length,<-rm.length];exact hz,?_⟩
     obtain⟨g1,g2⟩:=(E.same s1).putL (l':=l++m) (vs':=vs++ws) hl e1 hM ((e4.same s1).append rm);exact h σ _ M (λc o e nb=>g2 c o (s1 _ _ e) nb) g1 λc z=> .inl z
    ·exact h.elim
   ·exact h.elim
 ·exact h.elim
def kP (i:Nat)(F:En->Rs Fl)(Z:En):Rs Fl:=F (disown i Z)
theorem BW (i:Nat){st:Stmt}{F:En->Rs Fl}(h:mL X st F):mL X st (kP i F):=PS.imp h λD σ H hh_=>by
 obtain⟨Z,B,M,E,q⟩:=hh_;obtain⟨E',sub⟩:=E.disown i;exact⟨disown i Z,B,_,E',PostF.later q (λ_ _ e _=>e) λa z=> .inl (sub a z)⟩
mutual
def T.nk (D:Bool):T->Bool
 | .scr _=>false
 | .dct _ ts=> !D&&nks D ts
 | .lst l=>D&&nks D l
 | .tup l=>nks D l
 | _=>true
def nks (D:Bool):List T->Bool
 | [] =>true
 | t::l=>t.nk D&&nks D l
end
mutual
theorem Rep.lend {K:PySem.W.Frag}{O O':Ow}{H:Hp}{D:Bool}(hk:∀a,O a->O' a\/if D then ∃kvs,Rd H a (.dT kvs)else ∃vs,H a=some (.lst vs)):∀{t:T} {v:V},t.nk D=true->Rep K O' H t v->Rep K O H t v
 | .non,_,_,r=>by unfold Rep at r ⊢;exact r
 | .bl _,_,_,r=>by unfold Rep at r ⊢;exact r
 | .int _,_,_,r=>by unfold Rep at r ⊢;exact r
 | .str _,_,_,r=>by unfold Rep at r ⊢;exact r
 | .tup l,_,h,r=>by
  unfold Rep at r ⊢;unfold T.nk at h;obtain⟨a,vs,e,n,q,z⟩:=r;refine⟨a,vs,e,λp=>(hk a p).elim n λw=> ?_,q,Reps.lend hk h z⟩
  split at w
  ·obtain⟨_,w | ⟨_,w⟩⟩:=w <;> rw[q]at w <;> cases w
  ·obtain⟨_,w⟩:=w;rw[q]at w;cases w
 | .lst l,_,h,r=>by
  unfold Rep at r ⊢;unfold T.nk at h;rw[Bool.and_eq_true]at h;obtain⟨h1,h2⟩:=h;subst h1;obtain⟨a,vs,e,n,q,z⟩:=r;refine⟨a,vs,e,λp=>(hk a p).elim n λw=> ?_,q,Reps.lend hk h2 z⟩
  rw[if_pos rfl]at w;obtain⟨_,w | ⟨_,w⟩⟩:=w <;> rw[q]at w <;> cases w
 | .scr l,_,h,r=>by unfold T.nk at h;cases h
 | .dct ks ts,_,h,r=>by
  unfold Rep at r ⊢;unfold T.nk at h;rw[Bool.and_eq_true]at h;obtain⟨h1,h2⟩:=h
  cases D with
  | true=>cases h1
  | false=>
   obtain⟨a,kvs,e,n,q,k,z⟩:=r;refine⟨a,kvs,e,λp=>(hk a p).elim n λw=> ?_,q,k,Reps.lend hk h2 z⟩
   rw[if_neg Bool.false_ne_true]at w;obtain⟨_,w⟩:=w;rcases q with q | ⟨_,q⟩ <;> rw[q]at w <;> cases w
theorem Reps.lend {K:PySem.W.Frag}{O O':Ow}{H:Hp}{D:Bool}(hk:∀a,O a->O' a\/if D then ∃kvs,Rd H a (.dT kvs)else ∃vs,H a=some (.lst vs)):∀{l:List T} {vs:List V},nks D l=true->Reps K O' H l vs->Reps K O H l vs
 | [],_,_,r=>by unfold Reps at r ⊢;exact r
 | t::l,_,h,r=>by
  unfold Reps at r ⊢;unfold nks at h;rw[Bool.and_eq_true]at h;obtain⟨v,ws,e,p,q⟩:=r;exact⟨v,ws,e,Rep.lend hk h.1 p,Reps.lend hk h.2 q⟩
end
def ln (i:Nat)(f:En->Rs T)(Z:En):Rs T:=match Z[i]? with
 | some (.ow o)=>f (disown i Z) >>= λt=>if t.nk o.isD=true then .ok t else .bad
 | _=>f Z
def CD (i:Nat)(f:En->Rs Bool)(Z:En):Rs Bool:=f (disown i Z)
theorem oh {K:PySem.W.Frag}{O:Ow}{M:Mn}{H:Hp}{Z:En}{σ:L2.St}(E:EnvM K O M H Z σ)(i:Nat):EnvM K (λa=>O a/\¬ M i a) (M.set i sC) H (disown i Z) σ:=
 E.disown i (λa z=>z.1) (λa z y=>y.2 z) λj a hj z=>⟨E.sub j a z,λy=>hj (E.dis j i a z y)⟩
theorem q_ln (i:Nat){e:Expr}{f:En->Rs T}(h:cz X e f):cz X e (ln i f):=PE.imp h λσ H Q ⟨Z,O,⟨M,E⟩,q⟩=>by
 unfold ln at q
 split at q
 ·rename_i o hi
  refine⟨disown i Z,_,⟨_,oh E i⟩,?_⟩
  obtain⟨w,e1,r⟩:=E.own i o hi;refine Post.mono (Post.bind q) λt H' s q2 v rv=> ?_
  split at q2
  ·rename_i hk
   have kd:=(r.same s).kind;refine q2 H' (Same.refl _) v (Rep.lend (λa z=> ?_) hk rv)
   by_cases hm:M i a
   ·refine .inr ?_
    have this:=kd a hm
    by_cases hD:o.isD=true
    ·rw[if_pos hD]at this ⊢;exact this.imp λ_ z=> .inl z
    ·rw[if_neg hD]at this ⊢;exact this
   ·exact .inl ⟨z,hm⟩
  ·exact q2.elim
 ·exact⟨Z,O,⟨M,E⟩,q⟩
theorem DO (i:Nat){e:Expr}{f:En->Rs Bool}(h:rW X e f):rW X e (CD i f):=PT.imp h λσ H Q ⟨Z,O,⟨M,E⟩,q⟩=>⟨disown i Z,_,⟨_,oh E i⟩,q⟩
end
end Tr
namespace Tr
open PySem L2
def kn:List T->List T->List Key->Option T
 | k'::ks,v::vs,k=>if aQ k'=some k then some v else kn ks vs k
 | _,_,_=>none
def fI (k v:T):List T->List T->List T×List T
 | k'::ks,v'::vs=>if aQ k'=aQ k then(k'::ks,v::vs)else(k'::(fI k v ks vs).1,v'::(fI k v ks vs).2)
 | _,_=>([k],[v])
def aL (x y:T):Rs T:=match x,aQ y with
 | .dct ks vs,some k=>match kn ks vs k with
  | some t=> .ok t
  | none=> .bad
 | _,_=> .bad
def gP (x y:T):Rs T:=match x,aQ y with
 | .dct ks vs,some k=>match kn ks vs k with
  | some t=> .ok t
  | none=> .ok .non
 | _,_=> .bad
def oD (g:T->T->Rs T)(fa fb:En->Rs T)(Z:En):Rs T:=fa Z >>= λx=>match x with
 | .dct ks vs=>fb Z >>= g (.dct ks vs)
 | _=> .bad
def oL (g:T->T->Rs T)(fa fb:En->Rs T)(Z:En):Rs T:=fa Z >>= λx=>match x with
 | .lst l=>fb Z >>= g (.lst l)
 | _=> .bad
def Ds:List T->Option (List (T×T))
 | [] =>some []
 | .tup [k,v] ::l=>match aQ k,Ds l with
  | some _,some r=>some ((k,v)::r)
  | _,_=>none
 | _=>none
def f8:List (T×T)->List T×List T->List T×List T
 | [],d=>d
 | (k,v)::r,d=>f8 r (fI k v d.1 d.2)
def uB:List T->Rs T
 | [.lst l] =>match Ds l with
  | some ps=>if l.length<=1000 then .ok (.dct (f8 ps ([],[])).1 (f8 ps ([],[])).2)else .bad
  | none=> .bad
 | _=> .bad
def gp:List T->Bool
 | [] =>true
 | k::l=>(aQ k).isSome&&gp l
def nu (i:Nat)(f:En->Rs T)(Z:En):Rs Fl:=f Z >>= λt=>uB [t] >>= λd=>match d with
 | .dct ks vs=>if i<Z.length then .ok (.nx (Z.set i (.ow (.dct ks vs))))else .bad
 | _=> .bad
def oE (i:Nat)(Z:En):Rs Fl:=if i<Z.length then .ok (.nx (Z.set i (.ow (.dct [] []))))else .bad
def mT (i:Nat)(fk fv:En->Rs T)(Z:En):Rs Fl:=match Z[i]? with
 | some (.ow (.dct ks vs))=>fv Z >>= λv=>fk Z >>= λk=>match aQ k with
  | some _=>if ks.length<1000 then .ok (.nx (Z.set i (.ow (.dct (fI k v ks vs).1 (fI k v ks vs).2))))else .bad
  | none=> .bad
 | _=> .bad
def lL (i j:Nat)(Z:En):Rs Fl:=match Z[j]? with
 | some (.va (.lst l))=>if i<Z.length/\gp l=true/\(l.map aQ).Nodup/\l.length<=1000 then .ok (.nx (Z.set i (.ow (.dd l (l.map λ_=>(l,l.map λ_=> .non))))))else .bad
 | _=> .bad
def mV:List T->List (List T×List T)->List Key->Option (List T×List T)
 | k'::ks,r::rs,k=>if aQ k'=some k then some r else mV ks rs k
 | _,_,_=>none
def mU (k:List Key)(x:List T×List T):List T->List (List T×List T)->List (List T×List T)
 | k'::ks,r::rs=>if aQ k'=some k then x::rs else r::mU k x ks rs
 | _,rs=>rs
def gL (i:Nat)(fa fb fv:En->Rs T)(Z:En):Rs Fl:=match Z[i]? with
 | some (.ow (.dd ks rows))=>fv Z >>= λv=>fa Z >>= λa=>match(aQ a).bind λka=>(mV ks rows ka).map λr=>(ka,r)with
  | some (ka,r)=>fb Z >>= λb=>if (aQ b).isSome=true/\r.1.length<1000 then .ok (.nx (Z.set i (.ow (.dd ks (mU ka (fI b v r.1 r.2) ks rows)))))else .bad
  | none=> .bad
 | _=> .bad
def i0:List T->Option (List Int)
 | [] =>some []
 | .int i::l=>(i0 l).map (i:: ·)
 | _=>none
def dW (i:Int):List Int->Int
 | [] =>i
 | j::l=>dW (if j<i then j else i) l
def dX (i:Int):List Int->Int
 | [] =>i
 | j::l=>dX (if i<j then j else i) l
def m4:List T->Rs T
 | [.lst l] =>match i0 l with
  | some (i::ns)=> .ok (.int (dW i ns))
  | _=> .bad
 | [.int i,.int j] => .ok (.int (dW i [j]))
 | _=> .bad
def m5:List T->Rs T
 | [.lst l] =>match i0 l with
  | some (i::ns)=> .ok (.int (dX i ns))
  | _=> .bad
 | [.int i,.int j] => .ok (.int (dX i [j]))
 | _=> .bad
def fH (x:T):List T->Nat->Option Nat
 | [],_=>none
 | t::l,n=>if aR t x then some n else fH x l (n+1)
def cm (y x:T):Rs T:=match y with
 | .lst l=>if (x.dep<=60\/deps l<=60)/\x.nd=true/\nds l=true then match fH x l 0 with
   | some n=> .ok (.int n)
   | none=> .bad
  else .bad
 | _=> .bad
def iD (f:En->Rs T)(Z:En):Rs (List T):=f Z >>= λx=>match x with
 | .dct ks _=> .ok ks
 | _=> .bad
def iZ (f:En->Rs (List T))(Z:En):Rs (List T):=f Z >>= λx=>match x with
 | [a,b] =>match a.items,b.items with
  | some l,some m=> .ok ((l.zip m).map λp=> .tup [p.1,p.2])
  | _,_=> .bad
 | _=> .bad
def FU:Nat:=1000000000000
end Tr
namespace Tr
open PySem PySem.Spec PyProof.Rows L2
theorem i8 {h b b':Heap}:∀{l:List Env},h.FunFrames b l->(∀a∈l.filterMap (·.frame),b'.get? a=none)->h.FunFrames b' l
 | [],_,_=>trivial
 | env::rest,⟨hk,⟨L,o,hf,hn,ho,hd⟩,hr⟩,q=>by
  rw[List.filterMap_cons,hf]at q;exact⟨hk,⟨L,o,hf,q L List.mem_cons_self,ho,hd⟩,i8 hr λa ha=>q a (List.mem_cons_of_mem _ ha)⟩
section
variable {M:Model}{A:Around}{E:Value->Shared->Prop}{s:Shared}
structure Gone (fs:List Addr)(C e:Addr)(T:Option Addr)(h h':Heap)(T':Addr):Prop where
 flt:Fp h' C e (some T')
 new:T=some T'\/h.get? T'=none
 keep:∀b o,b∉fs->b≠e->T≠some b->h.get? b=some o->h'.get? b=some o
 slot:∀b o,b∈fs->h.get? b=some o->∃sl,h'.get? b=some { o with slots:=sl }
theorem CF {base:Heap}{env:Env}{outer:List Env}{L C e:Addr}{T:Option Addr}{Q:Unit->Shared->Prop}(hfr:A.frames=some (env::outer))(hl:s.heap.FunFrames base (env::outer))(hf:env.frame=some L)
  (F:Fp s.heap C e T) (h:∀h' T',Gone ((env::outer).filterMap (·.frame)) C e T s.heap h' T'->Q () { s with heap:=h' }):wpAny M A (leaving env (.ref e)) Q E s:=by
 generalize hB:PySem.W.hideAll s.heap (e::(T.toList++(env::outer).filterMap (·.frame)))=B
 have bm:∀b,b∈e::(T.toList++(env::outer).filterMap (·.frame))->B.get? b=none:=λb m=>by rw[<-hB];exact PySem.W.hideAll_none _ m
 have hl':s.heap.FunFrames B (env::outer):=i8 hl λa ha=>bm a (List.mem_cons_of_mem _ (List.mem_append_right _ ha))
 have hst:B.StaysIn s.heap:=λb o q=>by rw[<-hB]at q;exact PySem.W.of_hideAll _ q
 have hen:B.get? e=none:=bm e List.mem_cons_self
 have main:∀h',Heap.Left B (env::outer) e (.ref C) s.heap h'->Q () { s with heap:=h' }:=λh' ⟨x1,x2,⟨oe,vs,T',oT,ts,he,hc,hd,h1,hnT,hTe,hT,hdT,h3⟩,x4⟩=>by
  refine h h' T' ⟨⟨hTe,oe,vs,he,hc,hd,h1,oT,ts,hT,hdT,h3⟩,?_,λb o n1 n2 n3 q=> ?_,λb o m q=> ?_⟩
  ·cases q:s.heap.get? T' with
   | none=>exact .inr rfl
   | some o=>
    left
    by_cases z:T'∈e::(T.toList++(env::outer).filterMap (·.frame))
    ·rcases List.mem_cons.mp z with z | z
     ·exact absurd z hTe
     ·rcases List.mem_append.mp z with z | z
      ·cases T with
       | none=>simp at z
       | some t=>simp at z;rw[z]
      ·obtain⟨_,o',ho',hnf⟩:=x2.mem z
       rw[hT]at ho';cases ho';exact absurd hdT (hnf ts)
    ·rw[<-hB,PySem.W.hideAll_get _ q z]at hnT;cases hnT
  ·refine x1 b o ?_
   rw[<-hB];refine PySem.W.hideAll_get _ q λz=> ?_
   rcases List.mem_cons.mp z with z | z
   ·exact n2 z
   ·rcases List.mem_append.mp z with z | z
    ·cases T with
     | none=>simp at z
     | some t=>simp at z;exact n3 (by rw[z])
    ·exact n1 z
  ·obtain⟨_,o',ho',hnf⟩:=hl.mem m
   rw[q]at ho';cases ho';exact x4 b o q hnf
 cases T with
 | none=>
  obtain⟨oe,vs,he,hc,hd,h1⟩:=F;refine wpAny_leaving_first hfr hl' hf he hst hen hd h1 λh' x=>main h' ?_
  rw[hc]at x;exact x
 | some t=>
  obtain⟨hte,oe,vs,he,hc,hd,h1,oT,ts,hT,hdT,h3⟩:=F;exact wpAny_leaving_next hfr hl' hf ⟨oe,vs,t,oT,ts,he,hc,hd,h1,bm t (List.mem_cons_of_mem _ (List.mem_append_left _ (by simp))),hte,hT,hdT,h3⟩ hst hen main
end
abbrev uI:List Value:=[.type "ValueError",.type "Exception",.type "BaseException",.type "object"]
structure OwnExc (K:PySem.W.Frag)(C:Addr)(bm:List Value):Prop where
 at_:∀h:Heap,K.In h->∃nm q N bs hdct sn sub ab col dd k0 k1 k2 k3 k5 mN,h.get? C=some (excClassObj nm q C N bs bm hdct sn sub ab col dd k0 k1 k2 k3 k5 "ValueError.__new__")/\h.Ns N mN/\mN "__init__" =none/\OwnTail h uI bm
theorem OwnExc.base {K:PySem.W.Frag}{C:Addr}{bm:List Value}(O:OwnExc K C bm){h:Heap}(k:K.In h):bm.contains (.type "BaseException")=true:=by
 obtain⟨_,_,_,_,_,_,_,_,_,_,_,_,_,_,_,_,_,_,_,T⟩:=O.at_ h k;exact T.hasType (by decide)
def zq (c:Str)(_:En):Rs Fl:=.err c
section
variable {X:Cx}
theorem wK {c:Str}{msg:Str}{C:Addr}{bm:List Value}{np p1 cpos pos:Pos}{j:Nat}(O:OwnExc X.K C bm)(hc:X.calm=true)(hm:X.mg c=some (.ref C))(hg:Gl X c:=by rfl)(hd:(c == ("__debug__" : Str))=false:=by decide) :
  mL X (.Raise (some (.Call (.Name c np) [.Constant (.str msg) j p1] [] cpos)) none pos) (zq c):=by
 intro pins s σ H D I ⟨Z,B,M,E,k⟩
 have k:XA X M.u H c:=k;obtain⟨nm,q,N,bs,hdct,sn,sub,ab,col,dd,k0,k1,k2,k3,k5,mN,hC,hN,hni,T⟩:=O.at_ s.heap I.kIn;refine wpAny_Raise_call_subU (C:=C) (mN:=mN) (nm:=nm) (q:=q) (N:=N) (bs:=bs) (hdct:=hdct) (sn:=sn) (sub:=sub) (ab:=ab) (col:=col) (dd:=dd) (k0:=k0) (k1:=k1) (k2:=k2) (k3:=k3) (k5:=k5) PySem.F.excBase_ValueError (Bn:="ValueError") (by decide) PySem.F.excBase_ValueError (O.base I.kIn) (I.ok.hd hc) (by rfl) hni (ld I hg hm ⟨rfl,?_⟩ hd)
 show wpAny _ _ (evalArgs (.ref C) true ((false,eval (.Constant (.str msg) j p1) X.env)::backTo cpos (starEach [] X.env)) []) _ _ s
 refine Calls.evalArgs_plain (Calls.spliced_cons (Calls.Constant_str (Calls.spliced_nil ?_)))
 refine⟨rfl,by show 1<=sizeLine;decide,hC,hN,T,λh' e hm'=>k pins _ _ ?_⟩
 obtain⟨t,ht,ht2,ht3⟩:=hm'.there
 have I':Inv X pins σ H { s with heap:=h',toks:=s.toks+1 }:=I.kept (t':=s.toks+1) λb o z=>hm'.keeps b o z
 refine⟨e,none,C,σ,H,rfl,hm,I',λb o z _=>z,?_,?_,⟨_,_,ht,rfl,rfl,rfl⟩,(λt z=>by cases z),λp hp=>⟨λz=> ?_,λz=>by cases z⟩⟩
 ·exact qT I hm'.new
 ·exact λhex=>o8 I hex hm'.new
 ·have:=(I.pin p hp).1
  rw[z,show s.heap.get? e=none from hm'.new]at this
  cases this
end
section
variable {P:Program}{w:World}{K:PySem.W.Frag}{mg:Str->Option Value}{base:Heap}
theorem C7 {x qual:Str}{st:Stmt}{f:Addr}{fd:FuncData}{N ps:List Str}{k n:Nat}{g:List T->Rs T}(Fn:L2.Fun K x qual st f fd)(S:aG N ps (aj st))(hn:ps.length=n)
  (hbody:∀(cdv:Value) (A:Around) (outer:List Env) (s:Shared) (H:Hp) (E:XK),Room k (A.deeper (envOfC qual (aj st) s.heap.objs.size f cdv)) →
   ∃F,(∀xe,k6 ((kr CX0 P w K mg base N qual (aj st) f cdv A outer s H E).wish xe) (dt st) F)/\∀ts,ts.length=n->∀c,g ts= .err c->F (aN N.length ts)= .err c):FnX P w K mg base (k+1) f fd ps n g:=by
 intro A outer s H args us vs O ts c R hr e0 hb r rs trk hl hg hR
 have hpl:ps.length<=N.length:=by have:=congrArg List.length S.pre;rw[List.length_take]at this;omega
 obtain⟨oc,od,kV,doc,pm,an,cdv,ct,osl,rfl,lk,hcd⟩:=Fn.ex
 have hlen:vs.length=ps.length:=by rw[<-rs.length,hl,hn]
 have KX:K.In s.heap:=e0.mod.kin.keeps λb o e=>(e0.bs b o e).1
 have lim:s.heap.NoLimit:=e0.mod.nolimit.keeps λb o e=>(e0.bs b o e).1
 have hkind:∀y∈ps.zip us,(aj st).names.lookup y.1=some .local\/((aj st).names.lookup y.1=some .cell/\((cellsFrom (s.heap.objs.size+1) (aj st).names []).lookup y.1).isSome=true):=λ⟨n,v⟩ hy=>by
  rcases S.par n (List.of_mem_zip hy).1 with q | q
  ·exact .inl q
  ·exact .inr ⟨q,PySem.W.cellsFrom_some _ _ _ (.inl q)⟩
 refine codeAny_call_function hr.depth (KX _ _ lk) rfl S.co S.gen rfl (PySem.W.codeRec_of KX hcd) (hb _ _ _ _ ?_)
 refine wpAny_newFunctionEnv_cells S.kind hkind λenv he s1 x=> ?_
 subst he;refine⟨lim.keeps x.toInCall.keep,codeAny_func ?_⟩
 obtain⟨F,hF,hv⟩:=hbody cdv A outer s H E0 (hr.deeper _)
 let xe:Value->Shared->Prop:=λev s'=>wpAny (model P w) (A.deeper (envOfC qual (aj st) s.heap.objs.size f cdv)) (leaving (envOfC qual (aj st) s.heap.objs.size f cdv) ev) (λ_ s''=>R (.error ev) s'') (λe' s''=>R (.error e') s'') s'
 have I:Inv ((kr CX0 P w K mg base N qual (aj st) f cdv A outer s H E0).wish xe) [] (start N vs) H s1:=(nQ S hr.hd e0 hlen r x).wish _
 have no:∀a,¬noM.u a:=λa ⟨_,z⟩=>z
 refine wpAny_mono (hF xe [] s1 (start N vs) H { nx:=λ_ _=>False,rt:=λ_ _=>False,bk:=λ_ _=>False,ct:=λ_ _=>False } I ⟨aN N.length ts,O,noM,nj rs (by omega) trk,?_⟩) (λfl s' z=> ?_) λe s' hs=>hs
 rotate_left
 ·cases fl with
  | next=>obtain⟨_,_,_,z⟩:=z;exact z.elim
  | cont=>obtain⟨_,_,_,z⟩:=z;exact z.elim
  | brk=>obtain⟨_,_,_,z⟩:=z;exact z.elim
  | ret v=>obtain⟨_,_,_,_,_,z⟩:=z;exact z.elim
 rw[hv ts hl c hg];intro pins ev s' w'
 show wpAny _ _ _ _ _ _
 obtain⟨e,T,C,σ',H',rfl,hm,I',sm,he,heo,fl,hT,_⟩:=w'
 have heo:=heo rfl
 have hT:∀t,T=some t->H' t=none/\s.heap.get? t=none:=λt z=>⟨(hT t z).1,(hT t z).2 rfl⟩
 refine CF (base:=base) (outer:=outer) (L:=s.heap.objs.size) I'.ok.frames I'.stack rfl fl λh' T' g=>hR _ _ ?_
 have hex:((kr CX0 P w K mg base N qual (aj st) f cdv A outer s H E0).wish xe).ex= []:=rfl
 have Tn:H' T'=none/\s.heap.get? T'=none:=by
  rcases g.new with z | z
  ·exact hT T' z
  ·exact⟨qT I' z,o8 I' hex z⟩
 have out:∀b o,s.heap.get? b=some o->b≠s.heap.objs.size:=λb o q z=>by
  have:=Heap.lt_size q;rw[z]at this;exact absurd this (Nat.lt_irrefl _)
 have mem:∀b,b∈pB ((envOfC qual (aj st) s.heap.objs.size f cdv)::outer)->b=s.heap.objs.size\/b∈pB outer:=λb z=>by
  have z':b∈s.heap.objs.size::pB outer:=z;exact List.mem_cons.mp z'
 have ne:∀b o,s.heap.get? b=some o->b≠e/\T≠some b:=λb o q=>⟨λz=>(by subst z;rw[show s.heap.get? b=none from heo]at q;cases q),λz=>(by rw[show s.heap.get? b=none from(hT b z).2]at q;cases q)⟩
 have keepH:∀b u,H' b≠none->s'.heap.get? b=some u->h'.get? b=some u:=λb u hb q=>by
  refine g.keep b u (λz=>hb (I'.stkFree b z)) (λz=>hb (by rw[z];exact he)) (λz=>hb (hT b z).1) q
 refine⟨e,T',C,H',rfl,hm,I'.os,I'.bare,⟨λb o q n hb hx=> ?_,λb o q n hb hx=> ?_,λb o q n hx=>I'.base.free b o q n hx,λb o q hx=> ?_,I'.base.tups,I'.base.frzs,I'.base.tbls⟩,λa o q=> ?_,λb o q=>sm b o q (no b),he,heo,g.flt,Tn.1,Tn.2⟩
 ·exact g.keep b o (λz=>(mem b z).elim (out b o q) hb) (ne b o q).1 (ne b o q).2 (I'.base.keep b o q n hb hx)
 ·obtain⟨sl,q1⟩:=I'.base.slot b o q n hb hx
  obtain⟨sl',q2⟩:=g.slot b _ (List.mem_cons_of_mem _ hb) q1;exact⟨sl',q2⟩
 ·obtain⟨o',q1⟩:=I'.base.there b o q hx
  by_cases z:b∈pB ((envOfC qual (aj st) s.heap.objs.size f cdv)::outer)
  ·obtain⟨sl,q2⟩:=g.slot b o' z q1
   exact⟨_,q2⟩
  ·exact⟨o',g.keep b o' z (ne b o q).1 (ne b o q).2 q1⟩
 ·refine(I'.hok a o q).stay (λb u hb z=>keepH b u ?_ z) (λ_ z=>z) λ_ _ z=>z
  rcases hb with rfl | hb
  ·rw[q];simp
  ·rw[hb];simp
end
theorem zf {n m:Nat}{F:En->Rs Fl}{ts:List T}{c:Str}(h:val n m F ts= .err c):F (aN m ts)= .err c:=by
 unfold val at h
 split at h
 ·unfold bv at h
  cases z:F (aN m ts)with
  | bad=>rw[z]at h;cases h
  | err c'=>rw[z]at h;cases h;rfl
  | ok f=>
   rw[z,ax]at h;cases f <;> cases h
 ·cases h
section
variable {P:Program}{w:World}{K:PySem.W.Frag}{mg:Str->Option Value}{base:Heap}
theorem C8 {x qual:Str}{st:Stmt}{f:Addr}{fd:FuncData}{N ps:List Str}{k n:Nat}{F:En->Rs Fl}(Fn:L2.Fun K x qual st f fd)(S:aG N ps (aj st))(hn:ps.length=n)
  (hbody:∀(cdv:Value) (A:Around) (outer:List Env) (s:Shared) (H:Hp) (E:XK),Room k (A.deeper (envOfC qual (aj st) s.heap.objs.size f cdv)) →
   ∀xe,k6 ((kr CX0 P w K mg base N qual (aj st) f cdv A outer s H E).wish xe) (dt st) F):Dr P w K mg base (k+1) f fd ps n (val n N.length F):=
 ⟨EJ Fn S hn λcdv A outer s H E hr=>⟨F,hbody cdv A outer s H E hr _,λts _ _ h=>Br h⟩,C7 Fn S hn λcdv A outer s H E hr=>⟨F,hbody cdv A outer s H E hr,λts _ c h=>zf h⟩⟩
end
section
variable {X:Cx}{a:Expr}{fa:En->Rs T}{pos p:Pos}{x:Str}
theorem DS:mL X (.Continue pos) A5:=PS.imp qI λD σ H ⟨Z,B,M,E,h⟩=>h σ H M (λ_ _ e _=>e) E λa z=> .inl z
end
def calmNames:List Str:=["__init__","__getattribute__","__getattr__","__class__"]
inductive OTail (h:Heap):List Value->Prop
 | base:OTail h uI
 | own {A:Addr} {c0:Value} {dd:Option Addr} {cd:ClassData} {sl:Array (Option Value)} {mA:Str->Option Value} {tl:List Value} :
   h.get? A=some { cls:=c0,dict:=dd,data:=.cls cd,slots:=sl }->h.Ns cd.ns mA->(∀n∈calmNames,mA n=none)->OTail h tl->OTail h (.ref A::tl)
theorem OTail.tail {h:Heap}{tl:List Value}(T:OTail h tl):OwnTail h uI tl:=by
 induction T with
 | base=>exact .base
 | own hA hN hq _ ih=>exact .own hA hN (hq _ (.head _)) ih
structure OX (K:PySem.W.Frag)(C:Addr)(bm:List Value):Prop where
 at_:∀h:Heap,K.In h->∃nm q N bs hdct sn sub ab col dd k0 k1 k2 k3 k5 mN,h.get? C=some (excClassObj nm q C N bs bm hdct sn sub ab col dd k0 k1 k2 k3 k5 "ValueError.__new__")/\h.Ns N mN/\(∀n∈calmNames,mN n=none)/\OTail h bm
theorem OX.own {K:PySem.W.Frag}{C:Addr}{bm:List Value}(O:OX K C bm):OwnExc K C bm:=⟨λh k=>by
 obtain⟨nm,q,N,bs,hdct,sn,sub,ab,col,dd,k0,k1,k2,k3,k5,mN,h1,h2,h3,h4⟩:=O.at_ h k;exact⟨nm,q,N,bs,hdct,sn,sub,ab,col,dd,k0,k1,k2,k3,k5,mN,h1,h2,h3 _ (.head _),h4.tail⟩⟩
def ww:Value->Bool
 | .str _ _=>true
 | _=>false
theorem Ep {K:PySem.W.Frag}{N:Addr}{ob:Value}{oe:Option Addr}{es:Array DictEntry}{n:Nat}{oz:Array (Option Value)}(r:K.lookup N=some ⟨ob,oe,.dict es n,oz⟩)(s:(es.toList.all λe=>ww e.key)=true)
  (u0:PySem.W.nsIn K N "__init__" =some none) (u1:PySem.W.nsIn K N "__getattribute__" =some none) (u2:PySem.W.nsIn K N "__getattr__" =some none) (u3:PySem.W.nsIn K N "__class__" =some none) :
  ∀h:Heap,K.In h->∃mN,h.Ns N mN/\∀n∈calmNames,mN n=none:=λh k=>by
 refine⟨nsFind es,⟨_,es,n,k _ _ r,rfl,λe he=> ?_,λ_=>rfl⟩,λx hx=> ?_⟩
 ·have:=List.all_eq_true.mp s e (by simpa using he)
  cases q:e.key <;> rw[q]at this <;> first | exact⟨_,_,rfl⟩ | cases this
 ·have key:∀x,PySem.W.nsIn K N x=some none->nsFind es x=none:=λx u=>by
   unfold PySem.W.nsIn at u;rw[r]at u;simp only at u
   split at u
   ·cases u
   ·rename_i he
    unfold nsFind findBy;rw[<-Array.find?_toList,he];rfl
  unfold calmNames at hx;simp only[List.mem_cons,List.not_mem_nil,or_false]at hx;rcases hx with rfl | rfl | rfl | rfl
  ·exact key _ u0
  ·exact key _ u1
  ·exact key _ u2
  ·exact key _ u3
section
variable {K:PySem.W.Frag}{nm q:Str}{C N:Addr}{bs:List Value}{hdct:Bool}{sn:List Str}{sub:List Value}{ab:Bool}{col:Option Bool}{dd:Option Addr}{k0 k1 k2 k3 k5:Option Value}
variable {nm' q':Str}{D N':Addr}{bs':List Value}{hdct':Bool}{sn':List Str}{sub':List Value}{ab':Bool}{col':Option Bool}{dd':Option Addr}{k0' k1' k2' k3' k5':Option Value}
theorem Ac (w:K.lookup C=some (excClassObj nm q C N bs uI hdct sn sub ab col dd k0 k1 k2 k3 k5 "ValueError.__new__"))(ns:∀h:Heap,K.In h->∃mN,h.Ns N mN/\∀n∈calmNames,mN n=none):OX K C uI:=⟨λh k=>by
 obtain⟨mN,h1,h2⟩:=ns h k;exact⟨nm,q,N,bs,hdct,sn,sub,ab,col,dd,k0,k1,k2,k3,k5,mN,k _ _ w,h1,h2,.base⟩⟩
theorem xc (w:K.lookup C=some (excClassObj nm q C N bs (.ref D::uI) hdct sn sub ab col dd k0 k1 k2 k3 k5 "ValueError.__new__"))(ns:∀h:Heap,K.In h->∃mN,h.Ns N mN/\∀n∈calmNames,mN n=none)
  (wD:K.lookup D=some (excClassObj nm' q' D N' bs' uI hdct' sn' sub' ab' col' dd' k0' k1' k2' k3' k5' "ValueError.__new__")) (nsD:∀h:Heap,K.In h->∃mN,h.Ns N' mN/\∀n∈calmNames,mN n=none):OX K C (.ref D::uI):=⟨λh k=>by
 obtain⟨mN,h1,h2⟩:=ns h k;obtain⟨mD,d1,d2⟩:=nsD h k;exact⟨nm,q,N,bs,hdct,sn,sub,ab,col,dd,k0,k1,k2,k3,k5,mN,k _ _ w,h1,h2,.own (k _ _ wD) d1 d2 .base⟩⟩
end
end Tr
namespace L2
open PySem PySem.Spec PyProof.Rows
section
variable {κ:Type}[DecidableEq κ]
def gy (kvs:List (κ×V))(k:κ):Option V:=(kvs.find? λkv=>decide (kv.1=k)).map (·.2)
def cy (kvs:List (κ×V))(k:κ)(v:V):List (κ×V):=
 if (kvs.any λkv=>decide (kv.1=k))=true then kvs.map (λkv=>if kv.1=k then(kv.1,v)else kv)else kvs++ [(k,v)]
theorem wj {k:κ}:gy ([]:List (κ×V)) k=none:=rfl
theorem fM {p:κ×V}{r:List (κ×V)}{k:κ}(e:p.1=k):gy (p::r) k=some p.2:=by simp[gy,List.find?_cons,e]
theorem fN {p:κ×V}{r:List (κ×V)}{k:κ}(e:¬ p.1=k):gy (p::r) k=gy r k:=by simp[gy,List.find?_cons,e]
theorem p8 (k:κ):∀kvs:List (κ×V),(kvs.any λkv=>decide (kv.1=k))=(gy kvs k).isSome
 | [] =>rfl
 | p::r=>by
  rw[List.any_cons]
  by_cases e:p.1=k
  ·simp only[fM e,decide_eq_true e,Bool.true_or,Option.isSome_some]
  ·rw[fN e,decide_eq_false e,Bool.false_or];exact p8 k r
theorem dL (kvs:List (κ×V))(k:κ)(v:V):(cy kvs k v).length<=kvs.length+1:=by
 unfold cy;split
 ·rw[List.length_map];omega
 ·rw[List.length_append,List.length_cons,List.length_nil];omega
theorem RelO.isSome_eq {o:Option V}{u:Option Value}(r:RelO o u):o.isSome=u.isSome:=by
 cases o with
 | none=>cases u with
  | none=>rfl
  | some _=>exact(show False from r).elim
 | some _=>cases u with
  | none=>exact(show False from r).elim
  | some _=>rfl
theorem RelO.getD {o:Option V}{u:Option Value}{d:V}{d':Value}(r:RelO o u)(rd:RelV d d'):RelV (o.getD d) (u.getD d'):=by
 cases o with
 | none=>cases u with
  | none=>exact rd
  | some _=>exact(show False from r).elim
 | some _=>cases u with
  | none=>exact(show False from r).elim
  | some _=>exact r
theorem KV.val {kvs:List (κ×V)}{vs:List (κ×Value)}(r:KV kvs vs)(k:κ):RelO (gy kvs k) (valueAt vs k):=by
 unfold KV at r
 induction r with
 | nil=>exact True.intro
 | @cons p q ps qs h t ih=>
  obtain⟨h1,h2⟩:=h
  by_cases e:p.1=k
  ·have e':q.1=k:=h1.symm.trans e
   have b:valueAt (q::qs) k=some q.2:=by simp[valueAt,List.find?_cons,e']
   rw[fM e,b];exact h2
  ·have e':¬ q.1=k:=λz=>e (h1.trans z)
   have b:valueAt (q::qs) k=valueAt qs k:=by simp[valueAt,List.find?_cons,e']
   rw[fN e,b];exact ih
theorem KV.any {kvs:List (κ×V)}{vs:List (κ×Value)}(r:KV kvs vs)(k:κ):(kvs.any λkv=>decide (kv.1=k))=vs.any λkv=>decide (kv.1=k):=by
 unfold KV at r
 induction r with
 | nil=>rfl
 | cons h t ih=>rw[List.any_cons,List.any_cons,ih,h.1]
theorem KV.repl {kvs:List (κ×V)}{vs:List (κ×Value)}(r:KV kvs vs)(k:κ){y:V}{u:Value}(ry:RelV y u) :
  KV (kvs.map λkv=>if kv.1=k then(kv.1,y)else kv) (vs.map λkv=>if kv.1=k then(kv.1,u)else kv):=by
 unfold KV at r ⊢
 induction r with
 | nil=>exact .nil
 | @cons p q ps qs h t ih=>
  rw[List.map_cons,List.map_cons];refine .cons ?_ ih
  obtain⟨h1,h2⟩:=h
  by_cases e:p.1=k
  ·rw[if_pos e,if_pos (h1.symm.trans e)];exact⟨h1,ry⟩
  ·rw[if_neg e,if_neg (λz=>e (h1.trans z))];exact⟨h1,h2⟩
theorem KV.put {kvs:List (κ×V)}{vs:List (κ×Value)}(r:KV kvs vs)(k:κ){y:V}{u:Value}(ry:RelV y u):KV (cy kvs k y) (stored vs k u):=by
 unfold cy stored;rw[r.any k]
 by_cases e:(vs.any λkv=>decide (kv.1=k))=true
 ·rw[if_pos e,if_pos e];exact r.repl k ry
 ·rw[if_neg e,if_neg e];exact Paired.snoc r ⟨rfl,ry⟩
theorem KV.length {kvs:List (κ×V)}{vs:List (κ×Value)}(r:KV kvs vs):kvs.length=vs.length:=Paired.length r
end
theorem uk {P:Program}{w:World}{k:Key}{u:Value}(r:RelV (kV k) u):(bY P w).is k u=true:=by
 cases k with
 | inl i=>obtain⟨t,e⟩:=(show ∃t,u=Value.int i t from r);subst e;exact qY P w i t
 | inr x=>obtain⟨t,e⟩:=(show ∃t,u=Value.str x t from r);subst e;exact qX P w x t
theorem nP {P:Program}{w:World}:∀{ks:List Key} {us:List Value},Vals (ks.map kV) us->ItemsAre (bY P w) ks us
 | [],_,r=>by rw[List.map_nil]at r;cases r;exact .nil
 | k::ks,_,r=>by
  rw[List.map_cons]at r
  cases r with
  | cons h t=>exact .cons (uk h) (nP t)
abbrev KT (H:Hp):List (List Key×V)->List (List Key×Addr×Value)->Prop:=Paired λp q=>p.1=q.1/\H q.2.1=some (.tup (p.1.map kV))/\RelV p.2 q.2.2
theorem KT.val {H:Hp}{kvs:List (List Key×V)}{xs:List (List Key×Addr×Value)}(r:KT H kvs xs)(k:List Key):RelO (gy kvs k) ((atKey xs k).map (·.2)):=by
 induction r with
 | nil=>exact True.intro
 | @cons p q ps qs h t ih=>
  obtain⟨h1,_,h2⟩:=h
  by_cases e:p.1=k
  ·have e':q.1=k:=h1.symm.trans e
   have b:atKey (q::qs) k=some q.2:=by simp[atKey,List.find?_cons,e']
   rw[fM e,b];exact h2
  ·have e':¬ q.1=k:=λz=>e (h1.trans z)
   have b:atKey (q::qs) k=atKey qs k:=by simp[atKey,List.find?_cons,e']
   rw[fN e,b];exact ih
theorem KT.repl {H:Hp}{kvs:List (List Key×V)}{xs:List (List Key×Addr×Value)}(r:KT H kvs xs)(k:List Key){y:V}{u:Value}(ry:RelV y u) :
  KT H (kvs.map λkv=>if kv.1=k then(kv.1,y)else kv) (xs.map (putAt k u)):=by
 induction r with
 | nil=>exact .nil
 | @cons p q ps qs h t ih=>
  rw[List.map_cons,List.map_cons];refine .cons ?_ ih
  obtain⟨h1,h2,h3⟩:=h;unfold putAt
  by_cases e:p.1=k
  ·rw[if_pos e,if_pos (h1.symm.trans e)];exact⟨h1,h2,ry⟩
  ·rw[if_neg e,if_neg (λz=>e (h1.trans z))];exact⟨h1,h2,h3⟩
theorem KT.put {H:Hp}{kvs:List (List Key×V)}{xs:List (List Key×Addr×Value)}(r:KT H kvs xs)(k:List Key){b:Addr}{y:V}{u:Value}(hb:H b=some (.tup (k.map kV)))(ry:RelV y u) :
  KT H (cy kvs k y) (storedH xs k b u):=by
 have e:(kvs.any λkv=>decide (kv.1=k))=(atKey xs k).isSome:=by
  rw[p8,(r.val k).isSome_eq,Option.isSome_map]
 unfold cy storedH;rw[e]
 by_cases q:(atKey xs k).isSome=true
 ·rw[if_pos q,if_pos q];exact r.repl k ry
 ·rw[if_neg q,if_neg q];exact Paired.snoc r ⟨rfl,hb,ry⟩
theorem KT.keeps {H H':Hp}{kvs:List (List Key×V)}{xs:List (List Key×Addr×Value)}(r:KT H kvs xs)(ht:∀b ys,H b=some (.tup ys)->H' b=some (.tup ys)):KT H' kvs xs:=
 Paired.mapP r λ_ _ z=>⟨z.1,ht _ _ z.2.1,z.2.2⟩
section
variable {P:Program}{w:World}{H:Hp}{h:Heap}{a:Addr}
theorem tJ {u:HO}(ok:HOk P w H h)(e:Rd H a u):ObjOk P w H h a u:=e.ok ok
theorem rJ {kvs:List (Key×V)}(ok:HOk P w H h)(e:Rd H a (.dK kvs)):kvs.length<=sizeLine/\(a == sysModules)=false/\∃vs,KV kvs vs/\h.DictOf (bY P w) a vs:=
 show ObjOk P w H h a (.dK kvs)from tJ ok e
theorem EO {kvs:List (Key×V)}(ok:HOk P w H h)(e:H a=some (.dK kvs)):kvs.length<=sizeLine/\(a == sysModules)=false/\∃vs,KV kvs vs/\h.DictOf (bY P w) a vs:=rJ ok (.inl e)
theorem kg {ks:List Key}(ok:HOk P w H h)(e:H a=some (.tup (ks.map kV))):(tupleKind (bY P w)).is h ks a:=by
 obtain⟨_,its,r,o,h1,h2,n,h3⟩:=(show ObjOk P w H h a (.tup (ks.map kV))from ok a _ e)
 exact⟨o,its.toArray,n,h1,h2,h3,by simpa using nP r⟩
theorem rG {kvs:List (List Key×V)}(ok:HOk P w H h)(e:Rd H a (.dT kvs)):kvs.length<=sizeLine/\(a == sysModules)=false ∧
  ∃xs,KT H kvs xs/\h.DictOfH (tupleKind (bY P w)) a xs:=by
 obtain⟨z,y,xs,r,o,es,ep,h1,h2,h3,h4,h5⟩:=(show ObjOk P w H h a (.dT kvs)from tJ ok e)
 refine⟨z,y,xs,r,o,es,ep,h1,h2,h3,h4,λx hx=> ?_,h5⟩
 have all:∀{l:List (List Key×V)} {m:List (List Key×Addr×Value)},KT H l m->∀x∈m,(tupleKind (bY P w)).is h x.1 x.2.1:=by
  intro l m q
  induction q with
  | nil=>intro x hx;exact nomatch hx
  | @cons p q ps qs hq t ih=>
   intro x hx;rcases List.mem_cons.mp hx with e | hx
   ·subst e
    exact kg ok (by rw[<-hq.1];exact hq.2.1)
   ·exact ih x hx
 exact all r x hx
theorem uz {kvs:List (List Key×V)}(ok:HOk P w H h)(e:H a=some (.dT kvs)):kvs.length<=sizeLine/\(a == sysModules)=false ∧
  ∃xs,KT H kvs xs/\h.DictOfH (tupleKind (bY P w)) a xs:=rG ok (.inl e)
end
def DGet (H:Hp)(a:Addr)(y:V)(r:Option V):Prop:=
 (∃kvs k,Rd H a (.dK kvs)/\y=kV k/\r=gy kvs k)\/∃kvs k b,Rd H a (.dT kvs)/\y= .ref b/\H b=some (.tup (k.map kV))/\r=gy kvs k
def DPut (H:Hp)(a:Addr)(y v:V)(H':Hp):Prop:=
 (∃kvs k,H a=some (.dK kvs)/\y=kV k/\kvs.length<sizeLine/\H'=upd H a (.dK (cy kvs k v))) ∨
 ∃kvs k b,H a=some (.dT kvs)/\y= .ref b/\H b=some (.tup (k.map kV))/\kvs.length<sizeLine/\H'=upd H a (.dT (cy kvs k v))
theorem DGet.t {H:Hp}{a b:Addr}{kvs:List (List Key×V)}{k:List Key}(e:H a=some (.dT kvs))(eb:H b=some (.tup (k.map kV))):DGet H a (.ref b) (gy kvs k):=.inr ⟨kvs,k,b,.inl e,rfl,eb,rfl⟩
theorem DPut.t {H:Hp}{a b:Addr}{kvs:List (List Key×V)}{k:List Key}{v:V}(e:H a=some (.dT kvs))(eb:H b=some (.tup (k.map kV)))(hl:kvs.length<sizeLine) :
  DPut H a (.ref b) v (upd H a (.dT (cy kvs k v))):=.inr ⟨kvs,k,b,e,rfl,eb,hl,rfl⟩
section
variable {X:Cx}{pins:List (Addr×Obj)}{σ:St}{H:Hp}{s:Shared}{a:Addr}{y v:V}{u r:Value}{o:Option V}{A:Around}{E:Value->Shared->Prop}
theorem Inv.big (I:Inv X pins σ H s):sysModules<s.heap.objs.size:=by
 have h:mainGlobals<s.heap.objs.size:=(I.mod.glob.keeps I.bk).lt;exact Nat.lt_trans (by decide) h
theorem vK {Q:Value->Shared->Prop}(hu:A.units+1<cLine)(I:Inv X pins σ H s)(g:DGet H a y (some v))(ry:RelV y u)(h:∀w' s',Inv X pins σ H s'->RelV v w'->Q w' s') :
  wpAny (model X.prog X.w) A (getItem (.ref a) u) Q E s:=by
 rcases g with⟨kvs,k,e,ey,l⟩ | ⟨kvs,k,b,e,ey,eb,l⟩
 ·subst ey
  obtain⟨z,hd,vs,rel,dd⟩:=rJ I.hok e;obtain⟨w',hw,rw'⟩:=RelO.some_of (v:=v) (o:=valueAt vs k) (by rw[l];exact rel.val k)
  exact wpAny_getItem_of (uk ry) dd.mapOf hw (h w' _ (I.tok _) rw')
 ·subst ey
  cases (show u=Value.ref b from ry)
  obtain⟨z,hd,xs,rel,dd⟩:=rG I.hok e;obtain⟨w',hw,rw'⟩:=RelO.some_of (v:=v) (o:=(atKey xs k).map (·.2)) (by rw[l];exact rel.val k)
  obtain⟨p,hp,hp2⟩:=Option.map_eq_some_iff.mp hw;refine wpAny_getItem_heap (tupleKind_room_in1 hu) (kg I.hok eb) dd hp ?_
  rw[hp2];exact h w' _ (I.tok _) rw'
theorem jR {h':Heap}{t':Nat}{ob:HO}(I:Inv X pins σ H s)(mu:EW (H a))(hs:Heap.SameBut a s.heap h')(he:∃q,h'.get? a=some q)(new:ObjOk X.prog X.w (upd H a ob) h' a ob) :
  Inv X pins σ (upd H a ob) { s with heap:=h',toks:=t' }:=
 I.write (x:=a) (e:=a) mu (.inl rfl) (λb q hb z=>(hs.2 b hb).trans z) he new
theorem Dg {P:Program}{w:World}{H':Hp}{h':Heap}{kvs:List (Key×V)}{vs:List (Key×Value)}(z:kvs.length<=sizeLine)(hd:(a == sysModules)=false)(rel:KV kvs vs)(dd:h'.DictOf (bY P w) a vs) :
  ObjOk P w H' h' a (.dK kvs):=⟨z,hd,vs,rel,dd⟩
theorem vJ {H':Hp}{Q:Unit->Shared->Prop}(hu:A.units+1<cLine)(I:Inv X pins σ H s)(g:DPut H a y v H')(ry:RelV y u)(rv:RelV v r)(h:∀s',Inv X pins σ H' s'->Q () s') :
  wpAny (model X.prog X.w) A (setItem (.ref a) u r) Q E s:=by
 rcases g with⟨kvs,k,e,ey,l,eH⟩ | ⟨kvs,k,b,e,ey,eb,l,eH⟩
 ·subst ey eH
  obtain⟨z,hd,vs,rel,dd⟩:=EO I.hok e
  have hz:vs.length<=sizeLine:=by rw[<-rel.length];exact z
  have hl:(cy kvs k v).length<=sizeLine:=by have:=dL kvs k v;omega
  refine wpAny_setItem_pairs (hsz:=hz) (uk ry) dd λh' dd' hs=>h _ ?_
  have he:∃q,h'.get? a=some q:=let ⟨q,_,_,hq,_⟩:=dd';⟨q,hq⟩
  exact jR I (by rw[e];exact True.intro) hs he (Dg hl hd (rel.put k rv) dd')
 ·subst ey eH
  cases (show u=Value.ref b from ry)
  obtain⟨z,hd,xs,rel,dd⟩:=uz I.hok e
  have hz:xs.length<=sizeLine:=by rw[<-Paired.length rel];exact z
  have hl:(cy kvs k v).length<=sizeLine:=by have:=dL kvs k v;omega
  refine wpAny_setItem_heap (hsz:=hz) (tupleKind_room_in1 hu) (kg I.hok eb) dd λh' dd' hs=>h _ ?_
  obtain⟨q,es,ep,hq,h2,h3,h4,_,h5⟩:=dd';refine jR I (by rw[e];exact True.intro) hs ⟨q,hq⟩ ⟨hl,hd,_,(rel.put k eb rv).keeps λc ys ec=> ?_,q,es,ep,hq,h2,h3,h4,h5⟩
  rw[ay (hG ec e (λz=>nomatch z))]
  exact ec
end
def vR (i:Expr):Prop:=∀ov iv,subscripted i false ov iv=operate [ov,iv] (getItem ov iv)
theorem zl {prog:Program}{w:World}{A:Around}{E:Value->Shared->Prop}{s:Shared}{env:Env}{value slice:Expr}{pos:Pos}{T id:String}{Q:Value->Shared->Prop}
  (hl:typeLookup (.type T) "__getitem__" =pure (some (.builtin id))) (hs:vR slice)
  (h:wpAny (model prog w) A (eval value env) (λo s₁=>wpAny (model prog w) A (eval slice env) (λi s₂=>s₂.TypeIs o T/\wpAny (model prog w) A (getItem o i) Q E s₂) E s₁) E s) :
  wpAny (model prog w) A (eval (.Subscript value slice pos) env) Q E s:=by
 refine Subscript_ (wpAny_mono h (λo s₁ h₁=>wpAny_mono h₁ (λi s₂ h₂=> ?_) λ_ _ x=>x) λ_ _ x=>x)
 obtain⟨hT,h₂⟩:=h₂;unfold subscriptTail;refine wpAny_bind ?_
 rw[getitemInPython_of_ne hT.not_modules];refine wpAny_bind (wpAny_specialOf hT hl ?_)
 have fin:wpAny (model prog w) A (subscripted slice false o i) (λr s₃=>wpAny (model prog w) A (letTemporaryGo value o r >>= λ_=>pure r) Q E s₃) E s₂:=by
  rw[hs o i];exact wpAny_operating (wpAny_mono h₂ (λr s₃ h₃=>wpAny_bind (wpAny_letTemporaryGo (wpAny_pure h₃))) λ_ _ x=>x)
 first
  | exact wpAny_pure (wpAny_bind fin)
  | exact wpAny_bind (wpAny_pure (wpAny_bind fin))
  | exact wpAny_bind fin
theorem rK {X:Cx}{pins:List (Addr×Obj)}{σ:St}{H:Hp}{s:Shared}{a:Addr}{y:V}{o:Option V}(I:Inv X pins σ H s)(g:DGet H a y o):s.TypeIs (.ref a) "dict":=by
 rcases g with⟨kvs,k,e,_,_⟩ | ⟨kvs,k,b,e,_,_,_⟩
 ·obtain⟨_,_,vs,_,dd⟩:=rJ I.hok e
  exact dd.typeIs
 ·obtain⟨_,_,xs,_,dd⟩:=rG I.hok e
  exact dd.typeIs
def DE (td ty:TE):TE:=λσ H Q=>td σ H λx H1=>ty σ H1 λy H2=> ∃a v,x= .ref a/\DGet H2 a y (some v)/\Q v H2
def DI (td ty tv:TE):TS:=λD σ H=>tv σ H λv H1=>td σ H1 λx H2=>ty σ H2 λy H3=> ∃a H4,x= .ref a/\DPut H3 a y v H4/\D.nx σ H4
section
variable {X:Cx}{o i e value:Expr}{pos pos' tpos:Pos}{td ty tv:TE}
theorem tR (hu:X.A.units+1<cLine)(ho:PE X o td)(hi:PE X i ty)(hs:vR i):PE X (.Subscript o i pos) (DE td ty):=by
 intro pins s σ H Q I h;refine zl PySem.F.slot_dict_getitem.lookup hs (cv (ho pins s σ H _ I h) λu s1 ⟨x,H1,I1,rx,q1⟩=>cv (hi pins s1 σ H1 _ I1 q1) λiv s2 hh_=> ?_)
 obtain⟨y,H2,I2,ry,a,v,ex,g,q2⟩:=hh_;subst ex;obtain rfl:u=Value.ref a:=rx;exact⟨rK I2 g,vK hu I2 g ry λw' s3 I3 rw'=>⟨v,H2,I3,rw',q2⟩⟩
theorem tN (hu:X.A.units+1<cLine)(ho:PE X o td)(hi:PE X i ty)(hv:PE X value tv)(hs:swapsWith value (some (.Subscript o i pos')) pos.line X.env=pure false) :
  PS X (.Assign [.Subscript o i pos'] value pos) (DI td ty tv):=by
 intro pins s σ H D I h;refine wpAny_Assign_Subscript (cv (hv pins s σ H _ I h) λr s1 ⟨v,H1,I1,rv,q1⟩=>cv (ho pins s1 σ H1 _ I1 q1) λu s2 ⟨x,H2,I2,rx,q2⟩=>cv (hi pins s2 σ H2 _ I2 q2) λiv s3 ⟨y,H3,I3,ry,a,H4,ex,g,q3⟩=> ?_) hs
 subst ex;obtain rfl:u=Value.ref a:=rx;exact vJ hu I3 g ry rv λs4 I4=>⟨σ,H4,I4,q3⟩
end
theorem mw {P:Program}{w:World}{H:Hp}(h:Heap)(hb:sysModules<h.objs.size):ObjOk P w H (h.push { cls:=.type "dict",data:=.dict #[] }) h.objs.size (.dT []):=
 ⟨Nat.zero_le _,beq_eq_false_iff_ne.mpr (Ne.symm (Nat.ne_of_lt hb)),[],.nil,_,#[],0,Heap.get?_push_size _ rfl,⟨rfl,rfl,rfl⟩,rfl,rfl,List.nodup_nil⟩
structure M1 (X:Cx)(o:Expr)(m:Str)(apos:Pos)(e:Expr)(cpos:Pos):Prop where
 base:attributeBase o m X.env (eval o X.env)=eval o X.env
 few:((backTo cpos (starEach [e] X.env)).all (λx=> !x.1)&&(backToKw cpos (keywordEach [] X.env)).all (λx=>x.1.isSome)
  &&decide (([e]:List Expr).length+([]:List Keyword).length+(if ([]:List Keyword).isEmpty then 0 else 1)<30))=true
 line:(apos.endLine == cpos.line)=true
 trees:backTo cpos (starEach [e] X.env)= [(false,eval e X.env)]
structure M2 (X:Cx)(o:Expr)(m:Str)(apos:Pos)(e f:Expr)(cpos:Pos):Prop where
 base:attributeBase o m X.env (eval o X.env)=eval o X.env
 few:((backTo cpos (starEach [e,f] X.env)).all (λx=> !x.1)&&(backToKw cpos (keywordEach [] X.env)).all (λx=>x.1.isSome)
  &&decide (([e,f]:List Expr).length+([]:List Keyword).length+(if ([]:List Keyword).isEmpty then 0 else 1)<30))=true
 line:(apos.endLine == cpos.line)=true
 trees:backTo cpos (starEach [e,f] X.env)= [(false,eval e X.env),(false,eval f X.env)]
def IsD (H:Hp)(a:Addr):Prop:=(∃kvs,Rd H a (.dK kvs))\/∃kvs,Rd H a (.dT kvs)
theorem C3 {X:Cx}{pins:List (Addr×Obj)}{σ:St}{H:Hp}{s:Shared}{a:Addr}(I:Inv X pins σ H s)(d:IsD H a) :
  s.TypeIs (.ref a) "dict"/\(∀b,Value.ref a= .ref b->∃ob,s.heap.get? b=some ob/\ob.dict=none)/\(a == sysModules)=false:=by
 rcases d with⟨kvs,e⟩ | ⟨kvs,e⟩
 ·obtain⟨_,hd,vs,_,dd⟩:=rJ I.hok e
  refine⟨dd.typeIs,λb q=> ?_,hd⟩
  cases q;obtain⟨ob,_,_,h1,h2,_⟩:=dd;exact⟨ob,h1,h2.2.1⟩
 ·obtain⟨_,hd,xs,_,dd⟩:=rG I.hok e
  refine⟨dd.typeIs,λb q=> ?_,hd⟩
  cases q;obtain⟨ob,_,_,h1,h2,_⟩:=dd;exact⟨ob,h1,h2.2.1⟩
section
variable {X:Cx}{pins:List (Addr×Obj)}{σ:St}{H:Hp}{s:Shared}{a:Addr}{y d:V}{u r:Value}{o:Option V}{A:Around}{E:Value->Shared->Prop}
theorem Di {Q:Value->Shared->Prop}(hu:A.units+1<cLine)(I:Inv X pins σ H s)(g:DGet H a y o)(ry:RelV y u)(h:∀w' s',Inv X pins σ H s'->RelV (o.getD .non) w'->Q w' s') :
  wpAny (model X.prog X.w) A (call (.builtin "dict.get") [.ref a,u]) Q E s:=by
 rcases g with⟨kvs,k,e,ey,l⟩ | ⟨kvs,k,b,e,ey,eb,l⟩
 ·subst ey
  obtain⟨z,hd,vs,rel,dd⟩:=rJ I.hok e;refine call_meetsIn PySem.F.slot_dict_get dd.typeIs PySem.F.entry_dict_get (PySem.F.args_dict_get_2 _ _) (meets_dict_get (bY X.prog X.w) a (uk ry) hd) ⟨_,dd.mapOf,h _ _ (I.tok _) ?_⟩
  rw[l];exact(rel.val k).getD rfl
 ·subst ey
  cases (show u=Value.ref b from ry)
  obtain⟨z,hd,xs,rel,dd⟩:=rG I.hok e;refine call_meetsIn PySem.F.slot_dict_get dd.typeIs PySem.F.entry_dict_get (PySem.F.args_dict_get_2 _ _) (meetsH_dict_get (tupleKind (bY X.prog X.w)) a b hd) ⟨tupleKind_room_in1 hu,k,xs,kg I.hok eb,dd,h _ _ (I.tok _) ?_⟩
  rw[l];exact(rel.val k).getD rfl
end
def BB (td ty:TE):TE:=λσ H Q=>td σ H λx H1=> ∃a,x= .ref a/\IsD H1 a/\ty σ H1 λy H2=> ∃o,DGet H2 a y o/\Q (o.getD .non) H2
section
variable {X:Cx}{o e f:Expr}{apos cpos:Pos}{td ty tx:TE}
theorem w9 (hu:X.A.units+1<cLine)(ho:PE X o td)(he:PE X e ty)(m:M1 X o "get" apos e cpos):PE X (.Call (.Attribute o "get" apos) [e] [] cpos) (BB td ty):=by
 intro pins s σ H Q I h;refine wpAny_Call_method m.base m.few m.line PySem.F.plainAttrs_dict PySem.F.slot_dict_get PySem.F.type_dict_get (cv (ho pins s σ H _ I h) λu s1 hh_=> ?_)
 obtain⟨x,H1,I1,rx,a,ex,d,q1⟩:=hh_;subst ex;obtain rfl:u=Value.ref a:=rx;obtain⟨t1,t2,_⟩:=C3 I1 d;refine⟨t1,t2,?_⟩
 rw[m.trees];refine Calls.callWith_builtin rfl (Calls.evalArgs_plain (Calls.spliced_cons (cv (he pins s1 σ H1 _ I1 q1) λiv s2 ⟨y,H2,I2,ry,ov,g,q2⟩=>Calls.spliced_nil ?_)))
 exact Di hu I2 g ry λw' s3 I3 rw'=>⟨_,H2,I3,rw',q2⟩
end
end L2
namespace Tr
open PySem PySem.Spec PyProof.Rows L2
theorem DGet.inrR {H:Hp}{a b:Addr}{kvs:List (List Key×V)}{k:List Key}(e:Rd H a (.dT kvs))(eb:H b=some (.tup (k.map kV))):DGet H a (.ref b) (gy kvs k):=.inr ⟨kvs,k,b,e,rfl,eb,rfl⟩
theorem gH {k:Nat}{A:Around}(h:Room k A):A.units+1<cLine:=by have:=h.un;omega
theorem mf {K:PySem.W.Frag}{O:Ow}{H:Hp}:∀{l:List T} {vs:List V} {k:List Key},jl l=some k->Reps K O H l vs->vs=k.map kV
 | [],vs,k,h,r=>by cases Reps.nil_iff.mp r;cases h;rfl
 | t::l,vs,k,h,r=>by
  obtain⟨v,ws,rfl,p,q⟩:=Reps.cons_iff.mp r;unfold jl at h
  cases e1:Bc t with
  | none=>rw[e1]at h;cases h
  | some a=>
   cases e2:jl l with
   | none=>rw[e1,e2]at h;cases h
   | some b=>
    rw[e1,e2]at h;cases h;rw[mf e2 q,List.map_cons]
    congr 1
    cases t with
    | int i=>cases e1;exact Rep.int_iff.mp p
    | str x=>cases e1;exact Rep.str_iff.mp p
    | _=>cases e1
theorem gi {K:PySem.W.Frag}{O:Ow}{H:Hp}{y:T}{v:V}{k:List Key}(h:aQ y=some k)(r:Rep K O H y v):∃b,v= .ref b/\H b=some (.tup (k.map kV)):=by
 cases y with
 | tup l=>
  obtain⟨a,vs,e1,_,e3,e4⟩:=Rep.tup_iff.mp r;rw[mf h e4]at e3
  exact⟨a,e1,e3⟩
 | _=>cases h
theorem my {K:PySem.W.Frag}{O:Ow}{H:Hp}{k:List Key}:∀{ks ts:List T} {kvs:List (List Key×V)},ks.map aQ=kvs.map (λp=>some p.1)->Reps K O H ts (kvs.map (·.2))->match kn ks ts k with
  | some t=> ∃v,gy kvs k=some v/\Rep K O H t v
  | none=>gy kvs k=none
 | [],ts,kvs,h,r=>by
  cases kvs with
  | nil=>unfold kn;exact wj
  | cons _ _=>cases h
 | k'::ks,ts,kvs,h,r=>by
  cases kvs with
  | nil=>cases h
  | cons p kvs=>
   rw[List.map_cons,List.map_cons]at h;injection h with h1 h2
   rw[List.map_cons]at r
   cases ts with
   | nil=>have:=Reps.nil_iff.mp r;cases this
   | cons t ts=>
    obtain⟨v,ws,e,q1,q2⟩:=Reps.cons_iff.mp r;injection e with e1 e2
    subst e1 e2;unfold kn
    by_cases hk:aQ k'=some k
    ·rw[if_pos hk]
     rw[h1]at hk;injection hk with hk
     exact⟨_,fM hk,q1⟩
    ·rw[if_neg hk]
     have hk2:¬ p.1=k:=λz=>hk (by rw[h1,z])
     rw[fN hk2];exact my h2 q2
theorem oJ {κ:Type}[DecidableEq κ]{k:κ}{p:κ×V}{r:List (κ×V)}{v:V}(h:¬ p.1=k):cy (p::r) k v=p::cy r k v:=by
 unfold cy;rw[List.any_cons,decide_eq_false h,Bool.false_or]
 by_cases q:(r.any λkv=>decide (kv.1=k))=true
 ·rw[if_pos q,if_pos q,List.map_cons,if_neg h]
 ·rw[if_neg q,if_neg q];rfl
theorem oK {κ:Type}[DecidableEq κ]{k:κ}{p:κ×V}{r:List (κ×V)}{v:V}(h:p.1=k)(hn:∀q∈r,q.1≠k):cy (p::r) k v=(p.1,v)::r:=by
 unfold cy;rw[List.any_cons,decide_eq_true h,Bool.true_or,if_pos rfl,List.map_cons,if_pos h]
 congr 1
 conv=>rhs;rw[<-List.map_id r]
 exact List.map_congr_left λq hq=>if_neg (hn q hq)
theorem jP {K:PySem.W.Frag}{O:Ow}{H:Hp}{kT vT:T}{k:List Key}{v:V}(hk:aQ kT=some k)(hv:Rep K O H vT v):∀{ks ts:List T} {kvs:List (List Key×V)},ks.map aQ=kvs.map (λp=>some p.1)->Reps K O H ts (kvs.map (·.2))->(kvs.map (·.1)).Nodup →
  (fI kT vT ks ts).1.map aQ=(cy kvs k v).map (λp=>some p.1)/\Reps K O H (fI kT vT ks ts).2 ((cy kvs k v).map (·.2))
 | [],ts,kvs,h,r,_=>by
  cases kvs with
  | nil=>
   unfold fI;refine⟨?_,Reps.cons_ hv Reps.nil_⟩
   simp[cy,hk]
  | cons _ _=>cases h
 | k'::ks,ts,kvs,h,r,hn=>by
  cases kvs with
  | nil=>cases h
  | cons p kvs=>
   rw[List.map_cons,List.map_cons]at h;injection h with h1 h2
   rw[List.map_cons]at r;rw[List.map_cons]at hn;obtain⟨n1,n2⟩:=List.nodup_cons.mp hn
   cases ts with
   | nil=>have:=Reps.nil_iff.mp r;cases this
   | cons t ts=>
    obtain⟨v',ws,e,q1,q2⟩:=Reps.cons_iff.mp r;injection e with e1 e2
    subst e1 e2;unfold fI
    by_cases hz:aQ k'=aQ kT
    ·rw[if_pos hz]
     have hp:p.1=k:=by rw[hz,hk]at h1;injection h1 with h1;exact h1.symm
     rw[oK hp λq hq z=>n1 (by rw[hp,<-z];exact List.mem_map_of_mem hq)]
     exact⟨by rw[List.map_cons,List.map_cons,h1,h2],Reps.cons_ hv q2⟩
    ·rw[if_neg hz]
     have hp:¬ p.1=k:=λz=>hz (by rw[h1,z,hk])
     obtain⟨a1,a2⟩:=jP hk hv h2 q2 n2;rw[oJ hp];exact⟨by rw[List.map_cons,List.map_cons,h1,a1],Reps.cons_ q1 a2⟩
theorem AR {H:Hp}{kvs:List (List Key×V)}{xs:List (List Key×Addr×Value)}(rel:KT H kvs xs):kvs.map (·.1)=xs.map (·.1):=by
 induction rel with
 | nil=>rfl
 | cons h t ih=>rw[List.map_cons,List.map_cons,ih,h.1]
theorem rM {X:Cx}{pins:List (Addr×Obj)}{σ:L2.St}{H:Hp}{s:Shared}{a:Addr}{kvs:List (List Key×V)}(I:Inv X pins σ H s)(e:H a=some (.dT kvs)):(kvs.map (·.1)).Nodup/\kvs.length<=sizeLine:=by
 obtain⟨z,_,xs,rel,_,_,_,_,_,_,_,_,hn⟩:=uz I.hok e;rw[AR rel];exact⟨hn,z⟩
section
variable {X:Cx}{a b:Expr}{fa fb:En->Rs T}{pos:Pos}
theorem D6 (hu:X.A.units+1<cLine)(ha:cz X a fa)(hb:cz X b fb)(hs:vR b:=by intro _ _;rfl):cz X (.Subscript a b pos) (o2 aL fa fb):=by
 refine PE.imp (tR hu ha hb hs) λσ H Q ⟨Z,O,E,hq⟩=> ?_
 obtain⟨Z1,O1,E1,h1⟩:=aY E hq;refine⟨Z1,O1,E1,Post.mono h1 λt H1 s1 q v r=> ?_⟩
 obtain⟨t',r',s',E',q'⟩:=q v r;obtain⟨Z2,O2,E2,h2⟩:=aY (f:=fb) E' q';refine⟨Z2,O2,E2,Post.mono h2 λt2 H2 s2 q2 v2 r2=> ?_⟩
 obtain⟨t2',r2',s2',E2',q2'⟩:=q2 v2 r2
 have r'':=r'.same s2';unfold aL at q2'
 split at q2'
 ·rename_i ks vs k hk
  split at q2'
  ·rename_i x hx
   obtain⟨a,kvs,e1,e2,e3,e4,e5⟩:=Rep.dct_iff.mp r'';obtain⟨b,f1,f2⟩:=gi hk r2'
   have g:=my (k:=k) e4 e5;rw[hx]at g;obtain⟨w,g1,g2⟩:=g;exact⟨a,w,e1,by rw[f1,<-g1];exact DGet.inrR e3 f2,q2' H2 (Same.refl H2) w g2⟩
  ·exact q2'.elim
 ·exact q2'.elim
end
end Tr
namespace Tr
open PySem PySem.Spec PyProof.Rows L2
open PySem.SeqAt
theorem xv {A:Around}{s:Shared}{x:T}{ux:Value}(rx:ReV s x ux)(hu:A.units+60<cLine){l:List T}{us:List Value}(hd:x.dep<=60\/deps l<=60)(r:ReVs s l us) :
  ∃e:Value->Bool,(∀y∈us,EqAt A s y ux (e y))/\us.map e=l.map λt=>aR t x:=by
 classical
 have ex:∀y∈us,∃t∈l,ReV s t y:=λy hy=>by
  obtain⟨i,hi,rfl⟩:=List.getElem_of_mem hy
  have hl:=r.length
  have e1:l[i]? =some l[i]:=by simp
  obtain⟨u,q1,q2⟩:=r.get e1
  have:us[i]? =some us[i]:=by simp
  rw[this]at q1;cases q1;exact⟨l[i],List.getElem_mem _,q2⟩
 let e:Value->Bool:=λy=>decide (∃t∈l,ReV s t y/\aR t x=true)
 have dep:∀t∈l,t.dep<=60\/x.dep<=60:=λt ht=>by
  rcases hd with h | h
  ·exact .inr h
  ·obtain⟨i,hi,rfl⟩:=List.getElem_of_mem ht
   exact .inl (Nat.le_trans (im (i:=i) (by simp)) h)
 have uniq:∀y t t',ReV s t y->ReV s t' y->aR t x=aR t' x:=λy t t' z z'=>by
  rw[<-jT t,<-jT t',ReV.nf z z']
 have agree:∀y t,t∈l->ReV s t y->e y=aR t x:=λy t h z=>by
  show decide (∃t∈l,ReV s t y/\aR t x=true)=aR t x
  cases q:aR t x with
  | true=>exact decide_eq_true ⟨t,h,z,q⟩
  | false=>
   refine decide_eq_false ?_
   rintro ⟨t',h',z',q'⟩
   rw[<-uniq y t t' z z',q]at q';cases q'
 refine⟨e,λy hy=> ?_,?_⟩
 ·obtain⟨t,h,z⟩:=ex y hy
  rw[agree y t h z];exact(Ax 60 A s t x y ux (dep t h) hu z rx).1
 ·have go:∀(l':List T) (us':List Value),(∀t∈l',t∈l)->ReVs s l' us'->us'.map e=l'.map λy=>aR y x:=by
   intro l'
   induction l' with
   | nil=>intro us' _ r';rw[ReVs.nil_iff.mp r'];rfl
   | cons t l' ih=>
    intro us' sub r';obtain⟨u,ws,rfl,p,q⟩:=ReVs.cons_iff.mp r';rw[List.map_cons,List.map_cons,ih ws (λt ht=>sub t (List.mem_cons_of_mem _ ht)) q,agree u t (sub t List.mem_cons_self) p]
  exact go l us (λ_ h=>h) r
theorem mn {x:T}:∀{l:List T} {n k:Nat},fH x l n=some k->n<=k/\(l.map λt=>aR t x)[k - n]? =some true/\∀m,m<k - n->(l.map λt=>aR t x)[m]? =some false
 | [],n,k,h=>by cases h
 | t::l,n,k,h=>by
  unfold fH at h
  cases q:aR t x with
  | true=>
   rw[q,if_pos rfl]at h;cases h;refine⟨Nat.le_refl _,?_,λm hm=>by omega⟩
   rw[Nat.sub_self,List.map_cons,q];rfl
  | false=>
   rw[q,if_neg (by decide)]at h
   obtain⟨h1,h2,h3⟩:=mn h
   have e:k - n=(k - (n+1))+1:=by omega
   refine⟨by omega,?_,λm hm=> ?_⟩
   ·rw[e,List.map_cons,List.getElem?_cons_succ];exact h2
   ·cases m with
    | zero=>rw[List.map_cons,q];rfl
    | succ m=>rw[List.map_cons,List.getElem?_cons_succ];exact h3 m (by omega)
section
variable {X:Cx}{a b:Expr}{fa fb:En->Rs T}{pos apos cpos:Pos}
theorem wO (hu:X.A.units+61<cLine)(ha:cz X a fa)(hb:cz X b fb)(hn:bo b=true:=by rfl)
  (hbase:attributeBase a "index" X.env (eval a X.env)=eval a X.env:=by rfl) (hline:(apos.endLine == cpos.line)=true:=by rfl):cz X (.Call (.Attribute a "index" apos) [b] [] cpos) (oL cm fa fb):=by
 have hs:starEach [b] X.env=(false,eval b X.env)::starEach [] X.env:=aU hn;intro pins s σ H Q I ⟨Z,O,E,hq⟩;refine wpAny_Call_method_late hbase (by rw[hs];rfl) hline rfl (cv (ha pins s σ H _ I (aY E hq)) λv s1 hh_=> ?_)
 obtain⟨x,H1,I1,r1,t,rt,s',E',q1⟩:=hh_
 cases t with
 | lst l=>
  obtain⟨c,vs,e1,e2,e3,e4⟩:=Rep.lst_iff.mp rt;subst e1;obtain rfl:v=Value.ref c:=r1;obtain⟨h1,h2⟩:=wm I1 (show RelV (.ref c) (.ref c)from rfl) (.inl ⟨rfl,vs,SqL.of e3⟩)
  refine⟨_,_,PySem.F.plainAttrs_list,PySem.F.slot_list_index,PySem.F.type_list_index,h1,h2,?_⟩
  rw[hs];refine Calls.callWith_builtin rfl (Calls.evalArgs_plain (Calls.spliced_cons (cv (hb pins s1 σ H1 _ I1 (aY (f:=fb) E' q1)) λu s2 ⟨y,H2,I2,r2,t2,rt2,s'',E'',q2⟩=>Calls.spliced_nil ?_)))
  unfold cm at q2
  split at q2
  ·rename_i l' heq
   cases heq
   split at q2
   ·rename_i hd3
    obtain⟨hd,hnx,hny⟩:=hd3
    split at q2
    ·rename_i k hk
     have rv:=Rep.val I2 (show(T.lst l).nd=true by unfold T.nd;exact hny) (rt.same s'') (show RelV (.ref c) (.ref c)from rfl)
     unfold ReV at rv;obtain⟨c',us,ec,hl,rs⟩:=rv;cases ec;obtain⟨⟨cls,dd,data,sl⟩,ho,hc,n,hdd⟩:=id hl;simp only at hc hdd;subst hc hdd;obtain⟨e,he,ha⟩:=xv (A:=X.A.in1) (Rep.val I2 hnx rt2 r2) (by show X.A.units+1+60<cLine;omega) hd rs
     obtain⟨_,k1,k2⟩:=mn hk;rw[Nat.sub_zero]at k1 k2;rw[<-ha]at k1 k2
     have hkl:k<us.length:=by have:=(List.getElem?_eq_some_iff.mp k1).1;rwa [List.length_map]at this
     have hz:us.length<=sizeLine:=by
      have z:=(I2.lstM (s'' _ _ e3)).1
      have h3:=rs.length
      have h4:=e4.length;omega
     refine call_meets F.slot_list_index ⟨_,ho,rfl⟩ F.entry_list_index (F.args_list_index_2 _ _) (list_indexAt c us.toArray n dd sl u e k (by simpa using hkl) (by rw[sizeLine_eq]at hz;omega) ?_ ?_) ⟨ho,λy hy=>he y (by simpa using hy),?_⟩
     ·have:=(List.getElem?_eq_some_iff.mp k1).2
      rw[List.getElem_map]at this
      simpa using this
     ·intro m hm hmk
      have:=(List.getElem?_eq_some_iff.mp (k2 m hmk)).2
      rw[List.getElem_map]at this
      simpa using this
     ·exact⟨.int _,H2,I2.tok _,⟨_,rfl⟩,q2 H2 (Same.refl H2) _ (Rep.int_ _)⟩
    ·exact q2.elim
   ·exact q2.elim
  ·rename_i hno
   exact(hno l rfl).elim
 | _=>exact q1.elim
theorem B6 (hu:X.A.units+1<cLine)(ha:cz X a fa)(hb:cz X b fb)(hn:bo b=true:=by rfl)
  (hbase:attributeBase a "get" X.env (eval a X.env)=eval a X.env:=by rfl) (hline:(apos.endLine == cpos.line)=true:=by rfl):cz X (.Call (.Attribute a "get" apos) [b] [] cpos) (oD gP fa fb):=by
 have hs:starEach [b] X.env=(false,eval b X.env)::starEach [] X.env:=aU hn;refine PE.imp (w9 hu ha hb ⟨hbase,by rw[hs];rfl,hline,by rw[hs];rfl⟩) λσ H Q ⟨Z,O,E,hq⟩=> ?_
 obtain⟨Z1,O1,E1,h1⟩:=aY E hq;refine⟨Z1,O1,E1,Post.mono h1 λt H1 s1 q v r=> ?_⟩
 obtain⟨t',r',s',E',q'⟩:=q v r
 cases t' with
 | dct ks vs=>
  obtain⟨c,kvs,e1,e2,e3,e4,e5⟩:=Rep.dct_iff.mp r';refine⟨c,e1,.inr ⟨kvs,e3⟩,?_⟩
  obtain⟨Z2,O2,E2,h2⟩:=aY (f:=fb) E' q';refine⟨Z2,O2,E2,Post.mono h2 λt2 H2 s2 q2 v2 r2=> ?_⟩
  obtain⟨t2',r2',s2',E2',q2'⟩:=q2 v2 r2;unfold gP at q2'
  split at q2'
  ·rename_i ks' vs' k heq hk
   cases heq;obtain⟨b,f1,f2⟩:=gi hk r2'
   have g:=my (k:=k) e4 (e5.same s2');refine⟨gy kvs k,by rw[f1];exact DGet.inrR (Rd.keepO (P:=sC) (SameO.of s2') (λz=>z) e3) f2,?_⟩
   cases hx:kn ks vs k with
   | some z=>
    rw[hx]at g q2';obtain⟨w,g1,g2⟩:=g;rw[g1]
    exact q2' H2 (Same.refl H2) w g2
   | none=>
    rw[hx]at g q2';rw[g];exact q2' H2 (Same.refl H2) .non Rep.non_
  ·exact q2'.elim
 | _=>exact q'.elim
end
end Tr
namespace Tr
open PySem PySem.Spec PyProof.Rows L2
section
variable {X:Cx}{a b c:Expr}{fa fb fc:En->Rs T}{pos p2 p3 p4:Pos}{x:Str}
def BA (X:Cx):TE:=λ_ H Q=> ∀p,Nw X.K H p->Q (.ref p) (upd H p (.dT []))
theorem w6:PE X (.Dict [] [] pos) (BA X):=λpins s σ H Q I h=>by
 have hk:X.K.lookup s.heap.objs.size=none:=by
  cases q:X.K.lookup s.heap.objs.size with
  | none=>rfl
  | some o=>exact absurd (Heap.lt_size (I.kIn _ o q)) (Nat.lt_irrefl _)
 exact wpAny_Dict_empty ⟨.ref s.heap.objs.size,_,I.laid (a:=s.heap.objs.size) (o:=.dT []) (t':=s.toks) (λ_ _ q=>Heap.get?_push_of_some _ q) (Nat.le_refl _) (mw s.heap I.big),rfl,h _ ⟨I.hok.fresh (Nat.le_refl _),hk⟩⟩
theorem wM (i:Nat)(hN:X.N.Nodup)(hi:X.N[i]? =some x:=by rfl)(hx:Loc X.env.scope x:=by first | exact Or.inl rfl | exact Or.inr rfl)(hs:swapsWith (.Dict [] [] p2) (some (.Name x p3)) pos.line X.env=pure false:=by rfl)
  (hf:X.fn x=true\/X.env.scope.names.lookup x=some .local:=by first | exact .inl rfl | exact .inr rfl | assumption):mL X (.Assign [.Name x p3] (.Dict [] [] p2) pos) (oE i):=PS.imp (oM hN hi hx w6 hs hf) λD σ H hh_=>by
 obtain⟨Z,B,M,E,h⟩:=hh_;unfold oE at h;intro p hp
 by_cases hl:i<Z.length
 ·rw[if_pos hl]at h
  have hm:∀a,a=p->Nw X.K H a:=λa z=>z▸hp
  obtain⟨E2,sub⟩:=E.new (m:=λa=>a=p) (o:=.dct [] []) (v:=.ref p) (H':=upd H p (.dT [])) hl hm (aO hp.1 _) ⟨p,[],rfl,λb=>Iff.rfl,aA,rfl,Reps.nil_⟩
  exact h _ _ _ (SameO.of (aO hp.1 _)) E2 sub
 ·rw[if_neg hl]at h
  exact h.elim
theorem BQ (i:Nat)(hu:X.A.units+1<cLine)(hb:cz X b fb)(hc:cz X c fc)(hN:X.N[i]? =some x:=by rfl)(hv:rV X.env.scope x:=by first | exact Or.inl rfl | exact Or.inr (Or.inl rfl) | exact Or.inr (Or.inr rfl))
  (hd:(x == ("__debug__" : Str))=false:=by decide) (hcd:(x == ("__classdict__" : Str))=false:=by decide)
  (hs:swapsWith c (some (.Subscript (.Name x p2) b p3)) pos.line X.env=pure false:=by rfl):mL X (.Assign [.Subscript (.Name x p2) b p3] c pos) (mT i fb fc):=by
 intro pins s σ H D I ⟨Z,B,M,E,h⟩;refine tN hu (jc hN hv hd hcd) hb hc hs pins s σ H D I ?_
 unfold mT at h
 split at h
 ·rename_i ks vs hl
  obtain⟨v0,e1,d,kvs,rfl,hM,e3,e4,e5⟩:=E.env.own i _ hl;obtain⟨nd,nz⟩:=rM I e3;refine⟨Z,OO B M,E.o,?_⟩
  cases q:fc Z with
  | bad=>rw[q]at h;exact h.elim
  | err c=>rw[q]at h;exact PostF.xa h
  | ok vT=>
   rw[q,ax]at h;intro H1 s1 v r;refine⟨.ref d,e1,Z,OO B M,(E.same s1).o,?_⟩
   have h1:=h.later (SameO.of s1) (P1:=M.u) λa z=> .inl z
   cases q2:fb Z with
   | bad=>rw[q2]at h1;exact h1.elim
   | err c=>rw[q2]at h1;exact PostF.xa h1
   | ok kT=>
    rw[q2,ax]at h1;intro H2 s2 y ry
    cases q3:aQ kT with
    | none=>rw[q3]at h1;exact h1.elim
    | some k=>
     rw[q3]at h1
     have h2:=h1.later (SameO.of s2) (P1:=M.u) λa z=> .inl z
     have hlen:ks.length=kvs.length:=by have:=congrArg List.length e4;simpa using this
     by_cases hz:ks.length<1000
     ·simp only[if_pos hz]at h2
      obtain⟨kb,f1,f2⟩:=gi q3 ry
      have e3':=s2 _ _ (s1 _ _ e3);obtain⟨g1,g2⟩:=jP q3 (r.same s2) e4 ((e5.same s1).same s2) nd;refine⟨d,upd H2 d (.dT (cy kvs k v)),rfl,by rw[f1];exact DPut.t e3' f2 (by rw[sizeLine_eq];omega),?_⟩
      have sm:SameO (M i) H2 (upd H2 d (.dT (cy kvs k v))):=λc u e nb=>by rw[ay (λz=>nb ((hM c).mpr z))];exact e
      obtain⟨g3,g4⟩:=((E.same s1).same s2).put (o':=.dct (fI kT vT ks vs).1 (fI kT vT ks vs).2) hl e1 sm ⟨d,_,rfl,hM,aA,g1,g2.move (P:=M i) (λa z=> .inl (.inr ⟨i,z⟩)) (λa z=> .inl z) sm⟩
      exact h2 σ _ M g4 g3 λc z=> .inl z
     ·simp only[if_neg hz]at h2
      exact h2.elim
 ·exact h.elim
theorem p7 {k:List Key}:∀{kvs:List (List Key×V)} {as:List Addr} {v:V},kvs.map (·.2)=as.map V.ref->gy kvs k=some v->∃b∈as,v= .ref b
 | [],as,v,_,h=>by cases h
 | p::kvs,as,v,e,h=>by
  cases as with
  | nil=>cases e
  | cons b0 bs=>
   rw[List.map_cons,List.map_cons]at e;injection e with e1 e2
   by_cases hk:p.1=k
   ·rw[fM hk]at h
    cases h;exact⟨b0,List.mem_cons_self,e1⟩
   ·rw[fN hk]at h
    obtain⟨b,hb,e⟩:=p7 e2 h;exact⟨b,List.mem_cons_of_mem _ hb,e⟩
theorem qG {K:PySem.W.Frag}{O:Ow}{H:Hp}{k:List Key}{r:List T×List T}:∀{ks:List T} {rows:List (List T×List T)} {kvs:List (List Key×V)} {as:List Addr},ks.map aQ=kvs.map (λp=>some p.1)->kvs.map (·.2)=as.map V.ref->RowsR K O H rows as->mV ks rows k=some r →
  ∃b kv,gy kvs k=some (.ref b)/\b∈as/\H b=some (.dT kv)/\r.1.map aQ=kv.map (λp=>some p.1)/\Reps K O H r.2 (kv.map (·.2))
 | [],rows,kvs,as,h1,h2,h3,h=>by unfold mV at h;cases h
 | k'::ks,rows,kvs,as,h1,h2,h3,h=>by
  cases rows with
  | nil=>unfold mV at h;cases h
  | cons r0 rows=>
   cases kvs with
   | nil=>cases h1
   | cons p kvs=>
    rw[List.map_cons,List.map_cons]at h1;injection h1 with h1 h1'
    obtain⟨b0,bs,kv0,rfl,e2,e3,e4,e5⟩:=h3;rw[List.map_cons,List.map_cons]at h2;injection h2 with h2 h2'
    unfold mV at h
    by_cases hk:aQ k'=some k
    ·rw[if_pos hk]at h
     cases h;rw[h1]at hk;injection hk with hk
     exact⟨b0,kv0,by rw[fM hk,h2],List.mem_cons_self,e2,e3,e4⟩
    ·rw[if_neg hk]at h
     have hk2:¬ p.1=k:=λz=>hk (by rw[h1,z])
     obtain⟨b,kv,g1,g2,g3⟩:=qG h1' h2' e5 h;exact⟨b,kv,by rw[fN hk2];exact g1,List.mem_cons_of_mem _ g2,g3⟩
theorem qC {K:PySem.W.Frag}{O:Ow}{H H':Hp}{k:List Key}{xr:List T×List T}{b:Addr}{kv':List (List Key×V)}(hO:O b)(hS:SameO (λc=>c=b) H H')(hb:H' b=some (.dT kv'))(hx1:xr.1.map aQ=kv'.map (λp=>some p.1))(hx2:Reps K O H' xr.2 (kv'.map (·.2))) :
  ∀{ks:List T} {rows:List (List T×List T)} {kvs:List (List Key×V)} {as:List Addr},ks.map aQ=kvs.map (λp=>some p.1)->kvs.map (·.2)=as.map V.ref->RowsR K O H rows as->as.Nodup->gy kvs k=some (.ref b)->RowsR K O H' (mU k xr ks rows) as
 | [],rows,kvs,as,h1,h2,h3,hn,h=>by
  cases kvs with
  | nil=>cases h
  | cons _ _=>cases h1
 | k'::ks,rows,kvs,as,h1,h2,h3,hn,h=>by
  have inO:∀a,a=b->O a\/Nw K H a:=λa z=> .inl (z▸hO)
  cases kvs with
  | nil=>cases h1
  | cons p kvs=>
   rw[List.map_cons,List.map_cons]at h1;injection h1 with h1 h1'
   cases rows with
   | nil=>unfold RowsR at h3;subst h3;cases h2
   | cons r0 rows=>
    obtain⟨b0,bs,kv0,rfl,e2,e3,e4,e5⟩:=h3;rw[List.map_cons,List.map_cons]at h2;injection h2 with h2 h2'
    obtain⟨n1,n2⟩:=List.nodup_cons.mp hn;unfold mU
    by_cases hk:aQ k'=some k
    ·rw[if_pos hk]
     rw[h1]at hk;injection hk with hk
     rw[fM hk,h2]at h;cases h;exact⟨b,bs,kv',rfl,hb,hx1,hx2,e5.move (P:=λc=>c=b) inO (λa z=> .inl z) hS λc hc z=>n1 (z▸hc)⟩
    ·rw[if_neg hk]
     have hk2:¬ p.1=k:=λz=>hk (by rw[h1,z])
     rw[fN hk2]at h;obtain⟨b',hb',e'⟩:=p7 h2' h;cases e'
     have hne:b0≠b:=λz=>n1 (z▸hb')
     exact⟨b0,bs,kv0,rfl,hS _ _ e2 hne,e3,e4.move (P:=λc=>c=b) inO (λa z=> .inl z) hS,qC hO hS hb hx1 hx2 h1' h2' e5 n2 h⟩
theorem zx (i:Nat)(hu:X.A.units+1<cLine)(ha:cz X a fa)(hb:cz X b fb)(hc:cz X c fc)(hsl:vR a:=by intro _ _;rfl)(hN:X.N[i]? =some x:=by rfl)(hv:rV X.env.scope x:=by first | exact Or.inl rfl | exact Or.inr (Or.inl rfl) | exact Or.inr (Or.inr rfl))
  (hd:(x == ("__debug__" : Str))=false:=by decide) (hcd:(x == ("__classdict__" : Str))=false:=by decide)
  (hs:swapsWith c (some (.Subscript (.Subscript (.Name x p2) a p3) b p4)) pos.line X.env=pure false:=by rfl):mL X (.Assign [.Subscript (.Subscript (.Name x p2) a p3) b p4] c pos) (gL i fa fb fc):=by
 intro pins s σ H D I ⟨Z,B,M,E,h⟩;refine tN hu (tR hu (jc hN hv hd hcd) ha hsl) hb hc hs pins s σ H D I ?_
 unfold gL at h
 split at h
 ·rename_i ks rows hl
  obtain⟨v0,e1,d,kvs,as,rfl,hM,na,nas,e5,e6,e7,e8⟩:=E.env.own i _ hl;refine⟨Z,OO B M,E.o,?_⟩
  cases q:fc Z with
  | bad=>rw[q]at h;exact h.elim
  | err c=>rw[q]at h;exact PostF.xa h
  | ok vT=>
   rw[q,ax]at h;intro H1 s1 v r;refine⟨.ref d,e1,Z,OO B M,(E.same s1).o,?_⟩
   have h1:=h.later (SameO.of s1) (P1:=M.u) λa z=> .inl z
   cases q2:fa Z with
   | bad=>rw[q2]at h1;exact h1.elim
   | err c=>rw[q2]at h1;exact PostF.xa h1
   | ok aT=>
    rw[q2,ax]at h1;intro H2 s2 y ry
    have h2:=h1.later (SameO.of s2) (P1:=M.u) λa z=> .inl z
    have E2:=(E.same s1).same s2
    have s12:=s1.trans s2
    split at h2
    ·rename_i ka rr hk
     obtain⟨ka',q3,hk⟩:=Option.bind_eq_some_iff.mp hk;obtain⟨r',q4,hk⟩:=Option.map_eq_some_iff.mp hk;cases hk;obtain⟨rb,kv,g1,g2,g3,g4,g5⟩:=qG e6 e7 e8 q4;obtain⟨ndr,nzr⟩:=rM I g3;obtain⟨ab,f1,f2⟩:=gi q3 ry;refine⟨d,.ref rb,rfl,by rw[f1,<-g1];exact DGet.t (s12 _ _ e5) f2,Z,OO B M,E2.o,?_⟩
     cases q5:fb Z with
     | bad=>rw[q5]at h2;exact h2.elim
     | err c=>rw[q5]at h2;exact PostF.xa h2
     | ok bT=>
      rw[q5,ax]at h2;intro H3 s3 y2 ry2
      have h3:=h2.later (SameO.of s3) (P1:=M.u) λa z=> .inl z
      have s13:=s12.trans s3
      have E3:=E2.same s3
      have hlen:rr.1.length=kv.length:=by have:=congrArg List.length g4;simpa using this
      by_cases hz:(aQ bT).isSome=true/\rr.1.length<1000
      ·rw[if_pos hz]at h3
       obtain⟨kb,q6⟩:=Option.isSome_iff_exists.mp hz.1;obtain⟨bb,f3,f4⟩:=gi q6 ry2;obtain⟨u1,u2⟩:=jP q6 ((r.same s2).same s3) g4 (g5.same s13) ndr;refine⟨rb,upd H3 rb (.dT (cy kv kb v)),rfl,by rw[f3];exact DPut.t (s13 _ _ g3) f4 (by rw[sizeLine_eq];omega),?_⟩
       have mrb:M i rb:=(hM rb).mpr (.inr g2)
       have hOb:OO B M rb:=.inr ⟨i,mrb⟩
       have sm1:SameO (λc=>c=rb) H3 (upd H3 rb (.dT (cy kv kb v))):=λc u e nb=>by rw[ay nb];exact e
       have sm:SameO (M i) H3 (upd H3 rb (.dT (cy kv kb v))):=λc u e nb=>sm1 c u e λz=>nb (z▸mrb)
       have inO:∀a,a=rb->OO B M a\/Nw X.K H3 a:=λa z=> .inl (z▸hOb)
       have dne:d≠rb:=λz=>na (z▸g2)
       obtain⟨g6,g7⟩:=E3.put (o':=.dd ks (mU ka (fI bT vT rr.1 rr.2) ks rows)) hl e1 sm ⟨d,kvs,as,rfl,hM,na,nas,sm1 _ _ (s13 _ _ e5) dne,e6,e7,qC hOb sm1 aA u1 (u2.move (P:=λc=>c=rb) inO (λa z=> .inl z) sm1) e6 e7 (e8.same s13) nas g1⟩
       exact h3 σ _ M g7 g6 λc z=> .inl z
      ·rw[if_neg hz]at h3
       exact h3.elim
    ·exact h2.elim
 ·exact h.elim
end
end Tr
namespace PySem
open Sem (wp)
namespace F
theorem lk_list_keys:typeLookup (.type "list") "keys" =pure none:=by rw[typeLookup_type,builtinLookup_eq_fast];kernel_rfl
theorem lk_list_getattr:typeLookup (.type "list") "__getattr__" =pure none:=by rw[typeLookup_type,builtinLookup_eq_fast];kernel_rfl
end F
section
variable {prog:Program}{w:World}{A:Around}{E:Value->Shared->Prop}{h:Heap}{g:Array GenState}{d:Drawn}{t:Nat}{os:OsState}{a:Addr}{its:Array Value}{n:Nat}
theorem kS {tk:Tok}{Q:Fin->Shared->Prop}(hx:h.get? a=some { cls:=.type "list",data:=.seq its n })(hh:A.handled=none)
  (hq:∀h' tk' e,Heap.NewAttrErr h h' e (.ref a) "keys"->E (.ref e) ⟨h',g,d,tk',os⟩) :
  wpAny (model prog w) A (Builtin.«object.__getattribute__» ⟨[.ref a,.str "keys" tk],[]⟩) Q E ⟨h,g,d,t,os⟩:=by
 have hT:(⟨h,g,d,t,os⟩:Shared).TypeIs (.ref a) "list":=⟨_,hx,rfl⟩
 have f4:=F.lk_list_keys
 repeat (any_goals (first | assumption | wp_step))
 exact wpAny_raiseAttrError hh (λh' tk e hx=>hq h' tk e hx) (attrMsg_fits (by decide+kernel) (by rw[sizeLine_eq];decide))
theorem l9 {tk:Tok}{R:Result->Shared->Prop}(hx:h.get? a=some { cls:=.type "list",data:=.seq its n })(hh:A.handled=none)
  (hq:∀h' tk' e,Heap.NewAttrErr h h' e (.ref a) "keys"->R (.error (.ref e)) ⟨h',g,d,tk',os⟩) :
  codeAny (model prog w) A (.call (.builtin "list.__getattribute__") ⟨[.ref a,.str "keys" tk],[]⟩) R ⟨h,g,d,t,os⟩:=
 codeAny_call_builtin F.slot_list_getattribute.plain F.entry_list_ga (F.slot_list_getattribute.check _ _ _ _ _ _ _ _ (show(⟨h,g,d,t,os⟩:Shared).TypeIs (.ref a) "list" from⟨_,hx,rfl⟩) (F.args_list_getattribute_2 _ _) (kS hx hh hq))
theorem md {Q:Option Value->Shared->Prop}(hx:h.get? a=some { cls:=.type "list",data:=.seq its n })(hh:A.handled=none)
  (hq:∀h' tk',(∀b o,h.get? b=some o->h'.get? b=some o)->Q none ⟨h',g,d,tk',os⟩):wpAny (model prog w) A (getAttr? (.ref a) "keys") Q E ⟨h,g,d,t,os⟩:=by
 have hT:∀tk,(⟨h,g,d,tk,os⟩:Shared).TypeIs (.ref a) "list":=λ_=>⟨_,hx,rfl⟩
 have f1:=sub_AttributeError
 have f2:=F.slot_list_getattribute.lookup
 have f3:=F.slot_list_getattribute.bind (.ref a)
 have f5:=F.lk_list_getattr;unfold getAttr? getAttrBy? getAttrBy
 repeat (any_goals (first | assumption | exact hT _ | wp_step))
 refine l9 hx hh λh' tk' e hx'=> ?_
 obtain⟨t',u',he⟩:=hx'.there
 repeat (any_goals (first | assumption | exact hT _ | wp_step))
 exact hq _ _ hx'.keeps
end
end PySem
namespace PySem.F
theorem entry_dict_update_loop:entryFor table "dict.update.loop" =some Builtin.«dict.update.loop»:=entryFor_of_tree (by kernel_rfl)
theorem plain_dict_update_loop:plainId "dict.update.loop" =true:=by decide+kernel
end PySem.F
namespace Tr
open PySem PySem.Spec PyProof.Rows L2
def dv (kvs:List (List Key×V)):List (List Key×V)->List (List Key×V)
 | [] =>kvs
 | p::ps=>dv (cy kvs p.1 p.2) ps
def PairsAt (H:Hp):List V->List (List Key×V)->Prop
 | [],ps=>ps= []
 | x::xs,ps=> ∃b kb p r,ps=p::r/\x= .ref b/\H b=some (.tup [.ref kb,p.2])/\H kb=some (.tup (p.1.map kV))/\PairsAt H xs r
theorem PairsAt.upd {H:Hp}{d:Addr}{kvs:List (List Key×V)}{o:HO}(hd:H d=some (.dT kvs)):∀{xs:List V} {ps:List (List Key×V)},PairsAt H xs ps->PairsAt (L2.upd H d o) xs ps
 | [],_,h=>h
 | x::xs,_,⟨b,kb,p,r,e1,e2,e3,e4,e5⟩=>⟨b,kb,p,r,e1,e2,by rw[ay (hG e3 hd (λz=>nomatch z))];exact e3,by rw[ay (hG e4 hd (λz=>nomatch z))];exact e4,e5.upd hd⟩
theorem ix {H:Hp}{d:Addr}{a b:HO}:upd (upd H d a) d b=upd H d b:=by
 funext c
 by_cases h:c=d
 ·rw[h,aA,aA]
 ·rw[ay h,ay h,ay h]
section
variable {X:Cx}{pins:List (Addr×Obj)}{σ:L2.St}{A:Around}{res:Value}{R:Result->Shared->Prop}{d l it:Addr}{xs:List V}
theorem vI (hh:A.handled=none)(hu:A.units+3<cLine):∀(k i:Nat) (s:Shared) (H:Hp) (kvs ps:List (List Key×V)),xs.length - i=k->i<=xs.length->H l=some (.lst xs)->H d=some (.dT kvs)->kvs.length+(xs.length - i)<=1000->Inv X pins σ H s->s.heap.IsListIter it l i->jp X pins H it->PairsAt H (xs.drop i) ps →
  (∀s',Inv X pins σ (upd H d (.dT (dv kvs ps))) s'->R (.ok (.ret res)) s')->codeAny (model X.prog X.w) A (.builtin "dict.update.loop" ⟨[.ref d,.ref it,rawInt i,res],[]⟩) R s:=by
 intro k
 induction k with
 | zero=>
  intro i s H kvs ps hk hi hl hd hz I hit hf hp hR;refine codeAny_builtin F.entry_dict_update_loop ?_
  rw[Around.under_plainId F.plain_dict_update_loop _];obtain⟨z,its,n,r,hlen,e⟩:=I.lstM hl
  have hL:s.heap.IsList l its.toArray:=⟨_,e,rfl,n,rfl⟩
  show wpAny _ A.in1 (pyNext (.ref it) >>= _) _ _ s
  refine wpAny_bind (wpAny_pyNext_list_end hh hit hL (by simp;omega) λh' hm=> ?_)
  show wpAny _ _ (Builtin.Dict.addKeywords d [] >>= _) _ _ _
  refine wpAny_bind (wpAny_pure (wpAny_pure ?_))
  have hnil:xs.drop i= []:=List.drop_eq_nil_of_le (by omega)
  rw[hnil]at hp;unfold PairsAt at hp;subst hp
  have e2:upd H d (.dT (dv kvs []))=H:=by
   funext b
   by_cases hb:b=d
   ·rw[hb,aA,hd];rfl
   ·rw[ay hb]
  rw[e2]at hR
  exact hR _ (I.turnedL (fp:=[it]) (t':=s.toks) (λb hb=>by rw[List.mem_singleton.mp hb];exact hf) λb o hb eb=>hm b o (λz=>hb (by rw[z];exact List.mem_singleton.mpr rfl)) eb)
 | succ k ih=>
  intro i s H kvs ps hk hi hl hd hz I hit hf hp hR;refine codeAny_builtin F.entry_dict_update_loop ?_
  rw[Around.under_plainId F.plain_dict_update_loop _];obtain⟨z,its,n,r,hlen,e⟩:=I.lstM hl
  have hL:s.heap.IsList l its.toArray:=⟨_,e,rfl,n,rfl⟩
  have hlt:i<xs.length:=by omega
  have hlt':i<its.length:=by omega
  show wpAny _ A.in1 (pyNext (.ref it) >>= _) _ _ s
  refine wpAny_bind (wpAny_pyNext_list_item hit hL (x:=its[i]) (by simp[hlt']) λh' hit' hm=> ?_)
  have I1:Inv X pins σ H { s with heap:=h' }:=I.turnedL (fp:=[it]) (t':=s.toks) (λb hb=>by rw[List.mem_singleton.mp hb];exact hf) λb o hb eb=>(hm.2 b (λz=>hb (by rw[z];exact List.mem_singleton.mpr rfl))).trans eb
  have hdrop:xs.drop i=xs[i] ::xs.drop (i+1):=List.drop_eq_getElem_cons hlt;rw[hdrop]at hp;obtain⟨b,kb,p,r',rfl,ex,hb,hkb,hp'⟩:=hp
  have rx:RelV xs[i] its[i]:=by
   obtain⟨u,q1,q2⟩:=r.get (List.getElem?_eq_getElem hlt)
   rw[List.getElem?_eq_getElem hlt']at q1
   cases q1;exact q2
  rw[ex]at rx
  have eu:its[i] =Value.ref b:=rx;rw[eu];obtain⟨z2,its2,r2,ob,hob1,hob2,nb,hob3⟩:=(show ObjOk X.prog X.w H h' b (.tup [.ref kb,p.2])from I1.hok b _ hb)
  obtain⟨u1,us1,q1,rfl⟩:∃u1 us1,RelV (V.ref kb) u1/\its2=u1::us1:=by cases r2 with | cons a b=>exact⟨_,_,a,rfl⟩
  cases r2 with
  | cons ra rb=>
   obtain⟨u2,q2,rfl⟩:∃u2,RelV p.2 u2/\us1= [u2]:=by cases rb with | cons a b=>cases b;exact⟨_,a,rfl⟩
   obtain rfl:u1=Value.ref kb:=q1
   show wpAny _ A.in1 (holding [Value.ref b] _ >>= _) _ _ _
   refine wpAny_bind (wpAny_holding ?_)
   refine wpAny_bind (wpAny_tryCatch ?_)
   unfold Builtin.Dict.pairItems;refine wpAny_bind (wpAny_typeOf (s:={ s with heap:=h' }) (T:="tuple") ⟨ob,hob1,hob2⟩ ?_)
   rw[if_pos (by decide)]
   refine wpAny_bind (wpAny_seqItems (s:={ s with heap:=h' }) hob1 hob3 (wpAny_pure ?_))
   show wpAny _ _ (holding [Value.ref kb,u2] (dictSet d (.ref kb) u2)) _ _ _
   refine wpAny_holding ?_
   obtain⟨zz,hds,xs2,rel,dd⟩:=uz I1.hok hd
   have hzl:xs2.length<=sizeLine:=by rw[<-Paired.length rel];exact zz
   have hkl:kvs.length<sizeLine:=by rw[sizeLine_eq];omega
   have hl2:(cy kvs p.1 p.2).length<=sizeLine:=by have:=dL kvs p.1 p.2;omega
   refine wpAny_dictSet_heap (hsz:=hzl) (tupleKind_room_in1 (by show A.units+1<cLine;omega)) (kg I1.hok hkb) dd λh2 dd2 hs2=> ?_
   obtain⟨q,es,ep,hq,h22,h3,h4,_,h5⟩:=dd2
   have I2:Inv X pins σ (upd H d (.dT (cy kvs p.1 p.2))) { s with heap:=h2,toks:=s.toks+(tupleKind (bY X.prog X.w)).draws p.1 }:=
    jR (s:={ s with heap:=h' }) I1 (by rw[hd];exact True.intro) hs2 ⟨q,hq⟩ ⟨hl2,hds,_,(rel.put p.1 hkb q2).keeps λc ys ec=>by rw[ay (hG ec hd (λz=>nomatch z))];exact ec,q,es,ep,hq,h22,h3,h4,h5⟩
   have hld:l≠d:=hG hl hd (λz=>nomatch z)
   have hitd:it≠d:=λz=>by have:=hf.1;rw[z,hd]at this;cases this
   have hcast:(i:Int)+1=((i+1:Nat):Int):=by omega
   refine wpAny_pure ⟨plainId_quiet F.plain_dict_update_loop _,?_⟩
   rw[hcast];refine ih (i+1) _ (upd H d (.dT (cy kvs p.1 p.2))) (cy kvs p.1 p.2) r' (by omega) (by omega) (by rw[ay hld];exact hl) aA (by have:=dL kvs p.1 p.2;omega) I2 ?_ ⟨by rw[ay hitd];exact hf.1,hf.2⟩ (hp'.upd hd) λs' I'=> ?_
   ·obtain⟨oi,ho1,ho2,ho3⟩:=hit'
    exact⟨oi,(hs2.2 it hitd).trans ho1,ho2,ho3⟩
   ·rw[ix]at I'
    exact hR s' I'
end
theorem PairsAt.same {H H':Hp}(s:Same H H'):∀{xs:List V} {ps:List (List Key×V)},PairsAt H xs ps->PairsAt H' xs ps
 | [],_,h=>h
 | x::xs,_,⟨b,kb,p,r,e1,e2,e3,e4,e5⟩=>⟨b,kb,p,r,e1,e2,s _ _ e3,s _ _ e4,e5.same s⟩
section
variable {X:Cx}{pins:List (Addr×Obj)}{σ:L2.St}{A:Around}{E:Value->Shared->Prop}{H:Hp}{s:Shared}{l:Addr}{xs:List V}{ps:List (List Key×V)}
theorem rL {Q:Value->Shared->Prop}(hh:A.handled=none)(hu:A.units+8<cLine)(I:Inv X pins σ H s)(hl:H l=some (.lst xs))(hz:xs.length<=1000)(hp:PairsAt H xs ps)
  (h:∀p s',Nw X.K H p->Inv X pins σ (upd H p (.dT (dv [] ps))) s'->Q (.ref p) s'):wpAny (model X.prog X.w) A (call (.type "dict") [.ref l]) Q E s:=by
 have hk:X.K.lookup s.heap.objs.size=none:=by
  cases q:X.K.lookup s.heap.objs.size with
  | none=>rfl
  | some o=>exact absurd (Heap.lt_size (I.kIn _ o q)) (Nat.lt_irrefl _)
 have hn:H s.heap.objs.size=none:=I.hok.fresh (Nat.le_refl _)
 have hlp:l≠s.heap.objs.size:=λz=>by rw[z,hn]at hl;cases hl
 refine callType_codes (Q₁:=λobj s₁=>obj= .ref s.heap.objs.size/\s₁= { s with heap:=s.heap.push { cls:=.type "dict",data:=.dict #[] } }) F.kt_called_dict (F.kt_typeCall_dict_1 _) F.entry_dict_init (kt_code_dict_new _ ⟨rfl,rfl⟩) ?_
 rintro obj s₁ ⟨rfl,rfl⟩
 have I1:Inv X pins σ (upd H s.heap.objs.size (.dT [])) { s with heap:=s.heap.push { cls:=.type "dict",data:=.dict #[] } }:=I.laid (a:=s.heap.objs.size) (o:=.dT []) (t':=s.toks) (λ_ _ q=>Heap.get?_push_of_some _ q) (Nat.le_refl _) (mw s.heap I.big)
 have hT:({ s with heap:=s.heap.push { cls:=.type "dict",data:=.dict #[] } }:Shared).TypeIs (.ref s.heap.objs.size) "dict":=⟨_,Heap.get?_push_size _ rfl,rfl⟩
 have hl1:upd H s.heap.objs.size (.dT []) l=some (.lst xs):=by rw[ay hlp];exact hl
 obtain⟨z,its,n,r,hlen,e⟩:=I1.lstM hl1;refine⟨hT,F.args_dict_init_2 _ _,?_⟩
 unfold Builtin.«dict.__init__»;refine wpAny_bind ?_
 unfold Builtin.Dict.selfAndRest;refine wpAny_bind (wpAny_notOrdered_dict hT ?_)
 show wpAny _ _ (pure (s.heap.objs.size,[Value.ref l])) _ _ _
 refine wpAny_pure ?_
 show wpAny _ _ (Builtin.Dict.updateFrom "dict.__init__" s.heap.objs.size (.ref l) [] .none) _ _ _
 unfold Builtin.Dict.updateFrom;refine wpAny_bind (wpAny_typeOf (T:="list") ⟨_,e,rfl⟩ ?_)
 rw[if_pos (by decide)]
 refine wpAny_bind (md e hh λh' tk' kp=> ?_)
 have I2:Inv X pins σ (upd H s.heap.objs.size (.dT [])) { s with heap:=h',toks:=tk' }:=I1.kept (t':=tk') kp
 rw[if_pos (by rfl)]
 refine wpAny_bind (wpAny_rule ?_)
 have eL:({ s with heap:=h',toks:=tk' }:Shared).heap.IsList l its.toArray:=⟨_,kp _ _ e,rfl,n,rfl⟩
 refine wpAny_bind (wpAny_pyIter_list eL ?_)
 have I3:Inv X pins σ (upd H s.heap.objs.size (.dT [])) { s with heap:=h'.push { cls:=.type "list_iterator",data:=.fields #[.ref l,.int 0 0] },toks:=tk' }:=I2.kept (t':=tk') λb u q=>Heap.get?_push_of_some _ q
 have hpl:s.heap.objs.size<h'.objs.size:=Heap.lt_size (kp _ _ (Heap.get?_push_size _ rfl))
 have hni:upd H s.heap.objs.size (.dT []) h'.objs.size=none:=by
  rw[ay (Nat.ne_of_gt hpl)];exact I.hok.fresh (Nat.le_of_lt hpl)
 have hp1:PairsAt (upd H s.heap.objs.size (.dT [])) xs ps:=hp.same (aO hn _);refine wpAny_pure ⟨plainId_quiet F.plain_dict_update_loop _,?_⟩
 refine vI (A:=A.in1) (X:=X) (pins:=pins) (σ:=σ) (l:=l) (xs:=xs) (it:=h'.objs.size) hh (by show A.units+1+3<cLine;omega) xs.length 0 _ (upd H s.heap.objs.size (.dT [])) [] ps (by omega) (Nat.zero_le _) hl1 aA (by simp;omega) I3 ⟨_,Heap.get?_push_size _ rfl,rfl,rfl⟩ (I2.fpOk (Nat.le_refl _) hni) hp1 λs' I'=> ?_
 rw[ix]at I';exact⟨rfl,h _ _ ⟨hn,hk⟩ I'⟩
end
theorem Fi {k:Nat}{A:Around}(h:Room k A):A.units+8<cLine:=by have:=h.un;omega
theorem sB {kvs:List (List Key×V)}{k:List Key}{v:V}(h:(kvs.map (·.1)).Nodup):((cy kvs k v).map (·.1)).Nodup:=by
 unfold cy
 by_cases a:(kvs.any λkv=>decide (kv.1=k))=true
 ·rw[if_pos a,List.map_map]
  have:((λx=>x.1)∘λkv:List Key×V=>if kv.1=k then(kv.1,v)else kv)=λx=>x.1:=by
   funext x
   show(if x.1=k then(x.1,v)else x).1=x.1
   by_cases e:x.1=k
   ·rw[if_pos e]
   ·rw[if_neg e]
  rw[this];exact h
 ·rw[if_neg a,List.map_append,List.nodup_append]
  refine⟨h,by simp,λx hx y hy=> ?_⟩
  simp only[List.map_cons,List.map_nil,List.mem_singleton]at hy;subst hy;intro z;subst z;obtain⟨p,hp,e⟩:=List.mem_map.mp hx;exact a (List.any_eq_true.mpr ⟨p,hp,decide_eq_true e⟩)
def EU (K:PySem.W.Frag)(O:Ow)(H:Hp):List (T×T)->List (List Key×V)->Prop
 | [],ps=>ps= []
 | a::l,ps=> ∃p r,ps=p::r/\aQ a.1=some p.1/\Rep K O H a.2 p.2/\EU K O H l r
theorem km {K:PySem.W.Frag}{O:Ow}{H:Hp}:∀{l:List (T×T)} {ps:List (List Key×V)} {ks ts:List T} {kvs:List (List Key×V)},EU K O H l ps->ks.map aQ=kvs.map (λp=>some p.1)->Reps K O H ts (kvs.map (·.2))->(kvs.map (·.1)).Nodup →
  (f8 l (ks,ts)).1.map aQ=(dv kvs ps).map (λp=>some p.1)/\Reps K O H (f8 l (ks,ts)).2 ((dv kvs ps).map (·.2))
 | [],ps,ks,ts,kvs,h,h1,h2,hn=>by unfold EU at h;subst h;exact⟨h1,h2⟩
 | (a,b)::l,ps,ks,ts,kvs,h,h1,h2,hn=>by
  obtain⟨p,r,rfl,e1,e2,e3⟩:=h;obtain⟨g1,g2⟩:=jP (vT:=b) e1 e2 h1 h2 hn
  show(f8 l (fI a b ks ts)).1.map aQ=(dv (cy kvs p.1 p.2) r).map (λp=>some p.1)/\Reps K O H (f8 l (fI a b ks ts)).2 ((dv (cy kvs p.1 p.2) r).map (·.2))
  exact km (l:=l) e3 g1 g2 (sB hn)
theorem tO {K:PySem.W.Frag}{O:Ow}{H:Hp}:∀{l:List T} {tps:List (T×T)} {xs:List V},Ds l=some tps->Reps K O H l xs->∃ps,PairsAt H xs ps/\EU K O H tps ps
 | [],tps,xs,h,r=>by cases Reps.nil_iff.mp r;cases h;exact⟨[],rfl,rfl⟩
 | t::l,tps,xs,h,r=>by
  obtain⟨v,ws,rfl,p,q⟩:=Reps.cons_iff.mp r;unfold Ds at h
  split at h
  ·rename_i heq;cases heq
  ·rename_i k v' l' heq
   cases heq
   split at h
   ·rename_i kk rr hk hr
    cases h;obtain⟨ps,g1,g2⟩:=tO hr q;obtain⟨b,vs,e1,e2,e3,e4⟩:=Rep.tup_iff.mp p;obtain⟨u1,us1,rfl,f1,f2⟩:=Reps.cons_iff.mp e4;obtain⟨u2,us2,rfl,f3,f4⟩:=Reps.cons_iff.mp f2;cases Reps.nil_iff.mp f4;obtain⟨kb,f5,f6⟩:=gi hk f1;subst f5;exact⟨(kk,u2)::ps,⟨b,kb,(kk,u2),ps,rfl,e1,e3,f6,g1⟩,⟨(kk,u2),ps,rfl,hk,f3,g2⟩⟩
   ·cases h
  ·cases h
section
variable {X:Cx}{e:Expr}{f:En->Rs T}{x y:Str}{p pos p2 p3:Pos}
def Bz (X:Cx)(f:En->Rs T):TE:=λσ H Q=>tP X f σ H λv H'=> ∃a xs ps,v= .ref a/\H' a=some (.lst xs)/\xs.length<=1000/\PairsAt H' xs ps/\∀q,Nw X.K H' q->Q (.ref q) (upd H' q (.dT (dv [] ps)))
theorem w8 (hu:X.A.units+8<cLine)(hc:X.calm=true)(hm:X.mg "dict" =none)(ha:cz X e f)(hg:Gl X "dict")(hs:bo e=true):PE X (.Call (.Name "dict" p) [e] [] pos) (Bz X f):=by
 have h1:starEach [e] X.env=(false,eval e X.env)::starEach [] X.env:=aU hs;intro pins s σ H Q I hq;refine wpAny_Call_Name_kw (fz I hg hm (show bootBuiltins "dict" =some (.type "dict")by decide+kernel) ?_ (by decide) (by decide))
 refine PyProof.Rows.callWith_type1 (cv (dU (te:=tP X f) ha g9 h1 pos pins s σ H (λxs H'=> ∃v,xs= [v]/\∃a xs ps,v= .ref a/\H' a=some (.lst xs)/\xs.length<=1000/\PairsAt H' xs ps/\∀q,Nw X.K H' q->Q (.ref q) (upd H' q (.dT (dv [] ps)))) I ?_) λus s1 hh=> ?_) h1 rfl
 ·obtain⟨Z,O,E,h⟩:=hq
  exact⟨Z,O,E,Post.mono h λt H' _ g v r=>⟨v,rfl,g v r⟩⟩
 ·obtain⟨vs,H1,I1,r1,v,rfl,a,xs,ps,ev,e1,e2,e3,e4⟩:=hh
  subst ev;obtain⟨u,rfl,ru⟩:=r1.one;obtain rfl:u=Value.ref a:=ru;exact rL (I1.ok.hd hc) hu I1 e1 e2 e3 λq s' nw I'=>⟨.ref q,_,I',rfl,e4 q nw⟩
theorem zA (i:Nat)(hu:X.A.units+8<cLine)(hc:X.calm=true)(hm:X.mg "dict" =none)(hN:X.N.Nodup)(ha:cz X e f)(hst:bo e=true:=by rfl)(hg:Gl X "dict":=by rfl)(hi:X.N[i]? =some x:=by rfl)(hx:Loc X.env.scope x:=by first | exact Or.inl rfl | exact Or.inr rfl)(hs:swapsWith (.Call (.Name "dict" p) [e] [] p2) (some (.Name x p3)) pos.line X.env=pure false:=by rfl)
  (hf:X.fn x=true\/X.env.scope.names.lookup x=some .local:=by first | exact .inl rfl | exact .inr rfl | assumption):mL X (.Assign [.Name x p3] (.Call (.Name "dict" p) [e] [] p2) pos) (nu i f):=PS.imp (oM hN hi hx (w8 hu hc hm ha hg hst) hs hf) λD σ H hh_=>by
 obtain⟨Z,B,M,E,h⟩:=hh_;refine⟨Z,OO B M,E.o,?_⟩
 unfold nu at h
 cases q:f Z with
 | bad=>rw[q]at h;exact h.elim
 | err c=>rw[q]at h;exact PostF.xa h
 | ok t=>
  rw[q,ax]at h;intro H1 s1 v r
  have h1:=h.later (SameO.of s1) (P1:=M.u) λa z=> .inl z
  cases t with
  | lst l=>
   obtain⟨a,xs,rfl,e2,e3,e4⟩:=Rep.lst_iff.mp r;unfold uB at h1
   split at h1
   ·rename_i l' heq
    cases heq
    split at h1
    ·rename_i tps hps
     by_cases hz:l.length<=1000
     ·rw[if_pos hz,ax]at h1
      obtain⟨ps,g1,g2⟩:=tO hps e4;refine⟨a,xs,ps,rfl,e3,by rw[<-e4.length];exact hz,g1,λnd nw=> ?_⟩
      by_cases hl:i<Z.length
      ·simp only[if_pos hl]at h1
       have hm:∀a,a=nd->Nw X.K H1 a:=λa z=>z▸nw
       obtain⟨k1,k2⟩:=km (ks:=[]) (ts:=[]) (kvs:=[]) g2 rfl Reps.nil_ List.nodup_nil;obtain⟨E2,sub⟩:=(E.same s1).new (m:=λa=>a=nd) (o:=.dct (f8 tps ([],[])).1 (f8 tps ([],[])).2) (v:=.ref nd) (H':=upd H1 nd (.dT (dv [] ps))) hl hm (aO nw.1 _) ⟨nd,_,rfl,λb=>Iff.rfl,aA,k1,(k2.more (Ev.subO hm)).same (aO nw.1 _)⟩
       exact h1 _ _ _ (SameO.of (aO nw.1 _)) E2 sub
      ·simp only[if_neg hl]at h1;exact h1.elim
     ·rw[if_neg hz]at h1;exact h1.elim
    ·exact h1.elim
   ·rename_i hno
    exact(hno l rfl).elim
  | _=>exact h1.elim
end
theorem gC {K:PySem.W.Frag}{O:Ow}{H:Hp}:∀{l:List T} {ns:List Int} {xs:List V} {us:List Value},i0 l=some ns->Reps K O H l xs->Vals xs us->IntsAre us ns
 | [],ns,xs,us,h,r,v=>by cases Reps.nil_iff.mp r;cases v;cases h;exact .nil
 | t::l,ns,xs,us,h,r,v=>by
  obtain⟨w,ws,rfl,p,q⟩:=Reps.cons_iff.mp r
  cases v with
  | cons v1 v2=>
   cases t with
   | int i=>
    unfold i0 at h;obtain⟨m,h1,rfl⟩:=Option.map_eq_some_iff.mp h;cases Rep.int_iff.mp p;obtain⟨k,rfl⟩:=v1
    exact .cons _ _ (gC h1 q v2)
   | _=>cases h
theorem nG:∀(l:List Int) (i:Int),dW i l∈i::l/\∀a∈i::l,dW i l<=a
 | [],i=>⟨List.mem_cons_self,λa h=>by cases List.mem_singleton.mp h;exact Int.le_refl _⟩
 | j::l,i=>by
  obtain⟨h1,h2⟩:=nG l (if j<i then j else i)
  unfold dW
  have h3:=h2 _ List.mem_cons_self;refine⟨?_,λa ha=> ?_⟩
  ·rcases List.mem_cons.mp h1 with e | e
   ·rw[e]
    by_cases h:j<i
    ·rw[if_pos h];simp
    ·rw[if_neg h];simp
   ·exact List.mem_cons_of_mem _ (List.mem_cons_of_mem _ e)
  ·rcases List.mem_cons.mp ha with rfl | ha
   ·by_cases h:j<a
    ·rw[if_pos h]at h3 ⊢;omega
    ·rw[if_neg h]at h3 ⊢;omega
   ·rcases List.mem_cons.mp ha with rfl | ha
    ·by_cases h:a<i
     ·rw[if_pos h]at h3 ⊢;omega
     ·rw[if_neg h]at h3 ⊢;omega
    ·exact h2 a (List.mem_cons_of_mem _ ha)
theorem kc:∀(l:List Int) (i:Int),dX i l∈i::l/\∀a∈i::l,a<=dX i l
 | [],i=>⟨List.mem_cons_self,λa h=>by cases List.mem_singleton.mp h;exact Int.le_refl _⟩
 | j::l,i=>by
  obtain⟨h1,h2⟩:=kc l (if i<j then j else i)
  unfold dX
  have h3:=h2 _ List.mem_cons_self;refine⟨?_,λa ha=> ?_⟩
  ·rcases List.mem_cons.mp h1 with e | e
   ·rw[e]
    by_cases h:i<j
    ·rw[if_pos h];simp
    ·rw[if_neg h];simp
   ·exact List.mem_cons_of_mem _ (List.mem_cons_of_mem _ e)
  ·rcases List.mem_cons.mp ha with rfl | ha
   ·by_cases h:a<j
    ·rw[if_pos h]at h3 ⊢;omega
    ·rw[if_neg h]at h3 ⊢;omega
   ·rcases List.mem_cons.mp ha with rfl | ha
    ·by_cases h:i<a
     ·rw[if_pos h]at h3 ⊢;omega
     ·rw[if_neg h]at h3 ⊢;omega
    ·exact h2 a (List.mem_cons_of_mem _ ha)
section
variable {X:Cx}
theorem sT (hc:X.calm=true):CallT X (.builtin "min") m4:=by
 intro pins s σ H O ts vs us Q I hf rs rv hp;unfold m4 at hp
 split at hp
 ·rename_i l
  obtain⟨v,rfl,r⟩:=rs.one
  split at hp
  ·rename_i i ns hk
   obtain⟨a,ws,rfl,n,q,z⟩:=Rep.lst_iff.mp r;obtain⟨u,rfl,ru⟩:=iU rv;cases ru;obtain⟨its,r',pl,hz⟩:=I.list (SqL.of q)
   have hi:=gC hk z r';obtain⟨xs,e⟩:=hi.allInts.items
   have hns:i::ns=xs.toList.map (·.1):=by rw[<-hi.numsOf,<-nums_intItems,<-e]
   have hl:s.heap.IsList a (intItems xs):=by rw[<-e];exact pl.isList
   have hsz:0<xs.size:=by
    have h3:=congrArg List.length hns;rw[List.length_cons,List.length_map]at h3;rw[<-Array.length_toList];omega
   refine min_intList (I.ok.hd hc) hl hsz λv h' tk hv hk'=> ?_
   obtain⟨t,rfl⟩:=intItems_at hv;obtain⟨h1,h2⟩:=argBest_lt (numAt xs) (xs.size - 1);refine⟨.int _,H,I.kept (t':=tk) hk',⟨_,rfl⟩,?_⟩
   have eM:numAt xs (argBest (λi j=>decide (numAt xs i<numAt xs j)) (xs.size - 1))=dW i ns:=by
    obtain⟨g1,g2⟩:=nG ns i
    have m1:numAt xs (argBest (λi j=>decide (numAt xs i<numAt xs j)) (xs.size - 1))∈i::ns:=by
     rw[hns,numAt_eq];exact PySem.getD_mem (by rw[List.length_map,Array.length_toList];omega)
    have k1:=g2 _ m1;rw[hns]at g1;obtain⟨j,hj,ej⟩:=mem_getD g1;rw[List.length_map,Array.length_toList]at hj;rw[<-numAt_eq]at ej
    have k2:=h2 j (by omega)
    rw[ej]at k2;exact Int.le_antisymm k2 k1
   rw[eM];exact hp H (Same.refl H) _ (Rep.int_ _)
  ·exact hp.elim
 ·rename_i i j
  obtain⟨v,ws,rfl,p,q⟩:=Reps.cons_iff.mp rs;obtain⟨v2,rfl,p2⟩:=q.one;cases Rep.int_iff.mp p;cases Rep.int_iff.mp p2;refine vM hc pins s σ H _ us Q I rv ⟨i,j,rfl,?_⟩
  exact hp H (Same.refl H) _ (Rep.int_ _)
 ·exact hp.elim
theorem sU (hc:X.calm=true):CallT X (.builtin "max") m5:=by
 intro pins s σ H O ts vs us Q I hf rs rv hp;unfold m5 at hp
 split at hp
 ·rename_i l
  obtain⟨v,rfl,r⟩:=rs.one
  split at hp
  ·rename_i i ns hk
   obtain⟨a,ws,rfl,n,q,z⟩:=Rep.lst_iff.mp r;obtain⟨u,rfl,ru⟩:=iU rv;cases ru;obtain⟨its,r',pl,hz⟩:=I.list (SqL.of q)
   have hi:=gC hk z r';obtain⟨xs,e⟩:=hi.allInts.items
   have hns:i::ns=xs.toList.map (·.1):=by rw[<-hi.numsOf,<-nums_intItems,<-e]
   have hl:s.heap.IsList a (intItems xs):=by rw[<-e];exact pl.isList
   have hsz:0<xs.size:=by
    have h3:=congrArg List.length hns;rw[List.length_cons,List.length_map]at h3;rw[<-Array.length_toList];omega
   refine max_intList (I.ok.hd hc) hl hsz λv h' tk hv hk'=> ?_
   obtain⟨t,rfl⟩:=intItems_at hv;obtain⟨h1,h2⟩:=argBest_gt (numAt xs) (xs.size - 1);refine⟨.int _,H,I.kept (t':=tk) hk',⟨_,rfl⟩,?_⟩
   have eM:numAt xs (argBest (λi j=>decide (numAt xs i > numAt xs j)) (xs.size - 1))=dX i ns:=by
    obtain⟨g1,g2⟩:=kc ns i
    have m1:numAt xs (argBest (λi j=>decide (numAt xs i > numAt xs j)) (xs.size - 1))∈i::ns:=by
     rw[hns,numAt_eq];exact PySem.getD_mem (by rw[List.length_map,Array.length_toList];omega)
    have k1:=g2 _ m1;rw[hns]at g1;obtain⟨j,hj,ej⟩:=mem_getD g1;rw[List.length_map,Array.length_toList]at hj;rw[<-numAt_eq]at ej
    have k2:=h2 j (by omega)
    rw[ej]at k2;exact Int.le_antisymm k1 k2
   rw[eM];exact hp H (Same.refl H) _ (Rep.int_ _)
  ·exact hp.elim
 ·rename_i i j
  obtain⟨v,ws,rfl,p,q⟩:=Reps.cons_iff.mp rs;obtain⟨v2,rfl,p2⟩:=q.one;cases Rep.int_iff.mp p;cases Rep.int_iff.mp p2;refine vN hc pins s σ H _ us Q I rv ⟨i,j,rfl,?_⟩
  exact hp H (Same.refl H) _ (Rep.int_ _)
 ·exact hp.elim
end
end Tr
namespace Tr
def fD:List T->Option (List (List Int))
 | [] =>some []
 | .tup l::r=>match i0 l,fD r with
  | some ns,some k=>if ns= []then none else some (ns::k)
  | _,_=>none
 | _=>none
def EN:List T->Rs T
 | [.lst l,.tup m] =>if gp l=true/\l.length=m.length/\1<=l.length/\l.length<=1000 then .ok (.dct (f8 (l.zip m) ([],[])).1 (f8 (l.zip m) ([],[])).2)else .bad
 | _=> .bad
end Tr
namespace PySem
open Sem (wp)
namespace F
theorem zk_keys:typeLookup (.type "zip") "keys" =pure none:=by rw[typeLookup_type,builtinLookup_eq_fast];kernel_rfl
theorem zk_ga:typeLookup (.type "zip") "__getattr__" =pure none:=by rw[typeLookup_type,builtinLookup_eq_fast];kernel_rfl
theorem zk_entry:entryFor table "zip.__getattribute__" =some Builtin.«object.__getattribute__»:=
 entryFor_alias (id':="object.__getattribute__") (by kernel_rfl) (by first | rfl | decide+kernel | (unfold String.splitOn;simp+decide [String.splitOnAux])) (by decide+kernel) (by kernel_rfl)
end F
abbrev zO (h:Heap)(z ti to:Addr)(f0 f1:Value):Prop:=h.get? z=some { cls:=.type "zip",dict:=none,data:=.fields #[f0,f1,.bool false,.ref ti,.ref to],slots:=#[] }
section
variable {prog:Program}{w:World}{A:Around}{E:Value->Shared->Prop}{h:Heap}{g:Array GenState}{d:Drawn}{t:Nat}{os:OsState}{z ti to:Addr}{f0 f1:Value}
theorem zk1 {tk:Tok}{Q:Fin->Shared->Prop}(hx:zO h z ti to f0 f1)(hh:A.handled=none)(hq:∀h' tk' e,Heap.NewAttrErr h h' e (.ref z) "keys"->E (.ref e) ⟨h',g,d,tk',os⟩) :
  wpAny (model prog w) A (Builtin.«object.__getattribute__» ⟨[.ref z,.str "keys" tk],[]⟩) Q E ⟨h,g,d,t,os⟩:=by
 have hT:(⟨h,g,d,t,os⟩:Shared).TypeIs (.ref z) "zip":=⟨_,hx,rfl⟩
 have f4:=F.zk_keys
 repeat (any_goals (first | assumption | wp_step))
 exact wpAny_raiseAttrError hh (λh' tk e hx=>hq h' tk e hx) (attrMsg_fits (by decide+kernel) (by rw[sizeLine_eq];decide))
theorem zk2 {tk:Tok}{R:Result->Shared->Prop}(hx:zO h z ti to f0 f1)(hh:A.handled=none)(hq:∀h' tk' e,Heap.NewAttrErr h h' e (.ref z) "keys"->R (.error (.ref e)) ⟨h',g,d,tk',os⟩) :
  codeAny (model prog w) A (.call (.builtin "zip.__getattribute__") ⟨[.ref z,.str "keys" tk],[]⟩) R ⟨h,g,d,t,os⟩:=
 codeAny_call_builtin F.slot_zip_getattribute.plain F.zk_entry (F.slot_zip_getattribute.check _ _ _ _ _ _ _ _ (show(⟨h,g,d,t,os⟩:Shared).TypeIs (.ref z) "zip" from⟨_,hx,rfl⟩) (F.args_zip_getattribute_2 _ _) (zk1 hx hh hq))
theorem zk3 {Q:Option Value->Shared->Prop}(hx:zO h z ti to f0 f1)(hh:A.handled=none)(hq:∀h' tk',(∀b o,h.get? b=some o->h'.get? b=some o)->Q none ⟨h',g,d,tk',os⟩):wpAny (model prog w) A (getAttr? (.ref z) "keys") Q E ⟨h,g,d,t,os⟩:=by
 have hT:∀tk,(⟨h,g,d,tk,os⟩:Shared).TypeIs (.ref z) "zip":=λ_=>⟨_,hx,rfl⟩
 have f1:=sub_AttributeError
 have f2:=F.slot_zip_getattribute.lookup
 have f3:=F.slot_zip_getattribute.bind (.ref z)
 have f5:=F.zk_ga;unfold getAttr? getAttrBy? getAttrBy
 repeat (any_goals (first | assumption | exact hT _ | wp_step))
 refine zk2 hx hh λh' tk' e hx'=> ?_
 obtain⟨t',u',he⟩:=hx'.there
 repeat (any_goals (first | assumption | exact hT _ | wp_step))
 exact hq _ _ hx'.keeps
end
structure Zp (h:Heap)(n l1 t2 k:Nat)(xs ys:Array Value):Prop where
 b1:l1<n
 b2:t2<n
 pr:IsPair h (n+2) (.ref n) (.ref (n+1))
 i1:h.IsListIter n l1 k
 i2:h.IsTupleIter (n+1) t2 k
 s1:h.IsList l1 xs
 s2:h.IsTuple t2 ys
theorem fO {h h':Heap}{a:Addr}{xs:Array Value}(x:h.IsTuple a xs)(e:∀o,h.get? a=some o->h'.get? a=some o):h'.IsTuple a xs:=let ⟨o,ho,r⟩:=x;⟨o,e _ ho,r⟩
theorem Zp.keep {h h':Heap}{n l1 t2 k:Nat}{xs ys:Array Value}(q:Zp h n l1 t2 k xs ys)(e:∀c o,c<n+3->h.get? c=some o->h'.get? c=some o):Zp h' n l1 t2 k xs ys where
 b1:=q.b1
 b2:=q.b2
 pr:=e _ _ (by omega) q.pr
 i1:=q.i1.at λo=>e _ o (by omega)
 i2:=q.i2.at λo=>e _ o (by omega)
 s1:=q.s1.at λo=>e _ o (by have:=q.b1;omega)
 s2:=fO q.s2 λo=>e _ o (by have:=q.b2;omega)
section
variable {prog:Program}{w:World}{A:Around}{E:Value->Shared->Prop}{s:Shared}{n l1 t2 k:Nat}{xs ys:Array Value}{x y:Value}
theorem p6 {a:Addr}{Q:Option Obj->Shared->Prop}(q:Q (s.heap.get? a) s):wpAny (model prog w) A (loadIfAlive a) Q E s:=λΓ p _=>by
 show Sem.wp _ _ (Sem.loadIfAlive a pure) _ _ _ _
 rw[Sem.wp_loadIfAlive];exact q
end
section
variable {prog:Program}{w:World}{A:Around}{E:Value->Shared->Prop}{s:Shared}{n l1 t2 k:Nat}{xs ys:Array Value}{x y:Value}
theorem bw {a b:Nat}(h:a<b\/b<a):a≠b:=by omega
theorem Zp.one {h h':Heap}(q:Zp h n l1 t2 k xs ys)(i:h'.IsListIter n l1 (k+1))(e:Heap.SameBut n h h'):h'.IsTupleIter (n+1) t2 k/\h'.IsList l1 xs/\h'.IsTuple t2 ys/\IsPair h' (n+2) (.ref n) (.ref (n+1)):=by
 have b1:=q.b1
 have b2:=q.b2;exact⟨q.i2.at λo g=>e.extBut _ _ (bw (by omega)) g,q.s1.at λo g=>e.extBut _ _ (bw (by omega)) g,fO q.s2 λo g=>e.extBut _ _ (bw (by omega)) g,e.extBut _ _ (bw (by omega)) q.pr⟩
theorem p0 {T:Addr}{ob:Obj}{f:Bool}{Q:Bool->Shared->Prop}(kz:zO s.heap (n+4) (n+2) (n+3) (rawInt T) (.bool f))(kT:s.heap.get? T=some ob)
  (hk:∀h',zO h' (n+4) (n+2) (n+3) (rawInt T) (.bool true)->(∀c o,c≠n+4->s.heap.get? c=some o->h'.get? c=some o)->h'.objs.size=s.heap.objs.size->Q false { s with heap:=h' }):wpAny (model prog w) A (Builtin.SmallTypes.ownedTupleIsFree (.ref (n+4))) Q E s:=by
 unfold Builtin.SmallTypes.ownedTupleIsFree;refine wpAny_bind (wpAny_field kz rfl (x:=rawInt T) rfl ?_)
 show wpAny _ _ (loadIfAlive (Int.toNat (T:Int)) >>= _) _ _ _
 rw[Int.toNat_natCast];refine wpAny_bind (p6 ?_)
 rw[kT]
 show wpAny _ _ (field (.ref (n+4)) 1 >>= _) _ _ _
 refine wpAny_bind (wpAny_field kz rfl (x:=.bool f) rfl ?_)
 cases f with
 | true=>
  rw[if_neg (by decide)]
  exact wpAny_pure (hk _ kz (λ_ _ _ e=>e) rfl)
 | false=>
  rw[if_pos (by decide)]
  refine wpAny_bind (wpAny_setField_rec kz (by simp) λh₁ kz₁ hs₁=>wpAny_pure (hk h₁ kz₁ (λc o c1 e=>hs₁.extBut _ _ c1 e) hs₁.1))
theorem wa {T:Addr}{ob:Obj}{f:Bool}{Q:Value->Shared->Prop}(q:Zp s.heap n l1 t2 k xs ys)(kz:zO s.heap (n+4) (n+2) (n+3) (rawInt T) (.bool f))(kT:s.heap.get? T=some ob)(hx:xs[k]? =some x)(hy:ys[k]? =some y)
  (kq:∀h' p,s.heap.objs.size<=p->IsPair h' p x y->zO h' (n+4) (n+2) (n+3) (rawInt T) (.bool true)->Zp h' n l1 t2 (k+1) xs ys->(∀c o,c≠n->c≠n+1->c≠n+4->s.heap.get? c=some o->h'.get? c=some o)->Q (.ref p) { s with heap:=h' }) :
  wpAny (model prog w) A (Builtin.«zip.__next__» ⟨[.ref (n+4)],[]⟩) (λfin s'=> ∃v,fin= .done (.ret v)/\Q v s') E s:=by
 have b1:=q.b1
 have b2:=q.b2
 show wpAny _ _ (field (.ref (n+4)) 2 >>= _) _ _ _
 refine wpAny_bind (wpAny_field kz rfl (x:=.bool false) rfl ?_)
 show wpAny _ _ (field (.ref (n+4)) 3 >>= _) _ _ _
 refine wpAny_bind (wpAny_field kz rfl (x:=.ref (n+2)) rfl ?_)
 refine wpAny_bind (wpAny_seqItems q.pr rfl ?_)
 show wpAny _ _ (Builtin.SmallTypes.ownedTupleIsFree (.ref (n+4)) >>= _) _ _ _
 refine wpAny_bind (p0 kz kT λh₁ kz₁ e₁ z₁=> ?_)
 have q₁:Zp h₁ n l1 t2 k xs ys:=q.keep λc o hc g=>e₁ c o (by omega) g
 simp only[Bool.false_eq_true,if_false,List.forIn_toArray,List.forIn_cons,List.forIn_nil];refine wpAny_bind (wpAny_bind (wpAny_bind (wpAny_holding ?_)))
 show wpAny _ _ (Builtin.SmallTypes.nextOf (.ref n) >>= _) _ _ _
 refine wpAny_bind (wpAny_nextOf_list_item q₁.i1 q₁.s1 hx λh₂ g₂ e₂=>wpAny_pure ?_)
 obtain⟨r1,r2,r3,r4⟩:=q₁.one g₂ e₂;refine wpAny_pure (wpAny_bind (wpAny_bind (wpAny_holding ?_)))
 show wpAny _ _ (Builtin.SmallTypes.nextOf (.ref (n+1)) >>= _) _ _ _
 refine wpAny_bind (Enu.tupNext r1 r3 hy λh₃ g₃ e₃=>wpAny_pure (wpAny_pure (wpAny_pure ?_)))
 show wpAny _ _ (newTuple [x,y] >>= _) _ _ _
 refine wpAny_bind (wpAny_newTuple (wpAny_pure ⟨_,rfl,?_⟩))
 have z₃:h₃.objs.size=s.heap.objs.size:=by rw[e₃.1,e₂.1,z₁]
 have up:∀c o,c≠n->c≠n+1->h₁.get? c=some o->(h₃.push { cls:=.type "tuple",data:=.seq #[x,y] }).get? c=some o:=λc o c1 c2 g=>Heap.get?_push_of_some _ (e₃.extBut _ _ c2 (e₂.extBut _ _ c1 g))
 refine kq _ h₃.objs.size (Nat.le_of_eq z₃.symm) (Heap.get?_push_size _ rfl) (up _ _ (bw (by omega)) (bw (by omega)) kz₁) ⟨b1,b2,up _ _ (bw (by omega)) (bw (by omega)) q₁.pr,?_,?_,?_,?_⟩ λc o c1 c2 c4 g=>up c o c1 c2 (e₁ c o c4 g)
 ·exact g₂.at λo g=>Heap.get?_push_of_some _ (e₃.extBut _ _ (bw (by omega)) g)
 ·exact g₃.at λo g=>Heap.get?_push_of_some _ g
 ·exact q₁.s1.at λo g=>up _ o (bw (by omega)) (bw (by omega)) g
 ·exact fO q₁.s2 λo g=>up _ o (bw (by omega)) (bw (by omega)) g
theorem uS {a b:Value}{Q:Value->Shared->Prop}(q:Zp s.heap n l1 t2 k xs ys)(kz:zO s.heap (n+4) (n+2) (n+3) .none (.bool false))(ho:IsPair s.heap (n+3) a b)(hx:xs[k]? =some x)(hy:ys[k]? =some y)
  (kq:∀h' p,s.heap.objs.size<=p->IsPair h' p x y->zO h' (n+4) (n+2) (n+3) (rawInt p) (.bool false)->Zp h' n l1 t2 (k+1) xs ys->(∀c o,c≠n->c≠n+1->c≠n+3->c≠n+4->s.heap.get? c=some o->h'.get? c=some o)->Q (.ref p) { s with heap:=h' }) :
  wpAny (model prog w) A (Builtin.«zip.__next__» ⟨[.ref (n+4)],[]⟩) (λfin s'=> ∃v,fin= .done (.ret v)/\Q v s') E s:=by
 have b1:=q.b1
 have b2:=q.b2
 show wpAny _ _ (field (.ref (n+4)) 2 >>= _) _ _ _
 refine wpAny_bind (wpAny_field kz rfl (x:=.bool false) rfl ?_)
 show wpAny _ _ (field (.ref (n+4)) 3 >>= _) _ _ _
 refine wpAny_bind (wpAny_field kz rfl (x:=.ref (n+2)) rfl ?_)
 refine wpAny_bind (wpAny_seqItems q.pr rfl ?_)
 show wpAny _ _ (Builtin.SmallTypes.ownedTupleIsFree (.ref (n+4)) >>= _) _ _ _
 have fr:wpAny (model prog w) A (Builtin.SmallTypes.ownedTupleIsFree (.ref (n+4))) (λv s'=>v=true/\s'=s) E s:=by
  unfold Builtin.SmallTypes.ownedTupleIsFree;exact wpAny_bind (wpAny_field kz rfl (x:=.none) rfl (wpAny_pure ⟨rfl,rfl⟩))
 refine wpAny_bind (wpAny_mono fr (λv s' hv=> ?_) λ_ _ z=>z)
 obtain⟨rfl,rfl⟩:=hv;simp only[if_true];refine wpAny_bind (wpAny_rule (wpAny_bind (wpAny_field kz rfl (x:=.ref (n+3)) rfl (wpAny_bind (wpAny_setField_rec kz (by simp) λh₁ kz₁ e₁=> ?_)))))
 replace kz₁:zO h₁ (n+4) (n+2) (n+3) .ellipsis (.bool false):=kz₁
 have q₁:Zp h₁ n l1 t2 k xs ys:=q.keep λc o hc g=>e₁.extBut c o (bw (by omega)) g
 simp only[List.zipIdx_cons,List.zipIdx_nil,List.forIn_cons,List.forIn_nil];refine wpAny_bind (wpAny_bind (wpAny_bind (wpAny_onRaise ?_)))
 show wpAny _ _ (Builtin.SmallTypes.nextOf (.ref n) >>= _) _ _ _
 refine wpAny_bind (wpAny_nextOf_list_item q₁.i1 q₁.s1 hx λh₂ g₂ e₂=>wpAny_pure ?_)
 obtain⟨r1,r2,r3,r4⟩:=q₁.one g₂ e₂
 have o₂:IsPair h₂ (n+3) a b:=e₂.extBut _ _ (bw (by omega)) (e₁.extBut _ _ (bw (by omega)) ho)
 refine wpAny_bind (wpAny_seqItems o₂ rfl (wpAny_bind (wpAny_updateSeq_pair o₂ λh₃ o₃ e₃=>wpAny_bind (wpAny_letGo (wpAny_pure ?_)))))
 replace o₃:IsPair h₃ (n+3) x b:=o₃
 refine wpAny_bind (wpAny_bind (wpAny_onRaise ?_))
 show wpAny _ _ (Builtin.SmallTypes.nextOf (.ref (n+1)) >>= _) _ _ _
 refine wpAny_bind (Enu.tupNext (r1.at λo g=>e₃.extBut _ _ (bw (by omega)) g) (fO r3 λo g=>e₃.extBut _ _ (bw (by omega)) g) hy λh₄ g₄ e₄=>wpAny_pure ?_)
 have o₄:IsPair h₄ (n+3) x b:=e₄.extBut _ _ (bw (by omega)) o₃
 refine wpAny_bind (wpAny_seqItems o₄ rfl (wpAny_bind (wpAny_updateSeq_pair o₄ λh₅ o₅ e₅=>wpAny_bind (wpAny_letGo (wpAny_pure (wpAny_pure ?_))))))
 replace o₅:IsPair h₅ (n+3) x y:=o₅
 refine wpAny_bind (wpAny_seqItems o₅ rfl (wpAny_bind (wpAny_newTuple ?_)))
 have z₅:h₅.objs.size=s'.heap.objs.size:=by rw[e₅.1,e₄.1,e₃.1,e₂.1,e₁.1]
 have up:∀c o,c≠n->c≠n+1->c≠n+3->h₁.get? c=some o->h₅.get? c=some o:=λc o c1 c2 c3 g=>e₅.extBut _ _ c3 (e₄.extBut _ _ c2 (e₃.extBut _ _ c3 (e₂.extBut _ _ c1 g)))
 show wpAny _ _ (Builtin.SmallTypes.ownedTupleHandOut (.ref (n+4)) (.ref h₅.objs.size) >>= _) _ _ _
 have z5:zO (h₅.push { cls:=.type "tuple",data:=.seq #[x,y] }) (n+4) (n+2) (n+3) .ellipsis (.bool false):=Heap.get?_push_of_some _ (up _ _ (bw (by omega)) (bw (by omega)) (bw (by omega)) kz₁)
 have hn:n+4<h₅.objs.size:=Heap.lt_size (up _ _ (bw (by omega)) (bw (by omega)) (bw (by omega)) kz₁)
 refine wpAny_bind ?_
 unfold Builtin.SmallTypes.ownedTupleHandOut;refine wpAny_bind (wpAny_setField_rec z5 (by simp) λh₇ z₇ e₇=> ?_)
 replace z₇:zO h₇ (n+4) (n+2) (n+3) (rawInt h₅.objs.size) (.bool false):=z₇
 refine wpAny_setField_rec z₇ (by simp) λh₈ z₈ e₈=>wpAny_pure ⟨_,rfl,?_⟩
 replace z₈:zO h₈ (n+4) (n+2) (n+3) (rawInt h₅.objs.size) (.bool false):=z₈
 have up8:∀c o,c≠n+4->h₅.get? c=some o->h₈.get? c=some o:=λc o c1 g=>e₈.extBut _ _ c1 (e₇.extBut _ _ c1 (Heap.get?_push_of_some _ g))
 refine kq h₈ h₅.objs.size (Nat.le_of_eq z₅.symm) (e₈.extBut _ _ (bw (by omega)) (e₇.extBut _ _ (bw (by omega)) (Heap.get?_push_size _ rfl))) z₈ ⟨b1,b2,up8 _ _ (bw (by omega)) (up _ _ (bw (by omega)) (bw (by omega)) (bw (by omega)) q₁.pr),?_,?_,?_,?_⟩ λc o c1 c2 c3 c4 g=>up8 c o c4 (up c o c1 c2 c3 (e₁.extBut _ _ c4 g))
 ·exact g₂.at λo g=>up8 _ _ (bw (by omega)) (e₅.extBut _ _ (bw (by omega)) (e₄.extBut _ _ (bw (by omega)) (e₃.extBut _ _ (bw (by omega)) g)))
 ·exact g₄.at λo g=>up8 _ _ (bw (by omega)) (e₅.extBut _ _ (bw (by omega)) g)
 ·exact q₁.s1.at λo g=>up8 _ _ (bw (by omega)) (up _ o (bw (by omega)) (bw (by omega)) (bw (by omega)) g)
 ·exact fO q₁.s2 λo g=>up8 _ _ (bw (by omega)) (up _ o (bw (by omega)) (bw (by omega)) (bw (by omega)) g)
theorem v9 {T:Addr}{ob:Obj}{f:Bool}{Q:Fin->Shared->Prop}(hh:A.handled=none)(q:Zp s.heap n l1 t2 k xs ys)(kz:zO s.heap (n+4) (n+2) (n+3) (rawInt T) (.bool f))(kT:s.heap.get? T=some ob)(hx:xs[k]? =none)
  (ke:∀h' e,(∀c o,c≠n->c≠n+4->s.heap.get? c=some o->h'.get? c=some o)->(∃o,h'.get? e=some o/\o.cls= .type "StopIteration")->E (.ref e) { s with heap:=h' }) :
  wpAny (model prog w) A (Builtin.«zip.__next__» ⟨[.ref (n+4)],[]⟩) Q E s:=by
 show wpAny _ _ (field (.ref (n+4)) 2 >>= _) _ _ _
 refine wpAny_bind (wpAny_field kz rfl (x:=.bool false) rfl ?_)
 show wpAny _ _ (field (.ref (n+4)) 3 >>= _) _ _ _
 refine wpAny_bind (wpAny_field kz rfl (x:=.ref (n+2)) rfl ?_)
 refine wpAny_bind (wpAny_seqItems q.pr rfl ?_)
 show wpAny _ _ (Builtin.SmallTypes.ownedTupleIsFree (.ref (n+4)) >>= _) _ _ _
 refine wpAny_bind (p0 kz kT λh₁ kz₁ e₁ z₁=> ?_)
 have q₁:Zp h₁ n l1 t2 k xs ys:=q.keep λc o hc g=>e₁ c o (by omega) g
 simp only[Bool.false_eq_true,if_false,List.forIn_toArray,List.forIn_cons,List.forIn_nil];refine wpAny_bind (wpAny_bind (wpAny_bind (wpAny_holding ?_)))
 show wpAny _ _ (Builtin.SmallTypes.nextOf (.ref n) >>= _) _ _ _
 exact wpAny_bind (wpAny_nextOf_list_end hh q₁.i1 q₁.s1 hx λh₂ e e₂ he=>ke h₂ e (λc o c1 c4 g=>e₂ _ _ c1 (e₁ c o c4 g)) he)
theorem yZ {T:Addr}{ob:Obj}{f:Bool}{Q:Option Value->Shared->Prop}(q:Zp s.heap n l1 t2 k xs ys)(kz:zO s.heap (n+4) (n+2) (n+3) (rawInt T) (.bool f))(kT:s.heap.get? T=some ob)(hx:xs[k]? =some x)(hy:ys[k]? =some y)
  (kq:∀h' p,s.heap.objs.size<=p->IsPair h' p x y->zO h' (n+4) (n+2) (n+3) (rawInt T) (.bool true)->Zp h' n l1 t2 (k+1) xs ys->(∀c o,c≠n->c≠n+1->c≠n+4->s.heap.get? c=some o->h'.get? c=some o)->Q (some (.ref p)) { s with heap:=h' }) :
  wpAny (model prog w) A (pyNext (.ref (n+4))) Q E s:=by
 have hy':s.TypeIs (.ref (n+4)) "zip":=⟨_,kz,rfl⟩;unfold pyNext;exact wpAny_bind (wpAny_attempt (wpAny_callSpecial?_slot (name:=Str.ofString "__next__") hy' F.slot_zip_next (wpAny_call_entry F.slot_zip_next hy' F.entry_zip_next (wa q kz kT hx hy λh' p a1 a2 a3 a4 a5=>wpAny_pure (kq h' p a1 a2 a3 a4 a5)) (F.args_zip_next_1 _))))
theorem v8 {a b:Value}{Q:Option Value->Shared->Prop}(q:Zp s.heap n l1 t2 k xs ys)(kz:zO s.heap (n+4) (n+2) (n+3) .none (.bool false))(ho:IsPair s.heap (n+3) a b)(hx:xs[k]? =some x)(hy:ys[k]? =some y)
  (kq:∀h' p,s.heap.objs.size<=p->IsPair h' p x y->zO h' (n+4) (n+2) (n+3) (rawInt p) (.bool false)->Zp h' n l1 t2 (k+1) xs ys->(∀c o,c≠n->c≠n+1->c≠n+3->c≠n+4->s.heap.get? c=some o->h'.get? c=some o)->Q (some (.ref p)) { s with heap:=h' }) :
  wpAny (model prog w) A (pyNext (.ref (n+4))) Q E s:=by
 have hy':s.TypeIs (.ref (n+4)) "zip":=⟨_,kz,rfl⟩;unfold pyNext;exact wpAny_bind (wpAny_attempt (wpAny_callSpecial?_slot (name:=Str.ofString "__next__") hy' F.slot_zip_next (wpAny_call_entry F.slot_zip_next hy' F.entry_zip_next (uS q kz ho hx hy λh' p a1 a2 a3 a4 a5=>wpAny_pure (kq h' p a1 a2 a3 a4 a5)) (F.args_zip_next_1 _))))
theorem yY {T:Addr}{ob:Obj}{f:Bool}{Q:Option Value->Shared->Prop}(hh:A.handled=none)(q:Zp s.heap n l1 t2 k xs ys)(kz:zO s.heap (n+4) (n+2) (n+3) (rawInt T) (.bool f))(kT:s.heap.get? T=some ob)(hx:xs[k]? =none)
  (kq:∀h',(∀c o,c≠n->c≠n+4->s.heap.get? c=some o->h'.get? c=some o)->Q none { s with heap:=h' }):wpAny (model prog w) A (pyNext (.ref (n+4))) Q E s:=by
 have hy':s.TypeIs (.ref (n+4)) "zip":=⟨_,kz,rfl⟩;unfold pyNext;refine wpAny_bind (wpAny_attempt (wpAny_callSpecial?_slot (name:=Str.ofString "__next__") hy' F.slot_zip_next (wpAny_call_entry F.slot_zip_next hy' F.entry_zip_next (v9 hh q kz kT hx λh' e a1 he=> ?_) (F.args_zip_next_1 _))))
 obtain⟨o,ho,hc⟩:=he;exact wpAny_bind (wpAny_isInstance (T:="StopIteration") (b:=true) ⟨o,ho,hc⟩ isSubtype_stop (wpAny_pure (kq _ a1)))
theorem za {f0 f1:Value}{Q:Value->Shared->Prop}(kz:zO s.heap (n+4) (n+2) (n+3) f0 f1)(h:Q (.ref (n+4)) s):wpAny (model prog w) A (pyIter (.ref (n+4))) Q E s:=by
 have hy':s.TypeIs (.ref (n+4)) "zip":=⟨_,kz,rfl⟩;refine wpAny_pyIter_slot hy' F.slot_zip_iter (wpAny_call_entry F.slot_zip_iter hy' F.entry_zip_iter ?_ (F.args_zip_iter_1 _))
 show wpAny _ _ (ret (.ref (n+4))) _ _ s
 exact wpAny_pure ⟨_,rfl,"zip",_,hy',F.slot_zip_next.lookup,h⟩
end
abbrev Dv (h:Heap)(l t:Addr):Heap:=h.push { cls:=.type "list_iterator",data:=.fields #[.ref l,.int 0 0] }
abbrev E9 (h:Heap)(l t:Addr):Heap:=(Dv h l t).push { cls:=.type "tuple_iterator",data:=.fields #[.ref t,.int 0 0] }
abbrev E8 (h:Heap)(l t:Addr):Heap:=(E9 h l t).push { cls:=.type "tuple",data:=.seq #[.ref h.objs.size,.ref (Dv h l t).objs.size] }
abbrev E7 (h:Heap)(l t:Addr):Heap:=(E8 h l t).push { cls:=.type "tuple",data:=.seq #[.none,.none] }
abbrev AV (h:Heap)(l t:Addr):Heap:=(E7 h l t).push { cls:=.type "zip",data:=.fields #[.none,.bool false,.bool false,.ref (E9 h l t).objs.size,.ref (E8 h l t).objs.size] }
theorem vj (l t:Addr)(xs ys:Array Value):Meets (Builtin.«zip.__new__» ⟨[.type "zip",.ref l,.ref t],[]⟩) (λ_ R s=>s.heap.IsList l xs/\s.heap.IsTuple t ys/\R (.ok (.ret (.ref (E7 s.heap l t).objs.size))) { s with heap:=AV s.heap l t }):=
 .of_wp λprog w A R s q=>by
  obtain⟨hp,g,d,tk,os⟩:=s;obtain⟨a1,a2,q⟩:=q
  have k0:=sub_zip
  have k1:Heap.IsList (Shared.heap ⟨hp,g,d,tk,os⟩) l xs:=a1
  have k2:Heap.IsTuple (Shared.heap ⟨Dv hp l t,g,d,tk,os⟩) t ys:=fO a2 λo e=>Heap.get?_push_of_some _ e
  wp_walk using wpAny_pyIter_list k1,wpAny_pyIter_tuple k2
  exact⟨_,rfl,q⟩
section
variable {prog:Program}{w:World}{A:Around}{E:Value->Shared->Prop}{s:Shared}
theorem zc {l t:Addr}{xs ys:Array Value}{Q:Value->Shared->Prop}(a1:s.heap.IsList l xs)(a2:s.heap.IsTuple t ys)
  (q:∀h',Zp h' s.heap.objs.size l t 0 xs ys->zO h' (s.heap.objs.size+4) (s.heap.objs.size+2) (s.heap.objs.size+3) .none (.bool false)->IsPair h' (s.heap.objs.size+3) .none .none->h'.objs.size=s.heap.objs.size+5 →
   (∀c o,s.heap.get? c=some o->h'.get? c=some o)->Q (.ref (s.heap.objs.size+4)) { s with heap:=h' }) :
  wpAny (model prog w) A (call (.type "zip") [.ref l,.ref t]) Q E s:=by
 refine callType_new F.called_zip (by decide) (F.typeCall_zip_2 _ _) (F.newCall_zip_2 _ _) (λobj=>F.args_object_init_3 obj _ _) F.entry_zip_new (vj l t xs ys) ⟨a1,a2,?_⟩
 have z1:(Dv s.heap l t).objs.size=s.heap.objs.size+1:=Heap.size_push ..
 have z2:(E9 s.heap l t).objs.size=s.heap.objs.size+2:=by rw[Heap.size_push,z1]
 have z3:(E8 s.heap l t).objs.size=s.heap.objs.size+3:=by rw[Heap.size_push,z2]
 have z4:(E7 s.heap l t).objs.size=s.heap.objs.size+4:=by rw[Heap.size_push,z3]
 have z5:(AV s.heap l t).objs.size=s.heap.objs.size+5:=by rw[Heap.size_push,z4]
 have g5:(AV s.heap l t).get? (E7 s.heap l t).objs.size=some _:=Heap.get?_push_size _ rfl
 have g4:(AV s.heap l t).get? (E8 s.heap l t).objs.size=some _:=Heap.get?_push_of_some _ (Heap.get?_push_size _ rfl)
 have g3:(AV s.heap l t).get? (E9 s.heap l t).objs.size=some _:=Heap.get?_push_of_some _ (Heap.get?_push_of_some _ (Heap.get?_push_size _ rfl))
 have g2:(AV s.heap l t).get? (Dv s.heap l t).objs.size=some _:=Heap.get?_push_of_some _ (Heap.get?_push_of_some _ (Heap.get?_push_of_some _ (Heap.get?_push_size _ rfl)))
 have g1:(AV s.heap l t).get? s.heap.objs.size=some _:=Heap.get?_push_of_some _ (Heap.get?_push_of_some _ (Heap.get?_push_of_some _ (Heap.get?_push_of_some _ (Heap.get?_push_size _ rfl))))
 have up:∀c o,s.heap.get? c=some o->(AV s.heap l t).get? c=some o:=λc o e=>Heap.get?_push_of_some _ (Heap.get?_push_of_some _ (Heap.get?_push_of_some _ (Heap.get?_push_of_some _ (Heap.get?_push_of_some _ e))))
 show _/\_
 rw[z2,z3,z4]at g5;rw[z1,z2]at g3;rw[z3]at g4;rw[z1]at g2;rw[z4]
 have lt1:l<s.heap.objs.size:=by obtain⟨o,e,_⟩:=a1;exact Heap.lt_size e
 have lt2:t<s.heap.objs.size:=by obtain⟨o,e,_⟩:=a2;exact Heap.lt_size e
 exact⟨⟨_,g5,rfl⟩,q _ ⟨lt1,lt2,g3,⟨_,g1,rfl,rfl⟩,⟨_,g2,rfl,rfl⟩,a1.at λo e=>up _ o e,fO a2 λo e=>up _ o e⟩ g5 g4 z5 up⟩
end
end PySem
namespace Tr
open PySem PySem.Spec PyProof.Rows L2
def ZAt (H:Hp):List V->List V->List (List Key×V)->Prop
 | [],[],ps=>ps= []
 | x::xs,y::ys,ps=> ∃kb p r,ps=p::r/\x= .ref kb/\H kb=some (.tup (p.1.map kV))/\p.2=y/\ZAt H xs ys r
 | _,_,_=>False
theorem ZAt.mono {H H':Hp}(h:∀b vs,H b=some (.tup vs)->H' b=some (.tup vs)):∀{xs ys:List V} {ps:List (List Key×V)},ZAt H xs ys ps->ZAt H' xs ys ps
 | [],[],_,z=>z
 | [],_::_,_,z=>z
 | _::_,[],_,z=>z
 | x::xs,y::ys,_,⟨kb,p,r,e1,e2,e3,e4,e5⟩=>⟨kb,p,r,e1,e2,h _ _ e3,e4,e5.mono h⟩
theorem ZAt.len {H:Hp}:∀{xs ys:List V} {ps:List (List Key×V)},ZAt H xs ys ps->xs.length=ys.length
 | [],[],_,_=>rfl
 | [],_::_,_,z=>z.elim
 | _::_,[],_,z=>z.elim
 | x::xs,y::ys,_,⟨kb,p,r,e1,e2,e3,e4,e5⟩=>by rw[List.length_cons,List.length_cons,e5.len]
section
variable {X:Cx}{pins:List (Addr×Obj)}{σ:L2.St}{A:Around}{res:Value}{R:Result->Shared->Prop}{d it:Addr}
theorem uA {Ex:Heap->Prop}{i:Nat}{s:Shared}{H:Hp}{kvs:List (List Key×V)}{kb:Addr}{kk:List Key}{v:V}(hu:A.units+3<cLine)(hd:H d=some (.dT kvs))(hz:kvs.length<1000)(hk:H kb=some (.tup (kk.map kV)))
  (hn:∀{Q:Option Value->Shared->Prop} {E:Value->Shared->Prop},(∀h' p u2,Inv X pins σ H { s with heap:=h' }->IsPair h' p (.ref kb) u2->RelV v u2->Ex h'->Q (some (.ref p)) { s with heap:=h' })->wpAny (model X.prog X.w) A.in1 (pyNext (.ref it)) Q E s)
  (nx:∀h' h2 tk,Ex h'->(∀c,c≠d->h2.get? c=h'.get? c)->Inv X pins σ (upd H d (.dT (cy kvs kk v))) { s with heap:=h2,toks:=tk }->codeAny (model X.prog X.w) A (.builtin "dict.update.loop" ⟨[.ref d,.ref it,rawInt ((i+1:Nat):Int),res],[]⟩) R { s with heap:=h2,toks:=tk }) :
  codeAny (model X.prog X.w) A (.builtin "dict.update.loop" ⟨[.ref d,.ref it,rawInt (i:Nat),res],[]⟩) R s:=by
 refine codeAny_builtin F.entry_dict_update_loop ?_
 rw[Around.under_plainId F.plain_dict_update_loop _]
 show wpAny _ A.in1 (pyNext (.ref it) >>= _) _ _ s
 refine wpAny_bind (hn λh' p u2 I1 hp q2 hx=> ?_)
 show wpAny _ A.in1 (holding [Value.ref p] _ >>= _) _ _ _
 refine wpAny_bind (wpAny_holding (wpAny_bind (wpAny_tryCatch ?_)))
 unfold Builtin.Dict.pairItems;refine wpAny_bind (wpAny_typeOf (s:={ s with heap:=h' }) (T:="tuple") ⟨_,hp,rfl⟩ ?_)
 rw[if_pos (by decide)]
 refine wpAny_bind (wpAny_seqItems (s:={ s with heap:=h' }) hp rfl (wpAny_pure ?_))
 show wpAny _ _ (holding [Value.ref kb,u2] (dictSet d (.ref kb) u2)) _ _ _
 refine wpAny_holding ?_
 obtain⟨zz,hds,xs2,rel,dd⟩:=uz I1.hok hd
 have hzl:xs2.length<=sizeLine:=by rw[<-Paired.length rel];exact zz
 have hkl:kvs.length<sizeLine:=by rw[sizeLine_eq];omega
 have hl2:(cy kvs kk v).length<=sizeLine:=by have:=dL kvs kk v;omega
 refine wpAny_dictSet_heap (hsz:=hzl) (tupleKind_room_in1 (by show A.units+1<cLine;omega)) (kg I1.hok hk) dd λh2 dd2 hs2=> ?_
 obtain⟨q,es,ep,hq,h22,h3,h4,_,h5⟩:=dd2
 have I2:Inv X pins σ (upd H d (.dT (cy kvs kk v))) { s with heap:=h2,toks:=s.toks+(tupleKind (bY X.prog X.w)).draws kk }:=
  jR (s:={ s with heap:=h' }) I1 (by rw[hd];exact True.intro) hs2 ⟨q,hq⟩ ⟨hl2,hds,_,(rel.put kk hk q2).keeps λc ys ec=>by rw[ay (hG ec hd (λz=>nomatch z))];exact ec,q,es,ep,hq,h22,h3,h4,h5⟩
 have hcast:(i:Int)+1=((i+1:Nat):Int):=by omega
 refine wpAny_pure ⟨plainId_quiet F.plain_dict_update_loop _,?_⟩
 rw[hcast];exact nx h' h2 _ hx (λc hc=>hs2.2 c hc) I2
theorem Df {s:Shared}{i:Nat}(hn:∀{Q:Option Value->Shared->Prop} {E:Value->Shared->Prop},(∀h',R (.ok (.ret res)) { s with heap:=h' }->Q none { s with heap:=h' })->wpAny (model X.prog X.w) A.in1 (pyNext (.ref it)) Q E s) :
  codeAny (model X.prog X.w) A (.builtin "dict.update.loop" ⟨[.ref d,.ref it,rawInt (i:Nat),res],[]⟩) R s:=by
 refine codeAny_builtin F.entry_dict_update_loop ?_
 rw[Around.under_plainId F.plain_dict_update_loop _]
 show wpAny _ A.in1 (pyNext (.ref it) >>= _) _ _ s
 refine wpAny_bind (hn λh' hr=> ?_)
 show wpAny _ _ (Builtin.Dict.addKeywords d [] >>= _) _ _ _
 exact wpAny_bind (wpAny_pure (wpAny_pure hr))
theorem ze {n l1 t2:Nat}{us ws:Array Value}{xs ys:List V}{T:Addr}(hh:A.handled=none)(hu:A.units+3<cLine)(rx:Vals xs us.toList)(ry:Vals ys ws.toList)(hTn:n+4<T)(hTd:T≠d):∀(k i:Nat) (s:Shared) (H:Hp) (kvs ps:List (List Key×V)) (f:Bool) (ob:Obj),xs.length - i=k->i<=xs.length->H d=some (.dT kvs)->kvs.length+(xs.length - i)<=1000 →
  Inv X pins σ H s->Zp s.heap n l1 t2 i us ws->zO s.heap (n+4) (n+2) (n+3) (rawInt T) (.bool f)->s.heap.get? T=some ob->(∀j:Nat,j<5->jp X pins H (n+j))->l1≠d->t2≠d->ZAt H (xs.drop i) (ys.drop i) ps →
  (∀s',Inv X pins σ (upd H d (.dT (dv kvs ps))) s'->R (.ok (.ret res)) s')->codeAny (model X.prog X.w) A (.builtin "dict.update.loop" ⟨[.ref d,.ref (n+4),rawInt i,res],[]⟩) R s:=by
 have lenx:=rx.length
 have leny:=ry.length;intro k
 induction k with
 | zero=>
  intro i s H kvs ps f ob hk hi hd hz I q kz kT hf hl1 ht2 hp hR
  have hnil:xs.drop i= []:=List.drop_eq_nil_of_le (by omega)
  have hny:ys.drop i= []:=by
   have:=hp.len;rw[hnil]at this;exact List.length_eq_zero_iff.mp this.symm
  rw[hnil,hny]at hp;unfold ZAt at hp;subst hp
  have e2:upd H d (.dT (dv kvs []))=H:=by
   funext b
   by_cases hb:b=d
   ·rw[hb,aA,hd];rfl
   ·rw[ay hb]
  rw[e2]at hR;refine Df λ{Q E} hq=>yY hh q kz kT (by rw[Array.getElem?_eq_none];rw[<-Array.length_toList];omega) λh' e=>hq h' (hR _ ?_)
  exact I.turnedL (fp:=[n,n+4]) (t':=s.toks) (λb hb=>by
   simp only[List.mem_cons,List.not_mem_nil,or_false]at hb;rcases hb with rfl | rfl
   ·exact hf 0 (by omega)
   ·exact hf 4 (by omega)) λb o hb eb=>e b o (λz=>hb (by rw[z];simp)) (λz=>hb (by rw[z];simp)) eb
 | succ k ih=>
  intro i s H kvs ps f ob hk hi hd hz I q kz kT hf hl1 ht2 hp hR
  have hlt:i<xs.length:=by omega
  have hdx:xs.drop i=xs[i] ::xs.drop (i+1):=List.drop_eq_getElem_cons hlt
  have hyl:i<ys.length:=by
   have:=hp.len;rw[List.length_drop,List.length_drop]at this;omega
  have hdy:ys.drop i=ys[i] ::ys.drop (i+1):=List.drop_eq_getElem_cons hyl;rw[hdx,hdy]at hp;obtain⟨kb,p,r,rfl,ex,hkb,ep,hp'⟩:=hp;obtain⟨u1,q1,q2⟩:=rx.get (List.getElem?_eq_getElem hlt)
  obtain⟨u2,q3,q4⟩:=ry.get (List.getElem?_eq_getElem hyl)
  rw[Array.getElem?_toList]at q1 q3
  rw[ex]at q2;obtain rfl:u1=Value.ref kb:=q2;rw[<-ep]at q4
  have hd0:∀j:Nat,j<5->n+j≠d:=λj hj z=>by have:=(hf j hj).1;rw[z,hd]at this;cases this
  refine uA (pins:=pins) (σ:=σ) (Ex:=λh'=>Zp h' n l1 t2 (i+1) us ws/\zO h' (n+4) (n+2) (n+3) (rawInt T) (.bool true)/\h'.get? T=some ob) hu hd (by omega) hkb (λ{Q E} hq=>yZ q kz kT q1 q3 λh' b _ a2 a3 a4 a5=>hq h' b u2 ?_ a2 q4 ⟨a4,a3,a5 _ _ (bw (by omega)) (bw (by omega)) (bw (by omega)) kT⟩) λh1 h2 tk hx3 e2 I2=> ?_
  ·exact I.turnedL (fp:=[n,n+1,n+4]) (t':=s.toks) (λb hb=>by
    simp only[List.mem_cons,List.not_mem_nil,or_false]at hb;rcases hb with rfl | rfl | rfl
    ·exact hf 0 (by omega)
    ·exact hf 1 (by omega)
    ·exact hf 4 (by omega)) λb o hb eb=>a5 b o (λz=>hb (by rw[z];simp)) (λz=>hb (by rw[z];simp)) (λz=>hb (by rw[z];simp)) eb
  ·obtain⟨x1,x2,x3⟩:=hx3
   have lt1:=x1.b1
   have lt2:=x1.b2
   have x1':Zp h2 n l1 t2 (i+1) us ws:=⟨x1.b1,x1.b2,(e2 _ (hd0 2 (by omega))).trans x1.pr,x1.i1.at λo g=>(e2 _ (hd0 0 (by omega))).trans g,x1.i2.at λo g=>(e2 _ (hd0 1 (by omega))).trans g,x1.s1.at λo g=>(e2 _ hl1).trans g,fO x1.s2 λo g=>(e2 _ ht2).trans g⟩
   refine ih (i+1) _ (upd H d (.dT (cy kvs p.1 p.2))) (cy kvs p.1 p.2) r true ob (by omega) (by omega) aA (by have:=dL kvs p.1 p.2;omega) I2 x1' ((e2 _ (hd0 4 (by omega))).trans x2) ((e2 _ hTd).trans x3) (λj hj=>⟨by rw[ay (hd0 j hj)];exact(hf j hj).1,(hf j hj).2⟩) hl1 ht2 (hp'.mono λb vs e=>by rw[ay (hG e hd (λz=>nomatch z))];exact e) λs' I'=> ?_
   rw[ix]at I';exact hR s' I'
end
section
variable {X:Cx}{pins:List (Addr×Obj)}{σ:L2.St}{A:Around}{E:Value->Shared->Prop}{H:Hp}{s:Shared}{n l1 t2:Nat}{us ws:Array Value}{xs ys:List V}{ps:List (List Key×V)}
theorem AG {Q:Value->Shared->Prop}(hh:A.handled=none)(hu:A.units+8<cLine)(I:Inv X pins σ H s)(q:Zp s.heap n l1 t2 0 us ws)(kz:zO s.heap (n+4) (n+2) (n+3) .none (.bool false))(ko:IsPair s.heap (n+3) .none .none)
  (hf:∀j:Nat,j<5->jp X pins H (n+j)) (rx:Vals xs us.toList) (ry:Vals ys ws.toList) (h1:1<=xs.length) (hz:xs.length<=1000) (hp:ZAt H xs ys ps)
  (h:∀p s',Nw X.K H p->Inv X pins σ (upd H p (.dT (dv [] ps))) s'->Q (.ref p) s'):wpAny (model X.prog X.w) A (call (.type "dict") [.ref (n+4)]) Q E s:=by
 have hk:X.K.lookup s.heap.objs.size=none:=by
  cases q:X.K.lookup s.heap.objs.size with
  | none=>rfl
  | some o=>exact absurd (Heap.lt_size (I.kIn _ o q)) (Nat.lt_irrefl _)
 have hn:H s.heap.objs.size=none:=I.hok.fresh (Nat.le_refl _)
 have z4:n+4<s.heap.objs.size:=Heap.lt_size kz
 have b1:=q.b1
 have b2:=q.b2;refine callType_codes (Q₁:=λobj s₁=>obj= .ref s.heap.objs.size/\s₁= { s with heap:=s.heap.push { cls:=.type "dict",data:=.dict #[] } }) F.kt_called_dict (F.kt_typeCall_dict_1 _) F.entry_dict_init (kt_code_dict_new _ ⟨rfl,rfl⟩) ?_
 rintro obj s₁ ⟨rfl,rfl⟩
 have I1:Inv X pins σ (upd H s.heap.objs.size (.dT [])) { s with heap:=s.heap.push { cls:=.type "dict",data:=.dict #[] } }:=I.laid (a:=s.heap.objs.size) (o:=.dT []) (t':=s.toks) (λ_ _ q=>Heap.get?_push_of_some _ q) (Nat.le_refl _) (mw s.heap I.big)
 have hT:({ s with heap:=s.heap.push { cls:=.type "dict",data:=.dict #[] } }:Shared).TypeIs (.ref s.heap.objs.size) "dict":=⟨_,Heap.get?_push_size _ rfl,rfl⟩
 have kz1:zO (s.heap.push { cls:=.type "dict",data:=.dict #[] }) (n+4) (n+2) (n+3) .none (.bool false):=Heap.get?_push_of_some _ kz
 refine⟨hT,F.args_dict_init_2 _ _,?_⟩
 unfold Builtin.«dict.__init__»;refine wpAny_bind ?_
 unfold Builtin.Dict.selfAndRest;refine wpAny_bind (wpAny_notOrdered_dict hT ?_)
 show wpAny _ _ (pure (s.heap.objs.size,[Value.ref (n+4)])) _ _ _
 refine wpAny_pure ?_
 show wpAny _ _ (Builtin.Dict.updateFrom "dict.__init__" s.heap.objs.size (.ref (n+4)) [] .none) _ _ _
 unfold Builtin.Dict.updateFrom;refine wpAny_bind (wpAny_typeOf (T:="zip") ⟨_,kz1,rfl⟩ ?_)
 rw[if_pos (by decide)]
 refine wpAny_bind (zk3 kz1 hh λh' tk' kp=> ?_)
 have I2:Inv X pins σ (upd H s.heap.objs.size (.dT [])) { s with heap:=h',toks:=tk' }:=I1.kept (t':=tk') kp
 have up:∀c o,s.heap.get? c=some o->h'.get? c=some o:=λc o e=>kp c o (Heap.get?_push_of_some _ e)
 rw[if_pos (by rfl)]
 refine wpAny_bind (wpAny_rule ?_)
 have kz2:zO h' (n+4) (n+2) (n+3) .none (.bool false):=up _ _ kz;refine wpAny_bind (za (s:={ s with heap:=h',toks:=tk' }) kz2 ?_)
 refine wpAny_pure ⟨plainId_quiet F.plain_dict_update_loop _,?_⟩
 have q2:Zp h' n l1 t2 0 us ws:=q.keep λc o _ e=>up c o e
 have hsz:s.heap.objs.size<h'.objs.size:=Heap.lt_size (kp _ _ (Heap.get?_push_size _ rfl))
 have hf2:∀j:Nat,j<5->jp X pins (upd H s.heap.objs.size (.dT [])) (n+j):=λj hj=>⟨by rw[ay (bw (by omega))];exact(hf j hj).1,(hf j hj).2⟩
 obtain⟨x,xs',rfl⟩:∃x xs',xs=x::xs':=by
  cases xs with
  | nil=>simp at h1
  | cons x xs'=>exact⟨x,xs',rfl⟩
 obtain⟨y,ys',rfl⟩:∃y ys',ys=y::ys':=by
  cases ys with
  | nil=>exact hp.elim
  | cons y ys'=>exact⟨y,ys',rfl⟩
 obtain⟨kb,p,r,rfl,ex,hkb,ep,hp'⟩:=hp;obtain⟨u1,v1,v2⟩:=rx.get (i:=0) rfl;obtain⟨u2,v3,v4⟩:=ry.get (i:=0) rfl;rw[Array.getElem?_toList]at v1 v3
 rw[ex]at v2;obtain rfl:u1=Value.ref kb:=v2;rw[<-ep]at v4;rw[List.length_cons]at hz
 have tupk:∀(o:List (List Key×V)) b vs,H b=some (.tup vs)->upd H s.heap.objs.size (.dT o) b=some (.tup vs):=λo b vs e=>by rw[ay (λz=>by rw[z,hn]at e;cases e)];exact e
 refine uA (A:=A.in1) (X:=X) (pins:=pins) (σ:=σ) (i:=0) (kvs:=[]) (Ex:=λh1=>Zp h1 n l1 t2 1 us ws/\∃T ob,h'.objs.size<=T/\zO h1 (n+4) (n+2) (n+3) (rawInt T) (.bool false)/\h1.get? T=some ob) (by show A.units+1+3<cLine;omega) aA (by simp) (tupk _ _ _ hkb)
  (λ{Q E} hq=>v8 q2 kz2 (up _ _ ko) v1 v3 λh1 b a1 a2 a3 a4 a5=>hq h1 b u2 ?_ a2 v4 ⟨a4,b,_,a1,a3,a2⟩) λh1 h2 tk hx3 e2 I3=> ?_
 ·exact I2.turnedL (fp:=[n,n+1,n+3,n+4]) (t':=tk') (λb hb=>by
   simp only[List.mem_cons,List.not_mem_nil,or_false]at hb;rcases hb with rfl | rfl | rfl | rfl
   ·exact hf2 0 (by omega)
   ·exact hf2 1 (by omega)
   ·exact hf2 3 (by omega)
   ·exact hf2 4 (by omega)) λb o hb eb=>a5 b o (λz=>hb (by rw[z];simp)) (λz=>hb (by rw[z];simp)) (λz=>hb (by rw[z];simp)) (λz=>hb (by rw[z];simp)) eb
 ·obtain⟨x1,T,ob,hTs,x2,x3⟩:=hx3
  have hd0:∀j:Nat,j<5->n+j≠s.heap.objs.size:=λj hj=>bw (by omega)
  have x1':Zp h2 n l1 t2 1 us ws:=⟨x1.b1,x1.b2,(e2 _ (hd0 2 (by omega))).trans x1.pr,x1.i1.at λo g=>(e2 _ (hd0 0 (by omega))).trans g,x1.i2.at λo g=>(e2 _ (hd0 1 (by omega))).trans g,x1.s1.at λo g=>(e2 _ (bw (by omega))).trans g,fO x1.s2 λo g=>(e2 _ (bw (by omega))).trans g⟩
  rw[ix]at I3;refine ze (A:=A.in1) (X:=X) (pins:=pins) (σ:=σ) (xs:=x::xs') (ys:=y::ys') (T:=T) hh (by show A.units+1+3<cLine;omega) rx ry (by omega) (bw (by omega)) xs'.length 1 _ (upd H s.heap.objs.size (.dT (cy [] p.1 p.2))) (cy [] p.1 p.2) r false ob (by rw[List.length_cons];omega) (by rw[List.length_cons];omega) aA (by rw[List.length_cons];show 1+_<=1000;omega) I3 x1' ((e2 _ (hd0 4 (by omega))).trans x2) ((e2 _ (bw (by omega))).trans x3) (λj hj=>⟨by rw[ay (hd0 j hj)];exact(hf j hj).1,(hf j hj).2⟩) (bw (by omega)) (bw (by omega)) (hp'.mono (tupk _)) λs' I'=> ?_
  rw[ix]at I';exact⟨rfl,h _ _ ⟨hn,hk⟩ I'⟩
theorem AW {K:PySem.W.Frag}{O:Ow}{H:Hp}:∀{l m:List T} {xs ys:List V},gp l=true->l.length=m.length->Reps K O H l xs->Reps K O H m ys->∃ps,ZAt H xs ys ps/\EU K O H (l.zip m) ps
 | [],[],xs,ys,_,_,r1,r2=>by cases Reps.nil_iff.mp r1;cases Reps.nil_iff.mp r2;exact⟨[],rfl,rfl⟩
 | [],_::_,_,_,_,h,_,_=>by simp at h
 | _::_,[],_,_,_,h,_,_=>by simp at h
 | a::l,b::m,xs,ys,hk,h,r1,r2=>by
  obtain⟨v,vs,rfl,p1,q1⟩:=Reps.cons_iff.mp r1;obtain⟨w,ws,rfl,p2,q2⟩:=Reps.cons_iff.mp r2;unfold gp at hk;rw[Bool.and_eq_true]at hk;obtain⟨kk,ek⟩:=Option.isSome_iff_exists.mp hk.1;obtain⟨ps,g1,g2⟩:=AW hk.2 (by simpa using h) q1 q2
  obtain⟨kb,f5,f6⟩:=gi ek p1;exact⟨(kk,w)::ps,⟨kb,(kk,w),ps,rfl,f5,f6,rfl,g1⟩,⟨(kk,w),ps,rfl,ek,p2,g2⟩⟩
end
section
variable {X:Cx}{a b:Expr}{fs:En->Rs (List T)}{p p1 p2 pos:Pos}
theorem B5 (hu:X.A.units+8<cLine)(hc:X.calm=true)(hm:X.mg "dict" =none)(hmz:X.mg "zip" =none)(ha:n9 X [a,b] fs)(hst:bf [a,b] =true:=by rfl)(hg:Gl X "dict":=by rfl)(hgz:Gl X "zip":=by rfl) :
  cz X (.Call (.Name "dict" p) [.Call (.Name "zip" p1) [a,b] [] p2] [] pos) (cl EN fs):=by
 intro pins s σ H Q I ⟨Z,O,Ev,hq⟩
 have e1:starEach [Expr.Call (.Name "zip" p1) [a,b] [] p2] X.env=(false,eval (.Call (.Name "zip" p1) [a,b] [] p2) X.env)::starEach [] X.env:=aU rfl;unfold bf at hst;rw[Bool.and_eq_true]at hst
 have e2:starEach [a,b] X.env=(false,eval a X.env)::starEach [b] X.env:=aU hst.1;refine wpAny_Call_Name_kw (fz I hg hm (show bootBuiltins "dict" =some (.type "dict")by decide+kernel) ?_ (by decide) (by decide))
 refine PyProof.Rows.callWith_type1 ?_ e1 rfl
 rw[e1];refine Calls.spliced_cons ?_
 refine wpAny_Call_Name_kw (fz I hgz hmz (show bootBuiltins "zip" =some (.type "zip")by decide+kernel) ?_ (by decide) (by decide))
 refine PyProof.Rows.callWith_type1 (cv (ha p2 pins s σ H _ I (dR Ev hq)) λus s1 ⟨vs,H1,I1,r1,ts,rs,s',E',q1⟩=> ?_) e2 (eZ hst.2)
 unfold EN at q1
 split at q1
 ·rename_i l m
  by_cases hz:gp l=true/\l.length=m.length/\1<=l.length/\l.length<=1000
  ·rw[if_pos hz]at q1
   obtain⟨v1,vs1,rfl,ra,rb⟩:=Reps.cons_iff.mp rs;obtain⟨v2,rfl,rc⟩:=rb.one;obtain⟨c1,xs,rfl,_,hx,rx⟩:=Rep.lst_iff.mp ra;obtain⟨c2,ys,rfl,_,hy,ry⟩:=Rep.tup_iff.mp rc
   cases r1 with
   | cons w1 w2=>
    obtain⟨u2,rfl,w3⟩:=Vals.one w2;cases w1;obtain rfl:u2=Value.ref c2:=w3;obtain⟨z,its,n,rv,hlen,e⟩:=I1.lstM hx;obtain⟨z2,its2,r2,ob,hob1,hob2,nb,hob3⟩:=(show ObjOk X.prog X.w H1 s1.heap c2 (.tup ys)from I1.hok c2 _ hy)
    refine zc (xs:=its.toArray) (ys:=its2.toArray) ⟨_,e,rfl,n,rfl⟩ ⟨ob,hob1,hob2,nb,hob3⟩ λh' g1 g2 g3 g4 g5=> ?_
    refine Calls.spliced_nil ?_
    have I2:Inv X pins σ H1 { s1 with heap:=h' }:=I1.kept (t':=s1.toks) g5
    obtain⟨ps,k1,k2⟩:=AW hz.1 hz.2.1 rx ry;refine AG (I2.ok.hd hc) hu I2 g1 g2 g3 (λj hj=>I1.fpOk (by omega) (I1.hok.fresh (by omega))) rv r2 (by rw[<-rx.length];exact hz.2.2.1) (by rw[<-rx.length];exact hz.2.2.2) k1 λq s' nw I'=>⟨.ref q,_,I',rfl,q1 _ (aO nw.1 _) _ ?_⟩
    obtain⟨d1,d2⟩:=km (ks:=[]) (ts:=[]) (kvs:=[]) k2 rfl Reps.nil_ List.nodup_nil;exact Rep.dct_iff.mpr ⟨q,_,rfl,E'.fresh nw.1,.inl aA,d1,d2.same (aO nw.1 _)⟩
  ·rw[if_neg hz]at q1;exact q1.elim
 ·exact q1.elim
end
end Tr
namespace Tr
open PySem
def oF (i j:Nat)(src:List (Option Nat))(tgt:T->En->Rs En)(fc:En->Rs Bool)(fe:En->Rs T)(Z:En):Rs Fl:=match Z[i]? with
 | some (.ow (.dct _ _))=>match dP (iD (vr i)) src tgt fc fe (disown i Z)with
  | .ok t=>if t.nk true=true/\j<Z.length then .ok (.nx (Z.set j (.va t)))else .bad
  | _=> .bad
 | _=> .bad
end Tr
namespace PySem
open Sem (wp)
section
variable {prog:Program}{w:World}{A:Around}{E:Value->Shared->Prop}{s:Shared}{d it:Addr}{ob:Obj}{es:Array DictEntry}{ep i:Nat}
theorem Am {Q:Value->Shared->Prop}(k0:(d == sysModules)=false)(k1:s.heap.get? d=some ob)(k2:ob.ExactDict)(k3:ob.data= .dict es ep)
  (q:Q (.ref s.heap.objs.size) { s with heap:=s.heap.push { cls:=.type "dict_keyiterator",data:=.fields #[.ref d,.int 0 0,.int es.size 0,.int ep 0] } }):wpAny (model prog w) A (pyIter (.ref d)) Q E s:=by
 have ty:s.TypeIs (.ref d) "dict":=⟨ob,k1,k2.1⟩;refine wpAny_pyIter_slot ty F.slot_dict_iter (wpAny_call_entry F.slot_dict_iter ty F.entry_dict_iter ?_ (F.args_dict_iter_1 _))
 unfold Builtin.«dict.__iter__» Builtin.Dict.dictSlotNone;refine wpAny_bind (wpAny_bind (wpAny_notOrdered_dict ty ?_))
 show wpAny _ _ (pure (Value.ref d)) _ _ s
 refine wpAny_pure ?_
 show wpAny _ _ (Builtin.Dict.showsAll d >>= _) _ _ s
 unfold Builtin.Dict.showsAll;rw[if_neg (by rw[k0];exact Bool.false_ne_true)]
 refine wpAny_bind (wpAny_pure (wpAny_bind (wpAny_dictEntries k1 k3 (wpAny_bind (wpAny_dictEpoch k1 k3 ?_)))))
 refine wpAny_bind (wpAny_newObj_type (wpAny_pure ⟨_,rfl,"dict_keyiterator",_,⟨_,Heap.get?_push_size _ rfl,rfl⟩,F.slot_dict_keyiterator_next.lookup,?_⟩))
 simpa [rawInt]using q
theorem An {e:DictEntry}{Q:Option Value->Shared->Prop}(ki:s.heap.IsKeyIter it d i es.size ep)(k1:s.heap.get? d=some ob)(k3:ob.data= .dict es ep)(ke:es[i]? =some e)
  (q:∀h',h'.IsKeyIter it d (i+1) es.size ep->Heap.SameBut it s.heap h'->Q (some e.key) { s with heap:=h' }):wpAny (model prog w) A (pyNext (.ref it)) Q E s:=by
 obtain⟨oi,g1,g2,g3⟩:=id ki;unfold pyNext;refine wpAny_bind (wpAny_attempt (wpAny_callSpecial?_slot (name:=Str.ofString "__next__") ki.typeIs F.slot_dict_keyiterator_next (wpAny_call_entry F.slot_dict_keyiterator_next ki.typeIs F.entry_dict_keyiterator_next ?_ (F.args_dict_keyiterator_next_1 _))))
 refine wpAny_bind (wpAny_pure (wpAny_bind (wpAny_bind ?_)))
 first | refine wpAny_bind (wpAny_typeNameOfWhole_keyiter ki.typeIs (wpAny_pure ?_)) | refine wpAny_bind (wpAny_typeNameOf_keyiter ki.typeIs (wpAny_pure ?_))
 refine wpAny_bind (wpAny_fieldsOf g1 g3 ?_)
 have own:Builtin.Dict_items.ownsTuple "dict_keyiterator" =false:=by decide
 simp only[own,Bool.false_eq_true,if_false]
 show wpAny _ _ (if (Value.ref d == Value.none)=true then _ else _) _ _ s
 rw[if_neg (show ¬((Value.ref d == Value.none)=true)from Bool.false_ne_true)]
 refine wpAny_bind (wpAny_pure (wpAny_bind (wpAny_dictEntries k1 k3 ?_)))
 rw[if_neg (by simp)]
 refine wpAny_bind (wpAny_pure (wpAny_bind (wpAny_dictEpoch k1 k3 ?_)))
 rw[if_neg (by simp)]
 refine wpAny_pure ?_
 simp only[show ¬((i:Int)<0)from by omega,if_false,Int.toNat_natCast,ke]
 refine wpAny_bind ?_
 first | refine wpAny_bind (wpAny_typeNameOfWhole_keyiter ki.typeIs (wpAny_pure ?_)) | refine wpAny_bind (wpAny_typeNameOf_keyiter ki.typeIs (wpAny_pure ?_))
 refine wpAny_bind (wpAny_isOneOf_keyiter ki.typeIs ?_)
 show wpAny _ _ (setField (.ref it) 1 (rawInt ((i:Int)+1)) >>= _) _ _ s
 refine wpAny_bind (wpAny_setField g1 g3 (by simp) ?_)
 have ki':(s.heap.update it (Obj.mapFields (·.setIfInBounds 1 (rawInt ((i:Int)+1))))).IsKeyIter it d (i+1) es.size ep:=
  ⟨_,Heap.get?_update_self _ g1 (Obj.isFreed_of_fields (Obj.data_mapFields g3 _)),(Obj.cls_mapFields ..).trans g2,by rw[Obj.data_mapFields g3];simp[rawInt]⟩
 refine wpAny_bind (wpAny_holding (wpAny_bind (wpAny_isOneOf_keyiter (s:={ s with heap:=s.heap.update it (Obj.mapFields (·.setIfInBounds 1 (rawInt ((i:Int)+1)))) }) ki'.typeIs ?_)))
 show wpAny _ _ (pure e.key) _ _ _
 exact wpAny_pure (wpAny_pure ⟨_,rfl,wpAny_pure (q _ ki' (Heap.SameBut.update ..))⟩)
theorem CI {Q:Option Value->Shared->Prop}(hh:A.handled=none)(ki:s.heap.IsKeyIter it d i es.size ep)(k1:s.heap.get? d=some ob)(k3:ob.data= .dict es ep)(ke:es.size<=i)
  (q:∀h',Heap.ExtBut it s.heap h'->Q none { s with heap:=h' }):wpAny (model prog w) A (pyNext (.ref it)) Q E s:=by
 obtain⟨oi,g1,g2,g3⟩:=id ki;unfold pyNext;refine wpAny_bind (wpAny_attempt (wpAny_callSpecial?_slot (name:=Str.ofString "__next__") ki.typeIs F.slot_dict_keyiterator_next (wpAny_call_entry F.slot_dict_keyiterator_next ki.typeIs F.entry_dict_keyiterator_next ?_ (F.args_dict_keyiterator_next_1 _))))
 refine wpAny_bind (wpAny_pure (wpAny_bind (wpAny_bind ?_)))
 first | refine wpAny_bind (wpAny_typeNameOfWhole_keyiter ki.typeIs (wpAny_pure ?_)) | refine wpAny_bind (wpAny_typeNameOf_keyiter ki.typeIs (wpAny_pure ?_))
 refine wpAny_bind (wpAny_fieldsOf g1 g3 ?_)
 have own:Builtin.Dict_items.ownsTuple "dict_keyiterator" =false:=by decide
 simp only[own,Bool.false_eq_true,if_false]
 show wpAny _ _ (if (Value.ref d == Value.none)=true then _ else _) _ _ s
 rw[if_neg (show ¬((Value.ref d == Value.none)=true)from Bool.false_ne_true)]
 refine wpAny_bind (wpAny_pure (wpAny_bind (wpAny_dictEntries k1 k3 ?_)))
 rw[if_neg (by simp)]
 refine wpAny_bind (wpAny_pure (wpAny_bind (wpAny_dictEpoch k1 k3 ?_)))
 rw[if_neg (by simp)]
 refine wpAny_pure ?_
 simp only[show ¬((i:Int)<0)from by omega,if_false,Int.toNat_natCast,Array.getElem?_eq_none ke]
 refine wpAny_bind ?_
 first | refine wpAny_bind (wpAny_typeNameOfWhole_keyiter ki.typeIs (wpAny_pure ?_)) | refine wpAny_bind (wpAny_typeNameOf_keyiter ki.typeIs (wpAny_pure ?_))
 show wpAny _ _ (setField (.ref it) 0 .none >>= _) _ _ s
 refine wpAny_bind (wpAny_setField g1 g3 (by simp) ?_)
 show wpAny _ _ (newExc (.type "StopIteration") [] >>= _) _ _ _
 refine wpAny_bind ?_
 simp only[newExc,newTuple];refine wpAny_bind (wpAny_newObj_type ?_ (by size_fits))
 refine wpAny_bind (m:=firstArgMember _ _) (wpAny_of_eq (a:=Value.none) (by first | rfl | (simp only[firstArgMember];rfl)) (wpAny_newObj_type ?_ (by size_fits)))
 simp only[raiseNew];refine wpAny_bind (wpAny_handled ?_)
 rw[show A.in1.handled=none from hh]
 refine wpAny_bind (wpAny_pure (wpAny_throw ?_))
 refine wpAny_bind (wpAny_isInstance (T:="StopIteration") (b:=true) ⟨_,Heap.get?_push_size _ rfl,rfl⟩ isSubtype_stop ?_)
 exact wpAny_pure (q _ (((Heap.SameBut.update ..).extBut.push _).push _))
end
end PySem
namespace Tr
open PySem PySem.Spec PyProof.Rows L2
section
variable {X:Cx}{pins:List (Addr×Obj)}{σ:L2.St}{H:Hp}{s:Shared}{d:Addr}{ob:Obj}{kvs:List (List Key×V)}{es:Array DictEntry}{ep:Nat}
theorem sK (I:Inv X pins σ H s)(hd:H d=some (.dT kvs))(ho:s.heap.get? d=some ob):Inv X pins σ (upd H d (.frz ob (.dT kvs))) s:=by
 have x:ObjOk X.prog X.w H s.heap d (.dT kvs):=I.hok d _ hd
 have ne:∀b (u:HO),H b=some u->(∀k,u≠ .dT k)->b≠d:=λb u e hu z=>by rw[z,hd]at e;cases e;exact hu _ rfl
 exact jR (h':=s.heap) (t':=s.toks) (ob:=.frz ob (.dT kvs)) I (by rw[hd];exact True.intro) (Heap.SameBut.refl ..) ⟨ob,ho⟩ ⟨ho,x.stay (λb u _ e=>e) (λb e=>by rw[ay (ne b _ e (λ_ z=>nomatch z))];exact e) λb xs e=>by rw[ay (ne b _ e (λ_ z=>nomatch z))];exact e⟩
theorem xW (I:Inv X pins σ H s)(hd:H d=some (.frz ob (.dT kvs)))(h0:∀o u,X.H₀ d≠some (.frz o u)):Inv X pins σ (upd H d (.dT kvs)) s:=by
 have ne:∀b,H b=none->b≠d:=λb e z=>by rw[z,hd]at e;cases e
 have ne2:∀b (u:HO),H b=some u->(∀o k,u≠ .frz o k)->b≠d:=λb u e hu z=>by rw[z,hd]at e;cases e;exact hu _ _ rfl
 have up:∀b (u:HO),H b=some u->b≠d->upd H d (.dT kvs) b=some u:=λb u e z=>by rw[ay z];exact e
 have un:∀b,H b=none->upd H d (.dT kvs) b=none:=λb e=>by rw[ay (ne b e)];exact e
 have x:ObjOk X.prog X.w H s.heap d (.frz ob (.dT kvs)):=I.hok d _ hd
 have ow:∀c b,H b=some (.own c)->upd H d (.dT kvs) b=some (.own c):=λc b e=>up b _ e (ne2 b _ e (λ_ _ z=>nomatch z))
 have tu:∀b xs,H b=some (.tup xs)->upd H d (.dT kvs) b=some (.tup xs):=λb xs e=>up b _ e (ne2 b _ e (λ_ _ z=>nomatch z))
 refine⟨I.ok,I.os,I.bare,⟨I.base.keep,I.base.slot,λb o e n hx=>un b (I.base.free b o e n hx),I.base.there,λb xs e=>tu b xs (I.base.tups b xs e),λb o u e=> ?_,λb ps e=> ?_⟩,I.loc,I.cell,un _ I.free,λy c e=>un _ (I.freeC y c e),λp hp=> ?_,λa u e=> ?_,I.len⟩
 ·exact up b _ (I.base.frzs b o u e) λz=>h0 o u (z▸e)
 ·obtain⟨more,q⟩:=I.base.tbls b ps e
  exact⟨more,up b _ q (ne2 b _ q (λ_ _ z=>nomatch z))⟩
 ·obtain⟨p1,p2,p3⟩:=I.pin p hp
  exact⟨p1,un _ p2,p3⟩
 ·by_cases ha:a=d
  ·subst ha
   rw[aA]at e;cases e;exact x.2.stay (λb u _ e=>e) (ow a) tu
  ·rw[ay ha]at e
   exact(I.hok a u e).stay (λb u _ e=>e) (ow a) tu
def Fo (d:Addr)(ob:Obj)(es:Array DictEntry):It where
 go:=λi H=> ∃kvs,H d=some (.frz ob (.dT kvs))/\i<kvs.length
 yld:=λi H x H'=>H'=H/\∃e b,es[i]? =some e/\e.key= .ref b/\x= .ref b
 stop:=λi H=> ∃kvs,H d=some (.frz ob (.dT kvs))/\kvs.length<=i
theorem pA {P:Program}{w:World}{h:Heap}(x:ObjOk P w H h d (.frz ob (.dT kvs)))(hx:ob.data= .dict es ep):h.get? d=some ob/\ob.ExactDict/\(d == sysModules)=false/\es.size=kvs.length/\∀(i:Nat) p,kvs[i]? =some p->∃e b,es[i]? =some e/\e.key= .ref b/\H b=some (.tup (p.1.map kV)):=by
 obtain⟨e1,z,y,xs,r,o',es',ep',e2,ex,e3,e4,nd⟩:=x;rw[e1]at e2;cases e2;rw[hx]at e3;cases e3
 have hl:es.size=xs.length:=by rw[<-Array.length_toList,e4,List.length_map]
 refine⟨e1,ex,y,by rw[hl,Paired.length r],λi p hp=> ?_⟩
 have key:∀{ks:List (List Key×V)} {xs:List (List Key×Addr×Value)},Paired (λ(p:List Key×V) (q:List Key×Addr×Value)=>p.1=q.1/\H q.2.1=some (.tup (p.1.map kV))/\RelV p.2 q.2.2) ks xs->∀{i:Nat} {p},ks[i]? =some p->∃q,xs[i]? =some q/\H q.2.1=some (.tup (p.1.map kV)):=by
  intro ks xs r
  induction r with
  | nil=>intro i p h;simp at h
  | cons a _ ih=>
   intro i p h
   cases i with
   | zero=>simp only[List.getElem?_cons_zero,Option.some.injEq]at h ⊢;subst h;exact⟨_,rfl,a.2.1⟩
   | succ i=>simp only[List.getElem?_cons_succ]at h ⊢;exact ih h
 obtain⟨q,hq,hb⟩:=key r hp;refine⟨entryOfKey (tupleKind (bY P w)) q,q.2.1,?_,rfl,hb⟩
 rw[<-Array.getElem?_toList,e4,List.getElem?_map,hq]
 rfl
theorem r6 {P:Program}{w:World}{K:PySem.W.Frag}{tg:Expr}{it:Addr}(hx:ob.data= .dict es ep):tf P w K tg (Fo d ob es) [it] it (λi h=>h.IsKeyIter it d i es.size ep) where
 mem:=by simp
 obj:=λi h st b hb=>by
  have e:b=it:=by simpa using hb
  subst e;obtain⟨o,e,c,d⟩:=st;exact⟨o,e,λv z=>by rw[d]at z;cases z⟩
 keep:=λi h h' st k=>st.at λo e=>k it (by simp) o e
 item:=by
  intro X hP hw hK hc i pins s σ H E I hf st hg;subst hP hw hK;obtain⟨kvs,hq,hi⟩:=hg;obtain⟨f0,f1,f2,f3,f4,f5⟩:=hf it (by simp)
  obtain⟨e1,ex,_,sz,at_⟩:=pA (I.hok d _ hq) hx;obtain⟨e,b,ge,ek,_⟩:=at_ i kvs[i] (List.getElem?_eq_getElem hi)
  refine An st e1 hx ge λh' st' sb=> ?_
  have I1:Inv X pins σ H { s with heap:=h' }:=I.turned (t':=s.toks) (λb o hb e=>(sb.2 b hb).trans e) f0 f1 f3 f4 f5
  obtain⟨o,eo,c,dd⟩:=id st';exact⟨e.key,rfl,uo (s:={ s with heap:=h' }) eo c dd (by decide) ⟨.ref b,H,I1,ek,⟨rfl,e,b,ge,ek,rfl⟩,st',λb hb=>(hf b hb).1⟩⟩
 done:=by
  intro X hP hw hK hc i pins s σ H E I hf st hg;subst hP hw hK;obtain⟨kvs,hq,hi⟩:=hg;obtain⟨f0,f1,f2,f3,f4,f5⟩:=hf it (by simp)
  obtain⟨e1,ex,_,sz,_⟩:=pA (I.hok d _ hq) hx;exact CI (I.ok.hd hc) st e1 hx (by omega) λh' eb=>⟨rfl,I.turned (t':=s.toks) (λb o hb e=>eb b o hb e) f0 f1 f3 f4 f5⟩
 self:=λ_ _ _ _ _ st h=>wpAny_pyIter_keyiter st h
def iDF (d:Addr)(ob:Obj)(es:Array DictEntry)(te:TE):TI:=λσ H R=>te σ H λx H1=>x= .ref d/\(∃kvs,H1 d=some (.frz ob (.dT kvs)))/\R (Fo d ob es) H1
theorem wW {tg l:Expr}{te:TE}(hx:ob.data= .dict es ep)(hl:PE X l te):PI X tg l (iDF d ob es te):=by
 intro pins s σ H R I h;refine cv (hl pins s σ H _ I h) λv s1 hh_=> ?_
 obtain⟨x,H1,I1,r1,q1⟩:=hh_;obtain⟨e,⟨kvs,hq⟩,q⟩:=q1;subst e;obtain rfl:v=Value.ref d:=r1;obtain⟨e1,ex,y,sz,_⟩:=pA (I1.hok d _ hq) hx;refine Am y e1 ex hx ⟨s1.heap.objs.size,[s1.heap.objs.size],_,_,H1,rfl,I1.kept (t':=s1.toks) λb o e=>Heap.get?_push_of_some _ e,r6 hx,⟨_,Heap.get?_push_size _ rfl,rfl,rfl⟩,λb hb=> ?_,q⟩
 have e:b=s1.heap.objs.size:=by simpa using hb
 subst e;exact I1.fpOk (Nat.le_refl _) (I1.hok.fresh (Nat.le_refl _))
end
theorem kJ {K:PySem.W.Frag}{O:Ow}{H:Hp}:∀{l:List T} {kk:List Key},jl l=some kk->Reps K O H l (kk.map kV)
 | [],kk,h=>by cases h;exact Reps.nil_
 | t::l,kk,h=>by
  unfold jl at h
  split at h
  ·rename_i k r hk hr
   cases h;refine Reps.cons_ ?_ (kJ hr)
   cases t with
   | int i=>cases hk;exact Rep.int_ i
   | str x=>cases hk;exact Rep.str_ x
   | _=>cases hk
  ·cases h
theorem xI {K:PySem.W.Frag}{O:Ow}{H:Hp}{t:T}{kk:List Key}{b:Addr}(h:aQ t=some kk)(hb:H b=some (.tup (kk.map kV)))(n:¬ O b):Rep K O H t (.ref b):=by
 cases t with
 | tup l=>exact Rep.tup_iff.mpr ⟨b,_,rfl,n,hb,kJ h⟩
 | _=>cases h
section
variable {X:Cx}{d:Addr}{ob:Obj}{kvs:List (List Key×V)}{es:Array DictEntry}{ep:Nat}
theorem xU {K:PySem.W.Frag}{O:Ow}{H:Hp}{ks:List T}(hd:H d=some (.frz ob (.dT kvs)))(hk:ks.map aQ=kvs.map (λp=>some p.1))(nO:¬ O d)(tr:∀a vs,H a=some (.tup vs)->¬ O a)
  (at_:∀(i:Nat) p,kvs[i]? =some p->∃e b,es[i]? =some e/\e.key= .ref b/\H b=some (.tup (p.1.map kV))):EX K O H ks (Fo d ob es):=λP O' hP hO i Hc hs ht=>by
 have hl:ks.length=kvs.length:=by have:=congrArg List.length hk;rwa [List.length_map,List.length_map]at this
 have hnP:¬ P d:=λz=>(hP d z).elim nO λw=>by rw[w.1]at hd;cases hd
 have hd':Hc d=some (.frz ob (.dT kvs)):=hs _ _ hd hnP;refine⟨λhi=>⟨kvs,hd',by omega⟩,λt ht'=> ?_⟩
 have hi:i<kvs.length:=by rw[<-hl];exact(List.getElem?_eq_some_iff.mp ht').1
 refine⟨⟨kvs,hd',hi⟩,λx Hc' y=> ?_⟩
 obtain⟨rfl,e,b,ge,ek,rfl⟩:=y;obtain⟨e2,b2,ge2,ek2,hb⟩:=at_ i kvs[i] (List.getElem?_eq_getElem hi)
 rw[ge]at ge2;cases ge2;rw[ek]at ek2;cases ek2
 have kt:aQ t=some kvs[i].1:=by
  have:=congrArg (λl=>l[i]?) hk
  simp only[List.getElem?_map,ht',List.getElem?_eq_getElem hi,Option.map_some,Option.some.injEq]at this
  exact this
 exact⟨Same.refl _,(xI kt hb (tr b _ hb)).move hP hO hs⟩
def tPIF (X:Cx)(d:Addr)(ob:Obj)(es:Array DictEntry)(i:Nat):TI:=λσ H R=>σ[i]? =some (some (.ref d))/\(∃kvs,H d=some (.frz ob (.dT kvs)))/\R (Fo d ob es) H
theorem BT {elt tg:Expr}{ifs:List Expr}{scope:Scope}{spos py pos pn:Pos}{N':List Str}{src:List (Option Nat)}{tgt:T->En->Rs En}{fc:En->Rs Bool}{fe:En->Rs T}(i j:Nat){y D:Str}
  (hc:X.calm=true) (S:LcScope X scope N' src)
  (block:∀cl C s₀ H₀ fp,yK (bn X scope cl N' C s₀ H₀ fp) tg tgt/\uO (bn X scope cl N' C s₀ H₀ fp) ifs (vV (bn X scope cl N' C s₀ H₀ fp) fc)/\cz (bn X scope cl N' C s₀ H₀ fp) elt fe)
  (hN:X.N.Nodup) (hD:X.N[i]? =some D:=by rfl) (hDv:rV X.env.scope D:=by first | exact Or.inl rfl | exact Or.inr (Or.inl rfl) | exact Or.inr (Or.inr rfl)) (hDd:(D == ("__debug__" : Str))=false:=by decide) (hDc:(D == ("__classdict__" : Str))=false:=by decide)
  (hiy:X.N[j]? =some y:=by rfl) (hy:Loc X.env.scope y:=by first | exact Or.inl rfl | exact Or.inr rfl) (hsw:swapsWith (.ListComp elt [⟨tg,.Name D pn,ifs,0⟩] scope pos) (some (.Name y py)) spos.line X.env=pure true:=by rfl)
  (hf:X.fn y=true\/X.env.scope.names.lookup y=some .local:=by first | exact .inl rfl | exact .inr rfl | assumption) (hs:∀x,foldedSetIterable (.Name D pn) X.env x=pure x:=by intro _;rfl) :
  mL X (.Assign [.Name y py] (.ListComp elt [⟨tg,.Name D pn,ifs,0⟩] scope pos) spos) (oF i j src tgt fc fe):=by
 intro pins s σ H E0 I ⟨Z,B,M,E,h⟩;unfold oF at h
 split at h
 ·rename_i ks ts hi
  obtain⟨v,sv,r⟩:=E.env.own i _ hi;obtain⟨d,kvs,rfl,hM,hd,hk,rt⟩:=r
  cases qt:dP (iD (vr i)) src tgt fc fe (disown i Z)with
  | bad=>rw[qt]at h;exact h.elim
  | err c=>rw[qt]at h;exact h.elim
  | ok t=>
  rw[qt]at h
  dsimp only at h
  by_cases hh:t.nk true=true/\j<Z.length
  ·rw[if_pos hh]at h
   obtain⟨z0,y0,xs0,r0,ob,es,ep,ho,hex,hdat,he,hnd⟩:=(show ObjOk X.prog X.w H s.heap d (.dT kvs)from I.hok d _ hd)
   have h0:∀o u,X.H₀ d≠some (.frz o u):=λo u e=>by
    have:=I.base.frzs d o u e;rw[hd]at this;cases this
   have I1:=sK I hd ho
   have hPG:∀cl C s₀ H₀ fp,PG (bn X scope cl N' C s₀ H₀ fp) tg (uX X tgt):=λcl C s₀ H₀ fp=>(block cl C s₀ H₀ fp).1
   have hPI:∀cl C s₀ H₀ fp,uO (bn X scope cl N' C s₀ H₀ fp) ifs (tPT0 X.K fc):=λcl C s₀ H₀ fp pins s σ H Q I h=>(block cl C s₀ H₀ fp).2.1 pins s σ H Q I (tPT0.up (X:=bn X scope cl N' C s₀ H₀ fp) h)
   have hPE:∀cl C s₀ H₀ fp,PE (bn X scope cl N' C s₀ H₀ fp) elt (tP0 X.K fe):=λcl C s₀ H₀ fp pins s σ H Q I h=>(block cl C s₀ H₀ fp).2.2 pins s σ H Q I (tP0.up (X:=bn X scope cl N' C s₀ H₀ fp) h)
   have hPI2:PI X tg (.Name D pn) (tPIF X d ob es i):=PI.imp (wW (d:=d) (ob:=ob) hdat (jc hD hDv hDd hDc)) λσ H R ⟨a,b,c⟩=>⟨_,a,rfl,b,c⟩
   have rule:=A7 (g:=uX X tgt) (tc:=tPT0 X.K fc) (te:=tP0 X.K fe) (i:=j) (y:=y) (py:=py) (spos:=spos) (pos:=pos) hc S hPI2 (λcl C s₀ H₀ fp=>⟨hPG cl C s₀ H₀ fp,hPI cl C s₀ H₀ fp,hPE cl C s₀ H₀ fp⟩) hN hiy hy hsw hf hs
   have sO:SameO (λa=>a=d) H (upd H d (.frz ob (.dT kvs))):=λb o e nb=>by rw[ay nb];exact e
   have Md:M i d:=(hM d).mpr rfl
   have Od:OO B M d:=.inr ⟨i,Md⟩;refine cv (rule pins s σ (upd H d (.frz ob (.dT kvs))) { nx:=λσ' H'=>H' d=some (.frz ob (.dT kvs))/\E0.nx σ' (upd H' d (.dT kvs)),rt:=λ_ _=>False } I1 ?_) λf s' hf=> ?_
   ·-- the comprehension,with the dict standing still
    have rdE:∀{u:T} {v:V},Rep X.K (OO B M) H u v->Rep X.K (λa=>OO B M a/\¬ M i a) (upd H d (.frz ob (.dT kvs))) u v:=λr=>(Rep.keep sO (λa z=>by rw[z];exact Od) r).less λa z=>z.1
    have E1:EnvM X.K (λa=>OO B M a/\¬ M i a) (M.set i sC) (upd H d (.frz ob (.dT kvs))) (disown i Z) σ:=by
     have ed:disown i Z=Z.set i (.va (.dct ks ts)):=by unfold disown;rw[hi];rfl
     have il:i<Z.length:=(List.getElem?_eq_some_iff.mp hi).1
     rw[ed];refine⟨by rw[List.length_set];exact E.env.len,λk u e=> ?_,λk o e=> ?_,λk a z=> ?_,λk k' a z1 z2=> ?_,λa z=> ?_⟩
     ·by_cases hk':i=k
      ·subst hk'
       rw[List.getElem?_set_self il]at e
       cases e;exact⟨.ref d,sv,Rep.dct_iff.mpr ⟨d,kvs,rfl,λz=>z.2 Md,.inr ⟨ob,aA⟩,hk,(Reps.keep sO (λa z=>by rw[z];exact Od) rt).less λa z=>z.1⟩⟩
      ·rw[List.getElem?_set_ne hk']at e
       obtain⟨v,e1,e2⟩:=E.env.val k u e;exact⟨v,e1,rdE e2⟩
     ·by_cases hk':i=k
      ·subst hk'
       rw[List.getElem?_set_self il]at e
       cases e
      ·rw[List.getElem?_set_ne hk']at e
       obtain⟨v,e1,e2⟩:=E.env.own k o e;refine⟨v,e1,?_⟩
       have em:M.set i sC k=M k:=by unfold Mn.set;rw[if_neg λz=>hk' z.symm]
       rw[em];exact e2.move (P:=λa=>a=d) (λa z=> .inl (by rw[z];exact Od)) (λa z=> .inl z.1) sO λa z w=>hk' (E.env.dis k i a z (by rw[w];exact Md)).symm
     ·unfold Mn.set at z
      split at z
      ·exact z.elim
      ·rename_i hk'
       exact⟨E.env.sub k a z,λw=>hk' (E.env.dis k i a z w)⟩
     ·unfold Mn.set at z1 z2
      split at z1
      ·exact z1.elim
      ·split at z2
       ·exact z2.elim
       ·exact E.env.dis k k' a z1 z2
     ·have ne:a≠d:=λw=>z.2 (by rw[w];exact Md)
      rcases E.env.trk a z.1 with⟨vs,q⟩ | ⟨k',q⟩
      ·exact .inl ⟨vs,by rw[ay ne];exact q⟩
      ·exact .inr ⟨k',by rw[ay ne];exact q⟩
    have fk:iD (vr i) (disown i Z)= .ok ks:=by
     have:vr i (disown i Z)= .ok (.dct ks ts):=by
      unfold vr disown;rw[hi];simp only[List.getElem?_set_self (List.getElem?_eq_some_iff.mp hi).1]
      rfl
     unfold iD;rw[this]
     rfl
    have qt':dP (λ_=> .ok ks) src tgt fc fe (disown i Z)= .ok t:=by
     rw[<-qt];unfold dP;rw[fk]
    have rd:=pq (X:=X) (fi:=λ_=> .ok ks) (src:=src) (tgt:=tgt) (fc:=fc) (fe:=fe) (σ:=σ) (H:=upd H d (.frz ob (.dT kvs))) (Q:=λv H'=>H' d=some (.frz ob (.dT kvs))/\E0.nx (σ.set j (some v)) (upd H' d (.dT kvs))) ⟨disown i Z,_,⟨_,E1⟩,by
     rw[qt'];intro H' sm v rv
     have hd':H' d=some (.frz ob (.dT kvs)):=sm _ _ aA;refine⟨hd',?_⟩
     have sm2:Same H (upd H' d (.dT kvs)):=λb o e=>by
      by_cases hb:b=d
      ·subst hb;rw[aA,<-hd];exact e
      ·rw[ay hb];exact sm b o (by rw[ay hb];exact e)
     have rl:Rep X.K (OO B M) H' t v:=Rep.lend (D:=true) (λa z=>by
      by_cases hm:M i a
      ·refine .inr ?_
       rw[if_pos rfl,(hM a).mp hm];exact⟨kvs,.inr ⟨ob,hd'⟩⟩
      ·exact .inl ⟨z,hm⟩) hh.1 rv
     have r2:Rep X.K (OO B M) (upd H' d (.dT kvs)) t v:=Rep.keep (P:=λa=>a=d) (λb o e nb=>by rw[ay nb];exact e) (λa z=>by rw[z];exact Od) rl
     exact h _ _ M (SameO.of sm2) ⟨(E.env.same sm2).set hh.2 r2,E.mine⟩ λa z=> .inl z⟩
    obtain⟨Z',O',⟨M',E'⟩,P'⟩:=rd;refine⟨sv,⟨kvs,aA⟩,P' _ (Same.refl _) _ (xU aA hk (λz=> ?_) (λa vs q z=> ?_) (pA (I1.hok d _ aA) hdat).2.2.2.2)⟩
    ·rcases E'.trk d z with⟨_,q⟩ | ⟨_,q⟩ <;> rw[aA]at q <;> cases q
    ·rcases E'.trk a z with⟨_,w⟩ | ⟨_,w⟩ <;> rw[q]at w <;> cases w
   ·cases f with
    | next=>
     obtain⟨σ',H',I',e1,e2⟩:=hf
     exact⟨σ',_,xW I' e1 h0,e2⟩
    | brk=>obtain⟨_,_,_,z⟩:=hf;exact z.elim
    | cont=>obtain⟨_,_,_,z⟩:=hf;exact z.elim
    | ret u=>obtain⟨_,_,_,_,_,z⟩:=hf;exact z.elim
  ·rw[if_neg hh]at h;exact h.elim
 ·exact h.elim
end
end Tr
namespace Tr
def vk:List T->Rs T
 | [.tup l] =>m5 [.lst l]
 | ts=>m5 ts
end Tr
namespace PySem
section
variable {prog:Program}{w:World}{A:Around}{E:Value->Shared->Prop}{s:Shared}{l:Addr}{xs:Array (Int×Tok)}
theorem wo {Q:Value->Shared->Prop}(hl:s.heap.IsTuple l (intItems xs))
  (h:∀s₂:Shared,s₂= { s with heap:=s.heap.push { cls:=.type "tuple_iterator",data:=.fields #[.ref l,.int 0 0] } }->(s₂.heap.IsTupleIter s.heap.objs.size l 0/\s₂.heap.IsTuple l (intItems xs))->(∀b∈ [s.heap.objs.size,l],b<s₂.heap.objs.size)->l≠s.heap.objs.size->Q (.ref s.heap.objs.size) s₂) :
  wpAny (model prog w) A (pyIter (.ref l)) Q E s:=by
 have hlt:l<s.heap.objs.size:=by obtain⟨_,e,_⟩:=hl;exact Heap.lt_size e
 refine wpAny_pyIter_tuple hl (h _ rfl ⟨⟨_,Heap.get?_push_size _ rfl,rfl,rfl⟩,fO hl λo e=>Heap.get?_push_of_some _ e⟩ (λb hb=> ?_) (Nat.ne_of_lt hlt))
 show b<(s.heap.push _).objs.size
 rw[Heap.size_push];simp only[List.mem_cons,List.not_mem_nil,or_false]at hb;rcases hb with rfl | rfl
 ·exact Nat.lt_succ_self _
 ·exact Nat.lt_succ_of_lt hlt
theorem wq {h':Heap}{o0:Obj}(hk:∀b o,b∉ [s.heap.objs.size]->(s.heap.push o0).get? b=some o->h'.get? b=some o):∀b o,s.heap.get? b=some o->h'.get? b=some o:=λb o e=>
 hk b o (λhm=>absurd (List.mem_singleton.mp hm▸Heap.lt_size e) (Nat.lt_irrefl _)) (Heap.get?_push_of_some _ e)
theorem Aj {Q:Value->Shared->Prop}(hh:A.handled=none)(hl:s.heap.IsTuple l (intItems xs))(hne:0<xs.size)
  (h:∀v h' tk,(intItems xs)[argBest (λi j=>decide (numAt xs i > numAt xs j)) (xs.size - 1)]? =some v->(∀b o,s.heap.get? b=some o->h'.get? b=some o)->Q v { s with heap:=h',toks:=tk }) :
  wpAny (model prog w) A (call (.builtin "max") [.ref l]) Q E s:=by
 refine call_max_walk (wo hl λs₂ e st hfp hlI=> ?_)
 subst e;refine⟨_,_,_,_,_,_,_,rfl,Walks.tuple (A:=A.in1) hh _ l hlI (intItems xs),st,hfp,by simpa [intItems]using hne,CmpOf.ints_gt (numAt xs) (λ_ _=>intItems_at),λv h' tk hP hk=> ?_⟩
 exact h v h' tk (by simpa [intItems]using hP) (wq hk)
end
end PySem
namespace PySem
open Sem (wp)
open L2 (itAt)
def sqAt (tt:Bool)(h:Heap)(a:Addr)(xs:Array Value):Prop:=if tt then h.IsTuple a xs else h.IsList a xs
theorem sqAt.keep {tt:Bool}{h h':Heap}{a:Addr}{xs:Array Value}(q:sqAt tt h a xs)(k:∀o,h.get? a=some o->h'.get? a=some o):sqAt tt h' a xs:=by
 cases tt with
 | true=>exact fO (show h.IsTuple a xs from q) k
 | false=>exact Heap.IsList.at (show h.IsList a xs from q) k
section
variable {prog:Program}{w:World}{A:Around}{E:Value->Shared->Prop}{s:Shared}
theorem o5 {tt:Bool}{it a:Addr}{k:Nat}{xs:Array Value}{x:Value}{Q:Value->Shared->Prop}(hi:itAt tt s.heap it a k)(hs:sqAt tt s.heap a xs)(hx:xs[k]? =some x)
  (hQ:∀h',itAt tt h' it a (k+1)->Heap.SameBut it s.heap h'->Q x { s with heap:=h' }):wpAny (model prog w) A (Builtin.SmallTypes.nextOf (.ref it)) Q E s:=by
 cases tt with
 | true=>exact Enu.tupNext hi hs hx hQ
 | false=>exact wpAny_nextOf_list_item hi hs hx hQ
theorem xm {tt:Bool}{it a:Addr}{k:Nat}{xs:Array Value}{Q:Value->Shared->Prop}(hh:A.handled=none)(hi:itAt tt s.heap it a k)(hs:sqAt tt s.heap a xs)(hx:xs[k]? =none)
  (hE:∀h' e,Heap.ExtBut it s.heap h'->(∃o,h'.get? e=some o/\o.cls= .type "StopIteration")->E (.ref e) { s with heap:=h' }):wpAny (model prog w) A (Builtin.SmallTypes.nextOf (.ref it)) Q E s:=by
 cases tt with
 | true=>exact Enu.tupStop hh hi hs hx hE
 | false=>exact wpAny_nextOf_list_end hh hi hs hx hE
structure Zw (h:Heap)(n a1 a2:Nat)(t1 t2:Bool)(k:Nat):Prop where
 pr:IsPair h (n+2) (.ref n) (.ref (n+1))
 ow:∃a b,IsPair h (n+3) a b
 i1:itAt t1 h n a1 k
 i2:itAt t2 h (n+1) a2 k
variable {n a1 a2 k:Nat}{t1 t2:Bool}{xs ys:Array Value}{x y:Value}
theorem Zw.keep {h h':Heap}(q:Zw h n a1 a2 t1 t2 k)(e:∀c o,n<=c->c<n+4->h.get? c=some o->h'.get? c=some o):Zw h' n a1 a2 t1 t2 k where
 pr:=e _ _ (by omega) (by omega) q.pr
 ow:=let ⟨a,b,z⟩:=q.ow;⟨a,b,e _ _ (by omega) (by omega) z⟩
 i1:=q.i1.keep λo=>e _ o (by omega) (by omega)
 i2:=q.i2.keep λo=>e _ o (by omega) (by omega)
theorem yU {Q:Value->Shared->Prop}(q:Zw s.heap n a1 a2 t1 t2 k)(kz:zO s.heap (n+4) (n+2) (n+3) .none (.bool false))(s1:sqAt t1 s.heap a1 xs)(s2:sqAt t2 s.heap a2 ys)(b1:a1<n\/n+4<a1)(b2:a2<n\/n+4<a2)(hx:xs[k]? =some x)(hy:ys[k]? =some y)
  (kq:∀h' p,s.heap.objs.size<=p->IsPair h' p x y->zO h' (n+4) (n+2) (n+3) (rawInt p) (.bool false)->Zw h' n a1 a2 t1 t2 (k+1)->(∀c o,c≠n->c≠n+1->c≠n+3->c≠n+4->s.heap.get? c=some o->h'.get? c=some o)->Q (.ref p) { s with heap:=h' }) :
  wpAny (model prog w) A (Builtin.«zip.__next__» ⟨[.ref (n+4)],[]⟩) (λfin s'=> ∃v,fin= .done (.ret v)/\Q v s') E s:=by
 obtain⟨oa,ob,ho⟩:=q.ow
 show wpAny _ _ (field (.ref (n+4)) 2 >>= _) _ _ _
 refine wpAny_bind (wpAny_field kz rfl (x:=.bool false) rfl ?_)
 show wpAny _ _ (field (.ref (n+4)) 3 >>= _) _ _ _
 refine wpAny_bind (wpAny_field kz rfl (x:=.ref (n+2)) rfl ?_)
 refine wpAny_bind (wpAny_seqItems q.pr rfl ?_)
 show wpAny _ _ (Builtin.SmallTypes.ownedTupleIsFree (.ref (n+4)) >>= _) _ _ _
 have fr:wpAny (model prog w) A (Builtin.SmallTypes.ownedTupleIsFree (.ref (n+4))) (λv s'=>v=true/\s'=s) E s:=by
  unfold Builtin.SmallTypes.ownedTupleIsFree;exact wpAny_bind (wpAny_field kz rfl (x:=.none) rfl (wpAny_pure ⟨rfl,rfl⟩))
 refine wpAny_bind (wpAny_mono fr (λv s' hv=> ?_) λ_ _ z=>z)
 obtain⟨rfl,rfl⟩:=hv;simp only[if_true];refine wpAny_bind (wpAny_rule (wpAny_bind (wpAny_field kz rfl (x:=.ref (n+3)) rfl (wpAny_bind (wpAny_setField_rec kz (by simp) λh₁ kz₁ e₁=> ?_)))))
 replace kz₁:zO h₁ (n+4) (n+2) (n+3) .ellipsis (.bool false):=kz₁
 have q₁:Zw h₁ n a1 a2 t1 t2 k:=q.keep λc o _ hc g=>e₁.extBut c o (bw (by omega)) g
 simp only[List.zipIdx_cons,List.zipIdx_nil,List.forIn_cons,List.forIn_nil];refine wpAny_bind (wpAny_bind (wpAny_bind (wpAny_onRaise ?_)))
 show wpAny _ _ (Builtin.SmallTypes.nextOf (.ref n) >>= _) _ _ _
 refine wpAny_bind (o5 q₁.i1 (s1.keep λo g=>e₁.extBut _ _ (bw (by omega)) g) hx λh₂ g₂ e₂=>wpAny_pure ?_)
 have o₂:IsPair h₂ (n+3) oa ob:=e₂.extBut _ _ (bw (by omega)) (e₁.extBut _ _ (bw (by omega)) ho)
 refine wpAny_bind (wpAny_seqItems o₂ rfl (wpAny_bind (wpAny_updateSeq_pair o₂ λh₃ o₃ e₃=>wpAny_bind (wpAny_letGo (wpAny_pure ?_)))))
 replace o₃:IsPair h₃ (n+3) x ob:=o₃
 refine wpAny_bind (wpAny_bind (wpAny_onRaise ?_))
 show wpAny _ _ (Builtin.SmallTypes.nextOf (.ref (n+1)) >>= _) _ _ _
 refine wpAny_bind (o5 (q₁.i2.keep λo g=>e₃.extBut _ _ (bw (by omega)) (e₂.extBut _ _ (bw (by omega)) g)) (s2.keep λo g=>e₃.extBut _ _ (bw (by omega)) (e₂.extBut _ _ (bw (by omega)) (e₁.extBut _ _ (bw (by omega)) g))) hy λh₄ g₄ e₄=>wpAny_pure ?_)
 have o₄:IsPair h₄ (n+3) x ob:=e₄.extBut _ _ (bw (by omega)) o₃
 refine wpAny_bind (wpAny_seqItems o₄ rfl (wpAny_bind (wpAny_updateSeq_pair o₄ λh₅ o₅ e₅=>wpAny_bind (wpAny_letGo (wpAny_pure (wpAny_pure ?_))))))
 replace o₅:IsPair h₅ (n+3) x y:=o₅
 refine wpAny_bind (wpAny_seqItems o₅ rfl (wpAny_bind (wpAny_newTuple ?_)))
 have z₅:h₅.objs.size=s'.heap.objs.size:=by rw[e₅.1,e₄.1,e₃.1,e₂.1,e₁.1]
 have up:∀c o,c≠n->c≠n+1->c≠n+3->h₁.get? c=some o->h₅.get? c=some o:=λc o c1 c2 c3 g=>e₅.extBut _ _ c3 (e₄.extBut _ _ c2 (e₃.extBut _ _ c3 (e₂.extBut _ _ c1 g)))
 show wpAny _ _ (Builtin.SmallTypes.ownedTupleHandOut (.ref (n+4)) (.ref h₅.objs.size) >>= _) _ _ _
 have z5:zO (h₅.push { cls:=.type "tuple",data:=.seq #[x,y] }) (n+4) (n+2) (n+3) .ellipsis (.bool false):=Heap.get?_push_of_some _ (up _ _ (bw (by omega)) (bw (by omega)) (bw (by omega)) kz₁)
 have hn:n+4<h₅.objs.size:=Heap.lt_size (up _ _ (bw (by omega)) (bw (by omega)) (bw (by omega)) kz₁)
 refine wpAny_bind ?_
 unfold Builtin.SmallTypes.ownedTupleHandOut;refine wpAny_bind (wpAny_setField_rec z5 (by simp) λh₇ z₇ e₇=> ?_)
 replace z₇:zO h₇ (n+4) (n+2) (n+3) (rawInt h₅.objs.size) (.bool false):=z₇
 refine wpAny_setField_rec z₇ (by simp) λh₈ z₈ e₈=>wpAny_pure ⟨_,rfl,?_⟩
 replace z₈:zO h₈ (n+4) (n+2) (n+3) (rawInt h₅.objs.size) (.bool false):=z₈
 have up8:∀c o,c≠n+4->h₅.get? c=some o->h₈.get? c=some o:=λc o c1 g=>e₈.extBut _ _ c1 (e₇.extBut _ _ c1 (Heap.get?_push_of_some _ g))
 refine kq h₈ h₅.objs.size (Nat.le_of_eq z₅.symm) (e₈.extBut _ _ (bw (by omega)) (e₇.extBut _ _ (bw (by omega)) (Heap.get?_push_size _ rfl))) z₈ ⟨up8 _ _ (bw (by omega)) (up _ _ (bw (by omega)) (bw (by omega)) (bw (by omega)) q₁.pr),⟨x,y,up8 _ _ (bw (by omega)) o₅⟩,?_,?_⟩ λc o c1 c2 c3 c4 g=>up8 c o c4 (up c o c1 c2 c3 (e₁.extBut _ _ c4 g))
 ·exact g₂.keep λo g=>up8 _ _ (bw (by omega)) (e₅.extBut _ _ (bw (by omega)) (e₄.extBut _ _ (bw (by omega)) (e₃.extBut _ _ (bw (by omega)) g)))
 ·exact g₄.keep λo g=>up8 _ _ (bw (by omega)) (e₅.extBut _ _ (bw (by omega)) g)
theorem Bk {Q:Fin->Shared->Prop}(hh:A.handled=none)(q:Zw s.heap n a1 a2 t1 t2 k)(kz:zO s.heap (n+4) (n+2) (n+3) .none (.bool false))(s1:sqAt t1 s.heap a1 xs)(s2:sqAt t2 s.heap a2 ys)(b1:a1<n\/n+4<a1)(b2:a2<n\/n+4<a2)(hend:xs[k]? =none\/ys[k]? =none)
  (ke:∀h' e,(∀c o,c≠n->c≠n+1->c≠n+3->c≠n+4->s.heap.get? c=some o->h'.get? c=some o)->(∃o,h'.get? e=some o/\o.cls= .type "StopIteration")->E (.ref e) { s with heap:=h' }) :
  wpAny (model prog w) A (Builtin.«zip.__next__» ⟨[.ref (n+4)],[]⟩) Q E s:=by
 show wpAny _ _ (field (.ref (n+4)) 2 >>= _) _ _ _
 refine wpAny_bind (wpAny_field kz rfl (x:=.bool false) rfl ?_)
 show wpAny _ _ (field (.ref (n+4)) 3 >>= _) _ _ _
 refine wpAny_bind (wpAny_field kz rfl (x:=.ref (n+2)) rfl ?_)
 refine wpAny_bind (wpAny_seqItems q.pr rfl ?_)
 show wpAny _ _ (Builtin.SmallTypes.ownedTupleIsFree (.ref (n+4)) >>= _) _ _ _
 have fr:wpAny (model prog w) A (Builtin.SmallTypes.ownedTupleIsFree (.ref (n+4))) (λv s'=>v=true/\s'=s) E s:=by
  unfold Builtin.SmallTypes.ownedTupleIsFree;exact wpAny_bind (wpAny_field kz rfl (x:=.none) rfl (wpAny_pure ⟨rfl,rfl⟩))
 refine wpAny_bind (wpAny_mono fr (λv s' hv=> ?_) λ_ _ z=>z)
 obtain⟨rfl,rfl⟩:=hv;simp only[if_true];refine wpAny_bind (wpAny_rule (wpAny_bind (wpAny_field kz rfl (x:=.ref (n+3)) rfl (wpAny_bind (wpAny_setField_rec kz (by simp) λh₁ kz₁ e₁=> ?_)))))
 replace kz₁:zO h₁ (n+4) (n+2) (n+3) .ellipsis (.bool false):=kz₁
 have q₁:Zw h₁ n a1 a2 t1 t2 k:=q.keep λc o _ hc g=>e₁.extBut c o (bw (by omega)) g
 simp only[List.zipIdx_cons,List.zipIdx_nil,List.forIn_cons,List.forIn_nil];refine wpAny_bind (wpAny_bind (wpAny_bind (wpAny_onRaise ?_)))
 show wpAny _ _ (Builtin.SmallTypes.nextOf (.ref n) >>= _) _ _ _
 cases hx:xs[k]? with
 | none=>
  refine wpAny_bind (xm hh q₁.i1 (s1.keep λo g=>e₁.extBut _ _ (bw (by omega)) g) hx λh₂ e e₂ he=> ?_)
  obtain⟨oe,hoe,hce⟩:=he
  have hz₂:zO h₂ (n+4) (n+2) (n+3) .ellipsis (.bool false):=e₂ _ _ (bw (by omega)) kz₁
  have hez:e≠n+4:=λx=>by subst x;rw[hz₂]at hoe;cases hoe;simp at hce
  exact wpAny_setField_rec hz₂ (by simp) λh₃ _ hs₃=>ke h₃ e (λc o c1 c2 c3 c4 g=>hs₃.extBut _ _ c4 (e₂ _ _ c1 (e₁.extBut _ _ c4 g))) ⟨oe,hs₃.extBut _ _ hez hoe,hce⟩
 | some x=>
  have hy:ys[k]? =none:=by
   rcases hend with h | h
   ·rw[hx]at h;cases h
   ·exact h
  obtain⟨oa,ob,ho⟩:=q.ow;refine wpAny_bind (o5 q₁.i1 (s1.keep λo g=>e₁.extBut _ _ (bw (by omega)) g) hx λh₂ g₂ e₂=>wpAny_pure ?_)
  have o₂:IsPair h₂ (n+3) oa ob:=e₂.extBut _ _ (bw (by omega)) (e₁.extBut _ _ (bw (by omega)) ho)
  refine wpAny_bind (wpAny_seqItems o₂ rfl (wpAny_bind (wpAny_updateSeq_pair o₂ λh₃ o₃ e₃=>wpAny_bind (wpAny_letGo (wpAny_pure ?_)))))
  refine wpAny_bind (wpAny_bind (wpAny_onRaise ?_))
  show wpAny _ _ (Builtin.SmallTypes.nextOf (.ref (n+1)) >>= _) _ _ _
  refine wpAny_bind (xm hh (q₁.i2.keep λo g=>e₃.extBut _ _ (bw (by omega)) (e₂.extBut _ _ (bw (by omega)) g)) (s2.keep λo g=>e₃.extBut _ _ (bw (by omega)) (e₂.extBut _ _ (bw (by omega)) (e₁.extBut _ _ (bw (by omega)) g))) hy λh₄ e e₄ he=> ?_)
  obtain⟨oe,hoe,hce⟩:=he
  have hz₄:zO h₄ (n+4) (n+2) (n+3) .ellipsis (.bool false):=e₄ _ _ (bw (by omega)) (e₃.extBut _ _ (bw (by omega)) (e₂.extBut _ _ (bw (by omega)) kz₁))
  have hez:e≠n+4:=λx=>by subst x;rw[hz₄]at hoe;cases hoe;simp at hce
  exact wpAny_setField_rec hz₄ (by simp) λh₅ _ hs₅=>ke h₅ e (λc o c1 c2 c3 c4 g=>hs₅.extBut _ _ c4 (e₄ _ _ c2 (e₃.extBut _ _ c3 (e₂.extBut _ _ c1 (e₁.extBut _ _ c4 g))))) ⟨oe,hs₅.extBut _ _ hez hoe,hce⟩
abbrev Bm (h:Heap)(t1:Bool)(a1:Addr):Heap:=h.push { cls:=.type (if t1 then "tuple_iterator" else "list_iterator"),data:=.fields #[.ref a1,.int 0 0] }
end
section
variable {prog:Program}{w:World}{A:Around}{E:Value->Shared->Prop}{s:Shared}
theorem xV {tt:Bool}{a:Addr}{xs:Array Value}{Q:Value->Shared->Prop}(q:sqAt tt s.heap a xs)(h:Q (.ref s.heap.objs.size) { s with heap:=Bm s.heap tt a }):wpAny (model prog w) A (pyIter (.ref a)) Q E s:=by
 cases tt with
 | true=>exact wpAny_pyIter_tuple (show s.heap.IsTuple a xs from q) h
 | false=>exact wpAny_pyIter_list (show s.heap.IsList a xs from q) h
end
abbrev E6 (h:Heap)(t1 t2:Bool)(l t:Addr):Heap:=Bm (Bm h t1 l) t2 t
abbrev E5 (h:Heap)(t1 t2:Bool)(l t:Addr):Heap:=(E6 h t1 t2 l t).push { cls:=.type "tuple",data:=.seq #[.ref h.objs.size,.ref (Bm h t1 l).objs.size] }
abbrev EZ (h:Heap)(t1 t2:Bool)(l t:Addr):Heap:=(E5 h t1 t2 l t).push { cls:=.type "tuple",data:=.seq #[.none,.none] }
abbrev AT (h:Heap)(t1 t2:Bool)(l t:Addr):Heap:=(EZ h t1 t2 l t).push { cls:=.type "zip",data:=.fields #[.none,.bool false,.bool false,.ref (E6 h t1 t2 l t).objs.size,.ref (E5 h t1 t2 l t).objs.size] }
theorem xw (t1 t2:Bool)(l t:Addr)(xs ys:Array Value):Meets (Builtin.«zip.__new__» ⟨[.type "zip",.ref l,.ref t],[]⟩) (λ_ R s=>sqAt t1 s.heap l xs/\sqAt t2 s.heap t ys/\R (.ok (.ret (.ref (EZ s.heap t1 t2 l t).objs.size))) { s with heap:=AT s.heap t1 t2 l t }):=
 .of_wp λprog w A R s q=>by
  obtain⟨hp,g,d,tk,os⟩:=s;obtain⟨a1,a2,q⟩:=q
  have k0:=sub_zip
  have k1:sqAt t1 (Shared.heap ⟨hp,g,d,tk,os⟩) l xs:=a1
  have k2:sqAt t2 (Shared.heap ⟨Bm hp t1 l,g,d,tk,os⟩) t ys:=sqAt.keep a2 λo e=>Heap.get?_push_of_some _ e
  wp_walk using xV k1,xV k2
  exact⟨_,rfl,q⟩
section
variable {prog:Program}{w:World}{A:Around}{E:Value->Shared->Prop}{s:Shared}
theorem yV {t1 t2:Bool}{l t:Addr}{xs ys:Array Value}{Q:Value->Shared->Prop}(a1:sqAt t1 s.heap l xs)(a2:sqAt t2 s.heap t ys)
  (q:∀h',Zw h' s.heap.objs.size l t t1 t2 0->zO h' (s.heap.objs.size+4) (s.heap.objs.size+2) (s.heap.objs.size+3) .none (.bool false)->h'.objs.size=s.heap.objs.size+5 →
   (∀c o,s.heap.get? c=some o->h'.get? c=some o)->Q (.ref (s.heap.objs.size+4)) { s with heap:=h' }) :
  wpAny (model prog w) A (call (.type "zip") [.ref l,.ref t]) Q E s:=by
 refine callType_new F.called_zip (by decide) (F.typeCall_zip_2 _ _) (F.newCall_zip_2 _ _) (λobj=>F.args_object_init_3 obj _ _) F.entry_zip_new (xw t1 t2 l t xs ys) ⟨a1,a2,?_⟩
 have z1:(Bm s.heap t1 l).objs.size=s.heap.objs.size+1:=Heap.size_push ..
 have z2:(E6 s.heap t1 t2 l t).objs.size=s.heap.objs.size+2:=by rw[Heap.size_push,z1]
 have z3:(E5 s.heap t1 t2 l t).objs.size=s.heap.objs.size+3:=by rw[Heap.size_push,z2]
 have z4:(EZ s.heap t1 t2 l t).objs.size=s.heap.objs.size+4:=by rw[Heap.size_push,z3]
 have z5:(AT s.heap t1 t2 l t).objs.size=s.heap.objs.size+5:=by rw[Heap.size_push,z4]
 have g5:(AT s.heap t1 t2 l t).get? (EZ s.heap t1 t2 l t).objs.size=some _:=Heap.get?_push_size _ rfl
 have g4:(AT s.heap t1 t2 l t).get? (E5 s.heap t1 t2 l t).objs.size=some _:=Heap.get?_push_of_some _ (Heap.get?_push_size _ rfl)
 have g3:(AT s.heap t1 t2 l t).get? (E6 s.heap t1 t2 l t).objs.size=some _:=Heap.get?_push_of_some _ (Heap.get?_push_of_some _ (Heap.get?_push_size _ rfl))
 have g2:(AT s.heap t1 t2 l t).get? (Bm s.heap t1 l).objs.size=some _:=Heap.get?_push_of_some _ (Heap.get?_push_of_some _ (Heap.get?_push_of_some _ (Heap.get?_push_size _ rfl)))
 have g1:(AT s.heap t1 t2 l t).get? s.heap.objs.size=some _:=Heap.get?_push_of_some _ (Heap.get?_push_of_some _ (Heap.get?_push_of_some _ (Heap.get?_push_of_some _ (Heap.get?_push_size _ rfl))))
 have up:∀c o,s.heap.get? c=some o->(AT s.heap t1 t2 l t).get? c=some o:=λc o e=>Heap.get?_push_of_some _ (Heap.get?_push_of_some _ (Heap.get?_push_of_some _ (Heap.get?_push_of_some _ (Heap.get?_push_of_some _ e))))
 show _/\_
 rw[z2,z3,z4]at g5;rw[z1,z2]at g3;rw[z3]at g4;rw[z1]at g2;rw[z4];refine⟨⟨_,g5,rfl⟩,q _ ⟨g3,⟨_,_,g4⟩,?_,?_⟩ g5 z5 up⟩
 ·cases t1 with
  | true=>exact⟨_,g1,rfl,rfl⟩
  | false=>exact⟨_,g1,rfl,rfl⟩
 ·cases t2 with
  | true=>exact⟨_,g2,rfl,rfl⟩
  | false=>exact⟨_,g2,rfl,rfl⟩
end
end PySem
namespace L2
open PySem PySem.Spec PyProof.Rows
def Itz (K:PySem.W.Frag)(a1 a2:Addr)(t1 t2:Bool):It:=
 ⟨λi H=> ∃xs x ys y,(mK K H a1 t1 xs/\xs[i]? =some x)/\mK K H a2 t2 ys/\ys[i]? =some y,λi H x H'=> ∃p v u,x= .ref p/\H p=none/\H'=upd H p (.tup [v,u])/\(∀xs,mK K H a1 t1 xs->xs[i]? =some v)/\∀ys,mK K H a2 t2 ys->ys[i]? =some u,
  λi H=> ∃xs ys,mK K H a1 t1 xs/\mK K H a2 t2 ys/\(xs.length<=i\/ys.length<=i)⟩
section
variable {X:Cx}{pins:List (Addr×Obj)}{σ:L2.St}{H:Hp}{s:Shared}
theorem gk {tt:Bool}{a:Addr}{xs:List V}(I:Inv X pins σ H s)(q:mK X.K H a tt xs):∃its:List Value,Vals xs its/\sqAt tt s.heap a its.toArray/\∀ys,mK X.K H a tt ys->ys=xs:=by
 cases tt with
 | true=>
  have q':SqT X.K H a xs:=q;obtain⟨its,rv,p,hz⟩:=I.tuple q'
  exact⟨its,rv,p,λys hy=>I.tuple_inj hy q'⟩
 | false=>
  have q':SqL X.K H a xs:=q;obtain⟨its,rv,p,hz⟩:=I.list q';exact⟨its,rv,p.isList,λys hy=>I.list_inj hy q'⟩
theorem qo {tt:Bool}{a b:Addr}{xs:List V}(I:Inv X pins σ H s)(q:mK X.K H a tt xs)(hb:jp X pins H b):a≠b:=λz=>by
 have hb':=hb.1;rw[<-z]at hb'
 cases tt with
 | true=>
  have hq':SqT X.K H a xs:=q;rcases hq' with(q | ⟨o,q⟩) | ⟨o,its,n,q,_⟩
  ·rw[hb']at q;cases q
  ·rw[hb']at q;cases q
  ·rcases hb.2.2.2.1 with z1 | z1
   ·exact I.ok.noex a o (I.ok.mod.kin a o q) (z▸z1)
   ·exact absurd (Nat.lt_of_lt_of_le (Heap.lt_size (I.ok.bs a o (I.ok.mod.kin a o q)).1) (z▸z1)) (Nat.lt_irrefl _)
 | false=>
  have hq':SqL X.K H a xs:=q;rcases hq' with(q | ⟨o,q⟩) | ⟨o,its,n,q,_⟩
  ·rw[hb']at q;cases q
  ·rw[hb']at q;cases q
  ·rcases hb.2.2.2.1 with z1 | z1
   ·exact I.ok.noex a o (I.ok.mod.kin a o q) (z▸z1)
   ·exact absurd (Nat.lt_of_lt_of_le (Heap.lt_size (I.ok.bs a o (I.ok.mod.kin a o q)).1) (z▸z1)) (Nat.lt_irrefl _)
end
theorem five {n b:Nat}:b∈ [n+4,n,n+1,n+2,n+3] ↔n<=b/\b<n+5:=by
 simp only[List.mem_cons,List.not_mem_nil,or_false];omega
theorem wn {P:Program}{w:World}{K:PySem.W.Frag}{elts:List Expr}{kk:Nat}{pos:Pos}(t1 t2:Bool)(a1 a2 n:Nat) :
  tf P w K (.Tuple elts kk pos) (Itz K a1 a2 t1 t2) [n+4,n,n+1,n+2,n+3] (n+4) (λi h=>zO h (n+4) (n+2) (n+3) .none (.bool false)/\Zw h n a1 a2 t1 t2 i) where
 mem:=by simp
 obj:=λi h st b hb=>by
  obtain⟨kz,q⟩:=st;simp only[List.mem_cons,List.not_mem_nil,or_false]at hb;rcases hb with rfl | rfl | rfl | rfl | rfl
  ·exact⟨_,kz,λv z=>by have z':Data.fields _=Data.cell v:=z;cases z'⟩
  ·exact q.i1.obj
  ·exact q.i2.obj
  ·exact⟨_,q.pr,λv z=>by have z':Data.seq _ _=Data.cell v:=z;cases z'⟩
  ·obtain⟨a,b,e⟩:=q.ow
   exact⟨_,e,λv z=>by have z':Data.seq _ _=Data.cell v:=z;cases z'⟩
 keep:=λi h h' st k=>by
  obtain⟨kz,q⟩:=st;exact⟨k _ (by simp) _ kz,q.keep λc o c1 c2 g=>k c (five.mpr ⟨c1,by omega⟩) o g⟩
 item:=by
  intro X hP hw hK hc i pins s σ H E I hf st hg;subst hP hw hK;obtain⟨xs,x,ys,y,⟨hq1,hx⟩,hq2,hy⟩:=hg;obtain⟨kz,q⟩:=st;obtain⟨its1,r1,p1,u1⟩:=gk I hq1;obtain⟨its2,r2,p2,u2⟩:=gk I hq2;obtain⟨v1,e1,rv1⟩:=r1.get hx;obtain⟨v2,e2,rv2⟩:=r2.get hy
  have ap:∀{tt:Bool} {a:Nat} {zs:List V},mK X.K H a tt zs->a<n\/n+4<a:=λ{tt a zs} hq=>by
   refine Classical.byContradiction λhh=> ?_
   exact qo I hq (hf a (five.mpr ⟨by omega,by omega⟩)) rfl
  have hT:s.TypeIs (.ref (n+4)) "zip":=⟨_,kz,rfl⟩
  have lt:n+4<s.heap.objs.size:=Heap.lt_size kz;unfold pyNext;refine wpAny_bind (wpAny_attempt (wpAny_callSpecial?_slot (name:=Str.ofString "__next__") hT F.slot_zip_next (wpAny_call_entry F.slot_zip_next hT F.entry_zip_next (yU q kz p1 p2 (ap hq1) (ap hq2) (by simpa using e1) (by simpa using e2) λh1 Tp hsz hTp hz1 q1 hk=>wpAny_pure ⟨.ref Tp,rfl,?_⟩) (F.args_zip_next_1 _))))
  refine wpAny_letOwnedTupleGo_zip (s:={ s with heap:=h1 }) hz1 λh2 hz2 hs2=> ?_
  have kAll:∀b o,b∉ [n+4,n,n+1,n+2,n+3]->s.heap.get? b=some o->h2.get? b=some o:=λb o hb g=>by
   have hb':¬ (n<=b/\b<n+5):=λz=>hb (five.mpr z)
   exact hs2.extBut _ _ (bw (by omega)) (hk b o (bw (by omega)) (bw (by omega)) (bw (by omega)) (bw (by omega)) g)
  have q2:Zw h2 n a1 a2 t1 t2 (i+1):=q1.keep λc o c1 c2 g=>hs2.extBut _ _ (bw (by omega)) g
  have hTp2:IsPair h2 Tp v1 v2:=hs2.extBut _ _ (bw (by omega)) hTp
  have there:∀b∈ [n+4,n,n+1,n+2,n+3],∃o,h2.get? b=some o:=λb hb=>by
   simp only[List.mem_cons,List.not_mem_nil,or_false]at hb;rcases hb with rfl | rfl | rfl | rfl | rfl
   ·exact⟨_,hz2⟩
   ·obtain⟨o,e,_⟩:=q2.i1.obj;exact⟨o,e⟩
   ·obtain⟨o,e,_⟩:=q2.i2.obj;exact⟨o,e⟩
   ·exact⟨_,q2.pr⟩
   ·obtain⟨a,b,e⟩:=q2.ow;exact⟨_,e⟩
  have hn:H Tp=none:=I.hok.fresh hsz
  have new:ObjOk X.prog X.w (upd H Tp (.tup [x,y])) h2 Tp (.tup [x,y]):=⟨by show 2<=sizeLine;decide,[v1,v2],.cons rv1 (.cons rv2 .nil),⟨_,hTp2,rfl,_,rfl⟩⟩
  have I2:=I.turnedT (t':=s.toks) hf kAll there hsz new;refine⟨.ref Tp,_,I2,rfl,⟨Tp,x,y,rfl,hn,rfl,λzs hz=>by rw[u1 zs hz];exact hx,λzs hz=>by rw[u2 zs hz];exact hy⟩,⟨hz2,q2⟩,λb hb=> ?_⟩
  have hb':=five.mp hb
  have hbT:b≠Tp:=bw (by omega)
  rw[ay hbT];exact(hf b hb).1
 done:=by
  intro X hP hw hK hc i pins s σ H E I hf st hg;subst hP hw hK;obtain⟨xs,ys,hq1,hq2,hx⟩:=hg;obtain⟨kz,q⟩:=st;obtain⟨its1,r1,p1,u1⟩:=gk I hq1;obtain⟨its2,r2,p2,u2⟩:=gk I hq2
  have l1:=r1.length
  have l2:=r2.length
  have ap:∀{tt:Bool} {a:Nat} {zs:List V},mK X.K H a tt zs->a<n\/n+4<a:=λ{tt a zs} hq=>by
   refine Classical.byContradiction λhh=> ?_
   exact qo I hq (hf a (five.mpr ⟨by omega,by omega⟩)) rfl
  have hT:s.TypeIs (.ref (n+4)) "zip":=⟨_,kz,rfl⟩
  have hend:its1.toArray[i]? =none\/its2.toArray[i]? =none:=by
   rcases hx with h | h
   ·left;simp;omega
   ·right;simp;omega
  unfold pyNext;refine wpAny_bind (wpAny_attempt (wpAny_callSpecial?_slot (name:=Str.ofString "__next__") hT F.slot_zip_next (wpAny_call_entry F.slot_zip_next hT F.entry_zip_next (Bk (I.ok.hd hc) q kz p1 p2 (ap hq1) (ap hq2) hend λh' e kp he=> ?_) (F.args_zip_next_1 _))))
  obtain⟨o,ho,hcl⟩:=he;refine wpAny_bind (wpAny_isInstance (T:="StopIteration") (b:=true) ⟨o,ho,hcl⟩ isSubtype_stop (wpAny_pure ⟨rfl,I.turnedL (t':=s.toks) hf λ(b:Nat) o hb g=> ?_⟩))
  have hb':¬ (n<=b/\b<n+5):=λz=>hb (five.mpr z)
  exact kp b o (bw (by omega)) (bw (by omega)) (bw (by omega)) (bw (by omega)) g
 self:=λ_ _ _ _ _ st h=>wpAny_pyIter_zip st.1 h
end L2
namespace L2
open PySem PySem.Spec PyProof.Rows
open Tr (bf aU eZ)
section
variable {X:Cx}{elts:List Expr}{kk:Nat}{tpos:Pos}
def iZip (K:PySem.W.Frag)(tl:TA):TI:=λσ H R=>tl σ H λvs H1=> ∃a1 a2 t1 t2,vs= [.ref a1,.ref a2]/\(∃xs,mK K H1 a1 t1 xs)/\(∃ys,mK K H1 a2 t2 ys)/\R (Itz K a1 a2 t1 t2) H1
theorem Ce {l m:Expr}{tl:TA}{p pos:Pos}(hg:Gl X "zip")(hm:X.mg "zip" =none)(hl:PA X [l,m] tl)(hst:bf [l,m] =true:=by rfl):PI X (.Tuple elts kk tpos) (.Call (.Name "zip" p) [l,m] [] pos) (iZip X.K tl):=by
 intro pins s σ H R I h;unfold bf at hst;rw[Bool.and_eq_true]at hst;refine Call_ (fz I hg hm (show bootBuiltins "zip" =some (.type "zip")by decide+kernel) (PyProof.Rows.callWith_type1 (cv (hl pos pins s σ H _ I h) λus s1 ⟨vs,H1,I1,r1,q1⟩=> ?_) (aU hst.1) (eZ hst.2)))
 obtain⟨a1,a2,t1,t2,e,⟨xs,hq1⟩,⟨ys,hq2⟩,q⟩:=q1;subst e
 cases r1 with
 | cons w1 w2=>
  obtain⟨u2,rfl,w3⟩:=Vals.one w2;cases w1;obtain rfl:u2=Value.ref a2:=w3;obtain⟨its1,_,p1,_⟩:=gk I1 hq1;obtain⟨its2,_,p2,_⟩:=gk I1 hq2;refine yV p1 p2 λh' g1 g2 g3 g4=> ?_
  refine wpAny_pyIter_zip (s:={ s1 with heap:=h' }) g2 ?_
  have I2:Inv X pins σ H1 { s1 with heap:=h' }:=I1.kept (t':=s1.toks) g4
  refine⟨s1.heap.objs.size+4,[s1.heap.objs.size+4,s1.heap.objs.size,s1.heap.objs.size+1,s1.heap.objs.size+2,s1.heap.objs.size+3],_,_,H1,rfl,I2,wn t1 t2 a1 a2 s1.heap.objs.size,⟨g2,g1⟩,λb hb=> ?_,q⟩
  have hb':=five.mp hb;exact I1.fpOk hb'.1 (I1.hok.fresh hb'.1)
end
end L2
namespace Tr
open PySem PySem.Spec PyProof.Rows L2
theorem zd (l m:List T)(i:Nat):((l.zip m).map λp=>T.tup [p.1,p.2])[i]? =match l[i]?,m[i]? with
  | some a,some b=>some (T.tup [a,b])
  | _,_=>none:=by
 rw[List.getElem?_map]
 unfold List.zip;rw[List.getElem?_zipWith]
 cases l[i]? <;> cases m[i]? <;> rfl
def Wk (K:PySem.W.Frag)(O:Ow)(H1:Hp)(l:List T)(v:V):Prop:=∃(aa:Addr) (tt:Bool) (ws:List V),v= .ref aa/\¬ O aa/\Reps K O H1 l ws/\mK K H1 aa tt ws/\(∀P Hc,SameO P H1 Hc->¬ P aa->mK K Hc aa tt ws)/\¬ Nw K H1 aa
theorem AX {K:PySem.W.Frag}{O:Ow}{H1:Hp}{x:T}{l:List T}{v:V}(hl:x.items=some l)(rv:Rep K O H1 x v):Wk K O H1 l v:=by
 cases x with
 | tup m=>
  cases hl;obtain⟨aa,ws,e,n,qq,z⟩:=Rep.tup_iff.mp rv
  exact⟨aa,true,ws,e,n,z,(show SqT K H1 aa ws from SqT.of qq),(λP Hc hsm hn=>show SqT K Hc aa ws from SqT.of (hsm _ _ qq hn)),λw=>by rw[w.1]at qq;cases qq⟩
 | lst m=>
  cases hl;obtain⟨aa,ws,e,n,qq,z⟩:=Rep.lst_iff.mp rv
  exact⟨aa,false,ws,e,n,z,(show SqL K H1 aa ws from SqL.of qq),(λP Hc hsm hn=>show SqL K Hc aa ws from SqL.of (hsm _ _ qq hn)),λw=>by rw[w.1]at qq;cases qq⟩
 | scr m=>
  cases hl;unfold Rep at rv;obtain⟨aa,e,n,qq⟩:=rv
  exact⟨aa,false,_,e,n,Reps.ints,(show SqL K H1 aa _ from qq),(λP Hc hsm hn=>show SqL K Hc aa _ from Tr.SqL.keep hsm hn qq),(Tr.SqL.nn qq)⟩
 | _=>cases hl
section
variable {X:Cx}{a b:Expr}{fs:En->Rs (List T)}{p pos:Pos}
theorem BZ {elts:List Expr}{kk:Nat}{tpos:Pos}(hm:X.mg "zip" =none)(ha:n9 X [a,b] fs)(hg:Gl X "zip":=by rfl)(hst:bf [a,b] =true:=by rfl) :
  vQ X (.Tuple elts kk tpos) (.Call (.Name "zip" p) [a,b] [] pos) (iZ fs):=PI.imp (Ce hg hm ha hst) λσ H R hh_=>by
 obtain⟨Z,O,E,h⟩:=hh_;obtain⟨Z1,O1,E1,h1⟩:=dR E h;refine⟨Z1,O1,E1,Post.mono h1 λts H1 s1 q vs r=> ?_⟩
 obtain⟨t',r',s',E',q'⟩:=q vs r
 split at q'
 ·rename_i x0 y0
  obtain⟨v,vs1,rfl,rv,rb⟩:=Reps.cons_iff.mp r';obtain⟨v2,rfl,rv2⟩:=rb.one
  split at q'
  ·rename_i l m hl hm
   obtain⟨a1,t1,w1,e1,n1,z1,sq1,mv1,nn1⟩:=AX hl rv;obtain⟨a2,t2,w2,e2,n2,z2,sq2,mv2,nn2⟩:=AX hm rv2;refine⟨a1,a2,t1,t2,by rw[e1,e2],⟨w1,sq1⟩,⟨w2,sq2⟩,q' H1 (Same.refl H1) _ λP O' hP hO i Hc hsm htr=> ?_⟩
   have sc1:=mv1 P Hc hsm λy=>(hP a1 y).elim n1 nn1
   have sc2:=mv2 P Hc hsm λy=>(hP a2 y).elim n2 nn2
   refine⟨λhi=>⟨w1,w2,sc1,sc2,?_⟩,λt ht=> ?_⟩
   ·rw[List.length_map,List.length_zip]at hi
    rw[<-z1.length,<-z2.length];omega
   ·rw[zd]at ht
    split at ht
    ·rename_i t1' t2' f1 f2
     cases ht;obtain⟨v0,g1,g2⟩:=z1.get f1;obtain⟨v3,g3,g4⟩:=z2.get f2;refine⟨⟨w1,v0,w2,v3,⟨sc1,g1⟩,sc2,g3⟩,λx Hc' y=> ?_⟩
     obtain⟨pp,vv,uu,e2,hpn,e3,hy,hy2⟩:=y
     have k1:=hy w1 sc1
     have k2:=hy2 w2 sc2;rw[g1]at k1;cases k1;rw[g3]at k2;cases k2;subst e2 e3;refine⟨aO hpn _,fT hpn (λzz=> ?_) (Reps.cons_ (g2.move hP hO hsm) (Reps.cons_ (g4.move hP hO hsm) Reps.nil_))⟩
     obtain⟨o,w⟩:=htr pp zz;rw[hpn]at w;cases w
    ·cases ht
  ·exact q'.elim
 ·exact q'.elim
theorem uD (hc:X.calm=true):CallT X (.builtin "max") vk:=by
 intro pins s σ H O ts vs us Q I hf rs rv hp;unfold vk at hp
 split at hp
 ·rename_i l
  unfold m5 at hp;obtain⟨v,rfl,r⟩:=rs.one
  dsimp only at hp
  split at hp
  ·rename_i i ns hk
   obtain⟨a,ws,rfl,n,q,z⟩:=Rep.tup_iff.mp r;obtain⟨u,rfl,ru⟩:=iU rv;cases ru;obtain⟨its,r',pl,hz⟩:=I.tuple (SqT.of q)
   have hi:=gC hk z r';obtain⟨xs,e⟩:=hi.allInts.items
   have hns:i::ns=xs.toList.map (·.1):=by rw[<-hi.numsOf,<-nums_intItems,<-e]
   have hl:s.heap.IsTuple a (intItems xs):=by rw[<-e];exact pl
   have hsz:0<xs.size:=by
    have h3:=congrArg List.length hns;rw[List.length_cons,List.length_map]at h3;rw[<-Array.length_toList];omega
   refine Aj (I.ok.hd hc) hl hsz λv h' tk hv hk'=> ?_
   obtain⟨t,rfl⟩:=intItems_at hv;obtain⟨h1,h2⟩:=argBest_gt (numAt xs) (xs.size - 1);refine⟨.int _,H,I.kept (t':=tk) hk',⟨_,rfl⟩,?_⟩
   have eM:numAt xs (argBest (λi j=>decide (numAt xs i > numAt xs j)) (xs.size - 1))=dX i ns:=by
    obtain⟨g1,g2⟩:=kc ns i
    have m1:numAt xs (argBest (λi j=>decide (numAt xs i > numAt xs j)) (xs.size - 1))∈i::ns:=by
     rw[hns,numAt_eq];exact PySem.getD_mem (by rw[List.length_map,Array.length_toList];omega)
    have k1:=g2 _ m1;rw[hns]at g1;obtain⟨j,hj,ej⟩:=mem_getD g1;rw[List.length_map,Array.length_toList]at hj;rw[<-numAt_eq]at ej
    have k2:=h2 j (by omega)
    rw[ej]at k2;exact Int.le_antisymm k1 k2
   rw[eM];exact hp H (Same.refl H) _ (Rep.int_ _)
  ·exact hp.elim
 ·exact sU hc pins s σ H O _ vs us Q I hf rs rv hp
end
structure QE (X:Cx)(e:Expr)(f:En->Rs T):Prop where
 h:cz X e f
structure QA (X:Cx)(e:List Expr)(f:En->Rs (List T)):Prop where
 h:n9 X e f
structure QT (X:Cx)(e:Expr)(f:En->Rs Bool):Prop where
 h:rW X e f
structure QW (X:Cx)(e:Expr)(f:En->Rs Bool):Prop where
 h:Bi X e f
structure QS (X:Cx)(e:Stmt)(f:En->Rs Fl):Prop where
 h:mL X e f
structure yS (X:Cx)(e:List Stmt)(f:En->Rs Fl):Prop where
 h:k6 X e f
structure QG (X:Cx)(e:Expr)(f:T->En->Rs En):Prop where
 h:yK X e f
structure Fk (X:Cx)(e:List Expr)(f:List T->En->Rs En):Prop where
 h:yL X e f
structure QI (X:Cx)(t e:Expr)(f:En->Rs (List T)):Prop where
 h:vQ X t e f
structure QO (X:Cx)(e:Option Expr)(f:En->Rs (Option Int)):Prop where
 h:EV X e f
structure ET (X:Cx)(e:List Expr)(f:En->Rs Bool):Prop where
 h:uO X e (vV X f)
theorem ac {X:Cx}(i:Nat){x:Str}{pos:Pos}(hN:(Cx.N X)[i]? =some x:=by rfl)(hv:rV (Env.scope (Cx.env X)) x:=by first | exact Or.inl rfl | exact Or.inr (Or.inl rfl) | exact Or.inr (Or.inr rfl))(hd:(x == Str.ofString "__debug__")=false:=by decide)(hcd:(x == Str.ofString "__classdict__")=false:=by decide):QE X (Expr.Name x pos) (vr i):=
 ⟨DT (i:=i) (hN:=hN) (hv:=hv) (hd:=hd) (hcd:=hcd)⟩
theorem ai {X:Cx}{i:Int}{j:Nat}{pos:Pos}:QE X (Expr.Constant (Const.int i) j pos) (cn (T.int i)):=
 ⟨D5 ⟩
theorem iQ {X:Cx}{i:Bool}{j:Nat}{pos:Pos}:QE X (Expr.Constant (Const.bool i) j pos) (cn (T.bl i)):=
 ⟨q_bl ⟩
theorem cb {X:Cx}{j:Nat}{pos:Pos}:QE X (Expr.Constant Const.none j pos) (cn T.non):=
 ⟨DY ⟩
theorem yW {X:Cx}{x:Str}{i:Int}{u:Value}{pos:Pos}(hm:Cx.mg X x=some u)(r:L2.RelV (V.int i) u)(hg:Gl X x:=by rfl)(hd:(x == Str.ofString "__debug__")=false:=by decide):QE X (Expr.Name x pos) (cn (T.int i)):=
 ⟨B4 (hm:=hm) (r:=r) (hg:=hg) (hd:=hd)⟩
theorem af {X:Cx}:QA X [] ag:=
 ⟨B3 ⟩
theorem ae {X:Cx}{e:Expr}{es:List Expr}{f:En->Rs T}{g:En->Rs (List T)}(he:QE X e f)(hr:QA X es g)(hn:bo e=true:=by rfl):QA X (e::es) (ad f g):=
 ⟨qa_c (he:=he.h) (hr:=hr.h) (hn:=hn)⟩
theorem bq {X:Cx}{es:List Expr}{x1:Nat}{pos:Pos}{f:En->Rs (List T)}(h:QA X es f):QE X (Expr.Tuple es x1 pos) (ba f):=
 ⟨DU (h:=h.h)⟩
theorem ez {X:Cx}{es:List Expr}{pos:Pos}{f:En->Rs (List T)}(h:QA X es f):QE X (Expr.List es pos) (cV f):=
 ⟨D1 (h:=h.h)⟩
theorem ao {X:Cx}{a b:Expr}{fa fb:En->Rs T}{pos:Pos}{op:Operator}{g:T->T->Rs T}(ho:OpT X (binaryOp op) g)(ha:QE X a fa)(hb:QE X b fb):QE X (Expr.BinOp a op b pos) (o2 g fa fb):=
 ⟨D8 (ho:=ho) (ha:=ha.h) (hb:=hb.h)⟩
theorem fx {X:Cx}{a b:Expr}{fa fb:En->Rs T}{pos:Pos}{op:CmpOp}{g:T->T->Rs T}(ho:OpT X (compareOp op) g)(ha:QE X a fa)(hb:QE X b fb)(hm:behindInMarks op b=false:=by rfl):QE X (Expr.Compare a [op] [b] pos) (o2 g fa fb):=
 ⟨D7 (ho:=ho) (ha:=ha.h) (hb:=hb.h) (hm:=hm)⟩
theorem ol {X:Cx}{a:Expr}{fa:En->Rs T}{pos:Pos}(ha:QE X a fa):QE X (Expr.UnaryOp UnaryOp.USub a pos) (o1 pd fa):=
 ⟨DZ (ha:=ha.h)⟩
theorem pZ {X:Cx}{a b c:Expr}{fa fb fc:En->Rs T}{pos:Pos}{op op':CmpOp}{g g':T->T->Rs T}(ho:OpT X (compareOp op) g)(ho':OpT X (compareOp op') g')(ha:QE X a fa)(hb:QE X b fb)(hc:QE X c fc)(hm:lastMarks [op,op'] [b,c] =false:=by with_unfolding_all rfl):QE X (Expr.Compare a [op,op'] [b,c] pos) (ch g g' fa fb fc):=
 ⟨zM (ho:=ho) (ho':=ho') (ha:=ha.h) (hb:=hb.h) (hc:=hc.h) (hm:=hm)⟩
theorem dE {X:Cx}{e:Expr}{f:En->Rs T}(h:QE X e f)(he:∀(whole:Sem Value),PySem.isTrue e (Cx.env X) whole=(do let v <-whole;standAt (Expr.pos e);holding [v] (truthy v)):=by intro _;rfl):QT X e (tb f):=
 ⟨BM (h:=h.h) (he:=he)⟩
theorem aX {X:Cx}{a b:Expr}{fa fb:En->Rs T}{pos:Pos}{op:CmpOp}{g:T->T->Rs T}(ho:OpT X (compareOp op) g)(ha:QE X a fa)(hb:QE X b fb)(hm:behindInMarks op b=false:=by rfl):QT X (Expr.Compare a [op] [b] pos) (tb (o2 g fa fb)):=
 ⟨BO (ho:=ho) (ha:=ha.h) (hb:=hb.h) (hm:=hm)⟩
theorem pV {X:Cx}{a:Expr}{pos:Pos}{f:En->Rs Bool}(ha:QT X a f):QW X (Expr.BoolOp BoolOp.And [a] pos) f:=
 ⟨zw (ha:=ha.h)⟩
theorem gu {X:Cx}{a:Expr}{pos:Pos}{f:En->Rs Bool}(ha:QT X a f):QW X (Expr.BoolOp BoolOp.Or [a] pos) f:=
 ⟨BK (ha:=ha.h)⟩
theorem tp {X:Cx}{a b:Expr}{pos:Pos}{f g:En->Rs Bool}{rest:List Expr}(ha:QT X a f)(hb:QW X (Expr.BoolOp BoolOp.And (b::rest) pos) g):QW X (Expr.BoolOp BoolOp.And (a::b::rest) pos) (k4 f g):=
 ⟨BL (ha:=ha.h) (hb:=hb.h)⟩
theorem ja {X:Cx}{a b:Expr}{pos:Pos}{f g:En->Rs Bool}{rest:List Expr}(ha:QT X a f)(hb:QW X (Expr.BoolOp BoolOp.Or (b::rest) pos) g):QW X (Expr.BoolOp BoolOp.Or (a::b::rest) pos) (jU f g):=
 ⟨DN (ha:=ha.h) (hb:=hb.h)⟩
theorem jt {X:Cx}{f:En->Rs Bool}{e:Expr}(h:QW X e f):QT X e f:=
 ⟨qt_w (h:=h.h)⟩
theorem dQ {X:Cx}{a:Expr}{pos:Pos}{f:En->Rs Bool}(ha:QT X a f):QT X (Expr.UnaryOp UnaryOp.Not a pos) (dk f):=
 ⟨BN (ha:=ha.h)⟩
theorem cX {X:Cx}{a:Expr}{fa:En->Rs T}{pos:Pos}{op:BoolOp}(h:QE X a fa):QE X (Expr.BoolOp op [a] pos) fa:=
 ⟨DV (h:=h.h)⟩
theorem cP {X:Cx}{a b:Expr}{fa fb:En->Rs T}{pos:Pos}{rest:List Expr}(ha:QE X a fa)(hb:QE X (Expr.BoolOp BoolOp.And (b::rest) pos) fb):QE X (Expr.BoolOp BoolOp.And (a::b::rest) pos) (bM fa fb):=
 ⟨D9 (ha:=ha.h) (hb:=hb.h)⟩
theorem AU {X:Cx}{a b:Expr}{fa fb:En->Rs T}{pos:Pos}{rest:List Expr}(ha:QE X a fa)(hb:QE X (Expr.BoolOp BoolOp.Or (b::rest) pos) fb):QE X (Expr.BoolOp BoolOp.Or (a::b::rest) pos) (yQ fa fb):=
 ⟨q_or (ha:=ha.h) (hb:=hb.h)⟩
theorem v6 {X:Cx}{a:Expr}{fa:En->Rs T}{pos:Pos}(ha:QE X a fa):QE X (Expr.UnaryOp UnaryOp.Not a pos) (o1 vg fa):=
 ⟨DX (ha:=ha.h)⟩
theorem pY {X:Cx}{a b c:Expr}{fa fb:En->Rs T}{pos:Pos}{f:En->Rs Bool}(hc:QT X c f)(ha:QE X a fa)(hb:QE X b fb):QE X (Expr.IfExp c a b pos) (pU f fa fb):=
 ⟨q_if (hc:=hc.h) (ha:=ha.h) (hb:=hb.h)⟩
theorem aI {X:Cx}{a b:Expr}{fa fb:En->Rs T}{pos:Pos}(ha:QE X a fa)(hb:QE X b fb)(hs:uN b:=by intro _ _;rfl):QE X (Expr.Subscript a b pos) (o2 aP fa fb):=
 ⟨q_ix (ha:=ha.h) (hb:=hb.h) (hs:=hs)⟩
theorem lx {X:Cx}:QO X none pN:=
 ⟨zE ⟩
theorem lw {X:Cx}{a:Expr}{fa:En->Rs T}(ha:QE X a fa):QO X (some a) (pS fa):=
 ⟨zD (ha:=ha.h)⟩
theorem lz {X:Cx}{a:Expr}{fa:En->Rs T}{pos:Pos}{lo hi:Option Expr}{p2:Pos}{fl fu:En->Rs (Option Int)}(ha:QE X a fa)(hl:QO X lo fl)(hu:QO X hi fu):QE X (Expr.Subscript a (Expr.Slice lo hi none p2) pos) (sl fa fl fu):=
 ⟨zL (ha:=ha.h) (hl:=hl.h) (hu:=hu.h)⟩
theorem cg {X:Cx}{e:Expr}{es:List Expr}{fs:En->Rs (List T)}{pos p:Pos}{x:Str}{id:String}{g:List T->Rs T}(hc:CallT X (Value.builtin id) g)(hm:Cx.mg X x=none)(hv:bootBuiltins x=some (Value.builtin id))(ha:QA X (e::es) fs)(hn:bf (e::es)=true:=by rfl)(hg:Gl X x:=by rfl)(h1:x≠Str.ofString "__name__":=by decide)(h2:(x == Str.ofString "__debug__")=false:=by decide):QE X (Expr.Call (Expr.Name x p) (e::es) [] pos) (cl g fs):=
 ⟨q_cB (hc:=hc) (hm:=hm) (hv:=hv) (ha:=ha.h) (hn:=hn) (hg:=hg) (h1:=h1) (h2:=h2)⟩
theorem kA {X:Cx}{e:Expr}{es:List Expr}{fs:En->Rs (List T)}{pos p:Pos}{x:Str}{Ty:String}{g:List T->Rs T}(hc:CallT X (Value.type Ty) g)(hm:Cx.mg X x=none)(hv:bootBuiltins x=some (Value.type Ty))(ha:QA X (e::es) fs)(hn:bf (e::es)=true:=by rfl)(hg:Gl X x:=by rfl)(h1:x≠Str.ofString "__name__":=by decide)(h2:(x == Str.ofString "__debug__")=false:=by decide):QE X (Expr.Call (Expr.Name x p) (e::es) [] pos) (cl g fs):=
 ⟨q_cT (hc:=hc) (hm:=hm) (hv:=hv) (ha:=ha.h) (hn:=hn) (hg:=hg) (h1:=h1) (h2:=h2)⟩
theorem zq_c {X:Cx}{e:Expr}{es:List Expr}{fs:En->Rs (List T)}{pos p:Pos}{x:Str}{n k:Nat}{f:Addr}{fd:FuncData}{ps:List Str}{g:List T->Rs T}(F:Dr (Cx.prog X) (Cx.w X) (Cx.K X) (Cx.mg X) (Cx.base X) k f fd ps n g)(hr:Room k (Cx.A X))(hm:Cx.mg X x=some (Value.ref f))(hk:W.keepIn (Cx.K X) (Value.ref f)=true)(hb:L2.Binds (Cx.K X) fd ps [])(hl:∀(Z:En) (ts:List T),fs Z=Rs.ok ts->List.length ts=n)(ha:QA X (e::es) fs)(hps:List.length ps=n:=by rfl)(hn:bf (e::es)=true:=by rfl)(hg:Gl X x:=by rfl)(h2:(x == Str.ofString "__debug__")=false:=by decide):QE X (Expr.Call (Expr.Name x p) (e::es) [] pos) (cl g fs):=
 ⟨q_c (F:=F) (hr:=hr) (hm:=hm) (hk:=hk) (hb:=hb) (hl:=hl) (ha:=ha.h) (hps:=hps) (hn:=hn) (hg:=hg) (h2:=h2)⟩
theorem v7 {X:Cx}{a:Expr}{fa:En->Rs T}{pos p p2:Pos}{tn:Str}{Ty:String}(hm:Cx.mg X (Str.ofString "isinstance")=none)(hmt:Cx.mg X tn=none)(hv:bootBuiltins tn=some (Value.type Ty))(ha:QE X a fa)(hn:bo a=true:=by rfl)(hg:Gl X (Str.ofString "isinstance"):=by rfl)(hgt:Gl X tn:=by rfl)(h1:tn≠Str.ofString "__name__":=by decide)(h2:(tn == Str.ofString "__debug__")=false:=by decide):QE X (Expr.Call (Expr.Name (Str.ofString "isinstance") p) [a,Expr.Name tn p2] [] pos) (o1 (At Ty) fa):=
 ⟨q_is (hm:=hm) (hmt:=hmt) (hv:=hv) (ha:=ha.h) (hn:=hn) (hg:=hg) (hgt:=hgt) (h1:=h1) (h2:=h2)⟩
theorem ah {X:Cx}{pos:Pos}{x:Str}(i:Nat)(hN:List.Nodup (Cx.N X))(hi:(Cx.N X)[i]? =some x:=by rfl)(hx:L2.Loc (Env.scope (Cx.env X)) x:=by first | exact Or.inl rfl | exact Or.inr rfl)(hf:Cx.fn X x=true\/List.lookup x (Scope.names (Env.scope (Cx.env X)))=some NameKind.local:=by first | exact .inl rfl | exact .inr rfl | assumption):QG X (Expr.Name x pos) (gN i):=
 ⟨zJ (i:=i) (hN:=hN) (hi:=hi) (hx:=hx) (hf:=hf)⟩
theorem cf {X:Cx}:Fk X [] iO:=
 ⟨zI ⟩
theorem aF {X:Cx}{e:Expr}{es:List Expr}{g:T->En->Rs En}{gs:List T->En->Rs En}(h1:QG X e g)(h2:Fk X es gs)(hs:List.map (λx=>Prod.snd x) (assignEach (e::es) (Cx.env X))=assign e (Cx.env X)::List.map (λx=>Prod.snd x) (assignEach es (Cx.env X)):=by rfl):Fk X (e::es) (cT g gs):=
 ⟨wN (h1:=h1.h) (h2:=h2.h) (hs:=hs)⟩
theorem cU {X:Cx}{es:List Expr}{pos:Pos}{k n:Nat}{gs:List T->En->Rs En}(hc:Cx.calm X=true)(h:Fk X es gs)(hn:List.length (assignEach es (Cx.env X))=n:=by rfl)(hst:List.findIdx? (λx=>Prod.fst x) (assignEach es (Cx.env X))=none:=by rfl):QG X (Expr.Tuple es k pos) (gT n gs):=
 ⟨B2 (hc:=hc) (h:=h.h) (hn:=hn) (hst:=hst)⟩
theorem cW {X:Cx}{a:Expr}{fs:En->Rs (List T)}{pos p:Pos}{tg:Expr}(hm:Cx.mg X (Str.ofString "range")=none)(ha:QA X [a] fs)(hg:Gl X (Str.ofString "range"):=by rfl)(hs:starEach [a] (Cx.env X)= [(false,eval a (Cx.env X))]:=by rfl):QI X tg (Expr.Call (Expr.Name (Str.ofString "range") p) [a] [] pos) (iR fs):=
 ⟨u6 (hm:=hm) (ha:=ha.h) (hg:=hg) (hs:=hs)⟩
theorem ly {X:Cx}{a b:Expr}{fs:En->Rs (List T)}{pos p:Pos}{tg:Expr}(hm:Cx.mg X (Str.ofString "range")=none)(ha:QA X [a,b] fs)(hg:Gl X (Str.ofString "range"):=by rfl)(hs:starEach [a,b] (Cx.env X)= [(false,eval a (Cx.env X)),(false,eval b (Cx.env X))]:=by rfl)(hs2:starEach [b] (Cx.env X)= [(false,eval b (Cx.env X))]:=by rfl):QI X tg (Expr.Call (Expr.Name (Str.ofString "range") p) [a,b] [] pos) (iR fs):=
 ⟨u5 (hm:=hm) (ha:=ha.h) (hg:=hg) (hs:=hs) (hs2:=hs2)⟩
theorem bN {X:Cx}:ET X [] bT:=
 ⟨zG ⟩
theorem gU {X:Cx}{c:Expr}{f:En->Rs Bool}(h:QT X c f):ET X [c] f:=
 ⟨zF (h:=h.h)⟩
theorem eY {X:Cx}{pos:Pos}{elt tg iter:Expr}{ifs:List Expr}{scope:Scope}{N':List Str}{src:List (Option Nat)}{fi:En->Rs (List T)}{tgt:T->En->Rs En}{fc:En->Rs Bool}{fe:En->Rs T}(hc:Cx.calm X=true)(S:LcScope X scope N' src)(hi:QI X tg iter fi)(block:∀(cl:List (Str×Addr)) (C:Addr) (s₀:Shared) (H₀:Hp) (fp:List Addr),QG (bn X scope cl N' C s₀ H₀ fp) tg tgt/\ET (bn X scope cl N' C s₀ H₀ fp) ifs fc/\QE (bn X scope cl N' C s₀ H₀ fp) elt fe)(hs:∀(x:Value),foldedSetIterable iter (Cx.env X) x=pure x:=by intro _;rfl):QE X (Expr.ListComp elt [{ target:=tg,iter:=iter,ifs:=ifs,is_async:=0 }] scope pos) (dP fi src tgt fc fe):=
 ⟨q_lc (hc:=hc) (S:=S) (hi:=hi.h) (block:=λa1 a2 a3 a4 a5=>⟨(block a1 a2 a3 a4 a5).1.h,(block a1 a2 a3 a4 a5).2.1.h,(block a1 a2 a3 a4 a5).2.2.h⟩) (hs:=hs)⟩
theorem bB {X:Cx}:yS X [] sN:=
 ⟨BS ⟩
theorem ak {X:Cx}{st:Stmt}{rest:List Stmt}{F G:En->Rs Fl}(h1:QS X st F)(h2:yS X rest G):yS X (st::rest) (ar F G):=
 ⟨zC (h1:=h1.h) (h2:=h2.h)⟩
theorem al {X:Cx}{st:Stmt}{F:En->Rs Fl}(h:QS X st F):yS X [st] F:=
 ⟨BR (h:=h.h)⟩
theorem aB {X:Cx}{a:Expr}{fa:En->Rs T}{pos:Pos}(ha:QE X a fa):QS X (Stmt.Return (some a) pos) (aM fa):=
 ⟨BP (ha:=ha.h)⟩
theorem cA {X:Cx}{c:Expr}{pos:Pos}{f:En->Rs Bool}{A B:List Stmt}{F G:En->Rs Fl}(hc:QT X c f)(ha:yS X A F)(hb:yS X B G):QS X (Stmt.If c A B pos) (eE f F G):=
 ⟨DQ (hc:=hc.h) (ha:=ha.h) (hb:=hb.h)⟩
theorem Bp {X:Cx}{pos:Pos}{elt tg iter:Expr}{ifs:List Expr}{scope:Scope}{spos py:Pos}{N':List Str}{src:List (Option Nat)}{fi:En->Rs (List T)}{tgt:T->En->Rs En}{fc:En->Rs Bool}{fe:En->Rs T}(i:Nat){y:Str}(hc:Cx.calm X=true)(S:LcScope X scope N' src)(hi:QI X tg iter fi)(block:∀(cl:List (Str×Addr)) (C:Addr) (s₀:Shared) (H₀:Hp) (fp:List Addr),QG (bn X scope cl N' C s₀ H₀ fp) tg tgt/\ET (bn X scope cl N' C s₀ H₀ fp) ifs fc/\QE (bn X scope cl N' C s₀ H₀ fp) elt fe)(hN:List.Nodup (Cx.N X))(hiy:(Cx.N X)[i]? =some y:=by rfl)(hy:L2.Loc (Env.scope (Cx.env X)) y:=by first | exact Or.inl rfl | exact Or.inr rfl)(hsw:swapsWith (Expr.ListComp elt [{ target:=tg,iter:=iter,ifs:=ifs,is_async:=0 }] scope pos) (some (Expr.Name y py)) (Pos.line spos) (Cx.env X)=pure true:=by rfl)(hf:Cx.fn X y=true\/List.lookup y (Scope.names (Env.scope (Cx.env X)))=some NameKind.local:=by first | exact .inl rfl | exact .inr rfl | assumption)(hs:∀(x:Value),foldedSetIterable iter (Cx.env X) x=pure x:=by intro _;rfl):QS X (Stmt.Assign [Expr.Name y py] (Expr.ListComp elt [{ target:=tg,iter:=iter,ifs:=ifs,is_async:=0 }] scope pos) spos) (ce (dP fi src tgt fc fe) (gN i)):=
 ⟨DP (i:=i) (hc:=hc) (S:=S) (hi:=hi.h) (block:=λa1 a2 a3 a4 a5=>⟨(block a1 a2 a3 a4 a5).1.h,(block a1 a2 a3 a4 a5).2.1.h,(block a1 a2 a3 a4 a5).2.2.h⟩) (hN:=hN) (hiy:=hiy) (hy:=hy) (hsw:=hsw) (hf:=hf) (hs:=hs)⟩
theorem aE {X:Cx}{a:Expr}{fa:En->Rs T}{pos:Pos}{tg:Expr}{g:T->En->Rs En}(ha:QE X a fa)(hg:QG X tg g)(hs:swapsWithSole [tg] a (Pos.line pos) (Cx.env X)=pure false:=by rfl)(hw:swappedStores [tg] a (Cx.env X)=pure none:=by rfl)(h1:List.map (λx=>Prod.snd x) (assignEach [tg] (Cx.env X))= [assign tg (Cx.env X)]:=by rfl):QS X (Stmt.Assign [tg] a pos) (ce fa g):=
 ⟨BX (ha:=ha.h) (hg:=hg.h) (hs:=hs) (hw:=hw) (h1:=h1)⟩
theorem pW {X:Cx}{a:Expr}{fa:En->Rs T}{pos:Pos}(ha:QE X a fa)(hs:swapsWith a none (Pos.line pos) (Cx.env X)=pure false:=by rfl):QS X (Stmt.Expr a pos) (BE fa):=
 ⟨zB (ha:=ha.h) (hs:=hs)⟩
theorem bD {X:Cx}{pos:Pos}{tg iter:Expr}{body:List Stmt}{fi:En->Rs (List T)}{g:T->En->Rs En}{F:En->Rs Fl}(hc:Cx.calm X=true)(hi:QI X tg iter fi)(hg:QG (Cx.nox X) tg g)(hb:yS (Cx.nox X) body F)(hs:∀(x:Value),foldedSetIterable iter (Cx.env X) x=pure x:=by intro _;rfl):QS X (Stmt.For tg iter body [] pos) (di fi g F):=
 ⟨BU (hc:=hc) (hi:=hi.h) (hg:=hg.h) (hb:=hb.h) (hs:=hs)⟩
theorem uP {X:Cx}{pos:Pos}{c:Expr}{body:List Stmt}{fc:En->Rs Bool}{F:En->Rs Fl}(n:Nat)(hc:QT (Cx.nox X) c fc)(hb:yS (Cx.nox X) body F):QS X (Stmt.While c body [] pos) (bz fc F n):=
 ⟨wJ (n:=n) (hc:=hc.h) (hb:=hb.h)⟩
theorem bF {X:Cx}{a:Expr}{fa:En->Rs T}{tg:Expr}(ha:QE X a fa):QI X tg a (iS fa):=
 ⟨B1 (ha:=ha.h)⟩
theorem eX {X:Cx}{a:Expr}{fs:En->Rs (List T)}{p pos:Pos}{elts:List Expr}{kk:Nat}{tpos:Pos}(hm:Cx.mg X (Str.ofString "enumerate")=none)(ha:QA X [a] fs)(hg:Gl X (Str.ofString "enumerate"):=by rfl)(hs:starEach [a] (Cx.env X)= [(false,eval a (Cx.env X))]:=by rfl):QI X (Expr.Tuple elts kk tpos) (Expr.Call (Expr.Name (Str.ofString "enumerate") p) [a] [] pos) (iE fs):=
 ⟨zH (hm:=hm) (ha:=ha.h) (hg:=hg) (hs:=hs)⟩
theorem gS {X:Cx}{es:List Expr}{pos p2 p3:Pos}{x:Str}(i:Nat){f:En->Rs (List T)}(hN:List.Nodup (Cx.N X))(ha:QA X es f)(hi:(Cx.N X)[i]? =some x:=by rfl)(hx:L2.Loc (Env.scope (Cx.env X)) x:=by first | exact Or.inl rfl | exact Or.inr rfl)(hs:swapsWith (Expr.List es p2) (some (Expr.Name x p3)) (Pos.line pos) (Cx.env X)=pure false:=by rfl)(hf:Cx.fn X x=true\/List.lookup x (Scope.names (Env.scope (Cx.env X)))=some NameKind.local:=by first | exact .inl rfl | exact .inr rfl | assumption):QS X (Stmt.Assign [Expr.Name x p3] (Expr.List es p2) pos) (g8 i f):=
 ⟨zy (i:=i) (hN:=hN) (ha:=ha.h) (hi:=hi) (hx:=hx) (hs:=hs) (hf:=hf)⟩
theorem gw {X:Cx}{a:Expr}{fa:En->Rs T}{pos p2:Pos}{x:Str}(i:Nat){apos cpos:Pos}(ha:QE X a fa)(hN:(Cx.N X)[i]? =some x:=by rfl)(hv:rV (Env.scope (Cx.env X)) x:=by first | exact Or.inl rfl | exact Or.inr (Or.inl rfl) | exact Or.inr (Or.inr rfl))(hn:bo a=true:=by rfl)(hbase:attributeBase (Expr.Name x p2) (Str.ofString "append") (Cx.env X) (eval (Expr.Name x p2) (Cx.env X))=eval (Expr.Name x p2) (Cx.env X):=by rfl)(hline:(Pos.endLine apos == Pos.line cpos)=true:=by rfl)(hd:(x == Str.ofString "__debug__")=false:=by decide)(hcd:(x == Str.ofString "__classdict__")=false:=by decide)(hsw:swapsWith (Expr.Call (Expr.Attribute (Expr.Name x p2) (Str.ofString "append") apos) [a] [] cpos) none (Pos.line pos) (Cx.env X)=pure false:=by rfl):QS X (Stmt.Expr (Expr.Call (Expr.Attribute (Expr.Name x p2) (Str.ofString "append") apos) [a] [] cpos) pos) (gR i fa):=
 ⟨BY (i:=i) (ha:=ha.h) (hN:=hN) (hv:=hv) (hn:=hn) (hbase:=hbase) (hline:=hline) (hd:=hd) (hcd:=hcd) (hsw:=hsw)⟩
theorem oj {X:Cx}{a:Expr}{fa:En->Rs T}{pos p2:Pos}{x:Str}(i:Nat){apos cpos:Pos}(ha:QE X a fa)(hN:(Cx.N X)[i]? =some x:=by rfl)(hv:rV (Env.scope (Cx.env X)) x:=by first | exact Or.inl rfl | exact Or.inr (Or.inl rfl) | exact Or.inr (Or.inr rfl))(hn:bo a=true:=by rfl)(hbase:attributeBase (Expr.Name x p2) (Str.ofString "extend") (Cx.env X) (eval (Expr.Name x p2) (Cx.env X))=eval (Expr.Name x p2) (Cx.env X):=by rfl)(hline:(Pos.endLine apos == Pos.line cpos)=true:=by rfl)(hd:(x == Str.ofString "__debug__")=false:=by decide)(hcd:(x == Str.ofString "__classdict__")=false:=by decide)(hsw:swapsWith (Expr.Call (Expr.Attribute (Expr.Name x p2) (Str.ofString "extend") apos) [a] [] cpos) none (Pos.line pos) (Cx.env X)=pure false:=by rfl):QS X (Stmt.Expr (Expr.Call (Expr.Attribute (Expr.Name x p2) (Str.ofString "extend") apos) [a] [] cpos) pos) (lM i fa):=
 ⟨BV (i:=i) (ha:=ha.h) (hN:=hN) (hv:=hv) (hn:=hn) (hbase:=hbase) (hline:=hline) (hd:=hd) (hcd:=hcd) (hsw:=hsw)⟩
theorem gv {X:Cx}(i:Nat){st:Stmt}{F:En->Rs Fl}(h:QS X st F):QS X st (kP i F):=
 ⟨BW (i:=i) (h:=h.h)⟩
theorem iP {X:Cx}(i:Nat){e:Expr}{f:En->Rs T}(h:QE X e f):QE X e (ln i f):=
 ⟨q_ln (i:=i) (h:=h.h)⟩
theorem Bo {X:Cx}(i:Nat){e:Expr}{f:En->Rs Bool}(h:QT X e f):QT X e (CD i f):=
 ⟨DO (i:=i) (h:=h.h)⟩
theorem Bq {X:Cx}{pos:Pos}:QS X (Stmt.Continue pos) A5:=
 ⟨DS ⟩
theorem m9 {X:Cx}{c:Str}{msg:Str}{C:Addr}{bm:List Value}{np p1 cpos pos:Pos}{j:Nat}(O:OX X.K C bm)(hm:X.mg c=some (.ref C))(hc:X.calm=true:=by rfl)(hg:Gl X c:=by rfl)(hd:(c == ("__debug__" : Str))=false:=by decide) :
  QS X (.Raise (some (.Call (.Name c np) [.Constant (.str msg) j p1] [] cpos)) none pos) (zq c):=⟨wK O.own hc hm hg hd⟩
theorem tE {P:Program}{w:World}{K:PySem.W.Frag}{mg:Str->Option Value}{base:Heap}{x qual:Str}{st:Stmt}{f:Addr}{fd:FuncData}{N ps:List Str}{k n:Nat}{F:En->Rs Fl}(Fn:L2.Fun K x qual st f fd)(S:aG N ps (aj st))(hn:ps.length=n)
  (hbody:∀(cdv:Value) (A:Around) (outer:List Env) (s:Shared) (H:Hp) (E:XK),Room k (A.deeper (envOfC qual (aj st) s.heap.objs.size f cdv)) →
   ∀xe,yS ((kr CX0 P w K mg base N qual (aj st) f cdv A outer s H E).wish xe) (dt st) F):Dr P w K mg base (k+1) f fd ps n (val n N.length F):=C8 Fn S hn λcdv A outer s H E hr xe=>(hbody cdv A outer s H E hr xe).h
theorem bc {X:Cx}{a b:Expr}{fa fb:En->Rs T}{pos:Pos}(hu:Around.units (Cx.A X)+1<cLine)(ha:QE X a fa)(hb:QE X b fb)(hs:vR b:=by intro _ _;rfl):QE X (Expr.Subscript a b pos) (o2 aL fa fb):=
 ⟨D6 (hu:=hu) (ha:=ha.h) (hb:=hb.h) (hs:=hs)⟩
theorem tD {X:Cx}{a b:Expr}{fa fb:En->Rs T}{apos cpos:Pos}(hu:Around.units (Cx.A X)+1<cLine)(ha:QE X a fa)(hb:QE X b fb)(hn:bo b=true:=by rfl)(hbase:attributeBase a (Str.ofString "get") (Cx.env X) (eval a (Cx.env X))=eval a (Cx.env X):=by rfl)(hline:(Pos.endLine apos == Pos.line cpos)=true:=by rfl):QE X (Expr.Call (Expr.Attribute a (Str.ofString "get") apos) [b] [] cpos) (oD gP fa fb):=
 ⟨B6 (hu:=hu) (ha:=ha.h) (hb:=hb.h) (hn:=hn) (hbase:=hbase) (hline:=hline)⟩
theorem jV {X:Cx}{a b:Expr}{fa fb:En->Rs T}{apos cpos:Pos}(hu:Around.units (Cx.A X)+61<cLine)(ha:QE X a fa)(hb:QE X b fb)(hn:bo b=true:=by rfl)(hbase:attributeBase a (Str.ofString "index") (Cx.env X) (eval a (Cx.env X))=eval a (Cx.env X):=by rfl)(hline:(Pos.endLine apos == Pos.line cpos)=true:=by rfl):QE X (Expr.Call (Expr.Attribute a (Str.ofString "index") apos) [b] [] cpos) (oL cm fa fb):=
 ⟨wO (hu:=hu) (ha:=ha.h) (hb:=hb.h) (hn:=hn) (hbase:=hbase) (hline:=hline)⟩
theorem uR {X:Cx}{pos p2 p3:Pos}{x:Str}(i:Nat)(hN:List.Nodup (Cx.N X))(hi:(Cx.N X)[i]? =some x:=by rfl)(hx:L2.Loc (Env.scope (Cx.env X)) x:=by first | exact Or.inl rfl | exact Or.inr rfl)(hs:swapsWith (Expr.Dict [] [] p2) (some (Expr.Name x p3)) (Pos.line pos) (Cx.env X)=pure false:=by rfl)(hf:Cx.fn X x=true\/List.lookup x (Scope.names (Env.scope (Cx.env X)))=some NameKind.local:=by first | exact .inl rfl | exact .inr rfl | assumption):QS X (Stmt.Assign [Expr.Name x p3] (Expr.Dict [] [] p2) pos) (oE i):=
 ⟨wM (i:=i) (hN:=hN) (hi:=hi) (hx:=hx) (hs:=hs) (hf:=hf)⟩
theorem v5 {X:Cx}{e:Expr}{f:En->Rs T}{x:Str}{p pos p2 p3:Pos}(i:Nat)(hu:Around.units (Cx.A X)+8<cLine)(hc:Cx.calm X=true)(hm:Cx.mg X (Str.ofString "dict")=none)(hN:List.Nodup (Cx.N X))(ha:QE X e f)(hst:bo e=true:=by rfl)(hg:Gl X (Str.ofString "dict"):=by rfl)(hi:(Cx.N X)[i]? =some x:=by rfl)(hx:L2.Loc (Env.scope (Cx.env X)) x:=by first | exact Or.inl rfl | exact Or.inr rfl)(hs:swapsWith (Expr.Call (Expr.Name (Str.ofString "dict") p) [e] [] p2) (some (Expr.Name x p3)) (Pos.line pos) (Cx.env X)=pure false:=by rfl)(hf:Cx.fn X x=true\/List.lookup x (Scope.names (Env.scope (Cx.env X)))=some NameKind.local:=by first | exact .inl rfl | exact .inr rfl | assumption):QS X (Stmt.Assign [Expr.Name x p3] (Expr.Call (Expr.Name (Str.ofString "dict") p) [e] [] p2) pos) (nu i f):=
 ⟨zA (i:=i) (hu:=hu) (hc:=hc) (hm:=hm) (hN:=hN) (ha:=ha.h) (hst:=hst) (hg:=hg) (hi:=hi) (hx:=hx) (hs:=hs) (hf:=hf)⟩
theorem tq {X:Cx}{b c:Expr}{fb fc:En->Rs T}{pos p2 p3:Pos}{x:Str}(i:Nat)(hu:Around.units (Cx.A X)+1<cLine)(hb:QE X b fb)(hc:QE X c fc)(hN:(Cx.N X)[i]? =some x:=by rfl)(hv:rV (Env.scope (Cx.env X)) x:=by first | exact Or.inl rfl | exact Or.inr (Or.inl rfl) | exact Or.inr (Or.inr rfl))(hd:(x == Str.ofString "__debug__")=false:=by decide)(hcd:(x == Str.ofString "__classdict__")=false:=by decide)(hs:swapsWith c (some (Expr.Subscript (Expr.Name x p2) b p3)) (Pos.line pos) (Cx.env X)=pure false:=by rfl):QS X (Stmt.Assign [Expr.Subscript (Expr.Name x p2) b p3] c pos) (mT i fb fc):=
 ⟨BQ (i:=i) (hu:=hu) (hb:=hb.h) (hc:=hc.h) (hN:=hN) (hv:=hv) (hd:=hd) (hcd:=hcd) (hs:=hs)⟩
theorem lv {X:Cx}{a b c:Expr}{fa fb fc:En->Rs T}{pos p2 p3 p4:Pos}{x:Str}(i:Nat)(hu:Around.units (Cx.A X)+1<cLine)(ha:QE X a fa)(hb:QE X b fb)(hc:QE X c fc)(hsl:vR a:=by intro _ _;rfl)(hN:(Cx.N X)[i]? =some x:=by rfl)(hv:rV (Env.scope (Cx.env X)) x:=by first | exact Or.inl rfl | exact Or.inr (Or.inl rfl) | exact Or.inr (Or.inr rfl))(hd:(x == Str.ofString "__debug__")=false:=by decide)(hcd:(x == Str.ofString "__classdict__")=false:=by decide)(hs:swapsWith c (some (Expr.Subscript (Expr.Subscript (Expr.Name x p2) a p3) b p4)) (Pos.line pos) (Cx.env X)=pure false:=by rfl):QS X (Stmt.Assign [Expr.Subscript (Expr.Subscript (Expr.Name x p2) a p3) b p4] c pos) (gL i fa fb fc):=
 ⟨zx (i:=i) (hu:=hu) (ha:=ha.h) (hb:=hb.h) (hc:=hc.h) (hsl:=hsl) (hN:=hN) (hv:=hv) (hd:=hd) (hcd:=hcd) (hs:=hs)⟩
end Tr
namespace Tr
open PySem PySem.Spec L2
theorem LcScope.byN {X:Cx}{scope:Scope}{N N':List Str}{src:List (Option Nat)}(hN:X.N=N)(hk:scope.kind= .function)(h:CH scope.names N scope.names N' src=true)
  (hf:(scope.names.all λy=>y.2 != .free||(X.env.scope.names.lookup y.1 == some .cell||X.env.scope.names.lookup y.1 == some .free))=true):LcScope X scope N' src:=by
 have z:=LcScope.by (X:={ X with env:={ X.env with scope:=scope } }) hN rfl hk h
 refine⟨hk,z.cel,z.loc,z.len,z.from_,λx hx=> ?_⟩
 have:=List.all_eq_true.mp hf _ hx;simp only[bne_self_eq_false,Bool.false_or,Bool.or_eq_true]at this
 show X.env.scope.names.lookup x=_\/X.env.scope.names.lookup x=_
 rcases this with z | z
 ·exact .inl (by simpa using z)
 ·exact .inr (by simpa using z)
end Tr
namespace Tr
open PySem PySem.Spec PyProof.Rows L2 PySem.W
def yb (h:Heap):Frag:=(List.range h.objs.size).filterMap λa=>(h.get? a).map λo=>(a,o)
theorem ya (h:Heap):(yb h).In h:=by
 have key:∀(l:List Nat) (a:Addr) (o:Obj),(l.filterMap λa=>(h.get? a).map λo=>(a,o)).lookup a=some o->h.get? a=some o:=by
  intro l
  induction l with
  | nil=>intro a o e;cases e
  | cons b r ih=>
   intro a o e
   cases hb:h.get? b with
   | none=>rw[List.filterMap_cons_none (by rw[hb];rfl)]at e;exact ih a o e
   | some ob=>
    rw[List.filterMap_cons_some (b:=(b,ob)) (by rw[hb];rfl),List.lookup_cons]at e
    cases q:a == b with
    | true=>rw[q]at e;cases e;rw[eq_of_beq q];exact hb
    | false=>rw[q]at e;exact ih a o e
 exact λa o e=>key _ a o e
def obF (K:Frag)(n:Str):Option (Str×Str×Arguments×FuncBody×Scope×Addr×List (Str×Addr)×Value×Addr×Bool×Bool):=match nsIn K mainGlobals n with
 | some (some (.ref f))=>match K.lookup f with
  | some ⟨_,_,.func d,_⟩=>some (d.name,d.qualname,d.params,d.body,d.scope,d.globals,d.closure,d.defaults,d.builtins,codeIn K d.code n,keepIn K (.ref f))
  | _=>none
 | _=>none
def exF (n:Str)(st:Stmt):Option (Str×Str×Arguments×FuncBody×Scope×Addr×List (Str×Addr)×Value×Addr×Bool×Bool):=
 some (n,n,gI st,.stmts (dt st),aj st,mainGlobals,[],.none,builtinsNs,true,true)
theorem Bf {K:Frag}{n:Str}{st:Stmt}(e:obF K n=exF n st):∃f fd,nsIn K mainGlobals n=some (some (.ref f))/\L2.Fun K n n st f fd:=by
 unfold obF at e
 split at e
 ·rename_i f hf
  split at e
  ·rename_i oc od d sl hl
   cases d;unfold exF at e;simp only[Option.some.injEq,Prod.mk.injEq]at e;obtain⟨h1,h2,h3,h4,h5,h6,h7,h8,h9,h10,h11⟩:=e;subst h1 h2 h3 h4 h5 h6 h7 h8 h9;exact⟨f,_,hf,C6 hl h10 h11⟩
  ·cases e
 ·cases e
def Eo (K:Frag)(N:Addr)(n:Str):Bool:=match nsIn K N n with | some none=>true | _=>false
theorem lW {K:Frag}{N:Addr}{n:Str}(e:Eo K N n=true):nsIn K N n=some none:=by
 unfold Eo at e
 split at e
 ·assumption
 ·cases e
def Fg (K:Frag)(n:Str):Option Int:=match nsIn K mainGlobals n with | some (some (.int i _))=>some i | _=>none
theorem CC {K:Frag}{n:Str}{i:Int}(e:Fg K n=some i):∃t,nsIn K mainGlobals n=some (some (.int i t)):=by
 unfold Fg at e
 split at e
 ·rename_i i' t h;cases e;exact⟨t,h⟩
 ·cases e
def tF:List Value->Bool
 | [.type a,.type b,.type c,.type d] =>a == "ValueError" &&b == "Exception" &&c == "BaseException" &&d == "object"
 | _=>false
theorem lA:∀{l:List Value},tF l=true->l=uI:=by
 intro l e;unfold tF at e
 split at e
 ·simp only[Bool.and_eq_true,beq_iff_eq]at e
  obtain⟨⟨⟨h1,h2⟩,h3⟩,h4⟩:=e;subst h1 h2 h3 h4;rfl
 ·cases e
def wl (D:Option Addr)(m:List Value):Bool:=match D with
 | none=>tF m
 | some D=>match m with
  | .ref E::m=>E == D&&tF m
  | _=>false
def Ah (K:Frag)(D:Option Addr)(n:Str):Option Addr:=match nsIn K mainGlobals n with
 | some (some (.ref C))=>match K.lookup C with
  | some ⟨.type t,_,.cls c,⟨[_,_,_,_,some (.builtin b),_]⟩⟩=>match c.mro,K.lookup c.ns with
   | .ref E::m,some ⟨_,_,.dict es _,_⟩=>
    if (t == "type" &&b == "ValueError.__new__" && !c.hasDel&&(es.toList.all λe=>ww e.key)&&calmNames.all (Eo K c.ns)&&E == C&&wl D m)=true then some C else none
   | _,_=>none
  | _=>none
 | _=>none
theorem j5 {K:Frag}{D:Option Addr}{n:Str}{C:Addr}(e:Ah K D n=some C):nsIn K mainGlobals n=some (some (.ref C)) ∧
  ∃nm q N bs bm hd sn su ab co dd k0 k1 k2 k3 k5,wl D bm=true/\K.lookup C=some (excClassObj nm q C N bs bm hd sn su ab co dd k0 k1 k2 k3 k5 "ValueError.__new__")/\∀h:Heap,K.In h->∃mN,h.Ns N mN/\∀n∈calmNames,mN n=none:=by
 unfold Ah at e
 split at e
 ·rename_i C' hC
  split at e
  ·rename_i t dd c k0 k1 k2 k3 b k5 hl
   split at e
   ·rename_i E m ob oe es ep oz hm hN
    split at e
    ·rename_i hq
     cases e;simp only[Bool.and_eq_true,beq_iff_eq,Bool.not_eq_true']at hq;obtain⟨⟨⟨⟨⟨⟨h1,h2⟩,h3⟩,h4⟩,h5⟩,h6⟩,h7⟩:=hq
     have z:=List.all_eq_true.mp h5;refine⟨hC,c.name,c.qualname,c.ns,c.bases,m,c.hasDict,c.slotNames,c.subclasses,c.abstract,c.collection,dd,k0,k1,k2,k3,k5,h7,?_,Ep hN h4 (lW (z _ (.head _))) (lW (z _ (.tail _ (.head _)))) (lW (z _ (.tail _ (.tail _ (.head _))))) (lW (z _ (.tail _ (.tail _ (.tail _ (.head _))))))⟩
     rw[hl];cases c;simp only at hm h3;subst h1 h2 hm h3 h6
     rfl
    ·cases e
   ·cases e
  ·cases e
 ·cases e
theorem ox0 {K:Frag}{C:Addr}{n:Str}(e:Ah K none n=some C):OX K C uI:=by
 obtain⟨_,_,_,_,_,_,_,_,_,_,_,_,_,_,_,_,_,hu,hl,hn⟩:=j5 e;cases lA hu;exact Ac hl hn
theorem ox1 {K:Frag}{C D:Addr}{n m:Str}(e:Ah K (some D) n=some C)(d:Ah K none m=some D):OX K C (.ref D::uI):=by
 obtain⟨_,_,_,_,_,bm,_,_,_,_,_,_,_,_,_,_,_,hu,hl,hn⟩:=j5 e;obtain⟨_,_,_,_,_,_,_,_,_,_,_,_,_,_,_,_,_,hu',hl',hn'⟩:=j5 d;cases lA hu';unfold wl at hu;simp only at hu
 split at hu
 ·rw[Bool.and_eq_true]at hu
  cases eq_of_beq hu.1;cases lA hu.2;exact xc hl hn hl' hn'
 ·cases hu
def sY {α:Type}:List (Option α)->Option (List α)
 | [] =>some []
 | none::_=>none
 | some a::r=>match sY r with | some l=>some (a::l) | none=>none
theorem n8 {α:Type}{o:Option α}{r:List (Option α)}{l:List α}(e:sY (o::r)=some l):∃a l',o=some a/\l=a::l'/\sY r=some l':=by
 cases o with
 | none=>cases e
 | some a=>
  unfold sY at e
  split at e
  ·rename_i l' h;cases e;exact⟨a,l',rfl,rfl,h⟩
  ·cases e
theorem yH {α:Type}{l:List α}(e:sY ([]:List (Option α))=some l):l= []:=by cases e;rfl
def o7:List Addr->Bool
 | [] =>true
 | a::r=>(r.all λb=> !(a == b))&&o7 r
theorem nC:∀{l:List Addr},o7 l=true->l.Nodup
 | [],_=> .nil
 | a::r,h=>by
  unfold o7 at h;rw[Bool.and_eq_true]at h;refine List.nodup_cons.mpr ⟨λhm=> ?_,nC h.2⟩
  have:=List.all_eq_true.mp h.1 a hm
  simp at this
def Ff (K:Frag):List Str->Bool
 | [] =>true
 | m::es=>match Ah K none m with
  | some D=>match sY (es.map (Ah K (some D)))with | some l=>o7 (l++ [D]) | none=>false
  | none=>false
theorem CB {K:Frag}{m:Str}{es:List Str}(e:Ff K (m::es)=true):∃D l,Ah K none m=some D/\sY (es.map (Ah K (some D)))=some l/\(l++ [D]).Nodup:=by
 rw[Ff]at e
 split at e
 ·rename_i D hD
  split at e
  ·rename_i l hl;exact⟨D,l,hD,hl,nC e⟩
  ·cases e
 ·cases e
structure vU where
 tab:List (Str×Nat)
 zs:List Str
 cs:List (Str×Int)
 es:List Str
def m3 (S:vU)(K:Frag):=(S.tab.map (λp=>obF K p.1),S.zs.all (Eo K mainGlobals),S.cs.map (λc=>Fg K c.1),Ff K S.es)
def mP (S:vU)(top:Nat->Stmt):=(S.tab.map (λp=>exF p.1 (top p.2)),true,S.cs.map (λc=>some c.2),true)
def hookK (S:vU)(top:Nat->Stmt):Hook:=
 ⟨_,λs=>m3 S (yb s.heap),λ_=>mP S top,λ_ h=> ∃K:Frag,K.In h/\m3 S K=mP S top,λ_ s e=>⟨_,ya s.heap,e⟩,λ_ _ _ ⟨K,a,b⟩ k=>⟨K,a.keeps k,b⟩⟩
section
variable {S:vU}{top:Nat->Stmt}{K:Frag}{h:Heap}{mg:Str->Option Value}
theorem pi {α β:Type}{f g:α->β}:∀{l:List α} (j:Nat) {a:α},l.map f=l.map g->l[j]? =some a->f a=g a
 | [],_,_,_,q=>by cases q
 | b::l,0,a,e,q=>by cases q;exact(List.cons.inj e).1
 | b::l,j+1,a,e,q=>pi (l:=l) j (List.cons.inj e).2 q
theorem cS (j:Nat){n:Str}{i:Nat}{ps:List Str}(X:K.In h)(G:h.Ns mainGlobals mg)(e:m3 S K=mP S top)(q:S.tab[j]? =some (n,i))
  (hb:∀(kV doc pm:Value) (an:Option Addr) (cdv ct:Value) (us:List Value),us.length=ps.length->bindArgs (fnOf n n (gI (top i)) (dt (top i)) (aj (top i)) .none kV doc pm an cdv ct) ⟨us,[]⟩=pure (ps.zip us)) :
  ∃f fd,Fn K mg n (top i) ps f fd:=by
 obtain⟨f,fd,h1,h2⟩:=Bf (pi j (congrArg (·.1) e) q)
 exact⟨f,fd,h2,h2.binds hb,mg_of X G h1⟩
theorem EB (j:Nat){n:Str}{i:Nat}{x:Str}{fa:Addr}(X:K.In h)(G:h.Ns mainGlobals mg)(e:m3 S K=mP S top)(q:S.tab[j]? =some (n,i))(hfa:mg n=some (.ref fa))
  (hb:∀(kV doc pm:Value) (an:Option Addr) (cdv ct u:Value),bindArgs (fnOf n n (gI (top i)) (dt (top i)) (aj (top i)) .none kV doc pm an cdv ct) ⟨[u],[]⟩=pure [(x,u)]) :
  ∃fd,Fn K mg n (top i) [x] fa fd/\∀(s:Shared) (u:Value),BindsTo s fd ⟨[u],[]⟩ [(x,u)]:=by
 obtain⟨f,fd,h1,h2⟩:=Bf (pi j (congrArg (·.1) e) q)
 have z:=hfa.symm.trans (mg_of X G h1);cases z
 have hh:=h2;obtain⟨oc,od,kV,doc,pm,an,cdv,ct,osl,rfl,lk,hcd⟩:=hh.ex;exact⟨_,⟨h2,.all λus hl=>match us,hl with | [u],_=>hb kV doc pm an cdv ct u,mg_of X G h1⟩,λs u=> .of_eq (hb kV doc pm an cdv ct u)⟩
theorem fA (j:Nat){n:Str}(X:K.In h)(G:h.Ns mainGlobals mg)(e:m3 S K=mP S top)(q:S.zs[j]? =some n):mg n=none:=
 mg_none_of X G (lW (List.all_eq_true.mp (congrArg (·.2.1) e:S.zs.all (Eo K mainGlobals)=true) n (List.mem_of_getElem? q)))
theorem nL (j:Nat){n:Str}{i:Int}(X:K.In h)(G:h.Ns mainGlobals mg)(e:m3 S K=mP S top)(q:S.cs[j]? =some (n,i)):∃t,mg n=some (.int i t):=by
 obtain⟨t,ht⟩:=CC (pi (f:=λc=>Fg K c.1) (g:=λc=>some c.2) j (congrArg (·.2.2.1) e) q)
 exact⟨t,mg_of X G ht⟩
theorem ED (e:m3 S K=mP S top):Ff K S.es=true:=congrArg (·.2.2.2) e
end
theorem left_of {p q:Program}{loose:List Str}{Xt:Shared->Bool}{α:Type}{Yf:Shared->α}{Ya:World->α}{N:Nat}{g0:Bool}
  (e:opening p=plainProg p.main.scope.names) (hN:Nat.ble 600 N=true) (f:∀s,fenceModules? p s=some s)
  (h:∀(w:World) (os:OsState),(topFrom treeTable p w N ⟨boot_heap w.params,⟨[]⟩,boot_drawn,boot_toks,os⟩).map (λs=>(openSeen q loose (importedModules p.main.body) Xt g0 s,Yf s))=some (openGood q loose,Ya w)) :
  LeftO p q loose Xt Yf Ya N g0:=λw=>by
 obtain⟨⟨h0,gs,d,k,os⟩,e1,e2⟩:=Option.map_eq_some_iff.mp (boot_open e hN f w);simp only[Prod.mk.injEq]at e2;obtain⟨rfl,rfl,rfl,rfl⟩:=e2;unfold openEnds;rw[e1];exact h w os
theorem walk_k {l:OpenLaw}{n k:Nat}{q:Program}{loose:List Str}{XP:(Str->Option Value)->Heap->Prop}{d:DefRec}{S:vU}{top:Nat->Stmt}{CX:yT}{sp:Frag->Sp}{x:Str}
  (hn:l.most=some n) (hn2:n<=sizeLine) (hdf:d.params.defaults= []) (hr:Room k callerA)
  (F:∀(w:World) (K:Frag) (mg:Str->Option Value) (fa:Addr) (h:Heap),K.In h->m3 S K=mP S top->h.Ns mainGlobals mg->mg d.name=some (.ref fa) →
   ∃fd:FuncData,(∀(s:Shared) (u:Value),BindsTo s fd ⟨[u],[]⟩ [(x,u)])/\∀base:Heap,K.In base->base.Ns mainGlobals mg->pP l.prog w K mg base CX k fa fd [x] (sp K))
  (hsp:∀(K:Frag) (H:Hp) (a:Addr) (ns:List Int),ns.length<=n->Dq H->SqL K H a (ns.map V.int)->sp K [.ref a] H (λv _=>v= .bl true) λ_ _ _=>False)
  (hCX:∀(H:Hp) (s:Shared) (e:Value) (s':Shared),CX [] H s (λ_ _ _=>False) e s'->False) :
  WalkO q loose XP (hookK S top).says l.row.toRowW d [] (λf vs=>PySem.call f vs):=by
 refine Att.attach_call hn hdf λw s₀ s₁ mg mb fa o pm cd doc a vs ns G Y ho hd hcd hmg hobj hints hlen hg=> ?_
 obtain⟨K,KX,e⟩:=Y;obtain⟨fd,hb,hF⟩:=F w K mg fa _ KX e G.T.g hmg;exact xH KX G.T.g G.T.b G.T.builtins G.T.nolimit hg hobj hints (Nat.le_trans hlen hn2) hr hF hb (λH hO hS=>hsp K H a ns hlen hO hS) λH e s'=>hCX H s₁ e s'
structure Cl (P:Program)(w:World)(K:Frag)(mg:Str->Option Value)(base:Heap)(k:Nat)(x:Str)(n:Nat)(m:List T->Rs T):Prop where
 ex:∃f fd ps,mg x=some (.ref f)/\keepIn K (.ref f)=true/\Binds K fd ps []/\ps.length=n/\Dr P w K mg base k f fd ps n m
abbrev gQ (K:Frag)(mg:Str->Option Value)(x:Str)(st:Stmt)(ps:List Str):Prop:=∃f fd,Fn K mg x st ps f fd
section
variable {P:Program}{w:World}{K:Frag}{mg:Str->Option Value}{base:Heap}{x:Str}{st:Stmt}{N ps:List Str}{k n:Nat}{F:En->Rs Fl}
theorem bu (H:gQ K mg x st ps)(S:aG N ps (aj st))(hn:ps.length=n)
  (hbody:∀(f:Addr) (cdv:Value) (A:Around) (outer:List Env) (s:Shared) (H:Hp) (E:XK),Room k (A.deeper (envOfC x (aj st) s.heap.objs.size f cdv)) →
   ∀xe,yS ((kr CX0 P w K mg base N x (aj st) f cdv A outer s H E).wish xe) (dt st) F):Cl P w K mg base (k+1) x n (val n N.length F):=by
 obtain⟨f,fd,h⟩:=H;exact⟨f,fd,ps,h.mg,h.fn.kp,h.bd,hn,tE h.fn S hn (hbody f)⟩
end
section
variable {X:Cx}{e:Expr}{es:List Expr}{fs:En->Rs (List T)}{pos p:Pos}{x:Str}{n k k':Nat}{g:List T->Rs T}
theorem aS (c:Cl X.prog X.w X.K X.mg X.base k x n g)(hr:Room k' X.A)(ha:QA X (e::es) fs)(hk:k<=k':=by decide)(hl:∀(Z:En) (ts:List T),fs Z= .ok ts->ts.length=n:=by repeat first | exact ES | refine ER ?_)
  (hn:bf (e::es)=true:=by rfl) (hg:Gl X x:=by rfl) (h2:(x == Str.ofString "__debug__")=false:=by decide):QE X (.Call (.Name x p) (e::es) [] pos) (cl g fs):=by
 obtain⟨f,fd,ps,h1,h3,h4,h5,h6⟩:=c.ex;exact zq_c h6 (hr.mono hk) h1 h3 h4 hl ha h5 hn hg h2
theorem pX {i:Int}(h:∃t,X.mg x=some (.int i t))(hg:Gl X x:=by rfl)(hd:(x == Str.ofString "__debug__")=false:=by decide):QE X (.Name x pos) (cn (.int i)):=by
 obtain⟨t,h⟩:=h;exact yW h ⟨_,rfl⟩ hg hd
end
end Tr
namespace Tr
open PySem PySem.Spec PyProof.Rows L2
theorem PairsAt.snoc {H:Hp}{b kb:Addr}{p:List Key×V}(h1:H b=some (.tup [.ref kb,p.2]))(h2:H kb=some (.tup (p.1.map kV))):∀{xs:List V} {ps:List (List Key×V)},PairsAt H xs ps->PairsAt H (xs++ [.ref b]) (ps++ [p])
 | [],_,h=>by
  unfold PairsAt at h;subst h
  exact⟨b,kb,p,[],rfl,rfl,h1,h2,rfl⟩
 | x::xs,_,⟨b',kb',p',r,e1,e2,e3,e4,e5⟩=>by
  subst e1;exact⟨b',kb',p',r++ [p],rfl,e2,e3,e4,e5.snoc h1 h2⟩
theorem PairsAt.move {H H':Hp}{D:Addr}{zs:List V}(hD:H D=some (.lst zs))(s:SameO (λa=>a=D) H H'):∀{xs:List V} {ps:List (List Key×V)},PairsAt H xs ps->PairsAt H' xs ps
 | [],_,h=>h
 | x::xs,_,⟨b,kb,p,r,e1,e2,e3,e4,e5⟩=>⟨b,kb,p,r,e1,e2,s _ _ e3 (hG e3 hD (λz=>nomatch z)),s _ _ e4 (hG e4 hD (λz=>nomatch z)),e5.move hD s⟩
theorem PairsAt.len {H:Hp}:∀{xs:List V} {ps:List (List Key×V)},PairsAt H xs ps->xs.length=ps.length
 | [],_,h=>by unfold PairsAt at h;subst h;rfl
 | x::xs,_,⟨b,kb,p,r,e1,e2,e3,e4,e5⟩=>by subst e1;rw[List.length_cons,List.length_cons,e5.len]
section
variable {X:Cx}
theorem rg {src:List (Option Nat)}{wi:TI}{te:TE}{σ:L2.St}{H:Hp}{Q:VK}{Z:En}{O:Ow}{l:List T}{kk:List (List Key)}(E:EnvO X.K O H Z σ)(hwi:∀R,(∀H1,Same H H1->∀J,EX X.K O H1 l J->R J H1)->wi σ H R)(hz:l.length<=1000)(hk:l.map aQ=kk.map some)(hs:0<src.length)
  (Acc:Hp->Addr->List V->Prop) (a0:∀H1 D,Same H H1->Nw X.K H1 D->Acc (upd H1 D (.lst [])) D [])
  (am:∀H1 H2 D vs ys,Acc H1 D vs->H1 D=some (.lst ys)->SameO (λa=>a=D) H1 H2->Acc H2 D vs)
  (hte:∀t∈l,∀σ' H' O' D vs ys (Q':VK),EnvM X.K O' noM H' ((bp src Z).set 0 (.va t)) σ'->Acc H' D vs->H' D=some (.lst ys)->(∀v H'',Same H' H''->Acc H'' D (vs++ [v])->Q' v H'')->te σ' H' Q')
  (hq:∀H1 D ys ps H',Same H H1->Nw X.K H1 D->Same H1 H'->H' D=some (.lst ys)->PairsAt H' ys ps->ps.map (·.1)=kk->Acc H' D (ps.map (·.2))->Q (.ref D) H') :
  By X.K wi src (uX X (gN 0)) qh (zi (jv (qg 0) (jv te wu))) σ H Q:=by
 refine hwi _ λH1 s1 J hJ D hD hK=> ?_
 have nD:Nw X.K H1 D:=⟨hD,hK⟩
 have E1:=E.same s1
 have lk:l.length=kk.length:=by have:=congrArg List.length hk;rwa [List.length_map,List.length_map]at this
 have hlen:0<(bp src Z).length:=by unfold bp;rw[List.length_map];exact hs
 let O':Ow:=λa=>O a\/a=D
 have subO:∀a,O' a->O a\/Nw X.K H1 a:=λa z=>z.elim .inl λw=> .inr (w▸nD)
 refine⟨λi m σ' ys H'=>m=l.length - i/\i<=l.length/\ys.length=i/\H' D=some (.lst ys)/\SameO (λa=>a=D) (upd H1 D (.lst [])) H' ∧
  ∃s0 ps,EnvM X.K O' noM H' ((bp src Z).set 0 s0) σ'/\PairsAt H' ys ps/\ps.map (·.1)=kk.take i/\Acc H' D (ps.map (·.2)),⟨l.length,?_⟩,?_⟩
 ·have sN:Same H1 (upd H1 D (.lst [])):=aO hD _
  refine⟨by omega,Nat.zero_le _,rfl,aA,λb o e _=>e,(bp src Z)[0],[],?_,rfl,rfl,a0 H1 D s1 nD⟩
  rw[List.set_getElem_self]
  exact(rh E1 src).move (P:=λa=>a=D) (λa z=> .inr (z▸nD)) subO (λb o e _=>sN b o e) λa z=>by
   rcases z with z | z
   ·exact(E1.mtb a z).same sN
   ·rw[z];exact .inl ⟨_,aA⟩
 ·rintro i m σ' ys H' ⟨rfl,hi',hyl,hDl,hsm,s0,ps,E',hp,hkk,hacc⟩
  refine⟨hDl,?_⟩
  have sm1:SameO (λa=>a=D) H1 H':=λb o e nb=>hsm b o (by rw[ay nb];exact e) nb
  have it:=hJ (λa=>a=D) O' (λa z=> .inr (z▸nD)) subO i H' sm1 (λa z=>(E'.trk a z).some)
  by_cases hlt:i<l.length
  ·refine .inr ?_
   obtain⟨go,yl⟩:=it.2 l[i] (by simp)
   refine⟨go,by rw[hyl,sizeLine_eq];omega,λxx Hc y=> ?_⟩
   obtain⟨sc,rx⟩:=yl xx Hc y
   have Ec:=E'.same sc
   have eg:gN 0 l[i] ((bp src Z).set 0 s0)= .ok ((bp src Z).set 0 (.va l[i])):=by unfold gN;rw[if_pos (by rw[List.length_set];exact hlen),List.set_set]
   refine⟨(bp src Z).set 0 s0,O',noM,l[i],Ec,rx,?_⟩
   rw[eg];intro σ1 Eg;unfold qh
   dsimp only
   rw[if_pos rfl];obtain⟨kv,ekv,rkv⟩:=Eg.val 0 l[i] (by rw[List.getElem?_set_self hlen])
   refine⟨kv,ekv,?_⟩
   have aC:Acc Hc D (ps.map (·.2)):=am H' Hc D _ ys hacc hDl λb o e _=>sc b o e
   have DC:Hc D=some (.lst ys):=sc _ _ hDl;refine hte l[i] (List.getElem_mem hlt) σ1 Hc O' D _ ys _ Eg aC DC λv H4 s4 acc4=>⟨by show 2<=sizeLine;rw[sizeLine_eq];omega,λp hpn=> ?_⟩
   have D4:H4 D=some (.lst ys):=s4 _ _ DC
   have pD:p≠D:=λz=>by rw[z,D4]at hpn;cases hpn
   have E4:=Eg.same s4
   have ki:kk[i]'(by omega)=kk[i]'(by omega):=rfl
   have hki:aQ l[i] =some (kk[i]'(by omega)):=by
    have:=congrArg (λz=>z[i]?) hk
    simp only[List.getElem?_map,List.getElem?_eq_getElem hlt,List.getElem?_eq_getElem (show i<kk.length by omega),Option.map_some]at this
    exact Option.some.inj this
   obtain⟨kb,rfl,hkb⟩:=gi hki (rkv.same s4)
   have s46:SameO (λa=>a=D) H4 (upd (upd H4 p (.tup [.ref kb,v])) D (.lst (ys++ [.ref p]))):=λb o e nb=>by
    rw[ay nb,ay (λz=>by rw[z,hpn]at e;cases e)];exact e
   refine⟨by rw[ay (Ne.symm pD)];exact D4,l.length - (i+1),by omega,rfl,hlt,?_,aA,λb o e nb=>s46 b o (s4 _ _ (sc _ _ (hsm b o e nb))) nb,.va l[i],ps++ [(kk[i]'(by omega),v)],?_,?_,?_,?_⟩
   ·rw[List.length_append,hyl];rfl
   ·exact E4.move (λa z=> .inl (.inr z)) (λa z=> .inl z) s46 λaa z=>by
     by_cases hz:aa=D
     ·rw[hz];exact .inl ⟨_,aA⟩
     ·exact(E4.trk aa z).elim (λ⟨vs,e⟩=> .inl ⟨vs,s46 _ _ e hz⟩) λ⟨vs,e⟩=> .inr ⟨vs,s46 _ _ e hz⟩
   ·refine((hp.same (sc.trans s4)).move D4 s46).snoc (kb:=kb) (p:=(kk[i]'(by omega),v)) ?_ ?_
    ·rw[ay pD,aA]
    ·exact s46 _ _ hkb (hG hkb D4 (λz=>nomatch z))
   ·rw[List.map_append,hkk]
    show kk.take i++ [kk[i]'(by omega)] =kk.take (i+1)
    rw[List.take_append_getElem]
   ·rw[List.map_append]
    exact am H4 _ D _ ys acc4 D4 s46
  ·refine .inl ⟨it.1 (by omega),?_⟩
   have sF:Same H1 H':=λb o e=>sm1 b o e λz=>by rw[z,hD]at e;cases e
   exact hq H1 D ys ps H' s1 nD sF hDl hp (by rw[hkk,List.take_of_length_le (by omega)]) hacc
def on (K:PySem.W.Frag)(t:TE):TE:=λσ H Q=>t σ H λv H'=> ∃a xs ps,v= .ref a/\H' a=some (.lst xs)/\xs.length<=1000/\PairsAt H' xs ps/\∀q,Nw K H' q->Q (.ref q) (upd H' q (.dT (dv [] ps)))
theorem qK {e:Expr}{t:TE}{p pos:Pos}(hu:X.A.units+8<cLine)(hc:X.calm=true)(hm:X.mg "dict" =none)(ha:PE X e t)(hg:Gl X "dict")(hs:bo e=true):PE X (.Call (.Name "dict" p) [e] [] pos) (on X.K t):=by
 have h1:starEach [e] X.env=(false,eval e X.env)::starEach [] X.env:=aU hs;intro pins s σ H Q I hq;refine wpAny_Call_Name_kw (fz I hg hm (show bootBuiltins "dict" =some (.type "dict")by decide+kernel) ?_ (by decide) (by decide))
 refine PyProof.Rows.callWith_type1 (cv (dU (te:=t) ha g9 h1 pos pins s σ H (λzs H'=>match zs with | [v] => ∃a xs ps,v= .ref a/\H' a=some (.lst xs)/\xs.length<=1000/\PairsAt H' xs ps/\∀q,Nw X.K H' q->Q (.ref q) (upd H' q (.dT (dv [] ps))) | _=>False) I ?_) λus s1 hh=> ?_) h1 rfl
 ·exact hq
 ·obtain⟨vs,H1,I1,r1,hv⟩:=hh
  match vs,hv,r1 with
  | [v],hv,r1=>
  obtain⟨a,xs,ps,ev,e1,e2,e3,e4⟩:=hv;subst ev;obtain⟨u,rfl,ru⟩:=r1.one;obtain rfl:u=Value.ref a:=ru;exact rL (I1.ok.hd hc) hu I1 e1 e2 e3 λq s' nw I'=>⟨.ref q,_,I',rfl,e4 q nw⟩
end
theorem j0:∀(ps kvs:List (List Key×V)),((kvs++ps).map (·.1)).Nodup->dv kvs ps=kvs++ps
 | [],kvs,_=>by rw[dv,List.append_nil]
 | p::ps,kvs,h=>by
  have e:cy kvs p.1 p.2=kvs++ [p]:=by
   unfold cy;rw[if_neg];intro z;obtain⟨q,hq,e⟩:=List.any_eq_true.mp z
   have e:=of_decide_eq_true e;rw[List.map_append,List.nodup_append]at h;exact h.2.2 q.1 (List.mem_map.mpr ⟨q,hq,rfl⟩) p.1 (by simp) e
  rw[dv,e,j0 ps (kvs++ [p]) (by rw[List.append_assoc];exact h),List.append_assoc]
  rfl
def fU (kk:List (List Key)):List (List Key×V):=kk.map λk=>(k,V.non)
theorem BG {kk:List (List Key)}:∀{ps:List (List Key×V)},ps.map (·.1)=kk->(∀v∈ps.map (·.2),v=V.non)->ps=fU kk:=by
 intro ps h1 h2;subst h1;unfold fU;rw[List.map_map]
 conv=>lhs;rw[<-List.map_id ps]
 exact List.map_congr_left λp hp=>Prod.ext rfl (h2 p.2 (List.mem_map.mpr ⟨p,hp,rfl⟩))
section
variable {X:Cx}
def tPI0 (K:PySem.W.Frag)(f:En->Rs (List T)):TI:=λσ H R=> ∃Z O,EnvO K O H Z σ/\match f Z with
 | .ok ts=> ∀H',Same H H'->∀J,EX K O H' ts J->R J H'
 | _=>False
theorem tPI0.up {f:En->Rs (List T)}{σ:L2.St}{H:Hp}{R:It->Hp->Prop}(h:tPI0 X.K f σ H R):Fc X f σ H R:=by
 obtain⟨Z,O,E,h⟩:=h;refine⟨Z,O,E,?_⟩
 cases q:f Z with
 | ok t=>rw[q]at h;exact h
 | err c=>rw[q]at h;exact h.elim
 | bad=>rw[q]at h;exact h.elim
def r9 (X:Cx)(src:List (Option Nat)):TE:=on X.K (By X.K (tPI0 X.K (iS (vr 1))) src (uX X (gN 0)) qh (zi (jv (qg 0) (jv (tC .non) wu))))
theorem Ci {eb tb ib:Expr}{p q1 pc lp pos:Pos}{jj:Nat}{sc:Scope}{N':List Str}{src:List (Option Nat)}{x1}(hu:X.A.units+8<cLine)(hc:X.calm=true)(hm:X.mg "dict" =none)(hg:Gl X "dict")(S:LcScope X sc N' src)(hi:vQ X tb ib (iS (vr 1)))
  (blk:∀cl C s₀ H₀ fp,yK (bn X sc cl N' C s₀ H₀ fp) tb (gN 0)/\PE (bn X sc cl N' C s₀ H₀ fp) eb (qg 0)/\bo eb=true) (hs:∀x,foldedSetIterable ib X.env x=pure x) :
  PE X (.Call (.Name "dict" p) [.ListComp (.Tuple [eb,.Constant .none jj pc] x1 q1) [⟨tb,ib,[],0⟩] sc lp] [] pos) (r9 X src):=
 PE.imp (qK hu hc hm (qJ hc S hi (λcl C s₀ H₀ fp=>⟨(blk cl C s₀ H₀ fp).1,oO,sk (dU (blk cl C s₀ H₀ fp).2.1 (dU wZ g9 (aU rfl)) (aU (blk cl C s₀ H₀ fp).2.2))⟩) hs) hg rfl) λσ H Q h=>tPI0.up h
theorem wH {src:List (Option Nat)}{σ:L2.St}{H:Hp}{Q:VK}{Z:En}{O:Ow}{l:List T}{kk:List (List Key)}(E:EnvO X.K O H Z σ)(hf:iS (vr 1) Z= .ok l)(hz:l.length<=1000)(hk:l.map aQ=kk.map some)(hn:kk.Nodup)(hs:0<src.length)
  (hq:∀d H',Same H H'->Nw X.K H d->H' d=some (.dT (fU kk))->Q (.ref d) H'):r9 X src σ H Q:=by
 have lk:l.length=kk.length:=by have:=congrArg List.length hk;rwa [List.length_map,List.length_map]at this
 unfold r9 on;refine rg (X:=X) (te:=tC .non) E (λR h=>⟨Z,O,E,by rw[hf];exact h⟩) hz hk hs (λ_ _ vs=> ∀v∈vs,v=V.non) (λ_ _ _ _ v h=>nomatch h) (λ_ _ _ _ _ h _ _=>h) (λt ht σ' H' O' D vs ys Q' _ acc _ k=>k _ H' (Same.refl H') λv hv=> ?_) λH1 D ys ps H' s1 nD s2 hD hp h1 h2=> ?_
 ·rcases List.mem_append.mp hv with z | z
  ·exact acc v z
  ·exact List.mem_singleton.mp z
 ·have e:ps=fU kk:=BG h1 h2
  refine⟨D,ys,ps,rfl,hD,by rw[hp.len,e];unfold fU;rw[List.length_map];omega,hp,λq nq=> ?_⟩
  have e2:dv [] ps=fU kk:=by rw[j0 ps [] (by rw[List.nil_append,h1];exact hn),List.nil_append,e]
  rw[e2];exact hq q _ ((s1.trans s2).trans (aO nq.1 _)) (jI (s1.trans s2) nq) aA
theorem qH {K:PySem.W.Frag}{O:Ow}{H:Hp}:∀(l:List T) (kk:List (List Key)),l.length=kk.length->Reps K O H (l.map λ_=>T.non) ((fU kk).map (·.2))
 | [],[],_=>Reps.nil_
 | _::l,_::kk,h=>Reps.cons_ Rep.non_ (qH l kk (by simpa using h))
 | [],_::_,h=>by simp at h
 | _::_,[],h=>by simp at h
theorem qE {K:PySem.W.Frag}{O:Ow}{H:Hp}{l:List T}{kk:List (List Key)}(hk:l.map aQ=kk.map some):∀{m:List T} {ds:List Addr},m.length=ds.length->(∀d∈ds,H d=some (.dT (fU kk)))->RowsR K O H (m.map λ_=>(l,l.map λ_=>T.non)) ds
 | [],[],_,_=>rfl
 | _::m,d::ds,h,hd=>⟨d,ds,fU kk,rfl,hd d List.mem_cons_self,by unfold fU;rw[List.map_map];exact hk,qH l kk (by have:=congrArg List.length hk;rwa [List.length_map,List.length_map]at this),qE hk (by simpa using h) λe he=>hd e (List.mem_cons_of_mem _ he)⟩
 | [],_::_,h,_=>by simp at h
 | _::_,[],h,_=>by simp at h
theorem uf:∀{l:List T},gp l=true->∃kk:List (List Key),l.map aQ=kk.map some
 | [],_=>⟨[],rfl⟩
 | t::l,h=>by
  unfold gp at h;rw[Bool.and_eq_true]at h;obtain⟨kk,e⟩:=uf h.2;obtain⟨k,ek⟩:=Option.isSome_iff_exists.mp h.1;exact⟨k::kk,by rw[List.map_cons,List.map_cons,ek,e]⟩
theorem wL (i j:Nat){x:Str}{ea r ta ia:Expr}{p q1 lp p2 p3 pos:Pos}{x1}{sc:Scope}{N':List Str}{src:List (Option Nat)}(hu:X.A.units+8<cLine)(hc:X.calm=true)(hm:X.mg "dict" =none)(hN:X.N.Nodup)
  (S:LcScope X sc N' [none,some j]) (hi:vQ X ta ia (iS (vr j))) (hsr:0<src.length)
  (blk:∀cl C s₀ H₀ fp,yK (bn X sc cl N' C s₀ H₀ fp) ta (gN 0)/\PE (bn X sc cl N' C s₀ H₀ fp) ea (qg 0)/\PE (bn X sc cl N' C s₀ H₀ fp) r (r9 X src)) (h1:bo ea=true:=by rfl) (h2:bo r=true:=by rfl)
  (hs:∀x,foldedSetIterable ia X.env x=pure x:=by intro _;rfl) (hg:Gl X "dict":=by rfl) (hix:X.N[i]? =some x:=by rfl) (hx:Loc X.env.scope x:=by first | exact Or.inl rfl | exact Or.inr rfl)
  (hsw:swapsWith (.Call (.Name "dict" p) [.ListComp (.Tuple [ea,r] x1 q1) [⟨ta,ia,[],0⟩] sc lp] [] p2) (some (.Name x p3)) pos.line X.env=pure false:=by rfl)
  (hf:X.fn x=true\/X.env.scope.names.lookup x=some .local:=by first | exact .inl rfl | exact .inr rfl | assumption) :
  mL X (.Assign [.Name x p3] (.Call (.Name "dict" p) [.ListComp (.Tuple [ea,r] x1 q1) [⟨ta,ia,[],0⟩] sc lp] [] p2) pos) (lL i j):=
 PS.imp (oM hN hix hx (qK hu hc hm (qJ (g:=uX X (gN 0)) (tc:=qh) (te:=zi (jv (qg 0) (jv (r9 X src) wu))) hc S hi (λcl C s₀ H₀ fp=>⟨(blk cl C s₀ H₀ fp).1,oO,sk (dU (blk cl C s₀ H₀ fp).2.1 (dU (blk cl C s₀ H₀ fp).2.2 g9 (aU h2)) (aU h1))⟩) hs) hg rfl) hsw hf) λD σ H hh_=>by
  obtain⟨Z,B,M,E,h⟩:=hh_;unfold lL at h
  cases qj:Z[j]? with
  | none=>rw[qj]at h;exact h.elim
  | some z=>
   rw[qj]at h
   match z,h,qj with
   | .va (.lst l),h,qj=>
    dsimp only at h
    by_cases hh:i<Z.length/\gp l=true/\(l.map aQ).Nodup/\l.length<=1000
    ·rw[if_pos hh]at h
     obtain⟨hl,hky,hnd,hz⟩:=hh;obtain⟨kk,hk⟩:=uf hky
     have lk:l.length=kk.length:=by have:=congrArg List.length hk;rwa [List.length_map,List.length_map]at this
     have hn:kk.Nodup:=by
      rw[hk]at hnd;exact(List.pairwise_map.mp hnd).imp λh z=>h (by rw[z])
     have fj:iS (vr j) Z= .ok l:=by unfold iS vr;rw[qj];rfl
     have hlc:bp [none,some j] Z= [.em,.va (.lst l)]:=by unfold bp;simp[qj]
     unfold wv on
     refine rg (X:=X) (te:=r9 X src) E.o (λR h=>⟨Z,OO B M,E.o,by rw[fj];exact h⟩) hz hk (by simp)
      (λH' D vs=>H D=none/\Same H H'/\∃ds:List Addr,vs=ds.map V.ref/\ds.Nodup/\∀d∈ds,Nw X.K H d/\H' d=some (.dT (fU kk)))
      (λH1 D s1 nD=>⟨(jI s1 nD).1,s1.trans (aO nD.1 _),[],rfl,List.nodup_nil,λd h=>nomatch h⟩)
      (λH1 H2 D vs ys ⟨c1,c2,ds,c3,c4,c5⟩ hD s=>⟨c1,(λb o e=>s b o (c2 b o e) (λz=>by rw[z,c1]at e;cases e)),ds,c3,c4,λd hd=>⟨(c5 d hd).1,s _ _ (c5 d hd).2 (hG (c5 d hd).2 hD (λz=>nomatch z))⟩⟩)
      (λt ht σ' H' O' D vs ys Q' E' ⟨c1,c2,ds,c3,c4,c5⟩ hD k=>wH (l:=l) (kk:=kk) ⟨noM,E'⟩ (by rw[hlc];rfl) hz hk hn hsr λd H'' s' nd hd=> ?_) λH1 D ys ps H' s1 nD s2 hD hp e1 ⟨c1,c2,ds,c3,c4,c5⟩=> ?_
     ·refine k _ H'' s' ⟨c1,c2.trans s',ds++ [d],by rw[c3,List.map_append];rfl,?_,λe he=> ?_⟩
      ·refine List.nodup_append.mpr ⟨c4,by simp,λu hu w hw=> ?_⟩
       rw[List.mem_singleton.mp hw];intro z
       have:=(c5 u hu).2;rw[z,nd.1]at this;cases this
      ·rcases List.mem_append.mp he with z | z
       ·exact⟨(c5 e z).1,s' _ _ (c5 e z).2⟩
       ·rw[List.mem_singleton.mp z]
        exact⟨jI c2 nd,hd⟩
     ·have hpl:ps.length=kk.length:=by rw[<-e1,List.length_map]
      refine⟨D,ys,ps,rfl,hD,by rw[hp.len];omega,hp,λq nq=> ?_⟩
      have e2:dv [] ps=ps:=by rw[j0 ps [] (by rw[List.nil_append,e1];exact hn),List.nil_append]
      rw[e2]
      have qd:q∉ds:=λz=>by have:=(c5 q z).2;rw[nq.1]at this;cases this
      have dl:ds.length=ps.length:=by have:=congrArg List.length c3;rw[List.length_map,List.length_map]at this;exact this.symm
      have hm':∀b,b=q\/b∈ds->Nw X.K H b:=λb z=>z.elim (λw=>w▸jI c2 nq) λw=>(c5 b w).1
      have sF:Same H (upd H' q (.dT ps)):=c2.trans (aO nq.1 _);obtain⟨E2,sub⟩:=E.new (m:=λb=>b=q\/b∈ds) (o:=.dd l (l.map λ_=>(l,l.map λ_=> .non))) (v:=.ref q) (H':=upd H' q (.dT ps)) hl hm' sF ⟨q,ps,ds,rfl,λb=>Iff.rfl,qd,c4,aA,by rw[hk,<-e1,List.map_map];rfl,c3,qE hk (by omega) λd hd=>by rw[ay (show d≠q from λz=>qd (z▸hd))];exact(c5 d hd).2⟩
      exact h _ _ _ (SameO.of sF) E2 sub
    ·rw[if_neg hh]at h;exact h.elim
   | .em,h,_=>exact h.elim
   | .ow _,h,_=>exact h.elim
   | .va .non,h,_=>exact h.elim
   | .va (.bl _),h,_=>exact h.elim
   | .va (.int _),h,_=>exact h.elim
   | .va (.str _),h,_=>exact h.elim
   | .va (.tup _),h,_=>exact h.elim
   | .va (.scr _),h,_=>exact h.elim
   | .va (.dct _ _),h,_=>exact h.elim
end
theorem uQ {X:Cx}(i j:Nat){x:Str}{ea r ta ia:Expr}{p q1 lp p2 p3 pos:Pos}{x1}{sc:Scope}{N':List Str}{src:List (Option Nat)}(hu:X.A.units+8<cLine)(hc:X.calm=true)(hm:X.mg "dict" =none)(hN:X.N.Nodup)
  (S:LcScope X sc N' [none,some j]) (hi:QI X ta ia (iS (vr j))) (hsr:0<src.length)
  (blk:∀cl C s₀ H₀ fp,QG (bn X sc cl N' C s₀ H₀ fp) ta (gN 0)/\PE (bn X sc cl N' C s₀ H₀ fp) ea (qg 0)/\PE (bn X sc cl N' C s₀ H₀ fp) r (r9 X src)) (h1:bo ea=true:=by rfl) (h2:bo r=true:=by rfl)
  (hs:∀x,foldedSetIterable ia X.env x=pure x:=by intro _;rfl) (hg:Gl X "dict":=by rfl) (hix:X.N[i]? =some x:=by rfl) (hx:Loc X.env.scope x:=by first | exact Or.inl rfl | exact Or.inr rfl)
  (hsw:swapsWith (.Call (.Name "dict" p) [.ListComp (.Tuple [ea,r] x1 q1) [⟨ta,ia,[],0⟩] sc lp] [] p2) (some (.Name x p3)) pos.line X.env=pure false:=by rfl)
  (hf:X.fn x=true\/X.env.scope.names.lookup x=some .local:=by first | exact .inl rfl | exact .inr rfl | assumption) :
  QS X (.Assign [.Name x p3] (.Call (.Name "dict" p) [.ListComp (.Tuple [ea,r] x1 q1) [⟨ta,ia,[],0⟩] sc lp] [] p2) pos) (lL i j):=
 ⟨wL i j hu hc hm hN S hi.h hsr (λcl C s₀ H₀ fp=>⟨(blk cl C s₀ H₀ fp).1.h,(blk cl C s₀ H₀ fp).2⟩) h1 h2 hs hg hix hx hsw hf⟩
theorem yX {X:Cx}{a b:Expr}{fs:En->Rs (List T)}{p p1 p2 pos:Pos}(hu:X.A.units+8<cLine)(hc:X.calm=true)(hm:X.mg "dict" =none)(hmz:X.mg "zip" =none)(ha:QA X [a,b] fs)(hst:bf [a,b] =true:=by rfl)(hg:Gl X "dict":=by rfl)(hgz:Gl X "zip":=by rfl) :
  QE X (.Call (.Name "dict" p) [.Call (.Name "zip" p1) [a,b] [] p2] [] pos) (cl EN fs):=⟨B5 hu hc hm hmz ha.h hst hg hgz⟩
theorem tw {X:Cx}{elt tg:Expr}{ifs:List Expr}{scope:Scope}{spos py pos pn:Pos}{N':List Str}{src:List (Option Nat)}{tgt:T->En->Rs En}{fc:En->Rs Bool}{fe:En->Rs T}(i j:Nat){y D:Str}
  (hc:X.calm=true) (S:LcScope X scope N' src) (block:∀cl C s₀ H₀ fp,QG (bn X scope cl N' C s₀ H₀ fp) tg tgt/\ET (bn X scope cl N' C s₀ H₀ fp) ifs fc/\QE (bn X scope cl N' C s₀ H₀ fp) elt fe)
  (hN:X.N.Nodup) (hD:X.N[i]? =some D:=by rfl) (hDv:rV X.env.scope D:=by first | exact Or.inl rfl | exact Or.inr (Or.inl rfl) | exact Or.inr (Or.inr rfl)) (hDd:(D == ("__debug__" : Str))=false:=by decide) (hDc:(D == ("__classdict__" : Str))=false:=by decide)
  (hiy:X.N[j]? =some y:=by rfl) (hy:Loc X.env.scope y:=by first | exact Or.inl rfl | exact Or.inr rfl) (hsw:swapsWith (.ListComp elt [⟨tg,.Name D pn,ifs,0⟩] scope pos) (some (.Name y py)) spos.line X.env=pure true:=by rfl)
  (hf:X.fn y=true\/X.env.scope.names.lookup y=some .local:=by first | exact .inl rfl | exact .inr rfl | assumption) (hs:∀x,foldedSetIterable (.Name D pn) X.env x=pure x:=by intro _;rfl) :
  QS X (.Assign [.Name y py] (.ListComp elt [⟨tg,.Name D pn,ifs,0⟩] scope pos) spos) (oF i j src tgt fc fe):=
 ⟨BT i j hc S (λa b c d e=>⟨(block a b c d e).1.h,(block a b c d e).2.1.h,(block a b c d e).2.2.h⟩) hN hD hDv hDd hDc hiy hy hsw hf hs⟩
theorem tz {X:Cx}{a b:Expr}{fs:En->Rs (List T)}{p pos:Pos}{elts:List Expr}{kk:Nat}{tpos:Pos}(hm:X.mg "zip" =none)(ha:QA X [a,b] fs)(hg:Gl X "zip":=by rfl)(hst:bf [a,b] =true:=by rfl) :
  QI X (.Tuple elts kk tpos) (.Call (.Name "zip" p) [a,b] [] pos) (iZ fs):=⟨BZ hm ha.h hg hst⟩
end Tr
namespace G
open PySem PySem.Spec PyProof.Rows L2 Tr
def top (i:Nat):Stmt:=PySem.Challenge.pw_farclocks_k21_whole_worlds.main.body.getD i (.Pass ⟨0,0,0,0⟩)
structure Bl (mg:Str->Option Value):Prop where
 b_all:mg "all" =none
 b_bool:mg "bool" =none
 b_dict:mg "dict" =none
 b_enumerate:mg "enumerate" =none
 b_int:mg "int" =none
 b_isinstance:mg "isinstance" =none
 b_len:mg "len" =none
 b_max:mg "max" =none
 b_min:mg "min" =none
 b_range:mg "range" =none
 b_tuple:mg "tuple" =none
 b_zip:mg "zip" =none
structure Cs (mg:Str->Option Value):Prop where
 MOST_CLOCKS:∃t,mg "MOST_CLOCKS" =some (.int 4 t)
 MOST_LETTERS:∃t,mg "MOST_LETTERS" =some (.int 8 t)
 MOST_READINGS:∃t,mg "MOST_READINGS" =some (.int 4 t)
 LAST_READING:∃t,mg "LAST_READING" =some (.int 99 t)
 SLOWEST:∃t,mg "SLOWEST" =some (.int 9 t)
 LONGEST:∃t,mg "LONGEST" =some (.int 999 t)
theorem pK:bootBuiltins "bool" =some (.type "bool"):=by decide+kernel
theorem kN:bootBuiltins "int" =some (.type "int"):=by decide+kernel
theorem bL:bootBuiltins "tuple" =some (.type "tuple"):=by decide+kernel
structure Xs (K:PySem.W.Frag)(mg:Str->Option Value)(C_NoRecord C_NoWorld C_ClockError:Addr):Prop where
 m_NoRecord:mg "NoRecord" =some (.ref C_NoRecord)
 m_NoWorld:mg "NoWorld" =some (.ref C_NoWorld)
 m_ClockError:mg "ClockError" =some (.ref C_ClockError)
 o_NoRecord:OX K C_NoRecord (.ref C_ClockError::uI)
 o_NoWorld:OX K C_NoWorld (.ref C_ClockError::uI)
 o_ClockError:OX K C_ClockError uI
 d:[C_NoRecord,C_NoWorld,C_ClockError].Nodup
end G
namespace G
open PySem Tr
def fw:En->Rs Fl:=
 (ar (eE (tb (o2 kX (vr 0) (cV ag))) (aM (o2 ca (cn (.int 7)) (vr 1))) sN) (aM (o2 aH (o2 aP (vr 0) (o2 jL (vr 1) (cl cF (ad (vr 0) ag)))) (o2 ca (cn (.int 6553)) (o2 jO (vr 1) (cl cF (ad (vr 0) ag)))))))
def ff:List T->Rs T:=val 2 2 fw
def d8:En->Rs Fl:=
 (ar (ce (o2 jL (o2 aH (o2 ca (o2 jL (cl ff (ad (vr 0) (ad (vr 1) ag))) (cn (.int 2147483563))) (cn (.int 69069))) (o2 ca (cn (.int 104723)) (o2 aH (vr 1) (cn (.int 1))))) (cn (.int 2147483563))) (gN 3)) (ar (ce (o2 jL (o2 aH (o2 ca (vr 3) (vr 3)) (o2 jO (vr 3) (cn (.int 3)))) (cn (.int 2147483399))) (gN 3)) (aM (o2 jL (o2 jO (o2 jL (o2 aH (o2 ca (vr 3) (vr 3)) (o2 jO (vr 3) (cn (.int 7)))) (cn (.int 2147483647))) (cn (.int 11))) (vr 2)))))
def aw:List T->Rs T:=val 3 4 d8
def eV:En->Rs Fl:=
 (ar (ce (cV ag) (gN 1)) (ar (di (iE (ad (vr 0) ag)) (gT 2 (cT (gN 2) (cT (gN 3) iO))) (ce (o2 aH (vr 1) (dP (iR (ad (cl cF (ad (o2 aP (vr 3) (cn (.int 2))) ag)) ag)) [none,some 2] (gN 0) bT (ba (ad (vr 1) (ad (vr 0) ag))))) (gN 1))) (aM (vr 1))))
def dy:List T->Rs T:=val 1 4 eV
def cw:En->Rs Fl:=
 (ar (ce (cl dy (ad (vr 2) ag)) (gN 3)) (ar (eE (tb (o2 rS (cl cF (ad (vr 3) ag)) (cn (.int 2)))) (aM (cn .non)) sN) (ar (ce (cl aw (ad (vr 0) (ad (vr 1) (ad (cl cF (ad (vr 3) ag)) ag)))) (gN 4)) (ar (ce (o2 jL (o2 aH (o2 aH (vr 4) (cn (.int 1))) (cl aw (ad (vr 0) (ad (o2 aH (vr 1) (cn (.int 1))) (ad (o2 bH (cl cF (ad (vr 3) ag)) (cn (.int 1))) ag))))) (cl cF (ad (vr 3) ag))) (gN 5)) (ar (ce (cl aw (ad (vr 0) (ad (o2 aH (vr 1) (cn (.int 2))) (ad (cn (.int 8)) ag)))) (gN 6)) (ar (ce (pU (tb (o2 kX (cl aw (ad (vr 0) (ad (o2 aH (vr 1) (cn (.int 3))) (ad (cn (.int 3)) ag)))) (cn (.int 0)))) (cn .non) (o2 aH (vr 6) (cl aw (ad (vr 0) (ad (o2 aH (vr 1) (cn (.int 4))) (ad (cn (.int 9)) ag)))))) (gN 7)) (aM (ba (ad (o2 aP (vr 3) (vr 4)) (ad (o2 aP (vr 3) (vr 5)) (ad (vr 6) (ad (vr 7) ag))))))))))))
def cO:List T->Rs T:=val 3 8 cw
def d9:En->Rs Fl:=
 (ar (ce (o2 aH (cn (.int 1)) (cl aw (ad (vr 0) (ad (vr 1) (ad (cn (.int 3)) ag))))) (gN 2)) (ar (ce (ba (ad (cl aw (ad (vr 0) (ad (o2 aH (vr 1) (cn (.int 2))) (ad (cn (.int 6)) ag)))) ag)) (gN 3)) (ar (di (iR (ad (cl aw (ad (vr 0) (ad (o2 aH (vr 1) (cn (.int 1))) (ad (cn (.int 3)) ag)))) ag)) (gN 4) (ce (o2 aH (vr 3) (ba (ad (o2 aH (o2 aH (o2 aP (vr 3) (o1 pd (cn (.int 1)))) (cn (.int 1))) (cl aw (ad (vr 0) (ad (o2 aH (o2 aH (vr 1) (cn (.int 3))) (vr 4)) (ad (cn (.int 5)) ag))))) ag))) (gN 3))) (aM (ba (ad (vr 2) (ad (o2 aH (vr 2) (cl aw (ad (vr 0) (ad (o2 aH (vr 1) (cn (.int 6))) (ad (cn (.int 3)) ag))))) (ad (vr 3) ag))))))))
def cj:List T->Rs T:=val 2 5 d9
def dC:En->Rs Fl:=
 (ar (ce (cl eC (ad (dP (iR (ad (o2 aH (cn (.int 1)) (cl aw (ad (vr 0) (ad (vr 1) (ad (cn (.int 3)) ag))))) ag)) [none,some 0,some 1] (gN 0) bT (cl cj (ad (vr 1) (ad (o2 aH (o2 aH (vr 2) (cn (.int 1))) (o2 ca (cn (.int 8)) (vr 0))) ag)))) ag)) (gN 3)) (ar (ce (cV ag) (gN 4)) (ar (di (iR (ad (cl aw (ad (vr 0) (ad (o2 aH (vr 1) (cn (.int 30))) (ad (o2 aH (vr 2) (cn (.int 1))) ag)))) ag)) (gN 5) (ar (ce (cl cO (ad (vr 0) (ad (o2 aH (o2 aH (vr 1) (cn (.int 31))) (o2 ca (cn (.int 6)) (vr 5))) (ad (vr 3) ag)))) (gN 6)) (ce (o2 aH (vr 4) (o2 ca (cV (ad (vr 6) ag)) (cl xX (ad (o2 du (vr 6) (cn .non)) ag)))) (gN 4)))) (aM (ba (ad (vr 3) (ad (cl eC (ad (vr 4) ag)) ag)))))))
def eQ:List T->Rs T:=val 3 7 dC
def iK:En->Rs Fl:=
 (aM (bM (o1 (At "tuple") (vr 0)) (ch vY vY (vr 1) (cl cF (ad (vr 0) ag)) (vr 2))))
def aJ:List T->Rs T:=val 3 3 iK
def jr:En->Rs Fl:=
 (aM (bM (o1 (At "int") (vr 0)) (o1 vg (o1 (At "bool") (vr 0)))))
def eF:List T->Rs T:=val 1 1 jr
def fo:En->Rs Fl:=
 (aM (bM (cl eF (ad (vr 0) ag)) (ch vY vY (vr 1) (vr 0) (vr 2))))
def aV:List T->Rs T:=val 3 3 fo
def gt:En->Rs Fl:=
 (aM (bM (cl aV (ad (vr 0) (ad (cn (.int 1)) (ad (cn (.int 9)) ag)))) (cl aV (ad (vr 1) (ad (vr 0) (ad (cn (.int 9)) ag))))))
def fJ:List T->Rs T:=val 2 2 gt
def lu:En->Rs Fl:=
 (aM (cl mJ (ad (dP (iR (ad (o2 bH (cl cF (ad (vr 0) ag)) (cn (.int 1))) ag)) [none,some 0] (gN 0) bT (o2 rS (o2 aP (vr 1) (vr 0)) (o2 aP (vr 1) (o2 aH (vr 0) (cn (.int 1)))))) ag)))
def iF:List T->Rs T:=val 1 1 lu
def cE:En->Rs Fl:=
 (ar (eE (dk (tb (cl aJ (ad (vr 0) (ad (cn (.int 1)) (ad (cn (.int 4)) ag)))))) (aM (cn (.bl false))) sN) (aM (bM (cl mJ (ad (dP (iS (vr 0)) [none] (gN 0) bT (cl aV (ad (vr 0) (ad (cn (.int 0)) (ad (cn (.int 99)) ag))))) ag)) (cl iF (ad (vr 0) ag)))))
def bA:List T->Rs T:=val 1 1 cE
def eK:En->Rs Fl:=
 (aM (bM (cl aJ (ad (vr 0) (ad (cn (.int 3)) (ad (cn (.int 3)) ag)))) (bM (cl fJ (ad (o2 aP (vr 0) (cn (.int 0))) (ad (o2 aP (vr 0) (cn (.int 1))) ag))) (cl bA (ad (o2 aP (vr 0) (cn (.int 2))) ag)))))
def da:List T->Rs T:=val 1 1 eK
def d6:En->Rs Fl:=
 (aM (bM (cl aJ (ad (vr 0) (ad (cn (.int 1)) (ad (cn (.int 4)) ag)))) (cl mJ (ad (dP (iS (vr 0)) [none] (gN 0) bT (cl da (ad (vr 0) ag))) ag))))
def dn:List T->Rs T:=val 1 1 d6
def eI:En->Rs Fl:=
 (ar (eE (jU (dk (tb (cl aJ (ad (vr 1) (ad (cn (.int 2)) (ad (cn (.int 2)) ag)))))) (dk (tb (cl aV (ad (o2 aP (vr 1) (cn (.int 0))) (ad (cn (.int 0)) (ad (o2 bH (cl cF (ad (vr 0) ag)) (cn (.int 1))) ag))))))) (aM (cn (.bl false))) sN) (aM (cl aV (ad (o2 aP (vr 1) (cn (.int 1))) (ad (cn (.int 0)) (ad (o2 bH (cl cF (ad (o2 aP (o2 aP (vr 0) (o2 aP (vr 1) (cn (.int 0)))) (cn (.int 2))) ag)) (cn (.int 1))) ag))))))
def cZ:List T->Rs T:=val 2 2 eI
def eJ:En->Rs Fl:=
 (aM (bM (cl aV (ad (vr 0) (ad (cn (.int 0)) (ad (cn (.int 999)) ag)))) (yQ (o2 gG (vr 1) (cn .non)) (cl aV (ad (vr 1) (ad (vr 0) (ad (cn (.int 999)) ag)))))))
def dH:List T->Rs T:=val 2 2 eJ
def cG:En->Rs Fl:=
 (ar (eE (jU (dk (tb (cl aJ (ad (vr 1) (ad (cn (.int 4)) (ad (cn (.int 4)) ag)))))) (dk (tb (cl dH (ad (o2 aP (vr 1) (cn (.int 2))) (ad (o2 aP (vr 1) (cn (.int 3))) ag)))))) (aM (cn (.bl false))) sN) (aM (bM (cl cZ (ad (vr 0) (ad (o2 aP (vr 1) (cn (.int 0))) ag))) (bM (cl cZ (ad (vr 0) (ad (o2 aP (vr 1) (cn (.int 1))) ag))) (o2 k9 (o2 aP (vr 1) (cn (.int 0))) (o2 aP (vr 1) (cn (.int 1))))))))
def bK:List T->Rs T:=val 2 2 cG
def dB:En->Rs Fl:=
 (aM (bM (cl aJ (ad (vr 1) (ad (cn (.int 0)) (ad (cn (.int 8)) ag)))) (cl mJ (ad (dP (iS (vr 1)) [none,some 0] (gN 0) bT (cl bK (ad (vr 1) (ad (vr 0) ag)))) ag))))
def cN:List T->Rs T:=val 2 2 dB
def dO:En->Rs Fl:=
 (aM (bM (cl aJ (ad (vr 0) (ad (cn (.int 2)) (ad (cn (.int 2)) ag)))) (bM (cl dn (ad (o2 aP (vr 0) (cn (.int 0))) ag)) (cl cN (ad (o2 aP (vr 0) (cn (.int 0))) (ad (o2 aP (vr 0) (cn (.int 1))) ag))))))
def cY:List T->Rs T:=val 1 1 dO
def dA:En->Rs Fl:=
 (eE (dk (tb (cl cY (ad (vr 0) ag)))) (zq "NoRecord") sN)
def cM:List T->Rs T:=val 1 1 dA
def iq:En->Rs Fl:=
 (ar (BE (cl cM (ad (vr 0) ag))) (ar (g8 1 ag) (ar (di (iE (ad (o2 aP (vr 0) (cn (.int 0))) ag)) (gT 2 (cT (gN 2) (cT (gN 3) iO))) (lM 1 (dP (iR (ad (cl cF (ad (o2 aP (vr 3) (cn (.int 2))) ag)) ag)) [none,some 2] (gN 0) bT (ba (ad (vr 1) (ad (vr 0) ag)))))) (kP 1 (aM (vr 1))))))
def de:List T->Rs T:=val 1 4 iq
def dD:En->Rs Fl:=
 (ar (g8 1 ag) (ar (di (iE (ad (o2 aP (vr 0) (cn (.int 0))) ag)) (gT 2 (cT (gN 2) (cT (gT 3 (cT (gN 3) (cT (gN 4) (cT (gN 5) iO)))) iO))) (di (iR (ad (cn (.int 1)) (ad (cl cF (ad (vr 5) ag)) ag))) (gN 6) (ar (ce (o2 bH (o2 aP (vr 5) (vr 6)) (o2 aP (vr 5) (o2 bH (vr 6) (cn (.int 1))))) (gN 7)) (ar (gR 1 (ba (ad (ba (ad (vr 2) (ad (o2 bH (vr 6) (cn (.int 1))) ag))) (ad (ba (ad (vr 2) (ad (vr 6) ag))) (ad (o2 ca (vr 4) (vr 7)) ag))))) (gR 1 (ba (ad (ba (ad (vr 2) (ad (vr 6) ag))) (ad (ba (ad (vr 2) (ad (o2 bH (vr 6) (cn (.int 1))) ag))) (ad (o2 bH (cn (.int 0)) (o2 ca (vr 3) (vr 7))) ag))))))))) (ar (di (iS (o2 aP (vr 0) (cn (.int 1)))) (gT 4 (cT (gN 8) (cT (gN 9) (cT (gN 10) (cT (gN 11) iO))))) (ar (gR 1 (ba (ad (vr 9) (ad (vr 8) (ad (o2 bH (cn (.int 0)) (vr 10)) ag))))) (eE (tb (o2 du (vr 11) (cn .non))) (gR 1 (ba (ad (vr 8) (ad (vr 9) (ad (vr 11) ag))))) sN))) (kP 1 (aM (vr 1))))))
def eR:List T->Rs T:=val 1 12 dD
def d7:En->Rs Fl:=
 (ar (lL 2 0) (ar (di (iS (vr 0)) (gN 3) (gL 2 (vr 3) (vr 3) (cn (.int 0)))) (ar (di (iS (vr 1)) (gT 3 (cT (gN 3) (cT (gN 4) (cT (gN 5) iO)))) (eE (jU (tb (o2 gG (ln 2 (o2 aL (o2 aL (vr 2) (vr 3)) (vr 4))) (cn .non))) (tb (o2 rS (vr 5) (ln 2 (o2 aL (o2 aL (vr 2) (vr 3)) (vr 4)))))) (gL 2 (vr 3) (vr 4) (vr 5)) sN)) (ar (di (iS (vr 0)) (gN 6) (di (iS (vr 0)) (gN 3) (di (iS (vr 0)) (gN 4) (eE (k4 (tb (o2 du (ln 2 (o2 aL (o2 aL (vr 2) (vr 3)) (vr 6))) (cn .non))) (tb (o2 du (ln 2 (o2 aL (o2 aL (vr 2) (vr 6)) (vr 4))) (cn .non)))) (ar (ce (o2 aH (ln 2 (o2 aL (o2 aL (vr 2) (vr 3)) (vr 6))) (ln 2 (o2 aL (o2 aL (vr 2) (vr 6)) (vr 4)))) (gN 7)) (eE (jU (tb (o2 gG (ln 2 (o2 aL (o2 aL (vr 2) (vr 3)) (vr 4))) (cn .non))) (tb (o2 rS (vr 7) (ln 2 (o2 aL (o2 aL (vr 2) (vr 3)) (vr 4)))))) (gL 2 (vr 3) (vr 4) (vr 7)) sN)) sN)))) (kP 2 (aM (pU (tb (o2 kX (dP (iS (vr 0)) [none,some 2] (gN 0) (tb (o2 rS (o2 aL (o2 aL (vr 1) (vr 0)) (vr 0)) (cn (.int 0)))) (vr 0)) (cV ag))) (vr 2) (cn .non))))))))
def fF:List T->Rs T:=val 2 8 d7
def bW:En->Rs Fl:=
 (ar (oE 5) (ar (di (iE (ad (vr 2) ag)) (gT 2 (cT (gN 6) (cT (gN 7) iO))) (ar (oF 5 8 [none,some 5,some 4,some 7] (gN 0) (tb (o2 du (o2 aL (o2 aL (vr 2) (vr 0)) (vr 3)) (cn .non))) (o2 aH (o2 aL (vr 1) (vr 0)) (o2 aL (o2 aL (vr 2) (vr 0)) (vr 3)))) (ar (oF 5 9 [none,some 5,some 4,some 7] (gN 0) (tb (o2 du (o2 aL (o2 aL (vr 2) (vr 3)) (vr 0)) (cn .non))) (o2 bH (o2 aL (vr 1) (vr 0)) (o2 aL (o2 aL (vr 2) (vr 3)) (vr 0)))) (ar (ce (pU (tb (o2 k9 (vr 9) (cV ag))) (cl m5 (ad (vr 9) ag)) (pU (tb (o2 k9 (vr 8) (cV ag))) (o2 bH (cl m4 (ad (vr 8) ag)) (cn (.int 5))) (cn (.int 0)))) (gN 10)) (ar (ce (pU (tb (o2 k9 (vr 8) (cV ag))) (cl m4 (ad (vr 8) ag)) (o2 aH (vr 10) (cn (.int 5)))) (gN 11)) (mT 5 (vr 7) (o2 aH (vr 10) (cl aw (ad (vr 0) (ad (o2 aH (vr 1) (vr 6)) (ad (o2 aH (o2 bH (vr 11) (vr 10)) (cn (.int 1))) ag))))))))))) (aM (cl eC (ad (ln 5 (dP (iS (vr 2)) [none,some 5] (gN 0) bT (o2 aL (vr 1) (vr 0)))) ag)))))
def bR:List T->Rs T:=val 5 12 bW
def fq:En->Rs Fl:=
 (ar (ce (oD gP (vr 0) (o2 aP (vr 1) (cn (.int 1)))) (gN 3)) (aM (yQ (o2 gG (vr 3) (cn .non)) (o2 rS (o2 aH (o2 aP (vr 2) (cn (.int 0))) (o2 aP (vr 1) (cn (.int 2)))) (o2 aP (vr 3) (cn (.int 0)))))))
def db:List T->Rs T:=val 3 4 fq
def gc:En->Rs Fl:=
 (ar (nu 2 (dP (iS (vr 1)) [none] (gN 0) bT (ba (ad (vr 0) (ad (ba (ad (cn (.int 0)) (ad (cV ag) ag))) ag))))) (ar (ce (cn (.bl true)) (gN 3)) (ar (bz (tb (vr 3)) (ar (ce (cn (.bl false)) (gN 3)) (di (iE (ad (vr 0) ag)) (gT 2 (cT (gN 4) (cT (gN 5) iO))) (ar (ce (ln 2 (oD gP (vr 2) (o2 aP (vr 5) (cn (.int 0))))) (gN 6)) (ar (eE (jU (tb (o2 gG (vr 6) (cn .non))) (dk (CD 2 (tb (cl db (ad (vr 2) (ad (vr 5) (ad (vr 6) ag)))))))) A5 sN) (ar (ce (o2 aH (o2 aP (vr 6) (cn (.int 1))) (cV (ad (vr 4) ag))) (gN 7)) (ar (ce (dP (iS (vr 7)) [none,some 0] (gN 0) bT (o2 aP (o2 aP (vr 1) (vr 0)) (cn (.int 0)))) (gN 8)) (ar (eE (tb (o2 Du (o2 aP (vr 5) (cn (.int 1))) (vr 8))) (aM (ba (ad (cn .non) (ad (sl (vr 7) (pS (oL cm (vr 8) (o2 aP (vr 5) (cn (.int 1))))) pN) ag)))) sN) (ar (mT 2 (o2 aP (vr 5) (cn (.int 1))) (ba (ad (o2 aH (o2 aP (vr 6) (cn (.int 0))) (o2 aP (vr 5) (cn (.int 2)))) (ad (vr 7) ag)))) (ce (cn (.bl true)) (gN 3)))))))))) FU) (kP 2 (aM (ba (ad (vr 2) (ad (cn .non) ag))))))))
def hU:List T->Rs T:=val 2 9 gc
def cD:En->Rs Fl:=
 (ar (ce (cl de (ad (vr 0) ag)) (gN 2)) (ar (ce (o2 aP (cl hU (ad (vr 1) (ad (vr 2) ag))) (cn (.int 0))) (gN 3)) (ar (eE (tb (o2 gG (vr 3) (cn .non))) (aM (cn .non)) sN) (aM (cl eC (ad (dP (iS (vr 2)) [none,some 3] (gN 0) bT (o2 aP (o2 aL (vr 1) (vr 0)) (cn (.int 0)))) ag))))))
def dm:List T->Rs T:=val 2 4 cD
def cu:En->Rs Fl:=
 (ar (ce (o2 aP (vr 1) (cn (.int 2))) (gN 2)) (ar (g8 3 ag) (ar (di (iR (ad (o2 bH (cl cF (ad (vr 2) ag)) (cn (.int 1))) ag)) (gN 4) (ar (ce (ba (ad (vr 0) (ad (vr 4) ag))) (gN 5)) (ar (ce (ba (ad (vr 0) (ad (o2 aH (vr 4) (cn (.int 1))) ag))) (gN 6)) (ar (ce (o2 bH (o2 aP (vr 2) (o2 aH (vr 4) (cn (.int 1)))) (o2 aP (vr 2) (vr 4))) (gN 7)) (ar (gR 3 (ba (ad (vr 5) (ad (vr 6) (ad (o2 ca (vr 7) (o2 aP (vr 1) (cn (.int 1)))) ag))))) (gR 3 (ba (ad (vr 6) (ad (vr 5) (ad (o2 ca (o1 pd (vr 7)) (o2 aP (vr 1) (cn (.int 0)))) ag)))))))))) (kP 3 (aM (vr 3))))))
def ci:List T->Rs T:=val 2 8 cu
def bV:En->Rs Fl:=
 (ar (g8 1 (ad (ba (ad (o2 aP (vr 0) (cn (.int 1))) (ad (o2 aP (vr 0) (cn (.int 0))) (ad (o1 pd (o2 aP (vr 0) (cn (.int 2)))) ag)))) ag)) (ar (eE (tb (o2 du (o2 aP (vr 0) (cn (.int 3))) (cn .non))) (gR 1 (ba (ad (o2 aP (vr 0) (cn (.int 0))) (ad (o2 aP (vr 0) (cn (.int 1))) (ad (o2 aP (vr 0) (cn (.int 3))) ag))))) sN) (kP 1 (aM (vr 1)))))
def bQ:List T->Rs T:=val 1 2 bV
def iu:En->Rs Fl:=
 (ar (BE (cl cM (ad (vr 0) ag))) (ar (g8 1 ag) (ar (di (iE (ad (o2 aP (vr 0) (cn (.int 0))) ag)) (gT 2 (cT (gN 2) (cT (gN 3) iO))) (lM 1 (cl ci (ad (vr 2) (ad (vr 3) ag))))) (ar (di (iS (o2 aP (vr 0) (cn (.int 1)))) (gN 4) (lM 1 (cl bQ (ad (vr 4) ag)))) (kP 1 (aM (vr 1)))))))
def fV:List T->Rs T:=val 1 5 iu
def pQ:En->Rs Fl:=
 (aM (cl dm (ad (vr 0) (ad (cl fV (ad (vr 0) ag)) ag))))
def fE:List T->Rs T:=val 1 1 pQ
def ft:En->Rs Fl:=
 (ar (ce (cl cF (ad (cl de (ad (vr 0) ag)) ag)) (gN 2)) (aM (bM (cl aJ (ad (vr 1) (ad (vr 2) (ad (vr 2) ag)))) (cl mJ (ad (dP (iS (vr 1)) [none] (gN 0) bT (cl eF (ad (vr 0) ag))) ag)))))
def gg:List T->Rs T:=val 2 3 ft
def pR:En->Rs Fl:=
 (aM (o2 vY (o2 bH (o2 aL (vr 1) (o2 aP (vr 0) (cn (.int 1)))) (o2 aL (vr 1) (o2 aP (vr 0) (cn (.int 0))))) (o2 aP (vr 0) (cn (.int 2)))))
def lb:List T->Rs T:=val 2 2 pR
def ir:En->Rs Fl:=
 (ar (ce (cl EN (ad (cl de (ad (vr 0) ag)) (ad (vr 1) ag))) (gN 2)) (aM (dP (iE (ad (cl fV (ad (vr 0) ag)) ag)) [none,none,some 2] (gT 2 (cT (gN 0) (cT (gN 1) iO))) (dk (tb (cl lb (ad (vr 1) (ad (vr 2) ag))))) (vr 0))))
def cK:List T->Rs T:=val 2 3 ir
def jq:En->Rs Fl:=
 (aM (bM (cl gg (ad (vr 0) (ad (vr 1) ag))) (o2 kX (cl cK (ad (vr 0) (ad (vr 1) ag))) (cV ag))))
def bP:List T->Rs T:=val 2 2 jq
def gd:En->Rs Fl:=
 (ar (eE (dk (tb (cl bP (ad (vr 0) (ad (vr 1) ag))))) (zq "NoWorld") sN) (aM (cl eC (ad (dP (iS (vr 1)) [none,some 2] (gN 0) bT (o2 aH (vr 0) (vr 1))) ag))))
def dG:List T->Rs T:=val 3 3 gd
def ip:En->Rs Fl:=
 (aM (o2 du (cl fE (ad (vr 0) ag)) (cn .non)))
def gf:List T->Rs T:=val 1 1 ip
def yN:En->Rs Fl:=
 (ar (ce (cl eQ (ad (vr 0) (ad (cn (.int 0)) (ad (cn (.int 5)) ag)))) (gN 1)) (ar (ce (cl de (ad (vr 1) ag)) (gN 2)) (ar (ce (cl eR (ad (vr 1) ag)) (gN 3)) (ar (ce (cl fF (ad (vr 2) (ad (vr 3) ag))) (gN 4)) (ar (eE (tb (o2 gG (vr 4) (cn .non))) (aM (bM (o1 vg (cl gf (ad (vr 1) ag))) (o2 gG (cl fE (ad (vr 1) ag)) (cn .non)))) sN) (ar (ce (cl bR (ad (vr 0) (ad (cn (.int 80)) (ad (vr 2) (ad (vr 3) (ad (vr 4) ag)))))) (gN 5)) (ar (ce (cl bR (ad (vr 0) (ad (cn (.int 100)) (ad (vr 2) (ad (vr 3) (ad (vr 4) ag)))))) (gN 6)) (ar (ce (cl eC (ad (dP (iZ (ad (vr 5) (ad (vr 6) ag))) [none,none] (gT 2 (cT (gN 0) (cT (gN 1) iO))) bT (cl m5 (ad (vr 0) (ad (vr 1) ag)))) ag)) (gN 7)) (ar (ce (cl eC (ad (dP (iZ (ad (vr 5) (ad (vr 6) ag))) [none,none] (gT 2 (cT (gN 0) (cT (gN 1) iO))) bT (cl m4 (ad (vr 0) (ad (vr 1) ag)))) ag)) (gN 8)) (ar (ce (cl fE (ad (vr 1) ag)) (gN 9)) (ar (di (iS (ba (ad (vr 5) (ad (vr 6) (ad (vr 7) (ad (vr 8) (ad (vr 9) ag))))))) (gN 10) (ar (eE (jU (dk (tb (cl bP (ad (vr 1) (ad (vr 10) ag))))) (tb (o2 k9 (cl cK (ad (vr 1) (ad (vr 10) ag))) (cV ag)))) (aM (cn (.bl false))) sN) (ar (ce (cl dG (ad (vr 1) (ad (vr 10) (ad (o2 bH (cn (.int 0)) (cl vk (ad (vr 10) ag))) ag)))) (gN 11)) (ar (eE (jU (tb (o2 k9 (dP (iR (ad (cl cF (ad (vr 2) ag)) ag)) [none,some 11,some 9] (gN 0) (tb (o2 EH (o2 aP (vr 1) (vr 0)) (o2 aP (vr 2) (vr 0)))) (vr 0)) (cV ag))) (dk (tb (cl bP (ad (vr 1) (ad (vr 11) ag)))))) (aM (cn (.bl false))) sN) (ar (di (iR (ad (cn (.int 1)) (ad (cl cF (ad (vr 2) ag)) ag))) (gN 12) (eE (k4 (tb (o2 kX (o2 aP (o2 aP (vr 2) (vr 12)) (cn (.int 0))) (o2 aP (o2 aP (vr 2) (o2 bH (vr 12) (cn (.int 1)))) (cn (.int 0))))) (tb (o2 vY (o2 aP (vr 10) (vr 12)) (o2 aP (vr 10) (o2 bH (vr 12) (cn (.int 1))))))) (aM (cn (.bl false))) sN)) (di (iE (ad (vr 3) ag)) (gT 2 (cT (gN 13) (cT (gT 3 (cT (gN 14) (cT (gN 15) (cT (gN 16) iO)))) iO))) (ar (ce (oL cm (vr 2) (vr 15)) (gN 17)) (ar (ce (o2 aH (o2 aH (o2 aP (vr 10) (oL cm (vr 2) (vr 14))) (vr 16)) (cn (.int 1))) (gN 18)) (ar (ce (o2 aH (o2 aH (sl (vr 10) pN (pS (vr 17))) (ba (ad (vr 18) ag))) (sl (vr 10) (pS (o2 aH (vr 17) (cn (.int 1)))) pN)) (gN 19)) (eE (tb (o2 jh (vr 13) (cl cK (ad (vr 1) (ad (vr 19) ag))))) (aM (cn (.bl false))) sN)))))))))) (aM (bM (o2 kX (cl vk (ad (vr 9) ag)) (cn (.int 0))) (o2 kX (cl dG (ad (vr 1) (ad (cl dG (ad (vr 1) (ad (vr 5) (ad (cn (.int 5)) ag)))) (ad (o1 pd (cn (.int 5))) ag)))) (vr 5)))))))))))))))
def m_law:List T->Rs T:=val 1 20 yN
end G
namespace G
open PySem PySem.Spec PyProof.Rows L2 Tr
section
variable {P:Program}{w:World}{K:PySem.W.Frag}{mg:Str->Option Value}{base:Heap}
abbrev jB:Stmt:=top 43
theorem oC:aG ["_law_script","_law_k"] ["_law_script","_law_k"] (aj jB):=⟨rfl,rfl,rfl,by decide+kernel,rfl,by decide+kernel,by decide+kernel⟩
theorem o4 (F:gQ K mg "_law_cell" jB ["_law_script","_law_k"])(B:Bl mg):Cl P w K mg base 1 "_law_cell" 2 ff:=
 bu F oC rfl λf cdv A outer s H E hr xe=>(ak (cA (aX (lP (kj hr)) (ac 0) (ez af)) (al (aB (ao dj ai (ac 1)))) bB) (al (aB (ao aK (aI (ac 0) (ao jd (ac 1) (cg dh B.b_len boot_len (ae (ac 0) af)))) (ao dj ai (ao k8 (ac 1) (cg dh B.b_len boot_len (ae (ac 0) af))))))))
abbrev iX:Stmt:=top 44
theorem sc__law_drawn:aG ["_law_script","_law_k","_law_many","_law_cell_here"] ["_law_script","_law_k","_law_many"] (aj iX):=⟨rfl,rfl,rfl,by decide+kernel,rfl,by decide+kernel,by decide+kernel⟩
theorem mY (F:gQ K mg "_law_drawn" iX ["_law_script","_law_k","_law_many"])(c__law_cell:Cl P w K mg base 1 "_law_cell" 2 ff):Cl P w K mg base 2 "_law_drawn" 3 aw:=
 bu F sc__law_drawn rfl λf cdv A outer s H E hr xe=>(by(refine @ak _ _ _ _ _ ?_ ?_;(focus exact(aE (ao jd (ao aK (ao dj (ao jd (aS c__law_cell hr (ae (ac 0) (ae (ac 1) af))) ai) ai) (ao dj ai (ao aK (ac 1) ai))) ai) (ah 3 sc__law_drawn.nd)));refine @ak _ _ _ _ _ ?_ ?_;(focus exact(aE (ao jd (ao aK (ao dj (ac 3) (ac 3)) (ao k8 (ac 3) ai)) ai) (ah 3 sc__law_drawn.nd)));exact al (aB (ao jd (ao k8 (ao jd (ao aK (ao dj (ac 3) (ac 3)) (ao k8 (ac 3) ai)) ai) ai) (ac 2)))))
abbrev fS:Stmt:=top 47
theorem sc__law_events:aG ["_law_clocks","_law_found","_law_number","_law_clock_here"] ["_law_clocks"] (aj fS):=⟨rfl,rfl,rfl,by decide+kernel,rfl,by decide+kernel,by decide+kernel⟩
theorem lU (F:gQ K mg "_law_events" fS ["_law_clocks"])(B:Bl mg):Cl P w K mg base 1 "_law_events" 1 dy:=
 bu F sc__law_events rfl λf cdv A outer s H E hr xe=>(by(refine @ak _ _ _ _ _ ?_ ?_;(focus exact(aE (ez af) (ah 1 sc__law_events.nd)));refine @ak _ _ _ _ _ ?_ ?_;(focus exact(bD rfl (eX B.b_enumerate (ae (ac 0) af)) (cU rfl (aF (ah 2 sc__law_events.nd) (aF (ah 3 sc__law_events.nd) cf))) (al (aE (ao aK (ac 1) (eY (N':=["_law_place","_law_number"]) (src:=[none,some 2]) rfl (LcScope.by (N:=["_law_clocks","_law_found","_law_number","_law_clock_here"]) (names:=(aj fS).names) rfl rfl rfl (by decide+kernel)) (cW B.b_range (ae (cg dh B.b_len boot_len (ae (aI (ac 3) ai) af)) af)) (λ_ _ _ _ _=>⟨(ah 0 (show List.Nodup (["_law_place","_law_number"]:List Str)by decide+kernel)),bN,(bq (ae (ac 1) (ae (ac 0) af)))⟩))) (ah 1 sc__law_events.nd)))));exact al (aB (ac 1))))
abbrev gY:Stmt:=top 46
theorem sc__law_letter:aG ["_law_script","_law_at","_law_clocks","_law_row","_law_place","_law_other","_law_least","_law_most"] ["_law_script","_law_at","_law_clocks"] (aj gY):=⟨rfl,rfl,rfl,by decide+kernel,rfl,by decide+kernel,by decide+kernel⟩
theorem lT (F:gQ K mg "_law_letter" gY ["_law_script","_law_at","_law_clocks"])(c__law_events:Cl P w K mg base 1 "_law_events" 1 dy)(c__law_drawn:Cl P w K mg base 2 "_law_drawn" 3 aw)(B:Bl mg):Cl P w K mg base 3 "_law_letter" 3 cO:=
 bu F sc__law_letter rfl λf cdv A outer s H E hr xe=>(by(refine @ak _ _ _ _ _ ?_ ?_;(focus exact(aE (aS c__law_events hr (ae (ac 2) af)) (ah 3 sc__law_letter.nd)));refine @ak _ _ _ _ _ ?_ ?_;(focus exact(cA (aX nA (cg dh B.b_len boot_len (ae (ac 3) af)) ai) (al (aB cb)) bB));refine @ak _ _ _ _ _ ?_ ?_;(focus exact(aE (aS c__law_drawn hr (ae (ac 0) (ae (ac 1) (ae (cg dh B.b_len boot_len (ae (ac 3) af)) af)))) (ah 4 sc__law_letter.nd)));refine @ak _ _ _ _ _ ?_ ?_;(focus exact(aE (ao jd (ao aK (ao aK (ac 4) ai) (aS c__law_drawn hr (ae (ac 0) (ae (ao aK (ac 1) ai) (ae (ao cI (cg dh B.b_len boot_len (ae (ac 3) af)) ai) af))))) (cg dh B.b_len boot_len (ae (ac 3) af))) (ah 5 sc__law_letter.nd)));refine @ak _ _ _ _ _ ?_ ?_;(focus exact(aE (aS c__law_drawn hr (ae (ac 0) (ae (ao aK (ac 1) ai) (ae ai af)))) (ah 6 sc__law_letter.nd)));refine @ak _ _ _ _ _ ?_ ?_;(focus exact(aE (pY (aX (lP (kj hr)) (aS c__law_drawn hr (ae (ac 0) (ae (ao aK (ac 1) ai) (ae ai af)))) ai) cb (ao aK (ac 6) (aS c__law_drawn hr (ae (ac 0) (ae (ao aK (ac 1) ai) (ae ai af)))))) (ah 7 sc__law_letter.nd)));exact al (aB (bq (ae (aI (ac 3) (ac 4)) (ae (aI (ac 3) (ac 5)) (ae (ac 6) (ae (ac 7) af))))))))
abbrev iY:Stmt:=top 45
theorem sc__law_clock:aG ["_law_script","_law_at","_law_slow","_law_readings","_law_k"] ["_law_script","_law_at"] (aj iY):=⟨rfl,rfl,rfl,by decide+kernel,rfl,by decide+kernel,by decide+kernel⟩
theorem mZ (F:gQ K mg "_law_clock" iY ["_law_script","_law_at"])(c__law_drawn:Cl P w K mg base 2 "_law_drawn" 3 aw)(B:Bl mg):Cl P w K mg base 3 "_law_clock" 2 cj:=
 bu F sc__law_clock rfl λf cdv A outer s H E hr xe=>(by(refine @ak _ _ _ _ _ ?_ ?_;(focus exact(aE (ao aK ai (aS c__law_drawn hr (ae (ac 0) (ae (ac 1) (ae ai af))))) (ah 2 sc__law_clock.nd)));refine @ak _ _ _ _ _ ?_ ?_;(focus exact(aE (bq (ae (aS c__law_drawn hr (ae (ac 0) (ae (ao aK (ac 1) ai) (ae ai af)))) af)) (ah 3 sc__law_clock.nd)));refine @ak _ _ _ _ _ ?_ ?_;(focus exact(bD rfl (cW B.b_range (ae (aS c__law_drawn hr (ae (ac 0) (ae (ao aK (ac 1) ai) (ae ai af)))) af)) (ah 4 sc__law_clock.nd) (al (aE (ao aK (ac 3) (bq (ae (ao aK (ao aK (aI (ac 3) (ol ai)) ai) (aS c__law_drawn hr (ae (ac 0) (ae (ao aK (ao aK (ac 1) ai) (ac 4)) (ae ai af))))) af))) (ah 3 sc__law_clock.nd)))));exact al (aB (bq (ae (ac 2) (ae (ao aK (ac 2) (aS c__law_drawn hr (ae (ac 0) (ae (ao aK (ac 1) ai) (ae ai af))))) (ae (ac 3) af)))))))
abbrev fR:Stmt:=top 48
theorem sc__law_record:aG ["_law_script","_law_at","_law_most","_law_clocks","_law_letters","_law_k","_law_letter_here"] ["_law_script","_law_at","_law_most"] (aj fR):=⟨rfl,rfl,rfl,by decide+kernel,rfl,by decide+kernel,by decide+kernel⟩
theorem lS (F:gQ K mg "_law_record" fR ["_law_script","_law_at","_law_most"])(c__law_drawn:Cl P w K mg base 2 "_law_drawn" 3 aw)(c__law_letter:Cl P w K mg base 3 "_law_letter" 3 cO)(c__law_clock:Cl P w K mg base 3 "_law_clock" 2 cj)(B:Bl mg):Cl P w K mg base 4 "_law_record" 3 eQ:=
 bu F sc__law_record rfl λf cdv A outer s H E hr xe=>(by(refine @ak _ _ _ _ _ ?_ ?_;(focus exact(aE (kA f9 B.b_tuple bL (ae (eY (N':=["_law_k","_law_script","_law_at"]) (src:=[none,some 0,some 1]) rfl (LcScope.by (N:=["_law_script","_law_at","_law_most","_law_clocks","_law_letters","_law_k","_law_letter_here"]) (names:=(aj fR).names) rfl rfl rfl (by decide+kernel)) (cW B.b_range (ae (ao aK ai (aS c__law_drawn hr (ae (ac 0) (ae (ac 1) (ae ai af))))) af)) (λ_ _ _ _ _=>⟨(ah 0 (show List.Nodup (["_law_k","_law_script","_law_at"]:List Str)by decide+kernel)),bN,(aS c__law_clock hr (ae (ac 1) (ae (ao aK (ao aK (ac 2) ai) (ao dj ai (ac 0))) af)))⟩)) af)) (ah 3 sc__law_record.nd)));refine @ak _ _ _ _ _ ?_ ?_;(focus exact(aE (ez af) (ah 4 sc__law_record.nd)));refine @ak _ _ _ _ _ ?_ ?_;(focus exact(bD rfl (cW B.b_range (ae (aS c__law_drawn hr (ae (ac 0) (ae (ao aK (ac 1) ai) (ae (ao aK (ac 2) ai) af)))) af)) (ah 5 sc__law_record.nd) (ak (aE (aS c__law_letter hr (ae (ac 0) (ae (ao aK (ao aK (ac 1) ai) (ao dj ai (ac 5))) (ae (ac 3) af)))) (ah 6 sc__law_record.nd)) (al (aE (ao aK (ac 4) (ao dj (ez (ae (ac 6) af)) (kA Dl B.b_int kN (ae (fx e9 (ac 6) cb) af)))) (ah 4 sc__law_record.nd))))));exact al (aB (bq (ae (ac 3) (ae (kA f9 B.b_tuple bL (ae (ac 4) af)) af))))))
abbrev lG:Stmt:=top 13
theorem sh:aG ["thing","least","most"] ["thing","least","most"] (aj lG):=⟨rfl,rfl,rfl,by decide+kernel,rfl,by decide+kernel,by decide+kernel⟩
theorem sA (F:gQ K mg "is_long" lG ["thing","least","most"])(B:Bl mg):Cl P w K mg base 1 "is_long" 3 aJ:=
 bu F sh rfl λf cdv A outer s H E hr xe=>(al (aB (cP (v7 B.b_isinstance B.b_tuple bL (ac 0)) (cX (pZ nB nB (ac 1) (cg dh B.b_len boot_len (ae (ac 0) af)) (ac 2))))))
abbrev kE:Stmt:=top 11
theorem qy:aG ["thing"] ["thing"] (aj kE):=⟨rfl,rfl,rfl,by decide+kernel,rfl,by decide+kernel,by decide+kernel⟩
theorem qN (F:gQ K mg "is_whole" kE ["thing"])(B:Bl mg):Cl P w K mg base 1 "is_whole" 1 eF:=
 bu F qy rfl λf cdv A outer s H E hr xe=>(al (aB (cP (v7 B.b_isinstance B.b_int kN (ac 0)) (cX (v6 (v7 B.b_isinstance B.b_bool pK (ac 0)))))))
abbrev jw:Stmt:=top 12
theorem ox:aG ["thing","least","most"] ["thing","least","most"] (aj jw):=⟨rfl,rfl,rfl,by decide+kernel,rfl,by decide+kernel,by decide+kernel⟩
theorem oS (F:gQ K mg "is_within" jw ["thing","least","most"])(c_is_whole:Cl P w K mg base 1 "is_whole" 1 eF):Cl P w K mg base 2 "is_within" 3 aV:=
 bu F ox rfl λf cdv A outer s H E hr xe=>(al (aB (cP (aS c_is_whole hr (ae (ac 0) af)) (cX (pZ nB nB (ac 1) (ac 0) (ac 2))))))
abbrev lF:Stmt:=top 16
theorem sg:aG ["slow","fast"] ["slow","fast"] (aj lF):=⟨rfl,rfl,rfl,by decide+kernel,rfl,by decide+kernel,by decide+kernel⟩
theorem sy (F:gQ K mg "is_pace" lF ["slow","fast"])(c_is_within:Cl P w K mg base 2 "is_within" 3 aV)(C:Cs mg):Cl P w K mg base 3 "is_pace" 2 fJ:=
 bu F sg rfl λf cdv A outer s H E hr xe=>(al (aB (cP (aS c_is_within hr (ae (ac 0) (ae ai (ae (pX C.SLOWEST) af)))) (cX (aS c_is_within hr (ae (ac 1) (ae (ac 0) (ae (pX C.SLOWEST) af))))))))
abbrev lD:Stmt:=top 14
theorem wB:aG ["numbers"] ["numbers"] (aj lD):=⟨rfl,rfl,rfl,by decide+kernel,rfl,by decide+kernel,by decide+kernel⟩
theorem xj (F:gQ K mg "rises" lD ["numbers"])(B:Bl mg):Cl P w K mg base 1 "rises" 1 iF:=
 bu F wB rfl λf cdv A outer s H E hr xe=>(al (aB (cg (mz rfl) B.b_all boot_all (ae (eY (N':=["k","numbers"]) (src:=[none,some 0]) rfl (LcScope.by (N:=["numbers"]) (names:=(aj lD).names) rfl rfl rfl (by decide+kernel)) (cW B.b_range (ae (ao cI (cg dh B.b_len boot_len (ae (ac 0) af)) ai) af)) (λ_ _ _ _ _=>⟨(ah 0 (show List.Nodup (["k","numbers"]:List Str)by decide+kernel)),bN,(fx nA (aI (ac 1) (ac 0)) (aI (ac 1) (ao aK (ac 0) ai)))⟩)) af))))
abbrev fy:Stmt:=top 15
theorem kO:aG ["thing"] ["thing"] (aj fy):=⟨rfl,rfl,rfl,by decide+kernel,rfl,by decide+kernel,by decide+kernel⟩
theorem kR (F:gQ K mg "are_readings" fy ["thing"])(c_is_long:Cl P w K mg base 1 "is_long" 3 aJ)(c_rises:Cl P w K mg base 1 "rises" 1 iF)(c_is_within:Cl P w K mg base 2 "is_within" 3 aV)(B:Bl mg)(C:Cs mg):Cl P w K mg base 3 "are_readings" 1 bA:=
 bu F kO rfl λf cdv A outer s H E hr xe=>(ak (cA (dQ (dE (aS c_is_long hr (ae (ac 0) (ae ai (ae (pX C.MOST_READINGS) af)))))) (al (aB iQ)) bB) (al (aB (cP (cg (mz rfl) B.b_all boot_all (ae (eY (N':=["part"]) (src:=[none]) rfl (LcScope.by (N:=["thing"]) (names:=(aj fy).names) rfl rfl rfl (by decide+kernel)) (bF (ac 0)) (λ_ _ _ _ _=>⟨(ah 0 (show List.Nodup (["part"]:List Str)by decide+kernel)),bN,(aS c_is_within hr (ae (ac 0) (ae ai (ae (pX C.LAST_READING) af))))⟩)) af)) (cX (aS c_rises hr (ae (ac 0) af)))))))
abbrev kH:Stmt:=top 17
theorem qB:aG ["thing"] ["thing"] (aj kH):=⟨rfl,rfl,rfl,by decide+kernel,rfl,by decide+kernel,by decide+kernel⟩
theorem qQ (F:gQ K mg "is_clock" kH ["thing"])(c_is_long:Cl P w K mg base 1 "is_long" 3 aJ)(c_is_pace:Cl P w K mg base 3 "is_pace" 2 fJ)(c_are_readings:Cl P w K mg base 3 "are_readings" 1 bA):Cl P w K mg base 4 "is_clock" 1 da:=
 bu F qB rfl λf cdv A outer s H E hr xe=>(al (aB (cP (aS c_is_long hr (ae (ac 0) (ae ai (ae ai af)))) (cP (aS c_is_pace hr (ae (aI (ac 0) ai) (ae (aI (ac 0) ai) af))) (cX (aS c_are_readings hr (ae (aI (ac 0) ai) af)))))))
abbrev gj:Stmt:=top 18
theorem mS:aG ["thing"] ["thing"] (aj gj):=⟨rfl,rfl,rfl,by decide+kernel,rfl,by decide+kernel,by decide+kernel⟩
theorem mW (F:gQ K mg "are_clocks" gj ["thing"])(c_is_long:Cl P w K mg base 1 "is_long" 3 aJ)(c_is_clock:Cl P w K mg base 4 "is_clock" 1 da)(B:Bl mg)(C:Cs mg):Cl P w K mg base 5 "are_clocks" 1 dn:=
 bu F mS rfl λf cdv A outer s H E hr xe=>(al (aB (cP (aS c_is_long hr (ae (ac 0) (ae ai (ae (pX C.MOST_CLOCKS) af)))) (cX (cg (mz rfl) B.b_all boot_all (ae (eY (N':=["part"]) (src:=[none]) rfl (LcScope.by (N:=["thing"]) (names:=(aj gj).names) rfl rfl rfl (by decide+kernel)) (bF (ac 0)) (λ_ _ _ _ _=>⟨(ah 0 (show List.Nodup (["part"]:List Str)by decide+kernel)),bN,(aS c_is_clock hr (ae (ac 0) af))⟩)) af))))))
abbrev kF:Stmt:=top 19
theorem qz:aG ["clocks","thing"] ["clocks","thing"] (aj kF):=⟨rfl,rfl,rfl,by decide+kernel,rfl,by decide+kernel,by decide+kernel⟩
theorem qO (F:gQ K mg "is_event" kF ["clocks","thing"])(c_is_within:Cl P w K mg base 2 "is_within" 3 aV)(c_is_long:Cl P w K mg base 1 "is_long" 3 aJ)(B:Bl mg):Cl P w K mg base 3 "is_event" 2 cZ:=
 bu F qz rfl λf cdv A outer s H E hr xe=>(ak (cA (jt (ja (dQ (dE (aS c_is_long hr (ae (ac 1) (ae ai (ae ai af)))))) (gu (dQ (dE (aS c_is_within hr (ae (aI (ac 1) ai) (ae ai (ae (ao cI (cg dh B.b_len boot_len (ae (ac 0) af)) ai) af))))))))) (al (aB iQ)) bB) (al (aB (aS c_is_within hr (ae (aI (ac 1) ai) (ae ai (ae (ao cI (cg dh B.b_len boot_len (ae (aI (aI (ac 0) (aI (ac 1) ai)) ai) af)) ai) af)))))))
abbrev kG:Stmt:=top 20
theorem qA:aG ["least","most"] ["least","most"] (aj kG):=⟨rfl,rfl,rfl,by decide+kernel,rfl,by decide+kernel,by decide+kernel⟩
theorem qP (F:gQ K mg "is_delay" kG ["least","most"])(c_is_within:Cl P w K mg base 2 "is_within" 3 aV)(C:Cs mg):Cl P w K mg base 3 "is_delay" 2 dH:=
 bu F qA rfl λf cdv A outer s H E hr xe=>(al (aB (cP (aS c_is_within hr (ae (ac 0) (ae ai (ae (pX C.LONGEST) af)))) (cX (AU (fx kI (ac 1) cb) (cX (aS c_is_within hr (ae (ac 1) (ae (ac 0) (ae (pX C.LONGEST) af))))))))))
abbrev jy:Stmt:=top 21
theorem oA:aG ["clocks","thing"] ["clocks","thing"] (aj jy):=⟨rfl,rfl,rfl,by decide+kernel,rfl,by decide+kernel,by decide+kernel⟩
theorem oV (F:gQ K mg "is_letter" jy ["clocks","thing"])(c_is_event:Cl P w K mg base 3 "is_event" 2 cZ)(c_is_long:Cl P w K mg base 1 "is_long" 3 aJ)(c_is_delay:Cl P w K mg base 3 "is_delay" 2 dH):Cl P w K mg base 4 "is_letter" 2 bK:=
 bu F oA rfl λf cdv A outer s H E hr xe=>(ak (cA (jt (ja (dQ (dE (aS c_is_long hr (ae (ac 1) (ae ai (ae ai af)))))) (gu (dQ (dE (aS c_is_delay hr (ae (aI (ac 1) ai) (ae (aI (ac 1) ai) af)))))))) (al (aB iQ)) bB) (al (aB (cP (aS c_is_event hr (ae (ac 0) (ae (aI (ac 1) ai) af))) (cP (aS c_is_event hr (ae (ac 0) (ae (aI (ac 1) ai) af))) (cX (fx (ny (kj hr)) (aI (ac 1) ai) (aI (ac 1) ai))))))))
abbrev fQ:Stmt:=top 22
theorem lK:aG ["clocks","thing"] ["clocks","thing"] (aj fQ):=⟨rfl,rfl,rfl,by decide+kernel,rfl,by decide+kernel,by decide+kernel⟩
theorem lR (F:gQ K mg "are_letters" fQ ["clocks","thing"])(c_is_long:Cl P w K mg base 1 "is_long" 3 aJ)(c_is_letter:Cl P w K mg base 4 "is_letter" 2 bK)(B:Bl mg)(C:Cs mg):Cl P w K mg base 5 "are_letters" 2 cN:=
 bu F lK rfl λf cdv A outer s H E hr xe=>(al (aB (cP (aS c_is_long hr (ae (ac 1) (ae ai (ae (pX C.MOST_LETTERS) af)))) (cX (cg (mz rfl) B.b_all boot_all (ae (eY (N':=["part","clocks"]) (src:=[none,some 0]) rfl (LcScope.by (N:=["clocks","thing"]) (names:=(aj fQ).names) rfl rfl rfl (by decide+kernel)) (bF (ac 1)) (λ_ _ _ _ _=>⟨(ah 0 (show List.Nodup (["part","clocks"]:List Str)by decide+kernel)),bN,(aS c_is_letter hr (ae (ac 1) (ae (ac 0) af)))⟩)) af))))))
abbrev jx:Stmt:=top 23
theorem oy:aG ["thing"] ["thing"] (aj jx):=⟨rfl,rfl,rfl,by decide+kernel,rfl,by decide+kernel,by decide+kernel⟩
theorem oU (F:gQ K mg "is_record" jx ["thing"])(c_is_long:Cl P w K mg base 1 "is_long" 3 aJ)(c_are_clocks:Cl P w K mg base 5 "are_clocks" 1 dn)(c_are_letters:Cl P w K mg base 5 "are_letters" 2 cN):Cl P w K mg base 6 "is_record" 1 cY:=
 bu F oy rfl λf cdv A outer s H E hr xe=>(al (aB (cP (aS c_is_long hr (ae (ac 0) (ae ai (ae ai af)))) (cP (aS c_are_clocks hr (ae (aI (ac 0) ai) af)) (cX (aS c_are_letters hr (ae (aI (ac 0) ai) (ae (aI (ac 0) ai) af))))))))
abbrev gW:Stmt:=top 24
theorem lJ:aG ["thing"] ["thing"] (aj gW):=⟨rfl,rfl,rfl,by decide+kernel,rfl,by decide+kernel,by decide+kernel⟩
theorem lQ (F:gQ K mg "need_record" gW ["thing"])(c_is_record:Cl P w K mg base 6 "is_record" 1 cY){C_NoRecord C_NoWorld C_ClockError:Addr}(S:Xs K mg C_NoRecord C_NoWorld C_ClockError):Cl P w K mg base 7 "need_record" 1 cM:=
 bu F lJ rfl λf cdv A outer s H E hr xe=>(al (cA (dQ (dE (aS c_is_record hr (ae (ac 0) af)))) (al (m9 S.o_NoRecord S.m_NoRecord)) bB))
abbrev jX:Stmt:=top 25
theorem sc_events:aG ["record","told","number","clock"] ["record"] (aj jX):=⟨rfl,rfl,rfl,by decide+kernel,rfl,by decide+kernel,by decide+kernel⟩
theorem u9 (F:gQ K mg "events" jX ["record"])(c_need_record:Cl P w K mg base 7 "need_record" 1 cM)(B:Bl mg):Cl P w K mg base 8 "events" 1 de:=
 bu F sc_events rfl λf cdv A outer s H E hr xe=>(by(refine @ak _ _ _ _ _ ?_ ?_;(focus exact(pW (aS c_need_record hr (ae (ac 0) af))));refine @ak _ _ _ _ _ ?_ ?_;(focus exact(gS 1 sc_events.nd af));refine @ak _ _ _ _ _ ?_ ?_;(focus exact(bD rfl (eX B.b_enumerate (ae (aI (ac 0) ai) af)) (cU rfl (aF (ah 2 sc_events.nd) (aF (ah 3 sc_events.nd) cf))) (al (oj 1 (eY (N':=["k","number"]) (src:=[none,some 2]) rfl (LcScope.by (N:=["record","told","number","clock"]) (names:=(aj jX).names) rfl rfl rfl (by decide+kernel)) (cW B.b_range (ae (cg dh B.b_len boot_len (ae (aI (ac 3) ai) af)) af)) (λ_ _ _ _ _=>⟨(ah 0 (show List.Nodup (["k","number"]:List Str)by decide+kernel)),bN,(bq (ae (ac 1) (ae (ac 0) af)))⟩))))));exact al (gv 1 (aB (ac 1)))))
abbrev gZ:Stmt:=top 49
theorem sc__law_bounds:aG ["_law_record_here","_law_found","_law_number","_law_slow","_law_fast","_law_readings","_law_k","_law_steps","_law_one","_law_other","_law_least","_law_most"] ["_law_record_here"] (aj gZ):=⟨rfl,rfl,rfl,by decide+kernel,rfl,by decide+kernel,by decide+kernel⟩
theorem lV (F:gQ K mg "_law_bounds" gZ ["_law_record_here"])(B:Bl mg):Cl P w K mg base 1 "_law_bounds" 1 eR:=
 bu F sc__law_bounds rfl λf cdv A outer s H E hr xe=>(by(refine @ak _ _ _ _ _ ?_ ?_;(focus exact(gS 1 sc__law_bounds.nd af));refine @ak _ _ _ _ _ ?_ ?_;(focus exact(bD rfl (eX B.b_enumerate (ae (aI (ac 0) ai) af)) (cU rfl (aF (ah 2 sc__law_bounds.nd) (aF (cU rfl (aF (ah 3 sc__law_bounds.nd) (aF (ah 4 sc__law_bounds.nd) (aF (ah 5 sc__law_bounds.nd) cf)))) cf))) (al (bD rfl (ly B.b_range (ae ai (ae (cg dh B.b_len boot_len (ae (ac 5) af)) af))) (ah 6 sc__law_bounds.nd) (by(refine @ak _ _ _ _ _ ?_ ?_;(focus exact(aE (ao cI (aI (ac 5) (ac 6)) (aI (ac 5) (ao cI (ac 6) ai))) (ah 7 sc__law_bounds.nd)));refine @ak _ _ _ _ _ ?_ ?_;(focus exact(gw 1 (bq (ae (bq (ae (ac 2) (ae (ao cI (ac 6) ai) af))) (ae (bq (ae (ac 2) (ae (ac 6) af))) (ae (ao dj (ac 4) (ac 7)) af))))));exact al (gw 1 (bq (ae (bq (ae (ac 2) (ae (ac 6) af))) (ae (bq (ae (ac 2) (ae (ao cI (ac 6) ai) af))) (ae (ao cI ai (ao dj (ac 3) (ac 7))) af)))))))))));refine @ak _ _ _ _ _ ?_ ?_;(focus exact(bD rfl (bF (aI (ac 0) ai)) (cU rfl (aF (ah 8 sc__law_bounds.nd) (aF (ah 9 sc__law_bounds.nd) (aF (ah 10 sc__law_bounds.nd) (aF (ah 11 sc__law_bounds.nd) cf))))) (ak (gw 1 (bq (ae (ac 9) (ae (ac 8) (ae (ao cI ai (ac 10)) af))))) (al (cA (aX e9 (ac 11) cb) (al (gw 1 (bq (ae (ac 8) (ae (ac 9) (ae (ac 11) af)))))) bB)))));exact al (gv 1 (aB (ac 1)))))
abbrev eO:Stmt:=top 50
theorem sc__law_table:aG ["_law_places","_law_row","_law_far","_law_one","_law_other","_law_most","_law_middle","_law_whole"] ["_law_places","_law_row"] (aj eO):=⟨rfl,rfl,rfl,by decide+kernel,rfl,by decide+kernel,by decide+kernel⟩
theorem mX (F:gQ K mg "_law_table" eO ["_law_places","_law_row"])(B:Bl mg):Cl P w K mg base 1 "_law_table" 2 fF:=
 bu F sc__law_table rfl λf cdv A outer s H E hr xe=>(by(refine @ak _ _ _ _ _ ?_ ?_;(focus exact(uQ 2 0 (N':=["_law_one","_law_places"]) (src:=[none]) (Fi hr) rfl B.b_dict sc__law_table.nd (LcScope.by (N:=["_law_places","_law_row","_law_far","_law_one","_law_other","_law_most","_law_middle","_law_whole"]) (names:=(aj eO).names) rfl rfl rfl (by decide+kernel)) (bF (ac 0)) (by decide) (λ_ _ _ _ _=>⟨(ah 0 (show List.Nodup (["_law_one","_law_places"]:List Str)by decide+kernel)),pv 0,Ci (Fi hr) rfl B.b_dict rfl (LcScope.byN (N:=["_law_one","_law_places"]) (N':=["_law_other"]) rfl rfl (by decide+kernel) rfl) (bF (ac 1)).h (λ_ _ _ _ _=>⟨(ah 0 (show List.Nodup (["_law_other"]:List Str)by decide+kernel)).h,pv 0,rfl⟩) (λ_=>rfl)⟩)));refine @ak _ _ _ _ _ ?_ ?_;(focus exact(bD rfl (bF (ac 0)) (ah 3 sc__law_table.nd) (al (lv 2 (gH hr) (ac 3) (ac 3) ai))));refine @ak _ _ _ _ _ ?_ ?_;(focus exact(bD rfl (bF (ac 1)) (cU rfl (aF (ah 3 sc__law_table.nd) (aF (ah 4 sc__law_table.nd) (aF (ah 5 sc__law_table.nd) cf)))) (al (cA (jt (ja (aX kI (iP 2 (bc (gH hr) (bc (gH hr) (ac 2) (ac 3)) (ac 4))) cb) (gu (aX nA (ac 5) (iP 2 (bc (gH hr) (bc (gH hr) (ac 2) (ac 3)) (ac 4))))))) (al (lv 2 (gH hr) (ac 3) (ac 4) (ac 5))) bB))));refine @ak _ _ _ _ _ ?_ ?_;(focus exact(bD rfl (bF (ac 0)) (ah 6 sc__law_table.nd) (al (bD rfl (bF (ac 0)) (ah 3 sc__law_table.nd) (al (bD rfl (bF (ac 0)) (ah 4 sc__law_table.nd) (al (cA (jt (tp (aX e9 (iP 2 (bc (gH hr) (bc (gH hr) (ac 2) (ac 3)) (ac 6))) cb) (pV (aX e9 (iP 2 (bc (gH hr) (bc (gH hr) (ac 2) (ac 6)) (ac 4))) cb)))) (ak (aE (ao aK (iP 2 (bc (gH hr) (bc (gH hr) (ac 2) (ac 3)) (ac 6))) (iP 2 (bc (gH hr) (bc (gH hr) (ac 2) (ac 6)) (ac 4)))) (ah 7 sc__law_table.nd)) (al (cA (jt (ja (aX kI (iP 2 (bc (gH hr) (bc (gH hr) (ac 2) (ac 3)) (ac 4))) cb) (gu (aX nA (ac 7) (iP 2 (bc (gH hr) (bc (gH hr) (ac 2) (ac 3)) (ac 4))))))) (al (lv 2 (gH hr) (ac 3) (ac 4) (ac 7))) bB))) bB))))))));exact al (gv 2 (aB (pY (aX (lP (kj hr)) (eY (N':=["_law_one","_law_far"]) (src:=[none,some 2]) rfl (LcScope.by (N:=["_law_places","_law_row","_law_far","_law_one","_law_other","_law_most","_law_middle","_law_whole"]) (names:=(aj eO).names) rfl rfl rfl (by decide+kernel)) (bF (ac 0)) (λ_ _ _ _ _=>⟨(ah 0 (show List.Nodup (["_law_one","_law_far"]:List Str)by decide+kernel)),(gU (aX nA (bc (gH hr) (bc (gH hr) (ac 1) (ac 0)) (ac 0)) ai)),(ac 0)⟩)) (ez af)) (ac 2) cb)))))
abbrev bJ:Stmt:=top 52
theorem sc__law_drawn_world:aG ["_law_script","_law_at","_law_places","_law_row","_law_table_here","_law_times","_law_k","_law_event","_law_highs","_law_lows","_law_low","_law_high"] ["_law_script","_law_at","_law_places","_law_row","_law_table_here"] (aj bJ):=⟨rfl,rfl,rfl,by decide+kernel,rfl,by decide+kernel,by decide+kernel⟩
theorem iN (F:gQ K mg "_law_drawn_world" bJ ["_law_script","_law_at","_law_places","_law_row","_law_table_here"])(c__law_drawn:Cl P w K mg base 2 "_law_drawn" 3 aw)(B:Bl mg):Cl P w K mg base 3 "_law_drawn_world" 5 bR:=
 bu F sc__law_drawn_world rfl λf cdv A outer s H E hr xe=>(by(refine @ak _ _ _ _ _ ?_ ?_;(focus exact(uR 5 sc__law_drawn_world.nd));refine @ak _ _ _ _ _ ?_ ?_;(focus exact(bD rfl (eX B.b_enumerate (ae (ac 2) af)) (cU rfl (aF (ah 6 sc__law_drawn_world.nd) (aF (ah 7 sc__law_drawn_world.nd) cf))) (by(refine @ak _ _ _ _ _ ?_ ?_;(focus exact(tw 5 8 (N':=["_law_one","_law_times","_law_table_here","_law_event"]) (src:=[none,some 5,some 4,some 7]) rfl (LcScope.by (N:=["_law_script","_law_at","_law_places","_law_row","_law_table_here","_law_times","_law_k","_law_event","_law_highs","_law_lows","_law_low","_law_high"]) (names:=(aj bJ).names) rfl rfl rfl (by decide+kernel))  (λ_ _ _ _ _=>⟨(ah 0 (show List.Nodup (["_law_one","_law_times","_law_table_here","_law_event"]:List Str)by decide+kernel)),(gU (aX e9 (bc (gH hr) (bc (gH hr) (ac 2) (ac 0)) (ac 3)) cb)),(ao aK (bc (gH hr) (ac 1) (ac 0)) (bc (gH hr) (bc (gH hr) (ac 2) (ac 0)) (ac 3)))⟩) sc__law_drawn_world.nd));refine @ak _ _ _ _ _ ?_ ?_;(focus exact(tw 5 9 (N':=["_law_one","_law_times","_law_table_here","_law_event"]) (src:=[none,some 5,some 4,some 7]) rfl (LcScope.by (N:=["_law_script","_law_at","_law_places","_law_row","_law_table_here","_law_times","_law_k","_law_event","_law_highs","_law_lows","_law_low","_law_high"]) (names:=(aj bJ).names) rfl rfl rfl (by decide+kernel))  (λ_ _ _ _ _=>⟨(ah 0 (show List.Nodup (["_law_one","_law_times","_law_table_here","_law_event"]:List Str)by decide+kernel)),(gU (aX e9 (bc (gH hr) (bc (gH hr) (ac 2) (ac 3)) (ac 0)) cb)),(ao cI (bc (gH hr) (ac 1) (ac 0)) (bc (gH hr) (bc (gH hr) (ac 2) (ac 3)) (ac 0)))⟩) sc__law_drawn_world.nd));refine @ak _ _ _ _ _ ?_ ?_;(focus exact(aE (pY (aX (ny (kj hr)) (ac 9) (ez af)) (cg (sU rfl) B.b_max boot_max (ae (ac 9) af)) (pY (aX (ny (kj hr)) (ac 8) (ez af)) (ao cI (cg (sT rfl) B.b_min boot_min (ae (ac 8) af)) ai) ai)) (ah 10 sc__law_drawn_world.nd)));refine @ak _ _ _ _ _ ?_ ?_;(focus exact(aE (pY (aX (ny (kj hr)) (ac 8) (ez af)) (cg (sT rfl) B.b_min boot_min (ae (ac 8) af)) (ao aK (ac 10) ai)) (ah 11 sc__law_drawn_world.nd)));exact al (tq 5 (gH hr) (ac 7) (ao aK (ac 10) (aS c__law_drawn hr (ae (ac 0) (ae (ao aK (ac 1) (ac 6)) (ae (ao aK (ao cI (ac 11) (ac 10)) ai) af))))))))));exact al (aB (kA f9 B.b_tuple bL (ae (iP 5 (eY (N':=["_law_event","_law_times"]) (src:=[none,some 5]) rfl (LcScope.by (N:=["_law_script","_law_at","_law_places","_law_row","_law_table_here","_law_times","_law_k","_law_event","_law_highs","_law_lows","_law_low","_law_high"]) (names:=(aj bJ).names) rfl rfl rfl (by decide+kernel)) (bF (ac 2)) (λ_ _ _ _ _=>⟨(ah 0 (show List.Nodup (["_law_event","_law_times"]:List Str)by decide+kernel)),bN,(bc (gH hr) (ac 1) (ac 0))⟩))) af)))))
abbrev jz:Stmt:=top 36
theorem sc_is_better:aG ["best","bound","ahead","known"] ["best","bound","ahead"] (aj jz):=⟨rfl,rfl,rfl,by decide+kernel,rfl,by decide+kernel,by decide+kernel⟩
theorem oX (F:gQ K mg "is_better" jz ["best","bound","ahead"]):Cl P w K mg base 1 "is_better" 3 db:=
 bu F sc_is_better rfl λf cdv A outer s H E hr xe=>(ak (aE (tD (gH hr) (ac 0) (aI (ac 1) ai)) (ah 3 sc_is_better.nd)) (al (aB (AU (fx kI (ac 3) cb) (cX (fx nA (ao aK (aI (ac 2) ai) (aI (ac 1) ai)) (aI (ac 3) ai)))))))
abbrev iy:Stmt:=top 35
theorem sc_settle:aG ["limits","starts","best","moved","number","bound","ahead","walk","passed"] ["limits","starts"] (aj iy):=⟨rfl,rfl,rfl,by decide+kernel,rfl,by decide+kernel,by decide+kernel⟩
theorem u8 (F:gQ K mg "settle" iy ["limits","starts"])(c_is_better:Cl P w K mg base 1 "is_better" 3 db)(B:Bl mg):Cl P w K mg base 2 "settle" 2 hU:=
 bu F sc_settle rfl λf cdv A outer s H E hr xe=>(by(refine @ak _ _ _ _ _ ?_ ?_;(focus exact(v5 2 (Fi hr) rfl B.b_dict sc_settle.nd (eY (N':=["event"]) (src:=[none]) rfl (LcScope.by (N:=["limits","starts","best","moved","number","bound","ahead","walk","passed"]) (names:=(aj iy).names) rfl rfl rfl (by decide+kernel)) (bF (ac 1)) (λ_ _ _ _ _=>⟨(ah 0 (show List.Nodup (["event"]:List Str)by decide+kernel)),bN,(bq (ae (ac 0) (ae (bq (ae ai (ae (ez af) af))) af)))⟩))));refine @ak _ _ _ _ _ ?_ ?_;(focus exact(aE iQ (ah 3 sc_settle.nd)));refine @ak _ _ _ _ _ ?_ ?_;(focus exact(uP FU (dE (ac 3)) (ak (aE iQ (ah 3 sc_settle.nd)) (al (bD rfl (eX B.b_enumerate (ae (ac 0) af)) (cU rfl (aF (ah 4 sc_settle.nd) (aF (ah 5 sc_settle.nd) cf))) (by(refine @ak _ _ _ _ _ ?_ ?_;(focus exact(aE (iP 2 (tD (gH hr) (ac 2) (aI (ac 5) ai))) (ah 6 sc_settle.nd)));refine @ak _ _ _ _ _ ?_ ?_;(focus exact(cA (jt (ja (aX kI (ac 6) cb) (gu (dQ (Bo 2 (dE (aS c_is_better hr (ae (ac 2) (ae (ac 5) (ae (ac 6) af)))))))))) (al Bq) bB));refine @ak _ _ _ _ _ ?_ ?_;(focus exact(aE (ao aK (aI (ac 6) ai) (ez (ae (ac 4) af))) (ah 7 sc_settle.nd)));refine @ak _ _ _ _ _ ?_ ?_;(focus exact(Bp 8 (N':=["step","limits"]) (src:=[none,some 0]) rfl (LcScope.by (N:=["limits","starts","best","moved","number","bound","ahead","walk","passed"]) (names:=(aj iy).names) rfl rfl rfl (by decide+kernel)) (bF (ac 7)) (λ_ _ _ _ _=>⟨(ah 0 (show List.Nodup (["step","limits"]:List Str)by decide+kernel)),bN,(aI (aI (ac 1) (ac 0)) ai)⟩) sc_settle.nd));refine @ak _ _ _ _ _ ?_ ?_;(focus exact(cA (aX (Eh (x5 hr)) (aI (ac 5) ai) (ac 8)) (al (aB (bq (ae cb (ae (lz (ac 7) (lw (jV (x5 hr) (ac 8) (aI (ac 5) ai))) lx) af))))) bB));refine @ak _ _ _ _ _ ?_ ?_;(focus exact(tq 2 (gH hr) (aI (ac 5) ai) (bq (ae (ao aK (aI (ac 6) ai) (aI (ac 5) ai)) (ae (ac 7) af)))));exact al (aE iQ (ah 3 sc_settle.nd)))))))));exact al (gv 2 (aB (bq (ae (ac 2) (ae cb af)))))))
abbrev dS:Stmt:=top 38
theorem sc_greatest_world:aG ["record","limits","places","best"] ["record","limits"] (aj dS):=⟨rfl,rfl,rfl,by decide+kernel,rfl,by decide+kernel,by decide+kernel⟩
theorem jH (F:gQ K mg "greatest_world" dS ["record","limits"])(c_events:Cl P w K mg base 8 "events" 1 de)(c_settle:Cl P w K mg base 2 "settle" 2 hU)(B:Bl mg):Cl P w K mg base 9 "greatest_world" 2 dm:=
 bu F sc_greatest_world rfl λf cdv A outer s H E hr xe=>(by(refine @ak _ _ _ _ _ ?_ ?_;(focus exact(aE (aS c_events hr (ae (ac 0) af)) (ah 2 sc_greatest_world.nd)));refine @ak _ _ _ _ _ ?_ ?_;(focus exact(aE (aI (aS c_settle hr (ae (ac 1) (ae (ac 2) af))) ai) (ah 3 sc_greatest_world.nd)));refine @ak _ _ _ _ _ ?_ ?_;(focus exact(cA (aX kI (ac 3) cb) (al (aB cb)) bB));exact al (aB (kA f9 B.b_tuple bL (ae (eY (N':=["event","best"]) (src:=[none,some 3]) rfl (LcScope.by (N:=["record","limits","places","best"]) (names:=(aj dS).names) rfl rfl rfl (by decide+kernel)) (bF (ac 2)) (λ_ _ _ _ _=>⟨(ah 0 (show List.Nodup (["event","best"]:List Str)by decide+kernel)),bN,(aI (bc (gH hr) (ac 1) (ac 0)) ai)⟩)) af)))))
abbrev fP:Stmt:=top 27
theorem sc_bounds_of_clock:aG ["number","clock","readings","told","k","first","second","steps"] ["number","clock"] (aj fP):=⟨rfl,rfl,rfl,by decide+kernel,rfl,by decide+kernel,by decide+kernel⟩
theorem je (F:gQ K mg "bounds_of_clock" fP ["number","clock"])(B:Bl mg):Cl P w K mg base 1 "bounds_of_clock" 2 ci:=
 bu F sc_bounds_of_clock rfl λf cdv A outer s H E hr xe=>(by(refine @ak _ _ _ _ _ ?_ ?_;(focus exact(aE (aI (ac 1) ai) (ah 2 sc_bounds_of_clock.nd)));refine @ak _ _ _ _ _ ?_ ?_;(focus exact(gS 3 sc_bounds_of_clock.nd af));refine @ak _ _ _ _ _ ?_ ?_;(focus exact(bD rfl (cW B.b_range (ae (ao cI (cg dh B.b_len boot_len (ae (ac 2) af)) ai) af)) (ah 4 sc_bounds_of_clock.nd) (by(refine @ak _ _ _ _ _ ?_ ?_;(focus exact(aE (bq (ae (ac 0) (ae (ac 4) af))) (ah 5 sc_bounds_of_clock.nd)));refine @ak _ _ _ _ _ ?_ ?_;(focus exact(aE (bq (ae (ac 0) (ae (ao aK (ac 4) ai) af))) (ah 6 sc_bounds_of_clock.nd)));refine @ak _ _ _ _ _ ?_ ?_;(focus exact(aE (ao cI (aI (ac 2) (ao aK (ac 4) ai)) (aI (ac 2) (ac 4))) (ah 7 sc_bounds_of_clock.nd)));refine @ak _ _ _ _ _ ?_ ?_;(focus exact(gw 3 (bq (ae (ac 5) (ae (ac 6) (ae (ao dj (ac 7) (aI (ac 1) ai)) af))))));exact al (gw 3 (bq (ae (ac 6) (ae (ac 5) (ae (ao dj (ol (ac 7)) (aI (ac 1) ai)) af)))))))));exact al (gv 3 (aB (ac 3)))))
abbrev fB:Stmt:=top 28
theorem sc_bounds_of_letter:aG ["letter","told"] ["letter"] (aj fB):=⟨rfl,rfl,rfl,by decide+kernel,rfl,by decide+kernel,by decide+kernel⟩
theorem iM (F:gQ K mg "bounds_of_letter" fB ["letter"]):Cl P w K mg base 1 "bounds_of_letter" 1 bQ:=
 bu F sc_bounds_of_letter rfl λf cdv A outer s H E hr xe=>(by(refine @ak _ _ _ _ _ ?_ ?_;(focus exact(gS 1 sc_bounds_of_letter.nd (ae (bq (ae (aI (ac 0) ai) (ae (aI (ac 0) ai) (ae (ol (aI (ac 0) ai)) af)))) af)));refine @ak _ _ _ _ _ ?_ ?_;(focus exact(cA (aX e9 (aI (ac 0) ai) cb) (al (gw 1 (bq (ae (aI (ac 0) ai) (ae (aI (ac 0) ai) (ae (aI (ac 0) ai) af)))))) bB));exact al (gv 1 (aB (ac 1)))))
abbrev nr:Stmt:=top 29
theorem sc_bounds:aG ["record","told","number","clock","letter"] ["record"] (aj nr):=⟨rfl,rfl,rfl,by decide+kernel,rfl,by decide+kernel,by decide+kernel⟩
theorem vd (F:gQ K mg "bounds" nr ["record"])(c_need_record:Cl P w K mg base 7 "need_record" 1 cM)(c_bounds_of_clock:Cl P w K mg base 1 "bounds_of_clock" 2 ci)(c_bounds_of_letter:Cl P w K mg base 1 "bounds_of_letter" 1 bQ)(B:Bl mg):Cl P w K mg base 8 "bounds" 1 fV:=
 bu F sc_bounds rfl λf cdv A outer s H E hr xe=>(by(refine @ak _ _ _ _ _ ?_ ?_;(focus exact(pW (aS c_need_record hr (ae (ac 0) af))));refine @ak _ _ _ _ _ ?_ ?_;(focus exact(gS 1 sc_bounds.nd af));refine @ak _ _ _ _ _ ?_ ?_;(focus exact(bD rfl (eX B.b_enumerate (ae (aI (ac 0) ai) af)) (cU rfl (aF (ah 2 sc_bounds.nd) (aF (ah 3 sc_bounds.nd) cf))) (al (oj 1 (aS c_bounds_of_clock hr (ae (ac 2) (ae (ac 3) af)))))));refine @ak _ _ _ _ _ ?_ ?_;(focus exact(bD rfl (bF (aI (ac 0) ai)) (ah 4 sc_bounds.nd) (al (oj 1 (aS c_bounds_of_letter hr (ae (ac 4) af))))));exact al (gv 1 (aB (ac 1)))))
abbrev ql:Stmt:=top 39
theorem wA:aG ["record"] ["record"] (aj ql):=⟨rfl,rfl,rfl,by decide+kernel,rfl,by decide+kernel,by decide+kernel⟩
theorem xh (F:gQ K mg "world" ql ["record"])(c_greatest_world:Cl P w K mg base 9 "greatest_world" 2 dm)(c_bounds:Cl P w K mg base 8 "bounds" 1 fV):Cl P w K mg base 10 "world" 1 fE:=
 bu F wA rfl λf cdv A outer s H E hr xe=>(al (aB (aS c_greatest_world hr (ae (ac 0) (ae (aS c_bounds hr (ae (ac 0) af)) af)))))
abbrev gA:Stmt:=top 30
theorem sc_are_times:aG ["record","thing","many"] ["record","thing"] (aj gA):=⟨rfl,rfl,rfl,by decide+kernel,rfl,by decide+kernel,by decide+kernel⟩
theorem oZ (F:gQ K mg "are_times" gA ["record","thing"])(c_events:Cl P w K mg base 8 "events" 1 de)(c_is_long:Cl P w K mg base 1 "is_long" 3 aJ)(c_is_whole:Cl P w K mg base 1 "is_whole" 1 eF)(B:Bl mg):Cl P w K mg base 9 "are_times" 2 gg:=
 bu F sc_are_times rfl λf cdv A outer s H E hr xe=>(ak (aE (cg dh B.b_len boot_len (ae (aS c_events hr (ae (ac 0) af)) af)) (ah 2 sc_are_times.nd)) (al (aB (cP (aS c_is_long hr (ae (ac 1) (ae (ac 2) (ae (ac 2) af)))) (cX (cg (mz rfl) B.b_all boot_all (ae (eY (N':=["part"]) (src:=[none]) rfl (LcScope.by (N:=["record","thing","many"]) (names:=(aj gA).names) rfl rfl rfl (by decide+kernel)) (bF (ac 1)) (λ_ _ _ _ _=>⟨(ah 0 (show List.Nodup (["part"]:List Str)by decide+kernel)),bN,(aS c_is_whole hr (ae (ac 0) af))⟩)) af)))))))
abbrev qm:Stmt:=top 31
theorem wC:aG ["bound","time_of"] ["bound","time_of"] (aj qm):=⟨rfl,rfl,rfl,by decide+kernel,rfl,by decide+kernel,by decide+kernel⟩
theorem xk (F:gQ K mg "holds" qm ["bound","time_of"]):Cl P w K mg base 1 "holds" 2 lb:=
 bu F wC rfl λf cdv A outer s H E hr xe=>(al (aB (fx nB (ao cI (bc (gH hr) (ac 1) (aI (ac 0) ai)) (bc (gH hr) (ac 1) (aI (ac 0) ai))) (aI (ac 0) ai))))
abbrev jY:Stmt:=top 32
theorem sc_broken:aG ["record","times","time_of"] ["record","times"] (aj jY):=⟨rfl,rfl,rfl,by decide+kernel,rfl,by decide+kernel,by decide+kernel⟩
theorem vc (F:gQ K mg "broken" jY ["record","times"])(c_events:Cl P w K mg base 8 "events" 1 de)(c_bounds:Cl P w K mg base 8 "bounds" 1 fV)(c_holds:Cl P w K mg base 1 "holds" 2 lb)(B:Bl mg):Cl P w K mg base 9 "broken" 2 cK:=
 bu F sc_broken rfl λf cdv A outer s H E hr xe=>(ak (aE (yX (Fi hr) rfl B.b_dict B.b_zip (ae (aS c_events hr (ae (ac 0) af)) (ae (ac 1) af))) (ah 2 sc_broken.nd)) (al (aB (eY (N':=["number","bound","time_of"]) (src:=[none,none,some 2]) rfl (LcScope.by (N:=["record","times","time_of"]) (names:=(aj jY).names) rfl rfl rfl (by decide+kernel)) (eX B.b_enumerate (ae (aS c_bounds hr (ae (ac 0) af)) af)) (λ_ _ _ _ _=>⟨(cU rfl (aF (ah 0 (show List.Nodup (["number","bound","time_of"]:List Str)by decide+kernel)) (aF (ah 1 (show List.Nodup (["number","bound","time_of"]:List Str)by decide+kernel)) cf))),(gU (dQ (dE (aS c_holds hr (ae (ac 1) (ae (ac 2) af)))))),(ac 0)⟩)))))
abbrev kD:Stmt:=top 33
theorem qx:aG ["record","thing"] ["record","thing"] (aj kD):=⟨rfl,rfl,rfl,by decide+kernel,rfl,by decide+kernel,by decide+kernel⟩
theorem qM (F:gQ K mg "is_world" kD ["record","thing"])(c_are_times:Cl P w K mg base 9 "are_times" 2 gg)(c_broken:Cl P w K mg base 9 "broken" 2 cK):Cl P w K mg base 10 "is_world" 2 bP:=
 bu F qx rfl λf cdv A outer s H E hr xe=>(al (aB (cP (aS c_are_times hr (ae (ac 0) (ae (ac 1) af))) (cX (fx (lP (kj hr)) (aS c_broken hr (ae (ac 0) (ae (ac 1) af))) (ez af))))))
abbrev gX:Stmt:=top 41
theorem qw:aG ["record","times","many"] ["record","times","many"] (aj gX):=⟨rfl,rfl,rfl,by decide+kernel,rfl,by decide+kernel,by decide+kernel⟩
theorem qL (F:gQ K mg "moved_by" gX ["record","times","many"])(c_is_world:Cl P w K mg base 10 "is_world" 2 bP)(B:Bl mg){C_NoRecord C_NoWorld C_ClockError:Addr}(S:Xs K mg C_NoRecord C_NoWorld C_ClockError):Cl P w K mg base 11 "moved_by" 3 dG:=
 bu F qw rfl λf cdv A outer s H E hr xe=>(ak (cA (dQ (dE (aS c_is_world hr (ae (ac 0) (ae (ac 1) af))))) (al (m9 S.o_NoWorld S.m_NoWorld)) bB) (al (aB (kA f9 B.b_tuple bL (ae (eY (N':=["time","many"]) (src:=[none,some 2]) rfl (LcScope.by (N:=["record","times","many"]) (names:=(aj gX).names) rfl rfl rfl (by decide+kernel)) (bF (ac 1)) (λ_ _ _ _ _=>⟨(ah 0 (show List.Nodup (["time","many"]:List Str)by decide+kernel)),bN,(ao aK (ac 0) (ac 1))⟩)) af)))))
abbrev jA:Stmt:=top 40
theorem oB:aG ["record"] ["record"] (aj jA):=⟨rfl,rfl,rfl,by decide+kernel,rfl,by decide+kernel,by decide+kernel⟩
theorem oY (F:gQ K mg "has_world" jA ["record"])(c_world:Cl P w K mg base 10 "world" 1 fE):Cl P w K mg base 11 "has_world" 1 gf:=
 bu F oB rfl λf cdv A outer s H E hr xe=>(al (aB (fx e9 (aS c_world hr (ae (ac 0) af)) cb)))
abbrev lE:Stmt:=top 53
theorem sc_law:aG ["_law_script","_law_record_here","_law_places","_law_row","_law_table_here","_law_one","_law_other","_law_high","_law_low","_law_told","_law_times","_law_late","_law_k","_law_number","_law_first","_law_last","_law_most","_law_at","_law_far","_law_more"] ["_law_script"] (aj lE):=⟨rfl,rfl,rfl,by decide+kernel,rfl,by decide+kernel,by decide+kernel⟩
theorem CA {f:Addr}{fd:FuncData}(Fn_law:Fn K mg "law" lE ["_law_script"] f fd)(c__law_record:Cl P w K mg base 4 "_law_record" 3 eQ)(c_events:Cl P w K mg base 8 "events" 1 de)(c__law_bounds:Cl P w K mg base 1 "_law_bounds" 1 eR)(c__law_table:Cl P w K mg base 1 "_law_table" 2 fF)(c__law_drawn_world:Cl P w K mg base 3 "_law_drawn_world" 5 bR)(c_world:Cl P w K mg base 10 "world" 1 fE)(c_moved_by:Cl P w K mg base 11 "moved_by" 3 dG)(c_has_world:Cl P w K mg base 11 "has_world" 1 gf)(c_is_world:Cl P w K mg base 10 "is_world" 2 bP)(c_broken:Cl P w K mg base 9 "broken" 2 cK)(B:Bl mg):Dr P w K mg base 12 f fd ["_law_script"] 1 m_law:=
 tE Fn_law.fn sc_law rfl λcdv A outer s H E hr xe=>(by(refine @ak _ _ _ _ _ ?_ ?_;(focus exact(aE (aS c__law_record hr (ae (ac 0) (ae ai (ae ai af)))) (ah 1 sc_law.nd)));refine @ak _ _ _ _ _ ?_ ?_;(focus exact(aE (aS c_events hr (ae (ac 1) af)) (ah 2 sc_law.nd)));refine @ak _ _ _ _ _ ?_ ?_;(focus exact(aE (aS c__law_bounds hr (ae (ac 1) af)) (ah 3 sc_law.nd)));refine @ak _ _ _ _ _ ?_ ?_;(focus exact(aE (aS c__law_table hr (ae (ac 2) (ae (ac 3) af))) (ah 4 sc_law.nd)));refine @ak _ _ _ _ _ ?_ ?_;(focus exact(cA (aX kI (ac 4) cb) (al (aB (cP (v6 (aS c_has_world hr (ae (ac 1) af))) (cX (fx kI (aS c_world hr (ae (ac 1) af)) cb))))) bB));refine @ak _ _ _ _ _ ?_ ?_;(focus exact(aE (aS c__law_drawn_world hr (ae (ac 0) (ae ai (ae (ac 2) (ae (ac 3) (ae (ac 4) af)))))) (ah 5 sc_law.nd)));refine @ak _ _ _ _ _ ?_ ?_;(focus exact(aE (aS c__law_drawn_world hr (ae (ac 0) (ae ai (ae (ac 2) (ae (ac 3) (ae (ac 4) af)))))) (ah 6 sc_law.nd)));refine @ak _ _ _ _ _ ?_ ?_;(focus exact(aE (kA f9 B.b_tuple bL (ae (eY (N':=["_law_mine","_law_yours"]) (src:=[none,none]) rfl (LcScope.by (N:=["_law_script","_law_record_here","_law_places","_law_row","_law_table_here","_law_one","_law_other","_law_high","_law_low","_law_told","_law_times","_law_late","_law_k","_law_number","_law_first","_law_last","_law_most","_law_at","_law_far","_law_more"]) (names:=(aj lE).names) rfl rfl rfl (by decide+kernel)) (tz B.b_zip (ae (ac 5) (ae (ac 6) af))) (λ_ _ _ _ _=>⟨(cU rfl (aF (ah 0 (show List.Nodup (["_law_mine","_law_yours"]:List Str)by decide+kernel)) (aF (ah 1 (show List.Nodup (["_law_mine","_law_yours"]:List Str)by decide+kernel)) cf))),bN,(cg (sU rfl) B.b_max boot_max (ae (ac 0) (ae (ac 1) af)))⟩)) af)) (ah 7 sc_law.nd)));refine @ak _ _ _ _ _ ?_ ?_;(focus exact(aE (kA f9 B.b_tuple bL (ae (eY (N':=["_law_mine","_law_yours"]) (src:=[none,none]) rfl (LcScope.by (N:=["_law_script","_law_record_here","_law_places","_law_row","_law_table_here","_law_one","_law_other","_law_high","_law_low","_law_told","_law_times","_law_late","_law_k","_law_number","_law_first","_law_last","_law_most","_law_at","_law_far","_law_more"]) (names:=(aj lE).names) rfl rfl rfl (by decide+kernel)) (tz B.b_zip (ae (ac 5) (ae (ac 6) af))) (λ_ _ _ _ _=>⟨(cU rfl (aF (ah 0 (show List.Nodup (["_law_mine","_law_yours"]:List Str)by decide+kernel)) (aF (ah 1 (show List.Nodup (["_law_mine","_law_yours"]:List Str)by decide+kernel)) cf))),bN,(cg (sT rfl) B.b_min boot_min (ae (ac 0) (ae (ac 1) af)))⟩)) af)) (ah 8 sc_law.nd)));refine @ak _ _ _ _ _ ?_ ?_;(focus exact(aE (aS c_world hr (ae (ac 1) af)) (ah 9 sc_law.nd)));refine @ak _ _ _ _ _ ?_ ?_;(focus exact(bD rfl (bF (bq (ae (ac 5) (ae (ac 6) (ae (ac 7) (ae (ac 8) (ae (ac 9) af))))))) (ah 10 sc_law.nd) (by(refine @ak _ _ _ _ _ ?_ ?_;(focus exact(cA (jt (ja (dQ (dE (aS c_is_world hr (ae (ac 1) (ae (ac 10) af))))) (gu (aX (ny (kj hr)) (aS c_broken hr (ae (ac 1) (ae (ac 10) af))) (ez af))))) (al (aB iQ)) bB));refine @ak _ _ _ _ _ ?_ ?_;(focus exact(aE (aS c_moved_by hr (ae (ac 1) (ae (ac 10) (ae (ao cI ai (cg (uD rfl) B.b_max boot_max (ae (ac 10) af))) af)))) (ah 11 sc_law.nd)));refine @ak _ _ _ _ _ ?_ ?_;(focus exact(cA (jt (ja (aX (ny (kj hr)) (eY (N':=["_law_k","_law_late","_law_told"]) (src:=[none,some 11,some 9]) rfl (LcScope.by (N:=["_law_script","_law_record_here","_law_places","_law_row","_law_table_here","_law_one","_law_other","_law_high","_law_low","_law_told","_law_times","_law_late","_law_k","_law_number","_law_first","_law_last","_law_most","_law_at","_law_far","_law_more"]) (names:=(aj lE).names) rfl rfl rfl (by decide+kernel)) (cW B.b_range (ae (cg dh B.b_len boot_len (ae (ac 2) af)) af)) (λ_ _ _ _ _=>⟨(ah 0 (show List.Nodup (["_law_k","_law_late","_law_told"]:List Str)by decide+kernel)),(gU (aX Ei (aI (ac 1) (ac 0)) (aI (ac 2) (ac 0)))),(ac 0)⟩)) (ez af)) (gu (dQ (dE (aS c_is_world hr (ae (ac 1) (ae (ac 11) af)))))))) (al (aB iQ)) bB));refine @ak _ _ _ _ _ ?_ ?_;(focus exact(bD rfl (ly B.b_range (ae ai (ae (cg dh B.b_len boot_len (ae (ac 2) af)) af))) (ah 12 sc_law.nd) (al (cA (jt (tp (aX (lP (kj hr)) (aI (aI (ac 2) (ac 12)) ai) (aI (aI (ac 2) (ao cI (ac 12) ai)) ai)) (pV (aX nB (aI (ac 10) (ac 12)) (aI (ac 10) (ao cI (ac 12) ai)))))) (al (aB iQ)) bB))));exact al (bD rfl (eX B.b_enumerate (ae (ac 3) af)) (cU rfl (aF (ah 13 sc_law.nd) (aF (cU rfl (aF (ah 14 sc_law.nd) (aF (ah 15 sc_law.nd) (aF (ah 16 sc_law.nd) cf)))) cf))) (by(refine @ak _ _ _ _ _ ?_ ?_;(focus exact(aE (jV (x5 hr) (ac 2) (ac 15)) (ah 17 sc_law.nd)));refine @ak _ _ _ _ _ ?_ ?_;(focus exact(aE (ao aK (ao aK (aI (ac 10) (jV (x5 hr) (ac 2) (ac 14))) (ac 16)) ai) (ah 18 sc_law.nd)));refine @ak _ _ _ _ _ ?_ ?_;(focus exact(aE (ao aK (ao aK (lz (ac 10) lx (lw (ac 17))) (bq (ae (ac 18) af))) (lz (ac 10) (lw (ao aK (ac 17) ai)) lx)) (ah 19 sc_law.nd)));exact al (cA (aX (xf (x5 hr)) (ac 13) (aS c_broken hr (ae (ac 1) (ae (ac 19) af)))) (al (aB iQ)) bB))))))));exact al (aB (cP (fx (lP (kj hr)) (cg (uD rfl) B.b_max boot_max (ae (ac 9) af)) ai) (cX (fx (lP (kj hr)) (aS c_moved_by hr (ae (ac 1) (ae (aS c_moved_by hr (ae (ac 1) (ae (ac 5) (ae ai af)))) (ae (ol ai) af)))) (ac 5)))))))
end
@[elab_as_elim] theorem gh {α:Type} {p:List α->Prop} (h:∀a0,p [a0]):∀us:List α,us.length=1->p us
 | [a0],_=>h a0
@[elab_as_elim] theorem fW {α:Type} {p:List α->Prop} (h:∀a0 a1,p [a0,a1]):∀us:List α,us.length=2->p us
 | [a0,a1],_=>h a0 a1
@[elab_as_elim] theorem l7 {α:Type} {p:List α->Prop} (h:∀a0 a1 a2,p [a0,a1,a2]):∀us:List α,us.length=3->p us
 | [a0,a1,a2],_=>h a0 a1 a2
@[elab_as_elim] theorem Er {α:Type} {p:List α->Prop} (h:∀a0 a1 a2 a3 a4,p [a0,a1,a2,a3,a4]):∀us:List α,us.length=5->p us
 | [a0,a1,a2,a3,a4],_=>h a0 a1 a2 a3 a4
def asks:vU:=⟨([("_law_cell",43),("_law_drawn",44),("_law_events",47),("_law_letter",46),("_law_clock",45),("_law_record",48),("is_long",13),("is_whole",11),("is_within",12),("is_pace",16),("rises",14),("are_readings",15),("is_clock",17),("are_clocks",18),("is_event",19)]:List (Str×Nat))++([("is_delay",20),("is_letter",21),("are_letters",22),("is_record",23),("need_record",24),("events",25),("_law_bounds",49),("_law_table",50),("_law_drawn_world",52),("is_better",36),("settle",35),("greatest_world",38),("bounds_of_clock",27),("bounds_of_letter",28),("bounds",29)]:List (Str×Nat))++([("world",39),("are_times",30),("holds",31),("broken",32),("is_world",33),("moved_by",41),("has_world",40),("law",53)]:List (Str×Nat)),(["all","bool","dict","enumerate","int","isinstance","len","max","min","range","tuple","zip"]:List Str),[("MOST_CLOCKS",4),("MOST_LETTERS",8),("MOST_READINGS",4),("LAST_READING",99),("SLOWEST",9),("LONGEST",999)],["ClockError","NoRecord","NoWorld"]⟩
theorem all_ok {l:PySem.W.OpenLaw}{w:World}{K:PySem.W.Frag}{h:Heap}{mg:Str->Option Value}{fa:Addr}(X:K.In h)(e:m3 asks K=mP asks top)(G:h.Ns mainGlobals mg)(hfa:mg "law" =some (.ref fa)) :
  ∃fd:FuncData,(∀(s:Shared) (v:Value),BindsTo s fd ⟨[v],[]⟩ [("_law_script",v)])/\∀base:Heap,K.In base->base.Ns mainGlobals mg->pP l.prog w K mg base CX0 12 fa fd ["_law_script"] (spP K 1 m_law):=by
 have B:Bl mg:=⟨fA 0 X G e rfl,fA 1 X G e rfl,fA 2 X G e rfl,fA 3 X G e rfl,fA 4 X G e rfl,fA 5 X G e rfl,fA 6 X G e rfl,fA 7 X G e rfl,fA 8 X G e rfl,fA 9 X G e rfl,fA 10 X G e rfl,fA 11 X G e rfl⟩
 have C:Cs mg:=⟨nL 0 X G e rfl,nL 1 X G e rfl,nL 2 X G e rfl,nL 3 X G e rfl,nL 4 X G e rfl,nL 5 X G e rfl⟩;obtain⟨C_ClockError,ls,xD,xl,nd⟩:=CB (ED e);obtain⟨C_NoRecord,ls0,x_NoRecord,rfl,xl0⟩:=n8 xl;obtain⟨C_NoWorld,ls1,x_NoWorld,rfl,xl1⟩:=n8 xl0;cases yH xl1
 have S:Xs K mg C_NoRecord C_NoWorld C_ClockError:=⟨PySem.W.mg_of X G (j5 x_NoRecord).1,PySem.W.mg_of X G (j5 x_NoWorld).1,PySem.W.mg_of X G (j5 xD).1,ox1 x_NoRecord xD,ox1 x_NoWorld xD,ox0 xD,nd⟩
 have fw:=cS (n:="_law_cell") (i:=43) (ps:=["_law_script","_law_k"]) 0 X G e rfl λ_ _ _ _ _ _ us hl=>fW (λ_ _=>rfl) us hl
 have d8:=cS (n:="_law_drawn") (i:=44) (ps:=["_law_script","_law_k","_law_many"]) 1 X G e rfl λ_ _ _ _ _ _ us hl=>l7 (λ_ _ _=>rfl) us hl
 have eV:=cS (n:="_law_events") (i:=47) (ps:=["_law_clocks"]) 2 X G e rfl λ_ _ _ _ _ _ us hl=>gh (λ_=>rfl) us hl
 have cw:=cS (n:="_law_letter") (i:=46) (ps:=["_law_script","_law_at","_law_clocks"]) 3 X G e rfl λ_ _ _ _ _ _ us hl=>l7 (λ_ _ _=>rfl) us hl
 have d9:=cS (n:="_law_clock") (i:=45) (ps:=["_law_script","_law_at"]) 4 X G e rfl λ_ _ _ _ _ _ us hl=>fW (λ_ _=>rfl) us hl
 have dC:=cS (n:="_law_record") (i:=48) (ps:=["_law_script","_law_at","_law_most"]) 5 X G e rfl λ_ _ _ _ _ _ us hl=>l7 (λ_ _ _=>rfl) us hl
 have iK:=cS (n:="is_long") (i:=13) (ps:=["thing","least","most"]) 6 X G e rfl λ_ _ _ _ _ _ us hl=>l7 (λ_ _ _=>rfl) us hl
 have jr:=cS (n:="is_whole") (i:=11) (ps:=["thing"]) 7 X G e rfl λ_ _ _ _ _ _ us hl=>gh (λ_=>rfl) us hl
 have fo:=cS (n:="is_within") (i:=12) (ps:=["thing","least","most"]) 8 X G e rfl λ_ _ _ _ _ _ us hl=>l7 (λ_ _ _=>rfl) us hl
 have gt:=cS (n:="is_pace") (i:=16) (ps:=["slow","fast"]) 9 X G e rfl λ_ _ _ _ _ _ us hl=>fW (λ_ _=>rfl) us hl
 have lu:=cS (n:="rises") (i:=14) (ps:=["numbers"]) 10 X G e rfl λ_ _ _ _ _ _ us hl=>gh (λ_=>rfl) us hl
 have cE:=cS (n:="are_readings") (i:=15) (ps:=["thing"]) 11 X G e rfl λ_ _ _ _ _ _ us hl=>gh (λ_=>rfl) us hl
 have eK:=cS (n:="is_clock") (i:=17) (ps:=["thing"]) 12 X G e rfl λ_ _ _ _ _ _ us hl=>gh (λ_=>rfl) us hl
 have d6:=cS (n:="are_clocks") (i:=18) (ps:=["thing"]) 13 X G e rfl λ_ _ _ _ _ _ us hl=>gh (λ_=>rfl) us hl
 have eI:=cS (n:="is_event") (i:=19) (ps:=["clocks","thing"]) 14 X G e rfl λ_ _ _ _ _ _ us hl=>fW (λ_ _=>rfl) us hl
 have eJ:=cS (n:="is_delay") (i:=20) (ps:=["least","most"]) 15 X G e rfl λ_ _ _ _ _ _ us hl=>fW (λ_ _=>rfl) us hl
 have cG:=cS (n:="is_letter") (i:=21) (ps:=["clocks","thing"]) 16 X G e rfl λ_ _ _ _ _ _ us hl=>fW (λ_ _=>rfl) us hl
 have dB:=cS (n:="are_letters") (i:=22) (ps:=["clocks","thing"]) 17 X G e rfl λ_ _ _ _ _ _ us hl=>fW (λ_ _=>rfl) us hl
 have dO:=cS (n:="is_record") (i:=23) (ps:=["thing"]) 18 X G e rfl λ_ _ _ _ _ _ us hl=>gh (λ_=>rfl) us hl
 have dA:=cS (n:="need_record") (i:=24) (ps:=["thing"]) 19 X G e rfl λ_ _ _ _ _ _ us hl=>gh (λ_=>rfl) us hl
 have iq:=cS (n:="events") (i:=25) (ps:=["record"]) 20 X G e rfl λ_ _ _ _ _ _ us hl=>gh (λ_=>rfl) us hl
 have dD:=cS (n:="_law_bounds") (i:=49) (ps:=["_law_record_here"]) 21 X G e rfl λ_ _ _ _ _ _ us hl=>gh (λ_=>rfl) us hl
 have d7:=cS (n:="_law_table") (i:=50) (ps:=["_law_places","_law_row"]) 22 X G e rfl λ_ _ _ _ _ _ us hl=>fW (λ_ _=>rfl) us hl
 have bW:=cS (n:="_law_drawn_world") (i:=52) (ps:=["_law_script","_law_at","_law_places","_law_row","_law_table_here"]) 23 X G e rfl λ_ _ _ _ _ _ us hl=>Er (λ_ _ _ _ _=>rfl) us hl
 have fq:=cS (n:="is_better") (i:=36) (ps:=["best","bound","ahead"]) 24 X G e rfl λ_ _ _ _ _ _ us hl=>l7 (λ_ _ _=>rfl) us hl
 have gc:=cS (n:="settle") (i:=35) (ps:=["limits","starts"]) 25 X G e rfl λ_ _ _ _ _ _ us hl=>fW (λ_ _=>rfl) us hl
 have cD:=cS (n:="greatest_world") (i:=38) (ps:=["record","limits"]) 26 X G e rfl λ_ _ _ _ _ _ us hl=>fW (λ_ _=>rfl) us hl
 have cu:=cS (n:="bounds_of_clock") (i:=27) (ps:=["number","clock"]) 27 X G e rfl λ_ _ _ _ _ _ us hl=>fW (λ_ _=>rfl) us hl
 have bV:=cS (n:="bounds_of_letter") (i:=28) (ps:=["letter"]) 28 X G e rfl λ_ _ _ _ _ _ us hl=>gh (λ_=>rfl) us hl
 have iu:=cS (n:="bounds") (i:=29) (ps:=["record"]) 29 X G e rfl λ_ _ _ _ _ _ us hl=>gh (λ_=>rfl) us hl
 have pQ:=cS (n:="world") (i:=39) (ps:=["record"]) 30 X G e rfl λ_ _ _ _ _ _ us hl=>gh (λ_=>rfl) us hl
 have ft:=cS (n:="are_times") (i:=30) (ps:=["record","thing"]) 31 X G e rfl λ_ _ _ _ _ _ us hl=>fW (λ_ _=>rfl) us hl
 have pR:=cS (n:="holds") (i:=31) (ps:=["bound","time_of"]) 32 X G e rfl λ_ _ _ _ _ _ us hl=>fW (λ_ _=>rfl) us hl
 have ir:=cS (n:="broken") (i:=32) (ps:=["record","times"]) 33 X G e rfl λ_ _ _ _ _ _ us hl=>fW (λ_ _=>rfl) us hl
 have jq:=cS (n:="is_world") (i:=33) (ps:=["record","thing"]) 34 X G e rfl λ_ _ _ _ _ _ us hl=>fW (λ_ _=>rfl) us hl
 have gd:=cS (n:="moved_by") (i:=41) (ps:=["record","times","many"]) 35 X G e rfl λ_ _ _ _ _ _ us hl=>l7 (λ_ _ _=>rfl) us hl
 have ip:=cS (n:="has_world") (i:=40) (ps:=["record"]) 36 X G e rfl λ_ _ _ _ _ _ us hl=>gh (λ_=>rfl) us hl
 obtain⟨fd37,Fn_law,bnd⟩:=EB (n:="law") (i:=53) (x:="_law_script") 37 X G e rfl hfa λ_ _ _ _ _ _ _=>rfl
 refine⟨fd37,bnd,λbase _ _=> ?_⟩
 have c__law_cell:=o4 (P:=l.prog) (w:=w) (base:=base) fw B
 have c__law_drawn:=mY (P:=l.prog) (w:=w) (base:=base) d8 c__law_cell
 have c__law_events:=lU (P:=l.prog) (w:=w) (base:=base) eV B
 have c__law_letter:=lT (P:=l.prog) (w:=w) (base:=base) cw c__law_events c__law_drawn B
 have c__law_clock:=mZ (P:=l.prog) (w:=w) (base:=base) d9 c__law_drawn B
 have c__law_record:=lS (P:=l.prog) (w:=w) (base:=base) dC c__law_drawn c__law_letter c__law_clock B
 have c_is_long:=sA (P:=l.prog) (w:=w) (base:=base) iK B
 have c_is_whole:=qN (P:=l.prog) (w:=w) (base:=base) jr B
 have c_is_within:=oS (P:=l.prog) (w:=w) (base:=base) fo c_is_whole
 have c_is_pace:=sy (P:=l.prog) (w:=w) (base:=base) gt c_is_within C
 have c_rises:=xj (P:=l.prog) (w:=w) (base:=base) lu B
 have c_are_readings:=kR (P:=l.prog) (w:=w) (base:=base) cE c_is_long c_rises c_is_within B C
 have c_is_clock:=qQ (P:=l.prog) (w:=w) (base:=base) eK c_is_long c_is_pace c_are_readings
 have c_are_clocks:=mW (P:=l.prog) (w:=w) (base:=base) d6 c_is_long c_is_clock B C
 have c_is_event:=qO (P:=l.prog) (w:=w) (base:=base) eI c_is_within c_is_long B
 have c_is_delay:=qP (P:=l.prog) (w:=w) (base:=base) eJ c_is_within C
 have c_is_letter:=oV (P:=l.prog) (w:=w) (base:=base) cG c_is_event c_is_long c_is_delay
 have c_are_letters:=lR (P:=l.prog) (w:=w) (base:=base) dB c_is_long c_is_letter B C
 have c_is_record:=oU (P:=l.prog) (w:=w) (base:=base) dO c_is_long c_are_clocks c_are_letters
 have c_need_record:=lQ (P:=l.prog) (w:=w) (base:=base) dA c_is_record S
 have c_events:=u9 (P:=l.prog) (w:=w) (base:=base) iq c_need_record B
 have c__law_bounds:=lV (P:=l.prog) (w:=w) (base:=base) dD B
 have c__law_table:=mX (P:=l.prog) (w:=w) (base:=base) d7 B
 have c__law_drawn_world:=iN (P:=l.prog) (w:=w) (base:=base) bW c__law_drawn B
 have c_is_better:=oX (P:=l.prog) (w:=w) (base:=base) fq
 have c_settle:=u8 (P:=l.prog) (w:=w) (base:=base) gc c_is_better B
 have c_greatest_world:=jH (P:=l.prog) (w:=w) (base:=base) cD c_events c_settle B
 have c_bounds_of_clock:=je (P:=l.prog) (w:=w) (base:=base) cu B
 have c_bounds_of_letter:=iM (P:=l.prog) (w:=w) (base:=base) bV
 have c_bounds:=vd (P:=l.prog) (w:=w) (base:=base) iu c_need_record c_bounds_of_clock c_bounds_of_letter B
 have c_world:=xh (P:=l.prog) (w:=w) (base:=base) pQ c_greatest_world c_bounds
 have c_are_times:=oZ (P:=l.prog) (w:=w) (base:=base) ft c_events c_is_long c_is_whole B
 have c_holds:=xk (P:=l.prog) (w:=w) (base:=base) pR
 have c_broken:=vc (P:=l.prog) (w:=w) (base:=base) ir c_events c_bounds c_holds B
 have c_is_world:=qM (P:=l.prog) (w:=w) (base:=base) jq c_are_times c_broken
 have c_moved_by:=qL (P:=l.prog) (w:=w) (base:=base) gd c_is_world B S
 have c_has_world:=oY (P:=l.prog) (w:=w) (base:=base) ip c_world;exact(CA (P:=l.prog) (w:=w) (base:=base) Fn_law c__law_record c_events c__law_bounds c__law_table c__law_drawn_world c_world c_moved_by c_has_world c_is_world c_broken B).h
def vw:Program:=PySem.W.view PySem.Challenge.pw_farclocks_k21_whole_worlds [53]
def lse:List Str:=(["ClockError","NoRecord","NoWorld","MOST_CLOCKS","MOST_LETTERS","MOST_READINGS","LAST_READING","SLOWEST","LONGEST","is_whole","is_within","is_long","rises","are_readings","is_pace","is_clock","are_clocks","is_event","is_delay","is_letter"]:List Str)++(["are_letters","is_record","need_record","events","bounds_of_clock","bounds_of_letter","bounds","are_times","holds","broken","is_world","settle","is_better","greatest_world","world","has_world","moved_by","_law_cell","_law_drawn","_law_clock"]:List Str)++(["_law_letter","_law_events","_law_record","_law_bounds","_law_table","_law_world","_law_drawn_world"]:List Str)
def lhs (w:World)(h:Heap)(d:Drawn)(t:Nat)(os:OsState):=(PySem.W.topFrom treeTable PySem.Challenge.pw_farclocks_k21_whole_worlds w 9000 ⟨h,⟨[]⟩,d,t,os⟩).map (λs=>(PySem.W.openSeen vw lse (importedModules PySem.Challenge.pw_farclocks_k21_whole_worlds.main.body) (λ_=>true) true s,m3 asks (yb s.heap)))
def rhs (w:World):=some (PySem.W.openGood vw lse,mP asks top)
theorem lhs_r:lhs=lhs:=rfl
theorem rhs_r:rhs=rhs:=rfl
end G
namespace Tr
open PySem
mutual
def T.pl:T->Bool
 | .scr _=>false
 | .dct _ _=>false
 | .tup l=>plS l
 | .lst l=>plS l
 | _=>true
def plS:List T->Bool
 | [] =>true
 | t::l=>t.pl&&plS l
end
theorem jG:∀{l:List T} {t:T},plS l=true->t∈l->t.pl=true
 | [],_,_,h=>by cases h
 | u::l,t,h,m=>by
  unfold plS at h;rw[Bool.and_eq_true]at h;rcases List.mem_cons.mp m with rfl | m
  ·exact h.1
  ·exact jG h.2 m
mutual
theorem T.pl_nd:∀(t:T),t.pl=true->t.nd=true
 | .non,_=>rfl
 | .bl _,_=>rfl
 | .int _,_=>rfl
 | .str _,_=>rfl
 | .scr _,h=>by cases h
 | .dct _ _,h=>by cases h
 | .tup l,h=>by unfold T.pl at h;unfold T.nd;exact plS_nds l h
 | .lst l,h=>by unfold T.pl at h;unfold T.nd;exact plS_nds l h
theorem plS_nds:∀(l:List T),plS l=true->nds l=true
 | [],_=>rfl
 | t::l,h=>by
  unfold plS at h;rw[Bool.and_eq_true]at h;unfold nds;rw[T.pl_nd t h.1,plS_nds l h.2];rfl
end
theorem sG {fe:En->Rs T}{h:T->T}:∀(ts:List T) (Z:En),0<Z.length->(∀t∈ts,fe (Z.set 0 (.va t))= .ok (h t))->cQ (gN 0) bT fe ts Z= .ok (ts.map h)
 | [],_,_,_=>rfl
 | t::r,Z,hl,hf=>by
  unfold cQ
  have e1:gN 0 t Z= .ok (Z.set 0 (.va t)):=by unfold gN;rw[if_pos hl]
  have ih:=sG r (Z.set 0 (.va t)) (by rw[List.length_set];exact hl) (λu hu=>by rw[List.set_set];exact hf u (List.mem_cons_of_mem _ hu))
  simp only[e1,ax,bT,if_true,hf t List.mem_cons_self,ih,List.map_cons]
theorem nI {fc:En->Rs Bool}{fe:En->Rs T}{p:T->Bool}{h:T->T}:∀(ts:List T) (Z:En),0<Z.length->(∀t∈ts,fc (Z.set 0 (.va t))= .ok (p t)/\(p t=true->fe (Z.set 0 (.va t))= .ok (h t)))->cQ (gN 0) fc fe ts Z= .ok ((ts.filter p).map h)
 | [],_,_,_=>rfl
 | t::r,Z,hl,hf=>by
  unfold cQ
  have e1:gN 0 t Z= .ok (Z.set 0 (.va t)):=by unfold gN;rw[if_pos hl]
  have ih:=nI r (Z.set 0 (.va t)) (by rw[List.length_set];exact hl) (λu hu=>by rw[List.set_set];exact hf u (List.mem_cons_of_mem _ hu))
  obtain⟨h1,h2⟩:=hf t List.mem_cons_self;simp only[e1,ax,h1]
  cases q:p t with
  | true=>simp only[if_true,h2 q,ax,ih,List.filter_cons,q,List.map_cons]
  | false=>simp only[Bool.false_eq_true,if_false,ih,List.filter_cons,q]
theorem nX (p:T->Bool):∀l:List T,mE (l.map λt=>T.bl (p t))=some (l.map p)
 | [] =>rfl
 | t::l=>by rw[List.map_cons,mE,nX p l];rfl
theorem all_map (p:T->Bool)(l:List T):mJ [.lst (l.map λt=>T.bl (p t))] = .ok (.bl (l.all p)):=by
 simp only[mJ,nX,List.all_map]
 rfl
theorem jo {α:Type}{l:List α}{k:Nat}{t:α}(h:l[k]? =some t):L2.atI l (k:Int)=some t:=by
 have hk:k<l.length:=(List.getElem?_eq_some_iff.mp h).1
 unfold L2.atI L2.ixN;rw[if_pos (by omega),if_pos (by omega),Int.toNat_natCast]
 exact h
theorem au {n k:Nat}(h:n<=k)(hk:k<=1000:=by decide):n<=sizeLine:=by unfold sizeLine;omega
section
variable {f fa fb fc:En->Rs T}{fs:En->Rs (List T)}{b c:En->Rs Bool}{F G:En->Rs Fl}{Z Z' Z1 Z2:En}{t u r:T}{ts l m:List T}
theorem aD {g:T->T->Rs T}{x:Rs T}(ha:fa Z= .ok t)(hb:fb Z= .ok u)(hg:g t u=x):o2 g fa fb Z=x:=by unfold o2;rw[ha,hb];exact hg
theorem k_o1 {g:T->Rs T}{x:Rs T}(ha:fa Z= .ok t)(hg:g t=x):o1 g fa Z=x:=by unfold o1;rw[ha];exact hg
theorem Ez {g:T->T->Rs T}{x:Rs T}{ks vs:List T}(ha:fa Z= .ok (.dct ks vs))(hb:fb Z= .ok u)(hg:g (.dct ks vs) u=x):oD g fa fb Z=x:=by unfold oD;rw[ha];show(fb Z >>= g (.dct ks vs))=_;rw[hb];exact hg
theorem CU {g:T->T->Rs T}{x:Rs T}{ks:List T}(ha:fa Z= .ok (.lst ks))(hb:fb Z= .ok u)(hg:g (.lst ks) u=x):oL g fa fb Z=x:=by unfold oL;rw[ha];show(fb Z >>= g (.lst ks))=_;rw[hb];exact hg
theorem aq (h:f Z= .ok t)(hs:fs Z= .ok ts):ad f fs Z= .ok (t::ts):=by unfold ad;rw[h,hs];rfl
theorem bh {g:List T->Rs T}{x:Rs T}(h:fs Z= .ok ts)(hg:g ts=x):cl g fs Z=x:=by unfold cl;rw[h];exact hg
theorem cr {k:Bool}(h:f Z= .ok (.bl k)):tb f Z= .ok k:=by unfold tb;rw[h];rfl
theorem nK {k:Bool}(h:b Z= .ok k):dk b Z= .ok (!k):=by unfold dk;rw[h];rfl
theorem Bd (h:b Z= .ok true):jU b c Z= .ok true:=by unfold jU;rw[h];rfl
theorem rj {x:Rs Bool}(h:b Z= .ok false)(h2:c Z=x):jU b c Z=x:=by unfold jU;rw[h];exact h2
theorem xS (h:b Z= .ok false):k4 b c Z= .ok false:=by unfold k4;rw[h];rfl
theorem sJ {x:Rs Bool}(h:b Z= .ok true)(h2:c Z=x):k4 b c Z=x:=by unfold k4;rw[h];exact h2
theorem xR (h:fa Z= .ok (.bl true)):bM fa fb Z=fb Z:=by unfold bM;rw[h];rfl
theorem Ap (h:fa Z= .ok (.bl false)):bM fa fb Z= .ok (.bl false):=by unfold bM;rw[h];rfl
theorem pw {p q:Bool}(h:fa Z= .ok (.bl p))(h2:p=true->fb Z= .ok (.bl q)):bM fa fb Z= .ok (.bl (p&&q)):=by
 cases p with
 | true=>rw[xR h,h2 rfl];rfl
 | false=>rw[Ap h];rfl
theorem CS (h:fa Z= .ok (.bl true)):yQ fa fb Z= .ok (.bl true):=by unfold yQ;rw[h];rfl
theorem CT (h:fa Z= .ok (.bl false)):yQ fa fb Z=fb Z:=by unfold yQ;rw[h];rfl
theorem CV {k:Bool}(h:fa Z= .ok (.bl k)):o1 vg fa Z= .ok (.bl (!k)):=k_o1 h rfl
theorem nM {p:Bool}(h:b Z= .ok p):pU b fa fb Z=if p then fa Z else fb Z:=by unfold pU;rw[h];rfl
theorem bS {g:T->En->Rs En}(h:f Z= .ok t)(hg:g t Z= .ok Z'):ce f g Z= .ok (.nx Z'):=by unfold ce;rw[h];show(match g t Z with | .ok Z'=>Rs.ok (Fl.nx Z') | _=> .bad)=_;rw[hg]
theorem az (h:F Z= .ok (.nx Z')):ar F G Z=G Z':=by unfold ar;rw[h];rfl
theorem kh (h:F Z= .ok (.rt t)):ar F G Z= .ok (.rt t):=by unfold ar;rw[h];rfl
theorem xL (h:F Z= .ok (.ct Z')):ar F G Z= .ok (.ct Z'):=by unfold ar;rw[h];rfl
theorem gO (h:b Z= .ok true):eE b F G Z=F Z:=by unfold eE;rw[h];rfl
theorem fg (h:b Z= .ok false):eE b F G Z=G Z:=by unfold eE;rw[h];rfl
theorem df (h:f Z= .ok t):aM f Z= .ok (.rt t):=by unfold aM;rw[h];rfl
theorem EE (h:f Z= .ok t):BE f Z= .ok (.nx Z):=by unfold BE;rw[h];rfl
theorem dM {fi:En->Rs (List T)}{g:T->En->Rs En}{x:Fl}(h:fi Z= .ok ts)(h2:aW g F ts Z= .ok x):di fi g F Z= .ok x:=by unfold di;rw[h];show(match aW g F ts Z with | .ok f=>Rs.ok f | _=> .bad)=_;rw[h2]
theorem cR {g:T->En->Rs En}(h:g t Z= .ok Z1)(h2:F Z1= .ok (.nx Z2)):aW g F (t::ts) Z=aW g F ts Z2:=by rw[aW,h];show(F Z1 >>= _)=_;rw[h2];rfl
theorem Ao {g:T->En->Rs En}(h:g t Z= .ok Z1)(h2:F Z1= .ok (.ct Z2)):aW g F (t::ts) Z=aW g F ts Z2:=by rw[aW,h];show(F Z1 >>= _)=_;rw[h2];rfl
theorem ug {g:T->En->Rs En}(h:g t Z= .ok Z1)(h2:F Z1= .ok (.rt r)):aW g F (t::ts) Z= .ok (.rt r):=by rw[aW,h];show(F Z1 >>= _)=_;rw[h2];rfl
theorem xK {n:Nat}(h:c Z= .ok false):bz c F (n+1) Z= .ok (.nx Z):=by unfold bz;rw[h]
theorem ri {n:Nat}(h:c Z= .ok true)(h2:F Z= .ok (.nx Z')):bz c F (n+1) Z=bz c F n Z':=by rw[bz,h];simp only[h2]
theorem xJ {n:Nat}(h:c Z= .ok true)(h2:F Z= .ok (.rt t)):bz c F (n+1) Z= .ok (.rt t):=by rw[bz,h];simp only[h2]
theorem cq {n m:Nat}(hl:ts.length=n)(h:F (aN m ts)= .ok (.rt t)):val n m F ts= .ok t:=by unfold val;rw[if_pos hl];unfold bv;rw[h];rfl
theorem CO {n m:Nat}(hl:ts.length=n)(h:F (aN m ts)= .ok (.nx Z)):val n m F ts= .ok .non:=by unfold val;rw[if_pos hl];unfold bv;rw[h];rfl
theorem rk {fi:En->Rs (List T)}{src:List (Option Nat)}{fe:En->Rs T}{h:T->T}(hi:fi Z= .ok ts)(hs:ts.length<=sizeLine)(hn:0<src.length)(hf:∀t∈ts,fe ((bp src Z).set 0 (.va t))= .ok (h t)) :
  dP fi src (gN 0) bT fe Z= .ok (.lst (ts.map h)):=by
 have e:=sG (fe:=fe) (h:=h) ts (bp src Z) (by unfold bp;rw[List.length_map];exact hn) hf
 unfold dP;rw[hi,ax,if_pos hs,e]
theorem uh {fi:En->Rs (List T)}{src:List (Option Nat)}{fc:En->Rs Bool}{fe:En->Rs T}{p:T->Bool}{h:T->T}(hi:fi Z= .ok ts)(hs:ts.length<=sizeLine)(hn:0<src.length)
  (hf:∀t∈ts,fc ((bp src Z).set 0 (.va t))= .ok (p t)/\(p t=true->fe ((bp src Z).set 0 (.va t))= .ok (h t))):dP fi src (gN 0) fc fe Z= .ok (.lst ((ts.filter p).map h)):=by
 have e:=nI (fc:=fc) (fe:=fe) (p:=p) (h:=h) ts (bp src Z) (by unfold bp;rw[List.length_map];exact hn) hf
 unfold dP;rw[hi,ax,if_pos hs,e]
theorem cC (h:fs Z= .ok ts)(hl:ts.length<=sizeLine):ba fs Z= .ok (.tup ts):=by unfold ba;rw[h];show i5 ts=_;unfold i5;rw[if_pos hl]
theorem i7 (h:fs Z= .ok ts)(hl:ts.length<=sizeLine):cV fs Z= .ok (.lst ts):=by unfold cV;rw[h];show i6 ts=_;unfold i6;rw[if_pos hl]
theorem xM {f:En->Rs (List T)}{i:Nat}(h:f Z= .ok l)(hi:i<Z.length)(hl:l.length<=1000):g8 i f Z= .ok (.nx (Z.set i (.ow (.lst l)))):=by
 unfold g8;rw[h,ax,if_pos ⟨hi,au hl (by omega)⟩]
theorem sI {i:Nat}(hi:i<Z.length):g8 i ag Z= .ok (.nx (Z.set i (.ow (.lst [])))):=xM rfl hi (Nat.zero_le _)
theorem mi {i:Nat}(h:f Z= .ok t)(hi:Z[i]? =some (.ow (.lst l)))(hl:l.length<=1000):gR i f Z= .ok (.nx (Z.set i (.ow (.lst (l++ [t]))))):=by
 unfold gR;rw[hi];simp only[h,ax];rw[if_pos (by unfold sizeLine;omega)]
theorem xP {i:Nat}(h:f Z= .ok (.lst m))(hi:Z[i]? =some (.ow (.lst l)))(hl:l.length+m.length<=1000):lM i f Z= .ok (.nx (Z.set i (.ow (.lst (l++m))))):=by
 unfold lM;rw[hi];simp only[h,ax,C9];rw[if_pos (by unfold sizeLine;omega)]
theorem CZ (h:f Z= .ok (.tup l)):iS f Z= .ok l:=by unfold iS;rw[h];rfl
theorem ui (h:f Z= .ok (.lst l)):iS f Z= .ok l:=by unfold iS;rw[h];rfl
theorem uj (h:fs Z= .ok [.lst l]):iE fs Z= .ok (a7 0 l):=by unfold iE;rw[h];rfl
theorem EC {n:Nat}(e:l[n]? =some t):aP (.tup l) (.int (n:Int))= .ok t:=by show(match L2.atI l _ with | some t=>Rs.ok t | none=> .bad)=_;rw[jo e]
theorem CY {n:Nat}(e:l[n]? =some t):aP (.lst l) (.int (n:Int))= .ok t:=by show(match L2.atI l _ with | some t=>Rs.ok t | none=> .bad)=_;rw[jo e]
theorem vq {n:Nat}(h:fa Z= .ok (.tup l))(h2:fb Z= .ok (.int (n:Int)))(e:l[n]? =some t):o2 aP fa fb Z= .ok t:=aD h h2 (EC e)
theorem xN {n:Nat}(h:fa Z= .ok (.lst l))(h2:fb Z= .ok (.int (n:Int)))(e:l[n]? =some t):o2 aP fa fb Z= .ok t:=aD h h2 (CY e)
theorem Ew {fe:En->Rs T}{fl fu:En->Rs (Option Int)}{lo hi:Option Int}(h:fe Z= .ok (.tup l))(h1:fl Z= .ok lo)(h2:fu Z= .ok hi):sl fe fl fu Z= .ok (.tup (kY l lo hi)):=by
 unfold sl;rw[h,h1,h2];rfl
theorem Eu {fe:En->Rs T}{fl fu:En->Rs (Option Int)}{lo hi:Option Int}(h:fe Z= .ok (.lst l))(h1:fl Z= .ok lo)(h2:fu Z= .ok hi):sl fe fl fu Z= .ok (.lst (kY l lo hi)):=by
 unfold sl;rw[h,h1,h2];rfl
theorem CQ {i:Int}(h:f Z= .ok (.int i)):pS f Z= .ok (some i):=by unfold pS;rw[h];rfl
theorem yB (l:List T)(n:Nat):kY l none (some (n:Int))=l.take n:=by
 unfold kY;rw[HT.sIx_none,HT.sIx_nat,List.drop_zero,Nat.sub_zero,List.take_eq_take_iff];omega
theorem rN (l:List T)(n:Nat):kY l (some (n:Int)) none=l.drop n:=by
 unfold kY;rw[HT.sIx_none,HT.sIx_nat]
 by_cases h:n<=l.length
 ·rw[Nat.min_eq_left h]
  exact List.take_of_length_le (by rw[List.length_drop];omega)
 ·rw[Nat.min_eq_right (by omega),List.drop_eq_nil_of_le (Nat.le_refl _),List.drop_eq_nil_of_le (by omega),List.take_nil]
theorem CW {i:Nat}{o:OT}(hi:Z[i]? =some (.ow o))(h:f (disown i Z)= .ok t)(hk:t.nk o.isD=true):ln i f Z= .ok t:=by
 unfold ln;rw[hi];simp only[h,ax,hk,if_true]
theorem EA {i:Nat}{k:Bool}(h:b (disown i Z)= .ok k):CD i b Z= .ok k:=h
theorem xQ {i:Nat}{x:Rs Fl}(h:F (disown i Z)=x):kP i F Z=x:=h
end
theorem mk2 (a b:T):i5 [a,b] = .ok (.tup [a,b]):=by unfold i5;rw[if_pos (au (k:=1000) (by simp only[List.length_cons,List.length_nil];omega))]
theorem iz (n:Nat):(rng 0 n).length=n:=by unfold rng;rw[List.length_map,List.length_range];omega
end Tr
namespace G
open PySem Tr
def Fh:T->Bool
 | .int _=>true
 | _=>false
theorem uv (t:T)(h:t.pl=true):eF [t] = .ok (.bl (Fh t)):=by
 cases t <;> first | rfl | (simp[T.pl]at h;done)
def a8 (t:T)(a b:Int):Bool:=match t with
 | .int i=>decide (a<=i)&&decide (i<=b)
 | _=>false
theorem f7 (t:T)(a b:Int)(h:t.pl=true):aV [t,.int a,.int b] = .ok (.bl (a8 t a b)):=by
 have w:=uv t h
 cases t with
 | int i=>
  simp[aV,val,bv,fo,aN,aM,bM,vr,ch,cl,ad,ag,rP,a8,w,Fh]
  cases decide (a<=i) <;> rfl
 | scr _=>simp[T.pl]at h
 | dct _ _=>simp[T.pl]at h
 | _=>simp[aV,val,bv,fo,aN,aM,bM,vr,ch,cl,ad,ag,a8,w,Fh]
def dI (t:T)(a b:Nat):Bool:=match t with
 | .tup l=>decide (a<=l.length)&&decide (l.length<=b)
 | _=>false
theorem ij (t:T)(a b:Nat)(h:t.pl=true):aJ [t,.int a,.int b] = .ok (.bl (dI t a b)):=by
 cases t with
 | tup l=>
  simp[aJ,val,bv,iK,aN,aM,bM,o1,vr,At,T.ty,ul,ch,cl,ad,ag,cF,T.items,rP,dI]
  cases decide (a<=l.length) <;> rfl
 | scr _=>simp[T.pl]at h
 | dct _ _=>simp[T.pl]at h
 | _=>rfl
def lO (x y:T):Bool:=a8 x 1 9&&(match x with
 | .int i=>a8 y i 9
 | _=>false)
theorem Da (x y:T)(hx:x.pl=true)(hy:y.pl=true):fJ [x,y] = .ok (.bl (lO x y)):=by
 have w:=f7 x 1 9 hx;unfold lO
 cases q:a8 x 1 9 with
 | false=>rw[q]at w;simp[fJ,val,bv,gt,aN,aM,bM,vr,cn,cl,ad,ag,w]
 | true=>
  rw[q]at w
  cases x with
  | int i=>simp[fJ,val,bv,gt,aN,aM,bM,vr,cn,cl,ad,ag,w,f7 y i 9 hy]
  | _=>cases q
def kQ:List Int->Bool
 | a::b::r=>decide (a<b)&&kQ (b::r)
 | _=>true
theorem zr (a b:Int)(r:List Int):kQ (a::b::r)=(decide (a<b)&&kQ (b::r)):=rfl
theorem mI {fe:En->Rs T}{p:T->Bool}{l:List T}{fi:En->Rs (List T)}{src:List (Option Nat)}{Z:En}(hi:fi Z= .ok l)(hs:l.length<=sizeLine)(hn:0<src.length)(hf:∀t∈l,fe ((bp src Z).set 0 (.va t))= .ok (.bl (p t))) :
  cl mJ (ad (dP fi src (gN 0) bT fe) ag) Z= .ok (.bl (l.all p)):=by
 have e:=sG (fe:=fe) (h:=λt=>T.bl (p t)) l (bp src Z) (by unfold bp;rw[List.length_map];exact hn) hf
 simp only[cl,ad,ag,dP,hi,ax,if_pos hs,e,all_map]
def kf (l:List T):T->Bool
 | .int k=>match L2.atI l k,L2.atI l (k+1)with
  | some (.int a),some (.int b)=>decide (a<b)
  | _,_=>false
 | _=>false
theorem k7 {t:T}{j:Int}(h:t∈rng 0 j):∃k:Nat,t= .int k/\(k:Int)<j:=by
 unfold rng at h;obtain⟨k,hk,e⟩:=List.mem_map.mp h;rw[List.mem_range]at hk;exact⟨k,by rw[<-e];simp,by omega⟩
theorem BH:(l:List Int)->l.length<=4->(rng 0 ((l.length:Int) - 1)).all (kf (l.map .int))=kQ l
 | [],_=>rfl
 | [a],_=>rfl
 | [a,b],_=>by simp[rng,List.range_succ,kf,L2.atI,L2.ixN,kQ]
 | [a,b,c],_=>by simp[rng,List.range_succ,kf,L2.atI,L2.ixN,kQ]
 | [a,b,c,d],_=>by simp[rng,List.range_succ,kf,L2.atI,L2.ixN,kQ,Bool.and_assoc]
 | a::b::c::d::e::r,h=>absurd h (by simp only[List.length_cons];omega)
theorem Az (l:List Int)(h:l.length<=4):iF [.tup (l.map .int)] = .ok (.bl (kQ l)):=by
 have hr:iR (ad (o2 bH (cl cF (ad (vr 0) ag)) (cn (.int 1))) ag) [.va (.tup (l.map .int))] = .ok (rng 0 ((l.length:Int) - 1)):=by
  have:sM ((l.length:Int) - 1)=true:=by unfold sM;rw[Bool.and_eq_true];exact⟨decide_eq_true (by omega),decide_eq_true (by omega)⟩
  simp[iR,ad,ag,o2,cl,vr,cn,cF,T.items,bH,this]
 have hs:(rng 0 ((l.length:Int) - 1)).length<=sizeLine:=by
  unfold rng sizeLine;rw[List.length_map,List.length_range];omega
 have e:=mI (fe:=o2 rS (o2 aP (vr 1) (vr 0)) (o2 aP (vr 1) (o2 aH (vr 0) (cn (.int 1))))) (p:=kf (l.map .int)) (src:=[none,some 0]) hr hs (by decide) (λt ht=>by
  obtain⟨k,rfl,hk⟩:=k7 ht
  have h1:(l.map T.int)[k]? =some (.int (l[k]'(by omega))):=by simp
  have h2:(l.map T.int)[k+1]? =some (.int (l[k+1]'(by omega))):=by rw[List.getElem?_map,List.getElem?_eq_getElem (by omega)];rfl
  have g1:=jo h1
  have g2:L2.atI (l.map T.int) ((k:Int)+1)=some (.int (l[k+1]'(by omega))):=jo h2
  simp[o2,vr,bp,cn,aH,aP,T.items,g1,g2,rP,kf])
 rw[BH l h]at e;simp only[iF,val,List.length_singleton,if_true,lu,bv,aM,aN]
 show(do let f <-(do let t <-cl mJ _ [.va (.tup (l.map .int))];Rs.ok (Fl.rt t));_)=_
 rw[e]
 rfl
def jg:List T->Option (List Int)
 | [] =>some []
 | .int i::l=>match jg l with
  | some m=>some (i::m)
  | none=>none
 | _::_=>none
def bZ (t:T):Bool:=dI t 1 4&&(match t with
 | .tup l=>l.all (λu=>a8 u 0 99)&&(match jg l with | some m=>kQ m | none=>false)
 | _=>false)
theorem lX:∀{l:List T} {m:List Int},jg l=some m->l=m.map .int
 | [],m,h=>by cases h;rfl
 | t::l,m,h=>by
  cases t with
  | int i=>
   unfold jg at h
   cases q:jg l with
   | none=>rw[q]at h;cases h
   | some m'=>rw[q]at h;cases h;rw[List.map_cons,<-lX q]
  | _=>cases h
theorem o6:∀{l:List T} {a b:Int},(l.all λu=>a8 u a b)=true->∃m,jg l=some m
 | [],_,_,_=>⟨[],rfl⟩
 | t::l,a,b,h=>by
  rw[List.all_cons,Bool.and_eq_true]at h
  cases t with
  | int i=>
   obtain⟨m,e⟩:=o6 h.2
   exact⟨i::m,by unfold jg;rw[e]⟩
  | _=>exact absurd h.1 (by simp[a8])
theorem cL {t:T}{a b:Nat}(h:dI t a b=true):∃l,t= .tup l/\a<=l.length/\l.length<=b:=by
 cases t with
 | tup l=>unfold dI at h;rw[Bool.and_eq_true]at h;exact⟨l,rfl,of_decide_eq_true h.1,of_decide_eq_true h.2⟩
 | _=>cases h
theorem small {n k:Nat}(h:n<=k)(hk:k<=1000:=by decide):n<=sizeLine:=by unfold sizeLine;omega
theorem sQ (t:T)(h:t.pl=true):bA [t] = .ok (.bl (bZ t)):=by
 have w:aJ [t,.int 1,.int 4] = .ok (.bl (dI t 1 4)):=ij t 1 4 h;unfold bZ
 cases q:dI t 1 4 with
 | false=>rw[q]at w;simp[bA,val,bv,cE,aN,ar,eE,dk,tb,sN,aM,cl,vr,cn,ad,ag,w]
 | true=>
  rw[q]at w;obtain⟨l,rfl,h1,h2⟩:=cL q
  have hp:∀u∈l,u.pl=true:=λu hu=>jG (by unfold T.pl at h;exact h) hu
  have e:=mI (fe:=cl aV (ad (vr 0) (ad (cn (.int 0)) (ad (cn (.int 99)) ag)))) (p:=λu=>a8 u 0 99) (src:=[none]) (fi:=iS (vr 0)) (Z:=[.va (.tup l)]) rfl (small h2) (by decide) (λu hu=>by
   simp[cl,ad,ag,vr,cn,bp,f7 u 0 99 (hp u hu)])
  have w':cl aJ (ad (vr 0) (ad (cn (.int 1)) (ad (cn (.int 4)) ag))) [.va (.tup l)] = .ok (.bl true):=w
  show bA _= .ok (.bl (true&&(l.all (λu=>a8 u 0 99)&&(match jg l with | some m=>kQ m | none=>false))))
  cases qa:l.all λu=>a8 u 0 99 with
  | false=>
   rw[qa]at e
   simp[bA,val,bv,cE,aN,ar,eE,dk,tb,sN,aM,bM,e,w']
  | true=>
   rw[qa]at e;obtain⟨m,em⟩:=o6 qa
   have el:=lX em
   have er:=Az m (by rw[el,List.length_map]at h2;exact h2)
   rw[<-el]at er
   have er':cl iF (ad (vr 0) ag) [.va (.tup l)] = .ok (.bl (kQ m)):=er;simp[bA,val,bv,cE,aN,ar,eE,dk,tb,sN,aM,bM,e,w',er',em]
def at_ (t:T)(k:Nat):T:=match t.items with
 | some l=>l.getD k .non
 | none=> .non
def bi (t:T):Bool:=dI t 3 3&&(match t with
 | .tup [x,y,r] =>lO x y&&bZ r
 | _=>false)
theorem AC (t:T)(h:t.pl=true):da [t] = .ok (.bl (bi t)):=by
 have w:aJ [t,.int 3,.int 3] = .ok (.bl (dI t 3 3)):=ij t 3 3 h;unfold bi
 cases q:dI t 3 3 with
 | false=>rw[q]at w;simp[da,val,bv,eK,aN,aM,bM,cl,vr,cn,ad,ag,w]
 | true=>
  rw[q]at w;obtain⟨l,rfl,h1,h2⟩:=cL q
  match l,h1,h2 with
  | [x,y,r],_,_=>
   simp[T.pl,plS]at h;obtain⟨px,py,pr⟩:=h
   have g0:aP (.tup [x,y,r]) (.int 0)= .ok x:=rfl
   have g1:aP (.tup [x,y,r]) (.int 1)= .ok y:=rfl
   have g2:aP (.tup [x,y,r]) (.int 2)= .ok r:=rfl
   have ep:=Da x y px py
   have er:=sQ r pr
   cases qp:lO x y with
   | false=>rw[qp]at ep;simp[da,val,bv,eK,aN,aM,bM,cl,vr,cn,ad,ag,o2,w,g0,g1,ep,qp]
   | true=>rw[qp]at ep;simp[da,val,bv,eK,aN,aM,bM,cl,vr,cn,ad,ag,o2,w,g0,g1,g2,ep,er,qp]
def a6 (t:T):Bool:=dI t 1 4&&(match t with
 | .tup l=>l.all bi
 | _=>false)
theorem yu (t:T)(h:t.pl=true):dn [t] = .ok (.bl (a6 t)):=by
 have w:aJ [t,.int 1,.int 4] = .ok (.bl (dI t 1 4)):=ij t 1 4 h;unfold a6
 cases q:dI t 1 4 with
 | false=>rw[q]at w;simp[dn,val,bv,d6,aN,aM,bM,cl,vr,cn,ad,ag,w]
 | true=>
  rw[q]at w;obtain⟨l,rfl,h1,h2⟩:=cL q
  have hp:∀u∈l,u.pl=true:=λu hu=>jG (by unfold T.pl at h;exact h) hu
  have e:=mI (fe:=cl da (ad (vr 0) ag)) (p:=bi) (src:=[none]) (fi:=iS (vr 0)) (Z:=[.va (.tup l)]) rfl (small h2) (by decide) (λu hu=>by
   simp[cl,ad,ag,vr,cn,bp,AC u (hp u hu)])
  have w':cl aJ (ad (vr 0) (ad (cn (.int 1)) (ad (cn (.int 4)) ag))) [.va (.tup l)] = .ok (.bl true):=w;simp[dn,val,bv,d6,aN,aM,bM,e,w']
def eU (x y:T):Bool:=a8 x 0 999&&(match x,y with
 | _,.non=>true
 | .int i,_=>a8 y i 999
 | _,_=>false)
theorem AB (x y:T)(hx:x.pl=true)(hy:y.pl=true):dH [x,y] = .ok (.bl (eU x y)):=by
 have w:=f7 x 0 999 hx;unfold eU
 cases q:a8 x 0 999 with
 | false=>rw[q]at w;simp[dH,val,bv,eJ,aN,aM,bM,vr,cn,cl,ad,ag,w]
 | true=>
  rw[q]at w
  cases x with
  | int i=>
   have e:=f7 y i 999 hy
   cases y with
   | non=>simp[dH,val,bv,eJ,aN,aM,bM,yQ,vr,cn,cl,ad,ag,o2,gG,T.isN,w]
   | _=>simp[dH,val,bv,eJ,aN,aM,bM,yQ,vr,cn,cl,ad,ag,o2,gG,T.isN,w,e]
  | _=>cases q
def reads (cs:List T)(c:Int):Nat:=if 0<=c then(match cs[c.toNat]? with
 | some (.tup [_,_,.tup r])=>r.length
 | _=>0)else 0
def aZ (cs:List T)(t:T):Bool:=match t with
 | .tup [.int c,.int k] =>decide (0<=c)&&decide (c<cs.length)&&(decide (0<=k)&&decide (k<reads cs c))
 | _=>false
theorem kM {t:T}(h:bi t=true):∃x y r,t= .tup [x,y,.tup r]:=by
 unfold bi at h;rw[Bool.and_eq_true]at h;obtain⟨h1,h2⟩:=h;obtain⟨l,rfl,h3,h4⟩:=cL h1
 match l,h3,h4,h2 with
 | [x,y,r],_,_,h2=>
  simp only[Bool.and_eq_true]at h2;obtain⟨_,h5⟩:=h2;unfold bZ at h5;rw[Bool.and_eq_true]at h5;obtain⟨m,rfl,_⟩:=cL h5.1;exact⟨x,y,m,rfl⟩
theorem cH {t:T}{a b:Int}(h:a8 t a b=true):∃i,t= .int i/\a<=i/\i<=b:=by
 cases t with
 | int i=>unfold a8 at h;rw[Bool.and_eq_true]at h;exact⟨i,rfl,of_decide_eq_true h.1,of_decide_eq_true h.2⟩
 | _=>cases h
theorem uw (cs:List T)(t:T)(hc:a6 (.tup cs)=true)(h:t.pl=true):cZ [.tup cs,t] = .ok (.bl (aZ cs t)):=by
 have w:aJ [t,.int 2,.int 2] = .ok (.bl (dI t 2 2)):=ij t 2 2 h
 cases q:dI t 2 2 with
 | false=>
  rw[q]at w
  have:aZ cs t=false:=by
   unfold aZ;split
   ·cases q
   ·rfl
  simp[cZ,val,bv,eI,aN,ar,eE,jU,dk,tb,sN,aM,cl,vr,cn,ad,ag,w,this]
 | true=>
  rw[q]at w;obtain⟨l,rfl,h1,h2⟩:=cL q
  match l,h1,h2 with
  | [x,y],_,_=>
   simp[T.pl,plS]at h;obtain⟨px,py⟩:=h
   have g0:aP (.tup [x,y]) (.int 0)= .ok x:=rfl
   have g1:aP (.tup [x,y]) (.int 1)= .ok y:=rfl
   have gl:cF [.tup cs] = .ok (.int cs.length):=rfl
   have e1:=f7 x 0 ((cs.length:Int) - 1) px
   cases q1:a8 x 0 ((cs.length:Int) - 1)with
   | false=>
    rw[q1]at e1
    have:aZ cs (.tup [x,y])=false:=by
     cases x with
     | int c=>
      cases y with
      | int k=>
       simp only[a8,Bool.and_eq_false_iff,decide_eq_false_iff_not]at q1;simp only[aZ,Bool.and_eq_false_iff,decide_eq_false_iff_not]
       omega
      | _=>rfl
     | _=>rfl
    simp[cZ,val,bv,eI,aN,ar,eE,jU,dk,tb,sN,aM,cl,vr,cn,ad,ag,o2,bH,w,g0,gl,e1,this]
   | true=>
    rw[q1]at e1;obtain⟨c,rfl,c1,c2⟩:=cH q1;obtain⟨n,rfl⟩:=Int.eq_ofNat_of_zero_le c1
    have hn:n<cs.length:=by omega
    have hcl:bi cs[n] =true:=by
     unfold a6 at hc;rw[Bool.and_eq_true]at hc;exact List.all_eq_true.mp hc.2 _ (List.getElem_mem hn)
    obtain⟨a,b,r,er⟩:=kM hcl
    have g2:aP (.tup cs) (.int (n:Int))= .ok (.tup [a,b,.tup r]):=by
     simp only[aP,T.items];rw[jo (List.getElem?_eq_getElem hn),er]
    have g3:aP (.tup [a,b,.tup r]) (.int 2)= .ok (.tup r):=rfl
    have gr:cF [.tup r] = .ok (.int r.length):=rfl
    have e2:=f7 y 0 ((r.length:Int) - 1) py
    have:aZ cs (.tup [.int n,y])=a8 y 0 ((r.length:Int) - 1):=by
     have er2:reads cs (n:Int)=r.length:=by
      unfold reads;rw[if_pos c1,Int.toNat_natCast,List.getElem?_eq_getElem hn,er]
     cases y with
     | int k=>
      simp only[aZ,a8,er2];rw[decide_eq_true c1,decide_eq_true (show(n:Int)<cs.length by omega)]
      simp only[Bool.true_and]
      congr 1
      exact decide_eq_decide.mpr (by omega)
     | _=>rfl
    simp[cZ,val,bv,eI,aN,ar,eE,jU,dk,tb,sN,aM,cl,vr,cn,ad,ag,o2,bH,w,g0,g1,g2,g3,gl,gr,e1,e2,this]
def br (cs:List T)(t:T):Bool:=match t with
 | .tup [a,b,x,y] =>eU x y&&(aZ cs a&&(aZ cs b&& !aR a b))
 | _=>false
theorem dg {cs:List T}{t:T}(h:aZ cs t=true):∃c k:Int,t= .tup [.int c,.int k]:=by
 unfold aZ at h
 split at h
 ·exact⟨_,_,rfl⟩
 ·cases h
theorem yp (cs:List T)(t:T)(hc:a6 (.tup cs)=true)(h:t.pl=true):bK [.tup cs,t] = .ok (.bl (br cs t)):=by
 have w:aJ [t,.int 4,.int 4] = .ok (.bl (dI t 4 4)):=ij t 4 4 h
 cases q:dI t 4 4 with
 | false=>
  rw[q]at w
  have:br cs t=false:=by
   unfold br;split
   ·cases q
   ·rfl
  simp[bK,val,bv,cG,aN,ar,eE,jU,dk,tb,sN,aM,cl,vr,cn,ad,ag,w,this]
 | true=>
  rw[q]at w;obtain⟨l,rfl,h1,h2⟩:=cL q
  match l,h1,h2 with
  | [a,b,x,y],_,_=>
   simp[T.pl,plS]at h;obtain⟨pa,pb,px,py⟩:=h
   have g0:aP (.tup [a,b,x,y]) (.int 0)= .ok a:=rfl
   have g1:aP (.tup [a,b,x,y]) (.int 1)= .ok b:=rfl
   have g2:aP (.tup [a,b,x,y]) (.int 2)= .ok x:=rfl
   have g3:aP (.tup [a,b,x,y]) (.int 3)= .ok y:=rfl
   have e1:=AB x y px py
   have e2:=uw cs a hc pa
   have e3:=uw cs b hc pb
   show _=Rs.ok (T.bl (eU x y&&(aZ cs a&&(aZ cs b&& !aR a b))))
   cases q1:eU x y with
   | false=>
    rw[q1]at e1
    simp[bK,val,bv,cG,aN,ar,eE,jU,dk,tb,sN,aM,cl,vr,cn,ad,ag,o2,w,g2,g3,e1]
   | true=>
    rw[q1]at e1
    cases q2:aZ cs a with
    | false=>
     rw[q2]at e2
     simp[bK,val,bv,cG,aN,ar,eE,jU,dk,tb,sN,aM,bM,cl,vr,cn,ad,ag,o2,w,g0,g2,g3,e1,e2]
    | true=>
     rw[q2]at e2
     cases q3:aZ cs b with
     | false=>
      rw[q3]at e3
      simp[bK,val,bv,cG,aN,ar,eE,jU,dk,tb,sN,aM,bM,cl,vr,cn,ad,ag,o2,w,g0,g1,g2,g3,e1,e2,e3]
     | true=>
      rw[q3]at e3;obtain⟨c,k,rfl⟩:=dg q2
      have f:fY (.tup [.int c,.int k]) b=true:=ii (by simp[T.dep,deps]) rfl (T.pl_nd _ pb)
      have g4:k9 (.tup [.int c,.int k]) b= .ok (.bl (!aR (.tup [.int c,.int k]) b)):=by unfold k9;rw[if_pos f]
      simp[bK,val,bv,cG,aN,ar,eE,jU,dk,tb,sN,aM,bM,cl,vr,cn,ad,ag,o2,w,g0,g1,g2,g3,g4,e1,e2,e3]
def iG (cs:List T)(t:T):Bool:=dI t 0 8&&(match t with
 | .tup l=>l.all (br cs)
 | _=>false)
theorem vE (cs:List T)(t:T)(hc:a6 (.tup cs)=true)(h:t.pl=true):cN [.tup cs,t] = .ok (.bl (iG cs t)):=by
 have w:aJ [t,.int 0,.int 8] = .ok (.bl (dI t 0 8)):=ij t 0 8 h;unfold iG
 cases q:dI t 0 8 with
 | false=>rw[q]at w;simp[cN,val,bv,dB,aN,aM,bM,cl,vr,cn,ad,ag,w]
 | true=>
  rw[q]at w;obtain⟨l,rfl,h1,h2⟩:=cL q
  have hp:∀u∈l,u.pl=true:=λu hu=>jG (by unfold T.pl at h;exact h) hu
  have e:=mI (fe:=cl bK (ad (vr 1) (ad (vr 0) ag))) (p:=br cs) (src:=[none,some 0]) (fi:=iS (vr 1)) (Z:=[.va (.tup cs),.va (.tup l)]) rfl (small h2) (by decide) (λu hu=>by
   simp[cl,ad,ag,vr,cn,bp,yp cs u hc (hp u hu)])
  have w':cl aJ (ad (vr 1) (ad (cn (.int 0)) (ad (cn (.int 8)) ag))) [.va (.tup cs),.va (.tup l)] = .ok (.bl true):=w;simp[cN,val,bv,dB,aN,aM,bM,e,w']
def kK (t:T):Bool:=match t with
 | .tup [.tup cs,ls] =>a6 (.tup cs)&&iG cs ls
 | _=>false
theorem yo (t:T)(h:t.pl=true):cY [t] = .ok (.bl (kK t)):=by
 have w:aJ [t,.int 2,.int 2] = .ok (.bl (dI t 2 2)):=ij t 2 2 h
 cases q:dI t 2 2 with
 | false=>
  rw[q]at w
  have:kK t=false:=by
   unfold kK;split
   ·cases q
   ·rfl
  simp[cY,val,bv,dO,aN,aM,bM,cl,vr,cn,ad,ag,w,this]
 | true=>
  rw[q]at w;obtain⟨l,rfl,h1,h2⟩:=cL q
  match l,h1,h2 with
  | [x,y],_,_=>
   simp[T.pl,plS]at h;obtain⟨px,py⟩:=h
   have g0:aP (.tup [x,y]) (.int 0)= .ok x:=rfl
   have g1:aP (.tup [x,y]) (.int 1)= .ok y:=rfl
   have e1:=yu x px
   cases q1:a6 x with
   | false=>
    rw[q1]at e1
    have:kK (.tup [x,y])=false:=by
     cases x with
     | tup cs=>show(a6 (.tup cs)&&_)=false;rw[q1];rfl
     | _=>rfl
    simp[cY,val,bv,dO,aN,aM,bM,cl,vr,cn,ad,ag,o2,w,g0,e1,this]
   | true=>
    rw[q1]at e1
    cases x with
    | tup cs=>
     have e2:=vE cs y q1 py
     have:kK (.tup [.tup cs,y])=iG cs y:=by show(a6 (.tup cs)&&_)=_;rw[q1];rfl
     simp[cY,val,bv,dO,aN,aM,bM,cl,vr,cn,ad,ag,o2,w,g0,g1,e1,e2,this]
    | _=>cases q1
theorem fK:∀m:List Int,deps (m.map .int)=0
 | [] =>rfl
 | a::m=>by rw[List.map_cons,deps,fK m];rfl
def jm (i n:Nat):List T:=(rng 0 n).map λt=>T.tup [.int i,t]
def tK:T->Nat
 | .tup [_,_,.tup r] =>r.length
 | _=>0
def dN:Nat->List T->List T
 | _,[] => []
 | i,c::r=>jm i (tK c)++dN (i+1) r
theorem fh {t:T}(h:bi t=true):∃x y r,t= .tup [x,y,.tup r]/\1<=r.length/\r.length<=4:=by
 obtain⟨x,y,r,rfl⟩:=kM h
 have:bZ (.tup r)=true:=by
  have h':(lO x y&&bZ (.tup r))=true:=h;rw[Bool.and_eq_true]at h';exact h'.2
 unfold bZ at this;rw[Bool.and_eq_true]at this;obtain⟨l,e,h1,h2⟩:=cL this.1;cases e;exact⟨x,y,r,rfl,h1,h2⟩
theorem fZ (i n:Nat):(jm i n).length=n:=by unfold jm;rw[List.length_map,iz]
abbrev evF:En->Rs Fl:=ce (o2 aH (vr 1) (dP (iR (ad (cl cF (ad (o2 aP (vr 3) (cn (.int 2))) ag)) ag)) [none,some 2] (gN 0) bT (ba (ad (vr 1) (ad (vr 0) ag))))) (gN 1)
abbrev evG:T->En->Rs En:=gT 2 (cT (gN 2) (cT (gN 3) iO))
theorem C5 {f:En->Rs (List T)}{Z:En}{j:Int}(h:f Z= .ok [.int j])(h0:0<=j)(h1:j<=100000):iR f Z= .ok (rng 0 j):=by
 have e:sM j=true:=by unfold sM;rw[Bool.and_eq_true];exact⟨decide_eq_true (by omega),decide_eq_true (by omega)⟩
 unfold iR;rw[h]
 show(if sM j=true then _ else _)=_
 rw[e];rfl
theorem uM (l m:List T)(h:(l++m).length<=1000):aH (.lst l) (.lst m)= .ok (.lst (l++m)):=by
 show i6 (l++m)=_
 unfold i6;rw[if_pos (au h)]
theorem pO (l m:List T)(h:(l++m).length<=1000):aH (.tup l) (.tup m)= .ok (.tup (l++m)):=by
 show i5 (l++m)=_
 unfold i5;rw[if_pos (au h)]
theorem EL (c0 acc x y:T)(r:List T)(i:Nat)(h:r.length<=4) :
  dP (iR (ad (cl cF (ad (o2 aP (vr 3) (cn (.int 2))) ag)) ag)) [none,some 2] (gN 0) bT (ba (ad (vr 1) (ad (vr 0) ag))) [.va c0,.va acc,.va (.int i),.va (.tup [x,y,.tup r])] = .ok (.lst (jm i r.length)):=
 rk (C5 (j:=(r.length:Int)) rfl (by omega) (by omega)) (au (k:=4) (by rw[iz];exact h)) (by simp) λt _=>mk2 _ _
theorem Av (c0 x y:T)(acc r:List T)(i:Nat)(h:r.length<=4)(ha:acc.length<=100):evF [.va c0,.va (.lst acc),.va (.int i),.va (.tup [x,y,.tup r])] = .ok (.nx [.va c0,.va (.lst (acc++jm i r.length)),.va (.int i),.va (.tup [x,y,.tup r])]):=
 bS (aD (t:=.lst acc) rfl (EL c0 (.lst acc) x y r i h) (uM _ _ (by rw[List.length_append,fZ];omega))) rfl
theorem ur:∀(cs:List T) (c0:T) (acc:List T) (i:Nat) (s2 s3:Sl),(∀c∈cs,bi c=true)->acc.length+4*cs.length<=100 →
  ∃y2 y3,aW evG evF (a7 i cs) [.va c0,.va (.lst acc),s2,s3] = .ok (.nx [.va c0,.va (.lst (acc++dN i cs)),y2,y3])
 | [],c0,acc,i,s2,s3,_,_=>⟨s2,s3,by simp[a7,aW,dN]⟩
 | c::cs,c0,acc,i,s2,s3,hc,hl=>by
  obtain⟨x,y,r,rfl,r1,r2⟩:=fh (hc c List.mem_cons_self);rw[List.length_cons]at hl;obtain⟨z2,z3,ih⟩:=ur cs c0 (acc++jm i r.length) (i+1) (.va (.int i)) (.va (.tup [x,y,.tup r])) (λc h=>hc c (List.mem_cons_of_mem _ h)) (by rw[List.length_append,fZ];omega)
  refine⟨z2,z3,?_⟩
  rw[a7,cR (Z1:=[.va c0,.va (.lst acc),.va (.int i),.va (.tup [x,y,.tup r])]) rfl (Av c0 x y acc r i r2 (by omega)),ih,dN,List.append_assoc]
  rfl
theorem bU {cs:List T}(hc:a6 (.tup cs)=true):(∀c∈cs,bi c=true)/\1<=cs.length/\cs.length<=4:=by
 unfold a6 at hc;rw[Bool.and_eq_true]at hc;obtain⟨l,e,h1,h2⟩:=cL hc.1;cases e;exact⟨λc h=>List.all_eq_true.mp hc.2 c h,h1,h2⟩
theorem yq (cs:List T)(hc:a6 (.tup cs)=true):dy [.tup cs] = .ok (.lst (dN 0 cs)):=by
 obtain⟨ha,h1,h2⟩:=bU hc;obtain⟨y2,y3,e⟩:=ur cs (.tup cs) [] 0 .em .em ha (by simp;omega)
 rw[List.nil_append]at e;refine cq rfl ?_
 unfold eV;rw[az (Z':=[.va (.tup cs),.va (.lst []),.em,.em]) rfl,az ((dM (ts:=a7 0 cs) rfl e))]
 rfl
theorem Ai {n k:Nat}(h:k<n):T.int (k:Int)∈rng 0 (n:Int):=by
 unfold rng;exact List.mem_map.mpr ⟨k,List.mem_range.mpr (by omega),by simp⟩
theorem jZ (cs:List T)(c:Nat):reads cs (c:Int)=tK (cs.getD c .non):=by
 unfold reads;rw[if_pos (by omega),Int.toNat_natCast,List.getD_eq_getElem?_getD]
 cases cs[c]? with
 | none=>rfl
 | some t=>
  cases t with
  | tup l=>
   match l with
   | [] =>rfl
   | [_] =>rfl
   | [_,_] =>rfl
   | [_,_,z] =>cases z <;> rfl
   | _::_::z::_::_=>cases z <;> rfl
  | _=>rfl
theorem re {g:T->En->Rs En}{F:En->Rs Fl}{p:T->Bool}(J:En->Prop):∀(ts:List T),(∀t∈ts,∀Z,J Z->∃Z1,g t Z= .ok Z1/\(p t=true->∃Z2,F Z1= .ok (.nx Z2)/\J Z2)/\(p t=false->F Z1= .ok (.rt (.bl false)))) →
  ∀Z,J Z->(ts.all p=true->∃Z',aW g F ts Z= .ok (.nx Z')/\J Z')/\(ts.all p=false->aW g F ts Z= .ok (.rt (.bl false)))
 | [],_,Z,hj=>⟨λ_=>⟨Z,rfl,hj⟩,λh=>(by cases h)⟩
 | t::ts,hs,Z,hj=>by
  obtain⟨Z1,h1,h2,h3⟩:=hs t List.mem_cons_self Z hj;rw[List.all_cons]
  cases q:p t with
  | false=>exact⟨λh=>(by cases h),λ_=>ug h1 (h3 q)⟩
  | true=>
   obtain⟨Z2,e2,j2⟩:=h2 q;rw[cR h1 e2,Bool.true_and];exact re J ts (λt ht=>hs t (List.mem_cons_of_mem _ ht)) Z2 j2
mutual
def sm (n:Nat):T->Bool
 | .dct _ _=>false
 | .scr _=>false
 | .tup l=>decide (l.length<=n)&&sms n l
 | .lst l=>decide (l.length<=n)&&sms n l
 | _=>true
def sms (n:Nat):List T->Bool
 | [] =>true
 | t::l=>sm n t&&sms n l
end
mutual
theorem A4 {n:Nat}:∀(t:T),sm n t=true->t.pl=true
 | .scr _,h=>by simp[sm]at h
 | .dct _ _,h=>by simp[sm]at h
 | .tup l,h=>by rw[sm,Bool.and_eq_true]at h;rw[T.pl];exact sms_pl l h.2
 | .lst l,h=>by rw[sm,Bool.and_eq_true]at h;rw[T.pl];exact sms_pl l h.2
 | .non,_=>by simp[T.pl]
 | .bl _,_=>by simp[T.pl]
 | .int _,_=>by simp[T.pl]
 | .str _,_=>by simp[T.pl]
theorem sms_pl {n:Nat}:∀(l:List T),sms n l=true->plS l=true
 | [],_=>by simp[plS]
 | t::l,h=>by rw[sms,Bool.and_eq_true]at h;rw[plS,A4 t h.1,sms_pl l h.2];rfl
end
theorem tG {n:Nat}:∀{l:List T},sms n l=true↔ ∀t∈l,sm n t=true
 | [] =>by simp[sms]
 | t::l=>by rw[sms,Bool.and_eq_true,tG (l:=l)];simp
theorem sm_tup {n:Nat}{l:List T}:sm n (.tup l)=true↔l.length<=n/\∀t∈l,sm n t=true:=by rw[sm,Bool.and_eq_true,tG,decide_eq_true_iff]
theorem ji {i j:Int}(h:0<j):jL (.int i) (.int j)= .ok (.int (i % j)):=by show(if _ then _ else _)=_;rw[if_pos h]
theorem lq {i j:Int}(h:0<j)(h2:j<1073741824):jO (.int i) (.int j)= .ok (.int (i / j)):=by show(if _ then _ else _)=_;rw[if_pos ⟨h,h2⟩]
theorem jK {i j:Int}(h : -18446744073709551616<i)(h2:i<18446744073709551616):ca (.int i) (.int j)= .ok (.int (i*j)):=by
 show sE (.int i) (.int j)=_
 show(if _ then _ else _)=_
 rw[if_pos (.inl ⟨by omega,by omega⟩)]
theorem xt {i j:Int}(h : -18446744073709551616<j)(h2:j<18446744073709551616):ca (.int i) (.int j)= .ok (.int (i*j)):=by
 show sE (.int i) (.int j)=_
 show(if _ then _ else _)=_
 rw[if_pos (.inr ⟨by omega,by omega⟩)]
theorem Dd (ns:List Int)(k:Nat)(hn:ns.length<=63):∃c,ff [.scr ns,.int k] = .ok (.int c):=by
 have e0:o2 kX (vr 0) (cV ag) [.va (.scr ns),.va (.int k)] = .ok (.bl (i9 ns [])):=by
  refine aD (t:=.scr ns) (u:=.lst []) rfl (i7 (ts:=[]) rfl (au (k:=0) (Nat.le_refl _))) ?_
  unfold kX;rw[if_pos (ii (by simp[T.dep]) rfl rfl)]
  rfl
 cases ns with
 | nil=>
  refine⟨7*k,cq rfl ?_⟩
  unfold fw
  refine kh ((gO (cr e0)).trans (df (aD (t:=.int 7) (u:=.int k) rfl rfl (jK (by omega) (by omega)))))
 | cons a r=>
  have hl:(0:Int)<((a::r).length:Nat):=by simp only[List.length_cons];omega
  have hl2:(((a::r).length:Nat):Int)<1073741824:=by simp only[List.length_cons]at hn ⊢;omega
  have hi:k % (a::r).length<(a::r).length:=Nat.mod_lt _ (by simp)
  have g0:o2 jL (vr 1) (cl cF (ad (vr 0) ag)) [.va (.scr (a::r)),.va (.int k)] = .ok (.int ((k % (a::r).length:Nat):Int)):=by
   refine aD (t:=.int k) (u:=.int ((a::r).length:Nat)) rfl ?_ (by rw[ji hl];rfl)
   refine bh (ts:=[.scr (a::r)]) rfl ?_
   show Rs.ok (T.int (((a::r).map T.int).length:Nat))=_
   rw[List.length_map]
  have g1:aP (.scr (a::r)) (.int ((k % (a::r).length:Nat):Int))= .ok (.int (a::r)[k % (a::r).length]):=by
   have e:((a::r).map T.int)[k % (a::r).length]? =some (.int (a::r)[k % (a::r).length]):=by rw[List.getElem?_map,List.getElem?_eq_getElem hi];rfl
   show(match L2.atI ((a::r).map T.int) ((k % (a::r).length:Nat):Int)with | some t=>Rs.ok t | none=> .bad)=_
   rw[jo e]
  have g2:o2 jO (vr 1) (cl cF (ad (vr 0) ag)) [.va (.scr (a::r)),.va (.int k)] = .ok (.int ((k:Int) / ((a::r).length:Nat))):=by
   refine aD (t:=.int k) (u:=.int ((a::r).length:Nat)) rfl ?_ (lq hl hl2)
   refine bh (ts:=[.scr (a::r)]) rfl ?_
   show Rs.ok (T.int (((a::r).map T.int).length:Nat))=_
   rw[List.length_map]
  refine⟨(a::r)[k % (a::r).length] +6553*((k:Int) / ((a::r).length:Nat)),cq rfl ?_⟩
  unfold fw
  show ar _ _ [.va (.scr (a::r)),.va (.int k)] =_
  refine(az (Z':=[.va (.scr (a::r)),.va (.int k)]) ((fg (cr e0)).trans rfl)).trans ?_
  exact df (aD (aD (t:=.scr (a::r)) rfl g0 g1) (aD (t:=.int 6553) rfl g2 (jK (by omega) (by omega))) rfl)
theorem dq (ns:List Int)(k:Nat)(m:Int)(hn:ns.length<=63)(hm:0<m):∃r,aw [.scr ns,.int k,.int m] = .ok (.int r)/\0<=r/\r<m:=by
 obtain⟨c,hc⟩:=Dd ns k hn
 have b1:∀x:Int,0<=x % 2147483563/\x % 2147483563<2147483563:=λx=>⟨Int.emod_nonneg _ (by omega),Int.emod_lt_of_pos _ (by omega)⟩
 have b2:∀x:Int,0<=x % 2147483399/\x % 2147483399<2147483399:=λx=>⟨Int.emod_nonneg _ (by omega),Int.emod_lt_of_pos _ (by omega)⟩
 generalize hx:(c % 2147483563*69069+104723*((k:Int)+1)) % 2147483563=x
 have hx':=b1 (c % 2147483563*69069+104723*((k:Int)+1));rw[hx]at hx'
 generalize hy:(x*x+x / 3) % 2147483399=y
 have hy':=b2 (x*x+x / 3);rw[hy]at hy';refine⟨(y*y+y / 7) % 2147483647 / 11 % m,cq rfl ?_,Int.emod_nonneg _ (by omega),Int.emod_lt_of_pos _ hm⟩
 show d8 [.va (.scr ns),.va (.int k),.va (.int m),.em] =_
 unfold d8
 have s1:ce (o2 jL (o2 aH (o2 ca (o2 jL (cl ff (ad (vr 0) (ad (vr 1) ag))) (cn (.int 2147483563))) (cn (.int 69069))) (o2 ca (cn (.int 104723)) (o2 aH (vr 1) (cn (.int 1))))) (cn (.int 2147483563))) (gN 3) [.va (.scr ns),.va (.int k),.va (.int m),.em] = .ok (.nx [.va (.scr ns),.va (.int k),.va (.int m),.va (.int x)]):=by
  refine bS (t:=.int x) (aD (u:=.int 2147483563) (aD (aD (u:=.int 69069) (aD (u:=.int 2147483563) (bh (ts:=[.scr ns,.int k]) rfl hc) rfl (ji (by omega))) rfl (xt (by omega) (by omega))) (aD (t:=.int 104723) (u:=.int ((k:Int)+1)) rfl rfl (jK (by omega) (by omega))) rfl) rfl ?_) rfl
  rw[ji (by omega),hx]
 have s2:ce (o2 jL (o2 aH (o2 ca (vr 3) (vr 3)) (o2 jO (vr 3) (cn (.int 3)))) (cn (.int 2147483399))) (gN 3) [.va (.scr ns),.va (.int k),.va (.int m),.va (.int x)] = .ok (.nx [.va (.scr ns),.va (.int k),.va (.int m),.va (.int y)]):=by
  refine bS (t:=.int y) (aD (u:=.int 2147483399) (aD (aD (t:=.int x) (u:=.int x) rfl rfl (jK (by omega) (by omega))) (aD (t:=.int x) (u:=.int 3) rfl rfl (lq (by omega) (by omega))) rfl) rfl ?_) rfl
  rw[ji (by omega),hy]
 rw[az s1,az s2];exact df (aD (u:=.int m) (aD (u:=.int 11) (aD (u:=.int 2147483647) (aD (aD (t:=.int y) (u:=.int y) rfl rfl (jK (by omega) (by omega))) (aD (t:=.int y) (u:=.int 7) rfl rfl (lq (by omega) (by omega))) rfl) rfl (ji (by omega))) rfl (lq (by omega) (by omega))) rfl (ji hm))
theorem dF {ns:List Int}{k:Nat}{m r:Int}{f g h:En->Rs T}{Z:En}(e:aw [.scr ns,.int k,.int m] = .ok (.int r))(h1:f Z= .ok (.scr ns))(h2:g Z= .ok (.int k))(h3:h Z= .ok (.int m)) :
  cl aw (ad f (ad g (ad h ag))) Z= .ok (.int r):=bh (aq h1 (aq h2 (aq h3 rfl))) e
theorem qF:∀(l:List Int) (z y:Int),kQ (l++ [z])=true->z<y->kQ (l++ [z] ++ [y])=true
 | [],z,y,_,h=>by simp[kQ,h]
 | [a],z,y,h,hy=>by
  simp[kQ]at h ⊢
  omega
 | a::b::l,z,y,h,hy=>by
  have h':kQ (a::b::(l++ [z]))=true:=h;rw[zr,Bool.and_eq_true]at h'
  have ih:=qF (b::l) z y h'.2 hy
  show kQ (a::b::(l++ [z] ++ [y]))=true
  rw[zr,h'.1];exact ih
theorem jJ:∀l:List Int,jg (l.map .int)=some l
 | [] =>rfl
 | a::l=>by rw[List.map_cons,jg,jJ l]
def RdOk (l:List Int):Prop:=∃(l':List Int) (z:Int),l=l'++ [z]/\kQ l=true/\(∀x∈l,0<=x/\x<=5*l.length)/\z<=5*l.length
abbrev clF:En->Rs Fl:=ce (o2 aH (vr 3) (ba (ad (o2 aH (o2 aH (o2 aP (vr 3) (o1 pd (cn (.int 1)))) (cn (.int 1))) (cl aw (ad (vr 0) (ad (o2 aH (o2 aH (vr 1) (cn (.int 3))) (vr 4)) (ad (cn (.int 5)) ag))))) ag))) (gN 3)
theorem Aq (l:List T)(z:T):aP (.tup (l++ [z])) (.int (-1))= .ok z:=by
 have e:L2.atI (l++ [z]) (-1)=some z:=by
  unfold L2.atI L2.ixN;simp;rw[if_pos (by omega)]
  have q:(-1+((l.length:Int)+1)).toNat=l.length:=by omega
  show(l++ [z])[(-1+((l.length:Int)+1)).toNat]? =some z
  rw[q];simp
 show(match L2.atI (l++ [z]) (-1)with | some t=>Rs.ok t | none=> .bad)=_
 rw[e]
theorem AI (ns:List Int)(hn:ns.length<=63)(a j:Nat)(s:T)(l:List Int)(h:RdOk l)(hl:l.length<=3):∃l2,clF [.va (.scr ns),.va (.int a),.va s,.va (.tup (l.map .int)),.va (.int j)] = .ok (.nx [.va (.scr ns),.va (.int a),.va s,.va (.tup (l2.map .int)),.va (.int j)])/\RdOk l2/\l2.length=l.length+1:=by
 obtain⟨l',z,rfl,h1,h2,h3⟩:=h;obtain⟨d,ed,d0,d1⟩:=dq ns (a+3+j) 5 hn (by omega)
 refine⟨l'++ [z] ++ [z+1+d],?_,⟨l'++ [z],z+1+d,rfl,qF l' z _ h1 (by omega),?_,?_⟩,by simp⟩
 ·refine bS (t:=.tup ((l'++ [z] ++ [z+1+d]).map .int)) (aD (t:=.tup ((l'++ [z]).map .int)) (u:=.tup [.int (z+1+d)]) rfl (cC (ts:=[.int (z+1+d)]) (aq (aD (t:=.int (z+1)) (u:=.int d) (aD (t:=.int z) (u:=.int 1) (aD (t:=.tup ((l'++ [z]).map .int)) (u:=.int (-1)) rfl rfl ?_) rfl rfl) (dF (k:=a+3+j) ed rfl ?_ rfl) rfl) rfl) (au (k:=1) (by simp))) ?_) rfl
  ·rw[List.map_append];exact Aq _ _
  ·refine aD (t:=.int ((a:Int)+3)) (u:=.int j) (aD (t:=.int a) (u:=.int 3) rfl rfl rfl) rfl ?_
   show Rs.ok (T.int ((a:Int)+3+j))=_
   congr 2
  ·rw[List.map_append (l₁:=l'++ [z])]
   exact pO _ _ (by rw[List.length_append,List.length_map];simp at hl ⊢;omega)
 ·intro x hx
  rcases List.mem_append.mp hx with hx | hx
  ·have:=h2 x hx
   simp only[List.length_append,List.length_singleton]at this ⊢;omega
  ·rw[List.mem_singleton]at hx
   subst hx
   have hz:=h2 z (by simp)
   simp only[List.length_append,List.length_singleton]at h3 ⊢;omega
 ·simp only[List.length_append,List.length_singleton]at h3 ⊢
  omega
theorem uG (ns:List Int)(hn:ns.length<=63)(a:Nat)(s:T):∀(js:List Nat) (l:List Int) (s4:Sl),RdOk l->l.length+js.length<=4->∃l2 s5,aW (gN 4) clF (js.map λ(j:Nat)=>T.int j) [.va (.scr ns),.va (.int a),.va s,.va (.tup (l.map .int)),s4] = .ok (.nx [.va (.scr ns),.va (.int a),.va s,.va (.tup (l2.map .int)),s5])/\RdOk l2/\l2.length=l.length+js.length
 | [],l,s4,h,_=>⟨l,s4,rfl,h,rfl⟩
 | j::js,l,s4,h,hl=>by
  rw[List.length_cons]at hl;obtain⟨l2,e2,h2,n2⟩:=AI ns hn a j s l h (by omega)
  obtain⟨l3,s5,e3,h3,n3⟩:=uG ns hn a s js l2 (.va (.int j)) h2 (by omega)
  refine⟨l3,s5,?_,h3,by rw[n3,n2,List.length_cons];omega⟩
  rw[List.map_cons,cR (Z1:=[.va (.scr ns),.va (.int a),.va s,.va (.tup (l.map .int)),.va (.int j)]) rfl e2];exact e3
theorem jD (n:Nat):rng 0 (n:Int)=(List.range n).map λ(j:Nat)=>T.int j:=by
 unfold rng;simp
theorem RdOk.reads {l:List Int}(h:RdOk l)(hl:l.length<=4):bZ (.tup (l.map .int))=true:=by
 obtain⟨l',z,rfl,h1,h2,h3⟩:=h;unfold bZ;rw[Bool.and_eq_true];refine⟨?_,?_⟩
 ·simp[dI];simp at hl;omega
 ·show(((l'++ [z]).map T.int).all (λu=>a8 u 0 99)&&(match jg ((l'++ [z]).map T.int)with | some m=>kQ m | none=>false))=true
  rw[jJ]
  show(_&&kQ (l'++ [z]))=true
  rw[h1,Bool.and_true,List.all_eq_true];intro t ht;obtain⟨x,hx,rfl⟩:=List.mem_map.mp ht
  have:=h2 x hx;simp only[a8,Bool.and_eq_true,decide_eq_true_eq];omega
theorem zm (n:Nat)(l:List Int)(h:l.length<=n):sm n (.tup (l.map .int))=true:=sm_tup.mpr ⟨by rw[List.length_map];exact h,λt ht=>by obtain⟨x,_,rfl⟩:=List.mem_map.mp ht;simp[sm]⟩
def Dc (c:T):Prop:=∃(x y:Int) (l:List Int),c= .tup [.int x,.int y,.tup (l.map .int)]/\RdOk l/\l.length<=3
theorem yr (ns:List Int)(hn:ns.length<=63)(a:Nat):∃c,cj [.scr ns,.int a] = .ok c/\bi c=true/\sm 8 c=true/\Dc c:=by
 obtain⟨d1,e1,p1,q1⟩:=dq ns a 3 hn (by omega)
 obtain⟨d2,e2,p2,q2⟩:=dq ns (a+2) 6 hn (by omega)
 obtain⟨d3,e3,p3,q3⟩:=dq ns (a+1) 3 hn (by omega)
 obtain⟨d4,e4,p4,q4⟩:=dq ns (a+6) 3 hn (by omega)
 obtain⟨n3,rfl⟩:=Int.eq_ofNat_of_zero_le p3;obtain⟨l,s5,el,hl,nl⟩:=uG ns hn a (.int (1+d1)) (List.range n3) [d2] .em ⟨[],d2,rfl,rfl,λx hx=>by rw[List.mem_singleton]at hx;subst hx;simp;omega,by simp;omega⟩ (by simp;omega)
 have nl':l.length<=4:=by rw[nl];simp;omega
 have hr:=hl.reads nl';refine⟨.tup [.int (1+d1),.int (1+d1+d4),.tup (l.map .int)],cq rfl ?_,?_,?_,⟨_,_,l,rfl,hl,by rw[nl];simp;omega⟩⟩
 ·show d9 [.va (.scr ns),.va (.int a),.em,.em,.em] =_
  unfold d9;rw[az (Z':=[.va (.scr ns),.va (.int a),.va (.int (1+d1)),.em,.em]) (bS (t:=.int (1+d1)) (aD (t:=.int 1) rfl (dF e1 rfl rfl rfl) rfl) rfl)];rw[az (Z':=[.va (.scr ns),.va (.int a),.va (.int (1+d1)),.va (.tup ([d2].map .int)),.em]) (bS (t:=.tup [.int d2]) (cC (ts:=[.int d2]) (aq (dF (k:=a+2) e2 rfl rfl rfl) rfl) (au (k:=1) (by simp))) rfl)]
  rw[az ((dM (C5 (aq (dF (k:=a+1) e3 rfl rfl rfl) rfl) (by omega) (by omega)) (by rw[jD];exact el)))]
  exact df (cC (aq (t:=.int (1+d1)) rfl (aq (aD (t:=.int (1+d1)) rfl (dF (k:=a+6) e4 rfl rfl rfl) rfl) (aq (t:=.tup (l.map .int)) rfl rfl))) (au (k:=3) (by simp)))
 ·show(true&&(lO (.int (1+d1)) (.int (1+d1+d4))&&bZ _))=true
  rw[hr];simp only[lO,a8,Bool.true_and,Bool.and_true,Bool.and_eq_true,decide_eq_true_eq];omega
 ·refine sm_tup.mpr ⟨by simp,λt ht=> ?_⟩
  rcases List.mem_cons.mp ht with rfl | ht
  ·simp[sm]
  ·rcases List.mem_cons.mp ht with rfl | ht
   ·simp[sm]
   ·rw[List.mem_singleton]at ht;subst ht;exact zm 8 l (by omega)
theorem la {y:T}:∀(cs:List T) (i:Nat),y∈dN i cs->∃c k:Nat,y= .tup [.int c,.int k]/\i<=c/\c<i+cs.length/\k<tK (cs.getD (c - i) .non)
 | [],i,h=>by cases h
 | x::cs,i,h=>by
  rw[dN]at h;rcases List.mem_append.mp h with h | h
  ·unfold jm at h
   obtain⟨t,ht,rfl⟩:=List.mem_map.mp h;obtain⟨j,rfl,hj⟩:=k7 ht;refine⟨i,j,rfl,Nat.le_refl _,by rw[List.length_cons];omega,?_⟩
   rw[Nat.sub_self]
   show j<tK x
   omega
  ·obtain⟨c,k,e,h1,h2,h3⟩:=la cs (i+1) h
   refine⟨c,k,e,by omega,by rw[List.length_cons];omega,?_⟩
   have:c - i=(c - (i+1))+1:=by omega
   rw[this];exact h3
theorem yi {cs:List T}{y:T}(h:y∈dN 0 cs):aZ cs y=true:=by
 obtain⟨c,k,rfl,_,h2,h3⟩:=la cs 0 h
 show(decide ((0:Int)<=(c:Int))&&decide ((c:Int)<(cs.length:Int))&&(decide ((0:Int)<=(k:Int))&&decide ((k:Int)<(reads cs (c:Int):Int))))=true
 rw[Nat.sub_zero]at h3;rw[jZ];simp only[Bool.and_eq_true,decide_eq_true_eq];omega
theorem j7:∀(cs:List T) (i:Nat),(dN i cs).Nodup
 | [],i=>List.nodup_nil
 | x::cs,i=>by
  rw[dN,List.nodup_append];refine⟨?_,j7 cs (i+1),?_⟩
  ·unfold jm rng
   rw[List.map_map];rw[List.nodup_iff_pairwise_ne,List.pairwise_map];refine List.nodup_range.imp ?_
   intro a b hab e
   simp at e
   exact hab (by omega)
  ·intro a ha b hb e
   subst e;unfold jm at ha;obtain⟨t,ht,rfl⟩:=List.mem_map.mp ha;obtain⟨c,k,e,h1,_,_⟩:=la cs (i+1) hb
   simp at e
   omega
theorem xo {l:List T}(h:l.Nodup){i j:Nat}(hi:i<l.length)(hj:j<l.length)(hij:i≠j):l[i] ≠l[j]:=by
 rw[List.nodup_iff_pairwise_ne,List.pairwise_iff_getElem]at h;rcases Nat.lt_or_ge i j with q | q
 ·exact h i j hi hj q
 ·exact λe=>h j i hj hi (by omega) e.symm
theorem pF:∀(cs:List T) (i:Nat),(∀c∈cs,bi c=true)->(dN i cs).length<=4*cs.length
 | [],i,_=>Nat.le_refl _
 | x::cs,i,h=>by
  obtain⟨a,b,r,rfl,_,h2⟩:=fh (h x List.mem_cons_self)
  have:=pF cs (i+1) λc hc=>h c (List.mem_cons_of_mem _ hc)
  rw[dN,List.length_append,fZ,List.length_cons]
  show r.length+_<=_
  omega
theorem yh {cs:List T}{a b:T}(ha:aZ cs a=true)(hb:aZ cs b=true)(h:a≠b):aR a b=false:=by
 obtain⟨c,k,rfl⟩:=dg ha;obtain⟨c',k',rfl⟩:=dg hb;rw[Bool.eq_false_iff];intro e;simp[aR,beqTs]at e;exact h (by rw[e.1,e.2])
theorem qr {cs:List T}{a:T}(ha:aZ cs a=true):sm 8 a=true:=by
 obtain⟨c,k,rfl⟩:=dg ha;simp[sm,sms]
theorem xT {l:List T}{i:Nat}(h:i<l.length):aP (.lst l) (.int (i:Int))= .ok l[i]:=by
 show(match L2.atI l (i:Int)with | some t=>Rs.ok t | none=> .bad)=_
 rw[jo (List.getElem?_eq_getElem h)]
theorem yk (a b:Int):kX (.int a) (.int b)= .ok (.bl (a == b)):=by
 unfold kX;rw[if_pos (ii (by simp[T.dep]) rfl rfl)]
 rfl
theorem vG (ns:List Int)(hn:ns.length<=63)(a:Nat)(cs:List T)(hc:a6 (.tup cs)=true):∃r,cO [.scr ns,.int a,.tup cs] = .ok r/\(r= .non\/(br cs r=true/\sm 8 r=true)):=by
 obtain⟨ha,h1,h4⟩:=bU hc
 have hlen:=pF cs 0 ha
 have er:=yq cs hc
 have gl:∀s4 s5 s6 s7:Sl,cl cF (ad (vr 3) ag) [.va (.scr ns),.va (.int a),.va (.tup cs),.va (.lst (dN 0 cs)),s4,s5,s6,s7] = .ok (.int ((dN 0 cs).length:Nat)):=λ_ _ _ _=>rfl
 have s1:ce (cl dy (ad (vr 2) ag)) (gN 3) [.va (.scr ns),.va (.int a),.va (.tup cs),.em,.em,.em,.em,.em] = .ok (.nx [.va (.scr ns),.va (.int a),.va (.tup cs),.va (.lst (dN 0 cs)),.em,.em,.em,.em]):=bS (bh (ts:=[.tup cs]) rfl er) rfl
 have lt:o2 rS (cl cF (ad (vr 3) ag)) (cn (.int 2)) [.va (.scr ns),.va (.int a),.va (.tup cs),.va (.lst (dN 0 cs)),.em,.em,.em,.em] = .ok (.bl (decide (((dN 0 cs).length:Int)<2))):=aD (t:=.int ((dN 0 cs).length:Nat)) (u:=.int 2) (gl _ _ _ _) rfl rfl
 by_cases hs:(dN 0 cs).length<2
 ·refine⟨.non,cq rfl ?_,.inl rfl⟩
  show cw [.va (.scr ns),.va (.int a),.va (.tup cs),.em,.em,.em,.em,.em] =_
  unfold cw;rw[az s1];rw[decide_eq_true (by omega)]at lt
  exact kh ((gO (cr lt)).trans rfl)
 ·rw[decide_eq_false (by omega)]at lt
  generalize hN:(dN 0 cs).length=n at*
  obtain⟨d1,e1,p1,q1⟩:=dq ns a (n:Int) hn (by omega)
  obtain⟨d2,e2,p2,q2⟩:=dq ns (a+1) ((n:Int) - 1) hn (by omega)
  obtain⟨d3,e3,p3,q3⟩:=dq ns (a+2) 8 hn (by omega)
  obtain⟨d4,e4,p4,q4⟩:=dq ns (a+3) 3 hn (by omega)
  obtain⟨d5,e5,p5,q5⟩:=dq ns (a+4) 9 hn (by omega)
  obtain⟨i,rfl⟩:=Int.eq_ofNat_of_zero_le p1;obtain⟨d2,rfl⟩:=Int.eq_ofNat_of_zero_le p2
  have hi:i<(dN 0 cs).length:=by omega
  have hj:(i+1+d2) % n<(dN 0 cs).length:=by rw[hN];exact Nat.mod_lt _ (by omega)
  have hij:i≠(i+1+d2) % n:=by
   rcases Nat.lt_or_ge (i+1+d2) n with q | q
   ·rw[Nat.mod_eq_of_lt q];omega
   ·have:(i+1+d2) % n=i+1+d2 - n:=by
     rw[Nat.mod_eq_sub_mod q,Nat.mod_eq_of_lt (by omega)]
    rw[this];omega
  have eA:=yi (List.getElem_mem hi)
  have eB:=yi (List.getElem_mem hj)
  have eN:(dN 0 cs)[i] ≠(dN 0 cs)[(i+1+d2) % n]:=xo (j7 cs 0) hi hj hij
  generalize hA:(dN 0 cs)[i] =A at*
  generalize hB:(dN 0 cs)[(i+1+d2) % n] =B at*
  let y:T:=if d4 == 0 then .non else .int (d3+d5)
  refine⟨.tup [A,B,.int d3,y],cq rfl ?_,.inr ⟨?_,?_⟩⟩
  ·show cw [.va (.scr ns),.va (.int a),.va (.tup cs),.em,.em,.em,.em,.em] =_
   unfold cw;rw[az s1];rw[az (Z':=[.va (.scr ns),.va (.int a),.va (.tup cs),.va (.lst (dN 0 cs)),.em,.em,.em,.em]) ((fg (cr lt)).trans rfl)];rw[az (Z':=[.va (.scr ns),.va (.int a),.va (.tup cs),.va (.lst (dN 0 cs)),.va (.int (i:Nat)),.em,.em,.em]) (bS (dF e1 rfl rfl (gl _ _ _ _)) rfl)];rw[az (Z':=[.va (.scr ns),.va (.int a),.va (.tup cs),.va (.lst (dN 0 cs)),.va (.int (i:Nat)),.va (.int ((i+1+d2) % n:Nat)),.em,.em]) (bS (t:=.int ((i+1+d2) % n:Nat)) (aD (t:=.int ((i:Int)+1+d2)) (u:=.int n) (aD (t:=.int ((i:Int)+1)) (u:=.int d2) rfl (dF (k:=a+1) e2 rfl rfl (aD (t:=.int n) (u:=.int 1) (gl _ _ _ _) rfl rfl)) rfl) (gl _ _ _ _) (ji (by omega))) rfl)]
   rw[az (Z':=[.va (.scr ns),.va (.int a),.va (.tup cs),.va (.lst (dN 0 cs)),.va (.int (i:Nat)),.va (.int ((i+1+d2) % n:Nat)),.va (.int d3),.em]) (bS (dF (k:=a+2) e3 rfl rfl rfl) rfl)]
   have ey:pU (tb (o2 kX (cl aw (ad (vr 0) (ad (o2 aH (vr 1) (cn (.int 3))) (ad (cn (.int 3)) ag)))) (cn (.int 0)))) (cn .non) (o2 aH (vr 6) (cl aw (ad (vr 0) (ad (o2 aH (vr 1) (cn (.int 4))) (ad (cn (.int 9)) ag))))) [.va (.scr ns),.va (.int a),.va (.tup cs),.va (.lst (dN 0 cs)),.va (.int (i:Nat)),.va (.int ((i+1+d2) % n:Nat)),.va (.int d3),.em] = .ok y:=by
    rw[nM (cr (aD (u:=.int 0) (dF (k:=a+3) e4 rfl rfl rfl) rfl (yk _ _)))]
    show _=Rs.ok (if d4 == 0 then T.non else .int (d3+d5))
    cases d4 == 0 with
    | true=>rfl
    | false=>exact aD (t:=.int d3) rfl (dF (k:=a+4) e5 rfl rfl rfl) rfl
   rw[az (Z':=[.va (.scr ns),.va (.int a),.va (.tup cs),.va (.lst (dN 0 cs)),.va (.int (i:Nat)),.va (.int ((i+1+d2) % n:Nat)),.va (.int d3),.va y]) (bS ey rfl)];refine df (cC (aq (t:=A) (aD (t:=.lst (dN 0 cs)) (u:=.int (i:Nat)) rfl rfl ?_) (aq (t:=B) (aD (t:=.lst (dN 0 cs)) (u:=.int ((i+1+d2) % n:Nat)) rfl rfl ?_) (aq (t:=.int d3) rfl (aq (t:=y) rfl rfl)))) (au (k:=4) (by simp)))
   ·rw[<-hA];exact xT hi
   ·rw[<-hB];exact xT hj
  ·show(eU (.int d3) y&&(aZ cs A&&(aZ cs B&& !aR A B)))=true
   rw[eA,eB,yh eA eB eN]
   have:eU (.int d3) y=true:=by
    show(a8 (.int d3) 0 999&&(match(T.int d3),(if d4 == 0 then T.non else .int (d3+d5))with | _,.non=>true | .int i,_=>a8 (if d4 == 0 then T.non else .int (d3+d5)) i 999 | _,_=>false))=true
    cases d4 == 0 with
    | true=>simp[a8];omega
    | false=>simp[a8];omega
   rw[this];rfl
  ·refine sm_tup.mpr ⟨by simp,λt ht=> ?_⟩
   have hy:sm 8 y=true:=by show sm 8 (if d4 == 0 then T.non else .int (d3+d5))=true;cases d4 == 0 <;> simp[sm]
   simp only[List.mem_cons,List.not_mem_nil,or_false]at ht;rcases ht with rfl | rfl | rfl | rfl
   ·exact qr eA
   ·exact qr eB
   ·simp[sm]
   ·exact hy
def okv:Rs T->T
 | .ok t=>t
 | _=> .non
theorem tV (l:List T)(k:Int)(h : -(2 ^ 63)<=k/\k<2 ^ 63/\l.length*k.toNat<=sizeLine):ca (.lst l) (.int k)= .ok (.lst (List.replicate k.toNat l).flatten):=by
 show sE (.lst l) (.int k)=_
 unfold sE;exact if_pos h
theorem mul_one (x:T)(b:Bool):ca (.lst [x]) (.int (if b then 1 else 0))= .ok (.lst (if b then [x]else [])):=by
 cases b with
 | true=>exact tV [x] 1 ⟨by decide,by decide,au (k:=1) (by simp)⟩
 | false=>exact tV [x] 0 ⟨by decide,by decide,au (k:=1) (by simp)⟩
abbrev leF:En->Rs Fl:=ar (ce (cl cO (ad (vr 0) (ad (o2 aH (o2 aH (vr 1) (cn (.int 31))) (o2 ca (cn (.int 6)) (vr 5))) (ad (vr 3) ag)))) (gN 6)) (ce (o2 aH (vr 4) (o2 ca (cV (ad (vr 6) ag)) (cl xX (ad (o2 du (vr 6) (cn .non)) ag)))) (gN 4))
def vS (cs ls:List T):Prop:=∀t∈ls,br cs t=true/\sm 8 t=true
theorem Al (ns:List Int)(hn:ns.length<=63)(a j:Nat)(m:T)(cs ls:List T)(hc:a6 (.tup cs)=true)(h:vS cs ls)(hl:ls.length<=100)(s6:Sl) :
  ∃ls2 s7,leF [.va (.scr ns),.va (.int a),.va m,.va (.tup cs),.va (.lst ls),.va (.int j),s6] = .ok (.nx [.va (.scr ns),.va (.int a),.va m,.va (.tup cs),.va (.lst ls2),.va (.int j),s7])/\vS cs ls2/\ls2.length<=ls.length+1:=by
 obtain⟨r,er,hr⟩:=vG ns hn (a+31+6*j) cs hc
 have e1:∀G,ar (ce (cl cO (ad (vr 0) (ad (o2 aH (o2 aH (vr 1) (cn (.int 31))) (o2 ca (cn (.int 6)) (vr 5))) (ad (vr 3) ag)))) (gN 6)) G [.va (.scr ns),.va (.int a),.va m,.va (.tup cs),.va (.lst ls),.va (.int j),s6] =G [.va (.scr ns),.va (.int a),.va m,.va (.tup cs),.va (.lst ls),.va (.int j),.va r]:=λG=>by
  refine az (bS (t:=r) (bh (ts:=[.scr ns,.int (a+31+6*j:Nat),.tup cs]) (aq (t:=.scr ns) rfl (aq (t:=.int (a+31+6*j:Nat)) (aD (t:=.int ((a:Int)+31)) (u:=.int (6*(j:Int))) rfl (aD (t:=.int 6) (u:=.int j) rfl rfl (jK (by omega) (by omega))) rfl) (aq (t:=.tup cs) rfl rfl))) er) rfl)
 have e2:cl xX (ad (o2 du (vr 6) (cn .non)) ag) [.va (.scr ns),.va (.int a),.va m,.va (.tup cs),.va (.lst ls),.va (.int j),.va r] = .ok (.int (if !r.isN then 1 else 0)):=bh (ts:=[.bl (!r.isN)]) rfl rfl
 refine⟨ls++(if !r.isN then [r]else []),.va r,?_,?_,?_⟩
 ·refine(e1 _).trans (bS (aD (t:=.lst ls) (u:=.lst (if !r.isN then [r]else [])) rfl (aD (t:=.lst [r]) (i7 (ts:=[r]) rfl (au (k:=1) (by simp))) e2 (mul_one _ _)) (uM _ _ ?_)) rfl)
  rw[List.length_append];cases r.isN <;> simp <;> omega
 ·intro t ht
  rcases List.mem_append.mp ht with ht | ht
  ·exact h t ht
  ·rcases hr with rfl | hr
   ·cases ht
   ·cases q:r.isN with
    | true=>rw[q]at ht;cases ht
    | false=>
     rw[q]at ht;rw[show t=r by simpa using ht]
     exact hr
 ·rw[List.length_append]
  cases r.isN <;> simp
theorem ub (ns:List Int)(hn:ns.length<=63)(a:Nat)(m:T)(cs:List T)(hc:a6 (.tup cs)=true):∀(js:List Nat) (ls:List T) (s5 s6:Sl),vS cs ls->ls.length+js.length<=100 →
  ∃ls2 t5 t6,aW (gN 5) leF (js.map λ(j:Nat)=>T.int j) [.va (.scr ns),.va (.int a),.va m,.va (.tup cs),.va (.lst ls),s5,s6] = .ok (.nx [.va (.scr ns),.va (.int a),.va m,.va (.tup cs),.va (.lst ls2),t5,t6])/\vS cs ls2/\ls2.length<=ls.length+js.length
 | [],ls,s5,s6,h,_=>⟨ls,s5,s6,rfl,h,Nat.le_refl _⟩
 | j::js,ls,s5,s6,h,hl=>by
  rw[List.length_cons]at hl;obtain⟨l2,s7,e2,h2,n2⟩:=Al ns hn a j m cs ls hc h (by omega) s6
  obtain⟨l3,t5,t6,e3,h3,n3⟩:=ub ns hn a m cs hc js l2 (.va (.int j)) s7 h2 (by omega)
  refine⟨l3,t5,t6,?_,h3,by rw[List.length_cons];omega⟩
  rw[List.map_cons,cR (Z1:=[.va (.scr ns),.va (.int a),.va m,.va (.tup cs),.va (.lst ls),.va (.int j),s6]) rfl e2];exact e3
theorem Db (ns:List Int)(hn:ns.length<=63)(a m:Nat)(hm:m<=8):∃cs ls,eQ [.scr ns,.int a,.int m] = .ok (.tup [.tup cs,.tup ls])/\a6 (.tup cs)=true/\cs.length<=3/\(∀c∈cs,sm 8 c=true)/\vS cs ls/\ls.length<=m/\∀c∈cs,Dc c:=by
 obtain⟨d1,e1,p1,q1⟩:=dq ns a 3 hn (by omega)
 obtain⟨d2,e2,p2,q2⟩:=dq ns (a+30) ((m:Int)+1) hn (by omega)
 obtain⟨d1,rfl⟩:=Int.eq_ofNat_of_zero_le p1;obtain⟨d2,rfl⟩:=Int.eq_ofNat_of_zero_le p2
 let hcl:T->T:=λt=>match t with
  | .int k=>okv (cj [.scr ns,.int ((a:Int)+1+8*k)])
  | _=> .non
 have hh:∀t∈rng 0 ((1+d1:Nat):Int),∃k:Nat,t= .int k/\cj [.scr ns,.int ((a+1+8*k:Nat):Int)] = .ok (hcl t)/\bi (hcl t)=true/\sm 8 (hcl t)=true/\Dc (hcl t):=λt ht=>by
  obtain⟨k,rfl,_⟩:=k7 ht;obtain⟨c,ec,h1,h2,h3⟩:=yr ns hn (a+1+8*k)
  have e:hcl (.int k)=c:=by
   show okv (cj [.scr ns,.int ((a+1+8*k:Nat):Int)])=c
   rw[ec];rfl
  exact⟨k,rfl,by rw[e];exact ec,by rw[e];exact h1,by rw[e];exact h2,by rw[e];exact h3⟩
 generalize hcs:(rng 0 ((1+d1:Nat):Int)).map hcl=cs
 have lc:cs.length=1+d1:=by rw[<-hcs,List.length_map,iz]
 have hc:a6 (.tup cs)=true:=by
  show(dI (.tup cs) 1 4&&cs.all bi)=true
  rw[Bool.and_eq_true,List.all_eq_true];refine⟨by simp[dI];omega,λc h=> ?_⟩
  rw[<-hcs]at h;obtain⟨t,ht,rfl⟩:=List.mem_map.mp h;obtain⟨_,_,_,h1,_⟩:=hh t ht;exact h1
 have hsm:∀c∈cs,sm 8 c=true:=λc h=>by
  rw[<-hcs]at h;obtain⟨t,ht,rfl⟩:=List.mem_map.mp h;obtain⟨_,_,_,_,h1,_⟩:=hh t ht;exact h1
 obtain⟨ls,t5,t6,el,hl,nl⟩:=ub ns hn a (.int m) cs hc (List.range d2) [] .em .em (λt h=>by cases h) (by simp;omega)
 refine⟨cs,ls,cq rfl ?_,hc,by omega,hsm,hl,by simp at nl;omega,λc h=>by
  rw[<-hcs]at h;obtain⟨t,ht,rfl⟩:=List.mem_map.mp h;obtain⟨_,_,_,_,_,h1⟩:=hh t ht;exact h1⟩
 show dC [.va (.scr ns),.va (.int a),.va (.int m),.em,.em,.em,.em] =_
 unfold dC
 have s1:ce (cl eC (ad (dP (iR (ad (o2 aH (cn (.int 1)) (cl aw (ad (vr 0) (ad (vr 1) (ad (cn (.int 3)) ag))))) ag)) [none,some 0,some 1] (gN 0) bT (cl cj (ad (vr 1) (ad (o2 aH (o2 aH (vr 2) (cn (.int 1))) (o2 ca (cn (.int 8)) (vr 0))) ag)))) ag)) (gN 3) [.va (.scr ns),.va (.int a),.va (.int m),.em,.em,.em,.em] = .ok (.nx [.va (.scr ns),.va (.int a),.va (.int m),.va (.tup cs),.em,.em,.em]):=by
  refine bS (t:=.tup cs) (bh (ts:=[.lst cs]) (aq (t:=.lst cs) ?_ rfl) rfl) rfl
  rw[<-hcs];refine rk (ts:=rng 0 ((1+d1:Nat):Int)) (h:=hcl) (C5 (aq (t:=.int ((1+d1:Nat):Int)) (aD (t:=.int 1) (u:=.int d1) rfl (dF e1 rfl rfl rfl) rfl) rfl) (by omega) (by omega)) (au (k:=3) (by rw[iz];omega)) (by simp) λt ht=> ?_
  obtain⟨k,rfl,ek,_,_⟩:=hh t ht;refine bh (ts:=[.scr ns,.int ((a+1+8*k:Nat):Int)]) (aq (t:=.scr ns) rfl (aq (aD (t:=.int ((a:Int)+1)) (u:=.int (8*(k:Int))) rfl (aD (t:=.int 8) (u:=.int k) rfl rfl (jK (by omega) (by omega))) rfl) rfl)) ek
 rw[az s1];rw[az (Z':=[.va (.scr ns),.va (.int a),.va (.int m),.va (.tup cs),.va (.lst []),.em,.em]) (bS (i7 (ts:=[]) rfl (au (k:=0) (by simp))) rfl)]
 rw[az ((dM (C5 (aq (dF (k:=a+30) e2 rfl rfl (aD (t:=.int m) (u:=.int 1) rfl rfl rfl)) rfl) (by omega) (by omega)) (by rw[jD];exact el)))]
 exact df (cC (aq (t:=.tup cs) rfl (aq (t:=.tup ls) rfl rfl)) (au (k:=2) (by simp)))
theorem gE {cs:List T}{t:T}(h:br cs t=true):∃a b x y,t= .tup [a,b,x,y]/\eU x y=true/\aZ cs a=true/\aZ cs b=true/\aR a b=false:=by
 unfold br at h
 split at h
 ·simp only[Bool.and_eq_true,Bool.not_eq_true']at h
  exact⟨_,_,_,_,rfl,h.1,h.2.1,h.2.2.1,h.2.2.2⟩
 ·cases h
theorem BI {cs ls:List T}(hc:a6 (.tup cs)=true)(hs:∀c∈cs,sm 8 c=true)(hl:vS cs ls)(hn:ls.length<=8):kK (.tup [.tup cs,.tup ls])=true/\sm 8 (.tup [.tup cs,.tup ls])=true:=by
 refine⟨?_,?_⟩
 ·show(a6 (.tup cs)&&(dI (.tup ls) 0 8&&ls.all (br cs)))=true
  rw[hc,Bool.true_and,Bool.and_eq_true,List.all_eq_true];exact⟨by simp[dI];exact hn,λt ht=>(hl t ht).1⟩
 ·refine sm_tup.mpr ⟨by simp,λt ht=> ?_⟩
  simp only[List.mem_cons,List.not_mem_nil,or_false]at ht;rcases ht with rfl | rfl
  ·exact sm_tup.mpr ⟨by have:=(bU hc).2.2;omega,hs⟩
  ·exact sm_tup.mpr ⟨hn,λt ht=>(hl t ht).2⟩
end G
namespace Tr
open PySem
section
variable {f fa fb:En->Rs T}{fs:En->Rs (List T)}{b c:En->Rs Bool}{F G:En->Rs Fl}{Z Z' Z1 Z2:En}{t u r:T}{ts l m:List T}
mutual
theorem fL:∀(t:T),t.pl=true->aR t t=true
 | .non,_=>rfl
 | .bl a,_=>by simp[aR]
 | .int a,_=>by simp[aR]
 | .str a,_=>by simp[aR]
 | .tup l,h=>by rw[aR];exact beqTs_refl l (by unfold T.pl at h;exact h)
 | .lst l,h=>by rw[aR];exact beqTs_refl l (by unfold T.pl at h;exact h)
 | .scr _,h=>by simp[T.pl]at h
theorem beqTs_refl:∀(l:List T),plS l=true->beqTs l l=true
 | [],_=>rfl
 | t::l,h=>by
  unfold plS at h;rw[Bool.and_eq_true]at h;rw[beqTs,fL t h.1,beqTs_refl l h.2];rfl
end
theorem tU (hp:t.pl=true)(hd:t.dep<=60):k9 t t= .ok (.bl false):=by
 unfold k9;rw[if_pos (ii hd (T.pl_nd _ hp) (T.pl_nd _ hp)),fL t hp];rfl
theorem Aw (hp:t.pl=true)(hd:t.dep<=60):kX t t= .ok (.bl true):=by
 unfold kX;rw[if_pos (ii hd (T.pl_nd _ hp) (T.pl_nd _ hp)),fL t hp]
theorem uC {n:Nat}:∀{l:List T},(∀t∈l,t.dep<=n)->deps l<=n
 | [],_=>by unfold deps;omega
 | t::l,h=>by
  unfold deps
  have:=uC (l:=l) λu hu=>h u (List.mem_cons_of_mem _ hu)
  have:=h t List.mem_cons_self;omega
theorem j4:∀{l:List T},(∀t∈l,t.pl=true)->plS l=true
 | [],_=>rfl
 | t::l,h=>by unfold plS;rw[h t List.mem_cons_self,j4 λu hu=>h u (List.mem_cons_of_mem _ hu)];rfl
end
end Tr
namespace G
open PySem Tr
def dr (r:List Int)(k:Nat):Int:=r.getD (k+1) 0 - r.getD k 0
def pr (n:Nat)(x y:Int)(r:List Int)(k:Nat):List T:=
 [.tup [.tup [.int n,.int k],.tup [.int n,.int ((k+1:Nat):Int)],.int (dr r k*y)],.tup [.tup [.int n,.int ((k+1:Nat):Int)],.tup [.int n,.int k],.int (-dr r k*x)]]
def cB (n:Nat)(x y:Int)(r:List Int):List T:=(List.range (r.length - 1)).flatMap (pr n x y r)
abbrev yE (n:Nat)(x y:Int)(r:List Int)(acc:List T)(s4 s5 s6 s7:Sl):En:=[.va (.int n),.va (.tup [.int x,.int y,.tup (r.map .int)]),.va (.tup (r.map .int)),.ow (.lst acc),s4,s5,s6,s7]
abbrev bcF:En->Rs Fl:=(ar (ce (ba (ad (vr 0) (ad (vr 4) ag))) (gN 5)) (ar (ce (ba (ad (vr 0) (ad (o2 aH (vr 4) (cn (.int 1))) ag))) (gN 6)) (ar (ce (o2 bH (o2 aP (vr 2) (o2 aH (vr 4) (cn (.int 1)))) (o2 aP (vr 2) (vr 4))) (gN 7)) (ar (gR 3 (ba (ad (vr 5) (ad (vr 6) (ad (o2 ca (vr 7) (o2 aP (vr 1) (cn (.int 1)))) ag))))) (gR 3 (ba (ad (vr 6) (ad (vr 5) (ad (o2 ca (o1 pd (vr 7)) (o2 aP (vr 1) (cn (.int 0)))) ag)))))))))
theorem lg {r:List Int}{k:Nat}(h:k<r.length):(r.map T.int)[k]? =some (.int (r.getD k 0)):=by
 rw[List.getElem?_map,List.getElem?_eq_getElem h]
 simp[h]
theorem AM (n:Nat)(x y:Int)(r:List Int)(acc:List T)(k:Nat)(s5 s6 s7:Sl)(hk:k+1<r.length)(hx:0<=x/\x<=9)(hy:0<=y/\y<=9)(ha:acc.length<=100) :
  bcF (yE n x y r acc (.va (.int k)) s5 s6 s7)= .ok (.nx (yE n x y r (acc++pr n x y r k) (.va (.int k)) (.va (.tup [.int n,.int k])) (.va (.tup [.int n,.int ((k+1:Nat):Int)])) (.va (.int (dr r k))))):=by
 have h2:([T.int n,T.int k]:List T).length<=sizeLine:=au (k:=2) (by simp)
 have ek:((k:Int)+1)=((k+1:Nat):Int):=by omega
 refine(az (Z':=yE n x y r acc (.va (.int k)) (.va (.tup [.int n,.int k])) s6 s7) (bS (cC rfl (au (k:=2) (by simp))) rfl)).trans ?_
 refine(az (Z':=yE n x y r acc (.va (.int k)) (.va (.tup [.int n,.int k])) (.va (.tup [.int n,.int ((k+1:Nat):Int)])) s7) (bS (cC (aq rfl (aq (t:=.int ((k+1:Nat):Int)) (aD (t:=.int k) (u:=.int 1) rfl rfl (congrArg (λz=>Rs.ok (T.int z)) ek)) rfl)) (au (k:=2) (by simp))) rfl)).trans ?_
 refine(az (Z':=yE n x y r acc (.va (.int k)) (.va (.tup [.int n,.int k])) (.va (.tup [.int n,.int ((k+1:Nat):Int)])) (.va (.int (dr r k)))) (bS (t:=.int (dr r k)) (aD (t:=.int (r.getD (k+1) 0)) (u:=.int (r.getD k 0)) (vq (n:=k+1) rfl (aD (t:=.int k) (u:=.int 1) rfl rfl (congrArg (λz=>Rs.ok (T.int z)) ek)) (lg hk)) (vq (n:=k) rfl rfl (lg (by omega))) rfl) rfl)).trans ?_
 refine(az (Z':=yE n x y r (acc++ [.tup [.tup [.int n,.int k],.tup [.int n,.int ((k+1:Nat):Int)],.int (dr r k*y)]]) (.va (.int k)) (.va (.tup [.int n,.int k])) (.va (.tup [.int n,.int ((k+1:Nat):Int)])) (.va (.int (dr r k)))) (mi (l:=acc) (cC (aq rfl (aq rfl (aq (aD (t:=.int (dr r k)) (u:=.int y) rfl rfl (xt (by omega) (by omega))) rfl))) (au (k:=3) (by simp))) rfl (by omega))).trans ?_
 refine(mi (l:=acc++ [.tup [.tup [.int n,.int k],.tup [.int n,.int ((k+1:Nat):Int)],.int (dr r k*y)]]) (cC (aq rfl (aq rfl (aq (aD (t:=.int (-dr r k)) (u:=.int x) rfl rfl (xt (by omega) (by omega))) rfl))) (au (k:=3) (by simp))) rfl (by rw[List.length_append];simp;omega)).trans ?_
 rw[List.append_assoc]
 rfl
theorem uL (n:Nat)(x y:Int)(r:List Int)(hx:0<=x/\x<=9)(hy:0<=y/\y<=9):∀(js:List Nat) (acc:List T) (s4 s5 s6 s7:Sl),(∀k∈js,k+1<r.length)->acc.length+2*js.length<=100 →
  ∃t4 t5 t6 t7,aW (gN 4) bcF (js.map λ(k:Nat)=>T.int k) (yE n x y r acc s4 s5 s6 s7)= .ok (.nx (yE n x y r (acc++js.flatMap (pr n x y r)) t4 t5 t6 t7))
 | [],acc,s4,s5,s6,s7,_,_=>⟨s4,s5,s6,s7,by simp[aW]⟩
 | k::js,acc,s4,s5,s6,s7,hk,hl=>by
  rw[List.length_cons]at hl
  have e:=AM n x y r acc k s5 s6 s7 (hk k List.mem_cons_self) hx hy (by omega)
  obtain⟨t4,t5,t6,t7,ih⟩:=uL n x y r hx hy js (acc++pr n x y r k) (.va (.int k)) (.va (.tup [.int n,.int k])) (.va (.tup [.int n,.int ((k+1:Nat):Int)])) (.va (.int (dr r k))) (λj hj=>hk j (List.mem_cons_of_mem _ hj)) (by rw[List.length_append];simp[pr];omega)
  refine⟨t4,t5,t6,t7,?_⟩
  rw[List.map_cons,cR (Z1:=yE n x y r acc (.va (.int k)) s5 s6 s7) rfl e,ih,List.flatMap_cons,List.append_assoc]
theorem yx (n:Nat)(x y:Int)(r:List Int)(hx:0<=x/\x<=9)(hy:0<=y/\y<=9)(h1:1<=r.length)(h4:r.length<=4):ci [.int n,.tup [.int x,.int y,.tup (r.map .int)]] = .ok (.lst (cB n x y r)):=by
 refine cq rfl ?_
 show cu [.va (.int n),.va (.tup [.int x,.int y,.tup (r.map .int)]),.em,.em,.em,.em,.em,.em] =_
 unfold cu;rw[az (Z':=[.va (.int n),.va (.tup [.int x,.int y,.tup (r.map .int)]),.va (.tup (r.map .int)),.em,.em,.em,.em,.em]) (bS (t:=.tup (r.map .int)) rfl rfl)];rw[az (Z':=yE n x y r [] .em .em .em .em) rfl];obtain⟨t4,t5,t6,t7,e⟩:=uL n x y r hx hy (List.range (r.length - 1)) [] .em .em .em .em (λk hk=>by have:=List.mem_range.mp hk;omega) (by simp;omega)
 have e1:iR (ad (o2 bH (cl cF (ad (vr 2) ag)) (cn (.int 1))) ag) (yE n x y r [] .em .em .em .em)= .ok (rng 0 ((r.length - 1:Nat):Int)):=by
  refine C5 (j:=((r.length - 1:Nat):Int)) (aq (aD (t:=.int (r.length:Nat)) (u:=.int 1) (bh (ts:=[.tup (r.map .int)]) rfl (by show Rs.ok (T.int ((r.map T.int).length:Nat))=_;rw[List.length_map])) rfl (congrArg (λz=>Rs.ok (T.int z)) (by omega))) rfl) (by omega) (by omega)
 rw[az ((dM (ts:=(List.range (r.length - 1)).map λ(k:Nat)=>T.int k) (by rw[e1,jD]) e))]
 rfl
theorem eG {t:T}(h:bi t=true):∃(x y:Int) (r:List Int),t= .tup [.int x,.int y,.tup (r.map .int)]/\(0<=x/\x<=9)/\(0<=y/\y<=9)/\1<=r.length/\r.length<=4:=by
 obtain⟨x,y,r,rfl,h1,h4⟩:=fh h
 have h':(lO x y&&bZ (.tup r))=true:=h;rw[Bool.and_eq_true]at h';obtain⟨hp,hr⟩:=h';unfold lO at hp;rw[Bool.and_eq_true]at hp;obtain⟨i,rfl,i1,i2⟩:=cH hp.1;obtain⟨j,rfl,j1,j2⟩:=cH (t:=y) (a:=i) (b:=9) hp.2;unfold bZ at hr;rw[Bool.and_eq_true]at hr
 have hr2:((r.all λu=>a8 u 0 99)&&(match jg r with | some m=>kQ m | none=>false))=true:=hr.2
 rw[Bool.and_eq_true]at hr2;obtain⟨m,em⟩:=o6 hr2.1
 have e:=lX em;subst e;rw[List.length_map]at h1 h4;exact⟨i,j,m,rfl,⟨by omega,by omega⟩,⟨by omega,by omega⟩,h1,h4⟩
def xB (n:Nat)(t:T):List T:=match t with
 | .tup [.int x,.int y,.tup r] =>match jg r with
  | some m=>cB n x y m
  | none=> []
 | _=> []
def bC:Nat->List T->List T
 | _,[] => []
 | i,c::r=>xB i c++bC (i+1) r
def lB (t:T):List T:=match t with
 | .tup [a,b,.int le,mo] => .tup [b,a,.int (-le)] ::(if mo.isN then []else [.tup [a,b,mo]])
 | _=> []
def yR (cs ls:List T):List T:=bC 0 cs++ls.flatMap lB
theorem kB (n:Nat)(x y:Int)(r:List Int):xB n (.tup [.int x,.int y,.tup (r.map .int)])=cB n x y r:=by
 unfold xB;simp only[jJ]
theorem Dm (n:Nat)(x y:Int)(r:List Int):(cB n x y r).length=2*(r.length - 1):=by
 unfold cB;rw[List.length_flatMap]
 have:∀l:List Nat,(l.map λk=>(pr n x y r k).length).sum=2*l.length:=by
  intro l
  induction l with
  | nil=>rfl
  | cons a l ih=>rw[List.map_cons,List.sum_cons,ih,List.length_cons];simp[pr];omega
 rw[this,List.length_range]
theorem rX {n:Nat}{t:T}(h:bi t=true):(xB n t).length<=6:=by
 obtain⟨x,y,r,rfl,_,_,h1,h4⟩:=eG h;rw[kB,Dm];omega
theorem pL:∀{cs:List T} {i:Nat},(∀c∈cs,bi c=true)->(bC i cs).length<=6*cs.length
 | [],i,_=>by simp[bC]
 | c::cs,i,h=>by
  rw[bC,List.length_append,List.length_cons]
  have:=rX (n:=i) (h c List.mem_cons_self)
  have:=pL (cs:=cs) (i:=i+1) λc hc=>h c (List.mem_cons_of_mem _ hc)
  omega
theorem sH (t:T):(lB t).length<=2:=by
 unfold lB;split
 ·rename_i a b le mo
  cases mo.isN <;> simp
 ·simp
theorem ue:∀(ls:List T),(ls.flatMap lB).length<=2*ls.length
 | [] =>by simp
 | t::ls=>by
  rw[List.flatMap_cons,List.length_append,List.length_cons]
  have:=sH t
  have:=ue ls;omega
theorem hW {cs:List T}{t:T}(h:br cs t=true):∃(a b mo:T) (le:Int),t= .tup [a,b,.int le,mo]/\aZ cs a=true/\aZ cs b=true:=by
 obtain⟨a,b,x,y,rfl,hd,ha,hb,_⟩:=gE h;unfold eU at hd;rw[Bool.and_eq_true]at hd;obtain⟨i,rfl,_⟩:=cH hd.1;exact⟨a,b,y,i,rfl,ha,hb⟩
theorem vH {cs:List T}{t:T}(h:br cs t=true):bQ [t] = .ok (.lst (lB t)):=by
 obtain⟨a,b,mo,le,rfl,_,_⟩:=hW h;refine cq rfl ?_
 show bV [.va (.tup [a,b,.int le,mo]),.em] =_
 unfold bV;rw[az (Z':=[.va (.tup [a,b,.int le,mo]),.ow (.lst [.tup [b,a,.int (-le)]])]) (xM (l:=[.tup [b,a,.int (-le)]]) (aq (cC (aq rfl (aq rfl (aq rfl rfl))) (au (k:=3) (by simp))) rfl) (by simp) (by simp))]
 have e:∀(Z:En) l,Z= [.va (.tup [a,b,.int le,mo]),.ow (.lst l)]->o2 du (o2 aP (vr 0) (cn (.int 3))) (cn .non) Z= .ok (.bl (!mo.isN)):=λZ l z=>by subst z;rfl
 have e2:lB (.tup [a,b,.int le,mo])= .tup [b,a,.int (-le)] ::(if mo.isN then []else [.tup [a,b,mo]]):=rfl
 rw[e2]
 cases q:mo.isN with
 | true=>
  rw[az (Z':=[.va (.tup [a,b,.int le,mo]),.ow (.lst [.tup [b,a,.int (-le)]])]) ((fg (cr (by rw[e _ _ rfl,q];rfl))).trans rfl)]
  rfl
 | false=>
  rw[az (Z':=[.va (.tup [a,b,.int le,mo]),.ow (.lst ([.tup [b,a,.int (-le)]] ++ [.tup [a,b,mo]]))]) ((gO (cr (by rw[e _ _ rfl,q];rfl))).trans (mi (l:=[.tup [b,a,.int (-le)]]) (cC (aq rfl (aq rfl (aq rfl rfl))) (au (k:=3) (by simp))) rfl (by simp)))]
  rfl
abbrev bdF:En->Rs Fl:=lM 1 (cl ci (ad (vr 2) (ad (vr 3) ag)))
abbrev bdG:T->En->Rs En:=gT 2 (cT (gN 2) (cT (gN 3) iO))
theorem uK (R:T)(s4:Sl):∀(cs:List T) (acc:List T) (i:Nat) (s2 s3:Sl),(∀c∈cs,bi c=true)->acc.length+6*cs.length<=100 →
  ∃y2 y3,aW bdG bdF (a7 i cs) [.va R,.ow (.lst acc),s2,s3,s4] = .ok (.nx [.va R,.ow (.lst (acc++bC i cs)),y2,y3,s4])
 | [],acc,i,s2,s3,_,_=>⟨s2,s3,by simp[a7,aW,bC]⟩
 | c::cs,acc,i,s2,s3,hc,hl=>by
  have h0:=hc c List.mem_cons_self
  have hx:=rX (n:=i) h0;obtain⟨x,y,r,rfl,a1,a2,a3,a4⟩:=eG h0;rw[List.length_cons]at hl;rw[kB]at hx
  have st:bdF [.va R,.ow (.lst acc),.va (.int i),.va (.tup [.int x,.int y,.tup (r.map .int)]),s4] = .ok (.nx [.va R,.ow (.lst (acc++cB i x y r)),.va (.int i),.va (.tup [.int x,.int y,.tup (r.map .int)]),s4]):=
   xP (l:=acc) (bh (ts:=[.int i,.tup [.int x,.int y,.tup (r.map .int)]]) rfl (yx i x y r a1 a2 a3 a4)) rfl (by omega)
  obtain⟨z2,z3,ih⟩:=uK R s4 cs (acc++cB i x y r) (i+1) (.va (.int i)) (.va (.tup [.int x,.int y,.tup (r.map .int)])) (λc h=>hc c (List.mem_cons_of_mem _ h)) (by rw[List.length_append];omega)
  refine⟨z2,z3,?_⟩
  rw[a7,cR (Z1:=[.va R,.ow (.lst acc),.va (.int i),.va (.tup [.int x,.int y,.tup (r.map .int)]),s4]) rfl st,ih,bC,kB,List.append_assoc]
abbrev blF:En->Rs Fl:=lM 1 (cl bQ (ad (vr 4) ag))
theorem uJ (R:T)(cs:List T)(s2 s3:Sl):∀(ls:List T) (acc:List T) (s4:Sl),(∀t∈ls,br cs t=true)->acc.length+2*ls.length<=100 →
  ∃y4,aW (gN 4) blF ls [.va R,.ow (.lst acc),s2,s3,s4] = .ok (.nx [.va R,.ow (.lst (acc++ls.flatMap lB)),s2,s3,y4])
 | [],acc,s4,_,_=>⟨s4,by simp[aW]⟩
 | t::ls,acc,s4,hl,hn=>by
  rw[List.length_cons]at hn
  have:=sH t
  have st:blF [.va R,.ow (.lst acc),s2,s3,.va t] = .ok (.nx [.va R,.ow (.lst (acc++lB t)),s2,s3,.va t]):=xP (l:=acc) (bh (ts:=[t]) rfl (vH (hl t List.mem_cons_self))) rfl (by omega)
  obtain⟨y4,ih⟩:=uJ R cs s2 s3 ls (acc++lB t) (.va t) (λu h=>hl u (List.mem_cons_of_mem _ h)) (by rw[List.length_append];omega)
  refine⟨y4,?_⟩
  rw[cR (Z1:=[.va R,.ow (.lst acc),s2,s3,.va t]) rfl st,ih,List.flatMap_cons,List.append_assoc]
theorem qV {R:T}(hp:R.pl=true)(h:kK R=true):cM [R] = .ok .non:=by
 refine CO (Z:=[.va R]) rfl ?_
 show dA [.va R] =_
 unfold dA;exact(fg ((nK (k:=true) (cr (bh (ts:=[R]) rfl (by rw[yo R hp,h])))))).trans rfl
structure Good (cs ls:List T):Prop where
 c:a6 (.tup cs)=true
 l:∀t∈ls,br cs t=true
 n:ls.length<=8
 p:(T.tup [.tup cs,.tup ls]).pl=true
theorem Good.ok {cs ls:List T}(g:Good cs ls):kK (.tup [.tup cs,.tup ls])=true:=by
 show(a6 (.tup cs)&&(dI (.tup ls) 0 8&&ls.all (br cs)))=true
 rw[g.c,Bool.true_and,Bool.and_eq_true,List.all_eq_true];exact⟨by simp[dI];exact g.n,g.l⟩
theorem yv {cs ls:List T}(g:Good cs ls):fV [.tup [.tup cs,.tup ls]] = .ok (.lst (yR cs ls)):=by
 obtain⟨hc,c1,c4⟩:=bU g.c
 have hn:=g.n;refine cq rfl ?_
 show iu [.va (.tup [.tup cs,.tup ls]),.em,.em,.em,.em] =_
 unfold iu;rw[az (EE (t:=.non) (bh (ts:=[.tup [.tup cs,.tup ls]]) rfl (qV g.p g.ok)))];rw[az (Z':=[.va (.tup [.tup cs,.tup ls]),.ow (.lst []),.em,.em,.em]) (sI (by simp))]
 obtain⟨y2,y3,e⟩:=uK (.tup [.tup cs,.tup ls]) .em cs [] 0 .em .em hc (by simp;omega)
 rw[az ((dM (ts:=a7 0 cs) rfl e))]
 have:=pL (i:=0) hc;obtain⟨y4,e2⟩:=uJ (.tup [.tup cs,.tup ls]) cs y2 y3 ls ([] ++bC 0 cs) .em g.l (by rw[List.nil_append];omega)
 rw[az ((dM (ts:=ls) rfl e2))]
 rfl
abbrev vX (R:T)(acc:List T)(n:Nat)(x y:Int)(r:List Int)(s6 s7 s8 s9 s10 s11:Sl):En:=[.va R,.ow (.lst acc),.va (.int n),.va (.int x),.va (.int y),.va (.tup (r.map .int)),s6,s7,s8,s9,s10,s11]
abbrev lkF:En->Rs Fl:=(ar (ce (o2 bH (o2 aP (vr 5) (vr 6)) (o2 aP (vr 5) (o2 bH (vr 6) (cn (.int 1))))) (gN 7)) (ar (gR 1 (ba (ad (ba (ad (vr 2) (ad (o2 bH (vr 6) (cn (.int 1))) ag))) (ad (ba (ad (vr 2) (ad (vr 6) ag))) (ad (o2 ca (vr 4) (vr 7)) ag))))) (gR 1 (ba (ad (ba (ad (vr 2) (ad (vr 6) ag))) (ad (ba (ad (vr 2) (ad (o2 bH (vr 6) (cn (.int 1))) ag))) (ad (o2 bH (cn (.int 0)) (o2 ca (vr 3) (vr 7))) ag)))))))
theorem Ak (R:T)(n:Nat)(x y:Int)(r:List Int)(acc:List T)(k:Nat)(s7 s8 s9 s10 s11:Sl)(hk:k+1<r.length)(hx:0<=x/\x<=9)(hy:0<=y/\y<=9)(ha:acc.length<=100) :
  lkF (vX R acc n x y r (.va (.int ((k+1:Nat):Int))) s7 s8 s9 s10 s11)= .ok (.nx (vX R (acc++pr n x y r k) n x y r (.va (.int ((k+1:Nat):Int))) (.va (.int (dr r k))) s8 s9 s10 s11)):=by
 have sb:∀acc s7,o2 bH (vr 6) (cn (.int 1)) (vX R acc n x y r (.va (.int ((k+1:Nat):Int))) s7 s8 s9 s10 s11)= .ok (.int k):=λacc s7=>aD (t:=.int ((k+1:Nat):Int)) (u:=.int 1) rfl rfl (congrArg (λz=>Rs.ok (T.int z)) (by omega))
 refine(az (Z':=vX R acc n x y r (.va (.int ((k+1:Nat):Int))) (.va (.int (dr r k))) s8 s9 s10 s11) (bS (t:=.int (dr r k)) (aD (t:=.int (r.getD (k+1) 0)) (u:=.int (r.getD k 0)) (vq (n:=k+1) rfl rfl (lg hk)) (vq (n:=k) rfl (sb acc s7) (lg (by omega))) rfl) rfl)).trans ?_
 refine(az (Z':=vX R (acc++ [.tup [.tup [.int n,.int k],.tup [.int n,.int ((k+1:Nat):Int)],.int (dr r k*y)]]) n x y r (.va (.int ((k+1:Nat):Int))) (.va (.int (dr r k))) s8 s9 s10 s11) (mi (l:=acc) (cC (aq (cC (aq rfl (aq (sb _ _) rfl)) (au (k:=2) (by simp))) (aq (cC rfl (au (k:=2) (by simp))) (aq (aD (t:=.int y) (u:=.int (dr r k)) rfl rfl ((jK (by omega) (by omega)).trans (by rw[Int.mul_comm]))) rfl))) (au (k:=3) (by simp))) rfl (by omega))).trans ?_
 refine(mi (l:=acc++ [.tup [.tup [.int n,.int k],.tup [.int n,.int ((k+1:Nat):Int)],.int (dr r k*y)]]) (t:=.tup [.tup [.int n,.int ((k+1:Nat):Int)],.tup [.int n,.int k],.int (-dr r k*x)]) (cC (aq (cC rfl (au (k:=2) (by simp))) (aq (cC (aq rfl (aq (sb _ _) rfl)) (au (k:=2) (by simp))) (aq (aD (t:=.int 0) (u:=.int (x*dr r k)) rfl (aD (t:=.int x) (u:=.int (dr r k)) rfl rfl (jK (by omega) (by omega))) (congrArg (λz=>Rs.ok (T.int z)) (by rw[Int.neg_mul,Int.mul_comm x,Int.zero_sub]))) rfl))) (au (k:=3) (by simp))) rfl (by rw[List.length_append];simp;omega)).trans ?_
 rw[List.append_assoc]
 rfl
theorem tZ (R:T)(n:Nat)(x y:Int)(r:List Int)(s8 s9 s10 s11:Sl)(hx:0<=x/\x<=9)(hy:0<=y/\y<=9):∀(js:List Nat) (acc:List T) (s6 s7:Sl),(∀k∈js,k+1<r.length)->acc.length+2*js.length<=100 →
  ∃t6 t7,aW (gN 6) lkF (js.map λ(k:Nat)=>T.int ((k+1:Nat):Int)) (vX R acc n x y r s6 s7 s8 s9 s10 s11)= .ok (.nx (vX R (acc++js.flatMap (pr n x y r)) n x y r t6 t7 s8 s9 s10 s11))
 | [],acc,s6,s7,_,_=>⟨s6,s7,by simp[aW]⟩
 | k::js,acc,s6,s7,hk,hl=>by
  rw[List.length_cons]at hl
  have e:=Ak R n x y r acc k s7 s8 s9 s10 s11 (hk k List.mem_cons_self) hx hy (by omega)
  obtain⟨t6,t7,ih⟩:=tZ R n x y r s8 s9 s10 s11 hx hy js (acc++pr n x y r k) (.va (.int ((k+1:Nat):Int))) (.va (.int (dr r k))) (λj hj=>hk j (List.mem_cons_of_mem _ hj)) (by rw[List.length_append];simp[pr];omega)
  refine⟨t6,t7,?_⟩
  rw[List.map_cons,cR (Z1:=vX R acc n x y r (.va (.int ((k+1:Nat):Int))) s7 s8 s9 s10 s11) rfl e,ih,List.flatMap_cons,List.append_assoc]
theorem tH (n:Nat)(h:1<=n):rng 1 (n:Int)=(List.range (n - 1)).map λ(k:Nat)=>T.int ((k+1:Nat):Int):=by
 unfold rng
 have:((n:Int) - 1).toNat=n - 1:=by omega
 rw[this];exact List.map_congr_left λk _=>congrArg T.int (by omega)
theorem iR2 {f:En->Rs (List T)}{Z:En}{i j:Int}(h:f Z= .ok [.int i,.int j])(h0:0<=i)(h1:i<=100000)(h2:0<=j)(h3:j<=100000):iR f Z= .ok (rng i j):=by
 unfold iR;rw[h]
 have e:(sM i&&sM j)=true:=by unfold sM;simp;omega
 show(if (sM i&&sM j)=true then _ else _)=_
 rw[e];rfl
abbrev Es:En->Rs Fl:=(di (iR (ad (cn (.int 1)) (ad (cl cF (ad (vr 5) ag)) ag))) (gN 6) lkF)
abbrev lcG:T->En->Rs En:=gT 2 (cT (gN 2) (cT (gT 3 (cT (gN 3) (cT (gN 4) (cT (gN 5) iO)))) iO))
theorem uc (R:T)(s8 s9 s10 s11:Sl):∀(cs:List T) (acc:List T) (i:Nat) (s2 s3 s4 s5 s6 s7:Sl),(∀c∈cs,bi c=true)->acc.length+6*cs.length<=90 →
  ∃y2 y3 y4 y5 y6 y7,aW lcG Es (a7 i cs) [.va R,.ow (.lst acc),s2,s3,s4,s5,s6,s7,s8,s9,s10,s11] = .ok (.nx [.va R,.ow (.lst (acc++bC i cs)),y2,y3,y4,y5,y6,y7,s8,s9,s10,s11])
 | [],acc,i,s2,s3,s4,s5,s6,s7,_,_=>⟨s2,s3,s4,s5,s6,s7,by simp[a7,aW,bC]⟩
 | c::cs,acc,i,s2,s3,s4,s5,s6,s7,hc,hl=>by
  have h0:=hc c List.mem_cons_self
  have hx:=rX (n:=i) h0;obtain⟨x,y,r,rfl,a1,a2,a3,a4⟩:=eG h0;rw[List.length_cons]at hl;rw[kB]at hx;obtain⟨t6,t7,e⟩:=tZ R i x y r s8 s9 s10 s11 a1 a2 (List.range (r.length - 1)) acc s6 s7 (λk hk=>by have:=List.mem_range.mp hk;omega) (by rw[List.length_range];omega)
  have e1:iR (ad (cn (.int 1)) (ad (cl cF (ad (vr 5) ag)) ag)) (vX R acc i x y r s6 s7 s8 s9 s10 s11)= .ok (rng 1 (r.length:Nat)):=
   iR2 (i:=1) (j:=(r.length:Nat)) (aq rfl (aq (bh (ts:=[.tup (r.map .int)]) rfl (by show Rs.ok (T.int ((r.map T.int).length:Nat))=_;rw[List.length_map])) rfl)) (by omega) (by omega) (by omega) (by omega)
  have st:Es (vX R acc i x y r s6 s7 s8 s9 s10 s11)= .ok (.nx (vX R (acc++cB i x y r) i x y r t6 t7 s8 s9 s10 s11)):=(dM (ts:=(List.range (r.length - 1)).map λ(k:Nat)=>T.int ((k+1:Nat):Int)) (by rw[e1,tH _ a3]) e)
  obtain⟨z2,z3,z4,z5,z6,z7,ih⟩:=uc R s8 s9 s10 s11 cs (acc++cB i x y r) (i+1) (.va (.int i)) (.va (.int x)) (.va (.int y)) (.va (.tup (r.map .int))) t6 t7 (λc h=>hc c (List.mem_cons_of_mem _ h)) (by rw[List.length_append];omega)
  refine⟨z2,z3,z4,z5,z6,z7,?_⟩
  rw[a7,cR (Z1:=vX R acc i x y r s6 s7 s8 s9 s10 s11) rfl st,ih,bC,kB,List.append_assoc]
abbrev llF:En->Rs Fl:=(ar (gR 1 (ba (ad (vr 9) (ad (vr 8) (ad (o2 bH (cn (.int 0)) (vr 10)) ag))))) (eE (tb (o2 du (vr 11) (cn .non))) (gR 1 (ba (ad (vr 8) (ad (vr 9) (ad (vr 11) ag))))) sN))
abbrev llG:T->En->Rs En:=gT 4 (cT (gN 8) (cT (gN 9) (cT (gN 10) (cT (gN 11) iO))))
theorem tY (R:T)(cs:List T)(s2 s3 s4 s5 s6 s7:Sl):∀(ls:List T) (acc:List T) (s8 s9 s10 s11:Sl),(∀t∈ls,br cs t=true)->acc.length+2*ls.length<=100 →
  ∃y8 y9 y10 y11,aW llG llF ls [.va R,.ow (.lst acc),s2,s3,s4,s5,s6,s7,s8,s9,s10,s11] = .ok (.nx [.va R,.ow (.lst (acc++ls.flatMap lB)),s2,s3,s4,s5,s6,s7,y8,y9,y10,y11])
 | [],acc,s8,s9,s10,s11,_,_=>⟨s8,s9,s10,s11,by simp[aW]⟩
 | t::ls,acc,s8,s9,s10,s11,hl,hn=>by
  rw[List.length_cons]at hn
  have hlb:=sH t;obtain⟨a,b,mo,le,rfl,_,_⟩:=hW (hl t List.mem_cons_self)
  have e2:lB (.tup [a,b,.int le,mo])= .tup [b,a,.int (-le)] ::(if mo.isN then []else [.tup [a,b,mo]]):=rfl
  have e:∀l,o2 du (vr 11) (cn .non) [.va R,.ow (.lst l),s2,s3,s4,s5,s6,s7,.va a,.va b,.va (.int le),.va mo] = .ok (.bl (!mo.isN)):=λl=>rfl
  have st:llF [.va R,.ow (.lst acc),s2,s3,s4,s5,s6,s7,.va a,.va b,.va (.int le),.va mo] = .ok (.nx [.va R,.ow (.lst (acc++lB (.tup [a,b,.int le,mo]))),s2,s3,s4,s5,s6,s7,.va a,.va b,.va (.int le),.va mo]):=by
   refine(az (Z':=[.va R,.ow (.lst (acc++ [.tup [b,a,.int (-le)]])),s2,s3,s4,s5,s6,s7,.va a,.va b,.va (.int le),.va mo]) (mi (l:=acc) (t:=.tup [b,a,.int (-le)]) (cC (aq rfl (aq rfl (aq (aD (t:=.int 0) (u:=.int le) rfl rfl (congrArg (λz=>Rs.ok (T.int z)) (Int.zero_sub le))) rfl))) (au (k:=3) (by simp))) rfl (by omega))).trans ?_
   rw[e2]
   cases q:mo.isN with
   | true=>exact(fg (cr (by rw[e,q];rfl))).trans rfl
   | false=>
    refine(gO (cr (by rw[e,q];rfl))).trans ((mi (l:=acc++ [.tup [b,a,.int (-le)]]) (t:=.tup [a,b,mo]) (cC (aq rfl (aq rfl (aq rfl rfl))) (au (k:=3) (by simp))) rfl (by rw[List.length_append];simp;omega)).trans ?_)
    rw[List.append_assoc]
    rfl
  obtain⟨y8,y9,y10,y11,ih⟩:=tY R cs s2 s3 s4 s5 s6 s7 ls (acc++lB (.tup [a,b,.int le,mo])) (.va a) (.va b) (.va (.int le)) (.va mo) (λu h=>hl u (List.mem_cons_of_mem _ h)) (by rw[List.length_append];omega)
  refine⟨y8,y9,y10,y11,?_⟩
  rw[cR (Z1:=[.va R,.ow (.lst acc),s2,s3,s4,s5,s6,s7,.va a,.va b,.va (.int le),.va mo]) rfl st,ih,List.flatMap_cons,List.append_assoc]
theorem vF {cs ls:List T}(hcs:a6 (.tup cs)=true)(hls:∀t∈ls,br cs t=true)(hn:ls.length<=8):eR [.tup [.tup cs,.tup ls]] = .ok (.lst (yR cs ls)):=by
 obtain⟨hc,c1,c4⟩:=bU hcs;refine cq rfl ?_
 show dD [.va (.tup [.tup cs,.tup ls]),.em,.em,.em,.em,.em,.em,.em,.em,.em,.em,.em] =_
 unfold dD;rw[az (Z':=[.va (.tup [.tup cs,.tup ls]),.ow (.lst []),.em,.em,.em,.em,.em,.em,.em,.em,.em,.em]) (sI (by simp))]
 obtain⟨y2,y3,y4,y5,y6,y7,e⟩:=uc (.tup [.tup cs,.tup ls]) .em .em .em .em cs [] 0 .em .em .em .em .em .em hc (by simp;omega)
 rw[az ((dM (ts:=a7 0 cs) rfl e))]
 have:=pL (i:=0) hc;obtain⟨y8,y9,y10,y11,e2⟩:=tY (.tup [.tup cs,.tup ls]) cs y2 y3 y4 y5 y6 y7 ls ([] ++bC 0 cs) .em .em .em .em hls (by rw[List.nil_append];omega)
 rw[az ((dM (ts:=ls) rfl e2))]
 rfl
theorem wU {l:List T}:(T.tup l).pl=plS l:=by unfold T.pl;rfl
theorem BC {t:T}(h:sm 8 t=true):t.pl=true:=A4 t h
abbrev peF:En->Rs Fl:=lM 1 (dP (iR (ad (cl cF (ad (o2 aP (vr 3) (cn (.int 2))) ag)) ag)) [none,some 2] (gN 0) bT (ba (ad (vr 1) (ad (vr 0) ag))))
theorem qJ (c0 s1:Sl)(x y:T)(r:List T)(i:Nat)(h:r.length<=4) :
  dP (iR (ad (cl cF (ad (o2 aP (vr 3) (cn (.int 2))) ag)) ag)) [none,some 2] (gN 0) bT (ba (ad (vr 1) (ad (vr 0) ag))) [c0,s1,.va (.int i),.va (.tup [x,y,.tup r])] = .ok (.lst (jm i r.length)):=
 rk (C5 (j:=(r.length:Int)) rfl (by omega) (by omega)) (au (k:=4) (by rw[iz];exact h)) (by simp) λt _=>mk2 _ _
theorem tQ:∀(cs:List T) (c0:T) (acc:List T) (i:Nat) (s2 s3:Sl),(∀c∈cs,bi c=true)->acc.length+4*cs.length<=100 →
  ∃y2 y3,aW evG peF (a7 i cs) [.va c0,.ow (.lst acc),s2,s3] = .ok (.nx [.va c0,.ow (.lst (acc++dN i cs)),y2,y3])
 | [],c0,acc,i,s2,s3,_,_=>⟨s2,s3,by simp[a7,aW,dN]⟩
 | c::cs,c0,acc,i,s2,s3,hc,hl=>by
  obtain⟨x,y,r,rfl,r1,r2⟩:=fh (hc c List.mem_cons_self);rw[List.length_cons]at hl
  have st:peF [.va c0,.ow (.lst acc),.va (.int i),.va (.tup [x,y,.tup r])] = .ok (.nx [.va c0,.ow (.lst (acc++jm i r.length)),.va (.int i),.va (.tup [x,y,.tup r])]):=xP (l:=acc) (qJ _ _ x y r i r2) rfl (by rw[fZ];omega)
  obtain⟨z2,z3,ih⟩:=tQ cs c0 (acc++jm i r.length) (i+1) (.va (.int i)) (.va (.tup [x,y,.tup r])) (λc h=>hc c (List.mem_cons_of_mem _ h)) (by rw[List.length_append,fZ];omega)
  refine⟨z2,z3,?_⟩
  rw[a7,cR (Z1:=[.va c0,.ow (.lst acc),.va (.int i),.va (.tup [x,y,.tup r])]) rfl st,ih,dN,List.append_assoc]
  rfl
theorem xb {cs ls:List T}(g:Good cs ls):de [.tup [.tup cs,.tup ls]] = .ok (.lst (dN 0 cs)):=by
 obtain⟨hc,c1,c4⟩:=bU g.c;refine cq rfl ?_
 show iq [.va (.tup [.tup cs,.tup ls]),.em,.em,.em] =_
 unfold iq;rw[az (EE (t:=.non) (bh (ts:=[.tup [.tup cs,.tup ls]]) rfl (qV g.p g.ok)))];rw[az (Z':=[.va (.tup [.tup cs,.tup ls]),.ow (.lst []),.em,.em]) (sI (by simp))]
 obtain⟨y2,y3,e⟩:=tQ cs (.tup [.tup cs,.tup ls]) [] 0 .em .em hc (by simp;omega)
 rw[az ((dM (ts:=a7 0 cs) rfl e))]
 rfl
theorem j9 {g:T->En->Rs En}{F:En->Rs Fl}(J:En->Prop){ts:List T}(h:∀t∈ts,∀Z,J Z->∃Z1 Z2,g t Z= .ok Z1/\F Z1= .ok (.nx Z2)/\J Z2){Z:En}(hj:J Z):∃Z',aW g F ts Z= .ok (.nx Z')/\J Z':=
 (re (p:=λ_=>true) J ts (λt ht Z hj=>by
  obtain⟨Z1,Z2,a,b,c⟩:=h t ht Z hj;exact⟨Z1,a,λ_=>⟨Z2,b,c⟩,λh=>by cases h⟩) Z hj).1 (by simp)
theorem p2 {a b:En->Rs T}{t u:T}{Z:En}(ha:a Z= .ok t)(hb:b Z= .ok u):ba (ad a (ad b ag)) Z= .ok (.tup [t,u]):=cC (aq ha (aq hb rfl)) (au (k:=2) (by simp))
theorem jW {l:List T}:eC [.lst l] = .ok (.tup l):=rfl
theorem AL {cs ls:List T}(g:Good cs ls):(yR cs ls).length<=60:=by
 unfold yR;rw[List.length_append];obtain⟨hc,c1,c4⟩:=bU g.c
 have:=pL (i:=0) hc
 have:=ue ls
 have:=g.n;omega
end G
namespace Gr
variable {ν:Type}[DecidableEq ν]
abbrev bx (ν:Type):=List (ν×ν×Int)
inductive Wk (L:bx ν):ν->ν->Int->Prop
 | nil (a:ν):Wk L a a 0
 | step {a b c:ν} {m s:Int}:(a,b,m)∈L->Wk L b c s->Wk L a c (m+s)
theorem Wk.one {L:bx ν}{a b:ν}{m:Int}(h:(a,b,m)∈L):Wk L a b m:=by
 have:=Wk.step h (Wk.nil (L:=L) b)
 rwa [Int.add_zero]at this
theorem Wk.app {L:bx ν}{a b c:ν}{s t:Int}(h:Wk L a b s)(k:Wk L b c t):Wk L a c (s+t):=by
 induction h with
 | nil a=>rwa [Int.zero_add]
 | step e _ ih=>rw[Int.add_assoc];exact .step e (ih k)
def Holds (L:bx ν)(t:ν->Int):Prop:=∀a b m,(a,b,m)∈L->t b - t a<=m
theorem Holds.walk {L:bx ν}{t:ν->Int}(h:Holds L t){a b:ν}{s:Int}(w:Wk L a b s):t b - t a<=s:=by
 induction w with
 | nil a=>omega
 | step e _ ih=>have:=h _ _ _ e;omega
def gq (L:bx ν):Prop:=∀a s,Wk L a a s->0<=s
theorem Holds.noNeg {L:bx ν}{t:ν->Int}(h:Holds L t):gq L:=λa s w=>by have:=h.walk w;omega
def Ch (L:bx ν):ν->List Nat->ν->Prop
 | a,[],b=>a=b
 | a,k::r,b=> ∃c m,L[k]? =some (a,c,m)/\Ch L c r b
def most (L:bx ν)(k:Nat):Int:=match L[k]? with
 | some x=>x.2.2
 | none=>0
def ef (L:bx ν):List Nat->Int
 | [] =>0
 | k::r=>most L k+ef L r
theorem jS (L:bx ν):∀(p q:List Nat),ef L (p++q)=ef L p+ef L q
 | [],q=>by simp[ef]
 | k::p,q=>by rw[List.cons_append,ef,ef,jS L p q];omega
theorem Ch.wk {L:bx ν}:∀{ks:List Nat} {a b:ν},Ch L a ks b->Wk L a b (ef L ks)
 | [],a,b,h=>by cases h;exact .nil a
 | k::r,a,b,⟨c,m,e,h⟩=>by
  have:ef L (k::r)=m+ef L r:=by rw[ef,most,e]
  rw[this];exact .step (List.mem_of_getElem? e) h.wk
theorem Ch.app {L:bx ν}:∀{p q:List Nat} {a b c:ν},Ch L a p b->Ch L b q c->Ch L a (p++q) c
 | [],q,a,b,c,h,k=>by cases h;exact k
 | x::p,q,a,b,c,⟨d,m,e,h⟩,k=>⟨d,m,e,Ch.app h k⟩
theorem Ch.lt {L:bx ν}:∀{ks:List Nat} {a b:ν},Ch L a ks b->∀k∈ks,k<L.length
 | [],_,_,_,k,hk=>by simp at hk
 | x::r,a,b,⟨c,m,e,h⟩,k,hk=>by
  rcases List.mem_cons.mp hk with rfl | hk
  ·exact(List.getElem?_eq_some_iff.mp e).1
  ·exact h.lt k hk
theorem Ch.snoc {L:bx ν}{p:List Nat}{k:Nat}{a b c:ν}{m:Int}(h:Ch L a p b)(e:L[k]? =some (b,c,m)):Ch L a (p++ [k]) c:=h.app ⟨c,m,e,rfl⟩
def src (L:bx ν)(k:Nat):Option ν:=(L[k]?).map (·.1)
abbrev bX (ν:Type):=ν->Option (Int×List Nat)
def put (b:bX ν)(v:ν)(x:Int×List Nat):bX ν:=λu=>if u=v then some x else b u
theorem dw {b:bX ν}{v:ν}{x:Int×List Nat}:put b v x v=some x:=by unfold put;rw[if_pos rfl]
theorem jb {b:bX ν}{u v:ν}{x:Int×List Nat}(h:u≠v):put b v x u=b u:=by unfold put;rw[if_neg h]
def ee (L:bx ν)(ks:List Nat):List ν:=ks.filterMap (src L)
def dY (b:bX ν)(v:ν)(d:Int):Bool:=match b v with
 | none=>true
 | some x=>decide (d<x.1)
def gn (L:bx ν)(b:bX ν)(k:Nat)(x:ν×ν×Int):Sum (Option (bX ν)) (List Nat):=match b x.1 with
 | none=> .inl none
 | some (d,w)=>if dY b x.2.1 (d+x.2.2)=true then
   if x.2.1∈ee L (w++ [k])then .inr ((w++ [k]).drop ((ee L (w++ [k])).idxOf x.2.1))else .inl (some (put b x.2.1 (d+x.2.2,w++ [k])))
  else .inl none
def gK (L:bx ν):Nat->bx ν->bX ν->Bool->Sum (bX ν×Bool) (List Nat)
 | _,[],b,mv=> .inl (b,mv)
 | k,x::r,b,mv=>match gn L b k x with
  | .inr q=> .inr q
  | .inl none=>gK L (k+1) r b mv
  | .inl (some b')=>gK L (k+1) r b' true
def settle (L:bx ν):Nat->bX ν->Option (Sum (bX ν) (List Nat))
 | 0,_=>none
 | n+1,b=>match gK L 0 L b false with
  | .inr q=>some (.inr q)
  | .inl (b',true)=>settle L n b'
  | .inl (b',false)=>some (.inl b')
theorem oQ (L:bx ν)(p q:List Nat):ee L (p++q)=ee L p++ee L q:=by unfold ee;rw[List.filterMap_append]
theorem oP {L:bx ν}{k:Nat}{x:ν×ν×Int}(e:L[k]? =some x):ee L [k] = [x.1]:=by unfold ee src;simp[e]
theorem Ch.pas_cons {L:bx ν}{k:Nat}{r:List Nat}{a b:ν}(h:Ch L a (k::r) b):ee L (k::r)=a::ee L r:=by
 obtain⟨c,m,e,_⟩:=h;rw[show k::r= [k] ++r from rfl,oQ,oP e];rfl
theorem Ch.cut {L:bx ν}{v:ν}:∀{ks:List Nat} {a b:ν},Ch L a ks b->v∈ee L ks->Ch L a (ks.take ((ee L ks).idxOf v)) v/\Ch L v (ks.drop ((ee L ks).idxOf v)) b/\(ee L ks).idxOf v<ks.length
 | [],a,b,_,hv=>by simp[ee]at hv
 | k::r,a,b,h,hv=>by
  rw[h.pas_cons]at hv ⊢
  have h0:=h;obtain⟨c,m,e,h⟩:=h
  by_cases z:a=v
  ·subst z
   rw[List.idxOf_cons_self];exact⟨rfl,h0,by simp⟩
  ·have hv':v∈ee L r:=by
    rcases List.mem_cons.mp hv with q | q
    ·exact absurd q.symm z
    ·exact q
   obtain⟨h1,h2,h3⟩:=h.cut hv'
   have ei:(a::ee L r).idxOf v=(ee L r).idxOf v+1:=by
    rw[List.idxOf_cons]
    have:(a == v)=false:=by rw[beq_eq_false_iff_ne];exact z
    rw[this];rfl
   rw[ei];exact⟨⟨c,m,e,h1⟩,h2,by simpa using h3⟩
structure Kept (L:bx ν)(S:List ν)(b:bX ν):Prop where
 walk:∀v d w,b v=some (d,w)->∃s∈S,Ch L s w v/\ef L w=d/\v∉ee L w/\(ee L w).Nodup/\∀p q u,w=p++q->Ch L s p u->∃d' w',b u=some (d',w')/\d'<=ef L p
 start:∀s∈S,∃d w,b s=some (d,w)/\d<=0
theorem Kept.put {L:bx ν}{S:List ν}{b:bX ν}(K:Kept L S b){k:Nat}{a c:ν}{m d:Int}{w:List Nat}(e:L[k]? =some (a,c,m))(ha:b a=some (d,w))(hb:dY b c (d+m)=true)(hn:c∉ee L (w++ [k])) :
  Kept L S (put b c (d+m,w++ [k])):=by
 have low:∀u d' w',b u=some (d',w')->∃d'' w'',Gr.put b c (d+m,w++ [k]) u=some (d'',w'')/\d''<=d':=λu d' w' h=>by
  by_cases z:u=c
  ·subst z
   refine⟨_,_,dw,?_⟩
   unfold dY at hb;rw[h]at hb
   have:=of_decide_eq_true hb;omega
  ·exact⟨d',w',by rw[jb z];exact h,Int.le_refl _⟩
 obtain⟨s,hs,h1,h2,h3,h4,h5⟩:=K.walk a d w ha
 have hch:Ch L s (w++ [k]) c:=h1.snoc e
 have hcost:ef L (w++ [k])=d+m:=by rw[jS,h2,ef,ef,most,e];simp
 refine⟨λv d' w' h=> ?_,λs' hs'=> ?_⟩
 ·by_cases z:v=c
  ·subst z
   rw[dw]at h;cases h;refine⟨s,hs,hch,hcost,hn,?_,λp q u hpq hp=> ?_⟩
   ·rw[oQ,oP e]
    exact List.nodup_append.mpr ⟨h4,by simp,λx hx y hy=>by simp at hy;subst hy;exact λz=>h3 (z▸hx)⟩
   ·by_cases hq:q= []
    ·subst hq
     rw[List.append_nil]at hpq;subst hpq
     have:u=v:=by
      clear low hb hn h5
      have aux:∀{ks:List Nat} {x y z:ν},Ch L x ks y->Ch L x ks z->y=z:=by
       intro ks
       induction ks with
       | nil=>intro x y z h1 h2;cases h1;cases h2;rfl
       | cons k r ih=>
        rintro x y z ⟨c1,m1,e1,r1⟩ ⟨c2,m2,e2,r2⟩
        rw[e1]at e2;cases e2;exact ih r1 r2
      exact aux hp hch
     subst this;exact⟨_,_,dw,by rw[hcost];exact Int.le_refl _⟩
    ·have hw:∃q',w=p++q':=by
      refine⟨q.dropLast,?_⟩
      have:=congrArg List.dropLast hpq;rw[List.dropLast_concat,List.dropLast_append_of_ne_nil hq]at this;exact this
     obtain⟨q',hw⟩:=hw;obtain⟨d1,w1,e1,l1⟩:=h5 p q' u hw hp;obtain⟨d2,w2,e2,l2⟩:=low u d1 w1 e1;exact⟨d2,w2,e2,by omega⟩
  ·rw[jb z]at h
   obtain⟨s',hs',g1,g2,g3,g4,g5⟩:=K.walk v d' w' h;refine⟨s',hs',g1,g2,g3,g4,λp q u hpq hp=> ?_⟩
   obtain⟨d1,w1,e1,l1⟩:=g5 p q u hpq hp;obtain⟨d2,w2,e2,l2⟩:=low u d1 w1 e1;exact⟨d2,w2,e2,by omega⟩
 ·obtain⟨d1,w1,e1,l1⟩:=K.start s' hs'
  obtain⟨d2,w2,e2,l2⟩:=low s' d1 w1 e1;exact⟨d2,w2,e2,by omega⟩
def Bar (L:bx ν)(q:List Nat):Prop:=q≠ []/\(∃a,Ch L a q a)/\ef L q<0/\(ee L q).Nodup
theorem Ch.pas_drop {L:bx ν}:∀{ks:List Nat} {a b:ν} (i:Nat),Ch L a ks b->ee L (ks.drop i)=(ee L ks).drop i
 | [],_,_,i,_=>by simp[ee]
 | k::r,a,b,0,_=>rfl
 | k::r,a,b,i+1,h=>by
  have:=h;obtain⟨c,m,e,h'⟩:=this;rw[h.pas_cons,List.drop_succ_cons,List.drop_succ_cons,h'.pas_drop i]
theorem Kept.round {L:bx ν}{S:List ν}{b:bX ν}(K:Kept L S b){k:Nat}{a c:ν}{m d:Int}{w:List Nat}(e:L[k]? =some (a,c,m))(ha:b a=some (d,w))(hb:dY b c (d+m)=true)(hn:c∈ee L (w++ [k])) :
  Bar L ((w++ [k]).drop ((ee L (w++ [k])).idxOf c)):=by
 obtain⟨s,hs,h1,h2,h3,h4,h5⟩:=K.walk a d w ha
 have hch:Ch L s (w++ [k]) c:=h1.snoc e
 have hcost:ef L (w++ [k])=d+m:=by rw[jS,h2,ef,ef,most,e];simp
 obtain⟨c1,c2,c3⟩:=hch.cut hn
 generalize hi:(ee L (w++ [k])).idxOf c=i at c1 c2 c3
 refine⟨λz=> ?_,⟨c,c2⟩,?_,?_⟩
 ·have:=congrArg List.length z
  rw[List.length_drop]at this
  simp at this c3
  omega
 ·have hsum:ef L ((w++ [k]).take i)+ef L ((w++ [k]).drop i)=d+m:=by rw[<-jS,List.take_append_drop,hcost]
  have hiw:i<=w.length:=by simp at c3;omega
  have ht:(w++ [k]).take i=w.take i:=by rw[List.take_append_of_le_length hiw]
  rw[ht]at c1 hsum;obtain⟨d1,w1,e1,l1⟩:=h5 (w.take i) (w.drop i) c (List.take_append_drop i w).symm c1;unfold dY at hb;rw[e1]at hb
  have:=of_decide_eq_true hb;simp only at this;omega
 ·rw[hch.pas_drop,oQ,oP e]
  refine(List.drop_sublist _ _).nodup (List.nodup_append.mpr ⟨h4,by simp,λx hx y hy=> ?_⟩)
  rw[List.mem_singleton.mp hy];exact λz=>h3 (by have z:x=a:=z;rw[<-z];exact hx)
def size (L:bx ν):Nat:=(L.map λx=>x.2.2.natAbs).sum
theorem iW {f:Nat->Nat}:∀{ks rs:List Nat},ks.Nodup->(∀k∈ks,k∈rs)->(ks.map f).sum<=(rs.map f).sum
 | [],rs,_,_=>by simp
 | k::ks,rs,hn,hs=>by
  have hk:k∈rs:=hs k List.mem_cons_self;rw[List.nodup_cons]at hn
  have hp:=List.perm_cons_erase hk
  have e:(rs.map f).sum=f k+((rs.erase k).map f).sum:=by
   have:=(hp.map f).sum_nat
   rwa [List.map_cons,List.sum_cons]at this
  rw[e,List.map_cons,List.sum_cons]
  have:=iW (f:=f) hn.2 (rs:=rs.erase k) λj hj=>by
   have h1:=hs j (List.mem_cons_of_mem _ hj);exact(List.mem_erase_of_ne (λ(z:j=k)=>hn.1 (z▸hj))).mpr h1
  omega
theorem sd (L:bx ν):size L=((List.range L.length).map λk=>(most L k).natAbs).sum:=by
 unfold size
 congr 1
 apply List.ext_getElem
 ·simp
 ·intro i h1 h2
  simp only[List.getElem_map,List.getElem_range];unfold most;rw[List.getElem?_eq_getElem (by simpa using h1)]
theorem uE (L:bx ν):∀(ks:List Nat),(ef L ks).natAbs<=(ks.map λk=>(most L k).natAbs).sum
 | [] =>by simp[ef]
 | k::r=>by
  have:=uE L r;rw[ef,List.map_cons,List.sum_cons];omega
theorem Ch.nodup {L:bx ν}:∀{ks:List Nat} {a b:ν},Ch L a ks b->(ee L ks).Nodup->ks.Nodup
 | [],_,_,_,_=>List.nodup_nil
 | k::r,a,b,h,hn=>by
  have h0:=h;rw[h.pas_cons,List.nodup_cons]at hn;obtain⟨c,m,e,h⟩:=h;rw[List.nodup_cons];refine⟨λhk=>hn.1 ?_,h.nodup hn.2⟩
  unfold ee src;exact List.mem_filterMap.mpr ⟨k,hk,by rw[e];rfl⟩
theorem Ch.small {L:bx ν}{ks:List Nat}{a b:ν}(h:Ch L a ks b)(hn:(ee L ks).Nodup):(ef L ks).natAbs<=size L:=by
 rw[sd];exact Nat.le_trans (uE L ks) (iW (h.nodup hn) λk hk=>List.mem_range.mpr (h.lt k hk))
def val (M:Nat)(b:bX ν)(v:ν):Nat:=match b v with
 | none=>2*M+1
 | some x=>(x.1+M).toNat
def left (M:Nat)(b:bX ν)(L:bx ν):Nat:=(L.map λx=>val M b x.2.1).sum
theorem ua {M:Nat}{b b':bX ν}:∀{L:bx ν},(∀x∈L,val M b' x.2.1<=val M b x.2.1)->left M b' L<=left M b L
 | [],_=>by simp[left]
 | x::L,h=>by
  have h1:=h x List.mem_cons_self
  have h2:=ua (L:=L) λy hy=>h y (List.mem_cons_of_mem _ hy)
  unfold left at h2 ⊢;rw[List.map_cons,List.sum_cons,List.map_cons,List.sum_cons];omega
theorem t9 {M:Nat}{b b':bX ν}{x:ν×ν×Int}:∀{L:bx ν},x∈L->(∀x∈L,val M b' x.2.1<=val M b x.2.1)->val M b' x.2.1<val M b x.2.1->left M b' L<left M b L
 | [],hx,_,_=>by simp at hx
 | y::L,hx,h,hl=>by
  have h1:=h y List.mem_cons_self
  have h2:=ua (L:=L) λy hy=>h y (List.mem_cons_of_mem _ hy)
  unfold left at h2 ⊢;rw[List.map_cons,List.sum_cons,List.map_cons,List.sum_cons];rcases List.mem_cons.mp hx with rfl | hx
  ·omega
  ·have h3:=t9 (L:=L) hx (λy hy=>h y (List.mem_cons_of_mem _ hy)) hl
   unfold left at h3;omega
theorem xA {L:bx ν}{S:List ν}{b:bX ν}(K:Kept L S b){k:Nat}{a c:ν}{m d:Int}{w:List Nat}(e:L[k]? =some (a,c,m))(ha:b a=some (d,w))(hb:dY b c (d+m)=true)(hn:c∉ee L (w++ [k])) :
  left (size L) (put b c (d+m,w++ [k])) L<left (size L) b L:=by
 have K':=K.put e ha hb hn;obtain⟨s,hs,h1,h2,h3,h4,h5⟩:=K'.walk c (d+m) (w++ [k]) dw
 have sm:=h1.small h4;rw[h2]at sm
 have lt:val (size L) (put b c (d+m,w++ [k])) c<val (size L) b c:=by
  unfold val dY at*;rw[dw]
  cases z:b c with
  | none=>simp only;omega
  | some y=>
   rw[z]at hb
   have hb:=of_decide_eq_true hb;simp only;omega
 refine t9 (x:=(a,c,m)) (List.mem_of_getElem? e) (λy _=> ?_) lt
 by_cases z:y.2.1=c
 ·rw[z];exact Nat.le_of_lt lt
 ·unfold val;rw[jb z];exact Nat.le_refl _
def yJ (b:bX ν)(x:ν×ν×Int):Prop:=∀d w,b x.1=some (d,w)->∃d' w',b x.2.1=some (d',w')/\d'<=d+x.2.2
theorem wy {b:bX ν}{x:ν×ν×Int}(h:∀d w,b x.1=some (d,w)->dY b x.2.1 (d+x.2.2)=false):yJ b x:=λd w e=>by
 have:=h d w e;unfold dY at this
 cases z:b x.2.1 with
 | none=>rw[z]at this;cases this
 | some y=>
  rw[z]at this
  have:=of_decide_eq_false this;exact⟨y.1,y.2,rfl,by omega⟩
theorem gV {L:bx ν}{S:List ν}:∀(r:bx ν) (k:Nat) (b:bX ν) (mv:Bool),L.drop k=r->Kept L S b->match gK L k r b mv with
  | .inr q=>Bar L q
  | .inl (b',mv')=>Kept L S b'/\(mv'=false->mv=false/\b'=b/\∀x∈r,yJ b x)/\left (size L) b' L<=left (size L) b L/\(mv'=true->mv=true\/left (size L) b' L<left (size L) b L)
 | [],k,b,mv,_,K=>⟨K,λh=>⟨h,rfl,λx hx=>by simp at hx⟩,Nat.le_refl _,λh=> .inl h⟩
 | x::r,k,b,mv,hr,K=>by
  have e:L[k]? =some x:=by
   have:=congrArg (·[0]?) hr
   simpa using this
  have hr':L.drop (k+1)=r:=by
   have:=congrArg (List.drop 1) hr
   simpa [List.drop_drop,Nat.add_comm]using this
  rw[gK];obtain⟨a,c,m⟩:=x;unfold gn
  cases z:b a with
  | none=>
   simp only[z]
   have ih:=gV r (k+1) b mv hr' K
   revert ih
   generalize gK L (k+1) r b mv=R
   cases R with
   | inr q=>exact id
   | inl p=>
    obtain⟨b',mv'⟩:=p
    rintro ⟨i1,i2,i3,i4⟩
    refine⟨i1,λh=> ?_,i3,i4⟩
    obtain⟨j1,j2,j3⟩:=i2 h;refine⟨j1,j2,λx hx=> ?_⟩
    rcases List.mem_cons.mp hx with rfl | hx
    ·intro d w q;rw[z]at q;cases q
    ·exact j3 x hx
  | some y=>
   obtain⟨d,w⟩:=y;simp only[z]
   by_cases hb:dY b c (d+m)=true
   ·rw[if_pos hb]
    by_cases hn:c∈ee L (w++ [k])
    ·rw[if_pos hn]
     exact K.round e z hb hn
    ·rw[if_neg hn]
     have K':=K.put e z hb hn
     have lt:=xA K e z hb hn
     have ih:=gV r (k+1) (put b c (d+m,w++ [k])) true hr' K'
     revert ih
     simp only
     generalize gK L (k+1) r (put b c (d+m,w++ [k])) true=R
     cases R with
     | inr q=>exact id
     | inl p=>
      obtain⟨b',mv'⟩:=p
      rintro ⟨i1,i2,i3,i4⟩
      refine⟨i1,λh=> ?_,by omega,λ_=> .inr (by omega)⟩
      obtain⟨j1,_⟩:=i2 h;cases j1
   ·rw[if_neg hb]
    have ih:=gV r (k+1) b mv hr' K
    revert ih
    simp only
    generalize gK L (k+1) r b mv=R
    cases R with
    | inr q=>exact id
    | inl p=>
     obtain⟨b',mv'⟩:=p
     rintro ⟨i1,i2,i3,i4⟩
     refine⟨i1,λh=> ?_,i3,i4⟩
     obtain⟨j1,j2,j3⟩:=i2 h;refine⟨j1,j2,λx hx=> ?_⟩
     rcases List.mem_cons.mp hx with rfl | hx
     ·refine wy λd' w' q=> ?_
      simp only at q;rw[z]at q;cases q
      simpa using hb
     ·exact j3 x hx
structure Settled (L:bx ν)(S:List ν)(b:bX ν):Prop where
 walk:∀v d w,b v=some (d,w)->∃s∈S,Ch L s w v/\ef L w=d/\v∉ee L w/\(ee L w).Nodup
 least:∀s∈S,∀v t,Wk L s v t->∃d w,b v=some (d,w)/\d<=t
theorem se {L:bx ν}{S:List ν}{b:bX ν}(K:Kept L S b)(h:∀x∈L,yJ b x):Settled L S b where
 walk:=λv d w e=>by
  obtain⟨s,h1,h2,h3,h4,h5,_⟩:=K.walk v d w e;exact⟨s,h1,h2,h3,h4,h5⟩
 least:=by
  have go:∀{u v:ν} {t:Int},Wk L u v t->∀d w,b u=some (d,w)->∃d' w',b v=some (d',w')/\d'<=d+t:=by
   intro u v t hw
   induction hw with
   | nil a=>exact λd w e=>⟨d,w,e,by omega⟩
   | step e _ ih=>
    intro d w q;obtain⟨d1,w1,e1,l1⟩:=h _ e d w q;obtain⟨d2,w2,e2,l2⟩:=ih d1 w1 e1;exact⟨d2,w2,e2,by simp only at l1;omega⟩
  intro s hs v t hw;obtain⟨d,w,e,l⟩:=K.start s hs;obtain⟨d2,w2,e2,l2⟩:=go hw d w e;exact⟨d2,w2,e2,by omega⟩
theorem nt {L:bx ν}{S:List ν}:∀(n:Nat) (b:bX ν),Kept L S b->left (size L) b L<n->∃r,settle L n b=some r/\match r with
  | .inr q=>Bar L q
  | .inl b'=>Settled L S b'
 | 0,b,K,h=>by omega
 | n+1,b,K,h=>by
  have s:=gV (S:=S) L 0 b false rfl K;rw[settle]
  revert s
  generalize gK L 0 L b false=R
  cases R with
  | inr q=>exact λs=>⟨_,rfl,s⟩
  | inl p=>
   obtain⟨b',mv'⟩:=p
   rintro ⟨i1,i2,i3,i4⟩
   cases mv' with
   | false=>
    obtain⟨_,j2,j3⟩:=i2 rfl;subst j2
    exact⟨_,rfl,se i1 j3⟩
   | true=>
    rcases i4 rfl with z | z
    ·cases z
    ·exact nt n b' i1 (by omega)
def start (S:List ν):bX ν:=λv=>if v∈S then some (0,[])else none
theorem mh (L:bx ν)(S:List ν):Kept L S (start S) where
 walk:=λv d w e=>by
  unfold start at e
  split at e
  ·rename_i h
   cases e;refine⟨v,h,rfl,rfl,by simp[ee],by simp[ee],λp q u hpq hp=> ?_⟩
   obtain⟨rfl,rfl⟩:=List.append_eq_nil_iff.mp hpq.symm;cases hp;exact⟨0,[],by unfold start;rw[if_pos h],by simp[ef]⟩
  ·cases e
 start:=λs hs=>⟨0,[],by unfold start;rw[if_pos hs],Int.le_refl _⟩
theorem xC (L:bx ν)(S:List ν):left (size L) (start S) L<=L.length*(2*size L+1):=by
 unfold left
 have:∀M:bx ν,(M.map λx=>val (size L) (start S) x.2.1).sum<=M.length*(2*size L+1):=by
  intro M
  induction M with
  | nil=>simp
  | cons x M ih=>
   rw[List.map_cons,List.sum_cons,List.length_cons,Nat.succ_mul]
   have:val (size L) (start S) x.2.1<=2*size L+1:=by
    unfold val start;split
    ·exact Nat.le_refl _
    ·rename_i h
     split at h
     ·cases h;simp;omega
     ·cases h
   omega
 exact this L
theorem sf (L:bx ν)(S:List ν){n:Nat}(h:L.length*(2*size L+1)<n):∃r,settle L n (start S)=some r/\match r with
  | .inr q=>Bar L q
  | .inl b'=>Settled L S b':=nt n (start S) (mh L S) (Nat.lt_of_le_of_lt (xC L S) h)
theorem Bar.neg {L:bx ν}{q:List Nat}(h:Bar L q):¬ gq L:=λn=>by
 obtain⟨_,⟨a,ha⟩,hc,_⟩:=h
 have:=n a _ ha.wk;omega
theorem Settled.holds {L:bx ν}{S:List ν}{b:bX ν}(h:Settled L S b)(hS:∀x∈L,x.1∈S/\x.2.1∈S){t:ν->Int}(ht:∀v∈S,∃w,b v=some (t v,w)):Holds L t:=λa c m hx=>by
 obtain⟨ha,hc⟩:=hS _ hx;obtain⟨w,e⟩:=ht a ha;obtain⟨s,hs,h1,h2,_⟩:=h.walk a _ _ e;obtain⟨d,w',e',l⟩:=h.least s hs c _ (h1.wk.app (.one hx));obtain⟨w2,e2⟩:=ht c hc;rw[e2]at e';cases e';omega
inductive Pth (L:bx ν):ν->List ν->ν->Int->Prop
 | one {a b:ν} {m:Int}:(a,b,m)∈L->Pth L a [] b m
 | cons {a x b:ν} {ms:List ν} {m s:Int}:(a,x,m)∈L->Pth L x ms b s->Pth L a (x::ms) b (m+s)
theorem Pth.cut {L:bx ν}{x:ν}{q:List ν}:∀{p:List ν} {a b:ν} {s:Int},Pth L a (p++x::q) b s->∃s1 s2,Pth L a p x s1/\Pth L x q b s2/\s=s1+s2
 | [],a,b,s,h=>by
  cases h with
  | cons e h=>exact⟨_,_,.one e,h,rfl⟩
 | y::p,a,b,s,h=>by
  cases h with
  | cons e h=>
   obtain⟨s1,s2,h1,h2,h3⟩:=Pth.cut h;exact⟨_,s2,.cons e h1,h2,by omega⟩
def Dp (L:bx ν)(u v:ν)(s:Int):Prop:=(u=v/\s=0)\/(u≠v/\∃ms,Pth L u ms v s/\ms.Nodup/\u∉ms/\v∉ms)
def yM (L:bx ν):Prop:=∃x ms s,Pth L x ms x s/\ms.Nodup/\x∉ms/\s<0
theorem Wk.simple {L:bx ν}{u v:ν}{s:Int}(w:Wk L u v s):yM L\/∃s',s'<=s/\Dp L u v s':=by
 induction w with
 | nil a=>exact .inr ⟨0,Int.le_refl _,.inl ⟨rfl,rfl⟩⟩
 | @step a b c m s e w ih=>
  rcases ih with ih | ⟨s',hs,ih⟩
  ·exact .inl ih
  by_cases hab:a=b
  ·subst hab
   by_cases hm:m<0
   ·exact .inl ⟨a,[],m,.one e,List.nodup_nil,by simp,hm⟩
   ·exact .inr ⟨s',by omega,ih⟩
  rcases ih with⟨rfl,rfl⟩ | ⟨hbc,ms,hp,hn,hb,hc⟩
  ·exact .inr ⟨m,by omega,.inr ⟨hab,[],.one e,List.nodup_nil,by simp,by simp⟩⟩
  by_cases hac:a=c
  ·subst hac
   by_cases hm:m+s'<0
   ·exact .inl ⟨a,b::ms,m+s',.cons e hp,List.nodup_cons.mpr ⟨hb,hn⟩,by simp[hab,hc],hm⟩
   ·exact .inr ⟨0,by omega,.inl ⟨rfl,rfl⟩⟩
  by_cases ham:a∈ms
  ·obtain⟨p,q,rfl⟩:=List.append_of_mem ham
   obtain⟨s1,s2,h1,h2,h3⟩:=hp.cut;rw[List.nodup_append]at hn;obtain⟨n1,n2,n3⟩:=hn;rw[List.nodup_cons]at n2
   have hap:a∉p:=λz=>n3 a z a List.mem_cons_self rfl
   by_cases hm:m+s1<0
   ·refine .inl ⟨a,b::p,m+s1,.cons e h1,List.nodup_cons.mpr ⟨λz=>hb (List.mem_append_left _ z),n1⟩,by simp[hab,hap],hm⟩
   ·exact .inr ⟨s2,by omega,.inr ⟨hac,q,h2,n2.2,n2.1,λz=>hc (List.mem_append_right _ (List.mem_cons_of_mem _ z))⟩⟩
  ·refine .inr ⟨m+s',by omega,.inr ⟨hac,b::ms,.cons e hp,List.nodup_cons.mpr ⟨hb,hn⟩,by simp[hab,ham],?_⟩⟩
   simp only[List.mem_cons,not_or];exact⟨λz=>hbc z.symm,hc⟩
abbrev dZ (ν:Type):=ν->ν->Option Int
def ig (f:dZ ν)(a b:ν)(x:Int):dZ ν:=λu v=>if u=a/\v=b then some x else f u v
def kW (f:dZ ν)(a b:ν)(x:Int):dZ ν:=match f a b with
 | none=>ig f a b x
 | some y=>if x<y then ig f a b x else f
def jM (mid one other:ν)(f:dZ ν):dZ ν:=match f one mid,f mid other with
 | some x,some y=>kW f one other (x+y)
 | _,_=>f
def qf (P:List ν):dZ ν:=λu v=>if u∈P/\u=v then some 0 else none
def wr (P:List ν)(L:bx ν):dZ ν:=L.foldl (λf x=>kW f x.1 x.2.1 x.2.2) (qf P)
def jN (mid one:ν)(P:List ν)(f:dZ ν):dZ ν:=P.foldl (λf other=>jM mid one other f) f
def ml (mid:ν)(Q P:List ν)(f:dZ ν):dZ ν:=Q.foldl (λf one=>jN mid one P f) f
def rp (M P:List ν)(f:dZ ν):dZ ν:=M.foldl (λf mid=>ml mid P P f) f
def table (P:List ν)(L:bx ν):dZ ν:=rp P P (wr P L)
def Le (f g:dZ ν):Prop:=∀u v x,g u v=some x->∃y,f u v=some y/\y<=x
theorem Le.refl (f:dZ ν):Le f f:=λu v x h=>⟨x,h,Int.le_refl _⟩
theorem Le.trans {f g h:dZ ν}(a:Le f g)(b:Le g h):Le f h:=λu v x e=>by
 obtain⟨y,e1,l1⟩:=b u v x e;obtain⟨z,e2,l2⟩:=a u v y e1;exact⟨z,e2,by omega⟩
theorem kl {f:dZ ν}{a b:ν}{x:Int}:ig f a b x a b=some x:=by unfold ig;rw[if_pos ⟨rfl,rfl⟩]
theorem pC (f:dZ ν)(a b:ν)(x:Int):Le (kW f a b x) f:=λu v y e=>by
 unfold kW
 cases q:f a b with
 | none=>
  by_cases z:u=a/\v=b
  ·obtain⟨rfl,rfl⟩:=z;rw[q]at e;cases e
  ·exact⟨y,by simp only;unfold ig;rw[if_neg z];exact e,Int.le_refl _⟩
 | some y0=>
  simp only;split
  ·by_cases z:u=a/\v=b
   ·obtain⟨rfl,rfl⟩:=z;rw[q]at e;cases e
    exact⟨x,kl,by omega⟩
   ·exact⟨y,by unfold ig;rw[if_neg z];exact e,Int.le_refl _⟩
  ·exact⟨y,e,Int.le_refl _⟩
theorem uq (f:dZ ν)(a b:ν)(x:Int):∃y,kW f a b x a b=some y/\y<=x:=by
 unfold kW
 cases q:f a b with
 | none=>exact⟨x,kl,Int.le_refl _⟩
 | some y0=>
  simp only;split
  ·exact⟨x,kl,Int.le_refl _⟩
  ·exact⟨y0,q,by omega⟩
theorem mq {L:bx ν}{f:dZ ν}{a b:ν}{x:Int}(h:∀u v y,f u v=some y->Wk L u v y)(hx:Wk L a b x):∀u v y,kW f a b x u v=some y->Wk L u v y:=λu v y e=>by
 have key:ig f a b x u v=some y->Wk L u v y:=λe'=>by
  unfold ig at e'
  by_cases z:u=a/\v=b
  ·rw[if_pos z]at e';injection e' with e';rw[z.1,z.2,<-e'];exact hx
  ·rw[if_neg z]at e';exact h u v y e'
 unfold kW at e
 cases q:f a b with
 | none=>rw[q]at e;exact key e
 | some y0=>
  rw[q]at e;simp only at e
  split at e
  ·exact key e
  ·exact h u v y e
theorem rn (mid one other:ν)(f:dZ ν):Le (jM mid one other f) f:=by
 unfold jM;split
 ·exact pC _ _ _ _
 ·exact Le.refl f
theorem x9 {mid one other:ν}{f:dZ ν}{x y:Int}(h1:f one mid=some x)(h2:f mid other=some y):∃z,jM mid one other f one other=some z/\z<=x+y:=by
 unfold jM;rw[h1,h2];exact uq _ _ _ _
theorem iI {α:Type}(step:dZ ν->α->dZ ν)(hs:∀f a,Le (step f a) f):∀(l:List α) (f:dZ ν),Le (l.foldl step f) f
 | [],f=>Le.refl f
 | a::l,f=>(iI step hs l (step f a)).trans (hs f a)
theorem mj (mid one:ν)(P:List ν)(f:dZ ν):Le (jN mid one P f) f:=iI _ (λf o=>rn mid one o f) P f
theorem ro (mid:ν)(Q P:List ν)(f:dZ ν):Le (ml mid Q P f) f:=iI _ (λf o=>mj mid o P f) Q f
theorem yd (M P:List ν)(f:dZ ν):Le (rp M P f) f:=iI _ (λf o=>ro o P P f) M f
theorem lm {α:Type}(step:dZ ν->α->dZ ν)(hs:∀f a,Le (step f a) f):∀(l:List α) (f:dZ ν) (a:α),a∈l->∃g,Le g f/\Le (l.foldl step f) (step g a)
 | [],f,a,h=>by simp at h
 | b::l,f,a,h=>by
  rcases List.mem_cons.mp h with rfl | h
  ·exact⟨f,Le.refl f,iI step hs l (step f a)⟩
  ·obtain⟨g,h1,h2⟩:=lm step hs l (step f b) a h
   exact⟨g,h1.trans (hs f b),h2⟩
theorem yc {mid u v:ν}{P:List ν}{f:dZ ν}{x y:Int}(hu:u∈P)(hv:v∈P)(h1:f u mid=some x)(h2:f mid v=some y):∃z,ml mid P P f u v=some z/\z<=x+y:=by
 obtain⟨g,g1,g2⟩:=lm (λf one=>jN mid one P f) (λf o=>mj mid o P f) P f u hu
 obtain⟨g',g3,g4⟩:=lm (λf other=>jM mid u other f) (λf o=>rn mid u o f) P g v hv
 have l:Le g' f:=g3.trans g1;obtain⟨x',e1,l1⟩:=l _ _ _ h1;obtain⟨y',e2,l2⟩:=l _ _ _ h2;obtain⟨z,e3,l3⟩:=x9 e1 e2;obtain⟨z',e4,l4⟩:=(g2.trans g4) _ _ _ e3;exact⟨z',e4,by omega⟩
def Up (L:bx ν)(M:List ν)(f:dZ ν):Prop:=∀u v ms s,Pth L u ms v s->ms.Nodup->(∀x∈ms,x∈M)->∃y,f u v=some y/\y<=s
theorem Pth.ends {L:bx ν}{P:List ν}(hL:∀x∈L,x.1∈P/\x.2.1∈P){u v:ν}{ms:List ν}{s:Int}(h:Pth L u ms v s):u∈P/\v∈P/\∀x∈ms,x∈P:=by
 induction h with
 | one e=>exact⟨(hL _ e).1,(hL _ e).2,by simp⟩
 | cons e _ ih=>exact⟨(hL _ e).1,ih.2.1,λx hx=>by
   rcases List.mem_cons.mp hx with rfl | hx
   ·exact ih.1
   ·exact ih.2.2 x hx⟩
theorem Up.mid {L:bx ν}{P M:List ν}{f:dZ ν}(hL:∀x∈L,x.1∈P/\x.2.1∈P)(h:Up L M f)(k:ν):Up L (k::M) (ml k P P f):=λu v ms s hp hn hm=>by
 by_cases hk:k∈ms
 ·obtain⟨p,q,rfl⟩:=List.append_of_mem hk
  obtain⟨s1,s2,h1,h2,h3⟩:=hp.cut;rw[List.nodup_append]at hn;obtain⟨n1,n2,n3⟩:=hn;rw[List.nodup_cons]at n2
  have hp':∀x∈p,x∈M:=λx hx=>by
   rcases List.mem_cons.mp (hm x (List.mem_append_left _ hx))with rfl | z
   ·exact absurd rfl (n3 x hx x List.mem_cons_self)
   ·exact z
  have hq':∀x∈q,x∈M:=λx hx=>by
   rcases List.mem_cons.mp (hm x (List.mem_append_right _ (List.mem_cons_of_mem _ hx)))with rfl | z
   ·exact absurd hx n2.1
   ·exact z
  obtain⟨y1,e1,l1⟩:=h u k p s1 h1 n1 hp';obtain⟨y2,e2,l2⟩:=h k v q s2 h2 n2.2 hq';obtain⟨z,e3,l3⟩:=yc (P:=P) (h1.ends hL).1 (h2.ends hL).2.1 e1 e2;exact⟨z,e3,by omega⟩
 ·obtain⟨y,e,l⟩:=h u v ms s hp hn λx hx=>by
   rcases List.mem_cons.mp (hm x hx)with rfl | z
   ·exact absurd hx hk
   ·exact z
  obtain⟨z,e2,l2⟩:=ro k P P f u v y e;exact⟨z,e2,by omega⟩
theorem Up.mids {L:bx ν}{P:List ν}(hL:∀x∈L,x.1∈P/\x.2.1∈P):∀(Q M:List ν) (f:dZ ν),Up L M f->∃M',(∀x,x∈Q\/x∈M->x∈M')/\Up L M' (rp Q P f)
 | [],M,f,h=>⟨M,λx hx=>hx.elim (λz=>by simp at z) id,h⟩
 | k::Q,M,f,h=>by
  obtain⟨M',h1,h2⟩:=Up.mids hL Q (k::M) (ml k P P f) (h.mid hL k);refine⟨M',λx hx=>h1 x ?_,h2⟩
  rcases hx with hx | hx
  ·rcases List.mem_cons.mp hx with rfl | hx
   ·exact .inr List.mem_cons_self
   ·exact .inl hx
  ·exact .inr (List.mem_cons_of_mem _ hx)
theorem zh {P:List ν}{L:bx ν}:Up L [] (wr P L):=λu v ms s hp hn hm=>by
 have:ms= []:=by
  cases ms with
  | nil=>rfl
  | cons x r=>exact absurd (hm x List.mem_cons_self) (by simp)
 subst this
 cases hp with
 | one e=>
  obtain⟨g,h1,h2⟩:=lm (λ(f:dZ ν) (x:ν×ν×Int)=>kW f x.1 x.2.1 x.2.2) (λf x=>pC f _ _ _) L (qf P) _ e
  obtain⟨y,e1,l1⟩:=uq g u v s;obtain⟨z,e2,l2⟩:=h2 u v y e1;exact⟨z,e2,by omega⟩
theorem fX {α:Type}{L:bx ν}(step:dZ ν->α->dZ ν):∀(l:List α) (f:dZ ν),(∀f,∀a∈l,(∀u v y,f u v=some y->Wk L u v y)->∀u v y,step f a u v=some y->Wk L u v y)->(∀u v y,f u v=some y->Wk L u v y)->∀u v y,l.foldl step f u v=some y->Wk L u v y
 | [],f,_,h=>h
 | a::l,f,hs,h=>fX step l (step f a) (λf b hb=>hs f b (List.mem_cons_of_mem _ hb)) (hs f a List.mem_cons_self h)
theorem kC (P:List ν)(L:bx ν):∀u v y,table P L u v=some y->Wk L u v y:=by
 unfold table rp;refine fX _ P _ (λf m _ h=> ?_) ?_
 ·unfold ml
  refine fX _ P _ (λf o _ h=> ?_) h
  unfold jN;refine fX _ P _ (λf v _ h=> ?_) h
  unfold jM
  cases e1:f o m with
  | none=>exact h
  | some x=>
   cases e2:f m v with
   | none=>exact h
   | some y=>exact mq h ((h _ _ _ e1).app (h _ _ _ e2))
 ·unfold wr
  refine fX _ L _ (λf x hx h=>mq h (.one hx)) λu v y e=> ?_
  unfold qf at e
  split at e
  ·rename_i z;obtain⟨_,rfl⟩:=z;cases e;exact .nil u
  ·cases e
theorem qc {P:List ν}{L:bx ν}(hL:∀x∈L,x.1∈P/\x.2.1∈P):∀u v ms s,Pth L u ms v s->ms.Nodup->∃y,table P L u v=some y/\y<=s:=λu v ms s hp hn=>by
 obtain⟨M',h1,h2⟩:=Up.mids hL P [] (wr P L) zh;exact h2 u v ms s hp hn λx hx=>h1 x (.inl ((hp.ends hL).2.2 x hx))
theorem lC {P:List ν}{L:bx ν}{u:ν}(hu:u∈P):∃y,table P L u u=some y/\y<=0:=by
 have h0:qf P u u=some 0:=by unfold qf;rw[if_pos ⟨hu,rfl⟩]
 have h1:Le (table P L) (qf P):=(yd P P _).trans (iI _ (λf x=>pC f _ _ _) L _)
 exact h1 u u 0 h0
structure mM (L:bx ν)(P:List ν)(f:dZ ν):Prop where
 is:∀u v d,f u v=some d->Wk L u v d
 le:∀u∈P,∀v t,Wk L u v t->∃d,f u v=some d/\d<=t
theorem uW {P:List ν}{L:bx ν}{u:ν}{y:Int}(h:table P L u u=some y)(hy:y<0):¬ gq L:=λn=>by
 have:=n u y (kC P L u u y h);omega
theorem qe {P:List ν}{L:bx ν}(hL:∀x∈L,x.1∈P/\x.2.1∈P)(h:∀u∈P,∀y,table P L u u=some y->0<=y):gq L/\mM L P (table P L):=by
 have nc:¬ yM L:=λ⟨x,ms,s,hp,hn,_,hs⟩=>by
  obtain⟨y,e,l⟩:=qc hL x x ms s hp hn
  have:=h x (hp.ends hL).1 y e;omega
 have le:∀u∈P,∀v t,Wk L u v t->∃d,table P L u v=some d/\d<=t:=λu hu v t w=>by
  rcases w.simple with z | ⟨s',hs,z⟩
  ·exact absurd z nc
  ·rcases z with⟨rfl,rfl⟩ | ⟨_,ms,hp,hn,_⟩
   ·obtain⟨y,e,l⟩:=lC (L:=L) hu
    exact⟨y,e,by omega⟩
   ·obtain⟨y,e,l⟩:=qc hL u v ms s' hp hn
    exact⟨y,e,by omega⟩
 refine⟨λa s w=> ?_,λu v d e=>kC P L u v d e,le⟩
 by_cases ha:a∈P
 ·obtain⟨d,e,l⟩:=le a ha a s w
  have:=h a ha d e;omega
 ·cases w with
  | nil=>exact Int.le_refl _
  | step e _=>exact absurd (hL _ e).1 ha
end Gr
namespace G
open PySem Tr Gr
structure N2 where
 c:Int
 k:Int
deriving DecidableEq
theorem N2.ext':∀{u v:N2},u.c=v.c->u.k=v.k->u=v
 | ⟨_,_⟩,⟨_,_⟩,rfl,rfl=>rfl
def en (v:N2):T:=.tup [.int v.c,.int v.k]
def eB (x:N2×N2×Int):T:=.tup [en x.1,en x.2.1,.int x.2.2]
def eN (ks:List Nat):List T:=ks.map λk=> .int (k:Nat)
def eW (x:Int×List Nat):T:=.tup [.int x.1,.lst (eN x.2)]
def ky (v:N2):List L2.Key:=[.inl v.c,.inl v.k]
theorem a9 (v:N2):aQ (en v)=some (ky v):=rfl
theorem gF {u v:N2}(h:some (ky u)=some (ky v)):u=v:=by
 injection h with h
 injection h with h1 h2
 injection h2 with h2 _
 injection h1 with h1
 injection h2 with h2
 exact N2.ext' h1 h2
theorem sP {u v:N2}(h:en u=en v):u=v:=gF (by rw[<-a9 u,<-a9 v,h])
theorem yD (u v:N2):aR (en u) (en v)=decide (u=v):=by
 unfold en aR beqTs aR beqTs beqTs
 by_cases h:u=v
 ·subst h;simp[aR]
 ·have:¬ (u.c=v.c/\u.k=v.k):=λz=>h (N2.ext' z.1 z.2)
  simp[h,aR];exact λz=>λy=>this ⟨z,y⟩
theorem jQ (g:N2->T)(v:N2):∀(ns:List N2),kn (ns.map en) (ns.map g) (ky v)=if v∈ns then some (g v)else none
 | [] =>rfl
 | u::ns=>by
  rw[List.map_cons,List.map_cons,kn,a9]
  by_cases h:u=v
  ·subst h;rw[if_pos rfl,if_pos List.mem_cons_self]
  ·rw[if_neg (λz=>h (gF z)),jQ g v ns]
   have:(v∈u::ns)↔v∈ns:=by rw[List.mem_cons];exact⟨λz=>z.elim (λy=>absurd y.symm h) id,.inr⟩
   simp only[this]
theorem ik (x:T)(v:N2)(g:N2->T):∀(ns:List N2),v∉ns->fI (en v) x (ns.map en) (ns.map g)=(ns.map en++ [en v],ns.map g++ [x])
 | [],_=>rfl
 | u::ns,h=>by
  rw[List.mem_cons,not_or]at h;rw[List.map_cons,List.map_cons,fI,a9,a9,if_neg (λz=>h.1 (gF z).symm),ik x v g ns h.2]
  rfl
theorem pH (x:T)(v:N2)(g:N2->T):∀(ns:List N2),ns.Nodup->v∈ns->fI (en v) x (ns.map en) (ns.map g)=(ns.map en,ns.map λu=>if u=v then x else g u)
 | [],_,h=>by simp at h
 | u::ns,hn,h=>by
  rw[List.nodup_cons]at hn;rw[List.map_cons,List.map_cons,List.map_cons,fI,a9,a9]
  by_cases z:u=v
  ·subst z
   rw[if_pos rfl,if_pos rfl]
   congr 2
   exact List.map_congr_left λw hw=>by rw[if_neg (λ(y:w=u)=>hn.1 (y▸hw))]
  ·rw[if_neg (λy=>z (gF y)),if_neg z]
   have h':v∈ns:=(List.mem_cons.mp h).elim (λy=>absurd y.symm z) id
   rw[pH x v g ns hn.2 h']
theorem iB {α:Type}[DecidableEq α]:∀{l m:List α},l.Nodup->(∀x∈l,x∈m)->l.length<=m.length
 | [],_,_,_=>Nat.zero_le _
 | x::l,m,hn,h=>by
  rw[List.nodup_cons]at hn
  have hx:=h x List.mem_cons_self
  have:=iB (m:=m.erase x) hn.2 λy hy=>(List.mem_erase_of_ne (λ(z:y=x)=>hn.1 (z▸hy))).mpr (h y (List.mem_cons_of_mem _ hy))
  rw[List.length_erase_of_mem hx]at this
  have:0<m.length:=List.length_pos_of_mem hx;rw[List.length_cons];omega
def oW (o:Option (Int×List Nat)):T:=match o with
 | some x=>eW x
 | none=> .non
structure DR (P ns:List N2)(b:bX N2):Prop where
 nd:ns.Nodup
 mem:∀v,v∈ns↔(b v).isSome=true
 sub:∀v∈ns,v∈P
def dV (ns:List N2)(b:bX N2):List T:=ns.map λv=>oW (b v)
theorem DR.get {P ns:List N2}{b:bX N2}(D:DR P ns b)(v:N2):kn (ns.map en) (dV ns b) (ky v)=(b v).map eW:=by
 unfold dV;rw[jQ (λv=>oW (b v))]
 have:=D.mem v
 cases q:b v with
 | none=>rw[q]at this;rw[if_neg (λz=>by simpa using this.mp z)];rfl
 | some x=>rw[q]at this;rw[if_pos (this.mpr rfl)];rfl
theorem DR.put {P ns:List N2}{b:bX N2}(D:DR P ns b){v:N2}(hv:v∈P)(y:Int×List Nat):∃ns',DR P ns' (Gr.put b v y)/\fI (en v) (eW y) (ns.map en) (dV ns b)=(ns'.map en,dV ns' (Gr.put b v y)):=by
 by_cases h:v∈ns
 ·refine⟨ns,⟨D.nd,λu=> ?_,D.sub⟩,?_⟩
  ·by_cases z:u=v
   ·subst z;rw[dw];exact⟨λ_=>rfl,λ_=>h⟩
   ·rw[jb z];exact D.mem u
  ·unfold dV
   rw[pH _ _ _ _ D.nd h]
   congr 1
   refine List.map_congr_left λu _=> ?_
   by_cases z:u=v
   ·subst z;rw[if_pos rfl,dw];rfl
   ·rw[if_neg z,jb z]
 ·refine⟨ns++ [v],⟨?_,λu=> ?_,λu hu=> ?_⟩,?_⟩
  ·exact List.nodup_append.mpr ⟨D.nd,by simp,λx hx y hy=>by simp at hy;subst hy;exact λz=>h (z▸hx)⟩
  ·rw[List.mem_append,List.mem_singleton]
   by_cases z:u=v
   ·subst z;rw[dw];exact⟨λ_=>rfl,λ_=> .inr rfl⟩
   ·rw[jb z,<-D.mem u];exact⟨λw=>w.elim id λy=>absurd y z,.inl⟩
  ·rcases List.mem_append.mp hu with w | w
   ·exact D.sub u w
   ·rw[List.mem_singleton.mp w];exact hv
  ·unfold dV
   rw[ik _ _ _ _ h,List.map_append,List.map_append]
   congr 1
   congr 1
   ·refine List.map_congr_left λu hu=> ?_
    rw[jb (λ(z:u=v)=>h (z▸hu))]
   ·simp[dw,oW]
theorem yw {P ns:List N2}{b:bX N2}(D:DR P ns b)(x:N2×N2×Int)(d:Int)(w:List Nat) :
  db [.dct (ns.map en) (dV ns b),eB x,eW (d,w)] = .ok (.bl (dY b x.2.1 (d+x.2.2))):=by
 refine cq rfl ?_
 show fq [.va (.dct (ns.map en) (dV ns b)),.va (eB x),.va (eW (d,w)),.em] =_
 unfold fq
 have g:oD gP (vr 0) (o2 aP (vr 1) (cn (.int 1))) [.va (.dct (ns.map en) (dV ns b)),.va (eB x),.va (eW (d,w)),.em] = .ok (oW (b x.2.1)):=by
  refine Ez (ks:=ns.map en) (vs:=dV ns b) (u:=en x.2.1) rfl rfl ?_
  unfold gP;rw[a9];simp only[D.get];cases b x.2.1 <;> rfl
 rw[az (bS (t:=oW (b x.2.1)) (Z':=[.va (.dct (ns.map en) (dV ns b)),.va (eB x),.va (eW (d,w)),.va (oW (b x.2.1))]) g rfl)];refine df ?_
 unfold dY
 cases q:b x.2.1 with
 | none=>exact CS (aD (t:=.non) (u:=.non) rfl rfl rfl)
 | some y=>exact(CT (aD (t:=eW y) (u:=.non) rfl rfl rfl)).trans (aD (t:=.int (d+x.2.2)) (u:=.int y.1) rfl rfl rfl)
abbrev yP:En->Rs Fl:=(ar (ce (ln 2 (oD gP (vr 2) (o2 aP (vr 5) (cn (.int 0))))) (gN 6)) (ar (eE (jU (tb (o2 gG (vr 6) (cn .non))) (dk (CD 2 (tb (cl db (ad (vr 2) (ad (vr 5) (ad (vr 6) ag)))))))) A5 sN) (ar (ce (o2 aH (o2 aP (vr 6) (cn (.int 1))) (cV (ad (vr 4) ag))) (gN 7)) (ar (ce (dP (iS (vr 7)) [none,some 0] (gN 0) bT (o2 aP (o2 aP (vr 1) (vr 0)) (cn (.int 0)))) (gN 8)) (ar (eE (tb (o2 Du (o2 aP (vr 5) (cn (.int 1))) (vr 8))) (aM (ba (ad (cn .non) (ad (sl (vr 7) (pS (oL cm (vr 8) (o2 aP (vr 5) (cn (.int 1))))) pN) ag)))) sN) (ar (mT 2 (o2 aP (vr 5) (cn (.int 1))) (ba (ad (o2 aH (o2 aP (vr 6) (cn (.int 0))) (o2 aP (vr 5) (cn (.int 2)))) (ad (vr 7) ag)))) (ce (cn (.bl true)) (gN 3))))))))
abbrev Fd:T->En->Rs En:=gT 2 (cT (gN 4) (cT (gN 5) iO))
def eL (L:bx N2):T:=.lst (L.map eB)
def wz (L:bx N2)(t:T):T:=match t with
 | .int j=>match L[j.toNat]? with
  | some x=>en x.1
  | none=> .non
 | _=> .non
theorem tT {L:bx N2}:∀{ks:List Nat} {a b:N2},Ch L a ks b->(eN ks).map (wz L)=(ee L ks).map en
 | [],_,_,_=>rfl
 | k::r,a,b,h=>by
  rw[h.pas_cons];obtain⟨c,m,e,h⟩:=h
  show wz L (.int k)::(eN r).map (wz L)=en a::(ee L r).map en
  rw[tT h]
  congr 1
  unfold wz;simp only[Int.toNat_natCast,e]
theorem yG (v:N2):∀(l:List N2),io (en v) (l.map en)=decide (v∈l)
 | [] =>rfl
 | u::l=>by
  have ih:=yG v l;unfold io at ih ⊢;rw[List.map_cons,List.any_cons,ih,yD]
  by_cases h:u=v
  ·subst h;simp
  ·have h':¬ v=u:=λz=>h z.symm
   simp[h,h']
theorem rq (v:N2):∀(l:List N2) (n:Nat),v∈l->fH (en v) (l.map en) n=some (n+l.idxOf v)
 | [],n,h=>by simp at h
 | u::l,n,h=>by
  rw[List.map_cons,fH,yD,List.idxOf_cons]
  by_cases z:u=v
  ·subst z;simp
  ·have h':v∈l:=(List.mem_cons.mp h).elim (λy=>absurd y.symm z) id
   have zb:(u == v)=false:=by rw[beq_eq_false_iff_ne];exact z
   rw[zb,decide_eq_false z,if_neg Bool.false_ne_true,rq v l (n+1) h'];simp only[cond_false]
   congr 1
   omega
theorem Ba (v:N2):(en v).nd=true:=rfl
theorem ph {α:Type}(f:α->T)(h:∀a,(f a).nd=true):∀l:List α,nds (l.map f)=true
 | [] =>rfl
 | a::l=>by rw[List.map_cons,nds,h a,ph f h l];rfl
theorem yy (v:N2):(en v).dep<=60:=by show(T.tup [.int v.c,.int v.k]).dep<=60;simp[T.dep,deps]
theorem EF (v:N2)(l:List N2):Du (en v) (.lst (l.map en))= .ok (.bl (decide (v∈l))):=by
 show(if (_\/_)/\_/\(T.lst (l.map en)).nd=true then _ else _)=_
 rw[if_pos ⟨.inl (yy v),rfl,ph en Ba l⟩,yG]
theorem xY (v:N2)(l:List N2)(h:v∈l):cm (.lst (l.map en)) (en v)= .ok (.int ((l.idxOf v:Nat):Int)):=by
 unfold cm;simp only;rw[if_pos ⟨.inl (yy v),rfl,ph en Ba l⟩,rq v l 0 h,Nat.zero_add]
theorem De (p q:List Nat):eN (p++q)=eN p++eN q:=by unfold eN;rw[List.map_append]
theorem xp (D:Bool):∀ks:List Nat,nks D (eN ks)=true
 | [] =>rfl
 | k::r=>by show nks D (.int k::eN r)=true;unfold nks;rw[xp D r];rfl
theorem Ch.len {L:bx N2}{ks:List Nat}{a b:N2}(h:Ch L a ks b)(hn:(ee L ks).Nodup):ks.length<=L.length:=by
 have:=iB (h.nodup hn) (m:=List.range L.length) λk hk=>List.mem_range.mpr (h.lt k hk)
 rwa [List.length_range]at this
def Bh (L:bx N2)(P ns:List N2)(b:bX N2)(k:Nat)(x:N2×N2×Int)(st:T)(mv:Bool)(s6 s7 s8:Sl):Sum (Option (bX N2)) (List Nat)->Prop
 | .inl none=> ∃s6' s7' s8',yP [.va (eL L),.va st,.ow (.dct (ns.map en) (dV ns b)),.va (.bl mv),.va (.int k),.va (eB x),s6,s7,s8] = .ok (.ct [.va (eL L),.va st,.ow (.dct (ns.map en) (dV ns b)),.va (.bl mv),.va (.int k),.va (eB x),s6',s7',s8'])
 | .inl (some b')=> ∃ns' s6' s7' s8',DR P ns' b'/\yP [.va (eL L),.va st,.ow (.dct (ns.map en) (dV ns b)),.va (.bl mv),.va (.int k),.va (eB x),s6,s7,s8] = .ok (.nx [.va (eL L),.va st,.ow (.dct (ns'.map en) (dV ns' b')),.va (.bl true),.va (.int k),.va (eB x),s6',s7',s8'])
 | .inr q=>yP [.va (eL L),.va st,.ow (.dct (ns.map en) (dV ns b)),.va (.bl mv),.va (.int k),.va (eB x),s6,s7,s8] = .ok (.rt (.tup [.non,.lst (eN q)]))
theorem zp {L:bx N2}{S P ns:List N2}{b:bX N2}{k:Nat}{x:N2×N2×Int}(K:Kept L S b)(D:DR P ns b)(hL:L.length<=500)(hP:P.length<1000)(e:L[k]? =some x)(hx:x.2.1∈P)(st:T)(mv:Bool)(s6 s7 s8:Sl) :
  Bh L P ns b k x st mv s6 s7 s8 (gn L b k x):=by
 obtain⟨a,c,m⟩:=x;unfold Bh
 generalize hks:ns.map en=ks
 generalize hvs:dV ns b=vs
 have get:∀s7 s8,ln 2 (oD gP (vr 2) (o2 aP (vr 5) (cn (.int 0)))) [.va (eL L),.va st,.ow (.dct ks vs),.va (.bl mv),.va (.int k),.va (eB (a,c,m)),s6,s7,s8] = .ok (oW (b a)):=λs7 s8=>by
  refine CW (o:=.dct ks vs) rfl (Ez (ks:=ks) (vs:=vs) (u:=en a) rfl rfl ?_) ?_
  ·unfold gP
   rw[a9,<-hks,<-hvs];simp only[D.get];cases b a <;> rfl
  ·cases b a with
   | none=>rfl
   | some y=>show nks true [.int y.1,.lst (eN y.2)] =true;simp[nks,T.nk,xp]
 have s1:∀G,ar (ce (ln 2 (oD gP (vr 2) (o2 aP (vr 5) (cn (.int 0))))) (gN 6)) G [.va (eL L),.va st,.ow (.dct ks vs),.va (.bl mv),.va (.int k),.va (eB (a,c,m)),s6,s7,s8] =G [.va (eL L),.va st,.ow (.dct ks vs),.va (.bl mv),.va (.int k),.va (eB (a,c,m)),.va (oW (b a)),s7,s8]:=λG=>
  az (bS (t:=oW (b a)) (get s7 s8) rfl)
 cases qa:b a with
 | none=>
  rw[show gn L b k (a,c,m)= .inl none from by unfold gn;simp only[qa]]
  simp only;refine⟨.va .non,s7,s8,?_⟩
  unfold yP;rw[s1,qa]
  exact xL (gO (F:=A5) (Bd (cr (aD (t:=.non) (u:=.non) rfl rfl rfl))))
 | some y=>
  obtain⟨d,w⟩:=y
  have bt:∀s7 s8,CD 2 (tb (cl db (ad (vr 2) (ad (vr 5) (ad (vr 6) ag))))) [.va (eL L),.va st,.ow (.dct ks vs),.va (.bl mv),.va (.int k),.va (eB (a,c,m)),.va (eW (d,w)),s7,s8] = .ok (dY b c (d+m)):=λs7 s8=>by
   refine EA (cr (bh (ts:=[.dct ks vs,eB (a,c,m),eW (d,w)]) rfl ?_))
   rw[<-hks,<-hvs];exact yw D (a,c,m) d w
  have nn:tb (o2 gG (vr 6) (cn .non)) [.va (eL L),.va st,.ow (.dct ks vs),.va (.bl mv),.va (.int k),.va (eB (a,c,m)),.va (eW (d,w)),s7,s8] = .ok false:=cr (aD (t:=eW (d,w)) (u:=.non) rfl rfl rfl)
  have cond:=rj nn (nK (bt s7 s8))
  have s1':∀G,ar (ce (ln 2 (oD gP (vr 2) (o2 aP (vr 5) (cn (.int 0))))) (gN 6)) G [.va (eL L),.va st,.ow (.dct ks vs),.va (.bl mv),.va (.int k),.va (eB (a,c,m)),s6,s7,s8] =G [.va (eL L),.va st,.ow (.dct ks vs),.va (.bl mv),.va (.int k),.va (eB (a,c,m)),.va (eW (d,w)),s7,s8]:=λG=>by rw[s1 G,qa];rfl
  cases hb:dY b c (d+m)with
  | false=>
   rw[show gn L b k (a,c,m)= .inl none from by unfold gn;simp only[qa,hb];rfl]
   simp only;rw[hb]at cond;refine⟨.va (eW (d,w)),s7,s8,?_⟩
   unfold yP;rw[s1']
   exact xL (gO (F:=A5) cond)
  | true=>
   rw[hb]at cond;obtain⟨s,hs,h1,h2,h3,h4,h5⟩:=K.walk a d w qa
   have hch:Ch L s (w++ [k]) c:=h1.snoc e
   have hwl:w.length<=500:=Nat.le_trans (Ch.len h1 h4) hL
   have s2:∀G,ar (eE (jU (tb (o2 gG (vr 6) (cn .non))) (dk (CD 2 (tb (cl db (ad (vr 2) (ad (vr 5) (ad (vr 6) ag)))))))) A5 sN) G [.va (eL L),.va st,.ow (.dct ks vs),.va (.bl mv),.va (.int k),.va (eB (a,c,m)),.va (eW (d,w)),s7,s8] =G [.va (eL L),.va st,.ow (.dct ks vs),.va (.bl mv),.va (.int k),.va (eB (a,c,m)),.va (eW (d,w)),s7,s8]:=λG=>
    az (Z':=[.va (eL L),.va st,.ow (.dct ks vs),.va (.bl mv),.va (.int k),.va (eB (a,c,m)),.va (eW (d,w)),s7,s8]) ((fg (F:=A5) (G:=sN) cond).trans rfl)
   have wk:o2 aH (o2 aP (vr 6) (cn (.int 1))) (cV (ad (vr 4) ag)) [.va (eL L),.va st,.ow (.dct ks vs),.va (.bl mv),.va (.int k),.va (eB (a,c,m)),.va (eW (d,w)),s7,s8] = .ok (.lst (eN (w++ [k]))):=by
    refine aD (t:=.lst (eN w)) (u:=.lst (eN [k])) rfl (i7 (ts:=[.int k]) rfl (au (k:=1) (by simp))) ?_
    show i6 (eN w++eN [k])=_
    rw[<-De];unfold i6;rw[if_pos (au (k:=1000) (by unfold eN;rw[List.length_map,List.length_append];simp;omega))]
   have s3:∀G,ar (ce (o2 aH (o2 aP (vr 6) (cn (.int 1))) (cV (ad (vr 4) ag))) (gN 7)) G [.va (eL L),.va st,.ow (.dct ks vs),.va (.bl mv),.va (.int k),.va (eB (a,c,m)),.va (eW (d,w)),s7,s8] =G [.va (eL L),.va st,.ow (.dct ks vs),.va (.bl mv),.va (.int k),.va (eB (a,c,m)),.va (eW (d,w)),.va (.lst (eN (w++ [k]))),s8]:=λG=>az (bS wk rfl)
   have ps:dP (iS (vr 7)) [none,some 0] (gN 0) bT (o2 aP (o2 aP (vr 1) (vr 0)) (cn (.int 0))) [.va (eL L),.va st,.ow (.dct ks vs),.va (.bl mv),.va (.int k),.va (eB (a,c,m)),.va (eW (d,w)),.va (.lst (eN (w++ [k]))),s8] = .ok (.lst ((ee L (w++ [k])).map en)):=by
    rw[<-tT hch];refine rk (ts:=eN (w++ [k])) (ui rfl) (au (k:=1000) (by unfold eN;rw[List.length_map,List.length_append];simp;omega)) (by simp) λt ht=> ?_
    unfold eN at ht;obtain⟨j,hj,rfl⟩:=List.mem_map.mp ht
    have hjl:=hch.lt j hj;refine aD (t:=eB L[j]) (u:=.int 0) (xN (l:=L.map eB) (n:=j) rfl rfl (by rw[List.getElem?_map,List.getElem?_eq_getElem hjl];rfl)) rfl ?_
    unfold wz;simp only[Int.toNat_natCast,List.getElem?_eq_getElem hjl]
    rfl
   have s4:∀G,ar (ce (dP (iS (vr 7)) [none,some 0] (gN 0) bT (o2 aP (o2 aP (vr 1) (vr 0)) (cn (.int 0)))) (gN 8)) G [.va (eL L),.va st,.ow (.dct ks vs),.va (.bl mv),.va (.int k),.va (eB (a,c,m)),.va (eW (d,w)),.va (.lst (eN (w++ [k]))),s8] =G [.va (eL L),.va st,.ow (.dct ks vs),.va (.bl mv),.va (.int k),.va (eB (a,c,m)),.va (eW (d,w)),.va (.lst (eN (w++ [k]))),.va (.lst ((ee L (w++ [k])).map en))]:=λG=>az (bS ps rfl)
   have inn:tb (o2 Du (o2 aP (vr 5) (cn (.int 1))) (vr 8)) [.va (eL L),.va st,.ow (.dct ks vs),.va (.bl mv),.va (.int k),.va (eB (a,c,m)),.va (eW (d,w)),.va (.lst (eN (w++ [k]))),.va (.lst ((ee L (w++ [k])).map en))] = .ok (decide (c∈ee L (w++ [k]))):=
    cr (aD (t:=en c) (u:=.lst ((ee L (w++ [k])).map en)) rfl rfl (EF c _))
   by_cases hn:c∈ee L (w++ [k])
   ·rw[show gn L b k (a,c,m)= .inr ((w++ [k]).drop ((ee L (w++ [k])).idxOf c))from by unfold gn;simp only[qa,hb,if_pos hn,if_true]]
    simp only;unfold yP;rw[s1',s2,s3,s4];rw[decide_eq_true hn]at inn;refine kh ((gO inn).trans (df ?_))
    have sle:sl (vr 7) (pS (oL cm (vr 8) (o2 aP (vr 5) (cn (.int 1))))) pN [.va (eL L),.va st,.ow (.dct ks vs),.va (.bl mv),.va (.int k),.va (eB (a,c,m)),.va (eW (d,w)),.va (.lst (eN (w++ [k]))),.va (.lst ((ee L (w++ [k])).map en))] = .ok (.lst (eN ((w++ [k]).drop ((ee L (w++ [k])).idxOf c)))):=by
     rw[Eu (l:=eN (w++ [k])) (lo:=some (((ee L (w++ [k])).idxOf c:Nat):Int)) (hi:=none) rfl (CQ (CU (ks:=(ee L (w++ [k])).map en) (u:=en c) rfl rfl (xY c _ hn))) rfl,rN];unfold eN;rw[List.map_drop]
    exact(cC (ts:=[.non,.lst (eN ((w++ [k]).drop ((ee L (w++ [k])).idxOf c)))]) (aq rfl (aq sle rfl)) (au (k:=2) (by simp)))
   ·rw[show gn L b k (a,c,m)= .inl (some (Gr.put b c (d+m,w++ [k])))from by unfold gn;simp only[qa,hb,if_neg hn,if_true]]
    simp only;rw[decide_eq_false hn]at inn;obtain⟨ns',D',hd⟩:=D.put hx (d+m,w++ [k]);refine⟨ns',.va (eW (d,w)),.va (.lst (eN (w++ [k]))),.va (.lst ((ee L (w++ [k])).map en)),D',?_⟩
    unfold yP;rw[s1',s2,s3,s4];rw[az (Z':=[.va (eL L),.va st,.ow (.dct ks vs),.va (.bl mv),.va (.int k),.va (eB (a,c,m)),.va (eW (d,w)),.va (.lst (eN (w++ [k]))),.va (.lst ((ee L (w++ [k])).map en))]) ((fg (G:=sN) inn).trans rfl)]
    have pt:mT 2 (o2 aP (vr 5) (cn (.int 1))) (ba (ad (o2 aH (o2 aP (vr 6) (cn (.int 0))) (o2 aP (vr 5) (cn (.int 2)))) (ad (vr 7) ag))) [.va (eL L),.va st,.ow (.dct ks vs),.va (.bl mv),.va (.int k),.va (eB (a,c,m)),.va (eW (d,w)),.va (.lst (eN (w++ [k]))),.va (.lst ((ee L (w++ [k])).map en))]
      = .ok (.nx [.va (eL L),.va st,.ow (.dct (ns'.map en) (dV ns' (Gr.put b c (d+m,w++ [k])))),.va (.bl mv),.va (.int k),.va (eB (a,c,m)),.va (eW (d,w)),.va (.lst (eN (w++ [k]))),.va (.lst ((ee L (w++ [k])).map en))]):=by
     have ev:ba (ad (o2 aH (o2 aP (vr 6) (cn (.int 0))) (o2 aP (vr 5) (cn (.int 2)))) (ad (vr 7) ag)) [.va (eL L),.va st,.ow (.dct ks vs),.va (.bl mv),.va (.int k),.va (eB (a,c,m)),.va (eW (d,w)),.va (.lst (eN (w++ [k]))),.va (.lst ((ee L (w++ [k])).map en))] = .ok (eW (d+m,w++ [k])):=
      cC (ts:=[.int (d+m),.lst (eN (w++ [k]))]) rfl (au (k:=2) (by simp))
     have ek:o2 aP (vr 5) (cn (.int 1)) [.va (eL L),.va st,.ow (.dct ks vs),.va (.bl mv),.va (.int k),.va (eB (a,c,m)),.va (eW (d,w)),.va (.lst (eN (w++ [k]))),.va (.lst ((ee L (w++ [k])).map en))] = .ok (en c):=rfl
     show(ba _ _ >>= λv=>o2 aP (vr 5) (cn (.int 1)) _ >>= λkk=>match aQ kk with | some _=>if ks.length<1000 then Rs.ok (Fl.nx _)else .bad | none=> .bad)=_
     rw[ev,ax,ek,ax,a9]
     have hlen:ks.length<1000:=by rw[<-hks,List.length_map];exact Nat.lt_of_le_of_lt (iB D.nd D.sub) hP
     simp only[if_pos hlen]
     have hd1:fI (en c) (eW (d+m,w++ [k])) ks vs=(ns'.map en,dV ns' (Gr.put b c (d+m,w++ [k]))):=by rw[<-hks,<-hvs];exact hd
     rw[hd1]
     rfl
    rw[az pt];exact bS (t:=.bl true) rfl rfl
def vW (L:bx N2)(st:T)(ns:List N2)(b:bX N2)(mv:Bool)(s4 s5 s6 s7 s8:Sl):En:=[.va (eL L),.va st,.ow (.dct (ns.map en) (dV ns b)),.va (.bl mv),s4,s5,s6,s7,s8]
def yI (L:bx N2)(P:List N2)(st:T)(X:Rs Fl):Sum (bX N2×Bool) (List Nat)->Prop
 | .inr q=>X= .ok (.rt (.tup [.non,.lst (eN q)]))
 | .inl (b',mv')=> ∃ns' s4 s5 s6 s7 s8,DR P ns' b'/\X= .ok (.nx (vW L st ns' b' mv' s4 s5 s6 s7 s8))
theorem oq {L:bx N2}{S P:List N2}(hL:L.length<=500)(hP:P.length<1000)(hx:∀x∈L,x.2.1∈P)(st:T):∀(r:bx N2) (k:Nat) (b:bX N2) (mv:Bool) (ns:List N2) (s4 s5 s6 s7 s8:Sl),L.drop k=r->Kept L S b->DR P ns b →
  yI L P st (aW Fd yP (a7 k (r.map eB)) (vW L st ns b mv s4 s5 s6 s7 s8)) (gK L k r b mv)
 | [],k,b,mv,ns,s4,s5,s6,s7,s8,_,K,D=>⟨ns,s4,s5,s6,s7,s8,D,rfl⟩
 | x::r,k,b,mv,ns,s4,s5,s6,s7,s8,hr,K,D=>by
  have e:L[k]? =some x:=by
   have:=congrArg (·[0]?) hr
   simpa using this
  have hr':L.drop (k+1)=r:=by
   have:=congrArg (List.drop 1) hr
   simpa [List.drop_drop,Nat.add_comm]using this
  have tg:Fd (.tup [.int k,eB x]) (vW L st ns b mv s4 s5 s6 s7 s8)= .ok [.va (eL L),.va st,.ow (.dct (ns.map en) (dV ns b)),.va (.bl mv),.va (.int k),.va (eB x),s6,s7,s8]:=rfl
  have tn:=zp K D hL hP e (hx x (List.mem_of_getElem? e)) st mv s6 s7 s8;rw[gK,List.map_cons,a7]
  cases q:gn L b k x with
  | inr w=>
   rw[q]at tn;simp only;unfold yI
   exact ug tg tn
  | inl o=>
   rw[q]at tn
   cases o with
   | none=>
    obtain⟨s6',s7',s8',tn⟩:=tn;simp only;rw[Ao tg tn]
    exact oq hL hP hx st r (k+1) b mv ns _ _ _ _ _ hr' K D
   | some b'=>
    obtain⟨ns',s6',s7',s8',D',tn⟩:=tn;simp only;rw[cR tg tn];refine oq (S:=S) hL hP hx st r (k+1) b' true ns' _ _ _ _ _ hr' ?_ D'
    -- what is kept stays so
    obtain⟨a,c,m⟩:=x;unfold gn at q
    cases qa:b a with
    | none=>simp only[qa]at q;cases q
    | some y=>
     obtain⟨d,w⟩:=y;simp only[qa]at q
     split at q
     ·rename_i hb
      split at q
      ·cases q
      ·rename_i hn
       cases q;exact K.put e qa hb hn
     ·cases q
abbrev wF:En->Rs Fl:=ar (ce (cn (.bl false)) (gN 3)) (di (iE (ad (vr 0) ag)) Fd yP)
def SetP (L:bx N2)(P:List N2)(st:T)(X:Rs Fl):Sum (bX N2) (List Nat)->Prop
 | .inr q=>X= .ok (.rt (.tup [.non,.lst (eN q)]))
 | .inl b'=> ∃ns' s4 s5 s6 s7 s8,DR P ns' b'/\X= .ok (.nx (vW L st ns' b' false s4 s5 s6 s7 s8))
theorem qv {L:bx N2}{S P:List N2}(hL:L.length<=500)(hP:P.length<1000)(hx:∀x∈L,x.2.1∈P)(st:T):∀(n:Nat) (b:bX N2) (ns:List N2) (s4 s5 s6 s7 s8:Sl) (r:Sum (bX N2) (List Nat)),Kept L S b->DR P ns b->Gr.settle L n b=some r →
  SetP L P st (bz (tb (vr 3)) wF (n+1) (vW L st ns b true s4 s5 s6 s7 s8)) r
 | 0,_,_,_,_,_,_,_,_,_,_,h=>by cases h
 | n+1,b,ns,s4,s5,s6,s7,s8,r,K,D,h=>by
  have sw:=oq hL hP hx st L 0 b false ns s4 s5 s6 s7 s8 rfl K D
  have ok:=gV (S:=S) L 0 b false rfl K
  have body:∀X,aW Fd yP (a7 0 (L.map eB)) (vW L st ns b false s4 s5 s6 s7 s8)= .ok X->wF (vW L st ns b true s4 s5 s6 s7 s8)= .ok X:=λX hX=>by
   show ar _ _ _=_
   rw[az (Z':=vW L st ns b false s4 s5 s6 s7 s8) (bS (t:=.bl false) rfl rfl)];exact dM (ts:=a7 0 (L.map eB)) (uj rfl) hX
  have tt:tb (vr 3) (vW L st ns b true s4 s5 s6 s7 s8)= .ok true:=rfl;rw[Gr.settle]at h
  revert sw ok h
  generalize gK L 0 L b false=R
  intro h sw ok
  cases R with
  | inr q=>
   simp only at h;cases h
   exact xJ tt (body _ sw)
  | inl p=>
   obtain⟨b',mv'⟩:=p;obtain⟨ns',t4,t5,t6,t7,t8,D',sw⟩:=sw;obtain⟨K',_⟩:=ok
   cases mv' with
   | true=>
    simp only at h
    have ih:=qv hL hP hx st n b' ns' t4 t5 t6 t7 t8 r K' D' h;rw[ri tt (body _ sw)]
    exact ih
   | false=>
    simp only at h;cases h;refine⟨ns',t4,t5,t6,t7,t8,D',?_⟩
    rw[ri tt (body _ sw)];exact xK rfl
theorem gx {c:En->Rs Bool}{F:En->Rs Fl}{x:Fl}:∀{n m:Nat} {Z:En},n<=m->bz c F n Z= .ok x->bz c F m Z= .ok x
 | 0,_,_,_,h=>by cases h
 | n+1,0,_,hl,_=>absurd hl (by omega)
 | n+1,m+1,Z,hl,h=>by
  unfold bz at h ⊢
  cases q:c Z with
  | bad=>rw[q]at h;cases h
  | err _=>rw[q]at h;cases h
  | ok k=>
   rw[q]at h
   cases k with
   | false=>exact h
   | true=>
    simp only at h ⊢
    cases q2:F Z with
    | bad=>rw[q2]at h;cases h
    | err _=>rw[q2]at h;cases h
    | ok f=>
     rw[q2]at h
     cases f with
     | nx Z'=>exact gx (by omega) h
     | ct Z'=>exact gx (by omega) h
     | bk Z'=>exact h
     | rt t=>exact h
theorem wT (w:T):∀S:List N2,Ds (S.map λv=> .tup [en v,w])=some (S.map λv=>(en v,w))
 | [] =>rfl
 | v::S=>by rw[List.map_cons,Ds,a9,wT w S];rfl
theorem rH (w:T):∀(S ns:List N2) (g:N2->T),(ns++S).Nodup->(∀v∈S,g v=w)->f8 (S.map λv=>(en v,w)) (ns.map en,ns.map g)=((ns++S).map en,(ns++S).map g)
 | [],ns,g,_,_=>by rw[List.append_nil];rfl
 | v::S,ns,g,hn,hg=>by
  have hv:v∉ns:=λz=>by
   rw[List.nodup_append]at hn;exact hn.2.2 v z v List.mem_cons_self rfl
  rw[List.map_cons,f8,ik _ _ _ _ hv]
  have e1:ns.map en++ [en v] =(ns++ [v]).map en:=by rw[List.map_append];rfl
  have e2:ns.map g++ [w] =(ns++ [v]).map g:=by rw[List.map_append,<-hg v List.mem_cons_self];rfl
  rw[e1,e2,rH w S (ns++ [v]) g (by rw[List.append_assoc];exact hn) λu hu=>hg u (List.mem_cons_of_mem _ hu),List.append_assoc]
  rfl
theorem AF (w:T)(S:List N2)(hn:S.Nodup)(hl:S.length<=1000):uB [.lst (S.map λv=> .tup [en v,w])] = .ok (.dct (S.map en) (S.map λ_=>w)):=by
 unfold uB;simp only[wT];rw[if_pos (by rw[List.length_map];exact hl)]
 have:=rH w S [] (λ_=>w) (by simpa using hn) (λ_ _=>rfl)
 rw[List.nil_append]at this;rw[show(([]:List T),([]:List T))=(([]:List N2).map en,([]:List N2).map λ_=>w)from rfl,this]
def eS (S:List N2):T:=.lst (S.map en)
def AQ (L:bx N2)(P:List N2)(X:Rs T):Sum (bX N2) (List Nat)->Prop
 | .inr q=>X= .ok (.tup [.non,.lst (eN q)])
 | .inl b'=> ∃ns',DR P ns' b'/\X= .ok (.tup [.dct (ns'.map en) (dV ns' b'),.non])
structure EY (L:bx N2)(P:List N2):Prop where
 len:L.length<=500
 size:size L<=100000000
 ends:∀x∈L,x.1∈P/\x.2.1∈P
 pl:P.length<1000
def SOk (L:bx N2)(S:List N2):Sum (bX N2) (List Nat)->Prop
 | .inr q=>Bar L q
 | .inl b'=>Settled L S b'
theorem yn {L:bx N2}{S P:List N2}(F:EY L P)(hS:S.Nodup)(hSP:∀v∈S,v∈P):∃r,AQ L P (hU [eL L,eS S]) r/\SOk L S r:=by
 have bound:L.length*(2*size L+1)<1000000000000 - 1:=by
  have h1:=F.len
  have h2:=F.size
  have:L.length*(2*size L+1)<=500*(2*100000000+1):=Nat.mul_le_mul h1 (by omega)
  omega
 obtain⟨r,hr,ok⟩:=sf L S bound
 have ok':SOk L S r:=by cases r <;> exact ok
 refine⟨r,?_,ok'⟩
 have hSl:S.length<=1000:=Nat.le_trans (iB hS hSP) (by have:=F.pl;omega)
 have D0:DR P S (Gr.start S):=⟨hS,λv=>by unfold Gr.start;by_cases h:v∈S <;> simp[h],hSP⟩
 have dv0:dV S (Gr.start S)=S.map λ_=>eW (0,[]):=List.map_congr_left λv hv=>by unfold Gr.start;rw[if_pos hv];rfl
 have w:=qv F.len F.pl (λx hx=>(F.ends x hx).2) (eS S) _ (Gr.start S) S .em .em .em .em .em r (mh L S) D0 hr
 have lc:dP (iS (vr 1)) [none] (gN 0) bT (ba (ad (vr 0) (ad (ba (ad (cn (.int 0)) (ad (cV ag) ag))) ag))) [.va (eL L),.va (eS S),.em,.em,.em,.em,.em,.em,.em] = .ok (.lst (S.map λv=> .tup [en v,eW (0,[])])):=by
  have:=rk (fi:=iS (vr 1)) (src:=[none]) (fe:=ba (ad (vr 0) (ad (ba (ad (cn (.int 0)) (ad (cV ag) ag))) ag))) (h:=λt=> .tup [t,eW (0,[])]) (Z:=[.va (eL L),.va (eS S),.em,.em,.em,.em,.em,.em,.em]) (ts:=S.map en) (ui rfl) (au (k:=1000) (by rw[List.length_map];exact hSl)) (by simp) λt _=>
   cC (ts:=[t,eW (0,[])]) (aq rfl (aq (cC (ts:=[.int 0,.lst []]) (aq rfl (aq (i7 (ts:=[]) rfl (Nat.zero_le _)) rfl)) (au (k:=2) (by simp))) rfl)) (au (k:=2) (by simp))
  rw[this,List.map_map];rfl
 have n0:nu 2 (dP (iS (vr 1)) [none] (gN 0) bT (ba (ad (vr 0) (ad (ba (ad (cn (.int 0)) (ad (cV ag) ag))) ag)))) [.va (eL L),.va (eS S),.em,.em,.em,.em,.em,.em,.em] = .ok (.nx [.va (eL L),.va (eS S),.ow (.dct (S.map en) (dV S (Gr.start S))),.em,.em,.em,.em,.em,.em]):=by
  unfold nu;rw[lc,ax,AF _ S hS hSl,ax,dv0]
  rfl
 have main:∀G X,bz (tb (vr 3)) wF FU (vW L (eS S) S (Gr.start S) true .em .em .em .em .em)= .ok X->gc [.va (eL L),.va (eS S),.em,.em,.em,.em,.em,.em,.em] =G->(ar (bz (tb (vr 3)) wF FU) (kP 2 (aM (ba (ad (vr 2) (ad (cn .non) ag)))))) (vW L (eS S) S (Gr.start S) true .em .em .em .em .em)=G:=λG X _ h=>by
  rw[<-h];unfold gc;rw[az n0,az (Z':=vW L (eS S) S (Gr.start S) true .em .em .em .em .em) (bS (t:=.bl true) rfl rfl)]
 cases r with
 | inr q=>
  have w':=gx (m:=FU) (by unfold FU;omega) w
  refine cq rfl ?_
  show gc [.va (eL L),.va (eS S),.em,.em,.em,.em,.em,.em,.em] =_
  rw[<-main _ _ w' rfl]
  exact kh w'
 | inl b'=>
  obtain⟨ns',s4,s5,s6,s7,s8,D',w⟩:=w
  have w':=gx (m:=FU) (by unfold FU;omega) w
  refine⟨ns',D',cq rfl ?_⟩
  show gc [.va (eL L),.va (eS S),.em,.em,.em,.em,.em,.em,.em] =_
  rw[<-main _ _ w' rfl,az w'];exact xQ (df (cC (ts:=[.dct (ns'.map en) (dV ns' b'),.non]) rfl (au (k:=2) (by simp))))
theorem l5 {α:Type}{f:α->T}{p:α->Prop}:∀{l:List T},(∀t∈l,∃x,t=f x/\p x)->∃L:List α,l=L.map f/\∀x∈L,p x
 | [],_=>⟨[],rfl,λ_ h=>nomatch h⟩
 | t::l,h=>by
  obtain⟨x,e,hx⟩:=h t List.mem_cons_self;obtain⟨L,e2,h2⟩:=l5 (l:=l) λu hu=>h u (List.mem_cons_of_mem _ hu)
  exact⟨x::L,by rw[e,e2];rfl,λy hy=>(List.mem_cons.mp hy).elim (λz=>z▸hx) (h2 y)⟩
theorem sW {t:T}(h:bi t=true):∃(x y:Int) (r:List Int),t= .tup [.int x,.int y,.tup (r.map .int)]/\(0<=x/\x<=9)/\(0<=y/\y<=9)/\∀k,0<=r.getD k 0/\r.getD k 0<=99:=by
 obtain⟨x,y,r,rfl,h1,h2,h3,h4⟩:=eG h;refine⟨x,y,r,rfl,h1,h2,λk=> ?_⟩
 have h':(lO (.int x) (.int y)&&bZ (.tup (r.map .int)))=true:=h;rw[Bool.and_eq_true]at h'
 have hr:=h'.2;unfold bZ at hr;rw[Bool.and_eq_true]at hr
 have hr2:(((r.map T.int).all λu=>a8 u 0 99)&&(match jg (r.map .int)with | some m=>kQ m | none=>false))=true:=hr.2
 rw[Bool.and_eq_true]at hr2
 by_cases hk:k<r.length
 ·have:=List.all_eq_true.mp hr2.1 (.int r[k]) (List.mem_map.mpr ⟨_,List.getElem_mem hk,rfl⟩)
  obtain⟨i,e,a,b⟩:=cH this;cases e;simp[hk];exact⟨a,b⟩
 ·simp[hk]
theorem tW {cs:List T}{i:Nat}:∀{cs0:List T} {c k:Nat},i<=c->c<i+cs0.length->k<tK (cs0.getD (c - i) .non)->T.tup [.int c,.int k] ∈dN i cs0:=by
 intro cs0
 induction cs0 generalizing i with
 | nil=>intro c k h1 h2;simp at h2;omega
 | cons a r ih=>
  intro c k h1 h2 h3;rw[dN,List.mem_append]
  by_cases e:c=i
  ·subst e
   rw[Nat.sub_self]at h3
   have h3':k<tK a:=h3;exact .inl (List.mem_map.mpr ⟨.int k,Ai h3',rfl⟩)
  ·refine .inr (ih (by omega) (by rw[List.length_cons]at h2;omega) ?_)
   rw[show c - i=(c - (i+1))+1 by omega]at h3
   exact h3
theorem nT {cs:List T}{t:T}(h:aZ cs t=true):t∈dN 0 cs:=by
 obtain⟨c,k,rfl⟩:=dg h;unfold aZ at h;simp only[Bool.and_eq_true,decide_eq_true_eq]at h;obtain⟨⟨h1,h2⟩,h3,h4⟩:=h;obtain⟨c,rfl⟩:=Int.eq_ofNat_of_zero_le h1;obtain⟨k,rfl⟩:=Int.eq_ofNat_of_zero_le h3;rw[jZ]at h4;exact tW (cs:=cs) (Nat.zero_le _) (by omega) (by rw[Nat.sub_zero];omega)
theorem yj {cs:List T}{t:T}(h:t∈dN 0 cs):∃v:N2,t=en v/\True:=by
 obtain⟨c,k,rfl,_⟩:=la cs 0 h;exact⟨⟨c,k⟩,rfl,trivial⟩
def big (x:N2×N2×Int):Prop:=x.2.2.natAbs<=999
theorem nE {a b:Int}(ha : -99<=a/\a<=99)(hb:0<=b/\b<=9):(a*b).natAbs<=999:=by
 rw[Int.natAbs_mul]
 have h1:a.natAbs<=99:=by omega
 have h2:b.natAbs<=9:=by omega
 exact Nat.le_trans (Nat.mul_le_mul h1 h2) (by decide)
theorem Bg {cs0:List T}:∀{cs:List T} {i:Nat},(∀c∈cs,bi c=true)->(∀c k:Nat,i<=c->c<i+cs.length->k<tK (cs.getD (c - i) .non)->T.tup [.int c,.int k] ∈dN 0 cs0) →
  ∀t∈bC i cs,∃x,t=eB x/\(en x.1∈dN 0 cs0/\en x.2.1∈dN 0 cs0/\big x)
 | [],_,_,_,t,h=>by simp[bC]at h
 | c::cs,i,hc,hm,t,h=>by
  rw[bC,List.mem_append]at h;rcases h with h | h
  ·obtain⟨x,y,r,rfl,hx,hy,hr⟩:=sW (hc c List.mem_cons_self)
   have hm0:∀k,k<r.length->T.tup [.int i,.int k] ∈dN 0 cs0:=λk hk=>hm i k (Nat.le_refl _) (by simp) (by rw[Nat.sub_self];show k<(r.map T.int).length;rw[List.length_map];exact hk)
   rw[kB]at h;unfold cB at h;obtain⟨k,hk,hp⟩:=List.mem_flatMap.mp h
   have hk:=List.mem_range.mp hk
   have d : -99<=dr r k/\dr r k<=99:=by have:=hr k;have:=hr (k+1);unfold dr;omega
   unfold pr at hp;simp only[List.mem_cons,List.not_mem_nil,or_false]at hp;rcases hp with rfl | rfl
   ·exact⟨(⟨i,k⟩,⟨i,((k+1:Nat):Int)⟩,dr r k*y),rfl,hm0 k (by omega),hm0 (k+1) (by omega),nE d hy⟩
   ·exact⟨(⟨i,((k+1:Nat):Int)⟩,⟨i,k⟩,-dr r k*x),rfl,hm0 (k+1) (by omega),hm0 k (by omega),nE (by omega) hx⟩
  ·exact Bg (cs:=cs) (i:=i+1) (λc h=>hc c (List.mem_cons_of_mem _ h)) (λc k h1 h2 h3=>hm c k (by omega) (by rw[List.length_cons];omega) (by rw[show c - i=(c - (i+1))+1 by omega];exact h3)) t h
theorem Et {cs:List T}{u:T}(hu:br cs u=true):∀t∈lB u,∃x,t=eB x/\(en x.1∈dN 0 cs/\en x.2.1∈dN 0 cs/\big x):=by
 intro t ht;obtain⟨a,b,x,y,rfl,hd,ha,hb,_⟩:=gE hu
 have ma:=nT ha
 have mb:=nT hb;obtain⟨va,rfl,_⟩:=yj ma;obtain⟨vb,rfl,_⟩:=yj mb;unfold eU at hd;rw[Bool.and_eq_true]at hd;obtain⟨i,rfl,i1,i2⟩:=cH hd.1
 have e2:lB (.tup [en va,en vb,.int i,y])= .tup [en vb,en va,.int (-i)] ::(if y.isN then []else [.tup [en va,en vb,y]]):=rfl
 rw[e2]at ht;rcases List.mem_cons.mp ht with rfl | ht
 ·exact⟨(vb,va,-i),rfl,mb,ma,by unfold big;simp only;omega⟩
 ·cases q:y.isN with
  | true=>rw[q]at ht;simp at ht
  | false=>
   rw[q]at ht
   have ht:t= .tup [en va,en vb,y]:=by simpa using ht
   have hw:a8 y i 999=true:=by
    cases y with
    | non=>cases q
    | _=>exact hd.2
   obtain⟨j,rfl,j1,j2⟩:=cH hw;exact⟨(va,vb,j),ht,ma,mb,by unfold big;simp only;omega⟩
structure Rd (cs ls:List T)(L:bx N2)(P:List N2):Prop where
 g:Good cs ls
 b:yR cs ls=L.map eB
 e:dN 0 cs=P.map en
 f:EY L P
 nd:P.Nodup
 pl:P.length<=16
 ll:L.length<=60
 bg:∀x∈L,big x
theorem zo {L:bx N2}(h:∀x∈L,big x):size L<=999*L.length:=by
 unfold size
 induction L with
 | nil=>simp
 | cons x L ih=>
  rw[List.map_cons,List.sum_cons,List.length_cons]
  have:=ih λy hy=>h y (List.mem_cons_of_mem _ hy)
  have:=h x List.mem_cons_self;unfold big at this;omega
theorem xn {P:List N2}(h:(P.map en).Nodup):P.Nodup:=by
 induction P with
 | nil=>exact List.nodup_nil
 | cons a r ih=>
  rw[List.map_cons,List.nodup_cons]at h;exact List.nodup_cons.mpr ⟨λz=>h.1 (List.mem_map.mpr ⟨a,z,rfl⟩),ih h.2⟩
theorem tJ {cs ls:List T}(g:Good cs ls):∃L P,Rd cs ls L P:=by
 obtain⟨hc,c1,c4⟩:=bU g.c;obtain⟨P,eP,_⟩:=l5 (f:=en) (p:=λ_=>True) (l:=dN 0 cs) λt ht=>yj ht
 have key:∀t∈yR cs ls,∃x,t=eB x/\(en x.1∈dN 0 cs/\en x.2.1∈dN 0 cs/\big x):=λt ht=>by
  unfold yR at ht;rw[List.mem_append]at ht;rcases ht with h | h
  ·exact Bg hc (λc k h1 h2 h3=>tW (cs:=cs) h1 h2 h3) t h
  ·obtain⟨u,hu,h⟩:=List.mem_flatMap.mp h
   exact Et (g.l u hu) t h
 obtain⟨L,eL,hL⟩:=l5 key
 have mem:∀v:N2,en v∈dN 0 cs->v∈P:=λv hv=>by
  rw[eP]at hv;obtain⟨u,hu,e⟩:=List.mem_map.mp hv;rw[<-sP e];exact hu
 have hl:=AL g;rw[eL,List.length_map]at hl
 have hp:=pF cs 0 hc;rw[eP,List.length_map]at hp
 have hs:=zo λx hx=>(hL x hx).2.2
 exact⟨L,P,g,eL,eP,⟨by omega,by omega,λx hx=>⟨mem _ (hL x hx).1,mem _ (hL x hx).2.1⟩,by omega⟩,xn (eP▸j7 cs 0),by omega,hl,λx hx=>(hL x hx).2.2⟩
def run (L:bx N2):N2->List Nat->Option N2
 | a,[] =>some a
 | a,k::r=>match L[k]? with
  | some x=>if x.1=a then run L x.2.1 r else none
  | none=>none
section
variable {cs ls:List T}{L:bx N2}{P:List N2}
theorem Rd.ev (R:Rd cs ls L P){v:N2}(h:v∈P):aZ cs (en v)=true:=yi (by rw[R.e];exact List.mem_map.mpr ⟨v,h,rfl⟩)
theorem Rd.bounds (R:Rd cs ls L P):fV [.tup [.tup cs,.tup ls]] = .ok (eL L):=by rw[yv R.g,R.b];rfl
end
section
variable {cs ls:List T}{L:bx N2}{P:List N2}
theorem Rd.events (R:Rd cs ls L P):de [.tup [.tup cs,.tup ls]] = .ok (eS P):=by rw[xb R.g,R.e];rfl
theorem Dh {ns:List N2}{b:bX N2}(D:DR P ns b){v:N2}{x:Int×List Nat}(e:b v=some x):aL (.dct (ns.map en) (dV ns b)) (en v)= .ok (eW x):=by
 unfold aL;simp only[a9];rw[D.get,e];rfl
def bj (P:List N2)(t:N2->Int):T:=.tup (P.map λv=> .int (t v))
def Fa (b:bX N2)(v:N2):Int:=match b v with
 | some x=>x.1
 | none=>0
def atT (t:N2->Int)(u:T):T:=match u with
 | .tup [.int c,.int k] => .int (t ⟨c,k⟩)
 | _=> .non
theorem Rd.world (R:Rd cs ls L P):(¬gq L/\fE [(.tup [.tup cs,.tup ls])] = .ok .non)\/(gq L/\∃t b,Settled L P b/\(∀v∈P,∃w,b v=some (t v,w))/\fE [(.tup [.tup cs,.tup ls])] = .ok (bj P t)):=by
 obtain⟨r,hr,ok⟩:=yn R.f R.nd (λv h=>h)
 have wrap:∀{w:T},dm [(.tup [.tup cs,.tup ls]),eL L] = .ok w->fE [(.tup [.tup cs,.tup ls])] = .ok w:=λ{w} e=>cq rfl (df (bh (ts:=[(.tup [.tup cs,.tup ls]),eL L]) (aq rfl (aq (bh (ts:=[(.tup [.tup cs,.tup ls])]) rfl R.bounds) rfl)) e))
 have begin_:∀{x z:T} {y:Rs Fl},hU [eL L,eS P] = .ok (.tup [x,z])->((ar (eE (tb (o2 gG (vr 3) (cn .non))) (aM (cn .non)) sN) (aM (cl eC (ad (dP (iS (vr 2)) [none,some 3] (gN 0) bT (o2 aP (o2 aL (vr 1) (vr 0)) (cn (.int 0)))) ag)))) [.va (.tup [.tup cs,.tup ls]),.va (eL L),.va (eS P),.va x] =y)->cD [.va (.tup [.tup cs,.tup ls]),.va (eL L),.em,.em] =y:=λ{x z y} hs hy=>by
  unfold cD;rw[az (Z':=[.va (.tup [.tup cs,.tup ls]),.va (eL L),.va (eS P),.em]) (bS (bh (ts:=[(.tup [.tup cs,.tup ls])]) rfl R.events) rfl)];rw[az (Z':=[.va (.tup [.tup cs,.tup ls]),.va (eL L),.va (eS P),.va x]) (bS (aD (u:=.int 0) (bh (ts:=[eL L,eS P]) rfl hs) rfl rfl) rfl)];exact hy
 cases r with
 | inr q=>exact .inl ⟨λn=>absurd n (Bar.neg ok),wrap (cq rfl (begin_ hr (kh ((gO (cr (aD (t:=.non) (u:=.non) rfl rfl rfl))).trans rfl))))⟩
 | inl b=>
  obtain⟨ns,D,hr⟩:=hr
  have ok:Settled L P b:=ok
  have htm:∀v∈P,∃w,b v=some (Fa b v,w):=λv hv=>by
   obtain⟨d,w,e,_⟩:=ok.least v hv v 0 (.nil v);exact⟨w,by unfold Fa;rw[e]⟩
  refine .inr ⟨(ok.holds R.f.ends htm).noNeg,Fa b,b,ok,htm,wrap (cq rfl (begin_ hr ?_))⟩
  generalize Fa b=tm at htm
  have lc:dP (iS (vr 2)) [none,some 3] (gN 0) bT (o2 aP (o2 aL (vr 1) (vr 0)) (cn (.int 0))) [.va (.tup [.tup cs,.tup ls]),.va (eL L),.va (eS P),.va (.dct (ns.map en) (dV ns b))] = .ok (.lst ((P.map en).map (atT tm))):=
   rk (ts:=P.map en) (ui rfl) (au (k:=16) (by rw[List.length_map];exact R.pl)) (by simp) λt ht=>by
    obtain⟨v,hv,rfl⟩:=List.mem_map.mp ht;obtain⟨w,e⟩:=htm v hv;exact aD (t:=eW (tm v,w)) (u:=.int 0) (aD (t:=.dct (ns.map en) (dV ns b)) (u:=en v) rfl rfl (Dh D e)) rfl rfl
  rw[List.map_map]at lc;rw[az (Z':=[.va (.tup [.tup cs,.tup ls]),.va (eL L),.va (eS P),.va (.dct (ns.map en) (dV ns b))]) ((fg (cr (aD (t:=.dct (ns.map en) (dV ns b)) (u:=.non) rfl rfl rfl))).trans rfl)];exact df (bh (aq lc rfl) rfl)
theorem Rd.hasw (R:Rd cs ls L P):∃hw:Bool,gf [(.tup [.tup cs,.tup ls])] = .ok (.bl hw)/\(hw=true↔gq L):=by
 rcases R.world with⟨n,e⟩ | ⟨n,t,b,_,_,e⟩
 ·exact⟨false,cq rfl (df (aD (t:=.non) (u:=.non) (bh (ts:=[(.tup [.tup cs,.tup ls])]) rfl e) rfl rfl)),λz=>(by cases z),λz=>absurd z n⟩
 ·exact⟨true,cq rfl (df (aD (t:=bj P t) (u:=.non) (bh (ts:=[(.tup [.tup cs,.tup ls])]) rfl e) rfl rfl)),λ_=>n,λ_=>rfl⟩
end
def oI (o:Option Int):T:=match o with
 | some x=> .int x
 | none=> .non
def fD (P:List N2)(f:dZ N2):List (List T×List T):=P.map λu=>(P.map en,P.map λv=>oI (f u v))
def cx (P:List N2)(f:dZ N2):T:=.dct (P.map en) (P.map λu=> .dct (P.map en) (P.map λv=>oI (f u v)))
abbrev gz (P:List N2)(L:bx N2)(f:dZ N2)(s3 s4 s5 s6 s7:Sl):En:=[.va (eS P),.va (eL L),.ow (.dd (P.map en) (fD P f)),s3,s4,s5,s6,s7]
abbrev Bx (P:List N2)(L:bx N2)(f:dZ N2)(s3 s4 s5 s6 s7:Sl):En:=[.va (eS P),.va (eL L),.va (cx P f),s3,s4,s5,s6,s7]
section
variable {P:List N2}{L:bx N2}{f:dZ N2}
theorem sR (s3 s4 s5 s6 s7:Sl):disown 2 (gz P L f s3 s4 s5 s6 s7)=Bx P L f s3 s4 s5 s6 s7:=by
 show [Sl.va (eS P),.va (eL L),.va (OT.view (.dd (P.map en) (fD P f))),s3,s4,s5,s6,s7] =_
 have e:OT.view (.dd (P.map en) (fD P f))=cx P f:=by
  show T.dct (P.map en) ((fD P f).map λr=>T.dct r.1 r.2)=_
  unfold fD cx;rw[List.map_map]
  rfl
 rw[e]
theorem om {u v:N2}{a b c:En->Rs T}{Z:En}(hc:c Z= .ok (cx P f))(ha:a Z= .ok (en u))(hb:b Z= .ok (en v))(hu:u∈P)(hv:v∈P):o2 aL (o2 aL c a) b Z= .ok (oI (f u v)):=by
 refine aD (t:=.dct (P.map en) (P.map λw=>oI (f u w))) (u:=en v) (aD (t:=cx P f) (u:=en u) hc ha ?_) hb ?_
 ·show(match kn (P.map en) (P.map λu=>T.dct (P.map en) (P.map λv=>oI (f u v))) (ky u)with | some t=>Rs.ok t | none=> .bad)=_
  rw[jQ (λu=>T.dct (P.map en) (P.map λv=>oI (f u v))),if_pos hu]
 ·show(match kn (P.map en) (P.map λw=>oI (f u w)) (ky v)with | some t=>Rs.ok t | none=> .bad)=_
  rw[jQ (λw=>oI (f u w)),if_pos hv]
theorem xz {u v:N2}{a b:En->Rs T}{s3 s4 s5 s6 s7:Sl}(ha:a (Bx P L f s3 s4 s5 s6 s7)= .ok (en u))(hb:b (Bx P L f s3 s4 s5 s6 s7)= .ok (en v))(hu:u∈P)(hv:v∈P):ln 2 (o2 aL (o2 aL (vr 2) a) b) (gz P L f s3 s4 s5 s6 s7)= .ok (oI (f u v)):=
 CW (o:=.dd (P.map en) (fD P f)) rfl (by rw[sR];exact om rfl ha hb hu hv) (by cases f u v <;> rfl)
theorem wI (g:N2->List T×List T)(u:N2):∀(Q:List N2),u∈Q->mV (Q.map en) (Q.map g) (ky u)=some (g u)
 | w::Q,h=>by
  rw[List.map_cons,List.map_cons,mV,a9]
  by_cases e:w=u
  ·subst e;rw[if_pos rfl]
  ·rw[if_neg (λz=>e (gF z)),wI g u Q ((List.mem_cons.mp h).elim (λz=>absurd z.symm e) id)]
theorem wG (g:N2->List T×List T)(u:N2)(x:List T×List T):∀(Q:List N2),Q.Nodup->mU (ky u) x (Q.map en) (Q.map g)=Q.map λw=>if w=u then x else g w
 | [],_=>rfl
 | w::Q,h=>by
  rw[List.nodup_cons]at h;rw[List.map_cons,List.map_cons,mU,a9,List.map_cons]
  by_cases e:w=u
  ·subst e
   rw[if_pos rfl,if_pos rfl]
   congr 1
   exact List.map_congr_left λz hz=>by rw[if_neg (λ(y:z=w)=>h.1 (y▸hz))]
  ·rw[if_neg (λz=>e (gF z)),if_neg e,wG g u x Q h.2]
theorem wQ (nd:P.Nodup)(pl:P.length<1000){u v:N2}{x:Int}{a b c:En->Rs T}{s3 s4 s5 s6 s7:Sl}(ha:a (gz P L f s3 s4 s5 s6 s7)= .ok (en u))(hb:b (gz P L f s3 s4 s5 s6 s7)= .ok (en v))(hc:c (gz P L f s3 s4 s5 s6 s7)= .ok (.int x))(hu:u∈P)(hv:v∈P) :
  gL 2 a b c (gz P L f s3 s4 s5 s6 s7)= .ok (.nx (gz P L (ig f u v x) s3 s4 s5 s6 s7)):=by
 unfold gL
 show(c (gz P L f s3 s4 s5 s6 s7) >>= λw=>a (gz P L f s3 s4 s5 s6 s7) >>= λz=>match(aQ z).bind λka=>(mV (P.map en) (fD P f) ka).map λr=>(ka,r)with
  | some (ka,r)=>b (gz P L f s3 s4 s5 s6 s7) >>= λy=>if (aQ y).isSome=true/\r.1.length<1000 then Rs.ok (Fl.nx ((gz P L f s3 s4 s5 s6 s7).set 2 (.ow (.dd (P.map en) (mU ka (fI y w r.1 r.2) (P.map en) (fD P f))))))else .bad
  | none=> .bad)=_
 rw[hc,ax,ha,ax,a9]
 have e1:mV (P.map en) (fD P f) (ky u)=some (P.map en,P.map λv=>oI (f u v)):=wI (λu=>(P.map en,P.map λv=>oI (f u v))) u P hu
 simp only[Option.bind_some,e1,Option.map_some];rw[hb,ax,a9,if_pos ⟨rfl,by rw[List.length_map];exact pl⟩,pH (.int x) v (λv=>oI (f u v)) P nd hv]
 have e2:=wG (λu=>(P.map en,P.map λv=>oI (f u v))) u (P.map en,P.map λw=>if w=v then T.int x else oI (f u w)) P nd
 have e3:(P.map λw=>if w=u then(P.map en,P.map λw=>if w=v then T.int x else oI (f u w))else(P.map en,P.map λv=>oI (f w v)))=fD P (ig f u v x):=by
  unfold fD ig;refine List.map_congr_left λw _=> ?_
  by_cases e:w=u
  ·subst e
   rw[if_pos rfl]
   congr 1
   refine List.map_congr_left λz _=> ?_
   by_cases h:z=v
   ·rw[if_pos h,if_pos ⟨rfl,h⟩];rfl
   ·rw[if_neg h,if_neg (λq=>h q.2)]
  ·rw[if_neg e]
   congr 1
   exact List.map_congr_left λz _=>by rw[if_neg (λq=>e q.1)]
 show Rs.ok (Fl.nx [.va (eS P),.va (eL L),.ow (.dd (P.map en) (mU (ky u) (P.map en,P.map λw=>if w=v then T.int x else oI (f u w)) (P.map en) (fD P f))),s3,s4,s5,s6,s7])=_
 rw[show mU (ky u) (P.map en,P.map λw=>if w=v then T.int x else oI (f u w)) (P.map en) (fD P f)=fD P (ig f u v x)from e2.trans e3]
theorem xZ (nd:P.Nodup)(pl:P.length<1000){u v:N2}{x:Int}{a b c:En->Rs T}{s3 s4 s5 s6 s7:Sl}(ha:a (gz P L f s3 s4 s5 s6 s7)= .ok (en u))(hb:b (gz P L f s3 s4 s5 s6 s7)= .ok (en v))(ha':a (Bx P L f s3 s4 s5 s6 s7)= .ok (en u))(hb':b (Bx P L f s3 s4 s5 s6 s7)= .ok (en v))(hc:c (gz P L f s3 s4 s5 s6 s7)= .ok (.int x))(hu:u∈P)(hv:v∈P) :
  eE (jU (tb (o2 gG (ln 2 (o2 aL (o2 aL (vr 2) a) b)) (cn .non))) (tb (o2 rS c (ln 2 (o2 aL (o2 aL (vr 2) a) b))))) (gL 2 a b c) sN (gz P L f s3 s4 s5 s6 s7)= .ok (.nx (gz P L (kW f u v x) s3 s4 s5 s6 s7)):=by
 have g:=xz (P:=P) (L:=L) (f:=f) ha' hb' hu hv
 have p:=wQ (P:=P) (L:=L) (f:=f) nd pl ha hb hc hu hv;unfold kW
 cases q:f u v with
 | none=>
  rw[q]at g
  exact(gO (Bd (cr (aD (t:=.non) (u:=.non) g rfl rfl)))).trans p
 | some y=>
  rw[q]at g
  have c2:tb (o2 rS c (ln 2 (o2 aL (o2 aL (vr 2) a) b))) (gz P L f s3 s4 s5 s6 s7)= .ok (decide (x<y)):=cr (aD (t:=.int x) (u:=.int y) hc g rfl)
  by_cases h:x<y
  ·rw[decide_eq_true h]at c2
   simp only[if_pos h];exact(gO (rj (cr (aD (t:=.int y) (u:=.non) g rfl rfl)) c2)).trans p
  ·rw[decide_eq_false h]at c2
   simp only[if_neg h];exact(fg (rj (cr (aD (t:=.int y) (u:=.non) g rfl rfl)) c2)).trans rfl
end
section
variable {P:List N2}{L:bx N2}
theorem l8:∀(P:List N2),gp (P.map en)=true
 | [] =>rfl
 | u::P=>by
  have:=l8 P;simp[gp,a9,this]
theorem CL (nd:P.Nodup):((P.map en).map aQ).Nodup:=by
 rw[List.map_map];exact nd.map _ λa b h e=>h (gF e)
theorem Bv (nd:P.Nodup)(pl:P.length<=1000):lL 2 0 [.va (eS P),.va (eL L),.em,.em,.em,.em,.em,.em] = .ok (.nx (gz P L (λ_ _=>none) .em .em .em .em .em)):=by
 show(if (2:Nat)<8/\gp (P.map en)=true/\((P.map en).map aQ).Nodup/\(P.map en).length<=1000 then Rs.ok (Fl.nx [.va (eS P),.va (eL L),.ow (.dd (P.map en) ((P.map en).map λ_=>(P.map en,(P.map en).map λ_=>T.non))),.em,.em,.em,.em,.em])else .bad)=_
 rw[if_pos ⟨by omega,l8 P,CL nd,by rw[List.length_map];exact pl⟩,List.map_map,List.map_map]
 rfl
theorem A3 (nd:P.Nodup)(pl:P.length<1000):∀(Q:List N2) (f:dZ N2) (s3 s4 s5 s6 s7:Sl),(∀u∈Q,u∈P)->∃s3',
  aW (gN 3) (gL 2 (vr 3) (vr 3) (cn (.int 0))) (Q.map en) (gz P L f s3 s4 s5 s6 s7)= .ok (.nx (gz P L (Q.foldl (λf u=>ig f u u 0) f) s3' s4 s5 s6 s7))
 | [],f,s3,s4,s5,s6,s7,_=>⟨s3,rfl⟩
 | u::Q,f,s3,s4,s5,s6,s7,h=>by
  have hu:=h u List.mem_cons_self;rw[List.map_cons,cR (Z1:=gz P L f (.va (en u)) s4 s5 s6 s7) rfl (wQ nd pl (u:=u) (v:=u) (x:=0) rfl rfl rfl hu hu)];exact A3 nd pl Q _ _ _ _ _ _ λw hw=>h w (List.mem_cons_of_mem _ hw)
theorem nR:∀(Q:List N2) (f:dZ N2) (u v:N2),Q.foldl (λf u=>ig f u u 0) f u v=if u∈Q/\u=v then some 0 else f u v
 | [],f,u,v=>by rw[if_neg (λh=>nomatch h.1)];rfl
 | w::Q,f,u,v=>by
  rw[List.foldl_cons,nR Q]
  by_cases e:u=v
  ·subst e
   by_cases m:u∈Q
   ·rw[if_pos ⟨m,rfl⟩,if_pos ⟨List.mem_cons_of_mem _ m,rfl⟩]
   ·rw[if_neg (λz=>m z.1)]
    unfold ig
    by_cases q:u=w
    ·subst q;rw[if_pos ⟨rfl,rfl⟩,if_pos ⟨List.mem_cons_self,rfl⟩]
    ·rw[if_neg (λz=>q z.1),if_neg (λz=>(List.mem_cons.mp z.1).elim q m)]
  ·rw[if_neg (λz=>e z.2),if_neg (λz=>e z.2)]
   unfold ig;rw[if_neg (λz=>e (z.1.trans z.2.symm))]
theorem vD (P:List N2):P.foldl (λf u=>ig f u u 0) (λ_ _=>none)=qf P:=by
 funext u v
 rw[nR]
 rfl
theorem A2 (nd:P.Nodup)(pl:P.length<1000):∀(M:bx N2) (f:dZ N2) (s3 s4 s5 s6 s7:Sl),(∀x∈M,x.1∈P/\x.2.1∈P)->∃s3' s4' s5',
  aW (gT 3 (cT (gN 3) (cT (gN 4) (cT (gN 5) iO)))) (eE (jU (tb (o2 gG (ln 2 (o2 aL (o2 aL (vr 2) (vr 3)) (vr 4))) (cn .non))) (tb (o2 rS (vr 5) (ln 2 (o2 aL (o2 aL (vr 2) (vr 3)) (vr 4)))))) (gL 2 (vr 3) (vr 4) (vr 5)) sN) (M.map eB) (gz P L f s3 s4 s5 s6 s7)= .ok (.nx (gz P L (M.foldl (λf x=>kW f x.1 x.2.1 x.2.2) f) s3' s4' s5' s6 s7))
 | [],f,s3,s4,s5,s6,s7,_=>⟨s3,s4,s5,rfl⟩
 | x::M,f,s3,s4,s5,s6,s7,h=>by
  have hx:=h x List.mem_cons_self;rw[List.map_cons,cR (Z1:=gz P L f (.va (en x.1)) (.va (en x.2.1)) (.va (.int x.2.2)) s6 s7) rfl (xZ nd pl (u:=x.1) (v:=x.2.1) (x:=x.2.2) rfl rfl rfl rfl rfl hx.1 hx.2)];exact A2 nd pl M _ _ _ _ _ _ λw hw=>h w (List.mem_cons_of_mem _ hw)
abbrev Dx:En->Rs Fl:=(eE (k4 (tb (o2 du (ln 2 (o2 aL (o2 aL (vr 2) (vr 3)) (vr 6))) (cn .non))) (tb (o2 du (ln 2 (o2 aL (o2 aL (vr 2) (vr 6)) (vr 4))) (cn .non)))) (ar (ce (o2 aH (ln 2 (o2 aL (o2 aL (vr 2) (vr 3)) (vr 6))) (ln 2 (o2 aL (o2 aL (vr 2) (vr 6)) (vr 4)))) (gN 7)) (eE (jU (tb (o2 gG (ln 2 (o2 aL (o2 aL (vr 2) (vr 3)) (vr 4))) (cn .non))) (tb (o2 rS (vr 7) (ln 2 (o2 aL (o2 aL (vr 2) (vr 3)) (vr 4)))))) (gL 2 (vr 3) (vr 4) (vr 7)) sN)) sN)
theorem zg (nd:P.Nodup)(pl:P.length<1000){mid one other:N2}(hm:mid∈P)(h1:one∈P)(h2:other∈P)(f:dZ N2)(s5 s7:Sl):∃s7',
  Dx (gz P L f (.va (en one)) (.va (en other)) s5 (.va (en mid)) s7)= .ok (.nx (gz P L (jM mid one other f) (.va (en one)) (.va (en other)) s5 (.va (en mid)) s7')):=by
 have ga:∀s7,ln 2 (o2 aL (o2 aL (vr 2) (vr 3)) (vr 6)) (gz P L f (.va (en one)) (.va (en other)) s5 (.va (en mid)) s7)= .ok (oI (f one mid)):=λs7=>xz rfl rfl h1 hm
 have gb:∀s7,ln 2 (o2 aL (o2 aL (vr 2) (vr 6)) (vr 4)) (gz P L f (.va (en one)) (.va (en other)) s5 (.va (en mid)) s7)= .ok (oI (f mid other)):=λs7=>xz rfl rfl hm h2
 unfold jM Dx
 cases qa:f one mid with
 | none=>
  have ga:=ga s7;rw[qa]at ga
  exact⟨s7,(fg (xS (cr (aD (t:=.non) (u:=.non) ga rfl rfl)))).trans rfl⟩
 | some x=>
  have ga:=ga s7;rw[qa]at ga
  have c1:=cr (aD (g:=du) (t:=.int x) (u:=.non) (fb:=cn .non) ga rfl rfl)
  cases qb:f mid other with
  | none=>
   have gb:=gb s7;rw[qb]at gb
   exact⟨s7,(fg (sJ c1 (cr (aD (t:=.non) (u:=.non) gb rfl rfl)))).trans rfl⟩
  | some y=>
   have gb:=gb s7;rw[qb]at gb;refine⟨.va (.int (x+y)),(gO (sJ c1 (cr (aD (t:=.int y) (u:=.non) gb rfl rfl)))).trans ?_⟩
   rw[az (bS (Z':=gz P L f (.va (en one)) (.va (en other)) s5 (.va (en mid)) (.va (.int (x+y)))) (aD (t:=.int x) (u:=.int y) ga gb rfl) rfl)];exact xZ nd pl (u:=one) (v:=other) (x:=x+y) rfl rfl rfl rfl rfl h1 h2
theorem A1 (nd:P.Nodup)(pl:P.length<1000){mid one:N2}(hm:mid∈P)(h1:one∈P):∀(Q:List N2) (f:dZ N2) (s4 s5 s7:Sl),(∀u∈Q,u∈P)->∃s4' s7',
  aW (gN 4) Dx (Q.map en) (gz P L f (.va (en one)) s4 s5 (.va (en mid)) s7)= .ok (.nx (gz P L (jN mid one Q f) (.va (en one)) s4' s5 (.va (en mid)) s7'))
 | [],f,s4,s5,s7,_=>⟨s4,s7,rfl⟩
 | u::Q,f,s4,s5,s7,h=>by
  have hu:=h u List.mem_cons_self;obtain⟨s7',e⟩:=zg (L:=L) nd pl hm h1 hu f s5 s7;rw[List.map_cons,cR (Z1:=gz P L f (.va (en one)) (.va (en u)) s5 (.va (en mid)) s7) rfl e];exact A1 nd pl hm h1 Q _ _ _ _ λw hw=>h w (List.mem_cons_of_mem _ hw)
theorem A0 (nd:P.Nodup)(pl:P.length<1000){mid:N2}(hm:mid∈P):∀(Q:List N2) (f:dZ N2) (s3 s4 s5 s7:Sl),(∀u∈Q,u∈P)->∃s3' s4' s7',
  aW (gN 3) (di (iS (vr 0)) (gN 4) Dx) (Q.map en) (gz P L f s3 s4 s5 (.va (en mid)) s7)= .ok (.nx (gz P L (ml mid Q P f) s3' s4' s5 (.va (en mid)) s7'))
 | [],f,s3,s4,s5,s7,_=>⟨s3,s4,s7,rfl⟩
 | u::Q,f,s3,s4,s5,s7,h=>by
  have hu:=h u List.mem_cons_self;obtain⟨s4',s7',e⟩:=A1 (L:=L) nd pl hm hu P f s4 s5 s7 λ_ z=>z
  rw[List.map_cons,cR (Z1:=gz P L f (.va (en u)) s4 s5 (.va (en mid)) s7) rfl (dM (ts:=P.map en) rfl e)];exact A0 nd pl hm Q _ _ _ _ _ λw hw=>h w (List.mem_cons_of_mem _ hw)
theorem AZ (nd:P.Nodup)(pl:P.length<1000):∀(Q:List N2) (f:dZ N2) (s3 s4 s5 s6 s7:Sl),(∀u∈Q,u∈P)->∃s3' s4' s6' s7',
  aW (gN 6) (di (iS (vr 0)) (gN 3) (di (iS (vr 0)) (gN 4) Dx)) (Q.map en) (gz P L f s3 s4 s5 s6 s7)= .ok (.nx (gz P L (rp Q P f) s3' s4' s5 s6' s7'))
 | [],f,s3,s4,s5,s6,s7,_=>⟨s3,s4,s6,s7,rfl⟩
 | u::Q,f,s3,s4,s5,s6,s7,h=>by
  have hu:=h u List.mem_cons_self;obtain⟨s3',s4',s7',e⟩:=A0 (L:=L) nd pl hu P f s3 s4 s5 s7 λ_ z=>z
  rw[List.map_cons,cR (Z1:=gz P L f s3 s4 s5 (.va (en u)) s7) rfl (dM (ts:=P.map en) rfl e)];exact AZ nd pl Q _ _ _ _ _ _ λw hw=>h w (List.mem_cons_of_mem _ hw)
def AS (P:List N2)(f:dZ N2):Prop:=∀u∈P,∀y,f u u=some y->0<=y
theorem Bw (hd:∀u∈P,∃y,table P L u u=some y)(pl:P.length<1000)(s3 s4 s5 s6 s7:Sl) :
  ∃t,((AS P (table P L)/\t=cx P (table P L))\/(¬AS P (table P L)/\t= .non))/\kP 2 (aM (pU (tb (o2 kX (dP (iS (vr 0)) [none,some 2] (gN 0) (tb (o2 rS (o2 aL (o2 aL (vr 1) (vr 0)) (vr 0)) (cn (.int 0)))) (vr 0)) (cV ag))) (vr 2) (cn .non))) (gz P L (table P L) s3 s4 s5 s6 s7)= .ok (.rt t):=by
 generalize hf:table P L=f
 rw[hf]at hd
 have lc:dP (iS (vr 0)) [none,some 2] (gN 0) (tb (o2 rS (o2 aL (o2 aL (vr 1) (vr 0)) (vr 0)) (cn (.int 0)))) (vr 0) (Bx P L f s3 s4 s5 s6 s7)= .ok (.lst (((P.map en).filter λt=>P.any λu=>decide (aQ t=some (ky u))&&(match f u u with | some y=>decide (y<0) | none=>false)).map id)):=by
  refine uh (ts:=P.map en) rfl (au (k:=1000) (by rw[List.length_map];omega)) (by simp) λt ht=> ?_
  obtain⟨u,hu,rfl⟩:=List.mem_map.mp ht;obtain⟨y,hy⟩:=hd u hu;refine⟨?_,λ_=>rfl⟩
  have e:(P.any λw=>decide (aQ (en u)=some (ky w))&&(match f w w with | some y=>decide (y<0) | none=>false))=decide (y<0):=by
   by_cases h:y<0
   ·rw[decide_eq_true h]
    exact List.any_eq_true.mpr ⟨u,hu,by rw[hy];simp[h,a9]⟩
   ·rw[decide_eq_false h,List.any_eq_false]
    intro w hw
    by_cases q:w=u
    ·subst q;rw[hy];simp[h]
    ·rw[decide_eq_false (λz=>q (gF ((a9 u).symm.trans z)).symm)];simp
  rw[e]
  have g:=om (P:=P) (f:=f) (u:=u) (v:=u) (Z:=[.va (en u),.va (cx P f)]) (c:=vr 1) (a:=vr 0) (b:=vr 0) rfl rfl rfl hu hu;rw[hy]at g;exact cr (aD (t:=.int y) (u:=.int 0) g rfl rfl)
 rw[List.map_id]at lc
 generalize hp:(λt=>P.any λu=>decide (aQ t=some (ky u))&&(match f u u with | some y=>decide (y<0) | none=>false))=p at lc
 have pu:∀u∈P,∀y,f u u=some y->p (en u)=decide (y<0):=by
  intro u hu y hy;rw[<-hp]
  show(P.any λw=>decide (aQ (en u)=some (ky w))&&(match f w w with | some y=>decide (y<0) | none=>false))=decide (y<0)
  by_cases h:y<0
  ·rw[decide_eq_true h]
   exact List.any_eq_true.mpr ⟨u,hu,by rw[hy];simp[h,a9]⟩
  ·rw[decide_eq_false h,List.any_eq_false]
   intro w hw
   by_cases q:w=u
   ·subst q;rw[hy];simp[h]
   ·rw[decide_eq_false (λz=>q (gF ((a9 u).symm.trans z)).symm)];simp
 have iff:(P.map en).filter p= [] ↔AS P f:=by
  rw[List.filter_eq_nil_iff]
  constructor
  ·intro h u hu y hy
   have:=h (en u) (List.mem_map.mpr ⟨u,hu,rfl⟩);rw[pu u hu y hy]at this
   simpa using this
  ·intro h t ht
   obtain⟨u,hu,rfl⟩:=List.mem_map.mp ht;obtain⟨y,hy⟩:=hd u hu;rw[pu u hu y hy]
   have:=h u hu y hy
   simpa using this
 have nd:nds ((P.map en).filter p)=true:=xq λt ht=>by
  obtain⟨u,_,rfl⟩:=List.mem_map.mp (List.mem_filter.mp ht).1
  rfl
 have eq:o2 kX (dP (iS (vr 0)) [none,some 2] (gN 0) (tb (o2 rS (o2 aL (o2 aL (vr 1) (vr 0)) (vr 0)) (cn (.int 0)))) (vr 0)) (cV ag) (Bx P L f s3 s4 s5 s6 s7)= .ok (.bl (aR (.lst ((P.map en).filter p)) (.lst []))):=
  aD (u:=.lst []) lc (i7 rfl (au (k:=1) (by simp))) (by unfold kX;rw[if_pos (mm (by simp[T.dep,deps]) (by simpa [T.nd]using nd) rfl)])
 by_cases D:AS P f
 ·refine⟨cx P f,.inl ⟨D,rfl⟩,?_⟩
  rw[iff.mpr D]at eq;refine xQ ?_
  rw[sR];exact df ((nM (p:=true) (cr eq)).trans rfl)
 ·refine⟨.non,.inr ⟨D,rfl⟩,?_⟩
  have:(P.map en).filter p≠ []:=λz=>D (iff.mp z)
  cases q:(P.map en).filter p with
  | nil=>exact absurd q this
  | cons a l=>
   rw[q]at eq;refine xQ ?_
   rw[sR];exact df ((nM (p:=false) (cr (eq.trans (by simp[aR,beqTs])))).trans rfl)
theorem Ay (nd:P.Nodup)(pl:P.length<1000)(hL:∀x∈L,x.1∈P/\x.2.1∈P) :
  ∃t,((gq L/\mM L P (table P L)/\t=cx P (table P L))\/(¬gq L/\t= .non))/\fF [eS P,eL L] = .ok t:=by
 obtain⟨a3,e1⟩:=A3 (L:=L) nd pl P (λ_ _=>none) .em .em .em .em .em λ_ z=>z
 rw[vD]at e1;obtain⟨b3,b4,b5,e2⟩:=A2 (L:=L) nd pl L (qf P) a3 .em .em .em .em hL;obtain⟨c3,c4,c6,c7,e3⟩:=AZ (L:=L) nd pl P (wr P L) b3 b4 b5 .em .em λ_ z=>z
 obtain⟨t,ht,e4⟩:=Bw (P:=P) (L:=L) (λu hu=>let ⟨y,h,_⟩:=lC (L:=L) hu;⟨y,h⟩) pl c3 c4 b5 c6 c7
 refine⟨t,ht.elim (λh=> .inl ?_) (λh=> .inr ⟨λn=>h.1 λu hu y hy=> ?_,h.2⟩),cq rfl ?_⟩
 ·have:=qe hL h.1
  exact⟨this.1,this.2,h.2⟩
 ·exact Int.not_lt.mp λz=>uW hy z n
 ·show d7 [.va (eS P),.va (eL L),.em,.em,.em,.em,.em,.em] =_
  unfold d7;rw[az (Bv nd (by omega)),az (dM (ts:=P.map en) rfl e1),az (dM (ts:=L.map eB) rfl e2)]
  exact(az (dM (ts:=P.map en) rfl e3)).trans e4
end
theorem xO {f:En->Rs T}{l:List T}{t:T}{Z:En}{i:Int}(n:Nat)(h:f Z= .ok (.tup l))(e:l[n]? =some t)(hi:i=(n:Nat):=by rfl):o2 aP f (cn (.int i)) Z= .ok t:=by subst hi;exact vq h rfl e
theorem jk {g:T->En->Rs En}{fc:En->Rs Bool}{fe:En->Rs T}{p:T->Bool}{h:T->T}(I:En->Prop):∀(ts:List T) (Z:En),I Z->(∀t∈ts,∀Z,I Z->∃Z1,g t Z= .ok Z1/\I Z1/\fc Z1= .ok (p t)/\fe Z1= .ok (h t))->cQ g fc fe ts Z= .ok ((ts.filter p).map h)
 | [],_,_,_=>rfl
 | t::r,Z,hI,hf=>by
  obtain⟨Z1,e1,i1,e2,e3⟩:=hf t List.mem_cons_self Z hI
  have ih:=jk I r Z1 i1 λu hu=>hf u (List.mem_cons_of_mem _ hu)
  unfold cQ
  cases q:p t with
  | true=>simp only[e1,ax,e2,q,if_true,e3,ih,List.filter_cons_of_pos q,List.map_cons]
  | false=>simp only[e1,ax,e2,q,Bool.false_eq_true,if_false,ih,List.filter_cons_of_neg (show ¬p t=true by rw[q];decide)]
theorem nW (g:N2->T):∀(S ns:List N2),(ns++S).Nodup->f8 ((S.map en).zip (S.map g)) (ns.map en,ns.map g)=((ns++S).map en,(ns++S).map g)
 | [],ns,_=>by rw[List.append_nil];rfl
 | v::S,ns,hn=>by
  have hv:v∉ns:=λz=>by
   rw[List.nodup_append]at hn;exact hn.2.2 v z v List.mem_cons_self rfl
  rw[List.map_cons,List.map_cons,List.zip_cons_cons,f8,ik _ _ _ _ hv]
  have e1:ns.map en++ [en v] =(ns++ [v]).map en:=by rw[List.map_append];rfl
  have e2:ns.map g++ [g v] =(ns++ [v]).map g:=by rw[List.map_append];rfl
  rw[e1,e2,nW g S (ns++ [v]) (by rw[List.append_assoc];exact hn),List.append_assoc]
  rfl
def yA (P:List N2)(t:N2->Int):T:=.dct (P.map en) (P.map λv=> .int (t v))
def hB (t:N2->Int)(x:N2×N2×Int):Bool:=decide (t x.2.1 - t x.1<=x.2.2)
def Fj (t:N2->Int)(u:T):Bool:=match u with
 | .tup [_,.tup [.tup [.int a,.int b],.tup [.int c,.int d],.int m]] => !hB t (⟨a,b⟩,⟨c,d⟩,m)
 | _=>false
def brH (u:T):T:=match u with
 | .tup [i,_] =>i
 | _=> .non
def m8 (t:N2->Int)(L:bx N2):List T:=((a7 0 (L.map eB)).filter (Fj t)).map brH
theorem sX (t:N2->Int)(i:T)(x:N2×N2×Int):Fj t (.tup [i,eB x])= !hB t x:=rfl
theorem ym {t:T}:∀{l:List T} {i:Nat},t∈a7 i l->∃k u,u∈l/\t= .tup [.int (k:Nat),u]
 | [],i,h=>by simp[a7]at h
 | u::l,i,h=>by
  rw[a7,List.mem_cons]at h;rcases h with rfl | h
  ·exact⟨i,u,List.mem_cons_self,rfl⟩
  ·obtain⟨k,w,hw,e⟩:=ym h
   exact⟨k,w,List.mem_cons_of_mem _ hw,e⟩
theorem lr (t:N2->Int):∀(L:bx N2) (i:Nat),((a7 i (L.map eB)).filter (Fj t))= [] ↔L.all (hB t)=true
 | [],i=>by simp[a7]
 | x::L,i=>by
  rw[List.map_cons,a7,List.all_cons,Bool.and_eq_true,<-lr t L (i+1)]
  cases q:hB t x with
  | true=>rw[List.filter_cons_of_neg (by rw[sX,q];decide)];simp
  | false=>rw[List.filter_cons_of_pos (by rw[sX,q];rfl)];simp
theorem holds_all {L:bx N2}{t:N2->Int}:L.all (hB t)=true↔Holds L t:=by
 rw[List.all_eq_true];refine⟨λh a b m hm=>by have:=h _ hm;exact of_decide_eq_true this,λh x hx=>decide_eq_true (h _ _ _ hx)⟩
theorem rE:∀(l:List T) (i:Nat),(a7 i l).length=l.length
 | [],_=>rfl
 | t::l,i=>by rw[a7,List.length_cons,List.length_cons,rE l (i+1)]
theorem uH {t:N2->Int}{L:bx N2}{u:T}(h:u∈m8 t L):∃k:Nat,u= .int (k:Nat):=by
 obtain⟨w,hw,rfl⟩:=List.mem_map.mp h;obtain⟨k,y,_,rfl⟩:=ym (List.mem_filter.mp hw).1;exact⟨k,rfl⟩
theorem Dn (t:N2->Int)(L:bx N2):kX (.lst (m8 t L)) (.lst [])= .ok (.bl (L.all (hB t))):=by
 have pl:(T.lst (m8 t L)).pl=true:=by
  unfold T.pl;exact j4 λu hu=>by obtain⟨k,rfl⟩:=uH hu;rfl
 unfold kX;rw[if_pos (mm (by simp[T.dep,deps]) (T.pl_nd _ pl) (T.pl_nd _ (by rfl)))]
 cases q:L.all (hB t)with
 | true=>
  unfold m8
  rw[(lr t L 0).mpr q];rfl
 | false=>
  have:m8 t L≠ []:=λz=>by
   unfold m8 at z;rw[(lr t L 0).mp (List.map_eq_nil_iff.mp z)]at q;cases q
  cases e:m8 t L with
  | nil=>exact absurd e this
  | cons a l=>simp[aR,beqTs]
def C2 (n:Nat)(u:T):Bool:=dI u n n&&(match u with
 | .tup l=>l.all Fh
 | _=>false)
theorem Dw (P:List N2)(t:N2->Int):C2 P.length (bj P t)=true:=by
 unfold C2 bj;simp only[Bool.and_eq_true];refine⟨by simp[dI],List.all_eq_true.mpr λu hu=> ?_⟩
 obtain⟨v,_,rfl⟩:=List.mem_map.mp hu
 rfl
theorem AY (P:List N2)(t:N2->Int):(bj P t).pl=true:=by
 unfold bj;rw[wU];exact j4 λu hu=>by obtain⟨v,_,rfl⟩:=List.mem_map.mp hu;rfl
theorem Bu (P:List N2)(t:N2->Int):(bj P t).dep<=60:=by
 have:deps (P.map λv=>T.int (t v))<=5:=uC λu hu=>by obtain⟨v,_,rfl⟩:=List.mem_map.mp hu;simp[T.dep]
 unfold bj T.dep;omega
section
variable {cs ls:List T}{L:bx N2}{P:List N2}
theorem Rd.pos (R:Rd cs ls L P):0<P.length:=by
 obtain⟨hcl,c1,_⟩:=bU R.g.c
 have e:=congrArg List.length R.e;rw[List.length_map]at e;rw[<-e]
 cases cs with
 | nil=>simp at c1
 | cons c cs=>
  obtain⟨x,y,r,rfl,r1,_⟩:=fh (hcl c List.mem_cons_self);rw[dN,List.length_append,fZ]
  show 0<r.length+_
  omega
theorem Rd.dz (R:Rd cs ls L P)(t:N2->Int):EN [eS P,bj P t] = .ok (yA P t):=by
 have h0:=R.pos
 have h1:=R.pl
 show(if gp (P.map en)=true/\(P.map en).length=(P.map λv=>T.int (t v)).length/\1<=(P.map en).length/\(P.map en).length<=1000 then _ else _)=_
 rw[if_pos ⟨l8 P,by rw[List.length_map,List.length_map],by rw[List.length_map];omega,by rw[List.length_map];omega⟩]
 have:=nW (λv=> .int (t v)) P [] (by simpa using R.nd)
 rw[List.nil_append]at this;rw[show(([]:List T),([]:List T))=(([]:List N2).map en,([]:List N2).map λv=>T.int (t v))from rfl,this]
 rfl
theorem yz {t:N2->Int}{v:N2}{a b:En->Rs T}{Z:En}(ha:a Z= .ok (yA P t))(hb:b Z= .ok (en v))(hv:v∈P):o2 aL a b Z= .ok (.int (t v)):=by
 refine aD (t:=yA P t) (u:=en v) ha hb ?_
 show(match kn (P.map en) (P.map λv=>T.int (t v)) (ky v)with | some t=>Rs.ok t | none=> .bad)=_
 rw[jQ (λv=>T.int (t v)),if_pos hv]
theorem AA {t:N2->Int}{x:N2×N2×Int}(h1:x.1∈P)(h2:x.2.1∈P):lb [eB x,yA P t] = .ok (.bl (hB t x)):=by
 refine cq rfl (df ?_)
 show o2 vY (o2 bH (o2 aL (vr 1) (o2 aP (vr 0) (cn (.int 1)))) (o2 aL (vr 1) (o2 aP (vr 0) (cn (.int 0))))) (o2 aP (vr 0) (cn (.int 2))) [.va (eB x),.va (yA P t)] =_
 exact aD (t:=.int (t x.2.1 - t x.1)) (u:=.int x.2.2) (aD (t:=.int (t x.2.1)) (u:=.int (t x.1)) (yz (P:=P) rfl (xO 1 rfl rfl) h2) (yz (P:=P) rfl (xO 0 rfl rfl) h1) rfl) (xO 2 rfl rfl) rfl
theorem Rd.broken (R:Rd cs ls L P)(t:N2->Int):cK [(.tup [.tup cs,.tup ls]),bj P t] = .ok (.lst (m8 t L)):=by
 refine cq rfl ?_
 show ir [.va (.tup [.tup cs,.tup ls]),.va (bj P t),.em] =_
 unfold ir;rw[az (Z':=[.va (.tup [.tup cs,.tup ls]),.va (bj P t),.va (yA P t)]) (bS (bh (ts:=[eS P,bj P t]) (aq (bh (ts:=[(.tup [.tup cs,.tup ls])]) rfl R.events) rfl) (R.dz t)) rfl)];refine df ?_
 unfold dP;rw[uj (l:=L.map eB) (aq (bh (ts:=[(.tup [.tup cs,.tup ls])]) rfl R.bounds) rfl),ax,if_pos (au (k:=60) (by rw[rE,List.length_map];exact R.ll))]
 rw[show bp [none,none,some 2] [.va (.tup [.tup cs,.tup ls]),.va (bj P t),.va (yA P t)] = [.em,.em,.va (yA P t)]from rfl,jk (p:=Fj t) (h:=brH) (λZ=> ∃a b,Z= [a,b,.va (yA P t)]) _ _ ⟨_,_,rfl⟩ λu hu Z hh_=>by
  obtain⟨a,b,e⟩:=hh_;subst e;obtain⟨k,w,hw,rfl⟩:=ym hu;obtain⟨x,hx,rfl⟩:=List.mem_map.mp hw
  have hh:=R.f.ends x hx;exact⟨[.va (.int (k:Nat)),.va (eB x),.va (yA P t)],rfl,⟨_,_,rfl⟩,(nK (cr (bh (ts:=[eB x,yA P t]) rfl (AA hh.1 hh.2)))),rfl⟩]
 rfl
theorem Rd.aret (R:Rd cs ls L P){u:T}(hu:u.pl=true):gg [(.tup [.tup cs,.tup ls]),u] = .ok (.bl (C2 P.length u)):=by
 refine cq rfl ?_
 show ft [.va (.tup [.tup cs,.tup ls]),.va u,.em] =_
 unfold ft;rw[az (Z':=[.va (.tup [.tup cs,.tup ls]),.va u,.va (.int (P.length:Nat))]) (bS (bh (ts:=[eS P]) (aq (bh (ts:=[(.tup [.tup cs,.tup ls])]) rfl R.events) rfl) (by show Rs.ok (T.int ((P.map en).length:Nat))=_;rw[List.length_map])) rfl)]
 refine df (pw (bh (ts:=[u,.int (P.length:Nat),.int (P.length:Nat)]) rfl (ij u P.length P.length hu)) λh=> ?_)
 obtain⟨l,rfl,_,hl⟩:=cL h;exact mI (CZ rfl) (au (k:=16) (by have:=R.pl;omega)) (by simp) λv hv=>bh (ts:=[v]) rfl (uv v (by rw[wU]at hu;exact jG hu hv))
theorem Rd.isw (R:Rd cs ls L P)(t:N2->Int):bP [(.tup [.tup cs,.tup ls]),bj P t] = .ok (.bl (L.all (hB t))):=by
 refine cq rfl (df ?_)
 refine(xR (bh (ts:=[(.tup [.tup cs,.tup ls]),bj P t]) rfl (by rw[R.aret (AY P t),Dw]))).trans ?_
 exact aD (t:=.lst (m8 t L)) (u:=.lst []) (bh (ts:=[(.tup [.tup cs,.tup ls]),bj P t]) rfl (R.broken t)) (i7 rfl (au (k:=1) (by simp))) (Dn t L)
end
theorem pj:∀(ns:List Int) (i:Int),dW i ns<=i/\∀x∈ns,dW i ns<=x
 | [],i=>⟨Int.le_refl _,λx h=>by cases h⟩
 | j::ns,i=>by
  have h:=pj ns (if j<i then j else i)
  rw[dW];refine⟨?_,λx hx=> ?_⟩
  ·have:=h.1;split at this <;> omega
  ·rcases List.mem_cons.mp hx with rfl | hx
   ·have:=h.1;split at this <;> omega
   ·exact h.2 x hx
theorem rf:∀(ns:List Int) (i:Int),dW i ns=i\/dW i ns∈ns
 | [],i=> .inl rfl
 | j::ns,i=>by
  rw[dW];rcases rf ns (if j<i then j else i)with h | h
  ·rw[h]
   split
   ·exact .inr List.mem_cons_self
   ·exact .inl rfl
  ·exact .inr (List.mem_cons_of_mem _ h)
theorem pk:∀(ns:List Int) (i:Int),i<=dX i ns/\∀x∈ns,x<=dX i ns
 | [],i=>⟨Int.le_refl _,λx h=>by cases h⟩
 | j::ns,i=>by
  have h:=pk ns (if i<j then j else i)
  rw[dX];refine⟨?_,λx hx=> ?_⟩
  ·refine Int.le_trans ?_ h.1;split <;> omega
  ·rcases List.mem_cons.mp hx with rfl | hx
   ·refine Int.le_trans ?_ h.1;split <;> omega
   ·exact h.2 x hx
theorem lZ:∀(ns:List Int) (i:Int),dX i ns=i\/dX i ns∈ns
 | [],i=> .inl rfl
 | j::ns,i=>by
  rw[dX];rcases lZ ns (if i<j then j else i)with h | h
  ·rw[h]
   split
   ·first | exact .inr List.mem_cons_self | exact .inl rfl
   ·first | exact .inl rfl | exact .inr List.mem_cons_self
  ·exact .inr (List.mem_cons_of_mem _ h)
theorem jf:∀l:List Int,i0 (l.map .int)=some l
 | [] =>rfl
 | x::l=>by rw[List.map_cons,i0,jf l];rfl
def deN (t:T):N2:=match t with
 | .tup [.int c,.int k] =>⟨c,k⟩
 | _=>⟨0,0⟩
theorem gJ (u:N2):deN (en u)=u:=rfl
def jC (g:N2->Option Int)(t:T):Bool:=(g (deN t)).isSome
def lH (g:N2->Option Int)(t:T):T:=match g (deN t)with
 | some x=> .int x
 | none=> .non
theorem pE (g:N2->Option Int):∀Q:List N2,((Q.map en).filter (jC g)).map (lH g)=(Q.filterMap g).map .int
 | [] =>rfl
 | u::Q=>by
  have ih:=pE g Q;rw[List.map_cons,List.filterMap_cons]
  cases q:g u with
  | none=>rw[List.filter_cons_of_neg (by unfold jC;rw[gJ,q];decide)];exact ih
  | some x=>
   rw[List.filter_cons_of_pos (by unfold jC;rw[gJ,q];rfl),List.map_cons,ih]
   show lH g (en u)::_=T.int x::_
   unfold lH;rw[gJ,q]
theorem Be {i j:Nat}{src:List (Option Nat)}{tgt:T->En->Rs En}{fc:En->Rs Bool}{fe:En->Rs T}{Z:En}{ks ts:List T}{t:T}(hi:Z[i]? =some (.ow (.dct ks ts)))(h:dP (iD (vr i)) src tgt fc fe (disown i Z)= .ok t)(hk:t.nk true=true)(hj:j<Z.length):oF i j src tgt fc fe Z= .ok (.nx (Z.set j (.va t))):=by
 unfold oF;rw[hi]
 dsimp only
 rw[h]
 dsimp only
 rw[if_pos ⟨hk,hj⟩]
theorem o9 (l:List Int):(T.lst (l.map .int)).nk true=true:=by
 show(true&&nks true (l.map .int))=true
 rw[Bool.true_and]
 induction l with
 | nil=>rfl
 | cons x l ih=>exact ih
theorem pf (l:List Int):k9 (.lst (l.map .int)) (.lst [])= .ok (.bl (!l.isEmpty)):=by
 have pl:(T.lst (l.map .int)).pl=true:=by unfold T.pl;exact j4 λu hu=>by obtain⟨k,_,rfl⟩:=List.mem_map.mp hu;rfl
 unfold k9;rw[if_pos (mm (by simp[T.dep,deps]) (T.pl_nd _ pl) (T.pl_nd _ (by rfl)))]
 cases l with
 | nil=>rfl
 | cons a l=>simp[aR,beqTs]
section
variable {L:bx N2}{P:List N2}{f:dZ N2}{ns:List Int}
def mO (f:dZ N2)(t:N2->Int)(v u:N2):Option Int:=(f u v).map λx=>t u+x
def m6 (f:dZ N2)(t:N2->Int)(v u:N2):Option Int:=(f v u).map λx=>t u - x
def Bj (f:dZ N2)(Q:List N2)(t:N2->Int):Prop:=∀u∈Q,∀w∈Q,∀d,f u w=some d->t w - t u<=d
def lY (lo hi:List Int):Int:=match lo with
 | x::l=>dX x l
 | [] =>match hi with
  | x::l=>dW x l - 5
  | [] =>0
def vZ (lo hi:List Int):Int:=match hi with
 | x::l=>dW x l
 | [] =>lY lo hi+5
theorem Bb {Q:List N2}{t:N2->Int}{v:N2}(F:mM L P f)(hv:v∈P)(hQ:∀u∈Q,u∈P)(h:Bj f Q t) :
  lY (Q.filterMap (m6 f t v)) (Q.filterMap (mO f t v))<=vZ (Q.filterMap (m6 f t v)) (Q.filterMap (mO f t v))/\(∀x∈Q.filterMap (m6 f t v),x<=lY (Q.filterMap (m6 f t v)) (Q.filterMap (mO f t v)))/\∀x∈Q.filterMap (mO f t v),vZ (Q.filterMap (m6 f t v)) (Q.filterMap (mO f t v))<=x:=by
 have key:∀x∈Q.filterMap (m6 f t v),∀y∈Q.filterMap (mO f t v),x<=y:=λx hx y hy=>by
  obtain⟨u,hu,eu⟩:=List.mem_filterMap.mp hx;obtain⟨w,hw,ew⟩:=List.mem_filterMap.mp hy;unfold m6 at eu;unfold mO at ew;obtain⟨p,hp,rfl⟩:=Option.map_eq_some_iff.mp eu;obtain⟨q,hq,rfl⟩:=Option.map_eq_some_iff.mp ew;obtain⟨d,hd,hle⟩:=F.le w (hQ w hw) u _ ((F.is w v q hq).app (F.is v u p hp))
  have:=h w hw u hu d hd;omega
 generalize Q.filterMap (m6 f t v)=lo at key
 generalize Q.filterMap (mO f t v)=hi at key
 cases lo with
 | nil=>
  cases hi with
  | nil=>exact⟨by show(0:Int)<=0+5;omega,(λx h=>by cases h),λx h=>by cases h⟩
  | cons y hi=>
   have m:=pj hi y;refine⟨by show dW y hi - 5<=dW y hi;omega,(λx h=>by cases h),λx hx=> ?_⟩
   show dW y hi<=x
   rcases List.mem_cons.mp hx with rfl | hx
   ·exact m.1
   ·exact m.2 x hx
 | cons x lo=>
  have mx:=pk lo x
  have up:∀z∈x::lo,z<=dX x lo:=λz hz=>by
   rcases List.mem_cons.mp hz with rfl | hz
   ·exact mx.1
   ·exact mx.2 z hz
  cases hi with
  | nil=>exact⟨by show dX x lo<=dX x lo+5;omega,up,λx h=>by cases h⟩
  | cons y hi=>
   have m:=pj hi y;refine⟨?_,up,λz hz=> ?_⟩
   ·show dX x lo<=dW y hi
    have h1:dX x lo∈x::lo:=(lZ lo x).elim (λe=>by rw[e];exact List.mem_cons_self) λe=>List.mem_cons_of_mem _ e
    have h2:dW y hi∈y::hi:=(rf hi y).elim (λe=>by rw[e];exact List.mem_cons_self) λe=>List.mem_cons_of_mem _ e
    exact key _ h1 _ h2
   ·show dW y hi<=z
    rcases List.mem_cons.mp hz with rfl | hz
    ·exact m.1
    ·exact m.2 z hz
theorem ye {Q:List N2}{t:N2->Int}{v:N2}(n:gq L)(F:mM L P f)(hv:v∈P)(hq:v∉Q)(hQ:∀u∈Q,u∈P)(h:Bj f Q t){x:Int}(h1:lY (Q.filterMap (m6 f t v)) (Q.filterMap (mO f t v))<=x)(h2:x<=vZ (Q.filterMap (m6 f t v)) (Q.filterMap (mO f t v))) :
  Bj f (Q++ [v]) (λu=>if u=v then x else t u):=by
 obtain⟨_,l1,l2⟩:=Bb F hv hQ h;intro u hu w hw d hd
 have nv:∀u∈Q,u≠v:=λu hu z=>hq (z▸hu)
 show(if w=v then x else t w) - (if u=v then x else t u)<=d
 rcases List.mem_append.mp hu with hu | hu <;> rcases List.mem_append.mp hw with hw | hw
 ·rw[if_neg (nv u hu),if_neg (nv w hw)];exact h u hu w hw d hd
 ·rw[List.mem_singleton.mp hw]at hd ⊢
  rw[if_neg (nv u hu),if_pos rfl]
  have:=l2 (t u+d) (List.mem_filterMap.mpr ⟨u,hu,by unfold mO;rw[hd];rfl⟩)
  omega
 ·rw[List.mem_singleton.mp hu]at hd ⊢
  rw[if_neg (nv w hw),if_pos rfl]
  have:=l1 (t w - d) (List.mem_filterMap.mpr ⟨w,hw,by unfold m6;rw[hd];rfl⟩)
  omega
 ·rw[List.mem_singleton.mp hu,List.mem_singleton.mp hw]at hd
  rw[List.mem_singleton.mp hu,List.mem_singleton.mp hw]
  have:=n v d (F.is v v d hd);omega
theorem sS {Q:List N2}{t:N2->Int}{v:N2}{a b:En->Rs T}{Z:En}(ha:a Z= .ok (.dct (Q.map en) (Q.map λv=> .int (t v))))(hb:b Z= .ok (en v))(hv:v∈Q):o2 aL a b Z= .ok (.int (t v)):=yz (P:=Q) ha hb hv
theorem qZ (x:Int)(l:List Int):m4 [.lst ((x::l).map .int)] = .ok (.int (dW x l)):=by
 show(match i0 ((x::l).map .int)with | some (i::ns)=>Rs.ok (T.int (dW i ns)) | _=> .bad)=_
 rw[jf]
theorem q0 (x:Int)(l:List Int):m5 [.lst ((x::l).map .int)] = .ok (.int (dX x l)):=by
 show(match i0 ((x::l).map .int)with | some (i::ns)=>Rs.ok (T.int (dX i ns)) | _=> .bad)=_
 rw[jf]
theorem Ey {i:Nat}{fk fv:En->Rs T}{Z:En}{ks vs:List T}{k v:T}{kk:List L2.Key}(hi:Z[i]? =some (.ow (.dct ks vs)))(hv:fv Z= .ok v)(hk:fk Z= .ok k)(e:aQ k=some kk)(hl:ks.length<1000):mT i fk fv Z= .ok (.nx (Z.set i (.ow (.dct (fI k v ks vs).1 (fI k v ks vs).2)))):=by
 unfold mT;rw[hi]
 dsimp only
 rw[hv,ax,hk,ax,e]
 dsimp only
 rw[if_pos hl]
abbrev DW:En->Rs Fl:=(ar (oF 5 8 [none,some 5,some 4,some 7] (gN 0) (tb (o2 du (o2 aL (o2 aL (vr 2) (vr 0)) (vr 3)) (cn .non))) (o2 aH (o2 aL (vr 1) (vr 0)) (o2 aL (o2 aL (vr 2) (vr 0)) (vr 3)))) (ar (oF 5 9 [none,some 5,some 4,some 7] (gN 0) (tb (o2 du (o2 aL (o2 aL (vr 2) (vr 3)) (vr 0)) (cn .non))) (o2 bH (o2 aL (vr 1) (vr 0)) (o2 aL (o2 aL (vr 2) (vr 3)) (vr 0)))) (ar (ce (pU (tb (o2 k9 (vr 9) (cV ag))) (cl m5 (ad (vr 9) ag)) (pU (tb (o2 k9 (vr 8) (cV ag))) (o2 bH (cl m4 (ad (vr 8) ag)) (cn (.int 5))) (cn (.int 0)))) (gN 10)) (ar (ce (pU (tb (o2 k9 (vr 8) (cV ag))) (cl m4 (ad (vr 8) ag)) (o2 aH (vr 10) (cn (.int 5)))) (gN 11)) (mT 5 (vr 7) (o2 aH (vr 10) (cl aw (ad (vr 0) (ad (o2 aH (vr 1) (vr 6)) (ad (o2 aH (o2 bH (vr 11) (vr 10)) (cn (.int 1))) ag))))))))))
theorem AD (hn:ns.length<=63)(n:gq L)(F:mM L P f)(pl:P.length<=16){Q:List N2}{t:N2->Int}{v:N2}(hv:v∈P)(hq:v∉Q)(hQ:∀u∈Q,u∈P)(hl:Q.length<=16)(h:Bj f Q t)(a k:Nat)(row:T)(s8 s9 s10 s11:Sl):∃x b8 b9 b10 b11,Bj f (Q++ [v]) (λu=>if u=v then x else t u) ∧
  DW [.va (.scr ns),.va (.int (a:Nat)),.va (eS P),.va row,.va (cx P f),.ow (.dct (Q.map en) (Q.map λv=> .int (t v))),.va (.int (k:Nat)),.va (en v),s8,s9,s10,s11] = .ok (.nx [.va (.scr ns),.va (.int (a:Nat)),.va (eS P),.va row,.va (cx P f),.ow (.dct ((Q++ [v]).map en) ((Q++ [v]).map λu=> .int (if u=v then x else t u))),.va (.int (k:Nat)),.va (en v),b8,b9,b10,b11]):=by
 obtain⟨lh,_,_⟩:=Bb F hv hQ h
 have lch:dP (iD (vr 5)) [none,some 5,some 4,some 7] (gN 0) (tb (o2 du (o2 aL (o2 aL (vr 2) (vr 0)) (vr 3)) (cn .non))) (o2 aH (o2 aL (vr 1) (vr 0)) (o2 aL (o2 aL (vr 2) (vr 0)) (vr 3))) (disown 5 [.va (.scr ns),.va (.int (a:Nat)),.va (eS P),.va row,.va (cx P f),.ow (.dct (Q.map en) (Q.map λv=> .int (t v))),.va (.int (k:Nat)),.va (en v),s8,s9,s10,s11])= .ok (.lst ((Q.filterMap (mO f t v)).map .int)):=by
  rw[<-pE (mO f t v) Q];refine uh (ts:=Q.map en) rfl (au (k:=16) (by rw[List.length_map];exact hl)) (by simp) λu0 hu0=> ?_
  obtain⟨u,hu,rfl⟩:=List.mem_map.mp hu0
  have e:=om (P:=P) (f:=f) (u:=u) (v:=v) (a:=vr 0) (b:=vr 3) (c:=vr 2) (Z:=[.va (en u),.va (.dct (Q.map en) (Q.map λv=> .int (t v))),.va (cx P f),.va (en v)]) rfl rfl rfl (hQ u hu) hv
  have e2:=sS (Q:=Q) (t:=t) (v:=u) (a:=vr 1) (b:=vr 0) (Z:=[.va (en u),.va (.dct (Q.map en) (Q.map λv=> .int (t v))),.va (cx P f),.va (en v)]) rfl rfl hu
  refine⟨?_,λhp=> ?_⟩
  ·show _=Rs.ok (jC (mO f t v) (en u))
   refine cr ((aD (u:=.non) e rfl rfl).trans ?_)
   unfold jC mO;rw[gJ];cases f u v <;> rfl
  ·show _=Rs.ok (lH (mO f t v) (en u))
   unfold jC mO at hp;rw[gJ]at hp
   cases q:f u v with
   | none=>rw[q]at hp;cases hp
   | some d=>
    rw[q]at e;unfold lH mO;rw[gJ,q];exact aD (t:=.int (t u)) (u:=.int d) e2 e rfl
 have lcl:dP (iD (vr 5)) [none,some 5,some 4,some 7] (gN 0) (tb (o2 du (o2 aL (o2 aL (vr 2) (vr 3)) (vr 0)) (cn .non))) (o2 bH (o2 aL (vr 1) (vr 0)) (o2 aL (o2 aL (vr 2) (vr 3)) (vr 0))) (disown 5 [.va (.scr ns),.va (.int (a:Nat)),.va (eS P),.va row,.va (cx P f),.ow (.dct (Q.map en) (Q.map λv=> .int (t v))),.va (.int (k:Nat)),.va (en v),.va (.lst ((Q.filterMap (mO f t v)).map .int)),s9,s10,s11])= .ok (.lst ((Q.filterMap (m6 f t v)).map .int)):=by
  rw[<-pE (m6 f t v) Q];refine uh (ts:=Q.map en) rfl (au (k:=16) (by rw[List.length_map];exact hl)) (by simp) λu0 hu0=> ?_
  obtain⟨u,hu,rfl⟩:=List.mem_map.mp hu0
  have e:=om (P:=P) (f:=f) (u:=v) (v:=u) (a:=vr 3) (b:=vr 0) (c:=vr 2) (Z:=[.va (en u),.va (.dct (Q.map en) (Q.map λv=> .int (t v))),.va (cx P f),.va (en v)]) rfl rfl rfl hv (hQ u hu)
  have e2:=sS (Q:=Q) (t:=t) (v:=u) (a:=vr 1) (b:=vr 0) (Z:=[.va (en u),.va (.dct (Q.map en) (Q.map λv=> .int (t v))),.va (cx P f),.va (en v)]) rfl rfl hu
  refine⟨?_,λhp=> ?_⟩
  ·show _=Rs.ok (jC (m6 f t v) (en u))
   refine cr ((aD (u:=.non) e rfl rfl).trans ?_)
   unfold jC m6;rw[gJ];cases f v u <;> rfl
  ·show _=Rs.ok (lH (m6 f t v) (en u))
   unfold jC m6 at hp;rw[gJ]at hp
   cases q:f v u with
   | none=>rw[q]at hp;cases hp
   | some d=>
    rw[q]at e;unfold lH m6;rw[gJ,q];exact aD (t:=.int (t u)) (u:=.int d) e2 e rfl
 have fm:∀{x:Int},lY (Q.filterMap (m6 f t v)) (Q.filterMap (mO f t v))<=x->x<=vZ (Q.filterMap (m6 f t v)) (Q.filterMap (mO f t v))->Bj f (Q++ [v]) (λu=>if u=v then x else t u):=λ{x} h1 h2=>ye n F hv hq hQ h h1 h2
 generalize Q.filterMap (mO f t v)=hi at lch lcl fm lh
 generalize Q.filterMap (m6 f t v)=lo at lcl fm lh
 unfold DW;rw[az (Z':=[.va (.scr ns),.va (.int (a:Nat)),.va (eS P),.va row,.va (cx P f),.ow (.dct (Q.map en) (Q.map λv=> .int (t v))),.va (.int (k:Nat)),.va (en v),.va (.lst (hi.map .int)),s9,s10,s11]) (Be rfl lch (o9 _) (by simp))]
 rw[az (Z':=[.va (.scr ns),.va (.int (a:Nat)),.va (eS P),.va row,.va (cx P f),.ow (.dct (Q.map en) (Q.map λv=> .int (t v))),.va (.int (k:Nat)),.va (en v),.va (.lst (hi.map .int)),.va (.lst (lo.map .int)),s10,s11]) (Be rfl lcl (o9 _) (by simp))]
 have nil_:∀(Z:En),cV ag Z= .ok (.lst []):=λZ=>i7 rfl (au (k:=1) (by simp))
 have e10:(pU (tb (o2 k9 (vr 9) (cV ag))) (cl m5 (ad (vr 9) ag)) (pU (tb (o2 k9 (vr 8) (cV ag))) (o2 bH (cl m4 (ad (vr 8) ag)) (cn (.int 5))) (cn (.int 0)))) [.va (.scr ns),.va (.int (a:Nat)),.va (eS P),.va row,.va (cx P f),.ow (.dct (Q.map en) (Q.map λv=> .int (t v))),.va (.int (k:Nat)),.va (en v),.va (.lst (hi.map .int)),.va (.lst (lo.map .int)),s10,s11] = .ok (.int (lY lo hi)):=by
  rw[nM (cr (aD (t:=.lst (lo.map .int)) (u:=.lst []) rfl (nil_ _) (pf lo)))]
  cases lo with
  | cons x l=>exact bh (ts:=[.lst ((x::l).map .int)]) rfl (q0 x l)
  | nil=>
   show pU _ _ _ _=_
   rw[nM (cr (aD (t:=.lst (hi.map .int)) (u:=.lst []) rfl (nil_ _) (pf hi)))]
   cases hi with
   | cons x l=>exact aD (t:=.int (dW x l)) (u:=.int 5) (bh (ts:=[.lst ((x::l).map .int)]) rfl (qZ x l)) rfl rfl
   | nil=>rfl
 rw[az (Z':=[.va (.scr ns),.va (.int (a:Nat)),.va (eS P),.va row,.va (cx P f),.ow (.dct (Q.map en) (Q.map λv=> .int (t v))),.va (.int (k:Nat)),.va (en v),.va (.lst (hi.map .int)),.va (.lst (lo.map .int)),.va (.int (lY lo hi)),s11]) (bS e10 rfl)]
 have e11:(pU (tb (o2 k9 (vr 8) (cV ag))) (cl m4 (ad (vr 8) ag)) (o2 aH (vr 10) (cn (.int 5)))) [.va (.scr ns),.va (.int (a:Nat)),.va (eS P),.va row,.va (cx P f),.ow (.dct (Q.map en) (Q.map λv=> .int (t v))),.va (.int (k:Nat)),.va (en v),.va (.lst (hi.map .int)),.va (.lst (lo.map .int)),.va (.int (lY lo hi)),s11] = .ok (.int (vZ lo hi)):=by
  rw[nM (cr (aD (t:=.lst (hi.map .int)) (u:=.lst []) rfl (nil_ _) (pf hi)))]
  cases hi with
  | cons x l=>exact bh (ts:=[.lst ((x::l).map .int)]) rfl (qZ x l)
  | nil=>rfl
 rw[az (Z':=[.va (.scr ns),.va (.int (a:Nat)),.va (eS P),.va row,.va (cx P f),.ow (.dct (Q.map en) (Q.map λv=> .int (t v))),.va (.int (k:Nat)),.va (en v),.va (.lst (hi.map .int)),.va (.lst (lo.map .int)),.va (.int (lY lo hi)),.va (.int (vZ lo hi))]) (bS e11 rfl)]
 obtain⟨r,er,r0,r1⟩:=dq ns (a+k) (vZ lo hi - lY lo hi+1) hn (by omega)
 refine⟨lY lo hi+r,.va (.lst (hi.map .int)),.va (.lst (lo.map .int)),.va (.int (lY lo hi)),.va (.int (vZ lo hi)),fm (by omega) (by omega),?_⟩
 have pv:o2 aH (vr 10) (cl aw (ad (vr 0) (ad (o2 aH (vr 1) (vr 6)) (ad (o2 aH (o2 bH (vr 11) (vr 10)) (cn (.int 1))) ag)))) [.va (.scr ns),.va (.int (a:Nat)),.va (eS P),.va row,.va (cx P f),.ow (.dct (Q.map en) (Q.map λv=> .int (t v))),.va (.int (k:Nat)),.va (en v),.va (.lst (hi.map .int)),.va (.lst (lo.map .int)),.va (.int (lY lo hi)),.va (.int (vZ lo hi))] = .ok (.int (lY lo hi+r)):=
  aD (t:=.int (lY lo hi)) (u:=.int r) rfl (bh (ts:=[.scr ns,.int ((a+k:Nat):Int),.int (vZ lo hi - lY lo hi+1)]) (aq rfl (aq (aD (t:=.int (a:Nat)) (u:=.int (k:Nat)) rfl rfl rfl) (aq (aD (t:=.int (vZ lo hi - lY lo hi)) (u:=.int 1) (aD (t:=.int (vZ lo hi)) (u:=.int (lY lo hi)) rfl rfl rfl) rfl rfl) rfl))) er) rfl
 have mp:(Q.map λv=>T.int (t v))=Q.map λu=> .int (if u=v then lY lo hi+r else t u):=List.map_congr_left λu hu=>by rw[if_neg (show ¬u=v from λz=>hq (z▸hu))]
 rw[Ey rfl pv rfl (a9 v) (by rw[List.length_map];omega),ik _ _ _ _ hq,mp]
 rw[List.map_append,List.map_append]
 show Rs.ok (Fl.nx [_,_,_,_,_,.ow (.dct (Q.map en++ [en v]) ((Q.map λu=>T.int (if u=v then lY lo hi+r else t u))++ [.int (lY lo hi+r)])),_,_,_,_,_,_])=Rs.ok (Fl.nx [_,_,_,_,_,.ow (.dct (Q.map en++ [en v]) ((Q.map λu=>T.int (if u=v then lY lo hi+r else t u))++ [.int (if v=v then lY lo hi+r else t v)])),_,_,_,_,_,_])
 rw[if_pos rfl]
theorem AE (hn:ns.length<=63)(n:gq L)(F:mM L P f)(pl:P.length<=16)(a:Nat)(row:T):∀(rest Q:List N2) (t:N2->Int) (k:Nat) (s6 s7 s8 s9 s10 s11:Sl),(Q++rest).Nodup->(∀u∈Q++rest,u∈P)->(Q++rest).length<=16->Bj f Q t->∃t' b6 b7 b8 b9 b10 b11,Bj f (Q++rest) t' ∧
  aW (gT 2 (cT (gN 6) (cT (gN 7) iO))) DW (a7 k (rest.map en)) [.va (.scr ns),.va (.int (a:Nat)),.va (eS P),.va row,.va (cx P f),.ow (.dct (Q.map en) (Q.map λv=> .int (t v))),s6,s7,s8,s9,s10,s11] = .ok (.nx [.va (.scr ns),.va (.int (a:Nat)),.va (eS P),.va row,.va (cx P f),.ow (.dct ((Q++rest).map en) ((Q++rest).map λv=> .int (t' v))),b6,b7,b8,b9,b10,b11]):=by
 intro rest
 induction rest with
 | nil=>
  intro Q t k s6 s7 s8 s9 s10 s11 _ _ _ h;refine⟨t,s6,s7,s8,s9,s10,s11,by rw[List.append_nil];exact h,?_⟩
  rw[List.append_nil]
  rfl
 | cons v rest ih=>
  intro Q t k s6 s7 s8 s9 s10 s11 nd hP hl h
  have hq:v∉Q:=λz=>by
   rw[List.nodup_append]at nd;exact nd.2.2 v z v List.mem_cons_self rfl
  have asc:Q++v::rest=Q++ [v] ++rest:=by rw[List.append_assoc];rfl
  obtain⟨x,b8,b9,b10,b11,h1,e1⟩:=AD (ns:=ns) hn n F pl (hP v (List.mem_append_right _ List.mem_cons_self)) hq (λu hu=>hP u (List.mem_append_left _ hu)) (by rw[List.length_append]at hl;omega) h a k row s8 s9 s10 s11
  rw[asc]at nd hP hl ⊢;obtain⟨t',c6,c7,c8,c9,c10,c11,h2,e2⟩:=ih (Q++ [v]) _ (k+1) (.va (.int (k:Nat))) (.va (en v)) b8 b9 b10 b11 nd hP hl h1;refine⟨t',c6,c7,c8,c9,c10,c11,h2,?_⟩
  rw[List.map_cons,a7,cR (Z1:=[.va (.scr ns),.va (.int (a:Nat)),.va (eS P),.va row,.va (cx P f),.ow (.dct (Q.map en) (Q.map λv=> .int (t v))),.va (.int (k:Nat)),.va (en v),s8,s9,s10,s11]) rfl e1,e2]
theorem rF (hn:ns.length<=63)(n:gq L)(F:mM L P f)(pl:P.length<=16)(nd:P.Nodup)(hL:∀x∈L,x.1∈P/\x.2.1∈P)(a:Nat)(row:T):∃t,Holds L t/\bR [.scr ns,.int (a:Nat),eS P,row,cx P f] = .ok (bj P t):=by
 obtain⟨t,b6,b7,b8,b9,b10,b11,h,e⟩:=AE (ns:=ns) hn n F pl a row P [] (λ_=>0) 0 .em .em .em .em .em .em (by simpa using nd) (λu hu=>by simpa using hu) (by simpa using pl) (λu hu=>by cases hu)
 rw[List.nil_append]at h e;refine⟨t,λu v m hm=> ?_,cq rfl ?_⟩
 ·have hp:=hL _ hm
  obtain⟨d,hd,hle⟩:=F.le u hp.1 v m (Wk.one hm)
  have:=h u hp.1 v hp.2 d hd;omega
 ·show bW [.va (.scr ns),.va (.int (a:Nat)),.va (eS P),.va row,.va (cx P f),.em,.em,.em,.em,.em,.em,.em] =_
  unfold bW;rw[az (Z':=[.va (.scr ns),.va (.int (a:Nat)),.va (eS P),.va row,.va (cx P f),.ow (.dct [] []),.em,.em,.em,.em,.em,.em]) rfl];refine(az (dM (uj (l:=P.map en) rfl) e)).trans ?_
  refine df (bh (ts:=[.lst (P.map λv=> .int (t v))]) (aq (CW (o:=.dct (P.map en) (P.map λv=> .int (t v))) rfl ?_ ?_) rfl) jW)
  ·refine(rk (ts:=P.map en) (h:=atT t) (ui rfl) (au (k:=16) (by rw[List.length_map];exact pl)) (by simp) λu0 hu0=> ?_).trans (by rw[List.map_map];rfl)
   obtain⟨u,hu,rfl⟩:=List.mem_map.mp hu0;exact sS (Q:=P) (t:=t) (v:=u) rfl rfl hu
  ·have:(P.map λv=>T.int (t v))=(P.map t).map .int:=by rw[List.map_map];rfl
   rw[this];exact o9 _
end
theorem Dj {l:List T}{n:Nat}{f:En->Rs T}{g:En->Rs T}{Z:En}(h:f Z= .ok (.tup l))(hg:g Z= .ok (.int n)):sl f pN (pS g) Z= .ok (.tup (l.take n)):=by
 rw[<-yB];exact Ew h rfl (CQ hg)
theorem Dk {l:List T}{n:Nat}{f:En->Rs T}{g:En->Rs T}{Z:En}(h:f Z= .ok (.tup l))(hg:g Z= .ok (.int n)):sl f (pS g) pN Z= .ok (.tup (l.drop n)):=by
 rw[<-rN];exact Ew h (CQ hg) rfl
theorem AH {l:List T}{n:Nat}{f:En->Rs T}{g:En->Rs T}{Z:En}(h:f Z= .ok (.tup l))(hg:g Z= .ok (.int n)):sl f (pS (o2 aH g (cn (.int 1)))) pN Z= .ok (.tup (l.drop (n+1))):=
 Dk h (aD (t:=.int n) (u:=.int 1) hg rfl rfl)
def oH (l:List T)(n:Nat)(c:T):List T:=(l.take n++ [c])++l.drop (n+1)
theorem zQ (l:List T)(n:Nat)(c:T):(oH l n c).length<=l.length+1:=by unfold oH;rw[List.length_append,List.length_append,List.length_take,List.length_drop];simp;omega
theorem CP {l:List T}{n:Nat}{c:T}{f g h:En->Rs T}{Z:En}(hl:l.length<=100)(hf:f Z= .ok (.tup l))(hg:g Z= .ok (.int n))(hc:h Z= .ok c) :
  o2 aH (o2 aH (sl f pN (pS g)) (ba (ad h ag))) (sl f (pS (o2 aH g (cn (.int 1)))) pN) Z= .ok (.tup (oH l n c)):=by
 have:=zQ l n c;refine aD (t:=.tup (l.take n++ [c])) (u:=.tup (l.drop (n+1))) (aD (t:=.tup (l.take n)) (u:=.tup [c]) (Dj hf hg) (cC (aq hc rfl) (au (k:=1) (by simp))) (pO _ _ (by simp;omega))) (AH hf hg) (pO _ _ (by unfold oH at this;omega))
theorem yF {u:T}:∀{cs:List T} {i:Nat},u∈bC i cs->∃j c,cs[j]? =some c/\u∈xB (i+j) c
 | [],i,h=>by simp[bC]at h
 | c::cs,i,h=>by
  rw[bC,List.mem_append]at h;rcases h with h | h
  ·exact⟨0,c,rfl,h⟩
  ·obtain⟨j,d,e,hd⟩:=yF h
   exact⟨j+1,d,e,by rw[show i+(j+1)=i+1+j by omega];exact hd⟩
def Hd (cs ls:List T)(t:N2->Int):Prop:=∀x,eB x∈yR cs ls->hB t x=true
theorem pG {x y:N2×N2×Int}(h:eB x=eB y):x=y:=by
 obtain⟨a,b,m⟩:=x;obtain⟨a',b',m'⟩:=y;unfold eB at h
 have h':=T.tup.inj h;simp only[List.cons.injEq,T.int.injEq,and_true]at h';rw[sP h'.1,sP h'.2.1,h'.2.2]
theorem wb {x:T}{c:T}:∀{cs:List T} {i j:Nat},cs[j]? =some c->x∈xB (i+j) c->x∈bC i cs
 | [],i,j,e,_=>by simp at e
 | c'::cs,i,0,e,h=>by
  simp only[List.getElem?_cons_zero,Option.some.injEq]at e
  subst e
  exact List.mem_append_left _ h
 | c'::cs,i,j+1,e,h=>by
  rw[List.getElem?_cons_succ]at e
  exact List.mem_append_right _ (wb (i:=i+1) e (by rw[show i+1+j=i+(j+1)by omega];exact h))
section
variable {cs ls:List T}{L:bx N2}{P:List N2}
theorem Rd.hd (R:Rd cs ls L P){t:N2->Int}:L.all (hB t)=true↔Hd cs ls t:=by
 rw[List.all_eq_true];refine⟨λh x hx=> ?_,λh x hx=>h x (by rw[R.b];exact List.mem_map.mpr ⟨x,hx,rfl⟩)⟩
 rw[R.b]at hx;obtain⟨y,hy,e⟩:=List.mem_map.mp hx;rw[<-pG e];exact h y hy
end
def ck (x y:Int)(r:List Int):T:=.tup [.int x,.int y,.tup (r.map .int)]
theorem tM {l:List T}{n:Nat}{c:T}(hn:n<l.length)(j:Nat):(oH l n c)[j]? =if j=n then some c else l[j]?:=by
 unfold oH
 have hl:(l.take n).length=n:=by rw[List.length_take];omega
 by_cases hj:j=n
 ·rw[if_pos hj,hj,List.append_assoc,List.getElem?_append_right (by omega),hl,Nat.sub_self];rfl
 ·rw[if_neg hj]
  rcases Nat.lt_or_gt_of_ne hj with h | h
  ·rw[List.append_assoc,List.getElem?_append_left (by omega),List.getElem?_take_of_lt h]
  ·rw[List.getElem?_append_right (by rw[List.length_append,hl];simp;omega),List.length_append,hl,List.getElem?_drop]
   congr 1
   simp only[List.length_cons,List.length_nil];omega
theorem dw {l:List T}{n:Nat}{c:T}(h:l[n]? =some c):oH l n c=l:=by
 have hn:=(List.getElem?_eq_some_iff.mp h).1
 refine List.ext_getElem? λj=> ?_
 rw[tM hn]
 by_cases hj:j=n
 ·rw[if_pos hj,hj,h]
 ·rw[if_neg hj]
theorem BJ (x y:Int)(r:List Int):tK (ck x y r)=r.length:=by show(r.map T.int).length=_;rw[List.length_map]
theorem rQ {x y:Int}{r:List Int}(h:bi (ck x y r)=true):(1<=x/\x<=y/\y<=9)/\bZ (.tup (r.map .int))=true:=by
 have h':(lO (.int x) (.int y)&&bZ (.tup (r.map .int)))=true:=h;rw[Bool.and_eq_true]at h'
 have hp:(a8 (.int x) 1 9&&a8 (.int y) x 9)=true:=h'.1;rw[Bool.and_eq_true]at hp;obtain⟨i,e,a,b⟩:=cH hp.1;cases e;obtain⟨i,e,a',b'⟩:=cH hp.2;cases e;exact⟨⟨a,a',b'⟩,h'.2⟩
section
variable {cs ls:List T}{L:bx N2}{P:List N2}
theorem rz {v:N2}:∀{Q:List N2} {n:Nat},v∈Q->∃k,Q[k]? =some v/\fH (en v) (Q.map en) n=some (n+k)/\∀j,j<k->Q[j]? ≠some v
 | [],n,h=>by cases h
 | u::Q,n,h=>by
  rw[List.map_cons,fH]
  by_cases hu:u=v
  ·subst hu
   have:aR (en u) (en u)=true:=fL _ rfl;rw[if_pos this];exact⟨0,rfl,rfl,λj hj=>by omega⟩
  ·have hb:aR (en u) (en v)=false:=by
    cases q:aR (en u) (en v)with
    | false=>rfl
    | true=>
     exfalso
     apply hu
     unfold en at q;simp[aR,beqTs]at q;exact N2.ext' q.1 q.2
   rw[if_neg (by rw[hb];decide)]
   rcases List.mem_cons.mp h with rfl | h
   ·exact absurd rfl hu
   ·obtain⟨k,e1,e2,e3⟩:=rz (n:=n+1) h
    refine⟨k+1,e1,by rw[e2];congr 1;omega,λj hj=> ?_⟩
    cases j with
    | zero=>simp[hu]
    | succ j=>exact e3 j (by omega)
theorem nH {v:N2}{Q:List N2}(h:v∈Q):∃k,Q[k]? =some v/\cm (eS Q) (en v)= .ok (.int (k:Nat))/\∀j,j<k->Q[j]? ≠some v:=by
 obtain⟨k,e1,e2,e3⟩:=rz (n:=0) h;refine⟨k,e1,?_,e3⟩
 show(if ((en v).dep<=60\/deps (Q.map en)<=60)/\(en v).nd=true/\nds (Q.map en)=true then(match fH (en v) (Q.map en) 0 with | some n=>Rs.ok (T.int n) | none=> .bad)else .bad)=_
 have hnd:nds (Q.map en)=true:=by
  have:(T.lst (Q.map en)).nd=true:=T.pl_nd _ (by unfold T.pl;exact j4 λu hu=>by obtain⟨k,_,rfl⟩:=List.mem_map.mp hu;rfl)
  exact this
 rw[if_pos ⟨.inl (by simp[en,T.dep,deps]),rfl,hnd⟩,e2,Nat.zero_add]
end
section
variable {cs ls:List T}{L:bx N2}{P:List N2}{t t1 t2 t0:N2->Int}
def adT (m:Int)(u:T):T:=match u with
 | .int i=> .int (i+m)
 | _=> .non
theorem CG {fi:En->Rs (List T)}{j:Nat}{Z:En}(t:N2->Int)(m:Int)(h:fi Z= .ok (P.map λv=> .int (t v)))(hl:P.length<=16)(hj:Z[j]? =some (.va (.int m))):dP fi [none,some j] (gN 0) bT (o2 aH (vr 0) (vr 1)) Z= .ok (.lst (P.map λv=> .int (t v+m))):=by
 rw[rk (h:=adT m) h (au (k:=16) (by rw[List.length_map];exact hl)) (by simp) λu hu=>by
  obtain⟨v,_,rfl⟩:=List.mem_map.mp hu;refine aD (t:=.int (t v)) (u:=.int m) rfl ?_ rfl
  unfold bp;simp only[List.map_cons,List.map_nil,hj]
  rfl,List.map_map]
 rfl
theorem Rd.moved (R:Rd cs ls L P){t:N2->Int}(h:L.all (hB t)=true)(m:Int):dG [(.tup [.tup cs,.tup ls]),bj P t,.int m] = .ok (bj P λv=>t v+m):=by
 refine cq rfl ?_
 show gd [.va (.tup [.tup cs,.tup ls]),.va (bj P t),.va (.int m)] =_
 unfold gd;rw[az (Z':=[.va (.tup [.tup cs,.tup ls]),.va (bj P t),.va (.int m)]) ((fg (nK (k:=true) (cr (bh (ts:=[(.tup [.tup cs,.tup ls]),bj P t]) rfl (by rw[R.isw,h]))))).trans rfl)]
 exact df (bh (aq (CG t m (CZ rfl) R.pl rfl) rfl) jW)
theorem ie (h:Holds L t)(m:Int):Holds L (λv=>t v+m):=λa b k hx=>by
 have:=h a b k hx
 show t b+m - (t a+m)<=k
 omega
theorem vB (h1:Holds L t1)(h2:Holds L t2):Holds L (λv=>dX (t1 v) [t2 v]):=λa b k hx=>by
 have:=h1 a b k hx
 have:=h2 a b k hx
 show(if t1 b<t2 b then t2 b else t1 b) - (if t1 a<t2 a then t2 a else t1 a)<=k
 split <;> split <;> omega
theorem vA (h1:Holds L t1)(h2:Holds L t2):Holds L (λv=>dW (t1 v) [t2 v]):=λa b k hx=>by
 have:=h1 a b k hx
 have:=h2 a b k hx
 show(if t2 b<t1 b then t2 b else t1 b) - (if t2 a<t1 a then t2 a else t1 a)<=k
 split <;> split <;> omega
theorem uT {b:bX N2}(S:Settled L P b)(hb:∀v∈P,∃w,b v=some (t0 v,w))(h:Holds L t)(h0:∀v∈P,t v<=0){v:N2}(hv:v∈P):t v<=t0 v:=by
 obtain⟨w,e⟩:=hb v hv;obtain⟨s,hs,g1,g2,_⟩:=S.walk v _ _ e
 have wk:Wk L s v (t0 v):=g2▸g1.wk
 have:=h.walk wk
 have:=h0 s hs;omega
theorem wc {b:bX N2}(S:Settled L P b)(hb:∀v∈P,∃w,b v=some (t0 v,w)){v:N2}(hv:v∈P):t0 v<=0:=by
 obtain⟨w,e⟩:=hb v hv;obtain⟨d,w',e',hd⟩:=S.least v hv v 0 (.nil v);rw[e]at e';cases e';exact hd
theorem xy (hp:0<P.length)(t:N2->Int):∃M,vk [bj P t] = .ok (.int M)/\(∀v∈P,t v<=M)/\∃v∈P,t v=M:=by
 cases P with
 | nil=>simp at hp
 | cons v P=>
  refine⟨dX (t v) (P.map t),?_,λu hu=> ?_,?_⟩
  ·have:((v::P).map λv=>T.int (t v))=((t v::P.map t).map T.int):=by rw[List.map_cons,List.map_cons,List.map_map];rfl
   unfold bj;rw[this];exact q0 _ _
  ·obtain⟨a,b⟩:=pk (P.map t) (t v)
   rcases List.mem_cons.mp hu with rfl | hu
   ·exact a
   ·exact b _ (List.mem_map.mpr ⟨u,hu,rfl⟩)
  ·rcases lZ (P.map t) (t v)with h | h
   ·exact⟨v,List.mem_cons_self,h.symm⟩
   ·obtain⟨u,hu,e⟩:=List.mem_map.mp h
    exact⟨u,List.mem_cons_of_mem _ hu,e⟩
def two (f:Int->Int->Int)(u:T):T:=match u with
 | .tup [.int i,.int j] => .int (f i j)
 | _=> .non
theorem xE {fs:En->Rs (List T)}{Z:En}{g:List T->Rs T}{f:Int->Int->Int}(h:fs Z= .ok [bj P t1,bj P t2])(hl:P.length<=16)(hg:∀i j,g [.int i,.int j] = .ok (.int (f i j))) :
  cl eC (ad (dP (iZ fs) [none,none] (gT 2 (cT (gN 0) (cT (gN 1) iO))) bT (cl g (ad (vr 0) (ad (vr 1) ag)))) ag) Z= .ok (bj P λv=>f (t1 v) (t2 v)):=by
 have hz:iZ fs Z= .ok (P.map λv=> .tup [.int (t1 v),.int (t2 v)]):=by
  unfold iZ;rw[h]
  show Rs.ok (((P.map λv=>T.int (t1 v)).zip (P.map λv=>T.int (t2 v))).map λp=>T.tup [p.1,p.2])=_
  rw[List.zip_map',List.map_map]
  rfl
 refine bh (ts:=[.lst (P.map λv=> .int (f (t1 v) (t2 v)))]) (aq ?_ rfl) jW
 have q:=jk (g:=gT 2 (cT (gN 0) (cT (gN 1) iO))) (fc:=bT) (fe:=cl g (ad (vr 0) (ad (vr 1) ag))) (p:=λ_=>true) (h:=two f) (λZ=> ∃a b,Z= [a,b]) (P.map λv=> .tup [.int (t1 v),.int (t2 v)]) (bp [none,none] Z) ⟨_,_,rfl⟩ λu hu Z' hI=>by
  obtain⟨v,_,rfl⟩:=List.mem_map.mp hu;obtain⟨a,b,rfl⟩:=hI;exact⟨[.va (.int (t1 v)),.va (.int (t2 v))],rfl,⟨_,_,rfl⟩,rfl,bh (ts:=[.int (t1 v),.int (t2 v)]) rfl (hg _ _)⟩
 unfold dP;rw[hz,ax,if_pos (au (k:=16) (by rw[List.length_map];exact hl)),q,List.filter_eq_self.mpr (λ_ _=>rfl),List.map_map]
 rfl
theorem tI:∀{r:List Int} {k:Nat},kQ r=true->k+1<r.length->1<=dr r k
 | [],k,_,h=>by simp at h
 | [a],k,_,h=>by simp at h
 | a::b::r,0,h,_=>by
  rw[zr,Bool.and_eq_true]at h
  have:=of_decide_eq_true h.1
  show 1<=b - a
  omega
 | a::b::r,k+1,h,hk=>by
  rw[zr,Bool.and_eq_true]at h;exact tI (r:=b::r) (k:=k) h.2 (by simpa using hk)
theorem u4 {r:List Int}(hr:bZ (.tup (r.map .int))=true):kQ r=true:=by
 unfold bZ at hr;rw[Bool.and_eq_true]at hr
 have hr2:(((r.map T.int).all λu=>a8 u 0 99)&&(match jg (r.map .int)with | some m=>kQ m | none=>false))=true:=hr.2
 rw[Bool.and_eq_true,jJ]at hr2;exact hr2.2
theorem mt {i n k:Nat}(h:k<n):(jm i n)[k]? =some (.tup [.int i,.int k]):=by
 unfold jm;rw[jD,List.map_map,List.getElem?_map,List.getElem?_range h]
 rfl
theorem yg:∀{cs:List T} {i:Nat} {u:T},u∈dN i cs->∃c k:Int,u= .tup [.int c,.int k]/\(i:Int)<=c
 | [],i,u,h=>by cases h
 | c::cs,i,u,h=>by
  rw[dN]at h;rcases List.mem_append.mp h with h | h
  ·unfold jm at h
   rw[jD,List.map_map]at h;obtain⟨k,_,rfl⟩:=List.mem_map.mp h;exact⟨i,k,rfl,Int.le_refl _⟩
  ·obtain⟨c',k,e,hc⟩:=yg h
   exact⟨c',k,e,by omega⟩
theorem rA:∀{cs:List T} {i k:Nat} {c j j':Int},(dN i cs)[k]? =some (.tup [.int c,.int j])->(dN i cs)[k+1]? =some (.tup [.int c,.int j'])->j'=j+1
 | [],i,k,c,j,j',h,_=>by simp[dN]at h
 | x::cs,i,k,c,j,j',h,h'=>by
  rw[dN]at h h'
  have hl:=fZ i (tK x)
  by_cases h1:k+1<tK x
  ·rw[List.getElem?_append_left (by omega),mt (by omega)]at h
   rw[List.getElem?_append_left (by omega),mt h1]at h'
   simp only[Option.some.injEq,T.tup.injEq,List.cons.injEq,T.int.injEq,and_true]at h h';omega
  ·by_cases h2:k<tK x
   ·rw[List.getElem?_append_left (by omega),mt h2]at h
    rw[List.getElem?_append_right (by omega)]at h'
    obtain⟨c',k',e,hc⟩:=yg (List.mem_of_getElem? h');simp only[Option.some.injEq,T.tup.injEq,List.cons.injEq,T.int.injEq,and_true]at h e;omega
   ·rw[List.getElem?_append_right (by omega),hl]at h
    rw[List.getElem?_append_right (by omega),hl,show k+1 - tK x=k - tK x+1 by omega]at h'
    exact rA h h'
theorem Rd.rise (R:Rd cs ls L P)(ht:Hd cs ls t){k:Nat}{u v:N2}(h1:P[k]? =some u)(h2:P[k+1]? =some v)(hc:u.c=v.c):t u<t v:=by
 have hu:=R.ev (List.mem_of_getElem? h1)
 have hv:=R.ev (List.mem_of_getElem? h2)
 have g1:(dN 0 cs)[k]? =some (.tup [.int v.c,.int u.k]):=by rw[R.e,List.getElem?_map,h1,<-hc];rfl
 have g2:(dN 0 cs)[k+1]? =some (.tup [.int v.c,.int v.k]):=by rw[R.e,List.getElem?_map,h2];rfl
 have hk:=rA g1 g2
 have hu':((decide (0<=u.c)&&decide (u.c<cs.length))&&(decide (0<=u.k)&&decide (u.k<reads cs u.c)))=true:=hu
 have hv':((decide (0<=v.c)&&decide (v.c<cs.length))&&(decide (0<=v.k)&&decide (v.k<reads cs v.c)))=true:=hv;simp only[Bool.and_eq_true,decide_eq_true_iff]at hu' hv';obtain⟨⟨c0,c1⟩,k0,_⟩:=hu';obtain⟨_,_,kv⟩:=hv';obtain⟨n,hn⟩:=Int.eq_ofNat_of_zero_le c0;obtain⟨j,hj⟩:=Int.eq_ofNat_of_zero_le k0
 have nl:n<cs.length:=by omega
 have hcl:=(bU R.g.c).1 _ (List.getElem_mem nl);obtain⟨x,y,r,e,_⟩:=eG hcl
 have ec:cs[n]? =some (ck x y r):=by rw[List.getElem?_eq_getElem nl,e];rfl
 have hck:bi (ck x y r)=true:=by rw[e]at hcl;exact hcl
 obtain⟨⟨x1,_,_⟩,hr⟩:=rQ hck;rw[<-hc,hn,jZ,List.getD_eq_getElem?_getD,ec]at kv
 have kv':v.k<((tK (ck x y r):Nat):Int):=kv;rw[BJ]at kv'
 have d1:=tI (u4 hr) (k:=j) (by omega)
 have hb:=ht (⟨n,((j+1:Nat):Int)⟩,⟨n,j⟩,-dr r j*x) (List.mem_append_left _ (wb (i:=0) (j:=n) ec (by
  rw[Nat.zero_add];unfold ck;rw[kB];exact List.mem_flatMap.mpr ⟨j,List.mem_range.mpr (by omega),by unfold pr;exact List.mem_cons_of_mem _ List.mem_cons_self⟩)))
 have hb':=of_decide_eq_true hb
 dsimp only at hb'
 have eu:(⟨n,j⟩:N2)=u:=N2.ext' hn.symm hj.symm
 have ev:(⟨n,((j+1:Nat):Int)⟩:N2)=v:=N2.ext' (by show(n:Int)=v.c;rw[<-hc];exact hn.symm) (by show((j+1:Nat):Int)=v.k;omega)
 rw[eu,ev,Int.neg_mul]at hb'
 have m:(1:Int)*1<=dr r j*x:=Int.mul_le_mul d1 x1 (by omega) (by omega)
 omega
theorem Do (g:Good cs ls){x:N2×N2×Int}(h:eB x∈yR cs ls):x.1≠x.2.1:=by
 unfold yR at h;rcases List.mem_append.mp h with h | h
 ·obtain⟨j,c,hj,hu⟩:=yF h
  rw[Nat.zero_add]at hu;obtain⟨x',y',r,e,_⟩:=eG ((bU g.c).1 _ (List.mem_of_getElem? hj));subst e;rw[kB]at hu;obtain⟨k,_,hu⟩:=List.mem_flatMap.mp hu;unfold pr at hu;simp only[List.mem_cons,List.not_mem_nil,or_false]at hu;rcases hu with hu | hu
  ·have:=pG (y:=(⟨j,k⟩,⟨j,((k+1:Nat):Int)⟩,dr r k*y')) hu
   subst this;intro z
   have:=congrArg N2.k z
   dsimp only at this
   omega
  ·have:=pG (y:=(⟨j,((k+1:Nat):Int)⟩,⟨j,k⟩,-dr r k*x')) hu
   subst this;intro z
   have:=congrArg N2.k z
   dsimp only at this
   omega
 ·obtain⟨u,hu,hx⟩:=List.mem_flatMap.mp h
  have hl:=g.l u hu;obtain⟨a,b,p,q,rfl,_,ha,hb,hne⟩:=gE hl;obtain⟨c1,k1,rfl⟩:=dg ha;obtain⟨c2,k2,rfl⟩:=dg hb
  have nn:(⟨c1,k1⟩:N2)≠⟨c2,k2⟩:=λz=>by
   cases z;rw[fL _ rfl]at hne;cases hne
  obtain⟨a',b',mo,le,e,_⟩:=hW hl;simp only[T.tup.injEq,List.cons.injEq,and_true]at e;obtain⟨rfl,rfl,rfl,rfl⟩:=e
  have hx':eB x∈T.tup [.tup [.int c2,.int k2],.tup [.int c1,.int k1],.int (-le)] ::(if q.isN then []else [.tup [.tup [.int c1,.int k1],.tup [.int c2,.int k2],q]]):=hx
  rcases List.mem_cons.mp hx' with h | h
  ·have:=pG (y:=(⟨c2,k2⟩,⟨c1,k1⟩,-le)) h
   subst this;exact λz=>nn z.symm
  ·split at h
   ·cases h
   ·have h:=List.mem_singleton.mp h
    unfold eB en at h;simp only[T.tup.injEq,List.cons.injEq,T.int.injEq,and_true]at h;intro z
    apply nn
    obtain⟨⟨q1,q2⟩,⟨q3,q4⟩,_⟩:=h;exact N2.ext' (by show c1=c2;rw[<-q1,<-q3,z]) (by show k1=k2;rw[<-q2,<-q4,z])
end
section
variable {cs ls:List T}{L:bx N2}{P:List N2}{ns:List Int}{t:N2->Int}
theorem Bt {j:Nat}{u:N2}{z:Int}(nd:P.Nodup)(h:P[j]? =some u):oH (P.map λv=>T.int (t v)) j (.int z)=P.map λv=>T.int (if v=u then z else t v):=by
 have hj:=(List.getElem?_eq_some_iff.mp h).1
 refine List.ext_getElem? λi=> ?_
 rw[tM (by rw[List.length_map];exact hj),List.getElem?_map,List.getElem?_map]
 by_cases hi:i=j
 ·rw[if_pos hi,hi,h]
  show _=some (T.int (if u=u then z else t u))
  rw[if_pos rfl]
 ·rw[if_neg hi]
  cases q:P[i]? with
  | none=>rfl
  | some w=>
   have:w≠u:=λe=>hi ((List.getElem?_inj (List.getElem?_eq_some_iff.mp q).1 nd).mp (by rw[q,h,e]))
   show some (T.int (t w))=some (T.int (if w=u then z else t w))
   rw[if_neg this]
theorem rC {u:T}:∀{l:List T} {i k:Nat},l[k]? =some u->.tup [.int ((i+k:Nat):Int),u] ∈a7 i l
 | [],i,k,h=>by simp at h
 | a::l,i,0,h=>by
  simp only[List.getElem?_cons_zero,Option.some.injEq]at h
  subst h;rw[a7]
  exact List.mem_cons_self
 | a::l,i,k+1,h=>by
  rw[a7]
  have:=rC (i:=i+1) (k:=k) (by simpa using h)
  rw[show i+(k+1)=i+1+k by omega]
  exact List.mem_cons_of_mem _ this
theorem AJ {k:Nat}{x:N2×N2×Int}(h:L[k]? =some x)(hb:hB t x=false):T.int (k:Nat)∈m8 t L:=by
 unfold m8
 have m:=rC (i:=0) (k:=k) (l:=L.map eB) (u:=eB x) (by rw[List.getElem?_map,h];rfl)
 rw[Nat.zero_add]at m;exact List.mem_map.mpr ⟨_,List.mem_filter.mpr ⟨m,by rw[sX,hb];rfl⟩,rfl⟩
theorem vf {k:Nat}(h:T.int (k:Nat)∈m8 t L):jh (.int (k:Nat)) (.lst (m8 t L))= .ok (.bl false):=by
 have hp:(T.lst (m8 t L)).pl=true:=by
  unfold T.pl;exact j4 λu hu=>by obtain⟨k,rfl⟩:=uH hu;rfl
 have ha:io (.int (k:Nat)) (m8 t L)=true:=List.any_eq_true.mpr ⟨_,h,fL _ rfl⟩
 show(if ((T.int (k:Nat)).dep<=60\/deps (m8 t L)<=60)/\(T.int (k:Nat)).nd=true/\(T.lst (m8 t L)).nd=true then Rs.ok (T.bl (!io (.int (k:Nat)) (m8 t L)))else .bad)=_
 rw[if_pos ⟨.inl (by simp[T.dep]),rfl,T.pl_nd _ hp⟩,ha]
 rfl
theorem p9 {i:Nat}{v:N2}(hi:P[i]? =some v){a b:En->Rs T}{Z:En}(ha:a Z= .ok (bj P t))(hb:b Z= .ok (.int (i:Nat))):o2 aP a b Z= .ok (.int (t v)):=
 vq (n:=i) (l:=P.map λv=>T.int (t v)) ha hb (by rw[List.getElem?_map,hi];rfl)
abbrev WE:En->Rs Fl:=(ar (ce (oL cm (vr 2) (vr 15)) (gN 17)) (ar (ce (o2 aH (o2 aH (o2 aP (vr 10) (oL cm (vr 2) (vr 14))) (vr 16)) (cn (.int 1))) (gN 18)) (ar (ce (o2 aH (o2 aH (sl (vr 10) pN (pS (vr 17))) (ba (ad (vr 18) ag))) (sl (vr 10) (pS (o2 aH (vr 17) (cn (.int 1)))) pN)) (gN 19)) (eE (tb (o2 jh (vr 13) (cl cK (ad (vr 1) (ad (vr 19) ag))))) (aM (cn (.bl false))) sN))))
theorem Rd.we (R:Rd cs ls L P){k:Nat}{x:N2×N2×Int}(hk:L[k]? =some x)(s4 s5 s6 s7 s8 s9 s11 s12 s17 s18 s19:Sl):∃a17 a18 a19,WE [.va (.scr ns),.va (.tup [.tup cs,.tup ls]),.va (eS P),.va (eL L),s4,s5,s6,s7,s8,s9,.va (bj P t),s11,s12,.va (.int (k:Nat)),.va (en x.1),.va (en x.2.1),.va (.int x.2.2),s17,s18,s19] = .ok (.nx [.va (.scr ns),.va (.tup [.tup cs,.tup ls]),.va (eS P),.va (eL L),s4,s5,s6,s7,s8,s9,.va (bj P t),s11,s12,.va (.int (k:Nat)),.va (en x.1),.va (en x.2.1),.va (.int x.2.2),a17,a18,a19]):=by
 have hx:=List.mem_of_getElem? hk;obtain⟨p1,p2⟩:=R.f.ends _ hx
 have ne:=Do R.g (x:=x) (by rw[R.b];exact List.mem_map.mpr ⟨x,hx,rfl⟩)
 obtain⟨i,hi,li,_⟩:=nH p1;obtain⟨j,hj,lj,_⟩:=nH p2
 have hpl:=R.pl
 have hb:hB (λv=>if v=x.2.1 then t x.1+x.2.2+1 else t v) x=false:=by
  refine decide_eq_false ?_
  dsimp only
  rw[if_pos rfl,if_neg ne];omega
 have bk:=R.broken (λv=>if v=x.2.1 then t x.1+x.2.2+1 else t v)
 have ni:=vf (AJ hk hb)
 have ep:T.tup (oH (P.map λv=>T.int (t v)) j (.int (t x.1+x.2.2+1)))=bj P (λv=>if v=x.2.1 then t x.1+x.2.2+1 else t v):=by rw[Bt R.nd hj];rfl
 unfold WE;rw[az (Z':=[.va (.scr ns),.va (.tup [.tup cs,.tup ls]),.va (eS P),.va (eL L),s4,s5,s6,s7,s8,s9,.va (bj P t),s11,s12,.va (.int (k:Nat)),.va (en x.1),.va (en x.2.1),.va (.int x.2.2),.va (.int (j:Nat)),s18,s19]) (bS (CU (ks:=P.map en) rfl rfl lj) rfl)];rw[az (Z':=[.va (.scr ns),.va (.tup [.tup cs,.tup ls]),.va (eS P),.va (eL L),s4,s5,s6,s7,s8,s9,.va (bj P t),s11,s12,.va (.int (k:Nat)),.va (en x.1),.va (en x.2.1),.va (.int x.2.2),.va (.int (j:Nat)),.va (.int (t x.1+x.2.2+1)),s19]) (bS (aD (t:=.int (t x.1+x.2.2)) (u:=.int 1) (aD (t:=.int (t x.1)) (u:=.int x.2.2) (p9 hi rfl (CU (ks:=P.map en) rfl rfl li)) rfl rfl) rfl rfl) rfl)]
 rw[az (Z':=[.va (.scr ns),.va (.tup [.tup cs,.tup ls]),.va (eS P),.va (eL L),s4,s5,s6,s7,s8,s9,.va (bj P t),s11,s12,.va (.int (k:Nat)),.va (en x.1),.va (en x.2.1),.va (.int x.2.2),.va (.int (j:Nat)),.va (.int (t x.1+x.2.2+1)),.va (bj P λv=>if v=x.2.1 then t x.1+x.2.2+1 else t v)]) (bS ((CP (l:=P.map λv=>T.int (t v)) (n:=j) (c:=.int (t x.1+x.2.2+1)) (by rw[List.length_map];omega) rfl rfl rfl).trans (by rw[ep])) rfl)]
 revert bk ni
 generalize (bj P λv=>if v=x.2.1 then t x.1+x.2.2+1 else t v)=mr
 generalize m8 (λv=>if v=x.2.1 then t x.1+x.2.2+1 else t v) L=bl
 intro bk ni;exact⟨_,_,_,(fg (cr (aD (t:=.int (k:Nat)) (u:=.lst bl) rfl (bh (ts:=[(.tup [.tup cs,.tup ls]),mr]) rfl bk) ni))).trans rfl⟩
theorem ut {u:T}:∀{l:List T} {i:Nat},u∈a7 i l->∃k v,l[k]? =some v/\u= .tup [.int ((i+k:Nat):Int),v]
 | [],i,h=>by cases h
 | a::l,i,h=>by
  rw[a7]at h;rcases List.mem_cons.mp h with rfl | h
  ·exact⟨0,a,rfl,rfl⟩
  ·obtain⟨k,v,e1,e2⟩:=ut h
   exact⟨k+1,v,e1,by rw[e2,show i+1+k=i+(k+1)by omega]⟩
theorem Rd.wf (R:Rd cs ls L P)(s4 s5 s6 s7 s8 s9 s11 s12 s13 s14 s15 s16 s17 s18 s19:Sl):∃a13 a14 a15 a16 a17 a18 a19,(di (iE (ad (vr 3) ag)) (gT 2 (cT (gN 13) (cT (gT 3 (cT (gN 14) (cT (gN 15) (cT (gN 16) iO)))) iO))) (ar (ce (oL cm (vr 2) (vr 15)) (gN 17)) (ar (ce (o2 aH (o2 aH (o2 aP (vr 10) (oL cm (vr 2) (vr 14))) (vr 16)) (cn (.int 1))) (gN 18)) (ar (ce (o2 aH (o2 aH (sl (vr 10) pN (pS (vr 17))) (ba (ad (vr 18) ag))) (sl (vr 10) (pS (o2 aH (vr 17) (cn (.int 1)))) pN)) (gN 19)) (eE (tb (o2 jh (vr 13) (cl cK (ad (vr 1) (ad (vr 19) ag))))) (aM (cn (.bl false))) sN))))) [.va (.scr ns),.va (.tup [.tup cs,.tup ls]),.va (eS P),.va (eL L),s4,s5,s6,s7,s8,s9,.va (bj P t),s11,s12,s13,s14,s15,s16,s17,s18,s19] = .ok (.nx [.va (.scr ns),.va (.tup [.tup cs,.tup ls]),.va (eS P),.va (eL L),s4,s5,s6,s7,s8,s9,.va (bj P t),s11,s12,a13,a14,a15,a16,a17,a18,a19]):=by
 obtain⟨Z',loop,a13,a14,a15,a16,a17,a18,a19,rfl⟩:=j9 (g:=(gT 2 (cT (gN 13) (cT (gT 3 (cT (gN 14) (cT (gN 15) (cT (gN 16) iO)))) iO)))) (F:=WE) (λZ=> ∃a13 a14 a15 a16 a17 a18 a19,Z= [.va (.scr ns),.va (.tup [.tup cs,.tup ls]),.va (eS P),.va (eL L),s4,s5,s6,s7,s8,s9,.va (bj P t),s11,s12,a13,a14,a15,a16,a17,a18,a19]) (ts:=a7 0 (L.map eB))
  (λu hu Z hh=>by
   obtain⟨a13,a14,a15,a16,a17,a18,a19,rfl⟩:=hh;obtain⟨k,v,hk,rfl⟩:=ut hu;rw[List.getElem?_map]at hk
   obtain⟨x,hx,rfl⟩:=Option.map_eq_some_iff.mp hk;rw[Nat.zero_add];obtain⟨b17,b18,b19,e⟩:=R.we (ns:=ns) (t:=t) hx s4 s5 s6 s7 s8 s9 s11 s12 a17 a18 a19;exact⟨_,_,rfl,e,_,_,_,_,_,_,_,rfl⟩) (Z:=[.va (.scr ns),.va (.tup [.tup cs,.tup ls]),.va (eS P),.va (eL L),s4,s5,s6,s7,s8,s9,.va (bj P t),s11,s12,s13,s14,s15,s16,s17,s18,s19]) ⟨_,_,_,_,_,_,_,rfl⟩
 exact⟨_,_,_,_,_,_,_,dM (uj (l:=L.map eB) rfl) loop⟩
abbrev WK:En->Rs Fl:=(eE (k4 (tb (o2 kX (o2 aP (o2 aP (vr 2) (vr 12)) (cn (.int 0))) (o2 aP (o2 aP (vr 2) (o2 bH (vr 12) (cn (.int 1)))) (cn (.int 0))))) (tb (o2 vY (o2 aP (vr 10) (vr 12)) (o2 aP (vr 10) (o2 bH (vr 12) (cn (.int 1))))))) (aM (cn (.bl false))) sN)
theorem Rd.wk (R:Rd cs ls L P)(ht:Hd cs ls t)(s4 s5 s6 s7 s8 s9 s11 s12 s13 s14 s15 s16 s17 s18 s19:Sl):∃a12,(di (iR (ad (cn (.int 1)) (ad (cl cF (ad (vr 2) ag)) ag))) (gN 12) (eE (k4 (tb (o2 kX (o2 aP (o2 aP (vr 2) (vr 12)) (cn (.int 0))) (o2 aP (o2 aP (vr 2) (o2 bH (vr 12) (cn (.int 1)))) (cn (.int 0))))) (tb (o2 vY (o2 aP (vr 10) (vr 12)) (o2 aP (vr 10) (o2 bH (vr 12) (cn (.int 1))))))) (aM (cn (.bl false))) sN)) [.va (.scr ns),.va (.tup [.tup cs,.tup ls]),.va (eS P),.va (eL L),s4,s5,s6,s7,s8,s9,.va (bj P t),s11,s12,s13,s14,s15,s16,s17,s18,s19] = .ok (.nx [.va (.scr ns),.va (.tup [.tup cs,.tup ls]),.va (eS P),.va (eL L),s4,s5,s6,s7,s8,s9,.va (bj P t),s11,a12,s13,s14,s15,s16,s17,s18,s19]):=by
 have hpl:=R.pl
 have hpos:=R.pos
 obtain⟨Z',loop,a12,rfl⟩:=j9 (g:=gN 12) (F:=WK) (λZ=> ∃a12,Z= [.va (.scr ns),.va (.tup [.tup cs,.tup ls]),.va (eS P),.va (eL L),s4,s5,s6,s7,s8,s9,.va (bj P t),s11,a12,s13,s14,s15,s16,s17,s18,s19]) (ts:=rng 1 (P.length:Nat))
  (λu hu Z hh=>by
   obtain⟨a12,rfl⟩:=hh;rw[tH _ (by omega)]at hu
   obtain⟨k,hk,rfl⟩:=List.mem_map.mp hu
   have hk':=List.mem_range.mp hk
   have h1:P[k]? =some P[k]:=List.getElem?_eq_getElem (by omega)
   have h2:P[k+1]? =some P[k+1]:=List.getElem?_eq_getElem (by omega)
   have rise:=R.rise ht h1 h2
   revert h1 h2 rise
   generalize P[k] =u
   generalize P[k+1] =v
   intro h1 h2 rise;refine⟨[.va (.scr ns),.va (.tup [.tup cs,.tup ls]),.va (eS P),.va (eL L),s4,s5,s6,s7,s8,s9,.va (bj P t),s11,.va (.int ((k+1:Nat):Int)),s13,s14,s15,s16,s17,s18,s19],[.va (.scr ns),.va (.tup [.tup cs,.tup ls]),.va (eS P),.va (eL L),s4,s5,s6,s7,s8,s9,.va (bj P t),s11,.va (.int ((k+1:Nat):Int)),s13,s14,s15,s16,s17,s18,s19],rfl,?_,_,rfl⟩
   have pe:∀{i:Nat} {w:N2},P[i]? =some w->(P.map en)[i]? =some (en w):=λh=>by rw[List.getElem?_map,h];rfl
   have sb:(o2 bH (vr 12) (cn (.int 1))) [.va (.scr ns),.va (.tup [.tup cs,.tup ls]),.va (eS P),.va (eL L),s4,s5,s6,s7,s8,s9,.va (bj P t),s11,.va (.int ((k+1:Nat):Int)),s13,s14,s15,s16,s17,s18,s19] = .ok (.int (k:Nat)):=aD (t:=.int ((k+1:Nat):Int)) (u:=.int 1) rfl rfl (by show Rs.ok (T.int (((k+1:Nat):Int) - 1))=_;congr 2;omega)
   have e1:(tb (o2 kX (o2 aP (o2 aP (vr 2) (vr 12)) (cn (.int 0))) (o2 aP (o2 aP (vr 2) (o2 bH (vr 12) (cn (.int 1)))) (cn (.int 0))))) [.va (.scr ns),.va (.tup [.tup cs,.tup ls]),.va (eS P),.va (eL L),s4,s5,s6,s7,s8,s9,.va (bj P t),s11,.va (.int ((k+1:Nat):Int)),s13,s14,s15,s16,s17,s18,s19] = .ok (v.c == u.c):=cr (aD (t:=.int v.c) (u:=.int u.c) (xO 0 (xN (n:=k+1) (l:=P.map en) rfl rfl (pe h2)) rfl) (xO 0 (xN (n:=k) (l:=P.map en) rfl sb (pe h1)) rfl) (yk _ _))
   have e2:(tb (o2 vY (o2 aP (vr 10) (vr 12)) (o2 aP (vr 10) (o2 bH (vr 12) (cn (.int 1)))))) [.va (.scr ns),.va (.tup [.tup cs,.tup ls]),.va (eS P),.va (eL L),s4,s5,s6,s7,s8,s9,.va (bj P t),s11,.va (.int ((k+1:Nat):Int)),s13,s14,s15,s16,s17,s18,s19] = .ok (decide (t v<=t u)):=cr (aD (t:=.int (t v)) (u:=.int (t u)) (p9 h2 rfl rfl) (p9 h1 rfl sb) rfl);refine(fg ?_).trans rfl
   by_cases hc:v.c=u.c
   ·rw[show(v.c == u.c)=true by simp[hc]]at e1
    have:=rise hc.symm;rw[decide_eq_false (by omega)]at e2
    exact sJ e1 e2
   ·rw[show(v.c == u.c)=false by simp[hc]]at e1
    exact xS e1) (Z:=[.va (.scr ns),.va (.tup [.tup cs,.tup ls]),.va (eS P),.va (eL L),s4,s5,s6,s7,s8,s9,.va (bj P t),s11,s12,s13,s14,s15,s16,s17,s18,s19]) ⟨_,rfl⟩
 exact⟨_,dM (iR2 (i:=1) (j:=(P.length:Nat)) (aq rfl (aq (bh (ts:=[eS P]) rfl (by show Rs.ok (T.int ((P.map en).length:Nat))=_;rw[List.length_map])) rfl)) (by omega) (by omega) (by omega) (by omega)) loop⟩
end
section
variable {cs ls:List T}{L:bx N2}{P:List N2}{ns:List Int}{t t0 t1 t2:N2->Int}
theorem yC {M:bx N2}(h:M.all (hB t)=true):m8 t M= []:=by
 unfold m8;rw[(lr t M 0).mpr h]
 rfl
abbrev WT:En->Rs Fl:=(ar (eE (jU (dk (tb (cl bP (ad (vr 1) (ad (vr 10) ag))))) (tb (o2 k9 (cl cK (ad (vr 1) (ad (vr 10) ag))) (cV ag)))) (aM (cn (.bl false))) sN) (ar (ce (cl dG (ad (vr 1) (ad (vr 10) (ad (o2 bH (cn (.int 0)) (cl vk (ad (vr 10) ag))) ag)))) (gN 11)) (ar (eE (jU (tb (o2 k9 (dP (iR (ad (cl cF (ad (vr 2) ag)) ag)) [none,some 11,some 9] (gN 0) (tb (o2 EH (o2 aP (vr 1) (vr 0)) (o2 aP (vr 2) (vr 0)))) (vr 0)) (cV ag))) (dk (tb (cl bP (ad (vr 1) (ad (vr 11) ag)))))) (aM (cn (.bl false))) sN) (ar (di (iR (ad (cn (.int 1)) (ad (cl cF (ad (vr 2) ag)) ag))) (gN 12) (eE (k4 (tb (o2 kX (o2 aP (o2 aP (vr 2) (vr 12)) (cn (.int 0))) (o2 aP (o2 aP (vr 2) (o2 bH (vr 12) (cn (.int 1)))) (cn (.int 0))))) (tb (o2 vY (o2 aP (vr 10) (vr 12)) (o2 aP (vr 10) (o2 bH (vr 12) (cn (.int 1))))))) (aM (cn (.bl false))) sN)) (di (iE (ad (vr 3) ag)) (gT 2 (cT (gN 13) (cT (gT 3 (cT (gN 14) (cT (gN 15) (cT (gN 16) iO)))) iO))) (ar (ce (oL cm (vr 2) (vr 15)) (gN 17)) (ar (ce (o2 aH (o2 aH (o2 aP (vr 10) (oL cm (vr 2) (vr 14))) (vr 16)) (cn (.int 1))) (gN 18)) (ar (ce (o2 aH (o2 aH (sl (vr 10) pN (pS (vr 17))) (ba (ad (vr 18) ag))) (sl (vr 10) (pS (o2 aH (vr 17) (cn (.int 1)))) pN)) (gN 19)) (eE (tb (o2 jh (vr 13) (cl cK (ad (vr 1) (ad (vr 19) ag))))) (aM (cn (.bl false))) sN)))))))))
theorem Rd.wt (R:Rd cs ls L P)(h:Holds L t)(top:∀t',Holds L t'->(∀v∈P,t' v<=0)->∀v∈P,t' v<=t0 v)(s4 s5 s6 s7 s8 s11 s12 s13 s14 s15 s16 s17 s18 s19:Sl):∃a11 a12 a13 a14 a15 a16 a17 a18 a19,WT [.va (.scr ns),.va (.tup [.tup cs,.tup ls]),.va (eS P),.va (eL L),s4,s5,s6,s7,s8,.va (bj P t0),.va (bj P t),s11,s12,s13,s14,s15,s16,s17,s18,s19] = .ok (.nx [.va (.scr ns),.va (.tup [.tup cs,.tup ls]),.va (eS P),.va (eL L),s4,s5,s6,s7,s8,.va (bj P t0),.va (bj P t),a11,a12,a13,a14,a15,a16,a17,a18,a19]):=by
 have ha:L.all (hB t)=true:=holds_all.mpr h
 have ht:Hd cs ls t:=R.hd.mp ha
 have hpl:=R.pl;obtain⟨M,eM,hM,_⟩:=xy R.pos t
 have hs:=ie h (0 - M)
 have iw:bP [(.tup [.tup cs,.tup ls]),bj P t] = .ok (.bl true):=by rw[R.isw,ha]
 have iw2:bP [(.tup [.tup cs,.tup ls]),bj P (λv=>t v+(0 - M))] = .ok (.bl true):=by rw[R.isw,holds_all.mpr hs]
 have bk:cK [(.tup [.tup cs,.tup ls]),bj P t] = .ok (.lst []):=by rw[R.broken,yC ha]
 have mv:=R.moved ha (0 - M)
 have le:=top _ hs λv hv=>by have:=hM v hv;show t v+(0 - M)<=0;omega
 unfold WT;rw[az (Z':=[.va (.scr ns),.va (.tup [.tup cs,.tup ls]),.va (eS P),.va (eL L),s4,s5,s6,s7,s8,.va (bj P t0),.va (bj P t),s11,s12,s13,s14,s15,s16,s17,s18,s19]) ((fg (rj (nK (k:=true) (cr (bh (ts:=[(.tup [.tup cs,.tup ls]),bj P t]) rfl iw))) (cr (aD (t:=.lst []) (u:=.lst []) (bh (ts:=[(.tup [.tup cs,.tup ls]),bj P t]) rfl bk) (i7 rfl (au (k:=0) (by simp))) (tU rfl (by simp[T.dep,deps])))))).trans rfl)]
 rw[az (Z':=[.va (.scr ns),.va (.tup [.tup cs,.tup ls]),.va (eS P),.va (eL L),s4,s5,s6,s7,s8,.va (bj P t0),.va (bj P t),.va (bj P (λv=>t v+(0 - M))),s12,s13,s14,s15,s16,s17,s18,s19]) (bS (bh (ts:=[(.tup [.tup cs,.tup ls]),bj P t,.int (0 - M)]) (aq rfl (aq rfl (aq (aD (t:=.int 0) (u:=.int M) rfl (bh (ts:=[bj P t]) rfl eM) rfl) rfl))) mv) rfl)]
 have lc:(dP (iR (ad (cl cF (ad (vr 2) ag)) ag)) [none,some 11,some 9] (gN 0) (tb (o2 EH (o2 aP (vr 1) (vr 0)) (o2 aP (vr 2) (vr 0)))) (vr 0)) [.va (.scr ns),.va (.tup [.tup cs,.tup ls]),.va (eS P),.va (eL L),s4,s5,s6,s7,s8,.va (bj P t0),.va (bj P t),.va (bj P (λv=>t v+(0 - M))),s12,s13,s14,s15,s16,s17,s18,s19] = .ok (.lst []):=by
  have q:=uh (fi:=iR (ad (cl cF (ad (vr 2) ag)) ag)) (src:=[none,some 11,some 9]) (fc:=(tb (o2 EH (o2 aP (vr 1) (vr 0)) (o2 aP (vr 2) (vr 0))))) (fe:=vr 0) (p:=λ_=>false) (h:=id) (Z:=[.va (.scr ns),.va (.tup [.tup cs,.tup ls]),.va (eS P),.va (eL L),s4,s5,s6,s7,s8,.va (bj P t0),.va (bj P t),.va (bj P (λv=>t v+(0 - M))),s12,s13,s14,s15,s16,s17,s18,s19]) (ts:=rng 0 (P.length:Nat)) (C5 (j:=(P.length:Nat)) (aq (bh (ts:=[eS P]) rfl (by show Rs.ok (T.int ((P.map en).length:Nat))=_;rw[List.length_map])) rfl) (by omega) (by omega)) (au (k:=16) (by rw[iz];exact hpl)) (by simp) λu hu=>by
   obtain⟨k,rfl,hk⟩:=k7 hu
   have hk':k<P.length:=by omega
   have h1:P[k]? =some P[k]:=List.getElem?_eq_getElem hk'
   have lk:=le _ (List.getElem_mem hk');refine⟨(cr (aD (t:=.int (t P[k] +(0 - M))) (u:=.int (t0 P[k])) (p9 (t:=(λv=>t v+(0 - M))) h1 rfl rfl) (p9 h1 rfl rfl) rfl)).trans ?_,λz=>(by cases z)⟩
   show Rs.ok (decide (t P[k] +(0 - M) > t0 P[k]))=_
   rw[decide_eq_false (by omega)]
  rw[List.filter_eq_nil_iff.mpr (λ_ _=>by simp)]at q
  exact q
 rw[az (Z':=[.va (.scr ns),.va (.tup [.tup cs,.tup ls]),.va (eS P),.va (eL L),s4,s5,s6,s7,s8,.va (bj P t0),.va (bj P t),.va (bj P (λv=>t v+(0 - M))),s12,s13,s14,s15,s16,s17,s18,s19]) ((fg (rj (cr (aD (t:=.lst []) (u:=.lst []) lc (i7 rfl (au (k:=0) (by simp))) (tU rfl (by simp[T.dep,deps])))) (nK (k:=true) (cr (bh (ts:=[(.tup [.tup cs,.tup ls]),bj P (λv=>t v+(0 - M))]) rfl iw2))))).trans rfl)]
 obtain⟨a12,e12⟩:=R.wk (ns:=ns) ht s4 s5 s6 s7 s8 (.va (bj P t0)) (.va (bj P (λv=>t v+(0 - M)))) s12 s13 s14 s15 s16 s17 s18 s19
 rw[az e12];obtain⟨a13,a14,a15,a16,a17,a18,a19,e13⟩:=R.wf (ns:=ns) (t:=t) s4 s5 s6 s7 s8 (.va (bj P t0)) (.va (bj P (λv=>t v+(0 - M)))) a12 s13 s14 s15 s16 s17 s18 s19
 exact⟨_,_,_,_,_,_,_,_,_,e13⟩
end
theorem pure_law (ns:List Int)(hn:ns.length<=63):m_law [.scr ns] = .ok (.bl true):=by
 obtain⟨cs,ls,er,hc,c3,hs,hl,l6,dc⟩:=Db ns hn 0 5 (by omega)
 obtain⟨hR,mR⟩:=BI hc hs hl (by omega)
 have g:Good cs ls:=⟨hc,λt ht=>(hl t ht).1,by omega,BC mR⟩
 obtain⟨L,P,R⟩:=tJ g
 have hpl:=R.pl;refine cq rfl ?_
 show yN [.va (.scr ns),.em,.em,.em,.em,.em,.em,.em,.em,.em,.em,.em,.em,.em,.em,.em,.em,.em,.em,.em] =_
 unfold yN;rw[az (Z':=[.va (.scr ns),.va (.tup [.tup cs,.tup ls]),.em,.em,.em,.em,.em,.em,.em,.em,.em,.em,.em,.em,.em,.em,.em,.em,.em,.em]) (bS (bh (ts:=[.scr ns,.int ((0:Nat):Int),.int ((5:Nat):Int)]) rfl er) rfl)];rw[az (Z':=[.va (.scr ns),.va (.tup [.tup cs,.tup ls]),.va (eS P),.em,.em,.em,.em,.em,.em,.em,.em,.em,.em,.em,.em,.em,.em,.em,.em,.em]) (bS (bh (ts:=[(.tup [.tup cs,.tup ls])]) rfl R.events) rfl)]
 rw[az (Z':=[.va (.scr ns),.va (.tup [.tup cs,.tup ls]),.va (eS P),.va (eL L),.em,.em,.em,.em,.em,.em,.em,.em,.em,.em,.em,.em,.em,.em,.em,.em]) (bS (bh (ts:=[(.tup [.tup cs,.tup ls])]) rfl (by rw[vF hc g.l g.n,R.b];rfl)) rfl)]
 obtain⟨tbl,htb,et⟩:=Ay (L:=L) R.nd (by omega) R.f.ends
 rw[az (Z':=[.va (.scr ns),.va (.tup [.tup cs,.tup ls]),.va (eS P),.va (eL L),.va tbl,.em,.em,.em,.em,.em,.em,.em,.em,.em,.em,.em,.em,.em,.em,.em]) (bS (bh (ts:=[eS P,eL L]) rfl et) rfl)];obtain⟨hw,eh,ih⟩:=R.hasw;rcases htb with⟨n,F,rfl⟩ | ⟨n,rfl⟩
 rotate_left
 ·rcases R.world with⟨_,ew⟩ | ⟨n',_⟩
  ·have:hw=false:=by
    cases hw with
    | false=>rfl
    | true=>exact absurd (ih.mp rfl) n
   subst this;exact kh ((gO (cr (aD (t:=.non) (u:=.non) rfl rfl rfl))).trans (df (t:=.bl (true&&true)) (pw (CV (k:=false) (bh (ts:=[(.tup [.tup cs,.tup ls])]) rfl eh)) λ_=>aD (t:=.non) (u:=.non) (bh (ts:=[(.tup [.tup cs,.tup ls])]) rfl ew) rfl rfl)))
  ·exact absurd n' n
 obtain⟨t1,h1,ew1⟩:=rF (ns:=ns) hn n F hpl R.nd R.f.ends 80 (eL L);obtain⟨t2,h2,ew2⟩:=rF (ns:=ns) hn n F hpl R.nd R.f.ends 100 (eL L);rcases R.world with⟨n',_⟩ | ⟨_,t0,b,S,hb,ew0⟩
 ·exact absurd n n'
 have h0:Holds L t0:=S.holds R.f.ends hb
 have top:∀t',Holds L t'->(∀v∈P,t' v<=0)->∀v∈P,t' v<=t0 v:=λt' a c v hv=>uT S hb a c hv
 revert F et ew1 ew2
 generalize table P L=f
 intro F et ew1 ew2;rw[az (Z':=[.va (.scr ns),.va (.tup [.tup cs,.tup ls]),.va (eS P),.va (eL L),.va (cx P f),.em,.em,.em,.em,.em,.em,.em,.em,.em,.em,.em,.em,.em,.em,.em]) ((fg (cr (aD (t:=cx P f) (u:=.non) rfl rfl rfl))).trans rfl)];rw[az (Z':=[.va (.scr ns),.va (.tup [.tup cs,.tup ls]),.va (eS P),.va (eL L),.va (cx P f),.va (bj P t1),.em,.em,.em,.em,.em,.em,.em,.em,.em,.em,.em,.em,.em,.em]) (bS (bh (ts:=[.scr ns,.int ((80:Nat):Int),eS P,eL L,cx P f]) rfl ew1) rfl)]
 rw[az (Z':=[.va (.scr ns),.va (.tup [.tup cs,.tup ls]),.va (eS P),.va (eL L),.va (cx P f),.va (bj P t1),.va (bj P t2),.em,.em,.em,.em,.em,.em,.em,.em,.em,.em,.em,.em,.em]) (bS (bh (ts:=[.scr ns,.int ((100:Nat):Int),eS P,eL L,cx P f]) rfl ew2) rfl)];rw[az (Z':=[.va (.scr ns),.va (.tup [.tup cs,.tup ls]),.va (eS P),.va (eL L),.va (cx P f),.va (bj P t1),.va (bj P t2),.va (bj P λv=>dX (t1 v) [t2 v]),.em,.em,.em,.em,.em,.em,.em,.em,.em,.em,.em,.em]) (bS (xE (f:=λi j=>dX i [j]) rfl hpl λi j=>rfl) rfl)]
 rw[az (Z':=[.va (.scr ns),.va (.tup [.tup cs,.tup ls]),.va (eS P),.va (eL L),.va (cx P f),.va (bj P t1),.va (bj P t2),.va (bj P λv=>dX (t1 v) [t2 v]),.va (bj P λv=>dW (t1 v) [t2 v]),.em,.em,.em,.em,.em,.em,.em,.em,.em,.em,.em]) (bS (xE (f:=λi j=>dW i [j]) rfl hpl λi j=>rfl) rfl)]
 rw[az (Z':=[.va (.scr ns),.va (.tup [.tup cs,.tup ls]),.va (eS P),.va (eL L),.va (cx P f),.va (bj P t1),.va (bj P t2),.va (bj P λv=>dX (t1 v) [t2 v]),.va (bj P λv=>dW (t1 v) [t2 v]),.va (bj P t0),.em,.em,.em,.em,.em,.em,.em,.em,.em,.em]) (bS (bh (ts:=[(.tup [.tup cs,.tup ls])]) rfl ew0) rfl)]
 obtain⟨M,eM,hM,v,hv,ev⟩:=xy R.pos t0
 have M0:M=0:=by
  have a:=wc S hb hv
  have c:=top _ (ie h0 (0 - M)) (λv hv=>by have:=hM v hv;show t0 v+(0 - M)<=0;omega) v hv
  omega
 subst M0
 have m1:=R.moved (holds_all.mpr h1) 5
 have m2:=R.moved (holds_all.mpr (ie h1 5)) (-5)
 have same:bj P (λv=>t1 v+5+ -5)=bj P t1:=by
  unfold bj;refine congrArg T.tup (List.map_congr_left λv _=> ?_)
  show T.int (t1 v+5+ -5)=_
  congr 1
  omega
 rw[same]at m2
 have hx:=vB h1 h2
 have hy:=vA h1 h2
 revert hx hy
 generalize hgx:(λv=>dX (t1 v) [t2 v])=tx
 generalize hgy:(λv=>dW (t1 v) [t2 v])=ty
 intro hx hy
 obtain⟨Z',loop,a10,a11,a12,a13,a14,a15,a16,a17,a18,a19,rfl⟩:=j9 (g:=gN 10) (F:=WT) (λZ=> ∃a10 a11 a12 a13 a14 a15 a16 a17 a18 a19,Z= [.va (.scr ns),.va (.tup [.tup cs,.tup ls]),.va (eS P),.va (eL L),.va (cx P f),.va (bj P t1),.va (bj P t2),.va (bj P tx),.va (bj P ty),.va (bj P t0),a10,a11,a12,a13,a14,a15,a16,a17,a18,a19]) (ts:=[bj P t1,bj P t2,bj P tx,bj P ty,bj P t0])
  (λu hu Z hh=>by
   obtain⟨a10,a11,a12,a13,a14,a15,a16,a17,a18,a19,rfl⟩:=hh
   obtain⟨t,rfl,h⟩:∃t,u=bj P t/\Holds L t:=by
    simp only[List.mem_cons,List.not_mem_nil,or_false]at hu;rcases hu with rfl | rfl | rfl | rfl | rfl
    ·exact⟨_,rfl,h1⟩
    ·exact⟨_,rfl,h2⟩
    ·exact⟨_,rfl,hx⟩
    ·exact⟨_,rfl,hy⟩
    ·exact⟨_,rfl,h0⟩
   obtain⟨b11,b12,b13,b14,b15,b16,b17,b18,b19,e⟩:=R.wt (ns:=ns) h top (.va (cx P f)) (.va (bj P t1)) (.va (bj P t2)) (.va (bj P tx)) (.va (bj P ty)) a11 a12 a13 a14 a15 a16 a17 a18 a19;exact⟨_,_,rfl,e,_,_,_,_,_,_,_,_,_,_,rfl⟩) (Z:=[.va (.scr ns),.va (.tup [.tup cs,.tup ls]),.va (eS P),.va (eL L),.va (cx P f),.va (bj P t1),.va (bj P t2),.va (bj P tx),.va (bj P ty),.va (bj P t0),.em,.em,.em,.em,.em,.em,.em,.em,.em,.em]) ⟨_,_,_,_,_,_,_,_,_,_,rfl⟩
 rw[az (dM (CZ (cC rfl (au (k:=5) (by simp)))) loop)]
 exact df (t:=.bl (true&&true)) (pw (aD (t:=.int 0) (u:=.int 0) (bh (ts:=[bj P t0]) rfl eM) rfl rfl) λ_=>aD (t:=bj P t1) (u:=bj P t1) (bh (ts:=[(.tup [.tup cs,.tup ls]),bj P λv=>t1 v+5,.int (-5)]) (aq rfl (aq (bh (ts:=[(.tup [.tup cs,.tup ls]),bj P t1,.int 5]) rfl m1) rfl)) m2) rfl (Aw (AY P t1) (Bu P t1)))
end G
end
lay_quick G.lhs G.rhs
name_quick lhsz for G.lhs by G.lhs_r
name_quick rhsz for G.rhs by G.rhs_r
open PySem PySem.W PyProof.Rows
set_option maxRecDepth 100000 in
set_option maxHeartbeats 0 in
theorem G.left1 (w : World) (os : OsState) : PySem.W.Fast.lhsz w (boot_heap w.params) boot_drawn boot_toks os = PySem.W.Fast.rhsz w := by kernel_rfl
set_option maxRecDepth 100000 in
set_option maxHeartbeats 0 in
theorem PySem.Challenge.cw_farclocks_k21_whole_worlds_holds : PySem.Challenge.rw_farclocks_k21_whole_worlds.Holds := by
  w_on; o_law
  refine holds_open (q := G.vw) (loose := G.lse) (Xt := λ_ => true) (XP := λ_ _ => True) (Yf := (Tr.hookK G.asks G.top).obs) (Ya := (Tr.hookK G.asks G.top).val) (YP := (Tr.hookK G.asks G.top).says) (N := 9000) (Tr.left_of (by rfl) (by rfl) (λ_ => rfl) λw os => ?hl) (Tr.hookK G.asks G.top).of (Tr.hookK G.asks G.top).keeps (λ_ _ => trivial) (λ_ _ _ _ _ => trivial) (by rfl) (by rfl) (by rfl) (λs _ => recFacts_of (s := s) rfl) (by rfl) (by assumption) (by decide +kernel) ⟨rfl, rfl, rfl, rfl, rfl, by decide +kernel⟩ ?hw ?hc
  case hl => exact ((congrFun (congrFun (congrFun (congrFun (congrFun PySem.W.Fast.lhsz_eq w) _) _) _) os).trans (G.left1 w os)).trans (congrFun PySem.W.Fast.rhsz_eq w).symm
  case hw => w_witness2
  case hc => exact Tr.walk_k (n := 63) (k := 12) (x := "_law_script") (CX := L2.CX0) (sp := λK => Tr.spP K 1 G.m_law) rfl (by decide) rfl ⟨rfl, by decide, by decide⟩ (λw K mg fa h X e g hf => G.all_ok X e g hf) (λK H a ns hl _ hS => Tr.sp_script hS (G.pure_law ns hl)) λ_ _ _ _ z => z
