import PyProof.Rows.All
import Wide.All
import OpenK.AllK
import Wide.FinOn
import Lean
import PyProof.EqAt
import PyProof.EqKinds
import PyProof.TupleCall
import PyProof.ExcClass3
import PyProof.StationsW
import PyProof.ExcBaseAll.ValueError
import PyProof.ExcArgsOwn
import PyProof.IsiBase
import PyProof.IsiH_tuple
import PyProof.ExcAttrAll.ValueError
import PyProof.Rows.RuleN_isinstance
import PyProof.MeetsSeq
import PyProof.RulesAs
import PyProof.IsiH_list
import PyProof.AttrMiss
import KE.KDictOf
import PyProof.Rows.SumAny
import PyProof.Rows.MinMaxN
import PyProof.Rows.SortShellK
import PyProof.Rows.SortWalk
import PyProof.ZipIter
import PyProof.WalksMore
import PyProof.DictWalks
import PySem.Challenge.RW_farclocks_k11_times
set_option Elab.async false
set_option linter.all false
set_option maxRecDepth 100000
set_option maxHeartbeats 8000000
noncomputable section
namespace L2
open PySem PySem.Spec PyProof.Rows
abbrev Key:=Sum Int Str
def mO:Key->Value->Bool
 | .inl k,v=>Value.isInt k v
 | .inr x,v=>Value.isStrOf x v
def keyH (w:World):Key->Int
 | .inl k=>hashInt k
 | .inr x=>hashStr w x
theorem bX:∀{k:Key} {v:Value},mO k v=true->(∃i t,k=Sum.inl i/\v=Value.int i t)\/(∃x t,k=Sum.inr x/\v=Value.str x t)
 | .inl i,v,h=>by
  obtain⟨t,e⟩:=Value.isInt_shape (k:=i) (v:=v) h
  exact .inl ⟨i,t,rfl,e⟩
 | .inr x,v,h=>by
  obtain⟨t,e⟩:=Value.isStrOf_shape (x:=x) (v:=v) h;exact .inr ⟨x,t,rfl,e⟩
theorem t8 (i:Int)(t:Tok):mO (.inl i) (.int i t)=true:=by simp[mO,Value.isInt]
theorem t1 (x:Str)(t:Tok):mO (.inr x) (.str x t)=true:=by simp[mO,Value.isStrOf]
theorem Bc (a b:Int):decide ((Sum.inl a:Key)=Sum.inl b)=(a == b):=by
 by_cases e:a=b
 ·subst e;simp
 ·have h:¬ (Sum.inl a:Key)=Sum.inl b:=λq=>e (Sum.inl.inj q)
  rw[decide_eq_false h];exact(beq_eq_false_iff_ne.mpr e).symm
theorem A8 (a b:Str):decide ((Sum.inr a:Key)=Sum.inr b)=decide (a=b):=by
 by_cases e:a=b
 ·subst e;simp
 ·have h:¬ (Sum.inr a:Key)=Sum.inr b:=λq=>e (Sum.inr.inj q)
  rw[decide_eq_false h,decide_eq_false e]
theorem Bb (a:Int)(b:Str):decide ((Sum.inl a:Key)=Sum.inr b)=false:=decide_eq_false (λq=>nomatch q)
theorem A9 (a:Str)(b:Int):decide ((Sum.inr a:Key)=Sum.inl b)=false:=decide_eq_false (λq=>nomatch q)
def ck (prog:Program)(w:World):PySem.KeyKind prog w Key where
 is:=mO
 hash:=keyH w
 inj:=λv a b ha hb=>by
  rcases bX ha with⟨i,t,rfl,rfl⟩ | ⟨x,t,rfl,rfl⟩
  ·rcases bX hb with⟨j,u,rfl,e⟩ | ⟨y,u,rfl,e⟩
   ·injection e with e1 _;rw[e1]
   ·exact nomatch e
  ·rcases bX hb with⟨j,u,rfl,e⟩ | ⟨y,u,rfl,e⟩
   ·exact nomatch e
   ·injection e with e1 _;rw[e1]
 byValue:=λk v h=>by
  rcases bX h with⟨i,t,rfl,rfl⟩ | ⟨x,t,rfl,rfl⟩ <;> rfl
 pyHash:=λhv h=>by
  rcases bX hv with⟨i,t,rfl,rfl⟩ | ⟨x,t,rfl,rfl⟩
  ·exact wpAny_pyHash_int h
  ·exact wpAny_pyHash_str h
 eqBool:=λhu hv h=>by
  rcases bX hu with⟨i,t,rfl,rfl⟩ | ⟨x,t,rfl,rfl⟩
  ·rcases bX hv with⟨j,u,rfl,rfl⟩ | ⟨y,u,rfl,rfl⟩
   ·rw[Bc]at h;exact wpAny_eqBool_int h
   ·rw[Bb]at h;exact SeqAt.EqAt.int_str i t y u _ _ _ _ h
  ·rcases bX hv with⟨j,u,rfl,rfl⟩ | ⟨y,u,rfl,rfl⟩
   ·rw[A9]at h;exact SeqAt.EqAt.str_int x t j u _ _ _ _ h
   ·rw[A8]at h;exact wpAny_eqBool_str h
 «strs»:=λk x t v h=>by
  rcases bX h with⟨i,u,rfl,e⟩ | ⟨y,u,rfl,e⟩
  ·exact nomatch e
  ·injection e with e1 _
   subst e1;cases v <;> rfl
theorem pY (prog:Program)(w:World)(i:Int)(t:Tok):(ck prog w).is (.inl i) (.int i t)=true:=t8 i t
theorem pX (prog:Program)(w:World)(x:Str)(t:Tok):(ck prog w).is (.inr x) (.str x t)=true:=t1 x t
inductive V where
 | non | bl (b:Bool) | int (i:Int) | str (x:Str) | byt (b:Array UInt8) | flt (b:UInt64) | ref (a:Addr) | ty (n:String)
 deriving DecidableEq
def RelV:V->Value->Prop
 | .non,u=>u=Value.none
 | .bl b,u=>u=Value.bool b
 | .int i,u=> ∃t,u=Value.int i t
 | .str x,u=> ∃t,u=Value.str x t
 | .byt b,u=> ∃t,u=Value.bytes b t
 | .flt b,u=> ∃t,u=Value.float b t
 | .ref a,u=>u=Value.ref a
 | .ty n,u=>u=Value.type n
abbrev Vals:List V->List Value->Prop:=Paired RelV
theorem Vals.length {xs:List V}{us:List Value}(r:Vals xs us):xs.length=us.length:=Paired.length r
theorem Vals.get:∀{xs:List V} {us:List Value} {i:Nat} {x:V},Vals xs us->xs[i]? =some x->∃u,us[i]? =some u/\RelV x u
 | _,_,_,_,.nil,e=>by simp at e
 | _,_,0,_,.cons r _,e=>by simp at e;subst e;exact⟨_,rfl,r⟩
 | _,_,i+1,x,.cons _ t,e=>by
  obtain⟨u,h1,h2⟩:=Vals.get (i:=i) (x:=x) t (by simpa using e)
  exact⟨u,by simpa using h1,h2⟩
theorem Vals.append:∀{xs ys:List V} {us ws:List Value},Vals xs us->Vals ys ws->Vals (xs++ys) (us++ws)
 | _,_,_,_,.nil,s=>s
 | _,_,_,_,.cons r t,s=> .cons r (Vals.append t s)
theorem Vals.take:∀{xs:List V} {us:List Value} (n:Nat),Vals xs us->Vals (xs.take n) (us.take n)
 | _,_,0,_=> .nil
 | _,_,_+1,.nil=> .nil
 | _,_,n+1,.cons r t=> .cons r (Vals.take n t)
theorem Vals.drop:∀{xs:List V} {us:List Value} (n:Nat),Vals xs us->Vals (xs.drop n) (us.drop n)
 | _,_,0,r=>r
 | _,_,_+1,.nil=> .nil
 | _,_,n+1,.cons _ t=>Vals.drop n t
def RelO:Option V->Option Value->Prop
 | some v,some u=>RelV v u
 | none,none=>True
 | _,_=>False
def KV {κ:Type}:List (κ×V)->List (κ×Value)->Prop:=Paired λ(p:κ×V) (q:κ×Value)=>p.1=q.1/\RelV p.2 q.2
def kV:Key->V
 | .inl i=> .int i
 | .inr x=> .str x
inductive HO where
 /-- a list -/
 | lst (xs:List V)
 /-- a tuple (never changes) -/
 | tup (xs:List V)
 /-- a dict whose keys are ints and texts;one whose keys are tuples of ints and texts (the empty one is both) -/
 | dK (kvs:List (Key×V)) | dT (kvs:List (List Key×V))
 /-- a set of ints: its members,its size -/
 | set (S:Int->Bool) (n:Nat)
 /-- an instance of the class at C,its dict at dx,its attributes -/
 | ins (C dx:Addr) (fs:List (Str×V))
 /-- the dict of the instance at x -/
 | own (x:Addr)
 /-- the dict of an exception -/
 | xd (fs:List (Str×V))
 /-- a bound method,f of x -/
 | met (f x:Addr)
 /-- a range object lo,lo+1,.. below hi -/
 | rng (lo hi:Int)
 /-- a thing that is known to the object (the script;a dict while a loop walks it): read,never written while it is so -/
 | frz (o:Obj) (u:HO)
 /-- a code object's table -/
 | tbl (ps:Array Value)
 /-- any other thing,by what is true of its one object (a def of one's own: SetO a S n:=HO.ext λh=> ..) -/
 | ext (φ:Heap->Prop)
abbrev Hp:=Addr->Option HO
def upd (H:Hp)(a:Addr)(o:HO):Hp:=λb=>if b=a then some o else H b
theorem aw {H:Hp}{a:Addr}{o:HO}:upd H a o a=some o:=by unfold upd;rw[if_pos rfl]
theorem ar {H:Hp}{a b:Addr}{o:HO}(h:b≠a):upd H a o b=H b:=by unfold upd;rw[if_neg h]
theorem hG {H:Hp}{a:Addr}{o u:HO}:upd (upd H a o) a u=upd H a u:=by
 funext b;unfold upd;split <;> rfl
theorem gO {H:Hp}{a b:Addr}{o u:HO}(h:H a=some o)(h':H b=some u)(d:o≠u):a≠b:=by
 intro e;subst e;rw[h]at h';exact d (Option.some.inj h')
theorem bF {H:Hp}{a b:Addr}{o:HO}(h:H a=some o)(h':H b=none):a≠b:=by
 intro e;subst e;rw[h]at h';cases h'
section
variable (P:Program)(w:World)
def ObjOk (H:Hp)(h:Heap)(a:Addr):HO->Prop
 | .lst xs=>xs.length<=sizeLine/\∃(its:List Value) (n:Nat),Vals xs its/\h.get? a=some { cls:=.type "list",data:=.seq its.toArray n }
 | .tup xs=>xs.length<=sizeLine/\∃its:List Value,Vals xs its/\IsTup h a its.toArray
 | .dK kvs=>kvs.length<=sizeLine/\(a == sysModules)=false/\∃vs,KV kvs vs/\h.DictOf (ck P w) a vs
 | .dT kvs=>kvs.length<=sizeLine/\(a == sysModules)=false/\∃xs:List (List Key×Addr×Value),
   Paired (λ(p:List Key×V) (q:List Key×Addr×Value)=>p.1=q.1/\H q.2.1=some (.tup (p.1.map kV))/\RelV p.2 q.2.2) kvs xs ∧
   ∃o es ep,h.get? a=some o/\o.ExactDict/\o.data= .dict es ep/\es.toList=xs.map (entryOfKey (tupleKind (ck P w)))/\(xs.map (·.1)).Nodup
 | .set S n=>h.SetOf (intKind P w) a S n
 | .ins C dx fs=>H dx=some (.own a)/\fs.length<=1000/\dx≠a/\h.get? a=some (PySem.W.instObj C dx) ∧
   ∃mA,h.Ns1 dx mA/\(∀f,RelO (fs.lookup f) (mA f))/\PySem.Within mA (fs.map (·.1))
 | .own _=> ∃o,h.get? a=some o
 | .xd fs=> ∃mA,h.Ns1 a mA/\∀f,RelO (fs.lookup f) (mA f)
 | .rng lo hi=> ∃t u v,h.get? a=some { cls:=.type "range",data:=.fields #[.int lo t,.int hi u,.int 1 v] }
 | .frz o u=>h.get? a=some o/\ObjOk H h a u
 | .tbl ps=>h.get? a=some { cls:=.none,data:=.fields ps }
 | .met f x=>h.get? a=some (PySem.W.methodObj (.ref f) (.ref x))
 | .ext φ=>φ h/\(∃o,h.get? a=some o)/\∀h1 h2:Heap,φ h1->(∀o,h1.get? a=some o->h2.get? a=some o)->φ h2
def HOk (H:Hp)(h:Heap):Prop:=∀a o,H a=some o->ObjOk P w H h a o
end
section
variable {P:Program}{w:World}{H H':Hp}{h h':Heap}{a:Addr}{o:HO}
theorem ObjOk.lt (x:ObjOk P w H h a o):a<h.objs.size:=by
 cases o with
 | lst xs=>obtain⟨_,_,_,_,e⟩:=x;exact Heap.lt_size e
 | tup xs=>obtain⟨_,_,_,p⟩:=x;exact p.lt
 | dK kvs=>obtain⟨_,_,_,_,o,_,_,e,_⟩:=x;exact Heap.lt_size e
 | dT kvs=>obtain⟨_,_,_,_,o,_,_,e,_⟩:=x;exact Heap.lt_size e
 | set S n=>obtain⟨o,_,_,_,e,_⟩:=x;exact Heap.lt_size e
 | ins C dx fs=>obtain⟨_,_,_,e,_⟩:=x;exact Heap.lt_size e
 | own y=>obtain⟨_,e⟩:=x;exact Heap.lt_size e
 | xd fs=>obtain⟨_,⟨_,_,_,e,_⟩,_⟩:=x;exact Heap.lt_size e
 | rng lo hi=>obtain⟨_,_,_,e⟩:=x;exact Heap.lt_size e
 | frz ob u=>obtain⟨e,_⟩:=x;exact Heap.lt_size e
 | tbl ps=>exact Heap.lt_size (show h.get? a=some _ from x)
 | met f y=>exact Heap.lt_size (show h.get? a=some _ from x)
 | ext φ=>obtain⟨_,⟨_,e⟩,_⟩:=x;exact Heap.lt_size e
theorem Paired.mapP {α β:Type}{F G:α->β->Prop}:∀{l₁:List α} {l₂:List β},Paired F l₁ l₂->(∀a b,F a b->G a b)->Paired G l₁ l₂
 | _,_,.nil,_=> .nil
 | _,_,.cons r t,f=> .cons (f _ _ r) (Paired.mapP t f)
theorem ObjOk.stay (x:ObjOk P w H h a o)(k:∀b u,(b=a\/H b=some (.own a))->h.get? b=some u->h'.get? b=some u)
  (ho:∀b,H b=some (.own a)->H' b=some (.own a)) (ht:∀b xs,H b=some (.tup xs)->H' b=some (.tup xs)):ObjOk P w H' h' a o:=by
 induction o with
 | lst xs=>obtain⟨z,its,n,r,e⟩:=x;exact⟨z,its,n,r,k _ _ (.inl rfl) e⟩
 | tup xs=>obtain⟨z,its,r,ob,e,c⟩:=x;exact⟨z,its,r,ob,k _ _ (.inl rfl) e,c⟩
 | dK kvs=>obtain⟨z,y,vs,r,ob,es,ep,e,c⟩:=x;exact⟨z,y,vs,r,ob,es,ep,k _ _ (.inl rfl) e,c⟩
 | dT kvs=>
  obtain⟨z,y,xs,r,ob,es,ep,e,c⟩:=x
  exact⟨z,y,xs,Paired.mapP r λp q z=>⟨z.1,ht _ _ z.2.1,z.2.2⟩,ob,es,ep,k _ _ (.inl rfl) e,c⟩
 | set S n=>obtain⟨ob,es,ep,t,e,c⟩:=x;exact⟨ob,es,ep,t,k _ _ (.inl rfl) e,c⟩
 | ins C dx fs=>
  obtain⟨d,z,ne,e,mA,⟨od,es,ep,e2,c⟩,r⟩:=x
  exact⟨ho _ d,z,ne,k _ _ (.inl rfl) e,mA,⟨od,es,ep,k _ _ (.inr d) e2,c⟩,r⟩
 | own y=>obtain⟨ob,e⟩:=x;exact⟨ob,k _ _ (.inl rfl) e⟩
 | xd fs=>obtain⟨mA,⟨od,es,ep,e,c⟩,r⟩:=x;exact⟨mA,⟨od,es,ep,k _ _ (.inl rfl) e,c⟩,r⟩
 | rng lo hi=>obtain⟨t,u,v,e⟩:=x;exact⟨t,u,v,k _ _ (.inl rfl) e⟩
 | frz ob u ih=>obtain⟨e,q⟩:=x;exact⟨k _ _ (.inl rfl) e,ih q⟩
 | tbl ps=>
  have e:h.get? a=some { cls:=.none,data:=.fields ps }:=x
  show h'.get? a=some { cls:=.none,data:=.fields ps }
  exact k a _ (.inl rfl) e
 | met f y=>
  have e:h.get? a=some (PySem.W.methodObj (.ref f) (.ref y)):=x
  show h'.get? a=some (PySem.W.methodObj (.ref f) (.ref y))
  exact k a _ (.inl rfl) e
 | ext φ=>obtain⟨p,⟨o,e⟩,st⟩:=x;exact⟨st _ _ p λo q=>k _ _ (.inl rfl) q,⟨o,k _ _ (.inl rfl) e⟩,st⟩
theorem HOk.lt (x:HOk P w H h)(e:H a=some o):a<h.objs.size:=(x a o e).lt
theorem HOk.fresh (x:HOk P w H h)(e:h.objs.size<=a):H a=none:=by
 cases q:H a with
 | none=>rfl
 | some u=>exact absurd (Nat.lt_of_lt_of_le (x.lt q) e) (Nat.lt_irrefl _)
theorem HOk.kept (x:HOk P w H h)(k:∀b u,h.get? b=some u->h'.get? b=some u):HOk P w H h':=λa o e=>
 (x a o e).stay (λb u _ q=>k b u q) (λ_ q=>q) λ_ _ q=>q
theorem HOk.laid (x:HOk P w H h)(k:∀b u,h.get? b=some u->h'.get? b=some u)(hp:h.objs.size<=a)(new:ObjOk P w (upd H a o) h' a o):HOk P w (upd H a o) h':=λb u e=>by
 have hn:=x.fresh hp
 by_cases hb:b=a
 ·subst hb;rw[aw]at e;cases e;exact new
 ·rw[ar hb]at e
  exact(x b u e).stay (λc v _ q=>k c v q) (λc q=>by rw[ar (bF q hn)];exact q) λc xs q=>by rw[ar (bF q hn)];exact q
end
def Rd (H:Hp)(a:Addr)(u:HO):Prop:=H a=some u\/∃o,H a=some (.frz o u)
theorem Rd.ok {P:Program}{w:World}{H:Hp}{h:Heap}{a:Addr}{u:HO}(r:Rd H a u)(x:HOk P w H h):ObjOk P w H h a u:=by
 rcases r with r | ⟨o,r⟩
 ·exact x a u r
 ·obtain⟨_,q⟩:=x a _ r
  exact q
def Dc:Option HO->Prop
 | some (.lst _)=>True
 | some (.dK _)=>True
 | some (.dT _)=>True
 | some (.set _ _)=>True
 | some (.ins _ _ _)=>True
 | some (.ext _)=>True
 | _=>False
section
variable {P:Program}{w:World}{H:Hp}{h h':Heap}{x e:Addr}{o':HO}
theorem HOk.write (ok:HOk P w H h)(mu:Dc (H x))(he:e=x\/H e=some (.own x))(k:∀b u,b≠e->h.get? b=some u->h'.get? b=some u)(heo:∃u,h'.get? e=some u)
  (new:ObjOk P w (upd H x o') h' x o'):HOk P w (upd H x o') h':=λb u q=>by
 have nown:∀c y,H c=some (.own y)->c≠x:=λc y r z=>by subst z;rw[r]at mu;exact mu
 have ntup:∀c xs,H c=some (.tup xs)->c≠x:=λc xs r z=>by subst z;rw[r]at mu;exact mu
 by_cases hb:b=x
 ·subst hb;rw[aw]at q;cases q;exact new
 ·rw[ar hb]at q
  by_cases hbe:b=e
  ·have q':H b=some (.own x):=by
    rcases he with z | z
    ·exact absurd (hbe.trans z) hb
    ·rw[hbe];exact z
   rw[q]at q';cases q';obtain⟨v,hv⟩:=heo;exact⟨v,by rw[hbe];exact hv⟩
  ·refine(ok b u q).stay (λc v hc r=>k c v ?_ r) (λc r=>by rw[ar (nown c b r)];exact r) λc xs r=>by rw[ar (ntup c xs r)];exact r
   rcases hc with rfl | hc
   ·exact hbe
   ·rintro rfl
    rcases he with z | z
    ·exact nown c b hc z
    ·rw[hc]at z;cases z;exact hb rfl
end
structure Un (fs ex:List Addr)(H H':Hp)(h h':Heap):Prop where
 keep:∀b o,h.get? b=some o->H b=none->b∉fs->b∉ex->h'.get? b=some o
 slot:∀b o,h.get? b=some o->H b=none->b∈fs->b∉ex->∃sl,h'.get? b=some { o with slots:=sl }
 free:∀b o,h.get? b=some o->H b=none->b∉ex->H' b=none
 there:∀b o,h.get? b=some o->b∉ex->∃o',h'.get? b=some o'
 tups:∀b xs,H b=some (.tup xs)->H' b=some (.tup xs)
 frzs:∀b o u,H b=some (.frz o u)->H' b=some (.frz o u)
 tbls:∀b ps,H b=some (.tbl ps)->∃more,H' b=some (.tbl (ps++more))
section
variable {fs fs' ex ex':List Addr}{H H1 H2:Hp}{h h1 h2 h':Heap}{a x e:Addr}{o:HO}
theorem Un.any (u:Un fs ex H H1 h h1){b:Addr}{ob:Obj}(q:h.get? b=some ob)(n:H b=none)(hx:b∉ex):∃sl,h1.get? b=some { ob with slots:=sl }:=by
 by_cases hb:b∈fs
 ·exact u.slot b ob q n hb hx
 ·exact⟨ob.slots,u.keep b ob q n hb hx⟩
theorem Un.kept (k:∀b u,h.get? b=some u->h'.get? b=some u):Un fs ex H H h h':=
 ⟨λb ob q _ _ _=>k b ob q,λb ob q _ _ _=>⟨ob.slots,k b ob q⟩,λ_ _ _ n _=>n,λb ob q _=>⟨ob,k b ob q⟩,λ_ _ q=>q,λ_ _ _ q=>q,λ_ ps q=>⟨#[],by rw[q];simp⟩⟩
theorem Un.refl:Un fs ex H H h h:=Un.kept λ_ _ q=>q
theorem Un.laid (k:∀b u,h.get? b=some u->h'.get? b=some u)(hp:h.objs.size<=a)(hn:H a=none):Un fs ex H (upd H a o) h h' where
 keep:=λb u q _ _ _=>k b u q
 slot:=λb u q _ _ _=>⟨u.slots,k b u q⟩
 free:=λb u q n _=>by rw[ar (Nat.ne_of_lt (Nat.lt_of_lt_of_le (Heap.lt_size q) hp))];exact n
 there:=λb u q _=>⟨u,k b u q⟩
 tups:=λb xs q=>by rw[ar (bF q hn)];exact q
 frzs:=λb u xs q=>by rw[ar (bF q hn)];exact q
 tbls:=λb ps q=>⟨#[],by rw[ar (bF q hn),q];simp⟩
theorem Un.write (mu:Dc (H x))(he:e=x\/H e=some (.own x))(k:∀b u,b≠e->h.get? b=some u->h'.get? b=some u)(heo:∃u,h'.get? e=some u):Un fs ex H (upd H x o) h h':=by
 have hx:∀b,H b=none->b≠x:=λb n z=>by subst z;rw[n]at mu;exact mu
 have hb:∀b,H b=none->b≠e:=λb n z=>by
  subst z;rcases he with r | r
  ·exact hx b n r
  ·rw[n]at r;cases r
 have hm:∀b u,H b=some u->¬ Dc (some u)->b≠x:=λb u q nm z=>by subst z;rw[q]at mu;exact nm mu
 refine⟨λb u q n _ _=>k b u (hb b n) q,λb u q n _ _=>⟨u.slots,k b u (hb b n) q⟩,λb u q n _=>by rw[ar (hx b n)];exact n,λb u q _=> ?_,
  λb xs q=>by rw[ar (hm b _ q λz=>z)];exact q,λb u xs q=>by rw[ar (hm b _ q λz=>z)];exact q,λb ps q=>⟨#[],by rw[ar (hm b _ q λz=>z),q];simp⟩⟩
 by_cases hbe:b=e
 ·subst hbe;exact heo
 ·exact⟨u,k b u hbe q⟩
end
def trk (h:Heap)(H:Hp):List Addr:=(List.range h.objs.size).filter λa=>(H a).isSome
def ol (h:Heap)(H:Hp):Heap:=PySem.W.hideAll h (trk h H)
theorem uc (h:Heap)(H:Hp):(ol h H).objs.size=h.objs.size:=PySem.W.hideAll_size _ _
theorem wl {h:Heap}{H:Hp}{b:Addr}{o:Obj}(e:h.get? b=some o)(n:H b=none):(ol h H).get? b=some o:=
 PySem.W.hideAll_get _ e λhm=>by
  have q:(H b).isSome=true:=(List.mem_filter.mp hm).2;rw[n]at q;simp at q
theorem yi {h:Heap}{H:Hp}{b:Addr}{o:Obj}(e:(ol h H).get? b=some o):h.get? b=some o/\H b=none:=by
 have e':h.get? b=some o:=PySem.W.of_hideAll (trk h H) e;refine⟨e',?_⟩
 cases q:H b with
 | none=>rfl
 | some x=>
  have hm:b∈trk h H:=List.mem_filter.mpr ⟨List.mem_range.mpr (Heap.lt_size e'),by simp[q]⟩
  have z:(ol h H).get? b=none:=PySem.W.hideAll_none (trk h H) hm;rw[z]at e;cases e
def yZ (g h:Heap)(L:Addr):List (Addr×Obj):=(List.range h.objs.size).filterMap λa=>if a=L\/(g.get? a).isSome=true then none else(h.get? a).map λo=>(a,o)
def rest (g h:Heap)(L d:Addr):List (Addr×Obj):=(yZ g h L).filter λp=>decide (p.1≠d)
structure Mod (K:PySem.W.Frag)(mg:Str->Option Value)(base:Heap):Prop where
 kin:K.In base
 glob:base.Ns mainGlobals mg
 blt:∃mb,base.Ns builtinsNs mb/\∀x:Str,x≠ "__name__"->mb x=bootBuiltins x
 nolimit:base.NoLimit
structure Cx where
 prog:Program
 w:World
 K:PySem.W.Frag
 mg:Str->Option Value
 base:Heap
 A:Around
 N:List Str
 s₀:Shared
 H₀:Hp
 env:Env
 outer:List Env
 stack:List Env
 ex:List Addr
 fn:Str->Bool
 calm:Bool
 pn:List (Addr×Obj)
 xe:Value->Shared->Prop
def lr (l:List Env):List Addr:=l.filterMap (·.frame)
abbrev Cx.fs (X:Cx):List Addr:=lr X.outer
def ni (sc:Scope)(x:Str):Prop:=sc.names.lookup x=some .local\/sc.names.lookup x=some .cell\/sc.names.lookup x=some .free
def Loc (sc:Scope)(x:Str):Prop:=sc.names.lookup x=some .local\/sc.names.lookup x=some .cell
def Look (env:Env)(h:Heap)(m:Str->Option Value)(x:Str)(u:Value):Prop:=
 (env.kindOf x=some .local/\m x=some u)\/((env.kindOf x=some .cell\/env.kindOf x=some .free)/\∃c,env.cells.lookup x=some c/\h.IsCell c (some u))
structure Cx.Ok (X:Cx):Prop where
 mod:Mod X.K X.mg X.base
 kind:X.env.scope.kind= .function
 glob:X.env.globals=mainGlobals
 blt:X.env.builtins=builtinsNs
 above:X.s₀.heap.objs.size<=X.env.locals
 inj:∀x y c,X.env.cells.lookup x=some c->X.env.cells.lookup y=some c->x=y
 has:∀x,(X.env.kindOf x=some .cell\/X.env.kindOf x=some .free)->∃c,X.env.cells.lookup x=some c
 cab:∀x c,X.fn x=true->X.env.cells.lookup x=some c->X.s₀.heap.objs.size<=c
 hd:X.calm=true->X.A.handled=none
 frames:X.A.frames=some X.stack
 stk:X.stack=X.outer\/(X.stack=X.env::X.outer/\X.env.frame=some X.env.locals)
 exf:∀b∈X.ex,b≠X.env.locals/\∀x c,X.env.cells.lookup x=some c->c≠b
 bs:∀b o,X.base.get? b=some o->X.s₀.heap.get? b=some o/\X.H₀ b=none
 bsz:X.base.objs.size<=X.s₀.heap.objs.size
 noex:∀b o,X.base.get? b=some o->b∉X.ex
 exfs:∀b∈X.ex,b∉X.fs
 funs:X.s₀.heap.FunFrames X.base X.outer
 frf:∀b∈X.fs,X.H₀ b=none
structure Inv (X:Cx)(pins:List (Addr×Obj))(σ:List (Option V))(H:Hp)(s:Shared):Prop where
 ok:X.Ok
 os:s.os=X.s₀.os
 bare:AllBare s.gens
 base:Un X.fs X.ex X.H₀ H X.s₀.heap s.heap
 loc:∃m,s.heap.Ns X.env.locals m/\∀(i:Nat) (x:Str) (v:V),X.N[i]? =some x->σ[i]? =some (some v)->ni X.env.scope x->∃u,RelV v u/\Look X.env s.heap m x u
 cell:∀x c,X.env.cells.lookup x=some c->∃v,s.heap.IsCell c v
 free:H X.env.locals=none
 freeC:∀x c,X.env.cells.lookup x=some c->H c=none
 pin:∀p∈X.pn++pins,s.heap.get? p.1=some p.2/\H p.1=none/\p.1≠X.env.locals/\p.1∉X.fs/\∀v,p.2.data≠ .cell v
 hok:HOk X.prog X.w H s.heap
 len:σ.length=X.N.length
section
variable {X:Cx}{pins:List (Addr×Obj)}{σ:List (Option V)}{H H':Hp}{s:Shared}{h':Heap}
theorem Cx.Ok.nofr (ok:X.Ok){b:Addr}{o:Obj}(e:X.base.get? b=some o):b∉X.fs:=λhb=>by
 have:=(ok.funs.mem hb).1;rw[e]at this;cases this
theorem Inv.bs (I:Inv X pins σ H s):∀b o,X.base.get? b=some o->s.heap.get? b=some o/\H b=none:=λb o e=>
 ⟨I.base.keep b o (I.ok.bs b o e).1 (I.ok.bs b o e).2 (I.ok.nofr e) (I.ok.noex b o e),I.base.free b o (I.ok.bs b o e).1 (I.ok.bs b o e).2 (I.ok.noex b o e)⟩
theorem Inv.bk (I:Inv X pins σ H s):∀b o,X.base.get? b=some o->s.heap.get? b=some o:=λb o e=>(I.bs b o e).1
theorem Inv.mod (I:Inv X pins σ H s):Mod X.K X.mg X.base:=I.ok.mod
theorem Inv.kIn (I:Inv X pins σ H s):X.K.In s.heap:=I.ok.mod.kin.keeps I.bk
theorem Inv.lt (I:Inv X pins σ H s):X.env.locals<s.heap.objs.size:=let ⟨_,hn,_⟩:=I.loc;hn.lt
theorem Inv.sz (I:Inv X pins σ H s):X.s₀.heap.objs.size<=s.heap.objs.size:=Nat.le_trans I.ok.above (Nat.le_of_lt I.lt)
theorem Inv.nofs (I:Inv X pins σ H s){a:Addr}(h:s.heap.objs.size<=a):a∉X.fs:=λhb=>by
 obtain⟨_,o,ho,_⟩:=I.ok.funs.mem hb;exact absurd (Nat.lt_of_lt_of_le (Heap.lt_size ho) (Nat.le_trans I.sz h)) (Nat.lt_irrefl _)
theorem Inv.cne (I:Inv X pins σ H s):∀x c,X.env.cells.lookup x=some c->c≠X.env.locals:=λx c e z=>by
 obtain⟨v,o,ho,hd⟩:=I.cell x c e;obtain⟨m,⟨o',es,ep,ho',hd',_⟩,_⟩:=I.loc;rw[z,ho']at ho;cases ho;rw[hd']at hd;cases hd
theorem Inv.funs (I:Inv X pins σ H s):s.heap.FunFrames X.base X.outer:=by
 have all:∀(l:List Env),(∀b∈lr l,b∈X.fs)->X.s₀.heap.FunFrames X.base l->s.heap.FunFrames X.base l:=by
  intro l
  induction l with
  | nil=>intro _ _;trivial
  | cons env r ih=>
   intro hs hl;obtain⟨hk,⟨L,o,hf,hn,ho,hd⟩,hr⟩:=hl
   have hL:L∈X.fs:=hs L (by unfold lr;rw[List.filterMap_cons,hf];exact List.mem_cons_self)
   obtain⟨sl,e⟩:=I.base.slot L o ho (I.ok.frf L hL) hL λz=>I.ok.exfs L z hL
   exact⟨hk,⟨L,_,hf,hn,e,hd⟩,ih (λb hb=>hs b (by unfold lr;rw[List.filterMap_cons,hf];exact List.mem_cons_of_mem _ hb)) hr⟩
 exact all X.outer (λ_ hb=>hb) I.ok.funs
theorem Inv.stack (I:Inv X pins σ H s):s.heap.FunFrames X.base X.stack:=by
 rcases I.ok.stk with e | ⟨e,hf⟩
 ·rw[e];exact I.funs
 ·rw[e]
  obtain⟨m,hn,_⟩:=I.loc;refine .cons (by rw[I.ok.kind];decide) hf hn ?_ I.funs
  exact Heap.get?_none_of_le (Nat.le_trans I.ok.bsz I.ok.above)
theorem Inv.stkSub (I:Inv X pins σ H s):∀b∈lr X.stack,b∈X.env.locals::X.fs:=λb hb=>by
 rcases I.ok.stk with e | ⟨e,hf⟩
 ·rw[e]at hb;exact List.mem_cons_of_mem _ hb
 ·rw[e]at hb
  unfold lr at hb;rw[List.filterMap_cons,hf]at hb;exact hb
theorem Inv.stkFree (I:Inv X pins σ H s):∀b∈lr X.stack,H b=none:=λb hb=>by
 rcases List.mem_cons.mp (I.stkSub b hb)with e | hb
 ·rw[e];exact I.free
 ·obtain⟨_,o,ho,_⟩:=I.ok.funs.mem hb
  exact I.base.free b o ho (I.ok.frf b hb) λz=>I.ok.exfs b z hb
theorem Inv.step {g':Array GenState}{t':Nat}{d':Drawn}{ch:List Addr}(I:Inv X pins σ H s)
  (hch:∀b∈ch,(b∈X.ex\/X.s₀.heap.objs.size<=b)/\b≠X.env.locals/\(∀x c,X.env.cells.lookup x=some c->c≠b)/\∀p∈X.pn++pins,p.1≠b)
  (keep:∀b o,b≠X.env.locals->b∉X.fs->b∉ch->s.heap.get? b=some o->H b=none->h'.get? b=some o)
  (slot:∀b o,b≠X.env.locals->b∈X.fs->b∉ch->s.heap.get? b=some o->H b=none->∃sl,h'.get? b=some { o with slots:=sl }) (free:∀b o,b∉ch->s.heap.get? b=some o->H b=none->H' b=none)
  (there:∀b o,b∉ch->s.heap.get? b=some o->∃o',h'.get? b=some o')
  (tups:∀b xs,H b=some (.tup xs)->H' b=some (.tup xs)) (frzs:∀b o u,H b=some (.frz o u)->H' b=some (.frz o u)) (tbls:∀b ps,H b=some (.tbl ps)->∃more,H' b=some (.tbl (ps++more)))
  (ns:∀m,s.heap.Ns X.env.locals m->h'.Ns X.env.locals m) (hok:HOk X.prog X.w H' h') (hg:AllBare g') :
  Inv X pins σ H' { s with heap:=h',gens:=g',drawn:=d',toks:=t' }:=by
 have neL:∀b o,X.s₀.heap.get? b=some o->b≠X.env.locals:=λb o e=>Nat.ne_of_lt (Nat.lt_of_lt_of_le (Heap.lt_size e) I.ok.above)
 have neC:∀b o,X.s₀.heap.get? b=some o->b∉X.ex->b∉ch:=λb o e hx hb=>by
  rcases(hch b hb).1 with z | z
  ·exact hx z
  ·exact absurd (Nat.lt_of_lt_of_le (Heap.lt_size e) z) (Nat.lt_irrefl _)
 have cellK:∀x c,X.env.cells.lookup x=some c->∀v,s.heap.IsCell c v->h'.IsCell c v:=λx c e v hh_=>by
  obtain⟨o,ho,hd⟩:=hh_
  have nch:c∉ch:=λz=>(hch c z).2.2.1 x c e rfl
  by_cases hc:c∈X.fs
  ·obtain⟨sl,q⟩:=slot c o (I.cne x c e) hc nch ho (I.freeC x c e)
   exact⟨_,q,hd⟩
  ·exact⟨o,keep c o (I.cne x c e) hc nch ho (I.freeC x c e),hd⟩
 refine⟨I.ok,I.os,hg,⟨λb o e n hb hx=> ?_,λb o e n hb hx=> ?_,λb o e n hx=> ?_,λb o e hx=> ?_,λb xs e=>tups b xs (I.base.tups b xs e),λb o xs e=>frzs b o xs (I.base.frzs b o xs e),λb ps e=> ?_⟩,?_,λx c e=> ?_,?_,λx c e=> ?_,λp hp=> ?_,hok,I.len⟩
 ·exact keep b o (neL b o e) hb (neC b o e hx) (I.base.keep b o e n hb hx) (I.base.free b o e n hx)
 ·obtain⟨sl,e1⟩:=I.base.slot b o e n hb hx
  obtain⟨sl',e2⟩:=slot b _ (neL b o e) hb (neC b o e hx) e1 (I.base.free b o e n hx);exact⟨sl',e2⟩
 ·obtain⟨o',e1⟩:=I.base.there b o e hx
  exact free b o' (neC b o e hx) e1 (I.base.free b o e n hx)
 ·obtain⟨o',e1⟩:=I.base.there b o e hx
  exact there b o' (neC b o e hx) e1
 ·obtain⟨m1,e1⟩:=I.base.tbls b ps e
  obtain⟨m2,e2⟩:=tbls b _ e1;exact⟨m1++m2,by rw[e2,Array.append_assoc]⟩
 ·obtain⟨m,hn,hl⟩:=I.loc
  refine⟨m,ns m hn,λi x v e1 e2 e3=> ?_⟩
  obtain⟨u,r,l⟩:=hl i x v e1 e2 e3;refine⟨u,r,?_⟩
  rcases l with l | ⟨k,c,e,z⟩
  ·exact .inl l
  ·exact .inr ⟨k,c,e,cellK x c e _ z⟩
 ·obtain⟨v,z⟩:=I.cell x c e
  exact⟨v,cellK x c e v z⟩
 ·obtain⟨m,⟨o,_,_,ho,_⟩,_⟩:=I.loc
  exact free _ o (λz=>(hch _ z).2.1 rfl) ho I.free
 ·obtain⟨v,o,ho,hd⟩:=I.cell x c e
  exact free c o (λz=>(hch c z).2.2.1 x c e rfl) ho (I.freeC x c e)
 ·obtain⟨e,n,ne,nf,d⟩:=I.pin p hp
  have nch:p.1∉ch:=λz=>(hch p.1 z).2.2.2 p hp rfl
  exact⟨keep p.1 p.2 ne nf nch e n,free p.1 p.2 nch e n,ne,nf,d⟩
theorem Inv.un {t':Nat}(I:Inv X pins σ H s)(u:Un X.fs [] H H' s.heap h')(hok:HOk X.prog X.w H' h'):Inv X pins σ H' { s with heap:=h',toks:=t' }:=by
 obtain⟨m,⟨o,es,ep,ho,r⟩,_⟩:=id I.loc;obtain⟨sl,hL⟩:=u.any ho I.free (by simp)
 exact I.step (g':=s.gens) (d':=s.drawn) (ch:=[]) (λ_ z=>nomatch z) (λb o _ hb _ e n=>u.keep b o e n hb (by simp)) (λb o _ hb _ e n=>u.slot b o e n hb (by simp)) (λb o _ e n=>u.free b o e n (by simp)) (λb o _ e=>u.there b o e (by simp)) u.tups u.frzs u.tbls (λm' hm=>by
  obtain⟨o',es',ep',ho',r'⟩:=hm;rw[ho]at ho';cases ho';exact⟨_,es',ep',hL,r'⟩) hok I.bare
theorem Inv.call {g':Array GenState}{t':Nat}{d':Drawn}{ch:List Addr}(I:Inv X pins σ H s)(u:Un (lr X.stack) ch H H' s.heap h')(hok:HOk X.prog X.w H' h')(hg:AllBare g')
  (hch:∀b∈ch,(b∈X.ex\/X.s₀.heap.objs.size<=b)/\b≠X.env.locals/\(∀x c,X.env.cells.lookup x=some c->c≠b)/\∀p∈X.pn++pins,p.1≠b) :
  Inv X pins σ H' { s with heap:=h',gens:=g',drawn:=d',toks:=t' }:=by
 obtain⟨m,⟨o,es,ep,ho,r⟩,_⟩:=id I.loc;obtain⟨sl,hL⟩:=u.any ho I.free λz=>(hch _ z).2.1 rfl
 exact I.step (ch:=ch) hch (λb o hL hb hc e n=>u.keep b o e n (λz=>(List.mem_cons.mp (I.stkSub b z)).elim hL hb) hc) (λb o _ _ hc e n=>u.any e n hc) (λb o hc e n=>u.free b o e n hc) (λb o hc e=>u.there b o e hc) u.tups u.frzs u.tbls (λm' hm=>by
  obtain⟨o',es',ep',ho',r'⟩:=hm;rw[ho]at ho';cases ho';exact⟨_,es',ep',hL,r'⟩) hok hg
theorem Inv.turned {t':Nat}{it:Addr}(I:Inv X pins σ H s)(k:∀b o,b≠it->s.heap.get? b=some o->h'.get? b=some o)(hn:H it=none)(hL:it≠X.env.locals)
  (h1:it∈X.ex\/X.s₀.heap.objs.size<=it) (h2:∀x c,X.env.cells.lookup x=some c->c≠it) (h3:∀p∈X.pn++pins,p.1≠it):Inv X pins σ H { s with heap:=h',toks:=t' }:=by
 have nit:∀b u,H b=some u->b≠it:=λb u e z=>by rw[z,hn]at e;cases e
 refine I.step (g':=s.gens) (d':=s.drawn) (ch:=[it]) (λb hb=> ?_) (λb o _ _ hc e _=>k b o (λz=>hc (by simp[z])) e) (λb o _ _ hc e _=>⟨o.slots,k b o (λz=>hc (by simp[z])) e⟩) (λ_ _ _ _ n=>n)
  (λb o hc e=>⟨o,k b o (λz=>hc (by simp[z])) e⟩) (λ_ _ e=>e) (λ_ _ _ e=>e) (λb ps e=>⟨#[],by rw[e];simp⟩) (λm hm=> ?_) (λb u e=> ?_) I.bare
 ·have e:b=it:=by simpa using hb
  subst e;exact⟨h1,hL,h2,h3⟩
 ·obtain⟨o,es,ep,ho,r⟩:=hm
  exact⟨o,es,ep,k _ o (Ne.symm hL) ho,r⟩
 ·refine(I.hok b u e).stay (λc v hc q=>k c v ?_ q) (λ_ q=>q) λ_ _ q=>q
  rcases hc with z | z
  ·rw[z];exact nit b u e
  ·exact nit c _ z
theorem Inv.tok (I:Inv X pins σ H s)(t:Nat):Inv X pins σ H { s with toks:=t }:=I.un (h':=s.heap) (t':=t) Un.refl I.hok
theorem Inv.kept {t':Nat}(I:Inv X pins σ H s)(k:∀b u,s.heap.get? b=some u->h'.get? b=some u):Inv X pins σ H { s with heap:=h',toks:=t' }:=I.un (Un.kept k) (I.hok.kept k)
theorem Inv.laid {a:Addr}{o:HO}{t':Nat}(I:Inv X pins σ H s)(k:∀b u,s.heap.get? b=some u->h'.get? b=some u)(hp:s.heap.objs.size<=a)(new:ObjOk X.prog X.w (upd H a o) h' a o) :
  Inv X pins σ (upd H a o) { s with heap:=h',toks:=t' }:=I.un (Un.laid k hp (I.hok.fresh hp)) (I.hok.laid k hp new)
theorem Inv.write {x e:Addr}{o:HO}{t':Nat}(I:Inv X pins σ H s)(mu:Dc (H x))(he:e=x\/H e=some (.own x))(k:∀b u,b≠e->s.heap.get? b=some u->h'.get? b=some u)(heo:∃u,h'.get? e=some u)
  (new:ObjOk X.prog X.w (upd H x o) h' x o):Inv X pins σ (upd H x o) { s with heap:=h',toks:=t' }:=I.un (Un.write mu he k heo) (I.hok.write mu he k heo new)
theorem Inv.pins_of {pins':List (Addr×Obj)}(I:Inv X pins σ H s)(h:∀p∈pins',s.heap.get? p.1=some p.2/\H p.1=none/\p.1≠X.env.locals/\p.1∉X.fs/\∀v,p.2.data≠ .cell v):Inv X pins' σ H s:=
 ⟨I.ok,I.os,I.bare,I.base,I.loc,I.cell,I.free,I.freeC,λp hp=>(List.mem_append.mp hp).elim (λz=>I.pin p (List.mem_append_left _ z)) (h p),I.hok,I.len⟩
theorem pR {N:List Str}(hN:N.Nodup){i j:Nat}{x:Str}(a:N[i]? =some x)(b:N[j]? =some x):i=j:=by
 obtain⟨h1,e1⟩:=List.getElem?_eq_some_iff.mp a
 obtain⟨h2,e2⟩:=List.getElem?_eq_some_iff.mp b
 exact(List.getElem_inj hN).mp (e1.trans e2.symm)
theorem mz {M:Model}{A:Around}{E:Value->Shared->Prop}{i:Nat}{x:Str}{v:V}{u:Value}{Q:Unit->Shared->Prop}(I:Inv X pins σ H s)(hN:X.N.Nodup)(hi:X.N[i]? =some x)(hx:Loc X.env.scope x)(r:RelV v u)
  (h:∀s',Inv X pins (σ.set i (some v)) H s'->(∃a,Heap.SameBut a s.heap s'.heap/\(a=X.env.locals\/X.env.cells.lookup x=some a))->Q () s') (hf:X.fn x=true\/X.env.scope.names.lookup x=some .local:=by first | exact .inl rfl | exact .inr rfl | assumption):wpAny M A (storeName X.env x u) Q E s:=by
 obtain⟨m,hn,hl⟩:=id I.loc
 have hcls:(X.env.scope.kind == .class||(X.env.scope.kind == .module&&X.env.locals != X.env.globals))=false:=by rw[I.ok.kind];rfl
 have hiσ:i<σ.length:=by rw[I.len];exact(List.getElem?_eq_some_iff.mp hi).1
 have cne:=I.cne
 have tracked:∀{a:Addr} {h':Heap},(∃o,s.heap.get? a=some o/\H a=none)->Heap.SameBut a s.heap h'->HOk X.prog X.w H h':=λ{a h'} ha hs b ob e=>by
  obtain⟨_,_,hfree⟩:=ha;refine(I.hok b ob e).stay (λc w' hc q=>(hs.2 c ?_).trans q) (λ_ q=>q) λ_ _ q=>q
  rintro rfl
  rcases hc with rfl | hc
  ·rw[hfree]at e;cases e
  ·rw[hfree]at hc;cases hc
 rcases hx with hk | hk
 ·refine wpAny_storeName_local hk hn (λh' hn' hs=> ?_) hcls
  obtain⟨oL,_,_,hoL,_⟩:=id hn;refine h _ ⟨I.ok,I.os,I.bare,⟨λb o e n hb hx=> ?_,λb o e n hb hx=> ?_,I.base.free,λb o e hx=> ?_,I.base.tups,I.base.frzs,I.base.tbls⟩,⟨_,hn',λj y v' e1 e2 e3=> ?_⟩,λy c e=> ?_,I.free,I.freeC,λp hp=> ?_,tracked ⟨oL,hoL,I.free⟩ hs,by simpa using I.len⟩ ⟨_,hs,.inl rfl⟩
  ·exact(hs.2 b (Nat.ne_of_lt (Nat.lt_of_lt_of_le (Heap.lt_size e) I.ok.above))).trans (I.base.keep b o e n hb hx)
  ·obtain⟨sl,e1⟩:=I.base.slot b o e n hb hx
   exact⟨sl,(hs.2 b (Nat.ne_of_lt (Nat.lt_of_lt_of_le (Heap.lt_size e) I.ok.above))).trans e1⟩
  ·obtain⟨o',e1⟩:=I.base.there b o e hx
   exact⟨o',(hs.2 b (Nat.ne_of_lt (Nat.lt_of_lt_of_le (Heap.lt_size e) I.ok.above))).trans e1⟩
  ·by_cases hj:j=i
   ·subst hj
    rw[hi]at e1;cases e1;rw[List.getElem?_set_self hiσ]at e2
    cases e2;exact⟨u,r,.inl ⟨hk,by simp⟩⟩
   ·rw[List.getElem?_set_ne (Ne.symm hj)]at e2
    obtain⟨u',r',q⟩:=hl j y v' e1 e2 e3;refine⟨u',r',?_⟩
    rcases q with⟨k,e⟩ | ⟨k,c,e,z⟩
    ·refine .inl ⟨k,?_⟩
     have:y≠x:=λe=>hj (pR hN e1 (e▸hi))
     simp[this,e]
    ·exact .inr ⟨k,c,e,z.sameBut hs (cne y c e)⟩
  ·obtain⟨w',z⟩:=I.cell y c e
   exact⟨w',z.sameBut hs (cne y c e)⟩
  ·obtain⟨e,n,ne,nf,d⟩:=I.pin p hp
   exact⟨(hs.2 p.1 ne).trans e,n,ne,nf,d⟩
 ·have hfn:X.fn x=true:=by
   rcases hf with z | z
   ·exact z
   ·rw[z]at hk;cases hk
  obtain⟨c,hc⟩:=I.ok.has x (.inl hk);obtain⟨w',z⟩:=I.cell x c hc;refine wpAny_storeName_cell I.ok.kind hk hc z (λh' hc' hs=> ?_)
  obtain⟨oc,hoc,hocd⟩:=id z;refine h { s with heap:=h' } ⟨I.ok,I.os,I.bare,⟨λb o e n hb hx=> ?_,λb o e n hb hx=> ?_,I.base.free,λb o e hx=> ?_,I.base.tups,I.base.frzs,I.base.tbls⟩,⟨m,hn.sameBut hs (Ne.symm (cne x c hc)),λj y v' e1 e2 e3=> ?_⟩,λy c' e=> ?_,I.free,I.freeC,λp hp=> ?_,tracked ⟨oc,hoc,I.freeC x c hc⟩ hs,by simpa using I.len⟩ ⟨c,hs,.inr hc⟩
  ·exact(hs.2 b (Nat.ne_of_lt (Nat.lt_of_lt_of_le (Heap.lt_size e) (I.ok.cab x c hfn hc)))).trans (I.base.keep b o e n hb hx)
  ·obtain⟨sl,e1⟩:=I.base.slot b o e n hb hx
   exact⟨sl,(hs.2 b (Nat.ne_of_lt (Nat.lt_of_lt_of_le (Heap.lt_size e) (I.ok.cab x c hfn hc)))).trans e1⟩
  ·obtain⟨o',e1⟩:=I.base.there b o e hx
   exact⟨o',(hs.2 b (Nat.ne_of_lt (Nat.lt_of_lt_of_le (Heap.lt_size e) (I.ok.cab x c hfn hc)))).trans e1⟩
  ·by_cases hj:j=i
   ·subst hj
    rw[hi]at e1;cases e1;rw[List.getElem?_set_self hiσ]at e2
    cases e2;exact⟨u,r,.inr ⟨.inl hk,c,hc,hc'⟩⟩
   ·rw[List.getElem?_set_ne (Ne.symm hj)]at e2
    obtain⟨u',r',q⟩:=hl j y v' e1 e2 e3;refine⟨u',r',?_⟩
    rcases q with q | ⟨k,c',e,z'⟩
    ·exact .inl q
    ·refine .inr ⟨k,c',e,z'.sameBut hs ?_⟩
     rintro rfl
     exact hj (pR hN e1 (I.ok.inj _ _ _ e hc▸hi))
  ·by_cases hcc:c'=c
   ·subst hcc;exact⟨_,hc'⟩
   ·obtain⟨w2,z2⟩:=I.cell y c' e
    exact⟨w2,z2.sameBut hs hcc⟩
  ·obtain⟨e,n,ne,nf,d⟩:=I.pin p hp
   refine⟨(hs.2 p.1 ?_).trans e,n,ne,nf,d⟩
   intro q;rw[q,hoc]at e
   have q':oc=p.2:=Option.some.inj e;exact d w' (by rw[<-q'];exact hocd)
theorem kF {M:Model}{A:Around}{E:Value->Shared->Prop}{i:Nat}{x:Str}{v:V}{u:Value}{Q:Unit->Shared->Prop}(I:Inv X pins σ H s)(hN:X.N.Nodup)(hi:X.N[i]? =some x)(hx:Loc X.env.scope x)(r:RelV v u)
  (h:∀s',Inv X pins (σ.set i (some v)) H s'->Q () s') (hf:X.fn x=true\/X.env.scope.names.lookup x=some .local:=by first | exact .inl rfl | exact .inr rfl | assumption):wpAny M A (storeName X.env x u) Q E s:=
 mz I hN hi hx r (λs' I' _=>h s' I') hf
theorem Inv.call' {s':Shared}{ch:List Addr}(I:Inv X pins σ H s)(ho:s'.os=s.os)(u:Un (lr X.stack) ch H H' s.heap s'.heap)(hok:HOk X.prog X.w H' s'.heap)(hg:AllBare s'.gens)
  (hch:∀b∈ch,(b∈X.ex\/X.s₀.heap.objs.size<=b)/\b≠X.env.locals/\(∀x c,X.env.cells.lookup x=some c->c≠b)/\∀p∈X.pn++pins,p.1≠b):Inv X pins σ H' s':=by
 obtain⟨h',g',d',t',o'⟩:=s'
 have e:o'=s.os:=ho;subst e;exact I.call (g':=g') (t':=t') (d':=d') u hok hg hch
end
abbrev XK:=Value->Option Addr->Hp->Prop
abbrev St:=List (Option V)
abbrev VK:=V->Hp->Prop
abbrev TE:=St->Hp->VK->Prop
abbrev TT:=St->Hp->(Bool->Hp->Prop)->Prop
abbrev TA:=St->Hp->(List V->Hp->Prop)->Prop
structure oK where
 nx:St->Hp->Prop
 rt:VK
 bk:St->Hp->Prop:=λ_ _=>False
 ct:St->Hp->Prop:=λ_ _=>False
abbrev TS:=oK->St->Hp->Prop
def EP (X:Cx)(pins:List (Addr×Obj))(σ:St)(Q:VK)(u:Value)(s':Shared):Prop:=∃v H',Inv X pins σ H' s'/\RelV v u/\Q v H'
def TP (X:Cx)(pins:List (Addr×Obj))(σ:St)(Q:Bool->Hp->Prop)(b:Bool)(s':Shared):Prop:=∃H',Inv X pins σ H' s'/\Q b H'
def AP (X:Cx)(pins:List (Addr×Obj))(σ:St)(Q:List V->Hp->Prop)(us:List Value)(s':Shared):Prop:=∃vs H',Inv X pins σ H' s'/\Vals vs us/\Q vs H'
def SP (X:Cx)(pins:List (Addr×Obj))(D:oK)(f:Flow)(s':Shared):Prop:=
 match f with
 | .next=> ∃σ' H',Inv X pins σ' H' s'/\D.nx σ' H'
 | .brk=> ∃σ' H',Inv X pins σ' H' s'/\D.bk σ' H'
 | .cont=> ∃σ' H',Inv X pins σ' H' s'/\D.ct σ' H'
 | .ret u=> ∃v σ' H',Inv X pins σ' H' s'/\RelV v u/\D.rt v H'
def PE (X:Cx)(e:Expr)(t:TE):Prop:=
 ∀(pins:List (Addr×Obj)) (s:Shared) (σ:St) (H:Hp) (Q:VK),Inv X pins σ H s->t σ H Q->wpAny (model X.prog X.w) X.A (eval e X.env) (EP X pins σ Q) X.xe s
def PT (X:Cx)(e:Expr)(t:TT):Prop:=
 ∀(pins:List (Addr×Obj)) (s:Shared) (σ:St) (H:Hp) (Q:Bool->Hp->Prop),Inv X pins σ H s->t σ H Q->wpAny (model X.prog X.w) X.A (isTrue e X.env (eval e X.env)) (TP X pins σ Q) X.xe s
def PW (X:Cx)(e:Expr)(t:TT):Prop:=
 ∀(whole:Sem Value) (pins:List (Addr×Obj)) (s:Shared) (σ:St) (H:Hp) (Q:Bool->Hp->Prop),Inv X pins σ H s->t σ H Q->wpAny (model X.prog X.w) X.A (isTrue e X.env whole) (TP X pins σ Q) X.xe s
theorem PW.pt {X:Cx}{e:Expr}{t:TT}(h:PW X e t):PT X e t:=h _
def PA (X:Cx)(es:List Expr)(t:TA):Prop:=
 ∀(pos:Pos) (pins:List (Addr×Obj)) (s:Shared) (σ:St) (H:Hp) (Q:List V->Hp->Prop),Inv X pins σ H s->t σ H Q->wpAny (model X.prog X.w) X.A (spliced (backTo pos (starEach es X.env))) (AP X pins σ Q) X.xe s
def PS (X:Cx)(st:Stmt)(t:TS):Prop:=
 ∀(pins:List (Addr×Obj)) (s:Shared) (σ:St) (H:Hp) (D:oK),Inv X pins σ H s->t D σ H->wpAny (model X.prog X.w) X.A (exec st X.env) (SP X pins D) X.xe s
def PSs (X:Cx)(st:List Stmt)(t:TS):Prop:=
 ∀(pins:List (Addr×Obj)) (s:Shared) (σ:St) (H:Hp) (D:oK),Inv X pins σ H s->t D σ H->wpAny (model X.prog X.w) X.A (execs st X.env) (SP X pins D) X.xe s
theorem bS {α:Type}{t:Sem α}{Q Q':α->Shared->Prop}{M:Model}{A:Around}{E:Value->Shared->Prop}{s:Shared}(h:wpAny M A t Q E s)(hQ:∀a s,Q a s->Q' a s):wpAny M A t Q' E s:=wpAny_mono h hQ λ_ _ x=>x
section
variable {X:Cx}
def kE (i:Nat):TE:=λσ H Q=> ∃v,σ[i]? =some (some v)/\Q v H
def tC (v:V):TE:=λ_ H Q=>Q v H
theorem fN {i:Nat}{x:Str}{pos:Pos}(hN:X.N[i]? =some x)(hv:ni X.env.scope x)(hd:(x == ("__debug__" : Str))=false:=by decide)(hcd:(x == ("__classdict__" : Str))=false:=by decide):PE X (.Name x pos) (kE i):=by
 intro pins s σ H Q I h;obtain⟨v,e,h⟩:=h;obtain⟨m,hn,hl⟩:=I.loc;obtain⟨u,r,l⟩:=hl i x v hN e hv
 have fin:EP X pins σ Q u s:=⟨v,H,I,r,h⟩;rcases l with⟨hk,hm⟩ | ⟨hk,c,hc,hcell⟩
 ·exact wpAny_Name (wpAny_loadName_local I.ok.kind hk hn hm fin) hd
 ·rcases hk with hk | hk
  ·exact wpAny_Name (wpAny_loadName_cell I.ok.kind hk hc hcell fin) hd
  ·exact wpAny_Name (wpAny_loadName_free I.ok.kind hk hc hcell fin hcd) hd
theorem vn {i j pos}:PE X (.Constant (.int i) j pos) (tC (.int i)):=λ_ _ _ H _ I h=>wpAny_Constant_int ⟨.int i,H,I.tok _,⟨_,rfl⟩,h⟩
theorem vq {b j pos}:PE X (.Constant (.bool b) j pos) (tC (.bl b)):=λ_ _ _ H _ I h=>Constant_bool ⟨.bl b,H,I,rfl,h⟩
theorem vm {j pos}:PE X (.Constant .none j pos) (tC .non):=λ_ _ _ H _ I h=>Constant_none ⟨.non,H,I,rfl,h⟩
theorem vj {x j pos}:PE X (.Constant (.str x) j pos) (tC (.str x)):=λ_ _ _ H _ I h=>Calls.Constant_str ⟨.str x,H,I.tok _,⟨_,rfl⟩,h⟩
def Gl (X:Cx)(x:Str):Prop:=X.env.kindOf x=some .globalImplicit
theorem ii {E:Value->Shared->Prop}{pins:List (Addr×Obj)}{s:Shared}{σ:St}{H:Hp}{x:Str}{u:Value}{pos:Pos}{Q:Value->Shared->Prop}(I:Inv X pins σ H s)(hg:Gl X x)(hm:X.mg x=some u)(h:Q u s)
  (hd:(x == ("__debug__" : Str))=false:=by decide):wpAny (model X.prog X.w) X.A (eval (.Name x pos) X.env) Q E s:=
 Calls.Name_function_global I.ok.kind hg (Calls.loadGlobal_global (by rw[I.ok.glob];exact I.mod.glob.keeps I.bk) hm h) hd
theorem eI {E:Value->Shared->Prop}{pins:List (Addr×Obj)}{s:Shared}{σ:St}{H:Hp}{x:Str}{u:Value}{pos:Pos}{Q:Value->Shared->Prop}(I:Inv X pins σ H s)(hg:Gl X x)(hm:X.mg x=none)(hv:bootBuiltins x=some u)(h:Q u s)
  (hn:x≠ "__name__":=by decide) (hd:(x == ("__debug__" : Str))=false:=by decide):wpAny (model X.prog X.w) X.A (eval (.Name x pos) X.env) Q E s:=by
 obtain⟨mb,h1,h2⟩:=I.mod.blt;exact Calls.Name_function_global I.ok.kind hg (Calls.loadGlobal_builtin (by rw[I.ok.glob];exact I.mod.glob.keeps I.bk) hm (by rw[I.ok.blt];exact h1.keeps I.bk) ((h2 x hn).trans hv) h) hd
theorem nR {x:Str}{v:V}{u:Value}{pos:Pos}(hg:Gl X x)(hm:X.mg x=some u)(r:RelV v u)(hd:(x == ("__debug__" : Str))=false:=by decide):PE X (.Name x pos) (tC v):=
 λ_ _ _ H _ I h=>ii I hg hm ⟨v,H,I,r,h⟩ hd
theorem r6 {x:Str}{v:V}{u:Value}{pos:Pos}(hg:Gl X x)(hm:X.mg x=none)(hv:bootBuiltins x=some u)(r:RelV v u)(hn:x≠ "__name__":=by decide)(hd:(x == ("__debug__" : Str))=false:=by decide):PE X (.Name x pos) (tC v):=
 λ_ _ _ H _ I h=>eI I hg hm hv ⟨v,H,I,r,h⟩ hn hd
variable {a b:Expr}{ta tb:TE}{pos:Pos}
def tB (t:TE):TT:=λσ H Q=>t σ H λx H1=> ∃c,x= .bl c/\Q c H1
theorem vd {e:Expr}{t:TE}(h:PE X e t)(he:∀whole,isTrue e X.env whole=(do let v <-whole;standAt e.pos;holding [v] (truthy v)):=by intro _;rfl):PT X e (tB t):=by
 intro pins s σ H Q I hw;refine isTrue_plain (bS (h pins s σ H _ I hw) λv s1 ⟨x,H1,I1,r1,q1⟩=> ?_) (he _)
 obtain⟨d,rfl,q⟩:=q1;cases r1;exact wpAny_truthy_bool ⟨H1,I1,q⟩
variable {tA tB':TT}{rest:List Expr}
def tAnd (t u:TT):TT:=λσ H Q=>t σ H λc H1=>if c=true then u σ H1 Q else Q false H1
def tOr (t u:TT):TT:=λσ H Q=>t σ H λc H1=>if c=true then Q true H1 else u σ H1 Q
def tNot (t:TT):TT:=λσ H Q=>t σ H λc H1=>Q (!c) H1
theorem xW (ha:PT X a tA):PW X (.BoolOp .And [a] pos) tA:=by
 intro wh pins s σ H Q I h;refine isTrue_and (bS (ha pins s σ H Q I h) λc s1 e=> ?_)
 cases c with
 | true=>exact isTrue_and_nil e
 | false=>exact e
theorem u9 (ha:PT X a tA):PW X (.BoolOp .Or [a] pos) tA:=by
 intro wh pins s σ H Q I h;refine isTrue_or (bS (ha pins s σ H Q I h) λc s1 e=> ?_)
 cases c with
 | false=>exact isTrue_or_nil e
 | true=>exact e
theorem AF (ha:PT X a tA)(hb:PW X (.BoolOp .And (b::rest) pos) tB'):PW X (.BoolOp .And (a::b::rest) pos) (tAnd tA tB'):=by
 intro wh pins s σ H Q I h;refine isTrue_and (bS (ha pins s σ H _ I h) λc s1 hh_=> ?_)
 obtain⟨H1,I1,q1⟩:=hh_
 cases c with
 | true=>exact hb wh pins s1 σ H1 Q I1 q1
 | false=>exact⟨H1,I1,q1⟩
theorem zu (ha:PT X a tA)(hb:PW X (.BoolOp .Or (b::rest) pos) tB'):PW X (.BoolOp .Or (a::b::rest) pos) (tOr tA tB'):=by
 intro wh pins s σ H Q I h;refine isTrue_or (bS (ha pins s σ H _ I h) λc s1 hh_=> ?_)
 obtain⟨H1,I1,q1⟩:=hh_
 cases c with
 | true=>exact⟨H1,I1,q1⟩
 | false=>exact hb wh pins s1 σ H1 Q I1 q1
theorem ve (ha:PT X a tA):PT X (.UnaryOp .Not a pos) (tNot tA):=by
 intro pins s σ H Q I h;exact isTrue_not (ha pins s σ H (λc H1=>Q (!c) H1) I h)
def BZ (ta tb:TE):TE:=λσ H Q=>ta σ H λx H1=> ∃c,x= .bl c/\if c=true then tb σ H1 Q else Q (.bl false) H1
def tOrV (ta tb:TE):TE:=λσ H Q=>ta σ H λx H1=> ∃c,x= .bl c/\if c=true then Q (.bl true) H1 else tb σ H1 Q
def BT (ta:TE):TE:=λσ H Q=>ta σ H λx H1=> ∃c,x= .bl c/\Q (.bl (!c)) H1
theorem AK {op}{t:TE}(h:PE X a t):PE X (.BoolOp op [a] pos) t:=λpins s σ H Q I hw=>BoolOp_one (h pins s σ H Q I hw)
theorem AN (ha:PE X a ta)(hb:PE X (.BoolOp .And (b::rest) pos) tb):PE X (.BoolOp .And (a::b::rest) pos) (BZ ta tb):=by
 intro pins s σ H Q I h;refine BoolOp_and (bS (ha pins s σ H _ I h) λv s1 hh_=> ?_)
 obtain⟨x,H1,I1,r1,q1⟩:=hh_;obtain⟨c,rfl,q1⟩:=q1;cases r1;refine wpAny_truthy_bool ?_
 cases c with
 | true=>exact hb pins s1 σ H1 Q I1 q1
 | false=>exact⟨.bl false,H1,I1,rfl,q1⟩
theorem Cu (ha:PE X a ta)(hb:PE X (.BoolOp .Or (b::rest) pos) tb):PE X (.BoolOp .Or (a::b::rest) pos) (tOrV ta tb):=by
 intro pins s σ H Q I h;refine BoolOp_or (bS (ha pins s σ H _ I h) λv s1 hh_=> ?_)
 obtain⟨x,H1,I1,r1,q1⟩:=hh_;obtain⟨c,rfl,q1⟩:=q1;cases r1;refine wpAny_truthy_bool ?_
 cases c with
 | false=>exact hb pins s1 σ H1 Q I1 q1
 | true=>exact⟨.bl true,H1,I1,rfl,q1⟩
theorem AL (ha:PE X a ta):PE X (.UnaryOp .Not a pos) (BT ta):=by
 intro pins s σ H Q I h;refine UnaryOp_ (bS (ha pins s σ H _ I h) λv s1 hh_=> ?_)
 obtain⟨x,H1,I1,r1,q1⟩:=hh_;obtain⟨c,rfl,q1⟩:=q1;cases r1;exact not_of (wpAny_truthy_bool ⟨.bl (!c),H1,I1,rfl,q1⟩)
def tIf (t:TT)(ta tb:TE):TE:=λσ H Q=>t σ H λc H1=>if c=true then ta σ H1 Q else tb σ H1 Q
theorem vo {c:Expr}(hc:PT X c tA)(ha:PE X a ta)(hb:PE X b tb):PE X (.IfExp c a b pos) (tIf tA ta tb):=by
 intro pins s σ H Q I h;refine wpAny_IfExp (bS (hc pins s σ H _ I h) λd s1 hh_=> ?_)
 obtain⟨H1,I1,q1⟩:=hh_
 cases d with
 | true=>exact ha pins s1 σ H1 Q I1 q1
 | false=>exact hb pins s1 σ H1 Q I1 q1
end
def SqL (K:PySem.W.Frag)(H:Hp)(a:Addr)(xs:List V):Prop:=
 Rd H a (.lst xs) ∨
  ∃(o:Obj) (its:Array Value) (n:Nat),K.lookup a=some o/\o.cls= .type "list"/\o.dict=none/\o.data= .seq its n/\its.size<=sizeLine/\Vals xs its.toList
def SqT (K:PySem.W.Frag)(H:Hp)(a:Addr)(xs:List V):Prop:=
 Rd H a (.tup xs) ∨
  ∃(o:Obj) (its:Array Value) (n:Nat),K.lookup a=some o/\o.cls= .type "tuple"/\o.data= .seq its n/\its.size<=sizeLine/\Vals xs its.toList
def absV:Value->Option V
 | .none=>some .non
 | .bool b=>some (.bl b)
 | .int i _=>some (.int i)
 | .str x _=>some (.str x)
 | .bytes b _=>some (.byt b)
 | .float b _=>some (.flt b)
 | .ref a=>some (.ref a)
 | .type n=>some (.ty n)
 | _=>none
theorem RelV.abs {x:V}{u:Value}(r:RelV x u):absV u=some x:=by
 cases x with
 | non=>cases r;rfl
 | bl _=>cases r;rfl
 | int _=>obtain⟨t,rfl⟩:=r;rfl
 | str _=>obtain⟨t,rfl⟩:=r;rfl
 | byt _=>obtain⟨t,rfl⟩:=r;rfl
 | flt _=>obtain⟨t,rfl⟩:=r;rfl
 | ref _=>cases r;rfl
 | ty _=>cases r;rfl
theorem RelV.inj {x y:V}{u:Value}(r:RelV x u)(q:RelV y u):x=y:=Option.some.inj (r.abs.symm.trans q.abs)
theorem Vals.inj:∀{xs ys:List V} {us:List Value},Vals xs us->Vals ys us->xs=ys
 | _,_,_,.nil,.nil=>rfl
 | _,_,_,.cons r t,.cons r' t'=>by rw[r.inj r',Vals.inj t t']
section
variable {X:Cx}{pins:List (Addr×Obj)}{σ:St}{H:Hp}{s:Shared}{a:Addr}{xs ys:List V}
theorem SqL.of {K:PySem.W.Frag}(h:H a=some (.lst xs)):SqL K H a xs:=.inl (.inl h)
theorem SqT.of {K:PySem.W.Frag}(h:H a=some (.tup xs)):SqT K H a xs:=.inl (.inl h)
theorem Inv.list (I:Inv X pins σ H s)(h:SqL X.K H a xs):∃its:List Value,Vals xs its/\PlainL s.heap a its.toArray/\xs.length<=sizeLine:=by
 rcases h with h | ⟨o,its,n,hk,hc,hd,hs,hz,r⟩
 ·obtain⟨z,its,n,r,e⟩:=h.ok I.hok
  exact⟨its,r,⟨_,n,e,rfl,rfl,rfl⟩,z⟩
 ·refine⟨its.toList,r,⟨o,n,I.kIn a o hk,hc,hd,by simpa using hs⟩,?_⟩
  have e:=r.length;simp only[Array.length_toList]at e;omega
theorem Inv.tuple (I:Inv X pins σ H s)(h:SqT X.K H a xs):∃its:List Value,Vals xs its/\IsTup s.heap a its.toArray/\xs.length<=sizeLine:=by
 rcases h with h | ⟨o,its,n,hk,hc,hs,hz,r⟩
 ·obtain⟨z,its,r,p⟩:=h.ok I.hok
  exact⟨its,r,p,z⟩
 ·refine⟨its.toList,r,⟨o,I.kIn a o hk,hc,n,by simpa using hs⟩,?_⟩
  have e:=r.length;simp only[Array.length_toList]at e;omega
theorem Inv.list_inj (I:Inv X pins σ H s)(h:SqL X.K H a xs)(h':SqL X.K H a ys):xs=ys:=by
 obtain⟨its,r,⟨o,n,e,_,_,d⟩,_⟩:=I.list h;obtain⟨its',r',⟨o',n',e',_,_,d'⟩,_⟩:=I.list h';rw[e]at e';cases e';rw[d]at d';injection d' with d1 _
 have:its=its':=by simpa using congrArg Array.toList d1
 subst this;exact r.inj r'
theorem Inv.tuple_inj (I:Inv X pins σ H s)(h:SqT X.K H a xs)(h':SqT X.K H a ys):xs=ys:=by
 obtain⟨its,r,⟨o,e,_,n,d⟩,_⟩:=I.tuple h;obtain⟨its',r',⟨o',e',_,n',d'⟩,_⟩:=I.tuple h';rw[e]at e';cases e';rw[d]at d';injection d' with d1 _
 have:its=its':=by simpa using congrArg Array.toList d1
 subst this;exact r.inj r'
end
abbrev Cx.wish (X:Cx)(E:Value->Shared->Prop):Cx:={ X with xe:=E }
abbrev Cx.nox (X:Cx):Cx:=X.wish λ_ _=>False
theorem Cx.Ok.wish {X:Cx}(ok:X.Ok)(E:Value->Shared->Prop):(X.wish E).Ok:=
 ⟨ok.mod,ok.kind,ok.glob,ok.blt,ok.above,ok.inj,ok.has,ok.cab,ok.hd,ok.frames,ok.stk,ok.exf,ok.bs,ok.bsz,ok.noex,ok.exfs,ok.funs,ok.frf⟩
theorem Cx.Ok.unwish {X:Cx}{E:Value->Shared->Prop}(ok:(X.wish E).Ok):X.Ok:=
 ⟨ok.mod,ok.kind,ok.glob,ok.blt,ok.above,ok.inj,ok.has,ok.cab,ok.hd,ok.frames,ok.stk,ok.exf,ok.bs,ok.bsz,ok.noex,ok.exfs,ok.funs,ok.frf⟩
section
variable {X:Cx}{pins:List (Addr×Obj)}{σ:St}{H:Hp}{s:Shared}{E:Value->Shared->Prop}
theorem Inv.wish (I:Inv X pins σ H s)(E:Value->Shared->Prop):Inv (X.wish E) pins σ H s:=⟨I.ok.wish E,I.os,I.bare,I.base,I.loc,I.cell,I.free,I.freeC,I.pin,I.hok,I.len⟩
theorem Inv.unwish (I:Inv (X.wish E) pins σ H s):Inv X pins σ H s:=⟨I.ok.unwish,I.os,I.bare,I.base,I.loc,I.cell,I.free,I.freeC,I.pin,I.hok,I.len⟩
theorem SP.unwish {D:oK}{f:Flow}{s':Shared}(h:SP (X.wish E) pins D f s'):SP X pins D f s':=by
 cases f with
 | next=>obtain⟨σ',H',I,q⟩:=h;exact⟨σ',H',I.unwish,q⟩
 | brk=>obtain⟨σ',H',I,q⟩:=h;exact⟨σ',H',I.unwish,q⟩
 | cont=>obtain⟨σ',H',I,q⟩:=h;exact⟨σ',H',I.unwish,q⟩
 | ret u=>obtain⟨v,σ',H',I,r,q⟩:=h;exact⟨v,σ',H',I.unwish,r,q⟩
theorem PSs.nox {st:List Stmt}{t:TS}(h:PSs X.nox st t):PSs X st t:=λpins s σ H D I hw=>
 wpAny_mono (h pins s σ H D (I.wish _) hw) (λ_ _ q=>q.unwish) λ_ _ z=>False.elim z
end
section
variable {X:Cx}{st:Stmt}{rest:List Stmt}{t u:TS}{e:Expr}{te:TE}{pos:Pos}
def BU:TS:=λD σ H=>D.nx σ H
def tSeq (t u:TS):TS:=λD σ H=>t { D with nx:=u D } σ H
theorem rS:PSs X [] BU:=λ_ _ σ H _ I h=>wpAny_execs_nil ⟨σ,H,I,h⟩
theorem jc (h1:PS X st t)(h2:PSs X rest u):PSs X (st::rest) (tSeq t u):=by
 intro pins s σ H D I h;refine wpAny_execs_cons (bS (h1 pins s σ H { D with nx:=u D } I h) λf s1 q=> ?_)
 cases f with
 | next=>
  obtain⟨σ',H',I',q⟩:=q
  exact h2 pins s1 σ' H' D I' q
 | ret v=>exact q
 | brk=>exact q
 | cont=>exact q
theorem eR (h1:PS X st t):PSs X [st] t:=by
 intro pins s σ H D I h;refine wpAny_execs_cons (bS (h1 pins s σ H D I h) λf s1 q=> ?_)
 cases f with
 | next=>exact wpAny_execs_nil q
 | ret v=>exact q
 | brk=>exact q
 | cont=>exact q
theorem Inv.quiet {pins:List (Addr×Obj)}{σ:St}{H:Hp}{s:Shared}(I:Inv X pins σ H s):interactive X.env=false:=by simp[interactive,I.ok.kind]
def BW (te:TE):TS:=λD σ H=>te σ H λ_ H1=>D.nx σ H1
theorem nM (he:PE X e te)(hs:swapsWith e none pos.line X.env=pure false:=by rfl):PS X (.Expr e pos) (BW te):=by
 intro pins s σ H D I h;exact wpAny_Expr_any (bS (he pins s σ H _ I h) λv s1 ⟨x,H1,I1,r1,q1⟩=>⟨σ,H1,I1,q1⟩) I.quiet hs
def tRet (te:TE):TS:=λD σ H=>te σ H D.rt
theorem gL (he:PE X e te):PS X (.Return (some e) pos) (tRet te):=by
 intro pins s σ H D I h;exact wpAny_Return_some (bS (he pins s σ H _ I h) λv s1 ⟨x,H1,I1,r1,q1⟩=>⟨x,σ,H1,I1,r1,q1⟩)
def tIfS (c:TT)(t u:TS):TS:=λD σ H=>c σ H λb H1=>if b=true then t D σ H1 else u D σ H1
theorem zw {c:Expr}{a b:List Stmt}{tc:TT}(hc:PT X c tc)(ha:PSs X a t)(hb:PSs X b u):PS X (.If c a b pos) (tIfS tc t u):=by
 intro pins s σ H D I h;refine wpAny_If (bS (hc pins s σ H _ I h) λd s1 hh_=> ?_)
 obtain⟨H1,I1,q1⟩:=hh_
 cases d with
 | true=>exact ha pins s1 σ H1 D I1 q1
 | false=>exact hb pins s1 σ H1 D I1 q1
def zY:TS:=λ_ _ _=>False
theorem vf:PS X st zY:=λ_ _ _ _ _ _ h=>h.elim
end
abbrev TG:=V->St->Hp->(St->Hp->Prop)->Prop
abbrev za:=List V->St->Hp->(St->Hp->Prop)->Prop
def PG (X:Cx)(target:Expr)(t:TG):Prop:=
 ∀(pins:List (Addr×Obj)) (s:Shared) (σ:St) (H:Hp) (v:V) (u:Value) (Q:St->Hp->Prop),Inv X pins σ H s->RelV v u->t v σ H Q →
  wpAny (model X.prog X.w) X.A (assign target X.env u) (λ_ s'=> ∃σ' H',Inv X pins σ' H' s'/\Q σ' H') X.xe s
def PGs (X:Cx)(ts:List Expr)(t:za):Prop:=
 ∀(pins:List (Addr×Obj)) (s:Shared) (σ:St) (H:Hp) (vs:List V) (us:List Value) (Q:St->Hp->Prop),Inv X pins σ H s->Vals vs us->t vs σ H Q →
  wpAny (model X.prog X.w) X.A (assignInOrder ((assignEach ts X.env).map (·.2)) us) (λ_ s'=> ∃σ' H',Inv X pins σ' H' s'/\Q σ' H') X.xe s
section
variable {X:Cx}{pos:Pos}
def wn (i:Nat):TG:=λv σ H Q=>Q (σ.set i (some v)) H
theorem yc {i:Nat}{x:Str}(hN:X.N.Nodup)(hi:X.N[i]? =some x)(hx:Loc X.env.scope x)(hf:X.fn x=true\/X.env.scope.names.lookup x=some .local:=by first | exact .inl rfl | exact .inr rfl | assumption):PG X (.Name x pos) (wn i):=by
 intro pins s σ H v u Q I r h;exact wpAny_assign_Name (kF I hN hi hx r (λs' I'=>⟨_,H,I',h⟩) hf)
def gNil:za:=λvs σ H Q=>vs= []/\Q σ H
def C1 (t:TG)(u:za):za:=λvs σ H Q=> ∃v r,vs=v::r/\t v σ H λσ' H'=>u r σ' H' Q
theorem yb:PGs X [] gNil:=by
 intro pins s σ H vs us Q I r h;obtain⟨e,h⟩:=h;subst e;cases r;exact assignInOrder_nil ⟨σ,H,I,h⟩
theorem vi {e:Expr}{es:List Expr}{t:TG}{u:za}(h1:PG X e t)(h2:PGs X es u)
  (hs:(assignEach (e::es) X.env).map (·.2)=assign e X.env::(assignEach es X.env).map (·.2):=by rfl):PGs X (e::es) (C1 t u):=by
 intro pins s σ H vs us Q I r h;obtain⟨v,vr,e1,h⟩:=h;subst e1
 cases r with
 | cons r rr=>
  rw[hs];refine assignInOrder_cons (bS (h1 pins s σ H _ _ _ I r h) λ_ s1 hh_=> ?_)
  obtain⟨σ1,H1,I1,q1⟩:=hh_;exact h2 pins s1 σ1 H1 _ _ Q I1 rr q1
def gTup (K:PySem.W.Frag)(n:Nat)(t:za):TG:=λv σ H Q=> ∃a xs,v= .ref a/\SqT K H a xs/\xs.length=n/\t xs σ H Q
theorem AI {es:List Expr}{k:Nat}{t:za}{n:Nat}(hc:X.calm=true)(h:PGs X es t)
  (hn:(assignEach es X.env).length=n:=by rfl) (hst:(assignEach es X.env).findIdx? (·.1)=none:=by rfl):PG X (.Tuple es k pos) (gTup X.K n t):=by
 intro pins s σ H v u Q I r hw;obtain⟨a,xs,e1,hq,hl,hw⟩:=hw;subst e1;cases r;obtain⟨its,rv,ht,hz⟩:=I.tuple hq;refine assign_Tuple_tuple (I.ok.hd hc) ht (by simp[hn,<-hl,rv.length]) hst λh' hx=> ?_
 have I1:Inv X pins σ H { s with heap:=h' }:=I.kept (t':=s.toks) λb o e=>hx b o (Nat.ne_of_lt (Heap.lt_size e)) e
 exact h pins _ σ H xs _ Q I1 (by simpa using rv) hw
def uN (te:TE)(g:TG):TS:=λD σ H=>te σ H λx H1=>g x σ H1 D.nx
theorem AG {tg e:Expr}{te:TE}{g:TG}(he:PE X e te)(hg:PG X tg g)(hs:swapsWithSole [tg] e pos.line X.env=pure false:=by rfl)(hw:swappedStores [tg] e X.env=pure none:=by rfl)
  (h1:(assignEach [tg] X.env).map (·.2)= [assign tg X.env]:=by rfl):PS X (.Assign [tg] e pos) (uN te g):=by
 intro pins s σ H D I h;refine wpAny_Assign_stores (bS (he pins s σ H _ I h) λv s1 ⟨x,H1,I1,r1,q1⟩=> ?_) hs hw
 rw[h1];exact bS (hg pins s1 σ H1 x v _ I1 r1 q1) λ_ s2 q=>q
theorem kP {i:Nat}{x:Str}{e:Expr}{te:TE}{pos':Pos}(hN:X.N.Nodup)(hi:X.N[i]? =some x)(hx:Loc X.env.scope x)(he:PE X e te)(hs:swapsWith e (some (.Name x pos')) pos.line X.env=pure false:=by rfl)(hf:X.fn x=true\/X.env.scope.names.lookup x=some .local:=by first | exact .inl rfl | exact .inr rfl | assumption) :
  PS X (.Assign [.Name x pos'] e pos) (uN te (wn i)):=by
 intro pins s σ H D I h;refine wpAny_Assign_Name (bS (he pins s σ H _ I h) λv s1 ⟨y,H1,I1,r1,q1⟩=> ?_) hs
 exact kF I1 hN hi hx r1 (λs2 I2=>⟨_,H1,I2,q1⟩) hf
end
structure It where
 go:Nat->Hp->Prop
 yld:Nat->Hp->V->Hp->Prop
 stop:Nat->Hp->Prop
def ju (X:Cx)(pins:List (Addr×Obj))(H:Hp)(b:Addr):Prop:=
 H b=none/\b≠X.env.locals/\b∉X.fs/\(b∈X.ex\/X.s₀.heap.objs.size<=b)/\(∀x c,X.env.cells.lookup x=some c->c≠b)/\∀p∈X.pn++pins,p.1≠b
theorem Inv.fpOk {X:Cx}{pins:List (Addr×Obj)}{σ:St}{H H':Hp}{s:Shared}{b:Addr}(I:Inv X pins σ H s)(hb:s.heap.objs.size<=b)(hn:H' b=none):ju X pins H' b:=by
 refine⟨hn,Nat.ne_of_gt (Nat.lt_of_lt_of_le I.lt hb),I.nofs hb,.inr (Nat.le_trans I.sz hb),λx c e z=> ?_,λp hp z=> ?_⟩
 ·obtain⟨v,q⟩:=I.cell x c e
  exact absurd (Nat.lt_of_lt_of_le q.lt (by rw[z];exact hb)) (Nat.lt_irrefl _)
 ·exact absurd (Nat.lt_of_lt_of_le (Heap.lt_size (I.pin p hp).1) (by rw[z];exact hb)) (Nat.lt_irrefl _)
structure uu (P:Program)(w:World)(K:PySem.W.Frag)(tg:Expr)(J:It)(fp:List Addr)(it:Addr)(tn:Nat->Heap->Prop):Prop where
 mem:it∈fp
 obj:∀i h,tn i h->∀b∈fp,∃o,h.get? b=some o/\∀v,o.data≠ .cell v
 keep:∀i h h',tn i h->(∀b∈fp,∀o,h.get? b=some o->h'.get? b=some o)->tn i h'
 item:∀(X:Cx),X.prog=P->X.w=w->X.K=K->X.calm=true->∀(i:Nat) (pins:List (Addr×Obj)) (s:Shared) (σ:St) (H:Hp) (E:Value->Shared->Prop),Inv X pins σ H s->(∀b∈fp,ju X pins H b)->tn i s.heap->J.go i H →
  wpAny (model P w) X.A (pyNext (.ref it)) (λr s1=> ∃u,r=some u ∧
   wpAny (model P w) X.A (letOwnedTupleGo tg (.ref it) u) (λ_ s2=> ∃x H',Inv X pins σ H' s2/\RelV x u/\J.yld i H x H'/\tn (i+1) s2.heap/\∀b∈fp,H' b=none) E s1) E s
 done:∀(X:Cx),X.prog=P->X.w=w->X.K=K->X.calm=true->∀(i:Nat) (pins:List (Addr×Obj)) (s:Shared) (σ:St) (H:Hp) (E:Value->Shared->Prop),Inv X pins σ H s->(∀b∈fp,ju X pins H b)->tn i s.heap->J.stop i H →
  wpAny (model P w) X.A (pyNext (.ref it)) (λr s1=>r=none/\Inv X pins σ H s1) E s
 self:∀(A:Around) (i:Nat) (s:Shared) (Q:Value->Shared->Prop) (E:Value->Shared->Prop),tn i s.heap->Q (.ref it) s->wpAny (model P w) A (pyIter (.ref it)) Q E s
abbrev TI:=St->Hp->(It->Hp->Prop)->Prop
def PIE (X:Cx)(pins:List (Addr×Obj))(σ:St)(tg:Expr)(R:It->Hp->Prop)(itv:Value)(s2:Shared):Prop:=
 ∃(it:Addr) (fp:List Addr) (tn:Nat->Heap->Prop) (J:It) (H':Hp),itv= .ref it/\Inv X pins σ H' s2/\uu X.prog X.w X.K tg J fp it tn/\tn 0 s2.heap/\(∀b∈fp,ju X pins H' b)/\R J H'
def PI (X:Cx)(tg iter:Expr)(wi:TI):Prop:=
 ∀(pins:List (Addr×Obj)) (s:Shared) (σ:St) (H:Hp) (R:It->Hp->Prop),Inv X pins σ H s->wi σ H R →
  wpAny (model X.prog X.w) X.A (eval iter X.env) (λv s1=>wpAny (model X.prog X.w) X.A (pyIter v) (PIE X pins σ tg R) X.xe s1) X.xe s
theorem sH {M:Model}{A:Around}{E:Value->Shared->Prop}{s:Shared}{tg:Expr}{it:Addr}{u:Value}{o:Obj}{n:String}{vs:Array Value}{Q:Unit->Shared->Prop}(ho:s.heap.get? it=some o)(hc:o.cls= .type n)(hd:o.data= .fields vs)
  (hn:["enumerate","zip","dict_itemiterator","dict_reverseitemiterator","odict_iterator","itertools.zip_longest","itertools.pairwise"].contains n=false) (hQ:Q () s):wpAny M A (letOwnedTupleGo tg (.ref it) u) Q E s:=by
 unfold letOwnedTupleGo
 cases tg <;> first
  | exact wpAny_pure hQ
  | (cases u <;> first
    | exact wpAny_pure hQ
    | (refine wpAny_bind (wpAny_load ho ?_)
       rw[hc,hd]
       show wpAny M A (if (["enumerate","zip","dict_itemiterator","dict_reverseitemiterator","odict_iterator","itertools.zip_longest","itertools.pairwise"].contains n&&vs[0]? == some (rawInt _))=true then _ else _) Q E s
       rw[if_neg (by intro h;rw[hn,Bool.false_and]at h;cases h)]
       exact wpAny_pure hQ))
def Itl (K:PySem.W.Frag)(a:Addr):It:=
 ⟨λi H=> ∃xs x,SqL K H a xs/\xs[i]? =some x,λi H x H'=>H'=H/\∀xs,SqL K H a xs->xs[i]? =some x,λi H=> ∃xs,SqL K H a xs/\xs.length<=i⟩
def Itt (K:PySem.W.Frag)(a:Addr):It:=
 ⟨λi H=> ∃xs x,SqT K H a xs/\xs[i]? =some x,λi H x H'=>H'=H/\∀xs,SqT K H a xs->xs[i]? =some x,λi H=> ∃xs,SqT K H a xs/\xs.length<=i⟩
def Itr (lo:Int)(n:Nat):It:=⟨λi _=>i<n,λi H x H'=>H'=H/\x= .int (lo+i),λi _=>n<=i⟩
theorem tw {P:Program}{w:World}{K:PySem.W.Frag}{tg:Expr}(a it:Addr):uu P w K tg (Itl K a) [it] it (λi h=>h.IsListIter it a i) where
 mem:=by simp
 obj:=λi h st b hb=>by
  have e:b=it:=by simpa using hb
  subst e;obtain⟨o,e,c,d⟩:=st;exact⟨o,e,λv z=>by rw[d]at z;cases z⟩
 keep:=λi h h' st k=>st.at λo e=>k it (by simp) o e
 item:=by
  intro X hP hw hK hc i pins s σ H E I hf st hg;subst hP hw hK;obtain⟨xs,x,hq,hx⟩:=hg;obtain⟨its,rv,p,hz⟩:=I.list hq;obtain⟨u,hu,ru⟩:=rv.get hx;obtain⟨f0,f1,f2,f3,f4,f5⟩:=hf it (by simp)
  refine wpAny_pyNext_list_item st p.isList (x:=u) (by simpa using hu) λh' st' sb=> ?_
  have I1:Inv X pins σ H { s with heap:=h' }:=I.turned (t':=s.toks) (λb o hb e=>(sb.2 b hb).trans e) f0 f1 f3 f4 f5
  obtain⟨o,e,c,d⟩:=id st';exact⟨u,rfl,sH (s:={ s with heap:=h' }) e c d (by decide) ⟨x,H,I1,ru,⟨rfl,λys hy=>by rw[I.list_inj hy hq];exact hx⟩,st',λb hb=>(hf b hb).1⟩⟩
 done:=by
  intro X hP hw hK hc i pins s σ H E I hf st hg;subst hP hw hK;obtain⟨xs,hq,hx⟩:=hg;obtain⟨its,rv,p,hz⟩:=I.list hq;obtain⟨f0,f1,f2,f3,f4,f5⟩:=hf it (by simp)
  have hl:=rv.length;exact wpAny_pyNext_list_end (I.ok.hd hc) st p.isList (by simp;omega) λh' eb=>⟨rfl,I.turned (t':=s.toks) (λb o hb e=>eb b o hb e) f0 f1 f3 f4 f5⟩
 self:=λ_ _ _ _ _ st h=>wpAny_pyIter_listiter st h
theorem qG {P:Program}{w:World}{K:PySem.W.Frag}{tg:Expr}(a it:Addr):uu P w K tg (Itt K a) [it] it (λi h=>h.IsTupleIter it a i) where
 mem:=by simp
 obj:=λi h st b hb=>by
  have e:b=it:=by simpa using hb
  subst e;obtain⟨o,e,c,d⟩:=st;exact⟨o,e,λv z=>by rw[d]at z;cases z⟩
 keep:=λi h h' st k=>st.at λo e=>k it (by simp) o e
 item:=by
  intro X hP hw hK hc i pins s σ H E I hf st hg;subst hP hw hK;obtain⟨xs,x,hq,hx⟩:=hg;obtain⟨its,rv,p,hz⟩:=I.tuple hq;obtain⟨u,hu,ru⟩:=rv.get hx;obtain⟨f0,f1,f2,f3,f4,f5⟩:=hf it (by simp)
  refine wpAny_pyNext_tuple_item st (show s.heap.IsTuple a its.toArray from p) (x:=u) (by simpa using hu) λh' st' sb=> ?_
  have I1:Inv X pins σ H { s with heap:=h' }:=I.turned (t':=s.toks) (λb o hb e=>(sb.2 b hb).trans e) f0 f1 f3 f4 f5
  obtain⟨o,e,c,d⟩:=id st';exact⟨u,rfl,sH (s:={ s with heap:=h' }) e c d (by decide) ⟨x,H,I1,ru,⟨rfl,λys hy=>by rw[I.tuple_inj hy hq];exact hx⟩,st',λb hb=>(hf b hb).1⟩⟩
 done:=by
  intro X hP hw hK hc i pins s σ H E I hf st hg;subst hP hw hK;obtain⟨xs,hq,hx⟩:=hg;obtain⟨its,rv,p,hz⟩:=I.tuple hq;obtain⟨f0,f1,f2,f3,f4,f5⟩:=hf it (by simp)
  have hl:=rv.length;exact wpAny_pyNext_tuple_end (I.ok.hd hc) st (show s.heap.IsTuple a its.toArray from p) (by simp;omega) λh' eb=>⟨rfl,I.turned (t':=s.toks) (λb o hb e=>eb b o hb e) f0 f1 f3 f4 f5⟩
 self:=λ_ _ _ _ _ st h=>wpAny_pyIter_tupleiter st h
theorem qH {P:Program}{w:World}{K:PySem.W.Frag}{tg:Expr}(it:Addr)(lo:Int)(n:Nat):uu P w K tg (Itr lo n) [it] it (λi h=>IsRangeIter h it (lo+(i:Nat)*1) ((n:Int) - (i:Nat)) 1) where
 mem:=by simp
 obj:=λi h st b hb=>by
  have e:b=it:=by simpa using hb
  subst e
  exact⟨_,st,λv z=>by
   have z':Data.fields _=Data.cell v:=z;cases z'⟩
 keep:=λi h h' st k=>k it (by simp) _ st
 item:=by
  intro X hP hw hK hc i pins s σ H E I hf st hg;subst hP hw hK;obtain⟨f0,f1,f2,f3,f4,f5⟩:=hf it (by simp)
  have W:=Walks.range (prog:=X.prog) (w:=X.w) (I.ok.hd hc) it lo 1 n;refine W.item i s _ _ hg st λv h' tk hv st' kk=> ?_
  obtain⟨t,rfl⟩:=hv
  have I1:Inv X pins σ H { s with heap:=h',toks:=tk }:=I.turned (λb o hb e=>kk b o (by simpa using hb) e) f0 f1 f3 f4 f5
  refine⟨_,rfl,sH (s:={ s with heap:=h',toks:=tk }) (n:="range_iterator") st' rfl rfl (by decide) ⟨.int (lo+i),H,I1,⟨t,?_⟩,⟨rfl,rfl⟩,st',λb hb=>(hf b hb).1⟩⟩
  rw[Int.mul_one]
 done:=by
  intro X hP hw hK hc i pins s σ H E I hf st hg;subst hP hw hK;obtain⟨f0,f1,f2,f3,f4,f5⟩:=hf it (by simp)
  exact wpAny_pyNext_range_end (I.ok.hd hc) st (by have:n<=i:=hg;omega) λh' eb=>⟨rfl,I.turned (t':=s.toks) (λb o hb e=>eb b o hb e) f0 f1 f3 f4 f5⟩
 self:=λ_ _ _ _ _ st h=>wpAny_pyIter_rangeiter st h
section
variable {X:Cx}{tg:Expr}
def C0 (K:PySem.W.Frag)(tl:TE):TI:=λσ H R=>tl σ H λx H1=> ∃a,x= .ref a/\(∃xs,SqL K H1 a xs)/\R (Itl K a) H1
def iTup (K:PySem.W.Frag)(tl:TE):TI:=λσ H R=>tl σ H λx H1=> ∃a,x= .ref a/\(∃xs,SqT K H1 a xs)/\R (Itt K a) H1
theorem x9 {l:Expr}{tl:TE}(hl:PE X l tl):PI X tg l (C0 X.K tl):=by
 intro pins s σ H R I h;refine bS (hl pins s σ H _ I h) λv s1 hh_=> ?_
 obtain⟨x,H1,I1,r1,q1⟩:=hh_;obtain⟨a,e,⟨xs,hq⟩,q⟩:=q1;subst e;cases r1;obtain⟨its,rv,p,hz⟩:=I1.list hq;refine wpAny_pyIter_list p.isList ?_
 refine⟨s1.heap.objs.size,[s1.heap.objs.size],_,_,H1,rfl,I1.kept (t':=s1.toks) λb o e=>Heap.get?_push_of_some _ e,tw a _,⟨_,Heap.get?_push_size _ rfl,rfl,rfl⟩,λb hb=> ?_,q⟩
 have e:b=s1.heap.objs.size:=by simpa using hb
 subst e;exact I1.fpOk (Nat.le_refl _) (I1.hok.fresh (Nat.le_refl _))
theorem AH {l:Expr}{tl:TE}(hl:PE X l tl):PI X tg l (iTup X.K tl):=by
 intro pins s σ H R I h;refine bS (hl pins s σ H _ I h) λv s1 hh_=> ?_
 obtain⟨x,H1,I1,r1,q1⟩:=hh_;obtain⟨a,e,⟨xs,hq⟩,q⟩:=q1;subst e;cases r1;obtain⟨its,rv,p,hz⟩:=I1.tuple hq;refine wpAny_pyIter_tuple (show s1.heap.IsTuple a its.toArray from p) ?_
 refine⟨s1.heap.objs.size,[s1.heap.objs.size],_,_,H1,rfl,I1.kept (t':=s1.toks) λb o e=>Heap.get?_push_of_some _ e,qG a _,⟨_,Heap.get?_push_size _ rfl,rfl,rfl⟩,λb hb=> ?_,q⟩
 have e:b=s1.heap.objs.size:=by simpa using hb
 subst e;exact I1.fpOk (Nat.le_refl _) (I1.hok.fresh (Nat.le_refl _))
theorem jb {pins:List (Addr×Obj)}{σ:St}{H:Hp}{s:Shared}{R:It->Hp->Prop}{E:Value->Shared->Prop}{lo hi:Int}{t u v:Tok}{tk:Nat}(I:Inv X pins σ H s)(h1 : -(2 ^ 62)<=lo)(h2:lo<2 ^ 62)(h3 : -(2 ^ 62)<=hi)(h4:hi<2 ^ 62)
  (q:R (Itr lo (hi - lo).toNat) H):wpAny (model X.prog X.w) X.A (pyIter (.ref s.heap.objs.size)) (PIE X pins σ tg R) E { s with heap:=s.heap.push { cls:=.type "range",data:=.fields #[.int lo t,.int hi u,.int 1 v] },toks:=tk }:=by
 refine wpAny_pyIter_range (IsRange.new ..) (small_one h1 h2 h3 h4) ?_
 have I1:Inv X pins σ H { s with heap:=s.heap.push { cls:=.type "range",data:=.fields #[.int lo t,.int hi u,.int 1 v] },toks:=tk }:=I.kept λb o e=>Heap.get?_push_of_some _ e
 refine⟨(s.heap.push { cls:=.type "range",data:=.fields #[.int lo t,.int hi u,.int 1 v] }).objs.size,[(s.heap.push { cls:=.type "range",data:=.fields #[.int lo t,.int hi u,.int 1 v] }).objs.size],_,_,H,rfl,
  I1.kept (t':=tk) λb o e=>Heap.get?_push_of_some _ e,qH _ lo (hi - lo).toNat,?_,λb hb=> ?_,q⟩
 ·have e1:lo+((0:Nat):Int)*1=lo:=by simp
  have e2:(((hi - lo).toNat:Nat):Int) - ((0:Nat):Int)=Builtin.Range.rangeSize lo hi 1:=by rw[rangeSize_one];split <;> omega
  show IsRangeIter _ _ (lo+((0:Nat):Int)*1) ((((hi - lo).toNat:Nat):Int) - ((0:Nat):Int)) 1
  rw[e1,e2];exact Heap.get?_push_size _ rfl
 ·have e:b=(s.heap.push { cls:=.type "range",data:=.fields #[.int lo t,.int hi u,.int 1 v] }).objs.size:=by simpa using hb
  subst e;exact I1.fpOk (Nat.le_refl _) (I1.hok.fresh (Nat.le_refl _))
def tFor (wi:TI)(g:TG)(tb:TS):TS:=λD σ H=>wi σ H λJ H1=> ∃W:Nat->Nat->St->Hp->Prop,(∃m,W 0 m σ H1)/\∀i m σ H,W i m σ H →
 (J.stop i H/\D.nx σ H)\/(J.go i H/\∃N:St->Hp->Prop,(∀σ' H',N σ' H'->∃m',m'<m/\W (i+1) m' σ' H')/\∀x H',J.yld i H x H'->g x σ H' λσ2 H2=>tb { D with nx:=N,ct:=N,bk:=D.nx } σ2 H2)
def kQ (fp:List Addr)(h:Heap):List (Addr×Obj):=fp.filterMap λb=>(h.get? b).map λo=>(b,o)
theorem gn {fp:List Addr}{h:Heap}{b:Addr}{o:Obj}(hb:b∈fp)(e:h.get? b=some o):(b,o)∈kQ fp h:=List.mem_filterMap.mpr ⟨b,hb,by rw[e];rfl⟩
theorem tM {fp:List Addr}{h:Heap}{p:Addr×Obj}(hp:p∈kQ fp h):p.1∈fp/\h.get? p.1=some p.2:=by
 obtain⟨b,hb,e⟩:=List.mem_filterMap.mp hp
 cases q:h.get? b with
 | none=>rw[q]at e;cases e
 | some o=>
  rw[q]at e
  have e':(b,o)=p:=Option.some.inj e;subst e';exact⟨hb,q⟩
theorem Inv.pinned {pins:List (Addr×Obj)}{σ:St}{H:Hp}{s:Shared}{fp:List Addr}(I:Inv X pins σ H s)(hf:∀b∈fp,ju X pins H b)(ho:∀b∈fp,∃o,s.heap.get? b=some o/\∀v,o.data≠ .cell v):Inv X (pins++kQ fp s.heap) σ H s:=
 I.pins_of λp hp=>(List.mem_append.mp hp).elim (λz=>I.pin p (List.mem_append_right _ z)) λz=>by
  obtain⟨hb,e⟩:=tM z;obtain⟨f0,f1,f2,_⟩:=hf p.1 hb;obtain⟨o,e',d⟩:=ho p.1 hb;rw[e]at e';cases e';exact⟨e,f0,f1,f2,d⟩
theorem Inv.unpinned {pins pl:List (Addr×Obj)}{σ:St}{H:Hp}{s:Shared}(I:Inv X (pins++pl) σ H s):Inv X pins σ H s:=I.pins_of λp hp=>I.pin p (List.mem_append_right _ (List.mem_append_left _ hp))
end
abbrev R2:=V->V->Hp->VK->Prop
def lN (X:Cx)(f:Value->Value->Sem Value)(r:R2):Prop:=
 ∀(pins:List (Addr×Obj)) (s:Shared) (σ:St) (H:Hp) (x y:V) (v u:Value) (Q:VK),Inv X pins σ H s->RelV x v->RelV y u->r x y H Q →
  wpAny (model X.prog X.w) X.A (f v u) (EP X pins σ Q) X.xe s
def UnR (X:Cx)(f:Value->Sem Value)(r:V->Hp->VK->Prop):Prop:=
 ∀(pins:List (Addr×Obj)) (s:Shared) (σ:St) (H:Hp) (x:V) (v:Value) (Q:VK),Inv X pins σ H s->RelV x v->r x H Q →
  wpAny (model X.prog X.w) X.A (f v) (EP X pins σ Q) X.xe s
def CallR (X:Cx)(f:Value)(r:List V->Hp->VK->Prop):Prop:=
 ∀(pins:List (Addr×Obj)) (s:Shared) (σ:St) (H:Hp) (xs:List V) (us:List Value) (Q:VK),Inv X pins σ H s->Vals xs us->r xs H Q →
  wpAny (model X.prog X.w) X.A (call f us) (EP X pins σ Q) X.xe s
def tOp (r:R2)(ta tb:TE):TE:=λσ H Q=>ta σ H λx H1=>tb σ H1 λy H2=>r x y H2 Q
def tUn (r:V->Hp->VK->Prop)(ta:TE):TE:=λσ H Q=>ta σ H λx H1=>r x H1 Q
def rI (C:Int->Int->Prop)(g:Int->Int->V):R2:=λx y H Q=> ∃i j,x= .int i/\y= .int j/\C i j/\Q (g i j) H
def zr (g:Int->Int->V):R2:=λx y H Q=> ∃i j,x= .int i/\y= .int j/\Q (g i j) H
def rU (g:Int->V):V->Hp->VK->Prop:=λx H Q=> ∃i,x= .int i/\Q (g i) H
section
variable {X:Cx}{a b c:Expr}{ta tb tc:TE}{pos:Pos}
theorem C8 (ha:PE X a ta)(hb:PE X b tb){pins:List (Addr×Obj)}{s:Shared}{σ:St}{H:Hp}{R:V->V->Hp->Prop}(I:Inv X pins σ H s)
  (h:ta σ H λx H1=>tb σ H1 λy H2=>R x y H2) {Q:Value->Shared->Prop} {f:Value->Value->Sem Value}
  (hf:∀v u s2 x y H2,Inv X pins σ H2 s2->RelV x v->RelV y u->R x y H2->wpAny (model X.prog X.w) X.A (f v u) Q X.xe s2) :
  wpAny (model X.prog X.w) X.A (eval a X.env) (λv s₁=>wpAny (model X.prog X.w) X.A (eval b X.env) (λu s₂=>wpAny (model X.prog X.w) X.A (f v u) Q X.xe s₂) X.xe s₁) X.xe s:=by
 refine bS (ha pins s σ H _ I h) λv s1 hh_=> ?_
 obtain⟨x,H1,I1,r1,q1⟩:=hh_;refine bS (hb pins s1 σ H1 _ I1 q1) λu s2 hh_=> ?_
 obtain⟨y,H2,I2,r2,q2⟩:=hh_;exact hf v u s2 x y H2 I2 r1 r2 q2
theorem Cv {op:Operator}{r:R2}(ho:lN X (binaryOp op) r)(ha:PE X a ta)(hb:PE X b tb):PE X (.BinOp a op b pos) (tOp r ta tb):=by
 intro pins s σ H Q I h;exact wpAny_BinOp (C8 ha hb I h λv u s2 x y H2 I2 rx ry q=>ho pins s2 σ H2 x y v u Q I2 rx ry q)
theorem Ct {op:UnaryOp}{r:V->Hp->VK->Prop}(ho:UnR X (unaryOp op) r)(ha:PE X a ta):PE X (.UnaryOp op a pos) (tUn r ta):=by
 intro pins s σ H Q I h;exact UnaryOp_ (bS (ha pins s σ H _ I h) λv s1 ⟨x,H1,I1,r1,q1⟩=>ho pins s1 σ H1 x v Q I1 r1 q1)
theorem opI {f:Value->Value->Sem Value}{C:Int->Int->Prop}{g:Int->Int->Int}
  (rule:∀(i j:Int) (t u:Tok) (s:Shared) (Q:Value->Shared->Prop) (E:Value->Shared->Prop),C i j->Q (.int (g i j) s.toks) { s with toks:=s.toks+1 }->wpAny (model X.prog X.w) X.A (f (.int i t) (.int j u)) Q E s) :
  lN X f (rI C λi j=> .int (g i j)):=by
 intro pins s σ H x y v u Q I rx ry h;obtain⟨i,j,rfl,rfl,hc,q⟩:=h;obtain⟨t,rfl⟩:=rx;obtain⟨t',rfl⟩:=ry;exact rule i j t t' s _ _ hc ⟨.int (g i j),H,I.tok _,⟨_,rfl⟩,q⟩
theorem CD {f:Value->Value->Sem Value}{g:Int->Int->Int}
  (rule:∀(i j:Int) (t u:Tok) (s:Shared) (Q:Value->Shared->Prop) (E:Value->Shared->Prop),Q (.int (g i j) s.toks) { s with toks:=s.toks+1 }->wpAny (model X.prog X.w) X.A (f (.int i t) (.int j u)) Q E s) :
  lN X f (zr λi j=> .int (g i j)):=by
 intro pins s σ H x y v u Q I rx ry h;obtain⟨i,j,rfl,rfl,q⟩:=h;obtain⟨t,rfl⟩:=rx;obtain⟨t',rfl⟩:=ry;exact rule i j t t' s _ _ ⟨.int (g i j),H,I.tok _,⟨_,rfl⟩,q⟩
theorem AW {f:Value->Value->Sem Value}{g:Int->Int->Bool}
  (rule:∀(i j:Int) (t u:Tok) (s:Shared) (Q:Value->Shared->Prop) (E:Value->Shared->Prop),Q (.bool (g i j)) s->wpAny (model X.prog X.w) X.A (f (.int i t) (.int j u)) Q E s) :
  lN X f (zr λi j=> .bl (g i j)):=by
 intro pins s σ H x y v u Q I rx ry h;obtain⟨i,j,rfl,rfl,q⟩:=h;obtain⟨t,rfl⟩:=rx;obtain⟨t',rfl⟩:=ry;exact rule i j t t' s _ _ ⟨.bl (g i j),H,I,rfl,q⟩
def CDiv (i j:Int):Prop:=0<j/\j<1073741824
def CMul (i j:Int):Prop:=(-(2 ^ 64)<i/\i<2 ^ 64)\/(-(2 ^ 64)<j/\j<2 ^ 64)
theorem CMul.ok {i j:Int}(h:CMul i j):IntMulOk i j:=by
 rcases h with⟨h1,h2⟩ | ⟨h1,h2⟩
 ·exact .of_left (intBits_le_64 h1 h2)
 ·exact .of_right (intBits_le_64 h1 h2)
theorem AV:lN X (binaryOp .Add) (zr λi j=> .int (i+j)):=CD λ_ _ _ _ _ _ _ q=>add_int q
theorem AQ:lN X (binaryOp .Sub) (zr λi j=> .int (i - j)):=CD λ_ _ _ _ _ _ _ q=>sub_int q
theorem AS:lN X (binaryOp .Mult) (rI CMul λi j=> .int (i*j)):=opI λ_ _ _ _ _ _ _ hc q=>mul_int q hc.ok
theorem yg:lN X (binaryOp .FloorDiv) (rI CDiv λi j=> .int (i / j)):=opI λi j _ _ _ _ _ hc q=>by
 have h1:(0:Int)<j:=hc.1
 have h2:j<1073741824:=hc.2;exact floordiv_int (by omega) (by rw[Int.fdiv_eq_ediv_of_nonneg i (by omega)];exact q) (.inl (PyProof.noPylong_small (by omega)))
theorem AT:lN X (binaryOp .Mod) (rI (λ_ j=>0<j) λi j=> .int (i % j)):=opI λi j _ _ _ _ _ hc q=>by
 have h1:(0:Int)<j:=hc;exact mod_int' (by omega) (by rw[Int.fmod_eq_emod_of_nonneg i (by omega)];exact q)
theorem unI {f:Value->Sem Value}{g:Int->Int}
  (rule:∀(i:Int) (t:Tok) (s:Shared) (Q:Value->Shared->Prop) (E:Value->Shared->Prop),Q (.int (g i) s.toks) { s with toks:=s.toks+1 }->wpAny (model X.prog X.w) X.A (f (.int i t)) Q E s) :
  UnR X f (rU λi=> .int (g i)):=by
 intro pins s σ H x v Q I rx h;obtain⟨i,rfl,q⟩:=h;obtain⟨t,rfl⟩:=rx;exact rule i t s _ _ ⟨.int (g i),H,I.tok _,⟨_,rfl⟩,q⟩
theorem zT:UnR X (unaryOp .USub) (rU λi=> .int (-i)):=unI λ_ _ _ _ _ q=>neg_int q
end
def scal:V->V->Bool
 | .non,.non=>true | .non,.int _=>true | .int _,.non=>true | .non,.bl _=>true | .bl _,.non=>true | .non,.str _=>true | .str _,.non=>true
 | .int _,.int _=>true | .bl _,.bl _=>true | .str _,.str _=>true | .byt _,.byt _=>true
 | .int _,.str _=>true | .str _,.int _=>true | .bl _,.str _=>true | .str _,.bl _=>true
 | _,_=>false
def rNe:R2:=λx y H Q=>scal x y=true/\Q (.bl (!decide (x=y))) H
theorem yO {i j:Int}:decide (V.int i=V.int j)=(i == j):=by
 rw[Bool.eq_iff_iff];simp
theorem BC {i j:Bool}:decide (V.bl i=V.bl j)=(i == j):=by
 rw[Bool.eq_iff_iff];simp
theorem yN {i j:Str}:decide (V.str i=V.str j)=(i == j):=by
 rw[Bool.eq_iff_iff];simp
theorem yP {i j:Array UInt8}:decide (V.byt i=V.byt j)=(i.toList == j.toList):=by
 rw[Bool.eq_iff_iff];cases i;cases j;simp
section
variable {X:Cx}{a b c:Expr}{ta tb tc:TE}{pos:Pos}
theorem cU {pins:List (Addr×Obj)}{σ:St}{H:Hp}{s:Shared}{Q:VK}{k k':Bool}(I:Inv X pins σ H s)(q:Q (.bl k) H)(e:k=k'):EP X pins σ Q (.bool k') s:=by
 subst e;exact⟨.bl k,H,I,rfl,q⟩
theorem Cz:lN X (compareOp .NotEq) rNe:=by
 intro pins s σ H x y v u Q I rx ry h;obtain⟨hs,q⟩:=h
 cases x with
 | non=>
  cases rx
  cases y with
  | non=>cases ry;exact PySem.EqNone.ne_none_none (cU I q (by simp))
  | bl j=>cases ry;exact PySem.EqNone.ne_none_bool (cU I q (by simp))
  | int j=>obtain⟨t',rfl⟩:=ry;exact PySem.EqNone.ne_none_int (cU I q (by simp))
  | str j=>obtain⟨t',rfl⟩:=ry;exact PySem.EqNone.ne_none_str (cU I q (by simp))
  | _=>exact absurd (show false=true from hs) Bool.false_ne_true
 | bl i=>
  cases rx
  cases y with
  | non=>cases ry;exact PySem.EqNone.ne_bool_none (cU I q (by simp))
  | bl j=>cases ry;exact ne_bool (cU I q (congrArg not BC))
  | str j=>obtain⟨t',rfl⟩:=ry;exact PySem.EqMixed.ne_bool_str (cU I q (by simp))
  | _=>exact absurd (show false=true from hs) Bool.false_ne_true
 | int i=>
  obtain⟨t,rfl⟩:=rx
  cases y with
  | non=>cases ry;exact PySem.EqNone.ne_int_none (cU I q (by simp))
  | int j=>obtain⟨t',rfl⟩:=ry;exact ne_int (cU I q (congrArg not yO))
  | str j=>obtain⟨t',rfl⟩:=ry;exact PySem.EqMixed.ne_int_str (cU I q (by simp))
  | _=>exact absurd (show false=true from hs) Bool.false_ne_true
 | str i=>
  obtain⟨t,rfl⟩:=rx
  cases y with
  | non=>cases ry;exact PySem.EqNone.ne_str_none (cU I q (by simp))
  | bl j=>cases ry;exact PySem.EqMixed.ne_str_bool (cU I q (by simp))
  | int j=>obtain⟨t',rfl⟩:=ry;exact PySem.EqMixed.ne_str_int (cU I q (by simp))
  | str j=>obtain⟨t',rfl⟩:=ry;exact ne_str (cU I q (congrArg not yN))
  | _=>exact absurd (show false=true from hs) Bool.false_ne_true
 | byt i=>
  obtain⟨t,rfl⟩:=rx
  cases y with
  | byt j=>obtain⟨t',rfl⟩:=ry;exact PySem.W.ne_bytes (cU I q (congrArg not yP))
  | _=>exact absurd (show false=true from hs) Bool.false_ne_true
 | _=>cases y <;> exact absurd (show false=true from hs) Bool.false_ne_true
theorem CA:lN X (compareOp .Lt) (zr λi j=> .bl (decide (i<j))):=AW λ_ _ _ _ _ _ _ q=>lt_int q
theorem CB:lN X (compareOp .LtE) (zr λi j=> .bl (decide (i<=j))):=AW λ_ _ _ _ _ _ _ q=>le_int q
theorem CC:lN X (compareOp .Gt) (zr λi j=> .bl (decide (j<i))):=AW λ_ _ _ _ _ _ _ q=>gt_int q
theorem AU:lN X (compareOp .Is) (λx y H Q=>y= .non/\Q (.bl (decide (x= .non))) H):=by
 intro pins s σ H x y v u Q I rx ry h;obtain⟨rfl,q⟩:=h;cases ry;refine is_none_gen (cU I q ?_)
 cases x <;> first
  | (cases rx;rfl)
  | (obtain⟨t,rfl⟩:=rx;rfl)
theorem yf:lN X (compareOp .IsNot) (λx y H Q=>y= .non/\Q (.bl (!decide (x= .non))) H):=by
 intro pins s σ H x y v u Q I rx ry h;obtain⟨rfl,q⟩:=h;cases ry;refine isnot_none_gen (cU I q ?_)
 cases x <;> first
  | (cases rx;rfl)
  | (obtain⟨t,rfl⟩:=rx;rfl)
theorem A1 (b:Expr){op:CmpOp}(h:op≠ .In:=by decide)(h2:op≠ .NotIn:=by decide):behindInMarks op b=false:=by
 have e1:(op == CmpOp.In)=false:=by cases op <;> first | rfl | exact absurd rfl h
 have e2:(op == CmpOp.NotIn)=false:=by cases op <;> first | rfl | exact absurd rfl h2
 cases b <;> simp[behindInMarks,e1,e2]
def BR (t:TE):TT:=λσ H Q=>t σ H λx H'=> ∃k,x= .bl k/\Q k H'
theorem xX {op:CmpOp}{r:R2}(ho:lN X (compareOp op) r)(ha:PE X a ta)(hb:PE X b tb)(hm:behindInMarks op b=false):PT X (.Compare a [op] [b] pos) (BR (tOp r ta tb)):=by
 intro pins s σ H Q I h
 refine wpAny_isTrue_Compare1 (bS (ha pins s σ H _ I h) λv s1 ⟨x,H1,I1,r1,q1⟩=>bS (hb pins s1 σ H1 _ I1 q1) λu s2 ⟨y,H2,I2,r2,q2⟩=>
  bS (ho pins s2 σ H2 x y v u _ I2 r1 r2 q2) λc s3 ⟨z,H3,I3,r3,k,e,q3⟩=> ?_) hm
 subst e;cases r3;exact wpAny_truthy_bool ⟨H3,I3,q3⟩
theorem la:(sizeLine:Nat)<2 ^ 63:=by rw[sizeLine_eq];decide
theorem qQ:lN X (binaryOp .Add) (λx y H Q=> ∃i j,x= .str i/\y= .str j/\i.length+j.length<=sizeLine/\Q (.str (i++j)) H):=by
 intro pins s σ H x y v u Q I rx ry h;obtain⟨i,j,rfl,rfl,hz,q⟩:=h;obtain⟨t,rfl⟩:=rx;obtain⟨t',rfl⟩:=ry;exact add_str (λt' tk=>⟨.str (i++j),H,I.tok _,⟨_,rfl⟩,q⟩) hz
theorem gE {x:V}{us:List Value}(r:Vals [x] us):∃u,us= [u]/\RelV x u:=by
 cases r with
 | cons r1 r2=>cases r2;exact⟨_,rfl,r1⟩
theorem oX {x y:V}{us:List Value}(r:Vals [x,y] us):∃u w',us= [u,w']/\RelV x u/\RelV y w':=by
 cases r with
 | cons r1 r2=>
  cases r2 with
  | cons r3 r4=>cases r4;exact⟨_,_,rfl,r1,r3⟩
theorem uq (hc:X.calm=true):CallR X (.builtin "max") (λxs H Q=> ∃i j,xs= [.int i,.int j]/\Q (.int (if j > i then j else i)) H):=by
 intro pins s σ H xs us Q I r h;obtain⟨i,j,rfl,q⟩:=h;obtain⟨u,w',rfl,⟨t,rfl⟩,⟨t',rfl⟩⟩:=oX r;refine max_two_ints (I.ok.hd hc) λh' tk k=>⟨_,H,I.kept k,?_,q⟩
 by_cases hj:j > i
 ·rw[if_pos hj,if_pos hj];exact⟨_,rfl⟩
 ·rw[if_neg hj,if_neg hj];exact⟨_,rfl⟩
theorem uo (hc:X.calm=true):CallR X (.builtin "min") (λxs H Q=> ∃i j,xs= [.int i,.int j]/\Q (.int (if j<i then j else i)) H):=by
 intro pins s σ H xs us Q I r h;obtain⟨i,j,rfl,q⟩:=h;obtain⟨u,w',rfl,⟨t,rfl⟩,⟨t',rfl⟩⟩:=oX r;refine min_two_ints (I.ok.hd hc) λh' tk k=>⟨_,H,I.kept k,?_,q⟩
 by_cases hj:j<i
 ·rw[if_pos hj,if_pos hj];exact⟨_,rfl⟩
 ·rw[if_neg hj,if_neg hj];exact⟨_,rfl⟩
theorem ur:CallR X (.type "int") (λxs H Q=>(∃i,xs= [.int i]/\Q (.int i) H)\/∃k,xs= [.bl k]/\Q (.int (if k then 1 else 0)) H):=by
 intro pins s σ H xs us Q I r h;rcases h with⟨i,rfl,q⟩ | ⟨k,rfl,q⟩
 ·obtain⟨u,rfl,t,rfl⟩:=gE r
  exact call_int_int ⟨.int i,H,I,⟨_,rfl⟩,q⟩
 ·obtain⟨u,rfl,r1⟩:=gE r
  cases r1;exact call_int_bool ⟨.int (if k then 1 else 0),H,I.tok _,⟨_,rfl⟩,q⟩
end
structure ObjM (h:Heap)(x dx C:Addr)(mA:Str->Option Value):Prop where
 obj:h.get? x=some (PySem.W.instObj C dx)
 ns:h.Ns1 dx mA
 ne:dx≠x
theorem tY {h:Heap}{dx:Addr}{mA:Str->Option Value}(n:h.Ns1 dx mA):∃od,h.get? dx=some od/\∀name,PySem.W.lookIn name od=some (mA name):=by
 obtain⟨o,es,ep,ho,hd,hk,_,hm⟩:=n;refine⟨o,ho,λname=> ?_⟩
 have e:=hm name;unfold nsFind findBy at e;rw[<-Array.find?_toList]at e
 unfold PySem.W.lookIn;rw[hd]
 dsimp only
 split
 ·rename_i y q
  rw[q]at e;exact congrArg some e
 ·rename_i q
  rw[q]at e
  have a:es.toList.any (·.refKey)=false:=by
   rw[List.any_eq_false];intro y hy;obtain⟨z,t,hkey⟩:=hk y (Array.mem_toList_iff.mp hy);simp[DictEntry.refKey,hkey]
  have a':¬ es.toList.any (·.refKey)=true:=by rw[a];exact Bool.false_ne_true
  rw[if_neg a'];exact congrArg some e
theorem ObjM.look {h:Heap}{x dx C:Addr}{mA:Str->Option Value}(I:ObjM h x dx C mA):∃od,PySem.W.InstAt h x (PySem.W.instObj C dx) C (some od)/\∀name,PySem.W.lookIn name od=some (mA name):=
 let ⟨od,ho,hl⟩:=tY I.ns
 ⟨od,⟨I.obj,rfl,rfl,ho⟩,hl⟩
theorem RelO.some_of {v:V}{o:Option Value}(r:RelO (some v) o):∃u,o=some u/\RelV v u:=by
 cases o with
 | none=>exact(show False from r).elim
 | some u=>exact⟨u,rfl,r⟩
section
variable {P:Program}{w:World}{H H':Hp}{h h':Heap}{a C dx:Addr}{fs fs':List (Str×V)}
theorem yC (hok:HOk P w H h)(e:H a=some (.ins C dx fs)):∃mA,ObjM h a dx C mA/\(∀f,RelO (fs.lookup f) (mA f))/\PySem.Within mA (fs.map (·.1))/\fs.length<=1000/\H dx=some (.own a):=by
 obtain⟨d,z,ne,ob,mA,n,r,q⟩:=(show ObjOk P w H h a (.ins C dx fs)from hok a _ e)
 exact⟨mA,⟨ob,n,ne⟩,r,q,z,d⟩
end
structure Cls (K:PySem.W.Frag)(C:Addr):Prop where
 pg:PySem.W.plainGet K C Str.empty=true
 hd:PySem.W.hasDictIn K C=true
 po:PySem.W.plainOver K C=true
 sa:PySem.W.findIn K (.ref C) "__setattr__" =some (some (.builtin "object.__setattr__"))
theorem Cls.get {K:PySem.W.Frag}{C:Addr}(c:Cls K C)(f:Str):PySem.W.plainGet K C f=true:=c.pg
section
variable {X:Cx}{pins:List (Addr×Obj)}{σ:St}{H:Hp}{s:Shared}{A:Around}{E:Value->Shared->Prop}{Q:Value->Shared->Prop}{c:Value}{b:Bool}
inductive jI (K:PySem.W.Frag) (H:Hp):V->Value->Prop where
 | non:jI K H .non (.type "NoneType")
 | bl (x:Bool):jI K H (.bl x) (.type "bool")
 | int (i:Int):jI K H (.int i) (.type "int")
 | str (x:Str):jI K H (.str x) (.type "str")
 | flt (x:UInt64):jI K H (.flt x) (.type "float")
 | lst {a:Addr} {xs:List V} (e:H a=some (.lst xs)):jI K H (.ref a) (.type "list")
 | frz {a:Addr} {o:Obj} {xs:List V} (e:H a=some (.frz o (.lst xs))):jI K H (.ref a) (.type "list")
 | tup {a:Addr} {xs:List V} (e:H a=some (.tup xs)):jI K H (.ref a) (.type "tuple")
 | dK {a:Addr} {kvs:List (Key×V)} (e:H a=some (.dK kvs)):jI K H (.ref a) (.type "dict")
 | dT {a:Addr} {kvs:List (List Key×V)} (e:H a=some (.dT kvs)):jI K H (.ref a) (.type "dict")
 | ins {a C dx:Addr} {fs:List (Str×V)} (e:H a=some (.ins C dx fs)) (cl:Cls K C) (ha:PySem.W.findIn K (.ref C) "__class__" =some (some (.builtin "object.__class__")))
   (hn:PySem.W.specialIn K (.builtin "object.__class__") "__get__" =some (some (.builtin "getset_descriptor.__get__"))) (htk:PySem.W.takesIn K (.builtin "object.__class__")=some true)
   (hm:PySem.W.mroIn K C (.type "object")=some true):jI K H (.ref a) (.ref C)
theorem ua {x:V}{u t:Value}(I:Inv X pins σ H s)(rx:RelV x u)(ty:jI X.K H x t)(e:PySem.W.kitOne X.K t c=some b)(h:∀tk,Q (.bool b) { s with toks:=tk }) :
  wpAny (model X.prog X.w) A (call (.builtin "isinstance") [u,c]) Q E s:=by
 cases ty with
 | non=>cases (show u=Value.none from rx);exact PySem.W.kia_one PySem.W.kitx_none I.kIn True.intro e (λz=>nomatch z) h
 | bl y=>cases (show u=Value.bool y from rx);exact PySem.W.kia_one PySem.W.kitx_bool I.kIn True.intro e (λz=>nomatch z) h
 | int i=>obtain⟨t,q⟩:=(show ∃t,u=Value.int i t from rx);cases q;exact PySem.W.kia_one PySem.W.kitx_int I.kIn True.intro e (λz=>nomatch z) h
 | str y=>obtain⟨t,q⟩:=(show ∃t,u=Value.str y t from rx);cases q;exact PySem.W.kia_one PySem.W.kitx_str I.kIn True.intro e (λz=>nomatch z) h
 | flt y=>obtain⟨t,q⟩:=(show ∃t,u=Value.float y t from rx);cases q;exact PySem.W.kia_one PySem.W.kitx_float I.kIn True.intro e (λz=>nomatch z) h
 | @lst a xs ea=>
  cases (show u=Value.ref a from rx)
  obtain⟨_,_,n,_,h1⟩:=(show ObjOk X.prog X.w H s.heap a (.lst xs)from I.hok a _ ea)
  exact PySem.W.kia_one PySem.W.kitx_list I.kIn ⟨_,h1,rfl⟩ e (λz=>nomatch z) h
 | @frz a ob xs ea=>
  cases (show u=Value.ref a from rx)
  obtain⟨_,_,_,n,_,h1⟩:=(show ObjOk X.prog X.w H s.heap a (.frz ob (.lst xs))from I.hok a _ ea)
  exact PySem.W.kia_one PySem.W.kitx_list I.kIn ⟨_,h1,rfl⟩ e (λz=>nomatch z) h
 | @tup a xs ea=>
  cases (show u=Value.ref a from rx)
  obtain⟨_,_,_,p⟩:=(show ObjOk X.prog X.w H s.heap a (.tup xs)from I.hok a _ ea)
  obtain⟨o,h1,h2,_⟩:=p
  exact PySem.W.kia_one PySem.W.kitx_tuple I.kIn ⟨o,h1,h2⟩ e (λz=>nomatch z) h
 | @dK a kvs ea=>
  cases (show u=Value.ref a from rx)
  obtain⟨_,_,vs,_,p⟩:=(show ObjOk X.prog X.w H s.heap a (.dK kvs)from I.hok a _ ea)
  obtain⟨o,es,ep,h1,h2,_⟩:=p
  exact PySem.W.kia_one PySem.W.kitx_dict I.kIn ⟨o,h1,h2.1⟩ e (λz=>nomatch z) h
 | @dT a kvs ea=>
  cases (show u=Value.ref a from rx)
  obtain⟨_,_,xs,_,o,es,ep,h1,h2,_⟩:=(show ObjOk X.prog X.w H s.heap a (.dT kvs)from I.hok a _ ea)
  exact PySem.W.kia_one PySem.W.kitx_dict I.kIn ⟨o,h1,h2.1⟩ e (λz=>nomatch z) h
 | @ins a C dx fs ea cl ha hn htk hm=>
  cases (show u=Value.ref a from rx)
  obtain⟨mA,O,_⟩:=yC I.hok ea;obtain⟨od,J,_⟩:=O.look;exact PySem.W.kia_one (PySem.W.kitx_own (cl.get _) cl.hd ha hn htk hm) I.kIn J e (λz=>nomatch z) h
end
structure Room (k:Nat)(A:Around):Prop where
 hd:A.handled=none
 dp:A.depth+3*k+5<recursionLimit
 un:A.units+16*k+200<cLine
theorem Room.mono {j k:Nat}{A:Around}(r:Room k A)(h:j<=k):Room j A:=⟨r.hd,by have:=r.dp;omega,by have:=r.un;omega⟩
theorem Room.deeper {k:Nat}{A:Around}(r:Room (k+1) A)(env:Env):Room k (A.deeper env):=
 ⟨r.hd,by have:=r.dp;show A.depth+1+3*k+5<_;omega,by have:=r.un;show A.units+3+16*k+200<_;omega⟩
theorem Room.depth {k:Nat}{A:Around}(r:Room k A):A.depth<recursionLimit:=by have:=r.dp;omega
def o8:TA:=λ_ H Q=>Q [] H
def fI (ta:TE)(tr:TA):TA:=λσ H Q=>ta σ H λx H1=>tr σ H1 λxs H2=>Q (x::xs) H2
section
variable {X:Cx}{e:Expr}{es:List Expr}{te:TE}{t:TA}{pos:Pos}
theorem de:PA X [] o8:=λ_ _ _ _ H Q I h=>Calls.spliced_nil ⟨[],H,I,.nil,h⟩
theorem aZ (ha:PE X e te)(hr:PA X es t)(hs:starEach (e::es) X.env=(false,eval e X.env)::starEach es X.env:=by rfl):PA X (e::es) (fI te t):=by
 intro pos pins s σ H Q I h;rw[hs]
 show wpAny _ _ (spliced ((false,eval e X.env)::backTo pos (starEach es X.env))) _ _ s
 refine Calls.spliced_cons (bS (ha pins s σ H _ I h) λu s1 hh_=> ?_)
 obtain⟨x,H1,I1,r1,q1⟩:=hh_;exact bS (hr pos pins s1 σ H1 _ I1 q1) λus s2 ⟨xs,H2,I2,r2,q2⟩=>⟨x::xs,H2,I2,.cons r1 r2,q2⟩
def xo (t:TA):TE:=λσ H Q=>t σ H λxs H1=>xs.length<=sizeLine/\∀p,H1 p=none->Q (.ref p) (upd H1 p (.tup xs))
def tLst (t:TA):TE:=λσ H Q=>t σ H λxs H1=>xs.length<=sizeLine/\∀p,H1 p=none->Q (.ref p) (upd H1 p (.lst xs))
theorem nP {x1}(h:PA X es t):PE X (.Tuple es x1 pos) (xo t):=by
 intro pins s σ H Q I hq;refine wpAny_Tuple_spliced (bS (h pos pins s σ H _ I hq) λus s1 ⟨xs,H1,I1,r,z,q⟩=>⟨by rw[<-r.length];exact z,?_⟩)
 have hf:H1 s1.heap.objs.size=none:=I1.hok.fresh (Nat.le_refl _);refine⟨.ref s1.heap.objs.size,upd H1 s1.heap.objs.size (.tup xs),I1.laid (t':=s1.toks) (λb u e=>Heap.get?_push_of_some _ e) (Nat.le_refl _) ?_,rfl,q _ hf⟩
 exact⟨z,us,r,⟨_,Heap.get?_push_size _ rfl,rfl,_,rfl⟩⟩
theorem nQ (h:PA X es t):PE X (.List es pos) (tLst t):=by
 intro pins s σ H Q I hq;refine wpAny_List_spliced (bS (h pos pins s σ H _ I hq) λus s1 ⟨xs,H1,I1,r,z,q⟩=>⟨by rw[<-r.length];exact z,?_⟩)
 have hf:H1 s1.heap.objs.size=none:=I1.hok.fresh (Nat.le_refl _);refine⟨.ref s1.heap.objs.size,upd H1 s1.heap.objs.size (.lst xs),I1.laid (t':=s1.toks) (λb u e=>Heap.get?_push_of_some _ e) (Nat.le_refl _) ?_,rfl,q _ hf⟩
 exact⟨z,us,0,r,Heap.get?_push_size _ rfl⟩
end
abbrev Sp:=List V->Hp->VK->XK->Prop
abbrev w6:=List Env->Hp->Shared->XK->Value->Shared->Prop
structure qC (P:Program)(w:World)(K:PySem.W.Frag)(mg:Str->Option Value)(base:Heap)(A:Around)(outer:List Env)(s:Shared)(H:Hp):Prop where
 frames:A.frames=some outer
 mod:Mod K mg base
 bs:∀b o,base.get? b=some o->s.heap.get? b=some o/\H b=none
 bsz:base.objs.size<=s.heap.objs.size
 funs:s.heap.FunFrames base outer
 frf:∀b∈lr outer,H b=none
 hok:HOk P w H s.heap
 bare:AllBare s.gens
def CE (outer:List Env)(P:Program)(w:World)(H:Hp)(s:Shared)(Q:VK)(u:Value)(s':Shared):Prop:=
 ∃v H',s'.os=s.os/\AllBare s'.gens/\Un (lr outer) [] H H' s.heap s'.heap/\HOk P w H' s'.heap/\RelV v u/\Q v H'
def CR (CX:w6)(outer:List Env)(P:Program)(w:World)(H:Hp)(s:Shared)(Q:VK)(E:XK)(r:Result)(s':Shared):Prop:=
 match r with
 | .ok (.ret u)=>CE outer P w H s Q u s'
 | .ok _=>False
 | .error e=>CX outer H s E e s'
structure oH (P:Program)(w:World)(K:PySem.W.Frag)(mg:Str->Option Value)(base:Heap)(CX:w6)(k:Nat)(f:Addr)(fd:FuncData)(ps:List Str)(sp:Sp):Prop where
 len:∀vs H Q E,sp vs H Q E->vs.length=ps.length
 run:∀(A:Around) (outer:List Env) (s:Shared) (H:Hp) (args:Args) (us:List Value) (vs:List V) (Q:VK) (E:XK),Room k A->qC P w K mg base A outer s H->BindsTo s fd args (ps.zip us)->Vals vs us->sp vs H Q E →
  codeAny (model P w) A (.call (.ref f) args) (CR CX outer P w H s Q E) s
section
variable {X:Cx}{pins:List (Addr×Obj)}{σ:St}{H:Hp}{s s':Shared}
theorem Inv.env0 (I:Inv X pins σ H s):qC X.prog X.w X.K X.mg X.base X.A X.stack s H:=
 ⟨I.ok.frames,I.ok.mod,I.bs,Nat.le_trans I.ok.bsz I.sz,I.stack,I.stkFree,I.hok,I.bare⟩
theorem Inv.after {Q:VK}{u:Value}(I:Inv X pins σ H s)(h:CE X.stack X.prog X.w H s Q u s'):EP X pins σ Q u s':=by
 obtain⟨v,H',os,bare,un,hok,r,q⟩:=h;obtain⟨hh,g,d,t,os'⟩:=s';obtain rfl:os'=s.os:=os;exact⟨v,H',I.call (h':=hh) (g':=g) (d':=d) (t':=t) (ch:=[]) un hok bare (λb z=>absurd z (by simp)),r,q⟩
end
def BY (sp:Sp)(dvs:List V)(E:XK)(t:TA):TE:=λσ H Q=>t σ H λvs H1=>sp (vs++dvs) H1 Q E
def Binds (K:PySem.W.Frag)(fd:FuncData)(ps:List Str)(ds:List Value):Prop:=
 ∀(s:Shared) (us:List Value),K.In s.heap->(us++ds).length=ps.length->BindsTo s fd ⟨us,[]⟩ (ps.zip (us++ds))
theorem Binds.all {K:PySem.W.Frag}{fd:FuncData}{ps:List Str}(h:∀us:List Value,us.length=ps.length->bindArgs fd ⟨us,[]⟩=pure (ps.zip us)):Binds K fd ps []:=λs us _ hl=>by
 rw[List.append_nil]at hl ⊢;exact .of_eq (h us hl)
def rG (CX:w6)(X:Cx)(E:XK):Prop:=∀(pins:List (Addr×Obj)) (σ:St) (H:Hp) (s:Shared) (e:Value) (s':Shared),Inv X pins σ H s->CX X.stack H s E e s'->X.xe e s'
section
variable {X:Cx}{CX:w6}{k:Nat}{f C:Addr}{fd:FuncData}{ps:List Str}{sp:Sp}{dvs:List V}{ds:List Value}{E:XK}{x m:Str}{p pos apos:Pos}{e o:Expr}{es:List Expr}{ta:TE}{t:TA}
theorem uV {pins:List (Addr×Obj)}{σ:St}{H:Hp}{s:Shared}{Q:VK}{us:List Value}{vs:List V}(F:oH X.prog X.w X.K X.mg X.base CX k f fd ps sp)(hr:Room k X.A)(hb:Binds X.K fd ps ds)(hd:Vals dvs ds)(hx:rG CX X E)
  (I:Inv X pins σ H s) (r:Vals vs us) (h:sp (vs++dvs) H Q E):wpAny (model X.prog X.w) X.A (call (.ref f) us) (EP X pins σ Q) X.xe s:=by
 have r2:Vals (vs++dvs) (us++ds):=r.append hd
 have hl:(us++ds).length=ps.length:=by rw[<-r2.length];exact F.len _ _ _ _ h
 refine wpAny_call (codeAny_mono (F.run X.A X.stack s H ⟨us,[]⟩ (us++ds) (vs++dvs) Q E hr I.env0 (hb s us I.kIn hl) r2 h) λr s' hq=> ?_)
 cases r with
 | error e=>exact hx pins σ H s e s' I hq
 | ok fl=>
  cases fl with
  | ret u=>exact I.after hq
  | next=>exact False.elim hq
  | brk=>exact False.elim hq
  | cont=>exact False.elim hq
theorem rY (F:oH X.prog X.w X.K X.mg X.base CX k f fd ps sp)(hr:Room k X.A)(hg:Gl X x)(hm:X.mg x=some (.ref f))(hk:PySem.W.keepIn X.K (.ref f)=true)(hb:Binds X.K fd ps ds)(hd:Vals dvs ds)(hx:rG CX X E)
  (ha:PA X (e::es) t) (hdb:(x == ("__debug__" : Str))=false:=by decide) (he:starEach (e::es) X.env=(false,eval e X.env)::starEach es X.env:=by rfl) (hpl:(backTo pos (starEach es X.env)).any (·.1)=false:=by rfl) :
  PE X (.Call (.Name x p) (e::es) [] pos) (BY sp dvs E t):=by
 intro pins s σ H Q I h;refine wpAny_Call_Name_kw (ii I hg hm ?_ hdb)
 refine PySem.W.callWith_K (h₀:=X.base) I.ok.mod.kin hk (bS (ha pos pins s σ H _ I h) λus s1 ⟨vs,H1,I1,r,q⟩=>⟨I1.kIn,?_⟩) he hpl
 exact uV F hr hb hd hx I1 r q
end
structure aA (N P:List Str)(sc:Scope):Prop where
 kind:sc.kind= .function
 co:sc.isCoroutine=false
 gen:sc.isGenerator=false
 nd:N.Nodup
 pre:N.take P.length=P
 par:∀x∈P,sc.names.lookup x=some .local\/sc.names.lookup x=some .cell
 nofree:∀y∈sc.names,y.2≠ .free
theorem m6 {kindOf:Str->Option NameKind}{x:Str}:∀{binds:List (Str×Value)} {m:Str->Option Value},(∀v,(x,v)∉binds)->bindL kindOf binds m x=m x
 | [],_,_=>rfl
 | (n,v)::r,m,h=>by
  unfold bindL;rw[m6 λw hw=>h w (List.mem_cons_of_mem _ hw)]
  split
  ·have:x≠n:=by rintro rfl;exact h v List.mem_cons_self
   simp[this]
  ·rfl
theorem m9 {kindOf:Str->Option NameKind}{x:Str}:∀{binds:List (Str×Value)} {m:Str->Option Value},(∀v,(x,v)∉binds)->bindC kindOf binds m x=m x
 | [],_,_=>rfl
 | (n,v)::r,m,h=>by
  unfold bindC;rw[m9 λw hw=>h w (List.mem_cons_of_mem _ hw)]
  split
  ·rfl
  ·have:x≠n:=by rintro rfl;exact h v List.mem_cons_self
   simp[this]
theorem m7 {kindOf:Str->Option NameKind}{x:Str}{v:Value}:∀{P:List Str} {vs:List Value} {i:Nat} {m:Str->Option Value},P.Nodup->P[i]? =some x->vs[i]? =some v->kindOf x=some .local →
  bindL kindOf (P.zip vs) m x=some v
 | [],_,_,_,_,h,_,_=>by simp at h
 | _::_,[],_,_,_,_,h,_=>by simp at h
 | p::P,w::vs,0,m,nd,h1,h2,hk=>by
  simp at h1 h2;subst h1;subst h2
  show bindL kindOf ((p,w)::P.zip vs) m p=_
  unfold bindL;rw[m6 λv hv=>(List.nodup_cons.mp nd).1 (List.of_mem_zip hv).1,if_pos hk]
  simp
 | p::P,w::vs,i+1,m,nd,h1,h2,hk=>by
  show bindL kindOf ((p,w)::P.zip vs) m x=_
  unfold bindL;exact m7 (i:=i) (List.nodup_cons.mp nd).2 (by simpa using h1) (by simpa using h2) hk
theorem ng {kindOf:Str->Option NameKind}{x:Str}{v:Value}:∀{P:List Str} {vs:List Value} {i:Nat} {m:Str->Option Value},P.Nodup->P[i]? =some x->vs[i]? =some v->kindOf x≠some .local →
  bindC kindOf (P.zip vs) m x=some v
 | [],_,_,_,_,h,_,_=>by simp at h
 | _::_,[],_,_,_,_,h,_=>by simp at h
 | p::P,w::vs,0,m,nd,h1,h2,hk=>by
  simp at h1 h2;subst h1;subst h2
  show bindC kindOf ((p,w)::P.zip vs) m p=_
  unfold bindC;rw[m9 λv hv=>(List.nodup_cons.mp nd).1 (List.of_mem_zip hv).1,if_neg hk]
  simp
 | p::P,w::vs,i+1,m,nd,h1,h2,hk=>by
  show bindC kindOf ((p,w)::P.zip vs) m x=_
  unfold bindC;exact ng (i:=i) (List.nodup_cons.mp nd).2 (by simpa using h1) (by simpa using h2) hk
def start (N:List Str)(vs:List V):St:=vs.map some++List.replicate (N.length - vs.length) none
def jr (CX:w6)(P:Program)(w:World)(K:PySem.W.Frag)(mg:Str->Option Value)(base:Heap)(N:List Str)(qual:Str)(scope:Scope)(f:Addr)(cd:Value)(A:Around)(outer:List Env)(s:Shared)(H:Hp)(E:XK):Cx where
 prog:=P
 w:=w
 K:=K
 mg:=mg
 base:=base
 A:=A.deeper (envOfC qual scope s.heap.objs.size f cd)
 N:=N
 s₀:=s
 H₀:=H
 env:=envOfC qual scope s.heap.objs.size f cd
 outer:=outer
 stack:=envOfC qual scope s.heap.objs.size f cd::outer
 ex:=[]
 calm:=true
 fn:=λ_=>true
 pn:=[]
 xe:=λe s'=>wpAny (model P w) (A.deeper (envOfC qual scope s.heap.objs.size f cd)) (leaving (envOfC qual scope s.heap.objs.size f cd) e) (λ_ s''=>CX outer H s E e s'') (λe' s''=>CX outer H s E e' s'') s'
theorem qz {sc:Scope}{n:Nat}{x:Str}(h:sc.names.lookup x=some .cell):∃c,(cellsFrom n sc.names []).lookup x=some c:=by
 have q:=PySem.W.cellsFrom_some sc.names n [] (.inl h);exact Option.isSome_iff_exists.mp q
theorem jD {CX:w6}{P:Program}{w:World}{K:PySem.W.Frag}{mg:Str->Option Value}{base:Heap}{N ps:List Str}{qual:Str}{scope:Scope}{f:Addr}{cd:Value}{A:Around}{outer:List Env}{s s1:Shared}{H:Hp}{E:XK}{us:List Value}{vs:List V}
  (S:aA N ps scope) (hd:A.handled=none) (e0:qC P w K mg base A outer s H) (hl:vs.length=ps.length) (r:Vals vs us)
  (x:InCallC s s.heap.objs.size (bindL (envOfC qual scope s.heap.objs.size f cd).kindOf (ps.zip us) λ_=>none) (cellsFrom (s.heap.objs.size+1) scope.names []) (bindC (envOfC qual scope s.heap.objs.size f cd).kindOf (ps.zip us) λ_=>none) s1) :
  Inv (jr CX P w K mg base N qual scope f cd A outer s H E) [] (start N vs) H s1:=by
 have hpl:ps.length<=N.length:=by have:=congrArg List.length S.pre;rw[List.length_take]at this;omega
 obtain⟨h1,tk,rfl,hk⟩:=x.done
 have noA:∀b:Addr,b∉(jr CX P w K mg base N qual scope f cd A outer s H E).ex:=λb z=>absurd (show b∈([]:List Addr)from z) (by simp)
 refine⟨⟨e0.mod,S.kind,rfl,rfl,Nat.le_refl _,λy z c h1 h2=> ?_,λy hy=> ?_,λy c _ h=> ?_,λ_=>hd,Around.frames_deeper e0.frames,.inr ⟨rfl,rfl⟩,λb z=>absurd z (noA b),e0.bs,e0.bsz,λb _ _=>noA b,λb z=>absurd z (noA b),e0.funs,e0.frf⟩,
  rfl,e0.bare,Un.kept hk,⟨_,x.toInCall.ns,λi y v h1 h2 h3=> ?_⟩,λy c h=>⟨_,x.cell y c h⟩,e0.hok.fresh (Nat.le_refl _),λy c h=> ?_,λp hp=>absurd (show p∈([]:List (Addr×Obj))from hp) (by simp),e0.hok.kept hk,?_⟩
 ·exact name_of_addr x.apart (PySem.mem_of_lookup h1) (PySem.mem_of_lookup h2)
 ·have hy:scope.names.lookup y=some .cell\/scope.names.lookup y=some .free:=hy
  rcases hy with hy | hy
  ·exact qz hy
  ·exact absurd rfl (S.nofree _ (PySem.mem_of_lookup hy))
 ·exact Nat.le_of_lt (x.above y c (PySem.mem_of_lookup h))
 ·have hi:i<vs.length:=by
   unfold start at h2
   by_cases hi:i<vs.length
   ·exact hi
   ·rw[List.getElem?_append_right (by simpa using hi)]at h2
    rw[List.getElem?_replicate]at h2
    split at h2 <;> cases h2
  have ha:vs[i]? =some v:=by
   unfold start at h2;rw[List.getElem?_append_left (by simpa using hi),List.getElem?_map]at h2
   cases e:vs[i]? with
   | none=>rw[e]at h2;cases h2
   | some a=>rw[e]at h2;cases h2;rfl
  obtain⟨u,hu,rv⟩:=r.get ha
  have hp:ps[i]? =some y:=by
   rw[<-S.pre,List.getElem?_take_of_lt (by omega)];exact h1
  have ndP:ps.Nodup:=by rw[<-S.pre];exact S.nd.sublist (List.take_sublist _ _)
  refine⟨u,rv,?_⟩
  rcases S.par y (List.mem_of_getElem? hp)with k | k
  ·exact .inl ⟨k,m7 ndP hp hu k⟩
  ·obtain⟨c,e⟩:=qz (n:=s.heap.objs.size+1) k
   refine .inr ⟨.inl k,c,e,?_⟩
   have q:=x.cell y c e;rw[ng ndP hp hu (by show scope.names.lookup y≠_;rw[k];decide)]at q
   exact q
 ·exact e0.hok.fresh (Nat.le_of_lt (x.above y c (PySem.mem_of_lookup h)))
 ·unfold start
  show _=N.length
  rw[List.length_append,List.length_map,List.length_replicate];omega
theorem sI {CX:w6}{P:Program}{w:World}{K:PySem.W.Frag}{mg:Str->Option Value}{base:Heap}{k:Nat}{f:Addr}{name qual:Str}{params:Arguments}{body:List Stmt}{scope:Scope}{dV kV doc pm cdv ct oc:Value}{an od:Option Addr}
  {osl:Array (Option Value)} {N ps:List Str} {sp:Sp} (lk:K.lookup f=some ⟨oc,od,.func (PySem.W.fnOf name qual params body scope dV kV doc pm an cdv ct),osl⟩) (hcd:PySem.W.codeIn K cdv qual=true) (S:aA N ps scope)
  (len:∀vs H Q E,sp vs H Q E->vs.length=ps.length)
  (hbody:∀(A:Around) (outer:List Env) (s:Shared) (H:Hp) (vs:List V) (Q:VK) (E:XK),Room k (A.deeper (envOfC qual scope s.heap.objs.size f cdv))->sp vs H Q E →
   ∃t,PSs (jr CX P w K mg base N qual scope f cdv A outer s H E) body t/\t { nx:=λ_ H'=>Q .non H',rt:=Q } (start N vs) H) :
  oH P w K mg base CX (k+1) f (PySem.W.fnOf name qual params body scope dV kV doc pm an cdv ct) ps sp:=by
 refine⟨len,λA outer s H args us vs Q E hr e0 hb r hsp=> ?_⟩
 have hl:=len _ _ _ _ hsp
 have KX:K.In s.heap:=e0.mod.kin.keeps λb o e=>(e0.bs b o e).1
 have lim:s.heap.NoLimit:=e0.mod.nolimit.keeps λb o e=>(e0.bs b o e).1
 have hkind:∀y∈ps.zip us,scope.names.lookup y.1=some .local\/(scope.names.lookup y.1=some .cell/\((cellsFrom (s.heap.objs.size+1) scope.names []).lookup y.1).isSome=true):=λ⟨n,v⟩ hy=>by
  rcases S.par n (List.of_mem_zip hy).1 with q | q
  ·exact .inl q
  ·exact .inr ⟨q,PySem.W.cellsFrom_some _ _ _ (.inl q)⟩
 refine codeAny_call_function hr.depth (KX _ _ lk) rfl S.co S.gen rfl (PySem.W.codeRec_of KX hcd) (hb _ _ _ _ ?_)
 refine wpAny_newFunctionEnv_cells S.kind hkind λenv he s1 x=> ?_
 subst he;refine⟨lim.keeps x.toInCall.keep,codeAny_func ?_⟩
 obtain⟨t,ht,hq⟩:=hbody A outer s H vs Q E (hr.deeper _) hsp
 have I:Inv (jr CX P w K mg base N qual scope f cdv A outer s H E) [] (start N vs) H s1:=jD S hr.hd e0 hl r x;refine wpAny_mono (ht [] s1 (start N vs) H _ I hq) (λfl s' hs=> ?_) λe s' hs=>hs
 have fin:∀{σ':St} {H':Hp} {v:V} {u:Value},Inv (jr CX P w K mg base N qual scope f cdv A outer s H E) [] σ' H' s'->RelV v u->Q v H'->CE outer P w H s Q u s':=
  λ{σ' H' v u} J rv q=>⟨v,H',J.os,J.bare,J.base,J.hok,rv,q⟩
 cases fl with
 | ret u=>
  obtain⟨v,σ',H',J,rv,q⟩:=hs
  exact fin J rv q
 | next=>
  obtain⟨σ',H',J,q⟩:=hs
  exact fin (v:=V.non) (u:=Value.none) J rfl q
 | brk=>
  obtain⟨_,_,_,q⟩:=hs
  exact False.elim q
 | cont=>
  obtain⟨_,_,_,q⟩:=hs;exact False.elim q
end L2
namespace HT
open PySem PyProof.Rows
section
variable {prog:Program}{w:World}{A:Around}{E:Value->Shared->Prop}{s:Shared}
theorem cat_tup {t b:Addr}{vs ws:List Value}{Q:Value->Shared->Prop}(ht:IsTup s.heap t vs.toArray)(hb:IsTup s.heap b ws.toArray)(hv:vs≠ [])
  (h1:ws= []->Q (.ref t) s) (h2:ws≠ []->Q (.ref s.heap.objs.size) { s with heap:=s.heap.push { cls:=.type "tuple",data:=.seq (vs++ws).toArray } })
  (hsz:vs.length+ws.length<=sizeLine):wpAny (model prog w) A (binaryOp .Add (.ref t) (.ref b)) Q E s:=by
 obtain⟨⟨cls,dd,data,sl⟩,ho,hc,n,hd⟩:=id ht;obtain⟨⟨cls2,dd2,data2,sl2⟩,ho2,hc2,n2,hd2⟩:=id hb;simp only at hc hd hc2 hd2;subst hc hd hc2 hd2
 have e:vs.toArray++ws.toArray=(vs++ws).toArray:=by simp
 by_cases hw:ws= []
 ·exact concat_meets ⟨_,ho,rfl⟩ ⟨_,ho2,rfl⟩ noFill_tuple_add seq_tuple_add PySem.F.slot_tuple_add PySem.F.entry_tuple_add (PySem.F.args_tuple_add_2 _ _)
   (tuple_addW1 t b vs.toArray ws.toArray n n2 dd dd2 sl sl2 (by simpa using hv) (by simp[hw])) ⟨ho,ho2,h1 hw⟩
 ·refine concat_meets ⟨_,ho,rfl⟩ ⟨_,ho2,rfl⟩ noFill_tuple_add seq_tuple_add PySem.F.slot_tuple_add PySem.F.entry_tuple_add (PySem.F.args_tuple_add_2 _ _)
   (tuple_addW2 t b vs.toArray ws.toArray n n2 dd dd2 sl sl2 (by simpa using hv) (by simpa using hw) (by rw[List.size_toArray,List.size_toArray];exact hsz)) ⟨ho,ho2,?_⟩
  rw[e];exact h2 hw
def sIx (n d:Nat):Option Int->Nat
 | none=>d
 | some v=>if v<0 then(v+(n:Int)).toNat else min v.toNat n
theorem sIx_none (n d:Nat):sIx n d none=d:=rfl
theorem sIx_nat (n d k:Nat):sIx n d (some (k:Int))=min k n:=by
 show(if (k:Int)<0 then((k:Int)+(n:Int)).toNat else min (k:Int).toNat n)=min k n
 rw[if_neg (by omega),Int.toNat_natCast]
theorem Ab (n d:Nat)(hd:d<=n)(o:Option Int):sIx n d o<=n:=by
 cases o with
 | none=>exact hd
 | some v=>
  show(if v<0 then(v+(n:Int)).toNat else min v.toNat n)<=n
  by_cases hv:v<0
  ·rw[if_pos hv];omega
  ·rw[if_neg hv];exact Nat.min_le_right _ _
theorem sU (v:Int)(n d:Nat):(if v<0 then max (v+(n:Int)) 0 else min v (n:Int))=((sIx n d (some v):Nat):Int):=by
 show(if v<0 then max (v+(n:Int)) 0 else min v (n:Int))=(((if v<0 then(v+(n:Int)).toNat else min v.toNat n):Nat):Int)
 by_cases hv:v<0
 ·simp only[if_pos hv];omega
 ·simp only[if_neg hv];omega
theorem rF (lo hi:Option Int)(n:Nat):Builtin.Slice.sliceAdjust lo hi 1 (n:Int)=(((sIx n 0 lo:Nat):Int),((sIx n n hi:Nat):Int)):=by
 have h1:¬ ((1:Int)<0):=by omega
 unfold Builtin.Slice.sliceAdjust;simp only[h1,if_false];refine Prod.ext ?_ ?_
 ·cases lo with
  | none=>rfl
  | some v=>exact sU v n 0
 ·cases hi with
  | none=>rfl
  | some v=>exact sU v n n
theorem qP (i j:Nat):Builtin.Slice.slicePlaces (i:Int) (j:Int) 1=j - i:=by
 unfold Builtin.Slice.slicePlaces
 have h1:(1:Int) > 0:=by omega
 simp only[h1,if_true,Int.ediv_one]
 split <;> omega
theorem kK {v:Value}{o:Option Int}{Q:Option Int->Shared->Prop}(p:IsPart v o)(h:Q o s):wpAny (model prog w) A (Builtin.Slice.slicePartIndex v) Q E s:=by
 cases p with
 | none=>exact slicePart_none h
 | int i t=>exact slicePart_int h
theorem fU {sl:Addr}{vl vu:Value}{lo hi:Option Int}{n:Nat}{Q:Int×Int×Nat->Shared->Prop}(hs:s.heap.IsSliceOf sl vl vu .none)(pl:IsPart vl lo)(pu:IsPart vu hi)
  (h:Q (((sIx n 0 lo:Nat):Int),1,sIx n n hi - sIx n 0 lo) s):wpAny (model prog w) A (Builtin.Slice.sliceApplied (.ref sl) (pure (n:Int))) Q E s:=by
 obtain⟨os,hos,hcs,hds⟩:=id hs;unfold Builtin.Slice.sliceApplied Builtin.Slice.sliceFields;refine wpAny_bind (wpAny_bind (wpAny_field hos hds (x:=vl) rfl (wpAny_bind (wpAny_field hos hds (x:=vu) rfl (wpAny_bind (wpAny_field hos hds (x:=.none) rfl (wpAny_pure ?_)))))))
 refine wpAny_bind (slicePart_none ?_)
 show wpAny _ _ (if ((1:Int) == 0)=true then _ else _) _ _ s
 rw[if_neg (by decide)]
 refine wpAny_bind (kK pl (wpAny_bind (kK pu (wpAny_bind (wpAny_pure ?_)))))
 show wpAny _ _ (match Builtin.Slice.sliceAdjust lo hi 1 (n:Int)with | (lo,hi)=>pure (lo,(1:Int),Builtin.Slice.slicePlaces lo hi 1)) _ _ s
 rw[rF lo hi n]
 show wpAny _ _ (pure (((sIx n 0 lo:Nat):Int),(1:Int),Builtin.Slice.slicePlaces ((sIx n 0 lo:Nat):Int) ((sIx n n hi:Nat):Int) 1)) _ _ s
 rw[qP];exact wpAny_pure h
theorem vg (xs:Array Value)(i k:Nat):((List.range k).filterMap λ(m:Nat)=>xs[((i:Int)+(m:Int)*1).toNat]?).toArray=((xs.toList.drop i).take k).toArray:=by
 have e:(λ(m:Nat)=>xs[((i:Int)+(m:Int)*1).toNat]?)=λm=>xs[i+m]?:=by
  funext m
  have:((i:Int)+(m:Int)*1).toNat=i+m:=by omega
  rw[this]
 rw[e]
 have:=pick_run xs i k;rw[List.filterMap_map]at this
 have e2:((λx=>xs[x]?)∘λx=>i+x)=λm=>xs[i+m]?:=rfl
 rw[e2]at this;rw[this]
theorem getItem_tuple_cut {t sl:Addr}{items:Array Value}{vl vu:Value}{lo hi:Option Int}{Q:Value->Shared->Prop}(ht:IsTup s.heap t items)(hs:s.heap.IsSliceOf sl vl vu .none)(pl:IsPart vl lo)(pu:IsPart vu hi)
  (hw:¬ (sIx items.size 0 lo=0/\sIx items.size items.size hi=items.size))
  (h:Q (.ref s.heap.objs.size) { s with heap:=s.heap.push { cls:=.type "tuple",data:=.seq ((items.toList.drop (sIx items.size 0 lo)).take (sIx items.size items.size hi - sIx items.size 0 lo)).toArray } })
  (hsz:items.size<=sizeLine):wpAny (model prog w) A (getItem (.ref t) (.ref sl)) Q E s:=by
 have htake:sizeOk (.seq ((items.toList.drop (sIx items.size 0 lo)).take (sIx items.size items.size hi - sIx items.size 0 lo)).toArray):=by
  show((items.toList.drop (sIx items.size 0 lo)).take (sIx items.size items.size hi - sIx items.size 0 lo)).toArray.size<=sizeLine
  rw[List.size_toArray,List.length_take,List.length_drop,Array.length_toList];omega
 have hj:sIx items.size items.size hi<=items.size:=Ab _ _ (Nat.le_refl _) hi;obtain⟨os,hos,hcs,hds⟩:=id hs
 have hTs:s.TypeIs (.ref sl) "slice":=⟨os,hos,hcs⟩;unfold getItem
 try with_reducible refine wpAny_holding ?_
 first | refine wpAny_bind (wpAny_pure ?_) | skip
 refine wpAny_bind (wpAny_sequenceKey ht.typeIs (by decide) ?_)
 refine wpAny_bind (wpAny_callSpecial?_slot (name:=Str.ofString "__getitem__") ht.typeIs PyProof.Rows.slot_tuple_getitem
  (wpAny_call_entry PyProof.Rows.slot_tuple_getitem ht.typeIs entry_tuple_getitem ?_ (args_tuple_getitem _ _)))
 show wpAny _ _ (Builtin.Tuple.tupleItemsOf (.ref t) >>= _) _ _ s
 refine wpAny_bind (tupleItemsOf_ ht ?_)
 refine wpAny_bind (wpAny_typeOf hTs ?_)
 rw[if_pos (by decide)]
 refine wpAny_bind (fU hs pl pu ?_)
 have hno:¬ ((((sIx items.size 0 lo:Nat):Int) == 0&&(1:Int) == 1&&(sIx items.size items.size hi - sIx items.size 0 lo) == items.size)=true):=by
  intro q;rw[Bool.and_eq_true,Bool.and_eq_true]at q
  have q1:((sIx items.size 0 lo:Nat):Int)=0:=eq_of_beq q.1.1
  have q2:sIx items.size items.size hi - sIx items.size 0 lo=items.size:=eq_of_beq q.2;exact hw ⟨by omega,by omega⟩
 show wpAny _ _ (if (((sIx items.size 0 lo:Nat):Int) == 0&&(1:Int) == 1&&(sIx items.size items.size hi - sIx items.size 0 lo) == items.size)=true then _ else _) _ _ s
 rw[if_neg hno,vg]
 first
  | exact wpAny_bind (m:=Builtin.Tuple.tupleExact _) (wpAny_newObj_type (wpAny_pure ⟨_,rfl,wpAny_pure h⟩) htake)
  | exact wpAny_bind (m:=Builtin.Tuple.tupleExact _) (wpAny_newObj_type (wpAny_bind (wpAny_pure (wpAny_pure ⟨_,rfl,wpAny_pure h⟩))) htake)
  | exact wpAny_bind (wpAny_bind (m:=Builtin.Tuple.tupleExact _) (wpAny_newObj_type (wpAny_pure (wpAny_pure ⟨_,rfl,wpAny_pure h⟩)) htake))
  | exact wpAny_bind (wpAny_bind (m:=Builtin.Tuple.tupleExact _) (wpAny_newObj_type (wpAny_pure ⟨_,rfl,wpAny_pure h⟩) htake))
end
end HT
namespace L2
open PySem PySem.Spec PyProof.Rows
abbrev TO:=St->Hp->(Option Int->Hp->Prop)->Prop
def PO (X:Cx)(e:Option Expr)(t:TO):Prop:=
 ∀(pins:List (Addr×Obj)) (s:Shared) (σ:St) (H:Hp) (Q:Option Int->Hp->Prop),Inv X pins σ H s->t σ H Q →
  wpAny (model X.prog X.w) X.A (evalPart e X.env) (λu s'=> ∃o H',Inv X pins σ H' s'/\IsPart u o/\Q o H') X.xe s
def xq:TO:=λ_ H Q=>Q none H
def BS (t:TE):TO:=λσ H Q=>t σ H λx H1=> ∃i,x= .int i/\Q (some i) H1
theorem rj {ns:List Int}:∀{us:List Value},Vals (ns.map V.int) us->IntsAre us ns:=by
 induction ns with
 | nil=>intro us r;rw[List.map_nil]at r;cases r;exact .nil
 | cons n ns ih=>
  intro us r;rw[List.map_cons]at r
  cases r with
  | cons r1 r2=>
   obtain⟨t,e⟩:=r1;subst e;exact .cons n t (ih r2)
section
variable {X:Cx}{e:Expr}{te:TE}{lo hi:Option Expr}{tl th:TO}{pos p2:Pos}
theorem x5:PO X none xq:=by
 intro pins s σ H Q I h;rw[evalPart_none];exact wpAny_pure ⟨none,H,I,.none,h⟩
theorem xZ (h:PE X e te):PO X (some e) (BS te):=by
 intro pins s σ H Q I hw;rw[evalPart_some];refine bS (h pins s σ H _ I hw) λu s1 hh_=> ?_
 obtain⟨x,H1,I1,r1,q1⟩:=hh_;obtain⟨i,rfl,q⟩:=q1;obtain⟨t,rfl⟩:=r1;exact⟨some i,H1,I1,.int i t,q⟩
def SlR (X:Cx)(r:V->Option Int->Option Int->Hp->VK->Prop):Prop:=
 ∀(pins:List (Addr×Obj)) (s:Shared) (σ:St) (H:Hp) (x:V) (v vl vu:Value) (lo hi:Option Int) (sl:Addr) (Q:VK),Inv X pins σ H s->RelV x v->s.heap.IsSliceOf sl vl vu .none->IsPart vl lo->IsPart vu hi->r x lo hi H Q →
  ∃T id,typeLookup (.type T) "__getitem__" =pure (some (.builtin id))/\s.TypeIs v T/\wpAny (model X.prog X.w) X.A (getItem v (.ref sl)) (EP X pins σ Q) X.xe s
theorem SlR.or {r r':V->Option Int->Option Int->Hp->VK->Prop}(h:SlR X r)(h':SlR X r'):SlR X (λx lo hi H Q=>r x lo hi H Q\/r' x lo hi H Q):=by
 intro pins s σ H x v vl vu lo hi sl Q I rx hs pl pu q;rcases q with q | q
 ·exact h pins s σ H x v vl vu lo hi sl Q I rx hs pl pu q
 ·exact h' pins s σ H x v vl vu lo hi sl Q I rx hs pl pu q
def tSl (r:V->Option Int->Option Int->Hp->VK->Prop)(te:TE)(tl th:TO):TE:=λσ H Q=>te σ H λx H1=>tl σ H1 λl H2=>th σ H2 λu H3=>r x l u H3 Q
theorem vk {r:V->Option Int->Option Int->Hp->VK->Prop}(hr:SlR X r)(he:PE X e te)(hl:PO X lo tl)(hu:PO X hi th):PE X (.Subscript e (.Slice lo hi none p2) pos) (tSl r te tl th):=by
 intro pins s σ H Q I h;refine Subscript_ (bS (he pins s σ H _ I h) λv s1 hh_=> ?_)
 obtain⟨x,H1,I1,r1,q1⟩:=hh_;refine wpAny_Slice (bS (hl pins s1 σ H1 _ I1 q1) λvl s2 ⟨l,H2,I2,pl,q2⟩=>bS (hu pins s2 σ H2 _ I2 q2) λvu s3 hh_=> ?_)
 obtain⟨u,H3,I3,pu,q3⟩:=hh_;rw[evalPart_none];refine wpAny_pure ?_
 have I4:Inv X pins σ H3 { s3 with heap:=s3.heap.push { cls:=.type "slice",data:=.fields #[vl,vu,.none] } }:=I3.kept (t':=s3.toks) λb ob q=>Heap.get?_push_of_some _ q
 obtain⟨T,id,hT,ht,hg⟩:=hr pins { s3 with heap:=s3.heap.push { cls:=.type "slice",data:=.fields #[vl,vu,.none] } } σ H3 x v vl vu l u s3.heap.objs.size Q I4 r1 (Heap.IsSliceOf.new ..) pl pu q3
 show wpAny (model X.prog X.w) X.A (subscriptTail e (.Slice lo hi none p2) v (.ref s3.heap.objs.size)) (EP X pins σ Q) X.xe { s3 with heap:=s3.heap.push { cls:=.type "slice",data:=.fields #[vl,vu,.none] } }
 exact tail_any (ops:=[.ref s3.heap.objs.size,v]) ht hT hg (by with_unfolding_all rfl)
def qx (xs:List V)(lo hi:Option Int):List V:=(xs.drop (HT.sIx xs.length 0 lo)).take (HT.sIx xs.length xs.length hi - HT.sIx xs.length 0 lo)
theorem jT (xs:List V)(lo hi:Option Int):(qx xs lo hi).length<=xs.length:=by
 unfold qx;rw[List.length_take,List.length_drop];omega
def rSlT (K:PySem.W.Frag):V->Option Int->Option Int->Hp->VK->Prop:=λx lo hi H Q=> ∃a xs,x= .ref a/\SqT K H a xs ∧
 ¬(HT.sIx xs.length 0 lo=0/\HT.sIx xs.length xs.length hi=xs.length)/\∀p,H p=none->Q (.ref p) (upd H p (.tup (qx xs lo hi)))
theorem sl_tup:SlR X (rSlT X.K):=by
 intro pins s σ H x v vl vu lo hi sl Q I rx hs pl pu h;obtain⟨a,xs,rfl,hx,hw,q⟩:=h;cases rx;obtain⟨its,r,ht,hz⟩:=I.tuple hx
 have hlen:its.toArray.size=xs.length:=by rw[List.size_toArray];exact r.length.symm
 refine⟨"tuple",_,PyProof.Rows.slot_tuple_getitem.lookup,ht.typeIs,?_⟩
 refine HT.getItem_tuple_cut ht hs pl pu (by rw[hlen];exact hw) ?_ (by rw[hlen];exact hz)
 rw[hlen];refine⟨.ref s.heap.objs.size,_,I.laid (t':=s.toks) (o:=.tup (qx xs lo hi)) (λb ob q=>Heap.get?_push_of_some _ q) (Nat.le_refl _) ?_,rfl,q _ (I.hok.fresh (Nat.le_refl _))⟩
 exact⟨Nat.le_trans (jT xs lo hi) hz,_,(r.drop (HT.sIx xs.length 0 lo)).take (HT.sIx xs.length xs.length hi - HT.sIx xs.length 0 lo),IsTup.new _ _⟩
def B8 (K:PySem.W.Frag):R2:=λx y H Q=> ∃a b xs ys,x= .ref a/\y= .ref b/\SqT K H a xs/\SqT K H b ys/\xs≠ []/\xs.length+ys.length<=sizeLine ∧
 (ys= []->Q (.ref a) H)/\(ys≠ []->∀p,H p=none->Q (.ref p) (upd H p (.tup (xs++ys))))
theorem Vals.nil_iff {xs:List V}{us:List Value}(r:Vals xs us):us= [] ↔xs= []:=by
 cases r with
 | nil=>simp
 | cons _ _=>simp
theorem yh:lN X (binaryOp .Add) (B8 X.K):=by
 intro pins s σ H x y v u Q I rx ry h;obtain⟨a,b,xs,ys,rfl,rfl,ha,hb,hx,hz,q1,q2⟩:=h;cases rx;cases ry;obtain⟨its,r1,p1,_⟩:=I.tuple ha;obtain⟨its2,r2,p2,_⟩:=I.tuple hb;refine HT.cat_tup p1 p2 (λz=>hx (r1.nil_iff.mp z)) (λz=>⟨.ref a,H,I,rfl,q1 (r2.nil_iff.mp z)⟩) (λz=> ?_) (by rw[<-r1.length,<-r2.length];exact hz)
 refine⟨.ref s.heap.objs.size,_,I.laid (t':=s.toks) (o:=.tup (xs++ys)) (λb ob q=>Heap.get?_push_of_some _ q) (Nat.le_refl _) ?_,rfl,q2 (λw=>z (r2.nil_iff.mpr w)) _ (I.hok.fresh (Nat.le_refl _))⟩
 exact⟨by rw[List.length_append];exact hz,_,r1.append r2,IsTup.new _ _⟩
end
def ixN (n:Nat)(i:Int):Option Nat:=if 0<=i then(if i<n then some i.toNat else none)else if -(n:Int)<=i then some (i+n).toNat else none
def atI {α:Type}(xs:List α)(i:Int):Option α:=(ixN xs.length i).bind λj=>xs[j]?
theorem yy {n:Nat}{i:Int}{j:Nat}(h:ixN n i=some j):seqIndex? i n=some j/\j<n/\-(n:Int)<=i/\i<n:=by
 unfold ixN at h
 by_cases h0:0<=i
 ·rw[if_pos h0]at h
  by_cases h1:i<n
  ·rw[if_pos h1]at h
   have e:i.toNat=j:=Option.some.inj h;exact⟨by rw[seqIndex_of h0 h1,e],by omega,by omega,h1⟩
  ·rw[if_neg h1]at h;cases h
 ·rw[if_neg h0]at h
  by_cases h1 : -(n:Int)<=i
  ·rw[if_pos h1]at h
   have e:(i+n).toNat=j:=Option.some.inj h;exact⟨by rw[seqIndex_neg (by omega) h1,e],by omega,h1,by omega⟩
  ·rw[if_neg h1]at h;cases h
theorem oE {α:Type}{xs:List α}{i:Int}{v:α}(h:atI xs i=some v):∃j,seqIndex? i xs.length=some j/\xs[j]? =some v/\j<xs.length/\-(xs.length:Int)<=i/\i<xs.length:=by
 unfold atI at h
 cases e:ixN xs.length i with
 | none=>rw[e]at h;cases h
 | some j=>
  rw[e]at h;obtain⟨h1,h2,h3,h4⟩:=yy e;exact⟨j,h1,h,h2,h3,h4⟩
def iq (b:Expr):Prop:=∀o i,subscripted b false o i=operate [o,i] (getItem o i)
def IxR (X:Cx)(r:R2):Prop:=
 ∀(value slice:Expr) (pins:List (Addr×Obj)) (s:Shared) (σ:St) (H:Hp) (x y:V) (v u:Value) (Q:VK),Inv X pins σ H s->RelV x v->RelV y u->r x y H Q →
  subscripted slice false v u=operate [v,u] (getItem v u)->wpAny (model X.prog X.w) X.A (subscriptTail value slice v u) (EP X pins σ Q) X.xe s
def MtR (X:Cx)(id:String)(r:V->List V->Hp->VK->Prop):Prop:=
 ∀(pins:List (Addr×Obj)) (s:Shared) (σ:St) (H:Hp) (x:V) (xs:List V) (v:Value) (us:List Value) (Q:VK),Inv X pins σ H s->RelV x v->Vals xs us->r x xs H Q →
  wpAny (model X.prog X.w) X.A (call (.builtin id) (v::us)) (EP X pins σ Q) X.xe s
section
variable {X:Cx}{a b:Expr}{ta tb:TE}{pos:Pos}
theorem IxR.or {r r':R2}(h:IxR X r)(h':IxR X r'):IxR X (λx y H Q=>r x y H Q\/r' x y H Q):=by
 intro value slice pins s σ H x y v u Q I rx ry q hs;rcases q with q | q
 ·exact h value slice pins s σ H x y v u Q I rx ry q hs
 ·exact h' value slice pins s σ H x y v u Q I rx ry q hs
theorem Cw {r:R2}(hr:IxR X r)(ha:PE X a ta)(hb:PE X b tb)(hs:iq b):PE X (.Subscript a b pos) (tOp r ta tb):=by
 intro pins s σ H Q I h;exact Subscript_ (C8 ha hb I h λv u s2 x y H2 I2 rx ry q=>hr a b pins s2 σ H2 x y v u Q I2 rx ry q (hs _ _))
def B7 (K:PySem.W.Frag):R2:=λx y H Q=> ∃p xs i v,x= .ref p/\y= .int i/\SqL K H p xs/\atI xs i=some v/\Q v H
def B5 (K:PySem.W.Frag):R2:=λx y H Q=> ∃p xs i v,x= .ref p/\y= .int i/\SqT K H p xs/\atI xs i=some v/\Q v H
def B6:R2:=λx y H Q=> ∃z i c,x= .str z/\y= .int i/\z.length<=sizeLine/\atI z.cps.toList i=some c/\Q (.str ⟨#[c]⟩) H
theorem ix_list:IxR X (B7 X.K):=by
 intro value slice pins s σ H x y v u Q I rx ry h hs;obtain⟨p,xs,i,z,rfl,rfl,hq,he,q⟩:=h;cases rx;obtain⟨t,rfl⟩:=ry;obtain⟨its,r,pl,hz⟩:=I.list hq;obtain⟨j,h1,h2,h3,h4,h5⟩:=oE he;obtain⟨w,ew,rw'⟩:=r.get h2
 have hl:=r.length
 have hn:=la
 have fin:EP X pins σ Q w s:=⟨z,H,I,rw',q⟩
 by_cases h0:0<=i
 ·have hj:i.toNat=j:=by
   rw[seqIndex_of h0 h5]at h1;exact Option.some.inj h1
  exact item_listR pl.isList h0 (by omega) (by rw[hj];simpa using ew) fin hs
 ·have hj:(i+(its.toArray.size:Int)).toNat=j:=by
   rw[seqIndex_neg (by omega) h4]at h1
   rw[List.size_toArray,<-hl];exact Option.some.inj h1
  exact subscriptTail_builtinR (x:=w) pl.isList.typeIs slot_list_getitem.lookup
   (wpAny_getItem_list_neg (Q:=λr s'=>r=w/\EP X pins σ Q r s') pl.isList (by omega) (by rw[List.size_toArray] <;> omega) (by omega) (by rw[hj];simpa using ew) ⟨rfl,fin⟩) hs
theorem ix_tup:IxR X (B5 X.K):=by
 intro value slice pins s σ H x y v u Q I rx ry h hs;obtain⟨p,xs,i,z,rfl,rfl,hq,he,q⟩:=h;cases rx;obtain⟨t,rfl⟩:=ry;obtain⟨its,r,pl,hz⟩:=I.tuple hq;obtain⟨j,h1,h2,h3,h4,h5⟩:=oE he;obtain⟨w,ew,rw'⟩:=r.get h2
 have hl:=r.length
 have hn:=la
 have fin:EP X pins σ Q w s:=⟨z,H,I,rw',q⟩
 exact subscriptTail_builtinR (x:=w) pl.typeIs slot_tuple_getitem.lookup
  (getItem_tuple (j:=j) (Q:=λr s'=>r=w/\EP X pins σ Q r s') pl (by omega) (by omega) (by rw[List.size_toArray,<-hl];exact h1) (by simpa using ew) ⟨rfl,fin⟩) hs
theorem Bh:IxR X B6:=by
 intro value slice pins s σ H x y v u Q I rx ry h hs;obtain⟨z,i,c,rfl,rfl,hz,he,q⟩:=h;obtain⟨t,rfl⟩:=rx;obtain⟨t',rfl⟩:=ry;obtain⟨j,h1,h2,h3,h4,h5⟩:=oE he
 have hl:z.cps.toList.length=z.length:=by simp[Str.length]
 rw[hl]at h1 h4 h5
 have hn:=la
 exact tail_any (typeIs_str s z t) slot_str_getitem.lookup (getItem_str (c:=c) (by
  have e1:decide (i< -(2 ^ 63:Int))=false:=decide_eq_false (by omega)
  have e2:decide (i ≥ 2 ^ 63)=false:=decide_eq_false (by omega)
  rw[e1,e2,Bool.or_false]) (by rw[h1];simpa using h2) ⟨.str ⟨#[c]⟩,H,I.tok _,⟨_,rfl⟩,q⟩) hs
def rIx (K:PySem.W.Frag):R2:=λx y H Q=>B7 K x y H Q\/B5 K x y H Q\/B6 x y H Q
theorem Bi:IxR X (rIx X.K):=ix_list.or (ix_tup.or Bh)
theorem nB (lo hi:Option Int)(n:Nat):(sliceBounds lo hi none n).1=((HT.sIx n 0 lo:Nat):Int)/\(sliceBounds lo hi none n).2.1=((HT.sIx n n hi:Nat):Int)/\(sliceBounds lo hi none n).2.2=1:=by
 refine⟨?_,?_,rfl⟩
 ·cases lo with
  | none=>simp[sliceBounds,HT.sIx]
  | some i=>
   simp only[sliceBounds,HT.sIx,Option.getD_none,show(1:Int) > 0 by decide,if_true]
   by_cases h:i<0
   ·simp only[h,if_true] <;> omega
   ·simp only[h,if_false] <;> omega
 ·cases hi with
  | none=>simp[sliceBounds,HT.sIx]
  | some i=>
   simp only[sliceBounds,HT.sIx,Option.getD_none,show(1:Int) > 0 by decide,if_true]
   by_cases h:i<0
   ·simp only[h,if_true] <;> omega
   ·simp only[h,if_false] <;> omega
theorem lU (its:List Value)(lo hi:Option Int):slicePick its.toArray lo hi none=((its.drop (HT.sIx its.length 0 lo)).take (HT.sIx its.length its.length hi - HT.sIx its.length 0 lo)).toArray:=by
 obtain⟨h1,h2,h3⟩:=nB lo hi its.toArray.size;unfold slicePick;rw[h1,h2,h3];simp only[sliceRange_one,pick_run,List.size_toArray] <;> rfl
def rSlL (K:PySem.W.Frag):V->Option Int->Option Int->Hp->VK->Prop:=λx lo hi H Q=> ∃a xs,x= .ref a/\SqL K H a xs/\∀p,H p=none->Q (.ref p) (upd H p (.lst (qx xs lo hi)))
theorem xv:SlR X (rSlL X.K):=by
 intro pins s σ H x v vl vu lo hi sl Q I rx hs pl pu h;obtain⟨a,xs,rfl,hx,q⟩:=h;cases rx;obtain⟨its,r,ht,hz⟩:=I.list hx
 have hlen:=r.length;refine⟨"list",_,slot_list_getitem.lookup,ht.isList.typeIs,?_⟩
 refine wpAny_getItem_list_slice ht.isList hs pl pu .none (by simp) ?_ (by rw[List.size_toArray] <;> omega)
 rw[lU,<-hlen];refine⟨.ref s.heap.objs.size,_,I.laid (t':=s.toks) (o:=.lst (qx xs lo hi)) (λb ob q=>Heap.get?_push_of_some _ q) (Nat.le_refl _) ?_,rfl,q _ (I.hok.fresh (Nat.le_refl _))⟩
 exact⟨Nat.le_trans (jT xs lo hi) hz,_,0,(r.drop (HT.sIx xs.length 0 lo)).take (HT.sIx xs.length xs.length hi - HT.sIx xs.length 0 lo),Heap.get?_push_size _ rfl⟩
theorem call_len_seq:CallR X (.builtin "len") (λxs H Q=> ∃p ys,xs= [.ref p]/\(SqL X.K H p ys\/SqT X.K H p ys)/\Q (.int ys.length) H):=by
 intro pins s σ H xs us Q I r h;obtain⟨p,ys,rfl,hq,q⟩:=h;obtain⟨u,rfl,rx⟩:=gE r;cases rx
 have hn:=la;rcases hq with hq | hq
 ·obtain⟨its,r',pl,hz⟩:=I.list hq
  have hlen:=r'.length;exact Calls.call_len_list pl.isList (by simp only[List.size_toArray] <;> omega) ⟨.int ys.length,H,I.tok _,⟨s.toks+1,by rw[List.size_toArray,hlen]⟩,q⟩
 ·obtain⟨its,r',pl,hz⟩:=I.tuple hq
  have hlen:=r'.length;exact len_tuple pl (by simp only[List.size_toArray] <;> omega) ⟨.int ys.length,H,I.tok _,⟨s.toks+1,by rw[List.size_toArray,hlen]⟩,q⟩
theorem oy:CallR X (.builtin "len") (λxs H Q=> ∃z,xs= [.str z]/\z.length<=sizeLine/\Q (.int z.length) H):=by
 intro pins s σ H xs us Q I r h;obtain⟨z,rfl,hz,q⟩:=h;obtain⟨u,rfl,t,rfl⟩:=gE r
 have hn:=la;exact len_str (by omega) ⟨.int z.length,H,I.tok _,⟨_,rfl⟩,q⟩
theorem CallR.or {f:Value}{r r':List V->Hp->VK->Prop}(h:CallR X f r)(h':CallR X f r'):CallR X f (λxs H Q=>r xs H Q\/r' xs H Q):=by
 intro pins s σ H xs us Q I rs q;rcases q with q | q
 ·exact h pins s σ H xs us Q I rs q
 ·exact h' pins s σ H xs us Q I rs q
theorem ox:CallR X (.type "list") (λxs H Q=> ∃p ys,xs= [.ref p]/\(SqL X.K H p ys\/SqT X.K H p ys)/\∀l,H l=none->Q (.ref l) (upd H l (.lst ys))):=by
 intro pins s σ H xs us Q I r h;obtain⟨p,ys,rfl,hq,q⟩:=h;obtain⟨u,rfl,rx⟩:=gE r;cases rx
 have fin:∀(its:List Value),Vals ys its->ys.length<=sizeLine->∀(h':Heap) (c':Nat),(∀b o',s.heap.get? b=some o'->h'.get? b=some o') →
   h'.get? s.heap.objs.size=some { cls:=.type "list",dict:=none,data:=.seq its.toArray c',slots:=#[] }->EP X pins σ Q (.ref s.heap.objs.size) { s with heap:=h' }:=λits r' hz h' c' kp e=>
  ⟨.ref s.heap.objs.size,_,I.laid (t':=s.toks) kp (Nat.le_refl _) (show ObjOk X.prog X.w _ h' _ (.lst ys)from⟨hz,its,c',r',e⟩),rfl,q _ (I.hok.fresh (Nat.le_refl _))⟩
 rcases hq with hq | hq
 ·obtain⟨its,r',pl,hz⟩:=I.list hq
  have hlen:=r'.length;obtain⟨o,ho,hc,n,hd⟩:=pl.isList;exact call_list_seq p (.inl rfl) ho hc hd (λh' c' kp e=>fin its r' hz h' c' kp e) (by simp only[List.size_toArray] <;> omega)
 ·obtain⟨its,r',pl,hz⟩:=I.tuple hq
  have hlen:=r'.length;obtain⟨o,ho,hc,n,hd⟩:=pl;exact call_list_seq p (.inr rfl) ho hc hd (λh' c' kp e=>fin its r' hz h' c' kp e) (by simp only[List.size_toArray] <;> omega)
theorem ml:CallR X (.type "tuple") (λxs H Q=> ∃p ys,xs= [.ref p]/\((SqL X.K H p ys/\∀l,H l=none->Q (.ref l) (upd H l (.tup ys)))\/(SqT X.K H p ys/\Q (.ref p) H))):=by
 intro pins s σ H xs us Q I r h;obtain⟨p,ys,rfl,h⟩:=h;obtain⟨u,rfl,rx⟩:=gE r;cases rx;rcases h with⟨hq,q⟩ | ⟨hq,q⟩
 ·obtain⟨its,r',pl,hz⟩:=I.list hq
  have hlen:=r'.length;refine call_tuple_list pl.isList (λh' kp=> ?_) (by simp only[List.size_toArray] <;> omega)
  have I1:Inv X pins σ H { s with heap:=h' }:=I.kept (t':=s.toks) kp
  have I2:Inv X pins σ (upd H h'.objs.size (.tup ys)) { s with heap:=h'.push { cls:=.type "tuple",data:=.seq its.toArray } }:=
   I1.laid (t':=s.toks) (λb o e=>Heap.get?_push_of_some _ e) (Nat.le_refl _) (show ObjOk X.prog X.w _ _ _ (.tup ys)from⟨hz,its,r',IsTup.new _ _⟩)
  exact⟨.ref h'.objs.size,_,I2,rfl,q _ (I1.hok.fresh (Nat.le_refl _))⟩
 ·obtain⟨its,r',pl,hz⟩:=I.tuple hq
  exact call_tuple_same pl ⟨.ref p,H,I,rfl,q⟩
def tyV (K:PySem.W.Frag)(T:String)(x:V)(H:Hp):Prop:=match x with
 | .str _=>T= "str"
 | .int _=>T= "int"
 | .ref p=>(T= "list"/\∃xs,SqL K H p xs)\/(T= "tuple"/\∃o,K.lookup p=some o/\o.cls= .type "tuple"/\o.dict=none) ∨
   (T= "dict"/\((∃kvs,H p=some (.dK kvs))\/∃kvs,H p=some (.dT kvs)))\/(T= "set"/\∃S n,H p=some (.set S n))
 | _=>False
theorem zU {pins:List (Addr×Obj)}{σ:St}{H:Hp}{s:Shared}{T:String}{x:V}{v:Value}(I:Inv X pins σ H s)(r:RelV x v)(ty:tyV X.K T x H) :
  s.TypeIs v T/\∀a,v= .ref a->∃ob,s.heap.get? a=some ob/\ob.dict=none:=by
 cases x with
 | str z=>
  obtain⟨t,rfl⟩:=r;cases (show T= "str" from ty)
  exact⟨typeIs_str s z t,λ_ e=>nomatch e⟩
 | int i=>
  obtain⟨t,rfl⟩:=r;cases (show T= "int" from ty)
  exact⟨typeIs_int s i t,λ_ e=>nomatch e⟩
 | ref p=>
  cases r;rcases ty with⟨rfl,xs,hq⟩ | ⟨rfl,o,hk,hc,hd⟩ | ⟨rfl,hk⟩ | ⟨rfl,S,n,hk⟩
  ·obtain⟨its,_,pl,_⟩:=I.list hq
   refine⟨pl.isList.typeIs,λa e=> ?_⟩
   cases e;obtain⟨o,n,e,c,hd,_⟩:=pl;exact⟨o,e,hd⟩
  ·refine⟨⟨o,I.kIn p o hk,hc⟩,λa e=> ?_⟩
   cases e;exact⟨o,I.kIn _ o hk,hd⟩
  ·have z:∃o,s.heap.get? p=some o/\o.ExactDict:=by
    rcases hk with⟨kvs,hk⟩ | ⟨kvs,hk⟩
    ·obtain⟨_,_,_,_,o,_,_,e,ex,_⟩:=I.hok p _ hk
     exact⟨o,e,ex⟩
    ·obtain⟨_,_,_,_,o,_,_,e,ex,_⟩:=I.hok p _ hk
     exact⟨o,e,ex⟩
   obtain⟨o,e,ex⟩:=z;refine⟨⟨o,e,ex.1⟩,λa e2=> ?_⟩
   cases e2;exact⟨o,e,ex.2.1⟩
  ·obtain⟨o,_,_,_,e,ex,_⟩:=I.hok p _ hk
   refine⟨⟨o,e,ex.1⟩,λa e2=> ?_⟩
   cases e2
   exact⟨o,e,ex.2.1⟩
 | _=>exact False.elim ty
def tBM (K:PySem.W.Frag)(T:String)(r:V->List V->Hp->VK->Prop)(to:TE)(t:TA):TE:=λσ H Q=>to σ H λx H1=>tyV K T x H1/\t σ H1 λxs H2=>r x xs H2 Q
variable {o e:Expr}{es:List Expr}{to:TE}{t:TA}{name:Str}{apos cpos:Pos}{T id:String}{r:V->List V->Hp->VK->Prop}
theorem rZ (pa:PlainAttrs T)(slot:Slot T name id)(hty:typeOf (.builtin id)=pure (.type "method_descriptor"))(hm:MtR X id r)(ho:PE X o to)(ha:PA X (e::es) t)
  (hbase:attributeBase o name X.env (eval o X.env)=eval o X.env:=by rfl)
  (hfew:((backTo cpos (starEach (e::es) X.env)).all (λx=> !x.1)&&(backToKw cpos (keywordEach [] X.env)).all (λx=>x.1.isSome)
   &&decide ((e::es).length+([]:List Keyword).length+(if ([]:List Keyword).isEmpty then 0 else 1)<30))=true:=by rfl)
  (hline:(apos.endLine == cpos.line)=true:=by rfl) (hs:starEach (e::es) X.env=(false,eval e X.env)::starEach es X.env:=by rfl) (hplain:(backTo cpos (starEach es X.env)).any (·.1)=false:=by rfl) :
  PE X (.Call (.Attribute o name apos) (e::es) [] cpos) (tBM X.K T r to t):=by
 intro pins s σ H Q I h;refine wpAny_Call_method_late hbase hfew hline rfl (bS (ho pins s σ H _ I h) λv s1 hh_=> ?_)
 obtain⟨x,H1,I1,r1,ty,q1⟩:=hh_;obtain⟨h1,h2⟩:=zU I1 r1 ty;refine⟨T,id,pa,slot,hty,h1,h2,?_⟩
 have hA:=ha cpos pins s1 σ H1 _ I1 q1;rw[hs]at hA ⊢;refine Calls.callWith_builtin (by show(false||(backTo cpos (starEach es X.env)).any (·.1))=false;rw[hplain] <;> rfl) (Calls.evalArgs_plain ?_)
 exact bS hA λus s2 ⟨vs,H2,I2,r2,q2⟩=>hm pins s2 σ H2 x vs v us Q I2 r1 r2 q2
end
def MtM (X:Cx)(id:String)(r:V->List V->Hp->VK->Prop):Prop:=
 ∀(pins:List (Addr×Obj)) (s:Shared) (σ:St) (H:Hp) (x:V) (xs:List V) (v:Value) (us:List Value) (Q:VK),Inv X pins σ H s->RelV x v->Vals xs us->r x xs H Q →
  wpAny (model X.prog X.w) X.A (call (.builtin id) (v::us)) (EP X pins σ Q) X.xe s
theorem Vals.one:∀{x:V} {us:List Value},Vals [x] us->∃u,us= [u]/\RelV x u
 | _,_,.cons r .nil=>⟨_,rfl,r⟩
theorem Vals.rep {xs:List V}{us:List Value}(h:Vals xs us):∀k:Nat,Vals (List.replicate k xs).flatten (List.replicate k us).flatten
 | 0=> .nil
 | k+1=>by
  rw[List.replicate_succ,List.replicate_succ,List.flatten_cons,List.flatten_cons];exact Vals.append h (Vals.rep h k)
theorem foldl_rep (its:List Value):∀(k:Nat) (acc:List Value),
  List.foldl (λx1 x2=>x1++x2) acc.toArray (List.replicate k its.toArray)=(acc++(List.replicate k its).flatten).toArray
 | 0,acc=>by simp
 | k+1,acc=>by
  have e:acc.toArray++its.toArray=(acc++its).toArray:=by simp
  have e2:(acc++its)++(List.replicate k its).flatten=acc++(List.replicate (k+1) its).flatten:=by
   rw[List.replicate_succ,List.flatten_cons,List.append_assoc]
  rw[<-e2,<-foldl_rep its k (acc++its),<-e,List.replicate_succ,List.foldl_cons]
section
variable {X:Cx}{pins:List (Addr×Obj)}{σ:St}{H:Hp}{s:Shared}{l b:Addr}{xs ys zs:List V}
theorem Inv.lset {its its':List Value}{n:Nat}{f:Array Value->Array Value}{t':Nat}(I:Inv X pins σ H s)(hH:H l=some (.lst xs))
  (e:s.heap.get? l=some { cls:=.type "list",data:=.seq its.toArray n }) (hf:f its.toArray=its'.toArray) (hv:Vals ys its') (hz:ys.length<=sizeLine) :
  Inv X pins σ (upd H l (.lst ys)) { s with heap:=s.heap.update l (Obj.mapSeq f),toks:=t' }:=by
 have q:=PySem.IsL.update e f;rw[hf]at q;refine I.write (x:=l) (e:=l) (by rw[hH];exact trivial) (.inl rfl) (λb' u hb hu=>(Heap.get?_update_other s.heap (Obj.mapSeq f) (Ne.symm hb)).trans hu) ⟨_,q⟩ ?_
 exact⟨hz,its',_,hv,q⟩
theorem Inv.lnew {its:List Value}{t':Nat}(I:Inv X pins σ H s)(hv:Vals ys its)(hz:ys.length<=sizeLine) :
  Inv X pins σ (upd H s.heap.objs.size (.lst ys)) { s with heap:=s.heap.push { cls:=.type "list",data:=.seq its.toArray },toks:=t' }:=
 I.laid (λ_ _ q=>Heap.get?_push_of_some _ q) (Nat.le_refl _) ⟨hz,its,0,hv,Heap.get?_push_size _ rfl⟩
theorem Inv.fresh (I:Inv X pins σ H s):H s.heap.objs.size=none:=I.hok.fresh (Nat.le_refl _)
theorem Inv.lstM (I:Inv X pins σ H s)(hH:H l=some (.lst xs)):xs.length<=sizeLine/\∃(its:List Value) (n:Nat),Vals xs its/\xs.length=its.length/\s.heap.get? l=some { cls:=.type "list",data:=.seq its.toArray n }:=by
 obtain⟨z,its,n,r,e⟩:=I.hok l _ hH;exact⟨z,its,n,r,r.length,e⟩
theorem pQ {n:Nat}(h:n<=sizeLine):Builtin.List.listTooLong n=false:=by
 unfold Builtin.List.listTooLong;exact decide_eq_false (by omega)
end
section
variable {X:Cx}
def xF:V->List V->Hp->VK->Prop:=λx vs H Q=> ∃l xs y,x= .ref l/\vs= [y]/\H l=some (.lst xs)/\xs.length<sizeLine/\Q .non (upd H l (.lst (xs++ [y])))
theorem mI:MtM X "list.append" xF:=by
 intro pins s σ H x vs v us Q I rx rv h;obtain⟨l,xs,y,rfl,rfl,hH,hz,q⟩:=h;cases rx;obtain⟨u,rfl,ru⟩:=rv.one;obtain⟨z,its,n,r,hl,e⟩:=I.lstM hH;refine call_meets F.slot_list_append ⟨_,e,rfl⟩ F.entry_list_append (F.args_list_append_2 _ _) (PySem.list_append l its.toArray n u (by rw[List.size_toArray];omega)) ⟨e,?_⟩
 refine⟨.non,_,I.lset (its':=its++ [u]) hH e (by simp) (r.append (.cons ru .nil)) ?_,rfl,q⟩
 rw[List.length_append,List.length_singleton];omega
def xC:V->List V->Hp->VK->Prop:=λx vs H Q=> ∃l b xs zs,x= .ref l/\vs= [.ref b]/\H l=some (.lst xs)/\H b=some (.lst zs)/\xs.length+zs.length<=sizeLine/\Q .non (upd H l (.lst (xs++zs)))
theorem tS:MtM X "list.extend" xC:=by
 intro pins s σ H x vs v us Q I rx rv h;obtain⟨l,b,xs,zs,rfl,rfl,hH,hB,hz,q⟩:=h;cases rx;obtain⟨u,rfl,ru⟩:=rv.one;cases ru;obtain⟨z,its,n,r,hl,e⟩:=I.lstM hH;obtain⟨z2,its2,n2,r2,hl2,e2⟩:=I.lstM hB
 have hsz:its.toArray.size+its2.toArray.size<=sizeLine:=by rw[List.size_toArray,List.size_toArray];omega
 have hlong:¬ (!its.toArray.isEmpty&&Builtin.List.listTooLong (its.toArray.size+its2.toArray.size))=true:=by
  rw[pQ hsz,Bool.and_false];exact Bool.false_ne_true
 refine call_meets F.slot_list_extend ⟨_,e,rfl⟩ F.entry_list_extend (F.args_list_extend_2 _ _)
  (AutoSeq1.list_extend_list_list_0 l its.toArray n b its2.toArray n2 hlong (by rw[List.size_toArray];omega) (by omega)) ⟨e,e2,?_⟩
 refine⟨.non,_,I.lset (its':=its++its2) hH e (by simp) (r.append r2) ?_,rfl,q⟩
 rw[List.length_append];omega
def rCat:R2:=λx y H Q=> ∃l b xs zs,x= .ref l/\y= .ref b/\H l=some (.lst xs)/\H b=some (.lst zs)/\xs.length+zs.length<=sizeLine/\∀p,H p=none->Q (.ref p) (upd H p (.lst (xs++zs)))
theorem vD:lN X (binaryOp .Add) rCat:=by
 intro pins s σ H x y v u Q I rx ry h;obtain⟨l,b,xs,zs,rfl,rfl,hH,hB,hz,q⟩:=h;cases rx;cases ry;obtain⟨z,its,n,r,hl,e⟩:=I.lstM hH;obtain⟨z2,its2,n2,r2,hl2,e2⟩:=I.lstM hB;refine PySem.P.add_list e e2 ?_ (by rw[List.size_toArray,List.size_toArray];omega)
 have ea:its.toArray++its2.toArray=(its++its2).toArray:=by simp
 rw[ea];exact⟨.ref _,_,I.lnew (t':=s.toks) (r.append r2) (by rw[List.length_append];omega),rfl,q _ I.fresh⟩
def rRep:R2:=λx y H Q=> ∃l k xs,x= .ref l/\y= .int k/\H l=some (.lst xs)/\-(2 ^ 63)<=k/\k<2 ^ 63/\xs.length*k.toNat<=sizeLine ∧
 ∀p,H p=none->Q (.ref p) (upd H p (.lst (List.replicate k.toNat xs).flatten))
theorem len_rep {α:Type}(xs:List α)(k:Nat):(List.replicate k xs).flatten.length=k*xs.length:=by
 induction k with
 | zero=>simp
 | succ k ih=>rw[List.replicate_succ,List.flatten_cons,List.length_append,ih,Nat.succ_mul,Nat.add_comm]
theorem AR:lN X (binaryOp .Mult) rRep:=by
 intro pins s σ H x y v u Q I rx ry h;obtain⟨l,k,xs,rfl,rfl,hH,h1,h2,hz,q⟩:=h;cases rx;obtain⟨t,rfl⟩:=ry;obtain⟨z,its,n,r,hl,e⟩:=I.lstM hH
 have hlen:its.toArray.size*k.toNat<=sizeLine:=by rw[List.size_toArray,<-hl];exact hz
 have hcap:¬ its.toArray.size*k.toNat > (2 ^ 63 - 1) / 8:=by
  have:(sizeLine:Nat)<=(2 ^ 63 - 1) / 8:=by decide
  omega
 have hfit:¬ (!Builtin.List.listFitsIndex k)=true:=by
  rw[fitsIndex_both h1 h2];exact Bool.false_ne_true
 have hlong:¬ Builtin.List.listTooLong (its.toArray.size*k.toNat)=true:=by
  rw[pQ hlen];exact Bool.false_ne_true
 have hnew:List.foldl (λx1 x2=>x1++x2) #[] (List.replicate (if its.toArray.isEmpty=true then 0 else k.toNat) its.toArray)=(List.replicate k.toNat its).flatten.toArray:=by
  have f0:∀m:Nat,List.foldl (λx1 x2=>x1++x2) #[] (List.replicate m its.toArray)=(List.replicate m its).flatten.toArray:=λm=>by
   have:=foldl_rep its m [];rw[List.nil_append]at this;exact this
  rw[f0]
  cases its with
  | nil=>simp
  | cons a r'=>rw[if_neg (by simp)]
 refine wpAny_binaryOp_repeat_ref (T:="list") (U:="int") (by decide) ⟨_,e,rfl⟩ (λs'=>typeIs_int s' k t) noFill_list_mul F.fills_int_mul F.slot_int_rmul repeat_list F.slot_int_index.lookup
  (call_meets F.slot_int_rmul (typeIs_int s k t) F.entry_int_rmul (F.args_int_rmul_2 _ _) (int___rmul___int_list k t l its.toArray n)
   ⟨e,rfl,⟨_,e,rfl⟩,call_meets F.slot_list_mul ⟨_,e,rfl⟩ F.entry_list_mul (F.args_list_mul_2 _ _) (AutoListH.list___mul___list_int_3 l its.toArray n k t hfit hcap hlong) ⟨e,?_⟩⟩)
 rw[hnew];exact⟨.ref _,_,I.lnew (t':=s.toks) (r.rep k.toNat) (by rw[len_rep,Nat.mul_comm];exact hz),rfl,q _ I.fresh⟩
end
end L2
namespace Att
open PySem PySem.W PySem.Calls PyProof.Rows
theorem j3 {P:Params}{h:Heap}:∀(ns:List Int) (vs:List Value),WellAll P h vs (ns.map WData.int)->IntsAre vs ns:=by
 intro ns
 induction ns with
 | nil=>
  intro vs w;rw[List.map_nil]at w;cases w
  exact .nil
 | cons n ns ih=>
  intro vs w;rw[List.map_cons]at w
  cases w with
  | cons a b=>
   cases a;exact .cons _ _ (ih _ b)
theorem tF {l:OpenLaw}{n:Nat}(hn:l.most=some n){P:Params}{h:Heap}{args:List WData}{vals:List Value}
  (hpre:l.row.toRowW.claim.pre args=true) (hwl:WellAll P h vals args) :
  ∃a vs ns,vals= [Value.ref a]/\args= [WData.list (ns.map WData.int)]/\h.get? a=some { cls:=.type "list",data:=.seq vs.toArray }/\IntsAre vs ns/\ns.length<=n:=by
 have hsh:WShape.hasAll [] args [.list .int] =true:=(pre_splitW hpre).1
 have hc:l.pre.holds [] { args:=args }=true:=(pre_splitW hpre).2;obtain⟨d,r,rfl,h1,h2⟩:=hasAllW_cons hsh;obtain rfl:=hasAllW_nil h2;obtain⟨xs,rfl,h3⟩:=hasW_list h1;obtain⟨ns,rfl⟩:=items_int h3
 have hlen:ns.length<=n:=by
  unfold OpenLaw.pre at hc
  have h4:(WTm.not (.lt (.lit (.int (n:Int))) (.len (.arg 0)))).holds [] { args:=[.list (ns.map .int)] }=true:=by
   have h4:=(holds_andW hc).1;rw[hn]at h4;exact h4
  have h5:=condW_of h4 (w_not (w_lt w_lit (w_len_list (w_arg rfl))));rw[List.length_map]at h5;refine Nat.le_of_not_lt λq=> ?_
  have q':(n:Int)<((ns.length:Nat):Int):=by omega
  first
   | (rw[decide_eq_true q']at h5;exact absurd h5 (by decide))
   | (simp at h5;omega)
 cases hwl with
 | cons w1 w2=>
  cases w2
  cases w1 with
  | list ho hall=>exact⟨_,_,ns,rfl,rfl,ho,j3 ns _ hall,hlen⟩
theorem tI (l:OpenLaw)(args:List WData):l.row.toRowW.claim.post args (.bool true) args=true:=
 postW_of (r:=l.row.toRowW) (X:=(true == true))
  (show WShape.has [] (.bool true) .bool=true by first | rfl | decide | simp[WShape.has,WShape.arms,WShape.armsAll])
  (show(WTm.eq .res (.lit (.bool true))).value [] { args:=args,res:=some (.bool true),after:=args }=some (.bool (true == true))from w_eq_bool (w_res rfl) w_lit) rfl
theorem attach_call {l:OpenLaw}{n:Nat}{q:Program}{loose:List Str}{XP:(Str->Option Value)->Heap->Prop}{YP:World->Heap->Prop}{d:DefRec}
  (hn:l.most=some n) (hdf:d.params.defaults= [])
  (call:∀(w:World) (s₀ s₁:Shared) (mg mb:Str->Option Value) (fa:Addr) (o:Obj) (pm cd doc:Value) (a:Addr) (vs:List Value) (ns:List Int),
   Ground q loose [] XP w s₀ mg mb s₁.heap->YP w s₁.heap →
   s₁.heap.get? fa=some o->o.data= .func (docDef d.name d.params d.body d.scope pm cd doc)->s₁.heap.CodeRec cd d.name->mg d.name=some (.ref fa) →
   s₁.heap.get? a=some { cls:=.type "list",data:=.seq vs.toArray }->IntsAre vs ns->ns.length<=n->s₁.gens= #[] →
   codeAny (model l.prog w) callerA (.call (.ref fa) ⟨[.ref a],[]⟩) (λr s'=>r= .ok (.ret (.bool true))/\OldK s₁.heap s'.heap/\s'.os=s₁.os/\AllBare s'.gens) s₁) :
  WalkO q loose XP YP l.row.toRowW d [] (λf vs=>PySem.call f vs):=by
 intro w s₀ s₁ mg mb G Y fa o pm cd doc dV kV ho hd hcd hD hmg hg args vals as hpre hlay hrd hwl hlo;obtain rfl:dV= .none:=Dflts.none hD hdf;obtain rfl:kV= .none:=Dflts.noKw hD;obtain⟨a,vs,ns,rfl,rfl,hobj,hints,hlen⟩:=tF hn hpre hwl;refine enter_call (codeAny_mono (call w s₀ s₁ mg mb fa o pm cd doc a vs ns G Y ho (fd_plain hd) hcd hmg hobj hints hlen hg) λr s' hq=> ?_)
 obtain⟨rfl,h2,h3,h4⟩:=hq;exact⟨.inl ⟨.bool true,.bool true,[],rfl,λ_=>rfl,.bool true,tI l _,λ_=>⟨List.Pairwise.nil,λ_ hm=>(nomatch hm)⟩⟩,h2,h3,h4⟩
end Att
namespace L2
open PySem PySem.Spec PyProof.Rows
theorem mw:∀{vs:List Value} {ns:List Int},IntsAre vs ns->Vals (ns.map V.int) vs
 | _,_,.nil=> .nil
 | _,_,.cons n t h=> .cons ⟨t,rfl⟩ (mw h)
def BK (H:Hp):Prop:=∀b,H b=none\/∃o xs,H b=some (.frz o (.lst xs))
theorem vU {P:Program}{w:World}{K:PySem.W.Frag}{mg mb:Str->Option Value}{CX:w6}{k:Nat}{fa a:Addr}{fd:FuncData}{x:Str}{sp:Sp}{s₁:Shared}{vs:List Value}{ns:List Int}
  (KX:K.In s₁.heap) (hns:s₁.heap.Ns mainGlobals mg) (hb:s₁.heap.Ns builtinsNs mb) (hbb:∀x:Str,x≠ "__name__"->mb x=bootBuiltins x) (hlim:s₁.heap.NoLimit) (hg:s₁.gens= #[])
  (ha:s₁.heap.get? a=some { cls:=.type "list",data:=.seq vs.toArray }) (hi:IntsAre vs ns) (hl:ns.length<=sizeLine) (hr:Room k callerA)
  (F:∀base:Heap,K.In base->base.Ns mainGlobals mg->oH P w K mg base CX k fa fd [x] sp) (hbind:∀(s:Shared) (u:Value),BindsTo s fd ⟨[u],[]⟩ [(x,u)])
  (hsp:∀H:Hp,BK H->SqL K H a (ns.map V.int)->sp [.ref a] H (λv _=>v= .bl true) λ_ _ _=>False)
  (hCX:∀H e s',CX [] H s₁ (λ_ _ _=>False) e s'->False) :
  codeAny (model P w) callerA (.call (.ref fa) ⟨[.ref a],[]⟩) (λr s'=>r= .ok (.ret (.bool true))/\OldK s₁.heap s'.heap/\s'.os=s₁.os/\AllBare s'.gens) s₁:=by
 have rv:=mw hi
 have lenV:=hi.length
 -- from an abstract heap in which nothing but the script may be tracked
 have core:∀H:Hp,BK H->SqL K H a (ns.map V.int)->HOk P w H s₁.heap->(∀b,H b≠none->b=a)->(H a≠none->K.lookup a=none) →
   codeAny (model P w) callerA (.call (.ref fa) ⟨[.ref a],[]⟩) (λr s'=>r= .ok (.ret (.bool true))/\OldK s₁.heap s'.heap/\s'.os=s₁.os/\AllBare s'.gens) s₁:=by
  intro H hO hS hok hA hK
  have base_of:∀{b:Addr} {o:Obj},s₁.heap.get? b=some o->H b=none->(ol s₁.heap H).get? b=some o:=λe n=>wl e n
  have noA:∀{b:Addr} {o:Obj} {es:Array DictEntry} {ep:Nat},s₁.heap.get? b=some o->o.data= .dict es ep->H b=none:=λ{b o es ep} e d=>by
   cases q:H b with
   | none=>rfl
   | some u=>
    have e':b=a:=hA b (by rw[q];simp)
    subst e';rw[ha]at e;cases e
    have d':Data.seq vs.toArray _=Data.dict es ep:=d;cases d'
  have nsK:∀{b:Addr} {m:Str->Option Value},s₁.heap.Ns b m->(ol s₁.heap H).Ns b m:=λ{b m} ⟨o,es,ep,e,d,r⟩=>⟨o,es,ep,base_of e (noA e d),d,r⟩
  have hKb:K.In (ol s₁.heap H):=λb o e=>base_of (KX b o e) (by
   cases q:H b with
   | none=>rfl
   | some u=>
    have e':b=a:=hA b (by rw[q];simp)
    subst e';rw[hK (by rw[q];simp)]at e;cases e)
  have hM:Mod K mg (ol s₁.heap H):=⟨hKb,nsK hns,⟨mb,nsK hb,hbb⟩,let ⟨mc,h1,h2⟩:=hlim;⟨mc,nsK h1,h2⟩⟩
  have e0:qC P w K mg (ol s₁.heap H) callerA [] s₁ H:=⟨rfl,hM,λb o e=>yi e,Nat.le_of_eq (uc _ _),trivial,λb hb=>absurd (show b∈([]:List Addr)from hb) (by simp),hok,.of_eq hg⟩
  refine codeAny_mono ((F _ hKb (nsK hns)).run callerA [] s₁ H ⟨[.ref a],[]⟩ [.ref a] [.ref a] _ _ hr e0 (hbind s₁ (.ref a)) (.cons rfl .nil) (hsp H hO hS)) λr s' h=> ?_
  cases r with
  | error e=>exact(hCX H e s' h).elim
  | ok fl=>
   cases fl with
   | next=>exact False.elim h
   | brk=>exact False.elim h
   | cont=>exact False.elim h
   | ret u=>
    obtain⟨v,H',os,bare,un,hok',r',q⟩:=h
    have q':v= .bl true:=q;subst q';obtain rfl:u=Value.bool true:=r';refine⟨rfl,OldK.of_keep λb o e=> ?_,os,bare⟩
    cases q:H b with
    | none=>exact un.keep b o e q (by intro z;exact absurd (show b∈([]:List Addr)from z) (by simp)) (by simp)
    | some u=>
     rcases hO b with z | ⟨ob,xs,z⟩
     ·rw[q]at z;cases z
     ·have z2:=un.frzs b ob _ z
      obtain⟨e1,_⟩:=hok b _ z;obtain⟨e2,_⟩:=hok' b _ z2;rw[e]at e1;cases e1;exact e2
 cases hk:K.lookup a with
 | some o=>
  -- the script is one of the module's own objects
  have e:=KX a o hk;rw[ha]at e;cases e
  refine core (λ_=>none) (λ_=> .inl rfl) (.inr ⟨_,vs.toArray,_,hk,rfl,rfl,rfl,by rw[List.size_toArray,lenV];exact hl,by simpa using rv⟩) (λb u z=>by have z':(none:Option HO)=some u:=z;cases z') (λb z=>absurd rfl z) λz=>absurd rfl z
 | none=>
  refine core (λb=>if b=a then some (.frz { cls:=.type "list",data:=.seq vs.toArray } (.lst (ns.map V.int)))else none) (λb=> ?_) (.inl (.inr ⟨{ cls:=.type "list",data:=.seq vs.toArray },if_pos rfl⟩)) (λb u z=> ?_) (λb z=> ?_) λ_=>hk
  ·by_cases hb:b=a
   ·exact .inr ⟨_,_,if_pos hb⟩
   ·exact .inl (if_neg hb)
  ·by_cases hb:b=a
   ·have z':=(if_pos hb).symm.trans z
    cases z';subst hb;exact⟨ha,by rw[List.length_map];exact hl,vs,_,rv,ha⟩
   ·have z':=(if_neg hb).symm.trans z
    cases z'
  ·by_cases hb:b=a
   ·exact hb
   ·exact absurd (if_neg hb) z
def gq (s:Stmt):Arguments:=match s with
 | .FunctionDef _ a _ _ _ _ _ _ _ _=>a
 | _=> { posonlyargs:=[],args:=[],vararg:=none,kwonlyargs:=[],kw_defaults:=[],kwarg:=none,defaults:=[] }
def cx (s:Stmt):List Stmt:=match s with
 | .FunctionDef _ _ b _ _ _ _ _ _ _=>b
 | _=> []
def ah (s:Stmt):Scope:=match s with
 | .FunctionDef _ _ _ _ _ _ sc _ _ _=>sc
 | _=> { kind:=.function,names:=[],isGenerator:=false,isCoroutine:=false }
abbrev CX0:w6:=λ_ _ _ _ _ _=>False
abbrev E0:XK:=λ_ _ _=>False
theorem vt {X:Cx}:rG CX0 X E0:=λ_ _ _ _ _ _ _ h=>h.elim
structure Fun (K:PySem.W.Frag)(x qual:Str)(st:Stmt)(f:Addr)(fd:FuncData):Prop where
 ex:∃(oc:Value) (od:Option Addr) (kV doc pm:Value) (an:Option Addr) (cdv ct:Value) (osl:Array (Option Value)),
  fd=PySem.W.fnOf x qual (gq st) (cx st) (ah st) .none kV doc pm an cdv ct/\K.lookup f=some ⟨oc,od,.func fd,osl⟩/\PySem.W.codeIn K cdv qual=true
 kp:PySem.W.keepIn K (.ref f)=true
section
variable {P:Program}{w:World}{K:PySem.W.Frag}{mg:Str->Option Value}{base:Heap}
theorem Fun.ok {x qual:Str}{st:Stmt}{f:Addr}{fd:FuncData}{N ps:List Str}{k:Nat}{sp:Sp}(F:Fun K x qual st f fd)(S:aA N ps (ah st))(len:∀vs H Q E,sp vs H Q E->vs.length=ps.length)
  (hbody:∀(cdv:Value) (A:Around) (outer:List Env) (s:Shared) (H:Hp) (vs:List V) (Q:VK) (E:XK),Room k (A.deeper (envOfC qual (ah st) s.heap.objs.size f cdv))->sp vs H Q E →
   ∃t,PSs (jr CX0 P w K mg base N qual (ah st) f cdv A outer s H E).nox (cx st) t/\t { nx:=λ_ H'=>Q .non H',rt:=Q } (start N vs) H):oH P w K mg base CX0 (k+1) f fd ps sp:=by
 obtain⟨oc,od,kV,doc,pm,an,cdv,ct,osl,rfl,lk,hcd⟩:=F.ex;refine sI lk hcd S len λA outer s H vs Q E hr hsp=> ?_
 obtain⟨t,h,q⟩:=hbody cdv A outer s H vs Q E hr hsp;exact⟨t,h.nox,q⟩
theorem Fun.binds {x qual:Str}{st:Stmt}{f:Addr}{fd:FuncData}{ps:List Str}(F:Fun K x qual st f fd)
  (h:∀(kV doc pm:Value) (an:Option Addr) (cdv ct:Value) (us:List Value),us.length=ps.length->bindArgs (PySem.W.fnOf x qual (gq st) (cx st) (ah st) .none kV doc pm an cdv ct) ⟨us,[]⟩=pure (ps.zip us)):Binds K fd ps []:=by
 obtain⟨oc,od,kV,doc,pm,an,cdv,ct,osl,rfl,lk,hcd⟩:=F.ex;exact .all (h kV doc pm an cdv ct)
theorem Bo {x qual:Str}{st:Stmt}{f:Addr}{oc:Value}{od an:Option Addr}{osl:Array (Option Value)}{kV doc pm cdv ct:Value}(l:K.lookup f=some ⟨oc,od,.func (PySem.W.fnOf x qual (gq st) (cx st) (ah st) .none kV doc pm an cdv ct),osl⟩)
  (c:PySem.W.codeIn K cdv qual=true) (k:PySem.W.keepIn K (.ref f)=true):Fun K x qual st f (PySem.W.fnOf x qual (gq st) (cx st) (ah st) .none kV doc pm an cdv ct):=⟨⟨oc,od,kV,doc,pm,an,cdv,ct,osl,rfl,l,c⟩,k⟩
end
section
variable {X:Cx}
theorem pv (i:Nat){x:Str}{pos:Pos}(hN:X.N[i]? =some x:=by rfl)(hv:ni X.env.scope x:=by first | exact Or.inl rfl | exact Or.inr (Or.inl rfl) | exact Or.inr (Or.inr rfl))(hd:(x == ("__debug__" : Str))=false:=by decide)
  (hcd:(x == ("__classdict__" : Str))=false:=by decide):PE X (.Name x pos) (kE i):=fN hN hv hd hcd
end
theorem iteF {A B:Prop}(h:B):if false=true then A else B:=by
 rw[if_neg Bool.false_ne_true];exact h
theorem iteT {A B:Prop}(h:A):if true=true then A else B:=by
 rw[if_pos rfl];exact h
def Same (H H':Hp):Prop:=∀b o,H b=some o->H' b=some o
theorem Same.refl (H:Hp):Same H H:=λ_ _ h=>h
theorem Same.trans {H H1 H2:Hp}(a:Same H H1)(b:Same H1 H2):Same H H2:=λc o h=>b c o (a c o h)
theorem iW {env:Env}:∀(names:List (Str×NameKind)) (acc:List (Str×Addr)),
  (∀x,(x,NameKind.free)∈names->∃c,env.cells.lookup x=some c) →
  (∀x c,acc.lookup x=some c->env.cells.lookup x=some c) →
  ∃cl,(forIn (m:=Sem) names acc (λx cs=>(if (x.2 == NameKind.free)=true then do let a <-cellOf env x.1;pure (ForInStep.yield ((x.1,a)::cs))else pure (ForInStep.yield cs))))=pure cl ∧
   (∀x c,cl.lookup x=some c->env.cells.lookup x=some c) ∧
   (∀x,(x,NameKind.free)∈names->∃c,cl.lookup x=some c)/\(∀x c,acc.lookup x=some c->∃c',cl.lookup x=some c')
 | [],acc,_,h=>⟨acc,rfl,h,λx hx=>by simp at hx,λx c e=>⟨c,e⟩⟩
 | (n,k)::r,acc,hf,h=>by
  by_cases hk:k=NameKind.free
  ·subst hk
   obtain⟨c,hc⟩:=hf n (by simp)
   have h':∀x c',((n,c)::acc).lookup x=some c'->env.cells.lookup x=some c':=λx c' e=>by
    rw[List.lookup_cons]at e
    cases q:x == n with
    | true=>
     rw[q]at e
     have e2:c=c':=Option.some.inj e
     have e3:x=n:=by simpa using q
     rw[<-e2,e3];exact hc
    | false=>rw[q]at e;exact h x c' e
   obtain⟨cl,e1,e2,e3,e4⟩:=iW r ((n,c)::acc) (λx hx=>hf x (List.mem_cons_of_mem _ hx)) h'
   refine⟨cl,?_,e2,λx hx=> ?_,λx c' e=> ?_⟩
   ·rw[List.forIn_cons]
    simp only[beq_self_eq_true,if_true,cellOf,hc,pure_bind];exact e1
   ·rcases List.mem_cons.mp hx with z | z
    ·have z1:x=n:=by injection z
     subst z1;exact e4 x c (by simp[List.lookup_cons])
    ·exact e3 x z
   ·cases q:x == n with
    | true=>exact e4 x c (by simp[List.lookup_cons,q])
    | false=>exact e4 x c' (by simp[List.lookup_cons,q,e])
  ·have hb:(k == NameKind.free)=false:=by simpa using hk
   obtain⟨cl,e1,e2,e3,e4⟩:=iW r acc (λx hx=>hf x (List.mem_cons_of_mem _ hx)) h
   refine⟨cl,?_,e2,λx hx=> ?_,e4⟩
   ·rw[List.forIn_cons]
    simp only[hb,Bool.false_eq_true,if_false,pure_bind];exact e1
   ·rcases List.mem_cons.mp hx with z | z
    ·have z1:NameKind.free=k:=by injection z
     exact absurd z1.symm hk
    ·exact e3 x z
theorem rB {env:Env}{scope:Scope}(hf:∀x,(x,NameKind.free)∈scope.names->∃c,env.cells.lookup x=some c) :
  ∃cl,closureFor scope env=pure cl/\(∀x c,cl.lookup x=some c->env.cells.lookup x=some c)/\(∀x,(x,NameKind.free)∈scope.names->∃c,cl.lookup x=some c):=by
 obtain⟨cl,e1,e2,e3,_⟩:=iW scope.names [] hf (λx c e=>by simp at e)
 refine⟨cl,?_,e2,e3⟩
 unfold closureFor;refine Eq.trans ?_ (congrArg (λz=>z >>= pure) e1|>.trans (by simp))
 rfl
theorem ou {pr:Program}{wd:World}{Ar:Around}{Rz:Result->Shared->Prop}{s0:Shared}{el tg it0:Expr}{cs:List Expr}{sc:Scope}{ps:Pos}{itv av:Value}{ev:Env}(W:Nat->Shared->Prop)
  (go:∀k st,W k st->wpAny (model pr wd) Ar (pyNext itv) (λr s1=>match r with
   | none=>Rz (.ok .next) s1
   | some v=>wpAny (model pr wd) Ar (letOwnedTupleGo tg itv v) (λ_ s2=>wpAny (model pr wd) Ar (assign tg ev v) (λ_ s3=>
     wpAny (model pr wd) Ar (forIn cs true λc b=>if b=true then do let z <-isTrue c ev (eval c ev);pure (ForInStep.yield z)else pure (ForInStep.yield b)) (λz s4=>
      if z=true then wpAny (model pr wd) Ar (eval el ev) (λy s5=>
       wpAny (model pr wd) Ar (call (.builtin "list.append") [av,y]) (λ_ s6=> ∃m,m<k/\W m s6) (λ_ _=>False) s5) (λ_ _=>False) s4
      else ∃m,m<k/\W m s4) (λ_ _=>False) s3) (λ_ _=>False) s2) (λ_ _=>False) s1) (λ_ _=>False) st)
  (k:Nat) (hk:W k s0):codeAny (model pr wd) Ar (.compLoop (.ListComp el [⟨tg,it0,cs,0⟩] sc ps) 0 itv av ev) Rz s0:=by
 refine codeAny_loop rfl W (λk st hw=> ?_) k hk
 show wpAny (model pr wd) Ar ((compTurn (.ListComp el [⟨tg,it0,cs,0⟩] sc ps) 0 itv av ev).onRaise (λz=>do noteFrame z ev;theTreesLotGoes z)) _ _ st
 refine wpAny_noted ?_
 rw[compTurn_list]
 have no:∀{α:Type} {t:Sem α} {Q Q':α->Shared->Prop} {E':Value->Shared->Prop} {x:Shared},wpAny (model pr wd) Ar t Q (λ_ _=>False) x->(∀y z,Q y z->Q' y z)->wpAny (model pr wd) Ar t Q' E' x:=λh f=>wpAny_mono h f λ_ _ z=>z.elim
 refine wpAny_bind (wpAny_standAt (wpAny_bind (no (go k st hw) λr s1 g1=> ?_)))
 cases r with
 | none=>exact wpAny_pure g1
 | some v=>
  refine wpAny_bind (no g1 λ_ s2 g2=>wpAny_bind (no g2 λ_ s3 g3=>wpAny_bind (no g3 λz s4 g4=> ?_)))
  cases z with
  | false=>exact wpAny_pure (And.intro rfl g4)
  | true=>exact wpAny_bind (wpAny_bind (no g4 λy s5 g5=>wpAny_bind (no g5 λ_ s6 g6=>wpAny_pure (wpAny_pure (And.intro rfl g6)))))
def bf (X:Cx)(scope:Scope)(cl:List (Str×Addr))(N':List Str)(C:Addr)(s₀:Shared)(H₀:Hp)(fp:List Addr):Cx:=
 { X with N:=N',s₀:=s₀,H₀:=H₀,env:=compEnvC scope cl C X.env,outer:=X.stack,stack:=X.stack,ex:=fp,fn:=λx=>scope.names.lookup x == some .cell,xe:=λ_ _=>False }
def eX (src:List (Option Nat))(σ:St):St:=src.map λo=>match o with
 | some i=>(σ[i]?).join
 | none=>none
theorem gQ {env:Env}:∀{names:List (Str×NameKind)} {x:Str} {k:NameKind},
  (names.map λ(n,k)=>if (k == NameKind.free&&env.scope.kind == .function&&env.kindOf n == some .cell)then(n,NameKind.cell)else(n,k)).lookup x=some k →
  ∃k',names.lookup x=some k'/\(k=k'\/k'= .free)
 | [],_,_,h=>by simp at h
 | (n,k0)::r,x,k,h=>by
  have ih:=@gQ env r x k
  have h':List.lookup x ((if (k0 == NameKind.free&&env.scope.kind == .function&&env.kindOf n == some .cell)=true then(n,NameKind.cell)else(n,k0))::(r.map λ(n,k)=>if (k == NameKind.free&&env.scope.kind == .function&&env.kindOf n == some .cell)then(n,NameKind.cell)else(n,k)))=some k:=h
  by_cases hc:(k0 == NameKind.free&&env.scope.kind == .function&&env.kindOf n == some .cell)=true
  ·rw[if_pos hc]at h'
   rw[List.lookup_cons]at h' ⊢
   cases hx:x == n with
   | true=>
    refine⟨k0,rfl,.inr ?_⟩
    have:=Bool.and_eq_true_iff.mp hc|>.1
    have:=Bool.and_eq_true_iff.mp this|>.1
    simpa using this
   | false=>rw[hx]at h';exact ih h'
  ·rw[if_neg hc]at h'
   rw[List.lookup_cons]at h' ⊢
   cases hx:x == n with
   | true=>rw[hx]at h';exact⟨k0,rfl,.inl (Option.some.inj h').symm⟩
   | false=>rw[hx]at h';exact ih h'
theorem ie {names:List (Str×NameKind)}{x:Str}{k:NameKind}(h:names.lookup x=some k):(x,k)∈names:=PySem.mem_of_lookup h
theorem gw {env:Env}:∀{names:List (Str×NameKind)} {x:Str},names.lookup x=some .free →
  (names.map λ(n,k)=>if (k == NameKind.free&&env.scope.kind == .function&&env.kindOf n == some .cell)then(n,NameKind.cell)else(n,k)).lookup x=some .cell ∨
  (names.map λ(n,k)=>if (k == NameKind.free&&env.scope.kind == .function&&env.kindOf n == some .cell)then(n,NameKind.cell)else(n,k)).lookup x=some .free
 | [],_,h=>by simp at h
 | (n,k0)::r,x,h=>by
  have ih:=@gw env r x
  show List.lookup x ((if (k0 == NameKind.free&&env.scope.kind == .function&&env.kindOf n == some .cell)=true then(n,NameKind.cell)else(n,k0))::_)=_\/List.lookup x ((if (k0 == NameKind.free&&env.scope.kind == .function&&env.kindOf n == some .cell)=true then(n,NameKind.cell)else(n,k0))::_)=_
  rw[List.lookup_cons]at h
  by_cases hc:(k0 == NameKind.free&&env.scope.kind == .function&&env.kindOf n == some .cell)=true
  ·rw[if_pos hc]
   rw[List.lookup_cons]
   cases hx:x == n with
   | true=>exact .inl rfl
   | false=>rw[hx]at h;exact ih h
  ·rw[if_neg hc]
   rw[List.lookup_cons]
   cases hx:x == n with
   | true=>rw[hx]at h;exact .inr h
   | false=>rw[hx]at h;exact ih h
section
variable {X:Cx}
structure LcScope (X:Cx)(scope:Scope)(N':List Str)(src:List (Option Nat)):Prop where
 kind:scope.kind= .function
 cel:∀y∈scope.names,y.2= .cell->scope.names.lookup y.1=some .cell
 loc:∀y∈scope.names,y.2= .local->scope.names.lookup y.1=some .local
 len:src.length=N'.length
 from_:∀(j i:Nat) (x:Str),src[j]? =some (some i)->N'[j]? =some x->X.N[i]? =some x/\scope.names.lookup x=some .free
 free:∀x,(x,NameKind.free)∈scope.names->X.env.kindOf x=some .cell\/X.env.kindOf x=some .free
def zZ (K:PySem.W.Frag)(wi:TI)(src:List (Option Nat))(g:TG)(tc:TT)(te:TE):TE:=λσ H Q=>wi σ H λJ H1=> ∀D,H1 D=none->K.lookup D=none →
 ∃W:Nat->Nat->St->List V->Hp->Prop,(∃m,W 0 m (eX src σ) [] (upd H1 D (.lst [])))/\∀i m σ ys H,W i m σ ys H->H D=some (.lst ys) ∧
  ((J.stop i H/\Q (.ref D) H)\/(J.go i H/\ys.length<sizeLine/\∀x H',J.yld i H x H'->g x σ H' λσ2 H2=>tc σ2 H2 λb H3=>
   if b=true then te σ2 H3 λv H4=>H4 D=some (.lst ys)/\∃m',m'<m/\W (i+1) m' σ2 (ys++ [v]) (upd H4 D (.lst (ys++ [v])))else ∃m',m'<m/\W (i+1) m' σ2 ys H3))
def tf (X:Cx)(ifs:List Expr)(t:TT):Prop:=
 ∀(pins:List (Addr×Obj)) (s:Shared) (σ:St) (H:Hp) (Q:Bool->Hp->Prop),Inv X pins σ H s->t σ H Q →
  wpAny (model X.prog X.w) X.A (forIn ifs true λc r=>if r=true then do let ok <-isTrue c X.env (eval c X.env);pure (ForInStep.yield ok)else pure (ForInStep.yield r)) (TP X pins σ Q) X.xe s
def o6:TT:=λ_ H Q=>Q true H
theorem nN:tf X [] o6:=λ_ _ _ H _ I h=>wpAny_tests_nil ⟨H,I,h⟩
theorem x6 {c:Expr}{t:TT}(h:PT X c t):tf X [c] t:=λpins s σ H Q I q=>wpAny_tests_one (h pins s σ H Q I q)
theorem jF:∀(names:List (Str×NameKind)) (h:Heap) (acc:List (Str×Addr)),(∀x y c,acc.lookup x=some c->acc.lookup y=some c->x=y)->(∀x c,acc.lookup x=some c->c<h.objs.size) →
  (∀x c,(cellsFrom h.objs.size names acc).lookup x=some c->acc.lookup x=some c\/(h.objs.size<=c/\(pushCells h names).IsCell c none)) ∧
  (∀x y c,(cellsFrom h.objs.size names acc).lookup x=some c->(cellsFrom h.objs.size names acc).lookup y=some c->x=y) ∧
  (∀x,(x,NameKind.cell)∉names->(cellsFrom h.objs.size names acc).lookup x=acc.lookup x) ∧
  (∀x,((x,NameKind.cell)∈names\/∃c,acc.lookup x=some c)->∃c,(cellsFrom h.objs.size names acc).lookup x=some c) ∧
  (∀x c,(x,NameKind.cell)∈names->(cellsFrom h.objs.size names acc).lookup x=some c->h.objs.size<=c)
 | [],h,acc,hi,_=>⟨λ_ _ e=> .inl e,hi,λ_ _=>rfl,λx e=>e.elim (λz=>absurd z List.not_mem_nil) id,λ_ _ z=>absurd z List.not_mem_nil⟩
 | (n,k)::r,h,acc,hi,hl=>by
  unfold cellsFrom pushCells
  by_cases hk:k= .cell
  ·subst hk
   rw[if_pos (by rfl),if_pos (by rfl)]
   have hz:(h.push { cls:=.type "cell",data:=.cell none }).objs.size=h.objs.size+1:=Heap.size_push ..
   have lk:∀x,((n,h.objs.size)::acc).lookup x=if x=n then some h.objs.size else acc.lookup x:=λx=>by
    rw[List.lookup_cons]
    by_cases e:x=n
    ·rw[if_pos e,beq_iff_eq.mpr e]
    ·rw[if_neg e,beq_eq_false_iff_ne.mpr e]
   obtain⟨c1,c2,c3,c4,c5⟩:=jF r (h.push { cls:=.type "cell",data:=.cell none }) ((n,h.objs.size)::acc) (λx y c e1 e2=>by
     rw[lk]at e1 e2
     by_cases q1:x=n
     ·by_cases q2:y=n
      ·rw[q1,q2]
      ·rw[if_pos q1]at e1;rw[if_neg q2]at e2
       cases e1;exact absurd (hl _ _ e2) (Nat.lt_irrefl _)
     ·rw[if_neg q1]at e1
      by_cases q2:y=n
      ·rw[if_pos q2]at e2
       cases e2;exact absurd (hl _ _ e1) (Nat.lt_irrefl _)
      ·rw[if_neg q2]at e2;exact hi x y c e1 e2) (λx c e=>by
     rw[lk]at e;rw[hz]
     by_cases q:x=n
     ·rw[if_pos q]at e;cases e;exact Nat.lt_succ_self _
     ·rw[if_neg q]at e;exact Nat.lt_succ_of_lt (hl x c e))
   rw[hz]at c1 c2 c3 c4 c5;refine⟨λx c e=> ?_,c2,λx hx=> ?_,λx hx=> ?_,λx c hx e=> ?_⟩
   ·rcases c1 x c e with z | z
    ·rw[lk]at z
     by_cases q:x=n
     ·rw[if_pos q]at z;cases z
      exact .inr ⟨Nat.le_refl _,_,pushCells_keeps r _ _ _ (Heap.get?_push_size _ rfl),rfl⟩
     ·rw[if_neg q]at z;exact .inl z
    ·exact .inr ⟨Nat.le_of_succ_le z.1,z.2⟩
   ·rw[c3 x λz=>hx (List.mem_cons_of_mem _ z),lk,if_neg λz=>hx (by rw[z];exact List.mem_cons_self)]
   ·refine c4 x ?_
    rcases hx with hx | hx
    ·rcases List.mem_cons.mp hx with z | z
     ·cases z
      exact .inr ⟨_,by rw[lk,if_pos rfl]⟩
     ·exact .inl z
    ·by_cases q:x=n
     ·exact .inr ⟨_,by rw[lk,if_pos q]⟩
     ·exact .inr (by rw[lk,if_neg q];exact hx)
   ·rcases List.mem_cons.mp hx with z | z
    ·have q:x=n:=(Prod.mk.inj z).1
     rcases c1 x c e with y | y
     ·rw[lk,if_pos q]at y;cases y;exact Nat.le_refl _
     ·exact Nat.le_of_succ_le y.1
    ·exact Nat.le_of_succ_le (c5 x c z e)
  ·have hb:¬ (k == NameKind.cell)=true:=λz=>hk (by simpa using z)
   rw[if_neg hb,if_neg hb];obtain⟨c1,c2,c3,c4,c5⟩:=jF r h acc hi hl;exact⟨c1,c2,λx hx=>c3 x λz=>hx (List.mem_cons_of_mem _ z),λx hx=>c4 x (hx.imp (λz=>(List.mem_cons.mp z).resolve_left λz=>hk (Prod.mk.inj z).2.symm) id),λx c hx=>c5 x c ((List.mem_cons.mp hx).resolve_left λz=>hk (Prod.mk.inj z).2.symm)⟩
theorem tN {M:Model}{A:Around}{E:Value->Shared->Prop}{s:Shared}{scope:Scope}{globals:Addr}{cl:List (Str×Addr)}{qual:Str}{env:Env}{Q:Env->Shared->Prop}
  (q:Q (newEnv scope s.heap.objs.size globals (cellsFrom (s.heap.objs.size+1) scope.names cl) qual none .none (some env) builtinsNs) { s with heap:=pushCells (s.heap.push { cls:=.type "dict",data:=.dict #[] }) scope.names }) :
  wpAny M A (newFunctionEnv scope globals cl [] qual none .none (some env)) Q E s:=by
 simp only[newFunctionEnv,Option.isSome_some,if_true];refine wpAny_bind (wpAny_alloc (wpAny_bind (wpAny_layCells _ (λname kind cells=>by cases hkc:kind == NameKind.cell <;> simp[hkc]) _ _ _ _ ?_)))
 rw[show({ s with heap:=s.heap.push { cls:=.type "dict",data:=.dict #[] } }:Shared).heap.objs.size=s.heap.objs.size+1 from Heap.size_push ..]
 rw[List.forIn_nil];exact wpAny_bind (wpAny_pure (wpAny_pure q))
theorem sk {elt tg iter:Expr}{ifs:List Expr}{scope:Scope}{pos fpos:Pos}{N':List Str}{src:List (Option Nat)}{wi:TI}{g:TG}{tc:TT}{te:TE}{use:Option (Value->Sem Unit)}{Qf:Value->Shared->Prop}
  {pins:List (Addr×Obj)} {s:Shared} {σ:St} {H:Hp} {Q:VK}
  (hc:X.calm=true) (S:LcScope X scope N' src) (hi:PI X tg iter wi)
  (block:∀cl C s₀ H₀ fp,PG (bf X scope cl N' C s₀ H₀ fp) tg g/\tf (bf X scope cl N' C s₀ H₀ fp) ifs tc/\PE (bf X scope cl N' C s₀ H₀ fp) elt te)
  (hs:∀x,foldedSetIterable iter X.env x=pure x) (I:Inv X pins σ H s) (h:zZ X.K wi src g tc te σ H Q)
  (hend:∀(D C:Addr) (H':Hp) (s':Shared),(∃m,s'.heap.Ns C m)->(∀h',Heap.SameBut C s'.heap h'->Inv X pins σ H' { s' with heap:=h' })->(H' C=none/\C≠X.env.locals/\X.s₀.heap.objs.size<=C/\(∀x c,X.env.cells.lookup x=some c->c≠C)/\∀p∈X.pn++pins,p.1≠C)->Q (.ref D) H' →
   compPost (model X.prog X.w) X.A X.xe use Qf (.ref D) C (.ok .next) s') :
  wpAny (model X.prog X.w) X.A (comprehension (.ListComp elt [⟨tg,iter,ifs,0⟩] scope pos) scope X.env fpos (newList []) false (eval iter X.env) use) Qf X.xe s:=by
 have hcell:∀x,(x,NameKind.free)∈scope.names->∃c,X.env.cells.lookup x=some c:=λx hx=>I.ok.has x (S.free x hx)
 obtain⟨cl0,hcl,cl01,cl02⟩:=rB (env:=X.env) (scope:=scope) hcell;refine wpAny_comprehension_free (use:=use) rfl hs hcl S.kind S.loc (bS (hi pins s σ H _ I h) λv s1 h1=>bS h1 λitv s2 h2=> ?_)
 obtain⟨it,fp,tn,J,H2,e,I2,T,st2,f2,hq⟩:=h2;subst e
 -- the new list
 refine wpAny_newObj_type ?_
 have hD:H2 s2.heap.objs.size=none:=I2.hok.fresh (Nat.le_refl _)
 have hDK:X.K.lookup s2.heap.objs.size=none:=by
  cases q:X.K.lookup s2.heap.objs.size with
  | none=>rfl
  | some o=>exact absurd (Heap.lt_size (I2.kIn _ o q)) (Nat.lt_irrefl _)
 obtain⟨W,⟨m0,w0⟩,turn⟩:=hq s2.heap.objs.size hD hDK
 have I3:=I2.lnew (its:=[]) (ys:=[]) (t':=s2.toks) .nil (Nat.zero_le _)
 generalize hs3:({ s2 with heap:=s2.heap.push { cls:=.type "list",data:=.seq ([]:List Value).toArray },toks:=s2.toks }:Shared)=s3 at I3
 generalize hH3:upd H2 s2.heap.objs.size (.lst [])=H3 at I3 w0
 have hDsz:s2.heap.objs.size<s3.heap.objs.size:=by rw[<-hs3];simp[Heap.size_push]
 have fr3:∀b∈fp,H3 b=none:=λb hb=>by
  obtain⟨o,eo,_⟩:=T.obj _ _ st2 b hb;rw[<-hH3,ar (Nat.ne_of_lt (Heap.lt_size eo))];exact(f2 b hb).1
 have st3:tn 0 s3.heap:=T.keep _ _ _ st2 λb hb o e=>by rw[<-hs3];exact Heap.get?_push_of_some _ e
 have f3:∀b∈fp,ju X pins H3 b:=λb hb=>⟨fr3 b hb,(f2 b hb).2⟩
 have D3:H3 s2.heap.objs.size=some (.lst []):=by rw[<-hH3];exact aw
 generalize s2.heap.objs.size=D at*
 clear hs3 hH3 hD hDK
 -- the block's frame
 refine tN ?_
 have old:∀b o,s3.heap.get? b=some o->(pushCells (s3.heap.push { cls:=.type "dict",data:=.dict #[] }) scope.names).get? b=some o:=λb o e=>pushCells_keeps _ _ b o (Heap.get?_push_of_some _ e)
 have hns₁:(pushCells (s3.heap.push { cls:=.type "dict",data:=.dict #[] }) scope.names).Ns s3.heap.objs.size (λ_=>none):=(Heap.Ns.new s3.heap (.type "dict")).keeps (pushCells_keeps _ _)
 have hz3:(s3.heap.push { cls:=.type "dict",data:=.dict #[] }).objs.size=s3.heap.objs.size+1:=Heap.size_push ..
 have lt0:∀x c,cl0.lookup x=some c->c<s3.heap.objs.size:=λx c e=>let ⟨_,ic⟩:=I3.cell x c (cl01 x c e);ic.lt
 obtain⟨c1,c2,c3,c4,c5⟩:=jF scope.names (s3.heap.push { cls:=.type "dict",data:=.dict #[] }) cl0 (λx y c e1 e2=>I3.ok.inj x y c (cl01 x c e1) (cl01 y c e2)) λx c e=>by rw[hz3];exact Nat.lt_succ_of_lt (lt0 x c e)
 rw[hz3]at c1 c2 c3 c4 c5
 generalize hcl':cellsFrom (s3.heap.objs.size+1) scope.names cl0=cl at*
 generalize hh₁:pushCells (s3.heap.push { cls:=.type "dict",data:=.dict #[] }) scope.names=h₁ at*
 have below:∀b o,s3.heap.get? b=some o->b≠s3.heap.objs.size:=λb o e=>Nat.ne_of_lt (Heap.lt_size e)
 -- a cell of the block's: one from around,or a new one
 have cl1:∀x c,cl.lookup x=some c->X.env.cells.lookup x=some c\/(s3.heap.objs.size<c/\h₁.IsCell c none):=λx c e=>(c1 x c e).imp (cl01 x c) id
 generalize hC:s3.heap.objs.size=C at*
 have stk:∀b,b≠X.env.locals->b∉X.fs->b∉lr X.stack:=λb h1 h2 z=>(List.mem_cons.mp (I3.stkSub b z)).elim h1 h2
 have apart:∀b∈fp,∀x c,cl.lookup x=some c->c≠b:=λb hb x c e=>by
  rcases cl1 x c e with z | z
  ·exact(f3 b hb).2.2.2.2.1 x c z
  ·obtain⟨o,eo,_⟩:=T.obj _ _ st3 b hb
   have h1:=Heap.lt_size eo;rw[hC]at h1;exact Nat.ne_of_gt (Nat.lt_trans h1 z.1)
 have I4:Inv (bf X scope cl N' C s3 H3 fp) pins (eX src σ) H3 { s3 with heap:=h₁ }:=by
  refine⟨⟨I3.ok.mod,S.kind,I3.ok.glob,I3.ok.blt,Nat.le_of_eq hC,c2,λx hx=> ?_,λx c hx e=>Nat.le_of_lt (hC▸c5 x c (ie (beq_iff_eq.mp hx)) e),I3.ok.hd,I3.ok.frames,.inl rfl,
    λb hb=>⟨?_,λx c e=>apart b hb x c e⟩,I3.bs,Nat.le_trans I3.ok.bsz I3.sz,λb o e z=> ?_,λb hb=>stk b (f3 b hb).2.1 (f3 b hb).2.2.1,I3.stack,I3.stkFree⟩,
   rfl,I3.bare,Un.kept old,⟨_,hns₁,λj x v e1 e2 e3=> ?_⟩,λx c e=> ?_,I3.hok.fresh (Nat.le_of_eq hC),λx c e=>(cl1 x c e).elim (I3.freeC x c) λz=>I3.hok.fresh (by rw[hC];exact Nat.le_of_lt z.1),λp hp=> ?_,I3.hok.kept old,?_⟩
  ·have key:∀k,(relabel scope X.env).names.lookup x=some k->(k= .cell\/k= .free)->∃c,cl.lookup x=some c:=λk e hk=>by
    obtain⟨k',e',z⟩:=gQ e
    have hk':k'= .cell\/k'= .free:=z.elim (λz=>z▸hk) .inr
    rcases hk' with q | q
    ·exact c4 x (.inl (q▸ie e'))
    ·exact c4 x (.inr (cl02 x (q▸ie e')))
   rcases hx with hx | hx
   ·exact key _ hx (.inl rfl)
   ·exact key _ hx (.inr rfl)
  ·obtain⟨o,eo,_⟩:=T.obj _ _ st3 b hb
   show b≠C
   exact below b o eo
  ·have z':b∈fp:=z
   obtain⟨_,_,_,z1,_⟩:=f3 b z';rcases z1 with z1 | z1
   ·exact I3.ok.noex b o e z1
   ·exact absurd (Nat.lt_of_lt_of_le (Heap.lt_size (I3.ok.bs b o e).1) z1) (Nat.lt_irrefl _)
  ·unfold eX at e2
   rw[List.getElem?_map]at e2
   cases q:src[j]? with
   | none=>rw[q]at e2;simp at e2
   | some o=>
    rw[q]at e2
    cases o with
    | none=>simp at e2
    | some i=>
     have e2':(σ[i]?).join=some v:=by simpa using e2
     have e2'':σ[i]? =some (some v):=by
      cases q2:σ[i]? with
      | none=>rw[q2]at e2';simp at e2'
      | some z=>rw[q2]at e2';simp at e2';rw[e2']
     obtain⟨hN,hfree⟩:=S.from_ j i x q e1
     have hm:=ie hfree
     have hk:=S.free x hm;obtain⟨m,hn,hl⟩:=I3.loc
     have hv:ni X.env.scope x:=by
      rcases hk with z | z
      ·exact .inr (.inl z)
      ·exact .inr (.inr z)
     obtain⟨u,r,l⟩:=hl i x v hN e2'' hv;refine⟨u,r,.inr ⟨?_,?_⟩⟩
     ·exact gw hfree
     ·rcases l with⟨z,_⟩ | ⟨_,c,ec,ic⟩
      ·rcases hk with z' | z' <;> rw[z']at z <;> cases z
      ·obtain⟨c',ec0⟩:=cl02 x hm
       have ec':cl.lookup x=some c':=(c3 x λz=>by have:=S.cel _ z rfl;rw[hfree]at this;cases this).trans ec0
       have:=cl01 x c' ec0;rw[ec]at this;cases this;obtain⟨o,ho,hd⟩:=ic;exact⟨c,ec',o,old _ _ ho,hd⟩
  ·rcases cl1 x c e with z | z
   ·obtain⟨v,o,ho,hd⟩:=I3.cell x c z
    exact⟨v,o,old _ _ ho,hd⟩
   ·exact⟨none,z.2⟩
  ·obtain⟨e,n,ne,nf,d⟩:=I3.pin p hp
   exact⟨old _ _ e,n,below _ _ e,stk _ ne nf,d⟩
  ·show(eX src σ).length=N'.length
   unfold eX;rw[List.length_map];exact S.len
 obtain⟨bG,bI,bE⟩:=block cl C s3 H3 fp
 have stat:∀{H':Hp},(∀b∈fp,H' b=none)->∀b∈fp,ju (bf X scope cl N' C s3 H3 fp) pins H' b:=λhn b hb=>by
  obtain⟨o,eo,_⟩:=T.obj _ _ st3 b hb;exact⟨hn b hb,below b o eo,stk b (f3 b hb).2.1 (f3 b hb).2.2.1,.inl hb,apart b hb,(f3 b hb).2.2.2.2.2⟩
 have st4:tn 0 h₁:=T.keep _ _ _ st3 λb hb o e=>old b o e
 -- behind the block
 have after:∀(H':Hp) (s':Shared) (σ':St),Inv (bf X scope cl N' C s3 H3 fp) pins σ' H' s'->Q (.ref D) H' →
   compPost (model X.prog X.w) X.A X.xe use Qf (.ref D) C (.ok .next) s':=λH' s' σ' I' q=>by
  obtain⟨m,hn,_⟩:=id I'.loc
  have fC:X.s₀.heap.objs.size<=C:=by rw[<-hC];exact I3.sz
  have ltC:∀b o,s3.heap.get? b=some o->b<C:=λb o e=>by rw[<-hC];exact Heap.lt_size e
  refine hend D C H' s' ⟨m,hn⟩ (λh' hsb=> ?_) ⟨I'.free,?_,fC,λx c e z=> ?_,λp hp z=> ?_⟩ q
  rotate_left
  ·have:=I3.lt;rw[hC]at this;exact Nat.ne_of_gt this
  ·obtain⟨v,ic⟩:=I3.cell x c e
   have:=ic.lt;rw[hC,z]at this;exact Nat.lt_irrefl _ this
  ·have:=ltC _ _ (I3.pin p hp).1;rw[z]at this;exact Nat.lt_irrefl _ this
  have u:Un (lr X.stack) fp H3 H' s3.heap s'.heap:=I'.base
  have lift:∀b o,s3.heap.get? b=some o->∀o',s'.heap.get? b=some o'->h'.get? b=some o':=λb o e o' e'=>hsb.extBut b o' (below b o e) e'
  have u':Un (lr X.stack) fp H3 H' s3.heap h':=
   ⟨λb o e n hb hx=>lift b o e o (u.keep b o e n hb hx),λb o e n hb hx=>by
     obtain⟨sl,z⟩:=u.slot b o e n hb hx;exact⟨sl,lift b o e _ z⟩,u.free,λb o e hx=>by
     obtain⟨o',z⟩:=u.there b o e hx;exact⟨o',lift b o e _ z⟩,u.tups,u.frzs,u.tbls⟩
  have hCn:H' C=none:=I'.free
  have hok':HOk X.prog X.w H' h':=λb ob e=>by
   refine(I'.hok b ob e).stay (λc w' hc' q'=>(hsb.2 c ?_).trans q') (λ_ q=>q) λ_ _ q=>q
   rintro rfl
   rcases hc' with rfl | hc'
   ·rw[hCn]at e;cases e
   ·rw[hCn]at hc';cases hc'
  have I5:Inv X pins σ H' { s' with heap:=h' }:=I3.call' (s':={ s' with heap:=h' }) (ch:=fp) I'.os u' hok' I'.bare λb hb=>⟨(f3 b hb).2.2.2.1,(f3 b hb).2.1,(f3 b hb).2.2.2.2.1,(f3 b hb).2.2.2.2.2⟩
  exact I5
 have loop:codeAny (model X.prog X.w) X.A (.compLoop (.ListComp elt [⟨tg,iter,ifs,0⟩] scope pos) 0 (.ref it) (.ref D) (compEnvC scope cl C X.env))
   (compPost (model X.prog X.w) X.A X.xe use Qf (.ref D) C) { s3 with heap:=h₁ }:=by
  refine ou (λn s'=> ∃i σ' ys H',Inv (bf X scope cl N' C s3 H3 fp) pins σ' H' s'/\tn i s'.heap/\(∀b∈fp,H' b=none)/\W i n σ' ys H') ?_ m0 ⟨0,_,[],H3,I4,st4,fr3,w0⟩
  rintro n s5 ⟨i,σ5,ys,H5,I5,st5,fr5,w5⟩
  obtain⟨hDl,alt⟩:=turn i n σ5 ys H5 w5;rcases alt with⟨stop,qn⟩ | ⟨go,hlen,step⟩
  ·refine bS (T.done (bf X scope cl N' C s3 H3 fp) rfl rfl rfl hc i pins s5 σ5 H5 _ I5 (stat fr5) st5 stop) λr s6 ⟨hr,I6⟩=> ?_
   subst hr;exact after H5 s6 σ5 I6 qn
  ·refine bS (T.item (bf X scope cl N' C s3 H3 fp) rfl rfl rfl hc i pins s5 σ5 H5 _ I5 (stat fr5) st5 go) λr s6 ⟨u,hr,h6⟩=> ?_
   subst hr;refine bS h6 λ_ s7 hh_=> ?_
   obtain⟨x,H7,I7,r7,y7,st7,fr7⟩:=hh_
   have I7':=I7.pinned (stat fr7) (T.obj _ _ st7);refine bS (bG _ s7 σ5 H7 x u _ I7' r7 (step x H7 y7)) λ_ s8 hh_=> ?_
   obtain⟨σ8,H8,I8,q8⟩:=hh_;refine bS (bI _ s8 σ8 H8 _ I8 q8) λok s9 hh_=> ?_
   obtain⟨H9,I9,q9⟩:=hh_
   have again:∀{σx:St} {Hx:Hp} {sx:Shared} {ys':List V},Inv (bf X scope cl N' C s3 H3 fp) (pins++kQ fp s7.heap) σx Hx sx->(∃m',m'<n/\W (i+1) m' σx ys' Hx) →
     ∃m,m<n/\∃i σ' ys H',Inv (bf X scope cl N' C s3 H3 fp) pins σ' H' sx/\tn i sx.heap/\(∀b∈fp,H' b=none)/\W i m σ' ys H':=λ{σx Hx sx ys'} Ix nx=>by
    obtain⟨m',hm,wx⟩:=nx;refine⟨m',hm,i+1,σx,ys',Hx,Ix.unpinned,T.keep _ _ _ st7 λb hb o e=>(Ix.pin (b,o) (List.mem_append_right _ (List.mem_append_right _ (gn hb e)))).1,λb hb=> ?_,wx⟩
    obtain⟨o,e,d⟩:=T.obj _ _ st7 b hb;exact(Ix.pin (b,o) (List.mem_append_right _ (List.mem_append_right _ (gn hb e)))).2.1
   cases ok with
   | false=>
    rw[if_neg Bool.false_ne_true]at q9 ⊢
    exact again I9 q9
   | true=>
    rw[if_pos rfl]at q9 ⊢;refine bS (bE _ s9 σ8 H9 _ I9 q9) λv s10 hh_=> ?_
    obtain⟨y,H10,I10,r10,hD10,q10⟩:=hh_;refine bS (mI _ s10 σ8 H10 (.ref D) [y] (.ref D) [v] (λ_ H'=>H'=upd H10 D (.lst (ys++ [y]))) I10 rfl (.cons r10 .nil) ⟨D,ys,y,rfl,rfl,hD10,hlen,rfl⟩) λ_ s11 hh_=> ?_
    obtain⟨_,H11,I11,_,e11⟩:=hh_;subst e11;exact again I11 q10
 exact codeAny_compStart_list loop (T.self _ 0 _ _ _ st4 loop)
theorem pG {elt tg iter:Expr}{ifs:List Expr}{scope:Scope}{pos:Pos}{N':List Str}{src:List (Option Nat)}{wi:TI}{g:TG}{tc:TT}{te:TE}
  (hc:X.calm=true) (S:LcScope X scope N' src) (hi:PI X tg iter wi)
  (block:∀cl C s₀ H₀ fp,PG (bf X scope cl N' C s₀ H₀ fp) tg g/\tf (bf X scope cl N' C s₀ H₀ fp) ifs tc/\PE (bf X scope cl N' C s₀ H₀ fp) elt te)
  (hs:∀x,foldedSetIterable iter X.env x=pure x:=by intro _;rfl) :
  PE X (.ListComp elt [⟨tg,iter,ifs,0⟩] scope pos) (zZ X.K wi src g tc te):=by
 intro pins s σ H Q I h;rw[eval_ListComp];exact sk (use:=none) hc S hi block hs I h λD C H' s' ⟨m,hn⟩ inv _ q=>⟨m,hn,λh' hsb=>⟨.ref D,H',inv h' hsb,rfl,q⟩⟩
theorem zv {elt tg iter:Expr}{ifs:List Expr}{scope:Scope}{pos py spos:Pos}{N':List Str}{src:List (Option Nat)}{wi:TI}{g:TG}{tc:TT}{te:TE}{i:Nat}{y:Str}
  (hc:X.calm=true) (S:LcScope X scope N' src) (hi:PI X tg iter wi)
  (block:∀cl C s₀ H₀ fp,PG (bf X scope cl N' C s₀ H₀ fp) tg g/\tf (bf X scope cl N' C s₀ H₀ fp) ifs tc/\PE (bf X scope cl N' C s₀ H₀ fp) elt te)
  (hN:X.N.Nodup) (hiy:X.N[i]? =some y) (hy:Loc X.env.scope y) (hsw:swapsWith (.ListComp elt [⟨tg,iter,ifs,0⟩] scope pos) (some (.Name y py)) spos.line X.env=pure true)
  (hf:X.fn y=true\/X.env.scope.names.lookup y=some .local) (hs:∀x,foldedSetIterable iter X.env x=pure x:=by intro _;rfl) :
  PS X (.Assign [.Name y py] (.ListComp elt [⟨tg,iter,ifs,0⟩] scope pos) spos) (uN (zZ X.K wi src g tc te) (wn i)):=by
 intro pins s σ H D I h;rw[exec_Assign_Name_used _ _ _ _ hsw];refine wpAny_bind (wpAny_standAt (wpAny_bind ?_))
 show wpAny (model X.prog X.w) X.A (do let _ <-comprehension (.ListComp elt [⟨tg,iter,ifs,0⟩] scope pos) scope X.env _ (newList []) false (eval iter X.env) (some (assign (.Name y py) X.env))) _ _ s
 refine wpAny_bind (bS (sk (use:=some (assign (.Name y py) X.env)) (Qf:=λ_ s'=>SP X pins D .next s') (Q:=λv H'=>D.nx (σ.set i (some v)) H') hc S hi block hs I h λL C H' s' ⟨m,hn⟩ inv ⟨c0,c1,c2,c3,c4⟩ q=> ?_) λ_ s' hq=>wpAny_pure (wpAny_pure hq))
 have I0:Inv X pins σ H' s':=inv s'.heap (Heap.SameBut.refl ..)
 show wpAny (model X.prog X.w) X.A (assign (.Name y py) X.env (.ref L)) _ _ s'
 refine wpAny_assign_Name (mz I0 hN hiy hy (v:=.ref L) rfl (λs2 I2 ⟨b,sb,hb⟩=> ?_) hf)
 have hbC:C≠b:=by
  rcases hb with z | z
  ·rw[z];exact c1
  ·exact λw=>c3 y b z w.symm
 refine⟨m,hn.sameBut sb hbC,λh' hsb=> ?_⟩
 exact⟨_,H',I2.turned (t':=s2.toks) (λb' o hb' e=>(hsb.2 b' hb').trans e) c0 c1 (.inr c2) c3 c4,q⟩
end
end L2
namespace Tr
open PySem PySem.Spec PyProof.Rows L2
inductive T where
 | non | bl (b:Bool) | int (i:Int) | str (x:Str) | tup (l:List T) | lst (l:List T)
 /-- the law's script: a list of ints that is only read -/
 | scr (l:List Int)
 /-- a dict: its keys,its values -/
 | dct (ks vs:List T)
def zA:T->Option Key
 | .int i=>some (.inl i)
 | .str x=>some (.inr x)
 | _=>none
def iV:List T->Option (List Key)
 | [] =>some []
 | t::l=>match zA t,iV l with
  | some k,some r=>some (k::r)
  | _,_=>none
def aN:T->Option (List Key)
 | .tup l=>iV l
 | _=>none
inductive Rs (α:Type) where
 | ok (a:α) | err (c:Str) | bad
def Rs.bind {α β:Type}(x:Rs α)(f:α->Rs β):Rs β:=match x with
 | .ok a=>f a
 | .err c=> .err c
 | .bad=> .bad
instance:Monad Rs where
 pure:=Rs.ok
 bind:=Rs.bind
@[simp] theorem ay {α β:Type} (a:α) (f:α->Rs β):(Rs.ok a >>= f)=f a:=rfl
@[simp] theorem Dj {α:Type} (a:α):(pure a:Rs α)=Rs.ok a:=rfl
@[simp] theorem C9 {α β:Type} (f:α->Rs β):((Rs.bad:Rs α) >>= f)= .bad:=rfl
@[simp] theorem C4 {α β:Type} (c:Str) (f:α->Rs β):((Rs.err c:Rs α) >>= f)= .err c:=rfl
abbrev Ow:=Addr->Prop
mutual
def Rep (K:PySem.W.Frag)(O:Ow)(H:Hp):T->V->Prop
 | .non,v=>v= .non
 | .bl b,v=>v= .bl b
 | .int i,v=>v= .int i
 | .str x,v=>v= .str x
 | .tup l,v=> ∃a vs,v= .ref a/\¬ O a/\H a=some (.tup vs)/\Reps K O H l vs
 | .lst l,v=> ∃a vs,v= .ref a/\¬ O a/\H a=some (.lst vs)/\Reps K O H l vs
 | .scr l,v=> ∃a,v= .ref a/\¬ O a/\SqL K H a (l.map V.int)
 | .dct ks ts,v=> ∃a kvs,v= .ref a/\¬ O a/\Rd H a (.dT kvs)/\ks.map aN=kvs.map (λp=>some p.1)/\Reps K O H ts (kvs.map (·.2))
def Reps (K:PySem.W.Frag)(O:Ow)(H:Hp):List T->List V->Prop
 | [],vs=>vs= []
 | t::r,vs=> ∃v ws,vs=v::ws/\Rep K O H t v/\Reps K O H r ws
end
def SameO (P:Ow)(H H':Hp):Prop:=∀b o,H b=some o->¬ P b->H' b=some o
theorem SameO.of {P:Ow}{H H':Hp}(h:Same H H'):SameO P H H':=λb o e _=>h b o e
theorem Rd.keepO {P:Ow}{H H':Hp}{a:Addr}{u:HO}(h:SameO P H H')(n:¬ P a)(q:Rd H a u):Rd H' a u:=q.elim (λe=> .inl (h _ _ e n)) λ⟨o,e⟩=> .inr ⟨o,h _ _ e n⟩
theorem SqL.keep {K:PySem.W.Frag}{P:Ow}{H H':Hp}{a:Addr}{vs:List V}(h:SameO P H H')(n:¬ P a)(q:SqL K H a vs):SqL K H' a vs:=by
 rcases q with(q | ⟨o,q⟩) | q
 ·exact .inl (.inl (h _ _ q n))
 ·exact .inl (.inr ⟨o,h _ _ q n⟩)
 ·exact .inr q
mutual
theorem Rep.keep {K:PySem.W.Frag}{O P:Ow}{H H':Hp}(h:SameO P H H')(sub:∀a,P a->O a):∀{t:T} {v:V},Rep K O H t v->Rep K O H' t v
 | .non,_,r=>by unfold Rep at r ⊢;exact r
 | .bl _,_,r=>by unfold Rep at r ⊢;exact r
 | .int _,_,r=>by unfold Rep at r ⊢;exact r
 | .str _,_,r=>by unfold Rep at r ⊢;exact r
 | .tup l,_,r=>by
  unfold Rep at r ⊢;obtain⟨a,vs,e,n,q,z⟩:=r
  exact⟨a,vs,e,n,h _ _ q (λp=>n (sub a p)),Reps.keep h sub z⟩
 | .lst l,_,r=>by
  unfold Rep at r ⊢;obtain⟨a,vs,e,n,q,z⟩:=r
  exact⟨a,vs,e,n,h _ _ q (λp=>n (sub a p)),Reps.keep h sub z⟩
 | .scr l,_,r=>by
  unfold Rep at r ⊢;obtain⟨a,e,n,q⟩:=r
  exact⟨a,e,n,SqL.keep h (λp=>n (sub a p)) q⟩
 | .dct ks ts,_,r=>by
  unfold Rep at r ⊢;obtain⟨a,kvs,e,n,q,k,z⟩:=r;exact⟨a,kvs,e,n,Rd.keepO h (λp=>n (sub a p)) q,k,Reps.keep h sub z⟩
theorem Reps.keep {K:PySem.W.Frag}{O P:Ow}{H H':Hp}(h:SameO P H H')(sub:∀a,P a->O a):∀{l:List T} {vs:List V},Reps K O H l vs->Reps K O H' l vs
 | [],_,r=>by unfold Reps at r ⊢;exact r
 | t::l,_,r=>by
  unfold Reps at r ⊢;obtain⟨v,ws,e,p,q⟩:=r;exact⟨v,ws,e,Rep.keep h sub p,Reps.keep h sub q⟩
end
mutual
theorem Rep.less {K:PySem.W.Frag}{O O':Ow}{H:Hp}(sub:∀a,O' a->O a):∀{t:T} {v:V},Rep K O H t v->Rep K O' H t v
 | .non,_,r=>by unfold Rep at r ⊢;exact r
 | .bl _,_,r=>by unfold Rep at r ⊢;exact r
 | .int _,_,r=>by unfold Rep at r ⊢;exact r
 | .str _,_,r=>by unfold Rep at r ⊢;exact r
 | .tup l,_,r=>by
  unfold Rep at r ⊢;obtain⟨a,vs,e,n,q,z⟩:=r
  exact⟨a,vs,e,λp=>n (sub a p),q,Reps.less sub z⟩
 | .lst l,_,r=>by
  unfold Rep at r ⊢;obtain⟨a,vs,e,n,q,z⟩:=r
  exact⟨a,vs,e,λp=>n (sub a p),q,Reps.less sub z⟩
 | .scr l,_,r=>by
  unfold Rep at r ⊢;obtain⟨a,e,n,z⟩:=r
  exact⟨a,e,λp=>n (sub a p),z⟩
 | .dct ks ts,_,r=>by
  unfold Rep at r ⊢;obtain⟨a,kvs,e,n,q,k,z⟩:=r;exact⟨a,kvs,e,λp=>n (sub a p),q,k,Reps.less sub z⟩
theorem Reps.less {K:PySem.W.Frag}{O O':Ow}{H:Hp}(sub:∀a,O' a->O a):∀{l:List T} {vs:List V},Reps K O H l vs->Reps K O' H l vs
 | [],_,r=>by unfold Reps at r ⊢;exact r
 | t::l,_,r=>by
  unfold Reps at r ⊢;obtain⟨v,ws,e,p,q⟩:=r;exact⟨v,ws,e,Rep.less sub p,Reps.less sub q⟩
end
section
variable {K:PySem.W.Frag}{O:Ow}{H H':Hp}{t:T}{v:V}{l:List T}{vs:List V}
theorem Rep.same (h:Same H H')(r:Rep K O H t v):Rep K O H' t v:=Rep.keep (P:=λ_=>False) (SameO.of h) (λ_ z=>z.elim) r
theorem Reps.same (h:Same H H')(r:Reps K O H l vs):Reps K O H' l vs:=Reps.keep (P:=λ_=>False) (SameO.of h) (λ_ z=>z.elim) r
theorem Rep.non_:Rep K O H .non .non:=by unfold Rep;rfl
theorem Rep.bl_ (b:Bool):Rep K O H (.bl b) (.bl b):=by unfold Rep;rfl
theorem Rep.int_ (i:Int):Rep K O H (.int i) (.int i):=by unfold Rep;rfl
theorem Rep.str_ (x:Str):Rep K O H (.str x) (.str x):=by unfold Rep;rfl
theorem Rep.tup_iff:Rep K O H (.tup l) v↔ ∃a vs,v= .ref a/\¬ O a/\H a=some (.tup vs)/\Reps K O H l vs:=by unfold Rep;exact Iff.rfl
theorem Rep.lst_iff:Rep K O H (.lst l) v↔ ∃a vs,v= .ref a/\¬ O a/\H a=some (.lst vs)/\Reps K O H l vs:=by unfold Rep;exact Iff.rfl
theorem Rep.dct_iff {ks ts:List T}:Rep K O H (.dct ks ts) v↔ ∃a kvs,v= .ref a/\¬ O a/\Rd H a (.dT kvs)/\ks.map aN=kvs.map (λp=>some p.1)/\Reps K O H ts (kvs.map (·.2)):=by unfold Rep;exact Iff.rfl
theorem Rep.int_iff {i:Int}:Rep K O H (.int i) v↔v= .int i:=by unfold Rep;exact Iff.rfl
theorem Rep.bl_iff {b:Bool}:Rep K O H (.bl b) v↔v= .bl b:=by unfold Rep;exact Iff.rfl
theorem Rep.str_iff {b:Str}:Rep K O H (.str b) v↔v= .str b:=by unfold Rep;exact Iff.rfl
theorem Rep.non_iff:Rep K O H .non v↔v= .non:=by unfold Rep;exact Iff.rfl
theorem Reps.nil_:Reps K O H [] []:=by unfold Reps;rfl
theorem Reps.cons_ (r:Rep K O H t v)(q:Reps K O H l vs):Reps K O H (t::l) (v::vs):=by unfold Reps;exact⟨v,vs,rfl,r,q⟩
theorem Reps.nil_iff:Reps K O H [] vs↔vs= []:=by unfold Reps;exact Iff.rfl
theorem Reps.cons_iff:Reps K O H (t::l) vs↔ ∃v ws,vs=v::ws/\Rep K O H t v/\Reps K O H l ws:=by
 constructor
 ·intro h;unfold Reps at h;exact h
 ·intro h;unfold Reps;exact h
end
section
variable {K:PySem.W.Frag}{O:Ow}{H H':Hp}
theorem Reps.length:∀{l:List T} {vs:List V},Reps K O H l vs->l.length=vs.length
 | [],vs,r=>by rw[Reps.nil_iff.mp r];rfl
 | t::l,vs,r=>by
  obtain⟨v,ws,rfl,_,q⟩:=Reps.cons_iff.mp r;simp[q.length]
theorem Reps.get:∀{l:List T} {vs:List V} {i:Nat} {t:T},Reps K O H l vs->l[i]? =some t->∃v,vs[i]? =some v/\Rep K O H t v
 | [],_,_,_,_,e=>by simp at e
 | t::l,vs,i,u,r,e=>by
  obtain⟨v,ws,rfl,p,q⟩:=Reps.cons_iff.mp r
  cases i with
  | zero=>simp at e;subst e;exact⟨v,rfl,p⟩
  | succ i=>
   obtain⟨z,e1,e2⟩:=q.get (i:=i) (t:=u) (by simpa using e)
   exact⟨z,by simpa using e1,e2⟩
theorem Reps.append:∀{l m:List T} {vs ws:List V},Reps K O H l vs->Reps K O H m ws->Reps K O H (l++m) (vs++ws)
 | [],_,vs,_,r,s=>by rw[Reps.nil_iff.mp r];exact s
 | t::l,m,vs,ws,r,s=>by
  obtain⟨v,us,rfl,p,q⟩:=Reps.cons_iff.mp r;exact Reps.cons_ p (q.append s)
theorem Reps.take:∀{l:List T} {vs:List V} (n:Nat),Reps K O H l vs->Reps K O H (l.take n) (vs.take n)
 | _,_,0,_=>Reps.nil_
 | [],vs,n+1,r=>by rw[Reps.nil_iff.mp r];exact Reps.nil_
 | t::l,vs,n+1,r=>by
  obtain⟨v,us,rfl,p,q⟩:=Reps.cons_iff.mp r;exact Reps.cons_ p (q.take n)
theorem Reps.drop:∀{l:List T} {vs:List V} (n:Nat),Reps K O H l vs->Reps K O H (l.drop n) (vs.drop n)
 | _,_,0,r=>r
 | [],vs,n+1,r=>by rw[Reps.nil_iff.mp r];exact Reps.nil_
 | t::l,vs,n+1,r=>by
  obtain⟨v,us,rfl,p,q⟩:=Reps.cons_iff.mp r;exact q.drop n
theorem Reps.ints:∀{ns:List Int},Reps K O H (ns.map T.int) (ns.map V.int)
 | [] =>Reps.nil_
 | n::r=>Reps.cons_ (Rep.int_ n) Reps.ints
end
inductive OT where
 | lst (l:List T) | dct (ks ts:List T) | dd (ks:List T) (rows:List (List T×List T))
def OT.view:OT->T
 | .lst l=> .lst l
 | .dct ks ts=> .dct ks ts
 | .dd ks rows=> .dct ks (rows.map λr=> .dct r.1 r.2)
def RowsR (K:PySem.W.Frag)(O:Ow)(H:Hp):List (List T×List T)->List Addr->Prop
 | [],as=>as= []
 | r::rs,as=> ∃b bs kvs,as=b::bs/\H b=some (.dT kvs)/\r.1.map aN=kvs.map (λp=>some p.1)/\Reps K O H r.2 (kvs.map (·.2))/\RowsR K O H rs bs
def ORep (K:PySem.W.Frag)(O M:Ow)(H:Hp):OT->V->Prop
 | .lst l,v=> ∃a vs,v= .ref a/\(∀b,M b↔b=a)/\H a=some (.lst vs)/\Reps K O H l vs
 | .dct ks ts,v=> ∃a kvs,v= .ref a/\(∀b,M b↔b=a)/\H a=some (.dT kvs)/\ks.map aN=kvs.map (λp=>some p.1)/\Reps K O H ts (kvs.map (·.2))
 | .dd ks rows,v=> ∃a kvs as,v= .ref a/\(∀b,M b↔b=a\/b∈as)/\a∉as/\as.Nodup/\H a=some (.dT kvs)/\ks.map aN=kvs.map (λp=>some p.1)/\kvs.map (·.2)=as.map V.ref/\RowsR K O H rows as
inductive Sl where
 | em | va (t:T) | ow (o:OT)
abbrev En:=List Sl
abbrev Mn:=Nat->Ow
def Mn.u (M:Mn):Ow:=λa=> ∃i,M i a
def Mtb (H:Hp)(a:Addr):Prop:=(∃vs,H a=some (.lst vs))\/∃kvs,H a=some (.dT kvs)
theorem Mtb.some {H:Hp}{a:Addr}(h:Mtb H a):∃o,H a=some o:=h.elim (λ⟨_,e⟩=>⟨_,e⟩) λ⟨_,e⟩=>⟨_,e⟩
theorem Mtb.same {H H':Hp}(s:Same H H'){a:Addr}(h:Mtb H a):Mtb H' a:=h.elim (λ⟨vs,e⟩=> .inl ⟨vs,s _ _ e⟩) λ⟨k,e⟩=> .inr ⟨k,s _ _ e⟩
structure EnvM (K:PySem.W.Frag)(O:Ow)(M:Mn)(H:Hp)(Z:En)(σ:L2.St):Prop where
 len:Z.length=σ.length
 val:∀(i:Nat) (t:T),Z[i]? =some (.va t)->∃v,σ[i]? =some (some v)/\Rep K O H t v
 own:∀(i:Nat) (o:OT),Z[i]? =some (.ow o)->∃v,σ[i]? =some (some v)/\ORep K O (M i) H o v
 sub:∀(i:Nat) (a:Addr),M i a->O a
 dis:∀(i j:Nat) (a:Addr),M i a->M j a->i=j
 trk:∀(a:Addr),O a->Mtb H a
theorem RowsR.same {K:PySem.W.Frag}{O:Ow}{H H':Hp}(h:Same H H'):∀{rs:List (List T×List T)} {as:List Addr},RowsR K O H rs as->RowsR K O H' rs as
 | [],_,r=>r
 | _::_,_,⟨b,bs,kvs,e1,e2,e3,e4,e5⟩=>⟨b,bs,kvs,e1,h _ _ e2,e3,e4.same h,e5.same h⟩
theorem ORep.same {K:PySem.W.Frag}{O M:Ow}{H H':Hp}(h:Same H H'){o:OT}{v:V}(r:ORep K O M H o v):ORep K O M H' o v:=by
 cases o with
 | lst l=>obtain⟨a,vs,e1,e2,e3,e4⟩:=r;exact⟨a,vs,e1,e2,h _ _ e3,e4.same h⟩
 | dct ks ts=>obtain⟨a,kvs,e1,e2,e3,e4,e5⟩:=r;exact⟨a,kvs,e1,e2,h _ _ e3,e4,e5.same h⟩
 | dd ks rows=>obtain⟨a,kvs,as,e1,e2,e3,e4,e5,e6,e7,e8⟩:=r;exact⟨a,kvs,as,e1,e2,e3,e4,h _ _ e5,e6,e7,e8.same h⟩
theorem EnvM.same {K:PySem.W.Frag}{O:Ow}{M:Mn}{H H':Hp}{Z:En}{σ:L2.St}(h:Same H H')(e:EnvM K O M H Z σ):EnvM K O M H' Z σ where
 len:=e.len
 val:=λi t q=>let ⟨v,e1,e2⟩:=e.val i t q;⟨v,e1,e2.same h⟩
 own:=λi o q=>let ⟨v,e1,e2⟩:=e.own i o q;⟨v,e1,e2.same h⟩
 sub:=e.sub
 dis:=e.dis
 trk:=λa q=>(e.trk a q).same h
def EnvO (K:PySem.W.Frag)(O:Ow)(H:Hp)(Z:En)(σ:L2.St):Prop:=∃M,EnvM K O M H Z σ
section
variable {K:PySem.W.Frag}{O:Ow}{H H':Hp}{Z:En}{σ:L2.St}
theorem EnvO.val (e:EnvO K O H Z σ)(i:Nat)(t:T)(q:Z[i]? =some (.va t)):∃v,σ[i]? =some (some v)/\Rep K O H t v:=e.elim λ_ e=>e.val i t q
theorem EnvO.mtb (e:EnvO K O H Z σ):∀a,O a->Mtb H a:=e.elim λ_ e=>e.trk
theorem EnvO.trk (e:EnvO K O H Z σ)(a:Addr)(z:O a):∃o,H a=some o:=(e.mtb a z).some
theorem EnvO.same (h:Same H H')(e:EnvO K O H Z σ):EnvO K O H' Z σ:=e.elim λM e=>⟨M,e.same h⟩
theorem EnvO.fresh (e:EnvO K O H Z σ){p:Addr}(h:H p=none):¬ O p:=λz=>by
 obtain⟨o,q⟩:=e.trk p z;rw[h]at q;cases q
end
def De (h:Heap)(C e:Addr):Option Addr->Prop
 | none=> ∃oe vs,h.get? e=some oe/\oe.cls= .ref C/\oe.data= .fields vs/\vs[1]? =some .none
 | some T=>T≠e/\∃oe vs,h.get? e=some oe/\oe.cls= .ref C/\oe.data= .fields vs/\vs[1]? =some (.ref T)/\∃oT ts,h.get? T=some oT/\oT.data= .fields ts/\ts[3]? =some .none
def RzP (X:Cx)(pins:List (Addr×Obj))(P:Ow)(H:Hp)(c:Str)(ev:Value)(s':Shared):Prop:=
 ∃e T C σ' H',ev= .ref e/\X.mg c=some (.ref C)/\Inv X pins σ' H' s'/\SameO P H H'/\H' e=none/\(X.ex= []->X.s₀.heap.get? e=none)/\De s'.heap C e T/\(∀t,T=some t->H' t=none/\(X.ex= []->X.s₀.heap.get? t=none))/\∀p∈X.pn++pins,p.1≠e/\T≠some p.1
def Nw (K:PySem.W.Frag)(H:Hp):Ow:=λa=>H a=none/\K.lookup a=none
theorem kf {K:PySem.W.Frag}{P:Ow}{H H1:Hp}(h:SameO P H H1){a:Addr}(n:Nw K H1 a):P a\/Nw K H a:=by
 by_cases hp:P a
 ·exact .inl hp
 ·refine .inr ⟨?_,n.2⟩
  cases q:H a with
  | none=>rfl
  | some o=>have:=h a o q hp;rw[n.1]at this;cases this
theorem SameO.trans {K:PySem.W.Frag}{P P1:Ow}{H H1 H2:Hp}(h:SameO P H H1)(h1:SameO P1 H1 H2)(sub:∀a,P1 a->P a\/Nw K H a):SameO P H H2:=λb o e n=>
 h1 b o (h b o e n) λz=>(sub b z).elim n λw=>by rw[w.1]at e;cases e
def XA (X:Cx)(P:Ow)(H:Hp)(c:Str):Prop:=∀pins ev s',RzP X pins P H c ev s'->X.xe ev s'
theorem XA.later {X:Cx}{P P1:Ow}{H H1:Hp}{c:Str}(h:XA X P H c)(s:SameO P H H1)(sub:∀a,P1 a->P a\/Nw X.K H a):XA X P1 H1 c:=λpins ev s' ⟨e,T,C,σ',H',a1,a2,a3,a4,a5⟩=>
 h pins ev s' ⟨e,T,C,σ',H',a1,a2,a3,s.trans a4 sub,a5⟩
abbrev r8:Ow:=λ_=>False
def Post {α:Type}(X:Cx)(H:Hp)(r:Rs α)(k:α->Hp->Prop):Prop:=match r with
 | .ok t=> ∀H',Same H H'->k t H'
 | .err c=>XA X r8 H c
 | .bad=>False
theorem Post.mono {α:Type}{X:Cx}{H:Hp}{r:Rs α}{k k':α->Hp->Prop}(h:Post X H r k)(f:∀t H',Same H H'->k t H'->k' t H'):Post X H r k':=by
 cases r with
 | ok t=>exact λH' s=>f t H' s (h H' s)
 | err c=>exact h
 | bad=>exact h
theorem Post.later {α:Type}{X:Cx}{H H1:Hp}{r:Rs α}{k:α->Hp->Prop}(h:Post X H r k)(s:Same H H1):Post X H1 r k:=by
 cases r with
 | ok t=>exact λH' s'=>h H' (s.trans s')
 | err c=>exact XA.later h (SameO.of s) λ_ z=>z.elim
 | bad=>exact h
theorem Post.bind {α β:Type}{X:Cx}{H:Hp}{r:Rs α}{f:α->Rs β}{k:β->Hp->Prop}(h:Post X H (r >>= f) k):Post X H r λt H'=>Post X H' (f t) k:=by
 cases r with
 | ok t=>exact λH' s=>Post.later h s
 | err c=>exact h
 | bad=>exact h
def tP (X:Cx)(f:En->Rs T):TE:=λσ H Q=> ∃Z O,EnvO X.K O H Z σ/\Post X H (f Z) λt H'=> ∀v,Rep X.K O H' t v->Q v H'
def tPA (X:Cx)(f:En->Rs (List T)):TA:=λσ H Q=> ∃Z O,EnvO X.K O H Z σ/\Post X H (f Z) λt H'=> ∀v,Reps X.K O H' t v->Q v H'
def wZ (X:Cx)(f:En->Rs Bool):TT:=λσ H Q=> ∃Z O,EnvO X.K O H Z σ/\Post X H (f Z) λb H'=>Q b H'
abbrev cq (X:Cx)(e:Expr)(f:En->Rs T):Prop:=PE X e (tP X f)
abbrev nj (X:Cx)(e:List Expr)(f:En->Rs (List T)):Prop:=PA X e (tPA X f)
abbrev uv (X:Cx)(e:Expr)(f:En->Rs Bool):Prop:=PT X e (wZ X f)
theorem PE.imp {X:Cx}{e:Expr}{t t':TE}(h:PE X e t)(w:∀σ H Q,t' σ H Q->t σ H Q):PE X e t':=λpins s σ H Q I q=>h pins s σ H Q I (w σ H Q q)
theorem PA.imp {X:Cx}{e:List Expr}{t t':TA}(h:PA X e t)(w:∀σ H Q,t' σ H Q->t σ H Q):PA X e t':=λpos pins s σ H Q I q=>h pos pins s σ H Q I (w σ H Q q)
theorem PS.imp {X:Cx}{e:Stmt}{t t':TS}(h:PS X e t)(w:∀D σ H,t' D σ H->t D σ H):PS X e t':=λpins s σ H D I q=>h pins s σ H D I (w D σ H q)
theorem PSs.imp {X:Cx}{e:List Stmt}{t t':TS}(h:PSs X e t)(w:∀D σ H,t' D σ H->t D σ H):PSs X e t':=λpins s σ H D I q=>h pins s σ H D I (w D σ H q)
section
variable {X:Cx}
theorem bc {σ:L2.St}{H:Hp}{Z:En}{O:Ow}{α:Type}{f:En->Rs T}{k:T->Rs α}{Q:α->Hp->Prop}(E:EnvO X.K O H Z σ)(h:Post X H (f Z >>= k) Q) :
  tP X f σ H λv H'=> ∃t,Rep X.K O H' t v/\Same H H'/\EnvO X.K O H' Z σ/\Post X H' (k t) Q:=
 ⟨Z,O,E,Post.mono h.bind λt H' s q v r=>⟨t,r,s,E.same s,q⟩⟩
theorem d6 {σ:L2.St}{H:Hp}{Z:En}{O:Ow}{α:Type}{f:En->Rs (List T)}{k:List T->Rs α}{Q:α->Hp->Prop}(E:EnvO X.K O H Z σ)(h:Post X H (f Z >>= k) Q) :
  tPA X f σ H λv H'=> ∃t,Reps X.K O H' t v/\Same H H'/\EnvO X.K O H' Z σ/\Post X H' (k t) Q:=
 ⟨Z,O,E,Post.mono h.bind λt H' s q v r=>⟨t,r,s,E.same s,q⟩⟩
theorem i4 {σ:L2.St}{H:Hp}{Z:En}{O:Ow}{α:Type}{f:En->Rs Bool}{k:Bool->Rs α}{Q:α->Hp->Prop}(E:EnvO X.K O H Z σ)(h:Post X H (f Z >>= k) Q) :
  wZ X f σ H λb H'=>Same H H'/\EnvO X.K O H' Z σ/\Post X H' (k b) Q:=
 ⟨Z,O,E,Post.mono h.bind λt H' s q=>⟨s,E.same s,q⟩⟩
def vr (i:Nat)(Z:En):Rs T:=match Z[i]? with
 | some (.va t)=> .ok t
 | _=> .bad
def cn (t:T)(_:En):Rs T:=.ok t
theorem Cc (i:Nat){x:Str}{pos:Pos}(hN:X.N[i]? =some x:=by rfl)(hv:ni X.env.scope x:=by first | exact Or.inl rfl | exact Or.inr (Or.inl rfl) | exact Or.inr (Or.inr rfl))(hd:(x == ("__debug__" : Str))=false:=by decide)
  (hcd:(x == ("__classdict__" : Str))=false:=by decide):cq X (.Name x pos) (vr i):=PE.imp (fN hN hv hd hcd) λσ H Q hh_=>by
 obtain⟨Z,O,E,h⟩:=hh_;unfold vr at h
 split at h
 ·rename_i t e
  obtain⟨v,e1,e2⟩:=E.val i t e;exact⟨v,e1,h H (Same.refl H) v e2⟩
 ·exact h.elim
theorem Cn {i j pos}:cq X (.Constant (.int i) j pos) (cn (.int i)):=PE.imp vn λσ H Q ⟨Z,O,E,h⟩=>h H (Same.refl H) _ (Rep.int_ i)
theorem q_bl {i j pos}:cq X (.Constant (.bool i) j pos) (cn (.bl i)):=PE.imp vq λσ H Q ⟨Z,O,E,h⟩=>h H (Same.refl H) _ (Rep.bl_ i)
theorem Ci {j pos}:cq X (.Constant .none j pos) (cn .non):=PE.imp vm λσ H Q ⟨Z,O,E,h⟩=>h H (Same.refl H) _ Rep.non_
theorem Ce {i j pos}:cq X (.Constant (.str i) j pos) (cn (.str i)):=PE.imp vj λσ H Q ⟨Z,O,E,h⟩=>h H (Same.refl H) _ (Rep.str_ i)
theorem AC {x:Str}{i:Int}{u:Value}{pos:Pos}(hm:X.mg x=some u)(r:RelV (.int i) u)(hg:Gl X x:=by rfl)(hd:(x == ("__debug__" : Str))=false:=by decide):cq X (.Name x pos) (cn (.int i)):=
 PE.imp (nR hg hm r hd) λσ H Q ⟨Z,O,E,h⟩=>h H (Same.refl H) _ (Rep.int_ i)
def ag (_:En):Rs (List T):=.ok []
def ac (f:En->Rs T)(g:En->Rs (List T))(Z:En):Rs (List T):=do
 let t <-f Z
 let r <-g Z
 .ok (t::r)
theorem AB:nj X [] ag:=PA.imp de λσ H Q ⟨Z,O,E,h⟩=>h H (Same.refl H) _ Reps.nil_
theorem xS {e:Expr}{es:List Expr}{f:En->Rs T}{g:En->Rs (List T)}(he:cq X e f)(hr:nj X es g)(hs:starEach (e::es) X.env=(false,eval e X.env)::starEach es X.env:=by rfl):nj X (e::es) (ac f g):=by
 intro pos pins s σ H Q I h;obtain⟨Z,O,E,h⟩:=h;refine aZ he hr hs pos pins s σ H Q I ?_
 obtain⟨Z1,O1,E1,h1⟩:=bc E h;refine⟨Z1,O1,E1,Post.mono h1 λt H' s q v r=> ?_⟩
 obtain⟨t',r',s',E',q'⟩:=q v r;refine⟨Z,O,E',Post.mono q'.bind λts H2 s2 q2 vs rs=> ?_⟩
 exact q2 H2 (Same.refl H2) _ (Reps.cons_ (r'.same s2) rs)
end
section
variable {X:Cx}
def iG (l:List T):Rs T:=if l.length<=sizeLine then .ok (.tup l)else .bad
def jQ (l:List T):Rs T:=if l.length<=sizeLine then .ok (.lst l)else .bad
def bq (f:En->Rs (List T))(Z:En):Rs T:=f Z >>= iG
def dg (f:En->Rs (List T))(Z:En):Rs T:=f Z >>= jQ
theorem aM {H:Hp}{p:Addr}(h:H p=none)(o:HO):Same H (upd H p o):=λb u q=>by rw[ar (bF q h)];exact q
theorem fW {K:PySem.W.Frag}{O:Ow}{H:Hp}{p:Addr}{l:List T}{vs:List V}(h:H p=none)(n:¬ O p)(r:Reps K O H l vs):Rep K O (upd H p (.tup vs)) (.tup l) (.ref p):=
 Rep.tup_iff.mpr ⟨p,vs,rfl,n,aw,r.same (aM h _)⟩
theorem gK {K:PySem.W.Frag}{O:Ow}{H:Hp}{p:Addr}{l:List T}{vs:List V}(h:H p=none)(n:¬ O p)(r:Reps K O H l vs):Rep K O (upd H p (.lst vs)) (.lst l) (.ref p):=
 Rep.lst_iff.mpr ⟨p,vs,rfl,n,aw,r.same (aM h _)⟩
theorem Cd {es:List Expr}{x1:Nat}{pos:Pos}{f:En->Rs (List T)}(h:nj X es f):cq X (.Tuple es x1 pos) (bq f):=by
 intro pins s σ H Q I ⟨Z,O,E,hq⟩;refine nP h pins s σ H Q I ?_
 obtain⟨Z1,O1,E1,h1⟩:=d6 E hq;refine⟨Z1,O1,E1,Post.mono h1 λts H1 s1 q vs r=> ?_⟩
 obtain⟨t',r',s',E',q'⟩:=q vs r;unfold iG at q'
 split at q'
 ·rename_i hz
  refine⟨by rw[<-r'.length];exact hz,λp hp=> ?_⟩
  exact q' _ (aM hp _) _ (fW hp (E'.fresh hp) r')
 ·exact q'.elim
theorem Ck {es:List Expr}{pos:Pos}{f:En->Rs (List T)}(h:nj X es f):cq X (.List es pos) (dg f):=by
 intro pins s σ H Q I ⟨Z,O,E,hq⟩;refine nQ h pins s σ H Q I ?_
 obtain⟨Z1,O1,E1,h1⟩:=d6 E hq;refine⟨Z1,O1,E1,Post.mono h1 λts H1 s1 q vs r=> ?_⟩
 obtain⟨t',r',s',E',q'⟩:=q vs r;unfold jQ at q'
 split at q'
 ·rename_i hz
  refine⟨by rw[<-r'.length];exact hz,λp hp=> ?_⟩
  exact q' _ (aM hp _) _ (gK hp (E'.fresh hp) r')
 ·exact q'.elim
def OpT (X:Cx)(f:Value->Value->Sem Value)(g:T->T->Rs T):Prop:=
 ∀(pins:List (Addr×Obj)) (s:Shared) (σ:L2.St) (H:Hp) (O:Ow) (x y:T) (vx vy:V) (ux uy:Value) (Q:VK),Inv X pins σ H s->(∀p,H p=none->¬ O p)->Rep X.K O H x vx->Rep X.K O H y vy->RelV vx ux->RelV vy uy →
  Post X H (g x y) (λt H'=> ∀v,Rep X.K O H' t v->Q v H')->wpAny (model X.prog X.w) X.A (f ux uy) (EP X pins σ Q) X.xe s
def o2 (g:T->T->Rs T)(fa fb:En->Rs T)(Z:En):Rs T:=do
 let x <-fa Z
 let y <-fb Z
 g x y
variable {a b c:Expr}{fa fb fc:En->Rs T}{pos:Pos}
theorem Cq {op:Operator}{g:T->T->Rs T}(ho:OpT X (binaryOp op) g)(ha:cq X a fa)(hb:cq X b fb):cq X (.BinOp a op b pos) (o2 g fa fb):=by
 intro pins s σ H Q I ⟨Z,O,E,hq⟩
 have h1:=bc E hq;refine wpAny_BinOp (bS (ha pins s σ H _ I h1) λv s1 hh_=> ?_)
 obtain⟨x,H1,I1,r1,t,rt,s',E',q1⟩:=hh_
 have h2:=bc (f:=fb) E' q1;refine bS (hb pins s1 σ H1 _ I1 h2) λu s2 hh_=> ?_
 obtain⟨y,H2,I2,r2,t2,rt2,s'',E'',q2⟩:=hh_;exact ho pins s2 σ H2 O t t2 x y v u Q I2 (λp=>E''.fresh) (rt.same s'') rt2 r1 r2 q2
theorem Cp {op:CmpOp}{g:T->T->Rs T}(ho:OpT X (compareOp op) g)(ha:cq X a fa)(hb:cq X b fb)(hm:behindInMarks op b=false:=by rfl):cq X (.Compare a [op] [b] pos) (o2 g fa fb):=by
 intro pins s σ H Q I ⟨Z,O,E,hq⟩
 have h1:=bc E hq;refine wpAny_Compare1 (bS (ha pins s σ H _ I h1) λv s1 ⟨x,H1,I1,r1,t,rt,s',E',q1⟩=> ?_) hm
 have h2:=bc (f:=fb) E' q1;refine bS (hb pins s1 σ H1 _ I1 h2) λu s2 hh_=> ?_
 obtain⟨y,H2,I2,r2,t2,rt2,s'',E'',q2⟩:=hh_;exact ho pins s2 σ H2 O t t2 x y v u Q I2 (λp=>E''.fresh) (rt.same s'') rt2 r1 r2 q2
theorem OpT.of {f:Value->Value->Sem Value}{r:R2}(h:lN X f r){g:T->T->Rs T}
  (w:∀(H:Hp) (O:Ow) (x y:T) (vx vy:V) (Q:VK),(∀p,H p=none->¬ O p)->Rep X.K O H x vx->Rep X.K O H y vy->Post X H (g x y) (λt H'=> ∀v,Rep X.K O H' t v->Q v H')->r vx vy H Q):OpT X f g:=
 λpins s σ H O x y vx vy ux uy Q I hf rx ry r1 r2 hp=>h pins s σ H vx vy ux uy Q I r1 r2 (w H O x y vx vy Q hf rx ry hp)
def bP:T->T->Rs T
 | .int i,.int j=> .ok (.int (i - j))
 | _,_=> .bad
theorem cv:OpT X (binaryOp .Sub) bP:=OpT.of AQ λH O x y vx vy Q hf rx ry hp=>by
 unfold bP at hp
 split at hp
 ·exact⟨_,_,Rep.int_iff.mp rx,Rep.int_iff.mp ry,hp H (Same.refl H) _ (Rep.int_ _)⟩
 ·exact hp.elim
def jn:T->T->Rs T
 | .int i,.int j=>if 0<j/\j<1073741824 then .ok (.int (i / j))else .bad
 | _,_=> .bad
def jg:T->T->Rs T
 | .int i,.int j=>if 0<j then .ok (.int (i % j))else .bad
 | _,_=> .bad
theorem kc:OpT X (binaryOp .FloorDiv) jn:=OpT.of yg λH O x y vx vy Q hf rx ry hp=>by
 unfold jn at hp
 split at hp
 ·split at hp
  ·rename_i h
   exact⟨_,_,Rep.int_iff.mp rx,Rep.int_iff.mp ry,h,hp H (Same.refl H) _ (Rep.int_ _)⟩
  ·exact hp.elim
 ·exact hp.elim
theorem iK:OpT X (binaryOp .Mod) jg:=OpT.of AT λH O x y vx vy Q hf rx ry hp=>by
 unfold jg at hp
 split at hp
 ·split at hp
  ·rename_i h
   exact⟨_,_,Rep.int_iff.mp rx,Rep.int_iff.mp ry,h,hp H (Same.refl H) _ (Rep.int_ _)⟩
  ·exact hp.elim
 ·exact hp.elim
theorem vC:lN X (binaryOp .Add) (λx y H Q=> ∃a b ys,x= .ref a/\y= .ref b/\SqT X.K H a []/\SqT X.K H b ys/\Q (.ref b) H):=by
 intro pins s σ H x y v u Q I rx ry h;obtain⟨a,b,ys,rfl,rfl,ha,hb,q⟩:=h;cases rx;cases ry;obtain⟨its,r1,p1,_⟩:=I.tuple ha;obtain⟨its2,r2,p2,_⟩:=I.tuple hb;obtain⟨⟨cls,dd,data,sl⟩,ho,hc,n,hd⟩:=id p1;obtain⟨⟨cls2,dd2,data2,sl2⟩,ho2,hc2,n2,hd2⟩:=id p2;simp only at hc hd hc2 hd2;subst hc hd hc2 hd2
 have e:its= []:=by cases r1;rfl
 subst e;exact HT_concat0 ho ho2 ⟨.ref b,H,I,rfl,q⟩
where
 HT_concat0 {prog:Program} {w:World} {A:Around} {E:Value->Shared->Prop} {s:Shared} {t b:Addr} {ws:Array Value} {n n2:Nat} {dd dd2:Option Addr} {sl sl2:Array (Option Value)} {Q:Value->Shared->Prop}
   (ho:s.heap.get? t=some { cls:=.type "tuple",dict:=dd,data:=.seq (([]:List Value).toArray) n,slots:=sl }) (ho2:s.heap.get? b=some { cls:=.type "tuple",dict:=dd2,data:=.seq ws n2,slots:=sl2 }) (h:Q (.ref b) s) :
   wpAny (model prog w) A (binaryOp .Add (.ref t) (.ref b)) Q E s:=
  concat_meets ⟨_,ho,rfl⟩ ⟨_,ho2,rfl⟩ noFill_tuple_add seq_tuple_add PySem.F.slot_tuple_add PySem.F.entry_tuple_add (PySem.F.args_tuple_add_2 _ _)
   (tuple_addW0 t b _ _ n n2 dd dd2 sl sl2 (by simp)) ⟨ho,ho2,h⟩
def aH:T->T->Rs T
 | .int i,.int j=> .ok (.int (i+j))
 | .str i,.str j=>if i.length+j.length<=sizeLine then .ok (.str (i++j))else .bad
 | .tup l,.tup m=>iG (l++m)
 | .lst l,.lst m=>jQ (l++m)
 | _,_=> .bad
theorem aG:OpT X (binaryOp .Add) aH:=by
 intro pins s σ H O x y vx vy ux uy Q I hf rx ry r1 r2 hp;unfold aH at hp
 split at hp
 ·exact AV pins s σ H vx vy ux uy Q I r1 r2 ⟨_,_,Rep.int_iff.mp rx,Rep.int_iff.mp ry,hp H (Same.refl H) _ (Rep.int_ _)⟩
 ·split at hp
  ·rename_i h
   exact qQ pins s σ H vx vy ux uy Q I r1 r2 ⟨_,_,Rep.str_iff.mp rx,Rep.str_iff.mp ry,h,hp H (Same.refl H) _ (Rep.str_ _)⟩
  ·exact hp.elim
 ·rename_i l m
  unfold iG at hp
  split at hp
  ·rename_i h
   obtain⟨a,vs,e1,n1,q1,z1⟩:=Rep.tup_iff.mp rx;obtain⟨b,ws,e2,n2,q2,z2⟩:=Rep.tup_iff.mp ry
   have hl1:=z1.length
   have hl2:=z2.length;rw[List.length_append]at h
   cases vs with
   | nil=>
    have e:l= []:=by cases l with
     | nil=>rfl
     | cons _ _=>simp at hl1
    subst e
    exact vC pins s σ H vx vy ux uy Q I r1 r2 ⟨a,b,ws,e1,e2,SqT.of q1,SqT.of q2,hp H (Same.refl H) _ (Rep.tup_iff.mpr ⟨b,ws,rfl,n2,q2,z2⟩)⟩
   | cons v0 vr=>
    refine yh pins s σ H vx vy ux uy Q I r1 r2 ⟨a,b,v0::vr,ws,e1,e2,SqT.of q1,SqT.of q2,by simp,by omega,λhw=> ?_,λ_ p hpn=> ?_⟩
    ·subst hw
     have e:m= []:=by cases m with
      | nil=>rfl
      | cons _ _=>simp at hl2
     subst e;rw[List.append_nil]at hp;exact hp H (Same.refl H) _ (Rep.tup_iff.mpr ⟨a,_,rfl,n1,q1,z1⟩)
    ·exact hp _ (aM hpn _) _ (fW hpn (hf p hpn) (z1.append z2))
  ·exact hp.elim
 ·rename_i l m
  unfold jQ at hp
  split at hp
  ·rename_i h
   obtain⟨a,vs,e1,n1,q1,z1⟩:=Rep.lst_iff.mp rx;obtain⟨b,ws,e2,n2,q2,z2⟩:=Rep.lst_iff.mp ry
   have hl1:=z1.length
   have hl2:=z2.length;rw[List.length_append]at h;exact vD pins s σ H vx vy ux uy Q I r1 r2 ⟨a,b,vs,ws,e1,e2,q1,q2,by omega,λp hpn=>hp _ (aM hpn _) _ (gK hpn (hf p hpn) (z1.append z2))⟩
  ·exact hp.elim
 ·exact hp.elim
def qU:T->T->Rs T
 | .int i,.int j=>if (-(2 ^ 64)<i/\i<2 ^ 64)\/(-(2 ^ 64)<j/\j<2 ^ 64)then .ok (.int (i*j))else .bad
 | .lst l,.int k=>if -(2 ^ 63)<=k/\k<2 ^ 63/\l.length*k.toNat<=sizeLine then .ok (.lst (List.replicate k.toNat l).flatten)else .bad
 | _,_=> .bad
theorem Reps.rep {K:PySem.W.Frag}{O:Ow}{H:Hp}{l:List T}{vs:List V}(h:Reps K O H l vs):∀k:Nat,Reps K O H (List.replicate k l).flatten (List.replicate k vs).flatten
 | 0=>Reps.nil_
 | k+1=>by rw[List.replicate_succ,List.replicate_succ,List.flatten_cons,List.flatten_cons];exact h.append (h.rep k)
theorem AO:OpT X (binaryOp .Mult) qU:=by
 intro pins s σ H O x y vx vy ux uy Q I hf rx ry r1 r2 hp;unfold qU at hp
 split at hp
 ·split at hp
  ·rename_i h
   exact AS pins s σ H vx vy ux uy Q I r1 r2 ⟨_,_,Rep.int_iff.mp rx,Rep.int_iff.mp ry,h,hp H (Same.refl H) _ (Rep.int_ _)⟩
  ·exact hp.elim
 ·split at hp
  ·rename_i l k h
   obtain⟨a,vs,e1,n1,q1,z1⟩:=Rep.lst_iff.mp rx
   have hl1:=z1.length;exact AR pins s σ H vx vy ux uy Q I r1 r2 ⟨a,k,vs,e1,Rep.int_iff.mp ry,q1,h.1,h.2.1,by rw[<-hl1];exact h.2.2,λp hpn=>hp _ (aM hpn _) _ (gK hpn (hf p hpn) (z1.rep _))⟩
  ·exact hp.elim
 ·exact hp.elim
def pU:T->Rs T
 | .int i=> .ok (.int (-i))
 | _=> .bad
def o1 (g:T->Rs T)(fa:En->Rs T)(Z:En):Rs T:=fa Z >>= g
theorem Cj (ha:cq X a fa):cq X (.UnaryOp .USub a pos) (o1 pU fa):=by
 intro pins s σ H Q I ⟨Z,O,E,hq⟩;refine Ct zT ha pins s σ H Q I ?_
 obtain⟨Z1,O1,E1,h1⟩:=bc E hq;refine⟨Z1,O1,E1,Post.mono h1 λts H1 s1 q vs r=> ?_⟩
 obtain⟨t',r',s',E',q'⟩:=q vs r;unfold pU at q'
 split at q'
 ·exact⟨_,Rep.int_iff.mp r',q' H1 (Same.refl H1) _ (Rep.int_ _)⟩
 ·exact q'.elim
def qy (p:Int->Int->Bool):T->T->Rs T
 | .int i,.int j=> .ok (.bl (p i j))
 | _,_=> .bad
theorem nS {op:CmpOp}{p:Int->Int->Bool}(h:lN X (compareOp op) (zr λi j=> .bl (p i j))):OpT X (compareOp op) (qy p):=OpT.of h λH O x y vx vy Q hf rx ry hp=>by
 unfold qy at hp
 split at hp
 ·exact⟨_,_,Rep.int_iff.mp rx,Rep.int_iff.mp ry,hp H (Same.refl H) _ (Rep.bl_ _)⟩
 ·exact hp.elim
abbrev qV:=qy λi j=>decide (i<j)
abbrev A5:=qy λi j=>decide (i<=j)
abbrev Bm:=qy λi j=>decide (j<i)
theorem pI:OpT X (compareOp .Lt) qV:=nS CA
theorem pJ:OpT X (compareOp .LtE) A5:=nS CB
theorem zx:OpT X (compareOp .Gt) Bm:=nS CC
def T.isN:T->Bool
 | .non=>true
 | _=>false
theorem Rep.isN {K:PySem.W.Frag}{O:Ow}{H:Hp}{t:T}{v:V}(r:Rep K O H t v):decide (v= .non)=t.isN:=by
 cases t with
 | non=>rw[Rep.non_iff.mp r];rfl
 | bl _=>rw[Rep.bl_iff.mp r];rfl
 | int _=>rw[Rep.int_iff.mp r];rfl
 | str _=>rw[Rep.str_iff.mp r];rfl
 | tup _=>obtain⟨a,vs,e,_⟩:=Rep.tup_iff.mp r;rw[e];rfl
 | lst _=>obtain⟨a,vs,e,_⟩:=Rep.lst_iff.mp r;rw[e];rfl
 | scr _=>unfold Rep at r;obtain⟨a,e,_⟩:=r;rw[e];rfl
 | dct _ _=>obtain⟨a,_,e,_⟩:=Rep.dct_iff.mp r;rw[e];rfl
def mh:T->T->Rs T
 | x,.non=> .ok (.bl x.isN)
 | _,_=> .bad
def cK:T->T->Rs T
 | x,.non=> .ok (.bl (!x.isN))
 | _,_=> .bad
theorem vB:OpT X (compareOp .Is) mh:=OpT.of AU λH O x y vx vy Q hf rx ry hp=>by
 unfold mh at hp
 split at hp
 ·exact⟨Rep.non_iff.mp ry,hp H (Same.refl H) _ (by rw[rx.isN];exact Rep.bl_ _)⟩
 ·exact hp.elim
theorem d8:OpT X (compareOp .IsNot) cK:=OpT.of yf λH O x y vx vy Q hf rx ry hp=>by
 unfold cK at hp
 split at hp
 ·exact⟨Rep.non_iff.mp ry,hp H (Same.refl H) _ (by rw[rx.isN];exact Rep.bl_ _)⟩
 ·exact hp.elim
end
end Tr
namespace Tr
open PySem PySem.Spec PyProof.Rows L2
open PySem.SeqAt
mutual
def ReV (s:Shared):T->Value->Prop
 | .non,u=>u= .none
 | .bl b,u=>u= .bool b
 | .int i,u=> ∃t,u= .int i t
 | .str x,u=> ∃t,u= .str x t
 | .tup l,u=> ∃a its,u= .ref a/\s.heap.IsTuple a (List.toArray its)/\ReVs s l its
 | .lst l,u=> ∃a its,u= .ref a/\s.heap.IsList a (List.toArray its)/\ReVs s l its
 | .scr l,u=> ∃a its,u= .ref a/\s.heap.IsList a (List.toArray its)/\IntsAre its l
 | .dct _ _,_=>False
def ReVs (s:Shared):List T->List Value->Prop
 | [],us=>us= []
 | t::r,us=> ∃u ws,us=u::ws/\ReV s t u/\ReVs s r ws
end
theorem ReVs.nil_iff {s:Shared}{us:List Value}:ReVs s [] us↔us= []:=by unfold ReVs;exact Iff.rfl
theorem ReVs.cons_iff {s:Shared}{t:T}{l:List T}{us:List Value}:ReVs s (t::l) us↔ ∃u ws,us=u::ws/\ReV s t u/\ReVs s l ws:=by
 constructor
 ·intro h;unfold ReVs at h;exact h
 ·intro h;unfold ReVs;exact h
theorem ReVs.length {s:Shared}:∀{l:List T} {us:List Value},ReVs s l us->l.length=us.length
 | [],us,r=>by rw[ReVs.nil_iff.mp r];rfl
 | t::l,us,r=>by
  obtain⟨v,ws,rfl,_,q⟩:=ReVs.cons_iff.mp r;simp[q.length]
theorem ReVs.get {s:Shared}:∀{l:List T} {us:List Value} {i:Nat} {t:T},ReVs s l us->l[i]? =some t->∃v,us[i]? =some v/\ReV s t v
 | [],_,_,_,_,e=>by simp at e
 | t::l,vs,i,u,r,e=>by
  obtain⟨v,ws,rfl,p,q⟩:=ReVs.cons_iff.mp r
  cases i with
  | zero=>simp at e;subst e;exact⟨v,rfl,p⟩
  | succ i=>
   obtain⟨z,e1,e2⟩:=q.get (i:=i) (t:=u) (by simpa using e)
   exact⟨z,by simpa using e1,e2⟩
mutual
def T.nd:T->Bool
 | .dct _ _=>false
 | .tup l=>nds l
 | .lst l=>nds l
 | _=>true
def nds:List T->Bool
 | [] =>true
 | t::l=>t.nd&&nds l
end
theorem pW {t:T}{l:List T}(h:nds (t::l)=true):t.nd=true/\nds l=true:=by unfold nds at h;exact Bool.and_eq_true_iff.mp h
theorem vL:∀{l:List T},(∀t∈l,t.nd=true)->nds l=true
 | [],_=>rfl
 | t::l,h=>by unfold nds;rw[h t List.mem_cons_self,vL λu hu=>h u (List.mem_cons_of_mem _ hu)];rfl
section
variable {X:Cx}{pins:List (Addr×Obj)}{σ:L2.St}{H:Hp}{s:Shared}{O:Ow}
mutual
theorem Rep.val (I:Inv X pins σ H s):∀{t:T} {v:V} {u:Value},t.nd=true->Rep X.K O H t v->RelV v u->ReV s t u
 | .non,v,u,hn,r,q=>by cases Rep.non_iff.mp r;unfold ReV;exact q
 | .bl b,v,u,hn,r,q=>by cases Rep.bl_iff.mp r;unfold ReV;exact q
 | .int b,v,u,hn,r,q=>by cases Rep.int_iff.mp r;unfold ReV;exact q
 | .str b,v,u,hn,r,q=>by cases Rep.str_iff.mp r;unfold ReV;exact q
 | .tup l,v,u,hn,r,q=>by
  obtain⟨a,vs,rfl,_,z,w⟩:=Rep.tup_iff.mp r;cases q;obtain⟨its,rv,p,_⟩:=I.tuple (SqT.of z);unfold ReV
  exact⟨a,its,rfl,p,Reps.val I (by unfold T.nd at hn;exact hn) w rv⟩
 | .lst l,v,u,hn,r,q=>by
  obtain⟨a,vs,rfl,_,z,w⟩:=Rep.lst_iff.mp r;cases q;obtain⟨its,rv,p,_⟩:=I.list (SqL.of z);unfold ReV
  exact⟨a,its,rfl,p.isList,Reps.val I (by unfold T.nd at hn;exact hn) w rv⟩
 | .scr l,v,u,hn,r,q=>by
  unfold Rep at r;obtain⟨a,rfl,_,z⟩:=r;cases q;obtain⟨its,rv,p,_⟩:=I.list z;unfold ReV
  exact⟨a,its,rfl,p.isList,rj rv⟩
 | .dct _ _,v,u,hn,r,q=>by cases hn
theorem Reps.val (I:Inv X pins σ H s):∀{l:List T} {vs:List V} {us:List Value},nds l=true->Reps X.K O H l vs->Vals vs us->ReVs s l us
 | [],vs,us,hn,r,q=>by
  cases Reps.nil_iff.mp r;cases q
  exact ReVs.nil_iff.mpr rfl
 | t::l,vs,us,hn,r,q=>by
  obtain⟨v,ws,rfl,p,z⟩:=Reps.cons_iff.mp r
  cases q with
  | cons q1 q2=>exact ReVs.cons_iff.mpr ⟨_,_,rfl,Rep.val I (pW hn).1 p q1,Reps.val I (pW hn).2 z q2⟩
end
end
mutual
def T.dep:T->Nat
 | .tup l=>deps l+1
 | .lst l=>deps l+1
 | .scr _=>1
 | _=>0
def deps:List T->Nat
 | [] =>0
 | t::l=>max t.dep (deps l)
end
def yU (i:Int):T->Bool
 | .int j=>i == j
 | .bl b=>i == (if b then 1 else 0)
 | _=>false
def iH:List Int->List T->Bool
 | [],[] =>true
 | i::r,t::l=>yU i t&&iH r l
 | _,_=>false
mutual
def bO:T->T->Bool
 | .non,.non=>true
 | .bl a,.bl b=>a == b
 | .bl a,.int b=>(if a then 1 else 0) == b
 | .int a,.bl b=>a == (if b then 1 else 0)
 | .int a,.int b=>a == b
 | .str a,.str b=>a == b
 | .tup l,.tup m=>beqTs l m
 | .lst l,.lst m=>beqTs l m
 | .lst l,.scr m=>beqTs l (m.map .int)
 | .scr l,.lst m=>iH l m
 | .scr l,.scr m=>l == m
 | _,_=>false
def beqTs:List T->List T->Bool
 | [],[] =>true
 | t::l,u::m=>bO t u&&beqTs l m
 | _,_=>false
end
theorem lK (n:Nat)(e:Nat->Bool):(List.range (n+1)).all e=(e 0&&(List.range n).all λj=>e (j+1)):=by
 rw[List.range_succ_eq_map,List.all_cons,List.all_map];rfl
theorem jG:∀(l m:List T) (e:Nat->Bool),(∀(j:Nat) t u,l[j]? =some t->m[j]? =some u->e j=bO t u) →
  beqTs l m=((List.range (min l.length m.length)).all e&&l.length == m.length)
 | [],[],_,_=>by simp[beqTs]
 | [],_::_,_,_=>by simp[beqTs]
 | _::_,[],_,_=>by simp[beqTs]
 | t::l,u::m,e,h=>by
  have ih:=jG l m (λj=>e (j+1)) λj t' u' h1 h2=>h (j+1) t' u' (by simpa using h1) (by simpa using h2)
  rw[beqTs,ih]
  have h0:=h 0 t u rfl rfl;simp only[List.length_cons];rw[Nat.succ_min_succ,lK,h0,Bool.and_assoc]
  congr 2
  simp
theorem nh:∀{l m:List T},l.length≠m.length->beqTs l m=false
 | [],[],h=>absurd rfl h
 | [],_::_,_=>by simp[beqTs]
 | _::_,[],_=>by simp[beqTs]
 | t::l,u::m,h=>by
  rw[beqTs,nh (l:=l) (m:=m) (by intro z;exact h (by simp[z]))]
  simp
theorem lC:∀{l:List T} {i:Nat} {t:T},l[i]? =some t->t.dep<=deps l
 | [],_,_,e=>by simp at e
 | t::l,0,u,e=>by simp at e;subst e;unfold deps;exact Nat.le_max_left _ _
 | t::l,i+1,u,e=>by
  have:=lC (l:=l) (i:=i) (t:=u) (by simpa using e)
  unfold deps;exact Nat.le_trans this (Nat.le_max_right _ _)
theorem gS {s:Shared}{a:Addr}{x y:List Value}(h:s.heap.IsTuple a x.toArray)(h':s.heap.IsTuple a y.toArray):x=y:=by
 obtain⟨o,e,_,n,d⟩:=h;obtain⟨o',e',_,n',d'⟩:=h';rw[e]at e';cases e';rw[d]at d';injection d' with d1 _
 simpa using congrArg Array.toList d1
theorem cw {s:Shared}{a:Addr}{x y:List Value}(h:s.heap.IsList a x.toArray)(h':s.heap.IsList a y.toArray):x=y:=by
 obtain⟨o,e,_,n,d⟩:=h;obtain⟨o',e',_,n',d'⟩:=h';rw[e]at e';cases e';rw[d]at d';injection d' with d1 _
 simpa using congrArg Array.toList d1
theorem ut {s:Shared}{i:Int}{t:T}{k:Tok}(r:ReV s t (.int i k)):yU i t=true:=by
 cases t with
 | non=>unfold ReV at r;cases r
 | bl b=>unfold ReV at r;cases r
 | int j=>unfold ReV at r;obtain⟨t,e⟩:=r;injection e with e1 _;subst e1;simp[yU]
 | str x=>unfold ReV at r;obtain⟨t,e⟩:=r;cases e
 | tup l=>unfold ReV at r;obtain⟨a,its,e,_⟩:=r;cases e
 | lst l=>unfold ReV at r;obtain⟨a,its,e,_⟩:=r;cases e
 | scr l=>unfold ReV at r;obtain⟨a,its,e,_⟩:=r;cases e
 | dct _ _=>unfold ReV at r;exact r.elim
theorem lI {s:Shared}:∀{ns:List Int} {us:List Value} {l:List T},IntsAre us ns->ReVs s l us->iH ns l=true
 | [],us,l,h,r=>by
  cases h
  cases l with
  | nil=>rfl
  | cons t l=>obtain⟨_,_,e,_⟩:=ReVs.cons_iff.mp r;cases e
 | n::ns,us,l,h,r=>by
  cases h with
  | cons a b hh=>
   cases l with
   | nil=>have:=ReVs.nil_iff.mp r;cases this
   | cons t l=>
    obtain⟨u,ws,e,p,q⟩:=ReVs.cons_iff.mp r;injection e with e1 e2
    subst e1 e2;rw[iH,ut p,lI hh q];rfl
theorem dM {s:Shared}:∀{us:List Value} {ns:List Int},IntsAre us ns->ReVs s (ns.map T.int) us
 | _,_,.nil=>ReVs.nil_iff.mpr rfl
 | _,_,.cons n t h=>ReVs.cons_iff.mpr ⟨_,_,rfl,by unfold ReV;exact⟨_,rfl⟩,dM h⟩
theorem gU:∀{us:List Value} {ns ms:List Int},IntsAre us ns->IntsAre us ms->ns=ms
 | _,_,_,.nil,.nil=>rfl
 | _,_,_,.cons n t h,.cons _ _ h'=>by rw[gU h h']
mutual
theorem ReV.refl {s:Shared}:∀{t u:T} {v:Value},ReV s t v->ReV s u v->bO t u=true
 | .non,u,v,r,q=>by
  unfold ReV at r;subst r
  cases u <;> (unfold ReV at q) <;> first | rfl | (cases q;done) | (obtain⟨_,e⟩:=q;cases e;done) | (obtain⟨_,_,e,_⟩:=q;cases e;done)
 | .bl b,u,v,r,q=>by
  unfold ReV at r;subst r
  cases u <;> (unfold ReV at q) <;> first | (cases q;done) | (cases q;simp[bO];done) | (obtain⟨_,e⟩:=q;cases e;done) | (obtain⟨_,_,e,_⟩:=q;cases e;done)
 | .int b,u,v,r,q=>by
  unfold ReV at r;obtain⟨k,rfl⟩:=r
  cases u <;> (unfold ReV at q) <;> first | (cases q;done) | (obtain⟨_,e⟩:=q;cases e;simp[bO];done) | (obtain⟨_,e⟩:=q;cases e;done) | (obtain⟨_,_,e,_⟩:=q;cases e;done)
 | .str b,u,v,r,q=>by
  unfold ReV at r;obtain⟨k,rfl⟩:=r
  cases u <;> (unfold ReV at q) <;> first | (cases q;done) | (obtain⟨_,e⟩:=q;cases e;simp[bO];done) | (obtain⟨_,e⟩:=q;cases e;done) | (obtain⟨_,_,e,_⟩:=q;cases e;done)
 | .tup l,u,v,r,q=>by
  unfold ReV at r;obtain⟨a,its,rfl,h1,h2⟩:=r
  cases u with
  | non=>unfold ReV at q;cases q
  | dct _ _=>unfold ReV at q;exact q.elim
  | bl _=>unfold ReV at q;cases q
  | int _=>unfold ReV at q;obtain⟨_,e⟩:=q;cases e
  | str _=>unfold ReV at q;obtain⟨_,e⟩:=q;cases e
  | tup m=>
   unfold ReV at q;obtain⟨a',its',e,h1',h2'⟩:=q;injection e with e;subst e
   have:=gS h1 h1';subst this;unfold bO
   exact ReVs.refl h2 h2'
  | lst m=>unfold ReV at q;obtain⟨a',its',e,h1',h2'⟩:=q;injection e with e;subst e;exact absurd rfl (ne_of_list_tuple h1' h1)
  | scr m=>unfold ReV at q;obtain⟨a',its',e,h1',h2'⟩:=q;injection e with e;subst e;exact absurd rfl (ne_of_list_tuple h1' h1)
 | .lst l,u,v,r,q=>by
  unfold ReV at r;obtain⟨a,its,rfl,h1,h2⟩:=r
  cases u with
  | non=>unfold ReV at q;cases q
  | dct _ _=>unfold ReV at q;exact q.elim
  | bl _=>unfold ReV at q;cases q
  | int _=>unfold ReV at q;obtain⟨_,e⟩:=q;cases e
  | str _=>unfold ReV at q;obtain⟨_,e⟩:=q;cases e
  | lst m=>
   unfold ReV at q;obtain⟨a',its',e,h1',h2'⟩:=q;injection e with e;subst e
   have:=cw h1 h1';subst this;unfold bO
   exact ReVs.refl h2 h2'
  | tup m=>unfold ReV at q;obtain⟨a',its',e,h1',h2'⟩:=q;injection e with e;subst e;exact absurd rfl (ne_of_list_tuple h1 h1')
  | scr m=>
   unfold ReV at q;obtain⟨a',its',e,h1',h2'⟩:=q;injection e with e;subst e
   have:=cw h1 h1';subst this;unfold bO
   exact ReVs.refl h2 (dM h2')
 | .scr l,u,v,r,q=>by
  unfold ReV at r;obtain⟨a,its,rfl,h1,h2⟩:=r
  cases u with
  | non=>unfold ReV at q;cases q
  | dct _ _=>unfold ReV at q;exact q.elim
  | bl _=>unfold ReV at q;cases q
  | int _=>unfold ReV at q;obtain⟨_,e⟩:=q;cases e
  | str _=>unfold ReV at q;obtain⟨_,e⟩:=q;cases e
  | lst m=>
   unfold ReV at q;obtain⟨a',its',e,h1',h2'⟩:=q;injection e with e;subst e
   have:=cw h1 h1';subst this;unfold bO
   exact lI h2 h2'
  | tup m=>unfold ReV at q;obtain⟨a',its',e,h1',h2'⟩:=q;injection e with e;subst e;exact absurd rfl (ne_of_list_tuple h1 h1')
  | scr m=>
   unfold ReV at q;obtain⟨a',its',e,h1',h2'⟩:=q;injection e with e;subst e
   have:=cw h1 h1';subst this;unfold bO
   have:=gU h2 h2'
   simp[this]
 | .dct _ _,u,v,r,q=>by unfold ReV at r;exact r.elim
theorem ReVs.refl {s:Shared}:∀{l m:List T} {us:List Value},ReVs s l us->ReVs s m us->beqTs l m=true
 | [],m,us,r,q=>by
  cases ReVs.nil_iff.mp r
  cases m with
  | nil=>simp[beqTs]
  | cons _ _=>obtain⟨_,_,e,_⟩:=ReVs.cons_iff.mp q;cases e
 | t::l,m,us,r,q=>by
  obtain⟨v,ws,rfl,p,z⟩:=ReVs.cons_iff.mp r
  cases m with
  | nil=>cases ReVs.nil_iff.mp q
  | cons u m=>
   obtain⟨v',ws',e,p',z'⟩:=ReVs.cons_iff.mp q;injection e with e1 e2
   subst e1 e2;rw[beqTs,ReV.refl p p',ReVs.refl z z'];rfl
end
theorem qB:∀(l:List Int) (m:List T),iH l m=beqTs (l.map T.int) m
 | [],[] =>by simp[iH,beqTs]
 | [],_::_=>by simp[iH,beqTs]
 | _::_,[] =>by simp[iH,beqTs]
 | i::l,t::m=>by
  rw[iH,List.map_cons,beqTs,qB l m]
  congr 1
  cases t <;> simp[yU,bO]
theorem rP:∀(l m:List Int),(l == m)=beqTs (l.map T.int) (m.map T.int)
 | [],[] =>by simp[beqTs]
 | [],_::_=>by simp[beqTs]
 | _::_,[] =>by simp[beqTs]
 | i::l,t::m=>by
  rw[List.map_cons,List.map_cons,beqTs,<-rP l m];simp[bO]
theorem e9:∀(l:List Int),deps (l.map T.int)=0
 | [] =>rfl
 | i::l=>by rw[List.map_cons,deps,e9 l];simp[T.dep]
def hY:T->T->Prop
 | .tup _,.tup _=>False
 | .lst _,.lst _=>False
 | .lst _,.scr _=>False
 | .scr _,.lst _=>False
 | .scr _,.scr _=>False
 | _,_=>True
theorem qk (A:Around)(s:Shared)(x y:T)(u v:Value)(hn:hY x y)(hu:A.units<cLine)(rx:ReV s x u)(ry:ReV s y v):EqAt A s u v (bO x y)/\RcAt A s u v (bO x y)/\RcNeAt A s u v (!bO x y):=by
 match x,y,hn,rx,ry with
 | .dct _ _,_,_,rx,_=>exact(by unfold ReV at rx;exact rx:False).elim
 | _,.dct _ _,_,_,ry=>exact(by unfold ReV at ry;exact ry:False).elim
 | .non,.non,hn,rx,ry=>
  obtain rfl:u=Value.none:=by unfold ReV at rx;exact rx
  obtain rfl:v=Value.none:=by unfold ReV at ry;exact ry
  exact⟨EqAt.same _,RcAt.none_none ,RcNeAt.none_none ⟩
 | .non,.bl b2,hn,rx,ry=>
  obtain rfl:u=Value.none:=by unfold ReV at rx;exact rx
  obtain rfl:v=Value.bool b2:=by unfold ReV at ry;exact ry
  exact⟨EqAt.none_bool b2,RcAt.none_bool b2,RcNeAt.none_bool b2⟩
 | .non,.int i2,hn,rx,ry=>
  obtain rfl:u=Value.none:=by unfold ReV at rx;exact rx
  obtain⟨k2,rfl⟩:∃k,v=Value.int i2 k:=by unfold ReV at ry;exact ry
  exact⟨EqAt.none_int i2 k2,RcAt.none_int i2 k2,RcNeAt.none_int i2 k2⟩
 | .non,.str x2,hn,rx,ry=>
  obtain rfl:u=Value.none:=by unfold ReV at rx;exact rx
  obtain⟨k2,rfl⟩:∃k,v=Value.str x2 k:=by unfold ReV at ry;exact ry
  exact⟨EqAt.none_str x2 k2,RcAt.none_str x2 k2,RcNeAt.none_str x2 k2⟩
 | .non,.tup l2,hn,rx,ry=>
  obtain rfl:u=Value.none:=by unfold ReV at rx;exact rx
  unfold ReV at ry;obtain⟨a2,us2,rfl,h2,q2⟩:=ry
  exact⟨EqAt.none_tuple h2 hu,RcAt.none_tuple h2 hu,RcNeAt.none_tuple h2 hu⟩
 | .non,.lst l2,hn,rx,ry=>
  obtain rfl:u=Value.none:=by unfold ReV at rx;exact rx
  unfold ReV at ry;obtain⟨a2,us2,rfl,h2,q2⟩:=ry
  exact⟨EqAt.none_list h2 hu,RcAt.none_list h2 hu,RcNeAt.none_list h2 hu⟩
 | .non,.scr l2,hn,rx,ry=>
  obtain rfl:u=Value.none:=by unfold ReV at rx;exact rx
  unfold ReV at ry;obtain⟨a2,us2,rfl,h2,q2⟩:=ry
  exact⟨EqAt.none_list h2 hu,RcAt.none_list h2 hu,RcNeAt.none_list h2 hu⟩
 | .bl b1,.non,hn,rx,ry=>
  obtain rfl:u=Value.bool b1:=by unfold ReV at rx;exact rx
  obtain rfl:v=Value.none:=by unfold ReV at ry;exact ry
  exact⟨EqAt.bool_none b1,RcAt.bool_none b1,RcNeAt.bool_none b1⟩
 | .bl b1,.bl b2,hn,rx,ry=>
  obtain rfl:u=Value.bool b1:=by unfold ReV at rx;exact rx
  obtain rfl:v=Value.bool b2:=by unfold ReV at ry;exact ry
  exact⟨EqAt.bool_bool b1 b2,RcAt.bool_bool b1 b2,RcNeAt.bool_bool b1 b2⟩
 | .bl b1,.int i2,hn,rx,ry=>
  obtain rfl:u=Value.bool b1:=by unfold ReV at rx;exact rx
  obtain⟨k2,rfl⟩:∃k,v=Value.int i2 k:=by unfold ReV at ry;exact ry
  exact⟨EqAt.bool_int b1 i2 k2,RcAt.bool_int b1 i2 k2,RcNeAt.bool_int b1 i2 k2⟩
 | .bl b1,.str x2,hn,rx,ry=>
  obtain rfl:u=Value.bool b1:=by unfold ReV at rx;exact rx
  obtain⟨k2,rfl⟩:∃k,v=Value.str x2 k:=by unfold ReV at ry;exact ry
  exact⟨EqAt.bool_str b1 x2 k2,RcAt.bool_str b1 x2 k2,RcNeAt.bool_str b1 x2 k2⟩
 | .bl b1,.tup l2,hn,rx,ry=>
  obtain rfl:u=Value.bool b1:=by unfold ReV at rx;exact rx
  unfold ReV at ry;obtain⟨a2,us2,rfl,h2,q2⟩:=ry
  exact⟨EqAt.bool_tuple b1 h2 hu,RcAt.bool_tuple b1 h2 hu,RcNeAt.bool_tuple b1 h2 hu⟩
 | .bl b1,.lst l2,hn,rx,ry=>
  obtain rfl:u=Value.bool b1:=by unfold ReV at rx;exact rx
  unfold ReV at ry;obtain⟨a2,us2,rfl,h2,q2⟩:=ry
  exact⟨EqAt.bool_list b1 h2 hu,RcAt.bool_list b1 h2 hu,RcNeAt.bool_list b1 h2 hu⟩
 | .bl b1,.scr l2,hn,rx,ry=>
  obtain rfl:u=Value.bool b1:=by unfold ReV at rx;exact rx
  unfold ReV at ry;obtain⟨a2,us2,rfl,h2,q2⟩:=ry
  exact⟨EqAt.bool_list b1 h2 hu,RcAt.bool_list b1 h2 hu,RcNeAt.bool_list b1 h2 hu⟩
 | .int i1,.non,hn,rx,ry=>
  obtain⟨k1,rfl⟩:∃k,u=Value.int i1 k:=by unfold ReV at rx;exact rx
  obtain rfl:v=Value.none:=by unfold ReV at ry;exact ry
  exact⟨EqAt.int_none i1 k1,RcAt.int_none i1 k1,RcNeAt.int_none i1 k1⟩
 | .int i1,.bl b2,hn,rx,ry=>
  obtain⟨k1,rfl⟩:∃k,u=Value.int i1 k:=by unfold ReV at rx;exact rx
  obtain rfl:v=Value.bool b2:=by unfold ReV at ry;exact ry
  exact⟨EqAt.int_bool i1 k1 b2,RcAt.int_bool i1 k1 b2,RcNeAt.int_bool i1 k1 b2⟩
 | .int i1,.int i2,hn,rx,ry=>
  obtain⟨k1,rfl⟩:∃k,u=Value.int i1 k:=by unfold ReV at rx;exact rx
  obtain⟨k2,rfl⟩:∃k,v=Value.int i2 k:=by unfold ReV at ry;exact ry
  exact⟨EqAt.int_int i1 k1 i2 k2,RcAt.int_int i1 k1 i2 k2,RcNeAt.int_int i1 k1 i2 k2⟩
 | .int i1,.str x2,hn,rx,ry=>
  obtain⟨k1,rfl⟩:∃k,u=Value.int i1 k:=by unfold ReV at rx;exact rx
  obtain⟨k2,rfl⟩:∃k,v=Value.str x2 k:=by unfold ReV at ry;exact ry
  exact⟨EqAt.int_str i1 k1 x2 k2,RcAt.int_str i1 k1 x2 k2,RcNeAt.int_str i1 k1 x2 k2⟩
 | .int i1,.tup l2,hn,rx,ry=>
  obtain⟨k1,rfl⟩:∃k,u=Value.int i1 k:=by unfold ReV at rx;exact rx
  unfold ReV at ry;obtain⟨a2,us2,rfl,h2,q2⟩:=ry
  exact⟨EqAt.int_tuple i1 k1 h2 hu,RcAt.int_tuple i1 k1 h2 hu,RcNeAt.int_tuple i1 k1 h2 hu⟩
 | .int i1,.lst l2,hn,rx,ry=>
  obtain⟨k1,rfl⟩:∃k,u=Value.int i1 k:=by unfold ReV at rx;exact rx
  unfold ReV at ry;obtain⟨a2,us2,rfl,h2,q2⟩:=ry
  exact⟨EqAt.int_list i1 k1 h2 hu,RcAt.int_list i1 k1 h2 hu,RcNeAt.int_list i1 k1 h2 hu⟩
 | .int i1,.scr l2,hn,rx,ry=>
  obtain⟨k1,rfl⟩:∃k,u=Value.int i1 k:=by unfold ReV at rx;exact rx
  unfold ReV at ry;obtain⟨a2,us2,rfl,h2,q2⟩:=ry
  exact⟨EqAt.int_list i1 k1 h2 hu,RcAt.int_list i1 k1 h2 hu,RcNeAt.int_list i1 k1 h2 hu⟩
 | .str x1,.non,hn,rx,ry=>
  obtain⟨k1,rfl⟩:∃k,u=Value.str x1 k:=by unfold ReV at rx;exact rx
  obtain rfl:v=Value.none:=by unfold ReV at ry;exact ry
  exact⟨EqAt.str_none x1 k1,RcAt.str_none x1 k1,RcNeAt.str_none x1 k1⟩
 | .str x1,.bl b2,hn,rx,ry=>
  obtain⟨k1,rfl⟩:∃k,u=Value.str x1 k:=by unfold ReV at rx;exact rx
  obtain rfl:v=Value.bool b2:=by unfold ReV at ry;exact ry
  exact⟨EqAt.str_bool x1 k1 b2,RcAt.str_bool x1 k1 b2,RcNeAt.str_bool x1 k1 b2⟩
 | .str x1,.int i2,hn,rx,ry=>
  obtain⟨k1,rfl⟩:∃k,u=Value.str x1 k:=by unfold ReV at rx;exact rx
  obtain⟨k2,rfl⟩:∃k,v=Value.int i2 k:=by unfold ReV at ry;exact ry
  exact⟨EqAt.str_int x1 k1 i2 k2,RcAt.str_int x1 k1 i2 k2,RcNeAt.str_int x1 k1 i2 k2⟩
 | .str x1,.str x2,hn,rx,ry=>
  obtain⟨k1,rfl⟩:∃k,u=Value.str x1 k:=by unfold ReV at rx;exact rx
  obtain⟨k2,rfl⟩:∃k,v=Value.str x2 k:=by unfold ReV at ry;exact ry
  exact⟨EqAt.str_str x1 k1 x2 k2,RcAt.str_str x1 k1 x2 k2,RcNeAt.str_str x1 k1 x2 k2⟩
 | .str x1,.tup l2,hn,rx,ry=>
  obtain⟨k1,rfl⟩:∃k,u=Value.str x1 k:=by unfold ReV at rx;exact rx
  unfold ReV at ry;obtain⟨a2,us2,rfl,h2,q2⟩:=ry
  exact⟨EqAt.str_tuple x1 k1 h2 hu,RcAt.str_tuple x1 k1 h2 hu,RcNeAt.str_tuple x1 k1 h2 hu⟩
 | .str x1,.lst l2,hn,rx,ry=>
  obtain⟨k1,rfl⟩:∃k,u=Value.str x1 k:=by unfold ReV at rx;exact rx
  unfold ReV at ry;obtain⟨a2,us2,rfl,h2,q2⟩:=ry
  exact⟨EqAt.str_list x1 k1 h2 hu,RcAt.str_list x1 k1 h2 hu,RcNeAt.str_list x1 k1 h2 hu⟩
 | .str x1,.scr l2,hn,rx,ry=>
  obtain⟨k1,rfl⟩:∃k,u=Value.str x1 k:=by unfold ReV at rx;exact rx
  unfold ReV at ry;obtain⟨a2,us2,rfl,h2,q2⟩:=ry
  exact⟨EqAt.str_list x1 k1 h2 hu,RcAt.str_list x1 k1 h2 hu,RcNeAt.str_list x1 k1 h2 hu⟩
 | .tup l1,.non,hn,rx,ry=>
  unfold ReV at rx;obtain⟨a1,us1,rfl,h1,q1⟩:=rx;obtain rfl:v=Value.none:=by unfold ReV at ry;exact ry
  exact⟨EqAt.tuple_none h1 hu,RcAt.tuple_none h1 hu,RcNeAt.tuple_none h1 hu⟩
 | .tup l1,.bl b2,hn,rx,ry=>
  unfold ReV at rx;obtain⟨a1,us1,rfl,h1,q1⟩:=rx;obtain rfl:v=Value.bool b2:=by unfold ReV at ry;exact ry
  exact⟨EqAt.tuple_bool b2 h1 hu,RcAt.tuple_bool b2 h1 hu,RcNeAt.tuple_bool b2 h1 hu⟩
 | .tup l1,.int i2,hn,rx,ry=>
  unfold ReV at rx;obtain⟨a1,us1,rfl,h1,q1⟩:=rx;obtain⟨k2,rfl⟩:∃k,v=Value.int i2 k:=by unfold ReV at ry;exact ry
  exact⟨EqAt.tuple_int i2 k2 h1 hu,RcAt.tuple_int i2 k2 h1 hu,RcNeAt.tuple_int i2 k2 h1 hu⟩
 | .tup l1,.str x2,hn,rx,ry=>
  unfold ReV at rx;obtain⟨a1,us1,rfl,h1,q1⟩:=rx;obtain⟨k2,rfl⟩:∃k,v=Value.str x2 k:=by unfold ReV at ry;exact ry
  exact⟨EqAt.tuple_str x2 k2 h1 hu,RcAt.tuple_str x2 k2 h1 hu,RcNeAt.tuple_str x2 k2 h1 hu⟩
 | .tup _,.tup _,hn,_,_=>exact hn.elim
 | .tup l1,.lst l2,hn,rx,ry=>
  unfold ReV at rx;obtain⟨a1,us1,rfl,h1,q1⟩:=rx;unfold ReV at ry;obtain⟨a2,us2,rfl,h2,q2⟩:=ry
  exact⟨EqAt.tuple_list h1 h2 hu,RcAt.tuple_list h1 h2 hu,RcNeAt.tuple_list h1 h2 hu⟩
 | .tup l1,.scr l2,hn,rx,ry=>
  unfold ReV at rx;obtain⟨a1,us1,rfl,h1,q1⟩:=rx;unfold ReV at ry;obtain⟨a2,us2,rfl,h2,q2⟩:=ry
  exact⟨EqAt.tuple_list h1 h2 hu,RcAt.tuple_list h1 h2 hu,RcNeAt.tuple_list h1 h2 hu⟩
 | .lst l1,.non,hn,rx,ry=>
  unfold ReV at rx;obtain⟨a1,us1,rfl,h1,q1⟩:=rx;obtain rfl:v=Value.none:=by unfold ReV at ry;exact ry
  exact⟨EqAt.list_none h1 hu,RcAt.list_none h1 hu,RcNeAt.list_none h1 hu⟩
 | .lst l1,.bl b2,hn,rx,ry=>
  unfold ReV at rx;obtain⟨a1,us1,rfl,h1,q1⟩:=rx;obtain rfl:v=Value.bool b2:=by unfold ReV at ry;exact ry
  exact⟨EqAt.list_bool b2 h1 hu,RcAt.list_bool b2 h1 hu,RcNeAt.list_bool b2 h1 hu⟩
 | .lst l1,.int i2,hn,rx,ry=>
  unfold ReV at rx;obtain⟨a1,us1,rfl,h1,q1⟩:=rx;obtain⟨k2,rfl⟩:∃k,v=Value.int i2 k:=by unfold ReV at ry;exact ry
  exact⟨EqAt.list_int i2 k2 h1 hu,RcAt.list_int i2 k2 h1 hu,RcNeAt.list_int i2 k2 h1 hu⟩
 | .lst l1,.str x2,hn,rx,ry=>
  unfold ReV at rx;obtain⟨a1,us1,rfl,h1,q1⟩:=rx;obtain⟨k2,rfl⟩:∃k,v=Value.str x2 k:=by unfold ReV at ry;exact ry
  exact⟨EqAt.list_str x2 k2 h1 hu,RcAt.list_str x2 k2 h1 hu,RcNeAt.list_str x2 k2 h1 hu⟩
 | .lst l1,.tup l2,hn,rx,ry=>
  unfold ReV at rx;obtain⟨a1,us1,rfl,h1,q1⟩:=rx;unfold ReV at ry;obtain⟨a2,us2,rfl,h2,q2⟩:=ry
  exact⟨EqAt.list_tuple h1 h2 hu,RcAt.list_tuple h1 h2 hu,RcNeAt.list_tuple h1 h2 hu⟩
 | .lst _,.lst _,hn,_,_=>exact hn.elim
 | .lst _,.scr _,hn,_,_=>exact hn.elim
 | .scr l1,.non,hn,rx,ry=>
  unfold ReV at rx;obtain⟨a1,us1,rfl,h1,q1⟩:=rx;obtain rfl:v=Value.none:=by unfold ReV at ry;exact ry
  exact⟨EqAt.list_none h1 hu,RcAt.list_none h1 hu,RcNeAt.list_none h1 hu⟩
 | .scr l1,.bl b2,hn,rx,ry=>
  unfold ReV at rx;obtain⟨a1,us1,rfl,h1,q1⟩:=rx;obtain rfl:v=Value.bool b2:=by unfold ReV at ry;exact ry
  exact⟨EqAt.list_bool b2 h1 hu,RcAt.list_bool b2 h1 hu,RcNeAt.list_bool b2 h1 hu⟩
 | .scr l1,.int i2,hn,rx,ry=>
  unfold ReV at rx;obtain⟨a1,us1,rfl,h1,q1⟩:=rx;obtain⟨k2,rfl⟩:∃k,v=Value.int i2 k:=by unfold ReV at ry;exact ry
  exact⟨EqAt.list_int i2 k2 h1 hu,RcAt.list_int i2 k2 h1 hu,RcNeAt.list_int i2 k2 h1 hu⟩
 | .scr l1,.str x2,hn,rx,ry=>
  unfold ReV at rx;obtain⟨a1,us1,rfl,h1,q1⟩:=rx;obtain⟨k2,rfl⟩:∃k,v=Value.str x2 k:=by unfold ReV at ry;exact ry
  exact⟨EqAt.list_str x2 k2 h1 hu,RcAt.list_str x2 k2 h1 hu,RcNeAt.list_str x2 k2 h1 hu⟩
 | .scr l1,.tup l2,hn,rx,ry=>
  unfold ReV at rx;obtain⟨a1,us1,rfl,h1,q1⟩:=rx;unfold ReV at ry;obtain⟨a2,us2,rfl,h2,q2⟩:=ry
  exact⟨EqAt.list_tuple h1 h2 hu,RcAt.list_tuple h1 h2 hu,RcNeAt.list_tuple h1 h2 hu⟩
 | .scr _,.lst _,hn,_,_=>exact hn.elim
 | .scr _,.scr _,hn,_,_=>exact hn.elim
theorem C5:∀(n:Nat) (A:Around) (s:Shared) (x y:T) (u v:Value),(x.dep<=n\/y.dep<=n)->A.units+n<cLine->ReV s x u->ReV s y v->EqAt A s u v (bO x y)/\RcAt A s u v (bO x y)/\RcNeAt A s u v (!bO x y):=by
 intro n
 induction n with
 | zero=>
  intro A s x y u v hd hu rx ry
  exact qk A s x y u v (by cases x <;> cases y <;> simp_all [hY,T.dep]) (by omega) rx ry
 | succ n ih=>
  intro A s x y u v hd hu rx ry
  have hin:A.in1.units+n<cLine:=by show A.units+1+n<cLine;omega
  have items:∀(l m:List T) (us vs:List Value),(deps l<=n\/deps m<=n)->ReVs s l us->ReVs s m vs->∃e:Nat->Bool,(∀j (h1:j<us.toArray.size) (h2:j<vs.toArray.size),EqAt A.in1 s us.toArray[j] vs.toArray[j] (e j)) ∧
    (∀(j:Nat) t u,l[j]? =some t->m[j]? =some u->e j=bO t u):=λl m us vs hd r1 r2=>by
   refine⟨λj=>bO (l.getD j .non) (m.getD j .non),λj h1 h2=> ?_,λj t u e1 e2=>by simp[List.getD,e1,e2]⟩
   have l1:=r1.length
   have l2:=r2.length
   have h1':j<l.length:=by rw[l1];simpa using h1
   have h2':j<m.length:=by rw[l2];simpa using h2
   have e1:l[j]? =some l[j]:=by simp
   have e2:m[j]? =some m[j]:=by simp
   obtain⟨u1,z1,w1⟩:=r1.get e1;obtain⟨u2,z2,w2⟩:=r2.get e2
   have q1:us.toArray[j] =u1:=by
    have:us[j]? =some us.toArray[j]:=by simp
    rw[z1]at this;exact(Option.some.inj this).symm
   have q2:vs.toArray[j] =u2:=by
    have:vs[j]? =some vs.toArray[j]:=by simp
    rw[z2]at this;exact(Option.some.inj this).symm
   rw[q1,q2]
   have g1:l.getD j .non=l[j]:=by simp[List.getD,e1]
   have g2:m.getD j .non=m[j]:=by simp[List.getD,e2]
   show EqAt A.in1 s u1 u2 (bO (l.getD j .non) (m.getD j .non))
   rw[g1,g2];refine(ih A.in1 s l[j] m[j] u1 u2 ?_ hin w1 w2).1
   rcases hd with hd | hd
   ·exact .inl (Nat.le_trans (lC e1) hd)
   ·exact .inr (Nat.le_trans (lC e2) hd)
  have lists:∀(l m:List T) (a b:Addr) (us vs:List Value),(deps l<=n\/deps m<=n)->ReVs s l us->ReVs s m vs->s.heap.IsList a us.toArray->s.heap.IsList b vs.toArray →
    EqAt A s (.ref a) (.ref b) (beqTs l m)/\RcAt A s (.ref a) (.ref b) (beqTs l m)/\RcNeAt A s (.ref a) (.ref b) (!beqTs l m):=λl m a b us vs hd r1 r2 h1 h2=>by
   have l1:=r1.length
   have l2:=r2.length
   have key:RcAt A s (.ref a) (.ref b) (beqTs l m)/\RcNeAt A s (.ref a) (.ref b) (!beqTs l m):=by
    by_cases hl:l.length=m.length
    ·obtain⟨e,he,hb⟩:=items l m us vs hd r1 r2
     have q:=jG l m e hb
     have q2:beqTs l m=(List.range us.toArray.size).all e:=by
      rw[q,hl,Nat.min_self];simp[l2.symm,hl.symm,l1]
     rw[q2]
     have hsz:us.toArray.size=vs.toArray.size:=by simp;omega
     exact⟨RcAt.lists h1 h2 hsz (by omega) he,RcNeAt.lists h1 h2 hsz (by omega) he⟩
    ·rw[nh hl]
     have hsz:(us.toArray.size != vs.toArray.size)=true:=by simp;omega
     exact⟨RcAt.lists_lengths h1 h2 hsz (by omega),RcNeAt.lists_lengths h1 h2 hsz (by omega)⟩
   refine⟨?_,key⟩
   by_cases hab:a=b
   ·subst hab
    have:=cw h1 h2;subst this;rw[ReVs.refl r1 r2];exact EqAt.same _
   ·exact EqAt.of_refs hab key.1
  cases x with
  | tup l=>
   cases y with
   | tup m=>
    unfold ReV at rx ry;obtain⟨a,us,rfl,h1,r1⟩:=rx;obtain⟨b,vs,rfl,h2,r2⟩:=ry
    have hd':deps l<=n\/deps m<=n:=by
     simp only[T.dep]at hd;omega
    have l1:=r1.length
    have l2:=r2.length;obtain⟨e,he,hb⟩:=items l m us vs hd' r1 r2
    have q:=jG l m e hb
    have q2:beqTs l m=((List.range (min us.toArray.size vs.toArray.size)).all e&&us.toArray.size == vs.toArray.size):=by
     rw[q];simp[l1,l2]
    have key:RcAt A s (.ref a) (.ref b) (beqTs l m)/\RcNeAt A s (.ref a) (.ref b) (!beqTs l m):=by
     rw[q2];exact⟨RcAt.tuples h1 h2 (by omega) he,RcNeAt.tuples h1 h2 (by omega) he⟩
    unfold bO;refine⟨?_,key⟩
    by_cases hab:a=b
    ·subst hab
     have:=gS h1 h2;subst this;rw[ReVs.refl r1 r2];exact EqAt.same _
    ·exact EqAt.of_refs hab key.1
   | _=>exact qk A s _ _ u v (by simp[hY]) (by omega) rx ry
  | lst l=>
   cases y with
   | lst m=>
    unfold ReV at rx ry;obtain⟨a,us,rfl,h1,r1⟩:=rx;obtain⟨b,vs,rfl,h2,r2⟩:=ry;unfold bO
    exact lists l m a b us vs (by simp only[T.dep]at hd;omega) r1 r2 h1 h2
   | scr m=>
    unfold ReV at rx ry;obtain⟨a,us,rfl,h1,r1⟩:=rx;obtain⟨b,vs,rfl,h2,r2⟩:=ry;unfold bO
    exact lists l (m.map T.int) a b us vs (by rw[e9];omega) r1 (dM r2) h1 h2
   | _=>exact qk A s _ _ u v (by simp[hY]) (by omega) rx ry
  | scr l=>
   cases y with
   | lst m=>
    unfold ReV at rx ry;obtain⟨a,us,rfl,h1,r1⟩:=rx;obtain⟨b,vs,rfl,h2,r2⟩:=ry;unfold bO;rw[qB]
    exact lists (l.map T.int) m a b us vs (by rw[e9];omega) (dM r1) r2 h1 h2
   | scr m=>
    unfold ReV at rx ry;obtain⟨a,us,rfl,h1,r1⟩:=rx;obtain⟨b,vs,rfl,h2,r2⟩:=ry;unfold bO;rw[rP]
    exact lists (l.map T.int) (m.map T.int) a b us vs (by rw[e9];omega) (dM r1) (dM r2) h1 h2
   | _=>exact qk A s _ _ u v (by simp[hY]) (by omega) rx ry
  | _=>exact qk A s _ _ u v (by simp[hY]) (by omega) rx ry
mutual
def T.nf:T->T
 | .tup l=> .tup (nfs l)
 | .lst l=> .lst (nfs l)
 | .scr l=> .lst (l.map .int)
 | .non=> .non
 | .bl b=> .bl b
 | .int b=> .int b
 | .str b=> .str b
 | .dct a b=> .dct a b
def nfs:List T->List T
 | [] => []
 | t::l=>t.nf::nfs l
end
theorem pT:∀(l:List Int),nfs (l.map T.int)=l.map T.int
 | [] =>rfl
 | i::l=>by rw[List.map_cons,nfs,pT l];simp[T.nf]
theorem Bk {s:Shared}{t:T}{i:Int}{k:Tok}(r:ReV s t (.int i k)):t.nf= .int i:=by
 cases t with
 | non=>unfold ReV at r;cases r
 | bl b=>unfold ReV at r;cases r
 | int j=>unfold ReV at r;obtain⟨t,e⟩:=r;injection e with e1 _;subst e1;rfl
 | str x=>unfold ReV at r;obtain⟨t,e⟩:=r;cases e
 | tup l=>unfold ReV at r;obtain⟨a,its,e,_⟩:=r;cases e
 | lst l=>unfold ReV at r;obtain⟨a,its,e,_⟩:=r;cases e
 | scr l=>unfold ReV at r;obtain⟨a,its,e,_⟩:=r;cases e
 | dct _ _=>unfold ReV at r;exact r.elim
theorem sG {s:Shared}:∀{l:List T} {us:List Value} {ns:List Int},ReVs s l us->IntsAre us ns->nfs l=ns.map T.int
 | [],us,ns,r,h=>by cases ReVs.nil_iff.mp r;cases h;rfl
 | t::l,us,ns,r,h=>by
  obtain⟨u,ws,rfl,p,q⟩:=ReVs.cons_iff.mp r
  cases h with
  | cons a b hh=>rw[nfs,Bk p,sG q hh];rfl
mutual
theorem ReV.nf {s:Shared}:∀{t u:T} {v:Value},ReV s t v->ReV s u v->t.nf=u.nf
 | .non,u,v,r,q=>by
  unfold ReV at r;subst r
  cases u <;> (unfold ReV at q) <;> first | rfl | (cases q;done) | (obtain⟨_,e⟩:=q;cases e;done) | (obtain⟨_,_,e,_⟩:=q;cases e;done)
 | .bl b,u,v,r,q=>by
  unfold ReV at r;subst r
  cases u <;> (unfold ReV at q) <;> first | (cases q;done) | (cases q;rfl) | (obtain⟨_,e⟩:=q;cases e;done) | (obtain⟨_,_,e,_⟩:=q;cases e;done)
 | .int b,u,v,r,q=>by
  unfold ReV at r;obtain⟨k,rfl⟩:=r
  cases u <;> (unfold ReV at q) <;> first | (cases q;done) | (obtain⟨_,e⟩:=q;cases e;done) | (obtain⟨_,e⟩:=q;cases e;rfl) | (obtain⟨_,_,e,_⟩:=q;cases e;done)
 | .str b,u,v,r,q=>by
  unfold ReV at r;obtain⟨k,rfl⟩:=r
  cases u <;> (unfold ReV at q) <;> first | (cases q;done) | (obtain⟨_,e⟩:=q;cases e;done) | (obtain⟨_,e⟩:=q;cases e;rfl) | (obtain⟨_,_,e,_⟩:=q;cases e;done)
 | .tup l,u,v,r,q=>by
  unfold ReV at r;obtain⟨a,its,rfl,h1,h2⟩:=r
  cases u with
  | non=>unfold ReV at q;cases q
  | dct _ _=>unfold ReV at q;exact q.elim
  | bl _=>unfold ReV at q;cases q
  | int _=>unfold ReV at q;obtain⟨_,e⟩:=q;cases e
  | str _=>unfold ReV at q;obtain⟨_,e⟩:=q;cases e
  | tup m=>
   unfold ReV at q;obtain⟨a',its',e,h1',h2'⟩:=q;injection e with e;subst e
   have:=gS h1 h1';subst this;unfold T.nf
   rw[ReVs.nf h2 h2']
  | lst m=>unfold ReV at q;obtain⟨a',its',e,h1',h2'⟩:=q;injection e with e;subst e;exact absurd rfl (ne_of_list_tuple h1' h1)
  | scr m=>unfold ReV at q;obtain⟨a',its',e,h1',h2'⟩:=q;injection e with e;subst e;exact absurd rfl (ne_of_list_tuple h1' h1)
 | .lst l,u,v,r,q=>by
  unfold ReV at r;obtain⟨a,its,rfl,h1,h2⟩:=r
  cases u with
  | non=>unfold ReV at q;cases q
  | dct _ _=>unfold ReV at q;exact q.elim
  | bl _=>unfold ReV at q;cases q
  | int _=>unfold ReV at q;obtain⟨_,e⟩:=q;cases e
  | str _=>unfold ReV at q;obtain⟨_,e⟩:=q;cases e
  | lst m=>
   unfold ReV at q;obtain⟨a',its',e,h1',h2'⟩:=q;injection e with e;subst e
   have:=cw h1 h1';subst this;unfold T.nf
   rw[ReVs.nf h2 h2']
  | tup m=>unfold ReV at q;obtain⟨a',its',e,h1',h2'⟩:=q;injection e with e;subst e;exact absurd rfl (ne_of_list_tuple h1 h1')
  | scr m=>
   unfold ReV at q;obtain⟨a',its',e,h1',h2'⟩:=q;injection e with e;subst e
   have:=cw h1 h1';subst this;unfold T.nf
   rw[ReVs.nf h2 (dM h2'),pT]
 | .scr l,u,v,r,q=>by
  unfold ReV at r;obtain⟨a,its,rfl,h1,h2⟩:=r
  cases u with
  | non=>unfold ReV at q;cases q
  | dct _ _=>unfold ReV at q;exact q.elim
  | bl _=>unfold ReV at q;cases q
  | int _=>unfold ReV at q;obtain⟨_,e⟩:=q;cases e
  | str _=>unfold ReV at q;obtain⟨_,e⟩:=q;cases e
  | lst m=>
   unfold ReV at q;obtain⟨a',its',e,h1',h2'⟩:=q;injection e with e;subst e
   have:=cw h1 h1';subst this
   have z:=sG h2' h2;unfold T.nf
   rw[z]
  | tup m=>unfold ReV at q;obtain⟨a',its',e,h1',h2'⟩:=q;injection e with e;subst e;exact absurd rfl (ne_of_list_tuple h1 h1')
  | scr m=>
   unfold ReV at q;obtain⟨a',its',e,h1',h2'⟩:=q;injection e with e;subst e
   have:=cw h1 h1';subst this
   rw[gU h2 h2']
 | .dct _ _,u,v,r,q=>by unfold ReV at r;exact r.elim
theorem ReVs.nf {s:Shared}:∀{l m:List T} {us:List Value},ReVs s l us->ReVs s m us->nfs l=nfs m
 | [],m,us,r,q=>by
  cases ReVs.nil_iff.mp r
  cases m with
  | nil=>rfl
  | cons _ _=>obtain⟨_,_,e,_⟩:=ReVs.cons_iff.mp q;cases e
 | t::l,m,us,r,q=>by
  obtain⟨v,ws,rfl,p,z⟩:=ReVs.cons_iff.mp r
  cases m with
  | nil=>cases ReVs.nil_iff.mp q
  | cons u m=>
   obtain⟨v',ws',e,p',z'⟩:=ReVs.cons_iff.mp q;injection e with e1 e2
   subst e1 e2;rw[nfs,nfs,ReV.nf p p',ReVs.nf z z']
end
section
variable {X:Cx}{a b c:Expr}{fa fb fc:En->Rs T}{pos:Pos}
def fD (x y:T):Bool:=(decide (x.dep<=60)||decide (y.dep<=60))&&(x.nd&&y.nd)
def lR (x y:T):Rs T:=if fD x y=true then .ok (.bl (bO x y))else .bad
def hZ (x y:T):Rs T:=if fD x y=true then .ok (.bl (!bO x y))else .bad
theorem gW {x y:T}(h:x.dep<=60)(hx:x.nd=true)(hy:y.nd=true):fD x y=true:=by unfold fD;rw[decide_eq_true h,hx,hy];rfl
theorem lw {x y:T}(h:y.dep<=60)(hx:x.nd=true)(hy:y.nd=true):fD x y=true:=by unfold fD;rw[decide_eq_true h,hx,hy,Bool.or_true];rfl
theorem ip {x y:T}(h:fD x y=true):x.nd=true/\y.nd=true:=by
 unfold fD at h;exact Bool.and_eq_true_iff.mp (Bool.and_eq_true_iff.mp h).2
theorem mU {x y:T}(h:fD x y=true):x.dep<=60\/y.dep<=60:=by
 unfold fD at h
 replace h:=(Bool.and_eq_true_iff.mp h).1
 rcases Bool.or_eq_true_iff.mp h with h | h
 ·exact .inl (of_decide_eq_true h)
 ·exact .inr (of_decide_eq_true h)
theorem mF (hu:X.A.units+60<cLine):OpT X (compareOp .Eq) lR:=by
 intro pins s σ H O x y vx vy ux uy Q I hf rx ry r1 r2 hp;unfold lR at hp
 split at hp
 ·rename_i h
  have z:=C5 60 X.A s x y ux uy (mU h) hu (Rep.val I (ip h).1 rx r1) (Rep.val I (ip h).2 ry r2);exact z.2.1 _ _ _ _ ⟨.bl _,H,I,rfl,hp H (Same.refl H) _ (Rep.bl_ _)⟩
 ·exact hp.elim
theorem iC (hu:X.A.units+60<cLine):OpT X (compareOp .NotEq) hZ:=by
 intro pins s σ H O x y vx vy ux uy Q I hf rx ry r1 r2 hp;unfold hZ at hp
 split at hp
 ·rename_i h
  have z:=C5 60 X.A s x y ux uy (mU h) hu (Rep.val I (ip h).1 rx r1) (Rep.val I (ip h).2 ry r2);exact z.2.2 _ _ _ _ ⟨.bl _,H,I,rfl,hp H (Same.refl H) _ (Rep.bl_ _)⟩
 ·exact hp.elim
def T.items:T->Option (List T)
 | .tup l=>some l
 | .lst l=>some l
 | .scr l=>some (l.map T.int)
 | _=>none
def ch (g g':T->T->Rs T)(fa fb fc:En->Rs T)(Z:En):Rs T:=do
 let x <-fa Z
 let y <-fb Z
 let z <-g x y
 match z with
 | .bl true=>do
  let w <-fc Z
  g' y w
 | .bl false=> .ok (.bl false)
 | _=> .bad
theorem xU {op op':CmpOp}{g g':T->T->Rs T}(ho:OpT X (compareOp op) g)(ho':OpT X (compareOp op') g')(ha:cq X a fa)(hb:cq X b fb)(hc:cq X c fc)
  (hm:lastMarks [op,op'] [b,c] =false:=by with_unfolding_all rfl):cq X (.Compare a [op,op'] [b,c] pos) (ch g g' fa fb fc):=by
 intro pins s σ H Q I ⟨Z,O,E,hq⟩
 have h1:=bc E hq;refine Compare_chain (bS (ha pins s σ H _ I h1) λv s1 ⟨x,H1,I1,r1,t,rt,s',E',q1⟩=>chain_link ?_) hm
 have h2:=bc (f:=fb) E' q1;refine bS (hb pins s1 σ H1 _ I1 h2) λu s2 hh_=> ?_
 obtain⟨y,H2,I2,r2,t2,rt2,s'',E'',q2⟩:=hh_
 refine bS (ho pins s2 σ H2 O t t2 x y v u (λv' H'=> ∃t',Rep X.K O H' t' v'/\Same H2 H'/\Post X H' (match t' with
  | .bl true=>fc Z >>= λw=>g' t2 w
  | .bl false=> .ok (.bl false)
  | _=> .bad) (λt H'=> ∀v,Rep X.K O H' t v->Q v H')) I2 (λp=>E''.fresh) (rt.same s'') rt2 r1 r2 (Post.mono q2.bind λt' H' s3 q v rv=>⟨t',rv,s3,q⟩)) λd s3 ⟨z,H3,I3,r3,t3,rt3,sm3,q3⟩=> ?_
 have E3:=E''.same sm3
 split at q3
 ·cases Rep.bl_iff.mp rt3
  cases r3;refine wpAny_truthy_bool (ite_tt (chain_last ?_))
  have h4:=bc (f:=fc) E3 q3;refine bS (hc pins s3 σ H3 _ I3 h4) λw' s4 ⟨z',H4,I4,r4,t4,rt4,s4',E4,q4⟩=> ?_
  exact ho' pins s4 σ H4 O t2 t4 y z' u w' Q I4 (λp=>E4.fresh) ((rt2.same sm3).same s4') rt4 r2 r4 q4
 ·cases Rep.bl_iff.mp rt3
  cases r3;refine wpAny_truthy_bool (ite_ff ⟨.bl false,H3,I3,rfl,q3 H3 (Same.refl H3) _ (Rep.bl_ false)⟩)
 ·exact q3.elim
def tb (f:En->Rs T)(Z:En):Rs Bool:=do
 let x <-f Z
 match x with
 | .bl k=> .ok k
 | _=> .bad
theorem Aj {e:Expr}{f:En->Rs T}(h:cq X e f)(he:∀whole,isTrue e X.env whole=(do let v <-whole;standAt e.pos;holding [v] (truthy v)):=by intro _;rfl):uv X e (tb f):=by
 intro pins s σ H Q I ⟨Z,O,E,hq⟩;refine vd h he pins s σ H Q I ?_
 obtain⟨Z1,O1,E1,h1⟩:=bc E hq;refine⟨Z1,O1,E1,Post.mono h1 λts H1 s1 q vs r=> ?_⟩
 obtain⟨t',r',s',E',q'⟩:=q vs r
 split at q'
 ·exact⟨_,Rep.bl_iff.mp r',q' H1 (Same.refl H1)⟩
 ·exact q'.elim
theorem Al {op:CmpOp}{g:T->T->Rs T}(ho:OpT X (compareOp op) g)(ha:cq X a fa)(hb:cq X b fb)(hm:behindInMarks op b=false:=by rfl):uv X (.Compare a [op] [b] pos) (tb (o2 g fa fb)):=by
 intro pins s σ H Q I ⟨Z,O,E,hq⟩
 have hq':Post X H (o2 g fa fb Z) λt H'=> ∀v,Rep X.K O H' t v->∃k,v= .bl k/\Q k H':=Post.mono hq.bind λt H' s' q v r=>by
  split at q
  ·exact⟨_,Rep.bl_iff.mp r,q H' (Same.refl H')⟩
  ·exact q.elim
 have h1:=bc E hq';refine wpAny_isTrue_Compare1 (bS (ha pins s σ H _ I h1) λv s1 ⟨x,H1,I1,r1,t,rt,s',E',q1⟩=> ?_) hm
 have h2:=bc (f:=fb) E' q1;refine bS (hb pins s1 σ H1 _ I1 h2) λu s2 hh_=> ?_
 obtain⟨y,H2,I2,r2,t2,rt2,s'',E'',q2⟩:=hh_;refine bS (ho pins s2 σ H2 O t t2 x y v u _ I2 (λp=>E''.fresh) (rt.same s'') rt2 r1 r2 q2) λd s3 hh_=> ?_
 obtain⟨z,H3,I3,r3,k,e,q3⟩:=hh_;subst e;cases r3;exact wpAny_truthy_bool ⟨H3,I3,q3⟩
def mm (f g:En->Rs Bool)(Z:En):Rs Bool:=do
 let k <-f Z
 if k then g Z else .ok false
def jz (f g:En->Rs Bool)(Z:En):Rs Bool:=do
 let k <-f Z
 if k then .ok true else g Z
def d9 (f:En->Rs Bool)(Z:En):Rs Bool:=do
 let k <-f Z
 .ok (!k)
variable {f g:En->Rs Bool}{rest:List Expr}
abbrev zL (X:Cx)(e:Expr)(f:En->Rs Bool):Prop:=PW X e (wZ X f)
theorem xG (ha:uv X a f):zL X (.BoolOp .And [a] pos) f:=xW ha
theorem Ah (ha:uv X a f):zL X (.BoolOp .Or [a] pos) f:=u9 ha
theorem Ai (ha:uv X a f)(hb:zL X (.BoolOp .And (b::rest) pos) g):zL X (.BoolOp .And (a::b::rest) pos) (mm f g):=by
 intro wh pins s σ H Q I ⟨Z,O,E,hq⟩;refine AF ha hb wh pins s σ H Q I ?_
 obtain⟨Z1,O1,E1,h1⟩:=i4 E hq;refine⟨Z1,O1,E1,Post.mono h1 λk H1 s1 q=> ?_⟩
 obtain⟨s',E',q'⟩:=q
 cases k with
 | true=>rw[if_pos rfl];exact⟨Z,O,E',by simpa using q'⟩
 | false=>rw[if_neg Bool.false_ne_true];exact q' H1 (Same.refl H1)
theorem B9 (ha:uv X a f)(hb:zL X (.BoolOp .Or (b::rest) pos) g):zL X (.BoolOp .Or (a::b::rest) pos) (jz f g):=by
 intro wh pins s σ H Q I ⟨Z,O,E,hq⟩;refine zu ha hb wh pins s σ H Q I ?_
 obtain⟨Z1,O1,E1,h1⟩:=i4 E hq;refine⟨Z1,O1,E1,Post.mono h1 λk H1 s1 q=> ?_⟩
 obtain⟨s',E',q'⟩:=q
 cases k with
 | true=>rw[if_pos rfl];exact q' H1 (Same.refl H1)
 | false=>rw[if_neg Bool.false_ne_true];exact⟨Z,O,E',by simpa using q'⟩
theorem qt_w {e:Expr}(h:zL X e f):uv X e f:=h.pt
theorem Ak (ha:uv X a f):uv X (.UnaryOp .Not a pos) (d9 f):=by
 intro pins s σ H Q I ⟨Z,O,E,hq⟩;refine ve ha pins s σ H Q I ?_
 obtain⟨Z1,O1,E1,h1⟩:=i4 E hq;exact⟨Z1,O1,E1,Post.mono h1 λk H1 s1 ⟨s',E',q'⟩=>q' H1 (Same.refl H1)⟩
def bD (f g:En->Rs T)(Z:En):Rs T:=do
 let x <-f Z
 match x with
 | .bl true=>g Z
 | .bl false=> .ok (.bl false)
 | _=> .bad
def Cy (f g:En->Rs T)(Z:En):Rs T:=do
 let x <-f Z
 match x with
 | .bl true=> .ok (.bl true)
 | .bl false=>g Z
 | _=> .bad
def yk:T->Rs T
 | .bl k=> .ok (.bl (!k))
 | _=> .bad
theorem Cg {op}(h:cq X a fa):cq X (.BoolOp op [a] pos) fa:=AK h
theorem Cr (ha:cq X a fa)(hb:cq X (.BoolOp .And (b::rest) pos) fb):cq X (.BoolOp .And (a::b::rest) pos) (bD fa fb):=by
 intro pins s σ H Q I ⟨Z,O,E,hq⟩;refine AN ha hb pins s σ H Q I ?_
 obtain⟨Z1,O1,E1,h1⟩:=bc E hq;refine⟨Z1,O1,E1,Post.mono h1 λts H1 s1 q vs r=> ?_⟩
 obtain⟨t',r',s',E',q'⟩:=q vs r
 split at q'
 ·exact⟨true,Rep.bl_iff.mp r',by rw[if_pos rfl];exact⟨Z,O,E',q'⟩⟩
 ·exact⟨false,Rep.bl_iff.mp r',by rw[if_neg Bool.false_ne_true];exact q' H1 (Same.refl H1) _ (Rep.bl_ false)⟩
 ·exact q'.elim
theorem q_or (ha:cq X a fa)(hb:cq X (.BoolOp .Or (b::rest) pos) fb):cq X (.BoolOp .Or (a::b::rest) pos) (Cy fa fb):=by
 intro pins s σ H Q I ⟨Z,O,E,hq⟩;refine Cu ha hb pins s σ H Q I ?_
 obtain⟨Z1,O1,E1,h1⟩:=bc E hq;refine⟨Z1,O1,E1,Post.mono h1 λts H1 s1 q vs r=> ?_⟩
 obtain⟨t',r',s',E',q'⟩:=q vs r
 split at q'
 ·exact⟨true,Rep.bl_iff.mp r',by rw[if_pos rfl];exact q' H1 (Same.refl H1) _ (Rep.bl_ true)⟩
 ·exact⟨false,Rep.bl_iff.mp r',by rw[if_neg Bool.false_ne_true];exact⟨Z,O,E',q'⟩⟩
 ·exact q'.elim
theorem Ch (ha:cq X a fa):cq X (.UnaryOp .Not a pos) (o1 yk fa):=by
 intro pins s σ H Q I ⟨Z,O,E,hq⟩;refine AL ha pins s σ H Q I ?_
 obtain⟨Z1,O1,E1,h1⟩:=bc E hq;refine⟨Z1,O1,E1,Post.mono h1 λts H1 s1 q vs r=> ?_⟩
 obtain⟨t',r',s',E',q'⟩:=q vs r;unfold yk at q'
 split at q'
 ·exact⟨_,Rep.bl_iff.mp r',q' H1 (Same.refl H1) _ (Rep.bl_ _)⟩
 ·exact q'.elim
def oM (f:En->Rs Bool)(fa fb:En->Rs T)(Z:En):Rs T:=do
 let k <-f Z
 if k then fa Z else fb Z
theorem q_if (hc:uv X c f)(ha:cq X a fa)(hb:cq X b fb):cq X (.IfExp c a b pos) (oM f fa fb):=by
 intro pins s σ H Q I ⟨Z,O,E,hq⟩;refine vo hc ha hb pins s σ H Q I ?_
 obtain⟨Z1,O1,E1,h1⟩:=i4 E hq;refine⟨Z1,O1,E1,Post.mono h1 λk H1 s1 q=> ?_⟩
 obtain⟨s',E',q'⟩:=q
 cases k with
 | true=>rw[if_pos rfl];exact⟨Z,O,E',by simpa using q'⟩
 | false=>rw[if_neg Bool.false_ne_true];exact⟨Z,O,E',by simpa using q'⟩
end
end Tr
namespace HT
open PySem PyProof.Rows
section
variable {prog:Program}{w:World}{A:Around}{E:Value->Shared->Prop}{s:Shared}
theorem iz {t:Addr}{items:Array Value}{Q:Bool->Shared->Prop}(ht:IsTup s.heap t items)(h:Q true s):wpAny (model prog w) A (Builtin.Tuple.tupleIsExact (.ref t)) Q E s:=by
 unfold Builtin.Tuple.tupleIsExact;refine wpAny_bind (wpAny_typeOf ht.typeIs (wpAny_pure ?_))
 exact h
theorem getItem_tuple_whole {t sl:Addr}{items:Array Value}{vl vu:Value}{lo hi:Option Int}{Q:Value->Shared->Prop}(ht:IsTup s.heap t items)(hs:s.heap.IsSliceOf sl vl vu .none)(pl:IsPart vl lo)(pu:IsPart vu hi)
  (hw:sIx items.size 0 lo=0/\sIx items.size items.size hi=items.size) (h:Q (.ref t) s):wpAny (model prog w) A (getItem (.ref t) (.ref sl)) Q E s:=by
 obtain⟨os,hos,hcs,hds⟩:=id hs
 have hTs:s.TypeIs (.ref sl) "slice":=⟨os,hos,hcs⟩;unfold getItem
 try with_reducible refine wpAny_holding ?_
 first | refine wpAny_bind (wpAny_pure ?_) | skip
 refine wpAny_bind (wpAny_sequenceKey ht.typeIs (by decide) ?_)
 refine wpAny_bind (wpAny_callSpecial?_slot (name:=Str.ofString "__getitem__") ht.typeIs PyProof.Rows.slot_tuple_getitem
  (wpAny_call_entry PyProof.Rows.slot_tuple_getitem ht.typeIs entry_tuple_getitem ?_ (args_tuple_getitem _ _)))
 show wpAny _ _ (Builtin.Tuple.tupleItemsOf (.ref t) >>= _) _ _ s
 refine wpAny_bind (tupleItemsOf_ ht ?_)
 refine wpAny_bind (wpAny_typeOf hTs ?_)
 rw[if_pos (by decide)]
 refine wpAny_bind (fU hs pl pu ?_)
 have hyes:(((sIx items.size 0 lo:Nat):Int) == 0&&(1:Int) == 1&&(sIx items.size items.size hi - sIx items.size 0 lo) == items.size)=true:=by
  rw[hw.1,hw.2];simp
 show wpAny _ _ (if (((sIx items.size 0 lo:Nat):Int) == 0&&(1:Int) == 1&&(sIx items.size items.size hi - sIx items.size 0 lo) == items.size)=true then _ else _) _ _ s
 rw[if_pos hyes]
 first
  | refine wpAny_bind (iz ht ?_)
  | refine iz ht ?_
 try rw[if_pos rfl]
 first
  | exact wpAny_bind (wpAny_rule (wpAny_pure ⟨_,rfl,wpAny_pure h⟩))
  | exact wpAny_bind (wpAny_rule (wpAny_bind (wpAny_pure (wpAny_pure ⟨_,rfl,wpAny_pure h⟩))))
end
end HT
namespace Tr
open PySem PySem.Spec PyProof.Rows L2
section
variable {X:Cx}{a b c:Expr}{fa fb fc:En->Rs T}{pos:Pos}
theorem Reps.atI {K:PySem.W.Frag}{O:Ow}{H:Hp}{l:List T}{vs:List V}{i:Int}{t:T}(r:Reps K O H l vs)(e:L2.atI l i=some t):∃v,L2.atI vs i=some v/\Rep K O H t v:=by
 unfold L2.atI at e ⊢;rw[r.length]at e
 cases q:ixN vs.length i with
 | none=>rw[q]at e;cases e
 | some j=>
  rw[q]at e;obtain⟨v,e1,e2⟩:=r.get (i:=j) (t:=t) e;exact⟨v,e1,e2⟩
def bN (x y:T):Rs T:=match x.items,y with
 | some l,.int i=>match L2.atI l i with
  | some t=> .ok t
  | none=> .bad
 | _,_=> .bad
theorem q_ix (ha:cq X a fa)(hb:cq X b fb)(hs:iq b:=by intro _ _;rfl):cq X (.Subscript a b pos) (o2 bN fa fb):=by
 intro pins s σ H Q I ⟨Z,O,E,hq⟩
 have h1:=bc E hq;refine Subscript_ (bS (ha pins s σ H _ I h1) λv s1 hh_=> ?_)
 obtain⟨x,H1,I1,r1,t,rt,s',E',q1⟩:=hh_
 have h2:=bc (f:=fb) E' q1;refine bS (hb pins s1 σ H1 _ I1 h2) λu s2 hh_=> ?_
 obtain⟨y,H2,I2,r2,t2,rt2,s'',E'',q2⟩:=hh_
 have rt':=rt.same s'';unfold bN at q2
 split at q2
 ·rename_i l i hl
  split at q2
  ·rename_i z hz
   have hy:=Rep.int_iff.mp rt2;refine Bi a b pins s2 σ H2 x y v u Q I2 r1 r2 ?_ (hs _ _)
   cases t with
   | tup m=>
    cases hl;obtain⟨p,vs,e,n,q,rr⟩:=Rep.tup_iff.mp rt';obtain⟨w,ew,rw'⟩:=rr.atI hz
    exact .inr (.inl ⟨p,vs,i,w,e,hy,SqT.of q,ew,q2 H2 (Same.refl H2) _ rw'⟩)
   | lst m=>
    cases hl;obtain⟨p,vs,e,n,q,rr⟩:=Rep.lst_iff.mp rt';obtain⟨w,ew,rw'⟩:=rr.atI hz
    exact .inl ⟨p,vs,i,w,e,hy,SqL.of q,ew,q2 H2 (Same.refl H2) _ rw'⟩
   | scr m=>
    cases hl;unfold Rep at rt';obtain⟨p,e,n,q⟩:=rt';obtain⟨w,ew,rw'⟩:=(Reps.ints (K:=X.K) (O:=O) (H:=H2) (ns:=m)).atI hz
    exact .inl ⟨p,_,i,w,e,hy,q,ew,q2 H2 (Same.refl H2) _ rw'⟩
   | _=>cases hl
  ·exact q2.elim
 ·exact q2.elim
def lD (l:List T)(lo hi:Option Int):List T:=(l.drop (HT.sIx l.length 0 lo)).take (HT.sIx l.length l.length hi - HT.sIx l.length 0 lo)
theorem Reps.cut {K:PySem.W.Frag}{O:Ow}{H:Hp}{l:List T}{vs:List V}(r:Reps K O H l vs)(lo hi:Option Int):Reps K O H (lD l lo hi) (qx vs lo hi):=by
 unfold lD qx;rw[r.length];exact(r.drop _).take _
theorem ul {l:List T}{lo hi:Option Int}(h:HT.sIx l.length 0 lo=0/\HT.sIx l.length l.length hi=l.length):lD l lo hi=l:=by
 unfold lD;rw[h.1,h.2];simp
theorem sl_tup_whole:SlR X (λx lo hi H Q=> ∃a xs,x= .ref a/\SqT X.K H a xs/\(HT.sIx xs.length 0 lo=0/\HT.sIx xs.length xs.length hi=xs.length)/\Q (.ref a) H):=by
 intro pins s σ H x v vl vu lo hi sl Q I rx hs pl pu h;obtain⟨a,xs,rfl,hx,hw,q⟩:=h;cases rx;obtain⟨its,r,ht,hz⟩:=I.tuple hx
 have hlen:its.toArray.size=xs.length:=by rw[List.size_toArray];exact r.length.symm
 refine⟨"tuple",_,PyProof.Rows.slot_tuple_getitem.lookup,ht.typeIs,?_⟩
 exact HT.getItem_tuple_whole ht hs pl pu (by rw[hlen];exact hw) ⟨.ref a,H,I,rfl,q⟩
def pN (_:En):Rs (Option Int):=.ok none
def pS (f:En->Rs T)(Z:En):Rs (Option Int):=do
 let x <-f Z
 match x with
 | .int i=> .ok (some i)
 | _=> .bad
def tPO (X:Cx)(f:En->Rs (Option Int)):TO:=λσ H Q=> ∃Z O,EnvO X.K O H Z σ/\Post X H (f Z) λb H'=>Q b H'
abbrev Db (X:Cx)(e:Option Expr)(f:En->Rs (Option Int)):Prop:=PO X e (tPO X f)
theorem xM:Db X none pN:=by
 intro pins s σ H Q I ⟨Z,O,E,hq⟩;exact x5 pins s σ H Q I (hq H (Same.refl H))
theorem xL (ha:cq X a fa):Db X (some a) (pS fa):=by
 intro pins s σ H Q I ⟨Z,O,E,hq⟩;refine xZ ha pins s σ H Q I ?_
 obtain⟨Z1,O1,E1,h1⟩:=bc E hq;refine⟨Z1,O1,E1,Post.mono h1 λts H1 s1 q vs r=> ?_⟩
 obtain⟨t',r',s',E',q'⟩:=q vs r
 split at q'
 ·exact⟨_,Rep.int_iff.mp r',q' H1 (Same.refl H1)⟩
 ·exact q'.elim
def slT (x:T)(lo hi:Option Int):Rs T:=match x with
 | .tup l=> .ok (.tup (lD l lo hi))
 | .lst l=> .ok (.lst (lD l lo hi))
 | _=> .bad
def sl (fe:En->Rs T)(fl fu:En->Rs (Option Int))(Z:En):Rs T:=do
 let x <-fe Z
 let l <-fl Z
 let u <-fu Z
 slT x l u
theorem o7 {σ:L2.St}{H:Hp}{Z:En}{O:Ow}{α:Type}{f:En->Rs (Option Int)}{k:Option Int->Rs α}{Q:α->Hp->Prop}(E:EnvO X.K O H Z σ)(h:Post X H (f Z >>= k) Q) :
  tPO X f σ H λb H'=>Same H H'/\EnvO X.K O H' Z σ/\Post X H' (k b) Q:=
 ⟨Z,O,E,Post.mono h.bind λt H' s q=>⟨s,E.same s,q⟩⟩
theorem xT {lo hi:Option Expr}{p2:Pos}{fl fu:En->Rs (Option Int)}(ha:cq X a fa)(hl:Db X lo fl)(hu:Db X hi fu):cq X (.Subscript a (.Slice lo hi none p2) pos) (sl fa fl fu):=by
 intro pins s σ H Q I ⟨Z,O,E,hq⟩;refine vk (sl_tup.or (sl_tup_whole.or xv)) ha hl hu pins s σ H Q I ?_
 obtain⟨Z1,O1,E1,h1⟩:=bc E hq;refine⟨Z1,O1,E1,Post.mono h1 λts H1 s1 q vs r=> ?_⟩
 obtain⟨t',r',s',E',q'⟩:=q vs r;obtain⟨Z2,O2,E2,h2⟩:=o7 E' q';refine⟨Z2,O2,E2,Post.mono h2 λo1 H2 s2 q=> ?_⟩
 obtain⟨s2',E2',q2⟩:=q;obtain⟨Z3,O3,E3,h3⟩:=o7 E2' q2;refine⟨Z3,O3,E3,Post.mono h3 λo2 H3 s3 q=> ?_⟩
 obtain⟨s3',E3',q3⟩:=q
 have rt:=(r'.same s2').same s3';unfold slT at q3
 split at q3
 ·rename_i l
  obtain⟨p,ws,e,n,q,rr⟩:=Rep.tup_iff.mp rt
  have hlen:=rr.length
  by_cases hw:HT.sIx ws.length 0 o1=0/\HT.sIx ws.length ws.length o2=ws.length
  ·refine .inr (.inl ⟨p,ws,e,SqT.of q,hw,?_⟩)
   rw[<-hlen]at hw;refine q3 H3 (Same.refl H3) _ ?_
   rw[ul hw];exact Rep.tup_iff.mpr ⟨p,ws,rfl,n,q,rr⟩
  ·exact .inl ⟨p,ws,e,SqT.of q,hw,λp' hp=>q3 _ (aM hp _) _ (fW hp (E3'.fresh hp) (rr.cut o1 o2))⟩
 ·rename_i l
  obtain⟨p,ws,e,n,q,rr⟩:=Rep.lst_iff.mp rt;exact .inr (.inr ⟨p,ws,e,SqL.of q,λp' hp=>q3 _ (aM hp _) _ (gK hp (E3'.fresh hp) (rr.cut o1 o2))⟩)
 ·exact q3.elim
def CallT (X:Cx)(f:Value)(g:List T->Rs T):Prop:=
 ∀(pins:List (Addr×Obj)) (s:Shared) (σ:L2.St) (H:Hp) (O:Ow) (ts:List T) (vs:List V) (us:List Value) (Q:VK),Inv X pins σ H s->(∀p,H p=none->¬ O p)->Reps X.K O H ts vs->Vals vs us →
  Post X H (g ts) (λt H'=> ∀v,Rep X.K O H' t v->Q v H')->wpAny (model X.prog X.w) X.A (call f us) (EP X pins σ Q) X.xe s
theorem CallT.of {f:Value}{r:List V->Hp->VK->Prop}(h:CallR X f r){g:List T->Rs T}
  (w:∀(H:Hp) (O:Ow) (ts:List T) (vs:List V) (Q:VK),(∀p,H p=none->¬ O p)->Reps X.K O H ts vs->Post X H (g ts) (λt H'=> ∀v,Rep X.K O H' t v->Q v H')->r vs H Q):CallT X f g:=
 λpins s σ H O ts vs us Q I hf rs rv hp=>h pins s σ H vs us Q I rv (w H O ts vs Q hf rs hp)
def cl (g:List T->Rs T)(fs:En->Rs (List T))(Z:En):Rs T:=fs Z >>= g
variable {e:Expr}{es:List Expr}{fs:En->Rs (List T)}{x:Str}{p:Pos}{id:String}{g:List T->Rs T}
theorem xV (hc:CallT X (.builtin id) g)(hm:X.mg x=none)(hv:bootBuiltins x=some (.builtin id))(ha:nj X (e::es) fs)(hg:Gl X x:=by rfl)(hn:x≠ "__name__":=by decide)(hdb:(x == ("__debug__" : Str))=false:=by decide)
  (he:starEach (e::es) X.env=(false,eval e X.env)::starEach es X.env:=by rfl) (hpl:(backTo pos (starEach es X.env)).any (·.1)=false:=by rfl):cq X (.Call (.Name x p) (e::es) [] pos) (cl g fs):=by
 intro pins s σ H Q I ⟨Z,O,E,hq⟩;refine wpAny_Call_Name_kw (eI I hg hm hv ?_ hn hdb)
 have h1:=d6 E hq;exact PyProof.Rows.callWith_builtin1 (bS (ha pos pins s σ H _ I h1) λus s1 ⟨vs,H1,I1,r1,ts,rs,s',E',q1⟩=>hc pins s1 σ H1 O ts vs us Q I1 (λp=>E'.fresh) rs r1 q1) he hpl
theorem u8 {Ty:String}(hc:CallT X (.type Ty) g)(hm:X.mg x=none)(hv:bootBuiltins x=some (.type Ty))(ha:nj X (e::es) fs)(hg:Gl X x:=by rfl)(hn:x≠ "__name__":=by decide)(hdb:(x == ("__debug__" : Str))=false:=by decide)
  (he:starEach (e::es) X.env=(false,eval e X.env)::starEach es X.env:=by rfl) (hpl:(backTo pos (starEach es X.env)).any (·.1)=false:=by rfl):cq X (.Call (.Name x p) (e::es) [] pos) (cl g fs):=by
 intro pins s σ H Q I ⟨Z,O,E,hq⟩;refine wpAny_Call_Name_kw (eI I hg hm hv ?_ hn hdb)
 have h1:=d6 E hq;exact PyProof.Rows.callWith_type1 (bS (ha pos pins s σ H _ I h1) λus s1 ⟨vs,H1,I1,r1,ts,rs,s',E',q1⟩=>hc pins s1 σ H1 O ts vs us Q I1 (λp=>E'.fresh) rs r1 q1) he hpl
theorem Reps.one {K:PySem.W.Frag}{O:Ow}{H:Hp}{t:T}{vs:List V}(r:Reps K O H [t] vs):∃v,vs= [v]/\Rep K O H t v:=by
 obtain⟨v,ws,rfl,p,q⟩:=Reps.cons_iff.mp r;cases Reps.nil_iff.mp q;exact⟨v,rfl,p⟩
theorem Rep.sq {K:PySem.W.Frag}{O:Ow}{H:Hp}{t:T}{v:V}{l:List T}(r:Rep K O H t v)(h:t.items=some l):∃a vs,v= .ref a/\¬ O a/\Reps K O H l vs/\(SqL K H a vs\/SqT K H a vs):=by
 cases t with
 | tup m=>cases h;obtain⟨a,vs,e,n,q,z⟩:=Rep.tup_iff.mp r;exact⟨a,vs,e,n,z,.inr (SqT.of q)⟩
 | lst m=>cases h;obtain⟨a,vs,e,n,q,z⟩:=Rep.lst_iff.mp r;exact⟨a,vs,e,n,z,.inl (SqL.of q)⟩
 | scr m=>cases h;unfold Rep at r;obtain⟨a,e,n,q⟩:=r;exact⟨a,_,e,n,Reps.ints,.inl q⟩
 | _=>cases h
def cG:List T->Rs T
 | [.str x] =>if x.length<=sizeLine then .ok (.int x.length)else .bad
 | [x] =>match x.items with
  | some l=> .ok (.int l.length)
  | none=> .bad
 | _=> .bad
theorem cV:CallT X (.builtin "len") cG:=CallT.of (call_len_seq.or oy) λH O ts vs Q hf rs hp=>by
 unfold cG at hp
 split at hp
 ·obtain⟨v,rfl,r⟩:=rs.one
  split at hp
  ·rename_i h
   exact .inr ⟨_,by rw[Rep.str_iff.mp r],h,hp H (Same.refl H) _ (Rep.int_ _)⟩
  ·exact hp.elim
 ·obtain⟨v,rfl,r⟩:=rs.one
  split at hp
  ·rename_i l hl
   obtain⟨a,vs,rfl,n,z,q⟩:=r.sq hl;exact .inl ⟨a,vs,rfl,q,hp H (Same.refl H) _ (by rw[<-z.length];exact Rep.int_ _)⟩
  ·exact hp.elim
 ·exact hp.elim
def gF:List T->Rs T
 | [.tup l] => .ok (.tup l)
 | [.lst l] => .ok (.tup l)
 | _=> .bad
theorem jt:CallT X (.type "tuple") gF:=CallT.of ml λH O ts vs Q hf rs hp=>by
 unfold gF at hp
 split at hp
 ·obtain⟨v,rfl,r⟩:=rs.one
  obtain⟨a,ws,rfl,n,q,z⟩:=Rep.tup_iff.mp r;exact⟨a,ws,rfl,.inr ⟨SqT.of q,hp H (Same.refl H) _ (Rep.tup_iff.mpr ⟨a,ws,rfl,n,q,z⟩)⟩⟩
 ·obtain⟨v,rfl,r⟩:=rs.one
  obtain⟨a,ws,rfl,n,q,z⟩:=Rep.lst_iff.mp r;exact⟨a,ws,rfl,.inl ⟨SqL.of q,λl hl=>hp _ (aM hl _) _ (fW hl (hf l hl) z)⟩⟩
 ·exact hp.elim
def sh:List T->Rs T
 | [x] =>match x.items with
  | some l=> .ok (.lst l)
  | none=> .bad
 | _=> .bad
theorem yR:CallT X (.type "list") sh:=CallT.of ox λH O ts vs Q hf rs hp=>by
 unfold sh at hp
 split at hp
 ·obtain⟨v,rfl,r⟩:=rs.one
  split at hp
  ·rename_i l hl
   obtain⟨a,ws,rfl,n,z,q⟩:=r.sq hl;exact⟨a,ws,rfl,q,λl hl=>hp _ (aM hl _) _ (gK hl (hf l hl) z)⟩
  ·exact hp.elim
 ·exact hp.elim
def wj:List T->Rs T
 | [.int i] => .ok (.int i)
 | [.bl k] => .ok (.int (if k then 1 else 0))
 | _=> .bad
theorem BE:CallT X (.type "int") wj:=CallT.of ur λH O ts vs Q hf rs hp=>by
 unfold wj at hp
 split at hp
 ·obtain⟨v,rfl,r⟩:=rs.one
  exact .inl ⟨_,by rw[Rep.int_iff.mp r],hp H (Same.refl H) _ (Rep.int_ _)⟩
 ·obtain⟨v,rfl,r⟩:=rs.one
  exact .inr ⟨_,by rw[Rep.bl_iff.mp r],hp H (Same.refl H) _ (Rep.int_ _)⟩
 ·exact hp.elim
def lH:List T->Option (List Bool)
 | [] =>some []
 | .bl k::r=>(lH r).map (k:: ·)
 | _=>none
def lM:List T->Rs T
 | [.lst l] =>match lH l with
  | some ks=> .ok (.bl (ks.all λk=>k))
  | none=> .bad
 | _=> .bad
theorem lG {K:PySem.W.Frag}{O:Ow}{H:Hp}:∀{l:List T} {ks:List Bool} {vs:List V} {us:List Value},lH l=some ks->Reps K O H l vs->Vals vs us->us=ks.map Value.bool
 | [],ks,vs,us,e,r,v=>by cases e;cases Reps.nil_iff.mp r;cases v;rfl
 | t::l,ks,vs,us,e,r,v=>by
  obtain⟨w,ws,rfl,p,q⟩:=Reps.cons_iff.mp r
  cases t with
  | bl k=>
   unfold lH at e
   cases z:lH l with
   | none=>rw[z]at e;cases e
   | some ks'=>
    rw[z]at e;cases e
    cases v with
    | cons v1 v2=>
     cases Rep.bl_iff.mp p;cases v1
     rw[lG z q v2];rfl
  | _=>cases e
theorem lE (hc:X.calm=true):CallT X (.builtin "all") lM:=by
 intro pins s σ H O ts vs us Q I hf rs rv hp;unfold lM at hp
 split at hp
 ·obtain⟨v,rfl,r⟩:=rs.one
  split at hp
  ·rename_i ks hk
   obtain⟨a,ws,rfl,n,q,z⟩:=Rep.lst_iff.mp r;obtain⟨u,rfl,ru⟩:=gE rv;cases ru;obtain⟨its,r',pl,hz⟩:=I.list (SqL.of q)
   have hits:=lG hk z r';refine call_all_walk (wpAny_pyIter_list pl.isList ?_)
   have hne:a≠s.heap.objs.size:=λe=>by
    obtain⟨o,ho,_⟩:=pl.isList;rw[e]at ho;exact absurd (Heap.lt_size ho) (Nat.lt_irrefl _)
   refine⟨s.heap.objs.size,_,_,_,_,_,λi=>(ks[i]?).getD true,rfl,Walks.list (A:=X.A.in1) (I.ok.hd hc) s.heap.objs.size a hne its.toArray,⟨⟨_,Heap.get?_push_size _ rfl,rfl,rfl⟩,?_⟩,?_,?_⟩
   ·obtain⟨o,ho,hh⟩:=pl.isList
    exact⟨o,Heap.get?_push_of_some _ ho,hh⟩
   ·intro i v s' Q' E' hP hQ'
    subst hits
    dsimp only at hQ'
    have hP':(ks.map Value.bool)[i]? =some v:=by simpa using hP
    rw[List.getElem?_map]at hP'
    cases e:ks[i]? with
    | none=>rw[e]at hP';cases hP'
    | some k=>
     rw[e]at hP' hQ';cases hP';exact wpAny_truthy_bool hQ'
   ·intro h' tk hk'
    have hlen:its.toArray.size=ks.length:=by rw[hits];simp
    have e:((List.range its.toArray.size).all λi=>(ks[i]?).getD true)=(ks.all λk=>k):=by
     rw[hlen];rw[Bool.eq_iff_iff,List.all_eq_true,List.all_eq_true]
     constructor
     ·intro h x hx
      obtain⟨i,hi,rfl⟩:=List.getElem_of_mem hx
      have:=h i (List.mem_range.mpr hi)
      simpa [hi]using this
     ·intro h i hi
      have hi':=List.mem_range.mp hi
      have:=h ks[i] (List.getElem_mem hi')
      simpa [hi']using this
    rw[e]
    have I1:Inv X pins σ H { s with heap:=s.heap.push { cls:=.type "list_iterator",data:=.fields #[.ref a,.int 0 0] } }:=I.kept (t':=s.toks) λb o e=>Heap.get?_push_of_some _ e
    have I2:Inv X pins σ H { s with heap:=h',toks:=tk }:=by
     have:=I1.turned (h':=h') (t':=tk) (it:=s.heap.objs.size) (λb o hb e=>hk' b o (by simpa using hb) e) (I.hok.fresh (Nat.le_refl _))
      (Nat.ne_of_gt I.lt) (.inr I.sz) (λx c e z=> ?_) (λp hp z=> ?_)
     ·exact this
     ·obtain⟨v,q⟩:=I.cell x c e
      exact absurd (Nat.lt_of_lt_of_le q.lt (Nat.le_of_eq z.symm)) (Nat.lt_irrefl _)
     ·exact absurd (Nat.lt_of_lt_of_le (Heap.lt_size (I.pin p hp).1) (Nat.le_of_eq z.symm)) (Nat.lt_irrefl _)
    exact⟨.bl _,H,I2,rfl,hp H (Same.refl H) _ (Rep.bl_ _)⟩
  ·exact hp.elim
 ·exact hp.elim
end
def T.ty:T->Option String
 | .non=>some "NoneType"
 | .bl _=>some "bool"
 | .int _=>some "int"
 | .str _=>some "str"
 | .tup _=>some "tuple"
 | .lst _=>some "list"
 | .scr _=>none
 | .dct _ _=>none
def rn (i b t l s:Bool)(Ty:String):Option Bool:=match Ty with
 | "int" =>some i | "bool" =>some b | "tuple" =>some t | "list" =>some l | "str" =>some s
 | _=>none
def sC (n Ty:String):Option Bool:=match n with
 | "NoneType" =>rn false false false false false Ty
 | "bool" =>rn true true false false false Ty
 | "int" =>rn true false false false false Ty
 | "str" =>rn false false false false true Ty
 | "tuple" =>rn false false true false false Ty
 | "list" =>rn false false false true false Ty
 | _=>none
theorem ub (K:PySem.W.Frag){n Ty:String}{b:Bool}(h:sC n Ty=some b):PySem.W.kitOne K (.type n) (.type Ty)=some b:=by
 unfold sC at h
 split at h <;> first | (cases h;done) | (unfold rn at h;split at h <;> first | (cases h;done) | (cases h;kernel_rfl))
def yz (Ty:String)(t:T):Rs T:=match t.ty with
 | some n=>match sC n Ty with
  | some b=> .ok (.bl b)
  | none=> .bad
 | none=> .bad
theorem Rep.tyOf {K:PySem.W.Frag}{O:Ow}{H:Hp}{t:T}{v:V}{n:String}(r:Rep K O H t v)(h:t.ty=some n):jI K H v (.type n):=by
 cases t with
 | non=>cases h;cases Rep.non_iff.mp r;exact .non
 | bl b=>cases h;cases Rep.bl_iff.mp r;exact .bl b
 | int b=>cases h;cases Rep.int_iff.mp r;exact .int b
 | str b=>cases h;cases Rep.str_iff.mp r;exact .str b
 | tup l=>cases h;obtain⟨a,vs,rfl,_,q,_⟩:=Rep.tup_iff.mp r;exact .tup q
 | lst l=>cases h;obtain⟨a,vs,rfl,_,q,_⟩:=Rep.lst_iff.mp r;exact .lst q
 | scr l=>cases h
 | dct _ _=>cases h
section
variable {X:Cx}{a b c e:Expr}{es:List Expr}{fa fb fc:En->Rs T}{fs:En->Rs (List T)}{pos p p2:Pos}{x:Str}
theorem eJ:bootBuiltins "isinstance" =some (.builtin "isinstance"):=by decide+kernel
theorem Cm {tn:Str}{Ty:String}(hm:X.mg "isinstance" =none)(hmt:X.mg tn=none)(hv:bootBuiltins tn=some (.type Ty))(ha:cq X a fa)(hg:Gl X "isinstance":=by rfl)(hgt:Gl X tn:=by rfl)
  (hn:tn≠ "__name__":=by decide) (hd:(tn == ("__debug__" : Str))=false:=by decide)
  (he:starEach [a,.Name tn p2] X.env=(false,eval a X.env)::starEach [.Name tn p2] X.env:=by rfl) (hpl:(backTo pos (starEach [.Name tn p2] X.env)).any (·.1)=false:=by rfl)
  (hs:starEach [.Name tn p2] X.env=(false,eval (.Name tn p2) X.env)::starEach [] X.env:=by rfl) :
  cq X (.Call (.Name "isinstance" p) [a,.Name tn p2] [] pos) (o1 (yz Ty) fa):=by
 intro pins s σ H Q I ⟨Z,O,E,hq⟩;refine wpAny_Call_Name_kw (eI I hg hm eJ ?_ (by decide) (by decide))
 have hA:PA X [a,.Name tn p2] (fI (tP X fa) (fI (tC (.ty Ty)) o8)):=aZ ha (aZ (r6 (v:=.ty Ty) hgt hmt hv rfl hn hd) de hs) he;obtain⟨Z1,O1,E1,h1⟩:=bc E hq;refine PyProof.Rows.callWith_builtin1 (bS (hA pos pins s σ H (λvs H'=> ∃v t,vs= [v,.ty Ty]/\Rep X.K O H' t v/\Post X H' (yz Ty t) (λt H'=> ∀v,Rep X.K O H' t v->Q v H')) I ?_) λus s1 ⟨vs,H1,I1,r1,v,t,e1,rt,q⟩=> ?_) he hpl
 ·refine⟨Z1,O1,E1,Post.mono h1 λts H1 s1 q vs r=> ?_⟩
  obtain⟨t',r',s',E',q'⟩:=q vs r;exact⟨vs,t',rfl,r',q'⟩
 ·subst e1
  obtain⟨u,w',rfl,ru,rw'⟩:=oX r1;cases rw';unfold yz at q
  split at q
  ·rename_i n hn'
   split at q
   ·rename_i bb hb
    exact ua I1 ru (rt.tyOf hn') (ub _ hb) λtk=>⟨.bl bb,H1,I1.tok _,rfl,q H1 (Same.refl H1) _ (Rep.bl_ _)⟩
   ·exact q.elim
  ·exact q.elim
def spP (K:PySem.W.Frag)(n:Nat)(g:List T->Rs T):Sp:=λvs H Q _=> ∃ts O,Reps K O H ts vs/\(∀a,O a->Mtb H a)/\ts.length=n ∧
 match g ts with
 | .ok t=> ∀v H',Same H H'->Rep K O H' t v->Q v H'
 | _=>False
def RzC (P:Program)(w:World)(mg:Str->Option Value)(outer:List Env)(H:Hp)(s:Shared)(c:Str)(ev:Value)(s':Shared):Prop:=
 ∃e T C H',ev= .ref e/\mg c=some (.ref C)/\s'.os=s.os/\AllBare s'.gens/\Un (lr outer) [] H H' s.heap s'.heap/\HOk P w H' s'.heap/\Same H H'/\H' e=none/\s.heap.get? e=none/\De s'.heap C e (some T)/\H' T=none/\s.heap.get? T=none
def FnX (P:Program)(w:World)(K:PySem.W.Frag)(mg:Str->Option Value)(base:Heap)(k:Nat)(f:Addr)(fd:FuncData)(ps:List Str)(n:Nat)(g:List T->Rs T):Prop:=
 ∀(A:Around) (outer:List Env) (s:Shared) (H:Hp) (args:Args) (us:List Value) (vs:List V) (O:Ow) (ts:List T) (c:Str) (R:Result->Shared->Prop),Room k A->qC P w K mg base A outer s H->BindsTo s fd args (ps.zip us)->Vals vs us →
  Reps K O H ts vs->(∀a,O a->Mtb H a)->ts.length=n->g ts= .err c->(∀ev s',RzC P w mg outer H s c ev s'->R (.error ev) s')->codeAny (model P w) A (.call (.ref f) args) R s
structure wX (P:Program)(w:World)(K:PySem.W.Frag)(mg:Str->Option Value)(base:Heap)(k:Nat)(f:Addr)(fd:FuncData)(ps:List Str)(n:Nat)(g:List T->Rs T):Prop where
 h:oH P w K mg base CX0 k f fd ps (spP K n g)
 x:FnX P w K mg base k f fd ps n g
theorem vE {P:Program}{w:World}{H:Hp}{h:Heap}{a:Addr}{o:HO}(x:ObjOk P w H h a o):∃u,h.get? a=some u:=by
 cases o with
 | lst xs=>obtain⟨_,_,_,_,e⟩:=x;exact⟨_,e⟩
 | tup xs=>obtain⟨_,_,_,ob,e,_⟩:=x;exact⟨_,e⟩
 | dK kvs=>obtain⟨_,_,_,_,o,_,_,e,_⟩:=x;exact⟨_,e⟩
 | dT kvs=>obtain⟨_,_,_,_,o,_,_,e,_⟩:=x;exact⟨_,e⟩
 | set S n=>obtain⟨o,_,_,_,e,_⟩:=x;exact⟨_,e⟩
 | ins C dx fs=>obtain⟨_,_,_,e,_⟩:=x;exact⟨_,e⟩
 | own y=>obtain⟨_,e⟩:=x;exact⟨_,e⟩
 | xd fs=>obtain⟨_,⟨_,_,_,e,_⟩,_⟩:=x;exact⟨_,e⟩
 | rng lo hi=>obtain⟨_,_,_,e⟩:=x;exact⟨_,e⟩
 | frz ob u=>obtain⟨e,_⟩:=x;exact⟨_,e⟩
 | tbl ps=>exact⟨_,(show h.get? a=some _ from x)⟩
 | met f y=>exact⟨_,(show h.get? a=some _ from x)⟩
 | ext φ=>obtain⟨_,⟨_,e⟩,_⟩:=x;exact⟨_,e⟩
theorem k8 {X:Cx}{pins:List (Addr×Obj)}{σ:L2.St}{H:Hp}{s:Shared}(I:Inv X pins σ H s){e:Addr}(n:s.heap.get? e=none):H e=none:=by
 cases z:H e with
 | none=>rfl
 | some o=>
  obtain⟨o',ho'⟩:=vE (I.hok e o z);rw[n]at ho';cases ho'
theorem iP {X:Cx}{pins:List (Addr×Obj)}{σ:L2.St}{H:Hp}{s:Shared}(I:Inv X pins σ H s)(hex:X.ex= []){e:Addr}(n:s.heap.get? e=none):X.s₀.heap.get? e=none:=by
 cases z:X.s₀.heap.get? e with
 | none=>rfl
 | some o=>
  obtain⟨o',ho'⟩:=I.base.there e o z (by rw[hex];simp)
  rw[n]at ho';cases ho'
theorem AE {n k:Nat}{f:Addr}{fd:FuncData}{ps:List Str}{g:List T->Rs T}(F:wX X.prog X.w X.K X.mg X.base k f fd ps n g)(hr:Room k X.A)(hm:X.mg x=some (.ref f))(hk:PySem.W.keepIn X.K (.ref f)=true)(hb:Binds X.K fd ps [])(hps:ps.length=n)
  (hl:∀Z ts,fs Z= .ok ts->ts.length=n) (ha:nj X (e::es) fs) (hg:Gl X x:=by rfl) (hdb:(x == ("__debug__" : Str))=false:=by decide) (he:starEach (e::es) X.env=(false,eval e X.env)::starEach es X.env:=by rfl) (hpl:(backTo pos (starEach es X.env)).any (·.1)=false:=by rfl) :
  cq X (.Call (.Name x p) (e::es) [] pos) (cl g fs):=by
 intro pins s σ H Q I ⟨Z,O,E,hq⟩
 have hq':Post X H (fs Z >>= g) λt H'=> ∀v,Rep X.K O H' t v->Q v H':=hq
 cases q:fs Z with
 | bad=>rw[q]at hq';exact hq'.elim
 | err c=>
  rw[q]at hq';refine rY (E:=E0) F.h hr hg hm hk hb .nil vt ha hdb he hpl pins s σ H Q I ⟨Z,O,E,?_⟩
  rw[q]
  exact hq'
 | ok ts=>
  rw[q]at hq'
  have hq2:Post X H (g ts) λt H'=> ∀v,Rep X.K O H' t v->Q v H':=hq'
  cases q2:g ts with
  | bad=>rw[q2]at hq2;exact hq2.elim
  | ok t=>
   rw[q2]at hq2;refine rY (E:=E0) F.h hr hg hm hk hb .nil vt ha hdb he hpl pins s σ H Q I ⟨Z,O,E,?_⟩
   rw[q];intro H1 s1 vs rs;rw[List.append_nil];refine⟨ts,O,rs,(E.same s1).mtb,hl Z ts q,?_⟩
   rw[q2]
   exact λv H' s2 r=>hq2 H' (s1.trans s2) v r
  | err c=>
   rw[q2]at hq2;refine wpAny_Call_Name_kw (ii I hg hm ?_ hdb)
   refine PySem.W.callWith_K (h₀:=X.base) I.ok.mod.kin hk (bS (ha pos pins s σ H (λvs H'=>Same H H'/\Reps X.K O H' ts vs) I ⟨Z,O,E,?_⟩) (λus s1 ⟨vs,H1,I1,r,sm,rs⟩=>⟨I1.kIn,?_⟩)) he hpl
   ·rw[q];exact λH' sm vs rs=>⟨sm,rs⟩
   ·have hlen:us.length=ps.length:=by rw[<-r.length,<-rs.length,hl Z ts q,hps]
    have hb':=hb s1 us I1.kIn (by rw[List.append_nil];exact hlen)
    rw[List.append_nil]at hb';refine wpAny_call (codeAny_mono (F.x X.A X.stack s1 H1 ⟨us,[]⟩ us vs O ts c (λr s'=>match r with | .error ev=>X.xe ev s' | _=>False) hr I1.env0 hb' r rs (E.same sm).mtb (hl Z ts q) q2 λev s' w=> ?_) λr s' hq=> ?_)
    ·obtain⟨ea,T,C,H',rfl,hmc,ho,hbare,hun,hok,sm2,hea,heo,fl,hT,hTo⟩:=w
     have I2:Inv X pins σ H' s':=I1.call' ho hun hok hbare (λb z=>absurd z (by simp))
     exact hq2 pins _ _ ⟨ea,some T,C,σ,H',rfl,hmc,I2,λb o q _=>sm2 b o (sm b o q),hea,λhex=>iP I1 hex heo,fl,(λt zt=>by cases zt;exact⟨hT,λhex=>iP I1 hex hTo⟩),λpp hpp=>⟨λzz=>(by have:=(I1.pin pp hpp).1;rw[zz,heo]at this;cases this),λzz=>(by cases zz;have:=(I1.pin pp hpp).1;rw[hTo]at this;cases this)⟩⟩
    ·cases r with
     | error ev=>exact hq
     | ok fl=>exact hq.elim
def tD (X:Cx)(g:T->En->Rs En):TG:=λv σ H Q=> ∃Z O M t,EnvM X.K O M H Z σ/\Rep X.K O H t v/\match g t Z with
 | .ok Z'=> ∀σ',EnvM X.K O M H Z' σ'->Q σ' H
 | _=>False
abbrev wU (X:Cx)(tg:Expr)(g:T->En->Rs En):Prop:=PG X tg (tD X g)
def tPGs (X:Cx)(g:List T->En->Rs En):za:=λvs σ H Q=> ∃Z O M ts,EnvM X.K O M H Z σ/\Reps X.K O H ts vs/\match g ts Z with
 | .ok Z'=> ∀σ',EnvM X.K O M H Z' σ'->Q σ' H
 | _=>False
abbrev wV (X:Cx)(tg:List Expr)(g:List T->En->Rs En):Prop:=PGs X tg (tPGs X g)
theorem PG.imp {X:Cx}{e:Expr}{t t':TG}(h:PG X e t)(w:∀v σ H Q,t' v σ H Q->t v σ H Q):PG X e t':=λpins s σ H v u Q I r q=>h pins s σ H v u Q I r (w v σ H Q q)
theorem PGs.imp {X:Cx}{e:List Expr}{t t':za}(h:PGs X e t)(w:∀v σ H Q,t' v σ H Q->t v σ H Q):PGs X e t':=λpins s σ H v u Q I r q=>h pins s σ H v u Q I r (w v σ H Q q)
def gN (i:Nat)(t:T)(Z:En):Rs En:=if i<Z.length then .ok (Z.set i (.va t))else .bad
theorem EnvM.set {K:PySem.W.Frag}{O:Ow}{M:Mn}{H:Hp}{Z:En}{σ:L2.St}{i:Nat}{t:T}{v:V}(E:EnvM K O M H Z σ)(hi:i<Z.length)(r:Rep K O H t v):EnvM K O M H (Z.set i (.va t)) (σ.set i (some v)) where
 len:=by rw[List.length_set,List.length_set];exact E.len
 val:=λj u e=>by
  by_cases hj:i=j
  ·subst hj
   rw[List.getElem?_set_self hi]at e
   cases e;exact⟨v,List.getElem?_set_self (by rw[<-E.len];exact hi),r⟩
  ·rw[List.getElem?_set_ne hj]at e
   obtain⟨w,e1,e2⟩:=E.val j u e;exact⟨w,by rw[List.getElem?_set_ne hj];exact e1,e2⟩
 own:=λj o e=>by
  by_cases hj:i=j
  ·subst hj
   rw[List.getElem?_set_self hi]at e
   cases e
  ·rw[List.getElem?_set_ne hj]at e
   obtain⟨w,e1,e2⟩:=E.own j o e;exact⟨w,by rw[List.getElem?_set_ne hj];exact e1,e2⟩
 sub:=E.sub
 dis:=E.dis
 trk:=E.trk
theorem xR (i:Nat)(hN:X.N.Nodup)(hi:X.N[i]? =some x:=by rfl)(hx:Loc X.env.scope x:=by first | exact Or.inl rfl | exact Or.inr rfl)(hf:X.fn x=true\/X.env.scope.names.lookup x=some .local:=by first | exact .inl rfl | exact .inr rfl | assumption):wU X (.Name x pos) (gN i):=
 PG.imp (yc hN hi hx hf) λv σ H Q hh_=>by
  obtain⟨Z,O,M,t,E,r,h⟩:=hh_;unfold gN at h
  split at h
  ·rename_i Z' e
   split at e
   ·rename_i hl
    cases e;exact h _ (E.set hl r)
   ·cases e
  ·exact h.elim
def j4 (ts:List T)(Z:En):Rs En:=match ts with
 | [] => .ok Z
 | _=> .bad
def dI (g:T->En->Rs En)(gs:List T->En->Rs En)(ts:List T)(Z:En):Rs En:=match ts with
 | t::r=>do
  let Z1 <-g t Z
  gs r Z1
 | [] => .bad
theorem xQ:wV X [] j4:=PGs.imp yb λvs σ H Q hh_=>by
 obtain⟨Z,O,M,ts,E,r,h⟩:=hh_;unfold j4 at h
 cases ts with
 | nil=>exact⟨Reps.nil_iff.mp r,h σ E⟩
 | cons _ _=>exact h.elim
theorem u7 {g:T->En->Rs En}{gs:List T->En->Rs En}(h1:wU X e g)(h2:wV X es gs)
  (hs:(assignEach (e::es) X.env).map (·.2)=assign e X.env::(assignEach es X.env).map (·.2):=by rfl):wV X (e::es) (dI g gs):=
 PGs.imp (vi h1 h2 hs) λvs σ H Q hh_=>by
  obtain⟨Z,O,M,ts,E,r,h⟩:=hh_
  cases ts with
  | nil=>exact h.elim
  | cons t ts=>
   obtain⟨v,ws,rfl,p,q⟩:=Reps.cons_iff.mp r;refine⟨v,ws,rfl,Z,O,M,t,E,p,?_⟩
   unfold dI at h
   cases e1:g t Z with
   | bad=>simp[e1]at h
   | err c=>simp[e1]at h
   | ok Z1=>
    intro σ1 E1;refine⟨Z1,O,M,ts,E1,q,?_⟩
    simp only[e1,ay]at h
    cases e2:gs ts Z1 with
    | bad=>simp[e2]at h
    | err c=>simp[e2]at h
    | ok Z2=>
     simp only[e2]at h;exact λσ2 E2=>h σ2 E2
def gT (n:Nat)(gs:List T->En->Rs En)(t:T)(Z:En):Rs En:=match t with
 | .tup l=>if l.length=n then gs l Z else .bad
 | _=> .bad
theorem AA {k n:Nat}{gs:List T->En->Rs En}(hc:X.calm=true)(h:wV X es gs)(hn:(assignEach es X.env).length=n:=by rfl)(hst:(assignEach es X.env).findIdx? (·.1)=none:=by rfl):wU X (.Tuple es k pos) (gT n gs):=
 PG.imp (AI hc h hn hst) λv σ H Q hh_=>by
  obtain⟨Z,O,M,t,E,r,h⟩:=hh_;unfold gT at h
  cases t with
  | tup l=>
   obtain⟨a,vs,rfl,n',q,z⟩:=Rep.tup_iff.mp r
   by_cases hl:l.length=n
   ·simp only[if_pos hl]at h
    exact⟨a,vs,rfl,SqT.of q,by rw[<-z.length];exact hl,Z,O,M,l,E,z,h⟩
   ·simp only[if_neg hl]at h
  | _=>exact h.elim
theorem SqL.nn {K:PySem.W.Frag}{H:Hp}{a:Addr}{vs:List V}(q:SqL K H a vs):¬ Nw K H a:=λ⟨h1,h2⟩=>by
 rcases q with(q | ⟨o,q⟩) | ⟨o,_,_,q,_⟩
 ·rw[h1]at q;cases q
 ·rw[h1]at q;cases q
 ·rw[h2]at q;cases q
mutual
theorem Rep.more {K:PySem.W.Frag}{O O':Ow}{H:Hp}(sub:∀a,O' a->O a\/Nw K H a):∀{t:T} {v:V},Rep K O H t v->Rep K O' H t v
 | .non,_,r=>by unfold Rep at r ⊢;exact r
 | .bl _,_,r=>by unfold Rep at r ⊢;exact r
 | .int _,_,r=>by unfold Rep at r ⊢;exact r
 | .str _,_,r=>by unfold Rep at r ⊢;exact r
 | .tup l,_,r=>by
  unfold Rep at r ⊢;obtain⟨a,vs,e,n,q,z⟩:=r
  exact⟨a,vs,e,λp=>(sub a p).elim n λw=>(by rw[w.1]at q;cases q),q,Reps.more sub z⟩
 | .lst l,_,r=>by
  unfold Rep at r ⊢;obtain⟨a,vs,e,n,q,z⟩:=r
  exact⟨a,vs,e,λp=>(sub a p).elim n λw=>(by rw[w.1]at q;cases q),q,Reps.more sub z⟩
 | .scr l,_,r=>by
  unfold Rep at r ⊢;obtain⟨a,e,n,q⟩:=r
  exact⟨a,e,λp=>(sub a p).elim n λw=>Tr.SqL.nn q w,q⟩
 | .dct ks ts,_,r=>by
  unfold Rep at r ⊢;obtain⟨a,kvs,e,n,q,k,z⟩:=r;exact⟨a,kvs,e,λp=>(sub a p).elim n λw=>(by rcases q with q | ⟨_,q⟩ <;> rw[w.1]at q <;> cases q),q,k,Reps.more sub z⟩
theorem Reps.more {K:PySem.W.Frag}{O O':Ow}{H:Hp}(sub:∀a,O' a->O a\/Nw K H a):∀{l:List T} {vs:List V},Reps K O H l vs->Reps K O' H l vs
 | [],_,r=>by unfold Reps at r ⊢;exact r
 | t::l,_,r=>by
  unfold Reps at r ⊢;obtain⟨v,ws,e,p,q⟩:=r;exact⟨v,ws,e,Rep.more sub p,Reps.more sub q⟩
end
theorem Rep.move {K:PySem.W.Frag}{O O' P:Ow}{H H':Hp}{t:T}{v:V}(hP:∀a,P a->O a\/Nw K H a)(hO:∀a,O' a->O a\/Nw K H a)(h:SameO P H H')(r:Rep K O H t v):Rep K O' H' t v:=
 Rep.less (O:=λa=>O' a\/P a) (λ_ z=> .inl z) (Rep.keep h (λ_ z=> .inr z) (Rep.more (λa z=>z.elim (hO a) (hP a)) r))
theorem Reps.move {K:PySem.W.Frag}{O O' P:Ow}{H H':Hp}{t:List T}{v:List V}(hP:∀a,P a->O a\/Nw K H a)(hO:∀a,O' a->O a\/Nw K H a)(h:SameO P H H')(r:Reps K O H t v):Reps K O' H' t v:=
 Reps.less (O:=λa=>O' a\/P a) (λ_ z=> .inl z) (Reps.keep h (λ_ z=> .inr z) (Reps.more (λa z=>z.elim (hO a) (hP a)) r))
def Dd (K:PySem.W.Frag)(O:Ow)(H:Hp)(ts:List T)(J:It):Prop:=∀(P O':Ow),(∀a,P a->O a\/Nw K H a)->(∀a,O' a->O a\/Nw K H a)->∀(i:Nat) (Hc:Hp),SameO P H Hc->(∀a,O' a->∃o,Hc a=some o) →
 (ts.length<=i->J.stop i Hc)/\(∀t,ts[i]? =some t->J.go i Hc/\∀x Hc',J.yld i Hc x Hc'->Same Hc Hc'/\Rep K O' Hc' t x)
def Di (X:Cx)(f:En->Rs (List T)):TI:=λσ H R=> ∃Z O,EnvO X.K O H Z σ/\Post X H (f Z) λts H'=> ∀J,Dd X.K O H' ts J->R J H'
abbrev uF (X:Cx)(tg iter:Expr)(f:En->Rs (List T)):Prop:=PI X tg iter (Di X f)
theorem PI.imp {tg iter:Expr}{t t':TI}(h:PI X tg iter t)(w:∀σ H R,t' σ H R->t σ H R):PI X tg iter t':=λpins s σ H R I q=>h pins s σ H R I (w σ H R q)
def iL (f:En->Rs T)(Z:En):Rs (List T):=do
 let x <-f Z
 match x with
 | .lst l=> .ok l
 | _=> .bad
def iT (f:En->Rs T)(Z:En):Rs (List T):=do
 let x <-f Z
 match x with
 | .tup l=> .ok l
 | _=> .bad
theorem rR {tg:Expr}(ha:cq X a fa):uF X tg a (iL fa):=PI.imp (x9 ha) λσ H R hh_=>by
 obtain⟨Z,O,E,h⟩:=hh_;obtain⟨Z1,O1,E1,h1⟩:=bc E h;refine⟨Z1,O1,E1,Post.mono h1 λts H1 s1 q vs r=> ?_⟩
 obtain⟨t',r',s',E',q'⟩:=q vs r
 split at q'
 ·rename_i l
  obtain⟨a,ws,rfl,n,q,z⟩:=Rep.lst_iff.mp r';refine⟨a,rfl,⟨ws,SqL.of q⟩,q' H1 (Same.refl H1) _ λP O' hP hO i Hc hs ht=> ?_⟩
  have hnP:¬ P a:=λz=>(hP a z).elim n λw=>by rw[w.1]at q;cases q
  refine⟨λhi=>⟨ws,SqL.of (hs _ _ q hnP),by rw[<-z.length];exact hi⟩,λt ht'=> ?_⟩
  obtain⟨v,e1,e2⟩:=z.get ht';refine⟨⟨ws,v,SqL.of (hs _ _ q hnP),e1⟩,λx Hc' y=> ?_⟩
  obtain⟨e,y⟩:=y;subst e
  have:=y ws (SqL.of (hs _ _ q hnP));rw[e1]at this;cases this;exact⟨Same.refl _,e2.move hP hO hs⟩
 ·exact q'.elim
theorem Ay {tg:Expr}(ha:cq X a fa):uF X tg a (iT fa):=PI.imp (AH ha) λσ H R hh_=>by
 obtain⟨Z,O,E,h⟩:=hh_;obtain⟨Z1,O1,E1,h1⟩:=bc E h;refine⟨Z1,O1,E1,Post.mono h1 λts H1 s1 q vs r=> ?_⟩
 obtain⟨t',r',s',E',q'⟩:=q vs r
 split at q'
 ·rename_i l
  obtain⟨a,ws,rfl,n,q,z⟩:=Rep.tup_iff.mp r';refine⟨a,rfl,⟨ws,SqT.of q⟩,q' H1 (Same.refl H1) _ λP O' hP hO i Hc hs ht=> ?_⟩
  have hnP:¬ P a:=λz=>(hP a z).elim n λw=>by rw[w.1]at q;cases q
  refine⟨λhi=>⟨ws,SqT.of (hs _ _ q hnP),by rw[<-z.length];exact hi⟩,λt ht'=> ?_⟩
  obtain⟨v,e1,e2⟩:=z.get ht';refine⟨⟨ws,v,SqT.of (hs _ _ q hnP),e1⟩,λx Hc' y=> ?_⟩
  obtain⟨e,y⟩:=y;subst e
  have:=y ws (SqT.of (hs _ _ q hnP));rw[e1]at this;cases this;exact⟨Same.refl _,e2.move hP hO hs⟩
 ·exact q'.elim
def rng (lo hi:Int):List T:=(List.range (hi - lo).toNat).map λ(k:Nat)=>T.int (lo+(k:Int))
def rk (i:Int):Bool:=decide (-(2 ^ 62)<=i)&&decide (i<2 ^ 62)
def iR (f:En->Rs (List T))(Z:En):Rs (List T):=do
 let x <-f Z
 match x with
 | [.int j] =>if rk j then .ok (rng 0 j)else .bad
 | [.int i,.int j] =>if rk i&&rk j then .ok (rng i j)else .bad
 | _=> .bad
theorem im {i:Int}(h:rk i=true) : -(2 ^ 62)<=i/\i<2 ^ 62:=by
 unfold rk at h;rw[Bool.and_eq_true]at h;exact⟨of_decide_eq_true h.1,of_decide_eq_true h.2⟩
theorem kj {K:PySem.W.Frag}{O:Ow}{H:Hp}(lo hi:Int):Dd K O H (rng lo hi) (Itr lo (hi - lo).toNat):=λP O' hP hO i Hc hs ht=>by
 refine⟨λh=> ?_,λt h=> ?_⟩
 ·show(hi - lo).toNat<=i
  unfold rng at h;rw[List.length_map,List.length_range]at h;exact h
 ·unfold rng at h
  rw[List.getElem?_map]at h
  by_cases hi':i<(hi - lo).toNat
  ·rw[List.getElem?_range hi']at h
   cases h;refine⟨hi',λx Hc' y=> ?_⟩
   obtain⟨e,y⟩:=y;subst e y;exact⟨Same.refl _,Rep.int_ _⟩
  ·rw[List.getElem?_eq_none (by simpa using hi')]at h
   cases h
theorem tH {tg:Expr}(hm:X.mg "range" =none)(ha:nj X [a] fs)(hg:Gl X "range":=by rfl)(hs:starEach [a] X.env= [(false,eval a X.env)]:=by rfl):uF X tg (.Call (.Name "range" p) [a] [] pos) (iR fs):=by
 intro pins s σ H R I ⟨Z,O,E,h⟩
 have h1:=d6 E h;refine Call_ (eI I hg hm boot_range (PyProof.Rows.callWith_type1 (bS (ha pos pins s σ H _ I h1) λus s1 ⟨vs,H1,I1,r1,ts,rs,s',E',q1⟩=> ?_) hs rfl))
 split at q1
 ·obtain⟨v,rfl,r⟩:=rs.one
  split at q1
  ·rename_i j hj
   obtain⟨b1,b2⟩:=im hj;cases Rep.int_iff.mp r
   cases r1 with
   | cons r rr=>
    cases rr;obtain⟨t,rfl⟩:=r;exact call_range_1 (jb I1 (by omega) (by omega) b1 b2 (q1 H1 (Same.refl H1) _ (kj 0 j)))
  ·exact q1.elim
 ·obtain⟨v,ws,rfl,p1,q⟩:=Reps.cons_iff.mp rs
  obtain⟨v2,rfl,r⟩:=q.one
  split at q1
  ·rename_i i j hj
   rw[Bool.and_eq_true]at hj;obtain⟨b1,b2⟩:=im hj.1;obtain⟨b3,b4⟩:=im hj.2;cases Rep.int_iff.mp p1;cases Rep.int_iff.mp r
   cases r1 with
   | cons r rr=>
    cases rr with
    | cons r' rr=>
     cases rr;obtain⟨t,rfl⟩:=r;obtain⟨t',rfl⟩:=r';exact call_range_2 (jb I1 b1 b2 b3 b4 (q1 H1 (Same.refl H1) _ (kj i j)))
  ·exact q1.elim
 ·exact q1.elim
theorem tG {tg:Expr}(hm:X.mg "range" =none)(ha:nj X [a,b] fs)(hg:Gl X "range":=by rfl)(hs:starEach [a,b] X.env= [(false,eval a X.env),(false,eval b X.env)]:=by rfl)(hs2:starEach [b] X.env= [(false,eval b X.env)]:=by rfl) :
  uF X tg (.Call (.Name "range" p) [a,b] [] pos) (iR fs):=by
 intro pins s σ H R I ⟨Z,O,E,h⟩
 have h1:=d6 E h;refine Call_ (eI I hg hm boot_range (PyProof.Rows.callWith_type1 (bS (ha pos pins s σ H _ I h1) λus s1 ⟨vs,H1,I1,r1,ts,rs,s',E',q1⟩=> ?_) (by rw[hs,hs2]) (by rw[hs2];rfl)))
 split at q1
 ·obtain⟨v,rfl,r⟩:=rs.one
  split at q1
  ·rename_i j hj
   obtain⟨b1,b2⟩:=im hj;cases Rep.int_iff.mp r
   cases r1 with
   | cons r rr=>
    cases rr;obtain⟨t,rfl⟩:=r;exact call_range_1 (jb I1 (by omega) (by omega) b1 b2 (q1 H1 (Same.refl H1) _ (kj 0 j)))
  ·exact q1.elim
 ·obtain⟨v,ws,rfl,p1,q⟩:=Reps.cons_iff.mp rs
  obtain⟨v2,rfl,r⟩:=q.one
  split at q1
  ·rename_i i j hj
   rw[Bool.and_eq_true]at hj;obtain⟨b1,b2⟩:=im hj.1;obtain⟨b3,b4⟩:=im hj.2;cases Rep.int_iff.mp p1;cases Rep.int_iff.mp r
   cases r1 with
   | cons r rr=>
    cases rr with
    | cons r' rr=>
     cases rr;obtain⟨t,rfl⟩:=r;obtain⟨t',rfl⟩:=r';exact call_range_2 (jb I1 b1 b2 b3 b4 (q1 H1 (Same.refl H1) _ (kj i j)))
  ·exact q1.elim
 ·exact q1.elim
end
section
variable {X:Cx}{a b c e:Expr}{es:List Expr}{fa fb fc:En->Rs T}{fs:En->Rs (List T)}{pos p p2:Pos}{x:Str}
def a8 (src:List (Option Nat))(Z:En):En:=src.map λo=>match o with
 | some i=>match Z[i]? with
  | some (.va t)=> .va t
  | _=> .em
 | none=> .em
def cH (tgt:T->En->Rs En)(fc:En->Rs Bool)(fe:En->Rs T):List T->En->Rs (List T)
 | [],_=> .ok []
 | t::r,Z=>do
  let Z1 <-tgt t Z
  let k <-fc Z1
  if k then do
   let y <-fe Z1
   let ys <-cH tgt fc fe r Z1
   .ok (y::ys)
  else cH tgt fc fe r Z1
def eh (fi:En->Rs (List T))(src:List (Option Nat))(tgt:T->En->Rs En)(fc:En->Rs Bool)(fe:En->Rs T)(Z:En):Rs T:=do
 let ts <-fi Z
 if ts.length<=sizeLine then match cH tgt fc fe ts (a8 src Z)with
  | .ok ys=> .ok (.lst ys)
  | _=> .bad
 else .bad
def bT (_:En):Rs Bool:=.ok true
def tP0 (K:PySem.W.Frag)(f:En->Rs T):TE:=λσ H Q=> ∃Z O,EnvO K O H Z σ/\match f Z with
 | .ok t=> ∀H',Same H H'->∀v,Rep K O H' t v->Q v H'
 | _=>False
def tPT0 (K:PySem.W.Frag)(f:En->Rs Bool):TT:=λσ H Q=> ∃Z O,EnvO K O H Z σ/\match f Z with
 | .ok t=> ∀H',Same H H'->Q t H'
 | _=>False
theorem tP0.up {f:En->Rs T}{σ:L2.St}{H:Hp}{Q:VK}(h:tP0 X.K f σ H Q):tP X f σ H Q:=by
 obtain⟨Z,O,E,h⟩:=h;refine⟨Z,O,E,?_⟩
 cases q:f Z with
 | ok t=>rw[q]at h;exact h
 | err c=>rw[q]at h;exact h.elim
 | bad=>rw[q]at h;exact h.elim
theorem tPT0.up {f:En->Rs Bool}{σ:L2.St}{H:Hp}{Q:Bool->Hp->Prop}(h:tPT0 X.K f σ H Q):wZ X f σ H Q:=by
 obtain⟨Z,O,E,h⟩:=h;refine⟨Z,O,E,?_⟩
 cases q:f Z with
 | ok t=>rw[q]at h;exact h
 | err c=>rw[q]at h;exact h.elim
 | bad=>rw[q]at h;exact h.elim
theorem xO:tf X [] (wZ X bT):=λpins s σ H Q I ⟨Z,O,E,h⟩=>nN pins s σ H Q I (h H (Same.refl H))
theorem xN {f:En->Rs Bool}(h:uv X c f):tf X [c] (wZ X f):=x6 h
abbrev noM:Mn:=λ_ _=>False
theorem tZ {src:List (Option Nat)}{Z:En}{j:Nat}{o:OT}(e:(a8 src Z)[j]? =some (.ow o)):False:=by
 unfold a8 at e;rw[List.getElem?_map]at e
 cases q:src[j]? with
 | none=>rw[q]at e;cases e
 | some o'=>
  rw[q]at e
  cases o' with
  | none=>cases e
  | some i=>
   have e':(match Z[i]? with | some (Sl.va t)=>Sl.va t | _=>Sl.em)=Sl.ow o:=Option.some.inj e
   split at e' <;> cases e'
theorem p9 {K:PySem.W.Frag}{O:Ow}{H:Hp}{Z:En}{σ:L2.St}(E:EnvO K O H Z σ)(src:List (Option Nat)):EnvM K O noM H (a8 src Z) (eX src σ) where
 len:=by unfold a8 eX;rw[List.length_map,List.length_map]
 val:=λj t e=>by
  unfold a8 at e;unfold eX;rw[List.getElem?_map]at e ⊢
  cases q:src[j]? with
  | none=>rw[q]at e;cases e
  | some o=>
   rw[q]at e
   cases o with
   | none=>cases e
   | some i=>
    have e':(match Z[i]? with | some (Sl.va t)=>Sl.va t | _=>Sl.em)=Sl.va t:=Option.some.inj e
    cases q2:Z[i]? with
    | none=>rw[q2]at e';cases e'
    | some z=>
     rw[q2]at e'
     cases z with
     | em=>cases e'
     | ow l=>cases e'
     | va t'=>
      cases e';obtain⟨v,e1,e2⟩:=E.val i _ q2;exact⟨v,by simp[e1],e2⟩
 own:=λj o e=>(tZ e).elim
 sub:=λ_ _ z=>z.elim
 dis:=λ_ _ _ z=>z.elim
 trk:=E.mtb
theorem ORep.no {K:PySem.W.Frag}{O:Ow}{H:Hp}{o:OT}{v:V}(r:ORep K O r8 H o v):False:=by
 cases o with
 | lst l=>obtain⟨a,_,_,e,_⟩:=r;exact(e a).mpr rfl
 | dct ks ts=>obtain⟨a,_,_,e,_⟩:=r;exact(e a).mpr rfl
 | dd ks rows=>obtain⟨a,_,_,_,e,_⟩:=r;exact(e a).mpr (.inl rfl)
theorem EnvM.move {K:PySem.W.Frag}{O O' P:Ow}{H H':Hp}{Z:En}{σ:L2.St}(E:EnvM K O noM H Z σ)(hP:∀a,P a->O a\/Nw K H a)(hO:∀a,O' a->O a\/Nw K H a)(h:SameO P H H')(trk:∀a,O' a->Mtb H' a):EnvM K O' noM H' Z σ where
 len:=E.len
 val:=λi t e=>let ⟨v,e1,e2⟩:=E.val i t e;⟨v,e1,e2.move hP hO h⟩
 own:=λi o e=>let ⟨_,_,r⟩:=E.own i o e;r.no.elim
 sub:=λ_ _ z=>z.elim
 dis:=λ_ _ _ z=>z.elim
 trk:=trk
def BN (fi:En->Rs (List T))(src:List (Option Nat))(tgt:T->En->Rs En)(fc:En->Rs Bool)(fe:En->Rs T)(Z:En):Rs (List T):=fi Z >>= λts=>if ts.length<=sizeLine then(match cH tgt fc fe ts (a8 src Z)with | .ok ys=>Rs.ok ys | _=> .bad)else .bad
theorem vS {src:List (Option Nat)}{fi:En->Rs (List T)}{tgt:T->En->Rs En}{fc:En->Rs Bool}{fe:En->Rs T}{Z:En}:eh fi src tgt fc fe Z=BN fi src tgt fc fe Z >>= λl=> .ok (.lst l):=by
 unfold eh BN
 cases fi Z with
 | bad=>rfl
 | err c=>rfl
 | ok ts=>
  rw[ay,ay]
  by_cases hz:ts.length<=sizeLine
  ·rw[if_pos hz,if_pos hz]
   cases cH tgt fc fe ts (a8 src Z) <;> rfl
  ·rw[if_neg hz,if_neg hz];rfl
theorem vR {src:List (Option Nat)}{fi:En->Rs (List T)}{tgt:T->En->Rs En}{fc:En->Rs Bool}{fe:En->Rs T}{σ:L2.St}{H:Hp}{Q:VK}{Z:En}{O:Ow}(E:EnvO X.K O H Z σ)
  (hq1:Post X H (BN fi src tgt fc fe Z) λall H1=> ∀D ys H',Nw X.K H1 D->Same H1 H'->H' D=some (.lst ys)->Reps X.K (λa=>O a\/a=D) H' all ys->Q (.ref D) H'):zZ X.K (Di X fi) src (tD X tgt) (tPT0 X.K fc) (tP0 X.K fe) σ H Q:=by
 unfold BN at hq1;refine⟨Z,O,E,Post.mono hq1.bind λts H1 s1 q1 J hJ D hD hK=> ?_⟩
 have E1:=E.same s1
 by_cases hz:ts.length<=sizeLine
 ·rw[if_pos hz]at q1
  cases hall:cH tgt fc fe ts (a8 src Z)with
  | bad=>rw[hall]at q1;exact q1.elim
  | err c=>rw[hall]at q1;exact q1.elim
  | ok all=>
   rw[hall]at q1
   have q2:∀D ys H',Nw X.K H1 D->Same H1 H'->H' D=some (.lst ys)->Reps X.K (λa=>O a\/a=D) H' all ys->Q (.ref D) H':=q1 H1 (Same.refl H1)
   have nD:Nw X.K H1 D:=⟨hD,hK⟩
   let O':Ow:=λa=>O a\/a=D
   have subO:∀a,O' a->O a\/Nw X.K H1 a:=λa z=>z.elim .inl λw=> .inr (w▸nD)
   -- the walk's word
   refine⟨λi m σ' ys H'=>m=ts.length - i/\i<=ts.length/\ys.length<=i/\H' D=some (.lst ys)/\SameO (λa=>a=D) (upd H1 D (.lst [])) H' ∧
    ∃Z' yts zs,EnvM X.K O' noM H' Z' σ'/\Reps X.K O' H' yts ys/\cH tgt fc fe (ts.drop i) Z'= .ok zs/\yts++zs=all,⟨ts.length,?_⟩,?_⟩
   ·have sN:Same H1 (upd H1 D (.lst [])):=aM hD _
    refine⟨by omega,Nat.zero_le _,Nat.le_refl _,aw,λb o e _=>e,a8 src Z,[],all,?_,Reps.nil_,by simpa using hall,rfl⟩
    have E2:EnvM X.K O noM H1 (a8 src Z) (eX src σ):=p9 E1 src
    exact E2.move (P:=λa=>a=D) (λa z=> .inr (z▸nD)) subO (λb o e _=>sN b o e) λa z=>by
     rcases z with z | z
     ·exact(E1.mtb a z).same sN
     ·rw[z];exact .inl ⟨_,aw⟩
   ·rintro i m σ' ys H' ⟨rfl,hi',hyl,hDl,hsm,Z',yts,zs,E',ry,hl,hyz⟩
    refine⟨hDl,?_⟩
    have sm1:SameO (λa=>a=D) H1 H':=λb o e nb=>hsm b o (by rw[ar nb];exact e) nb
    have it:=hJ (λa=>a=D) O' (λa z=> .inr (z▸nD)) subO i H' sm1 (λa z=>(E'.trk a z).some)
    by_cases hlt:i<ts.length
    ·refine .inr ?_
     have hti:ts[i]? =some ts[i]:=by simp
     obtain⟨go,yl⟩:=it.2 ts[i] hti;refine⟨go,by omega,λxx Hc y=> ?_⟩
     obtain⟨sc,rx⟩:=yl xx Hc y
     have Ec:=E'.same sc;rw[List.drop_eq_getElem_cons hlt]at hl;unfold cH at hl;refine⟨Z',O',noM,ts[i],Ec,rx,?_⟩
     cases e1:tgt ts[i] Z' with
     | bad=>rw[e1]at hl;cases hl
     | err cc=>rw[e1]at hl;cases hl
     | ok Z1=>
      rw[e1,ay]at hl;intro σ1 Eg;refine⟨Z1,O',⟨noM,Eg⟩,?_⟩
      cases e2:fc Z1 with
      | bad=>rw[e2]at hl;cases hl
      | err cc=>rw[e2]at hl;cases hl
      | ok k=>
       rw[e2,ay]at hl;intro H3 s3
       have E3:=Eg.same s3
       have tot:Same H' H3:=sc.trans s3
       have D3:H3 D=some (.lst ys):=tot _ _ hDl
       have sm3:SameO (λa=>a=D) (upd H1 D (.lst [])) H3:=λb o e nb=>tot _ _ (hsm b o e nb)
       cases k with
       | false=>
        refine L2.iteF ?_
        have hl':cH tgt fc fe (ts.drop (i+1)) Z1= .ok zs:=by simpa using hl
        exact⟨ts.length - (i+1),by omega,rfl,hlt,by omega,D3,sm3,Z1,yts,zs,E3,ry.same tot,hl',hyz⟩
       | true=>
        refine L2.iteT ?_
        have hl':(fe Z1 >>= λy=>cH tgt fc fe (ts.drop (i+1)) Z1 >>= λys=>Rs.ok (y::ys))= .ok zs:=by simpa using hl
        refine⟨Z1,O',⟨noM,E3⟩,?_⟩
        cases e3:fe Z1 with
        | bad=>rw[e3]at hl';cases hl'
        | err cc=>rw[e3]at hl';cases hl'
        | ok yt=>
         rw[e3,ay]at hl'
         cases e4:cH tgt fc fe (ts.drop (i+1)) Z1 with
         | bad=>rw[e4]at hl';cases hl'
         | err cc=>rw[e4]at hl';cases hl'
         | ok zs'=>
          rw[e4,ay]at hl'
          have hzs:yt::zs'=zs:=by injection hl'
          intro H4 s4 v rv
          have D4:H4 D=some (.lst ys):=s4 _ _ D3
          have E4:=E3.same s4
          have tot4:Same H' H4:=tot.trans s4
          have smD:SameO (λa=>a=D) H4 (upd H4 D (.lst (ys++ [v]))):=λb o e nb=>by rw[ar nb];exact e
          have inO:∀a,a=D->O' a\/Nw X.K H4 a:=λa z=> .inl (.inr z)
          refine⟨D4,ts.length - (i+1),by omega,rfl,hlt,?_,aw,λb o e nb=>smD b o (s4 _ _ (sm3 b o e nb)) nb,Z1,yts++ [yt],zs',?_,?_,e4,?_⟩
          ·rw[List.length_append,List.length_singleton];omega
          ·exact E4.move inO (λa z=> .inl z) smD λaa z=>by
            by_cases hz:aa=D
            ·rw[hz];exact .inl ⟨_,aw⟩
            ·unfold Mtb;rw[ar hz];exact E4.trk aa z
          ·have r1:Reps X.K O' H4 (yts++ [yt]) (ys++ [v]):=(ry.same tot4).append (Reps.cons_ rv Reps.nil_)
           exact r1.move inO (λa z=> .inl z) smD
          ·rw[List.append_assoc,List.singleton_append,hzs];exact hyz
    ·refine .inl ⟨it.1 (by omega),?_⟩
     have hi2:i=ts.length:=by omega
     subst hi2;rw[List.drop_length]at hl
     have hzs:zs= []:=by unfold cH at hl;injection hl with hl;exact hl.symm
     subst hzs;rw[List.append_nil]at hyz;subst hyz
     have sF:Same H1 H':=λb o e=>sm1 b o e λz=>by rw[z,hD]at e;cases e
     exact q2 D ys H' nD sF hDl ry
 ·rw[if_neg hz]at q1
  exact q1.elim
theorem oj {src:List (Option Nat)}{fi:En->Rs (List T)}{tgt:T->En->Rs En}{fc:En->Rs Bool}{fe:En->Rs T}{σ:L2.St}{H:Hp}{Q:VK}(h0:tP X (eh fi src tgt fc fe) σ H Q):zZ X.K (Di X fi) src (tD X tgt) (tPT0 X.K fc) (tP0 X.K fe) σ H Q:=by
 obtain⟨Z,O,E,hq⟩:=h0;refine vR E ?_
 have e:eh fi src tgt fc fe Z=BN fi src tgt fc fe Z >>= λl=> .ok (.lst l):=vS
 rw[e]at hq
 cases q:BN fi src tgt fc fe Z with
 | bad=>rw[q]at hq;exact hq.elim
 | err c=>rw[q]at hq;exact hq
 | ok l=>
  rw[q,ay]at hq;intro H1 s1 D ys H' nD sD eD rD;exact hq H' (s1.trans sD) _ (Rep.lst_iff.mpr ⟨D,ys,rfl,λz=>(E.same s1).fresh nD.1 z,eD,rD.less λa z=> .inl z⟩)
theorem q_lc {elt tg iter:Expr}{ifs:List Expr}{scope:Scope}{N':List Str}{src:List (Option Nat)}{fi:En->Rs (List T)}{tgt:T->En->Rs En}{fc:En->Rs Bool}{fe:En->Rs T}
  (hc:X.calm=true) (S:LcScope X scope N' src) (hi:uF X tg iter fi)
  (block:∀cl C s₀ H₀ fp,wU (bf X scope cl N' C s₀ H₀ fp) tg tgt/\tf (bf X scope cl N' C s₀ H₀ fp) ifs (wZ (bf X scope cl N' C s₀ H₀ fp) fc)/\cq (bf X scope cl N' C s₀ H₀ fp) elt fe)
  (hs:∀x,foldedSetIterable iter X.env x=pure x:=by intro _;rfl) :
  cq X (.ListComp elt [⟨tg,iter,ifs,0⟩] scope pos) (eh fi src tgt fc fe):=by
 have hPG:∀cl C s₀ H₀ fp,PG (bf X scope cl N' C s₀ H₀ fp) tg (tD X tgt):=λcl C s₀ H₀ fp=>(block cl C s₀ H₀ fp).1
 have hPI:∀cl C s₀ H₀ fp,tf (bf X scope cl N' C s₀ H₀ fp) ifs (tPT0 X.K fc):=λcl C s₀ H₀ fp pins s σ H Q I h=>(block cl C s₀ H₀ fp).2.1 pins s σ H Q I (tPT0.up (X:=bf X scope cl N' C s₀ H₀ fp) h)
 have hPE:∀cl C s₀ H₀ fp,PE (bf X scope cl N' C s₀ H₀ fp) elt (tP0 X.K fe):=λcl C s₀ H₀ fp pins s σ H Q I h=>(block cl C s₀ H₀ fp).2.2 pins s σ H Q I (tP0.up (X:=bf X scope cl N' C s₀ H₀ fp) h)
 exact PE.imp (pG (g:=tD X tgt) (tc:=tPT0 X.K fc) (te:=tP0 X.K fe) hc S hi (λcl C s₀ H₀ fp=>⟨hPG cl C s₀ H₀ fp,hPI cl C s₀ H₀ fp,hPE cl C s₀ H₀ fp⟩) hs) λσ H Q h=>oj h
inductive Fl where
 | nx (Z:En) | rt (t:T) | bk (Z:En) | ct (Z:En)
def OO (B:Ow)(M:Mn):Ow:=λa=>B a\/M.u a
structure Ev (K:PySem.W.Frag)(B:Ow)(M:Mn)(H:Hp)(Z:En)(σ:L2.St):Prop where
 env:EnvM K (OO B M) M H Z σ
 mine:∀a,M.u a->¬ B a
theorem Ev.same {K:PySem.W.Frag}{B:Ow}{M:Mn}{H H':Hp}{Z:En}{σ:L2.St}(h:Same H H')(e:Ev K B M H Z σ):Ev K B M H' Z σ:=⟨e.env.same h,e.mine⟩
theorem Ev.o {K:PySem.W.Frag}{B:Ow}{M:Mn}{H:Hp}{Z:En}{σ:L2.St}(e:Ev K B M H Z σ):EnvO K (OO B M) H Z σ:=⟨M,e.env⟩
def PostF (X:Cx)(B P:Ow)(H:Hp)(r:Rs Fl)(D:oK):Prop:=match r with
 | .ok (.nx Z')=> ∀σ' H' M',SameO P H H'->Ev X.K B M' H' Z' σ'->(∀a,M'.u a->P a\/Nw X.K H a)->D.nx σ' H'
 | .ok (.rt t)=> ∀v H',SameO P H H'->Rep X.K B H' t v->D.rt v H'
 | .ok (.bk Z')=> ∀σ' H' M',SameO P H H'->Ev X.K B M' H' Z' σ'->(∀a,M'.u a->P a\/Nw X.K H a)->D.bk σ' H'
 | .ok (.ct Z')=> ∀σ' H' M',SameO P H H'->Ev X.K B M' H' Z' σ'->(∀a,M'.u a->P a\/Nw X.K H a)->D.ct σ' H'
 | .err c=>XA X P H c
 | .bad=>False
def tPS (X:Cx)(F:En->Rs Fl):TS:=λD σ H=> ∃Z B M,Ev X.K B M H Z σ/\PostF X B M.u H (F Z) D
abbrev mn (X:Cx)(s:Stmt)(F:En->Rs Fl):Prop:=PS X s (tPS X F)
abbrev j8 (X:Cx)(s:List Stmt)(F:En->Rs Fl):Prop:=PSs X s (tPS X F)
theorem PostF.later {B P P1:Ow}{H H1:Hp}{r:Rs Fl}{D:oK}(h:PostF X B P H r D)(s:SameO P H H1)(sub:∀a,P1 a->P a\/Nw X.K H a):PostF X B P1 H1 r D:=by
 have back:∀a,P1 a\/Nw X.K H1 a->P a\/Nw X.K H a:=λa z=>z.elim (sub a) (kf s)
 cases r with
 | bad=>exact h
 | err c=>exact XA.later h s sub
 | ok f=>
  cases f with
  | nx Z'=>exact λσ' H' M' s' E' o'=>h σ' H' M' (s.trans s' sub) E' λa z=>back a (o' a z)
  | rt t=>exact λv H' s' r=>h v H' (s.trans s' sub) r
  | bk Z'=>exact λσ' H' M' s' E' o'=>h σ' H' M' (s.trans s' sub) E' λa z=>back a (o' a z)
  | ct Z'=>exact λσ' H' M' s' E' o'=>h σ' H' M' (s.trans s' sub) E' λa z=>back a (o' a z)
theorem PostF.xa {B P:Ow}{H:Hp}{c:Str}{D:oK}(h:PostF X B P H (.err c) D):XA X r8 H c:=XA.later (P:=P) h (λ_ _ e _=>e) λ_ z=>z.elim
def sN (Z:En):Rs Fl:=.ok (.nx Z)
def aB (F G:En->Rs Fl)(Z:En):Rs Fl:=do
 let f <-F Z
 match f with
 | .nx Z'=>G Z'
 | f=> .ok f
theorem Aq:j8 X [] sN:=PSs.imp rS λD σ H ⟨Z,B,M,E,h⟩=>h σ H M (λ_ _ e _=>e) E λa z=> .inl z
theorem xK {st:Stmt}{rest:List Stmt}{F G:En->Rs Fl}(h1:mn X st F)(h2:j8 X rest G):j8 X (st::rest) (aB F G):=PSs.imp (jc h1 h2) λD σ H hh_=>by
 obtain⟨Z,B,M,E,h⟩:=hh_;refine⟨Z,B,M,E,?_⟩
 unfold aB at h
 cases q:F Z with
 | bad=>rw[q]at h;exact h.elim
 | err c=>rw[q]at h;exact h
 | ok f=>
  rw[q,ay]at h
  cases f with
  | nx Z'=>exact λσ' H' M' s' E' o'=>⟨Z',B,M',E',h.later s' o'⟩
  | rt t=>exact h
  | bk Z'=>exact h
  | ct Z'=>exact h
theorem Ap {st:Stmt}{F:En->Rs Fl}(h:mn X st F):j8 X [st] F:=eR h
def aO (f:En->Rs T)(Z:En):Rs Fl:=do
 let t <-f Z
 .ok (.rt t)
theorem An (ha:cq X a fa):mn X (.Return (some a) pos) (aO fa):=PS.imp (gL ha) λD σ H hh_=>by
 obtain⟨Z,B,M,E,h⟩:=hh_;refine⟨Z,OO B M,E.o,?_⟩
 unfold aO at h
 cases q:fa Z with
 | bad=>rw[q]at h;exact h.elim
 | err c=>rw[q]at h;exact PostF.xa h
 | ok t=>
  rw[q,ay]at h;exact λH' s v r=>h v H' (SameO.of s) (r.less λ_ z=> .inl z)
def fV (f:En->Rs Bool)(F G:En->Rs Fl)(Z:En):Rs Fl:=do
 let k <-f Z
 if k then F Z else G Z
theorem Cb {f:En->Rs Bool}{A B:List Stmt}{F G:En->Rs Fl}(hc:uv X c f)(ha:j8 X A F)(hb:j8 X B G):mn X (.If c A B pos) (fV f F G):=PS.imp (zw hc ha hb) λD σ H hh_=>by
 obtain⟨Z,B,M,E,h⟩:=hh_;refine⟨Z,OO B M,E.o,?_⟩
 unfold fV at h
 cases q:f Z with
 | bad=>rw[q]at h;exact h.elim
 | err c=>rw[q]at h;exact PostF.xa h
 | ok k=>
  rw[q,ay]at h;intro H' s
  have E':Ev X.K B M H' Z σ:=E.same s
  cases k with
  | true=>refine L2.iteT ?_;exact⟨Z,B,M,E',PostF.later (by simpa using h) (SameO.of s) λa z=> .inl z⟩
  | false=>refine L2.iteF ?_;exact⟨Z,B,M,E',PostF.later (by simpa using h) (SameO.of s) λa z=> .inl z⟩
def db (f:En->Rs T)(g:T->En->Rs En)(Z:En):Rs Fl:=do
 let t <-f Z
 match g t Z with
 | .ok Z'=> .ok (.nx Z')
 | _=> .bad
theorem uU {B:Ow}{M:Mn}{Z:En}{σ:L2.St}{H:Hp}{D:oK}{g:T->En->Rs En}{f:En->Rs T}(E:Ev X.K B M H Z σ)(h:PostF X B M.u H (db f g Z) D):uN (tP X f) (tD X g) D σ H:=by
 refine⟨Z,OO B M,E.o,?_⟩
 unfold db at h
 cases q:f Z with
 | bad=>rw[q]at h;exact h.elim
 | err c=>rw[q]at h;exact PostF.xa h
 | ok t=>
  rw[q,ay]at h;intro H' s v r;refine⟨Z,OO B M,M,t,E.env.same s,r,?_⟩
  cases q2:g t Z with
  | bad=>rw[q2]at h;exact h.elim
  | err c=>rw[q2]at h;exact h.elim
  | ok Z'=>
   rw[q2]at h;exact λσ' E'=>h σ' H' M (SameO.of s) ⟨E',E.mine⟩ λa z=> .inl z
theorem xp {f:En->Rs T}{σ:L2.St}{H:Hp}{Q Q':VK}(h:tP X f σ H Q)(w:∀v H',Q v H'->Q' v H'):tP X f σ H Q':=by
 obtain⟨Z,O,E,q⟩:=h;exact⟨Z,O,E,Post.mono q λt H' _ z v r=>w v H' (z v r)⟩
theorem Ca {elt tg iter:Expr}{ifs:List Expr}{scope:Scope}{spos py:Pos}{N':List Str}{src:List (Option Nat)}{fi:En->Rs (List T)}{tgt:T->En->Rs En}{fc:En->Rs Bool}{fe:En->Rs T}(i:Nat){y:Str}
  (hc:X.calm=true) (S:LcScope X scope N' src) (hi:uF X tg iter fi)
  (block:∀cl C s₀ H₀ fp,wU (bf X scope cl N' C s₀ H₀ fp) tg tgt/\tf (bf X scope cl N' C s₀ H₀ fp) ifs (wZ (bf X scope cl N' C s₀ H₀ fp) fc)/\cq (bf X scope cl N' C s₀ H₀ fp) elt fe)
  (hN:X.N.Nodup) (hiy:X.N[i]? =some y:=by rfl) (hy:Loc X.env.scope y:=by first | exact Or.inl rfl | exact Or.inr rfl) (hsw:swapsWith (.ListComp elt [⟨tg,iter,ifs,0⟩] scope pos) (some (.Name y py)) spos.line X.env=pure true:=by rfl)
  (hf:X.fn y=true\/X.env.scope.names.lookup y=some .local:=by first | exact .inl rfl | exact .inr rfl | assumption) (hs:∀x,foldedSetIterable iter X.env x=pure x:=by intro _;rfl) :
  mn X (.Assign [.Name y py] (.ListComp elt [⟨tg,iter,ifs,0⟩] scope pos) spos) (db (eh fi src tgt fc fe) (gN i)):=by
 have hPG:∀cl C s₀ H₀ fp,PG (bf X scope cl N' C s₀ H₀ fp) tg (tD X tgt):=λcl C s₀ H₀ fp=>(block cl C s₀ H₀ fp).1
 have hPI:∀cl C s₀ H₀ fp,tf (bf X scope cl N' C s₀ H₀ fp) ifs (tPT0 X.K fc):=λcl C s₀ H₀ fp pins s σ H Q I h=>(block cl C s₀ H₀ fp).2.1 pins s σ H Q I (tPT0.up (X:=bf X scope cl N' C s₀ H₀ fp) h)
 have hPE:∀cl C s₀ H₀ fp,PE (bf X scope cl N' C s₀ H₀ fp) elt (tP0 X.K fe):=λcl C s₀ H₀ fp pins s σ H Q I h=>(block cl C s₀ H₀ fp).2.2 pins s σ H Q I (tP0.up (X:=bf X scope cl N' C s₀ H₀ fp) h)
 refine PS.imp (zv (g:=tD X tgt) (tc:=tPT0 X.K fc) (te:=tP0 X.K fe) (i:=i) hc S hi (λcl C s₀ H₀ fp=>⟨hPG cl C s₀ H₀ fp,hPI cl C s₀ H₀ fp,hPE cl C s₀ H₀ fp⟩) hN hiy hy hsw hf hs) λD σ H ⟨Z,B,M,E,h⟩=>oj (xp (uU E h) λv H' z=> ?_)
 obtain⟨Z',O,M',t,E',r,q⟩:=z;unfold gN at q
 split at q
 ·rename_i Z2 e
  split at e
  ·rename_i hl
   cases e;exact q _ (E'.set hl r)
  ·cases e
 ·exact q.elim
theorem Aw {tg:Expr}{g:T->En->Rs En}(ha:cq X a fa)(hg:wU X tg g)(hs:swapsWithSole [tg] a pos.line X.env=pure false:=by rfl)(hw:swappedStores [tg] a X.env=pure none:=by rfl)
  (h1:(assignEach [tg] X.env).map (·.2)= [assign tg X.env]:=by rfl):mn X (.Assign [tg] a pos) (db fa g):=PS.imp (AG ha hg hs hw h1) λD σ H ⟨Z,B,M,E,h⟩=>uU E h
def xy (f:En->Rs T)(Z:En):Rs Fl:=do
 let _ <-f Z
 .ok (.nx Z)
theorem xJ (ha:cq X a fa)(hs:swapsWith a none pos.line X.env=pure false:=by rfl):mn X (.Expr a pos) (xy fa):=PS.imp (nM ha hs) λD σ H hh_=>by
 obtain⟨Z,B,M,E,h⟩:=hh_;refine⟨Z,OO B M,E.o,?_⟩
 unfold xy at h
 cases q:fa Z with
 | bad=>rw[q]at h;exact h.elim
 | err c=>rw[q]at h;exact PostF.xa h
 | ok t=>
  rw[q,ay]at h;exact λH' s v r=>h σ H' M (SameO.of s) (E.same s) λa z=> .inl z
def a7 (g:T->En->Rs En)(F:En->Rs Fl):List T->En->Rs Fl
 | [],Z=> .ok (.nx Z)
 | t::r,Z=>do
  let Z1 <-g t Z
  let f <-F Z1
  match f with
  | .nx Z2=>a7 g F r Z2
  | .ct Z2=>a7 g F r Z2
  | .bk Z2=> .ok (.nx Z2)
  | .rt t=> .ok (.rt t)
def d7 (fi:En->Rs (List T))(g:T->En->Rs En)(F:En->Rs Fl)(Z:En):Rs Fl:=do
 let ts <-fi Z
 match a7 g F ts Z with
 | .ok f=> .ok f
 | _=> .bad
theorem k7 {α:Type}{t:Sem α}{Q:α->Shared->Prop}{s:Shared}{E:Value->Shared->Prop}{P:Program}{w:World}{A:Around}(h:wpAny (model P w) A t Q (λ_ _=>False) s):wpAny (model P w) A t Q E s:=wpAny_mono h (λ_ _ q=>q) λ_ _ z=>z.elim
theorem xY {tg iter:Expr}{body:List Stmt}{wi:TI}{g:TG}{tb:TS}{pos:Pos}(hc:X.calm=true)(hi:PI X tg iter wi)(hg:PG X.nox tg g)(hb:PSs X.nox body tb)
  (hs:∀x,foldedSetIterable iter X.env x=pure x:=by intro _;rfl):PS X (.For tg iter body [] pos) (tFor wi g tb):=by
 intro pins s σ H D I h;refine wpAny_For (bS (hi pins s σ H _ I h) λv s1 h1=>bS h1 λitv s2 h2=> ?_) hs
 obtain⟨it,fp,tn,J,H2,e,I2,T,st2,f2,W,⟨m0,w0⟩,turn⟩:=h2;subst e
 have stat:∀{H':Hp},(∀b∈fp,H' b=none)->∀b∈fp,ju X pins H' b:=λhn b hb=>⟨hn b hb,(f2 b hb).2⟩
 refine codeAny_forLoop_any (λn s'=> ∃i σ' H',Inv X pins σ' H' s'/\tn i s'.heap/\(∀b∈fp,H' b=none)/\W i n σ' H') ?_ m0 ⟨0,σ,H2,I2,st2,λb hb=>(f2 b hb).1,w0⟩
 rintro n s3 ⟨i,σ3,H3,I3,st3,fr3,w3⟩
 rcases turn i n σ3 H3 w3 with⟨stop,qn⟩ | ⟨go,N,hN,step⟩
 ·refine k7 (bS (T.done X.nox rfl rfl rfl hc i pins s3 σ3 H3 _ (I3.wish _) (stat fr3) st3 stop) λr s4 ⟨hr,I4⟩=> ?_)
  subst hr;exact wpAny_execs_nil ⟨σ3,H3,I4.wish _,qn⟩
 ·refine k7 (bS (T.item X.nox rfl rfl rfl hc i pins s3 σ3 H3 _ (I3.wish _) (stat fr3) st3 go) λr s4 ⟨u,hr,h4⟩=> ?_)
  subst hr;refine k7 (bS h4 λ_ s5 hh_=> ?_)
  obtain⟨x,H5,I5,r5,y5,st5,fr5⟩:=hh_
  have I5':=Inv.pinned (X:=X.nox) I5 (stat fr5) (T.obj _ _ st5);refine k7 (bS (hg _ s5 σ3 H5 x u _ I5' r5 (step x H5 y5)) λ_ s6 hh_=> ?_)
  obtain⟨σ6,H6,I6,q6⟩:=hh_;refine k7 (bS (hb _ s6 σ6 H6 _ I6 q6) λf s7 q7=> ?_)
  have again:∀{σ7:L2.St} {H7:Hp},Inv X.nox (pins++kQ fp s5.heap) σ7 H7 s7->N σ7 H7->∃m,m<n/\∃i σ' H',Inv X pins σ' H' s7/\tn i s7.heap/\(∀b∈fp,H' b=none)/\W i m σ' H':=λ{σ7 H7} I7 n7=>by
   obtain⟨m',hm,w7⟩:=hN σ7 H7 n7;refine⟨m',hm,i+1,σ7,H7,(Inv.unpinned (X:=X.nox) I7).wish _,T.keep _ _ _ st5 λb hb o e=>(I7.pin (b,o) (List.mem_append_right _ (List.mem_append_right _ (gn hb e)))).1,λb hb=> ?_,w7⟩
   obtain⟨o,e,d⟩:=T.obj _ _ st5 b hb;exact(I7.pin (b,o) (List.mem_append_right _ (List.mem_append_right _ (gn hb e)))).2.1
  cases f with
  | next=>obtain⟨σ7,H7,I7,n7⟩:=q7;exact again I7 n7
  | cont=>obtain⟨σ7,H7,I7,n7⟩:=q7;exact again I7 n7
  | brk=>obtain⟨σ7,H7,I7,q7⟩:=q7;exact⟨σ7,H7,(Inv.unpinned (X:=X.nox) I7).wish _,q7⟩
  | ret v=>obtain⟨x7,σ7,H7,I7,r7,q7⟩:=q7;exact⟨x7,σ7,H7,(Inv.unpinned (X:=X.nox) I7).wish _,r7,q7⟩
theorem At {tg iter:Expr}{body:List Stmt}{fi:En->Rs (List T)}{g:T->En->Rs En}{F:En->Rs Fl}(hc:X.calm=true)(hi:uF X tg iter fi)(hg:wU X.nox tg g)(hb:j8 X.nox body F)
  (hs:∀x,foldedSetIterable iter X.env x=pure x:=by intro _;rfl):mn X (.For tg iter body [] pos) (d7 fi g F):=PS.imp (xY hc hi hg hb hs) λD σ H hh_=>by
 obtain⟨Z,B,M,E,h⟩:=hh_;refine⟨Z,OO B M,E.o,?_⟩
 unfold d7 at h
 cases q:fi Z with
 | bad=>rw[q]at h;exact h.elim
 | err c=>rw[q]at h;exact PostF.xa h
 | ok ts=>
  rw[q,ay]at h
  cases qq:a7 g F ts Z with
  | bad=>rw[qq]at h;exact h.elim
  | err c=>rw[qq]at h;exact h.elim
  | ok fin=>
  rw[qq]at h;intro H1 s1 J hJ
  have E1:Ev X.K B M H1 Z σ:=E.same s1
  have h1:PostF X B M.u H1 (.ok fin) D:=PostF.later h (SameO.of s1) λa z=> .inl z
  refine⟨λi m σ' H'=>m=ts.length - i/\i<=ts.length/\SameO M.u H1 H'/\∃Z' M',Ev X.K B M' H' Z' σ'/\(∀a,M'.u a->M.u a\/Nw X.K H1 a)/\a7 g F (ts.drop i) Z'= .ok fin,
   ⟨ts.length,by omega,Nat.zero_le _,λ_ _ e _=>e,Z,M,E1,λa z=> .inl z,by simpa using qq⟩,?_⟩
  rintro i m σ' H' ⟨rfl,hi',sm,Z',M',E',ow,hl⟩
  have it:=hJ M.u (OO B M') (λa z=> .inl (.inr z)) (λa z=>z.elim (λw=> .inl (.inl w)) λw=>(ow a w).elim (λy=> .inl (.inr y)) .inr) i H' sm (λa z=>(E'.env.trk a z).some)
  by_cases hlt:i<ts.length
  ·have hti:ts[i]? =some ts[i]:=by simp
   obtain⟨go,yl⟩:=it.2 ts[i] hti;rw[List.drop_eq_getElem_cons hlt]at hl;unfold a7 at hl;refine .inr ⟨go,λσ2 H2=> ∃m',m'<ts.length - i/\(m'=ts.length - (i+1)/\i+1<=ts.length/\SameO M.u H1 H2/\∃Z2 M2,Ev X.K B M2 H2 Z2 σ2/\(∀a,M2.u a->M.u a\/Nw X.K H1 a)/\a7 g F (ts.drop (i+1)) Z2= .ok fin),λσ2 H2 z=>z,λx Hc y=> ?_⟩
   obtain⟨sc,rx⟩:=yl x Hc y;refine⟨Z',OO B M',M',ts[i],E'.env.same sc,rx,?_⟩
   cases e1:g ts[i] Z' with
   | bad=>rw[e1]at hl;cases hl
   | err cc=>rw[e1]at hl;cases hl
   | ok Z1=>
    rw[e1,ay]at hl;intro σ1 Eg
    have E2:Ev X.K B M' Hc Z1 σ1:=⟨Eg,E'.mine⟩;refine⟨Z1,B,M',E2,?_⟩
    have smc:SameO M.u H1 Hc:=λb o e n=>sc _ _ (sm b o e n)
    have onward:∀{σ3:L2.St} {H3:Hp} {Z3:En} {M3:Mn},SameO M'.u Hc H3->Ev X.K B M3 H3 Z3 σ3->(∀a,M3.u a->M'.u a\/Nw X.K Hc a)->a7 g F (ts.drop (i+1)) Z3= .ok fin →
      ∃m',m'<ts.length - i/\(m'=ts.length - (i+1)/\i+1<=ts.length/\SameO M.u H1 H3/\∃Z2 M2,Ev X.K B M2 H3 Z2 σ3/\(∀a,M2.u a->M.u a\/Nw X.K H1 a)/\a7 g F (ts.drop (i+1)) Z2= .ok fin):=
     λ{σ3 H3 Z3 M3} s3 E3 o3 p3=>⟨_,by omega,rfl,hlt,smc.trans s3 ow,Z3,M3,E3,λa z=>(o3 a z).elim (ow a) (kf smc),p3⟩
    cases e2:F Z1 with
    | bad=>rw[e2]at hl;cases hl
    | err cc=>rw[e2]at hl;cases hl
    | ok f=>
     rw[e2,ay]at hl
     cases f with
     | nx Z2=>exact λσ3 H3 M3 s3 E3 o3=>onward s3 E3 o3 hl
     | ct Z2=>exact λσ3 H3 M3 s3 E3 o3=>onward s3 E3 o3 hl
     | bk Z2=>
      cases hl
      exact λσ3 H3 M3 s3 E3 o3=>h1 σ3 H3 M3 (smc.trans s3 ow) E3 λa z=>(o3 a z).elim (ow a) (kf smc)
     | rt t=>
      cases hl;exact λv H3 s3 r=>h1 v H3 (smc.trans s3 ow) r
  ·refine .inl ⟨it.1 (by omega),?_⟩
   have hi2:i=ts.length:=by omega
   subst hi2;rw[List.drop_length]at hl;cases hl;exact h1 σ' H' M' sm E' ow
end
def bi (F:En->Rs Fl)(Z:En):Rs T:=do
 let f <-F Z
 match f with
 | .nx _=> .ok .non
 | .rt t=> .ok t
 | _=> .bad
def aK (n:Nat)(ts:List T):En:=ts.map Sl.va++List.replicate (n - ts.length) Sl.em
theorem tE {n:Nat}{ts:List T}{i:Nat}{o:OT}(e:(aK n ts)[i]? =some (.ow o)):False:=by
 unfold aK at e
 by_cases hi:i<ts.length
 ·rw[List.getElem?_append_left (by simpa using hi),List.getElem?_map,List.getElem?_eq_getElem hi]at e
  cases e
 ·rw[List.getElem?_append_right (by simpa using hi),List.getElem?_replicate]at e
  split at e <;> cases e
theorem mB {K:PySem.W.Frag}{O:Ow}{H:Hp}{N:List Str}{ts:List T}{vs:List V}(r:Reps K O H ts vs)(hl:ts.length<=N.length)(trk:∀a,O a->Mtb H a):Ev K O noM H (aK N.length ts) (start N vs):=by
 have hlen:=r.length
 have sub:∀a,OO O noM a->O a:=λa z=>z.elim id λ⟨_,w⟩=>w.elim
 refine⟨⟨by unfold aK L2.start;simp;omega,λi t e=> ?_,λi o e=>(tE e).elim,λ_ _ z=>z.elim,λ_ _ _ z=>z.elim,λa z=>trk a (sub a z)⟩,λa ⟨_,z⟩=>z.elim⟩
 unfold aK at e;unfold L2.start
 by_cases hi:i<ts.length
 ·rw[List.getElem?_append_left (by simpa using hi),List.getElem?_map,List.getElem?_eq_getElem hi]at e
  have e':ts[i] =t:=by injection e with e;injection e
  obtain⟨v,e1,e2⟩:=r.get (i:=i) (t:=t) (by rw[<-e'];simp)
  refine⟨v,?_,e2.less sub⟩
  rw[List.getElem?_append_left (by simp;omega),List.getElem?_map,e1];rfl
 ·rw[List.getElem?_append_right (by simpa using hi),List.getElem?_replicate]at e
  split at e <;> cases e
section
variable {P:Program}{w:World}{K:PySem.W.Frag}{mg:Str->Option Value}{base:Heap}
theorem C2 {x qual:Str}{st:Stmt}{f:Addr}{fd:FuncData}{N ps:List Str}{k n:Nat}{g:List T->Rs T}(Fn:L2.Fun K x qual st f fd)(S:aA N ps (ah st))(hn:ps.length=n)
  (hbody:∀(cdv:Value) (A:Around) (outer:List Env) (s:Shared) (H:Hp) (E:XK),Room k (A.deeper (envOfC qual (ah st) s.heap.objs.size f cdv)) →
   ∃F,j8 (jr CX0 P w K mg base N qual (ah st) f cdv A outer s H E).nox (cx st) F/\∀ts,ts.length=n->∀t,g ts= .ok t->bi F (aK N.length ts)= .ok t):oH P w K mg base CX0 (k+1) f fd ps (spP K n g):=by
 have hpl:ps.length<=N.length:=by have:=congrArg List.length S.pre;rw[List.length_take]at this;omega
 refine Fn.ok S (λvs H Q E h=> ?_) (λcdv A outer s H vs Q E hr h=> ?_)
 ·obtain⟨ts,O,r,_,hl,_⟩:=h
  rw[<-r.length,hl,hn]
 ·obtain⟨ts,O,r,trk,hl,h⟩:=h
  obtain⟨F,hF,hv⟩:=hbody cdv A outer s H E hr;refine⟨_,hF,aK N.length ts,O,noM,mB r (by omega) trk,?_⟩
  have no:∀a,¬noM.u a:=λa ⟨_,z⟩=>z
  cases q:g ts with
  | bad=>rw[q]at h;exact h.elim
  | err c=>rw[q]at h;exact h.elim
  | ok t=>
   rw[q]at h
   have hb:=hv ts hl t q;unfold bi at hb
   cases q2:F (aK N.length ts)with
   | bad=>rw[q2]at hb;cases hb
   | err c=>rw[q2]at hb;cases hb
   | ok fl=>
    rw[q2,ay]at hb
    have sameOf:∀H',SameO noM.u H H'->Same H H':=λH' s b o e=>s b o e (no b)
    cases fl with
    | nx Z'=>cases hb;exact λσ' H' M' s' E' o'=>h .non H' (sameOf H' s') Rep.non_
    | rt t'=>cases hb;exact λv H' s' r'=>h v H' (sameOf H' s') r'
    | bk Z'=>cases hb
    | ct Z'=>cases hb
end
end Tr
namespace Enu
open PySem
open AutoSeq1 (wpAny_loadPart')
section
variable {prog:Program}{w:World}{A:Around}{E:Value->Shared->Prop}{s:Shared}
theorem tupNext {it tt:Addr}{k:Nat}{its:Array Value}{x:Value}{Q:Value->Shared->Prop}(hi:s.heap.IsTupleIter it tt k)(ht:s.heap.IsTuple tt its)(hx:its[k]? =some x)
  (hQ:∀h',h'.IsTupleIter it tt (k+1)->Heap.SameBut it s.heap h'->Q x { s with heap:=h' }):wpAny (model prog w) A (Builtin.SmallTypes.nextOf (.ref it)) Q E s:=by
 obtain⟨ob,g1,g2,g3⟩:=id hi;obtain⟨ot,k1,_,m,k3⟩:=ht;unfold Builtin.SmallTypes.nextOf;refine wpAny_bind (wpAny_callSpecial?_slot (name:=Str.ofString "__next__") hi.typeIs F.slot_tuple_iterator_next (wpAny_call_entry F.slot_tuple_iterator_next hi.typeIs F.entry_tuple_iterator_next ?_ (F.args_tuple_iterator_next_1 _)))
 show wpAny (model prog w) _ (field (.ref it) 0 >>= _) _ _ s
 refine wpAny_bind (wpAny_field g1 g3 (x:=.ref tt) rfl ?_)
 show wpAny (model prog w) _ (if (Value.ref tt == Value.none)=true then _ else _) _ _ s
 rw[if_neg (show ¬((Value.ref tt == Value.none)=true)by exact Bool.false_ne_true)]
 show wpAny (model prog w) _ (field (.ref it) 1 >>= _) _ _ s
 refine wpAny_bind (wpAny_field g1 g3 (x:=.int k 0) rfl ?_)
 show wpAny (model prog w) _ (seqItems? (.ref tt) >>= _) _ _ s
 refine wpAny_bind (wpAny_seqItems k1 k3 ?_)
 simp only[hx,Int.toNat_natCast];refine wpAny_bind (wpAny_setField g1 g3 (by simp) (wpAny_pure ⟨x,rfl,wpAny_pure (hQ _ ?_ (Heap.SameBut.update ..))⟩))
 refine⟨_,Heap.get?_update_self _ g1 (Obj.isFreed_of_fields (Obj.data_mapFields g3 _)),(Obj.cls_mapFields ..).trans g2,?_⟩
 rw[Obj.data_mapFields g3];simp[rawInt]
theorem tupStop {it tt:Addr}{k:Nat}{its:Array Value}{Q:Value->Shared->Prop}(hh:A.handled=none)(hi:s.heap.IsTupleIter it tt k)(ht:s.heap.IsTuple tt its)(hx:its[k]? =none)
  (hE:∀h' e,Heap.ExtBut it s.heap h'->(∃o,h'.get? e=some o/\o.cls= .type "StopIteration")->E (.ref e) { s with heap:=h' }):wpAny (model prog w) A (Builtin.SmallTypes.nextOf (.ref it)) Q E s:=by
 obtain⟨ob,g1,g2,g3⟩:=id hi;obtain⟨ot,k1,_,m,k3⟩:=ht;unfold Builtin.SmallTypes.nextOf;refine wpAny_bind (wpAny_callSpecial?_slot (name:=Str.ofString "__next__") hi.typeIs F.slot_tuple_iterator_next (wpAny_call_entry F.slot_tuple_iterator_next hi.typeIs F.entry_tuple_iterator_next ?_ (F.args_tuple_iterator_next_1 _)))
 show wpAny (model prog w) _ (field (.ref it) 0 >>= _) _ _ s
 refine wpAny_bind (wpAny_field g1 g3 (x:=.ref tt) rfl ?_)
 show wpAny (model prog w) _ (if (Value.ref tt == Value.none)=true then _ else _) _ _ s
 rw[if_neg (show ¬((Value.ref tt == Value.none)=true)by exact Bool.false_ne_true)]
 show wpAny (model prog w) _ (field (.ref it) 1 >>= _) _ _ s
 refine wpAny_bind (wpAny_field g1 g3 (x:=.int k 0) rfl ?_)
 show wpAny (model prog w) _ (seqItems? (.ref tt) >>= _) _ _ s
 refine wpAny_bind (wpAny_seqItems k1 k3 ?_)
 simp only[hx,Int.toNat_natCast];refine wpAny_bind (wpAny_rule (wpAny_bind (wpAny_setField g1 g3 (by simp) ?_)))
 show wpAny (model prog w) _ (newExc (.type "StopIteration") [] >>= _) _ _ _
 refine wpAny_bind ?_
 simp only[newTuple,newExc];refine wpAny_bind (wpAny_newObj_type ?_ (by size_fits))
 refine wpAny_bind (m:=firstArgMember _ _) (wpAny_of_eq (a:=Value.none) (by first | (simp only[firstArgMember];rfl) | rfl) ?_)
 refine wpAny_newObj_type ?_ (by size_fits)
 simp only[raiseNew];refine wpAny_bind (wpAny_handled ?_)
 first | rw[hh] | rw[show A.in1.handled=none from hh]
 refine wpAny_bind (wpAny_pure (wpAny_throw ?_))
 refine hE _ _ (((Heap.SameBut.update ..).extBut.push _).push _) ⟨_,Heap.get?_push_size _ rfl,rfl⟩
end
theorem tupDraws {prog:Program}{w:World}{A:Around}(hh:A.handled=none)(it tt:Addr)(hne:tt≠it)(its:Array Value) :
  Draws prog w A it [it,tt] its.size (λi v=>its[i]? =some v) (λi h=>h.IsTupleIter it tt i/\h.IsTuple tt its) where
 live:=λ_ _ st=>by obtain⟨o,ho,_⟩:=st.1;exact⟨o,ho⟩
 frame:=λ_ _ _ st hk=>by
  obtain⟨⟨o,e,r⟩,⟨o',e',r'⟩⟩:=st;exact⟨⟨o,hk it (by simp) o e,r⟩,⟨o',hk tt (by simp) o' e',r'⟩⟩
 item:=λi s Q E hi st hQ=>by
  refine tupNext st.1 st.2 (x:=its[i]) (by simp[hi]) λh' hit' hs'=> ?_
  obtain⟨o',e',r'⟩:=st.2;exact hQ _ h' s.toks (by simp[hi]) ⟨hit',⟨o',(hs'.2 tt hne).trans e',r'⟩⟩ hs'
 done:=λs Q E st hE=>tupStop hh st.1 st.2 (by simp) hE
theorem newT (l:Addr)(items:Array Value)(n:Nat)(dct:Option Addr)(sl:Array (Option Value)) :
  Meets (Builtin.«enumerate.__new__» ⟨[.type "enumerate",.ref l],[]⟩) (λ_ R s=>s.heap.get? l=some { cls:=.type "tuple",dict:=dct,data:=.seq items n,slots:=sl } ∧
   R (.ok (.ret (.ref (s.heap.push { cls:=.type "tuple_iterator",data:=.fields #[.ref l,.int 0 0] }).objs.size)))
    { s with heap:=(s.heap.push { cls:=.type "tuple_iterator",data:=.fields #[.ref l,.int 0 0] }).push { cls:=.type "enumerate",data:=.fields #[.none,.bool false,.ref s.heap.objs.size,rawInt 0,.none,.none] } }):=
 .of_wp λprog w A R s h=>by
  obtain⟨hp,g,d,tk,os⟩:=s;obtain⟨hl,h⟩:=h
  have hsub:=sub_enumerate
  have hT:Heap.IsTuple (Shared.heap ⟨hp,g,d,tk,os⟩) l items:=⟨_,hl,rfl,n,rfl⟩
  wp_walk using wpAny_loadPart' hl
  refine wpAny_stack_any λst=>wpAny_pure ?_
  split
  ·rename_i c _ _ _ _ _
   cases (c == Value.type "enumerate")
   ·wp_walk using wpAny_loadPart' hl,wpAny_pyIter_tuple hT
    exact⟨_,rfl,h⟩
   ·wp_walk using wpAny_loadPart' hl,wpAny_pyIter_tuple hT
    exact⟨_,rfl,h⟩
  ·wp_walk using wpAny_loadPart' hl,wpAny_pyIter_tuple hT
   exact⟨_,rfl,h⟩
theorem callT {prog:Program}{w:World}{A:Around}{E:Value->Shared->Prop}{s:Shared}{l:Addr}{items:Array Value}{Q:Value->Shared->Prop}(hL:s.heap.IsTuple l items)
  (h:∀h',IsEnum h' (s.heap.objs.size+1) s.heap.objs.size 0 .none->h'.IsTupleIter s.heap.objs.size l 0->h'.objs.size=s.heap.objs.size+2 →
   (∀b o,s.heap.get? b=some o->h'.get? b=some o)->Q (.ref (s.heap.objs.size+1)) { s with heap:=h' }):wpAny (model prog w) A (call (.type "enumerate") [.ref l]) Q E s:=by
 obtain⟨⟨cc,dc,dd,ss⟩,hl,hc,n,hd⟩:=hL
 replace hc:cc= .type "tuple":=hc
 replace hd:dd= .seq items n:=hd
 subst hc hd;refine callType_new F.called_enumerate (by decide) (F.typeCall_enumerate_1 _) (F.newCall_enumerate_1 _) (λobj=>F.args_object_init_2 obj _) F.entry_enumerate_new (newT l items n dc ss) ⟨hl,?_⟩
 have hz:(s.heap.push { cls:=.type "tuple_iterator",data:=.fields #[.ref l,.int 0 0] }).objs.size=s.heap.objs.size+1:=Heap.size_push ..
 show _/\_
 rw[hz]
 have he:IsEnum ((s.heap.push { cls:=.type "tuple_iterator",data:=.fields #[.ref l,.int 0 0] }).push
   { cls:=.type "enumerate",data:=.fields #[.none,.bool false,.ref s.heap.objs.size,rawInt 0,.none,.none] }) (s.heap.objs.size+1) s.heap.objs.size 0 .none:=by
  have q:=Heap.get?_push_size (s.heap.push { cls:=.type "tuple_iterator",data:=.fields #[.ref l,.int 0 0] })
   (o:={ cls:=.type "enumerate",data:=.fields #[.none,.bool false,.ref s.heap.objs.size,rawInt 0,.none,.none] }) rfl
  rw[hz]at q;exact q
 refine⟨⟨_,he,rfl⟩,h _ he ⟨_,Heap.get?_push_of_some _ (Heap.get?_push_size _ rfl),rfl,rfl⟩ (by rw[Heap.size_push,hz]) λb o x=>Heap.get?_push_of_some _ (Heap.get?_push_of_some _ x)⟩
end Enu
namespace L2
open PySem PySem.Spec PyProof.Rows
section
variable {X:Cx}{pins:List (Addr×Obj)}{σ:L2.St}{H:Hp}{s:Shared}{h':Heap}
theorem Inv.turnedT {t':Nat}{fp:List Addr}{Tp:Addr}{xs:List V}(I:Inv X pins σ H s)(hf:∀b∈fp,ju X pins H b)(k:∀b o,b∉fp->s.heap.get? b=some o->h'.get? b=some o)
  (ht:∀b∈fp,∃o,h'.get? b=some o) (hT:s.heap.objs.size<=Tp) (new:ObjOk X.prog X.w (upd H Tp (.tup xs)) h' Tp (.tup xs)):Inv X pins σ (upd H Tp (.tup xs)) { s with heap:=h',toks:=t' }:=by
 have hn:H Tp=none:=I.hok.fresh hT
 have hZ:∀b o,s.heap.get? b=some o->b≠Tp:=λb o e=>Nat.ne_of_lt (Nat.lt_of_lt_of_le (Heap.lt_size e) hT)
 have nf:∀b u,H b=some u->b∉fp:=λb u e z=>by rw[(hf b z).1]at e;cases e
 refine I.step (g':=s.gens) (d':=s.drawn) (ch:=fp) (λb hb=>⟨(hf b hb).2.2.2.1,(hf b hb).2.1,(hf b hb).2.2.2.2.1,(hf b hb).2.2.2.2.2⟩) (λb o _ _ hc e _=>k b o hc e) (λb o _ _ hc e _=>⟨o.slots,k b o hc e⟩)
  (λb o _ e n=>by rw[ar (hZ b o e)];exact n) (λb o hc e=>⟨o,k b o hc e⟩) (λb ys e=>by rw[ar (bF e hn)];exact e) (λb o u e=>by rw[ar (bF e hn)];exact e)
  (λb ps e=>⟨#[],by rw[ar (bF e hn),e];simp⟩) (λm hm=> ?_) (λb u e=> ?_) I.bare
 ·obtain⟨o,es,ep,ho,r⟩:=hm
  exact⟨o,es,ep,k _ o (λz=>(hf _ z).2.1 rfl) ho,r⟩
 ·by_cases hb:b=Tp
  ·subst hb;rw[aw]at e;cases e;exact new
  ·rw[ar hb]at e
   refine(I.hok b u e).stay (λc v hc q=>k c v ?_ q) (λc q=>by rw[ar (bF q hn)];exact q) λc ys q=>by rw[ar (bF q hn)];exact q
   rcases hc with z | z
   ·rw[z];exact nf b u e
   ·exact nf c _ z
theorem Inv.turnedL {t':Nat}{fp:List Addr}(I:Inv X pins σ H s)(hf:∀b∈fp,ju X pins H b)(k:∀b o,b∉fp->s.heap.get? b=some o->h'.get? b=some o):Inv X pins σ H { s with heap:=h',toks:=t' }:=by
 have nf:∀b u,H b=some u->b∉fp:=λb u e z=>by rw[(hf b z).1]at e;cases e
 refine I.step (g':=s.gens) (d':=s.drawn) (ch:=fp) (λb hb=>⟨(hf b hb).2.2.2.1,(hf b hb).2.1,(hf b hb).2.2.2.2.1,(hf b hb).2.2.2.2.2⟩) (λb o _ _ hc e _=>k b o hc e) (λb o _ _ hc e _=>⟨o.slots,k b o hc e⟩)
  (λb o _ e n=>n) (λb o hc e=>⟨o,k b o hc e⟩) (λb ys e=>e) (λb o u e=>e)
  (λb ps e=>⟨#[],by rw[e];simp⟩) (λm hm=> ?_) (λb u e=> ?_) I.bare
 ·obtain⟨o,es,ep,ho,r⟩:=hm
  exact⟨o,es,ep,k _ o (λz=>(hf _ z).2.1 rfl) ho,r⟩
 ·refine(I.hok b u e).stay (λc v hc q=>k c v ?_ q) (λc q=>q) λc ys q=>q
  rcases hc with z | z
  ·rw[z];exact nf b u e
  ·exact nf c _ z
end
def zK (K:PySem.W.Frag)(H:Hp)(a:Addr)(tt:Bool)(xs:List V):Prop:=if tt then SqT K H a xs else SqL K H a xs
def Dq (K:PySem.W.Frag)(a:Addr)(tt:Bool):It:=
 ⟨λi H=> ∃xs x,zK K H a tt xs/\xs[i]? =some x,λi H x H'=> ∃p v,x= .ref p/\H p=none/\H'=upd H p (.tup [.int (i:Nat),v])/\∀xs,zK K H a tt xs->xs[i]? =some v,λi H=> ∃xs,zK K H a tt xs/\xs.length<=i⟩
def itAt (tt:Bool)(h:Heap)(it a:Addr)(i:Nat):Prop:=if tt then h.IsTupleIter it a i else h.IsListIter it a i
theorem itAt.obj {tt:Bool}{h:Heap}{it a:Addr}{i:Nat}(st:itAt tt h it a i):∃o,h.get? it=some o/\∀v,o.data≠ .cell v:=by
 cases tt with
 | true=>obtain⟨o,e,c,d⟩:=(show h.IsTupleIter it a i from st);exact⟨o,e,λv z=>by rw[d]at z;cases z⟩
 | false=>obtain⟨o,e,c,d⟩:=(show h.IsListIter it a i from st);exact⟨o,e,λv z=>by rw[d]at z;cases z⟩
theorem itAt.keep {tt:Bool}{h h':Heap}{it a:Addr}{i:Nat}(st:itAt tt h it a i)(k:∀o,h.get? it=some o->h'.get? it=some o):itAt tt h' it a i:=by
 cases tt with
 | true=>obtain⟨o,e,r⟩:=(show h.IsTupleIter it a i from st);exact(show h'.IsTupleIter it a i from⟨o,k o e,r⟩)
 | false=>obtain⟨o,e,r⟩:=(show h.IsListIter it a i from st);exact(show h'.IsListIter it a i from⟨o,k o e,r⟩)
theorem tx {P:Program}{w:World}{K:PySem.W.Frag}{elts:List Expr}{kk:Nat}{pos:Pos}(tt:Bool)(a e it:Addr)(hei:e≠it) :
  uu P w K (.Tuple elts kk pos) (Dq K a tt) [e,it] e (λi h=>(∃old,IsEnum h e it i old)/\itAt tt h it a i) where
 mem:=by simp
 obj:=λi h st b hb=>by
  obtain⟨⟨old,he⟩,hi⟩:=st;rcases List.mem_cons.mp hb with rfl | hb
  ·exact⟨_,he,λv z=>by have z':Data.fields _=Data.cell v:=z;cases z'⟩
  ·rw[List.mem_singleton.mp hb];exact hi.obj
 keep:=λi h h' st k=>by
  obtain⟨⟨old,he⟩,hi⟩:=st;exact⟨⟨old,k e (by simp) _ he⟩,hi.keep λo q=>k it (by simp) o q⟩
 item:=by
  intro X hP hw hK hc i pins s σ H E I hf st hg;subst hP hw hK;obtain⟨xs,x,hq,hx⟩:=hg;obtain⟨⟨old,he⟩,hi⟩:=st
  -- by what is walked
  have key:∀(its:List Value),Vals xs its->(∀ys,zK X.K H a tt ys->ys=xs)->∀(fp0:List Addr) (St:Nat->Heap->Prop),Draws X.prog X.w X.A.in1 it fp0 its.toArray.size (λi v=>its.toArray[i]? =some v) St->e∉fp0->it∈fp0->St i s.heap →
    (∀h',St (i+1) h'->itAt tt h' it a (i+1)) →
    wpAny (model X.prog X.w) X.A (pyNext (.ref e)) (λr s1=> ∃u,r=some u/\wpAny (model X.prog X.w) X.A (letOwnedTupleGo (.Tuple elts kk pos) (.ref e) u) (λ_ s2=> ∃x' H',Inv X pins σ H' s2/\RelV x' u/\(Dq X.K a tt).yld i H x' H' ∧
     ((∃old,IsEnum s2.heap e it (i+1:Nat) old)/\itAt tt s2.heap it a (i+1))/\∀b∈ [e,it],H' b=none) E s1) E s:=by
   intro its rv uniq fp0 St D hef hif hst hnext;obtain⟨u,hu,ru⟩:=rv.get hx
   have hlt:i<its.toArray.size:=by
    have:=(List.getElem?_eq_some_iff.mp hu).1
    simpa using this
   have W:=WalksT.enumerateD D e hei hef hif;refine W.item i s _ _ hlt ⟨⟨old,he⟩,hst⟩ λTp vals h1 tk hPt hTsz hTup hMid hk=>⟨.ref Tp,rfl,?_⟩
   refine W.go elts kk pos i Tp { s with heap:=h1,toks:=tk } _ _ hMid λh2 hst2 hk2=> ?_
   obtain⟨t,x',hPx,hvals⟩:=hPt;subst hvals
   have hxe:x'=u:=by
    have h1':its.toArray[i]? =some x':=hPx
    have h2':its.toArray[i]? =some u:=by simpa using hu
    rw[h1']at h2';exact Option.some.inj h2'
   subst hxe
   have hTw:=W.apart i Tp h1 hMid;obtain⟨oT,eT,rT⟩:=hTup
   have eT2:h2.get? Tp=some oT:=hk2 Tp oT hTw eT
   have kAll:∀b o,b∉ [e,it]->s.heap.get? b=some o->h2.get? b=some o:=λb o hb q=>hk2 b o hb (hk b o hb q)
   obtain⟨⟨old2,he2⟩,hs2⟩:=hst2
   have hit2:=hnext h2 hs2
   have there:∀b∈ [e,it],∃o,h2.get? b=some o:=λb hb=>by
    rcases List.mem_cons.mp hb with rfl | hb
    ·exact⟨_,he2⟩
    ·rw[List.mem_singleton.mp hb];obtain⟨o,q,_⟩:=hit2.obj;exact⟨o,q⟩
   have hn:H Tp=none:=I.hok.fresh hTsz
   have new:ObjOk X.prog X.w (upd H Tp (.tup [.int (i:Nat),x])) h2 Tp (.tup [.int (i:Nat),x]):=
    ⟨by show 2<=sizeLine;decide,[.int (i:Nat) t,x'],.cons ⟨t,rfl⟩ (.cons ru .nil),⟨oT,eT2,rT⟩⟩
   have I2:=I.turnedT (t':=tk) hf kAll there hTsz new;refine⟨.ref Tp,_,I2,rfl,⟨Tp,x,rfl,hn,rfl,λys hy=>by rw[uniq ys hy];exact hx⟩,⟨⟨old2,he2⟩,hit2⟩,λb hb=> ?_⟩
   have hbT:b≠Tp:=λz=>by
    obtain⟨o,q⟩:∃o,s.heap.get? b=some o:=by
     rcases List.mem_cons.mp hb with rfl | hb
     ·exact⟨_,he⟩
     ·rw[List.mem_singleton.mp hb];obtain⟨o,q,_⟩:=hi.obj;exact⟨o,q⟩
    exact absurd (Nat.lt_of_lt_of_le (Heap.lt_size q) hTsz) (by rw[z];exact Nat.lt_irrefl _)
   rw[ar hbT];exact(hf b hb).1
  have hne:∀b∈ [e,it],a≠b:=λb hb z=>by
   have hb':=(hf b hb).1;rw[<-z]at hb'
   have hbs:=hf b hb
   cases tt with
   | true=>
    have hq':SqT X.K H a xs:=hq;rcases hq' with(q | ⟨o,q⟩) | ⟨o,its,n,q,_⟩
    ·rw[hb']at q;cases q
    ·rw[hb']at q;cases q
    ·rcases hbs.2.2.2.1 with z1 | z1
     ·exact I.ok.noex a o (I.ok.mod.kin a o q) (z▸z1)
     ·exact absurd (Nat.lt_of_lt_of_le (Heap.lt_size (I.ok.bs a o (I.ok.mod.kin a o q)).1) (z▸z1)) (Nat.lt_irrefl _)
   | false=>
    have hq':SqL X.K H a xs:=hq;rcases hq' with(q | ⟨o,q⟩) | ⟨o,its,n,q,_⟩
    ·rw[hb']at q;cases q
    ·rw[hb']at q;cases q
    ·rcases hbs.2.2.2.1 with z1 | z1
     ·exact I.ok.noex a o (I.ok.mod.kin a o q) (z▸z1)
     ·exact absurd (Nat.lt_of_lt_of_le (Heap.lt_size (I.ok.bs a o (I.ok.mod.kin a o q)).1) (z▸z1)) (Nat.lt_irrefl _)
  have hea:e≠a:=λz=>hne e (by simp) z.symm
  have hia:it≠a:=λz=>hne it (by simp) z.symm
  cases tt with
  | true=>
   have hq':SqT X.K H a xs:=hq;obtain⟨its,rv,p,hz⟩:=I.tuple hq'
   exact key its rv (λys hy=>I.tuple_inj hy hq') _ _ (Enu.tupDraws (A:=X.A.in1) (I.ok.hd hc) it a (Ne.symm hia) its.toArray) (by simp[hei,hea]) (by simp) ⟨hi,p⟩ λh' z=>z.1
  | false=>
   have hq':SqL X.K H a xs:=hq;obtain⟨its,rv,p,hz⟩:=I.list hq';exact key its rv (λys hy=>I.list_inj hy hq') _ _ (Draws.list (A:=X.A.in1) (I.ok.hd hc) it a (Ne.symm hia) its.toArray) (by simp[hei,hea]) (by simp) ⟨hi,p.isList⟩ λh' z=>z.1
 done:=by
  intro X hP hw hK hc i pins s σ H E I hf st hg;subst hP hw hK;obtain⟨xs,hq,hx⟩:=hg;obtain⟨⟨old,he⟩,hi⟩:=st
  have fin:∀h',Heap.ExtBut it s.heap h'->(none:Option Value)=none/\Inv X pins σ H { s with heap:=h' }:=λh' eb=>⟨rfl,I.turnedL (t':=s.toks) hf λb o hb q=>eb b o (λz=>hb (by simp[z])) q⟩
  cases tt with
  | true=>
   have hq':SqT X.K H a xs:=hq;obtain⟨its,rv,p,hz⟩:=I.tuple hq'
   have hl:=rv.length
   have hnone:its.toArray[i]? =none:=by simp;omega
   have hT:s.TypeIs (.ref e) "enumerate":=⟨_,he,rfl⟩;unfold pyNext;refine wpAny_bind (wpAny_attempt (wpAny_callSpecial?_slot (name:=Str.ofString "__next__") hT F.slot_enumerate_next (wpAny_call_entry F.slot_enumerate_next hT F.entry_enumerate_next ?_ (F.args_enumerate_next_1 _))))
   show wpAny (model X.prog X.w) _ (field (.ref e) 2 >>= _) _ _ _
   refine wpAny_bind (wpAny_field he rfl (x:=.ref it) rfl ?_)
   refine wpAny_bind (Enu.tupStop (I.ok.hd hc) hi p hnone λh' x he' hx'=> ?_)
   obtain⟨o,ho,hcl⟩:=hx'
   exact wpAny_bind (wpAny_isInstance (T:="StopIteration") (b:=true) ⟨o,ho,hcl⟩ isSubtype_stop (wpAny_pure (fin h' he')))
  | false=>
   have hq':SqL X.K H a xs:=hq;obtain⟨its,rv,p,hz⟩:=I.list hq'
   have hl:=rv.length
   have hnone:its.toArray[i]? =none:=by simp;omega
   exact wpAny_pyNext_enum_end (I.ok.hd hc) he hi p.isList hnone fin
 self:=λ_ _ _ _ _ st h=>by
  obtain⟨⟨old,he⟩,_⟩:=st;exact wpAny_pyIter_enum he h
section
variable {X:Cx}{elts:List Expr}{kk:Nat}{tpos:Pos}
theorem lF:bootBuiltins "enumerate" =some (.type "enumerate"):=by decide+kernel
def iEnu (K:PySem.W.Frag)(tl:TA):TI:=λσ H R=>tl σ H λvs H1=> ∃a tt,vs= [.ref a]/\(∃xs,zK K H1 a tt xs)/\R (Dq K a tt) H1
theorem ya {l:Expr}{tl:TA}{p pos:Pos}(hg:Gl X "enumerate")(hm:X.mg "enumerate" =none)(hl:PA X [l] tl)(hs:starEach [l] X.env= [(false,eval l X.env)]:=by rfl):PI X (.Tuple elts kk tpos) (.Call (.Name "enumerate" p) [l] [] pos) (iEnu X.K tl):=by
 intro pins s σ H R I h;refine Call_ (eI I hg hm lF (PyProof.Rows.callWith_type1 (bS (hl pos pins s σ H _ I h) λus s1 ⟨vs,H1,I1,r1,q1⟩=> ?_) hs rfl))
 obtain⟨a,tt,e,⟨xs,hq⟩,q⟩:=q1;subst e;obtain⟨u,rfl,ru⟩:=gE r1;cases ru
 have fin:∀h',IsEnum h' (s1.heap.objs.size+1) s1.heap.objs.size 0 .none->itAt tt h' s1.heap.objs.size a 0->h'.objs.size=s1.heap.objs.size+2->(∀b o,s1.heap.get? b=some o->h'.get? b=some o) →
   wpAny (model X.prog X.w) X.A (pyIter (.ref (s1.heap.objs.size+1))) (PIE X pins σ (.Tuple elts kk tpos) R) X.xe { s1 with heap:=h' }:=λh' he hi hsz hk=>by
  refine wpAny_pyIter_enum he ?_
  have I2:Inv X pins σ H1 { s1 with heap:=h' }:=I1.kept (t':=s1.toks) hk
  refine⟨s1.heap.objs.size+1,[s1.heap.objs.size+1,s1.heap.objs.size],_,_,H1,rfl,I2,tx tt a (s1.heap.objs.size+1) s1.heap.objs.size (Nat.succ_ne_self _),⟨⟨_,he⟩,hi⟩,λb hb=> ?_,q⟩
  rcases List.mem_cons.mp hb with rfl | hb
  ·exact I1.fpOk (by omega) (I1.hok.fresh (by omega))
  ·rw[List.mem_singleton.mp hb];exact I1.fpOk (Nat.le_refl _) (I1.hok.fresh (Nat.le_refl _))
 cases tt with
 | true=>
  have hq':SqT X.K H1 a xs:=hq;obtain⟨its,rv,pl,hz⟩:=I1.tuple hq'
  exact Enu.callT pl λh' he hi hsz hk=>fin h' he hi hsz hk
 | false=>
  have hq':SqL X.K H1 a xs:=hq;obtain⟨its,rv,pl,hz⟩:=I1.list hq';exact call_enumerate_list pl.isList λh' he hi hsz hk=>fin h' he hi hsz hk
end
end L2
namespace Tr
open PySem PySem.Spec PyProof.Rows L2
section
variable {X:Cx}{a:Expr}{fa:En->Rs T}{fs:En->Rs (List T)}{p pos:Pos}
def iS (f:En->Rs T)(Z:En):Rs (List T):=do
 let x <-f Z
 match x with
 | .lst l=> .ok l
 | .tup l=> .ok l
 | _=> .bad
theorem Az {tg:Expr}(ha:cq X a fa):uF X tg a (iS fa):=by
 intro pins s σ H R I ⟨Z,O,E,h⟩;unfold iS at h
 cases q:fa Z with
 | bad=>rw[q]at h;exact h.elim
 | err c=>exact rR ha pins s σ H R I ⟨Z,O,E,by unfold iL;rw[q]at h ⊢;exact h⟩
 | ok x=>
  rw[q,ay]at h
  cases x with
  | lst l=>exact rR ha pins s σ H R I ⟨Z,O,E,by unfold iL;rw[q];exact h⟩
  | tup l=>exact Ay ha pins s σ H R I ⟨Z,O,E,by unfold iT;rw[q];exact h⟩
  | _=>exact h.elim
def br:Nat->List T->List T
 | _,[] => []
 | n,t::r=> .tup [.int n,t] ::br (n+1) r
theorem mX:∀(l:List T) (n i:Nat),(br n l)[i]? =(l[i]?).map λt=>T.tup [.int ((n+i:Nat):Int),t]
 | [],n,i=>by simp[br]
 | t::l,n,0=>by simp[br]
 | t::l,n,i+1=>by
  rw[br,List.getElem?_cons_succ,mX l (n+1) i,List.getElem?_cons_succ]
  congr 2
  funext t
  congr 4
  omega
theorem mW:∀(l:List T) (n:Nat),(br n l).length=l.length
 | [],n=>rfl
 | t::l,n=>by rw[br,List.length_cons,List.length_cons,mW l]
def iE (f:En->Rs (List T))(Z:En):Rs (List T):=do
 let xs <-f Z
 match xs with
 | [x] =>match x.items with
  | some l=> .ok (br 0 l)
  | none=> .bad
 | _=> .bad
theorem xP {elts:List Expr}{kk:Nat}{tpos:Pos}(hm:X.mg "enumerate" =none)(ha:nj X [a] fs)(hg:Gl X "enumerate":=by rfl)(hs:starEach [a] X.env= [(false,eval a X.env)]:=by rfl) :
  uF X (.Tuple elts kk tpos) (.Call (.Name "enumerate" p) [a] [] pos) (iE fs):=PI.imp (ya hg hm ha hs) λσ H R hh_=>by
 obtain⟨Z,O,E,h⟩:=hh_;obtain⟨Z1,O1,E1,h1⟩:=d6 E h;refine⟨Z1,O1,E1,Post.mono h1 λts H1 s1 q vs r=> ?_⟩
 obtain⟨t',r',s',E',q'⟩:=q vs r
 split at q'
 ·rename_i x0
  obtain⟨v,rfl,rv⟩:=r'.one
  split at q'
  ·rename_i l hl
   have main:∀(aa:Addr) (tt:Bool) (ws:List V),v= .ref aa->¬ O aa->Reps X.K O H1 l ws->zK X.K H1 aa tt ws->(∀P Hc,SameO P H1 Hc->¬ P aa->zK X.K Hc aa tt ws)->¬ Nw X.K H1 aa →
     ∃a tt,[v] = [V.ref a]/\(∃xs,zK X.K H1 a tt xs)/\R (Dq X.K a tt) H1:=λaa tt ws e n z sq mv nn=>by
    refine⟨aa,tt,by rw[e],⟨ws,sq⟩,q' H1 (Same.refl H1) _ λP O' hP hO i Hc hsm htr=> ?_⟩
    have hnP:¬ P aa:=λy=>(hP aa y).elim n nn
    have sqc:=mv P Hc hsm hnP;refine⟨λhi=>⟨ws,sqc,by rw[<-z.length,<-mW l 0];exact hi⟩,λt ht=> ?_⟩
    rw[mX]at ht
    cases e1:l[i]? with
    | none=>rw[e1]at ht;cases ht
    | some t0=>
     rw[e1]at ht;cases ht;obtain⟨v0,f1,f2⟩:=z.get e1;refine⟨⟨ws,v0,sqc,f1⟩,λx Hc' y=> ?_⟩
     obtain⟨pp,vv,e2,hpn,e3,hy⟩:=y
     have:=hy ws sqc;rw[f1]at this;cases this;subst e2 e3;refine⟨aM hpn _,fW hpn (λzz=> ?_) (Reps.cons_ (by simpa using Rep.int_ _) (Reps.cons_ (f2.move hP hO hsm) Reps.nil_))⟩
     obtain⟨o,w⟩:=htr pp zz;rw[hpn]at w;cases w
   cases x0 with
   | tup m=>
    cases hl;obtain⟨aa,ws,e,n,qq,z⟩:=Rep.tup_iff.mp rv
    exact main aa true ws e n z (show SqT X.K H1 aa ws from SqT.of qq) (λP Hc hsm hn=>show SqT X.K Hc aa ws from SqT.of (hsm _ _ qq hn)) λw=>by rw[w.1]at qq;cases qq
   | lst m=>
    cases hl;obtain⟨aa,ws,e,n,qq,z⟩:=Rep.lst_iff.mp rv
    exact main aa false ws e n z (show SqL X.K H1 aa ws from SqL.of qq) (λP Hc hsm hn=>show SqL X.K Hc aa ws from SqL.of (hsm _ _ qq hn)) λw=>by rw[w.1]at qq;cases qq
   | scr m=>
    cases hl;unfold Rep at rv;obtain⟨aa,e,n,qq⟩:=rv
    exact main aa false _ e n Reps.ints (show SqL X.K H1 aa _ from qq) (λP Hc hsm hn=>show SqL X.K Hc aa _ from Tr.SqL.keep hsm hn qq) (Tr.SqL.nn qq)
   | _=>cases hl
  ·exact q'.elim
 ·exact q'.elim
end
end Tr
namespace Tm
open PySem PyProof.Rows
theorem jB:fillsNumberSlot (.type "tuple") "mul" =pure false:=
 PySem.fillsNumberSlot_seq (id:="tuple.__mul__") (r:=some (.builtin "tuple.__rmul__")) F.slot_tuple_mul.lookup (by decide+kernel) F.slot_tuple_rmul.lookup (by decide+kernel)
theorem nJ:seqRepeat? (.type "tuple")=pure (some (.builtin "tuple.__mul__")):=by
 unfold seqRepeat?;rw[PySem.seqSlot_of (T:="tuple") (name:="__mul__") (id:="tuple.__mul__") F.slot_tuple_mul.lookup (by decide+kernel),PySem.seqSlot_of (T:="tuple") (name:="__rmul__") (id:="tuple.__rmul__") F.slot_tuple_rmul.lookup (by decide+kernel)]
 rfl
theorem qO (a:Int)(t:Tok)(l:Addr)(items:Array Value)(n:Nat)(dd:Option Addr)(sl:Array (Option Value)) :
  Meets (Builtin.«int.__rmul__» ⟨[.int a t,.ref l],[]⟩) (λ_ R s=>s.heap.get? l=some { cls:=.type "tuple",dict:=dd,data:=.seq items n,slots:=sl }/\R (.ok (.ret Value.notImplemented)) s):=
 .of_wp λprog w A R s h=>by obtain⟨hp,g,d,tk,os⟩:=s;obtain⟨hl,h⟩:=h;wp_walk;exact⟨_,rfl,h⟩
open AutoSeq1 (wpAny_loadPart')
theorem vN (l:Addr)(items:Array Value)(n:Nat)(dd:Option Addr)(sl:Array (Option Value))(x:Int)(u:Tok)(h1:1<x)(h2:x<2 ^ 31)(hne:items.isEmpty=false)(hz:items.size*x.toNat<=sizeLine)
  (hz2:(List.foldl (λa b=>a++b) #[] (List.replicate x.toNat items)).size<=sizeLine) :
  Meets (Builtin.«tuple.__mul__» ⟨[.ref l,.int x u],[]⟩) (λ_ R s=>s.heap.get? l=some { cls:=.type "tuple",dict:=dd,data:=.seq items n,slots:=sl } ∧
   R (.ok (.ret (Value.ref s.heap.objs.size))) { s with heap:=s.heap.push { cls:=Value.type "tuple",data:=Data.seq (List.foldl (λa b=>a++b) #[] (List.replicate x.toNat items)) } }):=
 .of_wp λprog w A R s h=>by
  obtain⟨hp,g,d,tk,os⟩:=s;obtain⟨hl,h⟩:=h
  have hT:IsTup hp l items:=⟨_,hl,rfl,n,rfl⟩
  have hx:((items.size:Nat):Int)*x=((items.size*x.toNat:Nat):Int):=by
   have e:x=((x.toNat:Nat):Int):=by omega
   rw[Int.natCast_mul,<-e]
  wp_walk using wpAny_loadPart' hl
  rw[if_neg (by simp;omega)]
  refine wpAny_bind (tupleItemsOf_ (s:=⟨hp,g,d,tk,os⟩) hT ?_)
  dsimp only
  rw[if_neg (by rw[hne];simp;omega),if_neg (by rw[hne];simp;omega),hx,if_neg (by have:(sizeLine:Nat)<=1000000000:=(by decide);omega),if_neg (by unfold Builtin.Tuple.tupleTooMany;rw[decide_eq_true_iff];omega)]
  refine wpAny_bind (m:=Builtin.Tuple.tupleExact _) (wpAny_newObj_type ?_ hz2)
  exact wpAny_pure ⟨_,rfl,h⟩
section
variable {prog:Program}{w:World}{A:Around}{E:Value->Shared->Prop}{s:Shared}
theorem mul_tuple {t:Addr}{vs:List Value}{k:Int}{tk:Tok}{Q:Value->Shared->Prop}(ht:IsTup s.heap t vs.toArray)(h1:1<k)(h2:k<2 ^ 31)(hv:vs≠ [])(hz:vs.length*k.toNat<=sizeLine)
  (h:Q (.ref s.heap.objs.size) { s with heap:=s.heap.push { cls:=.type "tuple",data:=.seq (List.replicate k.toNat vs).flatten.toArray } }) :
  wpAny (model prog w) A (binaryOp .Mult (.ref t) (.int k tk)) Q E s:=by
 obtain⟨⟨cls,dd,data,sl⟩,ho,hc,n,hd⟩:=id ht;simp only at hc hd;subst hc hd
 have e:List.foldl (λa b=>a++b) #[] (List.replicate k.toNat vs.toArray)=(List.replicate k.toNat vs).flatten.toArray:=by
  have q:=L2.foldl_rep vs k.toNat []
  simpa using q
 refine wpAny_binaryOp_repeat_ref (T:="tuple") (U:="int") (by decide) ⟨_,ho,rfl⟩ (λs'=>typeIs_int s' k tk) jB F.fills_int_mul F.slot_int_rmul nJ F.slot_int_index.lookup
  (call_meets F.slot_int_rmul (typeIs_int s k tk) F.entry_int_rmul (F.args_int_rmul_2 _ _) (qO k tk t vs.toArray n dd sl)
   ⟨ho,rfl,⟨_,ho,rfl⟩,call_meets F.slot_tuple_mul ⟨_,ho,rfl⟩ F.entry_tuple_mul (F.args_tuple_mul_2 _ _) (vN t vs.toArray n dd sl k tk h1 h2 (by simpa using hv) (by simpa using hz) (by rw[e,List.size_toArray,L2.len_rep,Nat.mul_comm];exact hz)) ⟨ho,?_⟩⟩)
 rw[e];exact h
end
end Tm
namespace Tr
open PySem PySem.Spec PyProof.Rows L2
section
variable {X:Cx}
def bz (x y:T):Rs T:=match x,y with
 | .tup l,.int k=>if 1<k/\k<2 ^ 31/\l≠ []/\l.length*k.toNat<=sizeLine then .ok (.tup (List.replicate k.toNat l).flatten)else .bad
 | x,y=>qU x y
instance (l:List T):Decidable (l≠ []):=by cases l <;> simp <;> infer_instance
theorem cJ:OpT X (binaryOp .Mult) bz:=by
 intro pins s σ H O x y vx vy ux uy Q I hf rx ry r1 r2 hp;unfold bz at hp
 split at hp
 ·rename_i l k
  split at hp
  ·rename_i h
   obtain⟨a,vs,e1,n1,q1,z1⟩:=Rep.tup_iff.mp rx;subst e1;cases Rep.int_iff.mp ry;cases r1;obtain⟨tk,rfl⟩:=r2;obtain⟨its,rv,pl,hz⟩:=I.tuple (SqT.of q1)
   have hl1:=z1.length
   have hl2:=rv.length
   have hne:its≠ []:=λz=>h.2.2.1 (List.eq_nil_of_length_eq_zero (by rw[hl1,hl2,z];rfl))
   refine Tm.mul_tuple pl h.1 h.2.1 hne (by rw[<-hl2,<-hl1];exact h.2.2.2) ?_
   have hn:=I.hok.fresh (Nat.le_refl _);refine⟨.ref _,_,I.laid (t':=s.toks) (o:=.tup (List.replicate k.toNat vs).flatten) (λb ob q=>Heap.get?_push_of_some _ q) (Nat.le_refl _) ?_,rfl,hp _ (aM hn _) _ (fW hn (hf _ hn) (z1.rep _))⟩
   refine⟨?_,_,rv.rep k.toNat,IsTup.new _ _⟩
   rw[len_rep,Nat.mul_comm,<-hl1];exact h.2.2.2
  ·exact hp.elim
 ·exact AO pins s σ H O _ _ vx vy ux uy Q I hf rx ry r1 r2 hp
end
def A6 (outer:List (Str×NameKind))(N:List Str)(names:List (Str×NameKind))(N':List Str)(src:List (Option Nat)):Bool:=
 names.all (λy=>y.2 != .cell||names.lookup y.1 == some .cell)&&names.all (λy=>y.2 != .local||names.lookup y.1 == some .local)&&src.length == N'.length&&
 (List.range N'.length).all (λj=>match src[j]? with
  | some (some i)=>match N'[j]? with
   | some x=>N[i]? == some x&&names.lookup x == some .free
   | none=>true
  | _=>true)&&
 names.all (λy=>y.2 != .free||(outer.lookup y.1 == some .cell||outer.lookup y.1 == some .free))
theorem LcScope.by {X:Cx}{scope:Scope}{N N':List Str}{src:List (Option Nat)}{names:List (Str×NameKind)}(hN:X.N=N)(hs:X.env.scope.names=names)(hk:scope.kind= .function)(h:A6 names N scope.names N' src=true):LcScope X scope N' src:=by
 unfold A6 at h;simp only[Bool.and_eq_true]at h;obtain⟨⟨⟨⟨h1,h2⟩,h3⟩,h4⟩,h5⟩:=h
 have a1:=List.all_eq_true.mp h1
 have a2:=List.all_eq_true.mp h2
 have a4:=List.all_eq_true.mp h4
 have a5:=List.all_eq_true.mp h5;refine⟨hk,λy hy hl=>by have:=a1 y hy;rw[hl]at this;simpa using this,λy hy hl=> ?_,by simpa using h3,λj i x e1 e2=> ?_,λx hx=> ?_⟩
 ·have:=a2 y hy
  rw[hl]at this
  simpa using this
 ·have hj:j<N'.length:=(List.getElem?_eq_some_iff.mp e2).1
  have:=a4 j (List.mem_range.mpr hj);rw[e1]at this;simp only[e2]at this;rw[Bool.and_eq_true]at this;rw[hN];exact⟨by simpa using this.1,by simpa using this.2⟩
 ·have:=a5 _ hx
  simp only[bne_self_eq_false,Bool.false_or,Bool.or_eq_true]at this
  show X.env.scope.names.lookup x=_\/X.env.scope.names.lookup x=_
  rw[hs];rcases this with z | z
  ·exact .inl (by simpa using z)
  ·exact .inr (by simpa using z)
def cj:Expr->Bool
 | .Starred .. =>false
 | _=>true
def ba:List Expr->Bool
 | [] =>true
 | e::r=>cj e&&ba r
theorem a6 {e:Expr}{es:List Expr}{env:Env}(h:cj e=true):starEach (e::es) env=(false,eval e env)::starEach es env:=by
 cases e <;> first | rfl | cases h
theorem ft {pos:Pos}{env:Env}:∀{es:List Expr},ba es=true->(backTo pos (starEach es env)).any (·.1)=false
 | [],_=>rfl
 | e::r,h=>by
  unfold ba at h;rw[Bool.and_eq_true]at h;rw[a6 h.1]
  have ih:=ft (pos:=pos) (env:=env) h.2
  show(false||(backTo pos (starEach r env)).any (·.1))=false
  rw[ih];rfl
section
variable {X:Cx}{a b e:Expr}{es:List Expr}{fa:En->Rs T}{fs:En->Rs (List T)}{pos p p2:Pos}{x:Str}
theorem qa_c {f:En->Rs T}{g:En->Rs (List T)}(he:cq X e f)(hr:nj X es g)(hn:cj e=true:=by rfl):nj X (e::es) (ac f g):=xS he hr (a6 hn)
theorem q_cB {id:String}{g:List T->Rs T}(hc:CallT X (.builtin id) g)(hm:X.mg x=none)(hv:bootBuiltins x=some (.builtin id))(ha:nj X (e::es) fs)(hn:ba (e::es)=true:=by rfl)(hg:Gl X x:=by rfl)(h1:x≠ "__name__":=by decide)(h2:(x == ("__debug__" : Str))=false:=by decide) :
  cq X (.Call (.Name x p) (e::es) [] pos) (cl g fs):=by
 unfold ba at hn;rw[Bool.and_eq_true]at hn;exact xV hc hm hv ha hg h1 h2 (a6 hn.1) (ft hn.2)
theorem q_cT {Ty:String}{g:List T->Rs T}(hc:CallT X (.type Ty) g)(hm:X.mg x=none)(hv:bootBuiltins x=some (.type Ty))(ha:nj X (e::es) fs)(hn:ba (e::es)=true:=by rfl)(hg:Gl X x:=by rfl)(h1:x≠ "__name__":=by decide)(h2:(x == ("__debug__" : Str))=false:=by decide) :
  cq X (.Call (.Name x p) (e::es) [] pos) (cl g fs):=by
 unfold ba at hn;rw[Bool.and_eq_true]at hn;exact u8 hc hm hv ha hg h1 h2 (a6 hn.1) (ft hn.2)
theorem q_c {n k:Nat}{f:Addr}{fd:FuncData}{ps:List Str}{g:List T->Rs T}(F:wX X.prog X.w X.K X.mg X.base k f fd ps n g)(hr:Room k X.A)(hm:X.mg x=some (.ref f))(hk:PySem.W.keepIn X.K (.ref f)=true)(hb:Binds X.K fd ps [])
  (hl:∀Z ts,fs Z= .ok ts->ts.length=n) (ha:nj X (e::es) fs) (hps:ps.length=n:=by rfl) (hn:ba (e::es)=true:=by rfl) (hg:Gl X x:=by rfl) (h2:(x == ("__debug__" : Str))=false:=by decide):cq X (.Call (.Name x p) (e::es) [] pos) (cl g fs):=by
 unfold ba at hn;rw[Bool.and_eq_true]at hn;exact AE F hr hm hk hb hps hl ha hg h2 (a6 hn.1) (ft hn.2)
theorem q_is {tn:Str}{Ty:String}(hm:X.mg "isinstance" =none)(hmt:X.mg tn=none)(hv:bootBuiltins tn=some (.type Ty))(ha:cq X a fa)(hn:cj a=true:=by rfl)(hg:Gl X "isinstance":=by rfl)(hgt:Gl X tn:=by rfl)
  (h1:tn≠ "__name__":=by decide) (h2:(tn == ("__debug__" : Str))=false:=by decide):cq X (.Call (.Name "isinstance" p) [a,.Name tn p2] [] pos) (o1 (yz Ty) fa):=
 Cm hm hmt hv ha hg hgt h1 h2 (a6 hn) (ft rfl) (a6 rfl)
end
theorem zJ (Z:En)(ts:List T)(h:ag Z= .ok ts):ts.length=0:=by cases h;rfl
theorem zI {n:Nat}{f:En->Rs T}{g:En->Rs (List T)}(hg:∀Z ts,g Z= .ok ts->ts.length=n)(Z:En)(ts:List T)(h:ac f g Z= .ok ts):ts.length=n+1:=by
 unfold ac at h
 cases q:f Z with
 | bad=>rw[q]at h;cases h
 | err c=>rw[q]at h;cases h
 | ok t=>
  rw[q,ay]at h
  cases q2:g Z with
  | bad=>rw[q2]at h;cases h
  | err c=>rw[q2]at h;cases h
  | ok r=>
   rw[q2,ay]at h;cases h;rw[List.length_cons,hg Z r q2]
theorem ix {k:Nat}{A:Around}(h:Room k A):A.units+60<cLine:=by have:=h.un;omega
structure Fn (K:PySem.W.Frag)(mg:Str->Option Value)(x:Str)(st:Stmt)(ps:List Str)(f:Addr)(fd:FuncData):Prop where
 fn:L2.Fun K x x st f fd
 bd:Binds K fd ps []
 mg:mg x=some (.ref f)
def val (n m:Nat)(F:En->Rs Fl)(ts:List T):Rs T:=if ts.length=n then bi F (aK m ts)else .bad
theorem zS {n m:Nat}{F:En->Rs Fl}{ts:List T}{t:T}(h:val n m F ts= .ok t):bi F (aK m ts)= .ok t:=by
 unfold val at h
 split at h
 ·exact h
 ·cases h
theorem sp_script {K:PySem.W.Frag}{H:Hp}{a:Addr}{ns:List Int}{g:List T->Rs T}{E:XK}(hS:SqL K H a (ns.map V.int))(h:g [.scr ns] = .ok (.bl true)):spP K 1 g [.ref a] H (λv _=>v= .bl true) E:=by
 refine⟨[.scr ns],λ_=>False,Reps.cons_ ?_ Reps.nil_,λ_ z=>z.elim,rfl,?_⟩
 ·unfold Rep;exact⟨a,rfl,λz=>z,hS⟩
 ·rw[h];exact λv H' _ r=>Rep.bl_iff.mp r
theorem pe {α:Type}{l:List α}{i:Nat}{z:α}(h:l[i]? =some z):l.set i z=l:=by
 obtain⟨hi,rfl⟩:=List.getElem?_eq_some_iff.mp h
 exact List.set_getElem_self hi
def Mn.set (M:Mn)(i:Nat)(m:Ow):Mn:=λj=>if j=i then m else M j
theorem Mn.set_u {M:Mn}{i:Nat}{m:Ow}{a:Addr}(h:(M.set i m).u a):m a\/M.u a:=by
 obtain⟨j,h⟩:=h;unfold Mn.set at h
 by_cases z:j=i
 ·rw[if_pos z]at h;exact .inl h
 ·rw[if_neg z]at h;exact .inr ⟨j,h⟩
theorem Mn.set_at {M:Mn}{i:Nat}{m:Ow}:M.set i m i=m:=by unfold Mn.set;rw[if_pos rfl]
theorem Mn.set_ne {M:Mn}{i j:Nat}{m:Ow}(h:j≠i):M.set i m j=M j:=by unfold Mn.set;rw[if_neg h]
theorem RowsR.move {K:PySem.W.Frag}{O O' P:Ow}{H H':Hp}(hP:∀a,P a->O a\/Nw K H a)(hO:∀a,O' a->O a\/Nw K H a)(h:SameO P H H'):∀{rs:List (List T×List T)} {as:List Addr},(∀b∈as,¬P b)->RowsR K O H rs as->RowsR K O' H' rs as
 | [],_,_,r=>r
 | _::_,_,hb,⟨b,bs,kvs,e1,e2,e3,e4,e5⟩=>by
  subst e1;exact⟨b,bs,kvs,rfl,h _ _ e2 (hb b List.mem_cons_self),e3,e4.move hP hO h,e5.move hP hO h λc hc=>hb c (List.mem_cons_of_mem _ hc)⟩
theorem ORep.move {K:PySem.W.Frag}{O O' P M:Ow}{H H':Hp}{o:OT}{v:V}(hP:∀a,P a->O a\/Nw K H a)(hO:∀a,O' a->O a\/Nw K H a)(h:SameO P H H')(hM:∀a,M a->¬ P a)(r:ORep K O M H o v):ORep K O' M H' o v:=by
 cases o with
 | lst l=>obtain⟨a,vs,e1,e2,e3,e4⟩:=r;exact⟨a,vs,e1,e2,h _ _ e3 (hM a ((e2 a).mpr rfl)),e4.move hP hO h⟩
 | dct ks ts=>obtain⟨a,kvs,e1,e2,e3,e4,e5⟩:=r;exact⟨a,kvs,e1,e2,h _ _ e3 (hM a ((e2 a).mpr rfl)),e4,e5.move hP hO h⟩
 | dd ks rows=>
  obtain⟨a,kvs,as,e1,e2,e3,e4,e5,e6,e7,e8⟩:=r;exact⟨a,kvs,as,e1,e2,e3,e4,h _ _ e5 (hM a ((e2 a).mpr (.inl rfl))),e6,e7,e8.move hP hO h λb hb=>hM b ((e2 b).mpr (.inr hb))⟩
theorem RowsR.mtb {K:PySem.W.Frag}{O:Ow}{H:Hp}:∀{rs:List (List T×List T)} {as:List Addr},RowsR K O H rs as->∀b∈as,∃kvs,H b=some (.dT kvs)
 | [],_,r,b,hb=>by unfold RowsR at r;subst r;simp at hb
 | _::_,_,⟨b0,bs,kvs,e1,e2,e3,e4,e5⟩,b,hb=>by
  subst e1;rcases List.mem_cons.mp hb with rfl | hb
  ·exact⟨kvs,e2⟩
  ·exact e5.mtb b hb
def OT.isD:OT->Bool
 | .lst _=>false
 | _=>true
theorem ORep.kind {K:PySem.W.Frag}{O M:Ow}{H:Hp}{o:OT}{v:V}(r:ORep K O M H o v):∀a,M a->if o.isD then ∃kvs,H a=some (.dT kvs)else ∃vs,H a=some (.lst vs):=λa z=>by
 cases o with
 | lst l=>obtain⟨b,vs,e1,e2,e3,e4⟩:=r;cases (e2 a).mp z;exact⟨vs,e3⟩
 | dct ks ts=>obtain⟨b,kvs,e1,e2,e3,e4,e5⟩:=r;cases (e2 a).mp z;exact⟨kvs,e3⟩
 | dd ks rows=>
  obtain⟨b,kvs,as,e1,e2,e3,e4,e5,e6,e7,e8⟩:=r
  rcases(e2 a).mp z with z | z
  ·cases z;exact⟨kvs,e5⟩
  ·exact e8.mtb a z
theorem ORep.mtb {K:PySem.W.Frag}{O M:Ow}{H:Hp}{o:OT}{v:V}(r:ORep K O M H o v)(a:Addr)(z:M a):Mtb H a:=by
 have:=r.kind a z
 split at this
 ·exact .inr this
 ·exact .inl this
theorem pA {K:PySem.W.Frag}{O:Ow}{H:Hp}:∀{rs:List (List T×List T)} {as:List Addr},(∀b∈as,¬O b)->RowsR K O H rs as->Reps K O H (rs.map λr=>T.dct r.1 r.2) (as.map V.ref)
 | [],_,_,r=>by unfold RowsR at r;subst r;exact Reps.nil_
 | _::_,_,hn,⟨b,bs,kvs,e1,e2,e3,e4,e5⟩=>by
  subst e1;exact Reps.cons_ (Rep.dct_iff.mpr ⟨b,kvs,rfl,hn b List.mem_cons_self,.inl e2,e3,e4⟩) (pA (λc hc=>hn c (List.mem_cons_of_mem _ hc)) e5)
theorem RowsR.less {K:PySem.W.Frag}{O O':Ow}{H:Hp}(sub:∀a,O' a->O a):∀{rs:List (List T×List T)} {as:List Addr},RowsR K O H rs as->RowsR K O' H rs as
 | [],_,r=>r
 | _::_,_,⟨b,bs,kvs,e1,e2,e3,e4,e5⟩=>⟨b,bs,kvs,e1,e2,e3,e4.less sub,e5.less sub⟩
theorem ORep.rep {K:PySem.W.Frag}{O O' M:Ow}{H:Hp}{o:OT}{v:V}(sub:∀a,O' a->O a)(hn:∀a,M a->¬ O' a)(r:ORep K O M H o v):Rep K O' H o.view v:=by
 cases o with
 | lst l=>obtain⟨a,vs,e1,e2,e3,e4⟩:=r;exact Rep.lst_iff.mpr ⟨a,vs,e1,hn a ((e2 a).mpr rfl),e3,e4.less sub⟩
 | dct ks ts=>obtain⟨a,kvs,e1,e2,e3,e4,e5⟩:=r;exact Rep.dct_iff.mpr ⟨a,kvs,e1,hn a ((e2 a).mpr rfl),.inl e3,e4,e5.less sub⟩
 | dd ks rows=>
  obtain⟨a,kvs,as,e1,e2,e3,e4,e5,e6,e7,e8⟩:=r;refine Rep.dct_iff.mpr ⟨a,kvs,e1,hn a ((e2 a).mpr (.inl rfl)),.inl e5,e6,?_⟩
  rw[e7];exact pA (λb hb=>hn b ((e2 b).mpr (.inr hb))) (e8.less sub)
section
variable {K:PySem.W.Frag}{B:Ow}{M:Mn}{H H':Hp}{Z:En}{σ:L2.St}{i:Nat}{o o':OT}{v:V}{m:Ow}
theorem Ev.new (E:Ev K B M H Z σ)(hl:i<Z.length)(hm:∀a,m a->Nw K H a)(s:Same H H')(r:ORep K (OO B (M.set i m)) m H' o v) :
  Ev K B (M.set i m) H' (Z.set i (.ow o)) (σ.set i (some v))/\∀a,(M.set i m).u a->M.u a\/Nw K H a:=by
 have hls:i<σ.length:=by rw[<-E.env.len];exact hl
 have sub:∀a,(M.set i m).u a->M.u a\/Nw K H a:=λa z=>(Mn.set_u z).elim (λw=> .inr (hm a w)) .inl
 have subO:∀a,OO B (M.set i m) a->OO B M a\/Nw K H a:=λa z=>z.elim (λw=> .inl (.inl w)) λw=>(sub a w).elim (λy=> .inl (.inr y)) .inr
 have d9:∀a,Nw K H a->¬ OO B M a:=λa w z=>by
  obtain⟨o,e⟩:=(E.env.trk a z).some;rw[w.1]at e;cases e
 refine⟨⟨⟨by rw[List.length_set,List.length_set];exact E.env.len,λj t e=> ?_,λj o' e=> ?_,λj a z=> .inr ⟨j,z⟩,λj k a z1 z2=> ?_,λa z=> ?_⟩,λa z=> ?_⟩,sub⟩
 ·by_cases hj:i=j
  ·subst hj;rw[List.getElem?_set_self hl]at e;cases e
  ·rw[List.getElem?_set_ne hj]at e
   obtain⟨w,e1,e2⟩:=E.env.val j t e;exact⟨w,by rw[List.getElem?_set_ne hj];exact e1,(e2.more subO).same s⟩
 ·by_cases hj:i=j
  ·subst hj
   rw[List.getElem?_set_self hl]at e
   cases e;exact⟨v,List.getElem?_set_self hls,by rw[Mn.set_at];exact r⟩
  ·rw[List.getElem?_set_ne hj]at e
   obtain⟨w,e1,e2⟩:=E.env.own j o' e;refine⟨w,by rw[List.getElem?_set_ne hj];exact e1,?_⟩
   rw[Mn.set_ne (λz=>hj z.symm)]
   exact(e2.move (P:=r8) (λ_ z=>z.elim) subO (λb u q _=>q) λ_ _ z=>z).same s
 ·unfold Mn.set at z1 z2
  by_cases hj:j=i
  ·by_cases hk:k=i
   ·exact hj.trans hk.symm
   ·rw[if_pos hj]at z1;rw[if_neg hk]at z2
    exact(d9 a (hm a z1) (.inr ⟨k,z2⟩)).elim
  ·by_cases hk:k=i
   ·rw[if_neg hj]at z1;rw[if_pos hk]at z2
    exact(d9 a (hm a z2) (.inr ⟨j,z1⟩)).elim
   ·rw[if_neg hj]at z1;rw[if_neg hk]at z2
    exact E.env.dis j k a z1 z2
 ·rcases z with z | z
  ·exact(E.env.trk a (.inl z)).same s
  ·rcases Mn.set_u z with w | w
   ·exact r.mtb a w
   ·exact(E.env.trk a (.inr w)).same s
 ·intro hb
  rcases Mn.set_u z with w | w
  ·exact d9 a (hm a w) (.inl hb)
  ·exact E.mine a w hb
theorem Ev.put (E:Ev K B M H Z σ)(hi:Z[i]? =some (.ow o))(hs:σ[i]? =some (some v))(s:SameO (M i) H H')(r:ORep K (OO B M) (M i) H' o' v):Ev K B M H' (Z.set i (.ow o')) σ/\SameO M.u H H':=by
 have hl:i<Z.length:=(List.getElem?_eq_some_iff.mp hi).1
 have inO:∀a,M i a->OO B M a\/Nw K H a:=λa z=> .inl (.inr ⟨i,z⟩)
 have idO:∀a,OO B M a->OO B M a\/Nw K H a:=λa z=> .inl z
 refine⟨⟨⟨by rw[List.length_set];exact E.env.len,λj t e=> ?_,λj o2 e=> ?_,E.env.sub,E.env.dis,λa z=> ?_⟩,E.mine⟩,λb u e n=>s b u e λz=>n ⟨i,z⟩⟩
 ·by_cases hj:i=j
  ·subst hj;rw[List.getElem?_set_self hl]at e;cases e
  ·rw[List.getElem?_set_ne hj]at e
   obtain⟨w,e1,e2⟩:=E.env.val j t e;exact⟨w,e1,e2.move inO idO s⟩
 ·by_cases hj:i=j
  ·subst hj
   rw[List.getElem?_set_self hl]at e
   cases e;exact⟨v,hs,r⟩
  ·rw[List.getElem?_set_ne hj]at e
   obtain⟨w,e1,e2⟩:=E.env.own j o2 e;exact⟨w,e1,e2.move inO idO s λa z y=>hj (E.env.dis i j a y z)⟩
 ·by_cases hz:M i a
  ·exact r.mtb a hz
  ·rcases E.env.trk a z with⟨vs,e⟩ | ⟨kvs,e⟩
   ·exact .inl ⟨vs,s _ _ e hz⟩
   ·exact .inr ⟨kvs,s _ _ e hz⟩
def disown (i:Nat)(Z:En):En:=match Z[i]? with
 | some (.ow o)=>Z.set i (.va o.view)
 | _=>Z
theorem EnvM.disown {O O':Ow}{Z:En}(E:EnvM K O M H Z σ)(i:Nat)(sub:∀a,O' a->O a)(hn:∀a,M i a->¬ O' a)(hin:∀j a,j≠i->M j a->O' a):EnvM K O' (M.set i r8) H (disown i Z) σ:=by
 have base:EnvM K O' (M.set i r8) H (Z.set i (match Z[i]? with | some (.ow o)=> .va o.view | some x=>x | none=> .em)) σ:=by
  refine⟨by rw[List.length_set];exact E.len,λj t e=> ?_,λj o e=> ?_,λj a z=> ?_,λj k a z1 z2=> ?_,λa z=>E.trk a (sub a z)⟩
  ·by_cases hj:i=j
   ·subst hj
    by_cases hl:i<Z.length
    ·rw[List.getElem?_set_self hl]at e
     cases q:Z[i]? with
     | none=>rw[q]at e;cases e
     | some z=>
      rw[q]at e
      cases z with
      | em=>cases e
      | va t'=>cases e;obtain⟨w,e1,e2⟩:=E.val i _ q;exact⟨w,e1,e2.less sub⟩
      | ow o=>cases e;obtain⟨w,e1,e2⟩:=E.own i _ q;exact⟨w,e1,e2.rep sub hn⟩
    ·rw[List.getElem?_eq_none (by rw[List.length_set];omega)]at e;cases e
   ·rw[List.getElem?_set_ne hj]at e
    obtain⟨w,e1,e2⟩:=E.val j t e;exact⟨w,e1,e2.less sub⟩
  ·by_cases hj:i=j
   ·subst hj
    by_cases hl:i<Z.length
    ·rw[List.getElem?_set_self hl]at e
     cases q:Z[i]? with
     | none=>rw[q]at e;cases e
     | some z=>
      rw[q]at e
      cases z with
      | em=>cases e
      | va t'=>cases e
      | ow o=>cases e
    ·rw[List.getElem?_eq_none (by rw[List.length_set];omega)]at e;cases e
   ·rw[List.getElem?_set_ne hj]at e
    obtain⟨w,e1,e2⟩:=E.own j o e;refine⟨w,e1,?_⟩
    rw[Mn.set_ne (λz=>hj z.symm)]
    exact e2.move (P:=r8) (λ_ z=>z.elim) (λa z=> .inl (sub a z)) (λb u q _=>q) λ_ _ z=>z
  ·unfold Mn.set at z
   by_cases hj:j=i
   ·rw[if_pos hj]at z;exact z.elim
   ·rw[if_neg hj]at z;exact hin j a hj z
  ·unfold Mn.set at z1 z2
   by_cases hj:j=i
   ·rw[if_pos hj]at z1;exact z1.elim
   ·by_cases hk:k=i
    ·rw[if_pos hk]at z2;exact z2.elim
    ·rw[if_neg hj]at z1;rw[if_neg hk]at z2;exact E.dis j k a z1 z2
 unfold Tr.disown
 cases q:Z[i]? with
 | none=>rw[q,List.set_eq_of_length_le (List.getElem?_eq_none_iff.mp q)]at base;exact base
 | some z=>
  rw[q]at base
  cases z with
  | em=>rw[pe q]at base;exact base
  | va t=>rw[pe q]at base;exact base
  | ow o=>exact base
theorem Ev.disown (E:Ev K B M H Z σ)(i:Nat):Ev K B (M.set i r8) H (disown i Z) σ/\∀a,(M.set i r8).u a->M.u a:=by
 have sub:∀a,(M.set i r8).u a->M.u a:=λa z=>(Mn.set_u z).elim (λw=>w.elim) id
 refine⟨⟨E.env.disown i (λa z=>z.elim .inl λw=> .inr (sub a w)) (λa z y=> ?_) λj a hj z=> .inr ⟨j,by rw[Mn.set_ne hj];exact z⟩,λa z=>E.mine a (sub a z)⟩,sub⟩
 rcases y with y | ⟨j,y⟩
 ·exact E.mine a ⟨i,z⟩ y
 ·unfold Mn.set at y
  by_cases hj:j=i
  ·rw[if_pos hj]at y;exact y
  ·rw[if_neg hj]at y;exact hj (E.env.dis j i a y z)
end
section
variable {X:Cx}{a:Expr}{es:List Expr}{fa:En->Rs T}{pos p2 p3:Pos}{x:Str}
theorem Ev.subO {K:PySem.W.Frag}{B:Ow}{M:Mn}{H:Hp}{i:Nat}{m:Ow}(hm:∀a,m a->Nw K H a)(a:Addr)(z:OO B (M.set i m) a):OO B M a\/Nw K H a:=
 z.elim (λw=> .inl (.inl w)) λw=>(Mn.set_u w).elim (λy=> .inr (hm a y)) λy=> .inl (.inr y)
theorem jd {K:PySem.W.Frag}{H H1:Hp}(s:Same H H1){a:Addr}(n:Nw K H1 a):Nw K H a:=(kf (SameO.of (P:=r8) s) n).elim (λz=>z.elim) id
def BV (X:Cx)(t:TA):TE:=λσ H Q=>t σ H λxs H1=>xs.length<=sizeLine/\∀p,Nw X.K H1 p->Q (.ref p) (upd H1 p (.lst xs))
theorem yd {t:TA}(h:PA X es t):PE X (.List es pos) (BV X t):=by
 intro pins s σ H Q I hq;refine wpAny_List_spliced (bS (h pos pins s σ H _ I hq) λus s1 ⟨xs,H1,I1,r,z,q⟩=>⟨by rw[<-r.length];exact z,?_⟩)
 have hf:H1 s1.heap.objs.size=none:=I1.hok.fresh (Nat.le_refl _)
 have hk:X.K.lookup s1.heap.objs.size=none:=by
  cases q:X.K.lookup s1.heap.objs.size with
  | none=>rfl
  | some o=>exact absurd (Heap.lt_size (I1.kIn _ o q)) (Nat.lt_irrefl _)
 refine⟨.ref s1.heap.objs.size,upd H1 s1.heap.objs.size (.lst xs),I1.laid (t':=s1.toks) (λb u e=>Heap.get?_push_of_some _ e) (Nat.le_refl _) ?_,rfl,q _ ⟨hf,hk⟩⟩
 exact⟨z,us,0,r,Heap.get?_push_size _ rfl⟩
def gJ (i:Nat)(f:En->Rs (List T))(Z:En):Rs Fl:=do
 let l <-f Z
 if i<Z.length/\l.length<=sizeLine then .ok (.nx (Z.set i (.ow (.lst l))))else .bad
theorem xI (i:Nat){f:En->Rs (List T)}(hN:X.N.Nodup)(ha:nj X es f)(hi:X.N[i]? =some x:=by rfl)(hx:Loc X.env.scope x:=by first | exact Or.inl rfl | exact Or.inr rfl)(hs:swapsWith (.List es p2) (some (.Name x p3)) pos.line X.env=pure false:=by rfl)
  (hf:X.fn x=true\/X.env.scope.names.lookup x=some .local:=by first | exact .inl rfl | exact .inr rfl | assumption):mn X (.Assign [.Name x p3] (.List es p2) pos) (gJ i f):=PS.imp (kP hN hi hx (yd ha) hs hf) λD σ H hh_=>by
 obtain⟨Z,B,M,E,h⟩:=hh_;refine⟨Z,OO B M,E.o,?_⟩
 unfold gJ at h
 cases q:f Z with
 | bad=>rw[q]at h;exact h.elim
 | err c=>rw[q]at h;exact PostF.xa h
 | ok l=>
  rw[q,ay]at h;intro H1 s1 vs rs
  by_cases hl:i<Z.length/\l.length<=sizeLine
  ·rw[if_pos hl]at h
   refine⟨by rw[<-rs.length];exact hl.2,λp hp=> ?_⟩
   have hm:∀a,a=p->Nw X.K H1 a:=λa z=>z▸hp
   obtain⟨E2,sub⟩:=(E.same s1).new (m:=λa=>a=p) (o:=.lst l) (v:=.ref p) (H':=upd H1 p (.lst vs)) hl.1 hm (aM hp.1 _) ⟨p,vs,rfl,λb=>Iff.rfl,aw,(rs.more (Ev.subO hm)).same (aM hp.1 _)⟩
   exact h _ _ _ (SameO.of (s1.trans (aM hp.1 _))) E2 λa z=>(sub a z).imp_right (jd s1)
  ·rw[if_neg hl]at h
   exact h.elim
def gy (i:Nat)(f:En->Rs T)(Z:En):Rs Fl:=match Z[i]? with
 | some (.ow (.lst l))=>f Z >>= λt=>if l.length<sizeLine then .ok (.nx (Z.set i (.ow (.lst (l++ [t])))))else .bad
 | _=> .bad
theorem Ev.putL {K:PySem.W.Frag}{B:Ow}{M:Mn}{H:Hp}{Z:En}{σ:L2.St}{i:Nat}{o:OT}{l':List T}{b:Addr}{vs':List V}(E:Ev K B M H Z σ)(hi:Z[i]? =some (.ow o))(hs:σ[i]? =some (some (.ref b)))(hM:∀c,M i c↔c=b)(r:Reps K (OO B M) H l' vs') :
  Ev K B M (upd H b (.lst vs')) (Z.set i (.ow (.lst l'))) σ/\SameO M.u H (upd H b (.lst vs')):=by
 have sm:SameO (M i) H (upd H b (.lst vs')):=λc u e nb=>by rw[ar (λz=>nb ((hM c).mpr z))];exact e
 exact E.put hi hs sm ⟨b,vs',rfl,hM,aw,r.move (P:=M i) (λa z=> .inl (.inr ⟨i,z⟩)) (λa z=> .inl z) sm⟩
theorem Ax (i:Nat){apos cpos:Pos}(ha:cq X a fa)(hN:X.N[i]? =some x:=by rfl)(hv:ni X.env.scope x:=by first | exact Or.inl rfl | exact Or.inr (Or.inl rfl) | exact Or.inr (Or.inr rfl))(hn:cj a=true:=by rfl)
  (hbase:attributeBase (.Name x p2) "append" X.env (eval (.Name x p2) X.env)=eval (.Name x p2) X.env:=by rfl) (hline:(apos.endLine == cpos.line)=true:=by rfl)
  (hd:(x == ("__debug__" : Str))=false:=by decide) (hcd:(x == ("__classdict__" : Str))=false:=by decide)
  (hsw:swapsWith (.Call (.Attribute (.Name x p2) "append" apos) [a] [] cpos) none pos.line X.env=pure false:=by rfl):mn X (.Expr (.Call (.Attribute (.Name x p2) "append" apos) [a] [] cpos) pos) (gy i fa):=by
 have h1:starEach [a] X.env=(false,eval a X.env)::starEach [] X.env:=a6 hn;refine PS.imp (nM (rZ PySem.F.plainAttrs_list PySem.F.slot_list_append PySem.F.type_list_append mI (fN hN hv hd hcd) (aZ ha de h1) hbase ?_ hline h1 rfl) hsw) λD σ H ⟨Z,B,M,E,h⟩=> ?_
 ·rw[h1];rfl
 unfold gy at h
 split at h
 ·rename_i l hl
  obtain⟨v0,e1,b,vs,rfl,hM,e3,e4⟩:=E.env.own i _ hl;refine⟨.ref b,e1,.inl ⟨rfl,vs,SqL.of e3⟩,Z,OO B M,E.o,?_⟩
  cases q:fa Z with
  | bad=>rw[q]at h;exact h.elim
  | err c=>rw[q]at h;exact PostF.xa h
  | ok t=>
   rw[q,ay]at h
   split at h
   ·rename_i hz
    intro H1 s1 v r
    have e3':=s1 _ _ e3;refine⟨b,vs,v,rfl,rfl,e3',by rw[<-e4.length];exact hz,?_⟩
    obtain⟨g1,g2⟩:=(E.same s1).putL (l':=l++ [t]) (vs':=vs++ [v]) hl e1 hM ((e4.same s1).append (Reps.cons_ r Reps.nil_));exact h σ _ M (λc o e nb=>g2 c o (s1 _ _ e) nb) g1 λc z=> .inl z
   ·exact h.elim
 ·exact h.elim
def Bs (i:Nat)(l:List T)(Z:En):T->Rs Fl
 | .lst m=>if l.length+m.length<=sizeLine then .ok (.nx (Z.set i (.ow (.lst (l++m)))))else .bad
 | _=> .bad
def kO (i:Nat)(f:En->Rs T)(Z:En):Rs Fl:=match Z[i]? with
 | some (.ow (.lst l))=>f Z >>= Bs i l Z
 | _=> .bad
theorem Au (i:Nat){apos cpos:Pos}(ha:cq X a fa)(hN:X.N[i]? =some x:=by rfl)(hv:ni X.env.scope x:=by first | exact Or.inl rfl | exact Or.inr (Or.inl rfl) | exact Or.inr (Or.inr rfl))(hn:cj a=true:=by rfl)
  (hbase:attributeBase (.Name x p2) "extend" X.env (eval (.Name x p2) X.env)=eval (.Name x p2) X.env:=by rfl) (hline:(apos.endLine == cpos.line)=true:=by rfl)
  (hd:(x == ("__debug__" : Str))=false:=by decide) (hcd:(x == ("__classdict__" : Str))=false:=by decide)
  (hsw:swapsWith (.Call (.Attribute (.Name x p2) "extend" apos) [a] [] cpos) none pos.line X.env=pure false:=by rfl):mn X (.Expr (.Call (.Attribute (.Name x p2) "extend" apos) [a] [] cpos) pos) (kO i fa):=by
 have h1:starEach [a] X.env=(false,eval a X.env)::starEach [] X.env:=a6 hn;refine PS.imp (nM (rZ PySem.F.plainAttrs_list PySem.F.slot_list_extend PySem.F.type_list_extend tS (fN hN hv hd hcd) (aZ ha de h1) hbase ?_ hline h1 rfl) hsw) λD σ H ⟨Z,B,M,E,h⟩=> ?_
 ·rw[h1];rfl
 unfold kO at h
 split at h
 ·rename_i l hl
  obtain⟨v0,e1,b,vs,rfl,hM,e3,e4⟩:=E.env.own i _ hl;refine⟨.ref b,e1,.inl ⟨rfl,vs,SqL.of e3⟩,Z,OO B M,E.o,?_⟩
  cases q:fa Z with
  | bad=>rw[q]at h;exact h.elim
  | err c=>rw[q]at h;exact PostF.xa h
  | ok t=>
   rw[q,ay]at h;unfold Bs at h
   split at h
   ·rename_i m
    split at h
    ·rename_i hz
     intro H1 s1 v r;obtain⟨c,ws,rfl,nO,hc,rm⟩:=Rep.lst_iff.mp r
     have e3':=s1 _ _ e3;refine⟨b,c,vs,ws,rfl,rfl,e3',hc,by rw[<-e4.length,<-rm.length];exact hz,?_⟩
     obtain⟨g1,g2⟩:=(E.same s1).putL (l':=l++m) (vs':=vs++ws) hl e1 hM ((e4.same s1).append rm);exact h σ _ M (λc o e nb=>g2 c o (s1 _ _ e) nb) g1 λc z=> .inl z
    ·exact h.elim
   ·exact h.elim
 ·exact h.elim
def lW (i:Nat)(F:En->Rs Fl)(Z:En):Rs Fl:=F (disown i Z)
theorem Av (i:Nat){st:Stmt}{F:En->Rs Fl}(h:mn X st F):mn X st (lW i F):=PS.imp h λD σ H hh_=>by
 obtain⟨Z,B,M,E,q⟩:=hh_;obtain⟨E',sub⟩:=E.disown i;exact⟨disown i Z,B,_,E',PostF.later q (λ_ _ e _=>e) λa z=> .inl (sub a z)⟩
mutual
def T.nk (D:Bool):T->Bool
 | .scr _=>false
 | .dct _ ts=> !D&&nks D ts
 | .lst l=>D&&nks D l
 | .tup l=>nks D l
 | _=>true
def nks (D:Bool):List T->Bool
 | [] =>true
 | t::l=>t.nk D&&nks D l
end
mutual
theorem Rep.lend {K:PySem.W.Frag}{O O':Ow}{H:Hp}{D:Bool}(hk:∀a,O a->O' a\/if D then ∃kvs,Rd H a (.dT kvs)else ∃vs,H a=some (.lst vs)):∀{t:T} {v:V},t.nk D=true->Rep K O' H t v->Rep K O H t v
 | .non,_,_,r=>by unfold Rep at r ⊢;exact r
 | .bl _,_,_,r=>by unfold Rep at r ⊢;exact r
 | .int _,_,_,r=>by unfold Rep at r ⊢;exact r
 | .str _,_,_,r=>by unfold Rep at r ⊢;exact r
 | .tup l,_,h,r=>by
  unfold Rep at r ⊢;unfold T.nk at h;obtain⟨a,vs,e,n,q,z⟩:=r;refine⟨a,vs,e,λp=>(hk a p).elim n λw=> ?_,q,Reps.lend hk h z⟩
  split at w
  ·obtain⟨_,w | ⟨_,w⟩⟩:=w <;> rw[q]at w <;> cases w
  ·obtain⟨_,w⟩:=w;rw[q]at w;cases w
 | .lst l,_,h,r=>by
  unfold Rep at r ⊢;unfold T.nk at h;rw[Bool.and_eq_true]at h;obtain⟨h1,h2⟩:=h;subst h1;obtain⟨a,vs,e,n,q,z⟩:=r;refine⟨a,vs,e,λp=>(hk a p).elim n λw=> ?_,q,Reps.lend hk h2 z⟩
  rw[if_pos rfl]at w;obtain⟨_,w | ⟨_,w⟩⟩:=w <;> rw[q]at w <;> cases w
 | .scr l,_,h,r=>by unfold T.nk at h;cases h
 | .dct ks ts,_,h,r=>by
  unfold Rep at r ⊢;unfold T.nk at h;rw[Bool.and_eq_true]at h;obtain⟨h1,h2⟩:=h
  cases D with
  | true=>cases h1
  | false=>
   obtain⟨a,kvs,e,n,q,k,z⟩:=r;refine⟨a,kvs,e,λp=>(hk a p).elim n λw=> ?_,q,k,Reps.lend hk h2 z⟩
   rw[if_neg Bool.false_ne_true]at w;obtain⟨_,w⟩:=w;rcases q with q | ⟨_,q⟩ <;> rw[q]at w <;> cases w
theorem Reps.lend {K:PySem.W.Frag}{O O':Ow}{H:Hp}{D:Bool}(hk:∀a,O a->O' a\/if D then ∃kvs,Rd H a (.dT kvs)else ∃vs,H a=some (.lst vs)):∀{l:List T} {vs:List V},nks D l=true->Reps K O' H l vs->Reps K O H l vs
 | [],_,_,r=>by unfold Reps at r ⊢;exact r
 | t::l,_,h,r=>by
  unfold Reps at r ⊢;unfold nks at h;rw[Bool.and_eq_true]at h;obtain⟨v,ws,e,p,q⟩:=r;exact⟨v,ws,e,Rep.lend hk h.1 p,Reps.lend hk h.2 q⟩
end
def ln (i:Nat)(f:En->Rs T)(Z:En):Rs T:=match Z[i]? with
 | some (.ow o)=>f (disown i Z) >>= λt=>if t.nk o.isD=true then .ok t else .bad
 | _=>f Z
theorem uA {K:PySem.W.Frag}{O:Ow}{M:Mn}{H:Hp}{Z:En}{σ:L2.St}(E:EnvM K O M H Z σ)(i:Nat):EnvM K (λa=>O a/\¬ M i a) (M.set i r8) H (disown i Z) σ:=
 E.disown i (λa z=>z.1) (λa z y=>y.2 z) λj a hj z=>⟨E.sub j a z,λy=>hj (E.dis j i a z y)⟩
theorem q_ln (i:Nat){e:Expr}{f:En->Rs T}(h:cq X e f):cq X e (ln i f):=PE.imp h λσ H Q ⟨Z,O,⟨M,E⟩,q⟩=>by
 unfold ln at q
 split at q
 ·rename_i o hi
  refine⟨disown i Z,_,⟨_,uA E i⟩,?_⟩
  obtain⟨w,e1,r⟩:=E.own i o hi;refine Post.mono (Post.bind q) λt H' s q2 v rv=> ?_
  split at q2
  ·rename_i hk
   have kd:=(r.same s).kind;refine q2 H' (Same.refl _) v (Rep.lend (λa z=> ?_) hk rv)
   by_cases hm:M i a
   ·refine .inr ?_
    have this:=kd a hm
    by_cases hD:o.isD=true
    ·rw[if_pos hD]at this ⊢;exact this.imp λ_ z=> .inl z
    ·rw[if_neg hD]at this ⊢;exact this
   ·exact .inl ⟨z,hm⟩
  ·exact q2.elim
 ·exact⟨Z,O,⟨M,E⟩,q⟩
end
end Tr
namespace Tr
open PySem L2
def mj:List T->List T->List Key->Option T
 | k'::ks,v::vs,k=>if aN k'=some k then some v else mj ks vs k
 | _,_,_=>none
def fH (k v:T):List T->List T->List T×List T
 | k'::ks,v'::vs=>if aN k'=aN k then(k'::ks,v::vs)else(k'::(fH k v ks vs).1,v'::(fH k v ks vs).2)
 | _,_=>([k],[v])
def aI (x y:T):Rs T:=match x,aN y with
 | .dct ks vs,some k=>match mj ks vs k with
  | some t=> .ok t
  | none=> .bad
 | _,_=> .bad
def oD (g:T->T->Rs T)(fa fb:En->Rs T)(Z:En):Rs T:=fa Z >>= λx=>match x with
 | .dct ks vs=>fb Z >>= g (.dct ks vs)
 | _=> .bad
def oL (g:T->T->Rs T)(fa fb:En->Rs T)(Z:En):Rs T:=fa Z >>= λx=>match x with
 | .lst l=>fb Z >>= g (.lst l)
 | _=> .bad
def jo:List (T×T)->List T×List T->List T×List T
 | [],d=>d
 | (k,v)::r,d=>jo r (fH k v d.1 d.2)
def fZ:List T->Bool
 | [] =>true
 | k::l=>(aN k).isSome&&fZ l
def nH (i:Nat)(Z:En):Rs Fl:=if i<Z.length then .ok (.nx (Z.set i (.ow (.dct [] []))))else .bad
def qN (i:Nat)(fk fv:En->Rs T)(Z:En):Rs Fl:=match Z[i]? with
 | some (.ow (.dct ks vs))=>fv Z >>= λv=>fk Z >>= λk=>match aN k with
  | some _=>if ks.length<1000 then .ok (.nx (Z.set i (.ow (.dct (fH k v ks vs).1 (fH k v ks vs).2))))else .bad
  | none=> .bad
 | _=> .bad
def kN (i j:Nat)(Z:En):Rs Fl:=match Z[j]? with
 | some (.va (.lst l))=>if i<Z.length/\fZ l=true/\(l.map aN).Nodup/\l.length<=1000 then .ok (.nx (Z.set i (.ow (.dd l (l.map λ_=>(l,l.map λ_=> .non))))))else .bad
 | _=> .bad
def lY:List T->List (List T×List T)->List Key->Option (List T×List T)
 | k'::ks,r::rs,k=>if aN k'=some k then some r else lY ks rs k
 | _,_,_=>none
def lX (k:List Key)(x:List T×List T):List T->List (List T×List T)->List (List T×List T)
 | k'::ks,r::rs=>if aN k'=some k then x::rs else r::lX k x ks rs
 | _,rs=>rs
def gv (i:Nat)(fa fb fv:En->Rs T)(Z:En):Rs Fl:=match Z[i]? with
 | some (.ow (.dd ks rows))=>fv Z >>= λv=>fa Z >>= λa=>match(aN a).bind λka=>(lY ks rows ka).map λr=>(ka,r)with
  | some (ka,r)=>fb Z >>= λb=>if (aN b).isSome=true/\r.1.length<1000 then .ok (.nx (Z.set i (.ow (.dd ks (lX ka (fH b v r.1 r.2) ks rows)))))else .bad
  | none=> .bad
 | _=> .bad
def iF:List T->Option (List Int)
 | [] =>some []
 | .int i::l=>(iF l).map (i:: ·)
 | _=>none
def eV (i:Int):List Int->Int
 | [] =>i
 | j::l=>eV (if j<i then j else i) l
def fP (i:Int):List Int->Int
 | [] =>i
 | j::l=>fP (if i<j then j else i) l
def oa:List T->Rs T
 | [.lst l] =>match iF l with
  | some (i::ns)=> .ok (.int (eV i ns))
  | _=> .bad
 | [.int i,.int j] => .ok (.int (eV i [j]))
 | _=> .bad
def tV:List T->Rs T
 | [.lst l] =>match iF l with
  | some (i::ns)=> .ok (.int (fP i ns))
  | _=> .bad
 | [.int i,.int j] => .ok (.int (fP i [j]))
 | _=> .bad
def qK (ms:List (List T->Rs T))(f0:En->Rs T)(fs:En->Rs (List T))(Z:En):Rs T:=f0 Z >>= λk=>match k with
 | .int i=>match L2.atI ms i with
  | some m=>fs Z >>= m
  | none=> .bad
 | _=> .bad
def iD (f:En->Rs T)(Z:En):Rs (List T):=f Z >>= λx=>match x with
 | .dct ks _=> .ok ks
 | _=> .bad
end Tr
namespace Tr
open PySem PySem.Spec PyProof.Rows L2
theorem fQ {h b b':Heap}:∀{l:List Env},h.FunFrames b l->(∀a∈l.filterMap (·.frame),b'.get? a=none)->h.FunFrames b' l
 | [],_,_=>trivial
 | env::rest,⟨hk,⟨L,o,hf,hn,ho,hd⟩,hr⟩,q=>by
  rw[List.filterMap_cons,hf]at q;exact⟨hk,⟨L,o,hf,q L List.mem_cons_self,ho,hd⟩,fQ hr λa ha=>q a (List.mem_cons_of_mem _ ha)⟩
section
variable {M:Model}{A:Around}{E:Value->Shared->Prop}{s:Shared}
structure zd (fs:List Addr)(C e:Addr)(T:Option Addr)(h h':Heap)(T':Addr):Prop where
 flt:De h' C e (some T')
 new:T=some T'\/h.get? T'=none
 keep:∀b o,b∉fs->b≠e->T≠some b->h.get? b=some o->h'.get? b=some o
 slot:∀b o,b∈fs->h.get? b=some o->∃sl,h'.get? b=some { o with slots:=sl }
theorem A4 {base:Heap}{env:Env}{outer:List Env}{L C e:Addr}{T:Option Addr}{Q:Unit->Shared->Prop}(hfr:A.frames=some (env::outer))(hl:s.heap.FunFrames base (env::outer))(hf:env.frame=some L)
  (F:De s.heap C e T) (h:∀h' T',zd ((env::outer).filterMap (·.frame)) C e T s.heap h' T'->Q () { s with heap:=h' }):wpAny M A (leaving env (.ref e)) Q E s:=by
 generalize hB:PySem.W.hideAll s.heap (e::(T.toList++(env::outer).filterMap (·.frame)))=B
 have bm:∀b,b∈e::(T.toList++(env::outer).filterMap (·.frame))->B.get? b=none:=λb m=>by rw[<-hB];exact PySem.W.hideAll_none _ m
 have hl':s.heap.FunFrames B (env::outer):=fQ hl λa ha=>bm a (List.mem_cons_of_mem _ (List.mem_append_right _ ha))
 have hst:B.StaysIn s.heap:=λb o q=>by rw[<-hB]at q;exact PySem.W.of_hideAll _ q
 have hen:B.get? e=none:=bm e List.mem_cons_self
 have main:∀h',Heap.Left B (env::outer) e (.ref C) s.heap h'->Q () { s with heap:=h' }:=λh' ⟨x1,x2,⟨oe,vs,T',oT,ts,he,hc,hd,h1,hnT,hTe,hT,hdT,h3⟩,x4⟩=>by
  refine h h' T' ⟨⟨hTe,oe,vs,he,hc,hd,h1,oT,ts,hT,hdT,h3⟩,?_,λb o n1 n2 n3 q=> ?_,λb o m q=> ?_⟩
  ·cases q:s.heap.get? T' with
   | none=>exact .inr rfl
   | some o=>
    left
    by_cases z:T'∈e::(T.toList++(env::outer).filterMap (·.frame))
    ·rcases List.mem_cons.mp z with z | z
     ·exact absurd z hTe
     ·rcases List.mem_append.mp z with z | z
      ·cases T with
       | none=>simp at z
       | some t=>simp at z;rw[z]
      ·obtain⟨_,o',ho',hnf⟩:=x2.mem z
       rw[hT]at ho';cases ho';exact absurd hdT (hnf ts)
    ·rw[<-hB,PySem.W.hideAll_get _ q z]at hnT;cases hnT
  ·refine x1 b o ?_
   rw[<-hB];refine PySem.W.hideAll_get _ q λz=> ?_
   rcases List.mem_cons.mp z with z | z
   ·exact n2 z
   ·rcases List.mem_append.mp z with z | z
    ·cases T with
     | none=>simp at z
     | some t=>simp at z;exact n3 (by rw[z])
    ·exact n1 z
  ·obtain⟨_,o',ho',hnf⟩:=hl.mem m
   rw[q]at ho';cases ho';exact x4 b o q hnf
 cases T with
 | none=>
  obtain⟨oe,vs,he,hc,hd,h1⟩:=F;refine wpAny_leaving_first hfr hl' hf he hst hen hd h1 λh' x=>main h' ?_
  rw[hc]at x;exact x
 | some t=>
  obtain⟨hte,oe,vs,he,hc,hd,h1,oT,ts,hT,hdT,h3⟩:=F;exact wpAny_leaving_next hfr hl' hf ⟨oe,vs,t,oT,ts,he,hc,hd,h1,bm t (List.mem_cons_of_mem _ (List.mem_append_left _ (by simp))),hte,hT,hdT,h3⟩ hst hen main
end
abbrev j7:List Value:=[.type "ValueError",.type "Exception",.type "BaseException",.type "object"]
structure OwnExc (K:PySem.W.Frag)(C:Addr)(bm:List Value):Prop where
 at_:∀h:Heap,K.In h->∃nm q N bs hdct sn sub ab col dd k0 k1 k2 k3 k5 mN,h.get? C=some (excClassObj nm q C N bs bm hdct sn sub ab col dd k0 k1 k2 k3 k5 "ValueError.__new__")/\h.Ns N mN/\mN "__init__" =none/\OwnTail h j7 bm
theorem OwnExc.base {K:PySem.W.Frag}{C:Addr}{bm:List Value}(O:OwnExc K C bm){h:Heap}(k:K.In h):bm.contains (.type "BaseException")=true:=by
 obtain⟨_,_,_,_,_,_,_,_,_,_,_,_,_,_,_,_,_,_,_,T⟩:=O.at_ h k;exact T.hasType (by decide)
def Ac (c:Str)(_:En):Rs Fl:=.err c
section
variable {X:Cx}
theorem u4 {c:Str}{msg:Str}{C:Addr}{bm:List Value}{np p1 cpos pos:Pos}{j:Nat}(O:OwnExc X.K C bm)(hc:X.calm=true)(hm:X.mg c=some (.ref C))(hg:Gl X c:=by rfl)(hd:(c == ("__debug__" : Str))=false:=by decide) :
  mn X (.Raise (some (.Call (.Name c np) [.Constant (.str msg) j p1] [] cpos)) none pos) (Ac c):=by
 intro pins s σ H D I ⟨Z,B,M,E,k⟩
 have k:XA X M.u H c:=k;obtain⟨nm,q,N,bs,hdct,sn,sub,ab,col,dd,k0,k1,k2,k3,k5,mN,hC,hN,hni,T⟩:=O.at_ s.heap I.kIn;refine wpAny_Raise_call_subU (C:=C) (mN:=mN) (nm:=nm) (q:=q) (N:=N) (bs:=bs) (hdct:=hdct) (sn:=sn) (sub:=sub) (ab:=ab) (col:=col) (dd:=dd) (k0:=k0) (k1:=k1) (k2:=k2) (k3:=k3) (k5:=k5) PySem.F.excBase_ValueError (Bn:="ValueError") (by decide) PySem.F.excBase_ValueError (O.base I.kIn) (I.ok.hd hc) (by rfl) hni (ii I hg hm ⟨rfl,?_⟩ hd)
 show wpAny _ _ (evalArgs (.ref C) true ((false,eval (.Constant (.str msg) j p1) X.env)::backTo cpos (starEach [] X.env)) []) _ _ s
 refine Calls.evalArgs_plain (Calls.spliced_cons (Calls.Constant_str (Calls.spliced_nil ?_)))
 refine⟨rfl,by show 1<=sizeLine;decide,hC,hN,T,λh' e hm'=>k pins _ _ ?_⟩
 obtain⟨t,ht,ht2,ht3⟩:=hm'.there
 have I':Inv X pins σ H { s with heap:=h',toks:=s.toks+1 }:=I.kept (t':=s.toks+1) λb o z=>hm'.keeps b o z
 refine⟨e,none,C,σ,H,rfl,hm,I',λb o z _=>z,?_,?_,⟨_,_,ht,rfl,rfl,rfl⟩,(λt z=>by cases z),λp hp=>⟨λz=> ?_,λz=>by cases z⟩⟩
 ·exact k8 I hm'.new
 ·exact λhex=>iP I hex hm'.new
 ·have:=(I.pin p hp).1
  rw[z,show s.heap.get? e=none from hm'.new]at this
  cases this
end
section
variable {P:Program}{w:World}{K:PySem.W.Frag}{mg:Str->Option Value}{base:Heap}
theorem Bp {x qual:Str}{st:Stmt}{f:Addr}{fd:FuncData}{N ps:List Str}{k n:Nat}{g:List T->Rs T}(Fn:L2.Fun K x qual st f fd)(S:aA N ps (ah st))(hn:ps.length=n)
  (hbody:∀(cdv:Value) (A:Around) (outer:List Env) (s:Shared) (H:Hp) (E:XK),Room k (A.deeper (envOfC qual (ah st) s.heap.objs.size f cdv)) →
   ∃F,(∀xe,j8 ((jr CX0 P w K mg base N qual (ah st) f cdv A outer s H E).wish xe) (cx st) F)/\∀ts,ts.length=n->∀c,g ts= .err c->F (aK N.length ts)= .err c):FnX P w K mg base (k+1) f fd ps n g:=by
 intro A outer s H args us vs O ts c R hr e0 hb r rs trk hl hg hR
 have hpl:ps.length<=N.length:=by have:=congrArg List.length S.pre;rw[List.length_take]at this;omega
 obtain⟨oc,od,kV,doc,pm,an,cdv,ct,osl,rfl,lk,hcd⟩:=Fn.ex
 have hlen:vs.length=ps.length:=by rw[<-rs.length,hl,hn]
 have KX:K.In s.heap:=e0.mod.kin.keeps λb o e=>(e0.bs b o e).1
 have lim:s.heap.NoLimit:=e0.mod.nolimit.keeps λb o e=>(e0.bs b o e).1
 have hkind:∀y∈ps.zip us,(ah st).names.lookup y.1=some .local\/((ah st).names.lookup y.1=some .cell/\((cellsFrom (s.heap.objs.size+1) (ah st).names []).lookup y.1).isSome=true):=λ⟨n,v⟩ hy=>by
  rcases S.par n (List.of_mem_zip hy).1 with q | q
  ·exact .inl q
  ·exact .inr ⟨q,PySem.W.cellsFrom_some _ _ _ (.inl q)⟩
 refine codeAny_call_function hr.depth (KX _ _ lk) rfl S.co S.gen rfl (PySem.W.codeRec_of KX hcd) (hb _ _ _ _ ?_)
 refine wpAny_newFunctionEnv_cells S.kind hkind λenv he s1 x=> ?_
 subst he;refine⟨lim.keeps x.toInCall.keep,codeAny_func ?_⟩
 obtain⟨F,hF,hv⟩:=hbody cdv A outer s H E0 (hr.deeper _)
 let xe:Value->Shared->Prop:=λev s'=>wpAny (model P w) (A.deeper (envOfC qual (ah st) s.heap.objs.size f cdv)) (leaving (envOfC qual (ah st) s.heap.objs.size f cdv) ev) (λ_ s''=>R (.error ev) s'') (λe' s''=>R (.error e') s'') s'
 have I:Inv ((jr CX0 P w K mg base N qual (ah st) f cdv A outer s H E0).wish xe) [] (start N vs) H s1:=(jD S hr.hd e0 hlen r x).wish _
 have no:∀a,¬noM.u a:=λa ⟨_,z⟩=>z
 refine wpAny_mono (hF xe [] s1 (start N vs) H { nx:=λ_ _=>False,rt:=λ_ _=>False,bk:=λ_ _=>False,ct:=λ_ _=>False } I ⟨aK N.length ts,O,noM,mB rs (by omega) trk,?_⟩) (λfl s' z=> ?_) λe s' hs=>hs
 rotate_left
 ·cases fl with
  | next=>obtain⟨_,_,_,z⟩:=z;exact z.elim
  | cont=>obtain⟨_,_,_,z⟩:=z;exact z.elim
  | brk=>obtain⟨_,_,_,z⟩:=z;exact z.elim
  | ret v=>obtain⟨_,_,_,_,_,z⟩:=z;exact z.elim
 rw[hv ts hl c hg];intro pins ev s' w'
 show wpAny _ _ _ _ _ _
 obtain⟨e,T,C,σ',H',rfl,hm,I',sm,he,heo,fl,hT,_⟩:=w'
 have heo:=heo rfl
 have hT:∀t,T=some t->H' t=none/\s.heap.get? t=none:=λt z=>⟨(hT t z).1,(hT t z).2 rfl⟩
 refine A4 (base:=base) (outer:=outer) (L:=s.heap.objs.size) I'.ok.frames I'.stack rfl fl λh' T' g=>hR _ _ ?_
 have hex:((jr CX0 P w K mg base N qual (ah st) f cdv A outer s H E0).wish xe).ex= []:=rfl
 have Tn:H' T'=none/\s.heap.get? T'=none:=by
  rcases g.new with z | z
  ·exact hT T' z
  ·exact⟨k8 I' z,iP I' hex z⟩
 have out:∀b o,s.heap.get? b=some o->b≠s.heap.objs.size:=λb o q z=>by
  have:=Heap.lt_size q;rw[z]at this;exact absurd this (Nat.lt_irrefl _)
 have mem:∀b,b∈lr ((envOfC qual (ah st) s.heap.objs.size f cdv)::outer)->b=s.heap.objs.size\/b∈lr outer:=λb z=>by
  have z':b∈s.heap.objs.size::lr outer:=z;exact List.mem_cons.mp z'
 have ne:∀b o,s.heap.get? b=some o->b≠e/\T≠some b:=λb o q=>⟨λz=>(by subst z;rw[show s.heap.get? b=none from heo]at q;cases q),λz=>(by rw[show s.heap.get? b=none from(hT b z).2]at q;cases q)⟩
 have keepH:∀b u,H' b≠none->s'.heap.get? b=some u->h'.get? b=some u:=λb u hb q=>by
  refine g.keep b u (λz=>hb (I'.stkFree b z)) (λz=>hb (by rw[z];exact he)) (λz=>hb (hT b z).1) q
 refine⟨e,T',C,H',rfl,hm,I'.os,I'.bare,⟨λb o q n hb hx=> ?_,λb o q n hb hx=> ?_,λb o q n hx=>I'.base.free b o q n hx,λb o q hx=> ?_,I'.base.tups,I'.base.frzs,I'.base.tbls⟩,λa o q=> ?_,λb o q=>sm b o q (no b),he,heo,g.flt,Tn.1,Tn.2⟩
 ·exact g.keep b o (λz=>(mem b z).elim (out b o q) hb) (ne b o q).1 (ne b o q).2 (I'.base.keep b o q n hb hx)
 ·obtain⟨sl,q1⟩:=I'.base.slot b o q n hb hx
  obtain⟨sl',q2⟩:=g.slot b _ (List.mem_cons_of_mem _ hb) q1;exact⟨sl',q2⟩
 ·obtain⟨o',q1⟩:=I'.base.there b o q hx
  by_cases z:b∈lr ((envOfC qual (ah st) s.heap.objs.size f cdv)::outer)
  ·obtain⟨sl,q2⟩:=g.slot b o' z q1
   exact⟨_,q2⟩
  ·exact⟨o',g.keep b o' z (ne b o q).1 (ne b o q).2 q1⟩
 ·refine(I'.hok a o q).stay (λb u hb z=>keepH b u ?_ z) (λ_ z=>z) λ_ _ z=>z
  rcases hb with rfl | hb
  ·rw[q];simp
  ·rw[hb];simp
end
theorem xk {n m:Nat}{F:En->Rs Fl}{ts:List T}{c:Str}(h:val n m F ts= .err c):F (aK m ts)= .err c:=by
 unfold val at h
 split at h
 ·unfold bi at h
  cases z:F (aK m ts)with
  | bad=>rw[z]at h;cases h
  | err c'=>rw[z]at h;cases h;rfl
  | ok f=>
   rw[z,ay]at h;cases f <;> cases h
 ·cases h
section
variable {P:Program}{w:World}{K:PySem.W.Frag}{mg:Str->Option Value}{base:Heap}
theorem Br {x qual:Str}{st:Stmt}{f:Addr}{fd:FuncData}{N ps:List Str}{k n:Nat}{F:En->Rs Fl}(Fn:L2.Fun K x qual st f fd)(S:aA N ps (ah st))(hn:ps.length=n)
  (hbody:∀(cdv:Value) (A:Around) (outer:List Env) (s:Shared) (H:Hp) (E:XK),Room k (A.deeper (envOfC qual (ah st) s.heap.objs.size f cdv)) →
   ∀xe,j8 ((jr CX0 P w K mg base N qual (ah st) f cdv A outer s H E).wish xe) (cx st) F):wX P w K mg base (k+1) f fd ps n (val n N.length F):=
 ⟨C2 Fn S hn λcdv A outer s H E hr=>⟨F,hbody cdv A outer s H E hr _,λts _ _ h=>zS h⟩,Bp Fn S hn λcdv A outer s H E hr=>⟨F,hbody cdv A outer s H E hr,λts _ c h=>xk h⟩⟩
end
section
variable {X:Cx}{k n:Nat}{f:Addr}{fd:FuncData}{ps:List Str}{g:List T->Rs T}{pins:List (Addr×Obj)}{σ:L2.St}{H:Hp}{s:Shared}{us:List Value}{vs:List V}{ts:List T}{O:Ow}{Q:VK}
theorem B2 (F:wX X.prog X.w X.K X.mg X.base k f fd ps n g)(hr:Room k X.A)(hb:Binds X.K fd ps [])(hps:ps.length=n)(I:Inv X pins σ H s)(r:Vals vs us)(rs:Reps X.K O H ts vs)(mt:∀a,O a->Mtb H a)(hl:ts.length=n)
  (hq:Post X H (g ts) λt H'=> ∀v,Rep X.K O H' t v->Q v H'):wpAny (model X.prog X.w) X.A (call (.ref f) us) (EP X pins σ Q) X.xe s:=by
 cases q2:g ts with
 | bad=>rw[q2]at hq;exact hq.elim
 | ok t=>
  rw[q2]at hq;refine uV (E:=E0) (dvs:=[]) (ds:=[]) F.h hr hb .nil vt I r ⟨ts,O,by simpa using rs,mt,hl,?_⟩
  rw[q2]
  exact λv H' s2 rr=>hq H' s2 v rr
 | err c=>
  rw[q2]at hq
  have hlen:us.length=ps.length:=by rw[<-r.length,<-rs.length,hl,hps]
  have hb':=hb s us I.kIn (by rw[List.append_nil];exact hlen)
  rw[List.append_nil]at hb';refine wpAny_call (codeAny_mono (F.x X.A X.stack s H ⟨us,[]⟩ us vs O ts c (λr s'=>match r with | .error ev=>X.xe ev s' | _=>False) hr I.env0 hb' r rs mt hl q2 λev s' w=> ?_) λr s' hq=> ?_)
  ·obtain⟨ea,T,C,H',rfl,hmc,ho,hbare,hun,hok,sm2,hea,heo,fl,hT,hTo⟩:=w
   have I2:Inv X pins σ H' s':=I.call' ho hun hok hbare (λb z=>absurd z (by simp))
   exact hq pins _ _ ⟨ea,some T,C,σ,H',rfl,hmc,I2,λb o q _=>sm2 b o q,hea,λhex=>iP I hex heo,fl,(λt zt=>by cases zt;exact⟨hT,λhex=>iP I hex hTo⟩),λpp hpp=>⟨λzz=>(by have:=(I.pin pp hpp).1;rw[zz,heo]at this;cases this),λzz=>(by cases zz;have:=(I.pin pp hpp).1;rw[hTo]at this;cases this)⟩⟩
  ·cases r with
   | error ev=>exact hq
   | ok fl=>exact hq.elim
inductive Sels (X:Cx) (n:Nat):List Expr->List Addr->List (List T->Rs T)->Prop
 | nil:Sels X n [] [] []
 | cons {x:Str} {p:Pos} {es:List Expr} {as:List Addr} {gs:List (List T->Rs T)} {k:Nat} {f:Addr} {fd:FuncData} {ps:List Str} {g:List T->Rs T}:wX X.prog X.w X.K X.mg X.base k f fd ps n g->Room k X.A->X.mg x=some (.ref f)->PySem.W.keepIn X.K (.ref f)=true->Binds X.K fd ps []->ps.length=n->Gl X x->(x == ("__debug__" : Str))=false →
   Sels X n es as gs->Sels X n (.Name x p::es) (f::as) (g::gs)
theorem seln:Sels X n [] [] []:=.nil
theorem selc {x:Str}{p:Pos}{es:List Expr}{as:List Addr}{gs:List (List T->Rs T)}(F:wX X.prog X.w X.K X.mg X.base k f fd ps n g)(hr:Room k X.A)(hm:X.mg x=some (.ref f))(hk:PySem.W.keepIn X.K (.ref f)=true)(hb:Binds X.K fd ps [])(h:Sels X n es as gs)(hps:ps.length=n:=by rfl)(hg:Gl X x:=by rfl)(hd:(x == ("__debug__" : Str))=false:=by decide) :
  Sels X n (.Name x p::es) (f::as) (g::gs):=.cons F hr hm hk hb hps hg hd h
theorem Sels.pa:∀{es:List Expr} {as:List Addr} {gs:List (List T->Rs T)},Sels X n es as gs->PA X es (λσ H Q=>Q (as.map V.ref) H)
 | _,_,_,.nil=>λpos pins s σ H Q I h=>de pos pins s σ H Q I h
 | _,_,_,.cons F hr hm hk hb hps hg hd h=>λpos pins s σ H Q I q=>aZ (nR (v:=.ref _) hg hm rfl hd) h.pa (a6 rfl) pos pins s σ H Q I q
theorem Sels.len:∀{es:List Expr} {as:List Addr} {gs:List (List T->Rs T)},Sels X n es as gs->as.length=gs.length
 | _,_,_,.nil=>rfl
 | _,_,_,.cons _ _ _ _ _ _ _ _ h=>by rw[List.length_cons,List.length_cons,h.len]
theorem Sels.at_:∀{es:List Expr} {as:List Addr} {gs:List (List T->Rs T)},Sels X n es as gs->∀{j:Nat} {g:List T->Rs T},gs[j]? =some g->∃f fd ps k,as[j]? =some f/\wX X.prog X.w X.K X.mg X.base k f fd ps n g/\Room k X.A/\PySem.W.keepIn X.K (.ref f)=true/\Binds X.K fd ps []/\ps.length=n
 | _,_,_,.nil,j,g,e=>by simp at e
 | _,_,_,.cons F hr hm hk hb hps hg hd h,0,g,e=>by simp at e;subst e;exact⟨_,_,_,_,rfl,F,hr,hk,hb,hps⟩
 | _,_,_,.cons F hr hm hk hb hps hg hd h,j+1,g,e=>by
  obtain⟨f,fd,ps,k,e1,r⟩:=h.at_ (j:=j) (by simpa using e)
  exact⟨f,fd,ps,k,by simpa using e1,r⟩
theorem kB {M:Model}{A:Around}{E:Value->Shared->Prop}{s:Shared}{env:Env}{a b:Expr}{p pos:Pos}{args:List Expr}{Q:Value->Shared->Prop}
  (h:wpAny M A (eval (.Subscript a b p) env) (λf s₁=>wpAny M A (callWith pos f [] (backTo pos (starEach args env)) (backToKw pos (keywordEach [] env))) Q E s₁) E s) :
  wpAny M A (eval (.Call (.Subscript a b p) args [] pos) env) Q E s:=by
 rw[show eval (.Call (.Subscript a b p) args [] pos) env=(do callWith pos (<-eval (.Subscript a b p) env) [] (backTo pos (starEach args env)) (backToKw pos (keywordEach [] env)))from rfl]
 exact wpAny_bind h
theorem wR {α β:Type}{xs:List α}{ys:List β}{i:Int}{y:β}(hl:xs.length=ys.length)(h:L2.atI ys i=some y):∃j:Nat,ys[j]? =some y/\∀x,xs[j]? =some x->L2.atI xs i=some x:=by
 unfold L2.atI at h ⊢;rw[hl]
 cases q:ixN ys.length i with
 | none=>rw[q]at h;cases h
 | some j=>rw[q]at h;exact⟨j,h,λx e=>e⟩
theorem Cf {es args:List Expr}{a0 i0:Expr}{p1 p2 pos:Pos}{as:List Addr}{gs:List (List T->Rs T)}{f0:En->Rs T}{fs:En->Rs (List T)}(S:Sels X n es as gs)(h0:cq X i0 f0)(hl:∀Z ts,fs Z= .ok ts->ts.length=n)(ha:nj X (a0::args) fs)
  (hn:ba (a0::args)=true:=by rfl) (hs:iq i0:=by intro _ _;rfl) (hz:es.length<=100:=by decide):cq X (.Call (.Subscript (.List es p1) i0 p2) (a0::args) [] pos) (qK gs f0 fs):=by
 intro pins s σ H Q I ⟨Z,O,E,hq⟩
 have hes:as.length<=sizeLine:=by
  have:∀{es:List Expr} {as:List Addr} {gs:List (List T->Rs T)},Sels X n es as gs->es.length=as.length:=by
   intro es as gs h
   induction h with
   | nil=>rfl
   | cons _ _ _ _ _ _ _ _ _ ih=>rw[List.length_cons,List.length_cons,ih]
  rw[<-this S,sizeLine_eq];omega
 have hq':Post X H (f0 Z >>= λk=>match k with | .int i=>(match L2.atI gs i with | some m=>fs Z >>= m | none=> .bad) | _=> .bad) λt H'=> ∀v,Rep X.K O H' t v->Q v H':=hq
 refine kB (bS (Cw ix_list (nQ S.pa) h0 hs pins s σ H (λv H'=> ∃(i:Int) (m:List T->Rs T) (j:Nat),L2.atI gs i=some m/\gs[j]? =some m/\(∀x,as[j]? =some x->v= .ref x)/\Same H H'/\Post X H' (fs Z >>= m) λt H'=> ∀v,Rep X.K O H' t v->Q v H') I ?_) λf s1 r=> ?_)
 ·refine⟨by rw[List.length_map];exact hes,λl hl0=> ?_⟩
  have E1:=E.same (aM hl0 (.lst (as.map V.ref)))
  have s1:Same H (upd H l (.lst (as.map V.ref))):=aM hl0 _;refine⟨Z,O,E1,Post.mono (Post.bind (Post.later hq' s1)) λt H2 s2 q2 v rv=> ?_⟩
  cases t with
  | int i=>
   have hv:=Rep.int_iff.mp rv;subst hv;simp only at q2
   cases z:L2.atI gs i with
   | none=>rw[z]at q2;exact q2.elim
   | some m=>
    rw[z]at q2;obtain⟨j,z1,z2⟩:=wR (xs:=as) S.len z;obtain⟨f,fd,ps,k,e1,_⟩:=S.at_ z1
    have z3:L2.atI (as.map V.ref) i=some (.ref f):=by
     have:=z2 f e1;unfold L2.atI at this ⊢;rw[List.length_map]
     cases y:ixN as.length i with
     | none=>rw[y]at this;cases this
     | some j'=>
      rw[y]at this
      show(as.map V.ref)[j']? =_
      rw[List.getElem?_map]
      have:as[j']? =some f:=this;rw[this];rfl
    refine⟨l,as.map V.ref,i,.ref f,rfl,rfl,SqL.of (s2 _ _ aw),z3,i,m,j,z,z1,λx ex=> ?_,s1.trans s2,q2⟩
    rw[e1]at ex;cases ex;rfl
  | _=>exact q2.elim
 ·obtain⟨v,H1,I1,rv,i,m,j,z,z1,hv,sm,q⟩:=r
  obtain⟨f',fd,ps,k,e1,F,hr,hk,hb,hps⟩:=S.at_ z1;cases hv f' e1;cases rv;unfold ba at hn;rw[Bool.and_eq_true]at hn;refine PySem.W.callWith_K (h₀:=X.base) I.ok.mod.kin hk (bS (ha pos pins s1 σ H1 (λvs H'=> ∃ts,fs Z= .ok ts/\Reps X.K O H' ts vs/\Same H1 H'/\Post X H' (m ts) λt H'=> ∀v,Rep X.K O H' t v->Q v H') I1 ⟨Z,O,E.same sm,?_⟩) (λus s2 ⟨vs,H2,I2,r,ts,et,rs,s2',q2⟩=>⟨I2.kIn,?_⟩)) (a6 hn.1) (ft hn.2)
  ·cases y:fs Z with
   | bad=>rw[y]at q;exact q.elim
   | err c=>rw[y]at q;exact q
   | ok ts=>
    rw[y]at q;exact λH' s' vs rs=>⟨ts,rfl,rs,s',Post.later q s'⟩
  ·exact B2 F hr hb hps I2 r rs ((E.same sm).same s2').mtb (hl Z ts et) q2
end
def calmNames:List Str:=["__init__","__getattribute__","__getattr__","__class__"]
inductive OTail (h:Heap):List Value->Prop
 | base:OTail h j7
 | own {A:Addr} {c0:Value} {dd:Option Addr} {cd:ClassData} {sl:Array (Option Value)} {mA:Str->Option Value} {tl:List Value} :
   h.get? A=some { cls:=c0,dict:=dd,data:=.cls cd,slots:=sl }->h.Ns cd.ns mA->(∀n∈calmNames,mA n=none)->OTail h tl->OTail h (.ref A::tl)
theorem OTail.tail {h:Heap}{tl:List Value}(T:OTail h tl):OwnTail h j7 tl:=by
 induction T with
 | base=>exact .base
 | own hA hN hq _ ih=>exact .own hA hN (hq _ (.head _)) ih
section
variable {M:Model}{prog:Program}{w:World}{A:Around}{E:Value->Shared->Prop}{h:Heap}{g:Array GenState}{d:Drawn}{t:Nat}{os:OsState}
theorem yX {tl:List Value}{n:Str}{y:Option Value}{Q:Option Value->Shared->Prop}(hn:n∈calmNames)(T:OTail h tl)(hrest:lookupAlong j7 n=pure y)(hq:Q y ⟨h,g,d,t,os⟩) :
  wpAny M A (lookupAlong tl n) Q E ⟨h,g,d,t,os⟩:=by
 induction T with
 | base=>rw[hrest];exact wpAny_pure hq
 | own hA hN hni _ ih=>
  rw[lookupAlong_cons];refine wpAny_bind (wpAny_classOwn_cls hA hN ?_)
  rw[hni n hn];exact ih
theorem CI:mroOf (.type "ValueError")=pure j7:=by rw[mroOf_type];kernel_rfl
variable {nm q:Str}{C N:Addr}{bs bm:List Value}{hdct:Bool}{sn:List Str}{sub:List Value}{ab:Bool}{col:Option Bool}{dd:Option Addr}{k0 k1 k2 k3 k5:Option Value}{newId:String}{mN:Str->Option Value}
theorem qW {n:Str}{y:Option Value}{Q:Option Value->Shared->Prop}(hn:n∈calmNames)(hC:h.get? C=some (excClassObj nm q C N bs bm hdct sn sub ab col dd k0 k1 k2 k3 k5 newId))(hN:h.Ns N mN)(hmN:∀n∈calmNames,mN n=none)(T:OTail h bm)
  (hB:typeLookup (.type "ValueError") n=pure y) (hq:Q y ⟨h,g,d,t,os⟩):wpAny M A (typeLookup (.ref C) n) Q E ⟨h,g,d,t,os⟩:=by
 have hrest:lookupAlong j7 n=pure y:=by rw[typeLookup_eq,CI]at hB;exact hB
 rw[typeLookup_eq];refine wpAny_bind (wpAny_mroOf_exc hC ?_)
 rw[lookupAlong_cons];refine wpAny_bind (wpAny_classOwn_exc hC hN ?_)
 rw[hmN n hn];exact yX hn T hrest hq
theorem vQ:typeLookup (.type "ValueError") "__class__" =pure (some (.builtin "object.__class__")):=by rw[typeLookup_type,builtinLookup_eq_fast];kernel_rfl
theorem qX:typeLookup (.type "ValueError") "__getattr__" =pure none:=by rw[typeLookup_type,builtinLookup_eq_fast];kernel_rfl
theorem ga_V:Slot "ValueError" "__getattribute__" "BaseException.__getattribute__":=.of (owner:="BaseException") (n:="__getattribute__") (by rw[typeLookup_type,builtinLookup_eq_fast];kernel_rfl) (by decide+kernel) (by decide+kernel) (by decide+kernel) (by first | exact .inl (by decide+kernel) | exact .inr (by decide+kernel)) (by rw[isSubtype_type];kernel_rfl)
variable {a:Addr}{o:Obj}{vs:Array Value}
theorem yS {R:Result->Shared->Prop}(hC:h.get? C=some (excClassObj nm q C N bs bm hdct sn sub ab col dd k0 k1 k2 k3 k5 newId))(T:OTail h bm)
  (hx:h.get? a=some o) (hc:o.cls= .ref C) (hq:R (.ok (.ret (.ref C))) ⟨h,g,d,t,os⟩) :
  codeAny (model prog w) A (.call (.builtin "getset_descriptor.__get__") ⟨[.builtin "object.__class__",.ref a,.ref C],[]⟩) R ⟨h,g,d,t,os⟩:=by
 have hT5:(⟨h,g,d,t,os⟩:Shared).TypeIs (.builtin "object.__class__") "getset_descriptor":=F.typeOf_object_class
 have hcB:(Value.ref C::bm).contains (.type (".".intercalate ("object.__class__".cutAt '.').dropLast))=true:=by
  rw[F.owner_object_class,List.contains_cons,T.tail.hasType (b:=true) (by decide)];rfl
 refine codeAny_call_builtin F.slot_gs_get.plain F.entry_gs_get (F.slot_gs_get.check _ _ _ _ _ _ _ _ hT5 (F.args_gs_get _ _ _) ?_)
 repeat (any_goals (first | assumption | (with_reducible refine wpAny_loadPart_at hx ?_;rw[hc]) | (with_reducible refine wpAny_isSubtype_exc hC ?_;rw[hcB]) | wp_step))
 refine⟨Code.quiet_builtin _ (by decide+kernel),codeAny_builtin F.entry_object_class ?_⟩
 repeat (any_goals (first | assumption | (with_reducible refine wpAny_loadPart_at hx ?_;rw[hc]) | wp_step))
theorem wm {nameV:Value}{Q:Unit->Shared->Prop}(hC:h.get? C=some (excClassObj nm q C N bs bm hdct sn sub ab col dd k0 k1 k2 k3 k5 newId))(T:OTail h bm)
  (hx:h.get? a=some o) (hc:o.cls= .ref C) (hq:Q () ⟨h,g,d,t,os⟩):wpAny M A (checkBuiltinCall "BaseException.__getattribute__" ⟨[.ref a,nameV],[]⟩) Q E ⟨h,g,d,t,os⟩:=by
 have hk:builtinKind "BaseException.__getattribute__" =some .slot:=by decide+kernel
 have hsplit:splitId "BaseException.__getattribute__" =some ("BaseException","__getattribute__"):=by decide+kernel
 have hcB:(Value.ref C::bm).contains (.type "BaseException")=true:=by rw[List.contains_cons,T.tail.hasType (b:=true) (by decide)];rfl
 have ha:=F.args_bexc_ga (.ref a) nameV;simp only[checkBuiltinCall,hk,hsplit];refine wpAny_bind ?_
 ·unfold isInstance
  repeat (first | (with_reducible refine wpAny_loadPart_at hx ?_;rw[hc]) | (with_reducible refine wpAny_isSubtype_exc hC ?_;rw[hcB]) | wp_step)
  exact hq
theorem um {tk:Tok}{Q:Fin->Shared->Prop}(hC:h.get? C=some (excClassObj nm q C N bs bm hdct sn sub ab col dd k0 k1 k2 k3 k5 newId))(hN:h.Ns N mN)
  (hmN:∀n∈calmNames,mN n=none) (T:OTail h bm) (hx:h.get? a=some o) (hc:o.cls= .ref C) (hd:o.data= .fields vs) (hq:Q (.done (.ret (.ref C))) ⟨h,g,d,t,os⟩) :
  wpAny (model prog w) A (Builtin.«object.__getattribute__» ⟨[.ref a,.str "__class__" tk],[]⟩) Q E ⟨h,g,d,t,os⟩:=by
 have hT5:(⟨h,g,d,t,os⟩:Shared).TypeIs (.builtin "object.__class__") "getset_descriptor":=F.typeOf_object_class
 have f5:=F.typeOf_object_class
 have f6:=F.slot_gs_get.lookup
 have f7:=F.slot_gs_set.lookup
 have hmA:("__class__" : Str)∈calmNames:=.tail _ (.tail _ (.tail _ (.head _)))
 repeat (any_goals (first | assumption | (with_reducible refine wpAny_loadPart_at hx ?_;rw[hc]) | with_reducible refine qW hmA hC hN hmN T vQ ?_ | wp_step))
 refine yS hC T hx hc ?_
 repeat (any_goals (first | assumption | wp_step))
theorem wL {tk:Tok}{R:Result->Shared->Prop}(hC:h.get? C=some (excClassObj nm q C N bs bm hdct sn sub ab col dd k0 k1 k2 k3 k5 newId))(hN:h.Ns N mN)
  (hmN:∀n∈calmNames,mN n=none) (T:OTail h bm) (hx:h.get? a=some o) (hc:o.cls= .ref C) (hd:o.data= .fields vs) (hq:R (.ok (.ret (.ref C))) ⟨h,g,d,t,os⟩) :
  codeAny (model prog w) A (.call (.builtin "BaseException.__getattribute__") ⟨[.ref a,.str "__class__" tk],[]⟩) R ⟨h,g,d,t,os⟩:=
 codeAny_call_builtin ga_V.plain F.entry_bexc_ga (wm hC T hx hc (um hC hN hmN T hx hc hd hq))
theorem BF {tk:Tok}{fill expr:Bool}{Q:Value->Shared->Prop}(hC:h.get? C=some (excClassObj nm q C N bs bm hdct sn sub ab col dd k0 k1 k2 k3 k5 newId))(hN:h.Ns N mN)
  (hmN:∀n∈calmNames,mN n=none) (T:OTail h bm) (hx:h.get? a=some o) (hc:o.cls= .ref C) (hd:o.data= .fields vs) (hq:Q (.ref C) ⟨h,g,d,t,os⟩) :
  wpAny (model prog w) A (getAttrBy (.ref a) (.str "__class__" tk) fill expr) Q E ⟨h,g,d,t,os⟩:=by
 have f3:=ga_V.bind (.ref a)
 have hx0:(expr&&onTheHeap (Value.builtin "BaseException.__getattribute__"))=false:=by cases expr <;> rfl
 have hx2:(Value.builtin "BaseException.__getattribute__" == Value.builtin "object.__getattribute__")=false:=by decide+kernel
 have hx1:(onTheHeap (Value.ref C)&&Value.builtin "BaseException.__getattribute__" == Value.builtin "object.__getattribute__")=false:=by rw[hx2];rfl
 have hm1:("__getattribute__" : Str)∈calmNames:=.tail _ (.head _)
 have hm2:("__getattr__" : Str)∈calmNames:=.tail _ (.tail _ (.head _))
 repeat (any_goals (first | assumption | (with_reducible refine wpAny_loadPart_at hx ?_;rw[hc]) | with_reducible refine qW hm1 hC hN hmN T ga_V.lookup ?_ | with_reducible refine qW hm2 hC hN hmN T qX ?_ | wp_step))
 refine wL hC hN hmN T hx hc hd ?_
 repeat (any_goals (first | assumption | wp_step))
theorem wM {Q:Option Value->Shared->Prop}(hC:h.get? C=some (excClassObj nm q C N bs bm hdct sn sub ab col dd k0 k1 k2 k3 k5 newId))(hN:h.Ns N mN)
  (hmN:∀n∈calmNames,mN n=none) (T:OTail h bm) (hx:h.get? a=some o) (hc:o.cls= .ref C) (hd:o.data= .fields vs) (hq:Q (some (.ref C)) ⟨h,g,d,t+1,os⟩) :
  wpAny (model prog w) A (getAttr? (.ref a) "__class__") Q E ⟨h,g,d,t,os⟩:=by
 unfold getAttr? getAttrBy?
 repeat (any_goals (first | assumption | with_reducible apply BF hC hN hmN T hx hc hd | wp_step))
end
section
variable {M:Model}{prog:Program}{w:World}{A:Around}{E:Value->Shared->Prop}{h:Heap}{g:Array GenState}{d:Drawn}{t:Nat}{os:OsState}
variable {nm q:Str}{C N:Addr}{bs bm:List Value}{hdct:Bool}{sn:List Str}{sub:List Value}{ab:Bool}{col:Option Bool}{dd:Option Addr}{k0 k1 k2 k3 k5:Option Value}{newId:String}{mN:Str->Option Value}
variable {a:Addr}{o:Obj}{vs:Array Value}
theorem tO {dep:Int}{tk:Tok}{Q:Fin->Shared->Prop}(hx:h.get? a=some o)(hc:o.cls= .ref C)(hq:Q (.done (.ret (.bool true))) ⟨h,g,d,t,os⟩) :
  wpAny (model prog w) A (Builtin.«isinstance.nested» ⟨[.ref a,.ref C,.int dep tk],[]⟩) Q E ⟨h,g,d,t,os⟩:=by
 have e:(Value.ref C == Value.ref C)=true:=by simp
 repeat (any_goals (first | assumption | (with_reducible refine wpAny_loadPart_at hx ?_;rw[hc]) | wp_step))
theorem A2 {dep:Int}{tk:Tok}{Q:Fin->Shared->Prop}(hC:h.get? C=some (excClassObj nm q C N bs bm hdct sn sub ab col dd k0 k1 k2 k3 k5 newId))(T:OTail h bm)(hx:h.get? a=some o)(hc:o.cls= .ref C)
  (hq:Q (.done (.ret (.bool true))) ⟨h,g,d,t,os⟩):wpAny (model prog w) A (Builtin.«isinstance.nested» ⟨[.ref a,.type "ValueError",.int dep tk],[]⟩) Q E ⟨h,g,d,t,os⟩:=by
 have e:(Value.ref C == Value.type "ValueError")=false:=rfl
 have hty:typeOf (.type "ValueError")=pure (.type "type"):=by kernel_rfl
 have hcB:(Value.ref C::bm).contains (.type "ValueError")=true:=by rw[List.contains_cons,T.tail.hasType (b:=true) (by decide)];rfl
 repeat (any_goals (first | assumption | (with_reducible refine wpAny_loadPart_at hx ?_;rw[hc]) | (with_reducible refine wpAny_isSubtype_exc hC ?_;rw[hcB]) | wp_step))
theorem vJ {D:Addr}{oD:Obj}{cD:ClassData}{dep:Int}{tk:Tok}{Q:Fin->Shared->Prop}(hC:h.get? C=some (excClassObj nm q C N bs bm hdct sn sub ab col dd k0 k1 k2 k3 k5 newId))(hN:h.Ns N mN)(hmN:∀n∈calmNames,mN n=none)(T:OTail h bm)
  (hx:h.get? a=some o) (hc:o.cls= .ref C) (hd:o.data= .fields vs) (hD:h.get? D=some oD) (hDt:oD.cls= .type "type") (hDd:oD.data= .cls cD) (hne:(Value.ref C == Value.ref D)=false) (hnb:(Value.ref C::bm).contains (.ref D)=false)
  (hq:Q (.done (.ret (.bool false))) ⟨h,g,d,t+1,os⟩):wpAny (model prog w) A (Builtin.«isinstance.nested» ⟨[.ref a,.ref D,.int dep tk],[]⟩) Q E ⟨h,g,d,t,os⟩:=by
 repeat (any_goals (first | assumption | (with_reducible refine wpAny_loadPart_at hx ?_;rw[hc]) | (with_reducible refine wpAny_loadPart_at hD ?_;rw[hDt]) | (with_reducible refine wpAny_loadPart_at hD ?_;rw[hDd]) | (with_reducible refine wpAny_loadPart_at hC ?_) | (with_reducible refine wpAny_isSubtype_exc hC ?_;rw[hnb]) | with_reducible refine wM hC hN hmN T hx hc hd ?_ | wp_step))
end
structure OX (K:PySem.W.Frag)(C:Addr)(bm:List Value):Prop where
 at_:∀h:Heap,K.In h->∃nm q N bs hdct sn sub ab col dd k0 k1 k2 k3 k5 mN,h.get? C=some (excClassObj nm q C N bs bm hdct sn sub ab col dd k0 k1 k2 k3 k5 "ValueError.__new__")/\h.Ns N mN/\(∀n∈calmNames,mN n=none)/\OTail h bm
theorem OX.own {K:PySem.W.Frag}{C:Addr}{bm:List Value}(O:OX K C bm):OwnExc K C bm:=⟨λh k=>by
 obtain⟨nm,q,N,bs,hdct,sn,sub,ab,col,dd,k0,k1,k2,k3,k5,mN,h1,h2,h3,h4⟩:=O.at_ h k;exact⟨nm,q,N,bs,hdct,sn,sub,ab,col,dd,k0,k1,k2,k3,k5,mN,h1,h2,h3 _ (.head _),h4.tail⟩⟩
section
variable {X:Cx}{e C D:Addr}{oe:Obj}{ev:Array Value}{bm bmD:List Value}
def tIs (e:Addr)(b:Bool):TE:=λσ H Q=>σ[0]? =some (some (.ref e))/\Q (.bl b) H
theorem we {pins:List (Addr×Obj)}{σ:L2.St}{H:Hp}{s:Shared}{Q:VK}(hp:(e,oe)∈X.pn)(hc:oe.cls= .ref C)(hd:oe.data= .fields ev)(OC:OX X.K C bm)(OD:OX X.K D bmD)(b:Bool)(hb:(decide (C=D))=b)(hnb:C≠D->bm.contains (.ref D)=false)
  (I:Inv X pins σ H s) (q:Q (.bl b) H):wpAny (model X.prog X.w) X.A (call (.builtin "isinstance") [.ref e,.ref D]) (EP X pins σ Q) X.xe s:=by
 have hx:s.heap.get? e=some oe:=(I.pin (e,oe) (List.mem_append_left _ hp)).1;obtain⟨nm,qq,N,bs,hdct,sn,sub,ab,col,dd,k0,k1,k2,k3,k5,mN,hC,hN,hmN,T⟩:=OC.at_ s.heap I.kIn;obtain⟨nm',qq',N',bs',hdct',sn',sub',ab',col',dd',k0',k1',k2',k3',k5',mN',hD,_⟩:=OD.at_ s.heap I.kIn;obtain⟨h,g,d,t,os⟩:=s;refine call_isinstance_of ?_ (by intro z;cases z)
 by_cases z:C=D
 ·subst z
  have:b=true:=by rw[<-hb];simp
  subst this;exact tO hx hc ⟨.bl true,H,I,rfl,q⟩
 ·have:b=false:=by rw[<-hb];simp[z]
  subst this;refine vJ hC hN hmN T hx hc hd hD rfl rfl ?_ ?_ ⟨.bl false,H,I.tok _,rfl,q⟩
  ·rw[beq_eq_false_iff_ne];exact λy=>z (Value.ref.inj y)
  ·rw[List.contains_cons,hnb z,Bool.or_false,beq_eq_false_iff_ne]
   exact λy=>z (Value.ref.inj y).symm
theorem wf {pins:List (Addr×Obj)}{σ:L2.St}{H:Hp}{s:Shared}{Q:VK}(hp:(e,oe)∈X.pn)(hc:oe.cls= .ref C)(OC:OX X.K C bm)
  (I:Inv X pins σ H s) (q:Q (.bl true) H):wpAny (model X.prog X.w) X.A (call (.builtin "isinstance") [.ref e,.type "ValueError"]) (EP X pins σ Q) X.xe s:=by
 have hx:s.heap.get? e=some oe:=(I.pin (e,oe) (List.mem_append_left _ hp)).1;obtain⟨nm,qq,N,bs,hdct,sn,sub,ab,col,dd,k0,k1,k2,k3,k5,mN,hC,hN,hmN,T⟩:=OC.at_ s.heap I.kIn;obtain⟨h,g,d,t,os⟩:=s;refine call_isinstance_of ?_ (by intro z;cases z)
 exact A2 hC T hx hc ⟨.bl true,H,I,rfl,q⟩
theorem jy {en dn:Str}{p p1 p2 pos:Pos}(hN:X.N[0]? =some en)(hv:ni X.env.scope en)(hp:(e,oe)∈X.pn)(hc:oe.cls= .ref C)(hd:oe.data= .fields ev)(OC:OX X.K C bm)(OD:OX X.K D bmD)(b:Bool)(hb:(decide (C=D))=b)(hnb:C≠D->bm.contains (.ref D)=false)
  (hm:X.mg "isinstance" =none) (hmD:X.mg dn=some (.ref D)) (hg:Gl X "isinstance":=by rfl) (hgD:Gl X dn:=by rfl) (hde:(en == ("__debug__" : Str))=false:=by decide) (hce:(en == ("__classdict__" : Str))=false:=by decide) (hdd:(dn == ("__debug__" : Str))=false:=by decide)
  (he:starEach [.Name en p1,.Name dn p2] X.env=(false,eval (.Name en p1) X.env)::starEach [.Name dn p2] X.env:=by rfl) (hpl:(backTo pos (starEach [.Name dn p2] X.env)).any (·.1)=false:=by rfl)
  (hs:starEach [.Name dn p2] X.env=(false,eval (.Name dn p2) X.env)::starEach [] X.env:=by rfl) :
  PE X (.Call (.Name "isinstance" p) [.Name en p1,.Name dn p2] [] pos) (tIs e b):=by
 intro pins s σ H Q I ⟨hσ,q⟩;refine wpAny_Call_Name_kw (eI I hg hm eJ ?_ (by decide) (by decide))
 have hA:PA X [.Name en p1,.Name dn p2] (fI (kE 0) (fI (tC (.ref D)) o8)):=aZ (fN hN hv hde hce) (aZ (nR hgD hmD rfl hdd) de hs) he;refine PyProof.Rows.callWith_builtin1 (bS (hA pos pins s σ H (λvs H'=>vs= [.ref e,.ref D]/\H'=H) I ⟨.ref e,hσ,rfl,rfl⟩) λus s1 ⟨vs,H1,I1,r1,e1,e2⟩=> ?_) he hpl
 subst e1;obtain⟨u,w',rfl,ru,rw'⟩:=oX r1;cases ru;cases rw';subst e2;exact we hp hc hd OC OD b hb hnb I1 q
end
theorem eqB (a b:Bool):MeetsSeq.EqGives (.bool a) (.bool b) (a == b):=λprog w A E s Q h=>(PySem.SeqAt.EqAt.bool_bool a b (A:=A) (s:=s)) prog w E Q h
section
variable {X:Cx}
theorem nt:∀{ks:List Bool} {us:List Value},Vals (ks.map V.bl) us->us=ks.map Value.bool
 | [],us,r=>by cases r;rfl
 | k::ks,us,r=>by
  cases r with
  | cons r1 r2=>cases r1;rw[nt r2];rfl
def jk:Value->Bool
 | .bool b=>b
 | _=>false
def xE:V->List V->Hp->VK->Prop:=λx vs H Q=> ∃(l:Addr) (ks:List Bool),x= .ref l/\vs= [.bl true]/\H l=some (.lst (ks.map V.bl))/\Q (.int (ks.countP id:Nat)) H
theorem tT:MtR X "list.count" xE:=by
 intro pins s σ H x vs v us Q I rx rv h;obtain⟨l,ks,rfl,rfl,hH,q⟩:=h;cases rx;obtain⟨u,rfl,ru⟩:=rv.one;cases ru;obtain⟨z,its,n,r,hl,e⟩:=I.lstM hH
 have hi:=nt r;subst hi;refine call_meets F.slot_list_count ⟨_,e,rfl⟩ F.entry_list_count (F.args_list_count_2 _ _) (MeetsSeq.list_count l (ks.map Value.bool).toArray n (.bool true) jk λy hy=> ?_) ⟨e,?_⟩
 ·have hy':y∈ks.map Value.bool:=by simpa using hy
  obtain⟨k,_,rfl⟩:=List.mem_map.mp hy'
  have:=eqB k true;cases k <;> exact this
 ·have hc:(ks.map Value.bool).toArray.toList.countP jk=ks.countP id:=by
   simp only[List.countP_map];rfl
  rw[hc];exact⟨.int _,H,I.tok _,⟨_,rfl⟩,q⟩
def xA:V->List V->Hp->VK->Prop:=λx vs H Q=> ∃(l:Addr) (ks:List Bool) (j:Nat),x= .ref l/\vs= [.bl true]/\H l=some (.lst (ks.map V.bl))/\ks[j]? =some true/\(∀m,m<j->ks[m]? =some false)/\j<=1000/\Q (.int (j:Nat)) H
theorem tR:MtR X "list.index" xA:=by
 intro pins s σ H x vs v us Q I rx rv h;obtain⟨l,ks,j,rfl,rfl,hH,hj,hno,hs,q⟩:=h;cases rx;obtain⟨u,rfl,ru⟩:=rv.one;cases ru;obtain⟨z,its,n,r,hl,e⟩:=I.lstM hH
 have hi:=nt r;subst hi
 have hjl:j<ks.length:=(List.getElem?_eq_some_iff.mp hj).1
 refine call_meets F.slot_list_index ⟨_,e,rfl⟩ F.entry_list_index (F.args_list_index_2 _ _) (MeetsSeq.list_index l (ks.map Value.bool).toArray n (.bool true) jk (λy hy=> ?_) j (by simpa using hjl) (by omega) ?_ ?_) ⟨e,?_⟩
 ·have hy':y∈ks.map Value.bool:=by simpa using hy
  obtain⟨k,_,rfl⟩:=List.mem_map.mp hy'
  have:=eqB k true;cases k <;> exact this
 ·have:ks[j] =true:=by have:=(List.getElem?_eq_some_iff.mp hj).2;exact this
  simp[this,jk]
 ·intro m hm hmj
  have hmk:m<ks.length:=by simpa using hm
  have:=(List.getElem?_eq_some_iff.mp (hno m hmj)).2
  simp[this,jk]
 ·exact⟨.int _,H,I.tok _,⟨_,rfl⟩,q⟩
end
abbrev Dn (P:Program)(w:World)(K:PySem.W.Frag)(mg:Str->Option Value)(base:Heap)(N:List Str)(qual:Str)(scope:Scope)(f:Addr)(cd:Value)(A:Around)(outer:List Env)(s:Shared)(H:Hp)(e:Addr)(oe:Obj):Cx:=
 { jr CX0 P w K mg base N qual scope f cd A outer s H E0 with calm:=false,pn:=[(e,oe)],xe:=λ_ _=>False }
section
variable {P:Program}{w:World}{K:PySem.W.Frag}{mg:Str->Option Value}{base:Heap}
theorem rh {N ps:List Str}{qual:Str}{scope:Scope}{f:Addr}{cd:Value}{A:Around}{outer:List Env}{s s1:Shared}{H:Hp}{us:List Value}{vs:List V}{e:Addr}{oe:Obj}
  (S:aA N ps scope) (e0:qC P w K mg base A outer s H) (hl:vs.length=ps.length) (r:Vals vs us)
  (x:InCallC s s.heap.objs.size (bindL (envOfC qual scope s.heap.objs.size f cd).kindOf (ps.zip us) λ_=>none) (cellsFrom (s.heap.objs.size+1) scope.names []) (bindC (envOfC qual scope s.heap.objs.size f cd).kindOf (ps.zip us) λ_=>none) s1)
  (he:s.heap.get? e=some oe) (hH:H e=none) (hf:e∉lr outer) (hc:∀v,oe.data≠ .cell v) :
  Inv (Dn P w K mg base N qual scope f cd A outer s H e oe) [] (start N vs) H s1:=by
 have e0':qC P w K mg base { A with handled:=none } outer s H:=⟨e0.frames,e0.mod,e0.bs,e0.bsz,e0.funs,e0.frf,e0.hok,e0.bare⟩
 have I:=jD (CX:=CX0) (E:=E0) S (A:={ A with handled:=none }) rfl e0' hl r x
 obtain⟨h1,tk,hs1,hk⟩:=x.done
 have ok:=I.ok;refine⟨⟨ok.mod,ok.kind,ok.glob,ok.blt,ok.above,ok.inj,ok.has,ok.cab,(λz=>by cases z),Around.frames_deeper e0.frames,.inr ⟨rfl,rfl⟩,ok.exf,ok.bs,ok.bsz,ok.noex,ok.exfs,ok.funs,ok.frf⟩,I.os,I.bare,I.base,I.loc,I.cell,I.free,I.freeC,λp hp=> ?_,I.hok,I.len⟩
 have hp':p=(e,oe):=by simpa using hp
 subst hp';refine⟨?_,hH,?_,hf,hc⟩
 ·rw[hs1];exact hk e oe he
 ·exact Nat.ne_of_lt (Heap.lt_size he)
theorem Bq {x qual:Str}{st:Stmt}{f:Addr}{fd:FuncData}{N ps:List Str}{A:Around}{outer:List Env}{s:Shared}{H:Hp}{args:Args}{us:List Value}{vs:List V}{Q:VK}{e:Addr}{oe:Obj}(Fn:L2.Fun K x qual st f fd)(S:aA N ps (ah st))(hlen:vs.length=ps.length)
  (hr:A.depth+3<recursionLimit) (e0:qC P w K mg base A outer s H) (hb:BindsTo s fd args (ps.zip us)) (r:Vals vs us) (he:s.heap.get? e=some oe) (hH:H e=none) (hf:e∉lr outer) (hc:∀v,oe.data≠ .cell v)
  (hbody:∀(cdv:Value),∃t,PSs (Dn P w K mg base N qual (ah st) f cdv A outer s H e oe) (cx st) t/\t { nx:=λ_ _=>False,rt:=Q } (start N vs) H) :
  codeAny (model P w) A (.call (.ref f) args) (CR CX0 outer P w H s Q E0) s:=by
 obtain⟨oc,od,kV,doc,pm,an,cdv,ct,osl,rfl,lk,hcd⟩:=Fn.ex
 have KX:K.In s.heap:=e0.mod.kin.keeps λb o e=>(e0.bs b o e).1
 have lim:s.heap.NoLimit:=e0.mod.nolimit.keeps λb o e=>(e0.bs b o e).1
 have hkind:∀y∈ps.zip us,(ah st).names.lookup y.1=some .local\/((ah st).names.lookup y.1=some .cell/\((cellsFrom (s.heap.objs.size+1) (ah st).names []).lookup y.1).isSome=true):=λ⟨n,v⟩ hy=>by
  rcases S.par n (List.of_mem_zip hy).1 with q | q
  ·exact .inl q
  ·exact .inr ⟨q,PySem.W.cellsFrom_some _ _ _ (.inl q)⟩
 refine codeAny_call_function (by omega) (KX _ _ lk) rfl S.co S.gen rfl (PySem.W.codeRec_of KX hcd) (hb _ _ _ _ ?_)
 refine wpAny_newFunctionEnv_cells S.kind hkind λenv hen s1 x=> ?_
 subst hen;refine⟨lim.keeps x.toInCall.keep,codeAny_func ?_⟩
 obtain⟨t,ht,hq⟩:=hbody cdv
 have I:=rh S e0 hlen r x he hH hf hc;refine wpAny_mono (ht [] s1 (start N vs) H _ I hq) (λfl s' hs=> ?_) λe s' hs=>hs.elim
 cases fl with
 | ret u=>
  obtain⟨v,σ',H',J,rv,q⟩:=hs
  exact⟨v,H',J.os,J.bare,J.base,J.hok,rv,q⟩
 | next=>obtain⟨_,_,_,q⟩:=hs;exact q.elim
 | brk=>obtain⟨_,_,_,q⟩:=hs;exact q.elim
 | cont=>obtain⟨_,_,_,q⟩:=hs;exact q.elim
end
section
variable {M:Model}{A:Around}{E:Value->Shared->Prop}{s:Shared}
theorem CH {base:Heap}{env:Env}{outer:List Env}{L C e:Addr}{T:Option Addr}{Q:Unit->Shared->Prop}(hfr:A.frames=some (env::outer))(hl:s.heap.FunFrames base (env::outer))(hf:env.frame=some L)
  (F:De s.heap C e T) (h:∀h' T',zd ((env::outer).filterMap (·.frame)) C e T s.heap h' T'->Q () { s with heap:=h' }) :
  wpAny M A (noteFrame (.ref e) env) (λ_ s'=>wpAny M A (setFlight (.ref e) none) Q E s') E s:=by
 generalize hB:PySem.W.hideAll s.heap (e::(T.toList++(env::outer).filterMap (·.frame)))=B
 have bm:∀b,b∈e::(T.toList++(env::outer).filterMap (·.frame))->B.get? b=none:=λb m=>by rw[<-hB];exact PySem.W.hideAll_none _ m
 have hl':s.heap.FunFrames B (env::outer):=fQ hl λa ha=>bm a (List.mem_cons_of_mem _ (List.mem_append_right _ ha))
 have hst:B.StaysIn s.heap:=λb o q=>by rw[<-hB]at q;exact PySem.W.of_hideAll _ q
 have hen:B.get? e=none:=bm e List.mem_cons_self
 have main:∀h',Heap.Left B (env::outer) e (.ref C) s.heap h'->Q () { s with heap:=h' }:=λh' ⟨x1,x2,⟨oe,vs,T',oT,ts,he,hc,hd,h1,hnT,hTe,hT,hdT,h3⟩,x4⟩=>by
  refine h h' T' ⟨⟨hTe,oe,vs,he,hc,hd,h1,oT,ts,hT,hdT,h3⟩,?_,λb o n1 n2 n3 q=> ?_,λb o m q=> ?_⟩
  ·cases q:s.heap.get? T' with
   | none=>exact .inr rfl
   | some o=>
    left
    by_cases z:T'∈e::(T.toList++(env::outer).filterMap (·.frame))
    ·rcases List.mem_cons.mp z with z | z
     ·exact absurd z hTe
     ·rcases List.mem_append.mp z with z | z
      ·cases T with
       | none=>simp at z
       | some t=>simp at z;rw[z]
      ·obtain⟨_,o',ho',hnf⟩:=x2.mem z
       rw[hT]at ho';cases ho';exact absurd hdT (hnf ts)
    ·rw[<-hB,PySem.W.hideAll_get _ q z]at hnT;cases hnT
  ·refine x1 b o ?_
   rw[<-hB];refine PySem.W.hideAll_get _ q λz=> ?_
   rcases List.mem_cons.mp z with z | z
   ·exact n2 z
   ·rcases List.mem_append.mp z with z | z
    ·cases T with
     | none=>simp at z
     | some t=>simp at z;exact n3 (by rw[z])
    ·exact n1 z
  ·obtain⟨_,o',ho',hnf⟩:=hl.mem m
   rw[q]at ho';cases ho';exact x4 b o q hnf
 cases T with
 | none=>
  obtain⟨oe,vs,he,hc,hd,h1⟩:=F;unfold noteFrame;simp only[hf];refine wpAny_bind (wpAny_field he hd h1 ?_)
  rw[if_neg (by decide)]
  refine wpAny_newEntry hfr hl' hf he hst hen hd (Array.getElem?_eq_some_iff.mp h1).1 λh' x=>main h' ?_
  rw[hc]at x;exact x
 | some t=>
  obtain⟨hte,oe,vs,he,hc,hd,h1,oT,ts,hT,hdT,h3⟩:=F
  have hnT:B.get? t=none:=bm t (List.mem_cons_of_mem _ (List.mem_append_left _ (by simp)))
  unfold noteFrame;simp only[hf];refine wpAny_bind (wpAny_field he hd h1 ?_)
  rw[if_pos (show(Value.ref t != Value.none)=true from by simp)]
  refine wpAny_bind (wpAny_field hT hdT h3 ?_)
  rw[if_neg (show ¬((Value.none == rawInt L)=true)from by simp[rawInt])]
  refine wpAny_bind (wpAny_setField hT hdT (Array.getElem?_eq_some_iff.mp h3).1 ?_)
  have other:∀b,b≠t->(s.heap.update t (Obj.mapFields (·.setIfInBounds 3 Value.none))).get? b=s.heap.get? b:=λb hb=>Heap.get?_update_other _ _ (Ne.symm hb)
  have noRec:∀b o,s.heap.get? b=some o->(∀vs,o.data≠ .fields vs)->b≠t:=λb o hb hnf q=>by
   rw[q,hT]at hb;injection hb with hb;subst hb;exact hnf ts hdT
  refine wpAny_newEntry hfr (hl'.of_keeps λb o hb hnf=>⟨o,(other b (noRec b o hb hnf)).trans hb,rfl⟩) hf ((other e (Ne.symm hte)).trans he)
   (λb o hbo=>(other b λq=>by rw[q,hnT]at hbo;cases hbo).trans (hst b o hbo)) hen hd (Array.getElem?_eq_some_iff.mp h1).1
   λh' x=>main h' ?_
  obtain⟨x1,x2,x3,x4⟩:=x;rw[hc]at x3;exact⟨x1,x2,x3,λb o hb hnf=>x4 b o ((other b (noRec b o hb hnf)).trans hb) hnf⟩
end
section
variable {X:Cx}{pins:List (Addr×Obj)}{σ:L2.St}{H:Hp}{s:Shared}{h':Heap}
theorem Inv.gone {C e T':Addr}{T:Option Addr}(I:Inv X pins σ H s)(hst:X.stack=X.env::X.outer)(hfe:X.env.frame=some X.env.locals)(hcl:∀x c,X.env.cells.lookup x≠some c)(hex:X.ex= [])
  (g:zd ((X.env::X.outer).filterMap (·.frame)) C e T s.heap h' T') (he:H e=none) (heo:X.s₀.heap.get? e=none) (hT:∀t,T=some t->H t=none/\X.s₀.heap.get? t=none) (hp:∀p∈X.pn++pins,p.1≠e/\T≠some p.1) :
  Inv X pins σ H { s with heap:=h' }:=by
 have mem:∀b,b∈(X.env::X.outer).filterMap (·.frame)↔b=X.env.locals\/b∈X.fs:=λb=>by
  rw[List.filterMap_cons,hfe];exact List.mem_cons
 have out:∀b o,X.s₀.heap.get? b=some o->b≠X.env.locals:=λb o q z=>by
  have h1:=Heap.lt_size q
  have h2:=I.ok.above;rw[z]at h1;exact absurd (Nat.lt_of_lt_of_le h1 h2) (Nat.lt_irrefl _)
 have ne:∀b o,X.s₀.heap.get? b=some o->b≠e/\T≠some b:=λb o q=>⟨λz=>(by subst z;rw[heo]at q;cases q),λz=>(by rw[(hT b z).2]at q;cases q)⟩
 have fr:∀b,b∈(X.env::X.outer).filterMap (·.frame)->H b=none:=λb z=>I.stkFree b (by rw[hst];exact z)
 have keepH:∀b u,H b≠none->s.heap.get? b=some u->h'.get? b=some u:=λb u hb q=>by
  refine g.keep b u (λz=>hb (fr b z)) (λz=>hb (by rw[z];exact he)) (λz=>hb (hT b z).1) q
 refine⟨I.ok,I.os,I.bare,⟨λb o q n hb hx=> ?_,λb o q n hb hx=> ?_,I.base.free,λb o q hx=> ?_,I.base.tups,I.base.frzs,I.base.tbls⟩,?_,λx c z=>absurd z (hcl x c),I.free,I.freeC,λp hp'=> ?_,λa o q=> ?_,I.len⟩
 ·exact g.keep b o (λz=>((mem b).mp z).elim (out b o q) hb) (ne b o q).1 (ne b o q).2 (I.base.keep b o q n hb hx)
 ·obtain⟨sl,q1⟩:=I.base.slot b o q n hb hx
  obtain⟨sl',q2⟩:=g.slot b _ ((mem b).mpr (.inr hb)) q1;exact⟨sl',q2⟩
 ·obtain⟨o',q1⟩:=I.base.there b o q hx
  by_cases z:b∈(X.env::X.outer).filterMap (·.frame)
  ·obtain⟨sl,q2⟩:=g.slot b o' z q1
   exact⟨_,q2⟩
  ·exact⟨o',g.keep b o' z (ne b o q).1 (ne b o q).2 q1⟩
 ·obtain⟨m,⟨o,es,ep,ho,hd,r⟩,hl⟩:=I.loc
  obtain⟨sl,q2⟩:=g.slot X.env.locals o ((mem _).mpr (.inl rfl)) ho;refine⟨m,⟨_,es,ep,q2,hd,r⟩,λi x v a1 a2 a3=> ?_⟩
  obtain⟨u,ru,lk⟩:=hl i x v a1 a2 a3;refine⟨u,ru,?_⟩
  rcases lk with z | ⟨_,c,z,_⟩
  ·exact .inl z
  ·exact absurd z (hcl x c)
 ·obtain⟨b1,b2,b3,b4,b5⟩:=I.pin p hp'
  exact⟨g.keep p.1 p.2 (λz=>((mem _).mp z).elim b3 b4) (hp p hp').1 (hp p hp').2 b1,b2,b3,b4,b5⟩
 ·refine(I.hok a o q).stay (λb u hb z=>keepH b u ?_ z) (λ_ z=>z) λ_ _ z=>z
  rcases hb with rfl | hb
  ·rw[q];simp
  ·rw[hb];simp
end
section
variable {M:Model}{A:Around}{E:Value->Shared->Prop}{h:Heap}{g:Array GenState}{d:Drawn}{t:Nat}{os:OsState}
variable {nm q:Str}{C N:Addr}{bs bm:List Value}{hdct:Bool}{sn:List Str}{sub:List Value}{ab:Bool}{col:Option Bool}{dd:Option Addr}{k0 k1 k2 k3 k5:Option Value}{newId:String}
variable {nm' q':Str}{D N':Addr}{bs' bm':List Value}{hdct':Bool}{sn':List Str}{sub':List Value}{ab':Bool}{col':Option Bool}{dd':Option Addr}{k0' k1' k2' k3' k5':Option Value}{newId':String}
theorem tW {e:Addr}{oe:Obj}{Q:Bool->Shared->Prop}(hC:h.get? C=some (excClassObj nm q C N bs bm hdct sn sub ab col dd k0 k1 k2 k3 k5 newId))(hD:h.get? D=some (excClassObj nm' q' D N' bs' bm' hdct' sn' sub' ab' col' dd' k0' k1' k2' k3' k5' newId'))
  (he:h.get? e=some oe) (hcls:oe.cls= .ref C) (hb:bm'.contains (.type "BaseException")=true) (hin:(Value.ref C::bm).contains (.ref D)=true) (hq:Q true ⟨h,g,d,t,os⟩):wpAny M A (excMatches (.ref e) (.ref D)) Q E ⟨h,g,d,t,os⟩:=by
 have hcB:(Value.ref D::bm').contains (.type "BaseException")=true:=by rw[List.contains_cons,hb,Bool.or_true]
 have f:=tc_notTuple;unfold excMatches
 repeat (first | (with_reducible refine wpAny_loadPart_at he ?_;rw[hcls]) | with_reducible refine wpAny_loadPart_at hD ?_ | (with_reducible refine wpAny_isSubtype_exc hD ?_;rw[hcB]) | (with_reducible refine wpAny_isSubtype_exc hC ?_;rw[hin]) | wp_step)
 exact hq
end
abbrev rA (X:Cx)(e:Addr)(oe:Obj):Cx:={ X with A:=X.A.mark (some (.ref e)),calm:=false,pn:=(e,oe)::X.pn,xe:=λ_ _=>False }
section
variable {X:Cx}{pins:List (Addr×Obj)}{σ:L2.St}{H:Hp}{s:Shared}{e:Addr}{oe:Obj}
theorem sE (I:Inv X pins σ H s)(he:s.heap.get? e=some oe)(hH:H e=none)(hne:e≠X.env.locals)(hf:e∉X.fs)(hc:∀v,oe.data≠ .cell v):Inv (rA X e oe) pins σ H s:=by
 have ok:=I.ok;refine⟨⟨ok.mod,ok.kind,ok.glob,ok.blt,ok.above,ok.inj,ok.has,ok.cab,(λz=>by cases z),?_,ok.stk,ok.exf,ok.bs,ok.bsz,ok.noex,ok.exfs,ok.funs,ok.frf⟩,I.os,I.bare,I.base,I.loc,I.cell,I.free,I.freeC,λp hp=> ?_,I.hok,I.len⟩
 ·exact ok.frames
 ·rcases List.mem_cons.mp (show p∈(e,oe)::(X.pn++pins)from hp)with z | z
  ·subst z;exact⟨he,hH,hne,hf,hc⟩
  ·exact I.pin p z
theorem yA (ok:X.Ok)(I:Inv (rA X e oe) pins σ H s):Inv X pins σ H s:=
 ⟨ok,I.os,I.bare,I.base,I.loc,I.cell,I.free,I.freeC,λp hp=>I.pin p (List.mem_cons_of_mem _ hp),I.hok,I.len⟩
theorem Inv.forget {h':Heap}{tk:Nat}{m:Str->Option Value}(I:Inv X pins σ H s)(hcl:∀x c,X.env.cells.lookup x≠some c)(hn:h'.Ns X.env.locals m)(hs:Heap.SameBut X.env.locals s.heap h'):Inv X pins (List.replicate X.N.length none) H { s with heap:=h',toks:=tk }:=by
 have out:∀b o,X.s₀.heap.get? b=some o->b≠X.env.locals:=λb o q z=>by
  have h1:=Heap.lt_size q
  have h2:=I.ok.above;rw[z]at h1;exact absurd (Nat.lt_of_lt_of_le h1 h2) (Nat.lt_irrefl _)
 have kp:∀b o,b≠X.env.locals->s.heap.get? b=some o->h'.get? b=some o:=λb o n q=>hs.extBut b o n q
 refine⟨I.ok,I.os,I.bare,⟨λb o q n hb hx=>kp b o (out b o q) (I.base.keep b o q n hb hx),λb o q n hb hx=> ?_,I.base.free,λb o q hx=> ?_,I.base.tups,I.base.frzs,I.base.tbls⟩,⟨m,hn,λi x v a1 a2 a3=> ?_⟩,λx c z=>absurd z (hcl x c),I.free,I.freeC,λp hp=> ?_,λa o q=> ?_,by simp⟩
 ·obtain⟨sl,q1⟩:=I.base.slot b o q n hb hx
  exact⟨sl,kp b _ (out b o q) q1⟩
 ·obtain⟨o',q1⟩:=I.base.there b o q hx
  exact⟨o',kp b o' (out b o q) q1⟩
 ·rw[List.getElem?_replicate]at a2
  split at a2 <;> cases a2
 ·obtain⟨b1,b2,b3,b4,b5⟩:=I.pin p hp
  exact⟨kp p.1 p.2 b3 b1,b2,b3,b4,b5⟩
 ·have nl:∀b u,H b=some u->b≠X.env.locals:=λb u q z=>by rw[z,I.free]at q;cases q
  refine(I.hok a o q).stay (λb u hb z=>kp b u ?_ z) (λ_ z=>z) λ_ _ z=>z
  rcases hb with rfl | hb
  ·exact nl _ _ q
  ·exact nl _ _ hb
end
def pw (F:En->Rs Fl)(h:Str->Rs T)(Z:En):Rs Fl:=match F Z with
 | .err c=>match h c with
  | .ok t=> .ok (.rt t)
  | _=> .bad
 | r=>r
def oG (X:Cx)(i:Nat)(suite:List Stmt)(CE:Addr)(h:Str->Rs T):Prop:=
 ∀(c:Str) (C:Addr) (t:T),X.mg c=some (.ref C)->h c= .ok t->∃bm,OX X.K C bm/\(Value.ref C::bm).contains (.ref CE)=true ∧
  ∀(e:Addr) (oe:Obj) (ev:Array Value),oe.cls= .ref C->oe.data= .fields ev->∀(pins:List (Addr×Obj)) (s:Shared) (σ:L2.St) (H:Hp) (O:Ow) (Q:VK),Inv (rA X e oe) pins σ H s->H e=none->e∉lr X.stack->σ[i]? =some (some (.ref e))->(∀p,H p=none->¬ O p) →
   (∀v H',Same H H'->Rep X.K O H' t v->Q v H')->wpAny (model X.prog X.w) (rA X e oe).A (execs suite X.env) (SP (rA X e oe) pins { nx:=λ_ _=>False,rt:=Q }) (λ_ _=>False) s
section
variable {X:Cx}
theorem Inv.repin {σ:L2.St}{H:Hp}{s:Shared}(pins:List (Addr×Obj))(I:Inv X pins σ H s):Inv { X with pn:=X.pn++pins } [] σ H s:=
 ⟨⟨I.ok.mod,I.ok.kind,I.ok.glob,I.ok.blt,I.ok.above,I.ok.inj,I.ok.has,I.ok.cab,I.ok.hd,I.ok.frames,I.ok.stk,I.ok.exf,I.ok.bs,I.ok.bsz,I.ok.noex,I.ok.exfs,I.ok.funs,I.ok.frf⟩,I.os,I.bare,I.base,I.loc,I.cell,I.free,I.freeC,λp hp=>I.pin p (by rw[List.append_nil]at hp;exact hp),I.hok,I.len⟩
theorem Inv.unpin {σ:L2.St}{H:Hp}{s:Shared}{pins pins1:List (Addr×Obj)}{xe:Value->Shared->Prop}(I:Inv { X with pn:=X.pn++pins,xe:=xe } pins1 σ H s):Inv X pins σ H s:=
 ⟨⟨I.ok.mod,I.ok.kind,I.ok.glob,I.ok.blt,I.ok.above,I.ok.inj,I.ok.has,I.ok.cab,I.ok.hd,I.ok.frames,I.ok.stk,I.ok.exf,I.ok.bs,I.ok.bsz,I.ok.noex,I.ok.exfs,I.ok.funs,I.ok.frf⟩,I.os,I.bare,I.base,I.loc,I.cell,I.free,I.freeC,λp hp=>I.pin p (List.mem_append_left _ hp),I.hok,I.len⟩
theorem Am {body suite:List Stmt}{b0:Stmt}{F:En->Rs Fl}{h:Str->Rs T}{ce n:Str}{CE:Addr}{bmE:List Value}{i:Nat}{np hpos pos:Pos}(hst:X.stack=X.env::X.outer)(hfe:X.env.frame=some X.env.locals)(hcl:∀x c,X.env.cells.lookup x≠some c)(hex:X.ex= [])
  (hN:X.N.Nodup) (hi:X.N[i]? =some n) (hloc:X.env.scope.names.lookup n=some .local) (hm:X.mg ce=some (.ref CE)) (OE:OX X.K CE bmE)
  (hb:∀pn xe,j8 { X with pn:=pn,xe:=xe } body F) (hs:oG X i (b0::suite) CE h) (hg:Gl X ce:=by rfl) (hd:(ce == ("__debug__" : Str))=false:=by decide) :
  mn X (.Try body [.ExceptHandler (some (.Name ce np)) (some n) (b0::suite) hpos] [] [] pos) (pw F h):=by
 intro pins s σ H D I ⟨Z,B,M,E,hq⟩;refine wpAny_Try_except ?_
 unfold pw at hq
 cases q:F Z with
 | bad=>rw[q]at hq;exact hq.elim
 | ok fl=>
  rw[q]at hq;refine wpAny_mono (hb X.pn (λ_ _=>False) pins s σ H D (I.wish _) ⟨Z,B,M,E,by rw[q];cases fl <;> exact hq⟩) (λf s1 r=> ?_) (λe s1 z=>z.elim)
  cases f with
  | next=>obtain⟨σ7,H7,I7,q7⟩:=r;exact wpAny_execs_nil ⟨σ7,H7,I7.wish _,q7⟩
  | ret u=>obtain⟨x7,σ7,H7,I7,r7,q7⟩:=r;exact⟨x7,σ7,H7,I7.wish _,r7,q7⟩
  | brk=>obtain⟨σ7,H7,I7,q7⟩:=r;exact⟨σ7,H7,I7.wish _,q7⟩
  | cont=>obtain⟨σ7,H7,I7,q7⟩:=r;exact⟨σ7,H7,I7.wish _,q7⟩
 | err c=>
  rw[q]at hq
  cases q2:h c with
  | bad=>simp only[q2]at hq;exact hq.elim
  | err c'=>simp only[q2]at hq;exact hq.elim
  | ok t=>
   simp only[q2]at hq
   have hq':∀v H',SameO M.u H H'->Rep X.K B H' t v->D.rt v H':=hq;refine wpAny_mono (hb (X.pn++pins) _ [] s σ H { nx:=λ_ _=>False,rt:=λ_ _=>False,bk:=λ_ _=>False,ct:=λ_ _=>False } ((Tr.Inv.repin pins I).wish _) ⟨Z,B,M,E,?_⟩) (λfl s' z=> ?_) λ_ _ z=>z
   rotate_left
   ·cases fl with
    | next=>obtain⟨_,_,_,z⟩:=z;exact z.elim
    | cont=>obtain⟨_,_,_,z⟩:=z;exact z.elim
    | brk=>obtain⟨_,_,_,z⟩:=z;exact z.elim
    | ret v=>obtain⟨_,_,_,_,_,z⟩:=z;exact z.elim
   rw[q];intro pins1 ev s1 w;obtain⟨e,T,C,σ1,H1,rfl,hmc,I1,sm,he,heo,fl,hT,hpp⟩:=w
   have I1:Inv X pins σ1 H1 s1:=Tr.Inv.unpin (X:=X) I1
   have hpp:∀p∈X.pn++pins,p.1≠e/\T≠some p.1:=λp hp=>hpp p (List.mem_append_left _ hp)
   have heo:=heo hex
   have hT:∀t,T=some t->H1 t=none/\X.s₀.heap.get? t=none:=λt z=>⟨(hT t z).1,(hT t z).2 hex⟩
   show wpAny _ _ _ _ _ _
   have hfr:X.A.frames=some (X.env::X.outer):=by rw[<-hst];exact I1.ok.frames
   have hstk:s1.heap.FunFrames X.base (X.env::X.outer):=by rw[<-hst];exact I1.stack
   refine CH hfr hstk hfe fl λh' T' g=> ?_
   have I2:=Inv.gone I1 hst hfe hcl hex g he heo hT hpp
   have Tn:H1 T'=none/\X.s₀.heap.get? T'=none/\∀p∈X.pn++pins,p.1≠T':=by
    rcases g.new with z | z
    ·exact⟨(hT T' z).1,(hT T' z).2,λp hp y=>(hpp p hp).2 (by rw[z,y])⟩
    ·exact⟨k8 I1 z,iP I1 hex z,λp hp y=>by have:=(I1.pin p hp).1;rw[y,z]at this;cases this⟩
   obtain⟨bm,OC,hin,run⟩:=hs c C t hmc q2;obtain⟨hTe,oe,ev,hoe,hoc,hod,h1,oT,ts,hoT,hdT,h3⟩:=g.flt
   have nfr:∀b o vs,h'.get? b=some o->o.data= .fields vs->b∉(X.env::X.outer).filterMap (·.frame):=λb o vs hb hd z=>by
    have:=I2.stack;rw[hst]at this;obtain⟨_,o',ho',hnf⟩:=this.mem z;rw[show h'.get? b=some o' from ho']at hb
    cases hb;exact hnf vs hd
   have hel:e≠X.env.locals:=λz=>nfr e oe ev hoe hod (by rw[List.filterMap_cons,hfe];exact z▸List.mem_cons_self)
   have hef:e∉X.fs:=λz=>nfr e oe ev hoe hod (by rw[List.filterMap_cons,hfe];exact List.mem_cons_of_mem _ z)
   have hcell:∀v,oe.data≠ .cell v:=λv z=>by rw[hod]at z;cases z
   have I3:Inv (rA X e oe) pins σ1 H1 { s1 with heap:=h' }:=sE I2 hoe he hel hef hcell
   refine wpAny_handleBy_cons (codeAny_handlers_test (ii (X:=rA X e oe) I3 hg hm ?_ hd)) (by intro z;cases z)
   obtain⟨nm,qq,N,bs,hdct,sn,sub,ab,col,dd,k0,k1,k2,k3,k5,mN,hC,_⟩:=OC.at_ h' I3.kIn;obtain⟨nm',qq',N',bs',hdct',sn',sub',ab',col',dd',k0',k1',k2',k3',k5',mN',hD,_,_,TD⟩:=OE.at_ h' I3.kIn;refine tW hC hD hoe hoc (TD.tail.hasType (by decide)) hin (codeAny_handlers_suite_as ?_)
   refine wpAny_setFlight_none hoe hod h1 hoT hdT (Array.getElem?_eq_some_iff.mp h3).1 ?_
   generalize hU:h'.update T' (Obj.mapFields (·.setIfInBounds 3 Value.none))=h2
   have kp:∀b,b≠T'->h2.get? b=h'.get? b:=λb hb=>by rw[<-hU];exact Heap.get?_update_other _ _ (Ne.symm hb)
   have hT2:h2.get? T'=some (Obj.mapFields (·.setIfInBounds 3 Value.none) oT):=by rw[<-hU];exact Heap.get?_update_self _ hoT (Obj.isFreed_of_fields (Obj.data_mapFields hdT _))
   have hoe2:h2.get? e=some oe:=(kp e (Ne.symm hTe)).trans hoe
   have g2:zd ((X.env::X.outer).filterMap (·.frame)) C e (some T') h' h2 T':=⟨⟨hTe,oe,ev,hoe2,hoc,hod,h1,_,_,hT2,Obj.data_mapFields hdT _,by simp[(Array.getElem?_eq_some_iff.mp h3).1]⟩,.inl rfl,λb o _ _ n3 q=>(kp b λz=>n3 (by rw[z])).trans q,λb o m q=>⟨o.slots,(kp b λz=>nfr T' oT ts hoT hdT (z▸m)).trans q⟩⟩
   have I4:Inv X pins σ1 H1 { s1 with heap:=h2 }:=Inv.gone (s:={ s1 with heap:=h' }) I2 hst hfe hcl hex g2 he heo (λt z=>by cases z;exact⟨Tn.1,Tn.2.1⟩) λp hp=>⟨(hpp p hp).1,λz=>Tn.2.2 p hp (Option.some.inj z).symm⟩
   have I5:Inv (rA X e oe) pins σ1 H1 { s1 with heap:=h2 }:=sE I4 hoe2 he hel hef hcell
   refine kF (X:=rA X e oe) (v:=.ref e) I5 hN hi (.inl hloc) rfl (λs3 I6=> ?_) (.inr hloc)
   have hil:i<σ1.length:=by
    rw[I1.len];exact(List.getElem?_eq_some_iff.mp hi).1
   refine wpAny_mono (run e oe ev hoc hod pins s3 _ H1 B (λv H'=>Same H1 H'/\Rep X.K B H' t v) I6 he (λz=> ?_) (by simp[hil]) (λp hp z=> ?_) λv H' s' r=>⟨s',r⟩) (λf s4 r=> ?_) λ_ _ z=>z.elim
   ·rw[hst]at z
    exact nfr e oe ev hoe hod z
   ·obtain⟨o,ho⟩:=(E.env.trk p (.inl z)).some
    have:=sm p o ho (λw=>E.mine p w z)
    rw[hp]at this;cases this
   ·cases f with
    | next=>obtain⟨_,_,_,z⟩:=r;exact z.elim
    | brk=>obtain⟨_,_,_,z⟩:=r;exact z.elim
    | cont=>obtain⟨_,_,_,z⟩:=r;exact z.elim
    | ret u=>
     obtain⟨v,σ',H',I7,rv,s',rt⟩:=r;obtain⟨m,hn,_⟩:=I7.loc;refine wpAny_nameGoes (show X.env.kindOf n=some .local from hloc) hn (by rw[I.ok.kind];rfl) λh8 m8 hn8 hs8=> ?_
     exact⟨v,_,H',Inv.forget (yA I.ok I7) hcl hn8 hs8,rv,hq' v H' (λb o y nn=>s' b o (sm b o y nn)) rt⟩
end
section
variable {X:Cx}{e C:Addr}{oe:Obj}{bm:List Value}
theorem BH:bootBuiltins "ValueError" =some (.type "ValueError"):=by decide+kernel
theorem AM {en:Str}{p p1 p2 pos:Pos}(hN:X.N[0]? =some en)(hv:ni X.env.scope en)(hp:(e,oe)∈X.pn)(hc:oe.cls= .ref C)(OC:OX X.K C bm)
  (hm:X.mg "isinstance" =none) (hmD:X.mg "ValueError" =none) (hg:Gl X "isinstance":=by rfl) (hgD:Gl X "ValueError":=by rfl) (hde:(en == ("__debug__" : Str))=false:=by decide) (hce:(en == ("__classdict__" : Str))=false:=by decide)
  (he:starEach [.Name en p1,.Name "ValueError" p2] X.env=(false,eval (.Name en p1) X.env)::starEach [.Name "ValueError" p2] X.env:=by rfl) (hpl:(backTo pos (starEach [.Name "ValueError" p2] X.env)).any (·.1)=false:=by rfl)
  (hs:starEach [.Name "ValueError" p2] X.env=(false,eval (.Name "ValueError" p2) X.env)::starEach [] X.env:=by rfl) :
  PE X (.Call (.Name "isinstance" p) [.Name en p1,.Name "ValueError" p2] [] pos) (tIs e true):=by
 intro pins s σ H Q I ⟨hσ,q⟩;refine wpAny_Call_Name_kw (eI I hg hm eJ ?_ (by decide) (by decide))
 have hA:PA X [.Name en p1,.Name "ValueError" p2] (fI (kE 0) (fI (tC (.ty "ValueError")) o8)):=aZ (fN hN hv hde hce) (aZ (r6 (v:=.ty "ValueError") hgD hmD BH rfl) de hs) he;refine PyProof.Rows.callWith_builtin1 (bS (hA pos pins s σ H (λvs H'=>vs= [.ref e,.ty "ValueError"]/\H'=H) I ⟨.ref e,hσ,rfl,rfl⟩) λus s1 ⟨vs,H1,I1,r1,e1,e2⟩=> ?_) he hpl
 subst e1;obtain⟨u,w',rfl,ru,rw'⟩:=oX r1;cases ru;cases rw';subst e2;exact wf hp hc OC I1 q
end
def uP:Value->Bool
 | .str _ _=>true
 | _=>false
theorem CG {K:PySem.W.Frag}{N:Addr}{ob:Value}{oe:Option Addr}{es:Array DictEntry}{n:Nat}{oz:Array (Option Value)}(r:K.lookup N=some ⟨ob,oe,.dict es n,oz⟩)(s:(es.toList.all λe=>uP e.key)=true)
  (u0:PySem.W.nsIn K N "__init__" =some none) (u1:PySem.W.nsIn K N "__getattribute__" =some none) (u2:PySem.W.nsIn K N "__getattr__" =some none) (u3:PySem.W.nsIn K N "__class__" =some none) :
  ∀h:Heap,K.In h->∃mN,h.Ns N mN/\∀n∈calmNames,mN n=none:=λh k=>by
 refine⟨nsFind es,⟨_,es,n,k _ _ r,rfl,λe he=> ?_,λ_=>rfl⟩,λx hx=> ?_⟩
 ·have:=List.all_eq_true.mp s e (by simpa using he)
  cases q:e.key <;> rw[q]at this <;> first | exact⟨_,_,rfl⟩ | cases this
 ·have key:∀x,PySem.W.nsIn K N x=some none->nsFind es x=none:=λx u=>by
   unfold PySem.W.nsIn at u;rw[r]at u;simp only at u
   split at u
   ·cases u
   ·rename_i he
    unfold nsFind findBy;rw[<-Array.find?_toList,he];rfl
  unfold calmNames at hx;simp only[List.mem_cons,List.not_mem_nil,or_false]at hx;rcases hx with rfl | rfl | rfl | rfl
  ·exact key _ u0
  ·exact key _ u1
  ·exact key _ u2
  ·exact key _ u3
section
variable {K:PySem.W.Frag}{nm q:Str}{C N:Addr}{bs:List Value}{hdct:Bool}{sn:List Str}{sub:List Value}{ab:Bool}{col:Option Bool}{dd:Option Addr}{k0 k1 k2 k3 k5:Option Value}
variable {nm' q':Str}{D N':Addr}{bs':List Value}{hdct':Bool}{sn':List Str}{sub':List Value}{ab':Bool}{col':Option Bool}{dd':Option Addr}{k0' k1' k2' k3' k5':Option Value}
theorem ye (w:K.lookup C=some (excClassObj nm q C N bs j7 hdct sn sub ab col dd k0 k1 k2 k3 k5 "ValueError.__new__"))(ns:∀h:Heap,K.In h->∃mN,h.Ns N mN/\∀n∈calmNames,mN n=none):OX K C j7:=⟨λh k=>by
 obtain⟨mN,h1,h2⟩:=ns h k;exact⟨nm,q,N,bs,hdct,sn,sub,ab,col,dd,k0,k1,k2,k3,k5,mN,k _ _ w,h1,h2,.base⟩⟩
theorem vA (w:K.lookup C=some (excClassObj nm q C N bs (.ref D::j7) hdct sn sub ab col dd k0 k1 k2 k3 k5 "ValueError.__new__"))(ns:∀h:Heap,K.In h->∃mN,h.Ns N mN/\∀n∈calmNames,mN n=none)
  (wD:K.lookup D=some (excClassObj nm' q' D N' bs' j7 hdct' sn' sub' ab' col' dd' k0' k1' k2' k3' k5' "ValueError.__new__")) (nsD:∀h:Heap,K.In h->∃mN,h.Ns N' mN/\∀n∈calmNames,mN n=none):OX K C (.ref D::j7):=⟨λh k=>by
 obtain⟨mN,h1,h2⟩:=ns h k;obtain⟨mD,d1,d2⟩:=nsD h k;exact⟨nm,q,N,bs,hdct,sn,sub,ab,col,dd,k0,k1,k2,k3,k5,mN,k _ _ w,h1,h2,.own (k _ _ wD) d1 d2 .base⟩⟩
end
theorem B3 {k:Nat}{A:Around}(h:Room k A):A.depth+3<recursionLimit:=by have:=h.dp;omega
end Tr
namespace L2
open PySem PySem.Spec PyProof.Rows
section
variable {κ:Type}[DecidableEq κ]
def gx (kvs:List (κ×V))(k:κ):Option V:=(kvs.find? λkv=>decide (kv.1=k)).map (·.2)
def ci (kvs:List (κ×V))(k:κ)(v:V):List (κ×V):=
 if (kvs.any λkv=>decide (kv.1=k))=true then kvs.map (λkv=>if kv.1=k then(kv.1,v)else kv)else kvs++ [(k,v)]
theorem uK {k:κ}:gx ([]:List (κ×V)) k=none:=rfl
theorem fo {p:κ×V}{r:List (κ×V)}{k:κ}(e:p.1=k):gx (p::r) k=some p.2:=by simp[gx,List.find?_cons,e]
theorem fq {p:κ×V}{r:List (κ×V)}{k:κ}(e:¬ p.1=k):gx (p::r) k=gx r k:=by simp[gx,List.find?_cons,e]
theorem oZ (k:κ):∀kvs:List (κ×V),(kvs.any λkv=>decide (kv.1=k))=(gx kvs k).isSome
 | [] =>rfl
 | p::r=>by
  rw[List.any_cons]
  by_cases e:p.1=k
  ·simp only[fo e,decide_eq_true e,Bool.true_or,Option.isSome_some]
  ·rw[fq e,decide_eq_false e,Bool.false_or];exact oZ k r
theorem dv (kvs:List (κ×V))(k:κ)(v:V):(ci kvs k v).length<=kvs.length+1:=by
 unfold ci;split
 ·rw[List.length_map];omega
 ·rw[List.length_append,List.length_cons,List.length_nil];omega
theorem RelO.isSome_eq {o:Option V}{u:Option Value}(r:RelO o u):o.isSome=u.isSome:=by
 cases o with
 | none=>cases u with
  | none=>rfl
  | some _=>exact(show False from r).elim
 | some _=>cases u with
  | none=>exact(show False from r).elim
  | some _=>rfl
theorem KV.val {kvs:List (κ×V)}{vs:List (κ×Value)}(r:KV kvs vs)(k:κ):RelO (gx kvs k) (valueAt vs k):=by
 unfold KV at r
 induction r with
 | nil=>exact True.intro
 | @cons p q ps qs h t ih=>
  obtain⟨h1,h2⟩:=h
  by_cases e:p.1=k
  ·have e':q.1=k:=h1.symm.trans e
   have b:valueAt (q::qs) k=some q.2:=by simp[valueAt,List.find?_cons,e']
   rw[fo e,b];exact h2
  ·have e':¬ q.1=k:=λz=>e (h1.trans z)
   have b:valueAt (q::qs) k=valueAt qs k:=by simp[valueAt,List.find?_cons,e']
   rw[fq e,b];exact ih
theorem KV.any {kvs:List (κ×V)}{vs:List (κ×Value)}(r:KV kvs vs)(k:κ):(kvs.any λkv=>decide (kv.1=k))=vs.any λkv=>decide (kv.1=k):=by
 unfold KV at r
 induction r with
 | nil=>rfl
 | cons h t ih=>rw[List.any_cons,List.any_cons,ih,h.1]
theorem KV.repl {kvs:List (κ×V)}{vs:List (κ×Value)}(r:KV kvs vs)(k:κ){y:V}{u:Value}(ry:RelV y u) :
  KV (kvs.map λkv=>if kv.1=k then(kv.1,y)else kv) (vs.map λkv=>if kv.1=k then(kv.1,u)else kv):=by
 unfold KV at r ⊢
 induction r with
 | nil=>exact .nil
 | @cons p q ps qs h t ih=>
  rw[List.map_cons,List.map_cons];refine .cons ?_ ih
  obtain⟨h1,h2⟩:=h
  by_cases e:p.1=k
  ·rw[if_pos e,if_pos (h1.symm.trans e)];exact⟨h1,ry⟩
  ·rw[if_neg e,if_neg (λz=>e (h1.trans z))];exact⟨h1,h2⟩
theorem KV.put {kvs:List (κ×V)}{vs:List (κ×Value)}(r:KV kvs vs)(k:κ){y:V}{u:Value}(ry:RelV y u):KV (ci kvs k y) (stored vs k u):=by
 unfold ci stored;rw[r.any k]
 by_cases e:(vs.any λkv=>decide (kv.1=k))=true
 ·rw[if_pos e,if_pos e];exact r.repl k ry
 ·rw[if_neg e,if_neg e];exact Paired.snoc r ⟨rfl,ry⟩
theorem KV.length {kvs:List (κ×V)}{vs:List (κ×Value)}(r:KV kvs vs):kvs.length=vs.length:=Paired.length r
end
theorem wb {P:Program}{w:World}{k:Key}{u:Value}(r:RelV (kV k) u):(ck P w).is k u=true:=by
 cases k with
 | inl i=>obtain⟨t,e⟩:=(show ∃t,u=Value.int i t from r);subst e;exact pY P w i t
 | inr x=>obtain⟨t,e⟩:=(show ∃t,u=Value.str x t from r);subst e;exact pX P w x t
theorem mS {P:Program}{w:World}:∀{ks:List Key} {us:List Value},Vals (ks.map kV) us->ItemsAre (ck P w) ks us
 | [],_,r=>by rw[List.map_nil]at r;cases r;exact .nil
 | k::ks,_,r=>by
  rw[List.map_cons]at r
  cases r with
  | cons h t=>exact .cons (wb h) (mS t)
abbrev KT (H:Hp):List (List Key×V)->List (List Key×Addr×Value)->Prop:=Paired λp q=>p.1=q.1/\H q.2.1=some (.tup (p.1.map kV))/\RelV p.2 q.2.2
theorem KT.val {H:Hp}{kvs:List (List Key×V)}{xs:List (List Key×Addr×Value)}(r:KT H kvs xs)(k:List Key):RelO (gx kvs k) ((atKey xs k).map (·.2)):=by
 induction r with
 | nil=>exact True.intro
 | @cons p q ps qs h t ih=>
  obtain⟨h1,_,h2⟩:=h
  by_cases e:p.1=k
  ·have e':q.1=k:=h1.symm.trans e
   have b:atKey (q::qs) k=some q.2:=by simp[atKey,List.find?_cons,e']
   rw[fo e,b];exact h2
  ·have e':¬ q.1=k:=λz=>e (h1.trans z)
   have b:atKey (q::qs) k=atKey qs k:=by simp[atKey,List.find?_cons,e']
   rw[fq e,b];exact ih
theorem KT.repl {H:Hp}{kvs:List (List Key×V)}{xs:List (List Key×Addr×Value)}(r:KT H kvs xs)(k:List Key){y:V}{u:Value}(ry:RelV y u) :
  KT H (kvs.map λkv=>if kv.1=k then(kv.1,y)else kv) (xs.map (putAt k u)):=by
 induction r with
 | nil=>exact .nil
 | @cons p q ps qs h t ih=>
  rw[List.map_cons,List.map_cons];refine .cons ?_ ih
  obtain⟨h1,h2,h3⟩:=h;unfold putAt
  by_cases e:p.1=k
  ·rw[if_pos e,if_pos (h1.symm.trans e)];exact⟨h1,h2,ry⟩
  ·rw[if_neg e,if_neg (λz=>e (h1.trans z))];exact⟨h1,h2,h3⟩
theorem KT.put {H:Hp}{kvs:List (List Key×V)}{xs:List (List Key×Addr×Value)}(r:KT H kvs xs)(k:List Key){b:Addr}{y:V}{u:Value}(hb:H b=some (.tup (k.map kV)))(ry:RelV y u) :
  KT H (ci kvs k y) (storedH xs k b u):=by
 have e:(kvs.any λkv=>decide (kv.1=k))=(atKey xs k).isSome:=by
  rw[oZ,(r.val k).isSome_eq,Option.isSome_map]
 unfold ci storedH;rw[e]
 by_cases q:(atKey xs k).isSome=true
 ·rw[if_pos q,if_pos q];exact r.repl k ry
 ·rw[if_neg q,if_neg q];exact Paired.snoc r ⟨rfl,hb,ry⟩
theorem KT.keeps {H H':Hp}{kvs:List (List Key×V)}{xs:List (List Key×Addr×Value)}(r:KT H kvs xs)(ht:∀b ys,H b=some (.tup ys)->H' b=some (.tup ys)):KT H' kvs xs:=
 Paired.mapP r λ_ _ z=>⟨z.1,ht _ _ z.2.1,z.2.2⟩
section
variable {P:Program}{w:World}{H:Hp}{h:Heap}{a:Addr}
theorem rQ {u:HO}(ok:HOk P w H h)(e:Rd H a u):ObjOk P w H h a u:=e.ok ok
theorem wH {kvs:List (Key×V)}(ok:HOk P w H h)(e:Rd H a (.dK kvs)):kvs.length<=sizeLine/\(a == sysModules)=false/\∃vs,KV kvs vs/\h.DictOf (ck P w) a vs:=
 show ObjOk P w H h a (.dK kvs)from rQ ok e
theorem C6 {kvs:List (Key×V)}(ok:HOk P w H h)(e:H a=some (.dK kvs)):kvs.length<=sizeLine/\(a == sysModules)=false/\∃vs,KV kvs vs/\h.DictOf (ck P w) a vs:=wH ok (.inl e)
theorem li {ks:List Key}(ok:HOk P w H h)(e:H a=some (.tup (ks.map kV))):(tupleKind (ck P w)).is h ks a:=by
 obtain⟨_,its,r,o,h1,h2,n,h3⟩:=(show ObjOk P w H h a (.tup (ks.map kV))from ok a _ e)
 exact⟨o,its.toArray,n,h1,h2,h3,by simpa using mS r⟩
theorem wG {kvs:List (List Key×V)}(ok:HOk P w H h)(e:Rd H a (.dT kvs)):kvs.length<=sizeLine/\(a == sysModules)=false ∧
  ∃xs,KT H kvs xs/\h.DictOfH (tupleKind (ck P w)) a xs:=by
 obtain⟨z,y,xs,r,o,es,ep,h1,h2,h3,h4,h5⟩:=(show ObjOk P w H h a (.dT kvs)from rQ ok e)
 refine⟨z,y,xs,r,o,es,ep,h1,h2,h3,h4,λx hx=> ?_,h5⟩
 have all:∀{l:List (List Key×V)} {m:List (List Key×Addr×Value)},KT H l m->∀x∈m,(tupleKind (ck P w)).is h x.1 x.2.1:=by
  intro l m q
  induction q with
  | nil=>intro x hx;exact nomatch hx
  | @cons p q ps qs hq t ih=>
   intro x hx;rcases List.mem_cons.mp hx with e | hx
   ·subst e
    exact li ok (by rw[<-hq.1];exact hq.2.1)
   ·exact ih x hx
 exact all r x hx
theorem sQ {kvs:List (List Key×V)}(ok:HOk P w H h)(e:H a=some (.dT kvs)):kvs.length<=sizeLine/\(a == sysModules)=false ∧
  ∃xs,KT H kvs xs/\h.DictOfH (tupleKind (ck P w)) a xs:=wG ok (.inl e)
end
def DGet (H:Hp)(a:Addr)(y:V)(r:Option V):Prop:=
 (∃kvs k,Rd H a (.dK kvs)/\y=kV k/\r=gx kvs k)\/∃kvs k b,Rd H a (.dT kvs)/\y= .ref b/\H b=some (.tup (k.map kV))/\r=gx kvs k
def DPut (H:Hp)(a:Addr)(y v:V)(H':Hp):Prop:=
 (∃kvs k,H a=some (.dK kvs)/\y=kV k/\kvs.length<sizeLine/\H'=upd H a (.dK (ci kvs k v))) ∨
 ∃kvs k b,H a=some (.dT kvs)/\y= .ref b/\H b=some (.tup (k.map kV))/\kvs.length<sizeLine/\H'=upd H a (.dT (ci kvs k v))
theorem DGet.t {H:Hp}{a b:Addr}{kvs:List (List Key×V)}{k:List Key}(e:H a=some (.dT kvs))(eb:H b=some (.tup (k.map kV))):DGet H a (.ref b) (gx kvs k):=.inr ⟨kvs,k,b,.inl e,rfl,eb,rfl⟩
theorem DPut.t {H:Hp}{a b:Addr}{kvs:List (List Key×V)}{k:List Key}{v:V}(e:H a=some (.dT kvs))(eb:H b=some (.tup (k.map kV)))(hl:kvs.length<sizeLine) :
  DPut H a (.ref b) v (upd H a (.dT (ci kvs k v))):=.inr ⟨kvs,k,b,e,rfl,eb,hl,rfl⟩
section
variable {X:Cx}{pins:List (Addr×Obj)}{σ:St}{H:Hp}{s:Shared}{a:Addr}{y v:V}{u r:Value}{o:Option V}{A:Around}{E:Value->Shared->Prop}
theorem Inv.big (I:Inv X pins σ H s):sysModules<s.heap.objs.size:=by
 have h:mainGlobals<s.heap.objs.size:=(I.mod.glob.keeps I.bk).lt;exact Nat.lt_trans (by decide) h
theorem uk {Q:Value->Shared->Prop}(hu:A.units+1<cLine)(I:Inv X pins σ H s)(g:DGet H a y (some v))(ry:RelV y u)(h:∀w' s',Inv X pins σ H s'->RelV v w'->Q w' s') :
  wpAny (model X.prog X.w) A (getItem (.ref a) u) Q E s:=by
 rcases g with⟨kvs,k,e,ey,l⟩ | ⟨kvs,k,b,e,ey,eb,l⟩
 ·subst ey
  obtain⟨z,hd,vs,rel,dd⟩:=wH I.hok e;obtain⟨w',hw,rw'⟩:=RelO.some_of (v:=v) (o:=valueAt vs k) (by rw[l];exact rel.val k)
  exact wpAny_getItem_of (wb ry) dd.mapOf hw (h w' _ (I.tok _) rw')
 ·subst ey
  cases (show u=Value.ref b from ry)
  obtain⟨z,hd,xs,rel,dd⟩:=wG I.hok e;obtain⟨w',hw,rw'⟩:=RelO.some_of (v:=v) (o:=(atKey xs k).map (·.2)) (by rw[l];exact rel.val k)
  obtain⟨p,hp,hp2⟩:=Option.map_eq_some_iff.mp hw;refine wpAny_getItem_heap (tupleKind_room_in1 hu) (li I.hok eb) dd hp ?_
  rw[hp2];exact h w' _ (I.tok _) rw'
theorem jq {h':Heap}{t':Nat}{ob:HO}(I:Inv X pins σ H s)(mu:Dc (H a))(hs:Heap.SameBut a s.heap h')(he:∃q,h'.get? a=some q)(new:ObjOk X.prog X.w (upd H a ob) h' a ob) :
  Inv X pins σ (upd H a ob) { s with heap:=h',toks:=t' }:=
 I.write (x:=a) (e:=a) mu (.inl rfl) (λb q hb z=>(hs.2 b hb).trans z) he new
theorem BB {P:Program}{w:World}{H':Hp}{h':Heap}{kvs:List (Key×V)}{vs:List (Key×Value)}(z:kvs.length<=sizeLine)(hd:(a == sysModules)=false)(rel:KV kvs vs)(dd:h'.DictOf (ck P w) a vs) :
  ObjOk P w H' h' a (.dK kvs):=⟨z,hd,vs,rel,dd⟩
theorem uj {H':Hp}{Q:Unit->Shared->Prop}(hu:A.units+1<cLine)(I:Inv X pins σ H s)(g:DPut H a y v H')(ry:RelV y u)(rv:RelV v r)(h:∀s',Inv X pins σ H' s'->Q () s') :
  wpAny (model X.prog X.w) A (setItem (.ref a) u r) Q E s:=by
 rcases g with⟨kvs,k,e,ey,l,eH⟩ | ⟨kvs,k,b,e,ey,eb,l,eH⟩
 ·subst ey eH
  obtain⟨z,hd,vs,rel,dd⟩:=C6 I.hok e
  have hz:vs.length<=sizeLine:=by rw[<-rel.length];exact z
  have hl:(ci kvs k v).length<=sizeLine:=by have:=dv kvs k v;omega
  refine wpAny_setItem_pairs (hsz:=hz) (wb ry) dd λh' dd' hs=>h _ ?_
  have he:∃q,h'.get? a=some q:=let ⟨q,_,_,hq,_⟩:=dd';⟨q,hq⟩
  exact jq I (by rw[e];exact True.intro) hs he (BB hl hd (rel.put k rv) dd')
 ·subst ey eH
  cases (show u=Value.ref b from ry)
  obtain⟨z,hd,xs,rel,dd⟩:=sQ I.hok e
  have hz:xs.length<=sizeLine:=by rw[<-Paired.length rel];exact z
  have hl:(ci kvs k v).length<=sizeLine:=by have:=dv kvs k v;omega
  refine wpAny_setItem_heap (hsz:=hz) (tupleKind_room_in1 hu) (li I.hok eb) dd λh' dd' hs=>h _ ?_
  obtain⟨q,es,ep,hq,h2,h3,h4,_,h5⟩:=dd';refine jq I (by rw[e];exact True.intro) hs ⟨q,hq⟩ ⟨hl,hd,_,(rel.put k eb rv).keeps λc ys ec=> ?_,q,es,ep,hq,h2,h3,h4,h5⟩
  rw[ar (gO ec e (λz=>nomatch z))]
  exact ec
end
def uw (i:Expr):Prop:=∀ov iv,subscripted i false ov iv=operate [ov,iv] (getItem ov iv)
theorem xt {prog:Program}{w:World}{A:Around}{E:Value->Shared->Prop}{s:Shared}{env:Env}{value slice:Expr}{pos:Pos}{T id:String}{Q:Value->Shared->Prop}
  (hl:typeLookup (.type T) "__getitem__" =pure (some (.builtin id))) (hs:uw slice)
  (h:wpAny (model prog w) A (eval value env) (λo s₁=>wpAny (model prog w) A (eval slice env) (λi s₂=>s₂.TypeIs o T/\wpAny (model prog w) A (getItem o i) Q E s₂) E s₁) E s) :
  wpAny (model prog w) A (eval (.Subscript value slice pos) env) Q E s:=by
 refine Subscript_ (wpAny_mono h (λo s₁ h₁=>wpAny_mono h₁ (λi s₂ h₂=> ?_) λ_ _ x=>x) λ_ _ x=>x)
 obtain⟨hT,h₂⟩:=h₂;unfold subscriptTail;refine wpAny_bind ?_
 rw[getitemInPython_of_ne hT.not_modules];refine wpAny_bind (wpAny_specialOf hT hl ?_)
 have fin:wpAny (model prog w) A (subscripted slice false o i) (λr s₃=>wpAny (model prog w) A (letTemporaryGo value o r >>= λ_=>pure r) Q E s₃) E s₂:=by
  rw[hs o i];exact wpAny_operating (wpAny_mono h₂ (λr s₃ h₃=>wpAny_bind (wpAny_letTemporaryGo (wpAny_pure h₃))) λ_ _ x=>x)
 first
  | exact wpAny_pure (wpAny_bind fin)
  | exact wpAny_bind (wpAny_pure (wpAny_bind fin))
  | exact wpAny_bind fin
theorem qo {X:Cx}{pins:List (Addr×Obj)}{σ:St}{H:Hp}{s:Shared}{a:Addr}{y:V}{o:Option V}(I:Inv X pins σ H s)(g:DGet H a y o):s.TypeIs (.ref a) "dict":=by
 rcases g with⟨kvs,k,e,_,_⟩ | ⟨kvs,k,b,e,_,_,_⟩
 ·obtain⟨_,_,vs,_,dd⟩:=wH I.hok e
  exact dd.typeIs
 ·obtain⟨_,_,xs,_,dd⟩:=wG I.hok e
  exact dd.typeIs
def BX (td ty:TE):TE:=λσ H Q=>td σ H λx H1=>ty σ H1 λy H2=> ∃a v,x= .ref a/\DGet H2 a y (some v)/\Q v H2
def B1 (td ty tv:TE):TS:=λD σ H=>tv σ H λv H1=>td σ H1 λx H2=>ty σ H2 λy H3=> ∃a H4,x= .ref a/\DPut H3 a y v H4/\D.nx σ H4
section
variable {X:Cx}{o i e value:Expr}{pos pos' tpos:Pos}{td ty tv:TE}
theorem rX (hu:X.A.units+1<cLine)(ho:PE X o td)(hi:PE X i ty)(hs:uw i):PE X (.Subscript o i pos) (BX td ty):=by
 intro pins s σ H Q I h;refine xt PySem.F.slot_dict_getitem.lookup hs (bS (ho pins s σ H _ I h) λu s1 ⟨x,H1,I1,rx,q1⟩=>bS (hi pins s1 σ H1 _ I1 q1) λiv s2 hh_=> ?_)
 obtain⟨y,H2,I2,ry,a,v,ex,g,q2⟩:=hh_;subst ex;obtain rfl:u=Value.ref a:=rx;exact⟨qo I2 g,uk hu I2 g ry λw' s3 I3 rw'=>⟨v,H2,I3,rw',q2⟩⟩
theorem rV (hu:X.A.units+1<cLine)(ho:PE X o td)(hi:PE X i ty)(hv:PE X value tv)(hs:swapsWith value (some (.Subscript o i pos')) pos.line X.env=pure false) :
  PS X (.Assign [.Subscript o i pos'] value pos) (B1 td ty tv):=by
 intro pins s σ H D I h;refine wpAny_Assign_Subscript (bS (hv pins s σ H _ I h) λr s1 ⟨v,H1,I1,rv,q1⟩=>bS (ho pins s1 σ H1 _ I1 q1) λu s2 ⟨x,H2,I2,rx,q2⟩=>bS (hi pins s2 σ H2 _ I2 q2) λiv s3 ⟨y,H3,I3,ry,a,H4,ex,g,q3⟩=> ?_) hs
 subst ex;obtain rfl:u=Value.ref a:=rx;exact uj hu I3 g ry rv λs4 I4=>⟨σ,H4,I4,q3⟩
end
theorem lz {P:Program}{w:World}{H:Hp}(h:Heap)(hb:sysModules<h.objs.size):ObjOk P w H (h.push { cls:=.type "dict",data:=.dict #[] }) h.objs.size (.dT []):=
 ⟨Nat.zero_le _,beq_eq_false_iff_ne.mpr (Ne.symm (Nat.ne_of_lt hb)),[],.nil,_,#[],0,Heap.get?_push_size _ rfl,⟨rfl,rfl,rfl⟩,rfl,rfl,List.nodup_nil⟩
structure M2 (X:Cx)(o:Expr)(m:Str)(apos:Pos)(e f:Expr)(cpos:Pos):Prop where
 base:attributeBase o m X.env (eval o X.env)=eval o X.env
 few:((backTo cpos (starEach [e,f] X.env)).all (λx=> !x.1)&&(backToKw cpos (keywordEach [] X.env)).all (λx=>x.1.isSome)
  &&decide (([e,f]:List Expr).length+([]:List Keyword).length+(if ([]:List Keyword).isEmpty then 0 else 1)<30))=true
 line:(apos.endLine == cpos.line)=true
 trees:backTo cpos (starEach [e,f] X.env)= [(false,eval e X.env),(false,eval f X.env)]
end L2
namespace Tr
open PySem PySem.Spec PyProof.Rows L2
theorem DGet.inrR {H:Hp}{a b:Addr}{kvs:List (List Key×V)}{k:List Key}(e:Rd H a (.dT kvs))(eb:H b=some (.tup (k.map kV))):DGet H a (.ref b) (gx kvs k):=.inr ⟨kvs,k,b,e,rfl,eb,rfl⟩
theorem gz {k:Nat}{A:Around}(h:Room k A):A.units+1<cLine:=by have:=h.un;omega
theorem lj {K:PySem.W.Frag}{O:Ow}{H:Hp}:∀{l:List T} {vs:List V} {k:List Key},iV l=some k->Reps K O H l vs->vs=k.map kV
 | [],vs,k,h,r=>by cases Reps.nil_iff.mp r;cases h;rfl
 | t::l,vs,k,h,r=>by
  obtain⟨v,ws,rfl,p,q⟩:=Reps.cons_iff.mp r;unfold iV at h
  cases e1:zA t with
  | none=>rw[e1]at h;cases h
  | some a=>
   cases e2:iV l with
   | none=>rw[e1,e2]at h;cases h
   | some b=>
    rw[e1,e2]at h;cases h;rw[lj e2 q,List.map_cons]
    congr 1
    cases t with
    | int i=>cases e1;exact Rep.int_iff.mp p
    | str x=>cases e1;exact Rep.str_iff.mp p
    | _=>cases e1
theorem ij {K:PySem.W.Frag}{O:Ow}{H:Hp}{y:T}{v:V}{k:List Key}(h:aN y=some k)(r:Rep K O H y v):∃b,v= .ref b/\H b=some (.tup (k.map kV)):=by
 cases y with
 | tup l=>
  obtain⟨a,vs,e1,_,e3,e4⟩:=Rep.tup_iff.mp r;rw[lj h e4]at e3
  exact⟨a,e1,e3⟩
 | _=>cases h
theorem qr {K:PySem.W.Frag}{O:Ow}{H:Hp}{k:List Key}:∀{ks ts:List T} {kvs:List (List Key×V)},ks.map aN=kvs.map (λp=>some p.1)->Reps K O H ts (kvs.map (·.2))->match mj ks ts k with
  | some t=> ∃v,gx kvs k=some v/\Rep K O H t v
  | none=>gx kvs k=none
 | [],ts,kvs,h,r=>by
  cases kvs with
  | nil=>unfold mj;exact uK
  | cons _ _=>cases h
 | k'::ks,ts,kvs,h,r=>by
  cases kvs with
  | nil=>cases h
  | cons p kvs=>
   rw[List.map_cons,List.map_cons]at h;injection h with h1 h2
   rw[List.map_cons]at r
   cases ts with
   | nil=>have:=Reps.nil_iff.mp r;cases this
   | cons t ts=>
    obtain⟨v,ws,e,q1,q2⟩:=Reps.cons_iff.mp r;injection e with e1 e2
    subst e1 e2;unfold mj
    by_cases hk:aN k'=some k
    ·rw[if_pos hk]
     rw[h1]at hk;injection hk with hk
     exact⟨_,fo hk,q1⟩
    ·rw[if_neg hk]
     have hk2:¬ p.1=k:=λz=>hk (by rw[h1,z])
     rw[fq hk2];exact qr h2 q2
theorem nK {κ:Type}[DecidableEq κ]{k:κ}{p:κ×V}{r:List (κ×V)}{v:V}(h:¬ p.1=k):ci (p::r) k v=p::ci r k v:=by
 unfold ci;rw[List.any_cons,decide_eq_false h,Bool.false_or]
 by_cases q:(r.any λkv=>decide (kv.1=k))=true
 ·rw[if_pos q,if_pos q,List.map_cons,if_neg h]
 ·rw[if_neg q,if_neg q];rfl
theorem nL {κ:Type}[DecidableEq κ]{k:κ}{p:κ×V}{r:List (κ×V)}{v:V}(h:p.1=k)(hn:∀q∈r,q.1≠k):ci (p::r) k v=(p.1,v)::r:=by
 unfold ci;rw[List.any_cons,decide_eq_true h,Bool.true_or,if_pos rfl,List.map_cons,if_pos h]
 congr 1
 conv=>rhs;rw[<-List.map_id r]
 exact List.map_congr_left λq hq=>if_neg (hn q hq)
theorem jp {K:PySem.W.Frag}{O:Ow}{H:Hp}{kT vT:T}{k:List Key}{v:V}(hk:aN kT=some k)(hv:Rep K O H vT v):∀{ks ts:List T} {kvs:List (List Key×V)},ks.map aN=kvs.map (λp=>some p.1)->Reps K O H ts (kvs.map (·.2))->(kvs.map (·.1)).Nodup →
  (fH kT vT ks ts).1.map aN=(ci kvs k v).map (λp=>some p.1)/\Reps K O H (fH kT vT ks ts).2 ((ci kvs k v).map (·.2))
 | [],ts,kvs,h,r,_=>by
  cases kvs with
  | nil=>
   unfold fH;refine⟨?_,Reps.cons_ hv Reps.nil_⟩
   simp[ci,hk]
  | cons _ _=>cases h
 | k'::ks,ts,kvs,h,r,hn=>by
  cases kvs with
  | nil=>cases h
  | cons p kvs=>
   rw[List.map_cons,List.map_cons]at h;injection h with h1 h2
   rw[List.map_cons]at r;rw[List.map_cons]at hn;obtain⟨n1,n2⟩:=List.nodup_cons.mp hn
   cases ts with
   | nil=>have:=Reps.nil_iff.mp r;cases this
   | cons t ts=>
    obtain⟨v',ws,e,q1,q2⟩:=Reps.cons_iff.mp r;injection e with e1 e2
    subst e1 e2;unfold fH
    by_cases hz:aN k'=aN kT
    ·rw[if_pos hz]
     have hp:p.1=k:=by rw[hz,hk]at h1;injection h1 with h1;exact h1.symm
     rw[nL hp λq hq z=>n1 (by rw[hp,<-z];exact List.mem_map_of_mem hq)]
     exact⟨by rw[List.map_cons,List.map_cons,h1,h2],Reps.cons_ hv q2⟩
    ·rw[if_neg hz]
     have hp:¬ p.1=k:=λz=>hz (by rw[h1,z,hk])
     obtain⟨a1,a2⟩:=jp hk hv h2 q2 n2;rw[nK hp];exact⟨by rw[List.map_cons,List.map_cons,h1,a1],Reps.cons_ q1 a2⟩
theorem zc {H:Hp}{kvs:List (List Key×V)}{xs:List (List Key×Addr×Value)}(rel:KT H kvs xs):kvs.map (·.1)=xs.map (·.1):=by
 induction rel with
 | nil=>rfl
 | cons h t ih=>rw[List.map_cons,List.map_cons,ih,h.1]
theorem qv {X:Cx}{pins:List (Addr×Obj)}{σ:L2.St}{H:Hp}{s:Shared}{a:Addr}{kvs:List (List Key×V)}(I:Inv X pins σ H s)(e:H a=some (.dT kvs)):(kvs.map (·.1)).Nodup/\kvs.length<=sizeLine:=by
 obtain⟨z,_,xs,rel,_,_,_,_,_,_,_,_,hn⟩:=sQ I.hok e;rw[zc rel];exact⟨hn,z⟩
section
variable {X:Cx}{a b:Expr}{fa fb:En->Rs T}{pos:Pos}
theorem Co (hu:X.A.units+1<cLine)(ha:cq X a fa)(hb:cq X b fb)(hs:uw b:=by intro _ _;rfl):cq X (.Subscript a b pos) (o2 aI fa fb):=by
 refine PE.imp (rX hu ha hb hs) λσ H Q ⟨Z,O,E,hq⟩=> ?_
 obtain⟨Z1,O1,E1,h1⟩:=bc E hq;refine⟨Z1,O1,E1,Post.mono h1 λt H1 s1 q v r=> ?_⟩
 obtain⟨t',r',s',E',q'⟩:=q v r;obtain⟨Z2,O2,E2,h2⟩:=bc (f:=fb) E' q';refine⟨Z2,O2,E2,Post.mono h2 λt2 H2 s2 q2 v2 r2=> ?_⟩
 obtain⟨t2',r2',s2',E2',q2'⟩:=q2 v2 r2
 have r'':=r'.same s2';unfold aI at q2'
 split at q2'
 ·rename_i ks vs k hk
  split at q2'
  ·rename_i x hx
   obtain⟨a,kvs,e1,e2,e3,e4,e5⟩:=Rep.dct_iff.mp r'';obtain⟨b,f1,f2⟩:=ij hk r2'
   have g:=qr (k:=k) e4 e5;rw[hx]at g;obtain⟨w,g1,g2⟩:=g;exact⟨a,w,e1,by rw[f1,<-g1];exact DGet.inrR e3 f2,q2' H2 (Same.refl H2) w g2⟩
  ·exact q2'.elim
 ·exact q2'.elim
end
section
variable {X:Cx}{a b c:Expr}{fa fb fc:En->Rs T}{pos p2 p3 p4:Pos}{x:Str}
def z8 (X:Cx):TE:=λ_ H Q=> ∀p,Nw X.K H p->Q (.ref p) (upd H p (.dT []))
theorem vp:PE X (.Dict [] [] pos) (z8 X):=λpins s σ H Q I h=>by
 have hk:X.K.lookup s.heap.objs.size=none:=by
  cases q:X.K.lookup s.heap.objs.size with
  | none=>rfl
  | some o=>exact absurd (Heap.lt_size (I.kIn _ o q)) (Nat.lt_irrefl _)
 exact wpAny_Dict_empty ⟨.ref s.heap.objs.size,_,I.laid (a:=s.heap.objs.size) (o:=.dT []) (t':=s.toks) (λ_ _ q=>Heap.get?_push_of_some _ q) (Nat.le_refl _) (lz s.heap I.big),rfl,h _ ⟨I.hok.fresh (Nat.le_refl _),hk⟩⟩
theorem u6 (i:Nat)(hN:X.N.Nodup)(hi:X.N[i]? =some x:=by rfl)(hx:Loc X.env.scope x:=by first | exact Or.inl rfl | exact Or.inr rfl)(hs:swapsWith (.Dict [] [] p2) (some (.Name x p3)) pos.line X.env=pure false:=by rfl)
  (hf:X.fn x=true\/X.env.scope.names.lookup x=some .local:=by first | exact .inl rfl | exact .inr rfl | assumption):mn X (.Assign [.Name x p3] (.Dict [] [] p2) pos) (nH i):=PS.imp (kP hN hi hx vp hs hf) λD σ H hh_=>by
 obtain⟨Z,B,M,E,h⟩:=hh_;unfold nH at h;intro p hp
 by_cases hl:i<Z.length
 ·rw[if_pos hl]at h
  have hm:∀a,a=p->Nw X.K H a:=λa z=>z▸hp
  obtain⟨E2,sub⟩:=E.new (m:=λa=>a=p) (o:=.dct [] []) (v:=.ref p) (H':=upd H p (.dT [])) hl hm (aM hp.1 _) ⟨p,[],rfl,λb=>Iff.rfl,aw,rfl,Reps.nil_⟩
  exact h _ _ _ (SameO.of (aM hp.1 _)) E2 sub
 ·rw[if_neg hl]at h
  exact h.elim
theorem Ao (i:Nat)(hu:X.A.units+1<cLine)(hb:cq X b fb)(hc:cq X c fc)(hN:X.N[i]? =some x:=by rfl)(hv:ni X.env.scope x:=by first | exact Or.inl rfl | exact Or.inr (Or.inl rfl) | exact Or.inr (Or.inr rfl))
  (hd:(x == ("__debug__" : Str))=false:=by decide) (hcd:(x == ("__classdict__" : Str))=false:=by decide)
  (hs:swapsWith c (some (.Subscript (.Name x p2) b p3)) pos.line X.env=pure false:=by rfl):mn X (.Assign [.Subscript (.Name x p2) b p3] c pos) (qN i fb fc):=by
 intro pins s σ H D I ⟨Z,B,M,E,h⟩;refine rV hu (fN hN hv hd hcd) hb hc hs pins s σ H D I ?_
 unfold qN at h
 split at h
 ·rename_i ks vs hl
  obtain⟨v0,e1,d,kvs,rfl,hM,e3,e4,e5⟩:=E.env.own i _ hl;obtain⟨nd,nz⟩:=qv I e3;refine⟨Z,OO B M,E.o,?_⟩
  cases q:fc Z with
  | bad=>rw[q]at h;exact h.elim
  | err c=>rw[q]at h;exact PostF.xa h
  | ok vT=>
   rw[q,ay]at h;intro H1 s1 v r;refine⟨.ref d,e1,Z,OO B M,(E.same s1).o,?_⟩
   have h1:=h.later (SameO.of s1) (P1:=M.u) λa z=> .inl z
   cases q2:fb Z with
   | bad=>rw[q2]at h1;exact h1.elim
   | err c=>rw[q2]at h1;exact PostF.xa h1
   | ok kT=>
    rw[q2,ay]at h1;intro H2 s2 y ry
    cases q3:aN kT with
    | none=>rw[q3]at h1;exact h1.elim
    | some k=>
     rw[q3]at h1
     have h2:=h1.later (SameO.of s2) (P1:=M.u) λa z=> .inl z
     have hlen:ks.length=kvs.length:=by have:=congrArg List.length e4;simpa using this
     by_cases hz:ks.length<1000
     ·simp only[if_pos hz]at h2
      obtain⟨kb,f1,f2⟩:=ij q3 ry
      have e3':=s2 _ _ (s1 _ _ e3);obtain⟨g1,g2⟩:=jp q3 (r.same s2) e4 ((e5.same s1).same s2) nd;refine⟨d,upd H2 d (.dT (ci kvs k v)),rfl,by rw[f1];exact DPut.t e3' f2 (by rw[sizeLine_eq];omega),?_⟩
      have sm:SameO (M i) H2 (upd H2 d (.dT (ci kvs k v))):=λc u e nb=>by rw[ar (λz=>nb ((hM c).mpr z))];exact e
      obtain⟨g3,g4⟩:=((E.same s1).same s2).put (o':=.dct (fH kT vT ks vs).1 (fH kT vT ks vs).2) hl e1 sm ⟨d,_,rfl,hM,aw,g1,g2.move (P:=M i) (λa z=> .inl (.inr ⟨i,z⟩)) (λa z=> .inl z) sm⟩
      exact h2 σ _ M g4 g3 λc z=> .inl z
     ·simp only[if_neg hz]at h2
      exact h2.elim
 ·exact h.elim
theorem oY {k:List Key}:∀{kvs:List (List Key×V)} {as:List Addr} {v:V},kvs.map (·.2)=as.map V.ref->gx kvs k=some v->∃b∈as,v= .ref b
 | [],as,v,_,h=>by cases h
 | p::kvs,as,v,e,h=>by
  cases as with
  | nil=>cases e
  | cons b0 bs=>
   rw[List.map_cons,List.map_cons]at e;injection e with e1 e2
   by_cases hk:p.1=k
   ·rw[fo hk]at h
    cases h;exact⟨b0,List.mem_cons_self,e1⟩
   ·rw[fq hk]at h
    obtain⟨b,hb,e⟩:=oY e2 h;exact⟨b,List.mem_cons_of_mem _ hb,e⟩
theorem pE {K:PySem.W.Frag}{O:Ow}{H:Hp}{k:List Key}{r:List T×List T}:∀{ks:List T} {rows:List (List T×List T)} {kvs:List (List Key×V)} {as:List Addr},ks.map aN=kvs.map (λp=>some p.1)->kvs.map (·.2)=as.map V.ref->RowsR K O H rows as->lY ks rows k=some r →
  ∃b kv,gx kvs k=some (.ref b)/\b∈as/\H b=some (.dT kv)/\r.1.map aN=kv.map (λp=>some p.1)/\Reps K O H r.2 (kv.map (·.2))
 | [],rows,kvs,as,h1,h2,h3,h=>by unfold lY at h;cases h
 | k'::ks,rows,kvs,as,h1,h2,h3,h=>by
  cases rows with
  | nil=>unfold lY at h;cases h
  | cons r0 rows=>
   cases kvs with
   | nil=>cases h1
   | cons p kvs=>
    rw[List.map_cons,List.map_cons]at h1;injection h1 with h1 h1'
    obtain⟨b0,bs,kv0,rfl,e2,e3,e4,e5⟩:=h3;rw[List.map_cons,List.map_cons]at h2;injection h2 with h2 h2'
    unfold lY at h
    by_cases hk:aN k'=some k
    ·rw[if_pos hk]at h
     cases h;rw[h1]at hk;injection hk with hk
     exact⟨b0,kv0,by rw[fo hk,h2],List.mem_cons_self,e2,e3,e4⟩
    ·rw[if_neg hk]at h
     have hk2:¬ p.1=k:=λz=>hk (by rw[h1,z])
     obtain⟨b,kv,g1,g2,g3⟩:=pE h1' h2' e5 h;exact⟨b,kv,by rw[fq hk2];exact g1,List.mem_cons_of_mem _ g2,g3⟩
theorem pz {K:PySem.W.Frag}{O:Ow}{H H':Hp}{k:List Key}{xr:List T×List T}{b:Addr}{kv':List (List Key×V)}(hO:O b)(hS:SameO (λc=>c=b) H H')(hb:H' b=some (.dT kv'))(hx1:xr.1.map aN=kv'.map (λp=>some p.1))(hx2:Reps K O H' xr.2 (kv'.map (·.2))) :
  ∀{ks:List T} {rows:List (List T×List T)} {kvs:List (List Key×V)} {as:List Addr},ks.map aN=kvs.map (λp=>some p.1)->kvs.map (·.2)=as.map V.ref->RowsR K O H rows as->as.Nodup->gx kvs k=some (.ref b)->RowsR K O H' (lX k xr ks rows) as
 | [],rows,kvs,as,h1,h2,h3,hn,h=>by
  cases kvs with
  | nil=>cases h
  | cons _ _=>cases h1
 | k'::ks,rows,kvs,as,h1,h2,h3,hn,h=>by
  have inO:∀a,a=b->O a\/Nw K H a:=λa z=> .inl (z▸hO)
  cases kvs with
  | nil=>cases h1
  | cons p kvs=>
   rw[List.map_cons,List.map_cons]at h1;injection h1 with h1 h1'
   cases rows with
   | nil=>unfold RowsR at h3;subst h3;cases h2
   | cons r0 rows=>
    obtain⟨b0,bs,kv0,rfl,e2,e3,e4,e5⟩:=h3;rw[List.map_cons,List.map_cons]at h2;injection h2 with h2 h2'
    obtain⟨n1,n2⟩:=List.nodup_cons.mp hn;unfold lX
    by_cases hk:aN k'=some k
    ·rw[if_pos hk]
     rw[h1]at hk;injection hk with hk
     rw[fo hk,h2]at h;cases h;exact⟨b,bs,kv',rfl,hb,hx1,hx2,e5.move (P:=λc=>c=b) inO (λa z=> .inl z) hS λc hc z=>n1 (z▸hc)⟩
    ·rw[if_neg hk]
     have hk2:¬ p.1=k:=λz=>hk (by rw[h1,z])
     rw[fq hk2]at h;obtain⟨b',hb',e'⟩:=oY h2' h;cases e'
     have hne:b0≠b:=λz=>n1 (z▸hb')
     exact⟨b0,bs,kv0,rfl,hS _ _ e2 hne,e3,e4.move (P:=λc=>c=b) inO (λa z=> .inl z) hS,pz hO hS hb hx1 hx2 h1' h2' e5 n2 h⟩
theorem xH (i:Nat)(hu:X.A.units+1<cLine)(ha:cq X a fa)(hb:cq X b fb)(hc:cq X c fc)(hsl:uw a:=by intro _ _;rfl)(hN:X.N[i]? =some x:=by rfl)(hv:ni X.env.scope x:=by first | exact Or.inl rfl | exact Or.inr (Or.inl rfl) | exact Or.inr (Or.inr rfl))
  (hd:(x == ("__debug__" : Str))=false:=by decide) (hcd:(x == ("__classdict__" : Str))=false:=by decide)
  (hs:swapsWith c (some (.Subscript (.Subscript (.Name x p2) a p3) b p4)) pos.line X.env=pure false:=by rfl):mn X (.Assign [.Subscript (.Subscript (.Name x p2) a p3) b p4] c pos) (gv i fa fb fc):=by
 intro pins s σ H D I ⟨Z,B,M,E,h⟩;refine rV hu (rX hu (fN hN hv hd hcd) ha hsl) hb hc hs pins s σ H D I ?_
 unfold gv at h
 split at h
 ·rename_i ks rows hl
  obtain⟨v0,e1,d,kvs,as,rfl,hM,na,nas,e5,e6,e7,e8⟩:=E.env.own i _ hl;refine⟨Z,OO B M,E.o,?_⟩
  cases q:fc Z with
  | bad=>rw[q]at h;exact h.elim
  | err c=>rw[q]at h;exact PostF.xa h
  | ok vT=>
   rw[q,ay]at h;intro H1 s1 v r;refine⟨.ref d,e1,Z,OO B M,(E.same s1).o,?_⟩
   have h1:=h.later (SameO.of s1) (P1:=M.u) λa z=> .inl z
   cases q2:fa Z with
   | bad=>rw[q2]at h1;exact h1.elim
   | err c=>rw[q2]at h1;exact PostF.xa h1
   | ok aT=>
    rw[q2,ay]at h1;intro H2 s2 y ry
    have h2:=h1.later (SameO.of s2) (P1:=M.u) λa z=> .inl z
    have E2:=(E.same s1).same s2
    have s12:=s1.trans s2
    split at h2
    ·rename_i ka rr hk
     obtain⟨ka',q3,hk⟩:=Option.bind_eq_some_iff.mp hk;obtain⟨r',q4,hk⟩:=Option.map_eq_some_iff.mp hk;cases hk;obtain⟨rb,kv,g1,g2,g3,g4,g5⟩:=pE e6 e7 e8 q4;obtain⟨ndr,nzr⟩:=qv I g3;obtain⟨ab,f1,f2⟩:=ij q3 ry;refine⟨d,.ref rb,rfl,by rw[f1,<-g1];exact DGet.t (s12 _ _ e5) f2,Z,OO B M,E2.o,?_⟩
     cases q5:fb Z with
     | bad=>rw[q5]at h2;exact h2.elim
     | err c=>rw[q5]at h2;exact PostF.xa h2
     | ok bT=>
      rw[q5,ay]at h2;intro H3 s3 y2 ry2
      have h3:=h2.later (SameO.of s3) (P1:=M.u) λa z=> .inl z
      have s13:=s12.trans s3
      have E3:=E2.same s3
      have hlen:rr.1.length=kv.length:=by have:=congrArg List.length g4;simpa using this
      by_cases hz:(aN bT).isSome=true/\rr.1.length<1000
      ·rw[if_pos hz]at h3
       obtain⟨kb,q6⟩:=Option.isSome_iff_exists.mp hz.1;obtain⟨bb,f3,f4⟩:=ij q6 ry2;obtain⟨u1,u2⟩:=jp q6 ((r.same s2).same s3) g4 (g5.same s13) ndr;refine⟨rb,upd H3 rb (.dT (ci kv kb v)),rfl,by rw[f3];exact DPut.t (s13 _ _ g3) f4 (by rw[sizeLine_eq];omega),?_⟩
       have mrb:M i rb:=(hM rb).mpr (.inr g2)
       have hOb:OO B M rb:=.inr ⟨i,mrb⟩
       have sm1:SameO (λc=>c=rb) H3 (upd H3 rb (.dT (ci kv kb v))):=λc u e nb=>by rw[ar nb];exact e
       have sm:SameO (M i) H3 (upd H3 rb (.dT (ci kv kb v))):=λc u e nb=>sm1 c u e λz=>nb (z▸mrb)
       have inO:∀a,a=rb->OO B M a\/Nw X.K H3 a:=λa z=> .inl (z▸hOb)
       have dne:d≠rb:=λz=>na (z▸g2)
       obtain⟨g6,g7⟩:=E3.put (o':=.dd ks (lX ka (fH bT vT rr.1 rr.2) ks rows)) hl e1 sm ⟨d,kvs,as,rfl,hM,na,nas,sm1 _ _ (s13 _ _ e5) dne,e6,e7,pz hOb sm1 aw u1 (u2.move (P:=λc=>c=rb) inO (λa z=> .inl z) sm1) e6 e7 (e8.same s13) nas g1⟩
       exact h3 σ _ M g7 g6 λc z=> .inl z
      ·rw[if_neg hz]at h3
       exact h3.elim
    ·exact h2.elim
 ·exact h.elim
end
end Tr
namespace PySem
open Sem (wp)
namespace F
theorem lk_list_keys:typeLookup (.type "list") "keys" =pure none:=by rw[typeLookup_type,builtinLookup_eq_fast];kernel_rfl
theorem lk_list_getattr:typeLookup (.type "list") "__getattr__" =pure none:=by rw[typeLookup_type,builtinLookup_eq_fast];kernel_rfl
end F
section
variable {prog:Program}{w:World}{A:Around}{E:Value->Shared->Prop}{h:Heap}{g:Array GenState}{d:Drawn}{t:Nat}{os:OsState}{a:Addr}{its:Array Value}{n:Nat}
theorem j0 {tk:Tok}{Q:Fin->Shared->Prop}(hx:h.get? a=some { cls:=.type "list",data:=.seq its n })(hh:A.handled=none)
  (hq:∀h' tk' e,Heap.NewAttrErr h h' e (.ref a) "keys"->E (.ref e) ⟨h',g,d,tk',os⟩) :
  wpAny (model prog w) A (Builtin.«object.__getattribute__» ⟨[.ref a,.str "keys" tk],[]⟩) Q E ⟨h,g,d,t,os⟩:=by
 have hT:(⟨h,g,d,t,os⟩:Shared).TypeIs (.ref a) "list":=⟨_,hx,rfl⟩
 have f4:=F.lk_list_keys
 repeat (any_goals (first | assumption | wp_step))
 exact wpAny_raiseAttrError hh (λh' tk e hx=>hq h' tk e hx) (attrMsg_fits (by decide+kernel) (by rw[sizeLine_eq];decide))
theorem lf {tk:Tok}{R:Result->Shared->Prop}(hx:h.get? a=some { cls:=.type "list",data:=.seq its n })(hh:A.handled=none)
  (hq:∀h' tk' e,Heap.NewAttrErr h h' e (.ref a) "keys"->R (.error (.ref e)) ⟨h',g,d,tk',os⟩) :
  codeAny (model prog w) A (.call (.builtin "list.__getattribute__") ⟨[.ref a,.str "keys" tk],[]⟩) R ⟨h,g,d,t,os⟩:=
 codeAny_call_builtin F.slot_list_getattribute.plain F.entry_list_ga (F.slot_list_getattribute.check _ _ _ _ _ _ _ _ (show(⟨h,g,d,t,os⟩:Shared).TypeIs (.ref a) "list" from⟨_,hx,rfl⟩) (F.args_list_getattribute_2 _ _) (j0 hx hh hq))
theorem lg {Q:Option Value->Shared->Prop}(hx:h.get? a=some { cls:=.type "list",data:=.seq its n })(hh:A.handled=none)
  (hq:∀h' tk',(∀b o,h.get? b=some o->h'.get? b=some o)->Q none ⟨h',g,d,tk',os⟩):wpAny (model prog w) A (getAttr? (.ref a) "keys") Q E ⟨h,g,d,t,os⟩:=by
 have hT:∀tk,(⟨h,g,d,tk,os⟩:Shared).TypeIs (.ref a) "list":=λ_=>⟨_,hx,rfl⟩
 have f1:=sub_AttributeError
 have f2:=F.slot_list_getattribute.lookup
 have f3:=F.slot_list_getattribute.bind (.ref a)
 have f5:=F.lk_list_getattr;unfold getAttr? getAttrBy? getAttrBy
 repeat (any_goals (first | assumption | exact hT _ | wp_step))
 refine lf hx hh λh' tk' e hx'=> ?_
 obtain⟨t',u',he⟩:=hx'.there
 repeat (any_goals (first | assumption | exact hT _ | wp_step))
 exact hq _ _ hx'.keeps
end
end PySem
namespace PySem.F
theorem entry_dict_update_loop:entryFor table "dict.update.loop" =some Builtin.«dict.update.loop»:=entryFor_of_tree (by kernel_rfl)
theorem plain_dict_update_loop:plainId "dict.update.loop" =true:=by decide+kernel
end PySem.F
namespace Tr
open PySem PySem.Spec PyProof.Rows L2
def dJ (kvs:List (List Key×V)):List (List Key×V)->List (List Key×V)
 | [] =>kvs
 | p::ps=>dJ (ci kvs p.1 p.2) ps
def PairsAt (H:Hp):List V->List (List Key×V)->Prop
 | [],ps=>ps= []
 | x::xs,ps=> ∃b kb p r,ps=p::r/\x= .ref b/\H b=some (.tup [.ref kb,p.2])/\H kb=some (.tup (p.1.map kV))/\PairsAt H xs r
theorem PairsAt.upd {H:Hp}{d:Addr}{kvs:List (List Key×V)}{o:HO}(hd:H d=some (.dT kvs)):∀{xs:List V} {ps:List (List Key×V)},PairsAt H xs ps->PairsAt (L2.upd H d o) xs ps
 | [],_,h=>h
 | x::xs,_,⟨b,kb,p,r,e1,e2,e3,e4,e5⟩=>⟨b,kb,p,r,e1,e2,by rw[ar (gO e3 hd (λz=>nomatch z))];exact e3,by rw[ar (gO e4 hd (λz=>nomatch z))];exact e4,e5.upd hd⟩
theorem hG {H:Hp}{d:Addr}{a b:HO}:upd (upd H d a) d b=upd H d b:=by
 funext c
 by_cases h:c=d
 ·rw[h,aw,aw]
 ·rw[ar h,ar h,ar h]
section
variable {X:Cx}{pins:List (Addr×Obj)}{σ:L2.St}{A:Around}{res:Value}{R:Result->Shared->Prop}{d l it:Addr}{xs:List V}
theorem ui (hh:A.handled=none)(hu:A.units+3<cLine):∀(k i:Nat) (s:Shared) (H:Hp) (kvs ps:List (List Key×V)),xs.length - i=k->i<=xs.length->H l=some (.lst xs)->H d=some (.dT kvs)->kvs.length+(xs.length - i)<=1000->Inv X pins σ H s->s.heap.IsListIter it l i->ju X pins H it->PairsAt H (xs.drop i) ps →
  (∀s',Inv X pins σ (upd H d (.dT (dJ kvs ps))) s'->R (.ok (.ret res)) s')->codeAny (model X.prog X.w) A (.builtin "dict.update.loop" ⟨[.ref d,.ref it,rawInt i,res],[]⟩) R s:=by
 intro k
 induction k with
 | zero=>
  intro i s H kvs ps hk hi hl hd hz I hit hf hp hR;refine codeAny_builtin F.entry_dict_update_loop ?_
  rw[Around.under_plainId F.plain_dict_update_loop _];obtain⟨z,its,n,r,hlen,e⟩:=I.lstM hl
  have hL:s.heap.IsList l its.toArray:=⟨_,e,rfl,n,rfl⟩
  show wpAny _ A.in1 (pyNext (.ref it) >>= _) _ _ s
  refine wpAny_bind (wpAny_pyNext_list_end hh hit hL (by simp;omega) λh' hm=> ?_)
  show wpAny _ _ (Builtin.Dict.addKeywords d [] >>= _) _ _ _
  refine wpAny_bind (wpAny_pure (wpAny_pure ?_))
  have hnil:xs.drop i= []:=List.drop_eq_nil_of_le (by omega)
  rw[hnil]at hp;unfold PairsAt at hp;subst hp
  have e2:upd H d (.dT (dJ kvs []))=H:=by
   funext b
   by_cases hb:b=d
   ·rw[hb,aw,hd];rfl
   ·rw[ar hb]
  rw[e2]at hR
  exact hR _ (I.turnedL (fp:=[it]) (t':=s.toks) (λb hb=>by rw[List.mem_singleton.mp hb];exact hf) λb o hb eb=>hm b o (λz=>hb (by rw[z];exact List.mem_singleton.mpr rfl)) eb)
 | succ k ih=>
  intro i s H kvs ps hk hi hl hd hz I hit hf hp hR;refine codeAny_builtin F.entry_dict_update_loop ?_
  rw[Around.under_plainId F.plain_dict_update_loop _];obtain⟨z,its,n,r,hlen,e⟩:=I.lstM hl
  have hL:s.heap.IsList l its.toArray:=⟨_,e,rfl,n,rfl⟩
  have hlt:i<xs.length:=by omega
  have hlt':i<its.length:=by omega
  show wpAny _ A.in1 (pyNext (.ref it) >>= _) _ _ s
  refine wpAny_bind (wpAny_pyNext_list_item hit hL (x:=its[i]) (by simp[hlt']) λh' hit' hm=> ?_)
  have I1:Inv X pins σ H { s with heap:=h' }:=I.turnedL (fp:=[it]) (t':=s.toks) (λb hb=>by rw[List.mem_singleton.mp hb];exact hf) λb o hb eb=>(hm.2 b (λz=>hb (by rw[z];exact List.mem_singleton.mpr rfl))).trans eb
  have hdrop:xs.drop i=xs[i] ::xs.drop (i+1):=List.drop_eq_getElem_cons hlt;rw[hdrop]at hp;obtain⟨b,kb,p,r',rfl,ex,hb,hkb,hp'⟩:=hp
  have rx:RelV xs[i] its[i]:=by
   obtain⟨u,q1,q2⟩:=r.get (List.getElem?_eq_getElem hlt)
   rw[List.getElem?_eq_getElem hlt']at q1
   cases q1;exact q2
  rw[ex]at rx
  have eu:its[i] =Value.ref b:=rx;rw[eu];obtain⟨z2,its2,r2,ob,hob1,hob2,nb,hob3⟩:=(show ObjOk X.prog X.w H h' b (.tup [.ref kb,p.2])from I1.hok b _ hb)
  obtain⟨u1,us1,q1,rfl⟩:∃u1 us1,RelV (V.ref kb) u1/\its2=u1::us1:=by cases r2 with | cons a b=>exact⟨_,_,a,rfl⟩
  cases r2 with
  | cons ra rb=>
   obtain⟨u2,q2,rfl⟩:∃u2,RelV p.2 u2/\us1= [u2]:=by cases rb with | cons a b=>cases b;exact⟨_,a,rfl⟩
   obtain rfl:u1=Value.ref kb:=q1
   show wpAny _ A.in1 (holding [Value.ref b] _ >>= _) _ _ _
   refine wpAny_bind (wpAny_holding ?_)
   refine wpAny_bind (wpAny_tryCatch ?_)
   unfold Builtin.Dict.pairItems;refine wpAny_bind (wpAny_typeOf (s:={ s with heap:=h' }) (T:="tuple") ⟨ob,hob1,hob2⟩ ?_)
   rw[if_pos (by decide)]
   refine wpAny_bind (wpAny_seqItems (s:={ s with heap:=h' }) hob1 hob3 (wpAny_pure ?_))
   show wpAny _ _ (holding [Value.ref kb,u2] (dictSet d (.ref kb) u2)) _ _ _
   refine wpAny_holding ?_
   obtain⟨zz,hds,xs2,rel,dd⟩:=sQ I1.hok hd
   have hzl:xs2.length<=sizeLine:=by rw[<-Paired.length rel];exact zz
   have hkl:kvs.length<sizeLine:=by rw[sizeLine_eq];omega
   have hl2:(ci kvs p.1 p.2).length<=sizeLine:=by have:=dv kvs p.1 p.2;omega
   refine wpAny_dictSet_heap (hsz:=hzl) (tupleKind_room_in1 (by show A.units+1<cLine;omega)) (li I1.hok hkb) dd λh2 dd2 hs2=> ?_
   obtain⟨q,es,ep,hq,h22,h3,h4,_,h5⟩:=dd2
   have I2:Inv X pins σ (upd H d (.dT (ci kvs p.1 p.2))) { s with heap:=h2,toks:=s.toks+(tupleKind (ck X.prog X.w)).draws p.1 }:=
    jq (s:={ s with heap:=h' }) I1 (by rw[hd];exact True.intro) hs2 ⟨q,hq⟩ ⟨hl2,hds,_,(rel.put p.1 hkb q2).keeps λc ys ec=>by rw[ar (gO ec hd (λz=>nomatch z))];exact ec,q,es,ep,hq,h22,h3,h4,h5⟩
   have hld:l≠d:=gO hl hd (λz=>nomatch z)
   have hitd:it≠d:=λz=>by have:=hf.1;rw[z,hd]at this;cases this
   have hcast:(i:Int)+1=((i+1:Nat):Int):=by omega
   refine wpAny_pure ⟨plainId_quiet F.plain_dict_update_loop _,?_⟩
   rw[hcast];refine ih (i+1) _ (upd H d (.dT (ci kvs p.1 p.2))) (ci kvs p.1 p.2) r' (by omega) (by omega) (by rw[ar hld];exact hl) aw (by have:=dv kvs p.1 p.2;omega) I2 ?_ ⟨by rw[ar hitd];exact hf.1,hf.2⟩ (hp'.upd hd) λs' I'=> ?_
   ·obtain⟨oi,ho1,ho2,ho3⟩:=hit'
    exact⟨oi,(hs2.2 it hitd).trans ho1,ho2,ho3⟩
   ·rw[hG]at I'
    exact hR s' I'
end
theorem PairsAt.same {H H':Hp}(s:Same H H'):∀{xs:List V} {ps:List (List Key×V)},PairsAt H xs ps->PairsAt H' xs ps
 | [],_,h=>h
 | x::xs,_,⟨b,kb,p,r,e1,e2,e3,e4,e5⟩=>⟨b,kb,p,r,e1,e2,s _ _ e3,s _ _ e4,e5.same s⟩
section
variable {X:Cx}{pins:List (Addr×Obj)}{σ:L2.St}{A:Around}{E:Value->Shared->Prop}{H:Hp}{s:Shared}{l:Addr}{xs:List V}{ps:List (List Key×V)}
theorem wI {Q:Value->Shared->Prop}(hh:A.handled=none)(hu:A.units+8<cLine)(I:Inv X pins σ H s)(hl:H l=some (.lst xs))(hz:xs.length<=1000)(hp:PairsAt H xs ps)
  (h:∀p s',Nw X.K H p->Inv X pins σ (upd H p (.dT (dJ [] ps))) s'->Q (.ref p) s'):wpAny (model X.prog X.w) A (call (.type "dict") [.ref l]) Q E s:=by
 have hk:X.K.lookup s.heap.objs.size=none:=by
  cases q:X.K.lookup s.heap.objs.size with
  | none=>rfl
  | some o=>exact absurd (Heap.lt_size (I.kIn _ o q)) (Nat.lt_irrefl _)
 have hn:H s.heap.objs.size=none:=I.hok.fresh (Nat.le_refl _)
 have hlp:l≠s.heap.objs.size:=λz=>by rw[z,hn]at hl;cases hl
 refine callType_codes (Q₁:=λobj s₁=>obj= .ref s.heap.objs.size/\s₁= { s with heap:=s.heap.push { cls:=.type "dict",data:=.dict #[] } }) F.kt_called_dict (F.kt_typeCall_dict_1 _) F.entry_dict_init (kt_code_dict_new _ ⟨rfl,rfl⟩) ?_
 rintro obj s₁ ⟨rfl,rfl⟩
 have I1:Inv X pins σ (upd H s.heap.objs.size (.dT [])) { s with heap:=s.heap.push { cls:=.type "dict",data:=.dict #[] } }:=I.laid (a:=s.heap.objs.size) (o:=.dT []) (t':=s.toks) (λ_ _ q=>Heap.get?_push_of_some _ q) (Nat.le_refl _) (lz s.heap I.big)
 have hT:({ s with heap:=s.heap.push { cls:=.type "dict",data:=.dict #[] } }:Shared).TypeIs (.ref s.heap.objs.size) "dict":=⟨_,Heap.get?_push_size _ rfl,rfl⟩
 have hl1:upd H s.heap.objs.size (.dT []) l=some (.lst xs):=by rw[ar hlp];exact hl
 obtain⟨z,its,n,r,hlen,e⟩:=I1.lstM hl1;refine⟨hT,F.args_dict_init_2 _ _,?_⟩
 unfold Builtin.«dict.__init__»;refine wpAny_bind ?_
 unfold Builtin.Dict.selfAndRest;refine wpAny_bind (wpAny_notOrdered_dict hT ?_)
 show wpAny _ _ (pure (s.heap.objs.size,[Value.ref l])) _ _ _
 refine wpAny_pure ?_
 show wpAny _ _ (Builtin.Dict.updateFrom "dict.__init__" s.heap.objs.size (.ref l) [] .none) _ _ _
 unfold Builtin.Dict.updateFrom;refine wpAny_bind (wpAny_typeOf (T:="list") ⟨_,e,rfl⟩ ?_)
 rw[if_pos (by decide)]
 refine wpAny_bind (lg e hh λh' tk' kp=> ?_)
 have I2:Inv X pins σ (upd H s.heap.objs.size (.dT [])) { s with heap:=h',toks:=tk' }:=I1.kept (t':=tk') kp
 rw[if_pos (by rfl)]
 refine wpAny_bind (wpAny_rule ?_)
 have eL:({ s with heap:=h',toks:=tk' }:Shared).heap.IsList l its.toArray:=⟨_,kp _ _ e,rfl,n,rfl⟩
 refine wpAny_bind (wpAny_pyIter_list eL ?_)
 have I3:Inv X pins σ (upd H s.heap.objs.size (.dT [])) { s with heap:=h'.push { cls:=.type "list_iterator",data:=.fields #[.ref l,.int 0 0] },toks:=tk' }:=I2.kept (t':=tk') λb u q=>Heap.get?_push_of_some _ q
 have hpl:s.heap.objs.size<h'.objs.size:=Heap.lt_size (kp _ _ (Heap.get?_push_size _ rfl))
 have hni:upd H s.heap.objs.size (.dT []) h'.objs.size=none:=by
  rw[ar (Nat.ne_of_gt hpl)];exact I.hok.fresh (Nat.le_of_lt hpl)
 have hp1:PairsAt (upd H s.heap.objs.size (.dT [])) xs ps:=hp.same (aM hn _);refine wpAny_pure ⟨plainId_quiet F.plain_dict_update_loop _,?_⟩
 refine ui (A:=A.in1) (X:=X) (pins:=pins) (σ:=σ) (l:=l) (xs:=xs) (it:=h'.objs.size) hh (by show A.units+1+3<cLine;omega) xs.length 0 _ (upd H s.heap.objs.size (.dT [])) [] ps (by omega) (Nat.zero_le _) hl1 aw (by simp;omega) I3 ⟨_,Heap.get?_push_size _ rfl,rfl,rfl⟩ (I2.fpOk (Nat.le_refl _) hni) hp1 λs' I'=> ?_
 rw[hG]at I';exact⟨rfl,h _ _ ⟨hn,hk⟩ I'⟩
end
theorem Dm {k:Nat}{A:Around}(h:Room k A):A.units+8<cLine:=by have:=h.un;omega
theorem qT {kvs:List (List Key×V)}{k:List Key}{v:V}(h:(kvs.map (·.1)).Nodup):((ci kvs k v).map (·.1)).Nodup:=by
 unfold ci
 by_cases a:(kvs.any λkv=>decide (kv.1=k))=true
 ·rw[if_pos a,List.map_map]
  have:((λx=>x.1)∘λkv:List Key×V=>if kv.1=k then(kv.1,v)else kv)=λx=>x.1:=by
   funext x
   show(if x.1=k then(x.1,v)else x).1=x.1
   by_cases e:x.1=k
   ·rw[if_pos e]
   ·rw[if_neg e]
  rw[this];exact h
 ·rw[if_neg a,List.map_append,List.nodup_append]
  refine⟨h,by simp,λx hx y hy=> ?_⟩
  simp only[List.map_cons,List.map_nil,List.mem_singleton]at hy;subst hy;intro z;subst z;obtain⟨p,hp,e⟩:=List.mem_map.mp hx;exact a (List.any_eq_true.mpr ⟨p,hp,decide_eq_true e⟩)
def Dp (K:PySem.W.Frag)(O:Ow)(H:Hp):List (T×T)->List (List Key×V)->Prop
 | [],ps=>ps= []
 | a::l,ps=> ∃p r,ps=p::r/\aN a.1=some p.1/\Rep K O H a.2 p.2/\Dp K O H l r
theorem mZ {K:PySem.W.Frag}{O:Ow}{H:Hp}:∀{l:List (T×T)} {ps:List (List Key×V)} {ks ts:List T} {kvs:List (List Key×V)},Dp K O H l ps->ks.map aN=kvs.map (λp=>some p.1)->Reps K O H ts (kvs.map (·.2))->(kvs.map (·.1)).Nodup →
  (jo l (ks,ts)).1.map aN=(dJ kvs ps).map (λp=>some p.1)/\Reps K O H (jo l (ks,ts)).2 ((dJ kvs ps).map (·.2))
 | [],ps,ks,ts,kvs,h,h1,h2,hn=>by unfold Dp at h;subst h;exact⟨h1,h2⟩
 | (a,b)::l,ps,ks,ts,kvs,h,h1,h2,hn=>by
  obtain⟨p,r,rfl,e1,e2,e3⟩:=h;obtain⟨g1,g2⟩:=jp (vT:=b) e1 e2 h1 h2 hn
  show(jo l (fH a b ks ts)).1.map aN=(dJ (ci kvs p.1 p.2) r).map (λp=>some p.1)/\Reps K O H (jo l (fH a b ks ts)).2 ((dJ (ci kvs p.1 p.2) r).map (·.2))
  exact mZ (l:=l) e3 g1 g2 (qT hn)
theorem iN {K:PySem.W.Frag}{O:Ow}{H:Hp}:∀{l:List T} {ns:List Int} {xs:List V} {us:List Value},iF l=some ns->Reps K O H l xs->Vals xs us->IntsAre us ns
 | [],ns,xs,us,h,r,v=>by cases Reps.nil_iff.mp r;cases v;cases h;exact .nil
 | t::l,ns,xs,us,h,r,v=>by
  obtain⟨w,ws,rfl,p,q⟩:=Reps.cons_iff.mp r
  cases v with
  | cons v1 v2=>
   cases t with
   | int i=>
    unfold iF at h;obtain⟨m,h1,rfl⟩:=Option.map_eq_some_iff.mp h;cases Rep.int_iff.mp p;obtain⟨k,rfl⟩:=v1
    exact .cons _ _ (iN h1 q v2)
   | _=>cases h
theorem mJ:∀(l:List Int) (i:Int),eV i l∈i::l/\∀a∈i::l,eV i l<=a
 | [],i=>⟨List.mem_cons_self,λa h=>by cases List.mem_singleton.mp h;exact Int.le_refl _⟩
 | j::l,i=>by
  obtain⟨h1,h2⟩:=mJ l (if j<i then j else i)
  unfold eV
  have h3:=h2 _ List.mem_cons_self;refine⟨?_,λa ha=> ?_⟩
  ·rcases List.mem_cons.mp h1 with e | e
   ·rw[e]
    by_cases h:j<i
    ·rw[if_pos h];simp
    ·rw[if_neg h];simp
   ·exact List.mem_cons_of_mem _ (List.mem_cons_of_mem _ e)
  ·rcases List.mem_cons.mp ha with rfl | ha
   ·by_cases h:j<a
    ·rw[if_pos h]at h3 ⊢;omega
    ·rw[if_neg h]at h3 ⊢;omega
   ·rcases List.mem_cons.mp ha with rfl | ha
    ·by_cases h:a<i
     ·rw[if_pos h]at h3 ⊢;omega
     ·rw[if_neg h]at h3 ⊢;omega
    ·exact h2 a (List.mem_cons_of_mem _ ha)
theorem mK:∀(l:List Int) (i:Int),fP i l∈i::l/\∀a∈i::l,a<=fP i l
 | [],i=>⟨List.mem_cons_self,λa h=>by cases List.mem_singleton.mp h;exact Int.le_refl _⟩
 | j::l,i=>by
  obtain⟨h1,h2⟩:=mK l (if i<j then j else i)
  unfold fP
  have h3:=h2 _ List.mem_cons_self;refine⟨?_,λa ha=> ?_⟩
  ·rcases List.mem_cons.mp h1 with e | e
   ·rw[e]
    by_cases h:i<j
    ·rw[if_pos h];simp
    ·rw[if_neg h];simp
   ·exact List.mem_cons_of_mem _ (List.mem_cons_of_mem _ e)
  ·rcases List.mem_cons.mp ha with rfl | ha
   ·by_cases h:a<j
    ·rw[if_pos h]at h3 ⊢;omega
    ·rw[if_neg h]at h3 ⊢;omega
   ·rcases List.mem_cons.mp ha with rfl | ha
    ·by_cases h:i<a
     ·rw[if_pos h]at h3 ⊢;omega
     ·rw[if_neg h]at h3 ⊢;omega
    ·exact h2 a (List.mem_cons_of_mem _ ha)
section
variable {X:Cx}
theorem wK (hc:X.calm=true):CallT X (.builtin "min") oa:=by
 intro pins s σ H O ts vs us Q I hf rs rv hp;unfold oa at hp
 split at hp
 ·rename_i l
  obtain⟨v,rfl,r⟩:=rs.one
  split at hp
  ·rename_i i ns hk
   obtain⟨a,ws,rfl,n,q,z⟩:=Rep.lst_iff.mp r;obtain⟨u,rfl,ru⟩:=gE rv;cases ru;obtain⟨its,r',pl,hz⟩:=I.list (SqL.of q)
   have hi:=iN hk z r';obtain⟨xs,e⟩:=hi.allInts.items
   have hns:i::ns=xs.toList.map (·.1):=by rw[<-hi.numsOf,<-nums_intItems,<-e]
   have hl:s.heap.IsList a (intItems xs):=by rw[<-e];exact pl.isList
   have hsz:0<xs.size:=by
    have h3:=congrArg List.length hns;rw[List.length_cons,List.length_map]at h3;rw[<-Array.length_toList];omega
   refine min_intList (I.ok.hd hc) hl hsz λv h' tk hv hk'=> ?_
   obtain⟨t,rfl⟩:=intItems_at hv;obtain⟨h1,h2⟩:=argBest_lt (numAt xs) (xs.size - 1);refine⟨.int _,H,I.kept (t':=tk) hk',⟨_,rfl⟩,?_⟩
   have eM:numAt xs (argBest (λi j=>decide (numAt xs i<numAt xs j)) (xs.size - 1))=eV i ns:=by
    obtain⟨g1,g2⟩:=mJ ns i
    have m1:numAt xs (argBest (λi j=>decide (numAt xs i<numAt xs j)) (xs.size - 1))∈i::ns:=by
     rw[hns,numAt_eq];exact PySem.getD_mem (by rw[List.length_map,Array.length_toList];omega)
    have k1:=g2 _ m1;rw[hns]at g1;obtain⟨j,hj,ej⟩:=mem_getD g1;rw[List.length_map,Array.length_toList]at hj;rw[<-numAt_eq]at ej
    have k2:=h2 j (by omega)
    rw[ej]at k2;exact Int.le_antisymm k2 k1
   rw[eM];exact hp H (Same.refl H) _ (Rep.int_ _)
  ·exact hp.elim
 ·rename_i i j
  obtain⟨v,ws,rfl,p,q⟩:=Reps.cons_iff.mp rs;obtain⟨v2,rfl,p2⟩:=q.one;cases Rep.int_iff.mp p;cases Rep.int_iff.mp p2;refine uo hc pins s σ H _ us Q I rv ⟨i,j,rfl,?_⟩
  exact hp H (Same.refl H) _ (Rep.int_ _)
 ·exact hp.elim
theorem BD (hc:X.calm=true):CallT X (.builtin "max") tV:=by
 intro pins s σ H O ts vs us Q I hf rs rv hp;unfold tV at hp
 split at hp
 ·rename_i l
  obtain⟨v,rfl,r⟩:=rs.one
  split at hp
  ·rename_i i ns hk
   obtain⟨a,ws,rfl,n,q,z⟩:=Rep.lst_iff.mp r;obtain⟨u,rfl,ru⟩:=gE rv;cases ru;obtain⟨its,r',pl,hz⟩:=I.list (SqL.of q)
   have hi:=iN hk z r';obtain⟨xs,e⟩:=hi.allInts.items
   have hns:i::ns=xs.toList.map (·.1):=by rw[<-hi.numsOf,<-nums_intItems,<-e]
   have hl:s.heap.IsList a (intItems xs):=by rw[<-e];exact pl.isList
   have hsz:0<xs.size:=by
    have h3:=congrArg List.length hns;rw[List.length_cons,List.length_map]at h3;rw[<-Array.length_toList];omega
   refine max_intList (I.ok.hd hc) hl hsz λv h' tk hv hk'=> ?_
   obtain⟨t,rfl⟩:=intItems_at hv;obtain⟨h1,h2⟩:=argBest_gt (numAt xs) (xs.size - 1);refine⟨.int _,H,I.kept (t':=tk) hk',⟨_,rfl⟩,?_⟩
   have eM:numAt xs (argBest (λi j=>decide (numAt xs i > numAt xs j)) (xs.size - 1))=fP i ns:=by
    obtain⟨g1,g2⟩:=mK ns i
    have m1:numAt xs (argBest (λi j=>decide (numAt xs i > numAt xs j)) (xs.size - 1))∈i::ns:=by
     rw[hns,numAt_eq];exact PySem.getD_mem (by rw[List.length_map,Array.length_toList];omega)
    have k1:=g2 _ m1;rw[hns]at g1;obtain⟨j,hj,ej⟩:=mem_getD g1;rw[List.length_map,Array.length_toList]at hj;rw[<-numAt_eq]at ej
    have k2:=h2 j (by omega)
    rw[ej]at k2;exact Int.le_antisymm k1 k2
   rw[eM];exact hp H (Same.refl H) _ (Rep.int_ _)
  ·exact hp.elim
 ·rename_i i j
  obtain⟨v,ws,rfl,p,q⟩:=Reps.cons_iff.mp rs;obtain⟨v2,rfl,p2⟩:=q.one;cases Rep.int_iff.mp p;cases Rep.int_iff.mp p2;refine uq hc pins s σ H _ us Q I rv ⟨i,j,rfl,?_⟩
  exact hp H (Same.refl H) _ (Rep.int_ _)
 ·exact hp.elim
end
end Tr
namespace Tr
def eO:List T->Option (List (List Int))
 | [] =>some []
 | .tup l::r=>match iF l,eO r with
  | some ns,some k=>if ns= []then none else some (ns::k)
  | _,_=>none
 | _=>none
def By:List T->Rs T
 | [.lst l,.tup m] =>if fZ l=true/\l.length=m.length/\1<=l.length/\l.length<=1000 then .ok (.dct (jo (l.zip m) ([],[])).1 (jo (l.zip m) ([],[])).2)else .bad
 | _=> .bad
end Tr
namespace PySem
open Sem (wp)
namespace F
theorem zk_keys:typeLookup (.type "zip") "keys" =pure none:=by rw[typeLookup_type,builtinLookup_eq_fast];kernel_rfl
theorem zk_ga:typeLookup (.type "zip") "__getattr__" =pure none:=by rw[typeLookup_type,builtinLookup_eq_fast];kernel_rfl
theorem zk_entry:entryFor table "zip.__getattribute__" =some Builtin.«object.__getattribute__»:=
 entryFor_alias (id':="object.__getattribute__") (by kernel_rfl) (by first | rfl | decide+kernel | (unfold String.splitOn;simp+decide [String.splitOnAux])) (by decide+kernel) (by kernel_rfl)
end F
abbrev zO (h:Heap)(z ti to:Addr)(f0 f1:Value):Prop:=h.get? z=some { cls:=.type "zip",dict:=none,data:=.fields #[f0,f1,.bool false,.ref ti,.ref to],slots:=#[] }
section
variable {prog:Program}{w:World}{A:Around}{E:Value->Shared->Prop}{h:Heap}{g:Array GenState}{d:Drawn}{t:Nat}{os:OsState}{z ti to:Addr}{f0 f1:Value}
theorem zk1 {tk:Tok}{Q:Fin->Shared->Prop}(hx:zO h z ti to f0 f1)(hh:A.handled=none)(hq:∀h' tk' e,Heap.NewAttrErr h h' e (.ref z) "keys"->E (.ref e) ⟨h',g,d,tk',os⟩) :
  wpAny (model prog w) A (Builtin.«object.__getattribute__» ⟨[.ref z,.str "keys" tk],[]⟩) Q E ⟨h,g,d,t,os⟩:=by
 have hT:(⟨h,g,d,t,os⟩:Shared).TypeIs (.ref z) "zip":=⟨_,hx,rfl⟩
 have f4:=F.zk_keys
 repeat (any_goals (first | assumption | wp_step))
 exact wpAny_raiseAttrError hh (λh' tk e hx=>hq h' tk e hx) (attrMsg_fits (by decide+kernel) (by rw[sizeLine_eq];decide))
theorem zk2 {tk:Tok}{R:Result->Shared->Prop}(hx:zO h z ti to f0 f1)(hh:A.handled=none)(hq:∀h' tk' e,Heap.NewAttrErr h h' e (.ref z) "keys"->R (.error (.ref e)) ⟨h',g,d,tk',os⟩) :
  codeAny (model prog w) A (.call (.builtin "zip.__getattribute__") ⟨[.ref z,.str "keys" tk],[]⟩) R ⟨h,g,d,t,os⟩:=
 codeAny_call_builtin F.slot_zip_getattribute.plain F.zk_entry (F.slot_zip_getattribute.check _ _ _ _ _ _ _ _ (show(⟨h,g,d,t,os⟩:Shared).TypeIs (.ref z) "zip" from⟨_,hx,rfl⟩) (F.args_zip_getattribute_2 _ _) (zk1 hx hh hq))
theorem zk3 {Q:Option Value->Shared->Prop}(hx:zO h z ti to f0 f1)(hh:A.handled=none)(hq:∀h' tk',(∀b o,h.get? b=some o->h'.get? b=some o)->Q none ⟨h',g,d,tk',os⟩):wpAny (model prog w) A (getAttr? (.ref z) "keys") Q E ⟨h,g,d,t,os⟩:=by
 have hT:∀tk,(⟨h,g,d,tk,os⟩:Shared).TypeIs (.ref z) "zip":=λ_=>⟨_,hx,rfl⟩
 have f1:=sub_AttributeError
 have f2:=F.slot_zip_getattribute.lookup
 have f3:=F.slot_zip_getattribute.bind (.ref z)
 have f5:=F.zk_ga;unfold getAttr? getAttrBy? getAttrBy
 repeat (any_goals (first | assumption | exact hT _ | wp_step))
 refine zk2 hx hh λh' tk' e hx'=> ?_
 obtain⟨t',u',he⟩:=hx'.there
 repeat (any_goals (first | assumption | exact hT _ | wp_step))
 exact hq _ _ hx'.keeps
end
structure Zp (h:Heap)(n l1 t2 k:Nat)(xs ys:Array Value):Prop where
 b1:l1<n
 b2:t2<n
 pr:IsPair h (n+2) (.ref n) (.ref (n+1))
 i1:h.IsListIter n l1 k
 i2:h.IsTupleIter (n+1) t2 k
 s1:h.IsList l1 xs
 s2:h.IsTuple t2 ys
theorem gh {h h':Heap}{a:Addr}{xs:Array Value}(x:h.IsTuple a xs)(e:∀o,h.get? a=some o->h'.get? a=some o):h'.IsTuple a xs:=let ⟨o,ho,r⟩:=x;⟨o,e _ ho,r⟩
theorem Zp.keep {h h':Heap}{n l1 t2 k:Nat}{xs ys:Array Value}(q:Zp h n l1 t2 k xs ys)(e:∀c o,c<n+3->h.get? c=some o->h'.get? c=some o):Zp h' n l1 t2 k xs ys where
 b1:=q.b1
 b2:=q.b2
 pr:=e _ _ (by omega) q.pr
 i1:=q.i1.at λo=>e _ o (by omega)
 i2:=q.i2.at λo=>e _ o (by omega)
 s1:=q.s1.at λo=>e _ o (by have:=q.b1;omega)
 s2:=gh q.s2 λo=>e _ o (by have:=q.b2;omega)
section
variable {prog:Program}{w:World}{A:Around}{E:Value->Shared->Prop}{s:Shared}{n l1 t2 k:Nat}{xs ys:Array Value}{x y:Value}
theorem oV {a:Addr}{Q:Option Obj->Shared->Prop}(q:Q (s.heap.get? a) s):wpAny (model prog w) A (loadIfAlive a) Q E s:=λΓ p _=>by
 show Sem.wp _ _ (Sem.loadIfAlive a pure) _ _ _ _
 rw[Sem.wp_loadIfAlive];exact q
end
section
variable {prog:Program}{w:World}{A:Around}{E:Value->Shared->Prop}{s:Shared}{n l1 t2 k:Nat}{xs ys:Array Value}{x y:Value}
theorem dL {a b:Nat}(h:a<b\/b<a):a≠b:=by omega
theorem Zp.one {h h':Heap}(q:Zp h n l1 t2 k xs ys)(i:h'.IsListIter n l1 (k+1))(e:Heap.SameBut n h h'):h'.IsTupleIter (n+1) t2 k/\h'.IsList l1 xs/\h'.IsTuple t2 ys/\IsPair h' (n+2) (.ref n) (.ref (n+1)):=by
 have b1:=q.b1
 have b2:=q.b2;exact⟨q.i2.at λo g=>e.extBut _ _ (dL (by omega)) g,q.s1.at λo g=>e.extBut _ _ (dL (by omega)) g,gh q.s2 λo g=>e.extBut _ _ (dL (by omega)) g,e.extBut _ _ (dL (by omega)) q.pr⟩
theorem oU {T:Addr}{ob:Obj}{f:Bool}{Q:Bool->Shared->Prop}(kz:zO s.heap (n+4) (n+2) (n+3) (rawInt T) (.bool f))(kT:s.heap.get? T=some ob)
  (hk:∀h',zO h' (n+4) (n+2) (n+3) (rawInt T) (.bool true)->(∀c o,c≠n+4->s.heap.get? c=some o->h'.get? c=some o)->h'.objs.size=s.heap.objs.size->Q false { s with heap:=h' }):wpAny (model prog w) A (Builtin.SmallTypes.ownedTupleIsFree (.ref (n+4))) Q E s:=by
 unfold Builtin.SmallTypes.ownedTupleIsFree;refine wpAny_bind (wpAny_field kz rfl (x:=rawInt T) rfl ?_)
 show wpAny _ _ (loadIfAlive (Int.toNat (T:Int)) >>= _) _ _ _
 rw[Int.toNat_natCast];refine wpAny_bind (oV ?_)
 rw[kT]
 show wpAny _ _ (field (.ref (n+4)) 1 >>= _) _ _ _
 refine wpAny_bind (wpAny_field kz rfl (x:=.bool f) rfl ?_)
 cases f with
 | true=>
  rw[if_neg (by decide)]
  exact wpAny_pure (hk _ kz (λ_ _ _ e=>e) rfl)
 | false=>
  rw[if_pos (by decide)]
  refine wpAny_bind (wpAny_setField_rec kz (by simp) λh₁ kz₁ hs₁=>wpAny_pure (hk h₁ kz₁ (λc o c1 e=>hs₁.extBut _ _ c1 e) hs₁.1))
theorem uJ {T:Addr}{ob:Obj}{f:Bool}{Q:Value->Shared->Prop}(q:Zp s.heap n l1 t2 k xs ys)(kz:zO s.heap (n+4) (n+2) (n+3) (rawInt T) (.bool f))(kT:s.heap.get? T=some ob)(hx:xs[k]? =some x)(hy:ys[k]? =some y)
  (kq:∀h' p,s.heap.objs.size<=p->IsPair h' p x y->zO h' (n+4) (n+2) (n+3) (rawInt T) (.bool true)->Zp h' n l1 t2 (k+1) xs ys->(∀c o,c≠n->c≠n+1->c≠n+4->s.heap.get? c=some o->h'.get? c=some o)->Q (.ref p) { s with heap:=h' }) :
  wpAny (model prog w) A (Builtin.«zip.__next__» ⟨[.ref (n+4)],[]⟩) (λfin s'=> ∃v,fin= .done (.ret v)/\Q v s') E s:=by
 have b1:=q.b1
 have b2:=q.b2
 show wpAny _ _ (field (.ref (n+4)) 2 >>= _) _ _ _
 refine wpAny_bind (wpAny_field kz rfl (x:=.bool false) rfl ?_)
 show wpAny _ _ (field (.ref (n+4)) 3 >>= _) _ _ _
 refine wpAny_bind (wpAny_field kz rfl (x:=.ref (n+2)) rfl ?_)
 refine wpAny_bind (wpAny_seqItems q.pr rfl ?_)
 show wpAny _ _ (Builtin.SmallTypes.ownedTupleIsFree (.ref (n+4)) >>= _) _ _ _
 refine wpAny_bind (oU kz kT λh₁ kz₁ e₁ z₁=> ?_)
 have q₁:Zp h₁ n l1 t2 k xs ys:=q.keep λc o hc g=>e₁ c o (by omega) g
 simp only[Bool.false_eq_true,if_false,List.forIn_toArray,List.forIn_cons,List.forIn_nil];refine wpAny_bind (wpAny_bind (wpAny_bind (wpAny_holding ?_)))
 show wpAny _ _ (Builtin.SmallTypes.nextOf (.ref n) >>= _) _ _ _
 refine wpAny_bind (wpAny_nextOf_list_item q₁.i1 q₁.s1 hx λh₂ g₂ e₂=>wpAny_pure ?_)
 obtain⟨r1,r2,r3,r4⟩:=q₁.one g₂ e₂;refine wpAny_pure (wpAny_bind (wpAny_bind (wpAny_holding ?_)))
 show wpAny _ _ (Builtin.SmallTypes.nextOf (.ref (n+1)) >>= _) _ _ _
 refine wpAny_bind (Enu.tupNext r1 r3 hy λh₃ g₃ e₃=>wpAny_pure (wpAny_pure (wpAny_pure ?_)))
 show wpAny _ _ (newTuple [x,y] >>= _) _ _ _
 refine wpAny_bind (wpAny_newTuple (wpAny_pure ⟨_,rfl,?_⟩))
 have z₃:h₃.objs.size=s.heap.objs.size:=by rw[e₃.1,e₂.1,z₁]
 have up:∀c o,c≠n->c≠n+1->h₁.get? c=some o->(h₃.push { cls:=.type "tuple",data:=.seq #[x,y] }).get? c=some o:=λc o c1 c2 g=>Heap.get?_push_of_some _ (e₃.extBut _ _ c2 (e₂.extBut _ _ c1 g))
 refine kq _ h₃.objs.size (Nat.le_of_eq z₃.symm) (Heap.get?_push_size _ rfl) (up _ _ (dL (by omega)) (dL (by omega)) kz₁) ⟨b1,b2,up _ _ (dL (by omega)) (dL (by omega)) q₁.pr,?_,?_,?_,?_⟩ λc o c1 c2 c4 g=>up c o c1 c2 (e₁ c o c4 g)
 ·exact g₂.at λo g=>Heap.get?_push_of_some _ (e₃.extBut _ _ (dL (by omega)) g)
 ·exact g₃.at λo g=>Heap.get?_push_of_some _ g
 ·exact q₁.s1.at λo g=>up _ o (dL (by omega)) (dL (by omega)) g
 ·exact gh q₁.s2 λo g=>up _ o (dL (by omega)) (dL (by omega)) g
theorem tq {a b:Value}{Q:Value->Shared->Prop}(q:Zp s.heap n l1 t2 k xs ys)(kz:zO s.heap (n+4) (n+2) (n+3) .none (.bool false))(ho:IsPair s.heap (n+3) a b)(hx:xs[k]? =some x)(hy:ys[k]? =some y)
  (kq:∀h' p,s.heap.objs.size<=p->IsPair h' p x y->zO h' (n+4) (n+2) (n+3) (rawInt p) (.bool false)->Zp h' n l1 t2 (k+1) xs ys->(∀c o,c≠n->c≠n+1->c≠n+3->c≠n+4->s.heap.get? c=some o->h'.get? c=some o)->Q (.ref p) { s with heap:=h' }) :
  wpAny (model prog w) A (Builtin.«zip.__next__» ⟨[.ref (n+4)],[]⟩) (λfin s'=> ∃v,fin= .done (.ret v)/\Q v s') E s:=by
 have b1:=q.b1
 have b2:=q.b2
 show wpAny _ _ (field (.ref (n+4)) 2 >>= _) _ _ _
 refine wpAny_bind (wpAny_field kz rfl (x:=.bool false) rfl ?_)
 show wpAny _ _ (field (.ref (n+4)) 3 >>= _) _ _ _
 refine wpAny_bind (wpAny_field kz rfl (x:=.ref (n+2)) rfl ?_)
 refine wpAny_bind (wpAny_seqItems q.pr rfl ?_)
 show wpAny _ _ (Builtin.SmallTypes.ownedTupleIsFree (.ref (n+4)) >>= _) _ _ _
 have fr:wpAny (model prog w) A (Builtin.SmallTypes.ownedTupleIsFree (.ref (n+4))) (λv s'=>v=true/\s'=s) E s:=by
  unfold Builtin.SmallTypes.ownedTupleIsFree;exact wpAny_bind (wpAny_field kz rfl (x:=.none) rfl (wpAny_pure ⟨rfl,rfl⟩))
 refine wpAny_bind (wpAny_mono fr (λv s' hv=> ?_) λ_ _ z=>z)
 obtain⟨rfl,rfl⟩:=hv;simp only[if_true];refine wpAny_bind (wpAny_rule (wpAny_bind (wpAny_field kz rfl (x:=.ref (n+3)) rfl (wpAny_bind (wpAny_setField_rec kz (by simp) λh₁ kz₁ e₁=> ?_)))))
 replace kz₁:zO h₁ (n+4) (n+2) (n+3) .ellipsis (.bool false):=kz₁
 have q₁:Zp h₁ n l1 t2 k xs ys:=q.keep λc o hc g=>e₁.extBut c o (dL (by omega)) g
 simp only[List.zipIdx_cons,List.zipIdx_nil,List.forIn_cons,List.forIn_nil];refine wpAny_bind (wpAny_bind (wpAny_bind (wpAny_onRaise ?_)))
 show wpAny _ _ (Builtin.SmallTypes.nextOf (.ref n) >>= _) _ _ _
 refine wpAny_bind (wpAny_nextOf_list_item q₁.i1 q₁.s1 hx λh₂ g₂ e₂=>wpAny_pure ?_)
 obtain⟨r1,r2,r3,r4⟩:=q₁.one g₂ e₂
 have o₂:IsPair h₂ (n+3) a b:=e₂.extBut _ _ (dL (by omega)) (e₁.extBut _ _ (dL (by omega)) ho)
 refine wpAny_bind (wpAny_seqItems o₂ rfl (wpAny_bind (wpAny_updateSeq_pair o₂ λh₃ o₃ e₃=>wpAny_bind (wpAny_letGo (wpAny_pure ?_)))))
 replace o₃:IsPair h₃ (n+3) x b:=o₃
 refine wpAny_bind (wpAny_bind (wpAny_onRaise ?_))
 show wpAny _ _ (Builtin.SmallTypes.nextOf (.ref (n+1)) >>= _) _ _ _
 refine wpAny_bind (Enu.tupNext (r1.at λo g=>e₃.extBut _ _ (dL (by omega)) g) (gh r3 λo g=>e₃.extBut _ _ (dL (by omega)) g) hy λh₄ g₄ e₄=>wpAny_pure ?_)
 have o₄:IsPair h₄ (n+3) x b:=e₄.extBut _ _ (dL (by omega)) o₃
 refine wpAny_bind (wpAny_seqItems o₄ rfl (wpAny_bind (wpAny_updateSeq_pair o₄ λh₅ o₅ e₅=>wpAny_bind (wpAny_letGo (wpAny_pure (wpAny_pure ?_))))))
 replace o₅:IsPair h₅ (n+3) x y:=o₅
 refine wpAny_bind (wpAny_seqItems o₅ rfl (wpAny_bind (wpAny_newTuple ?_)))
 have z₅:h₅.objs.size=s'.heap.objs.size:=by rw[e₅.1,e₄.1,e₃.1,e₂.1,e₁.1]
 have up:∀c o,c≠n->c≠n+1->c≠n+3->h₁.get? c=some o->h₅.get? c=some o:=λc o c1 c2 c3 g=>e₅.extBut _ _ c3 (e₄.extBut _ _ c2 (e₃.extBut _ _ c3 (e₂.extBut _ _ c1 g)))
 show wpAny _ _ (Builtin.SmallTypes.ownedTupleHandOut (.ref (n+4)) (.ref h₅.objs.size) >>= _) _ _ _
 have z5:zO (h₅.push { cls:=.type "tuple",data:=.seq #[x,y] }) (n+4) (n+2) (n+3) .ellipsis (.bool false):=Heap.get?_push_of_some _ (up _ _ (dL (by omega)) (dL (by omega)) (dL (by omega)) kz₁)
 have hn:n+4<h₅.objs.size:=Heap.lt_size (up _ _ (dL (by omega)) (dL (by omega)) (dL (by omega)) kz₁)
 refine wpAny_bind ?_
 unfold Builtin.SmallTypes.ownedTupleHandOut;refine wpAny_bind (wpAny_setField_rec z5 (by simp) λh₇ z₇ e₇=> ?_)
 replace z₇:zO h₇ (n+4) (n+2) (n+3) (rawInt h₅.objs.size) (.bool false):=z₇
 refine wpAny_setField_rec z₇ (by simp) λh₈ z₈ e₈=>wpAny_pure ⟨_,rfl,?_⟩
 replace z₈:zO h₈ (n+4) (n+2) (n+3) (rawInt h₅.objs.size) (.bool false):=z₈
 have up8:∀c o,c≠n+4->h₅.get? c=some o->h₈.get? c=some o:=λc o c1 g=>e₈.extBut _ _ c1 (e₇.extBut _ _ c1 (Heap.get?_push_of_some _ g))
 refine kq h₈ h₅.objs.size (Nat.le_of_eq z₅.symm) (e₈.extBut _ _ (dL (by omega)) (e₇.extBut _ _ (dL (by omega)) (Heap.get?_push_size _ rfl))) z₈ ⟨b1,b2,up8 _ _ (dL (by omega)) (up _ _ (dL (by omega)) (dL (by omega)) (dL (by omega)) q₁.pr),?_,?_,?_,?_⟩ λc o c1 c2 c3 c4 g=>up8 c o c4 (up c o c1 c2 c3 (e₁.extBut _ _ c4 g))
 ·exact g₂.at λo g=>up8 _ _ (dL (by omega)) (e₅.extBut _ _ (dL (by omega)) (e₄.extBut _ _ (dL (by omega)) (e₃.extBut _ _ (dL (by omega)) g)))
 ·exact g₄.at λo g=>up8 _ _ (dL (by omega)) (e₅.extBut _ _ (dL (by omega)) g)
 ·exact q₁.s1.at λo g=>up8 _ _ (dL (by omega)) (up _ o (dL (by omega)) (dL (by omega)) (dL (by omega)) g)
 ·exact gh q₁.s2 λo g=>up8 _ _ (dL (by omega)) (up _ o (dL (by omega)) (dL (by omega)) (dL (by omega)) g)
theorem uI {T:Addr}{ob:Obj}{f:Bool}{Q:Fin->Shared->Prop}(hh:A.handled=none)(q:Zp s.heap n l1 t2 k xs ys)(kz:zO s.heap (n+4) (n+2) (n+3) (rawInt T) (.bool f))(kT:s.heap.get? T=some ob)(hx:xs[k]? =none)
  (ke:∀h' e,(∀c o,c≠n->c≠n+4->s.heap.get? c=some o->h'.get? c=some o)->(∃o,h'.get? e=some o/\o.cls= .type "StopIteration")->E (.ref e) { s with heap:=h' }) :
  wpAny (model prog w) A (Builtin.«zip.__next__» ⟨[.ref (n+4)],[]⟩) Q E s:=by
 show wpAny _ _ (field (.ref (n+4)) 2 >>= _) _ _ _
 refine wpAny_bind (wpAny_field kz rfl (x:=.bool false) rfl ?_)
 show wpAny _ _ (field (.ref (n+4)) 3 >>= _) _ _ _
 refine wpAny_bind (wpAny_field kz rfl (x:=.ref (n+2)) rfl ?_)
 refine wpAny_bind (wpAny_seqItems q.pr rfl ?_)
 show wpAny _ _ (Builtin.SmallTypes.ownedTupleIsFree (.ref (n+4)) >>= _) _ _ _
 refine wpAny_bind (oU kz kT λh₁ kz₁ e₁ z₁=> ?_)
 have q₁:Zp h₁ n l1 t2 k xs ys:=q.keep λc o hc g=>e₁ c o (by omega) g
 simp only[Bool.false_eq_true,if_false,List.forIn_toArray,List.forIn_cons,List.forIn_nil];refine wpAny_bind (wpAny_bind (wpAny_bind (wpAny_holding ?_)))
 show wpAny _ _ (Builtin.SmallTypes.nextOf (.ref n) >>= _) _ _ _
 exact wpAny_bind (wpAny_nextOf_list_end hh q₁.i1 q₁.s1 hx λh₂ e e₂ he=>ke h₂ e (λc o c1 c4 g=>e₂ _ _ c1 (e₁ c o c4 g)) he)
theorem xg {T:Addr}{ob:Obj}{f:Bool}{Q:Option Value->Shared->Prop}(q:Zp s.heap n l1 t2 k xs ys)(kz:zO s.heap (n+4) (n+2) (n+3) (rawInt T) (.bool f))(kT:s.heap.get? T=some ob)(hx:xs[k]? =some x)(hy:ys[k]? =some y)
  (kq:∀h' p,s.heap.objs.size<=p->IsPair h' p x y->zO h' (n+4) (n+2) (n+3) (rawInt T) (.bool true)->Zp h' n l1 t2 (k+1) xs ys->(∀c o,c≠n->c≠n+1->c≠n+4->s.heap.get? c=some o->h'.get? c=some o)->Q (some (.ref p)) { s with heap:=h' }) :
  wpAny (model prog w) A (pyNext (.ref (n+4))) Q E s:=by
 have hy':s.TypeIs (.ref (n+4)) "zip":=⟨_,kz,rfl⟩;unfold pyNext;exact wpAny_bind (wpAny_attempt (wpAny_callSpecial?_slot (name:=Str.ofString "__next__") hy' F.slot_zip_next (wpAny_call_entry F.slot_zip_next hy' F.entry_zip_next (uJ q kz kT hx hy λh' p a1 a2 a3 a4 a5=>wpAny_pure (kq h' p a1 a2 a3 a4 a5)) (F.args_zip_next_1 _))))
theorem uH {a b:Value}{Q:Option Value->Shared->Prop}(q:Zp s.heap n l1 t2 k xs ys)(kz:zO s.heap (n+4) (n+2) (n+3) .none (.bool false))(ho:IsPair s.heap (n+3) a b)(hx:xs[k]? =some x)(hy:ys[k]? =some y)
  (kq:∀h' p,s.heap.objs.size<=p->IsPair h' p x y->zO h' (n+4) (n+2) (n+3) (rawInt p) (.bool false)->Zp h' n l1 t2 (k+1) xs ys->(∀c o,c≠n->c≠n+1->c≠n+3->c≠n+4->s.heap.get? c=some o->h'.get? c=some o)->Q (some (.ref p)) { s with heap:=h' }) :
  wpAny (model prog w) A (pyNext (.ref (n+4))) Q E s:=by
 have hy':s.TypeIs (.ref (n+4)) "zip":=⟨_,kz,rfl⟩;unfold pyNext;exact wpAny_bind (wpAny_attempt (wpAny_callSpecial?_slot (name:=Str.ofString "__next__") hy' F.slot_zip_next (wpAny_call_entry F.slot_zip_next hy' F.entry_zip_next (tq q kz ho hx hy λh' p a1 a2 a3 a4 a5=>wpAny_pure (kq h' p a1 a2 a3 a4 a5)) (F.args_zip_next_1 _))))
theorem xf {T:Addr}{ob:Obj}{f:Bool}{Q:Option Value->Shared->Prop}(hh:A.handled=none)(q:Zp s.heap n l1 t2 k xs ys)(kz:zO s.heap (n+4) (n+2) (n+3) (rawInt T) (.bool f))(kT:s.heap.get? T=some ob)(hx:xs[k]? =none)
  (kq:∀h',(∀c o,c≠n->c≠n+4->s.heap.get? c=some o->h'.get? c=some o)->Q none { s with heap:=h' }):wpAny (model prog w) A (pyNext (.ref (n+4))) Q E s:=by
 have hy':s.TypeIs (.ref (n+4)) "zip":=⟨_,kz,rfl⟩;unfold pyNext;refine wpAny_bind (wpAny_attempt (wpAny_callSpecial?_slot (name:=Str.ofString "__next__") hy' F.slot_zip_next (wpAny_call_entry F.slot_zip_next hy' F.entry_zip_next (uI hh q kz kT hx λh' e a1 he=> ?_) (F.args_zip_next_1 _))))
 obtain⟨o,ho,hc⟩:=he;exact wpAny_bind (wpAny_isInstance (T:="StopIteration") (b:=true) ⟨o,ho,hc⟩ isSubtype_stop (wpAny_pure (kq _ a1)))
theorem xh {f0 f1:Value}{Q:Value->Shared->Prop}(kz:zO s.heap (n+4) (n+2) (n+3) f0 f1)(h:Q (.ref (n+4)) s):wpAny (model prog w) A (pyIter (.ref (n+4))) Q E s:=by
 have hy':s.TypeIs (.ref (n+4)) "zip":=⟨_,kz,rfl⟩;refine wpAny_pyIter_slot hy' F.slot_zip_iter (wpAny_call_entry F.slot_zip_iter hy' F.entry_zip_iter ?_ (F.args_zip_iter_1 _))
 show wpAny _ _ (ret (.ref (n+4))) _ _ s
 exact wpAny_pure ⟨_,rfl,"zip",_,hy',F.slot_zip_next.lookup,h⟩
end
abbrev BP (h:Heap)(l t:Addr):Heap:=h.push { cls:=.type "list_iterator",data:=.fields #[.ref l,.int 0 0] }
abbrev Dh (h:Heap)(l t:Addr):Heap:=(BP h l t).push { cls:=.type "tuple_iterator",data:=.fields #[.ref t,.int 0 0] }
abbrev Dg (h:Heap)(l t:Addr):Heap:=(Dh h l t).push { cls:=.type "tuple",data:=.seq #[.ref h.objs.size,.ref (BP h l t).objs.size] }
abbrev Df (h:Heap)(l t:Addr):Heap:=(Dg h l t).push { cls:=.type "tuple",data:=.seq #[.none,.none] }
abbrev zf (h:Heap)(l t:Addr):Heap:=(Df h l t).push { cls:=.type "zip",data:=.fields #[.none,.bool false,.bool false,.ref (Dh h l t).objs.size,.ref (Dg h l t).objs.size] }
theorem tU (l t:Addr)(xs ys:Array Value):Meets (Builtin.«zip.__new__» ⟨[.type "zip",.ref l,.ref t],[]⟩) (λ_ R s=>s.heap.IsList l xs/\s.heap.IsTuple t ys/\R (.ok (.ret (.ref (Df s.heap l t).objs.size))) { s with heap:=zf s.heap l t }):=
 .of_wp λprog w A R s q=>by
  obtain⟨hp,g,d,tk,os⟩:=s;obtain⟨a1,a2,q⟩:=q
  have k0:=sub_zip
  have k1:Heap.IsList (Shared.heap ⟨hp,g,d,tk,os⟩) l xs:=a1
  have k2:Heap.IsTuple (Shared.heap ⟨BP hp l t,g,d,tk,os⟩) t ys:=gh a2 λo e=>Heap.get?_push_of_some _ e
  wp_walk using wpAny_pyIter_list k1,wpAny_pyIter_tuple k2
  exact⟨_,rfl,q⟩
section
variable {prog:Program}{w:World}{A:Around}{E:Value->Shared->Prop}{s:Shared}
theorem xi {l t:Addr}{xs ys:Array Value}{Q:Value->Shared->Prop}(a1:s.heap.IsList l xs)(a2:s.heap.IsTuple t ys)
  (q:∀h',Zp h' s.heap.objs.size l t 0 xs ys->zO h' (s.heap.objs.size+4) (s.heap.objs.size+2) (s.heap.objs.size+3) .none (.bool false)->IsPair h' (s.heap.objs.size+3) .none .none->h'.objs.size=s.heap.objs.size+5 →
   (∀c o,s.heap.get? c=some o->h'.get? c=some o)->Q (.ref (s.heap.objs.size+4)) { s with heap:=h' }) :
  wpAny (model prog w) A (call (.type "zip") [.ref l,.ref t]) Q E s:=by
 refine callType_new F.called_zip (by decide) (F.typeCall_zip_2 _ _) (F.newCall_zip_2 _ _) (λobj=>F.args_object_init_3 obj _ _) F.entry_zip_new (tU l t xs ys) ⟨a1,a2,?_⟩
 have z1:(BP s.heap l t).objs.size=s.heap.objs.size+1:=Heap.size_push ..
 have z2:(Dh s.heap l t).objs.size=s.heap.objs.size+2:=by rw[Heap.size_push,z1]
 have z3:(Dg s.heap l t).objs.size=s.heap.objs.size+3:=by rw[Heap.size_push,z2]
 have z4:(Df s.heap l t).objs.size=s.heap.objs.size+4:=by rw[Heap.size_push,z3]
 have z5:(zf s.heap l t).objs.size=s.heap.objs.size+5:=by rw[Heap.size_push,z4]
 have g5:(zf s.heap l t).get? (Df s.heap l t).objs.size=some _:=Heap.get?_push_size _ rfl
 have g4:(zf s.heap l t).get? (Dg s.heap l t).objs.size=some _:=Heap.get?_push_of_some _ (Heap.get?_push_size _ rfl)
 have g3:(zf s.heap l t).get? (Dh s.heap l t).objs.size=some _:=Heap.get?_push_of_some _ (Heap.get?_push_of_some _ (Heap.get?_push_size _ rfl))
 have g2:(zf s.heap l t).get? (BP s.heap l t).objs.size=some _:=Heap.get?_push_of_some _ (Heap.get?_push_of_some _ (Heap.get?_push_of_some _ (Heap.get?_push_size _ rfl)))
 have g1:(zf s.heap l t).get? s.heap.objs.size=some _:=Heap.get?_push_of_some _ (Heap.get?_push_of_some _ (Heap.get?_push_of_some _ (Heap.get?_push_of_some _ (Heap.get?_push_size _ rfl))))
 have up:∀c o,s.heap.get? c=some o->(zf s.heap l t).get? c=some o:=λc o e=>Heap.get?_push_of_some _ (Heap.get?_push_of_some _ (Heap.get?_push_of_some _ (Heap.get?_push_of_some _ (Heap.get?_push_of_some _ e))))
 show _/\_
 rw[z2,z3,z4]at g5;rw[z1,z2]at g3;rw[z3]at g4;rw[z1]at g2;rw[z4]
 have lt1:l<s.heap.objs.size:=by obtain⟨o,e,_⟩:=a1;exact Heap.lt_size e
 have lt2:t<s.heap.objs.size:=by obtain⟨o,e,_⟩:=a2;exact Heap.lt_size e
 exact⟨⟨_,g5,rfl⟩,q _ ⟨lt1,lt2,g3,⟨_,g1,rfl,rfl⟩,⟨_,g2,rfl,rfl⟩,a1.at λo e=>up _ o e,gh a2 λo e=>up _ o e⟩ g5 g4 z5 up⟩
end
end PySem
namespace Tr
open PySem PySem.Spec PyProof.Rows L2
def ZAt (H:Hp):List V->List V->List (List Key×V)->Prop
 | [],[],ps=>ps= []
 | x::xs,y::ys,ps=> ∃kb p r,ps=p::r/\x= .ref kb/\H kb=some (.tup (p.1.map kV))/\p.2=y/\ZAt H xs ys r
 | _,_,_=>False
theorem ZAt.mono {H H':Hp}(h:∀b vs,H b=some (.tup vs)->H' b=some (.tup vs)):∀{xs ys:List V} {ps:List (List Key×V)},ZAt H xs ys ps->ZAt H' xs ys ps
 | [],[],_,z=>z
 | [],_::_,_,z=>z
 | _::_,[],_,z=>z
 | x::xs,y::ys,_,⟨kb,p,r,e1,e2,e3,e4,e5⟩=>⟨kb,p,r,e1,e2,h _ _ e3,e4,e5.mono h⟩
theorem ZAt.len {H:Hp}:∀{xs ys:List V} {ps:List (List Key×V)},ZAt H xs ys ps->xs.length=ys.length
 | [],[],_,_=>rfl
 | [],_::_,_,z=>z.elim
 | _::_,[],_,z=>z.elim
 | x::xs,y::ys,_,⟨kb,p,r,e1,e2,e3,e4,e5⟩=>by rw[List.length_cons,List.length_cons,e5.len]
section
variable {X:Cx}{pins:List (Addr×Obj)}{σ:L2.St}{A:Around}{res:Value}{R:Result->Shared->Prop}{d it:Addr}
theorem sS {Ex:Heap->Prop}{i:Nat}{s:Shared}{H:Hp}{kvs:List (List Key×V)}{kb:Addr}{kk:List Key}{v:V}(hu:A.units+3<cLine)(hd:H d=some (.dT kvs))(hz:kvs.length<1000)(hk:H kb=some (.tup (kk.map kV)))
  (hn:∀{Q:Option Value->Shared->Prop} {E:Value->Shared->Prop},(∀h' p u2,Inv X pins σ H { s with heap:=h' }->IsPair h' p (.ref kb) u2->RelV v u2->Ex h'->Q (some (.ref p)) { s with heap:=h' })->wpAny (model X.prog X.w) A.in1 (pyNext (.ref it)) Q E s)
  (nx:∀h' h2 tk,Ex h'->(∀c,c≠d->h2.get? c=h'.get? c)->Inv X pins σ (upd H d (.dT (ci kvs kk v))) { s with heap:=h2,toks:=tk }->codeAny (model X.prog X.w) A (.builtin "dict.update.loop" ⟨[.ref d,.ref it,rawInt ((i+1:Nat):Int),res],[]⟩) R { s with heap:=h2,toks:=tk }) :
  codeAny (model X.prog X.w) A (.builtin "dict.update.loop" ⟨[.ref d,.ref it,rawInt (i:Nat),res],[]⟩) R s:=by
 refine codeAny_builtin F.entry_dict_update_loop ?_
 rw[Around.under_plainId F.plain_dict_update_loop _]
 show wpAny _ A.in1 (pyNext (.ref it) >>= _) _ _ s
 refine wpAny_bind (hn λh' p u2 I1 hp q2 hx=> ?_)
 show wpAny _ A.in1 (holding [Value.ref p] _ >>= _) _ _ _
 refine wpAny_bind (wpAny_holding (wpAny_bind (wpAny_tryCatch ?_)))
 unfold Builtin.Dict.pairItems;refine wpAny_bind (wpAny_typeOf (s:={ s with heap:=h' }) (T:="tuple") ⟨_,hp,rfl⟩ ?_)
 rw[if_pos (by decide)]
 refine wpAny_bind (wpAny_seqItems (s:={ s with heap:=h' }) hp rfl (wpAny_pure ?_))
 show wpAny _ _ (holding [Value.ref kb,u2] (dictSet d (.ref kb) u2)) _ _ _
 refine wpAny_holding ?_
 obtain⟨zz,hds,xs2,rel,dd⟩:=sQ I1.hok hd
 have hzl:xs2.length<=sizeLine:=by rw[<-Paired.length rel];exact zz
 have hkl:kvs.length<sizeLine:=by rw[sizeLine_eq];omega
 have hl2:(ci kvs kk v).length<=sizeLine:=by have:=dv kvs kk v;omega
 refine wpAny_dictSet_heap (hsz:=hzl) (tupleKind_room_in1 (by show A.units+1<cLine;omega)) (li I1.hok hk) dd λh2 dd2 hs2=> ?_
 obtain⟨q,es,ep,hq,h22,h3,h4,_,h5⟩:=dd2
 have I2:Inv X pins σ (upd H d (.dT (ci kvs kk v))) { s with heap:=h2,toks:=s.toks+(tupleKind (ck X.prog X.w)).draws kk }:=
  jq (s:={ s with heap:=h' }) I1 (by rw[hd];exact True.intro) hs2 ⟨q,hq⟩ ⟨hl2,hds,_,(rel.put kk hk q2).keeps λc ys ec=>by rw[ar (gO ec hd (λz=>nomatch z))];exact ec,q,es,ep,hq,h22,h3,h4,h5⟩
 have hcast:(i:Int)+1=((i+1:Nat):Int):=by omega
 refine wpAny_pure ⟨plainId_quiet F.plain_dict_update_loop _,?_⟩
 rw[hcast];exact nx h' h2 _ hx (λc hc=>hs2.2 c hc) I2
theorem BA {s:Shared}{i:Nat}(hn:∀{Q:Option Value->Shared->Prop} {E:Value->Shared->Prop},(∀h',R (.ok (.ret res)) { s with heap:=h' }->Q none { s with heap:=h' })->wpAny (model X.prog X.w) A.in1 (pyNext (.ref it)) Q E s) :
  codeAny (model X.prog X.w) A (.builtin "dict.update.loop" ⟨[.ref d,.ref it,rawInt (i:Nat),res],[]⟩) R s:=by
 refine codeAny_builtin F.entry_dict_update_loop ?_
 rw[Around.under_plainId F.plain_dict_update_loop _]
 show wpAny _ A.in1 (pyNext (.ref it) >>= _) _ _ s
 refine wpAny_bind (hn λh' hr=> ?_)
 show wpAny _ _ (Builtin.Dict.addKeywords d [] >>= _) _ _ _
 exact wpAny_bind (wpAny_pure (wpAny_pure hr))
theorem xj {n l1 t2:Nat}{us ws:Array Value}{xs ys:List V}{T:Addr}(hh:A.handled=none)(hu:A.units+3<cLine)(rx:Vals xs us.toList)(ry:Vals ys ws.toList)(hTn:n+4<T)(hTd:T≠d):∀(k i:Nat) (s:Shared) (H:Hp) (kvs ps:List (List Key×V)) (f:Bool) (ob:Obj),xs.length - i=k->i<=xs.length->H d=some (.dT kvs)->kvs.length+(xs.length - i)<=1000 →
  Inv X pins σ H s->Zp s.heap n l1 t2 i us ws->zO s.heap (n+4) (n+2) (n+3) (rawInt T) (.bool f)->s.heap.get? T=some ob->(∀j:Nat,j<5->ju X pins H (n+j))->l1≠d->t2≠d->ZAt H (xs.drop i) (ys.drop i) ps →
  (∀s',Inv X pins σ (upd H d (.dT (dJ kvs ps))) s'->R (.ok (.ret res)) s')->codeAny (model X.prog X.w) A (.builtin "dict.update.loop" ⟨[.ref d,.ref (n+4),rawInt i,res],[]⟩) R s:=by
 have lenx:=rx.length
 have leny:=ry.length;intro k
 induction k with
 | zero=>
  intro i s H kvs ps f ob hk hi hd hz I q kz kT hf hl1 ht2 hp hR
  have hnil:xs.drop i= []:=List.drop_eq_nil_of_le (by omega)
  have hny:ys.drop i= []:=by
   have:=hp.len;rw[hnil]at this;exact List.length_eq_zero_iff.mp this.symm
  rw[hnil,hny]at hp;unfold ZAt at hp;subst hp
  have e2:upd H d (.dT (dJ kvs []))=H:=by
   funext b
   by_cases hb:b=d
   ·rw[hb,aw,hd];rfl
   ·rw[ar hb]
  rw[e2]at hR;refine BA λ{Q E} hq=>xf hh q kz kT (by rw[Array.getElem?_eq_none];rw[<-Array.length_toList];omega) λh' e=>hq h' (hR _ ?_)
  exact I.turnedL (fp:=[n,n+4]) (t':=s.toks) (λb hb=>by
   simp only[List.mem_cons,List.not_mem_nil,or_false]at hb;rcases hb with rfl | rfl
   ·exact hf 0 (by omega)
   ·exact hf 4 (by omega)) λb o hb eb=>e b o (λz=>hb (by rw[z];simp)) (λz=>hb (by rw[z];simp)) eb
 | succ k ih=>
  intro i s H kvs ps f ob hk hi hd hz I q kz kT hf hl1 ht2 hp hR
  have hlt:i<xs.length:=by omega
  have hdx:xs.drop i=xs[i] ::xs.drop (i+1):=List.drop_eq_getElem_cons hlt
  have hyl:i<ys.length:=by
   have:=hp.len;rw[List.length_drop,List.length_drop]at this;omega
  have hdy:ys.drop i=ys[i] ::ys.drop (i+1):=List.drop_eq_getElem_cons hyl;rw[hdx,hdy]at hp;obtain⟨kb,p,r,rfl,ex,hkb,ep,hp'⟩:=hp;obtain⟨u1,q1,q2⟩:=rx.get (List.getElem?_eq_getElem hlt)
  obtain⟨u2,q3,q4⟩:=ry.get (List.getElem?_eq_getElem hyl)
  rw[Array.getElem?_toList]at q1 q3
  rw[ex]at q2;obtain rfl:u1=Value.ref kb:=q2;rw[<-ep]at q4
  have hd0:∀j:Nat,j<5->n+j≠d:=λj hj z=>by have:=(hf j hj).1;rw[z,hd]at this;cases this
  refine sS (pins:=pins) (σ:=σ) (Ex:=λh'=>Zp h' n l1 t2 (i+1) us ws/\zO h' (n+4) (n+2) (n+3) (rawInt T) (.bool true)/\h'.get? T=some ob) hu hd (by omega) hkb (λ{Q E} hq=>xg q kz kT q1 q3 λh' b _ a2 a3 a4 a5=>hq h' b u2 ?_ a2 q4 ⟨a4,a3,a5 _ _ (dL (by omega)) (dL (by omega)) (dL (by omega)) kT⟩) λh1 h2 tk hx3 e2 I2=> ?_
  ·exact I.turnedL (fp:=[n,n+1,n+4]) (t':=s.toks) (λb hb=>by
    simp only[List.mem_cons,List.not_mem_nil,or_false]at hb;rcases hb with rfl | rfl | rfl
    ·exact hf 0 (by omega)
    ·exact hf 1 (by omega)
    ·exact hf 4 (by omega)) λb o hb eb=>a5 b o (λz=>hb (by rw[z];simp)) (λz=>hb (by rw[z];simp)) (λz=>hb (by rw[z];simp)) eb
  ·obtain⟨x1,x2,x3⟩:=hx3
   have lt1:=x1.b1
   have lt2:=x1.b2
   have x1':Zp h2 n l1 t2 (i+1) us ws:=⟨x1.b1,x1.b2,(e2 _ (hd0 2 (by omega))).trans x1.pr,x1.i1.at λo g=>(e2 _ (hd0 0 (by omega))).trans g,x1.i2.at λo g=>(e2 _ (hd0 1 (by omega))).trans g,x1.s1.at λo g=>(e2 _ hl1).trans g,gh x1.s2 λo g=>(e2 _ ht2).trans g⟩
   refine ih (i+1) _ (upd H d (.dT (ci kvs p.1 p.2))) (ci kvs p.1 p.2) r true ob (by omega) (by omega) aw (by have:=dv kvs p.1 p.2;omega) I2 x1' ((e2 _ (hd0 4 (by omega))).trans x2) ((e2 _ hTd).trans x3) (λj hj=>⟨by rw[ar (hd0 j hj)];exact(hf j hj).1,(hf j hj).2⟩) hl1 ht2 (hp'.mono λb vs e=>by rw[ar (gO e hd (λz=>nomatch z))];exact e) λs' I'=> ?_
   rw[hG]at I';exact hR s' I'
end
section
variable {X:Cx}{pins:List (Addr×Obj)}{σ:L2.St}{A:Around}{E:Value->Shared->Prop}{H:Hp}{s:Shared}{n l1 t2:Nat}{us ws:Array Value}{xs ys:List V}{ps:List (List Key×V)}
theorem yQ {Q:Value->Shared->Prop}(hh:A.handled=none)(hu:A.units+8<cLine)(I:Inv X pins σ H s)(q:Zp s.heap n l1 t2 0 us ws)(kz:zO s.heap (n+4) (n+2) (n+3) .none (.bool false))(ko:IsPair s.heap (n+3) .none .none)
  (hf:∀j:Nat,j<5->ju X pins H (n+j)) (rx:Vals xs us.toList) (ry:Vals ys ws.toList) (h1:1<=xs.length) (hz:xs.length<=1000) (hp:ZAt H xs ys ps)
  (h:∀p s',Nw X.K H p->Inv X pins σ (upd H p (.dT (dJ [] ps))) s'->Q (.ref p) s'):wpAny (model X.prog X.w) A (call (.type "dict") [.ref (n+4)]) Q E s:=by
 have hk:X.K.lookup s.heap.objs.size=none:=by
  cases q:X.K.lookup s.heap.objs.size with
  | none=>rfl
  | some o=>exact absurd (Heap.lt_size (I.kIn _ o q)) (Nat.lt_irrefl _)
 have hn:H s.heap.objs.size=none:=I.hok.fresh (Nat.le_refl _)
 have z4:n+4<s.heap.objs.size:=Heap.lt_size kz
 have b1:=q.b1
 have b2:=q.b2;refine callType_codes (Q₁:=λobj s₁=>obj= .ref s.heap.objs.size/\s₁= { s with heap:=s.heap.push { cls:=.type "dict",data:=.dict #[] } }) F.kt_called_dict (F.kt_typeCall_dict_1 _) F.entry_dict_init (kt_code_dict_new _ ⟨rfl,rfl⟩) ?_
 rintro obj s₁ ⟨rfl,rfl⟩
 have I1:Inv X pins σ (upd H s.heap.objs.size (.dT [])) { s with heap:=s.heap.push { cls:=.type "dict",data:=.dict #[] } }:=I.laid (a:=s.heap.objs.size) (o:=.dT []) (t':=s.toks) (λ_ _ q=>Heap.get?_push_of_some _ q) (Nat.le_refl _) (lz s.heap I.big)
 have hT:({ s with heap:=s.heap.push { cls:=.type "dict",data:=.dict #[] } }:Shared).TypeIs (.ref s.heap.objs.size) "dict":=⟨_,Heap.get?_push_size _ rfl,rfl⟩
 have kz1:zO (s.heap.push { cls:=.type "dict",data:=.dict #[] }) (n+4) (n+2) (n+3) .none (.bool false):=Heap.get?_push_of_some _ kz
 refine⟨hT,F.args_dict_init_2 _ _,?_⟩
 unfold Builtin.«dict.__init__»;refine wpAny_bind ?_
 unfold Builtin.Dict.selfAndRest;refine wpAny_bind (wpAny_notOrdered_dict hT ?_)
 show wpAny _ _ (pure (s.heap.objs.size,[Value.ref (n+4)])) _ _ _
 refine wpAny_pure ?_
 show wpAny _ _ (Builtin.Dict.updateFrom "dict.__init__" s.heap.objs.size (.ref (n+4)) [] .none) _ _ _
 unfold Builtin.Dict.updateFrom;refine wpAny_bind (wpAny_typeOf (T:="zip") ⟨_,kz1,rfl⟩ ?_)
 rw[if_pos (by decide)]
 refine wpAny_bind (zk3 kz1 hh λh' tk' kp=> ?_)
 have I2:Inv X pins σ (upd H s.heap.objs.size (.dT [])) { s with heap:=h',toks:=tk' }:=I1.kept (t':=tk') kp
 have up:∀c o,s.heap.get? c=some o->h'.get? c=some o:=λc o e=>kp c o (Heap.get?_push_of_some _ e)
 rw[if_pos (by rfl)]
 refine wpAny_bind (wpAny_rule ?_)
 have kz2:zO h' (n+4) (n+2) (n+3) .none (.bool false):=up _ _ kz;refine wpAny_bind (xh (s:={ s with heap:=h',toks:=tk' }) kz2 ?_)
 refine wpAny_pure ⟨plainId_quiet F.plain_dict_update_loop _,?_⟩
 have q2:Zp h' n l1 t2 0 us ws:=q.keep λc o _ e=>up c o e
 have hsz:s.heap.objs.size<h'.objs.size:=Heap.lt_size (kp _ _ (Heap.get?_push_size _ rfl))
 have hf2:∀j:Nat,j<5->ju X pins (upd H s.heap.objs.size (.dT [])) (n+j):=λj hj=>⟨by rw[ar (dL (by omega))];exact(hf j hj).1,(hf j hj).2⟩
 obtain⟨x,xs',rfl⟩:∃x xs',xs=x::xs':=by
  cases xs with
  | nil=>simp at h1
  | cons x xs'=>exact⟨x,xs',rfl⟩
 obtain⟨y,ys',rfl⟩:∃y ys',ys=y::ys':=by
  cases ys with
  | nil=>exact hp.elim
  | cons y ys'=>exact⟨y,ys',rfl⟩
 obtain⟨kb,p,r,rfl,ex,hkb,ep,hp'⟩:=hp;obtain⟨u1,v1,v2⟩:=rx.get (i:=0) rfl;obtain⟨u2,v3,v4⟩:=ry.get (i:=0) rfl;rw[Array.getElem?_toList]at v1 v3
 rw[ex]at v2;obtain rfl:u1=Value.ref kb:=v2;rw[<-ep]at v4;rw[List.length_cons]at hz
 have tupk:∀(o:List (List Key×V)) b vs,H b=some (.tup vs)->upd H s.heap.objs.size (.dT o) b=some (.tup vs):=λo b vs e=>by rw[ar (λz=>by rw[z,hn]at e;cases e)];exact e
 refine sS (A:=A.in1) (X:=X) (pins:=pins) (σ:=σ) (i:=0) (kvs:=[]) (Ex:=λh1=>Zp h1 n l1 t2 1 us ws/\∃T ob,h'.objs.size<=T/\zO h1 (n+4) (n+2) (n+3) (rawInt T) (.bool false)/\h1.get? T=some ob) (by show A.units+1+3<cLine;omega) aw (by simp) (tupk _ _ _ hkb)
  (λ{Q E} hq=>uH q2 kz2 (up _ _ ko) v1 v3 λh1 b a1 a2 a3 a4 a5=>hq h1 b u2 ?_ a2 v4 ⟨a4,b,_,a1,a3,a2⟩) λh1 h2 tk hx3 e2 I3=> ?_
 ·exact I2.turnedL (fp:=[n,n+1,n+3,n+4]) (t':=tk') (λb hb=>by
   simp only[List.mem_cons,List.not_mem_nil,or_false]at hb;rcases hb with rfl | rfl | rfl | rfl
   ·exact hf2 0 (by omega)
   ·exact hf2 1 (by omega)
   ·exact hf2 3 (by omega)
   ·exact hf2 4 (by omega)) λb o hb eb=>a5 b o (λz=>hb (by rw[z];simp)) (λz=>hb (by rw[z];simp)) (λz=>hb (by rw[z];simp)) (λz=>hb (by rw[z];simp)) eb
 ·obtain⟨x1,T,ob,hTs,x2,x3⟩:=hx3
  have hd0:∀j:Nat,j<5->n+j≠s.heap.objs.size:=λj hj=>dL (by omega)
  have x1':Zp h2 n l1 t2 1 us ws:=⟨x1.b1,x1.b2,(e2 _ (hd0 2 (by omega))).trans x1.pr,x1.i1.at λo g=>(e2 _ (hd0 0 (by omega))).trans g,x1.i2.at λo g=>(e2 _ (hd0 1 (by omega))).trans g,x1.s1.at λo g=>(e2 _ (dL (by omega))).trans g,gh x1.s2 λo g=>(e2 _ (dL (by omega))).trans g⟩
  rw[hG]at I3;refine xj (A:=A.in1) (X:=X) (pins:=pins) (σ:=σ) (xs:=x::xs') (ys:=y::ys') (T:=T) hh (by show A.units+1+3<cLine;omega) rx ry (by omega) (dL (by omega)) xs'.length 1 _ (upd H s.heap.objs.size (.dT (ci [] p.1 p.2))) (ci [] p.1 p.2) r false ob (by rw[List.length_cons];omega) (by rw[List.length_cons];omega) aw (by rw[List.length_cons];show 1+_<=1000;omega) I3 x1' ((e2 _ (hd0 4 (by omega))).trans x2) ((e2 _ (dL (by omega))).trans x3) (λj hj=>⟨by rw[ar (hd0 j hj)];exact(hf j hj).1,(hf j hj).2⟩) (dL (by omega)) (dL (by omega)) (hp'.mono (tupk _)) λs' I'=> ?_
  rw[hG]at I';exact⟨rfl,h _ _ ⟨hn,hk⟩ I'⟩
theorem zg {K:PySem.W.Frag}{O:Ow}{H:Hp}:∀{l m:List T} {xs ys:List V},fZ l=true->l.length=m.length->Reps K O H l xs->Reps K O H m ys->∃ps,ZAt H xs ys ps/\Dp K O H (l.zip m) ps
 | [],[],xs,ys,_,_,r1,r2=>by cases Reps.nil_iff.mp r1;cases Reps.nil_iff.mp r2;exact⟨[],rfl,rfl⟩
 | [],_::_,_,_,_,h,_,_=>by simp at h
 | _::_,[],_,_,_,h,_,_=>by simp at h
 | a::l,b::m,xs,ys,hk,h,r1,r2=>by
  obtain⟨v,vs,rfl,p1,q1⟩:=Reps.cons_iff.mp r1;obtain⟨w,ws,rfl,p2,q2⟩:=Reps.cons_iff.mp r2;unfold fZ at hk;rw[Bool.and_eq_true]at hk;obtain⟨kk,ek⟩:=Option.isSome_iff_exists.mp hk.1;obtain⟨ps,g1,g2⟩:=zg hk.2 (by simpa using h) q1 q2
  obtain⟨kb,f5,f6⟩:=ij ek p1;exact⟨(kk,w)::ps,⟨kb,(kk,w),ps,rfl,f5,f6,rfl,g1⟩,⟨(kk,w),ps,rfl,ek,p2,g2⟩⟩
end
section
variable {X:Cx}{a b:Expr}{fs:En->Rs (List T)}{p p1 p2 pos:Pos}
theorem AD (hu:X.A.units+8<cLine)(hc:X.calm=true)(hm:X.mg "dict" =none)(hmz:X.mg "zip" =none)(ha:nj X [a,b] fs)(hst:ba [a,b] =true:=by rfl)(hg:Gl X "dict":=by rfl)(hgz:Gl X "zip":=by rfl) :
  cq X (.Call (.Name "dict" p) [.Call (.Name "zip" p1) [a,b] [] p2] [] pos) (cl By fs):=by
 intro pins s σ H Q I ⟨Z,O,Ev,hq⟩
 have e1:starEach [Expr.Call (.Name "zip" p1) [a,b] [] p2] X.env=(false,eval (.Call (.Name "zip" p1) [a,b] [] p2) X.env)::starEach [] X.env:=a6 rfl;unfold ba at hst;rw[Bool.and_eq_true]at hst
 have e2:starEach [a,b] X.env=(false,eval a X.env)::starEach [b] X.env:=a6 hst.1;refine wpAny_Call_Name_kw (eI I hg hm (show bootBuiltins "dict" =some (.type "dict")by decide+kernel) ?_ (by decide) (by decide))
 refine PyProof.Rows.callWith_type1 ?_ e1 rfl
 rw[e1];refine Calls.spliced_cons ?_
 refine wpAny_Call_Name_kw (eI I hgz hmz (show bootBuiltins "zip" =some (.type "zip")by decide+kernel) ?_ (by decide) (by decide))
 refine PyProof.Rows.callWith_type1 (bS (ha p2 pins s σ H _ I (d6 Ev hq)) λus s1 ⟨vs,H1,I1,r1,ts,rs,s',E',q1⟩=> ?_) e2 (ft hst.2)
 unfold By at q1
 split at q1
 ·rename_i l m
  by_cases hz:fZ l=true/\l.length=m.length/\1<=l.length/\l.length<=1000
  ·rw[if_pos hz]at q1
   obtain⟨v1,vs1,rfl,ra,rb⟩:=Reps.cons_iff.mp rs;obtain⟨v2,rfl,rc⟩:=rb.one;obtain⟨c1,xs,rfl,_,hx,rx⟩:=Rep.lst_iff.mp ra;obtain⟨c2,ys,rfl,_,hy,ry⟩:=Rep.tup_iff.mp rc
   cases r1 with
   | cons w1 w2=>
    obtain⟨u2,rfl,w3⟩:=Vals.one w2;cases w1;obtain rfl:u2=Value.ref c2:=w3;obtain⟨z,its,n,rv,hlen,e⟩:=I1.lstM hx;obtain⟨z2,its2,r2,ob,hob1,hob2,nb,hob3⟩:=(show ObjOk X.prog X.w H1 s1.heap c2 (.tup ys)from I1.hok c2 _ hy)
    refine xi (xs:=its.toArray) (ys:=its2.toArray) ⟨_,e,rfl,n,rfl⟩ ⟨ob,hob1,hob2,nb,hob3⟩ λh' g1 g2 g3 g4 g5=> ?_
    refine Calls.spliced_nil ?_
    have I2:Inv X pins σ H1 { s1 with heap:=h' }:=I1.kept (t':=s1.toks) g5
    obtain⟨ps,k1,k2⟩:=zg hz.1 hz.2.1 rx ry;refine yQ (I2.ok.hd hc) hu I2 g1 g2 g3 (λj hj=>I1.fpOk (by omega) (I1.hok.fresh (by omega))) rv r2 (by rw[<-rx.length];exact hz.2.2.1) (by rw[<-rx.length];exact hz.2.2.2) k1 λq s' nw I'=>⟨.ref q,_,I',rfl,q1 _ (aM nw.1 _) _ ?_⟩
    obtain⟨d1,d2⟩:=mZ (ks:=[]) (ts:=[]) (kvs:=[]) k2 rfl Reps.nil_ List.nodup_nil;exact Rep.dct_iff.mpr ⟨q,_,rfl,E'.fresh nw.1,.inl aw,d1,d2.same (aM nw.1 _)⟩
  ·rw[if_neg hz]at q1;exact q1.elim
 ·exact q1.elim
end
end Tr
namespace Tr
open PySem
def nI (i j:Nat)(src:List (Option Nat))(tgt:T->En->Rs En)(fc:En->Rs Bool)(fe:En->Rs T)(Z:En):Rs Fl:=match Z[i]? with
 | some (.ow (.dct _ _))=>match eh (iD (vr i)) src tgt fc fe (disown i Z)with
  | .ok t=>if t.nk true=true/\j<Z.length then .ok (.nx (Z.set j (.va t)))else .bad
  | _=> .bad
 | _=> .bad
end Tr
namespace PySem
open Sem (wp)
section
variable {prog:Program}{w:World}{A:Around}{E:Value->Shared->Prop}{s:Shared}{d it:Addr}{ob:Obj}{es:Array DictEntry}{ep i:Nat}
theorem yp {Q:Value->Shared->Prop}(k0:(d == sysModules)=false)(k1:s.heap.get? d=some ob)(k2:ob.ExactDict)(k3:ob.data= .dict es ep)
  (q:Q (.ref s.heap.objs.size) { s with heap:=s.heap.push { cls:=.type "dict_keyiterator",data:=.fields #[.ref d,.int 0 0,.int es.size 0,.int ep 0] } }):wpAny (model prog w) A (pyIter (.ref d)) Q E s:=by
 have ty:s.TypeIs (.ref d) "dict":=⟨ob,k1,k2.1⟩;refine wpAny_pyIter_slot ty F.slot_dict_iter (wpAny_call_entry F.slot_dict_iter ty F.entry_dict_iter ?_ (F.args_dict_iter_1 _))
 unfold Builtin.«dict.__iter__» Builtin.Dict.dictSlotNone;refine wpAny_bind (wpAny_bind (wpAny_notOrdered_dict ty ?_))
 show wpAny _ _ (pure (Value.ref d)) _ _ s
 refine wpAny_pure ?_
 show wpAny _ _ (Builtin.Dict.showsAll d >>= _) _ _ s
 unfold Builtin.Dict.showsAll;rw[if_neg (by rw[k0];exact Bool.false_ne_true)]
 refine wpAny_bind (wpAny_pure (wpAny_bind (wpAny_dictEntries k1 k3 (wpAny_bind (wpAny_dictEpoch k1 k3 ?_)))))
 refine wpAny_bind (wpAny_newObj_type (wpAny_pure ⟨_,rfl,"dict_keyiterator",_,⟨_,Heap.get?_push_size _ rfl,rfl⟩,F.slot_dict_keyiterator_next.lookup,?_⟩))
 simpa [rawInt]using q
theorem yq {e:DictEntry}{Q:Option Value->Shared->Prop}(ki:s.heap.IsKeyIter it d i es.size ep)(k1:s.heap.get? d=some ob)(k3:ob.data= .dict es ep)(ke:es[i]? =some e)
  (q:∀h',h'.IsKeyIter it d (i+1) es.size ep->Heap.SameBut it s.heap h'->Q (some e.key) { s with heap:=h' }):wpAny (model prog w) A (pyNext (.ref it)) Q E s:=by
 obtain⟨oi,g1,g2,g3⟩:=id ki;unfold pyNext;refine wpAny_bind (wpAny_attempt (wpAny_callSpecial?_slot (name:=Str.ofString "__next__") ki.typeIs F.slot_dict_keyiterator_next (wpAny_call_entry F.slot_dict_keyiterator_next ki.typeIs F.entry_dict_keyiterator_next ?_ (F.args_dict_keyiterator_next_1 _))))
 refine wpAny_bind (wpAny_pure (wpAny_bind (wpAny_bind ?_)))
 first | refine wpAny_bind (wpAny_typeNameOfWhole_keyiter ki.typeIs (wpAny_pure ?_)) | refine wpAny_bind (wpAny_typeNameOf_keyiter ki.typeIs (wpAny_pure ?_))
 refine wpAny_bind (wpAny_fieldsOf g1 g3 ?_)
 have own:Builtin.Dict_items.ownsTuple "dict_keyiterator" =false:=by decide
 simp only[own,Bool.false_eq_true,if_false]
 show wpAny _ _ (if (Value.ref d == Value.none)=true then _ else _) _ _ s
 rw[if_neg (show ¬((Value.ref d == Value.none)=true)from Bool.false_ne_true)]
 refine wpAny_bind (wpAny_pure (wpAny_bind (wpAny_dictEntries k1 k3 ?_)))
 rw[if_neg (by simp)]
 refine wpAny_bind (wpAny_pure (wpAny_bind (wpAny_dictEpoch k1 k3 ?_)))
 rw[if_neg (by simp)]
 refine wpAny_pure ?_
 simp only[show ¬((i:Int)<0)from by omega,if_false,Int.toNat_natCast,ke]
 refine wpAny_bind ?_
 first | refine wpAny_bind (wpAny_typeNameOfWhole_keyiter ki.typeIs (wpAny_pure ?_)) | refine wpAny_bind (wpAny_typeNameOf_keyiter ki.typeIs (wpAny_pure ?_))
 refine wpAny_bind (wpAny_isOneOf_keyiter ki.typeIs ?_)
 show wpAny _ _ (setField (.ref it) 1 (rawInt ((i:Int)+1)) >>= _) _ _ s
 refine wpAny_bind (wpAny_setField g1 g3 (by simp) ?_)
 have ki':(s.heap.update it (Obj.mapFields (·.setIfInBounds 1 (rawInt ((i:Int)+1))))).IsKeyIter it d (i+1) es.size ep:=
  ⟨_,Heap.get?_update_self _ g1 (Obj.isFreed_of_fields (Obj.data_mapFields g3 _)),(Obj.cls_mapFields ..).trans g2,by rw[Obj.data_mapFields g3];simp[rawInt]⟩
 refine wpAny_bind (wpAny_holding (wpAny_bind (wpAny_isOneOf_keyiter (s:={ s with heap:=s.heap.update it (Obj.mapFields (·.setIfInBounds 1 (rawInt ((i:Int)+1)))) }) ki'.typeIs ?_)))
 show wpAny _ _ (pure e.key) _ _ _
 exact wpAny_pure (wpAny_pure ⟨_,rfl,wpAny_pure (q _ ki' (Heap.SameBut.update ..))⟩)
theorem A7 {Q:Option Value->Shared->Prop}(hh:A.handled=none)(ki:s.heap.IsKeyIter it d i es.size ep)(k1:s.heap.get? d=some ob)(k3:ob.data= .dict es ep)(ke:es.size<=i)
  (q:∀h',Heap.ExtBut it s.heap h'->Q none { s with heap:=h' }):wpAny (model prog w) A (pyNext (.ref it)) Q E s:=by
 obtain⟨oi,g1,g2,g3⟩:=id ki;unfold pyNext;refine wpAny_bind (wpAny_attempt (wpAny_callSpecial?_slot (name:=Str.ofString "__next__") ki.typeIs F.slot_dict_keyiterator_next (wpAny_call_entry F.slot_dict_keyiterator_next ki.typeIs F.entry_dict_keyiterator_next ?_ (F.args_dict_keyiterator_next_1 _))))
 refine wpAny_bind (wpAny_pure (wpAny_bind (wpAny_bind ?_)))
 first | refine wpAny_bind (wpAny_typeNameOfWhole_keyiter ki.typeIs (wpAny_pure ?_)) | refine wpAny_bind (wpAny_typeNameOf_keyiter ki.typeIs (wpAny_pure ?_))
 refine wpAny_bind (wpAny_fieldsOf g1 g3 ?_)
 have own:Builtin.Dict_items.ownsTuple "dict_keyiterator" =false:=by decide
 simp only[own,Bool.false_eq_true,if_false]
 show wpAny _ _ (if (Value.ref d == Value.none)=true then _ else _) _ _ s
 rw[if_neg (show ¬((Value.ref d == Value.none)=true)from Bool.false_ne_true)]
 refine wpAny_bind (wpAny_pure (wpAny_bind (wpAny_dictEntries k1 k3 ?_)))
 rw[if_neg (by simp)]
 refine wpAny_bind (wpAny_pure (wpAny_bind (wpAny_dictEpoch k1 k3 ?_)))
 rw[if_neg (by simp)]
 refine wpAny_pure ?_
 simp only[show ¬((i:Int)<0)from by omega,if_false,Int.toNat_natCast,Array.getElem?_eq_none ke]
 refine wpAny_bind ?_
 first | refine wpAny_bind (wpAny_typeNameOfWhole_keyiter ki.typeIs (wpAny_pure ?_)) | refine wpAny_bind (wpAny_typeNameOf_keyiter ki.typeIs (wpAny_pure ?_))
 show wpAny _ _ (setField (.ref it) 0 .none >>= _) _ _ s
 refine wpAny_bind (wpAny_setField g1 g3 (by simp) ?_)
 show wpAny _ _ (newExc (.type "StopIteration") [] >>= _) _ _ _
 refine wpAny_bind ?_
 simp only[newExc,newTuple];refine wpAny_bind (wpAny_newObj_type ?_ (by size_fits))
 refine wpAny_bind (m:=firstArgMember _ _) (wpAny_of_eq (a:=Value.none) (by first | rfl | (simp only[firstArgMember];rfl)) (wpAny_newObj_type ?_ (by size_fits)))
 simp only[raiseNew];refine wpAny_bind (wpAny_handled ?_)
 rw[show A.in1.handled=none from hh]
 refine wpAny_bind (wpAny_pure (wpAny_throw ?_))
 refine wpAny_bind (wpAny_isInstance (T:="StopIteration") (b:=true) ⟨_,Heap.get?_push_size _ rfl,rfl⟩ isSubtype_stop ?_)
 exact wpAny_pure (q _ (((Heap.SameBut.update ..).extBut.push _).push _))
end
end PySem
namespace Tr
open PySem PySem.Spec PyProof.Rows L2
section
variable {X:Cx}{pins:List (Addr×Obj)}{σ:L2.St}{H:Hp}{s:Shared}{d:Addr}{ob:Obj}{kvs:List (List Key×V)}{es:Array DictEntry}{ep:Nat}
theorem ri (I:Inv X pins σ H s)(hd:H d=some (.dT kvs))(ho:s.heap.get? d=some ob):Inv X pins σ (upd H d (.frz ob (.dT kvs))) s:=by
 have x:ObjOk X.prog X.w H s.heap d (.dT kvs):=I.hok d _ hd
 have ne:∀b (u:HO),H b=some u->(∀k,u≠ .dT k)->b≠d:=λb u e hu z=>by rw[z,hd]at e;cases e;exact hu _ rfl
 exact jq (h':=s.heap) (t':=s.toks) (ob:=.frz ob (.dT kvs)) I (by rw[hd];exact True.intro) (Heap.SameBut.refl ..) ⟨ob,ho⟩ ⟨ho,x.stay (λb u _ e=>e) (λb e=>by rw[ar (ne b _ e (λ_ z=>nomatch z))];exact e) λb xs e=>by rw[ar (ne b _ e (λ_ z=>nomatch z))];exact e⟩
theorem wg (I:Inv X pins σ H s)(hd:H d=some (.frz ob (.dT kvs)))(h0:∀o u,X.H₀ d≠some (.frz o u)):Inv X pins σ (upd H d (.dT kvs)) s:=by
 have ne:∀b,H b=none->b≠d:=λb e z=>by rw[z,hd]at e;cases e
 have ne2:∀b (u:HO),H b=some u->(∀o k,u≠ .frz o k)->b≠d:=λb u e hu z=>by rw[z,hd]at e;cases e;exact hu _ _ rfl
 have up:∀b (u:HO),H b=some u->b≠d->upd H d (.dT kvs) b=some u:=λb u e z=>by rw[ar z];exact e
 have un:∀b,H b=none->upd H d (.dT kvs) b=none:=λb e=>by rw[ar (ne b e)];exact e
 have x:ObjOk X.prog X.w H s.heap d (.frz ob (.dT kvs)):=I.hok d _ hd
 have ow:∀c b,H b=some (.own c)->upd H d (.dT kvs) b=some (.own c):=λc b e=>up b _ e (ne2 b _ e (λ_ _ z=>nomatch z))
 have tu:∀b xs,H b=some (.tup xs)->upd H d (.dT kvs) b=some (.tup xs):=λb xs e=>up b _ e (ne2 b _ e (λ_ _ z=>nomatch z))
 refine⟨I.ok,I.os,I.bare,⟨I.base.keep,I.base.slot,λb o e n hx=>un b (I.base.free b o e n hx),I.base.there,λb xs e=>tu b xs (I.base.tups b xs e),λb o u e=> ?_,λb ps e=> ?_⟩,I.loc,I.cell,un _ I.free,λy c e=>un _ (I.freeC y c e),λp hp=> ?_,λa u e=> ?_,I.len⟩
 ·exact up b _ (I.base.frzs b o u e) λz=>h0 o u (z▸e)
 ·obtain⟨more,q⟩:=I.base.tbls b ps e
  exact⟨more,up b _ q (ne2 b _ q (λ_ _ z=>nomatch z))⟩
 ·obtain⟨p1,p2,p3⟩:=I.pin p hp
  exact⟨p1,un _ p2,p3⟩
 ·by_cases ha:a=d
  ·subst ha
   rw[aw]at e;cases e;exact x.2.stay (λb u _ e=>e) (ow a) tu
  ·rw[ar ha]at e
   exact(I.hok a u e).stay (λb u _ e=>e) (ow a) tu
def Dr (d:Addr)(ob:Obj)(es:Array DictEntry):It where
 go:=λi H=> ∃kvs,H d=some (.frz ob (.dT kvs))/\i<kvs.length
 yld:=λi H x H'=>H'=H/\∃e b,es[i]? =some e/\e.key= .ref b/\x= .ref b
 stop:=λi H=> ∃kvs,H d=some (.frz ob (.dT kvs))/\kvs.length<=i
theorem om {P:Program}{w:World}{h:Heap}(x:ObjOk P w H h d (.frz ob (.dT kvs)))(hx:ob.data= .dict es ep):h.get? d=some ob/\ob.ExactDict/\(d == sysModules)=false/\es.size=kvs.length/\∀(i:Nat) p,kvs[i]? =some p->∃e b,es[i]? =some e/\e.key= .ref b/\H b=some (.tup (p.1.map kV)):=by
 obtain⟨e1,z,y,xs,r,o',es',ep',e2,ex,e3,e4,nd⟩:=x;rw[e1]at e2;cases e2;rw[hx]at e3;cases e3
 have hl:es.size=xs.length:=by rw[<-Array.length_toList,e4,List.length_map]
 refine⟨e1,ex,y,by rw[hl,Paired.length r],λi p hp=> ?_⟩
 have key:∀{ks:List (List Key×V)} {xs:List (List Key×Addr×Value)},Paired (λ(p:List Key×V) (q:List Key×Addr×Value)=>p.1=q.1/\H q.2.1=some (.tup (p.1.map kV))/\RelV p.2 q.2.2) ks xs->∀{i:Nat} {p},ks[i]? =some p->∃q,xs[i]? =some q/\H q.2.1=some (.tup (p.1.map kV)):=by
  intro ks xs r
  induction r with
  | nil=>intro i p h;simp at h
  | cons a _ ih=>
   intro i p h
   cases i with
   | zero=>simp only[List.getElem?_cons_zero,Option.some.injEq]at h ⊢;subst h;exact⟨_,rfl,a.2.1⟩
   | succ i=>simp only[List.getElem?_cons_succ]at h ⊢;exact ih h
 obtain⟨q,hq,hb⟩:=key r hp;refine⟨entryOfKey (tupleKind (ck P w)) q,q.2.1,?_,rfl,hb⟩
 rw[<-Array.getElem?_toList,e4,List.getElem?_map,hq]
 rfl
theorem qI {P:Program}{w:World}{K:PySem.W.Frag}{tg:Expr}{it:Addr}(hx:ob.data= .dict es ep):uu P w K tg (Dr d ob es) [it] it (λi h=>h.IsKeyIter it d i es.size ep) where
 mem:=by simp
 obj:=λi h st b hb=>by
  have e:b=it:=by simpa using hb
  subst e;obtain⟨o,e,c,d⟩:=st;exact⟨o,e,λv z=>by rw[d]at z;cases z⟩
 keep:=λi h h' st k=>st.at λo e=>k it (by simp) o e
 item:=by
  intro X hP hw hK hc i pins s σ H E I hf st hg;subst hP hw hK;obtain⟨kvs,hq,hi⟩:=hg;obtain⟨f0,f1,f2,f3,f4,f5⟩:=hf it (by simp)
  obtain⟨e1,ex,_,sz,at_⟩:=om (I.hok d _ hq) hx;obtain⟨e,b,ge,ek,_⟩:=at_ i kvs[i] (List.getElem?_eq_getElem hi)
  refine yq st e1 hx ge λh' st' sb=> ?_
  have I1:Inv X pins σ H { s with heap:=h' }:=I.turned (t':=s.toks) (λb o hb e=>(sb.2 b hb).trans e) f0 f1 f3 f4 f5
  obtain⟨o,eo,c,dd⟩:=id st';exact⟨e.key,rfl,sH (s:={ s with heap:=h' }) eo c dd (by decide) ⟨.ref b,H,I1,ek,⟨rfl,e,b,ge,ek,rfl⟩,st',λb hb=>(hf b hb).1⟩⟩
 done:=by
  intro X hP hw hK hc i pins s σ H E I hf st hg;subst hP hw hK;obtain⟨kvs,hq,hi⟩:=hg;obtain⟨f0,f1,f2,f3,f4,f5⟩:=hf it (by simp)
  obtain⟨e1,ex,_,sz,_⟩:=om (I.hok d _ hq) hx;exact A7 (I.ok.hd hc) st e1 hx (by omega) λh' eb=>⟨rfl,I.turned (t':=s.toks) (λb o hb e=>eb b o hb e) f0 f1 f3 f4 f5⟩
 self:=λ_ _ _ _ _ st h=>wpAny_pyIter_keyiter st h
def iDF (d:Addr)(ob:Obj)(es:Array DictEntry)(te:TE):TI:=λσ H R=>te σ H λx H1=>x= .ref d/\(∃kvs,H1 d=some (.frz ob (.dT kvs)))/\R (Dr d ob es) H1
theorem vh {tg l:Expr}{te:TE}(hx:ob.data= .dict es ep)(hl:PE X l te):PI X tg l (iDF d ob es te):=by
 intro pins s σ H R I h;refine bS (hl pins s σ H _ I h) λv s1 hh_=> ?_
 obtain⟨x,H1,I1,r1,q1⟩:=hh_;obtain⟨e,⟨kvs,hq⟩,q⟩:=q1;subst e;obtain rfl:v=Value.ref d:=r1;obtain⟨e1,ex,y,sz,_⟩:=om (I1.hok d _ hq) hx;refine yp y e1 ex hx ⟨s1.heap.objs.size,[s1.heap.objs.size],_,_,H1,rfl,I1.kept (t':=s1.toks) λb o e=>Heap.get?_push_of_some _ e,qI hx,⟨_,Heap.get?_push_size _ rfl,rfl,rfl⟩,λb hb=> ?_,q⟩
 have e:b=s1.heap.objs.size:=by simpa using hb
 subst e;exact I1.fpOk (Nat.le_refl _) (I1.hok.fresh (Nat.le_refl _))
end
theorem jS {K:PySem.W.Frag}{O:Ow}{H:Hp}:∀{l:List T} {kk:List Key},iV l=some kk->Reps K O H l (kk.map kV)
 | [],kk,h=>by cases h;exact Reps.nil_
 | t::l,kk,h=>by
  unfold iV at h
  split at h
  ·rename_i k r hk hr
   cases h;refine Reps.cons_ ?_ (jS hr)
   cases t with
   | int i=>cases hk;exact Rep.int_ i
   | str x=>cases hk;exact Rep.str_ x
   | _=>cases hk
  ·cases h
theorem vV {K:PySem.W.Frag}{O:Ow}{H:Hp}{t:T}{kk:List Key}{b:Addr}(h:aN t=some kk)(hb:H b=some (.tup (kk.map kV)))(n:¬ O b):Rep K O H t (.ref b):=by
 cases t with
 | tup l=>exact Rep.tup_iff.mpr ⟨b,_,rfl,n,hb,jS h⟩
 | _=>cases h
section
variable {X:Cx}{d:Addr}{ob:Obj}{kvs:List (List Key×V)}{es:Array DictEntry}{ep:Nat}
theorem wc {K:PySem.W.Frag}{O:Ow}{H:Hp}{ks:List T}(hd:H d=some (.frz ob (.dT kvs)))(hk:ks.map aN=kvs.map (λp=>some p.1))(nO:¬ O d)(tr:∀a vs,H a=some (.tup vs)->¬ O a)
  (at_:∀(i:Nat) p,kvs[i]? =some p->∃e b,es[i]? =some e/\e.key= .ref b/\H b=some (.tup (p.1.map kV))):Dd K O H ks (Dr d ob es):=λP O' hP hO i Hc hs ht=>by
 have hl:ks.length=kvs.length:=by have:=congrArg List.length hk;rwa [List.length_map,List.length_map]at this
 have hnP:¬ P d:=λz=>(hP d z).elim nO λw=>by rw[w.1]at hd;cases hd
 have hd':Hc d=some (.frz ob (.dT kvs)):=hs _ _ hd hnP;refine⟨λhi=>⟨kvs,hd',by omega⟩,λt ht'=> ?_⟩
 have hi:i<kvs.length:=by rw[<-hl];exact(List.getElem?_eq_some_iff.mp ht').1
 refine⟨⟨kvs,hd',hi⟩,λx Hc' y=> ?_⟩
 obtain⟨rfl,e,b,ge,ek,rfl⟩:=y;obtain⟨e2,b2,ge2,ek2,hb⟩:=at_ i kvs[i] (List.getElem?_eq_getElem hi)
 rw[ge]at ge2;cases ge2;rw[ek]at ek2;cases ek2
 have kt:aN t=some kvs[i].1:=by
  have:=congrArg (λl=>l[i]?) hk
  simp only[List.getElem?_map,ht',List.getElem?_eq_getElem hi,Option.map_some,Option.some.injEq]at this
  exact this
 exact⟨Same.refl _,(vV kt hb (tr b _ hb)).move hP hO hs⟩
def tPIF (X:Cx)(d:Addr)(ob:Obj)(es:Array DictEntry)(i:Nat):TI:=λσ H R=>σ[i]? =some (some (.ref d))/\(∃kvs,H d=some (.frz ob (.dT kvs)))/\R (Dr d ob es) H
theorem As {elt tg:Expr}{ifs:List Expr}{scope:Scope}{spos py pos pn:Pos}{N':List Str}{src:List (Option Nat)}{tgt:T->En->Rs En}{fc:En->Rs Bool}{fe:En->Rs T}(i j:Nat){y D:Str}
  (hc:X.calm=true) (S:LcScope X scope N' src)
  (block:∀cl C s₀ H₀ fp,wU (bf X scope cl N' C s₀ H₀ fp) tg tgt/\tf (bf X scope cl N' C s₀ H₀ fp) ifs (wZ (bf X scope cl N' C s₀ H₀ fp) fc)/\cq (bf X scope cl N' C s₀ H₀ fp) elt fe)
  (hN:X.N.Nodup) (hD:X.N[i]? =some D:=by rfl) (hDv:ni X.env.scope D:=by first | exact Or.inl rfl | exact Or.inr (Or.inl rfl) | exact Or.inr (Or.inr rfl)) (hDd:(D == ("__debug__" : Str))=false:=by decide) (hDc:(D == ("__classdict__" : Str))=false:=by decide)
  (hiy:X.N[j]? =some y:=by rfl) (hy:Loc X.env.scope y:=by first | exact Or.inl rfl | exact Or.inr rfl) (hsw:swapsWith (.ListComp elt [⟨tg,.Name D pn,ifs,0⟩] scope pos) (some (.Name y py)) spos.line X.env=pure true:=by rfl)
  (hf:X.fn y=true\/X.env.scope.names.lookup y=some .local:=by first | exact .inl rfl | exact .inr rfl | assumption) (hs:∀x,foldedSetIterable (.Name D pn) X.env x=pure x:=by intro _;rfl) :
  mn X (.Assign [.Name y py] (.ListComp elt [⟨tg,.Name D pn,ifs,0⟩] scope pos) spos) (nI i j src tgt fc fe):=by
 intro pins s σ H E0 I ⟨Z,B,M,E,h⟩;unfold nI at h
 split at h
 ·rename_i ks ts hi
  obtain⟨v,sv,r⟩:=E.env.own i _ hi;obtain⟨d,kvs,rfl,hM,hd,hk,rt⟩:=r
  cases qt:eh (iD (vr i)) src tgt fc fe (disown i Z)with
  | bad=>rw[qt]at h;exact h.elim
  | err c=>rw[qt]at h;exact h.elim
  | ok t=>
  rw[qt]at h
  dsimp only at h
  by_cases hh:t.nk true=true/\j<Z.length
  ·rw[if_pos hh]at h
   obtain⟨z0,y0,xs0,r0,ob,es,ep,ho,hex,hdat,he,hnd⟩:=(show ObjOk X.prog X.w H s.heap d (.dT kvs)from I.hok d _ hd)
   have h0:∀o u,X.H₀ d≠some (.frz o u):=λo u e=>by
    have:=I.base.frzs d o u e;rw[hd]at this;cases this
   have I1:=ri I hd ho
   have hPG:∀cl C s₀ H₀ fp,PG (bf X scope cl N' C s₀ H₀ fp) tg (tD X tgt):=λcl C s₀ H₀ fp=>(block cl C s₀ H₀ fp).1
   have hPI:∀cl C s₀ H₀ fp,tf (bf X scope cl N' C s₀ H₀ fp) ifs (tPT0 X.K fc):=λcl C s₀ H₀ fp pins s σ H Q I h=>(block cl C s₀ H₀ fp).2.1 pins s σ H Q I (tPT0.up (X:=bf X scope cl N' C s₀ H₀ fp) h)
   have hPE:∀cl C s₀ H₀ fp,PE (bf X scope cl N' C s₀ H₀ fp) elt (tP0 X.K fe):=λcl C s₀ H₀ fp pins s σ H Q I h=>(block cl C s₀ H₀ fp).2.2 pins s σ H Q I (tP0.up (X:=bf X scope cl N' C s₀ H₀ fp) h)
   have hPI2:PI X tg (.Name D pn) (tPIF X d ob es i):=PI.imp (vh (d:=d) (ob:=ob) hdat (fN hD hDv hDd hDc)) λσ H R ⟨a,b,c⟩=>⟨_,a,rfl,b,c⟩
   have rule:=zv (g:=tD X tgt) (tc:=tPT0 X.K fc) (te:=tP0 X.K fe) (i:=j) (y:=y) (py:=py) (spos:=spos) (pos:=pos) hc S hPI2 (λcl C s₀ H₀ fp=>⟨hPG cl C s₀ H₀ fp,hPI cl C s₀ H₀ fp,hPE cl C s₀ H₀ fp⟩) hN hiy hy hsw hf hs
   have sO:SameO (λa=>a=d) H (upd H d (.frz ob (.dT kvs))):=λb o e nb=>by rw[ar nb];exact e
   have Md:M i d:=(hM d).mpr rfl
   have Od:OO B M d:=.inr ⟨i,Md⟩;refine bS (rule pins s σ (upd H d (.frz ob (.dT kvs))) { nx:=λσ' H'=>H' d=some (.frz ob (.dT kvs))/\E0.nx σ' (upd H' d (.dT kvs)),rt:=λ_ _=>False } I1 ?_) λf s' hf=> ?_
   ·-- the comprehension,with the dict standing still
    have rdE:∀{u:T} {v:V},Rep X.K (OO B M) H u v->Rep X.K (λa=>OO B M a/\¬ M i a) (upd H d (.frz ob (.dT kvs))) u v:=λr=>(Rep.keep sO (λa z=>by rw[z];exact Od) r).less λa z=>z.1
    have E1:EnvM X.K (λa=>OO B M a/\¬ M i a) (M.set i r8) (upd H d (.frz ob (.dT kvs))) (disown i Z) σ:=by
     have ed:disown i Z=Z.set i (.va (.dct ks ts)):=by unfold disown;rw[hi];rfl
     have il:i<Z.length:=(List.getElem?_eq_some_iff.mp hi).1
     rw[ed];refine⟨by rw[List.length_set];exact E.env.len,λk u e=> ?_,λk o e=> ?_,λk a z=> ?_,λk k' a z1 z2=> ?_,λa z=> ?_⟩
     ·by_cases hk':i=k
      ·subst hk'
       rw[List.getElem?_set_self il]at e
       cases e;exact⟨.ref d,sv,Rep.dct_iff.mpr ⟨d,kvs,rfl,λz=>z.2 Md,.inr ⟨ob,aw⟩,hk,(Reps.keep sO (λa z=>by rw[z];exact Od) rt).less λa z=>z.1⟩⟩
      ·rw[List.getElem?_set_ne hk']at e
       obtain⟨v,e1,e2⟩:=E.env.val k u e;exact⟨v,e1,rdE e2⟩
     ·by_cases hk':i=k
      ·subst hk'
       rw[List.getElem?_set_self il]at e
       cases e
      ·rw[List.getElem?_set_ne hk']at e
       obtain⟨v,e1,e2⟩:=E.env.own k o e;refine⟨v,e1,?_⟩
       have em:M.set i r8 k=M k:=by unfold Mn.set;rw[if_neg λz=>hk' z.symm]
       rw[em];exact e2.move (P:=λa=>a=d) (λa z=> .inl (by rw[z];exact Od)) (λa z=> .inl z.1) sO λa z w=>hk' (E.env.dis k i a z (by rw[w];exact Md)).symm
     ·unfold Mn.set at z
      split at z
      ·exact z.elim
      ·rename_i hk'
       exact⟨E.env.sub k a z,λw=>hk' (E.env.dis k i a z w)⟩
     ·unfold Mn.set at z1 z2
      split at z1
      ·exact z1.elim
      ·split at z2
       ·exact z2.elim
       ·exact E.env.dis k k' a z1 z2
     ·have ne:a≠d:=λw=>z.2 (by rw[w];exact Md)
      rcases E.env.trk a z.1 with⟨vs,q⟩ | ⟨k',q⟩
      ·exact .inl ⟨vs,by rw[ar ne];exact q⟩
      ·exact .inr ⟨k',by rw[ar ne];exact q⟩
    have fk:iD (vr i) (disown i Z)= .ok ks:=by
     have:vr i (disown i Z)= .ok (.dct ks ts):=by
      unfold vr disown;rw[hi];simp only[List.getElem?_set_self (List.getElem?_eq_some_iff.mp hi).1]
      rfl
     unfold iD;rw[this]
     rfl
    have qt':eh (λ_=> .ok ks) src tgt fc fe (disown i Z)= .ok t:=by
     rw[<-qt];unfold eh;rw[fk]
    have rd:=oj (X:=X) (fi:=λ_=> .ok ks) (src:=src) (tgt:=tgt) (fc:=fc) (fe:=fe) (σ:=σ) (H:=upd H d (.frz ob (.dT kvs))) (Q:=λv H'=>H' d=some (.frz ob (.dT kvs))/\E0.nx (σ.set j (some v)) (upd H' d (.dT kvs))) ⟨disown i Z,_,⟨_,E1⟩,by
     rw[qt'];intro H' sm v rv
     have hd':H' d=some (.frz ob (.dT kvs)):=sm _ _ aw;refine⟨hd',?_⟩
     have sm2:Same H (upd H' d (.dT kvs)):=λb o e=>by
      by_cases hb:b=d
      ·subst hb;rw[aw,<-hd];exact e
      ·rw[ar hb];exact sm b o (by rw[ar hb];exact e)
     have rl:Rep X.K (OO B M) H' t v:=Rep.lend (D:=true) (λa z=>by
      by_cases hm:M i a
      ·refine .inr ?_
       rw[if_pos rfl,(hM a).mp hm];exact⟨kvs,.inr ⟨ob,hd'⟩⟩
      ·exact .inl ⟨z,hm⟩) hh.1 rv
     have r2:Rep X.K (OO B M) (upd H' d (.dT kvs)) t v:=Rep.keep (P:=λa=>a=d) (λb o e nb=>by rw[ar nb];exact e) (λa z=>by rw[z];exact Od) rl
     exact h _ _ M (SameO.of sm2) ⟨(E.env.same sm2).set hh.2 r2,E.mine⟩ λa z=> .inl z⟩
    obtain⟨Z',O',⟨M',E'⟩,P'⟩:=rd;refine⟨sv,⟨kvs,aw⟩,P' _ (Same.refl _) _ (wc aw hk (λz=> ?_) (λa vs q z=> ?_) (om (I1.hok d _ aw) hdat).2.2.2.2)⟩
    ·rcases E'.trk d z with⟨_,q⟩ | ⟨_,q⟩ <;> rw[aw]at q <;> cases q
    ·rcases E'.trk a z with⟨_,w⟩ | ⟨_,w⟩ <;> rw[q]at w <;> cases w
   ·cases f with
    | next=>
     obtain⟨σ',H',I',e1,e2⟩:=hf
     exact⟨σ',_,wg I' e1 h0,e2⟩
    | brk=>obtain⟨_,_,_,z⟩:=hf;exact z.elim
    | cont=>obtain⟨_,_,_,z⟩:=hf;exact z.elim
    | ret u=>obtain⟨_,_,_,_,_,z⟩:=hf;exact z.elim
  ·rw[if_neg hh]at h;exact h.elim
 ·exact h.elim
end
structure QE (X:Cx)(e:Expr)(f:En->Rs T):Prop where
 h:cq X e f
structure QA (X:Cx)(e:List Expr)(f:En->Rs (List T)):Prop where
 h:nj X e f
structure QT (X:Cx)(e:Expr)(f:En->Rs Bool):Prop where
 h:uv X e f
structure QW (X:Cx)(e:Expr)(f:En->Rs Bool):Prop where
 h:zL X e f
structure QS (X:Cx)(e:Stmt)(f:En->Rs Fl):Prop where
 h:mn X e f
structure w4 (X:Cx)(e:List Stmt)(f:En->Rs Fl):Prop where
 h:j8 X e f
structure QG (X:Cx)(e:Expr)(f:T->En->Rs En):Prop where
 h:wU X e f
structure Do (X:Cx)(e:List Expr)(f:List T->En->Rs En):Prop where
 h:wV X e f
structure QI (X:Cx)(t e:Expr)(f:En->Rs (List T)):Prop where
 h:uF X t e f
structure QO (X:Cx)(e:Option Expr)(f:En->Rs (Option Int)):Prop where
 h:Db X e f
structure Da (X:Cx)(e:List Expr)(f:En->Rs Bool):Prop where
 h:tf X e (wZ X f)
theorem ad {X:Cx}(i:Nat){x:Str}{pos:Pos}(hN:(Cx.N X)[i]? =some x:=by rfl)(hv:ni (Env.scope (Cx.env X)) x:=by first | exact Or.inl rfl | exact Or.inr (Or.inl rfl) | exact Or.inr (Or.inr rfl))(hd:(x == Str.ofString "__debug__")=false:=by decide)(hcd:(x == Str.ofString "__classdict__")=false:=by decide):QE X (Expr.Name x pos) (vr i):=
 ⟨Cc (i:=i) (hN:=hN) (hv:=hv) (hd:=hd) (hcd:=hcd)⟩
theorem ai {X:Cx}{i:Int}{j:Nat}{pos:Pos}:QE X (Expr.Constant (Const.int i) j pos) (cn (T.int i)):=
 ⟨Cn ⟩
theorem gD {X:Cx}{i:Bool}{j:Nat}{pos:Pos}:QE X (Expr.Constant (Const.bool i) j pos) (cn (T.bl i)):=
 ⟨q_bl ⟩
theorem cZ {X:Cx}{j:Nat}{pos:Pos}:QE X (Expr.Constant Const.none j pos) (cn T.non):=
 ⟨Ci ⟩
theorem zP {X:Cx}{i:Str}{j:Nat}{pos:Pos}:QE X (Expr.Constant (Const.str i) j pos) (cn (T.str i)):=
 ⟨Ce ⟩
theorem xc {X:Cx}{x:Str}{i:Int}{u:Value}{pos:Pos}(hm:Cx.mg X x=some u)(r:L2.RelV (V.int i) u)(hg:Gl X x:=by rfl)(hd:(x == Str.ofString "__debug__")=false:=by decide):QE X (Expr.Name x pos) (cn (T.int i)):=
 ⟨AC (hm:=hm) (r:=r) (hg:=hg) (hd:=hd)⟩
theorem af {X:Cx}:QA X [] ag:=
 ⟨AB ⟩
theorem ae {X:Cx}{e:Expr}{es:List Expr}{f:En->Rs T}{g:En->Rs (List T)}(he:QE X e f)(hr:QA X es g)(hn:cj e=true:=by rfl):QA X (e::es) (ac f g):=
 ⟨qa_c (he:=he.h) (hr:=hr.h) (hn:=hn)⟩
theorem bp {X:Cx}{es:List Expr}{x1:Nat}{pos:Pos}{f:En->Rs (List T)}(h:QA X es f):QE X (Expr.Tuple es x1 pos) (bq f):=
 ⟨Cd (h:=h.h)⟩
theorem dC {X:Cx}{es:List Expr}{pos:Pos}{f:En->Rs (List T)}(h:QA X es f):QE X (Expr.List es pos) (dg f):=
 ⟨Ck (h:=h.h)⟩
theorem al {X:Cx}{a b:Expr}{fa fb:En->Rs T}{pos:Pos}{op:Operator}{g:T->T->Rs T}(ho:OpT X (binaryOp op) g)(ha:QE X a fa)(hb:QE X b fb):QE X (Expr.BinOp a op b pos) (o2 g fa fb):=
 ⟨Cq (ho:=ho) (ha:=ha.h) (hb:=hb.h)⟩
theorem gC {X:Cx}{a b:Expr}{fa fb:En->Rs T}{pos:Pos}{op:CmpOp}{g:T->T->Rs T}(ho:OpT X (compareOp op) g)(ha:QE X a fa)(hb:QE X b fb)(hm:behindInMarks op b=false:=by rfl):QE X (Expr.Compare a [op] [b] pos) (o2 g fa fb):=
 ⟨Cp (ho:=ho) (ha:=ha.h) (hb:=hb.h) (hm:=hm)⟩
theorem qE {X:Cx}{a:Expr}{fa:En->Rs T}{pos:Pos}(ha:QE X a fa):QE X (Expr.UnaryOp UnaryOp.USub a pos) (o1 pU fa):=
 ⟨Cj (ha:=ha.h)⟩
theorem oS {X:Cx}{a b c:Expr}{fa fb fc:En->Rs T}{pos:Pos}{op op':CmpOp}{g g':T->T->Rs T}(ho:OpT X (compareOp op) g)(ho':OpT X (compareOp op') g')(ha:QE X a fa)(hb:QE X b fb)(hc:QE X c fc)(hm:lastMarks [op,op'] [b,c] =false:=by with_unfolding_all rfl):QE X (Expr.Compare a [op,op'] [b,c] pos) (ch g g' fa fb fc):=
 ⟨xU (ho:=ho) (ho':=ho') (ha:=ha.h) (hb:=hb.h) (hc:=hc.h) (hm:=hm)⟩
theorem gd {X:Cx}{e:Expr}{f:En->Rs T}(h:QE X e f)(he:∀(whole:Sem Value),PySem.isTrue e (Cx.env X) whole=(do let v <-whole;standAt (Expr.pos e);holding [v] (truthy v)):=by intro _;rfl):QT X e (tb f):=
 ⟨Aj (h:=h.h) (he:=he)⟩
theorem aW {X:Cx}{a b:Expr}{fa fb:En->Rs T}{pos:Pos}{op:CmpOp}{g:T->T->Rs T}(ho:OpT X (compareOp op) g)(ha:QE X a fa)(hb:QE X b fb)(hm:behindInMarks op b=false:=by rfl):QT X (Expr.Compare a [op] [b] pos) (tb (o2 g fa fb)):=
 ⟨Al (ho:=ho) (ha:=ha.h) (hb:=hb.h) (hm:=hm)⟩
theorem oO {X:Cx}{a:Expr}{pos:Pos}{f:En->Rs Bool}(ha:QT X a f):QW X (Expr.BoolOp BoolOp.And [a] pos) f:=
 ⟨xG (ha:=ha.h)⟩
theorem g8 {X:Cx}{a:Expr}{pos:Pos}{f:En->Rs Bool}(ha:QT X a f):QW X (Expr.BoolOp BoolOp.Or [a] pos) f:=
 ⟨Ah (ha:=ha.h)⟩
theorem rH {X:Cx}{a b:Expr}{pos:Pos}{f g:En->Rs Bool}{rest:List Expr}(ha:QT X a f)(hb:QW X (Expr.BoolOp BoolOp.And (b::rest) pos) g):QW X (Expr.BoolOp BoolOp.And (a::b::rest) pos) (mm f g):=
 ⟨Ai (ha:=ha.h) (hb:=hb.h)⟩
theorem iI {X:Cx}{a b:Expr}{pos:Pos}{f g:En->Rs Bool}{rest:List Expr}(ha:QT X a f)(hb:QW X (Expr.BoolOp BoolOp.Or (b::rest) pos) g):QW X (Expr.BoolOp BoolOp.Or (a::b::rest) pos) (jz f g):=
 ⟨B9 (ha:=ha.h) (hb:=hb.h)⟩
theorem jJ {X:Cx}{f:En->Rs Bool}{e:Expr}(h:QW X e f):QT X e f:=
 ⟨qt_w (h:=h.h)⟩
theorem gf {X:Cx}{a:Expr}{pos:Pos}{f:En->Rs Bool}(ha:QT X a f):QT X (Expr.UnaryOp UnaryOp.Not a pos) (d9 f):=
 ⟨Ak (ha:=ha.h)⟩
theorem dB {X:Cx}{a:Expr}{fa:En->Rs T}{pos:Pos}{op:BoolOp}(h:QE X a fa):QE X (Expr.BoolOp op [a] pos) fa:=
 ⟨Cg (h:=h.h)⟩
theorem da {X:Cx}{a b:Expr}{fa fb:En->Rs T}{pos:Pos}{rest:List Expr}(ha:QE X a fa)(hb:QE X (Expr.BoolOp BoolOp.And (b::rest) pos) fb):QE X (Expr.BoolOp BoolOp.And (a::b::rest) pos) (bD fa fb):=
 ⟨Cr (ha:=ha.h) (hb:=hb.h)⟩
theorem BO {X:Cx}{a b:Expr}{fa fb:En->Rs T}{pos:Pos}{rest:List Expr}(ha:QE X a fa)(hb:QE X (Expr.BoolOp BoolOp.Or (b::rest) pos) fb):QE X (Expr.BoolOp BoolOp.Or (a::b::rest) pos) (Cy fa fb):=
 ⟨q_or (ha:=ha.h) (hb:=hb.h)⟩
theorem zR {X:Cx}{a:Expr}{fa:En->Rs T}{pos:Pos}(ha:QE X a fa):QE X (Expr.UnaryOp UnaryOp.Not a pos) (o1 yk fa):=
 ⟨Ch (ha:=ha.h)⟩
theorem oR {X:Cx}{a b c:Expr}{fa fb:En->Rs T}{pos:Pos}{f:En->Rs Bool}(hc:QT X c f)(ha:QE X a fa)(hb:QE X b fb):QE X (Expr.IfExp c a b pos) (oM f fa fb):=
 ⟨q_if (hc:=hc.h) (ha:=ha.h) (hb:=hb.h)⟩
theorem aP {X:Cx}{a b:Expr}{fa fb:En->Rs T}{pos:Pos}(ha:QE X a fa)(hb:QE X b fb)(hs:iq b:=by intro _ _;rfl):QE X (Expr.Subscript a b pos) (o2 bN fa fb):=
 ⟨q_ix (ha:=ha.h) (hb:=hb.h) (hs:=hs)⟩
theorem fS {X:Cx}:QO X none pN:=
 ⟨xM ⟩
theorem fR {X:Cx}{a:Expr}{fa:En->Rs T}(ha:QE X a fa):QO X (some a) (pS fa):=
 ⟨xL (ha:=ha.h)⟩
theorem fT {X:Cx}{a:Expr}{fa:En->Rs T}{pos:Pos}{lo hi:Option Expr}{p2:Pos}{fl fu:En->Rs (Option Int)}(ha:QE X a fa)(hl:QO X lo fl)(hu:QO X hi fu):QE X (Expr.Subscript a (Expr.Slice lo hi none p2) pos) (sl fa fl fu):=
 ⟨xT (ha:=ha.h) (hl:=hl.h) (hu:=hu.h)⟩
theorem cz {X:Cx}{e:Expr}{es:List Expr}{fs:En->Rs (List T)}{pos p:Pos}{x:Str}{id:String}{g:List T->Rs T}(hc:CallT X (Value.builtin id) g)(hm:Cx.mg X x=none)(hv:bootBuiltins x=some (Value.builtin id))(ha:QA X (e::es) fs)(hn:ba (e::es)=true:=by rfl)(hg:Gl X x:=by rfl)(h1:x≠Str.ofString "__name__":=by decide)(h2:(x == Str.ofString "__debug__")=false:=by decide):QE X (Expr.Call (Expr.Name x p) (e::es) [] pos) (cl g fs):=
 ⟨q_cB (hc:=hc) (hm:=hm) (hv:=hv) (ha:=ha.h) (hn:=hn) (hg:=hg) (h1:=h1) (h2:=h2)⟩
theorem mq {X:Cx}{e:Expr}{es:List Expr}{fs:En->Rs (List T)}{pos p:Pos}{x:Str}{Ty:String}{g:List T->Rs T}(hc:CallT X (Value.type Ty) g)(hm:Cx.mg X x=none)(hv:bootBuiltins x=some (Value.type Ty))(ha:QA X (e::es) fs)(hn:ba (e::es)=true:=by rfl)(hg:Gl X x:=by rfl)(h1:x≠Str.ofString "__name__":=by decide)(h2:(x == Str.ofString "__debug__")=false:=by decide):QE X (Expr.Call (Expr.Name x p) (e::es) [] pos) (cl g fs):=
 ⟨q_cT (hc:=hc) (hm:=hm) (hv:=hv) (ha:=ha.h) (hn:=hn) (hg:=hg) (h1:=h1) (h2:=h2)⟩
theorem zq_c {X:Cx}{e:Expr}{es:List Expr}{fs:En->Rs (List T)}{pos p:Pos}{x:Str}{n k:Nat}{f:Addr}{fd:FuncData}{ps:List Str}{g:List T->Rs T}(F:wX (Cx.prog X) (Cx.w X) (Cx.K X) (Cx.mg X) (Cx.base X) k f fd ps n g)(hr:Room k (Cx.A X))(hm:Cx.mg X x=some (Value.ref f))(hk:W.keepIn (Cx.K X) (Value.ref f)=true)(hb:L2.Binds (Cx.K X) fd ps [])(hl:∀(Z:En) (ts:List T),fs Z=Rs.ok ts->List.length ts=n)(ha:QA X (e::es) fs)(hps:List.length ps=n:=by rfl)(hn:ba (e::es)=true:=by rfl)(hg:Gl X x:=by rfl)(h2:(x == Str.ofString "__debug__")=false:=by decide):QE X (Expr.Call (Expr.Name x p) (e::es) [] pos) (cl g fs):=
 ⟨q_c (F:=F) (hr:=hr) (hm:=hm) (hk:=hk) (hb:=hb) (hl:=hl) (ha:=ha.h) (hps:=hps) (hn:=hn) (hg:=hg) (h2:=h2)⟩
theorem uG {X:Cx}{a:Expr}{fa:En->Rs T}{pos p p2:Pos}{tn:Str}{Ty:String}(hm:Cx.mg X (Str.ofString "isinstance")=none)(hmt:Cx.mg X tn=none)(hv:bootBuiltins tn=some (Value.type Ty))(ha:QE X a fa)(hn:cj a=true:=by rfl)(hg:Gl X (Str.ofString "isinstance"):=by rfl)(hgt:Gl X tn:=by rfl)(h1:tn≠Str.ofString "__name__":=by decide)(h2:(tn == Str.ofString "__debug__")=false:=by decide):QE X (Expr.Call (Expr.Name (Str.ofString "isinstance") p) [a,Expr.Name tn p2] [] pos) (o1 (yz Ty) fa):=
 ⟨q_is (hm:=hm) (hmt:=hmt) (hv:=hv) (ha:=ha.h) (hn:=hn) (hg:=hg) (hgt:=hgt) (h1:=h1) (h2:=h2)⟩
theorem aj {X:Cx}{pos:Pos}{x:Str}(i:Nat)(hN:List.Nodup (Cx.N X))(hi:(Cx.N X)[i]? =some x:=by rfl)(hx:L2.Loc (Env.scope (Cx.env X)) x:=by first | exact Or.inl rfl | exact Or.inr rfl)(hf:Cx.fn X x=true\/List.lookup x (Scope.names (Env.scope (Cx.env X)))=some NameKind.local:=by first | exact .inl rfl | exact .inr rfl | assumption):QG X (Expr.Name x pos) (gN i):=
 ⟨xR (i:=i) (hN:=hN) (hi:=hi) (hx:=hx) (hf:=hf)⟩
theorem cN {X:Cx}:Do X [] j4:=
 ⟨xQ ⟩
theorem aJ {X:Cx}{e:Expr}{es:List Expr}{g:T->En->Rs En}{gs:List T->En->Rs En}(h1:QG X e g)(h2:Do X es gs)(hs:List.map (λx=>Prod.snd x) (assignEach (e::es) (Cx.env X))=assign e (Cx.env X)::List.map (λx=>Prod.snd x) (assignEach es (Cx.env X)):=by rfl):Do X (e::es) (dI g gs):=
 ⟨u7 (h1:=h1.h) (h2:=h2.h) (hs:=hs)⟩
theorem dA {X:Cx}{es:List Expr}{pos:Pos}{k n:Nat}{gs:List T->En->Rs En}(hc:Cx.calm X=true)(h:Do X es gs)(hn:List.length (assignEach es (Cx.env X))=n:=by rfl)(hst:List.findIdx? (λx=>Prod.fst x) (assignEach es (Cx.env X))=none:=by rfl):QG X (Expr.Tuple es k pos) (gT n gs):=
 ⟨AA (hc:=hc) (h:=h.h) (hn:=hn) (hst:=hst)⟩
theorem bZ {X:Cx}{a:Expr}{fs:En->Rs (List T)}{pos p:Pos}{tg:Expr}(hm:Cx.mg X (Str.ofString "range")=none)(ha:QA X [a] fs)(hg:Gl X (Str.ofString "range"):=by rfl)(hs:starEach [a] (Cx.env X)= [(false,eval a (Cx.env X))]:=by rfl):QI X tg (Expr.Call (Expr.Name (Str.ofString "range") p) [a] [] pos) (iR fs):=
 ⟨tH (hm:=hm) (ha:=ha.h) (hg:=hg) (hs:=hs)⟩
theorem qD {X:Cx}{a b:Expr}{fs:En->Rs (List T)}{pos p:Pos}{tg:Expr}(hm:Cx.mg X (Str.ofString "range")=none)(ha:QA X [a,b] fs)(hg:Gl X (Str.ofString "range"):=by rfl)(hs:starEach [a,b] (Cx.env X)= [(false,eval a (Cx.env X)),(false,eval b (Cx.env X))]:=by rfl)(hs2:starEach [b] (Cx.env X)= [(false,eval b (Cx.env X))]:=by rfl):QI X tg (Expr.Call (Expr.Name (Str.ofString "range") p) [a,b] [] pos) (iR fs):=
 ⟨tG (hm:=hm) (ha:=ha.h) (hg:=hg) (hs:=hs) (hs2:=hs2)⟩
theorem cm {X:Cx}:Da X [] bT:=
 ⟨xO ⟩
theorem gB {X:Cx}{c:Expr}{f:En->Rs Bool}(h:QT X c f):Da X [c] f:=
 ⟨xN (h:=h.h)⟩
theorem fh {X:Cx}{pos:Pos}{elt tg iter:Expr}{ifs:List Expr}{scope:Scope}{N':List Str}{src:List (Option Nat)}{fi:En->Rs (List T)}{tgt:T->En->Rs En}{fc:En->Rs Bool}{fe:En->Rs T}(hc:Cx.calm X=true)(S:LcScope X scope N' src)(hi:QI X tg iter fi)(block:∀(cl:List (Str×Addr)) (C:Addr) (s₀:Shared) (H₀:Hp) (fp:List Addr),QG (bf X scope cl N' C s₀ H₀ fp) tg tgt/\Da (bf X scope cl N' C s₀ H₀ fp) ifs fc/\QE (bf X scope cl N' C s₀ H₀ fp) elt fe)(hs:∀(x:Value),foldedSetIterable iter (Cx.env X) x=pure x:=by intro _;rfl):QE X (Expr.ListComp elt [{ target:=tg,iter:=iter,ifs:=ifs,is_async:=0 }] scope pos) (eh fi src tgt fc fe):=
 ⟨q_lc (hc:=hc) (S:=S) (hi:=hi.h) (block:=λa1 a2 a3 a4 a5=>⟨(block a1 a2 a3 a4 a5).1.h,(block a1 a2 a3 a4 a5).2.1.h,(block a1 a2 a3 a4 a5).2.2.h⟩) (hs:=hs)⟩
theorem cu {X:Cx}:w4 X [] sN:=
 ⟨Aq ⟩
theorem ak {X:Cx}{st:Stmt}{rest:List Stmt}{F G:En->Rs Fl}(h1:QS X st F)(h2:w4 X rest G):w4 X (st::rest) (aB F G):=
 ⟨xK (h1:=h1.h) (h2:=h2.h)⟩
theorem au {X:Cx}{st:Stmt}{F:En->Rs Fl}(h:QS X st F):w4 X [st] F:=
 ⟨Ap (h:=h.h)⟩
theorem aF {X:Cx}{a:Expr}{fa:En->Rs T}{pos:Pos}(ha:QE X a fa):QS X (Stmt.Return (some a) pos) (aO fa):=
 ⟨An (ha:=ha.h)⟩
theorem dq {X:Cx}{c:Expr}{pos:Pos}{f:En->Rs Bool}{A B:List Stmt}{F G:En->Rs Fl}(hc:QT X c f)(ha:w4 X A F)(hb:w4 X B G):QS X (Stmt.If c A B pos) (fV f F G):=
 ⟨Cb (hc:=hc.h) (ha:=ha.h) (hb:=hb.h)⟩
theorem zN {X:Cx}{pos:Pos}{elt tg iter:Expr}{ifs:List Expr}{scope:Scope}{spos py:Pos}{N':List Str}{src:List (Option Nat)}{fi:En->Rs (List T)}{tgt:T->En->Rs En}{fc:En->Rs Bool}{fe:En->Rs T}(i:Nat){y:Str}(hc:Cx.calm X=true)(S:LcScope X scope N' src)(hi:QI X tg iter fi)(block:∀(cl:List (Str×Addr)) (C:Addr) (s₀:Shared) (H₀:Hp) (fp:List Addr),QG (bf X scope cl N' C s₀ H₀ fp) tg tgt/\Da (bf X scope cl N' C s₀ H₀ fp) ifs fc/\QE (bf X scope cl N' C s₀ H₀ fp) elt fe)(hN:List.Nodup (Cx.N X))(hiy:(Cx.N X)[i]? =some y:=by rfl)(hy:L2.Loc (Env.scope (Cx.env X)) y:=by first | exact Or.inl rfl | exact Or.inr rfl)(hsw:swapsWith (Expr.ListComp elt [{ target:=tg,iter:=iter,ifs:=ifs,is_async:=0 }] scope pos) (some (Expr.Name y py)) (Pos.line spos) (Cx.env X)=pure true:=by rfl)(hf:Cx.fn X y=true\/List.lookup y (Scope.names (Env.scope (Cx.env X)))=some NameKind.local:=by first | exact .inl rfl | exact .inr rfl | assumption)(hs:∀(x:Value),foldedSetIterable iter (Cx.env X) x=pure x:=by intro _;rfl):QS X (Stmt.Assign [Expr.Name y py] (Expr.ListComp elt [{ target:=tg,iter:=iter,ifs:=ifs,is_async:=0 }] scope pos) spos) (db (eh fi src tgt fc fe) (gN i)):=
 ⟨Ca (i:=i) (hc:=hc) (S:=S) (hi:=hi.h) (block:=λa1 a2 a3 a4 a5=>⟨(block a1 a2 a3 a4 a5).1.h,(block a1 a2 a3 a4 a5).2.1.h,(block a1 a2 a3 a4 a5).2.2.h⟩) (hN:=hN) (hiy:=hiy) (hy:=hy) (hsw:=hsw) (hf:=hf) (hs:=hs)⟩
theorem aL {X:Cx}{a:Expr}{fa:En->Rs T}{pos:Pos}{tg:Expr}{g:T->En->Rs En}(ha:QE X a fa)(hg:QG X tg g)(hs:swapsWithSole [tg] a (Pos.line pos) (Cx.env X)=pure false:=by rfl)(hw:swappedStores [tg] a (Cx.env X)=pure none:=by rfl)(h1:List.map (λx=>Prod.snd x) (assignEach [tg] (Cx.env X))= [assign tg (Cx.env X)]:=by rfl):QS X (Stmt.Assign [tg] a pos) (db fa g):=
 ⟨Aw (ha:=ha.h) (hg:=hg.h) (hs:=hs) (hw:=hw) (h1:=h1)⟩
theorem oP {X:Cx}{a:Expr}{fa:En->Rs T}{pos:Pos}(ha:QE X a fa)(hs:swapsWith a none (Pos.line pos) (Cx.env X)=pure false:=by rfl):QS X (Stmt.Expr a pos) (xy fa):=
 ⟨xJ (ha:=ha.h) (hs:=hs)⟩
theorem bQ {X:Cx}{pos:Pos}{tg iter:Expr}{body:List Stmt}{fi:En->Rs (List T)}{g:T->En->Rs En}{F:En->Rs Fl}(hc:Cx.calm X=true)(hi:QI X tg iter fi)(hg:QG (Cx.nox X) tg g)(hb:w4 (Cx.nox X) body F)(hs:∀(x:Value),foldedSetIterable iter (Cx.env X) x=pure x:=by intro _;rfl):QS X (Stmt.For tg iter body [] pos) (d7 fi g F):=
 ⟨At (hc:=hc) (hi:=hi.h) (hg:=hg.h) (hb:=hb.h) (hs:=hs)⟩
theorem bR {X:Cx}{a:Expr}{fa:En->Rs T}{tg:Expr}(ha:QE X a fa):QI X tg a (iS fa):=
 ⟨Az (ha:=ha.h)⟩
theorem fg {X:Cx}{a:Expr}{fs:En->Rs (List T)}{p pos:Pos}{elts:List Expr}{kk:Nat}{tpos:Pos}(hm:Cx.mg X (Str.ofString "enumerate")=none)(ha:QA X [a] fs)(hg:Gl X (Str.ofString "enumerate"):=by rfl)(hs:starEach [a] (Cx.env X)= [(false,eval a (Cx.env X))]:=by rfl):QI X (Expr.Tuple elts kk tpos) (Expr.Call (Expr.Name (Str.ofString "enumerate") p) [a] [] pos) (iE fs):=
 ⟨xP (hm:=hm) (ha:=ha.h) (hg:=hg) (hs:=hs)⟩
theorem gA {X:Cx}{es:List Expr}{pos p2 p3:Pos}{x:Str}(i:Nat){f:En->Rs (List T)}(hN:List.Nodup (Cx.N X))(ha:QA X es f)(hi:(Cx.N X)[i]? =some x:=by rfl)(hx:L2.Loc (Env.scope (Cx.env X)) x:=by first | exact Or.inl rfl | exact Or.inr rfl)(hs:swapsWith (Expr.List es p2) (some (Expr.Name x p3)) (Pos.line pos) (Cx.env X)=pure false:=by rfl)(hf:Cx.fn X x=true\/List.lookup x (Scope.names (Env.scope (Cx.env X)))=some NameKind.local:=by first | exact .inl rfl | exact .inr rfl | assumption):QS X (Stmt.Assign [Expr.Name x p3] (Expr.List es p2) pos) (gJ i f):=
 ⟨xI (i:=i) (hN:=hN) (ha:=ha.h) (hi:=hi) (hx:=hx) (hs:=hs) (hf:=hf)⟩
theorem gg {X:Cx}{a:Expr}{fa:En->Rs T}{pos p2:Pos}{x:Str}(i:Nat){apos cpos:Pos}(ha:QE X a fa)(hN:(Cx.N X)[i]? =some x:=by rfl)(hv:ni (Env.scope (Cx.env X)) x:=by first | exact Or.inl rfl | exact Or.inr (Or.inl rfl) | exact Or.inr (Or.inr rfl))(hn:cj a=true:=by rfl)(hbase:attributeBase (Expr.Name x p2) (Str.ofString "append") (Cx.env X) (eval (Expr.Name x p2) (Cx.env X))=eval (Expr.Name x p2) (Cx.env X):=by rfl)(hline:(Pos.endLine apos == Pos.line cpos)=true:=by rfl)(hd:(x == Str.ofString "__debug__")=false:=by decide)(hcd:(x == Str.ofString "__classdict__")=false:=by decide)(hsw:swapsWith (Expr.Call (Expr.Attribute (Expr.Name x p2) (Str.ofString "append") apos) [a] [] cpos) none (Pos.line pos) (Cx.env X)=pure false:=by rfl):QS X (Stmt.Expr (Expr.Call (Expr.Attribute (Expr.Name x p2) (Str.ofString "append") apos) [a] [] cpos) pos) (gy i fa):=
 ⟨Ax (i:=i) (ha:=ha.h) (hN:=hN) (hv:=hv) (hn:=hn) (hbase:=hbase) (hline:=hline) (hd:=hd) (hcd:=hcd) (hsw:=hsw)⟩
theorem nr {X:Cx}{a:Expr}{fa:En->Rs T}{pos p2:Pos}{x:Str}(i:Nat){apos cpos:Pos}(ha:QE X a fa)(hN:(Cx.N X)[i]? =some x:=by rfl)(hv:ni (Env.scope (Cx.env X)) x:=by first | exact Or.inl rfl | exact Or.inr (Or.inl rfl) | exact Or.inr (Or.inr rfl))(hn:cj a=true:=by rfl)(hbase:attributeBase (Expr.Name x p2) (Str.ofString "extend") (Cx.env X) (eval (Expr.Name x p2) (Cx.env X))=eval (Expr.Name x p2) (Cx.env X):=by rfl)(hline:(Pos.endLine apos == Pos.line cpos)=true:=by rfl)(hd:(x == Str.ofString "__debug__")=false:=by decide)(hcd:(x == Str.ofString "__classdict__")=false:=by decide)(hsw:swapsWith (Expr.Call (Expr.Attribute (Expr.Name x p2) (Str.ofString "extend") apos) [a] [] cpos) none (Pos.line pos) (Cx.env X)=pure false:=by rfl):QS X (Stmt.Expr (Expr.Call (Expr.Attribute (Expr.Name x p2) (Str.ofString "extend") apos) [a] [] cpos) pos) (kO i fa):=
 ⟨Au (i:=i) (ha:=ha.h) (hN:=hN) (hv:=hv) (hn:=hn) (hbase:=hbase) (hline:=hline) (hd:=hd) (hcd:=hcd) (hsw:=hsw)⟩
theorem g9 {X:Cx}(i:Nat){st:Stmt}{F:En->Rs Fl}(h:QS X st F):QS X st (lW i F):=
 ⟨Av (i:=i) (h:=h.h)⟩
theorem i3 {X:Cx}(i:Nat){e:Expr}{f:En->Rs T}(h:QE X e f):QE X e (ln i f):=
 ⟨q_ln (i:=i) (h:=h.h)⟩
theorem zQ {X:Cx}{n:Nat}{es args:List Expr}{a0 i0:Expr}{p1 p2 pos:Pos}{as:List Addr}{gs:List (List T->Rs T)}{f0:En->Rs T}{fs:En->Rs (List T)}(S:Sels X n es as gs)(h0:QE X i0 f0)(hl:∀(Z:En) (ts:List T),fs Z=Rs.ok ts->List.length ts=n)(ha:QA X (a0::args) fs)(hn:ba (a0::args)=true:=by rfl)(hs:iq i0:=by intro _ _;rfl)(hz:List.length es<=100:=by decide):QE X (Expr.Call (Expr.Subscript (Expr.List es p1) i0 p2) (a0::args) [] pos) (qK gs f0 fs):=
 ⟨Cf (S:=S) (h0:=h0.h) (hl:=hl) (ha:=ha.h) (hn:=hn) (hs:=hs) (hz:=hz)⟩
theorem tj {X:Cx}{c:Str}{msg:Str}{C:Addr}{bm:List Value}{np p1 cpos pos:Pos}{j:Nat}(O:OX X.K C bm)(hm:X.mg c=some (.ref C))(hc:X.calm=true:=by rfl)(hg:Gl X c:=by rfl)(hd:(c == ("__debug__" : Str))=false:=by decide) :
  QS X (.Raise (some (.Call (.Name c np) [.Constant (.str msg) j p1] [] cpos)) none pos) (Ac c):=⟨u4 O.own hc hm hg hd⟩
theorem w8 {X:Cx}{body suite:List Stmt}{b0:Stmt}{F:En->Rs Fl}{h:Str->Rs T}{ce n:Str}{CE:Addr}{bmE:List Value}(i:Nat){np hpos pos:Pos}(hN:X.N.Nodup)(hm:X.mg ce=some (.ref CE))(OE:OX X.K CE bmE)
  (hb:∀pn xe,w4 { X with pn:=pn,xe:=xe } body F) (hs:oG X i (b0::suite) CE h) (hst:X.stack=X.env::X.outer:=by rfl) (hfe:X.env.frame=some X.env.locals:=by rfl) (hcl:∀x c,X.env.cells.lookup x≠some c) (hex:X.ex= []:=by rfl)
  (hi:X.N[i]? =some n:=by rfl) (hloc:X.env.scope.names.lookup n=some .local:=by rfl) (hg:Gl X ce:=by rfl) (hd:(ce == ("__debug__" : Str))=false:=by decide) :
  QS X (.Try body [.ExceptHandler (some (.Name ce np)) (some n) (b0::suite) hpos] [] [] pos) (pw F h):=⟨Am hst hfe hcl hex hN hi hloc hm OE (λpn xe=>(hb pn xe).h) hs hg hd⟩
theorem rL {P:Program}{w:World}{K:PySem.W.Frag}{mg:Str->Option Value}{base:Heap}{x qual:Str}{st:Stmt}{f:Addr}{fd:FuncData}{N ps:List Str}{k n:Nat}{F:En->Rs Fl}(Fn:L2.Fun K x qual st f fd)(S:aA N ps (ah st))(hn:ps.length=n)
  (hbody:∀(cdv:Value) (A:Around) (outer:List Env) (s:Shared) (H:Hp) (E:XK),Room k (A.deeper (envOfC qual (ah st) s.heap.objs.size f cdv)) →
   ∀xe,w4 ((jr CX0 P w K mg base N qual (ah st) f cdv A outer s H E).wish xe) (cx st) F):wX P w K mg base (k+1) f fd ps n (val n N.length F):=Br Fn S hn λcdv A outer s H E hr xe=>(hbody cdv A outer s H E hr xe).h
theorem aY {X:Cx}{a b:Expr}{fa fb:En->Rs T}{pos:Pos}(hu:Around.units (Cx.A X)+1<cLine)(ha:QE X a fa)(hb:QE X b fb)(hs:uw b:=by intro _ _;rfl):QE X (Expr.Subscript a b pos) (o2 aI fa fb):=
 ⟨Co (hu:=hu) (ha:=ha.h) (hb:=hb.h) (hs:=hs)⟩
theorem tp {X:Cx}{pos p2 p3:Pos}{x:Str}(i:Nat)(hN:List.Nodup (Cx.N X))(hi:(Cx.N X)[i]? =some x:=by rfl)(hx:L2.Loc (Env.scope (Cx.env X)) x:=by first | exact Or.inl rfl | exact Or.inr rfl)(hs:swapsWith (Expr.Dict [] [] p2) (some (Expr.Name x p3)) (Pos.line pos) (Cx.env X)=pure false:=by rfl)(hf:Cx.fn X x=true\/List.lookup x (Scope.names (Env.scope (Cx.env X)))=some NameKind.local:=by first | exact .inl rfl | exact .inr rfl | assumption):QS X (Stmt.Assign [Expr.Name x p3] (Expr.Dict [] [] p2) pos) (nH i):=
 ⟨u6 (i:=i) (hN:=hN) (hi:=hi) (hx:=hx) (hs:=hs) (hf:=hf)⟩
theorem w9 {X:Cx}{b c:Expr}{fb fc:En->Rs T}{pos p2 p3:Pos}{x:Str}(i:Nat)(hu:Around.units (Cx.A X)+1<cLine)(hb:QE X b fb)(hc:QE X c fc)(hN:(Cx.N X)[i]? =some x:=by rfl)(hv:ni (Env.scope (Cx.env X)) x:=by first | exact Or.inl rfl | exact Or.inr (Or.inl rfl) | exact Or.inr (Or.inr rfl))(hd:(x == Str.ofString "__debug__")=false:=by decide)(hcd:(x == Str.ofString "__classdict__")=false:=by decide)(hs:swapsWith c (some (Expr.Subscript (Expr.Name x p2) b p3)) (Pos.line pos) (Cx.env X)=pure false:=by rfl):QS X (Stmt.Assign [Expr.Subscript (Expr.Name x p2) b p3] c pos) (qN i fb fc):=
 ⟨Ao (i:=i) (hu:=hu) (hb:=hb.h) (hc:=hc.h) (hN:=hN) (hv:=hv) (hd:=hd) (hcd:=hcd) (hs:=hs)⟩
theorem kA {X:Cx}{a b c:Expr}{fa fb fc:En->Rs T}{pos p2 p3 p4:Pos}{x:Str}(i:Nat)(hu:Around.units (Cx.A X)+1<cLine)(ha:QE X a fa)(hb:QE X b fb)(hc:QE X c fc)(hsl:uw a:=by intro _ _;rfl)(hN:(Cx.N X)[i]? =some x:=by rfl)(hv:ni (Env.scope (Cx.env X)) x:=by first | exact Or.inl rfl | exact Or.inr (Or.inl rfl) | exact Or.inr (Or.inr rfl))(hd:(x == Str.ofString "__debug__")=false:=by decide)(hcd:(x == Str.ofString "__classdict__")=false:=by decide)(hs:swapsWith c (some (Expr.Subscript (Expr.Subscript (Expr.Name x p2) a p3) b p4)) (Pos.line pos) (Cx.env X)=pure false:=by rfl):QS X (Stmt.Assign [Expr.Subscript (Expr.Subscript (Expr.Name x p2) a p3) b p4] c pos) (gv i fa fb fc):=
 ⟨xH (i:=i) (hu:=hu) (ha:=ha.h) (hb:=hb.h) (hc:=hc.h) (hsl:=hsl) (hN:=hN) (hv:=hv) (hd:=hd) (hcd:=hcd) (hs:=hs)⟩
end Tr
namespace Tr
open PySem PySem.Spec L2
theorem LcScope.byN {X:Cx}{scope:Scope}{N N':List Str}{src:List (Option Nat)}(hN:X.N=N)(hk:scope.kind= .function)(h:A6 scope.names N scope.names N' src=true)
  (hf:(scope.names.all λy=>y.2 != .free||(X.env.scope.names.lookup y.1 == some .cell||X.env.scope.names.lookup y.1 == some .free))=true):LcScope X scope N' src:=by
 have z:=LcScope.by (X:={ X with env:={ X.env with scope:=scope } }) hN rfl hk h
 refine⟨hk,z.cel,z.loc,z.len,z.from_,λx hx=> ?_⟩
 have:=List.all_eq_true.mp hf _ hx;simp only[bne_self_eq_false,Bool.false_or,Bool.or_eq_true]at this
 show X.env.scope.names.lookup x=_\/X.env.scope.names.lookup x=_
 rcases this with z | z
 ·exact .inl (by simpa using z)
 ·exact .inr (by simpa using z)
end Tr
namespace Tr
open PySem PySem.Spec PyProof.Rows L2 PySem.W
def wr (h:Heap):Frag:=(List.range h.objs.size).filterMap λa=>(h.get? a).map λo=>(a,o)
theorem wq (h:Heap):(wr h).In h:=by
 have key:∀(l:List Nat) (a:Addr) (o:Obj),(l.filterMap λa=>(h.get? a).map λo=>(a,o)).lookup a=some o->h.get? a=some o:=by
  intro l
  induction l with
  | nil=>intro a o e;cases e
  | cons b r ih=>
   intro a o e
   cases hb:h.get? b with
   | none=>rw[List.filterMap_cons_none (by rw[hb];rfl)]at e;exact ih a o e
   | some ob=>
    rw[List.filterMap_cons_some (b:=(b,ob)) (by rw[hb];rfl),List.lookup_cons]at e
    cases q:a == b with
    | true=>rw[q]at e;cases e;rw[eq_of_beq q];exact hb
    | false=>rw[q]at e;exact ih a o e
 exact λa o e=>key _ a o e
def obF (K:Frag)(n:Str):Option (Str×Str×Arguments×FuncBody×Scope×Addr×List (Str×Addr)×Value×Addr×Bool×Bool):=match nsIn K mainGlobals n with
 | some (some (.ref f))=>match K.lookup f with
  | some ⟨_,_,.func d,_⟩=>some (d.name,d.qualname,d.params,d.body,d.scope,d.globals,d.closure,d.defaults,d.builtins,codeIn K d.code n,keepIn K (.ref f))
  | _=>none
 | _=>none
def exF (n:Str)(st:Stmt):Option (Str×Str×Arguments×FuncBody×Scope×Addr×List (Str×Addr)×Value×Addr×Bool×Bool):=
 some (n,n,gq st,.stmts (cx st),ah st,mainGlobals,[],.none,builtinsNs,true,true)
theorem zF {K:Frag}{n:Str}{st:Stmt}(e:obF K n=exF n st):∃f fd,nsIn K mainGlobals n=some (some (.ref f))/\L2.Fun K n n st f fd:=by
 unfold obF at e
 split at e
 ·rename_i f hf
  split at e
  ·rename_i oc od d sl hl
   cases d;unfold exF at e;simp only[Option.some.injEq,Prod.mk.injEq]at e;obtain⟨h1,h2,h3,h4,h5,h6,h7,h8,h9,h10,h11⟩:=e;subst h1 h2 h3 h4 h5 h6 h7 h8 h9;exact⟨f,_,hf,Bo hl h10 h11⟩
  ·cases e
 ·cases e
def CF (K:Frag)(N:Addr)(n:Str):Bool:=match nsIn K N n with | some none=>true | _=>false
theorem kZ {K:Frag}{N:Addr}{n:Str}(e:CF K N n=true):nsIn K N n=some none:=by
 unfold CF at e
 split at e
 ·assumption
 ·cases e
def Dl (K:Frag)(n:Str):Option Int:=match nsIn K mainGlobals n with | some (some (.int i _))=>some i | _=>none
theorem A0 {K:Frag}{n:Str}{i:Int}(e:Dl K n=some i):∃t,nsIn K mainGlobals n=some (some (.int i t)):=by
 unfold Dl at e
 split at e
 ·rename_i i' t h;cases e;exact⟨t,h⟩
 ·cases e
def rN:List Value->Bool
 | [.type a,.type b,.type c,.type d] =>a == "ValueError" &&b == "Exception" &&c == "BaseException" &&d == "object"
 | _=>false
theorem kC:∀{l:List Value},rN l=true->l=j7:=by
 intro l e;unfold rN at e
 split at e
 ·simp only[Bool.and_eq_true,beq_iff_eq]at e
  obtain⟨⟨⟨h1,h2⟩,h3⟩,h4⟩:=e;subst h1 h2 h3 h4;rfl
 ·cases e
def uL (D:Option Addr)(m:List Value):Bool:=match D with
 | none=>rN m
 | some D=>match m with
  | .ref E::m=>E == D&&rN m
  | _=>false
def yj (K:Frag)(D:Option Addr)(n:Str):Option Addr:=match nsIn K mainGlobals n with
 | some (some (.ref C))=>match K.lookup C with
  | some ⟨.type t,_,.cls c,⟨[_,_,_,_,some (.builtin b),_]⟩⟩=>match c.mro,K.lookup c.ns with
   | .ref E::m,some ⟨_,_,.dict es _,_⟩=>
    if (t == "type" &&b == "ValueError.__new__" && !c.hasDel&&(es.toList.all λe=>uP e.key)&&calmNames.all (CF K c.ns)&&E == C&&uL D m)=true then some C else none
   | _,_=>none
  | _=>none
 | _=>none
theorem fO {K:Frag}{D:Option Addr}{n:Str}{C:Addr}(e:yj K D n=some C):nsIn K mainGlobals n=some (some (.ref C)) ∧
  ∃nm q N bs bm hd sn su ab co dd k0 k1 k2 k3 k5,uL D bm=true/\K.lookup C=some (excClassObj nm q C N bs bm hd sn su ab co dd k0 k1 k2 k3 k5 "ValueError.__new__")/\∀h:Heap,K.In h->∃mN,h.Ns N mN/\∀n∈calmNames,mN n=none:=by
 unfold yj at e
 split at e
 ·rename_i C' hC
  split at e
  ·rename_i t dd c k0 k1 k2 k3 b k5 hl
   split at e
   ·rename_i E m ob oe es ep oz hm hN
    split at e
    ·rename_i hq
     cases e;simp only[Bool.and_eq_true,beq_iff_eq,Bool.not_eq_true']at hq;obtain⟨⟨⟨⟨⟨⟨h1,h2⟩,h3⟩,h4⟩,h5⟩,h6⟩,h7⟩:=hq
     have z:=List.all_eq_true.mp h5;refine⟨hC,c.name,c.qualname,c.ns,c.bases,m,c.hasDict,c.slotNames,c.subclasses,c.abstract,c.collection,dd,k0,k1,k2,k3,k5,h7,?_,CG hN h4 (kZ (z _ (.head _))) (kZ (z _ (.tail _ (.head _)))) (kZ (z _ (.tail _ (.tail _ (.head _))))) (kZ (z _ (.tail _ (.tail _ (.tail _ (.head _))))))⟩
     rw[hl];cases c;simp only at hm h3;subst h1 h2 hm h3 h6
     rfl
    ·cases e
   ·cases e
  ·cases e
 ·cases e
theorem ox0 {K:Frag}{C:Addr}{n:Str}(e:yj K none n=some C):OX K C j7:=by
 obtain⟨_,_,_,_,_,_,_,_,_,_,_,_,_,_,_,_,_,hu,hl,hn⟩:=fO e;cases kC hu;exact ye hl hn
theorem BL {K:Frag}{C D:Addr}{n m:Str}(e:yj K (some D) n=some C)(d:yj K none m=some D):OX K C (.ref D::j7):=by
 obtain⟨_,_,_,_,_,bm,_,_,_,_,_,_,_,_,_,_,_,hu,hl,hn⟩:=fO e;obtain⟨_,_,_,_,_,_,_,_,_,_,_,_,_,_,_,_,_,hu',hl',hn'⟩:=fO d;cases kC hu';unfold uL at hu;simp only at hu
 split at hu
 ·rw[Bool.and_eq_true]at hu
  cases eq_of_beq hu.1;cases kC hu.2;exact vA hl hn hl' hn'
 ·cases hu
def rE {α:Type}:List (Option α)->Option (List α)
 | [] =>some []
 | none::_=>none
 | some a::r=>match rE r with | some l=>some (a::l) | none=>none
theorem ff {α:Type}{o:Option α}{r:List (Option α)}{l:List α}(e:rE (o::r)=some l):∃a l',o=some a/\l=a::l'/\rE r=some l':=by
 cases o with
 | none=>cases e
 | some a=>
  unfold rE at e
  split at e
  ·rename_i l' h;cases e;exact⟨a,l',rfl,rfl,h⟩
  ·cases e
theorem wT {α:Type}{l:List α}(e:rE ([]:List (Option α))=some l):l= []:=by cases e;rfl
def n4:List Addr->Bool
 | [] =>true
 | a::r=>(r.all λb=> !(a == b))&&n4 r
theorem mG:∀{l:List Addr},n4 l=true->l.Nodup
 | [],_=> .nil
 | a::r,h=>by
  unfold n4 at h;rw[Bool.and_eq_true]at h;refine List.nodup_cons.mpr ⟨λhm=> ?_,mG h.2⟩
  have:=List.all_eq_true.mp h.1 a hm
  simp at this
def Dk (K:Frag):List Str->Bool
 | [] =>true
 | m::es=>match yj K none m with
  | some D=>match rE (es.map (yj K (some D)))with | some l=>n4 (l++ [D]) | none=>false
  | none=>false
theorem AY {K:Frag}{m:Str}{es:List Str}(e:Dk K (m::es)=true):∃D l,yj K none m=some D/\rE (es.map (yj K (some D)))=some l/\(l++ [D]).Nodup:=by
 rw[Dk]at e
 split at e
 ·rename_i D hD
  split at e
  ·rename_i l hl;exact⟨D,l,hD,hl,mG e⟩
  ·cases e
 ·cases e
structure uC where
 tab:List (Str×Nat)
 zs:List Str
 cs:List (Str×Int)
 es:List Str
def l9 (S:uC)(K:Frag):=(S.tab.map (λp=>obF K p.1),S.zs.all (CF K mainGlobals),S.cs.map (λc=>Dl K c.1),Dk K S.es)
def lS (S:uC)(top:Nat->Stmt):=(S.tab.map (λp=>exF p.1 (top p.2)),true,S.cs.map (λc=>some c.2),true)
def hookK (S:uC)(top:Nat->Stmt):Hook:=
 ⟨_,λs=>l9 S (wr s.heap),λ_=>lS S top,λ_ h=> ∃K:Frag,K.In h/\l9 S K=lS S top,λ_ s e=>⟨_,wq s.heap,e⟩,λ_ _ _ ⟨K,a,b⟩ k=>⟨K,a.keeps k,b⟩⟩
section
variable {S:uC}{top:Nat->Stmt}{K:Frag}{h:Heap}{mg:Str->Option Value}
theorem og {α β:Type}{f g:α->β}:∀{l:List α} (j:Nat) {a:α},l.map f=l.map g->l[j]? =some a->f a=g a
 | [],_,_,_,q=>by cases q
 | b::l,0,a,e,q=>by cases q;exact(List.cons.inj e).1
 | b::l,j+1,a,e,q=>og (l:=l) j (List.cons.inj e).2 q
theorem df (j:Nat){n:Str}{i:Nat}{ps:List Str}(X:K.In h)(G:h.Ns mainGlobals mg)(e:l9 S K=lS S top)(q:S.tab[j]? =some (n,i))
  (hb:∀(kV doc pm:Value) (an:Option Addr) (cdv ct:Value) (us:List Value),us.length=ps.length->bindArgs (fnOf n n (gq (top i)) (cx (top i)) (ah (top i)) .none kV doc pm an cdv ct) ⟨us,[]⟩=pure (ps.zip us)) :
  ∃f fd,Fn K mg n (top i) ps f fd:=by
 obtain⟨f,fd,h1,h2⟩:=zF (og j (congrArg (·.1) e) q)
 exact⟨f,fd,h2,h2.binds hb,mg_of X G h1⟩
theorem CS (j:Nat){n:Str}{i:Nat}{x:Str}{fa:Addr}(X:K.In h)(G:h.Ns mainGlobals mg)(e:l9 S K=lS S top)(q:S.tab[j]? =some (n,i))(hfa:mg n=some (.ref fa))
  (hb:∀(kV doc pm:Value) (an:Option Addr) (cdv ct u:Value),bindArgs (fnOf n n (gq (top i)) (cx (top i)) (ah (top i)) .none kV doc pm an cdv ct) ⟨[u],[]⟩=pure [(x,u)]) :
  ∃fd,Fn K mg n (top i) [x] fa fd/\∀(s:Shared) (u:Value),BindsTo s fd ⟨[u],[]⟩ [(x,u)]:=by
 obtain⟨f,fd,h1,h2⟩:=zF (og j (congrArg (·.1) e) q)
 have z:=hfa.symm.trans (mg_of X G h1);cases z
 have hh:=h2;obtain⟨oc,od,kV,doc,pm,an,cdv,ct,osl,rfl,lk,hcd⟩:=hh.ex;exact⟨_,⟨h2,.all λus hl=>match us,hl with | [u],_=>hb kV doc pm an cdv ct u,mg_of X G h1⟩,λs u=> .of_eq (hb kV doc pm an cdv ct u)⟩
theorem dD (j:Nat){n:Str}(X:K.In h)(G:h.Ns mainGlobals mg)(e:l9 S K=lS S top)(q:S.zs[j]? =some n):mg n=none:=
 mg_none_of X G (kZ (List.all_eq_true.mp (congrArg (·.2.1) e:S.zs.all (CF K mainGlobals)=true) n (List.mem_of_getElem? q)))
theorem mP (j:Nat){n:Str}{i:Int}(X:K.In h)(G:h.Ns mainGlobals mg)(e:l9 S K=lS S top)(q:S.cs[j]? =some (n,i)):∃t,mg n=some (.int i t):=by
 obtain⟨t,ht⟩:=A0 (og (f:=λc=>Dl K c.1) (g:=λc=>some c.2) j (congrArg (·.2.2.1) e) q)
 exact⟨t,mg_of X G ht⟩
theorem CW (e:l9 S K=lS S top):Dk K S.es=true:=congrArg (·.2.2.2) e
end
theorem left_of {p q:Program}{loose:List Str}{Xt:Shared->Bool}{α:Type}{Yf:Shared->α}{Ya:World->α}{N:Nat}{g0:Bool}
  (e:opening p=plainProg p.main.scope.names) (hN:Nat.ble 600 N=true) (f:∀s,fenceModules? p s=some s)
  (h:∀(w:World) (os:OsState),(topFrom treeTable p w N ⟨boot_heap w.params,⟨[]⟩,boot_drawn,boot_toks,os⟩).map (λs=>(openSeen q loose (importedModules p.main.body) Xt g0 s,Yf s))=some (openGood q loose,Ya w)) :
  LeftO p q loose Xt Yf Ya N g0:=λw=>by
 obtain⟨⟨h0,gs,d,k,os⟩,e1,e2⟩:=Option.map_eq_some_iff.mp (boot_open e hN f w);simp only[Prod.mk.injEq]at e2;obtain⟨rfl,rfl,rfl,rfl⟩:=e2;unfold openEnds;rw[e1];exact h w os
theorem walk_k {l:OpenLaw}{n k:Nat}{q:Program}{loose:List Str}{XP:(Str->Option Value)->Heap->Prop}{d:DefRec}{S:uC}{top:Nat->Stmt}{CX:w6}{sp:Frag->Sp}{x:Str}
  (hn:l.most=some n) (hn2:n<=sizeLine) (hdf:d.params.defaults= []) (hr:Room k callerA)
  (F:∀(w:World) (K:Frag) (mg:Str->Option Value) (fa:Addr) (h:Heap),K.In h->l9 S K=lS S top->h.Ns mainGlobals mg->mg d.name=some (.ref fa) →
   ∃fd:FuncData,(∀(s:Shared) (u:Value),BindsTo s fd ⟨[u],[]⟩ [(x,u)])/\∀base:Heap,K.In base->base.Ns mainGlobals mg->oH l.prog w K mg base CX k fa fd [x] (sp K))
  (hsp:∀(K:Frag) (H:Hp) (a:Addr) (ns:List Int),ns.length<=n->BK H->SqL K H a (ns.map V.int)->sp K [.ref a] H (λv _=>v= .bl true) λ_ _ _=>False)
  (hCX:∀(H:Hp) (s:Shared) (e:Value) (s':Shared),CX [] H s (λ_ _ _=>False) e s'->False) :
  WalkO q loose XP (hookK S top).says l.row.toRowW d [] (λf vs=>PySem.call f vs):=by
 refine Att.attach_call hn hdf λw s₀ s₁ mg mb fa o pm cd doc a vs ns G Y ho hd hcd hmg hobj hints hlen hg=> ?_
 obtain⟨K,KX,e⟩:=Y;obtain⟨fd,hb,hF⟩:=F w K mg fa _ KX e G.T.g hmg;exact vU KX G.T.g G.T.b G.T.builtins G.T.nolimit hg hobj hints (Nat.le_trans hlen hn2) hr hF hb (λH hO hS=>hsp K H a ns hlen hO hS) λH e s'=>hCX H s₁ e s'
structure Cl (P:Program)(w:World)(K:Frag)(mg:Str->Option Value)(base:Heap)(k:Nat)(x:Str)(n:Nat)(m:List T->Rs T):Prop where
 ex:∃f fd ps,mg x=some (.ref f)/\keepIn K (.ref f)=true/\Binds K fd ps []/\ps.length=n/\wX P w K mg base k f fd ps n m
abbrev iy (K:Frag)(mg:Str->Option Value)(x:Str)(st:Stmt)(ps:List Str):Prop:=∃f fd,Fn K mg x st ps f fd
section
variable {P:Program}{w:World}{K:Frag}{mg:Str->Option Value}{base:Heap}{x:Str}{st:Stmt}{N ps:List Str}{k n:Nat}{F:En->Rs Fl}
theorem bB (H:iy K mg x st ps)(S:aA N ps (ah st))(hn:ps.length=n)
  (hbody:∀(f:Addr) (cdv:Value) (A:Around) (outer:List Env) (s:Shared) (H:Hp) (E:XK),Room k (A.deeper (envOfC x (ah st) s.heap.objs.size f cdv)) →
   ∀xe,w4 ((jr CX0 P w K mg base N x (ah st) f cdv A outer s H E).wish xe) (cx st) F):Cl P w K mg base (k+1) x n (val n N.length F):=by
 obtain⟨f,fd,h⟩:=H;exact⟨f,fd,ps,h.mg,h.fn.kp,h.bd,hn,rL h.fn S hn (hbody f)⟩
end
section
variable {X:Cx}{e:Expr}{es:List Expr}{fs:En->Rs (List T)}{pos p:Pos}{x:Str}{n k k':Nat}{g:List T->Rs T}
theorem aS (c:Cl X.prog X.w X.K X.mg X.base k x n g)(hr:Room k' X.A)(ha:QA X (e::es) fs)(hk:k<=k':=by decide)(hl:∀(Z:En) (ts:List T),fs Z= .ok ts->ts.length=n:=by repeat first | exact zJ | refine zI ?_)
  (hn:ba (e::es)=true:=by rfl) (hg:Gl X x:=by rfl) (h2:(x == Str.ofString "__debug__")=false:=by decide):QE X (.Call (.Name x p) (e::es) [] pos) (cl g fs):=by
 obtain⟨f,fd,ps,h1,h3,h4,h5,h6⟩:=c.ex;exact zq_c h6 (hr.mono hk) h1 h3 h4 hl ha h5 hn hg h2
theorem oQ {i:Int}(h:∃t,X.mg x=some (.int i t))(hg:Gl X x:=by rfl)(hd:(x == Str.ofString "__debug__")=false:=by decide):QE X (.Name x pos) (cn (.int i)):=by
 obtain⟨t,h⟩:=h;exact xc h ⟨_,rfl⟩ hg hd
abbrev zb (X:Cx)(n:Nat)(es:List Expr)(gs:List (List T->Rs T)):Prop:=∃as,Sels X n es as gs
theorem selN:zb X n [] []:=⟨_,seln⟩
theorem Aa {gs:List (List T->Rs T)}(c:Cl X.prog X.w X.K X.mg X.base k x n g)(hr:Room k' X.A)(h:zb X n es gs)(hk:k<=k':=by decide)(hg:Gl X x:=by rfl)(hd:(x == Str.ofString "__debug__")=false:=by decide):zb X n (.Name x p::es) (g::gs):=by
 obtain⟨f,fd,ps,h1,h3,h4,h5,h6⟩:=c.ex;obtain⟨as,h⟩:=h;exact⟨_,selc h6 (hr.mono hk) h1 h3 h4 h h5 hg hd⟩
theorem xb {args:List Expr}{a0 i0:Expr}{p1 p2:Pos}{gs:List (List T->Rs T)}{f0:En->Rs T}(S:zb X n es gs)(h0:QE X i0 f0)(ha:QA X (a0::args) fs)(hl:∀(Z:En) (ts:List T),fs Z= .ok ts->ts.length=n:=by repeat first | exact zJ | refine zI ?_)
  (hn:ba (a0::args)=true:=by rfl) (hs:iq i0:=by intro _ _;rfl) (hz:List.length es<=100:=by decide):QE X (.Call (.Subscript (.List es p1) i0 p2) (a0::args) [] pos) (qK gs f0 fs):=by
 obtain⟨as,S⟩:=S;exact zQ S h0 hl ha hn hs hz
end
end Tr
namespace Tr
open PySem PySem.Spec PyProof.Rows L2
theorem PairsAt.snoc {H:Hp}{b kb:Addr}{p:List Key×V}(h1:H b=some (.tup [.ref kb,p.2]))(h2:H kb=some (.tup (p.1.map kV))):∀{xs:List V} {ps:List (List Key×V)},PairsAt H xs ps->PairsAt H (xs++ [.ref b]) (ps++ [p])
 | [],_,h=>by
  unfold PairsAt at h;subst h
  exact⟨b,kb,p,[],rfl,rfl,h1,h2,rfl⟩
 | x::xs,_,⟨b',kb',p',r,e1,e2,e3,e4,e5⟩=>by
  subst e1;exact⟨b',kb',p',r++ [p],rfl,e2,e3,e4,e5.snoc h1 h2⟩
theorem PairsAt.move {H H':Hp}{D:Addr}{zs:List V}(hD:H D=some (.lst zs))(s:SameO (λa=>a=D) H H'):∀{xs:List V} {ps:List (List Key×V)},PairsAt H xs ps->PairsAt H' xs ps
 | [],_,h=>h
 | x::xs,_,⟨b,kb,p,r,e1,e2,e3,e4,e5⟩=>⟨b,kb,p,r,e1,e2,s _ _ e3 (gO e3 hD (λz=>nomatch z)),s _ _ e4 (gO e4 hD (λz=>nomatch z)),e5.move hD s⟩
theorem PairsAt.len {H:Hp}:∀{xs:List V} {ps:List (List Key×V)},PairsAt H xs ps->xs.length=ps.length
 | [],_,h=>by unfold PairsAt at h;subst h;rfl
 | x::xs,_,⟨b,kb,p,r,e1,e2,e3,e4,e5⟩=>by subst e1;rw[List.length_cons,List.length_cons,e5.len]
section
variable {X:Cx}
theorem p8 {src:List (Option Nat)}{wi:TI}{te:TE}{σ:L2.St}{H:Hp}{Q:VK}{Z:En}{O:Ow}{l:List T}{kk:List (List Key)}(E:EnvO X.K O H Z σ)(hwi:∀R,(∀H1,Same H H1->∀J,Dd X.K O H1 l J->R J H1)->wi σ H R)(hz:l.length<=1000)(hk:l.map aN=kk.map some)(hs:0<src.length)
  (Acc:Hp->Addr->List V->Prop) (a0:∀H1 D,Same H H1->Nw X.K H1 D->Acc (upd H1 D (.lst [])) D [])
  (am:∀H1 H2 D vs ys,Acc H1 D vs->H1 D=some (.lst ys)->SameO (λa=>a=D) H1 H2->Acc H2 D vs)
  (hte:∀t∈l,∀σ' H' O' D vs ys (Q':VK),EnvM X.K O' noM H' ((a8 src Z).set 0 (.va t)) σ'->Acc H' D vs->H' D=some (.lst ys)->(∀v H'',Same H' H''->Acc H'' D (vs++ [v])->Q' v H'')->te σ' H' Q')
  (hq:∀H1 D ys ps H',Same H H1->Nw X.K H1 D->Same H1 H'->H' D=some (.lst ys)->PairsAt H' ys ps->ps.map (·.1)=kk->Acc H' D (ps.map (·.2))->Q (.ref D) H') :
  zZ X.K wi src (tD X (gN 0)) o6 (xo (fI (kE 0) (fI te o8))) σ H Q:=by
 refine hwi _ λH1 s1 J hJ D hD hK=> ?_
 have nD:Nw X.K H1 D:=⟨hD,hK⟩
 have E1:=E.same s1
 have lk:l.length=kk.length:=by have:=congrArg List.length hk;rwa [List.length_map,List.length_map]at this
 have hlen:0<(a8 src Z).length:=by unfold a8;rw[List.length_map];exact hs
 let O':Ow:=λa=>O a\/a=D
 have subO:∀a,O' a->O a\/Nw X.K H1 a:=λa z=>z.elim .inl λw=> .inr (w▸nD)
 refine⟨λi m σ' ys H'=>m=l.length - i/\i<=l.length/\ys.length=i/\H' D=some (.lst ys)/\SameO (λa=>a=D) (upd H1 D (.lst [])) H' ∧
  ∃s0 ps,EnvM X.K O' noM H' ((a8 src Z).set 0 s0) σ'/\PairsAt H' ys ps/\ps.map (·.1)=kk.take i/\Acc H' D (ps.map (·.2)),⟨l.length,?_⟩,?_⟩
 ·have sN:Same H1 (upd H1 D (.lst [])):=aM hD _
  refine⟨by omega,Nat.zero_le _,rfl,aw,λb o e _=>e,(a8 src Z)[0],[],?_,rfl,rfl,a0 H1 D s1 nD⟩
  rw[List.set_getElem_self]
  exact(p9 E1 src).move (P:=λa=>a=D) (λa z=> .inr (z▸nD)) subO (λb o e _=>sN b o e) λa z=>by
   rcases z with z | z
   ·exact(E1.mtb a z).same sN
   ·rw[z];exact .inl ⟨_,aw⟩
 ·rintro i m σ' ys H' ⟨rfl,hi',hyl,hDl,hsm,s0,ps,E',hp,hkk,hacc⟩
  refine⟨hDl,?_⟩
  have sm1:SameO (λa=>a=D) H1 H':=λb o e nb=>hsm b o (by rw[ar nb];exact e) nb
  have it:=hJ (λa=>a=D) O' (λa z=> .inr (z▸nD)) subO i H' sm1 (λa z=>(E'.trk a z).some)
  by_cases hlt:i<l.length
  ·refine .inr ?_
   obtain⟨go,yl⟩:=it.2 l[i] (by simp)
   refine⟨go,by rw[hyl,sizeLine_eq];omega,λxx Hc y=> ?_⟩
   obtain⟨sc,rx⟩:=yl xx Hc y
   have Ec:=E'.same sc
   have eg:gN 0 l[i] ((a8 src Z).set 0 s0)= .ok ((a8 src Z).set 0 (.va l[i])):=by unfold gN;rw[if_pos (by rw[List.length_set];exact hlen),List.set_set]
   refine⟨(a8 src Z).set 0 s0,O',noM,l[i],Ec,rx,?_⟩
   rw[eg];intro σ1 Eg;unfold o6
   dsimp only
   rw[if_pos rfl];obtain⟨kv,ekv,rkv⟩:=Eg.val 0 l[i] (by rw[List.getElem?_set_self hlen])
   refine⟨kv,ekv,?_⟩
   have aC:Acc Hc D (ps.map (·.2)):=am H' Hc D _ ys hacc hDl λb o e _=>sc b o e
   have DC:Hc D=some (.lst ys):=sc _ _ hDl;refine hte l[i] (List.getElem_mem hlt) σ1 Hc O' D _ ys _ Eg aC DC λv H4 s4 acc4=>⟨by show 2<=sizeLine;rw[sizeLine_eq];omega,λp hpn=> ?_⟩
   have D4:H4 D=some (.lst ys):=s4 _ _ DC
   have pD:p≠D:=λz=>by rw[z,D4]at hpn;cases hpn
   have E4:=Eg.same s4
   have ki:kk[i]'(by omega)=kk[i]'(by omega):=rfl
   have hki:aN l[i] =some (kk[i]'(by omega)):=by
    have:=congrArg (λz=>z[i]?) hk
    simp only[List.getElem?_map,List.getElem?_eq_getElem hlt,List.getElem?_eq_getElem (show i<kk.length by omega),Option.map_some]at this
    exact Option.some.inj this
   obtain⟨kb,rfl,hkb⟩:=ij hki (rkv.same s4)
   have s46:SameO (λa=>a=D) H4 (upd (upd H4 p (.tup [.ref kb,v])) D (.lst (ys++ [.ref p]))):=λb o e nb=>by
    rw[ar nb,ar (λz=>by rw[z,hpn]at e;cases e)];exact e
   refine⟨by rw[ar (Ne.symm pD)];exact D4,l.length - (i+1),by omega,rfl,hlt,?_,aw,λb o e nb=>s46 b o (s4 _ _ (sc _ _ (hsm b o e nb))) nb,.va l[i],ps++ [(kk[i]'(by omega),v)],?_,?_,?_,?_⟩
   ·rw[List.length_append,hyl];rfl
   ·exact E4.move (λa z=> .inl (.inr z)) (λa z=> .inl z) s46 λaa z=>by
     by_cases hz:aa=D
     ·rw[hz];exact .inl ⟨_,aw⟩
     ·exact(E4.trk aa z).elim (λ⟨vs,e⟩=> .inl ⟨vs,s46 _ _ e hz⟩) λ⟨vs,e⟩=> .inr ⟨vs,s46 _ _ e hz⟩
   ·refine((hp.same (sc.trans s4)).move D4 s46).snoc (kb:=kb) (p:=(kk[i]'(by omega),v)) ?_ ?_
    ·rw[ar pD,aw]
    ·exact s46 _ _ hkb (gO hkb D4 (λz=>nomatch z))
   ·rw[List.map_append,hkk]
    show kk.take i++ [kk[i]'(by omega)] =kk.take (i+1)
    rw[List.take_append_getElem]
   ·rw[List.map_append]
    exact am H4 _ D _ ys acc4 D4 s46
  ·refine .inl ⟨it.1 (by omega),?_⟩
   have sF:Same H1 H':=λb o e=>sm1 b o e λz=>by rw[z,hD]at e;cases e
   exact hq H1 D ys ps H' s1 nD sF hDl hp (by rw[hkk,List.take_of_length_le (by omega)]) hacc
def nA (K:PySem.W.Frag)(t:TE):TE:=λσ H Q=>t σ H λv H'=> ∃a xs ps,v= .ref a/\H' a=some (.lst xs)/\xs.length<=1000/\PairsAt H' xs ps/\∀q,Nw K H' q->Q (.ref q) (upd H' q (.dT (dJ [] ps)))
theorem pH {e:Expr}{t:TE}{p pos:Pos}(hu:X.A.units+8<cLine)(hc:X.calm=true)(hm:X.mg "dict" =none)(ha:PE X e t)(hg:Gl X "dict")(hs:cj e=true):PE X (.Call (.Name "dict" p) [e] [] pos) (nA X.K t):=by
 have h1:starEach [e] X.env=(false,eval e X.env)::starEach [] X.env:=a6 hs;intro pins s σ H Q I hq;refine wpAny_Call_Name_kw (eI I hg hm (show bootBuiltins "dict" =some (.type "dict")by decide+kernel) ?_ (by decide) (by decide))
 refine PyProof.Rows.callWith_type1 (bS (aZ (te:=t) ha de h1 pos pins s σ H (λzs H'=>match zs with | [v] => ∃a xs ps,v= .ref a/\H' a=some (.lst xs)/\xs.length<=1000/\PairsAt H' xs ps/\∀q,Nw X.K H' q->Q (.ref q) (upd H' q (.dT (dJ [] ps))) | _=>False) I ?_) λus s1 hh=> ?_) h1 rfl
 ·exact hq
 ·obtain⟨vs,H1,I1,r1,hv⟩:=hh
  match vs,hv,r1 with
  | [v],hv,r1=>
  obtain⟨a,xs,ps,ev,e1,e2,e3,e4⟩:=hv;subst ev;obtain⟨u,rfl,ru⟩:=r1.one;obtain rfl:u=Value.ref a:=ru;exact wI (I1.ok.hd hc) hu I1 e1 e2 e3 λq s' nw I'=>⟨.ref q,_,I',rfl,e4 q nw⟩
end
theorem jx:∀(ps kvs:List (List Key×V)),((kvs++ps).map (·.1)).Nodup->dJ kvs ps=kvs++ps
 | [],kvs,_=>by rw[dJ,List.append_nil]
 | p::ps,kvs,h=>by
  have e:ci kvs p.1 p.2=kvs++ [p]:=by
   unfold ci;rw[if_neg];intro z;obtain⟨q,hq,e⟩:=List.any_eq_true.mp z
   have e:=of_decide_eq_true e;rw[List.map_append,List.nodup_append]at h;exact h.2.2 q.1 (List.mem_map.mpr ⟨q,hq,rfl⟩) p.1 (by simp) e
  rw[dJ,e,jx ps (kvs++ [p]) (by rw[List.append_assoc];exact h),List.append_assoc]
  rfl
def fA (kk:List (List Key)):List (List Key×V):=kk.map λk=>(k,V.non)
theorem Ad {kk:List (List Key)}:∀{ps:List (List Key×V)},ps.map (·.1)=kk->(∀v∈ps.map (·.2),v=V.non)->ps=fA kk:=by
 intro ps h1 h2;subst h1;unfold fA;rw[List.map_map]
 conv=>lhs;rw[<-List.map_id ps]
 exact List.map_congr_left λp hp=>Prod.ext rfl (h2 p.2 (List.mem_map.mpr ⟨p,hp,rfl⟩))
section
variable {X:Cx}
def tPI0 (K:PySem.W.Frag)(f:En->Rs (List T)):TI:=λσ H R=> ∃Z O,EnvO K O H Z σ/\match f Z with
 | .ok ts=> ∀H',Same H H'->∀J,Dd K O H' ts J->R J H'
 | _=>False
theorem tPI0.up {f:En->Rs (List T)}{σ:L2.St}{H:Hp}{R:It->Hp->Prop}(h:tPI0 X.K f σ H R):Di X f σ H R:=by
 obtain⟨Z,O,E,h⟩:=h;refine⟨Z,O,E,?_⟩
 cases q:f Z with
 | ok t=>rw[q]at h;exact h
 | err c=>rw[q]at h;exact h.elim
 | bad=>rw[q]at h;exact h.elim
def qJ (X:Cx)(src:List (Option Nat)):TE:=nA X.K (zZ X.K (tPI0 X.K (iS (vr 1))) src (tD X (gN 0)) o6 (xo (fI (kE 0) (fI (tC .non) o8))))
theorem AJ {eb tb ib:Expr}{p q1 pc lp pos:Pos}{jj:Nat}{sc:Scope}{N':List Str}{src:List (Option Nat)}{x1}(hu:X.A.units+8<cLine)(hc:X.calm=true)(hm:X.mg "dict" =none)(hg:Gl X "dict")(S:LcScope X sc N' src)(hi:uF X tb ib (iS (vr 1)))
  (blk:∀cl C s₀ H₀ fp,wU (bf X sc cl N' C s₀ H₀ fp) tb (gN 0)/\PE (bf X sc cl N' C s₀ H₀ fp) eb (kE 0)/\cj eb=true) (hs:∀x,foldedSetIterable ib X.env x=pure x) :
  PE X (.Call (.Name "dict" p) [.ListComp (.Tuple [eb,.Constant .none jj pc] x1 q1) [⟨tb,ib,[],0⟩] sc lp] [] pos) (qJ X src):=
 PE.imp (pH hu hc hm (pG hc S hi (λcl C s₀ H₀ fp=>⟨(blk cl C s₀ H₀ fp).1,nN,nP (aZ (blk cl C s₀ H₀ fp).2.1 (aZ vm de (a6 rfl)) (a6 (blk cl C s₀ H₀ fp).2.2))⟩) hs) hg rfl) λσ H Q h=>tPI0.up h
theorem uX {src:List (Option Nat)}{σ:L2.St}{H:Hp}{Q:VK}{Z:En}{O:Ow}{l:List T}{kk:List (List Key)}(E:EnvO X.K O H Z σ)(hf:iS (vr 1) Z= .ok l)(hz:l.length<=1000)(hk:l.map aN=kk.map some)(hn:kk.Nodup)(hs:0<src.length)
  (hq:∀d H',Same H H'->Nw X.K H d->H' d=some (.dT (fA kk))->Q (.ref d) H'):qJ X src σ H Q:=by
 have lk:l.length=kk.length:=by have:=congrArg List.length hk;rwa [List.length_map,List.length_map]at this
 unfold qJ nA;refine p8 (X:=X) (te:=tC .non) E (λR h=>⟨Z,O,E,by rw[hf];exact h⟩) hz hk hs (λ_ _ vs=> ∀v∈vs,v=V.non) (λ_ _ _ _ v h=>nomatch h) (λ_ _ _ _ _ h _ _=>h) (λt ht σ' H' O' D vs ys Q' _ acc _ k=>k _ H' (Same.refl H') λv hv=> ?_) λH1 D ys ps H' s1 nD s2 hD hp h1 h2=> ?_
 ·rcases List.mem_append.mp hv with z | z
  ·exact acc v z
  ·exact List.mem_singleton.mp z
 ·have e:ps=fA kk:=Ad h1 h2
  refine⟨D,ys,ps,rfl,hD,by rw[hp.len,e];unfold fA;rw[List.length_map];omega,hp,λq nq=> ?_⟩
  have e2:dJ [] ps=fA kk:=by rw[jx ps [] (by rw[List.nil_append,h1];exact hn),List.nil_append,e]
  rw[e2];exact hq q _ ((s1.trans s2).trans (aM nq.1 _)) (jd (s1.trans s2) nq) aw
theorem pF {K:PySem.W.Frag}{O:Ow}{H:Hp}:∀(l:List T) (kk:List (List Key)),l.length=kk.length->Reps K O H (l.map λ_=>T.non) ((fA kk).map (·.2))
 | [],[],_=>Reps.nil_
 | _::l,_::kk,h=>Reps.cons_ Rep.non_ (pF l kk (by simpa using h))
 | [],_::_,h=>by simp at h
 | _::_,[],h=>by simp at h
theorem pB {K:PySem.W.Frag}{O:Ow}{H:Hp}{l:List T}{kk:List (List Key)}(hk:l.map aN=kk.map some):∀{m:List T} {ds:List Addr},m.length=ds.length->(∀d∈ds,H d=some (.dT (fA kk)))->RowsR K O H (m.map λ_=>(l,l.map λ_=>T.non)) ds
 | [],[],_,_=>rfl
 | _::m,d::ds,h,hd=>⟨d,ds,fA kk,rfl,hd d List.mem_cons_self,by unfold fA;rw[List.map_map];exact hk,pF l kk (by have:=congrArg List.length hk;rwa [List.length_map,List.length_map]at this),pB hk (by simpa using h) λe he=>hd e (List.mem_cons_of_mem _ he)⟩
 | [],_::_,h,_=>by simp at h
 | _::_,[],h,_=>by simp at h
theorem sw:∀{l:List T},fZ l=true->∃kk:List (List Key),l.map aN=kk.map some
 | [],_=>⟨[],rfl⟩
 | t::l,h=>by
  unfold fZ at h;rw[Bool.and_eq_true]at h;obtain⟨kk,e⟩:=sw h.2;obtain⟨k,ek⟩:=Option.isSome_iff_exists.mp h.1;exact⟨k::kk,by rw[List.map_cons,List.map_cons,ek,e]⟩
theorem u5 (i j:Nat){x:Str}{ea r ta ia:Expr}{p q1 lp p2 p3 pos:Pos}{x1}{sc:Scope}{N':List Str}{src:List (Option Nat)}(hu:X.A.units+8<cLine)(hc:X.calm=true)(hm:X.mg "dict" =none)(hN:X.N.Nodup)
  (S:LcScope X sc N' [none,some j]) (hi:uF X ta ia (iS (vr j))) (hsr:0<src.length)
  (blk:∀cl C s₀ H₀ fp,wU (bf X sc cl N' C s₀ H₀ fp) ta (gN 0)/\PE (bf X sc cl N' C s₀ H₀ fp) ea (kE 0)/\PE (bf X sc cl N' C s₀ H₀ fp) r (qJ X src)) (h1:cj ea=true:=by rfl) (h2:cj r=true:=by rfl)
  (hs:∀x,foldedSetIterable ia X.env x=pure x:=by intro _;rfl) (hg:Gl X "dict":=by rfl) (hix:X.N[i]? =some x:=by rfl) (hx:Loc X.env.scope x:=by first | exact Or.inl rfl | exact Or.inr rfl)
  (hsw:swapsWith (.Call (.Name "dict" p) [.ListComp (.Tuple [ea,r] x1 q1) [⟨ta,ia,[],0⟩] sc lp] [] p2) (some (.Name x p3)) pos.line X.env=pure false:=by rfl)
  (hf:X.fn x=true\/X.env.scope.names.lookup x=some .local:=by first | exact .inl rfl | exact .inr rfl | assumption) :
  mn X (.Assign [.Name x p3] (.Call (.Name "dict" p) [.ListComp (.Tuple [ea,r] x1 q1) [⟨ta,ia,[],0⟩] sc lp] [] p2) pos) (kN i j):=
 PS.imp (kP hN hix hx (pH hu hc hm (pG (g:=tD X (gN 0)) (tc:=o6) (te:=xo (fI (kE 0) (fI (qJ X src) o8))) hc S hi (λcl C s₀ H₀ fp=>⟨(blk cl C s₀ H₀ fp).1,nN,nP (aZ (blk cl C s₀ H₀ fp).2.1 (aZ (blk cl C s₀ H₀ fp).2.2 de (a6 h2)) (a6 h1))⟩) hs) hg rfl) hsw hf) λD σ H hh_=>by
  obtain⟨Z,B,M,E,h⟩:=hh_;unfold kN at h
  cases qj:Z[j]? with
  | none=>rw[qj]at h;exact h.elim
  | some z=>
   rw[qj]at h
   match z,h,qj with
   | .va (.lst l),h,qj=>
    dsimp only at h
    by_cases hh:i<Z.length/\fZ l=true/\(l.map aN).Nodup/\l.length<=1000
    ·rw[if_pos hh]at h
     obtain⟨hl,hky,hnd,hz⟩:=hh;obtain⟨kk,hk⟩:=sw hky
     have lk:l.length=kk.length:=by have:=congrArg List.length hk;rwa [List.length_map,List.length_map]at this
     have hn:kk.Nodup:=by
      rw[hk]at hnd;exact(List.pairwise_map.mp hnd).imp λh z=>h (by rw[z])
     have fj:iS (vr j) Z= .ok l:=by unfold iS vr;rw[qj];rfl
     have hlc:a8 [none,some j] Z= [.em,.va (.lst l)]:=by unfold a8;simp[qj]
     unfold uN nA
     refine p8 (X:=X) (te:=qJ X src) E.o (λR h=>⟨Z,OO B M,E.o,by rw[fj];exact h⟩) hz hk (by simp)
      (λH' D vs=>H D=none/\Same H H'/\∃ds:List Addr,vs=ds.map V.ref/\ds.Nodup/\∀d∈ds,Nw X.K H d/\H' d=some (.dT (fA kk)))
      (λH1 D s1 nD=>⟨(jd s1 nD).1,s1.trans (aM nD.1 _),[],rfl,List.nodup_nil,λd h=>nomatch h⟩)
      (λH1 H2 D vs ys ⟨c1,c2,ds,c3,c4,c5⟩ hD s=>⟨c1,(λb o e=>s b o (c2 b o e) (λz=>by rw[z,c1]at e;cases e)),ds,c3,c4,λd hd=>⟨(c5 d hd).1,s _ _ (c5 d hd).2 (gO (c5 d hd).2 hD (λz=>nomatch z))⟩⟩)
      (λt ht σ' H' O' D vs ys Q' E' ⟨c1,c2,ds,c3,c4,c5⟩ hD k=>uX (l:=l) (kk:=kk) ⟨noM,E'⟩ (by rw[hlc];rfl) hz hk hn hsr λd H'' s' nd hd=> ?_) λH1 D ys ps H' s1 nD s2 hD hp e1 ⟨c1,c2,ds,c3,c4,c5⟩=> ?_
     ·refine k _ H'' s' ⟨c1,c2.trans s',ds++ [d],by rw[c3,List.map_append];rfl,?_,λe he=> ?_⟩
      ·refine List.nodup_append.mpr ⟨c4,by simp,λu hu w hw=> ?_⟩
       rw[List.mem_singleton.mp hw];intro z
       have:=(c5 u hu).2;rw[z,nd.1]at this;cases this
      ·rcases List.mem_append.mp he with z | z
       ·exact⟨(c5 e z).1,s' _ _ (c5 e z).2⟩
       ·rw[List.mem_singleton.mp z]
        exact⟨jd c2 nd,hd⟩
     ·have hpl:ps.length=kk.length:=by rw[<-e1,List.length_map]
      refine⟨D,ys,ps,rfl,hD,by rw[hp.len];omega,hp,λq nq=> ?_⟩
      have e2:dJ [] ps=ps:=by rw[jx ps [] (by rw[List.nil_append,e1];exact hn),List.nil_append]
      rw[e2]
      have qd:q∉ds:=λz=>by have:=(c5 q z).2;rw[nq.1]at this;cases this
      have dl:ds.length=ps.length:=by have:=congrArg List.length c3;rw[List.length_map,List.length_map]at this;exact this.symm
      have hm':∀b,b=q\/b∈ds->Nw X.K H b:=λb z=>z.elim (λw=>w▸jd c2 nq) λw=>(c5 b w).1
      have sF:Same H (upd H' q (.dT ps)):=c2.trans (aM nq.1 _);obtain⟨E2,sub⟩:=E.new (m:=λb=>b=q\/b∈ds) (o:=.dd l (l.map λ_=>(l,l.map λ_=> .non))) (v:=.ref q) (H':=upd H' q (.dT ps)) hl hm' sF ⟨q,ps,ds,rfl,λb=>Iff.rfl,qd,c4,aw,by rw[hk,<-e1,List.map_map];rfl,c3,pB hk (by omega) λd hd=>by rw[ar (show d≠q from λz=>qd (z▸hd))];exact(c5 d hd).2⟩
      exact h _ _ _ (SameO.of sF) E2 sub
    ·rw[if_neg hh]at h;exact h.elim
   | .em,h,_=>exact h.elim
   | .ow _,h,_=>exact h.elim
   | .va .non,h,_=>exact h.elim
   | .va (.bl _),h,_=>exact h.elim
   | .va (.int _),h,_=>exact h.elim
   | .va (.str _),h,_=>exact h.elim
   | .va (.tup _),h,_=>exact h.elim
   | .va (.scr _),h,_=>exact h.elim
   | .va (.dct _ _),h,_=>exact h.elim
end
theorem tm {X:Cx}(i j:Nat){x:Str}{ea r ta ia:Expr}{p q1 lp p2 p3 pos:Pos}{x1}{sc:Scope}{N':List Str}{src:List (Option Nat)}(hu:X.A.units+8<cLine)(hc:X.calm=true)(hm:X.mg "dict" =none)(hN:X.N.Nodup)
  (S:LcScope X sc N' [none,some j]) (hi:QI X ta ia (iS (vr j))) (hsr:0<src.length)
  (blk:∀cl C s₀ H₀ fp,QG (bf X sc cl N' C s₀ H₀ fp) ta (gN 0)/\PE (bf X sc cl N' C s₀ H₀ fp) ea (kE 0)/\PE (bf X sc cl N' C s₀ H₀ fp) r (qJ X src)) (h1:cj ea=true:=by rfl) (h2:cj r=true:=by rfl)
  (hs:∀x,foldedSetIterable ia X.env x=pure x:=by intro _;rfl) (hg:Gl X "dict":=by rfl) (hix:X.N[i]? =some x:=by rfl) (hx:Loc X.env.scope x:=by first | exact Or.inl rfl | exact Or.inr rfl)
  (hsw:swapsWith (.Call (.Name "dict" p) [.ListComp (.Tuple [ea,r] x1 q1) [⟨ta,ia,[],0⟩] sc lp] [] p2) (some (.Name x p3)) pos.line X.env=pure false:=by rfl)
  (hf:X.fn x=true\/X.env.scope.names.lookup x=some .local:=by first | exact .inl rfl | exact .inr rfl | assumption) :
  QS X (.Assign [.Name x p3] (.Call (.Name "dict" p) [.ListComp (.Tuple [ea,r] x1 q1) [⟨ta,ia,[],0⟩] sc lp] [] p2) pos) (kN i j):=
 ⟨u5 i j hu hc hm hN S hi.h hsr (λcl C s₀ H₀ fp=>⟨(blk cl C s₀ H₀ fp).1.h,(blk cl C s₀ H₀ fp).2⟩) h1 h2 hs hg hix hx hsw hf⟩
theorem rK {X:Cx}{a b:Expr}{fs:En->Rs (List T)}{p p1 p2 pos:Pos}(hu:X.A.units+8<cLine)(hc:X.calm=true)(hm:X.mg "dict" =none)(hmz:X.mg "zip" =none)(ha:QA X [a,b] fs)(hst:ba [a,b] =true:=by rfl)(hg:Gl X "dict":=by rfl)(hgz:Gl X "zip":=by rfl) :
  QE X (.Call (.Name "dict" p) [.Call (.Name "zip" p1) [a,b] [] p2] [] pos) (cl By fs):=⟨AD hu hc hm hmz ha.h hst hg hgz⟩
theorem rJ {X:Cx}{elt tg:Expr}{ifs:List Expr}{scope:Scope}{spos py pos pn:Pos}{N':List Str}{src:List (Option Nat)}{tgt:T->En->Rs En}{fc:En->Rs Bool}{fe:En->Rs T}(i j:Nat){y D:Str}
  (hc:X.calm=true) (S:LcScope X scope N' src) (block:∀cl C s₀ H₀ fp,QG (bf X scope cl N' C s₀ H₀ fp) tg tgt/\Da (bf X scope cl N' C s₀ H₀ fp) ifs fc/\QE (bf X scope cl N' C s₀ H₀ fp) elt fe)
  (hN:X.N.Nodup) (hD:X.N[i]? =some D:=by rfl) (hDv:ni X.env.scope D:=by first | exact Or.inl rfl | exact Or.inr (Or.inl rfl) | exact Or.inr (Or.inr rfl)) (hDd:(D == ("__debug__" : Str))=false:=by decide) (hDc:(D == ("__classdict__" : Str))=false:=by decide)
  (hiy:X.N[j]? =some y:=by rfl) (hy:Loc X.env.scope y:=by first | exact Or.inl rfl | exact Or.inr rfl) (hsw:swapsWith (.ListComp elt [⟨tg,.Name D pn,ifs,0⟩] scope pos) (some (.Name y py)) spos.line X.env=pure true:=by rfl)
  (hf:X.fn y=true\/X.env.scope.names.lookup y=some .local:=by first | exact .inl rfl | exact .inr rfl | assumption) (hs:∀x,foldedSetIterable (.Name D pn) X.env x=pure x:=by intro _;rfl) :
  QS X (.Assign [.Name y py] (.ListComp elt [⟨tg,.Name D pn,ifs,0⟩] scope pos) spos) (nI i j src tgt fc fe):=
 ⟨As i j hc S (λa b c d e=>⟨(block a b c d e).1.h,(block a b c d e).2.1.h,(block a b c d e).2.2.h⟩) hN hD hDv hDd hDc hiy hy hsw hf hs⟩
end Tr
namespace G
open PySem PySem.Spec PyProof.Rows L2 Tr
def top (i:Nat):Stmt:=PySem.Challenge.pw_farclocks_k11_times.main.body.getD i (.Pass ⟨0,0,0,0⟩)
structure Bl (mg:Str->Option Value):Prop where
 b_ValueError:mg "ValueError" =none
 b_all:mg "all" =none
 b_bool:mg "bool" =none
 b_dict:mg "dict" =none
 b_enumerate:mg "enumerate" =none
 b_int:mg "int" =none
 b_isinstance:mg "isinstance" =none
 b_len:mg "len" =none
 b_list:mg "list" =none
 b_max:mg "max" =none
 b_min:mg "min" =none
 b_range:mg "range" =none
 b_tuple:mg "tuple" =none
 b_zip:mg "zip" =none
structure Cs (mg:Str->Option Value):Prop where
 MOST_CLOCKS:∃t,mg "MOST_CLOCKS" =some (.int 4 t)
 MOST_LETTERS:∃t,mg "MOST_LETTERS" =some (.int 8 t)
 MOST_READINGS:∃t,mg "MOST_READINGS" =some (.int 4 t)
 LAST_READING:∃t,mg "LAST_READING" =some (.int 99 t)
 SLOWEST:∃t,mg "SLOWEST" =some (.int 9 t)
 LONGEST:∃t,mg "LONGEST" =some (.int 999 t)
theorem oB:bootBuiltins "bool" =some (.type "bool"):=by decide+kernel
theorem jV:bootBuiltins "int" =some (.type "int"):=by decide+kernel
theorem oA:bootBuiltins "list" =some (.type "list"):=by decide+kernel
theorem dh:bootBuiltins "tuple" =some (.type "tuple"):=by decide+kernel
structure Xs (K:PySem.W.Frag)(mg:Str->Option Value)(C_NoRecord C_NoEvent C_NoNumber C_NoWorld C_Barred C_Nothing C_ClockError:Addr):Prop where
 m_NoRecord:mg "NoRecord" =some (.ref C_NoRecord)
 m_NoEvent:mg "NoEvent" =some (.ref C_NoEvent)
 m_NoNumber:mg "NoNumber" =some (.ref C_NoNumber)
 m_NoWorld:mg "NoWorld" =some (.ref C_NoWorld)
 m_Barred:mg "Barred" =some (.ref C_Barred)
 m_Nothing:mg "Nothing" =some (.ref C_Nothing)
 m_ClockError:mg "ClockError" =some (.ref C_ClockError)
 o_NoRecord:OX K C_NoRecord (.ref C_ClockError::j7)
 o_NoEvent:OX K C_NoEvent (.ref C_ClockError::j7)
 o_NoNumber:OX K C_NoNumber (.ref C_ClockError::j7)
 o_NoWorld:OX K C_NoWorld (.ref C_ClockError::j7)
 o_Barred:OX K C_Barred (.ref C_ClockError::j7)
 o_Nothing:OX K C_Nothing (.ref C_ClockError::j7)
 o_ClockError:OX K C_ClockError j7
 d:[C_NoRecord,C_NoEvent,C_NoNumber,C_NoWorld,C_Barred,C_Nothing,C_ClockError].Nodup
abbrev bw:Stmt:=top 49
theorem sc__law_refused:aA ["_law_e","_law_flags"] ["_law_e"] (ah bw):=⟨rfl,rfl,rfl,by decide+kernel,rfl,by decide+kernel,by decide+kernel⟩
def fM (j:Nat):T:=.tup [.str "refused",.int (j:Nat)]
def mi (c:Str):Rs T:=if c= "NoRecord" then .ok (fM 0)else if c= "NoEvent" then .ok (fM 1)else if c= "NoNumber" then .ok (fM 2)else if c= "NoWorld" then .ok (fM 3)else if c= "Barred" then .ok (fM 4)else if c= "Nothing" then .ok (fM 5)else .bad
section
variable {P:Program}{w:World}{K:PySem.W.Frag}{mg:Str->Option Value}{base:Heap}{C_NoRecord C_NoEvent C_NoNumber C_NoWorld C_Barred C_Nothing C_ClockError:Addr}
theorem Xs.ne {C D:Addr}(h:C≠D):(Value.ref C::j7).contains (.ref D)=false:=by
 rw[List.contains_cons]
 have:(Value.ref D == Value.ref C)=false:=by rw[beq_eq_false_iff_ne];exact λz=>h (Value.ref.inj z).symm
 rw[this];rfl
theorem uZ {C e f:Addr}{oe:Obj}{ev:Array Value}{A:Around}{outer:List Env}{s:Shared}{H:Hp}{Q:VK}{j:Nat}(S:Xs K mg C_NoRecord C_NoEvent C_NoNumber C_NoWorld C_Barred C_Nothing C_ClockError)(OC:OX K C (.ref C_ClockError::j7))
  (hc:oe.cls= .ref C) (hd:oe.data= .fields ev) (hi:mg "isinstance" =none) (hv:mg "ValueError" =none) (n_NoRecord:C_ClockError≠C_NoRecord) (n_NoEvent:C_ClockError≠C_NoEvent) (n_NoNumber:C_ClockError≠C_NoNumber) (n_NoWorld:C_ClockError≠C_NoWorld) (n_Barred:C_ClockError≠C_Barred) (n_Nothing:C_ClockError≠C_Nothing)
  {b0 b1 b2 b3 b4 b5:Bool} (h0:decide (C=C_NoRecord)=b0) (h1:decide (C=C_NoEvent)=b1) (h2:decide (C=C_NoNumber)=b2) (h3:decide (C=C_NoWorld)=b3) (h4:decide (C=C_Barred)=b4) (h5:decide (C=C_Nothing)=b5)
  (cnt:[b0,b1,b2,b3,b4,b5].countP id=1) (hj:[b0,b1,b2,b3,b4,b5][j]? =some true) (hno:∀m,m<j->[b0,b1,b2,b3,b4,b5][m]? =some false)
  (q:∀p H',Same H H'->H p=none->H' p=some (.tup [.str "refused",.int (j:Nat)])->Q (.ref p) H') (cdv:Value) :
  ∃t,PSs (Dn P w K mg base ["_law_e","_law_flags"] "_law_refused" (ah bw) f cdv A outer s H e oe) (cx bw) t/\t { nx:=λ_ _=>False,rt:=Q } (start ["_law_e","_law_flags"] [.ref e]) H:=by
 have nd:=sc__law_refused.nd
 have hp:(e,oe)∈(Dn P w K mg base ["_law_e","_law_flags"] "_law_refused" (ah bw) f cdv A outer s H e oe).pn:=List.mem_cons_self
 refine⟨_,jc (kP (i:=1) nd rfl (Or.inl rfl) (nQ (aZ (jy rfl (Or.inl rfl) hp hc hd OC S.o_NoRecord b0 h0 (λ_=>Xs.ne n_NoRecord) hi S.m_NoRecord) (aZ (jy rfl (Or.inl rfl) hp hc hd OC S.o_NoEvent b1 h1 (λ_=>Xs.ne n_NoEvent) hi S.m_NoEvent) (aZ (jy rfl (Or.inl rfl) hp hc hd OC S.o_NoNumber b2 h2 (λ_=>Xs.ne n_NoNumber) hi S.m_NoNumber) de)))))
  (jc (kP (i:=1) nd rfl (Or.inl rfl) (Cv vD (pv 1) (nQ (aZ (jy rfl (Or.inl rfl) hp hc hd OC S.o_NoWorld b3 h3 (λ_=>Xs.ne n_NoWorld) hi S.m_NoWorld) (aZ (jy rfl (Or.inl rfl) hp hc hd OC S.o_Barred b4 h4 (λ_=>Xs.ne n_Barred) hi S.m_Barred) (aZ (jy rfl (Or.inl rfl) hp hc hd OC S.o_Nothing b5 h5 (λ_=>Xs.ne n_Nothing) hi S.m_Nothing) de))))))
  (jc (zw (PW.pt (zu (xX Cz (rZ PySem.F.plainAttrs_list PySem.F.slot_list_count PySem.F.type_list_count tT (pv 1) (aZ vq de)) vn (A1 _)) (u9 (ve (vd (AM rfl (Or.inl rfl) hp hc OC hi hv)))))) (eR vf) rS)
  (eR (gL (nP (aZ vj (aZ (rZ PySem.F.plainAttrs_list PySem.F.slot_list_index PySem.F.type_list_index tR (pv 1) (aZ vq de)) de))))))),?_⟩
 refine⟨rfl,rfl,rfl,(by show 3<=sizeLine;decide),λl1 n1=> ?_⟩
 refine⟨.ref l1,rfl,rfl,rfl,rfl,(by show 3<=sizeLine;decide),λl2 n2=> ?_⟩
 have ne21:l1≠l2:=λz=>by subst z;rw[aw]at n2;cases n2
 refine⟨l1,l2,[.bl b0,.bl b1,.bl b2],[.bl b3,.bl b4,.bl b5],rfl,rfl,by rw[ar ne21,aw],aw,(by show 3+3<=sizeLine;decide),λl3 n3=> ?_⟩
 refine⟨.ref l3,rfl,.inl ⟨rfl,_,SqL.of aw⟩,⟨l3,[b0,b1,b2,b3,b4,b5],rfl,rfl,aw,?_⟩⟩
 have hz:(!decide (V.int (([b0,b1,b2,b3,b4,b5].countP id:Nat):Int)=V.int 1))=false:=by rw[cnt];simp
 refine⟨rfl,false,congrArg V.bl hz,iteF ⟨rfl,true,rfl,iteF ?_⟩⟩
 have hj6:j<6:=by have:=(List.getElem?_eq_some_iff.mp hj).1;simpa using this
 refine⟨.ref l3,rfl,.inl ⟨rfl,_,SqL.of aw⟩,⟨l3,[b0,b1,b2,b3,b4,b5],j,rfl,rfl,aw,hj,hno,by omega,(by show 2<=sizeLine;decide),λp np=>q p _ ?_ ?_ aw⟩⟩
 rotate_left
 ·have m3:p≠l3:=λz=>by subst z;rw[aw]at np;cases np
  have m2:p≠l2:=λz=>by subst z;rw[ar m3,aw]at np;cases np
  have m1:p≠l1:=λz=>by subst z;rw[ar m3,ar m2,aw]at np;cases np
  rw[ar m3,ar m2,ar m1]at np;exact np
 intro b o hb
 have m1:b≠l1:=λz=>by subst z;rw[n1]at hb;cases hb
 have m2:b≠l2:=λz=>by subst z;rw[ar m1,hb]at n2;cases n2
 have m3:b≠l3:=λz=>by subst z;rw[ar m2,ar m1,hb]at n3;cases n3
 have m4:b≠p:=λz=>by subst z;rw[ar m3,ar m2,ar m1,hb]at np;cases np
 rw[ar m4,ar m3,ar m2,ar m1];exact hb
end
section
variable {X:Cx}{C_NoRecord C_NoEvent C_NoNumber C_NoWorld C_Barred C_Nothing C_ClockError:Addr}
def tRC (X:Cx)(i:Nat)(e:Addr)(j:Nat):TE:=λσ H Q=>σ[i]? =some (some (.ref e))/\H e=none/\e∉lr X.stack/\∀p H',Same H H'->H p=none->H' p=some (.tup [.str "refused",.int (j:Nat)])->Q (.ref p) H'
theorem dN {en:Str}{p p1 pos:Pos}{i j:Nat}{C e f:Addr}{fd:FuncData}{oe:Obj}{ev:Array Value}(hN:X.N[i]? =some en)(hv:ni X.env.scope en)
  (Fn_:Fn X.K X.mg "_law_refused" bw ["_law_e"] f fd) (S:Xs X.K X.mg C_NoRecord C_NoEvent C_NoNumber C_NoWorld C_Barred C_Nothing C_ClockError) (OC:OX X.K C (.ref C_ClockError::j7))
  (hc:oe.cls= .ref C) (hd:oe.data= .fields ev) (hi:X.mg "isinstance" =none) (hvv:X.mg "ValueError" =none) (n_NoRecord:C_ClockError≠C_NoRecord) (n_NoEvent:C_ClockError≠C_NoEvent) (n_NoNumber:C_ClockError≠C_NoNumber) (n_NoWorld:C_ClockError≠C_NoWorld) (n_Barred:C_ClockError≠C_Barred) (n_Nothing:C_ClockError≠C_Nothing)
  {b0 b1 b2 b3 b4 b5:Bool} (h0:decide (C=C_NoRecord)=b0) (h1:decide (C=C_NoEvent)=b1) (h2:decide (C=C_NoNumber)=b2) (h3:decide (C=C_NoWorld)=b3) (h4:decide (C=C_Barred)=b4) (h5:decide (C=C_Nothing)=b5)
  (cnt:[b0,b1,b2,b3,b4,b5].countP id=1) (hj:[b0,b1,b2,b3,b4,b5][j]? =some true) (hno:∀m,m<j->[b0,b1,b2,b3,b4,b5][m]? =some false) (hr:X.A.depth+3<recursionLimit)
  (hg:Gl (rA X e oe) "_law_refused":=by rfl) (hde:(en == ("__debug__" : Str))=false:=by decide) (hce:(en == ("__classdict__" : Str))=false:=by decide)
  (he:starEach [.Name en p1] X.env=(false,eval (.Name en p1) X.env)::starEach [] X.env:=by rfl) (hpl:(backTo pos (starEach [] X.env)).any (·.1)=false:=by rfl) :
  PE (rA X e oe) (.Call (.Name "_law_refused" p) [.Name en p1] [] pos) (tRC X i e j):=by
 intro pins s σ H Q I ⟨hσ,hH,hf,q⟩;refine wpAny_Call_Name_kw (ii (X:=rA X e oe) I hg Fn_.mg ?_ (by decide))
 have hA:PA (rA X e oe) [.Name en p1] (fI (kE i) o8):=aZ (fN (X:=rA X e oe) hN hv hde hce) de he;refine PySem.W.callWith_K (h₀:=X.base) I.ok.mod.kin Fn_.fn.kp (bS (hA pos pins s σ H (λvs H'=>vs= [.ref e]/\H'=H) I ⟨.ref e,hσ,rfl,rfl⟩) λus s1 ⟨vs,H1,I1,r,e1,e2⟩=>⟨I1.kIn,?_⟩) he hpl
 subst e1;subst e2;obtain⟨u,rfl,ru⟩:=gE r;cases ru
 have hoe:s1.heap.get? e=some oe:=(I1.pin (e,oe) (List.mem_append_left _ List.mem_cons_self)).1
 have hb:=Fn_.bd s1 [.ref e] I1.kIn rfl;refine wpAny_call (codeAny_mono (Bq (Q:=Q) Fn_.fn sc__law_refused (vs:=[.ref e]) rfl hr I1.env0 hb r hoe hH hf (λv z=>by rw[hd]at z;cases z) λcdv=>uZ S OC hc hd hi hvv n_NoRecord n_NoEvent n_NoNumber n_NoWorld n_Barred n_Nothing h0 h1 h2 h3 h4 h5 cnt hj hno q cdv) λr s' hq=> ?_)
 cases r with
 | error ev=>exact hq.elim
 | ok fl=>
  cases fl with
  | ret u=>exact I1.after hq
  | next=>exact hq.elim
  | brk=>exact hq.elim
  | cont=>exact hq.elim
theorem hW {K:PySem.W.Frag}{O:Ow}{H H':Hp}{p:Addr}{j:Nat}(hO:∀p,H p=none->¬ O p)(hp:H p=none)(h:H' p=some (.tup [.str "refused",.int (j:Nat)])):Rep K O H' (fM j) (.ref p):=
 Rep.tup_iff.mpr ⟨p,_,rfl,hO p hp,h,Reps.cons_ (Rep.str_ _) (Reps.cons_ (Rep.int_ _) Reps.nil_)⟩
theorem uO {en:Str}{p p1 pos rp:Pos}{i:Nat}{f:Addr}{fd:FuncData}(hN:X.N[i]? =some en)(hv:ni X.env.scope en)
  (Fn_:Fn X.K X.mg "_law_refused" bw ["_law_e"] f fd) (S:Xs X.K X.mg C_NoRecord C_NoEvent C_NoNumber C_NoWorld C_Barred C_Nothing C_ClockError) (hi:X.mg "isinstance" =none) (hvv:X.mg "ValueError" =none) (hr:X.A.depth+3<recursionLimit)
  (hg:∀e oe,Gl (rA X e oe) "_law_refused":=by intro _ _;rfl) (hde:(en == ("__debug__" : Str))=false:=by decide) (hce:(en == ("__classdict__" : Str))=false:=by decide)
  (he:starEach [.Name en p1] X.env=(false,eval (.Name en p1) X.env)::starEach [] X.env:=by rfl) (hpl:(backTo pos (starEach [] X.env)).any (·.1)=false:=by rfl) :
  oG X i [.Return (some (.Call (.Name "_law_refused" p) [.Name en p1] [] pos)) rp] C_ClockError mi:=by
 have dd:=S.d
 have ap:∀{a b:Addr} (i j:Nat),i<j->[C_NoRecord,C_NoEvent,C_NoNumber,C_NoWorld,C_Barred,C_Nothing,C_ClockError][i]? =some a->[C_NoRecord,C_NoEvent,C_NoNumber,C_NoWorld,C_Barred,C_Nothing,C_ClockError][j]? =some b->a≠b:=λ{a b} i j hij ha hb z=>by
  have:=(List.getElem?_inj (List.getElem?_eq_some_iff.mp ha).1 dd).mp (ha.trans (z▸hb.symm))
  omega
 have hin:∀C:Addr,(Value.ref C:: .ref C_ClockError::j7).contains (.ref C_ClockError)=true:=λC=>by rw[List.contains_cons,List.contains_cons,beq_self_eq_true,Bool.true_or,Bool.or_true]
 have n_NoRecord:C_ClockError≠C_NoRecord:=(Ne.symm (ap 0 6 (by decide) rfl rfl))
 have n_NoEvent:C_ClockError≠C_NoEvent:=(Ne.symm (ap 1 6 (by decide) rfl rfl))
 have n_NoNumber:C_ClockError≠C_NoNumber:=(Ne.symm (ap 2 6 (by decide) rfl rfl))
 have n_NoWorld:C_ClockError≠C_NoWorld:=(Ne.symm (ap 3 6 (by decide) rfl rfl))
 have n_Barred:C_ClockError≠C_Barred:=(Ne.symm (ap 4 6 (by decide) rfl rfl))
 have n_Nothing:C_ClockError≠C_Nothing:=(Ne.symm (ap 5 6 (by decide) rfl rfl))
 intro c C t hm ht;unfold mi at ht
 by_cases z0:c= "NoRecord"
 ·rw[if_pos z0]at ht
  cases ht;rw[z0,S.m_NoRecord]at hm;cases hm;refine⟨_,S.o_NoRecord,hin _,λe oe ev hc hd pins s σ H O Q I hH hf hσ hO q=> ?_⟩
  exact eR (gL (dN hN hv Fn_ S S.o_NoRecord hc hd hi hvv n_NoRecord n_NoEvent n_NoNumber n_NoWorld n_Barred n_Nothing (b0:=true) (b1:=false) (b2:=false) (b3:=false) (b4:=false) (b5:=false) (by simp) (by rw[decide_eq_false (ap 0 1 (by decide) rfl rfl)]) (by rw[decide_eq_false (ap 0 2 (by decide) rfl rfl)]) (by rw[decide_eq_false (ap 0 3 (by decide) rfl rfl)]) (by rw[decide_eq_false (ap 0 4 (by decide) rfl rfl)]) (by rw[decide_eq_false (ap 0 5 (by decide) rfl rfl)]) (by decide) (j:=0) rfl (λm hm=>by omega) hr (hg e oe) hde hce he hpl)) pins s σ H _ I ⟨hσ,hH,hf,λp H' sm hp h=>q _ _ sm (hW hO hp h)⟩
 rw[if_neg z0]at ht
 by_cases z1:c= "NoEvent"
 ·rw[if_pos z1]at ht
  cases ht;rw[z1,S.m_NoEvent]at hm;cases hm;refine⟨_,S.o_NoEvent,hin _,λe oe ev hc hd pins s σ H O Q I hH hf hσ hO q=> ?_⟩
  exact eR (gL (dN hN hv Fn_ S S.o_NoEvent hc hd hi hvv n_NoRecord n_NoEvent n_NoNumber n_NoWorld n_Barred n_Nothing (b0:=false) (b1:=true) (b2:=false) (b3:=false) (b4:=false) (b5:=false) (by rw[decide_eq_false (Ne.symm (ap 0 1 (by decide) rfl rfl))]) (by simp) (by rw[decide_eq_false (ap 1 2 (by decide) rfl rfl)]) (by rw[decide_eq_false (ap 1 3 (by decide) rfl rfl)]) (by rw[decide_eq_false (ap 1 4 (by decide) rfl rfl)]) (by rw[decide_eq_false (ap 1 5 (by decide) rfl rfl)]) (by decide) (j:=1) rfl (λm hm=>by match m,hm with | 0,_=>rfl) hr (hg e oe) hde hce he hpl)) pins s σ H _ I ⟨hσ,hH,hf,λp H' sm hp h=>q _ _ sm (hW hO hp h)⟩
 rw[if_neg z1]at ht
 by_cases z2:c= "NoNumber"
 ·rw[if_pos z2]at ht
  cases ht;rw[z2,S.m_NoNumber]at hm;cases hm;refine⟨_,S.o_NoNumber,hin _,λe oe ev hc hd pins s σ H O Q I hH hf hσ hO q=> ?_⟩
  exact eR (gL (dN hN hv Fn_ S S.o_NoNumber hc hd hi hvv n_NoRecord n_NoEvent n_NoNumber n_NoWorld n_Barred n_Nothing (b0:=false) (b1:=false) (b2:=true) (b3:=false) (b4:=false) (b5:=false) (by rw[decide_eq_false (Ne.symm (ap 0 2 (by decide) rfl rfl))]) (by rw[decide_eq_false (Ne.symm (ap 1 2 (by decide) rfl rfl))]) (by simp) (by rw[decide_eq_false (ap 2 3 (by decide) rfl rfl)]) (by rw[decide_eq_false (ap 2 4 (by decide) rfl rfl)]) (by rw[decide_eq_false (ap 2 5 (by decide) rfl rfl)]) (by decide) (j:=2) rfl (λm hm=>by match m,hm with | 0,_=>rfl | 1,_=>rfl) hr (hg e oe) hde hce he hpl)) pins s σ H _ I ⟨hσ,hH,hf,λp H' sm hp h=>q _ _ sm (hW hO hp h)⟩
 rw[if_neg z2]at ht
 by_cases z3:c= "NoWorld"
 ·rw[if_pos z3]at ht
  cases ht;rw[z3,S.m_NoWorld]at hm;cases hm;refine⟨_,S.o_NoWorld,hin _,λe oe ev hc hd pins s σ H O Q I hH hf hσ hO q=> ?_⟩
  exact eR (gL (dN hN hv Fn_ S S.o_NoWorld hc hd hi hvv n_NoRecord n_NoEvent n_NoNumber n_NoWorld n_Barred n_Nothing (b0:=false) (b1:=false) (b2:=false) (b3:=true) (b4:=false) (b5:=false) (by rw[decide_eq_false (Ne.symm (ap 0 3 (by decide) rfl rfl))]) (by rw[decide_eq_false (Ne.symm (ap 1 3 (by decide) rfl rfl))]) (by rw[decide_eq_false (Ne.symm (ap 2 3 (by decide) rfl rfl))]) (by simp) (by rw[decide_eq_false (ap 3 4 (by decide) rfl rfl)]) (by rw[decide_eq_false (ap 3 5 (by decide) rfl rfl)]) (by decide) (j:=3) rfl (λm hm=>by match m,hm with | 0,_=>rfl | 1,_=>rfl | 2,_=>rfl) hr (hg e oe) hde hce he hpl)) pins s σ H _ I ⟨hσ,hH,hf,λp H' sm hp h=>q _ _ sm (hW hO hp h)⟩
 rw[if_neg z3]at ht
 by_cases z4:c= "Barred"
 ·rw[if_pos z4]at ht
  cases ht;rw[z4,S.m_Barred]at hm;cases hm;refine⟨_,S.o_Barred,hin _,λe oe ev hc hd pins s σ H O Q I hH hf hσ hO q=> ?_⟩
  exact eR (gL (dN hN hv Fn_ S S.o_Barred hc hd hi hvv n_NoRecord n_NoEvent n_NoNumber n_NoWorld n_Barred n_Nothing (b0:=false) (b1:=false) (b2:=false) (b3:=false) (b4:=true) (b5:=false) (by rw[decide_eq_false (Ne.symm (ap 0 4 (by decide) rfl rfl))]) (by rw[decide_eq_false (Ne.symm (ap 1 4 (by decide) rfl rfl))]) (by rw[decide_eq_false (Ne.symm (ap 2 4 (by decide) rfl rfl))]) (by rw[decide_eq_false (Ne.symm (ap 3 4 (by decide) rfl rfl))]) (by simp) (by rw[decide_eq_false (ap 4 5 (by decide) rfl rfl)]) (by decide) (j:=4) rfl (λm hm=>by match m,hm with | 0,_=>rfl | 1,_=>rfl | 2,_=>rfl | 3,_=>rfl) hr (hg e oe) hde hce he hpl)) pins s σ H _ I ⟨hσ,hH,hf,λp H' sm hp h=>q _ _ sm (hW hO hp h)⟩
 rw[if_neg z4]at ht
 by_cases z5:c= "Nothing"
 ·rw[if_pos z5]at ht
  cases ht;rw[z5,S.m_Nothing]at hm;cases hm;refine⟨_,S.o_Nothing,hin _,λe oe ev hc hd pins s σ H O Q I hH hf hσ hO q=> ?_⟩
  exact eR (gL (dN hN hv Fn_ S S.o_Nothing hc hd hi hvv n_NoRecord n_NoEvent n_NoNumber n_NoWorld n_Barred n_Nothing (b0:=false) (b1:=false) (b2:=false) (b3:=false) (b4:=false) (b5:=true) (by rw[decide_eq_false (Ne.symm (ap 0 5 (by decide) rfl rfl))]) (by rw[decide_eq_false (Ne.symm (ap 1 5 (by decide) rfl rfl))]) (by rw[decide_eq_false (Ne.symm (ap 2 5 (by decide) rfl rfl))]) (by rw[decide_eq_false (Ne.symm (ap 3 5 (by decide) rfl rfl))]) (by rw[decide_eq_false (Ne.symm (ap 4 5 (by decide) rfl rfl))]) (by simp) (by decide) (j:=5) rfl (λm hm=>by match m,hm with | 0,_=>rfl | 1,_=>rfl | 2,_=>rfl | 3,_=>rfl | 4,_=>rfl) hr (hg e oe) hde hce he hpl)) pins s σ H _ I ⟨hσ,hH,hf,λp H' sm hp h=>q _ _ sm (hW hO hp h)⟩
 rw[if_neg z5]at ht;cases ht
end
end G
namespace G
open PySem Tr
def eF:En->Rs Fl:=
 (aB (fV (tb (o2 lR (vr 0) (dg ag))) (aO (o2 bz (cn (.int 7)) (vr 1))) sN) (aO (o2 aH (o2 bN (vr 0) (o2 jg (vr 1) (cl cG (ac (vr 0) ag)))) (o2 bz (cn (.int 6553)) (o2 jn (vr 1) (cl cG (ac (vr 0) ag)))))))
def ef:List T->Rs T:=val 2 2 eF
def dG:En->Rs Fl:=
 (aB (db (o2 jg (o2 aH (o2 bz (o2 jg (cl ef (ac (vr 0) (ac (vr 1) ag))) (cn (.int 2147483563))) (cn (.int 69069))) (o2 bz (cn (.int 104723)) (o2 aH (vr 1) (cn (.int 1))))) (cn (.int 2147483563))) (gN 3)) (aB (db (o2 jg (o2 aH (o2 bz (vr 3) (vr 3)) (o2 jn (vr 3) (cn (.int 3)))) (cn (.int 2147483399))) (gN 3)) (aO (o2 jg (o2 jn (o2 jg (o2 aH (o2 bz (vr 3) (vr 3)) (o2 jn (vr 3) (cn (.int 7)))) (cn (.int 2147483647))) (cn (.int 11))) (vr 2)))))
def ao:List T->Rs T:=val 3 4 dG
def dZ:En->Rs Fl:=
 (aB (db (dg ag) (gN 1)) (aB (d7 (iE (ac (vr 0) ag)) (gT 2 (dI (gN 2) (dI (gN 3) j4))) (db (o2 aH (vr 1) (eh (iR (ac (cl cG (ac (o2 bN (vr 3) (cn (.int 2))) ag)) ag)) [none,some 2] (gN 0) bT (bq (ac (vr 1) (ac (vr 0) ag))))) (gN 1))) (aO (vr 1))))
def cb:List T->Rs T:=val 1 4 dZ
def cg:En->Rs Fl:=
 (aB (db (cl cb (ac (vr 2) ag)) (gN 3)) (aB (fV (tb (o2 qV (cl cG (ac (vr 3) ag)) (cn (.int 2)))) (aO (cn .non)) sN) (aB (db (cl ao (ac (vr 0) (ac (vr 1) (ac (cl cG (ac (vr 3) ag)) ag)))) (gN 4)) (aB (db (o2 jg (o2 aH (o2 aH (vr 4) (cn (.int 1))) (cl ao (ac (vr 0) (ac (o2 aH (vr 1) (cn (.int 1))) (ac (o2 bP (cl cG (ac (vr 3) ag)) (cn (.int 1))) ag))))) (cl cG (ac (vr 3) ag))) (gN 5)) (aB (db (cl ao (ac (vr 0) (ac (o2 aH (vr 1) (cn (.int 2))) (ac (cn (.int 8)) ag)))) (gN 6)) (aB (db (oM (tb (o2 lR (cl ao (ac (vr 0) (ac (o2 aH (vr 1) (cn (.int 3))) (ac (cn (.int 3)) ag)))) (cn (.int 0)))) (cn .non) (o2 aH (vr 6) (cl ao (ac (vr 0) (ac (o2 aH (vr 1) (cn (.int 4))) (ac (cn (.int 9)) ag)))))) (gN 7)) (aO (bq (ac (o2 bN (vr 3) (vr 4)) (ac (o2 bN (vr 3) (vr 5)) (ac (vr 6) (ac (vr 7) ag))))))))))))
def cF:List T->Rs T:=val 3 8 cg
def dH:En->Rs Fl:=
 (aB (db (o2 aH (cn (.int 1)) (cl ao (ac (vr 0) (ac (vr 1) (ac (cn (.int 3)) ag))))) (gN 2)) (aB (db (bq (ac (cl ao (ac (vr 0) (ac (o2 aH (vr 1) (cn (.int 2))) (ac (cn (.int 6)) ag)))) ag)) (gN 3)) (aB (d7 (iR (ac (cl ao (ac (vr 0) (ac (o2 aH (vr 1) (cn (.int 1))) (ac (cn (.int 3)) ag)))) ag)) (gN 4) (db (o2 aH (vr 3) (bq (ac (o2 aH (o2 aH (o2 bN (vr 3) (o1 pU (cn (.int 1)))) (cn (.int 1))) (cl ao (ac (vr 0) (ac (o2 aH (o2 aH (vr 1) (cn (.int 3))) (vr 4)) (ac (cn (.int 5)) ag))))) ag))) (gN 3))) (aO (bq (ac (vr 2) (ac (o2 aH (vr 2) (cl ao (ac (vr 0) (ac (o2 aH (vr 1) (cn (.int 6))) (ac (cn (.int 3)) ag))))) (ac (vr 3) ag))))))))
def bW:List T->Rs T:=val 2 5 dH
def dj:En->Rs Fl:=
 (aB (db (cl gF (ac (eh (iR (ac (o2 aH (cn (.int 1)) (cl ao (ac (vr 0) (ac (vr 1) (ac (cn (.int 3)) ag))))) ag)) [none,some 0,some 1] (gN 0) bT (cl bW (ac (vr 1) (ac (o2 aH (o2 aH (vr 2) (cn (.int 1))) (o2 bz (cn (.int 8)) (vr 0))) ag)))) ag)) (gN 3)) (aB (db (dg ag) (gN 4)) (aB (d7 (iR (ac (cl ao (ac (vr 0) (ac (o2 aH (vr 1) (cn (.int 30))) (ac (o2 aH (vr 2) (cn (.int 1))) ag)))) ag)) (gN 5) (aB (db (cl cF (ac (vr 0) (ac (o2 aH (o2 aH (vr 1) (cn (.int 31))) (o2 bz (cn (.int 6)) (vr 5))) (ac (vr 3) ag)))) (gN 6)) (db (o2 aH (vr 4) (o2 bz (dg (ac (vr 6) ag)) (cl wj (ac (o2 cK (vr 6) (cn .non)) ag)))) (gN 4)))) (aO (bq (ac (vr 3) (ac (cl gF (ac (vr 4) ag)) ag)))))))
def dU:List T->Rs T:=val 3 7 dj
def dk:En->Rs Fl:=
 (aB (gJ 1 ag) (aB (d7 (iE (ac (o2 bN (vr 0) (cn (.int 0))) ag)) (gT 2 (dI (gN 2) (dI (gT 3 (dI (gN 3) (dI (gN 4) (dI (gN 5) j4)))) j4))) (d7 (iR (ac (cn (.int 1)) (ac (cl cG (ac (vr 5) ag)) ag))) (gN 6) (aB (db (o2 bP (o2 bN (vr 5) (vr 6)) (o2 bN (vr 5) (o2 bP (vr 6) (cn (.int 1))))) (gN 7)) (aB (gy 1 (bq (ac (bq (ac (vr 2) (ac (o2 bP (vr 6) (cn (.int 1))) ag))) (ac (bq (ac (vr 2) (ac (vr 6) ag))) (ac (o2 bz (vr 4) (vr 7)) ag))))) (gy 1 (bq (ac (bq (ac (vr 2) (ac (vr 6) ag))) (ac (bq (ac (vr 2) (ac (o2 bP (vr 6) (cn (.int 1))) ag))) (ac (o2 bP (cn (.int 0)) (o2 bz (vr 3) (vr 7))) ag))))))))) (aB (d7 (iS (o2 bN (vr 0) (cn (.int 1)))) (gT 4 (dI (gN 8) (dI (gN 9) (dI (gN 10) (dI (gN 11) j4))))) (aB (gy 1 (bq (ac (vr 9) (ac (vr 8) (ac (o2 bP (cn (.int 0)) (vr 10)) ag))))) (fV (tb (o2 cK (vr 11) (cn .non))) (gy 1 (bq (ac (vr 8) (ac (vr 9) (ac (vr 11) ag))))) sN))) (lW 1 (aO (vr 1))))))
def dW:List T->Rs T:=val 1 12 dk
def dF:En->Rs Fl:=
 (aB (kN 2 0) (aB (d7 (iS (vr 0)) (gN 3) (gv 2 (vr 3) (vr 3) (cn (.int 0)))) (aB (d7 (iS (vr 1)) (gT 3 (dI (gN 3) (dI (gN 4) (dI (gN 5) j4)))) (fV (jz (tb (o2 mh (ln 2 (o2 aI (o2 aI (vr 2) (vr 3)) (vr 4))) (cn .non))) (tb (o2 qV (vr 5) (ln 2 (o2 aI (o2 aI (vr 2) (vr 3)) (vr 4)))))) (gv 2 (vr 3) (vr 4) (vr 5)) sN)) (aB (d7 (iS (vr 0)) (gN 6) (d7 (iS (vr 0)) (gN 3) (d7 (iS (vr 0)) (gN 4) (fV (mm (tb (o2 cK (ln 2 (o2 aI (o2 aI (vr 2) (vr 3)) (vr 6))) (cn .non))) (tb (o2 cK (ln 2 (o2 aI (o2 aI (vr 2) (vr 6)) (vr 4))) (cn .non)))) (aB (db (o2 aH (ln 2 (o2 aI (o2 aI (vr 2) (vr 3)) (vr 6))) (ln 2 (o2 aI (o2 aI (vr 2) (vr 6)) (vr 4)))) (gN 7)) (fV (jz (tb (o2 mh (ln 2 (o2 aI (o2 aI (vr 2) (vr 3)) (vr 4))) (cn .non))) (tb (o2 qV (vr 7) (ln 2 (o2 aI (o2 aI (vr 2) (vr 3)) (vr 4)))))) (gv 2 (vr 3) (vr 4) (vr 7)) sN)) sN)))) (lW 2 (aO (oM (tb (o2 lR (eh (iS (vr 0)) [none,some 2] (gN 0) (tb (o2 qV (o2 aI (o2 aI (vr 1) (vr 0)) (vr 0)) (cn (.int 0)))) (vr 0)) (dg ag))) (vr 2) (cn .non))))))))
def eU:List T->Rs T:=val 2 8 dF
def bL:En->Rs Fl:=
 (aB (nH 5) (aB (d7 (iE (ac (vr 2) ag)) (gT 2 (dI (gN 6) (dI (gN 7) j4))) (aB (nI 5 8 [none,some 5,some 4,some 7] (gN 0) (tb (o2 cK (o2 aI (o2 aI (vr 2) (vr 0)) (vr 3)) (cn .non))) (o2 aH (o2 aI (vr 1) (vr 0)) (o2 aI (o2 aI (vr 2) (vr 0)) (vr 3)))) (aB (nI 5 9 [none,some 5,some 4,some 7] (gN 0) (tb (o2 cK (o2 aI (o2 aI (vr 2) (vr 3)) (vr 0)) (cn .non))) (o2 bP (o2 aI (vr 1) (vr 0)) (o2 aI (o2 aI (vr 2) (vr 3)) (vr 0)))) (aB (db (oM (tb (o2 hZ (vr 9) (dg ag))) (cl tV (ac (vr 9) ag)) (oM (tb (o2 hZ (vr 8) (dg ag))) (o2 bP (cl oa (ac (vr 8) ag)) (cn (.int 5))) (cn (.int 0)))) (gN 10)) (aB (db (oM (tb (o2 hZ (vr 8) (dg ag))) (cl oa (ac (vr 8) ag)) (o2 aH (vr 10) (cn (.int 5)))) (gN 11)) (qN 5 (vr 7) (o2 aH (vr 10) (cl ao (ac (vr 0) (ac (o2 aH (vr 1) (vr 6)) (ac (o2 aH (o2 bP (vr 11) (vr 10)) (cn (.int 1))) ag))))))))))) (aO (cl gF (ac (ln 5 (eh (iS (vr 2)) [none,some 5] (gN 0) bT (o2 aI (vr 1) (vr 0)))) ag)))))
def bJ:List T->Rs T:=val 5 12 bL
def ir:En->Rs Fl:=
 (aO (bD (o1 (yz "tuple") (vr 0)) (ch A5 A5 (vr 1) (cl cG (ac (vr 0) ag)) (vr 2))))
def aE:List T->Rs T:=val 3 3 ir
def iZ:En->Rs Fl:=
 (aO (bD (o1 (yz "int") (vr 0)) (o1 yk (o1 (yz "bool") (vr 0)))))
def dO:List T->Rs T:=val 1 1 iZ
def eE:En->Rs Fl:=
 (aO (bD (cl dO (ac (vr 0) ag)) (ch A5 A5 (vr 1) (vr 0) (vr 2))))
def aQ:List T->Rs T:=val 3 3 eE
def gc:En->Rs Fl:=
 (aO (bD (cl aQ (ac (vr 0) (ac (cn (.int 1)) (ac (cn (.int 9)) ag)))) (cl aQ (ac (vr 1) (ac (vr 0) (ac (cn (.int 9)) ag))))))
def eZ:List T->Rs T:=val 2 2 gc
def kx:En->Rs Fl:=
 (aO (cl lM (ac (eh (iR (ac (o2 bP (cl cG (ac (vr 0) ag)) (cn (.int 1))) ag)) [none,some 0] (gN 0) bT (o2 qV (o2 bN (vr 1) (vr 0)) (o2 bN (vr 1) (o2 aH (vr 0) (cn (.int 1)))))) ag)))
def ig:List T->Rs T:=val 1 1 kx
def cp:En->Rs Fl:=
 (aB (fV (d9 (tb (cl aE (ac (vr 0) (ac (cn (.int 1)) (ac (cn (.int 4)) ag)))))) (aO (cn (.bl false))) sN) (aO (bD (cl lM (ac (eh (iS (vr 0)) [none] (gN 0) bT (cl aQ (ac (vr 0) (ac (cn (.int 0)) (ac (cn (.int 99)) ag))))) ag)) (cl ig (ac (vr 0) ag)))))
def bu:List T->Rs T:=val 1 1 cp
def dR:En->Rs Fl:=
 (aO (bD (cl aE (ac (vr 0) (ac (cn (.int 3)) (ac (cn (.int 3)) ag)))) (bD (cl eZ (ac (o2 bN (vr 0) (cn (.int 0))) (ac (o2 bN (vr 0) (cn (.int 1))) ag))) (cl bu (ac (o2 bN (vr 0) (cn (.int 2))) ag)))))
def cR:List T->Rs T:=val 1 1 dR
def dE:En->Rs Fl:=
 (aO (bD (cl aE (ac (vr 0) (ac (cn (.int 1)) (ac (cn (.int 4)) ag)))) (cl lM (ac (eh (iS (vr 0)) [none] (gN 0) bT (cl cR (ac (vr 0) ag))) ag))))
def cX:List T->Rs T:=val 1 1 dE
def dP:En->Rs Fl:=
 (aB (fV (jz (d9 (tb (cl aE (ac (vr 1) (ac (cn (.int 2)) (ac (cn (.int 2)) ag)))))) (d9 (tb (cl aQ (ac (o2 bN (vr 1) (cn (.int 0))) (ac (cn (.int 0)) (ac (o2 bP (cl cG (ac (vr 0) ag)) (cn (.int 1))) ag))))))) (aO (cn (.bl false))) sN) (aO (cl aQ (ac (o2 bN (vr 1) (cn (.int 1))) (ac (cn (.int 0)) (ac (o2 bP (cl cG (ac (o2 bN (o2 bN (vr 0) (o2 bN (vr 1) (cn (.int 0)))) (cn (.int 2))) ag)) (cn (.int 1))) ag))))))
def cQ:List T->Rs T:=val 2 2 dP
def dQ:En->Rs Fl:=
 (aO (bD (cl aQ (ac (vr 0) (ac (cn (.int 0)) (ac (cn (.int 999)) ag)))) (Cy (o2 mh (vr 1) (cn .non)) (cl aQ (ac (vr 1) (ac (vr 0) (ac (cn (.int 999)) ag)))))))
def du:List T->Rs T:=val 2 2 dQ
def cr:En->Rs Fl:=
 (aB (fV (jz (d9 (tb (cl aE (ac (vr 1) (ac (cn (.int 4)) (ac (cn (.int 4)) ag)))))) (d9 (tb (cl du (ac (o2 bN (vr 1) (cn (.int 2))) (ac (o2 bN (vr 1) (cn (.int 3))) ag)))))) (aO (cn (.bl false))) sN) (aO (bD (cl cQ (ac (vr 0) (ac (o2 bN (vr 1) (cn (.int 0))) ag))) (bD (cl cQ (ac (vr 0) (ac (o2 bN (vr 1) (cn (.int 1))) ag))) (o2 hZ (o2 bN (vr 1) (cn (.int 0))) (o2 bN (vr 1) (cn (.int 1))))))))
def bA:List T->Rs T:=val 2 2 cr
def di:En->Rs Fl:=
 (aO (bD (cl aE (ac (vr 1) (ac (cn (.int 0)) (ac (cn (.int 8)) ag)))) (cl lM (ac (eh (iS (vr 1)) [none,some 0] (gN 0) bT (cl bA (ac (vr 1) (ac (vr 0) ag)))) ag))))
def cE:List T->Rs T:=val 2 2 di
def dw:En->Rs Fl:=
 (aO (bD (cl aE (ac (vr 0) (ac (cn (.int 2)) (ac (cn (.int 2)) ag)))) (bD (cl cX (ac (o2 bN (vr 0) (cn (.int 0))) ag)) (cl cE (ac (o2 bN (vr 0) (cn (.int 0))) (ac (o2 bN (vr 0) (cn (.int 1))) ag))))))
def cP:List T->Rs T:=val 1 1 dw
def cf:En->Rs Fl:=
 (fV (d9 (tb (cl cP (ac (vr 0) ag)))) (Ac "NoRecord") sN)
def ca:List T->Rs T:=val 1 1 cf
def fF:En->Rs Fl:=
 (aB (xy (cl ca (ac (vr 0) ag))) (aB (gJ 1 ag) (aB (d7 (iE (ac (o2 bN (vr 0) (cn (.int 0))) ag)) (gT 2 (dI (gN 2) (dI (gN 3) j4))) (kO 1 (eh (iR (ac (cl cG (ac (o2 bN (vr 3) (cn (.int 2))) ag)) ag)) [none,some 2] (gN 0) bT (bq (ac (vr 1) (ac (vr 0) ag)))))) (lW 1 (aO (vr 1))))))
def ee:List T->Rs T:=val 1 4 fF
def cW:En->Rs Fl:=
 (aB (db (cl cG (ac (cl ee (ac (vr 0) ag)) ag)) (gN 2)) (aO (bD (cl aE (ac (vr 1) (ac (vr 2) (ac (vr 2) ag)))) (cl lM (ac (eh (iS (vr 1)) [none] (gN 0) bT (cl dO (ac (vr 0) ag))) ag)))))
def aR:List T->Rs T:=val 2 3 cW
def bY:En->Rs Fl:=
 (aB (db (o2 bN (vr 1) (cn (.int 2))) (gN 2)) (aB (gJ 3 ag) (aB (d7 (iR (ac (o2 bP (cl cG (ac (vr 2) ag)) (cn (.int 1))) ag)) (gN 4) (aB (db (bq (ac (vr 0) (ac (vr 4) ag))) (gN 5)) (aB (db (bq (ac (vr 0) (ac (o2 aH (vr 4) (cn (.int 1))) ag))) (gN 6)) (aB (db (o2 bP (o2 bN (vr 2) (o2 aH (vr 4) (cn (.int 1)))) (o2 bN (vr 2) (vr 4))) (gN 7)) (aB (gy 3 (bq (ac (vr 5) (ac (vr 6) (ac (o2 bz (vr 7) (o2 bN (vr 1) (cn (.int 1)))) ag))))) (gy 3 (bq (ac (vr 6) (ac (vr 5) (ac (o2 bz (o1 pU (vr 7)) (o2 bN (vr 1) (cn (.int 0)))) ag)))))))))) (lW 3 (aO (vr 3))))))
def bU:List T->Rs T:=val 2 8 bY
def bK:En->Rs Fl:=
 (aB (gJ 1 (ac (bq (ac (o2 bN (vr 0) (cn (.int 1))) (ac (o2 bN (vr 0) (cn (.int 0))) (ac (o1 pU (o2 bN (vr 0) (cn (.int 2)))) ag)))) ag)) (aB (fV (tb (o2 cK (o2 bN (vr 0) (cn (.int 3))) (cn .non))) (gy 1 (bq (ac (o2 bN (vr 0) (cn (.int 0))) (ac (o2 bN (vr 0) (cn (.int 1))) (ac (o2 bN (vr 0) (cn (.int 3))) ag))))) sN) (lW 1 (aO (vr 1)))))
def bH:List T->Rs T:=val 1 2 bK
def gY:En->Rs Fl:=
 (aB (xy (cl ca (ac (vr 0) ag))) (aB (gJ 1 ag) (aB (d7 (iE (ac (o2 bN (vr 0) (cn (.int 0))) ag)) (gT 2 (dI (gN 2) (dI (gN 3) j4))) (kO 1 (cl bU (ac (vr 2) (ac (vr 3) ag))))) (aB (d7 (iS (o2 bN (vr 0) (cn (.int 1)))) (gN 4) (kO 1 (cl bH (ac (vr 4) ag)))) (lW 1 (aO (vr 1)))))))
def gP:List T->Rs T:=val 1 5 gY
def oJ:En->Rs Fl:=
 (aO (o2 A5 (o2 bP (o2 aI (vr 1) (o2 bN (vr 0) (cn (.int 1)))) (o2 aI (vr 1) (o2 bN (vr 0) (cn (.int 0))))) (o2 bN (vr 0) (cn (.int 2)))))
def kh:List T->Rs T:=val 2 2 oJ
def fG:En->Rs Fl:=
 (aB (db (cl By (ac (cl ee (ac (vr 0) ag)) (ac (vr 1) ag))) (gN 2)) (aO (eh (iE (ac (cl gP (ac (vr 0) ag)) ag)) [none,none,some 2] (gT 2 (dI (gN 0) (dI (gN 1) j4))) (d9 (tb (cl kh (ac (vr 1) (ac (vr 2) ag))))) (vr 0))))
def bt:List T->Rs T:=val 2 3 fG
def iY:En->Rs Fl:=
 (aO (bD (cl aR (ac (vr 0) (ac (vr 1) ag))) (o2 lR (cl bt (ac (vr 0) (ac (vr 1) ag))) (dg ag))))
def aU:List T->Rs T:=val 2 2 iY
def gZ:En->Rs Fl:=
 (pw (aO (qK [aR,aU,bt] (vr 0) (ac (vr 1) (ac (vr 2) ag)))) mi)
def bV:List T->Rs T:=val 3 4 gZ
def wY:En->Rs Fl:=
 (aB (db (cl dU (ac (vr 0) (ac (cn (.int 0)) (ac (cn (.int 5)) ag)))) (gN 1)) (aB (db (cl cb (ac (o2 bN (vr 1) (cn (.int 0))) ag)) (gN 2)) (aB (db (cl dW (ac (vr 1) ag)) (gN 3)) (aB (db (cl eU (ac (vr 2) (ac (vr 3) ag))) (gN 4)) (aB (db (cl gF (ac (eh (iR (ac (cl cG (ac (vr 2) ag)) ag)) [none,some 0] (gN 0) bT (o2 bP (cl ao (ac (vr 1) (ac (o2 aH (cn (.int 80)) (vr 0)) (ac (cn (.int 30)) ag)))) (cn (.int 10)))) ag)) (gN 5)) (aB (fV (mm (tb (o2 cK (vr 4) (cn .non))) (tb (o2 Bm (cl ao (ac (vr 0) (ac (cn (.int 100)) (ac (cn (.int 3)) ag)))) (cn (.int 0))))) (aB (db (cl bJ (ac (vr 0) (ac (cn (.int 80)) (ac (vr 2) (ac (vr 3) (ac (vr 4) ag)))))) (gN 5)) (fV (jz (tb (o2 hZ (cl bt (ac (vr 1) (ac (vr 5) ag))) (dg ag))) (tb (o2 hZ (cl aU (ac (vr 1) (ac (vr 5) ag))) (cn (.bl true))))) (aO (cn (.bl false))) sN)) sN) (aB (db (cl ao (ac (vr 0) (ac (cn (.int 101)) (ac (cl cG (ac (vr 2) ag)) ag)))) (gN 6)) (aB (d7 (iS (bq (ac (vr 5) (ac (o2 aH (o2 aH (sl (vr 5) pN (pS (vr 6))) (bq (ac (o2 bP (o2 aH (o2 bN (vr 5) (vr 6)) (cl ao (ac (vr 0) (ac (cn (.int 102)) (ac (cn (.int 5)) ag))))) (cn (.int 2))) ag))) (sl (vr 5) (pS (o2 aH (vr 6) (cn (.int 1)))) pN)) ag)))) (gN 7) (aB (db (cl By (ac (vr 2) (ac (vr 7) ag))) (gN 8)) (aB (db (eh (iE (ac (vr 3) ag)) [none,none,none,none,some 8] (gT 2 (dI (gN 0) (dI (gT 3 (dI (gN 1) (dI (gN 2) (dI (gN 3) j4)))) j4))) (tb (o2 Bm (o2 bP (o2 aI (vr 4) (vr 2)) (o2 aI (vr 4) (vr 1))) (vr 3))) (vr 0)) (gN 9)) (fV (jz (tb (o2 hZ (cl bt (ac (vr 1) (ac (vr 7) ag))) (vr 9))) (jz (tb (o2 hZ (cl aU (ac (vr 1) (ac (vr 7) ag))) (o2 lR (vr 9) (dg ag)))) (tb (o2 hZ (cl aR (ac (vr 1) (ac (vr 7) ag))) (cn (.bl true)))))) (aO (cn (.bl false))) sN)))) (aB (db (dg (ac (cn .non) (ac (o2 aH (vr 5) (bq (ac (cn (.int 0)) ag))) (ac (sl (vr 5) (pS (cn (.int 1))) pN) (ac (cl sh (ac (vr 5) ag)) ag))))) (gN 10)) (aB (db (o2 aH (vr 10) (eh (iS (bq (ac (cn (.bl true)) (ac (cn .non) ag)))) [none,some 5,some 6] (gN 0) bT (o2 aH (o2 aH (sl (vr 1) pN (pS (vr 2))) (bq (ac (vr 0) ag))) (sl (vr 1) (pS (o2 aH (vr 2) (cn (.int 1)))) pN)))) (gN 10)) (aB (db (o2 bN (vr 10) (cl ao (ac (vr 0) (ac (cn (.int 103)) (ac (cn (.int 6)) ag))))) (gN 11)) (aB (fV (tb (o2 hZ (eh (iR (ac (cn (.int 2)) ag)) [none,some 1,some 11] (gN 0) bT (cl bV (ac (vr 0) (ac (vr 1) (ac (vr 2) ag))))) (dg (ac (cn (.bl false)) (ac (cn (.bl false)) ag))))) (aO (cn (.bl false))) sN) (aO (o2 lR (eh (iR (ac (cn (.int 3)) ag)) [none,some 1,some 11] (gN 0) bT (cl bV (ac (vr 0) (ac (sl (vr 1) pN (pS (cn (.int 1)))) (ac (vr 2) ag))))) (o2 bz (dg (ac (bq (ac (cn (.str "refused")) (ac (cn (.int 0)) ag))) ag)) (cn (.int 3)))))))))))))))))
def m_law:List T->Rs T:=val 1 12 wY
end G
namespace G
open PySem PySem.Spec PyProof.Rows L2 Tr
section
variable {P:Program}{w:World}{K:PySem.W.Frag}{mg:Str->Option Value}{base:Heap}
abbrev i9:Stmt:=top 39
theorem nG:aA ["_law_script","_law_k"] ["_law_script","_law_k"] (ah i9):=⟨rfl,rfl,rfl,by decide+kernel,rfl,by decide+kernel,by decide+kernel⟩
theorem nY (F:iy K mg "_law_cell" i9 ["_law_script","_law_k"])(B:Bl mg):Cl P w K mg base 1 "_law_cell" 2 ef:=
 bB F nG rfl λf cdv A outer s H E hr xe=>(ak (dq (aW (mF (ix hr)) (ad 0) (dC af)) (au (aF (al cJ ai (ad 1)))) cu) (au (aF (al aG (aP (ad 0) (al iK (ad 1) (cz cV B.b_len boot_len (ae (ad 0) af)))) (al cJ ai (al kc (ad 1) (cz cV B.b_len boot_len (ae (ad 0) af))))))))
abbrev iA:Stmt:=top 40
theorem sc__law_drawn:aA ["_law_script","_law_k","_law_many","_law_cell_here"] ["_law_script","_law_k","_law_many"] (ah iA):=⟨rfl,rfl,rfl,by decide+kernel,rfl,by decide+kernel,by decide+kernel⟩
theorem l7 (F:iy K mg "_law_drawn" iA ["_law_script","_law_k","_law_many"])(c__law_cell:Cl P w K mg base 1 "_law_cell" 2 ef):Cl P w K mg base 2 "_law_drawn" 3 ao:=
 bB F sc__law_drawn rfl λf cdv A outer s H E hr xe=>(by(refine @ak _ _ _ _ _ ?_ ?_;(focus exact(aL (al iK (al aG (al cJ (al iK (aS c__law_cell hr (ae (ad 0) (ae (ad 1) af))) ai) ai) (al cJ ai (al aG (ad 1) ai))) ai) (aj 3 sc__law_drawn.nd)));refine @ak _ _ _ _ _ ?_ ?_;(focus exact(aL (al iK (al aG (al cJ (ad 3) (ad 3)) (al kc (ad 3) ai)) ai) (aj 3 sc__law_drawn.nd)));exact au (aF (al iK (al kc (al iK (al aG (al cJ (ad 3) (ad 3)) (al kc (ad 3) ai)) ai) ai) (ad 2)))))
abbrev fz:Stmt:=top 43
theorem sc__law_events:aA ["_law_clocks","_law_found","_law_number","_law_clock_here"] ["_law_clocks"] (ah fz):=⟨rfl,rfl,rfl,by decide+kernel,rfl,by decide+kernel,by decide+kernel⟩
theorem kX (F:iy K mg "_law_events" fz ["_law_clocks"])(B:Bl mg):Cl P w K mg base 1 "_law_events" 1 cb:=
 bB F sc__law_events rfl λf cdv A outer s H E hr xe=>(by(refine @ak _ _ _ _ _ ?_ ?_;(focus exact(aL (dC af) (aj 1 sc__law_events.nd)));refine @ak _ _ _ _ _ ?_ ?_;(focus exact(bQ rfl (fg B.b_enumerate (ae (ad 0) af)) (dA rfl (aJ (aj 2 sc__law_events.nd) (aJ (aj 3 sc__law_events.nd) cN))) (au (aL (al aG (ad 1) (fh (N':=["_law_place","_law_number"]) (src:=[none,some 2]) rfl (LcScope.by (N:=["_law_clocks","_law_found","_law_number","_law_clock_here"]) (names:=(ah fz).names) rfl rfl rfl (by decide+kernel)) (bZ B.b_range (ae (cz cV B.b_len boot_len (ae (aP (ad 3) ai) af)) af)) (λ_ _ _ _ _=>⟨(aj 0 (show List.Nodup (["_law_place","_law_number"]:List Str)by decide+kernel)),cm,(bp (ae (ad 1) (ae (ad 0) af)))⟩))) (aj 1 sc__law_events.nd)))));exact au (aF (ad 1))))
abbrev gH:Stmt:=top 42
theorem sc__law_letter:aA ["_law_script","_law_at","_law_clocks","_law_row","_law_place","_law_other","_law_least","_law_most"] ["_law_script","_law_at","_law_clocks"] (ah gH):=⟨rfl,rfl,rfl,by decide+kernel,rfl,by decide+kernel,by decide+kernel⟩
theorem kW (F:iy K mg "_law_letter" gH ["_law_script","_law_at","_law_clocks"])(c__law_events:Cl P w K mg base 1 "_law_events" 1 cb)(c__law_drawn:Cl P w K mg base 2 "_law_drawn" 3 ao)(B:Bl mg):Cl P w K mg base 3 "_law_letter" 3 cF:=
 bB F sc__law_letter rfl λf cdv A outer s H E hr xe=>(by(refine @ak _ _ _ _ _ ?_ ?_;(focus exact(aL (aS c__law_events hr (ae (ad 2) af)) (aj 3 sc__law_letter.nd)));refine @ak _ _ _ _ _ ?_ ?_;(focus exact(dq (aW pI (cz cV B.b_len boot_len (ae (ad 3) af)) ai) (au (aF cZ)) cu));refine @ak _ _ _ _ _ ?_ ?_;(focus exact(aL (aS c__law_drawn hr (ae (ad 0) (ae (ad 1) (ae (cz cV B.b_len boot_len (ae (ad 3) af)) af)))) (aj 4 sc__law_letter.nd)));refine @ak _ _ _ _ _ ?_ ?_;(focus exact(aL (al iK (al aG (al aG (ad 4) ai) (aS c__law_drawn hr (ae (ad 0) (ae (al aG (ad 1) ai) (ae (al cv (cz cV B.b_len boot_len (ae (ad 3) af)) ai) af))))) (cz cV B.b_len boot_len (ae (ad 3) af))) (aj 5 sc__law_letter.nd)));refine @ak _ _ _ _ _ ?_ ?_;(focus exact(aL (aS c__law_drawn hr (ae (ad 0) (ae (al aG (ad 1) ai) (ae ai af)))) (aj 6 sc__law_letter.nd)));refine @ak _ _ _ _ _ ?_ ?_;(focus exact(aL (oR (aW (mF (ix hr)) (aS c__law_drawn hr (ae (ad 0) (ae (al aG (ad 1) ai) (ae ai af)))) ai) cZ (al aG (ad 6) (aS c__law_drawn hr (ae (ad 0) (ae (al aG (ad 1) ai) (ae ai af)))))) (aj 7 sc__law_letter.nd)));exact au (aF (bp (ae (aP (ad 3) (ad 4)) (ae (aP (ad 3) (ad 5)) (ae (ad 6) (ae (ad 7) af))))))))
abbrev iB:Stmt:=top 41
theorem sc__law_clock:aA ["_law_script","_law_at","_law_slow","_law_readings","_law_k"] ["_law_script","_law_at"] (ah iB):=⟨rfl,rfl,rfl,by decide+kernel,rfl,by decide+kernel,by decide+kernel⟩
theorem l8 (F:iy K mg "_law_clock" iB ["_law_script","_law_at"])(c__law_drawn:Cl P w K mg base 2 "_law_drawn" 3 ao)(B:Bl mg):Cl P w K mg base 3 "_law_clock" 2 bW:=
 bB F sc__law_clock rfl λf cdv A outer s H E hr xe=>(by(refine @ak _ _ _ _ _ ?_ ?_;(focus exact(aL (al aG ai (aS c__law_drawn hr (ae (ad 0) (ae (ad 1) (ae ai af))))) (aj 2 sc__law_clock.nd)));refine @ak _ _ _ _ _ ?_ ?_;(focus exact(aL (bp (ae (aS c__law_drawn hr (ae (ad 0) (ae (al aG (ad 1) ai) (ae ai af)))) af)) (aj 3 sc__law_clock.nd)));refine @ak _ _ _ _ _ ?_ ?_;(focus exact(bQ rfl (bZ B.b_range (ae (aS c__law_drawn hr (ae (ad 0) (ae (al aG (ad 1) ai) (ae ai af)))) af)) (aj 4 sc__law_clock.nd) (au (aL (al aG (ad 3) (bp (ae (al aG (al aG (aP (ad 3) (qE ai)) ai) (aS c__law_drawn hr (ae (ad 0) (ae (al aG (al aG (ad 1) ai) (ad 4)) (ae ai af))))) af))) (aj 3 sc__law_clock.nd)))));exact au (aF (bp (ae (ad 2) (ae (al aG (ad 2) (aS c__law_drawn hr (ae (ad 0) (ae (al aG (ad 1) ai) (ae ai af))))) (ae (ad 3) af)))))))
abbrev fy:Stmt:=top 44
theorem sc__law_record:aA ["_law_script","_law_at","_law_most","_law_clocks","_law_letters","_law_k","_law_letter_here"] ["_law_script","_law_at","_law_most"] (ah fy):=⟨rfl,rfl,rfl,by decide+kernel,rfl,by decide+kernel,by decide+kernel⟩
theorem kU (F:iy K mg "_law_record" fy ["_law_script","_law_at","_law_most"])(c__law_drawn:Cl P w K mg base 2 "_law_drawn" 3 ao)(c__law_letter:Cl P w K mg base 3 "_law_letter" 3 cF)(c__law_clock:Cl P w K mg base 3 "_law_clock" 2 bW)(B:Bl mg):Cl P w K mg base 4 "_law_record" 3 dU:=
 bB F sc__law_record rfl λf cdv A outer s H E hr xe=>(by(refine @ak _ _ _ _ _ ?_ ?_;(focus exact(aL (mq jt B.b_tuple dh (ae (fh (N':=["_law_k","_law_script","_law_at"]) (src:=[none,some 0,some 1]) rfl (LcScope.by (N:=["_law_script","_law_at","_law_most","_law_clocks","_law_letters","_law_k","_law_letter_here"]) (names:=(ah fy).names) rfl rfl rfl (by decide+kernel)) (bZ B.b_range (ae (al aG ai (aS c__law_drawn hr (ae (ad 0) (ae (ad 1) (ae ai af))))) af)) (λ_ _ _ _ _=>⟨(aj 0 (show List.Nodup (["_law_k","_law_script","_law_at"]:List Str)by decide+kernel)),cm,(aS c__law_clock hr (ae (ad 1) (ae (al aG (al aG (ad 2) ai) (al cJ ai (ad 0))) af)))⟩)) af)) (aj 3 sc__law_record.nd)));refine @ak _ _ _ _ _ ?_ ?_;(focus exact(aL (dC af) (aj 4 sc__law_record.nd)));refine @ak _ _ _ _ _ ?_ ?_;(focus exact(bQ rfl (bZ B.b_range (ae (aS c__law_drawn hr (ae (ad 0) (ae (al aG (ad 1) ai) (ae (al aG (ad 2) ai) af)))) af)) (aj 5 sc__law_record.nd) (ak (aL (aS c__law_letter hr (ae (ad 0) (ae (al aG (al aG (ad 1) ai) (al cJ ai (ad 5))) (ae (ad 3) af)))) (aj 6 sc__law_record.nd)) (au (aL (al aG (ad 4) (al cJ (dC (ae (ad 6) af)) (mq BE B.b_int jV (ae (gC d8 (ad 6) cZ) af)))) (aj 4 sc__law_record.nd))))));exact au (aF (bp (ae (ad 3) (ae (mq jt B.b_tuple dh (ae (ad 4) af)) af))))))
abbrev gI:Stmt:=top 45
theorem sc__law_bounds:aA ["_law_record_here","_law_found","_law_number","_law_slow","_law_fast","_law_readings","_law_k","_law_steps","_law_one","_law_other","_law_least","_law_most"] ["_law_record_here"] (ah gI):=⟨rfl,rfl,rfl,by decide+kernel,rfl,by decide+kernel,by decide+kernel⟩
theorem kY (F:iy K mg "_law_bounds" gI ["_law_record_here"])(B:Bl mg):Cl P w K mg base 1 "_law_bounds" 1 dW:=
 bB F sc__law_bounds rfl λf cdv A outer s H E hr xe=>(by(refine @ak _ _ _ _ _ ?_ ?_;(focus exact(gA 1 sc__law_bounds.nd af));refine @ak _ _ _ _ _ ?_ ?_;(focus exact(bQ rfl (fg B.b_enumerate (ae (aP (ad 0) ai) af)) (dA rfl (aJ (aj 2 sc__law_bounds.nd) (aJ (dA rfl (aJ (aj 3 sc__law_bounds.nd) (aJ (aj 4 sc__law_bounds.nd) (aJ (aj 5 sc__law_bounds.nd) cN)))) cN))) (au (bQ rfl (qD B.b_range (ae ai (ae (cz cV B.b_len boot_len (ae (ad 5) af)) af))) (aj 6 sc__law_bounds.nd) (by(refine @ak _ _ _ _ _ ?_ ?_;(focus exact(aL (al cv (aP (ad 5) (ad 6)) (aP (ad 5) (al cv (ad 6) ai))) (aj 7 sc__law_bounds.nd)));refine @ak _ _ _ _ _ ?_ ?_;(focus exact(gg 1 (bp (ae (bp (ae (ad 2) (ae (al cv (ad 6) ai) af))) (ae (bp (ae (ad 2) (ae (ad 6) af))) (ae (al cJ (ad 4) (ad 7)) af))))));exact au (gg 1 (bp (ae (bp (ae (ad 2) (ae (ad 6) af))) (ae (bp (ae (ad 2) (ae (al cv (ad 6) ai) af))) (ae (al cv ai (al cJ (ad 3) (ad 7))) af)))))))))));refine @ak _ _ _ _ _ ?_ ?_;(focus exact(bQ rfl (bR (aP (ad 0) ai)) (dA rfl (aJ (aj 8 sc__law_bounds.nd) (aJ (aj 9 sc__law_bounds.nd) (aJ (aj 10 sc__law_bounds.nd) (aJ (aj 11 sc__law_bounds.nd) cN))))) (ak (gg 1 (bp (ae (ad 9) (ae (ad 8) (ae (al cv ai (ad 10)) af))))) (au (dq (aW d8 (ad 11) cZ) (au (gg 1 (bp (ae (ad 8) (ae (ad 9) (ae (ad 11) af)))))) cu)))));exact au (g9 1 (aF (ad 1)))))
abbrev dS:Stmt:=top 46
theorem sc__law_table:aA ["_law_places","_law_row","_law_far","_law_one","_law_other","_law_most","_law_middle","_law_whole"] ["_law_places","_law_row"] (ah dS):=⟨rfl,rfl,rfl,by decide+kernel,rfl,by decide+kernel,by decide+kernel⟩
theorem l5 (F:iy K mg "_law_table" dS ["_law_places","_law_row"])(B:Bl mg):Cl P w K mg base 1 "_law_table" 2 eU:=
 bB F sc__law_table rfl λf cdv A outer s H E hr xe=>(by(refine @ak _ _ _ _ _ ?_ ?_;(focus exact(tm 2 0 (N':=["_law_one","_law_places"]) (src:=[none]) (Dm hr) rfl B.b_dict sc__law_table.nd (LcScope.by (N:=["_law_places","_law_row","_law_far","_law_one","_law_other","_law_most","_law_middle","_law_whole"]) (names:=(ah dS).names) rfl rfl rfl (by decide+kernel)) (bR (ad 0)) (by decide) (λ_ _ _ _ _=>⟨(aj 0 (show List.Nodup (["_law_one","_law_places"]:List Str)by decide+kernel)),pv 0,AJ (Dm hr) rfl B.b_dict rfl (LcScope.byN (N:=["_law_one","_law_places"]) (N':=["_law_other"]) rfl rfl (by decide+kernel) rfl) (bR (ad 1)).h (λ_ _ _ _ _=>⟨(aj 0 (show List.Nodup (["_law_other"]:List Str)by decide+kernel)).h,pv 0,rfl⟩) (λ_=>rfl)⟩)));refine @ak _ _ _ _ _ ?_ ?_;(focus exact(bQ rfl (bR (ad 0)) (aj 3 sc__law_table.nd) (au (kA 2 (gz hr) (ad 3) (ad 3) ai))));refine @ak _ _ _ _ _ ?_ ?_;(focus exact(bQ rfl (bR (ad 1)) (dA rfl (aJ (aj 3 sc__law_table.nd) (aJ (aj 4 sc__law_table.nd) (aJ (aj 5 sc__law_table.nd) cN)))) (au (dq (jJ (iI (aW vB (i3 2 (aY (gz hr) (aY (gz hr) (ad 2) (ad 3)) (ad 4))) cZ) (g8 (aW pI (ad 5) (i3 2 (aY (gz hr) (aY (gz hr) (ad 2) (ad 3)) (ad 4))))))) (au (kA 2 (gz hr) (ad 3) (ad 4) (ad 5))) cu))));refine @ak _ _ _ _ _ ?_ ?_;(focus exact(bQ rfl (bR (ad 0)) (aj 6 sc__law_table.nd) (au (bQ rfl (bR (ad 0)) (aj 3 sc__law_table.nd) (au (bQ rfl (bR (ad 0)) (aj 4 sc__law_table.nd) (au (dq (jJ (rH (aW d8 (i3 2 (aY (gz hr) (aY (gz hr) (ad 2) (ad 3)) (ad 6))) cZ) (oO (aW d8 (i3 2 (aY (gz hr) (aY (gz hr) (ad 2) (ad 6)) (ad 4))) cZ)))) (ak (aL (al aG (i3 2 (aY (gz hr) (aY (gz hr) (ad 2) (ad 3)) (ad 6))) (i3 2 (aY (gz hr) (aY (gz hr) (ad 2) (ad 6)) (ad 4)))) (aj 7 sc__law_table.nd)) (au (dq (jJ (iI (aW vB (i3 2 (aY (gz hr) (aY (gz hr) (ad 2) (ad 3)) (ad 4))) cZ) (g8 (aW pI (ad 7) (i3 2 (aY (gz hr) (aY (gz hr) (ad 2) (ad 3)) (ad 4))))))) (au (kA 2 (gz hr) (ad 3) (ad 4) (ad 7))) cu))) cu))))))));exact au (g9 2 (aF (oR (aW (mF (ix hr)) (fh (N':=["_law_one","_law_far"]) (src:=[none,some 2]) rfl (LcScope.by (N:=["_law_places","_law_row","_law_far","_law_one","_law_other","_law_most","_law_middle","_law_whole"]) (names:=(ah dS).names) rfl rfl rfl (by decide+kernel)) (bR (ad 0)) (λ_ _ _ _ _=>⟨(aj 0 (show List.Nodup (["_law_one","_law_far"]:List Str)by decide+kernel)),(gB (aW pI (aY (gz hr) (aY (gz hr) (ad 1) (ad 0)) (ad 0)) ai)),(ad 0)⟩)) (dC af)) (ad 2) cZ)))))
abbrev bx:Stmt:=top 48
theorem sc__law_drawn_world:aA ["_law_script","_law_at","_law_places","_law_row","_law_table_here","_law_times","_law_k","_law_event","_law_highs","_law_lows","_law_low","_law_high"] ["_law_script","_law_at","_law_places","_law_row","_law_table_here"] (ah bx):=⟨rfl,rfl,rfl,by decide+kernel,rfl,by decide+kernel,by decide+kernel⟩
theorem iw (F:iy K mg "_law_drawn_world" bx ["_law_script","_law_at","_law_places","_law_row","_law_table_here"])(c__law_drawn:Cl P w K mg base 2 "_law_drawn" 3 ao)(B:Bl mg):Cl P w K mg base 3 "_law_drawn_world" 5 bJ:=
 bB F sc__law_drawn_world rfl λf cdv A outer s H E hr xe=>(by(refine @ak _ _ _ _ _ ?_ ?_;(focus exact(tp 5 sc__law_drawn_world.nd));refine @ak _ _ _ _ _ ?_ ?_;(focus exact(bQ rfl (fg B.b_enumerate (ae (ad 2) af)) (dA rfl (aJ (aj 6 sc__law_drawn_world.nd) (aJ (aj 7 sc__law_drawn_world.nd) cN))) (by(refine @ak _ _ _ _ _ ?_ ?_;(focus exact(rJ 5 8 (N':=["_law_one","_law_times","_law_table_here","_law_event"]) (src:=[none,some 5,some 4,some 7]) rfl (LcScope.by (N:=["_law_script","_law_at","_law_places","_law_row","_law_table_here","_law_times","_law_k","_law_event","_law_highs","_law_lows","_law_low","_law_high"]) (names:=(ah bx).names) rfl rfl rfl (by decide+kernel))  (λ_ _ _ _ _=>⟨(aj 0 (show List.Nodup (["_law_one","_law_times","_law_table_here","_law_event"]:List Str)by decide+kernel)),(gB (aW d8 (aY (gz hr) (aY (gz hr) (ad 2) (ad 0)) (ad 3)) cZ)),(al aG (aY (gz hr) (ad 1) (ad 0)) (aY (gz hr) (aY (gz hr) (ad 2) (ad 0)) (ad 3)))⟩) sc__law_drawn_world.nd));refine @ak _ _ _ _ _ ?_ ?_;(focus exact(rJ 5 9 (N':=["_law_one","_law_times","_law_table_here","_law_event"]) (src:=[none,some 5,some 4,some 7]) rfl (LcScope.by (N:=["_law_script","_law_at","_law_places","_law_row","_law_table_here","_law_times","_law_k","_law_event","_law_highs","_law_lows","_law_low","_law_high"]) (names:=(ah bx).names) rfl rfl rfl (by decide+kernel))  (λ_ _ _ _ _=>⟨(aj 0 (show List.Nodup (["_law_one","_law_times","_law_table_here","_law_event"]:List Str)by decide+kernel)),(gB (aW d8 (aY (gz hr) (aY (gz hr) (ad 2) (ad 3)) (ad 0)) cZ)),(al cv (aY (gz hr) (ad 1) (ad 0)) (aY (gz hr) (aY (gz hr) (ad 2) (ad 3)) (ad 0)))⟩) sc__law_drawn_world.nd));refine @ak _ _ _ _ _ ?_ ?_;(focus exact(aL (oR (aW (iC (ix hr)) (ad 9) (dC af)) (cz (BD rfl) B.b_max boot_max (ae (ad 9) af)) (oR (aW (iC (ix hr)) (ad 8) (dC af)) (al cv (cz (wK rfl) B.b_min boot_min (ae (ad 8) af)) ai) ai)) (aj 10 sc__law_drawn_world.nd)));refine @ak _ _ _ _ _ ?_ ?_;(focus exact(aL (oR (aW (iC (ix hr)) (ad 8) (dC af)) (cz (wK rfl) B.b_min boot_min (ae (ad 8) af)) (al aG (ad 10) ai)) (aj 11 sc__law_drawn_world.nd)));exact au (w9 5 (gz hr) (ad 7) (al aG (ad 10) (aS c__law_drawn hr (ae (ad 0) (ae (al aG (ad 1) (ad 6)) (ae (al aG (al cv (ad 11) (ad 10)) ai) af))))))))));exact au (aF (mq jt B.b_tuple dh (ae (i3 5 (fh (N':=["_law_event","_law_times"]) (src:=[none,some 5]) rfl (LcScope.by (N:=["_law_script","_law_at","_law_places","_law_row","_law_table_here","_law_times","_law_k","_law_event","_law_highs","_law_lows","_law_low","_law_high"]) (names:=(ah bx).names) rfl rfl rfl (by decide+kernel)) (bR (ad 2)) (λ_ _ _ _ _=>⟨(aj 0 (show List.Nodup (["_law_event","_law_times"]:List Str)by decide+kernel)),cm,(aY (gz hr) (ad 1) (ad 0))⟩))) af)))))
abbrev kI:Stmt:=top 17
theorem qM:aA ["thing","least","most"] ["thing","least","most"] (ah kI):=⟨rfl,rfl,rfl,by decide+kernel,rfl,by decide+kernel,by decide+kernel⟩
theorem qS (F:iy K mg "is_long" kI ["thing","least","most"])(B:Bl mg):Cl P w K mg base 1 "is_long" 3 aE:=
 bB F qM rfl λf cdv A outer s H E hr xe=>(au (aF (da (uG B.b_isinstance B.b_tuple dh (ad 0)) (dB (oS pJ pJ (ad 1) (cz cV B.b_len boot_len (ae (ad 0) af)) (ad 2))))))
abbrev jM:Stmt:=top 15
theorem ph:aA ["thing"] ["thing"] (ah jM):=⟨rfl,rfl,rfl,by decide+kernel,rfl,by decide+kernel,by decide+kernel⟩
theorem pL (F:iy K mg "is_whole" jM ["thing"])(B:Bl mg):Cl P w K mg base 1 "is_whole" 1 dO:=
 bB F ph rfl λf cdv A outer s H E hr xe=>(au (aF (da (uG B.b_isinstance B.b_int jV (ad 0)) (dB (zR (uG B.b_isinstance B.b_bool oB (ad 0)))))))
abbrev i5:Stmt:=top 16
theorem nC:aA ["thing","least","most"] ["thing","least","most"] (ah i5):=⟨rfl,rfl,rfl,by decide+kernel,rfl,by decide+kernel,by decide+kernel⟩
theorem nT (F:iy K mg "is_within" i5 ["thing","least","most"])(c_is_whole:Cl P w K mg base 1 "is_whole" 1 dO):Cl P w K mg base 2 "is_within" 3 aQ:=
 bB F nC rfl λf cdv A outer s H E hr xe=>(au (aF (da (aS c_is_whole hr (ae (ad 0) af)) (dB (oS pJ pJ (ad 1) (ad 0) (ad 2))))))
abbrev kH:Stmt:=top 20
theorem qL:aA ["slow","fast"] ["slow","fast"] (ah kH):=⟨rfl,rfl,rfl,by decide+kernel,rfl,by decide+kernel,by decide+kernel⟩
theorem qR (F:iy K mg "is_pace" kH ["slow","fast"])(c_is_within:Cl P w K mg base 2 "is_within" 3 aQ)(C:Cs mg):Cl P w K mg base 3 "is_pace" 2 eZ:=
 bB F qL rfl λf cdv A outer s H E hr xe=>(au (aF (da (aS c_is_within hr (ae (ad 0) (ae ai (ae (oQ C.SLOWEST) af)))) (dB (aS c_is_within hr (ae (ad 1) (ae (ad 0) (ae (oQ C.SLOWEST) af))))))))
abbrev kG:Stmt:=top 18
theorem uS:aA ["numbers"] ["numbers"] (ah kG):=⟨rfl,rfl,rfl,by decide+kernel,rfl,by decide+kernel,by decide+kernel⟩
theorem vF (F:iy K mg "rises" kG ["numbers"])(B:Bl mg):Cl P w K mg base 1 "rises" 1 ig:=
 bB F uS rfl λf cdv A outer s H E hr xe=>(au (aF (cz (lE rfl) B.b_all boot_all (ae (fh (N':=["k","numbers"]) (src:=[none,some 0]) rfl (LcScope.by (N:=["numbers"]) (names:=(ah kG).names) rfl rfl rfl (by decide+kernel)) (bZ B.b_range (ae (al cv (cz cV B.b_len boot_len (ae (ad 0) af)) ai) af)) (λ_ _ _ _ _=>⟨(aj 0 (show List.Nodup (["k","numbers"]:List Str)by decide+kernel)),cm,(gC pI (aP (ad 1) (ad 0)) (aP (ad 1) (al aG (ad 0) ai)))⟩)) af))))
abbrev eG:Stmt:=top 19
theorem jY:aA ["thing"] ["thing"] (ah eG):=⟨rfl,rfl,rfl,by decide+kernel,rfl,by decide+kernel,by decide+kernel⟩
theorem jZ (F:iy K mg "are_readings" eG ["thing"])(c_is_long:Cl P w K mg base 1 "is_long" 3 aE)(c_rises:Cl P w K mg base 1 "rises" 1 ig)(c_is_within:Cl P w K mg base 2 "is_within" 3 aQ)(B:Bl mg)(C:Cs mg):Cl P w K mg base 3 "are_readings" 1 bu:=
 bB F jY rfl λf cdv A outer s H E hr xe=>(ak (dq (gf (gd (aS c_is_long hr (ae (ad 0) (ae ai (ae (oQ C.MOST_READINGS) af)))))) (au (aF gD)) cu) (au (aF (da (cz (lE rfl) B.b_all boot_all (ae (fh (N':=["part"]) (src:=[none]) rfl (LcScope.by (N:=["thing"]) (names:=(ah eG).names) rfl rfl rfl (by decide+kernel)) (bR (ad 0)) (λ_ _ _ _ _=>⟨(aj 0 (show List.Nodup (["part"]:List Str)by decide+kernel)),cm,(aS c_is_within hr (ae (ad 0) (ae ai (ae (oQ C.LAST_READING) af))))⟩)) af)) (dB (aS c_rises hr (ae (ad 0) af)))))))
abbrev jP:Stmt:=top 21
theorem pq:aA ["thing"] ["thing"] (ah jP):=⟨rfl,rfl,rfl,by decide+kernel,rfl,by decide+kernel,by decide+kernel⟩
theorem pP (F:iy K mg "is_clock" jP ["thing"])(c_is_long:Cl P w K mg base 1 "is_long" 3 aE)(c_is_pace:Cl P w K mg base 3 "is_pace" 2 eZ)(c_are_readings:Cl P w K mg base 3 "are_readings" 1 bu):Cl P w K mg base 4 "is_clock" 1 cR:=
 bB F pq rfl λf cdv A outer s H E hr xe=>(au (aF (da (aS c_is_long hr (ae (ad 0) (ae ai (ae ai af)))) (da (aS c_is_pace hr (ae (aP (ad 0) ai) (ae (aP (ad 0) ai) af))) (dB (aS c_are_readings hr (ae (aP (ad 0) ai) af)))))))
abbrev fL:Stmt:=top 22
theorem lV:aA ["thing"] ["thing"] (ah fL):=⟨rfl,rfl,rfl,by decide+kernel,rfl,by decide+kernel,by decide+kernel⟩
theorem l0 (F:iy K mg "are_clocks" fL ["thing"])(c_is_long:Cl P w K mg base 1 "is_long" 3 aE)(c_is_clock:Cl P w K mg base 4 "is_clock" 1 cR)(B:Bl mg)(C:Cs mg):Cl P w K mg base 5 "are_clocks" 1 cX:=
 bB F lV rfl λf cdv A outer s H E hr xe=>(au (aF (da (aS c_is_long hr (ae (ad 0) (ae ai (ae (oQ C.MOST_CLOCKS) af)))) (dB (cz (lE rfl) B.b_all boot_all (ae (fh (N':=["part"]) (src:=[none]) rfl (LcScope.by (N:=["thing"]) (names:=(ah fL).names) rfl rfl rfl (by decide+kernel)) (bR (ad 0)) (λ_ _ _ _ _=>⟨(aj 0 (show List.Nodup (["part"]:List Str)by decide+kernel)),cm,(aS c_is_clock hr (ae (ad 0) af))⟩)) af))))))
abbrev jN:Stmt:=top 23
theorem pj:aA ["clocks","thing"] ["clocks","thing"] (ah jN):=⟨rfl,rfl,rfl,by decide+kernel,rfl,by decide+kernel,by decide+kernel⟩
theorem pM (F:iy K mg "is_event" jN ["clocks","thing"])(c_is_within:Cl P w K mg base 2 "is_within" 3 aQ)(c_is_long:Cl P w K mg base 1 "is_long" 3 aE)(B:Bl mg):Cl P w K mg base 3 "is_event" 2 cQ:=
 bB F pj rfl λf cdv A outer s H E hr xe=>(ak (dq (jJ (iI (gf (gd (aS c_is_long hr (ae (ad 1) (ae ai (ae ai af)))))) (g8 (gf (gd (aS c_is_within hr (ae (aP (ad 1) ai) (ae ai (ae (al cv (cz cV B.b_len boot_len (ae (ad 0) af)) ai) af))))))))) (au (aF gD)) cu) (au (aF (aS c_is_within hr (ae (aP (ad 1) ai) (ae ai (ae (al cv (cz cV B.b_len boot_len (ae (aP (aP (ad 0) (aP (ad 1) ai)) ai) af)) ai) af)))))))
abbrev jO:Stmt:=top 24
theorem pk:aA ["least","most"] ["least","most"] (ah jO):=⟨rfl,rfl,rfl,by decide+kernel,rfl,by decide+kernel,by decide+kernel⟩
theorem pO (F:iy K mg "is_delay" jO ["least","most"])(c_is_within:Cl P w K mg base 2 "is_within" 3 aQ)(C:Cs mg):Cl P w K mg base 3 "is_delay" 2 du:=
 bB F pk rfl λf cdv A outer s H E hr xe=>(au (aF (da (aS c_is_within hr (ae (ad 0) (ae ai (ae (oQ C.LONGEST) af)))) (dB (BO (gC vB (ad 1) cZ) (dB (aS c_is_within hr (ae (ad 1) (ae (ad 0) (ae (oQ C.LONGEST) af))))))))))
abbrev i7:Stmt:=top 25
theorem nF:aA ["clocks","thing"] ["clocks","thing"] (ah i7):=⟨rfl,rfl,rfl,by decide+kernel,rfl,by decide+kernel,by decide+kernel⟩
theorem nV (F:iy K mg "is_letter" i7 ["clocks","thing"])(c_is_event:Cl P w K mg base 3 "is_event" 2 cQ)(c_is_long:Cl P w K mg base 1 "is_long" 3 aE)(c_is_delay:Cl P w K mg base 3 "is_delay" 2 du):Cl P w K mg base 4 "is_letter" 2 bA:=
 bB F nF rfl λf cdv A outer s H E hr xe=>(ak (dq (jJ (iI (gf (gd (aS c_is_long hr (ae (ad 1) (ae ai (ae ai af)))))) (g8 (gf (gd (aS c_is_delay hr (ae (aP (ad 1) ai) (ae (aP (ad 1) ai) af)))))))) (au (aF gD)) cu) (au (aF (da (aS c_is_event hr (ae (ad 0) (ae (aP (ad 1) ai) af))) (da (aS c_is_event hr (ae (ad 0) (ae (aP (ad 1) ai) af))) (dB (gC (iC (ix hr)) (aP (ad 1) ai) (aP (ad 1) ai))))))))
abbrev fx:Stmt:=top 26
theorem kM:aA ["clocks","thing"] ["clocks","thing"] (ah fx):=⟨rfl,rfl,rfl,by decide+kernel,rfl,by decide+kernel,by decide+kernel⟩
theorem kS (F:iy K mg "are_letters" fx ["clocks","thing"])(c_is_long:Cl P w K mg base 1 "is_long" 3 aE)(c_is_letter:Cl P w K mg base 4 "is_letter" 2 bA)(B:Bl mg)(C:Cs mg):Cl P w K mg base 5 "are_letters" 2 cE:=
 bB F kM rfl λf cdv A outer s H E hr xe=>(au (aF (da (aS c_is_long hr (ae (ad 1) (ae ai (ae (oQ C.MOST_LETTERS) af)))) (dB (cz (lE rfl) B.b_all boot_all (ae (fh (N':=["part","clocks"]) (src:=[none,some 0]) rfl (LcScope.by (N:=["clocks","thing"]) (names:=(ah fx).names) rfl rfl rfl (by decide+kernel)) (bR (ad 1)) (λ_ _ _ _ _=>⟨(aj 0 (show List.Nodup (["part","clocks"]:List Str)by decide+kernel)),cm,(aS c_is_letter hr (ae (ad 1) (ae (ad 0) af)))⟩)) af))))))
abbrev i6:Stmt:=top 27
theorem nE:aA ["thing"] ["thing"] (ah i6):=⟨rfl,rfl,rfl,by decide+kernel,rfl,by decide+kernel,by decide+kernel⟩
theorem nU (F:iy K mg "is_record" i6 ["thing"])(c_is_long:Cl P w K mg base 1 "is_long" 3 aE)(c_are_clocks:Cl P w K mg base 5 "are_clocks" 1 cX)(c_are_letters:Cl P w K mg base 5 "are_letters" 2 cE):Cl P w K mg base 6 "is_record" 1 cP:=
 bB F nE rfl λf cdv A outer s H E hr xe=>(au (aF (da (aS c_is_long hr (ae (ad 0) (ae ai (ae ai af)))) (da (aS c_are_clocks hr (ae (aP (ad 0) ai) af)) (dB (aS c_are_letters hr (ae (aP (ad 0) ai) (ae (aP (ad 0) ai) af))))))))
abbrev gG:Stmt:=top 28
theorem kL:aA ["thing"] ["thing"] (ah gG):=⟨rfl,rfl,rfl,by decide+kernel,rfl,by decide+kernel,by decide+kernel⟩
theorem kR (F:iy K mg "need_record" gG ["thing"])(c_is_record:Cl P w K mg base 6 "is_record" 1 cP){C_NoRecord C_NoEvent C_NoNumber C_NoWorld C_Barred C_Nothing C_ClockError:Addr}(S:Xs K mg C_NoRecord C_NoEvent C_NoNumber C_NoWorld C_Barred C_Nothing C_ClockError):Cl P w K mg base 7 "need_record" 1 ca:=
 bB F kL rfl λf cdv A outer s H E hr xe=>(au (dq (gf (gd (aS c_is_record hr (ae (ad 0) af)))) (au (tj S.o_NoRecord S.m_NoRecord)) cu))
abbrev jv:Stmt:=top 29
theorem sc_events:aA ["record","told","number","clock"] ["record"] (ah jv):=⟨rfl,rfl,rfl,by decide+kernel,rfl,by decide+kernel,by decide+kernel⟩
theorem tJ (F:iy K mg "events" jv ["record"])(c_need_record:Cl P w K mg base 7 "need_record" 1 ca)(B:Bl mg):Cl P w K mg base 8 "events" 1 ee:=
 bB F sc_events rfl λf cdv A outer s H E hr xe=>(by(refine @ak _ _ _ _ _ ?_ ?_;(focus exact(oP (aS c_need_record hr (ae (ad 0) af))));refine @ak _ _ _ _ _ ?_ ?_;(focus exact(gA 1 sc_events.nd af));refine @ak _ _ _ _ _ ?_ ?_;(focus exact(bQ rfl (fg B.b_enumerate (ae (aP (ad 0) ai) af)) (dA rfl (aJ (aj 2 sc_events.nd) (aJ (aj 3 sc_events.nd) cN))) (au (nr 1 (fh (N':=["k","number"]) (src:=[none,some 2]) rfl (LcScope.by (N:=["record","told","number","clock"]) (names:=(ah jv).names) rfl rfl rfl (by decide+kernel)) (bZ B.b_range (ae (cz cV B.b_len boot_len (ae (aP (ad 3) ai) af)) af)) (λ_ _ _ _ _=>⟨(aj 0 (show List.Nodup (["k","number"]:List Str)by decide+kernel)),cm,(bp (ae (ad 1) (ae (ad 0) af)))⟩))))));exact au (g9 1 (aF (ad 1)))))
abbrev gj:Stmt:=top 34
theorem sc_are_times:aA ["record","thing","many"] ["record","thing"] (ah gj):=⟨rfl,rfl,rfl,by decide+kernel,rfl,by decide+kernel,by decide+kernel⟩
theorem nW (F:iy K mg "are_times" gj ["record","thing"])(c_events:Cl P w K mg base 8 "events" 1 ee)(c_is_long:Cl P w K mg base 1 "is_long" 3 aE)(c_is_whole:Cl P w K mg base 1 "is_whole" 1 dO)(B:Bl mg):Cl P w K mg base 9 "are_times" 2 aR:=
 bB F sc_are_times rfl λf cdv A outer s H E hr xe=>(ak (aL (cz cV B.b_len boot_len (ae (aS c_events hr (ae (ad 0) af)) af)) (aj 2 sc_are_times.nd)) (au (aF (da (aS c_is_long hr (ae (ad 1) (ae (ad 2) (ae (ad 2) af)))) (dB (cz (lE rfl) B.b_all boot_all (ae (fh (N':=["part"]) (src:=[none]) rfl (LcScope.by (N:=["record","thing","many"]) (names:=(ah gj).names) rfl rfl rfl (by decide+kernel)) (bR (ad 1)) (λ_ _ _ _ _=>⟨(aj 0 (show List.Nodup (["part"]:List Str)by decide+kernel)),cm,(aS c_is_whole hr (ae (ad 0) af))⟩)) af)))))))
abbrev fw:Stmt:=top 31
theorem sc_bounds_of_clock:aA ["number","clock","readings","told","k","first","second","steps"] ["number","clock"] (ah fw):=⟨rfl,rfl,rfl,by decide+kernel,rfl,by decide+kernel,by decide+kernel⟩
theorem iM (F:iy K mg "bounds_of_clock" fw ["number","clock"])(B:Bl mg):Cl P w K mg base 1 "bounds_of_clock" 2 bU:=
 bB F sc_bounds_of_clock rfl λf cdv A outer s H E hr xe=>(by(refine @ak _ _ _ _ _ ?_ ?_;(focus exact(aL (aP (ad 1) ai) (aj 2 sc_bounds_of_clock.nd)));refine @ak _ _ _ _ _ ?_ ?_;(focus exact(gA 3 sc_bounds_of_clock.nd af));refine @ak _ _ _ _ _ ?_ ?_;(focus exact(bQ rfl (bZ B.b_range (ae (al cv (cz cV B.b_len boot_len (ae (ad 2) af)) ai) af)) (aj 4 sc_bounds_of_clock.nd) (by(refine @ak _ _ _ _ _ ?_ ?_;(focus exact(aL (bp (ae (ad 0) (ae (ad 4) af))) (aj 5 sc_bounds_of_clock.nd)));refine @ak _ _ _ _ _ ?_ ?_;(focus exact(aL (bp (ae (ad 0) (ae (al aG (ad 4) ai) af))) (aj 6 sc_bounds_of_clock.nd)));refine @ak _ _ _ _ _ ?_ ?_;(focus exact(aL (al cv (aP (ad 2) (al aG (ad 4) ai)) (aP (ad 2) (ad 4))) (aj 7 sc_bounds_of_clock.nd)));refine @ak _ _ _ _ _ ?_ ?_;(focus exact(gg 3 (bp (ae (ad 5) (ae (ad 6) (ae (al cJ (ad 7) (aP (ad 1) ai)) af))))));exact au (gg 3 (bp (ae (ad 6) (ae (ad 5) (ae (al cJ (qE (ad 7)) (aP (ad 1) ai)) af)))))))));exact au (g9 3 (aF (ad 3)))))
abbrev eK:Stmt:=top 32
theorem sc_bounds_of_letter:aA ["letter","told"] ["letter"] (ah eK):=⟨rfl,rfl,rfl,by decide+kernel,rfl,by decide+kernel,by decide+kernel⟩
theorem iu (F:iy K mg "bounds_of_letter" eK ["letter"]):Cl P w K mg base 1 "bounds_of_letter" 1 bH:=
 bB F sc_bounds_of_letter rfl λf cdv A outer s H E hr xe=>(by(refine @ak _ _ _ _ _ ?_ ?_;(focus exact(gA 1 sc_bounds_of_letter.nd (ae (bp (ae (aP (ad 0) ai) (ae (aP (ad 0) ai) (ae (qE (aP (ad 0) ai)) af)))) af)));refine @ak _ _ _ _ _ ?_ ?_;(focus exact(dq (aW d8 (aP (ad 0) ai) cZ) (au (gg 1 (bp (ae (aP (ad 0) ai) (ae (aP (ad 0) ai) (ae (aP (ad 0) ai) af)))))) cu));exact au (g9 1 (aF (ad 1)))))
abbrev mC:Stmt:=top 33
theorem sc_bounds:aA ["record","told","number","clock","letter"] ["record"] (ah mC):=⟨rfl,rfl,rfl,by decide+kernel,rfl,by decide+kernel,by decide+kernel⟩
theorem tL (F:iy K mg "bounds" mC ["record"])(c_need_record:Cl P w K mg base 7 "need_record" 1 ca)(c_bounds_of_clock:Cl P w K mg base 1 "bounds_of_clock" 2 bU)(c_bounds_of_letter:Cl P w K mg base 1 "bounds_of_letter" 1 bH)(B:Bl mg):Cl P w K mg base 8 "bounds" 1 gP:=
 bB F sc_bounds rfl λf cdv A outer s H E hr xe=>(by(refine @ak _ _ _ _ _ ?_ ?_;(focus exact(oP (aS c_need_record hr (ae (ad 0) af))));refine @ak _ _ _ _ _ ?_ ?_;(focus exact(gA 1 sc_bounds.nd af));refine @ak _ _ _ _ _ ?_ ?_;(focus exact(bQ rfl (fg B.b_enumerate (ae (aP (ad 0) ai) af)) (dA rfl (aJ (aj 2 sc_bounds.nd) (aJ (aj 3 sc_bounds.nd) cN))) (au (nr 1 (aS c_bounds_of_clock hr (ae (ad 2) (ae (ad 3) af)))))));refine @ak _ _ _ _ _ ?_ ?_;(focus exact(bQ rfl (bR (aP (ad 0) ai)) (aj 4 sc_bounds.nd) (au (nr 1 (aS c_bounds_of_letter hr (ae (ad 4) af))))));exact au (g9 1 (aF (ad 1)))))
abbrev o9:Stmt:=top 35
theorem uT:aA ["bound","time_of"] ["bound","time_of"] (ah o9):=⟨rfl,rfl,rfl,by decide+kernel,rfl,by decide+kernel,by decide+kernel⟩
theorem vG (F:iy K mg "holds" o9 ["bound","time_of"]):Cl P w K mg base 1 "holds" 2 kh:=
 bB F uT rfl λf cdv A outer s H E hr xe=>(au (aF (gC pJ (al cv (aY (gz hr) (ad 1) (aP (ad 0) ai)) (aY (gz hr) (ad 1) (aP (ad 0) ai))) (aP (ad 0) ai))))
abbrev jw:Stmt:=top 36
theorem sc_broken:aA ["record","times","time_of"] ["record","times"] (ah jw):=⟨rfl,rfl,rfl,by decide+kernel,rfl,by decide+kernel,by decide+kernel⟩
theorem tK (F:iy K mg "broken" jw ["record","times"])(c_events:Cl P w K mg base 8 "events" 1 ee)(c_bounds:Cl P w K mg base 8 "bounds" 1 gP)(c_holds:Cl P w K mg base 1 "holds" 2 kh)(B:Bl mg):Cl P w K mg base 9 "broken" 2 bt:=
 bB F sc_broken rfl λf cdv A outer s H E hr xe=>(ak (aL (rK (Dm hr) rfl B.b_dict B.b_zip (ae (aS c_events hr (ae (ad 0) af)) (ae (ad 1) af))) (aj 2 sc_broken.nd)) (au (aF (fh (N':=["number","bound","time_of"]) (src:=[none,none,some 2]) rfl (LcScope.by (N:=["record","times","time_of"]) (names:=(ah jw).names) rfl rfl rfl (by decide+kernel)) (fg B.b_enumerate (ae (aS c_bounds hr (ae (ad 0) af)) af)) (λ_ _ _ _ _=>⟨(dA rfl (aJ (aj 0 (show List.Nodup (["number","bound","time_of"]:List Str)by decide+kernel)) (aJ (aj 1 (show List.Nodup (["number","bound","time_of"]:List Str)by decide+kernel)) cN))),(gB (gf (gd (aS c_holds hr (ae (ad 1) (ae (ad 2) af)))))),(ad 0)⟩)))))
abbrev jL:Stmt:=top 37
theorem pf:aA ["record","thing"] ["record","thing"] (ah jL):=⟨rfl,rfl,rfl,by decide+kernel,rfl,by decide+kernel,by decide+kernel⟩
theorem pK (F:iy K mg "is_world" jL ["record","thing"])(c_are_times:Cl P w K mg base 9 "are_times" 2 aR)(c_broken:Cl P w K mg base 9 "broken" 2 bt):Cl P w K mg base 10 "is_world" 2 aU:=
 bB F pf rfl λf cdv A outer s H E hr xe=>(au (aF (da (aS c_are_times hr (ae (ad 0) (ae (ad 1) af))) (dB (gC (mF (ix hr)) (aS c_broken hr (ae (ad 0) (ae (ad 1) af))) (dC af))))))
abbrev i8:Stmt:=top 50
theorem sc__law_told:aA ["_law_ask","_law_record_here","_law_thing","_law_e"] ["_law_ask","_law_record_here","_law_thing"] (ah i8):=⟨rfl,rfl,rfl,by decide+kernel,rfl,by decide+kernel,by decide+kernel⟩
theorem nX (F:iy K mg "_law_told" i8 ["_law_ask","_law_record_here","_law_thing"])(c_are_times:Cl P w K mg base 9 "are_times" 2 aR)(c_is_world:Cl P w K mg base 10 "is_world" 2 aU)(c_broken:Cl P w K mg base 9 "broken" 2 bt)(B:Bl mg){C_NoRecord C_NoEvent C_NoNumber C_NoWorld C_Barred C_Nothing C_ClockError:Addr}(S:Xs K mg C_NoRecord C_NoEvent C_NoNumber C_NoWorld C_Barred C_Nothing C_ClockError){f_r:Addr}{fd_r:FuncData}(Fn__law_refused:Fn K mg "_law_refused" bw ["_law_e"] f_r fd_r):Cl P w K mg base 11 "_law_told" 3 bV:=
 bB F sc__law_told rfl λf cdv A outer s H E hr xe=>(au (w8 3 sc__law_told.nd S.m_ClockError S.o_ClockError (λ_ _=>(au (aF (xb (Aa c_are_times hr (Aa c_is_world hr (Aa c_broken hr selN))) (ad 0) (ae (ad 1) (ae (ad 2) af)))))) (uO rfl (Or.inl rfl) Fn__law_refused S B.b_isinstance B.b_ValueError (B3 hr)) (hcl:=λ_ _ z=>by cases z)))
abbrev iJ:Stmt:=top 51
theorem sc_law:aA ["_law_script","_law_record_here","_law_places","_law_row","_law_table_here","_law_times","_law_at","_law_some","_law_when","_law_due","_law_odd","_law_thing"] ["_law_script"] (ah iJ):=⟨rfl,rfl,rfl,by decide+kernel,rfl,by decide+kernel,by decide+kernel⟩
theorem AX {f:Addr}{fd:FuncData}(Fn_law:Fn K mg "law" iJ ["_law_script"] f fd)(c__law_record:Cl P w K mg base 4 "_law_record" 3 dU)(c__law_events:Cl P w K mg base 1 "_law_events" 1 cb)(c__law_bounds:Cl P w K mg base 1 "_law_bounds" 1 dW)(c__law_table:Cl P w K mg base 1 "_law_table" 2 eU)(c__law_drawn:Cl P w K mg base 2 "_law_drawn" 3 ao)(c__law_drawn_world:Cl P w K mg base 3 "_law_drawn_world" 5 bJ)(c__law_told:Cl P w K mg base 11 "_law_told" 3 bV)(c_broken:Cl P w K mg base 9 "broken" 2 bt)(c_is_world:Cl P w K mg base 10 "is_world" 2 aU)(c_are_times:Cl P w K mg base 9 "are_times" 2 aR)(B:Bl mg):wX P w K mg base 12 f fd ["_law_script"] 1 m_law:=
 rL Fn_law.fn sc_law rfl λcdv A outer s H E hr xe=>(by(refine @ak _ _ _ _ _ ?_ ?_;(focus exact(aL (aS c__law_record hr (ae (ad 0) (ae ai (ae ai af)))) (aj 1 sc_law.nd)));refine @ak _ _ _ _ _ ?_ ?_;(focus exact(aL (aS c__law_events hr (ae (aP (ad 1) ai) af)) (aj 2 sc_law.nd)));refine @ak _ _ _ _ _ ?_ ?_;(focus exact(aL (aS c__law_bounds hr (ae (ad 1) af)) (aj 3 sc_law.nd)));refine @ak _ _ _ _ _ ?_ ?_;(focus exact(aL (aS c__law_table hr (ae (ad 2) (ae (ad 3) af))) (aj 4 sc_law.nd)));refine @ak _ _ _ _ _ ?_ ?_;(focus exact(aL (mq jt B.b_tuple dh (ae (fh (N':=["_law_k","_law_script"]) (src:=[none,some 0]) rfl (LcScope.by (N:=["_law_script","_law_record_here","_law_places","_law_row","_law_table_here","_law_times","_law_at","_law_some","_law_when","_law_due","_law_odd","_law_thing"]) (names:=(ah iJ).names) rfl rfl rfl (by decide+kernel)) (bZ B.b_range (ae (cz cV B.b_len boot_len (ae (ad 2) af)) af)) (λ_ _ _ _ _=>⟨(aj 0 (show List.Nodup (["_law_k","_law_script"]:List Str)by decide+kernel)),cm,(al cv (aS c__law_drawn hr (ae (ad 1) (ae (al aG ai (ad 0)) (ae ai af)))) ai)⟩)) af)) (aj 5 sc_law.nd)));refine @ak _ _ _ _ _ ?_ ?_;(focus exact(dq (jJ (rH (aW d8 (ad 4) cZ) (oO (aW zx (aS c__law_drawn hr (ae (ad 0) (ae ai (ae ai af)))) ai)))) (ak (aL (aS c__law_drawn_world hr (ae (ad 0) (ae ai (ae (ad 2) (ae (ad 3) (ae (ad 4) af)))))) (aj 5 sc_law.nd)) (au (dq (jJ (iI (aW (iC (ix hr)) (aS c_broken hr (ae (ad 1) (ae (ad 5) af))) (dC af)) (g8 (aW (iC (ix hr)) (aS c_is_world hr (ae (ad 1) (ae (ad 5) af))) gD)))) (au (aF gD)) cu))) cu));refine @ak _ _ _ _ _ ?_ ?_;(focus exact(aL (aS c__law_drawn hr (ae (ad 0) (ae ai (ae (cz cV B.b_len boot_len (ae (ad 2) af)) af)))) (aj 6 sc_law.nd)));refine @ak _ _ _ _ _ ?_ ?_;(focus exact(bQ rfl (bR (bp (ae (ad 5) (ae (al aG (al aG (fT (ad 5) fS (fR (ad 6))) (bp (ae (al cv (al aG (aP (ad 5) (ad 6)) (aS c__law_drawn hr (ae (ad 0) (ae ai (ae ai af))))) ai) af))) (fT (ad 5) (fR (al aG (ad 6) ai)) fS)) af)))) (aj 7 sc_law.nd) (by(refine @ak _ _ _ _ _ ?_ ?_;(focus exact(aL (rK (Dm hr) rfl B.b_dict B.b_zip (ae (ad 2) (ae (ad 7) af))) (aj 8 sc_law.nd)));refine @ak _ _ _ _ _ ?_ ?_;(focus exact(zN 9 (N':=["_law_k","_law_one","_law_other","_law_most","_law_when"]) (src:=[none,none,none,none,some 8]) rfl (LcScope.by (N:=["_law_script","_law_record_here","_law_places","_law_row","_law_table_here","_law_times","_law_at","_law_some","_law_when","_law_due","_law_odd","_law_thing"]) (names:=(ah iJ).names) rfl rfl rfl (by decide+kernel)) (fg B.b_enumerate (ae (ad 3) af)) (λ_ _ _ _ _=>⟨(dA rfl (aJ (aj 0 (show List.Nodup (["_law_k","_law_one","_law_other","_law_most","_law_when"]:List Str)by decide+kernel)) (aJ (dA rfl (aJ (aj 1 (show List.Nodup (["_law_k","_law_one","_law_other","_law_most","_law_when"]:List Str)by decide+kernel)) (aJ (aj 2 (show List.Nodup (["_law_k","_law_one","_law_other","_law_most","_law_when"]:List Str)by decide+kernel)) (aJ (aj 3 (show List.Nodup (["_law_k","_law_one","_law_other","_law_most","_law_when"]:List Str)by decide+kernel)) cN)))) cN))),(gB (aW zx (al cv (aY (gz hr) (ad 4) (ad 2)) (aY (gz hr) (ad 4) (ad 1))) (ad 3))),(ad 0)⟩) sc_law.nd));exact au (dq (jJ (iI (aW (iC (ix hr)) (aS c_broken hr (ae (ad 1) (ae (ad 7) af))) (ad 9)) (iI (aW (iC (ix hr)) (aS c_is_world hr (ae (ad 1) (ae (ad 7) af))) (gC (mF (ix hr)) (ad 9) (dC af))) (g8 (aW (iC (ix hr)) (aS c_are_times hr (ae (ad 1) (ae (ad 7) af))) gD))))) (au (aF gD)) cu)))));refine @ak _ _ _ _ _ ?_ ?_;(focus exact(aL (dC (ae cZ (ae (al aG (ad 5) (bp (ae ai af))) (ae (fT (ad 5) (fR ai) fS) (ae (mq yR B.b_list oA (ae (ad 5) af)) af))))) (aj 10 sc_law.nd)));refine @ak _ _ _ _ _ ?_ ?_;(focus exact(aL (al aG (ad 10) (fh (N':=["_law_bad","_law_times","_law_at"]) (src:=[none,some 5,some 6]) rfl (LcScope.by (N:=["_law_script","_law_record_here","_law_places","_law_row","_law_table_here","_law_times","_law_at","_law_some","_law_when","_law_due","_law_odd","_law_thing"]) (names:=(ah iJ).names) rfl rfl rfl (by decide+kernel)) (bR (bp (ae gD (ae cZ af)))) (λ_ _ _ _ _=>⟨(aj 0 (show List.Nodup (["_law_bad","_law_times","_law_at"]:List Str)by decide+kernel)),cm,(al aG (al aG (fT (ad 1) fS (fR (ad 2))) (bp (ae (ad 0) af))) (fT (ad 1) (fR (al aG (ad 2) ai)) fS))⟩))) (aj 10 sc_law.nd)));refine @ak _ _ _ _ _ ?_ ?_;(focus exact(aL (aP (ad 10) (aS c__law_drawn hr (ae (ad 0) (ae ai (ae ai af))))) (aj 11 sc_law.nd)));refine @ak _ _ _ _ _ ?_ ?_;(focus exact(dq (aW (iC (ix hr)) (fh (N':=["_law_ask","_law_record_here","_law_thing"]) (src:=[none,some 1,some 11]) rfl (LcScope.by (N:=["_law_script","_law_record_here","_law_places","_law_row","_law_table_here","_law_times","_law_at","_law_some","_law_when","_law_due","_law_odd","_law_thing"]) (names:=(ah iJ).names) rfl rfl rfl (by decide+kernel)) (bZ B.b_range (ae ai af)) (λ_ _ _ _ _=>⟨(aj 0 (show List.Nodup (["_law_ask","_law_record_here","_law_thing"]:List Str)by decide+kernel)),cm,(aS c__law_told hr (ae (ad 0) (ae (ad 1) (ae (ad 2) af))))⟩)) (dC (ae gD (ae gD af)))) (au (aF gD)) cu));exact au (aF (gC (mF (ix hr)) (fh (N':=["_law_ask","_law_record_here","_law_thing"]) (src:=[none,some 1,some 11]) rfl (LcScope.by (N:=["_law_script","_law_record_here","_law_places","_law_row","_law_table_here","_law_times","_law_at","_law_some","_law_when","_law_due","_law_odd","_law_thing"]) (names:=(ah iJ).names) rfl rfl rfl (by decide+kernel)) (bZ B.b_range (ae ai af)) (λ_ _ _ _ _=>⟨(aj 0 (show List.Nodup (["_law_ask","_law_record_here","_law_thing"]:List Str)by decide+kernel)),cm,(aS c__law_told hr (ae (ad 0) (ae (fT (ad 1) fS (fR ai)) (ae (ad 2) af))))⟩)) (al cJ (dC (ae (bp (ae zP (ae ai af))) af)) ai)))))
end
@[elab_as_elim] theorem fY {α:Type} {p:List α->Prop} (h:∀a0,p [a0]):∀us:List α,us.length=1->p us
 | [a0],_=>h a0
@[elab_as_elim] theorem fX {α:Type} {p:List α->Prop} (h:∀a0 a1,p [a0,a1]):∀us:List α,us.length=2->p us
 | [a0,a1],_=>h a0 a1
@[elab_as_elim] theorem mL {α:Type} {p:List α->Prop} (h:∀a0 a1 a2,p [a0,a1,a2]):∀us:List α,us.length=3->p us
 | [a0,a1,a2],_=>h a0 a1 a2
@[elab_as_elim] theorem CJ {α:Type} {p:List α->Prop} (h:∀a0 a1 a2 a3 a4,p [a0,a1,a2,a3,a4]):∀us:List α,us.length=5->p us
 | [a0,a1,a2,a3,a4],_=>h a0 a1 a2 a3 a4
def asks:uC:=⟨([("_law_cell",39),("_law_drawn",40),("_law_events",43),("_law_letter",42),("_law_clock",41),("_law_record",44),("_law_bounds",45),("_law_table",46),("_law_drawn_world",48),("is_long",17),("is_whole",15),("is_within",16),("is_pace",20),("rises",18),("are_readings",19)]:List (Str×Nat))++([("is_clock",21),("are_clocks",22),("is_event",23),("is_delay",24),("is_letter",25),("are_letters",26),("is_record",27),("need_record",28),("events",29),("are_times",34),("bounds_of_clock",31),("bounds_of_letter",32),("bounds",33),("holds",35),("broken",36)]:List (Str×Nat))++([("is_world",37),("_law_told",50),("law",51),("_law_refused",49)]:List (Str×Nat)),(["ValueError","all","bool","dict","enumerate","int","isinstance","len","list","max","min","range","tuple","zip"]:List Str),[("MOST_CLOCKS",4),("MOST_LETTERS",8),("MOST_READINGS",4),("LAST_READING",99),("SLOWEST",9),("LONGEST",999)],["ClockError","NoRecord","NoEvent","NoNumber","NoWorld","Barred","Nothing"]⟩
theorem all_ok {l:PySem.W.OpenLaw}{w:World}{K:PySem.W.Frag}{h:Heap}{mg:Str->Option Value}{fa:Addr}(X:K.In h)(e:l9 asks K=lS asks top)(G:h.Ns mainGlobals mg)(hfa:mg "law" =some (.ref fa)) :
  ∃fd:FuncData,(∀(s:Shared) (v:Value),BindsTo s fd ⟨[v],[]⟩ [("_law_script",v)])/\∀base:Heap,K.In base->base.Ns mainGlobals mg->oH l.prog w K mg base CX0 12 fa fd ["_law_script"] (spP K 1 m_law):=by
 have B:Bl mg:=⟨dD 0 X G e rfl,dD 1 X G e rfl,dD 2 X G e rfl,dD 3 X G e rfl,dD 4 X G e rfl,dD 5 X G e rfl,dD 6 X G e rfl,dD 7 X G e rfl,dD 8 X G e rfl,dD 9 X G e rfl,dD 10 X G e rfl,dD 11 X G e rfl,dD 12 X G e rfl,dD 13 X G e rfl⟩
 have C:Cs mg:=⟨mP 0 X G e rfl,mP 1 X G e rfl,mP 2 X G e rfl,mP 3 X G e rfl,mP 4 X G e rfl,mP 5 X G e rfl⟩;obtain⟨C_ClockError,ls,xD,xl,nd⟩:=AY (CW e);obtain⟨C_NoRecord,ls0,x_NoRecord,rfl,xl0⟩:=ff xl;obtain⟨C_NoEvent,ls1,x_NoEvent,rfl,xl1⟩:=ff xl0;obtain⟨C_NoNumber,ls2,x_NoNumber,rfl,xl2⟩:=ff xl1;obtain⟨C_NoWorld,ls3,x_NoWorld,rfl,xl3⟩:=ff xl2;obtain⟨C_Barred,ls4,x_Barred,rfl,xl4⟩:=ff xl3;obtain⟨C_Nothing,ls5,x_Nothing,rfl,xl5⟩:=ff xl4
 cases wT xl5
 have S:Xs K mg C_NoRecord C_NoEvent C_NoNumber C_NoWorld C_Barred C_Nothing C_ClockError:=⟨PySem.W.mg_of X G (fO x_NoRecord).1,PySem.W.mg_of X G (fO x_NoEvent).1,PySem.W.mg_of X G (fO x_NoNumber).1,PySem.W.mg_of X G (fO x_NoWorld).1,PySem.W.mg_of X G (fO x_Barred).1,PySem.W.mg_of X G (fO x_Nothing).1,PySem.W.mg_of X G (fO xD).1,BL x_NoRecord xD,BL x_NoEvent xD,BL x_NoNumber xD,BL x_NoWorld xD,BL x_Barred xD,BL x_Nothing xD,ox0 xD,nd⟩
 have eF:=df (n:="_law_cell") (i:=39) (ps:=["_law_script","_law_k"]) 0 X G e rfl λ_ _ _ _ _ _ us hl=>fX (λ_ _=>rfl) us hl
 have dG:=df (n:="_law_drawn") (i:=40) (ps:=["_law_script","_law_k","_law_many"]) 1 X G e rfl λ_ _ _ _ _ _ us hl=>mL (λ_ _ _=>rfl) us hl
 have dZ:=df (n:="_law_events") (i:=43) (ps:=["_law_clocks"]) 2 X G e rfl λ_ _ _ _ _ _ us hl=>fY (λ_=>rfl) us hl
 have cg:=df (n:="_law_letter") (i:=42) (ps:=["_law_script","_law_at","_law_clocks"]) 3 X G e rfl λ_ _ _ _ _ _ us hl=>mL (λ_ _ _=>rfl) us hl
 have dH:=df (n:="_law_clock") (i:=41) (ps:=["_law_script","_law_at"]) 4 X G e rfl λ_ _ _ _ _ _ us hl=>fX (λ_ _=>rfl) us hl
 have dj:=df (n:="_law_record") (i:=44) (ps:=["_law_script","_law_at","_law_most"]) 5 X G e rfl λ_ _ _ _ _ _ us hl=>mL (λ_ _ _=>rfl) us hl
 have dk:=df (n:="_law_bounds") (i:=45) (ps:=["_law_record_here"]) 6 X G e rfl λ_ _ _ _ _ _ us hl=>fY (λ_=>rfl) us hl
 have dF:=df (n:="_law_table") (i:=46) (ps:=["_law_places","_law_row"]) 7 X G e rfl λ_ _ _ _ _ _ us hl=>fX (λ_ _=>rfl) us hl
 have bL:=df (n:="_law_drawn_world") (i:=48) (ps:=["_law_script","_law_at","_law_places","_law_row","_law_table_here"]) 8 X G e rfl λ_ _ _ _ _ _ us hl=>CJ (λ_ _ _ _ _=>rfl) us hl
 have ir:=df (n:="is_long") (i:=17) (ps:=["thing","least","most"]) 9 X G e rfl λ_ _ _ _ _ _ us hl=>mL (λ_ _ _=>rfl) us hl
 have iZ:=df (n:="is_whole") (i:=15) (ps:=["thing"]) 10 X G e rfl λ_ _ _ _ _ _ us hl=>fY (λ_=>rfl) us hl
 have eE:=df (n:="is_within") (i:=16) (ps:=["thing","least","most"]) 11 X G e rfl λ_ _ _ _ _ _ us hl=>mL (λ_ _ _=>rfl) us hl
 have gc:=df (n:="is_pace") (i:=20) (ps:=["slow","fast"]) 12 X G e rfl λ_ _ _ _ _ _ us hl=>fX (λ_ _=>rfl) us hl
 have kx:=df (n:="rises") (i:=18) (ps:=["numbers"]) 13 X G e rfl λ_ _ _ _ _ _ us hl=>fY (λ_=>rfl) us hl
 have cp:=df (n:="are_readings") (i:=19) (ps:=["thing"]) 14 X G e rfl λ_ _ _ _ _ _ us hl=>fY (λ_=>rfl) us hl
 have dR:=df (n:="is_clock") (i:=21) (ps:=["thing"]) 15 X G e rfl λ_ _ _ _ _ _ us hl=>fY (λ_=>rfl) us hl
 have dE:=df (n:="are_clocks") (i:=22) (ps:=["thing"]) 16 X G e rfl λ_ _ _ _ _ _ us hl=>fY (λ_=>rfl) us hl
 have dP:=df (n:="is_event") (i:=23) (ps:=["clocks","thing"]) 17 X G e rfl λ_ _ _ _ _ _ us hl=>fX (λ_ _=>rfl) us hl
 have dQ:=df (n:="is_delay") (i:=24) (ps:=["least","most"]) 18 X G e rfl λ_ _ _ _ _ _ us hl=>fX (λ_ _=>rfl) us hl
 have cr:=df (n:="is_letter") (i:=25) (ps:=["clocks","thing"]) 19 X G e rfl λ_ _ _ _ _ _ us hl=>fX (λ_ _=>rfl) us hl
 have di:=df (n:="are_letters") (i:=26) (ps:=["clocks","thing"]) 20 X G e rfl λ_ _ _ _ _ _ us hl=>fX (λ_ _=>rfl) us hl
 have dw:=df (n:="is_record") (i:=27) (ps:=["thing"]) 21 X G e rfl λ_ _ _ _ _ _ us hl=>fY (λ_=>rfl) us hl
 have cf:=df (n:="need_record") (i:=28) (ps:=["thing"]) 22 X G e rfl λ_ _ _ _ _ _ us hl=>fY (λ_=>rfl) us hl
 have fF:=df (n:="events") (i:=29) (ps:=["record"]) 23 X G e rfl λ_ _ _ _ _ _ us hl=>fY (λ_=>rfl) us hl
 have cW:=df (n:="are_times") (i:=34) (ps:=["record","thing"]) 24 X G e rfl λ_ _ _ _ _ _ us hl=>fX (λ_ _=>rfl) us hl
 have bY:=df (n:="bounds_of_clock") (i:=31) (ps:=["number","clock"]) 25 X G e rfl λ_ _ _ _ _ _ us hl=>fX (λ_ _=>rfl) us hl
 have bK:=df (n:="bounds_of_letter") (i:=32) (ps:=["letter"]) 26 X G e rfl λ_ _ _ _ _ _ us hl=>fY (λ_=>rfl) us hl
 have gY:=df (n:="bounds") (i:=33) (ps:=["record"]) 27 X G e rfl λ_ _ _ _ _ _ us hl=>fY (λ_=>rfl) us hl
 have oJ:=df (n:="holds") (i:=35) (ps:=["bound","time_of"]) 28 X G e rfl λ_ _ _ _ _ _ us hl=>fX (λ_ _=>rfl) us hl
 have fG:=df (n:="broken") (i:=36) (ps:=["record","times"]) 29 X G e rfl λ_ _ _ _ _ _ us hl=>fX (λ_ _=>rfl) us hl
 have iY:=df (n:="is_world") (i:=37) (ps:=["record","thing"]) 30 X G e rfl λ_ _ _ _ _ _ us hl=>fX (λ_ _=>rfl) us hl
 have gZ:=df (n:="_law_told") (i:=50) (ps:=["_law_ask","_law_record_here","_law_thing"]) 31 X G e rfl λ_ _ _ _ _ _ us hl=>mL (λ_ _ _=>rfl) us hl
 obtain⟨fd32,Fn_law,bnd⟩:=CS (n:="law") (i:=51) (x:="_law_script") 32 X G e rfl hfa λ_ _ _ _ _ _ _=>rfl
 obtain⟨f33,fd33,Fn__law_refused⟩:=df (n:="_law_refused") (i:=49) (ps:=["_law_e"]) 33 X G e rfl λ_ _ _ _ _ _ us hl=>fY (λ_=>rfl) us hl
 refine⟨fd32,bnd,λbase _ _=> ?_⟩
 have c__law_cell:=nY (P:=l.prog) (w:=w) (base:=base) eF B
 have c__law_drawn:=l7 (P:=l.prog) (w:=w) (base:=base) dG c__law_cell
 have c__law_events:=kX (P:=l.prog) (w:=w) (base:=base) dZ B
 have c__law_letter:=kW (P:=l.prog) (w:=w) (base:=base) cg c__law_events c__law_drawn B
 have c__law_clock:=l8 (P:=l.prog) (w:=w) (base:=base) dH c__law_drawn B
 have c__law_record:=kU (P:=l.prog) (w:=w) (base:=base) dj c__law_drawn c__law_letter c__law_clock B
 have c__law_bounds:=kY (P:=l.prog) (w:=w) (base:=base) dk B
 have c__law_table:=l5 (P:=l.prog) (w:=w) (base:=base) dF B
 have c__law_drawn_world:=iw (P:=l.prog) (w:=w) (base:=base) bL c__law_drawn B
 have c_is_long:=qS (P:=l.prog) (w:=w) (base:=base) ir B
 have c_is_whole:=pL (P:=l.prog) (w:=w) (base:=base) iZ B
 have c_is_within:=nT (P:=l.prog) (w:=w) (base:=base) eE c_is_whole
 have c_is_pace:=qR (P:=l.prog) (w:=w) (base:=base) gc c_is_within C
 have c_rises:=vF (P:=l.prog) (w:=w) (base:=base) kx B
 have c_are_readings:=jZ (P:=l.prog) (w:=w) (base:=base) cp c_is_long c_rises c_is_within B C
 have c_is_clock:=pP (P:=l.prog) (w:=w) (base:=base) dR c_is_long c_is_pace c_are_readings
 have c_are_clocks:=l0 (P:=l.prog) (w:=w) (base:=base) dE c_is_long c_is_clock B C
 have c_is_event:=pM (P:=l.prog) (w:=w) (base:=base) dP c_is_within c_is_long B
 have c_is_delay:=pO (P:=l.prog) (w:=w) (base:=base) dQ c_is_within C
 have c_is_letter:=nV (P:=l.prog) (w:=w) (base:=base) cr c_is_event c_is_long c_is_delay
 have c_are_letters:=kS (P:=l.prog) (w:=w) (base:=base) di c_is_long c_is_letter B C
 have c_is_record:=nU (P:=l.prog) (w:=w) (base:=base) dw c_is_long c_are_clocks c_are_letters
 have c_need_record:=kR (P:=l.prog) (w:=w) (base:=base) cf c_is_record S
 have c_events:=tJ (P:=l.prog) (w:=w) (base:=base) fF c_need_record B
 have c_are_times:=nW (P:=l.prog) (w:=w) (base:=base) cW c_events c_is_long c_is_whole B
 have c_bounds_of_clock:=iM (P:=l.prog) (w:=w) (base:=base) bY B
 have c_bounds_of_letter:=iu (P:=l.prog) (w:=w) (base:=base) bK
 have c_bounds:=tL (P:=l.prog) (w:=w) (base:=base) gY c_need_record c_bounds_of_clock c_bounds_of_letter B
 have c_holds:=vG (P:=l.prog) (w:=w) (base:=base) oJ
 have c_broken:=tK (P:=l.prog) (w:=w) (base:=base) fG c_events c_bounds c_holds B
 have c_is_world:=pK (P:=l.prog) (w:=w) (base:=base) iY c_are_times c_broken
 have c__law_told:=nX (P:=l.prog) (w:=w) (base:=base) gZ c_are_times c_is_world c_broken B S Fn__law_refused;exact(AX (P:=l.prog) (w:=w) (base:=base) Fn_law c__law_record c__law_events c__law_bounds c__law_table c__law_drawn c__law_drawn_world c__law_told c_broken c_is_world c_are_times B).h
def vw:Program:=PySem.W.view PySem.Challenge.pw_farclocks_k11_times [51]
def lse:List Str:=(["ClockError","NoRecord","NoEvent","NoNumber","NoWorld","Barred","Nothing","MOST_CLOCKS","MOST_LETTERS","MOST_READINGS","LAST_READING","SLOWEST","LONGEST","is_whole","is_within","is_long","rises","are_readings","is_pace","is_clock"]:List Str)++(["are_clocks","is_event","is_delay","is_letter","are_letters","is_record","need_record","events","bounds_of_clock","bounds_of_letter","bounds","are_times","holds","broken","is_world","_law_cell","_law_drawn","_law_clock","_law_letter","_law_events"]:List Str)++(["_law_record","_law_bounds","_law_table","_law_world","_law_drawn_world","_law_refused","_law_told"]:List Str)
def lhs (w:World)(h:Heap)(d:Drawn)(t:Nat)(os:OsState):=(PySem.W.topFrom treeTable PySem.Challenge.pw_farclocks_k11_times w 9000 ⟨h,⟨[]⟩,d,t,os⟩).map (λs=>(PySem.W.openSeen vw lse (importedModules PySem.Challenge.pw_farclocks_k11_times.main.body) (λ_=>true) true s,l9 asks (wr s.heap)))
def rhs (w:World):=some (PySem.W.openGood vw lse,lS asks top)
theorem lhs_r:lhs=lhs:=rfl
theorem rhs_r:rhs=rhs:=rfl
end G
namespace Tr
open PySem
mutual
def T.pl:T->Bool
 | .scr _=>false
 | .dct _ _=>false
 | .tup l=>plS l
 | .lst l=>plS l
 | _=>true
def plS:List T->Bool
 | [] =>true
 | t::l=>t.pl&&plS l
end
theorem hX:∀{l:List T} {t:T},plS l=true->t∈l->t.pl=true
 | [],_,_,h=>by cases h
 | u::l,t,h,m=>by
  unfold plS at h;rw[Bool.and_eq_true]at h;rcases List.mem_cons.mp m with rfl | m
  ·exact h.1
  ·exact hX h.2 m
mutual
theorem T.pl_nd:∀(t:T),t.pl=true->t.nd=true
 | .non,_=>rfl
 | .bl _,_=>rfl
 | .int _,_=>rfl
 | .str _,_=>rfl
 | .scr _,h=>by cases h
 | .dct _ _,h=>by cases h
 | .tup l,h=>by unfold T.pl at h;unfold T.nd;exact plS_nds l h
 | .lst l,h=>by unfold T.pl at h;unfold T.nd;exact plS_nds l h
theorem plS_nds:∀(l:List T),plS l=true->nds l=true
 | [],_=>rfl
 | t::l,h=>by
  unfold plS at h;rw[Bool.and_eq_true]at h;unfold nds;rw[T.pl_nd t h.1,plS_nds l h.2];rfl
end
theorem qY {fe:En->Rs T}{h:T->T}:∀(ts:List T) (Z:En),0<Z.length->(∀t∈ts,fe (Z.set 0 (.va t))= .ok (h t))->cH (gN 0) bT fe ts Z= .ok (ts.map h)
 | [],_,_,_=>rfl
 | t::r,Z,hl,hf=>by
  unfold cH
  have e1:gN 0 t Z= .ok (Z.set 0 (.va t)):=by unfold gN;rw[if_pos hl]
  have ih:=qY r (Z.set 0 (.va t)) (by rw[List.length_set];exact hl) (λu hu=>by rw[List.set_set];exact hf u (List.mem_cons_of_mem _ hu))
  simp only[e1,ay,bT,if_true,hf t List.mem_cons_self,ih,List.map_cons]
theorem mM {fc:En->Rs Bool}{fe:En->Rs T}{p:T->Bool}{h:T->T}:∀(ts:List T) (Z:En),0<Z.length->(∀t∈ts,fc (Z.set 0 (.va t))= .ok (p t)/\(p t=true->fe (Z.set 0 (.va t))= .ok (h t)))->cH (gN 0) fc fe ts Z= .ok ((ts.filter p).map h)
 | [],_,_,_=>rfl
 | t::r,Z,hl,hf=>by
  unfold cH
  have e1:gN 0 t Z= .ok (Z.set 0 (.va t)):=by unfold gN;rw[if_pos hl]
  have ih:=mM r (Z.set 0 (.va t)) (by rw[List.length_set];exact hl) (λu hu=>by rw[List.set_set];exact hf u (List.mem_cons_of_mem _ hu))
  obtain⟨h1,h2⟩:=hf t List.mem_cons_self;simp only[e1,ay,h1]
  cases q:p t with
  | true=>simp only[if_true,h2 q,ay,ih,List.filter_cons,q,List.map_cons]
  | false=>simp only[Bool.false_eq_true,if_false,ih,List.filter_cons,q]
theorem m5 (p:T->Bool):∀l:List T,lH (l.map λt=>T.bl (p t))=some (l.map p)
 | [] =>rfl
 | t::l=>by rw[List.map_cons,lH,m5 p l];rfl
theorem all_map (p:T->Bool)(l:List T):lM [.lst (l.map λt=>T.bl (p t))] = .ok (.bl (l.all p)):=by
 simp only[lM,m5,List.all_map]
 rfl
theorem iX {α:Type}{l:List α}{k:Nat}{t:α}(h:l[k]? =some t):L2.atI l (k:Int)=some t:=by
 have hk:k<l.length:=(List.getElem?_eq_some_iff.mp h).1
 unfold L2.atI L2.ixN;rw[if_pos (by omega),if_pos (by omega),Int.toNat_natCast]
 exact h
theorem ax {n k:Nat}(h:n<=k)(hk:k<=1000:=by decide):n<=sizeLine:=by unfold sizeLine;omega
section
variable {f fa fb fc:En->Rs T}{fs:En->Rs (List T)}{b c:En->Rs Bool}{F G:En->Rs Fl}{Z Z' Z1 Z2:En}{t u r:T}{ts l m:List T}
theorem az {g:T->T->Rs T}{x:Rs T}(ha:fa Z= .ok t)(hb:fb Z= .ok u)(hg:g t u=x):o2 g fa fb Z=x:=by unfold o2;rw[ha,hb];exact hg
theorem aq (h:f Z= .ok t)(hs:fs Z= .ok ts):ac f fs Z= .ok (t::ts):=by unfold ac;rw[h,hs];rfl
theorem sy {c:Str}(h:f Z= .err c):ac f fs Z= .err c:=by unfold ac;rw[h];rfl
theorem bh {g:List T->Rs T}{x:Rs T}(h:fs Z= .ok ts)(hg:g ts=x):cl g fs Z=x:=by unfold cl;rw[h];exact hg
theorem zD {g:List T->Rs T}{c:Str}(h:fs Z= .err c):cl g fs Z= .err c:=by unfold cl;rw[h];rfl
theorem cC {k:Bool}(h:f Z= .ok (.bl k)):tb f Z= .ok k:=by unfold tb;rw[h];rfl
theorem vZ {k:Bool}(h:b Z= .ok k):d9 b Z= .ok (!k):=by unfold d9;rw[h];rfl
theorem CP (h:b Z= .ok true):jz b c Z= .ok true:=by unfold jz;rw[h];rfl
theorem qc {x:Rs Bool}(h:b Z= .ok false)(h2:c Z=x):jz b c Z=x:=by unfold jz;rw[h];exact h2
theorem wa (h:b Z= .ok false):mm b c Z= .ok false:=by unfold mm;rw[h];rfl
theorem rf {x:Rs Bool}(h:b Z= .ok true)(h2:c Z=x):mm b c Z=x:=by unfold mm;rw[h];exact h2
theorem v9 (h:fa Z= .ok (.bl true)):bD fa fb Z=fb Z:=by unfold bD;rw[h];rfl
theorem sA (h:fa Z= .ok (.bl false)):bD fa fb Z= .ok (.bl false):=by unfold bD;rw[h];rfl
theorem yv {c:Str}(h:fa Z= .err c):bD fa fb Z= .err c:=by unfold bD;rw[h];rfl
theorem yw {p q:Bool}(h:fa Z= .ok (.bl p))(h2:p=true->fb Z= .ok (.bl q)):bD fa fb Z= .ok (.bl (p&&q)):=by
 cases p with
 | true=>rw[v9 h,h2 rfl];rfl
 | false=>rw[sA h];rfl
theorem mQ {p:Bool}(h:b Z= .ok p):oM b fa fb Z=if p then fa Z else fb Z:=by unfold oM;rw[h];rfl
theorem cI {g:T->En->Rs En}(h:f Z= .ok t)(hg:g t Z= .ok Z'):db f g Z= .ok (.nx Z'):=by unfold db;rw[h];show(match g t Z with | .ok Z'=>Rs.ok (Fl.nx Z') | _=> .bad)=_;rw[hg]
theorem zE {g:T->En->Rs En}{c:Str}(h:f Z= .err c):db f g Z= .err c:=by unfold db;rw[h];rfl
theorem aD (h:F Z= .ok (.nx Z')):aB F G Z=G Z':=by unfold aB;rw[h];rfl
theorem vW (h:F Z= .ok (.rt t)):aB F G Z= .ok (.rt t):=by unfold aB;rw[h];rfl
theorem q0 {c:Str}(h:F Z= .err c):aB F G Z= .err c:=by unfold aB;rw[h];rfl
theorem ji (h:b Z= .ok true):fV b F G Z=F Z:=by unfold fV;rw[h];rfl
theorem f8 (h:b Z= .ok false):fV b F G Z=G Z:=by unfold fV;rw[h];rfl
theorem eQ (h:f Z= .ok t):aO f Z= .ok (.rt t):=by unfold aO;rw[h];rfl
theorem vY {c:Str}(h:f Z= .err c):aO f Z= .err c:=by unfold aO;rw[h];rfl
theorem CY (h:f Z= .ok t):xy f Z= .ok (.nx Z):=by unfold xy;rw[h];rfl
theorem CV {c:Str}(h:f Z= .err c):xy f Z= .err c:=by unfold xy;rw[h];rfl
theorem ei {fi:En->Rs (List T)}{g:T->En->Rs En}{x:Fl}(h:fi Z= .ok ts)(h2:a7 g F ts Z= .ok x):d7 fi g F Z= .ok x:=by unfold d7;rw[h];show(match a7 g F ts Z with | .ok f=>Rs.ok f | _=> .bad)=_;rw[h2]
theorem cT {g:T->En->Rs En}(h:g t Z= .ok Z1)(h2:F Z1= .ok (.nx Z2)):a7 g F (t::ts) Z=a7 g F ts Z2:=by rw[a7,h];show(F Z1 >>= _)=_;rw[h2];rfl
theorem yr {g:T->En->Rs En}(h:g t Z= .ok Z1)(h2:F Z1= .ok (.rt r)):a7 g F (t::ts) Z= .ok (.rt r):=by rw[a7,h];show(F Z1 >>= _)=_;rw[h2];rfl
theorem cS {n m:Nat}(hl:ts.length=n)(h:F (aK m ts)= .ok (.rt t)):val n m F ts= .ok t:=by unfold val;rw[if_pos hl];unfold bi;rw[h];rfl
theorem lm {n m:Nat}{c:Str}(hl:ts.length=n)(h:F (aK m ts)= .err c):val n m F ts= .err c:=by unfold val;rw[if_pos hl];unfold bi;rw[h];rfl
theorem Bd {n m:Nat}(hl:ts.length=n)(h:F (aK m ts)= .ok (.nx Z)):val n m F ts= .ok .non:=by unfold val;rw[if_pos hl];unfold bi;rw[h];rfl
theorem CM {h:Str->Rs T}{k:Fl}(e:F Z= .ok k):pw F h Z= .ok k:=by unfold pw;rw[e]
theorem Be {h:Str->Rs T}{c:Str}(e:F Z= .err c)(e2:h c= .ok t):pw F h Z= .ok (.rt t):=by unfold pw;rw[e];simp only[e2]
theorem qe {fi:En->Rs (List T)}{src:List (Option Nat)}{fe:En->Rs T}{h:T->T}(hi:fi Z= .ok ts)(hs:ts.length<=sizeLine)(hn:0<src.length)(hf:∀t∈ts,fe ((a8 src Z).set 0 (.va t))= .ok (h t)) :
  eh fi src (gN 0) bT fe Z= .ok (.lst (ts.map h)):=by
 have e:=qY (fe:=fe) (h:=h) ts (a8 src Z) (by unfold a8;rw[List.length_map];exact hn) hf
 unfold eh;rw[hi,ay,if_pos hs,e]
theorem v6 {fi:En->Rs (List T)}{src:List (Option Nat)}{fc:En->Rs Bool}{fe:En->Rs T}{p:T->Bool}{h:T->T}(hi:fi Z= .ok ts)(hs:ts.length<=sizeLine)(hn:0<src.length)
  (hf:∀t∈ts,fc ((a8 src Z).set 0 (.va t))= .ok (p t)/\(p t=true->fe ((a8 src Z).set 0 (.va t))= .ok (h t))):eh fi src (gN 0) fc fe Z= .ok (.lst ((ts.filter p).map h)):=by
 have e:=mM (fc:=fc) (fe:=fe) (p:=p) (h:=h) ts (a8 src Z) (by unfold a8;rw[List.length_map];exact hn) hf
 unfold eh;rw[hi,ay,if_pos hs,e]
theorem cL (h:fs Z= .ok ts)(hl:ts.length<=sizeLine):bq fs Z= .ok (.tup ts):=by unfold bq;rw[h];show iG ts=_;unfold iG;rw[if_pos hl]
theorem gR (h:fs Z= .ok ts)(hl:ts.length<=sizeLine):dg fs Z= .ok (.lst ts):=by unfold dg;rw[h];show jQ ts=_;unfold jQ;rw[if_pos hl]
theorem v5 {f:En->Rs (List T)}{i:Nat}(h:f Z= .ok l)(hi:i<Z.length)(hl:l.length<=1000):gJ i f Z= .ok (.nx (Z.set i (.ow (.lst l)))):=by
 unfold gJ;rw[h,ay,if_pos ⟨hi,ax hl (by omega)⟩]
theorem re {i:Nat}(hi:i<Z.length):gJ i ag Z= .ok (.nx (Z.set i (.ow (.lst [])))):=v5 rfl hi (Nat.zero_le _)
theorem lq {i:Nat}(h:f Z= .ok t)(hi:Z[i]? =some (.ow (.lst l)))(hl:l.length<=1000):gy i f Z= .ok (.nx (Z.set i (.ow (.lst (l++ [t]))))):=by
 unfold gy;rw[hi];simp only[h,ay];rw[if_pos (by unfold sizeLine;omega)]
theorem v8 {i:Nat}(h:f Z= .ok (.lst m))(hi:Z[i]? =some (.ow (.lst l)))(hl:l.length+m.length<=1000):kO i f Z= .ok (.nx (Z.set i (.ow (.lst (l++m))))):=by
 unfold kO;rw[hi];simp only[h,ay,Bs];rw[if_pos (by unfold sizeLine;omega)]
theorem Bg (h:f Z= .ok (.tup l)):iS f Z= .ok l:=by unfold iS;rw[h];rfl
theorem CU (h:f Z= .ok (.lst l)):iS f Z= .ok l:=by unfold iS;rw[h];rfl
theorem v7 (h:fs Z= .ok [.lst l]):iE fs Z= .ok (br 0 l):=by unfold iE;rw[h];rfl
theorem CT {n:Nat}(e:l[n]? =some t):bN (.tup l) (.int (n:Int))= .ok t:=by show(match L2.atI l _ with | some t=>Rs.ok t | none=> .bad)=_;rw[iX e]
theorem t9 {n:Nat}(h:fa Z= .ok (.tup l))(h2:fb Z= .ok (.int (n:Int)))(e:l[n]? =some t):o2 bN fa fb Z= .ok t:=az h h2 (CT e)
theorem Bf {fe:En->Rs T}{fl fu:En->Rs (Option Int)}{lo hi:Option Int}(h:fe Z= .ok (.tup l))(h1:fl Z= .ok lo)(h2:fu Z= .ok hi):sl fe fl fu Z= .ok (.tup (lD l lo hi)):=by
 unfold sl;rw[h,h1,h2];rfl
theorem CO {i:Int}(h:f Z= .ok (.int i)):pS f Z= .ok (some i):=by unfold pS;rw[h];rfl
theorem qw (l:List T)(n:Nat):lD l none (some (n:Int))=l.take n:=by
 unfold lD;rw[HT.sIx_none,HT.sIx_nat,List.drop_zero,Nat.sub_zero,List.take_eq_take_iff];omega
theorem wJ (l:List T)(n:Nat):lD l (some (n:Int)) none=l.drop n:=by
 unfold lD;rw[HT.sIx_none,HT.sIx_nat]
 by_cases h:n<=l.length
 ·rw[Nat.min_eq_left h]
  exact List.take_of_length_le (by rw[List.length_drop];omega)
 ·rw[Nat.min_eq_right (by omega),List.drop_eq_nil_of_le (Nat.le_refl _),List.drop_eq_nil_of_le (by omega),List.take_nil]
theorem vX {ms:List (List T->Rs T)}{i:Nat}{g:List T->Rs T}{x:Rs T}(h0:f Z= .ok (.int (i:Nat)))(hm:ms[i]? =some g)(hf:fs Z= .ok ts)(hx:g ts=x):qK ms f fs Z=x:=by
 unfold qK;rw[h0,ay];simp only[iX hm];rw[hf];exact hx
theorem CQ {i:Nat}{o:OT}(hi:Z[i]? =some (.ow o))(h:f (disown i Z)= .ok t)(hk:t.nk o.isD=true):ln i f Z= .ok t:=by
 unfold ln;rw[hi];simp only[h,ay,hk,if_true]
theorem zC {i:Nat}{x:Rs Fl}(h:F (disown i Z)=x):lW i F Z=x:=h
end
theorem mk2 (a b:T):iG [a,b] = .ok (.tup [a,b]):=by unfold iG;rw[if_pos (ax (k:=1000) (by simp only[List.length_cons,List.length_nil];omega))]
theorem fJ (n:Nat):(rng 0 n).length=n:=by unfold rng;rw[List.length_map,List.length_range];omega
end Tr
namespace G
open PySem Tr
def Bj:T->Bool
 | .int _=>true
 | _=>false
theorem sM (t:T)(h:t.pl=true):dO [t] = .ok (.bl (Bj t)):=by
 cases t <;> first | rfl | (simp[T.pl]at h;done)
def a9 (t:T)(a b:Int):Bool:=match t with
 | .int i=>decide (a<=i)&&decide (i<=b)
 | _=>false
theorem fE (t:T)(a b:Int)(h:t.pl=true):aQ [t,.int a,.int b] = .ok (.bl (a9 t a b)):=by
 have w:=sM t h
 cases t with
 | int i=>
  simp[aQ,val,bi,eE,aK,aO,bD,vr,ch,cl,ac,ag,qy,a9,w,Bj]
  cases decide (a<=i) <;> rfl
 | scr _=>simp[T.pl]at h
 | dct _ _=>simp[T.pl]at h
 | _=>simp[aQ,val,bi,eE,aK,aO,bD,vr,ch,cl,ac,ag,a9,w,Bj]
def cY (t:T)(a b:Nat):Bool:=match t with
 | .tup l=>decide (a<=l.length)&&decide (l.length<=b)
 | _=>false
theorem gX (t:T)(a b:Nat)(h:t.pl=true):aE [t,.int a,.int b] = .ok (.bl (cY t a b)):=by
 cases t with
 | tup l=>
  simp[aE,val,bi,ir,aK,aO,bD,o1,vr,yz,T.ty,sC,ch,cl,ac,ag,cG,T.items,qy,cY]
  cases decide (a<=l.length) <;> rfl
 | scr _=>simp[T.pl]at h
 | dct _ _=>simp[T.pl]at h
 | _=>rfl
def lZ (x y:T):Bool:=a9 x 1 9&&(match x with
 | .int i=>a9 y i 9
 | _=>false)
theorem Bv (x y:T)(hx:x.pl=true)(hy:y.pl=true):eZ [x,y] = .ok (.bl (lZ x y)):=by
 have w:=fE x 1 9 hx;unfold lZ
 cases q:a9 x 1 9 with
 | false=>rw[q]at w;simp[eZ,val,bi,gc,aK,aO,bD,vr,cn,cl,ac,ag,w]
 | true=>
  rw[q]at w
  cases x with
  | int i=>simp[eZ,val,bi,gc,aK,aO,bD,vr,cn,cl,ac,ag,w,fE y i 9 hy]
  | _=>cases q
def lP:List Int->Bool
 | a::b::r=>decide (a<b)&&lP (b::r)
 | _=>true
theorem B4 (a b:Int)(r:List Int):lP (a::b::r)=(decide (a<b)&&lP (b::r)):=rfl
theorem lL {fe:En->Rs T}{p:T->Bool}{l:List T}{fi:En->Rs (List T)}{src:List (Option Nat)}{Z:En}(hi:fi Z= .ok l)(hs:l.length<=sizeLine)(hn:0<src.length)(hf:∀t∈l,fe ((a8 src Z).set 0 (.va t))= .ok (.bl (p t))) :
  cl lM (ac (eh fi src (gN 0) bT fe) ag) Z= .ok (.bl (l.all p)):=by
 have e:=qY (fe:=fe) (h:=λt=>T.bl (p t)) l (a8 src Z) (by unfold a8;rw[List.length_map];exact hn) hf
 simp only[cl,ac,ag,eh,hi,ay,if_pos hs,e,all_map]
def jC (l:List T):T->Bool
 | .int k=>match L2.atI l k,L2.atI l (k+1)with
  | some (.int a),some (.int b)=>decide (a<b)
  | _,_=>false
 | _=>false
theorem hV {t:T}{j:Int}(h:t∈rng 0 j):∃k:Nat,t= .int k/\(k:Int)<j:=by
 unfold rng at h;obtain⟨k,hk,e⟩:=List.mem_map.mp h;rw[List.mem_range]at hk;exact⟨k,by rw[<-e];simp,by omega⟩
theorem Ae:(l:List Int)->l.length<=4->(rng 0 ((l.length:Int) - 1)).all (jC (l.map .int))=lP l
 | [],_=>rfl
 | [a],_=>rfl
 | [a,b],_=>by simp[rng,List.range_succ,jC,L2.atI,L2.ixN,lP]
 | [a,b,c],_=>by simp[rng,List.range_succ,jC,L2.atI,L2.ixN,lP]
 | [a,b,c,d],_=>by simp[rng,List.range_succ,jC,L2.atI,L2.ixN,lP,Bool.and_assoc]
 | a::b::c::d::e::r,h=>absurd h (by simp only[List.length_cons];omega)
theorem yH (l:List Int)(h:l.length<=4):ig [.tup (l.map .int)] = .ok (.bl (lP l)):=by
 have hr:iR (ac (o2 bP (cl cG (ac (vr 0) ag)) (cn (.int 1))) ag) [.va (.tup (l.map .int))] = .ok (rng 0 ((l.length:Int) - 1)):=by
  have:rk ((l.length:Int) - 1)=true:=by unfold rk;rw[Bool.and_eq_true];exact⟨decide_eq_true (by omega),decide_eq_true (by omega)⟩
  simp[iR,ac,ag,o2,cl,vr,cn,cG,T.items,bP,this]
 have hs:(rng 0 ((l.length:Int) - 1)).length<=sizeLine:=by
  unfold rng sizeLine;rw[List.length_map,List.length_range];omega
 have e:=lL (fe:=o2 qV (o2 bN (vr 1) (vr 0)) (o2 bN (vr 1) (o2 aH (vr 0) (cn (.int 1))))) (p:=jC (l.map .int)) (src:=[none,some 0]) hr hs (by decide) (λt ht=>by
  obtain⟨k,rfl,hk⟩:=hV ht
  have h1:(l.map T.int)[k]? =some (.int (l[k]'(by omega))):=by simp
  have h2:(l.map T.int)[k+1]? =some (.int (l[k+1]'(by omega))):=by rw[List.getElem?_map,List.getElem?_eq_getElem (by omega)];rfl
  have g1:=iX h1
  have g2:L2.atI (l.map T.int) ((k:Int)+1)=some (.int (l[k+1]'(by omega))):=iX h2
  simp[o2,vr,a8,cn,aH,bN,T.items,g1,g2,qy,jC])
 rw[Ae l h]at e;simp only[ig,val,List.length_singleton,if_true,kx,bi,aO,aK]
 show(do let f <-(do let t <-cl lM _ [.va (.tup (l.map .int))];Rs.ok (Fl.rt t));_)=_
 rw[e]
 rfl
def je:List T->Option (List Int)
 | [] =>some []
 | .int i::l=>match je l with
  | some m=>some (i::m)
  | none=>none
 | _::_=>none
def cM (t:T):Bool:=cY t 1 4&&(match t with
 | .tup l=>l.all (λu=>a9 u 0 99)&&(match je l with | some m=>lP m | none=>false)
 | _=>false)
theorem k4:∀{l:List T} {m:List Int},je l=some m->l=m.map .int
 | [],m,h=>by cases h;rfl
 | t::l,m,h=>by
  cases t with
  | int i=>
   unfold je at h
   cases q:je l with
   | none=>rw[q]at h;cases h
   | some m'=>rw[q]at h;cases h;rw[List.map_cons,<-k4 q]
  | _=>cases h
theorem n0:∀{l:List T} {a b:Int},(l.all λu=>a9 u a b)=true->∃m,je l=some m
 | [],_,_,_=>⟨[],rfl⟩
 | t::l,a,b,h=>by
  rw[List.all_cons,Bool.and_eq_true]at h
  cases t with
  | int i=>
   obtain⟨m,e⟩:=n0 h.2
   exact⟨i::m,by unfold je;rw[e]⟩
  | _=>exact absurd h.1 (by simp[a9])
theorem cA {t:T}{a b:Nat}(h:cY t a b=true):∃l,t= .tup l/\a<=l.length/\l.length<=b:=by
 cases t with
 | tup l=>unfold cY at h;rw[Bool.and_eq_true]at h;exact⟨l,rfl,of_decide_eq_true h.1,of_decide_eq_true h.2⟩
 | _=>cases h
theorem uR {n k:Nat}(h:n<=k)(hk:k<=1000:=by decide):n<=sizeLine:=by unfold sizeLine;omega
theorem ro (t:T)(h:t.pl=true):bu [t] = .ok (.bl (cM t)):=by
 have w:aE [t,.int 1,.int 4] = .ok (.bl (cY t 1 4)):=gX t 1 4 h;unfold cM
 cases q:cY t 1 4 with
 | false=>rw[q]at w;simp[bu,val,bi,cp,aK,aB,fV,d9,tb,sN,aO,cl,vr,cn,ac,ag,w]
 | true=>
  rw[q]at w;obtain⟨l,rfl,h1,h2⟩:=cA q
  have hp:∀u∈l,u.pl=true:=λu hu=>hX (by unfold T.pl at h;exact h) hu
  have e:=lL (fe:=cl aQ (ac (vr 0) (ac (cn (.int 0)) (ac (cn (.int 99)) ag)))) (p:=λu=>a9 u 0 99) (src:=[none]) (fi:=iS (vr 0)) (Z:=[.va (.tup l)]) rfl (uR h2) (by decide) (λu hu=>by
   simp[cl,ac,ag,vr,cn,a8,fE u 0 99 (hp u hu)])
  have w':cl aE (ac (vr 0) (ac (cn (.int 1)) (ac (cn (.int 4)) ag))) [.va (.tup l)] = .ok (.bl true):=w
  show bu _= .ok (.bl (true&&(l.all (λu=>a9 u 0 99)&&(match je l with | some m=>lP m | none=>false))))
  cases qa:l.all λu=>a9 u 0 99 with
  | false=>
   rw[qa]at e
   simp[bu,val,bi,cp,aK,aB,fV,d9,tb,sN,aO,bD,e,w']
  | true=>
   rw[qa]at e;obtain⟨m,em⟩:=n0 qa
   have el:=k4 em
   have er:=yH m (by rw[el,List.length_map]at h2;exact h2)
   rw[<-el]at er
   have er':cl ig (ac (vr 0) ag) [.va (.tup l)] = .ok (.bl (lP m)):=er;simp[bu,val,bi,cp,aK,aB,fV,d9,tb,sN,aO,bD,e,w',er',em]
def at_ (t:T)(k:Nat):T:=match t.items with
 | some l=>l.getD k .non
 | none=> .non
def bj (t:T):Bool:=cY t 3 3&&(match t with
 | .tup [x,y,r] =>lZ x y&&cM r
 | _=>false)
theorem yK (t:T)(h:t.pl=true):cR [t] = .ok (.bl (bj t)):=by
 have w:aE [t,.int 3,.int 3] = .ok (.bl (cY t 3 3)):=gX t 3 3 h;unfold bj
 cases q:cY t 3 3 with
 | false=>rw[q]at w;simp[cR,val,bi,dR,aK,aO,bD,cl,vr,cn,ac,ag,w]
 | true=>
  rw[q]at w;obtain⟨l,rfl,h1,h2⟩:=cA q
  match l,h1,h2 with
  | [x,y,r],_,_=>
   simp[T.pl,plS]at h;obtain⟨px,py,pr⟩:=h
   have g0:bN (.tup [x,y,r]) (.int 0)= .ok x:=rfl
   have g1:bN (.tup [x,y,r]) (.int 1)= .ok y:=rfl
   have g2:bN (.tup [x,y,r]) (.int 2)= .ok r:=rfl
   have ep:=Bv x y px py
   have er:=ro r pr
   cases qp:lZ x y with
   | false=>rw[qp]at ep;simp[cR,val,bi,dR,aK,aO,bD,cl,vr,cn,ac,ag,o2,w,g0,g1,ep,qp]
   | true=>rw[qp]at ep;simp[cR,val,bi,dR,aK,aO,bD,cl,vr,cn,ac,ag,o2,w,g0,g1,g2,ep,er,qp]
def aV (t:T):Bool:=cY t 1 4&&(match t with
 | .tup l=>l.all bj
 | _=>false)
theorem wC (t:T)(h:t.pl=true):cX [t] = .ok (.bl (aV t)):=by
 have w:aE [t,.int 1,.int 4] = .ok (.bl (cY t 1 4)):=gX t 1 4 h;unfold aV
 cases q:cY t 1 4 with
 | false=>rw[q]at w;simp[cX,val,bi,dE,aK,aO,bD,cl,vr,cn,ac,ag,w]
 | true=>
  rw[q]at w;obtain⟨l,rfl,h1,h2⟩:=cA q
  have hp:∀u∈l,u.pl=true:=λu hu=>hX (by unfold T.pl at h;exact h) hu
  have e:=lL (fe:=cl cR (ac (vr 0) ag)) (p:=bj) (src:=[none]) (fi:=iS (vr 0)) (Z:=[.va (.tup l)]) rfl (uR h2) (by decide) (λu hu=>by
   simp[cl,ac,ag,vr,cn,a8,yK u (hp u hu)])
  have w':cl aE (ac (vr 0) (ac (cn (.int 1)) (ac (cn (.int 4)) ag))) [.va (.tup l)] = .ok (.bl true):=w;simp[cX,val,bi,dE,aK,aO,bD,e,w']
def dX (x y:T):Bool:=a9 x 0 999&&(match x,y with
 | _,.non=>true
 | .int i,_=>a9 y i 999
 | _,_=>false)
theorem yJ (x y:T)(hx:x.pl=true)(hy:y.pl=true):du [x,y] = .ok (.bl (dX x y)):=by
 have w:=fE x 0 999 hx;unfold dX
 cases q:a9 x 0 999 with
 | false=>rw[q]at w;simp[du,val,bi,dQ,aK,aO,bD,vr,cn,cl,ac,ag,w]
 | true=>
  rw[q]at w
  cases x with
  | int i=>
   have e:=fE y i 999 hy
   cases y with
   | non=>simp[du,val,bi,dQ,aK,aO,bD,Cy,vr,cn,cl,ac,ag,o2,mh,T.isN,w]
   | _=>simp[du,val,bi,dQ,aK,aO,bD,Cy,vr,cn,cl,ac,ag,o2,mh,T.isN,w,e]
  | _=>cases q
def reads (cs:List T)(c:Int):Nat:=if 0<=c then(match cs[c.toNat]? with
 | some (.tup [_,_,.tup r])=>r.length
 | _=>0)else 0
def aX (cs:List T)(t:T):Bool:=match t with
 | .tup [.int c,.int k] =>decide (0<=c)&&decide (c<cs.length)&&(decide (0<=k)&&decide (k<reads cs c))
 | _=>false
theorem jU {t:T}(h:bj t=true):∃x y r,t= .tup [x,y,.tup r]:=by
 unfold bj at h;rw[Bool.and_eq_true]at h;obtain⟨h1,h2⟩:=h;obtain⟨l,rfl,h3,h4⟩:=cA h1
 match l,h3,h4,h2 with
 | [x,y,r],_,_,h2=>
  simp only[Bool.and_eq_true]at h2;obtain⟨_,h5⟩:=h2;unfold cM at h5;rw[Bool.and_eq_true]at h5;obtain⟨m,rfl,_⟩:=cA h5.1;exact⟨x,y,m,rfl⟩
theorem dt {t:T}{a b:Int}(h:a9 t a b=true):∃i,t= .int i/\a<=i/\i<=b:=by
 cases t with
 | int i=>unfold a9 at h;rw[Bool.and_eq_true]at h;exact⟨i,rfl,of_decide_eq_true h.1,of_decide_eq_true h.2⟩
 | _=>cases h
theorem sP (cs:List T)(t:T)(hc:aV (.tup cs)=true)(h:t.pl=true):cQ [.tup cs,t] = .ok (.bl (aX cs t)):=by
 have w:aE [t,.int 2,.int 2] = .ok (.bl (cY t 2 2)):=gX t 2 2 h
 cases q:cY t 2 2 with
 | false=>
  rw[q]at w
  have:aX cs t=false:=by
   unfold aX;split
   ·cases q
   ·rfl
  simp[cQ,val,bi,dP,aK,aB,fV,jz,d9,tb,sN,aO,cl,vr,cn,ac,ag,w,this]
 | true=>
  rw[q]at w;obtain⟨l,rfl,h1,h2⟩:=cA q
  match l,h1,h2 with
  | [x,y],_,_=>
   simp[T.pl,plS]at h;obtain⟨px,py⟩:=h
   have g0:bN (.tup [x,y]) (.int 0)= .ok x:=rfl
   have g1:bN (.tup [x,y]) (.int 1)= .ok y:=rfl
   have gl:cG [.tup cs] = .ok (.int cs.length):=rfl
   have e1:=fE x 0 ((cs.length:Int) - 1) px
   cases q1:a9 x 0 ((cs.length:Int) - 1)with
   | false=>
    rw[q1]at e1
    have:aX cs (.tup [x,y])=false:=by
     cases x with
     | int c=>
      cases y with
      | int k=>
       simp only[a9,Bool.and_eq_false_iff,decide_eq_false_iff_not]at q1;simp only[aX,Bool.and_eq_false_iff,decide_eq_false_iff_not]
       omega
      | _=>rfl
     | _=>rfl
    simp[cQ,val,bi,dP,aK,aB,fV,jz,d9,tb,sN,aO,cl,vr,cn,ac,ag,o2,bP,w,g0,gl,e1,this]
   | true=>
    rw[q1]at e1;obtain⟨c,rfl,c1,c2⟩:=dt q1;obtain⟨n,rfl⟩:=Int.eq_ofNat_of_zero_le c1
    have hn:n<cs.length:=by omega
    have hcl:bj cs[n] =true:=by
     unfold aV at hc;rw[Bool.and_eq_true]at hc;exact List.all_eq_true.mp hc.2 _ (List.getElem_mem hn)
    obtain⟨a,b,r,er⟩:=jU hcl
    have g2:bN (.tup cs) (.int (n:Int))= .ok (.tup [a,b,.tup r]):=by
     simp only[bN,T.items];rw[iX (List.getElem?_eq_getElem hn),er]
    have g3:bN (.tup [a,b,.tup r]) (.int 2)= .ok (.tup r):=rfl
    have gr:cG [.tup r] = .ok (.int r.length):=rfl
    have e2:=fE y 0 ((r.length:Int) - 1) py
    have:aX cs (.tup [.int n,y])=a9 y 0 ((r.length:Int) - 1):=by
     have er2:reads cs (n:Int)=r.length:=by
      unfold reads;rw[if_pos c1,Int.toNat_natCast,List.getElem?_eq_getElem hn,er]
     cases y with
     | int k=>
      simp only[aX,a9,er2];rw[decide_eq_true c1,decide_eq_true (show(n:Int)<cs.length by omega)]
      simp only[Bool.true_and]
      congr 1
      exact decide_eq_decide.mpr (by omega)
     | _=>rfl
    simp[cQ,val,bi,dP,aK,aB,fV,jz,d9,tb,sN,aO,cl,vr,cn,ac,ag,o2,bP,w,g0,g1,g2,g3,gl,gr,e1,e2,this]
def bo (cs:List T)(t:T):Bool:=match t with
 | .tup [a,b,x,y] =>dX x y&&(aX cs a&&(aX cs b&& !bO a b))
 | _=>false
theorem ez {cs:List T}{t:T}(h:aX cs t=true):∃c k:Int,t= .tup [.int c,.int k]:=by
 unfold aX at h
 split at h
 ·exact⟨_,_,rfl⟩
 ·cases h
theorem wz (cs:List T)(t:T)(hc:aV (.tup cs)=true)(h:t.pl=true):bA [.tup cs,t] = .ok (.bl (bo cs t)):=by
 have w:aE [t,.int 4,.int 4] = .ok (.bl (cY t 4 4)):=gX t 4 4 h
 cases q:cY t 4 4 with
 | false=>
  rw[q]at w
  have:bo cs t=false:=by
   unfold bo;split
   ·cases q
   ·rfl
  simp[bA,val,bi,cr,aK,aB,fV,jz,d9,tb,sN,aO,cl,vr,cn,ac,ag,w,this]
 | true=>
  rw[q]at w;obtain⟨l,rfl,h1,h2⟩:=cA q
  match l,h1,h2 with
  | [a,b,x,y],_,_=>
   simp[T.pl,plS]at h;obtain⟨pa,pb,px,py⟩:=h
   have g0:bN (.tup [a,b,x,y]) (.int 0)= .ok a:=rfl
   have g1:bN (.tup [a,b,x,y]) (.int 1)= .ok b:=rfl
   have g2:bN (.tup [a,b,x,y]) (.int 2)= .ok x:=rfl
   have g3:bN (.tup [a,b,x,y]) (.int 3)= .ok y:=rfl
   have e1:=yJ x y px py
   have e2:=sP cs a hc pa
   have e3:=sP cs b hc pb
   show _=Rs.ok (T.bl (dX x y&&(aX cs a&&(aX cs b&& !bO a b))))
   cases q1:dX x y with
   | false=>
    rw[q1]at e1
    simp[bA,val,bi,cr,aK,aB,fV,jz,d9,tb,sN,aO,cl,vr,cn,ac,ag,o2,w,g2,g3,e1]
   | true=>
    rw[q1]at e1
    cases q2:aX cs a with
    | false=>
     rw[q2]at e2
     simp[bA,val,bi,cr,aK,aB,fV,jz,d9,tb,sN,aO,bD,cl,vr,cn,ac,ag,o2,w,g0,g2,g3,e1,e2]
    | true=>
     rw[q2]at e2
     cases q3:aX cs b with
     | false=>
      rw[q3]at e3
      simp[bA,val,bi,cr,aK,aB,fV,jz,d9,tb,sN,aO,bD,cl,vr,cn,ac,ag,o2,w,g0,g1,g2,g3,e1,e2,e3]
     | true=>
      rw[q3]at e3;obtain⟨c,k,rfl⟩:=ez q2
      have f:fD (.tup [.int c,.int k]) b=true:=gW (by simp[T.dep,deps]) rfl (T.pl_nd _ pb)
      have g4:hZ (.tup [.int c,.int k]) b= .ok (.bl (!bO (.tup [.int c,.int k]) b)):=by unfold hZ;rw[if_pos f]
      simp[bA,val,bi,cr,aK,aB,fV,jz,d9,tb,sN,aO,bD,cl,vr,cn,ac,ag,o2,w,g0,g1,g2,g3,g4,e1,e2,e3]
def ik (cs:List T)(t:T):Bool:=cY t 0 8&&(match t with
 | .tup l=>l.all (bo cs)
 | _=>false)
theorem ue (cs:List T)(t:T)(hc:aV (.tup cs)=true)(h:t.pl=true):cE [.tup cs,t] = .ok (.bl (ik cs t)):=by
 have w:aE [t,.int 0,.int 8] = .ok (.bl (cY t 0 8)):=gX t 0 8 h;unfold ik
 cases q:cY t 0 8 with
 | false=>rw[q]at w;simp[cE,val,bi,di,aK,aO,bD,cl,vr,cn,ac,ag,w]
 | true=>
  rw[q]at w;obtain⟨l,rfl,h1,h2⟩:=cA q
  have hp:∀u∈l,u.pl=true:=λu hu=>hX (by unfold T.pl at h;exact h) hu
  have e:=lL (fe:=cl bA (ac (vr 1) (ac (vr 0) ag))) (p:=bo cs) (src:=[none,some 0]) (fi:=iS (vr 1)) (Z:=[.va (.tup cs),.va (.tup l)]) rfl (uR h2) (by decide) (λu hu=>by
   simp[cl,ac,ag,vr,cn,a8,wz cs u hc (hp u hu)])
  have w':cl aE (ac (vr 1) (ac (cn (.int 0)) (ac (cn (.int 8)) ag))) [.va (.tup cs),.va (.tup l)] = .ok (.bl true):=w;simp[cE,val,bi,di,aK,aO,bD,e,w']
def fK (t:T):Bool:=match t with
 | .tup [.tup cs,ls] =>aV (.tup cs)&&ik cs ls
 | _=>false
theorem ql (t:T)(h:t.pl=true):cP [t] = .ok (.bl (fK t)):=by
 have w:aE [t,.int 2,.int 2] = .ok (.bl (cY t 2 2)):=gX t 2 2 h
 cases q:cY t 2 2 with
 | false=>
  rw[q]at w
  have:fK t=false:=by
   unfold fK;split
   ·cases q
   ·rfl
  simp[cP,val,bi,dw,aK,aO,bD,cl,vr,cn,ac,ag,w,this]
 | true=>
  rw[q]at w;obtain⟨l,rfl,h1,h2⟩:=cA q
  match l,h1,h2 with
  | [x,y],_,_=>
   simp[T.pl,plS]at h;obtain⟨px,py⟩:=h
   have g0:bN (.tup [x,y]) (.int 0)= .ok x:=rfl
   have g1:bN (.tup [x,y]) (.int 1)= .ok y:=rfl
   have e1:=wC x px
   cases q1:aV x with
   | false=>
    rw[q1]at e1
    have:fK (.tup [x,y])=false:=by
     cases x with
     | tup cs=>show(aV (.tup cs)&&_)=false;rw[q1];rfl
     | _=>rfl
    simp[cP,val,bi,dw,aK,aO,bD,cl,vr,cn,ac,ag,o2,w,g0,e1,this]
   | true=>
    rw[q1]at e1
    cases x with
    | tup cs=>
     have e2:=ue cs y q1 py
     have:fK (.tup [.tup cs,y])=ik cs y:=by show(aV (.tup cs)&&_)=_;rw[q1];rfl
     simp[cP,val,bi,dw,aK,aO,bD,cl,vr,cn,ac,ag,o2,w,g0,g1,e1,e2,this]
    | _=>cases q1
theorem e9:∀m:List Int,deps (m.map .int)=0
 | [] =>rfl
 | a::m=>by rw[List.map_cons,deps,e9 m];rfl
def j6 (i n:Nat):List T:=(rng 0 n).map λt=>T.tup [.int i,t]
def Ag:T->Nat
 | .tup [_,_,.tup r] =>r.length
 | _=>0
def dY:Nat->List T->List T
 | _,[] => []
 | i,c::r=>j6 i (Ag c)++dY (i+1) r
theorem eC {t:T}(h:bj t=true):∃x y r,t= .tup [x,y,.tup r]/\1<=r.length/\r.length<=4:=by
 obtain⟨x,y,r,rfl⟩:=jU h
 have:cM (.tup r)=true:=by
  have h':(lZ x y&&cM (.tup r))=true:=h;rw[Bool.and_eq_true]at h';exact h'.2
 unfold cM at this;rw[Bool.and_eq_true]at this;obtain⟨l,e,h1,h2⟩:=cA this.1;cases e;exact⟨x,y,r,rfl,h1,h2⟩
theorem f9 (i n:Nat):(j6 i n).length=n:=by unfold j6;rw[List.length_map,fJ]
abbrev evF:En->Rs Fl:=db (o2 aH (vr 1) (eh (iR (ac (cl cG (ac (o2 bN (vr 3) (cn (.int 2))) ag)) ag)) [none,some 2] (gN 0) bT (bq (ac (vr 1) (ac (vr 0) ag))))) (gN 1)
abbrev evG:T->En->Rs En:=gT 2 (dI (gN 2) (dI (gN 3) j4))
theorem yD {f:En->Rs (List T)}{Z:En}{j:Int}(h:f Z= .ok [.int j])(h0:0<=j)(h1:j<=100000):iR f Z= .ok (rng 0 j):=by
 have e:rk j=true:=by unfold rk;rw[Bool.and_eq_true];exact⟨decide_eq_true (by omega),decide_eq_true (by omega)⟩
 unfold iR;rw[h]
 show(if rk j=true then _ else _)=_
 rw[e];rfl
theorem oF (l m:List T)(h:(l++m).length<=1000):aH (.lst l) (.lst m)= .ok (.lst (l++m)):=by
 show jQ (l++m)=_
 unfold jQ;rw[if_pos (ax h)]
theorem kw (l m:List T)(h:(l++m).length<=1000):aH (.tup l) (.tup m)= .ok (.tup (l++m)):=by
 show iG (l++m)=_
 unfold iG;rw[if_pos (ax h)]
theorem C3 (c0 acc x y:T)(r:List T)(i:Nat)(h:r.length<=4) :
  eh (iR (ac (cl cG (ac (o2 bN (vr 3) (cn (.int 2))) ag)) ag)) [none,some 2] (gN 0) bT (bq (ac (vr 1) (ac (vr 0) ag))) [.va c0,.va acc,.va (.int i),.va (.tup [x,y,.tup r])] = .ok (.lst (j6 i r.length)):=
 qe (yD (j:=(r.length:Int)) rfl (by omega) (by omega)) (ax (k:=4) (by rw[fJ];exact h)) (by simp) λt _=>mk2 _ _
theorem yE (c0 x y:T)(acc r:List T)(i:Nat)(h:r.length<=4)(ha:acc.length<=100):evF [.va c0,.va (.lst acc),.va (.int i),.va (.tup [x,y,.tup r])] = .ok (.nx [.va c0,.va (.lst (acc++j6 i r.length)),.va (.int i),.va (.tup [x,y,.tup r])]):=
 cI (az (t:=.lst acc) rfl (C3 c0 (.lst acc) x y r i h) (oF _ _ (by rw[List.length_append,f9];omega))) rfl
theorem sK:∀(cs:List T) (c0:T) (acc:List T) (i:Nat) (s2 s3:Sl),(∀c∈cs,bj c=true)->acc.length+4*cs.length<=100 →
  ∃y2 y3,a7 evG evF (br i cs) [.va c0,.va (.lst acc),s2,s3] = .ok (.nx [.va c0,.va (.lst (acc++dY i cs)),y2,y3])
 | [],c0,acc,i,s2,s3,_,_=>⟨s2,s3,by simp[br,a7,dY]⟩
 | c::cs,c0,acc,i,s2,s3,hc,hl=>by
  obtain⟨x,y,r,rfl,r1,r2⟩:=eC (hc c List.mem_cons_self);rw[List.length_cons]at hl;obtain⟨z2,z3,ih⟩:=sK cs c0 (acc++j6 i r.length) (i+1) (.va (.int i)) (.va (.tup [x,y,.tup r])) (λc h=>hc c (List.mem_cons_of_mem _ h)) (by rw[List.length_append,f9];omega)
  refine⟨z2,z3,?_⟩
  rw[br,cT (Z1:=[.va c0,.va (.lst acc),.va (.int i),.va (.tup [x,y,.tup r])]) rfl (yE c0 x y acc r i r2 (by omega)),ih,dY,List.append_assoc]
  rfl
theorem cy {cs:List T}(hc:aV (.tup cs)=true):(∀c∈cs,bj c=true)/\1<=cs.length/\cs.length<=4:=by
 unfold aV at hc;rw[Bool.and_eq_true]at hc;obtain⟨l,e,h1,h2⟩:=cA hc.1;cases e;exact⟨λc h=>List.all_eq_true.mp hc.2 c h,h1,h2⟩
theorem qm (cs:List T)(hc:aV (.tup cs)=true):cb [.tup cs] = .ok (.lst (dY 0 cs)):=by
 obtain⟨ha,h1,h2⟩:=cy hc;obtain⟨y2,y3,e⟩:=sK cs (.tup cs) [] 0 .em .em ha (by simp;omega)
 rw[List.nil_append]at e;refine cS rfl ?_
 unfold dZ;rw[aD (Z':=[.va (.tup cs),.va (.lst []),.em,.em]) rfl,aD ((ei (ts:=br 0 cs) rfl e))]
 rfl
theorem ym {n k:Nat}(h:k<n):T.int (k:Int)∈rng 0 (n:Int):=by
 unfold rng;exact List.mem_map.mpr ⟨k,List.mem_range.mpr (by omega),by simp⟩
theorem mE (cs:List T)(c:Nat):reads cs (c:Int)=Ag (cs.getD c .non):=by
 unfold reads;rw[if_pos (by omega),Int.toNat_natCast,List.getD_eq_getElem?_getD]
 cases cs[c]? with
 | none=>rfl
 | some t=>
  cases t with
  | tup l=>
   match l with
   | [] =>rfl
   | [_] =>rfl
   | [_,_] =>rfl
   | [_,_,z] =>cases z <;> rfl
   | _::_::z::_::_=>cases z <;> rfl
  | _=>rfl
theorem p0 {g:T->En->Rs En}{F:En->Rs Fl}{p:T->Bool}(J:En->Prop):∀(ts:List T),(∀t∈ts,∀Z,J Z->∃Z1,g t Z= .ok Z1/\(p t=true->∃Z2,F Z1= .ok (.nx Z2)/\J Z2)/\(p t=false->F Z1= .ok (.rt (.bl false)))) →
  ∀Z,J Z->(ts.all p=true->∃Z',a7 g F ts Z= .ok (.nx Z')/\J Z')/\(ts.all p=false->a7 g F ts Z= .ok (.rt (.bl false)))
 | [],_,Z,hj=>⟨λ_=>⟨Z,rfl,hj⟩,λh=>(by cases h)⟩
 | t::ts,hs,Z,hj=>by
  obtain⟨Z1,h1,h2,h3⟩:=hs t List.mem_cons_self Z hj;rw[List.all_cons]
  cases q:p t with
  | false=>exact⟨λh=>(by cases h),λ_=>yr h1 (h3 q)⟩
  | true=>
   obtain⟨Z2,e2,j2⟩:=h2 q;rw[cT h1 e2,Bool.true_and];exact p0 J ts (λt ht=>hs t (List.mem_cons_of_mem _ ht)) Z2 j2
mutual
def sm (n:Nat):T->Bool
 | .dct _ _=>false
 | .scr _=>false
 | .tup l=>decide (l.length<=n)&&sms n l
 | .lst l=>decide (l.length<=n)&&sms n l
 | _=>true
def sms (n:Nat):List T->Bool
 | [] =>true
 | t::l=>sm n t&&sms n l
end
mutual
theorem zp {n:Nat}:∀(t:T),sm n t=true->t.pl=true
 | .scr _,h=>by simp[sm]at h
 | .dct _ _,h=>by simp[sm]at h
 | .tup l,h=>by rw[sm,Bool.and_eq_true]at h;rw[T.pl];exact sms_pl l h.2
 | .lst l,h=>by rw[sm,Bool.and_eq_true]at h;rw[T.pl];exact sms_pl l h.2
 | .non,_=>by simp[T.pl]
 | .bl _,_=>by simp[T.pl]
 | .int _,_=>by simp[T.pl]
 | .str _,_=>by simp[T.pl]
theorem sms_pl {n:Nat}:∀(l:List T),sms n l=true->plS l=true
 | [],_=>by simp[plS]
 | t::l,h=>by rw[sms,Bool.and_eq_true]at h;rw[plS,zp t h.1,sms_pl l h.2];rfl
end
theorem rO {n:Nat}:∀{l:List T},sms n l=true↔ ∀t∈l,sm n t=true
 | [] =>by simp[sms]
 | t::l=>by rw[sms,Bool.and_eq_true,rO (l:=l)];simp
theorem sm_tup {n:Nat}{l:List T}:sm n (.tup l)=true↔l.length<=n/\∀t∈l,sm n t=true:=by rw[sm,Bool.and_eq_true,rO,decide_eq_true_iff]
theorem iQ {i j:Int}(h:0<j):jg (.int i) (.int j)= .ok (.int (i % j)):=by show(if _ then _ else _)=_;rw[if_pos h]
theorem kn {i j:Int}(h:0<j)(h2:j<1073741824):jn (.int i) (.int j)= .ok (.int (i / j)):=by show(if _ then _ else _)=_;rw[if_pos ⟨h,h2⟩]
theorem jf {i j:Int}(h : -18446744073709551616<i)(h2:i<18446744073709551616):bz (.int i) (.int j)= .ok (.int (i*j)):=by
 show qU (.int i) (.int j)=_
 show(if _ then _ else _)=_
 rw[if_pos (.inl ⟨by omega,by omega⟩)]
theorem vM {i j:Int}(h : -18446744073709551616<j)(h2:j<18446744073709551616):bz (.int i) (.int j)= .ok (.int (i*j)):=by
 show qU (.int i) (.int j)=_
 show(if _ then _ else _)=_
 rw[if_pos (.inr ⟨by omega,by omega⟩)]
theorem Bx (ns:List Int)(k:Nat)(hn:ns.length<=63):∃c,ef [.scr ns,.int k] = .ok (.int c):=by
 have e0:o2 lR (vr 0) (dg ag) [.va (.scr ns),.va (.int k)] = .ok (.bl (iH ns [])):=by
  refine az (t:=.scr ns) (u:=.lst []) rfl (gR (ts:=[]) rfl (ax (k:=0) (Nat.le_refl _))) ?_
  unfold lR;rw[if_pos (gW (by simp[T.dep]) rfl rfl)]
  rfl
 cases ns with
 | nil=>
  refine⟨7*k,cS rfl ?_⟩
  unfold eF
  refine vW ((ji (cC e0)).trans (eQ (az (t:=.int 7) (u:=.int k) rfl rfl (jf (by omega) (by omega)))))
 | cons a r=>
  have hl:(0:Int)<((a::r).length:Nat):=by simp only[List.length_cons];omega
  have hl2:(((a::r).length:Nat):Int)<1073741824:=by simp only[List.length_cons]at hn ⊢;omega
  have hi:k % (a::r).length<(a::r).length:=Nat.mod_lt _ (by simp)
  have g0:o2 jg (vr 1) (cl cG (ac (vr 0) ag)) [.va (.scr (a::r)),.va (.int k)] = .ok (.int ((k % (a::r).length:Nat):Int)):=by
   refine az (t:=.int k) (u:=.int ((a::r).length:Nat)) rfl ?_ (by rw[iQ hl];rfl)
   refine bh (ts:=[.scr (a::r)]) rfl ?_
   show Rs.ok (T.int (((a::r).map T.int).length:Nat))=_
   rw[List.length_map]
  have g1:bN (.scr (a::r)) (.int ((k % (a::r).length:Nat):Int))= .ok (.int (a::r)[k % (a::r).length]):=by
   have e:((a::r).map T.int)[k % (a::r).length]? =some (.int (a::r)[k % (a::r).length]):=by rw[List.getElem?_map,List.getElem?_eq_getElem hi];rfl
   show(match L2.atI ((a::r).map T.int) ((k % (a::r).length:Nat):Int)with | some t=>Rs.ok t | none=> .bad)=_
   rw[iX e]
  have g2:o2 jn (vr 1) (cl cG (ac (vr 0) ag)) [.va (.scr (a::r)),.va (.int k)] = .ok (.int ((k:Int) / ((a::r).length:Nat))):=by
   refine az (t:=.int k) (u:=.int ((a::r).length:Nat)) rfl ?_ (kn hl hl2)
   refine bh (ts:=[.scr (a::r)]) rfl ?_
   show Rs.ok (T.int (((a::r).map T.int).length:Nat))=_
   rw[List.length_map]
  refine⟨(a::r)[k % (a::r).length] +6553*((k:Int) / ((a::r).length:Nat)),cS rfl ?_⟩
  unfold eF
  show aB _ _ [.va (.scr (a::r)),.va (.int k)] =_
  refine(aD (Z':=[.va (.scr (a::r)),.va (.int k)]) ((f8 (cC e0)).trans rfl)).trans ?_
  exact eQ (az (az (t:=.scr (a::r)) rfl g0 g1) (az (t:=.int 6553) rfl g2 (jf (by omega) (by omega))) rfl)
theorem bM (ns:List Int)(k:Nat)(m:Int)(hn:ns.length<=63)(hm:0<m):∃r,ao [.scr ns,.int k,.int m] = .ok (.int r)/\0<=r/\r<m:=by
 obtain⟨c,hc⟩:=Bx ns k hn
 have b1:∀x:Int,0<=x % 2147483563/\x % 2147483563<2147483563:=λx=>⟨Int.emod_nonneg _ (by omega),Int.emod_lt_of_pos _ (by omega)⟩
 have b2:∀x:Int,0<=x % 2147483399/\x % 2147483399<2147483399:=λx=>⟨Int.emod_nonneg _ (by omega),Int.emod_lt_of_pos _ (by omega)⟩
 generalize hx:(c % 2147483563*69069+104723*((k:Int)+1)) % 2147483563=x
 have hx':=b1 (c % 2147483563*69069+104723*((k:Int)+1));rw[hx]at hx'
 generalize hy:(x*x+x / 3) % 2147483399=y
 have hy':=b2 (x*x+x / 3);rw[hy]at hy';refine⟨(y*y+y / 7) % 2147483647 / 11 % m,cS rfl ?_,Int.emod_nonneg _ (by omega),Int.emod_lt_of_pos _ hm⟩
 show dG [.va (.scr ns),.va (.int k),.va (.int m),.em] =_
 unfold dG
 have s1:db (o2 jg (o2 aH (o2 bz (o2 jg (cl ef (ac (vr 0) (ac (vr 1) ag))) (cn (.int 2147483563))) (cn (.int 69069))) (o2 bz (cn (.int 104723)) (o2 aH (vr 1) (cn (.int 1))))) (cn (.int 2147483563))) (gN 3) [.va (.scr ns),.va (.int k),.va (.int m),.em] = .ok (.nx [.va (.scr ns),.va (.int k),.va (.int m),.va (.int x)]):=by
  refine cI (t:=.int x) (az (u:=.int 2147483563) (az (az (u:=.int 69069) (az (u:=.int 2147483563) (bh (ts:=[.scr ns,.int k]) rfl hc) rfl (iQ (by omega))) rfl (vM (by omega) (by omega))) (az (t:=.int 104723) (u:=.int ((k:Int)+1)) rfl rfl (jf (by omega) (by omega))) rfl) rfl ?_) rfl
  rw[iQ (by omega),hx]
 have s2:db (o2 jg (o2 aH (o2 bz (vr 3) (vr 3)) (o2 jn (vr 3) (cn (.int 3)))) (cn (.int 2147483399))) (gN 3) [.va (.scr ns),.va (.int k),.va (.int m),.va (.int x)] = .ok (.nx [.va (.scr ns),.va (.int k),.va (.int m),.va (.int y)]):=by
  refine cI (t:=.int y) (az (u:=.int 2147483399) (az (az (t:=.int x) (u:=.int x) rfl rfl (jf (by omega) (by omega))) (az (t:=.int x) (u:=.int 3) rfl rfl (kn (by omega) (by omega))) rfl) rfl ?_) rfl
  rw[iQ (by omega),hy]
 rw[aD s1,aD s2];exact eQ (az (u:=.int m) (az (u:=.int 11) (az (u:=.int 2147483647) (az (az (t:=.int y) (u:=.int y) rfl rfl (jf (by omega) (by omega))) (az (t:=.int y) (u:=.int 7) rfl rfl (kn (by omega) (by omega))) rfl) rfl (iQ (by omega))) rfl (kn (by omega) (by omega))) rfl (iQ hm))
theorem dm {ns:List Int}{k:Nat}{m r:Int}{f g h:En->Rs T}{Z:En}(e:ao [.scr ns,.int k,.int m] = .ok (.int r))(h1:f Z= .ok (.scr ns))(h2:g Z= .ok (.int k))(h3:h Z= .ok (.int m)) :
  cl ao (ac f (ac g (ac h ag))) Z= .ok (.int r):=bh (aq h1 (aq h2 (aq h3 rfl))) e
theorem pC:∀(l:List Int) (z y:Int),lP (l++ [z])=true->z<y->lP (l++ [z] ++ [y])=true
 | [],z,y,_,h=>by simp[lP,h]
 | [a],z,y,h,hy=>by
  simp[lP]at h ⊢
  omega
 | a::b::l,z,y,h,hy=>by
  have h':lP (a::b::(l++ [z]))=true:=h;rw[B4,Bool.and_eq_true]at h'
  have ih:=pC (b::l) z y h'.2 hy
  show lP (a::b::(l++ [z] ++ [y]))=true
  rw[B4,h'.1];exact ih
theorem k6:∀l:List Int,je (l.map .int)=some l
 | [] =>rfl
 | a::l=>by rw[List.map_cons,je,k6 l]
def RdOk (l:List Int):Prop:=∃(l':List Int) (z:Int),l=l'++ [z]/\lP l=true/\(∀x∈l,0<=x/\x<=5*l.length)/\z<=5*l.length
abbrev clF:En->Rs Fl:=db (o2 aH (vr 3) (bq (ac (o2 aH (o2 aH (o2 bN (vr 3) (o1 pU (cn (.int 1)))) (cn (.int 1))) (cl ao (ac (vr 0) (ac (o2 aH (o2 aH (vr 1) (cn (.int 3))) (vr 4)) (ac (cn (.int 5)) ag))))) ag))) (gN 3)
theorem yx (l:List T)(z:T):bN (.tup (l++ [z])) (.int (-1))= .ok z:=by
 have e:L2.atI (l++ [z]) (-1)=some z:=by
  unfold L2.atI L2.ixN;simp;rw[if_pos (by omega)]
  have q:(-1+((l.length:Int)+1)).toNat=l.length:=by omega
  show(l++ [z])[(-1+((l.length:Int)+1)).toNat]? =some z
  rw[q];simp
 show(match L2.atI (l++ [z]) (-1)with | some t=>Rs.ok t | none=> .bad)=_
 rw[e]
theorem yT (ns:List Int)(hn:ns.length<=63)(a j:Nat)(s:T)(l:List Int)(h:RdOk l)(hl:l.length<=3):∃l2,clF [.va (.scr ns),.va (.int a),.va s,.va (.tup (l.map .int)),.va (.int j)] = .ok (.nx [.va (.scr ns),.va (.int a),.va s,.va (.tup (l2.map .int)),.va (.int j)])/\RdOk l2/\l2.length=l.length+1:=by
 obtain⟨l',z,rfl,h1,h2,h3⟩:=h;obtain⟨d,ed,d0,d1⟩:=bM ns (a+3+j) 5 hn (by omega)
 refine⟨l'++ [z] ++ [z+1+d],?_,⟨l'++ [z],z+1+d,rfl,pC l' z _ h1 (by omega),?_,?_⟩,by simp⟩
 ·refine cI (t:=.tup ((l'++ [z] ++ [z+1+d]).map .int)) (az (t:=.tup ((l'++ [z]).map .int)) (u:=.tup [.int (z+1+d)]) rfl (cL (ts:=[.int (z+1+d)]) (aq (az (t:=.int (z+1)) (u:=.int d) (az (t:=.int z) (u:=.int 1) (az (t:=.tup ((l'++ [z]).map .int)) (u:=.int (-1)) rfl rfl ?_) rfl rfl) (dm (k:=a+3+j) ed rfl ?_ rfl) rfl) rfl) (ax (k:=1) (by simp))) ?_) rfl
  ·rw[List.map_append];exact yx _ _
  ·refine az (t:=.int ((a:Int)+3)) (u:=.int j) (az (t:=.int a) (u:=.int 3) rfl rfl rfl) rfl ?_
   show Rs.ok (T.int ((a:Int)+3+j))=_
   congr 2
  ·rw[List.map_append (l₁:=l'++ [z])]
   exact kw _ _ (by rw[List.length_append,List.length_map];simp at hl ⊢;omega)
 ·intro x hx
  rcases List.mem_append.mp hx with hx | hx
  ·have:=h2 x hx
   simp only[List.length_append,List.length_singleton]at this ⊢;omega
  ·rw[List.mem_singleton]at hx
   subst hx
   have hz:=h2 z (by simp)
   simp only[List.length_append,List.length_singleton]at h3 ⊢;omega
 ·simp only[List.length_append,List.length_singleton]at h3 ⊢
  omega
theorem sV (ns:List Int)(hn:ns.length<=63)(a:Nat)(s:T):∀(js:List Nat) (l:List Int) (s4:Sl),RdOk l->l.length+js.length<=4->∃l2 s5,a7 (gN 4) clF (js.map λ(j:Nat)=>T.int j) [.va (.scr ns),.va (.int a),.va s,.va (.tup (l.map .int)),s4] = .ok (.nx [.va (.scr ns),.va (.int a),.va s,.va (.tup (l2.map .int)),s5])/\RdOk l2/\l2.length=l.length+js.length
 | [],l,s4,h,_=>⟨l,s4,rfl,h,rfl⟩
 | j::js,l,s4,h,hl=>by
  rw[List.length_cons]at hl;obtain⟨l2,e2,h2,n2⟩:=yT ns hn a j s l h (by omega)
  obtain⟨l3,s5,e3,h3,n3⟩:=sV ns hn a s js l2 (.va (.int j)) h2 (by omega)
  refine⟨l3,s5,?_,h3,by rw[n3,n2,List.length_cons];omega⟩
  rw[List.map_cons,cT (Z1:=[.va (.scr ns),.va (.int a),.va s,.va (.tup (l.map .int)),.va (.int j)]) rfl e2];exact e3
theorem j9 (n:Nat):rng 0 (n:Int)=(List.range n).map λ(j:Nat)=>T.int j:=by
 unfold rng;simp
theorem RdOk.reads {l:List Int}(h:RdOk l)(hl:l.length<=4):cM (.tup (l.map .int))=true:=by
 obtain⟨l',z,rfl,h1,h2,h3⟩:=h;unfold cM;rw[Bool.and_eq_true];refine⟨?_,?_⟩
 ·simp[cY];simp at hl;omega
 ·show(((l'++ [z]).map T.int).all (λu=>a9 u 0 99)&&(match je ((l'++ [z]).map T.int)with | some m=>lP m | none=>false))=true
  rw[k6]
  show(_&&lP (l'++ [z]))=true
  rw[h1,Bool.and_true,List.all_eq_true];intro t ht;obtain⟨x,hx,rfl⟩:=List.mem_map.mp ht
  have:=h2 x hx;simp only[a9,Bool.and_eq_true,decide_eq_true_eq];omega
theorem xu (n:Nat)(l:List Int)(h:l.length<=n):sm n (.tup (l.map .int))=true:=sm_tup.mpr ⟨by rw[List.length_map];exact h,λt ht=>by obtain⟨x,_,rfl⟩:=List.mem_map.mp ht;simp[sm]⟩
theorem wB (ns:List Int)(hn:ns.length<=63)(a:Nat):∃c,bW [.scr ns,.int a] = .ok c/\bj c=true/\sm 8 c=true:=by
 obtain⟨d1,e1,p1,q1⟩:=bM ns a 3 hn (by omega)
 obtain⟨d2,e2,p2,q2⟩:=bM ns (a+2) 6 hn (by omega)
 obtain⟨d3,e3,p3,q3⟩:=bM ns (a+1) 3 hn (by omega)
 obtain⟨d4,e4,p4,q4⟩:=bM ns (a+6) 3 hn (by omega)
 obtain⟨n3,rfl⟩:=Int.eq_ofNat_of_zero_le p3;obtain⟨l,s5,el,hl,nl⟩:=sV ns hn a (.int (1+d1)) (List.range n3) [d2] .em ⟨[],d2,rfl,rfl,λx hx=>by rw[List.mem_singleton]at hx;subst hx;simp;omega,by simp;omega⟩ (by simp;omega)
 have nl':l.length<=4:=by rw[nl];simp;omega
 have hr:=hl.reads nl';refine⟨.tup [.int (1+d1),.int (1+d1+d4),.tup (l.map .int)],cS rfl ?_,?_,?_⟩
 ·show dH [.va (.scr ns),.va (.int a),.em,.em,.em] =_
  unfold dH;rw[aD (Z':=[.va (.scr ns),.va (.int a),.va (.int (1+d1)),.em,.em]) (cI (t:=.int (1+d1)) (az (t:=.int 1) rfl (dm e1 rfl rfl rfl) rfl) rfl)];rw[aD (Z':=[.va (.scr ns),.va (.int a),.va (.int (1+d1)),.va (.tup ([d2].map .int)),.em]) (cI (t:=.tup [.int d2]) (cL (ts:=[.int d2]) (aq (dm (k:=a+2) e2 rfl rfl rfl) rfl) (ax (k:=1) (by simp))) rfl)]
  rw[aD ((ei (yD (aq (dm (k:=a+1) e3 rfl rfl rfl) rfl) (by omega) (by omega)) (by rw[j9];exact el)))]
  exact eQ (cL (aq (t:=.int (1+d1)) rfl (aq (az (t:=.int (1+d1)) rfl (dm (k:=a+6) e4 rfl rfl rfl) rfl) (aq (t:=.tup (l.map .int)) rfl rfl))) (ax (k:=3) (by simp)))
 ·show(true&&(lZ (.int (1+d1)) (.int (1+d1+d4))&&cM _))=true
  rw[hr];simp only[lZ,a9,Bool.true_and,Bool.and_true,Bool.and_eq_true,decide_eq_true_eq];omega
 ·refine sm_tup.mpr ⟨by simp,λt ht=> ?_⟩
  rcases List.mem_cons.mp ht with rfl | ht
  ·simp[sm]
  ·rcases List.mem_cons.mp ht with rfl | ht
   ·simp[sm]
   ·rw[List.mem_singleton]at ht;subst ht;exact xu 8 l (by omega)
theorem kg {y:T}:∀(cs:List T) (i:Nat),y∈dY i cs->∃c k:Nat,y= .tup [.int c,.int k]/\i<=c/\c<i+cs.length/\k<Ag (cs.getD (c - i) .non)
 | [],i,h=>by cases h
 | x::cs,i,h=>by
  rw[dY]at h;rcases List.mem_append.mp h with h | h
  ·unfold j6 at h
   obtain⟨t,ht,rfl⟩:=List.mem_map.mp h;obtain⟨j,rfl,hj⟩:=hV ht;refine⟨i,j,rfl,Nat.le_refl _,by rw[List.length_cons];omega,?_⟩
   rw[Nat.sub_self]
   show j<Ag x
   omega
  ·obtain⟨c,k,e,h1,h2,h3⟩:=kg cs (i+1) h
   refine⟨c,k,e,by omega,by rw[List.length_cons];omega,?_⟩
   have:c - i=(c - (i+1))+1:=by omega
   rw[this];exact h3
theorem zG {cs:List T}{y:T}(h:y∈dY 0 cs):aX cs y=true:=by
 obtain⟨c,k,rfl,_,h2,h3⟩:=kg cs 0 h
 show(decide ((0:Int)<=(c:Int))&&decide ((c:Int)<(cs.length:Int))&&(decide ((0:Int)<=(k:Int))&&decide ((k:Int)<(reads cs (c:Int):Int))))=true
 rw[Nat.sub_zero]at h3;rw[mE];simp only[Bool.and_eq_true,decide_eq_true_eq];omega
theorem jA:∀(cs:List T) (i:Nat),(dY i cs).Nodup
 | [],i=>List.nodup_nil
 | x::cs,i=>by
  rw[dY,List.nodup_append];refine⟨?_,jA cs (i+1),?_⟩
  ·unfold j6 rng
   rw[List.map_map];rw[List.nodup_iff_pairwise_ne,List.pairwise_map];refine List.nodup_range.imp ?_
   intro a b hab e
   simp at e
   exact hab (by omega)
  ·intro a ha b hb e
   subst e;unfold j6 at ha;obtain⟨t,ht,rfl⟩:=List.mem_map.mp ha;obtain⟨c,k,e,h1,_,_⟩:=kg cs (i+1) hb
   simp at e
   omega
theorem vI {l:List T}(h:l.Nodup){i j:Nat}(hi:i<l.length)(hj:j<l.length)(hij:i≠j):l[i] ≠l[j]:=by
 rw[List.nodup_iff_pairwise_ne,List.pairwise_iff_getElem]at h;rcases Nat.lt_or_ge i j with q | q
 ·exact h i j hi hj q
 ·exact λe=>h j i hj hi (by omega) e.symm
theorem oq:∀(cs:List T) (i:Nat),(∀c∈cs,bj c=true)->(dY i cs).length<=4*cs.length
 | [],i,_=>Nat.le_refl _
 | x::cs,i,h=>by
  obtain⟨a,b,r,rfl,_,h2⟩:=eC (h x List.mem_cons_self)
  have:=oq cs (i+1) λc hc=>h c (List.mem_cons_of_mem _ hc)
  rw[dY,List.length_append,f9,List.length_cons]
  show r.length+_<=_
  omega
theorem ww {cs:List T}{a b:T}(ha:aX cs a=true)(hb:aX cs b=true)(h:a≠b):bO a b=false:=by
 obtain⟨c,k,rfl⟩:=ez ha;obtain⟨c',k',rfl⟩:=ez hb;rw[Bool.eq_false_iff];intro e;simp[bO,beqTs]at e;exact h (by rw[e.1,e.2])
theorem pd {cs:List T}{a:T}(ha:aX cs a=true):sm 8 a=true:=by
 obtain⟨c,k,rfl⟩:=ez ha;simp[sm,sms]
theorem rg {l:List T}{i:Nat}(h:i<l.length):bN (.lst l) (.int (i:Int))= .ok l[i]:=by
 show(match L2.atI l (i:Int)with | some t=>Rs.ok t | none=> .bad)=_
 rw[iX (List.getElem?_eq_getElem h)]
theorem Bt (a b:Int):lR (.int a) (.int b)= .ok (.bl (a == b)):=by
 unfold lR;rw[if_pos (gW (by simp[T.dep]) rfl rfl)]
 rfl
theorem ug (ns:List Int)(hn:ns.length<=63)(a:Nat)(cs:List T)(hc:aV (.tup cs)=true):∃r,cF [.scr ns,.int a,.tup cs] = .ok r/\(r= .non\/(bo cs r=true/\sm 8 r=true)):=by
 obtain⟨ha,h1,h4⟩:=cy hc
 have hlen:=oq cs 0 ha
 have er:=qm cs hc
 have gl:∀s4 s5 s6 s7:Sl,cl cG (ac (vr 3) ag) [.va (.scr ns),.va (.int a),.va (.tup cs),.va (.lst (dY 0 cs)),s4,s5,s6,s7] = .ok (.int ((dY 0 cs).length:Nat)):=λ_ _ _ _=>rfl
 have s1:db (cl cb (ac (vr 2) ag)) (gN 3) [.va (.scr ns),.va (.int a),.va (.tup cs),.em,.em,.em,.em,.em] = .ok (.nx [.va (.scr ns),.va (.int a),.va (.tup cs),.va (.lst (dY 0 cs)),.em,.em,.em,.em]):=cI (bh (ts:=[.tup cs]) rfl er) rfl
 have lt:o2 qV (cl cG (ac (vr 3) ag)) (cn (.int 2)) [.va (.scr ns),.va (.int a),.va (.tup cs),.va (.lst (dY 0 cs)),.em,.em,.em,.em] = .ok (.bl (decide (((dY 0 cs).length:Int)<2))):=az (t:=.int ((dY 0 cs).length:Nat)) (u:=.int 2) (gl _ _ _ _) rfl rfl
 by_cases hs:(dY 0 cs).length<2
 ·refine⟨.non,cS rfl ?_,.inl rfl⟩
  show cg [.va (.scr ns),.va (.int a),.va (.tup cs),.em,.em,.em,.em,.em] =_
  unfold cg;rw[aD s1];rw[decide_eq_true (by omega)]at lt
  exact vW ((ji (cC lt)).trans rfl)
 ·rw[decide_eq_false (by omega)]at lt
  generalize hN:(dY 0 cs).length=n at*
  obtain⟨d1,e1,p1,q1⟩:=bM ns a (n:Int) hn (by omega)
  obtain⟨d2,e2,p2,q2⟩:=bM ns (a+1) ((n:Int) - 1) hn (by omega)
  obtain⟨d3,e3,p3,q3⟩:=bM ns (a+2) 8 hn (by omega)
  obtain⟨d4,e4,p4,q4⟩:=bM ns (a+3) 3 hn (by omega)
  obtain⟨d5,e5,p5,q5⟩:=bM ns (a+4) 9 hn (by omega)
  obtain⟨i,rfl⟩:=Int.eq_ofNat_of_zero_le p1;obtain⟨d2,rfl⟩:=Int.eq_ofNat_of_zero_le p2
  have hi:i<(dY 0 cs).length:=by omega
  have hj:(i+1+d2) % n<(dY 0 cs).length:=by rw[hN];exact Nat.mod_lt _ (by omega)
  have hij:i≠(i+1+d2) % n:=by
   rcases Nat.lt_or_ge (i+1+d2) n with q | q
   ·rw[Nat.mod_eq_of_lt q];omega
   ·have:(i+1+d2) % n=i+1+d2 - n:=by
     rw[Nat.mod_eq_sub_mod q,Nat.mod_eq_of_lt (by omega)]
    rw[this];omega
  have eA:=zG (List.getElem_mem hi)
  have eB:=zG (List.getElem_mem hj)
  have eN:(dY 0 cs)[i] ≠(dY 0 cs)[(i+1+d2) % n]:=vI (jA cs 0) hi hj hij
  generalize hA:(dY 0 cs)[i] =A at*
  generalize hB:(dY 0 cs)[(i+1+d2) % n] =B at*
  let y:T:=if d4 == 0 then .non else .int (d3+d5)
  refine⟨.tup [A,B,.int d3,y],cS rfl ?_,.inr ⟨?_,?_⟩⟩
  ·show cg [.va (.scr ns),.va (.int a),.va (.tup cs),.em,.em,.em,.em,.em] =_
   unfold cg;rw[aD s1];rw[aD (Z':=[.va (.scr ns),.va (.int a),.va (.tup cs),.va (.lst (dY 0 cs)),.em,.em,.em,.em]) ((f8 (cC lt)).trans rfl)];rw[aD (Z':=[.va (.scr ns),.va (.int a),.va (.tup cs),.va (.lst (dY 0 cs)),.va (.int (i:Nat)),.em,.em,.em]) (cI (dm e1 rfl rfl (gl _ _ _ _)) rfl)];rw[aD (Z':=[.va (.scr ns),.va (.int a),.va (.tup cs),.va (.lst (dY 0 cs)),.va (.int (i:Nat)),.va (.int ((i+1+d2) % n:Nat)),.em,.em]) (cI (t:=.int ((i+1+d2) % n:Nat)) (az (t:=.int ((i:Int)+1+d2)) (u:=.int n) (az (t:=.int ((i:Int)+1)) (u:=.int d2) rfl (dm (k:=a+1) e2 rfl rfl (az (t:=.int n) (u:=.int 1) (gl _ _ _ _) rfl rfl)) rfl) (gl _ _ _ _) (iQ (by omega))) rfl)]
   rw[aD (Z':=[.va (.scr ns),.va (.int a),.va (.tup cs),.va (.lst (dY 0 cs)),.va (.int (i:Nat)),.va (.int ((i+1+d2) % n:Nat)),.va (.int d3),.em]) (cI (dm (k:=a+2) e3 rfl rfl rfl) rfl)]
   have ey:oM (tb (o2 lR (cl ao (ac (vr 0) (ac (o2 aH (vr 1) (cn (.int 3))) (ac (cn (.int 3)) ag)))) (cn (.int 0)))) (cn .non) (o2 aH (vr 6) (cl ao (ac (vr 0) (ac (o2 aH (vr 1) (cn (.int 4))) (ac (cn (.int 9)) ag))))) [.va (.scr ns),.va (.int a),.va (.tup cs),.va (.lst (dY 0 cs)),.va (.int (i:Nat)),.va (.int ((i+1+d2) % n:Nat)),.va (.int d3),.em] = .ok y:=by
    rw[mQ (cC (az (u:=.int 0) (dm (k:=a+3) e4 rfl rfl rfl) rfl (Bt _ _)))]
    show _=Rs.ok (if d4 == 0 then T.non else .int (d3+d5))
    cases d4 == 0 with
    | true=>rfl
    | false=>exact az (t:=.int d3) rfl (dm (k:=a+4) e5 rfl rfl rfl) rfl
   rw[aD (Z':=[.va (.scr ns),.va (.int a),.va (.tup cs),.va (.lst (dY 0 cs)),.va (.int (i:Nat)),.va (.int ((i+1+d2) % n:Nat)),.va (.int d3),.va y]) (cI ey rfl)];refine eQ (cL (aq (t:=A) (az (t:=.lst (dY 0 cs)) (u:=.int (i:Nat)) rfl rfl ?_) (aq (t:=B) (az (t:=.lst (dY 0 cs)) (u:=.int ((i+1+d2) % n:Nat)) rfl rfl ?_) (aq (t:=.int d3) rfl (aq (t:=y) rfl rfl)))) (ax (k:=4) (by simp)))
   ·rw[<-hA];exact rg hi
   ·rw[<-hB];exact rg hj
  ·show(dX (.int d3) y&&(aX cs A&&(aX cs B&& !bO A B)))=true
   rw[eA,eB,ww eA eB eN]
   have:dX (.int d3) y=true:=by
    show(a9 (.int d3) 0 999&&(match(T.int d3),(if d4 == 0 then T.non else .int (d3+d5))with | _,.non=>true | .int i,_=>a9 (if d4 == 0 then T.non else .int (d3+d5)) i 999 | _,_=>false))=true
    cases d4 == 0 with
    | true=>simp[a9];omega
    | false=>simp[a9];omega
   rw[this];rfl
  ·refine sm_tup.mpr ⟨by simp,λt ht=> ?_⟩
   have hy:sm 8 y=true:=by show sm 8 (if d4 == 0 then T.non else .int (d3+d5))=true;cases d4 == 0 <;> simp[sm]
   simp only[List.mem_cons,List.not_mem_nil,or_false]at ht;rcases ht with rfl | rfl | rfl | rfl
   ·exact pd eA
   ·exact pd eB
   ·simp[sm]
   ·exact hy
def BM:Rs T->T
 | .ok t=>t
 | _=> .non
theorem n9 (l:List T)(k:Int)(h : -(2 ^ 63)<=k/\k<2 ^ 63/\l.length*k.toNat<=sizeLine):bz (.lst l) (.int k)= .ok (.lst (List.replicate k.toNat l).flatten):=by
 show qU (.lst l) (.int k)=_
 unfold qU;exact if_pos h
theorem mul_one (x:T)(b:Bool):bz (.lst [x]) (.int (if b then 1 else 0))= .ok (.lst (if b then [x]else [])):=by
 cases b with
 | true=>exact n9 [x] 1 ⟨by decide,by decide,ax (k:=1) (by simp)⟩
 | false=>exact n9 [x] 0 ⟨by decide,by decide,ax (k:=1) (by simp)⟩
abbrev leF:En->Rs Fl:=aB (db (cl cF (ac (vr 0) (ac (o2 aH (o2 aH (vr 1) (cn (.int 31))) (o2 bz (cn (.int 6)) (vr 5))) (ac (vr 3) ag)))) (gN 6)) (db (o2 aH (vr 4) (o2 bz (dg (ac (vr 6) ag)) (cl wj (ac (o2 cK (vr 6) (cn .non)) ag)))) (gN 4))
def uz (cs ls:List T):Prop:=∀t∈ls,bo cs t=true/\sm 8 t=true
theorem yo (ns:List Int)(hn:ns.length<=63)(a j:Nat)(m:T)(cs ls:List T)(hc:aV (.tup cs)=true)(h:uz cs ls)(hl:ls.length<=100)(s6:Sl) :
  ∃ls2 s7,leF [.va (.scr ns),.va (.int a),.va m,.va (.tup cs),.va (.lst ls),.va (.int j),s6] = .ok (.nx [.va (.scr ns),.va (.int a),.va m,.va (.tup cs),.va (.lst ls2),.va (.int j),s7])/\uz cs ls2/\ls2.length<=ls.length+1:=by
 obtain⟨r,er,hr⟩:=ug ns hn (a+31+6*j) cs hc
 have e1:∀G,aB (db (cl cF (ac (vr 0) (ac (o2 aH (o2 aH (vr 1) (cn (.int 31))) (o2 bz (cn (.int 6)) (vr 5))) (ac (vr 3) ag)))) (gN 6)) G [.va (.scr ns),.va (.int a),.va m,.va (.tup cs),.va (.lst ls),.va (.int j),s6] =G [.va (.scr ns),.va (.int a),.va m,.va (.tup cs),.va (.lst ls),.va (.int j),.va r]:=λG=>by
  refine aD (cI (t:=r) (bh (ts:=[.scr ns,.int (a+31+6*j:Nat),.tup cs]) (aq (t:=.scr ns) rfl (aq (t:=.int (a+31+6*j:Nat)) (az (t:=.int ((a:Int)+31)) (u:=.int (6*(j:Int))) rfl (az (t:=.int 6) (u:=.int j) rfl rfl (jf (by omega) (by omega))) rfl) (aq (t:=.tup cs) rfl rfl))) er) rfl)
 have e2:cl wj (ac (o2 cK (vr 6) (cn .non)) ag) [.va (.scr ns),.va (.int a),.va m,.va (.tup cs),.va (.lst ls),.va (.int j),.va r] = .ok (.int (if !r.isN then 1 else 0)):=bh (ts:=[.bl (!r.isN)]) rfl rfl
 refine⟨ls++(if !r.isN then [r]else []),.va r,?_,?_,?_⟩
 ·refine(e1 _).trans (cI (az (t:=.lst ls) (u:=.lst (if !r.isN then [r]else [])) rfl (az (t:=.lst [r]) (gR (ts:=[r]) rfl (ax (k:=1) (by simp))) e2 (mul_one _ _)) (oF _ _ ?_)) rfl)
  rw[List.length_append];cases r.isN <;> simp <;> omega
 ·intro t ht
  rcases List.mem_append.mp ht with ht | ht
  ·exact h t ht
  ·rcases hr with rfl | hr
   ·cases ht
   ·cases q:r.isN with
    | true=>rw[q]at ht;cases ht
    | false=>
     rw[q]at ht;rw[show t=r by simpa using ht]
     exact hr
 ·rw[List.length_append]
  cases r.isN <;> simp
theorem si (ns:List Int)(hn:ns.length<=63)(a:Nat)(m:T)(cs:List T)(hc:aV (.tup cs)=true):∀(js:List Nat) (ls:List T) (s5 s6:Sl),uz cs ls->ls.length+js.length<=100 →
  ∃ls2 t5 t6,a7 (gN 5) leF (js.map λ(j:Nat)=>T.int j) [.va (.scr ns),.va (.int a),.va m,.va (.tup cs),.va (.lst ls),s5,s6] = .ok (.nx [.va (.scr ns),.va (.int a),.va m,.va (.tup cs),.va (.lst ls2),t5,t6])/\uz cs ls2/\ls2.length<=ls.length+js.length
 | [],ls,s5,s6,h,_=>⟨ls,s5,s6,rfl,h,Nat.le_refl _⟩
 | j::js,ls,s5,s6,h,hl=>by
  rw[List.length_cons]at hl;obtain⟨l2,s7,e2,h2,n2⟩:=yo ns hn a j m cs ls hc h (by omega) s6
  obtain⟨l3,t5,t6,e3,h3,n3⟩:=si ns hn a m cs hc js l2 (.va (.int j)) s7 h2 (by omega)
  refine⟨l3,t5,t6,?_,h3,by rw[List.length_cons];omega⟩
  rw[List.map_cons,cT (Z1:=[.va (.scr ns),.va (.int a),.va m,.va (.tup cs),.va (.lst ls),.va (.int j),s6]) rfl e2];exact e3
theorem Bw (ns:List Int)(hn:ns.length<=63)(a m:Nat)(hm:m<=8):∃cs ls,dU [.scr ns,.int a,.int m] = .ok (.tup [.tup cs,.tup ls])/\aV (.tup cs)=true/\cs.length<=3/\(∀c∈cs,sm 8 c=true)/\uz cs ls/\ls.length<=m:=by
 obtain⟨d1,e1,p1,q1⟩:=bM ns a 3 hn (by omega)
 obtain⟨d2,e2,p2,q2⟩:=bM ns (a+30) ((m:Int)+1) hn (by omega)
 obtain⟨d1,rfl⟩:=Int.eq_ofNat_of_zero_le p1;obtain⟨d2,rfl⟩:=Int.eq_ofNat_of_zero_le p2
 let hcl:T->T:=λt=>match t with
  | .int k=>BM (bW [.scr ns,.int ((a:Int)+1+8*k)])
  | _=> .non
 have hh:∀t∈rng 0 ((1+d1:Nat):Int),∃k:Nat,t= .int k/\bW [.scr ns,.int ((a+1+8*k:Nat):Int)] = .ok (hcl t)/\bj (hcl t)=true/\sm 8 (hcl t)=true:=λt ht=>by
  obtain⟨k,rfl,_⟩:=hV ht;obtain⟨c,ec,h1,h2⟩:=wB ns hn (a+1+8*k)
  have e:hcl (.int k)=c:=by
   show BM (bW [.scr ns,.int ((a+1+8*k:Nat):Int)])=c
   rw[ec];rfl
  exact⟨k,rfl,by rw[e];exact ec,by rw[e];exact h1,by rw[e];exact h2⟩
 generalize hcs:(rng 0 ((1+d1:Nat):Int)).map hcl=cs
 have lc:cs.length=1+d1:=by rw[<-hcs,List.length_map,fJ]
 have hc:aV (.tup cs)=true:=by
  show(cY (.tup cs) 1 4&&cs.all bj)=true
  rw[Bool.and_eq_true,List.all_eq_true];refine⟨by simp[cY];omega,λc h=> ?_⟩
  rw[<-hcs]at h;obtain⟨t,ht,rfl⟩:=List.mem_map.mp h;obtain⟨_,_,_,h1,_⟩:=hh t ht;exact h1
 have hsm:∀c∈cs,sm 8 c=true:=λc h=>by
  rw[<-hcs]at h;obtain⟨t,ht,rfl⟩:=List.mem_map.mp h;obtain⟨_,_,_,_,h1⟩:=hh t ht;exact h1
 obtain⟨ls,t5,t6,el,hl,nl⟩:=si ns hn a (.int m) cs hc (List.range d2) [] .em .em (λt h=>by cases h) (by simp;omega)
 refine⟨cs,ls,cS rfl ?_,hc,by omega,hsm,hl,by simp at nl;omega⟩
 show dj [.va (.scr ns),.va (.int a),.va (.int m),.em,.em,.em,.em] =_
 unfold dj
 have s1:db (cl gF (ac (eh (iR (ac (o2 aH (cn (.int 1)) (cl ao (ac (vr 0) (ac (vr 1) (ac (cn (.int 3)) ag))))) ag)) [none,some 0,some 1] (gN 0) bT (cl bW (ac (vr 1) (ac (o2 aH (o2 aH (vr 2) (cn (.int 1))) (o2 bz (cn (.int 8)) (vr 0))) ag)))) ag)) (gN 3) [.va (.scr ns),.va (.int a),.va (.int m),.em,.em,.em,.em] = .ok (.nx [.va (.scr ns),.va (.int a),.va (.int m),.va (.tup cs),.em,.em,.em]):=by
  refine cI (t:=.tup cs) (bh (ts:=[.lst cs]) (aq (t:=.lst cs) ?_ rfl) rfl) rfl
  rw[<-hcs];refine qe (ts:=rng 0 ((1+d1:Nat):Int)) (h:=hcl) (yD (aq (t:=.int ((1+d1:Nat):Int)) (az (t:=.int 1) (u:=.int d1) rfl (dm e1 rfl rfl rfl) rfl) rfl) (by omega) (by omega)) (ax (k:=3) (by rw[fJ];omega)) (by simp) λt ht=> ?_
  obtain⟨k,rfl,ek,_,_⟩:=hh t ht;refine bh (ts:=[.scr ns,.int ((a+1+8*k:Nat):Int)]) (aq (t:=.scr ns) rfl (aq (az (t:=.int ((a:Int)+1)) (u:=.int (8*(k:Int))) rfl (az (t:=.int 8) (u:=.int k) rfl rfl (jf (by omega) (by omega))) rfl) rfl)) ek
 rw[aD s1];rw[aD (Z':=[.va (.scr ns),.va (.int a),.va (.int m),.va (.tup cs),.va (.lst []),.em,.em]) (cI (gR (ts:=[]) rfl (ax (k:=0) (by simp))) rfl)]
 rw[aD ((ei (yD (aq (dm (k:=a+30) e2 rfl rfl (az (t:=.int m) (u:=.int 1) rfl rfl rfl)) rfl) (by omega) (by omega)) (by rw[j9];exact el)))]
 exact eQ (cL (aq (t:=.tup cs) rfl (aq (t:=.tup ls) rfl rfl)) (ax (k:=2) (by simp)))
theorem jh {cs:List T}{t:T}(h:bo cs t=true):∃a b x y,t= .tup [a,b,x,y]/\dX x y=true/\aX cs a=true/\aX cs b=true/\bO a b=false:=by
 unfold bo at h
 split at h
 ·simp only[Bool.and_eq_true,Bool.not_eq_true']at h
  exact⟨_,_,_,_,rfl,h.1,h.2.1,h.2.2.1,h.2.2.2⟩
 ·cases h
theorem Af {cs ls:List T}(hc:aV (.tup cs)=true)(hs:∀c∈cs,sm 8 c=true)(hl:uz cs ls)(hn:ls.length<=8):fK (.tup [.tup cs,.tup ls])=true/\sm 8 (.tup [.tup cs,.tup ls])=true:=by
 refine⟨?_,?_⟩
 ·show(aV (.tup cs)&&(cY (.tup ls) 0 8&&ls.all (bo cs)))=true
  rw[hc,Bool.true_and,Bool.and_eq_true,List.all_eq_true];exact⟨by simp[cY];exact hn,λt ht=>(hl t ht).1⟩
 ·refine sm_tup.mpr ⟨by simp,λt ht=> ?_⟩
  simp only[List.mem_cons,List.not_mem_nil,or_false]at ht;rcases ht with rfl | rfl
  ·exact sm_tup.mpr ⟨by have:=(cy hc).2.2;omega,hs⟩
  ·exact sm_tup.mpr ⟨hn,λt ht=>(hl t ht).2⟩
end G
namespace Tr
open PySem
section
variable {f fa fb:En->Rs T}{fs:En->Rs (List T)}{b c:En->Rs Bool}{F G:En->Rs Fl}{Z Z' Z1 Z2:En}{t u r:T}{ts l m:List T}
mutual
theorem jH:∀(t:T),t.pl=true->bO t t=true
 | .non,_=>rfl
 | .bl a,_=>by simp[bO]
 | .int a,_=>by simp[bO]
 | .str a,_=>by simp[bO]
 | .tup l,h=>by rw[bO];exact beqTs_refl l (by unfold T.pl at h;exact h)
 | .lst l,h=>by rw[bO];exact beqTs_refl l (by unfold T.pl at h;exact h)
 | .scr _,h=>by simp[T.pl]at h
theorem beqTs_refl:∀(l:List T),plS l=true->beqTs l l=true
 | [],_=>rfl
 | t::l,h=>by
  unfold plS at h;rw[Bool.and_eq_true]at h;rw[beqTs,jH t h.1,beqTs_refl l h.2];rfl
end
theorem n6 (hp:t.pl=true)(hd:t.dep<=60):hZ t t= .ok (.bl false):=by
 unfold hZ;rw[if_pos (gW hd (T.pl_nd _ hp) (T.pl_nd _ hp)),jH t hp];rfl
theorem yF (hp:t.pl=true)(hd:t.dep<=60):lR t t= .ok (.bl true):=by
 unfold lR;rw[if_pos (gW hd (T.pl_nd _ hp) (T.pl_nd _ hp)),jH t hp]
theorem sT {n:Nat}:∀{l:List T},(∀t∈l,t.dep<=n)->deps l<=n
 | [],_=>by unfold deps;omega
 | t::l,h=>by
  unfold deps
  have:=sT (l:=l) λu hu=>h u (List.mem_cons_of_mem _ hu)
  have:=h t List.mem_cons_self;omega
theorem gk:∀{l:List T},(∀t∈l,t.pl=true)->plS l=true
 | [],_=>rfl
 | t::l,h=>by unfold plS;rw[h t List.mem_cons_self,gk λu hu=>h u (List.mem_cons_of_mem _ hu)];rfl
theorem A3 {n:Nat}(hn:n<=59)(h:∀t∈l,t.pl=true/\t.dep<=n):hZ (.lst l) (.lst l)= .ok (.bl false):=
 n6 (by unfold T.pl;exact gk λt ht=>(h t ht).1) (by unfold T.dep;have:=sT (l:=l) (n:=n) λt ht=>(h t ht).2;omega)
end
end Tr
namespace G
open PySem Tr
def dr (r:List Int)(k:Nat):Int:=r.getD (k+1) 0 - r.getD k 0
def pr (n:Nat)(x y:Int)(r:List Int)(k:Nat):List T:=
 [.tup [.tup [.int n,.int k],.tup [.int n,.int ((k+1:Nat):Int)],.int (dr r k*y)],.tup [.tup [.int n,.int ((k+1:Nat):Int)],.tup [.int n,.int k],.int (-dr r k*x)]]
def cB (n:Nat)(x y:Int)(r:List Int):List T:=(List.range (r.length - 1)).flatMap (pr n x y r)
abbrev wQ (n:Nat)(x y:Int)(r:List Int)(acc:List T)(s4 s5 s6 s7:Sl):En:=[.va (.int n),.va (.tup [.int x,.int y,.tup (r.map .int)]),.va (.tup (r.map .int)),.ow (.lst acc),s4,s5,s6,s7]
abbrev bcF:En->Rs Fl:=(aB (db (bq (ac (vr 0) (ac (vr 4) ag))) (gN 5)) (aB (db (bq (ac (vr 0) (ac (o2 aH (vr 4) (cn (.int 1))) ag))) (gN 6)) (aB (db (o2 bP (o2 bN (vr 2) (o2 aH (vr 4) (cn (.int 1)))) (o2 bN (vr 2) (vr 4))) (gN 7)) (aB (gy 3 (bq (ac (vr 5) (ac (vr 6) (ac (o2 bz (vr 7) (o2 bN (vr 1) (cn (.int 1)))) ag))))) (gy 3 (bq (ac (vr 6) (ac (vr 5) (ac (o2 bz (o1 pU (vr 7)) (o2 bN (vr 1) (cn (.int 0)))) ag)))))))))
theorem kl {r:List Int}{k:Nat}(h:k<r.length):(r.map T.int)[k]? =some (.int (r.getD k 0)):=by
 rw[List.getElem?_map,List.getElem?_eq_getElem h]
 simp[h]
theorem yW (n:Nat)(x y:Int)(r:List Int)(acc:List T)(k:Nat)(s5 s6 s7:Sl)(hk:k+1<r.length)(hx:0<=x/\x<=9)(hy:0<=y/\y<=9)(ha:acc.length<=100) :
  bcF (wQ n x y r acc (.va (.int k)) s5 s6 s7)= .ok (.nx (wQ n x y r (acc++pr n x y r k) (.va (.int k)) (.va (.tup [.int n,.int k])) (.va (.tup [.int n,.int ((k+1:Nat):Int)])) (.va (.int (dr r k))))):=by
 have h2:([T.int n,T.int k]:List T).length<=sizeLine:=ax (k:=2) (by simp)
 have ek:((k:Int)+1)=((k+1:Nat):Int):=by omega
 refine(aD (Z':=wQ n x y r acc (.va (.int k)) (.va (.tup [.int n,.int k])) s6 s7) (cI (cL rfl (ax (k:=2) (by simp))) rfl)).trans ?_
 refine(aD (Z':=wQ n x y r acc (.va (.int k)) (.va (.tup [.int n,.int k])) (.va (.tup [.int n,.int ((k+1:Nat):Int)])) s7) (cI (cL (aq rfl (aq (t:=.int ((k+1:Nat):Int)) (az (t:=.int k) (u:=.int 1) rfl rfl (congrArg (λz=>Rs.ok (T.int z)) ek)) rfl)) (ax (k:=2) (by simp))) rfl)).trans ?_
 refine(aD (Z':=wQ n x y r acc (.va (.int k)) (.va (.tup [.int n,.int k])) (.va (.tup [.int n,.int ((k+1:Nat):Int)])) (.va (.int (dr r k)))) (cI (t:=.int (dr r k)) (az (t:=.int (r.getD (k+1) 0)) (u:=.int (r.getD k 0)) (t9 (n:=k+1) rfl (az (t:=.int k) (u:=.int 1) rfl rfl (congrArg (λz=>Rs.ok (T.int z)) ek)) (kl hk)) (t9 (n:=k) rfl rfl (kl (by omega))) rfl) rfl)).trans ?_
 refine(aD (Z':=wQ n x y r (acc++ [.tup [.tup [.int n,.int k],.tup [.int n,.int ((k+1:Nat):Int)],.int (dr r k*y)]]) (.va (.int k)) (.va (.tup [.int n,.int k])) (.va (.tup [.int n,.int ((k+1:Nat):Int)])) (.va (.int (dr r k)))) (lq (l:=acc) (cL (aq rfl (aq rfl (aq (az (t:=.int (dr r k)) (u:=.int y) rfl rfl (vM (by omega) (by omega))) rfl))) (ax (k:=3) (by simp))) rfl (by omega))).trans ?_
 refine(lq (l:=acc++ [.tup [.tup [.int n,.int k],.tup [.int n,.int ((k+1:Nat):Int)],.int (dr r k*y)]]) (cL (aq rfl (aq rfl (aq (az (t:=.int (-dr r k)) (u:=.int x) rfl rfl (vM (by omega) (by omega))) rfl))) (ax (k:=3) (by simp))) rfl (by rw[List.length_append];simp;omega)).trans ?_
 rw[List.append_assoc]
 rfl
theorem sZ (n:Nat)(x y:Int)(r:List Int)(hx:0<=x/\x<=9)(hy:0<=y/\y<=9):∀(js:List Nat) (acc:List T) (s4 s5 s6 s7:Sl),(∀k∈js,k+1<r.length)->acc.length+2*js.length<=100 →
  ∃t4 t5 t6 t7,a7 (gN 4) bcF (js.map λ(k:Nat)=>T.int k) (wQ n x y r acc s4 s5 s6 s7)= .ok (.nx (wQ n x y r (acc++js.flatMap (pr n x y r)) t4 t5 t6 t7))
 | [],acc,s4,s5,s6,s7,_,_=>⟨s4,s5,s6,s7,by simp[a7]⟩
 | k::js,acc,s4,s5,s6,s7,hk,hl=>by
  rw[List.length_cons]at hl
  have e:=yW n x y r acc k s5 s6 s7 (hk k List.mem_cons_self) hx hy (by omega)
  obtain⟨t4,t5,t6,t7,ih⟩:=sZ n x y r hx hy js (acc++pr n x y r k) (.va (.int k)) (.va (.tup [.int n,.int k])) (.va (.tup [.int n,.int ((k+1:Nat):Int)])) (.va (.int (dr r k))) (λj hj=>hk j (List.mem_cons_of_mem _ hj)) (by rw[List.length_append];simp[pr];omega)
  refine⟨t4,t5,t6,t7,?_⟩
  rw[List.map_cons,cT (Z1:=wQ n x y r acc (.va (.int k)) s5 s6 s7) rfl e,ih,List.flatMap_cons,List.append_assoc]
theorem wF (n:Nat)(x y:Int)(r:List Int)(hx:0<=x/\x<=9)(hy:0<=y/\y<=9)(h1:1<=r.length)(h4:r.length<=4):bU [.int n,.tup [.int x,.int y,.tup (r.map .int)]] = .ok (.lst (cB n x y r)):=by
 refine cS rfl ?_
 show bY [.va (.int n),.va (.tup [.int x,.int y,.tup (r.map .int)]),.em,.em,.em,.em,.em,.em] =_
 unfold bY;rw[aD (Z':=[.va (.int n),.va (.tup [.int x,.int y,.tup (r.map .int)]),.va (.tup (r.map .int)),.em,.em,.em,.em,.em]) (cI (t:=.tup (r.map .int)) rfl rfl)];rw[aD (Z':=wQ n x y r [] .em .em .em .em) rfl];obtain⟨t4,t5,t6,t7,e⟩:=sZ n x y r hx hy (List.range (r.length - 1)) [] .em .em .em .em (λk hk=>by have:=List.mem_range.mp hk;omega) (by simp;omega)
 have e1:iR (ac (o2 bP (cl cG (ac (vr 2) ag)) (cn (.int 1))) ag) (wQ n x y r [] .em .em .em .em)= .ok (rng 0 ((r.length - 1:Nat):Int)):=by
  refine yD (j:=((r.length - 1:Nat):Int)) (aq (az (t:=.int (r.length:Nat)) (u:=.int 1) (bh (ts:=[.tup (r.map .int)]) rfl (by show Rs.ok (T.int ((r.map T.int).length:Nat))=_;rw[List.length_map])) rfl (congrArg (λz=>Rs.ok (T.int z)) (by omega))) rfl) (by omega) (by omega)
 rw[aD ((ei (ts:=(List.range (r.length - 1)).map λ(k:Nat)=>T.int k) (by rw[e1,j9]) e))]
 rfl
theorem gu {t:T}(h:bj t=true):∃(x y:Int) (r:List Int),t= .tup [.int x,.int y,.tup (r.map .int)]/\(0<=x/\x<=9)/\(0<=y/\y<=9)/\1<=r.length/\r.length<=4:=by
 obtain⟨x,y,r,rfl,h1,h4⟩:=eC h
 have h':(lZ x y&&cM (.tup r))=true:=h;rw[Bool.and_eq_true]at h';obtain⟨hp,hr⟩:=h';unfold lZ at hp;rw[Bool.and_eq_true]at hp;obtain⟨i,rfl,i1,i2⟩:=dt hp.1;obtain⟨j,rfl,j1,j2⟩:=dt (t:=y) (a:=i) (b:=9) hp.2;unfold cM at hr;rw[Bool.and_eq_true]at hr
 have hr2:((r.all λu=>a9 u 0 99)&&(match je r with | some m=>lP m | none=>false))=true:=hr.2
 rw[Bool.and_eq_true]at hr2;obtain⟨m,em⟩:=n0 hr2.1
 have e:=k4 em;subst e;rw[List.length_map]at h1 h4;exact⟨i,j,m,rfl,⟨by omega,by omega⟩,⟨by omega,by omega⟩,h1,h4⟩
def xB (n:Nat)(t:T):List T:=match t with
 | .tup [.int x,.int y,.tup r] =>match je r with
  | some m=>cB n x y m
  | none=> []
 | _=> []
def bC:Nat->List T->List T
 | _,[] => []
 | i,c::r=>xB i c++bC (i+1) r
def lB (t:T):List T:=match t with
 | .tup [a,b,.int le,mo] => .tup [b,a,.int (-le)] ::(if mo.isN then []else [.tup [a,b,mo]])
 | _=> []
def BI (cs ls:List T):List T:=bC 0 cs++ls.flatMap lB
theorem mr (n:Nat)(x y:Int)(r:List Int):xB n (.tup [.int x,.int y,.tup (r.map .int)])=cB n x y r:=by
 unfold xB;simp only[k6]
theorem BG (n:Nat)(x y:Int)(r:List Int):(cB n x y r).length=2*(r.length - 1):=by
 unfold cB;rw[List.length_flatMap]
 have:∀l:List Nat,(l.map λk=>(pr n x y r k).length).sum=2*l.length:=by
  intro l
  induction l with
  | nil=>rfl
  | cons a l ih=>rw[List.map_cons,List.sum_cons,ih,List.length_cons];simp[pr];omega
 rw[this,List.length_range]
theorem qF {n:Nat}{t:T}(h:bj t=true):(xB n t).length<=6:=by
 obtain⟨x,y,r,rfl,_,_,h1,h4⟩:=gu h;rw[mr,BG];omega
theorem oC:∀{cs:List T} {i:Nat},(∀c∈cs,bj c=true)->(bC i cs).length<=6*cs.length
 | [],i,_=>by simp[bC]
 | c::cs,i,h=>by
  rw[bC,List.length_append,List.length_cons]
  have:=qF (n:=i) (h c List.mem_cons_self)
  have:=oC (cs:=cs) (i:=i+1) λc hc=>h c (List.mem_cons_of_mem _ hc)
  omega
theorem qZ (t:T):(lB t).length<=2:=by
 unfold lB;split
 ·rename_i a b le mo
  cases mo.isN <;> simp
 ·simp
theorem sr:∀(ls:List T),(ls.flatMap lB).length<=2*ls.length
 | [] =>by simp
 | t::ls=>by
  rw[List.flatMap_cons,List.length_append,List.length_cons]
  have:=qZ t
  have:=sr ls;omega
theorem jR {cs:List T}{t:T}(h:bo cs t=true):∃(a b mo:T) (le:Int),t= .tup [a,b,.int le,mo]/\aX cs a=true/\aX cs b=true:=by
 obtain⟨a,b,x,y,rfl,hd,ha,hb,_⟩:=jh h;unfold dX at hd;rw[Bool.and_eq_true]at hd;obtain⟨i,rfl,_⟩:=dt hd.1;exact⟨a,b,y,i,rfl,ha,hb⟩
theorem uh {cs:List T}{t:T}(h:bo cs t=true):bH [t] = .ok (.lst (lB t)):=by
 obtain⟨a,b,mo,le,rfl,_,_⟩:=jR h;refine cS rfl ?_
 show bK [.va (.tup [a,b,.int le,mo]),.em] =_
 unfold bK;rw[aD (Z':=[.va (.tup [a,b,.int le,mo]),.ow (.lst [.tup [b,a,.int (-le)]])]) (v5 (l:=[.tup [b,a,.int (-le)]]) (aq (cL (aq rfl (aq rfl (aq rfl rfl))) (ax (k:=3) (by simp))) rfl) (by simp) (by simp))]
 have e:∀(Z:En) l,Z= [.va (.tup [a,b,.int le,mo]),.ow (.lst l)]->o2 cK (o2 bN (vr 0) (cn (.int 3))) (cn .non) Z= .ok (.bl (!mo.isN)):=λZ l z=>by subst z;rfl
 have e2:lB (.tup [a,b,.int le,mo])= .tup [b,a,.int (-le)] ::(if mo.isN then []else [.tup [a,b,mo]]):=rfl
 rw[e2]
 cases q:mo.isN with
 | true=>
  rw[aD (Z':=[.va (.tup [a,b,.int le,mo]),.ow (.lst [.tup [b,a,.int (-le)]])]) ((f8 (cC (by rw[e _ _ rfl,q];rfl))).trans rfl)]
  rfl
 | false=>
  rw[aD (Z':=[.va (.tup [a,b,.int le,mo]),.ow (.lst ([.tup [b,a,.int (-le)]] ++ [.tup [a,b,mo]]))]) ((ji (cC (by rw[e _ _ rfl,q];rfl))).trans (lq (l:=[.tup [b,a,.int (-le)]]) (cL (aq rfl (aq rfl (aq rfl rfl))) (ax (k:=3) (by simp))) rfl (by simp)))]
  rfl
abbrev bdF:En->Rs Fl:=kO 1 (cl bU (ac (vr 2) (ac (vr 3) ag)))
abbrev bdG:T->En->Rs En:=gT 2 (dI (gN 2) (dI (gN 3) j4))
theorem sY (R:T)(s4:Sl):∀(cs:List T) (acc:List T) (i:Nat) (s2 s3:Sl),(∀c∈cs,bj c=true)->acc.length+6*cs.length<=100 →
  ∃y2 y3,a7 bdG bdF (br i cs) [.va R,.ow (.lst acc),s2,s3,s4] = .ok (.nx [.va R,.ow (.lst (acc++bC i cs)),y2,y3,s4])
 | [],acc,i,s2,s3,_,_=>⟨s2,s3,by simp[br,a7,bC]⟩
 | c::cs,acc,i,s2,s3,hc,hl=>by
  have h0:=hc c List.mem_cons_self
  have hx:=qF (n:=i) h0;obtain⟨x,y,r,rfl,a1,a2,a3,a4⟩:=gu h0;rw[List.length_cons]at hl;rw[mr]at hx
  have st:bdF [.va R,.ow (.lst acc),.va (.int i),.va (.tup [.int x,.int y,.tup (r.map .int)]),s4] = .ok (.nx [.va R,.ow (.lst (acc++cB i x y r)),.va (.int i),.va (.tup [.int x,.int y,.tup (r.map .int)]),s4]):=
   v8 (l:=acc) (bh (ts:=[.int i,.tup [.int x,.int y,.tup (r.map .int)]]) rfl (wF i x y r a1 a2 a3 a4)) rfl (by omega)
  obtain⟨z2,z3,ih⟩:=sY R s4 cs (acc++cB i x y r) (i+1) (.va (.int i)) (.va (.tup [.int x,.int y,.tup (r.map .int)])) (λc h=>hc c (List.mem_cons_of_mem _ h)) (by rw[List.length_append];omega)
  refine⟨z2,z3,?_⟩
  rw[br,cT (Z1:=[.va R,.ow (.lst acc),.va (.int i),.va (.tup [.int x,.int y,.tup (r.map .int)]),s4]) rfl st,ih,bC,mr,List.append_assoc]
abbrev blF:En->Rs Fl:=kO 1 (cl bH (ac (vr 4) ag))
theorem sX (R:T)(cs:List T)(s2 s3:Sl):∀(ls:List T) (acc:List T) (s4:Sl),(∀t∈ls,bo cs t=true)->acc.length+2*ls.length<=100 →
  ∃y4,a7 (gN 4) blF ls [.va R,.ow (.lst acc),s2,s3,s4] = .ok (.nx [.va R,.ow (.lst (acc++ls.flatMap lB)),s2,s3,y4])
 | [],acc,s4,_,_=>⟨s4,by simp[a7]⟩
 | t::ls,acc,s4,hl,hn=>by
  rw[List.length_cons]at hn
  have:=qZ t
  have st:blF [.va R,.ow (.lst acc),s2,s3,.va t] = .ok (.nx [.va R,.ow (.lst (acc++lB t)),s2,s3,.va t]):=v8 (l:=acc) (bh (ts:=[t]) rfl (uh (hl t List.mem_cons_self))) rfl (by omega)
  obtain⟨y4,ih⟩:=sX R cs s2 s3 ls (acc++lB t) (.va t) (λu h=>hl u (List.mem_cons_of_mem _ h)) (by rw[List.length_append];omega)
  refine⟨y4,?_⟩
  rw[cT (Z1:=[.va R,.ow (.lst acc),s2,s3,.va t]) rfl st,ih,List.flatMap_cons,List.append_assoc]
theorem pV {R:T}(hp:R.pl=true)(h:fK R=true):ca [R] = .ok .non:=by
 refine Bd (Z:=[.va R]) rfl ?_
 show cf [.va R] =_
 unfold cf;exact(f8 ((vZ (k:=true) (cC (bh (ts:=[R]) rfl (by rw[ql R hp,h])))))).trans rfl
theorem tQ {R:T}(hp:R.pl=true)(h:fK R=false):ca [R] = .err "NoRecord":=by
 refine lm rfl ?_
 show cf [.va R] =_
 unfold cf;exact(ji ((vZ (k:=false) (cC (bh (ts:=[R]) rfl (by rw[ql R hp,h])))))).trans rfl
structure Good (cs ls:List T):Prop where
 c:aV (.tup cs)=true
 l:∀t∈ls,bo cs t=true
 n:ls.length<=8
 p:(T.tup [.tup cs,.tup ls]).pl=true
theorem Good.ok {cs ls:List T}(g:Good cs ls):fK (.tup [.tup cs,.tup ls])=true:=by
 show(aV (.tup cs)&&(cY (.tup ls) 0 8&&ls.all (bo cs)))=true
 rw[g.c,Bool.true_and,Bool.and_eq_true,List.all_eq_true];exact⟨by simp[cY];exact g.n,g.l⟩
theorem wE {cs ls:List T}(g:Good cs ls):gP [.tup [.tup cs,.tup ls]] = .ok (.lst (BI cs ls)):=by
 obtain⟨hc,c1,c4⟩:=cy g.c
 have hn:=g.n;refine cS rfl ?_
 show gY [.va (.tup [.tup cs,.tup ls]),.em,.em,.em,.em] =_
 unfold gY;rw[aD (CY (t:=.non) (bh (ts:=[.tup [.tup cs,.tup ls]]) rfl (pV g.p g.ok)))];rw[aD (Z':=[.va (.tup [.tup cs,.tup ls]),.ow (.lst []),.em,.em,.em]) (re (by simp))]
 obtain⟨y2,y3,e⟩:=sY (.tup [.tup cs,.tup ls]) .em cs [] 0 .em .em hc (by simp;omega)
 rw[aD ((ei (ts:=br 0 cs) rfl e))]
 have:=oC (i:=0) hc;obtain⟨y4,e2⟩:=sX (.tup [.tup cs,.tup ls]) cs y2 y3 ls ([] ++bC 0 cs) .em g.l (by rw[List.nil_append];omega)
 rw[aD ((ei (ts:=ls) rfl e2))]
 rfl
abbrev uD (R:T)(acc:List T)(n:Nat)(x y:Int)(r:List Int)(s6 s7 s8 s9 s10 s11:Sl):En:=[.va R,.ow (.lst acc),.va (.int n),.va (.int x),.va (.int y),.va (.tup (r.map .int)),s6,s7,s8,s9,s10,s11]
abbrev lkF:En->Rs Fl:=(aB (db (o2 bP (o2 bN (vr 5) (vr 6)) (o2 bN (vr 5) (o2 bP (vr 6) (cn (.int 1))))) (gN 7)) (aB (gy 1 (bq (ac (bq (ac (vr 2) (ac (o2 bP (vr 6) (cn (.int 1))) ag))) (ac (bq (ac (vr 2) (ac (vr 6) ag))) (ac (o2 bz (vr 4) (vr 7)) ag))))) (gy 1 (bq (ac (bq (ac (vr 2) (ac (vr 6) ag))) (ac (bq (ac (vr 2) (ac (o2 bP (vr 6) (cn (.int 1))) ag))) (ac (o2 bP (cn (.int 0)) (o2 bz (vr 3) (vr 7))) ag)))))))
theorem yn (R:T)(n:Nat)(x y:Int)(r:List Int)(acc:List T)(k:Nat)(s7 s8 s9 s10 s11:Sl)(hk:k+1<r.length)(hx:0<=x/\x<=9)(hy:0<=y/\y<=9)(ha:acc.length<=100) :
  lkF (uD R acc n x y r (.va (.int ((k+1:Nat):Int))) s7 s8 s9 s10 s11)= .ok (.nx (uD R (acc++pr n x y r k) n x y r (.va (.int ((k+1:Nat):Int))) (.va (.int (dr r k))) s8 s9 s10 s11)):=by
 have sb:∀acc s7,o2 bP (vr 6) (cn (.int 1)) (uD R acc n x y r (.va (.int ((k+1:Nat):Int))) s7 s8 s9 s10 s11)= .ok (.int k):=λacc s7=>az (t:=.int ((k+1:Nat):Int)) (u:=.int 1) rfl rfl (congrArg (λz=>Rs.ok (T.int z)) (by omega))
 refine(aD (Z':=uD R acc n x y r (.va (.int ((k+1:Nat):Int))) (.va (.int (dr r k))) s8 s9 s10 s11) (cI (t:=.int (dr r k)) (az (t:=.int (r.getD (k+1) 0)) (u:=.int (r.getD k 0)) (t9 (n:=k+1) rfl rfl (kl hk)) (t9 (n:=k) rfl (sb acc s7) (kl (by omega))) rfl) rfl)).trans ?_
 refine(aD (Z':=uD R (acc++ [.tup [.tup [.int n,.int k],.tup [.int n,.int ((k+1:Nat):Int)],.int (dr r k*y)]]) n x y r (.va (.int ((k+1:Nat):Int))) (.va (.int (dr r k))) s8 s9 s10 s11) (lq (l:=acc) (cL (aq (cL (aq rfl (aq (sb _ _) rfl)) (ax (k:=2) (by simp))) (aq (cL rfl (ax (k:=2) (by simp))) (aq (az (t:=.int y) (u:=.int (dr r k)) rfl rfl ((jf (by omega) (by omega)).trans (by rw[Int.mul_comm]))) rfl))) (ax (k:=3) (by simp))) rfl (by omega))).trans ?_
 refine(lq (l:=acc++ [.tup [.tup [.int n,.int k],.tup [.int n,.int ((k+1:Nat):Int)],.int (dr r k*y)]]) (t:=.tup [.tup [.int n,.int ((k+1:Nat):Int)],.tup [.int n,.int k],.int (-dr r k*x)]) (cL (aq (cL rfl (ax (k:=2) (by simp))) (aq (cL (aq rfl (aq (sb _ _) rfl)) (ax (k:=2) (by simp))) (aq (az (t:=.int 0) (u:=.int (x*dr r k)) rfl (az (t:=.int x) (u:=.int (dr r k)) rfl rfl (jf (by omega) (by omega))) (congrArg (λz=>Rs.ok (T.int z)) (by rw[Int.neg_mul,Int.mul_comm x,Int.zero_sub]))) rfl))) (ax (k:=3) (by simp))) rfl (by rw[List.length_append];simp;omega)).trans ?_
 rw[List.append_assoc]
 rfl
theorem sg (R:T)(n:Nat)(x y:Int)(r:List Int)(s8 s9 s10 s11:Sl)(hx:0<=x/\x<=9)(hy:0<=y/\y<=9):∀(js:List Nat) (acc:List T) (s6 s7:Sl),(∀k∈js,k+1<r.length)->acc.length+2*js.length<=100 →
  ∃t6 t7,a7 (gN 6) lkF (js.map λ(k:Nat)=>T.int ((k+1:Nat):Int)) (uD R acc n x y r s6 s7 s8 s9 s10 s11)= .ok (.nx (uD R (acc++js.flatMap (pr n x y r)) n x y r t6 t7 s8 s9 s10 s11))
 | [],acc,s6,s7,_,_=>⟨s6,s7,by simp[a7]⟩
 | k::js,acc,s6,s7,hk,hl=>by
  rw[List.length_cons]at hl
  have e:=yn R n x y r acc k s7 s8 s9 s10 s11 (hk k List.mem_cons_self) hx hy (by omega)
  obtain⟨t6,t7,ih⟩:=sg R n x y r s8 s9 s10 s11 hx hy js (acc++pr n x y r k) (.va (.int ((k+1:Nat):Int))) (.va (.int (dr r k))) (λj hj=>hk j (List.mem_cons_of_mem _ hj)) (by rw[List.length_append];simp[pr];omega)
  refine⟨t6,t7,?_⟩
  rw[List.map_cons,cT (Z1:=uD R acc n x y r (.va (.int ((k+1:Nat):Int))) s7 s8 s9 s10 s11) rfl e,ih,List.flatMap_cons,List.append_assoc]
theorem xz (n:Nat)(h:1<=n):rng 1 (n:Int)=(List.range (n - 1)).map λ(k:Nat)=>T.int ((k+1:Nat):Int):=by
 unfold rng
 have:((n:Int) - 1).toNat=n - 1:=by omega
 rw[this];exact List.map_congr_left λk _=>congrArg T.int (by omega)
theorem iR2 {f:En->Rs (List T)}{Z:En}{i j:Int}(h:f Z= .ok [.int i,.int j])(h0:0<=i)(h1:i<=100000)(h2:0<=j)(h3:j<=100000):iR f Z= .ok (rng i j):=by
 unfold iR;rw[h]
 have e:(rk i&&rk j)=true:=by unfold rk;simp;omega
 show(if (rk i&&rk j)=true then _ else _)=_
 rw[e];rfl
abbrev CK:En->Rs Fl:=(d7 (iR (ac (cn (.int 1)) (ac (cl cG (ac (vr 5) ag)) ag))) (gN 6) lkF)
abbrev lcG:T->En->Rs En:=gT 2 (dI (gN 2) (dI (gT 3 (dI (gN 3) (dI (gN 4) (dI (gN 5) j4)))) j4))
theorem sj (R:T)(s8 s9 s10 s11:Sl):∀(cs:List T) (acc:List T) (i:Nat) (s2 s3 s4 s5 s6 s7:Sl),(∀c∈cs,bj c=true)->acc.length+6*cs.length<=90 →
  ∃y2 y3 y4 y5 y6 y7,a7 lcG CK (br i cs) [.va R,.ow (.lst acc),s2,s3,s4,s5,s6,s7,s8,s9,s10,s11] = .ok (.nx [.va R,.ow (.lst (acc++bC i cs)),y2,y3,y4,y5,y6,y7,s8,s9,s10,s11])
 | [],acc,i,s2,s3,s4,s5,s6,s7,_,_=>⟨s2,s3,s4,s5,s6,s7,by simp[br,a7,bC]⟩
 | c::cs,acc,i,s2,s3,s4,s5,s6,s7,hc,hl=>by
  have h0:=hc c List.mem_cons_self
  have hx:=qF (n:=i) h0;obtain⟨x,y,r,rfl,a1,a2,a3,a4⟩:=gu h0;rw[List.length_cons]at hl;rw[mr]at hx;obtain⟨t6,t7,e⟩:=sg R i x y r s8 s9 s10 s11 a1 a2 (List.range (r.length - 1)) acc s6 s7 (λk hk=>by have:=List.mem_range.mp hk;omega) (by rw[List.length_range];omega)
  have e1:iR (ac (cn (.int 1)) (ac (cl cG (ac (vr 5) ag)) ag)) (uD R acc i x y r s6 s7 s8 s9 s10 s11)= .ok (rng 1 (r.length:Nat)):=
   iR2 (i:=1) (j:=(r.length:Nat)) (aq rfl (aq (bh (ts:=[.tup (r.map .int)]) rfl (by show Rs.ok (T.int ((r.map T.int).length:Nat))=_;rw[List.length_map])) rfl)) (by omega) (by omega) (by omega) (by omega)
  have st:CK (uD R acc i x y r s6 s7 s8 s9 s10 s11)= .ok (.nx (uD R (acc++cB i x y r) i x y r t6 t7 s8 s9 s10 s11)):=(ei (ts:=(List.range (r.length - 1)).map λ(k:Nat)=>T.int ((k+1:Nat):Int)) (by rw[e1,xz _ a3]) e)
  obtain⟨z2,z3,z4,z5,z6,z7,ih⟩:=sj R s8 s9 s10 s11 cs (acc++cB i x y r) (i+1) (.va (.int i)) (.va (.int x)) (.va (.int y)) (.va (.tup (r.map .int))) t6 t7 (λc h=>hc c (List.mem_cons_of_mem _ h)) (by rw[List.length_append];omega)
  refine⟨z2,z3,z4,z5,z6,z7,?_⟩
  rw[br,cT (Z1:=uD R acc i x y r s6 s7 s8 s9 s10 s11) rfl st,ih,bC,mr,List.append_assoc]
abbrev llF:En->Rs Fl:=(aB (gy 1 (bq (ac (vr 9) (ac (vr 8) (ac (o2 bP (cn (.int 0)) (vr 10)) ag))))) (fV (tb (o2 cK (vr 11) (cn .non))) (gy 1 (bq (ac (vr 8) (ac (vr 9) (ac (vr 11) ag))))) sN))
abbrev llG:T->En->Rs En:=gT 4 (dI (gN 8) (dI (gN 9) (dI (gN 10) (dI (gN 11) j4))))
theorem sf (R:T)(cs:List T)(s2 s3 s4 s5 s6 s7:Sl):∀(ls:List T) (acc:List T) (s8 s9 s10 s11:Sl),(∀t∈ls,bo cs t=true)->acc.length+2*ls.length<=100 →
  ∃y8 y9 y10 y11,a7 llG llF ls [.va R,.ow (.lst acc),s2,s3,s4,s5,s6,s7,s8,s9,s10,s11] = .ok (.nx [.va R,.ow (.lst (acc++ls.flatMap lB)),s2,s3,s4,s5,s6,s7,y8,y9,y10,y11])
 | [],acc,s8,s9,s10,s11,_,_=>⟨s8,s9,s10,s11,by simp[a7]⟩
 | t::ls,acc,s8,s9,s10,s11,hl,hn=>by
  rw[List.length_cons]at hn
  have hlb:=qZ t;obtain⟨a,b,mo,le,rfl,_,_⟩:=jR (hl t List.mem_cons_self)
  have e2:lB (.tup [a,b,.int le,mo])= .tup [b,a,.int (-le)] ::(if mo.isN then []else [.tup [a,b,mo]]):=rfl
  have e:∀l,o2 cK (vr 11) (cn .non) [.va R,.ow (.lst l),s2,s3,s4,s5,s6,s7,.va a,.va b,.va (.int le),.va mo] = .ok (.bl (!mo.isN)):=λl=>rfl
  have st:llF [.va R,.ow (.lst acc),s2,s3,s4,s5,s6,s7,.va a,.va b,.va (.int le),.va mo] = .ok (.nx [.va R,.ow (.lst (acc++lB (.tup [a,b,.int le,mo]))),s2,s3,s4,s5,s6,s7,.va a,.va b,.va (.int le),.va mo]):=by
   refine(aD (Z':=[.va R,.ow (.lst (acc++ [.tup [b,a,.int (-le)]])),s2,s3,s4,s5,s6,s7,.va a,.va b,.va (.int le),.va mo]) (lq (l:=acc) (t:=.tup [b,a,.int (-le)]) (cL (aq rfl (aq rfl (aq (az (t:=.int 0) (u:=.int le) rfl rfl (congrArg (λz=>Rs.ok (T.int z)) (Int.zero_sub le))) rfl))) (ax (k:=3) (by simp))) rfl (by omega))).trans ?_
   rw[e2]
   cases q:mo.isN with
   | true=>exact(f8 (cC (by rw[e,q];rfl))).trans rfl
   | false=>
    refine(ji (cC (by rw[e,q];rfl))).trans ((lq (l:=acc++ [.tup [b,a,.int (-le)]]) (t:=.tup [a,b,mo]) (cL (aq rfl (aq rfl (aq rfl rfl))) (ax (k:=3) (by simp))) rfl (by rw[List.length_append];simp;omega)).trans ?_)
    rw[List.append_assoc]
    rfl
  obtain⟨y8,y9,y10,y11,ih⟩:=sf R cs s2 s3 s4 s5 s6 s7 ls (acc++lB (.tup [a,b,.int le,mo])) (.va a) (.va b) (.va (.int le)) (.va mo) (λu h=>hl u (List.mem_cons_of_mem _ h)) (by rw[List.length_append];omega)
  refine⟨y8,y9,y10,y11,?_⟩
  rw[cT (Z1:=[.va R,.ow (.lst acc),s2,s3,s4,s5,s6,s7,.va a,.va b,.va (.int le),.va mo]) rfl st,ih,List.flatMap_cons,List.append_assoc]
theorem uf {cs ls:List T}(hcs:aV (.tup cs)=true)(hls:∀t∈ls,bo cs t=true)(hn:ls.length<=8):dW [.tup [.tup cs,.tup ls]] = .ok (.lst (BI cs ls)):=by
 obtain⟨hc,c1,c4⟩:=cy hcs;refine cS rfl ?_
 show dk [.va (.tup [.tup cs,.tup ls]),.em,.em,.em,.em,.em,.em,.em,.em,.em,.em,.em] =_
 unfold dk;rw[aD (Z':=[.va (.tup [.tup cs,.tup ls]),.ow (.lst []),.em,.em,.em,.em,.em,.em,.em,.em,.em,.em]) (re (by simp))]
 obtain⟨y2,y3,y4,y5,y6,y7,e⟩:=sj (.tup [.tup cs,.tup ls]) .em .em .em .em cs [] 0 .em .em .em .em .em .em hc (by simp;omega)
 rw[aD ((ei (ts:=br 0 cs) rfl e))]
 have:=oC (i:=0) hc;obtain⟨y8,y9,y10,y11,e2⟩:=sf (.tup [.tup cs,.tup ls]) cs y2 y3 y4 y5 y6 y7 ls ([] ++bC 0 cs) .em .em .em .em hls (by rw[List.nil_append];omega)
 rw[aD ((ei (ts:=ls) rfl e2))]
 rfl
theorem gM {l:List T}:(T.tup l).pl=plS l:=by unfold T.pl;rfl
theorem Good.parts {cs ls:List T}(g:Good cs ls):(T.tup cs).pl=true/\∀t∈ls,t.pl=true:=by
 have:=g.p;rw[gM]at this;unfold plS at this;rw[Bool.and_eq_true]at this
 have h2:=this.2;unfold plS at h2;rw[Bool.and_eq_true,gM]at h2;exact⟨this.1,λt ht=>hX h2.1 ht⟩
theorem r0:mi "NoRecord" = .ok (fM 0):=by unfold mi;rw[if_pos rfl]
theorem r1:mi "NoEvent" = .ok (fM 1):=by unfold mi;rw[if_neg (by decide),if_pos rfl]
theorem r2:mi "NoNumber" = .ok (fM 2):=by unfold mi;rw[if_neg (by decide),if_neg (by decide),if_pos rfl]
theorem x8 {l:List T}{r:Int}(h0:0<=r)(h1:r<l.length):∃t∈l,bN (.lst l) (.int r)= .ok t:=by
 obtain⟨n,rfl⟩:=Int.eq_ofNat_of_zero_le h0
 have hn:n<l.length:=by omega
 exact⟨l[n],List.getElem_mem hn,rg hn⟩
theorem z9 {t:T}(h:sm 8 t=true):t.pl=true:=zp t h
abbrev peF:En->Rs Fl:=kO 1 (eh (iR (ac (cl cG (ac (o2 bN (vr 3) (cn (.int 2))) ag)) ag)) [none,some 2] (gN 0) bT (bq (ac (vr 1) (ac (vr 0) ag))))
theorem pG (c0 s1:Sl)(x y:T)(r:List T)(i:Nat)(h:r.length<=4) :
  eh (iR (ac (cl cG (ac (o2 bN (vr 3) (cn (.int 2))) ag)) ag)) [none,some 2] (gN 0) bT (bq (ac (vr 1) (ac (vr 0) ag))) [c0,s1,.va (.int i),.va (.tup [x,y,.tup r])] = .ok (.lst (j6 i r.length)):=
 qe (yD (j:=(r.length:Int)) rfl (by omega) (by omega)) (ax (k:=4) (by rw[fJ];exact h)) (by simp) λt _=>mk2 _ _
theorem rW:∀(cs:List T) (c0:T) (acc:List T) (i:Nat) (s2 s3:Sl),(∀c∈cs,bj c=true)->acc.length+4*cs.length<=100 →
  ∃y2 y3,a7 evG peF (br i cs) [.va c0,.ow (.lst acc),s2,s3] = .ok (.nx [.va c0,.ow (.lst (acc++dY i cs)),y2,y3])
 | [],c0,acc,i,s2,s3,_,_=>⟨s2,s3,by simp[br,a7,dY]⟩
 | c::cs,c0,acc,i,s2,s3,hc,hl=>by
  obtain⟨x,y,r,rfl,r1,r2⟩:=eC (hc c List.mem_cons_self);rw[List.length_cons]at hl
  have st:peF [.va c0,.ow (.lst acc),.va (.int i),.va (.tup [x,y,.tup r])] = .ok (.nx [.va c0,.ow (.lst (acc++j6 i r.length)),.va (.int i),.va (.tup [x,y,.tup r])]):=v8 (l:=acc) (pG _ _ x y r i r2) rfl (by rw[f9];omega)
  obtain⟨z2,z3,ih⟩:=rW cs c0 (acc++j6 i r.length) (i+1) (.va (.int i)) (.va (.tup [x,y,.tup r])) (λc h=>hc c (List.mem_cons_of_mem _ h)) (by rw[List.length_append,f9];omega)
  refine⟨z2,z3,?_⟩
  rw[br,cT (Z1:=[.va c0,.ow (.lst acc),.va (.int i),.va (.tup [x,y,.tup r])]) rfl st,ih,dY,List.append_assoc]
  rfl
theorem vz {cs ls:List T}(g:Good cs ls):ee [.tup [.tup cs,.tup ls]] = .ok (.lst (dY 0 cs)):=by
 obtain⟨hc,c1,c4⟩:=cy g.c;refine cS rfl ?_
 show fF [.va (.tup [.tup cs,.tup ls]),.em,.em,.em] =_
 unfold fF;rw[aD (CY (t:=.non) (bh (ts:=[.tup [.tup cs,.tup ls]]) rfl (pV g.p g.ok)))];rw[aD (Z':=[.va (.tup [.tup cs,.tup ls]),.ow (.lst []),.em,.em]) (re (by simp))]
 obtain⟨y2,y3,e⟩:=rW cs (.tup [.tup cs,.tup ls]) [] 0 .em .em hc (by simp;omega)
 rw[aD ((ei (ts:=br 0 cs) rfl e))]
 rfl
theorem lJ {R:T}(hp:R.pl=true)(h:fK R=false):ee [R] = .err "NoRecord":=by
 refine lm rfl ?_
 show fF [.va R,.em,.em,.em] =_
 unfold fF;exact q0 (CV (bh (ts:=[R]) rfl (tQ hp h)))
theorem tX {g:T->En->Rs En}{F:En->Rs Fl}(J:En->Prop){ts:List T}(h:∀t∈ts,∀Z,J Z->∃Z1 Z2,g t Z= .ok Z1/\F Z1= .ok (.nx Z2)/\J Z2){Z:En}(hj:J Z):∃Z',a7 g F ts Z= .ok (.nx Z')/\J Z':=
 (p0 (p:=λ_=>true) J ts (λt ht Z hj=>by
  obtain⟨Z1,Z2,a,b,c⟩:=h t ht Z hj;exact⟨Z1,a,λ_=>⟨Z2,b,c⟩,λh=>by cases h⟩) Z hj).1 (by simp)
theorem p2 {a b:En->Rs T}{t u:T}{Z:En}(ha:a Z= .ok t)(hb:b Z= .ok u):bq (ac a (ac b ag)) Z= .ok (.tup [t,u]):=cL (aq ha (aq hb rfl)) (ax (k:=2) (by simp))
theorem my {l:List T}:gF [.lst l] = .ok (.tup l):=rfl
theorem yV {cs ls:List T}(g:Good cs ls):(BI cs ls).length<=60:=by
 unfold BI;rw[List.length_append];obtain⟨hc,c1,c4⟩:=cy g.c
 have:=oC (i:=0) hc
 have:=sr ls
 have:=g.n;omega
end G
namespace Gr
variable {ν:Type}[DecidableEq ν]
abbrev eY (ν:Type):=List (ν×ν×Int)
inductive Wk (L:eY ν):ν->ν->Int->Prop
 | nil (a:ν):Wk L a a 0
 | step {a b c:ν} {m s:Int}:(a,b,m)∈L->Wk L b c s->Wk L a c (m+s)
theorem Wk.one {L:eY ν}{a b:ν}{m:Int}(h:(a,b,m)∈L):Wk L a b m:=by
 have:=Wk.step h (Wk.nil (L:=L) b)
 rwa [Int.add_zero]at this
theorem Wk.app {L:eY ν}{a b c:ν}{s t:Int}(h:Wk L a b s)(k:Wk L b c t):Wk L a c (s+t):=by
 induction h with
 | nil a=>rwa [Int.zero_add]
 | step e _ ih=>rw[Int.add_assoc];exact .step e (ih k)
def Holds (L:eY ν)(t:ν->Int):Prop:=∀a b m,(a,b,m)∈L->t b - t a<=m
def jW (L:eY ν):Prop:=∀a s,Wk L a a s->0<=s
def most (L:eY ν)(k:Nat):Int:=match L[k]? with
 | some x=>x.2.2
 | none=>0
def src (L:eY ν)(k:Nat):Option ν:=(L[k]?).map (·.1)
abbrev uB (ν:Type):=ν->Option (Int×List Nat)
def put (b:uB ν)(v:ν)(x:Int×List Nat):uB ν:=λu=>if u=v then some x else b u
def size (L:eY ν):Nat:=(L.map λx=>x.2.2.natAbs).sum
def val (M:Nat)(b:uB ν)(v:ν):Nat:=match b v with
 | none=>2*M+1
 | some x=>(x.1+M).toNat
def left (M:Nat)(b:uB ν)(L:eY ν):Nat:=(L.map λx=>val M b x.2.1).sum
def start (S:List ν):uB ν:=λv=>if v∈S then some (0,[])else none
inductive Pth (L:eY ν):ν->List ν->ν->Int->Prop
 | one {a b:ν} {m:Int}:(a,b,m)∈L->Pth L a [] b m
 | cons {a x b:ν} {ms:List ν} {m s:Int}:(a,x,m)∈L->Pth L x ms b s->Pth L a (x::ms) b (m+s)
theorem Pth.cut {L:eY ν}{x:ν}{q:List ν}:∀{p:List ν} {a b:ν} {s:Int},Pth L a (p++x::q) b s->∃s1 s2,Pth L a p x s1/\Pth L x q b s2/\s=s1+s2
 | [],a,b,s,h=>by
  cases h with
  | cons e h=>exact⟨_,_,.one e,h,rfl⟩
 | y::p,a,b,s,h=>by
  cases h with
  | cons e h=>
   obtain⟨s1,s2,h1,h2,h3⟩:=Pth.cut h;exact⟨_,s2,.cons e h1,h2,by omega⟩
def BJ (L:eY ν)(u v:ν)(s:Int):Prop:=(u=v/\s=0)\/(u≠v/\∃ms,Pth L u ms v s/\ms.Nodup/\u∉ms/\v∉ms)
def wW (L:eY ν):Prop:=∃x ms s,Pth L x ms x s/\ms.Nodup/\x∉ms/\s<0
theorem Wk.simple {L:eY ν}{u v:ν}{s:Int}(w:Wk L u v s):wW L\/∃s',s'<=s/\BJ L u v s':=by
 induction w with
 | nil a=>exact .inr ⟨0,Int.le_refl _,.inl ⟨rfl,rfl⟩⟩
 | @step a b c m s e w ih=>
  rcases ih with ih | ⟨s',hs,ih⟩
  ·exact .inl ih
  by_cases hab:a=b
  ·subst hab
   by_cases hm:m<0
   ·exact .inl ⟨a,[],m,.one e,List.nodup_nil,by simp,hm⟩
   ·exact .inr ⟨s',by omega,ih⟩
  rcases ih with⟨rfl,rfl⟩ | ⟨hbc,ms,hp,hn,hb,hc⟩
  ·exact .inr ⟨m,by omega,.inr ⟨hab,[],.one e,List.nodup_nil,by simp,by simp⟩⟩
  by_cases hac:a=c
  ·subst hac
   by_cases hm:m+s'<0
   ·exact .inl ⟨a,b::ms,m+s',.cons e hp,List.nodup_cons.mpr ⟨hb,hn⟩,by simp[hab,hc],hm⟩
   ·exact .inr ⟨0,by omega,.inl ⟨rfl,rfl⟩⟩
  by_cases ham:a∈ms
  ·obtain⟨p,q,rfl⟩:=List.append_of_mem ham
   obtain⟨s1,s2,h1,h2,h3⟩:=hp.cut;rw[List.nodup_append]at hn;obtain⟨n1,n2,n3⟩:=hn;rw[List.nodup_cons]at n2
   have hap:a∉p:=λz=>n3 a z a List.mem_cons_self rfl
   by_cases hm:m+s1<0
   ·refine .inl ⟨a,b::p,m+s1,.cons e h1,List.nodup_cons.mpr ⟨λz=>hb (List.mem_append_left _ z),n1⟩,by simp[hab,hap],hm⟩
   ·exact .inr ⟨s2,by omega,.inr ⟨hac,q,h2,n2.2,n2.1,λz=>hc (List.mem_append_right _ (List.mem_cons_of_mem _ z))⟩⟩
  ·refine .inr ⟨m+s',by omega,.inr ⟨hac,b::ms,.cons e hp,List.nodup_cons.mpr ⟨hb,hn⟩,by simp[hab,ham],?_⟩⟩
   simp only[List.mem_cons,not_or];exact⟨λz=>hbc z.symm,hc⟩
abbrev dy (ν:Type):=ν->ν->Option Int
def gV (f:dy ν)(a b:ν)(x:Int):dy ν:=λu v=>if u=a/\v=b then some x else f u v
def j5 (f:dy ν)(a b:ν)(x:Int):dy ν:=match f a b with
 | none=>gV f a b x
 | some y=>if x<y then gV f a b x else f
def jl (mid one other:ν)(f:dy ν):dy ν:=match f one mid,f mid other with
 | some x,some y=>j5 f one other (x+y)
 | _,_=>f
def o5 (P:List ν):dy ν:=λu v=>if u∈P/\u=v then some 0 else none
def uM (P:List ν)(L:eY ν):dy ν:=L.foldl (λf x=>j5 f x.1 x.2.1 x.2.2) (o5 P)
def jm (mid one:ν)(P:List ν)(f:dy ν):dy ν:=P.foldl (λf other=>jl mid one other f) f
def lv (mid:ν)(Q P:List ν)(f:dy ν):dy ν:=Q.foldl (λf one=>jm mid one P f) f
def qi (M P:List ν)(f:dy ν):dy ν:=M.foldl (λf mid=>lv mid P P f) f
def table (P:List ν)(L:eY ν):dy ν:=qi P P (uM P L)
def Le (f g:dy ν):Prop:=∀u v x,g u v=some x->∃y,f u v=some y/\y<=x
theorem Le.refl (f:dy ν):Le f f:=λu v x h=>⟨x,h,Int.le_refl _⟩
theorem Le.trans {f g h:dy ν}(a:Le f g)(b:Le g h):Le f h:=λu v x e=>by
 obtain⟨y,e1,l1⟩:=b u v x e;obtain⟨z,e2,l2⟩:=a u v y e1;exact⟨z,e2,by omega⟩
theorem jE {f:dy ν}{a b:ν}{x:Int}:gV f a b x a b=some x:=by unfold gV;rw[if_pos ⟨rfl,rfl⟩]
theorem on (f:dy ν)(a b:ν)(x:Int):Le (j5 f a b x) f:=λu v y e=>by
 unfold j5
 cases q:f a b with
 | none=>
  by_cases z:u=a/\v=b
  ·obtain⟨rfl,rfl⟩:=z;rw[q]at e;cases e
  ·exact⟨y,by simp only;unfold gV;rw[if_neg z];exact e,Int.le_refl _⟩
 | some y0=>
  simp only;split
  ·by_cases z:u=a/\v=b
   ·obtain⟨rfl,rfl⟩:=z;rw[q]at e;cases e
    exact⟨x,jE,by omega⟩
   ·exact⟨y,by unfold gV;rw[if_neg z];exact e,Int.le_refl _⟩
  ·exact⟨y,e,Int.le_refl _⟩
theorem sJ (f:dy ν)(a b:ν)(x:Int):∃y,j5 f a b x a b=some y/\y<=x:=by
 unfold j5
 cases q:f a b with
 | none=>exact⟨x,jE,Int.le_refl _⟩
 | some y0=>
  simp only;split
  ·exact⟨x,jE,Int.le_refl _⟩
  ·exact⟨y0,q,by omega⟩
theorem lx {L:eY ν}{f:dy ν}{a b:ν}{x:Int}(h:∀u v y,f u v=some y->Wk L u v y)(hx:Wk L a b x):∀u v y,j5 f a b x u v=some y->Wk L u v y:=λu v y e=>by
 have key:gV f a b x u v=some y->Wk L u v y:=λe'=>by
  unfold gV at e'
  by_cases z:u=a/\v=b
  ·rw[if_pos z]at e';injection e' with e';rw[z.1,z.2,<-e'];exact hx
  ·rw[if_neg z]at e';exact h u v y e'
 unfold j5 at e
 cases q:f a b with
 | none=>rw[q]at e;exact key e
 | some y0=>
  rw[q]at e;simp only at e
  split at e
  ·exact key e
  ·exact h u v y e
theorem qg (mid one other:ν)(f:dy ν):Le (jl mid one other f) f:=by
 unfold jl;split
 ·exact on _ _ _ _
 ·exact Le.refl f
theorem wo {mid one other:ν}{f:dy ν}{x y:Int}(h1:f one mid=some x)(h2:f mid other=some y):∃z,jl mid one other f one other=some z/\z<=x+y:=by
 unfold jl;rw[h1,h2];exact sJ _ _ _ _
theorem io {α:Type}(step:dy ν->α->dy ν)(hs:∀f a,Le (step f a) f):∀(l:List α) (f:dy ν),Le (l.foldl step f) f
 | [],f=>Le.refl f
 | a::l,f=>(io step hs l (step f a)).trans (hs f a)
theorem lu (mid one:ν)(P:List ν)(f:dy ν):Le (jm mid one P f) f:=io _ (λf o=>qg mid one o f) P f
theorem qh (mid:ν)(Q P:List ν)(f:dy ν):Le (lv mid Q P f) f:=io _ (λf o=>lu mid o P f) Q f
theorem wu (M P:List ν)(f:dy ν):Le (qi M P f) f:=io _ (λf o=>qh o P P f) M f
theorem km {α:Type}(step:dy ν->α->dy ν)(hs:∀f a,Le (step f a) f):∀(l:List α) (f:dy ν) (a:α),a∈l->∃g,Le g f/\Le (l.foldl step f) (step g a)
 | [],f,a,h=>by simp at h
 | b::l,f,a,h=>by
  rcases List.mem_cons.mp h with rfl | h
  ·exact⟨f,Le.refl f,io step hs l (step f a)⟩
  ·obtain⟨g,h1,h2⟩:=km step hs l (step f b) a h
   exact⟨g,h1.trans (hs f b),h2⟩
theorem wt {mid u v:ν}{P:List ν}{f:dy ν}{x y:Int}(hu:u∈P)(hv:v∈P)(h1:f u mid=some x)(h2:f mid v=some y):∃z,lv mid P P f u v=some z/\z<=x+y:=by
 obtain⟨g,g1,g2⟩:=km (λf one=>jm mid one P f) (λf o=>lu mid o P f) P f u hu
 obtain⟨g',g3,g4⟩:=km (λf other=>jl mid u other f) (λf o=>qg mid u o f) P g v hv
 have l:Le g' f:=g3.trans g1;obtain⟨x',e1,l1⟩:=l _ _ _ h1;obtain⟨y',e2,l2⟩:=l _ _ _ h2;obtain⟨z,e3,l3⟩:=wo e1 e2;obtain⟨z',e4,l4⟩:=(g2.trans g4) _ _ _ e3;exact⟨z',e4,by omega⟩
def Up (L:eY ν)(M:List ν)(f:dy ν):Prop:=∀u v ms s,Pth L u ms v s->ms.Nodup->(∀x∈ms,x∈M)->∃y,f u v=some y/\y<=s
theorem Pth.ends {L:eY ν}{P:List ν}(hL:∀x∈L,x.1∈P/\x.2.1∈P){u v:ν}{ms:List ν}{s:Int}(h:Pth L u ms v s):u∈P/\v∈P/\∀x∈ms,x∈P:=by
 induction h with
 | one e=>exact⟨(hL _ e).1,(hL _ e).2,by simp⟩
 | cons e _ ih=>exact⟨(hL _ e).1,ih.2.1,λx hx=>by
   rcases List.mem_cons.mp hx with rfl | hx
   ·exact ih.1
   ·exact ih.2.2 x hx⟩
theorem Up.mid {L:eY ν}{P M:List ν}{f:dy ν}(hL:∀x∈L,x.1∈P/\x.2.1∈P)(h:Up L M f)(k:ν):Up L (k::M) (lv k P P f):=λu v ms s hp hn hm=>by
 by_cases hk:k∈ms
 ·obtain⟨p,q,rfl⟩:=List.append_of_mem hk
  obtain⟨s1,s2,h1,h2,h3⟩:=hp.cut;rw[List.nodup_append]at hn;obtain⟨n1,n2,n3⟩:=hn;rw[List.nodup_cons]at n2
  have hp':∀x∈p,x∈M:=λx hx=>by
   rcases List.mem_cons.mp (hm x (List.mem_append_left _ hx))with rfl | z
   ·exact absurd rfl (n3 x hx x List.mem_cons_self)
   ·exact z
  have hq':∀x∈q,x∈M:=λx hx=>by
   rcases List.mem_cons.mp (hm x (List.mem_append_right _ (List.mem_cons_of_mem _ hx)))with rfl | z
   ·exact absurd hx n2.1
   ·exact z
  obtain⟨y1,e1,l1⟩:=h u k p s1 h1 n1 hp';obtain⟨y2,e2,l2⟩:=h k v q s2 h2 n2.2 hq';obtain⟨z,e3,l3⟩:=wt (P:=P) (h1.ends hL).1 (h2.ends hL).2.1 e1 e2;exact⟨z,e3,by omega⟩
 ·obtain⟨y,e,l⟩:=h u v ms s hp hn λx hx=>by
   rcases List.mem_cons.mp (hm x hx)with rfl | z
   ·exact absurd hx hk
   ·exact z
  obtain⟨z,e2,l2⟩:=qh k P P f u v y e;exact⟨z,e2,by omega⟩
theorem Up.mids {L:eY ν}{P:List ν}(hL:∀x∈L,x.1∈P/\x.2.1∈P):∀(Q M:List ν) (f:dy ν),Up L M f->∃M',(∀x,x∈Q\/x∈M->x∈M')/\Up L M' (qi Q P f)
 | [],M,f,h=>⟨M,λx hx=>hx.elim (λz=>by simp at z) id,h⟩
 | k::Q,M,f,h=>by
  obtain⟨M',h1,h2⟩:=Up.mids hL Q (k::M) (lv k P P f) (h.mid hL k);refine⟨M',λx hx=>h1 x ?_,h2⟩
  rcases hx with hx | hx
  ·rcases List.mem_cons.mp hx with rfl | hx
   ·exact .inr List.mem_cons_self
   ·exact .inl hx
  ·exact .inr (List.mem_cons_of_mem _ hx)
theorem xn {P:List ν}{L:eY ν}:Up L [] (uM P L):=λu v ms s hp hn hm=>by
 have:ms= []:=by
  cases ms with
  | nil=>rfl
  | cons x r=>exact absurd (hm x List.mem_cons_self) (by simp)
 subst this
 cases hp with
 | one e=>
  obtain⟨g,h1,h2⟩:=km (λ(f:dy ν) (x:ν×ν×Int)=>j5 f x.1 x.2.1 x.2.2) (λf x=>on f _ _ _) L (o5 P) _ e
  obtain⟨y,e1,l1⟩:=sJ g u v s;obtain⟨z,e2,l2⟩:=h2 u v y e1;exact⟨z,e2,by omega⟩
theorem fB {α:Type}{L:eY ν}(step:dy ν->α->dy ν):∀(l:List α) (f:dy ν),(∀f,∀a∈l,(∀u v y,f u v=some y->Wk L u v y)->∀u v y,step f a u v=some y->Wk L u v y)->(∀u v y,f u v=some y->Wk L u v y)->∀u v y,l.foldl step f u v=some y->Wk L u v y
 | [],f,_,h=>h
 | a::l,f,hs,h=>fB step l (step f a) (λf b hb=>hs f b (List.mem_cons_of_mem _ hb)) (hs f a List.mem_cons_self h)
theorem jK (P:List ν)(L:eY ν):∀u v y,table P L u v=some y->Wk L u v y:=by
 unfold table qi;refine fB _ P _ (λf m _ h=> ?_) ?_
 ·unfold lv
  refine fB _ P _ (λf o _ h=> ?_) h
  unfold jm;refine fB _ P _ (λf v _ h=> ?_) h
  unfold jl
  cases e1:f o m with
  | none=>exact h
  | some x=>
   cases e2:f m v with
   | none=>exact h
   | some y=>exact lx h ((h _ _ _ e1).app (h _ _ _ e2))
 ·unfold uM
  refine fB _ L _ (λf x hx h=>lx h (.one hx)) λu v y e=> ?_
  unfold o5 at e
  split at e
  ·rename_i z;obtain⟨_,rfl⟩:=z;cases e;exact .nil u
  ·cases e
theorem o0 {P:List ν}{L:eY ν}(hL:∀x∈L,x.1∈P/\x.2.1∈P):∀u v ms s,Pth L u ms v s->ms.Nodup->∃y,table P L u v=some y/\y<=s:=λu v ms s hp hn=>by
 obtain⟨M',h1,h2⟩:=Up.mids hL P [] (uM P L) xn;exact h2 u v ms s hp hn λx hx=>h1 x (.inl ((hp.ends hL).2.2 x hx))
theorem kD {P:List ν}{L:eY ν}{u:ν}(hu:u∈P):∃y,table P L u u=some y/\y<=0:=by
 have h0:o5 P u u=some 0:=by unfold o5;rw[if_pos ⟨hu,rfl⟩]
 have h1:Le (table P L) (o5 P):=(wu P P _).trans (io _ (λf x=>on f _ _ _) L _)
 exact h1 u u 0 h0
structure lO (L:eY ν)(P:List ν)(f:dy ν):Prop where
 is:∀u v d,f u v=some d->Wk L u v d
 le:∀u∈P,∀v t,Wk L u v t->∃d,f u v=some d/\d<=t
theorem tz {P:List ν}{L:eY ν}{u:ν}{y:Int}(h:table P L u u=some y)(hy:y<0):¬ jW L:=λn=>by
 have:=n u y (jK P L u u y h);omega
theorem o4 {P:List ν}{L:eY ν}(hL:∀x∈L,x.1∈P/\x.2.1∈P)(h:∀u∈P,∀y,table P L u u=some y->0<=y):jW L/\lO L P (table P L):=by
 have nc:¬ wW L:=λ⟨x,ms,s,hp,hn,_,hs⟩=>by
  obtain⟨y,e,l⟩:=o0 hL x x ms s hp hn
  have:=h x (hp.ends hL).1 y e;omega
 have le:∀u∈P,∀v t,Wk L u v t->∃d,table P L u v=some d/\d<=t:=λu hu v t w=>by
  rcases w.simple with z | ⟨s',hs,z⟩
  ·exact absurd z nc
  ·rcases z with⟨rfl,rfl⟩ | ⟨_,ms,hp,hn,_⟩
   ·obtain⟨y,e,l⟩:=kD (L:=L) hu
    exact⟨y,e,by omega⟩
   ·obtain⟨y,e,l⟩:=o0 hL u v ms s' hp hn
    exact⟨y,e,by omega⟩
 refine⟨λa s w=> ?_,λu v d e=>jK P L u v d e,le⟩
 by_cases ha:a∈P
 ·obtain⟨d,e,l⟩:=le a ha a s w
  have:=h a ha d e;omega
 ·cases w with
  | nil=>exact Int.le_refl _
  | step e _=>exact absurd (hL _ e).1 ha
end Gr
namespace G
open PySem Tr Gr
structure N2 where
 c:Int
 k:Int
deriving DecidableEq
theorem N2.ext':∀{u v:N2},u.c=v.c->u.k=v.k->u=v
 | ⟨_,_⟩,⟨_,_⟩,rfl,rfl=>rfl
def en (v:N2):T:=.tup [.int v.c,.int v.k]
def eB (x:N2×N2×Int):T:=.tup [en x.1,en x.2.1,.int x.2.2]
def eN (ks:List Nat):List T:=ks.map λk=> .int (k:Nat)
def eW (x:Int×List Nat):T:=.tup [.int x.1,.lst (eN x.2)]
def ky (v:N2):List L2.Key:=[.inl v.c,.inl v.k]
theorem bv (v:N2):aN (en v)=some (ky v):=rfl
theorem gp {u v:N2}(h:some (ky u)=some (ky v)):u=v:=by
 injection h with h
 injection h with h1 h2
 injection h2 with h2 _
 injection h1 with h1
 injection h2 with h2
 exact N2.ext' h1 h2
theorem Bu {u v:N2}(h:en u=en v):u=v:=gp (by rw[<-bv u,<-bv v,h])
theorem kr (g:N2->T)(v:N2):∀(ns:List N2),mj (ns.map en) (ns.map g) (ky v)=if v∈ns then some (g v)else none
 | [] =>rfl
 | u::ns=>by
  rw[List.map_cons,List.map_cons,mj,bv]
  by_cases h:u=v
  ·subst h;rw[if_pos rfl,if_pos List.mem_cons_self]
  ·rw[if_neg (λz=>h (gp z)),kr g v ns]
   have:(v∈u::ns)↔v∈ns:=by rw[List.mem_cons];exact⟨λz=>z.elim (λy=>absurd y.symm h) id,.inr⟩
   simp only[this]
theorem lA (x:T)(v:N2)(g:N2->T):∀(ns:List N2),v∉ns->fH (en v) x (ns.map en) (ns.map g)=(ns.map en++ [en v],ns.map g++ [x])
 | [],_=>rfl
 | u::ns,h=>by
  rw[List.mem_cons,not_or]at h;rw[List.map_cons,List.map_cons,fH,bv,bv,if_neg (λz=>h.1 (gp z).symm),lA x v g ns h.2]
  rfl
theorem sR (x:T)(v:N2)(g:N2->T):∀(ns:List N2),ns.Nodup->v∈ns->fH (en v) x (ns.map en) (ns.map g)=(ns.map en,ns.map λu=>if u=v then x else g u)
 | [],_,h=>by simp at h
 | u::ns,hn,h=>by
  rw[List.nodup_cons]at hn;rw[List.map_cons,List.map_cons,List.map_cons,fH,bv,bv]
  by_cases z:u=v
  ·subst z
   rw[if_pos rfl,if_pos rfl]
   congr 2
   exact List.map_congr_left λw hw=>by rw[if_neg (λ(y:w=u)=>hn.1 (y▸hw))]
  ·rw[if_neg (λy=>z (gp y)),if_neg z]
   have h':v∈ns:=(List.mem_cons.mp h).elim (λy=>absurd y.symm z) id
   rw[sR x v g ns hn.2 h']
def oW (o:Option (Int×List Nat)):T:=match o with
 | some x=>eW x
 | none=> .non
def dV (ns:List N2)(b:uB N2):List T:=ns.map λv=>oW (b v)
def eL (L:eY N2):T:=.lst (L.map eB)
def eS (S:List N2):T:=.lst (S.map en)
structure Fine (L:eY N2)(P:List N2):Prop where
 len:L.length<=500
 size:size L<=100000000
 ends:∀x∈L,x.1∈P/\x.2.1∈P
 pl:P.length<1000
theorem lb {α:Type}{f:α->T}{p:α->Prop}:∀{l:List T},(∀t∈l,∃x,t=f x/\p x)->∃L:List α,l=L.map f/\∀x∈L,p x
 | [],_=>⟨[],rfl,λ_ h=>nomatch h⟩
 | t::l,h=>by
  obtain⟨x,e,hx⟩:=h t List.mem_cons_self;obtain⟨L,e2,h2⟩:=lb (l:=l) λu hu=>h u (List.mem_cons_of_mem _ hu)
  exact⟨x::L,by rw[e,e2];rfl,λy hy=>(List.mem_cons.mp hy).elim (λz=>z▸hx) (h2 y)⟩
theorem rC {t:T}(h:bj t=true):∃(x y:Int) (r:List Int),t= .tup [.int x,.int y,.tup (r.map .int)]/\(0<=x/\x<=9)/\(0<=y/\y<=9)/\∀k,0<=r.getD k 0/\r.getD k 0<=99:=by
 obtain⟨x,y,r,rfl,h1,h2,h3,h4⟩:=gu h;refine⟨x,y,r,rfl,h1,h2,λk=> ?_⟩
 have h':(lZ (.int x) (.int y)&&cM (.tup (r.map .int)))=true:=h;rw[Bool.and_eq_true]at h'
 have hr:=h'.2;unfold cM at hr;rw[Bool.and_eq_true]at hr
 have hr2:(((r.map T.int).all λu=>a9 u 0 99)&&(match je (r.map .int)with | some m=>lP m | none=>false))=true:=hr.2
 rw[Bool.and_eq_true]at hr2
 by_cases hk:k<r.length
 ·have:=List.all_eq_true.mp hr2.1 (.int r[k]) (List.mem_map.mpr ⟨_,List.getElem_mem hk,rfl⟩)
  obtain⟨i,e,a,b⟩:=dt this;cases e;simp[hk];exact⟨a,b⟩
 ·simp[hk]
theorem sd {cs:List T}{i:Nat}:∀{cs0:List T} {c k:Nat},i<=c->c<i+cs0.length->k<Ag (cs0.getD (c - i) .non)->T.tup [.int c,.int k] ∈dY i cs0:=by
 intro cs0
 induction cs0 generalizing i with
 | nil=>intro c k h1 h2;simp at h2;omega
 | cons a r ih=>
  intro c k h1 h2 h3;rw[dY,List.mem_append]
  by_cases e:c=i
  ·subst e
   rw[Nat.sub_self]at h3
   have h3':k<Ag a:=h3;exact .inl (List.mem_map.mpr ⟨.int k,ym h3',rfl⟩)
  ·refine .inr (ih (by omega) (by rw[List.length_cons]at h2;omega) ?_)
   rw[show c - i=(c - (i+1))+1 by omega]at h3
   exact h3
theorem mV {cs:List T}{t:T}(h:aX cs t=true):t∈dY 0 cs:=by
 obtain⟨c,k,rfl⟩:=ez h;unfold aX at h;simp only[Bool.and_eq_true,decide_eq_true_eq]at h;obtain⟨⟨h1,h2⟩,h3,h4⟩:=h;obtain⟨c,rfl⟩:=Int.eq_ofNat_of_zero_le h1;obtain⟨k,rfl⟩:=Int.eq_ofNat_of_zero_le h3;rw[mE]at h4;exact sd (cs:=cs) (Nat.zero_le _) (by omega) (by rw[Nat.sub_zero];omega)
theorem wy {cs:List T}{t:T}(h:t∈dY 0 cs):∃v:N2,t=en v/\True:=by
 obtain⟨c,k,rfl,_⟩:=kg cs 0 h;exact⟨⟨c,k⟩,rfl,trivial⟩
def big (x:N2×N2×Int):Prop:=x.2.2.natAbs<=999
theorem mH {a b:Int}(ha : -99<=a/\a<=99)(hb:0<=b/\b<=9):(a*b).natAbs<=999:=by
 rw[Int.natAbs_mul]
 have h1:a.natAbs<=99:=by omega
 have h2:b.natAbs<=9:=by omega
 exact Nat.le_trans (Nat.mul_le_mul h1 h2) (by decide)
theorem zH {cs0:List T}:∀{cs:List T} {i:Nat},(∀c∈cs,bj c=true)->(∀c k:Nat,i<=c->c<i+cs.length->k<Ag (cs.getD (c - i) .non)->T.tup [.int c,.int k] ∈dY 0 cs0) →
  ∀t∈bC i cs,∃x,t=eB x/\(en x.1∈dY 0 cs0/\en x.2.1∈dY 0 cs0/\big x)
 | [],_,_,_,t,h=>by simp[bC]at h
 | c::cs,i,hc,hm,t,h=>by
  rw[bC,List.mem_append]at h;rcases h with h | h
  ·obtain⟨x,y,r,rfl,hx,hy,hr⟩:=rC (hc c List.mem_cons_self)
   have hm0:∀k,k<r.length->T.tup [.int i,.int k] ∈dY 0 cs0:=λk hk=>hm i k (Nat.le_refl _) (by simp) (by rw[Nat.sub_self];show k<(r.map T.int).length;rw[List.length_map];exact hk)
   rw[mr]at h;unfold cB at h;obtain⟨k,hk,hp⟩:=List.mem_flatMap.mp h
   have hk:=List.mem_range.mp hk
   have d : -99<=dr r k/\dr r k<=99:=by have:=hr k;have:=hr (k+1);unfold dr;omega
   unfold pr at hp;simp only[List.mem_cons,List.not_mem_nil,or_false]at hp;rcases hp with rfl | rfl
   ·exact⟨(⟨i,k⟩,⟨i,((k+1:Nat):Int)⟩,dr r k*y),rfl,hm0 k (by omega),hm0 (k+1) (by omega),mH d hy⟩
   ·exact⟨(⟨i,((k+1:Nat):Int)⟩,⟨i,k⟩,-dr r k*x),rfl,hm0 (k+1) (by omega),hm0 k (by omega),mH (by omega) hx⟩
  ·exact zH (cs:=cs) (i:=i+1) (λc h=>hc c (List.mem_cons_of_mem _ h)) (λc k h1 h2 h3=>hm c k (by omega) (by rw[List.length_cons];omega) (by rw[show c - i=(c - (i+1))+1 by omega];exact h3)) t h
theorem CL {cs:List T}{u:T}(hu:bo cs u=true):∀t∈lB u,∃x,t=eB x/\(en x.1∈dY 0 cs/\en x.2.1∈dY 0 cs/\big x):=by
 intro t ht;obtain⟨a,b,x,y,rfl,hd,ha,hb,_⟩:=jh hu
 have ma:=mV ha
 have mb:=mV hb;obtain⟨va,rfl,_⟩:=wy ma;obtain⟨vb,rfl,_⟩:=wy mb;unfold dX at hd;rw[Bool.and_eq_true]at hd;obtain⟨i,rfl,i1,i2⟩:=dt hd.1
 have e2:lB (.tup [en va,en vb,.int i,y])= .tup [en vb,en va,.int (-i)] ::(if y.isN then []else [.tup [en va,en vb,y]]):=rfl
 rw[e2]at ht;rcases List.mem_cons.mp ht with rfl | ht
 ·exact⟨(vb,va,-i),rfl,mb,ma,by unfold big;simp only;omega⟩
 ·cases q:y.isN with
  | true=>rw[q]at ht;simp at ht
  | false=>
   rw[q]at ht
   have ht:t= .tup [en va,en vb,y]:=by simpa using ht
   have hw:a9 y i 999=true:=by
    cases y with
    | non=>cases q
    | _=>exact hd.2
   obtain⟨j,rfl,j1,j2⟩:=dt hw;exact⟨(va,vb,j),ht,ma,mb,by unfold big;simp only;omega⟩
structure Rd (cs ls:List T)(L:eY N2)(P:List N2):Prop where
 g:Good cs ls
 b:BI cs ls=L.map eB
 e:dY 0 cs=P.map en
 f:Fine L P
 nd:P.Nodup
 pl:P.length<=16
 ll:L.length<=60
 bg:∀x∈L,big x
theorem xw {L:eY N2}(h:∀x∈L,big x):size L<=999*L.length:=by
 unfold size
 induction L with
 | nil=>simp
 | cons x L ih=>
  rw[List.map_cons,List.sum_cons,List.length_cons]
  have:=ih λy hy=>h y (List.mem_cons_of_mem _ hy)
  have:=h x List.mem_cons_self;unfold big at this;omega
theorem vH {P:List N2}(h:(P.map en).Nodup):P.Nodup:=by
 induction P with
 | nil=>exact List.nodup_nil
 | cons a r ih=>
  rw[List.map_cons,List.nodup_cons]at h;exact List.nodup_cons.mpr ⟨λz=>h.1 (List.mem_map.mpr ⟨a,z,rfl⟩),ih h.2⟩
theorem rQ {cs ls:List T}(g:Good cs ls):∃L P,Rd cs ls L P:=by
 obtain⟨hc,c1,c4⟩:=cy g.c;obtain⟨P,eP,_⟩:=lb (f:=en) (p:=λ_=>True) (l:=dY 0 cs) λt ht=>wy ht
 have key:∀t∈BI cs ls,∃x,t=eB x/\(en x.1∈dY 0 cs/\en x.2.1∈dY 0 cs/\big x):=λt ht=>by
  unfold BI at ht;rw[List.mem_append]at ht;rcases ht with h | h
  ·exact zH hc (λc k h1 h2 h3=>sd (cs:=cs) h1 h2 h3) t h
  ·obtain⟨u,hu,h⟩:=List.mem_flatMap.mp h
   exact CL (g.l u hu) t h
 obtain⟨L,eL,hL⟩:=lb key
 have mem:∀v:N2,en v∈dY 0 cs->v∈P:=λv hv=>by
  rw[eP]at hv;obtain⟨u,hu,e⟩:=List.mem_map.mp hv;rw[<-Bu e];exact hu
 have hl:=yV g;rw[eL,List.length_map]at hl
 have hp:=oq cs 0 hc;rw[eP,List.length_map]at hp
 have hs:=xw λx hx=>(hL x hx).2.2
 exact⟨L,P,g,eL,eP,⟨by omega,by omega,λx hx=>⟨mem _ (hL x hx).1,mem _ (hL x hx).2.1⟩,by omega⟩,vH (eP▸jA cs 0),by omega,hl,λx hx=>(hL x hx).2.2⟩
def run (L:eY N2):N2->List Nat->Option N2
 | a,[] =>some a
 | a,k::r=>match L[k]? with
  | some x=>if x.1=a then run L x.2.1 r else none
  | none=>none
section
variable {cs ls:List T}{L:eY N2}{P:List N2}
theorem Rd.bounds (R:Rd cs ls L P):gP [.tup [.tup cs,.tup ls]] = .ok (eL L):=by rw[wE R.g,R.b];rfl
end
section
variable {cs ls:List T}{L:eY N2}{P:List N2}
theorem Rd.events (R:Rd cs ls L P):ee [.tup [.tup cs,.tup ls]] = .ok (eS P):=by rw[vz R.g,R.e];rfl
def jX (P:List N2)(t:N2->Int):T:=.tup (P.map λv=> .int (t v))
def atT (t:N2->Int)(u:T):T:=match u with
 | .tup [.int c,.int k] => .int (t ⟨c,k⟩)
 | _=> .non
end
def oI (o:Option Int):T:=match o with
 | some x=> .int x
 | none=> .non
def eO (P:List N2)(f:dy N2):List (List T×List T):=P.map λu=>(P.map en,P.map λv=>oI (f u v))
def cO (P:List N2)(f:dy N2):T:=.dct (P.map en) (P.map λu=> .dct (P.map en) (P.map λv=>oI (f u v)))
abbrev gi (P:List N2)(L:eY N2)(f:dy N2)(s3 s4 s5 s6 s7:Sl):En:=[.va (eS P),.va (eL L),.ow (.dd (P.map en) (eO P f)),s3,s4,s5,s6,s7]
abbrev zX (P:List N2)(L:eY N2)(f:dy N2)(s3 s4 s5 s6 s7:Sl):En:=[.va (eS P),.va (eL L),.va (cO P f),s3,s4,s5,s6,s7]
section
variable {P:List N2}{L:eY N2}{f:dy N2}
theorem rq (s3 s4 s5 s6 s7:Sl):disown 2 (gi P L f s3 s4 s5 s6 s7)=zX P L f s3 s4 s5 s6 s7:=by
 show [Sl.va (eS P),.va (eL L),.va (OT.view (.dd (P.map en) (eO P f))),s3,s4,s5,s6,s7] =_
 have e:OT.view (.dd (P.map en) (eO P f))=cO P f:=by
  show T.dct (P.map en) ((eO P f).map λr=>T.dct r.1 r.2)=_
  unfold eO cO;rw[List.map_map]
  rfl
 rw[e]
theorem ny {u v:N2}{a b c:En->Rs T}{Z:En}(hc:c Z= .ok (cO P f))(ha:a Z= .ok (en u))(hb:b Z= .ok (en v))(hu:u∈P)(hv:v∈P):o2 aI (o2 aI c a) b Z= .ok (oI (f u v)):=by
 refine az (t:=.dct (P.map en) (P.map λw=>oI (f u w))) (u:=en v) (az (t:=cO P f) (u:=en u) hc ha ?_) hb ?_
 ·show(match mj (P.map en) (P.map λu=>T.dct (P.map en) (P.map λv=>oI (f u v))) (ky u)with | some t=>Rs.ok t | none=> .bad)=_
  rw[kr (λu=>T.dct (P.map en) (P.map λv=>oI (f u v))),if_pos hu]
 ·show(match mj (P.map en) (P.map λw=>oI (f u w)) (ky v)with | some t=>Rs.ok t | none=> .bad)=_
  rw[kr (λw=>oI (f u w)),if_pos hv]
theorem vP {u v:N2}{a b:En->Rs T}{s3 s4 s5 s6 s7:Sl}(ha:a (zX P L f s3 s4 s5 s6 s7)= .ok (en u))(hb:b (zX P L f s3 s4 s5 s6 s7)= .ok (en v))(hu:u∈P)(hv:v∈P):ln 2 (o2 aI (o2 aI (vr 2) a) b) (gi P L f s3 s4 s5 s6 s7)= .ok (oI (f u v)):=
 CQ (o:=.dd (P.map en) (eO P f)) rfl (by rw[rq];exact ny rfl ha hb hu hv) (by cases f u v <;> rfl)
theorem uY (g:N2->List T×List T)(u:N2):∀(Q:List N2),u∈Q->lY (Q.map en) (Q.map g) (ky u)=some (g u)
 | w::Q,h=>by
  rw[List.map_cons,List.map_cons,lY,bv]
  by_cases e:w=u
  ·subst e;rw[if_pos rfl]
  ·rw[if_neg (λz=>e (gp z)),uY g u Q ((List.mem_cons.mp h).elim (λz=>absurd z.symm e) id)]
theorem uW (g:N2->List T×List T)(u:N2)(x:List T×List T):∀(Q:List N2),Q.Nodup->lX (ky u) x (Q.map en) (Q.map g)=Q.map λw=>if w=u then x else g w
 | [],_=>rfl
 | w::Q,h=>by
  rw[List.nodup_cons]at h;rw[List.map_cons,List.map_cons,lX,bv,List.map_cons]
  by_cases e:w=u
  ·subst e
   rw[if_pos rfl,if_pos rfl]
   congr 1
   exact List.map_congr_left λz hz=>by rw[if_neg (λ(y:z=w)=>h.1 (y▸hz))]
  ·rw[if_neg (λz=>e (gp z)),if_neg e,uW g u x Q h.2]
theorem vc (nd:P.Nodup)(pl:P.length<1000){u v:N2}{x:Int}{a b c:En->Rs T}{s3 s4 s5 s6 s7:Sl}(ha:a (gi P L f s3 s4 s5 s6 s7)= .ok (en u))(hb:b (gi P L f s3 s4 s5 s6 s7)= .ok (en v))(hc:c (gi P L f s3 s4 s5 s6 s7)= .ok (.int x))(hu:u∈P)(hv:v∈P) :
  gv 2 a b c (gi P L f s3 s4 s5 s6 s7)= .ok (.nx (gi P L (gV f u v x) s3 s4 s5 s6 s7)):=by
 unfold gv
 show(c (gi P L f s3 s4 s5 s6 s7) >>= λw=>a (gi P L f s3 s4 s5 s6 s7) >>= λz=>match(aN z).bind λka=>(lY (P.map en) (eO P f) ka).map λr=>(ka,r)with
  | some (ka,r)=>b (gi P L f s3 s4 s5 s6 s7) >>= λy=>if (aN y).isSome=true/\r.1.length<1000 then Rs.ok (Fl.nx ((gi P L f s3 s4 s5 s6 s7).set 2 (.ow (.dd (P.map en) (lX ka (fH y w r.1 r.2) (P.map en) (eO P f))))))else .bad
  | none=> .bad)=_
 rw[hc,ay,ha,ay,bv]
 have e1:lY (P.map en) (eO P f) (ky u)=some (P.map en,P.map λv=>oI (f u v)):=uY (λu=>(P.map en,P.map λv=>oI (f u v))) u P hu
 simp only[Option.bind_some,e1,Option.map_some];rw[hb,ay,bv,if_pos ⟨rfl,by rw[List.length_map];exact pl⟩,sR (.int x) v (λv=>oI (f u v)) P nd hv]
 have e2:=uW (λu=>(P.map en,P.map λv=>oI (f u v))) u (P.map en,P.map λw=>if w=v then T.int x else oI (f u w)) P nd
 have e3:(P.map λw=>if w=u then(P.map en,P.map λw=>if w=v then T.int x else oI (f u w))else(P.map en,P.map λv=>oI (f w v)))=eO P (gV f u v x):=by
  unfold eO gV;refine List.map_congr_left λw _=> ?_
  by_cases e:w=u
  ·subst e
   rw[if_pos rfl]
   congr 1
   refine List.map_congr_left λz _=> ?_
   by_cases h:z=v
   ·rw[if_pos h,if_pos ⟨rfl,h⟩];rfl
   ·rw[if_neg h,if_neg (λq=>h q.2)]
  ·rw[if_neg e]
   congr 1
   exact List.map_congr_left λz _=>by rw[if_neg (λq=>e q.1)]
 show Rs.ok (Fl.nx [.va (eS P),.va (eL L),.ow (.dd (P.map en) (lX (ky u) (P.map en,P.map λw=>if w=v then T.int x else oI (f u w)) (P.map en) (eO P f))),s3,s4,s5,s6,s7])=_
 rw[show lX (ky u) (P.map en,P.map λw=>if w=v then T.int x else oI (f u w)) (P.map en) (eO P f)=eO P (gV f u v x)from e2.trans e3]
theorem wk (nd:P.Nodup)(pl:P.length<1000){u v:N2}{x:Int}{a b c:En->Rs T}{s3 s4 s5 s6 s7:Sl}(ha:a (gi P L f s3 s4 s5 s6 s7)= .ok (en u))(hb:b (gi P L f s3 s4 s5 s6 s7)= .ok (en v))(ha':a (zX P L f s3 s4 s5 s6 s7)= .ok (en u))(hb':b (zX P L f s3 s4 s5 s6 s7)= .ok (en v))(hc:c (gi P L f s3 s4 s5 s6 s7)= .ok (.int x))(hu:u∈P)(hv:v∈P) :
  fV (jz (tb (o2 mh (ln 2 (o2 aI (o2 aI (vr 2) a) b)) (cn .non))) (tb (o2 qV c (ln 2 (o2 aI (o2 aI (vr 2) a) b))))) (gv 2 a b c) sN (gi P L f s3 s4 s5 s6 s7)= .ok (.nx (gi P L (j5 f u v x) s3 s4 s5 s6 s7)):=by
 have g:=vP (P:=P) (L:=L) (f:=f) ha' hb' hu hv
 have p:=vc (P:=P) (L:=L) (f:=f) nd pl ha hb hc hu hv;unfold j5
 cases q:f u v with
 | none=>
  rw[q]at g
  exact(ji (CP (cC (az (t:=.non) (u:=.non) g rfl rfl)))).trans p
 | some y=>
  rw[q]at g
  have c2:tb (o2 qV c (ln 2 (o2 aI (o2 aI (vr 2) a) b))) (gi P L f s3 s4 s5 s6 s7)= .ok (decide (x<y)):=cC (az (t:=.int x) (u:=.int y) hc g rfl)
  by_cases h:x<y
  ·rw[decide_eq_true h]at c2
   simp only[if_pos h];exact(ji (qc (cC (az (t:=.int y) (u:=.non) g rfl rfl)) c2)).trans p
  ·rw[decide_eq_false h]at c2
   simp only[if_neg h];exact(f8 (qc (cC (az (t:=.int y) (u:=.non) g rfl rfl)) c2)).trans rfl
end
section
variable {P:List N2}{L:eY N2}
theorem ld:∀(P:List N2),fZ (P.map en)=true
 | [] =>rfl
 | u::P=>by
  have:=ld P;simp[fZ,bv,this]
theorem Ba (nd:P.Nodup):((P.map en).map aN).Nodup:=by
 rw[List.map_map];exact nd.map _ λa b h e=>h (gp e)
theorem zV (nd:P.Nodup)(pl:P.length<=1000):kN 2 0 [.va (eS P),.va (eL L),.em,.em,.em,.em,.em,.em] = .ok (.nx (gi P L (λ_ _=>none) .em .em .em .em .em)):=by
 show(if (2:Nat)<8/\fZ (P.map en)=true/\((P.map en).map aN).Nodup/\(P.map en).length<=1000 then Rs.ok (Fl.nx [.va (eS P),.va (eL L),.ow (.dd (P.map en) ((P.map en).map λ_=>(P.map en,(P.map en).map λ_=>T.non))),.em,.em,.em,.em,.em])else .bad)=_
 rw[if_pos ⟨by omega,ld P,Ba nd,by rw[List.length_map];exact pl⟩,List.map_map,List.map_map]
 rfl
theorem zo (nd:P.Nodup)(pl:P.length<1000):∀(Q:List N2) (f:dy N2) (s3 s4 s5 s6 s7:Sl),(∀u∈Q,u∈P)->∃s3',
  a7 (gN 3) (gv 2 (vr 3) (vr 3) (cn (.int 0))) (Q.map en) (gi P L f s3 s4 s5 s6 s7)= .ok (.nx (gi P L (Q.foldl (λf u=>gV f u u 0) f) s3' s4 s5 s6 s7))
 | [],f,s3,s4,s5,s6,s7,_=>⟨s3,rfl⟩
 | u::Q,f,s3,s4,s5,s6,s7,h=>by
  have hu:=h u List.mem_cons_self;rw[List.map_cons,cT (Z1:=gi P L f (.va (en u)) s4 s5 s6 s7) rfl (vc nd pl (u:=u) (v:=u) (x:=0) rfl rfl rfl hu hu)];exact zo nd pl Q _ _ _ _ _ _ λw hw=>h w (List.mem_cons_of_mem _ hw)
theorem mT:∀(Q:List N2) (f:dy N2) (u v:N2),Q.foldl (λf u=>gV f u u 0) f u v=if u∈Q/\u=v then some 0 else f u v
 | [],f,u,v=>by rw[if_neg (λh=>nomatch h.1)];rfl
 | w::Q,f,u,v=>by
  rw[List.foldl_cons,mT Q]
  by_cases e:u=v
  ·subst e
   by_cases m:u∈Q
   ·rw[if_pos ⟨m,rfl⟩,if_pos ⟨List.mem_cons_of_mem _ m,rfl⟩]
   ·rw[if_neg (λz=>m z.1)]
    unfold gV
    by_cases q:u=w
    ·subst q;rw[if_pos ⟨rfl,rfl⟩,if_pos ⟨List.mem_cons_self,rfl⟩]
    ·rw[if_neg (λz=>q z.1),if_neg (λz=>(List.mem_cons.mp z.1).elim q m)]
  ·rw[if_neg (λz=>e z.2),if_neg (λz=>e z.2)]
   unfold gV;rw[if_neg (λz=>e (z.1.trans z.2.symm))]
theorem ud (P:List N2):P.foldl (λf u=>gV f u u 0) (λ_ _=>none)=o5 P:=by
 funext u v
 rw[mT]
 rfl
theorem zn (nd:P.Nodup)(pl:P.length<1000):∀(M:eY N2) (f:dy N2) (s3 s4 s5 s6 s7:Sl),(∀x∈M,x.1∈P/\x.2.1∈P)->∃s3' s4' s5',
  a7 (gT 3 (dI (gN 3) (dI (gN 4) (dI (gN 5) j4)))) (fV (jz (tb (o2 mh (ln 2 (o2 aI (o2 aI (vr 2) (vr 3)) (vr 4))) (cn .non))) (tb (o2 qV (vr 5) (ln 2 (o2 aI (o2 aI (vr 2) (vr 3)) (vr 4)))))) (gv 2 (vr 3) (vr 4) (vr 5)) sN) (M.map eB) (gi P L f s3 s4 s5 s6 s7)= .ok (.nx (gi P L (M.foldl (λf x=>j5 f x.1 x.2.1 x.2.2) f) s3' s4' s5' s6 s7))
 | [],f,s3,s4,s5,s6,s7,_=>⟨s3,s4,s5,rfl⟩
 | x::M,f,s3,s4,s5,s6,s7,h=>by
  have hx:=h x List.mem_cons_self;rw[List.map_cons,cT (Z1:=gi P L f (.va (en x.1)) (.va (en x.2.1)) (.va (.int x.2.2)) s6 s7) rfl (wk nd pl (u:=x.1) (v:=x.2.1) (x:=x.2.2) rfl rfl rfl rfl rfl hx.1 hx.2)];exact zn nd pl M _ _ _ _ _ _ λw hw=>h w (List.mem_cons_of_mem _ hw)
abbrev BQ:En->Rs Fl:=(fV (mm (tb (o2 cK (ln 2 (o2 aI (o2 aI (vr 2) (vr 3)) (vr 6))) (cn .non))) (tb (o2 cK (ln 2 (o2 aI (o2 aI (vr 2) (vr 6)) (vr 4))) (cn .non)))) (aB (db (o2 aH (ln 2 (o2 aI (o2 aI (vr 2) (vr 3)) (vr 6))) (ln 2 (o2 aI (o2 aI (vr 2) (vr 6)) (vr 4)))) (gN 7)) (fV (jz (tb (o2 mh (ln 2 (o2 aI (o2 aI (vr 2) (vr 3)) (vr 4))) (cn .non))) (tb (o2 qV (vr 7) (ln 2 (o2 aI (o2 aI (vr 2) (vr 3)) (vr 4)))))) (gv 2 (vr 3) (vr 4) (vr 7)) sN)) sN)
theorem xm (nd:P.Nodup)(pl:P.length<1000){mid one other:N2}(hm:mid∈P)(h1:one∈P)(h2:other∈P)(f:dy N2)(s5 s7:Sl):∃s7',
  BQ (gi P L f (.va (en one)) (.va (en other)) s5 (.va (en mid)) s7)= .ok (.nx (gi P L (jl mid one other f) (.va (en one)) (.va (en other)) s5 (.va (en mid)) s7')):=by
 have ga:∀s7,ln 2 (o2 aI (o2 aI (vr 2) (vr 3)) (vr 6)) (gi P L f (.va (en one)) (.va (en other)) s5 (.va (en mid)) s7)= .ok (oI (f one mid)):=λs7=>vP rfl rfl h1 hm
 have gb:∀s7,ln 2 (o2 aI (o2 aI (vr 2) (vr 6)) (vr 4)) (gi P L f (.va (en one)) (.va (en other)) s5 (.va (en mid)) s7)= .ok (oI (f mid other)):=λs7=>vP rfl rfl hm h2
 unfold jl BQ
 cases qa:f one mid with
 | none=>
  have ga:=ga s7;rw[qa]at ga
  exact⟨s7,(f8 (wa (cC (az (t:=.non) (u:=.non) ga rfl rfl)))).trans rfl⟩
 | some x=>
  have ga:=ga s7;rw[qa]at ga
  have c1:=cC (az (g:=cK) (t:=.int x) (u:=.non) (fb:=cn .non) ga rfl rfl)
  cases qb:f mid other with
  | none=>
   have gb:=gb s7;rw[qb]at gb
   exact⟨s7,(f8 (rf c1 (cC (az (t:=.non) (u:=.non) gb rfl rfl)))).trans rfl⟩
  | some y=>
   have gb:=gb s7;rw[qb]at gb;refine⟨.va (.int (x+y)),(ji (rf c1 (cC (az (t:=.int y) (u:=.non) gb rfl rfl)))).trans ?_⟩
   rw[aD (cI (Z':=gi P L f (.va (en one)) (.va (en other)) s5 (.va (en mid)) (.va (.int (x+y)))) (az (t:=.int x) (u:=.int y) ga gb rfl) rfl)];exact wk nd pl (u:=one) (v:=other) (x:=x+y) rfl rfl rfl rfl rfl h1 h2
theorem zm (nd:P.Nodup)(pl:P.length<1000){mid one:N2}(hm:mid∈P)(h1:one∈P):∀(Q:List N2) (f:dy N2) (s4 s5 s7:Sl),(∀u∈Q,u∈P)->∃s4' s7',
  a7 (gN 4) BQ (Q.map en) (gi P L f (.va (en one)) s4 s5 (.va (en mid)) s7)= .ok (.nx (gi P L (jm mid one Q f) (.va (en one)) s4' s5 (.va (en mid)) s7'))
 | [],f,s4,s5,s7,_=>⟨s4,s7,rfl⟩
 | u::Q,f,s4,s5,s7,h=>by
  have hu:=h u List.mem_cons_self;obtain⟨s7',e⟩:=xm (L:=L) nd pl hm h1 hu f s5 s7;rw[List.map_cons,cT (Z1:=gi P L f (.va (en one)) (.va (en u)) s5 (.va (en mid)) s7) rfl e];exact zm nd pl hm h1 Q _ _ _ _ λw hw=>h w (List.mem_cons_of_mem _ hw)
theorem zl (nd:P.Nodup)(pl:P.length<1000){mid:N2}(hm:mid∈P):∀(Q:List N2) (f:dy N2) (s3 s4 s5 s7:Sl),(∀u∈Q,u∈P)->∃s3' s4' s7',
  a7 (gN 3) (d7 (iS (vr 0)) (gN 4) BQ) (Q.map en) (gi P L f s3 s4 s5 (.va (en mid)) s7)= .ok (.nx (gi P L (lv mid Q P f) s3' s4' s5 (.va (en mid)) s7'))
 | [],f,s3,s4,s5,s7,_=>⟨s3,s4,s7,rfl⟩
 | u::Q,f,s3,s4,s5,s7,h=>by
  have hu:=h u List.mem_cons_self;obtain⟨s4',s7',e⟩:=zm (L:=L) nd pl hm hu P f s4 s5 s7 λ_ z=>z
  rw[List.map_cons,cT (Z1:=gi P L f (.va (en u)) s4 s5 (.va (en mid)) s7) rfl (ei (ts:=P.map en) rfl e)];exact zl nd pl hm Q _ _ _ _ _ λw hw=>h w (List.mem_cons_of_mem _ hw)
theorem zk (nd:P.Nodup)(pl:P.length<1000):∀(Q:List N2) (f:dy N2) (s3 s4 s5 s6 s7:Sl),(∀u∈Q,u∈P)->∃s3' s4' s6' s7',
  a7 (gN 6) (d7 (iS (vr 0)) (gN 3) (d7 (iS (vr 0)) (gN 4) BQ)) (Q.map en) (gi P L f s3 s4 s5 s6 s7)= .ok (.nx (gi P L (qi Q P f) s3' s4' s5 s6' s7'))
 | [],f,s3,s4,s5,s6,s7,_=>⟨s3,s4,s6,s7,rfl⟩
 | u::Q,f,s3,s4,s5,s6,s7,h=>by
  have hu:=h u List.mem_cons_self;obtain⟨s3',s4',s7',e⟩:=zl (L:=L) nd pl hu P f s3 s4 s5 s7 λ_ z=>z
  rw[List.map_cons,cT (Z1:=gi P L f s3 s4 s5 (.va (en u)) s7) rfl (ei (ts:=P.map en) rfl e)];exact zk nd pl Q _ _ _ _ _ _ λw hw=>h w (List.mem_cons_of_mem _ hw)
def ze (P:List N2)(f:dy N2):Prop:=∀u∈P,∀y,f u u=some y->0<=y
theorem zW (hd:∀u∈P,∃y,table P L u u=some y)(pl:P.length<1000)(s3 s4 s5 s6 s7:Sl) :
  ∃t,((ze P (table P L)/\t=cO P (table P L))\/(¬ze P (table P L)/\t= .non))/\lW 2 (aO (oM (tb (o2 lR (eh (iS (vr 0)) [none,some 2] (gN 0) (tb (o2 qV (o2 aI (o2 aI (vr 1) (vr 0)) (vr 0)) (cn (.int 0)))) (vr 0)) (dg ag))) (vr 2) (cn .non))) (gi P L (table P L) s3 s4 s5 s6 s7)= .ok (.rt t):=by
 generalize hf:table P L=f
 rw[hf]at hd
 have lc:eh (iS (vr 0)) [none,some 2] (gN 0) (tb (o2 qV (o2 aI (o2 aI (vr 1) (vr 0)) (vr 0)) (cn (.int 0)))) (vr 0) (zX P L f s3 s4 s5 s6 s7)= .ok (.lst (((P.map en).filter λt=>P.any λu=>decide (aN t=some (ky u))&&(match f u u with | some y=>decide (y<0) | none=>false)).map id)):=by
  refine v6 (ts:=P.map en) rfl (ax (k:=1000) (by rw[List.length_map];omega)) (by simp) λt ht=> ?_
  obtain⟨u,hu,rfl⟩:=List.mem_map.mp ht;obtain⟨y,hy⟩:=hd u hu;refine⟨?_,λ_=>rfl⟩
  have e:(P.any λw=>decide (aN (en u)=some (ky w))&&(match f w w with | some y=>decide (y<0) | none=>false))=decide (y<0):=by
   by_cases h:y<0
   ·rw[decide_eq_true h]
    exact List.any_eq_true.mpr ⟨u,hu,by rw[hy];simp[h,bv]⟩
   ·rw[decide_eq_false h,List.any_eq_false]
    intro w hw
    by_cases q:w=u
    ·subst q;rw[hy];simp[h]
    ·rw[decide_eq_false (λz=>q (gp ((bv u).symm.trans z)).symm)];simp
  rw[e]
  have g:=ny (P:=P) (f:=f) (u:=u) (v:=u) (Z:=[.va (en u),.va (cO P f)]) (c:=vr 1) (a:=vr 0) (b:=vr 0) rfl rfl rfl hu hu;rw[hy]at g;exact cC (az (t:=.int y) (u:=.int 0) g rfl rfl)
 rw[List.map_id]at lc
 generalize hp:(λt=>P.any λu=>decide (aN t=some (ky u))&&(match f u u with | some y=>decide (y<0) | none=>false))=p at lc
 have pu:∀u∈P,∀y,f u u=some y->p (en u)=decide (y<0):=by
  intro u hu y hy;rw[<-hp]
  show(P.any λw=>decide (aN (en u)=some (ky w))&&(match f w w with | some y=>decide (y<0) | none=>false))=decide (y<0)
  by_cases h:y<0
  ·rw[decide_eq_true h]
   exact List.any_eq_true.mpr ⟨u,hu,by rw[hy];simp[h,bv]⟩
  ·rw[decide_eq_false h,List.any_eq_false]
   intro w hw
   by_cases q:w=u
   ·subst q;rw[hy];simp[h]
   ·rw[decide_eq_false (λz=>q (gp ((bv u).symm.trans z)).symm)];simp
 have iff:(P.map en).filter p= [] ↔ze P f:=by
  rw[List.filter_eq_nil_iff]
  constructor
  ·intro h u hu y hy
   have:=h (en u) (List.mem_map.mpr ⟨u,hu,rfl⟩);rw[pu u hu y hy]at this
   simpa using this
  ·intro h t ht
   obtain⟨u,hu,rfl⟩:=List.mem_map.mp ht;obtain⟨y,hy⟩:=hd u hu;rw[pu u hu y hy]
   have:=h u hu y hy
   simpa using this
 have nd:nds ((P.map en).filter p)=true:=vL λt ht=>by
  obtain⟨u,_,rfl⟩:=List.mem_map.mp (List.mem_filter.mp ht).1
  rfl
 have eq:o2 lR (eh (iS (vr 0)) [none,some 2] (gN 0) (tb (o2 qV (o2 aI (o2 aI (vr 1) (vr 0)) (vr 0)) (cn (.int 0)))) (vr 0)) (dg ag) (zX P L f s3 s4 s5 s6 s7)= .ok (.bl (bO (.lst ((P.map en).filter p)) (.lst []))):=
  az (u:=.lst []) lc (gR rfl (ax (k:=1) (by simp))) (by unfold lR;rw[if_pos (lw (by simp[T.dep,deps]) (by simpa [T.nd]using nd) rfl)])
 by_cases D:ze P f
 ·refine⟨cO P f,.inl ⟨D,rfl⟩,?_⟩
  rw[iff.mpr D]at eq;refine zC ?_
  rw[rq];exact eQ ((mQ (p:=true) (cC eq)).trans rfl)
 ·refine⟨.non,.inr ⟨D,rfl⟩,?_⟩
  have:(P.map en).filter p≠ []:=λz=>D (iff.mp z)
  cases q:(P.map en).filter p with
  | nil=>exact absurd q this
  | cons a l=>
   rw[q]at eq;refine zC ?_
   rw[rq];exact eQ ((mQ (p:=false) (cC (eq.trans (by simp[bO,beqTs])))).trans rfl)
theorem yG (nd:P.Nodup)(pl:P.length<1000)(hL:∀x∈L,x.1∈P/\x.2.1∈P) :
  ∃t,((jW L/\lO L P (table P L)/\t=cO P (table P L))\/(¬jW L/\t= .non))/\eU [eS P,eL L] = .ok t:=by
 obtain⟨a3,e1⟩:=zo (L:=L) nd pl P (λ_ _=>none) .em .em .em .em .em λ_ z=>z
 rw[ud]at e1;obtain⟨b3,b4,b5,e2⟩:=zn (L:=L) nd pl L (o5 P) a3 .em .em .em .em hL;obtain⟨c3,c4,c6,c7,e3⟩:=zk (L:=L) nd pl P (uM P L) b3 b4 b5 .em .em λ_ z=>z
 obtain⟨t,ht,e4⟩:=zW (P:=P) (L:=L) (λu hu=>let ⟨y,h,_⟩:=kD (L:=L) hu;⟨y,h⟩) pl c3 c4 b5 c6 c7
 refine⟨t,ht.elim (λh=> .inl ?_) (λh=> .inr ⟨λn=>h.1 λu hu y hy=> ?_,h.2⟩),cS rfl ?_⟩
 ·have:=o4 hL h.1
  exact⟨this.1,this.2,h.2⟩
 ·exact Int.not_lt.mp λz=>tz hy z n
 ·show dF [.va (eS P),.va (eL L),.em,.em,.em,.em,.em,.em] =_
  unfold dF;rw[aD (zV nd (by omega)),aD (ei (ts:=P.map en) rfl e1),aD (ei (ts:=L.map eB) rfl e2)]
  exact(aD (ei (ts:=P.map en) rfl e3)).trans e4
end
theorem yu {f:En->Rs T}{l:List T}{t:T}{Z:En}{i:Int}(n:Nat)(h:f Z= .ok (.tup l))(e:l[n]? =some t)(hi:i=(n:Nat):=by rfl):o2 bN f (cn (.int i)) Z= .ok t:=by subst hi;exact t9 h rfl e
theorem iU {g:T->En->Rs En}{fc:En->Rs Bool}{fe:En->Rs T}{p:T->Bool}{h:T->T}(I:En->Prop):∀(ts:List T) (Z:En),I Z->(∀t∈ts,∀Z,I Z->∃Z1,g t Z= .ok Z1/\I Z1/\fc Z1= .ok (p t)/\fe Z1= .ok (h t))->cH g fc fe ts Z= .ok ((ts.filter p).map h)
 | [],_,_,_=>rfl
 | t::r,Z,hI,hf=>by
  obtain⟨Z1,e1,i1,e2,e3⟩:=hf t List.mem_cons_self Z hI
  have ih:=iU I r Z1 i1 λu hu=>hf u (List.mem_cons_of_mem _ hu)
  unfold cH
  cases q:p t with
  | true=>simp only[e1,ay,e2,q,if_true,e3,ih,List.filter_cons_of_pos q,List.map_cons]
  | false=>simp only[e1,ay,e2,q,Bool.false_eq_true,if_false,ih,List.filter_cons_of_neg (show ¬p t=true by rw[q];decide)]
theorem mY (g:N2->T):∀(S ns:List N2),(ns++S).Nodup->jo ((S.map en).zip (S.map g)) (ns.map en,ns.map g)=((ns++S).map en,(ns++S).map g)
 | [],ns,_=>by rw[List.append_nil];rfl
 | v::S,ns,hn=>by
  have hv:v∉ns:=λz=>by
   rw[List.nodup_append]at hn;exact hn.2.2 v z v List.mem_cons_self rfl
  rw[List.map_cons,List.map_cons,List.zip_cons_cons,jo,lA _ _ _ _ hv]
  have e1:ns.map en++ [en v] =(ns++ [v]).map en:=by rw[List.map_append];rfl
  have e2:ns.map g++ [g v] =(ns++ [v]).map g:=by rw[List.map_append];rfl
  rw[e1,e2,mY g S (ns++ [v]) (by rw[List.append_assoc];exact hn),List.append_assoc]
  rfl
def oN (P:List N2)(t:N2->Int):T:=.dct (P.map en) (P.map λv=> .int (t v))
def hB (t:N2->Int)(x:N2×N2×Int):Bool:=decide (t x.2.1 - t x.1<=x.2.2)
def C7 (t:N2->Int)(u:T):Bool:=match u with
 | .tup [_,.tup [.tup [.int a,.int b],.tup [.int c,.int d],.int m]] => !hB t (⟨a,b⟩,⟨c,d⟩,m)
 | _=>false
def brH (u:T):T:=match u with
 | .tup [i,_] =>i
 | _=> .non
def qA (t:N2->Int)(L:eY N2):List T:=((br 0 (L.map eB)).filter (C7 t)).map brH
theorem wP (t:N2->Int)(i:T)(x:N2×N2×Int):C7 t (.tup [i,eB x])= !hB t x:=rfl
theorem sL {t:T}:∀{l:List T} {i:Nat},t∈br i l->∃k u,u∈l/\t= .tup [.int (k:Nat),u]
 | [],i,h=>by simp[br]at h
 | u::l,i,h=>by
  rw[br,List.mem_cons]at h;rcases h with rfl | h
  ·exact⟨i,u,List.mem_cons_self,rfl⟩
  ·obtain⟨k,w,hw,e⟩:=sL h
   exact⟨k,w,List.mem_cons_of_mem _ hw,e⟩
theorem ku (t:N2->Int):∀(L:eY N2) (i:Nat),((br i (L.map eB)).filter (C7 t))= [] ↔L.all (hB t)=true
 | [],i=>by simp[br]
 | x::L,i=>by
  rw[List.map_cons,br,List.all_cons,Bool.and_eq_true,<-ku t L (i+1)]
  cases q:hB t x with
  | true=>rw[List.filter_cons_of_neg (by rw[wP,q];decide)];simp
  | false=>rw[List.filter_cons_of_pos (by rw[wP,q];rfl)];simp
theorem holds_all {L:eY N2}{t:N2->Int}:L.all (hB t)=true↔Holds L t:=by
 rw[List.all_eq_true];refine⟨λh a b m hm=>by have:=h _ hm;exact of_decide_eq_true this,λh x hx=>decide_eq_true (h _ _ _ hx)⟩
theorem ly:∀(l:List T) (i:Nat),(br i l).length=l.length
 | [],_=>rfl
 | t::l,i=>by rw[br,List.length_cons,List.length_cons,ly l (i+1)]
theorem sW {t:N2->Int}{L:eY N2}{u:T}(h:u∈qA t L):∃k:Nat,u= .int (k:Nat):=by
 obtain⟨w,hw,rfl⟩:=List.mem_map.mp h;obtain⟨k,y,_,rfl⟩:=sL (List.mem_filter.mp hw).1;exact⟨k,rfl⟩
theorem wN (t:N2->Int)(L:eY N2):lR (.lst (qA t L)) (.lst [])= .ok (.bl (L.all (hB t))):=by
 have pl:(T.lst (qA t L)).pl=true:=by
  unfold T.pl;exact gk λu hu=>by obtain⟨k,rfl⟩:=sW hu;rfl
 unfold lR;rw[if_pos (lw (by simp[T.dep,deps]) (T.pl_nd _ pl) (T.pl_nd _ (by rfl)))]
 cases q:L.all (hB t)with
 | true=>
  unfold qA
  rw[(ku t L 0).mpr q];rfl
 | false=>
  have:qA t L≠ []:=λz=>by
   unfold qA at z;rw[(ku t L 0).mp (List.map_eq_nil_iff.mp z)]at q;cases q
  cases e:qA t L with
  | nil=>exact absurd e this
  | cons a l=>simp[bO,beqTs]
theorem sI:∀{P:List N2} {τ:List Int},P.Nodup->τ.length=P.length->∃t:N2->Int,P.map t=τ
 | [],[],_,_=>⟨λ_=>0,rfl⟩
 | [],_::_,_,h=>by simp at h
 | _::_,[],_,h=>by simp at h
 | v::P,x::τ,hn,h=>by
  obtain⟨t,e⟩:=sI (List.nodup_cons.mp hn).2 (by simpa using h:τ.length=P.length)
  refine⟨λu=>if u=v then x else t u,?_⟩
  rw[List.map_cons,if_pos rfl,<-e]
  congr 1
  refine List.map_congr_left λu hu=>if_neg λz=> ?_
  rw[z]at hu;exact(List.nodup_cons.mp hn).1 hu
def mf (n:Nat)(u:T):Bool:=cY u n n&&(match u with
 | .tup l=>l.all Bj
 | _=>false)
theorem zi (P:List N2)(t:N2->Int):mf P.length (jX P t)=true:=by
 unfold mf jX;simp only[Bool.and_eq_true];refine⟨by simp[cY],List.all_eq_true.mpr λu hu=> ?_⟩
 obtain⟨v,_,rfl⟩:=List.mem_map.mp hu
 rfl
theorem zh (P:List N2)(t:N2->Int):(jX P t).pl=true:=by
 unfold jX;rw[gM];exact gk λu hu=>by obtain⟨v,_,rfl⟩:=List.mem_map.mp hu;rfl
section
variable {cs ls:List T}{L:eY N2}{P:List N2}
theorem Rd.pos (R:Rd cs ls L P):0<P.length:=by
 obtain⟨hcl,c1,_⟩:=cy R.g.c
 have e:=congrArg List.length R.e;rw[List.length_map]at e;rw[<-e]
 cases cs with
 | nil=>simp at c1
 | cons c cs=>
  obtain⟨x,y,r,rfl,r1,_⟩:=eC (hcl c List.mem_cons_self);rw[dY,List.length_append,f9]
  show 0<r.length+_
  omega
theorem Rd.dz (R:Rd cs ls L P)(t:N2->Int):By [eS P,jX P t] = .ok (oN P t):=by
 have h0:=R.pos
 have h1:=R.pl
 show(if fZ (P.map en)=true/\(P.map en).length=(P.map λv=>T.int (t v)).length/\1<=(P.map en).length/\(P.map en).length<=1000 then _ else _)=_
 rw[if_pos ⟨ld P,by rw[List.length_map,List.length_map],by rw[List.length_map];omega,by rw[List.length_map];omega⟩]
 have:=mY (λv=> .int (t v)) P [] (by simpa using R.nd)
 rw[List.nil_append]at this;rw[show(([]:List T),([]:List T))=(([]:List N2).map en,([]:List N2).map λv=>T.int (t v))from rfl,this]
 rfl
theorem qu {t:N2->Int}{v:N2}{a b:En->Rs T}{Z:En}(ha:a Z= .ok (oN P t))(hb:b Z= .ok (en v))(hv:v∈P):o2 aI a b Z= .ok (.int (t v)):=by
 refine az (t:=oN P t) (u:=en v) ha hb ?_
 show(match mj (P.map en) (P.map λv=>T.int (t v)) (ky v)with | some t=>Rs.ok t | none=> .bad)=_
 rw[kr (λv=>T.int (t v)),if_pos hv]
theorem yI {t:N2->Int}{x:N2×N2×Int}(h1:x.1∈P)(h2:x.2.1∈P):kh [eB x,oN P t] = .ok (.bl (hB t x)):=by
 refine cS rfl (eQ ?_)
 show o2 A5 (o2 bP (o2 aI (vr 1) (o2 bN (vr 0) (cn (.int 1)))) (o2 aI (vr 1) (o2 bN (vr 0) (cn (.int 0))))) (o2 bN (vr 0) (cn (.int 2))) [.va (eB x),.va (oN P t)] =_
 exact az (t:=.int (t x.2.1 - t x.1)) (u:=.int x.2.2) (az (t:=.int (t x.2.1)) (u:=.int (t x.1)) (qu (P:=P) rfl (yu 1 rfl rfl) h2) (qu (P:=P) rfl (yu 0 rfl rfl) h1) rfl) (yu 2 rfl rfl) rfl
theorem Rd.broken (R:Rd cs ls L P)(t:N2->Int):bt [(.tup [.tup cs,.tup ls]),jX P t] = .ok (.lst (qA t L)):=by
 refine cS rfl ?_
 show fG [.va (.tup [.tup cs,.tup ls]),.va (jX P t),.em] =_
 unfold fG;rw[aD (Z':=[.va (.tup [.tup cs,.tup ls]),.va (jX P t),.va (oN P t)]) (cI (bh (ts:=[eS P,jX P t]) (aq (bh (ts:=[(.tup [.tup cs,.tup ls])]) rfl R.events) rfl) (R.dz t)) rfl)];refine eQ ?_
 unfold eh;rw[v7 (l:=L.map eB) (aq (bh (ts:=[(.tup [.tup cs,.tup ls])]) rfl R.bounds) rfl),ay,if_pos (ax (k:=60) (by rw[ly,List.length_map];exact R.ll))]
 rw[show a8 [none,none,some 2] [.va (.tup [.tup cs,.tup ls]),.va (jX P t),.va (oN P t)] = [.em,.em,.va (oN P t)]from rfl,iU (p:=C7 t) (h:=brH) (λZ=> ∃a b,Z= [a,b,.va (oN P t)]) _ _ ⟨_,_,rfl⟩ λu hu Z hh_=>by
  obtain⟨a,b,e⟩:=hh_;subst e;obtain⟨k,w,hw,rfl⟩:=sL hu;obtain⟨x,hx,rfl⟩:=List.mem_map.mp hw
  have hh:=R.f.ends x hx;exact⟨[.va (.int (k:Nat)),.va (eB x),.va (oN P t)],rfl,⟨_,_,rfl⟩,(vZ (cC (bh (ts:=[eB x,oN P t]) rfl (yI hh.1 hh.2)))),rfl⟩]
 rfl
theorem Rd.aret (R:Rd cs ls L P){u:T}(hu:u.pl=true):aR [(.tup [.tup cs,.tup ls]),u] = .ok (.bl (mf P.length u)):=by
 refine cS rfl ?_
 show cW [.va (.tup [.tup cs,.tup ls]),.va u,.em] =_
 unfold cW;rw[aD (Z':=[.va (.tup [.tup cs,.tup ls]),.va u,.va (.int (P.length:Nat))]) (cI (bh (ts:=[eS P]) (aq (bh (ts:=[(.tup [.tup cs,.tup ls])]) rfl R.events) rfl) (by show Rs.ok (T.int ((P.map en).length:Nat))=_;rw[List.length_map])) rfl)]
 refine eQ (yw (bh (ts:=[u,.int (P.length:Nat),.int (P.length:Nat)]) rfl (gX u P.length P.length hu)) λh=> ?_)
 obtain⟨l,rfl,_,hl⟩:=cA h;exact lL (Bg rfl) (ax (k:=16) (by have:=R.pl;omega)) (by simp) λv hv=>bh (ts:=[v]) rfl (sM v (by rw[gM]at hu;exact hX hu hv))
theorem Rd.isw (R:Rd cs ls L P)(t:N2->Int):aU [(.tup [.tup cs,.tup ls]),jX P t] = .ok (.bl (L.all (hB t))):=by
 refine cS rfl (eQ ?_)
 refine(v9 (bh (ts:=[(.tup [.tup cs,.tup ls]),jX P t]) rfl (by rw[R.aret (zh P t),zi]))).trans ?_
 exact az (t:=.lst (qA t L)) (u:=.lst []) (bh (ts:=[(.tup [.tup cs,.tup ls]),jX P t]) rfl (R.broken t)) (gR rfl (ax (k:=1) (by simp))) (wN t L)
theorem Rd.isw0 (R:Rd cs ls L P){u:T}(hu:u.pl=true)(h:mf P.length u=false):aU [(.tup [.tup cs,.tup ls]),u] = .ok (.bl false):=by
 refine cS rfl (eQ ?_)
 exact sA (bh (ts:=[(.tup [.tup cs,.tup ls]),u]) rfl (by rw[R.aret hu,h]))
theorem wS {R u:T}(hp:R.pl=true)(h:fK R=false):aR [R,u] = .err "NoRecord":=by
 refine lm rfl ?_
 show cW [.va R,.va u,.em] =_
 unfold cW;exact q0 (zE (zD (sy (bh (ts:=[R]) rfl (lJ hp h)))))
theorem CZ {R u:T}(hp:R.pl=true)(h:fK R=false):aU [R,u] = .err "NoRecord":=lm rfl (vY (yv (bh (ts:=[R,u]) rfl (wS hp h))))
end
theorem oh:∀(ns:List Int) (i:Int),eV i ns<=i/\∀x∈ns,eV i ns<=x
 | [],i=>⟨Int.le_refl _,λx h=>by cases h⟩
 | j::ns,i=>by
  have h:=oh ns (if j<i then j else i)
  rw[eV];refine⟨?_,λx hx=> ?_⟩
  ·have:=h.1;split at this <;> omega
  ·rcases List.mem_cons.mp hx with rfl | hx
   ·have:=h.1;split at this <;> omega
   ·exact h.2 x hx
theorem p6:∀(ns:List Int) (i:Int),eV i ns=i\/eV i ns∈ns
 | [],i=> .inl rfl
 | j::ns,i=>by
  rw[eV];rcases p6 ns (if j<i then j else i)with h | h
  ·rw[h]
   split
   ·exact .inr List.mem_cons_self
   ·exact .inl rfl
  ·exact .inr (List.mem_cons_of_mem _ h)
theorem se:∀(ns:List Int) (i:Int),i<=fP i ns/\∀x∈ns,x<=fP i ns
 | [],i=>⟨Int.le_refl _,λx h=>by cases h⟩
 | j::ns,i=>by
  have h:=se ns (if i<j then j else i)
  rw[fP];refine⟨?_,λx hx=> ?_⟩
  ·refine Int.le_trans ?_ h.1;split <;> omega
  ·rcases List.mem_cons.mp hx with rfl | hx
   ·refine Int.le_trans ?_ h.1;split <;> omega
   ·exact h.2 x hx
theorem p7:∀(ns:List Int) (i:Int),fP i ns=i\/fP i ns∈ns
 | [],i=> .inl rfl
 | j::ns,i=>by
  rw[fP];rcases p7 ns (if i<j then j else i)with h | h
  ·rw[h]
   split
   ·first | exact .inr List.mem_cons_self | exact .inl rfl
   ·first | exact .inl rfl | exact .inr List.mem_cons_self
  ·exact .inr (List.mem_cons_of_mem _ h)
theorem iO:∀l:List Int,iF (l.map .int)=some l
 | [] =>rfl
 | x::l=>by rw[List.map_cons,iF,iO l];rfl
def deN (t:T):N2:=match t with
 | .tup [.int c,.int k] =>⟨c,k⟩
 | _=>⟨0,0⟩
theorem gt (u:N2):deN (en u)=u:=rfl
def ja (g:N2->Option Int)(t:T):Bool:=(g (deN t)).isSome
def kJ (g:N2->Option Int)(t:T):T:=match g (deN t)with
 | some x=> .int x
 | none=> .non
theorem oo (g:N2->Option Int):∀Q:List N2,((Q.map en).filter (ja g)).map (kJ g)=(Q.filterMap g).map .int
 | [] =>rfl
 | u::Q=>by
  have ih:=oo g Q;rw[List.map_cons,List.filterMap_cons]
  cases q:g u with
  | none=>rw[List.filter_cons_of_neg (by unfold ja;rw[gt,q];decide)];exact ih
  | some x=>
   rw[List.filter_cons_of_pos (by unfold ja;rw[gt,q];rfl),List.map_cons,ih]
   show kJ g (en u)::_=T.int x::_
   unfold kJ;rw[gt,q]
theorem zB {i j:Nat}{src:List (Option Nat)}{tgt:T->En->Rs En}{fc:En->Rs Bool}{fe:En->Rs T}{Z:En}{ks ts:List T}{t:T}(hi:Z[i]? =some (.ow (.dct ks ts)))(h:eh (iD (vr i)) src tgt fc fe (disown i Z)= .ok t)(hk:t.nk true=true)(hj:j<Z.length):nI i j src tgt fc fe Z= .ok (.nx (Z.set j (.va t))):=by
 unfold nI;rw[hi]
 dsimp only
 rw[h]
 dsimp only
 rw[if_pos ⟨hk,hj⟩]
theorem n5 (l:List Int):(T.lst (l.map .int)).nk true=true:=by
 show(true&&nks true (l.map .int))=true
 rw[Bool.true_and]
 induction l with
 | nil=>rfl
 | cons x l ih=>exact ih
theorem n8 (l:List Int):hZ (.lst (l.map .int)) (.lst [])= .ok (.bl (!l.isEmpty)):=by
 have pl:(T.lst (l.map .int)).pl=true:=by unfold T.pl;exact gk λu hu=>by obtain⟨k,_,rfl⟩:=List.mem_map.mp hu;rfl
 unfold hZ;rw[if_pos (lw (by simp[T.dep,deps]) (T.pl_nd _ pl) (T.pl_nd _ (by rfl)))]
 cases l with
 | nil=>rfl
 | cons a l=>simp[bO,beqTs]
section
variable {L:eY N2}{P:List N2}{f:dy N2}{ns:List Int}
def lQ (f:dy N2)(t:N2->Int)(v u:N2):Option Int:=(f u v).map λx=>t u+x
def md (f:dy N2)(t:N2->Int)(v u:N2):Option Int:=(f v u).map λx=>t u - x
def zM (f:dy N2)(Q:List N2)(t:N2->Int):Prop:=∀u∈Q,∀w∈Q,∀d,f u w=some d->t w - t u<=d
def k9 (lo hi:List Int):Int:=match lo with
 | x::l=>fP x l
 | [] =>match hi with
  | x::l=>eV x l - 5
  | [] =>0
def uE (lo hi:List Int):Int:=match hi with
 | x::l=>eV x l
 | [] =>k9 lo hi+5
theorem zy {Q:List N2}{t:N2->Int}{v:N2}(F:lO L P f)(hv:v∈P)(hQ:∀u∈Q,u∈P)(h:zM f Q t) :
  k9 (Q.filterMap (md f t v)) (Q.filterMap (lQ f t v))<=uE (Q.filterMap (md f t v)) (Q.filterMap (lQ f t v))/\(∀x∈Q.filterMap (md f t v),x<=k9 (Q.filterMap (md f t v)) (Q.filterMap (lQ f t v)))/\∀x∈Q.filterMap (lQ f t v),uE (Q.filterMap (md f t v)) (Q.filterMap (lQ f t v))<=x:=by
 have key:∀x∈Q.filterMap (md f t v),∀y∈Q.filterMap (lQ f t v),x<=y:=λx hx y hy=>by
  obtain⟨u,hu,eu⟩:=List.mem_filterMap.mp hx;obtain⟨w,hw,ew⟩:=List.mem_filterMap.mp hy;unfold md at eu;unfold lQ at ew;obtain⟨p,hp,rfl⟩:=Option.map_eq_some_iff.mp eu;obtain⟨q,hq,rfl⟩:=Option.map_eq_some_iff.mp ew;obtain⟨d,hd,hle⟩:=F.le w (hQ w hw) u _ ((F.is w v q hq).app (F.is v u p hp))
  have:=h w hw u hu d hd;omega
 generalize Q.filterMap (md f t v)=lo at key
 generalize Q.filterMap (lQ f t v)=hi at key
 cases lo with
 | nil=>
  cases hi with
  | nil=>exact⟨by show(0:Int)<=0+5;omega,(λx h=>by cases h),λx h=>by cases h⟩
  | cons y hi=>
   have m:=oh hi y;refine⟨by show eV y hi - 5<=eV y hi;omega,(λx h=>by cases h),λx hx=> ?_⟩
   show eV y hi<=x
   rcases List.mem_cons.mp hx with rfl | hx
   ·exact m.1
   ·exact m.2 x hx
 | cons x lo=>
  have mx:=se lo x
  have up:∀z∈x::lo,z<=fP x lo:=λz hz=>by
   rcases List.mem_cons.mp hz with rfl | hz
   ·exact mx.1
   ·exact mx.2 z hz
  cases hi with
  | nil=>exact⟨by show fP x lo<=fP x lo+5;omega,up,λx h=>by cases h⟩
  | cons y hi=>
   have m:=oh hi y;refine⟨?_,up,λz hz=> ?_⟩
   ·show fP x lo<=eV y hi
    have h1:fP x lo∈x::lo:=(p7 lo x).elim (λe=>by rw[e];exact List.mem_cons_self) λe=>List.mem_cons_of_mem _ e
    have h2:eV y hi∈y::hi:=(p6 hi y).elim (λe=>by rw[e];exact List.mem_cons_self) λe=>List.mem_cons_of_mem _ e
    exact key _ h1 _ h2
   ·show eV y hi<=z
    rcases List.mem_cons.mp hz with rfl | hz
    ·exact m.1
    ·exact m.2 z hz
theorem wv {Q:List N2}{t:N2->Int}{v:N2}(n:jW L)(F:lO L P f)(hv:v∈P)(hq:v∉Q)(hQ:∀u∈Q,u∈P)(h:zM f Q t){x:Int}(h1:k9 (Q.filterMap (md f t v)) (Q.filterMap (lQ f t v))<=x)(h2:x<=uE (Q.filterMap (md f t v)) (Q.filterMap (lQ f t v))) :
  zM f (Q++ [v]) (λu=>if u=v then x else t u):=by
 obtain⟨_,l1,l2⟩:=zy F hv hQ h;intro u hu w hw d hd
 have nv:∀u∈Q,u≠v:=λu hu z=>hq (z▸hu)
 show(if w=v then x else t w) - (if u=v then x else t u)<=d
 rcases List.mem_append.mp hu with hu | hu <;> rcases List.mem_append.mp hw with hw | hw
 ·rw[if_neg (nv u hu),if_neg (nv w hw)];exact h u hu w hw d hd
 ·rw[List.mem_singleton.mp hw]at hd ⊢
  rw[if_neg (nv u hu),if_pos rfl]
  have:=l2 (t u+d) (List.mem_filterMap.mpr ⟨u,hu,by unfold lQ;rw[hd];rfl⟩)
  omega
 ·rw[List.mem_singleton.mp hu]at hd ⊢
  rw[if_neg (nv w hw),if_pos rfl]
  have:=l1 (t w - d) (List.mem_filterMap.mpr ⟨w,hw,by unfold md;rw[hd];rfl⟩)
  omega
 ·rw[List.mem_singleton.mp hu,List.mem_singleton.mp hw]at hd
  rw[List.mem_singleton.mp hu,List.mem_singleton.mp hw]
  have:=n v d (F.is v v d hd);omega
theorem rz {Q:List N2}{t:N2->Int}{v:N2}{a b:En->Rs T}{Z:En}(ha:a Z= .ok (.dct (Q.map en) (Q.map λv=> .int (t v))))(hb:b Z= .ok (en v))(hv:v∈Q):o2 aI a b Z= .ok (.int (t v)):=qu (P:=Q) ha hb hv
theorem pZ (x:Int)(l:List Int):oa [.lst ((x::l).map .int)] = .ok (.int (eV x l)):=by
 show(match iF ((x::l).map .int)with | some (i::ns)=>Rs.ok (T.int (eV i ns)) | _=> .bad)=_
 rw[iO]
theorem vO (x:Int)(l:List Int):tV [.lst ((x::l).map .int)] = .ok (.int (fP x l)):=by
 show(match iF ((x::l).map .int)with | some (i::ns)=>Rs.ok (T.int (fP i ns)) | _=> .bad)=_
 rw[iO]
theorem CN {i:Nat}{fk fv:En->Rs T}{Z:En}{ks vs:List T}{k v:T}{kk:List L2.Key}(hi:Z[i]? =some (.ow (.dct ks vs)))(hv:fv Z= .ok v)(hk:fk Z= .ok k)(e:aN k=some kk)(hl:ks.length<1000):qN i fk fv Z= .ok (.nx (Z.set i (.ow (.dct (fH k v ks vs).1 (fH k v ks vs).2)))):=by
 unfold qN;rw[hi]
 dsimp only
 rw[hv,ay,hk,ay,e]
 dsimp only
 rw[if_pos hl]
abbrev DW:En->Rs Fl:=(aB (nI 5 8 [none,some 5,some 4,some 7] (gN 0) (tb (o2 cK (o2 aI (o2 aI (vr 2) (vr 0)) (vr 3)) (cn .non))) (o2 aH (o2 aI (vr 1) (vr 0)) (o2 aI (o2 aI (vr 2) (vr 0)) (vr 3)))) (aB (nI 5 9 [none,some 5,some 4,some 7] (gN 0) (tb (o2 cK (o2 aI (o2 aI (vr 2) (vr 3)) (vr 0)) (cn .non))) (o2 bP (o2 aI (vr 1) (vr 0)) (o2 aI (o2 aI (vr 2) (vr 3)) (vr 0)))) (aB (db (oM (tb (o2 hZ (vr 9) (dg ag))) (cl tV (ac (vr 9) ag)) (oM (tb (o2 hZ (vr 8) (dg ag))) (o2 bP (cl oa (ac (vr 8) ag)) (cn (.int 5))) (cn (.int 0)))) (gN 10)) (aB (db (oM (tb (o2 hZ (vr 8) (dg ag))) (cl oa (ac (vr 8) ag)) (o2 aH (vr 10) (cn (.int 5)))) (gN 11)) (qN 5 (vr 7) (o2 aH (vr 10) (cl ao (ac (vr 0) (ac (o2 aH (vr 1) (vr 6)) (ac (o2 aH (o2 bP (vr 11) (vr 10)) (cn (.int 1))) ag))))))))))
theorem yL (hn:ns.length<=63)(n:jW L)(F:lO L P f)(pl:P.length<=16){Q:List N2}{t:N2->Int}{v:N2}(hv:v∈P)(hq:v∉Q)(hQ:∀u∈Q,u∈P)(hl:Q.length<=16)(h:zM f Q t)(a k:Nat)(row:T)(s8 s9 s10 s11:Sl):∃x b8 b9 b10 b11,zM f (Q++ [v]) (λu=>if u=v then x else t u) ∧
  DW [.va (.scr ns),.va (.int (a:Nat)),.va (eS P),.va row,.va (cO P f),.ow (.dct (Q.map en) (Q.map λv=> .int (t v))),.va (.int (k:Nat)),.va (en v),s8,s9,s10,s11] = .ok (.nx [.va (.scr ns),.va (.int (a:Nat)),.va (eS P),.va row,.va (cO P f),.ow (.dct ((Q++ [v]).map en) ((Q++ [v]).map λu=> .int (if u=v then x else t u))),.va (.int (k:Nat)),.va (en v),b8,b9,b10,b11]):=by
 obtain⟨lh,_,_⟩:=zy F hv hQ h
 have lch:eh (iD (vr 5)) [none,some 5,some 4,some 7] (gN 0) (tb (o2 cK (o2 aI (o2 aI (vr 2) (vr 0)) (vr 3)) (cn .non))) (o2 aH (o2 aI (vr 1) (vr 0)) (o2 aI (o2 aI (vr 2) (vr 0)) (vr 3))) (disown 5 [.va (.scr ns),.va (.int (a:Nat)),.va (eS P),.va row,.va (cO P f),.ow (.dct (Q.map en) (Q.map λv=> .int (t v))),.va (.int (k:Nat)),.va (en v),s8,s9,s10,s11])= .ok (.lst ((Q.filterMap (lQ f t v)).map .int)):=by
  rw[<-oo (lQ f t v) Q];refine v6 (ts:=Q.map en) rfl (ax (k:=16) (by rw[List.length_map];exact hl)) (by simp) λu0 hu0=> ?_
  obtain⟨u,hu,rfl⟩:=List.mem_map.mp hu0
  have e:=ny (P:=P) (f:=f) (u:=u) (v:=v) (a:=vr 0) (b:=vr 3) (c:=vr 2) (Z:=[.va (en u),.va (.dct (Q.map en) (Q.map λv=> .int (t v))),.va (cO P f),.va (en v)]) rfl rfl rfl (hQ u hu) hv
  have e2:=rz (Q:=Q) (t:=t) (v:=u) (a:=vr 1) (b:=vr 0) (Z:=[.va (en u),.va (.dct (Q.map en) (Q.map λv=> .int (t v))),.va (cO P f),.va (en v)]) rfl rfl hu
  refine⟨?_,λhp=> ?_⟩
  ·show _=Rs.ok (ja (lQ f t v) (en u))
   refine cC ((az (u:=.non) e rfl rfl).trans ?_)
   unfold ja lQ;rw[gt];cases f u v <;> rfl
  ·show _=Rs.ok (kJ (lQ f t v) (en u))
   unfold ja lQ at hp;rw[gt]at hp
   cases q:f u v with
   | none=>rw[q]at hp;cases hp
   | some d=>
    rw[q]at e;unfold kJ lQ;rw[gt,q];exact az (t:=.int (t u)) (u:=.int d) e2 e rfl
 have lcl:eh (iD (vr 5)) [none,some 5,some 4,some 7] (gN 0) (tb (o2 cK (o2 aI (o2 aI (vr 2) (vr 3)) (vr 0)) (cn .non))) (o2 bP (o2 aI (vr 1) (vr 0)) (o2 aI (o2 aI (vr 2) (vr 3)) (vr 0))) (disown 5 [.va (.scr ns),.va (.int (a:Nat)),.va (eS P),.va row,.va (cO P f),.ow (.dct (Q.map en) (Q.map λv=> .int (t v))),.va (.int (k:Nat)),.va (en v),.va (.lst ((Q.filterMap (lQ f t v)).map .int)),s9,s10,s11])= .ok (.lst ((Q.filterMap (md f t v)).map .int)):=by
  rw[<-oo (md f t v) Q];refine v6 (ts:=Q.map en) rfl (ax (k:=16) (by rw[List.length_map];exact hl)) (by simp) λu0 hu0=> ?_
  obtain⟨u,hu,rfl⟩:=List.mem_map.mp hu0
  have e:=ny (P:=P) (f:=f) (u:=v) (v:=u) (a:=vr 3) (b:=vr 0) (c:=vr 2) (Z:=[.va (en u),.va (.dct (Q.map en) (Q.map λv=> .int (t v))),.va (cO P f),.va (en v)]) rfl rfl rfl hv (hQ u hu)
  have e2:=rz (Q:=Q) (t:=t) (v:=u) (a:=vr 1) (b:=vr 0) (Z:=[.va (en u),.va (.dct (Q.map en) (Q.map λv=> .int (t v))),.va (cO P f),.va (en v)]) rfl rfl hu
  refine⟨?_,λhp=> ?_⟩
  ·show _=Rs.ok (ja (md f t v) (en u))
   refine cC ((az (u:=.non) e rfl rfl).trans ?_)
   unfold ja md;rw[gt];cases f v u <;> rfl
  ·show _=Rs.ok (kJ (md f t v) (en u))
   unfold ja md at hp;rw[gt]at hp
   cases q:f v u with
   | none=>rw[q]at hp;cases hp
   | some d=>
    rw[q]at e;unfold kJ md;rw[gt,q];exact az (t:=.int (t u)) (u:=.int d) e2 e rfl
 have fm:∀{x:Int},k9 (Q.filterMap (md f t v)) (Q.filterMap (lQ f t v))<=x->x<=uE (Q.filterMap (md f t v)) (Q.filterMap (lQ f t v))->zM f (Q++ [v]) (λu=>if u=v then x else t u):=λ{x} h1 h2=>wv n F hv hq hQ h h1 h2
 generalize Q.filterMap (lQ f t v)=hi at lch lcl fm lh
 generalize Q.filterMap (md f t v)=lo at lcl fm lh
 unfold DW;rw[aD (Z':=[.va (.scr ns),.va (.int (a:Nat)),.va (eS P),.va row,.va (cO P f),.ow (.dct (Q.map en) (Q.map λv=> .int (t v))),.va (.int (k:Nat)),.va (en v),.va (.lst (hi.map .int)),s9,s10,s11]) (zB rfl lch (n5 _) (by simp))]
 rw[aD (Z':=[.va (.scr ns),.va (.int (a:Nat)),.va (eS P),.va row,.va (cO P f),.ow (.dct (Q.map en) (Q.map λv=> .int (t v))),.va (.int (k:Nat)),.va (en v),.va (.lst (hi.map .int)),.va (.lst (lo.map .int)),s10,s11]) (zB rfl lcl (n5 _) (by simp))]
 have nil_:∀(Z:En),dg ag Z= .ok (.lst []):=λZ=>gR rfl (ax (k:=1) (by simp))
 have e10:(oM (tb (o2 hZ (vr 9) (dg ag))) (cl tV (ac (vr 9) ag)) (oM (tb (o2 hZ (vr 8) (dg ag))) (o2 bP (cl oa (ac (vr 8) ag)) (cn (.int 5))) (cn (.int 0)))) [.va (.scr ns),.va (.int (a:Nat)),.va (eS P),.va row,.va (cO P f),.ow (.dct (Q.map en) (Q.map λv=> .int (t v))),.va (.int (k:Nat)),.va (en v),.va (.lst (hi.map .int)),.va (.lst (lo.map .int)),s10,s11] = .ok (.int (k9 lo hi)):=by
  rw[mQ (cC (az (t:=.lst (lo.map .int)) (u:=.lst []) rfl (nil_ _) (n8 lo)))]
  cases lo with
  | cons x l=>exact bh (ts:=[.lst ((x::l).map .int)]) rfl (vO x l)
  | nil=>
   show oM _ _ _ _=_
   rw[mQ (cC (az (t:=.lst (hi.map .int)) (u:=.lst []) rfl (nil_ _) (n8 hi)))]
   cases hi with
   | cons x l=>exact az (t:=.int (eV x l)) (u:=.int 5) (bh (ts:=[.lst ((x::l).map .int)]) rfl (pZ x l)) rfl rfl
   | nil=>rfl
 rw[aD (Z':=[.va (.scr ns),.va (.int (a:Nat)),.va (eS P),.va row,.va (cO P f),.ow (.dct (Q.map en) (Q.map λv=> .int (t v))),.va (.int (k:Nat)),.va (en v),.va (.lst (hi.map .int)),.va (.lst (lo.map .int)),.va (.int (k9 lo hi)),s11]) (cI e10 rfl)]
 have e11:(oM (tb (o2 hZ (vr 8) (dg ag))) (cl oa (ac (vr 8) ag)) (o2 aH (vr 10) (cn (.int 5)))) [.va (.scr ns),.va (.int (a:Nat)),.va (eS P),.va row,.va (cO P f),.ow (.dct (Q.map en) (Q.map λv=> .int (t v))),.va (.int (k:Nat)),.va (en v),.va (.lst (hi.map .int)),.va (.lst (lo.map .int)),.va (.int (k9 lo hi)),s11] = .ok (.int (uE lo hi)):=by
  rw[mQ (cC (az (t:=.lst (hi.map .int)) (u:=.lst []) rfl (nil_ _) (n8 hi)))]
  cases hi with
  | cons x l=>exact bh (ts:=[.lst ((x::l).map .int)]) rfl (pZ x l)
  | nil=>rfl
 rw[aD (Z':=[.va (.scr ns),.va (.int (a:Nat)),.va (eS P),.va row,.va (cO P f),.ow (.dct (Q.map en) (Q.map λv=> .int (t v))),.va (.int (k:Nat)),.va (en v),.va (.lst (hi.map .int)),.va (.lst (lo.map .int)),.va (.int (k9 lo hi)),.va (.int (uE lo hi))]) (cI e11 rfl)]
 obtain⟨r,er,r0,r1⟩:=bM ns (a+k) (uE lo hi - k9 lo hi+1) hn (by omega)
 refine⟨k9 lo hi+r,.va (.lst (hi.map .int)),.va (.lst (lo.map .int)),.va (.int (k9 lo hi)),.va (.int (uE lo hi)),fm (by omega) (by omega),?_⟩
 have pv:o2 aH (vr 10) (cl ao (ac (vr 0) (ac (o2 aH (vr 1) (vr 6)) (ac (o2 aH (o2 bP (vr 11) (vr 10)) (cn (.int 1))) ag)))) [.va (.scr ns),.va (.int (a:Nat)),.va (eS P),.va row,.va (cO P f),.ow (.dct (Q.map en) (Q.map λv=> .int (t v))),.va (.int (k:Nat)),.va (en v),.va (.lst (hi.map .int)),.va (.lst (lo.map .int)),.va (.int (k9 lo hi)),.va (.int (uE lo hi))] = .ok (.int (k9 lo hi+r)):=
  az (t:=.int (k9 lo hi)) (u:=.int r) rfl (bh (ts:=[.scr ns,.int ((a+k:Nat):Int),.int (uE lo hi - k9 lo hi+1)]) (aq rfl (aq (az (t:=.int (a:Nat)) (u:=.int (k:Nat)) rfl rfl rfl) (aq (az (t:=.int (uE lo hi - k9 lo hi)) (u:=.int 1) (az (t:=.int (uE lo hi)) (u:=.int (k9 lo hi)) rfl rfl rfl) rfl rfl) rfl))) er) rfl
 have mp:(Q.map λv=>T.int (t v))=Q.map λu=> .int (if u=v then k9 lo hi+r else t u):=List.map_congr_left λu hu=>by rw[if_neg (show ¬u=v from λz=>hq (z▸hu))]
 rw[CN rfl pv rfl (bv v) (by rw[List.length_map];omega),lA _ _ _ _ hq,mp]
 rw[List.map_append,List.map_append]
 show Rs.ok (Fl.nx [_,_,_,_,_,.ow (.dct (Q.map en++ [en v]) ((Q.map λu=>T.int (if u=v then k9 lo hi+r else t u))++ [.int (k9 lo hi+r)])),_,_,_,_,_,_])=Rs.ok (Fl.nx [_,_,_,_,_,.ow (.dct (Q.map en++ [en v]) ((Q.map λu=>T.int (if u=v then k9 lo hi+r else t u))++ [.int (if v=v then k9 lo hi+r else t v)])),_,_,_,_,_,_])
 rw[if_pos rfl]
theorem yM (hn:ns.length<=63)(n:jW L)(F:lO L P f)(pl:P.length<=16)(a:Nat)(row:T):∀(rest Q:List N2) (t:N2->Int) (k:Nat) (s6 s7 s8 s9 s10 s11:Sl),(Q++rest).Nodup->(∀u∈Q++rest,u∈P)->(Q++rest).length<=16->zM f Q t->∃t' b6 b7 b8 b9 b10 b11,zM f (Q++rest) t' ∧
  a7 (gT 2 (dI (gN 6) (dI (gN 7) j4))) DW (br k (rest.map en)) [.va (.scr ns),.va (.int (a:Nat)),.va (eS P),.va row,.va (cO P f),.ow (.dct (Q.map en) (Q.map λv=> .int (t v))),s6,s7,s8,s9,s10,s11] = .ok (.nx [.va (.scr ns),.va (.int (a:Nat)),.va (eS P),.va row,.va (cO P f),.ow (.dct ((Q++rest).map en) ((Q++rest).map λv=> .int (t' v))),b6,b7,b8,b9,b10,b11]):=by
 intro rest
 induction rest with
 | nil=>
  intro Q t k s6 s7 s8 s9 s10 s11 _ _ _ h;refine⟨t,s6,s7,s8,s9,s10,s11,by rw[List.append_nil];exact h,?_⟩
  rw[List.append_nil]
  rfl
 | cons v rest ih=>
  intro Q t k s6 s7 s8 s9 s10 s11 nd hP hl h
  have hq:v∉Q:=λz=>by
   rw[List.nodup_append]at nd;exact nd.2.2 v z v List.mem_cons_self rfl
  have asc:Q++v::rest=Q++ [v] ++rest:=by rw[List.append_assoc];rfl
  obtain⟨x,b8,b9,b10,b11,h1,e1⟩:=yL (ns:=ns) hn n F pl (hP v (List.mem_append_right _ List.mem_cons_self)) hq (λu hu=>hP u (List.mem_append_left _ hu)) (by rw[List.length_append]at hl;omega) h a k row s8 s9 s10 s11
  rw[asc]at nd hP hl ⊢;obtain⟨t',c6,c7,c8,c9,c10,c11,h2,e2⟩:=ih (Q++ [v]) _ (k+1) (.va (.int (k:Nat))) (.va (en v)) b8 b9 b10 b11 nd hP hl h1;refine⟨t',c6,c7,c8,c9,c10,c11,h2,?_⟩
  rw[List.map_cons,br,cT (Z1:=[.va (.scr ns),.va (.int (a:Nat)),.va (eS P),.va row,.va (cO P f),.ow (.dct (Q.map en) (Q.map λv=> .int (t v))),.va (.int (k:Nat)),.va (en v),s8,s9,s10,s11]) rfl e1,e2]
theorem wA (hn:ns.length<=63)(n:jW L)(F:lO L P f)(pl:P.length<=16)(nd:P.Nodup)(hL:∀x∈L,x.1∈P/\x.2.1∈P)(a:Nat)(row:T):∃t,Holds L t/\bJ [.scr ns,.int (a:Nat),eS P,row,cO P f] = .ok (jX P t):=by
 obtain⟨t,b6,b7,b8,b9,b10,b11,h,e⟩:=yM (ns:=ns) hn n F pl a row P [] (λ_=>0) 0 .em .em .em .em .em .em (by simpa using nd) (λu hu=>by simpa using hu) (by simpa using pl) (λu hu=>by cases hu)
 rw[List.nil_append]at h e;refine⟨t,λu v m hm=> ?_,cS rfl ?_⟩
 ·have hp:=hL _ hm
  obtain⟨d,hd,hle⟩:=F.le u hp.1 v m (Wk.one hm)
  have:=h u hp.1 v hp.2 d hd;omega
 ·show bL [.va (.scr ns),.va (.int (a:Nat)),.va (eS P),.va row,.va (cO P f),.em,.em,.em,.em,.em,.em,.em] =_
  unfold bL;rw[aD (Z':=[.va (.scr ns),.va (.int (a:Nat)),.va (eS P),.va row,.va (cO P f),.ow (.dct [] []),.em,.em,.em,.em,.em,.em]) rfl];refine(aD (ei (v7 (l:=P.map en) rfl) e)).trans ?_
  refine eQ (bh (ts:=[.lst (P.map λv=> .int (t v))]) (aq (CQ (o:=.dct (P.map en) (P.map λv=> .int (t v))) rfl ?_ ?_) rfl) my)
  ·refine(qe (ts:=P.map en) (h:=atT t) (CU rfl) (ax (k:=16) (by rw[List.length_map];exact pl)) (by simp) λu0 hu0=> ?_).trans (by rw[List.map_map];rfl)
   obtain⟨u,hu,rfl⟩:=List.mem_map.mp hu0;exact rz (Q:=P) (t:=t) (v:=u) rfl rfl hu
  ·have:(P.map λv=>T.int (t v))=(P.map t).map .int:=by rw[List.map_map];rfl
   rw[this];exact n5 _
end
def TM (τ:List Int):T:=.tup (τ.map .int)
theorem zj (P:List N2)(t:N2->Int):jX P t=TM (P.map t):=by unfold jX TM;rw[List.map_map];rfl
theorem yB {fi:En->Rs (List T)}{fe:En->Rs T}{src:List (Option Nat)}{Z:En}{n:Nat}(h:fi Z= .ok (rng 0 (n:Int)))(hl:n<=16)(hs:0<src.length)(hf:∀k:Nat,∃r,fe ((a8 src Z).set 0 (.va (.int (k:Nat))))= .ok (.int r)) :
  ∃τ:List Int,τ.length=n/\eh fi src (gN 0) bT fe Z= .ok (.lst (τ.map .int)):=by
 have lc:=qe (ts:=rng 0 (n:Int)) (src:=src) (fe:=fe) (Z:=Z) (h:=λt=>BM (fe ((a8 src Z).set 0 (.va t)))) h (ax (k:=16) (by rw[fJ];exact hl)) hs λt ht=>by
  obtain⟨k,rfl,hk⟩:=hV ht;obtain⟨r,e⟩:=hf k;rw[e];rfl
 refine⟨(List.range n).map λk=>(match BM (fe ((a8 src Z).set 0 (.va (.int (k:Nat)))))with | .int r=>r | _=>0),by rw[List.length_map,List.length_range],?_⟩
 rw[lc,j9,List.map_map,List.map_map];refine congrArg (λl=>Rs.ok (T.lst l)) (List.map_congr_left λk _=> ?_)
 obtain⟨r,e⟩:=hf k
 show BM (fe ((a8 src Z).set 0 (.va (.int (k:Nat)))))=T.int (match BM (fe ((a8 src Z).set 0 (.va (.int (k:Nat)))))with | .int r=>r | _=>0)
 rw[e];rfl
theorem qf {n:Nat}{l:List T}(h:l.length≠n):mf n (.tup l)=false:=by
 have:cY (.tup l) n n=false:=by simp only[cY];simp;omega
 unfold mf;rw[this,Bool.false_and]
theorem sB {n:Nat}{l:List T}{u:T}(hu:u∈l)(h:Bj u=false):mf n (.tup l)=false:=by
 show(cY (.tup l) n n&&l.all Bj)=false
 have:l.all Bj=false:=by
  rw[List.all_eq_false];exact⟨u,hu,by rw[h];decide⟩
 rw[this,Bool.and_false]
theorem r9 {l:List T}(h:∀u∈l,∃k:Nat,u= .int (k:Nat)):hZ (.lst l) (.lst l)= .ok (.bl false):=A3 (n:=5) (by omega) λu hu=>by obtain⟨k,rfl⟩:=h u hu;exact⟨rfl,by simp[T.dep]⟩
theorem vK (b:Bool):hZ (.bl b) (.bl b)= .ok (.bl false):=n6 rfl (by simp[T.dep])
theorem B0 {f g:En->Rs T}{Z:En}{l:List T}{n:Nat}(h:f Z= .ok (.tup l))(h2:g Z= .ok (.int (n:Nat))):sl f pN (pS g) Z= .ok (.tup (l.take n)):=by rw[Bf h rfl (CO h2),qw]
theorem zq {f g:En->Rs T}{Z:En}{l:List T}{n:Nat}(h:f Z= .ok (.tup l))(h2:g Z= .ok (.int (n:Nat))):sl f (pS g) pN Z= .ok (.tup (l.drop n)):=by rw[Bf h (CO h2) rfl,wJ]
def lT (l:List T)(m:Nat)(x:T):T:=.tup (l.take m++ [x] ++l.drop (m+1))
theorem uQ {a b c:En->Rs T}{Z:En}{l:List T}{m:Nat}{x:T}(ha:a Z= .ok (.tup l))(hb:b Z= .ok (.int (m:Nat)))(hx:c Z= .ok x)(hl:l.length<=100):o2 aH (o2 aH (sl a pN (pS b)) (bq (ac c ag))) (sl a (pS (o2 aH b (cn (.int 1)))) pN) Z= .ok (lT l m x):=by
 have h1:(l.take m).length<=100:=by rw[List.length_take];omega
 have h2:(l.drop (m+1)).length<=100:=by rw[List.length_drop];omega
 refine az (az (B0 ha hb) (cL (aq hx rfl) (ax (k:=1) (by simp))) (kw _ _ (by rw[List.length_append];simp only[List.length_cons,List.length_nil];omega))) (zq ha (az (t:=.int (m:Nat)) (u:=.int 1) hb rfl (by show Rs.ok (T.int ((m:Int)+1))=Rs.ok (T.int ((m+1:Nat):Int));rfl))) (kw _ _ (by rw[List.length_append,List.length_append];simp only[List.length_cons,List.length_nil];omega))
section
variable {cs ls:List T}{L:eY N2}{P:List N2}{f:dy N2}{ns:List Int}
theorem Bz (R:Rd cs ls L P)(t:N2->Int){Z:En}(h3:vr 3 Z= .ok (eL L))(h8:Z[8]? =some (.va (oN P t))):(eh (iE (ac (vr 3) ag)) [none,none,none,none,some 8] (gT 2 (dI (gN 0) (dI (gT 3 (dI (gN 1) (dI (gN 2) (dI (gN 3) j4)))) j4))) (tb (o2 Bm (o2 bP (o2 aI (vr 4) (vr 2)) (o2 aI (vr 4) (vr 1))) (vr 3))) (vr 0)) Z= .ok (.lst (qA t L)):=by
 have el:a8 [none,none,none,none,some 8] Z= [.em,.em,.em,.em,.va (oN P t)]:=by simp[a8,h8]
 unfold eh;rw[v7 (l:=L.map eB) (aq h3 rfl),ay,if_pos (ax (k:=60) (by rw[ly,List.length_map];exact R.ll)),el]
 rw[iU (p:=C7 t) (h:=brH) (λZ=> ∃a b c d,Z= [a,b,c,d,.va (oN P t)]) _ _ ⟨_,_,_,_,rfl⟩ λu hu Z hh_=>by
  obtain⟨a,b,c,d,e⟩:=hh_;subst e;obtain⟨k,w,hw,rfl⟩:=sL hu;obtain⟨x,hx,rfl⟩:=List.mem_map.mp hw
  have hh:=R.f.ends x hx;refine⟨[.va (.int (k:Nat)),.va (en x.1),.va (en x.2.1),.va (.int x.2.2),.va (oN P t)],rfl,⟨_,_,_,_,rfl⟩,?_,rfl⟩
  refine cC ((az (t:=.int (t x.2.1 - t x.1)) (u:=.int x.2.2) (az (t:=.int (t x.2.1)) (u:=.int (t x.1)) (qu (P:=P) rfl rfl hh.2) (qu (P:=P) rfl rfl hh.1) rfl) rfl rfl).trans ?_)
  show Rs.ok (T.bl (decide (t x.2.1 - t x.1 > x.2.2)))=Rs.ok (T.bl (!hB t x))
  unfold hB
  by_cases hq:t x.2.1 - t x.1<=x.2.2
  ·rw[decide_eq_true hq,decide_eq_false (by omega)];rfl
  ·rw[decide_eq_false hq,decide_eq_true (by omega)];rfl]
 rfl
abbrev W7:En->Rs Fl:=(aB (db (cl By (ac (vr 2) (ac (vr 7) ag))) (gN 8)) (aB (db (eh (iE (ac (vr 3) ag)) [none,none,none,none,some 8] (gT 2 (dI (gN 0) (dI (gT 3 (dI (gN 1) (dI (gN 2) (dI (gN 3) j4)))) j4))) (tb (o2 Bm (o2 bP (o2 aI (vr 4) (vr 2)) (o2 aI (vr 4) (vr 1))) (vr 3))) (vr 0)) (gN 9)) (fV (jz (tb (o2 hZ (cl bt (ac (vr 1) (ac (vr 7) ag))) (vr 9))) (jz (tb (o2 hZ (cl aU (ac (vr 1) (ac (vr 7) ag))) (o2 lR (vr 9) (dg ag)))) (tb (o2 hZ (cl aR (ac (vr 1) (ac (vr 7) ag))) (cn (.bl true)))))) (aO (cn (.bl false))) sN)))
theorem Rd.w7 (R:Rd cs ls L P)(tbl:T){τ:List Int}(hτ:τ.length=P.length)(s5 s6 s8 s9 s10 s11:Sl):∃s8' s9',W7 [.va (.scr ns),.va (.tup [.tup cs,.tup ls]),.va (eS P),.va (eL L),.va tbl,s5,s6,.va (TM τ),s8,s9,s10,s11] = .ok (.nx [.va (.scr ns),.va (.tup [.tup cs,.tup ls]),.va (eS P),.va (eL L),.va tbl,s5,s6,.va (TM τ),s8',s9',s10,s11]):=by
 obtain⟨t,rfl⟩:=sI R.nd hτ;rw[<-zj];refine⟨.va (oN P t),.va (.lst (qA t L)),?_⟩
 refine(aD (Z':=[.va (.scr ns),.va (.tup [.tup cs,.tup ls]),.va (eS P),.va (eL L),.va tbl,s5,s6,.va (jX P t),.va (oN P t),s9,s10,s11]) (cI (bh (ts:=[eS P,jX P t]) rfl (R.dz t)) rfl)).trans ?_
 refine(aD (Z':=[.va (.scr ns),.va (.tup [.tup cs,.tup ls]),.va (eS P),.va (eL L),.va tbl,s5,s6,.va (jX P t),.va (oN P t),.va (.lst (qA t L)),s10,s11]) (cI (Bz R t rfl rfl) rfl)).trans ?_
 exact(f8 (qc (cC (az (t:=.lst (qA t L)) (u:=.lst (qA t L)) (bh (ts:=[(.tup [.tup cs,.tup ls]),jX P t]) rfl (R.broken t)) rfl (r9 λu hu=>sW hu))) (qc (cC (az (t:=.bl (L.all (hB t))) (u:=.bl (L.all (hB t))) (bh (ts:=[(.tup [.tup cs,.tup ls]),jX P t]) rfl (R.isw t)) (az (t:=.lst (qA t L)) (u:=.lst []) rfl (gR rfl (ax (k:=1) (by simp))) (wN t L)) (vK _))) (cC (az (t:=.bl true) (u:=.bl true) (bh (ts:=[(.tup [.tup cs,.tup ls]),jX P t]) rfl (by rw[R.aret (zh P t),zi])) rfl (vK true)))))).trans rfl
theorem wO {R u:T}(hp:R.pl=true)(h:fK R=false):bt [R,u] = .err "NoRecord":=by
 refine lm rfl ?_
 show fG [.va R,.va u,.em] =_
 unfold fG;exact q0 (zE (zD (sy (bh (ts:=[R]) rfl (lJ hp h)))))
abbrev toB:En->Rs Fl:=aO (qK [aR,aU,bt] (vr 0) (ac (vr 1) (ac (vr 2) ag)))
theorem rM {k:Nat}{g:List T->Rs T}(hg:[aR,aU,bt][k]? =some g){R t r:T}(h:g [R,t] = .ok r):bV [.int (k:Nat),R,t] = .ok r:=
 cS rfl (CM (F:=toB) (k:=.rt r) (eQ (vX (i:=k) (ms:=[aR,aU,bt]) rfl hg rfl h)))
theorem nu {k:Nat}{g:List T->Rs T}(hg:[aR,aU,bt][k]? =some g){R t r:T}{e:Str}(h:g [R,t] = .err e)(hr:mi e= .ok r):bV [.int (k:Nat),R,t] = .ok r:=
 cS rfl (Be (F:=toB) (vY (vX (i:=k) (ms:=[aR,aU,bt]) rfl hg rfl h)) hr)
theorem yY {R t:T}(hp:R.pl=true)(h:fK R=false){k:Nat}(hk:k<3):bV [.int (k:Nat),R,t] = .ok (fM 0):=by
 match k,hk with
 | 0,_=>exact nu rfl (wS hp h) r0
 | 1,_=>exact nu rfl (CZ hp h) r0
 | 2,_=>exact nu rfl (wO hp h) r0
theorem rng3:(rng 0 3).length<=3:=by rw[show(3:Int)=((3:Nat):Int)from rfl,fJ];omega
theorem rng2:(rng 0 2).length<=2:=by rw[show(2:Int)=((2:Nat):Int)from rfl,fJ];omega
theorem mul3 (j:Nat):bz (.lst [fM j]) (.int 3)= .ok (.lst (List.replicate 3 (fM j))):=n9 [fM j] 3 ⟨by omega,by omega,ax (k:=3) (by simp)⟩
theorem eq3 (j:Nat):lR (.lst (List.replicate 3 (fM j))) (.lst (List.replicate 3 (fM j)))= .ok (.bl true):=yF rfl (by simp[T.dep,deps,fM,List.replicate])
def nZ (τ:List Int)(m:Nat):List T:=[.non,.tup (τ.map .int++ [.int 0]),.tup ((τ.map T.int).drop 1),.lst (τ.map .int),lT (τ.map .int) m (.bl true),lT (τ.map .int) m .non]
theorem AZ {τ:List Int}{m:Nat}(h:0<τ.length):∀u∈nZ τ m,u.pl=true/\mf τ.length u=false:=λu hu=>by
 have pi:∀w∈τ.map T.int,w.pl=true:=λw hw=>by obtain⟨k,_,rfl⟩:=List.mem_map.mp hw;rfl
 have ps:∀x:T,x.pl=true->(lT (τ.map .int) m x).pl=true:=λx hx=>by
  unfold lT;rw[gM];refine gk λw hw=> ?_
  rcases List.mem_append.mp hw with hw | hw
  ·rcases List.mem_append.mp hw with hw | hw
   ·exact pi w (List.mem_of_mem_take hw)
   ·rw[List.mem_singleton.mp hw];exact hx
  ·exact pi w (List.mem_of_mem_drop hw)
 have ms:∀x:T,x∈(τ.map T.int).take m++ [x] ++(τ.map T.int).drop (m+1):=λx=>List.mem_append_left _ (List.mem_append_right _ (List.mem_singleton.mpr rfl))
 unfold nZ at hu;simp only[List.mem_cons,List.not_mem_nil,or_false]at hu;rcases hu with rfl | rfl | rfl | rfl | rfl | rfl
 ·exact⟨rfl,by unfold mf;rw[Bool.and_false]⟩
 ·refine⟨?_,qf (by rw[List.length_append,List.length_map];simp)⟩
  rw[gM];refine gk λw hw=> ?_
  rcases List.mem_append.mp hw with hw | hw
  ·exact pi w hw
  ·rw[List.mem_singleton.mp hw];rfl
 ·exact⟨by rw[gM];exact gk λw hw=>pi w (List.mem_of_mem_drop hw),qf (by rw[List.length_drop,List.length_map];omega)⟩
 ·exact⟨by unfold T.pl;exact gk pi,by unfold mf;rw[Bool.and_false]⟩
 ·exact⟨ps _ rfl,sB (ms _) rfl⟩
 ·exact⟨ps _ rfl,sB (ms _) rfl⟩
theorem pure_law (ns:List Int)(hn:ns.length<=63):m_law [.scr ns] = .ok (.bl true):=by
 obtain⟨cs,ls,er,hc,c3,hs,hl,l6⟩:=Bw ns hn 0 5 (by omega)
 obtain⟨hR,mR⟩:=Af hc hs hl (by omega)
 have g:Good cs ls:=⟨hc,λt ht=>(hl t ht).1,by omega,z9 mR⟩
 obtain⟨L,P,R⟩:=rQ g
 have hpl:=R.pl
 have hpos:=R.pos;refine cS rfl ?_
 show wY [.va (.scr ns),.em,.em,.em,.em,.em,.em,.em,.em,.em,.em,.em] =_
 unfold wY;rw[aD (Z':=[.va (.scr ns),.va (.tup [.tup cs,.tup ls]),.em,.em,.em,.em,.em,.em,.em,.em,.em,.em]) (cI (bh (ts:=[.scr ns,.int ((0:Nat):Int),.int ((5:Nat):Int)]) rfl er) rfl)];rw[aD (Z':=[.va (.scr ns),.va (.tup [.tup cs,.tup ls]),.va (eS P),.em,.em,.em,.em,.em,.em,.em,.em,.em]) (cI (bh (ts:=[.tup cs]) (aq (yu 0 rfl rfl) rfl) (by rw[qm cs hc,R.e];rfl)) rfl)]
 rw[aD (Z':=[.va (.scr ns),.va (.tup [.tup cs,.tup ls]),.va (eS P),.va (eL L),.em,.em,.em,.em,.em,.em,.em,.em]) (cI (bh (ts:=[(.tup [.tup cs,.tup ls])]) rfl (by rw[uf hc g.l g.n,R.b];rfl)) rfl)]
 obtain⟨tbl,ht,et⟩:=yG (L:=L) R.nd (by omega) R.f.ends
 rw[aD (Z':=[.va (.scr ns),.va (.tup [.tup cs,.tup ls]),.va (eS P),.va (eL L),.va tbl,.em,.em,.em,.em,.em,.em,.em]) (cI (bh (ts:=[eS P,eL L]) rfl et) rfl)]
 have lenP:∀{Z:En},vr 2 Z= .ok (eS P)->cl cG (ac (vr 2) ag) Z= .ok (.int (P.length:Nat)):=λh=>bh (ts:=[eS P]) (aq h rfl) (by show Rs.ok (T.int ((P.map en).length:Nat))=_;rw[List.length_map])
 obtain⟨τ0,hτ0,e5⟩:=yB (fi:=iR (ac (cl cG (ac (vr 2) ag)) ag)) (fe:=o2 bP (cl ao (ac (vr 1) (ac (o2 aH (cn (.int 80)) (vr 0)) (ac (cn (.int 30)) ag)))) (cn (.int 10))) (src:=[none,some 0]) (Z:=[.va (.scr ns),.va (.tup [.tup cs,.tup ls]),.va (eS P),.va (eL L),.va tbl,.em,.em,.em,.em,.em,.em,.em]) (n:=P.length) (yD (j:=(P.length:Nat)) (aq (lenP rfl) rfl) (by omega) (by omega)) hpl (by simp) λk=>by
  obtain⟨r,e,_⟩:=bM ns (80+k) 30 hn (by omega)
  exact⟨r - 10,az (t:=.int r) (u:=.int 10) (bh (ts:=[.scr ns,.int ((80+k:Nat):Int),.int 30]) (aq rfl (aq (az (t:=.int 80) (u:=.int (k:Nat)) rfl rfl rfl) rfl)) e) rfl rfl⟩
 rw[aD (Z':=[.va (.scr ns),.va (.tup [.tup cs,.tup ls]),.va (eS P),.va (eL L),.va tbl,.va (TM τ0),.em,.em,.em,.em,.em,.em]) (cI (bh (aq e5 rfl) my) rfl)]
 obtain⟨τ,hτ,e6⟩:∃τ:List Int,τ.length=P.length/\(fV (mm (tb (o2 cK (vr 4) (cn .non))) (tb (o2 Bm (cl ao (ac (vr 0) (ac (cn (.int 100)) (ac (cn (.int 3)) ag)))) (cn (.int 0))))) (aB (db (cl bJ (ac (vr 0) (ac (cn (.int 80)) (ac (vr 2) (ac (vr 3) (ac (vr 4) ag)))))) (gN 5)) (fV (jz (tb (o2 hZ (cl bt (ac (vr 1) (ac (vr 5) ag))) (dg ag))) (tb (o2 hZ (cl aU (ac (vr 1) (ac (vr 5) ag))) (cn (.bl true))))) (aO (cn (.bl false))) sN)) sN) [.va (.scr ns),.va (.tup [.tup cs,.tup ls]),.va (eS P),.va (eL L),.va tbl,.va (TM τ0),.em,.em,.em,.em,.em,.em] = .ok (.nx [.va (.scr ns),.va (.tup [.tup cs,.tup ls]),.va (eS P),.va (eL L),.va tbl,.va (TM τ),.em,.em,.em,.em,.em,.em]):=by
  rcases ht with⟨n,F,rfl⟩ | ⟨n,rfl⟩
  ·obtain⟨r,e,_⟩:=bM ns 100 3 hn (by omega)
   have c2:tb (o2 Bm (cl ao (ac (vr 0) (ac (cn (.int 100)) (ac (cn (.int 3)) ag)))) (cn (.int 0))) [.va (.scr ns),.va (.tup [.tup cs,.tup ls]),.va (eS P),.va (eL L),.va (cO P (table P L)),.va (TM τ0),.em,.em,.em,.em,.em,.em] = .ok (decide (r > 0)):=cC (az (t:=.int r) (u:=.int 0) (bh (ts:=[.scr ns,.int ((100:Nat):Int),.int 3]) rfl e) rfl rfl)
   have c1:=rf (b:=tb (o2 cK (vr 4) (cn .non))) (Z:=[.va (.scr ns),.va (.tup [.tup cs,.tup ls]),.va (eS P),.va (eL L),.va (cO P (table P L)),.va (TM τ0),.em,.em,.em,.em,.em,.em]) (cC (az (t:=cO P (table P L)) (u:=.non) rfl rfl rfl)) c2
   by_cases hr:r > 0
   ·rw[decide_eq_true hr]at c1
    obtain⟨t,hol,ew⟩:=wA (ns:=ns) hn n F hpl R.nd R.f.ends 80 (eL L)
    have ho:=holds_all.mpr hol;refine⟨P.map t,by rw[List.length_map],(ji c1).trans ?_⟩
    rw[<-zj];refine(aD (Z':=[.va (.scr ns),.va (.tup [.tup cs,.tup ls]),.va (eS P),.va (eL L),.va (cO P (table P L)),.va (jX P t),.em,.em,.em,.em,.em,.em]) (cI (bh (ts:=[.scr ns,.int ((80:Nat):Int),eS P,eL L,cO P (table P L)]) rfl ew) rfl)).trans ?_
    have bn:qA t L= []:=by unfold qA;rw[(ku t L 0).mpr ho];rfl
    exact(f8 (qc (cC (az (t:=.lst []) (u:=.lst []) (bh (ts:=[(.tup [.tup cs,.tup ls]),jX P t]) rfl (by rw[R.broken,bn])) (gR rfl (ax (k:=1) (by simp))) (r9 λu hu=>by cases hu))) (cC (az (t:=.bl true) (u:=.bl true) (bh (ts:=[(.tup [.tup cs,.tup ls]),jX P t]) rfl (by rw[R.isw,ho])) rfl (vK true))))).trans rfl
   ·rw[decide_eq_false hr]at c1
    exact⟨τ0,hτ0,(f8 c1).trans rfl⟩
  ·exact⟨τ0,hτ0,(f8 (wa (cC (az (t:=.non) (u:=.non) rfl rfl rfl)))).trans rfl⟩
 rw[aD e6];obtain⟨m0,em0,m1,m2⟩:=bM ns 101 (P.length:Int) hn (by omega)
 obtain⟨m,rfl⟩:=Int.eq_ofNat_of_zero_le m1;rw[aD (Z':=[.va (.scr ns),.va (.tup [.tup cs,.tup ls]),.va (eS P),.va (eL L),.va tbl,.va (TM τ),.va (.int (m:Nat)),.em,.em,.em,.em,.em]) (cI (bh (ts:=[.scr ns,.int ((101:Nat):Int),.int (P.length:Nat)]) (aq rfl (aq rfl (aq (lenP rfl) rfl))) em0) rfl)]
 have hm:m<τ.length:=by omega
 obtain⟨r2,e2,_⟩:=bM ns 102 5 hn (by omega)
 have gm:(τ.map T.int)[m]? =some (.int τ[m]):=by rw[List.getElem?_map,List.getElem?_eq_getElem hm];rfl
 have esp:lT (τ.map .int) m (.int (τ[m] +r2 - 2))=TM (τ.take m++ [τ[m] +r2 - 2] ++τ.drop (m+1)):=by
  unfold lT TM;rw[List.map_append,List.map_append,List.map_take,List.map_drop]
  rfl
 have it7:iS (bq (ac (vr 5) (ac (o2 aH (o2 aH (sl (vr 5) pN (pS (vr 6))) (bq (ac (o2 bP (o2 aH (o2 bN (vr 5) (vr 6)) (cl ao (ac (vr 0) (ac (cn (.int 102)) (ac (cn (.int 5)) ag))))) (cn (.int 2))) ag))) (sl (vr 5) (pS (o2 aH (vr 6) (cn (.int 1)))) pN)) ag))) [.va (.scr ns),.va (.tup [.tup cs,.tup ls]),.va (eS P),.va (eL L),.va tbl,.va (TM τ),.va (.int (m:Nat)),.em,.em,.em,.em,.em] = .ok [TM τ,TM (τ.take m++ [τ[m] +r2 - 2] ++τ.drop (m+1))]:=by
  rw[<-esp];exact Bg (cL (aq rfl (aq (uQ (l:=τ.map .int) (m:=m) rfl rfl (az (t:=.int (τ[m] +r2)) (u:=.int 2) (az (t:=.int τ[m]) (u:=.int r2) (t9 (n:=m) (l:=τ.map .int) rfl rfl gm) (bh (ts:=[.scr ns,.int ((102:Nat):Int),.int 5]) rfl e2) rfl) rfl rfl) (by rw[List.length_map];omega)) rfl)) (ax (k:=2) (by simp)))
 have h7:∀u∈ [TM τ,TM (τ.take m++ [τ[m] +r2 - 2] ++τ.drop (m+1))],∃υ:List Int,υ.length=P.length/\u=TM υ:=λu hu=>by
  simp only[List.mem_cons,List.not_mem_nil,or_false]at hu;rcases hu with rfl | rfl
  ·exact⟨τ,hτ,rfl⟩
  ·refine⟨_,?_,rfl⟩
   rw[List.length_append,List.length_append,List.length_take,List.length_drop];simp only[List.length_cons,List.length_nil];omega
 obtain⟨Z',lo,s7,s8,s9,rfl⟩:=tX (g:=gN 7) (F:=W7) (λZ=> ∃s7 s8 s9,Z= [.va (.scr ns),.va (.tup [.tup cs,.tup ls]),.va (eS P),.va (eL L),.va tbl,.va (TM τ),.va (.int (m:Nat)),s7,s8,s9,.em,.em]) (ts:=[TM τ,TM (τ.take m++ [τ[m] +r2 - 2] ++τ.drop (m+1))])
  (λt ht Z hh=>by
   obtain⟨s7,s8,s9,hρ⟩:=hh;subst hρ;obtain⟨υ,hυ,rfl⟩:=h7 t ht;obtain⟨a,b,e⟩:=R.w7 (ns:=ns) tbl hυ (.va (TM τ)) (.va (.int (m:Nat))) s8 s9 .em .em;exact⟨_,_,rfl,e,_,_,_,rfl⟩) (Z:=[.va (.scr ns),.va (.tup [.tup cs,.tup ls]),.va (eS P),.va (eL L),.va tbl,.va (TM τ),.va (.int (m:Nat)),.em,.em,.em,.em,.em]) ⟨_,_,_,rfl⟩
 rw[aD (ei it7 lo)]
 have ll:(τ.map T.int).length<=100:=by rw[List.length_map];omega
 have e8:(dg (ac (cn .non) (ac (o2 aH (vr 5) (bq (ac (cn (.int 0)) ag))) (ac (sl (vr 5) (pS (cn (.int 1))) pN) (ac (cl sh (ac (vr 5) ag)) ag))))) [.va (.scr ns),.va (.tup [.tup cs,.tup ls]),.va (eS P),.va (eL L),.va tbl,.va (TM τ),.va (.int (m:Nat)),s7,s8,s9,.em,.em] = .ok (.lst [.non,.tup (τ.map .int++ [.int 0]),.tup ((τ.map T.int).drop 1),.lst (τ.map .int)]):=
  gR (aq rfl (aq (az (t:=TM τ) (u:=.tup [.int 0]) rfl (cL rfl (ax (k:=1) (by simp))) (kw _ _ (by rw[List.length_append];simp only[List.length_cons,List.length_nil];omega))) (aq (zq (n:=1) (l:=τ.map .int) rfl rfl) (aq (bh (ts:=[TM τ]) rfl rfl) rfl)))) (ax (k:=4) (by simp))
 rw[aD (Z':=[.va (.scr ns),.va (.tup [.tup cs,.tup ls]),.va (eS P),.va (eL L),.va tbl,.va (TM τ),.va (.int (m:Nat)),s7,s8,s9,.va (.lst [.non,.tup (τ.map .int++ [.int 0]),.tup ((τ.map T.int).drop 1),.lst (τ.map .int)]),.em]) (cI e8 rfl)]
 have lc9:(eh (iS (bq (ac (cn (.bl true)) (ac (cn .non) ag)))) [none,some 5,some 6] (gN 0) bT (o2 aH (o2 aH (sl (vr 1) pN (pS (vr 2))) (bq (ac (vr 0) ag))) (sl (vr 1) (pS (o2 aH (vr 2) (cn (.int 1)))) pN))) [.va (.scr ns),.va (.tup [.tup cs,.tup ls]),.va (eS P),.va (eL L),.va tbl,.va (TM τ),.va (.int (m:Nat)),s7,s8,s9,.va (.lst [.non,.tup (τ.map .int++ [.int 0]),.tup ((τ.map T.int).drop 1),.lst (τ.map .int)]),.em] = .ok (.lst [lT (τ.map .int) m (.bl true),lT (τ.map .int) m .non]):=
  qe (ts:=[.bl true,.non]) (h:=λu=>lT (τ.map .int) m u) (Bg (cL rfl (ax (k:=2) (by simp)))) (ax (k:=2) (by simp)) (by simp) λu hu=>uQ (l:=τ.map .int) (m:=m) (a:=vr 1) (b:=vr 2) (c:=vr 0) rfl rfl rfl ll
 rw[aD (Z':=[.va (.scr ns),.va (.tup [.tup cs,.tup ls]),.va (eS P),.va (eL L),.va tbl,.va (TM τ),.va (.int (m:Nat)),s7,s8,s9,.va (.lst (nZ τ m)),.em]) (cI (az rfl lc9 (oF _ _ (by simp))) rfl)]
 obtain⟨r3,e3,r30,r31⟩:=bM ns 103 6 hn (by omega)
 obtain⟨th,hth,eth⟩:=x8 (l:=nZ τ m) r30 r31;obtain⟨pth,nth⟩:=AZ (τ:=τ) (m:=m) (by omega) th hth
 rw[hτ]at nth;rw[aD (Z':=[.va (.scr ns),.va (.tup [.tup cs,.tup ls]),.va (eS P),.va (eL L),.va tbl,.va (TM τ),.va (.int (m:Nat)),s7,s8,s9,.va (.lst (nZ τ m)),.va th]) (cI (az (t:=.lst (nZ τ m)) (u:=.int r3) rfl (bh (ts:=[.scr ns,.int ((103:Nat):Int),.int 6]) rfl e3) eth) rfl)]
 have lc11:eh (iR (ac (cn (.int 2)) ag)) [none,some 1,some 11] (gN 0) bT (cl bV (ac (vr 0) (ac (vr 1) (ac (vr 2) ag)))) [.va (.scr ns),.va (.tup [.tup cs,.tup ls]),.va (eS P),.va (eL L),.va tbl,.va (TM τ),.va (.int (m:Nat)),s7,s8,s9,.va (.lst (nZ τ m)),.va th] = .ok (.lst ((rng 0 2).map λ_=> .bl false)):=
  qe (ts:=rng 0 2) (yD (j:=2) rfl (by omega) (by omega)) (ax rng2 (by omega)) (by simp) λt ht=>by
   obtain⟨k,rfl,hk⟩:=hV ht;refine bh (ts:=[.int (k:Nat),(.tup [.tup cs,.tup ls]),th]) rfl ?_
   match k,hk with
   | 0,_=>exact rM (g:=aR) rfl (by rw[R.aret pth,nth])
   | 1,_=>exact rM (g:=aU) rfl (R.isw0 pth nth)
   | k+2,h=>exact absurd h (by omega)
 rw[aD (Z':=[.va (.scr ns),.va (.tup [.tup cs,.tup ls]),.va (eS P),.va (eL L),.va tbl,.va (TM τ),.va (.int (m:Nat)),s7,s8,s9,.va (.lst (nZ τ m)),.va th]) ((f8 (cC (az (t:=.lst [.bl false,.bl false]) (u:=.lst [.bl false,.bl false]) lc11 (gR rfl (ax (k:=2) (by simp))) (n6 rfl (by simp[T.dep,deps]))))).trans rfl)]
 have hp1:(T.tup [.tup cs]).pl=true:=by rw[gM];simp[plS,R.g.parts.1]
 have lc5:eh (iR (ac (cn (.int 3)) ag)) [none,some 1,some 11] (gN 0) bT (cl bV (ac (vr 0) (ac (sl (vr 1) pN (pS (cn (.int 1)))) (ac (vr 2) ag)))) [.va (.scr ns),.va (.tup [.tup cs,.tup ls]),.va (eS P),.va (eL L),.va tbl,.va (TM τ),.va (.int (m:Nat)),s7,s8,s9,.va (.lst (nZ τ m)),.va th] = .ok (.lst ((rng 0 3).map λ_=>fM 0)):=
  qe (ts:=rng 0 3) (yD (j:=3) rfl (by omega) (by omega)) (ax rng3 (by omega)) (by simp) λt ht=>by
   obtain⟨k,rfl,hk⟩:=hV ht;exact bh (ts:=[.int (k:Nat),.tup [.tup cs],th]) (aq rfl (aq (by rw[Bf (l:=[.tup cs,.tup ls]) (lo:=none) (hi:=some ((1:Nat):Int)) rfl rfl rfl,qw];rfl) rfl)) (yY hp1 rfl (by omega))
 exact eQ (az (t:=.lst (List.replicate 3 (fM 0))) (u:=.lst (List.replicate 3 (fM 0))) lc5 (az (t:=.lst [fM 0]) (u:=.int 3) (gR (aq (p2 rfl rfl) rfl) (ax (k:=1) (by simp))) rfl (mul3 0)) (eq3 0))
end
end G
end
lay_quick G.lhs G.rhs
name_quick lhsz for G.lhs by G.lhs_r
name_quick rhsz for G.rhs by G.rhs_r
open PySem PySem.W PyProof.Rows
set_option maxRecDepth 100000 in
set_option maxHeartbeats 0 in
theorem G.left1 (w : World) (os : OsState) : PySem.W.Fast.lhsz w (boot_heap w.params) boot_drawn boot_toks os = PySem.W.Fast.rhsz w := by kernel_rfl
set_option maxRecDepth 100000 in
set_option maxHeartbeats 0 in
theorem PySem.Challenge.cw_farclocks_k11_times_holds : PySem.Challenge.rw_farclocks_k11_times.Holds := by
  w_on; o_law
  refine holds_open (q := G.vw) (loose := G.lse) (Xt := λ_ => true) (XP := λ_ _ => True) (Yf := (Tr.hookK G.asks G.top).obs) (Ya := (Tr.hookK G.asks G.top).val) (YP := (Tr.hookK G.asks G.top).says) (N := 9000) (Tr.left_of (by rfl) (by rfl) (λ_ => rfl) λw os => ?hl) (Tr.hookK G.asks G.top).of (Tr.hookK G.asks G.top).keeps (λ_ _ => trivial) (λ_ _ _ _ _ => trivial) (by rfl) (by rfl) (by rfl) (λs _ => recFacts_of (s := s) rfl) (by rfl) (by assumption) (by decide +kernel) ⟨rfl, rfl, rfl, rfl, rfl, by decide +kernel⟩ ?hw ?hc
  case hl => exact ((congrFun (congrFun (congrFun (congrFun (congrFun PySem.W.Fast.lhsz_eq w) _) _) _) os).trans (G.left1 w os)).trans (congrFun PySem.W.Fast.rhsz_eq w).symm
  case hw => w_witness2
  case hc => exact Tr.walk_k (n := 63) (k := 12) (x := "_law_script") (CX := L2.CX0) (sp := λK => Tr.spP K 1 G.m_law) rfl (by decide) rfl ⟨rfl, by decide, by decide⟩ (λw K mg fa h X e g hf => G.all_ok X e g hf) (λK H a ns hl _ hS => Tr.sp_script hS (G.pure_law ns hl)) λ_ _ _ _ z => z
